import PyProof.Rows.All
import Wide.All
import OpenK.AllK
import Wide.FinOn
import Lean
import PyProof.EqAt
import PyProof.EqKinds
import PyProof.TupleCall
import KE.KSortTup
import PyProof.ZipIter
import KE.KMinKey
import KE.KRevSl
import PyProof.Rows.EnumRows
import PyProof.EnumStmt
import PyProof.ListRange
import KE.KIntText
import PySem.Challenge.RW_oneslate_k36_over_and_on
set_option Elab.async false
set_option linter.all false
set_option maxRecDepth 100000
set_option bootstrap.genMatcherCode false
set_option compiler.extract_closed false
open Array renaming length_toList->ak1,getElem?_eq_some_iff->al8,getElem?_toList->aoJ
open Bool renaming false_ne_true->akp,and_eq_true->akD,eq_false_iff->alB,eq_iff_iff->alD,false_eq_true->amX
open False renaming elim->akI
open ForInStep renaming yield->anw
open Int renaming le_refl->alx,emod_lt_of_pos->anM,fdiv_eq_ediv_of_nonneg->anS,toNat_natCast->an0,emod_nonneg->aoz
open List renaming length_map->akc,getElem?_eq_some_iff->ake,length_append->akh,mem_cons_of_mem->aki,mem_cons_self->akj,map_cons->akm,mem_cons->akq,size_toArray->aks,mem_singleton->akt,getElem?_set_ne->aku,length_cons->akx,getElem?_append_right->aky,replicate->akA,getElem?_eq_getElem->akB,getElem?_map->akC,getElem?_append_left->akE,mem_append_right->akH,mem_map->akM,mem_append->akO,map_append->akP,mem_of_getElem?->akQ,lookup_cons->akU,range->akV,find?_cons_of_neg->ak3,append_nil->ak5,not_mem_nil->ak6,getElem?_set_self->ak7,nodup_cons->ak8,contains_iff_mem->ak9,getD_eq_getElem?_getD->alb,mem_append_left->ale,find?_cons_of_pos->alf,mem_range->alg,length_set->ali,length_replicate->alk,mem_filter->aln,forall_mem_cons->alo,length_drop->alp,all_eq_true->alq,length_nil->alw,length->alF,lookup->alI,any_cons->alT,getElem?_replicate->alU,pairwise_cons->al2,map_map->al3,length_filter_le->al6,append_assoc->al9,length_take->amf,mem_map_of_mem->amg,eq_nil_of_length_eq_zero->amv,nodup_append->amy,length_singleton->amA,toArray->amB,getElem?_toArray->amC,all_cons->amI,map_eq_nil_iff->amO,of_mem_zip->amQ,getElem?_zip_eq_some->amS,zip_cons_cons->amY,nodup_nil->am2,take_add_one->am5,take_of_length_le->ana,map_fst_zip->anj,length_zip->anx,filterMap_cons->anA,filter_eq_self->anB,prefix_append->anN,find?_eq_none->anO,pairwise_map->an2,pairwise_iff_getElem->aob,mem_of_find?_eq_some->aoc,prefix_refl->aol,any_eq_true->aon,length_eq_zero_iff->aot,filter_cons_of_neg->aou,filter_cons_of_pos->aov,drop->aoy,drop_eq_nil_of_le->aoF,length_pos_of_mem->aoG,filter_eq_nil_iff->aoH,take_nil->aoP
open List.Nodup renaming length_le_of_subset->anz
open List.Pairwise renaming nil->an1
open Nat renaming le_refl->akf,le_of_ble_eq_true->ako,ne_of_lt->akv,zero_le->akG,lt_of_lt_of_le->akJ,lt_irrefl->ak0,le_trans->alc,le_of_lt->alj,le_of_eq->alE,sub_self->al1,not_lt_zero->amn,lt_succ_of_lt->amx,lt_succ_self->amE,le_add_right->amH,le_succ->am7,ne_of_gt->aoh,zero_add->aok
open Ne renaming symm->alQ
open Option renaming map_eq_some_iff->amt,bind_eq_some_iff->am4
open Option.some renaming inj->akF
open Or renaming inr->akX,inl->alW
open PyProof.Rows renaming envOfC->akK,seqObj->ald,slot_tuple_getitem->alm,KeyOrd->alH,get?_update_seq->al5,IntsAre->amc,listUpdate_at->amj,callWith_type1->amD,AllBare->amL,envOfC->amW,seqEpoch_at->anF,KeyKind->aoL,strKind->aoM,gt_int->aoQ
open PySem renaming wpAny_bind->aka,Shared->akd,sizeLine->akg,wpAny_pure->akn,Program->akr,Around->akw,mainGlobals->akN,sizeLine_eq->akS,starEach->akT,wpAny_mono->akW,bootBuiltins->akY,compareOp->ak2,assignEach->ak4,FuncData->ala,swapsWith->alr,wpAny_truthy_bool->alA,mem_of_lookup->alC,wpAny_field->alG,sysModules->alK,attributeBase->alL,wpAny_holding->alM,rawInt->alN,wpAny_Call_Name_kw->alO,binaryOp->alP,wpAny_pyIter_list->alR,behindInMarks->alS,sliceBounds->alZ,backTo->al0,wpAny_seqItems->amd,codeAny_mono->ame,wpAny_callSpecial?_slot->ami,wpAny_pyIter_tuple->amk,wpAny_setField_rec->amm,keywordEach->amo,NameKind->amr,wpAny_newObj_type->amw,bindArgs->amF,codeAny->amM,wpAny_letGo->amN,wpAny_passesOwn->amP,getItem->am0,Keyword->am1,wpAny_setField->am3,Paired->am6,wpAny_newList->anf,strKind->ang,backToKw->anh,wpAny_call_entry->ani,PassesOwn->anm,DictEntry->ano,letOwnedTupleGo->ans,IsPart->anv,wpAny_tryCatch->anE,tupleKind->anH,Arguments->anI,tupleKind_room_in1->anJ,codeAmong->anK,IsPair->anP,plainId_quiet->anW,ExceptHandler->anY,builtinsNs->an4,wpAny_call->an6,closureFor->an8,wpAny_rule->aoa,callerA->aof,wpAny_execs_cons->aog,wpAny_execs_nil->aow,TriplesOk->aox,wpAny_updateSeq->aoA,noteFrame->aoB,subscripted->aoD
open PySem.BindsTo renaming of_defaults->aoR
open PySem.Builtin renaming bitNot->alz,bitAnd->amz,bitOr->anc
open PySem.Builtin.Int renaming intBits->als
open PySem.Builtin.List renaming listTooLong->aoj
open PySem.Builtin.Slice renaming slicePlaces->amb,sliceAdjust->amR,sliceApplied->anT
open PySem.Builtin.Str renaming occurrences->amh
open PySem.Builtin.Tuple renaming tupleItemsOf->anU
open PySem.Calls renaming callWith_builtin->ams,evalArgs_plain->amG,spliced_cons->amV,Name_function_global->anR,spliced_nil->anZ
open PySem.F renaming slot_dict_get->al4,plain_max_loop->amu,entry_dict_get->am8,slot_tuple_iterator_next->anV,slot_dict_getitem->an7,slot_list_append->aoo,type_list_append->aop,args_dict_get_3->aoq,plainAttrs_dict->aor,plainAttrs_list->aos,entry_max_loop->aoE,type_dict_get->aoI
open PySem.Heap renaming get?_push_of_some->akb,get?_push_size->akk,lt_size->akl,get?_update_other->alJ,size_push->alY,get?_push_ne->ama,size_update->ank,get?_update_self->anp,SameBut->anr,IsTuple->aom
open PySem.Heap.IsTuple renaming push->aoW
open PySem.Heap.SameBut renaming update->alu
open PySem.NameKind renaming free->ane,cell->aoO
open PySem.Obj renaming mapSeq->akL,data_mapFields->aml,mapFields->amJ,isFreed_of_fields->anq
open PySem.Paired renaming length->aoN
open PySem.PassesOwn renaming never->amT
open PySem.PyData renaming strOk->akz,eqv->aoK
open PySem.SeqAt renaming shaped->aoV
open PySem.SeqAt.EqAt renaming int_str->aoS,str_int->aoT,int_int->aoU
open PySem.Shared renaming heap->anb
open PySem.Str renaming ofString->akR
open PySem.Value renaming ref->akZ,isStrOf->alh,none->alv,type->amZ,int->anl,str->anG,bool->an3
open PySem.W renaming fnOf->alV,keepIn->alX,findIn->al7,emptyDict->amq,mg_of->amK,instObj->amU,nsIn->am9,methodCall_KW->ant,callWith_K->anu,codeIn->anC,mg_of->anD,kia_one->anL,kia_tup->anQ,plainGet->an5,cellsFrom_some->aoi,hasDictIn->aoC
open PySem.Walks renaming list->an9
open Sum renaming inl->aod,inr->aoe
open True renaming intro->aly
abbrev T0:List PySem.Str:=["slate","asker","deed"]
abbrev W1:List PySem.Str:=["self"]
abbrev P3:List PySem.Str:=["thing"]
abbrev v4:List PySem.Str:=["self","letter"]
abbrev v6:List PySem.Str:=["slate"]
abbrev u8:List PySem.Str:=["asker","keeper","epoch","stamp","load"]
abbrev aP:=PySem.W.Frag
abbrev ba:=PySem.Str->Option PySem.Value
abbrev cZ:=PySem.Value->PySem.Shared->Prop
abbrev c0:=List (PySem.Addr×PySem.Obj)
noncomputable section
def bR{p:Prop}:(¬p->False)->p:=Classical.byContradiction
namespace aB
open PySem PySem.Spec PyProof.Rows
abbrev Key:=Sum Int Str
def um:Key->Value->Bool
 |.inl k,v=>Value.isInt k v|.inr x,v=>alh x v
def Z6(w:World):Key->Int
 |.inl k=>hashInt k|.inr x=>hashStr w x
def pd:∀{k:Key}{v:Value},um k v=true->(∃i t,k=aod i/\v=anl i t)\/(∃x t,k=aoe x/\v=anG x t)
 |.inl i,v,h=>by
  obtain⟨t,e⟩:=Value.isInt_shape (k:=i) (v:=v) h;exact .inl ⟨i,t,rfl,e⟩
 |.inr x,v,h=>by
  obtain⟨t,e⟩:=Value.isStrOf_shape (x:=x) (v:=v) h;exact .inr ⟨x,t,rfl,e⟩
def Z8(i:Int)(t:Tok):um (.inl i) (.int i t)=true:=by simp[um,Value.isInt]
def Z9(x:Str)(t:Tok):um (.inr x) (.str x t)=true:=by simp[um,alh]
def Z_(a b:Int):decide ((aod a:Key)=aod b)=(a==b):=by
 by_cases e:a=b
 .subst e;simp
 .have h:¬(aod a:Key)=aod b:=λq=>e (Sum.inl.inj q)
  rw[decide_eq_false h];exact(beq_eq_false_iff_ne.mpr e).symm
def aab(a b:Str):decide ((aoe a:Key)=aoe b)=decide (a=b):=by
 by_cases e:a=b
 .simp
 .have h:¬(aoe a:Key)=aoe b:=λq=>e (Sum.inr.inj q)
  rw[decide_eq_false h,decide_eq_false e]
def Z'(a:Int)(b:Str):decide ((aod a:Key)=aoe b)=false:=decide_eq_false (λq=>nomatch q)
def aaa(a:Str)(b:Int):decide ((aoe a:Key)=aod b)=false:=decide_eq_false (λq=>nomatch q)
def js(prog:akr)(w:World):KeyKind prog w Key where
 is:=um
 hash:=Z6 w
 inj:=λv a b f d=>by
  rcases pd f with⟨i,t,rfl,rfl⟩|⟨x,t,rfl,rfl⟩
  .rcases pd d with⟨j,u,rfl,e⟩|⟨y,u,rfl,e⟩
   .injection e with aq _;rw[aq]
   .exact nomatch e
  .rcases pd d with⟨j,u,rfl,e⟩|⟨y,u,rfl,e⟩
   .exact nomatch e
   .injection e with aq _;rw[aq]
 byValue:=λk v h=>by
  rcases pd h with⟨i,t,rfl,rfl⟩|⟨x,t,rfl,rfl⟩<;>rfl
 pyHash:=λc h=>by
  rcases pd c with⟨i,t,rfl,rfl⟩|⟨x,t,rfl,rfl⟩
  .exact wpAny_pyHash_int h
  .exact wpAny_pyHash_str h
 eqBool:=λg c h=>by
  rcases pd g with⟨i,t,rfl,rfl⟩|⟨x,t,rfl,rfl⟩
  .rcases pd c with⟨j,u,rfl,rfl⟩|⟨y,u,rfl,rfl⟩
   .rw[Z_]at h;exact wpAny_eqBool_int h
   .rw[Z']at h;exact aoS i t y u _ _ _ _ h
  .rcases pd c with⟨j,u,rfl,rfl⟩|⟨y,u,rfl,rfl⟩
   .rw[aaa]at h;exact aoT x t j u _ _ _ _ h
   .rw[aab]at h;exact wpAny_eqBool_str h
 «strs»:=λk x t v h=>by
  rcases pd h with⟨i,u,rfl,e⟩|⟨y,u,rfl,e⟩
  .exact nomatch e
  .injection e with aq _
   subst aq;cases v<;>rfl
def aa0(prog:akr)(w:World)(i:Int)(t:Tok):(js prog w).is (.inl i) (.int i t)=true:=Z8 i t
def aa1(prog:akr)(w:World)(x:Str)(t:Tok):(js prog w).is (.inr x) (.str x t)=true:=Z9 x t
inductive V where
 |ay|az (b:Bool)|int (i:Int)|str (x:Str)|zl (b:Array UInt8)|zO (b:UInt64)|ref (a:Addr)|ty (n:String)
 deriving DecidableEq
def RelV:V->Value->Prop
 |.ay,u=>u=alv|.az b,u=>u=an3 b|.int i,u=>∃t,u=anl i t|.str x,u=>∃t,u=anG x t|.zl b,u=>∃t,u=Value.bytes b t|.zO b,u=>∃t,u=Value.float b t|.ref a,u=>u=akZ a|.ty n,u=>u=amZ n
abbrev Vals:List V->List Value->Prop:=am6 RelV
def Vals.length{xs:List V}{us:List Value}(r:Vals xs us):xs.length=us.length:=aoN r
theorem Vals.get:∀{xs:List V}{us:List Value}{i:Nat}{x:V},Vals xs us->xs[i]? = some x->∃u,us[i]? = some u/\RelV x u
 |_,_,_,_,.nil,e=>by simp at e| _,_,0,_,.cons r _,e=>by simp at e;subst e;exact⟨_,rfl,r⟩|_,_,i+1,x,.cons _ t,e=>by
  obtain⟨u,a,b⟩:=Vals.get t e;exact⟨u,by simpa using a,b⟩
theorem Vals.append:∀{xs b:List V}{us a:List Value},Vals xs us->Vals b a->Vals (xs++b) (us++a)
 |_,_,_,_,.nil,s=>s|_,_,_,_,.cons r t,s=>.cons r (Vals.append t s)
theorem Vals.take:∀{xs:List V}{us:List Value}(n:Nat),Vals xs us->Vals (xs.take n) (us.take n)
 |_,_,0,_=>.nil|_,_,_+1,.nil=>.nil|_,_,n+1,.cons r t=>.cons r (Vals.take n t)
theorem Vals.drop:∀{xs:List V}{us:List Value}(n:Nat),Vals xs us->Vals (xs.drop n) (us.drop n)
 |_,_,0,r=>r|_,_,_+1,.nil=>.nil|_,_,n+1,.cons _ t=>Vals.drop n t
def iR:Option V->Option Value->Prop
 |some v,some u=>RelV v u|none,none=>True|_,_=>False
def ht{κ:Type}:List (κ×V)->List (κ×Value)->Prop:=am6 λ(p:κ×V) (q:κ×Value)=>p.1=q.1/\RelV p.2 q.2
def cX:Key->V
 |.inl i=>.int i|.inr x=>.str x
inductive g_ where
 |l (xs:List V)
 |t (xs:List V)
 |gu (aD:List (Key×V))|h8 (aD:List (List Key×V))
 |set (S:Int->Bool) (n:Nat)
 |ins (C cx:Addr) (fs:List (Str×V))
 |own (x:Addr)
 |BQ (fs:List (Str×V))
 |met (f x:Addr)
 |u_ (lo hi:Int)
 |cm (o:Obj) (u:g_)
 |gE (ps:Array Value)
 |ext (pW:Heap->Prop)
abbrev au:=Addr->Option g_
def upd(H:au)(a:Addr)(o:g_):au:=λb=>if b=a then some o else H b
def dU:upd H a o a=some o:=by unfold upd;rw[if_pos rfl]
def du{H:au}(h:b≠a):upd H a o b=H b:=by unfold upd;rw[if_neg h]
def afm:upd (upd H a o) a u=upd H a u:=by
 funext b;unfold upd;split<;>rfl
def FR{H:au}(h:H a=some o)(c:H b=some u)(d:o≠u):a≠b:=by
 intro e;subst e;rw[h]at c;exact d (akF c)
def kM{H:au}(h:H a=some o)(c:H b=none):a≠b:=by
 intro e;subst e;rw[h]at c;cases c
section
variable(P:akr)(w:World)
def gG(H:au)(h:Heap)(a:Addr):g_->Prop
 |.l xs=>xs.length<=akg/\∃(b:List Value)(n:Nat),Vals xs b/\h.get? a=some { cls:=.type "list",data:=.seq b.toArray n }|.t xs=>xs.length<=akg/\∃b:List Value,Vals xs b/\IsTup h a b.toArray|.gu d=>d.length<=akg/\(a==alK)=false/\∃vs,ht d vs/\h.DictOf (js P w) a vs|.h8 d=>d.length<=akg/\(a==alK)=false/\∃xs:List (List Key×Addr×Value),
   am6 (λ(p:List Key×V) (q:List Key×Addr×Value)=>p.1=q.1/\H q.2.1=some (.t (p.1.map cX))/\RelV p.2 q.2.2) d xs/\
   ∃o k cD,h.get? a=some o/\o.ExactDict/\o.data=.dict k cD/\k.toList=xs.map (entryOfKey (anH (js P w)))/\(xs.map (·.1)).Nodup
 |.set S n=>h.SetOf (intKind P w) a S n|.ins C e fs=>H e=some (.own a)/\fs.length<=1000/\e≠a/\h.get? a=some (amU C e)/\
   ∃c,h.Ns1 e c/\(∀f,iR (fs.lookup f) (c f))/\Within c (fs.map (·.1))
 |.own _=>∃o,h.get? a=some o|.BQ fs=>∃c,h.Ns1 a c/\∀f,iR (fs.lookup f) (c f)|.u_ r m=>∃t u v,h.get? a=some { cls:=.type "range",data:=.fields #[.int r t,.int m u,.int 1 v] }|.cm o u=>h.get? a=some o/\gG H h a u|.gE ps=>h.get? a=some { cls:=.none,data:=.fields ps }|.met f x=>h.get? a=some (W.methodObj (.ref f) (.ref x))|.ext g=>g h/\(∃o,h.get? a=some o)/\∀i j:Heap,g i->(∀o,i.get? a=some o->j.get? a=some o)->g j
def fm(H:au)(h:Heap):Prop:=∀a o,H a=some o->gG P w H h a o
end
section
variable{P:akr}{w:World}{H H':au}{h h':Heap}{a:Addr}{o:g_}
def gG.lt(x:gG P w H h a o):a<h.objs.size:=by
 cases o with
 |l xs=>obtain⟨_,_,_,_,e⟩:=x;exact akl e
 |t xs=>obtain⟨_,_,_,p⟩:=x;exact p.lt
 |gu b=>obtain⟨_,_,_,_,o,_,_,e,_⟩:=x;exact akl e
 |h8 b=>obtain⟨_,_,_,_,o,_,_,e,_⟩:=x;exact akl e
 |set S n=>obtain⟨o,_,_,_,e,_⟩:=x;exact akl e
 |ins C c fs=>obtain⟨_,_,_,e,_⟩:=x;exact akl e
 |own y=>obtain⟨_,e⟩:=x;exact akl e
 |BQ fs=>obtain⟨_,⟨_,_,_,e,_⟩,_⟩:=x;exact akl e
 |u_ g d=>obtain⟨_,_,_,e⟩:=x;exact akl e
 |cm bD u=>obtain⟨e,_⟩:=x;exact akl e
 |gE ps=>exact akl (show h.get? a=some _ from x)|met f y=>exact akl (show h.get? a=some _ from x)|ext i=>obtain⟨_,⟨_,e⟩,_⟩:=x;exact akl e
theorem am6.FF{α d:Type}{F G:α->d->Prop}:∀{c:List α}{l₂:List d},am6 F c l₂->(∀a b,F a b->G a b)->am6 G c l₂
 |_,_,.nil,_=>.nil|_,_,.cons r t,f=>.cons (f _ _ r) (am6.FF t f)
def gG.rd(x:gG P w H h a o)(k:∀b u,(b=a\/H b=some (.own a))->h.get? b=some u->h'.get? b=some u)
  (D:∀b,H b=some (.own a)->H' b=some (.own a)) (B:∀b xs,H b=some (.t xs)->H' b=some (.t xs)):gG P w H' h' a o:=by
 induction o with
 |l xs=>obtain⟨z,i,n,r,e⟩:=x;exact⟨z,i,n,r,k _ _ (.inl rfl) e⟩
 |t xs=>obtain⟨z,i,r,bD,e,c⟩:=x;exact⟨z,i,r,bD,k _ _ (.inl rfl) e,c⟩
 |gu A=>obtain⟨z,y,vs,r,bD,g,cD,e,c⟩:=x;exact⟨z,y,vs,r,bD,g,cD,k _ _ (.inl rfl) e,c⟩
 |h8 A=>
  obtain⟨z,y,xs,r,bD,g,cD,e,c⟩:=x;exact⟨z,y,xs,am6.FF r λp q z=>⟨z.1,B _ _ z.2.1,z.2.2⟩,bD,g,cD,k _ _ (.inl rfl) e,c⟩
 |set S n=>obtain⟨bD,g,cD,t,e,c⟩:=x;exact⟨bD,g,cD,t,k _ _ (.inl rfl) e,c⟩
 |ins C E fs=>
  obtain⟨d,z,ne,e,j,⟨m,g,cD,aC,c⟩,r⟩:=x;exact⟨D _ d,z,ne,k _ _ (.inl rfl) e,j,⟨m,g,cD,k _ _ (.inr d) aC,c⟩,r⟩
 |own y=>obtain⟨bD,e⟩:=x;exact⟨bD,k _ _ (.inl rfl) e⟩
 |BQ fs=>obtain⟨j,⟨m,g,cD,e,c⟩,r⟩:=x;exact⟨j,⟨m,g,cD,k _ _ (.inl rfl) e,c⟩,r⟩
 |u_ G F=>obtain⟨t,u,v,e⟩:=x;exact⟨t,u,v,k _ _ (.inl rfl) e⟩
 |cm bD u s=>obtain⟨e,q⟩:=x;exact⟨k _ _ (.inl rfl) e,s q⟩
 |gE ps=>
  have e:=x;exact k a _ (.inl rfl) e
 |met f y=>
  have e:=x;exact k a _ (.inl rfl) e
 |ext J=>obtain⟨p,⟨o,e⟩,st⟩:=x;exact⟨st _ _ p λo q=>k _ _ (.inl rfl) q,⟨o,k _ _ (.inl rfl) e⟩,st⟩
def fm.lt(x:fm P w H h)(e:H a=some o):a<h.objs.size:=(x a o e).lt
def fm.fresh(x:fm P w H h)(e:h.objs.size<=a):H a=none:=by
 cases q:H a with
 |none=>rfl|some u=>exact absurd (akJ (x.lt q) e) (ak0 _)
theorem fm.kept(x:fm P w H h)(k:∀b u,h.get? b=some u->h'.get? b=some u):fm P w H h':=λa o e=>
 (x a o e).rd (λb u _ q=>k b u q) (λ_ q=>q) λ_ _ q=>q
def fm.laid(x:fm P w H h)(k:∀b u,h.get? b=some u->h'.get? b=some u)(g:h.objs.size<=a)(new:gG P w (upd H a o) h' a o):fm P w (upd H a o) h':=λb u e=>by
 have d:=x.fresh g
 by_cases f:b=a
 .subst f;rw[dU]at e;cases e;exact new
 .rw[du f]at e
  exact(x b u e).rd (λc v _ q=>k c v q) (λc q=>by rw[du (kM q d)];exact q) λc xs q=>by rw[du (kM q d)];exact q
end
def gq(H:au)(a:Addr)(u:g_):Prop:=H a=some u\/∃o,H a=some (.cm o u)
def gq.ok(r:gq H a u)(x:fm P w H h):gG P w H h a u:=by
 rcases r with r|⟨o,r⟩
 .exact x a u r
 .obtain⟨_,q⟩:=x a _ r
  exact q
def vM:Option g_->Prop
 |some (.l _)=>True|some (.gu _)=>True|some (.h8 _)=>True|some (.set _ _)=>True|some (.ins _ _ _)=>True|some (.ext _)=>True|_=>False
section
variable{P:akr}{w:World}{H:au}{h h':Heap}{x e:Addr}{dT:g_}
def fm.write(ok:fm P w H h)(f:vM (H x))(he:e=x\/H e=some (.own x))(k:∀b u,b≠e->h.get? b=some u->h'.get? b=some u)(n:∃u,h'.get? e=some u)
  (new:gG P w (upd H x dT) h' x dT):fm P w (upd H x dT) h':=λb u q=>by
 have j:∀c y,H c=some (.own y)->c≠x:=λc y r z=>by subst z;rw[r]at f;exact f
 have i:∀c xs,H c=some (.t xs)->c≠x:=λc xs r z=>by subst z;rw[r]at f;exact f
 by_cases a:b=x
 .subst a;rw[dU]at q;cases q;exact new
 .rw[du a]at q
  by_cases g:b=e
  .have l:H b=some (.own x):=by
    rcases he with z|z
    .exact absurd (g.trans z) a
    .rw[g];exact z
   rw[q]at l;cases l;obtain⟨v,m⟩:=n;exact⟨v,by rw[g];exact m⟩
  .refine(ok b u q).rd (λc v d r=>k c v ?_ r) (λc r=>by rw[du (j c b r)];exact r) λc xs r=>by rw[du (i c xs r)];exact r
   rcases d with rfl|d
   .exact g
   .rintro rfl
    rcases he with z|z
    .exact j c b d z
    .rw[d]at z;cases z;exact a rfl
end
structure gI(fs ex:List Addr)(H H':au)(h h':Heap):Prop where
 keep:∀b o,h.get? b=some o->H b=none->b∉fs->b∉ex->h'.get? b=some o
 slot:∀b o,h.get? b=some o->H b=none->b∈fs->b∉ex->∃da,h'.get? b=some { o with slots:=da }
 free:∀b o,h.get? b=some o->H b=none->b∉ex->H' b=none
 there:∀b o,h.get? b=some o->b∉ex->∃dT,h'.get? b=some dT
 pL:∀b xs,H b=some (.t xs)->H' b=some (.t xs)
 n0:∀b o u,H b=some (.cm o u)->H' b=some (.cm o u)
 ox:∀b ps,H b=some (.gE ps)->∃more,H' b=some (.gE (ps++more))
section
variable{fs ex:List Addr}{H H1:au}{h af h':Heap}{a x e:Addr}{o:g_}
def gI.any(u:gI fs ex H H1 h af)(q:h.get? b=some bD)(n:H b=none)(d:b∉ex):∃da,af.get? b=some { bD with slots:=da }:=by
 by_cases c:b∈fs
 .exact u.slot b bD q n c d
 .exact⟨bD.slots,u.keep b bD q n c d⟩
def gI.kept(k:∀b u,h.get? b=some u->h'.get? b=some u):gI fs ex H H h h':=
 ⟨λb bD q _ _ _=>k b bD q,λb bD q _ _ _=>⟨bD.slots,k b bD q⟩,λ_ _ _ n _=>n,λb bD q _=>⟨bD,k b bD q⟩,λ_ _ q=>q,λ_ _ _ q=>q,λ_ ps q=>⟨#[],by rw[q];simp⟩⟩
def gI.refl:gI fs ex H H h h:=gI.kept λ_ _ q=>q
def gI.laid(k:∀b u,h.get? b=some u->h'.get? b=some u)(d:h.objs.size<=a)(c:H a=none):gI fs ex H (upd H a o) h h' where
 keep:=λb u q _ _ _=>k b u q
 slot:=λb u q _ _ _=>⟨u.slots,k b u q⟩
 free:=λb u q n _=>by rw[du (akv (akJ (akl q) d))];exact n
 there:=λb u q _=>⟨u,k b u q⟩
 pL:=λb xs q=>by rw[du (kM q c)];exact q
 n0:=λb u xs q=>by rw[du (kM q c)];exact q
 ox:=λb ps q=>⟨#[],by rw[du (kM q c),q];simp⟩
def gI.write(c:vM (H x))(he:e=x\/H e=some (.own x))(k:∀b u,b≠e->h.get? b=some u->h'.get? b=some u)(j:∃u,h'.get? e=some u):gI fs ex H (upd H x o) h h':=by
 have g:∀b,H b=none->b≠x:=λb n z=>by subst z;rw[n]at c;exact c
 have f:∀b,H b=none->b≠e:=λb n z=>by
  subst z;rcases he with r|r
  .exact g b n r
  .rw[n]at r;cases r
 have d:∀b u,H b=some u->¬vM (some u)->b≠x:=λb u q nm z=>by subst z;rw[q]at c;exact nm c
 refine⟨λb u q n _ _=>k b u (f b n) q,λb u q n _ _=>⟨u.slots,k b u (f b n) q⟩,λb u q n _=>by rw[du (g b n)];exact n,λb u q _=>?_,
  λb xs q=>by rw[du (d b _ q λz=>z)];exact q,λb u xs q=>by rw[du (d b _ q λz=>z)];exact q,λb ps q=>⟨#[],by rw[du (d b _ q λz=>z),q];simp⟩⟩
 by_cases i:b=e
 .subst i;exact j
 .exact⟨u,k b u i q⟩
end
def By(h:Heap)(H:au):List Addr:=(akV h.objs.size).filter λa=>(H a).isSome
def o8(h:Heap)(H:au):Heap:=W.hideAll h (By h H)
def Yv(h:Heap)(H:au):(o8 h H).objs.size=h.objs.size:=W.hideAll_size _ _
def Ee{h:Heap}{H:au}(e:h.get? b=some o)(n:H b=none):(o8 h H).get? b=some o:=
 W.hideAll_get _ e λa=>by
  have q:(H b).isSome=true:=(aln.mp a).2;rw[n]at q;simp at q
def abC{h:Heap}{H:au}(e:(o8 h H).get? b=some o):h.get? b=some o/\H b=none:=by
 have a:h.get? b=some o:=W.of_hideAll (By h H) e;refine⟨a,?_⟩
 cases q:H b with
 |none=>rfl|some x=>
  have c:b∈By h H:=aln.mpr ⟨alg.mpr (akl a),by simp[q]⟩;have z:(o8 h H).get? b=none:=W.hideAll_none (By h H) c;rw[z]at e;cases e
def SJ(g h:Heap)(L:Addr):List (Addr×Obj):=(akV h.objs.size).filterMap λa=>if a=L\/(g.get? a).isSome=true then none else(h.get? a).map λo=>(a,o)
def rest(g h:Heap)(L d:Addr):List (Addr×Obj):=(SJ g h L).filter λp=>decide (p.1≠d)
structure Mod(K:aP)(mg:ba)(base:Heap):Prop where
 qR:K.In base
 glob:base.Ns akN mg
 blt:∃cz,base.Ns an4 cz/\∀x:Str,x≠"__name__"->cz x=akY x
 nolimit:base.NoLimit
structure aN where
 prog:akr
 w:World
 K:aP
 mg:Str->Option Value
 base:Heap
 A:akw
 N:List Str
 hr:akd
 H₀:au
 env:Env
 outer:List Env
 stack:List Env
 ex:List Addr
 fn:Str->Bool
 calm:Bool
 lE:List (Addr×Obj)
 dv:Value->akd->Prop
abbrev oN(X:aN)(pl:Sem Bool)(o:Expr)(m:Str)(a:Pos)(b:List Expr)(pos:Pos):Prop:=eval (.Call (.Attribute o m a) b [] pos) X.env=(do
   let cc <-eval o X.env
   standAt a.atName
   let(f,first) <-holding [cc] (getMethod cc m pl)
   callWith pos f first (al0 pos (akT b X.env)) (anh pos (amo [] X.env)))
abbrev fQ(X:aN)(e:Expr)(a:List Expr):Prop:=akT (e::a) X.env=(false,eval e X.env)::akT a X.env
abbrev gJ(X:aN)(p:Pos)(a:List Expr):Prop:=(al0 p (akT a X.env)).any (·.1)=false
abbrev Cm(X:aN)(p:Pos)(e:Expr):Prop:=al0 p (akT [e] X.env)=(false,eval e X.env)::al0 p (akT [] X.env)
abbrev fo(x:Str):Prop:=(x==("__debug__":Str))=false
abbrev jH(X:aN)(e:Expr):Prop:=∀x,foldedSetIterable e X.env x=pure x
def hx(l:List Env):List Addr:=l.filterMap (·.frame)
abbrev aN.fs(X:aN):List Addr:=hx X.outer
def qf(a:Scope)(x:Str):Prop:=a.names.lookup x=some .local\/a.names.lookup x=some .cell\/a.names.lookup x=some .free
def Loc(a:Scope)(x:Str):Prop:=a.names.lookup x=some .local\/a.names.lookup x=some .cell
def Look(env:Env)(h:Heap)(m:ba)(x:Str)(u:Value):Prop:=
 (env.kindOf x=some .local/\m x=some u)\/((env.kindOf x=some .cell\/env.kindOf x=some .free)/\∃c,env.cells.lookup x=some c/\h.IsCell c (some u))
structure aN.Ok(X:aN):Prop where
 mod:Mod X.K X.mg X.base
 kind:X.env.scope.kind=.function
 glob:X.env.globals=akN
 blt:X.env.builtins=an4
 above:X.hr.heap.objs.size<=X.env.locals
 inj:∀x y c,X.env.cells.lookup x=some c->X.env.cells.lookup y=some c->x=y
 has:∀x,(X.env.kindOf x=some .cell\/X.env.kindOf x=some .free)->∃c,X.env.cells.lookup x=some c
 tO:∀x c,X.fn x=true->X.env.cells.lookup x=some c->X.hr.heap.objs.size<=c
 hd:X.calm=true->X.A.handled=none
 frames:X.A.frames=some X.stack
 ye:X.stack=X.outer\/(X.stack=X.env::X.outer/\X.env.frame=some X.env.locals)
 wt:∀b∈X.ex,b≠X.env.locals/\∀x c,X.env.cells.lookup x=some c->c≠b
 bs:∀b o,X.base.get? b=some o->X.hr.heap.get? b=some o/\X.H₀ b=none
 lX:X.base.objs.size<=X.hr.heap.objs.size
 uM:∀b o,X.base.get? b=some o->b∉X.ex
 tZ:∀b∈X.ex,b∉X.fs
 kD:X.hr.heap.FunFrames X.base X.outer
 o3:∀b∈X.fs,X.H₀ b=none
structure Inv(X:aN)(ae:c0)(U:List (Option V))(H:au)(s:akd):Prop where
 ok:X.Ok
 os:s.os=X.hr.os
 bare:amL s.gens
 base:gI X.fs X.ex X.H₀ H X.hr.heap s.heap
 loc:∃m,s.heap.Ns X.env.locals m/\∀(i:Nat)(x:Str)(v:V),X.N[i]? = some x->U[i]? = some (some v)->qf X.env.scope x->∃u,RelV v u/\Look X.env s.heap m x u
 cell:∀x c,X.env.cells.lookup x=some c->∃v,s.heap.IsCell c v
 free:H X.env.locals=none
 ll:∀x c,X.env.cells.lookup x=some c->H c=none
 pin:∀p∈X.lE++ae,s.heap.get? p.1=some p.2/\H p.1=none/\p.1≠X.env.locals/\p.1∉X.fs/\∀v,p.2.data≠.cell v
 bP:fm X.prog X.w H s.heap
 len:U.length=X.N.length
section
variable{X:aN}{ae:c0}{U:List (Option V)}{H H':au}{s:akd}{h':Heap}
def aN.Ok.abo(ok:X.Ok)(e:X.base.get? b=some o):b∉X.fs:=λa=>by
 have:=(ok.kD.mem a).1;rw[e]at this;cases this
def Inv.bs(I:Inv X ae U H s):∀b o,X.base.get? b=some o->s.heap.get? b=some o/\H b=none:=λb o e=>
 ⟨I.base.keep b o (I.ok.bs b o e).1 (I.ok.bs b o e).2 (I.ok.abo e) (I.ok.uM b o e),I.base.free b o (I.ok.bs b o e).1 (I.ok.bs b o e).2 (I.ok.uM b o e)⟩
def Inv.bk(I:Inv X ae U H s):∀b o,X.base.get? b=some o->s.heap.get? b=some o:=λb o e=>(I.bs b o e).1
def Inv.mod(I:Inv X ae U H s):Mod X.K X.mg X.base:=I.ok.mod
def Inv.fi(I:Inv X ae U H s):X.K.In s.heap:=I.ok.mod.qR.keeps I.bk
def Inv.fr(I:Inv X ae U H s):∃m,Fr X.base X.env.locals s.heap m:=
 let⟨m,o,_⟩:=I.loc
 ⟨m,o,I.bk,alc I.ok.lX I.ok.above⟩
def Inv.lt(I:Inv X ae U H s):X.env.locals<s.heap.objs.size:=let⟨_,o,_⟩:=I.loc;o.lt
def Inv.jv(I:Inv X ae U H s):X.hr.heap.objs.size<=s.heap.objs.size:=alc I.ok.above (alj I.lt)
def Inv.abq(I:Inv X ae U H s)(h:s.heap.objs.size<=a):a∉X.fs:=λb=>by
 obtain⟨_,o,c,_⟩:=I.ok.kD.mem b;exact absurd (akJ (akl c) (alc I.jv h)) (ak0 _)
def Inv.rG(I:Inv X ae U H s):∀x c,X.env.cells.lookup x=some c->c≠X.env.locals:=λx c e z=>by
 obtain⟨v,o,a,hd⟩:=I.cell x c e;obtain⟨m,⟨g,f,cD,d,b,_⟩,_⟩:=I.loc;rw[z,d]at a;cases a;rw[b]at hd;cases hd
def Inv.kD(I:Inv X ae U H s):s.heap.FunFrames X.base X.outer:=by
 have all:∀(l:List Env),(∀b∈hx l,b∈X.fs)->X.hr.heap.FunFrames X.base l->s.heap.FunFrames X.base l:=by
  intro l
  induction l with
  |nil=>intro _ _;trivial|cons env r f=>
   intro av k;obtain⟨i,⟨L,o,c,h,j,hd⟩,g⟩:=k;have d:=av L (by unfold hx;rw[anA,c];exact akj);obtain⟨da,e⟩:=I.base.slot L o j (I.ok.o3 L d) d λz=>I.ok.tZ L z d
   exact⟨i,⟨L,_,c,h,e,hd⟩,f (λb a=>av b (by unfold hx;rw[anA,c];exact aki _ a)) g⟩
 exact all X.outer (λ_ a=>a) I.ok.kD
def Inv.stack(I:Inv X ae U H s):s.heap.FunFrames X.base X.stack:=by
 rcases I.ok.ye with e|⟨e,hf⟩
 .rw[e];exact I.kD
 .rw[e]
  obtain⟨m,a,_⟩:=I.loc;refine .cons (by rw[I.ok.kind];decide) hf a ?_ I.kD;exact Heap.get?_none_of_le (alc I.ok.lX I.ok.above)
def Inv.G7(I:Inv X ae U H s):∀b∈hx X.stack,b∈X.env.locals::X.fs:=λb a=>by
 rcases I.ok.ye with e|⟨e,hf⟩
 .rw[e]at a;exact aki _ a
 .rw[e]at a
  unfold hx at a;rw[anA,hf]at a;exact a
def Inv.G6(I:Inv X ae U H s):∀b∈hx X.stack,H b=none:=λb a=>by
 rcases akq.mp (I.G7 b a)with e|a
 .rw[e];exact I.free
 .obtain⟨_,o,c,_⟩:=I.ok.kD.mem a
  exact I.base.free b o c (I.ok.o3 b a) λz=>I.ok.tZ b z a
def Inv.step{g':Array GenState}{t':Nat}{d':Drawn}{ch:List Addr}(I:Inv X ae U H s)
  (y:∀b∈ch,(b∈X.ex\/X.hr.heap.objs.size<=b)/\b≠X.env.locals/\(∀x c,X.env.cells.lookup x=some c->c≠b)/\∀p∈X.lE++ae,p.1≠b)
  (keep:∀b o,b≠X.env.locals->b∉X.fs->b∉ch->s.heap.get? b=some o->H b=none->h'.get? b=some o)
  (slot:∀b o,b≠X.env.locals->b∈X.fs->b∉ch->s.heap.get? b=some o->H b=none->∃da,h'.get? b=some { o with slots:=da }) (free:∀b o,b∉ch->s.heap.get? b=some o->H b=none->H' b=none)
  (there:∀b o,b∉ch->s.heap.get? b=some o->∃j,h'.get? b=some j)
  (pL:∀b xs,H b=some (.t xs)->H' b=some (.t xs)) (n0:∀b o u,H b=some (.cm o u)->H' b=some (.cm o u)) (ox:∀b ps,H b=some (.gE ps)->∃more,H' b=some (.gE (ps++more)))
  (ns:∀m,s.heap.Ns X.env.locals m->h'.Ns X.env.locals m) (bP:fm X.prog X.w H' h') (J:amL g') :
  Inv X ae U H' { s with heap:=h',gens:=g',drawn:=d',toks:=t' }:=by
 have D:∀b o,X.hr.heap.get? b=some o->b≠X.env.locals:=λb o e=>akv (akJ (akl e) I.ok.above)
 have B:∀b o,X.hr.heap.get? b=some o->b∉X.ex->b∉ch:=λb o e a g=>by
  rcases(y b g).1 with z|z
  .exact a z
  .exact absurd (akJ (akl e) z) (ak0 _)
 have f:∀x c,X.env.cells.lookup x=some c->∀v,s.heap.IsCell c v->h'.IsCell c v:=λx c e v L=>by
  obtain⟨o,h,hd⟩:=L;have A:=λz=>(y c z).2.2.1 x c e rfl
  by_cases G:c∈X.fs
  .obtain⟨da,q⟩:=slot c o (I.rG x c e) G A h (I.ll x c e)
   exact⟨_,q,hd⟩
  .exact⟨o,keep c o (I.rG x c e) G A h (I.ll x c e),hd⟩
 refine⟨I.ok,I.os,J,⟨λb o e n g a=>?_,λb o e n g a=>?_,λb o e n a=>?_,λb o e a=>?_,λb xs e=>pL b xs (I.base.pL b xs e),λb o xs e=>n0 b o xs (I.base.n0 b o xs e),λb ps e=>?_⟩,?_,λx c e=>?_,?_,λx c e=>?_,λp E=>?_,bP,I.len⟩
 .exact keep b o (D b o e) g (B b o e a) (I.base.keep b o e n g a) (I.base.free b o e n a)
 .obtain⟨da,aq⟩:=I.base.slot b o e n g a
  obtain⟨N,aC⟩:=slot b _ (D b o e) g (B b o e a) aq (I.base.free b o e n a);exact⟨N,aC⟩
 .obtain⟨j,aq⟩:=I.base.there b o e a
  exact free b j (B b o e a) aq (I.base.free b o e n a)
 .obtain⟨j,aq⟩:=I.base.there b o e a
  exact there b j (B b o e a) aq
 .obtain⟨O,aq⟩:=I.base.ox b ps e
  obtain⟨P,aC⟩:=ox b _ aq;exact⟨O++P,by rw[aC,Array.append_assoc]⟩
 .obtain⟨m,K,M⟩:=I.loc
  refine⟨m,ns m K,λi x v aq aC cP=>?_⟩;obtain⟨u,r,l⟩:=M i x v aq aC cP;refine⟨u,r,?_⟩;rcases l with l|⟨k,c,e,z⟩
  .exact .inl l
  .exact .inr ⟨k,c,e,f x c e _ z⟩
 .obtain⟨v,z⟩:=I.cell x c e
  exact⟨v,f x c e v z⟩
 .obtain⟨m,⟨o,_,_,h,_⟩,_⟩:=I.loc
  exact free _ o (λz=>(y _ z).2.1 rfl) h I.free
 .obtain⟨v,o,h,hd⟩:=I.cell x c e
  exact free c o (λz=>(y c z).2.2.1 x c e rfl) h (I.ll x c e)
 .obtain⟨e,n,ne,F,d⟩:=I.pin p E
  have A:=λz=>(y p.1 z).2.2.2 p E rfl
  exact⟨keep p.1 p.2 ne F A e n,free p.1 p.2 A e n,ne,F,d⟩
def Inv.un{t':Nat}(I:Inv X ae U H s)(u:gI X.fs [] H H' s.heap h')(bP:fm X.prog X.w H' h'):Inv X ae U H' { s with heap:=h',toks:=t' }:=by
 obtain⟨m,⟨o,k,cD,c,r⟩,_⟩:=id I.loc;obtain⟨da,j⟩:=u.any c I.free (by simp);exact I.step (g':=s.gens) (d':=s.drawn) (ch:=[]) (λ_ z=>nomatch z) (λb o _ a _ e n=>u.keep b o e n a (by simp)) (λb o _ a _ e n=>u.slot b o e n a (by simp)) (λb o _ e n=>u.free b o e n (by simp)) (λb o _ e=>u.there b o e (by simp)) u.pL u.n0 u.ox (λp i=>by
  obtain⟨l,g,f,d,h⟩:=i;rw[c]at d;cases d;exact⟨_,g,f,j,h⟩) bP I.bare
def Inv.call{g':Array GenState}{t':Nat}{d':Drawn}{ch:List Addr}(I:Inv X ae U H s)(u:gI (hx X.stack) ch H H' s.heap h')(bP:fm X.prog X.w H' h')(k:amL g')
  (h:∀b∈ch,(b∈X.ex\/X.hr.heap.objs.size<=b)/\b≠X.env.locals/\(∀x c,X.env.cells.lookup x=some c->c≠b)/\∀p∈X.lE++ae,p.1≠b) :
  Inv X ae U H' { s with heap:=h',gens:=g',drawn:=d',toks:=t' }:=by
 obtain⟨m,⟨o,y,cD,f,r⟩,_⟩:=id I.loc;obtain⟨da,d⟩:=u.any f I.free λz=>(h _ z).2.1 rfl
 exact I.step (ch:=ch) h (λb o d l a e n=>u.keep b o e n (λz=>(akq.mp (I.G7 b z)).elim d l) a) (λb o _ _ a e n=>u.any e n a) (λb o a e n=>u.free b o e n a) (λb o a e=>u.there b o e a) u.pL u.n0 u.ox (λB t=>by
  obtain⟨A,j,i,g,q⟩:=t;rw[f]at g;cases g;exact⟨_,j,i,d,q⟩) bP k
def Inv.turned{t':Nat}{it:Addr}(I:Inv X ae U H s)(k:∀b o,b≠it->s.heap.get? b=some o->h'.get? b=some o)(g:H it=none)(d:it≠X.env.locals)
  (i:it∈X.ex\/X.hr.heap.objs.size<=it) (j:∀x c,X.env.cells.lookup x=some c->c≠it) (t:∀p∈X.lE++ae,p.1≠it):Inv X ae U H { s with heap:=h',toks:=t' }:=by
 have f:∀b u,H b=some u->b≠it:=λb u e z=>by rw[z,g]at e;cases e
 refine I.step (ch:=[it]) (λb h=>?_) (λb o _ _ a e _=>k b o (λz=>a (by simp[z])) e) (λb o _ _ a e _=>⟨o.slots,k b o (λz=>a (by simp[z])) e⟩) (λ_ _ _ _ n=>n)
  (λb o a e=>⟨o,k b o (λz=>a (by simp[z])) e⟩) (λ_ _ e=>e) (λ_ _ _ e=>e) (λb ps e=>⟨#[],by rw[e];simp⟩) (λm y=>?_) (λb u e=>?_) I.bare
 .have e:b=it:=by simpa using h
  subst e;exact⟨i,d,j,t⟩
 .obtain⟨o,l,cD,w,r⟩:=y
  exact⟨o,l,cD,k _ o (alQ d) w,r⟩
 .refine(I.bP b u e).rd (λc v a q=>k c v ?_ q) (λ_ q=>q) λ_ _ q=>q
  rcases a with z|z
  .rw[z];exact f b u e
  .exact f c _ z
def Inv.tok(I:Inv X ae U H s)(t:Nat):Inv X ae U H { s with toks:=t }:=I.un gI.refl I.bP
def Inv.kept{t':Nat}(I:Inv X ae U H s)(k:∀b u,s.heap.get? b=some u->h'.get? b=some u):Inv X ae U H { s with heap:=h',toks:=t' }:=I.un (gI.kept k) (I.bP.kept k)
def Inv.laid{t':Nat}(I:Inv X ae U H s)(k:∀b u,s.heap.get? b=some u->h'.get? b=some u)(c:s.heap.objs.size<=a)(new:gG X.prog X.w (upd H a o) h' a o) :
  Inv X ae U (upd H a o) { s with heap:=h',toks:=t' }:=I.un (gI.laid k c (I.bP.fresh c)) (I.bP.laid k c new)
def Inv.write{x e:Addr}{o:g_}{t':Nat}(I:Inv X ae U H s)(a:vM (H x))(he:e=x\/H e=some (.own x))(k:∀b u,b≠e->s.heap.get? b=some u->h'.get? b=some u)(c:∃u,h'.get? e=some u)
  (new:gG X.prog X.w (upd H x o) h' x o):Inv X ae U (upd H x o) { s with heap:=h',toks:=t' }:=I.un (gI.write a he k c) (I.bP.write a he k c new)
def Inv.weak{U':List (Option V)}(I:Inv X ae U H s)(a:U'.length=U.length)(w:∀(i:Nat) v,U'[i]? = some (some v)->U[i]? = some (some v)):Inv X ae U' H s:=
 ⟨I.ok,I.os,I.bare,I.base,let⟨m,C,o⟩:=I.loc;⟨m,C,λi x v aq aC cP=>o i x v aq (w i v aC) cP⟩,I.cell,I.free,I.ll,I.pin,I.bP,a.trans I.len⟩
def Inv.PV(I:Inv X ae U H s)(h:∀p∈o,s.heap.get? p.1=some p.2/\H p.1=none/\p.1≠X.env.locals/\p.1∉X.fs/\∀v,p.2.data≠.cell v):Inv X o U H s:=
 ⟨I.ok,I.os,I.bare,I.base,I.loc,I.cell,I.free,I.ll,λp a=>(akO.mp a).elim (λz=>I.pin p (ale _ z)) (h p),I.bP,I.len⟩
def Po{N:List Str}(hN:N.Nodup){i j:Nat}{x:Str}(a:N[i]? = some x)(b:N[j]? = some x):i=j:=by
 obtain⟨c,aq⟩:=ake.mp a;obtain⟨d,aC⟩:=ake.mp b;exact(List.getElem_inj hN).mp (aq.trans aC.symm)
theorem QW{M:Model}{A:akw}{E:cZ}{i:Nat}{x:Str}{v:V}{u:Value}{Q:Unit->akd->Prop}(I:Inv X ae U H s)(hN:X.N.Nodup)(D:X.N[i]? = some x)(l:Loc X.env.scope x)(r:RelV v u)
  (h:∀s',Inv X ae (U.set i (some v)) H s'->(∃a,anr a s.heap s'.heap/\(a=X.env.locals\/X.env.cells.lookup x=some a))->Q () s') (hf:X.fn x=true\/X.env.scope.names.lookup x=some .local:=by first|exact .inl rfl|exact .inr rfl|assumption):wpAny M A (storeName X.env x u) Q E s:=by
 obtain⟨m,J,W⟩:=id I.loc;have X6:(X.env.scope.kind==.class||(X.env.scope.kind==.module&&X.env.locals != X.env.globals))=false:=by rw[I.ok.kind];rfl
 have T:i<U.length:=by rw[I.len];exact(ake.mp D).1
 have rG:=I.rG;have f:∀{a:Addr}{h':Heap},(∃o,s.heap.get? a=some o/\H a=none)->anr a s.heap h'->fm X.prog X.w H h':=λ{a h'} ar av b bD e=>by
  obtain⟨_,_,z6⟩:=ar;refine(I.bP b bD e).rd (λc F g q=>(av.2 c ?_).trans q) (λ_ q=>q) λ_ _ q=>q
  rintro rfl;rcases g with rfl|g
  .rw[z6]at e;cases e
  .rw[z6]at g;cases g
 rcases l with C|C
 .refine wpAny_storeName_local C J (λh' YI av=>?_) X6
  obtain⟨FZ,_,_,mY,_⟩:=id J;refine h _ ⟨I.ok,I.os,I.bare,⟨λb o e n B l=>?_,λb o e n B l=>?_,I.base.free,λb o e l=>?_,I.base.pL,I.base.n0,I.base.ox⟩,⟨_,YI,λj y P aq aC cP=>?_⟩,λy c e=>?_,I.free,I.ll,λp K=>?_,f ⟨FZ,mY,I.free⟩ av,by simpa using I.len⟩ ⟨_,av,.inl rfl⟩
  .exact(av.2 b (akv (akJ (akl e) I.ok.above))).trans (I.base.keep b o e n B l)
  .obtain⟨da,aq⟩:=I.base.slot b o e n B l
   exact⟨da,(av.2 b (akv (akJ (akl e) I.ok.above))).trans aq⟩
  .obtain⟨O,aq⟩:=I.base.there b o e l
   exact⟨O,(av.2 b (akv (akJ (akl e) I.ok.above))).trans aq⟩
  .by_cases t:j=i
   .subst t
    rw[D]at aq;cases aq;rw[ak7 T]at aC;cases aC;exact⟨u,r,.inl ⟨C,by simp⟩⟩
   .rw[aku (alQ t)]at aC
    obtain⟨S,L,q⟩:=W j y P aq aC cP;refine⟨S,L,?_⟩;rcases q with⟨k,e⟩|⟨k,c,e,z⟩
    .refine .inl ⟨k,?_⟩
     have:y≠x:=λe=>t (Po hN aq (e▸D))
     simp[this,e]
    .exact .inr ⟨k,c,e,z.sameBut av (rG y c e)⟩
  .obtain⟨F,z⟩:=I.cell y c e
   exact⟨F,z.sameBut av (rG y c e)⟩
  .obtain⟨e,n,ne,R,d⟩:=I.pin p K
   exact⟨(av.2 p.1 ne).trans e,n,ne,R,d⟩
 .have G:X.fn x=true:=by
   rcases hf with z|z
   .exact z
   .rw[z]at C;cases C
  obtain⟨c,g⟩:=I.ok.has x (.inl C);obtain⟨F,z⟩:=I.cell x c g;refine wpAny_storeName_cell I.ok.kind C g z (λh' z2 av=>?_);obtain⟨c6,Z,YL⟩:=id z;refine h { s with heap:=h' } ⟨I.ok,I.os,I.bare,⟨λb o e n B l=>?_,λb o e n B l=>?_,I.base.free,λb o e l=>?_,I.base.pL,I.base.n0,I.base.ox⟩,⟨m,J.sameBut av (alQ (rG x c g)),λj y P aq aC cP=>?_⟩,λy c' e=>?_,I.free,I.ll,λp K=>?_,f ⟨c6,Z,I.ll x c g⟩ av,by simpa using I.len⟩ ⟨c,av,.inr g⟩
  .exact(av.2 b (akv (akJ (akl e) (I.ok.tO x c G g)))).trans (I.base.keep b o e n B l)
  .obtain⟨da,aq⟩:=I.base.slot b o e n B l
   exact⟨da,(av.2 b (akv (akJ (akl e) (I.ok.tO x c G g)))).trans aq⟩
  .obtain⟨O,aq⟩:=I.base.there b o e l
   exact⟨O,(av.2 b (akv (akJ (akl e) (I.ok.tO x c G g)))).trans aq⟩
  .by_cases t:j=i
   .subst t
    rw[D]at aq;cases aq;rw[ak7 T]at aC;cases aC;exact⟨u,r,.inr ⟨.inl C,c,g,z2⟩⟩
   .rw[aku (alQ t)]at aC
    obtain⟨S,L,q⟩:=W j y P aq aC cP;refine⟨S,L,?_⟩;rcases q with q|⟨k,c',e,pU⟩
    .exact .inl q
    .refine .inr ⟨k,c',e,pU.sameBut av ?_⟩
     rintro rfl;exact t (Po hN aq (I.ok.inj _ _ _ e g▸D))
  .by_cases Y:c'=c
   .subst Y;exact⟨_,z2⟩
   .obtain⟨dF,eY⟩:=I.cell y c' e
    exact⟨dF,eY.sameBut av Y⟩
  .obtain⟨e,n,ne,R,d⟩:=I.pin p K
   refine⟨(av.2 p.1 ?_).trans e,n,ne,R,d⟩;intro q;rw[q,Z]at e;exact d F (by rw[<-(akF e)];exact YL)
def QV{M:Model}{A:akw}{E:cZ}{i:Nat}{x:Str}{v:V}{u:Value}{Q:Unit->akd->Prop}(I:Inv X ae U H s)(hN:X.N.Nodup)(c:X.N[i]? = some x)(a:Loc X.env.scope x)(r:RelV v u)
  (h:∀s',Inv X ae (U.set i (some v)) H s'->Q () s') (b:X.fn x=true\/X.env.scope.names.lookup x=some .local:=by first|exact .inl rfl|exact .inr rfl|assumption):wpAny M A (storeName X.env x u) Q E s:=
 QW I hN c a r (λs' d _=>h s' d) b
theorem Inv.zu{s':akd}{ch:List Addr}(I:Inv X ae U H s)(d:s'.os=s.os)(u:gI (hx X.stack) ch H H' s.heap s'.heap)(bP:fm X.prog X.w H' s'.heap)(a:amL s'.gens)
  (e:∀b∈ch,(b∈X.ex\/X.hr.heap.objs.size<=b)/\b≠X.env.locals/\(∀x c,X.env.cells.lookup x=some c->c≠b)/\∀p∈X.lE++ae,p.1≠b):Inv X ae U H' s':=by
 obtain⟨h',g',d',t',f⟩:=s';subst d;exact I.call u bP a e
end
abbrev e7:=Value->Option Addr->au->Prop
abbrev St:=List (Option V)
abbrev c_:=V->au->Prop
abbrev TE:=St->au->c_->Prop
abbrev TT:=St->au->(Bool->au->Prop)->Prop
abbrev gH:=St->au->(List V->au->Prop)->Prop
structure Ends where
 bl:St->au->Prop
 cp:c_
 bk:St->au->Prop:=λ_ _=>False
 cM:St->au->Prop:=λ_ _=>False
abbrev gZ:=Ends->St->au->Prop
def iN(X:aN)(b:c0)(U:St)(Q:c_)(u:Value)(s':akd):Prop:=∃v a,Inv X b U a s'/\RelV v u/\Q v a
def Cg(X:aN)(c:c0)(U:St)(Q:Bool->au->Prop)(b:Bool)(s':akd):Prop:=∃a,Inv X c U a s'/\Q b a
def R5(X:aN)(b:c0)(U:St)(Q:List V->au->Prop)(us:List Value)(s':akd):Prop:=∃vs a,Inv X b U a s'/\Vals vs us/\Q vs a
def nN(X:aN)(b:c0)(D:Ends)(f:Flow)(s':akd):Prop:=
 match f with
 |.next=>∃U' a,Inv X b U' a s'/\D.bl U' a|.brk=>∃U' a,Inv X b U' a s'/\D.bk U' a|.cont=>∃U' a,Inv X b U' a s'/\D.cM U' a|.ret u=>∃v U' a,Inv X b U' a s'/\RelV v u/\D.cp v a
def b6(X:aN)(e:Expr)(t:TE):Prop:=
 ∀(a:c0)(s:akd)(U:St)(H:au)(Q:c_),Inv X a U H s->t U H Q->wpAny (model X.prog X.w) X.A (eval e X.env) (iN X a U Q) X.dv s
def i'(X:aN)(e:Expr)(t:TT):Prop:=
 ∀(a:c0)(s:akd)(U:St)(H:au)(Q:Bool->au->Prop),Inv X a U H s->t U H Q->wpAny (model X.prog X.w) X.A (isTrue e X.env (eval e X.env)) (Cg X a U Q) X.dv s
def mC(X:aN)(e:Expr)(t:TT):Prop:=
 ∀(a:Sem Value)(b:c0)(s:akd)(U:St)(H:au)(Q:Bool->au->Prop),Inv X b U H s->t U H Q->wpAny (model X.prog X.w) X.A (isTrue e X.env a) (Cg X b U Q) X.dv s
def mC.pt{t:TT}(h:mC X e t):i' X e t:=h _
def gR(X:aN)(b:List Expr)(t:gH):Prop:=
 ∀(pos:Pos)(a:c0)(s:akd)(U:St)(H:au)(Q:List V->au->Prop),Inv X a U H s->t U H Q->wpAny (model X.prog X.w) X.A (spliced (al0 pos (akT b X.env))) (R5 X a U Q) X.dv s
def iQ(X:aN)(st:Stmt)(t:gZ):Prop:=
 ∀(a:c0)(s:akd)(U:St)(H:au)(D:Ends),Inv X a U H s->t D U H->wpAny (model X.prog X.w) X.A (exec st X.env) (nN X a D) X.dv s
def iw(X:aN)(st:List Stmt)(t:gZ):Prop:=
 ∀(a:c0)(s:akd)(U:St)(H:au)(D:Ends),Inv X a U H s->t D U H->wpAny (model X.prog X.w) X.A (execs st X.env) (nN X a D) X.dv s
def cb{α:Type}{t:Sem α}{Q b:α->akd->Prop}{M:Model}{A:akw}{E:cZ}{s:akd}(h:wpAny M A t Q E s)(c:∀a s,Q a s->b a s):wpAny M A t b E s:=akW h c λ_ _ x=>x
section
variable{X:aN}
def aeR(i:Nat):TE:=λU H Q=>∃v,U[i]? = some (some v)/\Q v H
def pI(v:V):TE:=λ_ H Q=>Q v H
def xP(hN:X.N[i]? = some x)(d:qf X.env.scope x)(hd:fo x:=by decide)(f:(x==("__classdict__":Str))=false:=by decide):b6 X (.Name x pos) (aeR i):=by
 intro b s U H Q I h;obtain⟨v,e,h⟩:=h;obtain⟨m,a,g⟩:=I.loc;obtain⟨u,r,l⟩:=g i x v hN e d;have fin:iN X b U Q u s:=⟨v,H,I,r,h⟩;rcases l with⟨o,hm⟩|⟨o,c,hc,C⟩
 .exact wpAny_Name (wpAny_loadName_local I.ok.kind o a hm fin) hd
 .rcases o with o|o
  .exact wpAny_Name (wpAny_loadName_cell I.ok.kind o hc C fin) hd
  .exact wpAny_Name (wpAny_loadName_free I.ok.kind o hc C fin f) hd
def acD{i j pos}:b6 X (.Constant (.int i) j pos) (pI (.int i)):=λ_ _ _ H _ I h=>wpAny_Constant_int ⟨.int i,H,I.tok _,⟨_,rfl⟩,h⟩
def acn{b j pos}:b6 X (.Constant (.bool b) j pos) (pI (.az b)):=λ_ _ _ H _ I h=>Constant_bool ⟨.az b,H,I,rfl,h⟩
def acJ{j pos}:b6 X (.Constant .none j pos) (pI .ay):=λ_ _ _ H _ I h=>Constant_none ⟨.ay,H,I,rfl,h⟩
def PS{x j pos}:b6 X (.Constant (.str x) j pos) (pI (.str x)):=λ_ _ _ H _ I h=>Calls.Constant_str ⟨.str x,H,I.tok _,⟨_,rfl⟩,h⟩
def eS(X:aN)(x:Str):Prop:=X.env.kindOf x=some .globalImplicit
def qS{E:cZ}{b:c0}{s:akd}{U:St}{H:au}{x:Str}{u:Value}{pos:Pos}{Q:cZ}(I:Inv X b U H s)(a:eS X x)(c:X.mg x=some u)(h:Q u s)
  (hd:fo x:=by decide):wpAny (model X.prog X.w) X.A (eval (.Name x pos) X.env) Q E s:=
 anR I.ok.kind a (Calls.loadGlobal_global (by rw[I.ok.glob];exact I.mod.glob.keeps I.bk) c h) hd
def uu{E:cZ}{c:c0}{s:akd}{U:St}{H:au}{x:Str}{u:Value}{pos:Pos}{Q:cZ}(I:Inv X c U H s)(a:eS X x)(g:X.mg x=none)(f:akY x=some u)(h:Q u s)
  (b:x≠"__name__":=by decide) (hd:fo x:=by decide):wpAny (model X.prog X.w) X.A (eval (.Name x pos) X.env) Q E s:=by
 obtain⟨i,d,e⟩:=I.mod.blt;exact anR I.ok.kind a (Calls.loadGlobal_builtin (by rw[I.ok.glob];exact I.mod.glob.keeps I.bk) g (by rw[I.ok.blt];exact d.keeps I.bk) ((e x b).trans f) h) hd
def acC{v:V}(a:eS X x)(b:X.mg x=some u)(r:RelV v u)(hd:fo x:=by decide):b6 X (.Name x pos) (pI v):=
 λ_ _ _ H _ I h=>qS I a b ⟨v,H,I,r,h⟩ hd
def xO{v:V}(a:eS X x)(d:X.mg x=none)(c:akY x=some u)(r:RelV v u)(b:x≠"__name__":=by decide)(hd:fo x:=by decide):b6 X (.Name x pos) (pI v):=
 λ_ _ _ H _ I h=>uu I a d c ⟨v,H,I,r,h⟩ b hd
variable{a b:Expr}{cC dt:TE}{pos:Pos}
def Ss(X:aN)(op:CmpOp)(a b:Expr)(t:TE):Prop:=
 ∀(c:c0)(s:akd)(U:St)(H:au)(Q:c_),Inv X c U H s->t U H Q->
  wpAny (model X.prog X.w) X.A (eval a X.env) (λv d=>wpAny (model X.prog X.w) X.A (eval b X.env) (λu e=>wpAny (model X.prog X.w) X.A (ak2 op v u) (iN X c U Q) X.dv e) X.dv d) X.dv s
def abn(b:Expr){op:CmpOp}(h:op≠.In)(c:op≠.NotIn):alS op b=false:=by
 have aq:(op==CmpOp.In)=false:=by cases op<;>first|rfl|exact absurd rfl h
 have aC:(op==CmpOp.NotIn)=false:=by cases op<;>first|rfl|exact absurd rfl c
 cases b<;>simp[alS,aq,aC]
def Q3(t:TE):TT:=λU H Q=>t U H λx d=>∃c,x=.az c/\Q c d
def ajV{op:CmpOp}{t:TE}(h:Ss X op a b t)(e:alS op b=false:=by first|exact abn _ (by decide) (by decide)|rfl):i' X (.Compare a [op] [b] pos) (Q3 t):=by
 intro g s U H Q I hw;refine wpAny_isTrue_Compare1 (cb (h g s U H _ I hw) λv s1 e=>cb e λu s2 i=>cb i λc s3 ⟨x,f,k,j,bw⟩=>?_) e;obtain⟨d,rfl,q⟩:=bw;cases j;exact alA ⟨f,k,q⟩
def P4{e:Expr}{t:TE}(h:b6 X e t)(he:∀c,isTrue e X.env c=(do let v <-c;standAt e.pos;holding [v] (truthy v)):=by intro _;rfl):i' X e (Q3 t):=by
 intro g s U H Q I hw;refine isTrue_plain (cb (h g s U H _ I hw) λv s1 ⟨x,f,j,i,bw⟩=>?_) (he _);obtain⟨d,rfl,q⟩:=bw;cases i;exact alA ⟨f,j,q⟩
variable{ow Bp:TT}{rest:List Expr}
def aep(t u:TT):TT:=λU H Q=>t U H λc d=>if c=true then u U d Q else Q false d
def aeI(t u:TT):TT:=λU H Q=>t U H λc d=>if c=true then Q true d else u U d Q
def aeG(t:TT):TT:=λU H Q=>t U H λc d=>Q (!c) d
def adg(f:i' X a ow):mC X (.BoolOp .And [a] pos) ow:=by
 intro g d s U H Q I h;refine isTrue_and (cb (f d s U H Q I h) λc s1 e=>?_)
 cases c with
 |true=>exact isTrue_and_nil e|false=>exact e
def adi(f:i' X a ow):mC X (.BoolOp .Or [a] pos) ow:=by
 intro g d s U H Q I h;refine isTrue_or (cb (f d s U H Q I h) λc s1 e=>?_)
 cases c with
 |false=>exact isTrue_or_nil e|true=>exact e
def adf(j:i' X a ow)(i:mC X (.BoolOp .And (b::rest) pos) Bp):mC X (.BoolOp .And (a::b::rest) pos) (aep ow Bp):=by
 intro k e s U H Q I h;refine isTrue_and (cb (j e s U H _ I h) λc s1 g=>?_);obtain⟨d,f,bw⟩:=g
 cases c with
 |true=>exact i k e s1 U d Q f bw|false=>exact⟨d,f,bw⟩
def adh(j:i' X a ow)(i:mC X (.BoolOp .Or (b::rest) pos) Bp):mC X (.BoolOp .Or (a::b::rest) pos) (aeI ow Bp):=by
 intro k e s U H Q I h;refine isTrue_or (cb (j e s U H _ I h) λc s1 g=>?_);obtain⟨d,f,bw⟩:=g
 cases c with
 |true=>exact⟨d,f,bw⟩|false=>exact i k e s1 U d Q f bw
def P2(f:i' X a ow):i' X (.UnaryOp .Not a pos) (aeG ow):=by
 intro e s U H Q I h;exact isTrue_not (f e s U H (λc d=>Q (!c) d) I h)
def aeq(cC dt:TE):TE:=λU H Q=>cC U H λx d=>∃c,x=.az c/\if c=true then dt U d Q else Q (.az false) d
def aeH(cC:TE):TE:=λU H Q=>cC U H λx d=>∃c,x=.az c/\Q (.az (!c)) d
def acL{op}{t:TE}(h:b6 X a t):b6 X (.BoolOp op [a] pos) t:=λc s U H Q I hw=>BoolOp_one (h c s U H Q I hw)
def acm(j:b6 X a cC)(i:b6 X (.BoolOp .And (b::rest) pos) dt):b6 X (.BoolOp .And (a::b::rest) pos) (aeq cC dt):=by
 intro e s U H Q I h;refine BoolOp_and (cb (j e s U H _ I h) λv s1 g=>?_);obtain⟨x,d,f,k,bw⟩:=g;obtain⟨c,rfl,bw⟩:=bw;cases k;refine alA ?_
 cases c with
 |true=>exact i e s1 U d Q f bw|false=>exact⟨.az false,d,f,rfl,bw⟩
def acK(g:b6 X a cC):b6 X (.UnaryOp .Not a pos) (aeH cC):=by
 intro f s U H Q I h;refine UnaryOp_ (cb (g f s U H _ I h) λv s1 e=>?_);obtain⟨x,d,j,i,bw⟩:=e;obtain⟨c,rfl,bw⟩:=bw;cases i;exact not_of (alA ⟨.az (!c),d,j,rfl,bw⟩)
end
def dy(K:aP)(H:au)(a:Addr)(xs:List V):Prop:=
 gq H a (.l xs)\/
  ∃(o:Obj)(b:Array Value)(n:Nat),K.lookup a=some o/\o.cls=.type "list"/\o.dict=none/\o.data=.seq b n/\b.size<=akg/\Vals xs b.toList
def dQ(K:aP)(H:au)(a:Addr)(xs:List V):Prop:=
 gq H a (.t xs)\/
  ∃(o:Obj)(b:Array Value)(n:Nat),K.lookup a=some o/\o.cls=.type "tuple"/\o.data=.seq b n/\b.size<=akg/\Vals xs b.toList
def SD:Value->Option V
 |.none=>some .ay|.bool b=>some (.az b)|.int i _=>some (.int i)|.str x _=>some (.str x)|.bytes b _=>some (.zl b)|.float b _=>some (.zO b)|.ref a=>some (.ref a)|.type n=>some (.ty n)|_=>none
def RelV.abs(r:RelV x u):SD u=some x:=by
 cases x with
 |ay=>cases r;rfl
 |az _=>cases r;rfl
 |int _=>obtain⟨t,rfl⟩:=r;rfl
 |str _=>obtain⟨t,rfl⟩:=r;rfl
 |zl _=>obtain⟨t,rfl⟩:=r;rfl
 |zO _=>obtain⟨t,rfl⟩:=r;rfl
 |ref _=>cases r;rfl
 |ty _=>cases r;rfl
def RelV.inj(r:RelV x u)(q:RelV y u):x=y:=akF (r.abs.symm.trans q.abs)
theorem Vals.inj:∀{xs a:List V}{us:List Value},Vals xs us->Vals a us->xs=a
 |_,_,_,.nil,.nil=>rfl| _,_,_,.cons r t,.cons o t'=>by rw[r.inj o,Vals.inj t t']
section
variable{X:aN}{ae:c0}{U:St}{H:au}{s:akd}{a:Addr}{xs ys:List V}
def dy.of{K:aP}(h:H a=some (.l xs)):dy K H a xs:=.inl (.inl h)
def dQ.of{K:aP}(h:H a=some (.t xs)):dQ K H a xs:=.inl (.inl h)
def Inv.list(I:Inv X ae U H s)(h:dy X.K H a xs):∃b:List Value,Vals xs b/\PlainL s.heap a b.toArray/\xs.length<=akg:=by
 rcases h with h|⟨o,b,n,C,hc,hd,av,hz,r⟩
 .obtain⟨z,b,n,r,e⟩:=h.ok I.bP
  exact⟨b,r,⟨_,n,e,rfl,rfl,rfl⟩,z⟩
 .refine⟨b.toList,r,⟨o,n,I.fi a o C,hc,hd,by simpa using av⟩,?_⟩
  have e:=r.length;simp only[ak1]at e;omega
def Inv.tuple(I:Inv X ae U H s)(h:dQ X.K H a xs):∃b:List Value,Vals xs b/\IsTup s.heap a b.toArray/\xs.length<=akg:=by
 rcases h with h|⟨o,b,n,C,hc,av,hz,r⟩
 .obtain⟨z,b,r,p⟩:=h.ok I.bP
  exact⟨b,r,p,z⟩
 .refine⟨b.toList,r,⟨o,I.fi a o C,hc,n,by simpa using av⟩,?_⟩
  have e:=r.length;simp only[ak1]at e;omega
def Inv.OH(I:Inv X ae U H s)(h:dy X.K H a xs)(i:dy X.K H a ys):xs=ys:=by
 obtain⟨c,r,⟨o,n,e,_,_,d⟩,_⟩:=I.list h;obtain⟨b,g,⟨j,k,f,_,_,d'⟩,_⟩:=I.list i;rw[e]at f;cases f;rw[d]at d';injection d' with C _
 have:c=b:=by simpa using congrArg Array.toList C
 subst this;exact r.inj g
def Inv.Rm(I:Inv X ae U H s)(h:dQ X.K H a xs)(i:dQ X.K H a ys):xs=ys:=by
 obtain⟨c,r,⟨o,e,_,n,d⟩,_⟩:=I.tuple h;obtain⟨b,g,⟨j,f,_,k,d'⟩,_⟩:=I.tuple i;rw[e]at f;cases f;rw[d]at d';injection d' with C _
 have:c=b:=by simpa using congrArg Array.toList C
 subst this;exact r.inj g
end
abbrev aN.ny(X:aN)(E:cZ):aN:={ X with dv:=E }
abbrev aN.gA(X:aN):aN:=X.ny λ_ _=>False
def aN.Ok.ny{X:aN}(ok:X.Ok)(E:cZ):(X.ny E).Ok:=
 ⟨ok.mod,ok.kind,ok.glob,ok.blt,ok.above,ok.inj,ok.has,ok.tO,ok.hd,ok.frames,ok.ye,ok.wt,ok.bs,ok.lX,ok.uM,ok.tZ,ok.kD,ok.o3⟩
def aN.Ok.pN{X:aN}(ok:(X.ny E).Ok):X.Ok:=
 ⟨ok.mod,ok.kind,ok.glob,ok.blt,ok.above,ok.inj,ok.has,ok.tO,ok.hd,ok.frames,ok.ye,ok.wt,ok.bs,ok.lX,ok.uM,ok.tZ,ok.kD,ok.o3⟩
section
variable{X:aN}{ae:c0}{U:St}{H:au}{s:akd}{E:cZ}
def Inv.ny(I:Inv X ae U H s)(E:cZ):Inv (X.ny E) ae U H s:=⟨I.ok.ny E,I.os,I.bare,I.base,I.loc,I.cell,I.free,I.ll,I.pin,I.bP,I.len⟩
def Inv.pN(I:Inv (X.ny E) ae U H s):Inv X ae U H s:=⟨I.ok.pN,I.os,I.bare,I.base,I.loc,I.cell,I.free,I.ll,I.pin,I.bP,I.len⟩
def nN.pN{D:Ends}(h:nN (X.ny E) ae D f s'):nN X ae D f s':=by
 cases f with
 |next=>obtain⟨U',a,I,q⟩:=h;exact⟨U',a,I.pN,q⟩
 |brk=>obtain⟨U',a,I,q⟩:=h;exact⟨U',a,I.pN,q⟩
 |cont=>obtain⟨U',a,I,q⟩:=h;exact⟨U',a,I.pN,q⟩
 |ret u=>obtain⟨v,U',a,I,r,q⟩:=h;exact⟨v,U',a,I.pN,r,q⟩
theorem b6.gA{t:TE}(h:b6 X.gA e t):b6 X e t:=λae s U H Q I hw=>
 akW (h ae s U H Q (I.ny _) hw) (λ_ _ ⟨v,a,b,r,q⟩=>⟨v,a,b.pN,r,q⟩) λ_ _ z=>akI z
theorem iw.gA{st:List Stmt}{t:gZ}(h:iw X.gA st t):iw X st t:=λae s U H D I hw=>
 akW (h ae s U H D (I.ny _) hw) (λ_ _ q=>q.pN) λ_ _ z=>akI z
end
section
variable{X:aN}{st:Stmt}{rest:List Stmt}{t u:gZ}{e:Expr}{te:TE}{pos:Pos}
def aeE:gZ:=λD U H=>D.bl U H
def aeM(t u:gZ):gZ:=λD U H=>t { D with bl:=u D } U H
def P0:iw X [] aeE:=λ_ _ U H _ I h=>aow ⟨U,H,I,h⟩
def Gv(c:iQ X st t)(d:iw X rest u):iw X (st::rest) (aeM t u):=by
 intro a s U H D I h;refine aog (cb (c a s U H { D with bl:=u D } I h) λf s1 q=>?_)
 cases f with
 |next=>
  obtain⟨U',b,g,q⟩:=q;exact d a s1 U' b D g q
 |ret v=>exact q|brk=>exact q|cont=>exact q
def Gw(b:iQ X st t):iw X [st] t:=by
 intro a s U H D I h;refine aog (cb (b a s U H D I h) λf s1 q=>?_)
 cases f with
 |next=>exact aow q
 |ret v=>exact q|brk=>exact q|cont=>exact q
def Inv.quiet(I:Inv X o U H s):interactive X.env=false:=by simp[interactive,I.ok.kind]
def aey(te:TE):gZ:=λD U H=>te U H λ_ a=>D.bl U a
def Gq(he:b6 X e te)(av:alr e none pos.line X.env=pure false:=by rfl):iQ X (.Expr e pos) (aey te):=by
 intro b s U H D I h;exact wpAny_Expr_any (cb (he b s U H _ I h) λv s1 ⟨x,a,c,d,bw⟩=>⟨U,a,c,bw⟩) I.quiet av
def aeK(te:TE):gZ:=λD U H=>te U H D.cp
def Gs(he:b6 X e te):iQ X (.Return (some e) pos) (aeK te):=by
 intro b s U H D I h;exact wpAny_Return_some (cb (he b s U H _ I h) λv s1 ⟨x,a,d,c,bw⟩=>⟨x,U,a,d,c,bw⟩)
def aeA(c:TT)(t u:gZ):gZ:=λD U H=>c U H λb a=>if b=true then t D U a else u D U a
def Gr(m:i' X c o)(l:iw X a t)(k:iw X b u):iQ X (.If c a b pos) (aeA o t u):=by
 intro f s U H D I h;refine wpAny_If (cb (m f s U H _ I h) λd s1 j=>?_);obtain⟨g,i,bw⟩:=j
 cases d with
 |true=>exact l f s1 U g D i bw|false=>exact k f s1 U g D i bw
def aeD:gZ:=λ_ _ _=>False
def ac6:iQ X st aeD:=λ_ _ _ _ _ _ h=>h.elim
end
abbrev jG:=V->St->au->(St->au->Prop)->Prop
abbrev qe:=List V->St->au->(St->au->Prop)->Prop
def p'(X:aN)(a:Expr)(t:jG):Prop:=
 ∀(c:c0)(s:akd)(U:St)(H:au)(v:V)(u:Value)(Q:St->au->Prop),Inv X c U H s->RelV v u->t v U H Q->
  wpAny (model X.prog X.w) X.A (assign a X.env u) (λ_ s'=>∃U' b,Inv X c U' b s'/\Q U' b) X.dv s
def mB(X:aN)(ts:List Expr)(t:qe):Prop:=
 ∀(b:c0)(s:akd)(U:St)(H:au)(vs:List V)(us:List Value)(Q:St->au->Prop),Inv X b U H s->Vals vs us->t vs U H Q->
  wpAny (model X.prog X.w) X.A (assignInOrder ((ak4 ts X.env).map (·.2)) us) (λ_ s'=>∃U' a,Inv X b U' a s'/\Q U' a) X.dv s
section
variable{X:aN}{pos:Pos}
def n3(i:Nat):jG:=λv U H Q=>Q (U.set i (some v)) H
def u3(hN:X.N.Nodup)(c:X.N[i]? = some x)(a:Loc X.env.scope x)(b:X.fn x=true\/X.env.scope.names.lookup x=some .local:=by first|exact .inl rfl|exact .inr rfl|assumption):p' X (.Name x pos) (n3 i):=by
 intro e s U H v u Q I r h;exact wpAny_assign_Name (QV I hN c a r (λs' d=>⟨_,H,d,h⟩) b)
def Mn:qe:=λvs U H Q=>vs=[]/\Q U H
def Mm(t:jG)(u:qe):qe:=λvs U H Q=>∃v r,vs=v::r/\t v U H λU' a=>u r U' a Q
def acR:mB X [] Mn:=by
 intro a s U H vs us Q I r h;obtain⟨e,h⟩:=h;subst e;exact assignInOrder_nil ⟨U,H,I,h⟩
def acQ{e:Expr}{a:List Expr}{t:jG}{u:qe}(f:p' X e t)(g:mB X a u)
  (av:(ak4 (e::a) X.env).map (·.2)=assign e X.env::(ak4 a X.env).map (·.2):=by rfl):mB X (e::a) (Mm t u):=by
 intro b s U H vs us Q I r h;obtain⟨v,l,aq,h⟩:=h;subst aq
 cases r with
 |cons r i=>
  rw[av];refine assignInOrder_cons (cb (f b s U H _ _ _ I r h) λ_ s1 d=>?_);obtain⟨k,c,j,bw⟩:=d;exact g b s1 k c _ _ Q j i bw
def rT(K:aP)(n:Nat)(t:qe):jG:=λv U H Q=>∃a xs,v=.ref a/\dQ K H a xs/\xs.length=n/\t xs U H Q
def xQ{c:List Expr}{k:Nat}{t:qe}{n:Nat}(p:X.calm=true)(h:mB X c t)
  (g:(ak4 c X.env).length=n:=by rfl) (m:(ak4 c X.env).findIdx? (·.1)=none:=by rfl):p' X (.Tuple c k pos) (rT X.K n t):=by
 intro i s U H v u Q I r hw;obtain⟨a,xs,aq,f,q,hw⟩:=hw;subst aq;cases r;obtain⟨w,d,l,hz⟩:=I.tuple f;refine assign_Tuple_tuple (I.ok.hd p) l (by simp[g,<-q,d.length]) m λx j=>?_
 exact h i _ U H xs _ Q (I.kept (t':=s.toks) λb o e=>j b o (akv (akl e)) e) d hw
def ve(b:TE)(g:jG):gZ:=λD U H=>b U H λx a=>g x U a D.bl
def ac3{a e:Expr}{c:TE}{g:jG}(he:b6 X e c)(f:p' X a g)(av:swapsWithSole [a] e pos.line X.env=pure false:=by rfl)(hw:swappedStores [a] e X.env=pure none:=by rfl)
  (i:(ak4 [a] X.env).map (·.2)=[assign a X.env]:=by rfl):iQ X (.Assign [a] e pos) (ve c g):=by
 intro b s U H D I h;refine wpAny_Assign_stores (cb (he b s U H _ I h) λv s1 ⟨x,d,k,j,bw⟩=>?_) av hw;rw[i];exact cb (f b s1 U d x v _ k j bw) λ_ s2 q=>q
def Gu(hN:X.N.Nodup)(k:X.N[i]? = some x)(c:Loc X.env.scope x)(he:b6 X e te)(av:alr e (some (.Name x pos')) pos.line X.env=pure false:=by rfl)(j:X.fn x=true\/X.env.scope.names.lookup x=some .local:=by first|exact .inl rfl|exact .inr rfl|assumption) :
  iQ X (.Assign [.Name x pos'] e pos) (ve te (n3 i)):=by
 intro b s U H D I h;refine wpAny_Assign_Name (cb (he b s U H _ I h) λv s1 ⟨y,a,f,d,bw⟩=>?_) av;exact QV f hN k c d (λs2 g=>⟨_,a,g,bw⟩) j
end
structure iO where
 go:Nat->au->Prop
 pT:Nat->au->V->au->Prop
 stop:Nat->au->Prop
def hH(X:aN)(a:c0)(H:au)(b:Addr):Prop:=
 H b=none/\b≠X.env.locals/\b∉X.fs/\(b∈X.ex\/X.hr.heap.objs.size<=b)/\(∀x c,X.env.cells.lookup x=some c->c≠b)/\∀p∈X.lE++a,p.1≠b
def Inv.rP{H d:au}{s:akd}(I:Inv X o U H s)(a:s.heap.objs.size<=b)(f:d b=none):hH X o d b:=by
 refine⟨f,aoh (akJ I.lt a),I.abq a,.inr (alc I.jv a),λx c e z=>?_,λp g z=>?_⟩
 .obtain⟨v,q⟩:=I.cell x c e
  exact absurd (akJ q.lt (by rw[z];exact a)) (ak0 _)
 .exact absurd (akJ (akl (I.pin p g).1) (by rw[z];exact a)) (ak0 _)
structure Turn(P:akr)(w:World)(K:aP)(cI:Expr)(b':iO)(a9:List Addr)(it:Addr)(fX:Nat->Heap->Prop):Prop where
 mem:it∈a9
 obj:∀i h,fX i h->∀b∈a9,∃o,h.get? b=some o/\∀v,o.data≠.cell v
 keep:∀i h h',fX i h->(∀b∈a9,∀o,h.get? b=some o->h'.get? b=some o)->fX i h'
 item:∀(X:aN),X.prog=P->X.w=w->X.K=K->X.calm=true->∀(i:Nat)(ae:c0)(s:akd)(U:St)(H:au)(E:cZ),Inv X ae U H s->(∀b∈a9,hH X ae H b)->fX i s.heap->b'.go i H->
  wpAny (model P w) X.A (pyNext (.ref it)) (λr s1=>∃u,r=some u/\
   wpAny (model P w) X.A (ans cI (.ref it) u) (λ_ s2=>∃x H',Inv X ae U H' s2/\RelV x u/\b'.pT i H x H'/\fX (i+1) s2.heap/\∀b∈a9,H' b=none) E s1) E s
 done:∀(X:aN),X.prog=P->X.w=w->X.K=K->X.calm=true->∀(i:Nat)(ae:c0)(s:akd)(U:St)(H:au)(E:cZ),Inv X ae U H s->(∀b∈a9,hH X ae H b)->fX i s.heap->b'.stop i H->
  wpAny (model P w) X.A (pyNext (.ref it)) (λr s1=>r=none/\Inv X ae U H s1) E s
 self:∀(A:akw)(i:Nat)(s:akd)(Q:cZ)(E:cZ),fX i s.heap->Q (.ref it) s->wpAny (model P w) A (pyIter (.ref it)) Q E s
abbrev TI:=St->au->(iO->au->Prop)->Prop
def H2(X:aN)(d:c0)(U:St)(g:Expr)(R:iO->au->Prop)(f:Value)(s2:akd):Prop:=
 ∃(it:Addr)(c:List Addr)(fX:Nat->Heap->Prop)(e:iO)(a:au),f=.ref it/\Inv X d U a s2/\Turn X.prog X.w X.K g e c it fX/\fX 0 s2.heap/\(∀b∈c,hH X d a b)/\R e a
def j5(X:aN)(c a:Expr)(wi:TI):Prop:=
 ∀(b:c0)(s:akd)(U:St)(H:au)(R:iO->au->Prop),Inv X b U H s->wi U H R->
  wpAny (model X.prog X.w) X.A (eval a X.env) (λv s1=>wpAny (model X.prog X.w) X.A (pyIter v) (H2 X b U c R) X.dv s1) X.dv s
def wK{M:Model}{A:akw}{E:cZ}{s:akd}{a:Expr}{it:Addr}{u:Value}{o:Obj}{n:String}{vs:Array Value}{Q:Unit->akd->Prop}(d:s.heap.get? it=some o)(e:o.cls=.type n)(hd:o.data=.fields vs)
    (c:["enumerate","zip","dict_itemiterator","dict_reverseitemiterator","odict_iterator","itertools.zip_longest","itertools.pairwise"].contains n=false) (b:Q () s):wpAny M A (ans a (.ref it) u) Q E s:=by
  unfold ans;cases a<;>(cases u<;>first
        |exact akn b
        | (refine aka (wpAny_load d ?_)
           rw[e,hd];show wpAny M A (if(["enumerate","zip","dict_itemiterator","dict_reverseitemiterator","odict_iterator","itertools.zip_longest","itertools.pairwise"].contains n&&vs[0]? == some (alN _))=true then _ else _) Q E s;rw[if_neg (by intro h;rw[c,Bool.false_and]at h;cases h)];exact akn b))
def k4(K:aP)(a:Addr):iO:=
 ⟨λi H=>∃xs x,dy K H a xs/\xs[i]? = some x,λi H x b=>b=H/\∀xs,dy K H a xs->xs[i]? = some x,λi H=>∃xs,dy K H a xs/\xs.length<=i⟩
def tA(K:aP)(a:Addr):iO:=
 ⟨λi H=>∃xs x,dQ K H a xs/\xs[i]? = some x,λi H x b=>b=H/\∀xs,dQ K H a xs->xs[i]? = some x,λi H=>∃xs,dQ K H a xs/\xs.length<=i⟩
def p9(b:Int)(n:Nat):iO:=⟨λi _=>i<n,λi H x a=>a=H/\x=.int (b+i),λi _=>n<=i⟩
def afb{P:akr}{w:World}{K:aP}{Q:Expr}(a it:Addr):Turn P w K Q (k4 K a) [it] it (λi h=>h.IsListIter it a i) where
 mem:=by simp
 obj:=λi h st b f=>by
  have e:b=it:=by simpa using f
  subst e;obtain⟨o,e,c,d⟩:=st;exact⟨o,e,λv z=>by rw[d]at z;cases z⟩
 keep:=λi h j st k=>st.at λo e=>k it (by simp) o e
 item:=by
  intro X r hw F M i J s U H E I l st m;subst r hw F;obtain⟨xs,x,g,n⟩:=m;obtain⟨G,q,p,hz⟩:=I.list g;obtain⟨u,R,T⟩:=q.get n;obtain⟨t,y,V,B,A,D⟩:=l it (by simp);refine wpAny_pyNext_list_item st p.isList (x:=u) (by simpa using R) λj L W=>?_
  have O:Inv X J U H { s with heap:=j }:=I.turned (t':=s.toks) (λb o f e=>(W.2 b f).trans e) t y B A D;obtain⟨o,e,c,d⟩:=id L;exact⟨u,rfl,wK (s:={ s with heap:=j }) e c d (by decide) ⟨x,H,O,T,⟨rfl,λZ N=>by rw[I.OH N g];exact n⟩,L,λb f=>(l b f).1⟩⟩
 done:=by
  intro X r hw F M i J s U H E I l st m;subst r hw F;obtain⟨xs,g,n⟩:=m;obtain⟨G,q,p,hz⟩:=I.list g;obtain⟨t,y,V,B,A,D⟩:=l it (by simp);have Y:=q.length;exact wpAny_pyNext_list_end (I.ok.hd M) st p.isList (by simp;omega) λj S=>⟨rfl,I.turned (t':=s.toks) (λb o f e=>S b o f e) t y B A D⟩
 self:=λ_ _ _ _ _ st h=>wpAny_pyIter_listiter st h
def afd{P:akr}{w:World}{K:aP}{R:Expr}(a it:Addr):Turn P w K R (tA K a) [it] it (λi h=>h.IsTupleIter it a i) where
 mem:=by simp
 obj:=λi h st b g=>by
  have e:b=it:=by simpa using g
  subst e;refine bR λf=>?_
  obtain⟨o,e,c,d⟩:=st;exact f ⟨o,e,λv z=>by rw[d]at z;cases z⟩
 keep:=λi h m st k=>st.at λo e=>k it (by simp) o e
 item:=by
  intro X y hw J N i L s U H E I n st q;subst y hw J;refine bR λf=>?_
  obtain⟨xs,x,l,r⟩:=q;obtain⟨j,t,p,hz⟩:=I.tuple l;obtain⟨u,S,V⟩:=t.get r;obtain⟨A,B,W,F,D,G⟩:=n it (by simp);refine f ?_;refine wpAny_pyNext_tuple_item st (show s.heap.IsTuple a j.toArray from p) (x:=u) (by simpa using S) λm M Y=>?_
  have Q:Inv X L U H { s with heap:=m }:=I.turned (t':=s.toks) (λb o g e=>(Y.2 b g).trans e) A B F D G;refine bR λf=>?_
  obtain⟨o,e,c,d⟩:=id M;exact f ⟨u,rfl,wK (s:={ s with heap:=m }) e c d (by decide) ⟨x,H,Q,V,⟨rfl,λC O=>by rw[I.Rm O l];exact r⟩,M,λb g=>(n b g).1⟩⟩
 done:=by
  intro X y hw J N i L s U H E I n st q;subst y hw J;refine bR λf=>?_
  obtain⟨xs,l,r⟩:=q;obtain⟨j,t,p,hz⟩:=I.tuple l;obtain⟨A,B,W,F,D,G⟩:=n it (by simp);have Z:=t.length;exact f (wpAny_pyNext_tuple_end (I.ok.hd N) st (show s.heap.IsTuple a j.toArray from p) (by simp;omega) λm T=>⟨rfl,I.turned (t':=s.toks) (λb o g e=>T b o g e) A B F D G⟩)
 self:=λ_ _ _ _ _ st h=>wpAny_pyIter_tupleiter st h
def afc{P:akr}{w:World}{K:aP}{F:Expr}(it:Addr)(d:Int)(n:Nat):Turn P w K F (p9 d n) [it] it (λi h=>IsRangeIter h it (d+(i:Nat)*1) ((n:Int)-(i:Nat)) 1) where
 mem:=by simp
 obj:=λi h st b a=>by
  have e:b=it:=by simpa using a
  subst e;exact⟨_,st,λv z=>by
   cases z⟩
 keep:=λi h m st k=>k it (by simp) _ st
 item:=by
  intro X y hw A p i u s U H E I c st f;subst y hw A;obtain⟨g,j,J,q,l,r⟩:=c it (by simp);refine(Walks.range (w:=X.w) (I.ok.hd p) it d 1 n).item i s _ _ f st λv m tk B x gz=>?_
  obtain⟨t,rfl⟩:=B;have D:Inv X u U H { s with heap:=m,toks:=tk }:=I.turned (λb o a e=>gz b o (by simpa using a) e) g j q l r;refine⟨_,rfl,wK x rfl rfl (by decide) ⟨.int (d+i),H,D,⟨t,?_⟩,⟨rfl,rfl⟩,x,λb a=>(c b a).1⟩⟩;rw[Int.mul_one]
 done:=by
  intro X y hw A p i u s U H E I c st f;obtain⟨g,j,J,q,l,r⟩:=c it (by simp);exact wpAny_pyNext_range_end (I.ok.hd p) st (by have:n<=i:=f;omega) λm G=>⟨rfl,I.turned (λb o a e=>G b o a e) g j q l r⟩
 self:=λ_ _ _ _ _ st h=>wpAny_pyIter_rangeiter st h
section
variable{X:aN}{cI:Expr}
def Zc(K:aP)(c:TE):TI:=λU H R=>c U H λx b=>∃a,x=.ref a/\(∃xs,dy K b a xs)/\R (k4 K a) b
def Zd(K:aP)(c:TE):TI:=λU H R=>c U H λx b=>∃a,x=.ref a/\(∃xs,dQ K b a xs)/\R (tA K a) b
def xS(m:b6 X l C):j5 X cI l (Zc X.K C):=by
 intro j s U H R I h;refine cb (m j s U H _ I h) λv s1 g=>?_
 obtain⟨x,d,c,k,bw⟩:=g;obtain⟨a,e,⟨xs,f⟩,q⟩:=bw;subst e;cases k;obtain⟨n,r,p,hz⟩:=c.list f;refine alR p.isList<|⟨s1.heap.objs.size,[s1.heap.objs.size],_,_,d,rfl,c.kept λb o e=>akb _ e,afb a _,⟨_,akk _ rfl,rfl,rfl⟩,λb i=>?_,q⟩
 have e:b=s1.heap.objs.size:=by simpa using i
 subst e;exact c.rP (akf _) (c.bP.fresh (akf _))
def PT(n:b6 X l C):j5 X cI l (Zd X.K C):=by
 intro k s U H R I h;refine cb (n k s U H _ I h) λv s1 i=>?_
 obtain⟨x,f,c,m,bw⟩:=i;obtain⟨a,e,⟨xs,g⟩,q⟩:=bw;subst e;cases m;obtain⟨d,r,p,hz⟩:=c.tuple g;refine amk (show s1.heap.IsTuple a d.toArray from p)<|⟨s1.heap.objs.size,[s1.heap.objs.size],_,_,f,rfl,c.kept λb o e=>akb _ e,afd a _,⟨_,akk _ rfl,rfl,rfl⟩,λb j=>?_,q⟩
 have e:b=s1.heap.objs.size:=by simpa using j
 subst e;exact c.rP (akf _) (c.bP.fresh (akf _))
def adA{d:c0}{U:St}{H:au}{s:akd}{R:iO->au->Prop}{E:cZ}{a c:Int}{t u v:Tok}{tk:Nat}(I:Inv X d U H s)(h:-(2 ^ 62)<=a)(i:a<2 ^ 62)(j:-(2 ^ 62)<=c)(k:c<2 ^ 62)
  (q:R (p9 a (c-a).toNat) H):wpAny (model X.prog X.w) X.A (pyIter (.ref s.heap.objs.size)) (H2 X d U cI R) E { s with heap:=s.heap.push { cls:=.type "range",data:=.fields #[.int a t,.int c u,.int 1 v] },toks:=tk }:=by
 refine wpAny_pyIter_range (IsRange.new ..) (small_one h i j k) ?_;have f:Inv X d U H { s with heap:=s.heap.push { cls:=.type "range",data:=.fields #[.int a t,.int c u,.int 1 v] },toks:=tk }:=I.kept λb o e=>akb _ e
 refine⟨(s.heap.push { cls:=.type "range",data:=.fields #[.int a t,.int c u,.int 1 v] }).objs.size,[(s.heap.push { cls:=.type "range",data:=.fields #[.int a t,.int c u,.int 1 v] }).objs.size],_,_,H,rfl,
  f.kept λb o e=>akb _ e,afc _ a (c-a).toNat,?_,λb g=>?_,q⟩
 .have aq:a+((0:Nat):Int)*1=a:=by simp
  have aC:(((c-a).toNat:Nat):Int)-((0:Nat):Int)=Builtin.Range.rangeSize a c 1:=by rw[rangeSize_one];split<;>omega
  rw[aq,aC];exact akk _ rfl
 .have e:b=(s.heap.push { cls:=.type "range",data:=.fields #[.int a t,.int c u,.int 1 v] }).objs.size:=by simpa using g
  subst e;exact f.rP (akf _) (f.bP.fresh (akf _))
def Ex(b:gH):TI:=λU H R=>b U H λvs a=>∃j:Int,vs=[.int j]/\-(2 ^ 62)<=j/\j<2 ^ 62/\R (p9 0 j.toNat) a
def Gm(b:eS X "range")(k:X.mg "range"=none)(d:gR X [a] o)(av:akT [a] X.env=[(false,eval a X.env)]:=by rfl):j5 X cI (.Call (.Name "range" p) [a] [] pos) (Ex o):=by
 intro c s U H R I h;refine Call_ (uu I b k boot_range (amD (cb (d pos c s U H _ I h) λus s1 ⟨vs,l,i,f,bw⟩=>?_) av rfl));obtain⟨j,e,bw,cB,q⟩:=bw;subst e
 cases f with
 |cons r g=>
  cases g;obtain⟨t,rfl⟩:=r;exact call_range_1 (adA i (by omega) (by omega) bw cB (by simpa using q))
def sY(wi:TI)(g:jG)(dt:gZ):gZ:=λD U H=>wi U H λb d=>∃W:Nat->Nat->St->au->Prop,(∃m,W 0 m U d)/\∀i m U H,W i m U H->
 (b.stop i H/\D.bl U H)\/(b.go i H/\∃N:St->au->Prop,(∀U' a,N U' a->∃c,c<m/\W (i+1) c U' a)/\∀x a,b.pT i H x a->g x U a λf e=>dt { D with bl:=N,cM:=N,bk:=D.bl } f e)
def u4(a:List Addr)(h:Heap):List (Addr×Obj):=a.filterMap λb=>(h.get? b).map λo=>(b,o)
def AR{h:Heap}(a:b∈C)(e:h.get? b=some o):(b,o)∈u4 C h:=List.mem_filterMap.mpr ⟨b,a,by rw[e];rfl⟩
def abD{h:Heap}(a:p∈u4 C h):p.1∈C/\h.get? p.1=some p.2:=by
 obtain⟨b,c,e⟩:=List.mem_filterMap.mp a
 cases q:h.get? b with
 |none=>rw[q]at e;cases e
 |some o=>
  rw[q]at e;have d:=akF e;subst d;exact⟨c,q⟩
def Inv.pinned{s:akd}(I:Inv X ae U H s)(k:∀b∈C,hH X ae H b)(g:∀b∈C,∃o,s.heap.get? b=some o/\∀v,o.data≠.cell v):Inv X (ae++u4 C s.heap) U H s:=
 I.PV λp f=>(akO.mp f).elim (λz=>I.pin p (akH _ z)) λz=>by
  obtain⟨a,e⟩:=abD z;obtain⟨h,i,j,_⟩:=k p.1 a;obtain⟨o,c,d⟩:=g p.1 a;rw[e]at c;cases c;exact⟨e,h,i,j,d⟩
def Inv.yn(I:Inv X (o++pl) U H s):Inv X o U H s:=I.PV λp a=>I.pin p (akH _ (ale _ a))
def xU{j:Expr}{body:List Stmt}{wi:TI}{g:jG}{dt:gZ}{pos:Pos}(E:anm (model X.prog X.w) X.A X.env X.dv)(hc:X.calm=true)(hi:j5 X cI j wi)(a0:p' X cI g)(c:iw X body dt)
  (av:jH X j:=by intro _;rfl):iQ X (.For cI j body [] pos) (sY wi g dt):=by
 intro z s U H D I h;refine wpAny_For (cb (hi z s U H _ I h) λv s1 af=>cb af λAi s2 ah=>?_) av;refine bR λa=>?_
 obtain⟨it,B,fX,b',aQ,e,cj,T,cJ,Z,W,⟨m0,rj⟩,turn⟩:=ah;subst e;have R:∀{q:au},(∀b∈B,q b=none)->∀b∈B,hH X z q b:=λaG b c=>⟨aG b c,(Z b c).2⟩
 refine a ?_;refine codeAny_forLoop_any (λn s'=>∃i U' q,Inv X z U' q s'/\fX i s'.heap/\(∀b∈B,q b=none)/\W i n U' q) ?_ m0 ⟨0,U,aQ,cj,cJ,λb c=>(Z b c).1,rj⟩;rintro n s3 ⟨i,G,J,Y,C,V,ti⟩;refine bR λa=>?_
 rcases turn i n G J ti with⟨stop,xY⟩|⟨go,N,hN,step⟩
 .refine a ?_
  refine amP E (cb (T.done X rfl rfl rfl hc i z s3 G J X.dv Y (R V) C stop) λr s4 y=>?_);obtain⟨K,mA⟩:=y;subst K;exact aow ⟨G,J,mA,xY⟩
 .refine a ?_
  refine amP E (cb (T.item X rfl rfl rfl hc i z s3 G J X.dv Y (R V) C go) λr s4 y=>?_);refine bR λa=>?_
  obtain⟨u,K,dn⟩:=y;subst K;refine a ?_;refine amP E (cb dn λ_ s5 y=>?_);refine bR λa=>?_
  obtain⟨x,nI,tw,GB,O,S,zQ⟩:=y;refine a ?_;refine amP E (cb (a0 _ s5 G nI x u _ (tw.pinned (R zQ) (T.obj _ _ S)) GB (step x nI O)) λ_ s6 y=>?_);refine bR λa=>?_
  obtain⟨Q,Sj,vI,L⟩:=y;refine a ?_;refine amP E (cb (c _ s6 Q Sj _ vI L) λf s7 t=>?_);have again:∀{p:St}{l:au},Inv X (z++u4 B s5.heap) p l s7->N p l->∃m,m<n/\∃i U' q,Inv X z U' q s7/\fX i s7.heap/\(∀b∈B,q b=none)/\W i m U' q:=λ{p l} k F=>by
   refine bR λa=>?_
   obtain⟨ec,hm,M⟩:=hN p l F;refine a ⟨ec,hm,i+1,p,l,k.yn,T.keep _ _ _ S λb c o e=>(k.pin (b,o) (akH _ (akH _ (AR c e)))).1,λb c=>?_,M⟩;refine bR λa=>?_
   obtain⟨o,e,d⟩:=T.obj _ _ S b c;exact a ((k.pin (b,o) (akH _ (akH _ (AR c e)))).2.1)
  refine bR λa=>?_
  cases f with
  |next=>refine a ?_;obtain⟨p,l,k,F⟩:=t;exact again k F
  |cont=>refine a ?_;obtain⟨p,l,k,F⟩:=t;exact again k F
  |brk=>refine a ?_;obtain⟨p,l,k,t⟩:=t;exact⟨p,l,k.yn,t⟩
  |ret v=>refine a ?_;obtain⟨P,p,l,k,GC,t⟩:=t;exact⟨P,p,l,k.yn,GC,t⟩
end
abbrev fZ:=V->V->au->c_->Prop
def eL(X:aN)(f:Value->Value->Sem Value)(r:fZ):Prop:=
 ∀(a:c0)(s:akd)(U:St)(H:au)(x y:V)(v u:Value)(Q:c_),Inv X a U H s->RelV x v->RelV y u->r x y H Q->
  wpAny (model X.prog X.w) X.A (f v u) (iN X a U Q) X.dv s
def jB(X:aN)(f:Value)(r:List V->au->c_->Prop):Prop:=
 ∀(a:c0)(s:akd)(U:St)(H:au)(xs:List V)(us:List Value)(Q:c_),Inv X a U H s->Vals xs us->r xs H Q->
  wpAny (model X.prog X.w) X.A (call f us) (iN X a U Q) X.dv s
def vg(r:fZ)(c dt:TE):TE:=λU H Q=>c U H λx a=>dt U a λy b=>r x y b Q
def kQ(C:Int->Int->Prop)(g:Int->Int->V):fZ:=λx y H Q=>∃i j,x=.int i/\y=.int j/\C i j/\Q (g i j) H
def ik(g:Int->Int->V):fZ:=λx y H Q=>∃i j,x=.int i/\y=.int j/\Q (g i j) H
section
variable{X:aN}{a b:Expr}{cC dt:TE}{pos:Pos}
def CI(j:b6 X a cC)(i:b6 X b dt){d:c0}{s:akd}{U:St}{H:au}{R:V->V->au->Prop}(I:Inv X d U H s)
  (h:cC U H λx e=>dt U e λy c=>R x y c) {Q:cZ}{f:Value->Value->Sem Value}
  (q:∀v u s2 x y c,Inv X d U c s2->RelV x v->RelV y u->R x y c->wpAny (model X.prog X.w) X.A (f v u) Q X.dv s2) :
  wpAny (model X.prog X.w) X.A (eval a X.env) (λv p=>wpAny (model X.prog X.w) X.A (eval b X.env) (λu r=>wpAny (model X.prog X.w) X.A (f v u) Q X.dv r) X.dv p) X.dv s:=by
 refine cb (j d s U H _ I h) λv s1 g=>?_
 obtain⟨x,e,l,k,bw⟩:=g;refine cb (i d s1 U e _ l bw) λu s2 g=>?_
 obtain⟨y,c,n,m,cB⟩:=g;exact q v u s2 x y c n k m cB
def PQ{op:Operator}{r:fZ}(j:eL X (alP op) r)(g:b6 X a cC)(e:b6 X b dt):b6 X (.BinOp a op b pos) (vg r cC dt):=by
 intro f s U H Q I h;exact wpAny_BinOp (CI g e I h λv u s2 x y d k c i q=>j f s2 U d x y v u Q k c i q)
def uY{f:Value->Value->Sem Value}{C:Int->Int->Prop}{g:Int->Int->Int}
  (c:∀(i j:Int)(t u:Tok)(s:akd)(Q:cZ)(E:cZ),C i j->Q (.int (g i j) s.toks) { s with toks:=s.toks+1 }->wpAny (model X.prog X.w) X.A (f (.int i t) (.int j u)) Q E s) :
  eL X f (kQ C λi j=>.int (g i j)):=by
 intro l s U H x y v u Q I d e h;obtain⟨i,j,rfl,rfl,k,q⟩:=h;obtain⟨t,rfl⟩:=d;obtain⟨t',rfl⟩:=e;exact c i j t t' s _ _ k ⟨.int (g i j),H,I.tok _,⟨_,rfl⟩,q⟩
def A7{f:Value->Value->Sem Value}{g:Int->Int->Int}
  (c:∀(i j:Int)(t u:Tok)(s:akd)(Q:cZ)(E:cZ),Q (.int (g i j) s.toks) { s with toks:=s.toks+1 }->wpAny (model X.prog X.w) X.A (f (.int i t) (.int j u)) Q E s) :
  eL X f (ik λi j=>.int (g i j)):=by
 intro k s U H x y v u Q I d e h;obtain⟨i,j,rfl,rfl,q⟩:=h;obtain⟨t,rfl⟩:=d;obtain⟨t',rfl⟩:=e;exact c i j t t' s _ _ ⟨.int (g i j),H,I.tok _,⟨_,rfl⟩,q⟩
def A6{f:Value->Value->Sem Value}{g:Int->Int->Bool}
  (c:∀(i j:Int)(t u:Tok)(s:akd)(Q:cZ)(E:cZ),Q (.bool (g i j)) s->wpAny (model X.prog X.w) X.A (f (.int i t) (.int j u)) Q E s) :
  eL X f (ik λi j=>.az (g i j)):=by
 intro k s U H x y v u Q I d e h;obtain⟨i,j,rfl,rfl,q⟩:=h;obtain⟨t,rfl⟩:=d;obtain⟨t',rfl⟩:=e;exact c i j t t' s _ _ ⟨.az (g i j),H,I,rfl,q⟩
def yJ(i j:Int):Prop:=0<=j/\j<=1000000/\i.natAbs<2 ^ 64
def yI(i j:Int):Prop:=(-(2 ^ 64)<i/\i<2 ^ 64)\/(-(2 ^ 64)<j/\j<2 ^ 64)
def yI.ok{i j:Int}(h:yI i j):IntMulOk i j:=by
 rcases h with⟨o,C⟩|⟨o,C⟩
 .exact .of_left (intBits_le_64 o C)
 .exact .of_right (intBits_le_64 o C)
def aff(k:Nat):(0:Int)<=2 ^ k:=Int.natCast_nonneg _
def abL:eL X (alP .Add) (ik λi j=>.int (i+j)):=A7 λ_ _ _ _ _ _ _ q=>add_int q
def abY:eL X (alP .Sub) (ik λi j=>.int (i-j)):=A7 λ_ _ _ _ _ _ _ q=>sub_int q
def abS:eL X (alP .Mod) (kQ (λ_ j=>0<j) λi j=>.int (i % j)):=uY λi j _ _ _ _ _ c q=>by
 exact mod_int' (by omega) (by rw[Int.fmod_eq_emod_of_nonneg i (by omega)];exact q)
def abV:eL X (alP .Pow) (kQ yJ λi j=>.int (i ^ j.toNat)):=uY λ_ _ _ _ _ _ _ c q=>pow_int_small c.1 c.2.1 c.2.2 q
def abW:eL X (alP .LShift) (kQ yJ λi j=>.int (i*2 ^ j.toNat)):=uY λ_ _ _ _ _ _ _ c q=>lshift_int_small c.1 c.2.1 c.2.2 q
def abX:eL X (alP .RShift) (kQ (λ_ j=>0<=j) λi j=>.int (i / 2 ^ j.toNat)):=uY λi j _ _ _ _ _ c q=>
 rshift_int c (by rw[anS i (aff _)];exact q)
def abN:eL X (alP .BitAnd) (ik λi j=>.int (amz i j)):=A7 λ_ _ _ _ _ _ _ q=>and_int q
def abU:eL X (alP .BitOr) (ik λi j=>.int (anc i j)):=A7 λ_ _ _ _ _ _ _ q=>or_int q
end
section
variable{X:aN}{a b c:Expr}{cC dt vi:TE}{pos:Pos}
def Dx{Q:c_}{k d:Bool}(I:Inv X o U H s)(q:Q (.az k) H)(e:k=d):iN X o U Q (.bool d) s:=by
 subst e;exact⟨.az k,H,I,rfl,q⟩
def Gd:eL X (ak2 .Lt) (ik λi j=>.az (decide (i<j))):=A6 λ_ _ _ _ _ _ _ q=>lt_int q
def xM:eL X (ak2 .LtE) (ik λi j=>.az (decide (i<=j))):=A6 λ_ _ _ _ _ _ _ q=>le_int q
def abQ:eL X (ak2 .Gt) (ik λi j=>.az (decide (j<i))):=A6 λ_ _ _ _ _ _ _ q=>gt_int q
def Pz:eL X (ak2 .GtE) (ik λi j=>.az (decide (j<=i))):=A6 λ_ _ _ _ _ _ _ q=>ge_int q
def PB:eL X (ak2 .In) (λx y H Q=>∃i j,x=.str i/\y=.str j/\Q (.az (!(amh j i 0 j.length 1).isEmpty)) H):=by
 intro f s U H x y v u Q I d e h;obtain⟨i,j,rfl,rfl,q⟩:=h;obtain⟨t,rfl⟩:=d;obtain⟨t',rfl⟩:=e;exact in_str (Dx I q rfl)
def PC:eL X (ak2 .Is) (λx y H Q=>y=.ay/\Q (.az (decide (x=.ay))) H):=by
 intro f s U H x y v u Q I d e h;obtain⟨rfl,q⟩:=h;cases e;refine is_none_gen (Dx I q ?_);cases x<;>(obtain⟨t,rfl⟩:=d;rfl)
def PE:eL X (ak2 .IsNot) (λx y H Q=>y=.ay/\Q (.az (!decide (x=.ay))) H):=by
 intro f s U H x y v u Q I d e h;obtain⟨rfl,q⟩:=h;cases e;refine isnot_none_gen (Dx I q ?_);cases x<;>(obtain⟨t,rfl⟩:=d;rfl)
def iH(b:Expr){op:CmpOp}(h:op≠.In:=by decide)(d:op≠.NotIn:=by decide):alS op b=false:=by
 have aq:(op==CmpOp.In)=false:=by cases op<;>first|rfl|exact absurd rfl h
 have aC:(op==CmpOp.NotIn)=false:=by cases op<;>first|rfl|exact absurd rfl d
 cases b<;>simp[alS,aq,aC]
def acv{op:CmpOp}{r:fZ}(k:eL X (ak2 op) r)(i:b6 X a cC)(f:b6 X b dt)(m:alS op b=false):b6 X (.Compare a [op] [b] pos) (vg r cC dt):=by
 intro g s U H Q I h;exact wpAny_Compare1 (CI i f I h λv u s2 x y e l d j q=>k g s2 U e x y v u Q l d j q) m
def yh(t:TE):TT:=λU H Q=>t U H λx d=>∃k,x=.az k/\Q k d
theorem ada{op:CmpOp}{r:fZ}(m:eL X (ak2 op) r)(j:b6 X a cC)(i:b6 X b dt)(A:alS op b=false):i' X (.Compare a [op] [b] pos) (yh (vg r cC dt)):=by
 intro d s U H Q I h;refine wpAny_isTrue_Compare1 (cb (j d s U H _ I h) λv s1 ⟨x,f,n,l,bw⟩=>cb (i d s1 U f _ n bw) λu s2 ⟨y,g,t,q,cB⟩=>
  cb (m d s2 U g x y v u _ t l q cB) λc s3 ⟨z,p,w,D,k,e,B⟩=>?_) A
 subst e;cases D;exact alA ⟨p,w,B⟩
def Q5(r g:fZ)(cC dt vi:TE):TE:=λU H Q=>cC U H λx e=>dt U e λy f=>r x y f λz d=>∃k,z=.az k/\
 (if k=true then vi U d λh i=>g y h i Q else Q (.az false) d)
def ac9{op i:CmpOp}{r j:fZ}(G:eL X (ak2 op) r)(P:eL X (ak2 i) j)(E:b6 X a cC)(D:b6 X b dt)(N:b6 X c vi)
  (O:lastMarks [op,i] [b,c]=false:=by with_unfolding_all rfl):i' X (.Compare a [op,i] [b,c] pos) (yh (Q5 r j cC dt vi)):=by
 intro f s U H Q I h;refine isTrue_chain (cb (E f s U H _ I h) λv s1 ⟨x,w,J,F,bw⟩=>test_link (cb (D f s1 U w _ J bw) λu s2 ⟨y,A,K,m,cB⟩=>
  cb (G f s2 U A x y v u _ K F m cB) λd s3 ⟨z,l,n,Z,k,e,p⟩=>?_)) O
 subst e;cases Z;refine alA ?_
 cases k with
 |false=>
  obtain⟨dW,L,S⟩:=p;cases L;exact ite_ff ⟨l,n,S⟩
 |true=>
  refine ite_tt (test_last (cb (N f s3 U l _ n p) λM Y ⟨W,R,T,C,q⟩=>cb (P f Y U R y W u M _ T m C q) λd' s5 B=>?_));obtain⟨eY,V,o,t,k2,aC,g⟩:=B;subst aC;cases t;exact alA ⟨V,o,g⟩
def w':(akg:Nat)<2 ^ 63:=by decide
def abM:eL X (alP .Add) (λx y H Q=>∃i j,x=.str i/\y=.str j/\i.length+j.length<=akg/\Q (.str (i++j)) H):=by
 intro f s U H x y v u Q I d e h;obtain⟨i,j,rfl,rfl,hz,q⟩:=h;obtain⟨t,rfl⟩:=d;obtain⟨t',rfl⟩:=e;exact add_str (λt' tk=>⟨.str (i++j),H,I.tok _,⟨_,rfl⟩,q⟩) hz
def vals1(r:Vals [x] us):∃u,us=[u]/\RelV x u:=by
 cases r with
 |cons d e=>cases e;exact⟨_,rfl,d⟩
def vals2(r:Vals [x,y] us):∃u d,us=[u,d]/\RelV x u/\RelV y d:=by
 cases r with
 |cons e f=>
  cases f with
  |cons g h=>cases h;exact⟨_,_,rfl,e,g⟩
def Ue:jB X (.builtin "abs") (λxs H Q=>∃i,xs=[.int i]/\Q (.int (if i<0 then -i else i)) H):=by
 intro d s U H xs us Q I r h;obtain⟨i,rfl,q⟩:=h;obtain⟨u,rfl,t,rfl⟩:=vals1 r;exact call_abs_int λu tk=>⟨.int (if i<0 then -i else i),H,I.tok _,⟨_,rfl⟩,q⟩
def Um(e:X.calm=true):jB X (.builtin "max") (λxs H Q=>∃i j,xs=[.int i,.int j]/\Q (.int (if j > i then j else i)) H):=by
 intro f s U H xs us Q I r h;obtain⟨i,j,rfl,q⟩:=h;obtain⟨u,g,rfl,⟨t,rfl⟩,⟨t',rfl⟩⟩:=vals2 r;refine max_two_ints (I.ok.hd e) λl tk k=>⟨_,H,I.kept k,?_,q⟩
 by_cases d:j > i
 .rw[if_pos d,if_pos d];exact⟨_,rfl⟩
 .rw[if_neg d,if_neg d];exact⟨_,rfl⟩
def Uh:jB X (.type "int") (λxs H Q=>(∃i,xs=[.int i]/\Q (.int i) H)\/∃k,xs=[.az k]/\Q (.int (if k then 1 else 0)) H):=by
 intro e s U H xs us Q I r h;rcases h with⟨i,rfl,q⟩|⟨k,rfl,q⟩
 .obtain⟨u,rfl,t,rfl⟩:=vals1 r
  exact call_int_int ⟨.int i,H,I,⟨_,rfl⟩,q⟩
 .obtain⟨u,rfl,d⟩:=vals1 r
  cases d;exact call_int_bool ⟨.int (if k then 1 else 0),H,I.tok _,⟨_,rfl⟩,q⟩
end
structure rz(h:Heap)(x cx C:Addr)(eV:ba):Prop where
 obj:h.get? x=some (amU C cx)
 ns:h.Ns1 cx eV
 ne:cx≠x
def aaI{h:Heap}{c:ba}(n:h.Ns1 C c):∃d,h.get? C=some d/\∀name,W.lookIn name d=some (c name):=by
 obtain⟨o,b,cD,i,hd,g,_,k⟩:=n;refine⟨o,i,λname=>?_⟩;have e:=k name;unfold nsFind findBy at e;rw[<-Array.find?_toList]at e;unfold W.lookIn;rw[hd];dsimp only;split
 .rename_i y q
  rw[q]at e;exact congrArg some e
 .rename_i q
  rw[q]at e;have a:b.toList.any (·.refKey)=false:=by
   rw[List.any_eq_false];intro y f;obtain⟨z,t,l⟩:=g y (Array.mem_toList_iff.mp f);simp[DictEntry.refKey,l]
  have j:¬b.toList.any (·.refKey)=true:=by rw[a];exact akp
  rw[if_neg j];exact congrArg some e
def rz.look{b:ba}(I:rz h x U C b):∃a,W.InstAt h x (amU C U) C (some a)/\∀name,W.lookIn name a=some (b name):=
 let⟨a,o,hl⟩:=aaI I.ns
 ⟨a,⟨I.obj,rfl,rfl,o⟩,hl⟩
section
variable{prog:akr}{w:World}{A:akw}{E:cZ}{s:akd}{K:aP}{x cx C f:Addr}{eV:ba}{name:Str}{v:Value}
def get_map{a:Bool}{Q:cZ}(X:K.In s.heap)(I:rz s.heap x cx C eV)(b:an5 K C name=true)(hh:aoC K C=true)
  (c:al7 K (.ref C) name=some none) (e:eV name=some v) (i:W.handedIn v=true) (h:Q v { s with toks:=s.toks+1 }) :
  wpAny (model prog w) A (getAttr (.ref x) name a) Q E s:=by
 obtain⟨j,d,g⟩:=I.look;exact W.get_value X d (W.plainGet_of b).1 (W.findObj_own hh c rfl (by rw[g,e])) i h
def V2{pl:Sem Bool}{Q:Value×List Value->akd->Prop}(X:K.In s.heap)(I:rz s.heap x cx C eV)(a:an5 K C name=true)
  (e:al7 K (.ref C) name=some (some (.ref f))) (d:W.isFn K (.ref f)=true) (c:eV name=none) (h:Q (.ref f,[.ref x]) s) :
  wpAny (model prog w) A (getMethod (.ref x) name pl) Q E s:=by
 obtain⟨i,b,g⟩:=I.look;exact W.method_fn X b (W.plainGet_of a).1 (W.plainGet_of a).2 e (beq_iff_eq.mp d) (by show(W.lookIn name i).map (·.isSome)=some false;rw[g,c];rfl) h
def adY{ns:List Str}{Q:Unit->akd->Prop}(X:K.In s.heap)(I:rz s.heap x cx C eV)
  (av:al7 K (.ref C) "__setattr__"=some (some (.builtin "object.__setattr__"))) (l:W.plainOver K C=true) (q:W.takerIn K C name=some none) (hh:aoC K C=true)
  (hw:Within eV ns) (t:ns.length<=akg)
  (h:∀a,rz a x cx C (λy=>if y=name then some v else eV y)->anr cx s.heap a->Q () { s with heap:=a,toks:=s.toks+2 }) :
  wpAny (model prog w) A (setAttr (.ref x) name v) Q E s:=by
 obtain⟨z,c,u⟩:=I.look;refine W.set_plain X c av (W.osa_open X c l q λb=>?_);obtain⟨cd,r,g⟩:=W.any_some hh;refine aka (akn (aka (aka (wpAny_loadPart I.obj (aka (W.Looks.here (W.looks_clsIn X r) ?_))))));rw[g];refine akn (aka (akn (aka ?_)));refine wpAny_nsSet1 I.ns λa e d=>?_
 obtain⟨m,p,n,k,j,i⟩:=e.count (Within.cons name v hw);refine aka (wpAny_lookBehind k (by rw[j];exact pastItsLine_dict (alc i (by rw[akx];omega))) ?_);exact akn (h _ ⟨(d.2 _ (alQ I.ne)).trans I.obj,e,I.ne⟩ d)
def aaP{R:Result->akd->Prop}{vs:List Value}{a:List (Str×Value)}(X:K.In s.heap)(d:W.makesIn K C=true)
  (c:al7 K (.ref C) "__init__"=some (some (.ref f))) (b:W.typeIn K (.ref f)=some (.type "function"))
  (h:amM (model prog w) (A.under (.builtin "type.__call__" ⟨.ref C::vs,a⟩)) (.call (.ref f) ⟨.ref (s.heap.objs.size+1)::vs,a⟩) (W.InitBack (s.heap.objs.size+1) R)
   { s with heap:=(s.heap.push amq).push (amU C s.heap.objs.size) }) :
  amM (model prog w) A (.call (.ref C) ⟨vs,a⟩) R s:=W.make_core (W.makes_of X d) (W.looks_findIn X c) (λself=>W.bind_fn X self b) (.inl rfl) h
end
def i2(f:Str)(v:V):List (Str×V)->List (Str×V)
 |[]=>[(f,v)]
 |(g,x)::r=>if g=f then(g,v)::r else(g,x)::i2 f v r
theorem OK(f g:Str)(v:V):∀fs:List (Str×V),(i2 f v fs).lookup g=if g=f then some v else fs.lookup g
 |[]=>by
  show alI g [(f,v)]=_
  by_cases h:g=f
  .have a:(g==f)=true:=beq_iff_eq.mpr h
   simp only[alI,a,if_pos h]
  .have a:(g==f)=false:=beq_eq_false_iff_ne.mpr h
   simp only[alI,a,if_neg h]
 |(k,x)::r=>by
  have c:=OK f g v r;rw[show i2 f v ((k,x)::r)=(if k=f then(k,v)::r else(k,x)::i2 f v r)from rfl]
  by_cases b:k=f
  .rw[if_pos b]
   by_cases h:g=k
   .have a:(g==k)=true:=beq_iff_eq.mpr h
    simp only[alI,a,if_pos (h.trans b)]
   .have a:(g==k)=false:=beq_eq_false_iff_ne.mpr h
    simp only[alI,a,if_neg (λe:g=f=>h (e.trans b.symm))]
  .rw[if_neg b]
   by_cases h:g=k
   .have a:(g==k)=true:=beq_iff_eq.mpr h
    simp only[alI,a,if_neg (λe:g=f=>b (h.symm.trans e))]
   .have a:(g==k)=false:=beq_eq_false_iff_ne.mpr h
    simp only[alI,a];exact c
theorem ES(f:Str)(v:V):∀fs:List (Str×V),f∈(i2 f v fs).map (·.1)/\∀g,g∈fs.map (·.1)->g∈(i2 f v fs).map (·.1)
 |[]=>⟨by simp[i2],λg h=>by simp at h⟩
 |(k,x)::r=>by
  obtain⟨gW,b⟩:=ES f v r;rw[show i2 f v ((k,x)::r)=(if k=f then(k,v)::r else(k,x)::i2 f v r)from rfl]
  by_cases a:k=f
  .rw[if_pos a]
   subst a;exact⟨by simp,λg h=>by simpa using h⟩
  .rw[if_neg a]
   refine⟨?_,λg h=>?_⟩
   .rw[akm]
    exact aki _ gW
   .rw[akm]at h ⊢
    rcases akq.mp h with e|e
    .exact akq.mpr (.inl e)
    .exact aki _ (b g e)
theorem OF(f:Str)(v:V):∀fs:List (Str×V),(i2 f v fs).length<=fs.length+1
 |[]=>by simp[i2]|(k,x)::r=>by
  have b:=OF f v r;rw[show i2 f v ((k,x)::r)=(if k=f then(k,v)::r else(k,x)::i2 f v r)from rfl]
  by_cases a:k=f
  .rw[if_pos a,akx,akx];omega
  .rw[if_neg a,akx,akx];omega
def iR.some_of{v:V}(r:iR (some v) o):∃u,o=some u/\RelV v u:=by
 cases o with
 |none=>exact(show False from r).elim|some u=>exact⟨u,rfl,r⟩
def iR.none_of(r:iR none o):o=none:=by
 cases o with
 |none=>rfl|some u=>exact(show False from r).elim
def WD{v:V}(r:RelV v u):W.handedIn u=true:=by
 cases v with
 |ay=>cases(show u=alv from r);rfl
 |az b=>cases(show u=an3 b from r);rfl
 |int i=>obtain⟨t,e⟩:=(show ∃t,u=anl i t from r);cases e;rfl
 |str x=>obtain⟨t,e⟩:=(show ∃t,u=anG x t from r);cases e;rfl
 |zl b=>obtain⟨t,e⟩:=(show ∃t,u=Value.bytes b t from r);cases e;rfl
 |zO b=>obtain⟨t,e⟩:=(show ∃t,u=Value.float b t from r);cases e;rfl
 |ref a=>cases(show u=akZ a from r);rfl
 |ty n=>cases(show u=amZ n from r);rfl
section
variable{P:akr}{w:World}{H:au}{h:Heap}{a C cx:Addr}{fs:List (Str×V)}
def EC(bP:fm P w H h)(e:H a=some (.ins C cx fs)):∃b,rz h a cx C b/\(∀f,iR (fs.lookup f) (b f))/\Within b (fs.map (·.1))/\fs.length<=1000/\H cx=some (.own a):=by
 obtain⟨d,z,ne,bD,b,n,r,q⟩:=(show gG P w H h a (.ins C cx fs)from bP a _ e);exact⟨b,⟨bD,n,ne⟩,r,q,z,d⟩
end
structure i8(K:aP)(C:Addr):Prop where
 mj:an5 K C Str.empty=true
 hd:aoC K C=true
 po:W.plainOver K C=true
 pG:al7 K (.ref C) "__setattr__"=some (some (.builtin "object.__setattr__"))
def i8.get{K:aP}{C:Addr}(c:i8 K C)(f:Str):an5 K C f=true:=c.mj
def rx(K:aP)(C:Addr)(f:Str):Prop:=al7 K (.ref C) f=some none
def rx.aeU{K:aP}{C:Addr}{f:Str}(n:rx K C f):W.takerIn K C f=some none:=by
 unfold W.takerIn;rw[show al7 K (.ref C) f=some none from n];rfl
structure Meth(K:aP)(C:Addr)(m:Str)(f:Addr):Prop where
 at_:al7 K (.ref C) m=some (some (.ref f))
 fn:W.isFn K (.ref f)=true
 kp:alX K (.ref f)=true
section
variable{X:aN}{ae:c0}{U:St}{H:au}{s:akd}{a C cx:Addr}{fs:List (Str×V)}{f:Str}{v:V}{A:akw}{E:cZ}
def V3{b:Bool}{Q:cZ}(I:Inv X ae U H s)(e:H a=some (.ins C cx fs))(c:i8 X.K C)(n:rx X.K C f)(l:fs.lookup f=some v)
  (h:∀u s',Inv X ae U H s'->RelV v u->Q u s'):wpAny (model X.prog X.w) A (getAttr (.ref a) f b) Q E s:=by
 obtain⟨i,O,r,_,_,_⟩:=EC I.bP e;obtain⟨u,g,d⟩:=iR.some_of (v:=v) (o:=i f) (by rw[<-l];exact r f);exact get_map I.fi O (c.get f) c.hd n g (WD d) (h u _ (I.tok _) d)
def zW{m:Str}{g:Addr}{pl:Sem Bool}{Q:Value×List Value->akd->Prop}(I:Inv X ae U H s)(e:H a=some (.ins C cx fs))(c:i8 X.K C)(k:Meth X.K C m g)(l:fs.lookup m=none)
  (h:Q (.ref g,[.ref a]) s):wpAny (model X.prog X.w) A (getMethod (.ref a) m pl) Q E s:=by
 obtain⟨d,O,r,_,_,_⟩:=EC I.bP e;have b:=iR.none_of (by rw[<-l];exact r m);exact V2 I.fi O (c.get m) k.at_ k.fn b h
def adZ{y:V}{u:Value}{Q:Unit->akd->Prop}(I:Inv X ae U H s)(e:H a=some (.ins C cx fs))(c:i8 X.K C)(n:rx X.K C f)(x:fs.length<1000)(m:RelV y u)
  (h:∀s',Inv X ae U (upd H a (.ins C cx (i2 f y fs))) s'->Q () s'):wpAny (model X.prog X.w) A (setAttr (.ref a) f u) Q E s:=by
 obtain⟨j,O,r,wi,_,i⟩:=EC I.bP e;have hz:(fs.map (·.1)).length<=akg:=by rw[akc,akS];omega
 refine adY I.fi O c.pG c.po n.aeU c.hd wi hz λp d t=>h _ ?_
 have hd:∃o,p.get? cx=some o:=let⟨o,_,_,ct,_⟩:=d.ns;⟨o,ct⟩
 refine I.write (by rw[e];exact aly) (.inr i) (λb q l z=>(t.2 b l).trans z) hd ?_;refine⟨by rw[du O.ne];exact i,?_,O.ne,d.obj,_,d.ns,λg=>?_,λg k=>?_⟩
 .have:=OF f y fs;omega
 .show iR ((i2 f y fs).lookup g) (if g=f then some u else j g)
  rw[OK]
  by_cases q:g=f
  .rw[if_pos q,if_pos q];exact m
  .rw[if_neg q,if_neg q];exact r g
 .by_cases q:g=f
  .rw[q];exact(ES f y fs).1
  .refine(ES f y fs).2 g (wi g λz=>k ?_)
   show(if g=f then some u else j g)=none;rw[if_neg q];exact z
def Inv.made(I:Inv X ae U H s):Inv X ae U (upd (upd H s.heap.objs.size (.own (s.heap.objs.size+1))) (s.heap.objs.size+1) (.ins C s.heap.objs.size []))
  { s with heap:=(s.heap.push amq).push (amU C s.heap.objs.size) }:=by
 have aq:(s.heap.push amq).get? s.heap.objs.size=some amq:=akk s.heap rfl;have aC:((s.heap.push amq).push (amU C s.heap.objs.size)).get? (s.heap.objs.size+1)=some (amU C s.heap.objs.size):=by
  have:=akk (s.heap.push amq) (o:=amU C s.heap.objs.size) rfl
  rwa[alY]at this
 have cP:(s.heap.push amq).Ns s.heap.objs.size (λ_=>none):=⟨amq,#[],_,aq,rfl,(λe he=>absurd he (by simp)),λ_=>rfl⟩;refine(I.laid (o:=.own (s.heap.objs.size+1)) (t':=s.toks) (λb u q=>akb _ q) (akf _) ⟨_,aq⟩).laid (λb u q=>akb _ q) (alE (alY _ _)) ?_;have ne:s.heap.objs.size≠s.heap.objs.size+1:=akv (amE _);refine⟨by rw[du ne,dU],akG _,ne,aC,λ_=>none,(Heap.Ns1.of_empty cP).at λo q=>akb _ q,λ_=>aly,λy c=>absurd rfl c⟩
def S0{prog:akr}{w:World}{env:Env}{e:Expr}{f:Str}{pos:Pos}{s:akd}{Q:cZ}(b:alL e f env (eval e env)=eval e env)
  (h:wpAny (model prog w) A (eval e env) (λo c=>wpAny (model prog w) A (getAttr o f true) Q E c) E s):wpAny (model prog w) A (eval (.Attribute e f pos) env) Q E s:=
 Attribute_any_ h (by rw[arm_eval_Attribute,b])
end
def aez(K:aP)(c:TE)(f:Str):TE:=λU H Q=>c U H λx b=>∃a C d fs v,x=.ref a/\b a=some (.ins C d fs)/\i8 K C/\rx K C f/\fs.lookup f=some v/\Q v b
def adR(K:aP)(e g:TE)(f:Str):gZ:=λD U H=>g U H λy d=>e U d λx b=>∃a C c fs,x=.ref a/\b a=some (.ins C c fs)/\i8 K C/\rx K C f/\fs.length<1000/\
 D.bl U (upd b a (.ins C c (i2 f y fs)))
section
variable{X:aN}{o e value:Expr}{f:Str}{pos pos':Pos}{cC lM:TE}
def acA(he:b6 X e cC)(i:alL e f X.env (eval e X.env)=eval e X.env):b6 X (.Attribute e f pos) (aez X.K cC f):=by
 intro j s U H Q I h;refine S0 i (cb (he j s U H _ I h) λu s1 g=>?_);obtain⟨x,b,k,d,a,C,t,fs,v,ex,p,c,n,l,q⟩:=g;subst ex;obtain rfl:=d;exact V3 k p c n l λw s2 m r=>⟨v,b,m,r,q⟩
def ac5(i:b6 X o cC)(k:b6 X value lM)(av:alr value (some (.Attribute o f pos')) pos.line X.env=pure false):iQ X (.Assign [.Attribute o f pos'] value pos) (adR X.K cC lM f):=by
 intro b s U H D I h;refine plainObj_wpAny_Assign_Attribute (cb (k b s U H _ I h) λu s1 ⟨y,d,m,j,q⟩=>cb (i b s1 U d _ m q) λcc s2 ⟨x,w,p,g,a,C,z,fs,ex,r,c,n,l,cB⟩=>?_) av;subst ex;obtain rfl:=g;exact adZ p r c n l j λs3 t=>⟨U,_,t,cB⟩
def ajM{pl:Sem Bool}{m:Str}{b:Pos}{args:List Expr}{i:c0}{s:akd}{U:St}{H:au}{Q:cZ}{p:TE}(he:b6 X e p)(I:Inv X i U H s)
  (h:p U H λx d=>∃a C n fs g,x=.ref a/\d a=some (.ins C n fs)/\i8 X.K C/\Meth X.K C m g/\fs.lookup m=none/\
   ∀s1,Inv X i U d s1->wpAny (model X.prog X.w) X.A (callWith pos (.ref g) [.ref a] (al0 pos (akT args X.env)) (anh pos (amo [] X.env))) Q X.dv s1)
  (t:eval (.Call (.Attribute e m b) args [] pos) X.env=(do
   let cc <-eval e X.env
   standAt b.atName
   let(f,first) <-holding [cc] (getMethod cc m pl)
   callWith pos f first (al0 pos (akT args X.env)) (anh pos (amo [] X.env)))) :
  wpAny (model X.prog X.w) X.A (eval (.Call (.Attribute e m b) args [] pos) X.env) Q X.dv s:=by
 refine ant (pl:=pl) (cb (he i s U H _ I h) λu s1 ⟨x,d,j,r,a,C,n,fs,g,ex,y,c,k,l,q⟩=>?_) t;subst ex;obtain rfl:u=akZ a:=r;exact zW j y c k l (q s1 j)
end
structure cL(k:Nat)(A:akw):Prop where
 hd:A.handled=none
 wj:A.depth+3*k+5<recursionLimit
 un:A.units+16*k+200<cLine
def cL.mono{j k:Nat}(r:cL k A)(h:j<=k):cL j A:=⟨r.hd,by have:=r.wj;omega,by have:=r.un;omega⟩
def cL.deeper{k:Nat}{A:akw}(r:cL (k+1) A)(env:Env):cL k (A.deeper env):=
 ⟨r.hd,by have:=r.wj;show A.depth+1+3*k+5 < _;omega,by have:=r.un;show A.units+3+16*k+200 < _;omega⟩
def cL.in1{k:Nat}{A:akw}(r:cL (k+1) A):cL k A.in1:=
 ⟨r.hd,by have:=r.wj;show A.depth+3*k+5 < _;omega,by have:=r.un;show A.units+1+16*k+200 < _;omega⟩
def aaO{A:akw}:(A.under (.builtin "type.__call__" ⟨.ref C::us,kw⟩)).depth=A.depth+1:=by
 rfl
def aaQ{A:akw}:(A.under (.builtin "type.__call__" ⟨.ref C::us,kw⟩)).units=A.units+1:=by
 rfl
def cL.make{k:Nat}{A:akw}(r:cL (k+1) A)(C:Addr)(us:List Value)(a:List (Str×Value)):cL k (A.under (.builtin "type.__call__" ⟨.ref C::us,a⟩)):=
 ⟨r.hd,by have:=r.wj;rw[aaO];omega,by have:=r.un;rw[aaQ];omega⟩
def cL.depth{k:Nat}{A:akw}(r:cL k A):A.depth<recursionLimit:=by have:=r.wj;omega
def cL.units{k:Nat}{A:akw}(r:cL k A):A.units+64<cLine:=by have:=r.un;omega
def cL.afi{k:Nat}{A:akw}(r:cL k A):A.units<cLine:=by have:=r.un;omega
def yg:gH:=λ_ H Q=>Q [] H
def aet(c:TE)(jX:gH):gH:=λU H Q=>c U H λx a=>jX U a λxs b=>Q (x::xs) b
section
variable{X:aN}{e:Expr}{ax:List Expr}{te:TE}{t:gH}{pos:Pos}
def PL:gR X [] yg:=λ_ _ _ _ H Q I h=>anZ ⟨[],H,I,.nil,h⟩
theorem Gi(g:b6 X e te)(c:gR X ax t)(av:fQ X e ax:=by rfl):gR X (e::ax) (aet te t):=by
 intro pos a s U H Q I h;rw[av];show wpAny _ _ (spliced ((false,eval e X.env)::al0 pos (akT ax X.env))) _ _ s;refine amV (cb (g a s U H _ I h) λu s1 f=>?_);obtain⟨x,b,j,i,bw⟩:=f;exact cb (c pos a s1 U b _ j bw) λus s2 ⟨xs,d,l,k,cB⟩=>⟨x::xs,d,l,.cons i k,cB⟩
def aeQ(t:gH):TE:=λU H Q=>t U H λxs a=>xs.length<=akg/\∀p,a p=none->Q (.ref p) (upd a p (.t xs))
def aeB(t:gH):TE:=λU H Q=>t U H λxs a=>xs.length<=akg/\∀p,a p=none->Q (.ref p) (upd a p (.l xs))
theorem Gk{o}(h:gR X ax t):b6 X (.Tuple ax o pos) (aeQ t):=by
 intro f s U H Q I d;refine wpAny_Tuple_spliced (cb (h pos f s U H _ I d) λus s1 ⟨xs,c,a,r,z,q⟩=>⟨by rw[<-r.length];exact z,?_⟩);refine⟨.ref s1.heap.objs.size,upd c s1.heap.objs.size (.t xs),a.laid (λb u e=>akb _ e) (akf _) ?_,rfl,q _ (a.bP.fresh (akf _))⟩;exact⟨z,us,r,⟨_,akk _ rfl,rfl,_,rfl⟩⟩
theorem acF(h:gR X ax t):b6 X (.List ax pos) (aeB t):=by
 intro f s U H Q I d;refine wpAny_List_spliced (cb (h pos f s U H _ I d) λus s1 ⟨xs,c,a,r,z,q⟩=>⟨by rw[<-r.length];exact z,?_⟩);refine⟨.ref s1.heap.objs.size,upd c s1.heap.objs.size (.l xs),a.laid (λb u e=>akb _ e) (akf _) ?_,rfl,q _ (a.bP.fresh (akf _))⟩;exact⟨z,us,0,r,akk _ rfl⟩
end
abbrev et:=List V->au->c_->e7->Prop
abbrev my:=List Env->au->akd->e7->Value->akd->Prop
structure lQ(P:akr)(w:World)(K:aP)(mg:ba)(base:Heap)(A:akw)(outer:List Env)(s:akd)(H:au):Prop where
 frames:A.frames=some outer
 mod:Mod K mg base
 bs:∀b o,base.get? b=some o->s.heap.get? b=some o/\H b=none
 lX:base.objs.size<=s.heap.objs.size
 kD:s.heap.FunFrames base outer
 o3:∀b∈hx outer,H b=none
 bP:fm P w H s.heap
 bare:amL s.gens
def j1(outer:List Env)(P:akr)(w:World)(H:au)(s:akd)(Q:c_)(u:Value)(s':akd):Prop:=
 ∃v a,s'.os=s.os/\amL s'.gens/\gI (hx outer) [] H a s.heap s'.heap/\fm P w a s'.heap/\RelV v u/\Q v a
def HH(a:my)(outer:List Env)(P:akr)(w:World)(H:au)(s:akd)(Q:c_)(E:e7)(r:Result)(s':akd):Prop:=
 match r with
 |.ok (.ret u)=>j1 outer P w H s Q u s'|.ok _=>False|.error e=>a outer H s E e s'
structure ff(P:akr)(w:World)(K:aP)(mg:ba)(base:Heap)(CX:my)(k:Nat)(f:Addr)(fd:ala)(ps:List Str)(sp:et):Prop where
 len:∀vs H Q E,sp vs H Q E->vs.length=ps.length
 run:∀(A:akw)(outer:List Env)(s:akd)(H:au)(args:Args)(us:List Value)(vs:List V)(Q:c_)(E:e7),cL k A->lQ P w K mg base A outer s H->BindsTo s fd args (ps.zip us)->Vals vs us->sp vs H Q E->
  amM (model P w) A (.call (.ref f) args) (HH CX outer P w H s Q E) s
def ff.mono{P:akr}{w:World}{K:aP}{mg:ba}{base:Heap}{a:my}{j k:Nat}{f:Addr}{b:ala}{ps:List Str}{sp:et}(F:ff P w K mg base a j f b ps sp)(h:j<=k) :
  ff P w K mg base a k f b ps sp:=⟨F.len,λA outer s H args us vs Q E c=>F.run A outer s H args us vs Q E (c.mono h)⟩
def ff.imp{P:akr}{w:World}{K:aP}{mg:ba}{base:Heap}{a:my}{k:Nat}{f:Addr}{c:ala}{ps:List Str}{sp b:et}(F:ff P w K mg base a k f c ps sp)
  (h:∀vs H Q E,b vs H Q E->sp vs H Q E):ff P w K mg base a k f c ps b:=
 ⟨λvs H Q E q=>F.len vs H Q E (h _ _ _ _ q),λA outer s H args us vs Q E d he e g av=>F.run A outer s H args us vs Q E d he e g (h _ _ _ _ av)⟩
def lQ.make{P:akr}{w:World}{K:aP}{mg:ba}{base:Heap}{A:akw}{outer:List Env}{s:akd}{H:au}(e:lQ P w K mg base A outer s H)(C:Addr)(us:List Value)(a:List (Str×Value)) :
  lQ P w K mg base (A.under (.builtin "type.__call__" ⟨.ref C::us,a⟩)) outer s H:=⟨by(simpa[Around.under,Code.envs,Code.isFrame,pushEnvs]using e.frames),e.mod,e.bs,e.lX,e.kD,e.o3,e.bP,e.bare ⟩
def lQ.in1{P:akr}{w:World}{K:aP}{mg:ba}{base:Heap}{A:akw}{outer:List Env}{s:akd}{H:au}(e:lQ P w K mg base A outer s H) :
  lQ P w K mg base A.in1 outer s H:=⟨e.frames,e.mod,e.bs,e.lX,e.kD,e.o3,e.bP,e.bare⟩
section
variable{X:aN}{ae:c0}{U:St}{H:au}{s s':akd}
def Inv.wq(I:Inv X ae U H s):lQ X.prog X.w X.K X.mg X.base X.A X.stack s H:=
 ⟨I.ok.frames,I.ok.mod,I.bs,alc I.ok.lX I.jv,I.stack,I.G6,I.bP,I.bare⟩
def Inv.after(I:Inv X ae U H s)(h:j1 X.stack X.prog X.w H s Q u s'):iN X ae U Q u s':=by
 obtain⟨v,a,os,bare,un,bP,r,q⟩:=h;obtain⟨hh,g,d,t,c⟩:=s';obtain rfl:=os;exact⟨v,a,I.call un bP bare (λb z=>absurd z (by simp)),r,q⟩
end
def Q4(sp:et)(a:List V)(E:e7)(t:gH):TE:=λU H Q=>t U H λvs b=>sp (vs++a) b Q E
def Q6(C:Addr)(m:Str)(sp:et)(b:List V)(E:e7)(e:TE)(t:gH):TE:=λU H Q=>e U H λx c=>∃a f fs,x=.ref a/\c a=some (.ins C f fs)/\fs.lookup m=none/\
 t U c λvs d=>sp (x::(vs++b)) d Q E
def aeC(C:Addr)(sp:et)(c:List V)(E:e7)(t:gH):TE:=λU H Q=>t U H λvs b=>∀x a,b x=none->b a=none->a≠x->
 sp (.ref x::(vs++c)) (upd (upd b a (.own x)) x (.ins C a [])) (λv d=>v=.ay/\Q (.ref x) d) E
def Binds(K:aP)(a:ala)(ps:List Str)(ds:List Value):Prop:=
 ∀(s:akd)(us:List Value),K.In s.heap->(us++ds).length=ps.length->BindsTo s a ⟨us,[]⟩ (ps.zip (us++ds))
def Binds.all{K:aP}{a:ala}{ps:List Str}(h:∀us:List Value,us.length=ps.length->amF a ⟨us,[]⟩=pure (ps.zip us)):Binds K a ps []:=λs us _ b=>by
 rw[ak5]at b ⊢;exact .of_eq (h us b)
def Passes(a:my)(X:aN)(E:e7):Prop:=∀(b:c0)(U:St)(H:au)(s:akd)(e:Value)(s':akd),Inv X b U H s->a X.stack H s E e s'->X.dv e s'
section
variable{X:aN}{CX:my}{k:Nat}{f C:Addr}{fd:ala}{ps:List Str}{sp:et}{dvs:List V}{ds:List Value}{E:e7}{x m:Str}{p pos apos:Pos}{e o:Expr}{ax:List Expr}{cC:TE}{t:gH}
theorem x7{b:c0}{U:St}{H:au}{s:akd}{Q:c_}{us:List Value}{vs:List V}(F:ff X.prog X.w X.K X.mg X.base CX k f fd ps sp)(d:cL k X.A)(i:Binds X.K fd ps ds)(hd:Vals dvs ds)(j:Passes CX X E)
  (I:Inv X b U H s) (r:Vals vs us) (h:sp (vs++dvs) H Q E):wpAny (model X.prog X.w) X.A (call (.ref f) us) (iN X b U Q) X.dv s:=by
 have c:Vals (vs++dvs) (us++ds):=r.append hd;have l:(us++ds).length=ps.length:=by rw[<-c.length];exact F.len _ _ _ _ h
 refine an6 (ame (F.run X.A X.stack s H ⟨us,[]⟩ (us++ds) (vs++dvs) Q E d I.wq (i s us I.fi l) c h) λr s' a=>?_)
 cases r with
 |error e=>exact j b U H s e s' I a|ok g=>
  cases g with
  |ret u=>exact I.after a|next=>exact akI a
  |brk=>exact akI a|cont=>exact akI a
def acp(F:ff X.prog X.w X.K X.mg X.base CX k f fd ps sp)(c:cL k X.A)(b:eS X x)(y:X.mg x=some (.ref f))(l:alX X.K (.ref f)=true)(d:Binds X.K fd ps ds)(hd:Vals dvs ds)(i:Passes CX X E)
  (j:gR X (e::ax) t) (n:fo x:=by decide) (he:fQ X e ax:=by rfl) (u:gJ X pos ax:=by rfl) :
  b6 X (.Call (.Name x p) (e::ax) [] pos) (Q4 sp dvs E t):=by
 intro g s U H Q I h;refine alO (qS I b y ?_ n);refine anu I.ok.mod.qR l (cb (j pos g s U H _ I h) λus s1 ⟨vs,z,a,r,q⟩=>⟨a.fi,?_⟩) he u;exact x7 F c d hd i a r q
def acq(F:ff X.prog X.w X.K X.mg X.base CX k f fd ps sp)(b:cL k X.A)(a:eS X x)(j:X.mg x=some (.ref f))(g:alX X.K (.ref f)=true)(c:Binds X.K fd ps ds)(hd:Vals dvs ds)(d:Passes CX X E)
  (i:fo x:=by decide):b6 X (.Call (.Name x p) [] [] pos) (Q4 sp dvs E yg):=by
 intro l s U H Q I h;refine alO (qS I a j ?_ i);exact W.callWith_K0 I.fi g (x7 F b c hd d I .nil h)
theorem acH{pl:Sem Bool}(he:b6 X o cC)(c:i8 X.K C)(i:Meth X.K C m f)(F:ff X.prog X.w X.K X.mg X.base CX k f fd ps sp)(y:cL k X.A)(z:Binds X.K fd ps ds)(hd:Vals dvs ds)(B:Passes CX X E)(D:gR X (e::ax) t)
  (M:fQ X e ax:=by rfl) (L:gJ X pos ax:=by rfl)
  (G:oN X pl o m apos (e::ax) pos:=by rfl) :
  b6 X (.Call (.Attribute o m apos) (e::ax) [] pos) (Q6 C m sp dvs E cC t):=by
 intro b s U H Q I h;refine ant (cb (he b s U H _ I h) λu s1 ⟨x,j,d,n,a,O,fs,ex,J,l,q⟩=>?_) G;subst ex;obtain rfl:=n;refine zW d J c i l<|anu I.ok.mod.qR i.kp (cb (D pos b s1 U j _ d q) λus s2 ⟨vs,N,g,r,cB⟩=>⟨g.fi,?_⟩) M L
 exact x7 (vs:=.ref a::vs) F y z hd B g (.cons rfl r) cB
theorem acI{pl:Sem Bool}(he:b6 X o cC)(c:i8 X.K C)(d:Meth X.K C m f)(F:ff X.prog X.w X.K X.mg X.base CX k f fd ps sp)(i:cL k X.A)(j:Binds X.K fd ps ds)(hd:Vals dvs ds)(r:Passes CX X E)
  (y:oN X pl o m apos [] pos:=by rfl) :
  b6 X (.Call (.Attribute o m apos) [] [] pos) (Q6 C m sp dvs E cC yg):=by
 intro n s U H Q I h;refine ant (pl:=pl) (cb (he n s U H _ I h) λu s1 ⟨x,B,b,g,a,D,fs,ex,z,l,q⟩=>?_) y;subst ex;obtain rfl:u=akZ a:=g;refine zW b z c d l ?_;exact W.callWith_K0 (first:=[.ref a]) b.fi d.kp (x7 (us:=[.ref a]) (vs:=[.ref a]) F i j hd r b (.cons rfl .nil) q)
structure H0(K:aP)(C f:Addr):Prop where
 makes:W.makesIn K C=true
 init:al7 K (.ref C) "__init__"=some (some (.ref f))
 fn:W.isFn K (.ref f)=true
 kp:alX K (.ref C)=true
theorem adK{d:c0}{U:St}{H:au}{s:akd}{Q:c_}{us:List Value}{vs:List V}(M:H0 X.K C f)(F:ff X.prog X.w X.K X.mg X.base CX k f fd ps sp)(l:cL (k+1) X.A)(y:Binds X.K fd ps ds)(hd:Vals dvs ds)
  (z:Passes CX X E) (I:Inv X d U H s) (r:Vals vs us)
  (h:∀x c,H x=none->H c=none->c≠x->sp (.ref x::(vs++dvs)) (upd (upd H c (.own x)) x (.ins C c [])) (λv n=>v=.ay/\Q (.ref x) n) E) :
  wpAny (model X.prog X.w) X.A (call (.ref C) us) (iN X d U Q) X.dv s:=by
 have g:=h (s.heap.objs.size+1) s.heap.objs.size (I.bP.fresh (am7 _)) (I.bP.fresh (akf _)) (akv (amE _));have b:=Inv.made (C:=C) I;have i:Vals (V.ref (s.heap.objs.size+1)::(vs++dvs)) (akZ (s.heap.objs.size+1)::(us++ds)):=.cons rfl (r.append hd);have J:(akZ (s.heap.objs.size+1)::us++ds).length=ps.length:=by
  have e:=i.length;rw[F.len _ _ _ _ g]at e;exact e.symm
 refine an6 (aaP I.fi M.makes M.init (beq_iff_eq.mp M.fn) (ame (F.run _ X.stack _ _ ⟨akZ (s.heap.objs.size+1)::us,[]⟩ (akZ (s.heap.objs.size+1)::(us++ds)) _ _ E (l.make C us [])
  (b.wq.make C us []) (y _ (akZ (s.heap.objs.size+1)::us) b.fi J) i g) λr s' a=>?_))
 cases r with
 |error e=>exact z d U _ _ e s' b a|ok q=>
  cases q with
  |ret u=>
   obtain⟨v,j,D,B,G,L⟩:=b.after a;subst G;exact⟨B,⟨V.ref (s.heap.objs.size+1),j,D,rfl,L⟩⟩
  |next=>exact akI a
  |brk=>exact akI a|cont=>exact akI a
def acG(M:H0 X.K C f)(F:ff X.prog X.w X.K X.mg X.base CX k f fd ps sp)(c:cL (k+1) X.A)(b:eS X x)(u:X.mg x=some (.ref C))(d:Binds X.K fd ps ds)(hd:Vals dvs ds)(i:Passes CX X E)
  (j:gR X (e::ax) t) (l:fo x:=by decide) (he:fQ X e ax:=by rfl) (n:gJ X pos ax:=by rfl) :
  b6 X (.Call (.Name x p) (e::ax) [] pos) (aeC C sp dvs E t):=by
 intro g s U H Q I h;refine alO (qS I b u ?_ l);refine anu I.ok.mod.qR M.kp (cb (j pos g s U H _ I h) λus s1 ⟨vs,y,a,r,q⟩=>⟨a.fi,?_⟩) he n;exact adK M F c d hd i a r q
end
structure gP(N P:List Str)(sc:Scope):Prop where
 kind:sc.kind=.function:=by rfl
 co:sc.isCoroutine=false:=by rfl
 gen:sc.isGenerator=false:=by rfl
 cS:N.Nodup:=by decide +kernel
 pre:N.take P.length=P:=by rfl
 par:∀x∈P,sc.names.lookup x=some .local\/sc.names.lookup x=some .cell:=by decide +kernel
 abp:∀y∈sc.names,y.2≠.free:=by decide +kernel
theorem JX{kindOf:Str->Option amr}{x:Str}:∀{binds:List (Str×Value)}{m:ba},(∀v,(x,v)∉binds)->bindL kindOf binds m x=m x
 |[],_,_=>rfl|(n,v)::r,m,h=>by
  unfold bindL;rw[JX λw hw=>h w (aki _ hw)];split
  .have:x≠n:=by rintro rfl;exact h v akj
   simp[this]
  .rfl
theorem JV{kindOf:Str->Option amr}{x:Str}:∀{binds:List (Str×Value)}{m:ba},(∀v,(x,v)∉binds)->bindC kindOf binds m x=m x
 |[],_,_=>rfl|(n,v)::r,m,h=>by
  unfold bindC;rw[JV λw hw=>h w (aki _ hw)];split
  .rfl
  .have:x≠n:=by rintro rfl;exact h v akj
   simp[this]
theorem JW{kindOf:Str->Option amr}{v:Value}:∀{P:List Str}{vs:List Value}{i:Nat}{m:ba},P.Nodup->P[i]? = some x->vs[i]? = some v->kindOf x=some .local->
  bindL kindOf (P.zip vs) m x=some v
 |[],_,_,_,_,h,_,_=>by simp at h| _::_,[],_,_,_,_,h,_=>by simp at h|p::P,w::vs,0,m,cS,o,C,I=>by
  simp at o C;subst o;subst C;show bindL kindOf ((p,w)::P.zip vs) m p=_;unfold bindL;rw[JX λv a=>(ak8.mp cS).1 (amQ a).1,if_pos I];simp
 |p::P,w::vs,i+1,m,cS,o,C,I=>by
  unfold bindL;exact JW (ak8.mp cS).2 o C I
theorem JU{kindOf:Str->Option amr}{v:Value}:∀{P:List Str}{vs:List Value}{i:Nat}{m:ba},P.Nodup->P[i]? = some x->vs[i]? = some v->kindOf x≠some .local->
  bindC kindOf (P.zip vs) m x=some v
 |[],_,_,_,_,h,_,_=>by simp at h| _::_,[],_,_,_,_,h,_=>by simp at h|p::P,w::vs,0,m,cS,o,C,I=>by
  simp at o C;subst o;subst C;show bindC kindOf ((p,w)::P.zip vs) m p=_;unfold bindC;rw[JV λv a=>(ak8.mp cS).1 (amQ a).1,if_neg I];simp
 |p::P,w::vs,i+1,m,cS,o,C,I=>by
  show bindC kindOf ((p,w)::P.zip vs) m x=_;unfold bindC;exact JU (i:=i) (ak8.mp cS).2 (by simpa using o) (by simpa using C) I
def start(N:List Str)(vs:List V):St:=vs.map some++akA (N.length-vs.length) none
def f5(b:my)(P:akr)(w:World)(K:aP)(mg:ba)(base:Heap)(N:List Str)(qual:Str)(scope:Scope)(f:Addr)(cd:Value)(A:akw)(outer:List Env)(s:akd)(H:au)(E:e7):aN where
 prog:=P
 w:=w
 K:=K
 mg:=mg
 base:=base
 A:=A.deeper (amW qual scope s.heap.objs.size f cd)
 N:=N
 hr:=s
 H₀:=H
 env:=amW qual scope s.heap.objs.size f cd
 outer:=outer
 stack:=amW qual scope s.heap.objs.size f cd::outer
 ex:=[]
 calm:=true
 fn:=λ_=>true
 lE:=[]
 dv:=λe s'=>wpAny (model P w) (A.deeper (amW qual scope s.heap.objs.size f cd)) (leaving (amW qual scope s.heap.objs.size f cd) e) (λ_ a=>b outer H s E e a) (λc a=>b outer H s E c a) s'
def Kh{a:Scope}(h:a.names.lookup x=some .cell):∃c,(cellsFrom n a.names []).lookup x=some c:=Option.isSome_iff_exists.mp (aoi a.names n [] (.inl h))
def NP{B:my}{P:akr}{w:World}{K:aP}{mg:ba}{base:Heap}{N ps:List Str}{qual:Str}{scope:Scope}{f:Addr}{cd:Value}{A:akw}{outer:List Env}{s s1:akd}{H:au}{E:e7}{us:List Value}{vs:List V}
  (S:gP N ps scope) (hd:A.handled=none) (g:lQ P w K mg base A outer s H) (Q:vs.length=ps.length) (r:Vals vs us)
  (x:InCallC s s.heap.objs.size (bindL (amW qual scope s.heap.objs.size f cd).kindOf (ps.zip us) λ_=>none) (cellsFrom (s.heap.objs.size+1) scope.names []) (bindC (amW qual scope s.heap.objs.size f cd).kindOf (ps.zip us) λ_=>none) s1) :
  Inv (f5 B P w K mg base N qual scope f cd A outer s H E) [] (start N vs) H s1:=by
 have O:ps.length<=N.length:=by have:=congrArg alF S.pre;rw[amf]at this;omega
 obtain⟨m,tk,rfl,F⟩:=x.done;have t:∀b:Addr,b∉(f5 B P w K mg base N qual scope f cd A outer s H E).ex:=λb z=>absurd (show b∈([]:List Addr)from z) (by simp)
 refine⟨⟨g.mod,S.kind,rfl,rfl,akf _,λy z c m d=>?_,λy j=>?_,λy c _ h=>?_,λ_=>hd,Around.frames_deeper g.frames,.inr ⟨rfl,rfl⟩,λb z=>absurd z (t b),g.bs,g.lX,λb _ _=>t b,λb z=>absurd z (t b),g.kD,g.o3⟩,
  rfl,g.bare,gI.kept F,⟨_,x.toInCall.ns,λi y v m d M=>?_⟩,λy c h=>⟨_,x.cell y c h⟩,g.bP.fresh (akf _),λy c h=>?_,λp l=>absurd (show p∈([]:c0)from l) (by simp),g.bP.kept F,?_⟩
 .exact name_of_addr x.apart (alC m) (alC d)
 .have j:=j
  rcases j with j|j
  .exact Kh j
  .exact absurd rfl (S.abp _ (alC j))
 .exact alj (x.above y c (alC h))
 .have n:i<vs.length:=by
   unfold start at d
   by_cases n:i<vs.length
   .exact n
   .rw[aky (by simpa using n)]at d
    rw[alU]at d;split at d<;>cases d
  have J:vs[i]? = some v:=by
   unfold start at d;rw[akE (by simpa using n),akC]at d
   cases e:vs[i]? with
   |none=>rw[e]at d;cases d
   |some a=>rw[e]at d;cases d;rfl
  obtain⟨u,G,L⟩:=r.get J;have l:ps[i]? = some y:=by
   rw[<-S.pre,List.getElem?_take_of_lt (by omega)];exact m
  have D:ps.Nodup:=by rw[<-S.pre];exact S.cS.sublist (List.take_sublist _ _)
  refine⟨u,L,?_⟩;rcases S.par y (akQ l)with k|k
  .exact .inl ⟨k,JW D l G k⟩
  .obtain⟨c,e⟩:=Kh k
   refine .inr ⟨.inl k,c,e,?_⟩;have q:=x.cell y c e;rw[JU D l G (by show scope.names.lookup y≠_;rw[k];decide)]at q;exact q
 .exact g.bP.fresh (alj (x.above y c (alC h)))
 .unfold start
  show _=N.length;rw[akh,akc,alk];omega
def zP{i:my}{P:akr}{w:World}{K:aP}{mg:ba}{base:Heap}{k:Nat}{f:Addr}{name qual:Str}{params:anI}{body:List Stmt}{scope:Scope}{B cX h pm d cM c6:Value}{m Y:Option Addr}
  {R:Array (Option Value)}{N ps:List Str}{sp:et}(X:K.lookup f=some ⟨c6,Y,.func (alV name qual params body scope B cX h pm m d cM),R⟩) (T:anC K d qual=true) (S:gP N ps scope)
  (len:∀vs H Q E,sp vs H Q E->vs.length=ps.length)
  (Z:∀(A:akw)(outer:List Env)(s:akd)(H:au)(vs:List V)(Q:c_)(E:e7),cL k (A.deeper (amW qual scope s.heap.objs.size f d))->sp vs H Q E->
   ∃t,iw (f5 i P w K mg base N qual scope f d A outer s H E) body t/\t { bl:=λ_ a=>Q .ay a,cp:=Q } (start N vs) H) :
  ff P w K mg base i (k+1) f (alV name qual params body scope B cX h pm m d cM) ps sp:=by
 refine⟨len,λA outer s H args us vs Q E j g M r z=>?_⟩;have p:=g.mod.qR.keeps λb o e=>(g.bs b o e).1
 have D:∀y∈ps.zip us,scope.names.lookup y.1=some .local\/(scope.names.lookup y.1=some .cell/\((cellsFrom (s.heap.objs.size+1) scope.names []).lookup y.1).isSome=true):=λJ L=>by
  obtain⟨n,v⟩:=J;rcases S.par n (amQ L).1 with q|q
  .exact .inl q
  .exact .inr ⟨q,aoi _ _ _ (.inl q)⟩
 refine codeAny_call_function j.depth (p _ _ X) rfl S.co S.gen rfl (W.codeRec_of p T) (M _ _ _ _ ?_);refine wpAny_newFunctionEnv_cells S.kind D λenv he s1 x=>?_
 subst he;refine⟨(g.mod.nolimit.keeps λb o e=>(g.bs b o e).1).keeps x.toInCall.keep,codeAny_func ?_⟩;obtain⟨t,O,F⟩:=Z A outer s H vs Q E (j.deeper _) z;have I:Inv (f5 i P w K mg base N qual scope f d A outer s H E) [] (start N vs) H s1:=NP S j.hd g (len _ _ _ _ z) r x;refine akW (O [] s1 (start N vs) H _ I F) (λG s' av=>?_) λe s' av=>av
 have fin:∀{U':St}{a:au}{v:V}{u:Value},Inv (f5 i P w K mg base N qual scope f d A outer s H E) [] U' a s'->RelV v u->Q v a->j1 outer P w H s Q u s':=
  λ{U' a v u} c l q=>⟨v,a,c.os,c.bare,c.base,c.bP,l,q⟩
 cases G with
 |ret u=>
  obtain⟨v,U',a,c,l,q⟩:=av;exact fin c l q
 |next=>
  obtain⟨U',a,c,q⟩:=av;exact fin (v:=V.ay) c rfl q
 |brk=>
  obtain⟨_,_,_,q⟩:=av;exact akI q
 |cont=>
  obtain⟨_,_,_,q⟩:=av;exact akI q
section
variable{X:aN}{x:Str}{p pos:Pos}{e:Expr}{ax:List Expr}{t:gH}{id T:String}{r:List V->au->c_->Prop}
def G_(r:List V->au->c_->Prop)(t:gH):TE:=λU H Q=>t U H λvs a=>r vs a Q
def acr(m:jB X (.builtin id) r)(c:eS X x)(n:X.mg x=none)(i:akY x=some (.builtin id))(f:gR X (e::ax) t)(d:x≠"__name__":=by decide)(k:fo x:=by decide)
  (he:fQ X e ax:=by rfl) (l:gJ X pos ax:=by rfl):b6 X (.Call (.Name x p) (e::ax) [] pos) (G_ r t):=by
 intro a s U H Q I h;refine alO (uu I c n i ?_ d k);exact PyProof.Rows.callWith_builtin1 (cb (f pos a s U H _ I h) λus s1 ⟨vs,b,j,g,bw⟩=>m a s1 U b vs us Q j g bw) he l
def acs(m:jB X (.type T) r)(c:eS X x)(n:X.mg x=none)(i:akY x=some (.type T))(f:gR X (e::ax) t)(d:x≠"__name__":=by decide)(k:fo x:=by decide)
  (he:fQ X e ax:=by rfl) (l:gJ X pos ax:=by rfl):b6 X (.Call (.Name x p) (e::ax) [] pos) (G_ r t):=by
 intro a s U H Q I h;refine alO (uu I c n i ?_ d k);exact amD (cb (f pos a s U H _ I h) λus s1 ⟨vs,b,j,g,bw⟩=>m a s1 U b vs us Q j g bw) he l
end
end aB
namespace d_
open PySem PyProof.Rows
def Vp(A:akw)(s:akd)(a:Int)(t:Tok)(c:Int)(u:Tok):∃e,SeqAt.EqAt A s (.int a t) (.int c u) e/\(e=true↔a=c):=
 ⟨(a==c),aoU a t c u,by simp⟩
section
variable{prog:akr}{w:World}{A:akw}{E:cZ}{s:akd}
def c4(n d:Nat):Option Int->Nat
 |none=>d|some v=>if v<0 then(v+(n:Int)).toNat else min v.toNat n
def adT(n d:Nat):c4 n d none=d:=rfl
def GR(n d k:Nat):c4 n d (some (k:Int))=min k n:=by
 show(if(k:Int)<0 then((k:Int)+(n:Int)).toNat else min (k:Int).toNat n)=min k n;rw[if_neg (by omega),an0]
def adS(n d:Nat)(hd:d<=n)(o:Option Int):c4 n d o<=n:=by
 cases o with
 |none=>exact hd|some v=>
  show(if v<0 then(v+(n:Int)).toNat else min v.toNat n)<=n
  by_cases a:v<0
  .rw[if_pos a];omega
  .rw[if_neg a];exact Nat.min_le_right _ _
def Kn(v:Int)(n d:Nat):(if v<0 then max (v+(n:Int)) 0 else min v (n:Int))=((c4 n d (some v):Nat):Int):=by
 show(if v<0 then max (v+(n:Int)) 0 else min v (n:Int))=(((if v<0 then(v+(n:Int)).toNat else min v.toNat n):Nat):Int)
 by_cases a:v<0
 .simp only[if_pos a];omega
 .simp only[if_neg a];omega
def SG(b a:Option Int)(n:Nat):amR b a 1 (n:Int)=(((c4 n 0 b:Nat):Int),((c4 n n a:Nat):Int)):=by
 have c:¬((1:Int)<0):=by omega
 unfold amR;refine Prod.ext ?_ ?_
 .cases b with
  |none=>rfl|some v=>exact Kn v n 0
 .cases a with
  |none=>rfl|some v=>exact Kn v n n
def acW(i j:Nat):amb (i:Int) (j:Int) 1=j-i:=by
 unfold amb;have a:(1:Int) > 0:=by omega
 simp only[a,if_true,Int.ediv_one];split<;>omega
def QK{v:Value}{o:Option Int}{Q:Option Int->akd->Prop}(p:anv v o)(h:Q o s):wpAny (model prog w) A (Builtin.Slice.slicePartIndex v) Q E s:=by
 cases p with
 |none=>exact slicePart_none h|int i t=>exact slicePart_int h
def QJ{da:Addr}{c d:Value}{a b:Option Int}{n:Nat}{Q:Int×Int×Nat->akd->Prop}(av:s.heap.IsSliceOf da c d .none)(pl:anv c a)(g:anv d b)
  (h:Q (((c4 n 0 a:Nat):Int),1,c4 n n b-c4 n 0 a) s):wpAny (model prog w) A (anT (.ref da) (pure (n:Int))) Q E s:=by
 obtain⟨os,f,i,e⟩:=id av;unfold anT Builtin.Slice.sliceFields;refine aka (aka (alG f e (x:=c) rfl (aka (alG f e (x:=d) rfl (aka (alG f e (x:=.none) rfl (akn ?_)))))));refine aka (slicePart_none ?_);show wpAny _ _ (if((1:Int)==0)=true then _ else _) _ _ s;rw[if_neg (by decide)];refine aka (QK pl (aka (QK g (aka (akn ?_)))));show wpAny _ _ (match amR a b 1 (n:Int)with|(a,b)=>pure (a,(1:Int),amb a b 1)) _ _ s;rw[SG a b n];show wpAny _ _ (pure (((c4 n 0 a:Nat):Int),(1:Int),amb ((c4 n 0 a:Nat):Int) ((c4 n n b:Nat):Int) 1)) _ _ s;rw[acW];exact akn h
def acU(xs:Array Value)(i k:Nat):((akV k).filterMap λ(m:Nat)=>xs[((i:Int)+(m:Int)*1).toNat]?).toArray=((xs.toList.drop i).take k).toArray:=by
 have e:(λ(m:Nat)=>xs[((i:Int)+(m:Int)*1).toNat]?)=λm=>xs[i+m]?:=by
  funext m
  have:((i:Int)+(m:Int)*1).toNat=i+m:=by omega
  rw[this]
 rw[e];have:=pick_run xs i k;rw[List.filterMap_map]at this;have aC:((λx=>xs[x]?)∘λx=>i+x)=λm=>xs[i+m]?:=rfl
 rw[aC]at this;rw[this]
def VY{t da:Addr}{a:Array Value}{e f:Value}{b c:Option Int}{Q:cZ}(d:IsTup s.heap t a)(av:s.heap.IsSliceOf da e f .none)(pl:anv e b)(k:anv f c)
  (hw:¬(c4 a.size 0 b=0/\c4 a.size a.size c=a.size))
  (h:Q (.ref s.heap.objs.size) { s with heap:=s.heap.push { cls:=.type "tuple",data:=.seq ((a.toList.drop (c4 a.size 0 b)).take (c4 a.size a.size c-c4 a.size 0 b)).toArray } })
  (j:a.size<=akg):wpAny (model prog w) A (am0 (.ref t) (.ref da)) Q E s:=by
 have i:sizeOk (.seq ((a.toList.drop (c4 a.size 0 b)).take (c4 a.size a.size c-c4 a.size 0 b)).toArray):=by
  show((a.toList.drop (c4 a.size 0 b)).take (c4 a.size a.size c-c4 a.size 0 b)).toArray.size<=akg;rw[aks,amf,alp,ak1];omega
 have r:c4 a.size a.size c<=a.size:=adS _ _ (akf _) c;obtain⟨os,l,n,u⟩:=id av;have g:s.TypeIs (.ref da) "slice":=⟨os,l,n⟩;unfold am0
 try with_reducible refine alM ?_
 skip
 refine aka (wpAny_sequenceKey d.typeIs (by decide) ?_);refine aka (ami (name:=akR "__getitem__") d.typeIs alm
  (ani alm d.typeIs entry_tuple_getitem ?_ (args_tuple_getitem _ _)))
 show wpAny _ _ (anU (.ref t) >>= _) _ _ s;refine aka (tupleItemsOf_ d ?_);refine aka (wpAny_typeOf g ?_);rw[if_pos (by decide)];refine aka (QJ av pl k ?_);have p:¬((((c4 a.size 0 b:Nat):Int)==0&&(1:Int)==1&&(c4 a.size a.size c-c4 a.size 0 b)==a.size)=true):=by
  intro q;rw[akD,akD]at q;have bw:((c4 a.size 0 b:Nat):Int)=0:=eq_of_beq q.1.1;have cB:c4 a.size a.size c-c4 a.size 0 b=a.size:=eq_of_beq q.2;exact hw ⟨by omega,by omega⟩
 show wpAny _ _ (if(((c4 a.size 0 b:Nat):Int)==0&&(1:Int)==1&&(c4 a.size a.size c-c4 a.size 0 b)==a.size)=true then _ else _) _ _ s;rw[if_neg p,acU];exact aka (m:=Builtin.Tuple.tupleExact _) (amw (akn ⟨_,rfl,akn h⟩) i)
end
end d_
namespace aB
open PySem PySem.Spec PyProof.Rows
abbrev f3:=St->au->(Option Int->au->Prop)->Prop
def vO(X:aN)(e:Option Expr)(t:f3):Prop:=
 ∀(b:c0)(s:akd)(U:St)(H:au)(Q:Option Int->au->Prop),Inv X b U H s->t U H Q->
  wpAny (model X.prog X.w) X.A (evalPart e X.env) (λu s'=>∃o a,Inv X b U a s'/\anv u o/\Q o a) X.dv s
def aeF:f3:=λ_ H Q=>Q none H
def aeJ(t:TE):f3:=λU H Q=>t U H λx a=>∃i,x=.int i/\Q (some i) a
def intsAre_of{ns:List Int}:∀{us:List Value},Vals (ns.map V.int) us->amc us ns:=by
 induction ns with
 |nil=>intro us r;cases r;exact .nil
 |cons n ns a=>
  intro us r
  cases r with
  |cons b c=>
   obtain⟨t,e⟩:=b;subst e;exact .cons n t (a c)
section
variable{X:aN}{e:Expr}{te:TE}{lo hi:Option Expr}{hX Bx:f3}{pos eW:Pos}
def acX:vO X none aeF:=by
 intro a s U H Q I h;rw[evalPart_none];exact akn ⟨none,H,I,.none,h⟩
def acY(h:b6 X e te):vO X (some e) (aeJ te):=by
 intro c s U H Q I hw;rw[evalPart_some];refine cb (h c s U H _ I hw) λu s1 b=>?_
 obtain⟨x,a,f,d,bw⟩:=b;obtain⟨i,rfl,q⟩:=bw;obtain⟨t,rfl⟩:=d;exact⟨some i,a,f,.int i t,q⟩
def qc(X:aN)(r:V->Option Int->Option Int->au->c_->Prop):Prop:=
 ∀(a:c0)(s:akd)(U:St)(H:au)(x:V)(v b c:Value)(lo hi:Option Int)(da:Addr)(Q:c_),Inv X a U H s->RelV x v->s.heap.IsSliceOf da b c .none->anv b lo->anv c hi->r x lo hi H Q->
  ∃T id,typeLookup (.type T) "__getitem__"=pure (some (.builtin id))/\s.TypeIs v T/\wpAny (model X.prog X.w) X.A (am0 v (.ref da)) (iN X a U Q) X.dv s
def qc.or{r c:V->Option Int->Option Int->au->c_->Prop}(h:qc X r)(i:qc X c):qc X (λx lo hi H Q=>r x lo hi H Q\/c x lo hi H Q):=by
 intro b s U H x v d f lo hi da Q I a av pl g q;rcases q with q|q
 .exact h b s U H x v d f lo hi da Q I a av pl g q
 .exact i b s U H x v d f lo hi da Q I a av pl g q
def aeN(r:V->Option Int->Option Int->au->c_->Prop)(te:TE)(hX Bx:f3):TE:=λU H Q=>te U H λx a=>hX U a λl b=>Bx U b λu c=>r x l u c Q
def PR{r:V->Option Int->Option Int->au->c_->Prop}(k:qc X r)(he:b6 X e te)(B:vO X lo hX)(w:vO X hi Bx):b6 X (.Subscript e (.Slice lo hi none eW) pos) (aeN r te hX Bx):=by
 intro a s U H Q I h;refine Subscript_ (cb (he a s U H _ I h) λv s1 c=>?_);obtain⟨x,i,t,n,bw⟩:=c;refine wpAny_Slice (cb (B a s1 U i _ t bw) λd s2 ⟨l,m,y,pl,cB⟩=>cb (w a s2 U m _ y cB) λf s3 c=>?_);obtain⟨u,g,z,F,D⟩:=c;refine akn ?_;have E:Inv X a U g { s3 with heap:=s3.heap.push { cls:=.type "slice",data:=.fields #[d,f,.none] } }:=z.kept λb bD q=>akb _ q
 obtain⟨T,id,A,p,j⟩:=k a { s3 with heap:=s3.heap.push { cls:=.type "slice",data:=.fields #[d,f,.none] } } U g x v d f l u s3.heap.objs.size Q E n (Heap.IsSliceOf.new ..) pl F D;exact tail_any p A j (by with_unfolding_all rfl)
def tQ(xs:List V)(lo hi:Option Int):List V:=(xs.drop (d_.c4 xs.length 0 lo)).take (d_.c4 xs.length xs.length hi-d_.c4 xs.length 0 lo)
def Kx(xs:List V)(lo hi:Option Int):(tQ xs lo hi).length<=xs.length:=by
 unfold tQ;rw[amf,alp];omega
def adx(K:aP):V->Option Int->Option Int->au->c_->Prop:=λx lo hi H Q=>∃a xs,x=.ref a/\dQ K H a xs/\
 ¬(d_.c4 xs.length 0 lo=0/\d_.c4 xs.length xs.length hi=xs.length)/\∀p,H p=none->Q (.ref p) (upd H p (.t (tQ xs lo hi)))
theorem QI:qc X (adx X.K):=by
 intro k s U H x v l m lo hi da Q I g av pl j h;obtain⟨a,xs,rfl,i,hw,q⟩:=h;cases g;obtain⟨d,r,f,hz⟩:=I.tuple i;have c:d.toArray.size=xs.length:=by exact r.length.symm
 refine⟨"tuple",_,alm.lookup,f.typeIs,?_⟩;refine d_.VY f av pl j (by rw[c];exact hw) ?_ (by rw[c];exact hz);rw[c];refine⟨.ref s.heap.objs.size,_,I.laid (λb bD q=>akb _ q) (akf _) ?_,rfl,q _ (I.bP.fresh (akf _))⟩;exact⟨alc (Kx xs lo hi) hz,_,(r.drop (d_.c4 xs.length 0 lo)).take (d_.c4 xs.length xs.length hi-d_.c4 xs.length 0 lo),IsTup.new _ _⟩
end
def se(n:Nat)(i:Int):Option Nat:=if 0<=i then(if i<n then some i.toNat else none)else if -(n:Int)<=i then some (i+n).toNat else none
def fp{α:Type}(xs:List α)(i:Int):Option α:=(se xs.length i).bind λj=>xs[j]?
def Zz{i:Int}(h:se n i=some j):seqIndex? i n=some j/\j<n/\-(n:Int)<=i/\i<n:=by
 unfold se at h
 by_cases b:0<=i
 .rw[if_pos b]at h
  by_cases a:i<n
  .rw[if_pos a]at h
   have e:i.toNat=j:=akF h;exact⟨by rw[seqIndex_of b a,e],by omega,by omega,a⟩
  .rw[if_neg a]at h;cases h
 .rw[if_neg b]at h
  by_cases a:-(n:Int)<=i
  .rw[if_pos a]at h
   have e:(i+n).toNat=j:=akF h;exact⟨by rw[seqIndex_neg (by omega) a,e],by omega,a,by omega⟩
  .rw[if_neg a]at h;cases h
def zb{α:Type}{xs:List α}{i:Int}{v:α}(h:fp xs i=some v):∃j,seqIndex? i xs.length=some j/\xs[j]? = some v/\j<xs.length/\-(xs.length:Int)<=i/\i<xs.length:=by
 unfold fp at h
 cases e:se xs.length i with
 |none=>rw[e]at h;cases h
 |some j=>
  rw[e]at h;obtain⟨a,b,c,d⟩:=Zz e;exact⟨j,a,h,b,c,d⟩
def SV{α:Type}{xs:List α}{j:Nat}{v:α}(h:xs[j]? = some v):fp xs (j:Int)=some v:=by
 have a:=(ake.mp h).1;have e:se xs.length (j:Int)=some j:=by
  unfold se;rw[if_pos (by omega),if_pos (by omega)];simp
 unfold fp;rw[e];exact h
def H3(b:Expr):Prop:=∀o i,aoD b false o i=operate [o,i] (am0 o i)
def nJ(X:aN)(r:fZ):Prop:=
 ∀(value a:Expr)(b:c0)(s:akd)(U:St)(H:au)(x y:V)(v u:Value)(Q:c_),Inv X b U H s->RelV x v->RelV y u->r x y H Q->
  aoD a false v u=operate [v,u] (am0 v u)->wpAny (model X.prog X.w) X.A (subscriptTail value a v u) (iN X b U Q) X.dv s
def Cd(X:aN)(id:String)(r:V->List V->au->c_->Prop):Prop:=
 ∀(a:c0)(s:akd)(U:St)(H:au)(x:V)(xs:List V)(v:Value)(us:List Value)(Q:c_),Inv X a U H s->RelV x v->Vals xs us->r x xs H Q->
  wpAny (model X.prog X.w) X.A (call (.builtin id) (v::us)) (iN X a U Q) X.dv s
section
variable{X:aN}{a b:Expr}{cC dt:TE}{pos:Pos}
def nJ.or{r g:fZ}(h:nJ X r)(i:nJ X g):nJ X (λx y H Q=>r x y H Q\/g x y H Q):=by
 intro value c e s U H x y v u Q I d f q av;rcases q with q|q
 .exact h value c e s U H x y v u Q I d f q av
 .exact i value c e s U H x y v u Q I d f q av
def acE{r:fZ}(d:nJ X r)(i:b6 X a cC)(f:b6 X b dt)(av:H3 b):b6 X (.Subscript a b pos) (vg r cC dt):=by
 intro g s U H Q I h;exact Subscript_ (CI i f I h λv u s2 x y e k c j q=>d a b g s2 U e x y v u Q k c j q (av _ _))
def Qe(K:aP):fZ:=λx y H Q=>∃p xs i v,x=.ref p/\y=.int i/\dy K H p xs/\fp xs i=some v/\Q v H
def Qg(K:aP):fZ:=λx y H Q=>∃p xs i v,x=.ref p/\y=.int i/\dQ K H p xs/\fp xs i=some v/\Q v H
def Qf:fZ:=λx y H Q=>∃z i c,x=.str z/\y=.int i/\z.length<=akg/\fp z.cps.toList i=some c/\Q (.str ⟨#[c]⟩) H
def ZA:nJ X (Qe X.K):=by
 intro value f n s U H x y v u Q I l B h av;obtain⟨p,xs,i,z,rfl,rfl,m,he,q⟩:=h;cases l;obtain⟨t,rfl⟩:=B;obtain⟨e,r,pl,hz⟩:=I.list m;obtain⟨j,c,A,L,D,E⟩:=zb he;obtain⟨w,k,G⟩:=r.get A;have F:=r.length;have J:=w';have fin:iN X n U Q w s:=⟨z,H,I,G,q⟩
 by_cases g:0<=i
 .have d:i.toNat=j:=by
   rw[seqIndex_of g E]at c;exact akF c
  exact item_listR pl.isList g (by omega) (by rw[d];simpa using k) fin av
 .have d:(i+(e.toArray.size:Int)).toNat=j:=by
   rw[seqIndex_neg (by omega) D]at c;rw[aks,<-F];exact akF c
  exact subscriptTail_builtinR pl.isList.typeIs slot_list_getitem.lookup
   (wpAny_getItem_list_neg pl.isList (by omega) (by rw[aks]<;>omega) (by omega) (by rw[d];simpa using k) ⟨rfl,fin⟩) av
def ZD:nJ X (Qg X.K):=by
 intro value c f s U H x y v u Q I d l h av;obtain⟨p,xs,i,z,rfl,rfl,e,he,q⟩:=h;cases d;obtain⟨t,rfl⟩:=l;obtain⟨m,r,pl,hz⟩:=I.tuple e;obtain⟨j,g,k,D,E,F⟩:=zb he;obtain⟨w,A,n⟩:=r.get k;have B:=w';have fin:iN X f U Q w s:=⟨z,H,I,n,q⟩;exact subscriptTail_builtinR pl.typeIs slot_tuple_getitem.lookup
  (getItem_tuple pl (by omega) (by omega) (by rw[aks,<-r.length];exact g) (by simpa using A) ⟨rfl,fin⟩) av
def ZC:nJ X Qf:=by
 intro value d r s U H x y v u Q I f k h av;obtain⟨z,i,c,rfl,rfl,hz,he,q⟩:=h;obtain⟨t,rfl⟩:=f;obtain⟨t',rfl⟩:=k;obtain⟨j,e,g,w,l,m⟩:=zb he;have n:z.cps.toList.length=z.length:=by simp[Str.length]
 rw[n]at e l m;have p:=w';exact tail_any (typeIs_str s z t) slot_str_getitem.lookup (getItem_str (by
  have aq:decide (i < -(2 ^ 63:Int))=false:=decide_eq_false (by omega);have aC:decide (i≥2 ^ 63)=false:=decide_eq_false (by omega);rw[aq,aC,Bool.or_false]) (by rw[e];simpa using g) ⟨.str ⟨#[c]⟩,H,I.tok _,⟨_,rfl⟩,q⟩) av
def Qd(K:aP):fZ:=λx y H Q=>Qe K x y H Q\/Qg K x y H Q\/Qf x y H Q
def NX:nJ X (Qd X.K):=ZA.or (ZD.or ZC)
def ad9(d c:Option Int)(n:Nat):(alZ d c none n).1=((d_.c4 n 0 d:Nat):Int)/\(alZ d c none n).2.1=((d_.c4 n n c:Nat):Int)/\(alZ d c none n).2.2=1:=by
 refine⟨?_,?_,rfl⟩
 .cases d with
  |none=>simp[alZ,d_.c4]|some i=>
   simp only[alZ,d_.c4,Option.getD_none,show(1:Int) > 0 by decide,if_true]
   by_cases h:i<0
   .simp only[h,if_true]<;>omega
   .simp only[h,if_false]<;>omega
 .cases c with
  |none=>simp[alZ,d_.c4]|some i=>
   simp only[alZ,d_.c4,Option.getD_none,show(1:Int) > 0 by decide,if_true]
   by_cases h:i<0
   .simp only[h,if_true]<;>omega
   .simp only[h,if_false]<;>omega
def ad8(c:List Value)(d e:Option Int):slicePick c.toArray d e none=((c.drop (d_.c4 c.length 0 d)).take (d_.c4 c.length c.length e-d_.c4 c.length 0 d)).toArray:=by
 obtain⟨f,g,h⟩:=ad9 d e c.toArray.size;unfold slicePick;rw[f,g,h];simp only[sliceRange_one,pick_run]<;>rfl
def adw(K:aP):V->Option Int->Option Int->au->c_->Prop:=λx d c H Q=>∃a xs,x=.ref a/\dy K H a xs/\∀p,H p=none->Q (.ref p) (upd H p (.l (tQ xs d c)))
theorem ad6:qc X (adw X.K):=by
 intro l s U H x v m n d f da Q I g av pl k h;obtain⟨a,xs,rfl,i,q⟩:=h;cases g;obtain⟨j,r,e,hz⟩:=I.list i;have c:=r.length;refine⟨"list",_,slot_list_getitem.lookup,e.isList.typeIs,?_⟩;refine wpAny_getItem_list_slice e.isList av pl k .none (by simp) ?_ (by rw[aks]<;>omega);rw[ad8,<-c];refine⟨.ref s.heap.objs.size,_,I.laid (λb bD q=>akb _ q) (akf _) ?_,rfl,q _ (I.bP.fresh (akf _))⟩;exact⟨alc (Kx xs d f) hz,_,0,(r.drop (d_.c4 xs.length 0 d)).take (d_.c4 xs.length xs.length f-d_.c4 xs.length 0 d),akk _ rfl⟩
def nX:V->Bool
 |.ay=>true|.az _=>true|.int _=>true|.str _=>true|_=>false
def nU:V->V->Bool
 |.ay,.ay=>true|.az a,.az b=>a==b|.az a,.int b=>(if a then 1 else 0)==b|.int a,.az b=>a==(if b then 1 else 0)|.int a,.int b=>a==b|.str a,.str b=>a==b|_,_=>false
theorem Vo{u v:Value}(d:RelV y u)(c:RelV x v)(f:nX y=true)(e:nX x=true):SeqAt.EqAt A s u v (nU y x):=by
 cases y with
 |ay=>
  cases d
  cases x with
  |ay=>cases c;exact SeqAt.EqAt.same _
  |az b=>cases c;exact SeqAt.EqAt.none_bool b
  |int b=>obtain⟨t,rfl⟩:=c;exact SeqAt.EqAt.none_int b t
  |str b=>obtain⟨t,rfl⟩:=c;exact SeqAt.EqAt.none_str b t
  |_=>exact absurd (show false=true from e) akp
 |az a=>
  cases d
  cases x with
  |ay=>cases c;exact SeqAt.EqAt.bool_none a
  |az b=>cases c;exact SeqAt.EqAt.bool_bool a b
  |int b=>obtain⟨t,rfl⟩:=c;exact SeqAt.EqAt.bool_int a b t
  |str b=>obtain⟨t,rfl⟩:=c;exact SeqAt.EqAt.bool_str a b t
  |_=>exact absurd (show false=true from e) akp
 |int a=>
  obtain⟨t',rfl⟩:=d
  cases x with
  |ay=>cases c;exact SeqAt.EqAt.int_none a t'
  |az b=>cases c;exact SeqAt.EqAt.int_bool a t' b
  |int b=>obtain⟨t,rfl⟩:=c;exact aoU a t' b t
  |str b=>obtain⟨t,rfl⟩:=c;exact aoS a t' b t
  |_=>exact absurd (show false=true from e) akp
 |str a=>
  obtain⟨t',rfl⟩:=d
  cases x with
  |ay=>cases c;exact SeqAt.EqAt.str_none a t'
  |az b=>cases c;exact SeqAt.EqAt.str_bool a t' b
  |int b=>obtain⟨t,rfl⟩:=c;exact aoT a t' b t
  |str b=>obtain⟨t,rfl⟩:=c;exact SeqAt.EqAt.str_str a t' b t
  |_=>exact absurd (show false=true from e) akp
 |_=>exact absurd (show false=true from f) akp
def o2(x:V)(u:Value):Bool:=match u with
 |.none=>nU .ay x|.bool b=>nU (.az b) x|.int i _=>nU (.int i) x|.str z _=>nU (.str z) x|_=>false
theorem LX(r:RelV y u)(f:nX y=true):o2 x u=nU y x:=by
 cases y with
 |ay=>cases r;rfl
 |az b=>cases r;rfl
 |int i=>obtain⟨t,rfl⟩:=r;rfl
 |str z=>obtain⟨t,rfl⟩:=r;rfl
 |_=>exact absurd (show false=true from f) akp
theorem Cq:∀{xs:List V}{us:List Value},Vals xs us->xs.all nX=true->us.any (o2 x)=xs.any λy=>nU y x
 |_,_,.nil,_=>rfl|y::xs,u::us,.cons r t,f=>by
  rw[amI,akD]at f;rw[alT,alT,LX r f.1,Cq t f.2]
theorem FN{v:Value}(d:RelV x v)(e:nX x=true):∀{xs:List V}{us:List Value},Vals xs us->xs.all nX=true->∀u∈us,SeqAt.EqAt A s u v (o2 x u)
 |_,_,.nil,_=>λu c=>by cases c
 |y::xs,u::us,.cons r t,f=>λg c=>by
  rw[amI,akD]at f;rcases akq.mp c with rfl|c
  .rw[LX r f.1];exact Vo r d f.1 e
  .exact FN d e t f.2 g c
def Ez(x:V)(xs:List V):Bool:=xs.any λy=>nU y x
def Qa(K:aP)(c:Bool):fZ:=λx y H Q=>∃p xs,y=.ref p/\(dy K H p xs\/dQ K H p xs)/\nX x=true/\xs.all nX=true/\Q (.az (if c then !Ez x xs else Ez x xs)) H
def PA:eL X (ak2 .In) (Qa X.K false):=by
 intro i s U H x y v u Q I e g h;obtain⟨p,xs,rfl,d,f,fs,q⟩:=h;cases g;rcases d with d|d
 .obtain⟨c,r,pl,hz⟩:=I.list d
  refine SeqAt.in_listAt (o2 x) pl.isList (λw hw=>FN e f r fs w (by simpa using hw)) ⟨.az _,H,I,rfl,?_⟩;rw[show c.toArray.any (o2 x)=c.any (o2 x)by simp,Cq r fs];exact q
 .obtain⟨c,r,pl,hz⟩:=I.tuple d
  refine SeqAt.in_tupleAt (o2 x) pl (λw hw=>FN e f r fs w (by simpa using hw)) ⟨.az _,H,I,rfl,?_⟩;rw[show c.toArray.any (o2 x)=c.any (o2 x)by simp,Cq r fs];exact q
def Uk:jB X (.builtin "len") (λxs H Q=>∃p d,xs=[.ref p]/\(dy X.K H p d\/dQ X.K H p d)/\Q (.int d.length) H):=by
 intro k s U H xs us Q I r h;obtain⟨p,d,rfl,e,q⟩:=h;obtain⟨u,rfl,i⟩:=vals1 r;cases i;have j:=w';rcases e with e|e
 .obtain⟨g,f,pl,hz⟩:=I.list e
  have c:=f.length;exact Calls.call_len_list pl.isList (by simp only[aks]<;>omega) ⟨.int d.length,H,I.tok _,⟨s.toks+1,by rw[aks,c]⟩,q⟩
 .obtain⟨g,f,pl,hz⟩:=I.tuple e
  have c:=f.length;exact len_tuple pl (by simp only[aks]<;>omega) ⟨.int d.length,H,I.tok _,⟨s.toks+1,by rw[aks,c]⟩,q⟩
def Ul:jB X (.builtin "len") (λxs H Q=>∃z,xs=[.str z]/\z.length<=akg/\Q (.int z.length) H):=by
 intro d s U H xs us Q I r h;obtain⟨z,rfl,hz,q⟩:=h;obtain⟨u,rfl,t,rfl⟩:=vals1 r;have c:=w';exact len_str (by omega) ⟨.int z.length,H,I.tok _,⟨_,rfl⟩,q⟩
theorem Up:jB X (.type "tuple") (λxs H Q=>∃p d,xs=[.ref p]/\((dy X.K H p d/\∀l,H l=none->Q (.ref l) (upd H l (.t d)))\/(dQ X.K H p d/\Q (.ref p) H))):=by
 intro n s U H xs us Q I r h;obtain⟨p,d,rfl,h⟩:=h;obtain⟨u,rfl,j⟩:=vals1 r;cases j;rcases h with⟨C,q⟩|⟨C,q⟩
 .obtain⟨c,f,pl,hz⟩:=I.list C
  have i:=f.length;refine call_tuple_list pl.isList (λm kp=>?_) (by simp only[aks]<;>omega);have g:=I.kept (t':=s.toks) kp;have k:=
   g.laid (t':=s.toks) (λb o e=>akb _ e) (akf _) (show gG X.prog X.w _ _ _ (.t d)from⟨hz,c,f,IsTup.new _ _⟩)
  exact⟨.ref m.objs.size,_,k,rfl,q _ (g.bP.fresh (akf _))⟩
 .obtain⟨c,f,pl,hz⟩:=I.tuple C
  exact call_tuple_same pl ⟨.ref p,H,I,rfl,q⟩
def BB(K:aP)(T:String)(x:V)(H:au):Prop:=match x with
 |.str _=>T="str"|.int _=>T="int"|.ref p=>(T="list"/\∃xs,dy K H p xs)\/(T="tuple"/\∃o,K.lookup p=some o/\o.cls=.type "tuple"/\o.dict=none)\/
   (T="dict"/\((∃c,H p=some (.gu c))\/∃c,H p=some (.h8 c)))\/(T="set"/\∃S n,H p=some (.set S n))
 |_=>False
def Ru{v:Value}(I:Inv X ae U H s)(r:RelV x v)(ty:BB X.K T x H) :
  s.TypeIs v T/\∀a,v=.ref a->∃bD,s.heap.get? a=some bD/\bD.dict=none:=by
 cases x with
 |str z=>
  obtain⟨t,rfl⟩:=r;cases(show T="str" from ty);exact⟨typeIs_str s z t,λ_ e=>nomatch e⟩
 |int i=>
  obtain⟨t,rfl⟩:=r;cases(show T="int" from ty);exact⟨typeIs_int s i t,λ_ e=>nomatch e⟩
 |ref p=>
  cases r;rcases ty with⟨rfl,xs,a8⟩|⟨rfl,o,C,hc,hd⟩|⟨rfl,C⟩|⟨rfl,S,n,C⟩
  .obtain⟨d,_,pl,_⟩:=I.list a8
   refine⟨pl.isList.typeIs,λa e=>?_⟩;cases e;obtain⟨o,n,e,c,hd,_⟩:=pl;exact⟨o,e,hd⟩
  .refine⟨⟨o,I.fi p o C,hc⟩,λa e=>?_⟩
   cases e;exact⟨o,I.fi _ o C,hd⟩
  .have z:∃o,s.heap.get? p=some o/\o.ExactDict:=by
    rcases C with⟨aD,C⟩|⟨aD,C⟩
    .obtain⟨_,_,_,_,o,_,_,e,ex,_⟩:=I.bP p _ C
     exact⟨o,e,ex⟩
    .obtain⟨_,_,_,_,o,_,_,e,ex,_⟩:=I.bP p _ C
     exact⟨o,e,ex⟩
   obtain⟨o,e,ex⟩:=z;refine⟨⟨o,e,ex.1⟩,λa aC=>?_⟩;cases aC;exact⟨o,e,ex.2.1⟩
  .obtain⟨o,_,_,_,e,ex,_⟩:=I.bP p _ C
   refine⟨⟨o,e,ex.1⟩,λa aC=>?_⟩;cases aC;exact⟨o,e,ex.2.1⟩
 |_=>exact akI ty
def aes(K:aP)(T:String)(r:V->List V->au->c_->Prop)(to:TE):TE:=λU H Q=>to U H λx c=>BB K T x c/\r x [] c Q
def aer(K:aP)(T:String)(r:V->List V->au->c_->Prop)(to:TE)(t:gH):TE:=λU H Q=>to U H λx c=>BB K T x c/\t U c λxs d=>r x xs d Q
variable{o e:Expr}{ax:List Expr}{to:TE}{t:gH}{name:Str}{apos de:Pos}{T id:String}{r:V->List V->au->c_->Prop}
def aco(hC:PlainAttrs T)(slot:Slot T name id)(q:typeOf (.builtin id)=pure (.type "method_descriptor"))(m:Cd X id r)(l:b6 X o to)
  (n:alL o name X.env (eval o X.env)=eval o X.env:=by rfl) (p:(apos.endLine==de.line)=true:=by rfl):b6 X (.Call (.Attribute o name apos) [] [] de) (aes X.K T r to):=by
 intro c s U H Q I h;refine wpAny_Call_method0_late n p (cb (l c s U H _ I h) λv s1 i=>?_);obtain⟨x,g,f,d,ty,bw⟩:=i;obtain⟨j,k⟩:=Ru f d ty;exact⟨T,id,hC,slot,q,j,k,ams rfl (PySem.evalArgs_none (m c s1 U g x [] v [] Q f d .nil bw))⟩
def PM(hC:PlainAttrs T)(slot:Slot T name id)(B:typeOf (.builtin id)=pure (.type "method_descriptor"))(w:Cd X id r)(p:b6 X o to)(n:gR X (e::ax) t)
  (z:alL o name X.env (eval o X.env)=eval o X.env:=by rfl)
  (D:((al0 de (akT (e::ax) X.env)).all (λx=>!x.1)&&(anh de (amo [] X.env)).all (λx=>x.1.isSome)
&&decide ((e::ax).length+([]:List am1).length+(if([]:List am1).isEmpty then 0 else 1)<30))=true:=by rfl)
  (A:(apos.endLine==de.line)=true:=by rfl) (av:fQ X e ax:=by rfl) (y:gJ X de ax:=by rfl) :
  b6 X (.Call (.Attribute o name apos) (e::ax) [] de) (aer X.K T r to t):=by
 intro c s U H Q I h;refine wpAny_Call_method_late z D A rfl (cb (p c s U H _ I h) λv s1 k=>?_);obtain⟨x,i,f,d,ty,bw⟩:=k;obtain⟨l,m⟩:=Ru f d ty;refine⟨T,id,hC,slot,B,l,m,?_⟩;have g:=n de c s1 U i _ f bw;rw[av]at g ⊢;refine ams (by show(false||(al0 de (akT ax X.env)).any (·.1))=false;rw[y]<;>rfl) (amG ?_);exact cb g λus s2 ⟨vs,j,u,q,cB⟩=>w c s2 U j x vs v us Q u d q cB
end
def yW(X:aN)(id:String)(r:V->List V->au->c_->Prop):Prop:=
 ∀(a:c0)(s:akd)(U:St)(H:au)(x:V)(xs:List V)(v:Value)(us:List Value)(Q:c_),Inv X a U H s->RelV x v->Vals xs us->r x xs H Q->
  wpAny (model X.prog X.w) X.A (call (.builtin id) (v::us)) (iN X a U Q) X.dv s
def Vals.one:∀{x:V}{us:List Value},Vals [x] us->∃u,us=[u]/\RelV x u
 |_,_,.cons r .nil=>⟨_,rfl,r⟩
section
variable{X:aN}{ae:c0}{U:St}{H:au}{s:akd}{l:Addr}{xs ys:List V}
def Inv.ON{b a:List Value}{n:Nat}{f:Array Value->Array Value}{t':Nat}(I:Inv X ae U H s)(h:H l=some (.l xs))
  (e:s.heap.get? l=some { cls:=.type "list",data:=.seq b.toArray n }) (i:f b.toArray=a.toArray) (d:Vals ys a) (hz:ys.length<=akg) :
  Inv X ae U (upd H l (.l ys)) { s with heap:=s.heap.update l (akL f),toks:=t' }:=by
 have q:=IsL.update e f;rw[i]at q;refine I.write (by rw[h];exact trivial) (.inl rfl) (λj u c g=>(alJ s.heap (akL f) (alQ c)).trans g) ⟨_,q⟩ ?_;exact⟨hz,a,_,d,q⟩
def Inv.OI{t':Nat}(I:Inv X ae U H s)(a:Vals ys its)(hz:ys.length<=akg) :
  Inv X ae U (upd H s.heap.objs.size (.l ys)) { s with heap:=s.heap.push { cls:=.type "list",data:=.seq its.toArray },toks:=t' }:=
 I.laid (λ_ _ q=>akb _ q) (akf _) ⟨hz,its,0,a,akk _ rfl⟩
def Inv.fresh(I:Inv X ae U H s):H s.heap.objs.size=none:=I.bP.fresh (akf _)
def Inv.xa(I:Inv X ae U H s)(b:H l=some (.l xs)):xs.length<=akg/\∃(a:List Value)(n:Nat),Vals xs a/\xs.length=a.length/\s.heap.get? l=some { cls:=.type "list",data:=.seq a.toArray n }:=by
 obtain⟨z,a,n,r,e⟩:=I.bP l _ b;exact⟨z,a,n,r,r.length,e⟩
def abr(h:n<=akg):aoj n=false:=decide_eq_false (by omega)
end
section
variable{X:aN}
def P9:V->List V->au->c_->Prop:=λx vs H Q=>∃l xs y,x=.ref l/\vs=[y]/\H l=some (.l xs)/\xs.length<akg/\Q .ay (upd H l (.l (xs++[y])))
def FP:yW X "list.append" P9:=by
 intro g s U H x vs v us Q I c d h;obtain⟨l,xs,y,rfl,rfl,b,hz,q⟩:=h;cases c;obtain⟨u,rfl,f⟩:=d.one;obtain⟨z,a,n,r,i,e⟩:=I.xa b;refine call_meets F.slot_list_append ⟨_,e,rfl⟩ F.entry_list_append (F.args_list_append_2 _ _) (PySem.list_append l a.toArray n u (by rw[aks];omega)) ⟨e,?_⟩;refine⟨.ay,_,I.ON b e (by simp) (r.append (.cons f .nil)) ?_,rfl,q⟩;rw[akh,amA];omega
def P':V->List V->au->c_->Prop:=λx vs H Q=>∃l b xs a,x=.ref l/\vs=[.ref b]/\H l=some (.l xs)/\H b=some (.l a)/\xs.length+a.length<=akg/\Q .ay (upd H l (.l (xs++a)))
def aa5:yW X "list.extend" P':=by
 intro w s U H x vs v us Q I i j h;obtain⟨l,b,xs,D,rfl,rfl,f,m,hz,q⟩:=h;cases i;obtain⟨u,rfl,p⟩:=j.one;cases p;obtain⟨z,a,n,r,A,e⟩:=I.xa f;obtain⟨y,d,t,k,B,aC⟩:=I.xa m;have c:a.toArray.size+d.toArray.size<=akg:=by rw[aks,aks];omega
 have g:¬(!a.toArray.isEmpty&&aoj (a.toArray.size+d.toArray.size))=true:=by
  rw[abr c,Bool.and_false];exact akp
 refine call_meets F.slot_list_extend ⟨_,e,rfl⟩ F.entry_list_extend (F.args_list_extend_2 _ _)
  (AutoSeq1.list_extend_list_list_0 l a.toArray n b d.toArray t g (by omega) (by omega)) ⟨e,aC,?_⟩
 refine⟨.ay,_,I.ON f e (by simp) (r.append k) ?_,rfl,q⟩;rw[akh];omega
def P_:fZ:=λx y H Q=>∃l b xs a,x=.ref l/\y=.ref b/\H l=some (.l xs)/\H b=some (.l a)/\xs.length+a.length<=akg/\∀p,H p=none->Q (.ref p) (upd H p (.l (xs++a)))
def Py:eL X (alP .Add) P_:=by
 intro m s U H x y v u Q I d f h;obtain⟨l,b,xs,B,rfl,rfl,k,j,hz,q⟩:=h;cases d;cases f;obtain⟨z,a,n,r,w,e⟩:=I.xa k;obtain⟨p,c,t,g,A,aC⟩:=I.xa j;refine P.add_list e aC ?_ (by rw[aks,aks];omega);have i:a.toArray++c.toArray=(a++c).toArray:=by simp
 rw[i];exact⟨.ref _,_,I.OI (r.append g) (by rw[akh];omega),rfl,q _ I.fresh⟩
end
end aB
namespace HD
open PySem PySem.W PySem.Calls PyProof.Rows
def Zm:∀(ns:List Int)(vs:List Value),WellAll P h vs (ns.map WData.int)->amc vs ns:=by
 intro ns
 induction ns with
 |nil=>
  intro vs w;rw[List.map_nil]at w;cases w;exact .nil
 |cons n ns c=>
  intro vs w;rw[akm]at w
  cases w with
  |cons a b=>
   cases a;exact .cons _ _ (c _ b)
def adW{l:OpenLaw}{n:Nat}(p:l.most=some n){P:Params}{h:Heap}{args:List WData}{b:List Value}
  (g:l.row.toRowW.claim.pre args=true) (m:WellAll P h b args) :
  ∃a vs ns,b=[akZ a]/\args=[WData.list (ns.map WData.int)]/\h.get? a=some { cls:=.type "list",data:=.seq vs.toArray }/\amc vs ns/\ns.length<=n:=by
 have k:WShape.hasAll [] args [.list .int]=true:=(pre_splitW g).1;have j:l.pre.holds [] { args:=args }=true:=(pre_splitW g).2;obtain⟨d,r,rfl,s,t⟩:=hasAllW_cons k;obtain rfl:=hasAllW_nil t;obtain⟨xs,rfl,u⟩:=hasW_list s;obtain⟨ns,rfl⟩:=items_int u;have e:ns.length<=n:=by
  unfold OpenLaw.pre at j;have f:(WTm.not (.lt (.lit (.int (n:Int))) (.len (.arg 0)))).holds [] { args:=[.list (ns.map .int)] }=true:=by
   have f:=(holds_andW j).1;rw[p]at f;exact f
  have i:=condW_of f (w_not (w_lt w_lit (w_len_list (w_arg rfl))));rw[akc]at i;refine Nat.le_of_not_lt λq=>?_
  have z:(n:Int)<((ns.length:Nat):Int):=by omega
  (simp at i;omega)
 cases m with
 |cons x y=>
  cases y
  cases x with
  |list w c=>exact⟨_,_,ns,rfl,rfl,w,Zm ns _ c,e⟩
def acZ(l:OpenLaw)(args:List WData):l.row.toRowW.claim.post args (.bool true) args=true:=
 postW_of (r:=l.row.toRowW) (X:=(true==true))
  (show WShape.has [] (.bool true) .bool=true by rfl)
  (show(WTm.eq .res (.lit (.bool true))).value [] { args:=args,res:=some (.bool true),after:=args }=some (.bool (true==true))from w_eq_bool (w_res rfl) w_lit) rfl
def SY{l:OpenLaw}{n:Nat}{q:akr}{c:List Str}{s:(Str->Option Value)->Heap->Prop}{m:World->Heap->Prop}{d:DefRec}
  (B:l.most=some n) (u:d.params.defaults=[])
  (call:∀(w:World)(hr b:akd)(mg j:ba)(h:Addr)(o:Obj)(pm cd e:Value)(a:Addr)(vs:List Value)(ns:List Int),
   Ground q c [] s w hr mg j b.heap->m w b.heap->
   b.heap.get? h=some o->o.data=.func (docDef d.name d.params d.body d.scope pm cd e)->b.heap.CodeRec cd d.name->mg d.name=some (.ref h)->
   b.heap.get? a=some { cls:=.type "list",data:=.seq vs.toArray }->amc vs ns->ns.length<=n->b.gens=#[]->
   amM (model l.prog w) aof (.call (.ref h) ⟨[.ref a],[]⟩) (λr s'=>r=.ok (.ret (.bool true))/\OldK b.heap s'.heap/\s'.os=b.os/\amL s'.gens) b) :
  WalkO q c s m l.row.toRowW d [] (λf vs=>PySem.call f vs):=by
 intro w hr b mg j G Y h o pm cd e O cX K hd M k P z args p Q t F E y H;obtain rfl:O=.none:=Dflts.none k u;obtain rfl:cX=.none:=Dflts.noKw k;obtain⟨a,vs,ns,rfl,rfl,x,g,i⟩:=adW B t y;refine enter_call (ame (call w hr b mg j h o pm cd e a vs ns G Y K (fd_plain hd) M P x g i z) λr s' A=>?_);obtain⟨rfl,D,J,L⟩:=A;exact⟨.inl ⟨.bool true,.bool true,[],rfl,λ_=>rfl,.bool true,acZ l _,λ_=>⟨an1,λ_ N=>(nomatch N)⟩⟩,D,J,L⟩
end HD
namespace aB
open PySem PySem.Spec PyProof.Rows
theorem RC:∀{vs:List Value}{ns:List Int},amc vs ns->Vals (ns.map V.int) vs
 |_,_,.nil=>.nil|_,_,.cons n t h=>.cons ⟨t,rfl⟩ (RC h)
abbrev hI{K:aP}{h:Heap}(_:K.In h):aP:=K
def inClass(s:Stmt)(j:Nat):Stmt:=match s with
 |.ClassDef _ _ _ body _ _ _ _ _ _ _=>body.getD j (.Pass ⟨0,0,0,0⟩)|_=>.Pass ⟨0,0,0,0⟩
def jd(s:Stmt):anI:=match s with
 |.FunctionDef _ a _ _ _ _ _ _ _ _=>a|_=>{ posonlyargs:=[],args:=[],vararg:=none,kwonlyargs:=[],kw_defaults:=[],kwarg:=none,defaults:=[] }
def ft(s:Stmt):List Stmt:=match s with
 |.FunctionDef _ _ b _ _ _ _ _ _ _=>b|_=>[]
def c1(s:Stmt):Scope:=match s with
 |.FunctionDef _ _ _ _ _ _ a _ _ _=>a|_=>{ kind:=.function,names:=[],isGenerator:=false,isCoroutine:=false }
abbrev es:my:=λ_ _ _ _ _ _=>False
abbrev j4:e7:=λ_ _ _=>False
def u2:Passes es X j4:=λ_ _ _ _ _ _ _ h=>h.elim
structure ks(K:aP)(x qual:Str)(st:Stmt)(f:Addr)(fd:ala):Prop where
 ex:∃(c6:Value)(od:Option Addr)(cX doc pm:Value)(an:Option Addr)(bB cM:Value)(gC:Array (Option Value)),
  fd=alV x qual (jd st) (ft st) (c1 st) .none cX doc pm an bB cM/\K.lookup f=some ⟨c6,od,.func fd,gC⟩/\anC K bB qual=true
 kp:alX K (.ref f)=true
section
variable{P:akr}{w:World}{K:aP}{mg:ba}{base:Heap}
def ks.ok{x qual:Str}{st:Stmt}{f:Addr}{b:ala}{N ps:List Str}{k:Nat}{sp:et}(F:ks K x qual st f b)(S:gP N ps (c1 st))(len:∀vs H Q E,sp vs H Q E->vs.length=ps.length)
  (l:∀(a:Value)(A:akw)(outer:List Env)(s:akd)(H:au)(vs:List V)(Q:c_)(E:e7),cL k (A.deeper (amW qual (c1 st) s.heap.objs.size f a))->sp vs H Q E->
   ∃t,iw (f5 es P w K mg base N qual (c1 st) f a A outer s H E).gA (ft st) t/\t { bl:=λ_ c=>Q .ay c,cp:=Q } (start N vs) H):ff P w K mg base es (k+1) f b ps sp:=by
 obtain⟨c6,p,cX,e,pm,m,a,cM,n,rfl,j,i⟩:=F.ex;refine zP j i S len λA outer s H vs Q E d g=>?_
 obtain⟨t,h,q⟩:=l a A outer s H vs Q E d g;exact⟨t,h.gA,q⟩
def ks.binds{x qual:Str}{st:Stmt}{f:Addr}{d:ala}{ps:List Str}(F:ks K x qual st f d)
  (h:∀(cX a pm:Value)(b:Option Addr)(c cM:Value)(us:List Value),us.length=ps.length->amF (alV x qual (jd st) (ft st) (c1 st) .none cX a pm b c cM) ⟨us,[]⟩=pure (ps.zip us)):Binds K d ps []:=by
 obtain⟨c6,j,cX,a,pm,b,c,cM,e,rfl,i,g⟩:=F.ex;exact .all (h cX a pm b c cM)
def zS{x qual:Str}{st:Stmt}{f:Addr}{c6:Value}{g d:Option Addr}{e:Array (Option Value)}{cX a pm b cM:Value}(l:K.lookup f=some ⟨c6,g,.func (alV x qual (jd st) (ft st) (c1 st) .none cX a pm d b cM),e⟩)
  (c:anC K b qual=true) (k:alX K (.ref f)=true):ks K x qual st f (alV x qual (jd st) (ft st) (c1 st) .none cX a pm d b cM):=⟨⟨c6,g,cX,a,pm,d,b,cM,e,rfl,l,c⟩,k⟩
end
def eP(h:n<=1000):n<akg:=Nat.lt_of_le_of_lt h (by decide)
def qJ{A B:Prop}(h:B):if false=true then A else B:=h
def qK{A B:Prop}(h:A):if true=true then A else B:=h
end aB
set_option maxHeartbeats 4000000
namespace aB
open PySem PySem.Spec PyProof.Rows
section
variable{κ:Type}[DecidableEq κ]
def kn(a:List (κ×V))(k:κ):Option V:=(a.find? λb=>decide (b.1=k)).map (·.2)
def putK(b:List (κ×V))(k:κ)(v:V):List (κ×V):=
 if(b.any λa=>decide (a.1=k))=true then b.map (λa=>if a.1=k then(a.1,v)else a)else b++[(k,v)]
def Hl{r:List (κ×V)}{k:κ}(e:p.1=k):kn (p::r) k=some p.2:=by simp[kn,e]
def Hk{r:List (κ×V)}{k:κ}(e:¬p.1=k):kn (p::r) k=kn r k:=by simp[kn,e]
theorem RB(k:κ):∀a:List (κ×V),(a.any λb=>decide (b.1=k))=(kn a k).isSome
 |[]=>rfl|p::r=>by
  rw[alT]
  by_cases e:p.1=k
  .simp only[Hl e,decide_eq_true e,Bool.true_or,Option.isSome_some]
  .rw[Hk e,decide_eq_false e,Bool.false_or];exact RB k r
def Fn(a:List (κ×V))(k:κ)(v:V):(putK a k v).length<=a.length+1:=by
 unfold putK;split
 .rw[akc];omega
 .rw[akh,akx,alw];omega
def iR.Zq{o:Option V}{u:Option Value}(r:iR o u):o.isSome=u.isSome:=by
 cases o with
 |none=>cases u with
  |none=>rfl|some _=>exact(show False from r).elim
 |some _=>cases u with
  |none=>exact(show False from r).elim|some _=>rfl
def iR.getD{o:Option V}{u:Option Value}(r:iR o u)(cN:RelV d d'):RelV (o.getD d) (u.getD d'):=by
 cases o with
 |none=>cases u with
  |none=>exact cN|some _=>exact(show False from r).elim
 |some _=>cases u with
  |none=>exact(show False from r).elim|some _=>exact r
def ht.val(r:ht o vs)(k:κ):iR (kn o k) (valueAt vs k):=by
 induction r with
 |nil=>exact aly|@cons p q ps c h t f=>
  obtain⟨d,g⟩:=h
  by_cases e:p.1=k
  .have a:=d.symm.trans e
   have b:valueAt (q::c) k=some q.2:=by simp[valueAt,a]
   rw[Hl e,b];exact g
  .have a:¬q.1=k:=λz=>e (d.trans z)
   have b:valueAt (q::c) k=valueAt c k:=by simp[valueAt,a]
   rw[Hk e,b];exact f
def ht.any{b:List (κ×V)}{vs:List (κ×Value)}(r:ht b vs)(k:κ):(b.any λa=>decide (a.1=k))=vs.any λa=>decide (a.1=k):=by
 induction r with
 |nil=>rfl|cons h t c=>rw[alT,alT,c,h.1]
def ht.GG(r:ht o vs)(k:κ)(f:RelV y u) :
  ht (o.map λa=>if a.1=k then(a.1,y)else a) (vs.map λa=>if a.1=k then(a.1,u)else a):=by
 induction r with
 |nil=>exact .nil|@cons p q ps g h t c=>
  rw[akm,akm];refine .cons ?_ c;obtain⟨b,d⟩:=h
  by_cases e:p.1=k
  .rw[if_pos e,if_pos (b.symm.trans e)];exact⟨b,f⟩
  .rw[if_neg e,if_neg (λz=>e (b.trans z))];exact⟨b,d⟩
def ht.put(r:ht o vs)(k:κ)(a:RelV y u):ht (putK o k y) (stored vs k u):=by
 unfold putK stored;rw[r.any k]
 by_cases e:(vs.any λb=>decide (b.1=k))=true
 .rw[if_pos e,if_pos e];exact r.GG k a
 .rw[if_neg e,if_neg e];exact Paired.snoc r ⟨rfl,a⟩
def ht.length{a:List (κ×V)}{vs:List (κ×Value)}(r:ht a vs):a.length=vs.length:=aoN r
end
def w5{k:Key}(r:RelV (cX k) u):(js P w).is k u=true:=by
 cases k with
 |inl i=>obtain⟨t,e⟩:=(show ∃t,u=anl i t from r);subst e;exact aa0 P w i t
 |inr x=>obtain⟨t,e⟩:=(show ∃t,u=anG x t from r);subst e;exact aa1 P w x t
theorem NU:∀{a:List Key}{us:List Value},Vals (a.map cX) us->ItemsAre (js P w) a us
 |[],_,r=>by cases r;exact .nil
 |k::a,_,r=>by
  cases r with
  |cons h t=>exact .cons (w5 h) (NU t)
abbrev KT(H:au):List (List Key×V)->List (List Key×Addr×Value)->Prop:=am6 λp q=>p.1=q.1/\H q.2.1=some (.t (p.1.map cX))/\RelV p.2 q.2.2
def KT.val(r:KT H o xs)(k:List Key):iR (kn o k) ((atKey xs k).map (·.2)):=by
 induction r with
 |nil=>exact aly|@cons p q ps c h t f=>
  obtain⟨d,_,g⟩:=h
  by_cases e:p.1=k
  .have a:=d.symm.trans e
   have b:atKey (q::c) k=some q.2:=by simp[atKey,a]
   rw[Hl e,b];exact g
  .have a:¬q.1=k:=λz=>e (d.trans z)
   have b:atKey (q::c) k=atKey c k:=by simp[atKey,a]
   rw[Hk e,b];exact f
def KT.GG(r:KT H o xs)(k:List Key)(f:RelV y u) :
  KT H (o.map λb=>if b.1=k then(b.1,y)else b) (xs.map (putAt k u)):=by
 induction r with
 |nil=>exact .nil|@cons p q ps i h t d=>
  rw[akm,akm];refine .cons ?_ d;obtain⟨a,c,g⟩:=h;unfold putAt
  by_cases e:p.1=k
  .rw[if_pos e,if_pos (a.symm.trans e)];exact⟨a,c,f⟩
  .rw[if_neg e,if_neg (λz=>e (a.trans z))];exact⟨a,c,g⟩
def KT.put{H:au}(r:KT H o xs)(k:List Key)(c:H b=some (.t (k.map cX)))(a:RelV y u) :
  KT H (putK o k y) (storedH xs k b u):=by
 have e:(o.any λd=>decide (d.1=k))=(atKey xs k).isSome:=by
  rw[RB,(r.val k).Zq,Option.isSome_map]
 unfold putK storedH;rw[e]
 by_cases q:(atKey xs k).isSome=true
 .rw[if_pos q,if_pos q];exact r.GG k a
 .rw[if_neg q,if_neg q];exact Paired.snoc r ⟨rfl,c,a⟩
def KT.keeps{H a:au}(r:KT H o xs)(d:∀b c,H b=some (.t c)->a b=some (.t c)):KT a o xs:=
 am6.FF r λ_ _ z=>⟨z.1,d _ _ z.2.1,z.2.2⟩
section
variable{P:akr}{w:World}{H:au}{h:Heap}{a:Addr}
def Qh(ok:fm P w H h)(e:gq H a u):gG P w H h a u:=e.ok ok
def wh{b:List (Key×V)}(ok:fm P w H h)(e:gq H a (.gu b)):b.length<=akg/\(a==alK)=false/\∃vs,ht b vs/\h.DictOf (js P w) a vs:=
 show gG P w H h a (.gu b)from Qh ok e
def LN{b:List (Key×V)}(ok:fm P w H h)(e:H a=some (.gu b)):b.length<=akg/\(a==alK)=false/\∃vs,ht b vs/\h.DictOf (js P w) a vs:=wh ok (.inl e)
def Ao{b:List Key}(ok:fm P w H h)(e:H a=some (.t (b.map cX))):(anH (js P w)).is h b a:=by
 obtain⟨_,c,r,o,d,f,n,g⟩:=(show gG P w H h a (.t (b.map cX))from ok a _ e);exact⟨o,c.toArray,n,d,f,g,by simpa using NU r⟩
def wk{c:List (List Key×V)}(ok:fm P w H h)(e:gq H a (.h8 c)):c.length<=akg/\(a==alK)=false/\
  ∃xs,KT H c xs/\h.DictOfH (anH (js P w)) a xs:=by
 obtain⟨z,y,xs,r,o,j,cD,g,i,k,n,s⟩:=(show gG P w H h a (.h8 c)from Qh ok e);refine⟨z,y,xs,r,o,j,cD,g,i,k,n,λx b=>?_,s⟩;have all:∀{l:List (List Key×V)}{m:List (List Key×Addr×Value)},KT H l m->∀x∈m,(anH (js P w)).is h x.1 x.2.1:=by
  intro l m q
  induction q with
  |nil=>intro x b;exact nomatch b
  |@cons p q ps u d t f=>
   intro x b;rcases akq.mp b with e|b
   .subst e
    exact Ao ok (by rw[<-d.1];exact d.2.1)
   .exact f x b
 exact all r x b
def Va{b:List (List Key×V)}(ok:fm P w H h)(e:H a=some (.h8 b)):b.length<=akg/\(a==alK)=false/\
  ∃xs,KT H b xs/\h.DictOfH (anH (js P w)) a xs:=wk ok (.inl e)
end
def lP(H:au)(a:Addr)(y:V)(r:Option V):Prop:=
 (∃c k,gq H a (.gu c)/\y=cX k/\r=kn c k)\/∃c k b,gq H a (.h8 c)/\y=.ref b/\H b=some (.t (k.map cX))/\r=kn c k
def p3(H:au)(a:Addr)(y v:V)(d:au):Prop:=
 (∃c k,H a=some (.gu c)/\y=cX k/\c.length<akg/\d=upd H a (.gu (putK c k v)))\/
 ∃c k b,H a=some (.h8 c)/\y=.ref b/\H b=some (.t (k.map cX))/\c.length<akg/\d=upd H a (.h8 (putK c k v))
def lP.k{H:au}{k:Key}(e:H a=some (.gu o)):lP H a (cX k) (kn o k):=.inl ⟨o,k,.inl e,rfl,rfl⟩
def lP.t{H:au}{k:List Key}(e:H a=some (.h8 o))(c:H b=some (.t (k.map cX))):lP H a (.ref b) (kn o k):=.inr ⟨o,k,b,.inl e,rfl,c,rfl⟩
def p3.k{H:au}{b:List (Key×V)}{k:Key}{v:V}(e:H a=some (.gu b))(c:b.length<akg):p3 H a (cX k) v (upd H a (.gu (putK b k v))):=.inl ⟨b,k,e,rfl,c,rfl⟩
def p3.t{H:au}{c:List (List Key×V)}{k:List Key}{v:V}(e:H a=some (.h8 c))(d:H b=some (.t (k.map cX)))(f:c.length<akg) :
  p3 H a (.ref b) v (upd H a (.h8 (putK c k v))):=.inr ⟨c,k,b,e,rfl,d,f,rfl⟩
section
variable{X:aN}{ae:c0}{U:St}{H:au}{s:akd}{a:Addr}{y v:V}{u r:Value}{A:akw}{E:cZ}
def Inv.big(I:Inv X ae U H s):alK<s.heap.objs.size:=by
 exact Nat.lt_trans (by decide) ((I.mod.glob.keeps I.bk).lt)
def UX{Q:cZ}(n:A.units+1<cLine)(I:Inv X ae U H s)(g:lP H a y (some v))(i:RelV y u)(h:∀d s',Inv X ae U H s'->RelV v d->Q d s') :
  wpAny (model X.prog X.w) A (am0 (.ref a) u) Q E s:=by
 rcases g with⟨C,k,e,o,l⟩|⟨C,k,b,e,o,cu,l⟩
 .subst o
  obtain⟨z,hd,vs,c,dd⟩:=wh I.bP e;obtain⟨d,hw,f⟩:=iR.some_of (by rw[l];exact c.val k);exact wpAny_getItem_of (w5 i) dd.mapOf hw (h d _ (I.tok _) f)
 .subst o
  cases(show u=akZ b from i);obtain⟨z,hd,xs,c,dd⟩:=wk I.bP e;obtain⟨d,hw,f⟩:=iR.some_of (by rw[l];exact c.val k);obtain⟨p,m,j⟩:=amt.mp hw;refine wpAny_getItem_heap (anJ n) (Ao I.bP cu) dd m ?_;rw[j];exact h d _ (I.tok _) f
def C9{c:Heap}{t':Nat}(I:Inv X ae U H s)(e:vM (H a))(av:anr a s.heap c)(he:∃q,c.get? a=some q)(new:gG X.prog X.w (upd H a bD) c a bD) :
  Inv X ae U (upd H a bD) { s with heap:=c,toks:=t' }:=
 I.write e (.inl rfl) (λb q d z=>(av.2 b d).trans z) he new
def LM{d:au}{b:List (Key×V)}(z:b.length<=akg)(hd:(a==alK)=false)(c:ht b vs)(dd:h'.DictOf (js P w) a vs) :
  gG P w d h' a (.gu b):=⟨z,hd,vs,c,dd⟩
def U0{Q:Unit->akd->Prop}(F:A.units+1<cLine)(I:Inv X ae U H s)(g:p3 H a y v H')(m:RelV y u)(n:RelV v r)(h:∀s',Inv X ae U H' s'->Q () s') :
  wpAny (model X.prog X.w) A (setItem (.ref a) u r) Q E s:=by
 rcases g with⟨o,k,e,e',l,C⟩|⟨o,k,b,e,e',cu,l,C⟩
 .subst e' C
  obtain⟨z,hd,vs,d,dd⟩:=LN I.bP e;have hz:vs.length<=akg:=by rw[<-d.length];exact z
  have j:(putK o k v).length<=akg:=by have:=Fn o k v;omega
  refine wpAny_setItem_pairs (w5 m) dd λp i av=>h _ ?_
  have he:∃q,p.get? a=some q:=let⟨q,_,_,f,_⟩:=i;⟨q,f⟩
  exact C9 I (by rw[e];exact aly) av he (LM j hd (d.put k n) i)
 .subst e' C
  cases(show u=akZ b from m);obtain⟨z,hd,xs,d,dd⟩:=Va I.bP e;have hz:xs.length<=akg:=by rw[<-aoN d];exact z
  have j:(putK o k v).length<=akg:=by have:=Fn o k v;omega
  refine wpAny_setItem_heap (anJ F) (Ao I.bP cu) dd λp i av=>h _ ?_
  obtain⟨q,B,cD,f,x,D,G,_,J⟩:=i;refine C9 I (by rw[e];exact aly) av ⟨q,f⟩ ⟨j,hd,_,(d.put k cu n).keeps λc K t=>?_,q,B,cD,f,x,D,G,J⟩;rw[du (FR t e (λz=>nomatch z))];exact t
end
def vN(i:Expr):Prop:=∀cc a,aoD i false cc a=operate [cc,a] (am0 cc a)
def QY{prog:akr}{w:World}{A:akw}{E:cZ}{s:akd}{env:Env}{value a:Expr}{pos:Pos}{T id:String}{Q:cZ}
  (g:typeLookup (.type T) "__getitem__"=pure (some (.builtin id))) (av:vN a)
  (h:wpAny (model prog w) A (eval value env) (λo d=>wpAny (model prog w) A (eval a env) (λi b=>b.TypeIs o T/\wpAny (model prog w) A (am0 o i) Q E b) E d) E s) :
  wpAny (model prog w) A (eval (.Subscript value a pos) env) Q E s:=by
 refine Subscript_ (akW h (λo d j=>akW j (λi b c=>?_) λ_ _ x=>x) λ_ _ x=>x);obtain⟨f,c⟩:=c;refine aka<|aka (wpAny_specialOf f g ?_)
 have fin:wpAny (model prog w) A (aoD a false o i) (λr e=>wpAny (model prog w) A (letTemporaryGo value o r >>= λ_=>pure r) Q E e) E b:=by
  rw[av o i];exact wpAny_operating (akW c (λr e k=>aka (wpAny_letTemporaryGo (akn k))) λ_ _ x=>x)
 first
  |exact akn (aka fin)
  |exact aka (akn (aka fin))
  |exact aka fin
def U4(I:Inv X ae U H s)(g:lP H a y o):s.TypeIs (.ref a) "dict":=by
 rcases g with⟨C,k,e,_,_⟩|⟨C,k,b,e,_,_,_⟩
 .obtain⟨_,_,vs,_,dd⟩:=wh I.bP e
  exact dd.typeIs
 .obtain⟨_,_,xs,_,dd⟩:=wk I.bP e
  exact dd.typeIs
def aeu(d ty:TE):TE:=λU H Q=>d U H λx c=>ty U c λy b=>∃a v,x=.ref a/\lP b a y (some v)/\Q v b
def adQ(f ty g:TE):gZ:=λD U H=>g U H λv c=>f U c λx d=>ty U d λy e=>∃a b,x=.ref a/\p3 e a y v b/\D.bl U b
section
variable{X:aN}{o i value:Expr}{pos pos':Pos}{lJ ty lM:TE}
def acw(m:X.A.units+1<cLine)(k:b6 X o lJ)(p:b6 X i ty)(av:vN i):b6 X (.Subscript o i pos) (aeu lJ ty):=by
 intro b s U H Q I h;refine QY an7.lookup av (cb (k b s U H _ I h) λu s1 ⟨x,d,l,e,bw⟩=>cb (p b s1 U d _ l bw) λt s2 ⟨y,f,c,j,a,v,ex,g,cB⟩=>?_);subst ex;obtain rfl:=e;exact⟨U4 c g,UX m c g j λr s3 n q=>⟨v,f,n,q,cB⟩⟩
def PZ(n:X.A.units+1<cLine)(l:b6 X o lJ)(t:b6 X i ty)(j:b6 X value lM)(av:alr value (some (.Subscript o i pos')) pos.line X.env=pure false) :
  iQ X (.Assign [.Subscript o i pos'] value pos) (adQ lJ ty lM):=by
 intro b s U H D I h;refine wpAny_Assign_Subscript (cb (j b s U H _ I h) λr s1 ⟨v,c,m,k,bw⟩=>cb (l b s1 U c _ m bw) λu s2 ⟨x,e,p,d,cB⟩=>cb (t b s2 U e _ p cB) λF s3 ⟨y,E,q,f,a,z,ex,g,w⟩=>?_) av;subst ex;obtain rfl:=d;exact U0 n q g f k λG B=>⟨U,z,B,w⟩
end
def U5(h:Heap)(a:alK<h.objs.size):gG P w H (h.push { cls:=.type "dict",data:=.dict #[] }) h.objs.size (.gu []):=
 ⟨akG _,beq_eq_false_iff_ne.mpr (alQ (akv a)),[],.nil,Heap.DictOf.new h⟩
def σ'(h:Heap)(a:alK<h.objs.size):gG P w H (h.push { cls:=.type "dict",data:=.dict #[] }) h.objs.size (.h8 []):=
 ⟨akG _,beq_eq_false_iff_ne.mpr (alQ (akv a)),[],.nil,_,#[],0,akk _ rfl,⟨rfl,rfl,rfl⟩,rfl,rfl,am2⟩
def aew:TE:=λ_ H Q=>∀p,H p=none->Q (.ref p) (upd H p (.h8 []))
section
variable{X:aN}{pos:Pos}
def acz:b6 X (.Dict [] [] pos) aew:=λa s U H Q I h=>
 wpAny_Dict_empty ⟨.ref s.heap.objs.size,_,I.laid (λ_ _ q=>akb _ q) (akf _) (σ' s.heap I.big),rfl,h _ (I.bP.fresh (akf _))⟩
end
def Bt:List (TE×TE)->St->au->(List (V×V)->au->Prop)->Prop
 |[],_,H,Q=>Q [] H|(tk,o)::r,U,H,Q=>tk U H λx a=>o U a λy b=>Bt r U b λps c=>Q ((x,y)::ps) c
abbrev H4:List (V×V)->List (Value×Value)->Prop:=am6 λp q=>RelV p.1 q.1/\RelV p.2 q.2
def vP(X:aN)(pos:Pos)(keys:List (Option Expr))(a:List Expr)(d:List (TE×TE)):Prop:=
 ∀(c:c0)(s:akd)(U:St)(H:au)(Q:List (V×V)->au->Prop),Inv X c U H s->Bt d U H Q->
  wpAny (model X.prog X.w) X.A (evalPairs (pairTrees keys a X.env pos)) (λvs s'=>∃ps b,Inv X c U b s'/\H4 ps vs/\Q ps b) X.dv s
def ac2:vP X pos [] [] []:=λa s U H Q I h=>pairTrees_nil_walk ⟨[],H,I,.nil,h⟩
def ac1{k v:Expr}(g:b6 X k tk)(j:b6 X v lM)(e:vP X pos o vs C) :
  vP X pos (some k::o) (v::vs) ((tk,lM)::C):=λa s U H Q I h=>
 pairTrees_cons_walk (cb (g a s U H _ I h) λu s1 ⟨x,c,l,d,bw⟩=>cb (j a s1 U c _ l bw) λr s2 ⟨y,f,n,i,cB⟩=>
  cb (e a s2 U f _ n cB) λt s3 ⟨ps,m,p,b,q⟩=>⟨(x,y)::ps,m,p,.cons ⟨d,i⟩ b,q⟩)
noncomputable def q0(c more:List (Key×V)):List (Key×V):=more.foldl (λa b=>putK a b.1 b.2) c
def ht.merge:∀{more:List (Key×V)}{rs:List (Key×Value)}{a:List (Key×V)}{vs:List (Key×Value)},ht more rs->ht a vs->ht (q0 a more) (merged vs rs):=by
 intro more rs a vs r
 induction r generalizing a vs with
 |nil=>intro q;exact q|@cons p q ps d h t b=>
  intro c;have e:ht (putK a p.1 p.2) (stored vs q.1 q.2):=by
   rw[<-h.1];exact(c.put p.1 h.2)
  exact b e
theorem OE:∀(more o:List (Key×V)),(q0 o more).length<=o.length+more.length
 |[],o=>by show o.length<=o.length+0;omega|p::r,o=>by
  have a:=OE r (putK o p.1 p.2);have b:=Fn o p.1 p.2;show(q0 (putK o p.1 p.2) r).length<=_;rw[akx];omega
theorem Kf:∀{o:List (Key×V)}{ws:List (Value×Value)},H4 (o.map λd=>(cX d.1,d.2)) ws->∃rs,Carries (js P w) ws rs/\ht o rs
 |[],_,r=>by cases r;exact⟨[],aly,.nil⟩
 |p::o,_,r=>by
  cases r with
  |@cons a b f bs h t=>
   obtain⟨rs,c,q⟩:=Kf t;obtain⟨g,e⟩:=b;exact⟨(p.1,e)::rs,⟨w5 h.1,rfl,c⟩,.cons ⟨rfl,h.2⟩ q⟩
def aex(d:List (TE×TE)):TE:=λU H Q=>∀p,H p=none->Bt d U (upd H p (.gu [])) λps b=>b p=some (.gu [])/\∃a:List (Key×V),ps=a.map (λc=>(cX c.1,c.2))/\a.length<=15/\Q (.ref p) (upd b p (.gu (q0 [] a)))
def acy{X:aN}{pos:Pos}{keys:List (Option Expr)}{a:List Expr}{i:List (TE×TE)}(h:vP X pos keys a i)(b:keys.all (·.isSome)=true)(u:keys.length=a.length)(r:keys≠[])
  (k:keys.length<=15):b6 X (.Dict keys a pos) (aex i):=by
 intro l s U H Q I q;refine wpAny_Dict_walk (knd:=js X.prog X.w) b u r k (cb (h l _ U _ _ (I.laid (t':=s.toks) (λ_ _ q=>akb _ q) (akf _) (U5 s.heap I.big)) (q _ (I.bP.fresh (akf s.heap.objs.size)))) λB s2 ⟨ps,y,g,d,e,f,cD,A,cB⟩=>?_);subst cD;obtain⟨rs,c,x⟩:=Kf d;obtain⟨z,hd,n,t,dd⟩:=LN g.bP e;cases t;refine⟨rs,c,dd,λp j av=>⟨.ref s.heap.objs.size,_,?_,rfl,cB⟩⟩;have hz:(q0 [] f).length<=akg:=by
  have m:=OE f [];rw[alw]at m;rw[akS];omega
 have he:∃q,p.get? s.heap.objs.size=some q:=let⟨q,_,_,o,_⟩:=j;⟨q,o⟩
 exact C9 g (by rw[e];exact aly) av he (LM hz hd (x.merge .nil) j)
structure iv(X:aN)(o:Expr)(m:Str)(apos:Pos)(e:Expr)(de:Pos):Prop where
 base:alL o m X.env (eval o X.env)=eval o X.env
 Du:((al0 de (akT [e] X.env)).all (λx=>!x.1)&&(anh de (amo [] X.env)).all (λx=>x.1.isSome)
&&decide (([e]:List Expr).length+([]:List am1).length+(if([]:List am1).isEmpty then 0 else 1)<30))=true
 line:(apos.endLine==de.line)=true
 trees:al0 de (akT [e] X.env)=[(false,eval e X.env)]
structure M2(X:aN)(o:Expr)(m:Str)(apos:Pos)(e f:Expr)(de:Pos):Prop where
 base:alL o m X.env (eval o X.env)=eval o X.env
 Du:((al0 de (akT [e,f] X.env)).all (λx=>!x.1)&&(anh de (amo [] X.env)).all (λx=>x.1.isSome)
&&decide (([e,f]:List Expr).length+([]:List am1).length+(if([]:List am1).isEmpty then 0 else 1)<30))=true
 line:(apos.endLine==de.line)=true
 trees:al0 de (akT [e,f] X.env)=[(false,eval e X.env),(false,eval f X.env)]
def HV(H:au)(a:Addr):Prop:=(∃b,gq H a (.gu b))\/∃b,gq H a (.h8 b)
def Zp(I:Inv X C U H s)(d:HV H a) :
  s.TypeIs (.ref a) "dict"/\(∀b,akZ a=.ref b->∃bD,s.heap.get? b=some bD/\bD.dict=none)/\(a==alK)=false:=by
 rcases d with⟨o,e⟩|⟨o,e⟩
 .obtain⟨_,hd,vs,_,dd⟩:=wh I.bP e
  refine⟨dd.typeIs,λb q=>?_,hd⟩;cases q;obtain⟨bD,_,_,c,f,_⟩:=dd;exact⟨bD,c,f.2.1⟩
 .obtain⟨_,hd,xs,_,dd⟩:=wk I.bP e
  refine⟨dd.typeIs,λb q=>?_,hd⟩;cases q;obtain⟨bD,_,_,c,f,_⟩:=dd;exact⟨bD,c,f.2.1⟩
section
variable{X:aN}{ae:c0}{U:St}{H:au}{s:akd}{a:Addr}{y d:V}{u r:Value}{o:Option V}{A:akw}{E:cZ}
def UW{Q:cZ}(j:A.units+1<cLine)(I:Inv X ae U H s)(g:lP H a y o)(f:RelV y u)(cN:RelV d r)(h:∀i s',Inv X ae U H s'->RelV (o.getD d) i->Q i s') :
  wpAny (model X.prog X.w) A (call (.builtin "dict.get") [.ref a,u,r]) Q E s:=by
 rcases g with⟨aD,k,e,C,l⟩|⟨aD,k,b,e,C,cu,l⟩
 .subst C
  obtain⟨z,hd,vs,c,dd⟩:=wh I.bP e;refine call_meetsIn al4 dd.typeIs am8 (aoq _ _ _) (meets_dict_get_default (js X.prog X.w) a (w5 f) hd r) ⟨_,dd.mapOf,h _ _ (I.tok _) ?_⟩;rw[l];exact(c.val k).getD cN
 .subst C
  cases(show u=akZ b from f);obtain⟨z,hd,xs,c,dd⟩:=wk I.bP e;refine call_meetsIn al4 dd.typeIs am8 (aoq _ _ _) (meetsH_dict_get_default (anH (js X.prog X.w)) a b hd r) ⟨anJ j,k,xs,Ao I.bP cu,dd,h _ _ (I.tok _) ?_⟩;rw[l];exact(c.val k).getD cN
end
def aev(e ty cT:TE):TE:=λU H Q=>e U H λx b=>∃a,x=.ref a/\HV b a/\ty U b λy d=>cT U d λz c=>∃o,lP c a y o/\Q (o.getD z) c
section
variable{X:aN}{o e f:Expr}{apos de:Pos}{lJ ty cT:TE}
def acx(q:X.A.units+1<cLine)(n:b6 X o lJ)(he:b6 X e ty)(B:b6 X f cT)(m:M2 X o "get" apos e f de):b6 X (.Call (.Attribute o "get" apos) [e,f] [] de) (aev lJ ty cT):=by
 intro b s U H Q I h;refine wpAny_Call_method m.base m.Du m.line aor al4 aoI (cb (n b s U H _ I h) λu s1 ⟨x,i,c,j,a,ex,d,bw⟩=>?_);subst ex;obtain rfl:=j;obtain⟨J,t,_⟩:=Zp c d;refine⟨J,t,?_⟩;rw[m.trees];refine ams rfl (amG (amV (cb (he b s1 U i _ c bw) λM s2 ⟨y,k,r,l,cB⟩=>
  amV (cb (B b s2 U k _ r cB) λL s3 ⟨z,p,w,D,cc,g,E⟩=>anZ ?_))))
 exact UW q w g l D λK N G F=>⟨_,p,G,F,E⟩
end
class a4 where
 g6:Addr->Prop
 u7:Addr->Str
def nf:g_->Prop
 |.gE _=>False|_=>True
def rE(c:Addr)(q:Str):Heap->Prop:=λh=>h.CodeRec (.ref c) q
def Sw[a4](H:au)(P:Addr):Prop:=∃ps:Array Value,H P=some (.gE ps)/\aox ps.toList/\∀pos a,anK pos ps.toList=some a->∃c,a=.ref c/\H c=some (.ext (rE c (a4.u7 P)))
def TabsOk[a4](H:au):Prop:=∀P,a4.g6 P->Sw H P
structure eZ[a4](H H':au):Prop where
 at':∀b o,H b=some o->(h:nf o:=by exact trivial)->H' b=some o
 dt:∀b ps,H b=some (.gE ps)->∃lF,H' b=some (.gE lF)
 b5:TabsOk H->TabsOk H'
variable[a4]
def aa8(o:g_):nf o\/∃ps,o=.gE ps:=by cases o<;>first|exact .inl trivial|exact .inr ⟨_,rfl⟩
def eZ.refl(H:au):eZ H H:=⟨λ_ _ h _=>h,λ_ ps h=>⟨ps,h⟩,id⟩
def eZ.trans(a:eZ H H1)(b:eZ H1 C):eZ H C:=
 ⟨λc o h n=>b.at' c o (a.at' c o h n) n,λc ps h=>let⟨p1,aq⟩:=a.dt c ps h;b.dt c p1 aq,λg=>b.b5 (a.b5 g)⟩
def eZ.some{H a:au}(s:eZ H a)(h:H b≠none):a b≠none:=by
 cases e:H b with
 |none=>exact absurd e h|some o=>
  rcases aa8 o with n|⟨ps,rfl⟩
  .rw[s.at' b o e n];intro z;cases z
  .obtain⟨p,q⟩:=s.dt b ps e;rw[q];intro z;cases z
def eZ.free{H a:au}(e:eZ H a)(h:a l=Option.none):H l=Option.none:=by
 cases q:H l with
 |none=>rfl| some o=>exact absurd h (e.some (by rw[q];intro z;cases z))
def eZ.seq{K:aP}{H b:au}{a:Addr}{xs:List V}(e:eZ H b)(h:dy K H a xs):dy K b a xs:=by
 rcases h with(h|⟨o,h⟩)|h
 .exact .inl (.inl (e.at' _ _ h))
 .exact .inl (.inr ⟨o,e.at' _ _ h⟩)
 .exact .inr h
def TabsOk.put{H:au}(g:TabsOk H)(o:g_)(a:∀ps,H p≠some (.gE ps))(b:∀q,H p≠some (.ext (rE p q))):TabsOk (upd H p o):=λP d=>by
 obtain⟨ps,e,t,c⟩:=g P d;refine⟨ps,by rw[du (by rintro rfl;exact a _ e)];exact e,t,λpos h f=>?_⟩;obtain⟨c',aq,aC⟩:=c pos h f;exact⟨c',aq,by rw[du (by rintro rfl;exact b _ aC)];exact aC⟩
def TabsOk.new{H:au}(g:TabsOk H)(h:H p=none)(o:g_):TabsOk (upd H p o):=g.put o (λps=>by rw[h];intro z;cases z) (λa=>by rw[h];intro z;cases z)
def TabsOk.l{H:au}{p:Addr}{a:List V}(g:TabsOk H)(h:H p=some (.l a))(o:g_):TabsOk (upd H p o):=g.put o (λps=>by rw[h];intro z;cases z) (λb=>by rw[h];intro z;cases z)
def sT{H:au}(h:H p=none)(o:g_):eZ H (upd H p o):=
 ⟨λb u q _=>by rw[du (kM q h)];exact q,λb ps q=>⟨ps,by rw[du (kM q h)];exact q⟩,λg=>g.new h o⟩
def yo{a H:au}{D:Addr}(c:a D=none)(s:eZ a H)(d:H D=some (.l zs))(o:g_):eZ a (upd H D o):=
 ⟨λb u q n=>by rw[du (kM q c)];exact s.at' b u q n,λb ps q=>by rw[du (kM q c)];exact s.dt b ps q,λg=>(s.b5 g).l d o⟩
end aB
namespace aB
open PySem
def oW(env:Env):List (Str×amr)->List (Str×Addr)->List (Str×Addr)
 |[],acc=>acc|(n,k)::r,acc=>if(k==ane)=true then oW env r ((n,(env.cells.lookup n).getD 0)::acc)else oW env r acc
abbrev qj(scope:Scope)(env:Env):List (Str×Addr):=oW env scope.names []
def Ko{scope:Scope}{env:Env}(h:∀y∈scope.names,y.2=.free->∃c,env.cells.lookup y.1=some c):an8 scope env=pure (qj scope env):=by
 unfold an8 qj;generalize scope.names=ns at h;generalize([]:List (Str×Addr))=a;show(forIn ns a _ >>= _)=_
 induction ns generalizing a with
 |nil=>rfl|cons y r f=>
  obtain⟨n,k⟩:=y;rw[List.forIn_cons];have d:=λa=>f (λy g=>h y (aki _ g)) a
  by_cases b:(k==ane)=true
  .have i:k=.free:=by simpa using b
   obtain⟨c,e⟩:=h (n,k) akj i;have aq:cellOf env n=pure c:=by unfold cellOf;rw[e]
   simp only[b,aq,oW,e];exact d _
  .simp only[b,oW]
   exact d _
theorem CW{env:Env}:∀{ns:List (Str×amr)}{acc:List (Str×Addr)}{p:Str×Addr},p∈oW env ns acc->p∈acc\/∃k,(p.1,k)∈ns/\k=ane/\p.2=(env.cells.lookup p.1).getD 0
 |[],_,_,h=>.inl h|(n,k)::r,acc,p,h=>by
  unfold oW at h;split at h
  .rename_i c
   rcases CW h with h|⟨o,a,b⟩
   .rcases akq.mp h with rfl|h
    .exact .inr ⟨k,akj,by simpa using c,rfl⟩
    .exact .inl h
   .exact .inr ⟨o,aki _ a,b⟩
  .rcases CW h with h|⟨o,a,b⟩
   .exact .inl h
   .exact .inr ⟨o,aki _ a,b⟩
theorem CV:∀{ns:List (Str×amr)}{acc:List (Str×Addr)}{y:Str},((y,ane)∈ns\/∃c,(y,c)∈acc)->∃c,(y,c)∈oW env ns acc
 |[],_,_,h=>by
  rcases h with h|h
  .cases h
  .exact h
 |(n,k)::r,acc,y,h=>by
  unfold oW;split
  .refine CV ?_
   rcases h with h|⟨c,h⟩
   .rcases akq.mp h with e|h
    .cases e;exact .inr ⟨_,akj⟩
    .exact .inl h
   .exact .inr ⟨c,aki _ h⟩
  .rename_i a
   refine CV ?_;rcases h with h|h
   .rcases akq.mp h with e|h
    .cases e;exact absurd rfl a
    .exact .inl h
   .exact .inr h
theorem OJ{α:Type}{y:Str}{c:α}:∀{l:List (Str×α)},(y,c)∈l->∃c',l.lookup y=some c'
 |(n,k)::r,h=>by
  by_cases e:(y==n)=true
  .exact⟨k,by rw[akU,e]⟩
  .have a:(y==n)=false:=by simpa using e
   rcases akq.mp h with z|z
   .cases z;simp at e
   .obtain⟨c',q⟩:=OJ z
    exact⟨c',by rw[akU,a];exact q⟩
def UA{scope:Scope}{env:Env}(h:∀y∈scope.names,y.2=.free->∃c,env.cells.lookup y.1=some c)(e:(qj scope env).lookup y=some c):env.cells.lookup y=some c:=by
 rcases CW (alC e)with z|⟨k,a,b,d⟩
 .cases z
 .obtain⟨c',q⟩:=h _ a b
  have d':=d;rw[q]at d' ⊢;exact congrArg some d'.symm
def Km{scope:Scope}(h:scope.names.lookup y=some .free):∃c,(qj scope env).lookup y=some c:=by
 obtain⟨c,q⟩:=CV (.inl (alC h));exact OJ q
theorem O3{g:Str×amr->Str×amr}{y:Str}(a:∀p,(g p).1=p.1)(b:∀p,p.2≠.cell->(g p).2=.cell\/(g p).2=.free->p.2=.free) :
  ∀{ns:List (Str×amr)},(∀z∈ns,z.2≠aoO)->((ns.map g).lookup y=some .cell\/(ns.map g).lookup y=some .free)->ns.lookup y=some .free
 | [],_,h=>by simp at h|p::r,hc,h=>by
  rw[akm]at h;have bw:=a p;have cB:=b p (hc p akj);generalize g p=q at h bw cB;obtain⟨d,c⟩:=q;obtain⟨n,k⟩:=p;subst bw;rw[akU]at h ⊢
  cases e:(y==d)with
  |true=>
   rw[e]at h;exact congrArg some (cB (h.imp akF akF))
  |false=>
   rw[e]at h;exact(O3 a b λz hz=>hc z (aki _ hz)) h
def adC{scope:Scope}(c:∀z∈scope.names,z.2≠aoO)(h:(relabel scope env).names.lookup y=some .cell\/(relabel scope env).names.lookup y=some .free):scope.names.lookup y=some .free:=by
 refine O3 (λp=>?_) (λp a q=>?_) c h
 .obtain⟨n,k⟩:=p
  dsimp only;split<;>rfl
 .obtain⟨n,k⟩:=p
  dsimp only at q a ⊢;split at q
  .rename_i b
   have:=(akD _ _▸(akD _ _▸b).1).1;simpa using this
  .exact q.elim (λz=>absurd z a) id
end aB
namespace aB
open PySem PySem.Spec PyProof.Rows
def ef(X:aN)(scope:Scope)(N:List Str)(C:Addr)(a:List Addr)(s:akd)(H:au):aN where
 prog:=X.prog
 w:=X.w
 K:=X.K
 mg:=X.mg
 base:=X.base
 A:=X.A
 N:=N
 hr:=s
 H₀:=H
 env:=compEnvC scope (qj scope X.env) C X.env
 outer:=X.stack
 stack:=X.stack
 ex:=a
 fn:=λ_=>false
 calm:=X.calm
 lE:=[]
 dv:=λ_ _=>False
abbrev nP(X:aN)(scope:Scope)(N:List Str)(x:Str):Prop:=∀C a s H,Loc (ef X scope N C a s H).env.scope x/\(ef X scope N C a s H).env.scope.names.lookup x=some .local
abbrev Ck(X:aN)(scope:Scope)(N:List Str)(x:Str)(p1:Pos)(y:Str)(eW:Pos):Prop:=∀C a s H,(ak4 [.Name x p1,.Name y eW] (ef X scope N C a s H).env).length=2/\(ak4 [.Name x p1,.Name y eW] (ef X scope N C a s H).env).findIdx? (·.1)=none/\(ak4 [.Name x p1,.Name y eW] (ef X scope N C a s H).env).map (·.2)=assign (.Name x p1) (ef X scope N C a s H).env::(ak4 [.Name y eW] (ef X scope N C a s H).env).map (·.2)/\(ak4 [.Name y eW] (ef X scope N C a s H).env).map (·.2)=assign (.Name y eW) (ef X scope N C a s H).env::(ak4 [] (ef X scope N C a s H).env).map (·.2)
structure lO(esc scope:Scope)(EN N:List Str)(n:Nat)(cap:List Nat):Prop where
 kind:scope.kind=.function
 cell:∀y∈scope.names,y.2≠.cell
 loc:∀y∈scope.names,y.2=.local->scope.names.lookup y.1=some .local
 free:∀y∈scope.names,y.2=.free->esc.names.lookup y.1=some .cell\/esc.names.lookup y.1=some .free
 cS:N.Nodup
 len:N.length=n+cap.length
 Ur:∀j<cap.length,N[n+j]? = EN[cap.getD j 0]?/\∀x,N[n+j]? = some x->scope.names.lookup x=some .free
def h7(n:Nat)(a:List Nat)(U:St):St:=akA n none++a.map λk=>(U[k]?).join
def UI{a:List Nat}:(h7 n a U).length=n+a.length:=by
 unfold h7;rw[akh,alk,akc]
def UH{a:List Nat}{U:St}{v:V}(h:(h7 n a U)[i]? = some (some v)):∃j,i=n+j/\j<a.length/\U[a.getD j 0]? = some (some v):=by
 unfold h7 at h
 by_cases c:i<n
 .rw[akE (by simpa using c),alU,if_pos c]at h
  cases h
 .rw[aky (by simpa using c),alk,akC]at h
  cases e:a[i-n]? with
  |none=>rw[e]at h;cases h
  |some k=>
   rw[e]at h;refine⟨i-n,by omega,((ake.mp e).1),?_⟩;have b:(U[k]?).join=some v:=akF h;rw[alb,e,Option.getD_some]
   cases q:U[k]? with
   |none=>rw[q]at b;cases b
   |some z=>rw[q]at b;exact congrArg some b
section
variable{X:aN}{scope esc:Scope}{EN N:List Str}{n:Nat}{cap:List Nat}{ae:c0}{U:St}{H:au}{s:akd}{a9:List Addr}
def Zo{g:Heap}{tk:Nat}{m:ba}(S:lO esc scope EN N n cap)(he:X.env.scope=esc)(hN:X.N=EN)(I:Inv X ae U H s)(t:∀b∈a9,hH X ae H b)(R:∀b∈a9,∃o,s.heap.get? b=some o)
  (W:g.Ns s.heap.objs.size m) (k:∀b o,s.heap.get? b=some o->g.get? b=some o) :
  Inv (ef X scope N s.heap.objs.size a9 s H) [] (h7 n cap U) H { s with heap:=g,toks:=tk }:=by
 have V:∀y∈scope.names,y.2=.free->∃c,X.env.cells.lookup y.1=some c:=λy A Q=>by
  refine I.ok.has y.1 ?_;show X.env.scope.names.lookup y.1=_\/X.env.scope.names.lookup y.1=_;rw[he];exact S.free y A Q
 have up:∀{y:Str}{c:Addr},(qj scope X.env).lookup y=some c->X.env.cells.lookup y=some c:=λ{y c} e=>UA V e
 have B:∀y,(ef X scope N s.heap.objs.size a9 s H).env.kindOf y=some .cell\/(ef X scope N s.heap.objs.size a9 s H).env.kindOf y=some .free->scope.names.lookup y=some .free:=λy h=>adC S.cell h
 have a:∀c v,s.heap.IsCell c v->g.IsCell c v:=λc v ⟨o,e,d⟩=>⟨o,k c o e,d⟩
 refine⟨⟨I.ok.mod,S.kind,I.ok.glob,I.ok.blt,akf _,λx y c M O=>I.ok.inj x y c (up M) (up O),λy A=>Km (B y A),λ_ _ z=>absurd z akp,I.ok.hd,I.ok.frames,.inl rfl,λb f=>⟨?_,λx c e=>(t b f).2.2.2.2.1 x c (up e)⟩,I.bs,alc I.ok.lX I.jv,λb o e f=>?_,λb f hz=>?_,I.stack,I.G6⟩,
  rfl,I.bare,gI.kept k,⟨m,W,λi x v aq aC cP=>?_⟩,λx c e=>?_,I.bP.fresh (akf _),λx c e=>I.ll x c (up e),λp L=>absurd (show p∈([]:c0)from L) (by simp),I.bP.kept k,?_⟩
 .obtain⟨o,e⟩:=R b f
  exact akv (akl e)
 .rcases(t b f).2.2.2.1 with z|z
  .exact I.ok.uM b o e z
  .exact absurd (akJ (akl e) (alc I.ok.lX z)) (ak0 _)
 .rcases akq.mp (I.G7 b hz)with z|z
  .exact(t b f).2.1 z
  .exact(t b f).2.2.1 z
 .obtain⟨j,rfl,K,e_⟩:=UH aC
  obtain⟨bM,ak⟩:=S.Ur j K;have aq:N[n+j]? = some x:=aq;have D:=ak x aq;rw[aq,<-hN]at bM;obtain⟨c,F⟩:=Km D;obtain⟨Y,P,T⟩:=I.loc;have J:X.env.scope.names.lookup x=some .cell\/X.env.scope.names.lookup x=some .free:=by
   rw[he];exact S.free (x,.free) (alC D) rfl
  obtain⟨u,r,l⟩:=T _ x v bM.symm e_ (J.elim (λz=>.inr (.inl z)) λz=>.inr (.inr z));refine⟨u,r,.inr ⟨?_,c,F,?_⟩⟩
  .rcases cP with z|z|z
   .exfalso
    have hz:∀ns:List (Str×amr),ns.lookup x=some .free->(ns.map λ(n,k)=>if(k==ane&&X.env.scope.kind==.function&&X.env.kindOf n==some .cell)then(n,aoO)else(n,k)).lookup x≠some .local:=by
     intro ns
     induction ns with
     |nil=>intro h;simp at h|cons p r E=>
      obtain⟨lE,Z⟩:=p;intro h;rw[akm];rw[akU]at h
      cases q:(x==lE)with
      |true=>
       rw[q]at h;have g:=akF h;subst g;dsimp only;split
       .rw[akU,q];intro w;cases w
       .rw[akU,q];intro w;cases w
      |false=>
       rw[q]at h;dsimp only;split
       .rw[akU,q];exact E h
       .rw[akU,q];exact E h
    exact hz _ D z
   .exact .inl z
   .exact .inr z
  .rcases l with⟨q,_⟩|⟨_,c',l0,z⟩
   .exfalso
    have G:X.env.scope.names.lookup x=some .local:=q;rcases J with w|w<;>rw[w]at G<;>cases G
   .rw[up F]at l0
    cases l0;exact a c _ z
 .obtain⟨v,z⟩:=I.cell x c (up e)
  exact⟨v,a c v z⟩
 .show(h7 n cap U).length=N.length
  rw[UI,S.len]
def Zn{N:List Str}(I:Inv X ae U H s)(d:∀b∈a9,hH X ae H b)(c:Inv (ef X scope N C a9 s H) o U' H' s'):Inv X ae U H' s':=
 I.zu c.os c.base c.bP c.bare λb a=>⟨(d b a).2.2.2.1,(d b a).2.1,(d b a).2.2.2.2.1,(d b a).2.2.2.2.2⟩
end
section
variable{X:aN}
def tD(X:aN)(a:List Expr)(t:TT):Prop:=
 ∀(b:c0)(s:akd)(U:St)(H:au)(Q:Bool->au->Prop),Inv X b U H s->t U H Q->
  wpAny (model X.prog X.w) X.A (forIn a true λc r=>if r=true then do let ok <-isTrue c X.env (eval c X.env);pure (anw ok)else pure (anw r)) (Cg X b U Q) X.dv s
def aeO:TT:=λ_ H Q=>Q true H
def acO:tD X [] aeO:=λ_ _ _ H _ I h=>wpAny_tests_nil ⟨H,I,h⟩
def acP{t:TT}(h:i' X c t):tD X [c] t:=λb s U H Q I a=>wpAny_tests_one (h b s U H Q I a)
end
section
variable{prog:akr}{w:World}{A:akw}{R:Result->akd->Prop}{s:akd}
def UC{e a g:Expr}{f:List Expr}{scope:Scope}{pos:Pos}{it d:Value}{env:Env}(I:Nat->akd->Prop)
  (turn:∀n s,I n s->wpAny (model prog w) A (pyNext it) (λr i=>match r with
   |none=>R (.ok .next) i| some v=>wpAny (model prog w) A (ans a it v) (λ_ l=>wpAny (model prog w) A (assign a env v) (λ_ t=>
     wpAny (model prog w) A (forIn f true λc r=>if r=true then do let ok <-isTrue c env (eval c env);pure (anw ok)else pure (anw r)) (λok j=>
      if ok=true then wpAny (model prog w) A (eval e env) (λx k=>
       wpAny (model prog w) A (call (.builtin "list.append") [d,x]) (λ_ p=>∃m,m<n/\I m p) (λ_ _=>False) k) (λ_ _=>False) j
      else ∃m,m<n/\I m j) (λ_ _=>False) t) (λ_ _=>False) l) (λ_ _=>False) i) (λ_ _=>False) s)
  (n:Nat) (h:I n s) :
  amM (model prog w) A (.compLoop (.ListComp e [⟨a,g,f,0⟩] scope pos) 0 it d env) R s:=by
 refine codeAny_loop rfl I (λn s B=>?_) n h;refine wpAny_noted<|aka (wpAny_standAt (aka (akW (turn n s B) (λr i q=>?_) λ_ _ b=>b.elim)))
 cases r with
 |none=>exact akn q|some v=>
  refine aka (akW q (λ_ l z=>?_) λ_ _ b=>b.elim);refine aka (akW z (λ_ t E=>aka (akW E (λok j u=>?_) λ_ _ b=>b.elim)) λ_ _ b=>b.elim)
  cases ok with
  |false=>exact akn ⟨rfl,u⟩|true=>
   exact aka (aka (akW u (λx k y=>aka (akW y (λ_ p D=>akn (akn ⟨rfl,D⟩)) λ_ _ b=>b.elim)) λ_ _ b=>b.elim))
end
def nF(U a:St):Prop:=U.length=a.length/\∀(i:Nat) v,U[i]? = some (some v)->a[i]? = some (some v)
def nF.refl(U:St):nF U U:=⟨rfl,λ_ _ h=>h⟩
def nF.set{U b:St}(h:nF U b)(c:U[i]? = some none):nF U (b.set i (some x)):=by
 refine⟨by rw[ali];exact h.1,λj v e=>?_⟩
 by_cases a:i=j
 .subst a;rw[c]at e;cases e
 .rw[aku a];exact h.2 j v e
def C1(d:iO)(U':St)(g:jG)(q:TT)(p:TE)(D:Addr)(k:au)(Q:c_):Prop:=
  ∃W:Nat->Nat->List V->au->Prop,(∃m,W 0 m [] (upd k D (.l [])))/\∀i m a H,W i m a H->
   ((d.stop i H/\Q (.ref D) H)\/(d.go i H/\∀x f,d.pT i H x f->g x U' f λe n=>nF U' e/\q e n λb h=>
       if b=true then p e h λy j=>j D=some (.l a)/\a.length<akg/\∃c,c<m/\W (i+1) c (a++[y]) (upd j D (.l (a++[y])))else ∃c,c<m/\W (i+1) c a h))
def vf(n:Nat)(a:List Nat)(wi:TI)(g:jG)(e:TT)(d:TE):TE:=λU H Q=>wi U H λc b=>∀D,b D=none->C1 c (h7 n a U) g e d D b Q
section
variable{X:aN}{scope esc:Scope}{EN N:List Str}{n:Nat}{cap:List Nat}{ae:c0}{U:St}{s:akd}{elt cI iter:Expr}{ifs:List Expr}{pos:Pos}{g:jG}{tt:TT}{te:TE}
def Ku{E:cZ}{H:au}{b':iO}{a:List Addr}{it:Addr}{fX:Nat->Heap->Prop}{Q:c_}{y1:Value->Addr->Result->akd->Prop}(S:lO esc scope EN N n cap)(he:X.env.scope=esc)(hN:X.N=EN)(hc:X.calm=true)
  (a0:∀C a s H,p' (ef X scope N C a s H) cI g) (bT:∀C a s H,tD (ef X scope N C a s H) ifs tt) (iC:∀C a s H,b6 (ef X scope N C a s H) elt te)
  (I:Inv X ae U H s) (T:Turn X.prog X.w X.K cI b' a it fX) (st:fX 0 s.heap) (hf:∀b∈a,hH X ae H b) (a8:∀D,H D=none->C1 b' (h7 n cap U) g tt te D H Q)
  (Ww:∀D C c s' m,Inv X ae U c s'->hH X ae c C->s'.heap.Ns C m->Q (.ref D) c->y1 (.ref D) C (.ok .next) s') :
  wpAny (model X.prog X.w) X.A (newList []) (λB t=>wpAny (model X.prog X.w) X.A (newFunctionEnv scope X.env.globals (qj scope X.env) [] X.env.qual none .none (some X.env)) (λKj Bn=>
   amM (model X.prog X.w) X.A (.compStart (.ListComp elt [⟨cI,iter,ifs,0⟩] scope pos) 0 (.ref it) B { Kj with scope:=relabel scope X.env }) (y1 B Kj.locals) Bn) E t) E s:=by
 refine amw (wpAny_newFunctionEnv S.cell (by intro y a_;simp at a_) (λjm Ni Np=>?_) S.kind);have G:=I.OI (t':=s.toks) .nil (akG _);obtain⟨W,⟨m0,rj⟩,turn⟩:=a8 _ I.fresh;generalize Nn:({ s with heap:=s.heap.push { cls:=.type "list",data:=.seq ([]:List Value).toArray },toks:=s.toks }:akd)=s3 at G;have k3:∀b o,s.heap.get? b=some o->s3.heap.get? b=some o:=λb o e=>by rw[<-Nn];exact akb _ e
 have hh:s.heap.push { cls:=.type "list",data:=.seq ([]:List Value).toArray }=s3.heap:=by rw[<-Nn]
 try rw[hh]at Ni
 try rw[hh]at Np
 have M:∀b∈a,hH X ae (upd H s.heap.objs.size (.l [])) b:=λb f=>by
  refine⟨?_,(hf b f).2⟩;obtain⟨o,e,_⟩:=T.obj _ _ st b f;rw[du (akv (akl e))];exact(hf b f).1
 have N0:=λb o e=>Np.extBut b o (akv (akl e)) (akb _ e)
 have bD:∀b∈a,∃o,s3.heap.get? b=some o:=λb f=>by
  obtain⟨o,e,_⟩:=T.obj _ _ st b f;exact⟨o,k3 b o e⟩
 have Bl:=T.keep _ _ _ st λb _ o e=>N0 b o (k3 b o e)
 have Wo:s3.heap.objs.size<=s3.heap.objs.size:=akf _;have h:∀t:akd,t.heap=jm->Inv (ef X scope N s3.heap.objs.size a s3 (upd H s.heap.objs.size (.l []))) [] (h7 n cap U) (upd H s.heap.objs.size (.l [])) t->
   amM (model X.prog X.w) X.A (.compLoop (.ListComp elt [⟨cI,iter,ifs,0⟩] scope pos) 0 (.ref it) (.ref s.heap.objs.size) (compEnvC scope (qj scope X.env) s3.heap.objs.size X.env)) (y1 (.ref s.heap.objs.size) s3.heap.objs.size) t:=by
  intro t Vv L;have sX:∀{c:au},(∀b∈a,c b=none)->∀b∈a,hH (ef X scope N s3.heap.objs.size a s3 (upd H s.heap.objs.size (.l []))) [] c b:=λ{c} R b f=>
   ⟨R b f,(L.ok.wt b f).1,L.ok.tZ b f,.inl f,(L.ok.wt b f).2,λp aO=>absurd (show p∈([]:c0)from aO) (by simp)⟩
  refine UC (λk s'=>∃i j c,Inv (ef X scope N s3.heap.objs.size a s3 (upd H s.heap.objs.size (.l []))) [] (h7 n cap U) c s'/\fX i s'.heap/\(∀b∈a,c b=none)/\W i k j c) ?_ m0
   ⟨0,[],_,L,by rw[Vv];exact Bl,λb f=>(M b f).1,rj⟩
  rintro k s5 ⟨i,j,J,tw,vc,zQ,Z⟩;rcases turn i k j J Z with⟨stop,q⟩|⟨go,step⟩
  .refine cb (T.done (ef X scope N s3.heap.objs.size a s3 (upd H s.heap.objs.size (.l []))) rfl rfl rfl hc i [] s5 _ J _ tw (sX zQ) vc stop) λr s6 ⟨P,vI⟩=>?_
   subst P;obtain⟨m,R,_⟩:=vI.loc;exact Ww _ _ J s6 m (Zn G M vI) (G.rP Wo vI.free) R q
  .refine cb (T.item (ef X scope N s3.heap.objs.size a s3 (upd H s.heap.objs.size (.l []))) rfl rfl rfl hc i [] s5 _ J (λ_ _=>False) tw (sX zQ) vc go) λr s6 ⟨u,P,ib⟩=>?_
   subst P;refine cb ib λ_ s7 ⟨x,ku,kZ,GC,agL,O,VN⟩=>?_
   refine cb (a0 _ _ _ _ _ s7 _ ku x u _ (kZ.pinned (sX VN) (T.obj _ _ O)) GC (step x ku agL)) λ_ s8 ⟨F,Sk,Sp,zM,V⟩=>?_
   refine cb (bT _ _ _ _ _ s8 F Sk _ Sp V) λb s9 ⟨HO,HU,P7⟩=>?_
   have back:∀{c:au}{s':akd},Inv (ef X scope N s3.heap.objs.size a s3 (upd H s.heap.objs.size (.l []))) ([]++u4 a s7.heap) F c s'->
     Inv (ef X scope N s3.heap.objs.size a s3 (upd H s.heap.objs.size (.l []))) [] (h7 n cap U) c s'/\fX (i+1) s'.heap/\∀b∈a,c b=none:=λ{c s'} i9=>by
    refine⟨i9.yn.weak zM.1 zM.2,T.keep _ _ _ O λb f o e=>(i9.pin (b,o) (akH _ (akH _ (AR f e)))).1,λb f=>?_⟩;obtain⟨o,e,d⟩:=T.obj _ _ O b f;exact(i9.pin (b,o) (akH _ (akH _ (AR f e)))).2.1
   cases b with
   |false=>
    obtain⟨ec,hm,eJ⟩:=P7;obtain⟨cq,cn,gK⟩:=back HU;exact⟨ec,hm,i+1,j,HO,cq,cn,gK,eJ⟩
   |true=>
    refine cb (iC _ _ _ _ _ s9 F HO _ HU P7) λv ot ⟨y,HN,Sn,Y,Wr,hz,ec,hm,eJ⟩=>?_
    refine cb (FP _ ot F HN (.ref s.heap.objs.size) [y] (.ref s.heap.objs.size) [v] (λz c=>z=.ay/\c=upd HN s.heap.objs.size (.l (j++[y]))) Sn rfl (.cons Y .nil) ⟨_,j,y,rfl,rfl,Wr,hz,rfl,rfl⟩) λz ju ⟨aj8,ahw,So,_,_,tV⟩=>?_
    subst tV;obtain⟨cq,cn,gK⟩:=back So;exact⟨ec,hm,i+1,j++[y],_,cq,cn,gK,eJ⟩
 have HT:=(Zo (tk:=s3.toks) S he hN G M bD Ni N0);exact codeAny_compStart_list (h _ rfl HT) (T.self _ 0 _ _ _ Bl (h _ rfl HT))
theorem Gj(S:lO esc scope EN N n cap){wi:TI}(B:j5 X cI iter wi)(i:∀C a s H,p' (ef X scope N C a s H) cI g)(w:∀C a s H,tD (ef X scope N C a s H) ifs tt)(F:∀C a s H,b6 (ef X scope N C a s H) elt te)
  (he:X.env.scope=esc:=by rfl) (hN:X.N=EN:=by rfl) (A:X.calm=true:=by rfl) (av:jH X iter:=by intro _;rfl):b6 X (.ListComp elt [⟨cI,iter,ifs,0⟩] scope pos) (vf n cap wi g tt te):=by
 intro ae s U H Q I h;have d:=Ko λy l u=>I.ok.has y.1 (by
  show X.env.scope.names.lookup y.1=_\/X.env.scope.names.lookup y.1=_;rw[he];exact S.free y l u)
 refine wpAny_comprehension_free rfl av d S.kind S.loc (cb (B ae s U H _ I h) λv s1 r=>cb r λJ s2 t=>?_);obtain⟨it,a,fX,L,K,e,x,T,cJ,z,j⟩:=t;subst e;refine Ku S he hN A i w F x T cJ z j λD C f s' m E c k q=>?_
 exact⟨m,k,λM G=>⟨.ref D,f,E.turned (λb o p e=>G.extBut b o p e) c.1 c.2.1 c.2.2.2.1 c.2.2.2.2.1 c.2.2.2.2.2,rfl,q⟩⟩
theorem ac4{i:Nat}{y:Str}{py l:Pos}(S:lO esc scope EN N n cap){wi:TI}(rW:X.N.Nodup)(Z:X.N[i]? = some y)(j:X.env.scope.names.lookup y=some .local)(R:j5 X cI iter wi)(B:∀C d s H,p' (ef X scope N C d s H) cI g)(M:∀C d s H,tD (ef X scope N C d s H) ifs tt)(W:∀C d s H,b6 (ef X scope N C d s H) elt te)
  (he:X.env.scope=esc:=by rfl) (hN:X.N=EN:=by rfl) (Q:X.calm=true:=by rfl) (av:jH X iter:=by intro _;rfl)
  (Y:alr (.ListComp elt [⟨cI,iter,ifs,0⟩] scope pos) (some (.Name y py)) l.line X.env=pure true:=by rfl) :
  iQ X (.Assign [.Name y py] (.ListComp elt [⟨cI,iter,ifs,0⟩] scope pos) l) (ve (vf n cap wi g tt te) (n3 i)):=by
 intro ae s U H D I h;have p:=Ko λy j L=>I.ok.has y.1 (by
  show X.env.scope.names.lookup y.1=_\/X.env.scope.names.lookup y.1=_;rw[he];exact S.free y j L)
 rw[exec_Assign_Name_used _ _ _ _ Y];refine aka (wpAny_standAt (aka ?_));refine aka (akW (wpAny_comprehension_free rfl av p S.kind S.loc
  (cb (R ae s U H _ I h) λv s1 G=>cb G λAi s2 J=>?_)) (λ_ s' k=>akn (akn k)) λ_ _ e=>e)
 refine bR λf=>?_
 obtain⟨it,d,fX,b',aQ,e,O,T,cJ,P,k⟩:=J;subst e;refine f ?_;refine Ku S he hN Q B M W O T cJ P k λt C r s' m V c E q=>?_
 refine wpAny_assign_Name (QW (v:=.ref t) V rW Z (.inl j) rfl (λBg u ch=>?_) (.inr j));refine bR λf=>?_
 obtain⟨a,A,K⟩:=ch;have x:C≠a:=by
  refine bR λf=>?_
  rcases K with z|z
  .refine f ?_
   rw[z];exact c.2.1
  .exact f (λw=>c.2.2.2.2.1 y a z w.symm)
 refine f ⟨m,E.sameBut A x,λh' r_=>?_⟩;exact⟨_,r,u.turned (λb o F e=>r_.extBut b o F e) c.1 c.2.1 c.2.2.2.1 c.2.2.2.2.1 c.2.2.2.2.2,q⟩
end
def cF(p:V->V->au->c_->Prop):et:=λvs H Q _=>∃a b,vs=[a,b]/\p a b H Q
structure eg(P:akr)(w:World)(K:aP)(mg:ba)(base:Heap)(x:Str)(ps:List Str)(k:Nat)(sp:et):Prop where
 ex:∃f fd,ff P w K mg base es k f fd ps sp/\Binds K fd ps []/\alX K (.ref f)=true/\mg x=some (.ref f)
structure fM(K:aP)(mg:ba)(x:Str)(st:Stmt)(ps:List Str):Prop where
 ex:∃f fd,ks K x x st f fd/\Binds K fd ps []/\mg x=some (.ref f)
section
variable{P:akr}{w:World}{K:aP}{mg:ba}{base:Heap}{x:Str}{ps:List Str}{k:Nat}{sp:et}
def eg.mono(h:eg P w K mg base x ps k sp)(c:k<=j):eg P w K mg base x ps j sp:=by
 obtain⟨f,d,a,b⟩:=h.ex;exact⟨f,d,a.mono c,b⟩
end
section
variable{X:aN}{x:Str}{ps:List Str}{k:Nat}{sp:et}{p pos:Pos}{e:Expr}{ax:List Expr}{t:gH}
def Br(sp:et)(t:gH):TE:=λU H Q=>t U H λvs a=>sp vs a Q j4
def Ba(h:eg X.prog X.w X.K X.mg X.base x ps k sp)(g:cL k X.A)(c:eS X x)(j:gR X (e::ax) t)(l:fo x:=by decide)
  (he:fQ X e ax:=by rfl) (n:gJ X pos ax:=by rfl):b6 X (.Call (.Name x p) (e::ax) [] pos) (Br sp t):=by
 obtain⟨f,r,F,b,kp,m⟩:=h.ex;intro i s U H Q I d;refine acp F g c m kp b .nil u2 j l he n i s U H Q I ?_;have q:t U H λvs a=>sp vs a Q j4:=d
 show t U H λvs a=>sp (vs++[]) a Q j4
 simpa only[ak5]using q
def acB(h:eg X.prog X.w X.K X.mg X.base x ps k sp)(d:cL k X.A)(a:eS X x)(i:fo x:=by decide):b6 X (.Call (.Name x p) [] [] pos) (Br sp yg):=by
 obtain⟨f,j,F,b,kp,m⟩:=h.ex;intro g s U H Q I c;exact acq F d a m kp b .nil u2 i g s U H Q I c
end
structure vJ(K:aP):Prop where
 dm:∀t∈["NoneType","bool","int","str","list","tuple"],∀c∈["int","bool","tuple","list","str"],W.kitOne K (.type t) (.type c)=some (t==c||(t == "bool"&&c == "int"))
inductive mD(K:aP)(H:au):V->String->Prop where
 |ay:mD K H .ay "NoneType"
 |az (x:Bool):mD K H (.az x) "bool"
 |int (i:Int):mD K H (.int i) "int"
 |str (x:Str):mD K H (.str x) "str"
 |l {a:Addr}{xs:List V}(e:dy K H a xs):mD K H (.ref a) "list"
 |t {a:Addr}{xs:List V}(e:dQ K H a xs):mD K H (.ref a) "tuple"
abbrev afg:List String:=["NoneType","bool","int","str","list","tuple"]
def mD.mem{K:aP}{H:au}{x:V}{t:String}(h:mD K H x t):t∈afg:=by
 cases h<;>decide
section
variable{X:aN}
def jo(t n:String):Bool:=t==n||(t == "bool"&&n == "int")
def Qb(K:aP):List V->au->c_->Prop:=λxs H Q=>∃x n t,xs=[x,.ty n]/\mD K H x t/\n∈["int","bool","tuple","list","str"]/\Q (.az (jo t n)) H
def Ui(kt:vJ X.K):jB X (.builtin "isinstance") (Qb X.K):=by
 intro k s U H xs us Q I m h;obtain⟨x,n,t,rfl,ty,j,q⟩:=h;obtain⟨u,r,rfl,b,p⟩:=vals2 m;cases(show r=amZ n from p);have e:=kt.dm t ty.mem n j;have fin:∀tk,iN X k U Q (.bool (jo t n)) { s with toks:=tk }:=λtk=>⟨.az _,H,I.tok tk,rfl,q⟩
 cases ty with
 |ay=>cases(show u=alv from b);exact anL W.kitx_none I.fi aly e (λz=>nomatch z) fin
 |az y=>cases(show u=an3 y from b);exact anL W.kitx_bool I.fi aly e (λz=>nomatch z) fin
 |int i=>obtain⟨t,q⟩:=(show ∃t,u=anl i t from b);cases q;exact anL W.kitx_int I.fi aly e (λz=>nomatch z) fin
 |str y=>obtain⟨t,q⟩:=(show ∃t,u=anG y t from b);cases q;exact anL W.kitx_str I.fi aly e (λz=>nomatch z) fin
 |@l a xs f=>
  cases(show u=akZ a from b);obtain⟨g,_,⟨o,w,c,d,_⟩,_⟩:=I.list f;exact anL W.kitx_list I.fi ⟨o,c,d⟩ e (λz=>nomatch z) fin
 |@t a xs f=>
  cases(show u=akZ a from b);obtain⟨g,_,⟨o,c,d,_⟩,_⟩:=I.tuple f;exact anL W.kitx_tuple I.fi ⟨o,c,d⟩ e (λz=>nomatch z) fin
def aa4:Cd X "int.bit_length" (λx xs H Q=>∃i,x=.int i/\xs=[]/\Q (.int (als i:Nat)) H):=by
 intro c s U H x xs v us Q I a b h;obtain⟨i,rfl,rfl,q⟩:=h;obtain⟨t,rfl⟩:=a;cases b;exact call_int_bit_length ⟨.int _,H,I.tok _,⟨_,rfl⟩,q⟩
end
mutual
def Rep(K:aP)(H:au):PyData->V->Prop
 |.none,v=>v=.ay|.bool b,v=>v=.az b|.int i,v=>v=.int i|.str x,v=>v=.str x|.list ds,v=>∃a xs,v=.ref a/\dy K H a xs/\bc K H ds xs|.tuple ds,v=>∃a xs,v=.ref a/\dQ K H a xs/\bc K H ds xs|.dict _,_=>False
def bc(K:aP)(H:au):List PyData->List V->Prop
 |[],xs=>xs=[]|d::ds,xs=>∃x r,xs=x::r/\Rep K H d x/\bc K H ds r
end
def eZ.x9[a4]{K:aP}{H b:au}{a:Addr}{xs:List V}(e:eZ H b)(h:dQ K H a xs):dQ K b a xs:=by
 rcases h with(h|⟨o,h⟩)|h
 .exact .inl (.inl (e.at' _ _ h))
 .exact .inl (.inr ⟨o,e.at' _ _ h⟩)
 .exact .inr h
section
variable{X:aN}{ae:c0}{U:St}{H:au}{s:akd}
mutual
theorem Rep.reads(I:Inv X ae U H s):∀{d:PyData}{v:V}{u:Value},Rep X.K H d v->RelV v u->∃b,Reads s.heap u d b
 |.none,_,_,h,r=>by cases h;cases r;exact⟨_,.none⟩
 |.bool _,_,_,h,r=>by cases h;cases r;exact⟨_,.bool _⟩
 |.int _,_,_,h,r=>by cases h;obtain⟨t,rfl⟩:=r;exact⟨_,.int _ _⟩
 |.str _,_,_,h,r=>by cases h;obtain⟨t,rfl⟩:=r;exact⟨_,.str _ _⟩
 |.list _,_,_,h,r=>by
  obtain⟨a,xs,rfl,l,q⟩:=h;cases r;obtain⟨g,f,⟨o,n,e,c,_,d⟩,_⟩:=I.list l;obtain⟨b,z⟩:=bc.reads I q f;exact⟨_,.list e c d (by simpa using z)⟩
 |.tuple _,_,_,h,r=>by
  obtain⟨a,xs,rfl,l,q⟩:=h;cases r;obtain⟨g,f,⟨o,e,c,n,d⟩,_⟩:=I.tuple l;obtain⟨b,z⟩:=bc.reads I q f;exact⟨_,.tuple e c d (by simpa using z)⟩
 |.dict _,_,_,h,_=>h.elim
theorem bc.reads(I:Inv X ae U H s):∀{ds:List PyData}{xs:List V}{us:List Value},bc X.K H ds xs->Vals xs us->∃c,ReadsAll s.heap us ds c
 |[],_,_,h,r=>by cases h;cases r;exact⟨_,.nil⟩
 |_::_,_,_,h,r=>by
  obtain⟨x,t,rfl,a,b⟩:=h
  cases r with
  |cons d e=>
   obtain⟨c,g⟩:=Rep.reads I a d;obtain⟨bs,f⟩:=bc.reads I b e;exact⟨_,.cons g f⟩
end
end
section
variable{X:aN}
def Bf(K:aP)(a:Bool):fZ:=λx y H Q=>∃d e,Rep K H d x/\Rep K H e y/\aoV d=true/\aoV e=true/\Q (.az (if a then !aoK d e else aoK d e)) H
def Gb(g:X.A.units+64<cLine):eL X (ak2 .Eq) (Bf X.K false):=by
 intro l s U H x y v u Q I c f h;obtain⟨d,e,a,b,pG,i,q⟩:=h;obtain⟨m,k⟩:=a.reads I c;obtain⟨bs,j⟩:=b.reads I f;exact eq_dataH k j pG i g ⟨.az _,H,I,rfl,q⟩
def PD(g:X.A.units+64<cLine):eL X (ak2 .NotEq) (Bf X.K true):=by
 intro l s U H x y v u Q I c f h;obtain⟨d,e,a,b,pG,i,q⟩:=h;obtain⟨m,k⟩:=a.reads I c;obtain⟨bs,j⟩:=b.reads I f;exact ne_dataH k j pG i g ⟨.az _,H,I,rfl,q⟩
end
def J9:akY "len"=some (.builtin "len"):=by decide +kernel
def J8:akY "isinstance"=some (.builtin "isinstance"):=by decide +kernel
def J_:akY "max"=some (.builtin "max"):=by decide +kernel
def T8:akY "all"=some (.builtin "all"):=by decide +kernel
def J7:akY "int"=some (.type "int"):=by decide +kernel
def T9:akY "bool"=some (.type "bool"):=by decide +kernel
def T_:akY "list"=some (.type "list"):=by decide +kernel
def J':akY "tuple"=some (.type "tuple"):=by decide +kernel
def Ua:akY "str"=some (.type "str"):=by decide +kernel
variable[a4]
def yP(a:iO)(c:au)(xs:List V):Prop:=∀H,eZ c H->∀i,(i<xs.length->a.go i H/\∀x b,a.pT i H x b->b=H/\xs[i]? = some x)/\(xs.length<=i->a.stop i H)
def EE{K:aP}{H:au}{a:Addr}{xs:List V}(h:dy K H a xs):yP (k4 K a) H xs:=λc s i=>
 ⟨λb=>⟨⟨xs,xs[i],s.seq h,by simp⟩,λx d y=>⟨y.1,y.2 xs (s.seq h)⟩⟩,λb=>⟨xs,s.seq h,b⟩⟩
def NV{K:aP}{H:au}{a:Addr}{xs:List V}(h:dQ K H a xs):yP (tA K a) H xs:=λc s i=>
 ⟨λb=>⟨⟨xs,xs[i],s.x9 h,by simp⟩,λx d y=>⟨y.1,y.2 xs (s.x9 h)⟩⟩,λb=>⟨xs,s.x9 h,b⟩⟩
def oq(a:Int)(n:Nat):List V:=(akV n).map λi=>V.int (a+(i:Nat))
def EG(c:Int)(n:Nat):yP (p9 c n) H (oq c n):=λd s i=>by
 have b:(oq c n).length=n:=by unfold oq;rw[akc,List.length_range]
 refine⟨λa=>⟨by rw[b]at a;exact a,λx e y=>⟨y.1,?_⟩⟩,λa=>by rw[b]at a;exact a⟩;rw[b]at a;rw[y.2];unfold oq;rw[akC,List.getElem?_range a];rfl
end aB
namespace aB
open PySem PySem.Spec PyProof.Rows
def fM.none{P:akr}{w:World}{K:aP}{mg:ba}{base:Heap}{x:Str}{st:Stmt}{ps:List Str}{k:Nat}{sp:et}(D:fM K mg x st ps)(no:∀vs H Q E,¬sp vs H Q E):eg P w K mg base x ps k sp:=by
 obtain⟨f,a,F,b,m⟩:=D.ex;exact⟨f,a,⟨λvs H Q E h=>absurd h (no vs H Q E),λA outer s H args us vs Q E _ _ _ _ h=>absurd h (no vs H Q E)⟩,b,F.kp,m⟩
def aah(K:aP):vJ K:=⟨by
 intro t a c b;simp only[akq,List.mem_nil_iff,or_false]at a b;rcases a with rfl|rfl|rfl|rfl|rfl|rfl<;>rcases b with rfl|rfl|rfl|rfl|rfl<;>kernel_rfl⟩
def range_all(bs:List Bool):(akV bs.length).all (λi=>bs.getD i false)=bs.all id:=by
 rw[alD,alq,alq];constructor
 .intro h b d
  obtain⟨i,a,rfl⟩:=List.getElem_of_mem d;have:=h i (alg.mpr a);rw[alb,akB a]at this;exact this
 .intro h i a
  have c:=alg.mp a;rw[alb,akB c];exact h _ (List.getElem_mem c)
section
variable{X:aN}{K:aP}
def ae7{bs:List Bool}{a:List Value}(b:Vals (bs.map V.az) a):TruthOf prog w A (λi v=>a.toArray[i]? = some v) (λi=>bs.getD i false):=by
 intro i v s Q E j g;have e:a[i]? = some v:=by simpa using j
 have d:i<bs.length:=by
  have l:=(ake.mp e).1;have h:=b.length;rw[akc]at h;omega
 obtain⟨u,c,k⟩:=b.get (by rw[akC,akB d];rfl);rw[e]at c;cases c;cases k;have f:Q (bs.getD i false) s:=g;rw[alb,akB d]at f;exact alA f
def Ug(t:X.calm=true):jB X (.builtin "all") (λxs H Q=>∃(l:Addr)(bs:List Bool),xs=[.ref l]/\dy X.K H l (bs.map V.az)/\Q (.az (bs.all id)) H):=by
 intro w s U H xs us Q I j h;obtain⟨l,bs,rfl,m,q⟩:=h;obtain⟨u,rfl,g⟩:=vals1 j;cases g;obtain⟨a,d,p,hz⟩:=I.list m;have r:l<s.heap.objs.size:=by obtain⟨o,n,e,_⟩:=p;exact akl e
 refine call_all_walk (alR p.isList ?_);refine⟨s.heap.objs.size,_,_,_,_,_,λi=>bs.getD i false,rfl,an9 (show X.A.in1.handled=none from I.ok.hd t) s.heap.objs.size l (akv r) a.toArray,⟨⟨_,akk _ rfl,rfl,rfl⟩,p.isList.at λo e=>akb _ e⟩,ae7 d,λx tk k=>?_⟩;have f:a.toArray.size=bs.length:=by
  have c:=d.length;rw[akc]at c;simp[c]
 rw[f,range_all];exact⟨.az _,H,I.kept λb o e=>k b o (by intro z;rw[akt.mp z]at e;exact absurd (akl e) (ak0 _)) (akb _ e),rfl,q⟩
end
section
variable{X:aN}
def q9{v:V}(a:eS X x)(h:∃u,X.mg x=some u/\RelV v u)(hd:fo x:=by decide):b6 X (.Name x pos) (pI v):=by
 obtain⟨u,b,r⟩:=h;exact acC a b r hd
variable[a4]
end
end aB
set_option maxHeartbeats 1000000
namespace aS
open PySem PySem.Spec aB
variable[aB.a4]
inductive D where
 |ay|az (b:Bool)|int (i:Int)|str (x:Str)|t (xs:List D)|l (xs:List D)|ref (n:Nat)|fn (f:Str)|ty (n:String)
inductive Slot where
 |e|v (d:D)|fc (p:Bool) (xs:List D)|cf (xs:List D)
abbrev aJ:=List Slot
inductive ha where
 |l (xs:List D)|hP (aD:List (Key×D))|fR (aD:List (List Key×D))|bD (c:Str) (fs:List (Str×D))
abbrev bL:=List ha
inductive Out(α:Type) where
 |ok (a:α) (S:bL)|exc (c:Str) (S:bL)|bad
structure M(α:Type):Type where
 run:bL->Out α
 ep:∀S a aj,run S=.ok a aj->aj=S
def M.kA{α g:Type}(m:M α)(f:α->M g):M g:=⟨λS=>match m.run S with
 |.ok a d=>(f a).run d|.exc c d=>.exc c d|.bad=>.bad,λS b d h=>by
  cases e:m.run S with
  |ok a i=>rw[e]at h;exact((f a).ep _ _ _ h).trans (m.ep _ _ _ e)|exc c i=>rw[e]at h;cases h
  |bad=>rw[e]at h;cases h⟩
noncomputable instance:Monad M where
 pure a:=⟨λS=>.ok a S,λ_ _ _ h=>by cases h;rfl⟩
 bind:=M.kA
omit [aB.a4]in
theorem M.ext{α:Type}{x y:M α}(h:∀S,x.run S=y.run S):x=y:=by
 cases x with|mk f p=>cases y with|mk g q=>obtain rfl:=funext h;rfl
omit [aB.a4]in
theorem M.TV{α a:Type}(m:M α)(f:α->M a):(m >>= f)=M.kA m f:=rfl
instance:LawfulMonad M:=LawfulMonad.mk'
 (id_map:=λx=>M.ext λS=>by show(M.kA x (λa=>pure (id a))).run S=x.run S;unfold M.kA;dsimp only;cases x.run S<;>rfl)
 (pure_bind:=λx f=>rfl)
 (bind_assoc:=λx f g=>M.ext λS=>by show(M.kA (M.kA x f) g).run S=(M.kA x (λa=>M.kA (f a) g)).run S;unfold M.kA;dsimp only;cases x.run S<;>rfl)
 (bind_pure_comp:=λf x=>rfl)
def bad{α:Type}:M α:=⟨λ_=>.bad,λ_ _ _ h=>by cases h⟩
omit [aB.a4]in
theorem M.inv{α i:Type}{m:M α}{f:α->M i}{S g:bL}{b:i}(h:(m >>= f).run S=.ok b g):∃a d,m.run S=.ok a d/\(f a).run d=.ok b g:=by
 rw[M.TV]at h;unfold M.kA at h;dsimp only at h
 cases e:m.run S with
 |ok a d=>rw[e]at h;exact⟨a,d,rfl,h⟩|exc c d=>rw[e]at h;cases h
 |bad=>rw[e]at h;cases h
def h6(p:Prop)[Decidable p]:M Unit:=if p then pure ()else bad
omit [aB.a4]in
theorem Kk{p:Prop}[Decidable p](h:p):h6 p=pure ():=if_pos h
omit [aB.a4]in
theorem rF{p:Prop}[Decidable p](h:(h6 p).run S=.ok u o):p/\S=o:=by
 unfold h6 at h
 by_cases a:p
 .rw[if_pos a]at h;cases h;exact⟨a,rfl⟩
 .rw[if_neg a]at h;cases h
inductive R where
 |v (d:D)|fr (xs:List D)|cf (xs:List D)|mv (xs:List D)
abbrev bj:=aJ->M R
inductive Own where
 |free|out|ey|loc (i:Nat)
 deriving DecidableEq
structure a3 where
 own:Addr->Own
 bQ:List Addr
instance:CoeFun a3 (λ_=>Addr->Own):=⟨a3.own⟩
def Ca(K:aP)(a:Addr)(xs:List V):Prop:=
 ∃(o:Obj)(b:Array Value)(n:Nat),K.lookup a=some o/\o.cls=.type "list"/\o.dict=none/\o.data=.seq b n/\b.size<=akg/\Vals xs b.toList
def tB(_:aP)(O:a3)(H:au)(a:Addr)(b:List V):Prop:=H a=some (.l b)/\O a=.free
mutual
def Rep(K:aP)(mg:ba)(O:a3)(H:au):D->V->Prop
 |.ay,v=>v=.ay|.az b,v=>v=.az b|.int i,v=>v=.int i|.str x,v=>v=.str x|.t xs,v=>∃a c,v=.ref a/\dQ K H a c/\bc K mg O H xs c|.l xs,v=>∃a c,v=.ref a/\tB K O H a c/\bc K mg O H xs c|.ref n,v=>∃a,v=.ref a/\O.bQ[n]? = some a|.fn f,v=>∃a,v=.ref a/\mg f=some (.ref a)|.ty n,v=>v=.ty n
def bc(K:aP)(mg:ba)(O:a3)(H:au):List D->List V->Prop
 |[],ys=>ys=[]|x::xs,ys=>∃y r,ys=y::r/\Rep K mg O H x y/\bc K mg O H xs r
end
structure Go(O ai:a3)(H H':au):Prop where
 same:eZ H H'
 own:∀b,H b≠none->ai b=O b
 bQ:ai.bQ=O.bQ
def Go.refl(O:a3)(H:au):Go O O H H:=⟨eZ.refl _,λ_ _=>rfl,rfl⟩
def Go.trans{O d e:a3}(a:Go O d H H1)(b:Go d e H1 o):Go O e H o:=
 ⟨a.same.trans b.same,λc h=>(b.own c (a.same.some h)).trans (a.own c h),b.bQ.trans a.bQ⟩
def gq.same(s:eZ H H')(h:gq H a u)(n:nf u:=by exact trivial):gq H' a u:=by
 rcases h with h|⟨o,h⟩
 .exact .inl (s.at' _ _ h n)
 .exact .inr ⟨o,s.at' _ _ h⟩
omit [aB.a4]in
theorem gq.some{H:au}(h:gq H a u):H a≠none:=by
 rcases h with h|⟨o,h⟩<;>rw[h]<;>intro z<;>cases z
def tB.dO{O:a3}(h:tB K O H a ys):dy K H a ys:=dy.of h.1
def iu(K:aP)(O:a3)(H:au)(a:Addr)(b:List V):Prop:=(gq H a (.l b)/\(O a=.free\/O a=.out))\/Ca K a b
def iu.dO{O:a3}(h:iu K O H a ys):dy K H a ys:=h.elim (λz=>.inl z.1) .inr
def iu.go{O b:a3}(g:Go O b H H')(h:iu K O H a ys):iu K b H' a ys:=by
 rcases h with⟨l,f⟩|l
 .exact .inl ⟨gq.same g.same l,by rw[g.own a (gq.some l)];exact f⟩
 .exact .inr l
def tB.go{O b:a3}(g:Go O b H H')(h:tB K O H a ys):tB K b H' a ys:=⟨g.same.at' _ _ h.1,(g.own a (by rw[h.1];intro z;cases z)).trans h.2⟩
section
variable{K:aP}{mg:ba}{O ai:a3}{H H':au}
mutual
theorem Rep.go(g:Go O ai H H'):∀{d:D}{v:V},Rep K mg O H d v->Rep K mg ai H' d v
 |.ay,_,h=>h|.az _,_,h=>h|.int _,_,h=>h|.str _,_,h=>h| .t _,_,h=>by obtain⟨a,b,q,l,r⟩:=h;exact⟨a,b,q,g.same.x9 l,bc.go g r⟩
 |.l _,_,h=>by obtain⟨a,b,q,l,r⟩:=h;exact⟨a,b,q,l.go g,bc.go g r⟩
 |.ref _,_,h=>by obtain⟨a,q,l⟩:=h;exact⟨a,q,by rw[g.bQ];exact l⟩
 |.fn _,_,h=>h|.ty _,_,h=>h
theorem bc.go(g:Go O ai H H'):∀{ds:List D}{c:List V},bc K mg O H ds c->bc K mg ai H' ds c
 |[],_,h=>h| _::_,_,h=>by obtain⟨x,r,q,a,b⟩:=h;exact⟨x,r,q,Rep.go g a,bc.go g b⟩
end
structure nG(O ai:a3):Prop where
 fr:∀a,O a=.free->ai a=.free
 bQ:ai.bQ=O.bQ
mutual
theorem Rep.dz(g:nG O o):∀{d:D}{v:V},Rep K mg O H d v->Rep K mg o H d v
 |.ay,_,h=>h|.az _,_,h=>h|.int _,_,h=>h|.str _,_,h=>h| .t _,_,h=>by obtain⟨a,b,q,l,r⟩:=h;exact⟨a,b,q,l,bc.dz g r⟩
 |.l _,_,h=>by obtain⟨a,b,q,l,r⟩:=h;exact⟨a,b,q,⟨l.1,g.fr _ l.2⟩,bc.dz g r⟩
 |.ref _,_,h=>by obtain⟨a,q,l⟩:=h;exact⟨a,q,by rw[g.bQ];exact l⟩
 |.fn _,_,h=>h|.ty _,_,h=>h
theorem bc.dz(g:nG O o):∀{ds:List D}{c:List V},bc K mg O H ds c->bc K mg o H ds c
 |[],_,h=>h| _::_,_,h=>by obtain⟨x,r,q,a,b⟩:=h;exact⟨x,r,q,Rep.dz g a,bc.dz g b⟩
end
theorem bc.len:∀{ds:List D}{xs:List V},bc K mg O H ds xs->xs.length=ds.length
 |[],_,h=>by cases h;rfl
 |_::_,_,h=>by obtain⟨x,r,rfl,_,b⟩:=h;rw[akx,akx,bc.len b]
theorem bc.get:∀{ds:List D}{xs:List V}{i:Nat}{d:D},bc K mg O H ds xs->ds[i]? = some d->∃x,xs[i]? = some x/\Rep K mg O H d x
 |[],_,_,_,_,e=>by simp at e| _::_,_,0,d,h,e=>by obtain⟨x,r,rfl,a,_⟩:=h;cases(show some _=some d from e);exact⟨x,rfl,a⟩
 |_::ds,_,i+1,d,h,e=>by
  obtain⟨x,r,rfl,_,b⟩:=h;obtain⟨y,aq,aC⟩:=bc.get b e;exact⟨y,by simpa using aq,aC⟩
theorem bc.Mu:∀{ds:List D}{xs:List V}{i:Nat}{x:V},bc K mg O H ds xs->xs[i]? = some x->∃d,ds[i]? = some d/\Rep K mg O H d x
 |[],_,_,_,h,e=>by cases h;simp at e
 |_::_,_,0,x,h,e=>by obtain⟨y,r,rfl,a,_⟩:=h;cases(show some _=some x from e);exact⟨_,rfl,a⟩
 |_::ds,_,i+1,d,h,e=>by
  obtain⟨x,r,rfl,_,b⟩:=h;obtain⟨y,aq,aC⟩:=bc.Mu b e;exact⟨y,by simpa using aq,aC⟩
theorem bc.append:∀{ds c:List D}{xs d:List V},bc K mg O H ds xs->bc K mg O H c d->bc K mg O H (ds++c) (xs++d)
 |[],_,_,_,h,q=>by cases h;exact q
 |_::_,_,_,_,h,q=>by obtain⟨x,r,rfl,a,b⟩:=h;exact⟨x,_,rfl,a,bc.append b q⟩
def bc.one(h:Rep K mg O H d x):bc K mg O H [d] [x]:=⟨x,[],rfl,h,rfl⟩
theorem bc.take:∀{ds:List D}{xs:List V}(n:Nat),bc K mg O H ds xs->bc K mg O H (ds.take n) (xs.take n)
 |[],_,_,h=>by cases h;rw[aoP,aoP];rfl
 |_::_,_,0,_=>by rfl| _::_,_,n+1,h=>by obtain⟨x,r,rfl,a,b⟩:=h;exact⟨x,_,rfl,a,bc.take n b⟩
theorem bc.drop:∀{ds:List D}{xs:List V}(n:Nat),bc K mg O H ds xs->bc K mg O H (ds.drop n) (xs.drop n)
 |[],_,_,h=>by cases h;rw[List.drop_nil,List.drop_nil];rfl
 |_::_,_,0,h=>h| _::_,_,n+1,h=>by obtain⟨x,r,rfl,a,b⟩:=h;exact bc.drop n b
def Qi(ns:List Int):bc K mg O H (ns.map D.int) (ns.map V.int):=by
 induction ns with
 |nil=>rfl|cons n r a=>exact⟨.int n,_,rfl,rfl,a⟩
def ek{κ:Type}(K:aP)(mg:ba)(O:a3)(H:au)(a:List (κ×D))(b:List (κ×V)):Prop:=a.map (·.1)=b.map (·.1)/\bc K mg O H (a.map (·.2)) (b.map (·.2))
def eM(K:aP)(mg:ba)(O:a3)(H:au):R->V->Prop
 |.v d,v=>Rep K mg O H d v|.fr xs,v=>∃a b,v=.ref a/\H a=some (.l b)/\O a=.ey/\bc K mg O H xs b|.cf xs,v=>∃a b,v=.ref a/\iu K O H a b/\bc K mg O H xs b|.mv xs,v=>∃a b,v=.ref a/\H a=some (.l b)/\bc K mg O H xs b
def eM.go(g:Go O C H H'):∀{r:R}{v:V},eM K mg O H r v->eM K mg C H' r v
 |.v _,_,h=>Rep.go g h| .fr _,_,h=>by obtain⟨a,b,q,l,o,r⟩:=h;exact⟨a,b,q,g.same.at' _ _ l,(g.own a (by rw[l];intro z;cases z)).trans o,r.go g⟩
 |.cf _,_,h=>by obtain⟨a,b,q,l,r⟩:=h;exact⟨a,b,q,l.go g,r.go g⟩
 |.mv _,_,h=>by obtain⟨a,b,q,l,r⟩:=h;exact⟨a,b,q,g.same.at' _ _ l,r.go g⟩
theorem bc.imp{c:a3}(f:∀d v,Rep K mg O H d v->Rep K mg c H' d v):∀{ds:List D}{e:List V},bc K mg O H ds e->bc K mg c H' ds e
 |[],_,h=>h| _::_,_,h=>by obtain⟨x,r,q,a,b⟩:=h;exact⟨x,r,q,f _ _ a,bc.imp f b⟩
def Sb(K:aP)(mg:ba)(c:Str)(C:Addr):Prop:=mg c=some (.ref C)/\i8 K C
def j8(K:aP)(mg:ba)(O:a3)(H:au)(w:Own):Slot->Option V->Prop
 |.e,_=>True|.v d,u=>∃v,u=some v/\Rep K mg O H d v|.fc _ xs,u=>∃a b,u=some (.ref a)/\O a=w/\H a=some (.l b)/\bc K mg O H xs b|.cf xs,u=>∃a b,u=some (.ref a)/\iu K O H a b/\bc K mg O H xs b
def j8.go(g:Go O C H H'):∀{s:Slot}{u:Option V},j8 K mg O H w s u->j8 K mg C H' w s u
 |.e,_,_=>trivial| .v _,_,h=>by obtain⟨v,q,r⟩:=h;exact⟨v,q,r.go g⟩
 |.fc _ _,_,h=>by obtain⟨a,b,q,o,l,r⟩:=h;exact⟨a,b,q,(g.own a (by rw[l];intro z;cases z)).trans o,g.same.at' _ _ l,r.go g⟩
 |.cf _,_,h=>by
  obtain⟨a,b,q,l,r⟩:=h;exact⟨a,b,q,l.go g,r.go g⟩
end
def j7(O:a3):Prop:=O.bQ.Nodup/\∀a∈O.bQ,O a=.out
structure c2(O:a3)(H:au):Prop where
 has:∀a,O a≠.free->H a≠none
 tabs:TabsOk H
 rh:j7 O
def nL(K:aP)(mg:ba)(O:a3)(H:au)(a:Addr):ha->Prop
 |.l xs=>∃f,H a=some (.l f)/\bc K mg O H xs f|.hP d=>∃b,H a=some (.gu b)/\ek K mg O H d b|.fR d=>∃b,H a=some (.h8 b)/\ek K mg O H d b|.bD c fs=>∃C g e,H a=some (.ins C g e)/\Sb K mg c C/\ek K mg O H fs e
def fC(K:aP)(mg:ba)(O:a3)(H:au)(S:bL):Prop:=∀(n:Nat)(o:ha),S[n]? = some o->∃a,O.bQ[n]? = some a/\nL K mg O H a o
def nL.all{O j:a3}{H i:au}(f:∀d v,Rep K mg O H d v->Rep K mg j i d v)(g:∀u,H a=some u->nf u->i a=some u):∀{o:ha},nL K mg O H a o->nL K mg j i a o
 |.l _,h=>by obtain⟨b,l,r⟩:=h;exact⟨b,g _ l trivial,r.imp f⟩
 |.hP _,h=>by obtain⟨b,l,e,r⟩:=h;exact⟨b,g _ l trivial,e,r.imp f⟩
 |.fR _,h=>by obtain⟨b,l,e,r⟩:=h;exact⟨b,g _ l trivial,e,r.imp f⟩
 |.bD _ _,h=>by obtain⟨C,k,m,l,c,e,r⟩:=h;exact⟨C,k,m,g _ l trivial,c,e,r.imp f⟩
def fC.all{O c:a3}{H b:au}(s:fC K mg O H S)(f:∀d v,Rep K mg O H d v->Rep K mg c b d v)(e:c.bQ=O.bQ)(g:∀a∈O.bQ,∀u,H a=some u->nf u->b a=some u):fC K mg c b S:=λn o h=>by
 obtain⟨a,i,j⟩:=s n o h;exact⟨a,by rw[e];exact i,j.all f (g a (akQ i))⟩
def fC.go{O b:a3}(s:fC K mg O H S)(g:Go O b H H'):fC K mg b H' S:=
 s.all (λ_ _ z=>Rep.go g z) g.bQ λa _ u l n=>g.same.at' _ _ l n
def fC.nil{O:a3}:fC K mg O H []:=λn o h=>by cases n<;>cases h
structure cU(K:aP)(mg:ba)(O:a3)(U:aJ)(S:bL)(ao:St)(H:au):Prop where
 cw:c2 O H
 len:U.length=ao.length
 loc:∀i s,U[i]? = some s->j8 K mg O H (.loc i) s (ao[i]?.join)
 gM:fC K mg O H S
def cU.go{O a:a3}(h:cU K mg O U S o H)(g:Go O a H H')(d:c2 a H'):cU K mg a U S o H':=
 ⟨d,h.len,λi s e=>(h.loc i s e).go g,h.gM.go g⟩
def hZ(O:a3)(a:Addr)(o:Own):a3:=⟨λb=>if b=a then o else O b,O.bQ⟩
omit [aB.a4]in
theorem pP{O:a3}:hZ O a o a=o:=if_pos rfl
omit [aB.a4]in
theorem pO{O:a3}(h:b≠a):hZ O a o b=O b:=if_neg h
section
variable{K:aP}{mg:ba}{O:a3}{U:aJ}{S:bL}{ao:St}{H:au}{p:Addr}{u:g_}{o:Own}
def Go.new(a:H p=none):Go O (hZ O p o) H (upd H p u):=
 ⟨sT a u,λb c=>pO (by rintro rfl;exact c a),rfl⟩
def Go.f_(a:H p=none):Go O O H (upd H p u):=⟨sT a u,λ_ _=>rfl,rfl⟩
def c2.new(d:c2 O H)(b:H p=none):c2 (hZ O p o) (upd H p u):=⟨λa c=>by
 by_cases e:a=p
 .subst e;rw[dU];intro z;cases z
 .rw[du e];rw[pO e]at c;exact d.has a c,d.tabs.new b u,d.rh.1,λa h=>by rw[pO (by rintro rfl;exact d.has _ (by rw[d.rh.2 _ h];intro z;cases z) b)];exact d.rh.2 a h⟩
def c2.same(d:c2 O H)(s:eZ H H'):c2 O H':=⟨λa b=>s.some (d.has a b),s.b5 d.tabs,d.rh⟩
def c2.free(d:c2 O H)(a:H p=none):O p=.free:=by
 cases e:O p with
 |free=>rfl| _=>exact absurd a (d.has p (by rw[e];intro z;cases z))
def cU.new(h:cU K mg O U S ao H)(a:H p=none):cU K mg (hZ O p o) U S ao (upd H p u):=h.go (Go.new a) (h.cw.new a)
def cU.f_(h:cU K mg O U S ao H)(a:H p=none):cU K mg O U S ao (upd H p u):=h.go (Go.f_ a) (h.cw.same (sT a u))
end
def h2(H:au):R->V->Prop
 |.fr _,v=>∀a,v=.ref a->H a=none|_,_=>True
def h2.back(s:eZ H H1):∀{r:R}{v:V},h2 H1 r v->h2 H r v
 |.v _,_,_=>trivial|.cf _,_,_=>trivial|.mv _,_,_=>trivial|.fr _,_,h=>λa e=>s.free (h a e)
def k8(H:au):List R->List V->Prop
 |r::rs,v::vs=>h2 H r v/\k8 H rs vs|_,_=>True
theorem k8.back(s:eZ H H1):∀{rs:List R}{vs:List V},k8 H1 rs vs->k8 H rs vs
 |[],_,_=>trivial|_::_,[],_=>trivial|_::_,_::_,h=>⟨h.1.back s,k8.back s h.2⟩
def yY(K:aP)(mg:ba)(O:a3)(U:aJ)(c:bL)(d:St)(H:au)(r:R)(Q:c_):Prop:=
 ∀b v a,Go O b H a->cU K mg b U c d a->eM K mg b a r v->h2 H r v->Q v a
inductive qb{α:Type}(K:aP)(mg:ba)(m:aJ->M α)(ao:St)(H:au)(P:a3->aJ->bL->α->Prop):Prop
 |mk (O:a3) (U:aJ) (S:bL) (x:α) (aj:bL) (st:cU K mg O U S ao H) (h:(m U).run S=.ok x aj) (q:P O U aj x):qb K mg m ao H P
def gk(K:aP)(mg:ba)(m:bj):TE:=λa H Q=>qb K mg m a H λO U b r=>yY K mg O U b a H r Q
def pK(K:aP)(mg:ba)(m:aJ->M Bool):TT:=λd H Q=>qb K mg m d H λO U e b=>∀c a,Go O c H a->cU K mg c U e d a->Q b a
abbrev j1(X:aN)(e:Expr)(m:bj):Prop:=b6 X e (gk X.K X.mg m)
abbrev HJ(X:aN)(e:Expr)(m:aJ->M Bool):Prop:=i' X e (pK X.K X.mg m)
abbrev yK(X:aN)(e:Expr)(m:aJ->M Bool):Prop:=mC X e (pK X.K X.mg m)
def gS(K:aP)(mg:ba)(O:a3)(H:au):List R->List V->Prop
 |[],ys=>ys=[]|x::xs,ys=>∃y r,ys=y::r/\eM K mg O H x y/\gS K mg O H xs r
theorem gS.go{O c:a3}(g:Go O c H H'):∀{rs:List R}{d:List V},gS K mg O H rs d->gS K mg c H' rs d
 |[],_,h=>h| _::_,_,h=>by obtain⟨x,r,q,a,b⟩:=h;exact⟨x,r,q,a.go g,gS.go g b⟩
theorem gS.len{O:a3}:∀{rs:List R}{a:List V},gS K mg O H rs a->a.length=rs.length
 |[],_,h=>by cases h;rfl
 |_::_,_,h=>by obtain⟨x,r,rfl,_,b⟩:=h;rw[akx,akx,gS.len b]
abbrev cW:=aJ->M (List R)
def pJ(K:aP)(mg:ba)(m:cW):gH:=λc H Q=>qb K mg m c H λO U d rs=>∀b vs a,Go O b H a->cU K mg b U d c a->gS K mg b a rs vs->k8 H rs vs->Q vs a
abbrev B4(X:aN)(a:List Expr)(m:cW):Prop:=gR X a (pJ X.K X.mg m)
def eI{t t':TE}(h:b6 X e t)(i:∀U H Q,t' U H Q->t U H Q):b6 X e t':=λa s U H Q I q=>h a s U H Q I (i _ _ _ q)
def sR{t t':TT}(h:i' X e t)(i:∀U H Q,t' U H Q->t U H Q):i' X e t':=λa s U H Q I q=>h a s U H Q I (i _ _ _ q)
def P6{t t':TT}(h:mC X e t)(i:∀U H Q,t' U H Q->t U H Q):mC X e t':=λb a s U H Q I q=>h b a s U H Q I (i _ _ _ q)
def A'{t t':gH}(h:gR X o t)(i:∀U H Q,t' U H Q->t U H Q):gR X o t':=λpos a s U H Q I q=>h pos a s U H Q I (i _ _ _ q)
@[simp] def J(i:Nat)(U:aJ):M R:=match U[i]? with
 |some (.v d)=>pure (.v d)|some (.fc _ xs)=>pure (.mv xs)|some (.cf xs)=>pure (.cf xs)|_=>bad
def aK(d:D):bj:=λ_=>pure (.v d)
section
variable{X:aN}{a b c e:Expr}{ma cz gh m:bj}{cC:aJ->M Bool}
def wc{v:V}(h:b6 X e (pI v))(r:∀O H,Rep X.K X.mg O H d v):j1 X e (aK d):=eI h λi H Q f=>by
 obtain⟨O,U,S,j,g,st,h,q⟩:=f;cases h;exact q O v H (Go.refl _ _) st (r O H) trivial
@[simp] def ak(f:R->R->M R)(a b:bj)(U:aJ):M R:=do
 let x <-a U
 let y <-b U
 f x y
def eK(K:aP)(mg:ba)(r:fZ)(f:R->R->M R):Prop:=
 ∀O U S I H x y o bI bo C (Q:c_),cU K mg O U S I H->eM K mg O H o x->eM K mg O H bI y->(f o bI).run S=.ok bo C->yY K mg O U C I H bo Q->r x y H Q
def v7{r:fZ}(L:eK K mg r f):∀d H Q,gk K mg (ak f ma cz) d H Q->vg r (gk K mg ma) (gk K mg cz) d H Q:=by
 rintro d H Q ⟨O,U,S,F,A,st,h,q⟩;obtain⟨x,j,u,h⟩:=M.inv h;obtain⟨y,k,w,h⟩:=M.inv h;refine⟨O,U,S,x,j,st,u,λp J R g1 t n bl=>?_⟩;refine⟨p,U,j,y,k,t,w,λG N s i cJ D P=>?_⟩;exact L G U k d s J N x y F A Q cJ (n.go i) D h λz v l g B E nn=>q z v l ((g1.trans i).trans g) B E (nn.back (g1.trans i).same)
def R.s_:R->M Bool
 |.v (.az b)=>pure b|_=>bad
@[simp] def aL(m:bj)(U:aJ):M Bool:=do
 let x <-m U
 x.s_
omit [aB.a4]in
theorem yl{r:R}{b:Bool}{S f:bL}(h:r.s_.run S=.ok b f):r=.v (.az b)/\S=f:=by
 cases r with
 |v d=>cases d<;>cases h<;>exact⟨rfl,rfl⟩
 |fr _=>cases h
 |cf _=>cases h
 |mv _=>cases h
def Ha:∀d H Q,pK K mg (aL m) d H Q->yh (gk K mg m) d H Q:=by
 rintro d H Q ⟨O,U,S,t,p,st,h,q⟩;obtain⟨x,n,i,h⟩:=M.inv h;obtain⟨rfl,rfl⟩:=yl h;exact⟨O,U,S,_,_,st,i,λj v f g k l _=>⟨t,l,q j f g k⟩⟩
def Q7{t t':TE}(i:∀U H Q,t' U H Q->t U H Q):∀U H Q,yh t' U H Q->yh t U H Q:=λU H Q q=>i _ _ _ q
@[simp] def kB(f g:R->R->M R)(a b c:bj)(U:aJ):M R:=do
 let x <-a U
 let y <-b U
 let z <-f x y
 let t <-z.s_
 if t=true then do
  let w <-c U
  g y w
 else pure (.v (.az false))
def Uc{r k:fZ}(hf:eK K mg r f)(P:eK K mg k g):∀d H Q,gk K mg (kB f g ma cz gh) d H Q->Q5 r k (gk K mg ma) (gk K mg cz) (gk K mg gh) d H Q:=by
 rintro d H Q ⟨O,U,S,k,o,st,h,q⟩;obtain⟨x,n,W,h⟩:=M.inv h;obtain⟨y,p,Y,h⟩:=M.inv h;obtain⟨z,ix,bY,h⟩:=M.inv h;obtain⟨t,jF,dn,h⟩:=M.inv h;obtain⟨rfl,rfl⟩:=yl dn;refine⟨O,U,S,x,n,st,W,λR gN H1 g1 V N bl=>?_⟩;refine⟨R,U,n,y,p,V,Y,λbz F T A cJ s FX=>?_⟩;refine hf bz U p d T gN F x y _ _ _ cJ (N.go A) s bY λu C c9 B D j _=>⟨t,j,?_⟩
 have i:=(g1.trans A).trans B
 cases t with
 |false=>
  cases h;exact qJ (q u _ c9 i D rfl trivial)
 |true=>
  obtain⟨w,E,e2,h⟩:=M.inv h;refine qK ⟨u,U,_,w,E,D,e2,λL cf jE l G rw nw=>?_⟩;exact P L U E d jE F cf y w _ o Q G (s.go (B.trans l)) rw h λZ v J g I j nn=>q Z v J ((i.trans l).trans g) I j (nn.back (i.trans l).same)
@[simp] def oS(a b:bj)(U:aJ):M R:=do
 let x <-a U
 let t <-x.s_
 if t=true then b U else pure (.v (.az false))
@[simp] def zo(a:bj)(U:aJ):M R:=do
 let x <-a U
 let t <-x.s_
 pure (.v (.az (!t)))
@[simp] def fW(a b:aJ->M Bool)(U:aJ):M Bool:=do
 let t <-a U
 if t=true then b U else pure false
@[simp] def ip(a b:aJ->M Bool)(U:aJ):M Bool:=do
 let t <-a U
 if t=true then pure true else b U
@[simp] def ew(a:aJ->M Bool)(U:aJ):M Bool:=do
 let t <-a U
 pure (!t)
def yK.cM(h:yK X a cC):HJ X a cC:=h.pt
end
def sG(g:Int->Int->Int):R->R->M R
 |.v (.int i),.v (.int j)=>pure (.v (.int (g i j)))|_,_=>bad
def pD(C:Int->Int->Prop)[∀i j,Decidable (C i j)](g:Int->Int->Int):R->R->M R
 |.v (.int i),.v (.int j)=>if C i j then pure (.v (.int (g i j)))else bad|_,_=>bad
def sF(g:Int->Int->Bool):R->R->M R
 |.v (.int i),.v (.int j)=>pure (.v (.az (g i j)))|_,_=>bad
section
variable{K:aP}{mg:ba}
def zk{g:Int->Int->Int}:eK K mg (ik λi j=>.int (g i j)) (sG g):=λO U S e H x y c f k d Q st b a h q=>by
 unfold sG at h;split at h
 .rename_i i j
  cases h;exact⟨i,j,b,a,q O _ H (Go.refl _ _) st rfl trivial⟩
 .cases h
def tI{C:Int->Int->Prop}{a:Int->Int->Prop}[∀i j,Decidable (a i j)]{g:Int->Int->Int}(e:∀i j,a i j->C i j):eK K mg (kQ C λi j=>.int (g i j)) (pD a g):=λO U S l H x y f m n k Q st d b h q=>by
 unfold pD at h;split at h
 .rename_i i j
  by_cases c:a i j
  .rw[if_pos c]at h
   cases h;exact⟨i,j,d,b,e i j c,q O _ H (Go.refl _ _) st rfl trivial⟩
  .rw[if_neg c]at h;cases h
 .cases h
def zj{g:Int->Int->Bool}:eK K mg (ik λi j=>.az (g i j)) (sF g):=λO U S e H x y c f k d Q st b a h q=>by
 unfold sF at h;split at h
 .rename_i i j
  cases h;exact⟨i,j,b,a,q O _ H (Go.refl _ _) st rfl trivial⟩
 .cases h
end
abbrev iI:=sG (· + ·)
abbrev F3:=sG (· - ·)
abbrev oMod:=pD (λ_ j=>0<j) (· % ·)
abbrev lC:=pD (λi j=>0<=j/\j<=1000000/\i.natAbs<2 ^ 64) (λi j=>i ^ j.toNat)
abbrev F0:=pD (λi j=>0<=j/\j<=1000000/\i.natAbs<2 ^ 64) (λi j=>i*2 ^ j.toNat)
abbrev F1:=pD (λ_ j=>0<=j) (λi j=>i / 2 ^ j.toNat)
abbrev FY:=sG amz
abbrev uQ:=sG anc
abbrev oLt:=sF λi j=>decide (i<j)
abbrev oLe:=sF λi j=>decide (i<=j)
abbrev pC:=sF λi j=>decide (j<i)
abbrev pB:=sF λi j=>decide (j<=i)
section
variable{X:aN}
def S2:eK X.K X.mg (ik λi j=>.int (i+j)) iI:=zk
def Tc:eK X.K X.mg (ik λi j=>.int (i-j)) F3:=zk
def S9:eK X.K X.mg (kQ (λ_ j=>0<j) λi j=>.int (i % j)) oMod:=tI λ_ _ h=>h
def S':eK X.K X.mg (kQ yJ λi j=>.int (i ^ j.toNat)) lC:=tI λ_ _ h=>h
def Ta:eK X.K X.mg (kQ yJ λi j=>.int (i*2 ^ j.toNat)) F0:=tI λ_ _ h=>h
def Tb:eK X.K X.mg (kQ (λ_ j=>0<=j) λi j=>.int (i / 2 ^ j.toNat)) F1:=tI λ_ _ h=>h
def S3:eK X.K X.mg (ik λi j=>.int (amz i j)) FY:=zk
def S4:eK X.K X.mg (ik λi j=>.int (anc i j)) uQ:=zk
def Cx:eK X.K X.mg (ik λi j=>.az (decide (i<j))) oLt:=zj
def vY:eK X.K X.mg (ik λi j=>.az (decide (i<=j))) oLe:=zj
def S8:eK X.K X.mg (ik λi j=>.az (decide (j<i))) pC:=zj
def Ii:eK X.K X.mg (ik λi j=>.az (decide (j<=i))) pB:=zj
end
@[simp] def bM(f:R->M R)(a:bj)(U:aJ):M R:=do
 let x <-a U
 f x
def R.fv:R->Option (List D)
 |.v (.l xs)=>some xs|.fr xs=>some xs|.cf xs=>some xs|.mv xs=>some xs|_=>none
def R.Hd:R->Option (List D)
 |.v (.t xs)=>some xs|_=>none
def R.seq(r:R):Option (List D):=r.fv<|> r.Hd
def R.pf{K:aP}{mg:ba}{O:a3}{H:au}{r:R}{v:V}{xs:List D}(h:eM K mg O H r v)(e:r.fv=some xs):∃a b,v=.ref a/\dy K H a b/\bc K mg O H xs b:=by
 unfold R.fv at e;split at e
 .cases e;obtain⟨a,b,q,l,r⟩:=h;exact⟨a,b,q,l.dO,r⟩
 .cases e;obtain⟨a,b,q,l,_,r⟩:=h;exact⟨a,b,q,dy.of l,r⟩
 .cases e;obtain⟨a,b,q,l,r⟩:=h;exact⟨a,b,q,l.dO,r⟩
 .cases e;obtain⟨a,b,q,l,r⟩:=h;exact⟨a,b,q,dy.of l,r⟩
 .cases e
def R.ae2{K:aP}{mg:ba}{O:a3}{H:au}{r:R}{v:V}{xs:List D}(h:eM K mg O H r v)(e:r.Hd=some xs):∃a b,v=.ref a/\dQ K H a b/\bc K mg O H xs b:=by
 unfold R.Hd at e;split at e
 .cases e;exact h
 .cases e
def R.Bi{K:aP}{mg:ba}{O:a3}{H:au}{r:R}{v:V}{xs:List D}(h:eM K mg O H r v)(e:r.seq=some xs):∃a b,v=.ref a/\(dy K H a b\/dQ K H a b)/\bc K mg O H xs b:=by
 unfold R.seq at e
 cases aq:r.fv with
 |some c=>rw[aq]at e;cases e;obtain⟨a,b,q,l,r⟩:=R.pf h aq;exact⟨a,b,q,.inl l,r⟩
 |none=>rw[aq]at e;obtain⟨a,b,q,l,r⟩:=R.ae2 h e;exact⟨a,b,q,.inr l,r⟩
def bc.fp{O:a3}{i:Int}(h:bc K mg O H ds xs)(e:fp ds i=some d):∃x,aB.fp xs i=some x/\Rep K mg O H d x:=by
 unfold aB.fp at e ⊢;rw[h.len]
 cases q:se ds.length i with
 |none=>rw[q]at e;cases e
 |some j=>rw[q]at e;exact h.get e
def fy:R->R->M R
 |.v (.str z),.v (.int i)=>match fp z.cps.toList i with
  |some c=>if z.length<=akg then pure (.v (.str ⟨#[c]⟩))else bad|none=>bad
 |x,.v (.int i)=>match x.seq with
  |some xs=>match fp xs i with
   |some d=>pure (.v d)|none=>bad
  |none=>bad
 |_,_=>bad
def Im:eK K mg (Qd K) fy:=fun O U S ao H x y I bI bo aj Q st C o h q=>by
 unfold fy at h;split at h
 .rename_i z i
  split at h
  .rename_i c aC
   by_cases hz:z.length<=akg
   .rw[if_pos hz]at h
    cases h;exact .inr (.inr ⟨z,i,c,C,o,hz,aC,q O _ H (Go.refl _ _) st rfl trivial⟩)
   .rw[if_neg hz]at h;cases h
  .cases h
 .rename_i i _
  split at h
  .rename_i xs e
   split at h
   .rename_i d aC
    cases h;obtain⟨a,f,rfl,l,j⟩:=R.Bi C e;obtain⟨z,cP,g⟩:=bc.fp j aC;have b:=q O z H (Go.refl _ _) st g trivial;rcases l with l|l
    .exact .inl ⟨a,f,i,z,rfl,o,l,cP,b⟩
    .exact .inr (.inl ⟨a,f,i,z,rfl,o,l,cP,b⟩)
   .cases h
  .cases h
 .cases h
def cO:cW:=λ_=>pure []
@[simp] def ck(m:bj)(a:cW)(U:aJ):M (List R):=do
 let x <-m U
 let xs <-a U
 pure (x::xs)
def R.dat:R->M D
 |.v d=>pure d|.fr xs=>pure (.l xs)|_=>bad
def jc:List R->M (List D)
 |[]=>pure []|r::rs=>do
  let d <-r.dat
  let ds <-jc rs
  pure (d::ds)
def cm(H₀:au)(O:a3):a3:=⟨λb=>match H₀ b,O b with
 |none,.ey=>.free| _,o=>o,O.bQ⟩
def zR{H₀:au}{O:a3}(h:H₀ b≠none):cm H₀ O b=O b:=by
 show(match H₀ b,O b with|none,.ey=>.free|_,o=>o)=O b
 cases e:H₀ b with
 |none=>exact absurd e h|some o=>cases O b<;>rfl
def wG{H₀:au}{O:a3}(h:H₀ b=none)(t:O b=.ey):cm H₀ O b=.free:=by show(match H₀ b,O b with|none,.ey=>.free|_,o=>o)=Own.free;rw[h,t]
def rQ{O:a3}(t:O b≠.ey):cm H₀ O b=O b:=by
 show(match H₀ b,O b with|none,.ey=>.free|_,o=>o)=O b;cases e:H₀ b<;>cases aC:O b<;>first|rfl|exact absurd aC t
def jg(H₀:au)(O:a3):nG O (cm H₀ O):=⟨λa h=>by rw[rQ (by rw[h];intro z;cases z),h],rfl⟩
def j8.dz{O b:a3}(g:nG O b)(d:∀a,O a=.out->b a=.out)(hw:∀a,O a=w->b a=w):∀{s:Slot}{u:Option V},j8 K mg O H w s u->j8 K mg b H w s u
 |.e,_,_=>trivial| .v _,_,h=>by obtain⟨v,q,r⟩:=h;exact⟨v,q,r.dz g⟩
 |.fc _ _,_,h=>by obtain⟨a,c,q,o,l,r⟩:=h;exact⟨a,c,q,hw a o,l,r.dz g⟩
 |.cf _,_,h=>by
  obtain⟨a,c,q,l,r⟩:=h;refine⟨a,c,q,l.imp (λz=>⟨z.1,z.2.imp (g.fr a) (d a)⟩) id,r.dz g⟩
section
variable{K:aP}{mg:ba}{O:a3}{U:aJ}{S:bL}{ao:St}{H H₀:au}
def cU.cm(h:cU K mg O U S ao H)(H₀:au):cU K mg (cm H₀ O) U S ao H:=
  ⟨⟨λa b=>h.cw.has a λz=>b (by rw[rQ (by rw[z];intro w;cases w),z]),h.cw.tabs,h.cw.rh.1,λa m=>by rw[rQ (by rw[h.cw.rh.2 a m];intro w;cases w)];exact h.cw.rh.2 a m⟩,h.len,
   λi s e=>(h.loc i s e).dz (jg _ _) (λa z=>by rw[rQ (by rw[z];intro w;cases w),z]) (λa z=>by rw[rQ (by rw[z];intro w;cases w),z]),h.gM.all (λ_ _ z=>Rep.dz (jg _ _) z) rfl λ_ _ _ l _=>l⟩
def Go.cm{c:a3}(g:Go c O H₀ H):Go c (cm H₀ O) H₀ H:=⟨g.same,λb a=>(zR a).trans (g.own b a),g.bQ⟩
def qm{r:R}{v:V}(b:eM K mg O H r v)(c:h2 H₀ r v)(h:r.dat.run S=.ok d o):Rep K mg (aS.cm H₀ O) H d v/\S=o:=by
 cases r with
 |v d'=>cases h;exact⟨Rep.dz (jg _ _) b,rfl⟩
 |fr xs=>
  cases h;obtain⟨a,f,rfl,l,t,e⟩:=b;exact⟨⟨a,f,rfl,⟨l,wG (c a rfl) t⟩,bc.dz (jg _ _) e⟩,rfl⟩
 |cf xs=>cases h
 |mv xs=>cases h
theorem tR:∀{rs:List R}{vs:List V}{ds:List D}{S a:bL},gS K mg O H rs vs->k8 H₀ rs vs->(jc rs).run S=.ok ds a->bc K mg (aS.cm H₀ O) H ds vs/\S=a
 |[],vs,ds,S,a,o,_,h=>by cases h;exact⟨o,rfl⟩
 |r::rs,vs,ds,S,a,o,C,h=>by
  obtain⟨d,i,c,h⟩:=M.inv h;obtain⟨k,j,e,h⟩:=M.inv h;cases h;obtain⟨v,b,rfl,f,g⟩:=o;obtain⟨bw,rfl⟩:=qm f C.1 c;obtain⟨cB,rfl⟩:=tR g C.2 e;exact⟨⟨v,b,rfl,bw,cB⟩,rfl⟩
end
@[simp] def bF(a:cW)(U:aJ):M R:=do
 let rs <-a U
 let ds <-jc rs
 h6 (ds.length<=1000)
 pure (.v (.t ds))
@[simp] def dD(a:cW)(U:aJ):M R:=do
 let rs <-a U
 let ds <-jc rs
 h6 (ds.length<=1000)
 pure (.fr ds)
@[simp] def cV(f:List R->M R)(a:cW)(U:aJ):M R:=do
 let rs <-a U
 f rs
def jZ(K:aP)(mg:ba)(r:List V->au->c_->Prop)(f:List R->M R):Prop:=
 ∀O U S C H xs rs I o (Q:c_),cU K mg O U S C H->gS K mg O H rs xs->(f rs).run S=.ok I o->yY K mg O U o C H I Q->r xs H Q
section
variable{ms:cW}{r:List V->au->c_->Prop}{f:List R->M R}
def Ka(u:jZ K mg r f):∀a H Q,gk K mg (cV f ms) a H Q->G_ r (pJ K mg ms) a H Q:=by
 rintro a H Q ⟨O,U,S,t,n,st,h,q⟩;obtain⟨rs,d,l,h⟩:=M.inv h;refine⟨O,U,S,rs,d,st,l,λj vs i g1 k s nn=>?_⟩;exact u j U d a i vs rs t n Q k s h λm v e g p c b=>q m v e (g1.trans g) p c (b.back g1.same)
end
def hk:List R->M R
 |[x]=>match x.seq with
  |some xs=>pure (.v (.int (xs.length:Nat)))|none=>bad
 |_=>bad
def wz:List R->M R
 |[.v (.str z)]=>if z.length<=akg then pure (.v (.int (z.length:Nat)))else bad|_=>bad
def R.kind:R->Option String
 |.v .ay=>some "NoneType"|.v (.az _)=>some "bool"|.v (.int _)=>some "int"|.v (.str _)=>some "str"|.v (.t _)=>some "tuple"|.v (.l _)=>some "list"|.fr _=>some "list"|.cf _=>some "list"|.mv _=>some "list"|_=>none
def h_:List R->M R
 |[x,.v (.ty n)]=>match x.kind with
  |some t=>if n∈["int","bool","tuple","list","str"]then pure (.v (.az (jo t n)))else bad|none=>bad
 |_=>bad
def wu(g:Int->Int->Int):List R->M R
 |[.v (.int i),.v (.int j)]=>pure (.v (.int (g i j)))|_=>bad
abbrev Vy:=wu λi j=>if j > i then j else i
def wx:List R->M R
 |[.v (.int i)]=>pure (.v (.int (if i<0 then -i else i)))|_=>bad
def nS:List D->Option (List Bool)
 |[]=>some []|.az b::r=>(nS r).map (b::·)|_=>none
def Vw:List R->M R
 |[x]=>match x.fv.bind nS with
  |some bs=>pure (.v (.az (bs.any id)))|none=>bad
 |_=>bad
def rM:List R->M R
 |[x]=>match x.fv.bind nS with
  |some bs=>pure (.v (.az (bs.all id)))|none=>bad
 |_=>bad
def t2:List R->M R
 |[.v (.int i)]=>pure (.v (.int i))|[.v (.az b)]=>pure (.v (.int (if b then 1 else 0)))|_=>bad
def mL:List R->M R
 |[x]=>match x.seq with
  |some xs=>pure (.v (.t xs))|none=>bad
 |_=>bad
section
variable{K:aP}{mg:ba}
def kR{O:a3}{r:R}(h:gS K mg O H [r] vs):∃v,vs=[v]/\eM K mg O H r v:=by
 obtain⟨v,c,rfl,a,b⟩:=h;cases b;exact⟨v,rfl,a⟩
def GH{O:a3}{r s:R}(h:gS K mg O H [r,s] vs):∃v u,vs=[v,u]/\eM K mg O H r v/\eM K mg O H s u:=by
 obtain⟨v,f,rfl,a,b⟩:=h;obtain⟨u,e,rfl,c,d⟩:=b;cases d;exact⟨v,u,rfl,a,c⟩
def ZK:jZ K mg (λxs H Q=>∃p b,xs=[.ref p]/\(dy K H p b\/dQ K H p b)/\Q (.int b.length) H) hk:=λO U S i H vs rs j g Q st c h q=>by
 unfold hk at h;split at h
 .rename_i x
  obtain⟨v,rfl,d⟩:=kR c;split at h
  .rename_i xs e
   cases h;obtain⟨a,b,rfl,l,f⟩:=R.Bi d e;exact⟨a,b,rfl,l,by rw[f.len];exact q O _ H (Go.refl _ _) st rfl trivial⟩
  .cases h
 .cases h
def ZL:jZ K mg (λxs H Q=>∃z,xs=[.str z]/\z.length<=akg/\Q (.int z.length) H) wz:=λO U S d H vs rs e c Q st a h q=>by
 unfold wz at h;split at h
 .rename_i z
  obtain⟨v,rfl,b⟩:=kR a;cases(show v=.str z from b)
  by_cases hz:z.length<=akg
  .rw[if_pos hz]at h
   cases h;exact⟨z,rfl,hz,q O _ H (Go.refl _ _) st rfl trivial⟩
  .rw[if_neg hz]at h;cases h
 .cases h
def R.Of{O:a3}{H:au}{r:R}{v:V}{t:String}(h:eM K mg O H r v)(e:r.kind=some t):mD K H v t:=by
 unfold R.kind at e;split at e
 .cases e;cases h;exact .ay
 .cases e;cases h;exact .az _
 .cases e;cases h;exact .int _
 .cases e;cases h;exact .str _
 .cases e;obtain⟨a,b,rfl,l,_⟩:=h;exact .t l
 .cases e;obtain⟨a,b,rfl,l,_⟩:=h;exact .l l.dO
 .cases e;obtain⟨a,b,rfl,l,_⟩:=h;exact .l (dy.of l)
 .cases e;obtain⟨a,b,rfl,l,_⟩:=h;exact .l l.dO
 .cases e;obtain⟨a,b,rfl,l,_⟩:=h;exact .l (dy.of l)
 .cases e
def ZI:jZ K mg (Qb K) h_:=fun O U S I H vs rs bo C Q st o h q=>by
 unfold h_ at h;split at h
 .rename_i x n
  obtain⟨v,u,rfl,c,b⟩:=GH o;cases(show u=.ty n from b);split at h
  .rename_i t e
   by_cases a:n∈["int","bool","tuple","list","str"]
   .rw[if_pos a]at h
    cases h;exact⟨v,n,t,rfl,R.Of c e,a,q O _ H (Go.refl _ _) st rfl trivial⟩
   .rw[if_neg a]at h;cases h
  .cases h
 .cases h
def ZE{g:Int->Int->Int}:jZ K mg (λxs H Q=>∃i j,xs=[.int i,.int j]/\Q (.int (g i j)) H) (wu g):=λO U S e H vs rs f d Q st a h q=>by
 unfold wu at h;split at h
 .rename_i i j
  obtain⟨v,u,rfl,c,b⟩:=GH a;cases(show v=.int i from c);cases(show u=.int j from b);cases h;exact⟨i,j,rfl,q O _ H (Go.refl _ _) st rfl trivial⟩
 .cases h
def ZF:jZ K mg (λxs H Q=>∃i,xs=[.int i]/\Q (.int (if i<0 then -i else i)) H) wx:=λO U S d H vs rs e c Q st a h q=>by
 unfold wx at h;split at h
 .rename_i i
  obtain⟨v,rfl,b⟩:=kR a;cases(show v=.int i from b);cases h;exact⟨i,rfl,q O _ H (Go.refl _ _) st rfl trivial⟩
 .cases h
theorem J2{O:a3}:∀{ds:List D}{a:List V}{bs:List Bool},bc K mg O H ds a->nS ds=some bs->a=bs.map V.az
 |[],a,bs,h,e=>by cases e;exact h
 |d::ds,a,bs,h,e=>by
  cases d with
  |az b=>
   obtain⟨cs,aq,rfl⟩:=amt.mp e;obtain⟨y,r,rfl,c,f⟩:=h;rw[J2 f aq,show y=.az b from c];rfl
  |_=>exact absurd (show(none:Option (List Bool))=some bs from e) (by intro z;cases z)
def ZG:jZ K mg (λxs H Q=>∃(l:Addr)(bs:List Bool),xs=[.ref l]/\dy K H l (bs.map V.az)/\Q (.az (bs.all id)) H) rM:=λO U S g H vs rs i f Q st b h q=>by
 unfold rM at h;split at h
 .rename_i x
  obtain⟨v,rfl,c⟩:=kR b;split at h
  .rename_i xs e
   cases h;obtain⟨k,aq,aC⟩:=am4.mp e;obtain⟨a,j,rfl,l,d⟩:=R.pf c aq;rw[J2 d aC]at l;exact⟨a,xs,rfl,l,q O _ H (Go.refl _ _) st rfl trivial⟩
  .cases h
 .cases h
def ZH:jZ K mg (λxs H Q=>(∃i,xs=[.int i]/\Q (.int i) H)\/∃k,xs=[.az k]/\Q (.int (if k then 1 else 0)) H) t2:=λO U S e H vs rs f d Q st c h q=>by
 unfold t2 at h;split at h
 .rename_i i
  obtain⟨v,rfl,a⟩:=kR c;cases(show v=.int i from a);cases h;exact .inl ⟨i,rfl,q O _ H (Go.refl _ _) st rfl trivial⟩
 .rename_i b
  obtain⟨v,rfl,a⟩:=kR c;cases(show v=.az b from a);cases h;exact .inr ⟨b,rfl,q O _ H (Go.refl _ _) st rfl trivial⟩
 .cases h
def ZQ:jZ K mg (λxs H Q=>∃p b,xs=[.ref p]/\((dy K H p b/\∀l,H l=none->Q (.ref l) (upd H l (.t b)))\/(dQ K H p b/\Q (.ref p) H))) mL:=λO U S j H vs rs k i Q st f h q=>by
 unfold mL at h;split at h
 .rename_i x
  obtain⟨v,rfl,g⟩:=kR f;split at h
  .rename_i xs e
   cases h;obtain⟨a,b,rfl,l,d⟩:=R.Bi g e;refine⟨a,b,rfl,?_⟩;rcases l with l|l
   .exact .inl ⟨l,λp c=>q O _ _ (Go.f_ c) (st.f_ c) ⟨p,b,rfl,dQ.of dU,d.go (Go.f_ c)⟩ trivial⟩
   .exact .inr ⟨l,q O _ _ (Go.refl _ _) st ⟨a,b,rfl,l,d⟩ trivial⟩
  .cases h
 .cases h
end
def cutD{α:Type}(xs:List α)(a b:Option Int):List α:=(xs.drop (d_.c4 xs.length 0 a)).take (d_.c4 xs.length xs.length b-d_.c4 xs.length 0 a)
def bc.cut{O:a3}(h:bc K mg O H ds xs)(b a:Option Int):bc K mg O H (cutD ds b a) (tQ xs b a):=by
 unfold cutD tQ;rw[h.len];exact(h.drop _).take _
abbrev oI:=aJ->M (Option Int)
def aeW(K:aP)(mg:ba)(m:oI):f3:=λd H Q=>qb K mg m d H λO U e b=>∀c a,Go O c H a->cU K mg c U e d a->Q b a
abbrev Sa(X:aN)(e:Option Expr)(m:oI):Prop:=vO X e (aeW X.K X.mg m)
def CP:oI:=λ_=>pure none
@[simp] def tM(m:bj)(U:aJ):M (Option Int):=do
 let r <-m U
 match r with
 |.v (.int i)=>pure (some i)|_=>bad
def sI(x:R)(b a:Option Int):M R:=
 match x with
 |.v (.t xs)=>if d_.c4 xs.length 0 b=0/\d_.c4 xs.length xs.length a=xs.length then bad else pure (.v (.t (cutD xs b a)))|_=>match x.fv with
  |some xs=>pure (.fr (cutD xs b a))|none=>bad
@[simp] def zq(a:bj)(c b:oI)(U:aJ):M R:=do
 let x <-a U
 let l <-c U
 let h <-b U
 sI x l h
def R.own:R->Option (List D)
 |.v (.l xs)=>some xs|.fr xs=>some xs|.mv xs=>some xs|_=>none
def iZ(x y:R):M R:=match x.own,y.own with
 |some xs,some ys=>if xs.length+ys.length<=akg then pure (.fr (xs++ys))else bad|_,_=>bad
def uR:R->R->M R
 |.v (.str x),.v (.str y)=>if x.length+y.length<=akg then pure (.v (.str (x++y)))else bad|_,_=>bad
def R.Gg{K:aP}{mg:ba}{O:a3}{H:au}{r:R}{v:V}{xs:List D}(h:eM K mg O H r v)(e:r.own=some xs):∃a b,v=.ref a/\H a=some (.l b)/\bc K mg O H xs b:=by
 unfold R.own at e;split at e
 .cases e;obtain⟨a,b,q,l,r⟩:=h;exact⟨a,b,q,l.1,r⟩
 .cases e;obtain⟨a,b,q,l,_,r⟩:=h;exact⟨a,b,q,l,r⟩
 .cases e;obtain⟨a,b,q,l,r⟩:=h;exact⟨a,b,q,l,r⟩
 .cases e
section
variable{K:aP}{mg:ba}
def Ig:eK K mg P_ iZ:=fun O U S ao H x y o bI bo aj Q st I C h q=>by
 unfold iZ at h
 cases aq:o.own with
 |none=>rw[aq]at h;cases h
 |some xs=>
  cases aC:bI.own with
  |none=>rw[aq,aC]at h;cases h
  |some l=>
   rw[aq,aC]at h;dsimp only at h
   by_cases d:xs.length+l.length<=akg
   .rw[if_pos d]at h
    cases h;obtain⟨a,us,rfl,g,e⟩:=R.Gg I aq;obtain⟨b,k,rfl,i,f⟩:=R.Gg C aC;refine⟨a,b,us,k,rfl,rfl,g,i,by rw[e.len,f.len];exact d,λp c=>q (hZ O p .ey) _ _ (Go.new c) (st.new c) ⟨p,_,rfl,dU,pP,(e.append f).go (Go.new c)⟩ λb j=>?_⟩;cases j;exact c
   .rw[if_neg d]at h;cases h
def S5:eK K mg (λx y H Q=>∃i j,x=.str i/\y=.str j/\i.length+j.length<=akg/\Q (.str (i++j)) H) uR:=λO U S f H x y d g k e Q st c b h q=>by
 unfold uR at h;split at h
 .rename_i i j
  by_cases a:i.length+j.length<=akg
  .rw[if_pos a]at h
   cases h;exact⟨i,j,c,b,a,q O _ H (Go.refl _ _) st rfl trivial⟩
  .rw[if_neg a]at h;cases h
 .cases h
end
def D.py:D->PyData
 |.ay=>.none|.az b=>.bool b|.int i=>.int i|.str x=>.str x|.t xs=>.tuple (ml xs)|.l xs=>.list (ml xs)|.ref _=>.none|.fn _=>.none|.ty _=>.none
where ml:List D->List PyData
 |[]=>[]
 |x::xs=>x.py::ml xs
mutual
def D.b5:D->Nat->Bool
 |.ay,_=>true|.az _,_=>true|.int _,_=>true|.str x,_=>akz x|.t xs,n=>match n with
  |0=>false|k+1=>iT xs k
 |.l xs,n=>match n with
  |0=>false|k+1=>iT xs k
 |.ref _,_=>false|.fn _,_=>false|.ty _,_=>false
def iT:List D->Nat->Bool
 |[],_=>true|x::xs,n=>x.b5 n&&iT xs n
end
mutual
def jQ:D->D->Bool
 |.ay,b=>match b with|.ay=>true|_=>false
 |.az a,b=>match b with|.az c=>a==c|.int j=>(if a then 1 else 0)==j|_=>false
 |.int i,b=>match b with|.az c=>i==(if c then 1 else 0)|.int j=>i==j|_=>false
 |.str x,b=>match b with|.str y=>x==y|_=>false
 |.t xs,b=>match b with|.t d=>sN xs d|_=>false
 |.l xs,b=>match b with|.l d=>sN xs d|_=>false
 |.ref _,_=>false|.fn _,_=>false|.ty _,_=>false
def sN:List D->List D->Bool
 |[],ys=>match ys with|[]=>true|_=>false
 |x::xs,ys=>match ys with|[]=>false|y::r=>jQ x y&&sN xs r
end
mutual
theorem Dk:∀(a b:D)(n m:Nat),a.b5 n=true->b.b5 m=true->aoK a.py b.py=jQ a b
 |.ay,b,n,m,C,o=>by cases b<;>first|rfl|(simp[D.b5]at o)
 |.az _,b,n,m,C,o=>by cases b<;>first|rfl|(simp[D.b5]at o)
 |.int _,b,n,m,C,o=>by cases b<;>first|rfl|(simp[D.b5]at o)
 |.str _,b,n,m,C,o=>by cases b<;>first|rfl|(simp[D.b5]at o)
 |.t xs,b,n,m,C,o=>by
  cases b with
  |t c=>
   cases n with
   |zero=>simp[D.b5]at C|succ k=>
    cases m with
    |zero=>simp[D.b5]at o|succ j=>exact Dl xs c k j C o
  |ref _=>simp[D.b5]at o|fn _=>simp[D.b5]at o|ty _=>simp[D.b5]at o|_=>rfl
 |.l xs,b,n,m,C,o=>by
  cases b with
  |l c=>
   cases n with
   |zero=>simp[D.b5]at C|succ k=>
    cases m with
    |zero=>simp[D.b5]at o|succ j=>exact Dl xs c k j C o
  |ref _=>simp[D.b5]at o|fn _=>simp[D.b5]at o|ty _=>simp[D.b5]at o|_=>rfl
 |.ref _,b,n,m,C,o=>by simp[D.b5]at C| .fn _,b,n,m,C,o=>by simp[D.b5]at C| .ty _,b,n,m,C,o=>by simp[D.b5]at C
theorem Dl:∀(xs a:List D)(n m:Nat),iT xs n=true->iT a m=true->PyData.eqvAll (D.py.ml xs) (D.py.ml a)=sN xs a
 |[],a,n,m,C,o=>by cases a<;>rfl
 |x::xs,a,n,m,C,o=>by
  cases a with
  |nil=>rfl|cons y r=>
   rw[iT,akD]at C o;show(aoK x.py y.py&&PyData.eqvAll (D.py.ml xs) (D.py.ml r))=(jQ x y&&sN xs r);rw[Dk x y n m C.1 o.1,Dl xs r n m C.2 o.2]
end
mutual
theorem Mp:∀(a:D)(n:Nat),a.b5 n=true->a.py.canLay0=true/\a.py.depth<=n
 |.ay,n,h=>⟨rfl,akG _⟩
 |.az _,n,h=>⟨rfl,akG _⟩
 |.int _,n,h=>⟨rfl,akG _⟩
 |.str _,n,h=>⟨h,akG _⟩
 |.t xs,n,h=>by
  cases n with
  |zero=>simp[D.b5]at h|succ k=>obtain⟨bw,cB⟩:=DJ xs k h;exact⟨bw,Nat.succ_le_succ cB⟩
 |.l xs,n,h=>by
  cases n with
  |zero=>simp[D.b5]at h|succ k=>obtain⟨bw,cB⟩:=DJ xs k h;exact⟨bw,Nat.succ_le_succ cB⟩
 |.ref _,n,h=>by simp[D.b5]at h| .fn _,n,h=>by simp[D.b5]at h| .ty _,n,h=>by simp[D.b5]at h
theorem DJ:∀(xs:List D)(n:Nat),iT xs n=true->PyData.canLayAll0 (D.py.ml xs)=true/\PyData.depthAll (D.py.ml xs)<=n
 |[],n,h=>⟨rfl,akG _⟩
 |x::xs,n,h=>by
  rw[iT,akD]at h;obtain⟨a1,a2⟩:=Mp x n h.1;obtain⟨a,b⟩:=DJ xs n h.2;exact⟨by show(x.py.canLay0&&PyData.canLayAll0 (D.py.ml xs))=true;rw[a1,a];rfl,by show max x.py.depth (PyData.depthAll (D.py.ml xs))<=n;omega⟩
end
def zU{a:D}(h:a.b5 64=true):aoV a.py=true:=by
 obtain⟨b,c⟩:=Mp a 64 h;show(a.py.canLay0&&decide (a.py.depth<=64))=true;rw[b,decide_eq_true c];rfl
mutual
theorem Rep.py{O:a3}:∀{d:D}{v:V}{n:Nat},d.b5 n=true->Rep K mg O H d v->aB.Rep K H d.py v
 |.ay,_,_,_,h=>h|.az _,_,_,_,h=>h|.int _,_,_,_,h=>h|.str _,_,_,_,h=>h|.t _,_,n,g,h=>by
  cases n with
  |zero=>simp[D.b5]at g|succ k=>obtain⟨a,b,q,l,r⟩:=h;exact⟨a,b,q,l,bc.py (n:=k) g r⟩
 |.l _,_,n,g,h=>by
  cases n with
  |zero=>simp[D.b5]at g|succ k=>obtain⟨a,b,q,l,r⟩:=h;exact⟨a,b,q,l.dO,bc.py (n:=k) g r⟩
 |.ref _,_,_,g,h=>by simp[D.b5]at g| .fn _,_,_,g,h=>by simp[D.b5]at g| .ty _,_,_,g,h=>by simp[D.b5]at g
theorem bc.py{O:a3}:∀{ds:List D}{c:List V}{n:Nat},iT ds n=true->bc K mg O H ds c->aB.bc K H (D.py.ml ds) c
 |[],_,_,_,h=>h|_::_,_,n,g,h=>by
  rw[iT,akD]at g;obtain⟨x,r,q,a,b⟩:=h;exact⟨x,r,q,Rep.py g.1 a,bc.py g.2 b⟩
end
def R.arg:R->D
 |.v d=>d|.fr xs=>.l xs|.cf xs=>.l xs|.mv xs=>.l xs
def R.y'{K:aP}{mg:ba}{O:a3}{H:au}{r:R}{v:V}{n:Nat}(g:r.arg.b5 n=true)(h:eM K mg O H r v):aB.Rep K H r.arg.py v:=by
 have fv:∀xs,r.fv=some xs->(D.l xs).b5 n=true->aB.Rep K H (D.l xs).py v:=λxs e g=>by
  obtain⟨a,c,q,l,b⟩:=R.pf h e
  cases n with
  |zero=>simp[D.b5]at g|succ k=>exact⟨a,c,q,l,bc.py g b⟩
 cases r with
 |v d=>exact Rep.py g h|fr xs=>exact fv xs rfl g|cf xs=>exact fv xs rfl g|mv xs=>exact fv xs rfl g
def oEq(x y:R):M R:=if x.arg.b5 64=true/\y.arg.b5 64=true then pure (.v (.az (jQ x.arg y.arg)))else bad
def ej(x y:R):M R:=if x.arg.b5 64=true/\y.arg.b5 64=true then pure (.v (.az (!jQ x.arg y.arg)))else bad
section
variable{K:aP}{mg:ba}
def Cw:eK K mg (Bf K false) oEq:=λO U S g H x y a e i f Q st d b h q=>by
 unfold oEq at h
 by_cases c:a.arg.b5 64=true/\e.arg.b5 64=true
 .rw[if_pos c]at h
  cases h;refine⟨_,_,R.y' c.1 d,R.y' c.2 b,zU c.1,zU c.2,?_⟩;rw[if_neg akp,Dk _ _ _ _ c.1 c.2];exact q O _ H (Go.refl _ _) st rfl trivial
 .rw[if_neg c]at h;cases h
def Io:eK K mg (Bf K true) ej:=λO U S g H x y a e i f Q st d b h q=>by
 unfold ej at h
 by_cases c:a.arg.b5 64=true/\e.arg.b5 64=true
 .rw[if_pos c]at h
  cases h;refine⟨_,_,R.y' c.1 d,R.y' c.2 b,zU c.1,zU c.2,?_⟩;rw[if_pos rfl,Dk _ _ _ _ c.1 c.2];exact q O _ H (Go.refl _ _) st rfl trivial
 .rw[if_neg c]at h;cases h
end
def R.lu:R->Bool
 |.v .ay=>true|_=>false
def gB(x:R):R->M R
 |.v .ay=>pure (.v (.az x.lu))|_=>bad
def hq(x:R):R->M R
 |.v .ay=>pure (.v (.az (!x.lu)))|_=>bad
section
variable{K:aP}{mg:ba}
def NR{O:a3}{r:R}{v:V}(h:eM K mg O H r v):decide (v=.ay)=r.lu:=by
 have no:∀{a:Addr},v=.ref a->decide (v=.ay)=false:=λ{a} e=>by rw[e];exact decide_eq_false (by intro z;cases z)
 cases r with
 |v d=>
  cases d with
  |ay=>exact decide_eq_true h|az _=>rw[show v=_ from h];rfl|int _=>rw[show v=_ from h];rfl|str _=>rw[show v=_ from h];rfl|ty _=>rw[show v=_ from h];rfl|t _=>obtain⟨a,_,e,_⟩:=h;exact no e
  |l _=>obtain⟨a,_,e,_⟩:=h;exact no e
  |ref _=>obtain⟨a,e,_⟩:=h;exact no e
  |fn _=>obtain⟨a,e,_⟩:=h;exact no e
 |fr _=>obtain⟨a,_,e,_⟩:=h;exact no e
 |cf _=>obtain⟨a,_,e,_⟩:=h;exact no e
 |mv _=>obtain⟨a,_,e,_⟩:=h;exact no e
def Il:eK K mg (λx y H Q=>y=.ay/\Q (.az (decide (x=.ay))) H) gB:=λO U S e H x y c f g d Q st b a h q=>by
 unfold gB at h;split at h
 .cases h;exact⟨a,by rw[NR b];exact q O _ H (Go.refl _ _) st rfl trivial⟩
 .cases h
def Ip:eK K mg (λx y H Q=>y=.ay/\Q (.az (!decide (x=.ay))) H) hq:=λO U S e H x y c f g d Q st b a h q=>by
 unfold hq at h;split at h
 .cases h;exact⟨a,by rw[NR b];exact q O _ H (Go.refl _ _) st rfl trivial⟩
 .cases h
end
def D.flat:D->Bool
 |.ay=>true|.az _=>true|.int _=>true|.str _=>true|_=>false
def inD(x:D)(xs:List D):Bool:=xs.any λy=>jQ y x
def ng(a:Bool)(x y:R):M R:=match x,y.seq with
 |.v d,some xs=>if d.flat=true/\xs.all D.flat=true then pure (.v (.az (if a then !inD d xs else inD d xs)))else bad|_,_=>bad
section
variable{K:aP}{mg:ba}
def L_{O:a3}{d:D}{v:V}(h:Rep K mg O H d v)(f:d.flat=true):nX v=true:=by
 cases d with
 |ay=>rw[show v=_ from h];rfl|az _=>rw[show v=_ from h];rfl|int _=>rw[show v=_ from h];rfl|str _=>rw[show v=_ from h];rfl|_=>exact absurd (show false=true from f) akp
def Vq{O:a3}{d e:D}{v u:V}(h:Rep K mg O H d v)(a:Rep K mg O H e u)(f:d.flat=true)(b:e.flat=true):nU v u=jQ d e:=by
 cases d with
 |ay=>
  rw[show v=_ from h]
  cases e with
  |ay=>rw[show u=_ from a];rfl|az _=>rw[show u=_ from a];rfl|int _=>rw[show u=_ from a];rfl|str _=>rw[show u=_ from a];rfl|_=>exact absurd (show false=true from b) akp
 |az _=>
  rw[show v=_ from h]
  cases e with
  |ay=>rw[show u=_ from a];rfl|az _=>rw[show u=_ from a];rfl|int _=>rw[show u=_ from a];rfl|str _=>rw[show u=_ from a];rfl|_=>exact absurd (show false=true from b) akp
 |int _=>
  rw[show v=_ from h]
  cases e with
  |ay=>rw[show u=_ from a];rfl|az _=>rw[show u=_ from a];rfl|int _=>rw[show u=_ from a];rfl|str _=>rw[show u=_ from a];rfl|_=>exact absurd (show false=true from b) akp
 |str _=>
  rw[show v=_ from h]
  cases e with
  |ay=>rw[show u=_ from a];rfl|az _=>rw[show u=_ from a];rfl|int _=>rw[show u=_ from a];rfl|str _=>rw[show u=_ from a];rfl|_=>exact absurd (show false=true from b) akp
 |_=>exact absurd (show false=true from f) akp
theorem NI{O:a3}{d:D}{v:V}(h:Rep K mg O H d v)(f:d.flat=true):∀{ds:List D}{a:List V},bc K mg O H ds a->ds.all D.flat=true->a.all nX=true/\Ez v a=inD d ds
 |[],a,r,_=>by cases r;exact⟨rfl,rfl⟩
 |e::ds,a,r,g=>by
  obtain⟨y,t,rfl,b,c⟩:=r;rw[amI,akD]at g;obtain⟨bw,cB⟩:=NI h f c g.2;refine⟨by rw[amI,L_ b g.1,bw];rfl,?_⟩;show(y::t).any (λz=>nU z v)=(e::ds).any λz=>jQ z d
  rw[alT,alT,Vq b h g.1 f];exact congrArg _ cB
def Ij(b:Bool):eK K mg (Qa K b) (ng b):=λO U S r H x y n s t p Q st f g h q=>by
 unfold ng at h;split at h
 .rename_i d xs e
  by_cases c:d.flat=true/\xs.all D.flat=true
  .rw[if_pos c]at h
   cases h;obtain⟨a,m,rfl,l,k⟩:=R.Bi g e;obtain⟨i,j⟩:=NI f c.1 k c.2;exact⟨a,m,rfl,l,L_ f c.1,i,by rw[j];exact q O _ H (Go.refl _ _) st rfl trivial⟩
  .rw[if_neg c]at h;cases h
 .cases h
end
inductive fe where
 |bl (U:aJ)|cp (r:R)|bk (U:aJ)|cM (U:aJ)
abbrev aY:=aJ->M fe
def Fix(o:g_):Prop:=(∃xs,o=.t xs)\/∃bD u,o=.cm bD u
structure ez(O ai:a3)(H H':au):Prop where
 cells:∀b o,H b=some o->(O b=.free\/O b=.out\/Fix o)->(h:nf o:=by exact trivial)->H' b=some o
 own:∀b,H b≠none->(O b=.free\/O b=.out)->ai b=O b
 has:∀b,H b≠none->H' b≠none
 dt:∀b ps,H b=some (.gE ps)->∃lF,H' b=some (.gE lF)
 b5:TabsOk H->TabsOk H'
 bQ:ai.bQ=O.bQ
def Go.aZ{O a:a3}(g:Go O a H H'):ez O a H H':=⟨λb o e _ n=>g.same.at' b o e n,λb h _=>g.own b h,λ_ h=>g.same.some h,g.same.dt,g.same.b5,g.bQ⟩
def ez.refl(O:a3)(H:au):ez O O H H:=(Go.refl O H).aZ
def ez.trans{O i j:a3}(a:ez O i H H1)(b:ez i j H1 C):ez O j H C:=by
 have d:∀{b:Addr}{o:g_},H b=some o->H b≠none:=λe z=>by rw[e]at z;cases z
 refine⟨λc o e h n=>?_,λc h f=>?_,λc h=>b.has c (a.has c h),λc ps h=>let⟨p1,aq⟩:=a.dt c ps h;b.dt c p1 aq,λg=>b.b5 (a.b5 g),b.bQ.trans a.bQ⟩
 .have aq:=a.cells c o e h n
  rcases h with h|h|h
  .exact b.cells c o aq (.inl ((a.own c (d e) (.inl h)).trans h)) n
  .exact b.cells c o aq (.inr (.inl ((a.own c (d e) (.inr h)).trans h))) n
  .exact b.cells c o aq (.inr (.inr h)) n
 .have aq:=a.own c h f
  rw[b.own c (a.has c h) (by rw[aq];exact f),aq]
def fg(U U':aJ)(a b:St):Prop:=(∀(i:Nat)(xs:List D),U'[i]? = some (Slot.cf xs)->U[i]? = some (Slot.cf xs)/\b[i]? = a[i]?)/\
 (∀(i:Nat)(c:List D),U'[i]? = some (Slot.fc true c)->(∃xs,U[i]? = some (Slot.fc true xs))/\b[i]? = a[i]?)
def fg.refl(U:aJ)(a:St):fg U U a a:=⟨λ_ _ h=>⟨h,rfl⟩,λ_ _ h=>⟨⟨_,h⟩,rfl⟩⟩
def fg.trans{v c d:St}(a:fg U C v c)(b:fg C o c d):fg U o v d:=⟨λi xs h=>⟨(a.1 i xs (b.1 i xs h).1).1,(b.1 i xs h).2.trans (a.1 i xs (b.1 i xs h).1).2⟩,λi g h=>by
 obtain⟨⟨xs,e⟩,q⟩:=b.2 i g h;obtain⟨z,f⟩:=a.2 i xs e;exact⟨z,q.trans f⟩⟩
def fg.put{U:aJ}(c:U[i]? = some s0)(d:∀xs,s≠.cf xs)(f:∀xs,s=.fc true xs->∃b,s0=.fc true b):fg U (U.set i s) o o:=by
 have key:∀(j:Nat)(t:Slot),(U.set i s)[j]? = some t->(i=j/\t=s)\/(i≠j/\U[j]? = some t):=λj t h=>by
  by_cases a:i=j
  .subst a
   rw[ak7 ((ake.mp c).1)]at h;exact .inl ⟨rfl,(akF h).symm⟩
  .rw[aku a]at h
   exact .inr ⟨a,h⟩
 refine⟨λj xs h=>?_,λj b h=>?_⟩
 .rcases key j _ h with⟨_,e⟩|⟨_,e⟩
  .exact absurd e.symm (d xs)
  .exact⟨e,rfl⟩
 .rcases key j _ h with⟨rfl,e⟩|⟨_,e⟩
  .obtain⟨k,g⟩:=f b e.symm
   exact⟨⟨k,g▸c⟩,rfl⟩
  .exact⟨⟨_,e⟩,rfl⟩
def Ce(K:aP)(mg:ba)(O:a3)(H:au):R->V->Prop
 |.v d,v=>Rep K mg O H d v|.fr xs,v=>∃a b,v=.ref a/\H a=some (.l b)/\(O a=.ey\/∃i,O a=.loc i)/\bc K mg O H xs b|_,_=>False
def oJ(K:aP)(mg:ba)(O:a3)(U:aJ)(d:bL)(e:St)(H:au)(U':aJ)(N:St->au->Prop):Prop:=
 ∀c b a,ez O c H a->cU K mg c U' d b a->fg U U' e b->N b a
def yZ(K:aP)(mg:ba)(O:a3)(U:aJ)(c:bL)(e:St)(H:au)(f:fe)(d:Ends):Prop:=match f with
 |.bl U'=>oJ K mg O U c e H U' d.bl|.bk U'=>oJ K mg O U c e H U' d.bk|.cM U'=>oJ K mg O U c e H U' d.cM|.cp r=>∀b v a,ez O b H a->c2 b a->fC K mg b a c->Ce K mg b a r v->d.cp v a
def oJ.aZ{O a:a3}{N:St->au->Prop}(h:oJ K mg O U o C H U' N)(g:ez O a H H1)(k:fg U I C yG):oJ K mg a I o yG H1 U' N:=
 λc e b g' st d=>h c e b (g.trans g') st (k.trans d)
def yZ.aZ{O a:a3}(h:yZ K mg O U C I H o gY)(g:ez O a H H1)(k:fg U gO I yG):yZ K mg a gO C yG H1 o gY:=by
 cases o with
 |bl U'=>exact oJ.aZ h g k|bk U'=>exact oJ.aZ h g k|cM U'=>exact oJ.aZ h g k|cp r=>exact λc v b g' d e r=>h c v b (g.trans g') d e r
def iq(K:aP)(mg:ba)(m:aY):gZ:=λd a H=>qb K mg m a H λO U c b=>yZ K mg O U c a H b d
abbrev HI(X:aN)(st:Stmt)(m:aY):Prop:=iQ X st (iq X.K X.mg m)
abbrev p0(X:aN)(a:List Stmt)(m:aY):Prop:=iw X a (iq X.K X.mg m)
def g4{t t':gZ}(h:iQ X s t)(i:∀D U H,t' D U H->t D U H):iQ X s t':=λa s U H D I q=>h a s U H D I (i _ _ _ q)
def xV{t t':gZ}(h:iw X s t)(i:∀D U H,t' D U H->t D U H):iw X s t':=λa s U H D I q=>h a s U H D I (i _ _ _ q)
@[simp] def bZ(U:aJ):M fe:=pure (.bl U)
def wa:aY:=λ_=>bad
@[simp] def bW(a b:aY)(U:aJ):M fe:=do
 let c <-a U
 match c with
 |.bl U'=>b U'|c=>pure c
@[simp] def bA(m:bj)(U:aJ):M fe:=do
 let r <-m U
 match r with
 |.v d=>pure (.cp (.v d))|.fr xs=>pure (.cp (.fr xs))|_=>bad
@[simp] def zp(i:Nat)(U:aJ):M fe:=match U[i]? with
 |some (.fc false xs)=>pure (.cp (.fr xs))|_=>bad
@[simp] def b9(t:aJ->M Bool)(a b:aY)(U:aJ):M fe:=do
 let t <-t U
 if t=true then a U else b U
@[simp] def b1(i:Nat)(m:bj)(U:aJ):M fe:=do
 let r <-m U
 let d <-r.dat
 pure (.bl (U.set i (.v d)))
@[simp] def jJ(i:Nat)(m:bj)(U:aJ):M fe:=do
 let r <-m U
 match r with
 |.fr xs=>pure (.bl (U.set i (.fc false xs)))|_=>bad
section
variable{st:Stmt}{a b:aY}{e:Expr}{m:bj}
theorem Qm{O:a3}{r:R}{v:V}(h:eM K mg O H r v)(c:(∃d,r=.v d)\/∃xs,r=.fr xs):Ce K mg O H r v:=by
 rcases c with⟨d,rfl⟩|⟨xs,rfl⟩
 .exact h
 .obtain⟨a,g,q,l,t,f⟩:=h;exact⟨a,g,q,l,.inl t,f⟩
theorem cU.set{O:a3}{U:aJ}{d:St}{v:V}(st:cU K mg O U S d H)(h:j8 K mg O H (.loc i) s (some v)):cU K mg O (U.set i s) S (d.set i (some v)) H:=by
 refine⟨st.cw,by rw[ali,ali];exact st.len,λj t e=>?_,st.gM⟩
 by_cases c:i=j
 .subst c
  have f:i<U.length:=by
   have:=(ake.mp e).1
   rwa[ali]at this
  rw[ak7 f]at e;cases e;rw[ak7 (by rw[<-st.len];exact f)];exact h
 .rw[aku c]at e
  rw[aku c];exact st.loc j t e
theorem fg.set{U:aJ}{c:St}{v:Option V}(av:∀xs,s≠.cf xs)(g:∀xs,s≠.fc true xs:=by intro xs z;cases z):fg U (U.set i s) c (c.set i v):=by
 have key:∀(j:Nat)(t:Slot),(U.set i s)[j]? = some t->t≠s->U[j]? = some t/\(c.set i v)[j]? = c[j]?:=λj t h l=>by
  by_cases d:i=j
  .subst d
   have k:i<U.length:=by
    have:=(ake.mp h).1
    rwa[ali]at this
   rw[ak7 k]at h;exact absurd (akF h).symm l
  .rw[aku d]at h ⊢
   exact⟨h,rfl⟩
 refine⟨λj xs h=>key j _ h (λz=>av xs z.symm),λj f h=>?_⟩;obtain⟨a,b⟩:=key j _ h (λz=>g f z.symm);exact⟨⟨f,a⟩,b⟩
theorem cU.own{K:aP}{mg:ba}{O:a3}{U:aJ}{S:bL}{c:St}{H:au}{i:Nat}{a:Addr}{xs:List D}{d:List V}(st:cU K mg O U S c H)(p:O a=.ey)(g:H a=some (.l d))(k:bc K mg O H xs d) :
  cU K mg (hZ O a (.loc i)) (U.set i (.fc false xs)) S (c.set i (some (.ref a))) H:=by
 have ne:∀{b:Addr}{w:Own},O b=w->w≠.ey->hZ O a (.loc i) b=w:=λ{b w} h hw=>by
  rw[pO];exact h;rintro rfl;exact hw (h.symm.trans p)
 have dz:nG O (hZ O a (.loc i)):=⟨λb h=>ne h (by intro z;cases z),rfl⟩;have n:cU K mg (hZ O a (.loc i)) U S c H:=by
  refine⟨⟨λb f=>?_,st.cw.tabs,st.cw.rh.1,λb m=>ne (st.cw.rh.2 b m) (by intro z;cases z)⟩,st.len,λj s e=>(st.loc j s e).dz dz (λb h=>ne h (by intro z;cases z)) (λb h=>ne h (by intro z;cases z)),st.gM.all (λ_ _ z=>Rep.dz dz z) rfl λ_ _ _ l _=>l⟩
  by_cases e:b=a
  .rw[e,g];intro z;cases z
  .rw[pO e]at f;exact st.cw.has b f
 exact n.set ⟨a,d,rfl,pP,g,k.dz dz⟩
theorem ez.ey{O:a3}{H:au}{a:Addr}{w:Own}(c:O a=.ey):ez O (hZ O a w) H H:=by
 refine⟨λb o e _ _=>e,λb h f=>?_,λ_ h=>h,λ_ ps h=>⟨ps,h⟩,id,rfl⟩;rw[pO];rintro rfl;rw[c]at f;rcases f with z|z<;>cases z
theorem QH{f:TE}(t:∀U H Q,gk K mg m U H Q->f U H Q):∀D c H,iq K mg (b1 i m) D c H->ve f (n3 i) D c H:=by
 rintro D c H ⟨O,U,S,u,x,st,h,q⟩;obtain⟨r,j,n,h⟩:=M.inv h;obtain⟨d,w,p,h⟩:=M.inv h;cases h;refine t c H _ ⟨O,U,S,r,j,st,n,λk v g g1 l s nn=>?_⟩;obtain⟨cN,rfl⟩:=qm s nn p;exact q (cm H k) _ g g1.cm.aZ ((l.cm H).set ⟨v,rfl,cN⟩) (fg.set λxs z=>by cases z)
theorem PJ{d:TE}(n:∀U H Q,gk K mg m U H Q->d U H Q):∀D c H,iq K mg (jJ i m) D c H->ve d (n3 i) D c H:=by
 rintro D c H ⟨O,U,S,w,x,st,h,q⟩;obtain⟨r,s,j,h⟩:=M.inv h;split at h
 .rename_i xs
  cases h;refine n c H _ ⟨O,U,S,_,_,st,j,λu v f g1 g k nn=>?_⟩;obtain⟨a,y,rfl,l,t,p⟩:=k;exact q _ _ f (g1.aZ.trans (ez.ey t)) (g.own t l p) (fg.set λxs z=>by cases z)
 .cases h
end
@[simp] def Kb(i:Nat)(f:List D->List R->M (R×List D))(a:cW)(U:aJ):M (R×aJ):=do
 let rs <-a U
 match U[i]? with
 |some (.fc p xs)=>do
  let(r,ys) <-f xs rs
  pure (r,U.set i (.fc p ys))
 |_=>bad
@[simp] def ja(i:Nat)(f:List D->List R->M (R×List D))(a:cW)(U:aJ):M fe:=do
 let(_,U') <-Kb i f a U
 pure (.bl U')
def hY(xs:List D):List R->M (R×List D)
 |[r]=>do
  let d <-r.dat
  h6 (xs.length<akg)
  pure (.v .ay,xs++[d])
 |_=>bad
def ym(xs:List D):List R->M (R×List D)
 |[r]=>match r.own with
  |some a=>do
   h6 (xs.length+a.length<=akg)
   pure (.v .ay,xs++a)
  |none=>bad
 |_=>bad
section
variable{K:aP}{mg:ba}{O:a3}{H:au}{l:Addr}{zs ws:List V}
mutual
theorem Rep.fw(c:O l≠.free)(b:H l=some (.l zs)):∀{d:D}{v:V},Rep K mg O H d v->Rep K mg O (upd H l (.l ws)) d v
 |.ay,_,h=>h|.az _,_,h=>h|.int _,_,h=>h|.str _,_,h=>h|.t _,_,h=>by
  obtain⟨a,e,q,t,r⟩:=h;refine⟨a,e,q,?_,bc.fw c b r⟩;rcases t with(t|⟨o,t⟩)|t
  .exact .inl (.inl (by rw[du (FR t b (by intro z;cases z))];exact t))
  .exact .inl (.inr ⟨o,by rw[du (FR t b (by intro z;cases z))];exact t⟩)
  .exact .inr t
 |.l _,_,h=>by
  obtain⟨a,e,q,t,r⟩:=h;exact⟨a,e,q,⟨by rw[du (by rintro rfl;exact c t.2)];exact t.1,t.2⟩,bc.fw c b r⟩
 |.ref _,_,h=>h|.fn _,_,h=>h|.ty _,_,h=>h
theorem bc.fw(c:O l≠.free)(d:H l=some (.l zs)):∀{ds:List D}{e:List V},bc K mg O H ds e->bc K mg O (upd H l (.l ws)) ds e
 |[],_,h=>h| _::_,_,h=>by obtain⟨x,r,q,a,b⟩:=h;exact⟨x,r,q,Rep.fw c d a,bc.fw c d b⟩
end
def iu.fw(b:O l≠.free)(c:O l≠.out)(h:iu K O H a ys):iu K O (upd H l (.l ws)) a ys:=by
 rcases h with⟨h,f⟩|h
 .have ne:a≠l:=by rintro rfl;exact f.elim b c
  refine .inl ⟨?_,f⟩;rcases h with h|⟨o,h⟩
  .exact .inl (by rw[du ne];exact h)
  .exact .inr ⟨o,by rw[du ne];exact h⟩
 .exact .inr h
def j8.fw(b:O l≠.free)(f:O l≠.out)(hw:O l≠w)(c:H l=some (.l zs)):∀{s:Slot}{u:Option V},j8 K mg O H w s u->j8 K mg O (upd H l (.l ws)) w s u
 |.e,_,_=>trivial| .v _,_,h=>by obtain⟨v,q,r⟩:=h;exact⟨v,q,r.fw b c⟩
 |.fc _ _,_,h=>by obtain⟨a,d,q,o,t,r⟩:=h;exact⟨a,d,q,o,by rw[du (by rintro rfl;exact hw o)];exact t,r.fw b c⟩
 |.cf _,_,h=>by obtain⟨a,d,q,t,r⟩:=h;exact⟨a,d,q,t.fw b f,r.fw b c⟩
def c2.fw(d:c2 O H)(c:H l=some (.l zs)):c2 O (upd H l (.l ws)):=⟨λa b=>by
 by_cases e:a=l
 .rw[e,dU];intro z;cases z
 .rw[du e];exact d.has a b,d.tabs.l c _,d.rh⟩
def ez.fw(c:O l≠.free)(d:O l≠.out)(a:H l=some (.l zs)):ez O O H (upd H l (.l ws)):=by
 refine⟨λb o e h _=>?_,λ_ _ _=>rfl,λb h=>?_,λb ps e=>⟨ps,by rw[du (by rintro rfl;rw[a]at e;cases e)];exact e⟩,λg=>g.l a _,rfl⟩
 .rw[du]
  .exact e
  .rintro rfl
   rcases h with h|h|⟨xs,h⟩|⟨_,_,h⟩
   .exact c h
   .exact d h
   .subst h;rw[e]at a;cases a
   .subst h;rw[e]at a;cases a
 .by_cases e:b=l
  .rw[e,dU];intro z;cases z
  .rw[du e];exact h
def fC.fw(s:fC K mg O H S)(c:c2 O H)(b:O l≠.free)(f:O l≠.out)(d:H l=some (.l zs)):fC K mg O (upd H l (.l ws)) S:=
 s.all (λ_ _ z=>Rep.fw b d z) rfl λa h u e _=>by rw[du (by rintro rfl;exact f (c.rh.2 _ h))];exact e
def cU.fw{U:aJ}{c:St}(st:cU K mg O U S c H)(k:U[i]? = some (.fc p xs))(g:c[i]?.join=some (.ref l))(d:O l=.loc i)(a:H l=some (.l zs))(f:bc K mg O H ys ws) :
  cU K mg O (U.set i (.fc p ys)) S c (upd H l (.l ws)):=by
 have ne:∀w:Own,w≠.loc i->O l≠w:=λw hw z=>hw (z.symm.trans d)
 refine⟨st.cw.fw a,by rw[ali];exact st.len,λj t e=>?_,st.gM.fw st.cw (ne _ (by intro z;cases z)) (ne _ (by intro z;cases z)) a⟩
 by_cases b:i=j
 .subst b
  have h:i<U.length:=(ake.mp k).1;rw[ak7 h]at e;cases e;exact⟨l,ws,g,d,dU,f.fw (ne _ (by intro z;cases z)) a⟩
 .rw[aku b]at e
  exact(st.loc j t e).fw (ne _ (by intro z;cases z)) (ne _ (by intro z;cases z)) (ne _ (by intro z;cases z;exact b rfl)) a
end
def vC(K:aP)(mg:ba)(r:V->List V->au->c_->Prop)(f:List D->List R->M (R×List D)):Prop:=
 ∀O H H₀ l xs zs rs vs S o C ys (Q:c_),H l=some (.l zs)->bc K mg O H xs zs->gS K mg O H rs vs->k8 H₀ rs vs->(f xs rs).run S=.ok (C,ys) o->
  (∀v a,S=o->bc K mg (cm H₀ O) H ys a->(∃d,C=.v d/\Rep K mg (cm H₀ O) H d v)->Q v (upd H l (.l a)))->r (.ref l) vs H Q
section
variable{K:aP}{mg:ba}
def OQ:vC K mg P9 hY:=λO H H₀ l xs k rs vs S p s t Q j a b e h q=>by
 unfold hY at h;split at h
 .rename_i r
  obtain⟨v,rfl,i⟩:=kR b;obtain⟨d,m,f,h⟩:=M.inv h;obtain⟨_,n,g,h⟩:=M.inv h;obtain⟨c,rfl⟩:=rF g;obtain⟨cN,rfl⟩:=qm (H₀:=H₀) i e.1 f;cases h;exact⟨l,k,v,rfl,rfl,j,by rw[a.len];exact c,q .ay _ rfl ((a.dz (jg _ _)).append (.one cN)) ⟨.ay,rfl,rfl⟩⟩
 .cases h
def aaL:vC K mg P' ym:=λO H H₀ l xs n rs vs S t u w Q k a f p h q=>by
 unfold ym at h;split at h
 .rename_i r
  obtain⟨v,rfl,i⟩:=kR f;split at h
  .rename_i us e
   obtain⟨_,s,g,h⟩:=M.inv h;obtain⟨c,rfl⟩:=rF g;cases h;obtain⟨b,m,rfl,j,d⟩:=R.Gg i e;exact⟨l,b,n,m,rfl,rfl,k,j,by rw[a.len,d.len];exact c,q .ay _ rfl ((a.append d).dz (jg _ _)) ⟨.ay,rfl,rfl⟩⟩
  .cases h
 .cases h
variable{f:List D->List R->M (R×List D)}{r:V->List V->au->c_->Prop}{ms:cW}{i:Nat}
def aa7(V:vC K mg r f){O:a3}{U U':aJ}{S t:bL}{b:St}{H:au}{u:R}{Q:c_}(st:cU K mg O U S b H)(h:(Kb i f ms U).run S=.ok (u,U') t)
  (q:∀l v g,ez O l H g->cU K mg l U' t b g->fg U U' b b->(∃d,u=.v d/\Rep K mg l g d v)->Q v g) :
  ∃v,b[i]? = some (some v)/\BB K "list" v H/\pJ K mg ms b H λvs E=>r v vs E Q:=by
 refine bR λj=>?_
 obtain⟨rs,m,J,h⟩:=M.inv h
 cases e:U[i]? with
 |none=>refine j ?_;rw[e]at h;cases h
 |some s=>
  rw[e]at h
  cases s with
  |e=>cases h
  |v _=>cases h
  |cf _=>cases h
  |fc p xs=>
   obtain⟨⟨o,X⟩,Z,L,h⟩:=M.inv h;cases h;obtain⟨a,Y,aq,aC,cP,e_⟩:=st.loc i _ e;have x:b[i]? = some (some (.ref a)):=by
    cases w:b[i]? with
    |none=>rw[w]at aq;cases aq
    |some y=>rw[w]at aq;exact congrArg some aq
   refine j ⟨.ref a,x,.inl ⟨rfl,_,dy.of cP⟩,O,U,S,rs,m,st,J,λc vs B g1 F P nn=>?_⟩;have k:=g1.same.at' _ _ cP;have n:H a≠none:=by rw[cP];intro z;cases z
   have D:c a=.loc i:=(g1.own a n).trans aC;refine V c B H a xs Y rs vs m _ _ X Q k (e_.go g1) P nn L λv C N W G=>?_
   refine bR λj=>?_
   obtain⟨d,T,cN⟩:=G;subst N;have A:cm H c a=.loc i:=by rw[zR n];exact D
   have no:∀w:Own,w≠.loc i->cm H c a≠w:=λw hw z=>hw (z.symm.trans A)
   refine j ?_;refine q (cm H c) v _ (g1.cm.aZ.trans (ez.fw (no _ (by intro z;cases z)) (no _ (by intro z;cases z)) k)) ((F.cm H).fw e (by rw[x];rfl) A k W) ?_ ⟨d,T,cN.fw (no _ (by intro z;cases z)) k⟩;exact fg.put e (λxs z=>by cases z) (λ_ z=>by cases z;exact⟨xs,rfl⟩)
end
def yQ(b:iO)(O:a3)(H:au)(c:List V):Prop:=∀e a,ez O e H a->∀i,(i<c.length->b.go i a/\∀x d,b.pT i a x d->d=a/\c[i]? = some x)/\(c.length<=i->b.stop i a)
abbrev fB:=aJ->M (List D)
def yi(K:aP)(mg:ba)(m:fB):TI:=λc H R=>qb K mg m c H λO U f xs=>∀b a d e,Go O b H a->cU K mg b U f c a->yP d a e->bc K mg b a xs e->R d a
def yj(K:aP)(mg:ba)(m:fB):TI:=λc H R=>qb K mg m c H λO U f xs=>∀b a d e,Go O b H a->cU K mg b U f c a->yQ d b a e->bc K mg b a xs e->R d a
abbrev HG(X:aN)(b a:Expr)(m:fB):Prop:=j5 X b a (yi X.K X.mg m)
abbrev R'(X:aN)(b a:Expr)(m:fB):Prop:=j5 X b a (yj X.K X.mg m)
def ni{t t':TI}(h:j5 X o e t)(i:∀U H Q,t' U H Q->t U H Q):j5 X o e t':=λa s U H Q I q=>h a s U H Q I (i _ _ _ q)
def ez.yd{O b:a3}(g:ez O b H H')(h:dQ K H a ys):dQ K H' a ys:=by
 rcases h with(h|⟨o,h⟩)|h
 .exact .inl (.inl (g.cells _ _ h (.inr (.inr (.inl ⟨_,rfl⟩)))))
 .exact .inl (.inr ⟨o,g.cells _ _ h (.inr (.inr (.inr ⟨_,_,rfl⟩)))⟩)
 .exact .inr h
def ez.OM{O b:a3}(g:ez O b H H')(h:iu K O H a ys):iu K b H' a ys:=by
 rcases h with⟨h,f⟩|h
 .refine .inl ⟨?_,by rw[g.own a (gq.some h) f];exact f⟩
  rcases h with h|⟨o,h⟩
  .exact .inl (g.cells _ _ h (f.elim .inl λz=>.inr (.inl z)))
  .exact .inr ⟨o,g.cells _ _ h (f.elim .inl λz=>.inr (.inl z))⟩
 .exact .inr h
@[simp] def ig(m:bj)(U:aJ):M (List D):=do
 let r <-m U
 match r with
 |.v (.t xs)=>pure xs|_=>bad
@[simp] def Ew(m:bj)(U:aJ):M (List D):=do
 let r <-m U
 match r with
 |.v (.l xs)=>pure xs|.fr xs=>pure xs|.cf xs=>pure xs|_=>bad
@[simp] def jO(m:bj)(U:aJ):M (List D):=do
 let r <-m U
 match r.fv with
 |some xs=>pure xs|none=>bad
def oo(a:Int)(n:Nat):List D:=(akV n).map λi=>D.int (a+(i:Nat))
@[simp] def m3(m:cW)(U:aJ):M (List D):=do
 let rs <-m U
 match rs with
 |[.v (.int j)]=>if -(2 ^ 62)<=j/\j<2 ^ 62 then pure (oo 0 j.toNat)else bad|_=>bad
def Qv{O:a3}(b:Int)(n:Nat):bc K mg O H (oo b n) (oq b n):=by
 unfold oo oq
 induction(akV n)with
 |nil=>rfl|cons a r c=>exact⟨.int (b+a),_,rfl,rfl,c⟩
def Zu{O:a3}(a:Int)(n:Nat):yQ (p9 a n) O H (oq a n):=λc b _ i=>EG a n b (eZ.refl _) i
section
variable{a:Expr}{ms:cW}
def Qt:(∀b H R,yj K mg (m3 ms) b H R->Ex (pJ K mg ms) b H R)/\(∀b H R,yi K mg (m3 ms) b H R->Ex (pJ K mg ms) b H R):=by
 constructor<;>
 .rintro b H R ⟨O,U,S,xs,m,st,h,q⟩
  obtain⟨rs,l,g,h⟩:=M.inv h;split at h
  .rename_i j
   by_cases c:-(2 ^ 62)<=j/\j<2 ^ 62
   .rw[if_pos c]at h
    cases h;refine⟨O,U,S,_,_,st,g,λe vs d g1 f k nn=>?_⟩;obtain⟨v,rfl,i⟩:=kR k;cases(show v=.int j from i);exact⟨j,rfl,c.1,c.2,q e d (p9 0 j.toNat) (oq 0 j.toNat) g1 f (by first|exact Zu _ _|exact EG _ _) (Qv _ _)⟩
   .rw[if_neg c]at h;cases h
  .cases h
def EF{K:aP}{O:a3}{H:au}{a:Addr}{xs:List V}(h:iu K O H a xs):yQ (k4 K a) O H xs:=λc b g i=>EE (g.OM h).dO b (eZ.refl _) i
def Zy{K:aP}{O:a3}{H:au}{a:Addr}{xs:List V}(h:dQ K H a xs):yQ (tA K a) O H xs:=λc b g i=>NV (g.yd h) b (eZ.refl _) i
end
def hv(b:D->aY):List D->aY
 |[]=>λU=>pure (.bl U)
 |d::ds=>λU=>do
  let a <-b d U
  match a with
  |.bl U'=>hv b ds U'|.cM U'=>hv b ds U'|.bk U'=>pure (.bl U')|.cp r=>pure (.cp r)
@[simp] def oT(i:Nat)(it:fB)(b:aY)(U:aJ):M fe:=do
 let ds <-it U
 hv (λd U=>b (U.set i (.v d))) ds U
def cU.val{O:a3}{U:aJ}{a:St}{v:V}(st:cU K mg O U S a H)(h:Rep K mg O H d v):cU K mg O (U.set i (.v d)) S (a.set i (some v)) H:=st.set ⟨v,rfl,h⟩
def bc.aZ{O f:a3}(g:ez O f H H'):∀{ds:List D}{c:List V},bc K mg O H ds c->bc K mg f H' ds c:=by
 have rep:∀(d:D)(v:V),Rep K mg O H d v->Rep K mg f H' d v:=by
  intro d
  induction d using D.rec (motive_2:=λds=>∀c,bc K mg O H ds c->bc K mg f H' ds c)with
  |ay=>exact λv h=>h
  |az _=>exact λv h=>h
  |int _=>exact λv h=>h
  |str _=>exact λv h=>h
  |fn _=>exact λv h=>h
  |ty _=>exact λv h=>h
  |ref n=>exact λv ⟨a,q,l⟩=>⟨a,q,by rw[g.bQ];exact l⟩
  |t xs e=>exact λv ⟨a,c,q,l,r⟩=>⟨a,c,q,g.yd l,e c r⟩
  |l xs e=>exact λv ⟨a,c,q,l,r⟩=>⟨a,c,q,⟨g.cells _ _ l.1 (.inl l.2),by rw[g.own a (by rw[l.1];intro z;cases z) (.inl l.2)];exact l.2⟩,e c r⟩
  |nil=>assumption|cons x xs i j=>
   rename_i k hz;obtain⟨y,r,q,a,b⟩:=hz;exact⟨y,r,q,i y a,j r b⟩
 intro ds
 induction ds with
 |nil=>exact λh=>h
 |cons x xs e=>rintro c ⟨y,r,q,a,b⟩;exact⟨y,r,q,rep x y a,e b⟩
section
variable{it:fB}{i:Nat}{b:aY}{x:Str}
def bc.get'{O:a3}{ds:List D}{a:List V}{k:Nat}(h:bc K mg O H ds a)(e:ds.drop k=d::o):∃y,a[k]? = some y/\Rep K mg O H d y/\ds.drop (k+1)=o:=by
 have aq:ds[k]? = some d:=by
  have:=congrArg (·[0]?) e;simpa using this
 obtain⟨y,q,r⟩:=h.get aq;refine⟨y,q,r,?_⟩;simpa using congrArg (aoy 1) e
theorem Me{G:jG}{B:aS.D->aY}(qy:∀O U S l H d y f g Q,cU K mg O U S l H->Rep K mg O H d y->(B d U).run S=.ok f g->(∀u E,cU K mg O u S E H->fg U u l E->(b u).run S=.ok f g->Q E H)->G y l H Q) :
  ∀D l H,iq K mg (λU=>do
   let ds <-it U
   hv B ds U) D l H->sY (yj K mg it) G (iq K mg b) D l H:=by
 rintro D l H ⟨O,U,S,R,T,st,h,q⟩;obtain⟨ds,P,af,h⟩:=M.inv h;refine⟨O,U,S,ds,P,st,af,λF N b' L g1 C w o=>?_⟩;refine⟨λk m z t=>m=L.length-k/\k<=L.length/\∃n U' A,cU K mg n U' A z t/\ez F n N t/\fg U U' l z/\(hv B (ds.drop k) U').run A=.ok R T,
  ⟨_,rfl,akG _,F,U,P,C,ez.refl _ _,fg.refl _ _,h⟩,?_⟩
 rintro k m z t ⟨rfl,aw,n,U',A,V,g',kp,h⟩
 cases e:ds.drop k with
 |nil=>
  have hl:L.length<=k:=by
   have:=congrArg alF e;rw[alp,alw]at this;rw[o.len];omega
  rw[e]at h;cases h;exact .inl ⟨(w n t g' k).2 hl,q n z t (g1.aZ.trans g') V kp⟩
 |cons d nT=>
  obtain⟨y,X,bI,W⟩:=(bc.aZ g' o).get' e;have Z:=(ake.mp X).1;obtain⟨go,kq⟩:=(w n t g' k).1 Z;rw[e]at h;obtain⟨Y,g,ah,h⟩:=M.inv h;refine .inr ⟨go,λs c=>∃a j g,cU K mg a j g s c/\ez F a N c/\fg U j l s/\(hv B (ds.drop (k+1)) j).run g=.ok R T,?_,λx c jA=>?_⟩
  .rintro s c ⟨a,j,g,a1,a2,gU,jI⟩
   exact⟨_,by omega,rfl,Z,a,j,g,a1,a2,gU,jI⟩
  .obtain⟨rfl,ex⟩:=kq x c jA
   rw[X]at ex;cases ex;refine qy _ _ _ _ _ _ _ _ _ _ V bI ah λu E nr J I=>?_
   refine⟨n,u,A,Y,g,nr,I,?_⟩
   cases Y with
   |bl j=>exact λa s c p cJ k2=>⟨a,j,g,cJ,g'.trans p,kp.trans (J.trans k2),by rw[W];exact h⟩
   |cM j=>exact λa s c p cJ k2=>⟨a,j,g,cJ,g'.trans p,kp.trans (J.trans k2),by rw[W];exact h⟩
   |bk j=>cases h;exact λa s c p cJ k2=>q a s c (g1.aZ.trans (g'.trans p)) cJ (kp.trans (J.trans k2))
   |cp r=>cases h;exact λa v c p dJ aC cg=>q a v c (g1.aZ.trans (g'.trans p)) dJ aC cg
def VK:∀D a H,iq K mg (oT i it b) D a H->sY (yj K mg it) (n3 i) (iq K mg b) D a H:=
 Me λ_ _ _ _ _ _ _ _ _ _ st c h k=>k _ _ (st.val c) (fg.set λxs z=>by cases z) h
end
def f7(t:aJ->M Bool)(el:bj)(U:aJ):List D->M (List D)
 |[]=>pure []|d::ds=>do
  let b <-t (U.set 0 (.v d))
  if b=true then do
   let r <-el (U.set 0 (.v d))
   let x <-r.dat
   let xs <-f7 t el U ds
   pure (x::xs)
  else f7 t el U ds
def tP:Option Slot->Slot
 |some (.v d)=>.v d|some (.fc _ xs)=>.cf xs|some (.cf xs)=>.cf xs|_=>.e
def kC(n:Nat)(a:List Nat)(U:aJ):aJ:=akA n .e++a.map λk=>tP U[k]?
@[simp] def e9(n:Nat)(a:List Nat)(it:fB)(t:aJ->M Bool)(el:bj)(U:aJ):M R:=do
 let ds <-it U
 h6 (ds.length<akg)
 let xs <-f7 t el (kC n a U) ds
 pure (.fr xs)
def gD:aJ->M Bool:=λ_=>pure true
abbrev B5(X:aN)(a:List Expr)(t:aJ->M Bool):Prop:=tD X a (pK X.K X.mg t)
def Own.e0:Own->Own
 |.loc _=>.out|.ey=>.out|o=>o
def e0(O:a3):a3:=⟨λb=>(O b).e0,O.bQ⟩
def v3(O:a3)(b:Addr):e0 O b=(O b).e0:=rfl
def J1{O:a3}(d:c2 O H):j7 (e0 O):=⟨d.rh.1,λa h=>by rw[v3,d.rh.2 a h];rfl⟩
def qi{O:a3}:e0 O b=.free↔O b=.free:=by rw[v3];cases O b<;>simp[Own.e0]
def nR(O:a3)(b:Addr):e0 O b=.free\/e0 O b=.out:=by rw[v3];cases O b<;>simp[Own.e0]
def la(O:a3):nG O (e0 O):=⟨λ_ h=>qi.mpr h,rfl⟩
def iu.e0{O:a3}(h:iu K O H a ys):iu K (e0 O) H a ys:=by
 rcases h with⟨h,f⟩|h
 .refine .inl ⟨h,?_⟩
  rcases f with f|f
  .exact .inl (qi.mpr f)
  .exact .inr (by rw[v3,f];rfl)
 .exact .inr h
def cU.e0{O:a3}(st:cU K mg O U S ao H)(n:Nat)(b:List Nat):cU K mg (e0 O) (kC n b U) S (h7 n b ao) H:=by
 refine⟨⟨λa j=>st.cw.has a λz=>j (qi.mpr z),st.cw.tabs,J1 st.cw⟩,?_,λi s e=>?_,st.gM.all (λ_ _ z=>Rep.dz (la O) z) rfl λ_ _ _ l _=>l⟩
 .unfold kC h7
  rw[akh,akh,alk,alk,akc,akc]
 .unfold kC at e
  unfold h7
  by_cases f:i<n
  .rw[akE (by simpa using f),alU,if_pos f]at e
   cases e;exact trivial
  .rw[aky (by simpa using f),alk,akC]at e
   rw[aky (by simpa using f),alk,akC]
   cases I:b[i-n]? with
   |none=>rw[I]at e;cases e
   |some k=>
    rw[I]at e;have c:tP U[k]? = s:=akF e
    cases C:U[k]? with
    |none=>rw[C]at c;subst c;exact trivial|some h=>
     rw[C]at c;have l:=st.loc k h C
     cases h with
     |e=>subst c;exact trivial|v d=>subst c;obtain⟨v,q,r⟩:=l;exact⟨v,q,r.dz (la O)⟩
     |cf xs=>subst c;obtain⟨a,g,q,l,r⟩:=l;exact⟨a,g,q,l.e0,r.dz (la O)⟩
     |fc p xs=>subst c;obtain⟨a,g,q,o,l,r⟩:=l;exact⟨a,g,q,.inl ⟨.inl l,.inr (by rw[v3,o];rfl)⟩,r.dz (la O)⟩
def cU.afl{O:a3}{H:au}(st:cU K mg O U S o H)(b:O l=.ey)(a:H l=some (.l zs)):cU K mg O U S o (upd H l (.l ws)):=by
 have ne:∀w:Own,w≠.ey->O l≠w:=λw hw z=>hw (z.symm.trans b)
 exact⟨st.cw.fw a,st.len,λj t e=>(st.loc j t e).fw (ne _ (by intro z;cases z)) (ne _ (by intro z;cases z)) (ne _ (by intro z;cases z)) a,st.gM.fw st.cw (ne _ (by intro z;cases z)) (ne _ (by intro z;cases z)) a⟩
section
variable{K:aP}{mg:ba}{n:Nat}{cap:List Nat}{it:fB}{t:aJ->M Bool}{el:bj}
def l5{α:Type}(put:α->Option aJ)(t:aJ->M Bool)(el:bj):List α->M (List D)
 |[]=>pure []|d::ds=>match put d with
  |none=>bad|some U=>do
   let b <-t U
   if b=true then do
    let r <-el U
    let x <-r.dat
    let xs <-l5 put t el ds
    pure (x::xs)
   else l5 put t el ds
omit [aB.a4]in
theorem N3(U:aJ):∀ds:List D,f7 t el U ds=l5 (λd=>some (U.set 0 (.v d))) t el ds
 |[]=>rfl| d::ds=>by unfold f7 l5;rw[N3 U ds]
inductive CompI{α:Type}(K:aP)(mg:ba)(n:Nat)(cap:List Nat)(L:Nat->M (List aS.D))(aM:a3)(U:aJ)(S1:bL)(ao:St)(H1:au)(A:Addr)(xs:List aS.D)(k:Nat)(zs:List V)(H':au):Prop
 |mk (ai:a3) (acc yB:List aS.D) (b3:cU K mg ai (kC n cap U) S1 (h7 n cap ao) H') (g':Go (e0 aM) ai H1 H') (Bq:ai A=.ey) (en:H' A=some (.l zs)) (hz:zs.length<=k)
   (iK:bc K mg ai H' acc zs) (h:(L k).run S1=.ok yB S1) (ex:acc++yB=xs)
def CZ{α:Type}{put:α->Option aJ}{c:List α}{j:a3}{U:aJ}{N P:bL}{s:St}{g:au}{S:iO}{G:jG}{xs:List aS.D}{Q:c_}(w:cU K mg j U N s g)(hlen:c.length<akg)
  (stop:∀f,eZ g f->S.stop c.length f)
  (step:∀k d u i f,c[k]? = some d->put d=some u->Go (e0 j) i g f->cU K mg i (kC n cap U) N (h7 n cap s) f->S.go k f/\∀x O (R:St->au->Prop),S.pT k f x O->
   (∀V T,Go i i f T->cU K mg i u N V T->nF (h7 n cap s) V->R V T)->G x (h7 n cap s) O R)
  (bY:(l5 put t el c).run N=.ok xs P) (q:∀i v f,Go j i g f->cU K mg i U P s f->eM K mg i f (.fr xs) v->h2 g (.fr xs) v->Q v f) :
  ∀D,g D=none->C1 S (h7 n cap s) G (pK K mg t) (gk K mg el) D g Q:=by
 intro D J;obtain rfl:=(l5 put t el c).ep _ _ _ bY;have i3:cU K mg (hZ (e0 j) D .ey) (kC n cap U) P (h7 n cap s) (upd g D (.l [])):=(w.e0 n cap).new J;refine⟨λk m zs f=>m=c.length-k/\k<=c.length/\CompI (α:=α) K mg n cap (λk=>l5 put t el (c.drop k)) j U P s g D xs k zs f,
  ⟨_,rfl,akG _,_,[],xs,i3,Go.new J,pP,dU,akf _,rfl,bY,rfl⟩,?_⟩
 rintro k m zs f ⟨rfl,aw,i,E,yB,F,g',X,H,hz,I,h,ex⟩
 cases e:c.drop k with
 |nil=>
  obtain rfl:k=c.length:=by
   have:=congrArg alF e;rw[alp,alw]at this;omega
  rw[e]at h;cases h;rw[ak5]at ex;subst ex;refine .inl ⟨stop f g'.same,?_⟩
  let B:a3:=⟨λb=>match g b with|none=>i b|some _=>j b,j.bQ⟩
  have o:∀b,g b≠none->B b=j b:=λb p=>by
   show(match g b with|none=>i b|some _=>j b)=j b
   cases e:g b with
   |none=>exact absurd e p|some _=>rfl
  have Z:∀b,g b=none->B b=i b:=λb p=>by
   show(match g b with|none=>i b|some _=>j b)=i b;rw[p]
  have dz:nG i B:=⟨λb p=>by
    by_cases y:g b=none
    .rw[Z b y];exact p
    .rw[o b y];exact qi.mp ((g'.own b y).symm.trans p),g'.bQ.symm⟩
  have go:Go j B g f:=⟨g'.same,o,rfl⟩;have cw:c2 B f:=⟨λb p=>by
   by_cases y:g b=none
   .rw[Z b y]at p;exact F.cw.has b p
   .exact g'.same.some y,F.cw.tabs,w.cw.rh.1,λb m=>(o b (w.cw.has b (by rw[w.cw.rh.2 b m];intro z;cases z))).trans (w.cw.rh.2 b m)⟩
  refine q B (.ref D) f go (w.go go cw) ⟨D,zs,rfl,H,(Z D J).trans X,I.dz dz⟩ λa d1=>?_
  cases d1;exact J
 |cons d nT=>
  have gw:k<c.length:=by
   have:=congrArg alF e;rw[alp,akx]at this;omega
  have d2:c[k]? = some d:=by
   have:=congrArg (·[0]?) e;simpa using this
  have ct:c.drop (k+1)=nT:=by
   simpa using congrArg (aoy 1) e
  rw[e]at h;unfold l5 at h
  cases cD:put d with
  |none=>rw[cD]at h;cases h
  |some u=>
  rw[cD]at h;obtain⟨b,aT,ah,h⟩:=M.inv h;obtain rfl:=(t u).ep _ _ _ ah;obtain⟨go,kq⟩:=step k d u i f d2 cD g' F;refine .inr ⟨go,λx O jA=>kq x O _ jA λV T jh nr zM=>⟨zM,i,u,aT,b,aT,nr,ah,λbz jE g2 cJ=>?_⟩⟩;have A:=jh.trans g2
  cases b with
  |false=>
   exact qJ ⟨c.length-(k+1),by omega,rfl,gw,bz,E,yB,F.go A cJ.cw,g'.trans A,(A.own D (by rw[H];intro z;cases z)).trans X,A.same.at' _ _ H,by omega,I.go A,by rw[ct];exact h,ex⟩
  |true=>
   obtain⟨r,jF,dn,h⟩:=M.inv h;obtain rfl:=(el u).ep _ _ _ dn;obtain⟨x,nM,e2,h⟩:=M.inv h;obtain rfl:=r.dat.ep _ _ _ e2;obtain⟨RW,ahy,ib,h⟩:=M.inv h;cases h;refine qK ⟨bz,_,_,r,_,cJ,dn,λfO v nI g3 hW bf nn=>?_⟩;obtain⟨a',_⟩:=qm bf nn e2;have L:=A.trans g3.cm;have W:=L.same.at' _ _ H;have C:=(L.own D (by rw[H];intro z;cases z)).trans X;have Y:=g'.trans L;exact⟨W,by omega,c.length-(k+1),by omega,rfl,gw,cm jE fO,E++[x],RW,(F.go L (hW.cm jE).cw).afl C W,⟨yo J Y.same W _,Y.own,Y.bQ⟩,C,dU,
    by rw[akh,amA];omega,((I.go L).append (.one a')).fw (by rw[C];intro z;cases z) W,by rw[ct];exact ib,by rw[al9];exact ex⟩
def C0(w:0<n):∀e H Q,gk K mg (e9 n cap it t el) e H Q->vf n cap (yi K mg it) (n3 0) (pK K mg t) (gk K mg el) e H Q:=by
 rintro e H Q ⟨O,U,S,r,W,st,h,q⟩;obtain⟨ds,u,D,h⟩:=M.inv h;obtain⟨_,V,E,h⟩:=M.inv h;obtain⟨b,rfl⟩:=rF E;obtain⟨xs,Y,l,h⟩:=M.inv h;cases h;rw[N3]at l;refine⟨O,U,S,ds,u,st,D,λz T X o g1 B c p=>CZ B b (λa s=>(c a s _).2 (alE p.len)) (λk d Z i a J cD g' f=>?_) l λi v a g f G nn=>q i v a (g1.trans g) f G (nn.back g1.same)⟩;cases cD;obtain⟨y,m,F⟩:=(bc.go g' (p.dz (la z))).get J;obtain⟨go,P⟩:=(c a g'.same k).1 (ake.mp m).1;refine⟨go,λx A R N L=>?_⟩;obtain⟨rfl,ex⟩:=P x A N;rw[m]at ex;cases ex;exact L _ _ (Go.refl _ _) (f.val F) ((nF.refl _).set (by cases n with|zero=>exact absurd w (ak0 _)|succ j=>rfl))
end
section
variable{X:aN}{scope esc:Scope}{EN N:List Str}{n:Nat}{cap:List Nat}{elt iter:Expr}{ifs:List Expr}{pos d8:Pos}{x:Str}{it:fB}{t:aJ->M Bool}{el:bj}
def Ia{i:Nat}{y:Str}{py c:Pos}(S:lO esc scope EN N n cap)(m:X.N.Nodup)(l:X.N[i]? = some y)(d:X.env.scope.names.lookup y=some .local)(p:0<n)(h:HG X (.Name x d8) iter it)(e:N[0]? = some x)(b:nP X scope N x)
  (f:∀C a s H,B5 (ef X scope N C a s H) ifs t) (j:∀C a s H,j1 (ef X scope N C a s H) elt el)
  (he:X.env.scope=esc:=by rfl) (hN:X.N=EN:=by rfl) (g:X.calm=true:=by rfl) (av:jH X iter:=by intro _;rfl)
  (k:alr (.ListComp elt [⟨.Name x d8,iter,ifs,0⟩] scope pos) (some (.Name y py)) c.line X.env=pure true:=by rfl) :
  iQ X (.Assign [.Name y py] (.ListComp elt [⟨.Name x d8,iter,ifs,0⟩] scope pos) c) (ve (vf n cap (yi X.K X.mg it) (n3 0) (pK X.K X.mg t) (gk X.K X.mg el)) (n3 i)):=
 ac4 S m l d h (λC a s H=>u3 S.cS e (b C a s H).1 (.inr (b C a s H).2)) f j he hN g av k
end
abbrev bx:=List D->M R
def vB(K:aP)(mg:ba)(O:a3)(H:au):D->V->Prop
 |.l xs,v=>∃a b,v=.ref a/\dy K H a b/\bc K mg O H xs b|d,v=>Rep K mg O H d v
def mw(K:aP)(mg:ba)(O:a3)(H:au):List D->List V->Prop
 |[],ys=>ys=[]|x::xs,ys=>∃y r,ys=y::r/\vB K mg O H x y/\mw K mg O H xs r
def c5:D->Slot
 |.l xs=>.cf xs|d=>.v d
def H9{O:a3}{r:R}{v:V}(h:eM K mg O H r v):vB K mg O H r.arg v:=by
 match r,h with
 |.v (.l xs),h=>obtain⟨a,b,q,l,r⟩:=h;exact⟨a,b,q,l.dO,r⟩
 |.fr xs,h=>obtain⟨a,b,q,l,_,r⟩:=h;exact⟨a,b,q,dy.of l,r⟩
 |.cf xs,h=>obtain⟨a,b,q,l,r⟩:=h;exact⟨a,b,q,l.dO,r⟩
 |.mv xs,h=>obtain⟨a,b,q,l,r⟩:=h;exact⟨a,b,q,dy.of l,r⟩
 |.v .ay,h=>exact h|.v (.az _),h=>exact h|.v (.int _),h=>exact h|.v (.str _),h=>exact h|.v (.t _),h=>exact h|.v (.ref _),h=>exact h|.v (.fn _),h=>exact h|.v (.ty _),h=>exact h
theorem Cs{O:a3}:∀{rs:List R}{vs:List V},gS K mg O H rs vs->mw K mg O H (rs.map R.arg) vs
 |[],_,h=>h| _::_,_,h=>by obtain⟨y,r,q,a,b⟩:=h;exact⟨y,r,q,H9 a,Cs b⟩
theorem mw.len{O:a3}:∀{ds:List D}{vs:List V},mw K mg O H ds vs->vs.length=ds.length
 |[],_,h=>by cases h;rfl
 |_::_,_,h=>by obtain⟨x,r,rfl,_,b⟩:=h;rw[akx,akx,mw.len b]
theorem mw.get{O:a3}:∀{ds:List D}{xs:List V}{i:Nat}{d:D},mw K mg O H ds xs->ds[i]? = some d->∃x,xs[i]? = some x/\vB K mg O H d x
 |[],_,_,_,_,e=>by simp at e| _::_,_,0,d,h,e=>by obtain⟨x,r,rfl,a,_⟩:=h;cases(show some _=some d from e);exact⟨x,rfl,a⟩
 |_::ds,_,i+1,d,h,e=>by
  obtain⟨x,r,rfl,_,b⟩:=h;obtain⟨y,aq,aC⟩:=mw.get b e;exact⟨y,by simpa using aq,aC⟩
def eQ(K:aP)(mg:ba)(mf:bx):et:=λvs H Q _=>∃O ds r S,c2 O H/\fC K mg O H S/\mw K mg O H ds vs/\(mf ds).run S=.ok r S/\∀b v a,Go O b H a->c2 b a->eM K mg b a r v->h2 H r v->Q v a
@[simp] def bC(mf:bx)(a:cW)(U:aJ):M R:=do
 let rs <-a U
 mf (rs.map R.arg)
section
variable{mf:bx}{ms:cW}
def CT:∀b H Q,gk K mg (bC mf ms) b H Q->Br (eQ K mg mf) (pJ K mg ms) b H Q:=by
 rintro b H Q ⟨O,U,S,r,k,st,h,q⟩;obtain⟨rs,e,i,h⟩:=M.inv h;refine⟨O,U,S,rs,e,st,i,λf vs p g1 a l nn=>?_⟩;obtain rfl:=(mf _).ep _ _ _ h;exact⟨f,_,r,k,a.cw,a.gM,Cs l,h,λj v c g d m n=>q j v c (g1.trans g) (a.go g d) m (n.back g1.same)⟩
end
def fnOf(n N:Nat)(b:aY):bx:=λds=>if ds.length=n then do
  let a <-b (ds.map c5++akA (N-n) .e)
  match a with
  |.cp (.v d)=>pure (.v d)|.cp (.fr xs)=>pure (.fr xs)|.bl _=>pure (.v .ay)|_=>bad
 else bad
def aea{O:a3}{v:V}(h:vB K mg O H d v):j8 K mg (e0 O) H w (c5 d) (some v):=by
 have val:Rep K mg O H d v->j8 K mg (e0 O) H w (.v d) (some v):=λh=>⟨v,rfl,h.dz (la O)⟩
 match d,h,val with
 |.l xs,h,_=>
  obtain⟨a,b,rfl,l,r⟩:=h;exact⟨a,b,rfl,l.imp (λz=>⟨z,nR O a⟩) id,r.dz (la O)⟩
 |.ay,h,val=>exact val h|.az _,h,val=>exact val h|.int _,h,val=>exact val h|.str _,h,val=>exact val h|.t _,h,val=>exact val h|.ref _,h,val=>exact val h|.fn _,h,val=>exact val h|.ty _,h,val=>exact val h
omit [aB.a4]in
theorem wC{n N:Nat}{ds:List D}{r:R}(h:(fnOf n N b ds).run S=.ok r o):ds.length=n:=by
 unfold fnOf at h
 by_cases c:ds.length=n
 .exact c
 .rw[if_neg c]at h;cases h
def QS{f:D->Slot}{ps N:List Str}{O:a3}{ds:List D}{vs:List V}(b:c2 O H)(dh:fC K mg O H S)(c:vs.length=ds.length)(m:ds.length=ps.length)(av:∀(i:Nat) d,ds[i]? = some d->∃v,vs[i]? = some v/\∀w,j8 K mg (e0 O) H w (f d) (some v)):cU K mg (e0 O) (ds.map f++akA (N.length-ps.length) .e) S (aB.start N vs) H:=by
 refine⟨⟨λa h=>b.has a λz=>h (qi.mpr z),b.tabs,J1 b⟩,?_,λi s e=>?_,dh.all (λ_ _ z=>Rep.dz (la O) z) rfl λ_ _ _ l _=>l⟩
 .unfold aB.start
  rw[akh,akh,akc,akc,alk,alk,c,m]
 .by_cases g:i<ds.length
  .rw[akE (by rw[akc];exact g),akC]at e
   cases o:ds[i]? with
   |none=>rw[o]at e;cases e
   |some d=>
    rw[o]at e;cases e;obtain⟨v,k,j⟩:=av i d o;unfold aB.start;rw[akE (by rw[akc,c];exact g),akC,k];exact j _
  .rw[aky (by rw[akc];omega),alU]at e
   split at e
   .cases e;exact trivial
   .cases e
def G5{ps N:List Str}{O:a3}{ds:List D}(b:c2 O H)(dh:fC K mg O H S)(a:mw K mg O H ds vs)(c:ds.length=ps.length):cU K mg (e0 O) (ds.map c5++akA (N.length-ps.length) .e) S (aB.start N vs) H:=
 QS b dh a.len c λ_ _ e=>(a.get e).imp λ_ h=>⟨h.1,λ_=>aea h.2⟩
def yN:fe->R->Prop
 |.bl _,r=>r=.v .ay|.cp (.v d),r=>r=.v d|.cp (.fr xs),r=>r=.fr xs|_,_=>False
def J6{D:aY}{Q:c_}{O:a3}{r:R}(u:c2 O H)(E:cU K mg (e0 O) U S I H)(F:(D U).run S=.ok C S1)(h:yN C r)(q:∀f v c,Go O f H c->c2 f c->eM K mg f c r v->h2 H r v->Q v c):iq K mg D { bl:=fun _ c=>Q .ay c,cp:=Q } I H:=by
 have B:∀b,H b≠none->e0 O b=.free\/e0 O b=.out:=λb _=>nR O b
 have back:∀{f:a3}{c:au},ez (e0 O) f H c->c2 f c->∃k:a3,Go O k H c/\c2 k c/\nG f k/\∀b,(f b=.ey\/∃i,f b=.loc i)->H b=none/\k b=.ey:=λ{f c} g d=>by
  refine⟨⟨λb=>match H b with|some _=>O b|none=>(match f b with|.loc _=>.ey|o=>o),O.bQ⟩,⟨⟨λb o e n=>g.cells b o e ((B b (by rw[e];intro z;cases z)).elim .inl λz=>.inr (.inl z)) n,g.dt,g.b5⟩,λb j=>?_,rfl⟩,⟨λb j=>?_,d.tabs,u.rh.1,λb m=>?_⟩,⟨λb j=>?_,g.bQ.symm⟩,λb j=>?_⟩
  .dsimp only
   cases e:H b with
   |none=>exact absurd e j|some o=>rfl
  .dsimp only at j
   cases e:H b with
   |some o=>exact g.has b (by rw[e];intro z;cases z)|none=>
    rw[e]at j;refine d.has b λz=>j ?_
    dsimp only;rw[z]
  .dsimp only
   cases e:H b with
   |some o=>exact u.rh.2 b m| none=>exact absurd e (u.has b (by rw[u.rh.2 b m];intro z;cases z))
  .dsimp only
   cases e:H b with
   |some o=>
    dsimp only;have:=(g.own b (by rw[e];intro z;cases z) (nR O b)).symm.trans j;exact qi.mp this
   |none=>
    dsimp only;rw[j]
  .have p:H b=none:=by
    cases e:H b with
    |none=>rfl|some o=>
     exfalso;have bw:=g.own b (by rw[e];intro z;cases z) (nR O b);rcases nR O b with z|z<;>rw[z]at bw<;>rcases j with w|⟨i,w⟩<;>rw[bw]at w<;>cases w
   refine⟨p,?_⟩;dsimp only;rw[p];rcases j with w|⟨i,w⟩<;>rw[w]
 refine⟨e0 O,_,S,C,S1,E,F,?_⟩
 cases C with
 |bl U'=>
  cases h;intro f V c g G _;obtain⟨k,y,x,A,_⟩:=back g G.cw;exact q k .ay c y x rfl trivial
 |bk U'=>cases h
 |cM U'=>cases h
 |cp L=>
  intro f v c g d zF s;obtain⟨k,y,x,A,N⟩:=back g d
  cases L with
  |v dd=>cases h;exact q k v c y x (Rep.dz A s) trivial
  |fr xs=>
   cases h;obtain⟨a,T,rfl,l,t,P⟩:=s;obtain⟨p,J⟩:=N a t;exact q k _ c y x ⟨a,T,rfl,l,J,P.dz A⟩ λb M=>by cases M;exact p
  |cf xs=>exact akI s|mv xs=>exact akI s
def CL{ps N:List Str}(i:eQ K mg (fnOf ps.length N.length o) vs H Q E):iq K mg o { bl:=λ_ c=>Q .ay c,cp:=Q } (aB.start N vs) H:=by
 obtain⟨O,ds,r,S,a,dh,g,h,q⟩:=i;have b:=wC h;unfold fnOf at h;rw[if_pos b]at h;obtain⟨d,j,e,h⟩:=M.inv h;exact J6 a (G5 a dh g b) e (by cases d with|cp f=>cases f<;>cases h<;>exact rfl|_=>cases h<;>exact rfl) q
def Md{P:akr}{w:World}{K:aP}{mg:ba}{base:Heap}{x qual:Str}{st:Stmt}{ps N:List Str}{k:Nat}{b:aY}{f:Addr}{c:ala}{n d:Nat}(F:ks K x qual st f c)(e:gP N ps (c1 st))(i:ps.length=n)(p:N.length=d)
  (j:∀(a:Value)(A:akw)(outer:List Env)(s:akd)(H:au)(E:e7),cL k (A.deeper (akK qual (c1 st) s.heap.objs.size f a))->
   p0 (f5 es P w K mg base N qual (c1 st) f a A outer s H E).gA (ft st) b):ff P w K mg base es (k+1) f c ps (eQ K mg (fnOf n d b)):=by
 subst i p;exact F.ok e (λvs H Q E ⟨O,ds,r,S,t,dh,l,h,q⟩=>l.len.trans (wC h)) λa A outer s H vs Q E g m=>⟨_,j a A outer s H E g,CL m⟩
def rZ{P:akr}{w:World}{K:aP}{mg:ba}{base:Heap}{x:Str}{st:Stmt}{ps N:List Str}{k:Nat}{c:aY}{n d:Nat}(fM:fM K mg x st ps)(e:gP N ps (c1 st))(g:ps.length=n)(j:N.length=d)
  (h:∀(f:Addr)(a:Value)(A:akw)(outer:List Env)(s:akd)(H:au)(E:e7),cL k (A.deeper (akK x (c1 st) s.heap.objs.size f a))->
   p0 (f5 es P w K mg base N x (c1 st) f a A outer s H E).gA (ft st) c):eg P w K mg base x ps (k+1) (eQ K mg (fnOf n d c)):=by
 obtain⟨f,i,F,b,m⟩:=fM.ex;exact⟨f,i,Md F e g j (λa=>h f a),b,F.kp,m⟩
omit [aB.a4]in
theorem LL{K:aP}{h:Heap}{mg:ba}{x:Str}{st:Stmt}{f:Addr}{ps:List Str}{i b:Option Addr}{da:Array (Option Value)}{c6 cX j pm cd cM:Value}(X:K.In h)(G:h.Ns akN mg)
  (a:am9 K akN x=some (some (.ref f))) (l:K.lookup f=some ⟨c6,i,.func (alV x x (jd st) (ft st) (c1 st) .none cX j pm b cd cM),da⟩) (c:anC K cd x=true) (k:alX K (.ref f)=true)
  (e:∀(cX d pm:Value)(b:Option Addr)(g cM:Value)(us:List Value),us.length=ps.length->amF (alV x x (jd st) (ft st) (c1 st) .none cX d pm b g cM) ⟨us,[]⟩=pure (ps.zip us)):fM K mg x st ps:=
 ⟨f,_,zS (st:=st) l c k,(zS (st:=st) l c k).binds e,anD X G a⟩
abbrev ya(K:aP):et:=λvs H Q _=>∃(a:Addr)(ns:List Int),vs=[.ref a]/\dy K H a (ns.map V.int)/\ns.length<=63/\TabsOk H/\∀b,Q (.az true) b
abbrev rn:Nat:=10715086071862673209484250490600018105614048117055336074437503883703510511249361224931983788156958581275946729175531468251871452856923140435984577574698574803934567774824230985421074605062371141877954182153046474983581941267398767559165543946077062914571196477686542167660429831652624386837205668069376
omit [aB.a4]in
theorem JT:rn=2 ^ 1000:=by decide +kernel
omit [aB.a4]in
theorem Pf{i:Int}(h:i.natAbs<rn):als i<=1000:=by
 unfold als;split
 .exact akG _
 .rename_i hz
  have:=(Nat.log2_lt (by simpa using hz)).mpr (JT▸h);omega
def oD(i j:Int):Prop:=(-(2 ^ 64)<i/\i<2 ^ 64)\/(-(2 ^ 64)<j/\j<2 ^ 64)\/(i.natAbs<rn/\j.natAbs<rn)
omit [aB.a4]in
theorem oD.ok{i j:Int}(h:oD i j):IntMulOk i j:=by
 rcases h with h|h|h
 .exact(show yI i j from .inl h).ok
 .exact(show yI i j from .inr h).ok
 .have b:=Pf h.1
  have c:=Pf h.2;have a:Builtin.Int.intTooBig (als i+als j)=false:=by
   refine decide_eq_false ?_;have:(2000:Int)<=((bitsLine:Nat):Int):=by decide
   omega
  unfold IntMulOk;rw[a];simp
instance (i j:Int):Decidable (oD i j):=by unfold oD;exact inferInstance
def abT:eL X (alP .Mult) (kQ oD λi j=>.int (i*j)):=uY λ_ _ _ _ _ _ _ a q=>PyProof.Rows.mul_int q a.ok
abbrev xE:=pD oD (· * ·)
def S_{X:aN}:eK X.K X.mg (kQ oD λi j=>.int (i*j)) xE:=tI λ_ _ h=>h
def oC(_ j:Int):Prop:=0<j/\j.natAbs<rn
instance (i j:Int):Decidable (oC i j):=by unfold oC;exact inferInstance
def abO:eL X (alP .FloorDiv) (kQ oC λi j=>.int (i / j)):=uY λi j _ _ _ _ _ a q=>by
 have b:=a.1;refine PyProof.Rows.floordiv_int (by omega) (by rw[anS i (by omega)];exact q) (.inl (PyProof.noPylong_of_log2 ?_));have:=(Nat.log2_lt (by omega)).mpr (JT▸a.2);omega
abbrev fG:=pD oC (· / ·)
def S6{X:aN}:eK X.K X.mg (kQ oC λi j=>.int (i / j)) fG:=tI λ_ _ h=>h
def oBits:R->M R
 |.v (.int i)=>pure (.v (.int (als i:Nat)))|_=>bad
structure HF(mg:ba):Prop where
 len:mg "len"=none
 range:mg "range"=none
 isinstance:mg "isinstance"=none
 max:mg "max"=none
 min:mg "min"=none
 any:mg "any"=none
 all:mg "all"=none
 NK:mg "int"=none
 T4:mg "bool"=none
 aaF:mg "list"=none
 tuple':mg "tuple"=none
 ael:mg "str"=none
 abs:mg "abs"=none
 sorted:mg "sorted"=none
 sum:mg "sum"=none
 zip:mg "zip"=none
 enumerate:mg "enumerate"=none
 reversed:mg "reversed"=none
 ajZ:mg "set"=none
omit [aB.a4]in
theorem T7:akY "abs"=some (.builtin "abs"):=by decide +kernel
end aS
namespace aS
open PySem PySem.Spec aB
@[simp] theorem ahX{α a:Type}(f:α->M a):(bad >>= f)=bad:=rfl
@[simp] theorem ah1{p:Prop}[Decidable p]:h6 p=if p then pure ()else bad:=rfl
@[simp] theorem ahK:aK d U=pure (.v d):=rfl
@[simp] theorem ajg:R.s_ (.v (.az b))=pure b:=rfl
@[simp] theorem ahJ{g:Int->Int->Int}{i j:Int}:sG g (.v (.int i)) (.v (.int j))=pure (.v (.int (g i j))):=rfl
@[simp] theorem ahI{C:Int->Int->Prop}[∀i j,Decidable (C i j)]{g:Int->Int->Int}{i j:Int}:pD C g (.v (.int i)) (.v (.int j))=if C i j then pure (.v (.int (g i j)))else bad:=rfl
@[simp] theorem ahH{g:Int->Int->Bool}{i j:Int}:sF g (.v (.int i)) (.v (.int j))=pure (.v (.az (g i j))):=rfl
@[simp] theorem ahY{i:Int}:oBits (.v (.int i))=pure (.v (.int (als i:Nat))):=rfl
@[simp] theorem aiN:cO U=pure []:=rfl
@[simp] theorem aia:R.dat (.v d)=pure d:=rfl
@[simp] theorem ah7:R.dat (.fr xs)=pure (.l xs):=rfl
@[simp] theorem ah9:jc []=pure []:=rfl
@[simp] theorem ah8{r:R}:jc (r::rs)=(do
  let d <-r.dat
  let ds <-jc rs
  pure (d::ds)):=rfl
@[simp] theorem aiJ:R.fv (.v (.l xs))=some xs:=rfl
@[simp] theorem aiH:R.fv (.fr xs)=some xs:=rfl
@[simp] theorem aiK:R.fv (.cf xs)=some xs:=rfl
@[simp] theorem aiI:R.fv (.mv xs)=some xs:=rfl
@[simp] theorem aiX:R.seq (.v (.l xs))=some xs:=rfl
@[simp] theorem aiW:R.seq (.v (.t xs))=some xs:=rfl
@[simp] theorem aiU:R.seq (.fr xs)=some xs:=rfl
@[simp] theorem aiY:R.seq (.cf xs)=some xs:=rfl
@[simp] theorem aiV:R.seq (.mv xs)=some xs:=rfl
@[simp] theorem aiT:R.own (.v (.l xs))=some xs:=rfl
@[simp] theorem aiR:R.own (.fr xs)=some xs:=rfl
@[simp] theorem aiS:R.own (.mv xs)=some xs:=rfl
@[simp] theorem ahR:R.arg (.v d)=d:=rfl
@[simp] theorem ahP:R.arg (.fr xs)=.l xs:=rfl
@[simp] theorem ahS:R.arg (.cf xs)=.l xs:=rfl
@[simp] theorem ahQ:R.arg (.mv xs)=.l xs:=rfl
@[simp] theorem aiF{x:R}:hk [x]=match x.seq with
  |some xs=>pure (.v (.int (xs.length:Nat)))|none=>bad:=rfl
@[simp] theorem aiB:R.kind (.v .ay)=some "NoneType":=rfl
@[simp] theorem aiw:R.kind (.v (.az b))=some "bool":=rfl
@[simp] theorem aiy{i:Int}:R.kind (.v (.int i))=some "int":=rfl
@[simp] theorem aiC:R.kind (.v (.str x))=some "str":=rfl
@[simp] theorem aiD:R.kind (.v (.t xs))=some "tuple":=rfl
@[simp] theorem aiz:R.kind (.v (.l xs))=some "list":=rfl
@[simp] theorem aix:R.kind (.fr xs)=some "list":=rfl
@[simp] theorem aiE:R.kind (.cf xs)=some "list":=rfl
@[simp] theorem aiA:R.kind (.mv xs)=some "list":=rfl
@[simp] theorem aih{x:R}:h_ [x,.v (.ty n)]=match x.kind with
  |some t=>if n∈["int","bool","tuple","list","str"]then pure (.v (.az (jo t n)))else bad|none=>bad:=rfl
@[simp] theorem aii{t n:String}:jo t n=(t==n||(t == "bool"&&n == "int")):=rfl
@[simp] theorem ahG{g:Int->Int->Int}{i j:Int}:wu g [.v (.int i),.v (.int j)]=pure (.v (.int (g i j))):=rfl
@[simp] theorem ahL{i:Int}:wx [.v (.int i)]=pure (.v (.int (if i<0 then -i else i))):=rfl
@[simp] theorem ahN{x:R}:Vw [x]=match x.fv.bind nS with
  |some bs=>pure (.v (.az (bs.any id)))|none=>bad:=rfl
@[simp] theorem ahM{x:R}:rM [x]=match x.fv.bind nS with
  |some bs=>pure (.v (.az (bs.all id)))|none=>bad:=rfl
theorem CK{α:Type}(p:α->Bool):∀xs:List α,nS (xs.map λx=>D.az (p x))=some (xs.map p)
 |[]=>rfl| x::xs=>by rw[akm,akm,nS,CK p xs];rfl
@[simp] theorem aie{i:Int}:t2 [.v (.int i)]=pure (.v (.int i)):=rfl
@[simp] theorem aid:t2 [.v (.az b)]=pure (.v (.int (if b then 1 else 0))):=rfl
@[simp] theorem ajh{x:R}:mL [x]=match x.seq with
  |some xs=>pure (.v (.t xs))|none=>bad:=rfl
@[simp] theorem aiu{i:Int}:fy (.v (.t xs)) (.v (.int i))=match fp xs i with
   |some d=>pure (.v d)|none=>bad:=rfl
@[simp] theorem ais{i:Int}:fy (.v (.l xs)) (.v (.int i))=match fp xs i with
   |some d=>pure (.v d)|none=>bad:=rfl
@[simp] theorem air{i:Int}:fy (.fr xs) (.v (.int i))=match fp xs i with
   |some d=>pure (.v d)|none=>bad:=rfl
@[simp] theorem aiv{i:Int}:fy (.cf xs) (.v (.int i))=match fp xs i with
   |some d=>pure (.v d)|none=>bad:=rfl
@[simp] theorem ait{i:Int}:fy (.mv xs) (.v (.int i))=match fp xs i with
   |some d=>pure (.v d)|none=>bad:=rfl
def oQ{α:Type}{xs:List α}(k:Nat){v:α}(h:xs[k]? = some v):fp xs (k:Int)=some v:=SV h
@[simp] theorem ahT{α:Type}{x:α}{xs:List α}:fp (x::xs) 0=some x:=oQ 0 rfl
@[simp] theorem ahU{α:Type}{x y:α}{xs:List α}:fp (x::y::xs) 1=some y:=oQ 1 rfl
@[simp] theorem ahV{α:Type}{x y z:α}{xs:List α}:fp (x::y::z::xs) 2=some z:=oQ 2 rfl
@[simp] theorem ahW{α:Type}{x y z w:α}{xs:List α}:fp (x::y::z::w::xs) 3=some w:=oQ 3 rfl
@[simp] theorem ahO{r:R}:hY xs [r]=(do
  let d <-r.dat
  h6 (xs.length<akg)
  pure (.v .ay,xs++[d])):=rfl
@[simp] theorem aic{r:R}:ym xs [r]=match r.own with
  |some a=>do
   h6 (xs.length+a.length<=akg)
   pure (.v .ay,xs++a)
  |none=>bad:=rfl
@[simp] theorem aiO:CP U=pure none:=rfl
@[simp] theorem ai2{l h:Option Int}:sI (.fr xs) l h=pure (.fr (cutD xs l h)):=rfl
@[simp] theorem ajd{l h:Option Int}:sI (.cf xs) l h=pure (.fr (cutD xs l h)):=rfl
@[simp] theorem ai4{l h:Option Int}:sI (.mv xs) l h=pure (.fr (cutD xs l h)):=rfl
@[simp] theorem ai3{l h:Option Int}:sI (.v (.l xs)) l h=pure (.fr (cutD xs l h)):=rfl
@[simp] theorem ajc{xs:List D}{l h:Option Int}:sI (.v (.t xs)) l h=if d_.c4 xs.length 0 l=0/\d_.c4 xs.length xs.length h=xs.length then bad else pure (.v (.t (cutD xs l h))):=rfl
@[simp] theorem ah3{a:List Nat}:kC n a U=akA n .e++a.map λk=>tP U[k]?:=rfl
@[simp] theorem ah5:tP (some (.v d))=.v d:=rfl
@[simp] theorem ah4:tP (some (.fc p xs))=.cf xs:=rfl
@[simp] theorem ah6:tP (some (.cf xs))=.cf xs:=rfl
@[simp] theorem aji:gD U=pure true:=rfl
@[simp] theorem aif{x:R}:gB x (.v .ay)=pure (.v (.az x.lu)):=rfl
@[simp] theorem aiP{x:R}:hq x (.v .ay)=pure (.v (.az (!x.lu))):=rfl
@[simp] theorem aij:R.lu (.v .ay)=true:=rfl
@[simp] theorem aim{i:Int}:R.lu (.v (.int i))=false:=rfl
@[simp] theorem aip:R.lu (.v (.t xs))=false:=rfl
@[simp] theorem ail:R.lu (.fr xs)=false:=rfl
@[simp] theorem aio:R.lu (.v (.str x))=false:=rfl
@[simp] theorem aib{i j:Int}:oEq (.v (.int i)) (.v (.int j))=pure (.v (.az (i==j))):=rfl
@[simp] theorem aiM{i j:Int}:ej (.v (.int i)) (.v (.int j))=pure (.v (.az (!(i==j)))):=rfl
def qs{x y:R}(b:x.arg.b5 64=true)(a:y.arg.b5 64=true):oEq x y=pure (.v (.az (jQ x.arg y.arg))):=if_pos ⟨b,a⟩
def wm{x y:R}(b:x.arg.b5 64=true)(a:y.arg.b5 64=true):ej x y=pure (.v (.az (!jQ x.arg y.arg))):=if_pos ⟨b,a⟩
@[simp] theorem ai8:c5 (.l xs)=.cf xs:=rfl
@[simp] theorem ai7{i:Int}:c5 (.int i)=.v (.int i):=rfl
@[simp] theorem ajb:c5 (.t xs)=.v (.t xs):=rfl
@[simp] theorem aja:c5 (.str x)=.v (.str x):=rfl
@[simp] theorem ai9:c5 .ay=.v .ay:=rfl
@[simp] theorem ai5:c5 (.az b)=.v (.az b):=rfl
@[simp] theorem Di{n N:Nat}{ds:List D}:fnOf n N b ds=if ds.length=n then(do
  let a <-b (ds.map c5++akA (N-n) .e)
  match a with
  |.cp (.v d)=>pure (.v d)|.cp (.fr xs)=>pure (.fr xs)|.bl _=>pure (.v .ay)| _=>bad)else bad:=rfl
theorem L3{b:D->aY}(I:Nat->aJ->Prop):∀(ds:List D)(k:Nat)(U:aJ),I k U->(∀i d U,ds[i]? = some d->I (k+i) U->∃U',(b d U=pure (.bl U')\/b d U=pure (.cM U'))/\I (k+i+1) U')->
  ∃U',hv b ds U=pure (.bl U')/\I (k+ds.length) U'
 |[],k,U,h0,_=>⟨U,rfl,h0⟩
 |d::ds,k,U,h0,step=>by
  obtain⟨g,e,a⟩:=step 0 d U rfl h0;obtain⟨f,aC,c⟩:=L3 I ds (k+1) g a λi d' U' hd h=>by
   have:=step (i+1) d' U' hd (by rw[show k+(i+1)=k+1+i by omega];exact h);rw[show k+(i+1)+1=k+1+i+1 by omega]at this;exact this
  refine⟨f,?_,by rw[akx,show k+(ds.length+1)=k+1+ds.length by omega];exact c⟩;show(b d U >>= _)=_;rcases e with e|e<;>rw[e]<;>exact aC
def wF{b:D->aY}{ds:List D}(I:Nat->aJ->Prop)(c:I 0 U)(step:∀i d U,ds[i]? = some d->I i U->∃U',(b d U=pure (.bl U')\/b d U=pure (.cM U'))/\I (i+1) U') :
  ∃U',hv b ds U=pure (.bl U')/\I ds.length U':=by
 obtain⟨U',e,h⟩:=L3 I ds 0 U c λi d U hd a=>by
  rw[aok]at a ⊢;exact step i d U hd a
 exact⟨U',e,by rw[aok]at h;exact h⟩
def SX{ns:List Int}{k:Nat}(h:k<ns.length):fp (ns.map D.int) (k:Int)=some (.int (ns.getD k 0)):=by
 refine oQ k ?_;rw[akC,akB h];simp[alb,h]
def mod_lt{a b:Int}(h:0<b):0<=a % b/\a % b<b:=⟨aoz _ (by omega),anM _ h⟩
def aaK{i:Int}(a:-(10 ^ 200)<i)(b:i<10 ^ 200):i.natAbs<rn:=by
 unfold rn;omega
def hO{i j:Int}(a:0<j)(b:j<10 ^ 200):oC i j:=⟨a,aaK (by omega) b⟩
end aS
namespace aS
open PySem PySem.Spec aB
variable[aB.a4]
def lH:List Nat->List D->aJ->aJ
 |i::is,d::ds,U=>lH is ds (U.set i (.v d))|_,_,U=>U
def ke:List Nat->qe
 |[]=>Mn|i::is=>Mm (n3 i) (ke is)
@[simp] def mG(is:List Nat)(m:bj)(U:aJ):M fe:=do
 let r <-m U
 match r with
 |.v (.t ds)=>if ds.length=is.length then pure (.bl (lH is ds U))else bad|_=>bad
theorem BC{O:a3}:∀{is:List Nat}{ds:List D}{xs:List V}{U:aJ}{a:St}{Q:St->au->Prop},cU K mg O U S a H->bc K mg O H ds xs->ds.length=is.length->
  (∀b,cU K mg O (lH is ds U) S b H->fg U (lH is ds U) a b->Q b H)->ke is xs a H Q
 |[],[],xs,U,a,Q,st,ra,hl,q=>⟨ra,q a st (fg.refl _ _)⟩
 |[],_::_,xs,U,a,Q,st,ra,hl,q=>by cases hl
 |_::_,[],xs,U,a,Q,st,ra,hl,q=>by cases hl
 |i::is,d::ds,xs,U,a,Q,st,ra,hl,q=>by
  obtain⟨y,r,e,f,g⟩:=ra;refine⟨y,r,e,?_⟩;exact BC (st.val f) g (by simpa using hl) λb c k=>q b c (fg.trans (fg.set λxs z=>by cases z) k)
section
variable{X:aN}{is:List Nat}{e:Expr}{ax:List Expr}{k:Nat}{it:fB}{b:aY}
def xR{i:Nat}{x:Str}{p:Pos}(hN:X.N.Nodup)(d:X.N[i]? = some x)(a:Loc X.env.scope x)(h:mB X ax (ke is))(av:(ak4 (.Name x p::ax) X.env).map (·.2)=assign (.Name x p) X.env::(ak4 ax X.env).map (·.2):=by rfl)
  (c:X.fn x=true\/X.env.scope.names.lookup x=some .local:=by first|exact .inl rfl|exact .inr rfl|assumption):mB X (.Name x p::ax) (ke (i::is)):=acQ (u3 hN d a c) h av
def Gl:mB X [] (ke []):=acR
@[simp] def zm(is:List Nat)(it:fB)(b:aY)(U:aJ):M fe:=do
 let ds <-it U
 hv (λd U=>match d with
  |.t ax=>if ax.length=is.length then b (lH is ax U)else bad| _=>bad) ds U
theorem VH:∀D g H,iq K mg (zm is it b) D g H->sY (yj K mg it) (rT K is.length (ke is)) (iq K mg b) D g H:=
 Me fun O U S g H d y f C Q st o h k=>by
  cases d with
  |t ax=>
   by_cases c:ax.length=is.length
   .dsimp only at h
    rw[if_pos c]at h;obtain⟨a,m,e,t,i⟩:=o;exact⟨a,m,e,t,by rw[i.len,c],BC st i c λn l j=>k _ _ l j h⟩
   .dsimp only at h
    rw[if_neg c]at h;cases h
  |_=>cases h
end
omit [aB.a4]in
@[simp] theorem aiZ{is:List Nat}{U:aJ}:lH (i::is) (d::ds) U=lH is ds (U.set i (.v d)):=rfl
omit [aB.a4]in
@[simp] theorem ai0:lH [] ds U=U:=by cases ds<;>rfl
end aS
namespace aB
open PySem PySem.Spec PyProof.Rows
variable[aB.a4]
omit [aB.a4]in
theorem PY(ns:List Int):∀k,k<=ns.length->preSum (λi=>ns.getD i 0) k=(ns.take k).sum
 |0,_=>by rfl|k+1,h=>by
  have a:k<ns.length:=by omega
  rw[am5,akB a,List.sum_append];show preSum _ k+_=_;rw[PY ns k (by omega)];simp[ a]
def Uo{X:aN}(F:X.calm=true):jB X (.builtin "sum") (λxs H Q=>∃(l:Addr)(ns:List Int),xs=[.ref l]/\dy X.K H l (ns.map V.int)/\Q (.int ns.sum) H):=by
 intro G s U H xs us Q I B h;obtain⟨l,ns,rfl,E,q⟩:=h;obtain⟨u,rfl,y⟩:=vals1 B;cases y;obtain⟨a,g,p,hz⟩:=I.list E;have m:l<s.heap.objs.size:=by obtain⟨o,n,e,_⟩:=p;exact akl e
 have x:a.toArray.size=ns.length:=by
  have c:=g.length;rw[akc]at c;simp[c]
 have f:∀(i:Nat)(v:Value),a.toArray[i]? = some v->∃t,v=anl (ns.getD i 0) t:=λi v f=>by
  have w:a[i]? = some v:=by simpa using f
  have r:i<ns.length:=by
   have J:=(ake.mp w).1;have c:=g.length;rw[akc]at c;omega
  obtain⟨u,j,D⟩:=g.get (by rw[akC,akB r];rfl);rw[w]at j;cases j;obtain⟨t,rfl⟩:=D;exact⟨t,by rw[alb,akB r];rfl⟩
 refine call_sum_walkG (alR p.isList ?_);refine⟨s.heap.objs.size,_,_,_,_,_,λi=>ns.getD i 0,rfl,an9 (show X.A.in1.handled=none from I.ok.hd F) s.heap.objs.size l (akv m) a.toArray,⟨⟨_,akk _ rfl,rfl,rfl⟩,p.isList.at λo e=>akb _ e⟩,λb d=>?_,f,λL tk t' k=>?_⟩
 .show b<(s.heap.push _).objs.size
  rw[alY];rcases akq.mp d with rfl|d
  .exact amE _
  .rw[akt.mp d];exact amx m
 rw[x,PY ns _ (akf _),List.take_length];exact⟨.int _,H,I.kept λb o e=>k b o (by intro z;rw[akt.mp z]at e;exact absurd (akl e) (ak0 _)) (akb _ e),⟨_,rfl⟩,q⟩
end aB
namespace aS
open PySem PySem.Spec aB
variable[aB.a4]
omit [aB.a4]in
theorem Ub:akY "sum"=some (.builtin "sum"):=by decide +kernel
def nums:List D->Option (List Int)
 |[]=>some []|.int b::r=>(nums r).map (b::·)|_=>none
def rN:List R->M R
 |[x]=>match x.fv.bind nums with
  |some bs=>pure (.v (.int bs.sum))|none=>bad
 |_=>bad
section
variable{K:aP}{mg:ba}
theorem uO{O:a3}:∀{ds:List D}{a:List V}{bs:List Int},bc K mg O H ds a->nums ds=some bs->a=bs.map V.int
 |[],a,bs,h,e=>by cases e;exact h
 |d::ds,a,bs,h,e=>by
  cases d with
  |int b=>
   obtain⟨cs,aq,rfl⟩:=amt.mp e;obtain⟨y,r,rfl,c,f⟩:=h;rw[uO f aq,show y=.int b from c];rfl
  |_=>exact absurd (show(none:Option (List Int))=some bs from e) (by intro z;cases z)
def ZP:jZ K mg (λxs H Q=>∃(l:Addr)(bs:List Int),xs=[.ref l]/\dy K H l (bs.map V.int)/\Q (.int bs.sum) H) rN:=λO U S g H vs rs i f Q st b h q=>by
 unfold rN at h;split at h
 .rename_i x
  obtain⟨v,rfl,c⟩:=kR b;split at h
  .rename_i xs e
   cases h;obtain⟨k,aq,aC⟩:=am4.mp e;obtain⟨a,j,rfl,l,d⟩:=R.pf c aq;rw[uO d aC]at l;exact⟨a,xs,rfl,l,q O _ H (Go.refl _ _) st rfl trivial⟩
  .cases h
 .cases h
end
omit [aB.a4]in
@[simp] theorem ajf{x:R}:rN [x]=match x.fv.bind nums with
  |some bs=>pure (.v (.int bs.sum))|none=>bad:=rfl
omit [aB.a4]in
theorem FW{α:Type}(p:α->Int):∀xs:List α,nums (xs.map λx=>D.int (p x))=some (xs.map p)
 |[]=>rfl| x::xs=>by rw[akm,akm,nums,FW p xs];rfl
end aS
namespace aS
open PySem PySem.Spec aB
section
variable[aB.a4](X:aN)
structure bh(e:Expr)(m:bj):Prop where
 un:j1 X e m
structure fP(e:Expr)(m:aJ->M Bool):Prop where
 un:HJ X e m
structure lU(e:Expr)(m:aJ->M Bool):Prop where
 un:yK X e m
structure gr(e:List Expr)(m:cW):Prop where
 un:B4 X e m
structure tG(e:Option Expr)(m:oI):Prop where
 un:Sa X e m
structure fD(e:Stmt)(m:aY):Prop where
 un:HI X e m
structure hK(e:List Stmt)(m:aY):Prop where
 un:p0 X e m
structure qh(cI e:Expr)(m:fB):Prop where
 un:HG X cI e m
structure vR(cI e:Expr)(m:fB):Prop where
 un:R' X cI e m
structure qg(e:List Expr)(m:aJ->M Bool):Prop where
 un:B5 X e m
end
section
variable[aB.a4]
variable{X:aN}{a e:Expr}{pos:Pos}
theorem rk(i:Nat)(hN:X.N[i]? = some x:=by rfl)(g:qf X.env.scope x:=by first|exact alW rfl|exact akX (.inl rfl)|exact akX (akX rfl))(hd:fo x:=by decide)(j:(x==("__classdict__":Str))=false:=by decide):bh X (.Name x pos) (J i):=⟨eI (xP hN g hd j) λb H Q f=>by
 obtain⟨O,U,S,r,k,st,h,q⟩:=f;unfold J at h
 cases e:U[i]? with
 |none=>rw[e]at h;cases h
 |some s=>
  rw[e]at h;have l:=st.loc i s e;have get:∀{v:V},b[i]?.join=some v->b[i]? = some (some v):=λ{v} z=>by
   cases w:b[i]? with
   |none=>rw[w]at z;cases z
   |some y=>rw[w]at z;exact congrArg some z
  cases s with
  |v d=>
   obtain⟨v,aq,aC⟩:=l;cases h;exact⟨v,get aq,q O v H (Go.refl _ _) st aC trivial⟩
  |fc p xs=>
   obtain⟨a,c,aq,aC,cP,e_⟩:=l;cases h;exact⟨_,get aq,q O _ H (Go.refl _ _) st ⟨a,c,rfl,cP,e_⟩ trivial⟩
  |cf xs=>
   obtain⟨a,c,aq,aC,e_⟩:=l;cases h;exact⟨_,get aq,q O _ H (Go.refl _ _) st ⟨a,c,rfl,aC,e_⟩ trivial⟩
  |e=>cases h⟩
end
section
variable[aB.a4]
variable{X:aN}{e:Expr}{ax:List Expr}{m:bj}{ms:cW}
def vn(p:bh X e m)(f:gr X ax ms)(av:fQ X e ax:=by rfl):gr X (e::ax) (ck m ms):=⟨A' (Gi p.un f.un av) λy H Q k=>by
 obtain⟨O,U,S,r,w,st,h,q⟩:=k;obtain⟨x,a,l,h⟩:=M.inv h;obtain⟨xs,u,n,h⟩:=M.inv h;cases h;refine⟨O,U,S,x,a,st,l,λg c t g1 j d bl=>?_⟩;refine⟨g,U,a,xs,_,j,n,λs vs i b cJ rs ns=>?_⟩;exact q s (c::vs) i (g1.trans b) cJ ⟨c,vs,rfl,d.go b,rs⟩ ⟨bl,ns.back g1.same⟩⟩
end
section
variable[aB.a4]
variable{X:aN}{pos:Pos}
def RF{i j pos}:bh X (.Constant (.int i) j pos) (aK (.int i)):=⟨wc acD λ_ _=>rfl⟩
end
section
variable[aB.a4]
variable{X:aN}
def BD :gr X [] cO:=⟨A' PL λc H Q a=>by
 obtain⟨O,U,S,r,b,st,h,q⟩:=a;cases h;exact q O [] H (Go.refl _ _) st rfl trivial⟩
end
section
variable[aB.a4]
variable{X:aN}{a b:Expr}{ma cz:bj}{pos:Pos}
def mm{op:Operator}{r:fZ}(e:eL X (alP op) r)(g:eK X.K X.mg r f)(d:bh X a ma)(c:bh X b cz):bh X (.BinOp a op b pos) (ak f ma cz):=⟨eI (PQ e d.un c.un) (v7 g)⟩
end
section
variable[aB.a4]
variable{X:aN}{st:Stmt}{rest:List Stmt}{a b:aY}
def BI(c:fD X st a)(l:hK X rest b):hK X (st::rest) (bW a b):=⟨xV (Gv c.un l.un) λD p H k=>by
 obtain⟨O,U,S,i,m,st,h,q⟩:=k;obtain⟨f,e,c,h⟩:=M.inv h;refine⟨O,U,S,f,e,st,c,?_⟩
 cases f with
 |bl d=>exact λg s n g1 j k1=>⟨g,d,e,i,m,j,h,q.aZ g1 k1⟩
 |cp r=>cases h;exact q
 |bk d=>cases h;exact q
 |cM d=>cases h;exact q⟩
end
section
variable[aB.a4]
variable{X:aN}{st:Stmt}{a:aY}
def BJ(h:fD X st a):hK X [st] a:=⟨Gw h.un⟩
end
section
variable[aB.a4]
variable{X:aN}{a b:Expr}{ma cz:bj}{pos:Pos}
def RG{r:fZ}(e:nJ X r)(g:eK X.K X.mg r f)(d:bh X a ma)(c:bh X b cz)(av:H3 b:=by exact λ_ _=>rfl):bh X (.Subscript a b pos) (ak f ma cz):=⟨eI (acE e d.un c.un av) (v7 g)⟩
end
section
variable[aB.a4]
variable{X:aN}{st:Stmt}{pos:Pos}{e:Expr}{m:bj}
theorem Hq(he:bh X e m):fD X (.Return (some e) pos) (bA m):=⟨g4 (Gs he.un) λD n H i=>by
 obtain⟨O,U,S,k,l,st,h,q⟩:=i;obtain⟨r,g,j,h⟩:=M.inv h;refine⟨O,U,S,r,g,st,j,λc v b g1 a f nn=>?_⟩
 cases r with
 |v d=>cases h;exact q c v b g1.aZ a.cw a.gM f
 |fr xs=>cases h;exact q c v b g1.aZ a.cw a.gM (Qm f (.inr ⟨_,rfl⟩))
 |cf xs=>cases h
 |mv xs=>cases h⟩
end
section
variable[aB.a4]
variable{X:aN}{ax:List Expr}{ms:cW}{pos:Pos}
def afZ{o}(h:gr X ax ms):bh X (.Tuple ax o pos) (bF ms):=⟨eI (Gk h.un) λt H Q f=>by
 obtain⟨O,U,S,r,s,st,h,q⟩:=f;obtain⟨rs,c,g,h⟩:=M.inv h;obtain⟨ds,n,i,h⟩:=M.inv h;obtain⟨_,u,j,h⟩:=M.inv h;obtain⟨l,rfl⟩:=rF j;cases h;refine⟨O,U,S,rs,c,st,g,λd vs m g1 e k nn=>?_⟩;obtain⟨b,rfl⟩:=tR k nn i;refine⟨alj (eP (by rw[b.len];exact l)),λp a=>?_⟩;exact q (cm H d) _ _ (g1.cm.trans (Go.f_ a)) ((e.cm H).f_ a) ⟨p,vs,rfl,dQ.of dU,b.go (Go.f_ a)⟩ trivial⟩
end
section
variable[aB.a4]
variable{X:aN}{pos:Pos}{e:Expr}{m:bj}
variable{i:Nat}{x:Str}{pos':Pos}
def BH(hN:X.N.Nodup)(c:X.N[i]? = some x)(a:Loc X.env.scope x)(he:bh X e m)(av:alr e (some (.Name x pos')) pos.line X.env=pure false:=by rfl)(b:X.fn x=true\/X.env.scope.names.lookup x=some .local:=by first|exact .inl rfl|exact .inr rfl|assumption):fD X (.Assign [.Name x pos'] e pos) (b1 i m):=⟨g4 (Gu hN c a he.un av b) (QH λ_ _ _ h=>h)⟩
end
section
variable[aB.a4]
variable{X:aN}{x:Str}{ps:List Str}{k:Nat}{mf:bx}{p pos:Pos}{e:Expr}{ax:List Expr}{ms:cW}
def afG(h:eg X.prog X.w X.K X.mg X.base x ps k (eQ X.K X.mg mf))(b:cL k X.A)(a:eS X x)(c:gr X (e::ax) ms)(d:fo x:=by decide)(he:fQ X e ax:=by rfl)(f:gJ X pos ax:=by rfl):bh X (.Call (.Name x p) (e::ax) [] pos) (bC mf ms):=⟨eI (Ba h b a c.un d he f) CT⟩
end
section
variable[aB.a4]
variable{X:aN}{x:Str}{ps:List Str}{k:Nat}{mf:bx}{p pos:Pos}
def afH(h:eg X.prog X.w X.K X.mg X.base x ps k (eQ X.K X.mg mf))(b:cL k X.A)(a:eS X x)(e:fo x:=by decide):bh X (.Call (.Name x p) [] [] pos) (bC mf cO):=⟨eI (acB h b a e) λd H Q h=>by
  obtain⟨O,U,S,rs,f,st,c,q⟩:=CT d H Q h;cases c;exact q O [] H (Go.refl _ _) st rfl trivial⟩
end
section
variable[aB.a4]
variable{X:aN}{e:Expr}{ax:List Expr}{ms:cW}{pos p:Pos}{x:Str}{id:String}{r:List V->au->c_->Prop}{f:List R->M R}
def nx(i:jB X (.builtin id) r)(j:jZ X.K X.mg r f)(a:eS X x)(k:X.mg x=none)(d:akY x=some (.builtin id))(c:gr X (e::ax) ms)(b:x≠"__name__":=by decide)(g:fo x:=by decide)(he:fQ X e ax:=by rfl)(h:gJ X pos ax:=by rfl):bh X (.Call (.Name x p) (e::ax) [] pos) (cV f ms):=⟨eI (acr i a k d c.un b g he h) (Ka j)⟩
end
section
variable[aB.a4]
variable{X:aN}{st:Stmt}{pos:Pos}{a b:aY}
theorem agg{A B:List Stmt}{t:aJ->M Bool}(n:fP X c t)(m:hK X A a)(k:hK X B b):fD X (.If c A B pos) (b9 t a b):=⟨g4 (Gr n.un m.un k.un) λD r H j=>by
 obtain⟨O,U,S,f,i,st,h,q⟩:=j;obtain⟨t,d,l,h⟩:=M.inv h;refine⟨O,U,S,t,d,st,l,λe p g1 g=>?_⟩
 cases t with
 |false=>
  exact qJ ⟨e,U,d,f,i,g,h,q.aZ g1.aZ (fg.refl _ _)⟩
 |true=>
  exact qK ⟨e,U,d,f,i,g,h,q.aZ g1.aZ (fg.refl _ _)⟩⟩
end
section
variable[aB.a4]
variable{X:aN}{st:Stmt}
theorem agm :hK X [] bZ:=⟨xV P0 λD b H a=>by obtain⟨O,U,S,c,d,st,h,q⟩:=a;cases h;exact q O b H (ez.refl _ _) st (fg.refl _ _)⟩
end
section
variable[aB.a4]
variable{X:aN}{a b:Expr}{ma cz:bj}{pos:Pos}
def mn{op:CmpOp}{r:fZ}(g:eL X (ak2 op) r)(i:eK X.K X.mg r f)(e:bh X a ma)(d:bh X b cz)(j:alS op b=false:=by exact iH _):fP X (.Compare a [op] [b] pos) (aL (ak f ma cz)):=⟨sR (ada g e.un d.un j) λc H Q h=>Q7 (v7 i) c H Q (Ha c H Q h)⟩
end
section
variable[aB.a4]
variable{X:aN}{a:Expr}{ma:bj}{pos:Pos}
def ago(d:bh X a ma)(he:∀b,isTrue a X.env b=(do let v <-b;standAt a.pos;holding [v] (truthy v)):=by intro _;rfl):fP X a (aL ma):=⟨sR (P4 d.un he) λc H Q h=>Ha c H Q h⟩
end
section
variable[aB.a4]
variable{X:aN}{e:Expr}
def lN{v:V}(h:b6 X e (pI v))(r:∀O H,Rep X.K X.mg O H d v):bh X e (aK d):=⟨wc h r⟩
end
section
variable[aB.a4]
variable{X:aN}{ax:List Expr}{ms:cW}{pos:Pos}
def afP(h:gr X ax ms):bh X (.List ax pos) (dD ms):=⟨eI (acF h.un) λw H Q g=>by
 obtain⟨O,U,S,r,u,st,h,q⟩:=g;obtain⟨rs,d,i,h⟩:=M.inv h;obtain⟨ds,t,j,h⟩:=M.inv h;obtain⟨_,x,k,h⟩:=M.inv h;obtain⟨n,rfl⟩:=rF k;cases h;refine⟨O,U,S,rs,d,st,i,λe vs s g1 f l nn=>?_⟩;obtain⟨c,rfl⟩:=tR l nn j;refine⟨alj (eP (by rw[c.len];exact n)),λp b=>?_⟩;refine q (hZ (cm H e) p .ey) _ _ (g1.cm.trans (Go.new b)) ((f.cm H).new b) ⟨p,vs,rfl,dU,pP,c.go (Go.new b)⟩ λa m=>?_
 cases m;exact g1.same.free b⟩
end
section
variable[aB.a4]
variable{X:aN}{b:Expr}{pos:Pos}
def afF{b j pos}:bh X (.Constant (.bool b) j pos) (aK (.az b)):=⟨wc acn λ_ _=>rfl⟩
end
section
variable[aB.a4]
variable{X:aN}{a:Expr}{cC:aJ->M Bool}{pos:Pos}
def agn(g:fP X a cC):fP X (.UnaryOp .Not a pos) (ew cC):=⟨sR (P2 g.un) λk H Q e=>by
 obtain⟨O,U,S,r,j,st,h,q⟩:=e;obtain⟨t,i,f,h⟩:=M.inv h;cases h;exact⟨O,U,S,t,_,st,f,λc b g1 d=>q c b g1 d⟩⟩
end
section
variable[aB.a4]
variable{X:aN}{a b:Expr}{cC dt:aJ->M Bool}{pos:Pos}
variable{rest:List Expr}
def agr(p:fP X a cC)(k:lU X (.BoolOp .Or (b::rest) pos) dt):lU X (.BoolOp .Or (a::b::rest) pos) (ip cC dt):=⟨P6 (adh p.un k.un) λu H Q j=>by
 obtain⟨O,U,S,r,n,st,h,q⟩:=j;obtain⟨t,c,l,h⟩:=M.inv h;refine⟨O,U,S,t,c,st,l,λd i g1 e=>?_⟩
 cases t with
 |true=>
  cases h;exact qK (q d i g1 e)
 |false=>
  exact qJ ⟨d,U,c,r,n,e,h,λm f g s=>q m f (g1.trans g) s⟩⟩
end
section
variable[aB.a4]
variable{X:aN}{pos:Pos}
def yt{x j pos}:bh X (.Constant (.str x) j pos) (aK (.str x)):=⟨wc PS λ_ _=>rfl⟩
end
section
variable[aB.a4]
variable{X:aN}{pos:Pos}
def afS{j pos}:bh X (.Constant .none j pos) (aK .ay):=⟨wc acJ λ_ _=>rfl⟩
end
section
variable[aB.a4]
variable{X:aN}{a b:Expr}{ma cz:bj}{pos:Pos}
def oy{op:CmpOp}{r:fZ}(e:eL X (ak2 op) r)(g:eK X.K X.mg r f)(d:bh X a ma)(c:bh X b cz)(h:alS op b=false):bh X (.Compare a [op] [b] pos) (ak f ma cz):=⟨eI (acv e d.un c.un h) (v7 g)⟩
end
section
variable[aB.a4]
variable{X:aN}{iter:Expr}{it:fB}{i:Nat}{b:aY}{body:List Stmt}{pos d8:Pos}{x:Str}
def agd(a:anm (model X.prog X.w) X.A X.env X.dv)(e:X.calm=true)(g:vR X (.Name x d8) iter it)(hN:X.N.Nodup)(d:X.N[i]? = some x)(h:Loc X.env.scope x)(c:hK X body b)(av:jH X iter:=by intro _;rfl)(f:X.fn x=true\/X.env.scope.names.lookup x=some .local:=by first|exact .inl rfl|exact .inr rfl|assumption):fD X (.For (.Name x d8) iter body [] pos) (oT i it b):=⟨g4 (xU a e g.un (u3 hN d h f) c.un av) VK⟩
end
section
variable[aB.a4]
variable{X:aN}{a b:Expr}{ma cz:bj}{pos:Pos}
variable{rest:List Expr}
def afC(s:bh X a ma)(k:bh X (.BoolOp .And (b::rest) pos) cz):bh X (.BoolOp .And (a::b::rest) pos) (oS ma cz):=⟨eI (acm s.un k.un) λA H Q j=>by
 obtain⟨O,U,S,r,p,st,h,q⟩:=j;obtain⟨x,y,l,h⟩:=M.inv h;obtain⟨t,z,m,h⟩:=M.inv h;obtain⟨rfl,rfl⟩:=yl m;refine⟨O,U,S,_,_,st,l,λc B f g1 d i bl=>⟨t,i,?_⟩⟩
 cases t with
 |false=>
  cases h;exact qJ (q c _ f g1 d rfl trivial)
 |true=>
  exact qK ⟨c,U,_,r,p,d,h,λn v e g u w nn=>q n v e (g1.trans g) u w (nn.back g1.same)⟩⟩
end
section
variable[aB.a4]
variable{X:aN}{a:Expr}{cC:aJ->M Bool}{pos:Pos}
def ags(b:fP X a cC):lU X (.BoolOp .Or [a] pos) cC:=⟨adi b.un⟩
end
section
variable[aB.a4]
variable{X:aN}{a b:Expr}{cC dt:aJ->M Bool}{pos:Pos}
variable{rest:List Expr}
def agp(p:fP X a cC)(k:lU X (.BoolOp .And (b::rest) pos) dt):lU X (.BoolOp .And (a::b::rest) pos) (fW cC dt):=⟨P6 (adf p.un k.un) λu H Q j=>by
 obtain⟨O,U,S,r,n,st,h,q⟩:=j;obtain⟨t,c,l,h⟩:=M.inv h;refine⟨O,U,S,t,c,st,l,λd i g1 e=>?_⟩
 cases t with
 |false=>
  cases h;exact qJ (q d i g1 e)
 |true=>
  exact qK ⟨d,U,c,r,n,e,h,λm f g s=>q m f (g1.trans g) s⟩⟩
end
section
variable[aB.a4]
variable{X:aN}{e:Expr}{m:bj}
def aga(he:bh X e m):tG X (some e) (tM m):=⟨λf s j H Q I d=>by
 obtain⟨O,U,S,r,n,st,h,q⟩:=d;obtain⟨x,l,g,h⟩:=M.inv h;split at h
 .rename_i i
  cases h;exact acY he.un f s j H Q I ⟨O,U,S,_,_,st,g,λb v a g1 c k _=>⟨i,k,q b a g1 c⟩⟩
 .cases h⟩
end
section
variable[aB.a4]
variable{X:aN}
def af9 :tG X none CP:=⟨λb s c H Q I a=>by
 obtain⟨O,U,S,r,d,st,h,q⟩:=a;cases h;exact acX b s c H Q I (q O H (Go.refl _ _) st)⟩
end
section
variable[aB.a4]
variable{X:aN}{e:Expr}{m:bj}{lo hi:Option Expr}{q1 mh:oI}{pos eW:Pos}
def afV(he:bh X e m)(W:tG X lo q1)(T:tG X hi mh):bh X (.Subscript e (.Slice lo hi none eW) pos) (zq m q1 mh):=⟨eI (PR (ad6.or QI) he.un W.un T.un) λI H Q F=>by
 refine bR λf=>?_
 obtain⟨O,U,S,r,C,st,h,q⟩:=F;obtain⟨x,s,J,L⟩:=M.inv h;obtain⟨l,t,K,G⟩:=M.inv L;obtain⟨u,Y,N,h⟩:=M.inv G;refine f ⟨O,U,S,x,s,st,J,λD gN Z g1 E B bl=>?_⟩;refine⟨D,U,s,l,t,E,K,λP o y cJ=>?_⟩;refine⟨P,U,t,u,Y,cJ,N,λw c9 z A=>?_⟩;have g:=(g1.trans y).trans z;have n:=B.go (y.trans z);unfold sI at h;refine bR λf=>?_
 split at h
 .rename_i xs
  by_cases c:d_.c4 xs.length 0 l=0/\d_.c4 xs.length xs.length u=xs.length
  .rw[if_pos c]at h;cases h
  .rw[if_neg c]at h
   cases h;obtain⟨a,k,rfl,j,i⟩:=n;exact f (.inr ⟨a,k,rfl,j,by rw[i.len];exact c,λp d=>q w _ _ (g.trans (Go.f_ d)) (A.f_ d) ⟨p,_,rfl,dQ.of dU,(i.cut l u).go (Go.f_ d)⟩ trivial⟩)
 .split at h
  .rename_i xs aq
   cases h;obtain⟨a,k,rfl,j,i⟩:=R.pf n aq;refine f ?_;refine .inl ⟨a,k,rfl,j,λp d=>q (hZ w p .ey) _ _ (g.trans (Go.new d)) (A.new d) ⟨p,_,rfl,dU,pP,(i.cut l u).go (Go.new d)⟩ λb V=>?_⟩;cases V;exact g.same.free d
  .cases h⟩
end
section
variable[aB.a4]
variable{X:aN}{a:Expr}{ma:bj}{pos:Pos}
def afU{op}(h:bh X a ma):bh X (.BoolOp op [a] pos) ma:=⟨acL h.un⟩
end
section
variable[aB.a4]
variable{X:aN}{scope esc:Scope}{EN N:List Str}{n:Nat}{cap:List Nat}{elt iter:Expr}{ifs:List Expr}{pos d8:Pos}{x:Str}{it:fB}{t:aJ->M Bool}{el:bj}
def afK(S:lO esc scope EN N n cap)(c:0<n)(g:qh X (.Name x d8) iter it)(d:N[0]? = some x)(b:nP X scope N x)(e:∀C a s H,qg (ef X scope N C a s H) ifs t)(h:∀C a s H,bh (ef X scope N C a s H) elt el)(he:X.env.scope=esc:=by rfl)(hN:X.N=EN:=by rfl)(f:X.calm=true:=by rfl)(av:jH X iter:=by intro _;rfl):bh X (.ListComp elt [⟨.Name x d8,iter,ifs,0⟩] scope pos) (e9 n cap it t el):=⟨eI (Gj S g.un (λC a s H=>u3 S.cS d (b C a s H).1 (.inr (b C a s H).2)) (λC a s H=>(e C a s H).un) (λC a s H=>(h C a s H).un) he hN f av) (C0 c)⟩
end
section
variable[aB.a4]
variable{X:aN}{x:Str}{i:Nat}{p apos de pos:Pos}{e:Expr}{ax:List Expr}{ms:cW}{name:Str}{id:String}{f:List D->List R->M (R×List D)}{r:V->List V->au->c_->Prop}
def RL(slot:PySem.Slot "list" name id)(B:typeOf (.builtin id)=pure (.type "method_descriptor"))(u:yW X id r)(t:vC X.K X.mg r f)(l:gr X (e::ax) ms)(hN:X.N[i]? = some x)(n:qf X.env.scope x)(hd:fo x:=by decide)(s:(x==("__classdict__":Str))=false:=by decide)(z:alL (.Name x p) name X.env (eval (.Name x p) X.env)=eval (.Name x p) X.env:=by rfl) (E:((al0 de (akT (e::ax) X.env)).all (λx=>!x.1)&&(anh de (amo [] X.env)).all (λx=>x.1.isSome)
&&decide ((e::ax).length+([]:List am1).length+(if([]:List am1).isEmpty then 0 else 1)<30))=true:=by rfl) (A:(apos.endLine==de.line)=true:=by rfl) (av:fQ X e ax:=by rfl) (w:gJ X de ax:=by rfl) (y:alr (.Call (.Attribute (.Name x p) name apos) (e::ax) [] de) none pos.line X.env=pure false:=by rfl):fD X (.Expr (.Call (.Attribute (.Name x p) name apos) (e::ax) [] de) pos) (ja i f ms):=⟨g4 (Gq (PM aos slot B u (xP hN n hd s) l.un z E A av w) y) λD j H b=>by
  obtain⟨O,U,S,G,J,st,h,q⟩:=b;obtain⟨⟨L,P⟩,F,c,h⟩:=M.inv h;cases h;exact aa7 t st c λd v a g m k _=>q d j a g m k⟩
end
section
variable[aB.a4]
variable{X:aN}{a:Expr}{cC:aJ->M Bool}{pos:Pos}
def agq(b:fP X a cC):lU X (.BoolOp .And [a] pos) cC:=⟨adg b.un⟩
end
section
variable[aB.a4]
variable{X:aN}{cI l:Expr}{m:bj}{a:Expr}
theorem af0(n:bh X l m):vR X cI l (Ew m):=⟨ni (xS n.un) λs H R j=>by
 obtain⟨O,U,S,xs,p,st,h,q⟩:=j;obtain⟨r,i,k,h⟩:=M.inv h;refine⟨O,U,S,r,i,st,k,λe v d g1 f g nn=>?_⟩;split at h
 .cases h
  obtain⟨a,b,rfl,ls,c⟩:=g;exact⟨a,rfl,⟨b,ls.dO⟩,q e d (k4 X.K a) b g1 f (EF (.inl ⟨.inl ls.1,.inl ls.2⟩)) c⟩
 .cases h
  obtain⟨a,b,rfl,ls,t,c⟩:=g;exact⟨a,rfl,⟨b,dy.of ls⟩,q (cm H e) d (k4 X.K a) b g1.cm (f.cm H) (EF (.inl ⟨.inl ls,.inl (wG (nn a rfl) t)⟩)) (c.dz (jg _ _))⟩
 .cases h
  obtain⟨a,b,rfl,ls,c⟩:=g;exact⟨a,rfl,⟨b,ls.dO⟩,q e d (k4 X.K a) b g1 f (EF ls) c⟩
 .cases h⟩
end
section
variable[aB.a4]
variable{X:aN}{pos:Pos}{e:Expr}{m:bj}
variable{i:Nat}{x:Str}{pos':Pos}
def agi(hN:X.N.Nodup)(c:X.N[i]? = some x)(a:Loc X.env.scope x)(he:bh X e m)(av:alr e (some (.Name x pos')) pos.line X.env=pure false:=by rfl)(b:X.fn x=true\/X.env.scope.names.lookup x=some .local:=by first|exact .inl rfl|exact .inr rfl|assumption):fD X (.Assign [.Name x pos'] e pos) (jJ i m):=⟨g4 (Gu hN c a he.un av b) (PJ λ_ _ _ h=>h)⟩
end
section
variable[aB.a4]
def af3:qg X [] gD:=⟨λc s U H Q I a=>by
 obtain⟨O,U',S,b,d,st,h,q⟩:=a;cases h;exact acO c s U H Q I (q O H (Go.refl _ _) st)⟩
end
section
variable[aB.a4]
variable{X:aN}{a:Expr}{ma:bj}{pos:Pos}
def afT(j:bh X a ma):bh X (.UnaryOp .Not a pos) (zo ma):=⟨eI (acK j.un) λn H Q f=>by
 obtain⟨O,U,S,r,m,st,h,q⟩:=f;obtain⟨x,k,g,h⟩:=M.inv h;obtain⟨t,l,i,h⟩:=M.inv h;obtain⟨rfl,rfl⟩:=yl i;cases h;exact⟨O,U,S,_,_,st,g,λd p b g1 e c bl=>⟨t,c,q d _ b g1 e rfl trivial⟩⟩⟩
end
section
variable[aB.a4]
variable{X:aN}{e:Expr}{ax:List Expr}{ms:cW}{pos p:Pos}{x:Str}{T:String}{r:List V->au->c_->Prop}{f:List R->M R}
def RE(i:jB X (.type T) r)(j:jZ X.K X.mg r f)(a:eS X x)(k:X.mg x=none)(d:akY x=some (.type T))(c:gr X (e::ax) ms)(b:x≠"__name__":=by decide)(g:fo x:=by decide)(he:fQ X e ax:=by rfl)(h:gJ X pos ax:=by rfl):bh X (.Call (.Name x p) (e::ax) [] pos) (cV f ms):=⟨eI (acs i a k d c.un b g he h) (Ka j)⟩
end
section
variable[aB.a4]
def af4{t:aJ->M Bool}(h:fP X c t):qg X [c] t:=⟨acP h.un⟩
end
section
variable[aB.a4]
variable{X:aN}{cI:Expr}{a:Expr}{ms:cW}{pos p:Pos}
def af1(b:eS X "range")(d:X.mg "range"=none)(c:gr X [a] ms)(av:akT [a] X.env=[(false,eval a X.env)]:=by rfl):vR X cI (.Call (.Name "range" p) [a] [] pos) (m3 ms):=⟨ni (Gm b d c.un av) Qt.1⟩
end
section
variable[aB.a4]
variable{X:aN}{a b c:Expr}{ma cz gh:bj}{pos:Pos}
def RM{op d:CmpOp}{r i:fZ}(m:eL X (ak2 op) r)(p:eK X.K X.mg r f)(s:eL X (ak2 d) i)(j:eK X.K X.mg i g)(l:bh X a ma)(k:bh X b cz)(n:bh X c gh)(q:lastMarks [op,d] [b,c]=false:=by with_unfolding_all rfl):fP X (.Compare a [op,d] [b,c] pos) (aL (kB f g ma cz gh)):=⟨sR (ac9 m s l.un k.un n.un q) λe H Q h=>Q7 (Uc p j) e H Q (Ha e H Q h)⟩
end
section
variable[aB.a4]
variable{X:aN}{cI l:Expr}{m:bj}{a:Expr}
theorem afx(j:bh X l m):qh X cI l (ig m):=⟨ni (PT j.un) λs H R f=>by
 obtain⟨O,U,S,xs,p,st,h,q⟩:=f;obtain⟨r,n,g,h⟩:=M.inv h;split at h
 .rename_i t
  cases h;refine⟨O,U,S,_,_,st,g,λd v c g1 e i nn=>?_⟩;obtain⟨a,b,rfl,ls,k⟩:=i;exact⟨a,rfl,⟨b,ls⟩,q d c (tA X.K a) b g1 e (NV ls) k⟩
 .cases h⟩
end
section
variable[aB.a4]
variable{X:aN}{cI l:Expr}{m:bj}{e a:Expr}
theorem afu(k:bh X l m):qh X cI l (jO m):=⟨ni (xS k.un) λt H u g=>by
 obtain⟨O,U,S,xs,s,st,h,q⟩:=g;obtain⟨r,p,i,h⟩:=M.inv h
 cases e:r.fv with
 |none=>rw[e]at h;cases h
 |some w=>
  rw[e]at h;cases h;refine⟨O,U,S,r,_,st,i,λd v c g1 f j nn=>?_⟩;obtain⟨a,b,rfl,ls,n⟩:=R.pf j e;exact⟨a,rfl,⟨b,ls⟩,q d c (k4 X.K a) b g1 f (EE ls) n⟩⟩
end
section
variable[aB.a4]
variable{X:aN}{cI l:Expr}{m:bj}{a:Expr}
theorem af2(j:bh X l m):vR X cI l (ig m):=⟨ni (PT j.un) λs H R f=>by
 obtain⟨O,U,S,xs,p,st,h,q⟩:=f;obtain⟨r,n,g,h⟩:=M.inv h;split at h
 .rename_i t
  cases h;refine⟨O,U,S,_,_,st,g,λd v c g1 e i nn=>?_⟩;obtain⟨a,b,rfl,ls,k⟩:=i;exact⟨a,rfl,⟨b,ls⟩,q d c (tA X.K a) b g1 e (Zy ls) k⟩
 .cases h⟩
end
section
variable[aB.a4]
variable{X:aN}{cI:Expr}{a:Expr}{ms:cW}{pos p:Pos}
def afv(b:eS X "range")(d:X.mg "range"=none)(c:gr X [a] ms)(av:akT [a] X.env=[(false,eval a X.env)]:=by rfl):qh X cI (.Call (.Name "range" p) [a] [] pos) (m3 ms):=⟨ni (Gm b d c.un av) Qt.2⟩
end
section
variable[aB.a4]
variable{X:aN}{st:Stmt}{pos:Pos}{a:aY}{e:Expr}
theorem agj(i:Nat)(hN:X.N[i]? = some x:=by rfl)(f:qf X.env.scope x:=by first|exact alW rfl|exact akX (.inl rfl)|exact akX (akX rfl))(hd:fo x:=by decide)(g:(x==("__classdict__":Str))=false:=by decide):fD X (.Return (some (.Name x p)) pos) (zp i):=⟨g4 (Gs (xP hN f hd g)) λD c H b=>by
 obtain⟨O,U,S,k,m,st,h,q⟩:=b;unfold zp at h
 cases e:U[i]? with
 |none=>rw[e]at h;cases h
 |some s=>
  rw[e]at h;have l:=st.loc i s e
  cases s with
  |fc p xs=>
   obtain⟨a,j,aq,aC,cP,e_⟩:=l
   cases p with
   |true=>cases h
   |false=>
   cases h;refine⟨.ref a,?_,q O _ H (ez.refl _ _) st.cw st.gM ⟨a,j,rfl,cP,.inr ⟨i,aC⟩,e_⟩⟩
   cases w:c[i]? with
   |none=>rw[w]at aq;cases aq
   |some y=>rw[w]at aq;exact congrArg some aq
  |v d=>cases h
  |cf d=>cases h
  |e=>cases h⟩
end
section
variable[aB.a4]
variable{X:aN}{pos d8:Pos}{is:List Nat}{e:Expr}{m:bj}{ax:List Expr}{k:Nat}
def agl(x:X.calm=true)(g:mB X ax (ke is))(he:bh X e m)(i:(ak4 ax X.env).length=is.length:=by rfl)(w:(ak4 ax X.env).findIdx? (·.1)=none:=by rfl)(av:swapsWithSole [.Tuple ax k d8] e pos.line X.env=pure false:=by rfl)(hw:swappedStores [.Tuple ax k d8] e X.env=pure none:=by rfl)(b:(ak4 [.Tuple ax k d8] X.env).map (·.2)=[assign (.Tuple ax k d8) X.env]:=by rfl):fD X (.Assign [.Tuple ax k d8] e pos) (mG is m):=⟨g4 (ac3 he.un (xQ x g i w) av hw b) λD E H n=>by
 obtain⟨O,U,S,A,B,st,h,q⟩:=n;obtain⟨r,z,b,h⟩:=M.inv h;split at h
 .rename_i ds
  by_cases c:ds.length=is.length
  .rw[if_pos c]at h
   cases h;refine⟨O,U,S,_,_,st,b,λj v f g1 l s nn=>?_⟩;obtain⟨a,y,rfl,t,d⟩:=s;refine⟨a,y,rfl,t,by rw[d.len,c],BC l d c λu p k=>q j u f g1.aZ p k⟩
  .rw[if_neg c]at h;cases h
 .cases h⟩
end
section
variable[aB.a4]
variable{X:aN}{pos d8:Pos}{is:List Nat}{ax:List Expr}{k:Nat}{iter:Expr}{it:fB}{body:List Stmt}{b:aY}
def age(e:anm (model X.prog X.w) X.A X.env X.dv)(a:X.calm=true)(h:vR X (.Tuple ax k d8) iter it)(c:mB X ax (ke is))(f:hK X body b)(d:(ak4 ax X.env).length=is.length:=by rfl)(g:(ak4 ax X.env).findIdx? (·.1)=none:=by rfl)(av:jH X iter:=by intro _;rfl):fD X (.For (.Tuple ax k d8) iter body [] pos) (zm is it b):=⟨g4 (xU e a h.un (xQ a c d g) f.un av) VH⟩
end
section
variable[aB.a4]
variable{X:aN}{a:Expr}{ma:bj}{apos de:Pos}
def afE(j:bh X a ma)(l:alL a "bit_length" X.env (eval a X.env)=eval a X.env:=by rfl)(m:(apos.endLine==de.line)=true:=by rfl):bh X (.Call (.Attribute a "bit_length" apos) [] [] de) (bM oBits ma):=⟨eI (aco PySem.F.plainAttrs_int PySem.F.slot_int_bit_length PySem.F.type_int_bit_length aa4 j.un l m) λs H Q f=>by
  obtain⟨O,U,S,r,p,st,h,q⟩:=f;obtain⟨x,n,g,h⟩:=M.inv h;unfold oBits at h;split at h
  .rename_i i
   cases h;refine⟨O,U,S,_,_,st,g,λd k b g1 e c bl=>?_⟩;cases(show k=.int i from c);exact⟨rfl,i,rfl,rfl,q d _ b g1 e rfl trivial⟩
  .cases h⟩
end
section
variable[aB.a4]
variable{X:aN}{st:Stmt}
def agh :fD X st wa:=⟨g4 ac6 λD d H a=>by obtain⟨O,U,S,b,c,st,h,q⟩:=a;cases h⟩
end
section
variable[aB.a4]
variable{X:aN}{a:Expr}{cC:aJ->M Bool}
def lU.cM(h:lU X a cC):fP X a cC:=⟨yK.cM h.un⟩
end
section
variable[aB.a4]
variable{X:aN}{scope esc:Scope}{EN N:List Str}{n:Nat}{cap:List Nat}{elt iter:Expr}{ifs:List Expr}{pos d8:Pos}{x:Str}{it:fB}{t:aJ->M Bool}{el:bj}
def agb{py c:Pos}(S:lO esc scope EN N n cap)(p:X.N.Nodup)(m:X.N[i]? = some y)(d:X.env.scope.names.lookup y=some .local)(b:0<n)(h:qh X (.Name x d8) iter it)(e:N[0]? = some x)(k:nP X scope N x)(f:∀C a s H,qg (ef X scope N C a s H) ifs t)(j:∀C a s H,bh (ef X scope N C a s H) elt el)(he:X.env.scope=esc:=by rfl)(hN:X.N=EN:=by rfl)(g:X.calm=true:=by rfl)(av:jH X iter:=by intro _;rfl)(l:alr (.ListComp elt [⟨.Name x d8,iter,ifs,0⟩] scope pos) (some (.Name y py)) c.line X.env=pure true:=by rfl):fD X (.Assign [.Name y py] (.ListComp elt [⟨.Name x d8,iter,ifs,0⟩] scope pos) c) (jJ i (e9 n cap it t el)):=⟨g4 (Ia S p m d b h.un e k (λC a s H=>(f C a s H).un) (λC a s H=>(j C a s H).un) he hN g av l) (PJ (C0 b))⟩
end
section
variable[aB.a4]
variable{X:aN}{scope esc:Scope}{EN N:List Str}{n:Nat}{cap:List Nat}{elt iter:Expr}{ifs:List Expr}{pos d8:Pos}{x:Str}{it:fB}{t:aJ->M Bool}{el:bj}
def agc{py c:Pos}(S:lO esc scope EN N n cap)(p:X.N.Nodup)(m:X.N[i]? = some y)(d:X.env.scope.names.lookup y=some .local)(b:0<n)(h:qh X (.Name x d8) iter it)(e:N[0]? = some x)(k:nP X scope N x)(f:∀C a s H,qg (ef X scope N C a s H) ifs t)(j:∀C a s H,bh (ef X scope N C a s H) elt el)(he:X.env.scope=esc:=by rfl)(hN:X.N=EN:=by rfl)(g:X.calm=true:=by rfl)(av:jH X iter:=by intro _;rfl)(l:alr (.ListComp elt [⟨.Name x d8,iter,ifs,0⟩] scope pos) (some (.Name y py)) c.line X.env=pure true:=by rfl):fD X (.Assign [.Name y py] (.ListComp elt [⟨.Name x d8,iter,ifs,0⟩] scope pos) c) (b1 i (e9 n cap it t el)):=⟨g4 (Ia S p m d b h.un e k (λC a s H=>(f C a s H).un) (λC a s H=>(j C a s H).un) he hN g av l) (QH (C0 b))⟩
end
def Mt:M bL:=⟨λS=>.ok S S,λ_ _ _ h=>by cases h;rfl⟩
def gL:R->M ha
 |.v (.ref n)=>do
  let S <-Mt
  match S[n]? with
  |some o=>pure o|none=>bad
 |_=>bad
def Pq{r:R}{S a:bL}(h:(gL r).run S=.ok o a):∃n,r=.v (.ref n)/\S[n]? = some o/\S=a:=by
 unfold gL at h;split at h
 .rename_i n
  obtain⟨T,c,b,h⟩:=M.inv h;cases b
  cases e:S[n]? with
  |none=>rw[e]at h;cases h
  |some d=>rw[e]at h;cases h;exact⟨n,rfl,e,rfl⟩
 .cases h
def qQ:D->Option Key
 |.int i=>some (.inl i)|.str x=>some (.inr x)|_=>none
def i1{κ α:Type}[DecidableEq κ](k:κ)(a:α):List (κ×α)->List (κ×α)
 |[]=>[(k,a)]
 |(g,x)::r=>if g=k then(g,a)::r else(g,x)::i1 k a r
theorem P5{v:V}:∀fs:List (Str×V),i2 f v fs=i1 f v fs
 |[]=>rfl| (g,x)::r=>by unfold i2 i1;rw[P5 r]
section
variable{κ:Type}[DecidableEq κ]
def jL(a:List (κ×D))(k:κ):Option D:=(a.find? λb=>decide (b.1=k)).map (·.2)
def je(b:List (κ×D))(k:κ)(d:D):List (κ×D):=
 if(b.any λa=>decide (a.1=k))=true then b.map (λa=>if a.1=k then(a.1,d)else a)else b++[(k,d)]
variable[aB.a4]{K:aP}{mg:ba}{O:a3}{H:au}
def ek.cons{p:κ×D}{f:List (κ×D)}{d:List (κ×V)}(h:ek K mg O H (p::f) d):∃q r,d=q::r/\p.1=q.1/\Rep K mg O H p.2 q.2/\ek K mg O H f r:=by
 obtain⟨c,g⟩:=h
 cases d with
 |nil=>cases c
 |cons q r=>
  injection c with c o
  obtain⟨y,t,e,a,b⟩:=g;injection e with aq aC
  subst aq aC;exact⟨q,r,rfl,c,a,o,b⟩
def ek.mk'{r:List (κ×V)}(a:p.1=q.1)(b:Rep K mg O H p.2 q.2)(h:ek K mg O H o r):ek K mg O H (p::o) (q::r):=
 ⟨by rw[akm,akm,a,h.1],q.2,_,rfl,b,h.2⟩
def ek.xx(h:ek K mg O H [] o):o=[]:=amO.mp h.1.symm
def ek.len{a:List (κ×D)}{b:List (κ×V)}(h:ek K mg O H a b):b.length=a.length:=by
 have:=congrArg alF h.1;rw[akc,akc]at this;exact this.symm
theorem ek.val(k:κ):∀{C:List (κ×D)}{o:List (κ×V)},ek K mg O H C o->match jL C k with
  |some d=>∃v,kn o k=some v/\Rep K mg O H d v|none=>kn o k=none
 |[],o,h=>by obtain rfl:=h.xx;exact rfl
 |p::C,o,h=>by
  obtain⟨q,r,rfl,aq,aC,b⟩:=h.cons;unfold jL kn
  by_cases a:p.1=k
  .rw[alf (by simpa using a),alf (by rw[<-aq];simpa using a)]
   exact⟨q.2,rfl,aC⟩
  .rw[ak3 (by simpa using a),ak3 (by rw[<-aq];simpa using a)]
   exact ek.val k b
theorem ek.any(k:κ):∀{C:List (κ×D)}{o:List (κ×V)},ek K mg O H C o->(o.any λa=>decide (a.1=k))=C.any λa=>decide (a.1=k)
 |[],o,h=>by obtain rfl:=h.xx;rfl
 |p::C,o,h=>by
  obtain⟨q,r,rfl,aq,aC,b⟩:=h.cons;rw[alT,alT,ek.any k b,aq]
def ek.put(k:κ){v:V}(hd:Rep K mg O H d v)(h:ek K mg O H b o):ek K mg O H (je b k d) (putK o k v):=by
 unfold je putK;rw[ek.any k h];split
 .rename_i f
  clear f
  induction b generalizing o with
  |nil=>obtain rfl:=h.xx;exact⟨rfl,rfl⟩
  |cons p b c=>
   obtain⟨q,r,rfl,aq,aC,e⟩:=h.cons;rw[akm,akm]
   by_cases a:p.1=k
   .rw[if_pos a,if_pos (aq▸a)];exact ek.mk' aq hd (c e)
   .rw[if_neg a,if_neg (aq▸a)];exact ek.mk' aq aC (c e)
 .exact⟨by rw[akP,akP,h.1];rfl,by rw[akP,akP];exact h.2.append (.one hd)⟩
theorem ek.i1(k:κ){v:V}(hd:Rep K mg O H d v):∀{C:List (κ×D)}{o:List (κ×V)},ek K mg O H C o->ek K mg O H (aS.i1 k d C) (aS.i1 k v o)
 |[],o,h=>by obtain rfl:=h.xx;exact⟨rfl,_,_,rfl,hd,rfl⟩
 |p::C,o,h=>by
  obtain⟨q,r,rfl,aq,aC,a⟩:=h.cons;obtain⟨p1,eW⟩:=p;obtain⟨bw,cB⟩:=q;cases(show p1=bw from aq);unfold aS.i1;split
  .exact ek.mk' rfl hd a
  .exact ek.mk' rfl aC (ek.i1 k hd a)
theorem ek.lookup:∀{C:List (Str×D)}{o:List (Str×V)},ek K mg O H C o->C.lookup f=some d->∃v,o.lookup f=some v/\Rep K mg O H d v
 |[],o,h,e=>by cases e
 |p::C,o,h,e=>by
  obtain⟨q,r,rfl,aq,aC,a⟩:=h.cons;obtain⟨p1,eW⟩:=p;obtain⟨bw,cB⟩:=q;cases(show p1=bw from aq);rw[akU]at e ⊢
  cases I:f==p1 with
  |true=>rw[I]at e;cases e;exact⟨cB,rfl,aC⟩
  |false=>rw[I]at e;exact ek.lookup a e
end
variable[aB.a4]
section
variable{K:aP}{mg:ba}{O:a3}{U:aJ}{S aj:bL}{ao:St}{H:au}{r:R}{v:V}{o:ha}
def A1(st:cU K mg O U S ao H)(f:eM K mg O H r v)(h:(gL r).run S=.ok o aj):∃a,v=.ref a/\a∈O.bQ/\nL K mg O H a o:=by
 obtain⟨n,rfl,e,rfl⟩:=Pq h;obtain⟨a,d,i⟩:=st.gM n o e;obtain⟨b,g,c⟩:=f;rw[d]at c;cases c;exact⟨a,g,akQ d,i⟩
def EO{v:V}{k:Key}(h:Rep K mg O H d v)(e:qQ d=some k):v=cX k:=by
 cases d<;>cases e<;>exact h
end
structure p2(K:aP)(mg:ba)(c:Str)(fs:List Str):Prop where
 ex:∃C,mg c=some (.ref C)/\i8 K C/\(W.makesIn K C=true/\alX K (.ref C)=true)/\∀f∈fs,rx K C f
def cA(c f:Str)(r:R):M R:=do
 let o <-gL r
 match o with
 |.bD c' fs=>if c'=c then(match fs.lookup f with
  |some d=>pure (.v d)| none=>bad)else bad
 |_=>bad
def fJ(r k:R):M R:=do
 let o <-gL r
 match o,k with
 |.hP C,.v d7=>match qQ d7 with
  |some key=>match jL C key with
   |some d=>pure (.v d)|none=>bad
  |none=>bad
 |_,_=>bad
def sj:List R->Option (List Key)
 |[]=>some []|.v d::rs=>match qQ d,sj rs with
  |some k,some o=>some (k::o)|_,_=>none
 |_::_=>none
def zr(m:bj)(b:cW)(a:bj):bj:=λU=>do
 let x <-m U
 let rs <-b U
 let z <-a U
 let o <-gL x
 match o,sj rs,z with
 |.fR C,some k,.v I=>if rs.length<=1000 then pure (.v ((jL C k).getD I))else bad|_,_,_=>bad
def lg(m:bj):bj:=λU=>do
 let x <-m U
 let o <-gL x
 match o with
 |.l xs=>pure (.mv xs)|_=>bad
theorem ER{O:a3}:∀{rs:List R}{vs:List V}{a:List Key},sj rs=some a->gS K mg O H rs vs->vs=a.map cX
 |[],vs,a,e,h=>by cases e;exact h
 |r::rs,vs,a,e,h=>by
  obtain⟨v,g,rfl,b,c⟩:=h
  cases r with
  |v d=>
   unfold sj at e;split at e
   .rename_i k f aq aC
    cases e;rw[akm,ER aC c,EO (show Rep K mg O H d v from b) aq]
   .cases e
  |_=>cases e
def S7:eK K mg (fun x y H Q=>∃a v,x=.ref a/\lP H a y (some v)/\Q v H) fJ:=fun O U S ao H x y I bI bo aj Q st ag a_ h q=>by
 obtain⟨o,m,b,f⟩:=M.inv h;clear h;have h:=f;obtain⟨a,rfl,_,g⟩:=A1 st ag b;obtain rfl:=(gL I).ep _ _ _ b;split at h
 .rename_i e d7
  split at h
  .rename_i key i
   obtain⟨n,l,j⟩:=g;have c:=j.val key
   cases C:jL e key with
   |none=>rw[C]at h;cases h
   |some d=>
    rw[C]at h c;cases h;obtain⟨v,aq,aC⟩:=c;refine⟨a,v,rfl,?_,q O v H (Go.refl _ _) st aC trivial⟩;rw[EO (show Rep K mg O H d7 y from a_) i,<-aq];exact lP.k l
  .cases h
 .cases h
section
variable{X:aN}{e o i f:Expr}{ax:List Expr}{m mo O' kL:bj}{ms:cW}{pos apos de w8:Pos}{c a:Str}{ns:List Str}
theorem afD(T:p2 X.K X.mg c ns)(L:a∈ns)(he:bh X e m)(u:alL e a X.env (eval e X.env)=eval e X.env:=by rfl):bh X (.Attribute e a pos) (bM (cA c a) m):=⟨eI (acA he.un u) λW H Q t=>by
 refine bR λg=>?_
 obtain⟨O,U,S,r,V,st,h,q⟩:=t;obtain⟨x,n,w,F⟩:=M.inv h;clear h;refine g ⟨O,U,S,x,n,st,w,λs Y l g1 j p bl=>?_⟩;refine bR λg=>?_
 obtain⟨o,R,k,E⟩:=M.inv F;have h:=E;obtain⟨b,rfl,_,G⟩:=A1 j p k;obtain rfl:=(gL x).ep _ _ _ k;split at h
 .rename_i c' fs
  split at h
  .rename_i J
   subst J
   cases el:fs.lookup a with
   |none=>refine g ?_;rw[el]at h;cases h
   |some d=>
    rw[el]at h;cases h;obtain⟨C,A,P,B,z,N⟩:=G;obtain⟨Z,aq,aC,_,e_⟩:=T.ex;cases aq.symm.trans z.1;obtain⟨v,D,y⟩:=N.lookup el;exact g ⟨b,C,A,P,v,rfl,B,aC,e_ a L,D,q s v l g1 j y trivial⟩
  .cases h
 .cases h⟩
def afN(g:X.A.units+64<cLine)(b:bh X o mo)(d:bh X i O')(av:vN i:=by intro _ _;rfl):bh X (.Subscript o i pos) (ak fJ mo O'):=⟨eI (acw (by omega) b.un d.un av) (v7 S7)⟩
theorem afY{I}(cQ:X.A.units+64<cLine)(he:bh X o m)(Y:gr X ax ms)(hf:bh X f kL)(b:M2 X o "get" apos (.Tuple ax I w8) f de:=by exact⟨rfl,rfl,rfl,rfl⟩):bh X (.Call (.Attribute o "get" apos) [.Tuple ax I w8,f] [] de) (zr m ms kL):=
 ⟨eI (acx (by omega) he.un (Gk Y.un) hf.un b) λao H Q P=>by
  refine bR λn=>?_
  obtain⟨O,U,S,r,aj,st,h,q⟩:=P;obtain⟨x,S1,T,W⟩:=M.inv h;clear h;obtain⟨rs,aT,b,R⟩:=M.inv W;obtain⟨z,ix,y,hc⟩:=M.inv R;obtain⟨o,jF,E,h⟩:=M.inv hc;obtain rfl:=(ms U).ep _ _ _ b;obtain rfl:=(kL U).ep _ _ _ y;obtain rfl:=(gL x).ep _ _ _ E;split at h
  .rename_i s k rm hb
   by_cases c:rs.length<=1000
   .rw[if_pos c]at h
    cases h;refine n ⟨O,U,_,x,_,st,T,λN gN H1 g1 w L bl=>?_⟩;refine bR λn=>?_
    obtain⟨a,rfl,_,xs,l,J⟩:=A1 w L E;refine n ⟨a,rfl,.inr ⟨xs,.inl l⟩,N,U,_,rs,_,w,b,λZ vs aQ g2 cJ B nn=>?_⟩;have ev:=ER hb B;refine⟨alj (eP (by rw[gS.len B];exact c)),λp u=>?_⟩;refine⟨Z,U,_,_,_,cJ.f_ u,y,λF V D G hW iK xD=>?_⟩;have g:=g2.trans ((Go.f_ u).trans G);refine⟨_,lP.t (g.same.at' _ _ l) (by rw[<-ev];exact G.same.at' _ _ dU),?_⟩;have j:=(show ek X.K X.mg F D s xs from⟨J.1,J.2.go g⟩).val k;refine q F _ D (g1.trans g) hW ?_ trivial
    cases C:jL s k with
    |none=>rw[C]at j;rw[j];exact iK|some d=>rw[C]at j;obtain⟨v,aq,aC⟩:=j;rw[aq];exact aC
   .rw[if_neg c]at h;cases h
  .cases h⟩
def aaG{p:St}{H:au}{Q:c_}{O:a3}{U:aJ}{S j w:bL}{x r:R}{g:List D->R}(st:cU X.K X.mg O U S p H)(A:(m U).run S=.ok x j)
  (h:(do let o <-gL x;match o with|.l xs=>pure (g xs)|_=>bad:M R).run j=.ok r w) (q:yY X.K X.mg O U w p H r Q)
  (z:∀n d xs a b,n a=.out->d a=some (.l b)->bc X.K X.mg n d xs b->eM X.K X.mg n d (g xs) (.ref a)/\h2 H (g xs) (.ref a)):gk X.K X.mg m p H Q:=by
 obtain⟨o,N,u,F⟩:=M.inv h;clear h;have h:=F;refine⟨O,U,S,x,j,st,A,λt P s g1 k y bl=>?_⟩;obtain⟨a,rfl,J,G⟩:=A1 k y u;obtain rfl:=(gL x).ep _ _ _ u;split at h
 .cases h
  obtain⟨b,l,L⟩:=G;obtain⟨E,B⟩:=z t s _ a b (k.cw.rh.2 a J) l L;exact q t _ s g1 k E B
 .cases h
theorem afO(he:bh X e m):bh X e (lg m):=⟨eI he.un λt H Q b=>by
 obtain⟨O,U,S,r,s,st,h,q⟩:=b;obtain⟨x,n,d,h⟩:=M.inv h;exact aaG st d h q λp k xs a j _ l g=>⟨⟨a,j,rfl,l,g⟩,trivial⟩⟩
end
end aS
namespace aS
open PySem PySem.Spec aB
structure N(α:Type):Type where
 run:bL->Out α
def N.kA{α d:Type}(m:N α)(f:α->N d):N d:=⟨λS=>match m.run S with
 |.ok a b=>(f a).run b|.exc c b=>.exc c b| .bad=>.bad⟩
noncomputable instance:Monad N where
 pure a:=⟨λS=>.ok a S⟩
 bind:=N.kA
def N.inv{α i:Type}{m:N α}{f:α->N i}{S g:bL}{b:i}(h:(m >>= f).run S=.ok b g):∃a d,m.run S=.ok a d/\(f a).run d=.ok b g:=by
 have h:(N.kA m f).run S=.ok b g:=h;unfold N.kA at h;dsimp only at h
 cases e:m.run S with
 |ok a d=>rw[e]at h;exact⟨a,d,rfl,h⟩|exc c d=>rw[e]at h;cases h
 |bad=>rw[e]at h;cases h
def gX{α:Type}:N α:=⟨λ_=>.bad⟩
def M.up{α:Type}(m:M α):N α:=⟨m.run⟩
def zV:N bL:=⟨λS=>.ok S S⟩
def putN(S:bL):N Unit:=⟨λ_=>.ok () S⟩
abbrev dC:=aJ->N R
abbrev hL:=aJ->N (List R)
abbrev b7:=aJ->N fe
abbrev d0:=List D->N R
variable[aB.a4]
structure fH(O ai:a3)(H H':au):Prop where
 cells:∀b o,H b=some o->(b∉O.bQ\/Fix o)->(h:nf o:=by exact trivial)->H' b=some o
 own:∀b,H b≠none->ai b=O b
 has:∀b,H b≠none->H' b≠none
 dt:∀b ps,H b=some (.gE ps)->∃lF,H' b=some (.gE lF)
 b5:TabsOk H->TabsOk H'
 bQ:O.bQ <+: ai.bQ
 new:∀b∈ai.bQ,b∈O.bQ\/H b=none
structure g9(O ai:a3)(H H':au):Prop where
 cells:∀b o,H b=some o->(((O b=.free\/O b=.out)/\b∉O.bQ)\/Fix o)->(h:nf o:=by exact trivial)->H' b=some o
 own:∀b,H b≠none->(O b=.free\/O b=.out)->ai b=O b
 has:∀b,H b≠none->H' b≠none
 dt:∀b ps,H b=some (.gE ps)->∃lF,H' b=some (.gE lF)
 b5:TabsOk H->TabsOk H'
 bQ:O.bQ <+: ai.bQ
 new:∀b∈ai.bQ,b∈O.bQ\/H b=none
structure b0(O ai:a3)(H H':au):Prop where
 cells:∀b o,H b=some o->((O b=.free/\b∉O.bQ/\∃ys,o=.l ys)\/Fix o)->(h:nf o:=by exact trivial)->H' b=some o
 own:∀b ys,H b=some (.l ys)->O b=.free->ai b=.free
 bQ:O.bQ <+: ai.bQ
section
variable{K:aP}{mg:ba}{O aM bz ai:a3}{H H1 aQ H':au}{S aj:bL}{U U':aJ}{ao dj:St}
omit [aB.a4]in
theorem jW(e:H b=some o):H b≠none:=λz=>by rw[e]at z;cases z
def Go.dX(g:Go O ai H H'):fH O ai H H':=⟨λb o e _ n=>g.same.at' b o e n,g.own,λ_ h=>g.same.some h,g.same.dt,g.same.b5,by rw[g.bQ];exact aol _,λb h=>.inl (by rw[<-g.bQ];exact h)⟩
def ez.eE(g:ez O ai H H'):g9 O ai H H':=⟨λb o e h n=>g.cells b o e (h.elim (λz=>z.1.elim .inl λz=>.inr (.inl z)) λz=>.inr (.inr z)) n,g.own,g.has,g.dt,g.b5,by rw[g.bQ];exact aol _,λb h=>.inl (by rw[<-g.bQ];exact h)⟩
def fH.eE(g:fH O ai H H'):g9 O ai H H':=⟨λb o e h n=>g.cells b o e (h.imp (·.2) id) n,λb h _=>g.own b h,g.has,g.dt,g.b5,g.bQ,g.new⟩
def fH.trans(a:fH O aM H H1)(b:fH aM bz H1 aQ):fH O bz H aQ:=
  ⟨λc o e h n=>b.cells c o (a.cells c o e h n) (h.imp (λz m=>(a.new c m).elim z (jW e)) id) n,λc h=>(b.own c (a.has c h)).trans (a.own c h),λc h=>b.has c (a.has c h),λc ps h=>let⟨p1,aq⟩:=a.dt c ps h;b.dt c p1 aq,λg=>b.b5 (a.b5 g),
   a.bQ.trans b.bQ,λc m=>(b.new c m).elim (a.new c) λz=>.inr (by cases e:H c with|none=>rfl|some o=>exact absurd z (a.has c (jW e)))⟩
def g9.trans(a:g9 O aM H H1)(b:g9 aM bz H1 aQ):g9 O bz H aQ:=
  ⟨λc o e h n=>b.cells c o (a.cells c o e h n) (h.imp (λz=>⟨by rw[a.own c (jW e) z.1];exact z.1,λm=>(a.new c m).elim z.2 (jW e)⟩) id) n,
   λc h f=>(b.own c (a.has c h) (by rw[a.own c h f];exact f)).trans (a.own c h f),λc h=>b.has c (a.has c h),λc ps h=>let⟨p1,aq⟩:=a.dt c ps h;b.dt c p1 aq,λg=>b.b5 (a.b5 g),
   a.bQ.trans b.bQ,λc m=>(b.new c m).elim (a.new c) λz=>.inr (by cases e:H c with|none=>rfl|some o=>exact absurd z (a.has c (jW e)))⟩
def g9.di(g:g9 O ai H H'):b0 O ai H H':=⟨λb o e h n=>g.cells b o e (h.imp (λz=>⟨.inl z.1,z.2.1⟩) id) n,λb a e f=>(g.own b (jW e) (.inl f)).trans f,g.bQ⟩
def b0.yd(g:b0 O ai H H')(h:dQ K H a ys):dQ K H' a ys:=by
 rcases h with(h|⟨o,h⟩)|h
 .exact .inl (.inl (g.cells _ _ h (.inr (.inl ⟨_,rfl⟩))))
 .exact .inl (.inr ⟨o,g.cells _ _ h (.inr (.inr ⟨_,_,rfl⟩))⟩)
 .exact .inr h
omit [aB.a4]in
theorem j7.no(r:j7 O)(h:O a=w)(hw:w≠.out):a∉O.bQ:=λm=>hw (h.symm.trans (r.2 a m))
mutual
theorem Rep.di(g:b0 O ai H H')(rh:j7 O):∀{d:D}{v:V},Rep K mg O H d v->Rep K mg ai H' d v
 |.ay,_,h=>h|.az _,_,h=>h|.int _,_,h=>h|.str _,_,h=>h| .t _,_,h=>by obtain⟨a,b,q,l,r⟩:=h;exact⟨a,b,q,g.yd l,bc.di g rh r⟩
 |.l _,_,h=>by obtain⟨a,b,q,l,r⟩:=h;exact⟨a,b,q,⟨g.cells _ _ l.1 (.inl ⟨l.2,rh.no l.2 (by intro z;cases z),_,rfl⟩),g.own a _ l.1 l.2⟩,bc.di g rh r⟩
 |.ref _,_,h=>by
  obtain⟨a,q,l⟩:=h;obtain⟨t,e⟩:=g.bQ;exact⟨a,q,by rw[<-e,akE (ake.mp l).1];exact l⟩
 |.fn _,_,h=>h|.ty _,_,h=>h
theorem bc.di(g:b0 O ai H H')(rh:j7 O):∀{ds:List D}{c:List V},bc K mg O H ds c->bc K mg ai H' ds c
 |[],_,h=>h| _::_,_,h=>by obtain⟨x,r,q,a,b⟩:=h;exact⟨x,r,q,Rep.di g rh a,bc.di g rh b⟩
end
def bc.eE(g:g9 O o H H')(rh:j7 O)(h:bc K mg O H ds ys):bc K mg o H' ds ys:=h.di g.di rh
def Rep.dX(g:fH O o H H')(rh:j7 O){v:V}(h:Rep K mg O H d v):Rep K mg o H' d v:=h.di g.eE.di rh
def bc.dX(g:fH O o H H')(rh:j7 O)(h:bc K mg O H ds ys):bc K mg o H' ds ys:=h.eE g.eE rh
def R.i3:R->Bool
 |.v _=>true|.fr _=>true|_=>false
def eM.dX(g:fH O C H H')(rh:j7 O){r:R}{v:V}(av:r.i3=true)(h:eM K mg O H r v):eM K mg C H' r v:=by
 cases r with
 |v d=>exact Rep.dX g rh h| fr xs=>obtain⟨a,b,q,l,o,r⟩:=h;exact⟨a,b,q,g.cells _ _ l (.inl (rh.no o (by intro z;cases z))),(g.own a (jW l)).trans o,r.dX g rh⟩
 |cf xs=>cases av
 |mv xs=>cases av
def h2.dX(g:fH O C H H'):∀{r:R}{v:V},h2 H' r v->h2 H r v
 |.v _,_,_=>trivial|.cf _,_,_=>trivial|.mv _,_,_=>trivial|.fr _,_,h=>λa e=>by
  cases aq:H a with
  |none=>rfl|some o=>exact absurd (h a e) (g.has a (jW aq))
def lS(K:aP)(O:a3)(H:au)(a:Addr)(b:List V):Prop:=(gq H a (.l b)/\(O a=.free\/O a=.out)/\a∉O.bQ)\/Ca K a b
structure eC(K:aP)(mg:ba)(O:a3)(U:aJ)(S:bL)(ao:St)(H:au):Prop where
 s3:cU K mg O U S ao H
 full:O.bQ.length=S.length
 tf:∀(i:Nat)(xs:List D),U[i]? = some (.cf xs)->∃a ys,ao[i]?.join=some (.ref a)/\lS K O H a ys/\bc K mg O H xs ys
def lS.eE(g:g9 O C H H')(h:lS K O H a ys):lS K C H' a ys:=by
 rcases h with⟨h,f,m⟩|h
 .have b:=gq.some h
  refine .inl ⟨?_,by rw[g.own a b f];exact f,λz=>(g.new a z).elim m b⟩;rcases h with h|⟨o,h⟩
  .exact .inl (g.cells _ _ h (.inl ⟨f,m⟩))
  .exact .inr ⟨o,g.cells _ _ h (.inl ⟨f,m⟩)⟩
 .exact .inr h
def lS.v(h:lS K O H a ys):iu K O H a ys:=h.imp (λz=>⟨z.1,z.2.1⟩) id
def eC.go(s:eC K mg O U S C H)(g:Go O o H H')(d:c2 o H'):eC K mg o U S C H':=
 ⟨s.s3.go g d,by rw[g.bQ];exact s.full,λi xs e=>by obtain⟨a,b,aq,l,r⟩:=s.tf i xs e;exact⟨a,b,aq,l.eE g.aZ.eE,r.go g⟩⟩
def eC.aZ(s:eC K mg O U S I H)(g:ez O o H H')(k:fg U U' I C)(t:cU K mg o U' S C H'):eC K mg o U' S C H':=
 ⟨t,by rw[g.bQ];exact s.full,λi xs e=>by
  obtain⟨b,c⟩:=k.1 i xs e;obtain⟨a,d,aq,l,r⟩:=s.tf i xs b;exact⟨a,d,by rw[c];exact aq,l.eE g.eE,bc.aZ g r⟩⟩
def eC.dX(s:eC K mg O U S ao H)(g:fH O C H H')(d:c2 C H')(dh:fC K mg C H' I)(c:C.bQ.length=I.length):eC K mg C U I ao H':=by
 have rh:=s.s3.cw.rh;have cf:∀(i:Nat)(xs:List D),U[i]? = some (.cf xs)->∃a b,ao[i]?.join=some (.ref a)/\lS K C H' a b/\bc K mg C H' xs b:=λi xs e=>by
  obtain⟨a,b,aq,l,r⟩:=s.tf i xs e;exact⟨a,b,aq,l.eE g.eE,r.dX g rh⟩
 refine⟨⟨d,s.s3.len,λi t e=>?_,dh⟩,c,cf⟩;have l:=s.s3.loc i t e
 cases t with
 |e=>exact trivial|v d=>obtain⟨v,q,r⟩:=l;exact⟨v,q,r.dX g rh⟩
 |fc p xs=>obtain⟨a,b,q,o,l,r⟩:=l;exact⟨a,b,q,(g.own a (jW l)).trans o,g.cells _ _ l (.inl (rh.no o (by intro z;cases z))),r.dX g rh⟩
 |cf xs=>obtain⟨a,b,aq,l,r⟩:=cf i xs e;exact⟨a,b,aq,l.v,r⟩
end
inductive rB{α:Type}(K:aP)(mg:ba)(m:aJ->N α)(ao:St)(H:au)(P:a3->aJ->bL->α->Prop):Prop
 |mk (O:a3) (U:aJ) (S:bL) (x:α) (aj:bL) (st:eC K mg O U S ao H) (h:(m U).run S=.ok x aj) (q:P O U aj x):rB K mg m ao H P
def vv(K:aP)(mg:ba)(m:dC):TE:=λc H Q=>rB K mg m c H λO U d r=>∀b v a,fH O b H a->eC K mg b U d c a->eM K mg b a r v->h2 H r v->Q v a
def agH(K:aP)(mg:ba)(m:aJ->N Bool):TT:=λd H Q=>rB K mg m d H λO U e b=>∀c a,fH O c H a->eC K mg c U e d a->Q b a
def BO(K:aP)(mg:ba)(m:hL):gH:=λc H Q=>rB K mg m c H λO U d rs=>∀b vs a,fH O b H a->eC K mg b U d c a->gS K mg b a rs vs->k8 H rs vs->Q vs a
def vQ(K:aP)(mg:ba)(O:a3)(d:bL)(H:au)(f:fe)(e:Ends):Prop:=match f with
 |.bl U'=>∀b c a,g9 O b H a->eC K mg b U' d c a->e.bl c a|.bk U'=>∀b c a,g9 O b H a->eC K mg b U' d c a->e.bk c a|.cM U'=>∀b c a,g9 O b H a->eC K mg b U' d c a->e.cM c a|.cp r=>∀b v a,g9 O b H a->c2 b a->fC K mg b a d->b.bQ.length=d.length->Ce K mg b a r v->e.cp v a
def vQ.eE{O d:a3}(h:vQ K mg O C H o I)(g:g9 O d H H1):vQ K mg d C H1 o I:=by
 cases o with
 |bl U'=>exact λb c a g'=>h b c a (g.trans g')
 |bk U'=>exact λb c a g'=>h b c a (g.trans g')
 |cM U'=>exact λb c a g'=>h b c a (g.trans g')
 |cp r=>exact λb v a g'=>h b v a (g.trans g')
def pS(K:aP)(mg:ba)(m:b7):gZ:=λd c H=>rB K mg m c H λO _ b a=>vQ K mg O b H a d
section
variable(X:aN)
structure e8(e:Expr)(m:dC):Prop where
 un:b6 X e (vv X.K X.mg m)
structure oM(e:Expr)(m:aJ->N Bool):Prop where
 un:i' X e (agH X.K X.mg m)
structure oL(ax:List Expr)(m:hL):Prop where
 un:gR X ax (BO X.K X.mg m)
structure gT(st:Stmt)(m:b7):Prop where
 un:iQ X st (pS X.K X.mg m)
structure hM(ou:List Stmt)(m:b7):Prop where
 un:iw X ou (pS X.K X.mg m)
end
def dI(m:bj):dC:=λU=>(m U).up
def gn(m:aJ->M Bool):aJ->N Bool:=λU=>(m U).up
def e5(m:cW):hL:=λU=>(m U).up
def b4(m:aY):b7:=λU=>(m U).up
section
variable{X:aN}{e:Expr}{ax:List Expr}{m:bj}{t:aJ->M Bool}{ms:cW}{b:aY}{st:Stmt}{ou:List Stmt}
theorem agX(h:bh X e m):e8 X e (dI m):=⟨eI h.un λj H Q g=>by
 obtain⟨O,U,S,r,a,st,h,q⟩:=g;obtain rfl:=(m U).ep _ _ _ h;exact⟨O,U,a,r,a,st.s3,h,λd v c g1 f i nn=>q d v c g1.dX (st.go g1 f.cw) i nn⟩⟩
theorem ahi(h:fP X e t):oM X e (gn t):=⟨sR h.un λi H Q g=>by
 obtain⟨O,U,S,r,a,st,h,q⟩:=g;obtain rfl:=(t U).ep _ _ _ h;exact⟨O,U,a,r,a,st.s3,h,λd c g1 f=>q d c g1.dX (st.go g1 f.cw)⟩⟩
theorem agN(h:gr X ax ms):oL X ax (e5 ms):=⟨A' h.un λj H Q g=>by
 obtain⟨O,U,S,r,a,st,h,q⟩:=g;obtain rfl:=(ms U).ep _ _ _ h;exact⟨O,U,a,r,a,st.s3,h,λd v c g1 f i nn=>q d v c g1.dX (st.go g1 f.cw) i nn⟩⟩
theorem RX:∀D i H,pS K mg (b4 b) D i H->iq K mg b D i H:=by
 rintro D i H ⟨O,U,S,j,l,st,h,q⟩;obtain rfl:=(b U).ep _ _ _ h;refine⟨O,U,l,j,l,st.s3,h,?_⟩
 cases j with
 |bl U'=>exact λc f a g t k=>q c f a g.eE (st.aZ g k t)
 |bk U'=>exact λc f a g t k=>q c f a g.eE (st.aZ g k t)
 |cM U'=>exact λc f a g t k=>q c f a g.eE (st.aZ g k t)
 |cp r=>exact λc v a g d dh n=>q c v a g.eE d dh (by rw[g.bQ];exact st.full) n
def ahc(h:fD X st b):gT X st (b4 b):=⟨g4 h.un RX⟩
def RZ(h:hK X ou b):hM X ou (b4 b):=⟨xV h.un RX⟩
end
end aS
namespace aS
open PySem PySem.Spec aB
def bG(a b:b7):b7:=λU=>do
 let c <-a U
 match c with
 |.bl U'=>b U'|c=>pure c
def fA(t:aJ->N Bool)(a b:b7):b7:=λU=>do
 let t <-t U
 if t=true then a U else b U
def jz(i:Nat)(m:dC):b7:=λU=>do
 let r <-m U
 let d <-r.dat.up
 pure (.bl (U.set i (.v d)))
def kV(m:dC):b7:=λU=>do
 let r <-m U
 match r with
 |.v d=>pure (.cp (.v d))|.fr xs=>pure (.cp (.fr xs))|_=>gX
def i5(m:dC):b7:=λU=>do
 let _ <-m U
 pure (.bl U)
variable[aB.a4]
section
variable{K:aP}{mg:ba}{O p_:a3}{H H₀:au}{S:bL}{U:aJ}{ao:St}
def eC.cm(s:eC K mg O U S ao H)(H₀:au):eC K mg (cm H₀ O) U S ao H:=⟨s.s3.cm H₀,s.full,λi xs e=>by
 obtain⟨a,b,aq,l,r⟩:=s.tf i xs e;refine⟨a,b,aq,l.imp (λz=>⟨z.1,?_,z.2.2⟩) id,r.dz (jg _ _)⟩;rcases z.2.1 with f|f
 .exact .inl ((jg H₀ O).fr a f)
 .exact .inr (by rw[rQ (by rw[f];intro z;cases z)];exact f)⟩
def fH.cm(g:fH p_ O H₀ H):fH p_ (cm H₀ O) H₀ H:=⟨λb o e h n=>g.cells b o e h n,λb a=>(zR a).trans (g.own b a),g.has,g.dt,g.b5,g.bQ,g.new⟩
def eC.set{v:V}(st:eC K mg O U S ao H)(av:∀xs,s≠.cf xs)(h:j8 K mg O H (.loc i) s (some v)):eC K mg O (U.set i s) S (ao.set i (some v)) H:=⟨st.s3.set h,st.full,λj xs e=>by
 by_cases a:i=j
 .subst a
  rw[ak7 (by have:=(ake.mp e).1;rwa[ali]at this)]at e;exact absurd (akF e) (av xs)
 .rw[aku a]at e
  rw[aku a];exact st.tf j xs e⟩
end
section
variable{X:aN}{st:Stmt}{rest A B:List Stmt}{pos pos':Pos}{a b:b7}{e c:Expr}{m:dC}{t:aJ->N Bool}{i:Nat}{x:Str}
def ahg(h:gT X st a):hM X [st] a:=⟨Gw h.un⟩
def ahf(d:gT X st a)(s:hM X rest b):hM X (st::rest) (bG a b):=⟨xV (Gv d.un s.un) λD y H p=>by
 obtain⟨O,U,S,l,u,st,h,q⟩:=p;obtain⟨j,g,d,h⟩:=N.inv h;refine⟨O,U,S,j,g,st,d,?_⟩
 cases j with
 |bl f=>exact λk z w g1 n=>⟨k,f,g,l,u,n,h,q.eE g1⟩
 |cp r=>cases h;exact q
 |bk f=>cases h;exact q
 |cM f=>cases h;exact q⟩
theorem aha(s:oM X c t)(r:hM X A a)(n:hM X B b):gT X (.If c A B pos) (fA t a b):=⟨g4 (Gr s.un r.un n.un) λD w H l=>by
 obtain⟨O,U,S,g,k,st,h,q⟩:=l;obtain⟨t,d,p,h⟩:=N.inv h;refine⟨O,U,S,t,d,st,p,λf u g1 j=>?_⟩
 cases t with
 |false=>
  exact qJ ⟨f,U,d,g,k,j,h,q.eE g1.eE⟩
 |true=>
  exact qK ⟨f,U,d,g,k,j,h,q.eE g1.eE⟩⟩
theorem ahd(he:e8 X e m):gT X (.Return (some e) pos) (kV m):=⟨g4 (Gs he.un) λD w H n=>by
 obtain⟨O,U,S,s,u,st,h,q⟩:=n;obtain⟨r,l,p,h⟩:=N.inv h;refine⟨O,U,S,r,l,st,p,λj v g g1 f k nn=>?_⟩
 cases r with
 |v d=>cases h;exact q j v g g1.eE f.s3.cw f.s3.gM f.full k
 |fr xs=>cases h;exact q j v g g1.eE f.s3.cw f.s3.gM f.full (Qm k (.inr ⟨_,rfl⟩))
 |cf xs=>cases h
 |mv xs=>cases h⟩
theorem ag6(he:e8 X e m)(av:alr e none pos.line X.env=pure false:=by rfl):gT X (.Expr e pos) (i5 m):=⟨g4 (Gq he.un av) λD l H j=>by
 obtain⟨O,U,S,p,s,st,h,q⟩:=j;obtain⟨r,n,k,h⟩:=N.inv h;cases h;exact⟨O,U,S,r,_,st,k,λf v d g1 g u nn=>q f l d g1.eE g⟩⟩
theorem ahe(hN:X.N.Nodup)(y:X.N[i]? = some x)(p:Loc X.env.scope x)(he:e8 X e m)(av:alr e (some (.Name x pos')) pos.line X.env=pure false:=by rfl)(w:X.fn x=true\/X.env.scope.names.lookup x=some .local:=by first|exact .inl rfl|exact .inr rfl|assumption) :
  gT X (.Assign [.Name x pos'] e pos) (jz i m):=⟨g4 (Gu hN y p he.un av w) λD J H l=>by
 obtain⟨O,U,S,E,G,st,h,q⟩:=l;obtain⟨r,g,n,h⟩:=N.inv h;obtain⟨d,F,s,h⟩:=N.inv h;cases h;refine⟨O,U,S,r,g,st,n,λj v f g1 k u nn=>?_⟩;obtain⟨cN,rfl⟩:=qm u nn s;exact q (cm H j) _ f g1.cm.eE ((k.cm H).set (λxs z=>by cases z) ⟨v,rfl,cN⟩)⟩
end
def yR(b:iO)(O:a3)(H:au)(c:List V):Prop:=∀e a,g9 O e H a->∀i,(i<c.length->b.go i a/\∀x d,b.pT i a x d->d=a/\c[i]? = some x)/\(c.length<=i->b.stop i a)
def Rq(K:aP)(mg:ba)(m:fB):TI:=λc H R=>rB K mg (λU=>(m U).up) c H λO U f xs=>∀b a d e,Go O b H a->eC K mg b U f c a->yR d b a e->bc K mg b a xs e->R d a
structure y7(X:aN)(cI e:Expr)(m:fB):Prop where
 un:j5 X cI e (Rq X.K X.mg m)
def qG(m:bj):fB:=λU=>do
 let r <-m U
 match r with
 |.v (.l xs)=>pure xs|.fr xs=>pure xs|_=>bad
def jy(b:D->b7):List D->b7
 |[]=>λU=>pure (.bl U)
 |d::ds=>λU=>do
  let a <-b d U
  match a with
  |.bl U'=>jy b ds U'|.cM U'=>jy b ds U'|.bk U'=>pure (.bl U')|.cp r=>pure (.cp r)
def RN(B:D->b7)(it:fB):b7:=λU=>do
 let ds <-(it U).up
 jy B ds U
abbrev nB(i:Nat)(it:fB)(b:b7):b7:=RN (λd U=>b (U.set i (.v d))) it
section
variable{X:aN}{cI l iter:Expr}{m:bj}{a:Expr}{ms:cW}{pos p d8:Pos}{it:fB}{bd:b7}{body:List Stmt}{i:Nat}{x:Str}
theorem lS.Aj{K:aP}{O:a3}{H:au}{a:Addr}{xs:List V}(h:lS K O H a xs):yR (k4 K a) O H xs:=λc b g i=>EE (h.eE g).v.dO b (eZ.refl _) i
theorem agZ(u:bh X l m):y7 X cI l (qG m):=⟨ni (xS u.un) λy H R s=>by
 obtain⟨O,U,S,xs,w,st,h,q⟩:=s;obtain rfl:=(qG m U).ep _ _ _ h;obtain⟨r,g,k,h⟩:=M.inv h;obtain rfl:=(m U).ep _ _ _ k;refine⟨O,U,g,r,g,st.s3,k,λj v e g1 c n nn=>?_⟩;have f:=st.go g1 c.cw;split at h
 .cases h
  obtain⟨a,b,rfl,ls,d⟩:=n;exact⟨a,rfl,⟨b,ls.dO⟩,q j e (k4 X.K a) b g1 f (lS.Aj (.inl ⟨.inl ls.1,.inl ls.2,c.cw.rh.no ls.2 (by intro z;cases z)⟩)) d⟩
 .cases h
  obtain⟨a,b,rfl,ls,t,d⟩:=n;exact⟨a,rfl,⟨b,dy.of ls⟩,q (cm H j) e (k4 X.K a) b g1.cm (f.cm H) (lS.Aj (.inl ⟨.inl ls,.inl (wG (nn a rfl) t),c.cw.rh.no t (by intro z;cases z)⟩)) (d.dz (jg _ _))⟩
 .cases h⟩
theorem Zv{O:a3}(b:Int)(n:Nat):yR (p9 b n) O H (oq b n):=λd c _ i=>EG b n c (eZ.refl _) i
def ag0(f:eS X "range")(u:X.mg "range"=none)(r:gr X [a] ms)(av:akT [a] X.env=[(false,eval a X.env)]:=by rfl):y7 X cI (.Call (.Name "range" p) [a] [] pos) (m3 ms):=⟨ni (Gm f u r.un av) λy H R n=>by
 obtain⟨O,U,S,xs,w,st,h,q⟩:=n;obtain rfl:=(m3 ms U).ep _ _ _ h;obtain⟨rs,b,d,h⟩:=M.inv h;obtain rfl:=(ms U).ep _ _ _ d;split at h
 .rename_i j
  by_cases c:-(2 ^ 62)<=j/\j<2 ^ 62
  .rw[if_pos c]at h
   cases h;refine⟨O,U,b,_,b,st.s3,d,λg vs e g1 k t nn=>?_⟩;obtain⟨v,rfl,s⟩:=kR t;cases(show v=.int j from s);exact⟨j,rfl,c.1,c.2,q g e (p9 0 j.toNat) (oq 0 j.toNat) g1 (st.go g1 k.cw) (Zv _ _) (Qv _ _)⟩
  .rw[if_neg c]at h;cases h
 .cases h⟩
theorem OL{K:aP}{mg:ba}{J:iO}{G:jG}{B:aS.D->b7}{b:List aS.D}{y:a3}{U:aJ}{P H:bL}{T:St}{w:au}{F:fe}{Y:Ends}(Z:eC K mg y U P T w)(stop:∀g c,g9 y g w c->J.stop b.length c)
  (step:∀k d g c U' t z f n,b[k]? = some d->g9 y g w c->eC K mg g U' t z c->(B d U').run t=.ok f n->J.go k c/\∀x j (R:St->au->Prop),J.pT k c x j->
   (∀O S L,g9 g g c L->eC K mg g O t S L->(bd O).run t=.ok f n->R S L)->G x z j R)
  (h:(jy B b U).run P=.ok F H) (q:vQ K mg y H w F Y):sY (λ_ _ R=>R J w) G (pS K mg bd) Y T w:=by
 refine⟨λk m z c=>m=b.length-k/\k<=b.length/\∃g U' t,eC K mg g U' t z c/\g9 y g w c/\(jy B (b.drop k) U').run t=.ok F H,
  ⟨_,rfl,akG _,y,U,P,Z,(ez.refl _ _).eE,h⟩,?_⟩
 rintro k m z c ⟨rfl,aw,g,U',t,V,g',h⟩
 cases e:b.drop k with
 |nil=>
  obtain rfl:k=b.length:=by
   have:=congrArg alF e;rw[alp,alw]at this;omega
  rw[e]at h;cases h;exact .inl ⟨stop g c g',q g z c g' V⟩
 |cons d nT=>
  have gw:k<b.length:=by
   have:=congrArg alF e;rw[alp,akx]at this;omega
  have d2:b[k]? = some d:=by
   have:=congrArg (·[0]?) e;simpa using this
  have W:b.drop (k+1)=nT:=by
   simpa using congrArg (aoy 1) e
  rw[e]at h;obtain⟨Q,n,C,h⟩:=N.inv h;obtain⟨go,kq⟩:=step k d g c U' t z Q n d2 g' V C;refine .inr ⟨go,λE j=>∃s u n,eC K mg s u n E j/\g9 y s w j/\(jy B (b.drop (k+1)) u).run n=.ok F H,?_,λx j jA=>kq x j _ jA λO S L jh nr o=>?_⟩
  .rintro E j ⟨s,u,n,a1,a2,gU⟩
   exact⟨_,by omega,rfl,gw,s,u,n,a1,a2,gU⟩
  .refine⟨g,O,t,Q,n,nr,o,?_⟩
   have M:=g'.trans jh
   cases Q with
   |bl u=>exact λs E j A cJ=>⟨s,u,n,cJ,M.trans A,by rw[W];exact h⟩
   |cM u=>exact λs E j A cJ=>⟨s,u,n,cJ,M.trans A,by rw[W];exact h⟩
   |bk u=>cases h;exact λs E j A cJ=>q s E j (M.trans A) cJ
   |cp r=>cases h;exact λs v j A dJ aC f2 I=>q s v j (M.trans A) dJ aC f2 I
theorem VI{G:jG}{B:aS.D->b7}(Z:∀O U S b H d y f j Q,eC K mg O U S b H->Rep K mg O H d y->(B d U).run S=.ok f j->(∀r s,eC K mg O r S s H->(bd r).run S=.ok f j->Q s H)->G y b H Q) :
  ∀D b H,pS K mg (RN B it) D b H->sY (Rq K mg it) G (pS K mg bd) D b H:=by
 rintro D b H ⟨O,U,S,I,aj,st,h,q⟩;obtain⟨ds,z,F,h⟩:=N.inv h;refine⟨O,U,S,ds,z,st,F,λC o b' ys g1 t c w=>OL t (λn e g=>(c n e g _).2 (alE w.len)) (λk d n e U' hu dj f j P g' L J=>?_) h (q.eE g1.aZ.eE)⟩;obtain⟨y,u,M⟩:=(w.eE g' t.s3.cw.rh).get P;obtain⟨go,W⟩:=(c n e g' k).1 (ake.mp u).1;refine⟨go,λx A R V T=>?_⟩;obtain⟨rfl,ex⟩:=W x A V;rw[u]at ex;cases ex;exact Z _ _ _ _ _ _ _ _ _ _ L M J λr s Y E=>T _ _ _ (ez.refl _ _).eE Y E
def ag8(b:anm (model X.prog X.w) X.A X.env X.dv)(f:X.calm=true)(j:y7 X (.Name x d8) iter it)(hN:X.N.Nodup)(d:X.N[i]? = some x)(n:Loc X.env.scope x)(c:hM X body bd)
  (av:jH X iter:=by intro _;rfl) (g:X.fn x=true\/X.env.scope.names.lookup x=some .local:=by first|exact .inl rfl|exact .inr rfl|assumption):gT X (.For (.Name x d8) iter body [] pos) (nB i it bd):=
 ⟨g4 (xU b f j.un (u3 hN d n g) c.un av) (VI λ_ _ _ _ _ _ _ _ _ _ st e h k=>k _ _ (st.set (s:=.v _) (λxs z=>by cases z) ⟨_,rfl,e⟩) h)⟩
end
end aS
namespace aS
open PySem PySem.Spec aB
def fnX(n N:Nat)(b:b7):d0:=λds=>if ds.length=n then do
  let a <-b (ds.map c5++akA (N-n) .e)
  match a with
  |.cp (.v d)=>pure (.v d)|.cp (.fr xs)=>pure (.fr xs)|.bl _=>pure (.v .ay)|_=>gX
 else gX
def DA{n N:Nat}{ds:List D}{r:R}(h:(fnX n N b ds).run S=.ok r o):ds.length=n:=by
 unfold fnX at h
 by_cases c:ds.length=n
 .exact c
 .rw[if_neg c]at h;cases h
def mq:hL:=λ_=>pure []
def nA(m:dC)(a:hL):hL:=λU=>do
 let x <-m U
 let xs <-a U
 if x.i3=true then pure (x::xs)else gX
def BK(m:dC)(a:cW):hL:=λU=>do
 let x <-m U
 let xs <-(a U).up
 pure (x::xs)
def ir(mf:d0)(a:hL):dC:=λU=>do
 let rs <-a U
 if rs.all R.i3=true then mf (rs.map R.arg)else gX
def fY(c m:Str)(mf:d0)(mo:bj)(a:hL):dC:=λU=>do
 let x <-(mo U).up
 let o <-(gL x).up
 match o with
 |.bD c' fs=>if c'=c/\fs.lookup m=none then(do
  let rs <-a U
  if rs.all R.i3=true then mf (x.arg::rs.map R.arg)else gX)else gX
 |_=>gX
def yy(c:Str)(mf:d0)(a:hL):dC:=λU=>do
 let rs <-a U
 if rs.all R.i3=true then(do
  let S <-zV
  putN (S++[.bD c []])
  let r <-mf (.ref S.length::rs.map R.arg)
  match r with
  |.v .ay=>pure (.v (.ref S.length))| _=>gX)else gX
def rl(f:R->R->M R)(a b:dC):dC:=λU=>do
 let x <-a U
 let y <-b U
 if x.i3=true then(f x y).up else gX
variable[aB.a4]
def pX(K:aP)(mg:ba)(O:a3)(H:au):D->V->Prop
 |.l xs,v=>∃a b,v=.ref a/\((gq H a (.l b)/\a∉O.bQ)\/Ca K a b)/\bc K mg O H xs b|d,v=>Rep K mg O H d v
def nE(K:aP)(mg:ba)(O:a3)(H:au):List D->List V->Prop
 |[],ys=>ys=[]|x::xs,ys=>∃y r,ys=y::r/\pX K mg O H x y/\nE K mg O H xs r
section
variable{K:aP}{mg:ba}{O:a3}{H:au}{S:bL}
def pX.rep{v:V}(rh:j7 O)(h:Rep K mg O H d v):pX K mg O H d v:=by
 cases d with
 |l xs=>obtain⟨a,b,e,l,r⟩:=h;exact⟨a,b,e,.inl ⟨.inl l.1,rh.no l.2 (by intro z;cases z)⟩,r⟩
 |_=>exact h
def SQ{r:R}{v:V}(rh:j7 O)(av:r.i3=true)(h:eM K mg O H r v):pX K mg O H r.arg v:=by
 cases r with
 |v d=>exact pX.rep rh h| fr xs=>obtain⟨a,b,e,l,t,r⟩:=h;exact⟨a,b,e,.inl ⟨.inl l,rh.no t (by intro z;cases z)⟩,r⟩
 |cf _=>cases av
 |mv _=>cases av
theorem za(rh:j7 O):∀{rs:List R}{vs:List V},rs.all R.i3=true->gS K mg O H rs vs->nE K mg O H (rs.map R.arg) vs
 |[],_,_,h=>h|_::_,_,av,h=>by
  rw[amI,akD]at av;obtain⟨y,r,q,a,b⟩:=h;exact⟨y,r,q,SQ rh av.1 a,za rh av.2 b⟩
def pX.r{v:V}(h:pX K mg O H d v):vB K mg O H d v:=by
 cases d with
 |l xs=>obtain⟨a,b,e,l,r⟩:=h;exact⟨a,b,e,l.imp (·.1) id,r⟩
 |_=>exact h
theorem nE.r:∀{ds:List D}{vs:List V},nE K mg O H ds vs->mw K mg O H ds vs
 |[],_,h=>h| _::_,_,h=>by obtain⟨y,r,q,a,b⟩:=h;exact⟨y,r,q,a.r,nE.r b⟩
theorem nE.get:∀{ds:List D}{xs:List V}{i:Nat}{d:D},nE K mg O H ds xs->ds[i]? = some d->∃x,xs[i]? = some x/\pX K mg O H d x
 |[],_,_,_,_,e=>by simp at e| _::_,_,0,d,h,e=>by obtain⟨x,r,rfl,a,_⟩:=h;cases(show some _=some d from e);exact⟨x,rfl,a⟩
 |_::ds,_,i+1,d,h,e=>by
  obtain⟨x,r,rfl,_,b⟩:=h;obtain⟨y,aq,aC⟩:=nE.get b e;exact⟨y,by simpa using aq,aC⟩
def iL(K:aP)(mg:ba)(mf:d0):et:=λvs H Q _=>∃O ds r S c,c2 O H/\fC K mg O H S/\O.bQ.length=S.length/\nE K mg O H ds vs/\(mf ds).run S=.ok r c/\
 ∀b v a,fH O b H a->c2 b a->fC K mg b a c->b.bQ.length=c.length->eM K mg b a r v->h2 H r v->Q v a
def aej{ps N:List Str}{ds:List D}(h:c2 O H)(dh:fC K mg O H S)(f:O.bQ.length=S.length)(b:nE K mg O H ds vs)(k:ds.length=ps.length):eC K mg (e0 O) (ds.map c5++akA (N.length-ps.length) .e) S (aB.start N vs) H:=by
 refine⟨G5 h dh b.r k,f,λi xs e=>?_⟩
 by_cases j:i<ds.length
 .rw[akE (by rw[akc];exact j),akC]at e
  cases o:ds[i]? with
  |none=>rw[o]at e;cases e
  |some d=>
   rw[o]at e;obtain⟨v,c,g⟩:=b.get o
   cases d with
   |l n=>
    cases e;obtain⟨a,m,rfl,l,r⟩:=g;refine⟨a,m,?_,l.imp (λz=>⟨z.1,nR O a,z.2⟩) id,r.dz (la O)⟩;unfold aB.start;rw[akE (by rw[akc];exact(ake.mp c).1),akC,c];rfl
   |_=>cases e
 .rw[aky (by rw[akc];omega),alU]at e
  split at e
  .cases e
  .cases e
def J4{J:b7}{Q:c_}{s:bL}{r:R}(E:c2 O H)(M:eC K mg (e0 O) U S I H)(T:(J U).run S=.ok C s)(h:yN C r)(q:∀c v f,fH O c H f->c2 c f->fC K mg c f s->c.bQ.length=s.length->eM K mg c f r v->h2 H r v->Q v f):pS K mg J { bl:=fun _ f=>Q .ay f,cp:=Q } I H:=by
 have back:∀{c:a3}{f:au},g9 (e0 O) c H f->c2 c f->∃k:a3,fH O k H f/\c2 k f/\nG c k/\∀b,(c b=.ey\/∃i,c b=.loc i)->H b=none/\k b=.ey:=λ{c f} g d=>by
  have F:∀b,H b≠none->(match H b with|some _=>O b|none=>(match c b with|.loc _=>.ey|o=>o))=O b:=λb j=>by
   cases e:H b with
   |none=>exact absurd e j|some o=>rfl
  have B:∀b,H b=none->(match H b with|some _=>O b|none=>(match c b with|.loc _=>.ey|o=>o))=(match c b with|.loc _=>Own.ey|o=>o):=λb j=>by rw[j]
  refine⟨⟨λb=>match H b with|some _=>O b|none=>(match c b with|.loc _=>.ey|o=>o),c.bQ⟩,⟨λb o e h n=>g.cells b o e (h.imp (λz=>⟨nR O b,z⟩) id) n,F,g.has,g.dt,g.b5,g.bQ,g.new⟩,⟨λb j=>?_,d.tabs,d.rh.1,λb m=>?_⟩,⟨λb j=>?_,rfl⟩,λb j=>?_⟩
  .cases e:H b with
   |some o=>exact g.has b (jW e)|none=>
    refine d.has b λz=>j ?_
    refine(B b e).trans ?_;rw[z]
  .rcases g.new b m with z|z
   .exact(F b (E.has b (by rw[E.rh.2 b z];intro z;cases z))).trans (E.rh.2 b z)
   .refine(B b z).trans ?_
    rw[d.rh.2 b m]
  .cases e:H b with
   |some o=>exact(F b (jW e)).trans (qi.mp ((g.own b (jW e) (nR O b)).symm.trans j))|none=>
    refine(B b e).trans ?_;rw[j]
  .have u:H b=none:=by
    cases e:H b with
    |none=>rfl|some o=>
     exfalso;have bw:=g.own b (jW e) (nR O b);rcases nR O b with z|z<;>rw[z]at bw<;>rcases j with w|⟨i,w⟩<;>rw[bw]at w<;>cases w
   refine⟨u,(B b u).trans ?_⟩;rcases j with w|⟨i,w⟩<;>rw[w]
 refine⟨e0 O,_,S,C,s,M,T,?_⟩
 cases C with
 |bl U'=>
  cases h;intro c dj f g D;obtain⟨k,A,y,p,_⟩:=back g D.s3.cw;exact q k .ay f A y (D.s3.gM.all (λ_ _ z=>Rep.dz p z) p.bQ λ_ _ _ l _=>l) (by rw[p.bQ];exact D.full) rfl trivial
 |bk U'=>cases h
 |cM U'=>cases h
 |cp W=>
  intro c v f g d N P x;obtain⟨k,A,y,p,Y⟩:=back g d;have L:=N.all (λ_ _ z=>Rep.dz p z) p.bQ λ_ _ _ l _=>l
  have G:k.bQ.length=s.length:=by rw[p.bQ];exact P
  cases W with
  |v dd=>cases h;exact q k v f A y L G (Rep.dz p x) trivial
  |fr xs=>
   cases h;obtain⟨a,ys,rfl,l,t,Z⟩:=x;obtain⟨u,V⟩:=Y a t;exact q k _ f A y L G ⟨a,ys,rfl,l,V,Z.dz p⟩ λb X=>by cases X;exact u
  |cf xs=>exact akI x|mv xs=>exact akI x
theorem J5{ps N:List Str}(k:iL K mg (fnX ps.length N.length o) vs H Q E):pS K mg o { bl:=λ_ d=>Q .ay d,cp:=Q } (aB.start N vs) H:=by
 obtain⟨O,ds,r,S,g,b,dh,m,j,h,q⟩:=k;have c:=DA h;unfold fnX at h;rw[if_pos c]at h;obtain⟨a,e,f,h⟩:=aS.N.inv h;obtain⟨l,rfl⟩:yN a r/\e=g:=by cases a with|cp i=>cases i<;>cases h<;>exact⟨rfl,rfl⟩|_=>cases h<;>exact⟨rfl,rfl⟩
 exact J4 b (aej b dh m j c) f l q
end
structure yL(K:aP)(mg:ba)(c m qual:Str)(st:Stmt)(ps:List Str):Prop where
 ex:∃C f fd,mg c=some (.ref C)/\i8 K C/\Meth K C m f/\ks K m qual st f fd/\Binds K fd ps []
structure kY(P:akr)(w:World)(K:aP)(mg:ba)(base:Heap)(c m:Str)(ps:List Str)(k:Nat)(sp:et):Prop where
 ex:∃C f fd,mg c=some (.ref C)/\i8 K C/\Meth K C m f/\ff P w K mg base es k f fd ps sp/\Binds K fd ps []
section
variable{P:akr}{w:World}{K:aP}{mg:ba}{base:Heap}{x c m qual:Str}{st:Stmt}{ps N:List Str}{k:Nat}{cz:b7}{n nl:Nat}{f:Addr}{fd:ala}
def DB(F:ks K x qual st f fd)(b:gP N ps (c1 st))(e:ps.length=n)(l:N.length=nl)
  (g:∀(a:Value)(A:akw)(outer:List Env)(s:akd)(H:au)(E:e7),cL k (A.deeper (akK qual (c1 st) s.heap.objs.size f a))->
   hM (f5 es P w K mg base N qual (c1 st) f a A outer s H E).gA (ft st) cz):ff P w K mg base es (k+1) f fd ps (iL K mg (fnX n nl cz)):=by
 subst e l;exact F.ok b (λvs H Q E ⟨O,ds,r,S,p,t,dh,u,i,h,q⟩=>i.r.len.trans (DA h)) λa A outer s H vs Q E d j=>⟨_,(g a A outer s H E d).un,J5 j⟩
theorem WK(fM:fM K mg x st ps)(d:gP N ps (c1 st))(e:ps.length=n)(h:N.length=nl)
  (g:∀(f:Addr)(a:Value)(A:akw)(outer:List Env)(s:akd)(H:au)(E:e7),cL k (A.deeper (akK x (c1 st) s.heap.objs.size f a))->
   hM (f5 es P w K mg base N x (c1 st) f a A outer s H E).gA (ft st) cz):eg P w K mg base x ps (k+1) (iL K mg (fnX n nl cz)):=by
 obtain⟨f,fd,F,b,m⟩:=fM.ex;exact⟨f,fd,DB F d e h (λa=>g f a),b,F.kp,m⟩
theorem WH(fM:yL K mg c m qual st ps)(d:gP N ps (c1 st))(e:ps.length=n)(i:N.length=nl)
  (g:∀(f:Addr)(a:Value)(A:akw)(outer:List Env)(s:akd)(H:au)(E:e7),cL k (A.deeper (akK qual (c1 st) s.heap.objs.size f a))->
   hM (f5 es P w K mg base N qual (c1 st) f a A outer s H E).gA (ft st) cz):kY P w K mg base c m ps (k+1) (iL K mg (fnX n nl cz)):=by
 obtain⟨C,f,fd,h,cl,me,F,b⟩:=fM.ex;exact⟨C,f,fd,h,cl,me,DB F d e i (λa=>g f a),b⟩
theorem WI{cz:aY}(fM:yL K mg c m qual st ps)(d:gP N ps (c1 st))(e:ps.length=n)(i:N.length=nl)
  (g:∀(f:Addr)(a:Value)(A:akw)(outer:List Env)(s:akd)(H:au)(E:e7),cL k (A.deeper (akK qual (c1 st) s.heap.objs.size f a))->
   p0 (f5 es P w K mg base N qual (c1 st) f a A outer s H E).gA (ft st) cz):kY P w K mg base c m ps (k+1) (eQ K mg (fnOf n nl cz)):=by
 obtain⟨C,f,fd,h,cl,me,F,b⟩:=fM.ex;exact⟨C,f,fd,h,cl,me,Md F d e i (λa=>g f a),b⟩
end
section
variable{X:aN}{x:Str}{ps:List Str}{k:Nat}{mf:d0}{p pos:Pos}{e:Expr}{ax:List Expr}{ms:hL}{pm:cW}{RV:dC}
theorem k8.dX{O a:a3}(g:fH O a H H'):∀{rs:List R}{vs:List V},k8 H' rs vs->k8 H rs vs
 |[],_,_=>trivial|_::_,[],_=>trivial|_::_,_::_,h=>⟨h.1.dX g,k8.dX g h.2⟩
theorem agM(n:e8 X e RV)(g:gr X ax pm)(av:fQ X e ax:=by rfl):oL X (e::ax) (BK RV pm):=⟨A' (Gi n.un g.un av) λz H Q l=>by
 obtain⟨O,U,S,r,y,st,h,q⟩:=l;obtain⟨x,u,m,h⟩:=N.inv h;obtain⟨xs,w,c,h⟩:=N.inv h;cases h;obtain rfl:=(pm U).ep _ _ _ c;refine⟨O,U,S,x,_,st,m,λi d t g1 b f bl=>?_⟩;exact⟨i,U,_,xs,_,b.s3,c,λs vs j a cJ rs ns=>q s (d::vs) j (g1.trans a.dX) (b.go a cJ.cw) ⟨d,vs,rfl,f.go a,rs⟩ ⟨bl,ns.dX g1⟩⟩⟩
def Ud:∀b H Q,vv K mg (ir mf ms) b H Q->Br (iL K mg mf) (BO K mg ms) b H Q:=by
 rintro b H Q ⟨O,U,S,r,n,st,h,q⟩;obtain⟨rs,c,l,h⟩:=N.inv h;split at h
 .rename_i u
  refine⟨O,U,S,rs,c,st,l,λi vs y g1 a s nn=>?_⟩;exact⟨i,_,r,c,n,a.s3.cw,a.s3.gM,a.full,za a.s3.cw.rh u s,h,λm v f g d dh j t w=>q m v f (g1.trans g) (a.dX g d dh j) t (w.dX g1)⟩
 .cases h
def agQ(h:eg X.prog X.w X.K X.mg X.base x ps k (iL X.K X.mg mf))(b:cL k X.A)(a:eS X x)(c:oL X (e::ax) ms)(d:fo x:=by decide)
  (he:fQ X e ax:=by rfl) (f:gJ X pos ax:=by rfl):e8 X (.Call (.Name x p) (e::ax) [] pos) (ir mf ms):=
 ⟨eI (Ba h b a c.un d he f) Ud⟩
end
end aS
namespace aS
open PySem PySem.Spec aB
def e1(c m:Str)(mf:bx)(mo:bj)(a:cW):bj:=λU=>do
 let x <-mo U
 let o <-gL x
 match o with
 |.bD c' fs=>if c'=c/\fs.lookup m=none then(do
  let rs <-a U
  mf (x.arg::rs.map R.arg))else bad
 |_=>bad
def Bj(x:R)(o:ha):N Unit:=match x with
 |.v (.ref n)=>⟨λS=>.ok () (S.set n o)⟩
 |_=>gX
def eR(c f:Str)(mo:bj)(mv:dC):b7:=λU=>do
 let r <-mv U
 let d <-r.dat.up
 let x <-(mo U).up
 let o <-(gL x).up
 match o with
 |.bD c' fs=>if c'=c/\fs.length<1000 then(do
  Bj x (.bD c (i1 f d fs))
  pure (.bl U))else gX
 |_=>gX
def vo(mo mk:bj)(mv:dC):b7:=λU=>do
 let r <-mv U
 let d <-r.dat.up
 let x <-(mo U).up
 let k <-(mk U).up
 let o <-(gL x).up
 match o,k with
 | .hP C,.v d7=>(match qQ d7 with
  |some key=>if C.length<1000 then(do
   Bj x (.hP (je C key d))
   pure (.bl U))else gX
  |none=>gX)
 |_,_=>gX
def yx(mo:bj)(a:cW)(mv:dC):b7:=λU=>do
 let r <-mv U
 let d <-r.dat.up
 let x <-(mo U).up
 let rs <-(a U).up
 let o <-(gL x).up
 match o,sj rs with
 |.fR C,some k=>(if rs.length<=1000/\C.length<1000 then(do
  Bj x (.fR (je C k d))
  pure (.bl U))else gX)
 |_,_=>gX
def yz(f:List D->List R->M (R×List D))(mo:bj)(a:cW):b7:=λU=>do
 let x <-(mo U).up
 let rs <-(a U).up
 let o <-(gL x).up
 match o with
 |.l xs=>do
  let p <-(f xs rs).up
  Bj x (.l p.2)
  pure (.bl U)
 |_=>gX
def vp(m:dC):dC:=λU=>do
 let r <-m U
 match r with
 |.fr xs=>do
  let S <-zV
  putN (S++[.l xs])
  pure (.v (.ref S.length))
 |_=>gX
variable[aB.a4]
def hT(O:a3)(p:Addr):a3:=⟨λb=>if b=p then .out else O b,O.bQ++[p]⟩
section
variable{K:aP}{mg:ba}{O ai:a3}{H H':au}{S aj:bL}{U:aJ}{ao:St}{p a:Addr}{o:ha}{n:Nat}{u u':g_}
omit [aB.a4]in
theorem px(h:b≠p):hT O p b=O b:=if_neg h
omit [aB.a4]in
theorem abi:hT O p p=.out:=if_pos rfl
theorem Pm(c:c2 O H)(d:p∉O.bQ):j7 (hT O p):=⟨amy.mpr ⟨c.rh.1,by simp,λx b y f=>by rintro rfl;rw[akt.mp f]at b;exact d b⟩,λa m=>by
 by_cases e:a=p
 .rw[e];exact abi
 .rw[px e];exact c.rh.2 a ((akO.mp m).elim id λz=>absurd (akt.mp z) e)⟩
def c2.FV(b:c2 O H)(c:H p=none):p∉O.bQ:=λm=>b.has p (by rw[b.rh.2 p m];intro z;cases z) c
theorem alloc(i:c2 O H)(dh:fC K mg O H S)(q:O.bQ.length=S.length)(k:H p=none)(c:eZ H H')(x:H' p≠none)(bD:(∀d v,Rep K mg O H d v->Rep K mg (hT O p) H' d v)->nL K mg (hT O p) H' p o) :
  fH O (hT O p) H H'/\c2 (hT O p) H'/\fC K mg (hT O p) H' (S++[o])/\(hT O p).bQ.length=(S++[o]).length:=by
 have g:fH O (hT O p) H H':=⟨λb o e _ n=>c.at' b o e n,λb j=>px (by rintro rfl;exact j k),λ_ h=>c.some h,c.dt,c.b5,anN _ _,λb m=>(akO.mp m).imp id λz=>by rw[akt.mp z];exact k⟩;have f:∀d v,Rep K mg O H d v->Rep K mg (hT O p) H' d v:=λ_ _ z=>Rep.dX g i.rh z
 refine⟨g,⟨λb j=>?_,c.b5 i.tabs,Pm i (i.FV k)⟩,λn w e=>?_,by rw[akh,<-q];exact akh⟩
 .by_cases e:b=p
  .rw[e];exact x
  .rw[px e]at j;exact c.some (i.has b j)
 .by_cases r:n<S.length
  .rw[akE r]at e
   obtain⟨a,s,t⟩:=dh n w e;exact⟨a,by show(O.bQ++[p])[n]? = _;rw[akE (by rw[q];exact r)];exact s,t.all f λu l n=>c.at' _ _ l n⟩
  .rw[aky (by omega)]at e
   obtain rfl:n=S.length:=by
    have:=(ake.mp e).1;simp at this;omega
   rw[al1]at e;cases e;exact⟨p,by show(O.bQ++[p])[S.length]? = _;rw[<-q,aky (akf _),al1];rfl,bD f⟩
def eC.write(st:eC K mg O U S ao H)(i:O.bQ[n]? = some a)(c:H a=some u)(A:¬Fix u)(s:∀ps,u≠.gE ps)(x:∀q,u≠.ext (rE a q))(bD:(∀d v,Rep K mg O H d v->Rep K mg O (upd H a u') d v)->nL K mg O (upd H a u') a o) :
  fH O O H (upd H a u')/\eC K mg O U (S.set n o) ao (upd H a u'):=by
 have b5:TabsOk H->TabsOk (upd H a u'):=λt=>t.put u' (λps z=>s ps (akF (c.symm.trans z))) (λq z=>x q (akF (c.symm.trans z)))
 have has:∀b,H b≠none->upd H a u' b≠none:=λb j=>by
  by_cases e:b=a
  .rw[e,dU];intro z;cases z
  .rw[du e];exact j
 have g:fH O O H (upd H a u'):=by
  refine⟨λb o e h _=>?_,λ_ _=>rfl,has,λb ps e=>⟨ps,?_⟩,b5,aol _,λ_ m=>.inl m⟩
  .rw[du]
   .exact e
   .rintro rfl
    rcases h with h|h
    .exact h (akQ i)
    .rw[c]at e;cases e;exact A h
  .rw[du]
   .exact e
   .rintro rfl;rw[c]at e;cases e;exact s _ rfl
 have f:∀d v,Rep K mg O H d v->Rep K mg O (upd H a u') d v:=λ_ _ z=>Rep.dX g st.s3.cw.rh z
 refine⟨g,st.dX g ⟨λb j=>has b (st.s3.cw.has b j),b5 st.s3.cw.tabs,st.s3.cw.rh⟩ (λk y e=>?_) (by rw[ali];exact st.full)⟩
 by_cases r:n=k
 .subst r
  rw[ak7 (by have:=(ake.mp e).1;rwa[ali]at this)]at e;cases e;exact⟨a,i,bD f⟩
 .rw[aku r]at e
  obtain⟨b,aq,aC⟩:=st.s3.gM k y e;refine⟨b,aq,aC.all f λu l _=>?_⟩;rw[du]
  .exact l
  .rintro rfl
   obtain⟨bw,cB⟩:=ake.mp aq;obtain⟨B,w⟩:=ake.mp i;exact r ((List.getElem_inj st.s3.cw.rh.1).mp (w.trans cB.symm))
theorem gS.dX(g:fH O ai H H')(rh:j7 O):∀{rs:List R}{vs:List V},rs.all R.i3=true->gS K mg O H rs vs->gS K mg ai H' rs vs
 |[],_,_,h=>h|_::_,_,av,h=>by
  rw[amI,akD]at av;obtain⟨y,r,q,a,b⟩:=h;exact⟨y,r,q,a.dX g rh av.1,gS.dX g rh av.2 b⟩
def uT{r:R}{v:V}(st:cU K mg O U S ao H)(f:eM K mg O H r v)(h:(gL r).run S=.ok o aj):∃n a,r=.v (.ref n)/\v=.ref a/\O.bQ[n]? = some a/\S[n]? = some o/\nL K mg O H a o:=by
 obtain⟨n,rfl,e,rfl⟩:=Pq h;obtain⟨a,d,i⟩:=st.gM n o e;obtain⟨b,g,c⟩:=f;rw[d]at c;cases c;exact⟨n,a,rfl,g,d,e,i⟩
theorem ek.Fp:∀{I:List (Str×D)}{C:List (Str×V)},ek K mg O H I C->I.lookup f=none->C.lookup f=none
 |[],C,h,e=>by obtain rfl:=h.xx;rfl
 |p::I,C,h,e=>by
  obtain⟨q,r,rfl,aq,aC,b⟩:=h.cons;obtain⟨p1,eW⟩:=p;obtain⟨bw,cB⟩:=q;cases(show p1=bw from aq);rw[akU]at e ⊢
  cases cu:f==p1 with
  |true=>rw[cu]at e;cases e
  |false=>rw[cu]at e;exact ek.Fp b e
end
def Bs(mg:ba)(c m:Str)(sp:et)(e:TE)(t:gH):TE:=λU H Q=>e U H λx b=>∃a C f fs,x=.ref a/\mg c=some (.ref C)/\b a=some (.ins C f fs)/\fs.lookup m=none/\t U b λvs d=>sp (x::vs) d Q j4
def Ci(t:TE):Prop:=∀U H Q b,(∀v a,Q v a->b v a)->t U H Q->t U H b
def vk:Ci (gk K mg m):=λd H Q e i ⟨O,U,S,x,c,st,h,q⟩=>⟨O,U,S,x,c,st,h,λb v a g s p n=>i _ _ (q b v a g s p n)⟩
section
variable{X:aN}{c m:Str}{ps:List Str}{k:Nat}{sp:et}{o e:Expr}{ax:List Expr}{cC:TE}{t:gH}{apos pos:Pos}{mf:d0}{sO:bx}{mo:bj}{pm:cW}{ms:hL}
def PN{pl:Sem Bool}(h:kY X.prog X.w X.K X.mg X.base c m ps k sp)(i:cL k X.A)(up:Ci cC)(he:b6 X o cC)(j:gR X (e::ax) t)
  (s:fQ X e ax:=by rfl) (p:gJ X pos ax:=by rfl)
  (l:oN X pl o m apos (e::ax) pos:=by rfl) :
  b6 X (.Call (.Attribute o m apos) (e::ax) [] pos) (Bs X.mg c m sp cC t):=by
 obtain⟨C,f,B,u,cl,me,F,b⟩:=h.ex;refine eI (acH he cl me F i b .nil u2 j s p l) λU H Q g=>up _ _ _ _ (λv y z=>?_) g
 obtain⟨a,D,n,fs,r,d,q,x,z⟩:=z;rw[u]at d;cases d;refine⟨a,n,fs,r,q,x,?_⟩;simpa only[ak5]using z
def PO{pl:Sem Bool}(h:kY X.prog X.w X.K X.mg X.base c m ps k sp)(i:cL k X.A)(up:Ci cC)(he:b6 X o cC)
  (j:oN X pl o m apos [] pos:=by rfl) :
  b6 X (.Call (.Attribute o m apos) [] [] pos) (Bs X.mg c m sp cC yg):=by
 obtain⟨C,f,u,q,cl,me,F,b⟩:=h.ex;refine eI (acI he cl me F i b .nil u2 j) λU H Q g=>up _ _ _ _ (λv s z=>?_) g
 obtain⟨a,x,l,fs,p,d,n,r,z⟩:=z;rw[q]at d;cases d;exact⟨a,l,fs,p,n,r,z⟩
def FO:∀f H Q,gk K mg (e1 c m sO mo pm) f H Q->Bs mg c m (eQ K mg sO) (gk K mg mo) (pJ K mg pm) f H Q:=by
 rintro f H Q ⟨O,U,S,r,B,st,h,q⟩;refine bR λb=>?_
 obtain⟨x,u,z,P⟩:=M.inv h;clear h;refine b ⟨O,U,S,x,u,st,z,λw gN H1 g1 l j bl=>?_⟩;refine bR λb=>?_
 obtain⟨bD,aT,p,h⟩:=M.inv P;obtain⟨n,a,rfl,rfl,ra,y,T⟩:=uT l j p;obtain rfl:=(gL (.v (.ref n))).ep _ _ _ p;split at h
 .rename_i c' fs
  split at h
  .rename_i V
   obtain⟨rfl,W⟩:=V;obtain⟨rs,I,D,h⟩:=M.inv h;obtain⟨C,L,kE,N,J,Y⟩:=T;refine b ⟨a,C,L,kE,rfl,J.1,N,Y.Fp W,w,U,_,rs,I,l,D,λG vs aQ i cJ E nn=>?_⟩;obtain rfl:=(sO _).ep _ _ _ h;exact⟨G,.ref n::rs.map R.arg,r,B,cJ.cw,cJ.gM,⟨_,_,rfl,H9 (eM.go i j),Cs E⟩,h,λA v s g d F Z=>q A v s ((g1.trans i).trans g) (cJ.go g d) F (Z.back (g1.trans i).same)⟩
  .cases h
 .cases h
def afQ{pl:Sem Bool}(h:kY X.prog X.w X.K X.mg X.base c m ps k (eQ X.K X.mg sO))(a:cL k X.A)(he:bh X o mo)(b:gr X (e::ax) pm)
  (g:fQ X e ax:=by rfl) (f:gJ X pos ax:=by rfl)
  (d:oN X pl o m apos (e::ax) pos:=by rfl):bh X (.Call (.Attribute o m apos) (e::ax) [] pos) (e1 c m sO mo pm):=
 ⟨eI (PN h a vk he.un b.un g f d) FO⟩
def afR{pl:Sem Bool}(h:kY X.prog X.w X.K X.mg X.base c m ps k (eQ X.K X.mg sO))(f:cL k X.A)(he:bh X o mo)
  (i:oN X pl o m apos [] pos:=by rfl):bh X (.Call (.Attribute o m apos) [] [] pos) (e1 c m sO mo cO):=
 ⟨eI (PO h f vk he.un i) λn H Q d=>vk _ _ _ _ (λv b z=>by
  obtain⟨a,C,j,fs,aq,aC,cP,e_,O,U,S,rs,l,st,g,q⟩:=z;cases g;exact⟨a,C,j,fs,aq,aC,cP,e_,q O [] b (Go.refl _ _) st rfl trivial⟩) (FO _ _ _ d)⟩
def O_:∀i H Q,vv K mg (fY c m mf mo ms) i H Q->Bs mg c m (iL K mg mf) (gk K mg mo) (BO K mg ms) i H Q:=by
 rintro i H Q ⟨O,U,S,r,F,st,h,q⟩;refine bR λb=>?_
 obtain⟨x,l,s,Y⟩:=N.inv h;clear h;obtain rfl:=(mo U).ep _ _ _ s;refine b ⟨O,U,l,x,l,st.s3,s,λA gN H1 g1 f p bl=>?_⟩;refine bR λb=>?_
 obtain⟨bD,aT,u,h⟩:=N.inv Y;obtain⟨n,a,rfl,rfl,ra,D,Z⟩:=uT f p u;obtain rfl:=(gL (.v (.ref n))).ep _ _ _ u;split at h
 .rename_i c' fs
  split at h
  .rename_i I
   obtain⟨rfl,hm⟩:=I;obtain⟨rs,y,G,h⟩:=N.inv h;obtain⟨C,T,kE,V,P,iJ⟩:=Z;split at h
   .rename_i W
    refine b ⟨a,C,T,kE,rfl,P.1,V,iJ.Fp hm,A,U,_,rs,y,(st.go g1 f.cw),G,λM vs aQ w cJ J nn=>?_⟩;have j:=g1.dX.trans w;exact⟨M,.ref n::rs.map R.arg,r,y,F,cJ.s3.cw,cJ.s3.gM,cJ.full,⟨_,_,rfl,Rep.dX w f.cw.rh p,za cJ.s3.cw.rh W J⟩,h,λE v z g d dh B L iY=>q E v z (j.trans g) (cJ.dX g d dh B) L (iY.dX j)⟩
   .cases h
  .cases h
 .cases h
def agU{pl:Sem Bool}(h:kY X.prog X.w X.K X.mg X.base c m ps k (iL X.K X.mg mf))(a:cL k X.A)(he:bh X o mo)(b:oL X (e::ax) ms)
  (g:fQ X e ax:=by rfl) (f:gJ X pos ax:=by rfl)
  (d:oN X pl o m apos (e::ax) pos:=by rfl):e8 X (.Call (.Attribute o m apos) (e::ax) [] pos) (fY c m mf mo ms):=
 ⟨eI (PN h a vk he.un b.un g f d) O_⟩
def agV{pl:Sem Bool}(h:kY X.prog X.w X.K X.mg X.base c m ps k (iL X.K X.mg mf))(f:cL k X.A)(he:bh X o mo)
  (i:oN X pl o m apos [] pos:=by rfl):e8 X (.Call (.Attribute o m apos) [] [] pos) (fY c m mf mo mq):=
 ⟨eI (PO h f vk he.un i) λn H Q d=>vk _ _ _ _ (λv b z=>by
  obtain⟨a,C,j,fs,aq,aC,cP,e_,O,U,S,rs,l,st,g,q⟩:=z;cases g;exact⟨a,C,j,fs,aq,aC,cP,e_,q O [] b (Go.refl _ _).dX st rfl trivial⟩) (O_ _ _ _ d)⟩
theorem RY{fs:List Str}{p:Pos}(T:p2 X.K X.mg c fs)(h:kY X.prog X.w X.K X.mg X.base c "__init__" ps k (iL X.K X.mg mf))(I:cL (k+1) X.A)(Z:eS X c)(n:oL X (e::ax) ms)(eb:fo c:=by decide)
  (he:fQ X e ax:=by rfl) (ei:gJ X pos ax:=by rfl):e8 X (.Call (.Name c p) (e::ax) [] pos) (yy c mf ms):=by
 refine bR λi=>?_
 obtain⟨C,f,fd,E,cl,me,F,b⟩:=h.ex;obtain⟨j0,P,_,⟨mk,kp⟩,_⟩:=T.ex;rw[E]at P;cases P;refine i ⟨eI (acG ⟨mk,me.at_,me.fn,kp⟩ F I Z E b .nil u2 n.un eb he ei) λao H Q aW=>?_⟩;refine bR λi=>?_
 obtain⟨O,U,S,r,aj,st,h,q⟩:=aW;obtain⟨rs,l,af,G⟩:=N.inv h;refine i ⟨O,U,S,rs,l,st,af,λu vs J g1 j bf nn a y n Y x=>?_⟩;refine bR λi=>?_
 split at G
 .rename_i M
  obtain⟨kx,aT,ah,aa⟩:=N.inv G;cases ah;obtain⟨_,ix,bY,hc⟩:=N.inv aa;cases bY;obtain⟨cg,jF,dn,h⟩:=N.inv hc;have fz:eZ J (upd (upd J y (.own a)) a (.ins C y [])):=(sT Y _).trans (sT (by rw[du (alQ x)];exact n) _);obtain⟨D,B,V,L⟩:=alloc (o:=.bD c []) j.s3.cw j.s3.gM j.full n fz (by rw[dU];intro z;cases z) λ_=>⟨C,y,[],dU,⟨E,cl⟩,rfl,rfl⟩
  refine i ?_;rw[ak5];have s:(hT u a).bQ[l.length]? = some a:=by show(u.bQ++[a])[l.length]? = _;rw[<-j.full,aky (akf _),al1];rfl
  refine⟨hT u a,.ref l.length::rs.map R.arg,cg,_,jF,B,V,L,⟨_,_,rfl,⟨a,rfl,s⟩,?_⟩,dn,λai v W g d dh aR bo iY=>?_⟩
  .exact za B.rh M (gS.dX D j.s3.cw.rh M bf)
  .refine bR λi=>?_
   split at h
   .cases h
    refine i ⟨bo,q ai _ W ((g1.trans D).trans g) ((j.dX D B V L).dX g d dh aR) ⟨a,rfl,?_⟩ trivial⟩;obtain⟨t,e⟩:=g.bQ;rw[<-e,akE (ake.mp s).1];exact s
   .cases h
 .cases G
end
end aS
namespace aS
open PySem PySem.Spec aB PyProof.Rows
@[reducible] def NL:aoL where
 α:=Int
 blt a b:=decide (a<b)
 irrefl a:=by simp
 trans a b c o C:=by simp only[decide_eq_true_eq]at *;omega
 negTrans a b c h:=by simp only[decide_eq_true_eq]at *;omega
 total a b o C:=by simp only[decide_eq_false_iff_not]at *;omega
 keyOf v:=match v with|.int i _=>some i|_=>none
 dflt:=0
def Zl:NL.OneLt:=by
 intro prog w A E s x y a b Q d c h;cases x<;>simp only[ reduceCtorEq]at d
 cases y<;>simp only[ reduceCtorEq]at c
 cases d;cases c;exact oneLt_int h
structure gF where
 κ:aoL
 d7:κ.α->D
 un:D->Option κ.α
structure gF.Ok(Z:gF):Prop where
 one:Z.κ.OneLt
 tb:∀d a,Z.un d=some a->d=Z.d7 a
 key:∀(a:Z.κ.α)(K:aP)(mg:ba)(O:a3)(H:au)(v:V)(u:Value),Rep K mg O H (Z.d7 a) v->RelV v u->Z.κ.keyOf u=some a
 kind:∀(tg th:Value)(vs:List Value),(∀v∈tg::th::vs,∃a,Z.κ.keyOf v=some a)->keyKind' (tg::th::vs).toArray=pure oneType'
@[reducible] def gg:gF where
 κ:=NL
 d7:=D.int
 un d:=match d with|.int i=>some i|_=>none
@[reducible] def jr:gF where
 κ:=aoM
 d7:=λl=>D.str ⟨l.toArray⟩
 un d:=match d with|.str x=>some x.cps.toList|_=>none
def Oi:gg.Ok where
 one:=Zl
 tb:=λd a h=>by cases d<;>first|(cases h;rfl)|cases h
 key:=λa K mg O H v u h r=>by
  cases(show v=.int a from h);obtain⟨t,rfl⟩:=r;rfl
 kind:=λe f vs h=>by
  refine keyKind_ints (intsAre_map _ λv c=>?_);obtain⟨a,b⟩:=h v c;cases v<;>first|(exact⟨_,_,rfl⟩)|cases b
def Oj:jr.Ok where
 one:=strKind_oneLt
 tb:=λd a h=>by cases d<;>first|(cases h;rfl)|cases h
 key:=λa K mg O H v u h r=>by
  cases(show v=.str ⟨a.toArray⟩from h);obtain⟨t,rfl⟩:=r;rfl
 kind:=λe f vs h=>by
  have key:∀(l:List Value),(∀v∈l,∃a,aoM.keyOf v=some a)->∃ss,StrsAre l ss:=λl=>by
   induction l with
   |nil=>exact λ_=>⟨[],.nil⟩
   |cons v l b=>
    intro h;obtain⟨ss,av⟩:=b λw hw=>h w (aki _ hw)
    obtain⟨a,c⟩:=h v akj;cases v<;>first|exact⟨_::ss,.cons _ _ av⟩|cases c
  obtain⟨ss,av⟩:=key _ h;exact keyKind_strs av
section
variable{β:Type}
def ui(blt:β->β->Bool)(p:β×D):List (β×D)->List (β×D)
 |[]=>[p]
 |q::r=>if blt q.1 p.1 then q::ui blt p r else p::q::r
def il(blt:β->β->Bool):List (β×D)->List (β×D)
 |[]=>[]
 |p::r=>ui blt p (il blt r)
theorem EB(blt:β->β->Bool)(p:β×D):∀l,(ui blt p l).Perm (p::l)
 |[]=>.refl _|q::r=>by
  unfold ui;split
  .exact((EB blt p r).cons q).trans (.swap p q r)
  .exact .refl _
theorem Bk(blt:β->β->Bool):∀l,(il blt l).Perm l
 |[]=>.refl _|p::r=>(EB blt p _).trans ((Bk blt r).cons p)
end
theorem NJ(O:alH)(p:O.α×D):∀l:List (O.α×D),l.Pairwise (λa b=>O.blt a.1 b.1=true)->(∀q∈l,q.1≠p.1)->(ui O.blt p l).Pairwise (λa b=>O.blt a.1 b.1=true)
 |[],_,_=>List.pairwise_singleton _ _|q::r,h,o=>by
  rw[al2]at h;unfold ui
  cases e:O.blt q.1 p.1 with
  |true=>
   rw[if_pos rfl,al2];refine⟨λx c=>?_,NJ O p r h.2 λx c=>o x (aki _ c)⟩;rcases akq.mp ((EB O.blt p r).mem_iff.mp c)with rfl|c
   .exact e
   .exact h.1 x c
  |false=>
   rw[if_neg akp,al2,al2];have d:O.blt p.1 q.1=true:=by
    cases aC:O.blt p.1 q.1 with
    |true=>rfl|false=>exact absurd (O.total _ _ e aC) (o q akj)
   refine⟨λx c=>?_,h.1,h.2⟩;rcases akq.mp c with rfl|c
   .exact d
   .exact O.trans _ _ _ d (h.1 x c)
theorem GX(O:alH):∀l:List (O.α×D),(l.map (·.1)).Nodup->(il O.blt l).Pairwise (λa b=>O.blt a.1 b.1=true)
 |[],_=>.nil|p::r,h=>by
  rw[akm,ak8]at h;refine NJ O p _ (GX O r h.2) λq c e=>h.1 ?_
  rw[<-e];exact amg ((Bk O.blt r).mem_iff.mp c)
theorem Qp{f:Type}{lt:f->f->Prop}(g:∀a,¬lt a a)(jX:∀a b c,lt a b->lt b c->lt a c):∀{d l₂:List f},d.Perm l₂->d.Pairwise lt->l₂.Pairwise lt->d=l₂
 |[],l₂,p,_,_=>(List.nil_perm.mp p).symm|a::d,[],p,_,_=>(List.nil_perm.mp p.symm)
 |a::d,b::l₂,p,o,C=>by
  rw[al2]at o C;have e:a=b:=by
   rcases akq.mp (p.mem_iff.mp akj)with h|h
   .exact h
   .rcases akq.mp (p.mem_iff.mpr akj)with h'|h'
    .exact h'.symm
    .exact(g _ (jX _ _ _ (o.1 b h') (C.1 a h))).elim
  subst e;rw[Qp g jX (List.Perm.cons_inv p) o.2 C.2]
def GZ(O:alH){l ps:List (O.α×D)}(d:(l.map (·.1)).Nodup)(e:ps.Perm l)(av:ps.Pairwise (λa b=>O.blt a.1 b.1=true)):ps=il O.blt l:=
 Qp (lt:=λa b=>O.blt a.1 b.1=true) (λa=>by rw[O.irrefl];exact akp) (λa b c=>O.trans _ _ _) (e.trans (Bk O.blt l).symm) av (GX O l d)
def aen(O:alH){ps:List (O.α×D)}(c:(ps.map (·.1)).Nodup)(h:ps.Pairwise (λa b=>O.blt b.1 a.1=false)):ps.Pairwise (λa b=>O.blt a.1 b.1=true):=by
 induction ps with
 |nil=>exact .nil|cons p r g=>
  rw[akm,ak8]at c;rw[al2]at h ⊢;refine⟨λq d=>?_,g c.2 h.2⟩
  cases e:O.blt p.1 q.1 with
  |true=>rfl| false=>exact absurd (amg (f:=λx:O.α×D=>x.1) d) (by rw[<-O.total _ _ e (h.1 q d)];exact c.1)
end aS
namespace aS
open PySem PySem.Spec aB PyProof.Rows
variable[aB.a4]
def oF(X:aN)(k:Nat)(f:Addr)(G:au->Prop)(mf:bx):Prop:=
 (∀H a,eZ H a->G H->G a)/\(∀H p b o,H p=some (.l b)->G H->G (upd H p o))/\∀(A:akw)(s:akd)(H:au)(u:Value)(v:V)(Q:c_),cL k A->lQ X.prog X.w X.K X.mg X.base A X.stack s H->G H->RelV v u->eQ X.K X.mg mf [v] H Q j4->
  amM (model X.prog X.w) A (.call (.ref f) ⟨[u],[]⟩) (HH es X.stack X.prog X.w H s Q j4) s
def lstP(a:Addr)(e:Nat):Heap->Prop:=λh=>h.get? a=some (ald "list" #[] e)
structure rt(X:aN)(ae:c0)(U:aB.St)(G:au->Prop)(O:a3)(H:au)(a d6:Addr)(aq:Nat)(bp:List D)(s':akd):Prop where
 ex:∃ai H' ys,Inv X ae U H' s'/\Go O ai H H'/\c2 ai H'/\G H'/\H' a=some (.ext (lstP a aq))/\H' d6=some (.l ys)/\bc X.K X.mg ai H' bp ys/\ai d6=.ey
 na:a∉O.bQ
section
variable{X:aN}{ae:c0}{U:aB.St}{H:au}{s:akd}{G:au->Prop}{mf:bx}{f a d6:Addr}{k:Nat}{O:a3}{aq:Nat}
def aaJ{h:Heap}(e:h.get? a=some (ald "list" #[] aq)):gG prog w H h a (.ext (lstP a aq)):=
 ⟨e,⟨_,e⟩,λb c p q=>q _ p⟩
def L2{b:au}(I:Inv X ae U b s')(d:b a=some (.ext (lstP a aq)))(q:Str):b a≠some (.ext (rE a q)):=λz=>by
 obtain⟨p,_⟩:=I.bP a _ d;obtain⟨eW,_⟩:=I.bP a _ z;obtain⟨c,o,vs,t,aq,aC,cP,_⟩:=eW;cases aq;rw[p]at aC;cases aC;cases cP
def aac{t:List D}{v:V}(J:oF X k f G mf)(N:cL k X.A.in1.in1)(mV:H a=none)(mW:H d6=none)(o5:d6≠a)(cN:Rep X.K X.mg O H d v)(e4:RelV v u)(hd:(mf [d]).run []=.ok (.v o) [])(n':t.length<64)(S:rt X ae U G O H a d6 aq t s') :
  wpAny (model X.prog X.w) X.A.in1.in1 (call (.ref f) [u]) (λM s2=>∃(c:a3)(b:au)(n:List V)(i:V),Inv X ae U b s2/\Go O c H b/\c2 c b/\G b/\b a=some (.ext (lstP a aq))/\b d6=some (.l n)/\bc X.K X.mg c b t n/\Rep X.K X.mg c b o i/\RelV i M/\c d6=.ey) (λ_ _=>False) s':=by
 refine bR λh=>?_
 obtain⟨B,y,n,F,g1,fq,L,R,E,ra,Z⟩:=S.ex;refine h ?_;refine an6 (ame (J.2.2 X.A.in1.in1 s' y u v (λi b=>∃c,Go B c y b/\c2 c b/\Rep X.K X.mg c b o i) N F.wq.in1.in1 L e4 ?_) λr s2 m=>?_)
 .refine⟨B,[d],.v o,[],fq,fC.nil,⟨v,[],rfl,?_,rfl⟩,hd,λc i b g cv W _=>⟨c,g,cv,W⟩⟩
  have p:=cN.go g1;cases d<;>first|exact p|exact akI p|skip
  refine bR λh=>?_
  obtain⟨x,zs,q,l,r⟩:=p;exact h ⟨x,zs,q,l.dO,r⟩
 .refine bR λh=>?_
  cases r with
  |error e=>exact h (akI m)|ok Q=>
   cases Q with
   |ret M=>
    obtain⟨i,P,I,T,Y,j,dJ,C⟩:=F.after m;exact h ⟨Y,P,n,i,I,g1.trans j,dJ,J.1 _ _ j.same L,j.same.at' _ _ R,j.same.at' _ _ E,ra.go j,C,T,(j.own d6 (by rw[E];intro z;cases z)).trans Z⟩
   |next=>exact h (akI m)
   |brk=>exact h (akI m)|cont=>exact h (akI m)
def aee{Z:gF}(n6:Z.Ok){ds:List D}{g:List Z.κ.α}{xs:List V}{us:List Value}{P:Fin->akd->Prop}{E:cZ}(fx:oF X k f G mf)(aE:cL k X.A.in1.in1)(mV:H a=none)(mW:H d6=none)(o5:d6≠a)
  (ra:bc X.K X.mg O H ds xs) (I:Vals xs us) (n':∀(i:Nat)(d:D),ds[i]? = some d->∃κ,g[i]? = some κ/\(mf [d]).run []=.ok (.v (Z.d7 κ)) []) (hlen:g.length=ds.length) (lp:ds.length<64) (S:rt X ae U G O H a d6 aq [] s)
  (fin:∀(s':akd)(keys:Array Value),rt X ae U G O H a d6 aq (g.map Z.d7) s'->keys.toList.map Z.κ.keyOf=g.map some->wpAny (model X.prog X.w) X.A.in1.in1 (ksk_end a false us.toArray aq (.ref d6) keys) P E s') :
  wpAny (model X.prog X.w) X.A.in1.in1 (ksk_rest a (.ref f) false us.toArray aq (.ref d6)) P E s:=by
 have ajL:=ra.len;have xc:=I.length;refine aka (aoa ?_)
 first
  |rw[List.forIn_toArray]
  |(rw[<-Array.forIn_toList])
  |rw[<-Array.forIn_toList]
 refine aka (ksk_fold (λi s'=>rt X ae U G O H a d6 aq ((g.take i).map Z.d7) s') us 0 s S ?step ?done)
 case step=>
  intro j u s' cQ x;simp only[aok]at x ⊢;have a5:=(ake.mp cQ).1;obtain⟨v,F,e4⟩:∃v,xs[j]? = some v/\RelV v u:=by
   have F:xs[j]? = some xs[j]:=akB (by omega);obtain⟨B,uh,r⟩:=I.get F;rw[cQ]at uh;cases uh;exact⟨_,F,r⟩
  obtain⟨d,hd,cN⟩:=ra.Mu F;obtain⟨κ,Y',hm⟩:=n' j d hd;have hz:((g.take j).map Z.d7).length<64:=by rw[akc,amf];omega
  refine aka (wpAny_attempt (akW (aac fx aE mV mW o5 cN e4 hm hz x) (λB s2 he=>?_) λ_ _ o4=>o4.elim));obtain⟨W,R,q,f',J,L,dJ,C,n7,p,N,T,GJ,Q⟩:=he;obtain⟨Y,c,n,m,M⟩:=J.bP d6 _ p;have Yx:c.length=(g.take j).length:=by rw[<-m.length,N.len,akc]
  have ajx:c.length<64:=by rw[Yx,amf];omega
  obtain⟨ak,kG⟩:∃ak,(s2.heap.update d6 (akL (·.push B))).get? d6=some (ald "list" (c.toArray.push B) ak):=⟨_,al5 M (·.push B)⟩;refine aka (amj M rfl ?_ (by rw[aks,akS];omega) (alc (alE (Array.size_push ..)) (by rw[aks,akS];omega)));refine akn ⟨rfl,⟨⟨W,upd R d6 (.l (q++[f'])),q++[f'],?_,⟨yo mW L.same p _,L.own,L.bQ⟩,dJ.fw p,fx.2.1 _ _ _ _ p C,by rw[du o5.symm];exact n7,dU,?_,Q⟩,x.na⟩⟩
  .refine J.write (by rw[p];trivial) (.inl rfl) (λb o aa e=>((alu s2.heap d6 (akL (·.push B))).2 b aa).trans e) ⟨_,kG⟩ ⟨?_,c++[B],ak,m.append (.cons GJ .nil),?_⟩
   .rw[akh,m.length];rw[akS];simp;omega
   .rw[kG];simp
  .have hb:g.take (j+1)=g.take j++[κ]:=by rw[am5,Y'];rfl
   rw[hb,akP];exact(N.append (.one T)).fw (by rw[Q];intro z;cases z) p
 case done=>
  intro s' x;have cP:g.take (0+us.length)=g:=ana (by omega);rw[cP]at x;obtain⟨W,R,q,J,L,dJ,C,n7,p,N,Q⟩:=id x.ex;obtain⟨Y,c,n,m,M⟩:=J.bP d6 _ p;refine aka (listItems_at M rfl ?_);refine fin s' c.toArray x ?_;have key:∀(g:List Z.κ.α)(q:List V)(c:List Value),bc X.K X.mg W R (g.map Z.d7) q->Vals q c->c.map Z.κ.keyOf=g.map some:=by
   intro g
   induction g with
   |nil=>intro q c h r;cases h;cases r;rfl
   |cons κ g a6=>
    intro q c h r;obtain⟨y,t,rfl,af,ah⟩:=h
    cases r with
    |cons bK cg=>
     rw[akm,akm,a6 _ _ ah cg,n6.key κ _ _ _ _ _ _ af bK]
  exact key _ _ _ N m
end
end aS
namespace aS
open PySem PySem.Spec aB PyProof.Rows
def acN{α b:Type}(f:α->b):∀{L M:List b},L.Perm M->∀{Q:List α},M=Q.map f->∃a:List α,a.Perm Q/\L=a.map f:=by
 intro L M h
 induction h with
 |nil=>
  intro Q e
  cases Q with
  |nil=>exact⟨[],.refl _,rfl⟩|cons q Q=>cases e
 |cons x _ d=>
  intro Q e
  cases Q with
  |nil=>cases e
  |cons q Q=>
   rw[akm]at e;injection e with aq aC
   obtain⟨a,p,cP⟩:=d aC;exact⟨q::a,p.cons q,by rw[aq,cP];rfl⟩
 |swap x y l=>
  intro Q e
  cases Q with
  |nil=>cases e
  |cons q Q=>
   cases Q with
   |nil=>rw[akm]at e;injection e with _ aC;cases aC
   |cons r Q=>
    rw[akm,akm]at e;injection e with aq aC
    injection aC with aC cP
    exact⟨r::q::Q,.swap _ _ _,by rw[aq,aC,cP];rfl⟩
 |trans _ _ i j=>
  intro Q e;obtain⟨g,p1,aq⟩:=j e;obtain⟨c,eW,aC⟩:=i aq;exact⟨c,eW.trans p1,aC⟩
variable[aB.a4]
abbrev y0(Z:gF):=(Value×Value)×(Z.κ.α×(D×V))
section
variable{K:aP}{mg:ba}{O:a3}{H:au}{Z:gF}
def adu{ds:List D}:∀{xs:List V}{us keys:List Value}{a:List Z.κ.α},bc K mg O H ds xs->Vals xs us->keys.map Z.κ.keyOf=a.map some->a.length=ds.length->
  ∃Q:List (y0 Z),Q.map (·.1)=keys.zip us/\Q.map (λq=>(q.2.1,q.2.2.1))=a.zip ds/\∀q∈Q,Z.κ.keyOf q.1.1=some q.2.1/\Rep K mg O H q.2.2.1 q.2.2.2/\RelV q.2.2.2 q.1.2:=by
 induction ds with
 |nil=>
  intro xs us keys a h r e l;cases h;cases r;rw[aot.mp l]at e ⊢;have:keys=[]:=by cases keys with|nil=>rfl|cons=>cases e
  subst this;exact⟨[],rfl,rfl,λ_ h=>(nomatch h)⟩
 |cons d ds c=>
  intro xs us keys a h r e l;obtain⟨x,t,rfl,f,g⟩:=h
  cases r with
  |@cons _ u _ us i j=>
   cases a with
   |nil=>cases l
   |cons κ a=>
    cases keys with
    |nil=>cases e
    |cons m keys=>
     rw[akm,akm]at e;injection e with aq aC
     obtain⟨Q,bw,cB,k⟩:=c g j aC (by simpa using l);refine⟨((m,u),(κ,(d,x)))::Q,?_,?_,λq b=>?_⟩
     .rw[akm,bw];rfl
     .rw[akm,cB];rfl
     .rcases akq.mp b with rfl|b
      .exact⟨aq,f,i⟩
      .exact k q b
theorem Qj{α:Type}(f:α->D)(g:α->V):∀l:List α,(∀q∈l,Rep K mg O H (f q) (g q))->bc K mg O H (l.map f) (l.map g)
 |[],_=>rfl|q::l,h=>⟨_,_,rfl,h q akj,Qj f g l λx a=>h x (aki _ a)⟩
omit [aB.a4]in
theorem RD{α:Type}(f:α->V)(g:α->Value):∀l:List α,(∀q∈l,RelV (f q) (g q))->Vals (l.map f) (l.map g)
 |[],_=>.nil|q::l,h=>.cons (h q akj) (RD f g l λx a=>h x (aki _ a))
def sorted_out{ds:List D}{xs:List V}{us:List Value}{keys:Array Value}{f:List Z.κ.α}(P:bc K mg O H ds xs)(G:Vals xs us)(F:keys.toList.map Z.κ.keyOf=f.map some)(x:f.length=ds.length)(w:f.Nodup)
  {c:Array Keyed}(E:c.Perm (keys.zip us.toArray)) (av:SortedToK Z.κ c c.size) :
  ∃r,Vals r (c.map (·.2)).toList/\r.length=ds.length/\bc K mg O H ((il Z.κ.blt (f.zip ds)).map (·.2)) r:=by
 obtain⟨Q,bw,cB,L⟩:=adu P G F x;have A:c.toList.Perm (Q.map (·.1)):=by
  rw[bw,<-ksk_zip];exact Array.perm_iff_toList_perm.mp E
 obtain⟨d,n,k⟩:=acN (λq:y0 Z=>q.1) A rfl;have h:∀q∈d,Z.κ.keyOf q.1.1=some q.2.1/\Rep K mg O H q.2.2.1 q.2.2.2/\RelV q.2.2.2 q.1.2:=λq g=>L q (n.mem_iff.mp g)
 have s:(f.zip ds).map (·.1)=f:=by rw[anj];omega
 have e:(d.map λq=>(q.2.1,q.2.2.1)).Perm (f.zip ds):=by rw[<-cB];exact n.map _
 have cS:((d.map λq:y0 Z=>(q.2.1,q.2.2.1)).map (·.1)).Nodup:=by
  have:=e.map (λp:Z.κ.α×D=>p.1);rw[s]at this;exact this.nodup_iff.mpr w
 have y:(d.map λq:y0 Z=>(q.2.1,q.2.2.1)).Pairwise (λa b=>Z.κ.blt b.1 a.1=false):=by
  rw[an2,aob];intro i j J B N;have u:c.toList.length=d.length:=by rw[k,akc]
  have M:i<c.size:=by rw[ak1]at u;omega
  have t:j<c.size:=by rw[ak1]at u;omega
  have:=av i j (alj N) t;have at':∀(m:Nat)(l:m<d.length)(z:m<c.size),KK Z.κ c m=d[m].2.1:=λm l z=>by
   have aq:c[m]? = some d[m].1:=by
    have:c.toList[m]? = some d[m].1:=by rw[k,akC,akB l];rfl
    rwa[aoJ]at this
   unfold KK;rw[aq];show(Z.κ.keyOf d[m].1.1).getD Z.κ.dflt=_;rw[(h _ (List.getElem_mem l)).1];rfl
  rw[at' i J M,at' j B t]at this;exact this
 have one:=GZ Z.κ.toKeyOrd (by rw[s];exact w) e (aen Z.κ.toKeyOrd cS y);refine⟨d.map λq=>q.2.2.2,?_,?_,?_⟩
 .have:(c.map (·.2)).toList=d.map λq=>q.1.2:=by
   rw[Array.toList_map,k,al3];rfl
  rw[this];exact RD _ _ _ λq g=>(h q g).2.2
 .rw[akc,n.length_eq]
  have:=congrArg alF cB;rw[akc,anx,x,Nat.min_self]at this;exact this
 .rw[<-one,al3]
  exact Qj _ _ _ λq g=>(h q g).2.1
end
section
variable{X:aN}{ae:c0}{U:aB.St}{H:au}{s:akd}{G:au->Prop}{a d6:Addr}{O:a3}{aq:Nat}{Z:gF}{ds:List D}{dp:List Z.κ.α}{xs:List V}{us:List Value}{E:cZ}{keys:Array Value}
def Cf(X:aN)(ae:c0)(U:aB.St)(O:a3)(H:au)(a:Addr)(out:List D)(s':akd):Prop:=
 ∃c b d,Inv X ae U b s'/\Go O c H b/\c2 c b/\b a=some (.l d)/\c a=.ey/\bc X.K X.mg c b out d
def QO{A:akw}{st:SortSt}(B:H a=none)(mW:H d6=none)(V:d6≠a)(ra:bc X.K X.mg O H ds xs)(bV:Vals xs us)(aw:keys.toList.map Z.κ.keyOf=dp.map some)(P:dp.length=ds.length)(aG:dp.Nodup)(lp:ds.length<64)
  (S:rt X ae U G O H a d6 aq (dp.map Z.d7) s) (aO:(arrOf st).Perm (keys.zip us.toArray)) (av:SortedToK Z.κ (arrOf st) (arrOf st).size) (Y:failedOf st=none) :
  wpAny (model X.prog X.w) A (ksk_tail a false aq (.ref d6) st) (λr s'=>r=.done (.ret .none)/\Cf X ae U O H a ((il Z.κ.blt (dp.zip ds)).map (·.2)) s') E s:=by
 refine bR λI=>?_
 obtain⟨M,h,aj9,q,j,i,B_,T,k,u9,A8⟩:=S.ex;obtain⟨_,y,n,f,R⟩:=q.bP d6 _ k;have C:s.heap.get? a=some (ald "list" #[] aq):=(q.bP a _ T).1;obtain⟨F,J,W,vz⟩:=sorted_out ra bV aw P aG aO av;have u:(arrOf st).size=ds.length:=by
  have af:=J.length;have ah:((arrOf st).map (·.2)).toList.length=(arrOf st).size:=by rw[ak1,Array.size_map]
  omega
 have ajG:y.length=ds.length:=by rw[<-f.length,u9.len,akc,P]
 have s1:=alu s.heap d6 (akL λ_=>(#[]:Array Value));obtain⟨bM,L⟩:∃bM,(s.heap.update d6 (akL λ_=>(#[]:Array Value))).get? d6=some (ald "list" #[] bM):=⟨_,al5 R λ_=>#[]⟩;have p:(s.heap.update d6 (akL λ_=>(#[]:Array Value))).get? a=some (ald "list" #[] aq):=(s1.2 a V.symm).trans C;have t:Inv X ae U (upd h d6 (.l [])) { s with heap:=s.heap.update d6 (akL λ_=>(#[]:Array Value)) }:=
  q.write (x:=d6) (e:=d6) (t':=s.toks) (by rw[k];trivial) (.inl rfl) (λb o c e=>(s1.2 b c).trans e) ⟨_,L⟩ ⟨akG _,[],bM,.nil,L⟩
 have s2:=alu (s.heap.update d6 (akL λ_=>(#[]:Array Value))) a (akL λ_=>(arrOf st).map (·.2));obtain⟨ak,Q⟩:∃ak,((s.heap.update d6 (akL λ_=>(#[]:Array Value))).update a (akL λ_=>(arrOf st).map (·.2))).get? a=some (ald "list" ((arrOf st).map (·.2)) ak):=⟨_,al5 p λ_=>(arrOf st).map (·.2)⟩;have d:upd h d6 (.l []) a=some (.ext (lstP a aq)):=by rw[du V.symm];exact T
 refine I ?_;unfold ksk_tail
 try dsimp only
 simp only[amX,if_false];refine aka (amj R rfl ?_ (by rw[aks,akS];omega) (akG _));refine aka (amN ?_);refine aka (anF p rfl ?_);refine aka (amj p rfl ?_ (akG _) (alc (alE (Array.size_map ..)) (by rw[u,akS];omega)));rw[Y];simp only[bne_self_eq_false,amX,if_false];have same:eZ H (upd (upd h d6 (.l [])) a (.l F)):=by
  have D:=yo mW j.same k (.l []);refine⟨λb o e n=>by rw[du (kM e B)];exact D.at' b o e n,λb ps e=>by rw[du (kM e B)];exact D.dt b ps e,λg=>?_⟩;exact(D.b5 g).put _ (λps=>by rw[d];intro z;cases z) (L2 t d)
 have go:Go O (hZ M a .ey) H (upd (upd h d6 (.l [])) a (.l F)):=⟨same,λb c=>by
  rw[pO (by rintro rfl;exact c B)];exact j.own b c,j.bQ⟩
 refine akn ⟨rfl,hZ M a .ey,_,F,?_,go,⟨λb c=>?_,?_,i.rh.1,λb m=>by rw[pO (by rintro rfl;exact S.na (j.bQ▸m))];exact i.rh.2 b m⟩,dU,pP,vz.go go⟩
 .refine t.write (x:=a) (e:=a) (t':=s.toks) (by rw[d];trivial) (.inl rfl) (λb o c e=>(s2.2 b c).trans e) ⟨_,Q⟩ ⟨?_,_,ak,J,?_⟩
  .rw[W,akS];omega
  .rw[Q,Array.toArray_toList]
 .by_cases e:b=a
  .rw[e,dU];intro z;cases z
  .rw[du e]
   rw[pO e]at c
   by_cases N:b=d6
   .rw[N,dU];intro z;cases z
   .rw[du N];exact i.has b c
 .exact(i.tabs.l k _).put _ (λps=>by rw[d];intro z;cases z) (L2 t d)
def aed{A:akw}(x:Z.Ok)(t:H a=none)(u:H d6=none)(y:d6≠a)(m:bc X.K X.mg O H ds xs)(k:Vals xs us)(f:keys.toList.map Z.κ.keyOf=dp.map some)(q:dp.length=ds.length)(n:dp.Nodup)(l:ds.length<64)
    (S:rt X ae U G O H a d6 aq (dp.map Z.d7) s) :
    wpAny (model X.prog X.w) A (ksk_end a false us.toArray aq (.ref d6) keys) (λr s'=>r=.done (.ret .none)/\Cf X ae U O H a ((il Z.κ.blt (dp.zip ds)).map (·.2)) s') E s:=by
  have T:us.length=ds.length:=by rw[<-k.length,m.len]
  have R:keys.size=ds.length:=by
    have:=congrArg alF f;rw[akc,akc,ak1]at this;omega
  have g:(keys.zip us.toArray).size=ds.length:=by rw[Array.size_zip,R,aks,T,Nat.min_self]
  have D:∀v∈keys.toList,∃κ,Z.κ.keyOf v=some κ:=λv h=>by
    have:Z.κ.keyOf v∈dp.map some:=by rw[<-f];exact amg h
    obtain⟨κ,_,e⟩:=akM.mp this;exact⟨κ,e.symm⟩
  unfold ksk_end
  try dsimp only
  simp only[amX,if_false]
  by_cases b:us.toArray.size<2
  · rw[if_pos b,if_pos b]
    refine aka (akn ?_);rw[StateT.run_pure];refine aka (akn ?_)
    try dsimp only
    refine QO (st:=SortSt.mk' general' (keys.zip us.toArray) #[] 7 none) t u y m k f q n l S (Array.Perm.refl _) ?_ rfl;intro i j W L;have J:j<(keys.zip us.toArray).size:=L;rw[g]at J;rw[aks]at b;have:i=j:=by omega
    subst this;exact PyProof.Rows.KeyOrd.kle_refl _
  · rw[if_neg b,if_neg b]
    rw[aks]at b;have F:2<=(keys.zip us.toArray).size:=by
      have V:2<=us.length:=Nat.le_of_not_lt b;rw[g];omega
    have gz:keyKind' keys=pure oneType':=by
      cases e:keys.toList with
      |nil=>
               have M:keys.size=0:=by rw[<-ak1,e];rfl
               omega
      |cons z r=>
        cases r with
        |nil=>
                 have M:keys.size=1:=by rw[<-ak1,e];rfl
                 omega
        |cons B r=>
          have N:keys=(z::B::r).toArray:=by rw[<-e,Array.toArray_toList]
          rw[N];exact x.kind z B r λv h=>D v (by rw[e];exact h)
    rw[gz];refine aka (akn ?_);refine aka (akW (wpS_sortRunsK (κ:=Z.κ) x.one (a₀:=keys.zip us.toArray) (st:=SortSt.mk' oneType' (keys.zip us.toArray) #[] 7 none)
      (Q:=λ_ d=>(arrOf d).Perm (keys.zip us.toArray)/\failedOf d=none/\SortedToK Z.κ (arrOf d) (keys.zip us.toArray).size)
      (λp c=>?_) ⟨Array.Perm.refl _,rfl,rfl,rfl⟩ F (by rw[g];exact l) λd a1 a2 gU=>⟨a1,a2,gU⟩) ?_ λ_ _ e=>e)
    · rw[ksk_zip]at c
      exact D _ (amQ c).1
    rintro⟨⟨⟩,d⟩ s' ⟨rfl,c,P,av⟩
    try dsimp only
    exact QO t u y m k f q n l S c (by rw[c.size_eq];exact av) P
end
end aS
namespace aS
open PySem PySem.Spec aB PyProof.Rows
variable[aB.a4]
section
variable{X:aN}{ae:c0}{U:aB.St}{H:au}{s:akd}{G:au->Prop}{mf:bx}{f l:Addr}{k:Nat}{O:a3}{Z:gF}{ds:List D}{dp:List Z.κ.α}{xs:List V}{E:cZ}
def aec(S:Z.Ok)(I:Inv X ae U H s)(B:c2 O H)(J:bc X.K X.mg O H ds xs)(fF:dy X.K H l xs)(P:oF X k f G mf)(t8:G H)(Y:cL (k+2) X.A)
  (n':∀(i:Nat)(d:D),ds[i]? = some d->∃κ,dp[i]? = some κ/\(mf [d]).run []=.ok (.v (Z.d7 κ)) []) (c:dp.length=ds.length) (aG:dp.Nodup) (Q:ds.length<64) :
  wpAny (model X.prog X.w) X.A (call (.builtin "sorted") [.ref l] [(akR "key",.ref f)]) (λu s'=>∃a,u=.ref a/\H a=none/\Cf X ae U O H a ((il Z.κ.blt (dp.zip ds)).map (·.2)) s') E s:=by
 obtain⟨us,t,pl,_⟩:=I.list fF;have xc:us.length=ds.length:=by rw[<-t.length,J.len]
 have h:H (s.heap.objs.size+1)=none:=I.bP.fresh (am7 _);refine call_function_entry_kw kind_sorted plain_sorted entry_sorted (ksk_s1 _ _)<|aka (akn ?_)
 refine aka (collect_list pl.isList ?_ (by rw[akS];omega));refine aka (anf ?_ (by rw[akS];omega));have g:((s.heap.push (ald "list" #[] 0)).update s.heap.objs.size (akL (·++us.toArray))).objs.size=s.heap.objs.size+1:=by
  rw[ank,size_push']
 have n:(((s.heap.push (ald "list" #[] 0)).update s.heap.objs.size (akL (·++us.toArray))).push (ald "list" us.toArray 0)).get? (s.heap.objs.size+1)=some (ald "list" us.toArray 0):=by
  rw[<-g];exact akk _ rfl
 have keep:∀b o,s.heap.get? b=some o->(((s.heap.push (ald "list" #[] 0)).update s.heap.objs.size (akL (·++us.toArray))).push (ald "list" us.toArray 0)).get? b=some o:=λb o q=>by
  have F:=akl q;rw[ama _ _ _ (by rw[g];exact akv (amx F)),Heap.get?_update_ne _ _ _ _ (akv F),ama _ _ _ (akv F)];exact q
 have bq:Inv X ae U (upd H (s.heap.objs.size+1) (.l xs)) { s with heap:=((s.heap.push (ald "list" #[] 0)).update s.heap.objs.size (akL (·++us.toArray))).push (ald "list" us.toArray 0) }:=
  I.laid keep (am7 _) ⟨by omega,us,0,t,n⟩
 rw[g];refine aka (alM (wpAny_call_entry_kw slot_list_sort ⟨_,n,rfl⟩ entry_list_sort ?body (ksk_l1 _ _)))
 case body=>
  rw[ksk_t1];generalize uc:s.heap.objs.size+1=a at *;generalize((s.heap.push (ald "list" #[] 0)).update s.heap.objs.size (akL (·++us.toArray))).push (ald "list" us.toArray 0)=af at *;obtain⟨aq,x⟩:∃aq,(af.update a (akL λ_=>(#[]:Array Value))).get? a=some (ald "list" #[] aq):=⟨_,al5 n λ_=>#[]⟩;have M:=
   bq.write (t':=s.toks) (by rw[dU];trivial) (.inl rfl) (λb o aa e=>((alu af a (akL λ_=>(#[]:Array Value))).2 b aa).trans e) ⟨_,x⟩ (aaJ x)
  rw[afm]at M;refine aka (listItems_at n rfl ?_);refine aka (amj n rfl ?_ (by rw[aks,akS];omega) (akG _));refine aka (anF x rfl ?_);refine aka (wpAny_newTuple ?_ (by show us.length<=_;rw[akS];omega));refine aka (anf ?_ (akG _));refine alM ?_;have N:Inv X ae U (upd H a (.ext (lstP a aq))) { s with heap:=(af.update a (akL λ_=>(#[]:Array Value))).push (ald "tuple" us.toArray 0) }:=
   M.kept λb o e=>akb _ e
  generalize ajw:(af.update a (akL λ_=>(#[]:Array Value))).push (ald "tuple" us.toArray 0)=C at *;have j:=N.bP.fresh (akf _);have p:C.objs.size≠a:=by
   intro z;rw[z,dU]at j;cases j
  have R:H C.objs.size=none:=by rw[du p]at j;exact j
  have mA:Inv X ae U (upd (upd H a (.ext (lstP a aq))) C.objs.size (.l [])) { s with heap:=C.push (ald "list" #[] 0) }:=
   N.laid (λb o e=>akb _ e) (akf _) ⟨akG _,[],0,.nil,akk _ rfl⟩
  have L:Go O (hZ O C.objs.size .ey) H (upd (upd H a (.ext (lstP a aq))) C.objs.size (.l [])):=(Go.f_ h).trans (Go.new j);have V:c2 (hZ O C.objs.size .ey) (upd (upd H a (.ext (lstP a aq))) C.objs.size (.l [])):=(B.same (Go.f_ (O:=O) h).same).new j;have T:rt X ae U G O H a C.objs.size aq [] { s with heap:=C.push (ald "list" #[] 0) }:=
   ⟨⟨hZ O C.objs.size .ey,_,[],mA,L,V,P.1 _ _ L.same t8,by rw[du p.symm];exact dU,dU,rfl,pP⟩,λm=>B.has a (by rw[B.rh.2 a m];intro z;cases z) h⟩
  refine akW (aee S P (Y.in1.in1) h R p J t n' c Q T λs' keys aj W=>aed S h R p J t W c aG Q aj) (λr s' y=>?_) λ_ _ e=>e
  obtain⟨rfl,y⟩:=y;exact⟨_,rfl,akn ⟨_,rfl,a,rfl,h,y⟩⟩
end
structure ru(K:aP)(c P:Addr)(q:Str):Prop where
 hd:∀h,K.In h->W.CodeHd h c P
 g6:a4.g6 P
 u7:a4.u7 P=q
structure g8(base:Heap)(mg:ba):Prop where
 ex:∃bm o,mg (akR "__builtins__")=some (akZ bm)/\bm≠an4/\bm≠akN/\base.get? bm=some o/\o.cls=amZ "module"/\o.dict=some an4/\o.data=Data.plain
def F5(f:Addr)(bD:Obj):Heap->Prop:=λh=>h.get? f=some bD
def nK(f c:Addr)(q:Str)(bD:Obj):au->Prop:=λH=>H f=some (.ext (F5 f bD))/\H c=some (.ext (rE c q))
def nK.mono(H a:au)(s:eZ H a)(g:nK f c q bD H):nK f c q bD a:=⟨s.at' _ _ g.1,s.at' _ _ g.2⟩
def nK.upd(H:au)(p:Addr)(a:List V)(o:g_)(h:H p=some (.l a))(g:nK f c q bD H):nK f c q bD (upd H p o):=
 ⟨by rw[du (by rintro rfl;have:=g.1;rw[h]at this;cases this)];exact g.1,by rw[du (by rintro rfl;have:=g.2;rw[h]at this;cases this)];exact g.2⟩
def VC{K:aP}{mg:ba}{N ps:List Str}{m:bj}{vs:List V}{H:au}{Q:c_}(h:eQ K mg (fnOf ps.length N.length (bA m)) vs H Q j4):gk K mg m (aB.start N vs) H Q:=by
 obtain⟨O,ds,r,S,k,dh,G,h,q⟩:=h;have A:=wC h;unfold fnOf at h;rw[if_pos A]at h;obtain⟨R,P,E,h⟩:=M.inv h;obtain⟨y,D,F,p⟩:=M.inv E;refine⟨e0 O,_,S,y,D,(G5 k dh G A),F,λj v n g w x nn=>?_⟩
 let f:a3:=⟨λb=>match H b with|some _=>O b|none=>j b,O.bQ⟩
 have u:∀b,H b≠none->f b=O b:=λb c=>by
  show(match H b with|some _=>O b|none=>j b)=O b
  cases e:H b with
  |none=>exact absurd e c|some o=>rfl
 have s:∀b,H b=none->f b=j b:=λb c=>by
  show(match H b with|some _=>O b|none=>j b)=j b;rw[c]
 have dz:nG j f:=⟨λb c=>by
  by_cases i:H b=none
  .rw[s b i];exact c
  .rw[u b i];exact qi.mp ((g.own b i).symm.trans c),g.bQ.symm⟩
 have go:Go O f H n:=⟨g.same,λb c=>u b c,rfl⟩;have cw:c2 f n:=⟨λb c=>by
  by_cases i:H b=none
  .rw[s b i]at c;exact w.cw.has b c
  .exact g.same.some i,w.cw.tabs,k.rh.1,λb m=>(u b (k.has b (by rw[k.rh.2 b m];intro z;cases z))).trans (k.rh.2 b m)⟩
 cases y with
 |v d=>
  cases p;cases h;exact q f v n go cw (Rep.dz dz x) trivial
 |fr B=>
  cases p;cases h;obtain⟨a,L,rfl,l,t,J⟩:=x;exact q f _ n go cw ⟨a,L,rfl,l,(s a (nn a rfl)).trans t,J.dz dz⟩ nn
 |cf B=>cases p
 |mv B=>cases p
section
variable{X:aN}{k:Nat}{f c:Addr}{name q:Str}{params:anI}{body:Expr}{scope:Scope}{pm jK:Value}{N ps:List Str}{m:bj}
theorem aap{p1:Str}(a:gP N [p1] scope)(J:∀(u:Value),amF (W.kla_fn name q params body scope [] pm (.ref c) jK) ⟨[u],[]⟩=pure [(p1,u)])
  (t:∀(A:akw)(s:akd)(H:au),cL k (A.deeper (amW q scope s.heap.objs.size f (.ref c)))->j1 (f5 es X.prog X.w X.K X.mg X.base N q scope f (.ref c) A X.stack s H j4).gA body m) :
  oF X (k+1) f (nK f c q (W.kla_obj name q params body scope [] pm c jK)) (fnOf 1 N.length (bA m)):=by
 refine⟨nK.mono,nK.upd,λA s H u v Q i d g B E=>?_⟩;obtain⟨g1,_⟩:=d.bP f _ g.1;obtain⟨F,_⟩:=d.bP c _ g.2;have j:∀y∈[p1].zip [u],scope.names.lookup y.1=some .local\/(scope.names.lookup y.1=some .cell/\((cellsFrom (s.heap.objs.size+1) scope.names []).lookup y.1).isSome=true):=λp r=>by
  obtain⟨n,v⟩:=p;rcases a.par n (amQ r).1 with q|q
  .exact .inl q
  .exact .inr ⟨q,aoi _ _ _ (.inl q)⟩
 refine W.kla_callFunE i.depth g1 rfl a.co a.gen rfl F ?_;rw[J];refine akn<|wpAny_newFunctionEnv_cells a.kind j λenv he s1 x=>?_
 subst he;refine⟨(d.mod.nolimit.keeps λb o e=>(d.bs b o e).1).keeps x.toInCall.keep,W.kla_codeExpr ?_⟩;have I:Inv (f5 es X.prog X.w X.K X.mg X.base N q scope f (.ref c) A X.stack s H j4) [] (aB.start N [v]) H s1:=NP a i.hd d rfl (.cons B .nil) x;refine akW ((b6.gA (t A s H (i.deeper _))) [] s1 (aB.start N [v]) H _ I (VC (ps:=[p1]) E)) (λL s' av=>?_) λe s' av=>av
 obtain⟨D,l,h,z,G⟩:=av;exact⟨D,l,h.os,h.bare,h.base,h.bP,z,G⟩
end
end aS
namespace aS
open PySem PySem.Spec aB PyProof.Rows
theorem Ra{a b:Int}:∀l:List Value,aox l->aox (l++[alN a,alN b,c])
 |[],_=>trivial|.int _ _::.int _ _::_::rest,h=>Ra rest h
theorem H7{pos e:Pos}:∀l:List Value,aox l->anK e (l++[alN pos.line,alN pos.col,c])=some o->anK e l=some o\/o=c
 |[],_,h=>by
  right;have h:(if((pos.line:Int)==e.line&&(pos.col:Int)==e.col)=true then some c else none)=some o:=h;split at h
  .cases h;rfl
  .cases h
 |.int a _::.int b _::d::rest,t,h=>by
  have h:(if(a==e.line&&b==e.col)=true then some d else anK e (rest++[alN pos.line,alN pos.col,c]))=some o:=h;show(if(a==e.line&&b==e.col)=true then some d else anK e rest)=some o\/_;split at h
  .rename_i f;rw[if_pos f];exact .inl h
  .rename_i f;rw[if_neg f];exact H7 rest t h
variable[aB.a4]
section
variable{X:aN}{ae:c0}{U:aB.St}{H:au}{s:akd}{O:a3}{c P:Addr}{q:Str}{params:anI}{body:Expr}{scope:Scope}{pos:Pos}
def aao(I:Inv X ae U H s)(cv:c2 O H)(L:ru X.K c P q)(B:g8 X.base X.mg)(ud:X.env.code=.ref c)(a8:X.env.qual++akR "<lambda>"=q)(wX:defaultsOf params X.env=([],[]))(qB:an8 scope X.env=pure []) :
  wpAny (model X.prog X.w) X.A (eval (.Lambda params body scope pos) X.env) (λu s'=>∃(f c':Addr)(pm F:Value)(N:au),u=.ref f/\Inv X ae U N s'/\Go O O H N/\c2 O N/\nK f c' q (W.kla_obj (akR "<lambda>") q params body scope [] pm c' F) N) X.dv s:=by
 obtain⟨ps,i,jX,Y⟩:=cv.tabs P L.g6;rw[L.u7]at Y;have Mo:=I.bP P _ i;have JO:∀b o,X.base.get? b=some o->b≠P:=λb o e z=>by
  subst z;have:=(I.bs b o e).2;rw[i]at this;cases this
 have qy:=I.mod.glob.keeps I.bk;have Yt:akN≠P:=by
  obtain⟨o,ax,cD,e,_⟩:=I.mod.glob;exact JO _ _ e
 have d3:s.heap.BuiltinsAt X.mg P:=by
  obtain⟨bm,o,cq,cn,gK,h5,j9⟩:=B.ex;exact⟨bm,o,cq,cn,gK,JO _ _ h5,I.bk _ _ h5,j9⟩
 have C:=L.hd _ I.fi;refine W.kla_eval wX ?_;rw[a8]
 cases lh:anK pos ps.toList with
 |some M=>
  obtain⟨c',rfl,z2⟩:=Y pos M lh;refine W.kla_makeFunctionHit qB I.ok.glob qy ud C Mo jX lh d3 λF D tk aw J=>?_
  have Q:=I.bP.fresh J;have go:Go O O H (upd H D.objs.size (.ext (F5 D.objs.size (W.kla_obj (akR "<lambda>") q params body scope [] ((X.mg (akR "__name__")).getD .none) c' F)))):=Go.f_ Q;refine⟨D.objs.size,c',_,F,_,rfl,I.laid (λb o e=>akb _ (aw b o e)) J ?_,go,cv.same go.same,dU,go.same.at' _ _ z2⟩;exact⟨akk _ rfl,⟨_,akk _ rfl⟩,λx a p r=>r _ p⟩
 |none=>
  refine W.kla_makeFunction qB I.ok.glob qy ud C Mo jX lh Yt d3 λc' F D tk R M5 gw Em Nv=>?_
  have Nh:=I.bP.fresh M5
  let S:=ps++#[alN pos.line,alN pos.col,.ref c']
  let E:=upd (upd H P (.gE S)) c' (.ext (rE c' q))
  have j:∀{b:Addr},b≠P->b≠c'->E b=H b:=λx a=>by show upd _ _ _ _=_;rw[du a,du x]
  have T:E P=some (.gE S):=by show upd _ _ _ _=_;rw[du ((kM i Nh).symm).symm];exact dU
  have Z:E c'=some (.ext (rE c' q)):=dU;have abh:∀{b:Addr}{o:Obj},s.heap.get? b=some o->b≠c':=λe=>akv (akJ (akl e) M5)
  have m:∀{b:Addr}{o:g_},H b=some o->b≠c':=λe=>kM e Nh
  have un:gI X.fs [] H E s.heap D:=by
   refine⟨λb o e n _ _=>R b o (by rintro rfl;rw[i]at n;cases n) e,λb o e n _ _=>⟨o.slots,R b o (by rintro rfl;rw[i]at n;cases n) e⟩,
    λb o e n _=>by rw[j (by rintro rfl;rw[i]at n;cases n) (abh e)];exact n,λb o e _=>?_,λb xs e=>?_,λb o u e=>?_,λb V e=>?_⟩
   .by_cases k:b=P
    .rw[k];exact⟨_,Nv⟩
    .exact⟨o,R b o k e⟩
   .rw[j (by rintro rfl;rw[i]at e;cases e) (m e)];exact e
   .rw[j (by rintro rfl;rw[i]at e;cases e) (m e)];exact e
   .by_cases k:b=P
    .subst k
     rw[i]at e;cases e;exact⟨_,T⟩
    .exact⟨#[],by rw[j k (m e),e];simp⟩
  have bP:fm X.prog X.w E D:=λb u e=>by
   by_cases x:b=c'
   .subst x
    rw[Z]at e;cases e;obtain⟨ak,c6,vs,t,g7,eY,oz,pV⟩:=Em;cases g7;exact⟨⟨_,c6,vs,t,rfl,eY,oz,pV⟩,⟨_,eY⟩,λx a aW r=>by obtain⟨kB,abB,afq,t3,Hw,Hx,agI,agJ⟩:=aW;cases Hw;exact⟨_,abB,afq,t3,rfl,r _ Hx,agI,agJ⟩⟩
   .by_cases a:b=P
    .subst a
     rw[T]at e;cases e;exact Nv
    .rw[j a x]at e
     refine(I.bP b u e).rd (λd o hd o1=>R d o (λz=>?_) o1) (λd y=>?_) λd xs y=>?_
     .rcases hd with rfl|hd
      .exact a z
      .rw[z,i]at hd;cases hd
     .rw[j (by rintro rfl;rw[i]at y;cases y) (m y)];exact y
     .rw[j (by rintro rfl;rw[i]at y;cases y) (m y)];exact y
  have Q:=bP.fresh (akf _);have adU:eZ H E:=by
   refine⟨λb o e n=>by rw[j (by rintro rfl;rw[i]at e;cases e;exact n) (m e)];exact e,λb V e=>?_,λg rA Wv=>?_⟩
   .by_cases k:b=P
    .exact⟨S,by rw[k];exact T⟩
    .exact⟨V,by rw[j k (m e)];exact e⟩
   .obtain⟨V,aq,aC,cP⟩:=g rA Wv
    by_cases k:rA=P
    .subst k
     refine⟨S,T,?_,λl M G=>?_⟩
     .show aox (ps++#[alN pos.line,alN pos.col,.ref c']).toList
      rw[Array.toList_append];exact Ra _ jX
     .have G:=G
      rw[Array.toList_append]at G;rw[L.u7];rcases H7 _ jX G with h|h
      .obtain⟨ak,rfl,a⟩:=Y l M h
       exact⟨ak,rfl,by rw[j (by rintro rfl;rw[i]at a;cases a) (m a)];exact a⟩
      .exact⟨c',h,Z⟩
    .refine⟨V,by rw[j k (m aq)];exact aq,aC,λl M G=>?_⟩
     obtain⟨ak,x,a⟩:=cP l M G;exact⟨ak,x,by rw[j (by rintro rfl;rw[i]at a;cases a) (m a)];exact a⟩
  have go:Go O O H (upd E D.objs.size (.ext (F5 D.objs.size (W.kla_obj (akR "<lambda>") q params body scope [] ((X.mg (akR "__name__")).getD .none) c' F)))):=(⟨adU,λ_ _=>rfl,rfl⟩:Go O O H E).trans (Go.f_ Q);refine⟨D.objs.size,c',_,F,_,rfl,(I.un (t':=tk) un bP).laid (λb o e=>akb _ e) (akf _) ?_,go,cv.same go.same,dU,(sT Q _).at' _ _ Z⟩;exact⟨akk _ rfl,⟨_,akk _ rfl⟩,λx a p r=>r _ p⟩
end
end aS
namespace aS
open PySem PySem.Spec aB PyProof.Rows
def CM:akY "sorted"=some (.builtin "sorted"):=by decide +kernel
def An(Z:gF)(mf:bx)(d:D):Option Z.κ.α:=match(mf [d]).run []with
 |.ok (.v x) []=>Z.un x|_=>none
def keysOf(Z:gF)(mf:bx):List D->Option (List Z.κ.α)
 |[]=>some []|d::ds=>match An Z mf d,keysOf Z mf ds with
  |some a,some as=>some (a::as)|_,_=>none
def kz{α:Type}(blt:α->α->Bool):List α->Bool
 |[]=>true|a::r=>r.all (λb=>blt a b||blt b a)&&kz blt r
def qu(Z:gF)(mf:bx)(x:R):M R:=match x.fv with
 |some ds=>match keysOf Z mf ds with
  |some a=>if kz Z.κ.blt a=true/\ds.length<64 then pure (.fr ((il Z.κ.blt (a.zip ds)).map (·.2)))else bad|none=>bad
 |none=>bad
def v'(F:bx->R->M R)(mf:bx)(a:bj):bj:=λU=>do
 let x <-a U
 F mf x
abbrev tN(Z:gF)(mf:bx)(a:bj):bj:=v' (qu Z) mf a
theorem Oc{Z:gF}{mf:bx}(tb:∀d a,Z.un d=some a->d=Z.d7 a):∀{ds:List D}{b:List Z.κ.α},keysOf Z mf ds=some b->b.length=ds.length/\∀(i:Nat)(d:D),ds[i]? = some d->∃κ,b[i]? = some κ/\(mf [d]).run []=.ok (.v (Z.d7 κ)) []
 |[],b,h=>by cases h;exact⟨rfl,λi d h=>by simp at h⟩
 |d::ds,b,h=>by
  unfold keysOf at h;split at h
  .rename_i a j c g
   cases h;obtain⟨l,r⟩:=Oc tb g;refine⟨by rw[akx,akx,l],λi e he=>?_⟩
   cases i with
   |zero=>
    cases(show some d=some e from he);refine⟨a,rfl,?_⟩;unfold An at c;split at c
    .rename_i x f
     rw[f,tb x a c]
    .cases c
   |succ i=>
    obtain⟨κ,aq,aC⟩:=r i e he;exact⟨κ,by simpa using aq,aC⟩
  .cases h
theorem Cr(Q:alH):∀{l:List Q.α},kz Q.blt l=true->l.Nodup
 |[],_=>.nil|a::r,h=>by
  unfold kz at h;rw[akD,alq]at h;rw[ak8];refine⟨λb=>?_,Cr Q h.2⟩;have:=h.1 a b;rw[Q.irrefl]at this;cases this
variable[aB.a4]
section
variable{X:aN}{k:Nat}{e:Expr}{ma:bj}{Z:gF}{p pos kp:Pos}{ly:Expr}{mf:bx}{G:Addr->au->Prop}
structure vK(X:aN)(nm:Str)(k:Nat)(rD:String)(F:bx->R->M R):Prop where
 oR:akY nm=some (.builtin rD)
 nn:nm≠"__name__"
 db:fo nm
 run:∀{mf:bx}{x r:R}{S aj:bL},(F mf x).run S=.ok r aj->∃ds,x.fv=some ds/\S=aj/\∀{ae:c0}{U:aB.St}{s:akd}{O:a3}{H:au}{xs:List V}{l f:Addr}{G:au->Prop},Inv X ae U H s->c2 O H->bc X.K X.mg O H ds xs->dy X.K H l xs->oF X k f G mf->G H->cL (k+2) X.A->
  wpAny (model X.prog X.w) X.A (call (.builtin rD) [.ref l] [(akR "key",.ref f)]) (λu s'=>∃ai H' v,Inv X ae U H' s'/\Go O ai H H'/\c2 ai H'/\eM X.K X.mg ai H' r v/\h2 H r v/\RelV v u) X.dv s
variable{nm:Str}{rD:String}{F:bx->R->M R}
def Uv(B:vK X nm k rD F)(J:eS X nm)(hm:X.mg nm=none)(L:cL (k+2) X.A)(P:j1 X e ma)
  (eA:∀(d:c0)(s:akd)(U:aB.St)(O:a3)(H:au),Inv X d U H s->c2 O H->
   wpAny (model X.prog X.w) X.A (eval ly X.env) (λu s'=>∃(f:Addr)(i:au)(G:au->Prop),u=.ref f/\Inv X d U i s'/\Go O O H i/\c2 O i/\G i/\oF X k f G mf) X.dv s)
  (he:Cm X pos e:=by rfl)
  (av:fQ X e []:=by rfl)
  (kh:gJ X pos [e]:=by rfl) :
  j1 X (.Call (.Name nm p) [e] [⟨some (akR "key"),ly,kp⟩] pos) (v' F mf ma):=by
 rintro d s U H Q I ⟨O,y,S,r,aj,st,h,q⟩;refine bR λa=>?_
 obtain⟨x,z,N,h⟩:=M.inv h;obtain⟨ds,r3,rfl,run⟩:=B.run h;refine a ?_;refine alO (uu I J hm B.oR ?_ B.nn B.db);refine callWith_kw ?_ he kh rfl rfl;refine cb ((Gi P PL av) pos d s U H (λvs c=>∃v b,vs=[v]/\Go O b H c/\cU X.K X.mg b y z U c/\eM X.K X.mg b c x v) I ⟨O,y,S,x,z,st,N,λb v c g1 j t nn=>⟨v,b,rfl,g1,j,t⟩⟩) λus s1 m=>?_
 refine bR λa=>?_
 obtain⟨vs,c,Y,V,v,b,ev,g1,j,t⟩:=m;subst ev;obtain⟨l,ys,rfl,hl,ra⟩:=R.pf t r3;obtain⟨u,rfl,e4⟩:=vals1 V;cases e4;refine a ?_;refine wpAny_evalAll_cons (aka (cb (eA d s1 U b c Y j.cw) λu s2 T=>aka (wpAny_standAt (akn ?_))));refine bR λa=>?_
 obtain⟨f,aQ,G,rfl,o,g,C,wI,fx⟩:=T;refine a ?_;refine wpAny_evalAll_nil (cb (run o C (ra.go g) (g.same.seq hl) fx wI L) λu s3 m=>?_);refine bR λa=>?_
 obtain⟨fO,D,v,dY,E,j_,n,nn,W⟩:=m;exact a ⟨v,D,dY,W,q fO _ D (g1.trans (g.trans E)) (j.go (g.trans E) j_) n (nn.back (g1.trans g).same)⟩
def Uw{c P:Addr}{q p1:Str}{params:anI}{body:Expr}{scope:Scope}{d:Pos}{N:List Str}{m:bj}(B:vK X nm (k+1) rD F)(i:eS X nm)(x:X.mg nm=none)(l:cL (k+3) X.A)(L:ru X.K c P q)(b:g8 X.base X.mg)(Q:X.env.code=.ref c)
  (j:X.env.qual++akR "<lambda>"=q) (h:gP N [p1] scope)
  (J:∀(c:Addr)(pm a u:Value),amF (W.kla_fn (akR "<lambda>") q params body scope [] pm (.ref c) a) ⟨[u],[]⟩=pure [(p1,u)])
  (n:∀(f c:Addr)(A:akw)(s:akd)(H:au),cL k (A.deeper (amW q scope s.heap.objs.size f (.ref c)))->j1 (f5 es X.prog X.w X.K X.mg X.base N q scope f (.ref c) A X.stack s H j4).gA body m)
  (r:j1 X e ma) (R:defaultsOf params X.env=([],[]):=by rfl) (E:an8 scope X.env=pure []:=by rfl)
  (he:Cm X pos e:=by rfl)
  (av:fQ X e []:=by rfl)
  (D:gJ X pos [e]:=by rfl) :
  j1 X (.Call (.Name nm p) [e] [⟨some (akR "key"),.Lambda params body scope d,kp⟩] pos) (v' F (fnOf 1 N.length (bA m)) ma):=
 Uv B i x l r (λS s U O H I t=>cb (aao I t L b Q j R E) λu s' ⟨f,c',pm,a,g,z,y,g',d',M⟩=>
  ⟨f,g,_,z,y,g',d',M,aap h (J c' pm a) (n f c')⟩) he av D
theorem ZO(j:Z.Ok):vK X "sorted" k "sorted" (qu Z) where
 oR:=CM
 nn:=by decide
 db:=by decide
 run:=λ{mf x r S O} h=>by
  unfold qu at h;refine bR λg=>?_
  split at h
  .rename_i ds aq
   split at h
   .rename_i t aC
    by_cases c:kz Z.κ.blt t=true/\ds.length<64
    .rw[if_pos c]at h
     cases h;obtain⟨f,H⟩:=Oc j.tb aC;refine g ⟨ds,aq,rfl,λI d K A y M l=>cb (aec j I d K A y M l H f (Cr Z.κ.toKeyOrd c.1) c.2) λu s3 m=>?_⟩;refine bR λg=>?_
     obtain⟨a,D,E,w,n,N,s,z,B,J,L,i⟩:=m;subst D;exact g ⟨w,n,.ref a,s,z,B,⟨a,N,rfl,J,L,i⟩,λb q=>by cases q;exact E,rfl⟩
    .rw[if_neg c]at h;cases h
   .cases h
  .cases h
end
def XT{P:akr}{w:World}{K:aP}{mg:ba}{base:Heap}{x:Str}{st:Stmt}{ps N:List Str}{k:Nat}{l:aY}{n t:Nat}{c:Addr}(fM:fM K mg x st ps)(M:∀(f:Addr)(c6:Value)(j:Option Addr)(cX a pm:Value)(g:Option Addr)(d cM:Value)(i:Array (Option Value)),mg x=some (.ref f)->K.lookup f=some ⟨c6,j,.func (alV x x (jd st) (ft st) (c1 st) .none cX a pm g d cM),i⟩->d=.ref c)
  (u:gP N ps (c1 st)) (z:ps.length=n) (R:N.length=t)
  (B:∀(f:Addr)(A:akw)(outer:List Env)(s:akd)(H:au)(E:e7),cL k (A.deeper (akK x (c1 st) s.heap.objs.size f (.ref c)))->
   p0 (f5 es P w K mg base N x (c1 st) f (.ref c) A outer s H E).gA (ft st) l):eg P w K mg base x ps (k+1) (eQ K mg (fnOf n t l)):=by
 obtain⟨f,J,F,b,m⟩:=fM.ex;refine⟨f,J,?_,b,F.kp,m⟩;obtain⟨c6,j,cX,a,pm,g,d,cM,i,rfl,p,L⟩:=F.ex;have e:=M f c6 j cX a pm g d cM i m p;subst e;subst z R;refine zP p L u (λvs H Q E ⟨O,ds,r,S,T,dh,D,h,q⟩=>D.len.trans (wC h)) λA outer s H vs Q E y G=>⟨_,(B f A outer s H E y).gA,CL G⟩
end aS
namespace aB
open PySem PySem.Spec PyProof.Rows
def iG(r:Int->Int->Bool)(z:Nat->Nat->Bool):List Int->List Int->Bool
 |x::xs,y::ys=>if x=y then iG r z xs ys else r x y|xs,ys=>z xs.length ys.length
def Ay(r:Int->Int->Bool)(z:Nat->Nat->Bool)(x y:Int)(xs a:List Int):iG r z (x::xs) (y::a)=if x=y then iG r z xs a else r x y:=rfl
def aaD(r:Int->Int->Bool)(z:Nat->Nat->Bool)(a:List Int):iG r z [] a=z 0 a.length:=by cases a<;>rfl
def aaE(r:Int->Int->Bool)(z:Nat->Nat->Bool)(xs:List Int):iG r z xs []=z xs.length 0:=by cases xs<;>rfl
inductive i_ where
 |gt|ge
def i_.op:i_->CmpOp
 |.gt=>.Gt|.ge=>.GtE
abbrev i_.r(c:i_)(i j:Int):Bool:=match c with
 |.gt=>decide (j<i)|.ge=>decide (j<=i)
abbrev i_.z(c:i_)(i j:Nat):Bool:=match c with
 |.gt=>decide (j<i)|.ge=>decide (j<=i)
def i_.B:i_->Builtin
 |.gt=>Builtin.«tuple.__gt__»|.ge=>Builtin.«tuple.__ge__»
abbrev l9:List Int->List Int->Bool:=iG (λi j=>decide (j<i)) (λi j=>decide (j<i))
abbrev uv:List Int->List Int->Bool:=iG (λi j=>decide (j<=i)) (λi j=>decide (j<=i))
def i_.oA(c:i_){a b d e:Nat}(h:a+e=b+d):c.z a b=c.z d e:=by cases c<;>exact decide_eq_decide.mpr (by omega)
def i_.jv(c:i_)(m n:Nat):Builtin.Tuple.tupleCompareSizes c.op m n=.bool (c.z m n):=by cases c<;>rfl
section
open PySem.SeqAt
open PySem.AutoSeq1 (wpAny_loadPart')
open PySem.MeetsSeq PySem.MeetsSeq2 PySem.MeetsSeq3
set_option maxHeartbeats 0 in
def Rl(i:i_)(l b:Addr)(f m:Array Value)(n Z:Nat)(dd tS:Option Addr)(da sW:Array (Option Value))(ns F:List Int)(T:amc f.toList ns)(P:amc m.toList F) :
  Meets (i.B ⟨[.ref l,.ref b],[]⟩)
   (λ_ R s=>s.heap.get? l=some { cls:=.type "tuple",dict:=dd,data:=.seq f n,slots:=da }/\s.heap.get? b=some { cls:=.type "tuple",dict:=tS,data:=.seq m Z,slots:=sW }/\
    R (.ok (.ret (.bool (iG i.r i.z ns F)))) s):=
 .of_wp λprog w A R s h=>by
  have jv:=i.jv;have oA:=@i_.oA i;have O:∀(A:akw)(a c:Int)(t u:Tok)(E:cZ)(Q:cZ)(s:akd),Q (.bool (i.r a c)) s->wpAny (model prog w) A (richCompare i.op (.int a t) (.int c u)) Q E s:=by
   cases i<;>intro A a c t u E Q s h
   .exact(aoQ h:wpAny (model prog w) A (ak2 .Gt (.int a t) (.int c u)) Q E _)
   .exact(PyProof.Rows.ge_int h:wpAny (model prog w) A (ak2 .GtE (.int a t) (.int c u)) Q E _)
  have M:∀{x y:Int}{xs V:List Int},iG i.r i.z (x::xs) (y::V)=if x=y then iG i.r i.z xs V else i.r x y:=rfl
  generalize i.r=C at *;generalize i.z=o at *;obtain⟨L,g,d,tk,os⟩:=s;obtain⟨hl,Y,h⟩:=h;cases i
  all_goals
   dsimp only[i_.op]at O jv;have f2:=AutoSeq1.sub_tuple_tuple;have g7:f.size=ns.length:=by rw[<-T.length];simp
   have eY:m.size=F.length:=by rw[<-P.length];simp
   wp_walk using wpAny_loadPart' hl,wpAny_loadPart' Y,wpAny_forIn_list _ (λrest b s'=>b.1=none/\s'=⟨L,g,d,tk,os⟩/\∃(vs G:List Value)(D p:List Int),rest=vs.zip G/\
    amc vs D/\amc G p/\D.length+m.size=p.length+f.size/\R (.ok (.ret (.bool (iG C o D p)))) ⟨L,g,d,tk,os⟩) _
   case turn=>
    rintro⟨y,x⟩ rest b s' ⟨H,rfl,vs,G,D,p,hz,J,K,j,k⟩
    cases J with
    |nil=>rw[List.zip_nil_left]at hz;cases hz
    |cons a t W=>
     cases K with
     |nil=>rw[List.zip_nil_right]at hz;cases hz
     |cons c u X=>
      rw[amY]at hz;injection hz with I U
      injection I with a_ ag
      subst a_ ag;rw[M]at k;simp only[akx]at j;obtain⟨e,he,N⟩:=d_.Vp A.in1 ⟨L,g,d,tk,os⟩ a t c u;refine aka (he prog w _ _ ?_)
      cases e with
      |true=>
       rw[if_pos (N.mp rfl)]at k
       wp_walk
       exact⟨rfl,rfl,_,_,_,_,U,W,X,by omega,k⟩
      |false=>
       rw[if_neg (λq=>absurd (N.mpr q) akp)]at k
       wp_walk using O
       exact⟨_,rfl,by simpa using k⟩
   case fin=>
    rintro⟨cq,cn⟩ s' ⟨H,rfl,vs,G,D,p,hz,J,K,j,k⟩;simp only at H;subst H;have S:iG C o D p=o f.size m.size:=by
     cases J with
     |nil=>
      rw[aaD];simp only[alw]at j;exact oA (by simp only[alw]at *;omega)
     |cons a t S=>
      cases K with
      |nil=>
       rw[aaE];simp only[alw]at j;exact oA (by simp only[alw]at *;omega)
      |cons c u hw=>
       rw[amY]at hz;cases hz
    rw[S]at k
    wp_walk
    exact⟨_,rfl,by rw[jv];exact k⟩
   case h=>
    exact⟨rfl,rfl,f.toList,m.toList,ns,F,rfl,T,P,by omega,h⟩
end
def Kc(c:i_){prog:akr}{w:World}{A:akw}{E:cZ}{s:akd}{l b:Addr}{a g:Array Value}{ns d:List Int}{Q:cZ}(J:IsTup s.heap l a)(G:IsTup s.heap b g)(u:amc a.toList ns)(m:amc g.toList d)
  (p:A.units<cLine) (h:Q (.bool (iG c.r c.z ns d)) s):wpAny (model prog w) A (ak2 c.op (.ref l) (.ref b)) Q E s:=by
 obtain⟨⟨cls,dd,data,da⟩,f,t,k,hd⟩:=id J;obtain⟨⟨H,D,j,B⟩,i,y,q,e⟩:=id G;simp only at t hd y e;subst t hd y e;have n:an3 (iG c.r c.z ns d)≠Value.notImplemented/\Q (.bool (iG c.r c.z ns d)) s:=⟨(λx=>nomatch x),h⟩;cases c
 .exact richCompare_meets_room (op:=.Gt) ⟨_,f,rfl⟩ ⟨_,i,rfl⟩ PySem.F.slot_tuple_gt PySem.F.entry_tuple_gt (PySem.F.args_tuple_gt_2 _ _) (Rl .gt l b a g k q dd D da B ns d u m) ⟨f,i,n⟩ p
 .exact richCompare_meets_room (op:=.GtE) ⟨_,f,rfl⟩ ⟨_,i,rfl⟩ PySem.F.slot_tuple_ge PySem.F.entry_tuple_ge (PySem.F.args_tuple_ge_2 _ _) (Rl .ge l b a g k q dd D da B ns d u m) ⟨f,i,n⟩ p
def Px(c:i_)(n:X.A.units+64<cLine):eL X (ak2 c.op) (λx y H Q=>∃a b ns d,x=.ref a/\y=.ref b/\dQ X.K H a (ns.map V.int)/\dQ X.K H b (d.map V.int)/\Q (.az (iG c.r c.z ns d)) H):=by
 intro m s U H x y v u Q I e i h;obtain⟨a,b,ns,d,rfl,rfl,g,f,q⟩:=h;cases e;cases i;obtain⟨l,j,p1,_⟩:=I.tuple g;obtain⟨p,k,eW,_⟩:=I.tuple f;exact Kc c p1 eW (intsAre_of j) (intsAre_of k) (by omega) ⟨.az (iG c.r c.z ns d),H,I,rfl,q⟩
def We{A:akw}{s:akd}{a c:Array Value}{ns d:List Int}{Q:cZ}(j:IsTup s.heap l a)(f:IsTup s.heap b c)(i:amc a.toList ns)(e:amc c.toList d)(g:A.units<cLine)(h:Q (.bool (l9 ns d)) s):wpAny (model prog w) A (ak2 .Gt (.ref l) (.ref b)) Q E s:=Kc .gt j f i e g h
def abR(d:X.A.units+64<cLine):eL X (ak2 .Gt) (λx y H Q=>∃a b ns c,x=.ref a/\y=.ref b/\dQ X.K H a (ns.map V.int)/\dQ X.K H b (c.map V.int)/\Q (.az (l9 ns c)) H):=Px .gt d
def abP(d:X.A.units+64<cLine):eL X (ak2 .GtE) (λx y H Q=>∃a b ns c,x=.ref a/\y=.ref b/\dQ X.K H a (ns.map V.int)/\dQ X.K H b (c.map V.int)/\Q (.az (uv ns c)) H):=Px .ge d
end aB
namespace aS
open PySem PySem.Spec aB
def pA(g:List Int->List Int->Bool):R->R->M R
 |.v (.t xs),.v (.t ys)=>match nums xs,nums ys with
  |some ns,some ms=>pure (.v (.az (g ns ms)))|_,_=>bad
 |_,_=>bad
variable[aB.a4]
def Ih{g:List Int->List Int->Bool}:eK K mg (λx y H Q=>∃a b ns c,x=.ref a/\y=.ref b/\dQ K H a (ns.map V.int)/\dQ K H b (c.map V.int)/\Q (.az (g ns c)) H) (pA g):=λO U S n H x y l r s m Q st i f h q=>by
 unfold pA at h;split at h
 .rename_i xs t
  split at h
  .rename_i ns c aq aC
   cases h;obtain⟨a,p,rfl,d,k⟩:=i;obtain⟨b,bs,rfl,e,j⟩:=f;rw[uO k aq]at d;rw[uO j aC]at e;exact⟨a,b,ns,c,rfl,rfl,d,e,q O _ H (Go.refl _ _) st rfl trivial⟩
  .cases h
 .cases h
end aS
namespace aS
open PySem PySem.Spec aB PyProof.Rows
def sm(x:Str):Str:=x++akR ".<locals>."++akR "<lambda>"
def pa(K:aP)(P:Addr)(x:Str):Bool:=match W.tabIn K x with
 |some (_,o)=>o==P|none=>false
abbrev vh(K:aP)(ln:List Str):a4:=⟨λP=>∃x∈ln,∃c,W.tabIn K x=some (c,P),λP=>match ln.find? (pa K P)with
 |some x=>sm x| none=>""⟩
def adt{K:aP}{ln:List Str}{x:Str}{c P:Addr}(b:x∈ln)(d:W.tabIn K x=some (c,P))(inj:∀y∈ln,pa K P y=true->y=x):(vh K ln).u7 P=sm x:=by
 show(match ln.find? (pa K P)with|some x=>sm x|none=>"")=_;have a:pa K P x=true:=by unfold pa;rw[d];exact beq_self_eq_true P
 cases e:ln.find? (pa K P)with
 |none=>exact absurd a (anO.mp e x b)|some y=>
  rw[inj y (aoc e) (List.find?_some e)]
def Bv{K:aP}{x:Str}{f c P:Addr}{c6 g:Value}{i k:Option Addr}{b:ala}{da j:Array (Option Value)}{vs:Array Value}(a:am9 K akN x=some (some (.ref f)))(l:K.lookup f=some ⟨c6,i,.func b,da⟩)(h:b.code=.ref c)
  (d:K.lookup c=some ⟨g,k,.fields vs,j⟩) (e:vs[11]? = some (.ref P)):W.tabIn K x=some (c,P):=by
 unfold W.tabIn;rw[a];simp only[l,h,d,e]
def X9{K:aP}{c P:Addr}{q:Option Addr}{da:Array (Option Value)}{vs:Array Value}{b:Str}{g i j:Tok}{a e:Int}{f:Bool}(d:K.lookup c=some ⟨.type "code",q,.fields vs,da⟩)(r:vs[11]? = some (.ref P))(l:vs.getD 11 .none=.ref P)
  (m:vs.getD 18 .none=.str b g) (n:vs.getD 7 .none=.int a i) (p:vs.getD 9 .none=.bool f) (k:vs.getD 10 .none=.int e j) (ne:c≠P):∀h,K.In h->W.CodeHd h c P:=λh X=>
 ⟨_,vs,b,g,a,i,f,e,j,X _ _ d,rfl,rfl,r,l,m,n,p,k,ne⟩
def UD{K:aP}{st:Stmt}{g:ala}(X:K.In h)(G:h.Ns akN mg)(a:am9 K akN x=some (some (.ref o)))(l:K.lookup o=some ⟨I,U,.func g,C⟩)(n:g.code=.ref c) :
  ∀(f:Addr)(c6:Value)(m:Option Addr)(cX b pm:Value)(i:Option Addr)(d cM:Value)(j:Array (Option Value)),mg x=some (.ref f)->K.lookup f=some ⟨c6,m,.func (alV x x (jd st) (ft st) (c1 st) .none cX b pm i d cM),j⟩->d=.ref c:=by
 intro f c6 m cX b pm i d cM j p k;have e:=anD X G a;rw[p]at e;cases e;rw[l]at k;cases k;exact n
def SK{l:W.OpenLaw}{w:World}{K:aP}{mg:ba}{g:Addr}{k:Nat}{st:Stmt}[aB.a4](i:mg "law"=some (.ref g))(h:fM K mg "law" st ["script"])
  (j:∀(cX c pm:Value)(d:Option Addr)(e cM v:Value),amF (alV "law" "law" (jd st) (ft st) (c1 st) .none cX c pm d e cM) ⟨[v],[]⟩=pure [(("script":Str),v)])
  (ok:∀(base:Heap),g8 base mg->∀(f:Addr)(a:ala),ks K "law" "law" st f a->ff l.prog w K mg base es k f a ["script"] (ya K)) :
  ∃a:ala,(∀(s:akd)(v:Value),BindsTo s a ⟨[v],[]⟩ [("script",v)])/\∀base:Heap,K.In base->base.Ns akN mg->g8 base mg->ff l.prog w K mg base es k g a ["script"] (ya K):=by
 obtain⟨f,a,F,b,m⟩:=h.ex;cases(akF (i.symm.trans m));refine⟨a,λs v=>?_,λbase _ _ bm=>ok base bm g a F⟩;obtain⟨c6,r,cX,c,pm,d,e,cM,n,rfl,q,p⟩:=F.ex;exact .of_eq (j cX c pm d e cM v)
def aau{P:akr}{w:World}{K:aP}{mg J:ba}{k:Nat}{M a:Addr}{Y:ala}{c:akd}{vs:List Value}{ns:List Int}[aB.a4]
  (X:K.In c.heap) (z9:c.heap.Ns akN mg) (f:c.heap.Ns an4 J) (X4:∀x:Str,x≠"__name__"->J x=akY x) (YD:c.heap.NoLimit) (a0:c.gens=#[])
  (y:c.heap.get? a=some { cls:=.type "list",data:=.seq vs.toArray }) (Z:amc vs ns) (hl:ns.length<=63) (aE:cL k aof)
  (D2:g8 c.heap mg) (F:∀base:Heap,K.In base->base.Ns akN mg->g8 base mg->ff P w K mg base es k M Y ["script"] (ya K)) (r0:∀(s:akd)(u:Value),BindsTo s Y ⟨[u],[]⟩ [("script",u)])
  (g:∀p,a4.g6 p->c.heap.get? p=some (W.tabObj #[])/\isCodeTable c.heap p/\K.lookup p=none) :
  amM (model P w) aof (.call (.ref M) ⟨[.ref a],[]⟩) (λr s'=>r=.ok (.ret (.bool true))/\OldK c.heap s'.heap/\s'.os=c.os/\amL s'.gens) c:=by
 have T:=RC Z;have Q:ns.length<=akg:=by rw[akS];omega
 have G:¬a4.g6 a:=λz=>by have:=(g a z).1;rw[y]at this;cases this
 have i:∀H:au,(∀b,H b=none\/(∃o xs,H b=some (.cm o (.l xs)))\/(a4.g6 b/\H b=some (.gE #[])))->dy K H a (ns.map V.int)->TabsOk H->fm P w H c.heap->(∀b,H b≠none->b=a\/a4.g6 b)->(∀b,H b≠none->K.lookup b=none)->
   amM (model P w) aof (.call (.ref M) ⟨[.ref a],[]⟩) (λr s'=>r=.ok (.ret (.bool true))/\OldK c.heap s'.heap/\s'.os=c.os/\amL s'.gens) c:=by
  intro H Wu fF Wy bP U ic;have xB:∀{b:Addr}{o:Obj}{E:Array ano}{cD:Nat},c.heap.get? b=some o->o.data=.dict E cD->H b=none:=λ{b o E cD} e d=>by
   cases q:H b with
   |none=>rfl|some u=>
    rcases U b (by rw[q];simp)with C|C
    .subst C
     rw[y]at e;cases e;cases d
    .rw[(g b C).1]at e;cases e
     cases d
  have D:∀{b:Addr}{m:ba},c.heap.Ns b m->(o8 c.heap H).Ns b m:=λ{b m} ⟨o,E,cD,e,d,r⟩=>⟨o,E,cD,Ee e (xB e d),d,r⟩
  have O:K.In (o8 c.heap H):=λb o e=>Ee (X b o e) (by
   cases q:H b with
   |none=>rfl| some u=>rw[ic b (by rw[q];simp)]at e;cases e)
  have Wt:Mod K mg (o8 c.heap H):=⟨O,D z9,⟨J,D f,X4⟩,let⟨gh,af,ah⟩:=YD;⟨gh,D af,ah⟩⟩;have dS:lQ P w K mg (o8 c.heap H) aof [] c H:=⟨rfl,Wt,λb o e=>abC e,alE (Yv _ _),trivial,λb f=>absurd (show b∈([]:List Addr)from f) (by simp),bP,.of_eq a0⟩;have Wn:g8 (o8 c.heap H) mg:=by
   obtain⟨bm,o,cq,cn,gK,A,j9,vW,N⟩:=D2.ex;refine⟨bm,o,cq,cn,gK,Ee A ?_,j9,vW,N⟩
   cases q:H bm with
   |none=>rfl|some u=>
    rcases U bm (by rw[q];simp)with C|C
    .subst C
     rw[y]at A;cases A;cases N
    .rw[(g bm C).1]at A;cases A
     cases N
  refine ame ((F _ O (D z9) Wn).run aof [] c H ⟨[.ref a],[]⟩ [.ref a] [.ref a] (λv _=>v=.az true) j4 aE dS (r0 c (.ref a)) (.cons rfl .nil) ⟨a,ns,rfl,fF,hl,Wy,λ_=>rfl⟩) λr s' h=>?_
  cases r with
  |error e=>exact akI h|ok aR=>
   cases aR with
   |next=>exact akI h
   |brk=>exact akI h|cont=>exact akI h|ret u=>
    obtain⟨v,H',os,bare,un,R,bo,q⟩:=h;have jR:=q;subst jR;obtain rfl:=bo;have j:∀b o,c.heap.get? b=some o->asItWas c.heap s'.heap b o/\∃dT,s'.heap.get? b=some dT:=λb o e=>by
     rcases Wu b with z|⟨bD,xs,z⟩|⟨t,z⟩
     .have:=un.keep b o e z (by intro w;exact absurd (show b∈([]:List Addr)from w) (by simp)) (by simp)
      exact⟨.inl this,o,this⟩
     .have L:=un.n0 b bD _ z
      obtain⟨aq,_⟩:=bP b _ z;obtain⟨aC,_⟩:=R b _ L;rw[e]at aq;cases aq;exact⟨.inl aC,_,aC⟩
     .obtain⟨more,L⟩:=un.ox b #[] z
      have aC:=R b _ L;rw[(g b t).1]at e;cases e;exact⟨.inr (.inl ⟨(g b t).2.1,rfl,#[],more,rfl,aC⟩),_,aC⟩
    exact⟨rfl,⟨λb o e=>(j b o e).1,λb o e=>(j b o e).2⟩,os,bare⟩
 classical
 have S:∀(H:au),(∀p,a4.g6 p->H p=some (.gE #[]))->TabsOk H:=λH h p n=>⟨#[],h p n,trivial,λpos jb z=>by cases z⟩
 cases I:K.lookup a with
 |some o=>
  have e:=X a o I;rw[y]at e;cases e;refine i (λb=>if a4.g6 b then some (.gE #[])else none) (λb=>?_) (.inr ⟨_,vs.toArray,_,I,rfl,rfl,rfl,by rw[aks,Z.length];exact Q,by simpa using T⟩) (S _ λp n=>if_pos n) (λb u z=>?_) (λb z=>?_) λb z=>?_
  .by_cases t:a4.g6 b
   .exact .inr (.inr ⟨t,if_pos t⟩)
   .exact .inl (if_neg t)
  .by_cases t:a4.g6 b
   .have B:=(if_pos t).symm.trans z
    cases B;exact(g b t).1
   .have B:=(if_neg t).symm.trans z
    cases B
  .by_cases t:a4.g6 b
   .exact .inr t
   .exact absurd (if_neg t) z
  .by_cases t:a4.g6 b
   .exact(g b t).2.2
   .exact absurd (if_neg t) z
 |none=>
  refine i (λb=>if b=a then some (.cm { cls:=.type "list",data:=.seq vs.toArray } (.l (ns.map V.int)))else if a4.g6 b then some (.gE #[])else none) (λb=>?_) (.inl (.inr ⟨{ cls:=.type "list",data:=.seq vs.toArray },if_pos rfl⟩)) (S _ λp n=>?_) (λb u z=>?_) (λb z=>?_) λb z=>?_
  .by_cases f:b=a
   .exact .inr (.inl ⟨_,_,if_pos f⟩)
   .by_cases t:a4.g6 b
    .exact .inr (.inr ⟨t,by rw[if_neg f,if_pos t]⟩)
    .exact .inl (by rw[if_neg f,if_neg t])
  .rw[if_neg (by rintro rfl;exact G n),if_pos n]
  .by_cases f:b=a
   .have B:=(if_pos f).symm.trans z
    cases B;subst f;exact⟨y,by rw[akc];exact Q,vs,_,T,y⟩
   .try dsimp only at z
    rw[if_neg f]at z
    by_cases t:a4.g6 b
    .rw[if_pos t]at z;cases z
     exact(g b t).1
    .rw[if_neg t]at z;cases z
  .by_cases f:b=a
   .exact .inl f
   .try dsimp only at z
    rw[if_neg f]at z
    by_cases t:a4.g6 b
    .exact .inr t
    .rw[if_neg t]at z;exact absurd rfl z
  .by_cases f:b=a
   .rw[f];exact I
   .try dsimp only at z
    rw[if_neg f]at z
    by_cases t:a4.g6 b
    .exact(g b t).2.2
    .rw[if_neg t]at z;exact absurd rfl z
def aft{l:W.OpenLaw}{q:akr}{k:Nat}{j:List Str}{y5:(Str->Option Value)->Heap->Prop}{B:World->Heap->Prop}{d:DefRec}{K:Params->aP}(ln:List Str)(P:l.most=some 63)(E:d.params.defaults=[])(O:cL k aof)
  (J:∀x∈ln,∃d,(recsOf q).find? (λe=>e.name==x)=some d) (M:∀p,W.noTabs (K p)=true)
  (L:∀(w:World)(h:Heap),B w h->(K w.params).In h)
  (F:∀(w:World)(mg:ba)(r:Addr)(h:Heap),(K w.params).In h->h.Ns akN mg->mg d.name=some (.ref r)->
   ∃y:ala,(∀(s:akd)(u:Value),BindsTo s y ⟨[u],[]⟩ [("script",u)])/\∀base:Heap,(K w.params).In base->base.Ns akN mg->g8 base mg->@ff l.prog w (K w.params) mg base es k r y ["script"] (@ya (vh (K w.params) ln) (K w.params))) :
  W.WalkO q j y5 B l.row.toRowW d [] (λf vs=>PySem.call f vs):=by
 refine HD.SY P E λw hr I mg cz r o pm cd U a vs ns G Y bb hd gd w0 H i m N=>?_
 have n:=L w _ Y;obtain⟨y,R,o4⟩:=F w mg r _ n G.T.g w0
 letI:=vh (K w.params) ln
 have D:g8 I.heap mg:=by
  obtain⟨bm,bD,C,Z,z,h5,j9,A⟩:=G.T.bmain;refine⟨bm,bD,C,Z,λq=>?_,z,h5,j9,A⟩;obtain⟨o,ax,cD,e,hd,_⟩:=G.T.g;rw[q,e]at z;cases z;rw[hd]at A;cases A
 refine aau n G.T.g G.T.b G.T.builtins G.T.nolimit N H i m O D o4 R λp Q=>?_
 obtain⟨x,V,c,X⟩:=Q;obtain⟨d,hd⟩:=J x V;obtain⟨S,t⟩:=W.tab_of G.T n hd X;refine⟨t,(S.tab t).isCodeTable,?_⟩
 cases e:(K w.params).lookup p with
 |none=>rfl|some o=>
  have aC:=n p o e;rw[t]at aC;cases aC;exact absurd (show false=true from(alq.mp (M w.params) (p,_) (W.mem_of_lookupK e))) akp
def Fo{K:aP}{h:Heap}{mg:ba}{x:Str}{st:Stmt}{ln:List Str}{f c P:Addr}{c6 k:Value}{j L:Option Addr}{q:ala}{da H:Array (Option Value)}{vs:Array Value}{e:Str}{u F J:Tok}{b g:Int}{t:Bool}(X:K.In h)(G:h.Ns akN mg)(m:x∈ln)
  (a:am9 K akN x=some (some (.ref f))) (l:K.lookup f=some ⟨c6,j,.func q,da⟩) (r:q.code=.ref c) (d:K.lookup c=some ⟨k,L,.fields vs,H⟩) (M:k=.type "code") (s:vs[11]? = some (.ref P)) (z:vs.getD 11 .none=.ref P)
  (A:vs.getD 18 .none=.str e u) (B:vs.getD 7 .none=.int b F) (D:vs.getD 9 .none=.bool t) (w:vs.getD 10 .none=.int g J) (ne:c≠P) (inj:∀y∈ln,pa K P y=true->y=x) :
  ∃c P,@ru (vh K ln) K c P (sm x)/\∀(f:Addr)(c6:Value)(j:Option Addr)(cX i pm:Value)(E:Option Addr)(n cM:Value)(o:Array (Option Value)),mg x=some (.ref f)->K.lookup f=some ⟨c6,j,.func (alV x x (jd st) (ft st) (c1 st) .none cX i pm E n cM),o⟩->n=.ref c:=by
 subst M;have p:=Bv a l r d s;exact⟨c,P,@ru.mk (vh K ln) K c P (sm x) (X9 d s z A B D w ne) ⟨x,m,c,p⟩ (adt m p inj),UD X G a l r⟩
end aS
namespace aS
open PySem PySem.Spec aB PyProof.Rows
variable[aB.a4]
section
variable{X:aN}{k:Nat}{e:Expr}{ma:bj}{p pos kp:Pos}
def RH{nm:Str}{z:String}{F:bx->R->M R}{c P:Addr}{q p1:Str}{params:anI}{body:Expr}{scope:Scope}{d:Pos}{m:bj}(G:scope.names=[(p1,.local)])(B:vK X nm (k+1) z F)(h:eS X nm)(n:X.mg nm=none)(a:cL (k+3) X.A)(L:ru X.K c P q)(b:g8 X.base X.mg)(D:X.env.code=.ref c)
  (i:X.env.qual++akR "<lambda>"=q) (g:gP [p1] [p1] scope)
  (y:∀(c:Addr)(pm r u:Value),amF (W.kla_fn (akR "<lambda>") q params body scope [] pm (.ref c) r) ⟨[u],[]⟩=pure [(p1,u)])
  (j:∀(f c:Addr)(A:akw)(s:akd)(H:au),cL k (A.deeper (amW q scope s.heap.objs.size f (.ref c)))->bh (f5 es X.prog X.w X.K X.mg X.base [p1] q scope f (.ref c) A X.stack s H j4).gA body m)
  (l:bh X e ma) (E:defaultsOf params X.env=([],[]):=by rfl) (x:an8 scope X.env=pure []:=by rfl)
  (he:Cm X pos e:=by rfl)
  (av:fQ X e []:=by rfl)
  (t:gJ X pos [e]:=by rfl) :
  bh X (.Call (.Name nm p) [e] [⟨some (akR "key"),.Lambda params body scope d,kp⟩] pos) (v' F (fnOf 1 1 (bA m)) ma):=
 ⟨Uw (N:=[p1]) B h n a L b D i g y (λf c A s H a=>(j f c A s H a).un) l.un E x he av t⟩
end
end aS
namespace aS
open PySem PySem.Spec aB PyProof.Rows
structure vG(P:akr)(w:World)(K:aP)(mg:ba)(x:Str)(ps:List (Str×Str)):Prop where
 ex:∃(a:Addr)(ax:Array ano)(n:Nat),mg x=some (.ref a)/\alI a K=some { cls:=.type "dict",data:=.dict ax n }/\KeysOf (ang P w) ax/\
  ∀k fn,ps.lookup k=some fn->∃f,findBy alh ax k=some (.ref f)/\mg fn=some (.ref f)
@[simp] def CR(ps:List (Str×Str))(mk:bj)(U:aJ):M R:=do
 let k <-mk U
 match k with
 |.v (.str z)=>match ps.lookup z with
  |some fn=>pure (.v (.fn fn))|none=>bad
 |_=>bad
@[simp] def CN(i:Nat)(fs:List (Str×bx))(a:cW)(U:aJ):M R:=match U[i]? with
 |some (.v (.fn f))=>match fs.lookup f with
  |some mf=>bC mf a U|none=>bad
 |_=>bad
def aeP(mg:ba)(ps:List (Str×Str))(ty:TE):TE:=λU H Q=>ty U H λy a=>∃z fn f,y=.str z/\ps.lookup z=some fn/\mg fn=some (.ref f)/\Q (.ref f) a
variable[aB.a4]
section
variable{X:aN}{x:Str}{ps:List (Str×Str)}{i:Expr}{pos p:Pos}{ty:TE}{mk:bj}{j k:Nat}{e:Expr}{ax:List Expr}{ms:cW}{pp:List Str}{fs:List (Str×bx)}
omit [aB.a4]in
theorem acM(T:vG X.prog X.w X.K X.mg x ps)(d:eS X x)(E:b6 X i ty)(av:vN i)(A:fo x:=by decide):b6 X (.Subscript (.Name x p) i pos) (aeP X.mg ps ty):=by
 intro m s U H Q I h;obtain⟨a,ds,n,G,F,q,D⟩:=T.ex;refine QY an7.lookup av (qS I d G ?_ A);refine cb (E m s U H _ I h) λJ s2 l=>?_
 obtain⟨y,g,c,r,z,fn,f,u,el,B,cB⟩:=l;subst u;obtain⟨t,rfl⟩:=r;have b:=c.fi a _ F;obtain⟨L,aq,aC⟩:=D z fn el;rw[B]at aC;cases aC;refine⟨⟨_,b,rfl⟩,?_⟩;refine wpAny_getItem_of (knd:=ang X.prog X.w) ?_ ?_ aq ?_
 .show(z==z)=true
  simp
 .exact⟨_,ds,n,b,⟨rfl,rfl,rfl⟩,rfl,q,λ_=>rfl⟩
 .exact⟨.ref f,g,c.tok _,rfl,cB⟩
omit [aB.a4]in
theorem acu(hN:X.N[j]? = some x)(B:qf X.env.scope x)(m:cL k X.A){t:gH}(y:gR X (e::ax) t)(E:fo x:=by decide)(L:(x==("__classdict__":Str))=false:=by decide)
  (he:fQ X e ax:=by rfl) (G:gJ X pos ax:=by rfl) :
  b6 X (.Call (.Name x p) (e::ax) [] pos) (λU H Q=>∃(f:Addr)(c:ala)(sp:et),U[j]? = some (some (.ref f))/\ff X.prog X.w X.K X.mg X.base es k f c pp sp/\Binds X.K c pp []/\alX X.K (.ref f)=true/\t U H λvs a=>sp vs a Q j4):=by
 rintro d s U H Q I ⟨f,c,sp,J,F,b,kp,h⟩;refine alO (cb (xP hN B E L d s U H (λv l=>v=.ref f/\l=H) I ⟨.ref f,J,rfl,rfl⟩) λu s1 n=>?_);obtain⟨v,a,D,z,aq,aC⟩:=n;subst aq aC;obtain rfl:=z;refine anu I.ok.mod.qR kp (cb (y pos d s1 U a _ D h) λus s2 ⟨vs,M,g,r,q⟩=>⟨g.fi,?_⟩) he G;exact x7 F m b .nil u2 g r (by simpa only[ak5]using q)
def RI(T:vG X.prog X.w X.K X.mg x ps)(d:eS X x)(u:bh X i mk)(av:vN i:=by exact λ_ _=>rfl)(t:fo x:=by decide):bh X (.Subscript (.Name x p) i pos) (CR ps mk):=⟨eI (acM T d u.un av t) λD H Q m=>by
 obtain⟨O,U,S,r,B,st,h,q⟩:=m;obtain⟨y,A,n,h⟩:=M.inv h;split at h
 .rename_i z
  split at h
  .rename_i fn el
   cases h;obtain⟨_,_,_,_,_,_,a⟩:=T.ex;obtain⟨f,_,b⟩:=a z fn el;refine⟨O,U,S,_,_,st,n,λg v c g1 l s nn=>?_⟩;exact⟨z,fn,f,s,el,b,q g _ c g1 l ⟨f,rfl,b⟩ trivial⟩
  .cases h
 .cases h⟩
def afI(n:∀f mf,fs.lookup f=some mf->eg X.prog X.w X.K X.mg X.base f pp k (eQ X.K X.mg mf))(hN:X.N[j]? = some x)(D:qf X.env.scope x)(s:cL k X.A)(B:gr X (e::ax) ms)(E:fo x:=by decide)(M:(x==("__classdict__":Str))=false:=by decide)
  (he:fQ X e ax:=by rfl) (G:gJ X pos ax:=by rfl):bh X (.Call (.Name x p) (e::ax) [] pos) (CN j fs ms):=⟨eI (acu hN D s B.un E M he G) λd H Q u=>by
  refine bR λt=>?_
  obtain⟨O,U,S,r,z,st,h,q⟩:=u;unfold CN at h;split at h
  .rename_i f P
   split at h
   .rename_i mf el
    obtain⟨J,L,F,b,kp,m⟩:=(n f mf el).ex;obtain⟨v,c,a,rfl,g⟩:=st.loc j _ P;have:a=J:=by
     rw[m]at g;cases g;rfl
    subst this;have l:d[j]? = some (some (.ref a)):=by
     cases w:d[j]? with
     |none=>rw[w]at c;cases c
     |some y=>rw[w]at c;exact congrArg some c
    exact t ⟨a,L,_,l,F,b,kp,CT d H Q ⟨O,U,S,r,z,st,h,q⟩⟩
   .cases h
  .cases h⟩
end
omit [aB.a4]in
theorem lookup_all{α f:Type}[BEq α][LawfulBEq α]{P:α->f->Prop}:∀{l:List (α×f)},(∀x∈l,P x.1 x.2)->∀a b,l.lookup a=some b->P a b
 |[],_,_,_,h=>by cases h
 |(c,d)::l,o,a,b,h=>by
  rw[akU]at h;split at h
  .rename_i e
   cases h;rw[eq_of_beq e];exact o _ akj
  .exact lookup_all (λx g=>o x (aki _ g)) a b h
omit [aB.a4]in
theorem VG{P:akr}{w:World}{K:aP}{h:Heap}{mg:ba}{x:Str}{d:Addr}{b:Array ano}{n:Nat}{ps:List (Str×Str)}(X:K.In h)(G:h.Ns akN mg)
  (a:am9 K akN x=some (some (.ref d))) (l:alI d K=some { cls:=.type "dict",data:=.dict b n }) (k:∀e∈b.toList,∃s,alh s e.key=true/\e.hash=hashStr w s)
  (f:∀p∈ps,∃f,am9 K d p.1=some (some (.ref f))/\am9 K akN p.2=some (some (.ref f))):vG P w K mg x ps:=by
 refine⟨d,b,n,anD X G a,l,λe he=>?_,lookup_all (P:=λk fn=>∃f,findBy alh b k=some (.ref f)/\mg fn=some (.ref f)) λp i=>?_⟩
 .obtain⟨s,c,g⟩:=k e (by simpa using he)
  exact⟨s,c,g⟩
 .obtain⟨f,c,g⟩:=f p i
  exact⟨f,W.find_K l c,anD X G g⟩
omit [aB.a4]in
@[simp] theorem ai6:c5 (.fn f)=.v (.fn f):=rfl
omit [aB.a4]in
theorem FU{K:aP}{P a c:Addr}{x y:Str}(b:W.tabIn K y=some (c,a))(ne:a≠P)(h:pa K P y=true):y=x:=by
 unfold pa at h;rw[b]at h;exact absurd (eq_of_beq h) ne
end aS
namespace aS
open PySem PySem.W PyProof.Rows
def gQ{α:Type}(n:Nat)(lt:Nat->Nat->Bool):KasT α->(α->Prop)->Prop
 |.ret a,Q=>Q a|.ask i j k,Q=>i<n/\j<n/\gQ n lt (k (lt i j)) Q
theorem gQ.bind{α b:Type}{n:Nat}{lt:Nat->Nat->Bool}{f:α->KasT b}{Q:b->Prop}:∀{t:KasT α},gQ n lt t (λa=>gQ n lt (f a) Q)->gQ n lt (t.bind f) Q
 |.ret _,h=>h|.ask _ _ k,h=>⟨h.1,h.2.1,gQ.bind h.2.2⟩
theorem gQ.imp{α:Type}{n:Nat}{lt:Nat->Nat->Bool}{Q c:α->Prop}(b:∀a,Q a->c a):∀{t:KasT α},gQ n lt t Q->gQ n lt t c
 |.ret a,h=>b a h|.ask _ _ k,h=>⟨h.1,h.2.1,gQ.imp b h.2.2⟩
theorem gQ.wp{α:Type}{n:Nat}{lt:Nat->Nat->Bool}{b:Nat->Nat->(Bool->akd->Prop)->akd->Prop}{W:akd->Prop}(c:∀i j C s,i<n->j<n->W s->(∀s',W s'->C (lt i j) s')->b i j C s){G:α->akd->Prop} :
  ∀{t:KasT α}{s:akd},W s->gQ n lt t (λa=>∀s',W s'->G a s')->t.kasWp b G s
 |.ret _,s,w,h=>h s w|.ask i j k,s,w,h=>c i j _ s h.1 h.2.1 w λs' d=>gQ.wp c d h.2.2
structure Ord(n:Nat)(lt:Nat->Nat->Bool):Prop where
 jX:∀i j k,i<n->j<n->k<n->lt i j=true->lt j k=true->lt i k=true
 Q':∀i j,i<n->j<n->i≠j->lt i j=false->lt j i=true
 ahA:∀i j,i<n->j<n->lt i j=true->lt j i=false
structure Row(n:Nat)(p:Array Nat):Prop where
 jv:p.size=n
 lt:∀i,i<n->p.getD i 0<n
 ap:∀i j,i<n->j<n->i≠j->p.getD i 0≠p.getD j 0
 pm:p.toList.Perm (akV n)
def GI{p:Array Nat}(h:p.toList.Perm (akV n)):Row n p:=by
 have jv:p.size=n:=by
  have:=h.length_eq;simpa using this
 have b5:∀i,i<n->p.toList[i]? = some (p.getD i 0):=λi a=>by
  have:i<p.size:=by omega
  simp[ this]
 refine⟨jv,λi a=>?_,λi j a b ne e=>?_,h⟩
 .exact alg.mp (h.mem_iff.mp (akQ (b5 i a)))
 .have cS:=h.nodup_iff.mpr List.nodup_range
  have aq:=b5 i a;rw[e,<-b5 j b]at aq;exact ne ((List.getElem?_inj ((by omega:i<p.size)) cS).mp aq)
def Row.Pr(h:Row n p)(e:q.Perm p):Row n q:=GI (e.toList.trans h.pm)
abbrev oB(lt:Nat->Nat->Bool)(p:Array Nat)(m:Nat):Prop:=∀i j,i<j->j<m->lt (p.getD i 0) (p.getD j 0)=true
section
variable{n:Nat}{lt:Nat->Nat->Bool}(O:Ord n lt)
include O
theorem H_{p:Array Nat}(h:Row n p)(e:m<=n)(b:∀i,1<=i->i<m->lt (p.getD (i-1) 0) (p.getD i 0)=true):oB lt p m:=by
 intro i j f
 induction j with
 |zero=>omega|succ j d=>
  intro c;have a:=b (j+1) (by omega) c
  by_cases q:i=j
  .subst q;exact a
  .exact O.jX _ _ _ (h.lt i (by omega)) (h.lt j (by omega)) (h.lt (j+1) (by omega)) (d (by omega) (by omega)) a
theorem flip{p:Array Nat}(h:Row n p)(b:1<=i)(a:i<n)(e:lt (p.getD i 0) (p.getD (i-1) 0)=false):lt (p.getD (i-1) 0) (p.getD i 0)=true:=
 O.Q' _ _ (h.lt i a) (h.lt (i-1) (by omega)) (h.ap i (i-1) a (by omega) (by omega)) e
omit O in
theorem D5{p:Array Nat}(h:Row n p){Q:Nat->Prop}:∀(f m:Nat),1<=m->m+f=n->(∀a,m<=a->a<=n->(∀i,m<=i->i<a->lt (p.getD i 0) (p.getD (i-1) 0)=false)->(a=n\/a<n/\lt (p.getD a 0) (p.getD (a-1) 0)=true)->Q a)->gQ n lt (kas_asc p f m) Q
 | 0,m,o,e,q=>q m (akf _) (by omega) (fun i _ _=>by omega) (.inl (by omega))|f+1,m,o,e,q=>by
  refine⟨h.lt m (by omega),h.lt (m-1) (by omega),?_⟩
  cases c:lt (p.getD m 0) (p.getD (m-1) 0)with
  |true=>exact q m (akf _) (by omega) (λi _ _=>by omega) (.inr ⟨by omega,c⟩)|false=>
   refine D5 h f (m+1) (by omega) (by omega) λa a1 a2 gU jI=>q a (by omega) a2 (λi d b=>?_) jI
   by_cases z:i=m
   .rw[z];exact c
   .exact gU i (by omega) b
theorem MW{p:Array Nat}(h:Row n p){Q:Array Nat×Nat×Nat->Prop}:∀(f m:Nat),1<=m->m+f=n->(∀a,m<=a->a<=n->(∀i,m<=i->i<a->lt (p.getD i 0) (p.getD (i-1) 0)=true)->Q (p,a,0))->gQ n lt (kas_desc f p m 0) Q
 | 0,m,o,e,q=>q m (akf _) (by omega) (fun i _ _=>by omega)|f+1,m,o,e,q=>by
  refine⟨h.lt m (by omega),h.lt (m-1) (by omega),?_⟩
  cases c:lt (p.getD m 0) (p.getD (m-1) 0)with
  |true=>
   refine MW h f (m+1) (by omega) (by omega) λa a1 a2 gU=>q a (by omega) a2 λi d b=>?_
   by_cases z:i=m
   .rw[z];exact c
   .exact gU i (by omega) b
  |false=>
   refine⟨h.lt (m-1) (by omega),h.lt m (by omega),?_⟩;rw[flip O h o (by omega) c];exact q m (akf _) (by omega) (λi _ _=>by omega)
omit O in
theorem Qn{p:Array Nat}(h:Row n p){m:Nat}(a:m<=n){k:Nat}(b:k<n):(kas_rev p 0 m).getD k 0=if k<m then p.getD (m-1-k) 0 else p.getD k 0:=by
 have e:=getElem?_mirror_all (i:=0) (by rw[h.jv];exact a) k;have b5:∀(q:Array Nat)(i:Nat),q.getD i 0=(q[i]?).getD 0:=λq i=>by simp
 rw[b5,b5,b5];unfold kas_rev;rw[e]
 by_cases z:k<m
 .rw[if_pos ⟨akG _,z⟩,if_pos z,aok]
 .rw[if_neg (λy=>z y.2),if_neg z]
theorem X8{Q:Nat×Array Nat->Prop}(h:Row n p)(r:1<=n)(q:∀m f,1<=m->m<=n->Row n f->oB lt f m->Q (m,f)):gQ n lt (kas_count n p) Q:=by
 refine gQ.bind (D5 h (n-1) 1 (akf _) (by omega) λm a1 a2 gU jI=>?_);have c:=H_ O h a2 λi d b=>flip O h d (by omega) (gU i d b)
 by_cases e:m=n
 .rw[if_pos (by rw[e];exact beq_self_eq_true n)]
  exact q m p a1 a2 h c
 .rw[if_neg (by intro z;exact e (eq_of_beq z))]
  by_cases aq:m > 1
  .rw[if_pos aq]
   refine⟨h.lt 0 (by omega),h.lt (m-1) (by omega),?_⟩;rw[c 0 (m-1) (by omega) (by omega)];exact q m p a1 a2 h c
  .rw[if_neg aq]
   have l:m=1:=by omega
   subst l;have j:lt (p.getD 1 0) (p.getD 0 0)=true:=by
    rcases jI with z|z
    .exact absurd z e
    .exact z.2
   refine gQ.bind (MW O h (n-(1+1)) (1+1) (by omega) (by omega) λm a1 a2 gU=>?_);have a:Row n (kas_rev p 0 m):=h.Pr (mirror_perm _ _ _ _);refine gQ.bind (D5 a (n-m) m (by omega) (by omega) λg d b k _=>?_);refine q g _ (by omega) b a (H_ O a b λi bM ak=>?_)
   by_cases z:i<m
   .rw[Qn h a2 (by omega),Qn h a2 (by omega),if_pos (by omega),if_pos z,show m-1-(i-1)=m-1-i+1 by omega]
    by_cases y:m-1-i+1=1
    .rw[y,show m-1-i=0 by omega];exact j
    .have:=gU (m-1-i+1) (by omega) (by omega)
     rwa[Nat.add_sub_cancel]at this
   .exact flip O a bM (by omega) (k i (by omega) ak)
theorem D6{p:Array Nat}(h:Row n p){k:Nat}(g:k<n){Q:Nat->Prop}(q:∀l,l<=k->(∀i,i<l->lt (p.getD i 0) (p.getD k 0)=true)->(∀i,l<=i->i<k->lt (p.getD k 0) (p.getD i 0)=true)->Q l)(j:oB lt p k) :
  ∀(f l r:Nat),r-l<=f->l<=r->r<=k->(∀i,i<l->lt (p.getD i 0) (p.getD k 0)=true)->(∀i,r<=i->i<k->lt (p.getD k 0) (p.getD i 0)=true)->gQ n lt (kas_place p k f l r) Q
 |0,l,r,hf,C,o,a,b=>q l (by omega) a λi c d=>b i (by omega) d
 |f+1,l,r,hf,C,o,a,b=>by
  unfold kas_place
  by_cases e:l≥r
  .rw[if_pos e];exact q l (by omega) a λi c d=>b i (by omega) d
  .rw[if_neg e]
   have w:(l+r) / 2<r:=by omega
   have s:l<=(l+r) / 2:=by omega
   generalize(l+r) / 2=m at w s;refine⟨h.lt k g,h.lt m (by omega),?_⟩
   cases c:lt (p.getD k 0) (p.getD m 0)with
   |true=>
    refine D6 h g q j f l m (by omega) s (by omega) a λi u t=>?_
    by_cases z:i=m
    .rw[z];exact c
    .exact O.jX _ _ _ (h.lt k g) (h.lt m (by omega)) (h.lt i (by omega)) c (j m i (by omega) t)
   |false=>
    refine D6 h g q j f (m+1) r (by omega) (by omega) o (λi u=>?_) b;have c':=O.Q' _ _ (h.lt k g) (h.lt m (by omega)) (h.ap k m g (by omega) (by omega)) c
    by_cases z:i=m
    .rw[z];exact c'
    .exact O.jX _ _ _ (h.lt i (by omega)) (h.lt m (by omega)) (h.lt k g) (j i m (by omega) (by omega)) c'
theorem MV{Q:Array Nat->Prop}(q:∀p,Row n p->oB lt p n->Q p):∀(f:Nat)(p:Array Nat)(k:Nat),Row n p->k+f=n->oB lt p k->gQ n lt (kas_bin f p k) Q
 | 0,p,k,h,e,as=>q p h (by rw[<-e];exact as)|f+1,p,k,h,e,as=>by
  refine gQ.bind (D6 O h (by omega) (λl w a b=>?_) as k 0 k (by omega) (akG _) (akf _) (λi z=>by omega) λi z y=>by omega);have s:Row n (bubble p k (k-l)):=h.Pr (bubble_perm _ _ _);have at':∀i,i<n->(bubble p k (k-l)).getD i 0=if i=l then p.getD k 0 else if l<i/\i<=k then p.getD (i-1) 0 else p.getD i 0:=λi x=>by
   have e:=getElem?_bubble (src:=k) (by rw[h.jv];omega) (k-l) (by omega) i;have b5:∀(q:Array Nat)(i:Nat),q.getD i 0=(q[i]?).getD 0:=λq i=>by simp
   rw[b5,b5,b5,b5,e,show k-(k-l)=l by omega]
   by_cases z:i=l
   .rw[if_pos z,if_pos z]
   .rw[if_neg z,if_neg z]
    by_cases y:l<i/\i<=k
    .rw[if_pos y,if_pos y]
    .rw[if_neg y,if_neg y]
  refine MV q f _ (k+1) s (by omega) λi j t u=>?_
  rw[at' i (by omega),at' j (by omega)]
  by_cases g:i=l
  .rw[if_pos g,if_neg (by omega),if_pos (by omega)]
   exact b (j-1) (by omega) (by omega)
  .rw[if_neg g]
   by_cases d:l<i/\i<=k
   .rw[if_pos d,if_neg (by omega),if_pos (by omega)]
    exact as (i-1) (j-1) (by omega) (by omega)
   .rw[if_neg d]
    by_cases m:j=l
    .rw[if_pos m];exact a i (by omega)
    .rw[if_neg m]
     by_cases r:l<j/\j<=k
     .rw[if_pos r]
      by_cases c:i=j-1
      .exact absurd c (by omega)
      .exact as i (j-1) (by omega) (by omega)
     .rw[if_neg r];exact as i j t (by omega)
theorem X_(d:1<=n):gQ n lt (kas_sort n) λp=>Row n p/\oB lt p n:=by
 have f:Row n (amB (akV n)):=GI (by simp);refine gQ.bind (X8 O f d λm p a1 a2 b c=>?_);have sC:max m 1=m:=by omega
 rw[sC]
 by_cases e:m<n
 .rw[if_pos e]
  exact MV O (λp h a=>⟨h,a⟩) _ _ _ b (by omega) c
 .rw[if_neg e]
  have:m=n:=by omega
  subst this;exact⟨b,c⟩
end
section
variable{prog:akr}{w:World}{A:akw}{E:cZ}{s:akd}
abbrev l_(h:Heap)(a:Addr)(vs:List Value):Heap:=((h.update a (akL λ_=>#[])).push (ald "tuple" vs.toArray 0)).push (ald "list" #[] 0)
def aaZ{h:Heap}(c:b≠a)(e:h.get? b=some o):(l_ h a vs).get? b=some o:=
 akb _ (akb _ ((alJ _ _ (alQ c)).trans e))
def ad3{vs:List Value}(a:vs.length<2):(arrOf (SortSt.mk' general' (vs.toArray.zip vs.toArray) #[] 7 none)).map (·.2)=amB ((amB (akV vs.length)).toList.map λi=>vs.getD i alv):=by
 show(vs.toArray.zip vs.toArray).map (·.2)=_;rcases vs with _|⟨_,_|⟨_,_⟩⟩
 .simp
 .simp
 .simp only[akx]at a;omega
def aeb{a:Addr}{vs:List Value}{k:Nat}{j6:Fin->akd->Prop}{lt:Nat->Nat->Bool}{κ:SortKind}(here:s.heap.get? a=some (ald "list" vs.toArray k))(y:vs.length<64)(O:Ord vs.length lt)
  (kind:2<=vs.length->∀Q:SortKind->akd->Prop,Q κ { s with heap:=l_ s.heap a vs }->wpAny (model prog w) A (keyKind' vs.toArray) Q (λ_ _=>False) { s with heap:=l_ s.heap a vs })
  (ask:∀(i j:Nat)(C:Bool->akd->Prop),i<vs.length->j<vs.length->C (lt i j) { s with heap:=l_ s.heap a vs }->kas_ask prog w A κ vs i j C { s with heap:=l_ s.heap a vs })
  (fin:∀p:Array Nat,Row vs.length p->oB lt p vs.length->j6 (.done (.ret .none)) { s with heap:=sortedHeap s.heap a vs (amB (p.toList.map λi=>vs.getD i alv)) }) :
  wpAny (model prog w) A (Builtin.«list.sort» ⟨[.ref a],[]⟩) j6 E s:=by
 have n:=akl here;have d:vs.toArray.size<=akg:=by rw[aks,akS];omega
 obtain⟨cD,b⟩:∃cD,(s.heap.update a (akL λ_=>#[])).get? a=some (ald "list" #[] cD):=⟨_,al5 here λ_=>#[]⟩;have f:(l_ s.heap a vs).get? a=some (ald "list" #[] cD):=by
  rw[ama _ _ _ (by rw[size_push',ank];exact akv (amx n)),ama _ _ _ (by rw[ank];exact akv n)];exact b
 rw[list_sort_plain];refine aka (listItems_at here rfl (aka (amj here rfl ?_ d (akG _))));refine aka (anF b rfl (aka (wpAny_newTuple ?_ d)));refine aka (anf (alM ?_) (akG _));dsimp only
 by_cases c:vs.toArray.size<2
 .rw[if_pos c,if_pos c]
  have g:vs.length<2:=by exact c
  refine aka (akn ?_);refine aka (akn ?_);have R:Row vs.length (amB (akV vs.length)):=GI (by simp);rw[(ad3 g)];refine aka (anF f rfl (aka (amj f rfl ?_ (akG _) (by simp;omega))));simp only[ bne_self_eq_false];exact akn (fin _ R λi j B D=>by omega)
 .rw[if_neg c,if_neg c]
  have q:2<=vs.length:=by rw[aks]at c;omega
  refine aka (akW (kind q (λl s'=>l=κ/\s'={ s with heap:=l_ s.heap a vs }) ⟨rfl,rfl⟩) (λl s' ⟨aq,aC⟩=>?_) λ_ _ z=>z.elim);subst aq aC;have h:(kas_sort vs.length).kasWp (kas_ask prog w A l vs) (λp s'=>s'={ s with heap:=l_ s.heap a vs }/\Row vs.length p/\oB lt p vs.length) { s with heap:=l_ s.heap a vs }:=
   gQ.wp (W:=λs'=>s'={ s with heap:=l_ s.heap a vs }) (λi j C s' x r m u=>by subst m;exact ask i j C x r (u _ rfl)) rfl ((X_ O (by omega)).imp λp t s' m=>⟨m,t⟩)
  refine aka (akW (kat_run (Q:=λst s'=>∃p:Array Nat,s'={ s with heap:=l_ s.heap a vs }/\(arrOf st).map (·.2)=amB (p.toList.map λi=>vs.getD i alv)/\failedOf st=none/\Row vs.length p/\oB lt p vs.length)
   rfl q y (λp st s' _ aC cP ⟨e_,l0,oZ⟩=>⟨p,e_,kat_snds rfl aC,cP,l0,oZ⟩) h) ?_ λ_ _ e=>e)
  rintro⟨⟨⟩,st⟩ s' ⟨p,rfl,out,ok,R,S⟩;rw[out];refine aka (anF f rfl (aka (amj f rfl ?_ (akG _) ?_)))
  .rw[ok]
   simp only[bne_self_eq_false];exact akn (fin p R S)
  .rw[aks,akc,ak1,R.jv,akS];omega
end
end aS
namespace aS
open PySem PySem.Spec aB
def h4(b:Bool)(h:Heap)(i l:Addr)(k:Nat):Prop:=match b with
 |true=>h.IsTupleIter i l k|false=>h.IsListIter i l k
def k_(b:Bool)(h:Heap)(l:Addr)(xs:Array Value):Prop:=match b with
 |true=>h.IsTuple l xs|false=>h.IsList l xs
def h4.extBut(x:h4 b h a l i)(av:Heap.ExtBut c h h')(d:a≠c):h4 b h' a l i:=by
 cases b with
 |true=>exact Heap.IsTupleIter.extBut x av d|false=>exact Heap.IsListIter.extBut x av d
def k_.extBut(x:k_ b h a xs)(av:Heap.ExtBut c h h')(d:a≠c):k_ b h' a xs:=by
 cases b with
 |true=>exact Heap.IsTuple.extBut x av d|false=>exact Heap.IsList.extBut x av d
def h4.obj{h:Heap}(x:h4 b h a l i):∃o vs,h.get? a=some o/\o.data=.fields vs:=by
 cases b with
 |true=>obtain⟨o,e,_,d⟩:=x;exact⟨o,_,e,d⟩
 |false=>obtain⟨o,e,_,d⟩:=x;exact⟨o,_,e,d⟩
def h4.at'{h c:Heap}(x:h4 b h a l i)(k:∀o,h.get? a=some o->c.get? a=some o):h4 b c a l i:=by
 cases b with
 |true=>obtain⟨o,e,r⟩:=x;exact⟨o,k o e,r⟩
 |false=>obtain⟨o,e,r⟩:=x;exact⟨o,k o e,r⟩
def k_.obj{h:Heap}(x:k_ b h a xs):∃o n,h.get? a=some o/\o.data=.seq xs n:=by
 cases b with
 |true=>obtain⟨o,e,_,n,d⟩:=x;exact⟨o,n,e,d⟩
 |false=>obtain⟨o,e,_,n,d⟩:=x;exact⟨o,n,e,d⟩
section
variable{prog:akr}{w:World}{A:akw}{E:cZ}{s:akd}
def FT{b:Bool}{it l:Addr}{i:Nat}{a:Array Value}{Q:cZ}(c:h4 b s.heap it l i)(g:k_ b s.heap l a)
  (h:match a[i]? with
   |some x=>∀d,h4 b d it l (i+1)->anr it s.heap d->Q x { s with heap:=d }| none=>A.handled=none/\∀d e,Heap.ExtBut it s.heap d->(∃o,d.get? e=some o/\o.cls=.type "StopIteration")->E (.ref e) { s with heap:=d }):wpAny (model prog w) A (Builtin.SmallTypes.nextOf (.ref it)) Q E s:=by
 cases b with
 |false=>
  cases C:a[i]? with
  |some x=>rw[C]at h;exact wpAny_nextOf_list_item c g C h|none=>rw[C]at h;exact wpAny_nextOf_list_end h.1 c g C h.2
 |true=>
  obtain⟨o,f,m,hd⟩:=id c;obtain⟨p,k,_,n,j⟩:=g;refine aka (ami c.typeIs anV (ani anV c.typeIs F.entry_tuple_iterator_next ?_ (F.args_tuple_iterator_next_1 _)));show wpAny _ _ (field (.ref it) 0 >>= _) _ _ s;refine aka (alG f hd rfl ?_);refine aka (alG f hd rfl ?_);refine aka (amd k j ?_)
  cases C:a[i]? with
  |some x=>
   rw[C]at h;simp only[an0,C];refine aka (am3 f hd (by simp) (akn ⟨x,rfl,akn (h _ ?_ (alu ..))⟩));exact⟨_,anp _ f (anq (aml hd _)),(Obj.cls_mapFields ..).trans m,by rw[aml hd];simp[alN]⟩
  |none=>
   rw[C]at h;simp only[an0,C];refine aka (aoa (aka (am3 f hd (by simp) ?_)));refine aka<|aka (amw ?_ (by size_fits))
   refine aka (wpAny_of_eq (by first|rfl|(rfl)) ?_);refine amw ?_ (by size_fits);refine aka (wpAny_handled ?_)
   first|rw[show A.in1.handled=none from h.1]|rw[h.1]
   refine aka (akn (wpAny_throw ?_));exact h.2 _ _ (((alu ..).extBut.push _).push _) ⟨_,akk _ rfl,rfl⟩
end
section
variable{prog:akr}{w:World}{A:akw}{E:cZ}{s:akd}
def R2{K J:Bool}{z TI f3 gW j t u:Addr}{k1 k2:Nat}{xs M:Array Value}{a b:Value}{Q:Option Value->akd->Prop}(D:ZipApart z TI f3 gW j t u)
  (hz:IsZip s.heap z TI f3 .none) (mR:anP s.heap TI (.ref gW) (.ref j)) (n5:anP s.heap f3 a b)
  (U:h4 K s.heap gW t k1) (ah:h4 J s.heap j u k2) (oa:k_ K s.heap t xs) (jk:k_ J s.heap u M)
  (h:match xs[k1]?,M[k2]? with
   |some x,some y=>∀d,IsZip d z TI f3 (alN s.heap.objs.size)->anP d f3 x y->h4 K d gW t (k1+1)->h4 J d j u (k2+1)->anP d s.heap.objs.size x y->
    (∀c o,c≠z->c≠f3->c≠gW->c≠j->s.heap.get? c=some o->d.get? c=some o)->Q (some (.ref s.heap.objs.size)) { s with heap:=d }
   |_,_=>A.handled=none/\∀d,(∀c o,c≠z->c≠f3->c≠gW->c≠j->s.heap.get? c=some o->d.get? c=some o)->Q none { s with heap:=d }) :
  wpAny (model prog w) A (pyNext (.ref z)) Q E s:=by
 have f6:s.TypeIs (.ref z) "zip":=⟨_,hz,rfl⟩;have fin:∀d e,(∀d,(∀c o,c≠z->c≠f3->c≠gW->c≠j->s.heap.get? c=some o->d.get? c=some o)->Q none { s with heap:=d })->(∀c o,c≠z->c≠f3->c≠gW->c≠j->s.heap.get? c=some o->d.get? c=some o)->(∃o,d.get? e=some o/\o.cls=.type "StopIteration")->
   wpAny (model prog w) A (do
    if <-isInstance (.ref e) (.type "StopIteration")then pure none else throw (.ref e)) Q E { s with heap:=d }:=λd e mQ aw aW=>by
  obtain⟨o,bb,hc⟩:=aW;refine aka (wpAny_isInstance ⟨o,bb,hc⟩ isSubtype_stop ?_);exact akn (mQ _ aw)
 refine aka (wpAny_attempt (ami f6 F.slot_zip_next (ani F.slot_zip_next f6 F.entry_zip_next ?_ (F.args_zip_next_1 _))));show wpAny _ _ (field (.ref z) 2 >>= _) _ _ _;refine aka (alG hz rfl rfl ?_);refine aka (alG hz rfl rfl ?_);refine aka (amd mR rfl ?_);refine aka<|aka (alG hz rfl rfl (akn ?_))
 refine aka (aoa ?_);refine aka (alG hz rfl rfl ?_);refine aka (amm hz (by simp) λjm H f=>?_);refine aka<|aka (aka (wpAny_onRaise ?_))
 cases C:xs[k1]? with
 |none=>
  rw[C]at h;refine aka (FT (U.extBut f.extBut D.i1z) (oa.extBut f.extBut D.l1z) ?_);rw[C];refine⟨h.1,λsb e i he=>?_⟩;obtain⟨L,n,r⟩:=he;have Y:=i _ _ D.i1z.symm H;have G:e≠z:=λx=>by subst x;rw[Y]at n;cases n;simp at r
  exact amm Y (by simp) λsd _ g=>fin sd e h.2 (λc o bM _ kB _ x=>g.extBut _ _ bM (i _ _ kB (f.extBut _ _ bM x))) ⟨L,g.extBut _ _ G n,r⟩
 |some x=>
  rw[C]at h;refine aka (FT (U.extBut f.extBut D.i1z) (oa.extBut f.extBut D.l1z) ?_);rw[C];refine λsb Wh i=>akn ?_
  have N:=i.extBut _ _ D.TOi1 (f.extBut _ _ D.TOz n5);refine aka (amd N rfl ?_);refine aka (wpAny_updateSeq_pair N λsd Wx g=>?_);refine aka (amN (akn ?_));refine aka (aka (wpAny_onRaise ?_));refine aka (FT (((ah.extBut f.extBut D.i2z).extBut i.extBut D.i12.symm).extBut g.extBut D.TOi2.symm) (((jk.extBut f.extBut D.l2z).extBut i.extBut D.l2i1).extBut g.extBut D.l2TO) ?_)
  cases I:M[k2]? with
  |none=>
   rw[I]at h;refine⟨h.1,λEu e k he=>?_⟩;obtain⟨L,n,r⟩:=he;have Z:=k _ _ D.i2z.symm (g.extBut _ _ D.TOz.symm (i.extBut _ _ D.i1z.symm H));have G:e≠z:=λx=>by subst x;rw[Z]at n;cases n;simp at r
   exact amm Z (by simp) λm _ l=>fin m e h.2 (λc o bM ak kB q x=>l.extBut _ _ bM (k _ _ q (g.extBut _ _ ak (i.extBut _ _ kB (f.extBut _ _ bM x))))) ⟨L,l.extBut _ _ G n,r⟩
  |some y=>
   rw[I]at h;refine λEu Wj k=>akn ?_
   have O:=k.extBut _ _ D.TOi2 Wx;refine aka (amd O rfl ?_);refine aka (wpAny_updateSeq_pair O λm B l=>?_)
   replace B:anP m f3 x y:=B
   refine aka (amN (akn (akn ?_)));refine aka (amd B rfl ?_);refine aka (wpAny_newTuple ?_);have p:m.objs.size=s.heap.objs.size:=by rw[l.1,k.1,g.1,i.1,f.1]
   have R:=l.extBut _ _ D.TOz.symm (k.extBut _ _ D.i2z.symm (g.extBut _ _ D.TOz.symm (i.extBut _ _ D.i1z.symm H)));have YB:∀c o,c≠z->c≠f3->c≠gW->c≠j->s.heap.get? c=some o->m.get? c=some o:=λc o bM ak kB q e=>
    l.extBut _ _ ak (k.extBut _ _ q (g.extBut _ _ ak (i.extBut _ _ kB (f.extBut _ _ bM e))))
   have X:=akl R;refine aka ?_;have Y9:IsZip (m.push { cls:=.type "tuple",data:=.seq #[x,y] }) z TI f3 .ellipsis:=akb _ R;refine aka (amm Y9 (by simp) λajF Y_ V=>?_);refine amm Y_ (by simp) λT S W=>?_
   have up:∀c o,c≠z->m.get? c=some o->T.get? c=some o:=λc o bM e=>W.extBut _ _ bM (V.extBut _ _ bM (akb _ e))
   have P:=W.extBut _ _ (aoh X) (V.extBut _ _ (aoh X) (akk _ rfl));rw[p]at S P;refine akn ⟨_,rfl,?_⟩;rw[p];exact akn (h T S (up _ _ D.TOz B) ((((Wh.extBut g.extBut D.TOi1.symm).extBut k.extBut D.i12).extBut l.extBut D.TOi1.symm).at' λo e=>up _ o D.i1z e) ((Wj.extBut l.extBut D.TOi2.symm).at' λo e=>up _ o D.i2z e) P λc o bM ak kB q e=>up c o bM (YB c o bM ak kB q e))
end
section
variable{X:aN}{ae:c0}{U:St}{H:au}{s:akd}{h':Heap}
def Inv.Ro{t':Nat}{ch:List Addr}(I:Inv X ae U H s)(k:∀b o,b∉ch->s.heap.get? b=some o->h'.get? b=some o)(d:∀b∈ch,hH X ae H b):Inv X ae U H { s with heap:=h',toks:=t' }:=by
 have f:∀b u,H b=some u->b∉ch:=λb u e z=>by rw[(d b z).1]at e;cases e
 refine I.step (λb g=>?_) (λb o _ _ a e _=>k b o a e) (λb o _ _ a e _=>⟨o.slots,k b o a e⟩) (λ_ _ _ _ n=>n)
  (λb o a e=>⟨o,k b o a e⟩) (λ_ _ e=>e) (λ_ _ _ e=>e) (λb ps e=>⟨#[],by rw[e];simp⟩) (λm w=>?_) (λb u e=>?_) I.bare
 .obtain⟨_,j,_,p,l,t⟩:=d b g
  exact⟨p,j,l,t⟩
 .obtain⟨o,h,cD,i,r⟩:=w
  exact⟨o,h,cD,k _ o (λz=>(d _ z).2.1 rfl) i,r⟩
 .refine(I.bP b u e).rd (λc v a q=>k c v ?_ q) (λ_ q=>q) λ_ _ q=>q
  rcases a with z|z
  .rw[z];exact f b u e
  .exact f c _ z
end
def iz(b:Bool)(K:aP)(H:au)(a:Addr)(xs:List V):Prop:=match b with
 |true=>dQ K H a xs|false=>dy K H a xs
def Inv.dO{s:akd}(I:Inv X o U H s)(h:iz b X.K H a xs):∃c:List Value,Vals xs c/\k_ b s.heap a c.toArray:=by
 cases b with
 |true=>obtain⟨c,r,p,_⟩:=I.tuple h;exact⟨c,r,p⟩
 |false=>obtain⟨c,r,p,_⟩:=I.list h;exact⟨c,r,p.isList⟩
def Inv.QQ(I:Inv X o U H s)(h:iz b X.K H a xs)(c:iz b X.K H a ys):xs=ys:=by
 cases b with
 |true=>exact I.Rm h c|false=>exact I.OH h c
def HW(K:aP)(e d:Bool)(b c:Addr):iO:=
  ⟨λi H=>(∃xs x,iz e K H b xs/\xs[i]? = some x)/\∃a y,iz d K H c a/\a[i]? = some y,
   λi H x f=>∃u v T,x=.ref T/\H T=none/\f=upd H T (.t [u,v])/\(∀xs,iz e K H b xs->xs[i]? = some u)/\∀a,iz d K H c a->a[i]? = some v,
   λi H=>∃xs a,iz e K H b xs/\iz d K H c a/\(xs.length<=i\/a.length<=i)⟩
def afe{gz:Nat}(cq cn:Bool){z TI f3 gW g V W:Addr}(D:ZipApart z TI f3 gW g V W):Turn P w K (.Tuple elts gz d8) (HW K cq cn V W) [z,TI,f3,gW,g] z
  (λi h=>IsZip h z TI f3 .none/\anP h TI (.ref gW) (.ref g)/\(∃a b,anP h f3 a b)/\h4 cq h gW V i/\h4 cn h g W i) where
 mem:=by simp
 obj:=λi h st b c=>by
  obtain⟨hz,j,⟨x,y,n⟩,l,m⟩:=st;rcases akq.mp c with rfl|c
  .exact⟨_,hz,λv z=>by cases z⟩
  rcases akq.mp c with rfl|c
  .exact⟨_,j,λv z=>by cases z⟩
  rcases akq.mp c with rfl|c
  .exact⟨_,n,λv z=>by cases z⟩
  rcases akq.mp c with rfl|c
  .obtain⟨o,vs,e,d⟩:=l.obj;exact⟨o,e,λv z=>by rw[d]at z;cases z⟩
  rcases akq.mp c with rfl|c
  .obtain⟨o,vs,e,d⟩:=m.obj;exact⟨o,e,λv z=>by rw[d]at z;cases z⟩
  cases c
 keep:=λi h r ⟨hz,j,⟨x,y,n⟩,l,m⟩ k=>⟨k z (by simp) _ hz,k TI (by simp) _ j,⟨x,y,k f3 (by simp) _ n⟩,l.at' λo e=>k gW (by simp) o e,m.at' λo e=>k g (by simp) o e⟩
 item:=by
  rintro X Y hw Z hc i S s U H E I N ⟨hz,j,⟨y8,gs,n⟩,l,m⟩ ⟨⟨xs,x,J,ag⟩,⟨ys,y,L,a_⟩⟩;subst Y hw Z;obtain⟨C,T,p⟩:=Inv.dO I J;obtain⟨NY,jT,q⟩:=Inv.dO I L;obtain⟨u,cQ,e4⟩:=T.get ag;obtain⟨v,bS,R⟩:=jT.get a_;have Yo:∀b∈[z,f3,gW,g],b∈[z,TI,f3,gW,g]:=λb c=>by simp at c ⊢;rcases c with h|h|h|h<;>simp[h]
  refine R2 D hz j n l m p q ?_;rw[amC,amC,cQ,bS];refine λr a1 a2 gU jI oO M=>⟨_,rfl,wpAny_letOwnedTupleGo_zip a1 λWf Y6 B=>?_⟩
  have F:=akl hz;have G:=akl n;have O:gW<s.heap.objs.size:=by obtain⟨_,_,e,_⟩:=l.obj;exact akl e
  have Q:g<s.heap.objs.size:=by obtain⟨_,_,e,_⟩:=m.obj;exact akl e
  have jk:Vals [x,y] [u,v]:=.cons e4 (.cons R .nil);have bq:Inv X S U (upd H s.heap.objs.size (.t [x,y])) { s with heap:=s.heap.push { cls:=.type "tuple",data:=.seq #[u,v] } }:=
   I.laid (λb u e=>akb _ e) (akf _) ⟨by show 2<=_;decide,[u,v],jk,⟨_,akk _ rfl,rfl,_,rfl⟩⟩
  have cj:Inv X S U (upd H s.heap.objs.size (.t [x,y])) { s with heap:=Wf }:=by
   refine Inv.Ro (s:={ s with heap:=s.heap.push { cls:=.type "tuple",data:=.seq #[u,v] } }) (ch:=[z,f3,gW,g]) bq (λb o c e=>?_) λb c=>?_
   .have xD:b≠z:=λq=>c (by simp[q])
    refine B.extBut _ _ xD ?_;rcases Heap.get?_push_cases e with⟨rfl,rfl⟩|e
    .exact oO
    .exact M b o xD (λq=>c (by simp[q])) (λq=>c (by simp[q])) (λq=>c (by simp[q])) e
   .obtain⟨f0,f⟩:=N b (Yo b c)
    refine⟨?_,f⟩;rw[du]
    .exact f0
    .rintro rfl
     simp at c;rcases c with h|h|h|h
     .rw[<-h]at F;exact ak0 _ F
     .rw[<-h]at G;exact ak0 _ G
     .rw[<-h]at O;exact ak0 _ O
     .rw[<-h]at Q;exact ak0 _ Q
  refine⟨.ref s.heap.objs.size,_,cj,rfl,⟨x,y,_,rfl,(I.bP.fresh (akf s.heap.objs.size)),rfl,λyB r=>by rw[Inv.QQ I r J];exact ag,λag3 r=>by rw[Inv.QQ I r L];exact a_⟩,
   ⟨Y6,B.extBut _ _ D.TIz (M _ _ D.TIz D.TITO D.TIi1 D.TIi2 j),⟨_,_,B.extBut _ _ D.TOz a2⟩,gU.extBut B.extBut D.i1z,jI.extBut B.extBut D.i2z⟩,λb c=>?_⟩
  rw[du]
  .exact(N b c).1
  .rintro rfl
   have A:=akl j;simp at c;rcases c with h|h|h|h|h
   .rw[<-h]at F;exact ak0 _ F
   .rw[<-h]at A;exact ak0 _ A
   .rw[<-h]at G;exact ak0 _ G
   .rw[<-h]at O;exact ak0 _ O
   .rw[<-h]at Q;exact ak0 _ Q
 done:=by
  rintro X Y hw Z hc i S s U H E I N ⟨hz,j,⟨y8,gs,n⟩,l,m⟩ ⟨xs,ys,J,L,hl⟩;subst Y hw Z;obtain⟨C,T,p⟩:=Inv.dO I J;obtain⟨NY,jT,q⟩:=Inv.dO I L;have aq:=T.length;have aC:=jT.length;refine R2 D hz j n l m p q ?_;rw[amC,amC];split
  .rename_i cP e_
   have gU:=(ake.mp cP).1;have jI:=(ake.mp e_).1;omega
  .refine⟨I.ok.hd hc,λr M=>⟨rfl,?_⟩⟩
   refine Inv.Ro (ch:=[z,f3,gW,g]) I (λb o c e=>M b o (λq=>c (by simp[q])) (λq=>c (by simp[q])) (λq=>c (by simp[q])) (λq=>c (by simp[q])) e) λb c=>N b ?_
   simp at c ⊢;rcases c with h|h|h|h<;>simp[h]
 self:=λ_ _ _ _ _ ⟨hz,_⟩ h=>wpAny_pyIter_zip hz h
def Ah(b:Bool)(l:Addr):Obj:=match b with
 |true=>{ cls:=.type "tuple_iterator",data:=.fields #[.ref l,.int 0 0] }
 |false=>{ cls:=.type "list_iterator",data:=.fields #[.ref l,.int 0 0] }
abbrev BU(b:Bool)(h:Heap)(a:Addr):Heap:=h.push (Ah b a)
abbrev BV(d c:Bool)(h:Heap)(a b:Addr):Heap:=(BU d h a).push (Ah c b)
abbrev BW(b d:Bool)(h:Heap)(a c:Addr):Heap:=(BV b d h a c).push { cls:=.type "tuple",data:=.seq #[.ref h.objs.size,.ref (BU b h a).objs.size] }
abbrev BX(d c:Bool)(h:Heap)(a b:Addr):Heap:=(BW d c h a b).push { cls:=.type "tuple",data:=.seq #[.none,.none] }
abbrev vy(d c:Bool)(h:Heap)(a b:Addr):Heap:=(BX d c h a b).push { cls:=.type "zip",data:=.fields #[.none,.bool false,.bool false,.ref (BV d c h a b).objs.size,.ref (BW d c h a b).objs.size] }
def aaW(m e:Bool)(a c:Addr)(xs l:Array Value) :
  Meets (Builtin.«zip.__new__» ⟨[.type "zip",.ref a,.ref c],[]⟩) (λ_ R s=>k_ m s.heap a xs/\k_ e s.heap c l/\
   R (.ok (.ret (.ref (BX m e s.heap a c).objs.size))) { s with heap:=vy m e s.heap a c }):=by
 cases m with
 |false=>
  cases e with
  |false=>exact meets_zip_new a c xs l|true=>
   refine .of_wp λprog w A R s h=>?_
   obtain⟨b,g,d,tk,os⟩:=s;obtain⟨i,f,h⟩:=h;have n:=sub_zip;have j:Heap.IsList (anb ⟨b,g,d,tk,os⟩) a xs:=i;have k:aom (anb ⟨b.push { cls:=.type "list_iterator",data:=.fields #[.ref a,.int 0 0] },g,d,tk,os⟩) c l:=aoW f _
   wp_walk using alR j,amk k
   exact⟨_,rfl,h⟩
 |true=>
  cases e with
  |false=>
   refine .of_wp λprog w A R s h=>?_
   obtain⟨b,g,d,tk,os⟩:=s;obtain⟨i,f,h⟩:=h;have n:=sub_zip;have j:aom (anb ⟨b,g,d,tk,os⟩) a xs:=i;have k:Heap.IsList (anb ⟨b.push { cls:=.type "tuple_iterator",data:=.fields #[.ref a,.int 0 0] },g,d,tk,os⟩) c l:=Heap.IsList.push f _
   wp_walk using amk j,alR k
   exact⟨_,rfl,h⟩
  |true=>
   refine .of_wp λprog w A R s h=>?_
   obtain⟨b,g,d,tk,os⟩:=s;obtain⟨i,f,h⟩:=h;have n:=sub_zip;have j:aom (anb ⟨b,g,d,tk,os⟩) a xs:=i;have k:aom (anb ⟨b.push { cls:=.type "tuple_iterator",data:=.fields #[.ref a,.int 0 0] },g,d,tk,os⟩) c l:=aoW f _
   wp_walk using amk j,amk k
   exact⟨_,rfl,h⟩
def h4.new{h:Heap}(e:h.get? a=some (Ah b l)):h4 b h a l 0:=by
 cases b with
 |true=>exact⟨_,e,rfl,rfl⟩|false=>exact⟨_,e,rfl,rfl⟩
section
variable{prog:akr}{w:World}{A:akw}{E:cZ}{s:akd}
def Uq{d f:Bool}{a e:Addr}{xs u:Array Value}{Q:cZ}(z:k_ d s.heap a xs)(y:k_ f s.heap e u)
  (h:∀g,IsZip g (s.heap.objs.size+4) (s.heap.objs.size+2) (s.heap.objs.size+3) .none->anP g (s.heap.objs.size+2) (.ref s.heap.objs.size) (.ref (s.heap.objs.size+1))->
   anP g (s.heap.objs.size+3) .none .none->h4 d g s.heap.objs.size a 0->h4 f g (s.heap.objs.size+1) e 0->
   (∀c o,s.heap.get? c=some o->g.get? c=some o)->Q (.ref (s.heap.objs.size+4)) { s with heap:=g }) :
  wpAny (model prog w) A (call (.type "zip") [.ref a,.ref e]) Q E s:=by
 refine callType_new F.called_zip (by decide) (F.typeCall_zip_2 _ _) (F.newCall_zip_2 _ _) (λobj=>F.args_object_init_3 obj _ _) F.entry_zip_new (aaW d f a e xs u) ⟨z,y,?_⟩;have k:(BU d s.heap a).objs.size=s.heap.objs.size+1:=alY ..;have j:(BV d f s.heap a e).objs.size=s.heap.objs.size+2:=by rw[alY,k]
 have m:(BW d f s.heap a e).objs.size=s.heap.objs.size+3:=by rw[alY,j]
 have t:(BX d f s.heap a e).objs.size=s.heap.objs.size+4:=by rw[alY,m]
 have n:∀b l,(Ah b l).isFreed=false:=λb l=>by cases b<;>rfl
 have i:(vy d f s.heap a e).get? (BX d f s.heap a e).objs.size=some _:=akk _ rfl;have r:(vy d f s.heap a e).get? (BW d f s.heap a e).objs.size=some _:=akb _ (akk _ rfl);have q:(vy d f s.heap a e).get? (BV d f s.heap a e).objs.size=some _:=akb _ (akb _ (akk _ rfl));have p:(vy d f s.heap a e).get? (BU d s.heap a).objs.size=some _:=akb _ (akb _ (akb _ (akk _ (n _ _))));have g1:(vy d f s.heap a e).get? s.heap.objs.size=some _:=akb _ (akb _ (akb _ (akb _ (akk _ (n _ _)))));show _/\_;rw[j,m,t]at i;rw[k,j]at q;rw[m]at r;rw[k]at p;rw[t];exact⟨⟨_,i,rfl⟩,h _ i q r (.new g1) (.new p) λc o x=>
  akb _ (akb _ (akb _ (akb _ (akb _ x))))⟩
end
def Ey(K:aP)(f:gH):TI:=λU H R=>f U H λvs a=>∃e d b c,vs=[.ref b,.ref c]/\(∃xs,iz e K a b xs)/\(∃g,iz d K a c g)/\R (HW K e d b c) a
def PU{X:aN}{g:List Expr}{gz:Nat}{T:Pos}{p pos:Pos}(F:eS X "zip")(W:X.mg "zip"=none)(M:gR X [a,b] o)(av:akT [a,b] X.env=[(false,eval a X.env),(false,eval b X.env)]:=by rfl)(z:akT [b] X.env=[(false,eval b X.env)]:=by rfl) :
  j5 X (.Tuple g gz T) (.Call (.Name "zip" p) [a,b] [] pos) (Ey X.K o):=by
 intro J s U H R I h;refine PyProof.Rows.Call_ (uu I F W PyProof.Rows.boot_zip (amD (cb (M pos J s U H _ I h) λus s1 ⟨vs,E,f,O,bw⟩=>?_) (by rw[av,z]) (by rw[z];rfl)));refine bR λd=>?_
 obtain⟨S,Q,t,u,e,⟨xs,L⟩,⟨ys,G⟩,q⟩:=bw;subst e
 cases O with
 |cons r m=>
  cases m with
  |cons P m=>
   cases m;cases r;cases P;obtain⟨Y,C,p1⟩:=Inv.dO f L;obtain⟨Z,jT,eW⟩:=Inv.dO f G;have A:t<s1.heap.objs.size:=by obtain⟨_,_,e,_⟩:=p1.obj;exact akl e
   have B:u<s1.heap.objs.size:=by obtain⟨_,_,e,_⟩:=eW.obj;exact akl e
   refine d ?_;refine Uq p1 eW λV a1 a2 gU jI oO N=>?_
   refine wpAny_pyIter_zip (s:={ s1 with heap:=V }) a1 ?_;have D:ZipApart (s1.heap.objs.size+4) (s1.heap.objs.size+2) (s1.heap.objs.size+3) s1.heap.objs.size (s1.heap.objs.size+1) t u:=by
    have up:∀{l:Addr}(k:Nat),l<s1.heap.objs.size->l≠s1.heap.objs.size+k:=λk h=>akv (akJ h (amH _ _))
    have sl:t≠s1.heap.objs.size:=akv A;have w:u≠s1.heap.objs.size:=akv B;have i:=λk=>up k A
    have j:=λk=>up k B
    generalize s1.heap.objs.size=n at sl w i j ⊢;constructor<;>first|exact i 4|exact i 3|exact sl|exact i 1|exact j 4|exact j 3|exact w|exact j 1|(show(_:Nat)≠_;omega)
   refine⟨s1.heap.objs.size+4,[s1.heap.objs.size+4,s1.heap.objs.size+2,s1.heap.objs.size+3,s1.heap.objs.size,s1.heap.objs.size+1],_,_,E,rfl,f.kept (t':=s1.toks) N,afe S Q D,⟨a1,a2,⟨_,_,gU⟩,jI,oO⟩,λc x=>?_,q⟩;have y:s1.heap.objs.size<=c:=by
    simp at x;refine bR λd=>?_
    rcases x with rfl|rfl|rfl|rfl|rfl
    .exact d (amH _ _)
    .exact d (amH _ _)
    .exact d (amH _ _)
    .exact d (akf _)
    .exact d (amH _ _)
   exact f.rP y (f.bP.fresh y)
end aS
namespace aS
open PySem PySem.Spec aB
variable[aB.a4]
def R.walk:R->Option (List D)
 |.v (.t xs)=>some xs|.v (.l xs)=>some xs|.fr xs=>some xs|.cf xs=>some xs|_=>none
def jY(xs a:List D):List D:=(xs.zip a).map λp=>.t [p.1,p.2]
def qd(b:Bool)(K:aP)(O:a3)(H:au)(a:Addr)(c:List V):Prop:=match b with
 |true=>dQ K H a c|false=>iu K O H a c
def qd.dO{O:a3}(h:qd b K O H a ys):iz b K H a ys:=by
 cases b with
 |true=>exact h|false=>exact iu.dO h
def qd.aZ{O c:a3}(g:ez O c H H')(h:qd b K O H a ys):qd b K c H' a ys:=by
 cases b with
 |true=>exact g.yd h|false=>exact g.OM h
def BE{O:a3}{r:R}{v:V}(h:eM K mg O H r v)(n:h2 H₀ r v)(e:r.walk=some xs):∃b a c,v=.ref a/\qd b K (cm H₀ O) H a c/\bc K mg (cm H₀ O) H xs c:=by
 unfold R.walk at e;split at e
 .cases e;obtain⟨a,c,q,l,r⟩:=h;exact⟨true,a,c,q,l,r.dz (jg _ _)⟩
 .cases e
  obtain⟨a,c,q,l,r⟩:=h;exact⟨false,a,c,q,.inl ⟨.inl l.1,.inl ((jg H₀ O).fr a l.2)⟩,r.dz (jg _ _)⟩
 .cases e
  obtain⟨a,c,rfl,l,t,r⟩:=h;exact⟨false,a,c,rfl,.inl ⟨.inl l,.inl (wG (n a rfl) t)⟩,r.dz (jg _ _)⟩
 .cases e
  obtain⟨a,c,q,l,r⟩:=h;refine⟨false,a,c,q,?_,r.dz (jg _ _)⟩;rcases l with⟨l,f⟩|l
  .refine .inl ⟨l,?_⟩
   rcases f with f|f
   .exact .inl ((jg H₀ O).fr a f)
   .exact .inr (by rw[rQ (by rw[f];intro z;cases z)];exact f)
  .exact .inr l
 .cases e
def rg(is:List Nat)(b:aY):D->aY:=λd U=>match d with
 |.t a=>if a.length=is.length then b (lH is a U)else bad|_=>bad
def vx:List R->Option (List D)
 |[x,y]=>match x.walk,y.walk with
  |some xs,some ys=>some (jY xs ys)|_,_=>none
 |_=>none
@[simp] def tL(is:List Nat)(a:cW)(b:aY)(U:aJ):M fe:=do
 let rs <-a U
 match vx rs with
 |some ds=>hv (rg is b) ds U|none=>bad
def ahq(h:vx rs=some ds):∃x y xs a,rs=[x,y]/\x.walk=some xs/\y.walk=some a/\ds=jY xs a:=by
 unfold vx at h;split at h
 .rename_i x y
  split at h
  .rename_i xs a aq aC
   cases h;exact⟨x,y,xs,a,rfl,aq,aC,rfl⟩
  .cases h
 .cases h
def HA{xs c:List D}{k:Nat}{d:D}{ds:List D}(e:(jY xs c).drop k=d::ds):∃x y,xs[k]? = some x/\c[k]? = some y/\d=.t [x,y]/\(jY xs c).drop (k+1)=ds:=by
 have aq:(jY xs c)[k]? = some d:=by
  have:=congrArg (·[0]?) e;simpa using this
 unfold jY at aq;rw[akC]at aq
 cases o:(xs.zip c)[k]? with
 |none=>rw[o]at aq;cases aq
 |some p=>
  rw[o]at aq;cases aq;obtain⟨a,b⟩:=amS.mp o;refine⟨p.1,p.2,a,b,rfl,?_⟩;simpa using congrArg (aoy 1) e
def aho{xs a:List D}{k:Nat}(e:(jY xs a).drop k=[]):xs.length<=k\/a.length<=k:=by
 have:=congrArg alF e;unfold jY at this;simp only[alp,akc,anx,alw]at this;omega
def VJ{is:List Nat}:∀D z H,iq K mg (tL is ms b) D z H->sY (Ey K (pJ K mg ms)) (rT K is.length (ke is)) (iq K mg b) D z H:=by
 rintro D z H ⟨O,U,S,V,W,st,h,q⟩;obtain⟨rs,Q,af,h⟩:=M.inv h
 cases o:vx rs with
 |none=>rw[o]at h;cases h
 |some ds=>
  .rw[o]at h
   obtain⟨x,y,xs,A,rfl,ex,e',rfl⟩:=ahq o;refine⟨O,U,S,_,Q,st,af,λR vs N g1 aU bf nn=>?_⟩;obtain⟨v1,bK,rfl,a',v2,Y,rfl,bI,re⟩:=bf;cases re;obtain⟨cq,cE,us,rfl,s1,a1⟩:=BE a' nn.1 ex;obtain⟨cn,cY,F,rfl,s2,a2⟩:=BE bI nn.2.1 e';refine⟨cq,cn,cE,cY,rfl,⟨us,s1.dO⟩,⟨F,s2.dO⟩,?_⟩;refine⟨λk m B p=>m=(jY xs A).length-k/\∃j U' E,cU K mg j U' E B p/\ez (cm H R) j N p/\fg U U' z B/\(hv (rg is b) ((jY xs A).drop k) U').run E=.ok V W,⟨_,rfl,_,U,Q,(aU.cm H),ez.refl _ _,fg.refl _ _,h⟩,?_⟩;rintro k m B p ⟨rfl,j,U',E,X,g',kp,h⟩;have G:=qd.aZ g' s1;have J:=qd.aZ g' s2
   cases e:(jY xs A).drop k with
   |nil=>
    rw[e]at h;cases h;refine .inl ⟨⟨us,F,G.dO,J.dO,?_⟩,q j B p (g1.cm.aZ.trans g') X kp⟩;rw[a1.len,a2.len];exact aho e
   |cons d nT=>
    obtain⟨C,P,aq,aC,rfl,Z⟩:=HA e;obtain⟨u,kd,e4⟩:=(bc.aZ g' a1).get aq;obtain⟨v,I,bV⟩:=(bc.aZ g' a2).get aC;have gw:k<(jY xs A).length:=by
     have:=congrArg alF e;rw[alp,akx]at this;omega
    rw[e]at h;obtain⟨f1,i,s,h⟩:=M.inv h;unfold rg at s;dsimp only at s
    by_cases c:[C,P].length=is.length
    .rw[if_pos c]at s
     refine .inr ⟨⟨⟨us,u,G.dO,kd⟩,⟨F,v,J.dO,I⟩⟩,λn f=>∃a g i,cU K mg a g i n f/\ez (cm H R) a N f/\fg U g z n/\(hv (rg is b) ((jY xs A).drop (k+1)) g).run i=.ok V W,?_,λx f jA=>?_⟩
     .rintro n f ⟨a,g,i,g7,eY,oz,pV⟩
      exact⟨_,by omega,rfl,a,g,i,g7,eY,oz,pV⟩
     .obtain⟨u',f',T,rfl,f6,rfl,uh,m2⟩:=jA
      have xZ:=uh us G.dO;rw[kd]at xZ;cases xZ;have x1:=m2 F J.dO;rw[I]at x1;cases x1;have w:Go j j p (upd p T (.t [u,v])):=Go.f_ f6;refine⟨T,[u,v],rfl,dQ.of dU,by rw[<-c];rfl,BC (ds:=[C,P]) (X.f_ f6) ⟨u,[v],rfl,e4.go w,v,[],rfl,bV.go w,rfl⟩ c λkX nr L=>?_⟩;refine⟨j,_,E,f1,i,nr,s,?_⟩
      cases f1 with
      |bl g=>exact λa n f l cJ k2=>⟨a,g,i,cJ,g'.trans (w.aZ.trans l),kp.trans (L.trans k2),by rw[Z];exact h⟩
      |cM g=>exact λa n f l cJ k2=>⟨a,g,i,cJ,g'.trans (w.aZ.trans l),kp.trans (L.trans k2),by rw[Z];exact h⟩
      |bk g=>cases h;exact λa n f l cJ k2=>q a n f (g1.cm.aZ.trans (g'.trans (w.aZ.trans l))) cJ (kp.trans (L.trans k2))
      |cp r=>cases h;exact λa v f l dJ aC Y=>q a v f (g1.cm.aZ.trans (g'.trans (w.aZ.trans l))) dJ aC Y
    .rw[if_neg c]at s;cases s
def UJ{X:aN}{pos n:Pos}{is:List Nat}{d:List Expr}{k:Nat}{p e:Pos}{a c:Expr}{g:cW}{body:List Stmt}{b:aY}(j:anm (model X.prog X.w) X.A X.env X.dv)(f:X.calm=true)(u:eS X "zip")(r:X.mg "zip"=none)(m:B4 X [a,c] g)(h:mB X d (ke is))(l:p0 X body b)
  (i:(ak4 d X.env).length=is.length:=by rfl) (q:(ak4 d X.env).findIdx? (·.1)=none:=by rfl)
  (av:jH X (.Call (.Name "zip" p) [a,c] [] e):=by intro _;rfl) (t:akT [a,c] X.env=[(false,eval a X.env),(false,eval c X.env)]:=by rfl) (s:akT [c] X.env=[(false,eval c X.env)]:=by rfl) :
  HI X (.For (.Tuple d k n) (.Call (.Name "zip" p) [a,c] [] e) body [] pos) (tL is g b):=
 g4 (xU j f (PU u r m t s) (xQ f h i q) l av) VJ
section
variable{X:aN}
abbrev uk:List String:=["int","bool","tuple","list","str"]
def Qc(K:aP):List V->au->c_->Prop:=λxs H Q=>∃x a b c t,xs=[x,.ref a]/\dQ K H a [.ty b,.ty c]/\mD K H x t/\b∈uk/\c∈uk/\Q (.az (jo t b||jo t c)) H
omit [aB.a4]in
theorem Uj(kt:vJ X.K):jB X (.builtin "isinstance") (Qc X.K):=by
 intro A s U H xs us Q I D h;refine bR λd=>?_
 obtain⟨x,a,b,c,t,rfl,dO,ty,w,M,q⟩:=h;obtain⟨u,F,rfl,f,E⟩:=vals2 D;cases(show F=akZ a from E);obtain⟨j,r,⟨o,g,G,n,hd⟩,_⟩:=I.tuple dO;obtain⟨J,L,rfl,bw,cB⟩:=vals2 r;cases(show J=amZ b from bw);cases(show L=amZ c from cB);obtain⟨c6,P,B,N⟩:=o;cases G;cases hd;have e:W.kitAny X.K (.type t) [.type b,.type c]=some (jo t b||jo t c):=by
  have aq:W.kitOne X.K (.type t) (.type b)=some (jo t b):=kt.dm t ty.mem b w;have aC:W.kitOne X.K (.type t) (.type c)=some (jo t c):=kt.dm t ty.mem c M;unfold W.kitAny;rw[aq]
  cases jo t b with
  |true=>rfl|false=>
   unfold W.kitAny;rw[aC];cases jo t c<;>rfl
 have fin:∀tk,iN X A U Q (.bool (jo t b||jo t c)) { s with toks:=tk }:=λtk=>⟨.az _,H,I.tok tk,rfl,q⟩
 cases ty with
 |ay=>refine d ?_;cases(show u=alv from f);exact anQ W.kitx_none I.fi aly g e (λz=>nomatch z) fin
 |az y=>refine d ?_;cases(show u=an3 y from f);exact anQ W.kitx_bool I.fi aly g e (λz=>nomatch z) fin
 |int i=>refine d ?_;obtain⟨t,q⟩:=(show ∃t,u=anl i t from f);cases q;exact anQ W.kitx_int I.fi aly g e (λz=>nomatch z) fin
 |str y=>refine d ?_;obtain⟨t,q⟩:=(show ∃t,u=anG y t from f);cases q;exact anQ W.kitx_str I.fi aly g e (λz=>nomatch z) fin
 |@l a xs p=>
  cases(show u=akZ a from f);obtain⟨j,_,⟨o,O,k,m,_⟩,_⟩:=I.list p;exact d (anQ W.kitx_list I.fi ⟨o,k,m⟩ g e (λz=>nomatch z) fin)
 |@t a xs p=>
  cases(show u=akZ a from f);obtain⟨j,_,⟨o,k,m,_⟩,_⟩:=I.tuple p;exact d (anQ W.kitx_tuple I.fi ⟨o,k,m⟩ g e (λz=>nomatch z) fin)
end
def wy:List R->M R
 |[x,.v (.t [.ty o,.ty C])]=>match x.kind with
  |some t=>if o∈uk/\C∈uk then pure (.v (.az (jo t o||jo t C)))else bad|none=>bad
 |_=>bad
def ZJ:jZ K mg (Qc K) wy:=fun O U S I H vs rs bo C Q st o h q=>by
 unfold wy at h;split at h
 .rename_i x c d
  obtain⟨v,u,rfl,j,i⟩:=GH o;obtain⟨a,m,rfl,dO,f,k,rfl,aq,g,l,rfl,aC,cP⟩:=i;cases cP;cases(show f=.ty c from aq);cases(show g=.ty d from aC);split at h
  .rename_i t e
   by_cases b:c∈uk/\d∈uk
   .rw[if_pos b]at h
    cases h;exact⟨v,a,c,d,t,rfl,dO,R.Of j e,b.1,b.2,q O _ H (Go.refl _ _) st rfl trivial⟩
   .rw[if_neg b]at h;cases h
  .cases h
 .cases h
end aS
namespace aS
open PySem PySem.Spec aB PyProof.Rows
variable[aB.a4]
def sf(t:aJ->M Bool)(el:bj)(U:aJ):List (D×D)->M (List D)
 |[]=>pure []|d::ds=>do
  let b <-t ((U.set 0 (.v d.1)).set 1 (.v d.2))
  if b=true then do
   let r <-el ((U.set 0 (.v d.1)).set 1 (.v d.2))
   let x <-r.dat
   let xs <-sf t el U ds
   pure (x::xs)
  else sf t el U ds
def yE:List R->Option (List (D×D))
 |[x,y]=>match x.walk,y.walk with
  |some xs,some ys=>some (xs.zip ys)|_,_=>none
 |_=>none
@[simp] def v_(a:List Nat)(b:cW)(t:aJ->M Bool)(el:bj)(U:aJ):M R:=do
 let rs <-b U
 match yE rs with
 |some ds=>do
  h6 (ds.length<akg)
  let xs <-sf t el (kC 2 a U) ds
  pure (.fr xs)
 |none=>bad
def ahp(h:yE rs=some ds):∃x y xs a,rs=[x,y]/\x.walk=some xs/\y.walk=some a/\ds=xs.zip a:=by
 unfold yE at h;split at h
 .rename_i x y
  split at h
  .rename_i xs a aq aC
   cases h;exact⟨x,y,xs,a,rfl,aq,aC,rfl⟩
  .cases h
 .cases h
def iz.same{b:Bool}{K:aP}{H c:au}(s:eZ H c){a:Addr}{d:List V}(h:iz b K H a d):iz b K c a d:=by
 cases b with
 |true=>exact s.x9 h|false=>exact s.seq h
omit [aB.a4]in
theorem N1{t:aJ->M Bool}(U:aJ):∀ds,sf t el U ds=l5 (λd=>some ((U.set 0 (.v d.1)).set 1 (.v d.2))) t el ds
 |[]=>rfl| d::ds=>by unfold sf l5;rw[N1 U ds]
def UG{K:aP}{mg:ba}{c:List Nat}{B:cW}{t:aJ->M Bool}{el:bj}:∀j H Q,gk K mg (v_ c B t el) j H Q->vf 2 c (Ey K (pJ K mg B)) (rT K 2 (ke [0,1])) (pK K mg t) (gk K mg el) j H Q:=by
 rintro j H Q ⟨O,U,S,r,aj,st,h,q⟩;refine bR λa=>?_
 obtain⟨rs,F,L,h⟩:=M.inv h
 cases o:yE rs with
 |none=>refine a ?_;rw[o]at h;cases h
 |some ds=>
  rw[o]at h;obtain⟨_,aT,N,h⟩:=M.inv h;obtain⟨e,rfl⟩:=rF N;obtain⟨xs,ix,p,h⟩:=M.inv h;cases h;obtain⟨x,y,P,RW,rfl,ex,e',rfl⟩:=ahp o;rw[N1]at p;refine a ⟨O,U,S,_,F,st,L,λaM vs H1 g1 J m nn=>?_⟩;refine bR λa=>?_
  obtain⟨v1,bK,rfl,G,v2,cg,rfl,V,re⟩:=m;cases re;obtain⟨C,X,us,rfl,s1,a1⟩:=BE G nn.1 ex;obtain⟨Z,Y,i,rfl,s2,a2⟩:=BE V nn.2.1 e';refine a ⟨C,Z,X,Y,rfl,⟨us,s1.dO⟩,⟨i,s2.dO⟩,CZ (J.cm H) e (λb s=>⟨us,i,iz.same s s1.dO,iz.same s s2.dO,?_⟩) (λk d kW f b I cD g' l=>?_) p λf v b g l m nn=>q f v b (g1.cm.trans g) l m (nn.back g1.same)⟩
  .rw[anx,a1.len,a2.len];omega
  .cases cD
   refine bR λa=>?_
   obtain⟨aq,aC⟩:=amS.mp I;obtain⟨u,A,e4⟩:=(bc.go g' (a1.dz (la _))).get aq;obtain⟨v,w,W⟩:=(bc.go g' (a2.dz (la _))).get aC;have bw:=iz.same g'.same s1.dO;have cB:=iz.same g'.same s2.dO;refine a ⟨⟨⟨us,u,bw,A⟩,⟨i,v,cB,w⟩⟩,λx aQ R jA hy=>?_⟩;refine bR λa=>?_
   obtain⟨u',f',T,rfl,z,rfl,uh,m2⟩:=jA;have E:=uh us bw;rw[A]at E;cases E;have D:=m2 i cB;rw[w]at D;cases D;have n:Go f f b (upd b T (.t [u,v])):=Go.f_ z;exact a ⟨T,[u,v],rfl,dQ.of dU,rfl,u,[v],rfl,v,[],rfl,rfl,hy _ _ n (((l.f_ z).val (e4.go n)).val (W.go n)) (((nF.refl _).set rfl).set rfl)⟩
section
variable{X:aN}{scope esc:Scope}{EN N:List Str}{cap:List Nat}{elt a eU:Expr}{ifs:List Expr}{pos d8 p de p1 eW:Pos}{x y:Str}{t:aJ->M Bool}{el:bj}{ms:cW}{k:Nat}
def Uu(S:lO esc scope EN N 2 cap)(u:eS X "zip")(m:X.mg "zip"=none)(j:B4 X [a,eU] ms)(i:N[0]? = some x)(h:N[1]? = some y)
  (e:nP X scope N x) (f:nP X scope N y)
  (l:∀C b s H,B5 (ef X scope N C b s H) ifs t) (n:∀C b s H,j1 (ef X scope N C b s H) elt el)
  (he:X.env.scope=esc:=by rfl) (hN:X.N=EN:=by rfl) (d:X.calm=true:=by rfl) (av:jH X (.Call (.Name "zip" p) [a,eU] [] de):=by intro _;rfl)
  (r:akT [a,eU] X.env=[(false,eval a X.env),(false,eval eU X.env)]:=by rfl) (q:akT [eU] X.env=[(false,eval eU X.env)]:=by rfl)
  (c:Ck X scope N x p1 y eW:=by intro _ _ _ _;exact⟨rfl,rfl,rfl,rfl⟩) :
  j1 X (.ListComp elt [⟨.Tuple [.Name x p1,.Name y eW] k d8,.Call (.Name "zip" p) [a,eU] [] de,ifs,0⟩] scope pos) (v_ cap ms t el):=
 eI (Gj (g:=rT X.K 2 (ke [0,1])) S (PU u m j r q)
  (λC b s H=>xQ d (xR S.cS i (e C b s H).1 (xR S.cS h (f C b s H).1 Gl (c C b s H).2.2.2 (.inr (f C b s H).2)) (c C b s H).2.2.1 (.inr (e C b s H).2)) (c C b s H).1 (c C b s H).2.1) l n he hN d av) UG
end
end aS
namespace aS
open PySem PySem.Spec aB PyProof.Rows
def T':akY "max"=some (.builtin "max"):=by decide +kernel
def kmk_max_key(a v:Value):argsOk "max" ⟨[a],[(akR "key",v)]⟩:=by kernel_rfl
def EP(mf:bx)(d:D):Option (List Int):=match(mf [d]).run []with
 |.ok (.v (.t o)) []=>nums o|_=>none
def aaM(d:D)(d7:List Int):Option (D×List Int)->Option (D×List Int)
 |none=>some (d,d7)|some b=>if l9 d7 b.2=true then some (d,d7)else some b
def pg(mf:bx):List D->Option (D×List Int)->Option D
 |[],b=>b.map Prod.fst|d::ds,b=>(EP mf d).bind λd7=>pg mf ds (aaM d d7 b)
def wB(mf:bx)(x:R):M R:=match x.fv with
 |some ds=>match pg mf ds none with
  |some r=>if ds.length<64 then pure (.v r)else bad|none=>bad
 |none=>bad
abbrev CO(mf:bx)(a:bj):bj:=v' wB mf a
def Z7{mf:bx}{k:List Int}(h:EP mf d=some k):∃a,(mf [d]).run []=.ok (.v (.t a)) []/\nums a=some k:=by
 unfold EP at h;split at h
 .rename_i a e;exact⟨a,e,h⟩
 .cases h
variable[aB.a4]
section
variable{X:aN}{ae:c0}{U:aB.St}{H:au}{s:akd}{G:au->Prop}{mf:bx}{f S it l:Addr}{k:Nat}{O:a3}
def next_item{xs:List V}{v:V}{E:cZ}{A:akw}(I:Inv X ae U H1 s)(J:dy X.K H1 l xs)(q:xs[j]? = some v)(m:hH X ae H1 it)(a:s.heap.IsListIter it l j)(hh:A.handled=none) :
  wpAny (model X.prog X.w) A (pyNext (.ref it)) (λr s1=>∃u,r=some u/\RelV v u/\Inv X ae U H1 s1/\s1.heap.IsListIter it l (j+1)) E s:=by
 obtain⟨us,t,pl,_⟩:=I.list J;have h:=pl.isList;have N:l≠it:=by
  rintro rfl;obtain⟨o,e,c,_⟩:=a;obtain⟨R,g,c',_⟩:=h;rw[e]at g;cases g;rw[c]at c';injection c' with z;exact absurd z (by decide)
 obtain⟨u,d,x⟩:=t.get q;refine(an9 hh it l N us.toArray).item j s _ _ (by have:=(ake.mp d).1;simpa using this) ⟨a,h⟩ λQ W p y i P=>?_
 have e:some Q=some u:=by rw[<-d];simpa using y.symm
 cases e;obtain⟨B,D,T,L,F,M⟩:=m;exact⟨u,rfl,x,I.turned (λb o n e=>P b o (by simpa using n) e) B D L F M,i.1⟩
def abj{xs:List V}{E:cZ}{A:akw}(I:Inv X ae U H1 s)(x:dy X.K H1 l xs)(n:j=xs.length)(h:hH X ae H1 it)(a:s.heap.IsListIter it l j)(hh:A.handled=none) :
  wpAny (model X.prog X.w) A (pyNext (.ref it)) (λr s1=>r=none/\Inv X ae U H1 s1) E s:=by
 obtain⟨us,p,pl,_⟩:=I.list x;have g:=pl.isList;have D:l≠it:=by
  rintro rfl;obtain⟨o,e,c,_⟩:=a;obtain⟨L,d,c',_⟩:=g;rw[e]at d;cases d;rw[c]at c';injection c' with z;exact absurd z (by decide)
 have J:j=us.toArray.size:=by rw[aks,n,p.length]
 rw[J]at a;refine(an9 hh it l D us.toArray).done s _ _ ⟨a,g⟩ λN m F=>?_
 obtain⟨q,t,M,y,u,B⟩:=h;exact⟨rfl,I.turned (λb o i e=>F b o (by simpa using i) e) q t y u B⟩
def aad{i:a3}{v:V}{A:akw}(F:oF X k f G mf)(R:cL k A.in1)(dS:lQ X.prog X.w X.K X.mg X.base A.in1 X.stack s H1)(I:Inv X ae U H1 s)(fq:c2 i H1)(L:G H1)(cN:Rep X.K X.mg i H1 d v)(e4:RelV v u)(hd:(mf [d]).run []=.ok (.v o) [])(D:hH X ae H1 it)(y:s.heap.IsListIter it l j) :
  wpAny (model X.prog X.w) A.in1 (call (.ref f) [u]) (λM s2=>∃(n:a3)(a:au)(c:V),Inv X ae U a s2/\Go i n H1 a/\c2 n a/\G a/\Rep X.K X.mg n a o c/\RelV c M/\hH X ae a it/\s2.heap.IsListIter it l j) (λ_ _=>False) s:=by
 obtain⟨B,P,C,N⟩:=y;have Q:=I.pinned (λb t=>by rw[akt.mp t];exact D) λb t=>by
  rw[akt.mp t];exact⟨B,P,λv z=>by rw[N]at z;cases z⟩
 refine an6 (ame (F.2.2 A.in1 s H1 u v (λc p=>∃m,Go i m H1 p/\c2 m p/\Rep X.K X.mg m p o c) R dS L e4 ?_) λr s2 h=>?_)
 .refine⟨i,[d],.v o,[],fq,fC.nil,⟨v,[],rfl,?_,rfl⟩,hd,λm c p g cv Y _=>⟨m,g,cv,Y⟩⟩
  cases d<;>first|exact cN|exact akI cN|skip
  obtain⟨x,zs,q,l,r⟩:=cN;exact⟨x,zs,q,l.dO,r⟩
 .cases r with
  |error e=>exact akI h|ok T=>
   cases T with
   |ret M=>
    obtain⟨c,a,E,W,n,J,dJ,Z⟩:=Q.after h;have pin:=E.pin (it,B) (akH _ (akH _ (by unfold u4;simp[P])));exact⟨n,a,c,E.yn,J,dJ,F.1 _ _ J.same L,Z,W,⟨pin.2.1,D.2⟩,⟨B,pin.1,C,N⟩⟩
   |next=>exact akI h
   |brk=>exact akI h|cont=>exact akI h
def R7(K:aP)(mg:ba)(O:a3)(H:au):Option (D×List Int)->List V->Prop
 |none,zs=>zs=[]|some b,zs=>∃v a,zs=[v,a]/\Rep K mg O H b.1 v/\Rep K mg O H (.t (b.2.map D.int)) a
structure HE(X:aN)(ae:c0)(U:aB.St)(G:au->Prop)(O:a3)(H:au)(S it l:Addr)(j:Nat)(b:Option (D×List Int))(s':akd):Prop where
 ex:∃ai H' zs,Inv X ae U H' s'/\Go O ai H H'/\c2 ai H'/\G H'/\H' S=some (.l zs)/\R7 X.K X.mg ai H' b zs/\ai S=.ey/\hH X ae H' it/\s'.heap.IsListIter it l j
def Cc(X:aN)(ae:c0)(U:aB.St)(O:a3)(H:au)(res:D)(u:Value)(s':akd):Prop:=
 ∃b a v,Inv X ae U a s'/\Go O b H a/\c2 b a/\Rep X.K X.mg b a res v/\RelV v u
def adD{K:aP}{mg:ba}{O:a3}{H:au}{c:List D}{b:List Int}{v:V}(r:Rep K mg O H (.t c) v)(e:nums c=some b):Rep K mg O H (.t (b.map D.int)) v:=by
 obtain⟨a,g,rfl,dO,d⟩:=r;have:=uO d e;subst this;exact⟨a,_,rfl,dO,Qi b⟩
def Qk{K:aP}{mg:ba}{O:a3}{H:au}{b:List Int}{v:V}(r:Rep K mg O H (.t (b.map D.int)) v):∃a,v=.ref a/\dQ K H a (b.map V.int):=by
 obtain⟨a,c,rfl,dO,i⟩:=r;have:∀(b:List Int)(c:List V),bc K mg O H (b.map D.int) c->c=b.map V.int:=by
  intro b
  induction b with
  |nil=>intro c h;exact h|cons a t d=>
   intro c h;obtain⟨y,r,rfl,e,g⟩:=h;rw[show y=V.int a from e,d _ g];rfl
 rw[this b c i]at dO;exact⟨a,rfl,dO⟩
def vals2{v a:V}(h:Vals [v,a] its):∃u b,its=[u,b]/\RelV v u/\RelV a b:=by
 cases h with
 |cons c d=>cases d with
  |cons e g=>cases g;exact⟨_,_,rfl,c,e⟩
def TU{a:au}{c:List Value}{v g:V}(I:Inv X ae U a s)(j:a S=some (.l zs))(n:s.heap.get? S=some (ald "list" c.toArray v5))(i:RelV v u)(m:RelV g C) :
  Inv X ae U (upd a S (.l [v,g])) { s with heap:=s.heap.update S (akL λ_=>#[u,C]) }:=by
 obtain⟨ak,d⟩:∃ak,(s.heap.update S (akL λ_=>#[u,C])).get? S=some (ald "list" #[u,C] ak):=⟨_,al5 n λ_=>#[u,C]⟩;refine I.write (by rw[j];trivial) (.inl rfl) (λb o h e=>((alu s.heap S (akL λ_=>#[u,C])).2 b h).trans e) ⟨_,d⟩ ⟨by rw[akS];simp,[u,C],ak,.cons i (.cons m .nil),d⟩
def TR{a:au}{c:List Value}(I:Inv X ae U a s)(h:a S=some (.l zs))(i:s.heap.get? S=some (ald "list" c.toArray C)) :
  Inv X ae U (upd a S (.l [])) { s with heap:=s.heap.update S (akL λ_=>#[]) }:=by
 obtain⟨ak,d⟩:∃ak,(s.heap.update S (akL λ_=>(#[]:Array Value))).get? S=some (ald "list" #[] ak):=⟨_,al5 i λ_=>#[]⟩;refine I.write (by rw[h];trivial) (.inl rfl) (λb o g e=>((alu s.heap S (akL λ_=>(#[]:Array Value))).2 b g).trans e) ⟨_,d⟩ ⟨akG _,[],ak,.nil,d⟩
def Zt{h:Heap}(c:S≠it)(a:h.IsListIter it l j):(h.update S g).IsListIter it l j:=by
 obtain⟨d,i,b,e⟩:=a;exact⟨d,((alu h S g).2 it c.symm).trans i,b,e⟩
def VM(b:S≠it)(a:hH X ae H1 it):hH X ae (upd H1 S o) it:=⟨by rw[du b.symm];exact a.1,a.2⟩
def aaV{res:D}(fx:oF X k f G mf)(V:cL (k+1) X.A)(Ng:H S=none)(wQ:S≠it)(ra:bc X.K X.mg O H ds xs)(hl:dy X.K H l xs) :
  ∀(r:List D)(j:Nat)(b:Option (D×List Int))(s':akd),ds.drop j=r->HE X ae U G O H S it l j b s'->j<=ds.length->pg mf r b=some res->
   amM (model X.prog X.w) X.A (.builtin "max.loop" ⟨[.ref it,.ref f,.ref S],[]⟩) (λr s'=>∃u,r=.ok (.ret u)/\Cc X ae U O H res u s') s':=by
 have ajB:(toString "max"++toString ".loop":String)="max.loop":=by decide
 have hh:=V.in1.hd;intro r
 induction r with
 |nil=>
  rintro j (_|b) s' N B a5 h
  .cases h
  .cases h
   refine bR λd=>?_
   obtain⟨aM,H1,_,t,g1,fq,p6,e,⟨v,kv,rfl,cN,jS⟩,cH,L,m⟩:=B.ex;obtain⟨hsz,its,n,a,kg⟩:=t.bP S _ e;obtain⟨u,m7,rfl,e4,Qr⟩:=vals2 a;refine d ?_;refine codeAny_builtin aoE<|aka (amd kg rfl ?_)
   refine aka (anE (akW (abj (E:=λ_ _=>False) t (g1.same.seq hl) (by
    have:=congrArg alF N;rw[alp,alw]at this;rw[ra.len];omega) L m hh) (λr s1 q=>?_) λ_ _ J=>J.elim))
   refine bR λd=>?_
   obtain⟨rfl,x⟩:=q;obtain⟨_,qL,fI,afn,M6⟩:=x.bP S _ e;refine d ?_;refine aka (aoA M6 rfl (hz:=by rw[aks,<-afn.length,akS];simp) (aka (amN (akn ?_))));exact⟨u,rfl,aM,_,v,TR x e M6,⟨yo Ng g1.same e _,g1.own,g1.bQ⟩,fq.fw e,cN.fw (by rw[cH];intro z;cases z) e,e4⟩
 |cons dJ r T=>
  intro j b s' N B a5 h;refine bR λd=>?_
  obtain⟨d7,hb,h⟩:=am4.1 h;obtain⟨bp,hm,aG⟩:=Z7 hb;obtain⟨aM,H1,zs,t,g1,fq,p6,e,bs,cH,L,m⟩:=B.ex;obtain⟨hsz,its,n,a,kg⟩:=t.bP S _ e;have F:ds[j]? = some dJ:=by have:=congrArg (·[0]?) N;simpa using this
  have P:ds.drop (j+1)=r:=by have:=congrArg (aoy 1) N;simpa using this
  have R:=(ake.mp F).1;obtain⟨v2,YX,x3⟩:=ra.get F;refine d ?_;refine codeAny_builtin aoE<|aka (amd kg rfl ?_)
  refine aka (anE (akW (next_item (E:=λ_ _=>False) t (g1.same.seq hl) YX L m hh) (λr s1 q=>?_) λ_ _ J=>J.elim));refine bR λd=>?_
  obtain⟨pM,rfl,Qz,x,Yy⟩:=q;refine d ?_;refine aka (anE (alM (akW (aad fx V.in1 x.wq.in1 x fq p6 (x3.go g1) Qz hm L Yy) (λI s3 q=>?_) λ_ _ J=>J.elim)));refine bR λd=>?_
  obtain⟨fO,c9,W,y,g,j_,HK,Z,Qs,Mh,M9⟩:=q;have i:=g.same.at' _ _ e;have M:=(g.own S (by rw[e];intro z;cases z)).trans cH;obtain⟨Y8,Zw,ajN,p,Q⟩:=y.bP S _ i;have Qq:=adD Z aG;have put:HE X ae U G O H S it l (j+1) (some (dJ,d7)) { s3 with heap:=s3.heap.update S (akL λ_=>#[pM,I]) }:=
   ⟨fO,_,_,TU y i Q Qz Qs,⟨yo Ng (g1.trans g).same i _,(g1.trans g).own,(g1.trans g).bQ⟩,j_.fw i,fx.2.1 _ _ _ _ i HK,dU,⟨v2,W,rfl,(x3.go (g1.trans g)).fw (by rw[M];intro z;cases z) i,Qq.fw (by rw[M];intro z;cases z) i⟩,M,VM wQ Mh,Zt wQ M9⟩
  have hz:Zw.toArray.size<=akg:=by rw[aks,<-p.length];exact Y8
  cases b with
  |none=>
   obtain rfl:=bs;cases a;refine d ?_;refine aka (aoA Q rfl ?_);exact akn ⟨anW amu _,T (j+1) _ _ P put R h⟩
  |some b=>
   obtain⟨v,kv,rfl,cN,jS⟩:=bs;obtain⟨u,m7,rfl,e4,Qr⟩:=vals2 a;obtain⟨gU,rfl,C⟩:=Qk Qq;obtain⟨a1,rfl,o⟩:=Qk (jS.go g);cases Qs;cases Qr;obtain⟨t3,Zb,Y,_⟩:=y.tuple C;obtain⟨t1,gW,p1,_⟩:=y.tuple o;refine d ?_;refine aka (anE (alM (aka ((We Y p1 (intsAre_of Zb) (intsAre_of gW) V.in1.afi ?_)))));refine aka (alM (alA ?_));refine aka (amN (akn ?_));change pg mf r (if l9 d7 b.2=true then _ else _)=_ at h;generalize l9 d7 b.2=c at *;cases c
   .refine aka (amN ?_)
    exact akn ⟨anW amu _,T (j+1) (some b) _ P ⟨fO,c9,_,y,g1.trans g,j_,HK,i,⟨v,.ref a1,rfl,cN.go g,jS.go g⟩,M,Mh,M9⟩ R h⟩
   .refine aka (aoA Q rfl (aka (amN ?_)))
    exact akn ⟨anW amu _,T (j+1) _ _ P put R h⟩
def aaU{E:cZ}(I:Inv X ae U H s)(n:c2 O H)(x:bc X.K X.mg O H ds xs)(i:dy X.K H l xs)(h:oF X k f G mf)(y:G H)(m:cL (k+1) X.A)(p:pg mf ds none=some res) :
  wpAny (model X.prog X.w) X.A (call (.builtin "max") [.ref l] [(akR "key",.ref f)]) (Cc X ae U O H res) E s:=by
 obtain⟨us,z,pl,_⟩:=I.list i;refine kmk_tree PySem.F.kind_max PySem.F.plain_max PySem.F.entry_max (kmk_max_key _ _)<|aka (wpAny_of_eq (show Builtin.Builtins.bindParams "max" ["key","default"] 0 ⟨[],[(akR "key",.ref f)]⟩=pure [some (.ref f),none]from rfl) ?_)
 refine aka (akn ?_);refine aka (alR pl.isList ?_);refine aka (anf ?_ (akG _));have g:Inv X ae U H { s with heap:=s.heap.push { cls:=.type "list_iterator",data:=.fields #[.ref l,.int 0 0] } }:=I.kept λb o e=>akb _ e
 have t:(s.heap.push { cls:=.type "list_iterator",data:=.fields #[.ref l,.int 0 0] }).get? s.heap.objs.size=some _:=akk _ rfl;have q:(s.heap.push { cls:=.type "list_iterator",data:=.fields #[.ref l,.int 0 0] }).objs.size=s.heap.objs.size+1:=size_push' ..;generalize s.heap.push { cls:=.type "list_iterator",data:=.fields #[.ref l,.int 0 0] }=C at *;have c:=g.bP.fresh (akf _);have j:C.objs.size≠s.heap.objs.size:=by omega
 have a:Go O (hZ O C.objs.size .ey) H (upd H C.objs.size (.l [])):=Go.new c;refine akn ⟨anW amu _,ame (aaV h m c j x i ds 0 none _ rfl ⟨_,_,_,g.laid (o:=.l []) (λb o e=>akb _ e) (akf _) ⟨akG _,[],0,.nil,akk _ rfl⟩,a,n.new c,h.1 _ _ a.same y,dU,rfl,pP,I.rP (akf _) (by rw[du j.symm];exact I.bP.fresh (akf _)),⟨_,akb _ t,rfl,rfl⟩⟩ (akG _) p) λr s' d=>?_⟩;obtain⟨u,rfl,d⟩:=d;exact d
end
section
variable{X:aN}{k:Nat}{mf:bx}
theorem ZM:vK X "max" k "max" wB where
 oR:=T'
 nn:=by decide
 db:=by decide
 run:=λ{mf x r S w} h=>by
  unfold wB at h;refine bR λa=>?_
  split at h
  .rename_i ds aq
   split at h
   .rename_i res aC
    by_cases c:ds.length<64
    .rw[if_pos c]at h
     cases h;refine a ⟨ds,aq,rfl,λI d s p m t f=>cb (aaU I d s p m t (f.mono (by omega)) aC) λu s3 g=>?_⟩;refine bR λa=>?_
     obtain⟨l,i,v,j,n,q,b,e⟩:=g;exact a ⟨l,i,v,j,n,q,b,trivial,e⟩
    .rw[if_neg c]at h;cases h
   .cases h
  .cases h
end
end aS
namespace aS
open PySem PySem.Spec aB PyProof.Rows
variable[aB.a4]
section
variable{X:aN}{scope esc:Scope}{EN N:List Str}{cap:List Nat}{elt a eU:Expr}{ifs:List Expr}{pos d8 p de p1 eW:Pos}{x y:Str}{t:aJ->M Bool}{el:bj}{ms:cW}{k:Nat}
def afM(S:lO esc scope EN N 2 cap)(q:eS X "zip")(h:X.mg "zip"=none)(e:gr X [a,eU] ms)(d:N[0]? = some x)(c:N[1]? = some y)
  (j:nP X scope N x) (r:nP X scope N y)
  (f:∀C b s H,qg (ef X scope N C b s H) ifs t) (i:∀C b s H,bh (ef X scope N C b s H) elt el)
  (he:X.env.scope=esc:=by rfl) (hN:X.N=EN:=by rfl) (g:X.calm=true:=by rfl) (av:jH X (.Call (.Name "zip" p) [a,eU] [] de):=by intro _;rfl)
  (n:akT [a,eU] X.env=[(false,eval a X.env),(false,eval eU X.env)]:=by rfl) (l:akT [eU] X.env=[(false,eval eU X.env)]:=by rfl)
  (m:Ck X scope N x p1 y eW:=by intro _ _ _ _;exact⟨rfl,rfl,rfl,rfl⟩) :
  bh X (.ListComp elt [⟨.Tuple [.Name x p1,.Name y eW] k d8,.Call (.Name "zip" p) [a,eU] [] de,ifs,0⟩] scope pos) (v_ cap ms t el):=
 ⟨Uu S q h e.un d c j r (λC b s H=>(f C b s H).un) (λC b s H=>(i C b s H).un) he hN g av n l m⟩
end
def agf{X:aN}{pos m:Pos}{is:List Nat}{d:List Expr}{k:Nat}{p e:Pos}{a c:Expr}{f:cW}{body:List Stmt}{b:aY}(i:anm (model X.prog X.w) X.A X.env X.dv)(q:X.calm=true)(u:eS X "zip")(r:X.mg "zip"=none)(l:gr X [a,c] f)(g:mB X d (ke is))(j:hK X body b)
  (h:(ak4 d X.env).length=is.length:=by rfl) (n:(ak4 d X.env).findIdx? (·.1)=none:=by rfl)
  (av:jH X (.Call (.Name "zip" p) [a,c] [] e):=by intro _;rfl) (t:akT [a,c] X.env=[(false,eval a X.env),(false,eval c X.env)]:=by rfl) (s:akT [c] X.env=[(false,eval c X.env)]:=by rfl) :
  fD X (.For (.Tuple d k m) (.Call (.Name "zip" p) [a,c] [] e) body [] pos) (tL is f b):=⟨UJ i q u r l.un g j.un h n av t s⟩
omit [aB.a4]in
omit [aB.a4]in
@[simp] theorem aiL:CO mf ma U=(do
 let x <-ma U
 wB mf x):=rfl
section
open d_
variable{prog:akr}{w:World}{A:akw}{E:cZ}{s:akd}
omit [aB.a4]in
theorem VZ{t da:Addr}{a:Array Value}{c d:Value}{f e:Option Int}{Q:cZ}(b:IsTup s.heap t a)(av:s.heap.IsSliceOf da c d .none)(pl:anv c f)(i:anv d e)
  (hw:c4 a.size 0 f=0/\c4 a.size a.size e=a.size)
  (h:Q (.ref t) s):wpAny (model prog w) A (am0 (.ref t) (.ref da)) Q E s:=by
 obtain⟨os,j,k,l⟩:=id av;have g:s.TypeIs (.ref da) "slice":=⟨os,j,k⟩;unfold am0
 try with_reducible refine alM ?_
 skip
 refine aka (wpAny_sequenceKey b.typeIs (by decide) ?_);refine aka (ami (name:=akR "__getitem__") b.typeIs alm
  (ani alm b.typeIs entry_tuple_getitem ?_ (args_tuple_getitem _ _)))
 show wpAny _ _ (anU (.ref t) >>= _) _ _ s;refine aka (tupleItemsOf_ b ?_);refine aka (wpAny_typeOf g ?_);rw[if_pos (by decide)];refine aka (QJ av pl i ?_);rw[hw.1,hw.2];show wpAny _ _ (if((((0:Nat):Int))==0&&(1:Int)==1&&(a.size-0)==a.size)=true then _ else _) _ _ s;rw[if_pos (by simp)];refine aka (m:=Builtin.Tuple.tupleIsExact _) (aka (wpAny_typeOf b.typeIs (akn ?_)));rw[if_pos (by decide)];refine aka (aoa ?_);exact akn ⟨_,rfl,akn h⟩
omit [aB.a4]in
omit [aB.a4]in
omit [aB.a4]in
end
def ady(K:aP):V->Option Int->Option Int->au->c_->Prop:=λx c b H Q=>∃a xs,x=.ref a/\dQ K H a xs/\(d_.c4 xs.length 0 c=0/\d_.c4 xs.length xs.length b=xs.length)/\Q (.ref a) H
omit [aB.a4]in
theorem ad7:qc X (ady X.K):=by
 intro i s U H x v j k m l da Q I e av pl g h;obtain⟨a,xs,rfl,f,hw,q⟩:=h;cases e;obtain⟨c,r,d,hz⟩:=I.tuple f;have b:c.toArray.size=xs.length:=by exact r.length.symm
 refine⟨"tuple",_,alm.lookup,d.typeIs,?_⟩;exact VZ d av pl g (by rw[b];exact hw) ⟨.ref a,H,I,rfl,q⟩
def F2(x:R)(b a:Option Int):M R:=
 match x with
 |.v (.t xs)=>pure (.v (.t (cutD xs b a)))|_=>bad
@[simp] def CQ(a:bj)(c b:oI)(U:aJ):M R:=do
 let x <-a U
 let l <-c U
 let h <-b U
 F2 x l h
def UK{α:Type}{xs:List α}{b a:Option Int}(h:d_.c4 xs.length 0 b=0/\d_.c4 xs.length xs.length a=xs.length):cutD xs b a=xs:=by
 unfold cutD;rw[h.1,h.2,List.drop_zero,Nat.sub_zero,ana (akf _)]
section
variable{X:aN}{e st:Expr}{m:bj}{lo hi:Option Expr}{q1 mh:oI}{pos eW p:Pos}
theorem afW(he:bh X e m)(P:tG X lo q1)(N:tG X hi mh):bh X (.Subscript e (.Slice lo hi none eW) pos) (CQ m q1 mh):=⟨eI (PR (ad7.or QI) he.un P.un N.un) λY H Q D=>by
 refine bR λb=>?_
 obtain⟨O,U,S,r,W,st,h,q⟩:=D;obtain⟨x,k,F,J⟩:=M.inv h;obtain⟨l,n,G,E⟩:=M.inv J;obtain⟨u,R,K,h⟩:=M.inv E;refine b ⟨O,U,S,x,k,st,F,λA o T g1 B z bl=>?_⟩;refine⟨A,U,k,l,n,B,G,λL V t cJ=>?_⟩;refine⟨L,U,n,u,R,cJ,K,λs Z w y=>?_⟩;have g:=(g1.trans t).trans w;unfold F2 at h;refine bR λb=>?_
 split at h
 .rename_i xs
  cases h;obtain⟨a,j,rfl,i,d⟩:=(z.go (t.trans w))
  by_cases c:d_.c4 xs.length 0 l=0/\d_.c4 xs.length xs.length u=xs.length
  .refine b ?_
   refine .inl ⟨a,j,rfl,i,by rw[d.len];exact c,?_⟩;rw[UK c]at q;exact q s _ _ g y ⟨a,j,rfl,i,d⟩ trivial
  .exact b (.inr ⟨a,j,rfl,i,by rw[d.len];exact c,λp f=>q s _ _ (g.trans (Go.f_ f)) (y.f_ f) ⟨p,_,rfl,dQ.of dU,(d.cut l u).go (Go.f_ f)⟩ trivial⟩)
 .cases h⟩
end
omit [aB.a4]in
@[simp] theorem ai1{l h:Option Int}:F2 (.v (.t xs)) l h=pure (.v (.t (cutD xs l h))):=rfl
end aS
namespace aS
open PySem PySem.Spec aB
def yD(m:dC):aJ->N Bool:=λU=>do
 let r <-m U
 r.s_.up
def yC(a:aJ->N Bool):aJ->N Bool:=λU=>do
 let t <-a U
 pure (!t)
variable[aB.a4]
section
variable{X:aN}{o e i f value a b:Expr}{ax:List Expr}{c:Str}{ns:List Str}{mo mk:bj}{ms:cW}{mv vu BP:dC}{cC:aJ->N Bool}{pos pos' apos de w8:Pos}{g:List D->List R->M (R×List D)}{r:V->List V->au->c_->Prop}{name:Str}{id:String}
theorem ag4(T:p2 X.K X.mg c ns){f:Str}(hf:f∈ns)(Y:bh X o mo)(W:e8 X value mv)(av:alr value (some (.Attribute o f pos')) pos.line X.env=pure false:=by rfl):gT X (.Assign [.Attribute o f pos'] value pos) (eR c f mo mv):=⟨g4 (ac5 Y.un W.un av) λD R H L=>by
 refine bR λj=>?_
 obtain⟨O,U,S,aR,aj,st,h,q⟩:=L;obtain⟨r,E,P,V⟩:=N.inv h;obtain⟨d,aT,Q,M⟩:=N.inv V;obtain⟨x,ix,s,hc⟩:=N.inv M;obtain⟨bD,jF,w,h⟩:=N.inv hc;refine j ⟨O,U,S,r,E,st,P,λJ v H1 g1 p Z nn=>?_⟩;refine bR λj=>?_
 obtain⟨cN,rfl⟩:=qm Z nn Q;obtain rfl:=(mo U).ep _ _ _ s;refine j ⟨cm H J,U,_,x,_,(p.cm H).s3,s,λI gN aQ l cJ F bl=>?_⟩;refine bR λj=>?_
 obtain⟨n,b,rfl,rfl,G,sn,hV⟩:=uT cJ F w;obtain rfl:=(gL (.v (.ref n))).ep _ _ _ w;split at h
 .rename_i c' fs
  split at h
  .rename_i r1
   obtain⟨rfl,B⟩:=r1;cases h;obtain⟨C,u,A,y,t,m⟩:=hV;obtain⟨j0,aq,aC,_,e_⟩:=T.ex;cases aq.symm.trans t.1;refine j ⟨b,C,u,A,rfl,y,aC,e_ f hf,by rw[m.len];exact B,?_⟩;obtain⟨cK,dF⟩:=((p.cm H).go l cJ.cw).write (o:=.bD c' (i1 f d fs)) G y (by rintro(⟨_,z⟩|⟨_,_,z⟩)<;>cases z) (by intro _ z;cases z) (by intro _ z;cases z) λk=>
    ⟨C,u,_,dU,t,(P5 A).symm▸ek.i1 f (k _ _ (Rep.go l cN)) ⟨m.1,m.2.imp k⟩⟩
   exact q I R _ ((g1.cm.trans l.dX).trans cK).eE dF
  .cases h
 .cases h⟩
theorem ag5(cQ:X.A.units+64<cLine)(bb:bh X o mo)(C:bh X i mk)(bS:e8 X value mv)(av:alr value (some (.Subscript o i pos')) pos.line X.env=pure false:=by rfl):gT X (.Assign [.Subscript o i pos'] value pos) (vo mo mk mv):=⟨g4 (PZ (by omega) bb.un C.un bS.un av) λD Y H R=>by
 refine bR λj=>?_
 obtain⟨O,U,S,aR,aj,st,h,q⟩:=R;obtain⟨r,J,V,Z⟩:=N.inv h;obtain⟨d,aT,W,T⟩:=N.inv Z;obtain⟨x,ix,s,hc⟩:=N.inv T;obtain⟨y,nM,u,hd⟩:=N.inv hc;obtain⟨bD,jF,t,h⟩:=N.inv hd;refine j ⟨O,U,S,r,J,st,V,λQ v H1 g1 p bf nn=>?_⟩;refine bR λj=>?_
 obtain⟨cN,rfl⟩:=qm bf nn W;obtain rfl:=(mo U).ep _ _ _ s;obtain rfl:=(mk U).ep _ _ _ u;refine j ⟨cm H Q,U,_,x,_,(p.cm H).s3,s,λbz gN aQ g2 cJ L bl=>?_⟩;refine⟨bz,U,_,y,_,cJ,u,λB ri c9 E F I FX=>?_⟩;have l:=g2.trans E;refine bR λj=>?_
 obtain⟨n,b,rfl,rfl,P,sn,hV⟩:=uT F (L.go E) t;obtain rfl:=(gL (.v (.ref n))).ep _ _ _ t;split at h
 .rename_i M d7
  split at h
  .rename_i key hb
   split at h
   .rename_i G
    cases h;obtain⟨dP,w,m⟩:=hV;obtain rfl:=EO (show Rep X.K X.mg B c9 d7 ri from I) hb;refine j ⟨b,_,rfl,p3.k w (by rw[m.len];exact eP (alj G)),?_⟩;obtain⟨cK,dF⟩:=((p.cm H).go l F.cw).write (o:=.hP (je M key d)) P w (by rintro(⟨_,z⟩|⟨_,_,z⟩)<;>cases z) (by intro _ z;cases z) (by intro _ z;cases z) λk=>
     ⟨_,dU,ek.put key (k _ _ (Rep.go l cN)) ⟨m.1,m.2.imp k⟩⟩
    exact q B Y _ ((g1.cm.trans l.dX).trans cK).eE dF
   .cases h
  .cases h
 .cases h⟩
theorem ag7{C}(cQ:X.A.units+64<cLine)(bb:bh X o mo)(aw:gr X ax ms)(bS:e8 X value mv)(av:alr value (some (.Subscript o (.Tuple ax C w8) pos')) pos.line X.env=pure false:=by rfl):gT X (.Assign [.Subscript o (.Tuple ax C w8) pos'] value pos) (yx mo ms mv):=⟨g4 (PZ (by omega) bb.un (Gk aw.un) bS.un av) λD ao H aW=>by
 refine bR λj=>?_
 obtain⟨O,U,S,aR,aj,st,h,q⟩:=aW;obtain⟨r,Y,af,ar⟩:=N.inv h;obtain⟨d,aT,ah,aa⟩:=N.inv ar;obtain⟨x,ix,F,hc⟩:=N.inv aa;obtain⟨rs,nM,M,hd⟩:=N.inv hc;obtain⟨bD,jF,L,h⟩:=N.inv hd;refine j ⟨O,U,S,r,Y,st,af,λaM v H1 g1 E bf nn=>?_⟩;refine bR λj=>?_
 obtain⟨cN,rfl⟩:=qm bf nn ah;obtain rfl:=(mo U).ep _ _ _ F;obtain rfl:=(ms U).ep _ _ _ M;refine j ⟨cm H aM,U,_,x,_,(E.cm H).s3,F,λbz gN aQ g2 cJ Z bl=>?_⟩;refine⟨bz,U,_,rs,_,cJ,M,λQ vs G R T V j=>?_⟩;refine bR λj=>?_
 obtain⟨n,b,rfl,rfl,I,sn,hV⟩:=uT T (Z.go R) L;obtain rfl:=(gL (.v (.ref n))).ep _ _ _ L;split at h
 .rename_i B key hb
  split at h
  .rename_i W
   cases h;refine j ⟨alj (eP (by rw[gS.len V];exact W.1)),λp l=>?_⟩;have s:=(g2.trans R).trans (Go.f_ (u:=.t vs) l);refine bR λj=>?_
   obtain⟨J,P,m⟩:=hV;have w:upd G p (.t vs) b=some (.h8 J):=by rw[du (kM P l)];exact P
   have y:ek X.K X.mg Q (upd G p (.t vs)) B J:=⟨m.1,m.2.go (Go.f_ l)⟩;refine j ⟨b,_,rfl,p3.t w (by rw[<-(ER hb V)];exact dU) (by rw[m.len];exact eP (alj W.2)),?_⟩;obtain⟨cK,dF⟩:=((E.cm H).go s (T.f_ l).cw).write (o:=.fR (je B key d)) I w (by rintro(⟨_,z⟩|⟨_,_,z⟩)<;>cases z) (by intro _ z;cases z) (by intro _ z;cases z) λk=>
    ⟨_,dU,ek.put key (k _ _ (Rep.go s cN)) ⟨y.1,y.2.imp k⟩⟩
   exact q Q ao _ ((g1.cm.trans s.dX).trans cK).eE dF
  .cases h
 .cases h⟩
theorem ahb(slot:PySem.Slot "list" name id)(sa:typeOf (.builtin id)=pure (.type "method_descriptor"))(I:yW X id r)(C:vC X.K X.mg r g)(R:bh X o mo)(m:gr X (e::ax) ms)
  (o7:alL o name X.env (eval o X.env)=eval o X.env:=by rfl)
  (wY:((al0 de (akT (e::ax) X.env)).all (λx=>!x.1)&&(anh de (amo [] X.env)).all (λx=>x.1.isSome)
&&decide ((e::ax).length+([]:List am1).length+(if([]:List am1).isEmpty then 0 else 1)<30))=true:=by rfl)
  (o_:(apos.endLine==de.line)=true:=by rfl) (av:fQ X e ax:=by rfl) (kh:gJ X de ax:=by rfl)
  (ki:alr (.Call (.Attribute o name apos) (e::ax) [] de) none pos.line X.env=pure false:=by rfl):gT X (.Expr (.Call (.Attribute o name apos) (e::ax) [] de) pos) (yz g mo ms):=
 ⟨g4 (Gq (PM aos slot sa I R.un m.un o7 wY o_ av kh) ki) λD Q H M=>by
  refine bR λj=>?_
  obtain⟨O,U,S,aR,aj,st,h,q⟩:=M;obtain⟨x,S1,u,m⟩:=N.inv h;clear h;obtain⟨rs,aT,w,P⟩:=N.inv m;obtain⟨bD,jF,A,h⟩:=N.inv P;obtain rfl:=(mo U).ep _ _ _ u;obtain rfl:=(ms U).ep _ _ _ w;refine j ⟨O,U,_,x,_,st.s3,u,λJ gN p g1 t F bl=>?_⟩;refine bR λj=>?_
  obtain⟨n,b,rfl,rfl,G,sn,Z⟩:=uT t F A;obtain rfl:=(gL (.v (.ref n))).ep _ _ _ A;split at h
  .rename_i xs
   obtain⟨⟨cg,E⟩,nM,Y,h⟩:=N.inv h;cases h;obtain⟨zs,B,ra⟩:=Z;refine j ⟨.inl ⟨rfl,_,dy.of B⟩,J,U,_,rs,_,t,w,λy vs L d cJ T nn=>?_⟩;have ug:y.bQ[n]? = some b:=by rw[d.bQ];exact G
   have s:=d.same.at' _ _ B;refine C y L p b xs zs rs vs _ _ _ E _ s (ra.go d) T nn Y λv ws ax rw _=>?_
   subst ax;obtain⟨V,W⟩:=((st.go (g1.trans d) cJ.cw).cm p).write (o:=.l E) ug s (by rintro(⟨_,z⟩|⟨_,_,z⟩)<;>cases z) (by intro _ z;cases z) (by intro _ z;cases z) λk=>⟨_,dU,rw.imp k⟩
   exact q _ Q _ ((g1.trans d.cm).dX.trans V).eE W
  .cases h⟩
theorem ahj(n:e8 X a vu)(he:∀d,isTrue a X.env d=(do let v <-d;standAt a.pos;holding [v] (truthy v)):=by intro _;rfl):oM X a (yD vu):=⟨sR (P4 n.un he) λy H Q k=>by
 obtain⟨O,U,S,t,w,st,h,q⟩:=k;obtain⟨x,u,l,h⟩:=N.inv h;obtain⟨rfl,rfl⟩:=yl h;exact⟨O,U,S,_,_,st,l,λm v j g p s _=>⟨t,s,q m j g p⟩⟩⟩
theorem ahh(n:oM X a cC):oM X (.UnaryOp .Not a pos) (yC cC):=⟨sR (P2 n.un) λu H Q l=>by
 obtain⟨O,U,S,r,s,st,h,q⟩:=l;obtain⟨t,p,m,h⟩:=N.inv h;cases h;exact⟨O,U,S,t,_,st,m,λj d g1 k=>q j d g1 k⟩⟩
theorem agw{K:aP}{mg:ba}{r:fZ}{f:R->R->M R}(J:eK K mg r f):∀d H Q,vv K mg (rl f vu BP) d H Q->vg r (vv K mg vu) (vv K mg BP) d H Q:=by
 rintro d H Q ⟨O,U,S,E,j,st,h,q⟩;obtain⟨x,l,u,h⟩:=N.inv h;obtain⟨y,V,w,h⟩:=N.inv h;split at h
 .rename_i av
  obtain rfl:=(f x y).ep _ _ _ h;refine⟨O,U,S,x,l,st,u,λs G T g1 m p bl=>?_⟩;refine⟨s,U,l,y,j,m,w,λF L t k cJ B P=>?_⟩;exact J F U j d t G L x y E j Q cJ.s3 (p.dX k m.s3.cw.rh av) B h λz v n g A D nn=>q z v n ((g1.trans k).trans g.dX) (cJ.go g A.cw) D (nn.dX (g1.trans k))
 .cases h
def agY{op:Operator}{r:fZ}{f:R->R->M R}(j:eL X (alP op) r)(k:eK X.K X.mg r f)(h:e8 X a vu)(d:e8 X b BP):e8 X (.BinOp a op b pos) (rl f vu BP):=⟨eI (PQ j h.un d.un) (agw k)⟩
end
def aat{P:akr}{w:World}{K:aP}{mg:ba}{base:Heap}{f:Addr}{c:ala}{k:Nat}{mf:d0}(F:ff P w K mg base es k f c ["script"] (iL K mg mf))
  (h:∀ns:List Int,ns.length<=63->∃b,(mf [.l (ns.map D.int)]).run []=.ok (.v (.az true)) b):ff P w K mg base es k f c ["script"] (ya K):=by
 refine F.imp λvs H Q E i=>?_
 obtain⟨a,ns,e,p,g,dt,q⟩:=i;subst e;obtain⟨b,r⟩:=h ns g;refine⟨⟨λ_=>.free,[]⟩,[.l (ns.map D.int)],_,[],b,⟨λa j=>absurd rfl j,dt,am2,λa m=>by cases m⟩,fC.nil,rfl,⟨_,_,rfl,⟨a,_,rfl,p.imp (λz=>⟨z,by simp⟩) id,Qi ns⟩,rfl⟩,r,λs v d _ _ _ _ n _=>?_⟩;cases(show v=.az true from n);exact q d
end aS
namespace aS
open PySem PySem.Spec aB
def BL(a:List Key)(b:hL):dC:=λU=>do
 let rs <-b U
 let ds <-(jc rs).up
 if ds.length=a.length then(do
  let S <-zV
  putN (S++[.hP (a.zip ds)])
  pure (.v (.ref S.length)))else gX
def yw(o:ha):dC:=λ_=>do
 let S <-zV
 putN (S++[o])
 pure (.v (.ref S.length))
theorem O9:∀{b:List Key}{vs:List V}{o:List (Key×V)},b.Nodup->b.length=vs.length->(∀k∈b,∀p∈o,p.1≠k)->q0 o (b.zip vs)=o++b.zip vs
 |[],vs,o,_,_,_=>by
  show o=o++_;rw[List.zip_nil_left,ak5]
 | _::_,[],_,_,h,_=>by simp at h|k::b,v::vs,o,cS,hl,C=>by
  have aq:putK o k v=o++[(k,v)]:=by
   unfold putK;rw[if_neg];rw[aon];rintro⟨p,a,e⟩;exact C k (akj ..) p a (by simpa using e)
  show q0 (putK o k v) (b.zip vs)=_;rw[aq,O9 (ak8.mp cS).2 (by simpa using hl),al9]
  .rfl
  .intro d c p a
   rcases akO.mp a with a|a
   .exact C d (aki _ c) p a
   .rw[akt]at a
    subst a;rintro rfl;exact(ak8.mp cS).1 c
variable[aB.a4]
section
variable{K:aP}{mg:ba}{O:a3}{H H':au}{S:bL}{U:aJ}{ao:St}{p:Addr}{o:ha}
def eC.adopt(st:eC K mg O U S ao H)(J:p∉O.bQ)(Q:∀i,O p≠.loc i)(same:∀b,b≠p->H' b=H b)(N:H' p≠none)(kp:H' p=H p\/∀u,H p=some u->¬Fix u/\∀k,u≠.l k)(A:O p=.free\/O p=.out->∀u,H p=some u->(∀k,u≠.l k)/\¬Fix u)(b5:TabsOk H->TabsOk H')
  (bD:(∀d v,Rep K mg O H d v->Rep K mg (hT O p) H' d v)->nL K mg (hT O p) H' p o):eC K mg (hT O p) U (S++[o]) ao H'/\(hT O p).bQ[S.length]? = some p:=by
 have t:=st.s3.cw;have D:(hT O p).bQ[S.length]? = some p:=by show(O.bQ++[p])[S.length]? = _;rw[<-st.full,aky (akf _),al1];rfl
 have di:b0 O (hT O p) H H':=⟨λb u e h _=>by
  by_cases c:b=p
  .subst c
   rcases kp with kp|kp
   .rw[kp];exact e
   .obtain⟨k1,k2⟩:=kp u e
    exact h.elim (λz=>absurd z.2.2.choose_spec (k2 _)) λz=>absurd z k1
  .rw[same b c];exact e,λb k e f=>by
   rw[px (by rintro rfl;exact(A (.inl f) _ e).1 k rfl)];exact f,anN _ _⟩
 have f:∀d v,Rep K mg O H d v->Rep K mg (hT O p) H' d v:=λ_ _ z=>Rep.di di t.rh z
 have cN:∀{b:Addr}{a:List V},gq H b (.l a)->(O b=.free\/O b=.out)->b≠p:=λ{b a} h G=>by
  rintro rfl;rcases h with h|⟨x,h⟩
  .exact(A G _ h).1 a rfl
  .exact(A G _ h).2 (.inr ⟨_,_,rfl⟩)
 have M:∀{b:Addr}{a:List V},b≠p->gq H b (.l a)->gq H' b (.l a):=λ{b a} g h=>by unfold gq;rw[same b g];exact h
 refine⟨⟨⟨⟨λb F=>?_,b5 t.tabs,Pm t J⟩,st.s3.len,λi s e=>?_,λn P e=>?_⟩,?_,λi B e=>?_⟩,D⟩
 .by_cases c:b=p
  .rw[c];exact N
  .rw[px c]at F;rw[same b c];exact t.has b F
 .have y:=st.s3.loc i s e
  cases s with
  |e=>exact trivial|v d=>obtain⟨v,q,r⟩:=y;exact⟨v,q,f _ _ r⟩
  |fc R B=>
         obtain⟨b,a,q,L,j,r⟩:=y;have g:b≠p:=by rintro rfl;exact Q i L
         exact⟨b,a,q,(px g).trans L,by rw[same b g];exact j,r.imp f⟩
  |cf B=>obtain⟨b,a,q,j,r⟩:=y;exact⟨b,a,q,j.imp (λz=>⟨M (cN z.1 z.2) z.1,by rw[px (cN z.1 z.2)];exact z.2⟩) id,r.imp f⟩
 .by_cases E:n<S.length
  .rw[akE E]at e
   obtain⟨b,aq,aC⟩:=st.s3.gM n P e;have g:b≠p:=by rintro rfl;exact J (akQ aq)
   exact⟨b,by show(O.bQ++[p])[n]? = _;rw[akE (by rw[st.full];exact E)];exact aq,aC.all f λ_ l _=>by rw[same b g];exact l⟩
  .rw[aky (by omega)]at e
   obtain rfl:n=S.length:=by
    have:=(ake.mp e).1;simp at this;omega
   rw[al1]at e;cases e;exact⟨p,D,bD f⟩
 .show(O.bQ++[p]).length=_
  rw[akh,akh,st.full];rfl
 .obtain⟨b,a,q,j,r⟩:=st.tf i B e
  exact⟨b,a,q,j.imp (λz=>⟨M (cN z.1 z.2.1) z.1,by rw[px (cN z.1 z.2.1)];exact z.2.1,λm=>(akO.mp m).elim z.2.2 λw=>cN z.1 z.2.1 (akt.mp w)⟩) id,r.imp f⟩
theorem fH.adopt{f:a3}{H₀:au}(g:fH f O H₀ H)(d:H₀ p=none)(same:∀b,b≠p->H' b=H b)(b5:TabsOk H->TabsOk H'):fH f (hT O p) H₀ H':=by
 have c:∀{b:Addr},H₀ b≠none->b≠p:=λh=>by rintro rfl;exact h d
 exact⟨λb o e h n=>by rw[same b (c (jW e))];exact g.cells b o e h n,λb a=>(px (c a)).trans (g.own b a),λb a=>by rw[same b (c a)];exact g.has b a,
  λb ps e=>by rw[same b (c (jW e))];exact g.dt b ps e,λt=>b5 (g.b5 t),g.bQ.trans (anN _ _),λb m=>(akO.mp m).elim (g.new b) λz=>.inr (by rw[akt.mp z];exact d)⟩
end
section
variable{X:aN}{e:Expr}{m:dC}{ms:hL}{pos:Pos}
def agW(he:e8 X e m):e8 X e (vp m):=⟨eI he.un λD H Q k=>by
 obtain⟨O,U,S,r,B,st,h,q⟩:=k;obtain⟨x,g,n,b⟩:=N.inv h;refine⟨O,U,S,x,g,st,n,λy v d g1 c s nn=>?_⟩;split at b
 .rename_i xs
  obtain⟨E,A,p,h⟩:=N.inv b;cases p;cases h;obtain⟨a,w,rfl,l,t,u⟩:=s;obtain⟨s1,j⟩:=c.adopt (o:=.l xs) (c.s3.cw.rh.no t (by intro z;cases z)) (λi z=>by rw[t]at z;cases z) (λ_ _=>rfl) (jW l) (.inl rfl) (λz=>by rw[t]at z;rcases z with z|z<;>cases z) id λf=>⟨w,l,u.imp f⟩
  exact q _ _ d (g1.adopt (nn a rfl) (λ_ _=>rfl) id) s1 ⟨a,rfl,j⟩ trivial
 .cases b⟩
structure y6(X:aN)(pos:Pos)(keys:List (Option Expr))(values:List Expr)(bp:List Key)(ms:hL):Prop where
 ex:∃lL,vP X pos keys values lL/\∀ao H (Q:List (V×V)->au->Prop),BO X.K X.mg ms ao H (λvs H'=>Q ((bp.zip vs).map λkv=>(cX kv.1,kv.2)) H')->Bt lL ao H Q
def agP:y6 X pos [] [] [] mq:=⟨[],ac2,λc H Q a=>by
 obtain⟨O,U,S,r,b,st,h,q⟩:=a;cases h;exact q O [] H (Go.refl _ _).dX st rfl trivial⟩
def agO{key:Str}{i:Nat}{t:Pos}{v:Expr}{keys:List (Option Expr)}(p:e8 X v m)(f:y6 X pos keys values o ms) :
  y6 X pos (some (.Constant (.str key) i t)::keys) (v::values) (.inr key::o) (nA m ms):=by
 obtain⟨D,k,l⟩:=f.ex;refine⟨_,ac1 PS p.un k,λB H Q ⟨O,U,S,r,A,st,h,q⟩=>?_⟩;obtain⟨x,a,aq,n⟩:=N.inv h;obtain⟨xs,z,aC,h⟩:=N.inv n;split at h
 .rename_i u
  cases h;refine⟨O,U,S,x,a,st,aq,λg y w g1 b d bl=>l _ _ _ ?_⟩;exact⟨g,U,a,xs,_,b,aC,λs vs j c cJ rs ns=>q s (y::vs) j (g1.trans c) cJ ⟨y,vs,rfl,d.dX c b.s3.cw.rh u,rs⟩ ⟨bl,ns.dX g1⟩⟩
 .cases h
theorem agS{keys:List (Option Expr)}{c:List Expr}{d:List Key}(h:y6 X pos keys c d ms)(n:keys.all (·.isSome)=true:=by rfl)(V:keys.length=c.length:=by rfl)(T:keys≠[]:=by simp)(D:keys.length<=15:=by decide)
  (M:d.Nodup/\d.length<=15:=by decide +kernel):e8 X (.Dict keys c pos) (BL d ms):=by
 obtain⟨lL,K,L⟩:=h.ex;refine⟨eI (acy K n V T D) λao H Q ⟨O,U,S,t,I,st,h,q⟩ a j=>L _ _ _ ?_⟩;obtain⟨rs,C,aq,J⟩:=N.inv h;obtain⟨ds,G,aC,h⟩:=N.inv J;obtain rfl:=(jc rs).ep _ _ _ aC;have B:Go O O H (upd H a (.gu [])):=Go.f_ j;refine⟨O,U,S,rs,G,st.go B (st.s3.f_ j).cw,aq,λR vs k r cJ P nn=>?_⟩;obtain⟨cN,_⟩:=tR P nn aC;have s:=r.cells _ _ dU (.inl (st.s3.cw.FV j));have w:=λm=>(r.new a m).elim (st.s3.cw.FV j) (by rw[dU];intro z;cases z)
 split at h
 .rename_i g
  cases h;have y:d.length=vs.length:=by rw[cN.len,g]
  have W:q0 [] (d.zip vs)=d.zip vs:=O9 M.1 y (λ_ _ p F=>by cases F);refine⟨s,d.zip vs,rfl,by rw[anx];omega,?_⟩;rw[W];have x:cm (upd H a (.gu [])) R a=.free:=by rw[zR (by rw[dU];intro z;cases z),r.own a (by rw[dU];intro z;cases z)];exact st.s3.cw.free j
  have b5:TabsOk k->TabsOk (upd k a (.gu (d.zip vs))):=λt=>t.put _ (λps=>by rw[s];intro z;cases z) (λq=>by rw[s];intro z;cases z)
  have A:∀b,b≠a->upd k a (.gu (d.zip vs)) b=k b:=λb Y=>du Y
  have nu:∀u,k a=some u->¬Fix u/\∀Z,u≠.l Z:=λu e=>by rw[s]at e;cases e;exact⟨(by rintro(⟨_,z⟩|⟨_,_,z⟩)<;>cases z),λ_ z=>by cases z⟩
  obtain⟨s1,E⟩:=(cJ.cm (upd H a (.gu []))).adopt (o:=.hP (d.zip ds)) w (λi z=>by rw[x]at z;cases z) A (by rw[dU];intro z;cases z) (.inr nu) (λ_ u e=>⟨(nu u e).2,(nu u e).1⟩) b5 λf=>
   ⟨d.zip vs,dU,by
    rw[anj (alE g.symm),anj (alE y)],by
    rw[List.map_snd_zip (alE g),List.map_snd_zip (alE y.symm)];exact cN.imp f⟩
  exact q _ _ _ ((B.dX.trans r.cm).adopt j A b5) s1 ⟨a,rfl,E⟩ trivial
 .cases h
def U3(b:∀{O:a3}{H:au}{p:Addr},nL X.K X.mg O (upd H p u) p o)(he:b6 X e λU H Q=>∀p,H p=none->Q (.ref p) (upd H p u)):e8 X e (yw o):=⟨eI he λj H Q f p a=>by
 obtain⟨O,U,S,r,i,st,h,q⟩:=f;cases h;obtain⟨g,d,dh,c⟩:=alloc st.s3.cw st.s3.gM st.full a (sT a u) (by rw[dU];intro z;cases z) λ_=>b
 refine q _ _ _ g (st.dX g d dh c) ⟨p,rfl,?_⟩ trivial;show(O.bQ++[p])[S.length]? = _;rw[<-st.full,aky (akf _),al1];rfl⟩
def agT:e8 X (.Dict [] [] pos) (yw (.fR [])):=U3 ⟨[],dU,rfl,rfl⟩ acz
end
end aS
namespace aS
open PySem PySem.Spec aB
variable[aB.a4]
structure B9(K:aP)(x qual:Str)(st:Stmt)(f:Addr)(fd:ala):Prop where
 ex:∃(c6:Value)(od:Option Addr)(ql cX doc pm:Value)(an:Option Addr)(bB cM:Value)(gC:Array (Option Value)),
  fd=alV x qual (jd st) (ft st) (c1 st) ql cX doc pm an bB cM/\K.lookup f=some ⟨c6,od,.func fd,gC⟩/\anC K bB qual=true
 kp:alX K (.ref f)=true
def B9.ok{P:akr}{w:World}{K:aP}{mg:ba}{base:Heap}{x qual:Str}{st:Stmt}{f:Addr}{b:ala}{N ps:List Str}{k:Nat}{sp:et}(F:B9 K x qual st f b)(S:gP N ps (c1 st))(len:∀vs H Q E,sp vs H Q E->vs.length=ps.length)
  (l:∀(a:Value)(A:akw)(outer:List Env)(s:akd)(H:au)(vs:List V)(Q:c_)(E:e7),cL k (A.deeper (akK qual (c1 st) s.heap.objs.size f a))->sp vs H Q E->
   ∃t,iw (f5 es P w K mg base N qual (c1 st) f a A outer s H E).gA (ft st) t/\t { bl:=λ_ c=>Q .ay c,cp:=Q } (start N vs) H):ff P w K mg base es (k+1) f b ps sp:=by
 obtain⟨c6,p,r,cX,e,pm,m,a,cM,n,rfl,j,i⟩:=F.ex;refine zP j i S len λA outer s H vs Q E d g=>?_
 obtain⟨t,h,q⟩:=l a A outer s H vs Q E d g;exact⟨t,h.gA,q⟩
structure yM(K:aP)(mg:ba)(c m qual:Str)(st:Stmt)(ps:List Str):Prop where
 ex:∃C f fd,mg c=some (.ref C)/\i8 K C/\Meth K C m f/\B9 K m qual st f fd/\Binds K fd ps []/\Binds K fd ps [.none]
structure HP(P:akr)(w:World)(K:aP)(mg:ba)(base:Heap)(c m:Str)(ps:List Str)(k:Nat)(sp:et):Prop where
 all:kY P w K mg base c m ps k sp
 ex:∃C f fd,mg c=some (.ref C)/\i8 K C/\Meth K C m f/\ff P w K mg base es k f fd ps sp/\Binds K fd ps [.none]
def WG{P:akr}{w:World}{K:aP}{mg:ba}{base:Heap}{c m qual:Str}{st:Stmt}{ps N:List Str}{k:Nat}{d:b7}{n i:Nat}(fM:yM K mg c m qual st ps)(j:gP N ps (c1 st))(p:ps.length=n)(z:N.length=i)
  (t:∀(f:Addr)(a:Value)(A:akw)(outer:List Env)(s:akd)(H:au)(E:e7),cL k (A.deeper (akK qual (c1 st) s.heap.objs.size f a))->
   hM (f5 es P w K mg base N qual (c1 st) f a A outer s H E).gA (ft st) d):HP P w K mg base c m ps (k+1) (iL K mg (fnX n i d)):=by
 obtain⟨C,f,e,g,cl,me,F,y,b⟩:=fM.ex;subst p z;have ok:=F.ok (sp:=iL K mg (fnX ps.length N.length d)) j (λvs H Q E ⟨O,ds,r,S,B,D,dh,G,u,h,q⟩=>u.r.len.trans (DA h)) λa A outer s H vs Q E l x=>⟨_,(t f a A outer s H E l).un,J5 x⟩
 exact⟨⟨C,f,e,g,cl,me,ok,y⟩,⟨C,f,e,g,cl,me,ok,b⟩⟩
omit [aB.a4]in
theorem UB{K:aP}{h:Heap}{mg:ba}{c:Str}{C:Addr}{fs:List Str}(X:K.In h)(G:h.Ns akN mg)(a:am9 K akN c=some (some (.ref C)))
  (mj:an5 K C Str.empty=true) (hd:aoC K C=true) (po:W.plainOver K C=true) (pG:al7 K (.ref C) "__setattr__"=some (some (.builtin "object.__setattr__"))) (mk:W.makesIn K C=true) (EL:alX K (.ref C)=true)
  (na:∀f∈fs,al7 K (.ref C) f=some none):p2 K mg c fs:=⟨C,anD X G a,⟨mj,hd,po,pG⟩,⟨mk,EL⟩,na⟩
omit [aB.a4]in
theorem U1{K:aP}{h:Heap}{mg:ba}{c m qual:Str}{C f:Addr}{fs ps:List Str}{st:Stmt}{s b:Option Addr}{da:Array (Option Value)}{c6 cX t pm cd cM:Value}(X:K.In h)(G:h.Ns akN mg)(T:p2 K mg c fs)(a:am9 K akN c=some (some (.ref C)))
  (e:al7 K (.ref C) m=some (some (.ref f))) (i:W.isFn K (.ref f)=true) (l:K.lookup f=some ⟨c6,s,.func (alV m qual (jd st) (ft st) (c1 st) .none cX t pm b cd cM),da⟩) (n:anC K cd qual=true) (k:alX K (.ref f)=true)
  (p:∀(cX d pm:Value)(b:Option Addr)(r cM:Value)(us:List Value),us.length=ps.length->amF (alV m qual (jd st) (ft st) (c1 st) .none cX d pm b r cM) ⟨us,[]⟩=pure (ps.zip us)):yL K mg c m qual st ps:=by
 obtain⟨u,g,q,_⟩:=T.ex;have j:=anD X G a;rw[g]at j;cases j;exact⟨_,f,_,g,q,⟨e,i,k⟩,zS l n k,(zS l n k).binds p⟩
omit [aB.a4]in
theorem U2{K:aP}{h:Heap}{mg:ba}{c m qual:Str}{C f T:Addr}{fs ps:List Str}{st:Stmt}{A b r:Option Addr}{da p:Array (Option Value)}{c6 cX n pm cd cM q:Value}{j fX:Nat}(X:K.In h)(G:h.Ns akN mg)(B:p2 K mg c fs)(a:am9 K akN c=some (some (.ref C)))
  (e:al7 K (.ref C) m=some (some (.ref f))) (i:W.isFn K (.ref f)=true) (l:K.lookup f=some ⟨c6,A,.func (alV m qual (jd st) (ft st) (c1 st) (.ref T) cX n pm b cd cM),da⟩) (t:K.lookup T=some ⟨q,r,.seq #[.none] fX,p⟩) (H:anC K cd qual=true) (k:alX K (.ref f)=true) (x:ps.length=j+1)
  (D:∀(cX d pm:Value)(b:Option Addr)(u cM:Value)(us:List Value),us.length=j+1->∃gz,amF (alV m qual (jd st) (ft st) (c1 st) (.ref T) cX d pm b u cM) ⟨us,[]⟩=seqItems? (.ref T) >>= gz/\gz (some #[.none])=pure (ps.zip us))
  (F:∀(cX d pm:Value)(b:Option Addr)(u cM:Value)(us:List Value),us.length=j->∃gz,amF (alV m qual (jd st) (ft st) (c1 st) (.ref T) cX d pm b u cM) ⟨us,[]⟩=seqItems? (.ref T) >>= gz/\gz (some #[.none])=pure (ps.zip (us++[.none]))):yM K mg c m qual st ps:=by
 obtain⟨J,y,E,_⟩:=B.ex;have z:=anD X G a;rw[y]at z;cases z;refine⟨_,f,_,y,E,⟨e,i,k⟩,⟨⟨c6,A,_,cX,n,pm,b,cd,cM,da,rfl,l,H⟩,k⟩,λs us w g=>?_,λs us w g=>?_⟩
 .rw[ak5]at g ⊢
  obtain⟨gz,aq,aC⟩:=D cX n pm b cd cM us (g.trans x);exact aoR rfl (w _ _ t) rfl aq aC
 .rw[akh,x]at g
  obtain⟨gz,aq,aC⟩:=F cX n pm b cd cM us (by simpa using g);exact aoR rfl (w _ _ t) rfl aq aC
end aS
namespace aS
open PySem PySem.Spec aB PyProof.Rows
section
variable{X:aN}
def ch(c:Nat):Str:=⟨#[c]⟩
def tx(z:Str):iO:=⟨λi _=>i<z.cps.size,λi H x a=>a=H/\∃c,z.cps[i]? = some c/\x=.str (ch c),λi _=>z.cps.size<=i⟩
theorem Rn{P:akr}{w:World}{K:aP}{L:Expr}(z:Str)(t:Tok)(it:Addr):Turn P w K L (tx z) [it] it (λi h=>(h.IsStrIter it "str_ascii_iterator" z t i)\/h.IsStrIter it "str_iterator" z t i) where
 mem:=by simp
 obj:=λi h st b f=>by
  have e:b=it:=by simpa using f
  subst e;rcases st with⟨o,e,c,d⟩|⟨o,e,c,d⟩<;>exact⟨o,e,λv z=>by rw[d]at z;cases z⟩
 keep:=λi h g st k=>by
  refine bR λa=>?_
  rcases st with⟨o,e,c,d⟩|⟨o,e,c,d⟩
  .exact a (.inl ⟨o,k it (by simp) o e,c,d⟩)
  .exact a (.inr ⟨o,k it (by simp) o e,c,d⟩)
 item:=by
  intro X D hw G F i y s U H E I r st j;subst D hw G;have j:i<z.cps.size:=j;refine bR λa=>?_
  obtain⟨n,p,M,u,q,x⟩:=r it (by simp);have l:z.cps[i]? = some z.cps[i]:=by simp[j]
  rcases st with st|st
  .refine a ?_
   refine wpAny_pyNext_ascii_item st l λg m J=>?_
   have A:Inv X y U H { s with heap:=g,toks:=s.toks+1 }:=I.turned (t':=s.toks+1) (λb o f e=>(J.2 b f).trans e) n p u q x;refine bR λa=>?_
   obtain⟨o,e,c,d⟩:=id m;exact a ⟨_,rfl,wK (s:={ s with heap:=g,toks:=s.toks+1 }) e c d (by decide) ⟨.str (ch z.cps[i]),H,A,⟨_,rfl⟩,⟨rfl,_,l,rfl⟩,.inl m,λb f=>(r b f).1⟩⟩
  .refine a ?_
   refine wpAny_pyNext_wide_item st l λg m J=>?_
   have A:Inv X y U H { s with heap:=g,toks:=s.toks+1 }:=I.turned (t':=s.toks+1) (λb o f e=>(J.2 b f).trans e) n p u q x;refine bR λa=>?_
   obtain⟨o,e,c,d⟩:=id m;exact a ⟨_,rfl,wK (s:={ s with heap:=g,toks:=s.toks+1 }) e c d (by decide) ⟨.str (ch z.cps[i]),H,A,⟨_,rfl⟩,⟨rfl,_,l,rfl⟩,.inr m,λb f=>(r b f).1⟩⟩
 done:=by
  intro X D hw G F i y s U H E I r st j;subst D hw G;have j:z.cps.size<=i:=j;refine bR λa=>?_
  obtain⟨n,p,M,u,q,x⟩:=r it (by simp);have l:z.cps[i]? = none:=by simp[j]
  rcases st with st|st
  .exact a (wpAny_pyNext_ascii_end (I.ok.hd F) st l λg B=>⟨rfl,I.turned (t':=s.toks) (λb o f e=>B b o f e) n p u q x⟩)
  .exact a (wpAny_pyNext_wide_end (I.ok.hd F) st l λg B=>⟨rfl,I.turned (t':=s.toks) (λb o f e=>B b o f e) n p u q x⟩)
 self:=λ_ _ _ _ _ st h=>by
  refine bR λa=>?_
  rcases st with st|st
  .exact a (wpAny_pyIter_striter_ascii st h)
  .exact a (wpAny_pyIter_striter_wide st h)
def acS(j:b6 X l hX):j5 X cI l (λU H R=>hX U H λx a=>∃z,x=.str z/\R (tx z) a):=by
 intro d s U H R I h;refine cb (j d s U H _ I h) λv s1 f=>?_
 obtain⟨x,a,c,i,bw⟩:=f;obtain⟨z,e,q⟩:=bw;subst e;obtain⟨t,rfl⟩:=i;have fin:∀b∈[s1.heap.objs.size],hH X d a b:=λb g=>by
  have e:b=s1.heap.objs.size:=by simpa using g
  subst e;exact c.rP (akf _) (c.bP.fresh (akf _))
 cases C:z.cps.all (· < 128)with
 |true=>
  refine wpAny_pyIter_ascii C ?_;exact⟨s1.heap.objs.size,[s1.heap.objs.size],_,_,a,rfl,c.kept (t':=s1.toks) λb o e=>akb _ e,Rn z t _,.inl ⟨_,akk _ rfl,rfl,rfl⟩,fin,q⟩
 |false=>
  refine wpAny_pyIter_wide C ?_;exact⟨s1.heap.objs.size,[s1.heap.objs.size],_,_,a,rfl,c.kept (t':=s1.toks) λb o e=>akb _ e,Rn z t _,.inr ⟨_,akk _ rfl,rfl,rfl⟩,fin,q⟩
end
def zw(z:Str):List D:=z.cps.toList.map λc=>D.str (ch c)
def oV(z:Str):List V:=z.cps.toList.map λc=>V.str (ch c)
def Zx(z:Str)(H:au)(i:Nat):(i<(oV z).length->(tx z).go i H/\∀x a,(tx z).pT i H x a->a=H/\(oV z)[i]? = some x)/\((oV z).length<=i->(tx z).stop i H):=by
 have g:(oV z).length=z.cps.size:=by unfold oV;rw[akc,ak1]
 rw[g];refine⟨λb=>⟨b,λx a ⟨e,c,d,f⟩=>⟨e,?_⟩⟩,λb=>b⟩;subst f;unfold oV;rw[akC,aoJ,d];rfl
variable[aB.a4]
def Uy{K:aP}{mg:ba}{O:a3}{H:au}(z:Str):bc K mg O H (zw z) (oV z):=by
 unfold zw oV
 induction z.cps.toList with
 |nil=>rfl|cons c r a=>exact⟨_,_,rfl,rfl,a⟩
@[simp] def ND(m:bj)(U:aJ):M (List D):=do
 let r <-m U
 match r with
 |.v (.str z)=>pure (zw z)|_=>bad
section
variable{X:aN}{cI l:Expr}{m:bj}
def afw(j:bh X l m):qh X cI l (ND m):=⟨ni (acS j.un) λp H R e=>by
 obtain⟨O,U,S,xs,n,st,h,q⟩:=e;obtain⟨r,k,f,h⟩:=M.inv h;split at h
 .rename_i z
  cases h;refine⟨O,U,S,_,_,st,f,λb v a g1 d g nn=>⟨z,g,?_⟩⟩;exact q b a (tx z) (oV z) g1 d (λc _ i=>Zx z c i) (Uy z)
 .cases h⟩
end
section
variable{K:aP}{mg:ba}
def vj(i j:Str):Bool:=!(amh j i 0 j.length 1).isEmpty
def sH(a:Bool):R->R->M R
 |.v (.str i),.v (.str j)=>pure (.v (.az (a ^^ vj i j)))|_,_=>bad
def Ik:eK K mg (λx y H Q=>∃i j,x=.str i/\y=.str j/\Q (.az (!(amh j i 0 j.length 1).isEmpty)) H) (sH false):=λO U S e H x y c f g d Q st b a h q=>by
 unfold sH at h;split at h
 .rename_i i j
  cases h;refine⟨i,j,b,a,?_⟩;have:(!(amh j i 0 j.length 1).isEmpty)=(false ^^ vj i j):=by unfold vj;simp
  rw[this];exact q O _ H (Go.refl _ _) st rfl trivial
 .cases h
end
end aS
namespace aS
open PySem PySem.Spec aB PyProof.Rows
def yU(K:aP)(mg:ba)[aB.a4](d:D)(u:Value):Prop:=∃v,RelV v u/\∀O H,Rep K mg O H d v
structure KTab(P:akr)(w:World)(K:aP)(mg:ba)[aB.a4](x:Str)(ps:List (Str×D)):Prop where
 ex:∃(a:Addr)(ax:Array ano)(n:Nat),(mg x=some (.ref a)/\(a==alK)=false)/\alI a K=some { cls:=.type "dict",data:=.dict ax n }/\KeysOf (ang P w) ax/\
  ∀k,match ps.lookup k with
   |some d=>∃u,findBy alh ax k=some u/\yU K mg d u|none=>findBy alh ax k=none
variable[aB.a4]
def B'(K:aP)(mg:ba):List (Str×D)->List ano->Prop
 |[],o=>o=[]|p::ps,o=>∃e r,o=e::r/\(∃t,e.key=.str p.1 t)/\yU K mg p.2 e.val/\B' K mg ps r
theorem N_{K:aP}{mg:ba}{k:Str}:∀{ps:List (Str×D)}{o:List ano},B' K mg ps o->match ps.lookup k with
   |some d=>∃u,(o.find? λe=>alh k e.key).map (·.val)=some u/\yU K mg d u|none=>(o.find? λe=>alh k e.key).map (·.val)=none
 |[],o,h=>by cases h;rfl
 |p::ps,o,h=>by
  obtain⟨e,r,rfl,⟨t,i⟩,b,f⟩:=h;obtain⟨a,g⟩:=p;rw[akU,List.find?_cons,i]
  by_cases c:k=a
  .subst c
   have aq:(k==k)=true:=by simp
   have aC:alh k (.str k t)=true:=by show(k==k)=true;simp
   rw[aq,aC];exact⟨_,rfl,b⟩
  .have aq:(k==a)=false:=by simpa using c
   have aC:alh k (.str a t)=false:=by
    show(a==k)=false;simp only[beq_eq_false_iff_ne];exact λz=>c z.symm
   rw[aq,aC];exact(N_ f)
def aam{P:akr}{w:World}{K:aP}{h:Heap}{mg:ba}{x:Str}{d:Addr}{b:Array ano}{n:Nat}{ps:List (Str×D)}(X:K.In h)(G:h.Ns akN mg)
  (a:am9 K akN x=some (some (.ref d))) (av:(d==alK)=false) (l:alI d K=some { cls:=.type "dict",data:=.dict b n }) (k:∀e∈b.toList,∃s,alh s e.key=true/\e.hash=hashStr w s)
  (f:B' K mg ps b.toList):KTab P w K mg x ps:=by
 refine⟨d,b,n,⟨anD X G a,av⟩,l,λe he=>?_,λk=>?_⟩
 .obtain⟨s,c,g⟩:=k e (by simpa using he)
  exact⟨s,c,g⟩
 .have z:=N_ (k:=k) f
  have:∀k:Str,findBy alh b k=(b.toList.find? λe=>alh k e.key).map (·.val):=λk=>by
   unfold findBy;rw[List.find?_toArray]
  rw[this];exact z
def Cb:List Str->List Value->Prop
 |[],us=>us=[]|x::xs,us=>∃t r,us=.str x t::r/\Cb xs r
theorem Ol:∀{xs:List Str}{us:List Value},Cb xs us->Vals (xs.map V.str) us
 |[],us,h=>by cases h;exact .nil
 |x::xs,us,h=>by obtain⟨t,r,rfl,q⟩:=h;exact .cons ⟨t,rfl⟩ (Ol q)
def pe{K:aP}{mg:ba}{xs:List Str}{a:Addr}{b:Array Value}{n:Nat}{e:Option Addr}{d:Array (Option Value)}(l:alI a K=some ⟨.type "tuple",e,.seq b n,d⟩)(hz:b.size<=akg)(h:Cb xs b.toList) :
  yU K mg (.t (xs.map D.str)) (.ref a):=by
 refine⟨.ref a,rfl,λO H=>⟨a,xs.map V.str,rfl,.inr ⟨_,b,n,l,rfl,rfl,hz,Ol h⟩,?_⟩⟩
 induction xs with
 |nil=>rfl| cons x r c=>exact⟨_,_,rfl,rfl,by
   clear c h
   induction r with
   |nil=>rfl| cons y q c=>exact⟨_,_,rfl,rfl,c⟩⟩
@[simp] def ahD(a:Bool)(ps:List (Str×D))(mk:bj)(U:aJ):M R:=do
 let k <-mk U
 match k with
 |.v (.str z)=>pure (.v (.az (a ^^ (ps.lookup z).isSome)))|_=>bad
section
omit [aB.a4]
@[simp] theorem aiQ:sH b (.v (.str i)) (.v (.str j))=pure (.v (.az (b ^^ vj i j))):=rfl
end
end aS
namespace aS
open PySem PySem.Spec aB PyProof.Rows
variable[aB.a4]
@[simp] def CS(ps:List (Str×D))(mk:bj)(U:aJ):M R:=do
 let k <-mk U
 match k with
 |.v (.str z)=>pure (.v ((ps.lookup z).getD .ay))|_=>bad
section
variable{X:aN}{x:Str}{ps:List (Str×D)}{e:Expr}{p apos de:Pos}{mk:bj}
def afX(T:KTab X.prog X.w X.K X.mg x ps)(G:eS X x)(he:bh X e mk)(m:iv X (.Name x p) "get" apos e de:=by exact⟨rfl,rfl,rfl,rfl⟩)(Z:fo x:=by decide) :
  bh X (.Call (.Attribute (.Name x p) "get" apos) [e] [] de) (CS ps mk):=⟨by
 rintro J s U H Q I ⟨O,U',S,r,N,st,h,q⟩;refine bR λg=>?_
 obtain⟨y,S1,L,h⟩:=M.inv h;split at h
 .rename_i z
  cases h;obtain⟨a,B,n,⟨C,E⟩,D,P,o⟩:=T.ex;refine g ?_;refine wpAny_Call_method m.base m.Du m.line aor al4 aoI (qS I G C ?_ Z);have j:=I.fi a _ D;refine⟨⟨_,j,rfl⟩,λb e=>by cases e;exact⟨_,j,rfl⟩,?_⟩;rw[m.trees];refine ams rfl (amG (amV (cb (he.un J s U H (λv l=>v=.str z/\∃c,Go O c H l/\cU X.K X.mg c U' N U l) I ⟨O,U',S,_,_,st,L,λc v l g1 i W nn=>⟨W,c,g1,i⟩⟩) λqM s2 ⟨y,f,A,R,Y,c,g1,i⟩=>anZ ?_)));subst Y;obtain⟨t,rfl⟩:=R;have j:=A.fi a _ D;have mo:s2.heap.MapOf (ang X.prog X.w) a (findBy alh B):=⟨_,B,n,j,⟨rfl,rfl,rfl⟩,rfl,P,λ_=>rfl⟩;refine call_meetsIn al4 mo.typeIs am8 (PySem.F.args_dict_get_2 _ _) (meets_dict_get (ang X.prog X.w) a (k:=z) ?_ E) ⟨_,mo,?_⟩
  .show(z==z)=true
   simp
  .have:=o z
   refine bR λg=>?_
   cases aq:ps.lookup z with
   |none=>
    rw[aq]at this q;refine g ?_;rw[this];exact⟨.ay,f,A.tok _,rfl,q c _ f g1 i rfl trivial⟩
   |some d=>
    rw[aq]at this q;obtain⟨u,aC,v,V,x6⟩:=this;refine g ?_;rw[aC];exact⟨v,f,A.tok _,V,q c _ f g1 i (x6 c f) trivial⟩
 .cases h⟩
end
end aS
namespace aS
open PySem PySem.Spec aB PyProof.Rows PySem.W
section
variable{prog:akr}{w:World}{A:akw}{s:akd}{E:cZ}
def Vs{v:Value}{Q:Bool->akd->Prop}(h:Q true s):wpAny (model prog w) A (eqBool v v) Q E s:=by
 unfold eqBool
 try with_reducible refine alM ?_
 show wpAny _ _ (if(v==v)=true then _ else _) Q E s;rw[if_pos (beq_self_eq_true v)];exact aka (aoa (akn h))
theorem N9{Q:Bool->akd->Prop}(h:Q fin s):∀(l:List Value)(i:Nat),KatLex prog w A b fin Q (l.zip l) i s
 |[],_=>kat_nil h|_::l,i=>kat_cons (Vs (kat_yes (N9 h l (i+1))))
end
variable[aB.a4]
end aS
namespace aS
open PySem PySem.Spec aB
section
variable{P:List Value->Prop}
def Rz(h:P []):∀us:List Value,us.length=0->P us:=λus e=>by rw[amv e];exact h
def tc(h:∀a,∀us:List Value,us.length=n->P (a::us)):∀us:List Value,us.length=n+1->P us:=λus e=>by
 cases us with
 |nil=>cases e
 |cons a r=>exact h a r (Nat.succ.inj e)
def vl(h:∀a,P [a]):∀us:List Value,us.length=1->P us:=tc λa=>Rz (h a)
def yp(h:∀a b,P [a,b]):∀us:List Value,us.length=2->P us:=tc λa=>vl (h a)
def yq(h:∀a b c,P [a,b,c]):∀us:List Value,us.length=3->P us:=tc λa=>yp (h a)
def Hh(h:∀a b c d,P [a,b,c,d]):∀us:List Value,us.length=4->P us:=tc λa=>yq (h a)
def Hi(h:∀a b c d e,P [a,b,c,d,e]):∀us:List Value,us.length=5->P us:=tc λa=>Hh (h a)
def Hj(h:∀a b c d e f,P [a,b,c,d,e,f]):∀us:List Value,us.length=6->P us:=tc λa=>Hi (h a)
def RA(h:∀a b c d e f g,P [a,b,c,d,e,f,g]):∀us:List Value,us.length=7->P us:=tc λa=>Hj (h a)
end
end aS
namespace aS
open PySem PySem.Spec aB PyProof.Rows PySem.W
def x5(Z:gF):D->Option Z.κ.α
 |.t (d::_)=>Z.un d|_=>none
def pF(Z:gF):List D->Option (List Z.κ.α)
 |[]=>some []|d::ds=>match x5 Z d,pF Z ds with
  |some p,some ps=>some (p::ps)|_,_=>none
def rr(Z:gF)(h:Heap)(p:Z.κ.α)(a:Addr):Prop:=∃(o:Obj)(v:Value)(m:Nat)(r:List Value),h.get? a=some o/\o.cls=.type "tuple"/\o.data=.seq (amB (v::r)) m/\Z.κ.keyOf v=some p
def rr.kept{h c:Heap}(x:rr Z h p a)(k:∀b o,h.get? b=some o->c.get? b=some o):rr Z c p a:=by
 obtain⟨o,v,m,r,d,e,f,g⟩:=x;exact⟨o,v,m,r,k _ _ d,e,f,g⟩
structure KF(Z:gF):Prop where
 ok:Z.Ok
 ne:∀(prog:akr)(w:World)(A:akw)(E:cZ)(s:akd)(v u:Value)(a b:Z.κ.α){Q:Bool->akd->Prop},Z.κ.keyOf v=some a->Z.κ.keyOf u=some b->a≠b->Q false s->wpAny (model prog w) A (eqBool v u) Q E s
 ty:∃T:Value,(T==T)=true/\(T != amZ "tuple")=true/\∀(prog:akr)(w:World)(h:Heap)(v:Value)(a:Z.κ.α),Z.κ.keyOf v=some a->Looks (model prog w) h (typeOf v) T
def aae:KF gg where
 ok:=Oi
 ne:=λprog w A E s v u a b Q c d e h=>by
  cases v<;>first|cases c|skip
  cases u<;>first|cases d|skip
  refine(intKind prog w).eqBool (by show(a==a)=true;simp) (by show(b==b)=true;simp) ?_;rw[decide_eq_false e];exact h
 ty:=⟨.type "int",by decide,by decide,λprog w h v a c=>by
  cases v<;>first|cases c|skip
  exact .now⟩
def aaf:KF jr where
 ok:=Oj
 ne:=λprog w A E s v u a b Q c d e h=>by
  cases v<;>first|cases c|skip
  cases u<;>first|cases d|skip
  refine wpAny_eqBool_str ?_;rw[decide_eq_false (λz=>e (by rw[z]))];exact h
 ty:=⟨.type "str",by decide,by decide,λprog w h v a c=>by
  cases v<;>first|cases c|skip
  exact .now⟩
def SP{Z:gF}:∀{ps:List Z.κ.α},kz Z.κ.blt ps=true->ps.Nodup:=Cr Z.κ.toKeyOrd
section
variable{prog:akr}{w:World}{A:akw}{s:akd}{E:cZ}{Z:gF}
def adN{C:Bool->akd->Prop}(F:KF Z)(g:rr Z s.heap p a)(l:rr Z s.heap q b)(e:p≠q\/a=b/\p=q)(h:C (Z.κ.blt p q) s):wpAny (model prog w) A (keyLt' (tuples' true) (.ref a) (.ref b)) C E s:=by
 rcases e with e|⟨rfl,rfl⟩
 .obtain⟨o,v,m,r,c,n,d,k1⟩:=g
  obtain⟨x,i,y,u,j,t,k,f⟩:=l;exact kat_lt c d j k<|kat_cons (F.ne prog w A _ s v i p q k1 f e (kat_no (F.ok.one prog w A _ s v i p q k1 f h)))
 .obtain⟨o,v,m,r,c,n,d,k1⟩:=g
  refine kat_lt c d c d (N9 ?_ _ 0);rw[decide_eq_false (ak0 _)];rw[Z.κ.irrefl]at h;exact h
end
theorem Qw:∀{ps:List Z.κ.α}{c:List Addr},c.length=ps.length->(∀(i:Nat)(p:Z.κ.α)(a:Addr),ps[i]? = some p->c[i]? = some a->rr Z h p a)->∃fs:List Value,KatTups h (c.map akZ) fs/\fs.length=c.length/\∀v∈fs,∃a,Z.κ.keyOf v=some a
 |[],[],_,_=>⟨[],.nil,rfl,λ_ h=>nomatch h⟩
 |p::ps,a::c,hl,C=>by
  obtain⟨fs,e,f,g⟩:=Qw (Nat.succ.inj hl) λi q b aq aC=>C (i+1) q b aq aC
  obtain⟨o,j,m,r,aq,aC,cP,e_⟩:=C 0 p a rfl rfl;refine⟨j::fs,.cons aq aC cP rfl e,by rw[akx,f];rfl,λv d=>?_⟩;rcases akq.mp d with rfl|d
  .exact⟨_,e_⟩
  .exact g v d
def y2(Z:gF)(K:aP)(mg:ba)(O:a3)(H:au)(p:Z.κ.α)(a:Addr):Prop:=∃z b,dQ K H a (z::b)/\Rep K mg O H (Z.d7 p) z
section
variable[aB.a4]{X:aN}{ae:c0}{U:aB.St}{H:au}{s:akd}{A:akw}{E:cZ}{O:a3}{Q:c_}{Z:gF}
def y2.is(F:KF Z)(I:Inv X ae U H s)(h:y2 Z X.K X.mg O H p b):rr Z s.heap p b:=by
 obtain⟨z,f,a,c⟩:=h;obtain⟨e,r,⟨o,aq,aC,n,cP⟩,_⟩:=I.tuple a
 cases r with
 |cons d r=>exact⟨o,_,n,_,aq,aC,cP,F.ok.key p _ _ _ _ _ _ c d⟩
theorem Qy{K:aP}{mg:ba}(F:Z.Ok):∀{ds:List D}{ps:List Z.κ.α}{f:List V},pF Z ds=some ps->bc K mg O H ds f->∃c:List Addr,f=c.map V.ref/\c.length=ps.length/\ds.length=ps.length/\∀(i:Nat)(p:Z.κ.α)(a:Addr),ps[i]? = some p->c[i]? = some a->y2 Z K mg O H p a
 |[],ps,f,h,r=>by cases h;cases(show f=[]from r);exact⟨[],rfl,rfl,rfl,λi p a e=>by simp at e⟩
 |d::ds,ps,f,h,r=>by
  unfold pF at h;refine bR λj=>?_
  split at h
  .rename_i p z aq aC
   cases h;obtain⟨y,m,rfl,q,u⟩:=r;obtain⟨c,rfl,l,n,t⟩:=Qy F aC u;unfold x5 at aq;split at aq
   .rename_i B rest
    obtain⟨a,G,rfl,dO,w,g,rfl,bw,x⟩:=q;rw[F.tb _ _ aq]at bw;refine j ⟨a::c,rfl,by simp[l],by simp[n],λk p b aq aC=>?_⟩
    cases k with
    |zero=>simp at aq aC;subst aq aC;exact⟨w,g,dO,bw⟩|succ k=>exact t k p b aq aC
   .cases aq
  .cases h
def aef(F:KF Z)(I:Inv X ae U H s){ps:List Z.κ.α}{f:List Addr}{ds:List D}(n:f.length=ps.length)(hd:ds.length=ps.length)(x6:bc X.K X.mg O H ds (f.map V.ref))(x:∀(i:Nat)(p:Z.κ.α)(a:Addr),ps[i]? = some p->f[i]? = some a->y2 Z X.K X.mg O H p a)(cS:ps.Nodup)(lp:ps.length<64){us:List Value}(L:us=f.map akZ)
  (q:∀l W,H l=none->bc X.K X.mg O H ((il Z.κ.blt (ps.zip ds)).map (·.2)) W->Q (.ref l) (upd H l (.l W))) :
  wpAny (model X.prog X.w) A (do
   let l <-newList us
   let _ <-holding [l] (call (.builtin "list.sort") [l] [])
   ret l) (λfin s'=>∃v,fin=Fin.done (.ret v)/\iN X ae U Q v s') E s:=by
 have xc:us.length=ps.length:=by rw[L,akc,n]
 have y:=λi p a aq aC=>(x i p a aq aC).is F I
 let g:Z.κ.α:=Z.κ.dflt
 have t:∀i,i<us.length->ps[i]? = some (ps.getD i g)/\f[i]? = some (f.getD i 0)/\ds[i]? = some (ds.getD i .ay)/\us.getD i alv=.ref (f.getD i 0):=λi d=>by
  have m:i<ps.length:=by omega
  have r:i<f.length:=by omega
  have bY:i<ds.length:=by omega
  refine⟨by simp[ m],by simp[ r],by simp[ bY],?_⟩;rw[L];simp[ r]
 refine aka (anf ?_ (by rw[akS];omega));have M:(s.heap.push (ald "list" us.toArray 0)).get? s.heap.objs.size=some (ald "list" us.toArray 0):=akk _ rfl;have kept:∀b o,s.heap.get? b=some o->(l_ (s.heap.push (ald "list" us.toArray 0)) s.heap.objs.size us).get? b=some o:=λb o e=>aaZ (akv (akl e)) (akb _ e)
 refine aka (alM (wpAny_call_entry_kw slot_list_sort ⟨_,M,rfl⟩ entry_list_sort ?body (args_list_sort _)));have inj:∀i j,i<us.length->j<us.length->i≠j->ps.getD i g≠ps.getD j g:=λi j d h ne e=>by
  have aq:=(t i d).1;have aC:=(t j h).1;rw[e,<-aC]at aq;exact ne ((List.getElem?_inj (by omega) cS).mp aq)
 refine aeb (κ:=tuples' true) (lt:=λi j=>Z.κ.blt (ps.getD i g) (ps.getD j g)) M (by omega) ?ord (λr Q mQ=>?kind) (λi j C d h fx=>?ask) λp R S=>?fin
 case ord=>
  refine⟨λi j k _ _ _ m r=>Z.κ.trans _ _ _ m r,λi j d h ne m=>?_,λi j d h m=>?_⟩
  .cases c:Z.κ.blt (ps.getD j g) (ps.getD i g)with
   |true=>rfl|false=>exact absurd (Z.κ.total _ _ m c) (inj i j d h ne)
  .cases c:Z.κ.blt (ps.getD j g) (ps.getD i g)with
   |false=>rfl|true=>
    have:=Z.κ.trans _ _ _ m c;rw[Z.κ.irrefl]at this;cases this
 case kind=>
  obtain⟨fs,k1,k2,k3⟩:=Qw n λi p a aq aC=>(y i p a aq aC).kept kept
  rw[<-L]at k1;obtain⟨T,t1,dE,t3⟩:=F.ty;have f0:0<fs.length:=by omega
  refine kat_kind k1 f0 (λv bS=>by obtain⟨a,ar⟩:=k3 v bS;exact t3 X.prog X.w _ v a ar) t1 ?_;rw[dE];exact mQ
 case ask=>
  unfold kas_ask;obtain⟨aq,aC,_,e_⟩:=t i d;obtain⟨f1,f2,_,f4⟩:=t j h;rw[e_,f4];refine adN F ((y _ _ _ aq aC).kept kept) ((y _ _ _ f1 f2).kept kept) ?_ fx
  by_cases N:i=j
  .subst N;exact .inr ⟨rfl,rfl⟩
  .exact .inl (inj i j d h N)
 case fin=>
  have u_:ps.zip ds=(akV us.length).map λi=>(ps.getD i g,ds.getD i .ay):=by
   refine List.ext_getElem (by simp[xc,hd]) λi m r=>?_
   have a1:i<ps.length:=by simp at m;omega
   have a2:i<ds.length:=by omega
   simp[ a1,a2]
  have B:((ps.zip ds).map (·.1)).Nodup:=by
   rw[anj (by omega)];exact cS
  have G1:(il Z.κ.blt (ps.zip ds)).map (·.2)=p.toList.map λi=>ds.getD i .ay:=by
   have one:p.toList.map (λi=>(ps.getD i g,ds.getD i .ay))=il Z.κ.blt (ps.zip ds):=by
    refine GZ Z.κ.toKeyOrd ?_ ?_ ?_
    .exact B
    .rw[u_];exact R.pm.map _
    .rw[an2,aob]
     intro i j d h r5;have hsz:p.toList.length=us.length:=by rw[ak1,R.jv]
     have:=S i j r5 (by omega);have V5:p.getD i 0=p.toList[i]:=by
      have:i<p.size:=by simpa using d
      simp[ this]
     have V6:p.getD j 0=p.toList[j]:=by
      have:j<p.size:=by simpa using h
      simp[ this]
     rw[V5,V6]at this;exact this
   rw[<-one,al3];rfl
  have vz:bc X.K X.mg O H (p.toList.map λi=>ds.getD i .ay) (p.toList.map λi=>V.ref (f.getD i 0)):=by
   have:∀l:List Nat,(∀i∈l,i<us.length)->bc X.K X.mg O H (l.map λi=>ds.getD i .ay) (l.map λi=>V.ref (f.getD i 0)):=by
    intro l
    induction l with
    |nil=>intro _;rfl|cons i l z=>
     intro n;obtain⟨_,g2,g3,_⟩:=t i (n i akj);obtain⟨u,aq,aC⟩:=x6.get g3;rw[akC,g2]at aq;cases aq;exact⟨_,_,rfl,aC,z λk G=>n k (aki _ G)⟩
   exact this _ λi d=>alg.mp (R.pm.mem_iff.mp d)
  have Y:Vals (p.toList.map λi=>V.ref (f.getD i 0)) (p.toList.map λi=>us.getD i alv):=by
   have:∀l:List Nat,(∀i∈l,i<us.length)->Vals (l.map λi=>V.ref (f.getD i 0)) (l.map λi=>us.getD i alv):=by
    intro l
    induction l with
    |nil=>intro _;exact .nil| cons i l z=>intro n;exact .cons (by show RelV (V.ref _) (us.getD i alv);rw[(t i (n i akj)).2.2.2];rfl) (z λk G=>n k (aki _ G))
   exact this _ λi d=>alg.mp (R.pm.mem_iff.mp d)
  obtain⟨e,he⟩:=sortedHeap_at M;refine⟨_,rfl,akn ⟨_,rfl,.ref s.heap.objs.size,upd H s.heap.objs.size (.l (p.toList.map λi=>V.ref (f.getD i 0))),?_,rfl,q _ _ (I.bP.fresh (akf _)) (by rw[G1];exact vz)⟩⟩;refine I.laid (λb o P=>?_) (akf _) ⟨?_,_,e,Y,?_⟩
  .have J:=akl P
   rw[sortedHeap_old (akv J) (by rw[size_push'];exact amx J),ama _ _ _ (akv J)];exact P
  .rw[akc,ak1,R.jv,akS];omega
  .rw[he]
end
variable[aB.a4]
def nV(Z:gF):List R->M R
 |[x]=>match x.fv with
  |some ds=>match pF Z ds with
   |some ps=>if kz Z.κ.blt ps=true/\ps.length<64 then pure (.fr ((il Z.κ.blt (ps.zip ds)).map (·.2)))else bad|none=>bad
  |none=>bad
 |_=>bad
def Kd{X:aN}(J:X.calm=true)(F:KF Z):jB X (.builtin "sorted") (fun xs H Q=>∃(p:Addr)(f:List V)(O:a3)(ds:List D)(ps:List Z.κ.α),xs=[.ref p]/\dy X.K H p f/\bc X.K X.mg O H ds f/\pF Z ds=some ps/\kz Z.κ.blt ps=true/\ps.length<64/\
  ∀l m,H l=none->bc X.K X.mg O H ((il Z.κ.blt (ps.zip ds)).map (·.2)) m->Q (.ref l) (upd H l (.l m))):=by
 rintro G s U H xs us Q I y ⟨p,f,O,ds,ps,ex,z,k,E,r,A,q⟩;subst ex;obtain⟨u,rfl,x⟩:=vals1 y;cases x;obtain⟨c,rfl,j,hd,d⟩:=Qy F.ok E k;refine call_function_entry_kw kind_sorted plain_sorted entry_sorted (args_sorted1 _)<|aka (akn ?_)
 obtain⟨vs,B,pl,_⟩:=I.list z;have g:vs=c.map akZ:=by
  have:∀{c:List Addr}{vs:List Value},Vals (c.map V.ref) vs->vs=c.map akZ:=by
   intro c
   induction c with
   |nil=>intro vs h;cases h;rfl
   |cons a c n=>intro vs h;cases h with
    |cons t w=>cases t;rw[n w];rfl
  exact this B
 have L:vs.length=ps.length:=by rw[g,akc,j]
 refine aka (collect_list pl.isList ?_ (by rw[akS];omega));refine aef F (I.kept λb o e=>?_) j hd k d (SP r) A g q;have i:=akl e;rw[Heap.get?_update_ne _ _ _ _ (akv i),ama _ _ _ (akv i)];exact e
def N4{Z:gF}{K:aP}{mg:ba}:jZ K mg (fun xs H Q=>∃(p:Addr)(f:List V)(O:a3)(ds:List D)(ps:List Z.κ.α),xs=[.ref p]/\dy K H p f/\bc K mg O H ds f/\pF Z ds=some ps/\kz Z.κ.blt ps=true/\ps.length<64/\
  ∀l g,H l=none->bc K mg O H ((il Z.κ.blt (ps.zip ds)).map (·.2)) g->Q (.ref l) (upd H l (.l g))) (nV Z):=λO U S t H vs rs u s Q st i h q=>by
 unfold nV at h;refine bR λj=>?_
 split at h
 .rename_i x
  obtain⟨v,rfl,k⟩:=kR i;split at h
  .rename_i ds e
   split at h
   .rename_i ps aC
    by_cases c:kz Z.κ.blt ps=true/\ps.length<64
    .rw[if_pos c]at h
     cases h;obtain⟨a,f,rfl,l,r⟩:=R.pf k e;refine j ⟨a,f,O,ds,ps,rfl,l,r,aC,c.1,c.2,λp g d n=>?_⟩;refine q (hZ O p .ey) _ _ (Go.new d) (st.new d) ⟨p,g,rfl,dU,pP,n.go (Go.new d)⟩ λb m=>?_
     cases m;exact d
    .rw[if_neg c]at h;cases h
   .cases h
  .cases h
 .cases h
omit [aB.a4]in
theorem Vi{x:R}:nV Z [x]=match x.fv with
  |some ds=>match pF Z ds with
   |some ps=>if kz Z.κ.blt ps=true/\ps.length<64 then pure (.fr ((il Z.κ.blt (ps.zip ds)).map (·.2)))else bad|none=>bad
  |none=>bad:=rfl
end aS
namespace aS
open PySem PySem.Spec aB PyProof.Rows
def hp(b:Int):List Int->Int
 |[]=>b|x::xs=>if b<x then hp x xs else hp b xs
def wA:List R->M R
 |[x]=>match x.fv with
  |some ds=>match nums ds with
   |some (b::bs)=>pure (.v (.int (hp b bs)))|_=>bad
  |none=>bad
 |_=>bad
variable[aB.a4]
section
variable{X:aN}{ae:c0}{U:aB.St}{H:au}{s:akd}{l:Addr}{O:a3}
theorem FL(x:Int):∀(xs:List Int)(b:Int),hp b (xs++[x])=if hp b xs<x then x else hp b xs
 |[],_=>rfl|y::ys,b=>by
  show(if b<y then hp y (ys++[x])else hp b (ys++[x]))=if(if b<y then hp y ys else hp b ys)<x then x else if b<y then hp y ys else hp b ys
  rw[FL x ys,FL x ys];split<;>rfl
theorem O6(b:Int)(bs:List Int):∀k,k<=bs.length->(b::bs).getD (argBest (λi j=>decide ((b::bs).getD j 0<(b::bs).getD i 0)) k) 0=hp b (bs.take k)
 |0,_=>rfl|k+1,h=>by
  have e:(b::bs).getD (k+1) 0=bs[k]:=by rw[alb,List.getElem?_cons_succ,akB h];rfl
  rw[am5,akB h,Option.toList_some,FL,<-O6 b bs k (alj h),<-e];show(b::bs).getD (if decide _=true then k+1 else argBest _ k) 0=_;simp only[decide_eq_true_eq];split<;>rfl
def aaT{b:Int}{bs:List Int}{E:cZ}(I:Inv X ae U H s)(y:c2 O H)(G:dy X.K H l ((b::bs).map V.int))(J:X.A.in1.handled=none) :
  wpAny (model X.prog X.w) X.A (call (.builtin "max") [.ref l]) (Cc X ae U O H (.int (hp b bs))) E s:=by
 obtain⟨us,g,pl,_⟩:=I.list G;have iU:s.heap.IsList l us.toArray:=pl.isList;have lt:l<s.heap.objs.size:=by obtain⟨_,e,_⟩:=iU;exact akl e
 have at':∀{j:Nat}{v:Value},us.toArray[j]? = some v->RelV (.int ((b::bs).getD j 0)) v:=λ{j v} h=>by
  have h:us[j]? = some v:=by simpa using h
  have a:j<(b::bs).length:=by have:=g.length;rw[akc]at this;rw[this];exact(ake.mp h).1
  obtain⟨u,m,r⟩:=g.get (i:=j) (x:=.int ((b::bs).getD j 0)) (by rw[akC,alb,akB a];rfl);rw[h]at m;cases m;exact r
 have n:us.toArray.size=bs.length+1:=by rw[aks,<-g.length,akc];rfl
 refine call_max_walk (alR iU ⟨_,_,_,_,_,_,λi j=>decide ((b::bs).getD j 0<(b::bs).getD i 0),rfl,an9 J _ l (akv lt) us.toArray,⟨⟨_,akk _ rfl,rfl,rfl⟩,iU.push _⟩,λc k=>?_,by rw[n];exact Nat.succ_pos _,λi j d f s' Q D F a q=>?_,λv L tk B p=>?_⟩)
 .rw[alY]
  rcases akq.mp k with rfl|k
  .exact amE _
  .rw[akt.mp k];exact amx lt
 .obtain⟨t,rfl⟩:∃t,d=.int _ t:=at' F
  obtain⟨t',rfl⟩:∃t,f=.int _ t:=at' a;exact(aoQ q:wpAny (model X.prog X.w) X.A.in1 (ak2 .Gt _ _) Q D s')
 .have r:=at' B
  rw[n,Nat.add_sub_cancel,O6 b bs _ (akf _),List.take_length]at r;exact⟨O,H,_,I.kept (t':=tk) λc o e=>p c o (λz=>akv (akl e) (akt.mp z)) (akb _ e),Go.refl _ _,y,rfl,r⟩
theorem Un(p:X.calm=true):jB X (.builtin "max") (λxs H Q=>∃(l:Addr)(b:Int)(bs:List Int)(O:a3),xs=[.ref l]/\dy X.K H l ((b::bs).map V.int)/\c2 O H/\
  ∀c a v,Go O c H a->c2 c a->Rep X.K X.mg c a (.int (hp b bs)) v->Q v a):=by
 rintro ae s U H xs us Q I i ⟨l,b,bs,O,ex,r,j,q⟩;subst ex;obtain⟨u,rfl,h⟩:=vals1 i;cases h;refine cb (aaT I j r (show X.A.in1.handled=none from I.ok.hd p)) λu s3 g=>?_
 obtain⟨m,d,v,k,n,t,e,f⟩:=g;exact⟨v,d,k,f,q m d v n t e⟩
end
def ZN{K:aP}{mg:ba}:jZ K mg (fun xs H Q=>∃(l:Addr)(b:Int)(bs:List Int)(O:a3),xs=[.ref l]/\dy K H l ((b::bs).map V.int)/\c2 O H/\
  ∀f c v,Go O f H c->c2 f c->Rep K mg f c (.int (hp b bs)) v->Q v c) wA:=λO U S p H vs rs s n Q st i h q=>by
 unfold wA at h;refine bR λj=>?_
 split at h
 .rename_i x
  obtain⟨v,rfl,k⟩:=kR i;split at h
  .rename_i ds e
   split at h
   .rename_i b bs aC
    cases h;obtain⟨a,t,rfl,l,m⟩:=R.pf k e;have:=uO m aC;subst this;exact j ⟨a,b,bs,O,rfl,l,st.cw,λf c v g d r=>q f v c g (st.go g d) r trivial⟩
   .cases h
  .cases h
 .cases h
end aS
namespace aS
open PySem PySem.Spec aB
variable[aB.a4]
def sh(t:aJ->M Bool)(el:bj)(U:aJ):List D->M (List D)
 |[]=>pure []|.t [C,o]::ds=>do
  let b <-t ((U.set 0 (.v C)).set 1 (.v o))
  if b=true then do
   let r <-el ((U.set 0 (.v C)).set 1 (.v o))
   let x <-r.dat
   let xs <-sh t el U ds
   pure (x::xs)
  else sh t el U ds
 |_=>bad
def tK(a:List Nat)(it:fB)(t:aJ->M Bool)(el:bj):bj:=λU=>do
 let ds <-it U
 h6 (ds.length<akg)
 let xs <-sh t el (kC 2 a U) ds
 pure (.fr xs)
section
variable{K:aP}{mg:ba}{cap:List Nat}{it:fB}{t:aJ->M Bool}{el:bj}
def Gy(U:aJ):D->Option aJ
 |.t [C,o]=>some ((U.set 0 (.v C)).set 1 (.v o))|_=>none
omit [aB.a4]in
theorem N2(U:aJ):∀ds,sh t el U ds=l5 (Gy U) t el ds
 |[]=>rfl|d::ds=>by
  cases d with
  |t xs=>
   match xs with
   |[a,b]=>simp only[sh,l5,Gy,N2 U ds]|[]=>rfl|[_]=>rfl|_::_::_::_=>rfl
  |_=>rfl
def UE:∀j H Q,gk K mg (tK cap it t el) j H Q->vf 2 cap (yi K mg it) (rT K 2 (ke [0,1])) (pK K mg t) (gk K mg el) j H Q:=by
 rintro j H Q ⟨O,U,S,r,Z,st,h,q⟩;obtain⟨ds,A,F,h⟩:=M.inv h;obtain⟨_,Y,G,h⟩:=M.inv h;obtain⟨c,rfl⟩:=rF G;obtain⟨xs,ix,p,h⟩:=M.inv h;cases h;rw[N2]at p;refine⟨O,U,S,ds,A,st,F,λB X o ys g1 E e z=>CZ E c (λb s=>(e b s _).2 (alE z.len)) (λk d kW n b P cD g' l=>?_) p λn v b g l L nn=>q n v b (g1.trans g) l L (nn.back g1.same)⟩;obtain⟨y,w,J⟩:=(bc.go g' (z.dz (la B))).get P;obtain⟨go,W⟩:=(e b g'.same k).1 (ake.mp w).1;refine⟨go,λx D R V T=>?_⟩;obtain⟨rfl,ex⟩:=W x D V;rw[w]at ex;cases ex;unfold Gy at cD;split at cD
 .cases cD
  obtain⟨a,oA,N,dO,u,C,rfl,f,m,I,rfl,i,rfl⟩:=J;exact⟨a,[u,m],N,dO,rfl,u,[m],rfl,m,[],rfl,rfl,T _ _ (Go.refl _ _) ((l.val f).val i) (((nF.refl _).set rfl).set rfl)⟩
 .cases cD
end
section
variable{X:aN}{scope esc:Scope}{EN N:List Str}{cap:List Nat}{elt iter:Expr}{ifs:List Expr}{pos d8 p1 eW:Pos}{x y:Str}{it:fB}{t:aJ->M Bool}{el:bj}{k:Nat}
def afL(S:lO esc scope EN N 2 cap)(j:qh X (.Tuple [.Name x p1,.Name y eW] k d8) iter it)(h:N[0]? = some x)(f:N[1]? = some y)
  (d:nP X scope N x) (e:nP X scope N y)
  (i:∀C a s H,qg (ef X scope N C a s H) ifs t) (l:∀C a s H,bh (ef X scope N C a s H) elt el)
  (he:X.env.scope=esc:=by rfl) (hN:X.N=EN:=by rfl) (c:X.calm=true:=by rfl) (av:jH X iter:=by intro _;rfl)
  (b:Ck X scope N x p1 y eW:=by intro _ _ _ _;exact⟨rfl,rfl,rfl,rfl⟩) :
  bh X (.ListComp elt [⟨.Tuple [.Name x p1,.Name y eW] k d8,iter,ifs,0⟩] scope pos) (tK cap it t el):=
 ⟨eI (Gj (g:=rT X.K 2 (ke [0,1])) S j.un (λC a s H=>xQ c (xR S.cS h (d C a s H).1 (xR S.cS f (e C a s H).1 Gl (b C a s H).2.2.2 (.inr (e C a s H).2)) (b C a s H).2.2.1 (.inr (d C a s H).2)) (b C a s H).1 (b C a s H).2.1) (λC a s H=>(i C a s H).un) (λC a s H=>(l C a s H).un) he hN c av) UE⟩
end
end aS
namespace aS
open PySem PySem.Spec aB
noncomputable def L'(N P:List Str)(a:Scope):Bool:=decide (a.kind=.function)&&!a.isCoroutine&&!a.isGenerator&&decide N.Nodup&&decide (N.take P.length=P)
&&P.all (λx=>decide (a.names.lookup x=some .local)||decide (a.names.lookup x=some .cell))&&a.names.all λy=>decide (y.2≠.free)
def t4{N P:List Str}(h:L' N P sc=true):gP N P sc:=by
 simp only[L',akD,Bool.not_eq_true',decide_eq_true_eq,alq,Bool.or_eq_true]at h;exact⟨h.1.1.1.1.1.1,h.1.1.1.1.1.2,h.1.1.1.1.2,h.1.1.1.2,h.1.1.2,h.1.2,h.2⟩
def Kv(b xs:List Str)(a:List Nat):List Str:=xs++a.filterMap λk=>b[k]?
noncomputable def Kw(b scope:Scope)(c N:List Str)(n:Nat)(a:List Nat):Bool:=decide (scope.kind=.function)&&scope.names.all (λy=>decide (y.2≠.cell))&&scope.names.all (λy=>decide (y.2=.local->scope.names.lookup y.1=some .local))
&&scope.names.all (λy=>decide (y.2=.free->b.names.lookup y.1=some .cell\/b.names.lookup y.1=some .free))&&decide N.Nodup&&decide (N.length=n+a.length)
&&(akV a.length).all λj=>decide (N[n+j]? = c[a.getD j 0]?)&&(match N[n+j]? with|some x=>decide (scope.names.lookup x=some .free)|none=>true)
def wg{c xs:List Str}(h:Kw esc scope c (Kv c xs cap) xs.length cap=true):lO esc scope c (Kv c xs cap) xs.length cap:=by
 simp only[Kw,akD,decide_eq_true_eq,alq]at h;obtain⟨⟨⟨⟨⟨⟨f,i⟩,k⟩,l⟩,m⟩,n⟩,d⟩:=h;refine⟨f,i,k,l,m,n,λj e=>?_⟩;obtain⟨a,b⟩:=d j (alg.mpr e);refine⟨a,λx g=>?_⟩;rw[g]at b;exact of_decide_eq_true b
def mb{N:List Str}(h:decide N.Nodup=true):N.Nodup:=of_decide_eq_true h
def uK{p:Nat->Prop}(b:p 0)(a:∀n,p (n+1)):∀n,p n:=λn=>by cases n with|zero=>exact b|succ n=>exact a n
variable[aB.a4]
end aS
namespace aS
open PySem PySem.Spec aB
variable[aB.a4]
structure cR(K:aP)(mg:ba)(x:Str)(st:Stmt)(ps N:List Str):Prop where
 d:fM K mg x st ps
 s:gP N ps (c1 st)
structure hs(K:aP)(mg:ba)(c m qual:Str)(st:Stmt)(ps N:List Str):Prop where
 d:yL K mg c m qual st ps
 s:gP N ps (c1 st)
structure B6(K:aP)(mg:ba)(c m qual:Str)(st:Stmt)(ps N:List Str):Prop where
 d:yM K mg c m qual st ps
 s:gP N ps (c1 st)
def yV(K:aP)(mg:ba)(x:Str)(st:Stmt):Prop:=∃c g,ru K c g (sm x)/\∀(f:Addr)(c6:Value)(e:Option Addr)(cX a pm:Value)(d:Option Addr)(b cM:Value)(o:Array (Option Value)),mg x=some (.ref f)->K.lookup f=some ⟨c6,e,.func (alV x x (jd st) (ft st) (c1 st) .none cX a pm d b cM),o⟩->b=.ref c
section
variable(P:akr)(w:World)(base:Heap){K:aP}{mg:ba}{x c m qual:Str}{st:Stmt}{ps N:List Str}
abbrev ed(_:cR K mg x st ps N)(j k:Nat)(f:bx):Prop:=k<=j->eg P w K mg base x ps k (eQ K mg f)
abbrev p7(_:cR K mg x st ps N)(j k:Nat)(f:d0):Prop:=k<=j->eg P w K mg base x ps k (iL K mg f)
abbrev p8(_:hs K mg c m qual st ps N)(j k:Nat)(f:bx):Prop:=k<=j->kY P w K mg base c m ps k (eQ K mg f)
abbrev lR(_:hs K mg c m qual st ps N)(j k:Nat)(f:d0):Prop:=k<=j->kY P w K mg base c m ps k (iL K mg f)
abbrev HS(_:B6 K mg c m qual st ps N)(j k:Nat)(f:d0):Prop:=k<=j->HP P w K mg base c m ps k (iL K mg f)
end
section
variable{P:akr}{w:World}{base:Heap}{K:aP}{mg:ba}{x c m qual:Str}{st:Stmt}{ps N:List Str}{j k:Nat}{f:bx}{g:d0}{b:aY}{e:b7}
abbrev ro(P:akr)(w:World)(K:aP)(mg:ba)(base:Heap)(N:List Str)(q:Str)(st:Stmt)(j k:Nat)(T:aN->List Stmt->Prop):Prop:=
 k+1<=j->∀(f:Addr)(a:Value)(A:akw)(outer:List Env)(s:akd)(H:au)(E:e7),cL k (A.deeper (akK q (c1 st) s.heap.objs.size f a))->T (f5 es P w K mg base N q (c1 st) f a A outer s H E).gA (ft st)
def eO(d:cR K mg x st ps N)(n:f=fnOf ps.length N.length b)(i:ro P w K mg base N x st j k (hK · · b)):ed P w base d j (k+1) f:=λh=>by
 subst n;exact rZ d.d d.s rfl rfl λf l A outer s H E a=>(i h f l A outer s H E a).un
def DH(d:cR K mg x st ps N)(l:yV K mg x st)(q:f=fnOf ps.length N.length b)(n:k+1<=j->∀(c a:Addr),ru K c a (sm x)->∀(f:Addr)(A:akw)(outer:List Env)(s:akd)(H:au)(E:e7),cL k (A.deeper (akK x (c1 st) s.heap.objs.size f (.ref c)))->hK (f5 es P w K mg base N x (c1 st) f (.ref c) A outer s H E).gA (ft st) b):ed P w base d j (k+1) f:=λh=>by
 subst q;obtain⟨c,a,L,p⟩:=l;exact XT d.d p d.s rfl rfl λf A outer s H E i=>(n h c a L f A outer s H E i).un
def rU(d:cR K mg x st ps N)(i:g=fnX ps.length N.length e)(a:ro P w K mg base N x st j k (hM · · e)):p7 P w base d j (k+1) g:=λh=>by
 subst i;exact WK d.d d.s rfl rfl (a h)
def rS(d:hs K mg c m qual st ps N)(n:f=fnOf ps.length N.length b)(i:ro P w K mg base N qual st j k (hK · · b)):p8 P w base d j (k+1) f:=λh=>by
 subst n;exact WI d.d d.s rfl rfl λf l A outer s H E a=>(i h f l A outer s H E a).un
def mO(d:hs K mg c m qual st ps N)(i:g=fnX ps.length N.length e)(a:ro P w K mg base N qual st j k (hM · · e)):lR P w base d j (k+1) g:=λh=>by
 subst i;exact WH d.d d.s rfl rfl (a h)
def VS(d:B6 K mg c m qual st ps N)(i:g=fnX ps.length N.length e)(a:ro P w K mg base N qual st j k (hM · · e)):HS P w base d j (k+1) g:=λh=>by
 subst i;exact WG d.d d.s rfl rfl (a h)
end
end aS
namespace aS
open PySem PySem.Spec aB PyProof.Rows
def k6(fs xs:List Addr)(h a:Heap):Prop:=∀b o,h.get? b=some o->b∉xs->(b∉fs->a.get? b=some o)/\∃da,a.get? b=some { o with slots:=da }
def k6.trans{fs xs i:List Addr}(a:k6 fs xs h C)(b:k6 fs i C I):k6 fs (xs++i) h I:=λc o e f=>by
 have d:=λz=>f (akH _ z)
 obtain⟨a1,da,a2⟩:=a c o e (λz=>f (ale _ z));refine⟨λg=>(b c o (a1 g) d).1 g,?_⟩;obtain⟨_,k,j⟩:=b c _ a2 d;exact⟨k,j⟩
def nO(h:Heap)(e T:Addr)(cls c:Value):Prop:=∃a vs b ts,h.get? e=some a/\a.cls=cls/\a.data=.fields vs/\vs[1]? = some (.ref T)/\T≠e/\h.get? T=some b/\b.data=.fields ts/\ts[3]? = some c
def nO.there{h:Heap}(x:nO h e T cls o):∃bD,h.get? e=some bD/\bD.cls=cls:=by
 obtain⟨a,_,_,_,he,b,_⟩:=x;exact⟨a,he,b⟩
section
variable{M:Model}{A:akw}{E:cZ}{s:akd}
def LW{base:Heap}{env:Env}{outer:List Env}{L e:Addr}{l:Obj}{vs:Array Value}{c:Value}{x:Bool}{Q:Unit->akd->Prop}
  (G:A.frames=some (env::outer)) (u:s.heap.FunFrames base (env::outer)) (D:env.frame=some L) (he:s.heap.get? e=some l) (hd:l.data=.fields vs) (f:1<vs.size)
  (h:∀k T,k6 (hx (env::outer)) [e] s.heap k->s.heap.objs.size<=T->nO k e T l.cls (alN L)->Q () { s with heap:=k }) :
  wpAny M A (do let a <-frameOf env;let pl <-entryPlaceOf L x;let b <-EntryCells.newEntry c a .none (alN L) .none pl;setField (.ref e) 1 b) Q E s:=by
 have B:e∉(env::outer).filterMap (·.frame):=λF=>by
  obtain⟨_,o,i,n⟩:=u.mem F;rw[he]at i;injection i with i;subst i;exact n vs hd
 refine aka (wpAny_frameOf_fun G u D λd j=>?_);refine aka (wpAny_entryPlaceOf λpl t=>?_);refine aka (amw ?_ (t.sizeOk5 _ _ _ _ _));have p:=(j.2.1 e B).trans he;have q:=akb { cls:=.type "traceback",dict:=none,data:=.fields ([c,.ref L,.none,alN L,.none]++(if pl.isEmpty then akA 6 alv else pl)).toArray } p;refine am3 q hd f (h _ d.objs.size ?_ (by rw[j.1];exact akf _) ?_)
 .intro b o g m
  have m:b≠e:=λz=>m (by simp[z])
  have keep:∀o,d.get? b=some o->((d.push { cls:=.type "traceback",dict:=none,data:=.fields ([c,.ref L,.none,alN L,.none]++(if pl.isEmpty then akA 6 alv else pl)).toArray }).update e (amJ (·.setIfInBounds 1 (akZ d.objs.size)))).get? b=some o:=λo g=>by
   rw[alJ _ _ (alQ m)];exact akb _ g
  refine⟨λn=>keep o ((j.2.1 b n).trans g),?_⟩;obtain⟨da,av⟩:=j.2.2 b o g;exact⟨da,keep _ av⟩
 .have w:=aoh (akl p)
  have r:=aml hd (·.setIfInBounds 1 (akZ d.objs.size));have y:=(alJ (d.push { cls:=.type "traceback",dict:=none,data:=.fields ([c,.ref L,.none,alN L,.none]++(if pl.isEmpty then akA 6 alv else pl)).toArray })
   (amJ (·.setIfInBounds 1 (akZ d.objs.size))) (alQ w)).trans (akk d rfl)
  exact⟨_,_,_,_,(anp (amJ (·.setIfInBounds 1 (akZ d.objs.size))) q (anq r)),Obj.cls_mapFields _ _,r,by simp[f],w,y,rfl,by first|(simp)|(rcases t with rfl|⟨_,_,_,_,_,_,_,rfl⟩<;>simp)⟩
def abu{base:Heap}{env:Env}{outer:List Env}{L e:Addr}{b:Obj}{vs:Array Value}{Q:Unit->akd->Prop}
  (g:A.frames=some (env::outer)) (f:s.heap.FunFrames base (env::outer)) (d:env.frame=some L) (he:s.heap.get? e=some b) (hd:b.data=.fields vs) (c:vs[1]? = some .none)
  (h:∀a T,k6 (hx (env::outer)) [e] s.heap a->s.heap.objs.size<=T->nO a e T b.cls (alN L)->Q () { s with heap:=a }):wpAny M A (aoB (.ref e) env) Q E s:=by
 unfold aoB;simp only[d];refine aka (alG he hd c ?_);exact LW g f d he hd (al8.mp c).1 h
def abv{base:Heap}{env:Env}{outer:List Env}{L e T:Addr}{cls:Value}{Q:Unit->akd->Prop}
  (w:A.frames=some (env::outer)) (u:s.heap.FunFrames base (env::outer)) (r:env.frame=some L) (t:nO s.heap e T cls .none)
  (h:∀d g,k6 (hx (env::outer)) [T,e] s.heap d->s.heap.objs.size<=g->nO d e g cls (alN L)->Q () { s with heap:=d }):wpAny M A (aoB (.ref e) env) Q E s:=by
 obtain⟨B,vs,D,ts,he,rfl,hd,n,x,j,k,p⟩:=t;unfold aoB;simp only[r];refine aka (alG he hd n ?_);refine aka (alG j k p ?_);refine aka (am3 j k (al8.mp p).1 ?_);have a:∀b,b≠T->(s.heap.update T (amJ (·.setIfInBounds 3 alv))).get? b=s.heap.get? b:=λb c=>alJ _ _ (alQ c)
 have i:∀b o,s.heap.get? b=some o->(∀vs,o.data≠.fields vs)->b≠T:=λb o c l q=>by
  rw[q,j]at c;injection c with c;subst c;exact l ts k
 have k0:k6 (hx (env::outer)) [T] s.heap (s.heap.update T (amJ (·.setIfInBounds 3 alv))):=λb o c f=>by
  have f:b≠T:=λz=>f (by simp[z])
  exact⟨λ_=>(a b f).trans c,o.slots,(a b f).trans c⟩
 refine LW w (u.of_keeps λb o c l=>⟨o,(a b (i b o c l)).trans c,rfl⟩) r ((a e (alQ x)).trans he) hd (al8.mp n).1
  λd g k1 m y=>h d g (k0.trans k1) (by rw[ank]at m;exact m) y
def Dy{fs:List Addr}{Q:Unit->akd->Prop}(n:nO s.heap e T cls C)(h:∀g,k6 fs [T] s.heap g->nO g e T cls .none->Q () { s with heap:=g }) :
  wpAny M A (setFlight (.ref e) none) Q E s:=by
 obtain⟨q,vs,t,ts,he,r,hd,k,m,l,i,p⟩:=n;have j:=(al8.mp p).1;have a:∀b,b≠T->(s.heap.update T (amJ (·.setIfInBounds 3 ((none:Option Addr).elim alv λf=>alN f)))).get? b=s.heap.get? b:=
  λb c=>alJ _ _ (alQ c)
 refine aka (alG he hd k ?_);refine am3 l i j (h _ (λb o c d=>?_) ?_)
 .have d:b≠T:=λz=>d (by simp[z])
  exact⟨λ_=>(a b d).trans c,o.slots,(a b d).trans c⟩
 .exact⟨q,vs,_,_,(a e (alQ m)).trans he,r,hd,k,m,anp _ l (anq (aml i _)),aml i _,by simp[j]⟩
end
def Sh(b:Heap)(H:au)(a:Addr)(cls:Value)(h:Heap):Prop:=∃T,nO h a T cls .none/\(b.get? a=none/\H a=none)/\b.get? T=none/\H T=none
def oE(P:akr)(w:World):my:=λouter H s E e s'=>∃a cls b,e=.ref a/\(s'.os=s.os/\amL s'.gens)/\aB.gI (hx outer) [] H b s.heap s'.heap/\fm P w b s'.heap/\Sh s.heap b a cls s'.heap/\E cls none b
def gG.there{h:Heap}(x:gG P w H h a o):∃bD,h.get? a=some bD:=by
 cases o with
 |l xs=>obtain⟨_,_,_,_,e⟩:=x;exact⟨_,e⟩
 |t xs=>obtain⟨_,_,_,bD,e,_⟩:=x;exact⟨_,e⟩
 |gu b=>obtain⟨_,_,_,_,o,_,_,e,_⟩:=x;exact⟨_,e⟩
 |h8 b=>obtain⟨_,_,_,_,o,_,_,e,_⟩:=x;exact⟨_,e⟩
 |set S n=>obtain⟨o,_,_,_,e,_⟩:=x;exact⟨_,e⟩
 |ins C c fs=>obtain⟨_,_,_,e,_⟩:=x;exact⟨_,e⟩
 |own y=>obtain⟨_,e⟩:=x;exact⟨_,e⟩
 |BQ fs=>obtain⟨_,⟨_,_,_,e,_⟩,_⟩:=x;exact⟨_,e⟩
 |u_ g d=>obtain⟨_,_,_,e⟩:=x;exact⟨_,e⟩
 |cm bD u=>obtain⟨e,_⟩:=x;exact⟨_,e⟩
 |gE ps=>exact⟨_,(show h.get? a=some _ from x)⟩|met f y=>exact⟨_,(show h.get? a=some _ from x)⟩|ext i=>obtain⟨_,⟨_,e⟩,_⟩:=x;exact⟨_,e⟩
def afj{H:au}{h:Heap}(ok:fm P w H h)(e:h.get? a=none):H a=none:=by
 cases q:H a with
 |none=>rfl|some o=>obtain⟨bD,b⟩:=gG.there (ok a o q);rw[e]at b;cases b
section
variable{X:aN}{ae:c0}{U:aB.St}{H H1:au}{s s1:akd}{ah:Heap}
def NN(I:Inv X ae U H s)(os:s1.os=s.os)(bare:amL s1.gens)(un:aB.gI (hx X.stack) [] H H1 s.heap s1.heap)(bP:fm X.prog X.w H1 s1.heap)(d:∀b∈xs,s.heap.get? b=none/\H1 b=none)(k:k6 (hx X.stack) xs s1.heap ah) :
  Inv X ae U H1 { s1 with heap:=ah }:=by
 have l:=I.zu os un bP bare (λb z=>absurd z (by simp));have fr:=λb j=>l.G6 b j
 refine I.zu os ⟨λb o e n g a=>?_,λb o e n g a=>?_,un.free,λb o e a=>?_,un.pL,un.n0,un.ox⟩ (λb u e=>?_) bare (λb z=>absurd z (by simp))
 .exact(k b o (un.keep b o e n g a) λz=>by rw[(d b z).1]at e;cases e).1 g
 .obtain⟨da,aq⟩:=un.slot b o e n g a
  obtain⟨_,h,aC⟩:=k b _ aq λz=>by rw[(d b z).1]at e;cases e
  exact⟨h,aC⟩
 .obtain⟨m,aq⟩:=un.there b o e a
  obtain⟨_,h,aC⟩:=k b _ aq λz=>by rw[(d b z).1]at e;cases e
  exact⟨_,aC⟩
 .refine(bP b u e).rd (λc v a q=>?_) (λ_ q=>q) λ_ _ q=>q
  have:∃i,H1 c=some i:=by
   rcases a with z|z
   .rw[z];exact⟨u,e⟩
   .exact⟨_,z⟩
  obtain⟨i,f⟩:=this;exact(k c v q λz=>by rw[(d c z).2]at f;cases f).1 λz=>by rw[fr c z]at f;cases f
end
section
variable{P:akr}{w:World}{K:aP}{mg:ba}{base:Heap}{N:List Str}{qual:Str}{scope:Scope}{f:Addr}{cd:Value}{A:akw}{outer:List Env}{s0:akd}{HM:au}{E:e7}
structure Lets(X:aN)(E:e7):Prop where
 made:∀(ae:c0)(U:aB.St)(H:au)(s:akd)(h':Heap)(e:Addr)(cls:Value)(args:List Value),Inv X ae U H s->Heap.MadeExcOf s.heap h' e cls args->E cls none H->X.dv (.ref e) { s with heap:=h' }
def aaB:Lets (f5 (oE P w) P w K mg base N qual scope f cd A outer s0 HM E) E where
 made:=by
  intro x U H s r e cls args I a p;have d:=I.kept (t':=s.toks) a.keeps;obtain⟨t,he,_,_⟩:=a.there;have tv:=afj I.bP a.new;refine aka (abu d.ok.frames d.stack rfl he rfl rfl λy g k1 l u=>?_);refine Dy (fs:=hx (f5 (oE P w) P w K mg base N qual scope f cd A outer s0 HM E).stack) u λB k2 n=>?_
  have k:=d.bP.fresh l;have m:s.heap.get? g=none:=by
   cases q:s.heap.get? g with
   |none=>rfl|some o=>exact absurd (akl (a.keeps _ _ q)) (Nat.not_lt.mpr l)
  have h:=NN I (s1:={ s with heap:=r }) rfl I.bare (aB.gI.kept a.keeps) d.bP (λb c=>by
   simp only[List.cons_append,List.nil_append,akq,ak6,or_false]at c;rcases c with rfl|rfl
   .exact⟨a.new,tv⟩
   .exact⟨m,k⟩) (k1.trans k2)
  have j:∀b,s.heap.get? b=none->s0.heap.get? b=none:=λb c=>by
   cases q:s0.heap.get? b with
   |none=>rfl| some o=>obtain⟨D,i⟩:=I.base.there b o q (by intro z;exact absurd (show b∈([]:List Addr)from z) (by simp));rw[c]at i;cases i
  exact⟨e,cls,H,rfl,⟨h.os,h.bare⟩,h.base,h.bP,⟨g,n,⟨j e a.new,tv⟩,j g m,k⟩,p⟩
end
def aca{K:aP}{h:Heap}{mg:ba}{x:Str}{C:Addr}{b:List Value}{a:String}(X:K.In h)(e:mg x=some (.ref C))(q:W.excIn K C b a=true):OwnCls x C b a mg h:=by
 refine⟨e,?_⟩;unfold W.excIn at q;refine bR λg=>?_
 split at q
 .rename_i dd cd da j
  split at q
  .rename_i s bm k0 k1 k2 k3 n k5 m av
   simp only[akD,beq_iff_eq,Bool.not_eq_true']at q;obtain⟨⟨⟨⟨⟨rfl,rfl⟩,d⟩,i⟩,bP⟩,c⟩:=q;obtain⟨nm,bs,p,ns,r,hd,sn,sub,ab,col,k⟩:=cd;subst m d;have f:da=#[k0,k1,k2,k3,some (.builtin n),k5]:=by
    obtain⟨l⟩:=da;simp only at av;rw[av]
   subst f;exact g ⟨bm,ns,nm,r,bs,hd,sn,sub,ab,col,dd,k0,k1,k2,k3,k5,_,X _ _ j,.of_isNs (W.isNs_of_in X bP),W.nsMap_none_of_in X bP c,W.tail_of_in X i⟩
  .cases q
 .cases q
abbrev TZ:List Value:=[.type "ValueError",.type "Exception",.type "BaseException",.type "object"]
structure p5(K:aP)(mg:ba)(x:Str)(C:Addr):Prop where
 at':mg x=some (.ref C)
 ok:W.excIn K C TZ "ValueError.__new__"=true
section
variable{X:aN}{x:Str}{C:Addr}{dS:Expr}{rest:List Expr}{t:gH}{np de pos:Pos}{E:e7}
def ac7(V:p5 X.K X.mg x C)(p:X.calm=true)(g:eS X x)(L:Lets X E)(j:gR X (dS::rest) t)(he:fQ X dS rest:=by rfl)
  (w:gJ X de rest:=by rfl) (l:fo x:=by decide) :
  iQ X (.Raise (some (.Call (.Name x np) (dS::rest) [] de)) none pos) (λ_ U H=>t U H λvs b=>vs.length<=akg/\E (.ref C) none b):=by
 intro d s U H D I h;refine bR λi=>?_
 obtain⟨z,N,nm,q,bs,hdct,sn,sub,ab,col,dd,k0,k1,k2,k3,k5,A,m,hN,f,T⟩:=(aca I.ok.mod.qR V.at' V.ok).obj;have B:=PySem.F.excBase_ValueError;refine i ?_;refine wpAny_Raise_call_subU (nm:=nm) (q:=q) (N:=N) (bs:=bs) (hdct:=hdct) (sn:=sn) (sub:=sub) (ab:=ab) (col:=col) (dd:=dd) (k0:=k0) (k1:=k1) (k2:=k2) (k3:=k3) (k5:=k5)
  B (by decide +kernel) B (T.hasType B.hasBase) (I.ok.hd p) (by rw[he];show(false||(al0 de (akT rest X.env)).any (·.1))=false;rw[w];rfl) f (qS I g V.at' ⟨rfl,?_⟩ l)
 have c:=j de d s U H _ I h;rw[he]at c ⊢;refine amG (akW c (λus s1 ⟨vs,b,a,r,hz,k⟩=>?_) λ_ _ y=>y);exact⟨rfl,by rw[<-r.length];exact hz,a.bk _ _ m,hN.keeps a.bk,T.keeps a.bk,λn e u=>L.made d U b s1 n e _ _ a u k⟩
end
end aS
namespace aS
open PySem PySem.Spec aB PyProof.Rows
variable[aB.a4]
def vb(K:aP)(mg:ba)(mf:bx):et:=λvs H _ E=>eQ K mg mf vs H (λv a=>∀c C,v=.str c->mg c=some (.ref C)->E (.ref C) none a) E
structure vS(X:aN)(E:e7)(ou:List Stmt)(m:aY):Prop where
 un:iw X ou λ_ U H=>iq X.K X.mg m { bl:=λ_ H'=>∀c C,(.ay:V)=.str c->X.mg c=some (.ref C)->E (.ref C) none H',cp:=λv H'=>∀c C,v=.str c->X.mg c=some (.ref C)->E (.ref C) none H' } U H
def R0:aY:=λ_=>bad
def vw(t:aJ->M Bool)(c:Str)(r:aY):aY:=λU=>do
 let t <-t U
 if t=true then pure (.cp (.v (.str c)))else r U
structure yO(P:akr)(w:World)(K:aP)(mg:ba)(base:Heap)(c m:Str)(ps:List Str)(k:Nat)(sp:et):Prop where
 ex:∃C f fd,mg c=some (.ref C)/\i8 K C/\Meth K C m f/\ff P w K mg base (oE P w) k f fd ps sp/\Binds K fd ps []/\Binds K fd ps [.none]
section
variable{X:aN}{E:e7}{ou rest:List Stmt}{t:aJ->M Bool}{r:aY}{x:Str}{d:D}{dS c:Expr}{np de pos eW:Pos}
def agu:vS X E ou R0:=⟨λ_ _ _ _ _ _ z=>by obtain⟨_,_,_,_,_,_,h,_⟩:=z;cases h⟩
def agv(V:∃C,p5 X.K X.mg x C)(A:X.calm=true)(g:eS X x)(L:Lets X E)(s:fP X c t)(p:gr X [dS] (ck (aK d) cO))(i:vS X E rest r)(he:fQ X dS []:=by rfl)
  (B:(al0 de (akT [] X.env)).any (·.1)=false:=by rfl) (y:fo x:=by decide) :
  vS X E (.If c [.Raise (some (.Call (.Name x np) [dS] [] de)) none eW] [] pos::rest) (vw t x r):=by
 obtain⟨C,V⟩:=V;refine⟨xV (Gv (Gr s.un (Gw (ac7 V A g L p.un he B y)) P0) i.un) λD G H l=>?_⟩;obtain⟨O,U,S,k,n,st,h,q⟩:=l;obtain⟨f,a,m,h⟩:=M.inv h;refine⟨O,U,S,f,a,st,m,λb F g1 e=>?_⟩
 cases f with
 |false=>
  rw[if_neg akp]at h;exact qJ ⟨b,U,a,k,n,e,h,q.aZ g1.aZ (fg.refl _ _)⟩
 |true=>
  rw[if_pos rfl]at h;cases h;refine qK ⟨b,U,_,[.v d],_,e,rfl,λw vs j z cJ u nn=>⟨?_,q w (.str x) j ((g1.trans z).aZ) cJ.cw cJ.gM rfl x C rfl V.at'⟩⟩;rw[u.len];exact alj (eP (show 1<=1000 by omega))
theorem WE{P:akr}{w:World}{K:aP}{mg:ba}{base:Heap}{c m qual:Str}{st:Stmt}{ps N:List Str}{k:Nat}{e:aY}{n g:Nat}(fM:yM K mg c m qual st ps)(i:gP N ps (c1 st))(l:ps.length=n)(L:N.length=g)
  (p:∀(f:Addr)(a:Value)(A:akw)(outer:List Env)(s:akd)(H:au)(E:e7),cL k (A.deeper (akK qual (c1 st) s.heap.objs.size f a))->Lets (f5 (oE P w) P w K mg base N qual (c1 st) f a A outer s H E) E->
   vS (f5 (oE P w) P w K mg base N qual (c1 st) f a A outer s H E) E (ft st) e):yO P w K mg base c m ps (k+1) (vb K mg (fnOf n g e)):=by
 obtain⟨C,f,B,G,cl,me,F,J,b⟩:=fM.ex;subst l L;refine⟨C,f,B,G,cl,me,?_,J,b⟩;obtain⟨c6,W,Y,cX,y,pm,R,a,cM,V,rfl,M,D⟩:=F.ex;exact zP M D i (λvs H Q E ⟨O,ds,r,S,T,dh,u,h,q⟩=>u.len.trans (wC h)) λA outer s H vs Q E j z=>⟨_,(p f a A outer s H E j aaB).un,CL z⟩
end
abbrev aN.held(X:aN)(a:Addr)(dv:cZ):aN:={ X with A:=X.A.mark (some (.ref a)),calm:=false,dv:=dv }
section
variable{X:aN}{ae:c0}{U:aB.St}{H:au}{s:akd}{a:Addr}{dv:cZ}
def NO(I:aB.Inv X ae U H s):aB.Inv (aN.held X a dv) ae U H s:=
 ⟨⟨I.ok.mod,I.ok.kind,I.ok.glob,I.ok.blt,I.ok.above,I.ok.inj,I.ok.has,I.ok.tO,λz=>Bool.noConfusion (show false=true from z),I.ok.frames,I.ok.ye,I.ok.wt,I.ok.bs,I.ok.lX,I.ok.uM,I.ok.tZ,I.ok.kD,I.ok.o3⟩,I.os,I.bare,I.base,I.loc,I.cell,I.free,I.ll,I.pin,I.bP,I.len⟩
def Ag(ok:X.Ok)(I:aB.Inv (aN.held X a dv) ae U H s):aB.Inv X ae U H s:=⟨ok,I.os,I.bare,I.base,I.loc,I.cell,I.free,I.ll,I.pin,I.bP,I.len⟩
def aeg{D:Ends}(ok:X.Ok)(h:nN (aN.held X a dv) ae D f s'):nN X ae D f s':=by
 cases f with
 |next=>obtain⟨U',b,I,q⟩:=h;exact⟨U',b,Ag ok I,q⟩
 |brk=>obtain⟨U',b,I,q⟩:=h;exact⟨U',b,Ag ok I,q⟩
 |cont=>obtain⟨U',b,I,q⟩:=h;exact⟨U',b,Ag ok I,q⟩
 |ret u=>obtain⟨v,U',b,I,r,q⟩:=h;exact⟨v,U',b,Ag ok I,r,q⟩
end
def B8(x C:Addr)(h:Heap):Prop:=∃o,h.get? x=some o/\o.cls=.ref C
omit [aB.a4]in
theorem B8.type{M:Model}(I:B8 x C h):W.Looks M h (typeOf (.ref x)) (.ref C):=by
 obtain⟨o,a,b⟩:=I;exact b▸(W.Looks.ld a).andThen .now
structure Si(X:aN)(ae:c0)(U:aB.St)(H':au)(s1 s2:akd)(dn:Heap)(a C T:Addr):Prop where
 jX:nO dn a T (.ref C) .none
 inv:∀e2,k6 (hx X.stack) [T] dn e2->aB.Inv X ae U H' { s2 with heap:=e2 }
 gW:∃H1,aB.Inv X ae U H1 s1
 na:s1.heap.get? a=none
 tv:H' a=none
def k6.refl{fs xs:List Addr}:k6 fs xs h h:=λ_ o e _=>⟨λ_=>e,o.slots,e⟩
structure y4(X:aN)(C:Addr)(av:List anY)(t:gZ):Prop where
 un:∀ae U H' s1 s2 dn a T D dC,Si X ae U H' s1 s2 dn a C T->t D U H'->wpAny (model X.prog X.w) X.A (handleBy (.ref a) X.env av) (nN X ae D) dC { s2 with heap:=dn }
def zt(b:bj)(a:List (Str×aY)):aY:=λU=>do
 let r <-b U
 match r with
 |.v (.str c)=>match a.lookup c with
  |some m=>m U|none=>bad
 |_=>bad
section
variable{X:aN}{C B:Addr}{A0:Str}{av:List anY}{t:gZ}{gs:Stmt}{body:List Stmt}{np aO:Pos}
def Ut{h:c0}{U:aB.St}{j:au}{s1 s2:akd}{D:Ends}{E:e7}{e:Value}{dC:cZ}(g:X.stack=X.env::X.outer/\X.env.frame=some X.env.locals)(I:aB.Inv X h U j s1)(c:oE X.prog X.w X.stack j s1 E e s2)
  (F:∀cls f,E cls none f->∃C t,cls=.ref C/\y4 X C av t/\t D U f) :
  wpAny (model X.prog X.w) X.A (aoB e X.env) (λ_ s3=>wpAny (model X.prog X.w) X.A (setFlight e none) (λ_ H=>wpAny (model X.prog X.w) X.A (handleBy e X.env av) (nN X h D) dC H) dC s3) dC s2:=by
 obtain⟨a,cls,f,rfl,⟨os,bare⟩,un,bP,⟨T,K,⟨na,tv⟩,nf,d_⟩,p⟩:=c;obtain⟨C,t,rfl,hw,s⟩:=F cls f p;have i:=I.zu (s':=s2) (ch:=[]) os un bP bare (λb z=>absurd z (by simp));have G:X.A.frames=some (X.env::X.outer):=by rw[<-g.1];exact i.ok.frames
 have r:s2.heap.FunFrames X.base (X.env::X.outer):=by rw[<-g.1];exact i.stack
 refine abv (outer:=X.outer) G r g.2 K λL d k1 m J=>?_
 refine Dy (fs:=hx (X.env::X.outer)) J λy k2 x=>?_
 have l:f d=none:=i.bP.fresh m;have n:s1.heap.get? d=none:=by
  cases q:s1.heap.get? d with
  |none=>rfl| some o=>obtain⟨M,u⟩:=un.there d o q (by simp);exact absurd (akl u) (Nat.not_lt.mpr m)
 refine hw.un h U f s1 s2 y a d D dC ⟨x,λN k5=>?_,⟨_,I⟩,na,tv⟩ s;refine NN I os bare un bP (xs:=([T,a]++[d])++[d]) (λb k=>?_) (by rw[g.1]at k5 ⊢;exact(k1.trans k2).trans k5);simp only[List.cons_append,List.nil_append,akq,ak6,or_false]at k;rcases k with rfl|rfl|rfl|rfl
 .exact⟨nf,d_⟩
 .exact⟨na,tv⟩
 .exact⟨n,l⟩
 .exact⟨n,l⟩
def af5(g:X.mg A0=some (.ref B))(e:W.exmOne X.K (.ref C) (.ref B)=some true)(h:eS X A0)(i:∀a dv,iw (aN.held X a dv) (gs::body) t)(m:fo A0:=by decide):y4 X C (.ExceptHandler (some (.Name A0 np)) none (gs::body) aO::av) t:=by
 refine⟨λj U d s1 s2 k a T D dC F q=>?_⟩;have b:=F.inv k .refl;refine wpAny_handleBy_cons (codeAny_handlers_test (qS (X:=aN.held X a dC) (NO b) h g ?_ m)) (by intro q;cases q);refine(W.exm_one (M:=model X.prog X.w) b.fi (B8.type F.jX.there) e) _ _ _ _ (λ_ _ q=>q) ?_;refine codeAny_handlers_suite ?_;refine Dy (fs:=hx X.stack) F.jX λl k5 n=>?_
 have c:=F.inv l k5;exact akW (i a _ j _ U d D (NO c) q) (λf s' q=>aeg c.ok q) λ_ _ z=>z
end
section
variable{X:aN}{c m:Str}{ps:List Str}{k:Nat}{mf:bx}{o e:Expr}{ax:List Expr}{mo:bj}{ms:cW}{apos pos A9 g6:Pos}{bp:List (Str×aY)}{h0:anY}{av:List anY}
theorem adL{f:Addr}{n:ala}{ds:List Value}{a:List V}{B:c0}{U:aB.St}{H:au}{s:akd}{R:c_}{Q:cZ}{dC:cZ}{us:List Value}{vs:List V}(F:ff X.prog X.w X.K X.mg X.base (oE X.prog X.w) k f n ps (vb X.K X.mg mf))(t:cL k X.A)(y:Binds X.K n ps ds)(hd:Vals a ds)
  (I:aB.Inv X B U H s) (r:Vals vs us) (h:eQ X.K X.mg mf (vs++a) H R j4) (N:∀l s',oE X.prog X.w X.stack H s (λcls _ b=>∃c C,X.mg c=some (.ref C)/\cls=.ref C/\R (.str c) b) l s'->dC l s'):wpAny (model X.prog X.w) X.A (call (.ref f) us) Q dC s:=by
 have j:Vals (vs++a) (us++ds):=r.append hd;have p:vb X.K X.mg mf (vs++a) H (λ_ _=>False) (λcls _ b=>∃c C,X.mg c=some (.ref C)/\cls=.ref C/\R (.str c) b):=by
  obtain⟨O,ds,r,S,G,dh,J,h,q⟩:=h;exact⟨O,ds,r,S,G,dh,J,h,λD v b g d E nn c C e L=>⟨c,C,L,rfl,e▸q D v b g d E nn⟩⟩
 have M:(us++ds).length=ps.length:=by rw[<-j.length];exact F.len _ _ _ _ p
 refine an6 (ame (F.run X.A X.stack s H ⟨us,[]⟩ (us++ds) (vs++a) _ _ t I.wq (y s us I.fi M) j p) λr s' i=>?_)
 cases r with
 |error e=>exact N e s' i|ok x=>
  cases x with
  |ret u=>obtain⟨_,_,_,_,z⟩:=I.after i;exact z.elim
  |next=>exact akI i
  |brk=>exact akI i|cont=>exact akI i
theorem ae8{p:c0}{s:akd}{i:aB.St}{H:au}{B:Ends}{u:bj}{a:Expr}(L:X.stack=X.env::X.outer/\X.env.frame=some X.env.locals)(I:aB.Inv X p i H s)(h:iq X.K X.mg (zt u bp) B i H)
  (V:∀c l,bp.lookup c=some l->∀C,X.mg c=some (.ref C)->y4 X C (h0::av) (iq X.K X.mg l))
  (E:∀(R:c_)(Q:cZ)(dC:cZ),gk X.K X.mg u i H R->(∀s1 n a s',aB.Inv X p i n s1->oE X.prog X.w X.stack n s1 (λcls _ b=>∃c C,X.mg c=some (.ref C)/\cls=.ref C/\R (.str c) b) a s'->dC a s')->wpAny (model X.prog X.w) X.A (eval a X.env) Q dC s)
  (T:alr a none A9.line X.env=pure false):wpAny (model X.prog X.w) X.A (exec (.Try [.Expr a A9] (h0::av) [] [] g6) X.env) (nN X p B) X.dv s:=by
 obtain⟨O,U,S,G,J,st,x,q⟩:=h;obtain⟨r,j,y,d⟩:=M.inv x;clear x;obtain rfl:=(u U).ep _ _ _ y;split at d
 .rename_i c
  cases hc:bp.lookup c with
  |none=>rw[hc]at d;cases d
  |some l=>
   rw[hc]at d;refine wpAny_Try_except (aog (wpAny_Expr_any (E (λv b=>v=.str c/\∃f,Go O f H b/\cU X.K X.mg f U j i b) _ _ ⟨O,U,j,.v (.str c),j,st,y,λf v b g t N nn=>⟨N,f,g,t⟩⟩ λs1 n a s' P F=>?_) I.quiet T));refine Ut L P F λcls b z=>?_
   obtain⟨c',C,D,rfl,e,f,g',t⟩:=z;cases e;exact⟨C,_,rfl,V c l hc C D,f,U,j,G,J,t,d,q.aZ g'.aZ (fg.refl _ _)⟩
 .cases d
def agk{pl:Sem Bool}(h:yO X.prog X.w X.K X.mg X.base c m ps k (vb X.K X.mg mf))(E:cL k X.A)(he:bh X o mo)(J:gr X (e::ax) ms)(y:X.dv=λ_ _=>False)(L:X.stack=X.env::X.outer/\X.env.frame=some X.env.locals)
  (Y:∀c n,bp.lookup c=some n->∀C,X.mg c=some (.ref C)->y4 X C (h0::av) (iq X.K X.mg n))
  (S:fQ X e ax:=by rfl) (O:gJ X pos ax:=by rfl)
  (M:oN X pl o m apos (e::ax) pos:=by rfl)
  (W:alr (.Call (.Attribute o m apos) (e::ax) [] pos) none A9.line X.env=pure false:=by rfl) :
  fD X (.Try [.Expr (.Call (.Attribute o m apos) (e::ax) [] pos) A9] (h0::av) [] [] g6) (zt (e1 c m mf mo ms) bp):=by
 refine⟨λg s i H gY I D=>ae8 L I D Y (λR Q dC hz V=>?_) W⟩;obtain⟨C,f,U,T,cl,me,F,b,_⟩:=h.ex;have no:∀a s,X.dv a s->dC a s:=λa s z=>by rw[y]at z;exact z.elim
 refine ant (pl:=pl) (akW (he.un g s i H _ I (FO _ _ _ hz)) (λu s1 ⟨x,t,j,B,a,j0,Z,fs,ex,p,N,l,q⟩=>?_) no) M;rw[T]at p;cases p;subst ex;obtain rfl:u=akZ a:=B;refine zW j N cl me l ?_;refine anu (first:=[.ref a]) (h₀:=X.base) I.ok.mod.qR me.kp (akW (J.un pos g s1 i t _ j q) (λus s2 ⟨vs,G,d,r,cB⟩=>⟨d.fi,?_⟩) no) S O;exact adL (us:=.ref a::us) (vs:=.ref a::vs) (R:=R) F E b .nil d (.cons rfl r) (by rw[ak5];exact cB) λP s' z=>V s2 G P s' d z
end
def aak{P:Str->aY->Prop}:∀c bs,([]:List (Str×aY)).lookup c=some bs->P c bs:=λ_ _ h=>by cases h
def aaj{P:Str->aY->Prop}{a:List (Str×aY)}(h:P C o)(b:∀c bs,a.lookup c=some bs->P c bs):∀c bs,((C,o)::a).lookup c=some bs->P c bs:=λc bs e=>by
 rw[akU]at e;split at e
 .rename_i z
  cases e;cases beq_iff_eq.mp z;exact h
 .exact b c bs e
def acT{α:Type}(xs:List α)(a:Option Int)(k:Int):List α:=(sliceRange (alZ a none (some k) xs.length).1 (alZ a none (some k) xs.length).2.1 (alZ a none (some k) xs.length).2.2).filterMap (xs[·]?)
def ahC(a:bj)(b st:oI):bj:=λU=>do
 let x <-a U
 let l <-b U
 let k <-st U
 match x.fv,k with
 |some xs,some k=>if k=0 then bad else pure (.fr (acT xs l k))|_,_=>bad
def Ae(j:Nat):fB:=λU=>match U[j]? with
 |some (.cf xs)=>pure xs|_=>bad
def ag1{X:aN}(i:X.N[j]? = some n:=by rfl)(f:qf X.env.scope n:=by first | exact alW rfl | exact akX (.inl rfl) | exact akX (akX rfl))(hd:fo n:=by decide)(g:(n==("__classdict__":Str))=false:=by decide):y7 X C (.Name n p) (Ae j):=
 ⟨ni (xS (xP i f hd g)) λd H R c=>by
  obtain⟨O,U,S,xs,m,st,h,q⟩:=c;have e:=(Ae j U).ep _ _ _ h;subst e
  replace h:(match U[j]? with
   |some (.cf xs)=>pure xs| _=>bad:M (List aS.D)).run _=.ok xs _:=h
  split at h
  .rename_i e
   cases h;obtain⟨a,b,aq,l,k⟩:=st.tf j _ e
   cases aC:d[j]? with
   |none=>rw[aC]at aq;cases aq
   |some o=>
    rw[aC]at aq;cases(show o=some (.ref a)from aq);exact⟨_,aC,a,rfl,⟨b,l.v.dO⟩,q O H (k4 X.K a) b (Go.refl _ _) st l.Aj k⟩
  .cases h⟩
end aS
namespace aS
open PySem PySem.Spec aB
def Ad(m:dC):aJ->N (List D):=λU=>do
 let r <-m U
 match r with
 |.fr xs=>pure xs|_=>gX
def BM(i:Nat)(it:aJ->N (List D))(b:b7):b7:=λU=>do
 let ds <-it U
 jy (λd U=>b (U.set i (.v d))) ds U
variable[aB.a4]
def Q_(K:aP)(mg:ba)(m:aJ->N (List D)):TI:=λc H R=>rB K mg m c H λO U f xs=>∀b a d e,g9 O b H a->eC K mg b U f c a->yR d b a e->bc K mg b a xs e->R d a
section
variable{X:aN}{cI l iter:Expr}{m:dC}{pos d8:Pos}{it:aJ->N (List D)}{bd:b7}{body:List Stmt}{i:Nat}{x:Str}
def ag2(n:e8 X l m):j5 X cI l (Q_ X.K X.mg (Ad m)):=ni (xS n.un) λu H R g=>by
 obtain⟨O,U,S,xs,s,st,h,q⟩:=g;obtain⟨r,e,j,h⟩:=N.inv h;refine⟨O,U,S,r,e,st,j,λf v d g1 b k nn=>?_⟩;split at h
 .cases h
  obtain⟨a,c,rfl,ls,t,p⟩:=k;exact⟨a,rfl,⟨c,dy.of ls⟩,q (cm H f) d (k4 X.K a) c g1.cm.eE (b.cm H) (lS.Aj (.inl ⟨.inl ls,.inl (wG (nn a rfl) t),b.s3.cw.rh.no t (by intro z;cases z)⟩)) (p.dz (jg _ _))⟩
 .cases h
def ag9(r:anm (model X.prog X.w) X.A X.env X.dv)(P:X.calm=true)(T:j5 X (.Name x d8) iter (Q_ X.K X.mg it))(hN:X.N.Nodup)(F:X.N[i]? = some x)(V:Loc X.env.scope x)(B:hM X body bd)
  (av:jH X iter:=by intro _;rfl) (Q:X.fn x=true\/X.env.scope.names.lookup x=some .local:=by first|exact .inl rfl|exact .inr rfl|assumption):gT X (.For (.Name x d8) iter body [] pos) (BM i it bd):=
 ⟨g4 (xU r P T (u3 hN F V Q) B.un av) λD ao H u=>by
 obtain⟨O,U,S,I,aj,st,h,q⟩:=u;obtain⟨ds,p,E,h⟩:=N.inv h;refine⟨O,U,S,ds,p,st,E,λC o b' ys g1 e a n=>OL e (λc b g=>(a c b g _).2 (alE n.len)) (λk d c b U' hu dj f aT M g' J G=>?_) h (q.eE g1)⟩;obtain⟨y,j,L⟩:=(n.eE g' e.s3.cw.rh).get M;obtain⟨go,Z⟩:=(a c b g' k).1 (ake.mp j).1;refine⟨go,λx t R Y W=>?_⟩;obtain⟨rfl,ex⟩:=Z x t Y;rw[j]at ex;cases ex;exact W _ _ _ (ez.refl _ _).eE (J.set (s:=.v _) (λxs z=>by cases z) ⟨_,rfl,L⟩) G⟩
end
end aS
namespace aS
open PySem PySem.Spec aB
def nZ(n N:Nat)(b:aY):bx:=λds=>if ds.length=n then do
  let a <-b (ds.map .v++akA (N-n) .e)
  match a with
  |.cp (.v d)=>pure (.v d)|.cp (.fr xs)=>pure (.fr xs)|.bl _=>pure (.v .ay)|_=>bad
 else bad
def v9(mf:bx)(a:cW):bj:=λU=>do
 let rs <-a U
 let ds <-jc rs
 mf ds
variable[aB.a4]
def yc(K:aP)(mg:ba)(mf:bx):et:=λvs H Q _=>∃O ds r S,c2 O H/\fC K mg O H S/\bc K mg O H ds vs/\(mf ds).run S=.ok r S/\∀b v a,Go O b H a->c2 b a->eM K mg b a r v->h2 H r v->Q v a
def Mb{n N:Nat}{ds:List D}{r:R}(h:(nZ n N b ds).run S=.ok r o):ds.length=n:=by
 unfold nZ at h
 by_cases c:ds.length=n
 .exact c
 .rw[if_neg c]at h;cases h
def QT{ps N:List Str}{O:a3}{ds:List D}(b:c2 O H)(dh:fC K mg O H S)(a:bc K mg O H ds vs)(c:ds.length=ps.length):cU K mg (e0 O) (ds.map .v++akA (N.length-ps.length) .e) S (aB.start N vs) H:=
 QS b dh a.len c λ_ _ e=>(a.get e).imp λv h=>⟨h.1,λ_=>⟨v,rfl,h.2.dz (la O)⟩⟩
def T3{ps N:List Str}(i:yc K mg (nZ ps.length N.length o) vs H Q E):iq K mg o { bl:=λ_ c=>Q .ay c,cp:=Q } (aB.start N vs) H:=by
 obtain⟨O,ds,r,S,a,dh,g,h,q⟩:=i;have b:=Mb h;unfold nZ at h;rw[if_pos b]at h;obtain⟨d,j,e,h⟩:=M.inv h;exact J6 a (QT a dh g b) e (by cases d with|cp f=>cases f<;>cases h<;>exact rfl|_=>cases h<;>exact rfl) q
def VD{P:akr}{w:World}{K:aP}{mg:ba}{base:Heap}{x qual:Str}{st:Stmt}{ps N:List Str}{k:Nat}{b:aY}{f:Addr}{c:ala}{n d:Nat}(F:ks K x qual st f c)(e:gP N ps (c1 st))(i:ps.length=n)(p:N.length=d)
  (j:∀(a:Value)(A:akw)(outer:List Env)(s:akd)(H:au)(E:e7),cL k (A.deeper (akK qual (c1 st) s.heap.objs.size f a))->
   p0 (f5 es P w K mg base N qual (c1 st) f a A outer s H E).gA (ft st) b):ff P w K mg base es (k+1) f c ps (yc K mg (nZ n d b)):=by
 subst i p;exact F.ok e (λvs H Q E ⟨O,ds,r,S,t,dh,l,h,q⟩=>l.len.trans (Mb h)) λa A outer s H vs Q E g m=>⟨_,j a A outer s H E g,T3 m⟩
def XU{P:akr}{w:World}{K:aP}{mg:ba}{base:Heap}{x:Str}{st:Stmt}{ps N:List Str}{k:Nat}{c:aY}{n d:Nat}(fM:fM K mg x st ps)(e:gP N ps (c1 st))(g:ps.length=n)(j:N.length=d)
  (h:∀(f:Addr)(a:Value)(A:akw)(outer:List Env)(s:akd)(H:au)(E:e7),cL k (A.deeper (akK x (c1 st) s.heap.objs.size f a))->
   p0 (f5 es P w K mg base N x (c1 st) f a A outer s H E).gA (ft st) c):eg P w K mg base x ps (k+1) (yc K mg (nZ n d c)):=by
 obtain⟨f,i,F,b,m⟩:=fM.ex;exact⟨f,i,VD F e g j (λa=>h f a),b,F.kp,m⟩
section
variable{X:aN}{x:Str}{ps:List Str}{k:Nat}{mf:bx}{p pos:Pos}{e:Expr}{ax:List Expr}{ms:cW}
def afJ(h:eg X.prog X.w X.K X.mg X.base x ps k (yc X.K X.mg mf))(f:cL k X.A)(c:eS X x)(t:gr X (e::ax) ms)(z:fo x:=by decide)
  (he:fQ X e ax:=by rfl) (B:gJ X pos ax:=by rfl):bh X (.Call (.Name x p) (e::ax) [] pos) (v9 mf ms):=
 ⟨eI (Ba h f c t.un z he B) λL H Q l=>by
 obtain⟨O,U,S,r,J,st,h,q⟩:=l;obtain⟨rs,b,m,h⟩:=M.inv h;obtain⟨ds,G,n,h⟩:=M.inv h;refine⟨O,U,S,rs,b,st,m,λi vs F g1 j u nn=>?_⟩;obtain⟨E,rfl⟩:=tR u nn n;obtain rfl:=(mf _).ep _ _ _ h;have s2:=j.cm H;exact⟨cm H i,ds,r,_,s2.cw,s2.gM,E,h,λs v a g d y D=>q s v a (g1.cm.trans g) (s2.go g d) y (D.back g1.same)⟩⟩
end
end aS
namespace aS
open PySem PySem.Spec aB
def nY(n N:Nat)(b:b7):d0:=λds=>if ds.length=n then do
  let a <-b (ds.map .v++akA (N-n) .e)
  match a with
  |.cp (.v d)=>pure (.v d)|.cp (.fr xs)=>pure (.fr xs)|.bl _=>pure (.v .ay)|_=>gX
 else gX
def Ma{n N:Nat}{ds:List D}{r:R}(h:(nY n N b ds).run S=.ok r o):ds.length=n:=by
 unfold nY at h
 by_cases c:ds.length=n
 .exact c
 .rw[if_neg c]at h;cases h
def yv(mf:d0)(a:hL):dC:=λU=>do
 let rs <-a U
 let ds <-(jc rs).up
 mf ds
variable[aB.a4]
section
variable{K:aP}{mg:ba}{O:a3}{H:au}{S:bL}
def yb(K:aP)(mg:ba)(mf:d0):et:=λvs H Q _=>∃O ds r S c,c2 O H/\fC K mg O H S/\O.bQ.length=S.length/\bc K mg O H ds vs/\(mf ds).run S=.ok r c/\
 ∀b v a,fH O b H a->c2 b a->fC K mg b a c->b.bQ.length=c.length->eM K mg b a r v->h2 H r v->Q v a
def aek{ps N:List Str}{ds:List D}(b:c2 O H)(dh:fC K mg O H S)(a:O.bQ.length=S.length)(c:bc K mg O H ds vs)(f:ds.length=ps.length):eC K mg (e0 O) (ds.map .v++akA (N.length-ps.length) .e) S (aB.start N vs) H:=by
 refine⟨QT b dh c f,a,λi xs e=>?_⟩;rcases akO.mp (akQ e)with z|z
 .obtain⟨d,_,z⟩:=akM.mp z;cases z
 .cases(List.mem_replicate.mp z).2
theorem T2{ps N:List Str}(k:yb K mg (nY ps.length N.length o) vs H Q E):pS K mg o { bl:=λ_ d=>Q .ay d,cp:=Q } (aB.start N vs) H:=by
 obtain⟨O,ds,r,S,g,b,dh,m,j,h,q⟩:=k;have c:=Ma h;unfold nY at h;rw[if_pos c]at h;obtain⟨a,e,f,h⟩:=aS.N.inv h;obtain⟨l,rfl⟩:yN a r/\e=g:=by cases a with|cp i=>cases i<;>cases h<;>exact⟨rfl,rfl⟩|_=>cases h<;>exact⟨rfl,rfl⟩
 exact J4 b (aek b dh m j c) f l q
end
section
variable{P:akr}{w:World}{K:aP}{mg:ba}{base:Heap}{x m qual:Str}{st:Stmt}{ps N:List Str}{k:Nat}{cz:b7}{n nl:Nat}{f:Addr}{fd:ala}
def VB(F:ks K x qual st f fd)(b:gP N ps (c1 st))(d:ps.length=n)(j:N.length=nl)
  (e:∀(a:Value)(A:akw)(outer:List Env)(s:akd)(H:au)(E:e7),cL k (A.deeper (akK qual (c1 st) s.heap.objs.size f a))->
   hM (f5 es P w K mg base N qual (c1 st) f a A outer s H E).gA (ft st) cz):ff P w K mg base es (k+1) f fd ps (yb K mg (nY n nl cz)):=by
 subst d j;exact F.ok b (λvs H Q E ⟨O,ds,r,S,l,p,dh,t,g,h,q⟩=>g.len.trans (Ma h)) λa A outer s H vs Q E c i=>⟨_,(e a A outer s H E c).un,T2 i⟩
theorem WJ(fM:fM K mg x st ps)(c:gP N ps (c1 st))(d:ps.length=n)(g:N.length=nl)
  (e:∀(f:Addr)(a:Value)(A:akw)(outer:List Env)(s:akd)(H:au)(E:e7),cL k (A.deeper (akK x (c1 st) s.heap.objs.size f a))->
   hM (f5 es P w K mg base N x (c1 st) f a A outer s H E).gA (ft st) cz):eg P w K mg base x ps (k+1) (yb K mg (nY n nl cz)):=by
 obtain⟨f,fd,F,b,m⟩:=fM.ex;exact⟨f,fd,VB F c d g (λa=>e f a),b,F.kp,m⟩
end
section
variable{X:aN}{x:Str}{ps:List Str}{k:Nat}{mf:d0}{p pos:Pos}{e:Expr}{ax:List Expr}{ms:hL}
def agR(h:eg X.prog X.w X.K X.mg X.base x ps k (yb X.K X.mg mf))(f:cL k X.A)(c:eS X x)(y:oL X (e::ax) ms)(D:fo x:=by decide)
  (he:fQ X e ax:=by rfl) (E:gJ X pos ax:=by rfl):e8 X (.Call (.Name x p) (e::ax) [] pos) (yv mf ms):=
 ⟨eI (Ba h f c y.un D he E) λM H Q m=>by
 obtain⟨O,U,S,r,u,st,h,q⟩:=m;obtain⟨rs,b,n,h⟩:=N.inv h;obtain⟨ds,L,s,h⟩:=N.inv h;refine⟨O,U,S,rs,b,st,n,λi vs J g1 l z nn=>?_⟩;obtain⟨G,rfl⟩:=tR z nn s;have s2:=l.cm H;exact⟨cm H i,ds,r,_,u,s2.s3.cw,s2.s3.gM,s2.full,G,h,λt v a g d dh j B F=>q t v a (g1.cm.trans g) (s2.dX g d dh j) B (F.dX g1)⟩⟩
end
end aS
namespace aS
open PySem PySem.Spec aB
variable[aB.a4]
section
variable(P:akr)(w:World)(base:Heap){K:aP}{mg:ba}{x:Str}{st:Stmt}{ps N:List Str}
abbrev HR(_:cR K mg x st ps N)(j k:Nat)(f:bx):Prop:=k<=j->eg P w K mg base x ps k (yc K mg f)
abbrev HQ(_:cR K mg x st ps N)(j k:Nat)(f:d0):Prop:=k<=j->eg P w K mg base x ps k (yb K mg f)
end
section
variable{P:akr}{w:World}{base:Heap}{K:aP}{mg:ba}{x:Str}{st:Stmt}{ps N:List Str}{j k:Nat}{f:bx}{g:d0}{b:aY}{e:b7}
def VR(d:cR K mg x st ps N)(l:f=nZ ps.length N.length b)(c:ro P w K mg base N x st j k (hK · · b)):HR P w base d j (k+1) f:=λh=>by
 subst l;exact XU d.d d.s rfl rfl λf i A outer s H E a=>(c h f i A outer s H E a).un
def VT(d:cR K mg x st ps N)(c:g=nY ps.length N.length e)(a:ro P w K mg base N x st j k (hM · · e)):HQ P w base d j (k+1) g:=λh=>by
 subst c;exact WJ d.d d.s rfl rfl (a h)
end
end aS
set_option maxHeartbeats 8000000
namespace aS
abbrev aH(n:Int):bj:=aK (.int n)
abbrev aX(v:Nat)(n:Int):bj:=ak fy (J v) (aK (.int n))
abbrev fl(e:bj)(n:Int):bj:=ak fy e (aK (.int n))
abbrev bE(e:bj):cW:=ck e cO
abbrev a7(e f:bj):cW:=ck e (ck f cO)
abbrev cy(e f g:bj):cW:=ck e (ck f (ck g cO))
end aS
namespace gb
open PySem PySem.Spec aB aS
def top(i:Nat):Stmt:=PySem.Challenge.pw_oneslate_k36_over_and_on.main.body.getD i (.Pass ⟨0,0,0,0⟩)
abbrev QB:Stmt:=top 7
abbrev QC:Stmt:=top 52
abbrev QD:Stmt:=top 54
abbrev x8:Stmt:=top 104
def adV:gP ["script","me","seed","one","world","cell","deed","letters"] ["script"] (c1 x8):=t4 (by kernel_rfl)
abbrev AZ:List Str:=["me","epoch","hall","opening","over_known","greatest_round","last_stamp","wishes","deed","standing","last_outcome","grants","kept_mask","told_slate"]
abbrev uq:List (Str×D):=[("put",.t [(.str "name"),(.str "number")]),("add",.t [(.str "name"),(.str "number")]),("swap",.t [(.str "name"),(.str "number"),(.str "number")]),("take",.t [(.str "fence")]),("renew",.t [(.str "fence")]),("free",.t [(.str "fence")]),("sure",.t [(.str "fence"),(.str "name"),(.str "number")]),("move",.t [(.str "hall")]),("end",.t [])]
abbrev sZ:List (Str×Str):=[("put","do_put"),("add","do_add"),("swap","do_swap"),("take","do_take"),("renew","do_renew"),("free","do_free"),("sure","do_sure"),("move","do_move"),("end","do_end")]
structure Txt[aB.a4](P:akr)(w:World)(K:aP)(mg:ba)(base:Heap):Prop where
 Lb:cR K mg "is_whole" (top 1) P3 P3
 K6:cR K mg "has_keeper" (top 2) ["mask","keeper"] ["mask","keeper"]
 Lz:cR K mg "mask_of" (top 3) ["keepers"] ["keepers","mask","keeper"]
 Lc:cR K mg "keepers_of" (top 4) ["mask"] ["mask"]
 K7:cR K mg "highest" (top 7) ["grants","opening"] ["grants","opening","grant"]
 KW:cR K mg "all_alike" (top 8) ["grants"] ["grants"]
 K5:cR K mg "granters" (top 9) ["grants"] ["grants"]
 C8:cR K mg "namings" (top 24) ["rule"] ["rule","keepers","part"]
 LC:cR K mg "named" (top 26) ["rule"] ["rule"]
 C2:cR K mg "fills" (top 27) ["rule","mask"] ["rule","mask"]
 UZ:cR K mg "is_hall" (top 33) P3 P3
 LA:cR K mg "members_mask" (top 34) ["hall"] ["hall"]
 LB:cR K mg "members_of" (top 35) ["hall"] ["hall"]
 K9:cR K mg "is_name" (top 40) P3 P3
 K_:cR K mg "is_number" (top 41) P3 P3
 UY:cR K mg "is_fence" (top 42) P3 P3
 K4:cR K mg "form_of" (top 43) ["word"] ["word"]
 K':cR K mg "is_part" (top 44) ["kind","thing"] ["kind","thing"]
 K8:cR K mg "is_deed" (top 45) P3 ["thing","form"]
 KY:cR K mg "blank" (top 47) [] []
 LG:cR K mg "shut_of" (top 49) v6 v6
 La:cR K mg "is_shut" (top 50) v6 v6
 KZ:cR K mg "cell_of" (top 51) ["slate","name"] ["slate","name","cell"]
 LI:cR K mg "with_cell" (top 52) ["slate","name","n"] ["slate","name","n","cells"]
 K2:cR K mg "doing_of" (top 53) ["slate","asker"] ["slate","asker","doing"]
 LJ:cR K mg "with_doing" (top 54) ["slate","asker","number","answer"] ["slate","asker","number","answer","doings"]
 LK:cR K mg "with_shut" (top 56) ["slate","shut"] ["slate","shut"]
 LD:cR K mg "opened" (top 57) v6 v6
 K1:cR K mg "do_put" (top 59) T0 T0
 K0:cR K mg "do_add" (top 60) T0 ["slate","asker","deed","total"]
 UT:cR K mg "do_swap" (top 61) T0 T0
 UU:cR K mg "do_take" (top 64) T0 T0
 UR:cR K mg "do_renew" (top 65) T0 T0
 UP:cR K mg "do_free" (top 66) T0 T0
 US:cR K mg "do_sure" (top 67) T0 T0
 UQ:cR K mg "do_move" (top 68) T0 T0
 UO:cR K mg "do_end" (top 69) T0 T0
 LF:cR K mg "outcome_of" (top 71) T0 ["slate","asker","deed","doer"]
 K3:cR K mg "done_on" (top 72) ["slate","asker","number","deed"] ["slate","asker","number","deed","made"]
 KX:cR K mg "ask_letter" (top 74) ["asker","keeper","epoch","stamp"] ["asker","keeper","epoch","stamp"]
 LH:cR K mg "tell_letter" (top 75) u8 u8
 Ky:hs K mg "Asker" "__init__" "Asker.__init__" (inClass (top 77) 0) ["self","me","hall"] ["self","me","hall"]
 zz:B6 K mg "Asker" "begin" "Asker.begin" (inClass (top 77) 1) ["self","deed"] ["self","deed"]
 KA:hs K mg "Asker" "bell" "Asker.bell" (inClass (top 77) 2) W1 W1
 KI:hs K mg "Asker" "hear" "Asker.hear" (inClass (top 77) 3) v4 v4
 KQ:hs K mg "Asker" "outcome" "Asker.outcome" (inClass (top 77) 4) W1 W1
 KV:hs K mg "Asker" "stand" "Asker.stand" (inClass (top 77) 6) W1 W1
 KU:hs K mg "Asker" "stamp" "Asker.stamp" (inClass (top 77) 7) W1 W1
 KR:hs K mg "Asker" "place" "Asker.place" (inClass (top 77) 8) W1 W1
 KO:hs K mg "Asker" "knows_over" "Asker.knows_over" (inClass (top 77) 9) W1 W1
 KN:hs K mg "Asker" "is_for_now" "Asker.is_for_now" (inClass (top 77) 10) v4 v4
 Kz:hs K mg "Asker" "ask_members" "Asker.ask_members" (inClass (top 77) 11) W1 W1
 KJ:hs K mg "Asker" "hear_grant" "Asker.hear_grant" (inClass (top 77) 12) v4 v4
 KG:hs K mg "Asker" "go_on" "Asker.go_on" (inClass (top 77) 13) ["self","pair"] ["self","pair","load"]
 KS:hs K mg "Asker" "sees_at_once" "Asker.sees_at_once" (inClass (top 77) 14) ["self","slate"] ["self","slate"]
 KL:hs K mg "Asker" "hear_kept" "Asker.hear_kept" (inClass (top 77) 15) v4 ["self","letter","shut"]
 KC:hs K mg "Asker" "end_where_told" "Asker.end_where_told" (inClass (top 77) 16) W1 ["self","slate","doing"]
 KP:hs K mg "Asker" "learn_over" "Asker.learn_over" (inClass (top 77) 17) W1 W1
 KH:hs K mg "Asker" "go_over" "Asker.go_over" (inClass (top 77) 18) ["self","hall"] ["self","hall"]
 KD:hs K mg "Asker" "end_wish" "Asker.end_wish" (inClass (top 77) 19) ["self","outcome"] ["self","outcome"]
 Li:cR K mg "_law_cell_at" (top 79) ["script","k"] ["script","k"]
 C6:cR K mg "_law_same" (top 80) ["found","due"] ["found","due","one","other"]
 C7:cR K mg "_law_turned" (top 81) ["rule","shift"] ["rule","shift"]
 Lo:cR K mg "_law_hall" (top 82) ["cell"] ["cell","three","rows","columns","some","asking","keeping"]
 C5:cR K mg "_law_named" (top 83) ["rule"] ["rule","found","part"]
 Lq:cR K mg "_law_members" (top 84) ["hall"] ["hall","there"]
 C4:cR K mg "_law_filled" (top 85) ["rule","keepers"] ["rule","keepers"]
 Lr:cR K mg "_law_name" (top 86) ["cell"] ["cell","size","at","name","k"]
 Lj:cR K mg "_law_deed" (top 87) ["cell","seed"] ["cell","seed","number"]
 Lk:cR K mg "_law_done" (top 88) ["slate","me","number","deed"] ["slate","me","number","deed","cells","doings","lease","shut","later","answer","have","now","rest"]
 Ls:cR K mg "_law_page" (top 89) ["books","keeper","epoch"] ["books","keeper","epoch"]
 Lp:cR K mg "_law_heard" (top 90) ["books","letter"] ["books","letter","word","asker","keeper","epoch","stamp","load","promised","kept","slate"]
 Le:cR K mg "_law_asks" (top 91) ["me","place","stamp"] ["me","place","stamp"]
 Lh:cR K mg "_law_best" (top 92) ["grants","opening"] ["grants","opening","best","slate","keeper","kept","told"]
 Lw:cR K mg "_law_tells" (top 93) ["me","place","stamp","number","deed","grants"] ["me","place","stamp","number","deed","grants","best","slate","load"]
 Lm:cR K mg "_law_ghost" (top 94) ["books","place","ghost","number","deed","cell"] ["books","place","ghost","number","deed","cell","members","top","asked","told","grants","ask","answer","tell"]
 Lu:cR K mg "_law_refused" (top 95) ["one","deed"] ["one","deed","word"]
 Ld:cR K mg "_law_after" (top 96) ["one","world","place","stamp","told","letters"] ["one","world","place","stamp","told","letters","epoch","hall","opening","shut","mine","due","asks","stand","found"]
 Lx:cR K mg "_law_told_all" (top 97) ["one","world","tells"] ["one","world","tells","place","marks","written","tell","answer","ready","letters"]
 Lv:cR K mg "_law_short" (top 98) ["one","world","place","grants"] ["one","world","place","grants","best","slate","keepers","alike"]
 Lg:cR K mg "_law_bell" (top 99) ["one","world","letters"] ["one","world","letters","place","grants","tells","ask","answer","due"]
 Ll:cR K mg "_law_driven" (top 100) ["one","world","letters"] ["one","world","letters","turn"]
 Lf:cR K mg "_law_begun" (top 101) ["one","world","deed"] ["one","world","deed"]
 Ly:cR K mg "_law_tried" (top 102) ["one","world","deed","some"] ["one","world","deed","some","tells","ask","tell"]
 Ln:cR K mg "_law_ghosted" (top 103) ["world","place","cell","seed"] ["world","place","cell","seed","deed","ghost"]
 C3:fM K mg "law" x8 ["script"]
 oU:p2 K mg "Asker" AZ
 VV:∃u,mg "SMALL_LETTERS"=some u/\RelV (.str "abcdefghijklmnopqrstuvwxyz") u
 VU:∃u,mg "MOST_LETTERS"=some u/\RelV (.int 8) u
 Bu:vG P w K mg "DOERS" sZ
 EH:KTab P w K mg "FORMS" uq
 E1:yV K mg "highest" QB
 E':yV K mg "with_cell" QC
 Fb:yV K mg "with_doing" QD
 bm:g8 base mg
 Hr:∃C,p5 K mg "Busy" C
 Hs:∃C,p5 K mg "NoDeed" C
 Ht:∃C,p5 K mg "Over" C
 Hy:∃C,mg "Over"=some (.ref C)/\(∃B,mg "Over"=some (.ref B)/\W.exmOne K (.ref C) (.ref B)=some true)
 B:HF mg
 kt:vJ K
section
variable[aB.a4]{P:akr}{w:World}{K:aP}{mg:ba}{base:Heap}
def Tu:aY:=
  (bA (oS (cV h_ (a7 (J 0) (aK (.ty "int")))) (zo (cV h_ (a7 (J 0) (aK (.ty "bool")))))))
def uz:bx:=fnOf 1 1 Tu
def IP:aY:=
  (bA (ak oEq (ak FY (ak F1 (J 0) (J 1)) (aH 1)) (aH 1)))
def qY:bx:=fnOf 2 2 IP
def E9:aY:=
  (b1 1 (ak uQ (J 1) (ak F0 (aH 1) (J 2))))
def Jz:aY:=
  (bA (J 1))
def Jy:aY:=
  bW (oT 2 (Ew (J 0)) E9) Jz
def Jx:aY:=
  bW (b1 1 (aH 0)) Jy
def uG:bx:=fnOf 1 3 Jx
def I3:aY:=
  (bA (e9 1 [0] (m3 (bE (bM oBits (J 0)))) (aL (bC qY (a7 (J 1) (J 0)))) (J 0)))
def AI:bx:=fnOf 1 1 I3
def IT:aY:=
  (bA (bF (a7 (aX 2 1) (aX 2 2))))
def IS:aY:=
  bW (b9 (aL (ak oEq (aX 2 1) (bF (a7 (aH 0) (aH 0))))) (bA (bF (a7 (aX 2 1) (J 1)))) bZ) IT
def IQ:aY:=
  bW (b1 2 (CO (fnOf 1 1 (bA (aX 0 1))) (J 0))) IS
def AF:bx:=fnOf 2 3 IQ
def IC:aY:=
  (bA (cV rM (bE (e9 1 [0] (jO (J 0)) gD (ak oEq (aX 0 1) (fl (aX 1 0) 1))))))
def xi:bx:=fnOf 1 1 IC
def IM:aY:=
  (bA (bC uG (bE (e9 1 [] (jO (J 0)) gD (aX 0 0)))))
def ph:bx:=fnOf 1 1 IM
def E_(self:bx):aY:=
  (ja 1 ym (bE (bC self (bE (J 2)))))
def JF(self:bx):aY:=
  (zp 1)
def JE(self:bx):aY:=
  bW (oT 2 (ig (aX 0 1)) (E_ self)) (JF self)
def JD(self:bx):aY:=
  bW (jJ 1 (dD cO)) (JE self)
def zh(self:bx):aY:=
  bW (b9 (aL (bC uz (bE (J 0)))) (bA (dD (bE (J 0)))) bZ) (JD self)
def qZ:Nat->bx
 |0=>λ_=>bad
 |n+1=>fnOf 1 3 (zh (qZ n))
def JC:aY:=
  (bA (bC uG (bE (bC (qZ 12) (bE (J 0))))))
def xn:bx:=fnOf 1 1 JC
def IK(self:bx):aY:=
  (bA (ak pB (cV hk (bE (e9 1 [1] (ig (aX 0 1)) (aL (bC self (a7 (J 0) (J 1)))) (J 0)))) (aX 0 0)))
def zd(self:bx):aY:=
  bW (b9 (aL (bC uz (bE (J 0)))) (bA (bC qY (a7 (J 1) (J 0)))) bZ) (IK self)
def kI:Nat->bx
 |0=>λ_=>bad
 |n+1=>fnOf 2 2 (zd (kI n))
def O1:bx:=λ_=>bad
def Xh(T:Txt P w K mg base):eg P w K mg base "is_hall" ["thing"] 1 (eQ K mg O1):=T.UZ.d.none (by rintro vs H Q E ⟨O,ds,r,S,_,_,_,h,_⟩;cases h)
def JA:aY:=
  (bA (ak uQ (bC xn (bE (aX 0 0))) (bC xn (bE (aX 0 1)))))
def AO:bx:=fnOf 1 1 JA
def JB:aY:=
  (bA (bC AI (bE (bC AO (bE (J 0))))))
def m':bx:=fnOf 1 1 JB
def IZ:aY:=
  (bA (cV rM (bE (e9 1 [] (ND (J 0)) gD (ak (sH false) (J 0) (aK (.str "abcdefghijklmnopqrstuvwxyz")))))))
def IY:aY:=
  bW (b9 (ip (ew (aL (cV h_ (a7 (J 0) (aK (.ty "str")))))) (ew (aL (kB oLe oLe (aH 1) (cV wz (bE (J 0))) (aH 8))))) (bA (aK (.az false))) bZ) IZ
def AG:bx:=fnOf 1 1 IY
def I0:aY:=
  (bA (oS (bC uz (bE (J 0))) (ak oLt (cV wx (bE (J 0))) (ak lC (aH 10) (aH 60)))))
def AH:bx:=fnOf 1 1 I0
def O0:bx:=λ_=>bad
def Xg(T:Txt P w K mg base):eg P w K mg base "is_fence" ["thing"] 1 (eQ K mg O0):=T.UY.d.none (by rintro vs H Q E ⟨O,ds,r,S,_,_,_,h,_⟩;cases h)
def IL:aY:=
  (bA (CS uq (J 0)))
def Fx:bx:=fnOf 1 1 IL
def I1:aY:=
  bW (b9 (aL (ak oEq (J 0) (aK (.str "number")))) (bA (bC AH (bE (J 1)))) bZ) (bW (b9 (aL (ak oEq (J 0) (aK (.str "fence")))) (bA (bC O0 (bE (J 1)))) bZ) (bA (bC O1 (bE (J 1)))))
def CD:aY:=
  bW (b9 (aL (ak oEq (J 0) (aK (.str "name")))) (bA (bC AG (bE (J 1)))) bZ) I1
def sx:bx:=fnOf 2 2 CD
def IX:aY:=
  (bA (cV rM (bE (v_ [] (a7 (J 1) (CQ (J 0) (tM (aH 1)) CP)) gD (bC sx (a7 (J 0) (J 1)))))))
def IW:aY:=
  bW (b9 (ip (aL (ak gB (J 1) (aK .ay))) (aL (ak ej (cV hk (bE (J 0))) (ak iI (cV hk (bE (J 1))) (aH 1))))) (bA (aK (.az false))) bZ) IX
def IV:aY:=
  bW (b1 1 (bC Fx (bE (aX 0 0)))) IW
def IU:aY:=
  bW (b9 (ip (ew (aL (cV h_ (a7 (J 0) (aK (.ty "tuple")))))) (ip (aL (ak oEq (cV hk (bE (J 0))) (aH 0))) (ew (aL (cV h_ (a7 (aX 0 0) (aK (.ty "str")))))))) (bA (aK (.az false))) bZ) IV
def pj:bx:=fnOf 1 2 IU
def Tt:aY:=
  (bA (bF (ck (bF cO) (cy (bF cO) (bF (a7 (aH 0) (aK .ay))) (aK .ay)))))
def OS:bx:=fnOf 0 0 Tt
def CH:aY:=
  (bA (aX 0 3))
def pv:bx:=fnOf 1 1 CH
def I2:aY:=
  (bA (ak hq (bC pv (bE (J 0))) (aK .ay)))
def m_:bx:=fnOf 1 1 I2
def Aq:aY:=
  (b9 (aL (ak oEq (aX 2 0) (J 1))) (bA (aX 2 1)) bZ)
def IE:aY:=
  (bA (aH 0))
def ID:aY:=
  bW (oT 2 (ig (aX 0 0)) Aq) IE
def xj:bx:=fnOf 2 3 ID
def JJ:aY:=
  (bA (bF (ck (cV mL (bE (tN jr (fnOf 1 1 (bA (aX 0 0))) (J 3)))) (cy (aX 0 1) (aX 0 2) (aX 0 3)))))
def JI:aY:=
  bW (b9 (aL (ak ej (J 2) (aH 0))) (ja 3 hY (bE (bF (a7 (J 1) (J 2))))) bZ) JJ
def JH:aY:=
  bW (jJ 3 (e9 1 [1] (ig (aX 0 0)) (aL (ak ej (aX 0 0) (J 1))) (J 0))) JI
def xp:bx:=fnOf 3 4 JH
def Ar:aY:=
  (b9 (aL (ak oEq (aX 2 0) (J 1))) (bA (J 2)) bZ)
def IJ:aY:=
  (bA (bF (cy (J 1) (aH 0) (aK .ay))))
def II:aY:=
  bW (oT 2 (ig (aX 0 1)) Ar) IJ
def qX:bx:=fnOf 2 3 II
def JM:aY:=
  (bA (bF (ck (aX 0 0) (cy (cV mL (bE (tN gg (fnOf 1 1 (bA (aX 0 0))) (J 4)))) (aX 0 2) (aX 0 3)))))
def JL:aY:=
  bW (ja 4 hY (bE (bF (cy (J 1) (J 2) (J 3))))) JM
def JK:aY:=
  bW (jJ 4 (e9 1 [1] (ig (aX 0 1)) (aL (ak ej (aX 0 0) (J 1))) (J 0))) JL
def AP:bx:=fnOf 4 5 JK
def JN:aY:=
  (bA (bF (ck (aX 0 0) (cy (aX 0 1) (aX 0 2) (J 1)))))
def AQ:bx:=fnOf 2 2 JN
def JG:aY:=
  (bA (bC AQ (a7 (J 0) (aK .ay))))
def xo:bx:=fnOf 1 1 JG
def IH:aY:=
  (bA (bF (a7 (bC xp (cy (J 0) (aX 2 1) (aX 2 2))) (bC xj (a7 (J 0) (aX 2 1))))))
def xl:bx:=fnOf 3 3 IH
def IG:aY:=
  (bA (bF (a7 (bC xp (cy (J 0) (aX 2 1) (J 3))) (J 3))))
def IF:aY:=
  bW (b1 3 (ak iI (bC xj (a7 (J 0) (aX 2 1))) (aX 2 2))) IG
def xk:bx:=fnOf 3 4 IF
def OY:bx:=λ_=>bad
def MR(T:Txt P w K mg base):eg P w K mg base "do_swap" ["slate","asker","deed"] 1 (eQ K mg OY):=T.UT.d.none (by rintro vs H Q E ⟨O,ds,r,S,_,_,_,h,_⟩;cases h)
def OZ:bx:=λ_=>bad
def MS(T:Txt P w K mg base):eg P w K mg base "do_take" ["slate","asker","deed"] 1 (eQ K mg OZ):=T.UU.d.none (by rintro vs H Q E ⟨O,ds,r,S,_,_,_,h,_⟩;cases h)
def OW:bx:=λ_=>bad
def MP(T:Txt P w K mg base):eg P w K mg base "do_renew" ["slate","asker","deed"] 1 (eQ K mg OW):=T.UR.d.none (by rintro vs H Q E ⟨O,ds,r,S,_,_,_,h,_⟩;cases h)
def OU:bx:=λ_=>bad
def MM(T:Txt P w K mg base):eg P w K mg base "do_free" ["slate","asker","deed"] 1 (eQ K mg OU):=T.UP.d.none (by rintro vs H Q E ⟨O,ds,r,S,_,_,_,h,_⟩;cases h)
def OX:bx:=λ_=>bad
def MQ(T:Txt P w K mg base):eg P w K mg base "do_sure" ["slate","asker","deed"] 1 (eQ K mg OX):=T.US.d.none (by rintro vs H Q E ⟨O,ds,r,S,_,_,_,h,_⟩;cases h)
def OV:bx:=λ_=>bad
def MN(T:Txt P w K mg base):eg P w K mg base "do_move" ["slate","asker","deed"] 1 (eQ K mg OV):=T.UQ.d.none (by rintro vs H Q E ⟨O,ds,r,S,_,_,_,h,_⟩;cases h)
def OT:bx:=λ_=>bad
def ML(T:Txt P w K mg base):eg P w K mg base "do_end" ["slate","asker","deed"] 1 (eQ K mg OT):=T.UO.d.none (by rintro vs H Q E ⟨O,ds,r,S,_,_,_,h,_⟩;cases h)
abbrev wD:List (Str×bx):=[("do_put",xl),("do_add",xk),("do_swap",OY),("do_take",OZ),("do_renew",OW),("do_free",OU),("do_sure",OX),("do_move",OV),("do_end",OT)]
def CG:aY:=
  (bA (CN 3 wD (cy (J 0) (J 1) (J 2))))
def CF:aY:=
  bW (b1 3 (CR sZ (aX 2 0))) CG
def oc:bx:=fnOf 3 4 CF
def CC:aY:=
  (bA (bC AP (ck (aX 4 0) (cy (J 1) (J 2) (aX 4 1)))))
def CB:aY:=
  bW (b1 4 (bC oc (cy (J 0) (J 1) (J 3)))) CC
def CA:aY:=
  bW (b9 (ip (aL (ak gB (J 3) (aK .ay))) (ip (aL (bC m_ (bE (J 0)))) (aL (ak pB (fl (bC qX (a7 (J 0) (J 1))) 1) (J 2))))) (bA (J 0)) bZ) CB
def m9:bx:=fnOf 4 5 CA
def Ts:aY:=
  (bA (bF (ck (aK (.str "ask")) (ck (J 0) (ck (J 1) (cy (J 2) (J 3) (bF cO)))))))
def OR:bx:=fnOf 4 4 Ts
def TM:aY:=
  (bA (bF (ck (aK (.str "tell")) (ck (J 0) (ck (J 1) (cy (J 2) (J 3) (J 4)))))))
def O2:bx:=fnOf 5 5 TM
def Iq:b7:=
  bG (eR "Asker" "me" (J 0) (dI (J 1))) (bG (eR "Asker" "epoch" (J 0) (dI (aH 0))) (bG (eR "Asker" "hall" (J 0) (dI (J 2))) (bG (eR "Asker" "opening" (J 0) (dI (bC OS cO))) (bG (eR "Asker" "over_known" (J 0) (dI (aK (.az false)))) (bG (eR "Asker" "greatest_round" (J 0) (dI (aH 0))) (bG (eR "Asker" "last_stamp" (J 0) (dI (bF (a7 (aH 0) (aH 0))))) (bG (eR "Asker" "wishes" (J 0) (dI (aH 0))) (bG (eR "Asker" "deed" (J 0) (dI (aK .ay))) (bG (eR "Asker" "standing" (J 0) (dI (aK (.str "calm")))) (bG (eR "Asker" "last_outcome" (J 0) (dI (aK .ay))) (bG (eR "Asker" "grants" (J 0) (vp (dI (dD cO)))) (bG (eR "Asker" "kept_mask" (J 0) (dI (aH 0))) (eR "Asker" "told_slate" (J 0) (dI (aK .ay)))))))))))))))
def Ft:d0:=fnX 3 3 Iq
def Td:b7:=
  bG (eR "Asker" "greatest_round" (J 0) (dI (ak iI (bM (cA "Asker" "greatest_round") (J 0)) (aH 1)))) (bG (eR "Asker" "last_stamp" (J 0) (dI (bF (a7 (bM (cA "Asker" "greatest_round") (J 0)) (bM (cA "Asker" "me") (J 0)))))) (bG (eR "Asker" "standing" (J 0) (dI (aK (.str "asking")))) (bG (eR "Asker" "grants" (J 0) (vp (dI (dD cO)))) (b4 (bA (e9 1 [0] (jO (bC m' (bE (bM (cA "Asker" "hall") (J 0))))) gD (bC OR (ck (bM (cA "Asker" "me") (J 1)) (cy (J 0) (bM (cA "Asker" "epoch") (J 1)) (bM (cA "Asker" "last_stamp") (J 1)))))))))))
def xd:d0:=fnX 1 1 Td
def Ir:b7:=
  bG (b4 (b9 (fW (aL (ak hq (J 1) (aK .ay))) (ew (aL (bC pj (bE (J 1)))))) wa bZ)) (bG (b4 (b9 (aL (bM (cA "Asker" "over_known") (J 0))) wa bZ)) (bG (b4 (b9 (aL (ak ej (bM (cA "Asker" "standing") (J 0)) (aK (.str "calm")))) wa bZ)) (bG (eR "Asker" "wishes" (J 0) (dI (ak iI (bM (cA "Asker" "wishes") (J 0)) (aH 1)))) (bG (eR "Asker" "deed" (J 0) (dI (J 1))) (bG (eR "Asker" "last_outcome" (J 0) (dI (aK .ay))) (kV (fY "Asker" "ask_members" xd (J 0) mq)))))))
def Fu:d0:=fnX 2 2 Ir
def Hz:aY:=(vw (fW (aL (ak hq (J 1) (aK .ay))) (ew (aL (bC pj (bE (J 1)))))) "NoDeed" (vw (aL (bM (cA "Asker" "over_known") (J 0))) "Over" (vw (aL (ak ej (bM (cA "Asker" "standing") (J 0)) (aK (.str "calm")))) "Busy" R0)))
def FE:bx:=fnOf 2 2 Hz
def Te:b7:=
  bG (b4 (b9 (aL (ak oEq (bM (cA "Asker" "standing") (J 0)) (aK (.str "calm")))) (bA (dD cO)) bZ)) (kV (fY "Asker" "ask_members" xd (J 0) mq))
def AB:d0:=fnX 1 1 Te
def Ti:aY:=
  bW (b9 (ip (aL (ak ej (aX 1 3) (bM (cA "Asker" "epoch") (J 0)))) (aL (ak ej (aX 1 4) (bM (cA "Asker" "last_stamp") (J 0))))) (bA (aK (.az false))) bZ) (bA (ak (ng false) (aX 1 1) (bC m' (bE (bM (cA "Asker" "hall") (J 0))))))
def AD:bx:=fnOf 2 2 Ti
def IB:aY:=
  bW (b9 (ip (aL (bC m_ (bE (J 1)))) (ew (aL (bC xi (bE (lg (bM (cA "Asker" "grants") (J 0)))))))) (bA (aK (.az false))) bZ) (bA (bC (kI 12) (a7 (fl (bM (cA "Asker" "hall") (J 0)) 1) (bC ph (bE (lg (bM (cA "Asker" "grants") (J 0))))))))
def xh:bx:=fnOf 2 2 IB
def Iv:b7:=
  bG (eR "Asker" "standing" (J 0) (dI (aK (.str "calm")))) (eR "Asker" "last_outcome" (J 0) (dI (J 1)))
def qV:d0:=fnX 2 2 Iv
def Tf:b7:=
  bG (fA (gn (fW (aL (ak gB (bM (cA "Asker" "deed") (J 0)) (aK .ay))) (aL (e1 "Asker" "sees_at_once" xh (J 0) (bE (aX 1 1)))))) (bG (i5 (fY "Asker" "end_wish" qV (J 0) (e5 (bE (bF (a7 (aK (.str "saw")) (bF (cy (bM (cA "Asker" "epoch") (J 0)) (aX 1 0) (aX 1 1)))))))))
  (b4 (bA (dD cO)))) (b4 bZ)) (bG (eR "Asker" "standing" (J 0) (dI (aK (.str "telling")))) (bG (eR "Asker" "kept_mask" (J 0) (dI (aH 0))) (bG (eR "Asker" "told_slate" (J 0) (dI (bC m9 (ck (aX 1 1) (cy (bM (cA "Asker" "me") (J 0)) (bM (cA "Asker" "wishes") (J 0)) (bM (cA "Asker" "deed") (J 0))))))) (bG (b4 (b1 2 (bF (ck (aX 1 0) (cy (bM (cA "Asker" "wishes") (J 0)) (bM (cA "Asker" "deed") (J 0)) (bM (cA "Asker" "told_slate") (J 0))))))) (b4 (bA (e9 1 [0,2] (jO (bC m' (bE (bM (cA "Asker" "hall") (J 0))))) gD (bC O2 (ck (bM (cA "Asker" "me") (J 1)) (ck (J 0) (cy (bM (cA "Asker" "epoch") (J 1)) (bM (cA "Asker" "last_stamp") (J 1)) (J 2))))))))))))
def xe:d0:=fnX 2 3 Tf
def Th:b7:=
  bG (b4 (b9 (aL (bC qY (a7 (bC ph (bE (lg (bM (cA "Asker" "grants") (J 0))))) (aX 1 1)))) (bA (dD cO)) bZ)) (bG (yz hY (bM (cA "Asker" "grants") (J 0)) (bE (bF (cy (aX 1 1) (fl (aX 1 5) 0) (fl (aX 1 5) 1))))) (bG (b4 (b9 (ew (aL (bC (kI 12) (a7 (fl (bM (cA "Asker" "hall") (J 0)) 0) (bC ph (bE (lg (bM (cA "Asker" "grants") (J 0))))))))) (bA (dD cO)) bZ)) (kV (fY "Asker" "go_on" xe (J 0) (e5 (bE (bC AF (a7 (lg (bM (cA "Asker" "grants") (J 0))) (bM (cA "Asker" "opening") (J 0))))))))))
def xf:d0:=fnX 2 2 Th
def Iu:b7:=
  (fA (gn (aL (ak hq (bM (cA "Asker" "deed") (J 0)) (aK .ay)))) (bG (b4 (b1 2 (bC qX (a7 (J 1) (bM (cA "Asker" "me") (J 0))))))
  (fA (gn (aL (ak oEq (aX 2 1) (bM (cA "Asker" "wishes") (J 0))))) (i5 (fY "Asker" "end_wish" qV (J 0) (e5 (bE (bF (a7 (aK (.str "did")) (aX 2 2))))))) (b4 bZ))) (fA (gn (ew (aL (bC m_ (bE (J 1)))))) (i5 (fY "Asker" "end_wish" qV (J 0) (e5 (bE (bF (a7 (aK (.str "saw")) (bF (cy (bM (cA "Asker" "epoch") (J 0)) (bM (cA "Asker" "last_stamp") (J 0)) (J 1))))))))) (fA (gn (aL (ak oEq (bC pv (bE (J 1))) (aK (.str "over"))))) (i5 (fY "Asker" "end_wish" qV (J 0) (e5 (bE (bF (a7 (aK (.str "saw")) (bF (cy (bM (cA "Asker" "epoch") (J 0)) (aK .ay) (J 1))))))))) (b4 bZ))))
def It:b7:=
  bG (b4 (b1 1 (bM (cA "Asker" "told_slate") (J 0)))) Iu
def Fv:d0:=fnX 1 3 It
def Tn:b7:=
  bG (eR "Asker" "over_known" (J 0) (dI (aK (.az true)))) (fA (gn (aL (ak ej (bM (cA "Asker" "standing") (J 0)) (aK (.str "calm"))))) (i5 (fY "Asker" "end_wish" qV (J 0) (e5 (bE (bF (a7 (aK (.str "over")) (aK .ay))))))) (b4 bZ))
def Fw:d0:=fnX 1 1 Tn
def Iy:b7:=
  bG (b4 (b9 (aL (ak oEq (bM (cA "Asker" "standing") (J 0)) (aK (.str "calm")))) (bA (dD cO)) bZ)) (kV (fY "Asker" "ask_members" xd (J 0) mq))
def Iw:b7:=
  bG (eR "Asker" "epoch" (J 0) (dI (ak iI (bM (cA "Asker" "epoch") (J 0)) (aH 1)))) (bG (eR "Asker" "hall" (J 0) (dI (J 1))) (bG (eR "Asker" "opening" (J 0) (dI (bC xo (bE (bM (cA "Asker" "told_slate") (J 0)))))) Iy))
def uy:d0:=fnX 2 2 Iw
def IA:b7:=
  bG (fA (gn (aL (ak oEq (J 2) (aK (.str "over"))))) (bG (i5 (fY "Asker" "learn_over" Fw (J 0) mq))
  (b4 (bA (dD cO)))) (b4 bZ)) (kV (fY "Asker" "go_over" uy (J 0) (e5 (bE (J 2)))))
def Cz:b7:=
  bG (b4 (b9 (aL (ak gB (J 2) (aK .ay))) (bA (dD cO)) bZ)) IA
def Iz:b7:=
  bG (b4 (b9 (ew (aL (bC (kI 12) (a7 (fl (bM (cA "Asker" "hall") (J 0)) 1) (bM (cA "Asker" "kept_mask") (J 0)))))) (bA (dD cO)) bZ)) (bG (i5 (fY "Asker" "end_where_told" Fv (J 0) mq)) (bG (b4 (b1 2 (bC pv (bE (bM (cA "Asker" "told_slate") (J 0)))))) Cz))
def Cy:b7:=
  bG (eR "Asker" "kept_mask" (J 0) (dI (ak uQ (bM (cA "Asker" "kept_mask") (J 0)) (bC uG (bE (dD (bE (aX 1 1)))))))) Iz
def qW:d0:=fnX 2 3 Cy
def Tg:b7:=
  bG (b4 (b9 (aL (ak ej (aX 1 2) (bM (cA "Asker" "me") (J 0)))) (bA (dD cO)) bZ)) (bG (fA (gn (aL (ak oEq (aX 1 0) (aK (.str "late"))))) (bG (eR "Asker" "greatest_round" (J 0) (dI (cV Vy (a7 (bM (cA "Asker" "greatest_round") (J 0)) (fl (fl (aX 1 5) 0) 0)))))
  (b4 (bA (dD cO)))) (b4 bZ)) (bG (b4 (b9 (ew (aL (e1 "Asker" "is_for_now" AD (J 0) (bE (J 1))))) (bA (dD cO)) bZ)) (bG (fA (gn (fW (aL (ak oEq (aX 1 0) (aK (.str "grant")))) (aL (ak oEq (bM (cA "Asker" "standing") (J 0)) (aK (.str "asking")))))) (kV (fY "Asker" "hear_grant" xf (J 0) (e5 (bE (J 1))))) (b4 bZ)) (bG (fA (gn (fW (aL (ak oEq (aX 1 0) (aK (.str "kept")))) (aL (ak oEq (bM (cA "Asker" "standing") (J 0)) (aK (.str "telling")))))) (kV (fY "Asker" "hear_kept" qW (J 0) (e5 (bE (J 1))))) (b4 bZ)) (b4 (bA (dD cO)))))))
def hS:d0:=fnX 2 2 Tg
def To:aY:=
  (bA (bM (cA "Asker" "last_outcome") (J 0)))
def AE:bx:=fnOf 1 1 To
def Tr:aY:=
  (bA (bM (cA "Asker" "standing") (J 0)))
def m8:bx:=fnOf 1 1 Tr
def Tq:aY:=
  (bA (bM (cA "Asker" "last_stamp") (J 0)))
def sv:bx:=fnOf 1 1 Tq
def Tp:aY:=
  (bA (bF (cy (bM (cA "Asker" "epoch") (J 0)) (bM (cA "Asker" "hall") (J 0)) (bM (cA "Asker" "opening") (J 0)))))
def su:bx:=fnOf 1 1 Tp
def Tj:aY:=
  (bA (bM (cA "Asker" "over_known") (J 0)))
def xg:bx:=fnOf 1 1 Tj
def I_:aY:=
  (bA (aH 0))
def I9:aY:=
  bW (b9 (aL (ak oLt (J 1) (cV hk (bE (J 0))))) (bA (ak fy (J 0) (J 1))) bZ) I_
def pk:bx:=fnOf 2 2 I9
def E6(self:bx):aY:=
  (b9 (ew (aL (bC self (a7 (J 2) (J 3))))) (bA (aK (.az false))) bZ)
def TJ(self:bx):aY:=
  (bA (oS (cV h_ (a7 (J 0) (aK (.ty "str")))) (ak oEq (J 0) (J 1))))
def TH(self:bx):aY:=
  bW (b9 (aL (cV h_ (a7 (J 1) (aK (.ty "int"))))) (bA (oS (cV h_ (a7 (J 0) (aK (.ty "int")))) (oS (zo (cV h_ (a7 (J 0) (aK (.ty "bool"))))) (ak oEq (J 0) (J 1))))) bZ) (TJ self)
def TG(self:bx):aY:=
  bW (b9 (aL (cV h_ (a7 (J 1) (aK (.ty "bool"))))) (bA (oS (cV h_ (a7 (J 0) (aK (.ty "bool")))) (ak oEq (J 0) (J 1)))) bZ) (TH self)
def TF(self:bx):aY:=
  bW (b9 (aL (ak gB (J 1) (aK .ay))) (bA (ak gB (J 0) (aK .ay))) bZ) (TG self)
def Jt(self:bx):aY:=
  bW (b9 (aL (cV wy (a7 (J 1) (bF (a7 (aK (.ty "tuple")) (aK (.ty "list"))))))) (bW (b9 (ip (ew (aL (cV wy (a7 (J 0) (bF (a7 (aK (.ty "tuple")) (aK (.ty "list")))))))) (aL (ak ej (cV h_ (a7 (J 0) (aK (.ty "tuple")))) (cV h_ (a7 (J 1) (aK (.ty "tuple"))))))) (bA (aK (.az false))) bZ)
  (bW (b9 (aL (ak ej (cV hk (bE (J 0))) (cV hk (bE (J 1))))) (bA (aK (.az false))) bZ)
  (bW (tL [2,3] (a7 (J 0) (J 1)) (E6 self))
  (bA (aK (.az true)))))) bZ) (TF self)
def ih:Nat->bx
 |0=>λ_=>bad
 |n+1=>fnOf 2 4 (Jt (ih n))
def Jw(self:bx):aY:=
  (bA (bF (a7 (aX 0 0) (cV mL (bE (e9 1 [1] (ig (aX 0 1)) gD (bC self (a7 (J 0) (J 1)))))))))
def zg(self:bx):aY:=
  bW (b9 (ew (aL (cV h_ (a7 (J 0) (aK (.ty "tuple")))))) (bA (ak oMod (ak iI (J 0) (J 1)) (aH 6))) bZ) (Jw self)
def pq:Nat->bx
 |0=>λ_=>bad
 |n+1=>fnOf 2 2 (zg (pq n))
def Jh:aY:=
  (bA (bF (a7 (bC (pq 6) (a7 (J 5) (ak oMod (ak fG (J 0) (aH 10)) (aH 6)))) (bC (pq 6) (a7 (J 6) (ak oMod (ak fG (J 0) (aH 10)) (aH 6)))))))
def ze:aY:=
  bW (mG [5,6] (ak fy (J 4) (ak oMod (J 0) (aH 10)))) Jh
def Jg:aY:=
  bW (b1 1 (bF (a7 (aH 2) (bF (cy (aH 0) (aH 1) (aH 2)))))) (bW (b1 2 (bF (a7 (aH 1) (bF (a7 (bF (a7 (aH 2) (bF (a7 (aH 0) (aH 1))))) (bF (a7 (aH 2) (bF (a7 (aH 2) (aH 3)))))))))) (bW (b1 3 (bF (a7 (aH 2) (bF (a7 (bF (a7 (aH 1) (bF (a7 (aH 0) (aH 1))))) (bF (a7 (aH 1) (bF (a7 (aH 2) (aH 3)))))))))) (bW (b1 4 (dD (ck (bF (a7 (J 1) (J 1))) (cy (bF (a7 (aH 0) (aH 0))) (bF (a7 (bF (a7 (aH 1) (bF (cy (aH 0) (aH 1) (aH 2))))) (bF (a7 (aH 3) (bF (cy (aH 0) (aH 1) (aH 2))))))) (bF (a7 (bF (a7 (aH 3) (bF (cy (aH 0) (aH 1) (aH 2))))) (bF (a7 (aH 1) (bF (cy (aH 0) (aH 1) (aH 2))))))))))) (bW (b1 4 (ak iZ (J 4) (dD (cy (bF (a7 (J 2) (J 3))) (bF (a7 (J 3) (J 2))) (bF (a7 (bF (a7 (aH 3) (bF (ck (aH 0) (ck (aH 1) (cy (aH 2) (aH 3) (aH 4))))))) (bF (a7 (aH 3) (bF (ck (aH 4) (ck (aH 3) (cy (aH 2) (aH 1) (aH 0))))))))))))) (bW (b1 4 (ak iZ (J 4) (dD (a7 (bF (a7 (bF (a7 (aH 2) (bF (ck (aH 0) (cy (aH 0) (aH 1) (aH 2)))))) (bF (a7 (aH 3) (bF (ck (aH 0) (cy (aH 0) (aH 1) (aH 2)))))))) (bF (a7 (bF (a7 (aH 2) (bF (a7 (aH 0) (aH 1))))) (bF (a7 (aH 1) (bF (a7 (aH 0) (aH 1))))))))))) (bW (b1 4 (ak iZ (J 4) (dD (bE (bF (a7 (bF (a7 (aH 2) (bF (a7 (aH 0) (bF (a7 (aH 1) (bF (a7 (aH 1) (aH 2))))))))) (bF (a7 (aH 1) (bF (a7 (aH 0) (bF (a7 (aH 2) (bF (a7 (aH 1) (aH 2))))))))))))))) ze))))))
def sA:bx:=fnOf 1 7 Jg
def E5(self:bx):aY:=
  (b1 1 (ak iZ (J 1) (bC self (bE (J 2)))))
def Jr(self:bx):aY:=
  (bA (J 1))
def Jq(self:bx):aY:=
  bW (oT 2 (ig (aX 0 1)) (E5 self)) (Jr self)
def Jp(self:bx):aY:=
  bW (b1 1 (dD cO)) (Jq self)
def zf(self:bx):aY:=
  bW (b9 (ew (aL (cV h_ (a7 (J 0) (aK (.ty "tuple")))))) (bA (dD (bE (J 0)))) bZ) (Jp self)
def pn:Nat->bx
 |0=>λ_=>bad
 |n+1=>fnOf 1 3 (zf (pn n))
def Jj:aY:=
  (bA (e9 1 [1] (m3 (bE (aH 6))) (aL (ak (ng false) (J 0) (J 1))) (J 0)))
def Ji:aY:=
  bW (b1 1 (ak iZ (bC (pn 6) (bE (aX 0 0))) (bC (pn 6) (bE (aX 0 1))))) Jj
def uD:bx:=fnOf 1 2 Ji
def Tz(self:bx):aY:=
  (bA (ak pB (cV hk (bE (e9 1 [1] (ig (aX 0 1)) (aL (bC self (a7 (J 0) (J 1)))) (J 0)))) (aX 0 0)))
def Jd(self:bx):aY:=
  bW (b9 (ew (aL (cV h_ (a7 (J 0) (aK (.ty "tuple")))))) (bA (ak (ng false) (J 0) (J 1))) bZ) (Tz self)
def kj:Nat->bx
 |0=>λ_=>bad
 |n+1=>fnOf 2 2 (Jd (kj n))
def As:aY:=
  (b9 (aL (ak oEq (J 4) (J 2))) (b1 3 (ak uR (J 3) (ak fy (aK (.str "abcdefghijklmnopqrstuvwxyz")) (ak oMod (ak fG (J 0) (aH 64)) (aH 26))))) (b1 3 (ak uR (J 3) (aK (.str "m")))))
def Jo:aY:=
  (bA (J 3))
def Jn:aY:=
  bW (oT 4 (m3 (bE (J 1))) As) Jo
def Jm:aY:=
  bW (b1 3 (aK (.str ""))) Jn
def Jl:aY:=
  bW (b1 2 (ak oMod (ak fG (J 0) (aH 8)) (J 1))) Jm
def Jk:aY:=
  bW (b1 1 (ak iI (aH 1) (ak oMod (J 0) (aH 8)))) Jl
def uE:bx:=fnOf 1 5 Jk
def Ja:aY:=
  (bA (bF (cy (ak fy (dD (cy (aK (.str "put")) (aK (.str "add")) (aK (.str "add")))) (ak oMod (J 0) (aH 3))) (bC uE (bE (ak iI (J 1) (ak xE (aH 64) (ak oMod (ak fG (J 0) (aH 6)) (aH 3)))))) (J 2))))
def I':aY:=
  bW (b9 (aL (ak oEq (ak oMod (J 0) (aH 5)) (aH 0))) (b1 2 (ak F3 (aH 0) (J 2))) bZ) Ja
def Tx:aY:=
  bW (b1 2 (ak oMod (ak fG (J 0) (aH 6)) (ak lC (aH 10) (aH 40)))) I'
def sz:bx:=fnOf 2 3 Tx
def Jc:aY:=
  bW (b1 5 (cV mL (bE (cV (nV gg) (bE (ak iZ (e9 1 [1] (ig (J 5)) (aL (ak ej (aX 0 0) (J 1))) (J 0)) (dD (bE (bF (cy (J 1) (J 2) (J 9))))))))))) (bA (bF (ck (J 4) (cy (J 5) (J 6) (J 7)))))
def Jb:aY:=
  bW (mG [4,5,6,7] (J 0)) (bW (b1 8 (e9 1 [1,2] (ig (J 5)) (fW (aL (ak oEq (aX 0 0) (J 1))) (aL (ak pB (aX 0 1) (J 2)))) (J 0))) (bW (b9 (ip (aL (ak gB (J 3) (aK .ay))) (ip (aL (ak hq (J 7) (aK .ay))) (aL (ak pC (cV hk (bE (J 8))) (aH 0))))) (bA (J 0)) bZ) (bW (b1 9 (aH 1)) (bW (b9 (aL (ak oEq (aX 3 0) (aK (.str "move")))) (b1 7 (aX 3 1)) (b9 (aL (ak oEq (aX 3 0) (aK (.str "end")))) (b1 7 (aK (.str "over"))) (bW (b1 10 (cV rN (bE (tK [3] (ig (J 4)) (aL (ak oEq (J 0) (aX 2 1))) (J 1)))))
  (bW (b1 11 (aX 3 2))
  (bW (b1 9 (J 10))
  (bW (b9 (aL (ak oEq (aX 3 0) (aK (.str "add")))) (bW (b1 11 (ak iI (J 10) (aX 3 2)))
  (b1 9 (J 11))) bZ)
  (bW (jJ 12 (e9 1 [3] (ig (J 4)) (aL (ak ej (aX 0 0) (aX 1 1))) (J 0)))
  (bW (b9 (aL (ak ej (J 11) (aH 0))) (ja 12 hY (bE (bF (a7 (aX 3 1) (J 11))))) bZ)
  (b1 4 (cV mL (bE (cV (nV jr) (bE (J 12)))))))))))))) Jc))))
def uB:bx:=fnOf 4 13 Jb
def TC:aY:=
  (bA (zr (J 0) (a7 (J 1) (J 2)) (bF (cy (bF (a7 (aH 0) (aH 0))) (bF (a7 (aH 0) (aH 0))) (aK .ay)))))
def uF:bx:=fnOf 3 3 TC
def TB:b7:=
  bG (b4 (mG [2,3,4,5,6,7] (J 1))) (bG (b4 (mG [8,9,10] (bC uF (cy (J 0) (J 4) (J 5))))) (bG (fA (gn (fW (aL (ak oEq (J 2) (aK (.str "ask")))) (aL (ak (pA l9) (J 6) (J 8))))) (bG (yx (J 0) (a7 (J 4) (J 5)) (dI (bF (cy (J 6) (J 9) (J 10)))))
  (b4 (bA (bF (ck (aK (.str "grant")) (ck (J 4) (ck (J 3) (cy (J 5) (J 6) (bF (a7 (J 9) (J 10))))))))))) (b4 bZ)) (bG (fA (gn (fW (aL (ak oEq (J 2) (aK (.str "tell")))) (aL (ak (pA uv) (J 6) (J 8))))) (bG (yx (J 0) (a7 (J 4) (J 5)) (dI (bF (cy (J 6) (J 6) (aX 7 3)))))
  (b4 (bA (bF (ck (aK (.str "kept")) (ck (J 4) (ck (J 3) (cy (J 5) (J 6) (bF cO))))))))) (b4 bZ)) (b4 (bA (bF (ck (aK (.str "late")) (ck (J 4) (ck (J 3) (cy (J 5) (J 6) (bF (bE (J 8)))))))))))))
def kJ:d0:=fnX 2 11 TB
def Tw:aY:=
  (bA (e9 1 [0,1,2] (jO (bC uD (bE (aX 1 1)))) gD (bF (ck (aK (.str "ask")) (ck (J 1) (ck (J 0) (cy (aX 2 0) (J 3) (bF cO))))))))
def uA:bx:=fnOf 3 3 Tw
def E4:aY:=
  (b9 (aL (ak (pA l9) (J 5) (J 2))) (bW (b1 2 (J 5))
  (b1 3 (J 6))) bZ)
def I8:aY:=
  bW (b1 2 (bF (a7 (aH 0) (aH 0)))) (bW (b1 3 (J 1)) (bW (zm [4,5,6] (Ew (J 0)) E4) (bA (bF (a7 (J 2) (J 3))))))
def xm:bx:=fnOf 2 7 I8
def Ju:aY:=
  bW (mG [6,7] (bC xm (a7 (J 5) (aX 1 2)))) (bW (b1 8 (bF (ck (J 6) (cy (J 3) (J 4) (bC uB (ck (J 7) (cy (J 0) (J 3) (J 4)))))))) (bA (e9 1 [0,1,2,8] (jO (bC uD (bE (aX 1 1)))) gD (bF (ck (aK (.str "tell")) (ck (J 1) (ck (J 0) (cy (aX 2 0) (J 3) (J 4)))))))))
def AM:bx:=fnOf 6 9 Ju
def Oo:b7:=
  (fA (gn (aL (ak oEq (ak oMod (ak fG (J 8) (ak fy (dD (ck (aH 1) (ck (aH 2) (ck (aH 4) (cy (aH 8) (aH 16) (aH 32)))))) (aX 11 2))) (aH 2)) (aH 1)))) (bG (jz 12 (ir kJ (e5 (a7 (J 0) (J 11)))))
  (b4 (ja 10 hY (bE (bF (cy (aX 11 2) (fl (aX 12 5) 0) (fl (aX 12 5) 1))))))) (b4 bZ))
def Oq:b7:=
  (fA (gn (aL (ak oEq (ak oMod (ak fG (J 9) (ak fy (dD (ck (aH 1) (ck (aH 2) (ck (aH 4) (cy (aH 8) (aH 16) (aH 32)))))) (aX 13 2))) (aH 2)) (aH 1)))) (i5 (ir kJ (e5 (a7 (J 0) (J 13))))) (b4 bZ))
def Jf:b7:=
  (fA (gn (aL (bC (kj 6) (a7 (fl (aX 1 1) 0) (e9 1 [] (jO (J 10)) gD (aX 0 0)))))) (nB 13 (qG (bC AM (ck (J 2) (ck (J 1) (ck (bF (a7 (J 7) (J 2))) (cy (J 3) (J 4) (J 10))))))) Oq) (b4 bZ))
def Je:b7:=
  bG (b4 (b1 6 (bC uD (bE (aX 1 1))))) (bG (b4 (b1 7 (ak iI (aH 1) (cV wA (bE (e9 1 [0,1] (jO (J 6)) gD (fl (fl (bC uF (cy (J 1) (J 0) (aX 2 0))) 0) 0))))))) (bG (b4 (b1 8 (ak fy (dD (cy (aH 63) (aH 63) (ak oMod (ak fG (J 5) (aH 6)) (aH 64)))) (ak oMod (J 5) (aH 3))))) (bG (b4 (b1 9 (ak fy (dD (a7 (aH 63) (ak oMod (ak fG (J 5) (aH 384)) (aH 64)))) (ak oMod (ak fG (J 5) (aH 3)) (aH 2))))) (bG (b4 (jJ 10 (dD cO))) (bG (nB 11 (qG (bC uA (cy (J 2) (J 1) (bF (a7 (J 7) (J 2)))))) Oo) Jf)))))
def AL:d0:=fnX 6 14 Je
def Js:aY:=
  bW (b1 2 (aK (.str ""))) (bW (zt (e1 "Asker" "begin" FE (J 0) (bE (J 1))) [("Over",(b1 2 (aK (.str "over"))))]) (bA (ak oEq (J 2) (aK (.str "over")))))
def FA:bx:=fnOf 2 3 Js
def Tv:aY:=
  bW (mG [6,7,8] (J 2)) (bW (b1 9 (aX 4 3)) (bW (b1 10 (e9 1 [1] (ig (aX 4 1)) (fW (aL (ak oEq (aX 0 0) (ak fJ (J 1) (aK (.str "me"))))) (aL (ak oEq (aX 0 1) (ak fJ (J 1) (aK (.str "number")))))) (J 0))) (bW (b1 11 (aK .ay)) (bW (b9 (fW (aL (ak hq (ak fJ (J 1) (aK (.str "deed"))) (aK .ay))) (aL (ak pC (cV hk (bE (J 10))) (aH 0)))) (b1 11 (bF (a7 (aK (.str "did")) (fl (aX 10 0) 2)))) (b9 (fW (aL (ak gB (ak fJ (J 1) (aK (.str "deed"))) (aK .ay))) (aL (ak gB (J 9) (aK .ay)))) (b1 11 (bF (a7 (aK (.str "saw")) (bF (cy (J 6) (J 3) (J 4)))))) (b9 (fW (aL (ak gB (ak fJ (J 1) (aK (.str "deed"))) (aK .ay))) (aL (ak oEq (J 9) (aK (.str "over"))))) (b1 11 (bF (a7 (aK (.str "saw")) (bF (cy (J 6) (aK .ay) (J 4)))))) (b9 (aL (ak oEq (J 9) (aK (.str "over")))) (b1 11 (bF (a7 (aK (.str "over")) (aK .ay)))) bZ)))) (bW (b9 (fW (aL (ak hq (J 9) (aK .ay))) (aL (ak ej (J 9) (aK (.str "over"))))) (b1 2 (bF (cy (ak iI (J 6) (aH 1)) (J 9) (bF (ck (aX 4 0) (cy (aX 4 1) (aX 4 2) (aK .ay))))))) bZ) (bW (b1 12 (dD cO)) (bW (b9 (aL (ak gB (J 11) (aK .ay))) (bW (b1 12 (bC uA (cy (ak fJ (J 1) (aK (.str "me"))) (J 2) (e1 "Asker" "stamp" sv (J 0) cO))))
  (b9 (aL (ak oLe (fl (e1 "Asker" "stamp" sv (J 0) cO) 0) (aX 3 0))) (bA (aK (.az false))) bZ)) bZ) (bW (b1 13 (ak fy (dD (a7 (aK (.str "calm")) (aK (.str "asking")))) (cV t2 (bE (ak gB (J 11) (aK .ay)))))) (bW (b1 14 (dD (ck (e1 "Asker" "outcome" AE (J 0) cO) (ck (e1 "Asker" "stand" m8 (J 0) cO) (cy (e1 "Asker" "place" su (J 0) cO) (e1 "Asker" "knows_over" xg (J 0) cO) (J 5)))))) (bA (bC (ih 14) (a7 (J 14) (dD (ck (J 11) (ck (J 13) (cy (J 2) (ak oEq (J 9) (aK (.str "over"))) (J 12)))))))))))))))))
def AJ:bx:=nZ 6 15 Tv
def Au:b7:=
  (bG (jz 7 (ir kJ (e5 (a7 (ak fJ (J 1) (aK (.str "books"))) (J 6)))))
  (bG (b4 (b1 8 (bC (kj 6) (a7 (fl (aX 3 1) 1) (J 4)))))
  (bG (b4 (b9 (aL (ak oEq (aX 7 0) (aK (.str "kept")))) (ja 4 hY (bE (aX 7 1))) bZ))
  (bG (jz 9 (fY "Asker" "hear" hS (J 0) (e5 (bE (J 7)))))
  (b4 (b9 (fW (ew (aL (J 8))) (aL (bC (kj 6) (a7 (fl (aX 3 1) 1) (J 4))))) (bW (b1 5 (J 9))
  (b9 (ew (aL (v9 AJ (ck (J 0) (ck (J 1) (ck (J 3) (cy (aX 6 4) (fl (aX 6 5) 3) (J 9)))))))) (bA (aK .ay)) bZ)) (b9 (ew (aL (bC (ih 14) (a7 (J 9) (dD cO))))) (bA (aK .ay)) bZ)))))))
def TL:b7:=
  bG (b4 (b1 3 (e1 "Asker" "place" su (J 0) cO))) (bG (b4 (jJ 4 (dD cO))) (bG (b4 (b1 5 (dD cO))) (bG (nB 6 (Ae 2) Au) (b4 (bA (J 5))))))
def FD:d0:=fnX 3 10 TL
def TK:aY:=
  bW (mG [4,5] (bC xm (a7 (J 3) (aX 2 2)))) (bW (b1 6 (e9 1 [] (jO (J 3)) gD (aX 0 0))) (bW (b1 7 (ak oEq (cV hk (bE (e9 1 [4] (jO (J 3)) (aL (ak ej (aX 0 1) (J 1))) (J 0)))) (aH 0))) (bW (b9 (ip (aL (ak hq (ak fJ (J 1) (aK (.str "deed"))) (aK .ay))) (ip (aL (ak hq (aX 5 3) (aK .ay))) (ew (aL (J 7))))) (bA (aK (.az false))) bZ) (bW (b9 (ip (ew (aL (bC (kj 6) (a7 (fl (aX 2 1) 0) (J 6))))) (ew (aL (bC (kj 6) (a7 (fl (aX 2 1) 1) (J 6)))))) (bA (aK (.az false))) bZ) (bA (bC (ih 14) (a7 (dD (a7 (e1 "Asker" "outcome" AE (J 0) cO) (e1 "Asker" "place" su (J 0) cO))) (dD (a7 (bF (a7 (aK (.str "saw")) (bF (cy (aX 2 0) (J 4) (J 5))))) (J 2))))))))))
def FC:bx:=fnOf 4 8 TK
def E3:b7:=
  (bG (jz 7 (ir kJ (e5 (a7 (ak fJ (J 1) (aK (.str "books"))) (J 6)))))
  (bG (b4 (b9 (fW (aL (ak oEq (aX 7 0) (aK (.str "grant")))) (aL (ak oEq (e1 "Asker" "stand" m8 (J 0) cO) (aK (.str "asking"))))) (ja 4 hY (bE (bF (cy (aX 7 1) (fl (aX 7 5) 0) (fl (aX 7 5) 1))))) bZ))
  (jz 5 (rl iZ (dI (J 5)) (fY "Asker" "hear" hS (J 0) (e5 (bE (J 7))))))))
def I7:b7:=
  bG (b4 (b9 (aL (ak oEq (e1 "Asker" "stand" m8 (J 0) cO) (aK (.str "calm")))) (bW (b9 (fW (aL (bC FC (ck (J 0) (cy (J 1) (J 3) (J 4))))) (aL (ak oEq (cV hk (bE (J 5))) (aH 0)))) (bA (dD cO)) bZ)
  (bA (aK .ay))) bZ)) (bG (b4 (b9 (aL (ak oEq (cV hk (bE (J 5))) (aH 0))) (bA (dD cO)) bZ)) (bG (b4 (b1 8 (bC AM (ck (ak fJ (J 1) (aK (.str "me"))) (ck (J 3) (ck (e1 "Asker" "stamp" sv (J 0) cO) (cy (ak fJ (J 1) (aK (.str "number"))) (ak fJ (J 1) (aK (.str "deed"))) (J 4)))))))) (bG (b4 (b9 (ew (aL (bC (ih 14) (a7 (J 5) (J 8))))) (bA (aK .ay)) bZ)) (kV (ir FD (e5 (cy (J 0) (J 1) (J 5))))))))
def I6:b7:=
  bG (b4 (b1 3 (e1 "Asker" "place" su (J 0) cO))) (bG (b4 (b9 (ew (aL (bC (ih 14) (a7 (J 2) (bC uA (cy (ak fJ (J 1) (aK (.str "me"))) (J 3) (e1 "Asker" "stamp" sv (J 0) cO))))))) (bA (aK .ay)) bZ)) (bG (b4 (jJ 4 (dD cO))) (bG (b4 (b1 5 (dD cO))) (bG (nB 6 (Ae 2) E3) I7))))
def sy:d0:=fnX 3 9 I6
def w_:b7:=
  (bG (fA (gn (aL (ak oEq (cV hk (bE (J 2))) (aH 0)))) (jz 2 (fY "Asker" "bell" AB (J 0) mq)) (b4 bZ))
  (bG (jz 2 (ir sy (e5 (cy (J 0) (J 1) (J 2)))))
  (bG (b4 (b9 (aL (ak gB (J 2) (aK .ay))) (bA (aK (.az false))) bZ))
  (b4 (b9 (aL (ak oEq (e1 "Asker" "stand" m8 (J 0) cO) (aK (.str "calm")))) (bA (aK (.az true))) bZ)))))
def CE:b7:=
  bG (nB 3 (m3 (bE (aH 8))) w_) (b4 (bA (aK (.az false))))
def uC:d0:=nY 3 4 CE
def I5:b7:=
  bG (vo (J 1) (aK (.str "number")) (dI (ak iI (ak fJ (J 1) (aK (.str "number"))) (aH 1)))) (bG (vo (J 1) (aK (.str "deed")) (dI (J 2))) (kV (fY "Asker" "begin" Fu (J 0) (e5 (bE (J 2))))))
def AK:d0:=fnX 3 3 I5
def E7:b7:=
  (jz 4 (rl iZ (dI (J 4)) (fY "Asker" "hear" hS (J 0) (BK (ir kJ (e5 (a7 (ak fJ (J 1) (aK (.str "books"))) (J 5)))) cO))))
def E8:b7:=
  (fA (gn (aL (ak oEq (ak oMod (ak fG (J 3) (ak fy (dD (ck (aH 1) (ck (aH 2) (ck (aH 4) (cy (aH 8) (aH 16) (aH 32)))))) (aX 6 2))) (aH 2)) (aH 1)))) (i5 (ir kJ (e5 (a7 (ak fJ (J 1) (aK (.str "books"))) (J 6))))) (b4 bZ))
def Jv:b7:=
  bG (b4 (b1 4 (dD cO))) (bG (BM 5 (Ad (ir AK (e5 (cy (J 0) (J 1) (J 2))))) E7) (nB 6 (qG (J 4)) E8))
def AN:d0:=fnX 4 7 Jv
def TA:b7:=
  bG (b4 (b1 4 (bC sz (a7 (ak oMod (ak fG (J 2) (aH 30)) (ak lC (aH 10) (aH 45))) (J 3))))) (bG (b4 (b9 (aL (ak oEq (ak oMod (J 2) (aH 4)) (aH 1))) (b1 4 (bF (a7 (aK (.str "move")) (bC sA (bE (ak oMod (ak fG (J 2) (aH 30)) (aH 60))))))) bZ)) (bG (b4 (b9 (aL (ak oEq (ak oMod (J 2) (aH 8)) (aH 3))) (b1 4 (bF (bE (aK (.str "end"))))) bZ)) (bG (vo (J 0) (aK (.str "turn")) (dI (ak iI (ak fJ (J 0) (aK (.str "turn"))) (aH 1)))) (bG (b4 (b1 5 (ak oMod (ak iI (ak iI (ak fJ (J 0) (aK (.str "me"))) (aH 1)) (ak oMod (ak fG (J 2) (aH 8)) (aH 5))) (aH 6)))) (i5 (ir AL (e5 (ck (ak fJ (J 0) (aK (.str "books"))) (ck (J 1) (ck (J 5) (cy (ak fJ (J 0) (aK (.str "turn"))) (J 4) (ak fG (J 2) (aH 40)))))))))))))
def Fz:d0:=fnX 4 6 TA
def E2:b7:=
  (bG (b4 (b1 6 (aK .ay)))
  (bG (b4 (b9 (aL (ak pC (ak oMod (J 5) (aH 4)) (aH 0))) (b1 6 (bC sz (a7 (ak oMod (ak fG (J 5) (aH 12)) (ak lC (aH 10) (aH 45))) (J 2)))) bZ))
  (fA (gn (aL (e1 "Asker" "knows_over" xg (J 3) cO))) (b4 (b9 (ew (aL (bC FA (a7 (J 3) (J 6))))) (bA (aK (.az false))) bZ)) (bG (fA (gn (aL (ak oEq (ak oMod (ak fG (J 5) (aH 4)) (aH 3)) (aH 0)))) (i5 (ir AN (e5 (ck (J 3) (cy (J 4) (J 6) (ak oMod (ak fG (J 5) (aH 12)) (aH 64))))))) (b4 bZ))
  (bG (i5 (ir Fz (e5 (ck (J 4) (cy (e1 "Asker" "place" su (J 3) cO) (ak oMod (ak fG (J 5) (aH 12)) (ak lC (aH 10) (aH 60))) (J 2))))))
  (bG (b4 (b1 7 (dD cO)))
  (bG (fA (gn (aL (ak oEq (e1 "Asker" "stand" m8 (J 3) cO) (aK (.str "calm"))))) (jz 7 (ir AK (e5 (cy (J 3) (J 4) (J 6))))) (b4 bZ))
  (fA (yC (yD (yv uC (e5 (cy (J 3) (J 4) (J 7)))))) (b4 (bA (aK (.az false)))) (b4 bZ)))))))))
def I4:b7:=
  bG (b4 (b1 1 (ak oMod (bC pk (a7 (J 0) (aH 1))) (aH 6)))) (bG (b4 (b1 2 (ak oMod (bC pk (a7 (J 0) (aH 2))) (aH 512)))) (bG (jz 3 (yy "Asker" Ft (e5 (a7 (J 1) (bC sA (bE (ak oMod (bC pk (a7 (J 0) (aH 0))) (aH 600)))))))) (bG (jz 4 (BL [.inr "me",.inr "books",.inr "number",.inr "turn",.inr "deed"] (nA (dI (J 1)) (nA (yw (.fR [])) (nA (dI (aH 0)) (nA (dI (aH 0)) (nA (dI (aK .ay)) mq))))))) (bG (nB 5 (qG (zq (J 0) (tM (aH 3)) (tM (aH 15)))) E2) (b4 (bA (aK (.az true))))))))
def Fy:d0:=fnX 1 8 I4
structure Sl{P:akr}{w:World}{K:aP}{mg:ba}{base:Heap}(T:Txt P w K mg base)(j:Nat):Prop where
 Xm:ed P w base T.Lb j 1 uz
 Xd:ed P w base T.K6 j 1 qY
 XO:ed P w base T.Lz j 1 uG
 Xn:ed P w base T.Lc j 2 AI
 Xe:ed P w base T.K7 j 4 AF
 W6:ed P w base T.KW j 1 xi
 Xc:ed P w base T.K5 j 2 ph
 XS:∀n,n+2<=j->eg P w K mg base "namings" ["rule"] (n+2) (eQ K mg (qZ n))
 XR:ed P w base T.LC j 15 xn
 Xa:∀n,n+2<=j->eg P w K mg base "fills" ["rule","mask"] (n+2) (eQ K mg (kI n))
 XP:ed P w base T.LA j 16 AO
 XQ:ed P w base T.LB j 17 m'
 Xi:ed P w base T.K9 j 1 AG
 Xj:ed P w base T.K_ j 2 AH
 Xb:ed P w base T.K4 j 1 Fx
 Xk:ed P w base T.K' j 3 sx
 Xf:ed P w base T.K8 j 4 pj
 W8:ed P w base T.KY j 1 OS
 XY:ed P w base T.LG j 1 pv
 Xl:ed P w base T.La j 2 m_
 W9:ed P w base T.KZ j 1 xj
 X0:ed P w base T.LI j 4 xp
 W_:ed P w base T.K2 j 1 qX
 X1:ed P w base T.LJ j 4 AP
 X2:ed P w base T.LK j 1 AQ
 XW:ed P w base T.LD j 2 xo
 MO:ed P w base T.K1 j 5 xl
 MK:ed P w base T.K0 j 5 xk
 XX:ed P w base T.LF j 6 oc
 W':ed P w base T.K3 j 7 m9
 W7:ed P w base T.KX j 1 OR
 XZ:ed P w base T.LH j 1 O2
 WL:lR P w base T.Ky j 2 Ft
 WM:lR P w base T.Kz j 18 xd
 X3:19<=j->yO P w K mg base "Asker" "begin" ["self","deed"] 19 (vb K mg FE)
 WN:HS P w base T.zz j 19 Fu
 WO:lR P w base T.KA j 19 AB
 WX:p8 P w base T.KN j 18 AD
 W3:p8 P w base T.KS j 15 xh
 WR:lR P w base T.KD j 1 qV
 WS:lR P w base T.KG j 18 xe
 WV:lR P w base T.KJ j 19 xf
 WQ:lR P w base T.KC j 3 Fv
 WZ:lR P w base T.KP j 2 Fw
 WT:lR P w base T.KH j 19 uy
 WW:lR P w base T.KL j 20 qW
 WU:lR P w base T.KI j 21 hS
 W0:p8 P w base T.KQ j 1 AE
 W5:p8 P w base T.KV j 1 m8
 W4:p8 P w base T.KU j 1 sv
 W2:p8 P w base T.KR j 1 su
 WY:p8 P w base T.KO j 1 xg
 Xt:ed P w base T.Li j 1 pk
 XH:∀n,n+1<=j->eg P w K mg base "_law_same" ["found","due"] (n+1) (eQ K mg (ih n))
 XN:∀n,n+1<=j->eg P w K mg base "_law_turned" ["rule","shift"] (n+1) (eQ K mg (pq n))
 XA:ed P w base T.Lo j 8 sA
 XE:∀n,n+1<=j->eg P w K mg base "_law_named" ["rule"] (n+1) (eQ K mg (pn n))
 XC:ed P w base T.Lq j 8 uD
 Xx:∀n,n+1<=j->eg P w K mg base "_law_filled" ["rule","keepers"] (n+1) (eQ K mg (kj n))
 XD:ed P w base T.Lr j 1 uE
 Xu:ed P w base T.Lj j 2 sz
 Xv:ed P w base T.Lk j 1 uB
 XF:ed P w base T.Ls j 1 uF
 XB:p7 P w base T.Lp j 2 kJ
 Xp:ed P w base T.Le j 9 uA
 Xs:ed P w base T.Lh j 1 xm
 XJ:ed P w base T.Lw j 9 AM
 Xy:p7 P w base T.Lm j 10 AL
 XG:ed P w base T.Lu j 20 FA
 Xo:HR P w base T.Ld j 16 AJ
 XK:p7 P w base T.Lx j 22 FD
 XI:ed P w base T.Lv j 16 FC
 Xr:p7 P w base T.Lg j 23 sy
 Xw:HQ P w base T.Ll j 24 uC
 Xq:p7 P w base T.Lf j 20 AK
 XM:p7 P w base T.Ly j 22 AN
 Xz:p7 P w base T.Ln j 11 Fz
 F' {f:Addr}{fd:ala}(F:ks K "law" "law" x8 f fd):25<=j->ff P w K mg base es 25 f fd ["script"] (iL K mg Fy)
theorem av(T:Txt P w K mg base):∀j,Sl T j
 |0=>by constructor<;>intros<;>omega
 |j+1=>by
  have b:=av T j;refine⟨eO T.Lb rfl ?_,
   eO T.K6 rfl ?_,
   eO T.Lz rfl ?_,
   eO T.Lc rfl ?_,
   DH T.K7 T.E1 rfl λg c p L f A outer s H E e=>?_,
   eO T.KW rfl ?_,
   eO T.K5 rfl ?_,
   uK (λ_=>T.C8.d.none (by rintro vs H Q E ⟨O,ds,r,m,_,_,_,h,_⟩;cases h)) λn g=>(rZ (k:=n+2) T.C8.d T.C8.s rfl rfl λf l A outer s H E e=>hK.un ?_:eg P w K mg base _ _ _ (eQ K mg (fnOf 1 3 (zh (qZ n))))).mono (by omega),
   eO T.LC rfl ?_,
   uK (λ_=>T.C2.d.none (by rintro vs H Q E ⟨O,ds,r,m,_,_,_,h,_⟩;cases h)) λn g=>(rZ (k:=n+2) T.C2.d T.C2.s rfl rfl λf l A outer s H E e=>hK.un ?_:eg P w K mg base _ _ _ (eQ K mg (fnOf 2 2 (zd (kI n))))).mono (by omega),
   eO T.LA rfl ?_,
   eO T.LB rfl ?_,
   eO T.K9 rfl ?_,
   eO T.K_ rfl ?_,
   eO T.K4 rfl ?_,
   eO T.K' rfl ?_,
   eO T.K8 rfl ?_,
   eO T.KY rfl ?_,
   eO T.LG rfl ?_,
   eO T.La rfl ?_,
   eO T.KZ rfl ?_,
   DH T.LI T.E' rfl λg c p L f A outer s H E e=>?_,
   eO T.K2 rfl ?_,
   DH T.LJ T.Fb rfl λg c p L f A outer s H E e=>?_,
   eO T.LK rfl ?_,
   eO T.LD rfl ?_,
   eO T.K1 rfl ?_,
   eO T.K0 rfl ?_,
   eO T.LF rfl λg f l A outer s H E e=>(@BI _ _ _ _ _ _ ((BH (i:=3) (mb (by kernel_rfl)) rfl (.inl rfl) (RI T.Bu rfl (RG NX Im (rk 2) RF)))) (@BJ _ _ _ _ ((Hq (afI (k:=5) (pp:=["slate","asker","deed"]) (lookup_all (by simp only[alo];exact⟨(b.MO (by omega)).mono (by omega),(b.MK (by omega)).mono (by omega),(MR T).mono (by omega),(MS T).mono (by omega),(MP T).mono (by omega),(MM T).mono (by omega),(MQ T).mono (by omega),(MN T).mono (by omega),(ML T).mono (by omega),λ_ h=>nomatch h⟩)) rfl (.inl rfl) (e.mono (by omega)) (vn (rk 0) (vn (rk 1) (vn (rk 2) BD)))))))),
   eO T.K3 rfl ?_,
   eO T.KX rfl ?_,
   eO T.LH rfl ?_,
   mO T.Ky rfl ?_,
   mO T.Kz rfl ?_,
   λg=>(WE (k:=18) T.zz.d T.zz.s rfl rfl λf l A outer s H E e L=>?_:yO P w K mg base _ _ _ _ (vb K mg (fnOf 2 2 Hz))),
   VS T.zz rfl ?_,
   mO T.KA rfl ?_,
   rS T.KN rfl ?_,
   rS T.KS rfl ?_,
   mO T.KD rfl ?_,
   mO T.KG rfl ?_,
   mO T.KJ rfl ?_,
   mO T.KC rfl ?_,
   mO T.KP rfl ?_,
   mO T.KH rfl ?_,
   mO T.KL rfl ?_,
   mO T.KI rfl ?_,
   rS T.KQ rfl ?_,
   rS T.KV rfl ?_,
   rS T.KU rfl ?_,
   rS T.KR rfl ?_,
   rS T.KO rfl ?_,
   eO T.Li rfl ?_,
   uK (λ_=>T.C6.d.none (by rintro vs H Q E ⟨O,ds,r,m,_,_,_,h,_⟩;cases h)) λn g=>(rZ (k:=n+1) T.C6.d T.C6.s rfl rfl λf l A outer s H E e=>hK.un ?_:eg P w K mg base _ _ _ (eQ K mg (fnOf 2 4 (Jt (ih n))))).mono (by omega),
   uK (λ_=>T.C7.d.none (by rintro vs H Q E ⟨O,ds,r,m,_,_,_,h,_⟩;cases h)) λn g=>(rZ (k:=n+1) T.C7.d T.C7.s rfl rfl λf l A outer s H E e=>hK.un ?_:eg P w K mg base _ _ _ (eQ K mg (fnOf 2 2 (zg (pq n))))).mono (by omega),
   eO T.Lo rfl ?_,
   uK (λ_=>T.C5.d.none (by rintro vs H Q E ⟨O,ds,r,m,_,_,_,h,_⟩;cases h)) λn g=>(rZ (k:=n+1) T.C5.d T.C5.s rfl rfl λf l A outer s H E e=>hK.un ?_:eg P w K mg base _ _ _ (eQ K mg (fnOf 1 3 (zf (pn n))))).mono (by omega),
   eO T.Lq rfl ?_,
   uK (λ_=>T.C4.d.none (by rintro vs H Q E ⟨O,ds,r,m,_,_,_,h,_⟩;cases h)) λn g=>(rZ (k:=n+1) T.C4.d T.C4.s rfl rfl λf l A outer s H E e=>hK.un ?_:eg P w K mg base _ _ _ (eQ K mg (fnOf 2 2 (Jd (kj n))))).mono (by omega),
   eO T.Lr rfl ?_,
   eO T.Lj rfl ?_,
   eO T.Lk rfl ?_,
   eO T.Ls rfl ?_,
   rU T.Lp rfl ?_,
   eO T.Le rfl ?_,
   eO T.Lh rfl ?_,
   eO T.Lw rfl ?_,
   rU T.Lm rfl ?_,
   eO T.Lu rfl λg f l A outer s H E e=>(@BI _ _ _ _ _ _ ((BH (i:=2) (mb (by kernel_rfl)) rfl (.inl rfl) yt)) (@BI _ _ _ _ _ _ ((agk (b.X3 (by omega)) (e.mono (by omega)) (rk 0) (vn (rk 1) BD) rfl ⟨rfl,rfl⟩ (aaj (λC q=>by obtain⟨_,t,⟨_,u,x⟩⟩:=T.Hy;cases q.symm.trans t;exact(af5 u x (by exact rfl) (λa dv=>(BJ (BH (i:=2) (mb (by kernel_rfl)) rfl (.inl rfl) yt)).un))) aak))) (@BJ _ _ _ _ ((Hq (oy (Gb e.units) Cw (rk 2) yt (iH _))))))),
   VR T.Ld rfl ?_,
   rU T.Lx rfl ?_,
   eO T.Lv rfl ?_,
   rU T.Lg rfl ?_,
   VT T.Ll rfl ?_,
   rU T.Lf rfl ?_,
   rU T.Ly rfl ?_,
   rU T.Ln rfl ?_,
   λF g=>(DB (k:=24) F adV rfl rfl λl A outer s H E e=>?_:ff P w K mg base es _ _ _ _ (iL K mg (fnX 1 8 I4)))⟩
  all_goals try intro g
  all_goals try intro f l A outer s H E e
  all_goals repeat' first
   |((with_reducible show bh _ _ _);first
    |(with_reducible show bh _ _ (v9 _ _));refine' afJ ?_ ?_ rfl ?_
    |(with_reducible show bh _ _ (J _));exact rk _
    |(with_reducible show bh _ (.BoolOp _ [_] _) _);refine afU ?_
    |(with_reducible show bh _ _ (ak fy _ _));refine RG NX Im ?_ ?_ (λ_ _=>rfl)
    |(with_reducible show bh _ _ (bF _));refine afZ ?_
    |(with_reducible show bh _ _ (bC _ cO));refine' afH ?_ ?_ rfl
    |(with_reducible show bh _ _ (bC _ _));refine' afG ?_ ?_ rfl ?_
    |(with_reducible show bh _ _ (aK (.int _)));first|exact RF|exact lN (q9 rfl T.VU) λ_ _=>rfl|exact lN (q9 rfl T.ajn) λ_ _=>rfl|exact lN (q9 rfl T.ajm) λ_ _=>rfl|exact lN (q9 rfl T.ajo) λ_ _=>rfl|exact lN (q9 rfl T.ajp) λ_ _=>rfl|exact lN (q9 rfl T.ajq) λ_ _=>rfl|exact lN (q9 rfl T.ajr) λ_ _=>rfl
    |(with_reducible show bh _ _ (aK .ay));exact afS
    |(with_reducible show bh _ _ (aK (.az _)));exact afF
    |(with_reducible show bh _ _ (aK (.ty "tuple")));exact lN (xO (v:=.ty "tuple") rfl T.B.tuple' J' rfl) λ_ _=>rfl
    |(with_reducible show bh _ _ (aK (.ty "bool")));exact lN (xO (v:=.ty "bool") rfl T.B.T4 T9 rfl) λ_ _=>rfl
    |(with_reducible show bh _ _ (aK (.ty "str")));exact lN (xO (v:=.ty "str") rfl T.B.ael Ua rfl) λ_ _=>rfl
    |(with_reducible show bh _ _ (aK (.ty "int")));exact lN (xO (v:=.ty "int") rfl T.B.NK J7 rfl) λ_ _=>rfl
    |(with_reducible show bh _ _ (aK (.ty "list")));exact lN (xO (v:=.ty "list") rfl T.B.aaF T_ rfl) λ_ _=>rfl
    |(with_reducible show bh _ _ (aK (.str _)));first|exact yt|exact lN (q9 rfl T.VV) λ_ _=>rfl
    |(with_reducible show bh _ _ (ak iI _ _));refine mm abL S2 ?_ ?_
    |(with_reducible show bh _ _ (ak oMod _ _));refine mm abS S9 ?_ ?_
    |(with_reducible show bh _ _ (ak fG _ _));refine mm abO S6 ?_ ?_
    |(with_reducible show bh _ _ (ak iZ _ _));refine mm Py Ig ?_ ?_
    |(with_reducible show bh _ _ (ak uR _ _));refine mm abM S5 ?_ ?_
    |(with_reducible show bh _ _ (ak lC _ _));refine mm abV S' ?_ ?_
    |(with_reducible show bh _ _ (ak F3 _ _));refine mm abY Tc ?_ ?_
    |(with_reducible show bh _ _ (ak xE _ _));refine mm abT S_ ?_ ?_
    |(with_reducible show bh _ _ (ak FY _ _));refine mm abN S3 ?_ ?_
    |(with_reducible show bh _ _ (ak uQ _ _));refine mm abU S4 ?_ ?_
    |(with_reducible show bh _ _ (ak F0 _ _));refine mm abW Ta ?_ ?_
    |(with_reducible show bh _ _ (ak F1 _ _));refine mm abX Tb ?_ ?_
    |(with_reducible show bh _ _ (ak oEq _ _));refine oy (Gb e.units) Cw ?_ ?_ (iH _)
    |(with_reducible show bh _ _ (ak gB _ _));refine oy PC Il ?_ ?_ (iH _)
    |(with_reducible show bh _ _ (ak hq _ _));refine oy PE Ip ?_ ?_ (iH _)
    |(with_reducible show bh _ _ (ak pB _ _));refine oy Pz Ii ?_ ?_ (iH _)
    |(with_reducible show bh _ _ (ak oLt _ _));refine oy Gd Cx ?_ ?_ (iH _)
    |(with_reducible show bh _ _ (ak (ng false) _ _));refine oy PA (Ij false) ?_ ?_ rfl
    |(with_reducible show bh _ _ (ak (sH false) _ _));refine oy PB Ik ?_ ?_ rfl
    |(with_reducible show bh _ _ (cV hk _));refine nx Uk ZK rfl T.B.len J9 ?_
    |(with_reducible show bh _ _ (cV h_ _));refine nx (Ui T.kt) ZI rfl T.B.isinstance J8 ?_
    |(with_reducible show bh _ _ (cV wy _));refine nx (Uj T.kt) ZJ rfl T.B.isinstance J8 ?_
    |(with_reducible show bh _ _ (cV rM _));refine nx (Ug rfl) ZG rfl T.B.all T8 ?_
    |(with_reducible show bh _ _ (cV (wu _) _));refine nx (Um rfl) ZE rfl T.B.max J_ ?_
    |(with_reducible show bh _ _ (cV wA _));refine nx (Un rfl) ZN rfl T.B.max J_ ?_
    |(with_reducible show bh _ _ (cV (nV gg) _));refine nx (Kd rfl aae) N4 rfl T.B.sorted CM ?_
    |(with_reducible show bh _ _ (cV (nV jr) _));refine nx (Kd rfl aaf) N4 rfl T.B.sorted CM ?_
    |(with_reducible show bh _ _ (cV rN _));refine nx (Uo rfl) ZP rfl T.B.sum Ub ?_
    |(with_reducible show bh _ _ (cV wx _));refine nx Ue ZF rfl T.B.abs T7 ?_
    |(with_reducible show bh _ _ (cV wz _));refine nx Ul ZL rfl T.B.len J9 ?_
    |(with_reducible show bh _ _ (cV t2 _));refine RE Uh ZH rfl T.B.NK J7 ?_
    |(with_reducible show bh _ _ (cV mL _));refine RE Up ZQ rfl T.B.tuple' J' ?_
    |(with_reducible show bh _ _ (dD _));refine afP ?_
    |(with_reducible show bh _ _ (oS _ _));refine afC ?_ ?_
    |(with_reducible show bh _ _ (zo _));refine afT ?_
    |(with_reducible show bh _ _ (bM oBits _));refine afE ?_
    |(with_reducible show bh _ _ (e9 _ _ _ _ _));refine afK (wg (xs:=[_]) (by kernel_rfl)) (by decide) ?_ rfl (λ_ _ _ _=>⟨alW rfl,rfl⟩) (λ_ _ _ _=>?_) (λ_ _ _ _=>?_) (he:=rfl) (hN:=rfl)
    |(with_reducible show bh _ _ (tK _ _ _ _));refine afL (wg (xs:=[_,_]) (by kernel_rfl)) ?_ rfl rfl (λ_ _ _ _=>⟨alW rfl,rfl⟩) (λ_ _ _ _=>⟨alW rfl,rfl⟩) (λ_ _ _ _=>?_) (λ_ _ _ _=>?_) (he:=rfl) (hN:=rfl)
    |(with_reducible show bh _ _ (v_ _ _ _ _));refine afM (wg (xs:=[_,_]) (by kernel_rfl)) rfl T.B.zip ?_ rfl rfl (λ_ _ _ _=>⟨alW rfl,rfl⟩) (λ_ _ _ _=>⟨alW rfl,rfl⟩) (λ_ _ _ _=>?_) (λ_ _ _ _=>?_) (he:=rfl) (hN:=rfl)
    |(with_reducible show bh _ _ (zq _ _ _));refine afV ?_ ?_ ?_
    |(with_reducible show bh _ _ (CQ _ _ _));refine afW ?_ ?_ ?_
    |(with_reducible show bh _ _ (CR _ _));refine RI T.Bu rfl ?_
    |(with_reducible show bh _ _ (CS _ _));refine afX T.EH rfl ?_
    |(with_reducible show bh _ _ (zr _ _ _));refine afY e.units ?_ ?_ ?_
    |(with_reducible show bh _ _ (tN _ _ _));refine RH (k:=0) rfl (ZO (by first|exact Oi|exact Oj)) rfl T.B.sorted ?_ L T.bm rfl rfl (t4 (by kernel_rfl)) (λ_ _ _ _=>rfl) (λ_ _ _ _ _ _=>?_) ?_
    |(with_reducible show bh _ _ (CO _ _));refine RH (k:=0) rfl ZM rfl T.B.max ?_ L T.bm rfl rfl (t4 (by kernel_rfl)) (λ_ _ _ _=>rfl) (λ_ _ _ _ _ _=>?_) ?_
    |(with_reducible show bh _ _ (ak ej _ _));refine oy (PD e.units) Io ?_ ?_ (iH _)
    |(with_reducible show bh _ _ (bM (cA "Asker" _) _));refine afD T.oU (by simp[AZ]) ?_
    |(with_reducible show bh _ _ (ak fJ _ _));refine afN e.units ?_ ?_
    |(with_reducible show bh _ _ (lg _));refine afO ?_
    |(with_reducible show bh _ _ (e1 _ _ _ _ cO));refine' afR ?_ ?_ ?_
    |(with_reducible show bh _ _ (e1 _ _ _ _ _));refine' afQ ?_ ?_ ?_ ?_
    |(with_reducible show bh _ _ (ak oLe _ _));refine oy xM vY ?_ ?_ (iH _))
   |((with_reducible show gr _ _ _);first
    |(with_reducible show gr _ _ (cO));exact BD
    |(with_reducible show gr _ _ (ck _ _));refine vn ?_ ?_)
   |((with_reducible show fD _ _ _);first
    |(show fD _ _ (bA _));refine Hq ?_
    |(show fD _ _ (b1 _ (e9 _ _ _ _ _)));refine agc (wg (xs:=[_]) (by kernel_rfl)) (mb (by kernel_rfl)) rfl rfl (by decide) ?_ rfl (λ_ _ _ _=>⟨alW rfl,rfl⟩) (λ_ _ _ _=>?_) (λ_ _ _ _=>?_) (he:=rfl) (hN:=rfl)
    |(show fD _ _ (b1 _ _));refine BH (mb (by kernel_rfl)) rfl (by first|exact alW rfl|exact akX rfl|exact akX (.inl rfl)|exact akX (akX rfl)) ?_
    |(show fD _ _ (b9 _ _ _));refine agg ?_ ?_ ?_
    |(show fD _ _ (jJ _ (e9 _ _ _ _ _)));refine agb (wg (xs:=[_]) (by kernel_rfl)) (mb (by kernel_rfl)) rfl rfl (by decide) ?_ rfl (λ_ _ _ _=>⟨alW rfl,rfl⟩) (λ_ _ _ _=>?_) (λ_ _ _ _=>?_) (he:=rfl) (hN:=rfl)
    |(show fD _ _ (jJ _ _));refine agi (mb (by kernel_rfl)) rfl (by first|exact alW rfl|exact akX rfl|exact akX (.inl rfl)|exact akX (akX rfl)) ?_
    |(show fD _ _ (oT _ _ _));refine agd amT rfl ?_ (mb (by kernel_rfl)) rfl (by first|exact alW rfl|exact akX rfl|exact akX (.inl rfl)|exact akX (akX rfl)) ?_
    |(show fD _ _ (zm _ _ _));refine age amT rfl ?_ ?_ ?_
    |(show fD _ _ (tL _ _ _));refine agf amT rfl rfl T.B.zip ?_ ?_ ?_
    |(show fD _ _ (mG _ _));refine agl rfl ?_ ?_
    |(show fD _ _ (ja _ hY _));refine RL aoo aop FP OQ ?_ rfl (by first|exact alW rfl|exact akX rfl|exact akX (.inl rfl)|exact akX (akX rfl))
    |(show fD _ _ (ja _ ym _));refine RL PySem.F.slot_list_extend PySem.F.type_list_extend aa5 aaL ?_ rfl (by first|exact alW rfl|exact akX rfl|exact akX (.inl rfl)|exact akX (akX rfl))
    |(show fD _ _ (zp _));exact agj _
    |(show fD _ _ (wa));exact agh)
   |((with_reducible show fP _ _ _);first
    |(with_reducible show fP _ _ (aL (ak oEq _ _)));refine mn (Gb e.units) Cw ?_ ?_ (iH _)
    |(with_reducible show fP _ _ (aL (ak ej _ _)));refine mn (PD e.units) Io ?_ ?_ (iH _)
    |(with_reducible show fP _ _ (aL (ak gB _ _)));refine mn PC Il ?_ ?_ (iH _)
    |(with_reducible show fP _ _ (aL (ak hq _ _)));refine mn PE Ip ?_ ?_ (iH _)
    |(with_reducible show fP _ _ (aL (ak pB _ _)));refine mn Pz Ii ?_ ?_ (iH _)
    |(with_reducible show fP _ _ (aL (ak pC _ _)));refine mn abQ S8 ?_ ?_ (iH _)
    |(with_reducible show fP _ _ (aL (ak oLt _ _)));refine mn Gd Cx ?_ ?_ (iH _)
    |(with_reducible show fP _ _ (aL (ak oLe _ _)));refine mn xM vY ?_ ?_ (iH _)
    |(with_reducible show fP _ _ (aL (ak (ng false) _ _)));refine mn PA (Ij false) ?_ ?_ rfl
    |(with_reducible show fP _ _ (aL (ak (sH false) _ _)));refine mn PB Ik ?_ ?_ rfl
    |(with_reducible show fP _ _ (aL (kB oLe oLe _ _ _)));refine RM xM vY xM vY ?_ ?_ ?_
    |(with_reducible show fP _ _ (aL (kB oLe oLt _ _ _)));refine RM xM vY Gd Cx ?_ ?_ ?_
    |(with_reducible show fP _ _ (aL (ak (pA _) _ _)));first|refine mn (abR e.units) Ih ?_ ?_ (iH _)|refine mn (abP e.units) Ih ?_ ?_ (iH _)
    |(with_reducible show fP _ _ (aL _));refine ago ?_
    |(with_reducible show fP _ _ (ew _));refine agn ?_
    |refine lU.cM ?_)
   |((with_reducible show lU _ _ _);first
    |(with_reducible show lU _ _ (ip _ _));refine agr ?_ ?_
    |(with_reducible show lU _ _ (fW _ _));refine agp ?_ ?_
    |first|refine ags ?_|refine agq ?_)
   |((with_reducible show e8 _ _ _);first
    |(with_reducible show e8 _ _ (dI _));refine agX ?_
    |(with_reducible show e8 _ _ (rl iZ _ _));refine agY Py Ig ?_ ?_
    |(with_reducible show e8 _ _ (vp _));refine agW ?_
    |(with_reducible show e8 _ _ (fY _ _ _ _ mq));refine' agV ?_ ?_ ?_
    |(with_reducible show e8 _ _ (fY _ _ _ _ _));refine' agU ?_ ?_ ?_ ?_
    |(with_reducible show e8 _ _ (ir _ _));refine' agQ ?_ ?_ rfl ?_
    |(with_reducible show e8 _ _ (yy "Asker" _ _));refine' RY T.oU ?_ ?_ rfl ?_
    |(with_reducible show e8 _ _ (yy "House" _ _));refine' RY T.ahE ?_ ?_ rfl ?_
    |(with_reducible show e8 _ _ (BL _ _));refine agS ?_
    |(with_reducible show e8 _ _ (yw _));exact agT
    |(with_reducible show e8 _ _ (yv _ _));refine' agR ?_ ?_ rfl ?_)
   |((with_reducible show oM _ _ _);first
    |(with_reducible show oM _ _ (gn _));refine ahi ?_
    |(with_reducible show oM _ _ (yD _));refine ahj ?_
    |(with_reducible show oM _ _ (yC _));refine ahh ?_)
   |((with_reducible show oL _ _ _);first
    |(with_reducible show oL _ _ (e5 _));refine agN ?_
    |(with_reducible show oL _ _ (BK _ _));refine agM ?_ ?_)
   |((with_reducible show gT _ _ _);first
    |(show gT _ _ (b4 _));refine ahc ?_
    |(show gT _ _ (jz _ _));refine ahe (mb (by kernel_rfl)) rfl (by first|exact alW rfl|exact akX rfl|exact akX (.inl rfl)|exact akX (akX rfl)) ?_
    |(show gT _ _ (fA _ _ _));refine aha ?_ ?_ ?_
    |(show gT _ _ (kV _));refine ahd ?_
    |(show gT _ _ (i5 _));refine ag6 ?_
    |(show gT _ _ (eR "Asker" _ _ _));refine ag4 T.oU (by simp[AZ]) ?_ ?_
    |(show gT _ _ (vo _ _ _));refine ag5 e.units ?_ ?_ ?_
    |(show gT _ _ (yx _ _ _));refine ag7 e.units ?_ ?_ ?_
    |(show gT _ _ (yz hY _ _));refine ahb aoo aop FP OQ ?_ ?_
    |(show gT _ _ (nB _ _ _));refine ag8 amT rfl ?_ (mb (by kernel_rfl)) rfl (by first|exact alW rfl|exact akX rfl|exact akX (.inl rfl)|exact akX (akX rfl)) ?_
    |(show gT _ _ (BM _ _ _));refine ag9 amT rfl ?_ (mb (by kernel_rfl)) rfl (by first|exact alW rfl|exact akX rfl|exact akX (.inl rfl)|exact akX (akX rfl)) ?_)
   |((with_reducible show hK _ _ _);first|exact agm|refine BJ ?_|refine BI ?_ ?_)
   |((with_reducible show hM _ _ _);first|((show hM _ _ (bG _ _));refine ahf ?_ ?_)|((with_reducible show hM _ [] _);refine RZ ?_)|refine ahg ?_|refine RZ ?_)
   |((with_reducible show qg _ _ _);first|exact af3|refine af4 ?_)
   |((with_reducible show vS _ _ _ _);first|exact agu|refine agv (by first|exact T.Hs|exact T.Ht|exact T.Hr) rfl rfl L ?_ (vn yt BD) ?_)
   |((with_reducible show cL _ _);exact e.mono (by omega))
   |((with_reducible show eg _ _ _ _ _ _ _ _ _);first|exact(b.Xm (by omega))|exact(b.Xd (by omega))|exact(b.XO (by omega))|exact(b.Xn (by omega))|exact(b.Xe (by omega))|exact(b.W6 (by omega))|exact(b.Xc (by omega))|exact b.XS _ (by omega)|exact(b.XR (by omega))|exact b.Xa _ (by omega)|exact Xh T|exact(b.XP (by omega))|exact(b.XQ (by omega))|exact(b.Xi (by omega))|exact(b.Xj (by omega))|exact Xg T|exact(b.Xb (by omega))|exact(b.Xk (by omega))|exact(b.Xf (by omega))|exact(b.W8 (by omega))|exact(b.XY (by omega))|exact(b.Xl (by omega))|exact(b.W9 (by omega))|exact(b.X0 (by omega))|exact(b.W_ (by omega))|exact(b.X1 (by omega))|exact(b.X2 (by omega))|exact(b.XW (by omega))|exact(b.MO (by omega))|exact(b.MK (by omega))|exact MR T|exact MS T|exact MP T|exact MM T|exact MQ T|exact MN T|exact ML T|exact(b.XX (by omega))|exact(b.W' (by omega))|exact(b.W7 (by omega))|exact(b.XZ (by omega))|exact(b.Xt (by omega))|exact b.XH _ (by omega)|exact b.XN _ (by omega)|exact(b.XA (by omega))|exact b.XE _ (by omega)|exact(b.XC (by omega))|exact b.Xx _ (by omega)|exact(b.XD (by omega))|exact(b.Xu (by omega))|exact(b.Xv (by omega))|exact(b.XF (by omega))|exact(b.XB (by omega))|exact(b.Xp (by omega))|exact(b.Xs (by omega))|exact(b.XJ (by omega))|exact(b.Xy (by omega))|exact(b.XG (by omega))|exact(b.Xo (by omega))|exact(b.XK (by omega))|exact(b.XI (by omega))|exact(b.Xr (by omega))|exact(b.Xw (by omega))|exact(b.Xq (by omega))|exact(b.XM (by omega))|exact(b.Xz (by omega)))
   |((with_reducible show kY _ _ _ _ _ _ _ _ _ _);first|exact(b.WL (by omega))|exact(b.WM (by omega))|exact(b.WN (by omega)).all|exact(b.WO (by omega))|exact(b.WX (by omega))|exact(b.W3 (by omega))|exact(b.WR (by omega))|exact(b.WS (by omega))|exact(b.WV (by omega))|exact(b.WQ (by omega))|exact(b.WZ (by omega))|exact(b.WT (by omega))|exact(b.WW (by omega))|exact(b.WU (by omega))|exact(b.W0 (by omega))|exact(b.W5 (by omega))|exact(b.W4 (by omega))|exact(b.W2 (by omega))|exact(b.WY (by omega)))
   |(first|exact Gl|refine xR (mb (by kernel_rfl)) rfl (by first|exact alW rfl|exact akX rfl|exact akX (.inl rfl)|exact akX (akX rfl)) ?_|refine afu ?_|refine afx ?_|refine afv rfl T.B.range ?_|refine afw ?_|refine af0 ?_|refine af2 ?_|refine af1 rfl T.B.range ?_|refine agZ ?_|refine ag2 ?_|exact ag1|refine ag0 rfl T.B.range ?_|exact af9|refine aga ?_|exact agP|refine agO ?_ ?_)
def F'(T:Txt P w K mg base)(F:ks K "law" "law" x8 f fd):ff P w K mg base es 25 f fd ["script"] (iL K mg Fy):=(av T 25).F' F (akf _)
end
end gb
set_option maxHeartbeats 1000000
namespace aS
open PySem PySem.Spec aB
@[simp] theorem ahZ{x y:R}:iZ x y=match x.own,y.own with
 |some xs,some ys=>if xs.length+ys.length<=akg then pure (.fr (xs++ys))else bad|_,_=>bad:=rfl
@[simp] theorem ajY{i j:Int}(a:0<j)(b:j<10 ^ 200):oC i j:=hO a b
def Ib{α:Type}{xs:List α}{i:Int}{v:α}(h:fp xs i=some v):v∈xs:=by
 obtain⟨j,_,e,_⟩:=zb h;exact akQ e
def Ic{α:Type}{xs:List α}{i:Int}(a:0<=i)(c:i<xs.length):∃v,fp xs i=some v:=by
 have b:i.toNat<xs.length:=by omega
 refine⟨xs[i.toNat],?_⟩;have:=oQ (xs:=xs) i.toNat (v:=xs[i.toNat]) (by simp[b])
 rwa[Int.toNat_of_nonneg a]at this
end aS
namespace k7
inductive aI where
 |kp (k:Nat)
 |ch (k:Nat) (ps:List aI)
mutual
def aI.names:aI->List Nat
 |.kp k=>[k]
 |.ch _ ps=>aI.eG ps
def aI.eG:List aI->List Nat
 |[]=>[]
 |r::rs=>r.names++aI.eG rs
end
mutual
def aI.deep:aI->Nat
 |.kp _=>0|.ch _ ps=>aI.mJ ps+1
def aI.mJ:List aI->Nat
 |[]=>0|r::rs=>max r.deep (aI.mJ rs)
end
mutual
def aI.wf:aI->Prop
 |.kp k=>k<6|.ch k ps=>1<=k/\k<=ps.length/\ps.length<=6/\aI.i4 ps
def aI.i4:List aI->Prop
 |[]=>True|r::rs=>r.wf/\aI.i4 rs
end
mutual
def aI.fills(p:Nat->Bool):aI->Bool
 |.kp k=>p k|.ch k ps=>decide (k<=aI.cnt p ps)
def aI.cnt(p:Nat->Bool):List aI->Nat
 |[]=>0|r::rs=>(if r.fills p then 1 else 0)+aI.cnt p rs
end
theorem yu:∀{ps:List aI},aI.i4 ps↔∀r∈ps,r.wf
 |[]=>by simp[aI.i4]| r::rs=>by simp[aI.i4,yu]
theorem rI:∀{ps:List aI}{n:Nat},aI.mJ ps<n->∀r∈ps,r.deep<n
 |r::rs,n,h,x,o=>by
  simp only[aI.mJ]at h;rcases akq.mp o with rfl|o
  .omega
  .exact rI (ps:=rs) (by omega) x o
theorem zx(p:Nat->Bool):∀ps:List aI,(ps.filter (aI.fills p)).length=aI.cnt p ps
 |[]=>rfl|r::rs=>by
  rw[List.filter_cons];simp only[aI.cnt]
  cases h:r.fills p with
  |true=>simp[zx p rs];omega|false=>simp[zx p rs]
mutual
theorem L8{p q:Nat->Bool}(h:∀k,p k=true->q k=true):∀r:aI,r.fills p=true->r.fills q=true
 |.kp k,e=>by simp only[aI.fills]at e ⊢;exact h k e|.ch k ps,e=>by
  simp only[aI.fills,decide_eq_true_eq]at e ⊢;exact alc e (Ks h ps)
theorem Ks{p q:Nat->Bool}(h:∀k,p k=true->q k=true):∀ps:List aI,aI.cnt p ps<=aI.cnt q ps
 |[]=>akf _|r::rs=>by
  simp only[aI.cnt];have a:=L8 h r;have b:=Ks h rs
  cases e:r.fills p with
  |true=>rw[a e];simp;omega|false=>simp only[amX,if_false];split<;>omega
end
mutual
theorem zN:∀r:aI,r.wf->r.fills (λ_=>false)=false
 |.kp _,_=>by simp[aI.fills]|.ch k ps,h=>by
  simp only[aI.wf]at h;simp only[aI.fills,cnt_none ps h.2.2.2];exact decide_eq_false (by omega)
theorem cnt_none:∀ps:List aI,aI.i4 ps->aI.cnt (λ_=>false) ps=0
 |[],_=>rfl|r::rs,h=>by
  simp only[aI.i4]at h;simp only[aI.cnt,zN r h.1,cnt_none rs h.2];rfl
end
mutual
theorem q3:∀r:aI,r.wf->∀k∈r.names,k<6
 |.kp k,h,x,o=>by simp only[aI.names,akt]at o;simp only[aI.wf]at h;omega| .ch k ps,h,x,o=>by simp only[aI.wf]at h;exact Pc ps h.2.2.2 x (by simpa only[aI.names]using o)
theorem Pc:∀ps:List aI,aI.i4 ps->∀k∈aI.eG ps,k<6
 |[],_,x,o=>by simp[aI.eG]at o|r::rs,h,x,o=>by
  simp only[aI.i4]at h;simp only[aI.eG,akO]at o;rcases o with o|o
  .exact q3 r h.1 x o
  .exact Pc rs h.2 x o
end
theorem xt:∀ps a:List aI,aI.eG (ps++a)=aI.eG ps++aI.eG a
 |[],_=>rfl|r::rs,a=>by
  show r.names++aI.eG (rs++a)=(r.names++aI.eG rs)++aI.eG a;rw[xt rs a,al9]
end k7
namespace aS
open PySem PySem.Spec aB k7
mutual
def enc:aI->D
 |.kp k=>.int (k:Nat)|.ch k ps=>.t [.int (k:Nat),.t (encL ps)]
def encL:List aI->List D
 |[]=>[]
 |r::rs=>enc r::encL rs
end
theorem LU:∀ps:List aI,encL ps=ps.map enc
 |[]=>rfl| r::rs=>by rw[akm,<-LU rs];rfl
def qt(k:Nat)(ps:List aI):enc (.ch k ps)=.t [.int (k:Nat),.t (ps.map enc)]:=by rw[<-LU];rfl
def wo(k:Nat):enc (.kp k)=.int (k:Nat):=rfl
@[simp] theorem GW(r:aI):c5 (enc r)=.v (enc r):=by cases r<;>rfl
def UM{α:Type}(xs:List α)(k:Nat):cutD xs (some (k:Int)) none=xs.drop k:=by
 unfold cutD;rw[d_.GR,d_.adT]
 by_cases h:k<=xs.length
 .rw[Nat.min_eq_left h]
  exact ana (by rw[alp];omega)
 .rw[Nat.min_eq_right (by omega),aoF (akf _),aoF (by omega),aoP]
end aS
namespace iv
def gc(m k:Nat):Bool:=m / 2 ^ k % 2==1
def Am(m:Nat):List Nat:=(akV (if m==0 then 0 else m.log2+1)).filter (gc m)
def tH(b:Bool)(n:Nat):Nat:=if b then n else 0
def uJ(d b a c e f:Bool):Nat:=tH d 1+tH b 2+tH a 4+tH c 8+tH e 16+tH f 32
def og(p:Nat->Bool):Nat:=uJ (p 0) (p 1) (p 2) (p 3) (p 4) (p 5)
def aa3(p:Nat->Bool)(k:Nat)(g:k<6):og p ||| 2 ^ k=og λj=>p j||j==k:=by
 have all:∀d b a c e f:Bool,∀k:Fin 6,uJ d b a c e f ||| 2 ^ k.val=uJ (d||0==k.val) (b||1==k.val) (a||2==k.val) (c||3==k.val) (e||4==k.val) (f||5==k.val):=by decide +kernel
 exact all (p 0) (p 1) (p 2) (p 3) (p 4) (p 5) ⟨k,g⟩
def Pa(p:Nat->Bool)(k:Nat)(h:k<6):(og p / 2 ^ k % 2==1)=p k:=by
 have all:∀d b a c f g:Bool,∀k:Fin 6,(uJ d b a c f g / 2 ^ k.val % 2==1)=[d,b,a,c,f,g].getD k.val false:=by decide +kernel
 have e:=all (p 0) (p 1) (p 2) (p 3) (p 4) (p 5) ⟨k,h⟩;rw[show og p=uJ (p 0) (p 1) (p 2) (p 3) (p 4) (p 5)from rfl,e];have:k=0\/k=1\/k=2\/k=3\/k=4\/k=5:=by omega
 rcases this with rfl|rfl|rfl|rfl|rfl|rfl<;>rfl
def aa2(p:Nat->Bool):og p<64:=by
 have all:∀d b a c e f:Bool,uJ d b a c e f<64:=by decide +kernel
 exact all _ _ _ _ _ _
def bits(m:Nat):Nat:=if m==0 then 0 else m.log2+1
def maskOf(ns:List Nat):Nat:=ns.foldl (λm k=>m ||| 2 ^ k) 0
theorem O5:∀(ns:List Nat)(p:Nat->Bool),(∀n∈ns,n<6)->ns.foldl (λm k=>m ||| 2 ^ k) (og p)=og λj=>p j||ns.contains j
 |[],p,_=>by simp|n::r,p,h=>by
  rw[List.foldl_cons,aa3 p n (h n akj),O5 r _ λx a=>h x (aki _ a)]
  congr 1
  funext j
  rw[List.contains_cons,Bool.or_assoc]
def O4(ns:List Nat)(h:∀n∈ns,n<6):maskOf ns=og λj=>ns.contains j:=by
 have e:=O5 ns (λ_=>false) h;have z:og (λ_=>false)=0:=rfl;rw[z]at e;show ns.foldl (λm k=>m ||| 2 ^ k) 0=_;rw[e];simp
end iv
namespace oH
open iv k7
def sub(x m:Nat):Bool:=(akV 6).all λk=>!gc x k||gc m k
mutual
theorem L7{p q:Nat->Bool}:∀r:aI,(∀k∈r.names,p k=q k)->r.fills p=r.fills q
 |.kp k,h=>by simp only[aI.fills];exact h k (by simp[aI.names])| .ch k ps,h=>by simp only[aI.fills];rw[Kr ps λk a=>h k (by simpa[aI.names]using a)]
theorem Kr{p q:Nat->Bool}:∀ps:List aI,(∀k∈aI.eG ps,p k=q k)->aI.cnt p ps=aI.cnt q ps
 |[],_=>rfl|r::rs,h=>by
  simp only[aI.cnt];rw[L7 r λk a=>h k (by simp[aI.eG,a]),Kr rs λk a=>h k (by simp[aI.eG,a])]
end
end oH
namespace aS
open PySem PySem.Spec aB iv k7 oH
def bU(k:Nat):D:=.int (k:Int)
def l'(k:Nat):bU k=.int (k:Int):=rfl
def SN(x:Int):amz x 1=x % 2:=W.kbt_mask x 1
def Ge(a b:Nat):anc (a:Int) (b:Int)=((a ||| b:Nat):Int):=by
 have c:decide (0<=alz (a:Int))=false:=decide_eq_false (by unfold alz;omega);have d:decide (0<=alz (b:Int))=false:=decide_eq_false (by unfold alz;omega);have aq:(alz (alz (a:Int))).toNat=a:=by unfold alz;omega
 have aC:(alz (alz (b:Int))).toNat=b:=by unfold alz;omega
 unfold anc amz;rw[c,d];dsimp only;rw[aq,aC];unfold alz;omega
def Zk(m:Nat):als (m:Int)=iv.bits m:=by
 unfold als iv.bits;rw[Int.natAbs_natCast]
 by_cases h:m=0
 .subst h;rfl
 .have a:(m:Int)≠0:=by omega
  rw[beq_eq_false_iff_ne.mpr h,beq_eq_false_iff_ne.mpr a]
def bits_le(m:Nat)(h:m<64):iv.bits m<=6:=by
 have all:∀m:_root_.Fin 64,iv.bits m.val<=6:=by decide +kernel
 exact all ⟨m,h⟩
def Z1(m:Nat):Am m=(akV (iv.bits m)).filter (gc m):=rfl
def FI(a:List Nat)(k:Nat):iv.maskOf (a++[k])=iv.maskOf a ||| 2 ^ k:=by
 unfold iv.maskOf;rw[List.foldl_append];rfl
def take_snoc{α:Type}{l:List α}{i:Nat}{x:α}(h:l[i]? = some x):l.take (i+1)=l.take i++[x]:=by
 rw[am5,h];rfl
def FG{α a:Type}{f:α->a}{l:List α}{i:Nat}{y:a}(h:(l.map f)[i]? = some y):∃x,l[i]? = some x/\y=f x:=by
 rw[akC]at h
 cases e:l[i]? with
 |none=>rw[e]at h;cases h
 |some x=>rw[e]at h;exact⟨x,rfl,(akF h).symm⟩
def TX(m k:Nat):(amz ((m:Int) / 2 ^ k) 1==1)=gc m k:=by
 rw[SN];unfold gc;have aq:((m:Int) / 2 ^ k) % 2=((m / 2 ^ k % 2:Nat):Int):=by
  rw[Int.natCast_emod,Int.natCast_ediv,Int.natCast_pow];rfl
 rw[aq,alD,beq_iff_eq,beq_iff_eq];omega
def Qu(n:Nat):oo 0 n=(akV n).map bU:=by
 unfold oo;refine List.map_congr_left λi _=>?_
 show D.int (0+(i:Int))=.int (i:Int);rw[Int.zero_add]
def Zf(k:Nat)(a:List Nat):inD (bU k) (a.map bU)=a.contains k:=by
 unfold inD;rw[List.any_map,List.contains_eq_any_beq]
 congr 1
 funext j
 show jQ (.int (j:Int)) (.int (k:Int))=(k==j);rw[alD,beq_iff_eq];simp[jQ];omega
theorem lY{α:Type}{t:aJ->M Bool}{el:bj}{U:aJ}(f:α->D)(p:α->Bool)(g:α->D):∀xs:List α,(∀x∈xs,t (U.set 0 (.v (f x)))=pure (p x))->(∀x∈xs,p x=true->(el (U.set 0 (.v (f x))) >>= R.dat)=pure (g x))->
  f7 t el U (xs.map f)=pure ((xs.filter p).map g)
 |[],_,_=>rfl|x::xs,o,C=>by
  have b:=lY f p g xs (λx a=>o x (aki _ a)) λx a=>C x (aki _ a)
  rw[akm];unfold f7;rw[o x akj,pure_bind]
  cases e:p x with
  |false=>rw[if_neg akp,b,aou (by rw[e];exact akp)]|true=>
   have h:=C x akj e;rw[if_pos rfl,<-bind_assoc,h,pure_bind,b,pure_bind,aov e];rfl
def qk{α:Type}{el:bj}{U:aJ}(f:α->D)(g:α->D)(xs:List α)(h:∀x∈xs,(el (U.set 0 (.v (f x))) >>= R.dat)=pure (g x)):f7 gD el U (xs.map f)=pure (xs.map g):=by
 have:=lY (t:=gD) (el:=el) (U:=U) f (λ_=>true) g xs (λ_ _=>rfl) λx a _=>h x a
 rw[this]
 congr 2
 exact anB.mpr λ_ _=>rfl
theorem DC{α:Type}{b:D->aY}(f:α->D)(p:α->Bool)(v:α->R)(I:aJ->Prop):∀(xs:List α)(U:aJ),I U->
  (∀x U,x∈xs->I U->(p x=true->b (f x) U=pure (.cp (v x)))/\(p x=false->∃U',b (f x) U=pure (.bl U')/\I U'))->
  (∀x,xs.find? p=some x->hv b (xs.map f) U=pure (.cp (v x)))/\(xs.find? p=none->∃U',hv b (xs.map f) U=pure (.bl U')/\I U')
 |[],U,h0,_=>⟨λx h=>(nomatch h),λ_=>⟨U,rfl,h0⟩⟩
 |x::xs,U,h0,step=>by
  obtain⟨s1,s2⟩:=step x U akj h0
  cases e:p x with
  |true=>
   rw[alf e];refine⟨λy h=>?_,λh=>(nomatch h)⟩;cases h;show(b (f x) U >>= _)=_;rw[s1 e];rfl
  |false=>
   obtain⟨a,aq,g⟩:=s2 e;have c:=DC f p v I xs a g λy U d=>step y U (aki _ d)
   rw[ak3 (by rw[e];exact akp)];have u:hv b ((x::xs).map f) U=hv b (xs.map f) a:=by
    show(b (f x) U >>= _)=_;rw[aq];rfl
   rw[u];exact c
end aS
namespace aS
open PySem PySem.Spec aB
mutual
def D.BF:D->Bool
 |.t xs=>decide (xs.length<=1000)&&pQ xs|.l xs=>decide (xs.length<=1000)&&pQ xs|.ref _=>true|.fn _=>true|.ty _=>true|.ay=>true|.az _=>true|.int _=>true|.str _=>true
def pQ:List D->Bool
 |[]=>true|x::xs=>x.BF&&pQ xs
end
theorem BG:∀{xs:List D},pQ xs=true↔∀x∈xs,x.BF=true
 |[]=>by simp[pQ]| x::xs=>by simp[pQ,BG]
theorem zT:∀{xs:List D}{n:Nat},iT xs n=true↔∀x∈xs,x.b5 n=true
 |[],_=>by simp[iT]| x::xs,n=>by simp[iT,zT]
def Ok(n:Nat)(d:D):Prop:=d.b5 n=true/\d.BF=true
def q7:Ok n .ay:=⟨rfl,rfl⟩
def abG:Ok n (.az b):=⟨rfl,rfl⟩
def fK{i:Int}:Ok n (.int i):=⟨rfl,rfl⟩
def kk(h:akz x=true):Ok n (.str x):=⟨h,rfl⟩
def pE{xs:List D}(b:xs.length<=1000)(h:∀x∈xs,Ok n x):Ok (n+1) (.t xs):=
 ⟨zT.mpr λx a=>(h x a).1,by show(decide (xs.length<=1000)&&pQ xs)=true;rw[decide_eq_true b,BG.mpr λx a=>(h x a).2];rfl⟩
def DK:∀{d:D}{n m:Nat},n<=m->d.b5 n=true->d.b5 m=true:=by
 intro d
 induction d using D.rec (motive_2:=λds=>∀n m,n<=m->iT ds n=true->iT ds m=true)with
 |ay=>exact λ_ h=>h
 |az _=>exact λ_ h=>h
 |int _=>exact λ_ h=>h
 |str _=>exact λ_ h=>h
 |fn _=>exact λ_ h=>h
 |ty _=>exact λ_ h=>h
 |ref _=>exact λ_ h=>h
 |t xs b=>
  intro n m a h
  cases n with
  |zero=>cases h
  |succ n=>
   cases m with
   |zero=>omega| succ m=>exact b n m (by omega) h
 |l xs b=>
  intro n m a h
  cases n with
  |zero=>cases h
  |succ n=>
   cases m with
   |zero=>omega| succ m=>exact b n m (by omega) h
 |nil=>rfl|cons x xs c e=>
  rename_i n m a h;have h:(x.b5 n&&iT xs n)=true:=h;rw[akD]at h;show(x.b5 m&&iT xs m)=true;rw[c a h.1,e n m a h.2];rfl
def md(h:Ok n d)(a:n<=m):Ok m d:=⟨DK a h.1,h.2⟩
def nh(c:Ok n a)(d:Ok n b):Ok (n+1) (.t [a,b]):=pE (by simp) (by simp only[alo];exact⟨c,d,λ_ h=>nomatch h⟩)
def oj(d:Ok n a)(e:Ok n b)(f:Ok n c):Ok (n+1) (.t [a,b,c]):=pE (by simp) (by simp only[alo];exact⟨d,e,f,λ_ h=>nomatch h⟩)
def Pu(e:Ok n a)(f:Ok n b)(g:Ok n c)(i:Ok n d):Ok (n+1) (.t [a,b,c,d]):=pE (by simp) (by simp only[alo];exact⟨e,f,g,i,λ_ h=>nomatch h⟩)
def F8(g:Ok n a)(i:Ok n b)(j:Ok n c)(k:Ok n d)(l:Ok n e)(m:Ok n f):Ok (n+1) (.t [a,b,c,d,e,f]):=pE (by simp) (by simp only[alo];exact⟨g,i,j,k,l,m,λ_ h=>nomatch h⟩)
def Pt:Ok (n+1) (.t []):=pE (by simp) λ_ h=>nomatch h
@[simp] theorem aiq:R.lu (.cf xs)=false:=rfl
@[simp] theorem ain:R.lu (.v (.l xs))=false:=rfl
@[simp] theorem aik:R.lu (.v (.az b))=false:=rfl
@[simp] theorem aiG{z:Str}:wz [.v (.str z)]=if z.length<=akg then pure (.v (.int (z.length:Nat)))else bad:=rfl
@[simp] theorem ah0{x y:Str}:uR (.v (.str x)) (.v (.str y))=if x.length+y.length<=akg then pure (.v (.str (x++y)))else bad:=rfl
def Vr(b:Bool):oEq (.v (.az b)) (.v (.az b))=pure (.v (.az true)):=by rw[qs rfl rfl];simp[jQ]
def eq_str(h:akz x=true):oEq (.v (.str x)) (.v (.str x))=pure (.v (.az true)):=by rw[qs (x:=.v (.str x)) (y:=.v (.str x)) h h];simp[jQ]
structure cG where
 e:Int
 p1:Int
 eW:Int
 k1:Int
 k2:Int
 da:D
def cJ(a b:Int):D:=.t [.int a,.int b]
def sP(g:cG):D:=.t [.int g.e,cJ g.p1 g.eW,cJ g.k1 g.k2,g.da]
@[simp] theorem ah2{g:List Int->List Int->Bool}{a b c d:Int}:pA g (.v (cJ a b)) (.v (cJ c d))=pure (.v (.az (g [a,b] [c,d]))):=rfl
@[simp] theorem aje:tN Z mf ma U=(do
 let x <-ma U
 qu Z mf x):=rfl
end aS
namespace aS
open PySem PySem.Spec aB PyProof.Rows
section
variable{Q:alH}[DecidableEq Q.α]
def k9(Q:alH)(l:List (Q.α×D)):Prop:=l.Pairwise λa b=>Q.blt a.1 b.1=true
def k9.nodup{l:List (Q.α×D)}(h:k9 Q l):(l.map (·.1)).Nodup:=by
 rw[List.nodup_iff_pairwise_ne,an2];refine List.Pairwise.imp (λ{a b} h e=>?_) h;rw[e,Q.irrefl]at h;cases h
def h9(l:List (Q.α×D))(a:Q.α):List (Q.α×D):=l.filter λq=>!decide (q.1=a)
def jt(l:List (Q.α×D))(p:Q.α×D):List (Q.α×D):=h9 l p.1++[p]
def kl(l:List (Q.α×D))(p:Q.α×D):List (Q.α×D):=il Q.blt (jt l p)
def fh(l:List (Q.α×D))(a:Q.α):Option D:=(l.find? λq=>decide (q.1=a)).map (·.2)
def Df{l:List (Q.α×D)}(a:Q.α)(h:(l.map (·.1)).Nodup):((h9 l a).map (·.1)).Nodup:=h.sublist (List.filter_sublist.map _)
def tT{l:List (Q.α×D)}{a:Q.α}{x:Q.α×D}:x∈h9 l a↔x∈l/\x.1≠a:=by
 unfold h9;rw[aln];simp
def zC(l:List (Q.α×D))(a:Q.α):(h9 l a).length<=l.length:=al6 _ _
def xX{l:List (Q.α×D)}(p:Q.α×D)(h:(l.map (·.1)).Nodup):((jt l p).map (·.1)).Nodup:=by
 unfold jt;rw[akP,amy];refine⟨Df _ h,by simp,λa e b c=>?_⟩;obtain⟨x,d,rfl⟩:=akM.mp e;rw[show b=p.1 by simpa using c];exact(tT.mp d).2
def xW{l:List (Q.α×D)}{p x:Q.α×D}:x∈jt l p↔(x∈l/\x.1≠p.1)\/x=p:=by
 unfold jt;rw[akO,tT,akt]
def Bd(l:List (Q.α×D))(p:Q.α×D):(jt l p).length<=l.length+1:=by
 unfold jt;rw[akh,amA];have:=zC l p.1;omega
def Gx{l:List (Q.α×D)}(p:Q.α×D)(h:(l.map (·.1)).Nodup):k9 Q (kl l p):=GX Q _ (xX p h)
def u6{l:List (Q.α×D)}{p x:Q.α×D}:x∈kl l p↔(x∈l/\x.1≠p.1)\/x=p:=by
 unfold kl;rw[(Bk _ _).mem_iff,xW]
def VA{l:List (Q.α×D)}(b:(l.map (·.1)).Nodup)(a:x∈l):l.find? (λq=>decide (q.1=x.1))=some x:=by
 induction l with
 |nil=>cases a
 |cons y l c=>
  rw[akm,ak8]at b;rcases akq.mp a with rfl|a
  .rw[alf (by simp)]
  .have d:¬y.1=x.1:=λh=>b.1 (by rw[h];exact amg a)
   rw[ak3 (by simpa using d)];exact c b.2 a
def t_{l:List (Q.α×D)}(a:(l.map (·.1)).Nodup)(b:x∈l):fh l x.1=some x.2:=by
 unfold fh;rw[VA a b];rfl
def qv{l:List (Q.α×D)}{a:Q.α}{d:D}(h:fh l a=some d):(a,d)∈l:=by
 unfold fh at h;obtain⟨x,b,rfl⟩:=amt.mp h;have c:=aoc b;have e:x.1=a:=by have:=List.find?_some b;simpa using this
 rw[<-e];exact c
def Ms{l:List (Q.α×D)}(b:(l.map (·.1)).Nodup):fh l a=some d↔(a,d)∈l:=⟨qv,λh=>t_ b h⟩
def V0{l b:List (Q.α×D)}(c:(b.map (·.1)).Nodup)(h:∀d,(a,d)∈b↔o=some d):fh b a=o:=by
 cases o with
 |some d=>exact(Ms c).mpr ((h d).mpr rfl)|none=>
  cases e:fh b a with
  |none=>rfl|some d=>exact((h d).mp (qv e)).symm
def V1{l:List (Q.α×D)}(p:Q.α×D)(b:(l.map (·.1)).Nodup)(a:Q.α):fh (kl l p) a=if a=p.1 then some p.2 else fh l a:=
 V0 (l:=l) (Gx p b).nodup fun d=>by
  rw[u6]
  by_cases e:a=p.1
  .rw[if_pos e]
   constructor
   .rintro(⟨_,h⟩|h)
    .exact absurd e h
    .rw[<-h]
   .intro h
    refine .inr ?_;cases p;cases h;rw[e]
  .rw[if_neg e,Ms b]
   constructor
   .rintro(⟨h,_⟩|h)
    .exact h
    .rw[<-h]at e;exact absurd rfl e
   .exact λh=>.inl ⟨h,e⟩
def Dg(b:Q.α)(h:k9 Q l):k9 Q (h9 l b):=List.Pairwise.sublist List.filter_sublist h
def QN(h:k9 Q l):il Q.blt l=l:=(GZ Q h.nodup (.refl _) h).symm
def H8(h:l.Nodup):kz Q.blt l=true:=by
 induction l with
 |nil=>rfl|cons a r c=>
  rw[ak8]at h;unfold kz;rw[c h.2,Bool.and_true,alq];intro b d
  cases aq:Q.blt a b with
  |true=>rfl|false=>
   cases aC:Q.blt b a with
   |true=>rfl|false=>exact absurd (Q.total a b aq aC▸d) h.1
end
section
variable{Z:gF}[DecidableEq Z.κ.α]
theorem Od(b:∀a,Z.un (Z.d7 a)=some a){mf:bx}:∀{l:List (Z.κ.α×D)},(∀x∈l,mf [x.2]=pure (.v (Z.d7 x.1)))->keysOf Z mf (l.map (·.2))=some (l.map (·.1))
 |[],_=>rfl|x::l,h=>by
  have e:An Z mf x.2=some x.1:=by
   unfold An;rw[h x akj];exact b x.1
  rw[akm,akm];unfold keysOf;rw[e,Od b λy c=>h y (aki _ c)]
theorem zip_rows{α a:Type}:∀l:List (α×a),(l.map (·.1)).zip (l.map (·.2))=l
 |[]=>rfl| x::l=>by rw[akm,akm,amY,zip_rows l]
def G0(b:∀a,Z.un (Z.d7 a)=some a){mf:bx}{l:List (Z.κ.α×D)}(h:∀x∈l,mf [x.2]=pure (.v (Z.d7 x.1))){r:R}(d:r.fv=some (l.map (·.2)))(c:(l.map (·.1)).Nodup)(e:l.length<64) :
  qu Z mf r=pure (.fr ((il Z.κ.blt l).map (·.2))):=by
 unfold qu;rw[d];dsimp only;rw[Od b h];dsimp only;rw[if_pos ⟨H8 (Q:=Z.κ.toKeyOrd) c,by rw[akc];exact e⟩,zip_rows]
end
end aS
namespace aS
open PySem PySem.Spec aB
abbrev eB:=jr.κ.toKeyOrd
def cT(a:List Nat):Str:=⟨a.toArray⟩
abbrev cd(s:Str):List Nat:=s.cps.toList
def Kg(a:List Nat):cd (cT a)=a:=rfl
def Rv(a:List Nat):jr.un (jr.d7 a)=some a:=rfl
def Z0(a:List Nat):jr.d7 a=.str (cT a):=rfl
def Rt:cT a=cT b↔a=b:=⟨λh=>by rw[<-Kg a,h,Kg],λh=>by rw[h]⟩
def LZ(d:akz (cT a)=true)(c:akz (cT b)=true):oEq (.v (.str (cT a))) (.v (.str (cT b)))=pure (.v (.az (decide (a=b)))):=by
 rw[qs (x:=.v (.str (cT a))) (y:=.v (.str (cT b))) d c];show pure (R.v (D.az (cT a==cT b)))=_
 congr 3
 rw[alD,beq_iff_eq,decide_eq_true_eq,Rt]
def Pl(d:akz (cT a)=true)(c:akz (cT b)=true):ej (.v (.str (cT a))) (.v (.str (cT b)))=pure (.v (.az (!decide (a=b)))):=by
 rw[wm (x:=.v (.str (cT a))) (y:=.v (.str (cT b))) d c];show pure (R.v (D.az (!(cT a==cT b))))=_
 congr 4
 rw[alD,beq_iff_eq,decide_eq_true_eq,Rt]
def k'(a:List Nat):Prop:=akz (cT a)=true/\1<=a.length/\a.length<=8
def aem:akz (cT a)=true↔∀c∈a,c<0x110000:=by
 unfold akz cT;rw[List.all_toArray,alq];simp
def Hf(a:List Nat):(cT a).length=a.length:=by
 show a.toArray.size=_;simp
def Rr(a b:List Nat):cT a++cT b=cT (a++b):=by
 show(⟨a.toArray++b.toArray⟩:Str)=_;unfold cT;simp
def abf:(("add":Str) == "put")=false:=by decide +kernel
def abg:(("do_add":Str) == "do_put")=false:=by decide +kernel
end aS
namespace gb
open PySem PySem.Spec aB aS
def p4(x:Int×D):Prop:=∃n z:D,x.2=.t [.int x.1,n,z]
def p4.hn{x:Int×D}(h:p4 x):fy (.v x.2) (.v (.int 0))=pure (.v (.int x.1)):=by
 obtain⟨n,z,e⟩:=h;rw[e];simp
def p4.slot{x:Int×D}(h:p4 x):c5 x.2=.v x.2:=by
 obtain⟨n,z,e⟩:=h;rw[e];rfl
def Dc{l:List (Int×D)}(h:∀x∈l,p4 x)(c f aV:D)(a:Int):qX [.t [c,.t (l.map (·.2)),f,aV],.int a]=pure (.v ((fh (Q:=gg.κ.toKeyOrd) l a).getD (.t [.int a,.int 0,.ay]))):=by
 have L:=DC (b:=λd U=>Ar (U.set 2 (.v d))) (λx:Int×D=>x.2) (λx=>decide (x.1=a)) (λx=>.v x.2) (λU=>∃s2,U=[.v (.t [c,.t (l.map (·.2)),f,aV]),.v (.int a),s2]) l [.v (.t [c,.t (l.map (·.2)),f,aV]),.v (.int a),.e] ⟨_,rfl⟩
  (λx U g ⟨s2,i⟩=>by
   subst i;have hn:=(h x g).hn;refine⟨λq=>?_,λq=>⟨[.v (.t [c,.t (l.map (·.2)),f,aV]),.v (.int a),.v x.2],?_,_,rfl⟩⟩
   .have q:x.1=a:=of_decide_eq_true q
    simp only[Ar];simp[hn,q]
   .have q:¬x.1=a:=of_decide_eq_false q
    simp only[Ar];simp[hn,q])
 simp only[qX,II,IJ];unfold fh
 cases e:l.find? (λx=>decide (x.1=a))with
 |some x=>
  have:=L.1 x e;simp[this]
 |none=>
  obtain⟨U',j,s2,rfl⟩:=L.2 e;simp[j]
def Ot{x:Int×D}(h:p4 x):fnOf 1 1 (bA (aX 0 0)) [x.2]=pure (.v (.int x.1)):=by
 have:=h.hn;simp[h.slot,this]
def af6{l:List (Int×D)}(h:∀x∈l,p4 x)(g:(l.map (·.1)).Nodup)(m:l.length<63)(c d aV:D)(a:Int)(n z:D)(av:c5 n=.v n)(hz:c5 z=.v z) :
  AP [.t [c,.t (l.map (·.2)),d,aV],.int a,n,z]=pure (.v (.t [c,.t ((kl (Q:=gg.κ.toKeyOrd) l (a,.t [.int a,n,z])).map (·.2)),d,aV])):=by
 have bM:f7 (aL (ak ej (aX 0 0) (J 1))) (J 0) [.e,.v (.int a)] (l.map (·.2))=pure ((h9 (Q:=gg.κ.toKeyOrd) l a).map (·.2)):=
  lY (λx:Int×D=>x.2) (λx=>!decide (x.1=a)) (λx=>x.2) l (λx b=>by
   have hn:=(h x b).hn;simp[hn];rfl) λx _ _=>by simp
 have j:l.length<akg:=eP (by omega);have dl:=zC (Q:=gg.κ.toKeyOrd) l a;have i:(h9 (Q:=gg.κ.toKeyOrd) l a).length<akg:=eP (by omega);have dh:=G0 (Z:=gg) (λ_=>rfl) (mf:=fnOf 1 1 (bA (aX 0 0))) (l:=jt (Q:=gg.κ.toKeyOrd) l (a,.t [.int a,n,z])) (λx b=>by
  rcases(xW (Q:=gg.κ.toKeyOrd)).mp b with⟨b,_⟩|rfl
  .exact Ot (h x b)
  .exact Ot ⟨n,z,rfl⟩) (r:=.mv ((h9 (Q:=gg.κ.toKeyOrd) l a).map (·.2)++[.t [.int a,n,z]])) (by
   show some _=some _;unfold jt;rw[akP];rfl) (xX _ g) (by have:=Bd (Q:=gg.κ.toKeyOrd) l (a,.t [.int a,n,z]);omega)
 have k:∀(f:bj)(U:aJ)(mf:bx),tN gg mf f U=(do let x <-f U;qu gg mf x):=λ_ _ _=>rfl
 simp only[AP,JK,JL,JM];unfold kl;simp[av,hz,bM,j,i,dh,k]
abbrev rC:=List (List Nat×D)
def j2(x:List Nat×D):Prop:=k' x.1/\∃n:Int,n≠0/\x.2=.t [.str (cT x.1),.int n]
def j2.hn(h:j2 x):fy (.v x.2) (.v (.int 0))=pure (.v (.str (cT x.1))):=by
 obtain⟨_,n,_,e⟩:=h;rw[e];simp
def j2.slot(h:j2 x):c5 x.2=.v x.2:=by
 obtain⟨_,n,_,e⟩:=h;rw[e];rfl
def mH:Option D->Int
 |some (.t [_,.int n])=>n|_=>0
def Ki{l:rC}(h:∀x∈l,j2 x)(d c aV:D)(g:k' a):xj [.t [.t (l.map (·.2)),d,c,aV],.str (cT a)]=pure (.v (.int (mH (fh (Q:=eB) l a)))):=by
 have L:=DC (b:=λd U=>Aq (U.set 2 (.v d))) (λx:List Nat×D=>x.2) (λx=>decide (x.1=a)) (λx=>.v (.int (mH (some x.2)))) (λU=>∃s2,U=[.v (.t [.t (l.map (·.2)),d,c,aV]),.v (.str (cT a)),s2]) l [.v (.t [.t (l.map (·.2)),d,c,aV]),.v (.str (cT a)),.e] ⟨_,rfl⟩
  (λx U f ⟨s2,i⟩=>by
   subst i;have hn:=(h x f).hn;have eq:=LZ (h x f).1.1 g.1;obtain⟨_,n,_,e⟩:=h x f;refine⟨λq=>?_,λq=>⟨[.v (.t [.t (l.map (·.2)),d,c,aV]),.v (.str (cT a)),.v x.2],?_,_,rfl⟩⟩
   .rw[q]at eq
    simp only[Aq];rw[e]at hn ⊢;simp[hn,eq,mH]
   .rw[q]at eq
    simp only[Aq];simp[hn,eq])
 simp only[xj,ID,IE];unfold fh
 cases e:l.find? (λx=>decide (x.1=a))with
 |some x=>
  have:=L.1 x e;simp[this]
 |none=>
  obtain⟨U',j,s2,rfl⟩:=L.2 e;simp[j,mH]
def Fc(h:j2 x):fnOf 1 1 (bA (aX 0 0)) [x.2]=pure (.v (jr.d7 x.1)):=by
 have:=h.hn;rw[Z0];simp[h.slot,this]
noncomputable def ko(l:rC)(a:List Nat)(n:Int):rC:=if n=0 then h9 (Q:=eB) l a else kl (Q:=eB) l (a,.t [.str (cT a),.int n])
def afy(h:k9 eB l)(a:List Nat)(n:Int):k9 eB (ko l a n):=by
 unfold ko;split
 .exact Dg a h
 .exact Gx _ h.nodup
def afz(h:∀x∈l,j2 x)(c:k' a)(n:Int):∀x∈ko l a n,j2 x:=λx b=>by
 unfold ko at b;split at b
 .exact h x ((tT (Q:=eB)).mp b).1
 .rename_i q
  rcases(u6 (Q:=eB)).mp b with⟨b,_⟩|rfl
  .exact h x b
  .exact⟨c,n,q,rfl⟩
def RK{l:rC}(h:∀x∈l,j2 x)(c:k9 eB l)(p:l.length<63)(d j aV:D)(f:k' a)(n:Int) :
  xp [.t [.t (l.map (·.2)),d,j,aV],.str (cT a),.int n]=pure (.v (.t [.t ((ko l a n).map (·.2)),d,j,aV])):=by
 have bM:f7 (aL (ak ej (aX 0 0) (J 1))) (J 0) [.e,.v (.str (cT a))] (l.map (·.2))=pure ((h9 (Q:=eB) l a).map (·.2)):=
  lY (λx:List Nat×D=>x.2) (λx=>!decide (x.1=a)) (λx=>x.2) l (λx b=>by
   have hn:=(h x b).hn;have ne:=Pl (h x b).1.1 f.1;simp[hn,ne]) λx _ _=>by simp
 have i:l.length<akg:=eP (by omega);have dl:=zC (Q:=eB) l a;have g:(h9 (Q:=eB) l a).length<akg:=eP (by omega);have m:∀(k:bj)(U:aJ)(mf:bx),tN jr mf k U=(do let x <-k U;qu jr mf x):=λ_ _ _=>rfl
 simp only[xp,JH,JI,JJ];unfold ko
 by_cases q:n=0
 .have dh:=G0 (Z:=jr) Rv (mf:=fnOf 1 1 (bA (aX 0 0))) (l:=h9 (Q:=eB) l a) (λx b=>Fc (h x ((tT (Q:=eB)).mp b).1)) (r:=.mv ((h9 (Q:=eB) l a).map (·.2))) rfl (Df a c.nodup) (by omega)
  rw[QN (Q:=eB) (Dg a c)]at dh;rw[if_pos q];simp[q,bM,i,g,dh,m]
 .have dh:=G0 (Z:=jr) Rv (mf:=fnOf 1 1 (bA (aX 0 0))) (l:=jt (Q:=eB) l (a,.t [.str (cT a),.int n])) (λx b=>by
   rcases(xW (Q:=eB)).mp b with⟨b,_⟩|rfl
   .exact Fc (h x b)
   .exact Fc ⟨f,n,q,rfl⟩) (r:=.mv ((h9 (Q:=eB) l a).map (·.2)++[.t [.str (cT a),.int n]])) (by
    show some _=some _;unfold jt;rw[akP];rfl) (xX _ c.nodup) (by have:=Bd (Q:=eB) l (a,.t [.str (cT a),.int n]);omega)
  rw[if_neg q];unfold kl;simp[q,bM,i,g,dh,m]
def Ie(x:D)(ds:List D):fp (x::ds) 0=some x:=oQ 0 rfl
def aeT:sZ.lookup ("put":Str)=some ("do_put":Str):=by
 unfold sZ;simp only[akU,beq_self_eq_true]
def VF:wD.lookup ("do_put":Str)=some xl:=by
 unfold wD;simp only[akU,beq_self_eq_true]
def ab5{s a r:D}(av:c5 s=.v s)(b:c5 a=.v a)(h:xl [s,a,.t (.str "put"::ds)]=pure (.v r)):oc [s,a,.t (.str "put"::ds)]=pure (.v r):=by
 simp only[oc,CF,CG];simp[av,b,Ie,aeT,VF,h]
def aeS:sZ.lookup ("add":Str)=some ("do_add":Str):=by
 unfold sZ;simp only[akU,beq_self_eq_true,abf]
def VE:wD.lookup ("do_add":Str)=some xk:=by
 unfold wD;simp only[akU,beq_self_eq_true,abg]
def ab0{s a r:D}(av:c5 s=.v s)(b:c5 a=.v a)(h:xk [s,a,.t (.str "add"::ds)]=pure (.v r)):oc [s,a,.t (.str "add"::ds)]=pure (.v r):=by
 simp only[oc,CF,CG];simp[av,b,Ie,aeS,VE,h]
section
variable{l:rC}(h:∀x∈l,j2 x)(aE:k9 eB l)(hl:l.length<63)(d le aV:D){a:List Nat}(ar:k' a)(n i:Int)
include h aE hl ar
theorem ab8:oc [.t [.t (l.map (·.2)),d,le,aV],.int i,.t [.str "put",.str (cT a),.int n]]=pure (.v (.t [.t [.t ((ko l a n).map (·.2)),d,le,aV],.int (mH (fh (Q:=eB) l a))])):=
 ab5 rfl rfl (by
  have aq:=RK h aE hl d le aV ar n;have aC:=Ki h d le aV ar;simp[xl,IH,aq,aC])
theorem ab7:oc [.t [.t (l.map (·.2)),d,le,aV],.int i,.t [.str "add",.str (cT a),.int n]]=pure (.v (.t [.t [.t ((ko l a (mH (fh (Q:=eB) l a)+n)).map (·.2)),d,le,aV],.int (mH (fh (Q:=eB) l a)+n)])):=
 ab0 rfl rfl (by
  have aq:=RK h aE hl d le aV ar (mH (fh (Q:=eB) l a)+n);have aC:=Ki h d le aV ar;simp[xk,IF,IG,aq,aC])
end
def ry(x:Int×D):Prop:=∃(n:Int)(z:D),x.2=.t [.int x.1,.int n,z]
def ry.qp{x:Int×D}(h:ry x):p4 x:=by obtain⟨n,z,e⟩:=h;exact⟨_,_,e⟩
def kO:Option D->Int
 |some (.t [_,.int n,_])=>n|_=>0
def Ov{l:List (Int×D)}(h:∀x∈l,ry x)(a:Int):fy (.v ((fh (Q:=gg.κ.toKeyOrd) l a).getD (.t [.int a,.int 0,.ay]))) (.v (.int 1))=pure (.v (.int (kO (fh (Q:=gg.κ.toKeyOrd) l a)))):=by
 cases q:fh (Q:=gg.κ.toKeyOrd) l a with
 |none=>simp[kO]|some d=>
  obtain⟨n,z,e⟩:=h _ (qv q);have e:d=.t [.int a,.int n,z]:=e;subst e;simp[kO]
def w4(c d a aV:D):m_ [.t [c,d,a,aV]]=(do hq (.v aV) (.v .ay)):=by
 simp[m_,I2,pv,CH]
section
variable{l:List (Int×D)}(h:∀x∈l,ry x)(c le aV:D)(a n:Int)
include h
theorem LO(ds:D)(hd:c5 ds=.v ds)(q:ds=.ay\/(∃xs,ds=.t xs)/\(aV=.str "over"\/(∃b,aV=.t b)\/aV=.ay/\n<=kO (fh (Q:=gg.κ.toKeyOrd) l a))) :
  m9 [.t [c,.t (l.map (·.2)),le,aV],.int a,.int n,ds]=pure (.v (.t [c,.t (l.map (·.2)),le,aV])):=by
 have aq:=Dc (λx d=>(h x d).qp) c le aV a;have aC:=Ov h a;simp only[m9,CA,CB,CC];rcases q with rfl|⟨⟨xs,rfl⟩,rfl|⟨b,rfl⟩|⟨rfl,q⟩⟩
 .simp
 .simp[w4]
 .simp[w4]
 .simp[w4,aq,aC,q]
theorem U8(xs:List D)(q:kO (fh (Q:=gg.κ.toKeyOrd) l a)<n)(g:l.length<63)(d:(l.map (·.1)).Nodup){c' le' sh' v:D}
  (f:oc [.t [c,.t (l.map (·.2)),le,.ay],.int a,.t xs]=pure (.v (.t [.t [c',.t (l.map (·.2)),le',sh'],v]))) (e:c5 v=.v v) :
  m9 [.t [c,.t (l.map (·.2)),le,.ay],.int a,.int n,.t xs]=pure (.v (.t [c',.t ((kl (Q:=gg.κ.toKeyOrd) l (a,.t [.int a,.int n,v])).map (·.2)),le',sh'])):=by
 have aq:=Dc (λx b=>(h x b).qp) c le .ay a;have aC:=Ov h a;have cP:=af6 (λx b=>(h x b).qp) d g c' le' sh' a (.int n) v rfl e;have i:¬n<=kO (fh (Q:=gg.κ.toKeyOrd) l a):=by omega
 simp only[m9,CA,CB,CC];simp[w4,aq,aC,i,f,cP]
end
def aby{l:List (Int×D)}(h:∀x∈l,ry x)(a n:Int)(v:D):∀x∈kl (Q:=gg.κ.toKeyOrd) l (a,.t [.int a,.int n,v]),ry x:=λx b=>by
 rcases(u6 (Q:=gg.κ.toKeyOrd)).mp b with⟨b,_⟩|rfl
 .exact h x b
 .exact⟨n,v,rfl⟩
end gb
namespace gb
open PySem PySem.Spec aB aS k7
def Good(r:aI):Prop:=r.wf/\r.deep<=4/\r.names.length<=12
end gb
namespace gb
open PySem PySem.Spec aB aS k7 iv oH
def Ho(i:Int):uz [.int i]=pure (.v (.az true)):=by kernel_rfl
def RJ(xs:List D):uz [.t xs]=pure (.v (.az false)):=by kernel_rfl
def DZ(m k:Nat):qY [bU m,bU k]=pure (.v (.az (gc m k))):=by
 simp only[qY,IP,l'];simp[(TX m k)]
def FH(a:List Nat)(h:∀k∈a,k<=1000):uG [.l (a.map bU)]=pure (.v (bU (maskOf a))):=by
 obtain⟨U',e,s2,rfl⟩:=wF (b:=λd U=>E9 (U.set 2 (.v d))) (ds:=a.map bU) (U:=[.cf (a.map bU),.v (.int 0),.e])
  (λi U=>∃s2,U=[.cf (a.map bU),.v (bU (maskOf (a.take i))),s2]) ⟨_,rfl⟩ (λi d U hd ⟨s2,f⟩=>by
   subst f;obtain⟨k,c,rfl⟩:=FG hd;have g:=h k (akQ c);refine⟨_,.inl (?_:_=pure (fe.bl [.cf (a.map bU),.v (bU (maskOf (a.take (i+1)))),.v (bU k)])),_,rfl⟩;rw[take_snoc c,FI,l' (_ ||| _),<-Ge];have k1:(k:Int)<=1000000:=by omega
   simp only[E9,l'];simp[k1])
 simp only[uG,Jx,Jy,Jz];simp[e]
def Z4(h:m<64):AI [bU m]=pure (.fr ((Am m).map bU)):=by
 have b:=bits_le m h;have c:f7 (aL (bC qY (a7 (J 1) (J 0)))) (J 0) [.e,.v (bU m)] ((akV (bits m)).map bU)=pure (((akV (bits m)).filter (gc m)).map bU):=
  lY bU (gc m) bU _ (λk _=>by simp[DZ]) λk _ _=>by simp
 have a:-4611686018427387904<=((bits m:Nat):Int)/\((bits m:Nat):Int)<4611686018427387904:=by omega
 have z:bits m<akg:=eP (by omega);rw[Z1];simp only[AI,I3];simp only[l' m]at c ⊢;simp[Zk,a,Qu,z,c]
theorem Pe:∀(n:Nat)(r:aI),r.deep<n->r.names.length<=1000->qZ n [enc r]=pure (.fr (r.names.map bU))
 |0,r,h,_=>absurd h (amn _)|n+1,.kp k,h,_=>by
  simp only[qZ,zh,wo,aI.names];simp[Ho,l']
 |n+1,.ch k ps,h,hl=>by
  simp only[aI.deep]at h;simp only[aI.names]at hl ⊢;rw[qt];obtain⟨U',e,s2,rfl⟩:=wF (b:=λd U=>E_ (qZ n) (U.set 2 (.v d))) (ds:=ps.map enc) (U:=[.v (.t [.int (k:Nat),.t (ps.map enc)]),.fc false [],.e])
   (λi U=>∃s2,U=[.v (.t [.int (k:Nat),.t (ps.map enc)]),.fc false ((aI.eG (ps.take i)).map bU),s2]) ⟨_,rfl⟩ (λi d U hd ⟨s2,f⟩=>by
    subst f;obtain⟨r,c,rfl⟩:=FG hd;refine⟨_,.inl (?_:_=pure (fe.bl [.v (.t [.int (k:Nat),.t (ps.map enc)]),.fc false ((aI.eG (ps.take (i+1))).map bU),.v (enc r)])),_,rfl⟩;have a:(aI.eG (ps.take (i+1))).length<=1000:=by
     have:aI.eG ps=aI.eG (ps.take (i+1))++aI.eG (ps.drop (i+1)):=by rw[<-xt,List.take_append_drop]
     rw[this,akh]at hl;omega
    rw[(take_snoc c),xt]at a ⊢;rw[show aI.eG [r]=r.names from ak5 _]at a ⊢;rw[akh]at a;simp only[E_];simp[(Pe n r ((rI (ps:=ps) (n:=n) (by omega)) r (akQ c)) (by omega)),(alj (eP (by omega)))])
  simp only[qZ,zh,JD,JE,JF];simp[RJ,e]
def named_eq{r:aI}(hw:r.wf)(hd:r.deep<12)(c:r.names.length<=1000):xn [enc r]=pure (.v (bU (maskOf r.names))):=by
 have a:=FH r.names λk b=>by have:=q3 r hw k b;omega
 simp only[xn,JC];simp[(Pe 12 r hd c),a]
theorem Dv(m:Nat):∀(n:Nat)(r:aI),r.deep<n->r.wf->kI n [enc r,bU m]=pure (.v (.az (r.fills (gc m))))
 |0,r,h,_=>absurd h (amn _)|n+1,.kp k,h,hw=>by
  have b:=DZ m k;simp only[kI,zd,wo,aI.fills];simp only[l']at b ⊢;simp[Ho,b]
 |n+1,.ch k ps,h,hw=>by
  simp only[aI.deep]at h;simp only[aI.wf]at hw;rw[qt];have c:f7 (aL (bC (kI n) (a7 (J 0) (J 1)))) (J 0) [.e,.v (bU m)] (ps.map enc)=pure ((ps.filter (aI.fills (gc m))).map enc):=
   lY enc (aI.fills (gc m)) enc ps (λr a=>by simp[Dv m n r ((rI (by omega)) r a) ((yu.mp hw.2.2.2) r a)]) λr _ _=>by simp
  have z:ps.length<akg:=eP (by omega);have e:decide (((k:Nat):Int)<=(aI.cnt (gc m) ps:Nat))=decide (k<=aI.cnt (gc m) ps):=decide_eq_decide.mpr (by omega);simp only[kI,zd,IK,aI.fills];simp only[l' m]at c ⊢;simp[RJ,c,z,zx,e]
end gb
namespace oH
open iv k7
def tX(a k:aI):Nat:=maskOf a.names ||| maskOf k.names
def aaS(xs:List Nat):∀a:List Nat,maskOf (xs++a)=maskOf xs ||| maskOf a:=by
 intro a;have:∀n,∀a:List Nat,a.length=n->maskOf (xs++a)=maskOf xs ||| maskOf a:=by
  intro n
  induction n with
  |zero=>intro a h;rw[aot.mp h,ak5];exact(Nat.or_zero _).symm|succ n b=>
   intro a h;rcases List.eq_nil_or_concat a with rfl|⟨l,k,rfl⟩
   .cases h
   .rw[List.concat_eq_append]at h ⊢
    rw[akh,amA]at h;rw[<-al9,aS.FI,b l (by omega),aS.FI,Nat.or_assoc]
 exact this _ _ rfl
def L0{a k:aI}(c:a.wf)(d:k.wf):tX a k=og λj=>(a.names++k.names).contains j:=by
 unfold tX;rw[<-aaS,O4];intro n b;rcases akO.mp b with h|h
 .exact q3 a c n h
 .exact q3 k d n h
def L1{a k:aI}(b:a.wf)(c:k.wf):tX a k<64:=by rw[L0 b c];exact aa2 _
end oH
namespace gb
open PySem PySem.Spec aB aS k7 iv oH
def d5(a k:aI):D:=.t [enc a,enc k]
def aaX{a k:aI}(b:Good a)(c:Good k):AO [d5 a k]=pure (.v (bU (tX a k))):=by
 have d:=named_eq b.1 (by have:=b.2.1;omega) (by have:=b.2.2;omega);have e:=named_eq c.1 (by have:=c.2.1;omega) (by have:=c.2.2;omega);unfold d5;simp only[AO,JA];simp only[l']at d e ⊢;simp[d,e,Ge,tX]
def EA(j:Nat)(a:List Nat):ng false (.v (bU j)) (.v (.l (a.map bU)))=pure (.v (.az (a.contains j))):=by
 have b:(a.map bU).all D.flat=true:=by rw[List.all_map];exact alq.mpr λ_ _=>rfl
 show(if(bU j).flat=true/\(a.map bU).all D.flat=true then pure (R.v (D.az (if false=true then !inD (bU j) (a.map bU)else inD (bU j) (a.map bU))))else bad)=_;rw[if_pos ⟨rfl,b⟩,if_neg akp,Zf]
def Z3:∀m:Nat,m<64->Am m=(akV 6).filter (gc m):=by decide +kernel
def Z2{a k:aI}(b:a.wf)(c:k.wf):Am (tX a k)=(akV 6).filter λj=>(a.names++k.names).contains j:=by
 rw[Z3 _ (L1 b c),L0 b c];exact List.filter_congr λj d=>Pa _ j (alg.mp d)
def aaY{a k:aI}(b:Good a)(c:Good k):m' [d5 a k]=pure (.fr (((akV 6).filter λj=>(a.names++k.names).contains j).map bU)):=by
 have e:=Z4 (L1 b.1 c.1);rw[Z2 b.1 c.1]at e;have aV:c5 (d5 a k)=.v (d5 a k):=rfl;simp only[m',JB];simp[aV,(aaX b c),e]
def bX(a k:aI):List Nat:=(akV 6).filter λj=>(a.names++k.names).contains j
end gb
namespace gb
open PySem PySem.Spec aB aS iv k7 oH
abbrev cF:=Int×Int
abbrev b2(s:cF):D:=.t [.int s.1,.int s.2]
structure b0 where
 k:Nat
 s:cF
 w:D
abbrev dB(g:b0):D:=.t [bU g.k,b2 g.s,g.w]
def Wc(ps:List b0)(h:∀p∈ps,p.k<6)(d:ps.length<=1000):ph [.l (ps.map dB)]=pure (.v (bU (maskOf (ps.map (·.k))))):=by
 have c:f7 gD (aX 0 0) [.e] (ps.map dB)=pure (ps.map (bU∘λp=>p.k)):=qk dB _ ps λp _=>by simp
 have m:=FH (ps.map (·.k)) (λk b=>by obtain⟨p,a,rfl⟩:=akM.mp b;have:=h p a;omega);rw[al3]at m;simp only[ph,IM];simp[c,(eP (by omega)),m]
def LY(s t:cF):oEq (.v (b2 s)) (.v (b2 t))=pure (.v (.az (decide (s=t)))):=by
 rw[qs rfl rfl]
 congr 3
 obtain⟨a,b⟩:=s;obtain⟨c,d⟩:=t;rw[alD];simp[jQ,sN]
def Pk(s t:cF):ej (.v (b2 s)) (.v (b2 t))=pure (.v (.az (!decide (s=t)))):=by
 rw[wm rfl rfl]
 congr 4
 obtain⟨a,b⟩:=s;obtain⟨c,d⟩:=t;rw[alD];simp[jQ,sN]
def SI(ps:List b0)(a:b0)(f:(a::ps).length<=1000):xi [.l ((a::ps).map dB)]=pure (.v (.az ((a::ps).all λp=>decide (p.s=a.s)))):=by
 have c:f7 gD (ak oEq (aX 0 1) (fl (aX 1 0) 1)) [.e,.cf ((a::ps).map dB)] ((a::ps).map dB)=pure ((a::ps).map λp=>D.az (decide (p.s=a.s))):=
  qk dB _ _ λp _=>by
   simp[ (LY p.s a.s)]
 have b:=CK (λp:b0=>decide (p.s=a.s)) (a::ps);generalize d:a::ps=o at *;simp only[xi,IC];simp[c,(eP (by omega)),b]
def c8(s t:cF):Bool:=decide (t.1<s.1)||decide (s.1=t.1)&&decide (t.2<s.2)
def OG(s t:cF):l9 [s.1,s.2] [t.1,t.2]=c8 s t:=by
 unfold l9 c8;rw[Ay,Ay]
 by_cases bw:s.1=t.1
 .rw[if_pos bw,bw]
  by_cases cB:s.2=t.2
  .rw[if_pos cB,cB]
   simp[iG]
  .rw[if_neg cB];simp
 .rw[if_neg bw]
  simp[bw]
def AU(b p:b0):b0:=if c8 p.s b.s=true then p else b
def lb(p:b0)(ps:List b0):b0:=ps.foldl AU p
abbrev w9:bx:=fnOf 1 1 (bA (aX 0 1))
theorem FJ:∀(ps:List b0)(b:b0),pg w9 (ps.map dB) (some (dB b,[b.s.1,b.s.2]))=some (dB (lb b ps))
 |[],b=>rfl|p::ps,b=>by
  show pg w9 (ps.map dB) (if l9 [p.s.1,p.s.2] [b.s.1,b.s.2]=true then _ else _)=some (dB (lb (if c8 p.s b.s=true then p else b) ps));rw[OG]
  by_cases q:c8 p.s b.s=true
  .rw[if_pos q,if_pos q];exact FJ ps p
  .rw[if_neg q,if_neg q];exact FJ ps b
def n_(op:D)(g:b0):D:=.t [b2 g.s,if g.s=(0,0)then op else g.w]
def Yw(p:b0)(ps:List b0)(op:D)(c:c5 op=.v op)(f:(p::ps).length<64):AF [.l ((p::ps).map dB),op]=pure (.v (n_ op (lb p ps))):=by
 have e:pg w9 ((p::ps).map dB) none=some (dB (lb p ps)):=FJ ps p;generalize lb p ps=b at *;generalize p::ps=o at *;have a:=LY b.s (0,0);have z:(o.map dB).length<64:=by rw[akc];exact f
 have d:wB w9 (.cf (o.map dB))=pure (.v (dB b)):=by
  show(match pg w9 (o.map dB) none with|some r=>if(o.map dB).length<64 then(pure (R.v r):M R)else bad|none=>bad)=_;rw[e];dsimp only;rw[if_pos z]
 unfold n_;simp only[AF,IQ,IS,IT]
 by_cases q:b.s=(0,0)
 .rw[q]at a
  simp[c,d,q,a]
 .simp[q]at a
  simp[c,d,q,a]
end gb
namespace gb
open PySem PySem.Spec aB aS
def mM{n N:Nat}{b:aY}{ds:List D}(h:ds.length=n)(e:b (ds.map c5++akA (N-n) .e)=pure (.cp (.v d))):fnOf n N b ds=pure (.v d):=by
 rw[Di,if_pos h,e];rfl
def eX{a b:aY}(e:a U=pure (.bl U')):bW a b U=b U':=by rw[bW,e];rfl
def pH{a b:aY}{r:R}(e:a U=pure (.cp r)):bW a b U=pure (.cp r):=by rw[bW,e];rfl
def jn{t:aJ->M Bool}{a b:aY}(e:t U=pure true):b9 t a b U=a U:=by rw[b9,e];rfl
def m4{t:aJ->M Bool}{a b:aY}(e:t U=pure false):b9 t a b U=b U:=by rw[b9,e];rfl
def PG{a b:aJ->M Bool}(h:a U=pure true):ip a b U=pure true:=by show(a U >>= _)=_;rw[h];rfl
def sM{a b:aJ->M Bool}(h:a U=pure false):ip a b U=b U:=by show(a U >>= _)=_;rw[h];rfl
def AX{a:aJ->M Bool}(h:a U=pure true):ew a U=pure false:=by show(a U >>= _)=_;rw[h];rfl
def abt{a:aJ->M Bool}(h:a U=pure false):ew a U=pure true:=by show(a U >>= _)=_;rw[h];rfl
def dc{m:bj}(h:m U=pure (.v (.az b))):aL m U=pure b:=by show(m U >>= _)=_;rw[h];rfl
def SO{a b:aJ->M Bool}(h:a U=pure true):fW a b U=b U:=by show(a U >>= _)=_;rw[h];rfl
def SM{a b:aJ->M Bool}(h:a U=pure false):fW a b U=pure false:=by show(a U >>= _)=_;rw[h];rfl
def bN{f:R->R->M R}{a b:bj}{r:M R}(e:f x y=r)(aq:a U=pure x)(aC:b U=pure y):ak f a b U=r:=by
 show(a U >>= _)=_;rw[aq];rw[aC];exact e
def fL{m:bj}{U:aJ}(e:m U=pure (.v d)):b1 i m U=pure (.bl (U.set i (.v d))):=by show(m U >>= _)=_;rw[e];rfl
def kS{m:bj}(e:m U=pure (.v d)):bA m U=pure (.cp (.v d)):=by show(m U >>= _)=_;rw[e];rfl
def y_{a:cW}{U:aJ}{xs:List D}(h:U[i]? = some (.fc p xs))(e:a U=pure [.v d])(z:xs.length<akg):ja i hY a U=pure (.bl (U.set i (.fc p (xs++[d])))):=by
 simp[h,e,z]
def call_of{mf:bx}{a:cW}{rs:List R}{r:M R}(aq:a U=pure rs)(e:mf (rs.map R.arg)=r):bC mf a U=r:=by show(a U >>= _)=_;rw[aq];exact e
def mF{f:List R->M R}{a:cW}{r:M R}(e:f rs=r)(aq:a U=pure rs):cV f a U=r:=by show(a U >>= _)=_;rw[aq];exact e
def cons_of{m:bj}{a:cW}(e:m U=pure x)(aq:a U=pure xs):ck m a U=pure (x::xs):=by show(m U >>= _)=_;rw[e];rw[aq];rfl
def va{m:bj}{U:aJ}{r:R}(e:m U=pure r)(h:r.dat=pure d):b1 i m U=pure (.bl (U.set i (.v d))):=by show(m U >>= _)=_;rw[e];show(r.dat >>= _)=_;rw[h];rfl
def Us{xs a:List D}(h:xs.length+a.length<=akg):iZ (.fr xs) (.fr a)=pure (.fr (xs++a)):=if_pos h
def acb{U:aJ}:jJ i (dD cO) U=pure (.bl (U.set i (.fc false []))):=rfl
def Rk{a b c:bj}{x y z:D}(aq:a U=pure (.v x))(aC:b U=pure (.v y))(cP:c U=pure (.v z)):bF (cy a b c) U=pure (.v (.t [x,y,z])):=by
 show(ck a (a7 b c) U >>= _)=_;rw[cons_of aq (cons_of aC (cons_of cP rfl))];rfl
def Rj{a b:bj}(aq:a U=pure (.v x))(aC:b U=pure (.v y)):bF (a7 a b) U=pure (.v (.t [x,y])):=by
 show(ck a (bE b) U >>= _)=_;rw[cons_of aq (cons_of aC rfl)];rfl
def j'{a b:Int}(h:oC a b):fG (.v (.int a)) (.v (.int b))=pure (.v (.int (a / b))):=if_pos h
def rH{it:fB}{t:aJ->M Bool}{ds xs:List D}(aq:it U=pure ds)(z:ds.length<akg)(e:f7 t el (kC n cap U) ds=pure xs):e9 n cap it t el U=pure (.fr xs):=by
 show(it U >>= _)=_;rw[aq];show(h6 (ds.length<akg) >>= _)=_;unfold h6;rw[if_pos z];rw[e];rfl
def zA(e:m=pure (.v d)):(m >>= R.dat)=pure d:=by rw[e];rfl
def Mc{n N:Nat}{b:aY}{ds xs:List D}(h:ds.length=n)(e:b (ds.map c5++akA (N-n) .e)=pure (.cp (.fr xs))):fnOf n N b ds=pure (.fr xs):=by
 rw[Di,if_pos h,e];rfl
def gi{a b:Int}(h:0<b):oMod (.v (.int a)) (.v (.int b))=pure (.v (.int (a % b))):=if_pos h
def jf{a b:Int}:oEq (.v (.int a)) (.v (.int b))=pure (.v (.az (decide (a=b)))):=rfl
def wb{xs a:List D}(h:xs.length+a.length<=akg):iZ (.v (.l xs)) (.fr a)=pure (.fr (xs++a)):=if_pos h
def NW{i:Int}{v:D}(e:fp xs i=some v):fy (.fr xs) (.v (.int i))=pure (.v v):=by
 show(match fp xs i with|some d=>pure (R.v d)|none=>bad)=_;rw[e]
def xb{a:cW}{ds:List D}(e:a U=pure rs)(h:jc rs=pure ds)(z:ds.length<=1000):dD a U=pure (.fr ds):=by
 show(a U >>= _)=_;rw[e];show(jc rs >>= _)=_;rw[h];show(h6 (ds.length<=1000) >>= _)=_;unfold h6;rw[if_pos z];rfl
def aa6{a b:Int}(h:oD a b):xE (.v (.int a)) (.v (.int b))=pure (.v (.int (a*b))):=if_pos h
def Bc{a b n:Int}(h:0<=b/\b<=1000000/\a.natAbs<2 ^ 64)(e:a ^ b.toNat=n):lC (.v (.int a)) (.v (.int b))=pure (.v (.int n)):=by rw[<-e];exact if_pos h
def Rw{is:List Nat}{m:bj}{ds:List D}(e:m U=pure (.v (.t ds)))(h:ds.length=is.length):mG is m U=pure (.bl (lH is ds U)):=by
 show(m U >>= _)=_;rw[e];exact if_pos h
def NH{m:bj}(e:m U=pure (.fr xs)):jO m U=pure xs:=by show(m U >>= _)=_;rw[e];rfl
def aA{α:Type}(S:bL)(m:M α)(a:α):Prop:=m.run S=.ok a S
def br{α:Type}(S:bL)(m:N α)(a:α)(b:bL):Prop:=m.run S=.ok a b
section
variable{α β:Type}{S S1 aT:bL}{U U':aJ}
def aA.of(h:m=pure a):aA S m a:=by rw[h];rfl
theorem aA.bind{f:α->M β}(h:aA S m a)(d:aA S (f a) b):aA S (m >>= f) b:=by
 show(match m.run S with|.ok a S1=>(f a).run S1|.exc c S1=>.exc c S1|.bad=>.bad)=_;rw[show m.run S=.ok a S from h];exact d
def br.bind{f:α->N β}(h:br S m a S1)(d:br S1 (f a) b aT):br S (m >>= f) b aT:=by
 show(match m.run S with|.ok a S1=>(f a).run S1|.exc c S1=>.exc c S1|.bad=>.bad)=_;rw[show m.run S=.ok a S1 from h];exact d
def aA.to{m:M α}(h:aA S m a):br S m.up a S:=h
def EI{p:Prop}[Decidable p](h:p):aA S (h6 p) ():=.of (if_pos h)
def b_{f:R->R->M R}{a b:bj}{x y r:R}(e:f x y=pure r)(c:aA S (a U) x)(d:aA S (b U) y):aA S (ak f a b U) r:=c.bind (d.bind (.of e))
def dw:aA S (cO U) []:=.of rfl
def bJ{m:bj}{a:cW}(h:aA S (m U) x)(b:aA S (a U) xs):aA S (ck m a U) (x::xs):=h.bind (b.bind (.of rfl))
def fb{mf:bx}{a:cW}{rs:List R}{r:R}(h:aA S (a U) rs)(e:aA S (mf (rs.map R.arg)) r):aA S (bC mf a U) r:=h.bind e
def qO{f:List R->M R}{a:cW}{r:R}(e:f rs=pure r)(h:aA S (a U) rs):aA S (cV f a U) r:=h.bind (.of e)
def qP{a:cW}{ds:List D}(h:aA S (a U) rs)(e:jc rs=pure ds)(z:ds.length<=1000):aA S (bF a U) (.v (.t ds)):=h.bind ((aA.of e).bind ((EI z).bind (.of rfl)))
def b8{m:bj}(h:aA S (m U) (.v (.az b))):aA S (aL m U) b:=h.bind (.of rfl)
def N7{a b:aJ->M Bool}(h:aA S (a U) true):aA S (ip a b U) true:=h.bind (.of rfl)
def si{a b:aJ->M Bool}(h:aA S (a U) false)(c:aA S (b U) x):aA S (ip a b U) x:=h.bind c
def gx{a b:aJ->M Bool}(h:aA S (a U) true)(c:aA S (b U) x):aA S (fW a b U) x:=h.bind c
def iV{a b:aJ->M Bool}(h:aA S (a U) false):aA S (fW a b U) false:=h.bind (.of rfl)
def jq{a:aJ->M Bool}(h:aA S (a U) x):aA S (ew a U) (!x):=h.bind (.of rfl)
def uj{it:fB}{t:aJ->M Bool}{ds xs:List D}(h:aA S (it U) ds)(z:ds.length<akg)(e:aA S (f7 t el (kC n cap U) ds) xs):aA S (e9 n cap it t el U) (.fr xs):=h.bind ((EI z).bind (e.bind (.of rfl)))
theorem Al{α:Type}{el:bj}(g:α->D)(f:α->D):∀b:List α,(∀a∈b,aA S (el (U.set 0 (.v (g a)))) (.v (f a)))->aA S (f7 gD el U (b.map g)) (b.map f)
 |[],_=>.of rfl|a::b,h=>(aA.of rfl).bind ((h a (akj ..)).bind ((aA.of rfl).bind ((Al g f b λx c=>h x (aki _ c)).bind (.of rfl))))
def N5{m:bj}{r:R}(h:aA S (m U) r)(e:r.fv=some ds):aA S (jO m U) ds:=h.bind (by rw[e];exact .of rfl)
def EJ{m:bj}(h:aA S (m U) (.fr xs)):aA S (qG m U) xs:=h.bind (.of rfl)
def iW{m:bj}{r:R}(h:aA S (m U) r)(e:r.dat=pure d):aA S (b1 i m U) (.bl (U.set i (.v d))):=h.bind ((aA.of e).bind (.of rfl))
def lx{m:bj}(h:aA S (m U) (.v d)):aA S (bA m U) (.cp (.v d)):=h.bind (.of rfl)
def N8{m:bj}(h:aA S (m U) (.fr xs)):aA S (bA m U) (.cp (.fr xs)):=h.bind (.of rfl)
def iF{t:aJ->M Bool}{a b:aY}(h:aA S (t U) true)(c:aA S (a U) o):aA S (b9 t a b U) o:=h.bind c
def fT{t:aJ->M Bool}{a b:aY}(h:aA S (t U) false)(c:aA S (b U) o):aA S (b9 t a b U) o:=h.bind c
def hR{a b:aY}(h:aA S (a U) (.bl U'))(c:aA S (b U') o):aA S (bW a b U) o:=h.bind c
def w7{a b:aY}{r:R}(h:aA S (a U) (.cp r)):aA S (bW a b U) (.cp r):=h.bind (.of rfl)
def pb{is:List Nat}{m:bj}{ds:List D}(h:aA S (m U) (.v (.t ds)))(e:ds.length=is.length):aA S (mG is m U) (.bl (lH is ds U)):=h.bind (.of (if_pos e))
def m5{n N:Nat}{b:aY}{ds:List D}(h:ds.length=n)(e:aA S (b (ds.map c5++akA (N-n) .e)) (.cp (.v d))):aA S (fnOf n N b ds) (.v d):=by
 rw[Di,if_pos h];exact e.bind (.of rfl)
def m6(h:S[i]? = some o):aA S (gL (.v (.ref i))) o:=(show aA S Mt S from rfl).bind (by rw[h];exact .of rfl)
def ZT{a b:bj}{k:Key}(h:S[i]? = some (.hP o))(c:aA S (a U) (.v (.ref i)))(f:aA S (b U) (.v d7))(g:qQ d7=some k)(e:jL o k=some d):aA S (ak fJ a b U) (.v d):=c.bind (f.bind ((m6 h).bind (by show aA S (match qQ d7 with|some key=>_|none=>_) _;rw[g];show aA S (match jL o k with|some d=>_|none=>_) _;rw[e];exact .of rfl)))
def ZV{m:bj}(h:S[i]? = some (.l xs))(a:aA S (m U) (.v (.ref i))):aA S (lg m U) (.mv xs):=a.bind ((m6 h).bind (.of rfl))
def w6{mf:bx}{mo:bj}{a:cW}{fs:List (Str×D)}{rs:List R}{r:R}(h:S[i]? = some (.bD c fs))(d:aA S (mo U) (.v (.ref i)))(b:fs.lookup m=none)(f:aA S (a U) rs)(e:aA S (mf (.ref i::rs.map R.arg)) r):aA S (e1 c m mf mo a U) r:=d.bind ((m6 h).bind (by show aA S (if c=c/\fs.lookup m=none then _ else _) _;rw[if_pos ⟨rfl,b⟩];exact f.bind e))
def ZR{m:bj}{fs:List (Str×D)}(h:S[i]? = some (.bD c fs))(a:aA S (m U) (.v (.ref i)))(e:fs.lookup f=some d):aA S (bM (cA c f) m U) (.v d):=a.bind ((m6 h).bind (by show aA S (if c=c then _ else _) _;rw[if_pos rfl,e];exact .of rfl))
def ZW{m a:bj}{b:cW}{rs:List R}{k:List Key}(h:S[i]? = some (.fR o))(c:aA S (m U) (.v (.ref i)))(d:aA S (b U) rs)(f:aA S (a U) (.v C))(e:sj rs=some k)(g:rs.length<=1000):aA S (zr m b a U) (.v ((jL o k).getD C)):=c.bind (d.bind (f.bind ((m6 h).bind (by rw[e];exact .of (if_pos g)))))
def c7{a b:b7}(h:br S (a U) (.bl U') S1)(c:br S1 (b U') o aT):br S (bG a b U) o aT:=h.bind c
def tn{a b:b7}{r:R}(h:br S (a U) (.cp r) S1):br S (bG a b U) (.cp r) S1:=h.bind rfl
def mu{t:aJ->N Bool}{a b:b7}(h:br S (t U) true S1)(c:br S1 (a U) o aT):br S (fA t a b U) o aT:=h.bind c
def mr{t:aJ->N Bool}{a b:b7}(h:br S (t U) false S1)(c:br S1 (b U) o aT):br S (fA t a b U) o aT:=h.bind c
def vt{t:aJ->N Bool}{a b:b7}(h:br S (t U) false S1)(c:br S1 (b U) o aT):br S (bG (fA t a (b4 bZ)) b U) o aT:=c7 (mr h rfl) c
def tp{t:aJ->M Bool}{b:b7}(h:aA S (t U) false)(c:br S (b U) o aT):br S (bG (b4 (b9 t a bZ)) b U) o aT:=c7 (fT h (.of rfl)).to c
def agG{m:dC}(h:br S (m U) (.v d) S1):br S (kV m U) (.cp (.v d)) S1:=h.bind rfl
def RT{m:dC}(h:br S (m U) (.fr xs) S1):br S (kV m U) (.cp (.fr xs)) S1:=h.bind rfl
def tl{m:dC}{r:R}(h:br S (m U) r S1):br S (i5 m U) (.bl U) S1:=h.bind rfl
def nC{m:dC}{r:R}(h:br S (m U) r S1)(e:r.dat=pure d):br S (jz i m U) (.bl (U.set i (.v d))) S1:=h.bind ((aA.of e).to.bind rfl)
def x_call{mf:d0}{a:cW}{rs:List R}{r:R}(h:aA S (a U) rs)(av:rs.all R.i3=true)(e:br S (mf (rs.map R.arg)) r S1):br S (ir mf (e5 a) U) r S1:=(aA.to h).bind (by rw[if_pos av];exact e)
def vr{mf:d0}{mo:bj}{a:hL}{fs:List (Str×D)}{rs:List R}{r:R}(h:S[i]? = some (.bD c fs))(d:aA S (mo U) (.v (.ref i)))(b:fs.lookup m=none)(f:br S (a U) rs S)(av:rs.all R.i3=true)(e:br S (mf (.ref i::rs.map R.arg)) r S1):br S (fY c m mf mo a U) r S1:=d.to.bind ((m6 h).to.bind (by show br S (if c=c/\fs.lookup m=none then _ else _) _ _;rw[if_pos ⟨rfl,b⟩];exact f.bind (by rw[if_pos av];exact e)))
def agC{mf:d0}{a:cW}{rs:List R}(h:aA S (a U) rs)(av:rs.all R.i3=true)(e:br (S++[.bD c []]) (mf (.ref S.length::rs.map R.arg)) (.v .ay) S1):br S (yy c mf (e5 a) U) (.v (.ref S.length)) S1:=(aA.to h).bind (by
 rw[if_pos av];exact br.bind rfl (br.bind rfl (br.bind e rfl)))
def tm{n N:Nat}{b:b7}{ds:List D}(h:ds.length=n)(e:br S (b (ds.map c5++akA (N-n) .e)) (.cp (.v d)) S1):br S (fnX n N b ds) (.v d) S1:=by
 unfold fnX;rw[if_pos h];exact e.bind rfl
def Hv{n N:Nat}{b:b7}{ds xs:List D}(h:ds.length=n)(e:br S (b (ds.map c5++akA (N-n) .e)) (.cp (.fr xs)) S1):br S (fnX n N b ds) (.fr xs) S1:=by
 unfold fnX;rw[if_pos h];exact e.bind rfl
def yA{n N:Nat}{b:b7}{ds:List D}(h:ds.length=n)(e:br S (b (ds.map c5++akA (N-n) .e)) (.bl U') S1):br S (fnX n N b ds) (.v .ay) S1:=by
 unfold fnX;rw[if_pos h];exact e.bind rfl
def x_at{mo:bj}{mv:dC}{fs:List (Str×D)}{r:R}(b:br S (mv U) r S1)(e:r.dat=pure d)(a:aA S1 (mo U) (.v (.ref i)))(h:S1[i]? = some (.bD c fs))(g:fs.length<1000):br S (eR c f mo mv U) (.bl U) (S1.set i (.bD c (i1 f d fs))):=b.bind ((aA.of e).to.bind (a.to.bind ((m6 h).to.bind (by
 show br S1 (if c=c/\fs.length<1000 then _ else _) _ _;rw[if_pos ⟨rfl,g⟩];rfl))))
def Hu{mo mk:bj}{mv:dC}{a:List (Key×D)}{r:R}{k:Key}(g:br S (mv U) r S1)(e:r.dat=pure d)(b:aA S1 (mo U) (.v (.ref i)))(c:aA S1 (mk U) (.v d7))(h:S1[i]? = some (.hP a))(f:qQ d7=some k)(j:a.length<1000):br S (vo mo mk mv U) (.bl U) (S1.set i (.hP (je a k d))):=g.bind ((aA.of e).to.bind (b.to.bind (c.to.bind ((m6 h).to.bind (by
 show br S1 (match qQ d7 with|some key=>_|none=>_) _ _;rw[f];show br S1 (if a.length<1000 then _ else _) _ _;rw[if_pos j];rfl)))))
def RQ{mo:bj}{b:cW}{mv:dC}{a:List (List Key×D)}{r:R}{rs:List R}{k:List Key}(j:br S (mv U) r S1)(e:r.dat=pure d)(c:aA S1 (mo U) (.v (.ref i)))(f:aA S1 (b U) rs)(h:S1[i]? = some (.fR a))(g:sj rs=some k)(l:rs.length<=1000/\a.length<1000):br S (yx mo b mv U) (.bl U) (S1.set i (.fR (je a k d))):=j.bind ((aA.of e).to.bind (c.to.bind (f.to.bind ((m6 h).to.bind (by
 rw[g];show br S1 (if rs.length<=1000/\a.length<1000 then _ else _) _ _;rw[if_pos l];rfl)))))
def agz{mo:bj}{b:cW}{xs:List D}(c:aA S (mo U) (.v (.ref i)))(e:aA S (b U) [.v d])(h:S[i]? = some (.l xs))(z:xs.length<akg):br S (yz hY mo b U) (.bl U) (S.set i (.l (xs++[d]))):=c.to.bind (e.to.bind ((m6 h).to.bind ((aA.to (a:=(R.v .ay,xs++[d])) (.of (by show(h6 (xs.length<akg) >>= _)=_;rw[Kk z];rfl))).bind rfl)))
def RS:br S (vp (dI (dD cO)) U) (.v (.ref S.length)) (S++[.l []]):=rfl
def pR{it:fB}(h:aA S (it U) ds)(e:br S (jy (λd U=>b (U.set i (.v d))) ds U) o S1):br S (nB i it b U) o S1:=(aA.to h).bind e
def RR:br S (jy b [] U) (.bl U) S:=rfl
def vq{b:D->b7}(h:br S (b d U) (.bl U') S1)(a:br S1 (jy b ds U') o aT):br S (jy b (d::ds) U) o aT:=h.bind a
def agE{a:aJ->N Bool}(h:br S (a U) x S1):br S (yC a U) (!x) S1:=h.bind rfl
def agy{m:dC}(h:br S (m U) (.v (.az b)) S1):br S (yD m U) b S1:=h.bind rfl
def Fr(W:List Nat)(S a:bL):Prop:=∀j o,j∉W->S[j]? = some o->a[j]? = some o
def Fr.set(h:i∈W):Fr W S (S.set i o):=λj b a e=>by
 rw[aku (λq:i=j=>a (q▸h))];exact e
def Fr.app:Fr W S (S++l):=λj o _ e=>by
 rw[akE (ake.mp e).1];exact e
def Fr.refl:Fr W S S:=λ_ _ _ e=>e
def Fr.trans(h:Fr W S S1)(b:Fr W S1 aT):Fr W S aT:=λj o a e=>b j o a (h j o a e)
def get_set(h:S[i]? = some o):(S.set i C)[i]? = some C:=by
 rw[ak7 (ake.mp h).1]
def DL:(S++[o])[S.length]? = some o:=by rw[aky (akf _),al1];rfl
end
end gb
namespace gb
open PySem PySem.Spec aB aS k7 iv oH
structure bH where
 me:Int
 cD:Int
 h:D
 op:D
 cc:Bool
 cN:Int
 st:cF
 wi:Int
 dd:D
 sg:Str
 c6:D
 aZ:List b0
 km:Nat
 ts:D
noncomputable def bH.fs(a:bH)(g:Nat):List (Str×D):=[("me",.int a.me),("epoch",.int a.cD),("hall",a.h),("opening",a.op),("over_known",.az a.cc),("greatest_round",.int a.cN),("last_stamp",b2 a.st),("wishes",.int a.wi),("deed",a.dd),("standing",.str a.sg),("last_outcome",a.c6),("grants",.ref g),("kept_mask",bU a.km),("told_slate",a.ts)]
def eT(me cD:Int)(s:cF)(k:Nat):D:=.t [.str "ask",.int me,bU k,.int cD,b2 s,.t []]
def gm(me cD:Int)(s:cF)(l:D)(k:Nat):D:=.t [.str "tell",.int me,bU k,.int cD,b2 s,l]
def JZ:D:=.t [.t [],.t [],.t [.int 0,.ay],.ay]
def xw(me:Int)(h:D):bH:=⟨me,0,h,JZ,false,0,(0,0),0,.ay,"calm",.ay,[],0,.ay⟩
structure dM(S:bL)(i g:Nat)(a:bH):Prop where
 bD:S[i]? = some (.bD "Asker" (a.fs g))
 ls:S[g]? = some (.l (a.aZ.map dB))
structure et(S aj:bL)(i g g':Nat)(b:bH):Prop where
 at':dM aj i g' b
 fr:Fr [i,g] S aj
 nw:g'=g\/S.length<=g'
 len:S.length<=aj.length
def eh(S:bL)(i g:Nat)(m:N fe)(b:fe)(c:bH):Prop:=∃a g',br S m b a/\et S a i g g' c
def bH.Do(a:bH)(mf:d0)(ds d:List D)(b:bH):Prop:=∀(S:bL)(i g:Nat),dM S i g a->∃c g',br S (mf (.ref i::ds)) (.fr d) c/\et S c i g g' b
section
variable{S S1 aT:bL}{U U':aJ}{i g g1 g2 k:Nat}{a b c:bH}{f:Str}{d:D}{mv:bj}{r:R}{bd:b7}{aR:fe}
def OO(h:S[i]? = some o):i<S.length:=(ake.mp h).1
def dM.ne(h:dM S i g a):i≠g:=λe=>by have:=h.bD;rw[e,h.ls]at this;cases this
def et.refl(h:dM S i g a):et S S i g g a:=⟨h,.refl,.inl rfl,akf _⟩
def et.trans(h:et S S1 i g g1 b)(m:et S1 aT i g1 g2 c):et S aT i g g2 c:=by
 refine⟨m.at',λj o l e=>m.fr j o ?_ (h.fr j o l e),?_,alc h.len m.len⟩
 .have:=OO e
  simp only[akq,ak6,or_false,not_or]at l ⊢;rcases h.nw with q|q
  .rw[q];exact l
  .exact⟨l.1,by omega⟩
 .rcases m.nw with q|q
  .rw[q];exact h.nw
  .exact .inr (alc h.len q)
def dk(h:dM S i g a)(j:J k U=pure (.v (.ref i)))(e:(a.fs g).lookup f=some d):aA S (bM (cA "Asker" f) (J k) U) (.v d):=ZR h.bD (.of j) e
def EY:(a.fs g).length<1000:=by show 14<1000;omega
theorem ji(h:dM S i g a)(b:bH)(m:J k U=pure (.v (.ref i)))(n:aA S (mv U) r)(l:r.dat=pure d)(e:i1 f d (a.fs g)=b.fs g)(p:b.aZ=a.aZ)(q:∀S1,dM S1 i g b->eh S1 i g (bd U) aR c):eh S i g (bG (eR "Asker" f (J k) (dI mv)) bd U) aR c:=by
 have j:dM (S.set i (.bD "Asker" (i1 f d (a.fs g)))) i g b:=⟨by rw[get_set h.bD,e],by rw[aku h.ne,p];exact h.ls⟩;obtain⟨aT,g2,t,s⟩:=q _ j;exact⟨aT,g2,c7 (x_at n.to l (.of m) h.bD EY) t,et.trans ⟨j,.set (by simp),.inl rfl,by rw[ali];exact akf _⟩ s⟩
theorem V9(h:dM S i g a)(b:bH)(p:J k U=pure (.v (.ref i)))(e:∀n,i1 ("grants":Str) (D.ref n) (a.fs g)=b.fs n)(u:b.aZ=[])(q:∀S1 g1,dM S1 i g1 b->eh S1 i g1 (bd U) aR c):eh S i g (bG (eR "Asker" "grants" (J k) (vp (dI (dD cO)))) bd U) aR c:=by
 have m:(S++[ha.l []])[i]? = some (.bD "Asker" (a.fs g)):=Fr.app _ _ (ak6) h.bD;have j:dM ((S++[ha.l []]).set i (.bD "Asker" (i1 ("grants":Str) (D.ref S.length) (a.fs g)))) i S.length b:=⟨by rw[get_set m,e],by rw[aku (akv (OO h.bD)),DL,u];rfl⟩;obtain⟨aT,g2,t,s⟩:=q _ _ j;exact⟨aT,g2,c7 (x_at RS rfl (.of p) m EY) t,et.trans ⟨j,Fr.app.trans (.set (by simp)),.inr (akf _),by rw[ali,akh];omega⟩ s⟩
theorem My{m:cW}(h:dM S i g a)(b:bH)(n:J k U=pure (.v (.ref i)))(p:aA S (m U) [.v (dB x)])(e:b.fs g=a.fs g)(u:b.aZ=a.aZ++[x])(z:a.aZ.length<1000)(q:∀S1,dM S1 i g b->eh S1 i g (bd U) aR c):eh S i g (bG (yz hY (bM (cA "Asker" "grants") (J k)) m) bd U) aR c:=by
 have j:dM (S.set g (.l (a.aZ.map dB++[dB x]))) i g b:=⟨by rw[aku h.ne.symm,e];exact h.bD,by rw[get_set h.ls,u,akP];rfl⟩;obtain⟨aT,g2,t,s⟩:=q _ j;exact⟨aT,g2,c7 (agz (dk h n rfl) p h.ls (by rw[akc];exact eP (by omega))) t,et.trans ⟨j,.set (by simp),.inl rfl,by rw[ali];exact akf _⟩ s⟩
def Cp(h:dM S i g a)(e:J k U=pure (.v (.ref i))):aA S (lg (bM (cA "Asker" "grants") (J k)) U) (.mv (a.aZ.map dB)):=ZV h.ls (dk h e rfl)
def n4{m:aY}(h:dM S i g a)(e:aA S (m U) aR):eh S i g (b4 m U) aR a:=⟨S,g,e,.refl h⟩
theorem ia{t:aJ->M Bool}(e:aA S (t U) false)(q:eh S i g (bd U) aR c):eh S i g (bG (b4 (b9 t m bZ)) bd U) aR c:=by
 obtain⟨aT,g2,t,s⟩:=q;exact⟨aT,g2,tp e t,s⟩
theorem l2{t:aJ->M Bool}(e:aA S (t U) false)(q:eh S i g (bd U) aR c):eh S i g (bG (fA (gn t) m (b4 bZ)) bd U) aR c:=by
 obtain⟨aT,g2,t,s⟩:=q;exact⟨aT,g2,vt e t,s⟩
def wL{t:aJ->M Bool}{m:aY}{r:R}(h:dM S i g a)(e:aA S (t U) true)(aC:aA S (m U) (.cp r)):eh S i g (bG (b4 (b9 t m bZ)) bd U) (.cp r) a:=⟨S,g,tn (iF e aC).to,.refl h⟩
theorem wJ{t:aJ->M Bool}{m:b7}{r:R}(e:aA S (t U) true)(q:eh S i g (m U) (.cp r) c):eh S i g (bG (fA (gn t) m (b4 bZ)) bd U) (.cp r) c:=by
 obtain⟨aT,g2,t,s⟩:=q;exact⟨aT,g2,tn (mu e t),s⟩
theorem zY{m:aY}(e:aA S (m U) (.bl U'))(q:eh S i g (bd U') aR c):eh S i g (bG (b4 m) bd U) aR c:=by
 obtain⟨aT,g2,t,s⟩:=q;exact⟨aT,g2,c7 (aA.to e) t,s⟩
theorem rV{e:hL}{rs:List R}(h:dM S i g a)(q:a.Do mf (rs.map R.arg) ys c)(n:J k U=pure (.v (.ref i)))(j:(a.fs g).lookup m=none)(l:br S (e U) rs S)(av:rs.all R.i3=true):eh S i g (kV (fY "Asker" m mf (J k) e) U) (.cp (.fr ys)) c:=by
 obtain⟨aT,g2,t,s⟩:=q _ _ _ h;exact⟨aT,g2,RT (vr h.bD (.of n) j l av t),s⟩
theorem iA{n N:Nat}{bd:b7}{ds j:List D}(h:ds.length+1=n)(q:∀S i g,dM S i g a->eh S i g (bd (.v (.ref i)::ds.map c5++akA (N-n) .e)) (.cp (.fr j)) c):a.Do (fnX n N bd) ds j c:=λS i g hh=>by
 obtain⟨aT,g2,t,s⟩:=q S i g hh;exact⟨aT,g2,Hv h t,s⟩
end
def bH.asks(a:bH):bH:={ a with cN:=a.cN+1,st:=(a.cN+1,a.me),sg:="asking",aZ:=[] }
def Ct{a:bH}{b:List Nat}(c:m' [a.h]=pure (.fr (b.map bU)))(d:b.length<=6) :
  a.Do xd [] (b.map (eT a.me a.cD (a.cN+1,a.me))) a.asks:=iA rfl λS i g h=>
 ji h { a with cN:=a.cN+1 } rfl (b_ rfl (dk h rfl rfl) (.of rfl)) rfl rfl rfl λS h=>
 ji h { a with cN:=a.cN+1,st:=(a.cN+1,a.me) } rfl (qP (bJ (dk h rfl rfl) (bJ (dk h rfl rfl) dw)) rfl (ako rfl)) rfl rfl rfl λS h=>
 ji h { a with cN:=a.cN+1,st:=(a.cN+1,a.me),sg:="asking" } rfl (.of rfl) rfl rfl rfl λS h=>
 V9 h a.asks rfl (λ_=>rfl) rfl λS g h=>
 n4 h (N8 (uj (N5 (fb (bJ (dk h rfl rfl) dw) (.of c)) rfl) (by rw[akc];exact eP (by omega))
  (Al bU (eT a.me a.cD (a.cN+1,a.me)) b λk _=>fb (bJ (dk h rfl rfl) (bJ (.of rfl) (bJ (dk h rfl rfl) (bJ (dk h rfl rfl) dw)))) (.of rfl))))
def RP{S:bL}{mv:bj}{fs:List (Str×D)}{a:b7}(h:S[i]? = some (.bD c fs))(e:mv U=pure (.v d))(b:J 0 U=pure (.v (.ref i)))(g:fs.length<1000)(q:br (S.set i (.bD c (i1 f d fs))) (a U) o C):br S (bG (eR c f (J 0) (dI mv)) a U) o C:=c7 (x_at (aA.of e).to rfl (.of b) h g) q
def sl{n:Nat}(h:n.ble 999=true):n<1000:=Nat.lt_succ_of_le (ako h)
def Zj(S:bL)(me:Int)(h:D)(hh:c5 h=.v h):∃b,br (S++[.bD "Asker" []]) (Ft [.ref S.length,.int me,h]) (.v .ay) b/\dM b S.length (S.length+1) (xw me h)/\b.length=S.length+2/\Fr [] S b:=by
 have ap:∀{o a:ha},(S++[o])++[a]=S++[o,a]:=λ{o a}=>by rw[al9];rfl
 have st:∀{o a:ha}{l:bL},(S++o::l).set S.length a=S++a::l:=λ{o a l}=>by rw[List.set_append_right _ _ (akf _),al1];rfl
 have gt:∀{o:ha}{l:bL},(S++o::l)[S.length]? = some o:=λ{o l}=>by rw[aky (akf _),al1];rfl
 refine⟨S++[.bD "Asker" ((xw me h).fs (S.length+1)),.l []],yA (U':=[.v (.ref S.length),.v (.int me),.v h]) rfl ?_,⟨gt,?_⟩,by rw[akh];rfl,.app⟩
 .show br _ (Iq [.v (.ref S.length),.v (.int me),c5 h]) _ _
  rw[hh]
  repeat' (refine RP gt (by rfl) rfl (sl rfl) ?_;rw[st])
  refine c7 (x_at RS rfl (.of rfl) (by rw[ap];exact gt) (sl rfl)) ?_;rw[ap,st,akh];refine RP gt (by rfl) rfl (sl rfl) ?_;rw[st];have:=x_at (S:=S++[ha.bD "Asker" [("me",D.int me),("epoch",.int 0),("hall",h),("opening",JZ),("over_known",.az false),("greatest_round",.int 0),("last_stamp",b2 (0,0)),("wishes",.int 0),("deed",.ay),("standing",.str "calm"),("last_outcome",.ay),("grants",.ref (S.length+1)),("kept_mask",bU 0)],.l []]) (f:="told_slate") (mv:=dI (aK .ay)) (U:=[.v (.ref S.length),.v (.int me),.v h]) (mo:=J 0) rfl rfl (.of rfl) gt (sl rfl);rw[st]at this;exact this
 .rw[aky (by omega),Nat.add_sub_cancel_left];rfl
def fV(b:akz x=true)(a:akz y=true):oEq (.v (.str x)) (.v (.str y))=pure (.v (.az (x==y))):=qs b a
def QU(b:akz x=true)(a:akz y=true):ej (.v (.str x)) (.v (.str y))=pure (.v (.az (!(x==y)))):=wm b a
def A4:akz "calm"=true:=by decide +kernel
def A3:akz "asking"=true:=by decide +kernel
def Pw:akz "telling"=true:=by decide +kernel
def uW:akz "late"=true:=by decide +kernel
def bH.iy(a:bH):Prop:=a.sg="calm"\/a.sg="asking"\/a.sg="telling"
def sU{a:bH}(h:a.iy):akz a.sg=true:=by rcases h with h|h|h<;>rw[h]<;>decide +kernel
def calm_eq{a:bH}(h:a.iy):oEq (.v (.str a.sg)) (.v (.str "calm"))=pure (.v (.az (a.sg == "calm"))):=fV (sU h) A4
def Ke{a:bH}(h:a.iy):ej (.v (.str a.sg)) (.v (.str "calm"))=pure (.v (.az (!(a.sg == "calm")))):=QU (sU h) A4
structure rq(h:D)(ms:List Nat)(fa fk:Nat->Bool):Prop where
 mem:m' [h]=pure (.fr (ms.map bU))
 len:ms.length<=6
 lt:∀k∈ms,k<6
 ne:ms≠[]
 ex:∃x y,h=.t [x,y]/\c5 x=.v x/\c5 y=.v y/\(∀m:Nat,kI 12 [x,bU m]=pure (.v (.az (fa m))))/\∀m:Nat,kI 12 [y,bU m]=pure (.v (.az (fk m)))
def bH.tells(a:bH)(t:D):bH:={ a with sg:="telling",km:=0,ts:=t }
def bH.ends(a:bH)(o:D):bH:={ a with sg:="calm",c6:=o }
def bH.vE(a:bH)(mf:d0)(ds:List D)(b:bH):Prop:=∀(S:bL)(i g:Nat),dM S i g a->∃c g',br S (mf (.ref i::ds)) (.v .ay) c/\et S c i g g' b
section
variable{S S1 aT:bL}{U U':aJ}{i g k:Nat}{a b c:bH}{f:Str}{d:D}{mv:bj}{r:R}{bd:b7}{aR:fe}
def adb(h:dM S i g a)(b:bH)(l:J k U=pure (.v (.ref i)))(m:aA S (mv U) r)(j:r.dat=pure d)(e:i1 f d (a.fs g)=b.fs g)(n:b.aZ=a.aZ):eh S i g (eR "Asker" f (J k) (dI mv) U) (.bl U) b:=
 ⟨_,g,x_at m.to j (.of l) h.bD EY,⟨by rw[get_set h.bD,e],by rw[aku h.ne,n];exact h.ls⟩,.set (by simp),.inl rfl,by rw[ali];exact akf _⟩
theorem ub{t:aJ->M Bool}{m n:b7}(e:aA S (t U) true)(q:eh S i g (m U) aR c):eh S i g (fA (gn t) m n U) aR c:=by
 obtain⟨aT,h,t,s⟩:=q;exact⟨aT,h,mu (aA.to e) t,s⟩
theorem qx{t:aJ->M Bool}{m n:b7}(e:aA S (t U) false)(q:eh S i g (n U) aR c):eh S i g (fA (gn t) m n U) aR c:=by
 obtain⟨aT,h,t,s⟩:=q;exact⟨aT,h,mr (aA.to e) t,s⟩
theorem tU{e:hL}{rs:List R}(h:dM S i g a)(q:a.vE mf (rs.map R.arg) c)(n:J k U=pure (.v (.ref i)))(j:(a.fs g).lookup m=none)(l:br S (e U) rs S)(av:rs.all R.i3=true):eh S i g (i5 (fY "Asker" m mf (J k) e) U) (.bl U) c:=by
 obtain⟨aT,p,t,s⟩:=q _ _ _ h;exact⟨aT,p,tl (vr h.bD (.of n) j l av t),s⟩
theorem DP{m:b7}(q:eh S i g (m U) (.bl U') b)(p:∀S1 g1,dM S1 i g1 b->eh S1 i g1 (bd U') aR c):eh S i g (bG m bd U) aR c:=by
 obtain⟨S1,g1,j,s1⟩:=q;obtain⟨aT,h,e,s2⟩:=p S1 g1 s1.at';exact⟨aT,h,c7 j e,s1.trans s2⟩
theorem Dd{n N:Nat}{bd:b7}{ds:List D}(h:ds.length+1=n)(q:∀S i g,dM S i g a->∃U',eh S i g (bd (.v (.ref i)::ds.map c5++akA (N-n) .e)) (.bl U') c):a.vE (fnX n N bd) ds c:=λS i g hh=>by
 obtain⟨U',aT,j,t,s⟩:=q S i g hh;exact⟨aT,j,yA h t,s⟩
end
def zK{a:bH}(b:c5 o=.v o):a.vE qV [o] (a.ends o):=Dd rfl λS i g h=>by
 show ∃U',eh S i g (Iv [.v (.ref i),c5 o]) (.bl U') _;rw[b];exact⟨_,ji h { a with sg:="calm" } rfl (.of rfl) rfl rfl rfl λS h=>adb h (a.ends o) rfl (.of rfl) rfl rfl rfl⟩
def dx:D->Bool
 |.ay=>true|_=>false
def pz(d:D):hq (.v d) (.v .ay)=pure (.v (.az (!dx d))):=by cases d<;>rfl
def qH(d:D):gB (.v d) (.v .ay)=pure (.v (.az (dx d))):=by cases d<;>rfl
def kF(k:Nat)(a e:Int)(s kp:cF)(w:D):D:=.t [.str "grant",bU k,.int a,.int e,b2 s,.t [b2 kp,w]]
def gy(k:Nat)(a e:Int)(s:cF):D:=.t [.str "kept",bU k,.int a,.int e,b2 s,.t []]
def l8(k:Nat)(a e:Int)(s p:cF):D:=.t [.str "late",bU k,.int a,.int e,b2 s,.t [b2 p]]
def bH.got(a:bH)(k:Nat)(kp:cF)(w:D):bH:={ a with aZ:=a.aZ++[⟨k,kp,w⟩] }
section
variable{a:bH}{ms:List Nat}{fa fk:Nat->Bool}(H:rq a.h ms fa fk){k:Nat}{me e:Int}{s kp:cF}{w:D}(a0:∀g∈a.aZ,g.k<6)(hl:a.aZ.length<60)(aw:k<6)
def DQ{a:bH}{i g:Nat}(h:dM S i g a)(a0:∀g∈a.aZ,g.k<6)(hl:a.aZ.length<=1000)(U:aJ):aA S (bC ph (bE (lg (bM (cA "Asker" "grants") (J 0)))) (.v (.ref i)::U)) (.v (bU (maskOf (a.aZ.map (·.k))))):=
 fb (bJ (Cp h rfl) dw) (.of (Wc a.aZ a0 hl))
def adX{a:bH}(H:rq a.h ms fa fk){i g:Nat}(h:dM S i g a)(d:a.aZ=p::ps)(a0:∀g∈a.aZ,g.k<6)(hl:a.aZ.length<=1000){z:Bool}(hw:c5 w=.v w)(hz:m_ [w]=pure (.v (.az z))) :
  aA S (xh [.ref i,w]) (.v (.az (!z&&(a.aZ.all λg=>decide (g.s=p.s))&&fk (maskOf (a.aZ.map (·.k)))))):=by
 obtain⟨x,y,j,m,l,_,f⟩:=H.ex;have c:=SI ps p (by rw[<-d];exact hl);rw[<-d]at c;have al:aA S (aL (bC xi (bE (lg (bM (cA "Asker" "grants") (J 0))))) [.v (.ref i),.v w]) (a.aZ.all λg=>decide (g.s=p.s)):=b8 (fb (bJ (Cp h rfl) dw) (.of c));refine m5 rfl ?_;show aA S (IB [.v (.ref i),c5 w]) _;rw[hw];generalize(a.aZ.all λg=>decide (g.s=p.s))=o at *;have b:aA S (aL (bC m_ (bE (J 1))) [.v (.ref i),.v w]) z:=.of (dc (call_of rfl hz))
 cases z with
 |true=>exact w7 (iF (N7 b) (lx (.of rfl)))|false=>
  cases o with
  |false=>exact w7 (iF (si b (jq al)) (lx (.of rfl)))| true=>exact hR (fT (si b (jq al)) (.of rfl)) (lx (fb (bJ (b_ (r:=.v y) rfl (dk h rfl (by show some a.h=_;rw[j])) (.of rfl)) (bJ (DQ h a0 hl _) dw)) (.of (f _))))
def bH.y3(a:bH)(w:D)(b:Bool):Prop:=∀S i g,dM S i g a->aA S (xh [.ref i,w]) (.v (.az b))
def V_{a:bH}(hd:a.dd=.ay)(av:a.y3 w true):a.Do xe [.t [b2 s,w]] [] (a.ends (.t [.str "saw",.t [.int a.cD,b2 s,w]])):=iA rfl λS i g h=>
 wJ (gx (b8 (b_ (by rw[qH,hd];rfl) (dk h rfl rfl) (.of rfl))) (b8 (w6 h.bD (.of rfl) rfl (bJ (.of rfl) dw) (av S i g h))))<|
  DP (tU h (zK rfl) rfl rfl (aA.to (bJ (qP (bJ (.of rfl) (bJ (qP (bJ (dk h rfl rfl) (bJ (.of rfl) (bJ (.of rfl) dw))) rfl (ako rfl)) dw)) rfl (ako rfl)) dw)) rfl) λS g h=>n4 h (.of rfl)
theorem V'{a:bH}{ms:List Nat}{s:cF}{w:D}(d:m' [a.h]=pure (.fr (ms.map bU)))(hl:ms.length<=6)(hd:dx a.dd=false\/a.y3 w false){t:D}
  (c:m9 [w,.int a.me,.int a.wi,a.dd]=pure (.v t)) :
  a.Do xe [.t [b2 s,w]] (ms.map (gm a.me a.cD a.st (.t [b2 s,.int a.wi,a.dd,t]))) (a.tells t):=iA rfl λS i g h=>by
 have t0:aA S (fW (aL (ak gB (bM (cA "Asker" "deed") (J 0)) (aK .ay))) (aL (e1 "Asker" "sees_at_once" xh (J 0) (bE (aX 1 1)))) [.v (.ref i),.v (.t [b2 s,w]),.e]) false:=by
  have b:aA S (aL (ak gB (bM (cA "Asker" "deed") (J 0)) (aK .ay)) [.v (.ref i),.v (.t [b2 s,w]),.e]) (dx a.dd):=b8 (b_ (qH a.dd) (dk h rfl rfl) (.of rfl))
  cases q:dx a.dd with
  |false=>rw[q]at b;exact iV b|true=>
   rw[q]at b;rcases hd with z|z
   .rw[q]at z;cases z
   .exact gx b (b8 (w6 h.bD (.of rfl) rfl (bJ (.of rfl) dw) (z S i g h)))
 exact l2 t0<|
  ji h { a with sg:="telling" } rfl (.of rfl) rfl rfl rfl λS h=>
  ji h { a with sg:="telling",km:=0 } rfl (.of rfl) rfl rfl rfl λS h=>
  ji h (a.tells t) rfl (fb (bJ (.of rfl) (bJ (dk h rfl rfl) (bJ (dk h rfl rfl) (bJ (dk h rfl rfl) dw)))) (.of c)) rfl rfl rfl λS h=>
  zY (iW (qP (bJ (.of rfl) (bJ (dk h rfl rfl) (bJ (dk h rfl rfl) (bJ (dk h rfl rfl) dw)))) rfl (ako rfl)) rfl)<|
  n4 h (N8 (uj (N5 (fb (bJ (dk h rfl rfl) dw) (.of d)) rfl) (by rw[akc];exact eP (by omega))
   (Al bU (gm a.me a.cD a.st (.t [b2 s,.int a.wi,a.dd,t])) ms λk _=>fb (bJ (dk h rfl rfl) (bJ (.of rfl) (bJ (dk h rfl rfl) (bJ (dk h rfl rfl) (bJ (.of rfl) dw))))) (.of rfl))))
include a0 hl
theorem Na(h:dM S i g a):aA S (aL (bC qY (a7 (bC ph (bE (lg (bM (cA "Asker" "grants") (J 0))))) (aX 1 1))) [.v (.ref i),.v (kF k me e s kp w)]) (gc (maskOf (a.aZ.map (·.k))) k):=
 b8 (fb (bJ (DQ h a0 (by omega) _) (bJ (.of rfl) dw)) (.of (DZ _ k)))
include H aw
theorem Mz(h:dM S i g (a.got k kp w)):aA S (ew (aL (bC (kI 12) (a7 (fl (bM (cA "Asker" "hall") (J 0)) 0) (bC ph (bE (lg (bM (cA "Asker" "grants") (J 0)))))))) [.v (.ref i),.v (kF k me e s kp w)]) (!fa (maskOf ((a.got k kp w).aZ.map (·.k)))):=by
 obtain⟨x,y,c,_,_,b,_⟩:=H.ex;have d:=DQ h (λg h=>by
  rcases akO.mp h with h|h
  .exact a0 g h
  .rw[akt.mp h];exact aw) (by show(a.aZ++[_]).length<=1000;rw[akh];show _+1<=_;omega) [.v (kF k me e s kp w)]
 exact jq (b8 (fb (bJ (b_ (r:=.v x) rfl (dk h rfl (by show some a.h=_;rw[c])) (.of rfl)) (bJ d dw)) (.of (b _))))
theorem Yc(q:gc (maskOf (a.aZ.map (·.k))) k=false)(cB:fa (maskOf ((a.got k kp w).aZ.map (·.k)))=false):a.Do xf [kF k me e s kp w] [] (a.got k kp w):=iA rfl λS i g h=>
 ia (by have:=Na (k:=k) (me:=me) (e:=e) (s:=s) (kp:=kp) (w:=w) a0 hl h;rw[q]at this;exact this)<|
 My h (a.got k kp w) rfl (bJ (.of rfl) dw) rfl rfl (by omega) λS h=>
 wL h (by have:=Mz (me:=me) (e:=e) (s:=s) H a0 hl aw h;rw[cB]at this;exact this) (.of rfl)
theorem MY{Y:List D}{t:bH}{p:b0}{ps:List b0}(c:(a.got k kp w).aZ=p::ps)(d:c5 a.op=.v a.op)(q:gc (maskOf (a.aZ.map (·.k))) k=false)(cB:fa (maskOf ((a.got k kp w).aZ.map (·.k)))=true)
  (go:(a.got k kp w).Do xe [n_ a.op (lb p ps)] Y t):a.Do xf [kF k me e s kp w] Y t:=by
 have b:=Yw p ps a.op d (by rw[<-c];show(a.aZ++[_]).length<64;rw[akh];show _+1 < _;omega);rw[<-c]at b;exact iA rfl λS i g h=>
  ia (by have:=Na (k:=k) (me:=me) (e:=e) (s:=s) (kp:=kp) (w:=w) a0 hl h;rw[q]at this;exact this)<|
  My h (a.got k kp w) rfl (bJ (.of rfl) dw) rfl rfl (by omega) λS h=>
  ia (by have:=Mz (me:=me) (e:=e) (s:=s) H a0 hl aw h;rw[cB]at this;exact this)<|
  rV (rs:=[.v (n_ a.op (lb p ps))]) h go rfl rfl (aA.to (bJ (fb (bJ (Cp h rfl) (bJ (dk h rfl rfl) dw)) (.of b)) dw)) rfl
end
structure Told(ts:D)(me n:Int)(dm aV:D)(cc:Bool):Prop where
 qp:∃x,qX [ts,.int me]=pure (.v (.t [x,.int n,dm]))
 dh:pv [ts]=pure (.v aV)
 is:m_ [ts]=pure (.v (.az (!dx aV)))
 o1:oEq (.v aV) (.v (.str "over"))=pure (.v (.az cc))
 ss:c5 aV=.v aV
noncomputable def bH.kc(a:bH)(n:Int)(dm aV:D)(cc:Bool):bH:=
 if(!dx a.dd)=true then(if n=a.wi then a.ends (.t [.str "did",dm])else a)
 else if(dx aV)=true then a.ends (.t [.str "saw",.t [.int a.cD,b2 a.st,a.ts]])
 else if cc=true then a.ends (.t [.str "saw",.t [.int a.cD,.ay,a.ts]])else a
def Vk{a:bH}{n:Int}{dm aV:D}(t:Told a.ts a.me n dm aV cc):a.vE Fv [] (a.kc n dm aV cc):=Dd rfl λS i g h=>by
 obtain⟨⟨x,l⟩,j,p,k,_⟩:=t;have q:aA S (aL (ak hq (bM (cA "Asker" "deed") (J 0)) (aK .ay)) [.v (.ref i),.v a.ts,.e]) (!dx a.dd):=b8 (b_ (pz a.dd) (dk h rfl rfl) (.of rfl));have is:aA S (ew (aL (bC m_ (bE (J 1)))) [.v (.ref i),.v a.ts,.e]) (!!dx aV):=jq (b8 (fb (.of rfl) (.of p)));have dh:aA S (aL (ak oEq (bC pv (bE (J 1))) (aK (.str "over"))) [.v (.ref i),.v a.ts,.e]) cc:=b8 (b_ k (fb (.of rfl) (.of j)) (.of rfl));unfold bH.kc;have st:∀{o c},eh S i g (Iu [.v (.ref i),.v a.ts,.e]) o c->eh S i g (It [.v (.ref i),.e,.e]) o c:=λq=>zY (iW (dk h rfl rfl) rfl) q
 cases e:dx a.dd with
 |false=>
  rw[e]at q;have qp:∀{m:b7}{o c},eh S i g (m [.v (.ref i),.v a.ts,.v (.t [x,.int n,dm])]) o c->eh S i g (bG (b4 (b1 2 (bC qX (a7 (J 1) (bM (cA "Asker" "me") (J 0)))))) m [.v (.ref i),.v a.ts,.e]) o c:=λq=>zY (iW (fb (bJ (.of rfl) (bJ (dk h rfl rfl) dw)) (.of l)) rfl) q
  have eq:aA S (aL (ak oEq (aX 2 1) (bM (cA "Asker" "wishes") (J 0))) [.v (.ref i),.v a.ts,.v (.t [x,.int n,dm])]) (decide (n=a.wi)):=b8 (b_ jf (.of rfl) (dk h rfl rfl))
  by_cases c:n=a.wi
  .rw[if_pos c]
   rw[decide_eq_true c]at eq;exact⟨_,st<|ub q<|qp<|ub eq<|tU h (zK rfl) rfl rfl (aA.to (.of rfl)) rfl⟩
  .rw[if_neg c]
   rw[decide_eq_false c]at eq;exact⟨_,st<|ub q<|qp<|qx eq<|n4 h (.of rfl)⟩
 |true=>
  rw[e]at q;have d:∀{b:bj}{w:D},aA S (b [.v (.ref i),.v a.ts,.e]) (.v w)->eh S i g (i5 (fY "Asker" "end_wish" qV (J 0) (e5 (bE (bF (a7 (aK (.str "saw")) (bF (cy (bM (cA "Asker" "epoch") (J 0)) b (J 1)))))))) [.v (.ref i),.v a.ts,.e]) (.bl [.v (.ref i),.v a.ts,.e]) (a.ends (.t [.str "saw",.t [.int a.cD,w,a.ts]])):=λ{b w} f=>
   tU h (zK rfl) rfl rfl (aA.to (bJ (qP (bJ (.of rfl) (bJ (qP (bJ (dk h rfl rfl) (bJ f (bJ (.of rfl) dw))) rfl (ako rfl)) dw)) rfl (ako rfl)) dw)) rfl
  cases aC:dx aV with
  |true=>
   rw[aC]at is;exact⟨_,st<|qx q<|ub is<|d (dk h rfl rfl)⟩
  |false=>
   rw[aC]at is
   cases cc with
   |true=>exact⟨_,st<|qx q<|qx is<|ub dh<|d (.of rfl)⟩|false=>exact⟨_,st<|qx q<|qx is<|qx dh<|n4 h (.of rfl)⟩
def bH.Fm(a:bH):bH:=if(a.sg == "calm")=true then{ a with cc:=true }else{ a with cc:=true,sg:="calm",c6:=.t [.str "over",.ay] }
def aaz{a:bH}(av:a.iy):a.vE Fw [] a.Fm:=Dd rfl λS i g h=>by
 have ne:∀{S},dM S i g { a with cc:=true }->aA S (aL (ak ej (bM (cA "Asker" "standing") (J 0)) (aK (.str "calm"))) [.v (.ref i)]) (!(a.sg == "calm")):=λh=>b8 (b_ (Ke av) (dk h rfl rfl) (.of rfl))
 unfold bH.Fm
 by_cases c:(a.sg == "calm")=true
 .rw[if_pos c]
  exact⟨_,ji h { a with cc:=true } rfl (.of rfl) rfl rfl rfl λS h=>qx (by have:=ne h;rw[c]at this;exact this) (n4 h (.of rfl))⟩
 .rw[if_neg c]
  exact⟨_,ji h { a with cc:=true } rfl (.of rfl) rfl rfl rfl λS h=>ub (by have:=ne h;rw[show(a.sg == "calm")=false by simpa using c]at this;exact this) (tU h (zK rfl) rfl rfl (aA.to (.of rfl)) rfl)⟩
def bH.over(a:bH)(h o:D):bH:={ a with cD:=a.cD+1,h:=h,op:=o }
section
variable{a:bH}(av:a.iy){hh o:D}(hl:c5 hh=.v hh)(bb:xo [a.ts]=pure (.v o))
include hl bb
theorem PI(h:dM S i g a)(p:∀b,dM b i g (a.over hh o)->eh b i g (Iy [.v (.ref i),.v hh]) C c):eh S i g (Iw [.v (.ref i),c5 hh]) C c:=by
 rw[hl];exact ji h { a with cD:=a.cD+1 } rfl (b_ rfl (dk h rfl rfl) (.of rfl)) rfl rfl rfl λS h=>
  ji h { a with cD:=a.cD+1,h:=hh } rfl (.of rfl) rfl rfl rfl λS h=>
  ji h (a.over hh o) rfl (fb (bJ (dk h rfl rfl) dw) (.of bb)) rfl rfl rfl p
include av
theorem Wa(c:a.sg="calm"):a.Do uy [hh] [] (a.over hh o):=iA rfl λS i g h=>PI hl bb h λS h=>
 wL h (b8 (b_ (by rw[calm_eq av,c,beq_self_eq_true]) (dk (d:=.str a.sg) h rfl rfl) (.of rfl))) (.of rfl)
theorem Wb(c:a.sg≠"calm"){b:List Nat}(e:m' [hh]=pure (.fr (b.map bU)))(f:b.length<=6):a.Do uy [hh] (b.map (eT a.me (a.cD+1) (a.cN+1,a.me))) (a.over hh o).asks:=iA rfl λS i g h=>PI hl bb h λS h=>
 ia (b8 (b_ (by rw[calm_eq av,show(a.sg == "calm")=false by simpa using c]) (dk (d:=.str a.sg) h rfl rfl) (.of rfl)))<|rV (rs:=[]) h (Ct e f) rfl rfl rfl rfl
end
def LV(a:bH)(n:Int)(dm aV:D)(cc:Bool):(∃o,a.kc n dm aV cc=a.ends o)\/a.kc n dm aV cc=a:=by
 unfold bH.kc;split
 .split
  .exact .inl ⟨_,rfl⟩
  .exact .inr rfl
 .split
  .exact .inl ⟨_,rfl⟩
  .split
   .exact .inl ⟨_,rfl⟩
   .exact .inr rfl
def Vm(a:bH)(n:Int)(dm aV:D)(cc:Bool):(a.kc n dm aV cc).ts=a.ts:=by rcases LV a n dm aV cc with⟨o,e⟩|e<;>rw[e]<;>rfl
def Vl{a:bH}(h:a.iy)(n:Int)(dm aV:D)(cc:Bool):(a.kc n dm aV cc).iy:=by
 rcases LV a n dm aV cc with⟨o,e⟩|e<;>rw[e]
 .exact .inl rfl
 .exact h
def or_eq(m n:Nat):uQ (.v (bU m)) (.v (bU n))=pure (.v (bU (m ||| n))):=by
 rw[l',l',l',<-Ge];rfl
def bH.iX(a:bH)(k:Nat):bH:={ a with km:=a.km ||| maskOf [k] }
section
variable{a:bH}{ms:List Nat}{fa fk:Nat->Bool}(H:rq a.h ms fa fk){k:Nat}{me e:Int}{s:cF}(aw:k<6)
include H aw
theorem N'(h:dM S i g (a.iX k)):aA S (ew (aL (bC (kI 12) (a7 (fl (bM (cA "Asker" "hall") (J 0)) 1) (bM (cA "Asker" "kept_mask") (J 0))))) [.v (.ref i),.v (gy k me e s),s2]) (!fk (a.iX k).km):=by
 obtain⟨x,y,c,_,_,_,b⟩:=H.ex;exact jq (b8 (fb (bJ (b_ (r:=.v y) rfl (dk h rfl (by show some a.h=_;rw[c])) (.of rfl)) (bJ (dk h rfl rfl) dw)) (.of (b _))))
theorem Oa(h:dM S i g a)(p:∀b,dM b i g (a.iX k)->eh b i g (Iz [.v (.ref i),.v (gy k me e s),.e]) o c):eh S i g (Cy [.v (.ref i),.v (gy k me e s),.e]) o c:=
 ji h (a.iX k) rfl (b_ (or_eq a.km (maskOf [k])) (dk h rfl rfl) (fb (.of (cons_of (xb (cons_of (bN rfl rfl rfl) rfl) rfl (ako rfl)) rfl)) (.of (FH [k] λj d=>by rw[akt.mp d];omega)))) rfl rfl rfl p
theorem Ye(q:fk (a.iX k).km=false):a.Do qW [gy k me e s] [] (a.iX k):=iA rfl λS i g h=>
 Oa H aw h λS h=>wL h (by have:=N' (me:=me) (e:=e) (s:=s) (s2:=.e) H aw h;rw[q]at this;exact this) (.of rfl)
variable{n:Int}{dm aV:D}{cc:Bool}(t:Told a.ts a.me n dm aV cc)(q:fk (a.iX k).km=true)
include t q
theorem EM(h:dM S i g a)(p:∀b g1,dM b i g1 ((a.iX k).kc n dm aV cc)->eh b i g1 (Cz [.v (.ref i),.v (gy k me e s),.v aV]) o c):eh S i g (Cy [.v (.ref i),.v (gy k me e s),.e]) o c:=
 Oa H aw h λS h=>ia (by have:=N' (me:=me) (e:=e) (s:=s) (s2:=.e) H aw h;rw[q]at this;exact this)<|
 DP (tU (rs:=[]) h (Vk t) rfl rfl rfl rfl) λS g h=>
 zY (iW (fb (bJ (dk h rfl (by show some ((a.iX k).kc n dm aV cc).ts=_;rw[Vm];rfl)) dw) (.of t.dh)) rfl) (p S g h)
theorem Yg(b:dx aV=true):a.Do qW [gy k me e s] [] ((a.iX k).kc n dm aV cc):=iA rfl λS i g h=>EM H aw t q h λS g h=>
 wL h (b8 (b_ ((qH aV).trans (by rw[b])) (.of rfl) (.of rfl))) (.of rfl)
variable(aG:dx aV=false)
include aG
theorem Ob(p:eh S i g (IA [.v (.ref i),.v (gy k me e s),.v aV]) o c):eh S i g (Cz [.v (.ref i),.v (gy k me e s),.v aV]) o c:=
 ia (b8 (b_ ((qH aV).trans (by rw[aG])) (.of rfl) (.of rfl))) p
theorem Yh(av:a.iy)(b:cc=true):a.Do qW [gy k me e s] [] ((a.iX k).kc n dm aV cc).Fm:=iA rfl λS i g h=>EM H aw t q h λS g h=>Ob H aw t q aG<|
 wJ (b8 (b_ (t.o1.trans (by rw[b])) (.of rfl) (.of rfl)))<|DP (tU h (aaz (Vl (a:=a.iX k) av _ _ _ _)) rfl rfl rfl rfl) λS g h=>n4 h (.of rfl)
theorem M0(b:cc=false)(d:((a.iX k).kc n dm aV cc).Do uy [aV] Y c):a.Do qW [gy k me e s] Y c:=iA rfl λS i g h=>EM H aw t q h λS g h=>Ob H aw t q aG<|
 l2 (b8 (b_ (t.o1.trans (by rw[b])) (.of rfl) (.of rfl)))<|rV (rs:=[.v aV]) h d rfl rfl (aA.to (.of rfl)) rfl
end
def Zh(j:Nat)(a:List Nat):ng false (.v (bU j)) (.fr (a.map bU))=pure (.v (.az (a.contains j))):=EA j a
def sD{a b:Int}:ej (.v (.int a)) (.v (.int b))=pure (.v (.az (!decide (a=b)))):=rfl
def bH.now(a:bH)(b:List Nat)(k:Nat)(e:Int)(s:cF):Bool:=decide (e=a.cD)&&decide (s=a.st)&&b.contains k
def Zr{a:bH}(h:dM S i g a)(H:rq a.h ms fa fk)(w ld:D)(k:Nat)(b e:Int)(s:cF):aA S (AD [.ref i,.t [w,bU k,.int b,.int e,b2 s,ld]]) (.v (.az (a.now ms k e s))):=by
 refine m5 rfl ?_;have c:aA S (aL (ak ej (aX 1 3) (bM (cA "Asker" "epoch") (J 0))) [.v (.ref i),.v (.t [w,bU k,.int b,.int e,b2 s,ld])]) (!decide (e=a.cD)):=b8 (b_ sD (.of rfl) (dk h rfl rfl));have d:aA S (aL (ak ej (aX 1 4) (bM (cA "Asker" "last_stamp") (J 0))) [.v (.ref i),.v (.t [w,bU k,.int b,.int e,b2 s,ld])]) (!decide (s=a.st)):=b8 (b_ (Pk s a.st) (.of rfl) (dk h rfl rfl));unfold bH.now;generalize decide (e=a.cD)=o at *;generalize decide (s=a.st)=rl at *
 cases o with
 |false=>exact w7 (iF (N7 c) (.of rfl))|true=>
  cases rl with
  |false=>exact w7 (iF (si c d) (.of rfl))|true=>exact hR (fT (si c d) (.of rfl)) (lx (b_ (Zh k ms) (.of rfl) (fb (bJ (dk h rfl rfl) dw) (.of H.mem))))
def uV:akz "grant"=true:=by decide +kernel
def abI:akz "kept"=true:=by decide +kernel
def aaH:oEq (.v (.str "late")) (.v (.str "late"))=pure (.v (.az true)):=by rw[fV uW uW,beq_self_eq_true]
def Mw:oEq (.v (.str "grant")) (.v (.str "late"))=pure (.v (.az false)):=by rw[fV uV uW];rfl
def zX:oEq (.v (.str "grant")) (.v (.str "grant"))=pure (.v (.az true)):=by rw[fV uV uV,beq_self_eq_true]
def V8:oEq (.v (.str "grant")) (.v (.str "kept"))=pure (.v (.az false)):=by rw[fV uV abI];rfl
def bH.Aw(a:bH)(r:Int):bH:={ a with cN:=if r > a.cN then r else a.cN }
section
variable{a:bH}{ms:List Nat}{fa fk:Nat->Bool}{S:bL}{i g:Nat}(H:rq a.h ms fa fk){k:Nat}{e:Int}{s kp:cF}{w:D}
def u1(h:dM S i g a)(x ld:D)(k:Nat)(e:Int)(s:cF):aA S (aL (ak ej (aX 1 2) (bM (cA "Asker" "me") (J 0))) [.v (.ref i),.v (.t [x,bU k,.int a.me,.int e,b2 s,ld])]) false:=
 b8 (b_ (sD.trans (by rw[decide_eq_true rfl];rfl)) (.of rfl) (dk h rfl rfl))
theorem D'(p:cF):a.Do hS [l8 k a.me e s p] [] (a.Aw p.1):=iA rfl λS i g h=>
 ia (u1 h (.str "late") (.t [b2 p]) k e s)<|wJ (b8 (b_ aaH (.of rfl) (.of rfl)))<|
 ji h (a.Aw p.1) rfl (qO rfl (bJ (dk h rfl rfl) (bJ (.of rfl) dw))) rfl rfl rfl λS h=>n4 h (.of rfl)
include H
theorem xC(h:dM S i g a)(x ld:D)(k:Nat)(b e:Int)(s:cF):aA S (ew (aL (e1 "Asker" "is_for_now" AD (J 0) (bE (J 1)))) [.v (.ref i),.v (.t [x,bU k,.int b,.int e,b2 s,ld])]) (!a.now ms k e s):=
 jq (b8 (w6 h.bD (.of rfl) rfl (bJ (.of rfl) dw) (Zr h H x ld k b e s)))
theorem Yi(x ld:D)(b:oEq (.v x) (.v (.str "late"))=pure (.v (.az false)))(q:a.now ms k e s=false):a.Do hS [.t [x,bU k,.int a.me,.int e,b2 s,ld]] [] a:=iA rfl λS i g h=>
 ia (u1 h x ld k e s)<|l2 (b8 (b_ b (.of rfl) (.of rfl)))<|wL h (by have:=xC H h x ld k a.me e s;rw[q]at this;exact this) (.of rfl)
variable(av:a.iy)
include av
theorem D_(q:a.now ms k e s=true)(c:a.sg="asking"){t:bH}(g:a.Do xf [kF k a.me e s kp w] Y t):a.Do hS [kF k a.me e s kp w] Y t:=iA rfl λS i j h=>
 ia (u1 h (.str "grant") (.t [b2 kp,w]) k e s)<|l2 (b8 (b_ Mw (.of rfl) (.of rfl)))<|
 ia (by have:=xC H h (.str "grant") (.t [b2 kp,w]) k a.me e s;rw[q]at this;exact this)<|
 wJ (gx (b8 (b_ zX (.of rfl) (.of rfl))) (b8 (b_ (by rw[fV (sU av) A3,c,beq_self_eq_true]) (dk h rfl rfl) (.of rfl))))<|
 rV (rs:=[.v (kF k a.me e s kp w)]) h g rfl rfl (aA.to (.of rfl)) rfl
theorem Yd(q:a.now ms k e s=true)(c:a.sg≠"asking"):a.Do hS [kF k a.me e s kp w] [] a:=iA rfl λS i j h=>
 ia (u1 h (.str "grant") (.t [b2 kp,w]) k e s)<|l2 (b8 (b_ Mw (.of rfl) (.of rfl)))<|
 ia (by have:=xC H h (.str "grant") (.t [b2 kp,w]) k a.me e s;rw[q]at this;exact this)<|
 l2 (gx (b8 (b_ zX (.of rfl) (.of rfl))) (b8 (b_ (by rw[fV (sU av) A3,show(a.sg == "asking")=false by simpa using c]) (dk h rfl rfl) (.of rfl))))<|
 l2 (iV (b8 (b_ V8 (.of rfl) (.of rfl))))<|n4 h (.of rfl)
end
section
variable{a:bH}{ms:List Nat}(hm:m' [a.h]=pure (.fr (ms.map bU)))(hl:ms.length<=6)
include hm hl
theorem TP(av:a.iy)(c:a.sg≠"calm"):a.Do AB [] (ms.map (eT a.me a.cD (a.cN+1,a.me))) a.asks:=iA rfl λS i g h=>
 ia (b8 (b_ (by rw[calm_eq av,show(a.sg == "calm")=false by simpa using c]) (dk h rfl rfl) (.of rfl)))<|rV (rs:=[]) h (Ct hm hl) rfl rfl rfl rfl
def bH.JP(a:bH)(d:D):bH:={ a with wi:=a.wi+1,dd:=d,c6:=.ay }
theorem TN(av:a.sg="calm")(c:a.cc=false)(hd:c5 d=.v d)(b:d=.ay\/pj [d]=pure (.v (.az true))):a.Do Fu [d] (ms.map (eT a.me a.cD (a.cN+1,a.me))) (a.JP d).asks:=iA rfl λS i g h=>by
 show eh S i g (Ir [.v (.ref i),c5 d]) _ _;rw[hd];have nn:aA S (aL (ak hq (J 1) (aK .ay)) [.v (.ref i),.v d]) (!dx d):=b8 (b_ (pz d) (.of rfl) (.of rfl));have t0:aA S (fW (aL (ak hq (J 1) (aK .ay))) (ew (aL (bC pj (bE (J 1))))) [.v (.ref i),.v d]) false:=by
  rcases b with rfl|b
  .exact iV nn
  .cases q:dx d with
   |true=>rw[q]at nn;exact iV nn|false=>rw[q]at nn;exact gx nn (jq (b8 (fb (bJ (x:=.v d) (.of rfl) dw) (.of b))))
 exact ia t0<|
  ia (b8 (dk h rfl (by show some (D.az a.cc)=_;rw[c])))<|
  ia (b8 (b_ (by rw[Ke (.inl av),av,beq_self_eq_true];rfl) (dk h rfl rfl) (.of rfl)))<|
  ji h { a with wi:=a.wi+1 } rfl (b_ rfl (dk h rfl rfl) (.of rfl)) rfl rfl rfl λS h=>
  ji h { a with wi:=a.wi+1,dd:=d } rfl (.of rfl) rfl rfl rfl λS h=>
  ji h (a.JP d) rfl (.of rfl) rfl rfl rfl λS h=>
  rV (rs:=[]) h (Ct hm hl) rfl rfl rfl rfl
end
def xI:akz "kept"=true:=by decide +kernel
def EU:oEq (.v (.str "kept")) (.v (.str "late"))=pure (.v (.az false)):=by rw[fV xI uW];rfl
def Oe:oEq (.v (.str "kept")) (.v (.str "grant"))=pure (.v (.az false)):=by rw[fV xI uV];rfl
def ET:oEq (.v (.str "kept")) (.v (.str "kept"))=pure (.v (.az true)):=by rw[fV xI xI,beq_self_eq_true]
section
variable{a:bH}{ms:List Nat}{fa fk:Nat->Bool}(H:rq a.h ms fa fk)(av:a.iy){k:Nat}{e:Int}{s:cF}
include H av
theorem MZ(q:a.now ms k e s=true)(c:a.sg="telling"){t:bH}(g:a.Do qW [gy k a.me e s] Y t):a.Do hS [gy k a.me e s] Y t:=iA rfl λS i j h=>
 ia (u1 h (.str "kept") (.t []) k e s)<|l2 (b8 (b_ EU (.of rfl) (.of rfl)))<|
 ia (by have:=xC H h (.str "kept") (.t []) k a.me e s;rw[q]at this;exact this)<|
 l2 (iV (b8 (b_ Oe (.of rfl) (.of rfl))))<|
 wJ (gx (b8 (b_ ET (.of rfl) (.of rfl))) (b8 (b_ (by rw[fV (sU av) Pw,c,beq_self_eq_true]) (dk h rfl rfl) (.of rfl))))<|
 rV (rs:=[.v (gy k a.me e s)]) h g rfl rfl (aA.to (.of rfl)) rfl
theorem Yf(q:a.now ms k e s=true)(c:a.sg≠"telling"):a.Do hS [gy k a.me e s] [] a:=iA rfl λS i j h=>
 ia (u1 h (.str "kept") (.t []) k e s)<|l2 (b8 (b_ EU (.of rfl) (.of rfl)))<|
 ia (by have:=xC H h (.str "kept") (.t []) k a.me e s;rw[q]at this;exact this)<|
 l2 (iV (b8 (b_ Oe (.of rfl) (.of rfl))))<|
 l2 (gx (b8 (b_ ET (.of rfl) (.of rfl))) (b8 (b_ (by rw[fV (sU av) Pw,show(a.sg == "telling")=false by simpa using c]) (dk h rfl rfl) (.of rfl))))<|
 n4 h (.of rfl)
end
abbrev hJ:=gg.κ.toKeyOrd
structure bO where
 cs:rC
 ds:List (Int×D)
 f:Int
 t:D
 aV:D
def bO.D(s:bO):aS.D:=.t [.t (s.cs.map (·.2)),.t (s.ds.map (·.2)),.t [.int s.f,s.t],s.aV]
inductive d4 where
 |put (a:List Nat) (n:Int)|add (a:List Nat) (n:Int)
def d4.D:d4->aS.D
 |.put a n=>.t [.str "put",.str (cT a),.int n]|.add a n=>.t [.str "add",.str (cT a),.int n]
def bg:Option d4->aS.D
 |none=>.ay|some d=>d.D
def bO.cell(s:bO)(a:List Nat):Int:=mH (fh (Q:=eB) s.cs a)
def bO.put(s:bO)(a:List Nat)(n:Int):bO:={ s with cs:=ko s.cs a n }
def kP(s:bO)(i:Int):d4->bO×aS.D
 |.put a n=>(s.put a n,.int (s.cell a))
 |.add a n=>(s.put a (s.cell a+n),.int (s.cell a+n))
structure dZ(G:aS.D->Prop)(W:List (List Nat))(s:bO):Prop where
 row:∀x∈s.cs,j2 x
 rise:k9 eB s.cs
 nm:∀x∈s.cs,x.1∈W
 num:∀x∈s.ds,ry x
 ka:k9 hJ s.ds
 gV:∀x∈s.ds,0<=x.1/\x.1<6
 fX:s.t=.ay\/∃i:Int,s.t=.int i
 aV:s.aV=.ay\/s.aV=.str "over"\/(∃xs,s.aV=.t xs)/\G s.aV
 qr:∀x∈s.ds,aS.Ok 2 x.2
def jC(G:aS.D->Prop)(W:List (List Nat)):d4->Prop
 |.put a _=>k' a/\a∈W|.add a _=>k' a/\a∈W
def ad5{z:Int}(a:0<=z)(b:z<6):z∈([0,1,2,3,4,5]:List Int):=by
 have e:z=0\/z=1\/z=2\/z=3\/z=4\/z=5:=by omega
 rcases e with e|e|e|e|e|e<;>rw[e]<;>simp
section
variable{G:aS.D->Prop}{W:List (List Nat)}{s:bO}(h:dZ G W s)
include h
theorem dZ.cl:s.cs.length<=W.length:=by
 have:=anz h.rise.nodup λx b=>by
  obtain⟨y,a,rfl⟩:=akM.mp b;exact h.nm y a
 rwa[akc]at this
theorem dZ.dl:s.ds.length<=6:=by
 have:=anz h.ka.nodup λx b=>by
  obtain⟨y,a,rfl⟩:=akM.mp b;exact ad5 (h.gV y a).1 (h.gV y a).2
 rw[akc]at this;exact this
theorem dZ.ss:c5 s.aV=.v s.aV:=by rcases h.aV with e|e|⟨⟨xs,e⟩,_⟩<;>rw[e]<;>rfl
theorem ab3(c:W.length<63)(i:Int)(hd:jC G W d):oc [s.D,.int i,d.D]=pure (.v (.t [(kP s i d).1.D,(kP s i d).2])):=by
 have b:s.cs.length<63:=by have:=h.cl;omega
 cases d with
 |put a n=>exact ab8 h.row h.rise b _ _ _ hd.1 n i|add a n=>exact ab7 h.row h.rise b _ _ _ hd.1 n i
end
def bO.last(s:bO)(i:Int):Int:=kO (fh (Q:=hJ) s.ds i)
noncomputable def De(s:bO)(i n:Int):Option d4->bO
 |none=>s|some d=>if(dx s.aV)=true/\s.last i<n then{ (kP s i d).1 with ds:=kl (Q:=hJ) s.ds (i,.t [.int i,.int n,(kP s i d).2]) }else s
def ab2(s:bO)(i:Int)(d:d4):(kP s i d).1.ds=s.ds:=by
 cases d<;>rfl
section
variable{G:aS.D->Prop}{W:List (List Nat)}{s:bO}(h:dZ G W s)
include h
theorem ab6(i:Int)(d:d4):c5 (kP s i d).2=.v (kP s i d).2:=by
 cases d<;>rfl
theorem U9(k:W.length<63)(i n:Int)(hd:∀x,d=some x->jC G W x):m9 [s.D,.int i,.int n,bg d]=pure (.v (De s i n d).D):=by
 cases d with
 |none=>exact LO h.num _ _ _ i n .ay rfl (.inl rfl)|some d=>
  unfold De;dsimp only;have fR:∃xs,d.D=.t xs:=by cases d<;>exact⟨_,rfl⟩
  obtain⟨xs,fR⟩:=fR
  by_cases c:(dx s.aV)=true/\s.last i<n
  .rw[if_pos c]
   have a:=ab3 h k i (hd d rfl);have g:=ab2 s i d;have os:=ab6 h i d;have b:s.aV=.ay:=by
    rcases h.aV with e|e|⟨⟨xs,e⟩,_⟩
    .exact e
    .rw[e]at c;cases c.1
    .rw[e]at c;cases c.1
   have j:=h.dl;generalize kP s i d=o at *;obtain⟨⟨p,l,m,t',sh'⟩,v⟩:=o;obtain⟨cs,ds,f,t,aV⟩:=s;dsimp only at g os b a j ⊢;subst g b;show m9 [_,_,_,d.D]=_;unfold bO.D at a ⊢;rw[fR]at a ⊢;have aq:=U8 h.num (.t (cs.map (·.2))) (.t [.int f,t]) i n xs c.2 (show l.length<63 by omega) h.ka.nodup (c':=.t (p.map (·.2))) (le':=.t [.int m,t']) (sh':=sh') (v:=v);exact aq a os
  .rw[if_neg c]
   show m9 [_,_,_,d.D]=_;rw[fR];refine LO h.num _ _ _ i n (.t xs) rfl (.inr ⟨⟨_,rfl⟩,?_⟩);rcases h.aV with e|e|⟨⟨zs,e⟩,_⟩
   .refine .inr (.inr ⟨e,?_⟩)
    rw[e]at c;have:¬s.last i<n:=λz=>c ⟨rfl,z⟩
    unfold bO.last at this;omega
   .exact .inl e
   .exact .inr (.inl ⟨zs,e⟩)
end
section
variable{G:aS.D->Prop}{W:List (List Nat)}{s:bO}(h:dZ G W s)
include h
theorem dZ.put(c:k' a)(hw:a∈W)(n:Int):dZ G W (s.put a n) where
 row:=afz h.row c n
 rise:=afy h.rise a n
 nm:=λx b=>by
  have b:x∈ko s.cs a n:=b;unfold ko at b;split at b
  .exact h.nm x ((tT (Q:=eB)).mp b).1
  .rcases(u6 (Q:=eB)).mp b with⟨b,_⟩|rfl
   .exact h.nm x b
   .exact hw
 num:=h.num
 ka:=h.ka
 gV:=h.gV
 fX:=h.fX
 aV:=h.aV
 qr:=h.qr
theorem ab4(i:Int)(hd:jC G W d):dZ G W (kP s i d).1:=by
 cases d with
 |put a n=>exact h.put hd.1 hd.2 n|add a n=>exact h.put hd.1 hd.2 _
theorem ab1(i:Int)(d:d4):aS.Ok 1 (kP s i d).2:=by
 cases d<;>exact fK
theorem dZ.ok(d:W.length<=1000)(c:∀z,G z->aS.Ok 9 z):aS.Ok 10 s.D:=by
 have f:=h.cl;have hd:=h.dl;refine Pu (md (pE (n:=2) (by rw[akc];omega) λx b=>?_) (by decide)) (md (pE (n:=2) (by rw[akc];omega) λx b=>?_) (by decide)) (md (n:=1) (nh fK ?_) (by decide)) ?_
 .obtain⟨y,a,rfl⟩:=akM.mp b
  obtain⟨w,n,_,e⟩:=h.row y a;rw[e];exact md (n:=1) (nh (kk w.1) fK) (by decide)
 .obtain⟨y,a,rfl⟩:=akM.mp b
  exact h.qr y a
 .rcases h.fX with e|⟨i,e⟩
  .rw[e];exact q7
  .rw[e];exact fK
 .rcases h.aV with e|e|⟨_,g⟩
  .rw[e];exact q7
  .rw[e];exact kk (by decide +kernel)
  .exact c _ g
end
end gb
namespace gb
open PySem PySem.Spec aB aS
def HA{xs:List D}{i:Nat}{d:D}(h:(jY xs xs)[i]? = some d):∃x,xs[i]? = some x/\d=.t [x,x]:=by
 unfold jY at h;rw[akC]at h
 cases e:(xs.zip xs)[i]? with
 |none=>rw[e]at h;cases h
 |some p=>
  rw[e]at h;cases h;obtain⟨a,b⟩:=amS.mp e;rw[a]at b;exact⟨p.1,a,by show D.t [p.1,p.2]=_;rw[<-akF b]⟩
def jV{t:aJ->M Bool}{a b:aY}(e:t U=pure false):bW (b9 t a bZ) b U=b U:=eX (m4 e)
def y9{a b:bj}{r:M R}(e:a U=pure (.v (.az true)))(aC:b U=r):oS a b U=r:=by show(a U >>= _)=_;rw[e];exact aC
def QG(n:Nat):ih (n+1) [.ay,.ay]=pure (.v (.az true)):=mM rfl ((jV (dc rfl)).trans (pH ((jn (dc rfl)).trans (kS rfl))))
def QE(n:Nat)(b:Bool):ih (n+1) [.az b,.az b]=pure (.v (.az true)):=mM rfl ((jV (dc rfl)).trans ((jV (dc rfl)).trans (pH ((jn (dc rfl)).trans (kS (y9 rfl (bN (Vr b) rfl rfl)))))))
def same_int(n:Nat)(i:Int):ih (n+1) [.int i,.int i]=pure (.v (.az true)):=mM rfl ((jV (dc rfl)).trans ((jV (dc rfl)).trans ((jV (dc rfl)).trans (pH ((jn (dc rfl)).trans (kS (y9 rfl (y9 rfl (bN (jf.trans (by rw[decide_eq_true rfl])) rfl rfl)))))))))
def same_str(n:Nat)(h:akz x=true):ih (n+1) [.str x,.str x]=pure (.v (.az true)):=mM rfl ((jV (dc rfl)).trans ((jV (dc rfl)).trans ((jV (dc rfl)).trans ((jV (dc rfl)).trans (kS (y9 rfl (bN (eq_str h) rfl rfl)))))))
def Ph(b:Bool):ej (.v (.az b)) (.v (.az b))=pure (.v (.az false)):=by cases b<;>rfl
def Mf{is:List Nat}{a:cW}(aq:a U=pure rs)(hz:vx rs=some ds)(e:hv (rg is b) ds U=pure (.bl U')):tL is a b U=pure (.bl U'):=by
 show(a U >>= _)=_;rw[aq];show(match vx rs with|some ds=>hv (rg is b) ds U|none=>bad)=_;rw[hz];exact e
def QF(n:Nat)(s:Slot)(h:∀x∈xs,ih n [x,x]=pure (.v (.az true))):∃U',hv (rg [2,3] (E6 (ih n))) (jY xs xs) [s,s,.e,.e]=pure (.bl U'):=by
 obtain⟨U',e,s2,s3,rfl⟩:=wF (b:=rg [2,3] (E6 (ih n)))
  (λi U=>∃s2 s3,U=[s,s,s2,s3]) ⟨_,_,rfl⟩ (λi d U c ⟨s2,s3,f⟩=>by
   subst f;obtain⟨x,a,rfl⟩:=HA c;exact⟨_,.inl (m4 (AX (dc (call_of rfl (h x (akQ a)))))),_,_,rfl⟩)
 exact⟨_,e⟩
def same_refl:∀(n:Nat)(d:D),Ok n d->ih (n+1) [d,d]=pure (.v (.az true)):=by
 intro n
 induction n with
 |zero=>
  intro d h
  cases d with
  |ay=>exact QG 0|az b=>exact QE 0 b|int i=>exact same_int 0 i|str x=>exact same_str 0 h.1| _=>exact absurd h.1 (by intro z;cases z)
 |succ n f=>
  intro d h;have a:∀xs:List D,iT xs n=true->(decide (xs.length<=1000)&&pQ xs)=true->(∀x∈xs,ih (n+1) [x,x]=pure (.v (.az true))):=λxs g e=>by
   rw[akD]at e;exact λx c=>f x ⟨zT.mp g x c,BG.mp e.2 x c⟩
  cases d with
  |ay=>exact QG _|az b=>exact QE _ b|int i=>exact same_int _ i|str x=>exact same_str _ h.1|t xs=>
   obtain⟨U',S⟩:=QF (n+1) (.v (.t xs)) (a xs h.1 h.2);exact mM rfl (pH ((jn (dc rfl)).trans ((jV ((sM (AX (dc rfl))).trans (dc (bN (Ph true) rfl rfl)))).trans ((jV (dc (bN (sD.trans (by rw[decide_eq_true rfl];rfl)) rfl rfl))).trans ((eX (Mf (cons_of rfl rfl) rfl S)).trans (kS rfl))))))
  |l xs=>
   obtain⟨U',S⟩:=QF (n+1) (.cf xs) (a xs h.1 h.2);exact mM rfl (pH ((jn (dc rfl)).trans ((jV ((sM (AX (dc rfl))).trans (dc (bN (Ph false) rfl rfl)))).trans ((jV (dc (bN (sD.trans (by rw[decide_eq_true rfl];rfl)) rfl rfl))).trans ((eX (Mf (cons_of rfl rfl) rfl S)).trans (kS rfl))))))
  |_=>exact absurd h.1 (by intro z;cases z)
def CU(ns:List Int)(k:Nat):pk [.l (ns.map D.int),.int (k:Nat)]=pure (.v (.int (ns.getD k 0))):=by
 simp only[pk,I9,I_]
 by_cases h:k<ns.length
 .simp[h,SX h]
 .simp[h]
end gb
namespace k7
mutual
def jw(s:Nat):aI->aI
 |.kp k=>.kp ((k+s) % 6)|.ch k ps=>.ch k (kT s ps)
def kT(s:Nat):List aI->List aI
 |[]=>[]
 |r::rs=>jw s r::kT s rs
end
theorem He(s:Nat):∀ps:List aI,kT s ps=ps.map (jw s)
 |[]=>rfl| r::rs=>by rw[akm,<-He s rs];rfl
def ae6(s k:Nat)(ps:List aI):jw s (.ch k ps)=.ch k (ps.map (jw s)):=by rw[<-He];rfl
def ae5(s:Nat)(ps:List aI):(kT s ps).length=ps.length:=by rw[He,akc]
mutual
theorem Bz(s:Nat):∀r:aI,(jw s r).deep=r.deep
 |.kp _=>rfl| .ch k ps=>by show aI.mJ (kT s ps)+1=aI.mJ ps+1;rw[Rb s ps]
theorem Rb(s:Nat):∀ps:List aI,aI.mJ (kT s ps)=aI.mJ ps
 |[]=>rfl| r::rs=>by show max (jw s r).deep (aI.mJ (kT s rs))=max r.deep (aI.mJ rs);rw[Bz s r,Rb s rs]
end
mutual
theorem Rg(s:Nat):∀r:aI,(jw s r).names.length=r.names.length
 |.kp _=>rfl| .ch k ps=>by show(aI.eG (kT s ps)).length=(aI.eG ps).length;rw[Rc s ps]
theorem Rc(s:Nat):∀ps:List aI,(aI.eG (kT s ps)).length=(aI.eG ps).length
 |[]=>rfl| r::rs=>by show((jw s r).names++aI.eG (kT s rs)).length=(r.names++aI.eG rs).length;rw[akh,akh,Rg s r,Rc s rs]
end
mutual
theorem Rh(s:Nat):∀r:aI,r.wf->(jw s r).wf
 |.kp k,_=>Nat.mod_lt _ (by decide)|.ch k ps,h=>by
  have a:1<=k/\k<=ps.length/\ps.length<=6/\aI.i4 ps:=h;show 1<=k/\k<=(kT s ps).length/\(kT s ps).length<=6/\aI.i4 (kT s ps);rw[ae5];exact⟨a.1,a.2.1,a.2.2.1,Rd s ps a.2.2.2⟩
theorem Rd(s:Nat):∀ps:List aI,aI.i4 ps->aI.i4 (kT s ps)
 |[],_=>trivial|r::rs,h=>⟨Rh s r h.1,Rd s rs h.2⟩
end
end k7
namespace gb
open PySem PySem.Spec aB aS k7 iv oH
theorem Fi:∀(n:Nat)(r:aI),r.deep<n->r.names.length<=1000->∃o,pn n [enc r]=pure o/\o.own=some (r.names.map bU)
 |0,r,h,_=>absurd h (amn _)|n+1,.kp k,h,_=>by
  refine⟨.fr [bU k],?_,rfl⟩;simp only[pn,zf,wo];simp[l']
 |n+1,.ch k ps,h,hl=>by
  simp only[aI.deep]at h;simp only[aI.names]at hl ⊢;refine⟨.v (.l ((aI.eG ps).map bU)),?_,rfl⟩;rw[qt];obtain⟨U',e,s2,rfl⟩:=wF (b:=λd U=>E5 (pn n) (U.set 2 (.v d))) (ds:=ps.map enc) (U:=[.v (.t [.int (k:Nat),.t (ps.map enc)]),.v (.l []),.e])
   (λi U=>∃s2,U=[.v (.t [.int (k:Nat),.t (ps.map enc)]),.v (.l ((aI.eG (ps.take i)).map bU)),s2]) ⟨_,rfl⟩ (λi d U hd ⟨s2,g⟩=>by
    subst g;obtain⟨r,c,rfl⟩:=FG hd;refine⟨_,.inl (?_:_=pure (fe.bl [.v (.t [.int (k:Nat),.t (ps.map enc)]),.v (.l ((aI.eG (ps.take (i+1))).map bU)),.v (enc r)])),_,rfl⟩;have a:(aI.eG (ps.take (i+1))).length<=1000:=by
     have:aI.eG ps=aI.eG (ps.take (i+1))++aI.eG (ps.drop (i+1)):=by rw[<-xt,List.take_append_drop]
     rw[this,akh]at hl;omega
    rw[(take_snoc c),xt]at a ⊢;rw[show aI.eG [r]=r.names from ak5 _]at a ⊢;rw[akh]at a;obtain⟨o,f,j⟩:=Fi n r ((rI (by omega)) r (akQ c)) (by omega);simp only[E5];simp[f,j,(alj (eP (by omega)))])
  simp only[pn,zf,Jp,Jq,Jr];simp[e]
def Fg{a k:aI}(d:Good a)(f:Good k):uD [d5 a k]=pure (.fr ((bX a k).map bU)):=by
 obtain⟨m,aq,g⟩:=Fi 6 a (by have:=d.2.1;omega) (by have:=d.2.2;omega);obtain⟨i,aC,h⟩:=Fi 6 k (by have:=f.2.1;omega) (by have:=f.2.2;omega);have z:a.names.length+k.names.length<=akg:=alj (eP (by have:=d.2.2;have:=f.2.2;omega));have b:6<akg:=eP (by decide);have cM:iZ m i=pure (.fr ((a.names++k.names).map bU)):=by
  unfold iZ;rw[g,h];simp[z]
 have c:f7 (aL (ak (ng false) (J 0) (J 1))) (J 0) [.e,.v (.l ((a.names++k.names).map bU))] ((akV 6).map bU)=pure ((bX a k).map bU):=
  lY bU (λj=>(a.names++k.names).contains j) bU _ (λj _=>by
   have q:=EA j (a.names++k.names);generalize(a.names++k.names).map bU=L at q ⊢;simp[q]) λj _ _=>by simp
 unfold d5;simp only[uD,Ji,Jj];generalize(a.names++k.names).map bU=L at cM c;generalize iZ=o at cM ⊢;simp[aq,aC,cM,Qu,b,c]
theorem Fj(s:Nat):∀(n:Nat)(r:aI),r.deep<n->r.wf->pq n [enc r,.int (s:Nat)]=pure (.v (enc (jw s r)))
 |0,r,h,_=>absurd h (amn _)|n+1,.kp k,h,hw=>by
  simp only[pq,zg,wo,jw];simp
 |n+1,.ch k ps,h,hw=>by
  simp only[aI.deep]at h;simp only[aI.wf]at hw;rw[qt];have c:f7 gD (bC (pq n) (a7 (J 0) (J 1))) [.e,.v (.int (s:Nat))] (ps.map enc)=pure (ps.map (enc∘jw s)):=
   qk enc _ ps (λr a=>by simp[Fj s n r ((rI (by omega)) r a) ((yu.mp hw.2.2.2) r a)])
  have z:ps.length<akg:=eP (by omega);rw[ae6,qt,al3];simp only[pq,zg,Jw];have oA:(ps.map enc).length<akg:=by rw[akc];exact z
  generalize ps.map enc=Z at c oA ⊢;simp[c,oA]
def Rf{r:aI}(h:Good r):Good (jw s r):=⟨Rh s r h.1,by rw[Bz];exact h.2.1,by rw[Rg];exact h.2.2⟩
def yk:aI:=.ch 2 [.kp 0,.kp 1,.kp 2]
def rws:aI:=.ch 1 [.ch 2 [.kp 0,.kp 1],.ch 2 [.kp 2,.kp 3]]
def cols:aI:=.ch 2 [.ch 1 [.kp 0,.kp 1],.ch 1 [.kp 2,.kp 3]]
noncomputable def iU:List (aI×aI):=[(yk,yk),(.kp 0,.kp 0),(.ch 1 [.kp 0,.kp 1,.kp 2],.ch 3 [.kp 0,.kp 1,.kp 2]),(.ch 3 [.kp 0,.kp 1,.kp 2],.ch 1 [.kp 0,.kp 1,.kp 2]),
 (rws,cols),(cols,rws),(.ch 3 [.kp 0,.kp 1,.kp 2,.kp 3,.kp 4],.ch 3 [.kp 4,.kp 3,.kp 2,.kp 1,.kp 0]),
 (.ch 2 [.kp 0,.kp 0,.kp 1,.kp 2],.ch 3 [.kp 0,.kp 0,.kp 1,.kp 2]),(.ch 2 [.kp 0,.kp 1],.ch 1 [.kp 0,.kp 1]),
 (.ch 2 [.kp 0,.ch 1 [.kp 1,.kp 2]],.ch 1 [.kp 0,.ch 2 [.kp 1,.kp 2]])]
def mi(p:aI×aI):D:=d5 p.1 p.2
def YF:∀p∈iU,(Good p.1/\Good p.2)/\p.1.deep<4/\p.2.deep<4:=by
 simp only[iU,yk,rws,cols,Good];simp[aI.wf,aI.i4,aI.deep,aI.mJ,aI.names,aI.eG]
def WC(c:Int):Jg [.v (.int c),.e,.e,.e,.e,.e,.e]=ze [.v (.int c),.v (enc yk),.v (enc rws),.v (enc cols),.v (.l (iU.map mi)),.e,.e]:=by
 have z:∀{xs a:List D},xs.length+a.length<=10->xs.length+a.length<=akg:=λh=>alj (eP (by omega))
 have e:iU.map mi=(iU.take 4).map mi++((iU.drop 4).take 3).map mi++((iU.drop 7).take 2).map mi++(iU.drop 9).map mi:=rfl;exact(eX (fL rfl)).trans ((eX (fL rfl)).trans ((eX (fL rfl)).trans ((eX (va rfl rfl)).trans ((eX (va (bN (wb (z (ako rfl))) rfl rfl) rfl)).trans ((eX (va (bN (wb (z (ako rfl))) rfl rfl) rfl)).trans (eX (va (bN (wb (z (ako rfl))) rfl rfl) rfl)))))))
def Oz(c:Int):∃a k,sA [.int c]=pure (.v (d5 a k))/\Good a/\Good k/\a.deep<4/\k.deep<4:=by
 obtain⟨i,h,j⟩:∃i:Nat,c % 10=(i:Nat)/\i<10:=⟨(c % 10).toNat,by omega,by omega⟩;obtain⟨s,av⟩:∃s:Nat,c / 10 % 6=(s:Nat):=⟨(c / 10 % 6).toNat,by omega⟩;obtain⟨p,b⟩:∃p,iU[i]? = some p:=⟨_,akB (show i<iU.length from j)⟩;obtain⟨⟨f,d⟩,g,hP⟩:=YF p (akQ b);refine⟨jw s p.1,jw s p.2,?_,Rf f,Rf d,by rw[Bz];exact g,by rw[Bz];exact hP⟩;have hn:fy (.v (.l (iU.map mi))) (.v (.int (i:Nat)))=pure (.v (mi p)):=by
  show(match fp (iU.map mi) (i:Int)with|some v=>pure (R.v v)|none=>bad)=_;rw[oQ i (by rw[akC,b];rfl)]
 have m:ze [.v (.int c),.v (enc yk),.v (enc rws),.v (enc cols),.v (.l (iU.map mi)),.e,.e]=pure (.cp (.v (d5 (jw s p.1) (jw s p.2)))):=by
  simp only[ze,Jh];generalize iU.map mi=L at hn ⊢;unfold mi d5 at hn;unfold d5;have n:c5 (enc p.1)=.v (enc p.1):=by cases p.1<;>rfl
  have q:c5 (enc p.2)=.v (enc p.2):=by cases p.2<;>rfl
  simp[h,av,hn,(Fj s 6 p.1 (by omega) f.1),(Fj s 6 p.2 (by omega) d.1)]
 have pre:=WC c;rw[m]at pre;simp only[sA];simp[pre]
def Uz(l:List Nat):zw (cT l)=l.map λc=>D.str (ch c):=rfl
def GV{n:Nat}(h:n<=1000):n<=akg:=by rw[akS];omega
def lA(c:Nat):Bool:=decide (97<=c/\c<=122)
def Co:("abcdefghijklmnopqrstuvwxyz":Str).cps.toList=(akV 26).map λk=>97+k:=by decide +kernel
def Zg(c:Nat):vj (ch c) "abcdefghijklmnopqrstuvwxyz"=lA c:=by
 unfold vj;rw[show ch c=⟨#[c]⟩from rfl,StrLaws.found_one,Co];unfold lA;rw[alD,decide_eq_true_eq,decide_eq_true_eq];simp only[akM,alg];constructor
 .omega
 .intro h;exact⟨c-97,by omega,by omega⟩
def abc(l:List Nat):f7 gD (ak (sH false) (J 0) (aK (.str "abcdefghijklmnopqrstuvwxyz"))) [.e] (l.map λc=>D.str (ch c))=pure (l.map λc=>D.az (lA c)):=
 qk (λc=>D.str (ch c)) (λc=>D.az (lA c)) l λc _=>by simp[Zg]
structure rv(l:List Nat):Prop where
 p1:1<=l.length
 A_:l.length<=8
 al:l.all lA=true
def rv.ok(h:rv l):akz (cT l)=true:=aem.mpr λc a=>by
 have:=alq.mp h.al c a;simp[lA]at this;omega
def Zs(h:rv l):AG [.str (cT l)]=pure (.v (.az true)):=by
 have av:l.length<=akg:=GV (by have:=h.A_;omega);have f:l.length<akg:=by rw[akS];have:=h.A_;omega
 have e:nS (l.map λc=>D.az (lA c))=some (l.map lA):=CK lA _;have a:(l.map lA).all id=true:=by rw[List.all_map];exact h.al
 have b:(1:Int)<=(l.length:Int):=by have:=h.p1;omega
 have d:(l.length:Int)<=8:=by have:=h.A_;omega
 simp only[AG,IY,IZ];simp[Hf,av,b,d,Uz,(abc l),e,a,f]
def SA{i:Int}(b:0<=i)(h:i<26):∃c,fy (.v (.str "abcdefghijklmnopqrstuvwxyz")) (.v (.int i))=pure (.v (.str (cT [c])))/\lA c=true:=by
 obtain⟨c,e⟩:=Ic (xs:=("abcdefghijklmnopqrstuvwxyz":Str).cps.toList) b (by rw[Co];simpa using h);refine⟨c,?_,?_⟩
 .show(match fp ("abcdefghijklmnopqrstuvwxyz":Str).cps.toList i with
   |some c=>if("abcdefghijklmnopqrstuvwxyz":Str).length<=akg then(pure (R.v (.str ⟨#[c]⟩)):M R)else bad| none=>bad)=_
  rw[e];dsimp only;rfl
 .have:=Ib e
  rw[Co]at this;obtain⟨k,a,rfl⟩:=akM.mp this;have:=alg.mp a;simp[lA];omega
def aaN:("m":Str)=cT [109]:=by decide +kernel
def Vj:("":Str)=cT []:=by decide +kernel
def Fh(c:Int):∃a,uE [.int c]=pure (.v (.str (cT a)))/\rv a:=by
 obtain⟨z,hz,p⟩:∃z:Nat,1+c % 8=(z:Nat)/\1<=z/\z<=8:=⟨(1+c % 8).toNat,by omega,by omega,by omega⟩;have l:=mod_lt (a:=c / 64) (b:=26) (by decide);obtain⟨x,aq,n⟩:=SA l.1 l.2;have h:0<z:=by omega
 obtain⟨U',e,a,k,rfl,g,f⟩:=wF (b:=λd U=>As (U.set 4 (.v d))) (U:=[.v (.int c),.v (.int (z:Nat)),.v (.int (c / 8 % (z:Nat))),.v (.str (cT [])),.e])
  (λi U=>∃(a:List Nat)(k:Slot),U=[.v (.int c),.v (.int (z:Nat)),.v (.int (c / 8 % (z:Nat))),.v (.str (cT a)),k]/\a.all lA=true/\a.length=i)
  ⟨[],_,rfl,rfl,rfl⟩ (λi d U hd ⟨a,k,r,g,f⟩=>by
   subst r;have t:i<z:=by
    have:=(ake.mp hd).1
    rwa[show(oo 0 z).length=z by simp[oo]]at this
   obtain⟨j,rfl⟩:∃j:Int,d=.int j:=by
    obtain⟨j,_,rfl⟩:=akM.mp (akQ hd);exact⟨_,rfl⟩
   have m:a.length+1<=akg:=GV (by omega)
   by_cases q:j=c / 8 % (z:Nat)
   .refine⟨_,.inl (?_:_=pure (fe.bl [.v (.int c),.v (.int (z:Nat)),.v (.int (c / 8 % (z:Nat))),.v (.str (cT (a++[x]))),.v (.int j)])),_,_,rfl,by rw[List.all_append,g];simpa using n,by rw[akh,f];rfl⟩
    simp only[As];simp[q,aq,Hf,Rr,m]
   .refine⟨_,.inl (?_:_=pure (fe.bl [.v (.int c),.v (.int (z:Nat)),.v (.int (c / 8 % (z:Nat))),.v (.str (cT (a++[109]))),.v (.int j)])),_,_,rfl,by rw[List.all_append,g];decide,by rw[akh,f];rfl⟩
    simp only[As,aaN];simp[q,Hf,Rr,m])
 have f:a.length=z:=by rw[f];simp[oo]
 refine⟨a,?_,⟨by omega,by omega,g⟩⟩;have s:(z:Int)<4611686018427387904:=by omega
 simp only[uE,Jk,Jl,Jm,Jn,Jo,Vj];simp[hz,h,e,s]
def zF(b:akz x=true)(a:akz y=true):oEq (.v (.str x)) (.v (.str y))=pure (.v (.az (x==y))):=qs b a
def F9:akz "name"=true:=by decide +kernel
def F_:akz "number"=true:=by decide +kernel
def acj(h:rv l):sx [.str "name",.str (cT l)]=pure (.v (.az true)):=by
 simp only[sx,CD];simp[(zF F9 F9),(Zs h)]
def abx{n:Int}(h:-(10 ^ 60)<n/\n<10 ^ 60):AH [.int n]=pure (.v (.az true)):=by
 have e:decide ((if n<0 then -n else n)<1000000000000000000000000000000000000000000000000000000000000)=true:=by
  rw[decide_eq_true_eq];split<;>omega
 simp only[AH,I0];rw[<-e];simp[(Ho n)]
def ack{n:Int}(h:-(10 ^ 60)<n/\n<10 ^ 60):sx [.str "number",.int n]=pure (.v (.az true)):=by
 have q:=zF F_ F9;rw[show(("number":Str) == "name")=false by decide +kernel]at q;simp only[sx,CD,I1];simp[q,(zF F_ F_),(abx h)]
def VL:uq.lookup ("put":Str)=some (.t [.str "name",.str "number"]):=rfl
def Mg:uq.lookup ("add":Str)=some (.t [.str "name",.str "number"]):=rfl
def UL(x:D)(ps:List D):cutD (x::ps) (some 1) none=ps:=UM (x::ps) 1
structure vD(d:D):Prop where
 ex:∃(w:Str)(l:List Nat)(n:Int),d=.t [.str w,.str (cT l),.int n]/\uq.lookup w=some (.t [.str "name",.str "number"])/\rv l/\(-(10 ^ 60)<n/\n<10 ^ 60)
def NS(h:vD d):pj [d]=pure (.v (.az true)):=by
 obtain⟨w,l,n,rfl,c,f,b⟩:=h.ex;have p1:=acj f;have oA:2<akg:=by rw[akS];omega
 generalize cT l=x at p1 ⊢;have a:sf gD (bC sx (a7 (J 0) (J 1))) [.e,.e] [(.str "name",.str x),(.str "number",.int n)]=pure [.az true,.az true]:=by
  simp[sf,p1,(ack b)]
 simp only[pj,IU,IV,IW,IX,Fx,IL];simp[c,UL,a,nS,oA,yE,R.walk]
mutual
theorem Pd:∀r:aI,r.wf->r.names≠[]
 |.kp k,_=>λh=>nomatch h
 |.ch k ps,h=>by
  have a:1<=k/\k<=ps.length/\ps.length<=6/\aI.i4 ps:=h;show aI.eG ps≠[];exact abd ps a.2.2.2 (by omega)
theorem abd:∀ps:List aI,aI.i4 ps->0<ps.length->aI.eG ps≠[]
 |[],_,h=>absurd h (ak0 _)|r::rs,h,_=>by
  show r.names++aI.eG rs≠[];exact λe=>Pd r h.1 (List.append_eq_nil_iff.mp e).1
end
def pw(a k:aI):(bX a k).length<=6:=by
 simpa[bX]using al6 (λj=>(a.names++k.names).contains j) (akV 6)
def O8{a k:aI}(c:Good a):0<(bX a k).length:=by
 obtain⟨x,b⟩:=List.exists_mem_of_ne_nil _ (Pd a c.1);refine aoG (a:=x) ?_;unfold bX;rw[aln,alg];exact⟨q3 a c.1 x b,ak9.mpr (ale _ b)⟩
def sJ{xs:List D}(a:xs.length<=1000)(h:∀x∈xs,Ok n x):Ok (n+1) (.l xs):=
 have q:=pE a h
 ⟨q.1,q.2⟩
theorem xH:∀(m:Nat)(r:aI),r.deep<m->r.wf->Ok (2*m) (enc r)
 |0,r,h,_=>absurd h (amn _)| m+1,.kp k,_,_=>by exact fK|m+1,.ch k ps,h,hw=>by
  simp only[aI.deep]at h;simp only[aI.wf]at hw;rw[qt];exact nh fK (pE (by rw[akc];omega) λp b=>by
   obtain⟨r,a,rfl⟩:=akM.mp b;exact xH m r ((rI (by omega)) r a) ((yu.mp hw.2.2.2) r a))
def A5{a k:aI}(b:Good a)(c:Good k):Ok 11 (d5 a k):=
 nh (xH 5 a (by have:=b.2.1;omega) b.1) (xH 5 k (by have:=c.2.1;omega) c.1)
theorem Qx:∀{l:List (Z.κ.α×D)},(∀x∈l,x5 Z x.2=some x.1)->pF Z (l.map (·.2))=some (l.map (·.1))
 |[],_=>rfl|x::l,h=>by
  rw[akm,akm];unfold pF;rw[h x akj,Qx λy a=>h y (aki _ a)]
theorem R1{α a:Type}:∀l:List (α×a),(l.map (·.1)).zip (l.map (·.2))=l
 |[]=>rfl| x::l=>by rw[akm,akm,amY,R1 l]
def GY[DecidableEq Z.κ.α]{l:List (Z.κ.α×D)}(h:∀x∈l,x5 Z x.2=some x.1){r:R}(b:r.fv=some (l.map (·.2)))(a:(l.map (·.1)).Nodup)(c:l.length<64):nV Z [r]=pure (.fr ((il Z.κ.blt l).map (·.2))):=by
 rw[Vi,b];dsimp only;rw[Qx h];show(if kz Z.κ.blt (l.map (·.1))=true/\(l.map (·.1)).length<64 then _ else _)=_;rw[if_pos ⟨H8 a,by rw[akc];exact c⟩,R1]
theorem D0(f:k' a)(hd:fy (.v dd) (.v (.int 1))=pure (.v (.str (cT a)))):∀{cs:rC},(∀x∈cs,j2 x)->(cs.map (·.1)).Nodup->∃L:List Int,sh (aL (ak oEq (J 0) (aX 2 1))) (J 1) [.e,.e,.v dd] (cs.map (·.2))=pure (L.map D.int)/\L.sum=mH (fh (Q:=eB) cs a)
 |[],_,_=>⟨[],rfl,rfl⟩
 |x::cs,h,o=>by
  obtain⟨d,n,i,ex⟩:=h x akj;rw[akm,ak8]at o;obtain⟨L,e,s⟩:=D0 f hd (λy b=>h y (aki _ b)) o.2;have t:aL (ak oEq (J 0) (aX 2 1)) [.v (.str (cT x.1)),.v (.int n),.v dd]=pure (decide (x.1=a)):=dc (bN (LZ d.1 f.1) rfl (bN hd rfl rfl));rw[akm,ex];unfold fh
  by_cases c:x.1=a
  .rw[decide_eq_true c]at t
   have g:L.sum=0:=by
    rw[s];have:fh (Q:=eB) cs a=none:=by
     unfold fh;rw[anO.mpr λy b z=>o.1 (akM.mpr ⟨y,b,(of_decide_eq_true z).trans c.symm⟩)];rfl
    rw[this];rfl
   refine⟨n::L,?_,?_⟩
   .show(aL (ak oEq (J 0) (aX 2 1)) [.v (.str (cT x.1)),.v (.int n),.v dd] >>= _)=_
    rw[t];rw[e];rfl
   .rw[alf (by simpa using c),List.sum_cons,g]
    show n+0=mH (some x.2);rw[ex,Int.add_zero];rfl
  .rw[decide_eq_false c]at t
   refine⟨L,?_,?_⟩
   .show(aL (ak oEq (J 0) (aX 2 1)) [.v (.str (cT x.1)),.v (.int n),.v dd] >>= _)=_
    rw[t];exact e
   .rw[ak3 (by simpa using c)]
    exact s
def QZ{L:List Int}:rN [.fr (L.map D.int)]=pure (.v (.int L.sum)):=by
 show(match nums (L.map D.int)with|some bs=>pure (R.v (.int bs.sum))|none=>bad)=_;rw[FW (λi=>i),List.map_id']
def Kt{it:fB}{t:aJ->M Bool}{ds xs:List D}(aq:it U=pure ds)(z:ds.length<akg)(e:sh t el (kC 2 cap U) ds=pure xs):tK cap it t el U=pure (.fr xs):=by
 show(it U >>= _)=_;rw[aq];show(h6 (ds.length<akg) >>= _)=_;rw[Kk z];rw[e];rfl
def acd{m:bj}{U:aJ}(e:m U=pure (.fr xs)):jJ i m U=pure (.bl (U.set i (.fc false xs))):=by show(m U >>= _)=_;rw[e];rfl
def ldI:aY:=(bW (b1 10 (cV rN (bE (tK [3] (ig (J 4)) (aL (ak oEq (J 0) (aX 2 1))) (J 1)))))
  (bW (b1 11 (aX 3 2))
  (bW (b1 9 (J 10))
  (bW (b9 (aL (ak oEq (aX 3 0) (aK (.str "add")))) (bW (b1 11 (ak iI (J 10) (aX 3 2)))
  (b1 9 (J 11))) bZ)
  (bW (jJ 12 (e9 1 [3] (ig (J 4)) (aL (ak ej (aX 0 0) (aX 1 1))) (J 0)))
  (bW (b9 (aL (ak ej (J 11) (aH 0))) (ja 12 hY (bE (bF (a7 (aX 3 1) (J 11))))) bZ)
  (b1 4 (cV mL (bE (cV (nV jr) (bE (J 12))))))))))))
def uL(s:bO):d4->Int×Int
 |.put a n=>(n,s.cell a)
 |.add a n=>(s.cell a+n,s.cell a+n)
def xA:d4->List Nat
 |.put a _=>a|.add a _=>a
def gR(d:d4):Prop:=(∃a n,d=.put a n)\/∃a n,d=.add a n
def adp:oEq (.v (.str "put")) (.v (.str "add"))=pure (.v (.az false)):=by rw[fV (by decide +kernel) (by decide +kernel)];rfl
def adm:oEq (.v (.str "add")) (.v (.str "add"))=pure (.v (.az true)):=by rw[fV (by decide +kernel) (by decide +kernel),beq_self_eq_true]
def ads:oEq (.v (.str "put")) (.v (.str "move"))=pure (.v (.az false)):=by rw[fV (by decide +kernel) (by decide +kernel)];rfl
def ado:oEq (.v (.str "add")) (.v (.str "move"))=pure (.v (.az false)):=by rw[fV (by decide +kernel) (by decide +kernel)];rfl
def adq:oEq (.v (.str "put")) (.v (.str "end"))=pure (.v (.az false)):=by rw[fV (by decide +kernel) (by decide +kernel)];rfl
def adn:oEq (.v (.str "add")) (.v (.str "end"))=pure (.v (.az false)):=by rw[fV (by decide +kernel) (by decide +kernel)];rfl
section
variable{s:bO}(row:∀x∈s.cs,j2 x)(rise:k9 eB s.cs)(hl:s.cs.length<60)
include row rise hl
theorem OC(i:k' a)(hd:fy (.v dd) (.v (.int 1))=pure (.v (.str (cT a))))(w:Int)(g s1 s2 h s6 s7 s8 s9 f k:Slot) :
  bW (jJ 12 (e9 1 [3] (ig (J 4)) (aL (ak ej (aX 0 0) (aX 1 1))) (J 0)))
  (bW (b9 (aL (ak ej (J 11) (aH 0))) (ja 12 hY (bE (bF (a7 (aX 3 1) (J 11))))) bZ)
  (b1 4 (cV mL (bE (cV (nV jr) (bE (J 12))))))) [g,s1,s2,.v dd,.v (.t (s.cs.map (·.2))),h,s6,s7,s8,s9,f,.v (.int w),k]=pure (.bl [g,s1,s2,.v dd,.v (.t ((ko s.cs a w).map (·.2))),h,s6,s7,s8,s9,f,.v (.int w),.fc false ((if w=0 then h9 (Q:=eB) s.cs a else jt (Q:=eB) s.cs (a,.t [.str (cT a),.int w])).map (·.2))]):=by
 have bM:f7 (aL (ak ej (aX 0 0) (aX 1 1))) (J 0) [.e,.v dd] (s.cs.map (·.2))=pure ((h9 (Q:=eB) s.cs a).map (·.2)):=
  lY (λx:List Nat×D=>x.2) (λx=>!decide (x.1=a)) (λx=>x.2) s.cs (λx b=>dc (bN (Pl (row x b).1.1 i.1) (bN (row x b).hn rfl rfl) (bN hd rfl rfl))) λx _ _=>zA rfl
 have d:∀x:List Nat×D,j2 x->x5 jr x.2=some x.1:=λx b=>by obtain⟨_,m,_,e⟩:=b;rw[e];rfl
 have j:∀x∈h9 (Q:=eB) s.cs a,j2 x:=λx b=>row x ((tT (Q:=eB)).mp b).1
 have dl:(h9 (Q:=eB) s.cs a).length<=s.cs.length:=al6 _ _;refine(eX (acd (rH rfl (by rw[akc];exact eP (by omega)) bM))).trans ?_
 by_cases c:w=0
 .refine(eX (m4 (dc (bN (sD.trans (by rw[decide_eq_true c];rfl)) rfl rfl)))).trans ?_
  refine(fL (mF rfl (cons_of (mF (GY (λx b=>d x (j x b)) rfl (Df _ rise.nodup) (by omega)) rfl) rfl))).trans ?_;unfold ko;rw[if_pos c,if_pos c,QN (Dg a rise)];rfl
 .refine(eX ((jn (dc (bN (sD.trans (by rw[decide_eq_false c];rfl)) rfl rfl))).trans (y_ rfl (cons_of (Rj (bN hd rfl rfl) rfl) rfl) (by rw[akc];exact eP (by omega))))).trans ?_
  refine(fL (mF rfl (cons_of (mF (GY (l:=jt (Q:=eB) s.cs (a,.t [.str (cT a),.int w])) (λx b=>?_) (by unfold jt;rw[akP];rfl) (xX _ rise.nodup) (by have:=Bd (Q:=eB) s.cs (a,.t [.str (cT a),.int w]);omega)) rfl) rfl))).trans ?_
  .rcases(xW (Q:=eB)).mp b with⟨b,_⟩|rfl
   .exact d x (row x b)
   .rfl
  .unfold ko
   rw[if_neg c,if_neg c];unfold kl jt;rw[akP];rfl
theorem aay(hC:gR d)(b:k' (xA d))(f s1 s2 g s6 s7 s8 s9 k j i:Slot):∃h,ldI [f,s1,s2,.v d.D,.v (.t (s.cs.map (·.2))),g,s6,s7,s8,s9,k,j,i]=pure (.bl [f,s1,s2,.v d.D,.v (.t ((ko s.cs (xA d) (uL s d).1).map (·.2))),g,s6,s7,s8,.v (.int (uL s d).2),.v (.int (s.cell (xA d))),.v (.int (uL s d).1),h]):=by
 have z:(s.cs.map (·.2)).length<akg:=by rw[akc];exact eP (by omega)
 rcases hC with⟨a,m,rfl⟩|⟨a,m,rfl⟩
 .obtain⟨L,e,c⟩:=D0 b (dd:=(d4.put a m).D) rfl row rise.nodup
  refine⟨_,(eX (fL (mF (QZ.trans (by rw[c];rfl)) (cons_of (Kt rfl z e) rfl)))).trans ((eX (fL rfl)).trans ((eX (fL rfl)).trans ((eX (m4 (dc (bN adp rfl rfl)))).trans (OC row rise hl b rfl m _ _ _ _ _ _ _ _ _ _))))⟩
 .obtain⟨L,e,c⟩:=D0 b (dd:=(d4.add a m).D) rfl row rise.nodup
  refine⟨_,(eX (fL (mF (QZ.trans (by rw[c];rfl)) (cons_of (Kt rfl z e) rfl)))).trans ((eX (fL rfl)).trans ((eX (fL rfl)).trans ((eX ((jn (dc (bN adm rfl rfl))).trans ((eX (fL rfl)).trans (fL rfl)))).trans (OC row rise hl b rfl (s.cell a+m) _ _ _ _ _ _ _ _ _ _))))⟩
end
def so(i n:Int)(x:Int×D):Bool:=decide (x.1=i)&&decide (n<=kO (some x.2))
def Mr{a b:Int}:pB (.v (.int a)) (.v (.int b))=pure (.v (.az (decide (a≥b)))):=rfl
def wM{a b:Int}:pC (.v (.int a)) (.v (.int b))=pure (.v (.az (decide (a > b)))):=rfl
def OD(xs:List D):hk [.v (.l xs)]=pure (.v (.int (xs.length:Nat))):=rfl
section
variable{G:aS.D->Prop}{W:List (List Nat)}{s:bO}(h:dZ G W s)
include h
theorem aas(i n:Int):f7 (fW (aL (ak oEq (aX 0 0) (J 1))) (aL (ak pB (aX 0 1) (J 2)))) (J 0) [.e,.v (.int i),.v (.int n)] (s.ds.map (·.2))=pure ((s.ds.filter (so i n)).map (·.2)):=
 lY (λx:Int×D=>x.2) (so i n) (λx=>x.2) s.ds (λx a=>by
  obtain⟨m,z,e⟩:=h.num x a;unfold so;rw[e]
  by_cases c:x.1=i
  .rw[decide_eq_true c]
   exact(SO (dc (bN (jf.trans (by rw[decide_eq_true c])) (bN rfl rfl rfl) rfl))).trans (dc (bN Mr (bN rfl rfl rfl) rfl))
  .rw[decide_eq_false c]
   exact SM (dc (bN (jf.trans (by rw[decide_eq_false c])) (bN rfl rfl rfl) rfl))) λx _ _=>zA rfl
theorem aar{i n:Int}(b:1<=n):decide ((((s.ds.filter (so i n)).map (·.2)).length:Int) > 0)=decide (n<=s.last i):=by
 rw[akc,show ∀m:Nat,decide ((m:Int) > 0)=decide (m > 0)from λm=>by simp]
 by_cases c:n<=s.last i
 .rw[decide_eq_true c]
  unfold bO.last at c
  cases q:fh (Q:=hJ) s.ds i with
  |none=>rw[q]at c;have c:n<=0:=c;omega|some d=>
   rw[q]at c;have m:(i,d)∈s.ds.filter (so i n):=aln.mpr ⟨qv q,by unfold so;rw[decide_eq_true c];simp⟩;exact decide_eq_true (aoG m)
 .rw[decide_eq_false c]
  refine decide_eq_false λz=>c ?_
  obtain⟨x,a⟩:=List.exists_mem_of_length_pos z;obtain⟨a,q⟩:=aln.mp a;obtain⟨bw,cB⟩:=Bool.and_eq_true_iff.mp q;unfold bO.last;rw[<-(of_decide_eq_true bw),t_ h.ka.nodup a];exact of_decide_eq_true cB
theorem U_(i:Int):f7 (aL (ak ej (aX 0 0) (J 1))) (J 0) [.e,.v (.int i)] (s.ds.map (·.2))=pure ((h9 (Q:=hJ) s.ds i).map (·.2)):=
 lY (λx:Int×D=>x.2) (λx=>!decide (x.1=i)) (λx=>x.2) s.ds (λx a=>by
  obtain⟨m,z,e⟩:=h.num x a;rw[e];exact dc (bN sD (bN rfl rfl rfl) rfl)) λx _ _=>zA rfl
theorem Fl(i n:Int)(dd b sh' dm:D)(av:c5 dm=.v dm)(s8 g d c:Slot):Jc [.v s.D,.v (.int i),.v (.int n),.v dd,.v b,.v (.t (s.ds.map (·.2))),.v (.t [.int s.f,s.t]),.v sh',s8,.v dm,g,d,c]=pure (.cp (.v (.t [b,.t ((kl (Q:=hJ) s.ds (i,.t [.int i,.int n,dm])).map (·.2)),.t [.int s.f,s.t],sh']))):=by
 have dl:=h.dl;have j:(s.ds.map (·.2)).length<akg:=by rw[akc];exact eP (by omega)
 refine(eX (fL (mF rfl (cons_of (mF (GY (l:=jt (Q:=hJ) s.ds (i,.t [.int i,.int n,dm])) (λx a=>?_) (by unfold jt;rw[akP];rfl) (xX _ h.ka.nodup) (by have:=Bd (Q:=hJ) s.ds (i,.t [.int i,.int n,dm]);omega)) (cons_of (bN (Us ?_) (rH rfl j (U_ h i)) rfl) rfl)) rfl)))).trans ?_
 .rcases(xW (Q:=hJ)).mp a with⟨a,_⟩|rfl
  .obtain⟨m,z,e⟩:=h.num x a
   rw[e];rfl
  .rfl
 .have:=zC (Q:=hJ) s.ds i
  refine GV ?_;rw[akc];show _+1<=1000;omega
 .exact Eq.trans (kS rfl) rfl
end
inductive jD where
 |hC (d:d4)|mv (h:D)|fin
def jD.D:jD->aS.D
 |.hC d=>d.D|.mv h=>.t [.str "move",h]|.fin=>.t [.str "end"]
def jD.out(s:bO)(i:Int):jD->bO×aS.D
 |.hC d=>kP s i d|.mv h=>({ s with aV:=h },.int 1)
 |.fin=>({ s with aV:=.str "over" },.int 1)
def eu(s:bO)(i n:Int):Option jD->bO
 |none=>s|some d=>if(dx s.aV)=true/\s.last i<n then{ (d.out s i).1 with ds:=kl (Q:=hJ) s.ds (i,.t [.int i,.int n,(d.out s i).2]) }else s
def wH:Option jD->aS.D
 |none=>.ay|some d=>d.D
def tu(G:aS.D->Prop)(W:List (List Nat)):jD->Prop
 |.hC d=>jC G W d|.mv h=>(∃xs,h=.t xs)/\G h|.fin=>True
section
variable{G:aS.D->Prop}{W:List (List Nat)}{s:bO}(h:dZ G W s)
include h
theorem Oy(B:W.length<59)(i:Int){n:Int}(p:1<=n){d:Option jD}(hd:∀x,d=some x->tu G W x):uB [s.D,.int i,.int n,wH d]=pure (.v (eu s i n d).D):=by
 have da:c5 (wH d)=.v (wH d):=by rcases d with _|(d|x|_)<;>first|rfl|(cases d<;>rfl)
 have dl:=h.dl;have cl:s.cs.length<60:=by have:=h.cl;omega
 have u:(s.ds.map (·.2)).length<akg:=by rw[akc];exact eP (by omega)
 have lz:=aar h (i:=i) p;refine mM rfl ?_;show Jb [.v s.D,.v (.int i),.v (.int n),c5 (wH d),.e,.e,.e,.e,.e,.e,.e,.e,.e]=_;rw[da];refine(eX (Rw rfl rfl)).trans<|(eX (va (rH rfl u (aas h i n)) rfl)).trans ?_
 cases d with
 |none=>exact pH ((jn (PG (dc rfl))).trans (kS rfl))|some d=>
  have nn:gB (.v d.D) (.v .ay)=pure (.v (.az false)):=by rcases d with d|x|_<;>first|rfl|(cases d<;>rfl)
  have hd:=hd d rfl;unfold eu;dsimp only
  cases q:dx s.aV with
  |false=>
   exact pH ((jn ((sM (dc (bN nn rfl rfl))).trans (PG (dc (bN ((pz s.aV).trans (by rw[q];rfl)) rfl rfl))))).trans (kS rfl))
  |true=>
  by_cases c:n<=s.last i
  .rw[decide_eq_true c]at lz
   rw[if_neg λz=>absurd z.2 (Int.not_lt.mpr c)];exact pH ((jn ((sM (dc (bN nn rfl rfl))).trans ((sM (dc (bN ((pz s.aV).trans (by rw[q];rfl)) rfl rfl))).trans (dc (bN (wM.trans (by rw[lz])) (mF (OD _) rfl) rfl))))).trans (kS rfl))
  .rw[decide_eq_false c]at lz
   rw[if_pos ⟨rfl,Int.not_le.mp c⟩];refine(eX (m4 ((sM (dc (bN nn rfl rfl))).trans ((sM (dc (bN ((pz s.aV).trans (by rw[q];rfl)) rfl rfl))).trans (dc (bN (wM.trans (by rw[lz])) (mF (OD _) rfl) rfl)))))).trans<|(eX (fL rfl)).trans ?_
   cases d with
   | mv x=>exact(eX ((jn (dc (bN (by rw[fV (by decide +kernel) (by decide +kernel),beq_self_eq_true]) (bN rfl rfl rfl) rfl))).trans (fL rfl))).trans (Fl h i n _ _ x (.int 1) rfl _ _ _ _)| fin=>exact(eX ((m4 (dc (bN (by rw[fV (by decide +kernel) (by decide +kernel)];rfl) (bN rfl rfl rfl) rfl))).trans ((jn (dc (bN (by rw[fV (by decide +kernel) (by decide +kernel),beq_self_eq_true]) (bN rfl rfl rfl) rfl))).trans (fL rfl)))).trans (Fl h i n _ _ (.str "over") (.int 1) rfl _ _ _ _)|hC d=>
    have hC:gR d:=by cases d with|put a n=>exact .inl ⟨a,n,rfl⟩|add a n=>exact .inr ⟨a,n,rfl⟩
    have y:k' (xA d):=by rcases hC with⟨a,m,rfl⟩|⟨a,m,rfl⟩<;>exact hd.1
    have r:kP s i d=(s.put (xA d) (uL s d).1,.int (uL s d).2):=by rcases hC with⟨a,m,rfl⟩|⟨a,m,rfl⟩<;>rfl
    obtain⟨w,j,b,g⟩:∃w:Str,fy (.v d.D) (.v (.int 0))=pure (.v (.str w))/\oEq (.v (.str w)) (.v (.str "move"))=pure (.v (.az false))/\oEq (.v (.str w)) (.v (.str "end"))=pure (.v (.az false)):=by
     rcases hC with⟨a,m,rfl⟩|⟨a,m,rfl⟩
     .exact⟨_,rfl,ads,adq⟩
     .exact⟨_,rfl,ado,adn⟩
    obtain⟨A,k⟩:=aay h.row h.rise cl hC y (.v s.D) (.v (.int i)) (.v (.int n)) (.v (.t (s.ds.map (·.2)))) (.v (.t [.int s.f,s.t])) (.v s.aV) (.v (.l ((s.ds.filter (so i n)).map (·.2)))) (.v (.int 1)) .e .e .e;refine(eX ((m4 (dc (bN b (bN j rfl rfl) rfl))).trans ((m4 (dc (bN g (bN j rfl rfl) rfl))).trans k))).trans ?_;show _=pure (fe.cp (.v (bO.D { (kP s i d).1 with ds:=kl (Q:=hJ) s.ds (i,.t [.int i,.int n,(kP s i d).2]) })));rw[r];exact Fl h i n _ _ s.aV (.int (uL s d).2) rfl _ _ _ _
theorem Fe{i:Int}(c:0<=i)(e:i<6)(n:Int){d:Option jD}(hd:∀x,d=some x->tu G W x):dZ G W (eu s i n d):=by
 cases d with
 |none=>exact h|some d=>
  have hd:=hd d rfl;have o:dZ G W (d.out s i).1/\aS.Ok 1 (d.out s i).2:=by
   cases d with
   |hC d=>exact⟨ab4 h i hd,ab1 h i d⟩|mv x=>exact⟨⟨h.row,h.rise,h.nm,h.num,h.ka,h.gV,h.fX,.inr (.inr hd),h.qr⟩,fK⟩|fin=>exact⟨⟨h.row,h.rise,h.nm,h.num,h.ka,h.gV,h.fX,.inr (.inl rfl),h.qr⟩,fK⟩
  obtain⟨o,b⟩:=o;unfold eu;dsimp only;split
  .refine⟨o.row,o.rise,o.nm,aby h.num i n _,Gx _ h.ka.nodup,λx a=>?_,o.fX,o.aV,λx a=>?_⟩
   .rcases(u6 (Q:=hJ)).mp a with⟨a,_⟩|rfl
    .exact h.gV x a
    .exact⟨c,e⟩
   .rcases(u6 (Q:=hJ)).mp a with⟨a,_⟩|rfl
    .exact h.qr x a
    .exact oj fK fK b
  .exact h
end
def aaA(xs:List D):hk [.fr xs]=pure (.v (.int (xs.length:Nat))):=rfl
def Zi(j:Nat)(a:List Nat):ng false (.v (bU j)) (.cf (a.map bU))=pure (.v (.az (a.contains j))):=EA j a
theorem Ax(a:List Nat):∀(n:Nat)(r:aI),r.deep<n->r.wf->kj n [enc r,.l (a.map bU)]=pure (.v (.az (r.fills λj=>a.contains j)))
 |0,r,h,_=>absurd h (amn _)|n+1,.kp k,h,hw=>by
  exact mM rfl (pH ((jn (abt (dc rfl))).trans (kS (bN (Zi k a) rfl rfl))))
 |n+1,.ch k ps,h,hw=>by
  simp only[aI.deep]at h;simp only[aI.wf]at hw;rw[qt];have c:f7 (aL (bC (kj n) (a7 (J 0) (J 1)))) (J 0) [.e,.cf (a.map bU)] (ps.map enc)=pure ((ps.filter (aI.fills λj=>a.contains j)).map enc):=
   lY enc (aI.fills λj=>a.contains j) enc ps (λr b=>dc (call_of rfl (Ax a n r ((rI (by omega)) r b) ((yu.mp hw.2.2.2) r b)))) λr _ _=>rfl
  have z:(ps.map enc).length<akg:=by rw[akc];exact eP (by omega)
  have e:decide ((((ps.filter (aI.fills λj=>a.contains j)).map enc).length:Int)≥(k:Nat))=(aI.ch k ps).fills λj=>a.contains j:=by
   rw[akc,zx];exact decide_eq_decide.mpr (by omega)
  exact mM rfl ((jV (AX (dc rfl))).trans (kS (bN (Mr.trans (by rw[e])) (mF (aaA _) (cons_of (rH rfl z c) rfl)) (bN rfl rfl rfl))))
def oi{S:bL}{x y:Nat}{o b:ha}(a:S[x]? = some o)(c:S[y]? = some b)(n:o≠b):x≠y:=λe=>n (by rw[e,c]at a;exact(akF a).symm)
abbrev gz(k E:Nat):List Key:=[.inl (k:Nat),.inl (E:Nat)]
def sP(pr kp:cF)(w:D):D:=.t [b2 pr,b2 kp,w]
def sQ(a:List (List Key×D))(k E:Nat):D:=(jL a (gz k E)).getD (sP (0,0) (0,0) .ay)
def aaw{S:bL}{i:Nat}{a:List (List Key×D)}(h:S[i]? = some (.fR a))(k E:Nat):aA S (uF [.ref i,bU k,.int (E:Nat)]) (.v (sQ a k E)):=
 m5 rfl (lx (ZW h (.of rfl) (.of rfl) (.of rfl) rfl (ako rfl)))
def cmp_gt(s t:cF):pA l9 (.v (b2 s)) (.v (b2 t))=pure (.v (.az (c8 s t))):=by
 show pure (R.v (.az (l9 [s.1,s.2] [t.1,t.2])))=_;rw[OG]
def aaC(s t:cF):uv [s.1,s.2] [t.1,t.2] = !c8 t s:=by
 unfold uv c8;rw[Ay,Ay]
 by_cases bw:s.1=t.1
 .rw[if_pos bw,bw]
  by_cases cB:s.2=t.2
  .rw[if_pos cB,cB]
   simp[iG]
  .rw[if_neg cB,alD];simp
 .rw[if_neg bw,alD]
  simp;omega
def Kp(s t:cF):pA uv (.v (b2 s)) (.v (b2 t))=pure (.v (.az (!c8 t s))):=by
 show pure (R.v (.az (uv [s.1,s.2] [t.1,t.2])))=_;rw[aaC]
def uU:akz "ask"=true:=by decide +kernel
def xJ:akz "tell"=true:=by decide +kernel
def H5:oEq (.v (.str "ask")) (.v (.str "ask"))=pure (.v (.az true)):=by rw[fV uU uU,beq_self_eq_true]
def SW:oEq (.v (.str "ask")) (.v (.str "tell"))=pure (.v (.az false)):=by rw[fV uU xJ];rfl
def Q8:oEq (.v (.str "tell")) (.v (.str "ask"))=pure (.v (.az false)):=by rw[fV xJ uU];rfl
def Ri:oEq (.v (.str "tell")) (.v (.str "tell"))=pure (.v (.az true)):=by rw[fV xJ xJ,beq_self_eq_true]
section
variable{aD:List (List Key×D)}{k E:Nat}{me:Int}{s pr kp:cF}{w:D}(aO:sQ aD k E=sP pr kp w)
include aO
variable{S:bL}{i:Nat}(hi:S[i]? = some (.fR aD))
include hi
theorem xN{U:aJ}{aq aC cP:bj}(c:cP U=pure (.v (.ref i)))(a:aq U=pure (.v (bU k)))(b:aC U=pure (.v (.int (E:Nat)))):aA S (bC uF (cy cP aq aC) U) (.v (sP pr kp w)):=
 fb (bJ (.of c) (bJ (.of a) (bJ (.of b) dw))) (aO▸aaw hi k E)
theorem Yj(hz:aD.length<1000)(ab:c8 s pr=true):br S (kJ [.ref i,eT me (E:Nat) s k]) (.v (kF k me (E:Nat) s kp w)) (S.set i (.fR (je aD (gz k E) (sP s kp w)))):=
 tm rfl (c7 (aA.to (pb (.of rfl) rfl)) (c7 (aA.to (pb (xN aO hi rfl rfl rfl) rfl)) (tn (mu (aA.to (gx (b8 (b_ H5 (.of rfl) (.of rfl))) (b8 (b_ ((cmp_gt s pr).trans (by rw[ab])) (.of rfl) (.of rfl))))) (c7 (RQ rfl rfl (.of rfl) (.of rfl) hi rfl ⟨ako rfl,hz⟩) rfl)))))
theorem Yl(ab:c8 s pr=false):br S (kJ [.ref i,eT me (E:Nat) s k]) (.v (l8 k me (E:Nat) s pr)) S:=
 tm rfl (c7 (aA.to (pb (.of rfl) rfl)) (c7 (aA.to (pb (xN aO hi rfl rfl rfl) rfl)) (vt (aA.to (gx (b8 (b_ H5 (.of rfl) (.of rfl))) (b8 (b_ ((cmp_gt s pr).trans (by rw[ab])) (.of rfl) (.of rfl))))) (vt (aA.to (iV (b8 (b_ SW (.of rfl) (.of rfl))))) rfl))))
variable{b n dd t:D}
theorem Yk(hz:aD.length<1000)(ab:c8 pr s=false):br S (kJ [.ref i,gm me (E:Nat) s (.t [b,n,dd,t]) k]) (.v (gy k me (E:Nat) s)) (S.set i (.fR (je aD (gz k E) (sP s s t)))):=
 tm rfl (c7 (aA.to (pb (.of rfl) rfl)) (c7 (aA.to (pb (xN aO hi rfl rfl rfl) rfl)) (vt (aA.to (iV (b8 (b_ Q8 (.of rfl) (.of rfl))))) (tn (mu (aA.to (gx (b8 (b_ Ri (.of rfl) (.of rfl))) (b8 (b_ ((Kp s pr).trans (by rw[ab];rfl)) (.of rfl) (.of rfl))))) (c7 (RQ rfl rfl (.of rfl) (.of rfl) hi rfl ⟨ako rfl,hz⟩) rfl))))))
theorem Ym(ab:c8 pr s=true):br S (kJ [.ref i,gm me (E:Nat) s (.t [b,n,dd,t]) k]) (.v (l8 k me (E:Nat) s pr)) S:=
 tm rfl (c7 (aA.to (pb (.of rfl) rfl)) (c7 (aA.to (pb (xN aO hi rfl rfl rfl) rfl)) (vt (aA.to (iV (b8 (b_ Q8 (.of rfl) (.of rfl))))) (vt (aA.to (gx (b8 (b_ Ri (.of rfl) (.of rfl))) (b8 (b_ ((Kp s pr).trans (by rw[ab];rfl)) (.of rfl) (.of rfl))))) rfl))))
end
def LQ{k j:List Key}(h:j≠k)(d:D):∀a:List (List Key×D),jL (je a k d) j=jL a j:=by
 intro a;unfold je jL;split
 .rename_i g
  clear g
  induction a with
  |nil=>rfl|cons p a b=>
   rw[akm]
   by_cases c:p.1=k
   .rw[if_pos c,ak3 (by simpa using λz=>h (z.symm.trans c)),ak3 (by simpa using λz=>h (z.symm.trans c))]
    exact b
   .rw[if_neg c]
    by_cases ak:p.1=j
    .rw[alf (by simpa using ak),alf (by simpa using ak)]
    .rw[ak3 (by simpa using ak),ak3 (by simpa using ak)]
     exact b
 .rw[List.find?_append]
  cases e:a.find? λf=>decide (f.1=j)with
  |none=>rw[ak3 (by simpa using alQ h)];rfl|some x=>rfl
def Vb(k:List Key)(d:D):∀a:List (List Key×D),jL (je a k d) k=some d:=by
 intro a;unfold je jL;split
 .rename_i b
  induction a with
  |nil=>cases b
  |cons p a e=>
   rw[akm]
   by_cases c:p.1=k
   .rw[if_pos c,alf (by simpa using c)];rfl
   .rw[if_neg c,ak3 (by simpa using c)]
    refine e ?_;simpa[c]using b
 .rename_i b
  rw[List.find?_append,anO.mpr λx f z=>b (aon.mpr ⟨x,f,z⟩),alf (by simp)];rfl
def tE(E:Nat)(b:List (List Key×D)):Prop:=∃a:List Nat,b.map (·.1)=a.map (λc=>gz (c % 6) (c / 6))/\a.Nodup/\∀c∈a,c<6*(E+1)
def tE.len{E:Nat}{a:List (List Key×D)}(h:tE E a):a.length<=6*(E+1):=by
 obtain⟨d,e,cS,c⟩:=h;have l:=congrArg alF e;rw[akc,akc]at l;have:=cS.length_le_of_subset λk b=>alg.mpr (c k b)
 rw[List.length_range]at this;omega
def tE.put{E:Nat}{c:List (List Key×D)}(h:tE E c){k:Nat}(m:k<6)(d:D):tE E (je c (gz k E) d):=by
 obtain⟨f,e,cS,g⟩:=h;unfold je;split
 .refine⟨f,?_,cS,g⟩
  rw[<-e,al3];refine List.map_congr_left λp _=>?_
  show(if p.1=gz k E then(p.1,d)else p).1=p.1;split<;>rfl
 .rename_i l
  have b:gz k E=gz ((6*E+k) % 6) ((6*E+k) / 6):=by rw[show(6*E+k) % 6=k by omega,show(6*E+k) / 6=E by omega]
  refine⟨f++[6*E+k],by rw[akP,akP,e,b];rfl,?_,λx a=>?_⟩
  .refine amy.mpr ⟨cS,ak8.mpr ⟨ak6,am2⟩,λx a y j=>?_⟩
   rw[akt.mp j];rintro rfl;obtain⟨p,i,cD⟩:=akM.mp (e▸amg a);exact l (aon.mpr ⟨p,i,by rw[b];simpa using cD⟩)
  .rcases akO.mp a with a|a
   .exact g x a
   .rw[akt.mp a];omega
structure cG where
 pr:cF
 kp:cF
 w:D
def cG.D(p:cG):aS.D:=sP p.pr p.kp p.w
def om:cG:=⟨(0,0),(0,0),.ay⟩
def up(B:Nat->cG)(k:Nat)(p:cG):Nat->cG:=λj=>if j=k then p else B j
def Ry(B:Nat->cG)(k:Nat):up B k (B k)=B:=funext λj=>by unfold up;split<;>simp[*]
def afk{B:Nat->cG}{k:Nat}{p:cG}:up B k p k=p:=if_pos rfl
def Rx{B:Nat->cG}{j k:Nat}{p:cG}(h:j≠k):up B k p j=B j:=if_neg h
def cG.ask(p:cG)(s:cF):cG:=if c8 s p.pr=true then⟨s,p.kp,p.w⟩else p
def cG.ky(p:cG)(k:Nat)(me:Int)(E:Nat)(s:cF):aS.D:=if c8 s p.pr=true then kF k me (E:Nat) s p.kp p.w else l8 k me (E:Nat) s p.pr
def cG.tell(p:cG)(s:cF)(t:aS.D):cG:=if c8 p.pr s=true then p else⟨s,s,t⟩
def cG.vV(p:cG)(k:Nat)(me:Int)(E:Nat)(s:cF):aS.D:=if c8 p.pr s=true then l8 k me (E:Nat) s p.pr else gy k me (E:Nat) s
structure pZ(aD:List (List Key×D))(E:Nat)(B:Nat->cG):Prop where
 mj:∀k,sQ aD k E=(B k).D
 bl:∀k e,E<e->sQ aD k e=om.D
 Bm:tE E aD
def Og{j k E F:Nat}(h:j≠k\/E≠F):gz j E≠gz k F:=λz=>by injection z with z o;injection z with z;injection o with o;injection o with o;omega
def pZ.put{a:List (List Key×D)}{E:Nat}{B:Nat->cG}(h:pZ a E B){k:Nat}(b:k<6)(p:cG):pZ (je a (gz k E) p.D) E (up B k p):=by
 refine⟨λj=>?_,λj e he=>?_,h.Bm.put b _⟩
 .by_cases c:j=k
  .rw[c,afk];unfold sQ;rw[Vb];rfl
  .rw[Rx c];unfold sQ;rw[LQ (Og (.inl c))];exact h.mj j
 .unfold sQ
  rw[LQ (Og (.inr (by omega)))];exact h.bl j e he
def pZ.next{a:List (List Key×D)}{E:Nat}{B:Nat->cG}(h:pZ a E B):pZ a (E+1) λ_=>om:=by
 obtain⟨b,e,cS,f⟩:=h.Bm;exact⟨λk=>h.bl k _ (amE _),λk e he=>h.bl k e (by omega),b,e,cS,λc d=>by have:=f c d;omega⟩
structure lV where
 me:Int
 nu:Int
 dg:Int
 dd:D
def lV.fs(x:lV)(b:Nat):List (Key×D):=[(.inr "me",.int x.me),(.inr "books",.ref b),(.inr "number",.int x.nu),(.inr "turn",.int x.dg),(.inr "deed",x.dd)]
structure dN(S:bL)(i w b:Nat)(a:bH)(x:lV)(E:Nat)(B:Nat->cG):Prop where
 gV:∃g,dM S i g a
 jx:S[w]? = some (.hP (x.fs b))
 bk:∃aD,S[b]? = some (.fR aD)/\pZ aD E B
section
variable{S:bL}{i w b:Nat}{a c:bH}{x:lV}{E:Nat}{B:Nat->cG}(h:dN S i w b a x E B)
include h
theorem dN.qq{mf:d0}{ds Y:List D}(d:a.Do mf ds Y c):∃e,br S (mf (.ref i::ds)) (.fr Y) e/\dN e i w b c x E B:=by
 obtain⟨⟨g,A⟩,jx,f,bk,H⟩:=h;obtain⟨e,g',t,s⟩:=d S i g A;have bD:=A.bD;have ls:=A.ls;exact⟨e,t,⟨g',s.at'⟩,s.fr _ _ (by simp only[akq,ak6,or_false,not_or];exact⟨oi jx bD (by intro z;cases z),oi jx ls (by intro z;cases z)⟩) jx,f,s.fr _ _ (by simp only[akq,ak6,or_false,not_or];exact⟨oi bk bD (by intro z;cases z),oi bk ls (by intro z;cases z)⟩) bk,H⟩
theorem dN.put{o:ha}{d:List (List Key×D)}{f:Nat->cG}(e:o=.fR d)(H:pZ d E f):dN (S.set b o) i w b a x E f:=by
 obtain⟨⟨g,A⟩,jx,j,bk,_⟩:=h;refine⟨⟨g,?_,?_⟩,?_,d,by rw[get_set bk,e],H⟩
 .rw[aku (oi bk A.bD (by intro z;cases z))];exact A.bD
 .rw[aku (oi bk A.ls (by intro z;cases z))];exact A.ls
 .rw[aku (oi bk jx (by intro z;cases z))];exact jx
theorem dN.Hp{x':lV}:dN (S.set w (.hP (x'.fs b))) i w b a x' E B:=by
 obtain⟨⟨g,A⟩,jx,d,bk,H⟩:=h;refine⟨⟨g,?_,?_⟩,get_set jx,d,?_,H⟩
 .rw[aku (oi jx A.bD (by intro z;cases z))];exact A.bD
 .rw[aku (oi jx A.ls (by intro z;cases z))];exact A.ls
 .rw[aku (oi jx bk (by intro z;cases z))];exact bk
theorem dN.get{U:aJ}{j:Nat}{f:Str}{d:D}(g:J j U=pure (.v (.ref w)))(e:jL (x.fs b) (.inr f)=some d):aA S (ak fJ (J j) (aK (.str f)) U) (.v d):=ZT h.jx (.of g) (.of rfl) rfl e
theorem dN.ask(g:E<=150){k:Nat}(f:k<6)(me:Int)(s:cF):∃d,br S (kJ [.ref b,eT me (E:Nat) s k]) (.v ((B k).ky k me E s)) d/\dN d i w b a x E (up B k ((B k).ask s)):=by
 obtain⟨e,bk,H⟩:=h.bk;have hz:e.length<1000:=by have:=H.Bm.len;omega
 unfold cG.ask cG.ky
 by_cases c:c8 s (B k).pr=true
 .rw[if_pos c,if_pos c]
  exact⟨_,Yj (H.mj k) bk hz c,h.put rfl (H.put f ⟨s,(B k).kp,(B k).w⟩)⟩
 .rw[if_neg c,if_neg c,Ry]
  exact⟨_,Yl (H.mj k) bk (alB.mpr c),h⟩
theorem dN.tell(g:E<=150){k:Nat}(f:k<6)(me:Int)(s:cF)(y n dd t:D):∃d,br S (kJ [.ref b,gm me (E:Nat) s (.t [y,n,dd,t]) k]) (.v ((B k).vV k me E s)) d/\dN d i w b a x E (up B k ((B k).tell s t)):=by
 obtain⟨e,bk,H⟩:=h.bk;have hz:e.length<1000:=by have:=H.Bm.len;omega
 unfold cG.tell cG.vV
 by_cases c:c8 (B k).pr s=true
 .rw[if_pos c,if_pos c,Ry]
  exact⟨_,Ym (H.mj k) bk c,h⟩
 .rw[if_neg c,if_neg c]
  exact⟨_,Yk (H.mj k) bk hz (alB.mpr c),h.put rfl (H.put f ⟨s,s,t⟩)⟩
end
def Vx{b:D->aY}{d:D}{ds:List D}{U U':aJ}(h:b d U=pure (.bl U')):hv b (d::ds) U=hv b ds U':=by
 show(b d U >>= _)=_;rw[h];rfl
def Ql{m:bj}{U:aJ}{xs:List D}(e:m U=pure (.fr xs)):bA m U=pure (.cp (.fr xs)):=by show(m U >>= _)=_;rw[e];rfl
abbrev df(E:Nat)(a k:aI)(op:D):D:=.t [.int (E:Nat),d5 a k,op]
def d9(z:D):Prop:=∃a k,z=d5 a k/\Good a/\Good k/\Ok 9 z
section
variable{a k:aI}(ar:Good a)(aw:Good k)
include ar aw
theorem Ff(me:Int)(E:Nat)(op:D)(s:cF):uA [.int me,df E a k op,b2 s]=pure (.fr ((bX a k).map (eT me (E:Nat) s))):=
 Mc rfl (Ql (rH (NH (call_of rfl (Fg ar aw))) (by rw[akc];have:=pw a k;exact eP (by omega)) (qk bU (eT me (E:Nat) s) (bX a k) λ_ _=>rfl)))
end
def dV(b:cF×D)(g:b0):cF×D:=if c8 g.s b.1=true then(g.s,g.w)else b
theorem JR{B:D->aY}(l:∀g U,B (dB g) U=E4 (lH [4,5,6] [bU g.k,b2 g.s,g.w] U))(i s1:Slot):∀(aZ:List b0)(b:cF×D)(a d s6:Slot),∃h j f,hv B (aZ.map dB) [i,s1,.v (b2 b.1),.v b.2,a,d,s6]=pure (.bl [i,s1,.v (b2 (aZ.foldl dV b).1),.v (aZ.foldl dV b).2,h,j,f])
 |[],b,a,d,s6=>⟨a,d,s6,rfl⟩
 |g::aZ,b,a,d,s6=>by
  obtain⟨h,j,f,e⟩:=JR l i s1 aZ (dV b g) (.v (bU g.k)) (.v (b2 g.s)) (.v g.w);refine⟨h,j,f,(Vx ((l g _).trans ?_)).trans e⟩;unfold dV
  by_cases c:c8 g.s b.1=true
  .rw[if_pos c]
   exact(jn (dc (bN ((cmp_gt g.s b.1).trans (by rw[c])) rfl rfl))).trans ((eX (fL rfl)).trans (fL rfl))
  .rw[if_neg c]
   exact m4 (dc (bN ((cmp_gt g.s b.1).trans (by rw[alB.mpr c])) rfl rfl))
def Ow(aZ:List b0){op:D}(b:c5 op=.v op):xm [.l (aZ.map dB),op]=pure (.v (.t [b2 (aZ.foldl dV ((0,0),op)).1,(aZ.foldl dV ((0,0),op)).2])):=by
 obtain⟨f,g,c,e⟩:=JR (B:=λd U=>match d with
  |.t a=>if a.length=[4,5,6].length then E4 (lH [4,5,6] a U)else bad| _=>bad) (λ_ _=>rfl) (.cf (aZ.map dB)) (.v op) aZ ((0,0),op) .e .e .e
 refine mM rfl ?_;show I8 [.cf (aZ.map dB),c5 op,.e,.e,.e,.e,.e]=_;rw[b];exact(eX (fL rfl)).trans ((eX (fL rfl)).trans ((eX e).trans (kS rfl)))
section
variable{a k:aI}(ar:Good a)(aw:Good k)
include ar aw
theorem OA(me:Int)(E:Nat){op:D}(b:c5 op=.v op)(s:cF)(n:Int){d w:D}(hd:c5 d=.v d){aZ:List b0}(hw:uB [(aZ.foldl dV ((0,0),op)).2,.int me,.int n,d]=pure (.v w)) :
  AM [.int me,df E a k op,b2 s,.int n,d,.l (aZ.map dB)]=pure (.fr ((bX a k).map (gm me (E:Nat) s (.t [b2 (aZ.foldl dV ((0,0),op)).1,.int n,d,w])))):=by
 refine Mc rfl ?_;show Ju [.v (.int me),.v (df E a k op),.v (b2 s),.v (.int n),c5 d,.cf (aZ.map dB),.e,.e,.e]=_;rw[hd];exact(eX (Rw (call_of rfl (Ow aZ b)) rfl)).trans ((eX (fL (by
  show(ck _ _ _ >>= _)=_;rw[cons_of rfl (cons_of rfl (cons_of rfl (cons_of (call_of rfl hw) rfl)))];rfl))).trans (Ql (rH (NH (call_of (rs:=[.v (d5 a k)]) rfl (Fg ar aw))) (by rw[akc];have:=pw a k;exact eP (by omega)) (qk bU (gm me (E:Nat) s (.t [b2 (aZ.foldl dV ((0,0),op)).1,.int n,d,w])) (bX a k) λ_ _=>rfl))))
end
def oG(P:bO->Prop)(W:List (List Nat))(s:cF)(w:D):Prop:=(s=(0,0)/\w=.ay)\/(1<=s.1/\∃t:bO,w=t.D/\dZ d9 W t/\P t)
theorem zi{P:bO->Prop}{W:List (List Nat)}{op:D}:∀(ps:List b0)(b:b0)(c:cF×D),(∀g∈ps,oG P W g.s g.w)->(b.s=(0,0)\/1<=b.s.1)->c.1=b.s->c.2=(if b.s=(0,0)then op else b.w)->n_ op (lb b ps)=.t [b2 (ps.foldl dV c).1,(ps.foldl dV c).2]
 |[],b,c,_,_,C,U=>by
  show D.t [b2 b.s,if b.s=(0,0)then op else b.w]=.t [b2 c.1,c.2];rw[C,U]
 |g::ps,b,c,I,o,C,U=>by
  show n_ op (lb (AU b g) ps)=.t [b2 (ps.foldl dV (dV c g)).1,(ps.foldl dV (dV c g)).2];have d:g.s=(0,0)\/1<=g.s.1:=(I g akj).elim (λz=>.inl z.1) λz=>.inr z.1
  by_cases q:c8 g.s b.s=true
  .have ne:g.s≠(0,0):=λz=>by
    rw[z]at q;rcases o with o|o
    .rw[o]at q;cases q
    .unfold c8 at q
     simp at q;omega
   have aq:AU b g=g:=if_pos q;have aC:dV c g=(g.s,g.w):=by unfold dV;rw[C,if_pos q]
   rw[aq,aC];exact zi ps g _ (λx a=>I x (aki _ a)) d rfl (if_neg ne).symm
  .have aq:AU b g=b:=if_neg q
   have aC:dV c g=c:=by unfold dV;rw[C,if_neg q]
   rw[aq,aC];exact zi ps b c (λx a=>I x (aki _ a)) o C U
theorem vZ{P:bO->Prop}{W:List (List Nat)}:∀(aZ:List b0)(c:cF×D),(∀g∈aZ,oG P W g.s g.w)->(c.1=(0,0)\/1<=c.1.1)->(∃t:bO,c.2=t.D/\dZ d9 W t/\P t)->∃t:bO,(aZ.foldl dV c).2=t.D/\dZ d9 W t/\P t
 |[],_,_,_,h=>h|g::aZ,c,o,h0,h=>by
  show ∃t:bO,(aZ.foldl dV (dV c g)).2=t.D/\_;unfold dV
  by_cases q:c8 g.s c.1=true
  .rw[if_pos q]
   rcases o g akj with⟨z,_⟩|⟨z,C⟩
   .rw[z]at q
    rcases h0 with h0|h0
    .rw[h0]at q;cases q
    .unfold c8 at q
     simp at q;omega
   .exact vZ aZ _ (λx a=>o x (aki _ a)) (.inr z) C
  .rw[if_neg q]
   exact vZ aZ c (λx a=>o x (aki _ a)) h0 h
def J0:bO:=⟨[],[],0,.ay,.ay⟩
def TY(W:List (List Nat)):dZ d9 W J0:=⟨λ_ h=>(nomatch h),an1,λ_ h=>(nomatch h),λ_ h=>(nomatch h),an1,λ_ h=>(nomatch h),.inl rfl,.inl rfl,λ_ h=>(nomatch h)⟩
def TS{P:bO->Prop}{W:List (List Nat)}{p:b0}{ps:List b0}(a:∀g∈p::ps,oG P W g.s g.w)(op:D):n_ op (lb p ps)=.t [b2 ((p::ps).foldl dV ((0,0),op)).1,((p::ps).foldl dV ((0,0),op)).2]:=by
 rcases a p akj with⟨z,_⟩|⟨z,_⟩
 .have e:dV ((0,0),op) p=((0,0),op):=by unfold dV;rw[z];exact if_neg (show ¬c8 (0,0) (0,0)=true by decide)
  show _=D.t [b2 (ps.foldl dV (dV _ p)).1,(ps.foldl dV (dV _ p)).2];rw[e];exact zi ps p _ (λx b=>a x (aki _ b)) (.inl z) z.symm (if_pos z).symm
 .have a1:c8 p.s (0,0)=true:=by unfold c8;simp;omega
  have ne:p.s≠(0,0):=λq=>by rw[q]at z;exact absurd z (by decide)
  have e:dV ((0,0),op) p=(p.s,p.w):=by exact if_pos a1
  show _=D.t [b2 (ps.foldl dV (dV _ p)).1,(ps.foldl dV (dV _ p)).2];rw[e];exact zi ps p _ (λx b=>a x (aki _ b)) (.inr z) rfl (if_neg ne).symm
def oe{a k:aI}{j:Nat}(h:j∈bX a k):j<6:=alg.mp (aln.mp h).1
def uH(a k:aI):(bX a k).Nodup:=List.nodup_range.filter _
def Vz{a:aI}(c:Good a){aZ:List b0}(m:aZ.length<1000){U:aJ}{d b:bj}{r:R}(h:d U=pure (.v (enc a)))(i:b U=pure r)(f:r.fv=some (aZ.map dB)) :
  aL (bC (kj 6) (a7 d (e9 1 [] (jO b) gD (aX 0 0)))) U=pure (a.fills λj=>(aZ.map (·.k)).contains j):=by
 have g:=Ax (aZ.map (·.k)) 6 a (by have:=c.2.1;omega) c.1;have e:(aZ.map dB).length<akg:=by rw[akc];exact eP (by omega)
 have l:f7 gD (aX 0 0) (kC 1 [] U) (aZ.map dB)=pure ((aZ.map (·.k)).map bU):=(qk dB (λx=>bU x.k) aZ λx _=>rfl).trans (by rw[al3];rfl);have aC:jO b U=pure (aZ.map dB):=by show(b U >>= _)=_;rw[i];show(match r.fv with|some xs=>pure xs|none=>bad)=_;rw[f]
 exact dc (call_of (cons_of h (cons_of (rH aC e l) rfl)) g)
def af7(c d a aV s:D)(av:c5 s=.v s):AQ [.t [c,d,a,aV],s]=pure (.v (.t [c,d,a,s])):=by
 simp[AQ,JN,av]
def bO.dm(s:bO)(i:Int):aS.D:=match fh (Q:=hJ) s.ds i with
 |some (.t [_,_,z])=>z|_=>.ay
section
variable{G:aS.D->Prop}{W:List (List Nat)}{s:bO}(h:dZ G W s)
include h
theorem U7(i:Int):qX [s.D,.int i]=pure (.v (.t [.int i,.int (s.last i),s.dm i])):=by
 have e:=Dc (λx a=>(h.num x a).qp) (.t (s.cs.map (·.2))) (.t [.int s.f,s.t]) s.aV i;refine e.trans ?_;unfold bO.last bO.dm
 cases q:fh (Q:=gg.κ.toKeyOrd) s.ds i with
 |none=>rfl|some d=>
  obtain⟨n,z,e⟩:=h.num _ (qv q);have e:d=.t [.int i,.int n,z]:=e;subst e;rfl
omit h in
theorem ad4(s:bO):pv [s.D]=pure (.v s.aV):=by unfold bO.D;simp[pv,CH]
omit h in
theorem NT(s:bO):m_ [s.D]=pure (.v (.az (!dx s.aV))):=by
 exact(w4 (.t (s.cs.map (·.2))) (.t (s.ds.map (·.2))) (.t [.int s.f,s.t]) s.aV).trans (pz s.aV)
def bO.i0(s:bO):bO:={ s with aV:=.ay }
omit h in
theorem PF(s:bO):xo [s.D]=pure (.v s.i0.D):=by
 unfold bO.D bO.i0;simp[xo,JG,(af7 (.t (s.cs.map (·.2))) (.t (s.ds.map (·.2))) (.t [.int s.f,s.t]) s.aV .ay rfl)]
theorem dZ.i0:dZ G W s.i0:=⟨h.row,h.rise,h.nm,h.num,h.ka,h.gV,h.fX,.inl rfl,h.qr⟩
end
def GW(r:aI):c5 (enc r)=.v (enc r):=by cases r;rw[wo];rfl;rw[qt];rfl
def mS{a k:aI}(b:Good a)(c:Good k):rq (d5 a k) (bX a k) (λm=>a.fills (gc m)) (λm=>k.fills (gc m)) where
 mem:=aaY b c
 len:=pw a k
 lt:=λ_ h=>oe h
 ne:=λz=>by have:=O8 (k:=k) b;rw[z]at this;cases this
 ex:=⟨enc a,enc k,rfl,GW a,GW k,λm=>Dv m 12 a (by have:=b.2.1;omega) b.1,λm=>Dv m 12 k (by have:=c.2.1;omega) c.1⟩
def JY{a:List Nat}(c:∀k∈a,k<6){j:Nat}(b:j<6):gc (maskOf a) j=a.contains j:=by
 rw[O4 a c];exact Pa _ j b
def Dw{a:aI}(c:a.wf){b:List Nat}(d:∀k∈b,k<6):a.fills (gc (maskOf b))=a.fills λi=>b.contains i:=L7 a λi e=>JY d (q3 a c i e)
section
variable{G:D->Prop}{W:List (List Nat)}{t:bO}(ok:dZ G W t)
include ok
theorem Fd(i n j:Int){d:jD}:(eu t i n (some d)).last j=if(dx t.aV=true/\t.last i<n)/\j=i then n else t.last j:=by
 unfold eu;dsimp only
 by_cases c:dx t.aV=true/\t.last i<n
 .rw[if_pos c]
  unfold bO.last;rw[V1 (Q:=hJ) _ ok.ka.nodup]
  by_cases e:j=i
  .rw[if_pos e,if_pos ⟨c,e⟩];rfl
  .rw[if_neg e,if_neg (λz=>e z.2)]
 .rw[if_neg c,if_neg λz=>c z.1]
end
def h3(me nu:Int)(t:bO):Prop:=t.last me<=nu
abbrev gj(a:Option d4):Option jD:=a.map jD.hC
def acg(a:Option d4):wH (gj a)=bg a:=by cases a<;>rfl
def ach(t:bO)(i n:Int)(a:Option d4):De t i n a=eu t i n (gj a):=by cases a<;>rfl
def Gh{W:List (List Nat)}{a:Option d4}(hd:∀x,a=some x->jC d9 W x):∀x,gj a=some x->tu d9 W x:=λx e=>by cases a with|none=>cases e|some d=>cases e;exact hd d rfl
def vm(d:Option d4):c5 (bg d)=.v (bg d):=by rcases d with _|(_|_)<;>rfl
def c3(me nu:Int)(E:Nat)(a k:aI)(op dd:D)(cN:Int)(st:cF)(sg:Str)(c6:D)(aZ:List b0)(km:Nat)(ts:D):bH:=⟨me,E,d5 a k,op,false,cN,st,nu,dd,sg,c6,aZ,km,ts⟩
def kf(a:Nat->cG)(st:cF)(ps:List Nat):List b0:=(ps.filter λj=>c8 st (a j).pr).map λj=>⟨j,(a j).kp,(a j).w⟩
def asked(a:Nat->cG)(st:cF)(ps:List Nat):Nat->cG:=λj=>if j∈ps then(a j).ask st else a j
def SU{a:Nat->cG}{st:cF}{ps:List Nat}{j:Nat}(h:j∉ps):up (asked a st ps) j ((asked a st ps j).ask st)=asked a st (ps++[j]):=funext λi=>by
 unfold up asked
 by_cases c:i=j
 .subst c;simp[h]
 .simp[c]
abbrev b0.keys(aZ:List b0):List Nat:=aZ.map (·.k)
def best(op:D)(aZ:List b0):cF×D:=aZ.foldl dV ((0,0),op)
inductive pY(me nu:Int)(E:Nat)(a k:aI)(t0:bO)(od:Option d4)(W:List (List Nat))(km:Nat)(ts:D)(st:cF)(r:Int)(di:List b0):bH->List b0->List D->Prop
 |asking (g0:(a.fills λj=>(b0.keys di).contains j)=false):pY me nu E a k t0 od W km ts st r di (c3 me nu E a k t0.D (bg od) r st "asking" .ay di km ts) di []
 |told {g1:List b0}{t:bO}(sub:∀x∈g1,x∈di) (cu:(best t0.D g1).2=t.D) (cH:dZ d9 W t) (pt:h3 me nu t):pY me nu E a k t0 od W km ts st r di (c3 me nu E a k t0.D (bg od) r st "telling" .ay g1 0 (eu t me nu (gj od)).D) g1 ((bX a k).map (gm me (E:Nat) st (.t [b2 (best t0.D g1).1,.int nu,bg od,(eu t me nu (gj od)).D])))
 |seen {g1:List b0}{t:bO}(cu:(best t0.D g1).2=t.D) (cH:dZ d9 W t) (q6:od=none) (op:t.aV=.ay) (al:∀x∈g1,x.s=(best t0.D g1).1) (fa:(a.fills λj=>(b0.keys g1).contains j)=true) (fk:(k.fills λj=>(b0.keys g1).contains j)=true) (l7:g1.length<=6):pY me nu E a k t0 od W km ts st r di (c3 me nu E a k t0.D (bg od) r st "calm" (.t [.str "saw",.t [.int (E:Nat),b2 (best t0.D g1).1,t.D]]) g1 km ts) g1 []
theorem JS{s:cF}:∀(aZ:List b0)(c:cF×D),(∀g∈aZ,g.s=s)->c.1=s->(aZ.foldl dV c).1=s
 |[],_,_,h=>h| g::aZ,c,o,h=>JS aZ (dV c g) (λx a=>o x (aki _ a)) (by
  unfold dV;split
  .exact o g akj
  .exact h)
def afA(a:Option d4):dx (bg a)=false\/a=none:=by
 rcases a with _|d
 .exact .inr rfl
 .cases d<;>exact .inl rfl
section
variable{a k:aI}(ar:Good a)(aw:Good k){W:List (List Nat)}(dq:W.length<59){me nu:Int}(dA:1<=nu){od:Option d4}(hd:∀x,od=some x->jC d9 W x){t0:bO}(o0:dZ d9 W t0)(eH:h3 me nu t0){E km:Nat}{ts:D}{st:cF}{bu:Nat->cG}(d3:∀j,oG (h3 me nu) W (bu j).kp (bu j).w)
include ar aw dq dA hd o0 eH d3
theorem SS{ps:List Nat}{j:Nat}(V:j∈bX a k)(hQ:j∉ps)(aO:∀x∈ps,x∈bX a k)(cS:ps.Nodup){r:Int}{bt:bH}{u:List b0}{T:List D}(h:pY me nu E a k t0 od W km ts st r (kf bu st ps) bt u T) :
  ∃Y J A q,bt.Do hS [(bu j).ky j me E st] Y J/\pY me nu E a k t0 od W km ts st A (kf bu st (ps++[j])) J q (T++Y)/\r<=A/\(c8 st (bu j).pr=false->(bu j).pr.1<=A)/\q=(if c8 st (bu j).pr=true/\bt.sg="asking" then u++[⟨j,(bu j).kp,(bu j).w⟩]else u):=by
 have H:=mS ar aw;have C:∀{cN sg c6 aZ km ts p},(c3 me nu E a k t0.D (bg od) cN st sg c6 aZ km ts).Do hS [l8 j me (E:Nat) st p] [] (c3 me nu E a k t0.D (bg od) (if p.1 > cN then p.1 else cN) st sg c6 aZ km ts):=λ{cN sg c6 aZ km ts p}=>D' (a:=c3 me nu E a k t0.D (bg od) cN st sg c6 aZ km ts) p
 have now:∀{cN sg c6 aZ km ts},(c3 me nu E a k t0.D (bg od) cN st sg c6 aZ km ts).now (bX a k) j (E:Nat) st=true:=λ{cN sg c6 aZ km ts}=>by unfold bH.now;rw[ak9.mpr V];simp[c3]
 have z8:∀{cN sg c6 aZ km ts},(c3 me nu E a k t0.D (bg od) cN st sg c6 aZ km ts).iy->sg≠"asking"->(c3 me nu E a k t0.D (bg od) cN st sg c6 aZ km ts).Do hS [kF j me (E:Nat) st (bu j).kp (bu j).w] [] (c3 me nu E a k t0.D (bg od) cN st sg c6 aZ km ts):=λ{cN sg c6 aZ km ts} av aG=>Yd (a:=c3 me nu E a k t0.D (bg od) cN st sg c6 aZ km ts) H av now aG
 unfold cG.ky
 by_cases c:c8 st (bu j).pr=true
 .rw[if_pos c]
  have I:kf bu st (ps++[j])=kf bu st ps++[⟨j,(bu j).kp,(bu j).w⟩]:=by unfold kf;rw[List.filter_append,akP];simp[c]
  rw[I];have O:(c8 st (bu j).pr=false->(bu j).pr.1<=r):=λz=>by rw[c]at z;cases z
  cases h with
  | told sub n l pt=>exact⟨[],_,r,_,z8 (.inr (.inr rfl)) (by show ¬("telling":Str)="asking";decide),by rw[ak5];exact .told (fun x d=>ale _ (sub x d)) n l pt,alx _,O,(if_neg (by rintro⟨_,z⟩;exact absurd z (by show ¬("telling":Str)="asking";decide))).symm⟩| seen n l q6 op al Z o U=>exact⟨[],_,r,_,z8 (.inl rfl) (by show ¬("calm":Str)="asking";decide),.seen n l q6 op al Z o U,alx _,O,(if_neg (by rintro⟨_,z⟩;exact absurd z (by show ¬("calm":Str)="asking";decide))).symm⟩|asking g0=>
   have X:∀x∈kf bu st ps,x.k∈ps/\oG (h3 me nu) W x.s x.w:=λx d=>by
    obtain⟨i,F,rfl⟩:=akM.mp d;exact⟨(aln.mp F).1,d3 i⟩
   have pl:ps.length+1<=6:=by
    have:=(amy.mpr ⟨cS,ak8.mpr ⟨ak6,am2⟩,λx d y a_=>by rw[akt.mp a_];rintro rfl;exact hQ d⟩:(ps++[j]).Nodup).length_le_of_subset (l₂:=bX a k) λx d=>by
     rcases akO.mp d with d|d
     .exact aO x d
     .rw[akt.mp d];exact V
    rw[akh]at this;exact alc this (pw a k)
   have gl:(kf bu st ps).length<=ps.length:=by unfold kf;rw[akc];exact al6 ..
   generalize kf bu st ps=di at *;have K:=oe V;have M:∀g∈di,g.k<6:=λg h=>oe (aO _ (X g h).1)
   have qN:∀x∈di.map (·.k),x<6:=λx d=>by obtain⟨g,m,rfl⟩:=akM.mp d;exact M g m
   have bm:gc (maskOf (di.map (·.k))) j=false:=(JY qN K).trans (by
    rw[alB];intro z;obtain⟨g,m,e⟩:=akM.mp (ak9.mp z);exact hQ (e▸(X g m).1))
   have N:∀g∈di++[b0.mk j (bu j).kp (bu j).w],oG (h3 me nu) W g.s g.w/\g.k<6:=λg h=>by
    rcases akO.mp h with h|h
    .exact⟨(X g h).2,M g h⟩
    .rw[akt.mp h];exact⟨d3 j,K⟩
   have Ak:∀x∈(di++[b0.mk j (bu j).kp (bu j).w]).map (·.k),x<6:=λx d=>by obtain⟨g,h',rfl⟩:=akM.mp d;exact(N g h').2
   have L:=Dw ar.1 Ak;have av:(c3 me nu E a k t0.D (bg od) r st "asking" .ay di km ts).iy:=.inr (.inl rfl);have R:di.length<60:=by omega
   have q:di++[b0.mk j (bu j).kp (bu j).w]=(if c8 st (bu j).pr=true/\(c3 me nu E a k t0.D (bg od) r st "asking" .ay di km ts).sg="asking" then di++[⟨j,(bu j).kp,(bu j).w⟩]else di):=(if_pos ⟨c,rfl⟩).symm
   cases f:a.fills λi=>((di++[b0.mk j (bu j).kp (bu j).w]).map (·.k)).contains i with
   |false=>
    rw[f]at L;exact⟨[],_,r,_,D_ H av now rfl (Yc (a:=c3 me nu E a k t0.D (bg od) r st "asking" .ay di km ts) H M R K bm L),.asking f,alx _,O,q⟩
   |true=>
    rw[f]at L;have Ap:(di++[b0.mk j (bu j).kp (bu j).w]).length<=6:=by rw[akh];show di.length+1<=6;omega
    obtain⟨p,B,eq⟩:∃p B,di++[b0.mk j (bu j).kp (bu j).w]=p::B:=by
     cases di with
     |nil=>exact⟨_,_,rfl⟩|cons x xs=>exact⟨_,_,rfl⟩
    have F:=TS (p:=p) (ps:=B) (by rw[<-eq];exact λg m=>(N g m).1) t0.D;rw[<-eq]at F;obtain⟨t,n,l,pt⟩:=vZ (di++[b0.mk j (bu j).kp (bu j).w]) ((0,0),t0.D) (λg m=>(N g m).1) (.inl rfl) ⟨t0,rfl,o0,eH⟩;have LS:(best t0.D (di++[b0.mk j (bu j).kp (bu j).w])).2=t.D:=n;have F:n_ t0.D (lb p B)=.t [b2 (best t0.D (di++[b0.mk j (bu j).kp (bu j).w])).1,t.D]:=by rw[F,n];rfl
    have d2:m9 [t.D,.int me,.int nu,bg od]=pure (.v (eu t me nu (gj od)).D):=by rw[<-ach];exact U9 l (by omega) me nu hd
    have tell:(dx (bg od)=false\/(c3 me nu E a k t0.D (bg od) r st "asking" .ay (di++[b0.mk j (bu j).kp (bu j).w]) km ts).y3 t.D false)->∃Y J A q,(c3 me nu E a k t0.D (bg od) r st "asking" .ay di km ts).Do hS [kF j me (E:Nat) st (bu j).kp (bu j).w] Y J/\pY me nu E a k t0 od W km ts st A (di++[b0.mk j (bu j).kp (bu j).w]) J q ([]++Y)/\r<=A/\(c8 st (bu j).pr=false->(bu j).pr.1<=A)/\q=(if c8 st (bu j).pr=true/\(c3 me nu E a k t0.D (bg od) r st "asking" .ay di km ts).sg="asking" then di++[⟨j,(bu j).kp,(bu j).w⟩]else di):=λz=>
     ⟨_,_,r,_,D_ H av now rfl (MY (a:=c3 me nu E a k t0.D (bg od) r st "asking" .ay di km ts) H M R K eq rfl bm L (by
      show bH.Do _ _ [n_ t0.D (lb p B)] _ _;rw[F];exact V' (a:=c3 me nu E a k t0.D (bg od) r st "asking" .ay (di++[b0.mk j (bu j).kp (bu j).w]) km ts) H.mem H.len z d2)),.told (λx d=>d) LS l pt,alx _,O,q⟩
    rcases afA od with z|on
    .exact tell (.inl z)
    .have P:(c3 me nu E a k t0.D (bg od) r st "asking" .ay (di++[b0.mk j (bu j).kp (bu j).w]) km ts).y3 t.D (!(!dx t.aV)&&((di++[b0.mk j (bu j).kp (bu j).w]).all λg=>decide (g.s=p.s))&&k.fills (gc (maskOf ((di++[b0.mk j (bu j).kp (bu j).w]).map (·.k))))):=λS i g h=>adX (a:=c3 me nu E a k t0.D (bg od) r st "asking" .ay (di++[b0.mk j (bu j).kp (bu j).w]) km ts) H h eq (λg m=>(N g m).2) (show(di++[b0.mk j (bu j).kp (bu j).w]).length<=1000 by omega) rfl (NT t)
     cases b:(!(!dx t.aV)&&((di++[b0.mk j (bu j).kp (bu j).w]).all λg=>decide (g.s=p.s))&&k.fills (gc (maskOf ((di++[b0.mk j (bu j).kp (bu j).w]).map (·.k)))))with
     |false=>rw[b]at P;exact tell (.inr P)|true=>
      rw[b]at P;rw[akD,akD]at b;obtain⟨⟨Q,cn⟩,gK⟩:=b;rw[Dw aw.1 Ak]at gK;have aV:t.aV=.ay:=by
       rcases l.aV with e|e|⟨⟨xs,e⟩,_⟩
       .exact e
       .rw[e]at Q;cases Q
       .rw[e]at Q;cases Q
      have al:∀x∈di++[b0.mk j (bu j).kp (bu j).w],x.s=p.s:=λx d=>of_decide_eq_true (alq.mp cn x d)
      have T5:(best t0.D (di++[b0.mk j (bu j).kp (bu j).w])).1=p.s:=by
       unfold best;rw[eq];refine JS B _ (λg m=>al g (by rw[eq];exact aki _ m)) ?_;unfold dV;split
       .rfl
       .rename_i xD
        rcases(N p (by rw[eq];exact akj)).1 with⟨z,_⟩|⟨z,_⟩
        .exact z.symm
        .exact absurd (show c8 p.s (0,0)=true by unfold c8;simp;omega) xD
      exact⟨[],_,r,_,D_ H av now rfl (MY (a:=c3 me nu E a k t0.D (bg od) r st "asking" .ay di km ts) H M R K eq rfl bm L (by
       show bH.Do _ _ [n_ t0.D (lb p B)] _ _;rw[F];exact V_ (a:=c3 me nu E a k t0.D (bg od) r st "asking" .ay (di++[b0.mk j (bu j).kp (bu j).w]) km ts) (by show bg od=_;rw[on];rfl) P)),.seen LS l on aV (by rw[T5];exact al) f gK Ap,alx _,O,q⟩
 .rw[if_neg c]
  have c:c8 st (bu j).pr=false:=alB.mpr c;have I:kf bu st (ps++[j])=kf bu st ps:=by unfold kf;rw[List.filter_append,akP];simp[c]
  rw[I];have G:∀{r p:Int},r<=(if p > r then p else r)/\p<=(if p > r then p else r):=λ{r p}=>by split<;>omega
  have li:u=(if c8 st (bu j).pr=true/\bt.sg="asking" then u++[⟨j,(bu j).kp,(bu j).w⟩]else u):=(if_neg (by rw[c];rintro⟨z,_⟩;cases z)).symm
  cases h with
  |told sub n l pt=>exact⟨[],_,_,u,C,by rw[ak5];exact .told sub n l pt,G.1,λ_=>G.2,li⟩|seen n l q6 op al Z o U=>exact⟨[],_,_,u,C,.seen n l q6 op al Z o U,G.1,λ_=>G.2,li⟩|asking g0=>exact⟨[],_,_,_,C,.asking g0,G.1,λ_=>G.2,li⟩
end
theorem N6{S:bL}{U:aJ}{α:Type}{t:aJ->M Bool}{el:bj}(f:α->D)(p:α->Bool)(g:α->D):∀xs:List α,(∀x∈xs,aA S (t (U.set 0 (.v (f x)))) (p x))->(∀x∈xs,p x=true->aA S (el (U.set 0 (.v (f x)))) (.v (g x)))->aA S (f7 t el U (xs.map f)) ((xs.filter p).map g)
 |[],_,_=>.of rfl|x::xs,o,C=>by
  have b:=N6 f p g xs (λy a=>o y (aki _ a)) λy a=>C y (aki _ a)
  refine(o x (akj ..)).bind ?_
  cases e:p x with
  |false=>rw[if_neg akp,aou (by rw[e];exact akp)];exact b|true=>
   rw[if_pos rfl,aov e];exact(C x (akj ..) e).bind ((aA.of rfl).bind (b.bind (.of rfl)))
def abJ{n:Nat}{xs:List D}(h:Ok (n+1) (.t xs)):∀x∈xs,Ok n x:=λx a=>
 ⟨zT.mp h.1 x a,by have:=h.2;rw[show D.BF (.t xs)=(decide (xs.length<=1000)&&pQ xs)from rfl,akD]at this;exact BG.mp this.2 x a⟩
def abH:akz "did"=true:=by decide +kernel
def adH{G:D->Prop}{W:List (List Nat)}{T:bO}(ok:dZ G W T){me nu:Int}{z:D}(h:(me,.t [.int me,.int nu,z])∈T.ds):∃rest,(T.ds.filter λx=>decide (x.1=me)&&decide (kO (some x.2)=nu)).map (·.2)=.t [.int me,.int nu,z]::rest:=by
 have a:(me,D.t [.int me,.int nu,z])∈T.ds.filter λx=>decide (x.1=me)&&decide (kO (some x.2)=nu):=aln.mpr ⟨h,by simp[kO]⟩
 cases e:T.ds.filter λx=>decide (x.1=me)&&decide (kO (some x.2)=nu)with
 |nil=>rw[e]at a;cases a
 |cons y g=>
  have d:y∈T.ds.filter λx=>decide (x.1=me)&&decide (kO (some x.2)=nu):=by rw[e];exact akj
  obtain⟨c,b⟩:=aln.mp d;have f:y.1=me:=by simp at b;exact b.1
  have g1:=t_ ok.ka.nodup c;rw[f]at g1;rw[(t_ ok.ka.nodup h)]at g1;refine⟨g.map (·.2),?_⟩;rw[akm,<-akF g1]
def aaq{G:D->Prop}{W:List (List Nat)}{t:bO}(ok:dZ G W t){me nu:Int}(b:1<=nu)(h:t.last me=nu):∃z,(me,.t [.int me,.int nu,z])∈t.ds:=by
 unfold bO.last at h
 cases e:fh (Q:=hJ) t.ds me with
 |none=>rw[e]at h;have h:(0:Int)=nu:=h;omega|some d=>
  have a:=qv e;obtain⟨n,z,aC⟩:=ok.num _ a;have aC:d=.t [.int me,.int n,z]:=aC;rw[e,aC]at h;have h:n=nu:=h;rw[aC,h]at a;exact⟨z,a⟩
def bO.fU(s:bO):Bool:=match s.aV with
 |.str _=>true|_=>false
def qw{z:D}(h:d9 z):Ok 9 z:=by obtain⟨a,k,_,_,_,o⟩:=h;exact o
def Hc{W:List (List Nat)}{t:bO}(a:dZ d9 W t)(me:Int):Told t.D me (t.last me) (t.dm me) t.aV t.fU:=⟨⟨_,U7 a me⟩,ad4 t,NT t,by
 unfold bO.fU;rcases a.aV with e|e|⟨⟨xs,e⟩,g⟩
 .rw[e];exact(qs rfl (by decide +kernel)).trans rfl
 .rw[e,fV (by decide +kernel) (by decide +kernel),beq_self_eq_true]
 .have:=DK (m:=64) (by decide) (qw g).1
  rw[e]at this ⊢;exact(qs (x:=.v (.t xs)) this (by decide +kernel)).trans rfl,a.ss⟩
noncomputable def lZ(me nu:Int)(E:Nat)(a:Option d4)(st:cF)(t:bO):D:=match a with
 |some _=>if t.last me=nu then .t [.str "did",t.dm me]else if t.fU=true then .t [.str "over",.ay]else .ay|none=>if dx t.aV=true then .t [.str "saw",.t [.int (E:Nat),b2 st,t.D]]else if t.fU=true then .t [.str "saw",.t [.int (E:Nat),.ay,t.D]]else .ay
inductive j6(me nu:Int)(E:Nat)(a k:aI)(t0:bO)(od:Option d4)(r:Int)(st:cF)(t:bO):bH->List D->Prop
 |same {g1:List b0}{km:Nat}(ns:(t.aV=.ay/\t.fU=false)\/(t.aV=.str "over"/\t.fU=true)) (cS:dx (lZ me nu E od st t)=false):j6 me nu E a k t0 od r st t { c3 me nu E a k t0.D (bg od) r st "calm" (lZ me nu E od st t) g1 km t.D with cc:=t.fU } []
 |next {g1:List b0}{km:Nat}{eN dW:aI}(fu:t.aV=d5 eN dW) (ga:Good eN) (eD:Good dW) (cS:dx (lZ me nu E od st t)=false):j6 me nu E a k t0 od r st t (c3 me nu (E+1) eN dW t.i0.D (bg od) r st "calm" (lZ me nu E od st t) g1 km t.D) []
 |zZ {km:Nat}{eN dW:aI}(fu:t.aV=d5 eN dW) (ga:Good eN) (eD:Good dW) (cS:lZ me nu E od st t=.ay):j6 me nu E a k t0 od r st t (c3 me nu (E+1) eN dW t.i0.D (bg od) (r+1) (r+1,me) "asking" .ay [] km t.D) ((bX eN dW).map (eT me ((E+1:Nat):Int) (r+1,me)))
section
variable{a k:aI}(ar:Good a)(aw:Good k){W:List (List Nat)}{me nu:Int}{od:Option d4}{t0:bO}{E:Nat}{st:cF}{r:Int}{t:bO}(cH:dZ d9 W t)(rJ:od≠none->t.aV=.ay->t.last me=nu)
include ar aw cH rJ
theorem Z5{g1:List b0}{km j:Nat}(w:j∈bX a k)(f:k.fills (gc (km ||| maskOf [j]))=true) :
  ∃Y A,(c3 me nu E a k t0.D (bg od) r st "telling" .ay g1 km t.D).Do hS [gy j me (E:Nat) st] Y A/\j6 me nu E a k t0 od r st t A Y:=by
 have H:=mS ar aw;have T:=Hc cH me;have i:=oe w;have now:(c3 me nu E a k t0.D (bg od) r st "telling" .ay g1 km t.D).now (bX a k) j (E:Nat) st=true:=by unfold bH.now;rw[ak9.mpr w];simp[c3]
 have av:(c3 me nu E a k t0.D (bg od) r st "telling" .ay g1 km t.D).iy:=.inr (.inr rfl);have b:∀{Y c},(c3 me nu E a k t0.D (bg od) r st "telling" .ay g1 km t.D).Do qW [gy j me (E:Nat) st] Y c->(c3 me nu E a k t0.D (bg od) r st "telling" .ay g1 km t.D).Do hS [gy j me (E:Nat) st] Y c:=λg=>MZ H av now rfl g
 have ends:(∃o,((c3 me nu E a k t0.D (bg od) r st "telling" .ay g1 km t.D).iX j).kc (t.last me) (t.dm me) t.aV t.fU=c3 me nu E a k t0.D (bg od) r st "calm" o g1 (km ||| maskOf [j]) t.D/\lZ me nu E od st t=o/\dx o=false)\/(((c3 me nu E a k t0.D (bg od) r st "telling" .ay g1 km t.D).iX j).kc (t.last me) (t.dm me) t.aV t.fU=c3 me nu E a k t0.D (bg od) r st "telling" .ay g1 (km ||| maskOf [j]) t.D/\dx t.aV=false/\lZ me nu E od st t=if t.fU=true then .t [.str "over",.ay]else .ay):=by
  unfold lZ bH.kc
  cases od with
  |some d=>
   have nn:(!dx ((c3 me nu E a k t0.D (bg (some d)) r st "telling" .ay g1 km t.D).iX j).dd)=true:=by cases d<;>rfl
   rw[if_pos nn]
   by_cases c:t.last me=nu
   .rw[if_pos (show t.last me=((c3 me nu E a k t0.D (bg (some d)) r st "telling" .ay g1 km t.D).iX j).wi from c)]
    exact .inl ⟨_,rfl,if_pos c,rfl⟩
   .rw[if_neg (show ¬t.last me=((c3 me nu E a k t0.D (bg (some d)) r st "telling" .ay g1 km t.D).iX j).wi from c)]
    refine .inr ⟨rfl,?_,if_neg c⟩;rw[alB];intro z;exact c (rJ (λz=>nomatch z) (by
     rcases cH.aV with e|e|⟨⟨xs,e⟩,_⟩
     .exact e
     .rw[e]at z;cases z
     .rw[e]at z;cases z))
  |none=>
   by_cases c:dx t.aV=true
   .rw[if_pos c];exact .inl ⟨_,rfl,if_pos c,rfl⟩
   .rw[if_neg c]
    by_cases ak:t.fU=true
    .rw[if_pos ak];exact .inl ⟨_,rfl,(if_neg c).trans (if_pos ak),rfl⟩
    .rw[if_neg ak];exact .inr ⟨rfl,alB.mpr c,(if_neg c).trans ((if_neg ak).trans (if_neg ak).symm)⟩
 rcases cH.aV with e|e|⟨⟨xs,ex⟩,g⟩
 .have cc:t.fU=false:=by unfold bO.fU;rw[e]
  rcases ends with⟨o,aq,aC,cP⟩|⟨_,z,_⟩
  .refine⟨[],_,b (Yg H i T f (by rw[e];rfl)),?_⟩
   rw[aq,<-aC];have p:=j6.same (a:=a) (k:=k) (t0:=t0) (r:=r) (g1:=g1) (km:=km ||| maskOf [j]) (.inl ⟨e,cc⟩) (by rw[aC];exact cP);rw[cc]at p;exact p
  .rw[e]at z;cases z
 .have cc:t.fU=true:=by unfold bO.fU;rw[e]
  have l:dx t.aV=false:=by rw[e];rfl
  refine⟨[],_,b (Yh H i T f l av cc),?_⟩;rcases ends with⟨o,aq,aC,cP⟩|⟨aq,_,aC⟩
  .rw[aq]
   have p:=j6.same (a:=a) (k:=k) (t0:=t0) (r:=r) (g1:=g1) (km:=km ||| maskOf [j]) (.inr ⟨e,cc⟩) (by rw[aC];exact cP);rw[aC,cc]at p;exact p
  .rw[aq]
   rw[if_pos cc]at aC;have p:=j6.same (a:=a) (k:=k) (t0:=t0) (r:=r) (g1:=g1) (km:=km ||| maskOf [j]) (.inr ⟨e,cc⟩) (by rw[aC];rfl);rw[aC,cc]at p;exact p
 .have cc:t.fU=false:=by unfold bO.fU;rw[ex]
  have l:dx t.aV=false:=by rw[ex];rfl
  obtain⟨y,x,h,s,n,_⟩:=g;have u:=mS s n;have F:((E:Int)+1)=((E+1:Nat):Int):=by omega
  have B:=cH.ss;rcases ends with⟨o,aq,aC,cP⟩|⟨aq,_,aC⟩
  .refine⟨[],_,b (M0 H i T f l cc (by
    rw[aq];exact Wa (.inl rfl) B (PF t) rfl)),?_⟩
   have p:=j6.next (a:=a) (k:=k) (t0:=t0) (r:=r) (g1:=g1) (km:=km ||| maskOf [j]) h s n (by rw[aC];exact cP);unfold bH.over c3;rw[F,h,<-aC];exact p
  .rw[if_neg (by rw[cc];exact akp)]at aC
   have m:(c3 me nu E a k t0.D (bg od) r st "telling" .ay g1 (km ||| maskOf [j]) t.D).Do uy [t.aV] ((bX y x).map (eT me ((E+1:Nat):Int) (r+1,me))) (c3 me nu (E+1) y x t.i0.D (bg od) (r+1) (r+1,me) "asking" .ay [] (km ||| maskOf [j]) t.D):=by
    have q:=Wb (a:=c3 me nu E a k t0.D (bg od) r st "telling" .ay g1 (km ||| maskOf [j]) t.D) (.inr (.inr rfl)) B (PF t) (show ¬("telling":Str)="calm" by decide) (by rw[h];exact u.mem) u.len;unfold bH.over bH.asks c3 at q;unfold c3;rw[<-h];exact q
   refine⟨_,_,b (M0 H i T f l cc (by rw[aq];exact m)),.zZ h s n aC⟩
end
abbrev i6(i w:Nat)(pl:D)(st:cF)(t:bO)(Y:List D)(E:Nat)(a op:D)(s9 f e b c d:Slot):aJ:=[.v (.ref i),.v (.ref w),.v pl,.v (b2 st),.v t.D,.v (.l Y),.v (.int (E:Nat)),.v a,.v op,s9,f,e,b,c,d]
def G4{S:bL}{a:bH}{j g:Nat}(A:dM S j g a):aA S (sv [.ref j]) (.v (b2 a.st)):=m5 rfl (lx (dk A rfl rfl))
def PH{S:bL}{a:bH}{j g:Nat}(A:dM S j g a):aA S (AE [.ref j]) (.v a.c6):=m5 rfl (lx (dk A rfl rfl))
def vd{S:bL}{a:bH}{j g:Nat}(A:dM S j g a):aA S (m8 [.ref j]) (.v (.str a.sg)):=m5 rfl (lx (dk A rfl rfl))
def u5{S:bL}{a:bH}{j g:Nat}(A:dM S j g a):aA S (su [.ref j]) (.v (.t [.int a.cD,a.h,a.op])):=m5 rfl (lx (qP (bJ (dk A rfl rfl) (bJ (dk A rfl rfl) (bJ (dk A rfl rfl) dw))) rfl (ako rfl)))
def Oh{S:bL}{a:bH}{j g:Nat}(A:dM S j g a):aA S (xg [.ref j]) (.v (.az a.cc)):=m5 rfl (lx (dk A rfl rfl))
def iE{S:bL}{a:bH}{U:aJ}{j g l:Nat}{m:Str}{mf:bx}{r:R}(A:dM S j g a)(c:J l U=pure (.v (.ref j)))(b:(a.fs g).lookup m=none)(e:aA S (mf [.ref j]) r):aA S (e1 "Asker" m mf (J l) cO U) r:=w6 A.bD (.of c) b dw e
def EK{S:bL}{U:aJ}{a:cW}{rs:List R}{ds:List D}(h:aA S (a U) rs)(e:jc rs=pure ds)(z:ds.length<=1000):aA S (dD a U) (.fr ds):=h.bind ((aA.of e).bind ((EI z).bind (.of rfl)))
def ZU{S:bL}{n N:Nat}{b:aY}{ds:List D}{d:D}(h:ds.length=n)(e:aA S (b (ds.map .v++akA (N-n) .e)) (.cp (.v d))):aA S (nZ n N b ds) (.v d):=by
 unfold nZ;rw[if_pos h];exact e.bind (.of rfl)
def ZS{S:bL}{U:aJ}{mf:bx}{a:cW}{rs:List R}{ds:List D}{r:R}(h:aA S (a U) rs)(e:jc rs=pure ds)(q:aA S (mf ds) r):aA S (v9 mf a U) r:=h.bind ((aA.of e).bind q)
def uX(s:cF){n:Nat}(h:1<=n):Ok n (b2 s):=md (nh fK fK) h
def lD(E:Nat)(a k:aI)(t0 t:bO):D:=if(dx t.aV||t.fU)=true then df E a k t0.D else .t [.int ((E:Nat)+1),t.aV,t.i0.D]
section
variable{a k:aI}(ar:Good a)(aw:Good k){W:List (List Nat)}(dq:W.length<59){me nu:Int}(dA:1<=nu){od:Option d4}{t0:bO}(o0:dZ d9 W t0){E:Nat}{st:cF}{r:Int}(aE:st.1<=r){t:bO}(cH:dZ d9 W t)
variable{S:bL}{i w b:Nat}{bt:bH}{x:lV}{F:Nat}{B:Nat->cG}(dG:dN S i w b bt x F B)(ex:x.me=me/\x.nu=nu/\x.dd=bg od){Y:List D}
include ar aw dq dA o0 aE cH dG ex
theorem SH(p:j6 me nu E a k t0 od r st t bt Y):aA S (AJ [.ref i,.ref w,df E a k t0.D,b2 st,t.D,.l Y]) (.v (.az true)):=by
 obtain⟨aq,aC,cP⟩:=ex;obtain⟨g,A⟩:=dG.gV;have dl:=cH.dl;obtain⟨f,l1⟩:∃f:List D,aA S (e9 1 [1] (ig (aX 4 1)) (fW (aL (ak oEq (aX 0 0) (ak fJ (J 1) (aK (.str "me"))))) (aL (ak oEq (aX 0 1) (ak fJ (J 1) (aK (.str "number")))))) (J 0) (i6 i w (df E a k t0.D) st t Y E (d5 a k) t0.D (.v t.aV) .e .e .e .e .e)) (.fr f)/\((t.last me=nu/\∃rest,f=.t [.int me,.int nu,t.dm me]::rest)\/(t.last me≠nu/\f=[])):=by
  refine⟨_,uj (ds:=t.ds.map (·.2)) (.of rfl) (by rw[akc];exact eP (by omega)) (N6 (U:=[.e,.v (.ref w)]) (λy:Int×D=>y.2) (λy=>decide (y.1=me)&&decide (kO (some y.2)=nu)) (λy=>y.2) t.ds (λy a_=>?_) λ_ _ _=>.of rfl),?_⟩
  .obtain⟨m,z,e⟩:=cH.num y a_
   rw[e];have bw:aA S (aL (ak oEq (aX 0 0) (ak fJ (J 1) (aK (.str "me")))) [.v (.t [.int y.1,.int m,z]),.v (.ref w)]) (decide (y.1=me)):=b8 (b_ jf (.of rfl) (dG.get rfl (by show some (D.int x.me)=_;rw[aq])));have cB:aA S (aL (ak oEq (aX 0 1) (ak fJ (J 1) (aK (.str "number")))) [.v (.t [.int y.1,.int m,z]),.v (.ref w)]) (decide (m=nu)):=b8 (b_ jf (.of rfl) (dG.get rfl (by show some (D.int x.nu)=_;rw[aC])));show aA S (fW _ _ [.v (.t [.int y.1,.int m,z]),.v (.ref w)]) (decide (y.1=me)&&decide (m=nu))
   cases c:decide (y.1=me)with
   |false=>rw[c]at bw;exact iV bw|true=>rw[c]at bw;exact gx bw cB
  .by_cases c:t.last me=nu
   .obtain⟨z,hz⟩:=aaq cH dA c
    have:t.dm me=z:=by
     have:=t_ (Q:=hJ) cH.ka.nodup hz;unfold bO.dm;have this:fh (Q:=hJ) t.ds me=some (.t [.int me,.int nu,z]):=this;rw[this]
    rw[this];exact .inl ⟨c,adH cH hz⟩
   .refine .inr ⟨c,?_⟩
    rw[amO,aoH];intro y a_ z;rw[akD]at z;refine c ?_;unfold bO.last;have:=t_ (Q:=hJ) cH.ka.nodup a_;rw[of_decide_eq_true z.1]at this;rw[this];exact of_decide_eq_true z.2
 obtain⟨l1,rO⟩:=l1;have o1:=(Hc cH me).o1;have ls:∀xs:List D,hk [.v (.l xs)]=pure (.v (.int (xs.length:Nat))):=λ_=>rfl
 have oX:∀{s u G},aA S (aL (ak hq (ak fJ (J 1) (aK (.str "deed"))) (aK .ay)) (i6 i w (df E a k t0.D) st t Y E (d5 a k) t0.D (.v t.aV) (.v (.l f)) (.v .ay) s u G)) (!dx (bg od)):=b8 (b_ (pz (bg od)) (dG.get rfl (by show some x.dd=_;rw[cP])) (.of rfl));have N:∀{s u G},aA S (aL (ak gB (ak fJ (J 1) (aK (.str "deed"))) (aK .ay)) (i6 i w (df E a k t0.D) st t Y E (d5 a k) t0.D (.v t.aV) (.v (.l f)) (.v .ay) s u G)) (dx (bg od)):=b8 (b_ (qH (bg od)) (dG.get rfl (by show some x.dd=_;rw[cP])) (.of rfl));have T:∀{s u G},aA S (aL (ak pC (cV hk (bE (J 10))) (aH 0)) (i6 i w (df E a k t0.D) st t Y E (d5 a k) t0.D (.v t.aV) (.v (.l f)) (.v .ay) s u G)) (decide (t.last me=nu)):=by
  intro s u G;refine b8 (b_ (x:=.v (.int (f.length:Nat))) (wM.trans ?_) (qO (ls f) (.of rfl)) (.of rfl));rcases rO with⟨c,rest,rfl⟩|⟨c,rfl⟩
  .rw[decide_eq_true c,decide_eq_true (show(((_::rest).length:Nat):Int) > 0 by rw[akx];omega)]
  .rw[decide_eq_false c];rfl
 have I:∀{s u G},aA S (aL (ak gB (J 9) (aK .ay)) (i6 i w (df E a k t0.D) st t Y E (d5 a k) t0.D (.v t.aV) (.v (.l f)) (.v .ay) s u G)) (dx t.aV):=b8 (b_ (qH t.aV) (.of rfl) (.of rfl));have L:∀{s u G},aA S (aL (ak oEq (J 9) (aK (.str "over"))) (i6 i w (df E a k t0.D) st t Y E (d5 a k) t0.D (.v t.aV) (.v (.l f)) (.v .ay) s u G)) t.fU:=b8 (b_ o1 (.of rfl) (.of rfl));refine ZU rfl (hR (U':=i6 i w (df E a k t0.D) st t Y E (d5 a k) t0.D .e .e .e .e .e .e) (.of rfl) (hR (U':=i6 i w (df E a k t0.D) st t Y E (d5 a k) t0.D (.v t.aV) .e .e .e .e .e) (.of rfl) (hR (iW l1 rfl) (hR (.of rfl) (hR (U':=i6 i w (df E a k t0.D) st t Y E (d5 a k) t0.D (.v t.aV) (.v (.l f)) (.v (lZ me nu E od st t)) .e .e .e) ?_ ?_)))))
 .unfold lZ
  cases od with
  |some d=>
   have nn:dx (bg (some d))=false:=by cases d<;>rfl
   rw[nn]at oX N;rcases rO with⟨c,rest,rfl⟩|⟨c,rfl⟩
   .rw[decide_eq_true c]at T
    dsimp only;rw[if_pos c];exact iF (gx oX T) (iW (r:=.v (.t [.str "did",t.dm me])) (qP (bJ (.of rfl) (bJ (b_ (x:=.v (.t [.int me,.int nu,t.dm me])) rfl (b_ (x:=.v (.l (.t [.int me,.int nu,t.dm me]::rest))) (y:=.v (.int 0)) (by show(match fp (_::rest) ((0:Nat):Int)with|some v=>pure (R.v v)|none=>bad)=_;rw[oQ 0 rfl]) (.of rfl) (.of rfl)) (.of rfl)) dw)) rfl (ako rfl)) rfl)
   .rw[decide_eq_false c]at T
    dsimp only;rw[if_neg c];refine fT (gx oX T) (fT (iV N) (fT (iV N) ?_))
    cases cc:t.fU with
    |true=>rw[cc]at L;exact iF L (.of rfl)|false=>rw[cc]at L;exact fT L (.of rfl)
  |none=>
   refine fT (iV oX) ?_;dsimp only
   cases c:dx t.aV with
   |true=>rw[c]at I;exact iF (gx N I) (.of rfl)|false=>
    rw[c]at I;refine fT (gx N I) ?_
    cases cc:t.fU with
    |true=>rw[cc]at L;exact iF (gx N L) (.of rfl)|false=>rw[cc]at L;exact fT (gx N L) (fT L (.of rfl))
 generalize zH:lZ me nu E od st t=o at *;have ne:=(Hc cH me).o1;refine hR (U':=i6 i w (lD E a k t0 t) st t Y E (d5 a k) t0.D (.v t.aV) (.v (.l f)) (.v o) .e .e .e) ?_ (hR (U':=i6 i w (lD E a k t0 t) st t Y E (d5 a k) t0.D (.v t.aV) (.v (.l f)) (.v o) (.v (.l [])) .e .e) (.of rfl) ?_)
 ·
  have bw:aA S (aL (ak hq (J 9) (aK .ay)) (i6 i w (df E a k t0.D) st t Y E (d5 a k) t0.D (.v t.aV) (.v (.l f)) (.v o) .e .e .e)) (!dx t.aV):=b8 (b_ (pz t.aV) (.of rfl) (.of rfl));have cB:aA S (aL (ak ej (J 9) (aK (.str "over"))) (i6 i w (df E a k t0.D) st t Y E (d5 a k) t0.D (.v t.aV) (.v (.l f)) (.v o) .e .e .e)) (!t.fU):=b8 (b_ (by
   unfold bO.fU;rcases cH.aV with e|e|⟨⟨xs,e⟩,g⟩
   .rw[e];exact(wm (x:=.v .ay) (y:=.v (.str "over")) rfl (by decide +kernel)).trans rfl
   .rw[e,QU (by decide +kernel) (by decide +kernel),beq_self_eq_true]
   .have:=DK (m:=64) (by decide) (qw g).1
    rw[e]at this ⊢;exact(wm (x:=.v (.t xs)) (y:=.v (.str "over")) this (by decide +kernel)).trans rfl) (.of rfl) (.of rfl))
  unfold lD
  cases c:dx t.aV with
  |true=>rw[c]at bw;exact fT (iV bw) (.of rfl)|false=>
   rw[c]at bw
   cases cc:t.fU with
   |true=>rw[cc]at cB;exact fT (gx bw cB) (.of rfl)|false=>rw[cc]at cB;exact iF (gx bw cB) (.of rfl)
 have an:=qH o;have abF:=cH.ok (by omega) λz hz=>qw hz
 obtain⟨K,cS,e_,l0,oZ,Vn,ok⟩:∃K:cF,(dx o=true->st.1<K.1)/\bt.st=K/\bt.c6=o/\bt.sg=(if dx o=true then "asking" else "calm")/\(.t [.int bt.cD,bt.h,bt.op]:D)=lD E a k t0 t/\bt.cc=t.fU/\(if dx o=true then uA [.int me,lD E a k t0 t,b2 K]=pure (.fr Y)else Y=[])/\Ok 13 (.l [bt.c6,.str bt.sg,.t [.int bt.cD,bt.h,bt.op],.az bt.cc,.l Y]):=by
  have F4:Ok 2 (t.dm me):=by
   unfold bO.dm
   cases q:fh (Q:=hJ) t.ds me with
   |none=>exact q7|some d=>
    obtain⟨m,z,e⟩:=cH.num _ (qv q);have e:d=.t [.int me,.int m,z]:=e;have:=cH.qr _ (qv q);dsimp only at this;rw[e]at this ⊢;exact md (abJ this z (by simp)) (by decide)
  have ts:Ok 10 t.D:=abF;have abz:Ok 11 t0.D:=md (o0.ok (by omega) λz hz=>qw hz) (by decide);have on:Ok 11 t.i0.D:=md (cH.i0.ok (by omega) λz hz=>qw hz) (by decide);have xF:Ok 12 o:=by
   rw[<-zH];unfold lZ
   cases od with
   |some d=>
    dsimp only;split
    .exact md (n:=3) (nh (kk abH) F4) (by decide)
    .split
     .exact nh (kk (by decide +kernel)) q7
     .exact q7
   |none=>
    dsimp only;split
    .exact nh (n:=11) (kk (by decide +kernel)) (oj (n:=10) fK (uX st (by decide)) ts)
    .split
     .exact nh (n:=11) (kk (by decide +kernel)) (oj (n:=10) fK q7 ts)
     .exact q7
  have fin:∀{sg:Str}{pl:D}{cc:Bool}{Y:List D},akz sg=true->Ok 12 pl->Ok 12 (.l Y)->Ok 13 (.l [o,.str sg,pl,.az cc,.l Y]):=λaf ah bY=>sJ (n:=12) (ako rfl) (by
   simp only[alo];exact⟨xF,kk af,ah,abG,bY,λ_ z=>nomatch z⟩)
  have Pn:Ok 12 (.l []):=sJ (n:=11) (ako rfl) λ_ z=>nomatch z
  have hl:t.aV=.ay\/t.aV=.str "over"\/(dx t.aV=false/\t.fU=false):=by
   rcases cH.aV with e|e|⟨⟨xs,e⟩,_⟩
   .exact .inl e
   .exact .inr (.inl e)
   .exact .inr (.inr ⟨by rw[e];rfl,by unfold bO.fU;rw[e]⟩)
  cases p with
  |same ns cS=>
   rw[zH]at cS ⊢;have P:lD E a k t0 t=df E a k t0.D:=if_pos (by rcases ns with⟨e,_⟩|⟨_,e⟩<;>rw[e]<;>simp[dx]);rw[P];exact⟨st,λz=>(by rw[cS]at z;cases z),rfl,rfl,(by rw[cS];rfl),rfl,rfl,by rw[cS];rfl,fin A4 (oj (n:=11) fK (A5 ar aw) abz) Pn⟩
  |@next g1 km Z V H C X cS=>
   rw[zH]at cS ⊢;have O:dx t.aV=false/\t.fU=false:=by rcases hl with e|e|e;rw[e]at H;cases H;rw[e]at H;cases H;exact e
   have P:lD E a k t0 t=df (E+1) Z V t.i0.D:=(if_neg (by rw[O.1,O.2];exact akp)).trans (by rw[H];rfl);rw[P];exact⟨st,λz=>(by rw[cS]at z;cases z),rfl,rfl,(by rw[cS];rfl),rfl,O.2.symm,by rw[cS];rfl,fin A4 (oj (n:=11) fK (A5 C X) on) Pn⟩
  |@zZ km Z V H C X cS=>
   rw[zH]at cS;subst cS;have O:dx t.aV=false/\t.fU=false:=by rcases hl with e|e|e;rw[e]at H;cases H;rw[e]at H;cases H;exact e
   have P:lD E a k t0 t=df (E+1) Z V t.i0.D:=(if_neg (by rw[O.1,O.2];exact akp)).trans (by rw[H];rfl);rw[P];exact⟨(r+1,me),λ_=>(by show st.1<r+1;omega),rfl,rfl,rfl,rfl,O.2.symm,Ff C X me (E+1) t.i0.D (r+1,me),fin A3 (oj (n:=11) fK (A5 C X) on) (sJ (n:=11) (by rw[akc];have:=pw Z V;omega) λx ag=>by
    obtain⟨j,_,rfl⟩:=akM.mp ag;exact F8 (n:=10) (kk uU) fK fK fK (uX _ (by decide)) Pt)⟩
 have M:∀{s u G},aA S (ak gB (J 11) (aK .ay) (i6 i w (lD E a k t0 t) st t Y E (d5 a k) t0.D (.v t.aV) (.v (.l f)) (.v o) s u G)) (.v (.az (dx o))):=b_ an (.of rfl) (.of rfl);have QX:∀{s u G},aA S (e1 "Asker" "stamp" sv (J 0) cO (i6 i w (lD E a k t0 t) st t Y E (d5 a k) t0.D (.v t.aV) (.v (.l f)) (.v o) s u G)) (.v (b2 K)):=by rw[<-e_];exact iE A rfl rfl (G4 A)
 obtain⟨Vd,zE,Ve⟩:=ok;refine hR (U':=i6 i w (lD E a k t0 t) st t Y E (d5 a k) t0.D (.v t.aV) (.v (.l f)) (.v o) (.v (.l Y)) .e .e) ?_ ?_
 .cases c:dx o with
  |false=>
   rw[c]at M;rw[if_neg (by rw[c];exact akp)]at zE;subst zE;exact fT (b8 M) (.of rfl)
  |true=>
   rw[c]at M;rw[if_pos c]at zE;have lt:=cS c;refine iF (b8 M) (hR (iW (fb (rs:=[.v (.int me),.v (lD E a k t0 t),.v (b2 K)]) (bJ (dG.get rfl (by show some (D.int x.me)=_;rw[aq])) (bJ (.of rfl) (bJ QX dw))) (.of zE)) rfl) (fT (b8 (b_ (x:=.v (.int K.1)) (y:=.v (.int st.1)) (r:=.v (.az false)) ?_ (b_ (x:=.v (b2 K)) rfl QX (.of rfl)) (.of rfl))) (.of rfl)));show pure (R.v (.az (decide (K.1<=st.1))))=_;rw[decide_eq_false (by omega)]
 refine hR (U':=i6 i w (lD E a k t0 t) st t Y E (d5 a k) t0.D (.v t.aV) (.v (.l f)) (.v o) (.v (.l Y)) (.v (.str bt.sg)) .e) ?_ ?_
 .rw[oZ]
  cases c:dx o with
  |false=>rw[c]at M;exact iW (r:=.v (.str "calm")) (b_ (x:=.fr [.str "calm",.str "asking"]) (y:=.v (.int 0)) rfl (.of rfl) (qO (rs:=[.v (.az false)]) rfl (bJ M dw))) rfl|true=>rw[c]at M;exact iW (r:=.v (.str "asking")) (b_ (x:=.fr [.str "calm",.str "asking"]) (y:=.v (.int 1)) rfl (.of rfl) (qO (rs:=[.v (.az true)]) rfl (bJ M dw))) rfl
 refine hR (iW (EK (ds:=[bt.c6,.str bt.sg,.t [.int bt.cD,bt.h,bt.op],.az bt.cc,.l Y]) (bJ (iE A rfl rfl (PH A)) (bJ (iE A rfl rfl (vd A)) (bJ (iE A rfl rfl (u5 A)) (bJ (iE A rfl rfl (Oh A)) (bJ (x:=.v (.l Y)) (.of rfl) dw))))) rfl (ako rfl)) rfl) ?_;refine lx (fb (rs:=[.v (.l [bt.c6,.str bt.sg,.t [.int bt.cD,bt.h,bt.op],.az bt.cc,.l Y]),.fr [bt.c6,.str bt.sg,.t [.int bt.cD,bt.h,bt.op],.az bt.cc,.l Y]]) (bJ (.of rfl) (bJ (EK (rs:=[.v bt.c6,.v (.str bt.sg),.v (.t [.int bt.cD,bt.h,bt.op]),.v (.az bt.cc),.v (.l Y)]) ?_ rfl (ako rfl)) dw)) (.of (same_refl 13 _ Ve)));rw[l0,Vn,Vd];exact bJ (.of rfl) (bJ (.of rfl) (bJ (.of rfl) (bJ (b_ (x:=.v t.aV) o1 (.of rfl) (.of rfl)) (bJ (.of rfl) dw))))
end
mutual
theorem L6(p:Nat->Bool):∀r:aI,r.wf->(∀k∈r.names,p k=true)->r.fills p=true
 |.kp k,_,h=>h k (akt.mpr rfl)|.ch k ps,hw,h=>by
  have hw:1<=k/\k<=ps.length/\ps.length<=6/\aI.i4 ps:=hw;show decide (k<=aI.cnt p ps)=true;rw[Kq p ps hw.2.2.2 h];exact decide_eq_true hw.2.1
theorem Kq(p:Nat->Bool):∀ps:List aI,aI.i4 ps->(∀k∈aI.eG ps,p k=true)->aI.cnt p ps=ps.length
 |[],_,_=>rfl|r::rs,hw,h=>by
  show(if r.fills p then 1 else 0)+aI.cnt p rs=rs.length+1;rw[L6 p r hw.1 λk a=>h k (ale _ a),Kq p rs hw.2 λk a=>h k (akH _ a),if_pos rfl,Nat.add_comm]
end
def O7{a k:aI}(b:a.wf)(c:k.wf){j:Nat}(h:j∈a.names\/j∈k.names):j∈bX a k:=by
 unfold bX;rw[aln,alg];exact⟨h.elim (q3 a b j) (q3 k c j),ak9.mpr (akO.mpr h)⟩
def aaR(a:List Nat)(j:Nat):maskOf (a++[j])=maskOf a ||| maskOf [j]:=by
 unfold maskOf;rw[List.foldl_append];show _ ||| 2 ^ j=_ ||| (0 ||| 2 ^ j)
 rw[Nat.zero_or]
def SE(s:cF):c8 s s=false:=by unfold c8;simp
theorem RU{b:D->b7}(I:Nat->aJ->bL->Prop):∀(ds:List D)(j:Nat)(U:aJ)(S:bL),I j U S->(∀i d U S,ds[i]? = some d->I (j+i) U S->∃U' a,br S (b d U) (.bl U') a/\I (j+i+1) U' a)->∃U' a,br S (jy b ds U) (.bl U') a/\I (j+ds.length) U' a
 |[],j,U,S,h,_=>⟨U,S,rfl,h⟩
 |d::ds,j,U,S,h,step=>by
  obtain⟨p,f,q,k⟩:=step 0 d U S rfl h;obtain⟨n,g,m,l⟩:=RU I ds (j+1) p f k λi e U S he c=>by
   rw[show j+1+i=j+(i+1)by omega]at c ⊢;exact step (i+1) e U S he c
  exact⟨n,g,vq q m,by rw[akx,show j+(ds.length+1)=j+1+ds.length by omega];exact l⟩
abbrev Tl(i w:Nat)(T:List D)(pl:D)(mk:List Nat)(wr:List D)(s6 s7 s8 s9:Slot):aJ:=[.v (.ref i),.v (.ref w),.cf T,.v pl,.fc false (mk.map bU),.v (.l wr),s6,s7,s8,s9]
def lK(B1:Nat->cG)(st:cF)(t:bO)(ps:List Nat):Nat->cG:=λj=>if j∈ps then(B1 j).tell st t.D else B1 j
def ae1{B1:Nat->cG}{st:cF}{t:bO}{ps:List Nat}{j:Nat}(h:j∉ps):up (lK B1 st t ps) j ((lK B1 st t ps j).tell st t.D)=lK B1 st t (ps++[j]):=funext λi=>by
 unfold up lK
 by_cases c:i=j
 .subst c;simp[h]
 .simp[c]
def eo(B1:Nat->cG)(st:cF)(ps:List Nat):List Nat:=ps.filter λj=>!c8 (B1 j).pr st
abbrev iB(k:aI)(a:List Nat):Bool:=k.fills λj=>a.contains j
section
variable{a k:aI}(ar:Good a)(aw:Good k){me nu:Int}{od:Option d4}{t0:bO}{E:Nat}{st:cF}{r:Int}{t:bO}
include ar aw
theorem PX{bt:bH}{Y:List D}(p:j6 me nu E a k t0 od r st t bt Y){j:Nat}(m:j∈bX a k){L:D}(i:L=gy j me (E:Nat) st\/∃q:cF,L=l8 j me (E:Nat) st q/\q.1<=r):bt.Do hS [L] [] bt:=by
 have b:∀{x:bH}{q:cF},x.me=me->q.1<=x.cN->x.Do hS [l8 j me (E:Nat) st q] [] x:=λ{x q} aq aC=>by
  have:=D' (a:=x) (k:=j) (e:=(E:Nat)) (s:=st) q;rw[aq]at this;unfold bH.Aw at this;rw[if_neg (by omega)]at this;exact this
 have l:∀{x:bH}{g f:aI},Good g->Good f->x.me=me->x.h=d5 g f->x.cD=((E+1:Nat):Int)->x.Do hS [gy j me (E:Nat) st] [] x:=λ{x g f} d c aq aC cP=>by
  have:=Yi (k:=j) (e:=(E:Nat)) (s:=st) (aC▸mS d c) (.str "kept") (.t []) EU (by unfold bH.now;rw[cP,decide_eq_false (by omega)];rfl);rw[aq]at this;exact this
 cases p with
 |same ns cS=>
  rcases i with rfl|⟨q,rfl,o⟩
  .refine Yf (mS ar aw) (.inl rfl) (by unfold bH.now;rw[ak9.mpr m];simp[c3]) ?_
   show ¬("calm":Str)="telling";decide
  .exact b rfl o
 |next n d c cS=>
  rcases i with rfl|⟨q,rfl,o⟩
  .exact l d c rfl rfl rfl
  .exact b rfl o
 |zZ n d c cS=>
  rcases i with rfl|⟨q,rfl,o⟩
  .exact l d c rfl rfl rfl
  .exact b rfl (by show q.1<=r+1;omega)
variable{W:List (List Nat)}(dq:W.length<59)(dA:1<=nu)(o0:dZ d9 W t0)(aE:st.1<=r)(cH:dZ d9 W t)(rJ:od≠none->t.aV=.ay->t.last me=nu){B1:Nat->cG}(ea:E<=150)(lt:∀j∈bX a k,c8 (B1 j).pr st=true->(B1 j).pr.1<=r){i w b:Nat}{dg:Int}{g1:List b0}{bs:cF}
include dq dA o0 aE cH rJ ea lt
inductive tF(me nu:Int)(E:Nat)(a k:aI)(t0:bO)(od:Option d4)(r:Int)(st:cF)(t:bO)(g1:List b0)(mk:List Nat):bH->List D->Prop
 |more (f:iB k mk=false):tF me nu E a k t0 od r st t g1 mk (c3 me nu E a k t0.D (bg od) r st "telling" .ay g1 (maskOf mk) t.D) []
 |done {bt:bH}{Y:List D}(f:iB k mk=true) (p:j6 me nu E a k t0 od r st t bt Y):tF me nu E a k t0 od r st t g1 mk bt Y
theorem ae0{T:List D}{ps:List Nat}{j:Nat}(L:j∈bX a k)(hQ:j∉ps)(aO:∀x∈ps,x∈bX a k)(l7:ps.length<=6){bt:bH}{wr:List D}{S:bL}(h:tF me nu E a k t0 od r st t g1 (eo B1 st ps) bt wr)(dG:dN S i w b bt ⟨me,nu,dg,bg od⟩ E (lK B1 st t ps))(s6 s7 s8 s9:Slot) :
  ∃aj X n nk GP GQ,br S (Au ((Tl i w T (df E a k t0.D) (eo B1 st ps) wr s6 s7 s8 s9).set 6 (.v (gm me (E:Nat) st (.t [b2 bs,.int nu,bg od,t.D]) j)))) (.bl (Tl i w T (df E a k t0.D) (eo B1 st (ps++[j])) n (.v (gm me (E:Nat) st (.t [b2 bs,.int nu,bg od,t.D]) j)) nk GP GQ)) aj/\tF me nu E a k t0 od r st t g1 (eo B1 st (ps++[j])) X n/\dN aj i w b X ⟨me,nu,dg,bg od⟩ E (lK B1 st t (ps++[j])):=by
 have o:=oe L;obtain⟨P,I,K⟩:=dG.tell ea o me st (b2 bs) (.int nu) (bg od) t.D;rw[ae1 hQ]at K;have rK:lK B1 st t ps j=B1 j:=if_neg hQ;rw[rK]at I;have km:∀x∈eo B1 st ps,x<6:=λx M=>oe (aO x (aln.mp M).1)
 have zL:=λN=>Ax N 6 k (by have:=aw.2.1;omega) aw.1
 have Q:∀{mk:List Nat}{s6 s7 s8 s9:Slot}{wr:List D}{S:bL},aA S (bC (kj 6) (a7 (fl (aX 3 1) 1) (J 4)) (Tl i w T (df E a k t0.D) mk wr s6 s7 s8 s9)) (.v (.az (iB k mk))):=λ{mk s6 s7 s8 s9 wr S}=>fb (bJ (.of rfl) (bJ (.of rfl) dw)) (.of (zL mk))
 have s0:ih 14 [.l [],.l []]=pure (.v (.az true)):=same_refl 13 _ (sJ (ako rfl) λ_ z=>nomatch z);have az:(eo B1 st ps).length<900:=by have:(eo B1 st ps).length<=ps.length:=al6 ..;omega
 have sn:∀N:List Nat,(N++[j]).map bU=N.map bU++[bU j]:=λN=>by rw[akP];rfl
 generalize kd:gm me (E:Nat) st (.t [b2 bs,.int nu,bg od,t.D]) j=u at *;generalize ei:df E a k t0.D=pl at *;have run:∀{dm:D}{mk':List Nat}{Y:List D}{m:bL}{n:List D},(B1 j).vV j me E st=dm->(∀{s8 s9:Slot},aA P (b9 (aL (ak oEq (aX 7 0) (aK (.str "kept")))) (ja 4 hY (bE (aX 7 1))) bZ (Tl i w T pl (eo B1 st ps) wr (.v u) (.v dm) s8 s9)) (.bl (Tl i w T pl mk' wr (.v u) (.v dm) s8 s9)))->c5 dm=.v dm->br P (hS [.ref i,dm]) (.fr Y) m->
   aA m (b9 (fW (ew (aL (J 8))) (aL (bC (kj 6) (a7 (fl (aX 3 1) 1) (J 4))))) (bW (b1 5 (J 9)) (b9 (ew (aL (v9 AJ (ck (J 0) (ck (J 1) (ck (J 3) (cy (aX 6 4) (fl (aX 6 5) 3) (J 9)))))))) (bA (aK .ay)) bZ)) (b9 (ew (aL (bC (ih 14) (a7 (J 9) (dD cO))))) (bA (aK .ay)) bZ) (Tl i w T pl mk' wr (.v u) (.v dm) (.v (.az (iB k (eo B1 st ps)))) (.v (.l Y)))) (.bl (Tl i w T pl mk' n (.v u) (.v dm) (.v (.az (iB k (eo B1 st ps)))) (.v (.l Y))))->
   br S (Au ((Tl i w T pl (eo B1 st ps) wr s6 s7 s8 s9).set 6 (.v u))) (.bl (Tl i w T pl mk' n (.v u) (.v dm) (.v (.az (iB k (eo B1 st ps)))) (.v (.l Y)))) m:=λ{dm mk' Y m n} F G da q Av=>by
  rw[F]at I;obtain⟨g,A⟩:=K.gV;exact c7 (nC (x_call (bJ (dG.get rfl rfl) (bJ (.of rfl) dw)) rfl I) rfl) (c7 (aA.to (iW Q rfl)) (c7 (aA.to G) (c7 (nC (vr A.bD (.of rfl) rfl (aA.to (.of rfl)) rfl q) rfl) (aA.to Av))))
 have R:∀{S:bL}{mk:List Nat}{wr:List D}{s7 s8:Slot},aA S (b9 (ew (aL (bC (ih 14) (a7 (J 9) (dD cO))))) (bA (aK .ay)) bZ (Tl i w T pl mk wr (.v u) s7 s8 (.v (.l [])))) (.bl (Tl i w T pl mk wr (.v u) s7 s8 (.v (.l [])))):=λ{S mk wr s7 s8}=>fT (jq (x:=true) (b8 (fb (.of rfl) (.of s0)))) (.of rfl)
 have O:∀{S:bL}{mk:List Nat}{wr:List D}{s7 s9:Slot}{x:Bool},aA S (ew (aL (J 8)) (Tl i w T pl mk wr (.v u) s7 (.v (.az x)) s9)) (!x):=λ{S mk wr s7 s9 x}=>jq (b8 (.of rfl))
 by_cases c:c8 (B1 j).pr st=true
 ·-- late
  have Z:eo B1 st (ps++[j])=eo B1 st ps:=by unfold eo;simp[c]
  have F:(B1 j).vV j me E st=l8 j me (E:Nat) st (B1 j).pr:=if_pos c;rw[Z];have G:∀{s8 s9:Slot},aA P (b9 (aL (ak oEq (aX 7 0) (aK (.str "kept")))) (ja 4 hY (bE (aX 7 1))) bZ (Tl i w T pl (eo B1 st ps) wr (.v u) (.v (l8 j me (E:Nat) st (B1 j).pr)) s8 s9)) (.bl (Tl i w T pl (eo B1 st ps) wr (.v u) (.v (l8 j me (E:Nat) st (B1 j).pr)) s8 s9)):=λ{s8 s9}=>fT (b8 (b_ (by rw[fV uW xI];rfl) (.of rfl) (.of rfl))) (.of rfl)
  have qT:=lt j L c
  cases h with
  |more f=>
   obtain⟨m,q,y⟩:=K.qq (by
    have:=D' (a:=c3 me nu E a k t0.D (bg od) r st "telling" .ay g1 (maskOf (eo B1 st ps)) t.D) (k:=j) (e:=(E:Nat)) (s:=st) (B1 j).pr;unfold bH.Aw at this;rw[if_neg (show ¬(B1 j).pr.1 > (c3 me nu E a k t0.D (bg od) r st "telling" .ay g1 (maskOf (eo B1 st ps)) t.D).cN by show ¬(B1 j).pr.1 > r;omega)]at this;exact this)
   refine⟨m,_,_,_,_,_,run F G rfl q ?_,.more f,y⟩;have B:=Q (mk:=eo B1 st ps) (wr:=[]) (s6:=.v u) (s7:=.v (l8 j me (E:Nat) st (B1 j).pr)) (s8:=.v (.az (iB k (eo B1 st ps)))) (s9:=.v (.l [])) (S:=m);rw[f]at B ⊢;exact fT (gx O (b8 B)) R
  |done f p=>
   obtain⟨m,q,y⟩:=K.qq (PX ar aw p L (.inr ⟨_,rfl,qT⟩));refine⟨m,_,_,_,_,_,run F G rfl q ?_,.done f p,y⟩;rw[f];exact fT (iV O) R
 ·-- kept
  have Z:eo B1 st (ps++[j])=eo B1 st ps++[j]:=by unfold eo;simp[(alB.mpr c)]
  have F:(B1 j).vV j me E st=gy j me (E:Nat) st:=if_neg c;rw[Z];have G:∀{s8 s9:Slot},aA P (b9 (aL (ak oEq (aX 7 0) (aK (.str "kept")))) (ja 4 hY (bE (aX 7 1))) bZ (Tl i w T pl (eo B1 st ps) wr (.v u) (.v (gy j me (E:Nat) st)) s8 s9)) (.bl (Tl i w T pl (eo B1 st ps++[j]) wr (.v u) (.v (gy j me (E:Nat) st)) s8 s9)):=λ{s8 s9}=>iF (b8 (b_ ET (.of rfl) (.of rfl))) (by unfold Tl;rw[sn];exact .of (y_ rfl rfl (by rw[akc];exact eP (by omega))))
  have C:=aaR (eo B1 st ps) j;have Ak:∀x∈eo B1 st ps++[j],x<6:=λx M=>by
   rcases akO.mp M with h|h
   .exact km x h
   .rw[akt.mp h];exact o
  have l1:=Dw aw.1 Ak
  cases h with
  |more f=>
   have av:(c3 me nu E a k t0.D (bg od) r st "telling" .ay g1 (maskOf (eo B1 st ps)) t.D).iy:=.inr (.inr rfl);have now:(c3 me nu E a k t0.D (bg od) r st "telling" .ay g1 (maskOf (eo B1 st ps)) t.D).now (bX a k) j (E:Nat) st=true:=by unfold bH.now;rw[ak9.mpr L];simp[c3]
   cases H:iB k (eo B1 st ps++[j])with
   |false=>
    have V:k.fills (gc (maskOf (eo B1 st ps) ||| maskOf [j]))=false:=by rw[<-C,l1];exact H
    obtain⟨m,q,y⟩:=K.qq (MZ (mS ar aw) av now rfl (Ye (mS ar aw) o V));refine⟨m,_,_,_,_,_,run F G rfl q ?_,.more H,by rw[C];exact y⟩;have B:=Q (mk:=eo B1 st ps++[j]) (wr:=[]) (s6:=.v u) (s7:=.v (gy j me (E:Nat) st)) (s8:=.v (.az (iB k (eo B1 st ps)))) (s9:=.v (.l [])) (S:=m);rw[H]at B;rw[f]at B ⊢;exact fT (gx O (b8 B)) R
   |true=>
    have V:k.fills (gc (maskOf (eo B1 st ps) ||| maskOf [j]))=true:=by rw[<-C,l1];exact H
    obtain⟨Y,X,d,p⟩:=Z5 ar aw cH rJ L V;obtain⟨m,q,y⟩:=K.qq d;refine⟨m,_,Y,_,_,_,run F G rfl q ?_,.done H p,y⟩;have B:=Q (mk:=eo B1 st ps++[j]) (wr:=[]) (s6:=.v u) (s7:=.v (gy j me (E:Nat) st)) (s8:=.v (.az (iB k (eo B1 st ps)))) (s9:=.v (.l Y)) (S:=m);rw[H]at B;rw[f]at B ⊢;have U:=SH ar aw dq dA o0 aE cH y ⟨rfl,rfl,rfl⟩ p;rw[ei]at U;refine iF (gx O (b8 B)) (hR (.of rfl) (fT (jq (b8 (ZS (rs:=[.v (.ref i),.v (.ref w),.v pl,.v (b2 st),.v t.D,.v (.l Y)]) (.of ?_) rfl U))) (.of rfl)));rw[<-kd];rfl
  |done f p=>
   obtain⟨m,q,y⟩:=K.qq (PX ar aw p L (.inl rfl));have H:iB k (eo B1 st ps++[j])=true:=L8 (λx M=>ak9.mpr (ale _ (ak9.mp M))) k f;refine⟨m,_,_,_,_,_,run F G rfl q ?_,.done H p,y⟩;rw[f];exact fT (iV O) R
end
def RO{f:R->R->M R}{a b:dC}{x y r:R}{S c d:bL}{U:aJ}(g:br S (a U) x c)(h:br c (b U) y d)(av:x.i3=true)(e:f x y=pure r):br S (rl f a b U) r d:=g.bind (h.bind (by rw[if_pos av];exact aA.to (.of e)))
theorem tq{b:D->b7}{f:Nat->D}{a:List Nat}(cS:a.Nodup)(I:List Nat->aJ->bL->Prop)(step:∀ps j U S,j∉ps->(∀x∈ps,x∈a)->ps.Nodup->ps.length<a.length->j∈a->I ps U S->∃U' c,br S (b (f j) U) (.bl U') c/\I (ps++[j]) U' c) :
  ∀(d ps:List Nat)(U:aJ)(S:bL),a=ps++d->I ps U S->∃U' c,br S (jy b (d.map f) U) (.bl U') c/\I a U' c
 |[],ps,U,S,e,h=>⟨U,S,rfl,by rw[e,ak5];exact h⟩
 |j::d,ps,U,S,e,h=>by
  have g:=cS;rw[e,amy]at g;obtain⟨r,i,s,l⟩:=step ps j U S (λz=>g.2.2 j z j akj rfl) (λx m=>by rw[e];exact ale _ m) g.1 (by rw[e,akh,akx];omega) (by rw[e];exact akH _ akj) h;obtain⟨q,k,p,n⟩:=tq cS I step d (ps++[j]) r i (by rw[e,al9];rfl) l;exact⟨q,k,vq s p,n⟩
section
variable{a k:aI}(ar:Good a)(aw:Good k){W:List (List Nat)}(dq:W.length<59){me nu:Int}(dA:1<=nu){od:Option d4}{t0:bO}(o0:dZ d9 W t0){E:Nat}(ea:E<=150){st:cF}{r:Int}{i w b:Nat}{dg:Int}
include ar aw dq dA o0 ea
theorem aeZ(x:st.1<=r){t:bO}(B:dZ d9 W t)(Q:od≠none->t.aV=.ay->t.last me=nu){B1:Nat->cG}(lt:∀j∈bX a k,c8 (B1 j).pr st=true->(B1 j).pr.1<=r){g1:List b0}{bs:cF}{S:bL}(n:dN S i w b (c3 me nu E a k t0.D (bg od) r st "telling" .ay g1 0 t.D) ⟨me,nu,dg,bg od⟩ E B1) :
  ∃c bt wr,br S (FD [.ref i,.ref w,.l ((bX a k).map (gm me (E:Nat) st (.t [b2 bs,.int nu,bg od,t.D])))]) (.v (.l wr)) c/\dN c i w b bt ⟨me,nu,dg,bg od⟩ E (lK B1 st t (bX a k))/\tF me nu E a k t0 od r st t g1 (eo B1 st (bX a k)) bt wr:=by
 have X:=pw a k;refine bR λh=>?_
 obtain⟨g,A⟩:=n.gV;have K:lK B1 st t []=B1:=funext λj=>if_neg ak6
 have J:iB k []=false:=zN k aw.1;obtain⟨U',c,M,bt,wr,s6,s7,s8,s9,rfl,ts,G⟩:=tq (b:=λd U=>Au (U.set 6 (.v d))) (f:=gm me (E:Nat) st (.t [b2 bs,.int nu,bg od,t.D])) (uH a k) (λps U p=>∃bt wr s6 s7 s8 s9,U=Tl i w ((bX a k).map (gm me (E:Nat) st (.t [b2 bs,.int nu,bg od,t.D]))) (df E a k t0.D) (eo B1 st ps) wr s6 s7 s8 s9/\tF me nu E a k t0 od r st t g1 (eo B1 st ps) bt wr/\dN p i w b bt ⟨me,nu,dg,bg od⟩ E (lK B1 st t ps))
  (λps j U p L y cS pl u ⟨bt,wr,s6,s7,s8,s9,z,ts,N⟩=>by
   subst z;refine bR λh=>?_
   obtain⟨O,H,m,P,q,s,V,R,F⟩:=ae0 ar aw dq dA o0 x B Q ea lt (bs:=bs) (T:=(bX a k).map (gm me (E:Nat) st (.t [b2 bs,.int nu,bg od,t.D]))) u L y (by omega) ts N s6 s7 s8 s9;exact h ⟨_,O,V,H,m,_,P,q,s,rfl,R,F⟩)
  (bX a k) [] (Tl i w ((bX a k).map (gm me (E:Nat) st (.t [b2 bs,.int nu,bg od,t.D]))) (df E a k t0.D) [] [] .e .e .e .e) S rfl ⟨_,[],_,_,_,_,rfl,.more J,by rw[K];exact n⟩
 refine h ⟨c,bt,wr,tm rfl (c7 (U':=[.v (.ref i),.v (.ref w),.cf ((bX a k).map (gm me (E:Nat) st (.t [b2 bs,.int nu,bg od,t.D]))),.v (df E a k t0.D),.e,.e,.e,.e,.e,.e]) (aA.to (iW (iE A rfl rfl (u5 A)) rfl)) (c7 (aA.to (.of rfl)) (c7 (aA.to (.of rfl)) (c7 (pR (.of rfl) M) (aA.to (.of rfl)))))),G,ts⟩
omit dq dA ea in
theorem ad2(dq:W.length<59){g1:List b0}{t:bO}(H:(best t0.D g1).2=t.D)(G:dZ d9 W t)(op:t.aV=.ay)(al:∀x∈g1,x.s=(best t0.D g1).1)(L:iB a (b0.keys g1)=true)(M:iB k (b0.keys g1)=true)(N:g1.length<=6){km:Nat}{ts:D}{S:bL}{B:Nat->cG}(m:dN S i w b (c3 me nu E a k t0.D (bg none) r st "calm" (.t [.str "saw",.t [.int (E:Nat),b2 (best t0.D g1).1,t.D]]) g1 km ts) ⟨me,nu,dg,bg none⟩ E B) :
  aA S (FC [.ref i,.ref w,df E a k t0.D,.l (g1.map dB)]) (.v (.az true)):=by
 obtain⟨g,A⟩:=m.gV;have c:=Ow g1 (op:=t0.D) rfl;have c:xm [.l (g1.map dB),t0.D]=pure (.v (.t [b2 (best t0.D g1).1,t.D])):=c.trans (by rw[show(g1.foldl dV ((0,0),t0.D)).2=t.D from H];rfl);generalize(best t0.D g1).1=bs at *;have d:(g1.map dB).length<akg:=by rw[akc];exact eP (by omega)
 have u:∀(q:aI),Good q->iB q (b0.keys g1)=true->kj 6 [enc q,.l ((b0.keys g1).map bU)]=pure (.v (.az true)):=λq h f=>(Ax (b0.keys g1) 6 q (by have:=h.2.1;omega) h.1).trans (by rw[show(q.fills λj=>(b0.keys g1).contains j)=true from f])
 have K:f7 gD (aX 0 0) [.e] (g1.map dB)=pure ((b0.keys g1).map bU):=(qk (U:=[.e]) dB (λx=>bU x.k) g1 λx _=>rfl).trans (by rw[al3];rfl);have p:f7 (aL (ak ej (aX 0 1) (J 1))) (J 0) [.e,.v (b2 bs)] (g1.map dB)=pure ((g1.filter λx=>!decide (x.s=bs)).map dB):=lY dB (λx=>!decide (x.s=bs)) dB g1 (λx _=>dc (bN (Pk x.s bs) rfl rfl)) λx _ _=>zA rfl
 have nn:(g1.filter λx=>!decide (x.s=bs))=[]:=aoH.mpr λx F=>by rw[al x F];simp
 rw[nn]at p;refine m5 rfl ?_;refine hR (U':=[.v (.ref i),.v (.ref w),.v (df E a k t0.D),.cf (g1.map dB),.v (b2 bs),.v t.D,.e,.e]) (pb (ds:=[b2 bs,t.D]) (fb (rs:=[.cf (g1.map dB),.v t0.D]) (.of rfl) (.of c)) rfl) ?_;refine hR (U':=[.v (.ref i),.v (.ref w),.v (df E a k t0.D),.cf (g1.map dB),.v (b2 bs),.v t.D,.v (.l ((b0.keys g1).map bU)),.e]) (iW (uj (ds:=g1.map dB) (.of rfl) d (.of K)) rfl) ?_;refine hR (U':=[.v (.ref i),.v (.ref w),.v (df E a k t0.D),.cf (g1.map dB),.v (b2 bs),.v t.D,.v (.l ((b0.keys g1).map bU)),.v (.az true)]) (iW (r:=.v (.az true)) (b_ (x:=.v (.int 0)) rfl (qO (rs:=[.fr []]) rfl (bJ (uj (ds:=g1.map dB) (.of rfl) d (.of p)) dw)) (.of rfl)) rfl) ?_;refine hR (fT (si (b8 (b_ (x:=.v .ay) (y:=.v .ay) (r:=.v (.az false)) rfl (m.get rfl rfl) (.of rfl))) (si (b8 (b_ (x:=.v .ay) (y:=.v .ay) (r:=.v (.az false)) rfl (b_ (x:=.v t.D) (by rw[<-op];rfl) (.of rfl) (.of rfl)) (.of rfl))) (jq (x:=true) (b8 (.of rfl))))) (.of rfl)) ?_;refine hR (fT (si (jq (x:=true) (b8 (fb (rs:=[.v (enc a),.v (.l ((b0.keys g1).map bU))]) (.of rfl) (.of (u a ar L))))) (jq (x:=true) (b8 (fb (rs:=[.v (enc k),.v (.l ((b0.keys g1).map bU))]) (.of rfl) (.of (u k aw M)))))) (.of rfl)) ?_;have ok:Ok 13 (.l [.t [.str "saw",.t [.int (E:Nat),b2 bs,t.D]],df E a k t0.D]):=sJ (n:=12) (ako rfl) (by
  simp only[alo];exact⟨nh (n:=11) (kk (by decide +kernel)) (oj (n:=10) fK (uX bs (by decide)) (G.ok (by omega) λz hz=>qw hz)),oj (n:=11) fK (A5 ar aw) (md (o0.ok (by omega) λz hz=>qw hz) (by decide)),λ_ z=>nomatch z⟩)
 exact lx (fb (rs:=[.fr [.t [.str "saw",.t [.int (E:Nat),b2 bs,t.D]],df E a k t0.D],.fr [.t [.str "saw",.t [.int (E:Nat),b2 bs,t.D]],df E a k t0.D]]) (bJ (EK (bJ (iE A rfl rfl (PH A)) (bJ (iE A rfl rfl (u5 A)) dw)) rfl (ako rfl)) (bJ (.of rfl) dw)) (.of (same_refl 13 _ ok)))
end
abbrev mx(i w:Nat)(L:List D)(pl:D)(a:List b0)(T:List D)(s6 s7 s8:Slot):aJ:=[.v (.ref i),.v (.ref w),.cf L,.v pl,.fc false (a.map dB),.v (.l T),s6,s7,s8]
def Cu{me nu:Int}{E:Nat}{a k:aI}{t0:bO}{e:Option d4}{W:List (List Nat)}{km:Nat}{ts:D}{st:cF}{r:Int}{di:List b0}{bt:bH}{d:List b0}{T:List D}(h:pY me nu E a k t0 e W km ts st r di bt d T):bt.iy/\T.length<=6:=by
 cases h with
 |asking i=>exact⟨.inr (.inl rfl),akG _⟩| told sub c b pt=>exact⟨.inr (.inr rfl),by rw[akc];exact pw a k⟩|seen c b l op al f g j=>exact⟨.inl rfl,akG _⟩
def acf{W:List (List Nat)}{t:bO}(f:dZ d9 W t){me nu:Int}(h:h3 me nu t){a:Option d4}(z:a≠none)(av:(eu t me nu (gj a)).aV=.ay):(eu t me nu (gj a)).last me=nu:=by
 cases a with
 |none=>exact absurd rfl z|some d=>
  have e:=Fd f me nu me (d:=.hC d);have b:dx t.aV=true:=by
   cases c:dx t.aV with
   |true=>rfl|false=>
    have:eu t me nu (gj (some d))=t:=if_neg λz=>by rw[c]at z;exact absurd z.1 akp
    rw[this]at av;rw[av]at c;cases c
  show(eu t me nu (some (.hC d))).last me=nu;rw[e]
  by_cases c:t.last me<nu
  .rw[if_pos ⟨⟨b,c⟩,rfl⟩]
  .rw[if_neg λz=>c z.1.2]
   have h:t.last me<=nu:=h;omega
section
variable{a k:aI}(ar:Good a)(aw:Good k){W:List (List Nat)}(dq:W.length<59){me nu:Int}(dA:1<=nu){od:Option d4}(hd:∀x,od=some x->jC d9 W x){t0:bO}(o0:dZ d9 W t0)(eH:h3 me nu t0){E km:Nat}(ea:E<=150){ts:D}{st:cF}{bu:Nat->cG}(d3:∀j,oG (h3 me nu) W (bu j).kp (bu j).w){i w b:Nat}{dg:Int}
include ar aw dq dA hd o0 eH ea d3
def tr(me nu:Int)(E:Nat)(a k:aI)(t0:bO)(od:Option d4)(W:List (List Nat))(km:Nat)(ts:D)(st:cF)(bu:Nat->cG)(i w b:Nat)(dg:Int)(ps:List Nat)(S:bL)(bt:bH)(c:List b0)(T:List D)(r:Int):Prop:=pY me nu E a k t0 od W km ts st r (kf bu st ps) bt c T/\dN S i w b bt ⟨me,nu,dg,bg od⟩ E (asked bu st ps)/\st.1<=r/\∀j∈ps,c8 st (bu j).pr=false->(bu j).pr.1<=r
theorem M1{ps:List Nat}{j:Nat}(u:j∈bX a k)(s:j∉ps)(A:∀x∈ps,x∈bX a k)(cS:ps.Nodup){S:bL}{bt:bH}{p:List b0}{T:List D}{r:Int}(h:tr me nu E a k t0 od W km ts st bu i w b dg ps S bt p T r) :
  ∃c f Y q m,br S (kJ [.ref b,eT me (E:Nat) st j]) (.v ((bu j).ky j me E st)) c/\(∃g,dM c i g bt)/\br c (hS [.ref i,(bu j).ky j me E st]) (.fr Y) f/\tr me nu E a k t0 od W km ts st bu i w b dg (ps++[j]) f q (if c8 st (bu j).pr=true/\bt.sg="asking" then p++[⟨j,(bu j).kp,(bu j).w⟩]else p) (T++Y) m:=by
 refine bR λl=>?_
 obtain⟨av,H,L,lt⟩:=h;obtain⟨c,y,n⟩:=H.ask ea (oe u) me st;rw[SU s]at n;have J:asked bu st ps j=bu j:=if_neg s;rw[J]at y;obtain⟨Y,q,m,M,d,K,B,t,rfl⟩:=SS ar aw dq dA hd o0 eH d3 u s A cS av;obtain⟨f,F,G⟩:=n.qq d;exact l ⟨c,f,Y,q,m,y,n.gV,F,K,G,by omega,λx e z=>by
  refine bR λl=>?_
  rcases akO.mp e with e|e
  .have:=lt x e z;omega
  .refine l ?_
   rw[akt.mp e]at z ⊢;exact t z⟩
theorem TQ{L:List D}{pl:D}{ps:List Nat}{j:Nat}(y:j∈bX a k)(M:j∉ps)(B:∀x∈ps,x∈bX a k)(cS:ps.Nodup)(V:ps.length<6){S:bL}{bt:bH}{d:List b0}{T:List D}{r:Int}(h:tr me nu E a k t0 od W km ts st bu i w b dg ps S bt d T r)(G:d.length<=ps.length)(s6 s7 s8:Slot) :
  ∃q m n t f N,br S (E3 ((mx i w L pl d T s6 s7 s8).set 6 (.v (eT me (E:Nat) st j)))) (.bl (mx i w L pl n t (.v (eT me (E:Nat) st j)) N s8)) q/\tr me nu E a k t0 od W km ts st bu i w b dg (ps++[j]) q m n t f/\n.length<=ps.length+1:=by
 obtain⟨p,F,Y,m,f,O,⟨g,A⟩,H,s⟩:=M1 ar aw dq dA hd o0 eH ea d3 y M B cS h;obtain⟨dh,Q⟩:=Cu h.1;obtain⟨P,u⟩:=Cu s.1;have K:=h.2.1;have R:T.length+Y.length<=6:=by rw[<-akh];exact u
 have bw:aA p (aL (ak oEq (e1 "Asker" "stand" m8 (J 0) cO) (aK (.str "asking"))) (mx i w L pl d T (.v (eT me (E:Nat) st j)) (.v ((bu j).ky j me E st)) s8)) (bt.sg == "asking"):=b8 (b_ (fV (sU dh) A3) (iE A rfl rfl (vd A)) (.of rfl));have ap:aA p (b9 (fW (aL (ak oEq (aX 7 0) (aK (.str "grant")))) (aL (ak oEq (e1 "Asker" "stand" m8 (J 0) cO) (aK (.str "asking"))))) (ja 4 hY (bE (bF (cy (aX 7 1) (fl (aX 7 5) 0) (fl (aX 7 5) 1))))) bZ (mx i w L pl d T (.v (eT me (E:Nat) st j)) (.v ((bu j).ky j me E st)) s8)) (.bl (mx i w L pl (if c8 st (bu j).pr=true/\bt.sg="asking" then d++[⟨j,(bu j).kp,(bu j).w⟩]else d) T (.v (eT me (E:Nat) st j)) (.v ((bu j).ky j me E st)) s8)):=by
  unfold cG.ky at bw ⊢
  by_cases c:c8 st (bu j).pr=true
  .rw[if_pos c]at bw ⊢
   by_cases e:bt.sg="asking"
   .rw[if_pos ⟨c,e⟩]
    rw[e,beq_self_eq_true]at bw;refine iF (gx (b8 (b_ zX (.of rfl) (.of rfl))) bw) ?_;unfold mx;rw[akP];exact .of (y_ rfl rfl (by rw[akc];exact eP (by omega)))
   .rw[if_neg λz=>e z.2]
    rw[show(bt.sg == "asking")=false by simpa using e]at bw;exact fT (gx (b8 (b_ zX (.of rfl) (.of rfl))) bw) (.of rfl)
  .rw[if_neg c]at bw ⊢
   rw[if_neg λz=>c z.1];exact fT (iV (b8 (b_ (by rw[fV (x:="late") uW uV];rfl) (.of rfl) (.of rfl)))) (.of rfl)
 refine⟨F,m,_,T++Y,f,_,c7 (U':=mx i w L pl d T (.v (eT me (E:Nat) st j)) (.v ((bu j).ky j me E st)) s8) (nC (x_call (rs:=[.v (.ref b),.v (eT me (E:Nat) st j)]) (bJ (K.get rfl rfl) (bJ (.of rfl) dw)) rfl O) rfl) (c7 (aA.to ap) (nC (RO (x:=.v (.l T)) (aA.to (.of rfl)) (vr (rs:=[.v ((bu j).ky j me E st)]) A.bD (.of rfl) rfl (aA.to (.of rfl)) rfl H) rfl (wb (by rw[akS];omega))) rfl)),s,?_⟩;split
 .rw[akh];show d.length+1<=_;omega
 .omega
inductive yH(me nu:Int)(E:Nat)(a k:aI)(t0:bO)(od:Option d4)(W:List (List Nat))(bu:Nat->cG)(st:cF):bH->List D->(Nat->cG)->Prop
 |seen {r:Int}{o:D}{g1:List b0}{km:Nat}{ts:D}{B:Nat->cG}(aE:st.1<=r):yH me nu E a k t0 od W bu st (c3 me nu E a k t0.D (bg od) r st "calm" o g1 km ts) [] B
 |post {r:Int}{t:bO}{bt:bH}{Y:List D}{B:Nat->cG}(cH:dZ d9 W t) (pt:h3 me nu t) (aE:st.1<=r) (p:j6 me nu E a k t0 od r st t bt Y) (fr:(∀j,(bu j).kp=(0,0))->t0.aV=.ay->t.aV=.ay):yH me nu E a k t0 od W bu st bt Y B
 |again {r:Int}{sg:Str}{g1:List b0}{km:Nat}{ts:D}{B:Nat->cG}(aE:st.1<=r) (av:sg="asking"\/sg="telling") (up:∀j∈bX a k,(B j).pr.1<=r) (na:∃j∈bX a k,c8 st (bu j).pr=false):yH me nu E a k t0 od W bu st (c3 me nu E a k t0.D (bg od) r st sg .ay g1 km ts) [] B
end
def e6(me nu:Int)(W:List (List Nat))(p:cG):Prop:=0<=p.pr.1/\oG (h3 me nu) W p.kp p.w
def PK{W:List (List Nat)}{t:bO}(b:dZ d9 W t){me nu:Int}(h:h3 me nu t)(a:Option d4):h3 me nu (eu t me nu (gj a)):=by
 cases a with
 |none=>exact h|some d=>
  show(eu t me nu (some (.hC d))).last me<=nu;rw[Fd b];split
  .exact alx _
  .exact h
def abK{W:List (List Nat)}{a:Option d4}(hd:∀x,a=some x->jC d9 W x):Ok 10 (bg a):=by
 rcases a with _|(⟨x,n⟩|⟨x,n⟩)
 .exact q7
 .exact md (n:=1) (oj (kk (by decide +kernel)) (kk (hd _ rfl).1.1) fK) (by decide)
 .exact md (n:=1) (oj (kk (by decide +kernel)) (kk (hd _ rfl).1.1) fK) (by decide)
def ad1{t:bO}(e:t.aV=.ay){me nu:Int}:(eu t me nu (gj od)).aV=.ay:=by
 cases od with
 |none=>exact e|some d=>
  show(eu t me nu (some (.hC d))).aV=.ay;unfold eu;dsimp only;split
  .cases d<;>exact e
  .exact e
section
variable{a k:aI}(ar:Good a)(aw:Good k){W:List (List Nat)}(dq:W.length<59){me nu:Int}(m0:0<=me)(f9:me<6)(dA:1<=nu){od:Option d4}(hd:∀x,od=some x->jC d9 W x){t0:bO}(o0:dZ d9 W t0)(eH:h3 me nu t0){E km:Nat}(ea:E<=150){ts:D}{st:cF}(s1:1<=st.1){bu:Nat->cG}(d3:∀j,e6 me nu W (bu j)){i w b:Nat}{dg:Int}
include ar aw dq m0 f9 dA hd o0 eH ea d3 s1
theorem TO{S:bL}{hU:Int}(bK:st.1<=hU)(dG:dN S i w b (c3 me nu E a k t0.D (bg od) hU st "asking" .ay [] km ts) ⟨me,nu,dg,bg od⟩ E bu)(ax:st=(st.1,me)) :
  ∃N bt wr er F,br S (sy [.ref i,.ref w,.l ((bX a k).map (eT me (E:Nat) st))]) F N/\F.dat=pure (.l wr)/\dN N i w b bt ⟨me,nu,dg,bg od⟩ E er/\yH me nu E a k t0 od W bu st bt wr er/\∀j,e6 me nu W (er j):=by
 have H:=mS ar aw;have l7:=pw a k;refine bR λB=>?_
 obtain⟨g,A⟩:=dG.gV;have SR:=Ff ar aw me E t0.D st;generalize tW:(bX a k).map (eT me (E:Nat) st)=L at *;have FZ:Ok 13 (.l L):=by
  rw[<-tW];exact sJ (n:=12) (by rw[akc];omega) λx G=>by
   refine bR λB=>?_
   obtain⟨j,_,rfl⟩:=akM.mp G;exact B (F8 (n:=11) (kk uU) fK fK fK (uX _ (by decide)) Pt)
 have f0:iB a []=false:=zN a ar.1;have gs:asked bu st []=bu:=funext λj=>if_neg ak6
 obtain⟨U',V,hX,bt,u,T,r,s6,s7,s8,rfl,l3,lz⟩:=tq (b:=λd U=>E3 (U.set 6 (.v d))) (f:=eT me (E:Nat) st) (uH a k) (λps U σ=>∃bt u T r s6 s7 s8,U=mx i w L (df E a k t0.D) u T s6 s7 s8/\tr me nu E a k t0 od W km ts st bu i w b dg ps σ bt u T r/\u.length<=ps.length)
  (λps j U σ hQ aO cS pl m ⟨bt,u,T,r,s6,s7,s8,ax,h,lz⟩=>by
   subst ax;refine bR λB=>?_
   obtain⟨mE,ee,jP,oK,bo,nk,t1,h',ur⟩:=TQ ar aw dq dA hd o0 eH ea (λj=>(d3 j).2) (L:=L) (pl:=df E a k t0.D) m hQ aO cS (by omega) h lz s6 s7 s8;exact B ⟨_,mE,t1,ee,jP,oK,bo,_,nk,s8,rfl,h',by rw[akh];exact ur⟩)
  (bX a k) [] (mx i w L (df E a k t0.D) [] [] .e .e .e) S rfl ⟨_,[],[],hU,_,_,_,rfl,⟨.asking f0,by rw[gs];exact dG,bK,λj m=>nomatch m⟩,akf _⟩
 rw[tW]at hX;obtain⟨av,K,M,lt⟩:=l3;have Z:∀j,e6 me nu W (asked bu st (bX a k) j):=λj=>by
  unfold asked;split
  .unfold cG.ask
   split
   .exact⟨by show 0<=st.1;omega,(d3 j).2⟩
   .exact d3 j
  .exact d3 j
 have C:∀j∈bX a k,(asked bu st (bX a k) j).pr.1<=r:=λj m=>by
  unfold asked;rw[if_pos m];unfold cG.ask;split
  .exact M
  .rename_i c;exact lt j m (alB.mpr c)
 have pre:∀{F:R}{N:bL},br V (I7 (mx i w L (df E a k t0.D) u T s6 s7 s8)) (.cp F) N->(F=.fr []\/∃d,F=.v d)->br S (sy [.ref i,.ref w,.l L]) F N:=λ{F N} t h=>by
  have body:br S (I6 [.v (.ref i),.v (.ref w),.cf L,.e,.e,.e,.e,.e,.e]) (.cp F) N:=
   c7 (U':=[.v (.ref i),.v (.ref w),.cf L,.v (df E a k t0.D),.e,.e,.e,.e,.e]) (aA.to (iW (iE A rfl rfl (u5 A)) rfl)) (tp (jq (x:=true) (b8 (fb (rs:=[.cf L,.fr L]) (bJ (.of rfl) (bJ (fb (rs:=[.v (.int me),.v (df E a k t0.D),.v (b2 st)]) (bJ (dG.get rfl rfl) (bJ (.of rfl) (bJ (iE A rfl rfl (G4 A)) dw))) (.of SR)) dw)) (.of (same_refl 13 _ FZ))))) (c7 (aA.to (.of rfl)) (c7 (aA.to (.of rfl)) (c7 (pR (.of rfl) hX) t))))
  refine bR λB=>?_
  rcases h with rfl|⟨d,rfl⟩
  .exact B (Hv rfl body)
  .exact B (tm rfl body)
 obtain⟨ajl,Y⟩:=K.gV;have we:∀{sg:Str},bt.sg=sg->bt.iy->aA V (aL (ak oEq (e1 "Asker" "stand" m8 (J 0) cO) (aK (.str "calm"))) (mx i w L (df E a k t0.D) u T s6 s7 s8)) (sg == "calm"):=λ{sg} e dh=>e▸b8 (b_ (calm_eq dh) (iE Y rfl rfl (vd Y)) (.of rfl))
 have all:(∀j∈bX a k,c8 st (bu j).pr=true)\/∃j∈bX a k,c8 st (bu j).pr=false:=by
  by_cases c:∃j∈bX a k,c8 st (bu j).pr=false
  .exact .inr c
  .exact .inl λj m=>by
    cases z:c8 st (bu j).pr with
    |true=>rfl|false=>exact absurd ⟨j,m,z⟩ c
 have full:∀{q:aI},q.wf->(∀j∈q.names,j∈bX a k)->iB q (bX a k)=true:=λ{q} a8 h=>L6 _ q a8 λj m=>ak9.mpr (h j m)
 cases av with
 |asking Q=>
  refine B ⟨V,_,[],_,.fr [],pre (tp (we rfl (.inr (.inl rfl))) (tn (aA.to (iF (.of rfl) (.of rfl))))) (.inl rfl),rfl,K,.again M (.inl rfl) C (all.resolve_left λz=>?_),Z⟩;have hb:b0.keys (kf bu st (bX a k))=bX a k:=by
   unfold kf b0.keys;rw[anB.mpr z,al3];exact List.map_id' _
  rw[hb]at Q;have Q:iB a (bX a k)=false:=Q;rw[full ar.1 λj m=>O7 ar.1 aw.1 (.inl m)]at Q;cases Q
 |seen X O q6 op al fa fk Ap=>
  subst q6;have aV:=ad2 ar aw o0 dq X O op al fa fk Ap K;exact B ⟨V,_,[],_,.fr [],pre (tn (aA.to (iF (we rfl (.inl rfl)) (w7 (iF (gx (b8 (fb (rs:=[.v (.ref i),.v (.ref w),.v (df E a k t0.D),.mv (u.map dB)]) (.of rfl) aV)) (.of rfl)) (.of rfl)))))) (.inl rfl),rfl,K,.seen M,Z⟩
 |@told _ t sub X O pt=>
  have ahB:=vZ (P:=h3 me nu) (W:=W);have ld:uB [(u.foldl dV ((0,0),t0.D)).2,.int me,.int nu,bg od]=pure (.v (eu t me nu (gj od)).D):=by
   rw[show(u.foldl dV ((0,0),t0.D)).2=t.D from X,<-acg];exact Oy O dq me dA (Gh hd)
  have te:=OA ar aw me E (op:=t0.D) rfl st nu (vm od) ld;have o:dZ d9 W (eu t me nu (gj od)):=Fe O m0 f9 nu (Gh hd);have P1:=PK O pt od;obtain⟨aT,nQ,wr,dE,dF,I⟩:=aeZ (bs:=(best t0.D u).1) ar aw dq dA o0 ea M o (λz av=>acf O pt z av) (B1:=asked bu st (bX a k)) (λj m _=>C j m) K;have uS:Ok 13 (.l ((bX a k).map (gm me (E:Nat) st (.t [b2 (best t0.D u).1,.int nu,bg od,(eu t me nu (gj od)).D])))):=sJ (n:=12) (by rw[akc];omega) λx G=>by
   refine bR λB=>?_
   obtain⟨j,_,rfl⟩:=akM.mp G;exact B (F8 (n:=11) (kk xJ) fK fK fK (uX st (by decide)) (Pu (n:=10) (uX _ (by decide)) fK (abK hd) (o.ok (by omega) λz hz=>qw hz)))
  have El:∀j,e6 me nu W (lK (asked bu st (bX a k)) st (eu t me nu (gj od)) (bX a k) j):=λj=>by
   unfold lK;split
   .unfold cG.tell
    split
    .exact Z j
    .exact⟨by show 0<=st.1;omega,.inr ⟨s1,_,rfl,o,P1⟩⟩
   .exact Z j
  have aeo:br S (sy [.ref i,.ref w,.l L]) (.v (.l wr)) aT:=by
   refine pre (tp (we rfl (.inr (.inr rfl))) (tp (b8 (b_ (x:=.v (.int (((bX a k).map (gm me (E:Nat) st (.t [b2 (best t0.D u).1,.int nu,bg od,(eu t me nu (gj od)).D]))).length:Nat))) (jf.trans ?_) (qO rfl (.of rfl)) (.of rfl))) (c7 (aA.to (iW (fb (rs:=[.v (.int me),.v (df E a k t0.D),.v (b2 st),.v (.int nu),.v (bg od),.mv (u.map dB)]) (bJ (K.get rfl rfl) (bJ (.of rfl) (bJ (iE Y rfl rfl (G4 Y)) (bJ (K.get rfl rfl) (bJ (K.get rfl rfl) (bJ (.of rfl) dw)))))) (.of te)) rfl)) (tp (jq (x:=true) (b8 (fb (rs:=[.v (.l ((bX a k).map (gm me (E:Nat) st (.t [b2 (best t0.D u).1,.int nu,bg od,(eu t me nu (gj od)).D])))),.v (.l ((bX a k).map (gm me (E:Nat) st (.t [b2 (best t0.D u).1,.int nu,bg od,(eu t me nu (gj od)).D]))))]) (.of rfl) (.of (same_refl 13 _ uS))))) (agG (x_call (rs:=[.v (.ref i),.v (.ref w),.v (.l ((bX a k).map (gm me (E:Nat) st (.t [b2 (best t0.D u).1,.int nu,bg od,(eu t me nu (gj od)).D]))))]) (.of rfl) rfl dE)))))) (.inr ⟨_,rfl⟩);rw[decide_eq_false];rw[akc];intro z;exact H.ne (amv (by omega))
  refine B ⟨aT,nQ,wr,_,.v (.l wr),aeo,rfl,dF,?_,El⟩
  cases I with
  |done f p=>
   refine .post o P1 M p λz av=>?_
   have cn:∀(aZ:List b0),(∀x∈aZ,x.s=(0,0))->aZ.foldl dV ((0,0),t0.D)=((0,0),t0.D):=λaZ=>by
    induction aZ with
    |nil=>exact λ_=>rfl
    |cons x xs a6=>
     intro G;rw[List.foldl_cons,show dV ((0,0),t0.D) x=((0,0),t0.D)from if_neg (by rw[G x akj];exact show ¬c8 (0,0) (0,0)=true by decide)];exact a6 λy a_=>G y (aki _ a_)
   have e:t0.D=t.D:=by
    rw[<-X];unfold best;rw[cn u λx G=>by obtain⟨j,_,rfl⟩:=akM.mp (sub x G);exact z j]
   have aC:t.aV=.ay:=by
    unfold bO.D at e;injection e with e
    injection e with _ e
    injection e with _ e
    injection e with _ e
    injection e with e _
    rw[<-e];exact av
   exact ad1 aC
  |more f=>
   refine .again M (.inr rfl) (λj m=>?_) (all.resolve_left λz=>?_)
   .unfold lK
    rw[if_pos m];unfold cG.tell;split
    .exact C j m
    .exact M
   .have hb:eo (asked bu st (bX a k)) st (bX a k)=bX a k:=anB.mpr λj m=>by
     unfold asked cG.ask;rw[if_pos m,if_pos (z j m)];show(!c8 st st)=true;rw[SE];rfl
    rw[hb,full aw.1 λj m=>O7 ar.1 aw.1 (.inr m)]at f;cases f
end
abbrev j3(i w:Nat)(L:List D)(s3:Slot):aJ:=[.v (.ref i),.v (.ref w),.v (.l L),s3]
def mz(me nu:Int)(W:List (List Nat))(E:Nat)(bt:bH):Prop:=∃(a k:aI)(t0:bO)(dd:D)(cc:Bool)(r:Int)(st:cF)(o:D)(aZ:List b0)(km:Nat)(ts:D),bt={ c3 me nu E a k t0.D dd r st "calm" o aZ km ts with cc:=cc }/\Good a/\Good k/\dZ d9 W t0/\h3 me nu t0/\t0.aV=.ay/\0<=r
def BN{S a:bL}{U:aJ}{b:D->b7}{d:D}{ds:List D}{r:R}(h:br S (b d U) (.cp r) a):br S (jy b (d::ds) U) (.cp r) a:=h.bind rfl
def dN.next{S:bL}{i w b:Nat}{a:bH}{x:lV}{E:Nat}{B:Nat->cG}(h:dN S i w b a x E B):dN S i w b a x (E+1) λ_=>om:=⟨h.gV,h.jx,by obtain⟨c,e,H⟩:=h.bk;exact⟨c,e,H.next⟩⟩
def Bb(me nu:Int)(W:List (List Nat)):e6 me nu W om:=⟨alx _,.inl ⟨rfl,rfl⟩⟩
section
variable{W:List (List Nat)}(dq:W.length<59){me nu:Int}(m0:0<=me)(f9:me<6)(dA:1<=nu){od:Option d4}(hd:∀x,od=some x->jC d9 W x){i w b:Nat}{dg:Int}
include dq m0 f9 dA hd
theorem turn{E:Nat}(ea:E<=150){a k:aI}(L:Good a)(G:Good k){t0:bO}(N:dZ d9 W t0)(H:h3 me nu t0)(A:t0.aV=.ay){B:Nat->cG}(U:∀j,e6 me nu W (B j)){S:bL}{r:Int}(Y:1<=r){km:Nat}{ts:D}(dG:dN S i w b (c3 me nu E a k t0.D (bg od) r (r,me) "asking" .ay [] km ts) ⟨me,nu,dg,bg od⟩ E B)(s3:Slot) :
  ∃Q bt wr s u,(∀{n:b7}{h:fe}{m:bL},br Q (n (j3 i w wr s3)) h m->br S (bG (jz 2 (ir sy (e5 (cy (J 0) (J 1) (J 2))))) (bG (b4 (b9 (aL (ak gB (J 2) (aK .ay))) (bA (aK (.az false))) bZ)) n) (j3 i w ((bX a k).map (eT me (E:Nat) (r,me))) s3)) h m)/\dN Q i w b bt ⟨me,nu,dg,bg od⟩ s u/\(∀j,e6 me nu W (u j))/\s<=E+1/\
   ((mz me nu W s bt)\/(s=E+1/\u=(λ_=>om)/\¬((∀j,(B j).kp=(0,0))/\∀j∈bX a k,c8 (r,me) (B j).pr=true)/\∃K F t' d P O,bt=c3 me nu (E+1) K F t'.D (bg od) d (d,me) "asking" .ay [] P O/\Good K/\Good F/\dZ d9 W t'/\h3 me nu t'/\t'.aV=.ay/\1<=d/\wr=(bX K F).map (eT me ((E+1:Nat):Int) (d,me)))\/
    (s=E/\wr=[]/\(∃j∈bX a k,c8 (r,me) (B j).pr=false)/\∃d X sg g1 P O,bt=c3 me nu E a k t0.D (bg od) d X sg .ay g1 P O/\(sg="asking"\/sg="telling")/\0<=d/\∀j∈bX a k,(u j).pr.1<=d)):=by
 refine bR λg=>?_
 obtain⟨f,bt,wr,B1,bf,t1,Z,q,V,M⟩:=TO L G dq m0 f9 dA hd N H ea (st:=(r,me)) Y U (alx _) dG rfl;have pre:∀{n:b7}{h:fe}{m:bL},br f (n (j3 i w wr s3)) h m->br S (bG (jz 2 (ir sy (e5 (cy (J 0) (J 1) (J 2))))) (bG (b4 (b9 (aL (ak gB (J 2) (aK .ay))) (bA (aK (.az false))) bZ)) n) (j3 i w ((bX a k).map (eT me (E:Nat) (r,me))) s3)) h m:=λt=>c7 (U':=j3 i w wr s3) (nC (x_call (rs:=[.v (.ref i),.v (.ref w),.v (.l ((bX a k).map (eT me (E:Nat) (r,me))))]) (.of rfl) rfl t1) Z) (tp (b8 (b_ (qH (.l wr)) (.of rfl) (.of rfl))) t)
 cases V with
 | @seen c o g1 C I i7 e=>exact g ⟨f,_,_,E,_,pre,q,M,am7 _,.inl ⟨a,k,t0,_,false,c,_,o,g1,C,I,rfl,L,G,N,H,A,by have e:r<=c:=e;omega⟩⟩| @again c sg g1 C I i7 e av up na=>exact g ⟨f,_,_,E,_,pre,q,M,am7 _,.inr (.inr ⟨rfl,rfl,na,c,_,sg,g1,C,I,rfl,av,by have e:r<=c:=e;omega,up⟩)⟩|@post c t _ _ _ R pt e p fr=>
  have e:r<=c:=e;have lE:h3 me nu t.i0:=pt
  cases p with
  |same ns cS=>exact g ⟨f,_,_,E,_,pre,q,M,am7 _,.inl ⟨a,k,t0,_,t.fU,c,_,_,_,_,_,rfl,L,G,N,H,A,by omega⟩⟩| next T x y cS=>exact g ⟨f,_,_,E+1,_,pre,q.next,λ_=>Bb me nu W,akf _,.inl ⟨_,_,t.i0,_,false,c,_,_,_,_,_,rfl,x,y,R.i0,lE,rfl,by omega⟩⟩
  |zZ T x y cS=>
   refine g ⟨f,_,_,E+1,_,pre,q.next,λ_=>Bb me nu W,akf _,.inr (.inl ⟨rfl,rfl,λz=>?_,_,_,t.i0,c+1,_,_,rfl,x,y,R.i0,lE,rfl,by omega,rfl⟩)⟩;have:=fr z.1 A;rw[T]at this;cases this
end
inductive lT(me nu:Int)(E:Nat)(a k:aI)(t0:bO)(od:Option d4):bH->List D->Int->Prop
 |asks {r:Int}{km:Nat}{ts:D}(bK:1<=r):lT me nu E a k t0 od (c3 me nu E a k t0.D (bg od) r (r,me) "asking" .ay [] km ts) ((bX a k).map (eT me (E:Nat) (r,me))) r
 |ring {r:Int}{st:cF}{sg:Str}{g1:List b0}{km:Nat}{ts:D}(av:sg="asking"\/sg="telling") (hU:0<=r):lT me nu E a k t0 od (c3 me nu E a k t0.D (bg od) r st sg .ay g1 km ts) [] (r+1)
structure Op(me nu:Int)(W:List (List Nat))(a k:aI)(t0:bO):Prop where
 a:Good a
 k:Good k
 t:dZ d9 W t0
 p:h3 me nu t0
 aV:t0.aV=.ay
section
variable{W:List (List Nat)}(dq:W.length<59){me nu:Int}(m0:0<=me)(f9:me<6)(dA:1<=nu){od:Option d4}(hd:∀x,od=some x->jC d9 W x){i w b:Nat}{dg:Int}
include dq m0 f9 dA hd
theorem Ga{E:Nat}(ea:E<=150){a k:aI}{t0:bO}(O:Op me nu W a k t0){B:Nat->cG}(d3:∀j,e6 me nu W (B j)){S:bL}{bt:bH}{L:List D}{h:Int}(X:lT me nu E a k t0 od bt L h)(V:dN S i w b bt ⟨me,nu,dg,bg od⟩ E B)(d:D)(s3:Slot) :
  ∃P G wr l K,dN P i w b G ⟨me,nu,dg,bg od⟩ l K/\(∀j,e6 me nu W (K j))/\l<=E+1/\((br S (w_ ((j3 i w L s3).set 3 (.v d))) (.cp (.v (.az true))) P/\mz me nu W l G)\/br S (w_ ((j3 i w L s3).set 3 (.v d))) (.bl (j3 i w wr (.v d))) P/\
   ((l=E+1/\K=(λ_=>om)/\¬((∀j,(B j).kp=(0,0))/\∀j∈bX a k,c8 (h,me) (B j).pr=true)/\∃u s t' y,Op me nu W u s t'/\lT me nu l u s t' od G wr y/\1<=y)\/
    (l=E/\(∃j∈bX a k,c8 (h,me) (B j).pr=false)/\∃y,lT me nu E a k t0 od G wr y/\∀j∈bX a k,(K j).pr.1<y))):=by
 have H:=mS O.a O.k;refine bR λf=>?_
 obtain⟨m,km,ts,Q,T,pre⟩:∃m km ts,1<=h/\dN m i w b (c3 me nu E a k t0.D (bg od) h (h,me) "asking" .ay [] km ts) ⟨me,nu,dg,bg od⟩ E B/\∀{U:b7}{Z:fe}{n:bL},br m (U (j3 i w ((bX a k).map (eT me (E:Nat) (h,me))) (.v d))) Z n->br S (bG (fA (gn (aL (ak oEq (cV hk (bE (J 2))) (aH 0)))) (jz 2 (fY "Asker" "bell" AB (J 0) mq)) (b4 bZ)) U (j3 i w L (.v d))) Z n:=by
  refine bR λf=>?_
  cases X with
  |asks Q=>
   refine f ⟨S,_,_,Q,V,λt=>c7 (mr (aA.to (b8 (b_ (x:=.v (.int (((bX a k).map (eT me (E:Nat) (h,me))).length:Nat))) (jf.trans ?_) (qO rfl (.of rfl)) (.of rfl)))) rfl) t⟩;rw[decide_eq_false];rw[akc];intro z;exact H.ne (amv (by omega))
  |@ring r st sg g1 km ts av hU=>
   have Y:sg≠"calm":=by rcases av with rfl|rfl<;>decide
   obtain⟨g,A⟩:=V.gV;obtain⟨m,t1,T⟩:=V.qq (TP (a:=c3 me nu E a k t0.D (bg od) r st sg .ay g1 km ts) H.mem H.len (av.elim (λz=>.inr (.inl z)) λz=>.inr (.inr z)) Y);exact f ⟨m,km,ts,by omega,T,λt=>c7 (U':=j3 i w ((bX a k).map (eT me (E:Nat) (r+1,me))) (.v d)) (mu (aA.to (.of rfl)) (nC (vr (rs:=[]) A.bD (.of rfl) rfl rfl rfl t1) rfl)) t⟩
 obtain⟨n,M,wr,vF,i7,N,dF,jj,DW,R⟩:=turn dq m0 f9 dA hd ea O.a O.k O.t O.p O.aV d3 Q T (.v d);obtain⟨g,A⟩:=dF.gV;have fin:∀{sg:Str},M.sg=sg->M.iy->aA n (aL (ak oEq (e1 "Asker" "stand" m8 (J 0) cO) (aK (.str "calm"))) (j3 i w wr (.v d))) (sg == "calm"):=λ{sg} e dh=>e▸b8 (b_ (calm_eq dh) (iE A rfl rfl (vd A)) (.of rfl))
 refine f ⟨n,M,wr,vF,i7,dF,jj,DW,?_⟩;refine bR λf=>?_
 rcases R with C|⟨rfl,rfl,g0,u,s,t',F,uo,rf,c,ga,eD,cH,pt,aV,I,rfl⟩|⟨rfl,rfl,na,F,b3,sg,g1,uo,rf,c,av,hU,up⟩
 .obtain⟨u,s,t',dd,cc,F,b3,o,aZ,uo,rf,c,_⟩:=id C
  exact f (.inl ⟨pre (N (aA.to (iF (fin (sg:="calm") (by rw[c];rfl) (by rw[c];exact .inl rfl)) (.of rfl)))),C⟩)
 .exact f (.inr ⟨pre (N (aA.to (fT (fin (sg:="asking") (by rw[c];rfl) (by rw[c];exact .inr (.inl rfl))) (.of rfl)))),.inl ⟨rfl,rfl,g0,u,s,t',F,⟨ga,eD,cH,pt,aV⟩,by rw[c];exact .asks I,I⟩⟩)
 .have Y:(sg == "calm")=false:=by rcases av with rfl|rfl<;>rfl
  have dh:M.iy:=by rw[c];exact av.elim (λz=>.inr (.inl z)) λz=>.inr (.inr z)
  have q:=fin (sg:=sg) (by rw[c];rfl) dh;rw[Y]at q;exact f (.inr ⟨pre (N (aA.to (fT q (.of rfl)))),.inr ⟨rfl,na,F+1,by rw[c];exact .ring av hU,λj a5=>by have:=up j a5;omega⟩⟩)
theorem Mj{a:Int}(c:1<=a):c8 (a,me) om.pr=true:=by unfold c8 om;simp;omega
theorem LP{E:Nat}(J:E<=140){a k:aI}{t0:bO}(O:Op me nu W a k t0){B:Nat->cG}(d3:∀j,e6 me nu W (B j)){S:bL}{bt:bH}{L:List D}{n:Int}(X:lT me nu E a k t0 od bt L n)(x:dN S i w b bt ⟨me,nu,dg,bg od⟩ E B) :
  ∃c h f m,br S (uC [.ref i,.ref w,.l L]) (.v (.az true)) c/\dN c i w b h ⟨me,nu,dg,bg od⟩ f m/\(∀j,e6 me nu W (m j))/\f<=E+2/\mz me nu W f h:=by
 have go:∀{c:bL},br S (jy (λd U=>w_ (U.set 3 (.v d))) (oo 0 8) (j3 i w L .e)) (.cp (.v (.az true))) c->br S (uC [.ref i,.ref w,.l L]) (.v (.az true)) c:=λ{c} t=>by
  show br S (nY 3 4 CE [.ref i,.ref w,.l L]) _ _;unfold nY;rw[if_pos (show[D.ref i,D.ref w,D.l L].length=3 from rfl)];have q:br S (CE (j3 i w L .e)) (.cp (.v (.az true))) c:=tn (pR (it:=m3 (bE (aH 8))) (ds:=oo 0 8) (.of rfl) t);exact q.bind rfl
 have last:∀{E:Nat},E<=150->∀{a k:aI}{t0:bO},Op me nu W a k t0->∀{S:bL}{bt:bH}{L:List D}{n:Int},lT me nu E a k t0 od bt L n->1<=n->dN S i w b bt ⟨me,nu,dg,bg od⟩ E (λ_=>om)->∀(d:D)(s3:Slot),∃c h f m,dN c i w b h ⟨me,nu,dg,bg od⟩ f m/\(∀j,e6 me nu W (m j))/\f<=E+1/\br S (w_ ((j3 i w L s3).set 3 (.v d))) (.cp (.v (.az true))) c/\mz me nu W f h:=λ{E} J {a k t0} O {S bt L n} X H x d s3=>by
  refine bR λg=>?_
  obtain⟨c,h,wr,f,m,eJ,M,P,R⟩:=Ga dq m0 f9 dA hd J O (λ_=>Bb me nu W) X x d s3;rcases R with⟨t,C⟩|⟨_,⟨_,_,g0,_⟩|⟨_,⟨j,a5,z⟩,_⟩⟩
  .exact g ⟨c,h,f,m,eJ,M,P,t,C⟩
  .exact g (absurd ⟨λ_=>rfl,λ_ _=>Mj dq m0 f9 dA hd H⟩ g0)
  .rw[Mj dq m0 f9 dA hd H]at z;cases z
 refine bR λg=>?_
 obtain⟨T,oP,aj5,V,B1,s,K,aju,R⟩:=Ga dq m0 f9 dA hd (by omega) O d3 X x (.int (0+(0:Nat))) .e;rcases R with⟨t,C⟩|⟨t1,⟨rfl,rfl,_,eN,dW,t',rb,I,o,Be⟩|⟨rfl,_,rb,o,up⟩⟩
 .exact g ⟨T,oP,V,B1,go (BN t),s,K,by omega,C⟩
 .obtain⟨r,F,G,y,p,A,N,u,C⟩:=last (by omega) I o Be s (.int (0+(1:Nat))) (.v (.int (0+(0:Nat))))
  exact g ⟨r,F,G,y,go (vq t1 (BN u)),p,A,by omega,C⟩
 .obtain⟨r,F,aj6,G,y,p,A,N,R⟩:=Ga dq m0 f9 dA hd (by omega) O K o s (.int (0+(1:Nat))) (.v (.int (0+(0:Nat))))
  rcases R with⟨t,C⟩|⟨u,⟨rfl,rfl,_,eN,dW,t',aj1,I,vT,cg⟩|⟨_,⟨j,a5,z⟩,_⟩⟩
  .exact g ⟨r,F,G,y,go (vq t1 (BN t)),p,A,by omega,C⟩
  .obtain⟨cU,Z,Y,Q,ti,Wm,ajv,t3,C⟩:=last (by omega) I vT cg p (.int (0+(2:Nat))) (.v (.int (0+(1:Nat))))
   exact g ⟨cU,Z,Y,Q,go (vq t1 (vq u (BN t3))),ti,Wm,by omega,C⟩
  .have:=up j a5
   rw[show c8 (rb,me) (B1 j).pr=true by unfold c8;simp;omega]at z;cases z
end
theorem FK:∀(l:List Int)(b:Int),b<=hp b l/\∀x∈l,x<=hp b l
 |[],b=>⟨alx _,λ_ h=>(nomatch h)⟩
 |y::l,b=>by
  unfold hp
  by_cases c:b<y
  .rw[if_pos c]
   have:=FK l y;exact⟨by omega,λx a=>by rcases akq.mp a with rfl|a;exact this.1;exact this.2 x a⟩
  .rw[if_neg c]
   have:=FK l b;exact⟨this.1,λx a=>by rcases akq.mp a with rfl|a;omega;exact this.2 x a⟩
def ac0{k:Nat}(a:k<6):∃p:Int,oC 0 p/\fy (.fr [.int 1,.int 2,.int 4,.int 8,.int 16,.int 32]) (.v (bU k))=pure (.v (.int p)):=by
 rcases(by omega:k=0\/k=1\/k=2\/k=3\/k=4\/k=5)with rfl|rfl|rfl|rfl|rfl|rfl
 .exact⟨1,hO (by decide) (by decide),rfl⟩
 .exact⟨2,hO (by decide) (by decide),rfl⟩
 .exact⟨4,hO (by decide) (by decide),rfl⟩
 .exact⟨8,hO (by decide) (by decide),rfl⟩
 .exact⟨16,hO (by decide) (by decide),rfl⟩
 .exact⟨32,hO (by decide) (by decide),rfl⟩
def CJ{i j k:Nat}{A:Int}{U:aJ}(g:J i U=pure (.v (.int A)))(f:k<6)(d:ak fy (J j) (aH 2) U=pure (.v (bU k))) :
  ∃b,aL (ak oEq (ak oMod (ak fG (J i) (ak fy (dD (ck (aH 1) (ck (aH 2) (ck (aH 4) (cy (aH 8) (aH 16) (aH 32)))))) (fl (J j) 2))) (aH 2)) (aH 1)) U=pure b:=by
 obtain⟨p,c,e⟩:=ac0 f;exact⟨_,dc (bN jf (bN (gi (by decide)) (bN (j' (a:=A) c) g (bN e (xb rfl rfl (ako rfl)) d)) rfl) rfl)⟩
def NM{xs:List Int}{i:Int}(b:0<=i)(a:i<xs.length):∃A:Int,fy (.fr (xs.map D.int)) (.v (.int i))=pure (.v (.int A)):=by
 obtain⟨v,e⟩:=Ic (xs:=xs.map D.int) b (by rw[akc];exact a);obtain⟨A,_,rfl⟩:=akM.mp (Ib e);exact⟨A,NW e⟩
abbrev nH(b:Nat)(pl:D)(g n:Int)(d:D)(c:Int)(h:List Nat)(top A g8:Int)(aZ:List b0)(f a e:Slot):aJ:=[.v (.ref b),.v pl,.v (.int g),.v (.int n),.v d,.v (.int c),.v (.l (h.map bU)),.v (.int top),.v (.int A),.v (.int g8),.fc false (aZ.map dB),f,a,e]
def e6.mono{me nu b:Int}{W:List (List Nat)}{p:cG}(h:e6 me nu W p)(c:nu<=b):e6 me b W p:=⟨h.1,h.2.imp id λ⟨a,t,e,o,q⟩=>⟨a,t,e,o,by have q:t.last me<=nu:=q;show t.last me<=b;omega⟩⟩
def Hg{me nu:Int}{W:List (List Nat)}{B:Nat->cG}(h:∀j,e6 me nu W (B j)){k:Nat}{p:cG}(a:e6 me nu W p):∀j,e6 me nu W (up B k p j):=λj=>by
 unfold up;split
 .exact a
 .exact h j
def Mq(d:jD):c5 d.D=.v d.D:=by rcases d with(_|_)|_|_<;>rfl
section
variable{W:List (List Nat)}(dq:W.length<59){me nu:Int}{E:Nat}(ea:E<=150){a k:aI}{t0:bO}(O:Op me nu W a k t0){i w b:Nat}{x:lV}{bt:bH}
include dq ea O
theorem aav{S:bL}{B:Nat->cG}(dG:dN S i w b bt x E B)(d3:∀j,e6 me nu W (B j)){g:Int}(t8:0<=g)(rR:g<6)(DO:g≠me){n:Int}(aG:1<=n){d:jD}(hd:tu d9 W d)(c:Int) :
  ∃N er,br S (AL [.ref b,df E a k t0.D,.int g,.int n,d.D,.int c]) (.v .ay) N/\dN N i w b bt x E er/\∀j,e6 me nu W (er j):=by
 have P:=O.a;have aw:=O.k;have f9:=pw a k;have ahr:((bX a k).map bU).length<akg:=by rw[akc];exact eP (by omega)
 refine bR λf=>?_
 obtain⟨aD,bk,H⟩:=dG.bk;have I:aA S (f7 gD (fl (fl (bC uF (cy (J 1) (J 0) (aX 2 0))) 0) 0) [.e,.v (.ref b),.v (df E a k t0.D)] ((bX a k).map bU)) ((bX a k).map λj=>.int (B j).pr.1):=
  Al bU (λj=>.int (B j).pr.1) (bX a k) λj _=>b_ rfl (b_ rfl (xN (H.mj j) bk rfl rfl rfl) (.of rfl)) (.of rfl)
 obtain⟨T,bs,tW⟩:∃b bs,((bX a k).map λj=>(B j).pr.1)=b::bs:=by
  cases e:(bX a k).map λj=>(B j).pr.1 with
  |nil=>have:=O8 (k:=k) P;rw[amO.mp e]at this;cases this
  |cons b bs=>exact⟨b,bs,rfl⟩
 have kL:wA [.fr ((bX a k).map λj=>.int (B j).pr.1)]=pure (.v (.int (hp T bs))):=by
  show(match nums ((bX a k).map λj=>D.int (B j).pr.1)with|some (b::bs)=>pure (R.v (.int (hp b bs)))|_=>bad)=_;rw[FW,tW]
 have q1:=FK bs T;have all:∀j∈bX a k,(B j).pr.1<=hp T bs:=λj M=>by
  have:=tW▸akM.mpr ⟨j,M,rfl⟩;refine bR λf=>?_
  rcases akq.mp this with e|h
  .refine f ?_
   rw[e];exact q1.1
  .exact f (q1.2 _ h)
 have gs:0<=T:=by
  have:=tW▸akj;refine bR λf=>?_
  obtain⟨j,_,e⟩:=akM.mp this;have:=(d3 j).1;refine f ?_;omega
 obtain⟨m,em,af⟩:∃m,1+hp T bs=m/\1<=m:=⟨_,rfl,by omega⟩;obtain⟨A,Vf⟩:=NM (xs:=[63,63,c / 6 % 64]) (i:=c % 3) (aoz _ (by decide)) (anM _ (by decide));obtain⟨g8,Vg⟩:=NM (xs:=[63,c / 384 % 64]) (i:=c / 3 % 2) (aoz _ (by decide)) (anM _ (by decide));obtain⟨gO,C,aq,aZ,K,F,B1,rfl,G,u,Z,dr,_⟩:=tq (b:=λd U=>Oo (U.set 11 (.v d))) (uH a k) (λps U L=>∃aZ K F B1,U=nH b (df E a k t0.D) g n d.D c (bX a k) m A g8 aZ K F .e/\dN L i w b bt x E B1/\(∀j,e6 me nu W (B1 j))/\(∀y∈aZ,oG (h3 me nu) W y.s y.w)/\aZ.length<=ps.length/\∀j,j∉ps->B1 j=B j)
  (λps j U L hQ aO cS pl M ⟨aZ,K,F,B1,ax,X,u,Z,dr,same⟩=>by
   subst ax;have V:=oe M;refine bR λf=>?_
   obtain⟨oR,Q⟩:=CJ (i:=8) (j:=11) (U:=nH b (df E a k t0.D) g n d.D c (bX a k) m A g8 aZ (.v (eT g (E:Nat) (m,g) j)) F .e) rfl V rfl
   cases oR with
   | false=>exact f ⟨_,L,mr (aA.of Q).to rfl,aZ,_,F,B1,rfl,X,u,Z,by rw[akh];omega,fun y l=>same y fun z=>l (ale _ z)⟩|true=>
    obtain⟨mE,Y,G⟩:=X.ask ea V g (m,g);have ab:c8 (m,g) (B1 j).pr=true:=by
     rw[same j hQ];have:=all j M;unfold c8;simp;omega
    unfold cG.ky at Y;unfold cG.ask at G;rw[if_pos ab]at Y G;refine f ⟨nH b (df E a k t0.D) g n d.D c (bX a k) m A g8 (aZ++[⟨j,(B1 j).kp,(B1 j).w⟩]) (.v (eT g (E:Nat) (m,g) j)) (.v (kF j g (E:Nat) (m,g) (B1 j).kp (B1 j).w)) .e,mE,mu (aA.of Q).to (c7 (nC (x_call (.of rfl) rfl Y) rfl) ?_),_,_,_,_,rfl,G,Hg u ⟨by show 0<=m;omega,(u j).2⟩,λy l=>?_,by rw[akh,akh];show aZ.length+1<=ps.length+1;omega,λy l=>?_⟩
    .unfold nH
     rw[akP];exact(aA.of (y_ rfl (cons_of (Rk (bN rfl rfl rfl) (bN rfl (bN rfl rfl rfl) rfl) (bN rfl (bN rfl rfl rfl) rfl)) rfl) (by rw[akc];exact eP (by omega)))).to
    .refine bR λf=>?_
     rcases akO.mp l with l|l
     .exact f (Z y l)
     .refine f ?_
      rw[akt.mp l];exact(u j).2
    .have:y≠j:=λz=>l (z▸akH _ akj)
     rw[Rx this];exact same y λz=>l (ale _ z))
  (bX a k) [] (nH b (df E a k t0.D) g n d.D c (bX a k) m A g8 [] .e .e .e) S rfl ⟨[],_,_,B,rfl,dG,d3,(λ_ h=>nomatch h),akf _,λ_ _=>rfl⟩
 obtain⟨t,Vt,tok,g6⟩:=vZ aZ ((0,0),t0.D) Z (.inl rfl) ⟨t0,rfl,O.t,O.p⟩;have Ya:uB [(aZ.foldl dV ((0,0),t0.D)).2,.int g,.int n,d.D]=pure (.v (eu t g n (some d)).D):=by rw[Vt];exact Oy tok dq g aG (d:=some d) λy l=>by cases l;exact hd
 have EW:e6 me nu W ⟨(m,g),(m,g),(eu t g n (some d)).D⟩:=⟨by show 0<=m;omega,.inr ⟨af,_,rfl,Fe tok t8 rR n (λy l=>by cases l;exact hd),by
  show(eu t g n (some d)).last me<=nu;rw[Fd tok,if_neg λz=>DO z.2.symm];exact g6⟩⟩
 obtain⟨dK,aT,aC,hD,i7,rfl,dF,jj⟩:=tq (b:=λd U=>Oq (U.set 13 (.v d))) (uH a k) (λps U L=>∃hD B1,U=nH b (df E a k t0.D) g n d.D c (bX a k) m A g8 aZ K F hD/\dN L i w b bt x E B1/\∀j,e6 me nu W (B1 j))
  (λps j U L hQ aO cS pl M ⟨hD,B1,ax,X,u⟩=>by
   subst ax;have V:=oe M;refine bR λf=>?_
   obtain⟨oR,Q⟩:=CJ (i:=9) (j:=13) (U:=nH b (df E a k t0.D) g n d.D c (bX a k) m A g8 aZ K F (.v (gm g (E:Nat) (m,g) (.t [b2 (aZ.foldl dV ((0,0),t0.D)).1,.int n,d.D,(eu t g n (some d)).D]) j))) rfl V rfl
   cases oR with
   |false=>exact f ⟨_,L,mr (aA.of Q).to rfl,_,B1,rfl,X,u⟩|true=>
    obtain⟨mE,Y,G⟩:=X.tell ea V g (m,g) (b2 (aZ.foldl dV ((0,0),t0.D)).1) (.int n) d.D (eu t g n (some d)).D;exact f ⟨_,mE,mu (aA.of Q).to (tl (x_call (.of rfl) rfl Y)),_,_,rfl,G,Hg u (by
     unfold cG.tell;split
     .exact u j
     .exact EW)⟩)
  (bX a k) [] (nH b (df E a k t0.D) g n d.D c (bX a k) m A g8 aZ K F .e) C rfl ⟨_,B1,rfl,G,u⟩
 have o:aL (bC (kj 6) (a7 (fl (aX 1 1) 0) (e9 1 [] (jO (J 10)) gD (aX 0 0)))) (nH b (df E a k t0.D) g n d.D c (bX a k) m A g8 aZ K F .e)=pure (a.fills λj=>(aZ.map (·.k)).contains j):=
  Vz P (by omega) rfl rfl rfl
 have pre:∀{U':aJ}{N:bL},br C (Jf (nH b (df E a k t0.D) g n d.D c (bX a k) m A g8 aZ K F .e)) (.bl U') N->br S (AL [.ref b,df E a k t0.D,.int g,.int n,d.D,.int c]) (.v .ay) N:=λ{U' N} q=>yA rfl (by
  show br S (Je [.v (.ref b),.v (df E a k t0.D),.v (.int g),.v (.int n),c5 d.D,.v (.int c),.e,.e,.e,.e,.e,.e,.e,.e]) _ _;rw[Mq];exact c7 (aA.of (va (call_of rfl (Fg P aw)) rfl)).to<|
   c7 (aA.to (iW (b_ (r:=.v (.int m)) (by rw[<-em];rfl) (.of rfl) (qO kL (bJ (uj (.of rfl) ahr I) dw))) rfl))<|
   c7 (aA.of (fL (bN Vf (xb (cons_of rfl (cons_of rfl (cons_of (bN (gi (by decide)) (bN (j' (hO (by decide) (by decide))) rfl rfl) rfl) rfl))) rfl (ako rfl)) (bN (gi (by decide)) rfl rfl)))).to<|
   c7 (aA.of (fL (bN Vg (xb (cons_of rfl (cons_of (bN (gi (by decide)) (bN (j' (hO (by decide) (by decide))) rfl rfl) rfl) rfl)) rfl (ako rfl)) (bN (gi (by decide)) (bN (j' (hO (by decide) (by decide))) rfl rfl) rfl)))).to<|
   c7 (aA.of acb).to<|c7 (pR (EJ (.of (call_of rfl (Ff P aw g E t0.D (m,g))))) aq) q)
 cases q:a.fills λj=>(aZ.map (·.k)).contains j with
 |false=>
  rw[q]at o;exact f ⟨C,B1,pre (mr (aA.of o).to rfl),G,u⟩
 |true=>
  rw[q]at o;exact f ⟨aT,i7,pre (mu (aA.of o).to (pR (EJ (.of (call_of rfl (OA P aw g E rfl (m,g) n (Mq d) Ya)))) aC)),dF,jj⟩
end
def yX(s:Int)(W:List (List Nat)):Prop:=∀j:Int,0<=j->j<3->∃a∈W,uE [.int (s+64*j)]=pure (.v (.str (cT a)))/\rv a
def abk(s:Int):∃W:List (List Nat),W.length<59/\yX s W:=by
 obtain⟨a,f,g⟩:=Fh (s+64*0);obtain⟨a1,aq,b⟩:=Fh (s+64*1);obtain⟨a2,aC,c⟩:=Fh (s+64*2);refine⟨[a,a1,a2],ako rfl,λj d e=>?_⟩;rcases(by omega:j=0\/j=1\/j=2)with rfl|rfl|rfl
 .exact⟨a,by simp,f,g⟩
 .exact⟨a1,by simp,aq,b⟩
 .exact⟨a2,by simp,aC,c⟩
def Ox{s:Int}{W:List (List Nat)}(r:yX s W)(c:Int):∃d:d4,sz [.int c,.int s]=pure (.v d.D)/\gR d/\jC d9 W d/\vD d.D:=by
 have m:=mod_lt (a:=c / 6) (b:=3) (by decide);have p:=mod_lt (a:=c / 6) (b:=10 ^ 40) (by decide);obtain⟨l,g,aq,f⟩:=r (c / 6 % 3) m.1 m.2;have y:oD 64 (c / 6 % 3):=.inl ⟨by decide,by decide⟩;have k:k' l:=⟨f.ok,f.p1,f.A_⟩;have j:ak lC (aH 10) (aH 40) [.v (.int c),.v (.int s),.e]=pure (.v (.int (10 ^ 40))):=bN (Bc ⟨by decide,by decide,by decide⟩ rfl) rfl rfl;have nm:∀x:Slot,bC uE (bE (ak iI (J 1) (ak xE (aH 64) (ak oMod (ak fG (J 0) (aH 6)) (aH 3))))) [.v (.int c),.v (.int s),x]=pure (.v (.str (cT l))):=λx=>call_of (rs:=[.v (.int (s+64*(c / 6 % 3)))]) (cons_of (bN rfl rfl (bN (aa6 y) rfl (bN (gi (by decide)) (bN (j' (hO (by decide) (by decide))) rfl rfl) rfl))) rfl) aq
 have cJ:b1 2 (ak oMod (ak fG (J 0) (aH 6)) (ak lC (aH 10) (aH 40))) [.v (.int c),.v (.int s),.e]=pure (.bl [.v (.int c),.v (.int s),.v (.int (c / 6 % 10 ^ 40))]):=fL (bN (gi (by decide)) (bN (j' (hO (by decide) (by decide))) rfl rfl) j);generalize c / 6 % 10 ^ 40=X at *;obtain⟨n,i,aC⟩:∃n:Int,(-(10 ^ 60)<n/\n<10 ^ 60)/\I' [.v (.int c),.v (.int s),.v (.int X)]=Ja [.v (.int c),.v (.int s),.v (.int n)]:=by
  by_cases q:c % 5=0
  .exact⟨0-X,by omega,eX ((jn (dc (bN (jf.trans (by rw[decide_eq_true q])) (bN (gi (by decide)) rfl rfl) rfl))).trans (fL rfl))⟩
  .exact⟨X,by omega,jV (dc (bN (jf.trans (by rw[decide_eq_false q])) (bN (gi (by decide)) rfl rfl) rfl))⟩
 have cP:∀w:Str,fp [D.str "put",.str "add",.str "add"] (c % 3)=some (.str w)->sz [.int c,.int s]=pure (.v (.t [.str w,.str (cT l),.int n])):=λw u=>
  mM rfl ((eX cJ).trans (aC.trans (kS (Rk (bN (NW u) (xb rfl rfl (ako rfl)) (bN (gi (by decide)) rfl rfl)) (nm _) rfl))))
 rcases(by omega:c % 3=0\/c % 3=1\/c % 3=2)with h|h|h
 .exact⟨.put l n,cP "put" (by rw[h];rfl),.inl ⟨l,n,rfl⟩,⟨k,g⟩,⟨"put",l,n,rfl,VL,f,i⟩⟩
 .exact⟨.add l n,cP "add" (by rw[h];rfl),.inr ⟨l,n,rfl⟩,⟨k,g⟩,⟨"add",l,n,rfl,Mg,f,i⟩⟩
 .exact⟨.add l n,cP "add" (by rw[h];rfl),.inr ⟨l,n,rfl⟩,⟨k,g⟩,⟨"add",l,n,rfl,Mg,f,i⟩⟩
def agD{S a b:bL}{U:aJ}{i:Nat}{c m:Str}{mf:d0}{mo:bj}{d:hL}{fs:List (Str×D)}{rs:List R}{r:R}(h:S[i]? = some (.bD c fs))(g:aA S (mo U) (.v (.ref i)))(f:fs.lookup m=none)(j:br S (d U) rs a)(av:rs.all R.i3=true)(e:br a (mf (.ref i::rs.map R.arg)) r b):br S (fY c m mf mo d U) r b:=g.to.bind ((m6 h).to.bind (by show br S (if c=c/\fs.lookup m=none then _ else _) _ _;rw[if_pos ⟨rfl,f⟩];exact j.bind (by rw[if_pos av];exact e)))
def agF{S a:bL}{U:aJ}{m:dC}{r:R}(h:br S (m U) r a):br S (BK m cO U) [r] a:=h.bind rfl
abbrev AS(me nu:Int)(E:Nat)(a k:aI)(t0:bO)(dd:D)(cc:Bool)(r:Int)(st:cF)(o:D)(aZ:List b0)(km:Nat)(ts:D):bH:={ c3 me nu E a k t0.D dd r st "calm" o aZ km ts with cc:=cc }
section
variable{W:List (List Nat)}{me nu:Int}(nd:0<=nu){od:Option d4}(hd:∀x,od=some x->jC d9 W x/\vD x.D){i w b:Nat}{dg:Int}{E:Nat}{a k:aI}{t0:bO}(O:Op me nu W a k t0){qo dd:D}{r:Int}(hU:0<=r){st:cF}{o:D}{aZ:List b0}{km:Nat}{ts:D}
include hd O
omit nd hU in
theorem JQ{S:bL}{B:Nat->cG}(e:dN S i w b (AS me nu E a k t0 dd false r st o aZ km ts) ⟨me,nu,dg,qo⟩ E B) :
  ∃c,br S (AK [.ref i,.ref w,bg od]) (.fr ((bX a k).map (eT me (E:Nat) (r+1,me)))) c/\dN c i w b (c3 me (nu+1) E a k t0.D (bg od) (r+1) (r+1,me) "asking" .ay [] km ts) ⟨me,nu+1,dg,bg od⟩ E B:=by
 have H:=mS O.a O.k;have f:=e.Hp (x':=⟨me,nu+1,dg,qo⟩);have h:=f.Hp (x':=⟨me,nu+1,dg,bg od⟩);have j:bg od=.ay\/pj [bg od]=pure (.v (.az true)):=by
  cases od with
  |none=>exact .inl rfl|some d=>exact .inr (NS (hd d rfl).2)
 obtain⟨c,t,l⟩:=h.qq (TN (a:=AS me nu E a k t0 dd false r st o aZ km ts) H.mem H.len rfl rfl (vm od) j);obtain⟨g,A⟩:=h.gV;refine⟨c,Hv rfl ?_,l⟩;show br S (I5 [.v (.ref i),.v (.ref w),c5 (bg od)]) _ _;rw[vm];exact c7 (Hu (k:=.inr "number") (aA.to (b_ (x:=.v (.int nu)) (r:=.v (.int (nu+1))) rfl (e.get rfl rfl) (.of rfl))) rfl (.of rfl) (.of rfl) e.jx rfl (by show 5<1000;decide)) (c7 (Hu (k:=.inr "deed") (aA.to (a:=.v (bg od)) (.of rfl)) rfl (.of rfl) (.of rfl) f.jx rfl (by show 5<1000;decide)) (RT (vr (rs:=[.v (bg od)]) A.bD (.of rfl) rfl (aA.to (.of rfl)) rfl t)))
end
section
variable{W:List (List Nat)}(dq:W.length<59){me nu:Int}(m0:0<=me)(f9:me<6)(dA:1<=nu){od:Option d4}(hd:∀x,od=some x->jC d9 W x){i w b:Nat}{dg:Int}{E:Nat}(ea:E<=150){a k:aI}{t0:bO}(O:Op me nu W a k t0)
include dq m0 f9 dA hd ea O
theorem ae4{S:bL}{B:Nat->cG}(L:∀j,e6 me nu W (B j)){r:Int}(bK:1<=r){km:Nat}{ts:D}(dG:dN S i w b (c3 me nu E a k t0.D (bg od) r (r,me) "asking" .ay [] km ts) ⟨me,nu,dg,bg od⟩ E B)(dd:D)(n:Int) :
  ∃X bt Z c s6 T q,br S (jy (λd U=>E7 (U.set 5 (.v d))) ((bX a k).map (eT me (E:Nat) (r,me))) [.v (.ref i),.v (.ref w),.v dd,.v (.int n),.v (.l []),.e,.e]) (.bl [.v (.ref i),.v (.ref w),.v dd,.v (.int n),.v (.l T),c,.e]) q/\br q (nB 6 (qG (J 4)) E8 [.v (.ref i),.v (.ref w),.v dd,.v (.int n),.v (.l T),c,.e]) (.bl [.v (.ref i),.v (.ref w),.v dd,.v (.int n),.v (.l T),c,s6]) X/\dN X i w b bt ⟨me,nu,dg,bg od⟩ E Z/\(∀j,e6 me nu W (Z j))/\(mz me nu W E bt/\bt.cc=false\/∃g5,lT me nu E a k t0 od bt [] g5):=by
 have gs:asked B (r,me) []=B:=funext λj=>if_neg ak6
 have f0:iB a []=false:=zN a O.a.1;refine bR λs=>?_
 obtain⟨gO,q,u,bt,m,T,y,c,rfl,l3⟩:=tq (b:=λd U=>E7 (U.set 5 (.v d))) (f:=eT me (E:Nat) (r,me)) (uH a k) (λps U F=>∃bt m T y c,U=[.v (.ref i),.v (.ref w),.v dd,.v (.int n),.v (.l T),c,.e]/\tr me nu E a k t0 od W km ts (r,me) B i w b dg ps F bt m T y)
  (λps j U F C V cS pl G ⟨bt,m,T,y,c,M,h⟩=>by
   subst M;refine bR λs=>?_
   obtain⟨ahz,Sy,Y,ee,cg,u,⟨g,A⟩,dE,o⟩:=M1 O.a O.k dq dA hd O.t O.p ea (λj=>(L j).2) G C V cS h;obtain⟨_,Hb⟩:=Cu o.1;have z:=h.2.1;obtain⟨t8,R4⟩:=z.gV;have kq:T.length+Y.length<=6:=by rw[<-akh];exact Hb
   exact s ⟨_,Sy,nC (RO (x:=.v (.l T)) (aA.to (.of rfl)) (agD (rs:=[.v ((B j).ky j me E (r,me))]) R4.bD (.of rfl) rfl (agF (x_call (rs:=[.v (.ref b),.v (eT me (E:Nat) (r,me) j)]) (bJ (z.get rfl rfl) (bJ (.of rfl) dw)) rfl u)) rfl dE) rfl (wb (by rw[akS];omega))) rfl,ee,_,_,cg,_,rfl,o⟩)
  (bX a k) [] [.v (.ref i),.v (.ref w),.v dd,.v (.int n),.v (.l []),.e,.e] S rfl ⟨_,[],[],r,_,rfl,.asking f0,by rw[gs];exact dG,alx _,λj G=>nomatch G⟩
 obtain⟨av,H,R,lt⟩:=l3;have R:r<=y:=R;have Q:∀j,e6 me nu W (asked B (r,me) (bX a k) j):=λj=>by
  unfold asked;split
  .unfold cG.ask
   split
   .exact⟨by show 0<=r;omega,(L j).2⟩
   .exact L j
  .exact L j
 cases av with
 | asking g0=>exact s ⟨q,_,_,c,.e,[],q,u,pR (ds:=[]) (.of rfl) RR,H,Q,.inr ⟨_,.ring (.inl rfl) (by omega)⟩⟩| seen K N q6 op al fa fk Ap=>exact s ⟨q,_,_,c,.e,[],q,u,pR (ds:=[]) (.of rfl) RR,H,Q,.inl ⟨⟨a,k,t0,_,false,y,_,_,_,_,_,rfl,O.a,O.k,O.t,O.p,O.aV,by omega⟩,rfl⟩⟩|@told _ t sub K N pt=>
  have uZ:dZ d9 W (eu t me nu (gj od)):=Fe N m0 f9 nu (Gh hd);have EW:e6 me nu W ⟨(r,me),(r,me),(eu t me nu (gj od)).D⟩:=⟨by show 0<=r;omega,.inr ⟨bK,_,rfl,uZ,PK N pt od⟩⟩;obtain⟨dK,aT,aC,s6,i7,rfl,dF,jj⟩:=tq (b:=λd U=>E8 (U.set 6 (.v d))) (f:=gm me (E:Nat) (r,me) (.t [b2 (best t0.D m).1,.int nu,bg od,(eu t me nu (gj od)).D])) (uH a k) (λps U F=>∃s6 B1,U=[.v (.ref i),.v (.ref w),.v dd,.v (.int n),.v (.l ((bX a k).map (gm me (E:Nat) (r,me) (.t [b2 (best t0.D m).1,.int nu,bg od,(eu t me nu (gj od)).D])))),c,s6]/\dN F i w b (c3 me nu E a k t0.D (bg od) y (r,me) "telling" .ay m 0 (eu t me nu (gj od)).D) ⟨me,nu,dg,bg od⟩ E B1/\∀j,e6 me nu W (B1 j))
   (λps j U F C V cS pl G ⟨s6,B1,M,z,P⟩=>by
    subst M;have I:=oe G;refine bR λs=>?_
    obtain⟨oR,K⟩:=CJ (i:=3) (j:=6) (k:=j) (A:=n) (U:=[.v (.ref i),.v (.ref w),.v dd,.v (.int n),.v (.l ((bX a k).map (gm me (E:Nat) (r,me) (.t [b2 (best t0.D m).1,.int nu,bg od,(eu t me nu (gj od)).D])))),c,.v (gm me (E:Nat) (r,me) (.t [b2 (best t0.D m).1,.int nu,bg od,(eu t me nu (gj od)).D]) j)]) rfl I rfl
    cases oR with
    |false=>exact s ⟨_,F,mr (aA.of K).to rfl,_,B1,rfl,z,P⟩|true=>
     obtain⟨mE,u,H⟩:=z.tell ea I me (r,me) (b2 (best t0.D m).1) (.int nu) (bg od) (eu t me nu (gj od)).D;exact s ⟨_,mE,mu (aA.of K).to (tl (x_call (bJ (z.get rfl rfl) (bJ (.of rfl) dw)) rfl u)),_,_,rfl,H,Hg P (by
      unfold cG.tell;split
      .exact P j
      .exact EW)⟩)
   (bX a k) [] [.v (.ref i),.v (.ref w),.v dd,.v (.int n),.v (.l ((bX a k).map (gm me (E:Nat) (r,me) (.t [b2 (best t0.D m).1,.int nu,bg od,(eu t me nu (gj od)).D])))),c,.e] q rfl ⟨_,_,rfl,H,Q⟩
  exact s ⟨aT,_,i7,c,s6,_,q,u,pR (.of rfl) aC,dF,jj,.inr ⟨_,.ring (.inr rfl) (by omega)⟩⟩
end
def Op.mono{me nu b:Int}{W:List (List Nat)}{a k:aI}{t0:bO}(O:Op me nu W a k t0)(h:nu<=b):Op me b W a k t0:=⟨O.a,O.k,O.t,by have p:t0.last me<=nu:=O.p;show t0.last me<=b;omega,O.aV⟩
def agB{S a f:bL}{U:aJ}{i:Nat}{m:dC}{b:b7}{xs:List D}{c:fe}(h:br S (m U) (.fr xs) a)(e:br a (jy (λd U=>b (U.set i (.v d))) xs U) c f):br S (BM i (Ad m) b U) c f:=br.bind (m:=Ad m U) (h.bind rfl) e
def ZZ{S:bL}{U:aJ}{t:aJ->M Bool}{c:Str}{r:aY}(h:aA S (t U) true):aA S (vw t c r U) (.cp (.v (.str c))):=h.bind (.of rfl)
def ZY{S:bL}{U:aJ}{t:aJ->M Bool}{c:Str}{r:aY}{x:fe}(h:aA S (t U) false)(a:aA S (r U) x):aA S (vw t c r U) x:=h.bind a
def ZX{S:bL}{U:aJ}{d:bj}{b:List (Str×aY)}{c:Str}{m:aY}{a:fe}(h:aA S (d U) (.v (.str c)))(e:b.lookup c=some m)(f:aA S (m U) a):aA S (zt d b U) a:=h.bind (by show aA S (match b.lookup c with|some m=>m U|none=>bad) a;rw[e];exact f)
section
variable{W:List (List Nat)}{od:Option d4}(hd:∀x,od=some x->jC d9 W x/\vD x.D)
include hd
theorem adB{S:bL}{i g:Nat}{A:bH}(h:dM S i g A)(cc:A.cc=true):aA S (FA [.ref i,bg od]) (.v (.az true)):=by
 have nn:aA S (aL (ak hq (J 1) (aK .ay)) [.v (.ref i),.v (bg od)]) (!dx (bg od)):=b8 (b_ (pz (bg od)) (.of rfl) (.of rfl));have tk:aA S (fW (aL (ak hq (J 1) (aK .ay))) (ew (aL (bC pj (bE (J 1))))) [.v (.ref i),.v (bg od)]) false:=by
  cases od with
  |none=>exact iV nn|some d=>
   have:dx (bg (some d))=false:=by cases d<;>rfl
   rw[this]at nn;exact gx nn (jq (x:=true) (b8 (fb (bJ (x:=.v d.D) (.of rfl) dw) (.of (NS (hd d rfl).2)))))
 have z:aA S (FE [.ref i,bg od]) (.v (.str "Over")):=by
  refine m5 rfl ?_;show aA S (Hz [.v (.ref i),c5 (bg od)]) _;rw[vm];exact ZY tk (ZZ (b8 (dk h rfl (by show some (D.az A.cc)=_;rw[cc]))))
 refine m5 rfl ?_;show aA S (Js [.v (.ref i),c5 (bg od),.e]) _;rw[vm];exact hR (U':=[.v (.ref i),.v (bg od),.v (.str "")]) (.of rfl) (hR (U':=[.v (.ref i),.v (bg od),.v (.str "over")]) (ZX (w6 h.bD (.of rfl) rfl (bJ (x:=.v (bg od)) (.of rfl) dw) z) rfl (.of rfl)) (lx (b_ (by rw[fV (x:="over") (by decide +kernel) (by decide +kernel),beq_self_eq_true]) (.of rfl) (.of rfl))))
variable(dq:W.length<59){me nu:Int}(m0:0<=me)(f9:me<6)(nd:0<=nu){i w b:Nat}{dg:Int}{E:Nat}(ea:E<=150)
include dq m0 f9 nd ea
theorem ae3{a k:aI}{t0:bO}(O:Op me nu W a k t0){A dd:D}{r:Int}(K:0<=r){st:cF}{o:D}{aZ:List b0}{km:Nat}{ts:D}{S:bL}{B:Nat->cG}(p:∀j,e6 me nu W (B j))(t:dN S i w b (AS me nu E a k t0 dd false r st o aZ km ts) ⟨me,nu,dg,A⟩ E B)(c:Int) :
  ∃d bt f,br S (AN [.ref i,.ref w,bg od,.int c]) (.v .ay) d/\dN d i w b bt ⟨me,nu+1,dg,bg od⟩ E f/\(∀j,e6 me (nu+1) W (f j))/\(mz me (nu+1) W E bt/\bt.cc=false\/∃u,lT me (nu+1) E a k t0 od bt [] u):=by
 refine bR λg=>?_
 obtain⟨J,G,n⟩:=JQ hd O t;obtain⟨h,bt,y,F,s6,T,cU,q,H,s,z,R⟩:=ae4 dq m0 f9 (by omega:1<=nu+1) (λx m=>(hd x m).1) ea (O.mono (by omega)) (λj=>(p j).mono (by omega)) (by omega:1<=r+1) n (bg od) c;refine g ⟨h,bt,y,yA (U':=[.v (.ref i),.v (.ref w),.v (bg od),.v (.int c),.v (.l T),F,s6]) rfl ?_,s,z,R⟩;show br S (Jv [.v (.ref i),.v (.ref w),c5 (bg od),.v (.int c),.e,.e,.e]) _ _;rw[vm];exact c7 (U':=[.v (.ref i),.v (.ref w),.v (bg od),.v (.int c),.v (.l []),.e,.e]) (aA.to (.of rfl)) (c7 (agB (x_call (rs:=[.v (.ref i),.v (.ref w),.v (bg od)]) (.of rfl) rfl G) q) H)
end
section
variable{W:List (List Nat)}(dq:W.length<59){s:Int}(hN:yX s W){me nu:Int}(m0:0<=me)(f9:me<6){E:Nat}(ea:E<=150){i w b:Nat}{dg:Int}(afa:0<=dg)
include dq hN m0 f9 ea afa
theorem Mv{a k:aI}{t0:bO}(O:Op me nu W a k t0){dd:D}{nw:Int}{S:bL}{B:Nat->cG}{bt:bH}(m:dN S i w b bt ⟨me,nw,dg,dd⟩ E B)(M:∀j,e6 me nu W (B j))(c:Int) :
  ∃t y,br S (Fz [.ref w,df E a k t0.D,.int c,.int s]) (.v .ay) t/\dN t i w b bt ⟨me,nw,dg+1,dd⟩ E y/\∀j,e6 me nu W (y j):=by
 refine bR λK=>?_
 obtain⟨p,Q,_,X,_⟩:=Ox hN (c / 30 % 10 ^ 45);obtain⟨l,h,R,z,u,F,hP⟩:=Oz (c / 30 % 60);have H:d9 (d5 l h):=⟨l,h,rfl,z,u,nh (n:=8) (xH 4 l F z.1) (xH 4 h hP u.1)⟩;obtain⟨f,aq,Z⟩:∃f:jD,b9 (aL (ak oEq (ak oMod (J 2) (aH 4)) (aH 1))) (b1 4 (bF (a7 (aK (.str "move")) (bC sA (bE (ak oMod (ak fG (J 2) (aH 30)) (aH 60))))))) bZ [.v (.ref w),.v (df E a k t0.D),.v (.int c),.v (.int s),.v p.D,.e]=pure (.bl [.v (.ref w),.v (df E a k t0.D),.v (.int c),.v (.int s),.v f.D,.e])/\tu d9 W f:=by
  by_cases q:c % 4=1
  .exact⟨.mv (d5 l h),(jn (dc (bN (jf.trans (by rw[decide_eq_true q])) (bN (gi (by decide)) rfl rfl) rfl))).trans (fL (Rj rfl (call_of (rs:=[.v (.int (c / 30 % 60))]) (cons_of (bN (gi (by decide)) (bN (j' (hO (by decide) (by decide))) rfl rfl) rfl) rfl) R))),⟨_,rfl⟩,H⟩
  .exact⟨.hC p,m4 (dc (bN (jf.trans (by rw[decide_eq_false q])) (bN (gi (by decide)) rfl rfl) rfl)),X⟩
 obtain⟨d,aC,Y⟩:∃d:jD,b9 (aL (ak oEq (ak oMod (J 2) (aH 8)) (aH 3))) (b1 4 (bF (bE (aK (.str "end"))))) bZ [.v (.ref w),.v (df E a k t0.D),.v (.int c),.v (.int s),.v f.D,.e]=pure (.bl [.v (.ref w),.v (df E a k t0.D),.v (.int c),.v (.int s),.v d.D,.e])/\tu d9 W d:=by
  by_cases q:c % 8=3
  .exact⟨.fin,(jn (dc (bN (jf.trans (by rw[decide_eq_true q])) (bN (gi (by decide)) rfl rfl) rfl))).trans rfl,trivial⟩
  .exact⟨f,m4 (dc (bN (jf.trans (by rw[decide_eq_false q])) (bN (gi (by decide)) rfl rfl) rfl)),Z⟩
 have o:=mod_lt (a:=c / 8) (b:=5) (by decide);have A:=mod_lt (a:=me+1+c / 8 % 5) (b:=6) (by decide);have G:(me+1+c / 8 % 5) % 6≠me:=by omega
 have g:=m.Hp (x':=⟨me,nw,dg+1,dd⟩);obtain⟨L,T,N,P,V⟩:=aav dq ea O g M A.1 A.2 G (by omega:1<=dg+1) Y (c / 40);refine K ⟨L,T,yA (U':=[.v (.ref w),.v (df E a k t0.D),.v (.int c),.v (.int s),.v d.D,.v (.int ((me+1+c / 8 % 5) % 6))]) rfl ?_,P,V⟩;refine c7 (U':=[.v (.ref w),.v (df E a k t0.D),.v (.int c),.v (.int s),.v p.D,.e]) (aA.to (.of (fL (call_of (rs:=[.v (.int (c / 30 % 10 ^ 45)),.v (.int s)]) (cons_of (bN (gi (by decide)) (bN (j' (hO (by decide) (by decide))) rfl rfl) (bN (Bc ⟨by decide,by decide,by decide⟩ rfl) rfl rfl)) rfl) Q)))) ?_;refine c7 (aA.to (.of aq)) (c7 (aA.to (.of aC)) ?_);refine c7 (Hu (k:=.inr "turn") (aA.to (b_ (x:=.v (.int dg)) (r:=.v (.int (dg+1))) rfl (m.get rfl rfl) (.of rfl))) rfl (.of rfl) (.of rfl) m.jx rfl (by show 5<1000;decide)) ?_;refine c7 (aA.to (iW (r:=.v (.int ((me+1+c / 8 % 5) % 6))) (b_ (x:=.v (.int (me+1+c / 8 % 5))) (gi (by decide)) (b_ (x:=.v (.int (me+1))) rfl (b_ (x:=.v (.int me)) rfl (g.get rfl rfl) (.of rfl)) (.of (bN (gi (by decide)) (bN (j' (hO (by decide) (by decide))) rfl rfl) rfl))) (.of rfl)) rfl)) ?_;exact tl (x_call (rs:=[.v (.ref b),.v (df E a k t0.D),.v (.int ((me+1+c / 8 % 5) % 6)),.v (.int (dg+1)),.v d.D,.v (.int (c / 40))]) (bJ (g.get rfl rfl) (bJ (.of rfl) (bJ (.of rfl) (bJ (g.get rfl rfl) (bJ (.of rfl) (bJ (.of (bN (j' (hO (by decide) (by decide))) rfl rfl)) dw)))))) rfl N)
end
def agA{S a:bL}{U:aJ}{mf:d0}{b:cW}{rs:List R}{ds:List D}{r:R}(h:aA S (b U) rs)(e:jc rs=pure ds)(q:br S (mf ds) r a):br S (yv mf (e5 b) U) r a:=(aA.to h).bind ((aA.of e).to.bind q)
abbrev iP(L:List D)(me s:Int)(i w:Nat)(a s6 s7:Slot):aJ:=[.cf L,.v (.int me),.v (.int s),.v (.ref i),.v (.ref w),a,s6,s7]
section
variable{W:List (List Nat)}(dq:W.length<59){s:Int}(hN:yX s W){me:Int}(m0:0<=me)(f9:me<6){i w b:Nat}
include dq hN m0 f9
theorem Ux{L:List D}{E:Nat}(ea:E<=100){nu dg:Int}(nd:0<=nu)(G8:0<=dg){qo:D}{S:bL}{B:Nat->cG}{bt:bH}(d3:∀j,e6 me nu W (B j))(V:dN S i w b bt ⟨me,nu,dg,qo⟩ E B)(C:mz me nu W E bt)(c:Int)(s5 s6 s7:Slot) :
  ∃K ee Z BA mI fN er GO nk,br S (E2 ((iP L me s i w s5 s6 s7).set 5 (.v (.int c)))) (.bl (iP L me s i w (.v (.int c)) GO nk)) K/\dN K i w b ee ⟨me,Z,BA,mI⟩ fN er/\mz me Z W fN ee/\(∀j,e6 me Z W (er j))/\0<=Z/\0<=BA/\fN<=E+2:=by
 refine bR λh=>?_
 obtain⟨f,hd,d2⟩:∃f:Option d4,(∀x,f=some x->jC d9 W x/\vD x.D)/\∀S:bL,aA S (b9 (aL (ak pC (ak oMod (J 5) (aH 4)) (aH 0))) (b1 6 (bC sz (a7 (ak oMod (ak fG (J 5) (aH 12)) (ak lC (aH 10) (aH 45))) (J 2)))) bZ (iP L me s i w (.v (.int c)) (.v .ay) s7)) (.bl (iP L me s i w (.v (.int c)) (.v (bg f)) s7)):=by
  refine bR λh=>?_
  by_cases q:c % 4 > 0
  .obtain⟨d,e,_,o,dd⟩:=Ox hN (c / 12 % 10 ^ 45)
   exact h ⟨some d,λx u=>by cases u;exact⟨o,dd⟩,λS=>iF (.of (dc (bN (wM.trans (by rw[decide_eq_true q])) (bN (gi (by decide)) rfl rfl) rfl))) (.of (fL (call_of (rs:=[.v (.int (c / 12 % 10 ^ 45)),.v (.int s)]) (cons_of (bN (gi (by decide)) (bN (j' (hO (by decide) (by decide))) rfl rfl) (bN (Bc ⟨by decide,by decide,by decide⟩ rfl) rfl rfl)) rfl) e)))⟩
  .exact h ⟨none,λx u=>(by cases u),λS=>fT (.of (dc (bN (wM.trans (by rw[decide_eq_false q])) (bN (gi (by decide)) rfl rfl) rfl))) (.of rfl)⟩
 have pre:∀{bd:b7}{aR:fe}{K:bL},br S (bd (iP L me s i w (.v (.int c)) (.v (bg f)) s7)) aR K->br S (bG (b4 (b1 6 (aK .ay))) (bG (b4 (b9 (aL (ak pC (ak oMod (J 5) (aH 4)) (aH 0))) (b1 6 (bC sz (a7 (ak oMod (ak fG (J 5) (aH 12)) (ak lC (aH 10) (aH 45))) (J 2)))) bZ)) bd) ((iP L me s i w s5 s6 s7).set 5 (.v (.int c)))) aR K:=λt=>c7 (U':=iP L me s i w (.v (.int c)) (.v .ay) s7) (aA.to (.of rfl)) (c7 (aA.to (d2 S)) t)
 obtain⟨g,A⟩:=V.gV;obtain⟨a,k,t0,dd,cc,r,st,o,aZ,km,ts,rfl,ga,eD,cH,pt,aV,hU⟩:=C;have O:Op me nu W a k t0:=⟨ga,eD,cH,pt,aV⟩;have EV:aA S (aL (e1 "Asker" "knows_over" xg (J 3) cO) (iP L me s i w (.v (.int c)) (.v (bg f)) s7)) cc:=b8 (iE A rfl rfl (Oh A));refine h ?_
 cases cc with
 |true=>
  exact⟨S,_,nu,dg,qo,E,B,_,_,pre (mu (aA.to EV) (aA.to (fT (jq (x:=true) (b8 (fb (rs:=[.v (.ref i),.v (bg f)]) (.of rfl) (adB hd A rfl)))) (.of rfl)))),V,⟨a,k,t0,dd,true,r,st,o,aZ,km,ts,rfl,ga,eD,cH,pt,aV,hU⟩,d3,nd,G8,by omega⟩
 |false=>
 refine bR λh=>?_
 obtain⟨H,m,C',B1,G,U,M,Y,Nf,R⟩:∃H m C' B1 G,br S (fA (gn (aL (ak oEq (ak oMod (ak fG (J 5) (aH 4)) (aH 3)) (aH 0)))) (i5 (ir AN (e5 (ck (J 3) (cy (J 4) (J 6) (ak oMod (ak fG (J 5) (aH 12)) (aH 64))))))) (b4 bZ) (iP L me s i w (.v (.int c)) (.v (bg f)) s7)) (.bl (iP L me s i w (.v (.int c)) (.v (bg f)) s7)) H/\dN H i w b G ⟨me,m,dg,C'⟩ E B1/\(∀j,e6 me m W (B1 j))/\nu<=m/\((mz me m W E G/\G.cc=false)\/(C'=bg f/\1<=m/\Op me m W a k t0/\∃g5,lT me m E a k t0 f G [] g5)):=by
  refine bR λh=>?_
  by_cases q:c / 4 % 3=0
  .obtain⟨H,G,B1,U,M,Y,R⟩:=ae3 hd dq m0 f9 nd (by omega) O hU d3 V (c / 12 % 64)
   refine h ⟨H,nu+1,_,B1,G,mu (aA.to (.of (dc (bN (jf.trans (by rw[decide_eq_true q])) (bN (gi (by decide)) (bN (j' (hO (by decide) (by decide))) rfl rfl) rfl) rfl)))) (tl (x_call (rs:=[.v (.ref i),.v (.ref w),.v (bg f),.v (.int (c / 12 % 64))]) (.of (cons_of rfl (cons_of rfl (cons_of rfl (cons_of (bN (gi (by decide)) (bN (j' (hO (by decide) (by decide))) rfl rfl) rfl) rfl))))) rfl U)),M,Y,by omega,?_⟩;refine bR λh=>?_
   rcases R with R|R
   .exact h (.inl R)
   .exact h (.inr ⟨rfl,by omega,O.mono (by omega),R⟩)
  .exact h ⟨S,nu,qo,B,_,mr (aA.to (.of (dc (bN (jf.trans (by rw[decide_eq_false q])) (bN (gi (by decide)) (bN (j' (hO (by decide) (by decide))) rfl rfl) rfl) rfl)))) rfl,V,d3,alx _,.inl ⟨⟨a,k,t0,dd,false,r,st,o,aZ,km,ts,rfl,ga,eD,cH,pt,aV,hU⟩,rfl⟩⟩
 have p:∀{F:bL}{Q:List D}{nM:bL},br F (uC [.ref i,.ref w,.l Q]) (.v (.az true)) nM->br F (fA (yC (yD (yv uC (e5 (cy (J 3) (J 4) (J 7)))))) (b4 (bA (aK (.az false)))) (b4 bZ) (iP L me s i w (.v (.int c)) (.v (bg f)) (.v (.l Q)))) (.bl (iP L me s i w (.v (.int c)) (.v (bg f)) (.v (.l Q)))) nM:=λ{F Q nM} t=>mr (agE (x:=true) (agy (agA (rs:=[.v (.ref i),.v (.ref w),.v (.l Q)]) (.of rfl) rfl t))) rfl
 have PW:∀{s7:Slot}{S:bL},aA S (ak oMod (ak fG (J 5) (aH 12)) (ak lC (aH 10) (aH 60)) (iP L me s i w (.v (.int c)) (.v (bg f)) s7)) (.v (.int (c / 12 % 10 ^ 60))):=λ{s7 S}=>b_ (x:=.v (.int (c / 12))) (y:=.v (.int (10 ^ 60))) (gi (by decide)) (.of (bN (j' (hO (by decide) (by decide))) rfl rfl)) (.of (bN (Bc ⟨by decide,by decide,by decide⟩ rfl) rfl rfl))
 obtain⟨g1,I⟩:=M.gV;rcases R with⟨R_,Gf⟩|⟨rfl,p1,n,g5,X⟩
 .obtain⟨a1,k1,G9,tS,ab9,T,cJ,q4,Wd,sk,ta,rfl,VW,V7,abZ,ac8,ad0,P8⟩:=R_
  have Gf:ab9=false:=Gf;subst Gf;have n:Op me m W a1 k1 G9:=⟨VW,V7,abZ,ac8,ad0⟩;obtain⟨aT,i7,dE,N,jj⟩:=Mv dq hN m0 f9 (by omega) G8 n M Y (c / 12 % 10 ^ 60);obtain⟨g2,P⟩:=N.gV;obtain⟨cU,t3,ti⟩:=JQ hd n N;obtain⟨F,Cn,B7,B0,ov,Hn,DV,DX,B3⟩:=LP dq m0 f9 (by omega:1<=m+1) (λx u=>(hd x u).1) (by omega) (n.mono (by omega)) (λj=>(jj j).mono (by omega)) (lT.asks (by omega:1<=T+1)) ti;exact h ⟨F,Cn,m+1,dg+1,_,B7,B0,_,_,pre (mr (aA.to EV) (c7 U (c7 (tl (x_call (rs:=[.v (.ref w),.v (df E a1 k1 G9.D),.v (.int (c / 12 % 10 ^ 60)),.v (.int s)]) (bJ (.of rfl) (bJ (iE I rfl rfl (u5 I)) (bJ PW (bJ (.of rfl) dw)))) rfl dE)) (c7 (U':=iP L me s i w (.v (.int c)) (.v (bg f)) (.v (.l []))) (aA.to (.of rfl)) (c7 (U':=iP L me s i w (.v (.int c)) (.v (bg f)) (.v (.l ((bX a1 k1).map (eT me (E:Nat) (T+1,me)))))) (mu (aA.to (b8 (b_ (by rw[calm_eq (.inl rfl),show(AS me m E a1 k1 G9 tS false T cJ q4 Wd sk ta).sg="calm" from rfl,beq_self_eq_true]) (iE P rfl rfl (vd P)) (.of rfl)))) (nC (x_call (rs:=[.v (.ref i),.v (.ref w),.v (bg f)]) (.of rfl) rfl t3) rfl)) (p ov)))))),Hn,B3,DV,by omega,by omega,DX⟩
 .generalize Vh:([]:List D)=HZ at X
  cases X with
  |asks bK=>exact h (absurd (amO.mp Vh.symm) (mS n.a n.k).ne)|@ring T cJ sg g2 sk ta av P8=>
   obtain⟨aT,i7,dE,N,jj⟩:=Mv dq hN m0 f9 (by omega) G8 n M Y (c / 12 % 10 ^ 60);obtain⟨g3,P⟩:=N.gV;obtain⟨F,Cn,B7,B0,ov,Hn,DV,DX,B3⟩:=LP dq m0 f9 p1 (λx u=>(hd x u).1) (by omega) n jj (lT.ring (st:=cJ) (g1:=g2) (km:=sk) (ts:=ta) av P8) N;have xu:(sg == "calm")=false:=by rcases av with rfl|rfl<;>rfl
   exact h ⟨F,Cn,m,dg+1,_,B7,B0,_,_,pre (mr (aA.to EV) (c7 U (c7 (tl (x_call (rs:=[.v (.ref w),.v (df E a k t0.D),.v (.int (c / 12 % 10 ^ 60)),.v (.int s)]) (bJ (.of rfl) (bJ (iE I rfl rfl (u5 I)) (bJ PW (bJ (.of rfl) dw)))) rfl dE)) (c7 (U':=iP L me s i w (.v (.int c)) (.v (bg f)) (.v (.l []))) (aA.to (.of rfl)) (c7 (mr (aA.to (b8 (b_ ((calm_eq (av.elim (λz=>.inr (.inl z)) λz=>.inr (.inr z))).trans (by show pure (R.v (.az (sg == "calm")))=_;rw[xu])) (iE P rfl rfl (vd P)) (.of rfl)))) rfl) (p ov)))))),Hn,B3,DV,by omega,by omega,DX⟩
end
def UN(ns:List Int)(a b:Nat):∃c:List Int,cutD (ns.map D.int) (some (a:Int)) (some (b:Int))=c.map D.int/\c.length<=b:=by
 unfold cutD;rw[d_.GR,d_.GR,<-List.map_drop,<-List.map_take];exact⟨_,rfl,by rw[amf];omega⟩
def aax(ns:List Int)(aG:ns.length<=63):∃r,(Fy [.l (ns.map D.int)]).run []=.ok (.v (.az true)) r:=by
 refine bR λq=>?_
 obtain⟨a,k,Z,H,K,_⟩:=Oz (ns.getD 0 0 % 600);have s:=mod_lt (a:=ns.getD 1 0) (b:=6) (by decide);obtain⟨W,Q,X⟩:=abk (ns.getD 2 0 % 512);obtain⟨cs,lh,lc⟩:=UN ns 3 15;have v5:=CU ns 0;have bM:=CU ns 1;have tJ:=CU ns 2;have aq:b1 1 (ak oMod (bC pk (a7 (J 0) (aH 1))) (aH 6)) [.cf (ns.map D.int),.e,.e,.e,.e,.e,.e,.e]=pure (.bl [.cf (ns.map D.int),.v (.int (ns.getD 1 0 % 6)),.e,.e,.e,.e,.e,.e]):=
  fL (bN (gi (by decide)) (call_of (rs:=[.cf (ns.map D.int),.v (.int 1)]) rfl bM) rfl)
 have aC:∀m:Slot,b1 2 (ak oMod (bC pk (a7 (J 0) (aH 2))) (aH 512)) [.cf (ns.map D.int),m,.e,.e,.e,.e,.e,.e]=pure (.bl [.cf (ns.map D.int),m,.v (.int (ns.getD 2 0 % 512)),.e,.e,.e,.e,.e]):=λ_=>
  fL (bN (gi (by decide)) (call_of (rs:=[.cf (ns.map D.int),.v (.int 2)]) rfl tJ) rfl)
 have cP:∀m O:Slot,ck (J 1) (bE (bC sA (bE (ak oMod (bC pk (a7 (J 0) (aH 0))) (aH 600))))) [.cf (ns.map D.int),.v (.int (ns.getD 1 0 % 6)),O,.e,.e,.e,.e,.e]=pure [.v (.int (ns.getD 1 0 % 6)),.v (d5 a k)]:=λ_ _=>
  cons_of rfl (cons_of (call_of (rs:=[.v (.int (ns.getD 0 0 % 600))]) (cons_of (bN (gi (by decide)) (call_of (rs:=[.cf (ns.map D.int),.v (.int 0)]) rfl v5) rfl) rfl) Z) rfl)
 generalize ns.getD 1 0 % 6=me at *;generalize ns.getD 2 0 % 512=seed at *;obtain⟨f,m,n,g,_⟩:=Zj [] me (d5 a k) rfl;have n:dM f 0 1 (xw me (d5 a k)):=n;have g:f.length=2:=g;have e_:br f (BL [.inr "me",.inr "books",.inr "number",.inr "turn",.inr "deed"] (nA (dI (J 1)) (nA (yw (.fR [])) (nA (dI (aH 0)) (nA (dI (aH 0)) (nA (dI (aK .ay)) mq))))) [.cf (ns.map D.int),.v (.int me),.v (.int seed),.v (.ref 0),.e,.e,.e,.e]) (.v (.ref (f++[ha.fR []]).length)) (f++[.fR []]++[.hP (lV.fs ⟨me,0,0,.ay⟩ f.length)]):=rfl;have u:(f++[ha.fR []]).length=3:=by rw[akh,g];rfl
 rw[u]at e_;have up:∀{y o},f[y]? = some o->(f++[ha.fR []]++[.hP (lV.fs ⟨me,0,0,.ay⟩ f.length)])[y]? = some o:=λe=>Fr.app (W:=[]) _ _ ak6 (Fr.app (W:=[]) _ _ ak6 e)
 have rj:dN (f++[ha.fR []]++[.hP (lV.fs ⟨me,0,0,.ay⟩ f.length)]) 0 3 2 (xw me (d5 a k)) ⟨me,0,0,.ay⟩ 0 λ_=>om:=⟨⟨1,up n.bD,up n.ls⟩,by have:=DL (S:=f++[ha.fR []]) (o:=.hP (lV.fs ⟨me,0,0,.ay⟩ f.length));rw[u,g]at this;rw[g];exact this,[],Fr.app (W:=[]) _ _ ak6 (by have:=DL (S:=f) (o:=.fR []);rw[g]at this;exact this),⟨λ_=>rfl,λ_ _ _=>rfl,[],rfl,am2,λ_ h=>nomatch h⟩⟩
 have F:mz me 0 W 0 (xw me (d5 a k)):=⟨a,k,J0,.ay,false,0,(0,0),.ay,[],0,.ay,rfl,H,K,TY W,alx _,rfl,alx _⟩;obtain⟨U',r,el,bt,nu,dg,dd,E,B,p,s6,s7,rfl,_⟩:=RU (b:=λd U=>E2 (U.set 5 (.v d))) (λj U w=>∃bt nu dg dd E B p s6 s7,U=iP (ns.map D.int) me seed 0 3 p s6 s7/\dN w 0 3 2 bt ⟨me,nu,dg,dd⟩ E B/\mz me nu W E bt/\(∀j,e6 me nu W (B j))/\0<=nu/\0<=dg/\E<=2*j) (cs.map D.int) 0 (iP (ns.map D.int) me seed 0 3 .e .e .e) _ ⟨_,0,0,_,0,_,_,_,_,rfl,rj,F,λ_=>Bb me 0 W,alx _,alx _,akf _⟩ (λj d U w i ⟨bt,nu,dg,dd,E,B,p,s6,s7,M,P,C,N,nd,t0,ea⟩=>by
  subst M;rw[akC]at i;have G:j<cs.length:=by
   by_cases c:j<cs.length
   .exact c
   .rw[List.getElem?_eq_none (by omega)]at i;cases i
  rw[akB G]at i;cases i;refine bR λq=>?_
  obtain⟨mE,T,kN,x,mI,Y,V,A,nk,t,R,j0,z,I,t',MB⟩:=Ux Q X s.1 s.2 (L:=ns.map D.int) (by omega) nd t0 N P C cs[j] p s6 s7;exact q ⟨_,mE,t,T,kN,x,mI,Y,V,_,A,nk,rfl,R,j0,z,I,t',by omega⟩)
 rw[<-lh]at el;refine q ⟨r,tm rfl ?_⟩;exact c7 (aA.of aq).to<|c7 (aA.of (aC _)).to<|c7 (U':=[.cf (ns.map D.int),.v (.int me),.v (.int seed),.v (.ref 0),.e,.e,.e,.e]) (nC (agC (S:=[]) (rs:=[.v (.int me),.v (d5 a k)]) (.of (cP .e _)) rfl m) rfl)<|c7 (nC e_ rfl)<|
  c7 (pR (EJ (.of (show zq (J 0) (tM (aH 3)) (tM (aH 15)) _=pure (.fr (cutD (ns.map D.int) (some 3) (some 15)))from rfl))) el) rfl
end gb
structure PySem.W.Fast:Prop where(te525139025024406834 te6245827011477806190 te10603128569724727859 te12594539636502591908 te10590203327622273629 te13183085794967872928 te7330215608951079915 te2238866632469199379 te9259841820418419271 te14647374582139527389 te14996712970633712735 te567576328656765506 te13247765370508431531 te4253886142560854426 te10471740898044571938 te14054517738361458287 te6088456856075395618 te9619963817524321574 te8502328651052073333 te16423066965619163337 te16485176095626284746 te17657668920759769961 te14024898499807611027 te3715477205567692941 te13029948933858807517 te8786808411210777252 te10965242070553986617 te14750998337594629784 te10987149750563517204 te16632759733433736561 te1994929315949635857 te8097625373414559246 te15525350632182771614 te6434507029816986243 te4645720165322872462 te12150824422935926221 te858599716598405765 te10118964602302166601 te17096201377046946993 te8494630767797741831 te14507909116006802167 te16888695443721073392 te10031900047283272948 te10534157979195243962 te3957545112638259137 te1044258423372692305 te15866369697911618270 te976897279499788599 te7448017086142444313 te11463289892375880888 te16284068025135694386 te9057983389292500255 te6924563347534947213 te219066786465768133 te17593914441869336301 te4879779637052402594 te16288526348300998231 te16731986501593965766 te17331323062847575288 te5360077910156006577 te14054819851476037995 te11102234240457077396 te13475477453678543562 te1967876747536319188 te1105317941689813472 te7679417905571452942 te7945427923145104971 te7511770938619706615 te18154424124760874826 te5211070082083475766 te8086343703323855929 te13617968319303001313 te3957290377101361949 te8960787206625474109 te10891472686894366056 te2089727934890120693 te16729137556162496724 te6754777255267073938 te6424858790851371942 te13642743907146866448 te8164876779854340145 te13152473305125634315 te10893208393650090205 te5954829022246517088 te5515823780303309784 te13099182925512883129 te12303119304950395242 te5762745422465502280 te4013400930189879410 te11892237446366599817 te8149620228299656785 te8807865140433988419 te3333445749752886475 te13455321316305002674 te3696687878311478144 te1517025057730309339 te3701841362722313194 te11388507576439634306 te9586146293794544010 te4366781043184721537 te8708257623648965095 te15006587469003837037 te6447371567575650172 te394882043980137687 te17246799734634451478 te9986724570502882148 te11529512668903062313 te11117837928894314795 te15753563898225155672 te7267164981241480491 te1036558337954021750 te3598211739301480355 te2499899518020428052 te13781594655873201878 te9617950010842679588 te6925818503341198151 te983382371095010667 te9177524467129295552 te17656950683349113426 te4892870393004615076 te6347240955666696892 te4093790154036700123 te5545285227790938063 te8628022418495546293 te2058245472091945691 te13244949453253278465 te6093568720418982406 te1861259103524108650 te13234973805247453291 te14387257517971278556 te10969917197715156988 te1796860036183718728 te2415691029234847939 te5625854723116100854 te1104877012037458822 te6569956965057251220 te4934538613654802291 te8627829913383935394 te4002586669663872389 te9708875553640653549 te14841846465766549175 te15884954037255195660 te3544503251418644501 te9566261091169470100 te17928392900612191727 te11158504442905976979 te10662798111786335874 te15766586120435721879 te14193781729684518304 te14599799013365908124 te13684124300502817320 te10849647279596156366 te8852210365168240659 te9494587415042779271 te2861942566287157000 te8021031324102997455 te4506941823447829902 te8352010495289215936 te17990538529989553092 te595363557056288934 te15569187454987592937 te10431708184708377773 te8273594600310691852 te14509671751989469454 te14371231511356272463 te3211537249540216974 te12670838207891759414 te17943740893650354370 te261260609166566604 te11416241659189860129 te1013959111313494439 te6710367196329077679 te4033769211992052643 te16307944457249644441 te7033815860764430289 te6556325453413896124 te18091644466489073229 te5060685674001573368 te15822319312183091492 te3389140903112556003 te1071460484091963943 te11433025554013527028 te3060583753392669054 te3153617614058725254 te590146819481777647 te3375473931927857389 te5971447670525186007 te4866409551273031560 te14776227671750753547 te7164368531787282830 te950011113327621317 te9277244411823387952 te17233066789329607472 te13984964774893262560 te11896385191747322412 te4309924962931833090 te17590017563575918161 te5573995122110334346 te1676427077899413160 te10835648461590238519 te7646591019037139206 te13145188441515726773 te11011468096246017342 te16637083530850926645 te16169147030627048991 te4811797929581914944 te15504789231587402342 te8300383191012963474 te14277327104943508776 te8234561221881508510 te4506624435673002580 te6853021555012499513 te14122837384295776435 te9365197581125121644 te16597951723088204729 te15417785407444561505 te4515585521997074731 te15826908678229816443 te6493094750002372203 te1205446850541468658 te2543691271783300132 te11559549162559928737 te16719828683392623833 te5113720925773493558 te15932033685856632097 te1666603082383144244 te10773407946922441216 te3755491933000548664 te11896105729027794941 te3034272025339056045 te17248338216872200333 te16394900930366795129 te14800520255967259274 te12799206157288081129 te2228956057543402997 te12676696624241191274 te16481558770650415341 te4698288006151283670 te6490861371809895003 te16931764503888932804 te9814634565334758703 te6990477754348492799 te12568930797376339435 te13451142786277158673 te3107011645163814511 te4253759022967792572 te2510984860548667226 te14094354758694152365 te9136052593550670449 te6016662788056295300 te7118502500499559273 te2785616908587003711 te12650795661206557211 te7361865959775598767 te4603292246630629446 te12379122376553014202 te13884687335252271576 te9089571753824104673 te12595478378297070983 te15876313922811159932 te5325266229042445110 te10090114792218588532 te2717054956680184552 te6811170260769937163 te3789459437485495895 te6465858636270600707 te3762841835894848130 te1015319924013089931 te8123173313361699506 te2440697839890355985 te4742887690595847492 te1390995362761892400 te13773895373459224531 te8974984684760460520 te17626516677029544059 te6779441206282442414 te3079567300511102732 te11687187663983194782 te15682881317897724651 te8791999518105517092 te16926903176956051772 te6882929887055171357 te5962993451330400598 te224022792185322400:True)
namespace PySem.W.Fast
noncomputable def zp:=PySem.Challenge.pw_oneslate_k36_over_and_on
noncomputable def zq:=zp.main.body
noncomputable def tw14141263179381990400:=(zq.drop 77).take 1
theorem te14141263179381990400:tw14141263179381990400=tw14141263179381990400:=rfl
noncomputable def tw3422649539482223808:=(zq.drop 103).take 2
theorem te3422649539482223808:tw3422649539482223808=tw3422649539482223808:=rfl
noncomputable def tw15049882570605185890:=(zq.drop 39).take 9
theorem te15049882570605185890:tw15049882570605185890=tw15049882570605185890:=rfl
noncomputable def tw17105118488307196427:=(zq.drop 13).take 1
theorem te17105118488307196427:tw17105118488307196427=tw17105118488307196427:=rfl
noncomputable def tw16336467641626036015:=(zq.drop 11).take 2
theorem te16336467641626036015:tw16336467641626036015=tw16336467641626036015:=rfl
noncomputable def tw6331302274523931824:=(zq.drop 62).take 8
theorem te6331302274523931824:tw6331302274523931824=tw6331302274523931824:=rfl
noncomputable def tw9962248937613906163:=(zq.drop 48).take 14
theorem te9962248937613906163:tw9962248937613906163=tw9962248937613906163:=rfl
noncomputable def tw5065643131343646324:=(zq.drop 91).take 12
theorem te5065643131343646324:tw5065643131343646324=tw5065643131343646324:=rfl
noncomputable def tw1289552092129232279:=(zq.drop 0).take 11
theorem te1289552092129232279:tw1289552092129232279=tw1289552092129232279:=rfl
noncomputable def tw6442122601289468506:=(zq.drop 78).take 13
theorem te6442122601289468506:tw6442122601289468506=tw6442122601289468506:=rfl
noncomputable def tw6664774779302640859:=(zq.drop 14).take 10
theorem te6664774779302640859:tw6664774779302640859=tw6664774779302640859:=rfl
noncomputable def tw5861546300790107643:PySem.Program:={zp with main:={zp.main with body:=([1,2,3,4,5,7,8,9,11,12,13,14,16,17,18,19,20,21,22,23,24,25,26,27,28,29,31,32,33,34,35,37,38,39,40,41,42,43,44,45,47,48,49,50,51,52,53,54,55,56,57,59,60,61,62,63,64,65,66,67,68,69,70,71,72,74,75,77,79,80,81,82,83,84,85,86,87,88,89,90,91,92,93,94,95,96,97,98,99,100,101,102,103,104]:List Nat).filterMap fun i=>zp.main.body[i]?}}
theorem te5861546300790107643:tw5861546300790107643=tw5861546300790107643:=rfl
noncomputable def tw13077764112018222941:=(zq.drop 24).take 15
theorem te13077764112018222941:tw13077764112018222941=tw13077764112018222941:=rfl
noncomputable def tw255775378625384958:=(zq.drop 70).take 7
theorem te255775378625384958:tw255775378625384958=tw255775378625384958:=rfl
end PySem.W.Fast
open PySem PySem.W PyProof.Rows
set_option maxHeartbeats 0 in
theorem PySem.Challenge.cw_oneslate_k36_over_and_on_holds : PySem.Challenge.rw_oneslate_k36_over_and_on.Holds := by
 w_on;o_law;k_head;(case hw=>w_witness2)
 k_fill
 refine aS.aft (l:=PySem.Challenge.rw_oneslate_k36_over_and_on) (k:=25) ["highest","with_cell","with_doing"] rfl rfl ⟨rfl,by decide,by decide⟩ ?ahn ?ahm (λw h Y=>PySem.W.km_in_of Y) ?F
 case ahn=>
  intro x ag
  repeat (rcases akq.mp ag with rfl|ag;· exact⟨_,rfl⟩)
  cases ag
 case ahm=>exact λp=>by kernel_rfl
 case F=>
  intro w mg fa h eA G w0
  have oU:aS.p2 (aB.hI eA) mg "Asker" gb.AZ:=by
   dsimp only[aB.hI]
   refine' aS.UB eA G ?a ?mj ?hd ?po ?pG ?mk ?EL ?na
   (case a=>k_is);(case mj=>k_is);(case hd=>k_is);(case po=>k_is);(case pG=>k_is);(case mk=>k_is);(case EL=>k_is)
   case na=>
    simp only[alo]
    repeat (refine⟨by k_is,?_⟩)
    exact λ_ h=>nomatch h
  have C3:aB.fM (aB.hI eA) mg "law" gb.x8 ["script"]:=by
   dsimp only[aB.hI]
   refine' aS.LL eA G ?a ?l ?c ?k (λ_ _ _ _ _ _=>aS.vl λ_=>rfl)
   (case a=>k_is);(case l=>k_is);(case c=>k_is);(case k=>k_is)
  letI:aB.a4:=aS.vh (aB.hI eA) ["highest","with_cell","with_doing"]
  have EH:aS.KTab PySem.Challenge.rw_oneslate_k36_over_and_on.prog w (aB.hI eA) mg "FORMS" gb.uq:=by
   dsimp only[aB.hI]
   refine' aS.aam eA G ?a ?s ?l ?k ?f
   (case a=>k_is);(case s=>decide);(case l=>k_is)
   case k=>
    intro e he
    repeat (rcases akq.mp he with rfl|he;· first|exact⟨"put",rfl,rfl⟩|exact⟨"add",rfl,rfl⟩|exact⟨"swap",rfl,rfl⟩|exact⟨"take",rfl,rfl⟩|exact⟨"renew",rfl,rfl⟩|exact⟨"free",rfl,rfl⟩|exact⟨"sure",rfl,rfl⟩|exact⟨"move",rfl,rfl⟩|exact⟨"end",rfl,rfl⟩)
    cases he
   case f=>exact⟨_,_,rfl,⟨_,rfl⟩,(aS.pe (xs:=["name","number"]) (by k_is) (by decide +kernel) (by exact⟨_,_,rfl,⟨_,_,rfl,rfl⟩⟩)),⟨_,_,rfl,⟨_,rfl⟩,(aS.pe (xs:=["name","number"]) (by k_is) (by decide +kernel) (by exact⟨_,_,rfl,⟨_,_,rfl,rfl⟩⟩)),⟨_,_,rfl,⟨_,rfl⟩,(aS.pe (xs:=["name","number","number"]) (by k_is) (by decide +kernel) (by exact⟨_,_,rfl,⟨_,_,rfl,⟨_,_,rfl,rfl⟩⟩⟩)),⟨_,_,rfl,⟨_,rfl⟩,(aS.pe (xs:=["fence"]) (by k_is) (by decide +kernel) (by exact⟨_,_,rfl,rfl⟩)),⟨_,_,rfl,⟨_,rfl⟩,(aS.pe (xs:=["fence"]) (by k_is) (by decide +kernel) (by exact⟨_,_,rfl,rfl⟩)),⟨_,_,rfl,⟨_,rfl⟩,(aS.pe (xs:=["fence"]) (by k_is) (by decide +kernel) (by exact⟨_,_,rfl,rfl⟩)),⟨_,_,rfl,⟨_,rfl⟩,(aS.pe (xs:=["fence","name","number"]) (by k_is) (by decide +kernel) (by exact⟨_,_,rfl,⟨_,_,rfl,⟨_,_,rfl,rfl⟩⟩⟩)),⟨_,_,rfl,⟨_,rfl⟩,(aS.pe (xs:=["hall"]) (by k_is) (by decide +kernel) (by exact⟨_,_,rfl,rfl⟩)),⟨_,_,rfl,⟨_,rfl⟩,(aS.pe (xs:=[]) (by k_is) (by decide +kernel) (by exact rfl)),rfl⟩⟩⟩⟩⟩⟩⟩⟩⟩
  have Bu:aS.vG PySem.Challenge.rw_oneslate_k36_over_and_on.prog w (aB.hI eA) mg "DOERS" gb.sZ:=by
   dsimp only[aB.hI]
   refine' aS.VG eA G ?a ?l ?k ?f
   (case a=>k_is);(case l=>k_is)
   case k=>
    intro e he
    repeat (rcases akq.mp he with rfl|he;· first|exact⟨"put",rfl,rfl⟩|exact⟨"add",rfl,rfl⟩|exact⟨"swap",rfl,rfl⟩|exact⟨"take",rfl,rfl⟩|exact⟨"renew",rfl,rfl⟩|exact⟨"free",rfl,rfl⟩|exact⟨"sure",rfl,rfl⟩|exact⟨"move",rfl,rfl⟩|exact⟨"end",rfl,rfl⟩)
    cases he
   case f=>
    simp only[alo]
    repeat (refine⟨⟨_,by k_is,by k_is⟩,?_⟩)
    exact λ_ h=>nomatch h
  have E1:=by
   refine' aS.Fo (x:="highest") (st:=gb.QB) (ln:=["highest","with_cell","with_doing"]) eA G ?sC ?bt ?lz ?hh ?dd ?xK ?aq ?aC ?cP ?e_ ?l0 ?oZ ?nn ?ii
   (case sC=>decide);(case bt=>k_is);(case lz=>k_is);(case hh=>exact rfl);(case dd=>k_is);(case xK=>exact rfl);(case aq=>exact rfl);(case aC=>exact rfl);(case cP=>exact rfl);(case e_=>exact rfl);(case l0=>exact rfl);(case oZ=>exact rfl);(case nn=>decide)
   case ii=>
    intro y a_ bT
    repeat (rcases akq.mp a_ with rfl|a_;· first|rfl|(refine' aS.FU ?bw ?cB bT;(case bw=>refine' aS.Bv ?a1 ?a2 ?gU ?jI ?oO;(case a1=>k_is);(case a2=>k_is);(case gU=>exact rfl);(case jI=>k_is);(case oO=>exact rfl));(case cB=>decide)))
    cases a_
  have E':=by
   refine' aS.Fo (x:="with_cell") (st:=gb.QC) (ln:=["highest","with_cell","with_doing"]) eA G ?sC ?bt ?lz ?hh ?dd ?xK ?aq ?aC ?cP ?e_ ?l0 ?oZ ?nn ?ii
   (case sC=>decide);(case bt=>k_is);(case lz=>k_is);(case hh=>exact rfl);(case dd=>k_is);(case xK=>exact rfl);(case aq=>exact rfl);(case aC=>exact rfl);(case cP=>exact rfl);(case e_=>exact rfl);(case l0=>exact rfl);(case oZ=>exact rfl);(case nn=>decide)
   case ii=>
    intro y a_ bT
    repeat (rcases akq.mp a_ with rfl|a_;· first|rfl|(refine' aS.FU ?bw ?cB bT;(case bw=>refine' aS.Bv ?a1 ?a2 ?gU ?jI ?oO;(case a1=>k_is);(case a2=>k_is);(case gU=>exact rfl);(case jI=>k_is);(case oO=>exact rfl));(case cB=>decide)))
    cases a_
  have Fb:=by
   refine' aS.Fo (x:="with_doing") (st:=gb.QD) (ln:=["highest","with_cell","with_doing"]) eA G ?sC ?bt ?lz ?hh ?dd ?xK ?aq ?aC ?cP ?e_ ?l0 ?oZ ?nn ?ii
   (case sC=>decide);(case bt=>k_is);(case lz=>k_is);(case hh=>exact rfl);(case dd=>k_is);(case xK=>exact rfl);(case aq=>exact rfl);(case aC=>exact rfl);(case cP=>exact rfl);(case e_=>exact rfl);(case l0=>exact rfl);(case oZ=>exact rfl);(case nn=>decide)
   case ii=>
    intro y a_ bT
    repeat (rcases akq.mp a_ with rfl|a_;· first|rfl|(refine' aS.FU ?bw ?cB bT;(case bw=>refine' aS.Bv ?a1 ?a2 ?gU ?jI ?oO;(case a1=>k_is);(case a2=>k_is);(case gU=>exact rfl);(case jI=>k_is);(case oO=>exact rfl));(case cB=>decide)))
    cases a_
  have Hr:∃C,aS.p5 (aB.hI eA) mg "Busy" C:=by
   dsimp only[aB.hI]
   refine' ⟨_,amK eA G ?a,?b⟩
   (case a=>k_is);(case b=>kernel_rfl)
  have Hs:∃C,aS.p5 (aB.hI eA) mg "NoDeed" C:=by
   dsimp only[aB.hI]
   refine' ⟨_,amK eA G ?a,?b⟩
   (case a=>k_is);(case b=>kernel_rfl)
  have Ht:∃C,aS.p5 (aB.hI eA) mg "Over" C:=by
   dsimp only[aB.hI]
   refine' ⟨_,amK eA G ?a,?b⟩
   (case a=>k_is);(case b=>kernel_rfl)
  have Hy:∃C,mg "Over"=some (.ref C)/\(∃B,mg "Over"=some (.ref B)/\PySem.W.exmOne (aB.hI eA) (.ref C) (.ref B)=some true):=by
   dsimp only[aB.hI]
   exact⟨_,amK eA G (by k_is),⟨_,amK eA G (by k_is),by kernel_rfl⟩⟩
  have kt:aB.vJ (aB.hI eA):=aB.aah _
  have R8:aS.HF mg:=by constructor<;>exact PySem.W.mg_none_of eA G (by k_is)
  refine aS.SK w0 C3 (λ_ _ _ _ _ _ _=>rfl) (λbase T1 f fd F=>aS.aat (gb.F' ⟨?_,?_,?_,?_,?_,?_,?_,?_,?_,?_,?_,?_,?_,?_,?_,?_,?_,?_,?_,?_,?_,?_,?_,?_,?_,?_,?_,?_,?_,?_,?_,?_,?_,?_,?_,?_,?_,?_,?_,?_,?_,?_,?_,?_,?_,?_,?_,?_,?_,?_,?_,?_,?_,?_,?_,?_,?_,?_,?_,?_,?_,?_,?_,?_,?_,?_,?_,?_,?_,?_,?_,?_,?_,?_,?_,?_,?_,?_,?_,?_,?_,?_,?_,?_,?_,C3,oU,?_,?_,Bu,EH,E1,E',Fb,T1,Hr,Hs,Ht,Hy,R8,kt⟩ F) gb.aax)
  all_goals first
  |(refine' ⟨_,amK eA G ?a,?b⟩;(case a=>k_is);(case b=>first|exact rfl|exact⟨_,rfl⟩))
  |((try dsimp only[aB.hI]);refine' ⟨aS.LL eA G ?a ?l ?c ?k (λ_ _ _ _ _ _=>by first|exact aS.Rz rfl|exact aS.vl λ_=>rfl|exact aS.yp λ_ _=>rfl|exact aS.yq λ_ _ _=>rfl|exact aS.Hh λ_ _ _ _=>rfl|exact aS.Hi λ_ _ _ _ _=>rfl|exact aS.Hj λ_ _ _ _ _ _=>rfl|exact aS.RA λ_ _ _ _ _ _ _=>rfl),aS.t4 (by kernel_rfl)⟩;(case a=>k_is);(case l=>k_is);(case c=>k_is);(case k=>k_is))
  |(dsimp only[aB.hI]at oU ⊢;refine' ⟨aS.U1 eA G oU ?a ?f ?i ?l ?c ?k (λ_ _ _ _ _ _=>by first|exact aS.vl λ_=>rfl|exact aS.yp λ_ _=>rfl|exact aS.yq λ_ _ _=>rfl|exact aS.Hh λ_ _ _ _=>rfl|exact aS.Hi λ_ _ _ _ _=>rfl|exact aS.Hj λ_ _ _ _ _ _=>rfl|exact aS.RA λ_ _ _ _ _ _ _=>rfl),aS.t4 (by kernel_rfl)⟩;(case a=>k_is);(case f=>k_is);(case i=>k_is);(case l=>k_is);(case c=>k_is);(case k=>k_is))
  |(dsimp only[aB.hI]at oU ⊢;refine' ⟨aS.U2 eA G oU ?a ?f ?i ?l ?t ?c ?k rfl (λ_ _ _ _ _ _=>by first|exact aS.vl λ_=>⟨_,rfl,rfl⟩|exact aS.yp λ_ _=>⟨_,rfl,rfl⟩|exact aS.yq λ_ _ _=>⟨_,rfl,rfl⟩) (λ_ _ _ _ _ _=>by first|exact aS.vl λ_=>⟨_,rfl,rfl⟩|exact aS.yp λ_ _=>⟨_,rfl,rfl⟩|exact aS.yq λ_ _ _=>⟨_,rfl,rfl⟩),aS.t4 (by kernel_rfl)⟩;(case a=>k_is);(case f=>k_is);(case i=>k_is);(case l=>k_is);(case t=>k_is);(case c=>k_is);(case k=>k_is))
