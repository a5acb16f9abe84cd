import PyProof.Rows.All
import Wide.All
import OpenK.AllK
import Wide.FinOn
import Lean
import PyProof.EqAt
import PyProof.EqKinds
import PyProof.TupleCall
import KE.KSortTup
import PyProof.ZipIter
import KE.KMinKey
import KE.KRevSl
import PyProof.Rows.EnumRows
import PyProof.EnumStmt
import KE.KIntText
import PySem.Challenge.RW_oneslate_k34_a_deed_ends
set_option Elab.async false
set_option linter.all false
set_option maxRecDepth 100000
set_option bootstrap.genMatcherCode false
open Array renaming length_toList->akh,getD_eq_getD_getElem?->anp,getElem?_toList->aom
open Bool renaming false_ne_true->ajx,and_eq_true->aj5,eq_iff_iff->akR,false_eq_true->alp
open False renaming elim->aj4
open ForInStep renaming yield->amV
open Int renaming le_refl->ami,emod_lt_of_pos->ank,fdiv_eq_ediv_of_nonneg->anu,toNat_natCast->anC,emod_nonneg->aoe
open List renaming length_map->ajm,getElem?_eq_some_iff->ajs,mem_cons->aju,mem_cons_of_mem->ajv,map_cons->ajw,mem_cons_self->ajy,length_append->ajz,size_toArray->ajB,length_cons->ajC,getElem?_set_ne->ajE,mem_singleton->ajH,range->ajI,getElem?_append_right->ajL,getElem?_append_left->ajR,getElem?_map->ajW,getD_eq_getElem?_getD->ajY,mem_append->aj2,getElem?_eq_getElem->aj8,mem_of_getElem?->aka,lookup_cons->akb,map_append->akd,mem_append_right->akf,mem_map->akg,find?_cons_of_neg->aki,length_set->akj,replicate->akk,getElem?_set_self->akm,nodup_cons->akn,length_nil->ako,find?_cons_of_pos->aks,mem_range->akt,append_nil->akv,length_drop->akw,length_replicate->aky,all_eq_true->akL,forall_mem_cons->akM,length->akN,zip_cons_cons->akT,not_mem_nil->akU,length_range->akY,mem_filter->akZ,lookup->ak1,map_map->ak4,any_cons->ak9,contains_iff_mem->alb,getElem?_replicate->alj,pairwise_cons->alo,find?_cons->als,toArray->alJ,mem_map_of_mem->alN,append_assoc->al1,length_singleton->al6,drop_drop->al7,length_take->amb,all_cons->amd,of_mem_zip->amk,getElem?_zip_eq_some->amm,zip_nil_left->amz,take_of_length_le->amD,take_length->amJ,map_fst_zip->amK,length_filter_le->amP,mem_append_left->amQ,length_zip->amX,filterMap_cons->am3,map_congr_left->am4,nodup_nil->am6,take_zero->am7,drop->anj,prefix_append->anl,zip_nil_right->anm,find?_eq_none->ano,take_add_one->anE,nodup_append->anF,pairwise_map->anG,pairwise_iff_getElem->anK,mem_of_find?_eq_some->anN,map_nil->anV,prefix_refl->anY,any_eq_true->an2,length_eq_zero_iff->an7,filter_cons_of_neg->an8,filter_cons_of_pos->an9,forIn_cons->aod,drop_eq_nil_of_le->aoi,length_pos_of_mem->aoj,take_nil->aos
open List.Nodup renaming length_le_of_subset->am2
open List.Pairwise renaming nil->anD
open Nat renaming le_refl->ajq,ne_of_lt->ajJ,zero_le->ajN,le_of_ble_eq_true->ajO,lt_of_lt_of_le->aj1,lt_irrefl->aj7,le_trans->akq,le_of_lt->akG,le_of_eq->ak2,le_succ->ak3,sub_self->aln,le_add_right->amc,not_lt_zero->amn,lt_succ_of_lt->amy,lt_succ_self->anS,zero_add->anW
open Ne renaming symm->amg
open Option renaming map_eq_some_iff->al0,bind_eq_some_iff->an5
open Option.some renaming inj->ajT,injEq->aoA
open Or renaming inr->akl,inl->alk
open PyProof.Rows renaming seqObj->aj3,envOfC->akx,slot_tuple_getitem->akz,IntsAre->akH,KeyOrd->ak0,get?_update_seq->alv,listUpdate_at->alQ,envOfC->al5,callWith_type1->al8,AllBare->amM,seqEpoch_at->anb,size_push'->anL,KeyKind->aop,strKind->aoq,gt_int->aot
open PySem renaming wpAny_bind->ajl,starEach->ajo,Shared->ajp,wpAny_pure->ajr,sizeLine->ajt,Program->ajF,Around->ajM,sizeLine_eq->ajP,assignEach->ajQ,backTo->ajS,mainGlobals->ajX,wpAny_mono->aj6,compareOp->aj9,foldedSetIterable->akc,bootBuiltins->ake,wpAny_seqItems->aku,FuncData->akA,wpAny_truthy_bool->akE,wpAny_holding->akF,keywordEach->akI,wpAny_field->akJ,swapsWith->akP,mem_of_lookup->akQ,wpAny_Call_Name_kw->akS,wpAny_tryCatch->akW,wpAny_callSpecial?_slot->akX,wpAny_letGo->ak5,sysModules->ak7,attributeBase->ak8,binaryOp->alc,backToKw->ald,holding->alf,wpAny_pyIter_list->alg,wpAny_newObj_type->alh,behindInMarks->ali,wpAny_setField_rec->alq,plainId_quiet->aly,rawInt->alz,getMethod->alC,bindArgs->alF,codeAny_mono->alG,wpAny_call_entry->alH,IsPair->alK,assign->alR,pyNext->alS,wpAny_pyIter_tuple->alT,closureFor->alU,seqItems?->alV,codeAny_builtin->alW,wpAny_updateSeq->alX,NameKind->alY,standAt->al2,codeAny->al4,callWith->ama,wpAny_newList->amf,sliceBounds->amh,wpAny_passesOwn->amj,Arguments->amr,getItem->amw,Keyword->amx,Paired->amA,richCompare->amE,richCompare_meets_room->amF,strKind->amI,codeAmong->amN,DictEntry->amO,letOwnedTupleGo->amS,IsPart->amT,wpAny_rule->amW,wpAny_updateSeq_pair->am0,Builtin->am9,tupleKind->ane,PassesOwn->anf,findBy->ang,tupleKind_room_in1->anh,wpAny_standAt->anz,wpAny_onRaise->anA,builtinsNs->anH,defaultsOf->anM,callerA->anQ,valueAt->anR,wpAny_forIn_list->an0,wpAny_execs_nil->aoa,TriplesOk->aoc,subscripted->aog
open PySem.Around renaming under_plainId->ale,under->aox
open PySem.AutoSeq1 renaming sub_tuple_tuple->amt
open PySem.BindsTo renaming of_defaults->aou
open PySem.Builtin renaming bitNot->akO,bitAnd->al3,bitOr->amH
open PySem.Builtin.Builtins renaming bindParams->alr
open PySem.Builtin.Int renaming intBits->akC,intTooBig->aol
open PySem.Builtin.List renaming listTooLong->ams
open PySem.Builtin.Slice renaming slicePlaces->alB,sliceAdjust->aml,sliceApplied->anv
open PySem.Builtin.SmallTypes renaming nextOf->akr,ownedTupleIsFree->akV,ownedTupleHandOut->amu
open PySem.Builtin.Str renaming occurrences->alP
open PySem.Builtin.Tuple renaming tupleExact->alI,tupleCompareSizes->alO,tupleItemsOf->anw
open PySem.Calls renaming callWith_builtin->alZ,spliced_cons->amq,evalArgs_plain->amU,Name_function_global->ant,spliced_nil->anB
open PySem.F renaming plain_max_loop->aj0,entry_max_loop->ak6,slot_dict_get->alu,slot_tuple_iterator_next->alx,slot_list_append->alL,type_list_append->alM,entry_dict_get->amB,slot_zip_next->amZ,args_tuple_iterator_next_1->ana,entry_tuple_iterator_next->anq,slot_dict_getitem->anJ,args_dict_get_3->an3,plainAttrs_dict->an4,plainAttrs_list->an6,type_dict_get->aok
open PySem.Heap renaming get?_push_of_some->ajn,get?_push_size->ajA,lt_size->ajD,get?_push_ne->alA,size_push->alE,SameBut->amR,size_update->anZ,IsTuple->an1,get?_update_other->aoh
open PySem.Heap.IsTuple renaming push->aoB
open PySem.Heap.SameBut renaming update->akD
open PySem.NameKind renaming free->ame,cell->anx
open PySem.Obj renaming mapSeq->ajZ
open PySem.Paired renaming length->aor
open PySem.PassesOwn renaming never->am1
open PySem.PyData renaming strOk->ajK,eqv->aon
open PySem.SeqAt renaming shaped->aoz
open PySem.SeqAt.EqAt renaming int_str->aov,str_int->aow,int_int->aoy
open PySem.Shared renaming heap->amG
open PySem.Str renaming ofString->ajG
open PySem.Value renaming ref->ajU,isStrOf->akp,none->akB,bool->al9,type->amv,int->amL,notImplemented->amY,str->anc
open PySem.W renaming mg_none_of->ajV,fnOf->ala,keepIn->alm,findIn->alw,emptyDict->alD,instObj->amo,nsIn->amC,codeIn->am5,mg_of->am8,kia_one->ani,kia_tup->anr,plainGet->anI,callWith_K->anT,cellsFrom_some->anU,methodCall_KW->aob,hasDictIn->aof
open PySem.Walks renaming list->aoo
open Sum renaming inl->anO,inr->anP
open True renaming intro->akK
abbrev aS:=PySem.W.Frag
abbrev bt:=PySem.Str->Option PySem.Value
abbrev cF:=PySem.Value->PySem.Shared->Prop
abbrev cX:=List (PySem.Addr×PySem.Obj)
noncomputable section
namespace aF
open PySem PySem.Spec PyProof.Rows
abbrev Key:=Sum Int Str
def sD:Key->Value->Bool
 |.inl k,v=>Value.isInt k v|.inr x,v=>akp x v
def YU(w:World):Key->Int
 |.inl k=>hashInt k|.inr x=>hashStr w x
def ot:∀{k:Key}{v:Value},sD k v=true->(∃i t,k=anO i/\v=amL i t)\/(∃x t,k=anP x/\v=anc x t)
 |.inl i,v,h=>by
  obtain⟨t,e⟩:=Value.isInt_shape (k:=i) (v:=v) h;exact .inl ⟨i,t,rfl,e⟩
 |.inr x,v,h=>by
  obtain⟨t,e⟩:=Value.isStrOf_shape (x:=x) (v:=v) h;exact .inr ⟨x,t,rfl,e⟩
def YV(i:Int)(t:Tok):sD (.inl i) (.int i t)=true:=by simp[sD,Value.isInt]
def YW(x:Str)(t:Tok):sD (.inr x) (.str x t)=true:=by simp[sD,akp]
def YX(a b:Int):decide ((anO a:Key)=anO b)=(a==b):=by
 by_cases e:a=b
 .subst e;simp
 .have h:¬(anO a:Key)=anO b:=λq=>e (Sum.inl.inj q)
  rw[decide_eq_false h];exact(beq_eq_false_iff_ne.mpr e).symm
def Y0(a b:Str):decide ((anP a:Key)=anP b)=decide (a=b):=by
 by_cases e:a=b
 .subst e;simp
 .have h:¬(anP a:Key)=anP b:=λq=>e (Sum.inr.inj q)
  rw[decide_eq_false h,decide_eq_false e]
def YY(a:Int)(b:Str):decide ((anO a:Key)=anP b)=false:=decide_eq_false (λq=>nomatch q)
def YZ(a:Str)(b:Int):decide ((anP a:Key)=anO b)=false:=decide_eq_false (λq=>nomatch q)
def i1(prog:ajF)(w:World):KeyKind prog w Key where
 is:=sD
 hash:=YU w
 inj:=λv a b aq ab=>by
  rcases ot aq with⟨i,t,rfl,rfl⟩|⟨x,t,rfl,rfl⟩
  .rcases ot ab with⟨j,u,rfl,e⟩|⟨y,u,rfl,e⟩
   .injection e with ao _;rw[ao]
   .exact nomatch e
  .rcases ot ab with⟨j,u,rfl,e⟩|⟨y,u,rfl,e⟩
   .exact nomatch e
   .injection e with ao _;rw[ao]
 byValue:=λk v h=>by
  rcases ot h with⟨i,t,rfl,rfl⟩|⟨x,t,rfl,rfl⟩<;>rfl
 pyHash:=λbI h=>by
  rcases ot bI with⟨i,t,rfl,rfl⟩|⟨x,t,rfl,rfl⟩
  .exact wpAny_pyHash_int h
  .exact wpAny_pyHash_str h
 eqBool:=λcx bI h=>by
  rcases ot cx with⟨i,t,rfl,rfl⟩|⟨x,t,rfl,rfl⟩
  .rcases ot bI with⟨j,u,rfl,rfl⟩|⟨y,u,rfl,rfl⟩
   .rw[YX]at h;exact wpAny_eqBool_int h
   .rw[YY]at h;exact aov i t y u _ _ _ _ h
  .rcases ot bI with⟨j,u,rfl,rfl⟩|⟨y,u,rfl,rfl⟩
   .rw[YZ]at h;exact aow x t j u _ _ _ _ h
   .rw[Y0]at h;exact wpAny_eqBool_str h
 «strs»:=λk x t v h=>by
  rcases ot h with⟨i,u,rfl,e⟩|⟨y,u,rfl,e⟩
  .exact nomatch e
  .injection e with ao _
   subst ao;cases v<;>rfl
def ZR(prog:ajF)(w:World)(i:Int)(t:Tok):(i1 prog w).is (.inl i) (.int i t)=true:=YV i t
def ZS(prog:ajF)(w:World)(x:Str)(t:Tok):(i1 prog w).is (.inr x) (.str x t)=true:=YW x t
inductive V where
 |aQ|aE (b:Bool)|int (i:Int)|str (x:Str)|xr (b:Array UInt8)|xU (b:UInt64)|ref (a:Addr)|ty (n:String)
 deriving DecidableEq
def RelV:V->Value->Prop
 |.aQ,u=>u=akB|.aE b,u=>u=al9 b|.int i,u=>∃t,u=amL i t|.str x,u=>∃t,u=anc x t|.xr b,u=>∃t,u=Value.bytes b t|.xU b,u=>∃t,u=Value.float b t|.ref a,u=>u=ajU a|.ty n,u=>u=amv n
abbrev Vals:List V->List Value->Prop:=amA RelV
def Vals.length{xs:List V}{us:List Value}(r:Vals xs us):xs.length=us.length:=aor r
theorem Vals.get:∀{xs:List V}{us:List Value}{i:Nat}{x:V},Vals xs us->xs[i]? = some x->∃u,us[i]? = some u/\RelV x u
 |_,_,_,_,.nil,e=>by simp at e| _,_,0,_,.cons r _,e=>by simp at e;subst e;exact⟨_,rfl,r⟩|_,_,i+1,x,.cons _ t,e=>by
  obtain⟨u,af,ah⟩:=Vals.get (i:=i) (x:=x) t (by simpa using e);exact⟨u,by simpa using af,ah⟩
theorem Vals.append:∀{xs ys:List V}{us ws:List Value},Vals xs us->Vals ys ws->Vals (xs++ys) (us++ws)
 |_,_,_,_,.nil,s=>s|_,_,_,_,.cons r t,s=>.cons r (Vals.append t s)
theorem Vals.take:∀{xs:List V}{us:List Value}(n:Nat),Vals xs us->Vals (xs.take n) (us.take n)
 |_,_,0,_=>.nil|_,_,_+1,.nil=>.nil|_,_,n+1,.cons r t=>.cons r (Vals.take n t)
theorem Vals.drop:∀{xs:List V}{us:List Value}(n:Nat),Vals xs us->Vals (xs.drop n) (us.drop n)
 |_,_,0,r=>r|_,_,_+1,.nil=>.nil|_,_,n+1,.cons _ t=>Vals.drop n t
def iA:Option V->Option Value->Prop
 |some v,some u=>RelV v u|none,none=>True|_,_=>False
def gc{κ:Type}:List (κ×V)->List (κ×Value)->Prop:=amA λ(p:κ×V) (q:κ×Value)=>p.1=q.1/\RelV p.2 q.2
def cB:Key->V
 |.inl i=>.int i|.inr x=>.str x
inductive gM where
 |lst (xs:List V)
 |tup (xs:List V)
 |fl (ai:List (Key×V))|hB (ai:List (List Key×V))
 |set (S:Int->Bool) (n:Nat)
 |ins (C b8:Addr) (aZ:List (Str×V))
 |own (x:Addr)
 |Ff (aZ:List (Str×V))
 |met (f x:Addr)
 |v7 (lo aA:Int)
 |cj (o:Obj) (u:gM)
 |gp (ps:Array Value)
 |ext (ql:Heap->Prop)
abbrev aw:=Addr->Option gM
def upd(H:aw)(a:Addr)(o:gM):aw:=λb=>if b=a then some o else H b
def dx:upd H a o a=some o:=by unfold upd;rw[if_pos rfl]
def df{H:aw}(h:b≠a):upd H a o b=H b:=by unfold upd;rw[if_neg h]
def afa:upd (upd H a o) a u=upd H a u:=by
 funext b;unfold upd;split<;>rfl
def DF{H:aw}(h:H a=some o)(h':H b=some u)(d:o≠u):a≠b:=by
 intro e;subst e;rw[h]at h';exact d (ajT h')
def j'{H:aw}(h:H a=some o)(h':H b=none):a≠b:=by
 intro e;subst e;rw[h]at h';cases h'
section
variable(P:ajF)(w:World)
def gN(H:aw)(h:Heap)(a:Addr):gM->Prop
 |.lst xs=>xs.length<=ajt/\∃(its:List Value)(n:Nat),Vals xs its/\h.get? a=some { cls:=.type "list",data:=.seq its.toArray n }|.tup xs=>xs.length<=ajt/\∃its:List Value,Vals xs its/\IsTup h a its.toArray|.fl ai=>ai.length<=ajt/\(a==ak7)=false/\∃vs,gc ai vs/\h.DictOf (i1 P w) a vs|.hB ai=>ai.length<=ajt/\(a==ak7)=false/\∃xs:List (List Key×Addr×Value),
   amA (λ(p:List Key×V) (q:List Key×Addr×Value)=>p.1=q.1/\H q.2.1=some (.tup (p.1.map cB))/\RelV p.2 q.2.2) ai xs/\
   ∃o ay cM,h.get? a=some o/\o.ExactDict/\o.data=.dict ay cM/\ay.toList=xs.map (entryOfKey (ane (i1 P w)))/\(xs.map (·.1)).Nodup
 |.set S n=>h.SetOf (intKind P w) a S n|.ins C b8 aZ=>H b8=some (.own a)/\aZ.length<=1000/\b8≠a/\h.get? a=some (amo C b8)/\
   ∃eo,h.Ns1 b8 eo/\(∀f,iA (aZ.lookup f) (eo f))/\Within eo (aZ.map (·.1))
 |.own _=>∃o,h.get? a=some o|.Ff aZ=>∃eo,h.Ns1 a eo/\∀f,iA (aZ.lookup f) (eo f)|.v7 lo aA=>∃t u v,h.get? a=some { cls:=.type "range",data:=.fields #[.int lo t,.int aA u,.int 1 v] }|.cj o u=>h.get? a=some o/\gN H h a u|.gp ps=>h.get? a=some { cls:=.none,data:=.fields ps }|.met f x=>h.get? a=some (W.methodObj (.ref f) (.ref x))|.ext ql=>ql h/\(∃o,h.get? a=some o)/\∀af ah:Heap,ql af->(∀o,af.get? a=some o->ah.get? a=some o)->ql ah
def fh(H:aw)(h:Heap):Prop:=∀a o,H a=some o->gN P w H h a o
end
section
variable{P:ajF}{w:World}{H H':aw}{h h':Heap}{a:Addr}{o:gM}
def gN.lt(x:gN P w H h a o):a<h.objs.size:=by
 cases o with
 |lst xs=>obtain⟨_,_,_,_,e⟩:=x;exact ajD e
 |tup xs=>obtain⟨_,_,_,p⟩:=x;exact p.lt
 |fl ai=>obtain⟨_,_,_,_,o,_,_,e,_⟩:=x;exact ajD e
 |hB ai=>obtain⟨_,_,_,_,o,_,_,e,_⟩:=x;exact ajD e
 |set S n=>obtain⟨o,_,_,_,e,_⟩:=x;exact ajD e
 |ins C b8 aZ=>obtain⟨_,_,_,e,_⟩:=x;exact ajD e
 |own y=>obtain⟨_,e⟩:=x;exact ajD e
 |Ff aZ=>obtain⟨_,⟨_,_,_,e,_⟩,_⟩:=x;exact ajD e
 |v7 lo aA=>obtain⟨_,_,_,e⟩:=x;exact ajD e
 |cj bC u=>obtain⟨e,_⟩:=x;exact ajD e
 |gp ps=>exact ajD (show h.get? a=some _ from x)|met f y=>exact ajD (show h.get? a=some _ from x)|ext ql=>obtain⟨_,⟨_,e⟩,_⟩:=x;exact ajD e
theorem amA.Dw{α β:Type}{F G:α->β->Prop}:∀{pQ:List α}{l₂:List β},amA F pQ l₂->(∀a b,F a b->G a b)->amA G pQ l₂
 |_,_,.nil,_=>.nil|_,_,.cons r t,f=>.cons (f _ _ r) (amA.Dw t f)
def gN.rq(x:gN P w H h a o)(k:∀b u,(b=a\/H b=some (.own a))->h.get? b=some u->h'.get? b=some u)
  (bg:∀b,H b=some (.own a)->H' b=some (.own a)) (bO:∀b xs,H b=some (.tup xs)->H' b=some (.tup xs)):gN P w H' h' a o:=by
 induction o with
 |lst xs=>obtain⟨z,its,n,r,e⟩:=x;exact⟨z,its,n,r,k _ _ (.inl rfl) e⟩
 |tup xs=>obtain⟨z,its,r,bC,e,c⟩:=x;exact⟨z,its,r,bC,k _ _ (.inl rfl) e,c⟩
 |fl ai=>obtain⟨z,y,vs,r,bC,ay,cM,e,c⟩:=x;exact⟨z,y,vs,r,bC,ay,cM,k _ _ (.inl rfl) e,c⟩
 |hB ai=>
  obtain⟨z,y,xs,r,bC,ay,cM,e,c⟩:=x;exact⟨z,y,xs,amA.Dw r λp q z=>⟨z.1,bO _ _ z.2.1,z.2.2⟩,bC,ay,cM,k _ _ (.inl rfl) e,c⟩
 |set S n=>obtain⟨bC,ay,cM,t,e,c⟩:=x;exact⟨bC,ay,cM,t,k _ _ (.inl rfl) e,c⟩
 |ins C b8 aZ=>
  obtain⟨d,z,ne,e,eo,⟨c3,ay,cM,az,c⟩,r⟩:=x;exact⟨bg _ d,z,ne,k _ _ (.inl rfl) e,eo,⟨c3,ay,cM,k _ _ (.inr d) az,c⟩,r⟩
 |own y=>obtain⟨bC,e⟩:=x;exact⟨bC,k _ _ (.inl rfl) e⟩
 |Ff aZ=>obtain⟨eo,⟨c3,ay,cM,e,c⟩,r⟩:=x;exact⟨eo,⟨c3,ay,cM,k _ _ (.inl rfl) e,c⟩,r⟩
 |v7 lo aA=>obtain⟨t,u,v,e⟩:=x;exact⟨t,u,v,k _ _ (.inl rfl) e⟩
 |cj bC u a8=>obtain⟨e,q⟩:=x;exact⟨k _ _ (.inl rfl) e,a8 q⟩
 |gp ps=>
  have e:h.get? a=some { cls:=.none,data:=.fields ps }:=x;show h'.get? a=some { cls:=.none,data:=.fields ps };exact k a _ (.inl rfl) e
 |met f y=>
  have e:h.get? a=some (W.methodObj (.ref f) (.ref y)):=x;show h'.get? a=some (W.methodObj (.ref f) (.ref y));exact k a _ (.inl rfl) e
 |ext ql=>obtain⟨p,⟨o,e⟩,st⟩:=x;exact⟨st _ _ p λo q=>k _ _ (.inl rfl) q,⟨o,k _ _ (.inl rfl) e⟩,st⟩
def fh.lt(x:fh P w H h)(e:H a=some o):a<h.objs.size:=(x a o e).lt
def fh.fresh(x:fh P w H h)(e:h.objs.size<=a):H a=none:=by
 cases q:H a with
 |none=>rfl|some u=>exact absurd (aj1 (x.lt q) e) (aj7 _)
theorem fh.kept(x:fh P w H h)(k:∀b u,h.get? b=some u->h'.get? b=some u):fh P w H h':=λa o e=>
 (x a o e).rq (λb u _ q=>k b u q) (λ_ q=>q) λ_ _ q=>q
def fh.laid(x:fh P w H h)(k:∀b u,h.get? b=some u->h'.get? b=some u)(aH:h.objs.size<=a)(new:gN P w (upd H a o) h' a o):fh P w (upd H a o) h':=λb u e=>by
 have aG:=x.fresh aH
 by_cases ab:b=a
 .subst ab;rw[dx]at e;cases e;exact new
 .rw[df ab]at e
  exact(x b u e).rq (λc v _ q=>k c v q) (λc q=>by rw[df (j' q aG)];exact q) λc xs q=>by rw[df (j' q aG)];exact q
end
def f3(H:aw)(a:Addr)(u:gM):Prop:=H a=some u\/∃o,H a=some (.cj o u)
def f3.ok(r:f3 H a u)(x:fh P w H h):gN P w H h a u:=by
 rcases r with r|⟨o,r⟩
 .exact x a u r
 .obtain⟨_,q⟩:=x a _ r
  exact q
def tT:Option gM->Prop
 |some (.lst _)=>True|some (.fl _)=>True|some (.hB _)=>True|some (.set _ _)=>True|some (.ins _ _ _)=>True|some (.ext _)=>True|_=>False
section
variable{P:ajF}{w:World}{H:aw}{h h':Heap}{x e:Addr}{o':gM}
def fh.write(ok:fh P w H h)(j_:tT (H x))(he:e=x\/H e=some (.own x))(k:∀b u,b≠e->h.get? b=some u->h'.get? b=some u)(so:∃u,h'.get? e=some u)
  (new:gN P w (upd H x o') h' x o'):fh P w (upd H x o') h':=λb u q=>by
 have LM:∀c y,H c=some (.own y)->c≠x:=λc y r z=>by subst z;rw[r]at j_;exact j_
 have aak:∀c xs,H c=some (.tup xs)->c≠x:=λc xs r z=>by subst z;rw[r]at j_;exact j_
 by_cases ab:b=x
 .subst ab;rw[dx]at q;cases q;exact new
 .rw[df ab]at q
  by_cases qK:b=e
  .have fp:H b=some (.own x):=by
    rcases he with z|z
    .exact absurd (qK.trans z) ab
    .rw[qK];exact z
   rw[q]at fp;cases fp;obtain⟨v,bI⟩:=so;exact⟨v,by rw[qK];exact bI⟩
  .refine(ok b u q).rq (λc v aI r=>k c v ?_ r) (λc r=>by rw[df (LM c b r)];exact r) λc xs r=>by rw[df (aak c xs r)];exact r
   rcases aI with rfl|aI
   .exact qK
   .rintro rfl
    rcases he with z|z
    .exact LM c b aI z
    .rw[aI]at z;cases z;exact ab rfl
end
structure gP(aZ ex:List Addr)(H H':aw)(h h':Heap):Prop where
 keep:∀b o,h.get? b=some o->H b=none->b∉aZ->b∉ex->h'.get? b=some o
 slot:∀b o,h.get? b=some o->H b=none->b∈aZ->b∉ex->∃cN,h'.get? b=some { o with slots:=cN }
 free:∀b o,h.get? b=some o->H b=none->b∉ex->H' b=none
 there:∀b o,h.get? b=some o->b∉ex->∃o',h'.get? b=some o'
 qc:∀b xs,H b=some (.tup xs)->H' b=some (.tup xs)
 n5:∀b o u,H b=some (.cj o u)->H' b=some (.cj o u)
 oM:∀b ps,H b=some (.gp ps)->∃more,H' b=some (.gp (ps++more))
section
variable{aZ ex:List Addr}{H H1:aw}{h af h':Heap}{a x e:Addr}{o:gM}
def gP.any(u:gP aZ ex H H1 h af)(q:h.get? b=some bC)(n:H b=none)(ag:b∉ex):∃cN,af.get? b=some { bC with slots:=cN }:=by
 by_cases ab:b∈aZ
 .exact u.slot b bC q n ab ag
 .exact⟨bC.slots,u.keep b bC q n ab ag⟩
def gP.kept(k:∀b u,h.get? b=some u->h'.get? b=some u):gP aZ ex H H h h':=
 ⟨λb bC q _ _ _=>k b bC q,λb bC q _ _ _=>⟨bC.slots,k b bC q⟩,λ_ _ _ n _=>n,λb bC q _=>⟨bC,k b bC q⟩,λ_ _ q=>q,λ_ _ _ q=>q,λ_ ps q=>⟨#[],by rw[q];simp⟩⟩
def gP.refl:gP aZ ex H H h h:=gP.kept λ_ _ q=>q
def gP.laid(k:∀b u,h.get? b=some u->h'.get? b=some u)(aH:h.objs.size<=a)(aG:H a=none):gP aZ ex H (upd H a o) h h' where
 keep:=λb u q _ _ _=>k b u q
 slot:=λb u q _ _ _=>⟨u.slots,k b u q⟩
 free:=λb u q n _=>by rw[df (ajJ (aj1 (ajD q) aH))];exact n
 there:=λb u q _=>⟨u,k b u q⟩
 qc:=λb xs q=>by rw[df (j' q aG)];exact q
 n5:=λb u xs q=>by rw[df (j' q aG)];exact q
 oM:=λb ps q=>⟨#[],by rw[df (j' q aG),q];simp⟩
def gP.write(j_:tT (H x))(he:e=x\/H e=some (.own x))(k:∀b u,b≠e->h.get? b=some u->h'.get? b=some u)(so:∃u,h'.get? e=some u):gP aZ ex H (upd H x o) h h':=by
 have ag:∀b,H b=none->b≠x:=λb n z=>by subst z;rw[n]at j_;exact j_
 have ab:∀b,H b=none->b≠e:=λb n z=>by
  subst z;rcases he with r|r
  .exact ag b n r
  .rw[n]at r;cases r
 have hm:∀b u,H b=some u->¬tT (some u)->b≠x:=λb u q nm z=>by subst z;rw[q]at j_;exact nm j_
 refine⟨λb u q n _ _=>k b u (ab b n) q,λb u q n _ _=>⟨u.slots,k b u (ab b n) q⟩,λb u q n _=>by rw[df (ag b n)];exact n,λb u q _=>?_,
  λb xs q=>by rw[df (hm b _ q λz=>z)];exact q,λb u xs q=>by rw[df (hm b _ q λz=>z)];exact q,λb ps q=>⟨#[],by rw[df (hm b _ q λz=>z),q];simp⟩⟩
 by_cases qK:b=e
 .subst qK;exact so
 .exact⟨u,k b u qK q⟩
end
def zX(h:Heap)(H:aw):List Addr:=(ajI h.objs.size).filter λa=>(H a).isSome
def ob(h:Heap)(H:aw):Heap:=W.hideAll h (zX h H)
def Xz(h:Heap)(H:aw):(ob h H).objs.size=h.objs.size:=W.hideAll_size _ _
def Cq{h:Heap}{H:aw}(e:h.get? b=some o)(n:H b=none):(ob h H).get? b=some o:=
 W.hideAll_get _ e λhm=>by
  have q:(H b).isSome=true:=(akZ.mp hm).2;rw[n]at q;simp at q
def aar{h:Heap}{H:aw}(e:(ob h H).get? b=some o):h.get? b=some o/\H b=none:=by
 have cz:h.get? b=some o:=W.of_hideAll (zX h H) e;refine⟨cz,?_⟩
 cases q:H b with
 |none=>rfl|some x=>
  have hm:b∈zX h H:=akZ.mpr ⟨akt.mpr (ajD cz),by simp[q]⟩;have z:(ob h H).get? b=none:=W.hideAll_none (zX h H) hm;rw[z]at e;cases e
def PZ(g h:Heap)(L:Addr):List (Addr×Obj):=(ajI h.objs.size).filterMap λa=>if a=L\/(g.get? a).isSome=true then none else(h.get? a).map λo=>(a,o)
def rest(g h:Heap)(L d:Addr):List (Addr×Obj):=(PZ g h L).filter λp=>decide (p.1≠d)
structure Mod(K:aS)(mg:bt)(base:Heap):Prop where
 sE:K.In base
 glob:base.Ns ajX mg
 blt:∃c_,base.Ns anH c_/\∀x:Str,x≠"__name__"->c_ x=ake x
 nolimit:base.NoLimit
structure aU where
 prog:ajF
 w:World
 K:aS
 mg:Str->Option Value
 base:Heap
 A:ajM
 N:List Str
 g8:ajp
 H₀:aw
 env:Env
 outer:List Env
 stack:List Env
 ex:List Addr
 fn:Str->Bool
 calm:Bool
 lD:List (Addr×Obj)
 dU:Value->ajp->Prop
def l2(l:List Env):List Addr:=l.filterMap (·.frame)
abbrev aU.aZ(X:aU):List Addr:=l2 X.outer
def qu(sc:Scope)(x:Str):Prop:=sc.names.lookup x=some .local\/sc.names.lookup x=some .cell\/sc.names.lookup x=some .free
def Loc(sc:Scope)(x:Str):Prop:=sc.names.lookup x=some .local\/sc.names.lookup x=some .cell
def Look(env:Env)(h:Heap)(m:bt)(x:Str)(u:Value):Prop:=
 (env.kindOf x=some .local/\m x=some u)\/((env.kindOf x=some .cell\/env.kindOf x=some .free)/\∃c,env.cells.lookup x=some c/\h.IsCell c (some u))
structure aU.Ok(X:aU):Prop where
 mod:Mod X.K X.mg X.base
 kind:X.env.scope.kind=.function
 glob:X.env.globals=ajX
 blt:X.env.builtins=anH
 above:X.g8.heap.objs.size<=X.env.locals
 inj:∀x y c,X.env.cells.lookup x=some c->X.env.cells.lookup y=some c->x=y
 has:∀x,(X.env.kindOf x=some .cell\/X.env.kindOf x=some .free)->∃c,X.env.cells.lookup x=some c
 uc:∀x c,X.fn x=true->X.env.cells.lookup x=some c->X.g8.heap.objs.size<=c
 hd:X.calm=true->X.A.handled=none
 frames:X.A.frames=some X.stack
 zM:X.stack=X.outer\/(X.stack=X.env::X.outer/\X.env.frame=some X.env.locals)
 xQ:∀b∈X.ex,b≠X.env.locals/\∀x c,X.env.cells.lookup x=some c->c≠b
 bs:∀b o,X.base.get? b=some o->X.g8.heap.get? b=some o/\X.H₀ b=none
 lS:X.base.objs.size<=X.g8.heap.objs.size
 vH:∀b o,X.base.get? b=some o->b∉X.ex
 ur:∀b∈X.ex,b∉X.aZ
 kA:X.g8.heap.FunFrames X.base X.outer
 px:∀b∈X.aZ,X.H₀ b=none
structure Inv(X:aU)(zn:cX)(Y:List (Option V))(H:aw)(s:ajp):Prop where
 ok:X.Ok
 os:s.os=X.g8.os
 bare:amM s.gens
 base:gP X.aZ X.ex X.H₀ H X.g8.heap s.heap
 loc:∃m,s.heap.Ns X.env.locals m/\∀(i:Nat)(x:Str)(v:V),X.N[i]? = some x->Y[i]? = some (some v)->qu X.env.scope x->∃u,RelV v u/\Look X.env s.heap m x u
 cell:∀x c,X.env.cells.lookup x=some c->∃v,s.heap.IsCell c v
 free:H X.env.locals=none
 l1:∀x c,X.env.cells.lookup x=some c->H c=none
 pin:∀p∈X.lD++zn,s.heap.get? p.1=some p.2/\H p.1=none/\p.1≠X.env.locals/\p.1∉X.aZ/\∀v,p.2.data≠.cell v
 bQ:fh X.prog X.w H s.heap
 len:Y.length=X.N.length
section
variable{X:aU}{zn:cX}{Y:List (Option V)}{H H':aw}{s:ajp}{h':Heap}
def aU.Ok.aae(ok:X.Ok)(e:X.base.get? b=some o):b∉X.aZ:=λab=>by
 have:=(ok.kA.mem ab).1;rw[e]at this;cases this
def Inv.bs(J:Inv X zn Y H s):∀b o,X.base.get? b=some o->s.heap.get? b=some o/\H b=none:=λb o e=>
 ⟨J.base.keep b o (J.ok.bs b o e).1 (J.ok.bs b o e).2 (J.ok.aae e) (J.ok.vH b o e),J.base.free b o (J.ok.bs b o e).1 (J.ok.bs b o e).2 (J.ok.vH b o e)⟩
def Inv.cG(J:Inv X zn Y H s):∀b o,X.base.get? b=some o->s.heap.get? b=some o:=λb o e=>(J.bs b o e).1
def Inv.mod(J:Inv X zn Y H s):Mod X.K X.mg X.base:=J.ok.mod
def Inv.fe(J:Inv X zn Y H s):X.K.In s.heap:=J.ok.mod.sE.keeps J.cG
def Inv.fr(J:Inv X zn Y H s):∃m,Fr X.base X.env.locals s.heap m:=
 let⟨m,aG,_⟩:=J.loc
 ⟨m,aG,J.cG,akq J.ok.lS J.ok.above⟩
def Inv.lt(J:Inv X zn Y H s):X.env.locals<s.heap.objs.size:=let⟨_,aG,_⟩:=J.loc;aG.lt
def Inv.lG(J:Inv X zn Y H s):X.g8.heap.objs.size<=s.heap.objs.size:=akq J.ok.above (akG J.lt)
def Inv.aag(J:Inv X zn Y H s)(h:s.heap.objs.size<=a):a∉X.aZ:=λab=>by
 obtain⟨_,o,bg,_⟩:=J.ok.kA.mem ab;exact absurd (aj1 (ajD bg) (akq J.lG h)) (aj7 _)
def Inv.qz(J:Inv X zn Y H s):∀x c,X.env.cells.lookup x=some c->c≠X.env.locals:=λx c e z=>by
 obtain⟨v,o,bg,hd⟩:=J.cell x c e;obtain⟨m,⟨o',ay,cM,ik,uR,_⟩,_⟩:=J.loc;rw[z,ik]at bg;cases bg;rw[uR]at hd;cases hd
def Inv.kA(J:Inv X zn Y H s):s.heap.FunFrames X.base X.outer:=by
 have all:∀(l:List Env),(∀b∈l2 l,b∈X.aZ)->X.g8.heap.FunFrames X.base l->s.heap.FunFrames X.base l:=by
  intro l
  induction l with
  |nil=>intro _ _;trivial|cons env r a8=>
   intro aC au;obtain⟨ax,⟨L,o,hf,aG,bg,hd⟩,aB⟩:=au;have lq:L∈X.aZ:=aC L (by unfold l2;rw[am3,hf];exact ajy);obtain⟨cN,e⟩:=J.base.slot L o bg (J.ok.px L lq) lq λz=>J.ok.ur L z lq
   exact⟨ax,⟨L,_,hf,aG,e,hd⟩,a8 (λb ab=>aC b (by unfold l2;rw[am3,hf];exact ajv _ ab)) aB⟩
 exact all X.outer (λ_ ab=>ab) J.ok.kA
def Inv.stack(J:Inv X zn Y H s):s.heap.FunFrames X.base X.stack:=by
 rcases J.ok.zM with e|⟨e,hf⟩
 .rw[e];exact J.kA
 .rw[e]
  obtain⟨m,aG,_⟩:=J.loc;refine .cons (by rw[J.ok.kind];decide) hf aG ?_ J.kA;exact Heap.get?_none_of_le (akq J.ok.lS J.ok.above)
def Inv.EP(J:Inv X zn Y H s):∀b∈l2 X.stack,b∈X.env.locals::X.aZ:=λb ab=>by
 rcases J.ok.zM with e|⟨e,hf⟩
 .rw[e]at ab;exact ajv _ ab
 .rw[e]at ab
  unfold l2 at ab;rw[am3,hf]at ab;exact ab
def Inv.Of(J:Inv X zn Y H s):∀b∈l2 X.stack,H b=none:=λb ab=>by
 rcases aju.mp (J.EP b ab)with e|ab
 .rw[e];exact J.free
 .obtain⟨_,o,bg,_⟩:=J.ok.kA.mem ab
  exact J.base.free b o bg (J.ok.px b ab) λz=>J.ok.ur b z ab
def Inv.step{g':Array GenState}{t':Nat}{d':Drawn}{ch:List Addr}(J:Inv X zn Y H s)
  (m_:∀b∈ch,(b∈X.ex\/X.g8.heap.objs.size<=b)/\b≠X.env.locals/\(∀x c,X.env.cells.lookup x=some c->c≠b)/\∀p∈X.lD++zn,p.1≠b)
  (keep:∀b o,b≠X.env.locals->b∉X.aZ->b∉ch->s.heap.get? b=some o->H b=none->h'.get? b=some o)
  (slot:∀b o,b≠X.env.locals->b∈X.aZ->b∉ch->s.heap.get? b=some o->H b=none->∃cN,h'.get? b=some { o with slots:=cN }) (free:∀b o,b∉ch->s.heap.get? b=some o->H b=none->H' b=none)
  (there:∀b o,b∉ch->s.heap.get? b=some o->∃o',h'.get? b=some o')
  (qc:∀b xs,H b=some (.tup xs)->H' b=some (.tup xs)) (n5:∀b o u,H b=some (.cj o u)->H' b=some (.cj o u)) (oM:∀b ps,H b=some (.gp ps)->∃more,H' b=some (.gp (ps++more)))
  (ns:∀m,s.heap.Ns X.env.locals m->h'.Ns X.env.locals m) (bQ:fh X.prog X.w H' h') (aY:amM g') :
  Inv X zn Y H' { s with heap:=h',gens:=g',drawn:=d',toks:=t' }:=by
 have LF:∀b o,X.g8.heap.get? b=some o->b≠X.env.locals:=λb o e=>ajJ (aj1 (ajD e) J.ok.above)
 have y_:∀b o,X.g8.heap.get? b=some o->b∉X.ex->b∉ch:=λb o e ag ab=>by
  rcases(m_ b ab).1 with z|z
  .exact ag z
  .exact absurd (aj1 (ajD e) z) (aj7 _)
 have cellK:∀x c,X.env.cells.lookup x=some c->∀v,s.heap.IsCell c v->h'.IsCell c v:=λx c e v aX=>by
  obtain⟨o,bg,hd⟩:=aX;have vD:c∉ch:=λz=>(m_ c z).2.2.1 x c e rfl
  by_cases aI:c∈X.aZ
  .obtain⟨cN,q⟩:=slot c o (J.qz x c e) aI vD bg (J.l1 x c e)
   exact⟨_,q,hd⟩
  .exact⟨o,keep c o (J.qz x c e) aI vD bg (J.l1 x c e),hd⟩
 refine⟨J.ok,J.os,aY,⟨λb o e n ab ag=>?_,λb o e n ab ag=>?_,λb o e n ag=>?_,λb o e ag=>?_,λb xs e=>qc b xs (J.base.qc b xs e),λb o xs e=>n5 b o xs (J.base.n5 b o xs e),λb ps e=>?_⟩,?_,λx c e=>?_,?_,λx c e=>?_,λp aH=>?_,bQ,J.len⟩
 .exact keep b o (LF b o e) ab (y_ b o e ag) (J.base.keep b o e n ab ag) (J.base.free b o e n ag)
 .obtain⟨cN,ao⟩:=J.base.slot b o e n ab ag
  obtain⟨we,az⟩:=slot b _ (LF b o e) ab (y_ b o e ag) ao (J.base.free b o e n ag);exact⟨we,az⟩
 .obtain⟨o',ao⟩:=J.base.there b o e ag
  exact free b o' (y_ b o e ag) ao (J.base.free b o e n ag)
 .obtain⟨o',ao⟩:=J.base.there b o e ag
  exact there b o' (y_ b o e ag) ao
 .obtain⟨ov,ao⟩:=J.base.oM b ps e
  obtain⟨sJ,az⟩:=oM b _ ao;exact⟨ov++sJ,by rw[az,Array.append_assoc]⟩
 .obtain⟨m,aG,au⟩:=J.loc
  refine⟨m,ns m aG,λi x v ao az cI=>?_⟩;obtain⟨u,r,l⟩:=au i x v ao az cI;refine⟨u,r,?_⟩;rcases l with l|⟨k,c,e,z⟩
  .exact .inl l
  .exact .inr ⟨k,c,e,cellK x c e _ z⟩
 .obtain⟨v,z⟩:=J.cell x c e
  exact⟨v,cellK x c e v z⟩
 .obtain⟨m,⟨o,_,_,bg,_⟩,_⟩:=J.loc
  exact free _ o (λz=>(m_ _ z).2.1 rfl) bg J.free
 .obtain⟨v,o,bg,hd⟩:=J.cell x c e
  exact free c o (λz=>(m_ c z).2.2.1 x c e rfl) bg (J.l1 x c e)
 .obtain⟨e,n,ne,pY,d⟩:=J.pin p aH
  have vD:p.1∉ch:=λz=>(m_ p.1 z).2.2.2 p aH rfl
  exact⟨keep p.1 p.2 ne pY vD e n,free p.1 p.2 vD e n,ne,pY,d⟩
def Inv.un{t':Nat}(J:Inv X zn Y H s)(u:gP X.aZ [] H H' s.heap h')(bQ:fh X.prog X.w H' h'):Inv X zn Y H' { s with heap:=h',toks:=t' }:=by
 obtain⟨m,⟨o,ay,cM,bg,r⟩,_⟩:=id J.loc;obtain⟨cN,lq⟩:=u.any bg J.free (by simp);exact J.step (g':=s.gens) (d':=s.drawn) (ch:=[]) (λ_ z=>nomatch z) (λb o _ ab _ e n=>u.keep b o e n ab (by simp)) (λb o _ ab _ e n=>u.slot b o e n ab (by simp)) (λb o _ e n=>u.free b o e n (by simp)) (λb o _ e=>u.there b o e (by simp)) u.qc u.n5 u.oM (λeI hm=>by
  obtain⟨o',BH,BD,ik,bP⟩:=hm;rw[bg]at ik;cases ik;exact⟨_,BH,BD,lq,bP⟩) bQ J.bare
def Inv.call{g':Array GenState}{t':Nat}{d':Drawn}{ch:List Addr}(J:Inv X zn Y H s)(u:gP (l2 X.stack) ch H H' s.heap h')(bQ:fh X.prog X.w H' h')(aY:amM g')
  (m_:∀b∈ch,(b∈X.ex\/X.g8.heap.objs.size<=b)/\b≠X.env.locals/\(∀x c,X.env.cells.lookup x=some c->c≠b)/\∀p∈X.lD++zn,p.1≠b) :
  Inv X zn Y H' { s with heap:=h',gens:=g',drawn:=d',toks:=t' }:=by
 obtain⟨m,⟨o,ay,cM,bg,r⟩,_⟩:=id J.loc;obtain⟨cN,lq⟩:=u.any bg J.free λz=>(m_ _ z).2.1 rfl
 exact J.step (ch:=ch) m_ (λb o lq ab aI e n=>u.keep b o e n (λz=>(aju.mp (J.EP b z)).elim lq ab) aI) (λb o _ _ aI e n=>u.any e n aI) (λb o aI e n=>u.free b o e n aI) (λb o aI e=>u.there b o e aI) u.qc u.n5 u.oM (λeI hm=>by
  obtain⟨o',BH,BD,ik,bP⟩:=hm;rw[bg]at ik;cases ik;exact⟨_,BH,BD,lq,bP⟩) bQ aY
def Inv.turned{t':Nat}{it:Addr}(J:Inv X zn Y H s)(k:∀b o,b≠it->s.heap.get? b=some o->h'.get? b=some o)(aG:H it=none)(lq:it≠X.env.locals)
  (af:it∈X.ex\/X.g8.heap.objs.size<=it) (ah:∀x c,X.env.cells.lookup x=some c->c≠it) (bN:∀p∈X.lD++zn,p.1≠it):Inv X zn Y H { s with heap:=h',toks:=t' }:=by
 have vF:∀b u,H b=some u->b≠it:=λb u e z=>by rw[z,aG]at e;cases e
 refine J.step (g':=s.gens) (d':=s.drawn) (ch:=[it]) (λb ab=>?_) (λb o _ _ aI e _=>k b o (λz=>aI (by simp[z])) e) (λb o _ _ aI e _=>⟨o.slots,k b o (λz=>aI (by simp[z])) e⟩) (λ_ _ _ _ n=>n)
  (λb o aI e=>⟨o,k b o (λz=>aI (by simp[z])) e⟩) (λ_ _ e=>e) (λ_ _ _ e=>e) (λb ps e=>⟨#[],by rw[e];simp⟩) (λm hm=>?_) (λb u e=>?_) J.bare
 .have e:b=it:=by simpa using ab
  subst e;exact⟨af,lq,ah,bN⟩
 .obtain⟨o,ay,cM,bg,r⟩:=hm
  exact⟨o,ay,cM,k _ o (amg lq) bg,r⟩
 .refine(J.bQ b u e).rq (λc v aI q=>k c v ?_ q) (λ_ q=>q) λ_ _ q=>q
  rcases aI with z|z
  .rw[z];exact vF b u e
  .exact vF c _ z
theorem Inv.tok(J:Inv X zn Y H s)(t:Nat):Inv X zn Y H { s with toks:=t }:=J.un (h':=s.heap) (t':=t) gP.refl J.bQ
def Inv.kept{t':Nat}(J:Inv X zn Y H s)(k:∀b u,s.heap.get? b=some u->h'.get? b=some u):Inv X zn Y H { s with heap:=h',toks:=t' }:=J.un (gP.kept k) (J.bQ.kept k)
def Inv.laid{t':Nat}(J:Inv X zn Y H s)(k:∀b u,s.heap.get? b=some u->h'.get? b=some u)(aH:s.heap.objs.size<=a)(new:gN X.prog X.w (upd H a o) h' a o) :
  Inv X zn Y (upd H a o) { s with heap:=h',toks:=t' }:=J.un (gP.laid k aH (J.bQ.fresh aH)) (J.bQ.laid k aH new)
def Inv.write{x e:Addr}{o:gM}{t':Nat}(J:Inv X zn Y H s)(j_:tT (H x))(he:e=x\/H e=some (.own x))(k:∀b u,b≠e->s.heap.get? b=some u->h'.get? b=some u)(so:∃u,h'.get? e=some u)
  (new:gN X.prog X.w (upd H x o) h' x o):Inv X zn Y (upd H x o) { s with heap:=h',toks:=t' }:=J.un (gP.write j_ he k so) (J.bQ.write j_ he k so new)
def Inv.weak{Y':List (Option V)}(J:Inv X zn Y H s)(au:Y'.length=Y.length)(w:∀(i:Nat) v,Y'[i]? = some (some v)->Y[i]? = some (some v)):Inv X zn Y' H s:=
 ⟨J.ok,J.os,J.bare,J.base,let⟨m,aG,XG⟩:=J.loc;⟨m,aG,λi x v ao az cI=>XG i x v ao (w i v az) cI⟩,J.cell,J.free,J.l1,J.pin,J.bQ,au.trans J.len⟩
def Inv.Mj(J:Inv X zn Y H s)(h:∀p∈abC,s.heap.get? p.1=some p.2/\H p.1=none/\p.1≠X.env.locals/\p.1∉X.aZ/\∀v,p.2.data≠.cell v):Inv X abC Y H s:=
 ⟨J.ok,J.os,J.bare,J.base,J.loc,J.cell,J.free,J.l1,λp aH=>(aj2.mp aH).elim (λz=>J.pin p (amQ _ z)) (h p),J.bQ,J.len⟩
def LL{N:List Str}(hN:N.Nodup){i j:Nat}{x:Str}(a:N[i]? = some x)(b:N[j]? = some x):i=j:=by
 obtain⟨af,ao⟩:=ajs.mp a;obtain⟨ah,az⟩:=ajs.mp b;exact(List.getElem_inj hN).mp (ao.trans az.symm)
theorem Oh{M:Model}{A:ajM}{E:cF}{i:Nat}{x:Str}{v:V}{u:Value}{Q:Unit->ajp->Prop}(J:Inv X zn Y H s)(hN:X.N.Nodup)(aA:X.N[i]? = some x)(ag:Loc X.env.scope x)(r:RelV v u)
  (h:∀aP,Inv X zn (Y.set i (some v)) H aP->(∃a,amR a s.heap aP.heap/\(a=X.env.locals\/X.env.cells.lookup x=some a))->Q () aP) (hf:X.fn x=true\/X.env.scope.names.lookup x=some .local:=by first|exact .inl rfl|exact .inr rfl|assumption):wpAny M A (storeName X.env x u) Q E s:=by
 obtain⟨m,aG,au⟩:=id J.loc;have Xd:(X.env.scope.kind==.class||(X.env.scope.kind==.module&&X.env.locals != X.env.globals))=false:=by rw[J.ok.kind];rfl
 have Jy:i<Y.length:=by rw[J.len];exact(ajs.mp aA).1
 have qz:=J.qz;have tracked:∀{a:Addr}{h':Heap},(∃o,s.heap.get? a=some o/\H a=none)->amR a s.heap h'->fh X.prog X.w H h':=λ{a h'} aq aC b bC e=>by
  obtain⟨_,_,yf⟩:=aq;refine(J.bQ b bC e).rq (λc eu aI q=>(aC.2 c ?_).trans q) (λ_ q=>q) λ_ _ q=>q
  rintro rfl;rcases aI with rfl|aI
  .rw[yf]at e;cases e
  .rw[yf]at aI;cases aI
 rcases ag with ax|ax
 .refine wpAny_storeName_local ax aG (λh' XM aC=>?_) Xd
  obtain⟨aap,_,_,l',_⟩:=id aG;refine h _ ⟨J.ok,J.os,J.bare,⟨λb o e n ab ag=>?_,λb o e n ab ag=>?_,J.base.free,λb o e ag=>?_,J.base.qc,J.base.n5,J.base.oM⟩,⟨_,XM,λj y fC ao az cI=>?_⟩,λy c e=>?_,J.free,J.l1,λp aH=>?_,tracked ⟨aap,l',J.free⟩ aC,by simpa using J.len⟩ ⟨_,aC,.inl rfl⟩
  .exact(aC.2 b (ajJ (aj1 (ajD e) J.ok.above))).trans (J.base.keep b o e n ab ag)
  .obtain⟨cN,ao⟩:=J.base.slot b o e n ab ag
   exact⟨cN,(aC.2 b (ajJ (aj1 (ajD e) J.ok.above))).trans ao⟩
  .obtain⟨o',ao⟩:=J.base.there b o e ag
   exact⟨o',(aC.2 b (ajJ (aj1 (ajD e) J.ok.above))).trans ao⟩
  .by_cases aW:j=i
   .subst aW
    rw[aA]at ao;cases ao;rw[akm Jy]at az;cases az;exact⟨u,r,.inl ⟨ax,by simp⟩⟩
   .rw[ajE (amg aW)]at az
    obtain⟨u',bP,q⟩:=au j y fC ao az cI;refine⟨u',bP,?_⟩;rcases q with⟨k,e⟩|⟨k,c,e,z⟩
    .refine .inl ⟨k,?_⟩
     have:y≠x:=λe=>aW (LL hN ao (e▸aA))
     simp[this,e]
    .exact .inr ⟨k,c,e,z.sameBut aC (qz y c e)⟩
  .obtain⟨eu,z⟩:=J.cell y c e
   exact⟨eu,z.sameBut aC (qz y c e)⟩
  .obtain⟨e,n,ne,pY,d⟩:=J.pin p aH
   exact⟨(aC.2 p.1 ne).trans e,n,ne,pY,d⟩
 .have Co:X.fn x=true:=by
   rcases hf with z|z
   .exact z
   .rw[z]at ax;cases ax
  obtain⟨c,aI⟩:=J.ok.has x (.inl ax);obtain⟨eu,z⟩:=J.cell x c aI;refine wpAny_storeName_cell J.ok.kind ax aI z (λh' yc aC=>?_);obtain⟨dv,yk,XT⟩:=id z;refine h { s with heap:=h' } ⟨J.ok,J.os,J.bare,⟨λb o e n ab ag=>?_,λb o e n ab ag=>?_,J.base.free,λb o e ag=>?_,J.base.qc,J.base.n5,J.base.oM⟩,⟨m,aG.sameBut aC (amg (qz x c aI)),λj y fC ao az cI=>?_⟩,λy c' e=>?_,J.free,J.l1,λp aH=>?_,tracked ⟨dv,yk,J.l1 x c aI⟩ aC,by simpa using J.len⟩ ⟨c,aC,.inr aI⟩
  .exact(aC.2 b (ajJ (aj1 (ajD e) (J.ok.uc x c Co aI)))).trans (J.base.keep b o e n ab ag)
  .obtain⟨cN,ao⟩:=J.base.slot b o e n ab ag
   exact⟨cN,(aC.2 b (ajJ (aj1 (ajD e) (J.ok.uc x c Co aI)))).trans ao⟩
  .obtain⟨o',ao⟩:=J.base.there b o e ag
   exact⟨o',(aC.2 b (ajJ (aj1 (ajD e) (J.ok.uc x c Co aI)))).trans ao⟩
  .by_cases aW:j=i
   .subst aW
    rw[aA]at ao;cases ao;rw[akm Jy]at az;cases az;exact⟨u,r,.inr ⟨.inl ax,c,aI,yc⟩⟩
   .rw[ajE (amg aW)]at az
    obtain⟨u',bP,q⟩:=au j y fC ao az cI;refine⟨u',bP,?_⟩;rcases q with q|⟨k,c',e,k0⟩
    .exact .inl q
    .refine .inr ⟨k,c',e,k0.sameBut aC ?_⟩
     rintro rfl;exact aW (LL hN ao (J.ok.inj _ _ _ e aI▸aA))
  .by_cases qL:c'=c
   .subst qL;exact⟨_,yc⟩
   .obtain⟨dj,ew⟩:=J.cell y c' e
    exact⟨dj,ew.sameBut aC qL⟩
  .obtain⟨e,n,ne,pY,d⟩:=J.pin p aH
   refine⟨(aC.2 p.1 ?_).trans e,n,ne,pY,d⟩;intro q;rw[q,yk]at e;have fp:dv=p.2:=ajT e;exact d eu (by rw[<-fp];exact XT)
def Og{M:Model}{A:ajM}{E:cF}{i:Nat}{x:Str}{v:V}{u:Value}{Q:Unit->ajp->Prop}(J:Inv X zn Y H s)(hN:X.N.Nodup)(aA:X.N[i]? = some x)(ag:Loc X.env.scope x)(r:RelV v u)
  (h:∀aP,Inv X zn (Y.set i (some v)) H aP->Q () aP) (hf:X.fn x=true\/X.env.scope.names.lookup x=some .local:=by first|exact .inl rfl|exact .inr rfl|assumption):wpAny M A (storeName X.env x u) Q E s:=
 Oh J hN aA ag r (λaP h7 _=>h aP h7) hf
theorem Inv.Sz{aP:ajp}{ch:List Addr}(J:Inv X zn Y H s)(bg:aP.os=s.os)(u:gP (l2 X.stack) ch H H' s.heap aP.heap)(bQ:fh X.prog X.w H' aP.heap)(aY:amM aP.gens)
  (m_:∀b∈ch,(b∈X.ex\/X.g8.heap.objs.size<=b)/\b≠X.env.locals/\(∀x c,X.env.cells.lookup x=some c->c≠b)/\∀p∈X.lD++zn,p.1≠b):Inv X zn Y H' aP:=by
 obtain⟨h',g',d',t',o'⟩:=aP;have e:o'=s.os:=bg;subst e;exact J.call (g':=g') (t':=t') (d':=d') u bQ aY m_
end
abbrev gE:=Value->Option Addr->aw->Prop
abbrev St:=List (Option V)
abbrev c9:=V->aw->Prop
abbrev TE:=St->aw->c9->Prop
abbrev TT:=St->aw->(Bool->aw->Prop)->Prop
abbrev gv:=St->aw->(List V->aw->Prop)->Prop
structure Ends where
 bo:St->aw->Prop
 cZ:c9
 cG:St->aw->Prop:=λ_ _=>False
 ct:St->aw->Prop:=λ_ _=>False
abbrev hh:=Ends->St->aw->Prop
def ht(X:aU)(zn:cX)(Y:St)(Q:c9)(u:Value)(aP:ajp):Prop:=∃v H',Inv X zn Y H' aP/\RelV v u/\Q v H'
def AA(X:aU)(zn:cX)(Y:St)(Q:Bool->aw->Prop)(b:Bool)(aP:ajp):Prop:=∃H',Inv X zn Y H' aP/\Q b H'
def Po(X:aU)(zn:cX)(Y:St)(Q:List V->aw->Prop)(us:List Value)(aP:ajp):Prop:=∃vs H',Inv X zn Y H' aP/\Vals vs us/\Q vs H'
def rV(X:aU)(zn:cX)(D:Ends)(f:Flow)(aP:ajp):Prop:=
 match f with
 |.next=>∃Y' H',Inv X zn Y' H' aP/\D.bo Y' H'|.brk=>∃Y' H',Inv X zn Y' H' aP/\D.cG Y' H'|.cont=>∃Y' H',Inv X zn Y' H' aP/\D.ct Y' H'|.ret u=>∃v Y' H',Inv X zn Y' H' aP/\RelV v u/\D.cZ v H'
def bV(X:aU)(e:Expr)(t:TE):Prop:=
 ∀(zn:cX)(s:ajp)(Y:St)(H:aw)(Q:c9),Inv X zn Y H s->t Y H Q->wpAny (model X.prog X.w) X.A (eval e X.env) (ht X zn Y Q) X.dU s
def iM(X:aU)(e:Expr)(t:TT):Prop:=
 ∀(zn:cX)(s:ajp)(Y:St)(H:aw)(Q:Bool->aw->Prop),Inv X zn Y H s->t Y H Q->wpAny (model X.prog X.w) X.A (isTrue e X.env (eval e X.env)) (AA X zn Y Q) X.dU s
def k7(X:aU)(e:Expr)(t:TT):Prop:=
 ∀(whole:Sem Value)(zn:cX)(s:ajp)(Y:St)(H:aw)(Q:Bool->aw->Prop),Inv X zn Y H s->t Y H Q->wpAny (model X.prog X.w) X.A (isTrue e X.env whole) (AA X zn Y Q) X.dU s
def k7.pt{t:TT}(h:k7 X e t):iM X e t:=h _
def eN(X:aU)(ay:List Expr)(t:gv):Prop:=
 ∀(pos:Pos)(zn:cX)(s:ajp)(Y:St)(H:aw)(Q:List V->aw->Prop),Inv X zn Y H s->t Y H Q->wpAny (model X.prog X.w) X.A (spliced (ajS pos (ajo ay X.env))) (Po X zn Y Q) X.dU s
def iK(X:aU)(st:Stmt)(t:hh):Prop:=
 ∀(zn:cX)(s:ajp)(Y:St)(H:aw)(D:Ends),Inv X zn Y H s->t D Y H->wpAny (model X.prog X.w) X.A (exec st X.env) (rV X zn D) X.dU s
def iL(X:aU)(st:List Stmt)(t:hh):Prop:=
 ∀(zn:cX)(s:ajp)(Y:St)(H:aw)(D:Ends),Inv X zn Y H s->t D Y H->wpAny (model X.prog X.w) X.A (execs st X.env) (rV X zn D) X.dU s
def bX{α:Type}{t:Sem α}{Q fZ:α->ajp->Prop}{M:Model}{A:ajM}{E:cF}{s:ajp}(h:wpAny M A t Q E s)(iS:∀a s,Q a s->fZ a s):wpAny M A t fZ E s:=aj6 h iS λ_ _ x=>x
section
variable{X:aU}
def aeF(i:Nat):TE:=λY H Q=>∃v,Y[i]? = some (some v)/\Q v H
def oL(v:V):TE:=λ_ H Q=>Q v H
def zr(hN:X.N[i]? = some x)(bI:qu X.env.scope x)(hd:(x==("__debug__":Str))=false:=by decide)(gG:(x==("__classdict__":Str))=false:=by decide):bV X (.Name x pos) (aeF i):=by
 intro zn s Y H Q J h;obtain⟨v,e,h⟩:=h;obtain⟨m,aG,au⟩:=J.loc;obtain⟨u,r,l⟩:=au i x v hN e bI;have fin:ht X zn Y Q u s:=⟨v,H,J,r,h⟩;rcases l with⟨ax,hm⟩|⟨ax,c,aI,Jn⟩
 .exact wpAny_Name (wpAny_loadName_local J.ok.kind ax aG hm fin) hd
 .rcases ax with ax|ax
  .exact wpAny_Name (wpAny_loadName_cell J.ok.kind ax aI Jn fin) hd
  .exact wpAny_Name (wpAny_loadName_free J.ok.kind ax aI Jn fin gG) hd
def abl{i j pos}:bV X (.Constant (.int i) j pos) (oL (.int i)):=λ_ _ _ H _ J h=>wpAny_Constant_int ⟨.int i,H,J.tok _,⟨_,rfl⟩,h⟩
def aa6{b j pos}:bV X (.Constant (.bool b) j pos) (oL (.aE b)):=λ_ _ _ H _ J h=>Constant_bool ⟨.aE b,H,J,rfl,h⟩
def abr{j pos}:bV X (.Constant .none j pos) (oL .aQ):=λ_ _ _ H _ J h=>Constant_none ⟨.aQ,H,J,rfl,h⟩
def Me{x j pos}:bV X (.Constant (.str x) j pos) (oL (.str x)):=λ_ _ _ H _ J h=>Calls.Constant_str ⟨.str x,H,J.tok _,⟨_,rfl⟩,h⟩
def eC(X:aU)(x:Str):Prop:=X.env.kindOf x=some .globalImplicit
def sH{E:cF}{zn:cX}{s:ajp}{Y:St}{H:aw}{x:Str}{u:Value}{pos:Pos}{Q:cF}(J:Inv X zn Y H s)(aY:eC X x)(hm:X.mg x=some u)(h:Q u s)
  (hd:(x==("__debug__":Str))=false:=by decide):wpAny (model X.prog X.w) X.A (eval (.Name x pos) X.env) Q E s:=
 ant J.ok.kind aY (Calls.loadGlobal_global (by rw[J.ok.glob];exact J.mod.glob.keeps J.cG) hm h) hd
def q0{E:cF}{zn:cX}{s:ajp}{Y:St}{H:aw}{x:Str}{u:Value}{pos:Pos}{Q:cF}(J:Inv X zn Y H s)(aY:eC X x)(hm:X.mg x=none)(bI:ake x=some u)(h:Q u s)
  (aG:x≠"__name__":=by decide) (hd:(x==("__debug__":Str))=false:=by decide):wpAny (model X.prog X.w) X.A (eval (.Name x pos) X.env) Q E s:=by
 obtain⟨c_,af,ah⟩:=J.mod.blt;exact ant J.ok.kind aY (Calls.loadGlobal_builtin (by rw[J.ok.glob];exact J.mod.glob.keeps J.cG) hm (by rw[J.ok.blt];exact af.keeps J.cG) ((ah x aG).trans bI) h) hd
def abk{v:V}(aY:eC X x)(hm:X.mg x=some u)(r:RelV v u)(hd:(x==("__debug__":Str))=false:=by decide):bV X (.Name x pos) (oL v):=
 λ_ _ _ H _ J h=>sH J aY hm ⟨v,H,J,r,h⟩ hd
def vR{v:V}(aY:eC X x)(hm:X.mg x=none)(bI:ake x=some u)(r:RelV v u)(aG:x≠"__name__":=by decide)(hd:(x==("__debug__":Str))=false:=by decide):bV X (.Name x pos) (oL v):=
 λ_ _ _ H _ J h=>q0 J aY hm bI ⟨v,H,J,r,h⟩ aG hd
variable{a b:Expr}{b3 cU:TE}{pos:Pos}
def PL(X:aU)(op:CmpOp)(a b:Expr)(t:TE):Prop:=
 ∀(zn:cX)(s:ajp)(Y:St)(H:aw)(Q:c9),Inv X zn Y H s->t Y H Q->
  wpAny (model X.prog X.w) X.A (eval a X.env) (λv du=>wpAny (model X.prog X.w) X.A (eval b X.env) (λu mC=>wpAny (model X.prog X.w) X.A (aj9 op v u) (ht X zn Y Q) X.dU mC) X.dU du) X.dU s
def aad(b:Expr)(h:op≠.In)(ah:op≠.NotIn):ali op b=false:=by
 have ao:(op==CmpOp.In)=false:=by cases op<;>first|rfl|exact absurd rfl h
 have az:(op==CmpOp.NotIn)=false:=by cases op<;>first|rfl|exact absurd rfl ah
 cases b<;>simp[ali,ao,az]
def Oq(t:TE):TT:=λY H Q=>t Y H λx H1=>∃c,x=.aE c/\Q c H1
def ai6{t:TE}(h:PL X op a b t)(af:ali op b=false:=by first|exact aad _ (by decide) (by decide)|rfl):iM X (.Compare a [op] [b] pos) (Oq t):=by
 intro zn s Y H Q J hw;refine wpAny_isTrue_Compare1 (bX (h zn s Y H _ J hw) λv s1 af=>bX af λu s2 ah=>bX ah λc s3 ⟨x,H1,bb,bB,bq⟩=>?_) af;obtain⟨d,rfl,q⟩:=bq;cases bB;exact akE ⟨H1,bb,q⟩
def Mq{e:Expr}{t:TE}(h:bV X e t)(he:∀whole,isTrue e X.env whole=(do let v <-whole;al2 e.pos;alf [v] (truthy v)):=by intro _;rfl):iM X e (Oq t):=by
 intro zn s Y H Q J hw;refine isTrue_plain (bX (h zn s Y H _ J hw) λv s1 ⟨x,H1,bb,bB,bq⟩=>?_) (he _);obtain⟨d,rfl,q⟩:=bq;cases bB;exact akE ⟨H1,bb,q⟩
variable{nG zQ:TT}{rest:List Expr}
def aee(t u:TT):TT:=λY H Q=>t Y H λc H1=>if c=true then u Y H1 Q else Q false H1
def aex(t u:TT):TT:=λY H Q=>t Y H λc H1=>if c=true then Q true H1 else u Y H1 Q
def aev(t:TT):TT:=λY H Q=>t Y H λc H1=>Q (!c) H1
def abT(aq:iM X a nG):k7 X (.BoolOp .And [a] pos) nG:=by
 intro rF zn s Y H Q J h;refine isTrue_and (bX (aq zn s Y H Q J h) λc s1 e=>?_)
 cases c with
 |true=>exact isTrue_and_nil e|false=>exact e
def Mt(aq:iM X a nG):k7 X (.BoolOp .Or [a] pos) nG:=by
 intro rF zn s Y H Q J h;refine isTrue_or (bX (aq zn s Y H Q J h) λc s1 e=>?_)
 cases c with
 |false=>exact isTrue_or_nil e|true=>exact e
def abS(aq:iM X a nG)(ab:k7 X (.BoolOp .And (b::rest) pos) zQ):k7 X (.BoolOp .And (a::b::rest) pos) (aee nG zQ):=by
 intro rF zn s Y H Q J h;refine isTrue_and (bX (aq zn s Y H _ J h) λc s1 aX=>?_);obtain⟨H1,bb,bq⟩:=aX
 cases c with
 |true=>exact ab rF zn s1 Y H1 Q bb bq|false=>exact⟨H1,bb,bq⟩
def Ms(aq:iM X a nG)(ab:k7 X (.BoolOp .Or (b::rest) pos) zQ):k7 X (.BoolOp .Or (a::b::rest) pos) (aex nG zQ):=by
 intro rF zn s Y H Q J h;refine isTrue_or (bX (aq zn s Y H _ J h) λc s1 aX=>?_);obtain⟨H1,bb,bq⟩:=aX
 cases c with
 |true=>exact⟨H1,bb,bq⟩|false=>exact ab rF zn s1 Y H1 Q bb bq
def Mp(aq:iM X a nG):iM X (.UnaryOp .Not a pos) (aev nG):=by
 intro zn s Y H Q J h;exact isTrue_not (aq zn s Y H (λc H1=>Q (!c) H1) J h)
def aef(b3 cU:TE):TE:=λY H Q=>b3 Y H λx H1=>∃c,x=.aE c/\if c=true then cU Y H1 Q else Q (.aE false) H1
def aew(b3:TE):TE:=λY H Q=>b3 Y H λx H1=>∃c,x=.aE c/\Q (.aE (!c)) H1
def Mb{op}{t:TE}(h:bV X a t):bV X (.BoolOp op [a] pos) t:=λzn s Y H Q J hw=>BoolOp_one (h zn s Y H Q J hw)
def L8(aq:bV X a b3)(ab:bV X (.BoolOp .And (b::rest) pos) cU):bV X (.BoolOp .And (a::b::rest) pos) (aef b3 cU):=by
 intro zn s Y H Q J h;refine BoolOp_and (bX (aq zn s Y H _ J h) λv s1 aX=>?_);obtain⟨x,H1,bb,bB,bq⟩:=aX;obtain⟨c,rfl,bq⟩:=bq;cases bB;refine akE ?_
 cases c with
 |true=>exact ab zn s1 Y H1 Q bb bq|false=>exact⟨.aE false,H1,bb,rfl,bq⟩
def abt(aq:bV X a b3):bV X (.UnaryOp .Not a pos) (aew b3):=by
 intro zn s Y H Q J h;refine UnaryOp_ (bX (aq zn s Y H _ J h) λv s1 aX=>?_);obtain⟨x,H1,bb,bB,bq⟩:=aX;obtain⟨c,rfl,bq⟩:=bq;cases bB;exact not_of (akE ⟨.aE (!c),H1,bb,rfl,bq⟩)
end
def dn(K:aS)(H:aw)(a:Addr)(xs:List V):Prop:=
 f3 H a (.lst xs)\/
  ∃(o:Obj)(its:Array Value)(n:Nat),K.lookup a=some o/\o.cls=.type "list"/\o.dict=none/\o.data=.seq its n/\its.size<=ajt/\Vals xs its.toList
def dI(K:aS)(H:aw)(a:Addr)(xs:List V):Prop:=
 f3 H a (.tup xs)\/
  ∃(o:Obj)(its:Array Value)(n:Nat),K.lookup a=some o/\o.cls=.type "tuple"/\o.data=.seq its n/\its.size<=ajt/\Vals xs its.toList
def PV:Value->Option V
 |.none=>some .aQ|.bool b=>some (.aE b)|.int i _=>some (.int i)|.str x _=>some (.str x)|.bytes b _=>some (.xr b)|.float b _=>some (.xU b)|.ref a=>some (.ref a)|.type n=>some (.ty n)|_=>none
def RelV.abs(r:RelV x u):PV u=some x:=by
 cases x with
 |aQ=>cases r;rfl
 |aE _=>cases r;rfl
 |int _=>obtain⟨t,rfl⟩:=r;rfl
 |str _=>obtain⟨t,rfl⟩:=r;rfl
 |xr _=>obtain⟨t,rfl⟩:=r;rfl
 |xU _=>obtain⟨t,rfl⟩:=r;rfl
 |ref _=>cases r;rfl
 |ty _=>cases r;rfl
def RelV.inj(r:RelV x u)(q:RelV y u):x=y:=ajT (r.abs.symm.trans q.abs)
theorem Vals.inj:∀{xs ys:List V}{us:List Value},Vals xs us->Vals ys us->xs=ys
 |_,_,_,.nil,.nil=>rfl| _,_,_,.cons r t,.cons bP t'=>by rw[r.inj bP,Vals.inj t t']
section
variable{X:aU}{zn:cX}{Y:St}{H:aw}{s:ajp}{a:Addr}{xs ys:List V}
def dn.of{K:aS}(h:H a=some (.lst xs)):dn K H a xs:=.inl (.inl h)
def dI.of{K:aS}(h:H a=some (.tup xs)):dI K H a xs:=.inl (.inl h)
def Inv.list(J:Inv X zn Y H s)(h:dn X.K H a xs):∃its:List Value,Vals xs its/\PlainL s.heap a its.toArray/\xs.length<=ajt:=by
 rcases h with h|⟨o,its,n,ax,aI,hd,aC,hz,r⟩
 .obtain⟨z,its,n,r,e⟩:=h.ok J.bQ
  exact⟨its,r,⟨_,n,e,rfl,rfl,rfl⟩,z⟩
 .refine⟨its.toList,r,⟨o,n,J.fe a o ax,aI,hd,by simpa using aC⟩,?_⟩
  have e:=r.length;simp only[akh]at e;omega
def Inv.tuple(J:Inv X zn Y H s)(h:dI X.K H a xs):∃its:List Value,Vals xs its/\IsTup s.heap a its.toArray/\xs.length<=ajt:=by
 rcases h with h|⟨o,its,n,ax,aI,aC,hz,r⟩
 .obtain⟨z,its,r,p⟩:=h.ok J.bQ
  exact⟨its,r,p,z⟩
 .refine⟨its.toList,r,⟨o,J.fe a o ax,aI,n,by simpa using aC⟩,?_⟩
  have e:=r.length;simp only[akh]at e;omega
def Inv.K4(J:Inv X zn Y H s)(h:dn X.K H a xs)(h':dn X.K H a ys):xs=ys:=by
 obtain⟨its,r,⟨o,n,e,_,_,d⟩,_⟩:=J.list h;obtain⟨its',bP,⟨o',gk,cz,_,_,d'⟩,_⟩:=J.list h';rw[e]at cz;cases cz;rw[d]at d';injection d' with fR _
 have:its=its':=by simpa using congrArg Array.toList fR
 subst this;exact r.inj bP
def Inv.OO(J:Inv X zn Y H s)(h:dI X.K H a xs)(h':dI X.K H a ys):xs=ys:=by
 obtain⟨its,r,⟨o,e,_,n,d⟩,_⟩:=J.tuple h;obtain⟨its',bP,⟨o',cz,_,gk,d'⟩,_⟩:=J.tuple h';rw[e]at cz;cases cz;rw[d]at d';injection d' with fR _
 have:its=its':=by simpa using congrArg Array.toList fR
 subst this;exact r.inj bP
end
abbrev aU.mE(X:aU)(E:cF):aU:={ X with dU:=E }
abbrev aU.gI(X:aU):aU:=X.mE λ_ _=>False
def aU.Ok.mE{X:aU}(ok:X.Ok)(E:cF):(X.mE E).Ok:=
 ⟨ok.mod,ok.kind,ok.glob,ok.blt,ok.above,ok.inj,ok.has,ok.uc,ok.hd,ok.frames,ok.zM,ok.xQ,ok.bs,ok.lS,ok.vH,ok.ur,ok.kA,ok.px⟩
def aU.Ok.oO{X:aU}(ok:(X.mE E).Ok):X.Ok:=
 ⟨ok.mod,ok.kind,ok.glob,ok.blt,ok.above,ok.inj,ok.has,ok.uc,ok.hd,ok.frames,ok.zM,ok.xQ,ok.bs,ok.lS,ok.vH,ok.ur,ok.kA,ok.px⟩
section
variable{X:aU}{zn:cX}{Y:St}{H:aw}{s:ajp}{E:cF}
def Inv.mE(J:Inv X zn Y H s)(E:cF):Inv (X.mE E) zn Y H s:=⟨J.ok.mE E,J.os,J.bare,J.base,J.loc,J.cell,J.free,J.l1,J.pin,J.bQ,J.len⟩
def Inv.oO(J:Inv (X.mE E) zn Y H s):Inv X zn Y H s:=⟨J.ok.oO,J.os,J.bare,J.base,J.loc,J.cell,J.free,J.l1,J.pin,J.bQ,J.len⟩
def rV.oO{D:Ends}(h:rV (X.mE E) zn D f aP):rV X zn D f aP:=by
 cases f with
 |next=>obtain⟨Y',H',J,q⟩:=h;exact⟨Y',H',J.oO,q⟩
 |brk=>obtain⟨Y',H',J,q⟩:=h;exact⟨Y',H',J.oO,q⟩
 |cont=>obtain⟨Y',H',J,q⟩:=h;exact⟨Y',H',J.oO,q⟩
 |ret u=>obtain⟨v,Y',H',J,r,q⟩:=h;exact⟨v,Y',H',J.oO,r,q⟩
theorem bV.gI{t:TE}(h:bV X.gI e t):bV X e t:=λzn s Y H Q J hw=>
 aj6 (h zn s Y H Q (J.mE _) hw) (λ_ _ ⟨v,H',h7,r,q⟩=>⟨v,H',h7.oO,r,q⟩) λ_ _ z=>aj4 z
theorem iL.gI{st:List Stmt}{t:hh}(h:iL X.gI st t):iL X st t:=λzn s Y H D J hw=>
 aj6 (h zn s Y H D (J.mE _) hw) (λ_ _ q=>q.oO) λ_ _ z=>aj4 z
end
section
variable{X:aU}{st:Stmt}{rest:List Stmt}{t u:hh}{e:Expr}{te:TE}{pos:Pos}
def aet:hh:=λD Y H=>D.bo Y H
def aeA(t u:hh):hh:=λD Y H=>t { D with bo:=u D } Y H
def abN:iL X [] aet:=λ_ _ Y H _ J h=>aoa ⟨Y,H,J,h⟩
def Mn(af:iK X st t)(ah:iL X rest u):iL X (st::rest) (aeA t u):=by
 intro zn s Y H D J h;refine wpAny_execs_cons (bX (af zn s Y H { D with bo:=u D } J h) λf s1 q=>?_)
 cases f with
 |next=>
  obtain⟨Y',H',h7,q⟩:=q;exact ah zn s1 Y' H' D h7 q
 |ret v=>exact q|brk=>exact q|cont=>exact q
def Mo(af:iK X st t):iL X [st] t:=by
 intro zn s Y H D J h;refine wpAny_execs_cons (bX (af zn s Y H D J h) λf s1 q=>?_)
 cases f with
 |next=>exact aoa q
 |ret v=>exact q|brk=>exact q|cont=>exact q
def Inv.quiet(J:Inv X zn Y H s):interactive X.env=false:=by simp[interactive,J.ok.kind]
def aen(te:TE):hh:=λD Y H=>te Y H λ_ H1=>D.bo Y H1
def Ee(he:bV X e te)(aC:akP e none pos.line X.env=pure false:=by rfl):iK X (.Expr e pos) (aen te):=by
 intro zn s Y H D J h;exact wpAny_Expr_any (bX (he zn s Y H _ J h) λv s1 ⟨x,H1,bb,bB,bq⟩=>⟨Y,H1,bb,bq⟩) J.quiet aC
def aez(te:TE):hh:=λD Y H=>te Y H D.cZ
def Ef(he:bV X e te):iK X (.Return (some e) pos) (aez te):=by
 intro zn s Y H D J h;exact wpAny_Return_some (bX (he zn s Y H _ J h) λv s1 ⟨x,H1,bb,bB,bq⟩=>⟨x,Y,H1,bb,bB,bq⟩)
def aep(c:TT)(t u:hh):hh:=λD Y H=>c Y H λb H1=>if b=true then t D Y H1 else u D Y H1
def Mm(aI:iM X c tB)(aq:iL X a t)(ab:iL X b u):iK X (.If c a b pos) (aep tB t u):=by
 intro zn s Y H D J h;refine wpAny_If (bX (aI zn s Y H _ J h) λd s1 aX=>?_);obtain⟨H1,bb,bq⟩:=aX
 cases d with
 |true=>exact aq zn s1 Y H1 D bb bq|false=>exact ab zn s1 Y H1 D bb bq
def aes:hh:=λ_ _ _=>False
def abM:iK X st aes:=λ_ _ _ _ _ _ h=>h.elim
end
abbrev i':=V->St->aw->(St->aw->Prop)->Prop
abbrev pd:=List V->St->aw->(St->aw->Prop)->Prop
def o7(X:aU)(target:Expr)(t:i'):Prop:=
 ∀(zn:cX)(s:ajp)(Y:St)(H:aw)(v:V)(u:Value)(Q:St->aw->Prop),Inv X zn Y H s->RelV v u->t v Y H Q->
  wpAny (model X.prog X.w) X.A (alR target X.env u) (λ_ aP=>∃Y' H',Inv X zn Y' H' aP/\Q Y' H') X.dU s
def lP(X:aU)(et:List Expr)(t:pd):Prop:=
 ∀(zn:cX)(s:ajp)(Y:St)(H:aw)(vs:List V)(us:List Value)(Q:St->aw->Prop),Inv X zn Y H s->Vals vs us->t vs Y H Q->
  wpAny (model X.prog X.w) X.A (assignInOrder ((ajQ et X.env).map (·.2)) us) (λ_ aP=>∃Y' H',Inv X zn Y' H' aP/\Q Y' H') X.dU s
section
variable{X:aU}{pos:Pos}
def lj(i:Nat):i':=λv Y H Q=>Q (Y.set i (some v)) H
def vS(hN:X.N.Nodup)(aA:X.N[i]? = some x)(ag:Loc X.env.scope x)(hf:X.fn x=true\/X.env.scope.names.lookup x=some .local:=by first|exact .inl rfl|exact .inr rfl|assumption):o7 X (.Name x pos) (lj i):=by
 intro zn s Y H v u Q J r h;exact wpAny_assign_Name (Og J hN aA ag r (λaP h7=>⟨_,H,h7,h⟩) hf)
def IM:pd:=λvs Y H Q=>vs=[]/\Q Y H
def IL(t:i')(u:pd):pd:=λvs Y H Q=>∃v r,vs=v::r/\t v Y H λY' H'=>u r Y' H' Q
def abz:lP X [] IM:=by
 intro zn s Y H vs us Q J r h;obtain⟨e,h⟩:=h;subst e;cases r;exact assignInOrder_nil ⟨Y,H,J,h⟩
def aby{e:Expr}{ay:List Expr}{t:i'}{u:pd}(af:o7 X e t)(ah:lP X ay u)
  (aC:(ajQ (e::ay) X.env).map (·.2)=alR e X.env::(ajQ ay X.env).map (·.2):=by rfl):lP X (e::ay) (IL t u):=by
 intro zn s Y H vs us Q J r h;obtain⟨v,E6,ao,h⟩:=h;subst ao
 cases r with
 |cons r br=>
  rw[aC];refine assignInOrder_cons (bX (af zn s Y H _ _ _ J r h) λ_ s1 aX=>?_);obtain⟨h6,H1,bb,bq⟩:=aX;exact ah zn s1 h6 H1 _ _ Q bb br bq
def qF(K:aS)(n:Nat)(t:pd):i':=λv Y H Q=>∃a xs,v=.ref a/\dI K H a xs/\xs.length=n/\t xs Y H Q
def vT{ay:List Expr}{k:Nat}{t:pd}{n:Nat}(aI:X.calm=true)(h:lP X ay t)
  (aG:(ajQ ay X.env).length=n:=by rfl) (gh:(ajQ ay X.env).findIdx? (·.1)=none:=by rfl):o7 X (.Tuple ay k pos) (qF X.K n t):=by
 intro zn s Y H v u Q J r hw;obtain⟨a,xs,ao,a',au,hw⟩:=hw;subst ao;cases r;obtain⟨its,bR,bO,hz⟩:=J.tuple a';refine assign_Tuple_tuple (J.ok.hd aI) bO (by simp[aG,<-au,bR.length]) gh λh' ag=>?_
 have bb:Inv X zn Y H { s with heap:=h' }:=J.kept (t':=s.toks) λb o e=>ag b o (ajJ (ajD e)) e
 exact h zn _ Y H xs _ Q bb (by simpa using bR) hw
def tv(te:TE)(g:i'):hh:=λD Y H=>te Y H λx H1=>g x Y H1 D.bo
def abJ{ck e:Expr}{te:TE}{g:i'}(he:bV X e te)(aY:o7 X ck g)(aC:swapsWithSole [ck] e pos.line X.env=pure false:=by rfl)(hw:swappedStores [ck] e X.env=pure none:=by rfl)
  (af:(ajQ [ck] X.env).map (·.2)=[alR ck X.env]:=by rfl):iK X (.Assign [ck] e pos) (tv te g):=by
 intro zn s Y H D J h;refine wpAny_Assign_stores (bX (he zn s Y H _ J h) λv s1 ⟨x,H1,bb,bB,bq⟩=>?_) aC hw;rw[af];exact bX (aY zn s1 Y H1 x v _ bb bB bq) λ_ s2 q=>q
def Eg(hN:X.N.Nodup)(aA:X.N[i]? = some x)(ag:Loc X.env.scope x)(he:bV X e te)(aC:akP e (some (.Name x pos')) pos.line X.env=pure false:=by rfl)(hf:X.fn x=true\/X.env.scope.names.lookup x=some .local:=by first|exact .inl rfl|exact .inr rfl|assumption) :
  iK X (.Assign [.Name x pos'] e pos) (tv te (lj i)):=by
 intro zn s Y H D J h;refine wpAny_Assign_Name (bX (he zn s Y H _ J h) λv s1 ⟨y,H1,bb,bB,bq⟩=>?_) aC;exact Og bb hN aA ag bB (λs2 bU=>⟨_,H1,bU,bq⟩) hf
end
structure iy where
 go:Nat->aw->Prop
 oU:Nat->aw->V->aw->Prop
 stop:Nat->aw->Prop
def gC(X:aU)(zn:cX)(H:aw)(b:Addr):Prop:=
 H b=none/\b≠X.env.locals/\b∉X.aZ/\(b∈X.ex\/X.g8.heap.objs.size<=b)/\(∀x c,X.env.cells.lookup x=some c->c≠b)/\∀p∈X.lD++zn,p.1≠b
def Inv.pw{H H':aw}{s:ajp}(J:Inv X zn Y H s)(ab:s.heap.objs.size<=b)(aG:H' b=none):gC X zn H' b:=by
 refine⟨aG,Nat.ne_of_gt (aj1 J.lt ab),J.aag ab,.inr (akq J.lG ab),λx c e z=>?_,λp aH z=>?_⟩
 .obtain⟨v,q⟩:=J.cell x c e
  exact absurd (aj1 q.lt (by rw[z];exact ab)) (aj7 _)
 .exact absurd (aj1 (ajD (J.pin p aH).1) (by rw[z];exact ab)) (aj7 _)
structure Turn(P:ajF)(w:World)(K:aS)(ck:Expr)(cm:iy)(aN:List Addr)(it:Addr)(ft:Nat->Heap->Prop):Prop where
 mem:it∈aN
 obj:∀i h,ft i h->∀b∈aN,∃o,h.get? b=some o/\∀v,o.data≠.cell v
 keep:∀i h h',ft i h->(∀b∈aN,∀o,h.get? b=some o->h'.get? b=some o)->ft i h'
 item:∀(X:aU),X.prog=P->X.w=w->X.K=K->X.calm=true->∀(i:Nat)(zn:cX)(s:ajp)(Y:St)(H:aw)(E:cF),Inv X zn Y H s->(∀b∈aN,gC X zn H b)->ft i s.heap->cm.go i H->
  wpAny (model P w) X.A (alS (.ref it)) (λr s1=>∃u,r=some u/\
   wpAny (model P w) X.A (amS ck (.ref it) u) (λ_ s2=>∃x H',Inv X zn Y H' s2/\RelV x u/\cm.oU i H x H'/\ft (i+1) s2.heap/\∀b∈aN,H' b=none) E s1) E s
 done:∀(X:aU),X.prog=P->X.w=w->X.K=K->X.calm=true->∀(i:Nat)(zn:cX)(s:ajp)(Y:St)(H:aw)(E:cF),Inv X zn Y H s->(∀b∈aN,gC X zn H b)->ft i s.heap->cm.stop i H->
  wpAny (model P w) X.A (alS (.ref it)) (λr s1=>r=none/\Inv X zn Y H s1) E s
 self:∀(A:ajM)(i:Nat)(s:ajp)(Q:cF)(E:cF),ft i s.heap->Q (.ref it) s->wpAny (model P w) A (pyIter (.ref it)) Q E s
abbrev TI:=St->aw->(iy->aw->Prop)->Prop
def FF(X:aU)(zn:cX)(Y:St)(ck:Expr)(R:iy->aw->Prop)(yz:Value)(s2:ajp):Prop:=
 ∃(it:Addr)(aN:List Addr)(ft:Nat->Heap->Prop)(cm:iy)(H':aw),yz=.ref it/\Inv X zn Y H' s2/\Turn X.prog X.w X.K ck cm aN it ft/\ft 0 s2.heap/\(∀b∈aN,gC X zn H' b)/\R cm H'
def ko(X:aU)(ck iter:Expr)(wi:TI):Prop:=
 ∀(zn:cX)(s:ajp)(Y:St)(H:aw)(R:iy->aw->Prop),Inv X zn Y H s->wi Y H R->
  wpAny (model X.prog X.w) X.A (eval iter X.env) (λv s1=>wpAny (model X.prog X.w) X.A (pyIter v) (FF X zn Y ck R) X.dU s1) X.dU s
def uJ{M:Model}{A:ajM}{E:cF}{s:ajp}{ck:Expr}{it:Addr}{u:Value}{o:Obj}{n:String}{vs:Array Value}{Q:Unit->ajp->Prop}(bg:s.heap.get? it=some o)(aI:o.cls=.type n)(hd:o.data=.fields vs)
    (aG:["enumerate","zip","dict_itemiterator","dict_reverseitemiterator","odict_iterator","itertools.zip_longest","itertools.pairwise"].contains n=false) (iS:Q () s):wpAny M A (amS ck (.ref it) u) Q E s:=by
  unfold amS;cases ck<;>first
    |exact ajr iS
    |(cases u<;>first
        |exact ajr iS
        | (refine ajl (wpAny_load bg ?_)
           rw[aI,hd];show wpAny M A (if(["enumerate","zip","dict_itemiterator","dict_reverseitemiterator","odict_iterator","itertools.zip_longest","itertools.pairwise"].contains n&&vs[0]? == some (alz _))=true then _ else _) Q E s;rw[if_neg (by intro h;rw[aG,Bool.false_and]at h;cases h)];exact ajr iS))
def lM(K:aS)(a:Addr):iy:=
 ⟨λi H=>∃xs x,dn K H a xs/\xs[i]? = some x,λi H x H'=>H'=H/\∀xs,dn K H a xs->xs[i]? = some x,λi H=>∃xs,dn K H a xs/\xs.length<=i⟩
def rP(K:aS)(a:Addr):iy:=
 ⟨λi H=>∃xs x,dI K H a xs/\xs[i]? = some x,λi H x H'=>H'=H/\∀xs,dI K H a xs->xs[i]? = some x,λi H=>∃xs,dI K H a xs/\xs.length<=i⟩
def o4(lo:Int)(n:Nat):iy:=⟨λi _=>i<n,λi H x H'=>H'=H/\x=.int (lo+i),λi _=>n<=i⟩
def aeZ{P:ajF}{w:World}{K:aS}{ck:Expr}(a it:Addr):Turn P w K ck (lM K a) [it] it (λi h=>h.IsListIter it a i) where
 mem:=by simp
 obj:=λi h st b ab=>by
  have e:b=it:=by simpa using ab
  subst e;obtain⟨o,e,c,d⟩:=st;exact⟨o,e,λv z=>by rw[d]at z;cases z⟩
 keep:=λi h h' st k=>st.at λo e=>k it (by simp) o e
 item:=by
  intro X en hw hD aI i zn s Y H E J hf st aY;subst en hw hD;obtain⟨xs,x,a',ag⟩:=aY;obtain⟨its,bR,p,hz⟩:=J.list a';obtain⟨u,cx,d9⟩:=bR.get ag;obtain⟨f0,f1,f2,fw,f4,gT⟩:=hf it (by simp);refine wpAny_pyNext_list_item st p.isList (x:=u) (by simpa using cx) λh' cc kR=>?_
  have bb:Inv X zn Y H { s with heap:=h' }:=J.turned (t':=s.toks) (λb o ab e=>(kR.2 b ab).trans e) f0 f1 fw f4 gT;obtain⟨o,e,c,d⟩:=id cc;exact⟨u,rfl,uJ (s:={ s with heap:=h' }) e c d (by decide) ⟨x,H,bb,d9,⟨rfl,λys ba=>by rw[J.K4 ba a'];exact ag⟩,cc,λb ab=>(hf b ab).1⟩⟩
 done:=by
  intro X en hw hD aI i zn s Y H E J hf st aY;subst en hw hD;obtain⟨xs,a',ag⟩:=aY;obtain⟨its,bR,p,hz⟩:=J.list a';obtain⟨f0,f1,f2,fw,f4,gT⟩:=hf it (by simp);have au:=bR.length;exact wpAny_pyNext_list_end (J.ok.hd aI) st p.isList (by simp;omega) λh' c6=>⟨rfl,J.turned (t':=s.toks) (λb o ab e=>c6 b o ab e) f0 f1 fw f4 gT⟩
 self:=λ_ _ _ _ _ st h=>wpAny_pyIter_listiter st h
def ae1{P:ajF}{w:World}{K:aS}{ck:Expr}(a it:Addr):Turn P w K ck (rP K a) [it] it (λi h=>h.IsTupleIter it a i) where
 mem:=by simp
 obj:=λi h st b ab=>by
  have e:b=it:=by simpa using ab
  subst e;obtain⟨o,e,c,d⟩:=st;exact⟨o,e,λv z=>by rw[d]at z;cases z⟩
 keep:=λi h h' st k=>st.at λo e=>k it (by simp) o e
 item:=by
  intro X en hw hD aI i zn s Y H E J hf st aY;subst en hw hD;obtain⟨xs,x,a',ag⟩:=aY;obtain⟨its,bR,p,hz⟩:=J.tuple a';obtain⟨u,cx,d9⟩:=bR.get ag;obtain⟨f0,f1,f2,fw,f4,gT⟩:=hf it (by simp);refine wpAny_pyNext_tuple_item st (show s.heap.IsTuple a its.toArray from p) (x:=u) (by simpa using cx) λh' cc kR=>?_
  have bb:Inv X zn Y H { s with heap:=h' }:=J.turned (t':=s.toks) (λb o ab e=>(kR.2 b ab).trans e) f0 f1 fw f4 gT;obtain⟨o,e,c,d⟩:=id cc;exact⟨u,rfl,uJ (s:={ s with heap:=h' }) e c d (by decide) ⟨x,H,bb,d9,⟨rfl,λys ba=>by rw[J.OO ba a'];exact ag⟩,cc,λb ab=>(hf b ab).1⟩⟩
 done:=by
  intro X en hw hD aI i zn s Y H E J hf st aY;subst en hw hD;obtain⟨xs,a',ag⟩:=aY;obtain⟨its,bR,p,hz⟩:=J.tuple a';obtain⟨f0,f1,f2,fw,f4,gT⟩:=hf it (by simp);have au:=bR.length;exact wpAny_pyNext_tuple_end (J.ok.hd aI) st (show s.heap.IsTuple a its.toArray from p) (by simp;omega) λh' c6=>⟨rfl,J.turned (t':=s.toks) (λb o ab e=>c6 b o ab e) f0 f1 fw f4 gT⟩
 self:=λ_ _ _ _ _ st h=>wpAny_pyIter_tupleiter st h
def ae0{P:ajF}{w:World}{K:aS}{ck:Expr}(it:Addr)(lo:Int)(n:Nat):Turn P w K ck (o4 lo n) [it] it (λi h=>IsRangeIter h it (lo+(i:Nat)*1) ((n:Int)-(i:Nat)) 1) where
 mem:=by simp
 obj:=λi h st b ab=>by
  have e:b=it:=by simpa using ab
  subst e;exact⟨_,st,λv z=>by
   have k0:Data.fields _=Data.cell v:=z;cases k0⟩
 keep:=λi h h' st k=>k it (by simp) _ st
 item:=by
  intro X en hw hD aI i zn s Y H E J hf st aY;subst en hw hD;obtain⟨f0,f1,f2,fw,f4,gT⟩:=hf it (by simp);have W:=Walks.range (prog:=X.prog) (w:=X.w) (J.ok.hd aI) it lo 1 n;refine W.item i s _ _ aY st λv h' tk bI cc d8=>?_
  obtain⟨t,rfl⟩:=bI;have bb:Inv X zn Y H { s with heap:=h',toks:=tk }:=J.turned (λb o ab e=>d8 b o (by simpa using ab) e) f0 f1 fw f4 gT;refine⟨_,rfl,uJ (s:={ s with heap:=h',toks:=tk }) (n:="range_iterator") cc rfl rfl (by decide) ⟨.int (lo+i),H,bb,⟨t,?_⟩,⟨rfl,rfl⟩,cc,λb ab=>(hf b ab).1⟩⟩;rw[Int.mul_one]
 done:=by
  intro X en hw hD aI i zn s Y H E J hf st aY;subst en hw hD;obtain⟨f0,f1,f2,fw,f4,gT⟩:=hf it (by simp);exact wpAny_pyNext_range_end (J.ok.hd aI) st (by have:n<=i:=aY;omega) λh' c6=>⟨rfl,J.turned (t':=s.toks) (λb o ab e=>c6 b o ab e) f0 f1 fw f4 gT⟩
 self:=λ_ _ _ _ _ st h=>wpAny_pyIter_rangeiter st h
section
variable{X:aU}{ck:Expr}
def X'(K:aS)(h4:TE):TI:=λY H R=>h4 Y H λx H1=>∃a,x=.ref a/\(∃xs,dn K H1 a xs)/\R (lM K a) H1
def Ya(K:aS)(h4:TE):TI:=λY H R=>h4 Y H λx H1=>∃a,x=.ref a/\(∃xs,dI K H1 a xs)/\R (rP K a) H1
def Eb(au:bV X l h4):ko X ck l (X' X.K h4):=by
 intro zn s Y H R J h;refine bX (au zn s Y H _ J h) λv s1 aX=>?_
 obtain⟨x,H1,bb,bB,bq⟩:=aX;obtain⟨a,e,⟨xs,a'⟩,q⟩:=bq;subst e;cases bB;obtain⟨its,bR,p,hz⟩:=bb.list a';refine alg p.isList ?_;refine⟨s1.heap.objs.size,[s1.heap.objs.size],_,_,H1,rfl,bb.kept (t':=s1.toks) λb o e=>ajn _ e,aeZ a _,⟨_,ajA _ rfl,rfl,rfl⟩,λb ab=>?_,q⟩;have e:b=s1.heap.objs.size:=by simpa using ab
 subst e;exact bb.pw (ajq _) (bb.bQ.fresh (ajq _))
def Mh(au:bV X l h4):ko X ck l (Ya X.K h4):=by
 intro zn s Y H R J h;refine bX (au zn s Y H _ J h) λv s1 aX=>?_
 obtain⟨x,H1,bb,bB,bq⟩:=aX;obtain⟨a,e,⟨xs,a'⟩,q⟩:=bq;subst e;cases bB;obtain⟨its,bR,p,hz⟩:=bb.tuple a';refine alT (show s1.heap.IsTuple a its.toArray from p) ?_;refine⟨s1.heap.objs.size,[s1.heap.objs.size],_,_,H1,rfl,bb.kept (t':=s1.toks) λb o e=>ajn _ e,ae1 a _,⟨_,ajA _ rfl,rfl,rfl⟩,λb ab=>?_,q⟩;have e:b=s1.heap.objs.size:=by simpa using ab
 subst e;exact bb.pw (ajq _) (bb.bQ.fresh (ajq _))
def acb{zn:cX}{Y:St}{H:aw}{s:ajp}{R:iy->aw->Prop}{E:cF}{lo aA:Int}{t u v:Tok}{tk:Nat}(J:Inv X zn Y H s)(af:-(2 ^ 62)<=lo)(ah:lo<2 ^ 62)(bN:-(2 ^ 62)<=aA)(dz:aA<2 ^ 62)
  (q:R (o4 lo (aA-lo).toNat) H):wpAny (model X.prog X.w) X.A (pyIter (.ref s.heap.objs.size)) (FF X zn Y ck R) E { s with heap:=s.heap.push { cls:=.type "range",data:=.fields #[.int lo t,.int aA u,.int 1 v] },toks:=tk }:=by
 refine wpAny_pyIter_range (IsRange.new ..) (small_one af ah bN dz) ?_;have bb:Inv X zn Y H { s with heap:=s.heap.push { cls:=.type "range",data:=.fields #[.int lo t,.int aA u,.int 1 v] },toks:=tk }:=J.kept λb o e=>ajn _ e
 refine⟨(s.heap.push { cls:=.type "range",data:=.fields #[.int lo t,.int aA u,.int 1 v] }).objs.size,[(s.heap.push { cls:=.type "range",data:=.fields #[.int lo t,.int aA u,.int 1 v] }).objs.size],_,_,H,rfl,
  bb.kept (t':=tk) λb o e=>ajn _ e,ae0 _ lo (aA-lo).toNat,?_,λb ab=>?_,q⟩
 .have ao:lo+((0:Nat):Int)*1=lo:=by simp
  have az:(((aA-lo).toNat:Nat):Int)-((0:Nat):Int)=Builtin.Range.rangeSize lo aA 1:=by rw[rangeSize_one];split<;>omega
  show IsRangeIter _ _ (lo+((0:Nat):Int)*1) ((((aA-lo).toNat:Nat):Int)-((0:Nat):Int)) 1;rw[ao,az];exact ajA _ rfl
 .have e:b=(s.heap.push { cls:=.type "range",data:=.fields #[.int lo t,.int aA u,.int 1 v] }).objs.size:=by simpa using ab
  subst e;exact bb.pw (ajq _) (bb.bQ.fresh (ajq _))
def CH(b3:gv):TI:=λY H R=>b3 Y H λvs H1=>∃j:Int,vs=[.int j]/\-(2 ^ 62)<=j/\j<2 ^ 62/\R (o4 0 j.toNat) H1
def Ec(aY:eC X "range")(hm:X.mg "range"=none)(aq:eN X [a] b3)(aC:ajo [a] X.env=[(false,eval a X.env)]:=by rfl):ko X ck (.Call (.Name "range" p) [a] [] pos) (CH b3):=by
 intro zn s Y H R J h;refine Call_ (q0 J aY hm boot_range (al8 (bX (aq pos zn s Y H _ J h) λus s1 ⟨vs,H1,bb,bB,bq⟩=>?_) aC rfl));obtain⟨j,e,bq,b1,q⟩:=bq;subst e
 cases bB with
 |cons r br=>
  cases br;obtain⟨t,rfl⟩:=r;exact call_range_1 (acb bb (by omega) (by omega) bq b1 (by simpa using q))
def rt(wi:TI)(g:i')(cU:hh):hh:=λD Y H=>wi Y H λcm H1=>∃W:Nat->Nat->St->aw->Prop,(∃m,W 0 m Y H1)/\∀i m Y H,W i m Y H->
 (cm.stop i H/\D.bo Y H)\/(cm.go i H/\∃N:St->aw->Prop,(∀Y' H',N Y' H'->∃eI,eI<m/\W (i+1) eI Y' H')/\∀x H',cm.oU i H x H'->g x Y H' λdQ aM=>cU { D with bo:=N,ct:=N,cG:=D.bo } dQ aM)
def ri(aN:List Addr)(h:Heap):List (Addr×Obj):=aN.filterMap λb=>(h.get? b).map λo=>(b,o)
def y9{h:Heap}(ab:b∈aN)(e:h.get? b=some o):(b,o)∈ri aN h:=List.mem_filterMap.mpr ⟨b,ab,by rw[e];rfl⟩
def aas{h:Heap}(aH:p∈ri aN h):p.1∈aN/\h.get? p.1=some p.2:=by
 obtain⟨b,ab,e⟩:=List.mem_filterMap.mp aH
 cases q:h.get? b with
 |none=>rw[q]at e;cases e
 |some o=>
  rw[q]at e;have cz:(b,o)=p:=ajT e;subst cz;exact⟨ab,q⟩
def Inv.pinned{s:ajp}(J:Inv X zn Y H s)(hf:∀b∈aN,gC X zn H b)(bg:∀b∈aN,∃o,s.heap.get? b=some o/\∀v,o.data≠.cell v):Inv X (zn++ri aN s.heap) Y H s:=
 J.Mj λp aH=>(aj2.mp aH).elim (λz=>J.pin p (akf _ z)) λz=>by
  obtain⟨ab,e⟩:=aas z;obtain⟨f0,f1,f2,_⟩:=hf p.1 ab;obtain⟨o,cz,d⟩:=bg p.1 ab;rw[e]at cz;cases cz;exact⟨e,f0,f1,f2,d⟩
def Inv.wy(J:Inv X (zn++pl) Y H s):Inv X zn Y H s:=J.Mj λp aH=>J.pin p (akf _ (amQ _ aH))
def zu{iter:Expr}{body:List Stmt}{wi:TI}{g:i'}{cU:hh}{pos:Pos}(aH:anf (model X.prog X.w) X.A X.env X.dU)(aI:X.calm=true)(aA:ko X ck iter wi)(aY:o7 X ck g)(ab:iL X body cU)
  (aC:∀x,akc iter X.env x=pure x:=by intro _;rfl):iK X (.For ck iter body [] pos) (rt wi g cU):=by
 intro zn s Y H D J h;refine wpAny_For (bX (aA zn s Y H _ J h) λv s1 af=>bX af λyz s2 ah=>?_) aC;obtain⟨it,aN,ft,cm,aM,e,bU,T,cK,f2,W,⟨m0,rB⟩,turn⟩:=ah;subst e;have rp:∀{H':aw},(∀b∈aN,H' b=none)->∀b∈aN,gC X zn H' b:=λaG b ab=>⟨aG b ab,(f2 b ab).2⟩
 refine codeAny_forLoop_any (λn aP=>∃i Y' H',Inv X zn Y' H' aP/\ft i aP.heap/\(∀b∈aN,H' b=none)/\W i n Y' H') ?_ m0 ⟨0,Y,aM,bU,cK,λb ab=>(f2 b ab).1,rB⟩;rintro n s3 ⟨i,wM,cP,dD,f9,II,rC⟩;rcases turn i n wM cP rC with⟨stop,zy⟩|⟨go,N,hN,step⟩
 .refine amj aH (bX (T.done X rfl rfl rfl aI i zn s3 wM cP X.dU dD (rp II) f9 stop) λr s4 aX=>?_)
  obtain⟨aB,i8⟩:=aX;subst aB;exact aoa ⟨wM,cP,i8,zy⟩
 .refine amj aH (bX (T.item X rfl rfl rfl aI i zn s3 wM cP X.dU dD (rp II) f9 go) λr s4 aX=>?_)
  obtain⟨u,aB,dz⟩:=aX;subst aB;refine amj aH (bX dz λ_ s5 aX=>?_);obtain⟨x,k6,rN,Eo,agn,p7,xY⟩:=aX;have PF:=rN.pinned (rp xY) (T.obj _ _ p7);refine amj aH (bX (aY _ s5 wM k6 x u _ PF Eo (step x k6 agn)) λ_ s6 aX=>?_);obtain⟨aho,Pz,tR,abV⟩:=aX;refine amj aH (bX (ab _ s6 aho Pz _ tR abV) λf s7 p4=>?_);have again:∀{mL:St}{jV:aw},Inv X (zn++ri aN s5.heap) mL jV s7->N mL jV->∃m,m<n/\∃i Y' H',Inv X zn Y' H' s7/\ft i s7.heap/\(∀b∈aN,H' b=none)/\W i m Y' H':=λ{mL jV} kl vB=>by
   obtain⟨eI,hm,afd⟩:=hN mL jV vB;refine⟨eI,hm,i+1,mL,jV,kl.wy,T.keep _ _ _ p7 λb ab o e=>(kl.pin (b,o) (akf _ (akf _ (y9 ab e)))).1,λb ab=>?_,afd⟩;obtain⟨o,e,d⟩:=T.obj _ _ p7 b ab;exact(kl.pin (b,o) (akf _ (akf _ (y9 ab e)))).2.1
  cases f with
  |next=>obtain⟨mL,jV,kl,vB⟩:=p4;exact again kl vB
  |cont=>obtain⟨mL,jV,kl,vB⟩:=p4;exact again kl vB
  |brk=>obtain⟨mL,jV,kl,p4⟩:=p4;exact⟨mL,jV,kl.wy,p4⟩
  |ret v=>obtain⟨agc,mL,jV,kl,Ep,p4⟩:=p4;exact⟨agc,mL,jV,kl.wy,Ep,p4⟩
end
abbrev fG:=V->V->aw->c9->Prop
def ej(X:aU)(f:Value->Value->Sem Value)(r:fG):Prop:=
 ∀(zn:cX)(s:ajp)(Y:St)(H:aw)(x y:V)(v u:Value)(Q:c9),Inv X zn Y H s->RelV x v->RelV y u->r x y H Q->
  wpAny (model X.prog X.w) X.A (f v u) (ht X zn Y Q) X.dU s
def js(X:aU)(f:Value)(r:List V->aw->c9->Prop):Prop:=
 ∀(zn:cX)(s:ajp)(Y:St)(H:aw)(xs:List V)(us:List Value)(Q:c9),Inv X zn Y H s->Vals xs us->r xs H Q->
  wpAny (model X.prog X.w) X.A (call f us) (ht X zn Y Q) X.dU s
def tx(r:fG)(b3 cU:TE):TE:=λY H Q=>b3 Y H λx H1=>cU Y H1 λy aM=>r x y aM Q
def kc(C:Int->Int->Prop)(g:Int->Int->V):fG:=λx y H Q=>∃i j,x=.int i/\y=.int j/\C i j/\Q (g i j) H
def hZ(g:Int->Int->V):fG:=λx y H Q=>∃i j,x=.int i/\y=.int j/\Q (g i j) H
section
variable{X:aU}{a b:Expr}{b3 cU:TE}{pos:Pos}
def A9(aq:bV X a b3)(ab:bV X b cU){zn:cX}{s:ajp}{Y:St}{H:aw}{R:V->V->aw->Prop}(J:Inv X zn Y H s)
  (h:b3 Y H λx H1=>cU Y H1 λy aM=>R x y aM) {Q:cF}{f:Value->Value->Sem Value}
  (hf:∀v u s2 x y aM,Inv X zn Y aM s2->RelV x v->RelV y u->R x y aM->wpAny (model X.prog X.w) X.A (f v u) Q X.dU s2) :
  wpAny (model X.prog X.w) X.A (eval a X.env) (λv du=>wpAny (model X.prog X.w) X.A (eval b X.env) (λu mC=>wpAny (model X.prog X.w) X.A (f v u) Q X.dU mC) X.dU du) X.dU s:=by
 refine bX (aq zn s Y H _ J h) λv s1 aX=>?_
 obtain⟨x,H1,bb,bB,bq⟩:=aX;refine bX (ab zn s1 Y H1 _ bb bq) λu s2 aX=>?_
 obtain⟨y,aM,bU,b_,b1⟩:=aX;exact hf v u s2 x y aM bU bB b_ b1
def Mc{r:fG}(bg:ej X (alc op) r)(aq:bV X a b3)(ab:bV X b cU):bV X (.BinOp a op b pos) (tx r b3 cU):=by
 intro zn s Y H Q J h;exact wpAny_BinOp (A9 aq ab J h λv u s2 x y aM bU a9 bA q=>bg zn s2 Y aM x y v u Q bU a9 bA q)
def th{f:Value->Value->Sem Value}{C:Int->Int->Prop}{g:Int->Int->Int}
  (rule:∀(i j:Int)(t u:Tok)(s:ajp)(Q:cF)(E:cF),C i j->Q (.int (g i j) s.toks) { s with toks:=s.toks+1 }->wpAny (model X.prog X.w) X.A (f (.int i t) (.int j u)) Q E s) :
  ej X f (kc C λi j=>.int (g i j)):=by
 intro zn s Y H x y v u Q J a9 bA h;obtain⟨i,j,rfl,rfl,aI,q⟩:=h;obtain⟨t,rfl⟩:=a9;obtain⟨t',rfl⟩:=bA;exact rule i j t t' s _ _ aI ⟨.int (g i j),H,J.tok _,⟨_,rfl⟩,q⟩
def zl{f:Value->Value->Sem Value}{g:Int->Int->Int}
  (rule:∀(i j:Int)(t u:Tok)(s:ajp)(Q:cF)(E:cF),Q (.int (g i j) s.toks) { s with toks:=s.toks+1 }->wpAny (model X.prog X.w) X.A (f (.int i t) (.int j u)) Q E s) :
  ej X f (hZ λi j=>.int (g i j)):=by
 intro zn s Y H x y v u Q J a9 bA h;obtain⟨i,j,rfl,rfl,q⟩:=h;obtain⟨t,rfl⟩:=a9;obtain⟨t',rfl⟩:=bA;exact rule i j t t' s _ _ ⟨.int (g i j),H,J.tok _,⟨_,rfl⟩,q⟩
def zk{f:Value->Value->Sem Value}{g:Int->Int->Bool}
  (rule:∀(i j:Int)(t u:Tok)(s:ajp)(Q:cF)(E:cF),Q (.bool (g i j)) s->wpAny (model X.prog X.w) X.A (f (.int i t) (.int j u)) Q E s) :
  ej X f (hZ λi j=>.aE (g i j)):=by
 intro zn s Y H x y v u Q J a9 bA h;obtain⟨i,j,rfl,rfl,q⟩:=h;obtain⟨t,rfl⟩:=a9;obtain⟨t',rfl⟩:=bA;exact rule i j t t' s _ _ ⟨.aE (g i j),H,J,rfl,q⟩
def wR(i j:Int):Prop:=0<=j/\j<=1000000/\i.natAbs<2 ^ 64
def wQ(i j:Int):Prop:=(-(2 ^ 64)<i/\i<2 ^ 64)\/(-(2 ^ 64)<j/\j<2 ^ 64)
def wQ.ok{i j:Int}(h:wQ i j):IntMulOk i j:=by
 rcases h with⟨af,ah⟩|⟨af,ah⟩
 .exact .of_left (intBits_le_64 af ah)
 .exact .of_right (intBits_le_64 af ah)
def ae3(k:Nat):(0:Int)<=2 ^ k:=by
 rw[two_pow_cast];exact Int.natCast_nonneg _
def aaz:ej X (alc .Add) (hZ λi j=>.int (i+j)):=zl λ_ _ _ _ _ _ _ q=>add_int q
def aaM:ej X (alc .Sub) (hZ λi j=>.int (i-j)):=zl λ_ _ _ _ _ _ _ q=>sub_int q
def aaG:ej X (alc .Mod) (kc (λ_ j=>0<j) λi j=>.int (i % j)):=th λi j _ _ _ _ _ aI q=>by
 have af:(0:Int)<j:=aI;exact mod_int' (by omega) (by rw[Int.fmod_eq_emod_of_nonneg i (by omega)];exact q)
def aaJ:ej X (alc .Pow) (kc wR λi j=>.int (i ^ j.toNat)):=th λ_ _ _ _ _ _ _ aI q=>pow_int_small aI.1 aI.2.1 aI.2.2 q
def aaK:ej X (alc .LShift) (kc wR λi j=>.int (i*2 ^ j.toNat)):=th λ_ _ _ _ _ _ _ aI q=>lshift_int_small aI.1 aI.2.1 aI.2.2 q
def aaL:ej X (alc .RShift) (kc (λ_ j=>0<=j) λi j=>.int (i / 2 ^ j.toNat)):=th λi j _ _ _ _ _ aI q=>
 rshift_int aI (by rw[anu i (ae3 _)];exact q)
def aaB:ej X (alc .BitAnd) (hZ λi j=>.int (al3 i j)):=zl λ_ _ _ _ _ _ _ q=>and_int q
def aaI:ej X (alc .BitOr) (hZ λi j=>.int (amH i j)):=zl λ_ _ _ _ _ _ _ q=>or_int q
end
section
variable{X:aU}{a b c:Expr}{b3 cU tB:TE}{pos:Pos}
def BP{Q:c9}{k mj:Bool}(J:Inv X zn Y H s)(q:Q (.aE k) H)(e:k=mj):ht X zn Y Q (.bool mj) s:=by
 subst e;exact⟨.aE k,H,J,rfl,q⟩
def L1:ej X (aj9 .Lt) (hZ λi j=>.aE (decide (i<j))):=zk λ_ _ _ _ _ _ _ q=>lt_int q
def D2:ej X (aj9 .LtE) (hZ λi j=>.aE (decide (i<=j))):=zk λ_ _ _ _ _ _ _ q=>le_int q
def aaE:ej X (aj9 .Gt) (hZ λi j=>.aE (decide (j<i))):=zk λ_ _ _ _ _ _ _ q=>gt_int q
def LX:ej X (aj9 .GtE) (hZ λi j=>.aE (decide (j<=i))):=zk λ_ _ _ _ _ _ _ q=>ge_int q
def LZ:ej X (aj9 .In) (λx y H Q=>∃i j,x=.str i/\y=.str j/\Q (.aE (!(alP j i 0 j.length 1).isEmpty)) H):=by
 intro zn s Y H x y v u Q J a9 bA h;obtain⟨i,j,rfl,rfl,q⟩:=h;obtain⟨t,rfl⟩:=a9;obtain⟨t',rfl⟩:=bA;exact in_str (BP J q rfl)
def L0:ej X (aj9 .Is) (λx y H Q=>y=.aQ/\Q (.aE (decide (x=.aQ))) H):=by
 intro zn s Y H x y v u Q J a9 bA h;obtain⟨rfl,q⟩:=h;cases bA;refine is_none_gen (BP J q ?_);cases x<;>first
  |(cases a9;rfl)
  |(obtain⟨t,rfl⟩:=a9;rfl)
def L2:ej X (aj9 .IsNot) (λx y H Q=>y=.aQ/\Q (.aE (!decide (x=.aQ))) H):=by
 intro zn s Y H x y v u Q J a9 bA h;obtain⟨rfl,q⟩:=h;cases bA;refine isnot_none_gen (BP J q ?_);cases x<;>first
  |(cases a9;rfl)
  |(obtain⟨t,rfl⟩:=a9;rfl)
def jf(b:Expr)(h:op≠.In:=by decide)(ah:op≠.NotIn:=by decide):ali op b=false:=by
 have ao:(op==CmpOp.In)=false:=by cases op<;>first|rfl|exact absurd rfl h
 have az:(op==CmpOp.NotIn)=false:=by cases op<;>first|rfl|exact absurd rfl ah
 cases b<;>simp[ali,ao,az]
def abd{r:fG}(bg:ej X (aj9 op) r)(aq:bV X a b3)(ab:bV X b cU)(hm:ali op b=false):bV X (.Compare a [op] [b] pos) (tx r b3 cU):=by
 intro zn s Y H Q J h;exact wpAny_Compare1 (A9 aq ab J h λv u s2 x y aM bU a9 bA q=>bg zn s2 Y aM x y v u Q bU a9 bA q) hm
def wq(t:TE):TT:=λY H Q=>t Y H λx H'=>∃k,x=.aE k/\Q k H'
theorem abP{r:fG}(bg:ej X (aj9 op) r)(aq:bV X a b3)(ab:bV X b cU)(hm:ali op b=false):iM X (.Compare a [op] [b] pos) (wq (tx r b3 cU)):=by
 intro zn s Y H Q J h;refine wpAny_isTrue_Compare1 (bX (aq zn s Y H _ J h) λv s1 ⟨x,H1,bb,bB,bq⟩=>bX (ab zn s1 Y H1 _ bb bq) λu s2 ⟨y,aM,bU,b_,b1⟩=>
  bX (bg zn s2 Y aM x y v u _ bU bB b_ b1) λc s3 ⟨z,cP,dD,kP,k,e,gB⟩=>?_) hm
 subst e;cases kP;exact akE ⟨cP,dD,gB⟩
def Ou(r bP:fG)(b3 cU tB:TE):TE:=λY H Q=>b3 Y H λx H1=>cU Y H1 λy aM=>r x y aM λz cP=>∃k,z=.aE k/\
 (if k=true then tB Y cP λeu hK=>bP y eu hK Q else Q (.aE false) cP)
def abO{op tg:CmpOp}{r bP:fG}(bg:ej X (aj9 op) r)(ik:ej X (aj9 tg) bP)(aq:bV X a b3)(ab:bV X b cU)(aI:bV X c tB)
  (hm:lastMarks [op,tg] [b,c]=false:=by with_unfolding_all rfl):iM X (.Compare a [op,tg] [b,c] pos) (wq (Ou r bP b3 cU tB)):=by
 intro zn s Y H Q J h;refine isTrue_chain (bX (aq zn s Y H _ J h) λv s1 ⟨x,H1,bb,bB,bq⟩=>test_link (bX (ab zn s1 Y H1 _ bb bq) λu s2 ⟨y,aM,bU,b_,b1⟩=>
  bX (bg zn s2 Y aM x y v u _ bU bB b_ b1) λd s3 ⟨z,cP,dD,kP,k,e,gB⟩=>?_)) hm
 subst e;cases kP;refine akE ?_
 cases k with
 |false=>
  obtain⟨mj,cz,fp⟩:=gB;cases cz;exact ite_ff ⟨cP,dD,fp⟩
 |true=>
  refine ite_tt (test_last (bX (aI zn s3 Y cP _ dD gB) λeu s4 ⟨k0,hK,i8,nE,El⟩=>bX (ik zn s4 Y hK y k0 u eu _ i8 b_ nE El) λd' s5 aX=>?_));obtain⟨ew,k6,rN,Eo,gi,az,abU⟩:=aX;subst az;cases Eo;exact akE ⟨k6,rN,abU⟩
def vf:(ajt:Nat)<2 ^ 63:=by rw[ajP];decide
def aaA:ej X (alc .Add) (λx y H Q=>∃i j,x=.str i/\y=.str j/\i.length+j.length<=ajt/\Q (.str (i++j)) H):=by
 intro zn s Y H x y v u Q J a9 bA h;obtain⟨i,j,rfl,rfl,hz,q⟩:=h;obtain⟨t,rfl⟩:=a9;obtain⟨t',rfl⟩:=bA;exact add_str (λt' tk=>⟨.str (i++j),H,J.tok _,⟨_,rfl⟩,q⟩) hz
def vals1(r:Vals [x] us):∃u,us=[u]/\RelV x u:=by
 cases r with
 |cons bB b_=>cases b_;exact⟨_,rfl,bB⟩
def vals2(r:Vals [x,y] us):∃u eu,us=[u,eu]/\RelV x u/\RelV y eu:=by
 cases r with
 |cons bB b_=>
  cases b_ with
  |cons kP nE=>cases nE;exact⟨_,_,rfl,bB,kP⟩
def SD:js X (.builtin "abs") (λxs H Q=>∃i,xs=[.int i]/\Q (.int (if i<0 then -i else i)) H):=by
 intro zn s Y H xs us Q J r h;obtain⟨i,rfl,q⟩:=h;obtain⟨u,rfl,t,rfl⟩:=vals1 r;exact call_abs_int λu tk=>⟨.int (if i<0 then -i else i),H,J.tok _,⟨_,rfl⟩,q⟩
def SJ(aI:X.calm=true):js X (.builtin "max") (λxs H Q=>∃i j,xs=[.int i,.int j]/\Q (.int (if j > i then j else i)) H):=by
 intro zn s Y H xs us Q J r h;obtain⟨i,j,rfl,q⟩:=h;obtain⟨u,eu,rfl,⟨t,rfl⟩,⟨t',rfl⟩⟩:=vals2 r;refine max_two_ints (J.ok.hd aI) λh' tk k=>⟨_,H,J.kept k,?_,q⟩
 by_cases aW:j > i
 .rw[if_pos aW,if_pos aW];exact⟨_,rfl⟩
 .rw[if_neg aW,if_neg aW];exact⟨_,rfl⟩
end
structure qr(h:Heap)(x b8 C:Addr)(eo:bt):Prop where
 obj:h.get? x=some (amo C b8)
 ns:h.Ns1 b8 eo
 ne:b8≠x
def Zw{h:Heap}{eo:bt}(n:h.Ns1 b8 eo):∃c3,h.get? b8=some c3/\∀name,W.lookIn name c3=some (eo name):=by
 obtain⟨o,ay,cM,bg,hd,ax,_,hm⟩:=n;refine⟨o,bg,λname=>?_⟩;have e:=hm name;unfold nsFind ang at e;rw[<-Array.find?_toList]at e;unfold W.lookIn;rw[hd];dsimp only;split
 .rename_i y q
  rw[q]at e;exact congrArg some e
 .rename_i q
  rw[q]at e;have a:ay.toList.any (·.refKey)=false:=by
   rw[List.any_eq_false];intro y ba;obtain⟨z,t,yi⟩:=ax y (Array.mem_toList_iff.mp ba);simp[DictEntry.refKey,yi]
  have PT:¬ay.toList.any (·.refKey)=true:=by rw[a];exact ajx
  rw[if_neg PT];exact congrArg some e
def qr.look{eo:bt}(J:qr h x b8 C eo):∃c3,W.InstAt h x (amo C b8) C (some c3)/\∀name,W.lookIn name c3=some (eo name):=
 let⟨c3,bg,au⟩:=Zw J.ns
 ⟨c3,⟨J.obj,rfl,rfl,bg⟩,au⟩
section
variable{prog:ajF}{w:World}{A:ajM}{E:cF}{s:ajp}{K:aS}{x b8 C f:Addr}{eo:bt}{name:Str}{v:Value}
def get_map{expr:Bool}{Q:cF}(X:K.In s.heap)(J:qr s.heap x b8 C eo)(aY:anI K C name=true)(dE:aof K C=true)
  (aq:alw K (.ref C) name=some none) (bI:eo name=some v) (mb:W.handedIn v=true) (h:Q v { s with toks:=s.toks+1 }) :
  wpAny (model prog w) A (getAttr (.ref x) name expr) Q E s:=by
 obtain⟨c3,cm,au⟩:=J.look;exact W.get_value X cm (W.plainGet_of aY).1 (W.findObj_own dE aq rfl (by rw[au,bI])) mb h
def Vx{pl:Sem Bool}{Q:Value×List Value->ajp->Prop}(X:K.In s.heap)(J:qr s.heap x b8 C eo)(aY:anI K C name=true)
  (hf:alw K (.ref C) name=some (some (.ref f))) (bO:W.isFn K (.ref f)=true) (bI:eo name=none) (h:Q (.ref f,[.ref x]) s) :
  wpAny (model prog w) A (alC (.ref x) name pl) Q E s:=by
 obtain⟨c3,cm,au⟩:=J.look;exact W.method_fn X cm (W.plainGet_of aY).1 (W.plainGet_of aY).2 hf (beq_iff_eq.mp bO) (by show(W.lookIn name c3).map (·.isSome)=some false;rw[au,bI];rfl) h
def adM{ns:List Str}{Q:Unit->ajp->Prop}(X:K.In s.heap)(J:qr s.heap x b8 C eo)
  (aC:alw K (.ref C) "__setattr__"=some (some (.builtin "object.__setattr__"))) (aH:W.plainOver K C=true) (bO:W.takerIn K C name=some none) (dE:aof K C=true)
  (hw:Within eo ns) (hsz:ns.length<=ajt)
  (h:∀h',qr h' x b8 C (λy=>if y=name then some v else eo y)->amR b8 s.heap h'->Q () { s with heap:=h',toks:=s.toks+2 }) :
  wpAny (model prog w) A (setAttr (.ref x) name v) Q E s:=by
 obtain⟨c3,cm,au⟩:=J.look;refine W.set_plain X cm aC (W.osa_open (s:={ s with toks:=s.toks+1 }) (r:=none) X cm aH bO λb=>?_);obtain⟨cd,aI,uR⟩:=W.any_some dE;have ag:s.heap.get? x=some ⟨.ref C,some b8,.plain,#[]⟩:=J.obj;refine ajl (ajr (ajl (ajl (wpAny_loadPart ag (ajl (W.Looks.here (s:={ s with toks:=s.toks+1 }) (W.looks_clsIn X aI) ?_))))));rw[uR];refine ajr (a:=some b8) (ajl (ajr (ajl ?_)));refine wpAny_nsSet1 (s:={ s with toks:=s.toks+1 }) J.ns λh' sr kF=>?_
 obtain⟨aiZ,aiB,aiA,XS,Xe,Xc⟩:=sr.count (Within.cons name v hw);refine ajl (wpAny_lookBehind XS (by rw[Xe];exact pastItsLine_dict (akq Xc (by rw[ajC];omega))) ?_);exact ajr (h _ ⟨(kF.2 _ (amg J.ne)).trans J.obj,sr,J.ne⟩ kF)
def ZG{R:Result->ajp->Prop}{vs:List Value}{kw:List (Str×Value)}(X:K.In s.heap)(hm:W.makesIn K C=true)
  (aA:alw K (.ref C) "__init__"=some (some (.ref f))) (hf:W.typeIn K (.ref f)=some (.type "function"))
  (h:al4 (model prog w) (A.under (.builtin "type.__call__" ⟨.ref C::vs,kw⟩)) (.call (.ref f) ⟨.ref (s.heap.objs.size+1)::vs,kw⟩) (W.InitBack (s.heap.objs.size+1) R)
   { s with heap:=(s.heap.push alD).push (amo C s.heap.objs.size) }) :
  al4 (model prog w) A (.call (.ref C) ⟨vs,kw⟩) R s:=by
 obtain⟨dE,g,d,t,os⟩:=s;exact W.make_core (W.makes_of X hm) (W.looks_findIn X aA) (λself=>W.bind_fn X self hf) (.inl rfl) h
end
def ir(f:Str)(v:V):List (Str×V)->List (Str×V)
 |[]=>[(f,v)]
 |(g,x)::r=>if g=f then(g,v)::r else(g,x)::ir f v r
theorem K8(f g:Str)(v:V):∀aZ:List (Str×V),(ir f v aZ).lookup g=if g=f then some v else aZ.lookup g
 |[]=>by
  show ak1 g [(f,v)]=_
  by_cases h:g=f
  .have ab:(g==f)=true:=beq_iff_eq.mpr h
   simp only[ak1,ab,if_pos h]
  .have ab:(g==f)=false:=beq_eq_false_iff_ne.mpr h
   simp only[ak1,ab,if_neg h]
 |(k,x)::r=>by
  have a8:=K8 f g v r;rw[show ir f v ((k,x)::r)=(if k=f then(k,v)::r else(k,x)::ir f v r)from rfl]
  by_cases ax:k=f
  .rw[if_pos ax]
   by_cases h:g=k
   .have ab:(g==k)=true:=beq_iff_eq.mpr h
    simp only[ak1,ab,if_pos (h.trans ax)]
   .have ab:(g==k)=false:=beq_eq_false_iff_ne.mpr h
    simp only[ak1,ab,if_neg (λe:g=f=>h (e.trans ax.symm))]
  .rw[if_neg ax]
   by_cases h:g=k
   .have ab:(g==k)=true:=beq_iff_eq.mpr h
    simp only[ak1,ab,if_neg (λe:g=f=>ax (h.symm.trans e))]
   .have ab:(g==k)=false:=beq_eq_false_iff_ne.mpr h
    simp only[ak1,ab];exact a8
theorem C0(f:Str)(v:V):∀aZ:List (Str×V),f∈(ir f v aZ).map (·.1)/\∀g,g∈aZ.map (·.1)->g∈(ir f v aZ).map (·.1)
 |[]=>⟨by simp[ir],λg h=>by simp at h⟩
 |(k,x)::r=>by
  obtain⟨fy,fT⟩:=C0 f v r;rw[show ir f v ((k,x)::r)=(if k=f then(k,v)::r else(k,x)::ir f v r)from rfl]
  by_cases ax:k=f
  .rw[if_pos ax]
   subst ax;exact⟨by simp,λg h=>by simpa using h⟩
  .rw[if_neg ax]
   refine⟨?_,λg h=>?_⟩
   .rw[ajw]
    exact ajv _ fy
   .rw[ajw]at h ⊢
    rcases aju.mp h with e|e
    .exact aju.mpr (.inl e)
    .exact ajv _ (fT g e)
theorem K2(f:Str)(v:V):∀aZ:List (Str×V),(ir f v aZ).length<=aZ.length+1
 |[]=>by simp[ir]|(k,x)::r=>by
  have a8:=K2 f v r;rw[show ir f v ((k,x)::r)=(if k=f then(k,v)::r else(k,x)::ir f v r)from rfl]
  by_cases ax:k=f
  .rw[if_pos ax,ajC,ajC];omega
  .rw[if_neg ax,ajC,ajC];omega
def iA.some_of{v:V}(r:iA (some v) o):∃u,o=some u/\RelV v u:=by
 cases o with
 |none=>exact(show False from r).elim|some u=>exact⟨u,rfl,r⟩
def iA.none_of(r:iA none o):o=none:=by
 cases o with
 |none=>rfl|some u=>exact(show False from r).elim
def V1{v:V}(r:RelV v u):W.handedIn u=true:=by
 cases v with
 |aQ=>cases(show u=akB from r);rfl
 |aE b=>cases(show u=al9 b from r);rfl
 |int i=>obtain⟨t,e⟩:=(show ∃t,u=amL i t from r);cases e;rfl
 |str x=>obtain⟨t,e⟩:=(show ∃t,u=anc x t from r);cases e;rfl
 |xr b=>obtain⟨t,e⟩:=(show ∃t,u=Value.bytes b t from r);cases e;rfl
 |xU b=>obtain⟨t,e⟩:=(show ∃t,u=Value.float b t from r);cases e;rfl
 |ref a=>cases(show u=ajU a from r);rfl
 |ty n=>cases(show u=amv n from r);rfl
section
variable{P:ajF}{w:World}{H:aw}{h:Heap}{a C b8:Addr}{aZ:List (Str×V)}
def CK(bQ:fh P w H h)(e:H a=some (.ins C b8 aZ)):∃eo,qr h a b8 C eo/\(∀f,iA (aZ.lookup f) (eo f))/\Within eo (aZ.map (·.1))/\aZ.length<=1000/\H b8=some (.own a):=by
 obtain⟨d,z,ne,bC,eo,n,r,q⟩:=(show gN P w H h a (.ins C b8 aZ)from bQ a _ e);exact⟨eo,⟨bC,n,ne⟩,r,q,z,d⟩
end
structure i6(K:aS)(C:Addr):Prop where
 nC:anI K C Str.empty=true
 hd:aof K C=true
 po:W.plainOver K C=true
 oI:alw K (.ref C) "__setattr__"=some (some (.builtin "object.__setattr__"))
def i6.get{K:aS}{C:Addr}(c:i6 K C)(f:Str):anI K C f=true:=c.nC
def qp(K:aS)(C:Addr)(f:Str):Prop:=alw K (.ref C) f=some none
def qp.aeI{K:aS}{C:Addr}{f:Str}(n:qp K C f):W.takerIn K C f=some none:=by
 unfold W.takerIn;rw[show alw K (.ref C) f=some none from n];rfl
structure Meth(K:aS)(C:Addr)(m:Str)(f:Addr):Prop where
 at_:alw K (.ref C) m=some (some (.ref f))
 fn:W.isFn K (.ref f)=true
 kp:alm K (.ref f)=true
section
variable{X:aU}{zn:cX}{Y:St}{H:aw}{s:ajp}{a C b8:Addr}{aZ:List (Str×V)}{f:Str}{v:V}{A:ajM}{E:cF}
def Vy{b:Bool}{Q:cF}(J:Inv X zn Y H s)(e:H a=some (.ins C b8 aZ))(c:i6 X.K C)(n:qp X.K C f)(l:aZ.lookup f=some v)
  (h:∀u aP,Inv X zn Y H aP->RelV v u->Q u aP):wpAny (model X.prog X.w) A (getAttr (.ref a) f b) Q E s:=by
 obtain⟨eo,O,r,_,_,_⟩:=CK J.bQ e;obtain⟨u,cx,d9⟩:=iA.some_of (v:=v) (o:=eo f) (by rw[<-l];exact r f);exact get_map J.fe O (c.get f) c.hd n cx (V1 d9) (h u _ (J.tok _) d9)
def B2{m:Str}{g:Addr}{pl:Sem Bool}{Q:Value×List Value->ajp->Prop}(J:Inv X zn Y H s)(e:H a=some (.ins C b8 aZ))(c:i6 X.K C)(k:Meth X.K C m g)(l:aZ.lookup m=none)
  (h:Q (.ref g,[.ref a]) s):wpAny (model X.prog X.w) A (alC (.ref a) m pl) Q E s:=by
 obtain⟨eo,O,r,_,_,_⟩:=CK J.bQ e;have aG:eo m=none:=iA.none_of (by rw[<-l];exact r m);exact Vx J.fe O (c.get m) k.at_ k.fn aG h
def adN{y:V}{u:Value}{Q:Unit->ajp->Prop}(J:Inv X zn Y H s)(e:H a=some (.ins C b8 aZ))(c:i6 X.K C)(n:qp X.K C f)(au:aZ.length<1000)(bA:RelV y u)
  (h:∀aP,Inv X zn Y (upd H a (.ins C b8 (ir f y aZ))) aP->Q () aP):wpAny (model X.prog X.w) A (setAttr (.ref a) f u) Q E s:=by
 obtain⟨eo,O,r,wi,_,bg⟩:=CK J.bQ e;have hz:(aZ.map (·.1)).length<=ajt:=by rw[ajm,ajP];omega
 refine adM J.fe O c.oI c.po n.aeI c.hd wi hz λh' aj kR=>h _ ?_
 have hd:∃o,h'.get? b8=some o:=let⟨o,_,_,cz,_⟩:=aj.ns;⟨o,cz⟩
 refine J.write (x:=a) (e:=b8) (by rw[e];exact akK) (.inr bg) (λb q ab z=>(kR.2 b ab).trans z) hd ?_;refine⟨by rw[df O.ne];exact bg,?_,O.ne,aj.obj,_,aj.ns,λg=>?_,λg aY=>?_⟩
 .have:=K2 f y aZ;omega
 .show iA ((ir f y aZ).lookup g) (if g=f then some u else eo g)
  rw[K8]
  by_cases q:g=f
  .rw[if_pos q,if_pos q];exact bA
  .rw[if_neg q,if_neg q];exact r g
 .by_cases q:g=f
  .rw[q];exact(C0 f y aZ).1
  .refine(C0 f y aZ).2 g (wi g λz=>aY ?_)
   show(if g=f then some u else eo g)=none;rw[if_neg q];exact z
theorem Inv.made(J:Inv X zn Y H s):Inv X zn Y (upd (upd H s.heap.objs.size (.own (s.heap.objs.size+1))) (s.heap.objs.size+1) (.ins C s.heap.objs.size []))
  { s with heap:=(s.heap.push alD).push (amo C s.heap.objs.size) }:=by
 have ao:(s.heap.push alD).get? s.heap.objs.size=some alD:=ajA s.heap rfl;have az:((s.heap.push alD).push (amo C s.heap.objs.size)).get? (s.heap.objs.size+1)=some (amo C s.heap.objs.size):=by
  have:=ajA (s.heap.push alD) (o:=amo C s.heap.objs.size) rfl
  rwa[alE]at this
 have cI:(s.heap.push alD).Ns s.heap.objs.size (λ_=>none):=⟨alD,#[],_,ao,rfl,(λe he=>absurd he (by simp)),λ_=>rfl⟩;have bb:=J.laid (a:=s.heap.objs.size) (o:=.own (s.heap.objs.size+1)) (h':=s.heap.push alD) (t':=s.toks) (λb u q=>ajn _ q) (ajq _) ⟨_,ao⟩;refine bb.laid (a:=s.heap.objs.size+1) (o:=.ins C s.heap.objs.size []) (t':=s.toks) (λb u q=>ajn _ q) (ak2 (alE _ _)) ?_;have ne:s.heap.objs.size≠s.heap.objs.size+1:=ajJ (anS _);refine⟨by rw[df ne,dx],ajN _,ne,az,λ_=>none,(Heap.Ns1.of_empty cI).at λo q=>ajn _ q,λ_=>akK,λy ba=>absurd rfl ba⟩
def Qa{prog:ajF}{w:World}{env:Env}{e:Expr}{f:Str}{pos:Pos}{s:ajp}{Q:cF}(ab:ak8 e f env (eval e env)=eval e env)
  (h:wpAny (model prog w) A (eval e env) (λo du=>wpAny (model prog w) A (getAttr o f true) Q E du) E s):wpAny (model prog w) A (eval (.Attribute e f pos) env) Q E s:=
 Attribute_any_ h (by rw[arm_eval_Attribute,ab])
end
def aeo(K:aS)(b3:TE)(f:Str):TE:=λY H Q=>b3 Y H λx H1=>∃a C b8 aZ v,x=.ref a/\H1 a=some (.ins C b8 aZ)/\i6 K C/\qp K C f/\aZ.lookup f=some v/\Q v H1
def acp(K:aS)(b3 kX:TE)(f:Str):hh:=λD Y H=>kX Y H λy H1=>b3 Y H1 λx aM=>∃a C b8 aZ,x=.ref a/\aM a=some (.ins C b8 aZ)/\i6 K C/\qp K C f/\aZ.length<1000/\
 D.bo Y (upd aM a (.ins C b8 (ir f y aZ)))
section
variable{X:aU}{o e value:Expr}{f:Str}{pos pos':Pos}{b3 kX:TE}
def abi(he:bV X e b3)(ab:ak8 e f X.env (eval e X.env)=eval e X.env):bV X (.Attribute e f pos) (aeo X.K b3 f):=by
 intro zn s Y H Q J h;refine Qa ab (bX (he zn s Y H _ J h) λu s1 aX=>?_);obtain⟨x,H1,bb,a9,a,C,b8,aZ,v,ex,gy,c,n,l,q⟩:=aX;subst ex;obtain rfl:u=ajU a:=a9;exact Vy bb gy c n l λu' s2 bU d9=>⟨v,H1,bU,d9,q⟩
def abL(aq:bV X o b3)(bI:bV X value kX)(aC:akP value (some (.Attribute o f pos')) pos.line X.env=pure false):iK X (.Assign [.Attribute o f pos'] value pos) (acp X.K b3 kX f):=by
 intro zn s Y H D J h;refine plainObj_wpAny_Assign_Attribute (bX (bI zn s Y H _ J h) λu s1 ⟨y,H1,bb,bA,q⟩=>bX (aq zn s1 Y H1 _ bb q) λeK s2 ⟨x,aM,bU,a9,a,C,b8,aZ,ex,gy,c,n,l,b1⟩=>?_) aC;subst ex;obtain rfl:eK=ajU a:=a9;exact adN bU gy c n l bA λs3 dD=>⟨Y,_,dD,b1⟩
def aiW{pl:Sem Bool}{m:Str}{apos:Pos}{args:List Expr}{zn:cX}{s:ajp}{Y:St}{H:aw}{Q:cF}{te:TE}(he:bV X e te)(J:Inv X zn Y H s)
  (h:te Y H λx H1=>∃a C b8 aZ g,x=.ref a/\H1 a=some (.ins C b8 aZ)/\i6 X.K C/\Meth X.K C m g/\aZ.lookup m=none/\
   ∀s1,Inv X zn Y H1 s1->wpAny (model X.prog X.w) X.A (ama pos (.ref g) [.ref a] (ajS pos (ajo args X.env)) (ald pos (akI [] X.env))) Q X.dU s1)
  (bO:eval (.Call (.Attribute e m apos) args [] pos) X.env=(do
   let eK <-eval e X.env
   al2 apos.atName
   let(f,first) <-alf [eK] (alC eK m pl)
   ama pos f first (ajS pos (ajo args X.env)) (ald pos (akI [] X.env)))) :
  wpAny (model X.prog X.w) X.A (eval (.Call (.Attribute e m apos) args [] pos) X.env) Q X.dU s:=by
 refine aob (pl:=pl) (bX (he zn s Y H _ J h) λu s1 ⟨x,H1,bb,a9,a,C,b8,aZ,g,ex,gy,c,k,l,q⟩=>?_) bO;subst ex;obtain rfl:u=ajU a:=a9;exact B2 bb gy c k l (q s1 bb)
end
structure cE(k:Nat)(A:ajM):Prop where
 hd:A.handled=none
 uh:A.depth+3*k+5<recursionLimit
 un:A.units+16*k+200<cLine
def cE.mono{j k:Nat}(r:cE k A)(h:j<=k):cE j A:=⟨r.hd,by have:=r.uh;omega,by have:=r.un;omega⟩
def cE.deeper{k:Nat}{A:ajM}(r:cE (k+1) A)(env:Env):cE k (A.deeper env):=
 ⟨r.hd,by have:=r.uh;show A.depth+1+3*k+5 < _;omega,by have:=r.un;show A.units+3+16*k+200 < _;omega⟩
def cE.in1{k:Nat}{A:ajM}(r:cE (k+1) A):cE k A.in1:=
 ⟨r.hd,by have:=r.uh;show A.depth+3*k+5 < _;omega,by have:=r.un;show A.units+1+16*k+200 < _;omega⟩
def ZF{A:ajM}:(A.under (.builtin "type.__call__" ⟨.ref C::us,kw⟩)).depth=A.depth+1:=by
 first|rfl|simp[aox,Code.weight,Code.isCreation,Code.isGuard,Code.isCaller,Code.frames,Code.isFrame,guardIds]
def ZH{A:ajM}:(A.under (.builtin "type.__call__" ⟨.ref C::us,kw⟩)).units=A.units+1:=by
 first|rfl|simp[aox,Code.cUnits,Code.frames,Code.isFrame]
def cE.make{k:Nat}{A:ajM}(r:cE (k+1) A)(C:Addr)(us:List Value)(kw:List (Str×Value)):cE k (A.under (.builtin "type.__call__" ⟨.ref C::us,kw⟩)):=
 ⟨r.hd,by have:=r.uh;rw[ZF];omega,by have:=r.un;rw[ZH];omega⟩
def cE.depth{k:Nat}{A:ajM}(r:cE k A):A.depth<recursionLimit:=by have:=r.uh;omega
def cE.units{k:Nat}{A:ajM}(r:cE k A):A.units+64<cLine:=by have:=r.un;omega
def cE.ae8{k:Nat}{A:ajM}(r:cE k A):A.units<cLine:=by have:=r.un;omega
def wm:gv:=λ_ H Q=>Q [] H
def aei(b3:TE)(kV:gv):gv:=λY H Q=>b3 Y H λx H1=>kV Y H1 λxs aM=>Q (x::xs) aM
section
variable{X:aU}{e:Expr}{ay:List Expr}{te:TE}{t:gv}{pos:Pos}
def D5:eN X [] wm:=λ_ _ _ _ H Q J h=>anB ⟨[],H,J,.nil,h⟩
theorem zp(aq:bV X e te)(aB:eN X ay t)(aC:ajo (e::ay) X.env=(false,eval e X.env)::ajo ay X.env:=by rfl):eN X (e::ay) (aei te t):=by
 intro pos zn s Y H Q J h;rw[aC];show wpAny _ _ (spliced ((false,eval e X.env)::ajS pos (ajo ay X.env))) _ _ s;refine amq (bX (aq zn s Y H _ J h) λu s1 aX=>?_);obtain⟨x,H1,bb,bB,bq⟩:=aX;exact bX (aB pos zn s1 Y H1 _ bb bq) λus s2 ⟨xs,aM,bU,b_,b1⟩=>⟨x::xs,aM,bU,.cons bB b_,b1⟩
def aeE(t:gv):TE:=λY H Q=>t Y H λxs H1=>xs.length<=ajt/\∀p,H1 p=none->Q (.ref p) (upd H1 p (.tup xs))
def aeq(t:gv):TE:=λY H Q=>t Y H λxs H1=>xs.length<=ajt/\∀p,H1 p=none->Q (.ref p) (upd H1 p (.lst xs))
theorem D9{lI}(h:eN X ay t):bV X (.Tuple ay lI pos) (aeE t):=by
 intro zn s Y H Q J a';refine wpAny_Tuple_spliced (bX (h pos zn s Y H _ J a') λus s1 ⟨xs,H1,bb,r,z,q⟩=>⟨by rw[<-r.length];exact z,?_⟩);have hf:H1 s1.heap.objs.size=none:=bb.bQ.fresh (ajq _);refine⟨.ref s1.heap.objs.size,upd H1 s1.heap.objs.size (.tup xs),bb.laid (t':=s1.toks) (λb u e=>ajn _ e) (ajq _) ?_,rfl,q _ hf⟩;exact⟨z,us,r,⟨_,ajA _ rfl,rfl,_,rfl⟩⟩
theorem abn(h:eN X ay t):bV X (.List ay pos) (aeq t):=by
 intro zn s Y H Q J a';refine wpAny_List_spliced (bX (h pos zn s Y H _ J a') λus s1 ⟨xs,H1,bb,r,z,q⟩=>⟨by rw[<-r.length];exact z,?_⟩);have hf:H1 s1.heap.objs.size=none:=bb.bQ.fresh (ajq _);refine⟨.ref s1.heap.objs.size,upd H1 s1.heap.objs.size (.lst xs),bb.laid (t':=s1.toks) (λb u e=>ajn _ e) (ajq _) ?_,rfl,q _ hf⟩;exact⟨z,us,0,r,ajA _ rfl⟩
end
abbrev ek:=List V->aw->c9->gE->Prop
abbrev mO:=List Env->aw->ajp->gE->Value->ajp->Prop
structure k4(P:ajF)(w:World)(K:aS)(mg:bt)(base:Heap)(A:ajM)(outer:List Env)(s:ajp)(H:aw):Prop where
 frames:A.frames=some outer
 mod:Mod K mg base
 bs:∀b o,base.get? b=some o->s.heap.get? b=some o/\H b=none
 lS:base.objs.size<=s.heap.objs.size
 kA:s.heap.FunFrames base outer
 px:∀b∈l2 outer,H b=none
 bQ:fh P w H s.heap
 bare:amM s.gens
def hI(outer:List Env)(P:ajF)(w:World)(H:aw)(s:ajp)(Q:c9)(u:Value)(aP:ajp):Prop:=
 ∃v H',aP.os=s.os/\amM aP.gens/\gP (l2 outer) [] H H' s.heap aP.heap/\fh P w H' aP.heap/\RelV v u/\Q v H'
def Fq(eB:mO)(outer:List Env)(P:ajF)(w:World)(H:aw)(s:ajp)(Q:c9)(E:gE)(r:Result)(aP:ajp):Prop:=
 match r with
 |.ok (.ret u)=>hI outer P w H s Q u aP|.ok _=>False|.error e=>eB outer H s E e aP
structure fg(P:ajF)(w:World)(K:aS)(mg:bt)(base:Heap)(eB:mO)(k:Nat)(f:Addr)(fd:akA)(ps:List Str)(sp:ek):Prop where
 len:∀vs H Q E,sp vs H Q E->vs.length=ps.length
 run:∀(A:ajM)(outer:List Env)(s:ajp)(H:aw)(args:Args)(us:List Value)(vs:List V)(Q:c9)(E:gE),cE k A->k4 P w K mg base A outer s H->BindsTo s fd args (ps.zip us)->Vals vs us->sp vs H Q E->
  al4 (model P w) A (.call (.ref f) args) (Fq eB outer P w H s Q E) s
def fg.mono{P:ajF}{w:World}{K:aS}{mg:bt}{base:Heap}{eB:mO}{j k:Nat}{f:Addr}{fd:akA}{ps:List Str}{sp:ek}(F:fg P w K mg base eB j f fd ps sp)(h:j<=k) :
  fg P w K mg base eB k f fd ps sp:=⟨F.len,λA outer s H args us vs Q E aB=>F.run A outer s H args us vs Q E (aB.mono h)⟩
def fg.imp{P:ajF}{w:World}{K:aS}{mg:bt}{base:Heap}{eB:mO}{k:Nat}{f:Addr}{fd:akA}{ps:List Str}{sp Od:ek}(F:fg P w K mg base eB k f fd ps sp)
  (h:∀vs H Q E,Od vs H Q E->sp vs H Q E):fg P w K mg base eB k f fd ps Od:=
 ⟨λvs H Q E q=>F.len vs H Q E (h _ _ _ _ q),λA outer s H args us vs Q E aB he ab bI aC=>F.run A outer s H args us vs Q E aB he ab bI (h _ _ _ _ aC)⟩
def k4.make{P:ajF}{w:World}{K:aS}{mg:bt}{base:Heap}{A:ajM}{outer:List Env}{s:ajp}{H:aw}(e:k4 P w K mg base A outer s H)(C:Addr)(us:List Value)(kw:List (Str×Value)) :
  k4 P w K mg base (A.under (.builtin "type.__call__" ⟨.ref C::us,kw⟩)) outer s H:=⟨by first|exact e.frames|(simpa[aox,Code.envs,Code.isFrame,pushEnvs]using e.frames),e.mod,e.bs,e.lS,e.kA,e.px,e.bQ,e.bare⟩
def k4.in1{P:ajF}{w:World}{K:aS}{mg:bt}{base:Heap}{A:ajM}{outer:List Env}{s:ajp}{H:aw}(e:k4 P w K mg base A outer s H) :
  k4 P w K mg base A.in1 outer s H:=⟨e.frames,e.mod,e.bs,e.lS,e.kA,e.px,e.bQ,e.bare⟩
section
variable{X:aU}{zn:cX}{Y:St}{H:aw}{s aP:ajp}
def Inv.uq(J:Inv X zn Y H s):k4 X.prog X.w X.K X.mg X.base X.A X.stack s H:=
 ⟨J.ok.frames,J.ok.mod,J.bs,akq J.ok.lS J.lG,J.stack,J.Of,J.bQ,J.bare⟩
def Inv.after(J:Inv X zn Y H s)(h:hI X.stack X.prog X.w H s Q u aP):ht X zn Y Q u aP:=by
 obtain⟨v,H',os,bare,un,bQ,r,q⟩:=h;obtain⟨dE,g,d,t,aaP⟩:=aP;obtain rfl:aaP=s.os:=os;exact⟨v,H',J.call (h':=dE) (g':=g) (d':=d) (t':=t) (ch:=[]) un bQ bare (λb z=>absurd z (by simp)),r,q⟩
end
def Ot(sp:ek)(dvs:List V)(E:gE)(t:gv):TE:=λY H Q=>t Y H λvs H1=>sp (vs++dvs) H1 Q E
def Ov(C:Addr)(m:Str)(sp:ek)(dvs:List V)(E:gE)(b3:TE)(t:gv):TE:=λY H Q=>b3 Y H λx H1=>∃a b8 aZ,x=.ref a/\H1 a=some (.ins C b8 aZ)/\aZ.lookup m=none/\
 t Y H1 λvs aM=>sp (x::(vs++dvs)) aM Q E
def aer(C:Addr)(sp:ek)(dvs:List V)(E:gE)(t:gv):TE:=λY H Q=>t Y H λvs H1=>∀x b8,H1 x=none->H1 b8=none->b8≠x->
 sp (.ref x::(vs++dvs)) (upd (upd H1 b8 (.own x)) x (.ins C b8 [])) (λv aM=>v=.aQ/\Q (.ref x) aM) E
def Binds(K:aS)(fd:akA)(ps:List Str)(ds:List Value):Prop:=
 ∀(s:ajp)(us:List Value),K.In s.heap->(us++ds).length=ps.length->BindsTo s fd ⟨us,[]⟩ (ps.zip (us++ds))
def Binds.all{K:aS}{fd:akA}{ps:List Str}(h:∀us:List Value,us.length=ps.length->alF fd ⟨us,[]⟩=pure (ps.zip us)):Binds K fd ps []:=λs us _ au=>by
 rw[akv]at au ⊢;exact .of_eq (h us au)
def Passes(eB:mO)(X:aU)(E:gE):Prop:=∀(zn:cX)(Y:St)(H:aw)(s:ajp)(e:Value)(aP:ajp),Inv X zn Y H s->eB X.stack H s E e aP->X.dU e aP
section
variable{X:aU}{eB:mO}{k:Nat}{f C:Addr}{fd:akA}{ps:List Str}{sp:ek}{dvs:List V}{ds:List Value}{E:gE}{x m:Str}{p pos apos:Pos}{e o:Expr}{ay:List Expr}{b3:TE}{t:gv}
theorem v_{zn:cX}{Y:St}{H:aw}{s:ajp}{Q:c9}{us:List Value}{vs:List V}(F:fg X.prog X.w X.K X.mg X.base eB k f fd ps sp)(aB:cE k X.A)(ab:Binds X.K fd ps ds)(hd:Vals dvs ds)(ag:Passes eB X E)
  (J:Inv X zn Y H s) (r:Vals vs us) (h:sp (vs++dvs) H Q E):wpAny (model X.prog X.w) X.A (call (.ref f) us) (ht X zn Y Q) X.dU s:=by
 have b_:Vals (vs++dvs) (us++ds):=r.append hd;have au:(us++ds).length=ps.length:=by rw[<-b_.length];exact F.len _ _ _ _ h
 refine wpAny_call (alG (F.run X.A X.stack s H ⟨us,[]⟩ (us++ds) (vs++dvs) Q E aB J.uq (ab s us J.fe au) b_ h) λr aP a'=>?_)
 cases r with
 |error e=>exact ag zn Y H s e aP J a'|ok a_=>
  cases a_ with
  |ret u=>exact J.after a'|next=>exact aj4 a'
  |brk=>exact aj4 a'|cont=>exact aj4 a'
def aa8(F:fg X.prog X.w X.K X.mg X.base eB k f fd ps sp)(aB:cE k X.A)(aY:eC X x)(hm:X.mg x=some (.ref f))(ax:alm X.K (.ref f)=true)(ab:Binds X.K fd ps ds)(hd:Vals dvs ds)(ag:Passes eB X E)
  (aq:eN X (e::ay) t) (eH:(x==("__debug__":Str))=false:=by decide) (he:ajo (e::ay) X.env=(false,eval e X.env)::ajo ay X.env:=by rfl) (e1:(ajS pos (ajo ay X.env)).any (·.1)=false:=by rfl) :
  bV X (.Call (.Name x p) (e::ay) [] pos) (Ot sp dvs E t):=by
 intro zn s Y H Q J h;refine akS (sH J aY hm ?_ eH);refine anT (h₀:=X.base) J.ok.mod.sE ax (bX (aq pos zn s Y H _ J h) λus s1 ⟨vs,H1,bb,r,q⟩=>⟨bb.fe,?_⟩) he e1;exact v_ F aB ab hd ag bb r q
def aa9(F:fg X.prog X.w X.K X.mg X.base eB k f fd ps sp)(aB:cE k X.A)(aY:eC X x)(hm:X.mg x=some (.ref f))(ax:alm X.K (.ref f)=true)(ab:Binds X.K fd ps ds)(hd:Vals dvs ds)(ag:Passes eB X E)
  (eH:(x==("__debug__":Str))=false:=by decide):bV X (.Call (.Name x p) [] [] pos) (Ot sp dvs E wm):=by
 intro zn s Y H Q J h;refine akS (sH J aY hm ?_ eH);exact W.callWith_K0 J.fe ax (v_ (us:=[]) F aB ab hd ag J .nil h)
theorem abp{pl:Sem Bool}(he:bV X o b3)(c:i6 X.K C)(hm:Meth X.K C m f)(F:fg X.prog X.w X.K X.mg X.base eB k f fd ps sp)(aB:cE k X.A)(ab:Binds X.K fd ps ds)(hd:Vals dvs ds)(ag:Passes eB X E)(aq:eN X (e::ay) t)
  (gh:ajo (e::ay) X.env=(false,eval e X.env)::ajo ay X.env:=by rfl) (e1:(ajS pos (ajo ay X.env)).any (·.1)=false:=by rfl)
  (bO:eval (.Call (.Attribute o m apos) (e::ay) [] pos) X.env=(do
   let eK <-eval o X.env
   al2 apos.atName
   let(f,first) <-alf [eK] (alC eK m pl)
   ama pos f first (ajS pos (ajo (e::ay) X.env)) (ald pos (akI [] X.env))):=by rfl) :
  bV X (.Call (.Attribute o m apos) (e::ay) [] pos) (Ov C m sp dvs E b3 t):=by
 intro zn s Y H Q J h;refine aob (pl:=pl) (bX (he zn s Y H _ J h) λu s1 ⟨x,H1,bb,a9,a,b8,aZ,ex,gy,l,q⟩=>?_) bO;subst ex;obtain rfl:u=ajU a:=a9;refine B2 bb gy c hm l ?_;refine anT (first:=[.ref a]) (h₀:=X.base) J.ok.mod.sE hm.kp (bX (aq pos zn s1 Y H1 _ bb q) λus s2 ⟨vs,aM,bU,r,b1⟩=>⟨bU.fe,?_⟩) gh e1;exact v_ (us:=.ref a::us) (vs:=.ref a::vs) F aB ab hd ag bU (.cons rfl r) b1
theorem abq{pl:Sem Bool}(he:bV X o b3)(c:i6 X.K C)(hm:Meth X.K C m f)(F:fg X.prog X.w X.K X.mg X.base eB k f fd ps sp)(aB:cE k X.A)(ab:Binds X.K fd ps ds)(hd:Vals dvs ds)(ag:Passes eB X E)
  (bO:eval (.Call (.Attribute o m apos) [] [] pos) X.env=(do
   let eK <-eval o X.env
   al2 apos.atName
   let(f,first) <-alf [eK] (alC eK m pl)
   ama pos f first (ajS pos (ajo [] X.env)) (ald pos (akI [] X.env))):=by rfl) :
  bV X (.Call (.Attribute o m apos) [] [] pos) (Ov C m sp dvs E b3 wm):=by
 intro zn s Y H Q J h;refine aob (pl:=pl) (bX (he zn s Y H _ J h) λu s1 ⟨x,H1,bb,a9,a,b8,aZ,ex,gy,l,q⟩=>?_) bO;subst ex;obtain rfl:u=ajU a:=a9;refine B2 bb gy c hm l ?_;exact W.callWith_K0 (first:=[.ref a]) bb.fe hm.kp (v_ (us:=[.ref a]) (vs:=[.ref a]) F aB ab hd ag bb (.cons rfl .nil) q)
structure FE(K:aS)(C f:Addr):Prop where
 makes:W.makesIn K C=true
 init:alw K (.ref C) "__init__"=some (some (.ref f))
 fn:W.isFn K (.ref f)=true
 kp:alm K (.ref C)=true
theorem aci{zn:cX}{Y:St}{H:aw}{s:ajp}{Q:c9}{us:List Value}{vs:List V}(M:FE X.K C f)(F:fg X.prog X.w X.K X.mg X.base eB k f fd ps sp)(aB:cE (k+1) X.A)(ab:Binds X.K fd ps ds)(hd:Vals dvs ds)
  (ag:Passes eB X E) (J:Inv X zn Y H s) (r:Vals vs us)
  (h:∀x b8,H x=none->H b8=none->b8≠x->sp (.ref x::(vs++dvs)) (upd (upd H b8 (.own x)) x (.ins C b8 [])) (λv aM=>v=.aQ/\Q (.ref x) aM) E) :
  wpAny (model X.prog X.w) X.A (call (.ref C) us) (ht X zn Y Q) X.dU s:=by
 have a':=h (s.heap.objs.size+1) s.heap.objs.size (J.bQ.fresh (ak3 _)) (J.bQ.fresh (ajq _)) (ajJ (anS _));have bU:=Inv.made (C:=C) J;have b_:Vals (V.ref (s.heap.objs.size+1)::(vs++dvs)) (ajU (s.heap.objs.size+1)::(us++ds)):=.cons rfl (r.append hd);have au:(ajU (s.heap.objs.size+1)::us++ds).length=ps.length:=by
  have e:=b_.length;rw[F.len _ _ _ _ a']at e;exact e.symm
 refine wpAny_call (ZG (f:=f) J.fe M.makes M.init (beq_iff_eq.mp M.fn) (alG (F.run _ X.stack _ _ ⟨ajU (s.heap.objs.size+1)::us,[]⟩ (ajU (s.heap.objs.size+1)::(us++ds)) _ _ E (aB.make C us [])
  (bU.uq.make C us []) (ab _ (ajU (s.heap.objs.size+1)::us) bU.fe au) b_ a') λr aP nc=>?_))
 cases r with
 |error e=>exact ag zn Y _ _ e aP bU nc|ok a_=>
  cases a_ with
  |ret u=>
   obtain⟨v,H',dD,bR,ev,gB⟩:=bU.after nc;subst ev;exact⟨bR,⟨V.ref (s.heap.objs.size+1),H',dD,rfl,gB⟩⟩
  |next=>exact aj4 nc
  |brk=>exact aj4 nc|cont=>exact aj4 nc
def abo(M:FE X.K C f)(F:fg X.prog X.w X.K X.mg X.base eB k f fd ps sp)(aB:cE (k+1) X.A)(aY:eC X x)(hm:X.mg x=some (.ref C))(ab:Binds X.K fd ps ds)(hd:Vals dvs ds)(ag:Passes eB X E)
  (aq:eN X (e::ay) t) (eH:(x==("__debug__":Str))=false:=by decide) (he:ajo (e::ay) X.env=(false,eval e X.env)::ajo ay X.env:=by rfl) (e1:(ajS pos (ajo ay X.env)).any (·.1)=false:=by rfl) :
  bV X (.Call (.Name x p) (e::ay) [] pos) (aer C sp dvs E t):=by
 intro zn s Y H Q J h;refine akS (sH J aY hm ?_ eH);refine anT (h₀:=X.base) J.ok.mod.sE M.kp (bX (aq pos zn s Y H _ J h) λus s1 ⟨vs,H1,bb,r,q⟩=>⟨bb.fe,?_⟩) he e1;exact aci M F aB ab hd ag bb r q
end
structure cf(N P:List Str)(sc:Scope):Prop where
 kind:sc.kind=.function:=by rfl
 co:sc.isCoroutine=false:=by rfl
 gen:sc.isGenerator=false:=by rfl
 eb:N.Nodup:=by decide +kernel
 pre:N.take P.length=P:=by rfl
 par:∀x∈P,sc.names.lookup x=some .local\/sc.names.lookup x=some .cell:=by decide +kernel
 aaf:∀y∈sc.names,y.2≠.free:=by decide +kernel
theorem Hv{kindOf:Str->Option alY}{x:Str}:∀{binds:List (Str×Value)}{m:bt},(∀v,(x,v)∉binds)->bindL kindOf binds m x=m x
 |[],_,_=>rfl|(n,v)::r,m,h=>by
  unfold bindL;rw[Hv λw hw=>h w (ajv _ hw)];split
  .have:x≠n:=by rintro rfl;exact h v ajy
   simp[this]
  .rfl
theorem Ht{kindOf:Str->Option alY}{x:Str}:∀{binds:List (Str×Value)}{m:bt},(∀v,(x,v)∉binds)->bindC kindOf binds m x=m x
 |[],_,_=>rfl|(n,v)::r,m,h=>by
  unfold bindC;rw[Ht λw hw=>h w (ajv _ hw)];split
  .rfl
  .have:x≠n:=by rintro rfl;exact h v ajy
   simp[this]
theorem Hu{kindOf:Str->Option alY}{v:Value}:∀{P:List Str}{vs:List Value}{i:Nat}{m:bt},P.Nodup->P[i]? = some x->vs[i]? = some v->kindOf x=some .local->
  bindL kindOf (P.zip vs) m x=some v
 |[],_,_,_,_,h,_,_=>by simp at h| _::_,[],_,_,_,_,h,_=>by simp at h|p::P,w::vs,0,m,eb,af,ah,ax=>by
  simp at af ah;subst af;subst ah;show bindL kindOf ((p,w)::P.zip vs) m p=_;unfold bindL;rw[Hv λv bI=>(akn.mp eb).1 (amk bI).1,if_pos ax];simp
 |p::P,w::vs,i+1,m,eb,af,ah,ax=>by
  show bindL kindOf ((p,w)::P.zip vs) m x=_;unfold bindL;exact Hu (i:=i) (akn.mp eb).2 (by simpa using af) (by simpa using ah) ax
theorem Hs{kindOf:Str->Option alY}{v:Value}:∀{P:List Str}{vs:List Value}{i:Nat}{m:bt},P.Nodup->P[i]? = some x->vs[i]? = some v->kindOf x≠some .local->
  bindC kindOf (P.zip vs) m x=some v
 |[],_,_,_,_,h,_,_=>by simp at h| _::_,[],_,_,_,_,h,_=>by simp at h|p::P,w::vs,0,m,eb,af,ah,ax=>by
  simp at af ah;subst af;subst ah;show bindC kindOf ((p,w)::P.zip vs) m p=_;unfold bindC;rw[Ht λv bI=>(akn.mp eb).1 (amk bI).1,if_neg ax];simp
 |p::P,w::vs,i+1,m,eb,af,ah,ax=>by
  show bindC kindOf ((p,w)::P.zip vs) m x=_;unfold bindC;exact Hs (i:=i) (akn.mp eb).2 (by simpa using af) (by simpa using ah) ax
def start(N:List Str)(vs:List V):St:=vs.map some++akk (N.length-vs.length) none
def hj(eB:mO)(P:ajF)(w:World)(K:aS)(mg:bt)(base:Heap)(N:List Str)(qual:Str)(scope:Scope)(f:Addr)(cd:Value)(A:ajM)(outer:List Env)(s:ajp)(H:aw)(E:gE):aU where
 prog:=P
 w:=w
 K:=K
 mg:=mg
 base:=base
 A:=A.deeper (al5 qual scope s.heap.objs.size f cd)
 N:=N
 g8:=s
 H₀:=H
 env:=al5 qual scope s.heap.objs.size f cd
 outer:=outer
 stack:=al5 qual scope s.heap.objs.size f cd::outer
 ex:=[]
 calm:=true
 fn:=λ_=>true
 lD:=[]
 dU:=λe aP=>wpAny (model P w) (A.deeper (al5 qual scope s.heap.objs.size f cd)) (leaving (al5 qual scope s.heap.objs.size f cd) e) (λ_ v'=>eB outer H s E e v') (λcz v'=>eB outer H s E cz v') aP
def HN{sc:Scope}(h:sc.names.lookup x=some .cell):∃c,(cellsFrom n sc.names []).lookup x=some c:=by
 have q:=anU sc.names n [] (.inl h);exact Option.isSome_iff_exists.mp q
def JZ{eB:mO}{P:ajF}{w:World}{K:aS}{mg:bt}{base:Heap}{N ps:List Str}{qual:Str}{scope:Scope}{f:Addr}{cd:Value}{A:ajM}{outer:List Env}{s s1:ajp}{H:aw}{E:gE}{us:List Value}{vs:List V}
  (S:cf N ps scope) (hd:A.handled=none) (d6:k4 P w K mg base A outer s H) (au:vs.length=ps.length) (r:Vals vs us)
  (x:InCallC s s.heap.objs.size (bindL (al5 qual scope s.heap.objs.size f cd).kindOf (ps.zip us) λ_=>none) (cellsFrom (s.heap.objs.size+1) scope.names []) (bindC (al5 qual scope s.heap.objs.size f cd).kindOf (ps.zip us) λ_=>none) s1) :
  Inv (hj eB P w K mg base N qual scope f cd A outer s H E) [] (start N vs) H s1:=by
 have e1:ps.length<=N.length:=by have:=congrArg akN S.pre;rw[amb]at this;omega
 obtain⟨af,tk,rfl,ax⟩:=x.done;have vG:∀b:Addr,b∉(hj eB P w K mg base N qual scope f cd A outer s H E).ex:=λb z=>absurd (show b∈([]:List Addr)from z) (by simp)
 refine⟨⟨d6.mod,S.kind,rfl,rfl,ajq _,λy z c af ah=>?_,λy ba=>?_,λy c _ h=>?_,λ_=>hd,Around.frames_deeper d6.frames,.inr ⟨rfl,rfl⟩,λb z=>absurd z (vG b),d6.bs,d6.lS,λb _ _=>vG b,λb z=>absurd z (vG b),d6.kA,d6.px⟩,
  rfl,d6.bare,gP.kept ax,⟨_,x.toInCall.ns,λi y v af ah bN=>?_⟩,λy c h=>⟨_,x.cell y c h⟩,d6.bQ.fresh (ajq _),λy c h=>?_,λp aH=>absurd (show p∈([]:cX)from aH) (by simp),d6.bQ.kept ax,?_⟩
 .exact name_of_addr x.apart (akQ af) (akQ ah)
 .have ba:scope.names.lookup y=some .cell\/scope.names.lookup y=some .free:=ba
  rcases ba with ba|ba
  .exact HN ba
  .exact absurd rfl (S.aaf _ (akQ ba))
 .exact akG (x.above y c (akQ h))
 .have aA:i<vs.length:=by
   unfold start at ah
   by_cases aA:i<vs.length
   .exact aA
   .rw[ajL (by simpa using aA)]at ah
    rw[alj]at ah;split at ah<;>cases ah
  have aq:vs[i]? = some v:=by
   unfold start at ah;rw[ajR (by simpa using aA),ajW]at ah
   cases e:vs[i]? with
   |none=>rw[e]at ah;cases ah
   |some a=>rw[e]at ah;cases ah;rfl
  obtain⟨u,cx,bR⟩:=r.get aq;have aH:ps[i]? = some y:=by
   rw[<-S.pre,List.getElem?_take_of_lt (by omega)];exact af
  have LC:ps.Nodup:=by rw[<-S.pre];exact S.eb.sublist (List.take_sublist _ _)
  refine⟨u,bR,?_⟩;rcases S.par y (aka aH)with k|k
  .exact .inl ⟨k,Hu LC aH cx k⟩
  .obtain⟨c,e⟩:=HN (n:=s.heap.objs.size+1) k
   refine .inr ⟨.inl k,c,e,?_⟩;have q:=x.cell y c e;rw[Hs LC aH cx (by show scope.names.lookup y≠_;rw[k];decide)]at q;exact q
 .exact d6.bQ.fresh (akG (x.above y c (akQ h)))
 .unfold start
  show _=N.length;rw[ajz,ajm,aky];omega
def BS{eB:mO}{P:ajF}{w:World}{K:aS}{mg:bt}{base:Heap}{k:Nat}{f:Addr}{name qual:Str}{params:amr}{body:List Stmt}{scope:Scope}{qA cB doc pm bx ct dv:Value}{an c3:Option Addr}
  {fA:Array (Option Value)}{N ps:List Str}{sp:ek}(lk:K.lookup f=some ⟨dv,c3,.func (ala name qual params body scope qA cB doc pm an bx ct),fA⟩) (gG:am5 K bx qual=true) (S:cf N ps scope)
  (len:∀vs H Q E,sp vs H Q E->vs.length=ps.length)
  (uP:∀(A:ajM)(outer:List Env)(s:ajp)(H:aw)(vs:List V)(Q:c9)(E:gE),cE k (A.deeper (al5 qual scope s.heap.objs.size f bx))->sp vs H Q E->
   ∃t,iL (hj eB P w K mg base N qual scope f bx A outer s H E) body t/\t { bo:=λ_ H'=>Q .aQ H',cZ:=Q } (start N vs) H) :
  fg P w K mg base eB (k+1) f (ala name qual params body scope qA cB doc pm an bx ct) ps sp:=by
 refine⟨len,λA outer s H args us vs Q E aB d6 ab r hW=>?_⟩;have au:=len _ _ _ _ hW;have dy:K.In s.heap:=d6.mod.sE.keeps λb o e=>(d6.bs b o e).1
 have lim:s.heap.NoLimit:=d6.mod.nolimit.keeps λb o e=>(d6.bs b o e).1
 have Cr:∀y∈ps.zip us,scope.names.lookup y.1=some .local\/(scope.names.lookup y.1=some .cell/\((cellsFrom (s.heap.objs.size+1) scope.names []).lookup y.1).isSome=true):=λaX ba=>by
  obtain⟨n,v⟩:=aX;rcases S.par n (amk ba).1 with q|q
  .exact .inl q
  .exact .inr ⟨q,anU _ _ _ (.inl q)⟩
 refine codeAny_call_function aB.depth (dy _ _ lk) rfl S.co S.gen rfl (W.codeRec_of dy gG) (ab _ _ _ _ ?_);refine wpAny_newFunctionEnv_cells S.kind Cr λenv he s1 x=>?_
 subst he;refine⟨lim.keeps x.toInCall.keep,codeAny_func ?_⟩;obtain⟨t,bO,a'⟩:=uP A outer s H vs Q E (aB.deeper _) hW;have J:Inv (hj eB P w K mg base N qual scope f bx A outer s H E) [] (start N vs) H s1:=JZ S aB.hd d6 au r x;refine aj6 (bO [] s1 (start N vs) H _ J a') (λa_ aP aC=>?_) λe aP aC=>aC
 have fin:∀{Y':St}{H':aw}{v:V}{u:Value},Inv (hj eB P w K mg base N qual scope f bx A outer s H E) [] Y' H' aP->RelV v u->Q v H'->hI outer P w H s Q u aP:=
  λ{Y' H' v u} cm bR q=>⟨v,H',cm.os,cm.bare,cm.base,cm.bQ,bR,q⟩
 cases a_ with
 |ret u=>
  obtain⟨v,Y',H',cm,bR,q⟩:=aC;exact fin cm bR q
 |next=>
  obtain⟨Y',H',cm,q⟩:=aC;exact fin (v:=V.aQ) (u:=akB) cm rfl q
 |brk=>
  obtain⟨_,_,_,q⟩:=aC;exact aj4 q
 |cont=>
  obtain⟨_,_,_,q⟩:=aC;exact aj4 q
section
variable{X:aU}{x:Str}{p pos:Pos}{e:Expr}{ay:List Expr}{t:gv}{id T:String}{r:List V->aw->c9->Prop}
def ES(r:List V->aw->c9->Prop)(t:gv):TE:=λY H Q=>t Y H λvs H1=>r vs H1 Q
def aba(aI:js X (.builtin id) r)(aY:eC X x)(hm:X.mg x=none)(bI:ake x=some (.builtin id))(aq:eN X (e::ay) t)(aG:x≠"__name__":=by decide)(eH:(x==("__debug__":Str))=false:=by decide)
  (he:ajo (e::ay) X.env=(false,eval e X.env)::ajo ay X.env:=by rfl) (e1:(ajS pos (ajo ay X.env)).any (·.1)=false:=by rfl):bV X (.Call (.Name x p) (e::ay) [] pos) (ES r t):=by
 intro zn s Y H Q J h;refine akS (q0 J aY hm bI ?_ aG eH);exact PyProof.Rows.callWith_builtin1 (bX (aq pos zn s Y H _ J h) λus s1 ⟨vs,H1,bb,bB,bq⟩=>aI zn s1 Y H1 vs us Q bb bB bq) he e1
def abb(aI:js X (.type T) r)(aY:eC X x)(hm:X.mg x=none)(bI:ake x=some (.type T))(aq:eN X (e::ay) t)(aG:x≠"__name__":=by decide)(eH:(x==("__debug__":Str))=false:=by decide)
  (he:ajo (e::ay) X.env=(false,eval e X.env)::ajo ay X.env:=by rfl) (e1:(ajS pos (ajo ay X.env)).any (·.1)=false:=by rfl):bV X (.Call (.Name x p) (e::ay) [] pos) (ES r t):=by
 intro zn s Y H Q J h;refine akS (q0 J aY hm bI ?_ aG eH);exact al8 (bX (aq pos zn s Y H _ J h) λus s1 ⟨vs,H1,bb,bB,bq⟩=>aI zn s1 Y H1 vs us Q bb bB bq) he e1
end
end aF
namespace d0
open PySem PyProof.Rows
def BE(A:ajM)(s:ajp)(a:Int)(t:Tok)(c:Int)(u:Tok):∃e,SeqAt.EqAt A s (.int a t) (.int c u) e/\(e=true↔a=c):=
 ⟨(a==c),aoy a t c u,by simp⟩
section
variable{prog:ajF}{w:World}{A:ajM}{E:cF}{s:ajp}
def cR(n d:Nat):Option Int->Nat
 |none=>d|some v=>if v<0 then(v+(n:Int)).toNat else min v.toNat n
def acr(n d:Nat):cR n d none=d:=rfl
def ED(n d k:Nat):cR n d (some (k:Int))=min k n:=by
 show(if(k:Int)<0 then((k:Int)+(n:Int)).toNat else min (k:Int).toNat n)=min k n;rw[if_neg (by omega),anC]
def acq(n d:Nat)(hd:d<=n)(o:Option Int):cR n d o<=n:=by
 cases o with
 |none=>exact hd|some v=>
  show(if v<0 then(v+(n:Int)).toNat else min v.toNat n)<=n
  by_cases bI:v<0
  .rw[if_pos bI];omega
  .rw[if_neg bI];exact Nat.min_le_right _ _
def HS(v:Int)(n d:Nat):(if v<0 then max (v+(n:Int)) 0 else min v (n:Int))=((cR n d (some v):Nat):Int):=by
 show(if v<0 then max (v+(n:Int)) 0 else min v (n:Int))=(((if v<0 then(v+(n:Int)).toNat else min v.toNat n):Nat):Int)
 by_cases bI:v<0
 .simp only[if_pos bI];omega
 .simp only[if_neg bI];omega
def PY(lo aA:Option Int)(n:Nat):aml lo aA 1 (n:Int)=(((cR n 0 lo:Nat):Int),((cR n n aA:Nat):Int)):=by
 have af:¬((1:Int)<0):=by omega
 unfold aml;simp only[af,if_false];refine Prod.ext ?_ ?_
 .cases lo with
  |none=>rfl|some v=>exact HS v n 0
 .cases aA with
  |none=>rfl|some v=>exact HS v n n
def abD(i j:Nat):alB (i:Int) (j:Int) 1=j-i:=by
 unfold alB;have af:(1:Int) > 0:=by omega
 simp only[af,if_true,Int.ediv_one];split<;>omega
def N_{v:Value}{o:Option Int}{Q:Option Int->ajp->Prop}(p:amT v o)(h:Q o s):wpAny (model prog w) A (Builtin.Slice.slicePartIndex v) Q E s:=by
 cases p with
 |none=>exact slicePart_none h|int i t=>exact slicePart_int h
def N9{cN:Addr}{ha hb:Value}{lo aA:Option Int}{n:Nat}{Q:Int×Int×Nat->ajp->Prop}(aC:s.heap.IsSliceOf cN ha hb .none)(pl:amT ha lo)(pu:amT hb aA)
  (h:Q (((cR n 0 lo:Nat):Int),1,cR n n aA-cR n 0 lo) s):wpAny (model prog w) A (anv (.ref cN) (pure (n:Int))) Q E s:=by
 obtain⟨os,qR,ye,oa⟩:=id aC;unfold anv Builtin.Slice.sliceFields;refine ajl (ajl (akJ qR oa (x:=ha) rfl (ajl (akJ qR oa (x:=hb) rfl (ajl (akJ qR oa (x:=.none) rfl (ajr ?_)))))));refine ajl (slicePart_none ?_);show wpAny _ _ (if((1:Int)==0)=true then _ else _) _ _ s;rw[if_neg (by decide)];refine ajl (N_ pl (ajl (N_ pu (ajl (ajr ?_)))));show wpAny _ _ (match aml lo aA 1 (n:Int)with|(lo,aA)=>pure (lo,(1:Int),alB lo aA 1)) _ _ s;rw[PY lo aA n];show wpAny _ _ (pure (((cR n 0 lo:Nat):Int),(1:Int),alB ((cR n 0 lo:Nat):Int) ((cR n n aA:Nat):Int) 1)) _ _ s;rw[abD];exact ajr h
def abB(xs:Array Value)(i k:Nat):((ajI k).filterMap λ(m:Nat)=>xs[((i:Int)+(m:Int)*1).toNat]?).toArray=((xs.toList.drop i).take k).toArray:=by
 have e:(λ(m:Nat)=>xs[((i:Int)+(m:Int)*1).toNat]?)=λm=>xs[i+m]?:=by
  funext m
  have:((i:Int)+(m:Int)*1).toNat=i+m:=by omega
  rw[this]
 rw[e];have:=pick_run xs i k;rw[List.filterMap_map]at this;have az:((λx=>xs[x]?)∘λx=>i+x)=λm=>xs[i+m]?:=rfl
 rw[az]at this;rw[this]
def Vt{t cN:Addr}{items:Array Value}{ha hb:Value}{lo aA:Option Int}{Q:cF}(bO:IsTup s.heap t items)(aC:s.heap.IsSliceOf cN ha hb .none)(pl:amT ha lo)(pu:amT hb aA)
  (hw:¬(cR items.size 0 lo=0/\cR items.size items.size aA=items.size))
  (h:Q (.ref s.heap.objs.size) { s with heap:=s.heap.push { cls:=.type "tuple",data:=.seq ((items.toList.drop (cR items.size 0 lo)).take (cR items.size items.size aA-cR items.size 0 lo)).toArray } })
  (hsz:items.size<=ajt):wpAny (model prog w) A (amw (.ref t) (.ref cN)) Q E s:=by
 have yn:sizeOk (.seq ((items.toList.drop (cR items.size 0 lo)).take (cR items.size items.size aA-cR items.size 0 lo)).toArray):=by
  show((items.toList.drop (cR items.size 0 lo)).take (cR items.size items.size aA-cR items.size 0 lo)).toArray.size<=ajt;rw[ajB,amb,akw,akh];omega
 have aW:cR items.size items.size aA<=items.size:=acq _ _ (ajq _) aA;obtain⟨os,qR,ye,oa⟩:=id aC;have B':s.TypeIs (.ref cN) "slice":=⟨os,qR,ye⟩;unfold amw
 try with_reducible refine akF ?_
 first|refine ajl (ajr ?_)|skip
 refine ajl (wpAny_sequenceKey bO.typeIs (by decide) ?_);refine ajl (akX (name:=ajG "__getitem__") bO.typeIs akz
  (alH akz bO.typeIs entry_tuple_getitem ?_ (args_tuple_getitem _ _)))
 show wpAny _ _ (anw (.ref t) >>= _) _ _ s;refine ajl (tupleItemsOf_ bO ?_);refine ajl (wpAny_typeOf B' ?_);rw[if_pos (by decide)];refine ajl (N9 aC pl pu ?_);have XP:¬((((cR items.size 0 lo:Nat):Int)==0&&(1:Int)==1&&(cR items.size items.size aA-cR items.size 0 lo)==items.size)=true):=by
  intro q;rw[aj5,aj5]at q;have bq:((cR items.size 0 lo:Nat):Int)=0:=eq_of_beq q.1.1;have b1:cR items.size items.size aA-cR items.size 0 lo=items.size:=eq_of_beq q.2;exact hw ⟨by omega,by omega⟩
 show wpAny _ _ (if(((cR items.size 0 lo:Nat):Int)==0&&(1:Int)==1&&(cR items.size items.size aA-cR items.size 0 lo)==items.size)=true then _ else _) _ _ s;rw[if_neg XP,abB]
 first
  |exact ajl (m:=alI _) (alh (ajr ⟨_,rfl,ajr h⟩) yn)
  |exact ajl (m:=alI _) (alh (ajl (ajr (ajr ⟨_,rfl,ajr h⟩))) yn)
  |exact ajl (ajl (m:=alI _) (alh (ajr (ajr ⟨_,rfl,ajr h⟩)) yn))
  |exact ajl (ajl (m:=alI _) (alh (ajr ⟨_,rfl,ajr h⟩) yn))
end
end d0
namespace aF
open PySem PySem.Spec PyProof.Rows
abbrev dV:=St->aw->(Option Int->aw->Prop)->Prop
def tV(X:aU)(e:Option Expr)(t:dV):Prop:=
 ∀(zn:cX)(s:ajp)(Y:St)(H:aw)(Q:Option Int->aw->Prop),Inv X zn Y H s->t Y H Q->
  wpAny (model X.prog X.w) X.A (evalPart e X.env) (λu aP=>∃o H',Inv X zn Y H' aP/\amT u o/\Q o H') X.dU s
def aeu:dV:=λ_ H Q=>Q none H
def aey(t:TE):dV:=λY H Q=>t Y H λx H1=>∃i,x=.int i/\Q (some i) H1
def intsAre_of{ns:List Int}:∀{us:List Value},Vals (ns.map V.int) us->akH us ns:=by
 induction ns with
 |nil=>intro us r;rw[anV]at r;cases r;exact .nil
 |cons n ns a8=>
  intro us r;rw[ajw]at r
  cases r with
  |cons bB b_=>
   obtain⟨t,e⟩:=bB;subst e;exact .cons n t (a8 b_)
section
variable{X:aU}{e:Expr}{te:TE}{lo aA:Option Expr}{h4 zW:dV}{pos dG:Pos}
def abE:tV X none aeu:=by
 intro zn s Y H Q J h;rw[evalPart_none];exact ajr ⟨none,H,J,.none,h⟩
def abF(h:bV X e te):tV X (some e) (aey te):=by
 intro zn s Y H Q J hw;rw[evalPart_some];refine bX (h zn s Y H _ J hw) λu s1 aX=>?_
 obtain⟨x,H1,bb,bB,bq⟩:=aX;obtain⟨i,rfl,q⟩:=bq;obtain⟨t,rfl⟩:=bB;exact⟨some i,H1,bb,.int i t,q⟩
def pa(X:aU)(r:V->Option Int->Option Int->aw->c9->Prop):Prop:=
 ∀(zn:cX)(s:ajp)(Y:St)(H:aw)(x:V)(v ha hb:Value)(lo aA:Option Int)(cN:Addr)(Q:c9),Inv X zn Y H s->RelV x v->s.heap.IsSliceOf cN ha hb .none->amT ha lo->amT hb aA->r x lo aA H Q->
  ∃T id,typeLookup (.type T) "__getitem__"=pure (some (.builtin id))/\s.TypeIs v T/\wpAny (model X.prog X.w) X.A (amw v (.ref cN)) (ht X zn Y Q) X.dU s
def pa.or{r bP:V->Option Int->Option Int->aw->c9->Prop}(h:pa X r)(h':pa X bP):pa X (λx lo aA H Q=>r x lo aA H Q\/bP x lo aA H Q):=by
 intro zn s Y H x v ha hb lo aA cN Q J a9 aC pl pu q;rcases q with q|q
 .exact h zn s Y H x v ha hb lo aA cN Q J a9 aC pl pu q
 .exact h' zn s Y H x v ha hb lo aA cN Q J a9 aC pl pu q
def aeB(r:V->Option Int->Option Int->aw->c9->Prop)(te:TE)(h4 zW:dV):TE:=λY H Q=>te Y H λx H1=>h4 Y H1 λl aM=>zW Y aM λu cP=>r x l u cP Q
def Md{r:V->Option Int->Option Int->aw->c9->Prop}(aB:pa X r)(he:bV X e te)(au:tV X lo h4)(cx:tV X aA zW):bV X (.Subscript e (.Slice lo aA none dG) pos) (aeB r te h4 zW):=by
 intro zn s Y H Q J h;refine Subscript_ (bX (he zn s Y H _ J h) λv s1 aX=>?_);obtain⟨x,H1,bb,bB,bq⟩:=aX;refine wpAny_Slice (bX (au zn s1 Y H1 _ bb bq) λha s2 ⟨l,aM,bU,pl,b1⟩=>bX (cx zn s2 Y aM _ bU b1) λhb s3 aX=>?_);obtain⟨u,cP,dD,pu,gB⟩:=aX;rw[evalPart_none];refine ajr ?_;have i8:Inv X zn Y cP { s3 with heap:=s3.heap.push { cls:=.type "slice",data:=.fields #[ha,hb,.none] } }:=dD.kept (t':=s3.toks) λb bC q=>ajn _ q
 obtain⟨T,id,gg,bO,aY⟩:=aB zn { s3 with heap:=s3.heap.push { cls:=.type "slice",data:=.fields #[ha,hb,.none] } } Y cP x v ha hb l u s3.heap.objs.size Q i8 bB (Heap.IsSliceOf.new ..) pl pu gB;show wpAny (model X.prog X.w) X.A (subscriptTail e (.Slice lo aA none dG) v (.ref s3.heap.objs.size)) (ht X zn Y Q) X.dU { s3 with heap:=s3.heap.push { cls:=.type "slice",data:=.fields #[ha,hb,.none] } };exact tail_any (ops:=[.ref s3.heap.objs.size,v]) bO gg aY (by with_unfolding_all rfl)
def pk(xs:List V)(lo aA:Option Int):List V:=(xs.drop (d0.cR xs.length 0 lo)).take (d0.cR xs.length xs.length aA-d0.cR xs.length 0 lo)
def H3(xs:List V)(lo aA:Option Int):(pk xs lo aA).length<=xs.length:=by
 unfold pk;rw[amb,akw];omega
def ab8(K:aS):V->Option Int->Option Int->aw->c9->Prop:=λx lo aA H Q=>∃a xs,x=.ref a/\dI K H a xs/\
 ¬(d0.cR xs.length 0 lo=0/\d0.cR xs.length xs.length aA=xs.length)/\∀p,H p=none->Q (.ref p) (upd H p (.tup (pk xs lo aA)))
theorem N8:pa X (ab8 X.K):=by
 intro zn s Y H x v ha hb lo aA cN Q J a9 aC pl pu h;obtain⟨a,xs,rfl,ag,hw,q⟩:=h;cases a9;obtain⟨its,r,bO,hz⟩:=J.tuple ag;have hlen:its.toArray.size=xs.length:=by rw[ajB];exact r.length.symm
 refine⟨"tuple",_,akz.lookup,bO.typeIs,?_⟩;refine d0.Vt bO aC pl pu (by rw[hlen];exact hw) ?_ (by rw[hlen];exact hz);rw[hlen];refine⟨.ref s.heap.objs.size,_,J.laid (t':=s.toks) (o:=.tup (pk xs lo aA)) (λb bC q=>ajn _ q) (ajq _) ?_,rfl,q _ (J.bQ.fresh (ajq _))⟩;exact⟨akq (H3 xs lo aA) hz,_,(r.drop (d0.cR xs.length 0 lo)).take (d0.cR xs.length xs.length aA-d0.cR xs.length 0 lo),IsTup.new _ _⟩
end
def qW(n:Nat)(i:Int):Option Nat:=if 0<=i then(if i<n then some i.toNat else none)else if -(n:Int)<=i then some (i+n).toNat else none
def eP{α:Type}(xs:List α)(i:Int):Option α:=(qW xs.length i).bind λj=>xs[j]?
def Yx{i:Int}(h:qW n i=some j):seqIndex? i n=some j/\j<n/\-(n:Int)<=i/\i<n:=by
 unfold qW at h
 by_cases h0:0<=i
 .rw[if_pos h0]at h
  by_cases af:i<n
  .rw[if_pos af]at h
   have e:i.toNat=j:=ajT h;exact⟨by rw[seqIndex_of h0 af,e],by omega,by omega,af⟩
  .rw[if_neg af]at h;cases h
 .rw[if_neg h0]at h
  by_cases af:-(n:Int)<=i
  .rw[if_pos af]at h
   have e:(i+n).toNat=j:=ajT h;exact⟨by rw[seqIndex_neg (by omega) af,e],by omega,af,by omega⟩
  .rw[if_neg af]at h;cases h
def xd{α:Type}{xs:List α}{i:Int}{v:α}(h:eP xs i=some v):∃j,seqIndex? i xs.length=some j/\xs[j]? = some v/\j<xs.length/\-(xs.length:Int)<=i/\i<xs.length:=by
 unfold eP at h
 cases e:qW xs.length i with
 |none=>rw[e]at h;cases h
 |some j=>
  rw[e]at h;obtain⟨af,ah,bN,dz⟩:=Yx e;exact⟨j,af,h,ah,bN,dz⟩
def P8{α:Type}{xs:List α}{j:Nat}{v:α}(h:xs[j]? = some v):eP xs (j:Int)=some v:=by
 have aW:j<xs.length:=(ajs.mp h).1;have e:qW xs.length (j:Int)=some j:=by
  unfold qW;rw[if_pos (by omega),if_pos (by omega)];simp
 unfold eP;rw[e];exact h
def FG(b:Expr):Prop:=∀o i,aog b false o i=operate [o,i] (amw o i)
def mR(X:aU)(r:fG):Prop:=
 ∀(value slice:Expr)(zn:cX)(s:ajp)(Y:St)(H:aw)(x y:V)(v u:Value)(Q:c9),Inv X zn Y H s->RelV x v->RelV y u->r x y H Q->
  aog slice false v u=operate [v,u] (amw v u)->wpAny (model X.prog X.w) X.A (subscriptTail value slice v u) (ht X zn Y Q) X.dU s
def Av(X:aU)(id:String)(r:V->List V->aw->c9->Prop):Prop:=
 ∀(zn:cX)(s:ajp)(Y:St)(H:aw)(x:V)(xs:List V)(v:Value)(us:List Value)(Q:c9),Inv X zn Y H s->RelV x v->Vals xs us->r x xs H Q->
  wpAny (model X.prog X.w) X.A (call (.builtin id) (v::us)) (ht X zn Y Q) X.dU s
section
variable{X:aU}{a b:Expr}{b3 cU:TE}{pos:Pos}
def mR.or{r bP:fG}(h:mR X r)(h':mR X bP):mR X (λx y H Q=>r x y H Q\/bP x y H Q):=by
 intro value slice zn s Y H x y v u Q J a9 bA q aC;rcases q with q|q
 .exact h value slice zn s Y H x y v u Q J a9 bA q aC
 .exact h' value slice zn s Y H x y v u Q J a9 bA q aC
def abm{r:fG}(aB:mR X r)(aq:bV X a b3)(ab:bV X b cU)(aC:FG b):bV X (.Subscript a b pos) (tx r b3 cU):=by
 intro zn s Y H Q J h;exact Subscript_ (A9 aq ab J h λv u s2 x y aM bU a9 bA q=>aB a b zn s2 Y aM x y v u Q bU a9 bA q (aC _ _))
def MD(K:aS):fG:=λx y H Q=>∃p xs i v,x=.ref p/\y=.int i/\dn K H p xs/\eP xs i=some v/\Q v H
def MF(K:aS):fG:=λx y H Q=>∃p xs i v,x=.ref p/\y=.int i/\dI K H p xs/\eP xs i=some v/\Q v H
def ME:fG:=λx y H Q=>∃z i c,x=.str z/\y=.int i/\z.length<=ajt/\eP z.cps.toList i=some c/\Q (.str ⟨#[c]⟩) H
def Yy:mR X (MD X.K):=by
 intro value slice zn s Y H x y v u Q J a9 bA h aC;obtain⟨p,xs,i,z,rfl,rfl,a',he,q⟩:=h;cases a9;obtain⟨t,rfl⟩:=bA;obtain⟨its,r,pl,hz⟩:=J.list a';obtain⟨j,af,ah,bN,dz,fb⟩:=xd he;obtain⟨w,sd,jj⟩:=r.get ah;have au:=r.length;have aG:=vf;have fin:ht X zn Y Q w s:=⟨z,H,J,jj,q⟩
 by_cases h0:0<=i
 .have aW:i.toNat=j:=by
   rw[seqIndex_of h0 fb]at af;exact ajT af
  exact item_listR pl.isList h0 (by omega) (by rw[aW];simpa using sd) fin aC
 .have aW:(i+(its.toArray.size:Int)).toNat=j:=by
   rw[seqIndex_neg (by omega) dz]at af;rw[ajB,<-au];exact ajT af
  exact subscriptTail_builtinR (x:=w) pl.isList.typeIs slot_list_getitem.lookup
   (wpAny_getItem_list_neg (Q:=λr aP=>r=w/\ht X zn Y Q r aP) pl.isList (by omega) (by rw[ajB]<;>omega) (by omega) (by rw[aW];simpa using sd) ⟨rfl,fin⟩) aC
def YA:mR X (MF X.K):=by
 intro value slice zn s Y H x y v u Q J a9 bA h aC;obtain⟨p,xs,i,z,rfl,rfl,a',he,q⟩:=h;cases a9;obtain⟨t,rfl⟩:=bA;obtain⟨its,r,pl,hz⟩:=J.tuple a';obtain⟨j,af,ah,bN,dz,fb⟩:=xd he;obtain⟨w,sd,jj⟩:=r.get ah;have au:=r.length;have aG:=vf;have fin:ht X zn Y Q w s:=⟨z,H,J,jj,q⟩;exact subscriptTail_builtinR (x:=w) pl.typeIs slot_tuple_getitem.lookup
  (getItem_tuple (j:=j) (Q:=λr aP=>r=w/\ht X zn Y Q r aP) pl (by omega) (by omega) (by rw[ajB,<-au];exact af) (by simpa using sd) ⟨rfl,fin⟩) aC
def Yz:mR X ME:=by
 intro value slice zn s Y H x y v u Q J a9 bA h aC;obtain⟨z,i,c,rfl,rfl,hz,he,q⟩:=h;obtain⟨t,rfl⟩:=a9;obtain⟨t',rfl⟩:=bA;obtain⟨j,af,ah,bN,dz,fb⟩:=xd he;have au:z.cps.toList.length=z.length:=by simp[Str.length]
 rw[au]at af dz fb;have aG:=vf;exact tail_any (typeIs_str s z t) slot_str_getitem.lookup (getItem_str (c:=c) (by
  have ao:decide (i < -(2 ^ 63:Int))=false:=decide_eq_false (by omega);have az:decide (i≥2 ^ 63)=false:=decide_eq_false (by omega);rw[ao,az,Bool.or_false]) (by rw[af];simpa using ah) ⟨.str ⟨#[c]⟩,H,J.tok _,⟨_,rfl⟩,q⟩) aC
def MC(K:aS):fG:=λx y H Q=>MD K x y H Q\/MF K x y H Q\/ME x y H Q
def il:mR X (MC X.K):=Yy.or (YA.or Yz)
def adV(lo aA:Option Int)(n:Nat):(amh lo aA none n).1=((d0.cR n 0 lo:Nat):Int)/\(amh lo aA none n).2.1=((d0.cR n n aA:Nat):Int)/\(amh lo aA none n).2.2=1:=by
 refine⟨?_,?_,rfl⟩
 .cases lo with
  |none=>simp[amh,d0.cR]|some i=>
   simp only[amh,d0.cR,Option.getD_none,show(1:Int) > 0 by decide,if_true]
   by_cases h:i<0
   .simp only[h,if_true]<;>omega
   .simp only[h,if_false]<;>omega
 .cases aA with
  |none=>simp[amh,d0.cR]|some i=>
   simp only[amh,d0.cR,Option.getD_none,show(1:Int) > 0 by decide,if_true]
   by_cases h:i<0
   .simp only[h,if_true]<;>omega
   .simp only[h,if_false]<;>omega
def adU(its:List Value)(lo aA:Option Int):slicePick its.toArray lo aA none=((its.drop (d0.cR its.length 0 lo)).take (d0.cR its.length its.length aA-d0.cR its.length 0 lo)).toArray:=by
 obtain⟨af,ah,bN⟩:=adV lo aA its.toArray.size;unfold slicePick;rw[af,ah,bN];simp only[sliceRange_one,pick_run,ajB]<;>rfl
def ab7(K:aS):V->Option Int->Option Int->aw->c9->Prop:=λx lo aA H Q=>∃a xs,x=.ref a/\dn K H a xs/\∀p,H p=none->Q (.ref p) (upd H p (.lst (pk xs lo aA)))
theorem adS:pa X (ab7 X.K):=by
 intro zn s Y H x v ha hb lo aA cN Q J a9 aC pl pu h;obtain⟨a,xs,rfl,ag,q⟩:=h;cases a9;obtain⟨its,r,bO,hz⟩:=J.list ag;have hlen:=r.length;refine⟨"list",_,slot_list_getitem.lookup,bO.isList.typeIs,?_⟩;refine wpAny_getItem_list_slice bO.isList aC pl pu .none (by simp) ?_ (by rw[ajB]<;>omega);rw[adU,<-hlen];refine⟨.ref s.heap.objs.size,_,J.laid (t':=s.toks) (o:=.lst (pk xs lo aA)) (λb bC q=>ajn _ q) (ajq _) ?_,rfl,q _ (J.bQ.fresh (ajq _))⟩;exact⟨akq (H3 xs lo aA) hz,_,0,(r.drop (d0.cR xs.length 0 lo)).take (d0.cR xs.length xs.length aA-d0.cR xs.length 0 lo),ajA _ rfl⟩
def m5:V->Bool
 |.aQ=>true|.aE _=>true|.int _=>true|.str _=>true|_=>false
def m3:V->V->Bool
 |.aQ,.aQ=>true|.aE a,.aE b=>a==b|.aE a,.int b=>(if a then 1 else 0)==b|.int a,.aE b=>a==(if b then 1 else 0)|.int a,.int b=>a==b|.str a,.str b=>a==b|_,_=>false
theorem U2{u v:Value}(bA:RelV y u)(a9:RelV x v)(Vo:m5 y=true)(m6:m5 x=true):SeqAt.EqAt A s u v (m3 y x):=by
 cases y with
 |aQ=>
  cases bA
  cases x with
  |aQ=>cases a9;exact SeqAt.EqAt.same _
  |aE b=>cases a9;exact SeqAt.EqAt.none_bool b
  |int b=>obtain⟨t,rfl⟩:=a9;exact SeqAt.EqAt.none_int b t
  |str b=>obtain⟨t,rfl⟩:=a9;exact SeqAt.EqAt.none_str b t
  |_=>exact absurd (show false=true from m6) ajx
 |aE a=>
  cases bA
  cases x with
  |aQ=>cases a9;exact SeqAt.EqAt.bool_none a
  |aE b=>cases a9;exact SeqAt.EqAt.bool_bool a b
  |int b=>obtain⟨t,rfl⟩:=a9;exact SeqAt.EqAt.bool_int a b t
  |str b=>obtain⟨t,rfl⟩:=a9;exact SeqAt.EqAt.bool_str a b t
  |_=>exact absurd (show false=true from m6) ajx
 |int a=>
  obtain⟨t',rfl⟩:=bA
  cases x with
  |aQ=>cases a9;exact SeqAt.EqAt.int_none a t'
  |aE b=>cases a9;exact SeqAt.EqAt.int_bool a t' b
  |int b=>obtain⟨t,rfl⟩:=a9;exact aoy a t' b t
  |str b=>obtain⟨t,rfl⟩:=a9;exact aov a t' b t
  |_=>exact absurd (show false=true from m6) ajx
 |str a=>
  obtain⟨t',rfl⟩:=bA
  cases x with
  |aQ=>cases a9;exact SeqAt.EqAt.str_none a t'
  |aE b=>cases a9;exact SeqAt.EqAt.str_bool a t' b
  |int b=>obtain⟨t,rfl⟩:=a9;exact aow a t' b t
  |str b=>obtain⟨t,rfl⟩:=a9;exact SeqAt.EqAt.str_str a t' b t
  |_=>exact absurd (show false=true from m6) ajx
 |_=>exact absurd (show false=true from Vo) ajx
def n2(x:V)(u:Value):Bool:=match u with
 |.none=>m3 .aQ x|.bool b=>m3 (.aE b) x|.int i _=>m3 (.int i) x|.str z _=>m3 (.str z) x|_=>false
theorem Im(r:RelV y u)(f:m5 y=true):n2 x u=m3 y x:=by
 cases y with
 |aQ=>cases r;rfl
 |aE b=>cases r;rfl
 |int i=>obtain⟨t,rfl⟩:=r;rfl
 |str z=>obtain⟨t,rfl⟩:=r;rfl
 |_=>exact absurd (show false=true from f) ajx
theorem AI:∀{xs:List V}{us:List Value},Vals xs us->xs.all m5=true->us.any (n2 x)=xs.any λy=>m3 y x
 |_,_,.nil,_=>rfl|y::xs,u::us,.cons r t,f=>by
  rw[amd,aj5]at f;rw[ak9,ak9,Im r f.1,AI t f.2]
theorem DB{v:Value}(a9:RelV x v)(m6:m5 x=true):∀{xs:List V}{us:List Value},Vals xs us->xs.all m5=true->∀u∈us,SeqAt.EqAt A s u v (n2 x u)
 |_,_,.nil,_=>λu cx=>by cases cx
 |y::xs,u::us,.cons r t,f=>λu' cx=>by
  rw[amd,aj5]at f;rcases aju.mp cx with rfl|cx
  .rw[Im r f.1];exact U2 r a9 f.1 m6
  .exact DB a9 m6 t f.2 u' cx
def CI(x:V)(xs:List V):Bool:=xs.any λy=>m3 y x
def Mz(K:aS)(neg:Bool):fG:=λx y H Q=>∃p xs,y=.ref p/\(dn K H p xs\/dI K H p xs)/\m5 x=true/\xs.all m5=true/\Q (.aE (if neg then !CI x xs else CI x xs)) H
def LY:ej X (aj9 .In) (Mz X.K false):=by
 intro zn s Y H x y v u Q J a9 bA h;obtain⟨p,xs,rfl,a',m6,aZ,q⟩:=h;cases bA;rcases a' with a'|a'
 .obtain⟨its,r,pl,hz⟩:=J.list a'
  refine SeqAt.in_listAt (n2 x) pl.isList (λw hw=>DB a9 m6 r aZ w (by simpa using hw)) ⟨.aE _,H,J,rfl,?_⟩;rw[show its.toArray.any (n2 x)=its.any (n2 x)by simp,AI r aZ];exact q
 .obtain⟨its,r,pl,hz⟩:=J.tuple a'
  refine SeqAt.in_tupleAt (n2 x) pl (λw hw=>DB a9 m6 r aZ w (by simpa using hw)) ⟨.aE _,H,J,rfl,?_⟩;rw[show its.toArray.any (n2 x)=its.any (n2 x)by simp,AI r aZ];exact q
def SH:js X (.builtin "len") (λxs H Q=>∃p ys,xs=[.ref p]/\(dn X.K H p ys\/dI X.K H p ys)/\Q (.int ys.length) H):=by
 intro zn s Y H xs us Q J r h;obtain⟨p,ys,rfl,a',q⟩:=h;obtain⟨u,rfl,a9⟩:=vals1 r;cases a9;have aG:=vf;rcases a' with a'|a'
 .obtain⟨its,bP,pl,hz⟩:=J.list a'
  have hlen:=bP.length;exact Calls.call_len_list pl.isList (by simp only[ajB]<;>omega) ⟨.int ys.length,H,J.tok _,⟨s.toks+1,by rw[ajB,hlen]⟩,q⟩
 .obtain⟨its,bP,pl,hz⟩:=J.tuple a'
  have hlen:=bP.length;exact len_tuple pl (by simp only[ajB]<;>omega) ⟨.int ys.length,H,J.tok _,⟨s.toks+1,by rw[ajB,hlen]⟩,q⟩
def SI:js X (.builtin "len") (λxs H Q=>∃z,xs=[.str z]/\z.length<=ajt/\Q (.int z.length) H):=by
 intro zn s Y H xs us Q J r h;obtain⟨z,rfl,hz,q⟩:=h;obtain⟨u,rfl,t,rfl⟩:=vals1 r;have aG:=vf;exact len_str (by omega) ⟨.int z.length,H,J.tok _,⟨_,rfl⟩,q⟩
theorem Bh:js X (.type "tuple") (λxs H Q=>∃p ys,xs=[.ref p]/\((dn X.K H p ys/\∀l,H l=none->Q (.ref l) (upd H l (.tup ys)))\/(dI X.K H p ys/\Q (.ref p) H))):=by
 intro zn s Y H xs us Q J r h;obtain⟨p,ys,rfl,h⟩:=h;obtain⟨u,rfl,a9⟩:=vals1 r;cases a9;rcases h with⟨a',q⟩|⟨a',q⟩
 .obtain⟨its,bP,pl,hz⟩:=J.list a'
  have hlen:=bP.length;refine call_tuple_list pl.isList (λh' kp=>?_) (by simp only[ajB]<;>omega);have bb:Inv X zn Y H { s with heap:=h' }:=J.kept (t':=s.toks) kp;have bU:Inv X zn Y (upd H h'.objs.size (.tup ys)) { s with heap:=h'.push { cls:=.type "tuple",data:=.seq its.toArray } }:=
   bb.laid (t':=s.toks) (λb o e=>ajn _ e) (ajq _) (show gN X.prog X.w _ _ _ (.tup ys)from⟨hz,its,bP,IsTup.new _ _⟩)
  exact⟨.ref h'.objs.size,_,bU,rfl,q _ (bb.bQ.fresh (ajq _))⟩
 .obtain⟨its,bP,pl,hz⟩:=J.tuple a'
  exact call_tuple_same pl ⟨.ref p,H,J,rfl,q⟩
def zZ(K:aS)(T:String)(x:V)(H:aw):Prop:=match x with
 |.str _=>T="str"|.int _=>T="int"|.ref p=>(T="list"/\∃xs,dn K H p xs)\/(T="tuple"/\∃o,K.lookup p=some o/\o.cls=.type "tuple"/\o.dict=none)\/
   (T="dict"/\((∃ai,H p=some (.fl ai))\/∃ai,H p=some (.hB ai)))\/(T="set"/\∃S n,H p=some (.set S n))
 |_=>False
def OW{v:Value}(J:Inv X zn Y H s)(r:RelV x v)(ty:zZ X.K T x H) :
  s.TypeIs v T/\∀a,v=.ref a->∃bC,s.heap.get? a=some bC/\bC.dict=none:=by
 cases x with
 |str z=>
  obtain⟨t,rfl⟩:=r;cases(show T="str" from ty);exact⟨typeIs_str s z t,λ_ e=>nomatch e⟩
 |int i=>
  obtain⟨t,rfl⟩:=r;cases(show T="int" from ty);exact⟨typeIs_int s i t,λ_ e=>nomatch e⟩
 |ref p=>
  cases r;rcases ty with⟨rfl,xs,a'⟩|⟨rfl,o,ax,aI,hd⟩|⟨rfl,ax⟩|⟨rfl,S,n,ax⟩
  .obtain⟨its,_,pl,_⟩:=J.list a'
   refine⟨pl.isList.typeIs,λa e=>?_⟩;cases e;obtain⟨o,n,e,c,hd,_⟩:=pl;exact⟨o,e,hd⟩
  .refine⟨⟨o,J.fe p o ax,aI⟩,λa e=>?_⟩
   cases e;exact⟨o,J.fe _ o ax,hd⟩
  .have z:∃o,s.heap.get? p=some o/\o.ExactDict:=by
    rcases ax with⟨ai,ax⟩|⟨ai,ax⟩
    .obtain⟨_,_,_,_,o,_,_,e,ex,_⟩:=J.bQ p _ ax
     exact⟨o,e,ex⟩
    .obtain⟨_,_,_,_,o,_,_,e,ex,_⟩:=J.bQ p _ ax
     exact⟨o,e,ex⟩
   obtain⟨o,e,ex⟩:=z;refine⟨⟨o,e,ex.1⟩,λa az=>?_⟩;cases az;exact⟨o,e,ex.2.1⟩
  .obtain⟨o,_,_,_,e,ex,_⟩:=J.bQ p _ ax
   refine⟨⟨o,e,ex.1⟩,λa az=>?_⟩;cases az;exact⟨o,e,ex.2.1⟩
 |_=>exact aj4 ty
def aeh(K:aS)(T:String)(r:V->List V->aw->c9->Prop)(to:TE):TE:=λY H Q=>to Y H λx H1=>zZ K T x H1/\r x [] H1 Q
def aeg(K:aS)(T:String)(r:V->List V->aw->c9->Prop)(to:TE)(t:gv):TE:=λY H Q=>to Y H λx H1=>zZ K T x H1/\t Y H1 λxs aM=>r x xs aM Q
variable{o e:Expr}{ay:List Expr}{to:TE}{t:gv}{name:Str}{apos dk:Pos}{T id:String}{r:V->List V->aw->c9->Prop}
def aa7(dh:PlainAttrs T)(slot:Slot T name id)(qV:typeOf (.builtin id)=pure (.type "method_descriptor"))(hm:Av X id r)(bg:bV X o to)
  (n9:ak8 o name X.env (eval o X.env)=eval o X.env:=by rfl) (oe:(apos.endLine==dk.line)=true:=by rfl):bV X (.Call (.Attribute o name apos) [] [] dk) (aeh X.K T r to):=by
 intro zn s Y H Q J h;refine wpAny_Call_method0_late n9 oe (bX (bg zn s Y H _ J h) λv s1 aX=>?_);obtain⟨x,H1,bb,bB,ty,bq⟩:=aX;obtain⟨af,ah⟩:=OW bb bB ty;exact⟨T,id,dh,slot,qV,af,ah,alZ rfl (PySem.evalArgs_none (hm zn s1 Y H1 x [] v [] Q bb bB .nil bq))⟩
def L9(dh:PlainAttrs T)(slot:Slot T name id)(qV:typeOf (.builtin id)=pure (.type "method_descriptor"))(hm:Av X id r)(bg:bV X o to)(aq:eN X (e::ay) t)
  (n9:ak8 o name X.env (eval o X.env)=eval o X.env:=by rfl)
  (uU:((ajS dk (ajo (e::ay) X.env)).all (λx=>!x.1)&&(ald dk (akI [] X.env)).all (λx=>x.1.isSome)
&&decide ((e::ay).length+([]:List amx).length+(if([]:List amx).isEmpty then 0 else 1)<30))=true:=by rfl)
  (oe:(apos.endLine==dk.line)=true:=by rfl) (aC:ajo (e::ay) X.env=(false,eval e X.env)::ajo ay X.env:=by rfl) (iU:(ajS dk (ajo ay X.env)).any (·.1)=false:=by rfl) :
  bV X (.Call (.Attribute o name apos) (e::ay) [] dk) (aeg X.K T r to t):=by
 intro zn s Y H Q J h;refine wpAny_Call_method_late n9 uU oe rfl (bX (bg zn s Y H _ J h) λv s1 aX=>?_);obtain⟨x,H1,bb,bB,ty,bq⟩:=aX;obtain⟨af,ah⟩:=OW bb bB ty;refine⟨T,id,dh,slot,qV,af,ah,?_⟩;have sk:=aq dk zn s1 Y H1 _ bb bq;rw[aC]at sk ⊢;refine alZ (by show(false||(ajS dk (ajo ay X.env)).any (·.1))=false;rw[iU]<;>rfl) (amU ?_);exact bX sk λus s2 ⟨vs,aM,bU,b_,b1⟩=>hm zn s2 Y aM x vs v us Q bU bB b_ b1
end
def w2(X:aU)(id:String)(r:V->List V->aw->c9->Prop):Prop:=
 ∀(zn:cX)(s:ajp)(Y:St)(H:aw)(x:V)(xs:List V)(v:Value)(us:List Value)(Q:c9),Inv X zn Y H s->RelV x v->Vals xs us->r x xs H Q->
  wpAny (model X.prog X.w) X.A (call (.builtin id) (v::us)) (ht X zn Y Q) X.dU s
def Vals.one:∀{x:V}{us:List Value},Vals [x] us->∃u,us=[u]/\RelV x u
 |_,_,.cons r .nil=>⟨_,rfl,r⟩
section
variable{X:aU}{zn:cX}{Y:St}{H:aw}{s:ajp}{l:Addr}{xs ys:List V}
def Inv.K_{its its':List Value}{n:Nat}{f:Array Value->Array Value}{t':Nat}(J:Inv X zn Y H s)(d7:H l=some (.lst xs))
  (e:s.heap.get? l=some { cls:=.type "list",data:=.seq its.toArray n }) (hf:f its.toArray=its'.toArray) (bI:Vals ys its') (hz:ys.length<=ajt) :
  Inv X zn Y (upd H l (.lst ys)) { s with heap:=s.heap.update l (ajZ f),toks:=t' }:=by
 have q:=IsL.update e f;rw[hf]at q;refine J.write (x:=l) (e:=l) (by rw[d7];exact trivial) (.inl rfl) (λfa u ab cx=>(aoh s.heap (ajZ f) (amg ab)).trans cx) ⟨_,q⟩ ?_;exact⟨hz,its',_,bI,q⟩
def Inv.K6{t':Nat}(J:Inv X zn Y H s)(bI:Vals ys its)(hz:ys.length<=ajt) :
  Inv X zn Y (upd H s.heap.objs.size (.lst ys)) { s with heap:=s.heap.push { cls:=.type "list",data:=.seq its.toArray },toks:=t' }:=
 J.laid (λ_ _ q=>ajn _ q) (ajq _) ⟨hz,its,0,bI,ajA _ rfl⟩
def Inv.fresh(J:Inv X zn Y H s):H s.heap.objs.size=none:=J.bQ.fresh (ajq _)
def Inv.vg(J:Inv X zn Y H s)(d7:H l=some (.lst xs)):xs.length<=ajt/\∃(its:List Value)(n:Nat),Vals xs its/\xs.length=its.length/\s.heap.get? l=some { cls:=.type "list",data:=.seq its.toArray n }:=by
 obtain⟨z,its,n,r,e⟩:=J.bQ l _ d7;exact⟨z,its,n,r,r.length,e⟩
def aah(h:n<=ajt):ams n=false:=by
 unfold ams;exact decide_eq_false (by omega)
end
section
variable{X:aU}
def Mw:V->List V->aw->c9->Prop:=λx vs H Q=>∃l xs y,x=.ref l/\vs=[y]/\H l=some (.lst xs)/\xs.length<ajt/\Q .aQ (upd H l (.lst (xs++[y])))
def vz:w2 X "list.append" Mw:=by
 intro zn s Y H x vs v us Q J a9 bR h;obtain⟨l,xs,y,rfl,rfl,d7,hz,q⟩:=h;cases a9;obtain⟨u,rfl,d9⟩:=bR.one;obtain⟨z,its,n,r,au,e⟩:=J.vg d7;refine call_meets F.slot_list_append ⟨_,e,rfl⟩ F.entry_list_append (F.args_list_append_2 _ _) (PySem.list_append l its.toArray n u (by rw[ajB];omega)) ⟨e,?_⟩;refine⟨.aQ,_,J.K_ (its':=its++[u]) d7 e (by simp) (r.append (.cons d9 .nil)) ?_,rfl,q⟩;rw[ajz,al6];omega
def My:V->List V->aw->c9->Prop:=λx vs H Q=>∃l b xs zs,x=.ref l/\vs=[.ref b]/\H l=some (.lst xs)/\H b=some (.lst zs)/\xs.length+zs.length<=ajt/\Q .aQ (upd H l (.lst (xs++zs)))
def ZW:w2 X "list.extend" My:=by
 intro zn s Y H x vs v us Q J a9 bR h;obtain⟨l,b,xs,zs,rfl,rfl,d7,n6,hz,q⟩:=h;cases a9;obtain⟨u,rfl,d9⟩:=bR.one;cases d9;obtain⟨z,its,n,r,au,e⟩:=J.vg d7;obtain⟨ew,ly,di,b_,ij,az⟩:=J.vg n6;have hsz:its.toArray.size+ly.toArray.size<=ajt:=by rw[ajB,ajB];omega
 have XI:¬(!its.toArray.isEmpty&&ams (its.toArray.size+ly.toArray.size))=true:=by
  rw[aah hsz,Bool.and_false];exact ajx
 refine call_meets F.slot_list_extend ⟨_,e,rfl⟩ F.entry_list_extend (F.args_list_extend_2 _ _)
  (AutoSeq1.list_extend_list_list_0 l its.toArray n b ly.toArray di XI (by rw[ajB];omega) (by omega)) ⟨e,az,?_⟩
 refine⟨.aQ,_,J.K_ (its':=its++ly) d7 e (by simp) (r.append b_) ?_,rfl,q⟩;rw[ajz];omega
def Mx:fG:=λx y H Q=>∃l b xs zs,x=.ref l/\y=.ref b/\H l=some (.lst xs)/\H b=some (.lst zs)/\xs.length+zs.length<=ajt/\∀p,H p=none->Q (.ref p) (upd H p (.lst (xs++zs)))
def LW:ej X (alc .Add) Mx:=by
 intro zn s Y H x y v u Q J a9 bA h;obtain⟨l,b,xs,zs,rfl,rfl,d7,n6,hz,q⟩:=h;cases a9;cases bA;obtain⟨z,its,n,r,au,e⟩:=J.vg d7;obtain⟨ew,ly,di,b_,ij,az⟩:=J.vg n6;refine P.add_list e az ?_ (by rw[ajB,ajB];omega);have gy:its.toArray++ly.toArray=(its++ly).toArray:=by simp
 rw[gy];exact⟨.ref _,_,J.K6 (t':=s.toks) (r.append b_) (by rw[ajz];omega),rfl,q _ J.fresh⟩
end
end aF
namespace Fn
open PySem PySem.W PySem.Calls PyProof.Rows
def Yj:∀(ns:List Int)(vs:List Value),WellAll P h vs (ns.map WData.int)->akH vs ns:=by
 intro ns
 induction ns with
 |nil=>
  intro vs w;rw[anV]at w;cases w;exact .nil
 |cons n ns a8=>
  intro vs w;rw[ajw]at w
  cases w with
  |cons a b=>
   cases a;exact .cons _ _ (a8 _ b)
def adL{l:OpenLaw}{n:Nat}(aG:l.most=some n){P:Params}{h:Heap}{args:List WData}{vals:List Value}
  (yl:l.row.toRowW.claim.pre args=true) (CD:WellAll P h vals args) :
  ∃a vs ns,vals=[ajU a]/\args=[WData.list (ns.map WData.int)]/\h.get? a=some { cls:=.type "list",data:=.seq vs.toArray }/\akH vs ns/\ns.length<=n:=by
 have ym:WShape.hasAll [] args [.list .int]=true:=(pre_splitW yl).1;have aI:l.pre.holds [] { args:=args }=true:=(pre_splitW yl).2;obtain⟨d,r,rfl,af,ah⟩:=hasAllW_cons ym;obtain rfl:=hasAllW_nil ah;obtain⟨xs,rfl,bN⟩:=hasW_list af;obtain⟨ns,rfl⟩:=items_int bN;have hlen:ns.length<=n:=by
  unfold OpenLaw.pre at aI;have dz:(WTm.not (.lt (.lit (.int (n:Int))) (.len (.arg 0)))).holds [] { args:=[.list (ns.map .int)] }=true:=by
   have dz:=(holds_andW aI).1;rw[aG]at dz;exact dz
  have fb:=condW_of dz (w_not (w_lt w_lit (w_len_list (w_arg rfl))));rw[ajm]at fb;refine Nat.le_of_not_lt λq=>?_
  have fp:(n:Int)<((ns.length:Nat):Int):=by omega
  first
   |(rw[decide_eq_true fp]at fb;exact absurd fb (by decide))
   |(simp at fb;omega)
 cases CD with
 |cons iJ dj=>
  cases dj
  cases iJ with
  |list bg hall=>exact⟨_,_,ns,rfl,rfl,bg,Yj ns _ hall,hlen⟩
def abG(l:OpenLaw)(args:List WData):l.row.toRowW.claim.post args (.bool true) args=true:=
 postW_of (r:=l.row.toRowW) (X:=(true==true))
  (show WShape.has [] (.bool true) .bool=true by first|rfl|decide|simp[WShape.has,WShape.arms,WShape.armsAll])
  (show(WTm.eq .res (.lit (.bool true))).value [] { args:=args,res:=some (.bool true),after:=args }=some (.bool (true==true))from w_eq_bool (w_res rfl) w_lit) rfl
def P'{l:OpenLaw}{n:Nat}{q:ajF}{loose:List Str}{w8:(Str->Option Value)->Heap->Prop}{tZ:World->Heap->Prop}{d:DefRec}
  (aG:l.most=some n) (Cj:d.params.defaults=[])
  (call:∀(w:World)(g8 du:ajp)(mg c_:bt)(ey:Addr)(o:Obj)(pm cd doc:Value)(a:Addr)(vs:List Value)(ns:List Int),
   Ground q loose [] w8 w g8 mg c_ du.heap->tZ w du.heap->
   du.heap.get? ey=some o->o.data=.func (docDef d.name d.params d.body d.scope pm cd doc)->du.heap.CodeRec cd d.name->mg d.name=some (.ref ey)->
   du.heap.get? a=some { cls:=.type "list",data:=.seq vs.toArray }->akH vs ns->ns.length<=n->du.gens=#[]->
   al4 (model l.prog w) anQ (.call (.ref ey) ⟨[.ref a],[]⟩) (λr aP=>r=.ok (.ret (.bool true))/\OldK du.heap aP.heap/\aP.os=du.os/\amM aP.gens) du) :
  WalkO q loose w8 tZ l.row.toRowW d [] (λf vs=>PySem.call f vs):=by
 intro w g8 du mg c_ G σ ey o pm cd doc qA cB bg hd gG kC uX aY args vals as yl aiI aiL CD aiJ;obtain rfl:qA=.none:=Dflts.none kC Cj;obtain rfl:cB=.none:=Dflts.noKw kC;obtain⟨a,vs,ns,rfl,rfl,Cv,hints,hlen⟩:=adL aG yl CD;refine enter_call (alG (call w g8 du mg c_ ey o pm cd doc a vs ns G σ bg (fd_plain hd) gG uX Cv hints hlen aY) λr aP a'=>?_);obtain⟨rfl,ah,bN,dz⟩:=a';exact⟨.inl ⟨.bool true,.bool true,[],rfl,λ_=>rfl,.bool true,abG l _,λ_=>⟨anD,λ_ hm=>(nomatch hm)⟩⟩,ah,bN,dz⟩
end Fn
namespace aF
open PySem PySem.Spec PyProof.Rows
theorem O3:∀{vs:List Value}{ns:List Int},akH vs ns->Vals (ns.map V.int) vs
 |_,_,.nil=>.nil|_,_,.cons n t h=>.cons ⟨t,rfl⟩ (O3 h)
abbrev jW{K:aS}{h:Heap}(_:K.In h):aS:=K
def inClass(s:Stmt)(j:Nat):Stmt:=match s with
 |.ClassDef _ _ _ body _ _ _ _ _ _ _=>body.getD j (.Pass ⟨0,0,0,0⟩)|_=>.Pass ⟨0,0,0,0⟩
def ie(s:Stmt):amr:=match s with
 |.FunctionDef _ a _ _ _ _ _ _ _ _=>a|_=>{ posonlyargs:=[],args:=[],vararg:=none,kwonlyargs:=[],kw_defaults:=[],kwarg:=none,defaults:=[] }
def fv(s:Stmt):List Stmt:=match s with
 |.FunctionDef _ _ b _ _ _ _ _ _ _=>b|_=>[]
def bH(s:Stmt):Scope:=match s with
 |.FunctionDef _ _ _ _ _ _ sc _ _ _=>sc|_=>{ kind:=.function,names:=[],isGenerator:=false,isCoroutine:=false }
abbrev eM:mO:=λ_ _ _ _ _ _=>False
abbrev i7:gE:=λ_ _ _=>False
def tj:Passes eM X i7:=λ_ _ _ _ _ _ _ h=>h.elim
structure k5(K:aS)(x qual:Str)(st:Stmt)(f:Addr)(fd:akA):Prop where
 ex:∃(dv:Value)(c3:Option Addr)(cB doc pm:Value)(an:Option Addr)(bx ct:Value)(fA:Array (Option Value)),
  fd=ala x qual (ie st) (fv st) (bH st) .none cB doc pm an bx ct/\K.lookup f=some ⟨dv,c3,.func fd,fA⟩/\am5 K bx qual=true
 kp:alm K (.ref f)=true
section
variable{P:ajF}{w:World}{K:aS}{mg:bt}{base:Heap}
def k5.ok{x qual:Str}{st:Stmt}{f:Addr}{fd:akA}{N ps:List Str}{k:Nat}{sp:ek}(F:k5 K x qual st f fd)(S:cf N ps (bH st))(len:∀vs H Q E,sp vs H Q E->vs.length=ps.length)
  (uP:∀(bx:Value)(A:ajM)(outer:List Env)(s:ajp)(H:aw)(vs:List V)(Q:c9)(E:gE),cE k (A.deeper (al5 qual (bH st) s.heap.objs.size f bx))->sp vs H Q E->
   ∃t,iL (hj eM P w K mg base N qual (bH st) f bx A outer s H E).gI (fv st) t/\t { bo:=λ_ H'=>Q .aQ H',cZ:=Q } (start N vs) H):fg P w K mg base eM (k+1) f fd ps sp:=by
 obtain⟨dv,c3,cB,doc,pm,an,bx,ct,fA,rfl,lk,gG⟩:=F.ex;refine BS lk gG S len λA outer s H vs Q E aB hW=>?_
 obtain⟨t,h,q⟩:=uP bx A outer s H vs Q E aB hW;exact⟨t,h.gI,q⟩
def k5.binds{x qual:Str}{st:Stmt}{f:Addr}{fd:akA}{ps:List Str}(F:k5 K x qual st f fd)
  (h:∀(cB doc pm:Value)(an:Option Addr)(bx ct:Value)(us:List Value),us.length=ps.length->alF (ala x qual (ie st) (fv st) (bH st) .none cB doc pm an bx ct) ⟨us,[]⟩=pure (ps.zip us)):Binds K fd ps []:=by
 obtain⟨dv,c3,cB,doc,pm,an,bx,ct,fA,rfl,lk,gG⟩:=F.ex;exact .all (h cB doc pm an bx ct)
def x2{x qual:Str}{st:Stmt}{f:Addr}{dv:Value}{c3 an:Option Addr}{fA:Array (Option Value)}{cB doc pm bx ct:Value}(l:K.lookup f=some ⟨dv,c3,.func (ala x qual (ie st) (fv st) (bH st) .none cB doc pm an bx ct),fA⟩)
  (c:am5 K bx qual=true) (k:alm K (.ref f)=true):k5 K x qual st f (ala x qual (ie st) (fv st) (bH st) .none cB doc pm an bx ct):=⟨⟨dv,c3,cB,doc,pm,an,bx,ct,fA,rfl,l,c⟩,k⟩
end
def eS(h:n<=1000):n<ajt:=Nat.lt_of_le_of_lt h (by decide)
def oj{A B:Prop}(h:B):if false=true then A else B:=by
 rw[if_neg ajx];exact h
def om{A B:Prop}(h:A):if true=true then A else B:=by
 rw[if_pos rfl];exact h
end aF
set_option maxHeartbeats 4000000
namespace aF
open PySem PySem.Spec PyProof.Rows
section
variable{κ:Type}[DecidableEq κ]
def jP(ai:List (κ×V))(k:κ):Option V:=(ai.find? λkv=>decide (kv.1=k)).map (·.2)
def putK(ai:List (κ×V))(k:κ)(v:V):List (κ×V):=
 if(ai.any λkv=>decide (kv.1=k))=true then ai.map (λkv=>if kv.1=k then(kv.1,v)else kv)else ai++[(k,v)]
def E4{r:List (κ×V)}{k:κ}(e:p.1=k):jP (p::r) k=some p.2:=by simp[jP,als,e]
def E3{r:List (κ×V)}{k:κ}(e:¬p.1=k):jP (p::r) k=jP r k:=by simp[jP,als,e]
theorem O2(k:κ):∀ai:List (κ×V),(ai.any λkv=>decide (kv.1=k))=(jP ai k).isSome
 |[]=>rfl|p::r=>by
  rw[ak9]
  by_cases e:p.1=k
  .simp only[E4 e,decide_eq_true e,Bool.true_or,Option.isSome_some]
  .rw[E3 e,decide_eq_false e,Bool.false_or];exact O2 k r
def Di(ai:List (κ×V))(k:κ)(v:V):(putK ai k v).length<=ai.length+1:=by
 unfold putK;split
 .rw[ajm];omega
 .rw[ajz,ajC,ako];omega
def iA.Yn{o:Option V}{u:Option Value}(r:iA o u):o.isSome=u.isSome:=by
 cases o with
 |none=>cases u with
  |none=>rfl|some _=>exact(show False from r).elim
 |some _=>cases u with
  |none=>exact(show False from r).elim|some _=>rfl
def iA.getD{o:Option V}{u:Option Value}(r:iA o u)(bh:RelV d d'):RelV (o.getD d) (u.getD d'):=by
 cases o with
 |none=>cases u with
  |none=>exact bh|some _=>exact(show False from r).elim
 |some _=>cases u with
  |none=>exact(show False from r).elim|some _=>exact r
def gc.val(r:gc ai vs)(k:κ):iA (jP ai k) (anR vs k):=by
 unfold gc at r
 induction r with
 |nil=>exact akK|@cons p q ps g6 h t a8=>
  obtain⟨af,ah⟩:=h
  by_cases e:p.1=k
  .have cz:q.1=k:=af.symm.trans e
   have b:anR (q::g6) k=some q.2:=by simp[anR,als,cz]
   rw[E4 e,b];exact ah
  .have cz:¬q.1=k:=λz=>e (af.trans z)
   have b:anR (q::g6) k=anR g6 k:=by simp[anR,als,cz]
   rw[E3 e,b];exact a8
def gc.any{ai:List (κ×V)}{vs:List (κ×Value)}(r:gc ai vs)(k:κ):(ai.any λkv=>decide (kv.1=k))=vs.any λkv=>decide (kv.1=k):=by
 unfold gc at r
 induction r with
 |nil=>rfl|cons h t a8=>rw[ak9,ak9,a8,h.1]
def gc.Et(r:gc ai vs)(k:κ)(bA:RelV y u) :
  gc (ai.map λkv=>if kv.1=k then(kv.1,y)else kv) (vs.map λkv=>if kv.1=k then(kv.1,u)else kv):=by
 unfold gc at r ⊢
 induction r with
 |nil=>exact .nil|@cons p q ps g6 h t a8=>
  rw[ajw,ajw];refine .cons ?_ a8;obtain⟨af,ah⟩:=h
  by_cases e:p.1=k
  .rw[if_pos e,if_pos (af.symm.trans e)];exact⟨af,bA⟩
  .rw[if_neg e,if_neg (λz=>e (af.trans z))];exact⟨af,ah⟩
def gc.put(r:gc ai vs)(k:κ)(bA:RelV y u):gc (putK ai k y) (stored vs k u):=by
 unfold putK stored;rw[r.any k]
 by_cases e:(vs.any λkv=>decide (kv.1=k))=true
 .rw[if_pos e,if_pos e];exact r.Et k bA
 .rw[if_neg e,if_neg e];exact Paired.snoc r ⟨rfl,bA⟩
def gc.length{ai:List (κ×V)}{vs:List (κ×Value)}(r:gc ai vs):ai.length=vs.length:=aor r
end
def va{k:Key}(r:RelV (cB k) u):(i1 P w).is k u=true:=by
 cases k with
 |inl i=>obtain⟨t,e⟩:=(show ∃t,u=amL i t from r);subst e;exact ZR P w i t
 |inr x=>obtain⟨t,e⟩:=(show ∃t,u=anc x t from r);subst e;exact ZS P w x t
theorem J2:∀{bc:List Key}{us:List Value},Vals (bc.map cB) us->ItemsAre (i1 P w) bc us
 |[],_,r=>by rw[anV]at r;cases r;exact .nil
 |k::bc,_,r=>by
  rw[ajw]at r
  cases r with
  |cons h t=>exact .cons (va h) (J2 t)
abbrev KT(H:aw):List (List Key×V)->List (List Key×Addr×Value)->Prop:=amA λp q=>p.1=q.1/\H q.2.1=some (.tup (p.1.map cB))/\RelV p.2 q.2.2
def KT.val(r:KT H ai xs)(k:List Key):iA (jP ai k) ((atKey xs k).map (·.2)):=by
 induction r with
 |nil=>exact akK|@cons p q ps g6 h t a8=>
  obtain⟨af,_,ah⟩:=h
  by_cases e:p.1=k
  .have cz:q.1=k:=af.symm.trans e
   have b:atKey (q::g6) k=some q.2:=by simp[atKey,als,cz]
   rw[E4 e,b];exact ah
  .have cz:¬q.1=k:=λz=>e (af.trans z)
   have b:atKey (q::g6) k=atKey g6 k:=by simp[atKey,als,cz]
   rw[E3 e,b];exact a8
def KT.Et(r:KT H ai xs)(k:List Key)(bA:RelV y u) :
  KT H (ai.map λkv=>if kv.1=k then(kv.1,y)else kv) (xs.map (putAt k u)):=by
 induction r with
 |nil=>exact .nil|@cons p q ps g6 h t a8=>
  rw[ajw,ajw];refine .cons ?_ a8;obtain⟨af,ah,bN⟩:=h;unfold putAt
  by_cases e:p.1=k
  .rw[if_pos e,if_pos (af.symm.trans e)];exact⟨af,ah,bA⟩
  .rw[if_neg e,if_neg (λz=>e (af.trans z))];exact⟨af,ah,bN⟩
def KT.put{H:aw}(r:KT H ai xs)(k:List Key)(ab:H b=some (.tup (k.map cB)))(bA:RelV y u) :
  KT H (putK ai k y) (storedH xs k b u):=by
 have e:(ai.any λkv=>decide (kv.1=k))=(atKey xs k).isSome:=by
  rw[O2,(r.val k).Yn,Option.isSome_map]
 unfold putK storedH;rw[e]
 by_cases q:(atKey xs k).isSome=true
 .rw[if_pos q,if_pos q];exact r.Et k bA
 .rw[if_neg q,if_neg q];exact Paired.snoc r ⟨rfl,ab,bA⟩
def KT.keeps{H H':aw}(r:KT H ai xs)(bO:∀b ys,H b=some (.tup ys)->H' b=some (.tup ys)):KT H' ai xs:=
 amA.Dw r λ_ _ z=>⟨z.1,bO _ _ z.2.1,z.2.2⟩
section
variable{P:ajF}{w:World}{H:aw}{h:Heap}{a:Addr}
def MG(ok:fh P w H h)(e:f3 H a u):gN P w H h a u:=e.ok ok
def ug{ai:List (Key×V)}(ok:fh P w H h)(e:f3 H a (.fl ai)):ai.length<=ajt/\(a==ak7)=false/\∃vs,gc ai vs/\h.DictOf (i1 P w) a vs:=
 show gN P w H h a (.fl ai)from MG ok e
def Ib{ai:List (Key×V)}(ok:fh P w H h)(e:H a=some (.fl ai)):ai.length<=ajt/\(a==ak7)=false/\∃vs,gc ai vs/\h.DictOf (i1 P w) a vs:=ug ok (.inl e)
def yG{bc:List Key}(ok:fh P w H h)(e:H a=some (.tup (bc.map cB))):(ane (i1 P w)).is h bc a:=by
 obtain⟨_,its,r,o,af,ah,n,bN⟩:=(show gN P w H h a (.tup (bc.map cB))from ok a _ e);exact⟨o,its.toArray,n,af,ah,bN,by simpa using J2 r⟩
def ui{ai:List (List Key×V)}(ok:fh P w H h)(e:f3 H a (.hB ai)):ai.length<=ajt/\(a==ak7)=false/\
  ∃xs,KT H ai xs/\h.DictOfH (ane (i1 P w)) a xs:=by
 obtain⟨z,y,xs,r,o,ay,cM,af,ah,bN,dz,fb⟩:=(show gN P w H h a (.hB ai)from MG ok e);refine⟨z,y,xs,r,o,ay,cM,af,ah,bN,dz,λx ag=>?_,fb⟩;have all:∀{l:List (List Key×V)}{m:List (List Key×Addr×Value)},KT H l m->∀x∈m,(ane (i1 P w)).is h x.1 x.2.1:=by
  intro l m q
  induction q with
  |nil=>intro x ag;exact nomatch ag
  |@cons p q ps g6 a' t a8=>
   intro x ag;rcases aju.mp ag with e|ag
   .subst e
    exact yG ok (by rw[<-a'.1];exact a'.2.1)
   .exact a8 x ag
 exact all r x ag
def UN{ai:List (List Key×V)}(ok:fh P w H h)(e:H a=some (.hB ai)):ai.length<=ajt/\(a==ak7)=false/\
  ∃xs,KT H ai xs/\h.DictOfH (ane (i1 P w)) a xs:=ui ok (.inl e)
end
def k3(H:aw)(a:Addr)(y:V)(r:Option V):Prop:=
 (∃ai k,f3 H a (.fl ai)/\y=cB k/\r=jP ai k)\/∃ai k b,f3 H a (.hB ai)/\y=.ref b/\H b=some (.tup (k.map cB))/\r=jP ai k
def oZ(H:aw)(a:Addr)(y v:V)(H':aw):Prop:=
 (∃ai k,H a=some (.fl ai)/\y=cB k/\ai.length<ajt/\H'=upd H a (.fl (putK ai k v)))\/
 ∃ai k b,H a=some (.hB ai)/\y=.ref b/\H b=some (.tup (k.map cB))/\ai.length<ajt/\H'=upd H a (.hB (putK ai k v))
def k3.k{H:aw}{k:Key}(e:H a=some (.fl ai)):k3 H a (cB k) (jP ai k):=.inl ⟨ai,k,.inl e,rfl,rfl⟩
def k3.t{H:aw}{k:List Key}(e:H a=some (.hB ai))(c6:H b=some (.tup (k.map cB))):k3 H a (.ref b) (jP ai k):=.inr ⟨ai,k,b,.inl e,rfl,c6,rfl⟩
def oZ.k{H:aw}{ai:List (Key×V)}{k:Key}{v:V}(e:H a=some (.fl ai))(au:ai.length<ajt):oZ H a (cB k) v (upd H a (.fl (putK ai k v))):=.inl ⟨ai,k,e,rfl,au,rfl⟩
def oZ.t{H:aw}{ai:List (List Key×V)}{k:List Key}{v:V}(e:H a=some (.hB ai))(c6:H b=some (.tup (k.map cB)))(au:ai.length<ajt) :
  oZ H a (.ref b) v (upd H a (.hB (putK ai k v))):=.inr ⟨ai,k,b,e,rfl,c6,au,rfl⟩
section
variable{X:aU}{zn:cX}{Y:St}{H:aw}{s:ajp}{a:Addr}{y v:V}{u r:Value}{o:Option V}{A:ajM}{E:cF}
def Inv.big(J:Inv X zn Y H s):ak7<s.heap.objs.size:=by
 have h:ajX<s.heap.objs.size:=(J.mod.glob.keeps J.cG).lt;exact Nat.lt_trans (by decide) h
theorem TV{Q:cF}(cx:A.units+1<cLine)(J:Inv X zn Y H s)(g:k3 H a y (some v))(bA:RelV y u)(h:∀eu aP,Inv X zn Y H aP->RelV v eu->Q eu aP) :
  wpAny (model X.prog X.w) A (amw (.ref a) u) Q E s:=by
 rcases g with⟨ai,k,e,e7,l⟩|⟨ai,k,b,e,e7,c6,l⟩
 .subst e7
  obtain⟨z,hd,vs,rel,dd⟩:=ug J.bQ e;obtain⟨eu,hw,jj⟩:=iA.some_of (v:=v) (o:=anR vs k) (by rw[l];exact rel.val k);exact wpAny_getItem_of (va bA) dd.mapOf hw (h eu _ (J.tok _) jj)
 .subst e7
  cases(show u=ajU b from bA);obtain⟨z,hd,xs,rel,dd⟩:=ui J.bQ e;obtain⟨eu,hw,jj⟩:=iA.some_of (v:=v) (o:=(atKey xs k).map (·.2)) (by rw[l];exact rel.val k);obtain⟨p,aH,XX⟩:=al0.mp hw;refine wpAny_getItem_heap (anh cx) (yG J.bQ c6) dd aH ?_;rw[XX];exact h eu _ (J.tok _) jj
def Br{h':Heap}{t':Nat}(J:Inv X zn Y H s)(j_:tT (H a))(aC:amR a s.heap h')(he:∃q,h'.get? a=some q)(new:gN X.prog X.w (upd H a bC) h' a bC) :
  Inv X zn Y (upd H a bC) { s with heap:=h',toks:=t' }:=
 J.write (x:=a) (e:=a) j_ (.inl rfl) (λb q ab z=>(aC.2 b ab).trans z) he new
def Ia{H':aw}{ai:List (Key×V)}(z:ai.length<=ajt)(hd:(a==ak7)=false)(rel:gc ai vs)(dd:h'.DictOf (i1 P w) a vs) :
  gN P w H' h' a (.fl ai):=⟨z,hd,vs,rel,dd⟩
def Uw{Q:Unit->ajp->Prop}(cx:A.units+1<cLine)(J:Inv X zn Y H s)(g:oZ H a y v H')(bA:RelV y u)(bR:RelV v r)(h:∀aP,Inv X zn Y H' aP->Q () aP) :
  wpAny (model X.prog X.w) A (setItem (.ref a) u r) Q E s:=by
 rcases g with⟨ai,k,e,e7,l,Bz⟩|⟨ai,k,b,e,e7,c6,l,Bz⟩
 .subst e7 Bz
  obtain⟨z,hd,vs,rel,dd⟩:=Ib J.bQ e;have hz:vs.length<=ajt:=by rw[<-rel.length];exact z
  have au:(putK ai k v).length<=ajt:=by have:=Di ai k v;omega
  refine wpAny_setItem_pairs (hsz:=hz) (va bA) dd λh' nZ aC=>h _ ?_
  have he:∃q,h'.get? a=some q:=let⟨q,_,_,a',_⟩:=nZ;⟨q,a'⟩
  exact Br J (by rw[e];exact akK) aC he (Ia au hd (rel.put k bR) nZ)
 .subst e7 Bz
  cases(show u=ajU b from bA);obtain⟨z,hd,xs,rel,dd⟩:=UN J.bQ e;have hz:xs.length<=ajt:=by rw[<-aor rel];exact z
  have au:(putK ai k v).length<=ajt:=by have:=Di ai k v;omega
  refine wpAny_setItem_heap (hsz:=hz) (anh cx) (yG J.bQ c6) dd λh' nZ aC=>h _ ?_
  obtain⟨q,ay,cM,a',ah,bN,dz,_,fb⟩:=nZ;refine Br J (by rw[e];exact akK) aC ⟨q,a'⟩ ⟨au,hd,_,(rel.put k c6 bR).keeps λc ys lY=>?_,q,ay,cM,a',ah,bN,dz,fb⟩;rw[df (DF lY e (λz=>nomatch z))];exact lY
end
def tU(i:Expr):Prop:=∀eK pJ,aog i false eK pJ=operate [eK,pJ] (amw eK pJ)
def Oi{prog:ajF}{w:World}{A:ajM}{E:cF}{s:ajp}{env:Env}{value slice:Expr}{pos:Pos}{T id:String}{Q:cF}
  (au:typeLookup (.type T) "__getitem__"=pure (some (.builtin id))) (aC:tU slice)
  (h:wpAny (model prog w) A (eval value env) (λo du=>wpAny (model prog w) A (eval slice env) (λi mC=>mC.TypeIs o T/\wpAny (model prog w) A (amw o i) Q E mC) E du) E s) :
  wpAny (model prog w) A (eval (.Subscript value slice pos) env) Q E s:=by
 refine Subscript_ (aj6 h (λo du kG=>aj6 kG (λi mC mh=>?_) λ_ _ x=>x) λ_ _ x=>x);obtain⟨gg,mh⟩:=mh;unfold subscriptTail;refine ajl ?_;rw[getitemInPython_of_ne gg.not_modules];refine ajl (wpAny_specialOf gg au ?_);have fin:wpAny (model prog w) A (aog slice false o i) (λr kS=>wpAny (model prog w) A (letTemporaryGo value o r >>= λ_=>pure r) Q E kS) E mC:=by
  rw[aC o i];exact wpAny_operating (aj6 mh (λr kS og=>ajl (wpAny_letTemporaryGo (ajr og))) λ_ _ x=>x)
 first
  |exact ajr (ajl fin)
  |exact ajl (ajr (ajl fin))
  |exact ajl fin
def UE(J:Inv X zn Y H s)(g:k3 H a y o):s.TypeIs (.ref a) "dict":=by
 rcases g with⟨ai,k,e,_,_⟩|⟨ai,k,b,e,_,_,_⟩
 .obtain⟨_,_,vs,_,dd⟩:=ug J.bQ e
  exact dd.typeIs
 .obtain⟨_,_,xs,_,dd⟩:=ui J.bQ e
  exact dd.typeIs
def aej(kT ty:TE):TE:=λY H Q=>kT Y H λx H1=>ty Y H1 λy aM=>∃a v,x=.ref a/\k3 aM a y (some v)/\Q v aM
def aco(kT ty kX:TE):hh:=λD Y H=>kX Y H λv H1=>kT Y H1 λx aM=>ty Y aM λy cP=>∃a hK,x=.ref a/\oZ cP a y v hK/\D.bo Y hK
section
variable{X:aU}{o i value:Expr}{pos pos':Pos}{kT ty kX:TE}
def abe(cx:X.A.units+1<cLine)(bg:bV X o kT)(aA:bV X i ty)(aC:tU i):bV X (.Subscript o i pos) (aej kT ty):=by
 intro zn s Y H Q J h;refine Oi anJ.lookup aC (bX (bg zn s Y H _ J h) λu s1 ⟨x,H1,bb,a9,bq⟩=>bX (aA zn s1 Y H1 _ bb bq) λpJ s2 ⟨y,aM,bU,bA,a,v,ex,g,b1⟩=>?_);subst ex;obtain rfl:u=ajU a:=a9;exact⟨UE bU g,TV cx bU g bA λeu s3 dD jj=>⟨v,aM,dD,jj,b1⟩⟩
def Ml(cx:X.A.units+1<cLine)(bg:bV X o kT)(aA:bV X i ty)(bI:bV X value kX)(aC:akP value (some (.Subscript o i pos')) pos.line X.env=pure false) :
  iK X (.Assign [.Subscript o i pos'] value pos) (aco kT ty kX):=by
 intro zn s Y H D J h;refine wpAny_Assign_Subscript (bX (bI zn s Y H _ J h) λr s1 ⟨v,H1,bb,bR,bq⟩=>bX (bg zn s1 Y H1 _ bb bq) λu s2 ⟨x,aM,bU,a9,b1⟩=>bX (aA zn s2 Y aM _ bU b1) λpJ s3 ⟨y,cP,dD,bA,a,hK,ex,g,gB⟩=>?_) aC;subst ex;obtain rfl:u=ajU a:=a9;exact Uw cx dD g bA bR λs4 i8=>⟨Y,hK,i8,gB⟩
end
def UG(h:Heap)(ab:ak7<h.objs.size):gN P w H (h.push { cls:=.type "dict",data:=.dict #[] }) h.objs.size (.fl []):=
 ⟨ajN _,beq_eq_false_iff_ne.mpr (amg (ajJ ab)),[],.nil,Heap.DictOf.new h⟩
def UM(h:Heap)(ab:ak7<h.objs.size):gN P w H (h.push { cls:=.type "dict",data:=.dict #[] }) h.objs.size (.hB []):=
 ⟨ajN _,beq_eq_false_iff_ne.mpr (amg (ajJ ab)),[],.nil,_,#[],0,ajA _ rfl,⟨rfl,rfl,rfl⟩,rfl,rfl,am6⟩
def ael:TE:=λ_ H Q=>∀p,H p=none->Q (.ref p) (upd H p (.hB []))
section
variable{X:aU}{pos:Pos}
def abh:bV X (.Dict [] [] pos) ael:=λzn s Y H Q J h=>
 wpAny_Dict_empty ⟨.ref s.heap.objs.size,_,J.laid (a:=s.heap.objs.size) (o:=.hB []) (t':=s.toks) (λ_ _ q=>ajn _ q) (ajq _) (UM s.heap J.big),rfl,h _ (J.bQ.fresh (ajq _))⟩
end
def wo:List (TE×TE)->St->aw->(List (V×V)->aw->Prop)->Prop
 |[],_,H,Q=>Q [] H|(tk,kX)::r,Y,H,Q=>tk Y H λx H1=>kX Y H1 λy aM=>wo r Y aM λps cP=>Q ((x,y)::ps) cP
abbrev FH:List (V×V)->List (Value×Value)->Prop:=amA λp q=>RelV p.1 q.1/\RelV p.2 q.2
def tW(X:aU)(pos:Pos)(keys:List (Option Expr))(values:List Expr)(kh:List (TE×TE)):Prop:=
 ∀(zn:cX)(s:ajp)(Y:St)(H:aw)(Q:List (V×V)->aw->Prop),Inv X zn Y H s->wo kh Y H Q->
  wpAny (model X.prog X.w) X.A (evalPairs (pairTrees keys values X.env pos)) (λvs aP=>∃ps H',Inv X zn Y H' aP/\FH ps vs/\Q ps H') X.dU s
def abI:tW X pos [] [] []:=λzn s Y H Q J h=>pairTrees_nil_walk ⟨[],H,J,.nil,h⟩
def abH{k v:Expr}(ax:bV X k tk)(bI:bV X v kX)(aB:tW X pos bc vs kh) :
  tW X pos (some k::bc) (v::vs) ((tk,kX)::kh):=λzn s Y H Q J h=>
 pairTrees_cons_walk (bX (ax zn s Y H _ J h) λu s1 ⟨x,H1,bb,a9,bq⟩=>bX (bI zn s1 Y H1 _ bb bq) λdj s2 ⟨y,aM,bU,bA,b1⟩=>
  bX (aB zn s2 Y aM _ bU b1) λws s3 ⟨ps,cP,dD,rel,gB⟩=>⟨(x,y)::ps,cP,dD,.cons ⟨a9,bA⟩ rel,gB⟩)
def pV(ai more:List (Key×V)):List (Key×V):=more.foldl (λacc kv=>putK acc kv.1 kv.2) ai
def gc.merge:∀{more:List (Key×V)}{rs:List (Key×Value)}{ai:List (Key×V)}{vs:List (Key×Value)},gc more rs->gc ai vs->gc (pV ai more) (merged vs rs):=by
 intro more rs ai vs r;unfold gc at r
 induction r generalizing ai vs with
 |nil=>intro q;exact q|@cons p q ps g6 h t a8=>
  intro kO;have e:gc (putK ai p.1 p.2) (stored vs q.1 q.2):=by
   have:=kO.put p.1 h.2;rw[<-h.1];exact this
  exact a8 e
theorem K1:∀(more ai:List (Key×V)),(pV ai more).length<=ai.length+more.length
 |[],ai=>by show ai.length<=ai.length+0;omega|p::r,ai=>by
  have af:=K1 r (putK ai p.1 p.2);have ah:=Di ai p.1 p.2;show(pV (putK ai p.1 p.2) r).length<=_;rw[ajC];omega
theorem HK:∀{ai:List (Key×V)}{ws:List (Value×Value)},FH (ai.map λkv=>(cB kv.1,kv.2)) ws->∃rs,Carries (i1 P w) ws rs/\gc ai rs
 |[],_,r=>by rw[anV]at r;cases r;exact⟨[],akK,.nil⟩
 |p::ai,_,r=>by
  rw[ajw]at r
  cases r with
  |@cons a b as bs h t=>
   obtain⟨rs,c,q⟩:=HK (P:=P) (w:=w) t;obtain⟨bW,bY⟩:=b;exact⟨(p.1,bY)::rs,⟨va h.1,rfl,c⟩,.cons ⟨rfl,h.2⟩ q⟩
def aem(kh:List (TE×TE)):TE:=λY H Q=>∀p,H p=none->wo kh Y (upd H p (.fl [])) λps aM=>aM p=some (.fl [])/\∃ai:List (Key×V),ps=ai.map (λkv=>(cB kv.1,kv.2))/\ai.length<=15/\Q (.ref p) (upd aM p (.fl (pV [] ai)))
def abg{X:aU}{pos:Pos}{keys:List (Option Expr)}{values:List Expr}{kh:List (TE×TE)}(h:tW X pos keys values kh)(hall:keys.all (·.isSome)=true)(au:keys.length=values.length)(h0:keys≠[])
  (B9:keys.length<=15):bV X (.Dict keys values pos) (aem kh):=by
 intro zn s Y H Q J q;have aG:=J.bQ.fresh (ajq s.heap.objs.size);have bb:=J.laid (a:=s.heap.objs.size) (o:=.fl []) (h':=s.heap.push { cls:=.type "dict",data:=.dict #[] }) (t':=s.toks) (λ_ _ q=>ajn _ q) (ajq _) (UG s.heap J.big);refine wpAny_Dict_walk (knd:=i1 X.prog X.w) hall au h0 B9 (bX (h zn _ Y _ _ bb (q _ aG)) λws s2 ⟨ps,aM,bU,rel,e,ai,cM,lk,b1⟩=>?_);subst cM;obtain⟨rs,c,ji⟩:=HK (P:=X.prog) (w:=X.w) rel;obtain⟨z,hd,ajf,kO,dd⟩:=Ib bU.bQ e;cases kO;refine⟨rs,c,dd,λh' nZ aC=>⟨.ref s.heap.objs.size,_,?_,rfl,b1⟩⟩;have hz:(pV [] ai).length<=ajt:=by
  have af:=K1 ai [];rw[ako]at af;rw[ajP];omega
 have he:∃q,h'.get? s.heap.objs.size=some q:=let⟨q,_,_,a',_⟩:=nZ;⟨q,a'⟩
 exact Br bU (by rw[e];exact akK) aC he (Ia hz hd (ji.merge .nil) nZ)
structure hu(X:aU)(o:Expr)(m:Str)(apos:Pos)(e:Expr)(dk:Pos):Prop where
 base:ak8 o m X.env (eval o X.env)=eval o X.env
 BN:((ajS dk (ajo [e] X.env)).all (λx=>!x.1)&&(ald dk (akI [] X.env)).all (λx=>x.1.isSome)
&&decide (([e]:List Expr).length+([]:List amx).length+(if([]:List amx).isEmpty then 0 else 1)<30))=true
 line:(apos.endLine==dk.line)=true
 trees:ajS dk (ajo [e] X.env)=[(false,eval e X.env)]
structure M2(X:aU)(o:Expr)(m:Str)(apos:Pos)(e f:Expr)(dk:Pos):Prop where
 base:ak8 o m X.env (eval o X.env)=eval o X.env
 BN:((ajS dk (ajo [e,f] X.env)).all (λx=>!x.1)&&(ald dk (akI [] X.env)).all (λx=>x.1.isSome)
&&decide (([e,f]:List Expr).length+([]:List amx).length+(if([]:List amx).isEmpty then 0 else 1)<30))=true
 line:(apos.endLine==dk.line)=true
 trees:ajS dk (ajo [e,f] X.env)=[(false,eval e X.env),(false,eval f X.env)]
def FC(H:aw)(a:Addr):Prop:=(∃ai,f3 H a (.fl ai))\/∃ai,f3 H a (.hB ai)
def Ym(J:Inv X zn Y H s)(d:FC H a) :
  s.TypeIs (.ref a) "dict"/\(∀b,ajU a=.ref b->∃bC,s.heap.get? b=some bC/\bC.dict=none)/\(a==ak7)=false:=by
 rcases d with⟨ai,e⟩|⟨ai,e⟩
 .obtain⟨_,hd,vs,_,dd⟩:=ug J.bQ e
  refine⟨dd.typeIs,λb q=>?_,hd⟩;cases q;obtain⟨bC,_,_,af,ah,_⟩:=dd;exact⟨bC,af,ah.2.1⟩
 .obtain⟨_,hd,xs,_,dd⟩:=ui J.bQ e
  refine⟨dd.typeIs,λb q=>?_,hd⟩;cases q;obtain⟨bC,_,_,af,ah,_⟩:=dd;exact⟨bC,af,ah.2.1⟩
section
variable{X:aU}{zn:cX}{Y:St}{H:aw}{s:ajp}{a:Addr}{y d:V}{u r:Value}{o:Option V}{A:ajM}{E:cF}
def TU{Q:cF}(cx:A.units+1<cLine)(J:Inv X zn Y H s)(g:k3 H a y o)(bA:RelV y u)(bh:RelV d r)(h:∀eu aP,Inv X zn Y H aP->RelV (o.getD d) eu->Q eu aP) :
  wpAny (model X.prog X.w) A (call (.builtin "dict.get") [.ref a,u,r]) Q E s:=by
 rcases g with⟨ai,k,e,e7,l⟩|⟨ai,k,b,e,e7,c6,l⟩
 .subst e7
  obtain⟨z,hd,vs,rel,dd⟩:=ug J.bQ e;refine call_meetsIn alu dd.typeIs amB (an3 _ _ _) (meets_dict_get_default (i1 X.prog X.w) a (va bA) hd r) ⟨_,dd.mapOf,h _ _ (J.tok _) ?_⟩;rw[l];exact(rel.val k).getD bh
 .subst e7
  cases(show u=ajU b from bA);obtain⟨z,hd,xs,rel,dd⟩:=ui J.bQ e;refine call_meetsIn alu dd.typeIs amB (an3 _ _ _) (meetsH_dict_get_default (ane (i1 X.prog X.w)) a b hd r) ⟨anh cx,k,xs,yG J.bQ c6,dd,h _ _ (J.tok _) ?_⟩;rw[l];exact(rel.val k).getD bh
end
def aek(kT ty cD:TE):TE:=λY H Q=>kT Y H λx H1=>∃a,x=.ref a/\FC H1 a/\ty Y H1 λy aM=>cD Y aM λz cP=>∃o,k3 cP a y o/\Q (o.getD z) cP
section
variable{X:aU}{o e f:Expr}{apos dk:Pos}{kT ty cD:TE}
def abf(cx:X.A.units+1<cLine)(bg:bV X o kT)(he:bV X e ty)(hf:bV X f cD)(m:M2 X o "get" apos e f dk):bV X (.Call (.Attribute o "get" apos) [e,f] [] dk) (aek kT ty cD):=by
 intro zn s Y H Q J h;refine wpAny_Call_method m.base m.BN m.line an4 alu aok (bX (bg zn s Y H _ J h) λu s1 ⟨x,H1,bb,a9,a,ex,d,bq⟩=>?_);subst ex;obtain rfl:u=ajU a:=a9;obtain⟨t1,dC,_⟩:=Ym bb d;refine⟨t1,dC,?_⟩;rw[m.trees];refine alZ rfl (amU (amq (bX (he zn s1 Y H1 _ bb bq) λpJ s2 ⟨y,aM,bU,bA,b1⟩=>
  amq (bX (hf zn s2 Y aM _ bU b1) λjD s3 ⟨z,cP,dD,jM,eK,g,gB⟩=>anB ?_))))
 exact TU cx dD g bA jM λeu s4 i8 jj=>⟨_,cP,i8,jj,gB⟩
end
class a7 where
 hp:Addr->Prop
 tn:Addr->Str
def oy:gM->Prop
 |.gp _=>False|_=>True
def qx(c:Addr)(q:Str):Heap->Prop:=λh=>h.CodeRec (.ref c) q
def PR[a7](H:aw)(P:Addr):Prop:=∃ps:Array Value,H P=some (.gp ps)/\aoc ps.toList/\∀pos iB,amN pos ps.toList=some iB->∃c,iB=.ref c/\H c=some (.ext (qx c (a7.tn P)))
def TabsOk[a7](H:aw):Prop:=∀P,a7.hp P->PR H P
structure eE[a7](H H':aw):Prop where
 at':∀b o,H b=some o->(h:oy o:=by exact trivial)->H' b=some o
 cU:∀b ps,H b=some (.gp ps)->∃kM,H' b=some (.gp kM)
 bT:TabsOk H->TabsOk H'
variable[a7]
def ZZ(o:gM):oy o\/∃ps,o=.gp ps:=by cases o<;>first|exact .inl trivial|exact .inr ⟨_,rfl⟩
def eE.refl(H:aw):eE H H:=⟨λ_ _ h _=>h,λ_ ps h=>⟨ps,h⟩,id⟩
def eE.trans(a:eE H H1)(b:eE H1 aM):eE H aM:=
 ⟨λc o h n=>b.at' c o (a.at' c o h n) n,λc ps h=>let⟨p1,ao⟩:=a.cU c ps h;b.cU c p1 ao,λg=>b.bT (a.bT g)⟩
def eE.some{H H':aw}(s:eE H H')(h:H b≠none):H' b≠none:=by
 cases e:H b with
 |none=>exact absurd e h|some o=>
  rcases ZZ o with n|⟨ps,rfl⟩
  .rw[s.at' b o e n];intro z;cases z
  .obtain⟨p,q⟩:=s.cU b ps e;rw[q];intro z;cases z
def eE.free{H H':aw}(e:eE H H')(h:H' l=Option.none):H l=Option.none:=by
 cases q:H l with
 |none=>rfl| some o=>exact absurd h (e.some (by rw[q];intro z;cases z))
def eE.seq{K:aS}{H H':aw}{a:Addr}{xs:List V}(e:eE H H')(h:dn K H a xs):dn K H' a xs:=by
 rcases h with(h|⟨o,h⟩)|h
 .exact .inl (.inl (e.at' _ _ h))
 .exact .inl (.inr ⟨o,e.at' _ _ h⟩)
 .exact .inr h
def TabsOk.put{H:aw}(g:TabsOk H)(o:gM)(af:∀ps,H p≠some (.gp ps))(ah:∀q,H p≠some (.ext (qx p q))):TabsOk (upd H p o):=λP en=>by
 obtain⟨ps,e,t,c⟩:=g P en;refine⟨ps,by rw[df (by rintro rfl;exact af _ e)];exact e,t,λpos iB aI=>?_⟩;obtain⟨c',ao,az⟩:=c pos iB aI;exact⟨c',ao,by rw[df (by rintro rfl;exact ah _ az)];exact az⟩
def TabsOk.new{H:aw}(g:TabsOk H)(h:H p=none)(o:gM):TabsOk (upd H p o):=g.put o (λps=>by rw[h];intro z;cases z) (λql=>by rw[h];intro z;cases z)
def TabsOk.lst{H:aw}{p:Addr}{zs:List V}(g:TabsOk H)(h:H p=some (.lst zs))(o:gM):TabsOk (upd H p o):=g.put o (λps=>by rw[h];intro z;cases z) (λql=>by rw[h];intro z;cases z)
def rn{H:aw}(h:H p=none)(o:gM):eE H (upd H p o):=
 ⟨λb u q _=>by rw[df (j' q h)];exact q,λb ps q=>⟨ps,by rw[df (j' q h)];exact q⟩,λg=>g.new h o⟩
def oQ{H1 H:aw}{D:Addr}(kC:H1 D=none)(s:eE H1 H)(au:H D=some (.lst zs))(o:gM):eE H1 (upd H D o):=
 ⟨λb u q n=>by rw[df (j' q kC)];exact s.at' b u q n,λb ps q=>by rw[df (j' q kC)];exact s.cU b ps q,λg=>(s.bT g).lst au o⟩
end aF
namespace aF
open PySem
def nY(env:Env):List (Str×alY)->List (Str×Addr)->List (Str×Addr)
 |[],acc=>acc|(n,k)::r,acc=>if(k==ame)=true then nY env r ((n,(env.cells.lookup n).getD 0)::acc)else nY env r acc
abbrev mZ(scope:Scope)(env:Env):List (Str×Addr):=nY env scope.names []
def HT{scope:Scope}{env:Env}(h:∀y∈scope.names,y.2=.free->∃c,env.cells.lookup y.1=some c):alU scope env=pure (mZ scope env):=by
 unfold alU mZ;generalize scope.names=ns at h;generalize([]:List (Str×Addr))=acc;show(forIn ns acc _ >>= _)=_
 induction ns generalizing acc with
 |nil=>rfl|cons y r a8=>
  obtain⟨n,k⟩:=y;rw[aod];have JS:=λacc=>a8 (λy ba=>h y (ajv _ ba)) acc
  by_cases ax:(k==ame)=true
  .have od:k=.free:=by simpa using ax
   obtain⟨c,aI⟩:=h (n,k) ajy od;have ao:cellOf env n=pure c:=by unfold cellOf;rw[aI]
   simp only[ax,if_true,ao,pure_bind,nY,aI,Option.getD_some];exact JS _
  .simp only[ax,nY]
   exact JS _
theorem Bk{env:Env}:∀{ns:List (Str×alY)}{acc:List (Str×Addr)}{p:Str×Addr},p∈nY env ns acc->p∈acc\/∃k,(p.1,k)∈ns/\k=ame/\p.2=(env.cells.lookup p.1).getD 0
 |[],_,_,h=>.inl h|(n,k)::r,acc,p,h=>by
  unfold nY at h;split at h
  .rename_i ax
   rcases Bk h with h|⟨mj,a,b⟩
   .rcases aju.mp h with rfl|h
    .exact .inr ⟨k,ajy,by simpa using ax,rfl⟩
    .exact .inl h
   .exact .inr ⟨mj,ajv _ a,b⟩
  .rcases Bk h with h|⟨mj,a,b⟩
   .exact .inl h
   .exact .inr ⟨mj,ajv _ a,b⟩
theorem Bj:∀{ns:List (Str×alY)}{acc:List (Str×Addr)}{y:Str},((y,ame)∈ns\/∃c,(y,c)∈acc)->∃c,(y,c)∈nY env ns acc
 |[],_,_,h=>by
  rcases h with h|h
  .cases h
  .exact h
 |(n,k)::r,acc,y,h=>by
  unfold nY;split
  .refine Bj ?_
   rcases h with h|⟨c,h⟩
   .rcases aju.mp h with e|h
    .cases e;exact .inr ⟨_,ajy⟩
    .exact .inl h
   .exact .inr ⟨c,ajv _ h⟩
  .rename_i ax
   refine Bj ?_;rcases h with h|h
   .rcases aju.mp h with e|h
    .cases e;exact absurd rfl ax
    .exact .inl h
   .exact .inr h
theorem K7{α:Type}{y:Str}{c:α}:∀{l:List (Str×α)},(y,c)∈l->∃c',l.lookup y=some c'
 |(n,k)::r,h=>by
  by_cases e:(y==n)=true
  .exact⟨k,by rw[akb,e]⟩
  .have cz:(y==n)=false:=by simpa using e
   rcases aju.mp h with z|z
   .cases z;simp at e
   .obtain⟨c',q⟩:=K7 z
    exact⟨c',by rw[akb,cz];exact q⟩
def S2{scope:Scope}{env:Env}(h:∀y∈scope.names,y.2=.free->∃c,env.cells.lookup y.1=some c)(e:(mZ scope env).lookup y=some c):env.cells.lookup y=some c:=by
 rcases Bk (akQ e)with z|⟨k,a,b,d⟩
 .cases z
 .obtain⟨c',q⟩:=h _ a b
  have d':c=(env.cells.lookup y).getD 0:=d;have fp:env.cells.lookup y=some c':=q;rw[fp]at d' ⊢;exact congrArg some d'.symm
def HR{scope:Scope}(h:scope.names.lookup y=some .free):∃c,(mZ scope env).lookup y=some c:=by
 obtain⟨c,q⟩:=Bj (env:=env) (acc:=[]) (.inl (akQ h));exact K7 q
theorem Lq{g:Str×alY->Str×alY}{y:Str}(af:∀p,(g p).1=p.1)(ah:∀p,p.2≠.cell->(g p).2=.cell\/(g p).2=.free->p.2=.free) :
  ∀{ns:List (Str×alY)},(∀z∈ns,z.2≠anx)->((ns.map g).lookup y=some .cell\/(ns.map g).lookup y=some .free)->ns.lookup y=some .free
 | [],_,h=>by simp at h|p::r,aI,h=>by
  rw[ajw]at h;have a8:=Lq (g:=g) (y:=y) af ah (ns:=r) λz hz=>aI z (ajv _ hz)
  have Z5:=aI p ajy;have bq:=af p;have b1:=ah p Z5;generalize g p=q at h bq b1;obtain⟨zy,zx⟩:=q;obtain⟨n,k⟩:=p;have bq:zy=n:=bq;subst bq;have b1:zx=.cell\/zx=.free->k=.free:=b1;rw[akb]at h ⊢
  cases e:(y==zy)with
  |true=>
   rw[e]at h;have h':some zx=some anx\/some zx=some ame:=h;exact congrArg some (b1 (h'.imp ajT ajT))
  |false=>
   rw[e]at h;exact a8 h
def acd{scope:Scope}(aI:∀z∈scope.names,z.2≠anx)(h:(relabel scope env).names.lookup y=some .cell\/(relabel scope env).names.lookup y=some .free):scope.names.lookup y=some .free:=by
 refine Lq (λp=>?_) (λp aH q=>?_) aI h
 .obtain⟨n,k⟩:=p
  dsimp only;split<;>rfl
 .obtain⟨n,k⟩:=p
  dsimp only at q aH ⊢;split at q
  .rename_i ax
   have:=(aj5 _ _▸(aj5 _ _▸ax).1).1;simpa using this
  .exact q.elim (λz=>absurd z aH) id
end aF
namespace aF
open PySem PySem.Spec PyProof.Rows
def cw(X:aU)(scope:Scope)(N:List Str)(C:Addr)(aN:List Addr)(s:ajp)(H:aw):aU where
 prog:=X.prog
 w:=X.w
 K:=X.K
 mg:=X.mg
 base:=X.base
 A:=X.A
 N:=N
 g8:=s
 H₀:=H
 env:=compEnvC scope (mZ scope X.env) C X.env
 outer:=X.stack
 stack:=X.stack
 ex:=aN
 fn:=λ_=>false
 calm:=X.calm
 lD:=[]
 dU:=λ_ _=>False
structure k2(esc scope:Scope)(EN N:List Str)(n:Nat)(cap:List Nat):Prop where
 kind:scope.kind=.function
 cell:∀y∈scope.names,y.2≠.cell
 loc:∀y∈scope.names,y.2=.local->scope.names.lookup y.1=some .local
 free:∀y∈scope.names,y.2=.free->esc.names.lookup y.1=some .cell\/esc.names.lookup y.1=some .free
 eb:N.Nodup
 len:N.length=n+cap.length
 SP:∀j<cap.length,N[n+j]? = EN[cap.getD j 0]?/\∀x,N[n+j]? = some x->scope.names.lookup x=some .free
def hA(n:Nat)(cap:List Nat)(Y:St):St:=akk n none++cap.map λk=>(Y[k]?).join
def S'{cap:List Nat}:(hA n cap Y).length=n+cap.length:=by
 unfold hA;rw[ajz,aky,ajm]
def S_{cap:List Nat}{Y:St}{v:V}(h:(hA n cap Y)[i]? = some (some v)):∃j,i=n+j/\j<cap.length/\Y[cap.getD j 0]? = some (some v):=by
 unfold hA at h
 by_cases aA:i<n
 .rw[ajR (by simpa using aA),alj,if_pos aA]at h
  cases h
 .rw[ajL (by simpa using aA),aky,ajW]at h
  cases e:cap[i-n]? with
  |none=>rw[e]at h;cases h
  |some k=>
   rw[e]at h;have au:i-n<cap.length:=(ajs.mp e).1;refine⟨i-n,by omega,au,?_⟩;have h':(Y[k]?).join=some v:=ajT h;rw[ajY,e,Option.getD_some]
   cases q:Y[k]? with
   |none=>rw[q]at h';cases h'
   |some z=>rw[q]at h';exact congrArg some h'
section
variable{X:aU}{scope esc:Scope}{EN N:List Str}{n:Nat}{cap:List Nat}{zn:cX}{Y:St}{H:aw}{s:ajp}{aN:List Addr}
def Yl{h':Heap}{tk:Nat}{m:bt}(S:k2 esc scope EN N n cap)(he:X.env.scope=esc)(hN:X.N=EN)(J:Inv X zn Y H s)(hf:∀b∈aN,gC X zn H b)(bg:∀b∈aN,∃o,s.heap.get? b=some o)
  (yj:h'.Ns s.heap.objs.size m) (k:∀b o,s.heap.get? b=some o->h'.get? b=some o) :
  Inv (cw X scope N s.heap.objs.size aN s H) [] (hA n cap Y) H { s with heap:=h',toks:=tk }:=by
 have yf:∀y∈scope.names,y.2=.free->∃c,X.env.cells.lookup y.1=some c:=λy ba ax=>by
  refine J.ok.has y.1 ?_;show X.env.scope.names.lookup y.1=_\/X.env.scope.names.lookup y.1=_;rw[he];exact S.free y ba ax
 have up:∀{y:Str}{c:Addr},(mZ scope X.env).lookup y=some c->X.env.cells.lookup y=some c:=λ{y c} e=>S2 yf e
 have Y4:∀y,(cw X scope N s.heap.objs.size aN s H).env.kindOf y=some .cell\/(cw X scope N s.heap.objs.size aN s H).env.kindOf y=some .free->scope.names.lookup y=some .free:=λy h=>acd S.cell h
 have cellK:∀c v,s.heap.IsCell c v->h'.IsCell c v:=λc v ⟨o,e,d⟩=>⟨o,k c o e,d⟩
 refine⟨⟨J.ok.mod,S.kind,J.ok.glob,J.ok.blt,ajq _,λx y c af ah=>J.ok.inj x y c (up af) (up ah),λy ba=>HR (Y4 y ba),λ_ _ z=>absurd z ajx,J.ok.hd,J.ok.frames,.inl rfl,λb ab=>⟨?_,λx c e=>(hf b ab).2.2.2.2.1 x c (up e)⟩,J.bs,akq J.ok.lS J.lG,λb o e ab=>?_,λb ab hz=>?_,J.stack,J.Of⟩,
  rfl,J.bare,gP.kept k,⟨m,yj,λi x v ao az cI=>?_⟩,λx c e=>?_,J.bQ.fresh (ajq _),λx c e=>J.l1 x c (up e),λp aH=>absurd (show p∈([]:cX)from aH) (by simp),J.bQ.kept k,?_⟩
 .obtain⟨o,e⟩:=bg b ab
  exact ajJ (ajD e)
 .rcases(hf b ab).2.2.2.1 with z|z
  .exact J.ok.vH b o e z
  .exact absurd (aj1 (ajD e) (akq J.ok.lS z)) (aj7 _)
 .rcases aju.mp (J.EP b hz)with z|z
  .exact(hf b ab).2.1 z
  .exact(hf b ab).2.2.1 z
 .obtain⟨j,rfl,aW,e6⟩:=S_ az
  obtain⟨bS,ae⟩:=S.SP j aW;have ao:N[n+j]? = some x:=ao;have Cp:=ae x ao;rw[ao,<-hN]at bS;obtain⟨c,aI⟩:=HR (env:=X.env) Cp;obtain⟨m0,aiK,au⟩:=J.loc;have je:X.env.scope.names.lookup x=some .cell\/X.env.scope.names.lookup x=some .free:=by
   rw[he];exact S.free (x,.free) (akQ Cp) rfl
  obtain⟨u,r,l⟩:=au _ x v bS.symm e6 (je.elim (λz=>.inr (.inl z)) λz=>.inr (.inr z));refine⟨u,r,.inr ⟨?_,c,aI,?_⟩⟩
  .rcases cI with z|z|z
   .exfalso
    have k0:(relabel scope X.env).names.lookup x=some .local:=z;have hz:∀ns:List (Str×alY),ns.lookup x=some .free->(ns.map λ(n,k)=>if(k==ame&&X.env.scope.kind==.function&&X.env.kindOf n==some .cell)then(n,anx)else(n,k)).lookup x≠some .local:=by
     intro ns
     induction ns with
     |nil=>intro h;simp at h|cons p r a8=>
      obtain⟨lD,tl⟩:=p;intro h;rw[ajw];rw[akb]at h
      cases q:(x==lD)with
      |true=>
       rw[q]at h;have h':tl=.free:=ajT h;subst h';dsimp only;split
       .rw[akb,q];intro w;cases w
       .rw[akb,q];intro w;cases w
      |false=>
       rw[q]at h;dsimp only;split
       .rw[akb,q];exact a8 h
       .rw[akb,q];exact a8 h
    exact hz _ Cp k0
   .exact .inl z
   .exact .inr z
  .rcases l with⟨q,_⟩|⟨_,c',lg,z⟩
   .exfalso
    have fp:X.env.scope.names.lookup x=some .local:=q;rcases je with w|w<;>rw[w]at fp<;>cases fp
   .rw[up aI]at lg
    cases lg;exact cellK c _ z
 .obtain⟨v,z⟩:=J.cell x c (up e)
  exact⟨v,cellK c v z⟩
 .show(hA n cap Y).length=N.length
  rw[S',S.len]
def Yk{N:List Str}(J:Inv X zn Y H s)(hf:∀b∈aN,gC X zn H b)(cm:Inv (cw X scope N C aN s H) ai5 Y' H' aP):Inv X zn Y H' aP:=
 J.Sz cm.os cm.base cm.bQ cm.bare λb ab=>⟨(hf b ab).2.2.2.1,(hf b ab).2.1,(hf b ab).2.2.2.2.1,(hf b ab).2.2.2.2.2⟩
end
section
variable{X:aU}
def rS(X:aU)(ifs:List Expr)(t:TT):Prop:=
 ∀(zn:cX)(s:ajp)(Y:St)(H:aw)(Q:Bool->aw->Prop),Inv X zn Y H s->t Y H Q->
  wpAny (model X.prog X.w) X.A (forIn ifs true λc r=>if r=true then do let ok <-isTrue c X.env (eval c X.env);pure (amV ok)else pure (amV r)) (AA X zn Y Q) X.dU s
def aeC:TT:=λ_ H Q=>Q true H
def abw:rS X [] aeC:=λ_ _ _ H _ J h=>wpAny_tests_nil ⟨H,J,h⟩
def abx{t:TT}(h:iM X c t):rS X [c] t:=λzn s Y H Q J a'=>wpAny_tests_one (h zn s Y H Q J a')
end
section
variable{prog:ajF}{w:World}{A:ajM}{R:Result->ajp->Prop}{s:ajp}
def S5{elt target iter:Expr}{ifs:List Expr}{scope:Scope}{pos:Pos}{it acc:Value}{env:Env}(J:Nat->ajp->Prop)
  (turn:∀n s,J n s->wpAny (model prog w) A (alS it) (λr du=>match r with
   |none=>R (.ok .next) du| some v=>wpAny (model prog w) A (amS target it v) (λ_ Ol=>wpAny (model prog w) A (alR target env v) (λ_ mC=>
     wpAny (model prog w) A (forIn ifs true λc r=>if r=true then do let ok <-isTrue c env (eval c env);pure (amV ok)else pure (amV r)) (λok kS=>
      if ok=true then wpAny (model prog w) A (eval elt env) (λx zN=>
       wpAny (model prog w) A (call (.builtin "list.append") [acc,x]) (λ_ Om=>∃m,m<n/\J m Om) (λ_ _=>False) zN) (λ_ _=>False) kS
      else ∃m,m<n/\J m kS) (λ_ _=>False) mC) (λ_ _=>False) Ol) (λ_ _=>False) du) (λ_ _=>False) s)
  (n:Nat) (h:J n s) :
  al4 (model prog w) A (.compLoop (.ListComp elt [⟨target,iter,ifs,0⟩] scope pos) 0 it acc env) R s:=by
 refine codeAny_loop rfl J (λn s m8=>?_) n h;show wpAny _ A ((compTurn (.ListComp elt [⟨target,iter,ifs,0⟩] scope pos) 0 it acc env).onRaise (λx=>do noteFrame x env;theTreesLotGoes x)) _ _ s;refine wpAny_noted ?_;rw[compTurn_list];refine ajl (anz (ajl (aj6 (turn n s m8) (λr du kG=>?_) λ_ _ h'=>h'.elim)))
 cases r with
 |none=>exact ajr kG|some v=>
  refine ajl (aj6 kG (λ_ Ol X8=>?_) λ_ _ h'=>h'.elim);refine ajl (aj6 X8 (λ_ mC mh=>ajl (aj6 mh (λok kS og=>?_) λ_ _ h'=>h'.elim)) λ_ _ h'=>h'.elim)
  cases ok with
  |false=>exact ajr ⟨rfl,og⟩|true=>
   exact ajl (ajl (aj6 og (λx zN u5=>ajl (aj6 u5 (λ_ Om iD=>ajr (ajr ⟨rfl,iD⟩)) λ_ _ h'=>h'.elim)) λ_ _ h'=>h'.elim))
end
def mP(Y dQ:St):Prop:=Y.length=dQ.length/\∀(i:Nat) v,Y[i]? = some (some v)->dQ[i]? = some (some v)
def mP.refl(Y:St):mP Y Y:=⟨rfl,λ_ _ h=>h⟩
def mP.set{Y dQ:St}(h:mP Y dQ)(aG:Y[i]? = some none):mP Y (dQ.set i (some x)):=by
 refine⟨by rw[akj];exact h.1,λj v e=>?_⟩
 by_cases aW:i=j
 .subst aW;rw[aG]at e;cases e
 .rw[ajE aW];exact h.2 j v e
def Bo(cm:iy)(Y':St)(g:i')(tt:TT)(te:TE)(D:Addr)(H1:aw)(Q:c9):Prop:=
  ∃W:Nat->Nat->List V->aw->Prop,(∃m,W 0 m [] (upd H1 D (.lst [])))/\∀i m ys H,W i m ys H->
   ((cm.stop i H/\Q (.ref D) H)\/(cm.go i H/\∀x H',cm.oU i H x H'->g x Y' H' λdQ aM=>mP Y' dQ/\tt dQ aM λb cP=>
       if b=true then te dQ cP λy hK=>hK D=some (.lst ys)/\ys.length<ajt/\∃eI,eI<m/\W (i+1) eI (ys++[y]) (upd hK D (.lst (ys++[y])))else ∃eI,eI<m/\W (i+1) eI ys cP))
def tw(n:Nat)(cap:List Nat)(wi:TI)(g:i')(tt:TT)(te:TE):TE:=λY H Q=>wi Y H λcm H1=>∀D,H1 D=none->Bo cm (hA n cap Y) g tt te D H1 Q
section
variable{X:aU}{scope esc:Scope}{EN N:List Str}{n:Nat}{cap:List Nat}{zn:cX}{Y:St}{s:ajp}{elt ck iter:Expr}{ifs:List Expr}{pos:Pos}{g:i'}{tt:TT}{te:TE}
def HZ{E:cF}{H:aw}{cm:iy}{aN:List Addr}{it:Addr}{ft:Nat->Heap->Prop}{Q:c9}{w6:Value->Addr->Result->ajp->Prop}(S:k2 esc scope EN N n cap)(he:X.env.scope=esc)(hN:X.N=EN)(aI:X.calm=true)
  (aY:∀C aN s H,o7 (cw X scope N C aN s H) ck g) (bO:∀C aN s H,rS (cw X scope N C aN s H) ifs tt) (ih:∀C aN s H,bV (cw X scope N C aN s H) elt te)
  (J:Inv X zn Y H s) (T:Turn X.prog X.w X.K ck cm aN it ft) (st:ft 0 s.heap) (hf:∀b∈aN,gC X zn H b) (a':∀D,H D=none->Bo cm (hA n cap Y) g tt te D H Q)
  (VX:∀D C H' aP m,Inv X zn Y H' aP->gC X zn H' C->aP.heap.Ns C m->Q (.ref D) H'->w6 (.ref D) C (.ok .next) aP) :
  wpAny (model X.prog X.w) X.A (newList []) (λacc kS=>wpAny (model X.prog X.w) X.A (newFunctionEnv scope X.env.globals (mZ scope X.env) [] X.env.qual none .none (some X.env)) (λHP zN=>
   al4 (model X.prog X.w) X.A (.compStart (.ListComp elt [⟨ck,iter,ifs,0⟩] scope pos) 0 (.ref it) acc { HP with scope:=relabel scope X.env }) (w6 acc HP.locals) zN) E kS) E s:=by
 refine alh (wpAny_newFunctionEnv S.cell (by intro y ba;simp at ba) (λkG Ct CB=>?_) S.kind);have dD:=J.K6 (t':=s.toks) (ys:=[]) (its:=[]) .nil (ajN _);have kC:H s.heap.objs.size=none:=J.fresh;obtain⟨W,⟨m0,rB⟩,turn⟩:=a' _ kC;generalize CA:({ s with heap:=s.heap.push { cls:=.type "list",data:=.seq ([]:List Value).toArray },toks:=s.toks }:ajp)=s3 at dD;have yB:∀b o,s.heap.get? b=some o->s3.heap.get? b=some o:=λb o e=>by rw[<-CA];exact ajn _ e
 have aiM:({ s with heap:=s.heap.push { cls:=.type "list",data:=.seq ([]:List Value).toArray } }:ajp)=s3:=CA;have dE:s.heap.push { cls:=.type "list",data:=.seq ([]:List Value).toArray }=s3.heap:=by rw[<-CA]
 dsimp only at Ct CB ⊢
 try rw[dE]at Ct
 try rw[dE]at CB
 have Cn:∀b∈aN,gC X zn (upd H s.heap.objs.size (.lst [])) b:=λb ab=>by
  refine⟨?_,(hf b ab).2⟩;obtain⟨o,e,_⟩:=T.obj _ _ st b ab;rw[df (ajJ (ajD e))];exact(hf b ab).1
 have J8:∀b o,s3.heap.get? b=some o->kG.get? b=some o:=λb o e=>CB.extBut b o (ajJ (ajD e)) (ajn _ e)
 have bC:∀b∈aN,∃o,s3.heap.get? b=some o:=λb ab=>by
  obtain⟨o,e,_⟩:=T.obj _ _ st b ab;exact⟨o,yB b o e⟩
 have i8:=Yl (tk:=s3.toks) S he hN dD Cn bC Ct J8;have ts:ft 0 kG:=T.keep _ _ _ st λb _ o e=>J8 b o (yB b o e)
 have VR:s3.heap.objs.size<=s3.heap.objs.size:=ajq _;have loop:∀kS:ajp,kS.heap=kG->Inv (cw X scope N s3.heap.objs.size aN s3 (upd H s.heap.objs.size (.lst []))) [] (hA n cap Y) (upd H s.heap.objs.size (.lst [])) kS->
   al4 (model X.prog X.w) X.A (.compLoop (.ListComp elt [⟨ck,iter,ifs,0⟩] scope pos) 0 (.ref it) (.ref s.heap.objs.size) (compEnvC scope (mZ scope X.env) s3.heap.objs.size X.env)) (w6 (.ref s.heap.objs.size) s3.heap.objs.size) kS:=by
  intro kS U9 wZ;have rp:∀{H':aw},(∀b∈aN,H' b=none)->∀b∈aN,gC (cw X scope N s3.heap.objs.size aN s3 (upd H s.heap.objs.size (.lst []))) [] H' b:=λ{H'} aG b ab=>
   ⟨aG b ab,(wZ.ok.xQ b ab).1,wZ.ok.ur b ab,.inl ab,(wZ.ok.xQ b ab).2,λp aH=>absurd (show p∈([]:cX)from aH) (by simp)⟩
  refine S5 (λk aP=>∃i ys H',Inv (cw X scope N s3.heap.objs.size aN s3 (upd H s.heap.objs.size (.lst []))) [] (hA n cap Y) H' aP/\ft i aP.heap/\(∀b∈aN,H' b=none)/\W i k ys H') ?_ m0
   ⟨0,[],_,wZ,by rw[U9];exact ts,λb ab=>(Cn b ab).1,rB⟩
  rintro k s5 ⟨i,ys,k6,rN,p7,xY,afc⟩;rcases turn i k ys k6 afc with⟨stop,q⟩|⟨go,step⟩
  .refine bX (T.done (cw X scope N s3.heap.objs.size aN s3 (upd H s.heap.objs.size (.lst []))) rfl rfl rfl aI i [] s5 _ k6 _ rN (rp xY) p7 stop) λr s6 ⟨aB,tR⟩=>?_
   subst aB;obtain⟨m,aG,_⟩:=tR.loc;exact VX _ _ k6 s6 m (Yk dD Cn tR) (dD.pw VR tR.free) aG q
  .refine bX (T.item (cw X scope N s3.heap.objs.size aN s3 (upd H s.heap.objs.size (.lst []))) rfl rfl rfl aI i [] s5 _ k6 (λ_ _=>False) rN (rp xY) p7 go) λr s6 ⟨u,aB,gz⟩=>?_
   subst aB;refine bX gz λ_ s7 ⟨x,jV,kl,Ep,ago,EM,Vm⟩=>?_
   have PG:=kl.pinned (rp Vm) (T.obj _ _ EM);refine bX (aY _ _ _ _ _ s7 _ jV x u _ PG Ep (step x jV ago)) λ_ s8 ⟨Ak,PA,PH,xT,abW⟩=>?_
   refine bX (bO _ _ _ _ _ s8 Ak PA _ PH abW) λb es ⟨Fy,FA,Mu⟩=>?_
   have back:∀{H':aw}{aP:ajp},Inv (cw X scope N s3.heap.objs.size aN s3 (upd H s.heap.objs.size (.lst []))) ([]++ri aN s7.heap) Ak H' aP->
     Inv (cw X scope N s3.heap.objs.size aN s3 (upd H s.heap.objs.size (.lst []))) [] (hA n cap Y) H' aP/\ft (i+1) aP.heap/\∀b∈aN,H' b=none:=λ{H' aP} h7=>by
    refine⟨h7.wy.weak xT.1 xT.2,T.keep _ _ _ EM λb ab o e=>(h7.pin (b,o) (akf _ (akf _ (y9 ab e)))).1,λb ab=>?_⟩;obtain⟨o,e,d⟩:=T.obj _ _ EM b ab;exact(h7.pin (b,o) (akf _ (akf _ (y9 ab e)))).2.1
   cases b with
   |false=>
    obtain⟨eI,hm,eu⟩:=Mu;obtain⟨bW,bY,gR⟩:=back FA;exact⟨eI,hm,i+1,ys,Fy,bW,bY,gR,eu⟩
   |true=>
    refine bX (ih _ _ _ _ _ es Ak Fy _ FA Mu) λv ez ⟨y,Fx,PD,ab5,VT,hz,eI,hm,eu⟩=>?_
    refine bX (vz _ ez Ak Fx (.ref s.heap.objs.size) [y] (.ref s.heap.objs.size) [v] (λz H'=>z=.aQ/\H'=upd Fx s.heap.objs.size (.lst (ys++[y]))) PD rfl (.cons ab5 .nil) ⟨_,ys,y,rfl,rfl,VT,hz,rfl,rfl⟩) λz my ⟨ajj,ahq,PE,_,_,r8⟩=>?_
    subst r8;obtain⟨bW,bY,gR⟩:=back PE;exact⟨eI,hm,i+1,ys++[y],_,bW,bY,gR,eu⟩
 have Fz:Inv (cw X scope N s3.heap.objs.size aN s3 (upd H s.heap.objs.size (.lst []))) [] (hA n cap Y) (upd H s.heap.objs.size (.lst [])) { heap:=kG,gens:=s3.gens,drawn:=s3.drawn,toks:=s3.toks+([]:List (Str×Value)).length,os:=s3.os }:=i8;exact codeAny_compStart_list (loop _ rfl Fz) (T.self _ 0 _ _ _ ts (loop _ rfl Fz))
theorem D7(S:k2 esc scope EN N n cap){wi:TI}(aA:ko X ck iter wi)(aY:∀C aN s H,o7 (cw X scope N C aN s H) ck g)(bO:∀C aN s H,rS (cw X scope N C aN s H) ifs tt)(ih:∀C aN s H,bV (cw X scope N C aN s H) elt te)
  (he:X.env.scope=esc:=by rfl) (hN:X.N=EN:=by rfl) (aI:X.calm=true:=by rfl) (aC:∀x,akc iter X.env x=pure x:=by intro _;rfl):bV X (.ListComp elt [⟨ck,iter,ifs,0⟩] scope pos) (tw n cap wi g tt te):=by
 intro zn s Y H Q J h;rw[eval_ListComp];have Cf:alU scope X.env=pure (mZ scope X.env):=HT λy ba ax=>J.ok.has y.1 (by
  show X.env.scope.names.lookup y.1=_\/X.env.scope.names.lookup y.1=_;rw[he];exact S.free y ba ax)
 refine wpAny_comprehension_free (use:=none) rfl aC Cf S.kind S.loc (bX (aA zn s Y H _ J h) λv s1 af=>bX af λyz s2 ah=>?_);obtain⟨it,aN,ft,cm,aM,e,bU,T,cK,f2,a'⟩:=ah;subst e;refine HZ S he hN aI aY bO ih bU T cK f2 a' λD C H' aP m h7 ky aG q=>?_
 exact⟨m,aG,λh' u0=>⟨.ref D,H',h7.turned (t':=aP.toks) (λb o ab e=>u0.extBut b o ab e) ky.1 ky.2.1 ky.2.2.2.1 ky.2.2.2.2.1 ky.2.2.2.2.2,rfl,q⟩⟩
theorem abK{i:Nat}{y:Str}{py mA:Pos}(S:k2 esc scope EN N n cap){wi:TI}(qH:X.N.Nodup)(lu:X.N[i]? = some y)(ba:X.env.scope.names.lookup y=some .local)(aA:ko X ck iter wi)(aY:∀C aN s H,o7 (cw X scope N C aN s H) ck g)(bO:∀C aN s H,rS (cw X scope N C aN s H) ifs tt)(ih:∀C aN s H,bV (cw X scope N C aN s H) elt te)
  (he:X.env.scope=esc:=by rfl) (hN:X.N=EN:=by rfl) (aI:X.calm=true:=by rfl) (aC:∀x,akc iter X.env x=pure x:=by intro _;rfl)
  (ma:akP (.ListComp elt [⟨ck,iter,ifs,0⟩] scope pos) (some (.Name y py)) mA.line X.env=pure true:=by rfl) :
  iK X (.Assign [.Name y py] (.ListComp elt [⟨ck,iter,ifs,0⟩] scope pos) mA) (tv (tw n cap wi g tt te) (lj i)):=by
 intro zn s Y H D J h;have Cf:alU scope X.env=pure (mZ scope X.env):=HT λy ba ax=>J.ok.has y.1 (by
  show X.env.scope.names.lookup y.1=_\/X.env.scope.names.lookup y.1=_;rw[he];exact S.free y ba ax)
 rw[exec_Assign_Name_used _ _ _ _ ma];refine ajl (anz (ajl ?_));show wpAny _ X.A (do let _ <-comprehension (.ListComp elt [⟨ck,iter,ifs,0⟩] scope pos) scope X.env _ (newList []) false (eval iter X.env) (some (alR (.Name y py) X.env))) _ _ s;refine ajl (aj6 (wpAny_comprehension_free (use:=some (alR (.Name y py) X.env)) (Q:=λ_ aP=>rV X zn D .next aP) rfl aC Cf S.kind S.loc
  (bX (aA zn s Y H _ J h) λv s1 af=>bX af λyz s2 ah=>?_)) (λ_ aP a'=>ajr (ajr a')) λ_ _ e=>e)
 obtain⟨it,aN,ft,cm,aM,e,bU,T,cK,f2,a'⟩:=ah;subst e;refine HZ S he hN aI aY bO ih bU T cK f2 a' λFu C H' aP m h7 ky aG q=>?_
 show wpAny _ X.A (alR (.Name y py) X.env (.ref Fu)) _ _ _;refine wpAny_assign_Name (Oh (v:=.ref Fu) h7 qH lu (.inl ba) rfl (λv' PC ch=>?_) (.inr ba));obtain⟨a,XY,aq⟩:=ch;have VS:C≠a:=by
  rcases aq with z|z
  .rw[z];exact ky.2.1
  .exact λw=>ky.2.2.2.2.1 y a z w.symm
 refine⟨m,aG.sameBut XY VS,λh' u0=>?_⟩;exact⟨_,H',PC.turned (t':=v'.toks) (λb o ab e=>u0.extBut b o ab e) ky.1 ky.2.1 ky.2.2.2.1 ky.2.2.2.2.1 ky.2.2.2.2.2,q⟩
end
def dq(p:V->V->aw->c9->Prop):ek:=λvs H Q _=>∃a b,vs=[a,b]/\p a b H Q
structure b2(P:ajF)(w:World)(K:aS)(mg:bt)(base:Heap)(x:Str)(ps:List Str)(k:Nat)(sp:ek):Prop where
 ex:∃f fd,fg P w K mg base eM k f fd ps sp/\Binds K fd ps []/\alm K (.ref f)=true/\mg x=some (.ref f)
structure cp(K:aS)(mg:bt)(x:Str)(st:Stmt)(ps:List Str):Prop where
 ex:∃f fd,k5 K x x st f fd/\Binds K fd ps []/\mg x=some (.ref f)
section
variable{P:ajF}{w:World}{K:aS}{mg:bt}{base:Heap}{x:Str}{ps:List Str}{k:Nat}{sp:ek}
def b2.mono(h:b2 P w K mg base x ps k sp)(aW:k<=j):b2 P w K mg base x ps j sp:=by
 obtain⟨f,fd,a,b⟩:=h.ex;exact⟨f,fd,a.mono aW,b⟩
end
section
variable{X:aU}{x:Str}{ps:List Str}{k:Nat}{sp:ek}{p pos:Pos}{e:Expr}{ay:List Expr}{t:gv}
def zS(sp:ek)(t:gv):TE:=λY H Q=>t Y H λvs H1=>sp vs H1 Q i7
def D8(h:b2 X.prog X.w X.K X.mg X.base x ps k sp)(aB:cE k X.A)(aY:eC X x)(aq:eN X (e::ay) t)(eH:(x==("__debug__":Str))=false:=by decide)
  (he:ajo (e::ay) X.env=(false,eval e X.env)::ajo ay X.env:=by rfl) (e1:(ajS pos (ajo ay X.env)).any (·.1)=false:=by rfl):bV X (.Call (.Name x p) (e::ay) [] pos) (zS sp t):=by
 obtain⟨f,fd,F,b,kp,m⟩:=h.ex;intro zn s Y H Q J a';refine aa8 (dvs:=[]) (ds:=[]) F aB aY m kp b .nil tj aq eH he e1 zn s Y H Q J ?_;have nc:t Y H λvs H1=>sp vs H1 Q i7:=a'
 show t Y H λvs H1=>sp (vs++[]) H1 Q i7
 simpa only[akv]using nc
def abj(h:b2 X.prog X.w X.K X.mg X.base x ps k sp)(aB:cE k X.A)(aY:eC X x)(eH:(x==("__debug__":Str))=false:=by decide):bV X (.Call (.Name x p) [] [] pos) (zS sp wm):=by
 obtain⟨f,fd,F,b,kp,m⟩:=h.ex;intro zn s Y H Q J a';exact aa9 (dvs:=[]) (ds:=[]) F aB aY m kp b .nil tj eH zn s Y H Q J a'
end
structure tS(K:aS):Prop where
 ans:∀t∈["NoneType","bool","int","str","list","tuple"],∀c∈["int","bool","tuple","list","str"],W.kitOne K (.type t) (.type c)=some (t==c||(t == "bool"&&c == "int"))
inductive lQ(K:aS)(H:aw):V->String->Prop where
 |aQ:lQ K H .aQ "NoneType"
 |aE (x:Bool):lQ K H (.aE x) "bool"
 |int (i:Int):lQ K H (.int i) "int"
 |str (x:Str):lQ K H (.str x) "str"
 |lst {a:Addr}{xs:List V}(e:dn K H a xs):lQ K H (.ref a) "list"
 |tup {a:Addr}{xs:List V}(e:dI K H a xs):lQ K H (.ref a) "tuple"
abbrev ae4:List String:=["NoneType","bool","int","str","list","tuple"]
def lQ.mem{K:aS}{H:aw}{x:V}{t:String}(h:lQ K H x t):t∈ae4:=by
 cases h<;>decide
section
variable{X:aU}
def iW(t n:String):Bool:=t==n||(t == "bool"&&n == "int")
def MA(K:aS):List V->aw->c9->Prop:=λxs H Q=>∃x n t,xs=[x,.ty n]/\lQ K H x t/\n∈["int","bool","tuple","list","str"]/\Q (.aE (iW t n)) H
def SF(kt:tS X.K):js X (.builtin "isinstance") (MA X.K):=by
 intro zn s Y H xs us Q J bR h;obtain⟨x,n,t,rfl,ty,aG,q⟩:=h;obtain⟨u,eu,rfl,bB,b_⟩:=vals2 bR;cases(show eu=amv n from b_);have e:=kt.ans t ty.mem n aG;have fin:∀tk,ht X zn Y Q (.bool (iW t n)) { s with toks:=tk }:=λtk=>⟨.aE _,H,J.tok tk,rfl,q⟩
 cases ty with
 |aQ=>cases(show u=akB from bB);exact ani W.kitx_none J.fe akK e (λz=>nomatch z) fin
 |aE y=>cases(show u=al9 y from bB);exact ani W.kitx_bool J.fe akK e (λz=>nomatch z) fin
 |int i=>obtain⟨t,q⟩:=(show ∃t,u=amL i t from bB);cases q;exact ani W.kitx_int J.fe akK e (λz=>nomatch z) fin
 |str y=>obtain⟨t,q⟩:=(show ∃t,u=anc y t from bB);cases q;exact ani W.kitx_str J.fe akK e (λz=>nomatch z) fin
 |@lst a xs gy=>
  cases(show u=ajU a from bB);obtain⟨its,_,⟨o,gk,af,ah,_⟩,_⟩:=J.list gy;exact ani W.kitx_list J.fe ⟨o,af,ah⟩ e (λz=>nomatch z) fin
 |@tup a xs gy=>
  cases(show u=ajU a from bB);obtain⟨its,_,⟨o,af,ah,_⟩,_⟩:=J.tuple gy;exact ani W.kitx_tuple J.fe ⟨o,af,ah⟩ e (λz=>nomatch z) fin
def ZV:Av X "int.bit_length" (λx xs H Q=>∃i,x=.int i/\xs=[]/\Q (.int (akC i:Nat)) H):=by
 intro zn s Y H x xs v us Q J a9 bR h;obtain⟨i,rfl,rfl,q⟩:=h;obtain⟨t,rfl⟩:=a9;cases bR;exact call_int_bit_length ⟨.int _,H,J.tok _,⟨_,rfl⟩,q⟩
end
mutual
def Rep(K:aS)(H:aw):PyData->V->Prop
 |.none,v=>v=.aQ|.bool b,v=>v=.aE b|.int i,v=>v=.int i|.str x,v=>v=.str x|.list ds,v=>∃a xs,v=.ref a/\dn K H a xs/\bj K H ds xs|.tuple ds,v=>∃a xs,v=.ref a/\dI K H a xs/\bj K H ds xs|.dict _,_=>False
def bj(K:aS)(H:aw):List PyData->List V->Prop
 |[],xs=>xs=[]|d::ds,xs=>∃x r,xs=x::r/\Rep K H d x/\bj K H ds r
end
def eE.wc[a7]{K:aS}{H H':aw}{a:Addr}{xs:List V}(e:eE H H')(h:dI K H a xs):dI K H' a xs:=by
 rcases h with(h|⟨o,h⟩)|h
 .exact .inl (.inl (e.at' _ _ h))
 .exact .inl (.inr ⟨o,e.at' _ _ h⟩)
 .exact .inr h
section
variable{X:aU}{zn:cX}{Y:St}{H:aw}{s:ajp}
mutual
theorem Rep.reads(J:Inv X zn Y H s):∀{d:PyData}{v:V}{u:Value},Rep X.K H d v->RelV v u->∃as,Reads s.heap u d as
 |.none,_,_,h,r=>by cases h;cases r;exact⟨_,.none⟩
 |.bool _,_,_,h,r=>by cases h;cases r;exact⟨_,.bool _⟩
 |.int _,_,_,h,r=>by cases h;obtain⟨t,rfl⟩:=r;exact⟨_,.int _ _⟩
 |.str _,_,_,h,r=>by cases h;obtain⟨t,rfl⟩:=r;exact⟨_,.str _ _⟩
 |.list _,_,_,h,r=>by
  obtain⟨a,xs,rfl,l,q⟩:=h;cases r;obtain⟨its,bR,⟨o,n,e,c,_,d⟩,_⟩:=J.list l;obtain⟨as,z⟩:=bj.reads J q bR;exact⟨_,.list e c d (by simpa using z)⟩
 |.tuple _,_,_,h,r=>by
  obtain⟨a,xs,rfl,l,q⟩:=h;cases r;obtain⟨its,bR,⟨o,e,c,n,d⟩,_⟩:=J.tuple l;obtain⟨as,z⟩:=bj.reads J q bR;exact⟨_,.tuple e c d (by simpa using z)⟩
 |.dict _,_,_,h,_=>h.elim
theorem bj.reads(J:Inv X zn Y H s):∀{ds:List PyData}{xs:List V}{us:List Value},bj X.K H ds xs->Vals xs us->∃as,ReadsAll s.heap us ds as
 |[],_,_,h,r=>by cases h;cases r;exact⟨_,.nil⟩
 |_::_,_,_,h,r=>by
  obtain⟨x,t,rfl,a,b⟩:=h
  cases r with
  |cons bB b_=>
   obtain⟨as,ff⟩:=Rep.reads J a bB;obtain⟨bs,ew⟩:=bj.reads J b b_;exact⟨_,.cons ff ew⟩
end
end
section
variable{X:aU}
def zD(K:aS)(neg:Bool):fG:=λx y H Q=>∃d e,Rep K H d x/\Rep K H e y/\aoz d=true/\aoz e=true/\Q (.aE (if neg then !aon d e else aon d e)) H
def D1(cx:X.A.units+64<cLine):ej X (aj9 .Eq) (zD X.K false):=by
 intro zn s Y H x y v u Q J a9 bA h;obtain⟨d,e,a,b,oI,kR,q⟩:=h;obtain⟨as,bw⟩:=a.reads J a9;obtain⟨bs,mw⟩:=b.reads J bA;exact eq_dataH bw mw oI kR cx ⟨.aE _,H,J,rfl,q⟩
def zm(cx:X.A.units+64<cLine):ej X (aj9 .NotEq) (zD X.K true):=by
 intro zn s Y H x y v u Q J a9 bA h;obtain⟨d,e,a,b,oI,kR,q⟩:=h;obtain⟨as,bw⟩:=a.reads J a9;obtain⟨bs,mw⟩:=b.reads J bA;exact ne_dataH bw mw oI kR cx ⟨.aE _,H,J,rfl,q⟩
end
def HF:ake "len"=some (.builtin "len"):=by decide +kernel
def HE:ake "isinstance"=some (.builtin "isinstance"):=by decide +kernel
def HG:ake "max"=some (.builtin "max"):=by decide +kernel
def Sp:ake "all"=some (.builtin "all"):=by decide +kernel
def Sr:ake "int"=some (.type "int"):=by decide +kernel
def Sq:ake "bool"=some (.type "bool"):=by decide +kernel
def Ss:ake "list"=some (.type "list"):=by decide +kernel
def xq:ake "tuple"=some (.type "tuple"):=by decide +kernel
def Sv:ake "str"=some (.type "str"):=by decide +kernel
variable[a7]
def wX(cm:iy)(H1:aw)(xs:List V):Prop:=∀H,eE H1 H->∀i,(i<xs.length->cm.go i H/\∀x H',cm.oU i H x H'->H'=H/\xs[i]? = some x)/\(xs.length<=i->cm.stop i H)
def CM{K:aS}{H:aw}{a:Addr}{xs:List V}(h:dn K H a xs):wX (lM K a) H xs:=λH' s i=>
 ⟨λaA=>⟨⟨xs,xs[i],s.seq h,by simp[aA]⟩,λx Fw y=>⟨y.1,y.2 xs (s.seq h)⟩⟩,λaA=>⟨xs,s.seq h,aA⟩⟩
def J3{K:aS}{H:aw}{a:Addr}{xs:List V}(h:dI K H a xs):wX (rP K a) H xs:=λH' s i=>
 ⟨λaA=>⟨⟨xs,xs[i],s.wc h,by simp[aA]⟩,λx Fw y=>⟨y.1,y.2 xs (s.wc h)⟩⟩,λaA=>⟨xs,s.wc h,aA⟩⟩
def nF(lo:Int)(n:Nat):List V:=(ajI n).map λi=>V.int (lo+(i:Nat))
def CO(lo:Int)(n:Nat):wX (o4 lo n) H (nF lo n):=λH' s i=>by
 have au:(nF lo n).length=n:=by unfold nF;rw[ajm,akY]
 refine⟨λaA=>⟨by rw[au]at aA;exact aA,λx Fw y=>⟨y.1,?_⟩⟩,λaA=>by rw[au]at aA;exact aA⟩;rw[au]at aA;rw[y.2];unfold nF;rw[ajW,List.getElem?_range aA];rfl
end aF
namespace aF
open PySem PySem.Spec PyProof.Rows
def cp.none{P:ajF}{w:World}{K:aS}{mg:bt}{base:Heap}{x:Str}{st:Stmt}{ps:List Str}{k:Nat}{sp:ek}(D:cp K mg x st ps)(no:∀vs H Q E,¬sp vs H Q E):b2 P w K mg base x ps k sp:=by
 obtain⟨f,fd,F,b,m⟩:=D.ex;exact⟨f,fd,⟨λvs H Q E h=>absurd h (no vs H Q E),λA outer s H args us vs Q E _ _ _ _ h=>absurd h (no vs H Q E)⟩,b,F.kp,m⟩
def Y5(K:aS):tS K:=⟨by
 intro t bO c aI;simp only[aju,List.mem_nil_iff,or_false]at bO aI;rcases bO with rfl|rfl|rfl|rfl|rfl|rfl<;>rcases aI with rfl|rfl|rfl|rfl|rfl<;>kernel_rfl⟩
def range_all(bs:List Bool):(ajI bs.length).all (λi=>bs.getD i false)=bs.all id:=by
 rw[akR,akL,akL];constructor
 .intro h b ab
  obtain⟨i,aA,rfl⟩:=List.getElem_of_mem ab;have:=h i (akt.mpr aA);rw[ajY,aj8 aA]at this;exact this
 .intro h i aA
  have lu:=akt.mp aA;rw[ajY,aj8 lu];exact h _ (List.getElem_mem lu)
section
variable{X:aU}{K:aS}
def aeS{bs:List Bool}{its:List Value}(bR:Vals (bs.map V.aE) its):TruthOf prog w A (λi v=>its.toArray[i]? = some v) (λi=>bs.getD i false):=by
 intro i v s Q E bI a';have mb:its[i]? = some v:=by simpa using bI
 have aA:i<bs.length:=by
  have af:=(ajs.mp mb).1;have ah:=bR.length;rw[ajm]at ah;omega
 obtain⟨u,cx,d9⟩:=bR.get (i:=i) (x:=.aE bs[i]) (by rw[ajW,aj8 aA];rfl);rw[mb]at cx;cases cx;cases d9;have nc:Q (bs.getD i false) s:=a';rw[ajY,aj8 aA]at nc;exact akE nc
def SE(aI:X.calm=true):js X (.builtin "all") (λxs H Q=>∃(l:Addr)(bs:List Bool),xs=[.ref l]/\dn X.K H l (bs.map V.aE)/\Q (.aE (bs.all id)) H):=by
 intro zn s Y H xs us Q J bR h;obtain⟨l,bs,rfl,cu,q⟩:=h;obtain⟨u,rfl,bB⟩:=vals1 bR;cases bB;obtain⟨its,p5,p,hz⟩:=J.list cu;have fx:l<s.heap.objs.size:=by obtain⟨o,n,e,_⟩:=p;exact ajD e
 refine call_all_walk (alg p.isList ?_);refine⟨s.heap.objs.size,_,_,_,_,_,λi=>bs.getD i false,rfl,aoo (A:=X.A.in1) (show X.A.in1.handled=none from J.ok.hd aI) s.heap.objs.size l (ajJ fx) its.toArray,⟨⟨_,ajA _ rfl,rfl,rfl⟩,p.isList.at λo e=>ajn _ e⟩,aeS p5,λh' tk k=>?_⟩;have aG:its.toArray.size=bs.length:=by
  have ah:=p5.length;rw[ajm]at ah;simp[ah]
 rw[aG,range_all];exact⟨.aE _,H,J.kept (h':=h') (t':=tk) λb o e=>k b o (by intro z;rw[ajH.mp z]at e;exact absurd (ajD e) (aj7 _)) (ajn _ e),rfl,q⟩
end
section
variable{X:aU}
def L_{v:V}(aY:eC X x)(h:∃u,X.mg x=some u/\RelV v u)(hd:(x==("__debug__":Str))=false:=by decide):bV X (.Name x pos) (oL v):=by
 obtain⟨u,hm,r⟩:=h;exact abk aY hm r hd
variable[a7]
end
end aF
set_option maxHeartbeats 1000000
namespace a0
open PySem PySem.Spec aF
variable[aF.a7]
inductive D where
 |aQ|aE (b:Bool)|int (i:Int)|str (x:Str)|tup (xs:List D)|lst (xs:List D)|ref (n:Nat)|fn (f:Str)|ty (n:String)
inductive Slot where
 |e|v (d:D)|c7 (p:Bool) (xs:List D)|bF (xs:List D)
abbrev aR:=List Slot
inductive hL where
 |lst (xs:List D)|f6 (ai:List (Key×D))|eY (ai:List (List Key×D))|bC (c:Str) (aZ:List (Str×D))
abbrev cA:=List hL
inductive Out(α:Type) where
 |ok (a:α) (S:cA)|exc (c:Str) (S:cA)|bad
structure M(α:Type):Type where
 run:cA->Out α
 ec:∀S a av,run S=.ok a av->av=S
def M.jY{α β:Type}(m:M α)(f:α->M β):M β:=⟨λS=>match m.run S with
 |.ok a av=>(f a).run av|.exc c av=>.exc c av|.bad=>.bad,λS b av h=>by
  cases e:m.run S with
  |ok a S1=>rw[e]at h;exact((f a).ec _ _ _ h).trans (m.ec _ _ _ e)|exc c S1=>rw[e]at h;cases h
  |bad=>rw[e]at h;cases h⟩
noncomputable instance:Monad M where
 pure a:=⟨λS=>.ok a S,λ_ _ _ h=>by cases h;rfl⟩
 bind:=M.jY
omit [aF.a7]in
theorem M.ext{α:Type}{x y:M α}(h:∀S,x.run S=y.run S):x=y:=by
 cases x with|mk f p=>cases y with|mk g q=>obtain rfl:f=g:=funext h;rfl
omit [aF.a7]in
theorem M.Sh{α β:Type}(m:M α)(f:α->M β):(m >>= f)=M.jY m f:=rfl
instance:LawfulMonad M:=LawfulMonad.mk'
 (id_map:=λx=>M.ext λS=>by show(M.jY x (λa=>pure (id a))).run S=x.run S;unfold M.jY;dsimp only;cases x.run S<;>rfl)
 (pure_bind:=λx f=>rfl)
 (bind_assoc:=λx f g=>M.ext λS=>by show(M.jY (M.jY x f) g).run S=(M.jY x (λa=>M.jY (f a) g)).run S;unfold M.jY;dsimp only;cases x.run S<;>rfl)
 (bind_pure_comp:=λf x=>rfl)
def bad{α:Type}:M α:=⟨λ_=>.bad,λ_ _ _ h=>by cases h⟩
omit [aF.a7]in
theorem M.inv{α β:Type}{m:M α}{f:α->M β}{S av:cA}{b:β}(h:(m >>= f).run S=.ok b av):∃a S1,m.run S=.ok a S1/\(f a).run S1=.ok b av:=by
 rw[M.Sh]at h;unfold M.jY at h;dsimp only at h
 cases e:m.run S with
 |ok a S1=>rw[e]at h;exact⟨a,S1,rfl,h⟩|exc c S1=>rw[e]at h;cases h
 |bad=>rw[e]at h;cases h
def hR(p:Prop)[Decidable p]:M Unit:=if p then pure ()else bad
omit [aF.a7]in
theorem HQ{p:Prop}[Decidable p](h:p):hR p=pure ():=if_pos h
omit [aF.a7]in
theorem qy{p:Prop}[Decidable p](h:(hR p).run S=.ok u av):p/\S=av:=by
 unfold hR at h
 by_cases aH:p
 .rw[if_pos aH]at h;cases h;exact⟨aH,rfl⟩
 .rw[if_neg aH]at h;cases h
inductive R where
 |v (d:D)|fr (xs:List D)|bF (xs:List D)|mv (xs:List D)
abbrev bp:=aR->M R
inductive Own where
 |free|out|dw|loc (i:Nat)
 deriving DecidableEq
structure a4 where
 own:Addr->Own
 bJ:List Addr
instance:CoeFun a4 (λ_=>Addr->Own):=⟨a4.own⟩
def As(K:aS)(a:Addr)(xs:List V):Prop:=
 ∃(o:Obj)(its:Array Value)(n:Nat),K.lookup a=some o/\o.cls=.type "list"/\o.dict=none/\o.data=.seq its n/\its.size<=ajt/\Vals xs its.toList
def rQ(_:aS)(O:a4)(H:aw)(a:Addr)(ys:List V):Prop:=H a=some (.lst ys)/\O a=.free
mutual
def Rep(K:aS)(mg:bt)(O:a4)(H:aw):D->V->Prop
 |.aQ,v=>v=.aQ|.aE b,v=>v=.aE b|.int i,v=>v=.int i|.str x,v=>v=.str x|.tup xs,v=>∃a ys,v=.ref a/\dI K H a ys/\bj K mg O H xs ys|.lst xs,v=>∃a ys,v=.ref a/\rQ K O H a ys/\bj K mg O H xs ys|.ref n,v=>∃a,v=.ref a/\O.bJ[n]? = some a|.fn f,v=>∃a,v=.ref a/\mg f=some (.ref a)|.ty n,v=>v=.ty n
def bj(K:aS)(mg:bt)(O:a4)(H:aw):List D->List V->Prop
 |[],ys=>ys=[]|x::xs,ys=>∃y r,ys=y::r/\Rep K mg O H x y/\bj K mg O H xs r
end
structure Go(O aj:a4)(H H':aw):Prop where
 same:eE H H'
 own:∀b,H b≠none->aj b=O b
 bJ:aj.bJ=O.bJ
def Go.refl(O:a4)(H:aw):Go O O H H:=⟨eE.refl _,λ_ _=>rfl,rfl⟩
def Go.trans{O aL bu:a4}(a:Go O aL H H1)(b:Go aL bu H1 aM):Go O bu H aM:=
 ⟨a.same.trans b.same,λc h=>(b.own c (a.same.some h)).trans (a.own c h),b.bJ.trans a.bJ⟩
def f3.same(s:eE H H')(h:f3 H a u)(n:oy u:=by exact trivial):f3 H' a u:=by
 rcases h with h|⟨o,h⟩
 .exact .inl (s.at' _ _ h n)
 .exact .inr ⟨o,s.at' _ _ h⟩
omit [aF.a7]in
theorem f3.some{H:aw}(h:f3 H a u):H a≠none:=by
 rcases h with h|⟨o,h⟩<;>rw[h]<;>intro z<;>cases z
def rQ.dH{O:a4}(h:rQ K O H a ys):dn K H a ys:=dn.of h.1
def h8(K:aS)(O:a4)(H:aw)(a:Addr)(ys:List V):Prop:=(f3 H a (.lst ys)/\(O a=.free\/O a=.out))\/As K a ys
def h8.dH{O:a4}(h:h8 K O H a ys):dn K H a ys:=h.elim (λz=>.inl z.1) .inr
def h8.go{O aj:a4}(g:Go O aj H H')(h:h8 K O H a ys):h8 K aj H' a ys:=by
 rcases h with⟨l,f⟩|l
 .exact .inl ⟨f3.same g.same l,by rw[g.own a (f3.some l)];exact f⟩
 .exact .inr l
def rQ.go{O aj:a4}(g:Go O aj H H')(h:rQ K O H a ys):rQ K aj H' a ys:=by
 exact⟨g.same.at' _ _ h.1,(g.own a (by rw[h.1];intro z;cases z)).trans h.2⟩
section
variable{K:aS}{mg:bt}{O aj:a4}{H H':aw}
mutual
theorem Rep.go(g:Go O aj H H'):∀{d:D}{v:V},Rep K mg O H d v->Rep K mg aj H' d v
 |.aQ,_,h=>h|.aE _,_,h=>h|.int _,_,h=>h|.str _,_,h=>h| .tup _,_,h=>by obtain⟨a,ys,q,l,r⟩:=h;exact⟨a,ys,q,g.same.wc l,bj.go g r⟩
 |.lst _,_,h=>by obtain⟨a,ys,q,l,r⟩:=h;exact⟨a,ys,q,l.go g,bj.go g r⟩
 |.ref _,_,h=>by obtain⟨a,q,l⟩:=h;exact⟨a,q,by rw[g.bJ];exact l⟩
 |.fn _,_,h=>h|.ty _,_,h=>h
theorem bj.go(g:Go O aj H H'):∀{ds:List D}{ys:List V},bj K mg O H ds ys->bj K mg aj H' ds ys
 |[],_,h=>h| _::_,_,h=>by obtain⟨x,r,q,a,b⟩:=h;exact⟨x,r,q,Rep.go g a,bj.go g b⟩
end
structure mQ(O aj:a4):Prop where
 fr:∀a,O a=.free->aj a=.free
 bJ:aj.bJ=O.bJ
mutual
theorem Rep.dr(g:mQ O aj):∀{d:D}{v:V},Rep K mg O H d v->Rep K mg aj H d v
 |.aQ,_,h=>h|.aE _,_,h=>h|.int _,_,h=>h|.str _,_,h=>h| .tup _,_,h=>by obtain⟨a,ys,q,l,r⟩:=h;exact⟨a,ys,q,l,bj.dr g r⟩
 |.lst _,_,h=>by obtain⟨a,ys,q,l,r⟩:=h;exact⟨a,ys,q,⟨l.1,g.fr _ l.2⟩,bj.dr g r⟩
 |.ref _,_,h=>by obtain⟨a,q,l⟩:=h;exact⟨a,q,by rw[g.bJ];exact l⟩
 |.fn _,_,h=>h|.ty _,_,h=>h
theorem bj.dr(g:mQ O aj):∀{ds:List D}{ys:List V},bj K mg O H ds ys->bj K mg aj H ds ys
 |[],_,h=>h| _::_,_,h=>by obtain⟨x,r,q,a,b⟩:=h;exact⟨x,r,q,Rep.dr g a,bj.dr g b⟩
end
theorem bj.len:∀{ds:List D}{xs:List V},bj K mg O H ds xs->xs.length=ds.length
 |[],_,h=>by cases h;rfl
 |_::_,_,h=>by obtain⟨x,r,rfl,_,b⟩:=h;rw[ajC,ajC,bj.len b]
theorem bj.get:∀{ds:List D}{xs:List V}{i:Nat}{d:D},bj K mg O H ds xs->ds[i]? = some d->∃x,xs[i]? = some x/\Rep K mg O H d x
 |[],_,_,_,_,e=>by simp at e| _::_,_,0,d,h,e=>by obtain⟨x,r,rfl,a,_⟩:=h;cases(show some _=some d from e);exact⟨x,rfl,a⟩
 |_::ds,_,i+1,d,h,e=>by
  obtain⟨x,r,rfl,_,b⟩:=h;obtain⟨y,ao,az⟩:=bj.get (i:=i) b (by simpa using e);exact⟨y,by simpa using ao,az⟩
theorem bj.IV:∀{ds:List D}{xs:List V}{i:Nat}{x:V},bj K mg O H ds xs->xs[i]? = some x->∃d,ds[i]? = some d/\Rep K mg O H d x
 |[],_,_,_,h,e=>by cases h;simp at e
 |_::_,_,0,x,h,e=>by obtain⟨y,r,rfl,a,_⟩:=h;cases(show some _=some x from e);exact⟨_,rfl,a⟩
 |_::ds,_,i+1,d,h,e=>by
  obtain⟨x,r,rfl,_,b⟩:=h;obtain⟨y,ao,az⟩:=bj.IV (i:=i) b (by simpa using e);exact⟨y,by simpa using ao,az⟩
theorem bj.append:∀{ds ay:List D}{xs ys:List V},bj K mg O H ds xs->bj K mg O H ay ys->bj K mg O H (ds++ay) (xs++ys)
 |[],_,_,_,h,q=>by cases h;exact q
 |_::_,_,_,_,h,q=>by obtain⟨x,r,rfl,a,b⟩:=h;exact⟨x,_,rfl,a,bj.append b q⟩
def bj.one(h:Rep K mg O H d x):bj K mg O H [d] [x]:=⟨x,[],rfl,h,rfl⟩
theorem bj.take:∀{ds:List D}{xs:List V}(n:Nat),bj K mg O H ds xs->bj K mg O H (ds.take n) (xs.take n)
 |[],_,_,h=>by cases h;rw[aos,aos];rfl
 |_::_,_,0,_=>by rw[am7,am7];rfl| _::_,_,n+1,h=>by obtain⟨x,r,rfl,a,b⟩:=h;exact⟨x,_,rfl,a,bj.take n b⟩
theorem bj.drop:∀{ds:List D}{xs:List V}(n:Nat),bj K mg O H ds xs->bj K mg O H (ds.drop n) (xs.drop n)
 |[],_,_,h=>by cases h;rw[List.drop_nil,List.drop_nil];rfl
 |_::_,_,0,h=>h| _::_,_,n+1,h=>by obtain⟨x,r,rfl,a,b⟩:=h;exact bj.drop n b
def MI(ns:List Int):bj K mg O H (ns.map D.int) (ns.map V.int):=by
 induction ns with
 |nil=>rfl|cons n r a8=>exact⟨.int n,_,rfl,rfl,a8⟩
def d5{κ:Type}(K:aS)(mg:bt)(O:a4)(H:aw)(ai:List (κ×D))(dA:List (κ×V)):Prop:=ai.map (·.1)=dA.map (·.1)/\bj K mg O H (ai.map (·.2)) (dA.map (·.2))
def eW(K:aS)(mg:bt)(O:a4)(H:aw):R->V->Prop
 |.v d,v=>Rep K mg O H d v|.fr xs,v=>∃a ys,v=.ref a/\H a=some (.lst ys)/\O a=.dw/\bj K mg O H xs ys|.bF xs,v=>∃a ys,v=.ref a/\h8 K O H a ys/\bj K mg O H xs ys|.mv xs,v=>∃a ys,v=.ref a/\H a=some (.lst ys)/\bj K mg O H xs ys
def eW.go(g:Go O aj H H'):∀{r:R}{v:V},eW K mg O H r v->eW K mg aj H' r v
 |.v _,_,h=>Rep.go g h| .fr _,_,h=>by obtain⟨a,ys,q,l,o,r⟩:=h;exact⟨a,ys,q,g.same.at' _ _ l,(g.own a (by rw[l];intro z;cases z)).trans o,r.go g⟩
 |.bF _,_,h=>by obtain⟨a,ys,q,l,r⟩:=h;exact⟨a,ys,q,l.go g,r.go g⟩
 |.mv _,_,h=>by obtain⟨a,ys,q,l,r⟩:=h;exact⟨a,ys,q,g.same.at' _ _ l,r.go g⟩
theorem bj.imp{aj:a4}(f:∀d v,Rep K mg O H d v->Rep K mg aj H' d v):∀{ds:List D}{ys:List V},bj K mg O H ds ys->bj K mg aj H' ds ys
 |[],_,h=>h| _::_,_,h=>by obtain⟨x,r,q,a,b⟩:=h;exact⟨x,r,q,f _ _ a,bj.imp f b⟩
def Px(K:aS)(mg:bt)(c:Str)(C:Addr):Prop:=mg c=some (.ref C)/\i6 K C
def jx(K:aS)(mg:bt)(O:a4)(H:aw)(w:Own):Slot->Option V->Prop
 |.e,_=>True|.v d,u=>∃v,u=some v/\Rep K mg O H d v|.c7 _ xs,u=>∃a ys,u=some (.ref a)/\O a=w/\H a=some (.lst ys)/\bj K mg O H xs ys|.bF xs,u=>∃a ys,u=some (.ref a)/\h8 K O H a ys/\bj K mg O H xs ys
def jx.go(g:Go O aj H H'):∀{s:Slot}{u:Option V},jx K mg O H w s u->jx K mg aj H' w s u
 |.e,_,_=>trivial| .v _,_,h=>by obtain⟨v,q,r⟩:=h;exact⟨v,q,r.go g⟩
 |.c7 _ _,_,h=>by obtain⟨a,ys,q,o,l,r⟩:=h;exact⟨a,ys,q,(g.own a (by rw[l];intro z;cases z)).trans o,g.same.at' _ _ l,r.go g⟩
 |.bF _,_,h=>by
  obtain⟨a,ys,q,l,r⟩:=h;exact⟨a,ys,q,l.go g,r.go g⟩
end
def jw(O:a4):Prop:=O.bJ.Nodup/\∀a∈O.bJ,O a=.out
structure c5(O:a4)(H:aw):Prop where
 has:∀a,O a≠.free->H a≠none
 tabs:TabsOk H
 cn:jw O
def mU(K:aS)(mg:bt)(O:a4)(H:aw)(a:Addr):hL->Prop
 |.lst xs=>∃ys,H a=some (.lst ys)/\bj K mg O H xs ys|.f6 ai=>∃dA,H a=some (.fl dA)/\d5 K mg O H ai dA|.eY ai=>∃dA,H a=some (.hB dA)/\d5 K mg O H ai dA|.bC c aZ=>∃C b8 jD,H a=some (.ins C b8 jD)/\Px K mg c C/\d5 K mg O H aZ jD
def gu(K:aS)(mg:bt)(O:a4)(H:aw)(S:cA):Prop:=∀(n:Nat)(o:hL),S[n]? = some o->∃a,O.bJ[n]? = some a/\mU K mg O H a o
def mU.all{O aj:a4}{H H':aw}(f:∀d v,Rep K mg O H d v->Rep K mg aj H' d v)(g:∀u,H a=some u->oy u->H' a=some u):∀{o:hL},mU K mg O H a o->mU K mg aj H' a o
 |.lst _,h=>by obtain⟨ys,l,r⟩:=h;exact⟨ys,g _ l trivial,r.imp f⟩
 |.f6 _,h=>by obtain⟨ys,l,e,r⟩:=h;exact⟨ys,g _ l trivial,e,r.imp f⟩
 |.eY _,h=>by obtain⟨ys,l,e,r⟩:=h;exact⟨ys,g _ l trivial,e,r.imp f⟩
 |.bC _ _,h=>by obtain⟨C,b8,jD,l,c,e,r⟩:=h;exact⟨C,b8,jD,g _ l trivial,c,e,r.imp f⟩
def gu.all{O aj:a4}{H H':aw}(s:gu K mg O H S)(f:∀d v,Rep K mg O H d v->Rep K mg aj H' d v)(e:aj.bJ=O.bJ)(g:∀a∈O.bJ,∀u,H a=some u->oy u->H' a=some u):gu K mg aj H' S:=λn o h=>by
 obtain⟨a,af,ah⟩:=s n o h;exact⟨a,by rw[e];exact af,ah.all f (g a (aka af))⟩
def gu.go{O aj:a4}(s:gu K mg O H S)(g:Go O aj H H'):gu K mg aj H' S:=
 s.all (λ_ _ z=>Rep.go g z) g.bJ λa _ u l n=>g.same.at' _ _ l n
def gu.nil{O:a4}:gu K mg O H []:=λn o h=>by cases n<;>cases h
structure cy(K:aS)(mg:bt)(O:a4)(Y:aR)(S:cA)(ar:St)(H:aw):Prop where
 cg:c5 O H
 len:Y.length=ar.length
 loc:∀i s,Y[i]? = some s->jx K mg O H (.loc i) s (ar[i]?.join)
 gK:gu K mg O H S
def cy.go{O aj:a4}(h:cy K mg O Y S ar H)(g:Go O aj H H')(d:c5 aj H'):cy K mg aj Y S ar H':=
 ⟨d,h.len,λi s e=>(h.loc i s e).go g,h.gK.go g⟩
def fV(O:a4)(a:Addr)(o:Own):a4:=⟨λb=>if b=a then o else O b,O.bJ⟩
omit [aF.a7]in
theorem nJ{O:a4}:fV O a o a=o:=if_pos rfl
omit [aF.a7]in
theorem oP{O:a4}(h:b≠a):fV O a o b=O b:=if_neg h
section
variable{K:aS}{mg:bt}{O:a4}{Y:aR}{S:cA}{ar:St}{H:aw}{p:Addr}{u:gM}{o:Own}
def Go.new(aH:H p=none):Go O (fV O p o) H (upd H p u):=
 ⟨rn aH u,λb ab=>oP (by rintro rfl;exact ab aH),rfl⟩
def Go.fz(aH:H p=none):Go O O H (upd H p u):=⟨rn aH u,λ_ _=>rfl,rfl⟩
def c5.new(d:c5 O H)(aH:H p=none):c5 (fV O p o) (upd H p u):=⟨λa aq=>by
 by_cases e:a=p
 .subst e;rw[dx];intro z;cases z
 .rw[df e];rw[oP e]at aq;exact d.has a aq,d.tabs.new aH u,d.cn.1,λa h=>by rw[oP (by rintro rfl;exact d.has _ (by rw[d.cn.2 _ h];intro z;cases z) aH)];exact d.cn.2 a h⟩
def c5.same(d:c5 O H)(s:eE H H'):c5 O H':=⟨λa aq=>s.some (d.has a aq),s.bT d.tabs,d.cn⟩
def c5.free(d:c5 O H)(aH:H p=none):O p=.free:=by
 cases e:O p with
 |free=>rfl| _=>exact absurd aH (d.has p (by rw[e];intro z;cases z))
def cy.new(h:cy K mg O Y S ar H)(aH:H p=none):cy K mg (fV O p o) Y S ar (upd H p u):=h.go (Go.new aH) (h.cg.new aH)
def cy.fz(h:cy K mg O Y S ar H)(aH:H p=none):cy K mg O Y S ar (upd H p u):=h.go (Go.fz aH) (h.cg.same (rn aH u))
end
def jv(H:aw):R->V->Prop
 |.fr _,v=>∀a,v=.ref a->H a=none|_,_=>True
def jv.back(s:eE H H1):∀{r:R}{v:V},jv H1 r v->jv H r v
 |.v _,_,_=>trivial|.bF _,_,_=>trivial|.mv _,_,_=>trivial|.fr _,_,h=>λa e=>s.free (h a e)
def km(H:aw):List R->List V->Prop
 |r::rs,v::vs=>jv H r v/\km H rs vs|_,_=>True
theorem km.back(s:eE H H1):∀{rs:List R}{vs:List V},km H1 rs vs->km H rs vs
 |[],_,_=>trivial|_::_,[],_=>trivial|_::_,_::_,h=>⟨h.1.back s,km.back s h.2⟩
def w3(K:aS)(mg:bt)(O:a4)(Y:aR)(av:cA)(ar:St)(H:aw)(r:R)(Q:c9):Prop:=
 ∀aj v H',Go O aj H H'->cy K mg aj Y av ar H'->eW K mg aj H' r v->jv H r v->Q v H'
inductive o_{α:Type}(K:aS)(mg:bt)(m:aR->M α)(ar:St)(H:aw)(P:a4->aR->cA->α->Prop):Prop
 |mk (O:a4) (Y:aR) (S:cA) (x:α) (av:cA) (st:cy K mg O Y S ar H) (h:(m Y).run S=.ok x av) (q:P O Y av x):o_ K mg m ar H P
def fs(K:aS)(mg:bt)(m:bp):TE:=λar H Q=>o_ K mg m ar H λO Y av r=>w3 K mg O Y av ar H r Q
def kW(K:aS)(mg:bt)(m:aR->M Bool):TT:=λar H Q=>o_ K mg m ar H λO Y av b=>∀aj H',Go O aj H H'->cy K mg aj Y av ar H'->Q b H'
abbrev hI(X:aU)(e:Expr)(m:bp):Prop:=bV X e (fs X.K X.mg m)
abbrev Ft(X:aU)(e:Expr)(m:aR->M Bool):Prop:=iM X e (kW X.K X.mg m)
abbrev wU(X:aU)(e:Expr)(m:aR->M Bool):Prop:=k7 X e (kW X.K X.mg m)
def gq(K:aS)(mg:bt)(O:a4)(H:aw):List R->List V->Prop
 |[],ys=>ys=[]|x::xs,ys=>∃y r,ys=y::r/\eW K mg O H x y/\gq K mg O H xs r
theorem gq.go{O aj:a4}(g:Go O aj H H'):∀{rs:List R}{ys:List V},gq K mg O H rs ys->gq K mg aj H' rs ys
 |[],_,h=>h| _::_,_,h=>by obtain⟨x,r,q,a,b⟩:=h;exact⟨x,r,q,a.go g,gq.go g b⟩
theorem gq.len{O:a4}:∀{rs:List R}{ys:List V},gq K mg O H rs ys->ys.length=rs.length
 |[],_,h=>by cases h;rfl
 |_::_,_,h=>by obtain⟨x,r,rfl,_,b⟩:=h;rw[ajC,ajC,gq.len b]
abbrev cV:=aR->M (List R)
def nH(K:aS)(mg:bt)(m:cV):gv:=λar H Q=>o_ K mg m ar H λO Y av rs=>∀aj vs H',Go O aj H H'->cy K mg aj Y av ar H'->gq K mg aj H' rs vs->km H rs vs->Q vs H'
abbrev Al(X:aU)(ay:List Expr)(m:cV):Prop:=eN X ay (nH X.K X.mg m)
def ee{t t':TE}(h:bV X e t)(i:∀Y H Q,t' Y H Q->t Y H Q):bV X e t':=λzn s Y H Q J q=>h zn s Y H Q J (i _ _ _ q)
def rj{t t':TT}(h:iM X e t)(i:∀Y H Q,t' Y H Q->t Y H Q):iM X e t':=λzn s Y H Q J q=>h zn s Y H Q J (i _ _ _ q)
def Ej{t t':TT}(h:k7 X e t)(i:∀Y H Q,t' Y H Q->t Y H Q):k7 X e t':=λrF zn s Y H Q J q=>h rF zn s Y H Q J (i _ _ _ q)
def zq{t t':gv}(h:eN X ay t)(i:∀Y H Q,t' Y H Q->t Y H Q):eN X ay t':=λpos zn s Y H Q J q=>h pos zn s Y H Q J (i _ _ _ q)
@[simp] def I(i:Nat)(Y:aR):M R:=match Y[i]? with
 |some (.v d)=>pure (.v d)|some (.c7 _ xs)=>pure (.mv xs)|some (.bF xs)=>pure (.bF xs)|_=>bad
def aa(d:D):bp:=λ_=>pure (.v d)
section
variable{X:aU}{a b c e:Expr}{c2 c_ hn m:bp}{b3:aR->M Bool}
def ud{v:V}(h:bV X e (oL v))(r:∀O H,Rep X.K X.mg O H d v):hI X e (aa d):=ee h λar H Q aX=>by
 obtain⟨O,Y,S,bP,av,st,h,q⟩:=aX;cases h;exact q O v H (Go.refl _ _) st (r O H) trivial
@[simp] def ae(f:R->R->M R)(a b:bp)(Y:aR):M R:=do
 let x <-a Y
 let y <-b Y
 f x y
def eh(K:aS)(mg:bt)(r:fG)(f:R->R->M R):Prop:=
 ∀O Y S ar H x y a9 bA bP av (Q:c9),cy K mg O Y S ar H->eW K mg O H a9 x->eW K mg O H bA y->(f a9 bA).run S=.ok bP av->w3 K mg O Y av ar H bP Q->r x y H Q
def t9{r:fG}(hf:eh K mg r f):∀ar H Q,fs K mg (ae f c2 c_) ar H Q->tx r (fs K mg c2) (fs K mg c_) ar H Q:=by
 rintro ar H Q ⟨O,Y,S,bP,av,st,h,q⟩;obtain⟨x,S1,af,h⟩:=M.inv h;obtain⟨y,a6,ah,h⟩:=M.inv h;refine⟨O,Y,S,x,S1,st,af,λaL f_ H1 g1 aT a9 bo=>?_⟩;refine⟨aL,Y,S1,y,a6,aT,ah,λbu qd aM g2 cK bA DJ=>?_⟩;exact hf bu Y a6 ar aM f_ qd x y bP av Q cK (a9.go g2) bA h λaj v H' g cc br nn=>q aj v H' ((g1.trans g2).trans g) cc br (nn.back (g1.trans g2).same)
def R.nI:R->M Bool
 |.v (.aE b)=>pure b|_=>bad
@[simp] def a5(m:bp)(Y:aR):M Bool:=do
 let x <-m Y
 x.nI
omit [aF.a7]in
theorem tC{r:R}{b:Bool}{S av:cA}(h:r.nI.run S=.ok b av):r=.v (.aE b)/\S=av:=by
 cases r with
 |v d=>cases d<;>cases h<;>exact⟨rfl,rfl⟩
 |fr _=>cases h
 |bF _=>cases h
 |mv _=>cases h
def EU:∀ar H Q,kW K mg (a5 m) ar H Q->wq (fs K mg m) ar H Q:=by
 rintro ar H Q ⟨O,Y,S,t,av,st,h,q⟩;obtain⟨x,S1,af,h⟩:=M.inv h;obtain⟨rfl,rfl⟩:=tC h;exact⟨O,Y,S,_,_,st,af,λaj v H' g cc br _=>⟨t,br,q aj H' g cc⟩⟩
def Ow{t t':TE}(i:∀Y H Q,t' Y H Q->t Y H Q):∀Y H Q,wq t' Y H Q->wq t Y H Q:=λY H Q q=>i _ _ _ q
@[simp] def jZ(f g:R->R->M R)(a b c:bp)(Y:aR):M R:=do
 let x <-a Y
 let y <-b Y
 let z <-f x y
 let t <-z.nI
 if t=true then do
  let w <-c Y
  g y w
 else pure (.v (.aE false))
def Sy{r bP:fG}(hf:eh K mg r f)(aY:eh K mg bP g):∀ar H Q,fs K mg (jZ f g c2 c_ hn) ar H Q->Ou r bP (fs K mg c2) (fs K mg c_) (fs K mg hn) ar H Q:=by
 rintro ar H Q ⟨O,Y,S,bP,av,st,h,q⟩;obtain⟨x,S1,af,h⟩:=M.inv h;obtain⟨y,a6,ah,h⟩:=M.inv h;obtain⟨z,ia,bN,h⟩:=M.inv h;obtain⟨t,hx,dz,h⟩:=M.inv h;obtain⟨rfl,rfl⟩:=tC dz;refine⟨O,Y,S,x,S1,st,af,λaL f_ H1 g1 aT a9 bo=>?_⟩;refine⟨aL,Y,S1,y,a6,aT,ah,λbu qd aM g2 cK bA DJ=>?_⟩;refine hf bu Y a6 ar aM f_ qd x y _ _ _ cK (a9.go g2) bA bN λeV aje cP g3 f9 br _=>⟨t,br,?_⟩
 have BW:=(g1.trans g2).trans g3
 cases t with
 |false=>
  rw[if_neg ajx]at h;cases h;exact oj (q eV _ cP BW f9 rfl trivial)
 |true=>
  rw[if_pos rfl]at h;obtain⟨w,rU,fb,h⟩:=M.inv h;refine om ⟨eV,Y,_,w,rU,f9,fb,λPK bF hK lh ts rw nw=>?_⟩;exact aY PK Y rU ar hK qd bF y w _ av Q ts (bA.go (g3.trans lh)) rw h λaj v H' g cc br nn=>q aj v H' ((BW.trans lh).trans g) cc br (nn.back (BW.trans lh).same)
@[simp] def k'(a b:bp)(Y:aR):M R:=do
 let x <-a Y
 let t <-x.nI
 if t=true then b Y else pure (.v (.aE false))
def xv(a:bp):bp:=λY=>do
 let x <-a Y
 let t <-x.nI
 pure (.v (.aE (!t)))
def h3(a b:aR->M Bool):aR->M Bool:=λY=>do
 let t <-a Y
 if t=true then b Y else pure false
@[simp] def i4(a b:aR->M Bool)(Y:aR):M Bool:=do
 let t <-a Y
 if t=true then pure true else b Y
@[simp] def g9(a:aR->M Bool)(Y:aR):M Bool:=do
 let t <-a Y
 pure (!t)
def wU.ct(h:wU X a b3):Ft X a b3:=h.pt
end
def rd(g:Int->Int->Int):R->R->M R
 |.v (.int i),.v (.int j)=>pure (.v (.int (g i j)))|_,_=>bad
def oE(C:Int->Int->Prop)[∀i j,Decidable (C i j)](g:Int->Int->Int):R->R->M R
 |.v (.int i),.v (.int j)=>if C i j then pure (.v (.int (g i j)))else bad|_,_=>bad
def rb(g:Int->Int->Bool):R->R->M R
 |.v (.int i),.v (.int j)=>pure (.v (.aE (g i j)))|_,_=>bad
section
variable{K:aS}{mg:bt}
def xp{g:Int->Int->Int}:eh K mg (hZ λi j=>.int (g i j)) (rd g):=λO Y S ar H x y a9 bA bP av Q st ag ba h q=>by
 unfold rd at h;split at h
 .rename_i i j
  cases h;exact⟨i,j,ag,ba,q O _ H (Go.refl _ _) st rfl trivial⟩
 .cases h
def r0{C:Int->Int->Prop}{lL:Int->Int->Prop}[∀i j,Decidable (lL i j)]{g:Int->Int->Int}(fI:∀i j,lL i j->C i j):eh K mg (kc C λi j=>.int (g i j)) (oE lL g):=λO Y S ar H x y a9 bA bP av Q st ag ba h q=>by
 unfold oE at h;split at h
 .rename_i i j
  by_cases c:lL i j
  .rw[if_pos c]at h
   cases h;exact⟨i,j,ag,ba,fI i j c,q O _ H (Go.refl _ _) st rfl trivial⟩
  .rw[if_neg c]at h;cases h
 .cases h
def xo{g:Int->Int->Bool}:eh K mg (hZ λi j=>.aE (g i j)) (rb g):=λO Y S ar H x y a9 bA bP av Q st ag ba h q=>by
 unfold rb at h;split at h
 .rename_i i j
  cases h;exact⟨i,j,ag,ba,q O _ H (Go.refl _ _) st rfl trivial⟩
 .cases h
end
abbrev fN:=rd (· + ·)
abbrev DP:=rd (· - ·)
abbrev oMod:=oE (λ_ j=>0<j) (· % ·)
abbrev mn:=oE (λi j=>0<=j/\j<=1000000/\i.natAbs<2 ^ 64) (λi j=>i ^ j.toNat)
abbrev DM:=oE (λi j=>0<=j/\j<=1000000/\i.natAbs<2 ^ 64) (λi j=>i*2 ^ j.toNat)
abbrev DN:=oE (λ_ j=>0<=j) (λi j=>i / 2 ^ j.toNat)
abbrev DL:=rd al3
abbrev s':=rd amH
abbrev oLt:=rb λi j=>decide (i<j)
abbrev oLe:=rb λi j=>decide (i<=j)
abbrev vJ:=rb λi j=>decide (j<i)
abbrev oD:=rb λi j=>decide (j<=i)
section
variable{X:aU}
def Qb:eh X.K X.mg (hZ λi j=>.int (i+j)) fN:=xp
def Qn:eh X.K X.mg (hZ λi j=>.int (i-j)) DP:=xp
def Qi:eh X.K X.mg (kc (λ_ j=>0<j) λi j=>.int (i % j)) oMod:=r0 λ_ _ h=>h
def Qk:eh X.K X.mg (kc wR λi j=>.int (i ^ j.toNat)) mn:=r0 λ_ _ h=>h
def Ql:eh X.K X.mg (kc wR λi j=>.int (i*2 ^ j.toNat)) DM:=r0 λ_ _ h=>h
def Qm:eh X.K X.mg (kc (λ_ j=>0<=j) λi j=>.int (i / 2 ^ j.toNat)) DN:=r0 λ_ _ h=>h
def Qc:eh X.K X.mg (hZ λi j=>.int (al3 i j)) DL:=xp
def Qd:eh X.K X.mg (hZ λi j=>.int (amH i j)) s':=xp
def F2:eh X.K X.mg (hZ λi j=>.aE (decide (i<j))) oLt:=xo
def AR:eh X.K X.mg (hZ λi j=>.aE (decide (i<=j))) oLe:=xo
def Qh:eh X.K X.mg (hZ λi j=>.aE (decide (j<i))) vJ:=xo
def FY:eh X.K X.mg (hZ λi j=>.aE (decide (j<=i))) oD:=xo
end
@[simp] def bS(f:R->M R)(a:bp)(Y:aR):M R:=do
 let x <-a Y
 f x
def R.fo:R->Option (List D)
 |.v (.lst xs)=>some xs|.fr xs=>some xs|.bF xs=>some xs|.mv xs=>some xs|_=>none
def R.EW:R->Option (List D)
 |.v (.tup xs)=>some xs|_=>none
def R.seq(r:R):Option (List D):=r.fo<|> r.EW
def R.ni{K:aS}{mg:bt}{O:a4}{H:aw}{r:R}{v:V}{xs:List D}(h:eW K mg O H r v)(e:r.fo=some xs):∃a ys,v=.ref a/\dn K H a ys/\bj K mg O H xs ys:=by
 unfold R.fo at e;split at e
 .cases e;obtain⟨a,ys,q,l,r⟩:=h;exact⟨a,ys,q,l.dH,r⟩
 .cases e;obtain⟨a,ys,q,l,_,r⟩:=h;exact⟨a,ys,q,dn.of l,r⟩
 .cases e;obtain⟨a,ys,q,l,r⟩:=h;exact⟨a,ys,q,l.dH,r⟩
 .cases e;obtain⟨a,ys,q,l,r⟩:=h;exact⟨a,ys,q,dn.of l,r⟩
 .cases e
def R.aeP{K:aS}{mg:bt}{O:a4}{H:aw}{r:R}{v:V}{xs:List D}(h:eW K mg O H r v)(e:r.EW=some xs):∃a ys,v=.ref a/\dI K H a ys/\bj K mg O H xs ys:=by
 unfold R.EW at e;split at e
 .cases e;exact h
 .cases e
def R.zI{K:aS}{mg:bt}{O:a4}{H:aw}{r:R}{v:V}{xs:List D}(h:eW K mg O H r v)(e:r.seq=some xs):∃a ys,v=.ref a/\(dn K H a ys\/dI K H a ys)/\bj K mg O H xs ys:=by
 unfold R.seq at e
 cases ao:r.fo with
 |some zs=>rw[ao]at e;cases e;obtain⟨a,ys,q,l,r⟩:=R.ni h ao;exact⟨a,ys,q,.inl l,r⟩
 |none=>rw[ao]at e;obtain⟨a,ys,q,l,r⟩:=R.aeP h e;exact⟨a,ys,q,.inr l,r⟩
def bj.eP{O:a4}{i:Int}(h:bj K mg O H ds xs)(e:eP ds i=some d):∃x,aF.eP xs i=some x/\Rep K mg O H d x:=by
 unfold aF.eP at e ⊢;rw[h.len]
 cases q:qW ds.length i with
 |none=>rw[q]at e;cases e
 |some j=>rw[q]at e;exact h.get e
def aK:R->R->M R
 |.v (.str z),.v (.int i)=>match eP z.cps.toList i with
  |some c=>if z.length<=ajt then pure (.v (.str ⟨#[c]⟩))else bad|none=>bad
 |x,.v (.int i)=>match x.seq with
  |some xs=>match eP xs i with
   |some d=>pure (.v d)|none=>bad
  |none=>bad
 |_,_=>bad
def ic:eh K mg (MC K) aK:=fun O Y S ar H x y a9 bA bP av Q st ag ba h q=>by
 unfold aK at h;split at h
 .rename_i z i
  split at h
  .rename_i c az
   by_cases hz:z.length<=ajt
   .rw[if_pos hz]at h
    cases h;exact .inr (.inr ⟨z,i,c,ag,ba,hz,az,q O _ H (Go.refl _ _) st rfl trivial⟩)
   .rw[if_neg hz]at h;cases h
  .cases h
 .rename_i i _
  split at h
  .rename_i xs e
   split at h
   .rename_i d az
    cases h;obtain⟨a,ys,rfl,l,bw⟩:=R.zI ag e;obtain⟨z,cI,jM⟩:=bj.eP bw az;have iS:=q O z H (Go.refl _ _) st jM trivial;rcases l with l|l
    .exact .inl ⟨a,ys,i,z,rfl,ba,l,cI,iS⟩
    .exact .inr (.inl ⟨a,ys,i,z,rfl,ba,l,cI,iS⟩)
   .cases h
  .cases h
 .cases h
def ak:cV:=λ_=>pure []
@[simp] def U(m:bp)(ms:cV)(Y:aR):M (List R):=do
 let x <-m Y
 let xs <-ms Y
 pure (x::xs)
def R.dat:R->M D
 |.v d=>pure d|.fr xs=>pure (.lst xs)|_=>bad
def lb:List R->M (List D)
 |[]=>pure []|r::rs=>do
  let d <-r.dat
  let ds <-lb rs
  pure (d::ds)
def cj(H₀:aw)(O:a4):a4:=⟨λb=>match H₀ b,O b with
 |none,.dw=>.free| _,o=>o,O.bJ⟩
def xZ{H₀:aw}{O:a4}(h:H₀ b≠none):cj H₀ O b=O b:=by
 show(match H₀ b,O b with|none,.dw=>.free|_,o=>o)=O b
 cases e:H₀ b with
 |none=>exact absurd e h|some o=>cases O b<;>rfl
def x1{H₀:aw}{O:a4}(h:H₀ b=none)(t:O b=.dw):cj H₀ O b=.free:=by show(match H₀ b,O b with|none,.dw=>.free|_,o=>o)=Own.free;rw[h,t]
def qE{O:a4}(t:O b≠.dw):cj H₀ O b=O b:=by
 show(match H₀ b,O b with|none,.dw=>.free|_,o=>o)=O b;cases e:H₀ b<;>cases az:O b<;>first|rfl|exact absurd az t
def ja(H₀:aw)(O:a4):mQ O (cj H₀ O):=⟨λa h=>by rw[qE (by rw[h];intro z;cases z),h],rfl⟩
def jx.dr{O aj:a4}(g:mQ O aj)(bg:∀a,O a=.out->aj a=.out)(hw:∀a,O a=w->aj a=w):∀{s:Slot}{u:Option V},jx K mg O H w s u->jx K mg aj H w s u
 |.e,_,_=>trivial| .v _,_,h=>by obtain⟨v,q,r⟩:=h;exact⟨v,q,r.dr g⟩
 |.c7 _ _,_,h=>by obtain⟨a,ys,q,o,l,r⟩:=h;exact⟨a,ys,q,hw a o,l,r.dr g⟩
 |.bF _,_,h=>by
  obtain⟨a,ys,q,l,r⟩:=h;refine⟨a,ys,q,l.imp (λz=>⟨z.1,z.2.imp (g.fr a) (bg a)⟩) id,r.dr g⟩
section
variable{K:aS}{mg:bt}{O:a4}{Y:aR}{S:cA}{ar:St}{H H₀:aw}
def cy.cj(h:cy K mg O Y S ar H)(H₀:aw):cy K mg (cj H₀ O) Y S ar H:=
  ⟨⟨λa aq=>h.cg.has a λz=>aq (by rw[qE (by rw[z];intro w;cases w),z]),h.cg.tabs,h.cg.cn.1,λa m=>by rw[qE (by rw[h.cg.cn.2 a m];intro w;cases w)];exact h.cg.cn.2 a m⟩,h.len,
   λi s e=>(h.loc i s e).dr (ja _ _) (λa z=>by rw[qE (by rw[z];intro w;cases w),z]) (λa z=>by rw[qE (by rw[z];intro w;cases w),z]),h.gK.all (λ_ _ z=>Rep.dr (ja _ _) z) rfl λ_ _ _ l _=>l⟩
def Go.cj{o6:a4}(g:Go o6 O H₀ H):Go o6 (cj H₀ O) H₀ H:=⟨g.same,λb ab=>(xZ ab).trans (g.own b ab),g.bJ⟩
def pn{r:R}{v:V}(aB:eW K mg O H r v)(aG:jv H₀ r v)(h:r.dat.run S=.ok d av):Rep K mg (a0.cj H₀ O) H d v/\S=av:=by
 cases r with
 |v d'=>cases h;exact⟨Rep.dr (ja _ _) aB,rfl⟩
 |fr xs=>
  cases h;obtain⟨a,ys,rfl,l,t,bw⟩:=aB;exact⟨⟨a,ys,rfl,⟨l,x1 (aG a rfl) t⟩,bj.dr (ja _ _) bw⟩,rfl⟩
 |bF xs=>cases h
 |mv xs=>cases h
theorem xF:∀{rs:List R}{vs:List V}{ds:List D}{S av:cA},gq K mg O H rs vs->km H₀ rs vs->(lb rs).run S=.ok ds av->bj K mg (a0.cj H₀ O) H ds vs/\S=av
 |[],vs,ds,S,av,aB,_,h=>by cases h;exact⟨aB,rfl⟩
 |r::rs,vs,ds,S,av,aB,aG,h=>by
  obtain⟨d,S1,af,h⟩:=M.inv h;obtain⟨m2,a6,ah,h⟩:=M.inv h;cases h;obtain⟨v,E6,rfl,bB,b_⟩:=aB;obtain⟨bq,rfl⟩:=pn (H₀:=H₀) bB aG.1 af;obtain⟨b1,rfl⟩:=xF b_ aG.2 ah;exact⟨⟨v,E6,rfl,bq,b1⟩,rfl⟩
end
@[simp] def bD(ms:cV)(Y:aR):M R:=do
 let rs <-ms Y
 let ds <-lb rs
 hR (ds.length<=1000)
 pure (.v (.tup ds))
@[simp] def dS(ms:cV)(Y:aR):M R:=do
 let rs <-ms Y
 let ds <-lb rs
 hR (ds.length<=1000)
 pure (.fr ds)
@[simp] def cH(f:List R->M R)(ms:cV)(Y:aR):M R:=do
 let rs <-ms Y
 f rs
def jT(K:aS)(mg:bt)(r:List V->aw->c9->Prop)(f:List R->M R):Prop:=
 ∀O Y S ar H xs rs bP av (Q:c9),cy K mg O Y S ar H->gq K mg O H rs xs->(f rs).run S=.ok bP av->w3 K mg O Y av ar H bP Q->r xs H Q
section
variable{ms:cV}{r:List V->aw->c9->Prop}{f:List R->M R}
def HH(hf:jT K mg r f):∀ar H Q,fs K mg (cH f ms) ar H Q->ES r (nH K mg ms) ar H Q:=by
 rintro ar H Q ⟨O,Y,S,bP,av,st,h,q⟩;obtain⟨rs,S1,af,h⟩:=M.inv h;refine⟨O,Y,S,rs,S1,st,af,λaL vs H1 g1 aT br nn=>?_⟩;exact hf aL Y S1 ar H1 vs rs bP av Q aT br h λaj v H' g cc ach aac=>q aj v H' (g1.trans g) cc ach (aac.back g1.same)
end
def f7:List R->M R
 |[x]=>match x.seq with
  |some xs=>pure (.v (.int (xs.length:Nat)))|none=>bad
 |_=>bad
def uw:List R->M R
 |[.v (.str z)]=>if z.length<=ajt then pure (.v (.int (z.length:Nat)))else bad|_=>bad
def R.kind:R->Option String
 |.v .aQ=>some "NoneType"|.v (.aE _)=>some "bool"|.v (.int _)=>some "int"|.v (.str _)=>some "str"|.v (.tup _)=>some "tuple"|.v (.lst _)=>some "list"|.fr _=>some "list"|.bF _=>some "list"|.mv _=>some "list"|_=>none
def hT:List R->M R
 |[x,.v (.ty n)]=>match x.kind with
  |some t=>if n∈["int","bool","tuple","list","str"]then pure (.v (.aE (iW t n)))else bad|none=>bad
 |_=>bad
def xR(g:Int->Int->Int):List R->M R
 |[.v (.int i),.v (.int j)]=>pure (.v (.int (g i j)))|_=>bad
abbrev Va:=xR λi j=>if j > i then j else i
def uu:List R->M R
 |[.v (.int i)]=>pure (.v (.int (if i<0 then -i else i)))|_=>bad
def lR:List D->Option (List Bool)
 |[]=>some []|.aE b::r=>(lR r).map (b::·)|_=>none
def U_:List R->M R
 |[x]=>match x.fo.bind lR with
  |some bs=>pure (.v (.aE (bs.any id)))|none=>bad
 |_=>bad
def se:List R->M R
 |[x]=>match x.fo.bind lR with
  |some bs=>pure (.v (.aE (bs.all id)))|none=>bad
 |_=>bad
def l0:List R->M R
 |[x]=>match x.seq with
  |some xs=>pure (.v (.tup xs))|none=>bad
 |_=>bad
section
variable{K:aS}{mg:bt}
def lF{O:a4}{r:R}(h:gq K mg O H [r] vs):∃v,vs=[v]/\eW K mg O H r v:=by
 obtain⟨v,bP,rfl,a,b⟩:=h;cases b;exact⟨v,rfl,a⟩
def Eu{O:a4}{r s:R}(h:gq K mg O H [r,s] vs):∃v u,vs=[v,u]/\eW K mg O H r v/\eW K mg O H s u:=by
 obtain⟨v,bP,rfl,a,b⟩:=h;obtain⟨u,ai7,rfl,c,d⟩:=b;cases d;exact⟨v,u,rfl,a,c⟩
def YH:jT K mg (λxs H Q=>∃p ys,xs=[.ref p]/\(dn K H p ys\/dI K H p ys)/\Q (.int ys.length) H) f7:=λO Y S ar H vs rs bP av Q st aB h q=>by
 unfold f7 at h;split at h
 .rename_i x
  obtain⟨v,rfl,ag⟩:=lF aB;split at h
  .rename_i xs e
   cases h;obtain⟨a,ys,rfl,l,bw⟩:=R.zI ag e;exact⟨a,ys,rfl,l,by rw[bw.len];exact q O _ H (Go.refl _ _) st rfl trivial⟩
  .cases h
 .cases h
def YI:jT K mg (λxs H Q=>∃z,xs=[.str z]/\z.length<=ajt/\Q (.int z.length) H) uw:=λO Y S ar H vs rs bP av Q st aB h q=>by
 unfold uw at h;split at h
 .rename_i z
  obtain⟨v,rfl,ag⟩:=lF aB;cases(show v=.str z from ag)
  by_cases hz:z.length<=ajt
  .rw[if_pos hz]at h
   cases h;exact⟨z,rfl,hz,q O _ H (Go.refl _ _) st rfl trivial⟩
  .rw[if_neg hz]at h;cases h
 .cases h
def R.Ku{O:a4}{H:aw}{r:R}{v:V}{t:String}(h:eW K mg O H r v)(e:r.kind=some t):lQ K H v t:=by
 unfold R.kind at e;split at e
 .cases e;cases h;exact .aQ
 .cases e;cases h;exact .aE _
 .cases e;cases h;exact .int _
 .cases e;cases h;exact .str _
 .cases e;obtain⟨a,ys,rfl,l,_⟩:=h;exact .tup l
 .cases e;obtain⟨a,ys,rfl,l,_⟩:=h;exact .lst l.dH
 .cases e;obtain⟨a,ys,rfl,l,_⟩:=h;exact .lst (dn.of l)
 .cases e;obtain⟨a,ys,rfl,l,_⟩:=h;exact .lst l.dH
 .cases e;obtain⟨a,ys,rfl,l,_⟩:=h;exact .lst (dn.of l)
 .cases e
def YF:jT K mg (MA K) hT:=fun O Y S ar H vs rs bP av Q st aB h q=>by
 unfold hT at h;split at h
 .rename_i x n
  obtain⟨v,u,rfl,ag,ba⟩:=Eu aB;cases(show u=.ty n from ba);split at h
  .rename_i t e
   by_cases aG:n∈["int","bool","tuple","list","str"]
   .rw[if_pos aG]at h
    cases h;exact⟨v,n,t,rfl,R.Ku ag e,aG,q O _ H (Go.refl _ _) st rfl trivial⟩
   .rw[if_neg aG]at h;cases h
  .cases h
 .cases h
def YB{g:Int->Int->Int}:jT K mg (λxs H Q=>∃i j,xs=[.int i,.int j]/\Q (.int (g i j)) H) (xR g):=λO Y S ar H vs rs bP av Q st aB h q=>by
 unfold xR at h;split at h
 .rename_i i j
  obtain⟨v,u,rfl,ag,ba⟩:=Eu aB;cases(show v=.int i from ag);cases(show u=.int j from ba);cases h;exact⟨i,j,rfl,q O _ H (Go.refl _ _) st rfl trivial⟩
 .cases h
def YD:jT K mg (λxs H Q=>∃i,xs=[.int i]/\Q (.int (if i<0 then -i else i)) H) uu:=λO Y S ar H vs rs bP av Q st aB h q=>by
 unfold uu at h;split at h
 .rename_i i
  obtain⟨v,rfl,ag⟩:=lF aB;cases(show v=.int i from ag);cases h;exact⟨i,rfl,q O _ H (Go.refl _ _) st rfl trivial⟩
 .cases h
theorem HB{O:a4}:∀{ds:List D}{ys:List V}{bs:List Bool},bj K mg O H ds ys->lR ds=some bs->ys=bs.map V.aE
 |[],ys,bs,h,e=>by cases e;exact h
 |d::ds,ys,bs,h,e=>by
  cases d with
  |aE b=>
   have e:(lR ds).map (b::·)=some bs:=e;obtain⟨cs,ao,rfl⟩:=al0.mp e;obtain⟨y,r,rfl,af,ah⟩:=h;rw[HB ah ao,show y=.aE b from af];rfl
  |_=>exact absurd (show(none:Option (List Bool))=some bs from e) (by intro z;cases z)
def YE:jT K mg (λxs H Q=>∃(l:Addr)(bs:List Bool),xs=[.ref l]/\dn K H l (bs.map V.aE)/\Q (.aE (bs.all id)) H) se:=λO Y S ar H vs rs bP av Q st aB h q=>by
 unfold se at h;split at h
 .rename_i x
  obtain⟨v,rfl,ag⟩:=lF aB;split at h
  .rename_i xs e
   cases h;obtain⟨zs,ao,az⟩:=an5.mp e;obtain⟨a,ys,rfl,l,bw⟩:=R.ni ag ao;rw[HB bw az]at l;exact⟨a,xs,rfl,l,q O _ H (Go.refl _ _) st rfl trivial⟩
  .cases h
 .cases h
def CS:jT K mg (λxs H Q=>∃p ys,xs=[.ref p]/\((dn K H p ys/\∀l,H l=none->Q (.ref l) (upd H l (.tup ys)))\/(dI K H p ys/\Q (.ref p) H))) l0:=λO Y S ar H vs rs bP av Q st aB h q=>by
 unfold l0 at h;split at h
 .rename_i x
  obtain⟨v,rfl,ag⟩:=lF aB;split at h
  .rename_i xs e
   cases h;obtain⟨a,ys,rfl,l,bw⟩:=R.zI ag e;refine⟨a,ys,rfl,?_⟩;rcases l with l|l
   .exact .inl ⟨l,λp aH=>q O _ _ (Go.fz aH) (st.fz aH) ⟨p,ys,rfl,dI.of dx,bw.go (Go.fz aH)⟩ trivial⟩
   .exact .inr ⟨l,q O _ _ (Go.refl _ _) st ⟨a,ys,rfl,l,bw⟩ trivial⟩
  .cases h
 .cases h
end
def cutD{α:Type}(xs:List α)(lo aA:Option Int):List α:=(xs.drop (d0.cR xs.length 0 lo)).take (d0.cR xs.length xs.length aA-d0.cR xs.length 0 lo)
def bj.cut{O:a4}(h:bj K mg O H ds xs)(lo aA:Option Int):bj K mg O H (cutD ds lo aA) (pk xs lo aA):=by
 unfold cutD pk;rw[h.len];exact(h.drop _).take _
abbrev o5:=aR->M (Option Int)
def aeK(K:aS)(mg:bt)(m:o5):dV:=λar H Q=>o_ K mg m ar H λO Y av b=>∀aj H',Go O aj H H'->cy K mg aj Y av ar H'->Q b H'
abbrev Pw(X:aU)(e:Option Expr)(m:o5):Prop:=tV X e (aeK X.K X.mg m)
def Bc:o5:=λ_=>pure none
@[simp] def r4(m:bp)(Y:aR):M (Option Int):=do
 let r <-m Y
 match r with
 |.v (.int i)=>pure (some i)|_=>bad
def LO(x:R)(lo aA:Option Int):M R:=
 match x with
 |.v (.tup xs)=>if d0.cR xs.length 0 lo=0/\d0.cR xs.length xs.length aA=xs.length then bad else pure (.v (.tup (cutD xs lo aA)))|_=>match x.fo with
  |some xs=>pure (.fr (cutD xs lo aA))|none=>bad
def xx(a:bp)(lo aA:o5):bp:=λY=>do
 let x <-a Y
 let l <-lo Y
 let h <-aA Y
 LO x l h
def R.own:R->Option (List D)
 |.v (.lst xs)=>some xs|.fr xs=>some xs|.mv xs=>some xs|_=>none
def iH(x y:R):M R:=match x.own,y.own with
 |some xs,some ys=>if xs.length+ys.length<=ajt then pure (.fr (xs++ys))else bad|_,_=>bad
def ta:R->R->M R
 |.v (.str x),.v (.str y)=>if x.length+y.length<=ajt then pure (.v (.str (x++y)))else bad|_,_=>bad
def R.D4{K:aS}{mg:bt}{O:a4}{H:aw}{r:R}{v:V}{xs:List D}(h:eW K mg O H r v)(e:r.own=some xs):∃a ys,v=.ref a/\H a=some (.lst ys)/\bj K mg O H xs ys:=by
 unfold R.own at e;split at e
 .cases e;obtain⟨a,ys,q,l,r⟩:=h;exact⟨a,ys,q,l.1,r⟩
 .cases e;obtain⟨a,ys,q,l,_,r⟩:=h;exact⟨a,ys,q,l,r⟩
 .cases e;obtain⟨a,ys,q,l,r⟩:=h;exact⟨a,ys,q,l,r⟩
 .cases e
section
variable{K:aS}{mg:bt}
def FW:eh K mg Mx iH:=fun O Y S ar H x y a9 bA bP av Q st ag ba h q=>by
 unfold iH at h
 cases ao:a9.own with
 |none=>rw[ao]at h;cases h
 |some xs=>
  cases az:bA.own with
  |none=>rw[ao,az]at h;cases h
  |some ys=>
   rw[ao,az]at h;dsimp only at h
   by_cases au:xs.length+ys.length<=ajt
   .rw[if_pos au]at h
    cases h;obtain⟨a,us,rfl,b5,bB⟩:=R.D4 ag ao;obtain⟨b,ws,rfl,cv,b_⟩:=R.D4 ba az;refine⟨a,b,us,ws,rfl,rfl,b5,cv,by rw[bB.len,b_.len];exact au,λp aH=>q (fV O p .dw) _ _ (Go.new aH) (st.new aH) ⟨p,_,rfl,dx,nJ,(bB.append b_).go (Go.new aH)⟩ λb c6=>?_⟩;cases c6;exact aH
   .rw[if_neg au]at h;cases h
def Qe:eh K mg (λx y H Q=>∃i j,x=.str i/\y=.str j/\i.length+j.length<=ajt/\Q (.str (i++j)) H) ta:=λO Y S ar H x y a9 bA bP av Q st ag ba h q=>by
 unfold ta at h;split at h
 .rename_i i j
  by_cases au:i.length+j.length<=ajt
  .rw[if_pos au]at h
   cases h;exact⟨i,j,ag,ba,au,q O _ H (Go.refl _ _) st rfl trivial⟩
  .rw[if_neg au]at h;cases h
 .cases h
end
def D.py:D->PyData
 |.aQ=>.none|.aE b=>.bool b|.int i=>.int i|.str x=>.str x|.tup xs=>.tuple (lE xs)|.lst xs=>.list (lE xs)|.ref _=>.none|.fn _=>.none|.ty _=>.none
where lE:List D->List PyData
 |[]=>[]
 |x::xs=>x.py::lE xs
mutual
def D.bT:D->Nat->Bool
 |.aQ,_=>true|.aE _,_=>true|.int _,_=>true|.str x,_=>ajK x|.tup xs,n=>match n with
  |0=>false|k+1=>iC xs k
 |.lst xs,n=>match n with
  |0=>false|k+1=>iC xs k
 |.ref _,_=>false|.fn _,_=>false|.ty _,_=>false
def iC:List D->Nat->Bool
 |[],_=>true|x::xs,n=>x.bT n&&iC xs n
end
mutual
def jh:D->D->Bool
 |.aQ,b=>match b with|.aQ=>true|_=>false
 |.aE a,b=>match b with|.aE c=>a==c|.int j=>(if a then 1 else 0)==j|_=>false
 |.int i,b=>match b with|.aE c=>i==(if c then 1 else 0)|.int j=>i==j|_=>false
 |.str x,b=>match b with|.str y=>x==y|_=>false
 |.tup xs,b=>match b with|.tup ys=>rh xs ys|_=>false
 |.lst xs,b=>match b with|.lst ys=>rh xs ys|_=>false
 |.ref _,_=>false|.fn _,_=>false|.ty _,_=>false
def rh:List D->List D->Bool
 |[],ys=>match ys with|[]=>true|_=>false
 |x::xs,ys=>match ys with|[]=>false|y::r=>jh x y&&rh xs r
end
mutual
theorem BF:∀(a b:D)(n m:Nat),a.bT n=true->b.bT m=true->aon a.py b.py=jh a b
 |.aQ,b,n,m,aq,ab=>by cases b<;>first|rfl|(simp[D.bT]at ab)
 |.aE _,b,n,m,aq,ab=>by cases b<;>first|rfl|(simp[D.bT]at ab)
 |.int _,b,n,m,aq,ab=>by cases b<;>first|rfl|(simp[D.bT]at ab)
 |.str _,b,n,m,aq,ab=>by cases b<;>first|rfl|(simp[D.bT]at ab)
 |.tup xs,b,n,m,aq,ab=>by
  cases b with
  |tup ys=>
   cases n with
   |zero=>simp[D.bT]at aq|succ k=>
    cases m with
    |zero=>simp[D.bT]at ab|succ j=>exact BG xs ys k j aq ab
  |ref _=>simp[D.bT]at ab|fn _=>simp[D.bT]at ab|ty _=>simp[D.bT]at ab|_=>rfl
 |.lst xs,b,n,m,aq,ab=>by
  cases b with
  |lst ys=>
   cases n with
   |zero=>simp[D.bT]at aq|succ k=>
    cases m with
    |zero=>simp[D.bT]at ab|succ j=>exact BG xs ys k j aq ab
  |ref _=>simp[D.bT]at ab|fn _=>simp[D.bT]at ab|ty _=>simp[D.bT]at ab|_=>rfl
 |.ref _,b,n,m,aq,ab=>by simp[D.bT]at aq| .fn _,b,n,m,aq,ab=>by simp[D.bT]at aq| .ty _,b,n,m,aq,ab=>by simp[D.bT]at aq
theorem BG:∀(xs ys:List D)(n m:Nat),iC xs n=true->iC ys m=true->PyData.eqvAll (D.py.lE xs) (D.py.lE ys)=rh xs ys
 |[],ys,n,m,aq,ab=>by cases ys<;>rfl
 |x::xs,ys,n,m,aq,ab=>by
  cases ys with
  |nil=>rfl|cons y r=>
   rw[iC,aj5]at aq ab;show(aon x.py y.py&&PyData.eqvAll (D.py.lE xs) (D.py.lE r))=(jh x y&&rh xs r);rw[BF x y n m aq.1 ab.1,BG xs r n m aq.2 ab.2]
end
mutual
theorem IQ:∀(a:D)(n:Nat),a.bT n=true->a.py.canLay0=true/\a.py.depth<=n
 |.aQ,n,h=>⟨rfl,ajN _⟩
 |.aE _,n,h=>⟨rfl,ajN _⟩
 |.int _,n,h=>⟨rfl,ajN _⟩
 |.str _,n,h=>⟨h,ajN _⟩
 |.tup xs,n,h=>by
  cases n with
  |zero=>simp[D.bT]at h|succ k=>obtain⟨bq,b1⟩:=B1 xs k h;exact⟨bq,Nat.succ_le_succ b1⟩
 |.lst xs,n,h=>by
  cases n with
  |zero=>simp[D.bT]at h|succ k=>obtain⟨bq,b1⟩:=B1 xs k h;exact⟨bq,Nat.succ_le_succ b1⟩
 |.ref _,n,h=>by simp[D.bT]at h| .fn _,n,h=>by simp[D.bT]at h| .ty _,n,h=>by simp[D.bT]at h
theorem B1:∀(xs:List D)(n:Nat),iC xs n=true->PyData.canLayAll0 (D.py.lE xs)=true/\PyData.depthAll (D.py.lE xs)<=n
 |[],n,h=>⟨rfl,ajN _⟩
 |x::xs,n,h=>by
  rw[iC,aj5]at h;obtain⟨a1,a2⟩:=IQ x n h.1;obtain⟨bW,bY⟩:=B1 xs n h.2;exact⟨by show(x.py.canLay0&&PyData.canLayAll0 (D.py.lE xs))=true;rw[a1,bW];rfl,by show max x.py.depth (PyData.depthAll (D.py.lE xs))<=n;omega⟩
end
def x5{a:D}(h:a.bT 64=true):aoz a.py=true:=by
 obtain⟨af,ah⟩:=IQ a 64 h;show(a.py.canLay0&&decide (a.py.depth<=64))=true;rw[af,decide_eq_true ah];rfl
mutual
theorem Rep.py{O:a4}:∀{d:D}{v:V}{n:Nat},d.bT n=true->Rep K mg O H d v->aF.Rep K H d.py v
 |.aQ,_,_,_,h=>h|.aE _,_,_,_,h=>h|.int _,_,_,_,h=>h|.str _,_,_,_,h=>h|.tup _,_,n,g,h=>by
  cases n with
  |zero=>simp[D.bT]at g|succ k=>obtain⟨a,ys,q,l,r⟩:=h;exact⟨a,ys,q,l,bj.py (n:=k) g r⟩
 |.lst _,_,n,g,h=>by
  cases n with
  |zero=>simp[D.bT]at g|succ k=>obtain⟨a,ys,q,l,r⟩:=h;exact⟨a,ys,q,l.dH,bj.py (n:=k) g r⟩
 |.ref _,_,_,g,h=>by simp[D.bT]at g| .fn _,_,_,g,h=>by simp[D.bT]at g| .ty _,_,_,g,h=>by simp[D.bT]at g
theorem bj.py{O:a4}:∀{ds:List D}{ys:List V}{n:Nat},iC ds n=true->bj K mg O H ds ys->aF.bj K H (D.py.lE ds) ys
 |[],_,_,_,h=>h|_::_,_,n,g,h=>by
  rw[iC,aj5]at g;obtain⟨x,r,q,a,b⟩:=h;exact⟨x,r,q,Rep.py g.1 a,bj.py g.2 b⟩
end
def R.arg:R->D
 |.v d=>d|.fr xs=>.lst xs|.bF xs=>.lst xs|.mv xs=>.lst xs
def R.xa{K:aS}{mg:bt}{O:a4}{H:aw}{r:R}{v:V}{n:Nat}(g:r.arg.bT n=true)(h:eW K mg O H r v):aF.Rep K H r.arg.py v:=by
 have fo:∀xs,r.fo=some xs->(D.lst xs).bT n=true->aF.Rep K H (D.lst xs).py v:=λxs e g=>by
  obtain⟨a,ys,q,l,bw⟩:=R.ni h e
  cases n with
  |zero=>simp[D.bT]at g|succ k=>exact⟨a,ys,q,l,bj.py (n:=k) g bw⟩
 cases r with
 |v d=>exact Rep.py g h|fr xs=>exact fo xs rfl g|bF xs=>exact fo xs rfl g|mv xs=>exact fo xs rfl g
def oEq(x y:R):M R:=if x.arg.bT 64=true/\y.arg.bT 64=true then pure (.v (.aE (jh x.arg y.arg)))else bad
def eJ(x y:R):M R:=if x.arg.bT 64=true/\y.arg.bT 64=true then pure (.v (.aE (!jh x.arg y.arg)))else bad
section
variable{K:aS}{mg:bt}
def AQ:eh K mg (zD K false) oEq:=λO Y S ar H x y a9 bA bP av Q st ag ba h q=>by
 unfold oEq at h
 by_cases c:a9.arg.bT 64=true/\bA.arg.bT 64=true
 .rw[if_pos c]at h
  cases h;refine⟨_,_,R.xa c.1 ag,R.xa c.2 ba,x5 c.1,x5 c.2,?_⟩;rw[if_neg ajx,BF _ _ _ _ c.1 c.2];exact q O _ H (Go.refl _ _) st rfl trivial
 .rw[if_neg c]at h;cases h
def xf:eh K mg (zD K true) eJ:=λO Y S ar H x y a9 bA bP av Q st ag ba h q=>by
 unfold eJ at h
 by_cases c:a9.arg.bT 64=true/\bA.arg.bT 64=true
 .rw[if_pos c]at h
  cases h;refine⟨_,_,R.xa c.1 ag,R.xa c.2 ba,x5 c.1,x5 c.2,?_⟩;rw[if_pos rfl,BF _ _ _ _ c.1 c.2];exact q O _ H (Go.refl _ _) st rfl trivial
 .rw[if_neg c]at h;cases h
end
def R.pI:R->Bool
 |.v .aQ=>true|_=>false
def jK(x:R):R->M R
 |.v .aQ=>pure (.v (.aE x.pI))|_=>bad
def jL(x:R):R->M R
 |.v .aQ=>pure (.v (.aE (!x.pI)))|_=>bad
section
variable{K:aS}{mg:bt}
def J1{O:a4}{r:R}{v:V}(h:eW K mg O H r v):decide (v=.aQ)=r.pI:=by
 have no:∀{a:Addr},v=.ref a->decide (v=.aQ)=false:=λ{a} e=>by rw[e];exact decide_eq_false (by intro z;cases z)
 cases r with
 |v d=>
  cases d with
  |aQ=>exact decide_eq_true h|aE _=>rw[show v=_ from h];rfl|int _=>rw[show v=_ from h];rfl|str _=>rw[show v=_ from h];rfl|ty _=>rw[show v=_ from h];rfl|tup _=>obtain⟨a,_,e,_⟩:=h;exact no e
  |lst _=>obtain⟨a,_,e,_⟩:=h;exact no e
  |ref _=>obtain⟨a,e,_⟩:=h;exact no e
  |fn _=>obtain⟨a,e,_⟩:=h;exact no e
 |fr _=>obtain⟨a,_,e,_⟩:=h;exact no e
 |bF _=>obtain⟨a,_,e,_⟩:=h;exact no e
 |mv _=>obtain⟨a,_,e,_⟩:=h;exact no e
def F1:eh K mg (λx y H Q=>y=.aQ/\Q (.aE (decide (x=.aQ))) H) jK:=λO Y S ar H x y a9 bA bP av Q st ag ba h q=>by
 unfold jK at h;split at h
 .cases h;exact⟨ba,by rw[J1 ag];exact q O _ H (Go.refl _ _) st rfl trivial⟩
 .cases h
def F3:eh K mg (λx y H Q=>y=.aQ/\Q (.aE (!decide (x=.aQ))) H) jL:=λO Y S ar H x y a9 bA bP av Q st ag ba h q=>by
 unfold jL at h;split at h
 .cases h;exact⟨ba,by rw[J1 ag];exact q O _ H (Go.refl _ _) st rfl trivial⟩
 .cases h
end
def D.flat:D->Bool
 |.aQ=>true|.aE _=>true|.int _=>true|.str _=>true|_=>false
def inD(x:D)(xs:List D):Bool:=xs.any λy=>jh y x
def jg(neg:Bool)(x y:R):M R:=match x,y.seq with
 |.v d,some xs=>if d.flat=true/\xs.all D.flat=true then pure (.v (.aE (if neg then !inD d xs else inD d xs)))else bad|_,_=>bad
section
variable{K:aS}{mg:bt}
def IB{O:a4}{d:D}{v:V}(h:Rep K mg O H d v)(f:d.flat=true):m5 v=true:=by
 cases d with
 |aQ=>rw[show v=_ from h];rfl|aE _=>rw[show v=_ from h];rfl|int _=>rw[show v=_ from h];rfl|str _=>rw[show v=_ from h];rfl|_=>exact absurd (show false=true from f) ajx
def U3{O:a4}{d e:D}{v u:V}(h:Rep K mg O H d v)(h':Rep K mg O H e u)(f:d.flat=true)(qC:e.flat=true):m3 v u=jh d e:=by
 cases d with
 |aQ=>
  rw[show v=_ from h]
  cases e with
  |aQ=>rw[show u=_ from h'];rfl|aE _=>rw[show u=_ from h'];rfl|int _=>rw[show u=_ from h'];rfl|str _=>rw[show u=_ from h'];rfl|_=>exact absurd (show false=true from qC) ajx
 |aE _=>
  rw[show v=_ from h]
  cases e with
  |aQ=>rw[show u=_ from h'];rfl|aE _=>rw[show u=_ from h'];rfl|int _=>rw[show u=_ from h'];rfl|str _=>rw[show u=_ from h'];rfl|_=>exact absurd (show false=true from qC) ajx
 |int _=>
  rw[show v=_ from h]
  cases e with
  |aQ=>rw[show u=_ from h'];rfl|aE _=>rw[show u=_ from h'];rfl|int _=>rw[show u=_ from h'];rfl|str _=>rw[show u=_ from h'];rfl|_=>exact absurd (show false=true from qC) ajx
 |str _=>
  rw[show v=_ from h]
  cases e with
  |aQ=>rw[show u=_ from h'];rfl|aE _=>rw[show u=_ from h'];rfl|int _=>rw[show u=_ from h'];rfl|str _=>rw[show u=_ from h'];rfl|_=>exact absurd (show false=true from qC) ajx
 |_=>exact absurd (show false=true from f) ajx
theorem JV{O:a4}{d:D}{v:V}(h:Rep K mg O H d v)(f:d.flat=true):∀{ds:List D}{ys:List V},bj K mg O H ds ys->ds.all D.flat=true->ys.all m5=true/\CI v ys=inD d ds
 |[],ys,r,_=>by cases r;exact⟨rfl,rfl⟩
 |e::ds,ys,r,g=>by
  obtain⟨y,t,rfl,bB,b_⟩:=r;rw[amd,aj5]at g;obtain⟨bq,b1⟩:=JV h f b_ g.2;refine⟨by rw[amd,IB bB g.1,bq];rfl,?_⟩;show(y::t).any (λz=>m3 z v)=(e::ds).any λz=>jh z d
  rw[ak9,ak9,U3 bB h g.1 f];exact congrArg _ b1
def FZ(neg:Bool):eh K mg (Mz K neg) (jg neg):=λO Y S ar H x y a9 bA bP av Q st ag ba h q=>by
 unfold jg at h;split at h
 .rename_i d xs e
  by_cases c:d.flat=true/\xs.all D.flat=true
  .rw[if_pos c]at h
   cases h;obtain⟨a,ys,rfl,l,bw⟩:=R.zI ba e;obtain⟨f1,f2⟩:=JV ag c.1 bw c.2;exact⟨a,ys,rfl,l,IB ag c.1,f1,by rw[f2];exact q O _ H (Go.refl _ _) st rfl trivial⟩
  .rw[if_neg c]at h;cases h
 .cases h
end
inductive fX where
 |bo (Y:aR)|cZ (r:R)|cG (Y:aR)|ct (Y:aR)
abbrev a3:=aR->M fX
def Fix(o:gM):Prop:=(∃xs,o=.tup xs)\/∃bC u,o=.cj bC u
structure ei(O aj:a4)(H H':aw):Prop where
 cells:∀b o,H b=some o->(O b=.free\/O b=.out\/Fix o)->(h:oy o:=by exact trivial)->H' b=some o
 own:∀b,H b≠none->(O b=.free\/O b=.out)->aj b=O b
 has:∀b,H b≠none->H' b≠none
 cU:∀b ps,H b=some (.gp ps)->∃kM,H' b=some (.gp kM)
 bT:TabsOk H->TabsOk H'
 bJ:aj.bJ=O.bJ
def Go.aD{O aj:a4}(g:Go O aj H H'):ei O aj H H':=⟨λb o e _ n=>g.same.at' b o e n,λb h _=>g.own b h,λ_ h=>g.same.some h,g.same.cU,g.same.bT,g.bJ⟩
def ei.refl(O:a4)(H:aw):ei O O H H:=(Go.refl O H).aD
def ei.trans{O aL bu:a4}(a:ei O aL H H1)(b:ei aL bu H1 aM):ei O bu H aM:=by
 have Oa:∀{b:Addr}{o:gM},H b=some o->H b≠none:=λe z=>by rw[e]at z;cases z
 refine⟨λc o e h n=>?_,λc h f=>?_,λc h=>b.has c (a.has c h),λc ps h=>let⟨p1,ao⟩:=a.cU c ps h;b.cU c p1 ao,λg=>b.bT (a.bT g),b.bJ.trans a.bJ⟩
 .have ao:=a.cells c o e h n
  rcases h with h|h|h
  .exact b.cells c o ao (.inl ((a.own c (Oa e) (.inl h)).trans h)) n
  .exact b.cells c o ao (.inr (.inl ((a.own c (Oa e) (.inr h)).trans h))) n
  .exact b.cells c o ao (.inr (.inr h)) n
 .have ao:=a.own c h f
  rw[b.own c (a.has c h) (by rw[ao];exact f),ao]
def e4(Y Y':aR)(ar dc:St):Prop:=(∀(i:Nat)(xs:List D),Y'[i]? = some (Slot.bF xs)->Y[i]? = some (Slot.bF xs)/\dc[i]? = ar[i]?)/\
 (∀(i:Nat)(ys:List D),Y'[i]? = some (Slot.c7 true ys)->(∃xs,Y[i]? = some (Slot.c7 true xs))/\dc[i]? = ar[i]?)
def e4.refl(Y:aR)(ar:St):e4 Y Y ar ar:=⟨λ_ _ h=>⟨h,rfl⟩,λ_ _ h=>⟨⟨_,h⟩,rfl⟩⟩
def e4.trans{v v1 v2:St}(a:e4 Y h6 v v1)(b:e4 h6 dQ v1 v2):e4 Y dQ v v2:=⟨λi xs h=>⟨(a.1 i xs (b.1 i xs h).1).1,(b.1 i xs h).2.trans (a.1 i xs (b.1 i xs h).1).2⟩,λi ys h=>by
 obtain⟨⟨xs,e⟩,q⟩:=b.2 i ys h;obtain⟨z,fp⟩:=a.2 i xs e;exact⟨z,q.trans fp⟩⟩
def e4.put{Y:aR}(h0:Y[i]? = some s0)(bI:∀xs,s≠.bF xs)(bg:∀xs,s=.c7 true xs->∃ys,s0=.c7 true ys):e4 Y (Y.set i s) ar ar:=by
 have fx:i<Y.length:=(ajs.mp h0).1;have key:∀(j:Nat)(t:Slot),(Y.set i s)[j]? = some t->(i=j/\t=s)\/(i≠j/\Y[j]? = some t):=λj t h=>by
  by_cases aW:i=j
  .subst aW
   rw[akm fx]at h;exact .inl ⟨rfl,(ajT h).symm⟩
  .rw[ajE aW]at h
   exact .inr ⟨aW,h⟩
 refine⟨λj xs h=>?_,λj ys h=>?_⟩
 .rcases key j _ h with⟨_,e⟩|⟨_,e⟩
  .exact absurd e.symm (bI xs)
  .exact⟨e,rfl⟩
 .rcases key j _ h with⟨rfl,e⟩|⟨_,e⟩
  .obtain⟨zs,cz⟩:=bg ys e.symm
   exact⟨⟨zs,cz▸h0⟩,rfl⟩
  .exact⟨⟨_,e⟩,rfl⟩
def Ax(K:aS)(mg:bt)(O:a4)(H:aw):R->V->Prop
 |.v d,v=>Rep K mg O H d v|.fr xs,v=>∃a ys,v=.ref a/\H a=some (.lst ys)/\(O a=.dw\/∃i,O a=.loc i)/\bj K mg O H xs ys|_,_=>False
def nS(K:aS)(mg:bt)(O:a4)(Y:aR)(av:cA)(ar:St)(H:aw)(Y':aR)(N:St->aw->Prop):Prop:=
 ∀aj dc H',ei O aj H H'->cy K mg aj Y' av dc H'->e4 Y Y' ar dc->N dc H'
def w4(K:aS)(mg:bt)(O:a4)(Y:aR)(av:cA)(ar:St)(H:aw)(a_:fX)(hJ:Ends):Prop:=match a_ with
 |.bo Y'=>nS K mg O Y av ar H Y' hJ.bo|.cG Y'=>nS K mg O Y av ar H Y' hJ.cG|.ct Y'=>nS K mg O Y av ar H Y' hJ.ct|.cZ r=>∀aj v H',ei O aj H H'->c5 aj H'->gu K mg aj H' av->Ax K mg aj H' r v->hJ.cZ v H'
def nS.aD{O aL:a4}{N:St->aw->Prop}(h:nS K mg O Y av ar H Y' N)(g:ei O aL H H1)(k:e4 Y h6 ar wO):nS K mg aL h6 av wO H1 Y' N:=
 λaj dc H' g' st mj=>h aj dc H' (g.trans g') st (k.trans mj)
def w4.aD{O aL:a4}(h:w4 K mg O Y av ar H a_ hJ)(g:ei O aL H H1)(k:e4 Y h6 ar wO):w4 K mg aL h6 av wO H1 a_ hJ:=by
 cases a_ with
 |bo Y'=>exact nS.aD h g k|cG Y'=>exact nS.aD h g k|ct Y'=>exact nS.aD h g k|cZ r=>exact λaj v H' g' d e r=>h aj v H' (g.trans g') d e r
def ki(K:aS)(mg:bt)(m:a3):hh:=λhJ ar H=>o_ K mg m ar H λO Y av a_=>w4 K mg O Y av ar H a_ hJ
abbrev Fs(X:aU)(st:Stmt)(m:a3):Prop:=iK X st (ki X.K X.mg m)
abbrev rL(X:aU)(tu:List Stmt)(m:a3):Prop:=iL X tu (ki X.K X.mg m)
def g5{t t':hh}(h:iK X s t)(i:∀D Y H,t' D Y H->t D Y H):iK X s t':=λzn s Y H D J q=>h zn s Y H D J (i _ _ _ q)
def zv{t t':hh}(h:iL X s t)(i:∀D Y H,t' D Y H->t D Y H):iL X s t':=λzn s Y H D J q=>h zn s Y H D J (i _ _ _ q)
@[simp] def cq(Y:aR):M fX:=pure (.bo Y)
def ub:a3:=λ_=>bad
@[simp] def bZ(a b:a3)(Y:aR):M fX:=do
 let a_ <-a Y
 match a_ with
 |.bo Y'=>b Y'|a_=>pure a_
@[simp] def bG(m:bp)(Y:aR):M fX:=do
 let r <-m Y
 match r with
 |.v d=>pure (.cZ (.v d))|.fr xs=>pure (.cZ (.fr xs))|_=>bad
@[simp] def xw(i:Nat)(Y:aR):M fX:=match Y[i]? with
 |some (.c7 false xs)=>pure (.cZ (.fr xs))|_=>bad
@[simp] def cW(t:aR->M Bool)(a b:a3)(Y:aR):M fX:=do
 let t <-t Y
 if t=true then a Y else b Y
@[simp] def b7(i:Nat)(m:bp)(Y:aR):M fX:=do
 let r <-m Y
 let d <-r.dat
 pure (.bo (Y.set i (.v d)))
@[simp] def jB(i:Nat)(m:bp)(Y:aR):M fX:=do
 let r <-m Y
 match r with
 |.fr xs=>pure (.bo (Y.set i (.c7 false xs)))|_=>bad
section
variable{st:Stmt}{a b:a3}{e:Expr}{m:bp}
theorem MN{O:a4}{r:R}{v:V}(h:eW K mg O H r v)(aB:(∃d,r=.v d)\/∃xs,r=.fr xs):Ax K mg O H r v:=by
 rcases aB with⟨d,rfl⟩|⟨xs,rfl⟩
 .exact h
 .obtain⟨a,ys,q,l,t,bw⟩:=h;exact⟨a,ys,q,l,.inl t,bw⟩
theorem cy.set{O:a4}{Y:aR}{ar:St}{v:V}(st:cy K mg O Y S ar H)(h:jx K mg O H (.loc i) s (some v)):cy K mg O (Y.set i s) S (ar.set i (some v)) H:=by
 refine⟨st.cg,by rw[akj,akj];exact st.len,λj t e=>?_,st.gK⟩
 by_cases aW:i=j
 .subst aW
  have au:i<Y.length:=by
   have:=(ajs.mp e).1
   rwa[akj]at this
  rw[akm au]at e;cases e;rw[akm (by rw[<-st.len];exact au)];exact h
 .rw[ajE aW]at e
  rw[ajE aW];exact st.loc j t e
theorem e4.set{Y:aR}{ar:St}{v:Option V}(aC:∀xs,s≠.bF xs)(bO:∀xs,s≠.c7 true xs:=by intro xs z;cases z):e4 Y (Y.set i s) ar (ar.set i v):=by
 have key:∀(j:Nat)(t:Slot),(Y.set i s)[j]? = some t->t≠s->Y[j]? = some t/\(ar.set i v)[j]? = ar[j]?:=λj t h hV=>by
  by_cases aW:i=j
  .subst aW
   have au:i<Y.length:=by
    have:=(ajs.mp h).1
    rwa[akj]at this
   rw[akm au]at h;exact absurd (ajT h).symm hV
  .rw[ajE aW]at h ⊢
   exact⟨h,rfl⟩
 refine⟨λj xs h=>key j _ h (λz=>aC xs z.symm),λj ys h=>?_⟩;obtain⟨a,b⟩:=key j _ h (λz=>bO ys z.symm);exact⟨⟨ys,a⟩,b⟩
theorem cy.own{K:aS}{mg:bt}{O:a4}{Y:aR}{S:cA}{ar:St}{H:aw}{i:Nat}{a:Addr}{xs:List D}{ys:List V}(st:cy K mg O Y S ar H)(bO:O a=.dw)(au:H a=some (.lst ys))(aB:bj K mg O H xs ys) :
  cy K mg (fV O a (.loc i)) (Y.set i (.c7 false xs)) S (ar.set i (some (.ref a))) H:=by
 have ne:∀{b:Addr}{w:Own},O b=w->w≠.dw->fV O a (.loc i) b=w:=λ{b w} h hw=>by
  rw[oP];exact h;rintro rfl;exact hw (h.symm.trans bO)
 have dr:mQ O (fV O a (.loc i)):=⟨λb h=>ne h (by intro z;cases z),rfl⟩;have aT:cy K mg (fV O a (.loc i)) Y S ar H:=by
  refine⟨⟨λb ab=>?_,st.cg.tabs,st.cg.cn.1,λb m=>ne (st.cg.cn.2 b m) (by intro z;cases z)⟩,st.len,λj s e=>(st.loc j s e).dr dr (λb h=>ne h (by intro z;cases z)) (λb h=>ne h (by intro z;cases z)),st.gK.all (λ_ _ z=>Rep.dr dr z) rfl λ_ _ _ l _=>l⟩
  by_cases e:b=a
  .rw[e,au];intro z;cases z
  .rw[oP e]at ab;exact st.cg.has b ab
 exact aT.set ⟨a,ys,rfl,nJ,au,aB.dr dr⟩
theorem ei.dw{O:a4}{H:aw}{a:Addr}{w:Own}(bO:O a=.dw):ei O (fV O a w) H H:=by
 refine⟨λb o e _ _=>e,λb h f=>?_,λ_ h=>h,λ_ ps h=>⟨ps,h⟩,id,rfl⟩;rw[oP];rintro rfl;rw[bO]at f;rcases f with z|z<;>cases z
theorem N7{te:TE}(aA:∀Y H Q,fs K mg m Y H Q->te Y H Q):∀D ar H,ki K mg (b7 i m) D ar H->tv te (lj i) D ar H:=by
 rintro D ar H ⟨O,Y,S,a_,av,st,h,q⟩;obtain⟨r,S1,af,h⟩:=M.inv h;obtain⟨d,a6,ah,h⟩:=M.inv h;cases h;refine aA ar H _ ⟨O,Y,S,r,S1,st,af,λaL v H1 g1 aT br nn=>?_⟩;obtain⟨bh,rfl⟩:=pn (H₀:=H) br nn ah;exact q (cj H aL) _ H1 g1.cj.aD ((aT.cj H).set ⟨v,rfl,bh⟩) (e4.set λxs z=>by cases z)
theorem L4{te:TE}(aA:∀Y H Q,fs K mg m Y H Q->te Y H Q):∀D ar H,ki K mg (jB i m) D ar H->tv te (lj i) D ar H:=by
 rintro D ar H ⟨O,Y,S,a_,av,st,h,q⟩;obtain⟨r,S1,af,h⟩:=M.inv h;split at h
 .rename_i xs
  cases h;refine aA ar H _ ⟨O,Y,S,_,_,st,af,λaL v H1 g1 aT br nn=>?_⟩;obtain⟨a,ys,rfl,l,t,bw⟩:=br;exact q _ _ H1 (g1.aD.trans (ei.dw t)) (aT.own t l bw) (e4.set λxs z=>by cases z)
 .cases h
end
@[simp] def HI(i:Nat)(f:List D->List R->M (R×List D))(ms:cV)(Y:aR):M (R×aR):=do
 let rs <-ms Y
 match Y[i]? with
 |some (.c7 p xs)=>do
  let(r,ys) <-f xs rs
  pure (r,Y.set i (.c7 p ys))
 |_=>bad
@[simp] def j0(i:Nat)(f:List D->List R->M (R×List D))(ms:cV)(Y:aR):M fX:=do
 let(_,Y') <-HI i f ms Y
 pure (.bo Y')
def hH(xs:List D):List R->M (R×List D)
 |[r]=>do
  let d <-r.dat
  hR (xs.length<ajt)
  pure (.v .aQ,xs++[d])
 |_=>bad
def wx(xs:List D):List R->M (R×List D)
 |[r]=>match r.own with
  |some ys=>do
   hR (xs.length+ys.length<=ajt)
   pure (.v .aQ,xs++ys)
  |none=>bad
 |_=>bad
section
variable{K:aS}{mg:bt}{O:a4}{H:aw}{l:Addr}{zs ws:List V}
mutual
theorem Rep.eg(bg:O l≠.free)(au:H l=some (.lst zs)):∀{d:D}{v:V},Rep K mg O H d v->Rep K mg O (upd H l (.lst ws)) d v
 |.aQ,_,h=>h|.aE _,_,h=>h|.int _,_,h=>h|.str _,_,h=>h|.tup _,_,h=>by
  obtain⟨a,ys,q,t,r⟩:=h;refine⟨a,ys,q,?_,bj.eg bg au r⟩;rcases t with(t|⟨o,t⟩)|t
  .exact .inl (.inl (by rw[df (DF t au (by intro z;cases z))];exact t))
  .exact .inl (.inr ⟨o,by rw[df (DF t au (by intro z;cases z))];exact t⟩)
  .exact .inr t
 |.lst _,_,h=>by
  obtain⟨a,ys,q,t,r⟩:=h;exact⟨a,ys,q,⟨by rw[df (by rintro rfl;exact bg t.2)];exact t.1,t.2⟩,bj.eg bg au r⟩
 |.ref _,_,h=>h|.fn _,_,h=>h|.ty _,_,h=>h
theorem bj.eg(bg:O l≠.free)(au:H l=some (.lst zs)):∀{ds:List D}{ys:List V},bj K mg O H ds ys->bj K mg O (upd H l (.lst ws)) ds ys
 |[],_,h=>h| _::_,_,h=>by obtain⟨x,r,q,a,b⟩:=h;exact⟨x,r,q,Rep.eg bg au a,bj.eg bg au b⟩
end
def h8.eg(bg:O l≠.free)(ik:O l≠.out)(h:h8 K O H a ys):h8 K O (upd H l (.lst ws)) a ys:=by
 rcases h with⟨h,f⟩|h
 .have ne:a≠l:=by rintro rfl;exact f.elim bg ik
  refine .inl ⟨?_,f⟩;rcases h with h|⟨o,h⟩
  .exact .inl (by rw[df ne];exact h)
  .exact .inr ⟨o,by rw[df ne];exact h⟩
 .exact .inr h
def jx.eg(bg:O l≠.free)(ik:O l≠.out)(hw:O l≠w)(au:H l=some (.lst zs)):∀{s:Slot}{u:Option V},jx K mg O H w s u->jx K mg O (upd H l (.lst ws)) w s u
 |.e,_,_=>trivial| .v _,_,h=>by obtain⟨v,q,r⟩:=h;exact⟨v,q,r.eg bg au⟩
 |.c7 _ _,_,h=>by obtain⟨a,ys,q,o,t,r⟩:=h;exact⟨a,ys,q,o,by rw[df (by rintro rfl;exact hw o)];exact t,r.eg bg au⟩
 |.bF _,_,h=>by obtain⟨a,ys,q,t,r⟩:=h;exact⟨a,ys,q,t.eg bg ik,r.eg bg au⟩
def c5.eg(d:c5 O H)(au:H l=some (.lst zs)):c5 O (upd H l (.lst ws)):=⟨λa aq=>by
 by_cases e:a=l
 .rw[e,dx];intro z;cases z
 .rw[df e];exact d.has a aq,d.tabs.lst au _,d.cn⟩
def ei.eg(bg:O l≠.free)(ik:O l≠.out)(au:H l=some (.lst zs)):ei O O H (upd H l (.lst ws)):=by
 refine⟨λb o e h _=>?_,λ_ _ _=>rfl,λb h=>?_,λb ps e=>⟨ps,by rw[df (by rintro rfl;rw[au]at e;cases e)];exact e⟩,λg=>g.lst au _,rfl⟩
 .rw[df]
  .exact e
  .rintro rfl
   rcases h with h|h|⟨xs,h⟩|⟨_,_,h⟩
   .exact bg h
   .exact ik h
   .subst h;rw[e]at au;cases au
   .subst h;rw[e]at au;cases au
 .by_cases e:b=l
  .rw[e,dx];intro z;cases z
  .rw[df e];exact h
def gu.eg(s:gu K mg O H S)(cL:c5 O H)(bg:O l≠.free)(ik:O l≠.out)(au:H l=some (.lst zs)):gu K mg O (upd H l (.lst ws)) S:=
 s.all (λ_ _ z=>Rep.eg bg au z) rfl λa h u e _=>by rw[df (by rintro rfl;exact ik (cL.cn.2 _ h))];exact e
def cy.eg{Y:aR}{ar:St}(st:cy K mg O Y S ar H)(aA:Y[i]? = some (.c7 p xs))(bI:ar[i]?.join=some (.ref l))(bg:O l=.loc i)(au:H l=some (.lst zs))(aB:bj K mg O H ys ws) :
  cy K mg O (Y.set i (.c7 p ys)) S ar (upd H l (.lst ws)):=by
 have ne:∀w:Own,w≠.loc i->O l≠w:=λw hw z=>hw (z.symm.trans bg)
 refine⟨st.cg.eg au,by rw[akj];exact st.len,λj t e=>?_,st.gK.eg st.cg (ne _ (by intro z;cases z)) (ne _ (by intro z;cases z)) au⟩
 by_cases aW:i=j
 .subst aW
  have fx:i<Y.length:=(ajs.mp aA).1;rw[akm fx]at e;cases e;exact⟨l,ws,bI,bg,dx,aB.eg (ne _ (by intro z;cases z)) au⟩
 .rw[ajE aW]at e
  exact(st.loc j t e).eg (ne _ (by intro z;cases z)) (ne _ (by intro z;cases z)) (ne _ (by intro z;cases z;exact aW rfl)) au
end
def tO(K:aS)(mg:bt)(r:V->List V->aw->c9->Prop)(f:List D->List R->M (R×List D)):Prop:=
 ∀O H H₀ l xs zs rs vs S av bP ys (Q:c9),H l=some (.lst zs)->bj K mg O H xs zs->gq K mg O H rs vs->km H₀ rs vs->(f xs rs).run S=.ok (bP,ys) av->
  (∀v ws,S=av->bj K mg (cj H₀ O) H ys ws->(∃d,bP=.v d/\Rep K mg (cj H₀ O) H d v)->Q v (upd H l (.lst ws)))->r (.ref l) vs H Q
section
variable{K:aS}{mg:bt}
def yQ:tO K mg Mw hH:=λO H H₀ l xs zs rs vs S av bP ys Q au ag aB aG h q=>by
 unfold hH at h;split at h
 .rename_i r
  obtain⟨v,rfl,bR⟩:=lF aB;obtain⟨d,S1,af,h⟩:=M.inv h;obtain⟨_,a6,ah,h⟩:=M.inv h;obtain⟨c,rfl⟩:=qy ah;obtain⟨bh,rfl⟩:=pn (H₀:=H₀) bR aG.1 af;cases h;exact⟨l,zs,v,rfl,rfl,au,by rw[ag.len];exact c,q .aQ _ rfl ((ag.dr (ja _ _)).append (.one bh)) ⟨.aQ,rfl,rfl⟩⟩
 .cases h
def ZD:tO K mg My wx:=λO H H₀ l xs zs rs vs S av bP ys Q au ag aB aG h q=>by
 unfold wx at h;split at h
 .rename_i r
  obtain⟨v,rfl,bR⟩:=lF aB;split at h
  .rename_i us e
   obtain⟨_,a6,ah,h⟩:=M.inv h;obtain⟨c,rfl⟩:=qy ah;cases h;obtain⟨b,ws,rfl,cv,b_⟩:=R.D4 bR e;exact⟨l,b,zs,ws,rfl,rfl,au,cv,by rw[ag.len,b_.len];exact c,q .aQ _ rfl ((ag.append b_).dr (ja _ _)) ⟨.aQ,rfl,rfl⟩⟩
  .cases h
 .cases h
variable{f:List D->List R->M (R×List D)}{r:V->List V->aw->c9->Prop}{ms:cV}{i:Nat}
def ZY(hf:tO K mg r f){O:a4}{Y Y':aR}{S av:cA}{ar:St}{H:aw}{bP:R}{Q:c9}(st:cy K mg O Y S ar H)(h:(HI i f ms Y).run S=.ok (bP,Y') av)
  (q:∀aj v H',ei O aj H H'->cy K mg aj Y' av ar H'->e4 Y Y' ar ar->(∃d,bP=.v d/\Rep K mg aj H' d v)->Q v H') :
  ∃v,ar[i]? = some (some v)/\zZ K "list" v H/\nH K mg ms ar H λvs aM=>r v vs aM Q:=by
 obtain⟨rs,S1,af,h⟩:=M.inv h
 cases e:Y[i]? with
 |none=>rw[e]at h;cases h
 |some s=>
  rw[e]at h
  cases s with
  |e=>cases h
  |v _=>cases h
  |bF _=>cases h
  |c7 p xs=>
   obtain⟨⟨b_,ys⟩,a6,ah,h⟩:=M.inv h;cases h;obtain⟨a,zs,ao,az,cI,e6⟩:=st.loc i _ e;have ev:ar[i]? = some (some (.ref a)):=by
    cases w:ar[i]? with
    |none=>rw[w]at ao;cases ao
    |some y=>rw[w]at ao;exact congrArg some ao
   refine⟨.ref a,ev,.inl ⟨rfl,_,dn.of cI⟩,O,Y,S,rs,S1,st,af,λaL vs H1 g1 aT br nn=>?_⟩;have xK:=g1.same.at' _ _ cI;have aG:H a≠none:=by rw[cI];intro z;cases z
   have UQ:aL a=.loc i:=(g1.own a aG).trans az;refine hf aL H1 H a xs zs rs vs S1 _ _ ys Q xK (e6.go g1) br nn ah λv ws ay bw aX=>?_
   obtain⟨d,dX,bh⟩:=aX;subst ay;have s_:cj H aL a=.loc i:=by rw[xZ aG];exact UQ
   have no:∀w:Own,w≠.loc i->cj H aL a≠w:=λw hw z=>hw (z.symm.trans s_)
   refine q (cj H aL) v _ (g1.cj.aD.trans (ei.eg (no _ (by intro z;cases z)) (no _ (by intro z;cases z)) xK)) ((aT.cj H).eg e (by rw[ev];rfl) s_ xK bw) ?_ ⟨d,dX,bh.eg (no _ (by intro z;cases z)) xK⟩;have fx:i<Y.length:=(ajs.mp e).1;exact e4.put e (λxs z=>by cases z) (λ_ z=>by cases z;exact⟨xs,rfl⟩)
end
def wY(cm:iy)(O:a4)(H:aw)(ys:List V):Prop:=∀bu aM,ei O bu H aM->∀i,(i<ys.length->cm.go i aM/\∀x H',cm.oU i aM x H'->H'=aM/\ys[i]? = some x)/\(ys.length<=i->cm.stop i aM)
abbrev fi:=aR->M (List D)
def qa(K:aS)(mg:bt)(m:fi):TI:=λar H R=>o_ K mg m ar H λO Y av xs=>∀aj H' cm ys,Go O aj H H'->cy K mg aj Y av ar H'->wX cm H' ys->bj K mg aj H' xs ys->R cm H'
def wt(K:aS)(mg:bt)(m:fi):TI:=λar H R=>o_ K mg m ar H λO Y av xs=>∀aj H' cm ys,Go O aj H H'->cy K mg aj Y av ar H'->wY cm aj H' ys->bj K mg aj H' xs ys->R cm H'
abbrev Fp(X:aU)(ck iter:Expr)(m:fi):Prop:=ko X ck iter (qa X.K X.mg m)
abbrev Pu(X:aU)(ck iter:Expr)(m:fi):Prop:=ko X ck iter (wt X.K X.mg m)
def oG{ck e:Expr}{t t':TI}(h:ko X ck e t)(i:∀Y H Q,t' Y H Q->t Y H Q):ko X ck e t':=λzn s Y H Q J q=>h zn s Y H Q J (i _ _ _ q)
def ei.wj{O aj:a4}(g:ei O aj H H')(h:dI K H a ys):dI K H' a ys:=by
 rcases h with(h|⟨o,h⟩)|h
 .exact .inl (.inl (g.cells _ _ h (.inr (.inr (.inl ⟨_,rfl⟩)))))
 .exact .inl (.inr ⟨o,g.cells _ _ h (.inr (.inr (.inr ⟨_,_,rfl⟩)))⟩)
 .exact .inr h
def ei.K9{O aj:a4}(g:ei O aj H H')(h:h8 K O H a ys):h8 K aj H' a ys:=by
 rcases h with⟨h,f⟩|h
 .refine .inl ⟨?_,by rw[g.own a (f3.some h) f];exact f⟩
  rcases h with h|⟨o,h⟩
  .exact .inl (g.cells _ _ h (f.elim .inl λz=>.inr (.inl z)))
  .exact .inr ⟨o,g.cells _ _ h (f.elim .inl λz=>.inr (.inl z))⟩
 .exact .inr h
@[simp] def hX(m:bp)(Y:aR):M (List D):=do
 let r <-m Y
 match r with
 |.v (.tup xs)=>pure xs|_=>bad
@[simp] def CG(m:bp)(Y:aR):M (List D):=do
 let r <-m Y
 match r with
 |.v (.lst xs)=>pure xs|.fr xs=>pure xs|.bF xs=>pure xs|_=>bad
@[simp] def kH(m:bp)(Y:aR):M (List D):=do
 let r <-m Y
 match r.fo with
 |some xs=>pure xs|none=>bad
def h1(lo:Int)(n:Nat):List D:=(ajI n).map λi=>D.int (lo+(i:Nat))
@[simp] def iE(m:cV)(Y:aR):M (List D):=do
 let rs <-m Y
 match rs with
 |[.v (.int j)]=>if -(2 ^ 62)<=j/\j<2 ^ 62 then pure (h1 0 j.toNat)else bad|_=>bad
def MT{O:a4}(lo:Int)(n:Nat):bj K mg O H (h1 lo n) (nF lo n):=by
 unfold h1 nF
 induction(ajI n)with
 |nil=>rfl|cons a r a8=>exact⟨.int (lo+a),_,rfl,rfl,a8⟩
def Yt{O:a4}(lo:Int)(n:Nat):wY (o4 lo n) O H (nF lo n):=λbu aM _ i=>CO (H:=aM) lo n aM (eE.refl _) i
section
variable{a:Expr}{ms:cV}
def MR:(∀ar H R,wt K mg (iE ms) ar H R->CH (nH K mg ms) ar H R)/\(∀ar H R,qa K mg (iE ms) ar H R->CH (nH K mg ms) ar H R):=by
 constructor<;>
 .rintro ar H R ⟨O,Y,S,xs,av,st,h,q⟩
  obtain⟨rs,S1,af,h⟩:=M.inv h;split at h
  .rename_i j
   by_cases c:-(2 ^ 62)<=j/\j<2 ^ 62
   .rw[if_pos c]at h
    cases h;refine⟨O,Y,S,_,_,st,af,λaL vs H1 g1 aT br nn=>?_⟩;obtain⟨v,rfl,bR⟩:=lF br;cases(show v=.int j from bR);exact⟨j,rfl,c.1,c.2,q aL H1 (o4 0 j.toNat) (nF 0 j.toNat) g1 aT (by first|exact Yt _ _|exact CO _ _) (MT _ _)⟩
   .rw[if_neg c]at h;cases h
  .cases h
def CN{K:aS}{O:a4}{H:aw}{a:Addr}{xs:List V}(h:h8 K O H a xs):wY (lM K a) O H xs:=λbu aM g i=>CM (g.K9 h).dH aM (eE.refl _) i
def Yw{K:aS}{O:a4}{H:aw}{a:Addr}{xs:List V}(h:dI K H a xs):wY (rP K a) O H xs:=λbu aM g i=>J3 (g.wj h) aM (eE.refl _) i
end
def hk(b:D->a3):List D->a3
 |[]=>λY=>pure (.bo Y)
 |d::ds=>λY=>do
  let a_ <-b d Y
  match a_ with
  |.bo Y'=>hk b ds Y'|.ct Y'=>hk b ds Y'|.cG Y'=>pure (.bo Y')|.cZ r=>pure (.cZ r)
@[simp] def nU(i:Nat)(it:fi)(b:a3)(Y:aR):M fX:=do
 let ds <-it Y
 hk (λd Y=>b (Y.set i (.v d))) ds Y
def cy.val{O:a4}{Y:aR}{ar:St}{v:V}(st:cy K mg O Y S ar H)(h:Rep K mg O H d v):cy K mg O (Y.set i (.v d)) S (ar.set i (some v)) H:=st.set ⟨v,rfl,h⟩
def bj.aD{O aj:a4}(g:ei O aj H H'):∀{ds:List D}{ys:List V},bj K mg O H ds ys->bj K mg aj H' ds ys:=by
 have rep:∀(d:D)(v:V),Rep K mg O H d v->Rep K mg aj H' d v:=by
  intro d
  induction d using D.rec (motive_2:=λds=>∀ys,bj K mg O H ds ys->bj K mg aj H' ds ys)with
  |aQ=>exact λv h=>h
  |aE _=>exact λv h=>h
  |int _=>exact λv h=>h
  |str _=>exact λv h=>h
  |fn _=>exact λv h=>h
  |ty _=>exact λv h=>h
  |ref n=>exact λv ⟨a,q,l⟩=>⟨a,q,by rw[g.bJ];exact l⟩
  |tup xs a8=>exact λv ⟨a,ys,q,l,r⟩=>⟨a,ys,q,g.wj l,a8 ys r⟩
  |lst xs a8=>exact λv ⟨a,ys,q,l,r⟩=>⟨a,ys,q,⟨g.cells _ _ l.1 (.inl l.2),by rw[g.own a (by rw[l.1];intro z;cases z) (.inl l.2)];exact l.2⟩,a8 ys r⟩
  |nil=>assumption|cons x xs u6 u7=>
   rename_i zs hz;obtain⟨y,r,q,a,b⟩:=hz;exact⟨y,r,q,u6 y a,u7 r b⟩
 intro ds
 induction ds with
 |nil=>exact λh=>h
 |cons x xs a8=>rintro ys ⟨y,r,q,a,b⟩;exact⟨y,r,q,rep x y a,a8 b⟩
section
variable{it:fi}{i:Nat}{b:a3}{x:Str}
def bj.get'{O:a4}{ds:List D}{ys:List V}{k:Nat}(h:bj K mg O H ds ys)(e:ds.drop k=d::m2):∃y,ys[k]? = some y/\Rep K mg O H d y/\ds.drop (k+1)=m2:=by
 have ao:ds[k]? = some d:=by
  have:=congrArg (·[0]?) e;simpa using this
 obtain⟨y,q,r⟩:=h.get ao;refine⟨y,q,r,?_⟩;have:=congrArg (anj 1) e;simpa[al7]using this
theorem IF{G:i'}{B:a0.D->a3}(pz:∀O Y S ar H d y f a6 Q,cy K mg O Y S ar H->Rep K mg O H d y->(B d Y).run S=.ok f a6->(∀ix kj,cy K mg O ix S kj H->e4 Y ix ar kj->(b ix).run S=.ok f a6->Q kj H)->G y ar H Q) :
  ∀D ar H,ki K mg (λY=>do
   let ds <-it Y
   hk B ds Y) D ar H->rt (wt K mg it) G (ki K mg b) D ar H:=by
 rintro D ar H ⟨O,Y,S,a_,av,st,h,q⟩;obtain⟨ds,S1,af,h⟩:=M.inv h;refine⟨O,Y,S,ds,S1,st,af,λaL H1 cm ys g1 aT its bw=>?_⟩;refine⟨λk m dc H'=>m=ys.length-k/\k<=ys.length/\∃aj Y' hv,cy K mg aj Y' hv dc H'/\ei aL aj H1 H'/\e4 Y Y' ar dc/\(hk B (ds.drop k) Y').run hv=.ok a_ av,
  ⟨_,rfl,ajN _,aL,Y,S1,aT,ei.refl _ _,e4.refl _ _,h⟩,?_⟩
 rintro k m dc H' ⟨rfl,ax,aj,Y',hv,cc,g',kp,h⟩
 cases e:ds.drop k with
 |nil=>
  have au:ys.length<=k:=by
   have:=congrArg akN e;rw[akw,ako]at this;rw[bw.len];omega
  rw[e]at h;cases h;exact .inl ⟨(its aj H' g' k).2 au,q aj dc H' (g1.aD.trans g') cc kp⟩
 |cons d m2=>
  obtain⟨y,e7,bA,cz⟩:=(bj.aD g' bw).get' e;have fx:k<ys.length:=(ajs.mp e7).1;obtain⟨go,mJ⟩:=(its aj H' g' k).1 fx;rw[e]at h;obtain⟨f1,a6,ah,h⟩:=M.inv h;refine .inr ⟨go,λhs aM=>∃bu dQ a6,cy K mg bu dQ a6 hs aM/\ei aL bu H1 aM/\e4 Y dQ ar hs/\(hk B (ds.drop (k+1)) dQ).run a6=.ok a_ av,?_,λx aM jS=>?_⟩
  .rintro hs aM ⟨bu,dQ,a6,a1,a2,eO,hy⟩
   exact⟨_,by omega,rfl,fx,bu,dQ,a6,a1,a2,eO,hy⟩
  .obtain⟨rfl,ex⟩:=mJ x aM jS
   rw[e7]at ex;cases ex;refine pz _ _ _ _ _ _ _ _ _ _ cc bA ah λix kj mB bc ab=>?_
   refine⟨aj,ix,hv,f1,a6,mB,ab,?_⟩
   cases f1 with
   |bo dQ=>exact λbu hs aM g2 cK gi=>⟨bu,dQ,a6,cK,g'.trans g2,kp.trans (bc.trans gi),by rw[cz];exact h⟩
   |ct dQ=>exact λbu hs aM g2 cK gi=>⟨bu,dQ,a6,cK,g'.trans g2,kp.trans (bc.trans gi),by rw[cz];exact h⟩
   |cG dQ=>cases h;exact λbu hs aM g2 cK gi=>q bu hs aM (g1.aD.trans (g'.trans g2)) cK (kp.trans (bc.trans gi))
   |cZ r=>cases h;exact λbu v aM g2 c1 az b_=>q bu v aM (g1.aD.trans (g'.trans g2)) c1 az b_
def Vk:∀D ar H,ki K mg (nU i it b) D ar H->rt (wt K mg it) (lj i) (ki K mg b) D ar H:=
 IF (B:=λd Y=>b (Y.set i (.v d))) λ_ _ _ _ _ _ _ _ _ _ st bA h k=>k _ _ (st.val bA) (e4.set λxs z=>by cases z) h
end
def fK(t:aR->M Bool)(el:bp)(Y:aR):List D->M (List D)
 |[]=>pure []|d::ds=>do
  let b <-t (Y.set 0 (.v d))
  if b=true then do
   let r <-el (Y.set 0 (.v d))
   let x <-r.dat
   let xs <-fK t el Y ds
   pure (x::xs)
  else fK t el Y ds
def xE:Option Slot->Slot
 |some (.v d)=>.v d|some (.c7 _ xs)=>.bF xs|some (.bF xs)=>.bF xs|_=>.e
def iP(n:Nat)(cap:List Nat)(Y:aR):aR:=akk n .e++cap.map λk=>xE Y[k]?
@[simp] def eX(n:Nat)(cap:List Nat)(it:fi)(t:aR->M Bool)(el:bp)(Y:aR):M R:=do
 let ds <-it Y
 hR (ds.length<ajt)
 let xs <-fK t el (iP n cap Y) ds
 pure (.fr xs)
def g_:aR->M Bool:=λ_=>pure true
abbrev Am(X:aU)(ifs:List Expr)(t:aR->M Bool):Prop:=rS X ifs (kW X.K X.mg t)
def Own.fk:Own->Own
 |.loc _=>.out|.dw=>.out|o=>o
def fk(O:a4):a4:=⟨λb=>(O b).fk,O.bJ⟩
def t8(O:a4)(b:Addr):fk O b=(O b).fk:=rfl
def Hz{O:a4}(d:c5 O H):jw (fk O):=⟨d.cn.1,λa h=>by rw[t8,d.cn.2 a h];rfl⟩
def ph{O:a4}:fk O b=.free↔O b=.free:=by rw[t8];cases O b<;>simp[Own.fk]
def mX(O:a4)(b:Addr):fk O b=.free\/fk O b=.out:=by rw[t8];cases O b<;>simp[Own.fk]
def k_(O:a4):mQ O (fk O):=⟨λ_ h=>ph.mpr h,rfl⟩
def h8.fk{O:a4}(h:h8 K O H a ys):h8 K (fk O) H a ys:=by
 rcases h with⟨h,f⟩|h
 .refine .inl ⟨h,?_⟩
  rcases f with f|f
  .exact .inl (ph.mpr f)
  .exact .inr (by rw[t8,f];rfl)
 .exact .inr h
def cy.fk{O:a4}(st:cy K mg O Y S ar H)(n:Nat)(cap:List Nat):cy K mg (fk O) (iP n cap Y) S (hA n cap ar) H:=by
 refine⟨⟨λa aq=>st.cg.has a λz=>aq (ph.mpr z),st.cg.tabs,Hz st.cg⟩,?_,λi s e=>?_,st.gK.all (λ_ _ z=>Rep.dr (k_ O) z) rfl λ_ _ _ l _=>l⟩
 .unfold iP hA
  rw[ajz,ajz,aky,aky,ajm,ajm]
 .unfold iP at e
  unfold hA
  by_cases aA:i<n
  .rw[ajR (by simpa using aA),alj,if_pos aA]at e
   cases e;exact trivial
  .rw[ajL (by simpa using aA),aky,ajW]at e
   rw[ajL (by simpa using aA),aky,ajW]
   cases lY:cap[i-n]? with
   |none=>rw[lY]at e;cases e
   |some k=>
    rw[lY]at e;have cz:xE Y[k]? = s:=ajT e;show jx K mg _ H _ s (some (ar[k]?.join)).join
    cases ay:Y[k]? with
    |none=>rw[ay]at cz;subst cz;exact trivial|some s0=>
     rw[ay]at cz;have l:=st.loc k s0 ay
     cases s0 with
     |e=>subst cz;exact trivial|v d=>subst cz;obtain⟨v,q,r⟩:=l;exact⟨v,q,r.dr (k_ O)⟩
     |bF xs=>subst cz;obtain⟨a,ys,q,l,r⟩:=l;exact⟨a,ys,q,l.fk,r.dr (k_ O)⟩
     |c7 p xs=>subst cz;obtain⟨a,ys,q,o,l,r⟩:=l;exact⟨a,ys,q,.inl ⟨.inl l,.inr (by rw[t8,o];rfl)⟩,r.dr (k_ O)⟩
def cy.ae9{O:a4}{H:aw}(st:cy K mg O Y S ar H)(bg:O l=.dw)(au:H l=some (.lst zs)):cy K mg O Y S ar (upd H l (.lst ws)):=by
 have ne:∀w:Own,w≠.dw->O l≠w:=λw hw z=>hw (z.symm.trans bg)
 exact⟨st.cg.eg au,st.len,λj t e=>(st.loc j t e).eg (ne _ (by intro z;cases z)) (ne _ (by intro z;cases z)) (ne _ (by intro z;cases z)) au,st.gK.eg st.cg (ne _ (by intro z;cases z)) (ne _ (by intro z;cases z)) au⟩
section
variable{K:aS}{mg:bt}{n:Nat}{cap:List Nat}{it:fi}{t:aR->M Bool}{el:bp}
def lz{α:Type}(put:α->Option aR)(t:aR->M Bool)(el:bp):List α->M (List D)
 |[]=>pure []|d::ds=>match put d with
  |none=>bad|some Y=>do
   let b <-t Y
   if b=true then do
    let r <-el Y
    let x <-r.dat
    let xs <-lz put t el ds
    pure (x::xs)
   else lz put t el ds
omit [aF.a7]in
theorem J'(Y:aR):∀ds:List D,fK t el Y ds=lz (λd=>some (Y.set 0 (.v d))) t el ds
 |[]=>rfl| d::ds=>by unfold fK lz;rw[J' Y ds]
inductive CompI{α:Type}(K:aS)(mg:bt)(n:Nat)(cap:List Nat)(L:Nat->M (List a0.D))(aL:a4)(Y:aR)(S1:cA)(ar:St)(H1:aw)(A:Addr)(xs:List a0.D)(k:Nat)(zs:List V)(H':aw):Prop
 |mk (aj:a4) (acc wH:List a0.D) (cc:cy K mg aj (iP n cap Y) S1 (hA n cap ar) H') (g':Go (fk aL) aj H1 H') (zR:aj A=.dw) (d7:H' A=some (.lst zs)) (hz:zs.length<=k)
   (jM:bj K mg aj H' acc zs) (h:(L k).run S1=.ok wH S1) (ex:acc++wH=xs)
def Bm{α:Type}{put:α->Option aR}{items:List α}{aL:a4}{Y:aR}{S1 av:cA}{ar:St}{H1:aw}{cm:iy}{G:i'}{xs:List a0.D}{Q:c9}(aT:cy K mg aL Y S1 ar H1)(hlen:items.length<ajt)
  (stop:∀H',eE H1 H'->cm.stop items.length H')
  (step:∀k d nN aj H',items[k]? = some d->put d=some nN->Go (fk aL) aj H1 H'->cy K mg aj (iP n cap Y) S1 (hA n cap ar) H'->cm.go k H'/\∀x aM (R:St->aw->Prop),cm.oU k H' x aM->
   (∀ix cP,Go aj aj H' cP->cy K mg aj nN S1 ix cP->mP (hA n cap ar) ix->R ix cP)->G x (hA n cap ar) aM R)
  (bN:(lz put t el items).run S1=.ok xs av) (q:∀aj v H',Go aL aj H1 H'->cy K mg aj Y av ar H'->eW K mg aj H' (.fr xs) v->jv H1 (.fr xs) v->Q v H') :
  ∀D,H1 D=none->Bo cm (hA n cap ar) G (kW K mg t) (fs K mg el) D H1 Q:=by
 intro D kC;obtain rfl:=(lz put t el items).ec _ _ _ bN;have i3:cy K mg (fV (fk aL) D .dw) (iP n cap Y) av (hA n cap ar) (upd H1 D (.lst [])):=(aT.fk n cap).new kC;refine⟨λk m zs H'=>m=items.length-k/\k<=items.length/\CompI (α:=α) K mg n cap (λk=>lz put t el (items.drop k)) aL Y av ar H1 D xs k zs H',
  ⟨_,rfl,ajN _,_,[],xs,i3,Go.new kC,nJ,dx,ajq _,rfl,bN,rfl⟩,?_⟩
 rintro k m zs H' ⟨rfl,ax,aj,acc,wH,cc,g',zR,d7,hz,jM,h,ex⟩
 cases e:items.drop k with
 |nil=>
  obtain rfl:k=items.length:=by
   have:=congrArg akN e;rw[akw,ako]at this;omega
  rw[e]at h;cases h;rw[akv]at ex;subst ex;refine .inl ⟨stop H' g'.same,?_⟩
  let rR:a4:=⟨λb=>match H1 b with|none=>aj b|some _=>aL b,aL.bJ⟩
  have DT:∀b,H1 b≠none->rR b=aL b:=λb ab=>by
   show(match H1 b with|none=>aj b|some _=>aL b)=aL b
   cases e:H1 b with
   |none=>exact absurd e ab|some _=>rfl
  have DS:∀b,H1 b=none->rR b=aj b:=λb ab=>by
   show(match H1 b with|none=>aj b|some _=>aL b)=aj b;rw[ab]
  have dr:mQ aj rR:=⟨λb ab=>by
    by_cases pB:H1 b=none
    .rw[DS b pB];exact ab
    .rw[DT b pB];exact ph.mp ((g'.own b pB).symm.trans ab),g'.bJ.symm⟩
  have go:Go aL rR H1 H':=⟨g'.same,DT,rfl⟩;have cg:c5 rR H':=⟨λb ab=>by
   by_cases pB:H1 b=none
   .rw[DS b pB]at ab;exact cc.cg.has b ab
   .exact g'.same.some pB,cc.cg.tabs,aT.cg.cn.1,λb m=>(DT b (aT.cg.has b (by rw[aT.cg.cn.2 b m];intro z;cases z))).trans (aT.cg.cn.2 b m)⟩
  refine q rR (.ref D) H' go (aT.go go cg) ⟨D,zs,rfl,d7,(DS D kC).trans zR,jM.dr dr⟩ λa gy=>?_
  cases gy;exact kC
 |cons d m2=>
  have fx:k<items.length:=by
   have:=congrArg akN e;rw[akw,ajC]at this;omega
  have dX:items[k]? = some d:=by
   have:=congrArg (·[0]?) e;simpa using this
  have cz:items.drop (k+1)=m2:=by
   have:=congrArg (anj 1) e;simpa[al7]using this
  rw[e]at h;unfold lz at h
  cases cM:put d with
  |none=>rw[cM]at h;cases h
  |some nN=>
  rw[cM]at h;dsimp only at h;obtain⟨b,a6,ah,h⟩:=M.inv h;obtain rfl:=(t nN).ec _ _ _ ah;obtain⟨go,mJ⟩:=step k d nN aj H' dX cM g' cc;refine .inr ⟨go,λx aM jS=>mJ x aM _ jS λix cP iQ mB xT=>⟨xT,aj,nN,a6,b,a6,mB,ah,λbu hK g2 cK=>?_⟩⟩;have si:Go aj bu H' hK:=iQ.trans g2
  cases b with
  |false=>
   rw[if_neg ajx]at h;exact oj ⟨items.length-(k+1),by omega,rfl,fx,bu,acc,wH,cc.go si cK.cg,g'.trans si,(si.own D (by rw[d7];intro z;cases z)).trans zR,si.same.at' _ _ d7,by omega,jM.go si,by rw[cz];exact h,ex⟩
  |true=>
   rw[if_pos rfl]at h;obtain⟨r,hx,dz,h⟩:=M.inv h;obtain rfl:=(el nN).ec _ _ _ dz;obtain⟨x,rU,fb,h⟩:=M.inv h;obtain rfl:=r.dat.ec _ _ _ fb;obtain⟨Pf,ahs,gz,h⟩:=M.inv h;cases h;refine om ⟨bu,_,_,r,_,cK,dz,λeV v k6 g3 f9 br nn=>?_⟩;obtain⟨a9,_⟩:=pn (H₀:=hK) br nn fb;have nQ:Go aj (cj hK eV) H' k6:=si.trans g3.cj;have x':k6 D=some (.lst zs):=nQ.same.at' _ _ d7;have ET:cj hK eV D=.dw:=(nQ.own D (by rw[d7];intro z;cases z)).trans zR;have uG:=g'.trans nQ;exact⟨x',by omega,items.length-(k+1),by omega,rfl,fx,cj hK eV,acc++[x],Pf,(cc.go nQ (f9.cj hK).cg).ae9 ET x',⟨oQ kC uG.same x' _,uG.own,uG.bJ⟩,ET,dx,
    by rw[ajz,al6];omega,((jM.go nQ).append (.one a9)).eg (by rw[ET];intro z;cases z) x',by rw[cz];exact gz,by rw[al1];exact ex⟩
def Bn(aG:0<n):∀ar H Q,fs K mg (eX n cap it t el) ar H Q->tw n cap (qa K mg it) (lj 0) (kW K mg t) (fs K mg el) ar H Q:=by
 rintro ar H Q ⟨O,Y,S,r,av,st,h,q⟩;obtain⟨ds,S1,af,h⟩:=M.inv h;obtain⟨_,a6,ah,h⟩:=M.inv h;obtain⟨hlen,rfl⟩:=qy ah;obtain⟨xs,ia,bN,h⟩:=M.inv h;cases h;rw[J']at bN;refine⟨O,Y,S,ds,S1,st,af,λaL H1 cm ys g1 aT its bw=>Bm aT hlen (λH' s=>(its H' s _).2 (ak2 bw.len)) (λk d nN aj H' dX cM g' cc=>?_) bN λaj v H' g cc br nn=>q aj v H' (g1.trans g) cc br (nn.back g1.same)⟩;cases cM;obtain⟨y,e7,bA⟩:=(bj.go g' (bw.dr (k_ aL))).get dX;obtain⟨go,mJ⟩:=(its H' g'.same k).1 (ajs.mp e7).1;refine⟨go,λx aM R jS eG=>?_⟩;obtain⟨rfl,ex⟩:=mJ x aM jS;rw[e7]at ex;cases ex;exact eG _ _ (Go.refl _ _) (cc.val bA) ((mP.refl _).set (by cases n with|zero=>exact absurd aG (aj7 _)|succ j=>rfl))
end
section
variable{X:aU}{scope esc:Scope}{EN N:List Str}{n:Nat}{cap:List Nat}{elt iter:Expr}{ifs:List Expr}{pos d3:Pos}{x:Str}{it:fi}{t:aR->M Bool}{el:bp}
def FT{i:Nat}{y:Str}{py mA:Pos}(S:k2 esc scope EN N n cap)(qH:X.N.Nodup)(lu:X.N[i]? = some y)(ba:X.env.scope.names.lookup y=some .local)(aG:0<n)(aA:Fp X (.Name x d3) iter it)(ag:N[0]? = some x)(iT:∀C aN s H,Loc (cw X scope N C aN s H).env.scope x/\(cw X scope N C aN s H).env.scope.names.lookup x=some .local)
  (bO:∀C aN s H,Am (cw X scope N C aN s H) ifs t) (ih:∀C aN s H,hI (cw X scope N C aN s H) elt el)
  (he:X.env.scope=esc:=by rfl) (hN:X.N=EN:=by rfl) (aI:X.calm=true:=by rfl) (aC:∀x,akc iter X.env x=pure x:=by intro _;rfl)
  (ma:akP (.ListComp elt [⟨.Name x d3,iter,ifs,0⟩] scope pos) (some (.Name y py)) mA.line X.env=pure true:=by rfl) :
  iK X (.Assign [.Name y py] (.ListComp elt [⟨.Name x d3,iter,ifs,0⟩] scope pos) mA) (tv (tw n cap (qa X.K X.mg it) (lj 0) (kW X.K X.mg t) (fs X.K X.mg el)) (lj i)):=
 abK (wi:=qa X.K X.mg it) (g:=lj 0) (tt:=kW X.K X.mg t) (te:=fs X.K X.mg el) S qH lu ba aA (λC aN s H=>vS S.eb ag (iT C aN s H).1 (.inr (iT C aN s H).2)) bO ih he hN aI aC ma
end
abbrev bE:=List D->M R
def tN(K:aS)(mg:bt)(O:a4)(H:aw):D->V->Prop
 |.lst xs,v=>∃a ys,v=.ref a/\dn K H a ys/\bj K mg O H xs ys|d,v=>Rep K mg O H d v
def lK(K:aS)(mg:bt)(O:a4)(H:aw):List D->List V->Prop
 |[],ys=>ys=[]|x::xs,ys=>∃y r,ys=y::r/\tN K mg O H x y/\lK K mg O H xs r
def dp:D->Slot
 |.lst xs=>.bF xs|d=>.v d
def FP{O:a4}{r:R}{v:V}(h:eW K mg O H r v):tN K mg O H r.arg v:=by
 match r,h with
 |.v (.lst xs),h=>obtain⟨a,ys,q,l,r⟩:=h;exact⟨a,ys,q,l.dH,r⟩
 |.fr xs,h=>obtain⟨a,ys,q,l,_,r⟩:=h;exact⟨a,ys,q,dn.of l,r⟩
 |.bF xs,h=>obtain⟨a,ys,q,l,r⟩:=h;exact⟨a,ys,q,l.dH,r⟩
 |.mv xs,h=>obtain⟨a,ys,q,l,r⟩:=h;exact⟨a,ys,q,dn.of l,r⟩
 |.v .aQ,h=>exact h|.v (.aE _),h=>exact h|.v (.int _),h=>exact h|.v (.str _),h=>exact h|.v (.tup _),h=>exact h|.v (.ref _),h=>exact h|.v (.fn _),h=>exact h|.v (.ty _),h=>exact h
theorem xc{O:a4}:∀{rs:List R}{vs:List V},gq K mg O H rs vs->lK K mg O H (rs.map R.arg) vs
 |[],_,h=>h| _::_,_,h=>by obtain⟨y,r,q,a,b⟩:=h;exact⟨y,r,q,FP a,xc b⟩
theorem lK.len{O:a4}:∀{ds:List D}{vs:List V},lK K mg O H ds vs->vs.length=ds.length
 |[],_,h=>by cases h;rfl
 |_::_,_,h=>by obtain⟨x,r,rfl,_,b⟩:=h;rw[ajC,ajC,lK.len b]
theorem lK.get{O:a4}:∀{ds:List D}{xs:List V}{i:Nat}{d:D},lK K mg O H ds xs->ds[i]? = some d->∃x,xs[i]? = some x/\tN K mg O H d x
 |[],_,_,_,_,e=>by simp at e| _::_,_,0,d,h,e=>by obtain⟨x,r,rfl,a,_⟩:=h;cases(show some _=some d from e);exact⟨x,rfl,a⟩
 |_::ds,_,i+1,d,h,e=>by
  obtain⟨x,r,rfl,_,b⟩:=h;obtain⟨y,ao,az⟩:=lK.get (i:=i) b (by simpa using e);exact⟨y,by simpa using ao,az⟩
def b6(K:aS)(mg:bt)(mf:bE):ek:=λvs H Q _=>∃O ds r S,c5 O H/\gu K mg O H S/\lK K mg O H ds vs/\(mf ds).run S=.ok r S/\∀aj v H',Go O aj H H'->c5 aj H'->eW K mg aj H' r v->jv H r v->Q v H'
@[simp] def bM(mf:bE)(ms:cV)(Y:aR):M R:=do
 let rs <-ms Y
 mf (rs.map R.arg)
section
variable{mf:bE}{ms:cV}
def Bg:∀ar H Q,fs K mg (bM mf ms) ar H Q->zS (b6 K mg mf) (nH K mg ms) ar H Q:=by
 rintro ar H Q ⟨O,Y,S,r,av,st,h,q⟩;obtain⟨rs,S1,af,h⟩:=M.inv h;refine⟨O,Y,S,rs,S1,st,af,λaL vs H1 g1 aT br nn=>?_⟩;obtain rfl:=(mf _).ec _ _ _ h;exact⟨aL,_,r,av,aT.cg,aT.gK,xc br,h,λaj v H' g d bP gk=>q aj v H' (g1.trans g) (aT.go g d) bP (gk.back g1.same)⟩
end
def fnOf(n N:Nat)(b:a3):bE:=λds=>if ds.length=n then do
  let a_ <-b (ds.map dp++akk (N-n) .e)
  match a_ with
  |.cZ (.v d)=>pure (.v d)|.cZ (.fr xs)=>pure (.fr xs)|.bo _=>pure (.v .aQ)|_=>bad
 else bad
def adW{O:a4}{v:V}(h:tN K mg O H d v):jx K mg (fk O) H w (dp d) (some v):=by
 have val:Rep K mg O H d v->jx K mg (fk O) H w (.v d) (some v):=λh=>⟨v,rfl,h.dr (k_ O)⟩
 match d,h,val with
 |.lst xs,h,_=>
  obtain⟨a,ys,rfl,l,r⟩:=h;exact⟨a,ys,rfl,l.imp (λz=>⟨z,mX O a⟩) id,r.dr (k_ O)⟩
 |.aQ,h,val=>exact val h|.aE _,h,val=>exact val h|.int _,h,val=>exact val h|.str _,h,val=>exact val h|.tup _,h,val=>exact val h|.ref _,h,val=>exact val h|.fn _,h,val=>exact val h|.ty _,h,val=>exact val h
omit [aF.a7]in
theorem xV{n N:Nat}{ds:List D}{r:R}(h:(fnOf n N b ds).run S=.ok r av):ds.length=n:=by
 unfold fnOf at h
 by_cases c:ds.length=n
 .exact c
 .rw[if_neg c]at h;cases h
def EO{ps N:List Str}{O:a4}{ds:List D}(cL:c5 O H)(e2:gu K mg O H S)(e5:lK K mg O H ds vs)(au:ds.length=ps.length):cy K mg (fk O) (ds.map dp++akk (N.length-ps.length) .e) S (aF.start N vs) H:=by
 have JC:=e5.len;refine⟨⟨λa aq=>cL.has a λz=>aq (ph.mpr z),cL.tabs,Hz cL⟩,?_,λi s e=>?_,e2.all (λ_ _ z=>Rep.dr (k_ O) z) rfl λ_ _ _ l _=>l⟩
 .unfold aF.start
  rw[ajz,ajz,ajm,ajm,aky,aky,JC,au]
 .by_cases aA:i<ds.length
  .rw[ajR (by rw[ajm];exact aA),ajW]at e
   cases dX:ds[i]? with
   |none=>rw[dX]at e;cases e
   |some d=>
    rw[dX]at e;cases e;obtain⟨v,ev,bR⟩:=e5.get dX;unfold aF.start;rw[ajR (by rw[ajm,JC];exact aA),ajW,ev];exact adW bR
  .rw[ajL (by rw[ajm];omega),alj]at e
   split at e
   .cases e;exact trivial
   .cases e
def HD{ps N:List Str}(hW:b6 K mg (fnOf ps.length N.length c_) vs H Q E):ki K mg c_ { bo:=fun _ H'=>Q .aQ H',cZ:=Q } (aF.start N vs) H:=by
 obtain⟨O,ds,r,S,cL,e2,e5,h,q⟩:=hW;have au:=xV h;unfold fnOf at h;rw[if_pos au]at h;obtain⟨a_,S1,af,h⟩:=M.inv h;have wk:=EO (N:=N) cL e2 e5 au;have old:∀b,H b≠none->fk O b=.free\/fk O b=.out:=λb _=>mX O b
 have back:∀{aj:a4}{H':aw},ei (fk O) aj H H'->c5 aj H'->∃bu:a4,Go O bu H H'/\c5 bu H'/\mQ aj bu/\∀b,(aj b=.dw\/∃i,aj b=.loc i)->H b=none/\bu b=.dw:=λ{aj H'} g d=>by
  refine⟨⟨λb=>match H b with|some _=>O b|none=>(match aj b with|.loc _=>.dw|o=>o),O.bJ⟩,⟨⟨λb o e n=>g.cells b o e ((old b (by rw[e];intro z;cases z)).elim .inl λz=>.inr (.inl z)) n,g.cU,g.bT⟩,λb ab=>?_,rfl⟩,⟨λb ab=>?_,d.tabs,cL.cn.1,λb m=>?_⟩,⟨λb ab=>?_,g.bJ.symm⟩,λb ab=>?_⟩
  .dsimp only
   cases e:H b with
   |none=>exact absurd e ab|some o=>rfl
  .dsimp only at ab
   cases e:H b with
   |some o=>exact g.has b (by rw[e];intro z;cases z)|none=>
    rw[e]at ab;refine d.has b λz=>ab ?_
    dsimp only;rw[z]
  .dsimp only
   cases e:H b with
   |some o=>exact cL.cn.2 b m| none=>exact absurd e (cL.has b (by rw[cL.cn.2 b m];intro z;cases z))
  .dsimp only
   cases e:H b with
   |some o=>
    dsimp only;have:=(g.own b (by rw[e];intro z;cases z) (mX O b)).symm.trans ab;exact ph.mp this
   |none=>
    dsimp only;rw[ab]
  .have aG:H b=none:=by
    cases e:H b with
    |none=>rfl|some o=>
     exfalso;have bq:=g.own b (by rw[e];intro z;cases z) (mX O b);rcases mX O b with z|z<;>rw[z]at bq<;>rcases ab with w|⟨i,w⟩<;>rw[bq]at w<;>cases w
   refine⟨aG,?_⟩;dsimp only;rw[aG];rcases ab with w|⟨i,w⟩<;>rw[w]
 refine⟨fk O,_,S,a_,S1,wk,af,?_⟩
 cases a_ with
 |bo Y'=>
  cases h;intro aj dc H' g cc _;obtain⟨bu,g2,c1,f2,_⟩:=back g cc.cg;exact q bu .aQ H' g2 c1 rfl trivial
 |cG Y'=>cases h
 |ct Y'=>cases h
 |cZ bP=>
  intro aj v H' g d xM br;obtain⟨bu,g2,c1,f2,dC⟩:=back g d
  cases bP with
  |v dd=>cases h;exact q bu v H' g2 c1 (Rep.dr f2 br) trivial
  |fr xs=>
   cases h;obtain⟨a,ys,rfl,l,t,bw⟩:=br;obtain⟨aG,bO⟩:=dC a t;exact q bu _ H' g2 c1 ⟨a,ys,rfl,l,bO,bw.dr f2⟩ λb c6=>by cases c6;exact aG
  |bF xs=>exact aj4 br|mv xs=>exact aj4 br
def IE{P:ajF}{w:World}{K:aS}{mg:bt}{base:Heap}{x qual:Str}{st:Stmt}{ps N:List Str}{k:Nat}{c_:a3}{f:Addr}{fd:akA}{n nl:Nat}(F:k5 K x qual st f fd)(Sc:cf N ps (bH st))(aG:ps.length=n)(au:N.length=nl)
  (ab:∀(bx:Value)(A:ajM)(outer:List Env)(s:ajp)(H:aw)(E:gE),cE k (A.deeper (akx qual (bH st) s.heap.objs.size f bx))->
   rL (hj eM P w K mg base N qual (bH st) f bx A outer s H E).gI (fv st) c_):fg P w K mg base eM (k+1) f fd ps (b6 K mg (fnOf n nl c_)):=by
 subst aG au;exact F.ok Sc (λvs H Q E ⟨O,ds,r,S,cL,e2,e5,h,q⟩=>e5.len.trans (xV h)) λbx A outer s H vs Q E aB hW=>⟨_,ab bx A outer s H E aB,HD hW⟩
def pA{P:ajF}{w:World}{K:aS}{mg:bt}{base:Heap}{x:Str}{st:Stmt}{ps N:List Str}{k:Nat}{c_:a3}{n nl:Nat}(cp:cp K mg x st ps)(Sc:cf N ps (bH st))(aG:ps.length=n)(au:N.length=nl)
  (ab:∀(f:Addr)(bx:Value)(A:ajM)(outer:List Env)(s:ajp)(H:aw)(E:gE),cE k (A.deeper (akx x (bH st) s.heap.objs.size f bx))->
   rL (hj eM P w K mg base N x (bH st) f bx A outer s H E).gI (fv st) c_):b2 P w K mg base x ps (k+1) (b6 K mg (fnOf n nl c_)):=by
 obtain⟨f,fd,F,b,m⟩:=cp.ex;exact⟨f,fd,IE F Sc aG au (λbx=>ab f bx),b,F.kp,m⟩
omit [aF.a7]in
theorem H_{K:aS}{h:Heap}{mg:bt}{x:Str}{st:Stmt}{f:Addr}{ps:List Str}{c3 an:Option Addr}{cN:Array (Option Value)}{dv cB pq pm cd ct:Value}(X:K.In h)(G:h.Ns ajX mg)
  (a:amC K ajX x=some (some (.ref f))) (l:K.lookup f=some ⟨dv,c3,.func (ala x x (ie st) (fv st) (bH st) .none cB pq pm an cd ct),cN⟩) (c:am5 K cd x=true) (k:alm K (.ref f)=true)
  (ab:∀(cB doc pm:Value)(an:Option Addr)(bx ct:Value)(us:List Value),us.length=ps.length->alF (ala x x (ie st) (fv st) (bH st) .none cB doc pm an bx ct) ⟨us,[]⟩=pure (ps.zip us)):cp K mg x st ps:=
 ⟨f,_,x2 (st:=st) l c k,(x2 (st:=st) l c k).binds ab,am8 X G a⟩
abbrev wh(K:aS):ek:=λvs H Q _=>∃(a:Addr)(ns:List Int),vs=[.ref a]/\dn K H a (ns.map V.int)/\ns.length<=63/\TabsOk H/\∀H',Q (.aE true) H'
abbrev oX:Nat:=10715086071862673209484250490600018105614048117055336074437503883703510511249361224931983788156958581275946729175531468251871452856923140435984577574698574803934567774824230985421074605062371141877954182153046474983581941267398767559165543946077062914571196477686542167660429831652624386837205668069376
omit [aF.a7]in
theorem Hr:oX=2 ^ 1000:=by decide +kernel
omit [aF.a7]in
theorem LB{i:Int}(h:i.natAbs<oX):akC i<=1000:=by
 unfold akC;split
 .exact ajN _
 .rename_i hz
  have:i.natAbs.log2<1000:=(Nat.log2_lt (by simpa using hz)).mpr (Hr▸h);omega
def nP(i j:Int):Prop:=(-(2 ^ 64)<i/\i<2 ^ 64)\/(-(2 ^ 64)<j/\j<2 ^ 64)\/(i.natAbs<oX/\j.natAbs<oX)
omit [aF.a7]in
theorem nP.ok{i j:Int}(h:nP i j):IntMulOk i j:=by
 rcases h with h|h|h
 .exact(show wQ i j from .inl h).ok
 .exact(show wQ i j from .inr h).ok
 .have af:=LB h.1
  have ah:=LB h.2;have ab:aol (akC i+akC j)=false:=by
   unfold aol;refine decide_eq_false ?_;have:(2000:Int)<=((bitsLine:Nat):Int):=by decide
   omega
  unfold IntMulOk;rw[ab];simp
instance (i j:Int):Decidable (nP i j):=by unfold nP;exact inferInstance
def aaH:ej X (alc .Mult) (kc nP λi j=>.int (i*j)):=th λ_ _ _ _ _ _ _ aI q=>PyProof.Rows.mul_int q aI.ok
abbrev vK:=oE nP (· * ·)
def Qj{X:aU}:eh X.K X.mg (kc nP λi j=>.int (i*j)) vK:=r0 λ_ _ h=>h
def nO(_ j:Int):Prop:=0<j/\j.natAbs<oX
instance (i j:Int):Decidable (nO i j):=by unfold nO;exact inferInstance
def aaC:ej X (alc .FloorDiv) (kc nO λi j=>.int (i / j)):=th λi j _ _ _ _ _ aI q=>by
 have af:(0:Int)<j:=aI.1;have ah:j.natAbs<oX:=aI.2;refine PyProof.Rows.floordiv_int (by omega) (by rw[anu i (by omega)];exact q) (.inl (PyProof.noPylong_of_log2 ?_));have:j.natAbs.log2<1000:=(Nat.log2_lt (by omega)).mpr (Hr▸ah);omega
abbrev dZ:=oE nO (· / ·)
def Qf{X:aU}:eh X.K X.mg (kc nO λi j=>.int (i / j)) dZ:=r0 λ_ _ h=>h
def oBits:R->M R
 |.v (.int i)=>pure (.v (.int (akC i:Nat)))|_=>bad
structure Fo(mg:bt):Prop where
 len:mg "len"=none
 range:mg "range"=none
 isinstance:mg "isinstance"=none
 max:mg "max"=none
 min:mg "min"=none
 any:mg "any"=none
 all:mg "all"=none
 Yg:mg "int"=none
 Sn:mg "bool"=none
 Zr:mg "list"=none
 tuple':mg "tuple"=none
 ad7:mg "str"=none
 abs:mg "abs"=none
 sorted:mg "sorted"=none
 sum:mg "sum"=none
 zip:mg "zip"=none
 enumerate:mg "enumerate"=none
 reversed:mg "reversed"=none
 ai9:mg "set"=none
omit [aF.a7]in
theorem So:ake "abs"=some (.builtin "abs"):=by decide +kernel
end a0
namespace a0
open PySem PySem.Spec aF
@[simp] theorem ahP{p:Prop}[Decidable p]:hR p=if p then pure ()else bad:=rfl
@[simp] theorem ahC:aa d Y=pure (.v d):=rfl
@[simp] theorem aix:R.nI (.v (.aE b))=pure b:=rfl
@[simp] theorem ahB{g:Int->Int->Int}{i j:Int}:rd g (.v (.int i)) (.v (.int j))=pure (.v (.int (g i j))):=rfl
@[simp] theorem ahA{C:Int->Int->Prop}[∀i j,Decidable (C i j)]{g:Int->Int->Int}{i j:Int}:oE C g (.v (.int i)) (.v (.int j))=if C i j then pure (.v (.int (g i j)))else bad:=rfl
@[simp] theorem ahz{g:Int->Int->Bool}{i j:Int}:rb g (.v (.int i)) (.v (.int j))=pure (.v (.aE (g i j))):=rfl
@[simp] theorem ahM{i:Int}:oBits (.v (.int i))=pure (.v (.int (akC i:Nat))):=rfl
@[simp] theorem aif:ak Y=pure []:=rfl
@[simp] theorem ahV:R.dat (.v d)=pure d:=rfl
@[simp] theorem ahS:R.dat (.fr xs)=pure (.lst xs):=rfl
@[simp] theorem ahU:lb []=pure []:=rfl
@[simp] theorem ahT{r:R}:lb (r::rs)=(do
  let d <-r.dat
  let ds <-lb rs
  pure (d::ds)):=rfl
@[simp] theorem aic:R.fo (.fr xs)=some xs:=rfl
@[simp] theorem aid:R.fo (.bF xs)=some xs:=rfl
@[simp] theorem ain:R.seq (.v (.tup xs))=some xs:=rfl
@[simp] theorem aim:R.seq (.fr xs)=some xs:=rfl
@[simp] theorem aio:R.seq (.bF xs)=some xs:=rfl
@[simp] theorem ail:R.own (.v (.lst xs))=some xs:=rfl
@[simp] theorem aik:R.own (.fr xs)=some xs:=rfl
@[simp] theorem ahI:R.arg (.v d)=d:=rfl
@[simp] theorem ahH:R.arg (.fr xs)=.lst xs:=rfl
@[simp] theorem aia{x:R}:f7 [x]=match x.seq with
  |some xs=>pure (.v (.int (xs.length:Nat)))|none=>bad:=rfl
@[simp] theorem ah7{i:Int}:R.kind (.v (.int i))=some "int":=rfl
@[simp] theorem ah8:R.kind (.v (.str x))=some "str":=rfl
@[simp] theorem ah9:R.kind (.v (.tup xs))=some "tuple":=rfl
@[simp] theorem ahZ{x:R}:hT [x,.v (.ty n)]=match x.kind with
  |some t=>if n∈["int","bool","tuple","list","str"]then pure (.v (.aE (iW t n)))else bad|none=>bad:=rfl
@[simp] theorem ah0{t n:String}:iW t n=(t==n||(t == "bool"&&n == "int")):=rfl
@[simp] theorem ahD{i:Int}:uu [.v (.int i)]=pure (.v (.int (if i<0 then -i else i))):=rfl
@[simp] theorem ahF{x:R}:U_ [x]=match x.fo.bind lR with
  |some bs=>pure (.v (.aE (bs.any id)))|none=>bad:=rfl
@[simp] theorem ahE{x:R}:se [x]=match x.fo.bind lR with
  |some bs=>pure (.v (.aE (bs.all id)))|none=>bad:=rfl
theorem HA{α:Type}(p:α->Bool):∀xs:List α,lR (xs.map λx=>D.aE (p x))=some (xs.map p)
 |[]=>rfl| x::xs=>by rw[ajw,ajw,lR,HA p xs];rfl
@[simp] theorem aiy{x:R}:l0 [x]=match x.seq with
  |some xs=>pure (.v (.tup xs))|none=>bad:=rfl
@[simp] theorem ah5{i:Int}:aK (.v (.tup xs)) (.v (.int i))=match eP xs i with
   |some d=>pure (.v d)|none=>bad:=rfl
@[simp] theorem ah4{i:Int}:aK (.fr xs) (.v (.int i))=match eP xs i with
   |some d=>pure (.v d)|none=>bad:=rfl
@[simp] theorem ah6{i:Int}:aK (.bF xs) (.v (.int i))=match eP xs i with
   |some d=>pure (.v d)|none=>bad:=rfl
def pg{α:Type}{xs:List α}(k:Nat){v:α}(h:xs[k]? = some v):eP xs (k:Int)=some v:=P8 h
@[simp] theorem Ik{α:Type}{x:α}{xs:List α}:eP (x::xs) 0=some x:=pg 0 rfl
@[simp] theorem ahJ{α:Type}{x y:α}{xs:List α}:eP (x::y::xs) 1=some y:=pg 1 rfl
@[simp] theorem ahK{α:Type}{x y z:α}{xs:List α}:eP (x::y::z::xs) 2=some z:=pg 2 rfl
@[simp] theorem ahL{α:Type}{x y z w:α}{xs:List α}:eP (x::y::z::w::xs) 3=some w:=pg 3 rfl
@[simp] theorem ahG{r:R}:hH xs [r]=(do
  let d <-r.dat
  hR (xs.length<ajt)
  pure (.v .aQ,xs++[d])):=rfl
@[simp] theorem ahX{r:R}:wx xs [r]=match r.own with
  |some ys=>do
   hR (xs.length+ys.length<=ajt)
   pure (.v .aQ,xs++ys)
  |none=>bad:=rfl
@[simp] theorem aih:Bc Y=pure none:=rfl
@[simp] theorem ahQ{cap:List Nat}:iP n cap Y=akk n .e++cap.map λk=>xE Y[k]?:=rfl
@[simp] theorem ahR:xE (some (.v d))=.v d:=rfl
@[simp] theorem aiz:g_ Y=pure true:=rfl
@[simp] theorem ahY{x:R}:jK x (.v .aQ)=pure (.v (.aE x.pI)):=rfl
@[simp] theorem aii{x:R}:jL x (.v .aQ)=pure (.v (.aE (!x.pI))):=rfl
@[simp] theorem ah1:R.pI (.v .aQ)=true:=rfl
@[simp] theorem ah3:R.pI (.v (.tup xs))=false:=rfl
@[simp] theorem ah2:R.pI (.v (.str x))=false:=rfl
@[simp] theorem ahW{i j:Int}:oEq (.v (.int i)) (.v (.int j))=pure (.v (.aE (i==j))):=rfl
@[simp] theorem aie{i j:Int}:eJ (.v (.int i)) (.v (.int j))=pure (.v (.aE (!(i==j)))):=rfl
def r'{x y:R}(ag:x.arg.bT 64=true)(ba:y.arg.bT 64=true):oEq x y=pure (.v (.aE (jh x.arg y.arg))):=if_pos ⟨ag,ba⟩
def BC{x y:R}(ag:x.arg.bT 64=true)(ba:y.arg.bT 64=true):eJ x y=pure (.v (.aE (!jh x.arg y.arg))):=if_pos ⟨ag,ba⟩
@[simp] theorem ait:dp (.lst xs)=.bF xs:=rfl
@[simp] theorem ais{i:Int}:dp (.int i)=.v (.int i):=rfl
@[simp] theorem aiw:dp (.tup xs)=.v (.tup xs):=rfl
@[simp] theorem aiv:dp (.str x)=.v (.str x):=rfl
@[simp] theorem aiu:dp .aQ=.v .aQ:=rfl
@[simp] theorem BB{n N:Nat}{ds:List D}:fnOf n N b ds=if ds.length=n then(do
  let a_ <-b (ds.map dp++akk (N-n) .e)
  match a_ with
  |.cZ (.v d)=>pure (.v d)|.cZ (.fr xs)=>pure (.fr xs)|.bo _=>pure (.v .aQ)| _=>bad)else bad:=rfl
theorem It{b:D->a3}(J:Nat->aR->Prop):∀(ds:List D)(k:Nat)(Y:aR),J k Y->(∀i d Y,ds[i]? = some d->J (k+i) Y->∃Y',(b d Y=pure (.bo Y')\/b d Y=pure (.ct Y'))/\J (k+i+1) Y')->
  ∃Y',hk b ds Y=pure (.bo Y')/\J (k+ds.length) Y'
 |[],k,Y,h0,_=>⟨Y,rfl,h0⟩
 |d::ds,k,Y,h0,step=>by
  obtain⟨h6,e,af⟩:=step 0 d Y rfl h0;obtain⟨dQ,az,ah⟩:=It J ds (k+1) h6 af λi d' Y' hd m8=>by
   have:=step (i+1) d' Y' (by simpa using hd) (by rw[show k+(i+1)=k+1+i by omega];exact m8);rw[show k+(i+1)+1=k+1+i+1 by omega]at this;exact this
  refine⟨dQ,?_,by rw[ajC,show k+(ds.length+1)=k+1+ds.length by omega];exact ah⟩;show(b d Y >>= _)=_;rcases e with e|e<;>rw[e]<;>exact az
def uA{b:D->a3}{ds:List D}(J:Nat->aR->Prop)(h0:J 0 Y)(step:∀i d Y,ds[i]? = some d->J i Y->∃Y',(b d Y=pure (.bo Y')\/b d Y=pure (.ct Y'))/\J (i+1) Y') :
  ∃Y',hk b ds Y=pure (.bo Y')/\J ds.length Y':=by
 obtain⟨Y',e,h⟩:=It J ds 0 Y h0 λi d Y hd m8=>by
  rw[anW]at m8 ⊢;exact step i d Y hd m8
 exact⟨Y',e,by rw[anW]at h;exact h⟩
def P_{ns:List Int}{k:Nat}(h:k<ns.length):eP (ns.map D.int) (k:Int)=some (.int (ns.getD k 0)):=by
 refine pg k ?_;rw[ajW,aj8 h];simp[ajY,h]
def mod_lt{a b:Int}(h:0<b):0<=a % b/\a % b<b:=⟨aoe _ (by omega),ank _ h⟩
def Zz{i:Int}(af:-(10 ^ 200)<i)(ah:i<10 ^ 200):i.natAbs<oX:=by
 unfold oX;omega
def gw{i j:Int}(af:0<j)(ah:j<10 ^ 200):nO i j:=⟨af,Zz (by omega) ah⟩
end a0
namespace a0
open PySem PySem.Spec aF
variable[aF.a7]
def kf:List Nat->List D->aR->aR
 |i::is,d::ds,Y=>kf is ds (Y.set i (.v d))|_,_,Y=>Y
def jE:List Nat->pd
 |[]=>IM|i::is=>IL (lj i) (jE is)
@[simp] def nV(is:List Nat)(m:bp)(Y:aR):M fX:=do
 let r <-m Y
 match r with
 |.v (.tup ds)=>if ds.length=is.length then pure (.bo (kf is ds Y))else bad|_=>bad
theorem z0{O:a4}:∀{is:List Nat}{ds:List D}{xs:List V}{Y:aR}{ar:St}{Q:St->aw->Prop},cy K mg O Y S ar H->bj K mg O H ds xs->ds.length=is.length->
  (∀dc,cy K mg O (kf is ds Y) S dc H->e4 Y (kf is ds Y) ar dc->Q dc H)->jE is xs ar H Q
 |[],[],xs,Y,ar,Q,st,bw,au,q=>⟨bw,q ar st (e4.refl _ _)⟩
 |[],_::_,xs,Y,ar,Q,st,bw,au,q=>by cases au
 |_::_,[],xs,Y,ar,Q,st,bw,au,q=>by cases au
 |i::is,d::ds,xs,Y,ar,Q,st,bw,au,q=>by
  obtain⟨y,r,e,bA,br⟩:=bw;refine⟨y,r,e,?_⟩;exact z0 (is:=is) (st.val bA) br (by simpa using au) λdc cc k=>q dc cc (e4.trans (e4.set λxs z=>by cases z) k)
section
variable{X:aU}{is:List Nat}{e:Expr}{ay:List Expr}{k:Nat}{it:fi}{b:a3}
def vU{i:Nat}{x:Str}{p:Pos}(hN:X.N.Nodup)(aA:X.N[i]? = some x)(ag:Loc X.env.scope x)(h:lP X ay (jE is))(aC:(ajQ (.Name x p::ay) X.env).map (·.2)=alR (.Name x p) X.env::(ajQ ay X.env).map (·.2):=by rfl)
  (hf:X.fn x=true\/X.env.scope.names.lookup x=some .local:=by first|exact .inl rfl|exact .inr rfl|assumption):lP X (.Name x p::ay) (jE (i::is)):=aby (vS hN aA ag hf) h aC
def Ea:lP X [] (jE []):=abz
def xt(is:List Nat)(it:fi)(b:a3):a3:=λY=>do
 let ds <-it Y
 hk (λd Y=>match d with
  |.tup ay=>if ay.length=is.length then b (kf is ay Y)else bad| _=>bad) ds Y
theorem Vh:∀D ar H,ki K mg (xt is it b) D ar H->rt (wt K mg it) (qF K is.length (jE is)) (ki K mg b) D ar H:=
 IF (B:=fun d Y=>match d with
  |.tup ay=>if ay.length=is.length then b (kf is ay Y)else bad| _=>bad) λO Y S ar H d y f a6 Q st bA h k=>by
  cases d with
  |tup ay=>
   by_cases c:ay.length=is.length
   .dsimp only at h
    rw[if_pos c]at h;obtain⟨a,zs,e,t,jM⟩:=bA;exact⟨a,zs,e,t,by rw[jM.len,c],z0 st jM c λkj mB bc=>k _ _ mB bc h⟩
   .dsimp only at h
    rw[if_neg c]at h;cases h
  |_=>cases h
end
omit [aF.a7]in
@[simp] theorem aip{is:List Nat}{Y:aR}:kf (i::is) (d::ds) Y=kf is ds (Y.set i (.v d)):=rfl
omit [aF.a7]in
@[simp] theorem aiq:kf [] ds Y=Y:=by cases ds<;>rfl
end a0
namespace aF
open PySem PySem.Spec PyProof.Rows
variable[aF.a7]
omit [aF.a7]in
theorem Mk(ns:List Int):∀k,k<=ns.length->preSum (λi=>ns.getD i 0) k=(ns.take k).sum
 |0,_=>by rw[am7];rfl|k+1,h=>by
  have ax:k<ns.length:=by omega
  rw[anE,aj8 ax,List.sum_append];show preSum _ k+_=_;rw[Mk ns k (by omega)];simp[ajY,ax]
def SM{X:aU}(aI:X.calm=true):js X (.builtin "sum") (λxs H Q=>∃(l:Addr)(ns:List Int),xs=[.ref l]/\dn X.K H l (ns.map V.int)/\Q (.int ns.sum) H):=by
 intro zn s Y H xs us Q J bR h;obtain⟨l,ns,rfl,cu,q⟩:=h;obtain⟨u,rfl,bB⟩:=vals1 bR;cases bB;obtain⟨its,p5,p,hz⟩:=J.list cu;have fx:l<s.heap.objs.size:=by obtain⟨o,n,e,_⟩:=p;exact ajD e
 have aG:its.toArray.size=ns.length:=by
  have ah:=p5.length;rw[ajm]at ah;simp[ah]
 have bI:∀(i:Nat)(v:Value),its.toArray[i]? = some v->∃t,v=amL (ns.getD i 0) t:=λi v bI=>by
  have mb:its[i]? = some v:=by simpa using bI
  have aA:i<ns.length:=by
   have af:=(ajs.mp mb).1;have ah:=p5.length;rw[ajm]at ah;omega
  obtain⟨u,cx,d9⟩:=p5.get (i:=i) (x:=.int ns[i]) (by rw[ajW,aj8 aA];rfl);rw[mb]at cx;cases cx;obtain⟨t,rfl⟩:=d9;exact⟨t,by rw[ajY,aj8 aA];rfl⟩
 refine call_sum_walkG (alg p.isList ?_);refine⟨s.heap.objs.size,_,_,_,_,_,λi=>ns.getD i 0,rfl,aoo (A:=X.A.in1) (show X.A.in1.handled=none from J.ok.hd aI) s.heap.objs.size l (ajJ fx) its.toArray,⟨⟨_,ajA _ rfl,rfl,rfl⟩,p.isList.at λo e=>ajn _ e⟩,λb ab=>?_,bI,λh' tk t' k=>?_⟩
 .show b<(s.heap.push _).objs.size
  rw[alE];rcases aju.mp ab with rfl|ab
  .exact anS _
  .rw[ajH.mp ab];exact amy fx
 rw[aG,Mk ns _ (ajq _),amJ];exact⟨.int _,H,J.kept (h':=h') (t':=tk) λb o e=>k b o (by intro z;rw[ajH.mp z]at e;exact absurd (ajD e) (aj7 _)) (ajn _ e),⟨_,rfl⟩,q⟩
end aF
namespace a0
open PySem PySem.Spec aF
variable[aF.a7]
omit [aF.a7]in
theorem Sw:ake "sum"=some (.builtin "sum"):=by decide +kernel
def nums:List D->Option (List Int)
 |[]=>some []|.int b::r=>(nums r).map (b::·)|_=>none
def sg:List R->M R
 |[x]=>match x.fo.bind nums with
  |some bs=>pure (.v (.int bs.sum))|none=>bad
 |_=>bad
section
variable{K:aS}{mg:bt}
theorem sZ{O:a4}:∀{ds:List D}{ys:List V}{bs:List Int},bj K mg O H ds ys->nums ds=some bs->ys=bs.map V.int
 |[],ys,bs,h,e=>by cases e;exact h
 |d::ds,ys,bs,h,e=>by
  cases d with
  |int b=>
   have e:(nums ds).map (b::·)=some bs:=e;obtain⟨cs,ao,rfl⟩:=al0.mp e;obtain⟨y,r,rfl,af,ah⟩:=h;rw[sZ ah ao,show y=.int b from af];rfl
  |_=>exact absurd (show(none:Option (List Int))=some bs from e) (by intro z;cases z)
def YK:jT K mg (λxs H Q=>∃(l:Addr)(bs:List Int),xs=[.ref l]/\dn K H l (bs.map V.int)/\Q (.int bs.sum) H) sg:=λO Y S ar H vs rs bP av Q st aB h q=>by
 unfold sg at h;split at h
 .rename_i x
  obtain⟨v,rfl,ag⟩:=lF aB;split at h
  .rename_i xs e
   cases h;obtain⟨zs,ao,az⟩:=an5.mp e;obtain⟨a,ys,rfl,l,bw⟩:=R.ni ag ao;rw[sZ bw az]at l;exact⟨a,xs,rfl,l,q O _ H (Go.refl _ _) st rfl trivial⟩
  .cases h
 .cases h
end
omit [aF.a7]in
theorem DI{α:Type}(p:α->Int):∀xs:List α,nums (xs.map λx=>D.int (p x))=some (xs.map p)
 |[]=>rfl| x::xs=>by rw[ajw,ajw,nums,DI p xs];rfl
end a0
namespace a0
open PySem PySem.Spec aF
section
variable[aF.a7](X:aU)
structure bk(e:Expr)(m:bp):Prop where
 un:hI X e m
structure fH(e:Expr)(m:aR->M Bool):Prop where
 un:Ft X e m
structure k8(e:Expr)(m:aR->M Bool):Prop where
 un:wU X e m
structure gD(e:List Expr)(m:cV):Prop where
 un:Al X e m
structure rX(e:Option Expr)(m:o5):Prop where
 un:Pw X e m
structure fj(e:Stmt)(m:a3):Prop where
 un:Fs X e m
structure f5(e:List Stmt)(m:a3):Prop where
 un:rL X e m
structure pf(ck e:Expr)(m:fi):Prop where
 un:Fp X ck e m
structure tY(ck e:Expr)(m:fi):Prop where
 un:Pu X ck e m
structure pe(e:List Expr)(m:aR->M Bool):Prop where
 un:Am X e m
end
section
variable[aF.a7]
variable{X:aU}{a e:Expr}{pos:Pos}
theorem eT(i:Nat)(hN:X.N[i]? = some x:=by rfl)(bI:qu X.env.scope x:=by first|exact alk rfl|exact akl (.inl rfl)|exact akl (akl rfl))(hd:(x==("__debug__":Str))=false:=by decide)(gG:(x==("__classdict__":Str))=false:=by decide):bk X (.Name x pos) (I i):=⟨ee (zr hN bI hd gG) λar H Q aX=>by
 obtain⟨O,Y,S,r,av,st,h,q⟩:=aX;unfold I at h
 cases e:Y[i]? with
 |none=>rw[e]at h;cases h
 |some s=>
  rw[e]at h;have l:=st.loc i s e;have get:∀{v:V},ar[i]?.join=some v->ar[i]? = some (some v):=λ{v} z=>by
   cases w:ar[i]? with
   |none=>rw[w]at z;cases z
   |some y=>rw[w]at z;exact congrArg some z
  cases s with
  |v d=>
   obtain⟨v,ao,az⟩:=l;cases h;exact⟨v,get ao,q O v H (Go.refl _ _) st az trivial⟩
  |c7 p xs=>
   obtain⟨a,ys,ao,az,cI,e6⟩:=l;cases h;exact⟨_,get ao,q O _ H (Go.refl _ _) st ⟨a,ys,rfl,cI,e6⟩ trivial⟩
  |bF xs=>
   obtain⟨a,ys,ao,az,e6⟩:=l;cases h;exact⟨_,get ao,q O _ H (Go.refl _ _) st ⟨a,ys,rfl,az,e6⟩ trivial⟩
  |e=>cases h⟩
end
section
variable[aF.a7]
variable{X:aU}{e:Expr}{ay:List Expr}{m:bp}{ms:cV}
def f'(aq:bk X e m)(aB:gD X ay ms)(aC:ajo (e::ay) X.env=(false,eval e X.env)::ajo ay X.env:=by rfl):gD X (e::ay) (U m ms):=⟨zq (zp aq.un aB.un aC) λar H Q aX=>by
 obtain⟨O,Y,S,r,av,st,h,q⟩:=aX;obtain⟨x,S1,af,h⟩:=M.inv h;obtain⟨xs,a6,ah,h⟩:=M.inv h;cases h;refine⟨O,Y,S,x,S1,st,af,λaL f_ H1 g1 aT a9 bo=>?_⟩;refine⟨aL,Y,S1,xs,_,aT,ah,λbu vs aM g2 cK rs ns=>?_⟩;exact q bu (f_::vs) aM (g1.trans g2) cK ⟨f_,vs,rfl,a9.go g2,rs⟩ ⟨bo,ns.back g1.same⟩⟩
end
section
variable[aF.a7]
variable{X:aU}{pos:Pos}
def hq{i j pos}:bk X (.Constant (.int i) j pos) (aa (.int i)):=⟨ud abl λ_ _=>rfl⟩
end
section
variable[aF.a7]
variable{X:aU}
def kY :gD X [] ak:=⟨zq D5 λar H Q aX=>by
 obtain⟨O,Y,S,r,av,st,h,q⟩:=aX;cases h;exact q O [] H (Go.refl _ _) st rfl trivial⟩
end
section
variable[aF.a7]
variable{X:aU}{a b:Expr}{c2 c_:bp}{pos:Pos}
def lH{r:fG}(bg:ej X (alc op) r)(hf:eh X.K X.mg r f)(aq:bk X a c2)(ab:bk X b c_):bk X (.BinOp a op b pos) (ae f c2 c_):=⟨ee (Mc bg aq.un ab.un) (t9 hf)⟩
end
section
variable[aF.a7]
variable{X:aU}{st:Stmt}{rest:List Stmt}{a b:a3}
def qh(af:fj X st a)(ah:f5 X rest b):f5 X (st::rest) (bZ a b):=⟨zv (Mn af.un ah.un) λD ar H aX=>by
 obtain⟨O,Y,S,a_,av,st,h,q⟩:=aX;obtain⟨f1,S1,af,h⟩:=M.inv h;refine⟨O,Y,S,f1,S1,st,af,?_⟩
 cases f1 with
 |bo h6=>exact λaL wO H1 g1 aT gX=>⟨aL,h6,S1,a_,av,aT,h,q.aD g1 gX⟩
 |cZ r=>cases h;exact q
 |cG h6=>cases h;exact q
 |ct h6=>cases h;exact q⟩
end
section
variable[aF.a7]
variable{X:aU}{st:Stmt}{a:a3}
def rG(h:fj X st a):f5 X [st] a:=⟨Mo h.un⟩
end
section
variable[aF.a7]
variable{X:aU}{a b:Expr}{c2 c_:bp}{pos:Pos}
def iv{r:fG}(bg:mR X r)(hf:eh X.K X.mg r f)(aq:bk X a c2)(ab:bk X b c_)(aC:FG b:=by exact λ_ _=>rfl):bk X (.Subscript a b pos) (ae f c2 c_):=⟨ee (abm bg aq.un ab.un aC) (t9 hf)⟩
end
section
variable[aF.a7]
variable{X:aU}{st:Stmt}{pos:Pos}{e:Expr}{m:bp}
theorem tG(he:bk X e m):fj X (.Return (some e) pos) (bG m):=⟨g5 (Ef he.un) λD ar H aX=>by
 obtain⟨O,Y,S,a_,av,st,h,q⟩:=aX;obtain⟨r,S1,af,h⟩:=M.inv h;refine⟨O,Y,S,r,S1,st,af,λaL v H1 g1 aT br nn=>?_⟩
 cases r with
 |v d=>cases h;exact q aL v H1 g1.aD aT.cg aT.gK br
 |fr xs=>cases h;exact q aL v H1 g1.aD aT.cg aT.gK (MN br (.inr ⟨_,rfl⟩))
 |bF xs=>cases h
 |mv xs=>cases h⟩
end
section
variable[aF.a7]
variable{X:aU}{ay:List Expr}{ms:cV}{pos:Pos}
def qg{lI}(h:gD X ay ms):bk X (.Tuple ay lI pos) (bD ms):=⟨ee (D9 h.un) λar H Q aX=>by
 obtain⟨O,Y,S,r,av,st,h,q⟩:=aX;obtain⟨rs,S1,af,h⟩:=M.inv h;obtain⟨ds,a6,ah,h⟩:=M.inv h;obtain⟨_,ia,bN,h⟩:=M.inv h;obtain⟨au,rfl⟩:=qy bN;cases h;refine⟨O,Y,S,rs,S1,st,af,λaL vs H1 g1 aT br nn=>?_⟩;obtain⟨bw,rfl⟩:=xF (H₀:=H) br nn ah;refine⟨akG (eS (by rw[bw.len];exact au)),λp aH=>?_⟩;exact q (cj H aL) _ _ (g1.cj.trans (Go.fz aH)) ((aT.cj H).fz aH) ⟨p,vs,rfl,dI.of dx,bw.go (Go.fz aH)⟩ trivial⟩
end
section
variable[aF.a7]
variable{X:aU}{pos:Pos}{e:Expr}{m:bp}
variable{i:Nat}{x:Str}{pos':Pos}
def Fc(hN:X.N.Nodup)(aA:X.N[i]? = some x)(ag:Loc X.env.scope x)(he:bk X e m)(aC:akP e (some (.Name x pos')) pos.line X.env=pure false:=by rfl)(hf:X.fn x=true\/X.env.scope.names.lookup x=some .local:=by first|exact .inl rfl|exact .inr rfl|assumption):fj X (.Assign [.Name x pos'] e pos) (b7 i m):=⟨g5 (Eg hN aA ag he.un aC hf) (N7 λ_ _ _ h=>h)⟩
end
section
variable[aF.a7]
variable{X:aU}{x:Str}{ps:List Str}{k:Nat}{mf:bE}{p pos:Pos}{e:Expr}{ay:List Expr}{ms:cV}
def afq(h:b2 X.prog X.w X.K X.mg X.base x ps k (b6 X.K X.mg mf))(aB:cE k X.A)(aY:eC X x)(aq:gD X (e::ay) ms)(eH:(x==("__debug__":Str))=false:=by decide)(he:ajo (e::ay) X.env=(false,eval e X.env)::ajo ay X.env:=by rfl)(e1:(ajS pos (ajo ay X.env)).any (·.1)=false:=by rfl):bk X (.Call (.Name x p) (e::ay) [] pos) (bM mf ms):=⟨ee (D8 h aB aY aq.un eH he e1) Bg⟩
end
section
variable[aF.a7]
variable{X:aU}{x:Str}{ps:List Str}{k:Nat}{mf:bE}{p pos:Pos}
def afr(h:b2 X.prog X.w X.K X.mg X.base x ps k (b6 X.K X.mg mf))(aB:cE k X.A)(aY:eC X x)(eH:(x==("__debug__":Str))=false:=by decide):bk X (.Call (.Name x p) [] [] pos) (bM mf ak):=⟨ee (abj h aB aY eH) λar H Q h=>by
  obtain⟨O,Y,S,rs,S1,st,af,q⟩:=Bg ar H Q h;cases af;exact q O [] H (Go.refl _ _) st rfl trivial⟩
end
section
variable[aF.a7]
variable{X:aU}{e:Expr}{ay:List Expr}{ms:cV}{pos p:Pos}{x:Str}{id:String}{r:List V->aw->c9->Prop}{f:List R->M R}
def mD(aI:js X (.builtin id) r)(hf:jT X.K X.mg r f)(aY:eC X x)(hm:X.mg x=none)(bI:ake x=some (.builtin id))(aq:gD X (e::ay) ms)(aG:x≠"__name__":=by decide)(eH:(x==("__debug__":Str))=false:=by decide)(he:ajo (e::ay) X.env=(false,eval e X.env)::ajo ay X.env:=by rfl)(e1:(ajS pos (ajo ay X.env)).any (·.1)=false:=by rfl):bk X (.Call (.Name x p) (e::ay) [] pos) (cH f ms):=⟨ee (aba aI aY hm bI aq.un aG eH he e1) (HH hf)⟩
end
section
variable[aF.a7]
variable{X:aU}{st:Stmt}{pos:Pos}{a b:a3}
theorem Fb{t:aR->M Bool}(aI:fH X c t)(aq:f5 X A a)(ab:f5 X B b):fj X (.If c A B pos) (cW t a b):=⟨g5 (Mm aI.un aq.un ab.un) λD ar H aX=>by
 obtain⟨O,Y,S,a_,av,st,h,q⟩:=aX;obtain⟨t,S1,af,h⟩:=M.inv h;refine⟨O,Y,S,t,S1,st,af,λaL H1 g1 aT=>?_⟩
 cases t with
 |false=>
  rw[if_neg ajx]at h;exact oj ⟨aL,Y,S1,a_,av,aT,h,q.aD g1.aD (e4.refl _ _)⟩
 |true=>
  rw[if_pos rfl]at h;exact om ⟨aL,Y,S1,a_,av,aT,h,q.aD g1.aD (e4.refl _ _)⟩⟩
end
section
variable[aF.a7]
variable{X:aU}{st:Stmt}
theorem Fd :f5 X [] cq:=⟨zv abN λD ar H aX=>by obtain⟨O,Y,S,a_,av,st,h,q⟩:=aX;cases h;exact q O ar H (ei.refl _ _) st (e4.refl _ _)⟩
end
section
variable[aF.a7]
variable{X:aU}{a b:Expr}{c2 c_:bp}{pos:Pos}
def jq{r:fG}(bg:ej X (aj9 op) r)(hf:eh X.K X.mg r f)(aq:bk X a c2)(ab:bk X b c_)(hm:ali op b=false:=by exact jf _):fH X (.Compare a [op] [b] pos) (a5 (ae f c2 c_)):=⟨rj (abP bg aq.un ab.un hm) λar H Q h=>Ow (t9 hf) ar H Q (EU ar H Q h)⟩
end
section
variable[aF.a7]
variable{X:aU}{a:Expr}{c2:bp}{pos:Pos}
def af5(aq:bk X a c2)(he:∀whole,isTrue a X.env whole=(do let v <-whole;al2 a.pos;alf [v] (truthy v)):=by intro _;rfl):fH X a (a5 c2):=⟨rj (Mq aq.un he) λar H Q h=>EU ar H Q h⟩
end
section
variable[aF.a7]
variable{X:aU}{e:Expr}
def rE{v:V}(h:bV X e (oL v))(r:∀O H,Rep X.K X.mg O H d v):bk X e (aa d):=⟨ud h r⟩
end
section
variable[aF.a7]
variable{X:aU}{ay:List Expr}{ms:cV}{pos:Pos}
def afy(h:gD X ay ms):bk X (.List ay pos) (dS ms):=⟨ee (abn h.un) λar H Q aX=>by
 obtain⟨O,Y,S,r,av,st,h,q⟩:=aX;obtain⟨rs,S1,af,h⟩:=M.inv h;obtain⟨ds,a6,ah,h⟩:=M.inv h;obtain⟨_,ia,bN,h⟩:=M.inv h;obtain⟨au,rfl⟩:=qy bN;cases h;refine⟨O,Y,S,rs,S1,st,af,λaL vs H1 g1 aT br nn=>?_⟩;obtain⟨bw,rfl⟩:=xF (H₀:=H) br nn ah;refine⟨akG (eS (by rw[bw.len];exact au)),λp aH=>?_⟩;refine q (fV (cj H aL) p .dw) _ _ (g1.cj.trans (Go.new aH)) ((aT.cj H).new aH) ⟨p,vs,rfl,dx,nJ,bw.go (Go.new aH)⟩ λa gy=>?_
 cases gy;exact g1.same.free aH⟩
end
section
variable[aF.a7]
variable{X:aU}{b:Expr}{pos:Pos}
def afp{b j pos}:bk X (.Constant (.bool b) j pos) (aa (.aE b)):=⟨ud aa6 λ_ _=>rfl⟩
end
section
variable[aF.a7]
variable{X:aU}{a:Expr}{b3:aR->M Bool}{pos:Pos}
def af4(aq:fH X a b3):fH X (.UnaryOp .Not a pos) (g9 b3):=⟨rj (Mp aq.un) λar H Q aX=>by
 obtain⟨O,Y,S,r,av,st,h,q⟩:=aX;obtain⟨t,S1,af,h⟩:=M.inv h;cases h;exact⟨O,Y,S,t,_,st,af,λaL H1 g1 aT=>q aL H1 g1 aT⟩⟩
end
section
variable[aF.a7]
variable{X:aU}{a b:Expr}{b3 cU:aR->M Bool}{pos:Pos}
variable{rest:List Expr}
def af8(aq:fH X a b3)(ab:k8 X (.BoolOp .Or (b::rest) pos) cU):k8 X (.BoolOp .Or (a::b::rest) pos) (i4 b3 cU):=⟨Ej (Ms aq.un ab.un) λar H Q aX=>by
 obtain⟨O,Y,S,r,av,st,h,q⟩:=aX;obtain⟨t,S1,af,h⟩:=M.inv h;refine⟨O,Y,S,t,S1,st,af,λaL H1 g1 aT=>?_⟩
 cases t with
 |true=>
  rw[if_pos rfl]at h;cases h;exact om (q aL H1 g1 aT)
 |false=>
  rw[if_neg ajx]at h;exact oj ⟨aL,Y,S1,r,av,aT,h,λaj H' g cc=>q aj H' (g1.trans g) cc⟩⟩
end
section
variable[aF.a7]
variable{X:aU}{pos:Pos}
def afH{x j pos}:bk X (.Constant (.str x) j pos) (aa (.str x)):=⟨ud Me λ_ _=>rfl⟩
end
section
variable[aF.a7]
variable{X:aU}{pos:Pos}
def afC{j pos}:bk X (.Constant .none j pos) (aa .aQ):=⟨ud abr λ_ _=>rfl⟩
end
section
variable[aF.a7]
variable{X:aU}{a b:Expr}{c2 c_:bp}{pos:Pos}
def rD{r:fG}(bg:ej X (aj9 op) r)(hf:eh X.K X.mg r f)(aq:bk X a c2)(ab:bk X b c_)(hm:ali op b=false):bk X (.Compare a [op] [b] pos) (ae f c2 c_):=⟨ee (abd bg aq.un ab.un hm) (t9 hf)⟩
end
section
variable[aF.a7]
variable{X:aU}{iter:Expr}{it:fi}{i:Nat}{b:a3}{body:List Stmt}{pos d3:Pos}{x:Str}
def afW(aH:anf (model X.prog X.w) X.A X.env X.dU)(aI:X.calm=true)(aA:tY X (.Name x d3) iter it)(hN:X.N.Nodup)(ag:X.N[i]? = some x)(au:Loc X.env.scope x)(ab:f5 X body b)(aC:∀x,akc iter X.env x=pure x:=by intro _;rfl)(hf:X.fn x=true\/X.env.scope.names.lookup x=some .local:=by first|exact .inl rfl|exact .inr rfl|assumption):fj X (.For (.Name x d3) iter body [] pos) (nU i it b):=⟨g5 (zu aH aI aA.un (vS hN ag au hf) ab.un aC) Vk⟩
end
section
variable[aF.a7]
variable{X:aU}{a b:Expr}{c2 c_:bp}{pos:Pos}
variable{rest:List Expr}
def afm(aq:bk X a c2)(ab:bk X (.BoolOp .And (b::rest) pos) c_):bk X (.BoolOp .And (a::b::rest) pos) (k' c2 c_):=⟨ee (L8 aq.un ab.un) λar H Q aX=>by
 obtain⟨O,Y,S,r,av,st,h,q⟩:=aX;obtain⟨x,S1,af,h⟩:=M.inv h;obtain⟨t,a6,ah,h⟩:=M.inv h;obtain⟨rfl,rfl⟩:=tC ah;refine⟨O,Y,S,_,_,st,af,λaL f_ H1 g1 aT a9 bo=>⟨t,a9,?_⟩⟩
 cases t with
 |false=>
  rw[if_neg ajx]at h;cases h;exact oj (q aL _ H1 g1 aT rfl trivial)
 |true=>
  rw[if_pos rfl]at h;exact om ⟨aL,Y,_,r,av,aT,h,λaj v H' g cc br nn=>q aj v H' (g1.trans g) cc br (nn.back g1.same)⟩⟩
end
section
variable[aF.a7]
variable{X:aU}{a:Expr}{b3:aR->M Bool}{pos:Pos}
def af9(aq:fH X a b3):k8 X (.BoolOp .Or [a] pos) b3:=⟨Mt aq.un⟩
end
section
variable[aF.a7]
variable{X:aU}{a b:Expr}{b3 cU:aR->M Bool}{pos:Pos}
variable{rest:List Expr}
def af6(aq:fH X a b3)(ab:k8 X (.BoolOp .And (b::rest) pos) cU):k8 X (.BoolOp .And (a::b::rest) pos) (h3 b3 cU):=⟨Ej (abS aq.un ab.un) λar H Q aX=>by
 obtain⟨O,Y,S,r,av,st,h,q⟩:=aX;obtain⟨t,S1,af,h⟩:=M.inv h;refine⟨O,Y,S,t,S1,st,af,λaL H1 g1 aT=>?_⟩
 cases t with
 |false=>
  rw[if_neg ajx]at h;cases h;exact oj (q aL H1 g1 aT)
 |true=>
  rw[if_pos rfl]at h;exact om ⟨aL,Y,S1,r,av,aT,h,λaj H' g cc=>q aj H' (g1.trans g) cc⟩⟩
end
section
variable[aF.a7]
variable{X:aU}{e:Expr}{m:bp}
def afU(he:bk X e m):rX X (some e) (r4 m):=⟨λzn s ar H Q J aX=>by
 obtain⟨O,Y,S,r,av,st,h,q⟩:=aX;obtain⟨x,S1,af,h⟩:=M.inv h;split at h
 .rename_i i
  cases h;exact abF he.un zn s ar H Q J ⟨O,Y,S,_,_,st,af,λaL v H1 g1 aT br _=>⟨i,br,q aL H1 g1 aT⟩⟩
 .cases h⟩
end
section
variable[aF.a7]
variable{X:aU}
def afT :rX X none Bc:=⟨λzn s ar H Q J aX=>by
 obtain⟨O,Y,S,r,av,st,h,q⟩:=aX;cases h;exact abE zn s ar H Q J (q O H (Go.refl _ _) st)⟩
end
section
variable[aF.a7]
variable{X:aU}{e:Expr}{m:bp}{lo aA:Option Expr}{pW vy:o5}{pos dG:Pos}
def afF(he:bk X e m)(au:rX X lo pW)(cx:rX X aA vy):bk X (.Subscript e (.Slice lo aA none dG) pos) (xx m pW vy):=⟨ee (Md (adS.or N8) he.un au.un cx.un) λar H Q aX=>by
 obtain⟨O,Y,S,r,av,st,h,q⟩:=aX;obtain⟨x,S1,af,aq⟩:=M.inv h;clear h;obtain⟨l,a6,ah,ab⟩:=M.inv aq;clear aq;obtain⟨u,ia,bN,h⟩:=M.inv ab;clear ab;refine⟨O,Y,S,x,S1,st,af,λaL f_ H1 g1 aT a9 bo=>?_⟩;refine⟨aL,Y,S1,l,a6,aT,ah,λbu aM g2 cK=>?_⟩;refine⟨bu,Y,a6,u,ia,cK,bN,λeV cP g3 f9=>?_⟩;have g:=(g1.trans g2).trans g3;have zG:=a9.go (g2.trans g3);unfold LO at h;split at h
 .rename_i xs
  by_cases c:d0.cR xs.length 0 l=0/\d0.cR xs.length xs.length u=xs.length
  .rw[if_pos c]at h;cases h
  .rw[if_neg c]at h
   cases h;obtain⟨a,ys,rfl,b5,bw⟩:=zG;exact .inr ⟨a,ys,rfl,b5,by rw[bw.len];exact c,λp aH=>q eV _ _ (g.trans (Go.fz aH)) (f9.fz aH) ⟨p,_,rfl,dI.of dx,(bw.cut l u).go (Go.fz aH)⟩ trivial⟩
 .split at h
  .rename_i xs ao
   cases h;obtain⟨a,ys,rfl,b5,bw⟩:=R.ni zG ao;refine .inl ⟨a,ys,rfl,b5,λp aH=>q (fV eV p .dw) _ _ (g.trans (Go.new aH)) (f9.new aH) ⟨p,_,rfl,dx,nJ,(bw.cut l u).go (Go.new aH)⟩ λb c6=>?_⟩;cases c6;exact g.same.free aH
  .cases h⟩
end
section
variable[aF.a7]
variable{X:aU}{a:Expr}{c2:bp}{pos:Pos}
def afE{op}(h:bk X a c2):bk X (.BoolOp op [a] pos) c2:=⟨Mb h.un⟩
end
section
variable[aF.a7]
variable{X:aU}{scope esc:Scope}{EN N:List Str}{n:Nat}{cap:List Nat}{elt iter:Expr}{ifs:List Expr}{pos d3:Pos}{x:Str}{it:fi}{t:aR->M Bool}{el:bp}
def aft(S:k2 esc scope EN N n cap)(aG:0<n)(aA:pf X (.Name x d3) iter it)(ag:N[0]? = some x)(iT:∀C aN s H,Loc (cw X scope N C aN s H).env.scope x/\(cw X scope N C aN s H).env.scope.names.lookup x=some .local)(bO:∀C aN s H,pe (cw X scope N C aN s H) ifs t)(ih:∀C aN s H,bk (cw X scope N C aN s H) elt el)(he:X.env.scope=esc:=by rfl)(hN:X.N=EN:=by rfl)(aI:X.calm=true:=by rfl)(aC:∀x,akc iter X.env x=pure x:=by intro _;rfl):bk X (.ListComp elt [⟨.Name x d3,iter,ifs,0⟩] scope pos) (eX n cap it t el):=⟨ee (D7 (wi:=qa X.K X.mg it) (g:=lj 0) (tt:=kW X.K X.mg t) (te:=fs X.K X.mg el) S aA.un (λC aN s H=>vS S.eb ag (iT C aN s H).1 (.inr (iT C aN s H).2)) (λC aN s H=>(bO C aN s H).un) (λC aN s H=>(ih C aN s H).un) he hN aI aC) (Bn aG)⟩
end
section
variable[aF.a7]
variable{X:aU}{x:Str}{i:Nat}{p apos dk pos:Pos}{e:Expr}{ay:List Expr}{ms:cV}{name:Str}{id:String}{f:List D->List R->M (R×List D)}{r:V->List V->aw->c9->Prop}
def z6(slot:PySem.Slot "list" name id)(qV:typeOf (.builtin id)=pure (.type "method_descriptor"))(hm:w2 X id r)(hf:tO X.K X.mg r f)(aq:gD X (e::ay) ms)(hN:X.N[i]? = some x)(bI:qu X.env.scope x)(hd:(x==("__debug__":Str))=false:=by decide)(gG:(x==("__classdict__":Str))=false:=by decide)(n9:ak8 (.Name x p) name X.env (eval (.Name x p) X.env)=eval (.Name x p) X.env:=by rfl) (uU:((ajS dk (ajo (e::ay) X.env)).all (λx=>!x.1)&&(ald dk (akI [] X.env)).all (λx=>x.1.isSome)
&&decide ((e::ay).length+([]:List amx).length+(if([]:List amx).isEmpty then 0 else 1)<30))=true:=by rfl) (oe:(apos.endLine==dk.line)=true:=by rfl) (aC:ajo (e::ay) X.env=(false,eval e X.env)::ajo ay X.env:=by rfl) (iU:(ajS dk (ajo ay X.env)).any (·.1)=false:=by rfl) (ma:akP (.Call (.Attribute (.Name x p) name apos) (e::ay) [] dk) none pos.line X.env=pure false:=by rfl):fj X (.Expr (.Call (.Attribute (.Name x p) name apos) (e::ay) [] dk) pos) (j0 i f ms):=⟨g5 (Ee (L9 an6 slot qV hm (zr hN bI hd gG) aq.un n9 uU oe aC iU) ma) λD ar H aX=>by
  obtain⟨O,Y,S,a_,av,st,h,q⟩:=aX;obtain⟨⟨b_,dQ⟩,S1,af,h⟩:=M.inv h;cases h;exact ZY hf st af λaj v H' g cc k _=>q aj ar H' g cc k⟩
end
section
variable[aF.a7]
variable{X:aU}{a:Expr}{b3:aR->M Bool}{pos:Pos}
def af7(aq:fH X a b3):k8 X (.BoolOp .And [a] pos) b3:=⟨abT aq.un⟩
end
section
variable[aF.a7]
variable{X:aU}{ck l:Expr}{m:bp}{a:Expr}
theorem afK(au:bk X l m):tY X ck l (CG m):=⟨oG (Eb au.un) λar H R aX=>by
 obtain⟨O,Y,S,xs,av,st,h,q⟩:=aX;obtain⟨r,S1,af,h⟩:=M.inv h;refine⟨O,Y,S,r,S1,st,af,λaL v H1 g1 aT br nn=>?_⟩;split at h
 .cases h
  obtain⟨a,ys,rfl,ls,bw⟩:=br;exact⟨a,rfl,⟨ys,ls.dH⟩,q aL H1 (lM X.K a) ys g1 aT (CN (.inl ⟨.inl ls.1,.inl ls.2⟩)) bw⟩
 .cases h
  obtain⟨a,ys,rfl,ls,t,bw⟩:=br;exact⟨a,rfl,⟨ys,dn.of ls⟩,q (cj H aL) H1 (lM X.K a) ys g1.cj (aT.cj H) (CN (.inl ⟨.inl ls,.inl (x1 (nn a rfl) t)⟩)) (bw.dr (ja _ _))⟩
 .cases h
  obtain⟨a,ys,rfl,ls,bw⟩:=br;exact⟨a,rfl,⟨ys,ls.dH⟩,q aL H1 (lM X.K a) ys g1 aT (CN ls) bw⟩
 .cases h⟩
end
section
variable[aF.a7]
variable{X:aU}{pos:Pos}{e:Expr}{m:bp}
variable{i:Nat}{x:Str}{pos':Pos}
def af0(hN:X.N.Nodup)(aA:X.N[i]? = some x)(ag:Loc X.env.scope x)(he:bk X e m)(aC:akP e (some (.Name x pos')) pos.line X.env=pure false:=by rfl)(hf:X.fn x=true\/X.env.scope.names.lookup x=some .local:=by first|exact .inl rfl|exact .inr rfl|assumption):fj X (.Assign [.Name x pos'] e pos) (jB i m):=⟨g5 (Eg hN aA ag he.un aC hf) (L4 λ_ _ _ h=>h)⟩
end
section
variable[aF.a7]
def afN:pe X [] g_:=⟨λzn s Y H Q J aX=>by
 obtain⟨O,Y',S,b,av,st,h,q⟩:=aX;cases h;exact abw zn s Y H Q J (q O H (Go.refl _ _) st)⟩
end
section
variable[aF.a7]
variable{X:aU}{a:Expr}{c2:bp}{pos:Pos}
def afD(aq:bk X a c2):bk X (.UnaryOp .Not a pos) (xv c2):=⟨ee (abt aq.un) λar H Q aX=>by
 obtain⟨O,Y,S,r,av,st,h,q⟩:=aX;obtain⟨x,S1,af,h⟩:=M.inv h;obtain⟨t,a6,ah,h⟩:=M.inv h;obtain⟨rfl,rfl⟩:=tC ah;cases h;exact⟨O,Y,S,_,_,st,af,λaL f_ H1 g1 aT a9 bo=>⟨t,a9,q aL _ H1 g1 aT rfl trivial⟩⟩⟩
end
section
variable[aF.a7]
variable{X:aU}{e:Expr}{ay:List Expr}{ms:cV}{pos p:Pos}{x:Str}{T:String}{r:List V->aw->c9->Prop}{f:List R->M R}
def E8(aI:js X (.type T) r)(hf:jT X.K X.mg r f)(aY:eC X x)(hm:X.mg x=none)(bI:ake x=some (.type T))(aq:gD X (e::ay) ms)(aG:x≠"__name__":=by decide)(eH:(x==("__debug__":Str))=false:=by decide)(he:ajo (e::ay) X.env=(false,eval e X.env)::ajo ay X.env:=by rfl)(e1:(ajS pos (ajo ay X.env)).any (·.1)=false:=by rfl):bk X (.Call (.Name x p) (e::ay) [] pos) (cH f ms):=⟨ee (abb aI aY hm bI aq.un aG eH he e1) (HH hf)⟩
end
section
variable[aF.a7]
def E9{t:aR->M Bool}(h:fH X c t):pe X [c] t:=⟨abx h.un⟩
end
section
variable[aF.a7]
variable{X:aU}{ck:Expr}{a:Expr}{ms:cV}{pos p:Pos}
def afL(aY:eC X "range")(hm:X.mg "range"=none)(aq:gD X [a] ms)(aC:ajo [a] X.env=[(false,eval a X.env)]:=by rfl):tY X ck (.Call (.Name "range" p) [a] [] pos) (iE ms):=⟨oG (Ec aY hm aq.un aC) MR.1⟩
end
section
variable[aF.a7]
variable{X:aU}{a b c:Expr}{c2 c_ hn:bp}{pos:Pos}
def af3{r bP:fG}(bg:ej X (aj9 op) r)(hf:eh X.K X.mg r f)(ik:ej X (aj9 tg) bP)(aY:eh X.K X.mg bP g)(aq:bk X a c2)(ab:bk X b c_)(aI:bk X c hn)(hm:lastMarks [op,tg] [b,c]=false:=by with_unfolding_all rfl):fH X (.Compare a [op,tg] [b,c] pos) (a5 (jZ f g c2 c_ hn)):=⟨rj (abO bg ik aq.un ab.un aI.un hm) λar H Q h=>Ow (Sy hf aY) ar H Q (EU ar H Q h)⟩
end
section
variable[aF.a7]
variable{X:aU}{ck l:Expr}{m:bp}{a:Expr}
theorem E7(au:bk X l m):pf X ck l (hX m):=⟨oG (Mh au.un) λar H R aX=>by
 obtain⟨O,Y,S,xs,av,st,h,q⟩:=aX;obtain⟨r,S1,af,h⟩:=M.inv h;split at h
 .rename_i zs
  cases h;refine⟨O,Y,S,_,_,st,af,λaL v H1 g1 aT br nn=>?_⟩;obtain⟨a,ys,rfl,ls,bw⟩:=br;exact⟨a,rfl,⟨ys,ls⟩,q aL H1 (rP X.K a) ys g1 aT (J3 ls) bw⟩
 .cases h⟩
end
section
variable[aF.a7]
variable{X:aU}{ck l:Expr}{m:bp}{e a:Expr}
theorem afg(au:bk X l m):pf X ck l (kH m):=⟨oG (Eb au.un) λar H w6 aX=>by
 obtain⟨O,Y,S,xs,av,st,h,q⟩:=aX;obtain⟨r,S1,af,h⟩:=M.inv h
 cases e:r.fo with
 |none=>rw[e]at h;cases h
 |some zs=>
  rw[e]at h;cases h;refine⟨O,Y,S,r,_,st,af,λaL v H1 g1 aT br nn=>?_⟩;obtain⟨a,ys,rfl,ls,bw⟩:=R.ni br e;exact⟨a,rfl,⟨ys,ls⟩,q aL H1 (lM X.K a) ys g1 aT (CM ls) bw⟩⟩
end
section
variable[aF.a7]
variable{X:aU}{ck l:Expr}{m:bp}{a:Expr}
theorem afM(au:bk X l m):tY X ck l (hX m):=⟨oG (Mh au.un) λar H R aX=>by
 obtain⟨O,Y,S,xs,av,st,h,q⟩:=aX;obtain⟨r,S1,af,h⟩:=M.inv h;split at h
 .rename_i zs
  cases h;refine⟨O,Y,S,_,_,st,af,λaL v H1 g1 aT br nn=>?_⟩;obtain⟨a,ys,rfl,ls,bw⟩:=br;exact⟨a,rfl,⟨ys,ls⟩,q aL H1 (rP X.K a) ys g1 aT (Yw ls) bw⟩
 .cases h⟩
end
section
variable[aF.a7]
variable{X:aU}{ck:Expr}{a:Expr}{ms:cV}{pos p:Pos}
def afh(aY:eC X "range")(hm:X.mg "range"=none)(aq:gD X [a] ms)(aC:ajo [a] X.env=[(false,eval a X.env)]:=by rfl):pf X ck (.Call (.Name "range" p) [a] [] pos) (iE ms):=⟨oG (Ec aY hm aq.un aC) MR.2⟩
end
section
variable[aF.a7]
variable{X:aU}{st:Stmt}{pos:Pos}{a:a3}{e:Expr}
theorem af1(i:Nat)(hN:X.N[i]? = some x:=by rfl)(bI:qu X.env.scope x:=by first|exact alk rfl|exact akl (.inl rfl)|exact akl (akl rfl))(hd:(x==("__debug__":Str))=false:=by decide)(gG:(x==("__classdict__":Str))=false:=by decide):fj X (.Return (some (.Name x p)) pos) (xw i):=⟨g5 (Ef (zr hN bI hd gG)) λD ar H aX=>by
 obtain⟨O,Y,S,a_,av,st,h,q⟩:=aX;unfold xw at h
 cases e:Y[i]? with
 |none=>rw[e]at h;cases h
 |some s=>
  rw[e]at h;have l:=st.loc i s e
  cases s with
  |c7 p xs=>
   obtain⟨a,ys,ao,az,cI,e6⟩:=l
   cases p with
   |true=>cases h
   |false=>
   cases h;refine⟨.ref a,?_,q O _ H (ei.refl _ _) st.cg st.gK ⟨a,ys,rfl,cI,.inr ⟨i,az⟩,e6⟩⟩
   cases w:ar[i]? with
   |none=>rw[w]at ao;cases ao
   |some y=>rw[w]at ao;exact congrArg some ao
  |v d=>cases h
  |bF d=>cases h
  |e=>cases h⟩
end
section
variable[aF.a7]
variable{X:aU}{pos d3:Pos}{is:List Nat}{e:Expr}{m:bp}{ay:List Expr}{k:Nat}
def af2(aI:X.calm=true)(aY:lP X ay (jE is))(he:bk X e m)(aG:(ajQ ay X.env).length=is.length:=by rfl)(gh:(ajQ ay X.env).findIdx? (·.1)=none:=by rfl)(aC:swapsWithSole [.Tuple ay k d3] e pos.line X.env=pure false:=by rfl)(hw:swappedStores [.Tuple ay k d3] e X.env=pure none:=by rfl)(af:(ajQ [.Tuple ay k d3] X.env).map (·.2)=[alR (.Tuple ay k d3) X.env]:=by rfl):fj X (.Assign [.Tuple ay k d3] e pos) (nV is m):=⟨g5 (abJ he.un (vT aI aY aG gh) aC hw af) λD ar H aX=>by
 obtain⟨O,Y,S,a_,av,st,h,q⟩:=aX;obtain⟨r,S1,af,h⟩:=M.inv h;split at h
 .rename_i ds
  by_cases c:ds.length=is.length
  .rw[if_pos c]at h
   cases h;refine⟨O,Y,S,_,_,st,af,λaL v H1 g1 aT br nn=>?_⟩;obtain⟨a,ys,rfl,t,bw⟩:=br;refine⟨a,ys,rfl,t,by rw[bw.len,c],z0 aT bw c λdc cc k=>q aL dc H1 g1.aD cc k⟩
  .rw[if_neg c]at h;cases h
 .cases h⟩
end
section
variable[aF.a7]
variable{X:aU}{pos d3:Pos}{is:List Nat}{ay:List Expr}{k:Nat}{iter:Expr}{it:fi}{body:List Stmt}{b:a3}
def afX(aH:anf (model X.prog X.w) X.A X.env X.dU)(aI:X.calm=true)(aA:tY X (.Tuple ay k d3) iter it)(aY:lP X ay (jE is))(ab:f5 X body b)(aG:(ajQ ay X.env).length=is.length:=by rfl)(gh:(ajQ ay X.env).findIdx? (·.1)=none:=by rfl)(aC:∀x,akc iter X.env x=pure x:=by intro _;rfl):fj X (.For (.Tuple ay k d3) iter body [] pos) (xt is it b):=⟨g5 (zu aH aI aA.un (vT aI aY aG gh) ab.un aC) Vh⟩
end
section
variable[aF.a7]
variable{X:aU}{a:Expr}{c2:bp}{apos dk:Pos}
def afo(aq:bk X a c2)(n9:ak8 a "bit_length" X.env (eval a X.env)=eval a X.env:=by rfl)(oe:(apos.endLine==dk.line)=true:=by rfl):bk X (.Call (.Attribute a "bit_length" apos) [] [] dk) (bS oBits c2):=⟨ee (aa7 PySem.F.plainAttrs_int PySem.F.slot_int_bit_length PySem.F.type_int_bit_length ZV aq.un n9 oe) λar H Q aX=>by
  obtain⟨O,Y,S,r,av,st,h,q⟩:=aX;obtain⟨x,S1,af,h⟩:=M.inv h;unfold oBits at h;split at h
  .rename_i i
   cases h;refine⟨O,Y,S,_,_,st,af,λaL f_ H1 g1 aT a9 bo=>?_⟩;cases(show f_=.int i from a9);exact⟨rfl,i,rfl,rfl,q aL _ H1 g1 aT rfl trivial⟩
  .cases h⟩
end
section
variable[aF.a7]
variable{X:aU}{st:Stmt}
def afZ :fj X st ub:=⟨g5 abM λD ar H aX=>by obtain⟨O,Y,S,a_,av,st,h,q⟩:=aX;cases h⟩
end
section
variable[aF.a7]
variable{X:aU}{a:Expr}{b3:aR->M Bool}
def k8.ct(h:k8 X a b3):fH X a b3:=⟨wU.ct h.un⟩
end
section
variable[aF.a7]
variable{X:aU}{scope esc:Scope}{EN N:List Str}{n:Nat}{cap:List Nat}{elt iter:Expr}{ifs:List Expr}{pos d3:Pos}{x:Str}{it:fi}{t:aR->M Bool}{el:bp}
def E'{py mA:Pos}(S:k2 esc scope EN N n cap)(qH:X.N.Nodup)(lu:X.N[i]? = some y)(ba:X.env.scope.names.lookup y=some .local)(aG:0<n)(aA:pf X (.Name x d3) iter it)(ag:N[0]? = some x)(iT:∀C aN s H,Loc (cw X scope N C aN s H).env.scope x/\(cw X scope N C aN s H).env.scope.names.lookup x=some .local)(bO:∀C aN s H,pe (cw X scope N C aN s H) ifs t)(ih:∀C aN s H,bk (cw X scope N C aN s H) elt el)(he:X.env.scope=esc:=by rfl)(hN:X.N=EN:=by rfl)(aI:X.calm=true:=by rfl)(aC:∀x,akc iter X.env x=pure x:=by intro _;rfl)(ma:akP (.ListComp elt [⟨.Name x d3,iter,ifs,0⟩] scope pos) (some (.Name y py)) mA.line X.env=pure true:=by rfl):fj X (.Assign [.Name y py] (.ListComp elt [⟨.Name x d3,iter,ifs,0⟩] scope pos) mA) (jB i (eX n cap it t el)):=⟨g5 (FT S qH lu ba aG aA.un ag iT (λC aN s H=>(bO C aN s H).un) (λC aN s H=>(ih C aN s H).un) he hN aI aC ma) (L4 (Bn aG))⟩
end
section
variable[aF.a7]
variable{X:aU}{scope esc:Scope}{EN N:List Str}{n:Nat}{cap:List Nat}{elt iter:Expr}{ifs:List Expr}{pos d3:Pos}{x:Str}{it:fi}{t:aR->M Bool}{el:bp}
def afV{py mA:Pos}(S:k2 esc scope EN N n cap)(qH:X.N.Nodup)(lu:X.N[i]? = some y)(ba:X.env.scope.names.lookup y=some .local)(aG:0<n)(aA:pf X (.Name x d3) iter it)(ag:N[0]? = some x)(iT:∀C aN s H,Loc (cw X scope N C aN s H).env.scope x/\(cw X scope N C aN s H).env.scope.names.lookup x=some .local)(bO:∀C aN s H,pe (cw X scope N C aN s H) ifs t)(ih:∀C aN s H,bk (cw X scope N C aN s H) elt el)(he:X.env.scope=esc:=by rfl)(hN:X.N=EN:=by rfl)(aI:X.calm=true:=by rfl)(aC:∀x,akc iter X.env x=pure x:=by intro _;rfl)(ma:akP (.ListComp elt [⟨.Name x d3,iter,ifs,0⟩] scope pos) (some (.Name y py)) mA.line X.env=pure true:=by rfl):fj X (.Assign [.Name y py] (.ListComp elt [⟨.Name x d3,iter,ifs,0⟩] scope pos) mA) (b7 i (eX n cap it t el)):=⟨g5 (FT S qH lu ba aG aA.un ag iT (λC aN s H=>(bO C aN s H).un) (λC aN s H=>(ih C aN s H).un) he hN aI aC ma) (N7 (Bn aG))⟩
end
def IU:M cA:=⟨λS=>.ok S S,λ_ _ _ h=>by cases h;rfl⟩
def gm:R->M hL
 |.v (.ref n)=>do
  let S <-IU
  match S[n]? with
  |some o=>pure o|none=>bad
 |_=>bad
def LP{r:R}{S av:cA}(h:(gm r).run S=.ok o av):∃n,r=.v (.ref n)/\S[n]? = some o/\S=av:=by
 unfold gm at h;split at h
 .rename_i n
  obtain⟨T,S1,af,h⟩:=M.inv h;cases af
  cases e:S[n]? with
  |none=>rw[e]at h;cases h
  |some o'=>rw[e]at h;cases h;exact⟨n,rfl,e,rfl⟩
 .cases h
def pN:D->Option Key
 |.int i=>some (.inl i)|.str x=>some (.inr x)|_=>none
def iI{κ α:Type}[DecidableEq κ](k:κ)(a:α):List (κ×α)->List (κ×α)
 |[]=>[(k,a)]
 |(g,x)::r=>if g=k then(g,a)::r else(g,x)::iI k a r
theorem Mr{v:V}:∀aZ:List (Str×V),ir f v aZ=iI f v aZ
 |[]=>rfl| (g,x)::r=>by unfold ir iI;rw[Mr r]
section
variable{κ:Type}[DecidableEq κ]
def ig(ai:List (κ×D))(k:κ):Option D:=(ai.find? λkv=>decide (kv.1=k)).map (·.2)
def fm(ai:List (κ×D))(k:κ)(d:D):List (κ×D):=
 if(ai.any λkv=>decide (kv.1=k))=true then ai.map (λkv=>if kv.1=k then(kv.1,d)else kv)else ai++[(k,d)]
variable[aF.a7]{K:aS}{mg:bt}{O:a4}{H:aw}
def d5.cons{p:κ×D}{ai:List (κ×D)}{dA:List (κ×V)}(h:d5 K mg O H (p::ai) dA):∃q r,dA=q::r/\p.1=q.1/\Rep K mg O H p.2 q.2/\d5 K mg O H ai r:=by
 obtain⟨af,ah⟩:=h
 cases dA with
 |nil=>cases af
 |cons q r=>
  rw[ajw,ajw]at af ah;injection af with af B7
  obtain⟨y,t,e,a,b⟩:=ah;injection e with ao az
  subst ao az;exact⟨q,r,rfl,af,a,B7,b⟩
def d5.mk'{r:List (κ×V)}(af:p.1=q.1)(ah:Rep K mg O H p.2 q.2)(h:d5 K mg O H ai r):d5 K mg O H (p::ai) (q::r):=
 ⟨by rw[ajw,ajw,af,h.1],q.2,_,rfl,ah,h.2⟩
def d5.vE(h:d5 K mg O H [] dA):dA=[]:=List.map_eq_nil_iff.mp h.1.symm
def d5.len{ai:List (κ×D)}{dA:List (κ×V)}(h:d5 K mg O H ai dA):dA.length=ai.length:=by
 have:=congrArg akN h.1;rw[ajm,ajm]at this;exact this.symm
theorem d5.val(k:κ):∀{ai:List (κ×D)}{dA:List (κ×V)},d5 K mg O H ai dA->match ig ai k with
  |some d=>∃v,jP dA k=some v/\Rep K mg O H d v|none=>jP dA k=none
 |[],dA,h=>by obtain rfl:=h.vE;exact rfl
 |p::ai,dA,h=>by
  obtain⟨q,r,rfl,ao,az,h'⟩:=h.cons;unfold ig jP
  by_cases ax:p.1=k
  .rw[aks (by simpa using ax),aks (by rw[<-ao];simpa using ax)]
   exact⟨q.2,rfl,az⟩
  .rw[aki (by simpa using ax),aki (by rw[<-ao];simpa using ax)]
   exact d5.val k h'
theorem d5.any(k:κ):∀{ai:List (κ×D)}{dA:List (κ×V)},d5 K mg O H ai dA->(dA.any λkv=>decide (kv.1=k))=ai.any λkv=>decide (kv.1=k)
 |[],dA,h=>by obtain rfl:=h.vE;rfl
 |p::ai,dA,h=>by
  obtain⟨q,r,rfl,ao,az,h'⟩:=h.cons;rw[ak9,ak9,d5.any k h',ao]
def d5.put(k:κ){v:V}(hd:Rep K mg O H d v)(h:d5 K mg O H ai dA):d5 K mg O H (fm ai k d) (putK dA k v):=by
 unfold fm putK;rw[d5.any k h];split
 .rename_i l3
  clear l3
  induction ai generalizing dA with
  |nil=>obtain rfl:=h.vE;exact⟨rfl,rfl⟩
  |cons p ai a8=>
   obtain⟨q,r,rfl,ao,az,h'⟩:=h.cons;rw[ajw,ajw]
   by_cases ax:p.1=k
   .rw[if_pos ax,if_pos (ao▸ax)];exact d5.mk' ao hd (a8 h')
   .rw[if_neg ax,if_neg (ao▸ax)];exact d5.mk' ao az (a8 h')
 .exact⟨by rw[akd,akd,h.1];rfl,by rw[akd,akd];exact h.2.append (.one hd)⟩
theorem d5.iI(k:κ){v:V}(hd:Rep K mg O H d v):∀{ai:List (κ×D)}{dA:List (κ×V)},d5 K mg O H ai dA->d5 K mg O H (a0.iI k d ai) (a0.iI k v dA)
 |[],dA,h=>by obtain rfl:=h.vE;exact⟨rfl,_,_,rfl,hd,rfl⟩
 |p::ai,dA,h=>by
  obtain⟨q,r,rfl,ao,az,h'⟩:=h.cons;obtain⟨p1,dG⟩:=p;obtain⟨bq,b1⟩:=q;cases(show p1=bq from ao);unfold a0.iI;split
  .exact d5.mk' rfl hd h'
  .exact d5.mk' rfl az (d5.iI k hd h')
theorem d5.lookup:∀{ai:List (Str×D)}{dA:List (Str×V)},d5 K mg O H ai dA->ai.lookup f=some d->∃v,dA.lookup f=some v/\Rep K mg O H d v
 |[],dA,h,e=>by cases e
 |p::ai,dA,h,e=>by
  obtain⟨q,r,rfl,ao,az,h'⟩:=h.cons;obtain⟨p1,dG⟩:=p;obtain⟨bq,b1⟩:=q;cases(show p1=bq from ao);rw[akb]at e ⊢
  cases c6:f==p1 with
  |true=>rw[c6]at e;cases e;exact⟨b1,rfl,az⟩
  |false=>rw[c6]at e;exact d5.lookup h' e
end
variable[aF.a7]
section
variable{K:aS}{mg:bt}{O:a4}{Y:aR}{S av:cA}{ar:St}{H:aw}{r:R}{v:V}{o:hL}
def zf(st:cy K mg O Y S ar H)(aB:eW K mg O H r v)(h:(gm r).run S=.ok o av):∃a,v=.ref a/\a∈O.bJ/\mU K mg O H a o:=by
 obtain⟨n,rfl,e,rfl⟩:=LP h;obtain⟨a,bw,ho⟩:=st.gK n o e;obtain⟨b,c6,mw⟩:=aB;rw[bw]at mw;cases mw;exact⟨a,c6,aka bw,ho⟩
def CY{v:V}{k:Key}(h:Rep K mg O H d v)(e:pN d=some k):v=cB k:=by
 cases d<;>cases e<;>exact h
end
structure oY(K:aS)(mg:bt)(c:Str)(aZ:List Str):Prop where
 ex:∃C,mg c=some (.ref C)/\i6 K C/\(W.makesIn K C=true/\alm K (.ref C)=true)/\∀f∈aZ,qp K C f
def cQ(c f:Str)(r:R):M R:=do
 let o <-gm r
 match o with
 |.bC c' aZ=>if c'=c then(match aZ.lookup f with
  |some d=>pure (.v d)| none=>bad)else bad
 |_=>bad
def er(r k:R):M R:=do
 let o <-gm r
 match o,k with
 |.f6 ai,.v dN=>match pN dN with
  |some key=>match ig ai key with
   |some d=>pure (.v d)|none=>bad
  |none=>bad
 |_,_=>bad
def qY:List R->Option (List Key)
 |[]=>some []|.v d::rs=>match pN d,qY rs with
  |some k,some bc=>some (k::bc)|_,_=>none
 |_::_=>none
def xy(m:bp)(ms:cV)(ny:bp):bp:=λY=>do
 let x <-m Y
 let rs <-ms Y
 let z <-ny Y
 let o <-gm x
 match o,qY rs,z with
 |.eY ai,some k,.v qk=>if rs.length<=1000 then pure (.v ((ig ai k).getD qk))else bad|_,_,_=>bad
def lT(m:bp):bp:=λY=>do
 let x <-m Y
 let o <-gm x
 match o with
 |.lst xs=>pure (.mv xs)|_=>bad
theorem CZ{O:a4}:∀{rs:List R}{vs:List V}{bc:List Key},qY rs=some bc->gq K mg O H rs vs->vs=bc.map cB
 |[],vs,bc,e,h=>by cases e;exact h
 |r::rs,vs,bc,e,h=>by
  obtain⟨v,E6,rfl,af,ah⟩:=h
  cases r with
  |v d=>
   unfold qY at e;split at e
   .rename_i k aiT ao az
    cases e;rw[ajw,CZ az ah,CY (show Rep K mg O H d v from af) ao]
   .cases e
  |_=>cases e
def Qg:eh K mg (fun x y H Q=>∃a v,x=.ref a/\k3 H a y (some v)/\Q v H) er:=fun O Y S ar H x y a9 bA bP av Q st ag ba h q=>by
 obtain⟨o,S1,af,h'⟩:=M.inv h;clear h;have h:=h';clear h';obtain⟨a,rfl,_,ho⟩:=zf st ag af;obtain rfl:=(gm a9).ec _ _ _ af;split at h
 .rename_i ai dN
  split at h
  .rename_i key fS
   have bR:=ho;obtain⟨dA,l,iu⟩:=ho;have rA:=iu.val key
   cases dX:ig ai key with
   |none=>rw[dX]at h;cases h
   |some d=>
    rw[dX]at h rA;cases h;obtain⟨v,ao,az⟩:=rA;refine⟨a,v,rfl,?_,q O v H (Go.refl _ _) st az trivial⟩;rw[CY (show Rep K mg O H dN y from ba) fS,<-ao];exact k3.k l
  .cases h
 .cases h
section
variable{X:aU}{e o i f:Expr}{ay:List Expr}{m mo Lw ny:bp}{ms:cV}{pos apos dk vd:Pos}{c a:Str}{ns:List Str}
theorem afn(T:oY X.K X.mg c ns)(hf:a∈ns)(he:bk X e m)(ab:ak8 e a X.env (eval e X.env)=eval e X.env:=by rfl):bk X (.Attribute e a pos) (bS (cQ c a) m):=⟨ee (abi he.un ab) λar H Q aX=>by
 obtain⟨O,Y,S,r,av,st,h,q⟩:=aX;obtain⟨x,S1,af,h0⟩:=M.inv h;clear h;refine⟨O,Y,S,x,S1,st,af,λaL f_ H1 g1 aT a9 bo=>?_⟩;obtain⟨o,a6,ah,h'⟩:=M.inv h0;clear h0;have h:=h';clear h';obtain⟨b,rfl,_,ho⟩:=zf aT a9 ah;obtain rfl:=(gm x).ec _ _ _ ah;split at h
 .rename_i c' aZ
  split at h
  .rename_i aI
   subst aI
   cases el:aZ.lookup a with
   |none=>rw[el]at h;cases h
   |some d=>
    rw[el]at h;cases h;obtain⟨C,b8,jD,d7,ci,iu⟩:=ho;obtain⟨lL,ao,az,_,e6⟩:=T.ex;cases ao.symm.trans ci.1;obtain⟨v,ev,bR⟩:=iu.lookup el;exact⟨b,C,b8,jD,v,rfl,d7,az,e6 a hf,ev,q aL v H1 g1 aT bR trivial⟩
  .cases h
 .cases h⟩
def afw(cx:X.A.units+64<cLine)(bg:bk X o mo)(aA:bk X i Lw)(aC:tU i:=by intro _ _;rfl):bk X (.Subscript o i pos) (ae er mo Lw):=⟨ee (abe (by omega) bg.un aA.un aC) (t9 Qg)⟩
theorem afJ{lI}(cx:X.A.units+64<cLine)(he:bk X o m)(ax:gD X ay ms)(hf:bk X f ny)(ah:M2 X o "get" apos (.Tuple ay lI vd) f dk:=by exact⟨rfl,rfl,rfl,rfl⟩):bk X (.Call (.Attribute o "get" apos) [.Tuple ay lI vd,f] [] dk) (xy m ms ny):=
 ⟨ee (abf (by omega) he.un (D9 ax.un) hf.un ah) λar H Q aX=>by
  obtain⟨O,Y,S,r,av,st,h,q⟩:=aX;obtain⟨x,S1,af,aq⟩:=M.inv h;clear h;obtain⟨rs,a6,ah,ab⟩:=M.inv aq;clear aq;obtain⟨z,ia,bN,aI⟩:=M.inv ab;clear ab;obtain⟨o,hx,dz,h⟩:=M.inv aI;clear aI;obtain rfl:=(m Y).ec _ _ _ af;obtain rfl:=(ms Y).ec _ _ _ ah;obtain rfl:=(ny Y).ec _ _ _ bN;obtain rfl:=(gm x).ec _ _ _ dz;split at h
  .rename_i ai k qk fS
   by_cases c:rs.length<=1000
   .rw[if_pos c]at h
    cases h;refine⟨O,Y,_,x,_,st,af,λaL f_ H1 g1 aT a9 bo=>?_⟩;obtain⟨a,rfl,_,xs,l,ji⟩:=zf aT a9 dz;refine⟨a,rfl,.inr ⟨xs,.inl l⟩,aL,Y,_,rs,_,aT,ah,λbu vs aM g2 cK br nn=>?_⟩;have ev:=CZ fS br;refine⟨akG (eS (by rw[gq.len br];exact c)),λp aH=>?_⟩;refine⟨bu,Y,_,_,_,cK.fz aH,bN,λeV ajg cP g3 f9 jM DK=>?_⟩;have g:=g2.trans ((Go.fz aH).trans g3);refine⟨_,k3.t (k:=k) (g.same.at' _ _ l) (by rw[<-ev];exact g3.same.at' _ _ dx),?_⟩;have rA:=(show d5 X.K X.mg eV cP ai xs from⟨ji.1,ji.2.go g⟩).val k;refine q eV _ cP (g1.trans g) f9 ?_ trivial;show Rep _ _ _ _ ((ig ai k).getD qk) _
    cases dX:ig ai k with
    |none=>rw[dX]at rA;rw[rA];exact jM|some d=>rw[dX]at rA;obtain⟨v,ao,az⟩:=rA;rw[ao];exact az
   .rw[if_neg c]at h;cases h
  .cases h⟩
def Zs{ar:St}{H:aw}{Q:c9}{O:a4}{Y:aR}{S S1 av:cA}{x r:R}{g:List D->R}(st:cy X.K X.mg O Y S ar H)(af:(m Y).run S=.ok x S1)
  (h:(do let o <-gm x;match o with|.lst xs=>pure (g xs)|_=>bad:M R).run S1=.ok r av) (q:w3 X.K X.mg O Y av ar H r Q)
  (aY:∀aj H' xs a ys,aj a=.out->H' a=some (.lst ys)->bj X.K X.mg aj H' xs ys->eW X.K X.mg aj H' (g xs) (.ref a)/\jv H (g xs) (.ref a)):fs X.K X.mg m ar H Q:=by
 obtain⟨o,a6,ah,h'⟩:=M.inv h;clear h;have h:=h';clear h';refine⟨O,Y,S,x,S1,st,af,λaL f_ H1 g1 aT a9 bo=>?_⟩;obtain⟨a,rfl,c2,ho⟩:=zf aT a9 ah;obtain rfl:=(gm x).ec _ _ _ ah;split at h
 .cases h
  obtain⟨ys,l,bw⟩:=ho;obtain⟨ff,ew⟩:=aY aL H1 _ a ys (aT.cg.cn.2 a c2) l bw;exact q aL _ H1 g1 aT ff ew
 .cases h
theorem afx(he:bk X e m):bk X e (lT m):=⟨ee he.un λar H Q aX=>by
 obtain⟨O,Y,S,r,av,st,h,q⟩:=aX;obtain⟨x,S1,af,h⟩:=M.inv h;exact Zs st af h q λaj H' xs a ys _ l bw=>⟨⟨a,ys,rfl,l,bw⟩,trivial⟩⟩
end
end a0
namespace a0
open PySem PySem.Spec aF
structure N(α:Type):Type where
 run:cA->Out α
def N.jY{α β:Type}(m:N α)(f:α->N β):N β:=⟨λS=>match m.run S with
 |.ok a av=>(f a).run av|.exc c av=>.exc c av| .bad=>.bad⟩
instance:Monad N where
 pure a:=⟨λS=>.ok a S⟩
 bind:=N.jY
def N.inv{α β:Type}{m:N α}{f:α->N β}{S av:cA}{b:β}(h:(m >>= f).run S=.ok b av):∃a S1,m.run S=.ok a S1/\(f a).run S1=.ok b av:=by
 have h:(N.jY m f).run S=.ok b av:=h;unfold N.jY at h;dsimp only at h
 cases e:m.run S with
 |ok a S1=>rw[e]at h;exact⟨a,S1,rfl,h⟩|exc c S1=>rw[e]at h;cases h
 |bad=>rw[e]at h;cases h
def gH{α:Type}:N α:=⟨λ_=>.bad⟩
def M.up{α:Type}(m:M α):N α:=⟨m.run⟩
def uD:N cA:=⟨λS=>.ok S S⟩
def putN(S:cA):N Unit:=⟨λ_=>.ok () S⟩
abbrev ed:=aR->N R
abbrev hM:=aR->N (List R)
abbrev bl:=aR->N fX
abbrev e':=List D->N R
variable[aF.a7]
structure fE(O aj:a4)(H H':aw):Prop where
 cells:∀b o,H b=some o->(b∉O.bJ\/Fix o)->(h:oy o:=by exact trivial)->H' b=some o
 own:∀b,H b≠none->aj b=O b
 has:∀b,H b≠none->H' b≠none
 cU:∀b ps,H b=some (.gp ps)->∃kM,H' b=some (.gp kM)
 bT:TabsOk H->TabsOk H'
 bJ:O.bJ <+: aj.bJ
 new:∀b∈aj.bJ,b∈O.bJ\/H b=none
structure hg(O aj:a4)(H H':aw):Prop where
 cells:∀b o,H b=some o->(((O b=.free\/O b=.out)/\b∉O.bJ)\/Fix o)->(h:oy o:=by exact trivial)->H' b=some o
 own:∀b,H b≠none->(O b=.free\/O b=.out)->aj b=O b
 has:∀b,H b≠none->H' b≠none
 cU:∀b ps,H b=some (.gp ps)->∃kM,H' b=some (.gp kM)
 bT:TabsOk H->TabsOk H'
 bJ:O.bJ <+: aj.bJ
 new:∀b∈aj.bJ,b∈O.bJ\/H b=none
structure cJ(O aj:a4)(H H':aw):Prop where
 cells:∀b o,H b=some o->((O b=.free/\b∉O.bJ/\∃ys,o=.lst ys)\/Fix o)->(h:oy o:=by exact trivial)->H' b=some o
 own:∀b ys,H b=some (.lst ys)->O b=.free->aj b=.free
 bJ:O.bJ <+: aj.bJ
section
variable{K:aS}{mg:bt}{O aL bu aj:a4}{H H1 aM H':aw}{S av:cA}{Y Y':aR}{ar dc:St}
omit [aF.a7]in
theorem jl(e:H b=some o):H b≠none:=λz=>by rw[e]at z;cases z
def Go.dM(g:Go O aj H H'):fE O aj H H':=⟨λb o e _ n=>g.same.at' b o e n,g.own,λ_ h=>g.same.some h,g.same.cU,g.same.bT,by rw[g.bJ];exact anY _,λb h=>.inl (by rw[<-g.bJ];exact h)⟩
def ei.eQ(g:ei O aj H H'):hg O aj H H':=⟨λb o e h n=>g.cells b o e (h.elim (λz=>z.1.elim .inl λz=>.inr (.inl z)) λz=>.inr (.inr z)) n,g.own,g.has,g.cU,g.bT,by rw[g.bJ];exact anY _,λb h=>.inl (by rw[<-g.bJ];exact h)⟩
def fE.eQ(g:fE O aj H H'):hg O aj H H':=⟨λb o e h n=>g.cells b o e (h.imp (·.2) id) n,λb h _=>g.own b h,g.has,g.cU,g.bT,g.bJ,g.new⟩
def fE.trans(a:fE O aL H H1)(b:fE aL bu H1 aM):fE O bu H aM:=
  ⟨λc o e h n=>b.cells c o (a.cells c o e h n) (h.imp (λz m=>(a.new c m).elim z (jl e)) id) n,λc h=>(b.own c (a.has c h)).trans (a.own c h),λc h=>b.has c (a.has c h),λc ps h=>let⟨p1,ao⟩:=a.cU c ps h;b.cU c p1 ao,λg=>b.bT (a.bT g),
   a.bJ.trans b.bJ,λc m=>(b.new c m).elim (a.new c) λz=>.inr (by cases e:H c with|none=>rfl|some o=>exact absurd z (a.has c (jl e)))⟩
def hg.trans(a:hg O aL H H1)(b:hg aL bu H1 aM):hg O bu H aM:=
  ⟨λc o e h n=>b.cells c o (a.cells c o e h n) (h.imp (λz=>⟨by rw[a.own c (jl e) z.1];exact z.1,λm=>(a.new c m).elim z.2 (jl e)⟩) id) n,
   λc h f=>(b.own c (a.has c h) (by rw[a.own c h f];exact f)).trans (a.own c h f),λc h=>b.has c (a.has c h),λc ps h=>let⟨p1,ao⟩:=a.cU c ps h;b.cU c p1 ao,λg=>b.bT (a.bT g),
   a.bJ.trans b.bJ,λc m=>(b.new c m).elim (a.new c) λz=>.inr (by cases e:H c with|none=>rfl|some o=>exact absurd z (a.has c (jl e)))⟩
def hg.kB(g:hg O aj H H'):cJ O aj H H':=⟨λb o e h n=>g.cells b o e (h.imp (λz=>⟨.inl z.1,z.2.1⟩) id) n,λb ys e f=>(g.own b (jl e) (.inl f)).trans f,g.bJ⟩
def cJ.wj(g:cJ O aj H H')(h:dI K H a ys):dI K H' a ys:=by
 rcases h with(h|⟨o,h⟩)|h
 .exact .inl (.inl (g.cells _ _ h (.inr (.inl ⟨_,rfl⟩))))
 .exact .inl (.inr ⟨o,g.cells _ _ h (.inr (.inr ⟨_,_,rfl⟩))⟩)
 .exact .inr h
omit [aF.a7]in
theorem jw.no(r:jw O)(h:O a=w)(hw:w≠.out):a∉O.bJ:=λm=>hw (h.symm.trans (r.2 a m))
mutual
theorem Rep.kB(g:cJ O aj H H')(cn:jw O):∀{d:D}{v:V},Rep K mg O H d v->Rep K mg aj H' d v
 |.aQ,_,h=>h|.aE _,_,h=>h|.int _,_,h=>h|.str _,_,h=>h| .tup _,_,h=>by obtain⟨a,ys,q,l,r⟩:=h;exact⟨a,ys,q,g.wj l,bj.kB g cn r⟩
 |.lst _,_,h=>by obtain⟨a,ys,q,l,r⟩:=h;exact⟨a,ys,q,⟨g.cells _ _ l.1 (.inl ⟨l.2,cn.no l.2 (by intro z;cases z),_,rfl⟩),g.own a _ l.1 l.2⟩,bj.kB g cn r⟩
 |.ref _,_,h=>by
  obtain⟨a,q,l⟩:=h;obtain⟨t,e⟩:=g.bJ;exact⟨a,q,by rw[<-e,ajR (ajs.mp l).1];exact l⟩
 |.fn _,_,h=>h|.ty _,_,h=>h
theorem bj.kB(g:cJ O aj H H')(cn:jw O):∀{ds:List D}{ys:List V},bj K mg O H ds ys->bj K mg aj H' ds ys
 |[],_,h=>h| _::_,_,h=>by obtain⟨x,r,q,a,b⟩:=h;exact⟨x,r,q,Rep.kB g cn a,bj.kB g cn b⟩
end
def bj.eQ(g:hg O aj H H')(cn:jw O)(h:bj K mg O H ds ys):bj K mg aj H' ds ys:=h.kB g.kB cn
def Rep.dM(g:fE O aj H H')(cn:jw O){v:V}(h:Rep K mg O H d v):Rep K mg aj H' d v:=h.kB g.eQ.kB cn
def bj.dM(g:fE O aj H H')(cn:jw O)(h:bj K mg O H ds ys):bj K mg aj H' ds ys:=h.eQ g.eQ cn
def R.i3:R->Bool
 |.v _=>true|.fr _=>true|_=>false
def eW.dM(g:fE O aj H H')(cn:jw O){r:R}{v:V}(aC:r.i3=true)(h:eW K mg O H r v):eW K mg aj H' r v:=by
 cases r with
 |v d=>exact Rep.dM g cn h| fr xs=>obtain⟨a,ys,q,l,o,r⟩:=h;exact⟨a,ys,q,g.cells _ _ l (.inl (cn.no o (by intro z;cases z))),(g.own a (jl l)).trans o,r.dM g cn⟩
 |bF xs=>cases aC
 |mv xs=>cases aC
def jv.dM(g:fE O aj H H'):∀{r:R}{v:V},jv H' r v->jv H r v
 |.v _,_,_=>trivial|.bF _,_,_=>trivial|.mv _,_,_=>trivial|.fr _,_,h=>λa e=>by
  cases ao:H a with
  |none=>rfl|some o=>exact absurd (h a e) (g.has a (jl ao))
def lN(K:aS)(O:a4)(H:aw)(a:Addr)(ys:List V):Prop:=(f3 H a (.lst ys)/\(O a=.free\/O a=.out)/\a∉O.bJ)\/As K a ys
structure eD(K:aS)(mg:bt)(O:a4)(Y:aR)(S:cA)(ar:St)(H:aw):Prop where
 s3:cy K mg O Y S ar H
 full:O.bJ.length=S.length
 tF:∀(i:Nat)(xs:List D),Y[i]? = some (.bF xs)->∃a ys,ar[i]?.join=some (.ref a)/\lN K O H a ys/\bj K mg O H xs ys
def lN.eQ(g:hg O aj H H')(h:lN K O H a ys):lN K aj H' a ys:=by
 rcases h with⟨h,f,m⟩|h
 .have aG:H a≠none:=f3.some h
  refine .inl ⟨?_,by rw[g.own a aG f];exact f,λz=>(g.new a z).elim m aG⟩;rcases h with h|⟨o,h⟩
  .exact .inl (g.cells _ _ h (.inl ⟨f,m⟩))
  .exact .inr ⟨o,g.cells _ _ h (.inl ⟨f,m⟩)⟩
 .exact .inr h
def lN.v(h:lN K O H a ys):h8 K O H a ys:=h.imp (λz=>⟨z.1,z.2.1⟩) id
def eD.go(s:eD K mg O Y S ar H)(g:Go O aj H H')(d:c5 aj H'):eD K mg aj Y S ar H':=
 ⟨s.s3.go g d,by rw[g.bJ];exact s.full,λi xs e=>by obtain⟨a,ys,ao,l,r⟩:=s.tF i xs e;exact⟨a,ys,ao,l.eQ g.aD.eQ,r.go g⟩⟩
def eD.aD(s:eD K mg O Y S ar H)(g:ei O aj H H')(k:e4 Y Y' ar dc)(t:cy K mg aj Y' S dc H'):eD K mg aj Y' S dc H':=
 ⟨t,by rw[g.bJ];exact s.full,λi xs e=>by
  obtain⟨d6,ev⟩:=k.1 i xs e;obtain⟨a,ys,ao,l,r⟩:=s.tF i xs d6;exact⟨a,ys,by rw[ev];exact ao,l.eQ g.eQ,bj.aD g r⟩⟩
def eD.dM(s:eD K mg O Y S ar H)(g:fE O aj H H')(d:c5 aj H')(e2:gu K mg aj H' av)(a_:aj.bJ.length=av.length):eD K mg aj Y av ar H':=by
 have cn:=s.s3.cg.cn;have bF:∀(i:Nat)(xs:List D),Y[i]? = some (.bF xs)->∃a ys,ar[i]?.join=some (.ref a)/\lN K aj H' a ys/\bj K mg aj H' xs ys:=λi xs e=>by
  obtain⟨a,ys,ao,l,r⟩:=s.tF i xs e;exact⟨a,ys,ao,l.eQ g.eQ,r.dM g cn⟩
 refine⟨⟨d,s.s3.len,λi t e=>?_,e2⟩,a_,bF⟩;have l:=s.s3.loc i t e
 cases t with
 |e=>exact trivial|v d=>obtain⟨v,q,r⟩:=l;exact⟨v,q,r.dM g cn⟩
 |c7 p xs=>obtain⟨a,ys,q,o,l,r⟩:=l;exact⟨a,ys,q,(g.own a (jl l)).trans o,g.cells _ _ l (.inl (cn.no o (by intro z;cases z))),r.dM g cn⟩
 |bF xs=>obtain⟨a,ys,ao,l,r⟩:=bF i xs e;exact⟨a,ys,ao,l.v,r⟩
end
inductive rT{α:Type}(K:aS)(mg:bt)(m:aR->N α)(ar:St)(H:aw)(P:a4->aR->cA->α->Prop):Prop
 |mk (O:a4) (Y:aR) (S:cA) (x:α) (av:cA) (st:eD K mg O Y S ar H) (h:(m Y).run S=.ok x av) (q:P O Y av x):rT K mg m ar H P
def rJ(K:aS)(mg:bt)(m:ed):TE:=λar H Q=>rT K mg m ar H λO Y av r=>∀aj v H',fE O aj H H'->eD K mg aj Y av ar H'->eW K mg aj H' r v->jv H r v->Q v H'
def Ph(K:aS)(mg:bt)(m:aR->N Bool):TT:=λar H Q=>rT K mg m ar H λO Y av b=>∀aj H',fE O aj H H'->eD K mg aj Y av ar H'->Q b H'
def Aa(K:aS)(mg:bt)(m:hM):gv:=λar H Q=>rT K mg m ar H λO Y av rs=>∀aj vs H',fE O aj H H'->eD K mg aj Y av ar H'->gq K mg aj H' rs vs->km H rs vs->Q vs H'
def tX(K:aS)(mg:bt)(O:a4)(av:cA)(H:aw)(a_:fX)(hJ:Ends):Prop:=match a_ with
 |.bo Y'=>∀aj dc H',hg O aj H H'->eD K mg aj Y' av dc H'->hJ.bo dc H'|.cG Y'=>∀aj dc H',hg O aj H H'->eD K mg aj Y' av dc H'->hJ.cG dc H'|.ct Y'=>∀aj dc H',hg O aj H H'->eD K mg aj Y' av dc H'->hJ.ct dc H'|.cZ r=>∀aj v H',hg O aj H H'->c5 aj H'->gu K mg aj H' av->aj.bJ.length=av.length->Ax K mg aj H' r v->hJ.cZ v H'
def tX.eQ{O aL:a4}(h:tX K mg O av H a_ hJ)(g:hg O aL H H1):tX K mg aL av H1 a_ hJ:=by
 cases a_ with
 |bo Y'=>exact λaj dc H' g'=>h aj dc H' (g.trans g')
 |cG Y'=>exact λaj dc H' g'=>h aj dc H' (g.trans g')
 |ct Y'=>exact λaj dc H' g'=>h aj dc H' (g.trans g')
 |cZ r=>exact λaj v H' g'=>h aj v H' (g.trans g')
def rK(K:aS)(mg:bt)(m:bl):hh:=λhJ ar H=>rT K mg m ar H λO _ av a_=>tX K mg O av H a_ hJ
section
variable(X:aU)
structure d_(e:Expr)(m:ed):Prop where
 un:bV X e (rJ X.K X.mg m)
structure ks(e:Expr)(m:aR->N Bool):Prop where
 un:iM X e (Ph X.K X.mg m)
structure rY(e:Expr)(m:aR->N Bool):Prop where
 un:k7 X e (Ph X.K X.mg m)
structure nT(ay:List Expr)(m:hM):Prop where
 un:eN X ay (Aa X.K X.mg m)
structure gQ(st:Stmt)(m:bl):Prop where
 un:iK X st (rK X.K X.mg m)
structure jX(tu:List Stmt)(m:bl):Prop where
 un:iL X tu (rK X.K X.mg m)
end
def da(m:bp):ed:=λY=>(m Y).up
def e_(m:aR->M Bool):aR->N Bool:=λY=>(m Y).up
def eU(m:cV):hM:=λY=>(m Y).up
def b9(m:a3):bl:=λY=>(m Y).up
section
variable{X:aU}{e:Expr}{ay:List Expr}{m:bp}{t:aR->M Bool}{ms:cV}{b:a3}{st:Stmt}{tu:List Stmt}
theorem agB(h:bk X e m):d_ X e (da m):=⟨ee h.un λar H Q aX=>by
 obtain⟨O,Y,S,r,av,st,h,q⟩:=aX;obtain rfl:=(m Y).ec _ _ _ h;exact⟨O,Y,av,r,av,st.s3,h,λaL v H1 g1 aT br nn=>q aL v H1 g1.dM (st.go g1 aT.cg) br nn⟩⟩
theorem agV(h:fH X e t):ks X e (e_ t):=⟨rj h.un λar H Q aX=>by
 obtain⟨O,Y,S,r,av,st,h,q⟩:=aX;obtain rfl:=(t Y).ec _ _ _ h;exact⟨O,Y,av,r,av,st.s3,h,λaL H1 g1 aT=>q aL H1 g1.dM (st.go g1 aT.cg)⟩⟩
theorem agq(h:gD X ay ms):nT X ay (eU ms):=⟨zq h.un λar H Q aX=>by
 obtain⟨O,Y,S,r,av,st,h,q⟩:=aX;obtain rfl:=(ms Y).ec _ _ _ h;exact⟨O,Y,av,r,av,st.s3,h,λaL v H1 g1 aT br nn=>q aL v H1 g1.dM (st.go g1 aT.cg) br nn⟩⟩
theorem Pg:∀D ar H,rK K mg (b9 b) D ar H->ki K mg b D ar H:=by
 rintro D ar H ⟨O,Y,S,a_,av,st,h,q⟩;obtain rfl:=(b Y).ec _ _ _ h;refine⟨O,Y,av,a_,av,st.s3,h,?_⟩
 cases a_ with
 |bo Y'=>exact λaj dc H' g t k=>q aj dc H' g.eQ (st.aD g k t)
 |cG Y'=>exact λaj dc H' g t k=>q aj dc H' g.eQ (st.aD g k t)
 |ct Y'=>exact λaj dc H' g t k=>q aj dc H' g.eQ (st.aD g k t)
 |cZ r=>exact λaj v H' g d e2 br=>q aj v H' g.eQ d e2 (by rw[g.bJ];exact st.full) br
def agP(h:fj X st b):gQ X st (b9 b):=⟨g5 h.un Pg⟩
def Pl(h:f5 X tu b):jX X tu (b9 b):=⟨zv h.un Pg⟩
end
end a0
namespace a0
open PySem PySem.Spec aF
def bK(a b:bl):bl:=λY=>do
 let a_ <-a Y
 match a_ with
 |.bo Y'=>b Y'|a_=>pure a_
def eL(t:aR->N Bool)(a b:bl):bl:=λY=>do
 let t <-t Y
 if t=true then a Y else b Y
def hr(i:Nat)(m:ed):bl:=λY=>do
 let r <-m Y
 let d <-r.dat.up
 pure (.bo (Y.set i (.v d)))
def lJ(m:ed):bl:=λY=>do
 let r <-m Y
 match r with
 |.v d=>pure (.cZ (.v d))|.fr xs=>pure (.cZ (.fr xs))|_=>gH
def jr(m:ed):bl:=λY=>do
 let _ <-m Y
 pure (.bo Y)
variable[aF.a7]
section
variable{K:aS}{mg:bt}{O o6:a4}{H H₀:aw}{S:cA}{Y:aR}{ar:St}
def eD.cj(s:eD K mg O Y S ar H)(H₀:aw):eD K mg (cj H₀ O) Y S ar H:=⟨s.s3.cj H₀,s.full,λi xs e=>by
 obtain⟨a,ys,ao,l,r⟩:=s.tF i xs e;refine⟨a,ys,ao,l.imp (λz=>⟨z.1,?_,z.2.2⟩) id,r.dr (ja _ _)⟩;rcases z.2.1 with f|f
 .exact .inl ((ja H₀ O).fr a f)
 .exact .inr (by rw[qE (by rw[f];intro z;cases z)];exact f)⟩
def fE.cj(g:fE o6 O H₀ H):fE o6 (cj H₀ O) H₀ H:=⟨λb o e h n=>g.cells b o e h n,λb ab=>(xZ ab).trans (g.own b ab),g.has,g.cU,g.bT,g.bJ,g.new⟩
def eD.set{v:V}(st:eD K mg O Y S ar H)(aC:∀xs,s≠.bF xs)(h:jx K mg O H (.loc i) s (some v)):eD K mg O (Y.set i s) S (ar.set i (some v)) H:=⟨st.s3.set h,st.full,λj xs e=>by
 by_cases aW:i=j
 .subst aW
  rw[akm (by have:=(ajs.mp e).1;rwa[akj]at this)]at e;exact absurd (ajT e) (aC xs)
 .rw[ajE aW]at e
  rw[ajE aW];exact st.tF j xs e⟩
end
section
variable{X:aU}{st:Stmt}{rest A B:List Stmt}{pos pos':Pos}{a b:bl}{e c:Expr}{m:ed}{t:aR->N Bool}{i:Nat}{x:Str}
def agT(h:gQ X st a):jX X [st] a:=⟨Mo h.un⟩
def agS(af:gQ X st a)(ah:jX X rest b):jX X (st::rest) (bK a b):=⟨zv (Mn af.un ah.un) λD ar H aX=>by
 obtain⟨O,Y,S,a_,av,st,h,q⟩:=aX;obtain⟨f1,S1,af,h⟩:=N.inv h;refine⟨O,Y,S,f1,S1,st,af,?_⟩
 cases f1 with
 |bo h6=>exact λaL wO H1 g1 aT=>⟨aL,h6,S1,a_,av,aT,h,q.eQ g1⟩
 |cZ r=>cases h;exact q
 |cG h6=>cases h;exact q
 |ct h6=>cases h;exact q⟩
theorem agN(aI:ks X c t)(aq:jX X A a)(ab:jX X B b):gQ X (.If c A B pos) (eL t a b):=⟨g5 (Mm aI.un aq.un ab.un) λD ar H aX=>by
 obtain⟨O,Y,S,a_,av,st,h,q⟩:=aX;obtain⟨t,S1,af,h⟩:=N.inv h;refine⟨O,Y,S,t,S1,st,af,λaL H1 g1 aT=>?_⟩
 cases t with
 |false=>
  rw[if_neg ajx]at h;exact oj ⟨aL,Y,S1,a_,av,aT,h,q.eQ g1.eQ⟩
 |true=>
  rw[if_pos rfl]at h;exact om ⟨aL,Y,S1,a_,av,aT,h,q.eQ g1.eQ⟩⟩
theorem agQ(he:d_ X e m):gQ X (.Return (some e) pos) (lJ m):=⟨g5 (Ef he.un) λD ar H aX=>by
 obtain⟨O,Y,S,a_,av,st,h,q⟩:=aX;obtain⟨r,S1,af,h⟩:=N.inv h;refine⟨O,Y,S,r,S1,st,af,λaL v H1 g1 aT br nn=>?_⟩
 cases r with
 |v d=>cases h;exact q aL v H1 g1.eQ aT.s3.cg aT.s3.gK aT.full br
 |fr xs=>cases h;exact q aL v H1 g1.eQ aT.s3.cg aT.s3.gK aT.full (MN br (.inr ⟨_,rfl⟩))
 |bF xs=>cases h
 |mv xs=>cases h⟩
theorem agK(he:d_ X e m)(aC:akP e none pos.line X.env=pure false:=by rfl):gQ X (.Expr e pos) (jr m):=⟨g5 (Ee he.un aC) λD ar H aX=>by
 obtain⟨O,Y,S,a_,av,st,h,q⟩:=aX;obtain⟨r,S1,af,h⟩:=N.inv h;cases h;exact⟨O,Y,S,r,_,st,af,λaL v H1 g1 aT br nn=>q aL ar H1 g1.eQ aT⟩⟩
theorem agR(hN:X.N.Nodup)(aA:X.N[i]? = some x)(ag:Loc X.env.scope x)(he:d_ X e m)(aC:akP e (some (.Name x pos')) pos.line X.env=pure false:=by rfl)(hf:X.fn x=true\/X.env.scope.names.lookup x=some .local:=by first|exact .inl rfl|exact .inr rfl|assumption) :
  gQ X (.Assign [.Name x pos'] e pos) (hr i m):=⟨g5 (Eg hN aA ag he.un aC hf) λD ar H aX=>by
 obtain⟨O,Y,S,a_,av,st,h,q⟩:=aX;obtain⟨r,S1,af,h⟩:=N.inv h;obtain⟨d,a6,ah,h⟩:=N.inv h;cases h;refine⟨O,Y,S,r,S1,st,af,λaL v H1 g1 aT br nn=>?_⟩;obtain⟨bh,rfl⟩:=pn (H₀:=H) br nn ah;exact q (cj H aL) _ H1 g1.cj.eQ ((aT.cj H).set (λxs z=>by cases z) ⟨v,rfl,bh⟩)⟩
end
def Aq(cm:iy)(O:a4)(H:aw)(ys:List V):Prop:=∀bu aM,hg O bu H aM->∀i,(i<ys.length->cm.go i aM/\∀x H',cm.oU i aM x H'->H'=aM/\ys[i]? = some x)/\(ys.length<=i->cm.stop i aM)
def OT(K:aS)(mg:bt)(m:fi):TI:=λar H R=>rT K mg (λY=>(m Y).up) ar H λO Y av xs=>∀aj H' cm ys,Go O aj H H'->eD K mg aj Y av ar H'->Aq cm aj H' ys->bj K mg aj H' xs ys->R cm H'
structure AE(X:aU)(ck e:Expr)(m:fi):Prop where
 un:ko X ck e (OT X.K X.mg m)
def sv(m:bp):fi:=λY=>do
 let r <-m Y
 match r with
 |.v (.lst xs)=>pure xs|.fr xs=>pure xs|_=>bad
def jR(b:D->bl):List D->bl
 |[]=>λY=>pure (.bo Y)
 |d::ds=>λY=>do
  let a_ <-b d Y
  match a_ with
  |.bo Y'=>jR b ds Y'|.ct Y'=>jR b ds Y'|.cG Y'=>pure (.bo Y')|.cZ r=>pure (.cZ r)
def O_(B:D->bl)(it:fi):bl:=λY=>do
 let ds <-(it Y).up
 jR B ds Y
abbrev nL(i:Nat)(it:fi)(b:bl):bl:=O_ (λd Y=>b (Y.set i (.v d))) it
section
variable{X:aU}{ck l iter:Expr}{m:bp}{a:Expr}{ms:cV}{pos p d3:Pos}{it:fi}{bd:bl}{body:List Stmt}{i:Nat}{x:Str}
theorem lN.J4{K:aS}{O:a4}{H:aw}{a:Addr}{xs:List V}(h:lN K O H a xs):Aq (lM K a) O H xs:=λbu aM g i=>CM (h.eQ g).v.dH aM (eE.refl _) i
theorem agF(au:bk X l m):AE X ck l (sv m):=⟨oG (Eb au.un) λar H R aX=>by
 obtain⟨O,Y,S,xs,av,st,h,q⟩:=aX;obtain rfl:=(sv m Y).ec _ _ _ h;obtain⟨r,S1,af,h⟩:=M.inv h;obtain rfl:=(m Y).ec _ _ _ af;refine⟨O,Y,S1,r,S1,st.s3,af,λaL v H1 g1 aT br nn=>?_⟩;have zL:=st.go g1 aT.cg;split at h
 .cases h
  obtain⟨a,ys,rfl,ls,bw⟩:=br;exact⟨a,rfl,⟨ys,ls.dH⟩,q aL H1 (lM X.K a) ys g1 zL (lN.J4 (.inl ⟨.inl ls.1,.inl ls.2,aT.cg.cn.no ls.2 (by intro z;cases z)⟩)) bw⟩
 .cases h
  obtain⟨a,ys,rfl,ls,t,bw⟩:=br;exact⟨a,rfl,⟨ys,dn.of ls⟩,q (cj H aL) H1 (lM X.K a) ys g1.cj (zL.cj H) (lN.J4 (.inl ⟨.inl ls,.inl (x1 (nn a rfl) t),aT.cg.cn.no t (by intro z;cases z)⟩)) (bw.dr (ja _ _))⟩
 .cases h⟩
theorem Yu{O:a4}(lo:Int)(n:Nat):Aq (o4 lo n) O H (nF lo n):=λbu aM _ i=>CO (H:=aM) lo n aM (eE.refl _) i
def agG(aY:eC X "range")(hm:X.mg "range"=none)(aq:gD X [a] ms)(aC:ajo [a] X.env=[(false,eval a X.env)]:=by rfl):AE X ck (.Call (.Name "range" p) [a] [] pos) (iE ms):=⟨oG (Ec aY hm aq.un aC) λar H R aX=>by
 obtain⟨O,Y,S,xs,av,st,h,q⟩:=aX;obtain rfl:=(iE ms Y).ec _ _ _ h;obtain⟨rs,S1,af,h⟩:=M.inv h;obtain rfl:=(ms Y).ec _ _ _ af;split at h
 .rename_i j
  by_cases c:-(2 ^ 62)<=j/\j<2 ^ 62
  .rw[if_pos c]at h
   cases h;refine⟨O,Y,S1,_,S1,st.s3,af,λaL vs H1 g1 aT br nn=>?_⟩;obtain⟨v,rfl,bR⟩:=lF br;cases(show v=.int j from bR);exact⟨j,rfl,c.1,c.2,q aL H1 (o4 0 j.toNat) (nF 0 j.toNat) g1 (st.go g1 aT.cg) (Yu _ _) (MT _ _)⟩
  .rw[if_neg c]at h;cases h
 .cases h⟩
theorem Zx{K:aS}{mg:bt}{cm:iy}{G:i'}{B:a0.D->bl}{items:List a0.D}{aL:a4}{Y:aR}{S1 av:cA}{ar:St}{H1:aw}{a_:fX}{hJ:Ends}(aT:eD K mg aL Y S1 ar H1)(stop:∀aj H',hg aL aj H1 H'->cm.stop items.length H')
  (step:∀k d aj H' Y' hv dc f a6,items[k]? = some d->hg aL aj H1 H'->eD K mg aj Y' hv dc H'->(B d Y').run hv=.ok f a6->cm.go k H'/\∀x aM (R:St->aw->Prop),cm.oU k H' x aM->
   (∀ix kj cP,hg aj aj H' cP->eD K mg aj ix hv kj cP->(bd ix).run hv=.ok f a6->R kj cP)->G x dc aM R)
  (h:(jR B items Y).run S1=.ok a_ av) (q:tX K mg aL av H1 a_ hJ):rt (λ_ _ R=>R cm H1) G (rK K mg bd) hJ ar H1:=by
 refine⟨λk m dc H'=>m=items.length-k/\k<=items.length/\∃aj Y' hv,eD K mg aj Y' hv dc H'/\hg aL aj H1 H'/\(jR B (items.drop k) Y').run hv=.ok a_ av,
  ⟨_,rfl,ajN _,aL,Y,S1,aT,(ei.refl _ _).eQ,h⟩,?_⟩
 rintro k m dc H' ⟨rfl,ax,aj,Y',hv,cc,g',h⟩
 cases e:items.drop k with
 |nil=>
  obtain rfl:k=items.length:=by
   have:=congrArg akN e;rw[akw,ako]at this;omega
  rw[e]at h;cases h;exact .inl ⟨stop aj H' g',q aj dc H' g' cc⟩
 |cons d m2=>
  have fx:k<items.length:=by
   have:=congrArg akN e;rw[akw,ajC]at this;omega
  have dX:items[k]? = some d:=by
   have:=congrArg (·[0]?) e;simpa using this
  have cz:items.drop (k+1)=m2:=by
   have:=congrArg (anj 1) e;simpa[al7]using this
  rw[e]at h;obtain⟨f1,a6,ah,h⟩:=N.inv h;obtain⟨go,mJ⟩:=step k d aj H' Y' hv dc f1 a6 dX g' cc ah;refine .inr ⟨go,λhs aM=>∃bu dQ a6,eD K mg bu dQ a6 hs aM/\hg aL bu H1 aM/\(jR B (items.drop (k+1)) dQ).run a6=.ok a_ av,?_,λx aM jS=>mJ x aM _ jS λix kj cP iQ mB ab=>?_⟩
  .rintro hs aM ⟨bu,dQ,a6,a1,a2,eO⟩
   exact⟨_,by omega,rfl,fx,bu,dQ,a6,a1,a2,eO⟩
  .refine⟨aj,ix,hv,f1,a6,mB,ab,?_⟩
   have g3:=g'.trans iQ
   cases f1 with
   |bo dQ=>exact λbu hs aM g2 cK=>⟨bu,dQ,a6,cK,g3.trans g2,by rw[cz];exact h⟩
   |ct dQ=>exact λbu hs aM g2 cK=>⟨bu,dQ,a6,cK,g3.trans g2,by rw[cz];exact h⟩
   |cG dQ=>cases h;exact λbu hs aM g2 cK=>q bu hs aM (g3.trans g2) cK
   |cZ r=>cases h;exact λbu v aM g2 c1 az f2 b_=>q bu v aM (g3.trans g2) c1 az f2 b_
theorem Vi{G:i'}{B:a0.D->bl}(pz:∀O Y S ar H d y f a6 Q,eD K mg O Y S ar H->Rep K mg O H d y->(B d Y).run S=.ok f a6->(∀ix kj,eD K mg O ix S kj H->(bd ix).run S=.ok f a6->Q kj H)->G y ar H Q) :
  ∀D ar H,rK K mg (O_ B it) D ar H->rt (OT K mg it) G (rK K mg bd) D ar H:=by
 rintro D ar H ⟨O,Y,S,a_,av,st,h,q⟩;obtain⟨ds,S1,af,h⟩:=N.inv h;refine⟨O,Y,S,ds,S1,st,af,λaL H1 cm ys g1 aT its bw=>Zx aT (λaj H' g=>(its aj H' g _).2 (ak2 bw.len)) (λk d aj H' Y' hv dc f a6 dX g' cc ah=>?_) h (q.eQ g1.aD.eQ)⟩;obtain⟨y,e7,bA⟩:=(bw.eQ g' aT.s3.cg.cn).get dX;obtain⟨go,mJ⟩:=(its aj H' g' k).1 (ajs.mp e7).1;refine⟨go,λx aM R jS eG=>?_⟩;obtain⟨rfl,ex⟩:=mJ x aM jS;rw[e7]at ex;cases ex;exact pz _ _ _ _ _ _ _ _ _ _ cc bA ah λix kj mB ab=>eG _ _ _ (ei.refl _ _).eQ mB ab
def agM(aH:anf (model X.prog X.w) X.A X.env X.dU)(aI:X.calm=true)(aA:AE X (.Name x d3) iter it)(hN:X.N.Nodup)(ag:X.N[i]? = some x)(au:Loc X.env.scope x)(ab:jX X body bd)
  (aC:∀x,akc iter X.env x=pure x:=by intro _;rfl) (hf:X.fn x=true\/X.env.scope.names.lookup x=some .local:=by first|exact .inl rfl|exact .inr rfl|assumption):gQ X (.For (.Name x d3) iter body [] pos) (nL i it bd):=
 ⟨g5 (zu aH aI aA.un (vS hN ag au hf) ab.un aC) (Vi λ_ _ _ _ _ _ _ _ _ _ st bA h k=>k _ _ (st.set (s:=.v _) (λxs z=>by cases z) ⟨_,rfl,bA⟩) h)⟩
end
end a0
namespace a0
open PySem PySem.Spec aF
def fnX(n N:Nat)(b:bl):e':=λds=>if ds.length=n then do
  let a_ <-b (ds.map dp++akk (N-n) .e)
  match a_ with
  |.cZ (.v d)=>pure (.v d)|.cZ (.fr xs)=>pure (.fr xs)|.bo _=>pure (.v .aQ)|_=>gH
 else gH
def BQ{n N:Nat}{ds:List D}{r:R}(h:(fnX n N b ds).run S=.ok r av):ds.length=n:=by
 unfold fnX at h
 by_cases c:ds.length=n
 .exact c
 .rw[if_neg c]at h;cases h
def mF:hM:=λ_=>pure []
def jQ(m:ed)(ms:hM):hM:=λY=>do
 let x <-m Y
 let xs <-ms Y
 if x.i3=true then pure (x::xs)else gH
def z8(m:ed)(ms:cV):hM:=λY=>do
 let x <-m Y
 let xs <-(ms Y).up
 pure (x::xs)
def iw(mf:e')(ms:hM):ed:=λY=>do
 let rs <-ms Y
 if rs.all R.i3=true then mf (rs.map R.arg)else gH
def fO(c m:Str)(mf:e')(mo:bp)(ms:hM):ed:=λY=>do
 let x <-(mo Y).up
 let o <-(gm x).up
 match o with
 |.bC c' aZ=>if c'=c/\aZ.lookup m=none then(do
  let rs <-ms Y
  if rs.all R.i3=true then mf (x.arg::rs.map R.arg)else gH)else gH
 |_=>gH
def wF(c:Str)(mf:e')(ms:hM):ed:=λY=>do
 let rs <-ms Y
 if rs.all R.i3=true then(do
  let S <-uD
  putN (S++[.bC c []])
  let r <-mf (.ref S.length::rs.map R.arg)
  match r with
  |.v .aQ=>pure (.v (.ref S.length))| _=>gH)else gH
def z_(mf:bE)(ms:hM):ed:=λY=>do
 let rs <-ms Y
 (mf (rs.map R.arg)).up
def oS(f:R->R->M R)(a b:ed):ed:=λY=>do
 let x <-a Y
 let y <-b Y
 if x.i3=true then(f x y).up else gH
variable[aF.a7]
def oW(K:aS)(mg:bt)(O:a4)(H:aw):D->V->Prop
 |.lst xs,v=>∃a ys,v=.ref a/\((f3 H a (.lst ys)/\a∉O.bJ)\/As K a ys)/\bj K mg O H xs ys|d,v=>Rep K mg O H d v
def mM(K:aS)(mg:bt)(O:a4)(H:aw):List D->List V->Prop
 |[],ys=>ys=[]|x::xs,ys=>∃y r,ys=y::r/\oW K mg O H x y/\mM K mg O H xs r
section
variable{K:aS}{mg:bt}{O:a4}{H:aw}{S:cA}
def oW.rep{v:V}(cn:jw O)(h:Rep K mg O H d v):oW K mg O H d v:=by
 cases d with
 |lst xs=>obtain⟨a,ys,e,l,r⟩:=h;exact⟨a,ys,e,.inl ⟨.inl l.1,cn.no l.2 (by intro z;cases z)⟩,r⟩
 |_=>exact h
def P4{r:R}{v:V}(cn:jw O)(aC:r.i3=true)(h:eW K mg O H r v):oW K mg O H r.arg v:=by
 cases r with
 |v d=>exact oW.rep cn h| fr xs=>obtain⟨a,ys,e,l,t,r⟩:=h;exact⟨a,ys,e,.inl ⟨.inl l,cn.no t (by intro z;cases z)⟩,r⟩
 |bF _=>cases aC
 |mv _=>cases aC
theorem xb(cn:jw O):∀{rs:List R}{vs:List V},rs.all R.i3=true->gq K mg O H rs vs->mM K mg O H (rs.map R.arg) vs
 |[],_,_,h=>h|_::_,_,aC,h=>by
  rw[amd,aj5]at aC;obtain⟨y,r,q,a,b⟩:=h;exact⟨y,r,q,P4 cn aC.1 a,xb cn aC.2 b⟩
def oW.r{v:V}(h:oW K mg O H d v):tN K mg O H d v:=by
 cases d with
 |lst xs=>obtain⟨a,ys,e,l,r⟩:=h;exact⟨a,ys,e,l.imp (·.1) id,r⟩
 |_=>exact h
theorem mM.r:∀{ds:List D}{vs:List V},mM K mg O H ds vs->lK K mg O H ds vs
 |[],_,h=>h| _::_,_,h=>by obtain⟨y,r,q,a,b⟩:=h;exact⟨y,r,q,a.r,mM.r b⟩
theorem mM.get:∀{ds:List D}{xs:List V}{i:Nat}{d:D},mM K mg O H ds xs->ds[i]? = some d->∃x,xs[i]? = some x/\oW K mg O H d x
 |[],_,_,_,_,e=>by simp at e| _::_,_,0,d,h,e=>by obtain⟨x,r,rfl,a,_⟩:=h;cases(show some _=some d from e);exact⟨x,rfl,a⟩
 |_::ds,_,i+1,d,h,e=>by
  obtain⟨x,r,rfl,_,b⟩:=h;obtain⟨y,ao,az⟩:=mM.get (i:=i) b (by simpa using e);exact⟨y,by simpa using ao,az⟩
def dJ(K:aS)(mg:bt)(mf:e'):ek:=λvs H Q _=>∃O ds r S av,c5 O H/\gu K mg O H S/\O.bJ.length=S.length/\mM K mg O H ds vs/\(mf ds).run S=.ok r av/\
 ∀aj v H',fE O aj H H'->c5 aj H'->gu K mg aj H' av->aj.bJ.length=av.length->eW K mg aj H' r v->jv H r v->Q v H'
def ad5{ps N:List Str}{ds:List D}(cL:c5 O H)(e2:gu K mg O H S)(a_:O.bJ.length=S.length)(e5:mM K mg O H ds vs)(au:ds.length=ps.length):eD K mg (fk O) (ds.map dp++akk (N.length-ps.length) .e) S (aF.start N vs) H:=by
 refine⟨EO cL e2 e5.r au,a_,λi xs e=>?_⟩
 by_cases aA:i<ds.length
 .rw[ajR (by rw[ajm];exact aA),ajW]at e
  cases dX:ds[i]? with
  |none=>rw[dX]at e;cases e
  |some d=>
   rw[dX]at e;obtain⟨v,ev,bR⟩:=e5.get dX
   cases d with
   |lst zs=>
    cases e;obtain⟨a,ys,rfl,l,r⟩:=bR;refine⟨a,ys,?_,l.imp (λz=>⟨z.1,mX O a,z.2⟩) id,r.dr (k_ O)⟩;unfold aF.start;rw[ajR (by rw[ajm];exact(ajs.mp ev).1),ajW,ev];rfl
   |_=>cases e
 .rw[ajL (by rw[ajm];omega),alj]at e
  split at e
  .cases e
  .cases e
theorem HC{ps N:List Str}(hW:dJ K mg (fnX ps.length N.length c_) vs H Q E):rK K mg c_ { bo:=λ_ H'=>Q .aQ H',cZ:=Q } (aF.start N vs) H:=by
 obtain⟨O,ds,r,S,av,cL,e2,BV,e5,h,q⟩:=hW;have au:=BQ h;unfold fnX at h;rw[if_pos au]at h;obtain⟨a_,S1,af,h⟩:=a0.N.inv h;have wk:=ad5 (N:=N) cL e2 BV e5 au;have back:∀{aj:a4}{H':aw},hg (fk O) aj H H'->c5 aj H'->∃bu:a4,fE O bu H H'/\c5 bu H'/\mQ aj bu/\∀b,(aj b=.dw\/∃i,aj b=.loc i)->H b=none/\bu b=.dw:=λ{aj H'} g d=>by
  have ra:∀b,H b≠none->(match H b with|some _=>O b|none=>(match aj b with|.loc _=>.dw|o=>o))=O b:=λb ab=>by
   cases e:H b with
   |none=>exact absurd e ab|some o=>rfl
  have pZ:∀b,H b=none->(match H b with|some _=>O b|none=>(match aj b with|.loc _=>.dw|o=>o))=(match aj b with|.loc _=>Own.dw|o=>o):=λb ab=>by rw[ab]
  refine⟨⟨λb=>match H b with|some _=>O b|none=>(match aj b with|.loc _=>.dw|o=>o),aj.bJ⟩,⟨λb o e h n=>g.cells b o e (h.imp (λz=>⟨mX O b,z⟩) id) n,ra,g.has,g.cU,g.bT,g.bJ,g.new⟩,⟨λb ab=>?_,d.tabs,d.cn.1,λb m=>?_⟩,⟨λb ab=>?_,rfl⟩,λb ab=>?_⟩
  .cases e:H b with
   |some o=>exact g.has b (jl e)|none=>
    refine d.has b λz=>ab ?_
    refine(pZ b e).trans ?_;rw[z]
  .rcases g.new b m with z|z
   .exact(ra b (cL.has b (by rw[cL.cn.2 b z];intro z;cases z))).trans (cL.cn.2 b z)
   .refine(pZ b z).trans ?_
    rw[d.cn.2 b m]
  .cases e:H b with
   |some o=>exact(ra b (jl e)).trans (ph.mp ((g.own b (jl e) (mX O b)).symm.trans ab))|none=>
    refine(pZ b e).trans ?_;rw[ab]
  .have aG:H b=none:=by
    cases e:H b with
    |none=>rfl|some o=>
     exfalso;have bq:=g.own b (jl e) (mX O b);rcases mX O b with z|z<;>rw[z]at bq<;>rcases ab with w|⟨i,w⟩<;>rw[bq]at w<;>cases w
   refine⟨aG,(pZ b aG).trans ?_⟩;rcases ab with w|⟨i,w⟩<;>rw[w]
 refine⟨fk O,_,S,a_,S1,wk,af,?_⟩
 cases a_ with
 |bo Y'=>
  cases h;intro aj dc H' g cc;obtain⟨bu,g2,c1,f2,_⟩:=back g cc.s3.cg;exact q bu .aQ H' g2 c1 (cc.s3.gK.all (λ_ _ z=>Rep.dr f2 z) f2.bJ λ_ _ _ l _=>l) (by rw[f2.bJ];exact cc.full) rfl trivial
 |cG Y'=>cases h
 |ct Y'=>cases h
 |cZ bP=>
  intro aj v H' g d adX Vn br;obtain⟨bu,g2,c1,f2,dC⟩:=back g d;have wg:=adX.all (λ_ _ z=>Rep.dr f2 z) f2.bJ λ_ _ _ l _=>l
  have IJ:bu.bJ.length=S1.length:=by rw[f2.bJ];exact Vn
  cases bP with
  |v dd=>cases h;exact q bu v H' g2 c1 wg IJ (Rep.dr f2 br) trivial
  |fr xs=>
   cases h;obtain⟨a,ys,rfl,l,t,bw⟩:=br;obtain⟨aG,bO⟩:=dC a t;exact q bu _ H' g2 c1 wg IJ ⟨a,ys,rfl,l,bO,bw.dr f2⟩ λb c6=>by cases c6;exact aG
  |bF xs=>exact aj4 br|mv xs=>exact aj4 br
end
structure hc(K:aS)(mg:bt)(c m qual:Str)(st:Stmt)(ps:List Str):Prop where
 ex:∃C f fd,mg c=some (.ref C)/\i6 K C/\Meth K C m f/\k5 K m qual st f fd/\Binds K fd ps []
structure d1(P:ajF)(w:World)(K:aS)(mg:bt)(base:Heap)(c m:Str)(ps:List Str)(k:Nat)(sp:ek):Prop where
 ex:∃C f fd,mg c=some (.ref C)/\i6 K C/\Meth K C m f/\fg P w K mg base eM k f fd ps sp/\Binds K fd ps []
section
variable{P:ajF}{w:World}{K:aS}{mg:bt}{base:Heap}{x c m qual:Str}{st:Stmt}{ps N:List Str}{k:Nat}{c_:bl}{n nl:Nat}{f:Addr}{fd:akA}
def BR(F:k5 K x qual st f fd)(Sc:cf N ps (bH st))(aG:ps.length=n)(au:N.length=nl)
  (ab:∀(bx:Value)(A:ajM)(outer:List Env)(s:ajp)(H:aw)(E:gE),cE k (A.deeper (akx qual (bH st) s.heap.objs.size f bx))->
   jX (hj eM P w K mg base N qual (bH st) f bx A outer s H E).gI (fv st) c_):fg P w K mg base eM (k+1) f fd ps (dJ K mg (fnX n nl c_)):=by
 subst aG au;exact F.ok Sc (λvs H Q E ⟨O,ds,r,S,av,cL,e2,BV,e5,h,q⟩=>e5.r.len.trans (BQ h)) λbx A outer s H vs Q E aB hW=>⟨_,(ab bx A outer s H E aB).un,HC hW⟩
theorem sl(cp:cp K mg x st ps)(Sc:cf N ps (bH st))(aG:ps.length=n)(au:N.length=nl)
  (ab:∀(f:Addr)(bx:Value)(A:ajM)(outer:List Env)(s:ajp)(H:aw)(E:gE),cE k (A.deeper (akx x (bH st) s.heap.objs.size f bx))->
   jX (hj eM P w K mg base N x (bH st) f bx A outer s H E).gI (fv st) c_):b2 P w K mg base x ps (k+1) (dJ K mg (fnX n nl c_)):=by
 obtain⟨f,fd,F,b,m⟩:=cp.ex;exact⟨f,fd,BR F Sc aG au (λbx=>ab f bx),b,F.kp,m⟩
theorem n8(cp:hc K mg c m qual st ps)(Sc:cf N ps (bH st))(aG:ps.length=n)(au:N.length=nl)
  (ab:∀(f:Addr)(bx:Value)(A:ajM)(outer:List Env)(s:ajp)(H:aw)(E:gE),cE k (A.deeper (akx qual (bH st) s.heap.objs.size f bx))->
   jX (hj eM P w K mg base N qual (bH st) f bx A outer s H E).gI (fv st) c_):d1 P w K mg base c m ps (k+1) (dJ K mg (fnX n nl c_)):=by
 obtain⟨C,f,fd,hn,cl,me,F,b⟩:=cp.ex;exact⟨C,f,fd,hn,cl,me,BR F Sc aG au (λbx=>ab f bx),b⟩
theorem uO{c_:a3}(cp:hc K mg c m qual st ps)(Sc:cf N ps (bH st))(aG:ps.length=n)(au:N.length=nl)
  (ab:∀(f:Addr)(bx:Value)(A:ajM)(outer:List Env)(s:ajp)(H:aw)(E:gE),cE k (A.deeper (akx qual (bH st) s.heap.objs.size f bx))->
   rL (hj eM P w K mg base N qual (bH st) f bx A outer s H E).gI (fv st) c_):d1 P w K mg base c m ps (k+1) (b6 K mg (fnOf n nl c_)):=by
 obtain⟨C,f,fd,hn,cl,me,F,b⟩:=cp.ex;exact⟨C,f,fd,hn,cl,me,IE F Sc aG au (λbx=>ab f bx),b⟩
end
section
variable{X:aU}{x:Str}{ps:List Str}{k:Nat}{mf:e'}{mr:bE}{p pos:Pos}{e:Expr}{ay:List Expr}{ms:hM}{pm:cV}{Pe:ed}
theorem km.dM{O aj:a4}(g:fE O aj H H'):∀{rs:List R}{vs:List V},km H' rs vs->km H rs vs
 |[],_,_=>trivial|_::_,[],_=>trivial|_::_,_::_,h=>⟨h.1.dM g,km.dM g h.2⟩
theorem agp(aq:d_ X e Pe)(aB:gD X ay pm)(aC:ajo (e::ay) X.env=(false,eval e X.env)::ajo ay X.env:=by rfl):nT X (e::ay) (z8 Pe pm):=⟨zq (zp aq.un aB.un aC) λar H Q aX=>by
 obtain⟨O,Y,S,r,av,st,h,q⟩:=aX;obtain⟨x,S1,af,h⟩:=N.inv h;obtain⟨xs,a6,ah,h⟩:=N.inv h;cases h;obtain rfl:=(pm Y).ec _ _ _ ah;refine⟨O,Y,S,x,_,st,af,λaL f_ H1 g1 aT a9 bo=>?_⟩;exact⟨aL,Y,_,xs,_,aT.s3,ah,λbu vs aM g2 cK rs ns=>q bu (f_::vs) aM (g1.trans g2.dM) (aT.go g2 cK.cg) ⟨f_,vs,rfl,a9.go g2,rs⟩ ⟨bo,ns.dM g1⟩⟩⟩
def SA:∀ar H Q,rJ K mg (iw mf ms) ar H Q->zS (dJ K mg mf) (Aa K mg ms) ar H Q:=by
 rintro ar H Q ⟨O,Y,S,r,av,st,h,q⟩;obtain⟨rs,S1,af,h⟩:=N.inv h;split at h
 .rename_i gh
  refine⟨O,Y,S,rs,S1,st,af,λaL vs H1 g1 aT br nn=>?_⟩;exact⟨aL,_,r,S1,av,aT.s3.cg,aT.s3.gK,aT.full,xb aT.s3.cg.cn gh br,h,λaj v H' g d e2 a_ bP gk=>q aj v H' (g1.trans g) (aT.dM g d e2 a_) bP (gk.dM g1)⟩
 .cases h
def agu(h:b2 X.prog X.w X.K X.mg X.base x ps k (dJ X.K X.mg mf))(aB:cE k X.A)(aY:eC X x)(aq:nT X (e::ay) ms)(eH:(x==("__debug__":Str))=false:=by decide)
  (he:ajo (e::ay) X.env=(false,eval e X.env)::ajo ay X.env:=by rfl) (e1:(ajS pos (ajo ay X.env)).any (·.1)=false:=by rfl):d_ X (.Call (.Name x p) (e::ay) [] pos) (iw mf ms):=
 ⟨ee (D8 h aB aY aq.un eH he e1) SA⟩
def agE(h:b2 X.prog X.w X.K X.mg X.base x ps k (b6 X.K X.mg mr))(aB:cE k X.A)(aY:eC X x)(aq:nT X (e::ay) ms)(eH:(x==("__debug__":Str))=false:=by decide)
  (he:ajo (e::ay) X.env=(false,eval e X.env)::ajo ay X.env:=by rfl) (e1:(ajS pos (ajo ay X.env)).any (·.1)=false:=by rfl):d_ X (.Call (.Name x p) (e::ay) [] pos) (z_ mr ms):=
 ⟨ee (D8 h aB aY aq.un eH he e1) λar H Q aX=>by
  obtain⟨O,Y,S,r,av,st,h,q⟩:=aX;obtain⟨rs,S1,af,h⟩:=N.inv h;refine⟨O,Y,S,rs,S1,st,af,λaL vs H1 g1 aT br nn=>?_⟩;obtain rfl:=(mr _).ec _ _ _ h;exact⟨aL,_,r,av,aT.s3.cg,aT.s3.gK,xc br,h,λaj v H' g d bP gk=>q aj v H' (g1.trans g.dM) (aT.go g d) bP (gk.dM g1)⟩⟩
end
end a0
namespace a0
open PySem PySem.Spec aF
def gF(c m:Str)(mf:bE)(mo:bp)(ms:cV):bp:=λY=>do
 let x <-mo Y
 let o <-gm x
 match o with
 |.bC c' aZ=>if c'=c/\aZ.lookup m=none then(do
  let rs <-ms Y
  mf (x.arg::rs.map R.arg))else bad
 |_=>bad
def zJ(x:R)(o:hL):N Unit:=match x with
 |.v (.ref n)=>⟨λS=>.ok () (S.set n o)⟩
 |_=>gH
def eZ(c f:Str)(mo:bp)(mv:ed):bl:=λY=>do
 let r <-mv Y
 let d <-r.dat.up
 let x <-(mo Y).up
 let o <-(gm x).up
 match o with
 |.bC c' aZ=>if c'=c/\aZ.length<1000 then(do
  zJ x (.bC c (iI f d aZ))
  pure (.bo Y))else gH
 |_=>gH
def nK(mo mk:bp)(mv:ed):bl:=λY=>do
 let r <-mv Y
 let d <-r.dat.up
 let x <-(mo Y).up
 let k <-(mk Y).up
 let o <-(gm x).up
 match o,k with
 | .f6 ai,.v dN=>(match pN dN with
  |some key=>if ai.length<1000 then(do
   zJ x (.f6 (fm ai key d))
   pure (.bo Y))else gH
  |none=>gH)
 |_,_=>gH
def wD(mo:bp)(ms:cV)(mv:ed):bl:=λY=>do
 let r <-mv Y
 let d <-r.dat.up
 let x <-(mo Y).up
 let rs <-(ms Y).up
 let o <-(gm x).up
 match o,qY rs with
 |.eY ai,some k=>(if rs.length<=1000/\ai.length<1000 then(do
  zJ x (.eY (fm ai k d))
  pure (.bo Y))else gH)
 |_,_=>gH
def qi(f:List D->List R->M (R×List D))(mo:bp)(ms:cV):bl:=λY=>do
 let x <-(mo Y).up
 let rs <-(ms Y).up
 let o <-(gm x).up
 match o with
 |.lst xs=>do
  let p <-(f xs rs).up
  zJ x (.lst p.2)
  pure (.bo Y)
 |_=>gH
def oT(m:ed):ed:=λY=>do
 let r <-m Y
 match r with
 |.fr xs=>do
  let S <-uD
  putN (S++[.lst xs])
  pure (.v (.ref S.length))
 |_=>gH
variable[aF.a7]
def hE(O:a4)(p:Addr):a4:=⟨λb=>if b=p then .out else O b,O.bJ++[p]⟩
section
variable{K:aS}{mg:bt}{O aj:a4}{H H':aw}{S av:cA}{Y:aR}{ar:St}{p a:Addr}{o:hL}{n:Nat}{u u':gM}
omit [aF.a7]in
theorem oB(h:b≠p):hE O p b=O b:=if_neg h
omit [aF.a7]in
theorem aaa:hE O p p=.out:=if_pos rfl
theorem LH(cL:c5 O H)(aH:p∉O.bJ):jw (hE O p):=⟨anF.mpr ⟨cL.cn.1,by simp,λx ag y ba=>by rintro rfl;rw[ajH.mp ba]at ag;exact aH ag⟩,λa m=>by
 by_cases e:a=p
 .rw[e];exact aaa
 .rw[oB e];exact cL.cn.2 a ((aj2.mp m).elim id λz=>absurd (ajH.mp z) e)⟩
def c5.DH(cL:c5 O H)(aH:H p=none):p∉O.bJ:=λm=>cL.has p (by rw[cL.cn.2 p m];intro z;cases z) aH
theorem alloc(cL:c5 O H)(e2:gu K mg O H S)(a_:O.bJ.length=S.length)(aH:H p=none)(g7:eE H H')(d7:H' p≠none)(bC:(∀d v,Rep K mg O H d v->Rep K mg (hE O p) H' d v)->mU K mg (hE O p) H' p o) :
  fE O (hE O p) H H'/\c5 (hE O p) H'/\gu K mg (hE O p) H' (S++[o])/\(hE O p).bJ.length=(S++[o]).length:=by
 have g:fE O (hE O p) H H':=⟨λb o e _ n=>g7.at' b o e n,λb ab=>oB (by rintro rfl;exact ab aH),λ_ h=>g7.some h,g7.cU,g7.bT,anl _ _,λb m=>(aj2.mp m).imp id λz=>by rw[ajH.mp z];exact aH⟩;have f:∀d v,Rep K mg O H d v->Rep K mg (hE O p) H' d v:=λ_ _ z=>Rep.dM g cL.cn z
 refine⟨g,⟨λb ab=>?_,g7.bT cL.tabs,LH cL (cL.DH aH)⟩,λn o' e=>?_,by rw[ajz,<-a_];exact ajz⟩
 .by_cases e:b=p
  .rw[e];exact d7
  .rw[oB e]at ab;exact g7.some (cL.has b ab)
 .by_cases aG:n<S.length
  .rw[ajR aG]at e
   obtain⟨a,af,ah⟩:=e2 n o' e;exact⟨a,by show(O.bJ++[p])[n]? = _;rw[ajR (by rw[a_];exact aG)];exact af,ah.all f λu l n=>g7.at' _ _ l n⟩
  .rw[ajL (by omega)]at e
   obtain rfl:n=S.length:=by
    have:=(ajs.mp e).1;simp at this;omega
   rw[aln]at e;cases e;exact⟨p,by show(O.bJ++[p])[S.length]? = _;rw[<-a_,ajL (ajq _),aln];rfl,bC f⟩
def eD.write(st:eD K mg O Y S ar H)(aG:O.bJ[n]? = some a)(cx:H a=some u)(pY:¬Fix u)(af:∀ps,u≠.gp ps)(ah:∀q,u≠.ext (qx a q))(bC:(∀d v,Rep K mg O H d v->Rep K mg O (upd H a u') d v)->mU K mg O (upd H a u') a o) :
  fE O O H (upd H a u')/\eD K mg O Y (S.set n o) ar (upd H a u'):=by
 have c2:=aka aG;have bT:TabsOk H->TabsOk (upd H a u'):=λt=>t.put u' (λps z=>af ps (ajT (cx.symm.trans z))) (λq z=>ah q (ajT (cx.symm.trans z)))
 have has:∀b,H b≠none->upd H a u' b≠none:=λb ab=>by
  by_cases e:b=a
  .rw[e,dx];intro z;cases z
  .rw[df e];exact ab
 have g:fE O O H (upd H a u'):=by
  refine⟨λb o e h _=>?_,λ_ _=>rfl,has,λb ps e=>⟨ps,?_⟩,bT,anY _,λ_ m=>.inl m⟩
  .rw[df]
   .exact e
   .rintro rfl
    rcases h with h|h
    .exact h c2
    .rw[cx]at e;cases e;exact pY h
  .rw[df]
   .exact e
   .rintro rfl;rw[cx]at e;cases e;exact af _ rfl
 have f:∀d v,Rep K mg O H d v->Rep K mg O (upd H a u') d v:=λ_ _ z=>Rep.dM g st.s3.cg.cn z
 refine⟨g,st.dM g ⟨λb ab=>has b (st.s3.cg.has b ab),bT st.s3.cg.tabs,st.s3.cg.cn⟩ (λk o' e=>?_) (by rw[akj];exact st.full)⟩
 by_cases ax:n=k
 .subst ax
  rw[akm (by have:=(ajs.mp e).1;rwa[akj]at this)]at e;cases e;exact⟨a,aG,bC f⟩
 .rw[ajE ax]at e
  obtain⟨b,ao,az⟩:=st.s3.gK k o' e;refine⟨b,ao,az.all f λu l _=>?_⟩;rw[df]
  .exact l
  .rintro rfl
   obtain⟨bq,b1⟩:=ajs.mp ao;obtain⟨gB,El⟩:=ajs.mp aG;exact ax ((List.getElem_inj st.s3.cg.cn.1).mp (El.trans b1.symm))
theorem gq.dM(g:fE O aj H H')(cn:jw O):∀{rs:List R}{vs:List V},rs.all R.i3=true->gq K mg O H rs vs->gq K mg aj H' rs vs
 |[],_,_,h=>h|_::_,_,aC,h=>by
  rw[amd,aj5]at aC;obtain⟨y,r,q,a,b⟩:=h;exact⟨y,r,q,a.dM g cn aC.1,gq.dM g cn aC.2 b⟩
def tb{r:R}{v:V}(st:cy K mg O Y S ar H)(aB:eW K mg O H r v)(h:(gm r).run S=.ok o av):∃n a,r=.v (.ref n)/\v=.ref a/\O.bJ[n]? = some a/\S[n]? = some o/\mU K mg O H a o:=by
 obtain⟨n,rfl,e,rfl⟩:=LP h;obtain⟨a,bw,ho⟩:=st.gK n o e;obtain⟨b,c6,mw⟩:=aB;rw[bw]at mw;cases mw;exact⟨n,a,rfl,c6,bw,e,ho⟩
theorem d5.Dn:∀{ai:List (Str×D)}{dA:List (Str×V)},d5 K mg O H ai dA->ai.lookup f=none->dA.lookup f=none
 |[],dA,h,e=>by obtain rfl:=h.vE;rfl
 |p::ai,dA,h,e=>by
  obtain⟨q,r,rfl,ao,az,h'⟩:=h.cons;obtain⟨p1,dG⟩:=p;obtain⟨bq,b1⟩:=q;cases(show p1=bq from ao);rw[akb]at e ⊢
  cases c6:f==p1 with
  |true=>rw[c6]at e;cases e
  |false=>rw[c6]at e;exact d5.Dn h' e
end
def zT(mg:bt)(c m:Str)(sp:ek)(b3:TE)(t:gv):TE:=λY H Q=>b3 Y H λx H1=>∃a C b8 aZ,x=.ref a/\mg c=some (.ref C)/\H1 a=some (.ins C b8 aZ)/\aZ.lookup m=none/\t Y H1 λvs aM=>sp (x::vs) aM Q i7
def AB(t:TE):Prop:=∀Y H Q fZ,(∀v H',Q v H'->fZ v H')->t Y H Q->t Y H fZ
def tE:AB (fs K mg m):=λar H Q fZ i ⟨O,Y,S,x,av,st,h,q⟩=>⟨O,Y,S,x,av,st,h,λaj v H' g s p n=>i _ _ (q aj v H' g s p n)⟩
section
variable{X:aU}{c m:Str}{ps:List Str}{k:Nat}{sp:ek}{o e:Expr}{ay:List Expr}{b3:TE}{t:gv}{apos pos:Pos}{mf:e'}{mr:bE}{mo:bp}{pm:cV}{ms:hM}
def L'{pl:Sem Bool}(h:d1 X.prog X.w X.K X.mg X.base c m ps k sp)(aB:cE k X.A)(up:AB b3)(he:bV X o b3)(aq:eN X (e::ay) t)
  (gh:ajo (e::ay) X.env=(false,eval e X.env)::ajo ay X.env:=by rfl) (e1:(ajS pos (ajo ay X.env)).any (·.1)=false:=by rfl)
  (bO:eval (.Call (.Attribute o m apos) (e::ay) [] pos) X.env=(do
   let eK <-eval o X.env
   al2 apos.atName
   let(f,first) <-alf [eK] (alC eK m pl)
   ama pos f first (ajS pos (ajo (e::ay) X.env)) (ald pos (akI [] X.env))):=by rfl) :
  bV X (.Call (.Attribute o m apos) (e::ay) [] pos) (zT X.mg c m sp b3 t):=by
 obtain⟨C,f,fd,hn,cl,me,F,b⟩:=h.ex;refine ee (abp (dvs:=[]) (ds:=[]) he cl me F aB b .nil tj aq gh e1 bO) λY H Q a'=>up _ _ _ _ (λv H1 z=>?_) a'
 obtain⟨a,lL,b8,aZ,ev,pU,d7,au,z⟩:=z;rw[hn]at pU;cases pU;refine⟨a,b8,aZ,ev,d7,au,?_⟩;simpa only[akv]using z
def Ma{pl:Sem Bool}(h:d1 X.prog X.w X.K X.mg X.base c m ps k sp)(aB:cE k X.A)(up:AB b3)(he:bV X o b3)
  (bO:eval (.Call (.Attribute o m apos) [] [] pos) X.env=(do
   let eK <-eval o X.env
   al2 apos.atName
   let(f,first) <-alf [eK] (alC eK m pl)
   ama pos f first (ajS pos (ajo [] X.env)) (ald pos (akI [] X.env))):=by rfl) :
  bV X (.Call (.Attribute o m apos) [] [] pos) (zT X.mg c m sp b3 wm):=by
 obtain⟨C,f,fd,hn,cl,me,F,b⟩:=h.ex;refine ee (abq (dvs:=[]) (ds:=[]) he cl me F aB b .nil tj bO) λY H Q a'=>up _ _ _ _ (λv H1 z=>?_) a'
 obtain⟨a,lL,b8,aZ,ev,pU,d7,au,z⟩:=z;rw[hn]at pU;cases pU;exact⟨a,b8,aZ,ev,d7,au,z⟩
def Lv:∀ar H Q,fs K mg (gF c m mr mo pm) ar H Q->zT mg c m (b6 K mg mr) (fs K mg mo) (nH K mg pm) ar H Q:=by
 rintro ar H Q ⟨O,Y,S,r,av,st,h,q⟩;obtain⟨x,S1,af,h0⟩:=M.inv h;clear h;refine⟨O,Y,S,x,S1,st,af,λaL f_ H1 g1 aT a9 bo=>?_⟩;obtain⟨bC,a6,ah,h⟩:=M.inv h0;clear h0;obtain⟨n,a,rfl,rfl,bw,acf,ho⟩:=tb aT a9 ah;obtain rfl:=(gm (.v (.ref n))).ec _ _ _ ah;split at h
 .rename_i c' aZ
  split at h
  .rename_i aI
   obtain⟨rfl,hm⟩:=aI;obtain⟨rs,ia,bN,h⟩:=M.inv h;obtain⟨C,b8,jD,d7,ci,iu⟩:=ho;refine⟨a,C,b8,jD,rfl,ci.1,d7,iu.Dn hm,aL,Y,_,rs,ia,aT,bN,λbu vs aM g2 cK br nn=>?_⟩;obtain rfl:=(mr _).ec _ _ _ h;exact⟨bu,.ref n::rs.map R.arg,r,av,cK.cg,cK.gK,⟨_,_,rfl,FP (eW.go g2 a9),xc br⟩,h,λaj v H' g d bP gk=>q aj v H' ((g1.trans g2).trans g) (cK.go g d) bP (gk.back (g1.trans g2).same)⟩
  .cases h
 .cases h
def afA{pl:Sem Bool}(h:d1 X.prog X.w X.K X.mg X.base c m ps k (b6 X.K X.mg mr))(aB:cE k X.A)(he:bk X o mo)(aq:gD X (e::ay) pm)
  (gh:ajo (e::ay) X.env=(false,eval e X.env)::ajo ay X.env:=by rfl) (e1:(ajS pos (ajo ay X.env)).any (·.1)=false:=by rfl)
  (bO:eval (.Call (.Attribute o m apos) (e::ay) [] pos) X.env=(do
   let eK <-eval o X.env
   al2 apos.atName
   let(f,first) <-alf [eK] (alC eK m pl)
   ama pos f first (ajS pos (ajo (e::ay) X.env)) (ald pos (akI [] X.env))):=by rfl):bk X (.Call (.Attribute o m apos) (e::ay) [] pos) (gF c m mr mo pm):=
 ⟨ee (L' h aB tE he.un aq.un gh e1 bO) Lv⟩
def afB{pl:Sem Bool}(h:d1 X.prog X.w X.K X.mg X.base c m ps k (b6 X.K X.mg mr))(aB:cE k X.A)(he:bk X o mo)
  (bO:eval (.Call (.Attribute o m apos) [] [] pos) X.env=(do
   let eK <-eval o X.env
   al2 apos.atName
   let(f,first) <-alf [eK] (alC eK m pl)
   ama pos f first (ajS pos (ajo [] X.env)) (ald pos (akI [] X.env))):=by rfl):bk X (.Call (.Attribute o m apos) [] [] pos) (gF c m mr mo ak):=
 ⟨ee (Ma h aB tE he.un bO) λar H Q a'=>tE _ _ _ _ (λv H1 z=>by
  obtain⟨a,C,b8,aZ,ao,az,cI,e6,O,Y,S,rs,S1,st,af,q⟩:=z;cases af;exact⟨a,C,b8,aZ,ao,az,cI,e6,q O [] H1 (Go.refl _ _) st rfl trivial⟩) (Lv _ _ _ a')⟩
def Lu:∀ar H Q,rJ K mg (fO c m mf mo ms) ar H Q->zT mg c m (dJ K mg mf) (fs K mg mo) (Aa K mg ms) ar H Q:=by
 rintro ar H Q ⟨O,Y,S,r,av,st,h,q⟩;obtain⟨x,S1,af,h0⟩:=N.inv h;clear h;obtain rfl:=(mo Y).ec _ _ _ af;refine⟨O,Y,S1,x,S1,st.s3,af,λaL f_ H1 g1 aT a9 bo=>?_⟩;have aea:=st.go g1 aT.cg;obtain⟨bC,a6,ah,h⟩:=N.inv h0;clear h0;obtain⟨n,a,rfl,rfl,bw,acf,ho⟩:=tb aT a9 ah;obtain rfl:=(gm (.v (.ref n))).ec _ _ _ ah;split at h
 .rename_i c' aZ
  split at h
  .rename_i aI
   obtain⟨rfl,hm⟩:=aI;obtain⟨rs,ia,bN,h⟩:=N.inv h;obtain⟨C,b8,jD,d7,ci,iu⟩:=ho;split at h
   .rename_i gh
    refine⟨a,C,b8,jD,rfl,ci.1,d7,iu.Dn hm,aL,Y,_,rs,ia,aea,bN,λbu vs aM g2 cK br nn=>?_⟩;have IK:=g1.dM.trans g2;exact⟨bu,.ref n::rs.map R.arg,r,ia,av,cK.s3.cg,cK.s3.gK,cK.full,⟨_,_,rfl,Rep.dM g2 aT.cg.cn a9,xb cK.s3.cg.cn gh br⟩,h,λaj v H' g d e2 a_ bP gk=>q aj v H' (IK.trans g) (cK.dM g d e2 a_) bP (gk.dM IK)⟩
   .cases h
  .cases h
 .cases h
def agy{pl:Sem Bool}(h:d1 X.prog X.w X.K X.mg X.base c m ps k (dJ X.K X.mg mf))(aB:cE k X.A)(he:bk X o mo)(aq:nT X (e::ay) ms)
  (gh:ajo (e::ay) X.env=(false,eval e X.env)::ajo ay X.env:=by rfl) (e1:(ajS pos (ajo ay X.env)).any (·.1)=false:=by rfl)
  (bO:eval (.Call (.Attribute o m apos) (e::ay) [] pos) X.env=(do
   let eK <-eval o X.env
   al2 apos.atName
   let(f,first) <-alf [eK] (alC eK m pl)
   ama pos f first (ajS pos (ajo (e::ay) X.env)) (ald pos (akI [] X.env))):=by rfl):d_ X (.Call (.Attribute o m apos) (e::ay) [] pos) (fO c m mf mo ms):=
 ⟨ee (L' h aB tE he.un aq.un gh e1 bO) Lu⟩
def agz{pl:Sem Bool}(h:d1 X.prog X.w X.K X.mg X.base c m ps k (dJ X.K X.mg mf))(aB:cE k X.A)(he:bk X o mo)
  (bO:eval (.Call (.Attribute o m apos) [] [] pos) X.env=(do
   let eK <-eval o X.env
   al2 apos.atName
   let(f,first) <-alf [eK] (alC eK m pl)
   ama pos f first (ajS pos (ajo [] X.env)) (ald pos (akI [] X.env))):=by rfl):d_ X (.Call (.Attribute o m apos) [] [] pos) (fO c m mf mo mF):=
 ⟨ee (Ma h aB tE he.un bO) λar H Q a'=>tE _ _ _ _ (λv H1 z=>by
  obtain⟨a,C,b8,aZ,ao,az,cI,e6,O,Y,S,rs,S1,st,af,q⟩:=z;cases af;exact⟨a,C,b8,aZ,ao,az,cI,e6,q O [] H1 (Go.refl _ _).dM st rfl trivial⟩) (Lu _ _ _ a')⟩
theorem agx{aZ:List Str}{p:Pos}(T:oY X.K X.mg c aZ)(h:d1 X.prog X.w X.K X.mg X.base c "__init__" ps k (dJ X.K X.mg mf))(aB:cE (k+1) X.A)(aY:eC X c)(aq:nT X (e::ay) ms)(eH:(c==("__debug__":Str))=false:=by decide)
  (he:ajo (e::ay) X.env=(false,eval e X.env)::ajo ay X.env:=by rfl) (e1:(ajS pos (ajo ay X.env)).any (·.1)=false:=by rfl):d_ X (.Call (.Name c p) (e::ay) [] pos) (wF c mf ms):=by
 obtain⟨C,f,fd,hn,cl,me,F,b⟩:=h.ex;obtain⟨lL,pU,_,⟨mk,kp⟩,_⟩:=T.ex;rw[hn]at pU;cases pU;refine⟨ee (abo (dvs:=[]) (ds:=[]) ⟨mk,me.at_,me.fn,kp⟩ F aB aY hn b .nil tj aq.un eH he e1) λar H Q aX=>?_⟩;obtain⟨O,Y,S,r,av,st,h,q⟩:=aX;obtain⟨rs,S1,af,h0⟩:=N.inv h;clear h;refine⟨O,Y,S,rs,S1,st,af,λaL vs H1 g1 aT br nn a b8 aq Xj Z2=>?_⟩;split at h0
 .rename_i gh
  obtain⟨Az,a6,ah,ab⟩:=N.inv h0;clear h0;cases ah;obtain⟨_,ia,bN,aI⟩:=N.inv ab;clear ab;cases bN;obtain⟨b_,hx,dz,h⟩:=N.inv aI;clear aI;have g7:eE H1 (upd (upd H1 b8 (.own a)) a (.ins C b8 [])):=(rn Xj _).trans (rn (by rw[df (amg Z2)];exact aq) _);obtain⟨g2,c1,wg,IA⟩:=alloc (o:=.bC c []) aT.s3.cg aT.s3.gK aT.full aq g7 (by rw[dx];intro z;cases z) λ_=>⟨C,b8,[],dx,⟨hn,cl⟩,rfl,rfl⟩
  rw[akv];have Cz:(hE aL a).bJ[S1.length]? = some a:=by show(aL.bJ++[a])[S1.length]? = _;rw[<-aT.full,ajL (ajq _),aln];rfl
  have uG:=g1.trans g2;refine⟨hE aL a,.ref S1.length::rs.map R.arg,b_,_,hx,c1,wg,IA,⟨_,_,rfl,⟨a,rfl,Cz⟩,?_⟩,dz,λaj v H' g d e2 a_ bP gk=>?_⟩
  .exact xb c1.cn gh (gq.dM g2 aT.s3.cg.cn gh br)
  .split at h
   .cases h
    refine⟨bP,q aj _ H' (uG.trans g) ((aT.dM g2 c1 wg IA).dM g d e2 a_) ⟨a,rfl,?_⟩ trivial⟩;obtain⟨t,e⟩:=g.bJ;rw[<-e,ajR (ajs.mp Cz).1];exact Cz
   .cases h
 .cases h0
end
end a0
namespace a0
open PySem PySem.Spec aF PyProof.Rows
@[reducible] def yv:aop where
 α:=Int
 blt a b:=decide (a<b)
 irrefl a:=by simp
 trans a b c af ah:=by simp only[decide_eq_true_eq]at *;omega
 negTrans a b c h:=by simp only[decide_eq_true_eq]at *;omega
 total a b af ah:=by simp only[decide_eq_false_iff_not]at *;omega
 keyOf v:=match v with|.int i _=>some i|_=>none
 dflt:=0
def Yi:yv.OneLt:=by
 intro prog w A E s x y a b Q aq ab h;cases x<;>simp only[yv,reduceCtorEq,aoA]at aq
 cases y<;>simp only[yv,reduceCtorEq,aoA]at ab
 cases aq;cases ab;exact oneLt_int h
structure fY where
 κ:aop
 dN:κ.α->D
 un:D->Option κ.α
structure fY.Ok(Z:fY):Prop where
 one:Z.κ.OneLt
 ry:∀d a,Z.un d=some a->d=Z.dN a
 key:∀(a:Z.κ.α)(K:aS)(mg:bt)(O:a4)(H:aw)(v:V)(u:Value),Rep K mg O H (Z.dN a) v->RelV v u->Z.κ.keyOf u=some a
 kind:∀(qe qf:Value)(vs:List Value),(∀v∈qe::qf::vs,∃a,Z.κ.keyOf v=some a)->keyKind' (qe::qf::vs).toArray=pure oneType'
@[reducible] def fM:fY where
 κ:=yv
 dN:=D.int
 un d:=match d with|.int i=>some i|_=>none
@[reducible] def ip:fY where
 κ:=aoq
 dN:=λl=>D.str ⟨l.toArray⟩
 un d:=match d with|.str x=>some x.cps.toList|_=>none
def Kw:fM.Ok where
 one:=Yi
 ry:=λd a h=>by cases d<;>first|(cases h;rfl)|cases h
 key:=λa K mg O H v u h r=>by
  cases(show v=.int a from h);obtain⟨t,rfl⟩:=r;rfl
 kind:=λqe qf vs h=>by
  refine keyKind_ints (ns:=(qe::qf::vs).map numOf) (intsAre_map _ λv bI=>?_);obtain⟨a,aq⟩:=h v bI;cases v<;>first|(cases aq;exact⟨_,_,rfl⟩)|cases aq
def Kx:ip.Ok where
 one:=strKind_oneLt
 ry:=λd a h=>by cases d<;>first|(cases h;rfl)|cases h
 key:=λa K mg O H v u h r=>by
  cases(show v=.str ⟨a.toArray⟩from h);obtain⟨t,rfl⟩:=r;rfl
 kind:=λqe qf vs h=>by
  have key:∀(l:List Value),(∀v∈l,∃a,aoq.keyOf v=some a)->∃ss,StrsAre l ss:=λl=>by
   induction l with
   |nil=>exact λ_=>⟨[],.nil⟩
   |cons v l a8=>
    intro h;obtain⟨ss,aC⟩:=a8 λw hw=>h w (ajv _ hw)
    obtain⟨a,aq⟩:=h v ajy;cases v<;>first|exact⟨_::ss,.cons _ _ aC⟩|cases aq
  obtain⟨ss,aC⟩:=key _ h;exact keyKind_strs aC
section
variable{β:Type}
def sx(blt:β->β->Bool)(p:β×D):List (β×D)->List (β×D)
 |[]=>[p]
 |q::r=>if blt q.1 p.1 then q::sx blt p r else p::q::r
def hG(blt:β->β->Bool):List (β×D)->List (β×D)
 |[]=>[]
 |p::r=>sx blt p (hG blt r)
theorem CJ(blt:β->β->Bool)(p:β×D):∀l,(sx blt p l).Perm (p::l)
 |[]=>.refl _|q::r=>by
  unfold sx;split
  .exact((CJ blt p r).cons q).trans (.swap p q r)
  .exact .refl _
theorem zK(blt:β->β->Bool):∀l,(hG blt l).Perm l
 |[]=>.refl _|p::r=>(CJ blt p _).trans ((zK blt r).cons p)
end
theorem JX(O:ak0)(p:O.α×D):∀l:List (O.α×D),l.Pairwise (λa b=>O.blt a.1 b.1=true)->(∀q∈l,q.1≠p.1)->(sx O.blt p l).Pairwise (λa b=>O.blt a.1 b.1=true)
 |[],_,_=>List.pairwise_singleton _ _|q::r,h,aG=>by
  rw[alo]at h;unfold sx
  cases e:O.blt q.1 p.1 with
  |true=>
   rw[if_pos rfl,alo];refine⟨λx ag=>?_,JX O p r h.2 λx ag=>aG x (ajv _ ag)⟩;rcases aju.mp ((CJ O.blt p r).mem_iff.mp ag)with rfl|ag
   .exact e
   .exact h.1 x ag
  |false=>
   rw[if_neg ajx,alo,alo];have JG:O.blt p.1 q.1=true:=by
    cases az:O.blt p.1 q.1 with
    |true=>rfl|false=>exact absurd (O.total _ _ e az) (aG q ajy)
   refine⟨λx ag=>?_,h.1,h.2⟩;rcases aju.mp ag with rfl|ag
   .exact JG
   .exact O.trans _ _ _ JG (h.1 x ag)
theorem EH(O:ak0):∀l:List (O.α×D),(l.map (·.1)).Nodup->(hG O.blt l).Pairwise (λa b=>O.blt a.1 b.1=true)
 |[],_=>.nil|p::r,h=>by
  rw[ajw,akn]at h;refine JX O p _ (EH O r h.2) λq a' e=>h.1 ?_
  rw[<-e];exact alN ((zK O.blt r).mem_iff.mp a')
theorem MQ{Fj:Type}{lt:Fj->Fj->Prop}(J0:∀a,¬lt a a)(kV:∀a b c,lt a b->lt b c->lt a c):∀{pQ l₂:List Fj},pQ.Perm l₂->pQ.Pairwise lt->l₂.Pairwise lt->pQ=l₂
 |[],l₂,p,_,_=>(List.nil_perm.mp p).symm|a::pQ,[],p,_,_=>(List.nil_perm.mp p.symm)
 |a::pQ,b::l₂,p,af,ah=>by
  rw[alo]at af ah;have e:a=b:=by
   rcases aju.mp (p.mem_iff.mp ajy)with h|h
   .exact h
   .rcases aju.mp (p.mem_iff.mpr ajy)with h'|h'
    .exact h'.symm
    .exact(J0 _ (kV _ _ _ (af.1 b h') (ah.1 a h))).elim
  subst e;rw[MQ J0 kV (List.Perm.cons_inv p) af.2 ah.2]
def EJ(O:ak0){l ps:List (O.α×D)}(aG:(l.map (·.1)).Nodup)(aH:ps.Perm l)(aC:ps.Pairwise (λa b=>O.blt a.1 b.1=true)):ps=hG O.blt l:=
 MQ (lt:=λa b=>O.blt a.1 b.1=true) (λa=>by rw[O.irrefl];exact ajx) (λa b c=>O.trans _ _ _) (aH.trans (zK O.blt l).symm) aC (EH O l aG)
def ad9(O:ak0){ps:List (O.α×D)}(aG:(ps.map (·.1)).Nodup)(h:ps.Pairwise (λa b=>O.blt b.1 a.1=false)):ps.Pairwise (λa b=>O.blt a.1 b.1=true):=by
 induction ps with
 |nil=>exact .nil|cons p r a8=>
  rw[ajw,akn]at aG;rw[alo]at h ⊢;refine⟨λq a'=>?_,a8 aG.2 h.2⟩
  cases e:O.blt p.1 q.1 with
  |true=>rfl| false=>exact absurd (alN (f:=λx:O.α×D=>x.1) a') (by rw[<-O.total _ _ e (h.1 q a')];exact aG.1)
end a0
namespace a0
open PySem PySem.Spec aF PyProof.Rows
variable[aF.a7]
def nR(X:aU)(k:Nat)(f:Addr)(G:aw->Prop)(mf:bE):Prop:=
 (∀H H',eE H H'->G H->G H')/\(∀H p zs o,H p=some (.lst zs)->G H->G (upd H p o))/\∀(A:ajM)(s:ajp)(H:aw)(u:Value)(v:V)(Q:c9),cE k A->k4 X.prog X.w X.K X.mg X.base A X.stack s H->G H->RelV v u->b6 X.K X.mg mf [v] H Q i7->
  al4 (model X.prog X.w) A (.call (.ref f) ⟨[u],[]⟩) (Fq eM X.stack X.prog X.w H s Q i7) s
def lstP(a:Addr)(e:Nat):Heap->Prop:=λh=>h.get? a=some (aj3 "list" #[] e)
structure qm(X:aU)(zn:cX)(Y:aF.St)(G:aw->Prop)(O:a4)(H:aw)(a dP:Addr)(ao:Nat)(bc:List D)(aP:ajp):Prop where
 ex:∃aj H' ys,Inv X zn Y H' aP/\Go O aj H H'/\c5 aj H'/\G H'/\H' a=some (.ext (lstP a ao))/\H' dP=some (.lst ys)/\bj X.K X.mg aj H' bc ys/\aj dP=.dw
 na:a∉O.bJ
section
variable{X:aU}{zn:cX}{Y:aF.St}{H:aw}{s:ajp}{G:aw->Prop}{mf:bE}{f a dP:Addr}{k:Nat}{O:a4}{ao:Nat}
def Zy{h:Heap}(e:h.get? a=some (aj3 "list" #[] ao)):gN prog w H h a (.ext (lstP a ao)):=
 ⟨e,⟨_,e⟩,λaf ah p q=>q _ p⟩
def Ir{H':aw}(J:Inv X zn Y H' aP)(aq:H' a=some (.ext (lstP a ao)))(q:Str):H' a≠some (.ext (qx a q)):=λz=>by
 obtain⟨p,_⟩:=J.bQ a _ aq;obtain⟨dG,_⟩:=J.bQ a _ z;obtain⟨c,o,vs,t,ao,az,cI,_⟩:=dG;cases ao;have p:aP.heap.get? a=_:=p;rw[p]at az;cases az;cases cI
def Y1{bc:List D}{v:V}(fI:nR X k f G mf)(aB:cE k X.A.in1.in1)(l7:H a=none)(l9:H dP=none)(n7:dP≠a)(bh:Rep X.K X.mg O H d v)(d9:RelV v u)(hd:(mf [d]).run []=.ok (.v je) [])(sq:bc.length<64)(S:qm X zn Y G O H a dP ao bc aP) :
  wpAny (model X.prog X.w) X.A.in1.in1 (call (.ref f) [u]) (λu' s2=>∃(aj:a4)(H':aw)(ys:List V)(fC:V),Inv X zn Y H' s2/\Go O aj H H'/\c5 aj H'/\G H'/\H' a=some (.ext (lstP a ao))/\H' dP=some (.lst ys)/\bj X.K X.mg aj H' bc ys/\Rep X.K X.mg aj H' je fC/\RelV fC u'/\aj dP=.dw) (λ_ _=>False) aP:=by
 obtain⟨aL,H1,ys,bb,g1,fR,o2,aq,ax,bw,oF⟩:=S.ex;refine wpAny_call (alG (fI.2.2 X.A.in1.in1 aP H1 u v (λfC H'=>∃aj,Go aL aj H1 H'/\c5 aj H'/\Rep X.K X.mg aj H' je fC) aB bb.uq.in1.in1 o2 d9 ?_) λr s2 a'=>?_)
 .refine⟨aL,[d],.v je,[],fR,gu.nil,⟨v,[],rfl,?_,rfl⟩,hd,λaj fC H' g cL br _=>⟨aj,g,cL,br⟩⟩
  have Er:=bh.go g1;cases d<;>first|exact Er|exact aj4 Er|skip
  obtain⟨x,zs,q,l,r⟩:=Er;exact⟨x,zs,q,l.dH,r⟩
 .cases r with
  |error e=>exact aj4 a'|ok a_=>
   cases a_ with
   |ret u'=>
    obtain⟨fC,aM,bU,bR,bu,g2,c1,b_⟩:=bb.after a';exact⟨bu,aM,ys,fC,bU,g1.trans g2,c1,fI.1 _ _ g2.same o2,g2.same.at' _ _ aq,g2.same.at' _ _ ax,bw.go g2,b_,bR,(g2.own dP (by rw[ax];intro z;cases z)).trans oF⟩
   |next=>exact aj4 a'
   |brk=>exact aj4 a'|cont=>exact aj4 a'
def ad1{Z:fY}(j5:Z.Ok){ds:List D}{cT:List Z.κ.α}{xs:List V}{us:List Value}{P:Fin->ajp->Prop}{E:cF}(fI:nR X k f G mf)(aB:cE k X.A.in1.in1)(l7:H a=none)(l9:H dP=none)(n7:dP≠a)
  (bw:bj X.K X.mg O H ds xs) (bR:Vals xs us) (sq:∀(i:Nat)(d:D),ds[i]? = some d->∃κ,cT[i]? = some κ/\(mf [d]).run []=.ok (.v (Z.dN κ)) []) (hlen:cT.length=ds.length) (jb:ds.length<64) (S:qm X zn Y G O H a dP ao [] s)
  (fin:∀(aP:ajp)(keys:Array Value),qm X zn Y G O H a dP ao (cT.map Z.dN) aP->keys.toList.map Z.κ.keyOf=cT.map some->wpAny (model X.prog X.w) X.A.in1.in1 (ksk_end a false us.toArray ao (.ref dP) keys) P E aP) :
  wpAny (model X.prog X.w) X.A.in1.in1 (ksk_rest a (.ref f) false us.toArray ao (.ref dP)) P E s:=by
 have ZC:=bw.len;have vi:=bR.length;unfold ksk_rest;refine ajl (amW ?_)
 first
  |rw[List.forIn_toArray]
  |(rw[<-Array.forIn_toList];simp only[List.toList_toArray])
  |rw[<-Array.forIn_toList]
 refine ajl (ksk_fold (λi aP=>qm X zn Y G O H a dP ao ((cT.take i).map Z.dN) aP) us 0 s (by rw[am7];exact S) ?step ?done)
 case step=>
  intro j u aP cx av;simp only[anW]at av ⊢;have aW:j<us.length:=(ajs.mp cx).1;obtain⟨v,bI,d9⟩:∃v,xs[j]? = some v/\RelV v u:=by
   have bI:xs[j]? = some xs[j]:=aj8 (by omega);obtain⟨u',su,r⟩:=bR.get bI;rw[cx]at su;cases su;exact⟨_,bI,r⟩
  obtain⟨d,hd,bh⟩:=bw.IV bI;obtain⟨κ,X7,hm⟩:=sq j d hd;have hz:((cT.take j).map Z.dN).length<64:=by rw[ajm,amb];omega
  refine ajl (wpAny_attempt (aj6 (Y1 fI aB l7 l9 n7 bh d9 hm hz av) (λu' s2 he=>?_) λ_ _ dt=>dt.elim));obtain⟨bu,aM,ys,fC,bU,g2,c1,Ao,m9,kE,tp,ace,Ez,p2⟩:=he
  try dsimp only
  obtain⟨hsz,its,n,vals,gV⟩:=bU.bQ dP _ kE;have XB:its.length=(cT.take j).length:=by rw[<-vals.length,tp.len,ajm]
  have aiH:its.length<64:=by rw[XB,amb];omega
  have s1:=akD s2.heap dP (ajZ (·.push u'));obtain⟨ae,hU⟩:∃ae,(s2.heap.update dP (ajZ (·.push u'))).get? dP=some (aj3 "list" (its.toArray.push u') ae):=⟨_,alv gV (·.push u')⟩;refine ajl (alQ gV rfl ?_ (by rw[ajB,ajP];omega) (akq (ak2 (Array.size_push ..)) (by rw[ajB,ajP];omega)));refine ajr ⟨rfl,⟨⟨bu,upd aM dP (.lst (ys++[fC])),ys++[fC],?_,⟨oQ l9 g2.same kE _,g2.own,g2.bJ⟩,c1.eg kE,fI.2.1 _ _ _ _ kE Ao,by rw[df n7.symm];exact m9,dx,?_,p2⟩,av.na⟩⟩
  .refine bU.write (x:=dP) (e:=dP) (t':=s2.toks) (by rw[kE];trivial) (.inl rfl) (λb o ab e=>(s1.2 b ab).trans e) ⟨_,hU⟩ ⟨?_,its++[u'],ae,vals.append (.cons Ez .nil),?_⟩
   .rw[ajz,vals.length];rw[ajP];simp;omega
   .rw[hU];simp[aj3]
  .have fS:cT.take (j+1)=cT.take j++[κ]:=by rw[anE,X7];rfl
   rw[fS,akd];exact(tp.append (.one ace)).eg (by rw[p2];intro z;cases z) kE
 case done=>
  intro aP av;have cI:cT.take (0+us.length)=cT:=amD (by omega);rw[cI]at av;obtain⟨bu,aM,ys,bU,g2,c1,Ao,m9,kE,tp,p2⟩:=id av.ex;obtain⟨hsz,its,n,vals,gV⟩:=bU.bQ dP _ kE;refine ajl (listItems_at gV rfl ?_);refine fin aP its.toArray av ?_;have key:∀(cT:List Z.κ.α)(ys:List V)(its:List Value),bj X.K X.mg bu aM (cT.map Z.dN) ys->Vals ys its->its.map Z.κ.keyOf=cT.map some:=by
   intro cT
   induction cT with
   |nil=>intro ys its h r;cases h;cases r;rfl
   |cons κ cT a8=>
    intro ys its h r;obtain⟨y,t,rfl,af,ah⟩:=h
    cases r with
    |cons bB b_=>
     rw[ajw,ajw,a8 _ _ ah b_,j5.key κ _ _ _ _ _ _ af bB]
  exact key _ _ _ tp vals
end
end a0
namespace a0
open PySem PySem.Spec aF PyProof.Rows
def abv{α β:Type}(f:α->β):∀{L M:List β},L.Perm M->∀{Q:List α},M=Q.map f->∃fZ:List α,fZ.Perm Q/\L=fZ.map f:=by
 intro L M h
 induction h with
 |nil=>
  intro Q e
  cases Q with
  |nil=>exact⟨[],.refl _,rfl⟩|cons q Q=>cases e
 |cons x _ a8=>
  intro Q e
  cases Q with
  |nil=>cases e
  |cons q Q=>
   rw[ajw]at e;injection e with ao az
   obtain⟨fZ,p,cI⟩:=a8 az;exact⟨q::fZ,p.cons q,by rw[ao,cI];rfl⟩
 |swap x y l=>
  intro Q e
  cases Q with
  |nil=>cases e
  |cons q Q=>
   cases Q with
   |nil=>rw[ajw]at e;injection e with _ az;cases az
   |cons r Q=>
    rw[ajw,ajw]at e;injection e with ao az
    injection az with az cI
    exact⟨r::q::Q,.swap _ _ _,by rw[ao,az,cI];rfl⟩
 |trans _ _ u6 u7=>
  intro Q e;obtain⟨ahr,p1,ao⟩:=u7 e;obtain⟨PN,dG,az⟩:=u6 ao;exact⟨PN,dG.trans p1,az⟩
variable[aF.a7]
abbrev w5(Z:fY):=(Value×Value)×(Z.κ.α×(D×V))
section
variable{K:aS}{mg:bt}{O:a4}{H:aw}{Z:fY}
def ab4{ds:List D}:∀{xs:List V}{us keys:List Value}{cT:List Z.κ.α},bj K mg O H ds xs->Vals xs us->keys.map Z.κ.keyOf=cT.map some->cT.length=ds.length->
  ∃Q:List (w5 Z),Q.map (·.1)=keys.zip us/\Q.map (λq=>(q.2.1,q.2.2.1))=cT.zip ds/\∀q∈Q,Z.κ.keyOf q.1.1=some q.2.1/\Rep K mg O H q.2.2.1 q.2.2.2/\RelV q.2.2.2 q.1.2:=by
 induction ds with
 |nil=>
  intro xs us keys cT h r e l;cases h;cases r;rw[an7.mp l]at e ⊢;have:keys=[]:=by cases keys with|nil=>rfl|cons=>cases e
  subst this;exact⟨[],rfl,rfl,λ_ h=>(nomatch h)⟩
 |cons d ds a8=>
  intro xs us keys cT h r e l;obtain⟨x,t,rfl,af,ah⟩:=h
  cases r with
  |@cons _ u _ us bB b_=>
   cases cT with
   |nil=>cases l
   |cons κ cT=>
    cases keys with
    |nil=>cases e
    |cons kv keys=>
     rw[ajw,ajw]at e;injection e with ao az
     obtain⟨Q,bq,b1,gB⟩:=a8 ah b_ az (by simpa using l);refine⟨((kv,u),(κ,(d,x)))::Q,?_,?_,λq a'=>?_⟩
     .rw[ajw,bq];rfl
     .rw[ajw,b1];rfl
     .rcases aju.mp a' with rfl|a'
      .exact⟨ao,af,bB⟩
      .exact gB q a'
theorem MJ{α:Type}(f:α->D)(g:α->V):∀l:List α,(∀q∈l,Rep K mg O H (f q) (g q))->bj K mg O H (l.map f) (l.map g)
 |[],_=>rfl|q::l,h=>⟨_,_,rfl,h q ajy,MJ f g l λx ag=>h x (ajv _ ag)⟩
omit [aF.a7]in
theorem O4{α:Type}(f:α->V)(g:α->Value):∀l:List α,(∀q∈l,RelV (f q) (g q))->Vals (l.map f) (l.map g)
 |[],_=>.nil|q::l,h=>.cons (h q ajy) (O4 f g l λx ag=>h x (ajv _ ag))
def sorted_out{ds:List D}{xs:List V}{us:List Value}{keys:Array Value}{cT:List Z.κ.α}(bw:bj K mg O H ds xs)(bR:Vals xs us)(ax:keys.toList.map Z.κ.keyOf=cT.map some)(au:cT.length=ds.length)(aG:cT.Nodup)
  {e5:Array Keyed}(aH:e5.Perm (keys.zip us.toArray)) (aC:SortedToK Z.κ e5 e5.size) :
  ∃ys,Vals ys (e5.map (·.2)).toList/\ys.length=ds.length/\bj K mg O H ((hG Z.κ.blt (cT.zip ds)).map (·.2)) ys:=by
 obtain⟨Q,bq,b1,gB⟩:=ab4 bw bR ax au;have XW:e5.toList.Perm (Q.map (·.1)):=by
  rw[bq,<-ksk_zip];exact Array.perm_iff_toList_perm.mp aH
 obtain⟨fZ,p3,cz⟩:=abv (λq:w5 Z=>q.1) XW rfl;have Ek:∀q∈fZ,Z.κ.keyOf q.1.1=some q.2.1/\Rep K mg O H q.2.2.1 q.2.2.2/\RelV q.2.2.2 q.1.2:=λq a'=>gB q (p3.mem_iff.mp a')
 have Ae:(cT.zip ds).map (·.1)=cT:=by rw[amK];omega
 have perm:(fZ.map λq=>(q.2.1,q.2.2.1)).Perm (cT.zip ds):=by rw[<-b1];exact p3.map _
 have eb:((fZ.map λq:w5 Z=>(q.2.1,q.2.2.1)).map (·.1)).Nodup:=by
  have:=perm.map (λp:Z.κ.α×D=>p.1);rw[Ae]at this;exact this.nodup_iff.mpr aG
 have EL:(fZ.map λq:w5 Z=>(q.2.1,q.2.2.1)).Pairwise (λa b=>Z.κ.blt b.1 a.1=false):=by
  rw[anG,anK];intro i j aA aW qO;have KQ:e5.toList.length=fZ.length:=by rw[cz,ajm]
  have lu:i<e5.size:=by rw[akh]at KQ;omega
  have Jz:j<e5.size:=by rw[akh]at KQ;omega
  have:=aC i j (akG qO) Jz;have at':∀(m:Nat)(hm:m<fZ.length)(uW:m<e5.size),KK Z.κ e5 m=fZ[m].2.1:=λm hm uW=>by
   have ao:e5[m]? = some fZ[m].1:=by
    have:e5.toList[m]? = some fZ[m].1:=by rw[cz,ajW,aj8 hm];rfl
    rwa[aom]at this
   unfold KK;rw[ao];show(Z.κ.keyOf fZ[m].1.1).getD Z.κ.dflt=_;rw[(Ek _ (List.getElem_mem hm)).1];rfl
  rw[at' i aA lu,at' j aW Jz]at this;exact this
 have one:=EJ Z.κ.toKeyOrd (by rw[Ae];exact aG) perm (ad9 Z.κ.toKeyOrd eb EL);refine⟨fZ.map λq=>q.2.2.2,?_,?_,?_⟩
 .have:(e5.map (·.2)).toList=fZ.map λq=>q.1.2:=by
   rw[Array.toList_map,cz,ak4];rfl
  rw[this];exact O4 _ _ _ λq a'=>(Ek q a').2.2
 .rw[ajm,p3.length_eq]
  have:=congrArg akN b1;rw[ajm,amX,au,Nat.min_self]at this;exact this
 .rw[<-one,ak4]
  exact MJ _ _ _ λq a'=>(Ek q a').2.1
end
section
variable{X:aU}{zn:cX}{Y:aF.St}{H:aw}{s:ajp}{G:aw->Prop}{a dP:Addr}{O:a4}{ao:Nat}{Z:fY}{ds:List D}{cT:List Z.κ.α}{xs:List V}{us:List Value}{E:cF}{keys:Array Value}
def Ay(X:aU)(zn:cX)(Y:aF.St)(O:a4)(H:aw)(a:Addr)(out:List D)(aP:ajp):Prop:=
 ∃aj H' ys,Inv X zn Y H' aP/\Go O aj H H'/\c5 aj H'/\H' a=some (.lst ys)/\aj a=.dw/\bj X.K X.mg aj H' out ys
def Oc{A:ajM}{st:SortSt}(l7:H a=none)(l9:H dP=none)(n7:dP≠a)(bw:bj X.K X.mg O H ds xs)(bR:Vals xs us)(ax:keys.toList.map Z.κ.keyOf=cT.map some)(au:cT.length=ds.length)(aG:cT.Nodup)(jb:ds.length<64)
  (S:qm X zn Y G O H a dP ao (cT.map Z.dN) s) (aH:(arrOf st).Perm (keys.zip us.toArray)) (aC:SortedToK Z.κ (arrOf st) (arrOf st).size) (Xu:failedOf st=none) :
  wpAny (model X.prog X.w) A (ksk_tail a false ao (.ref dP) st) (λr aP=>r=.done (.ret .none)/\Ay X zn Y O H a ((hG Z.κ.blt (cT.zip ds)).map (·.2)) aP) E s:=by
 obtain⟨bu,aM,ajk,bU,g2,c1,Ao,m9,kE,tp,p2⟩:=S.ex;obtain⟨_,its,n,vals,gV⟩:=bU.bQ dP _ kE;have Xx:s.heap.get? a=some (aj3 "list" #[] ao):=(bU.bQ a _ m9).1;obtain⟨zs,Aj,Ae,tM⟩:=sorted_out bw bR ax au aG aH aC;have hsz:(arrOf st).size=ds.length:=by
  have af:=Aj.length;have ah:((arrOf st).map (·.2)).toList.length=(arrOf st).size:=by rw[akh,Array.size_map]
  omega
 have aiO:its.length=ds.length:=by rw[<-vals.length,tp.len,ajm,au]
 have s1:=akD s.heap dP (ajZ λ_=>(#[]:Array Value));obtain⟨bS,Jm⟩:∃bS,(s.heap.update dP (ajZ λ_=>(#[]:Array Value))).get? dP=some (aj3 "list" #[] bS):=⟨_,alv gV λ_=>#[]⟩;have DE:(s.heap.update dP (ajZ λ_=>(#[]:Array Value))).get? a=some (aj3 "list" #[] ao):=(s1.2 a n7.symm).trans Xx;have dD:Inv X zn Y (upd aM dP (.lst [])) { s with heap:=s.heap.update dP (ajZ λ_=>(#[]:Array Value)) }:=
  bU.write (x:=dP) (e:=dP) (t':=s.toks) (by rw[kE];trivial) (.inl rfl) (λb o ab e=>(s1.2 b ab).trans e) ⟨_,Jm⟩ ⟨ajN _,[],bS,.nil,Jm⟩
 have s2:=akD (s.heap.update dP (ajZ λ_=>(#[]:Array Value))) a (ajZ λ_=>(arrOf st).map (·.2));obtain⟨ae,hU⟩:∃ae,((s.heap.update dP (ajZ λ_=>(#[]:Array Value))).update a (ajZ λ_=>(arrOf st).map (·.2))).get? a=some (aj3 "list" ((arrOf st).map (·.2)) ae):=⟨_,alv DE λ_=>(arrOf st).map (·.2)⟩;have qJ:upd aM dP (.lst []) a=some (.ext (lstP a ao)):=by rw[df n7.symm];exact m9
 unfold ksk_tail
 try dsimp only
 simp only[alp,if_false];refine ajl (alQ gV rfl ?_ (by rw[ajB,ajP];omega) (ajN _));refine ajl (ak5 ?_);refine ajl (anb DE rfl ?_);refine ajl (alQ DE rfl ?_ (ajN _) (akq (ak2 (Array.size_map ..)) (by rw[hsz,ajP];omega)));rw[Xu];simp only[bne_self_eq_false,alp,if_false];have same:eE H (upd (upd aM dP (.lst [])) a (.lst zs)):=by
  have jm:=oQ l9 g2.same kE (.lst []);refine⟨λb o e n=>by rw[df (j' e l7)];exact jm.at' b o e n,λb ps e=>by rw[df (j' e l7)];exact jm.cU b ps e,λg=>?_⟩;exact(jm.bT g).put _ (λps=>by rw[qJ];intro z;cases z) (Ir dD qJ)
 have go:Go O (fV bu a .dw) H (upd (upd aM dP (.lst [])) a (.lst zs)):=⟨same,λb ab=>by
  rw[oP (by rintro rfl;exact ab l7)];exact g2.own b ab,g2.bJ⟩
 refine ajr ⟨rfl,fV bu a .dw,_,zs,?_,go,⟨λb ab=>?_,?_,c1.cn.1,λb m=>by rw[oP (by rintro rfl;exact S.na (g2.bJ▸m))];exact c1.cn.2 b m⟩,dx,nJ,tM.go go⟩
 .refine dD.write (x:=a) (e:=a) (t':=s.toks) (by rw[qJ];trivial) (.inl rfl) (λb o ab e=>(s2.2 b ab).trans e) ⟨_,hU⟩ ⟨?_,_,ae,Aj,?_⟩
  .rw[Ae,ajP];omega
  .rw[hU,Array.toArray_toList]
 .by_cases e:b=a
  .rw[e,dx];intro z;cases z
  .rw[df e]
   rw[oP e]at ab
   by_cases cz:b=dP
   .rw[cz,dx];intro z;cases z
   .rw[df cz];exact c1.has b ab
 .exact(c1.tabs.lst kE _).put _ (λps=>by rw[qJ];intro z;cases z) (Ir dD qJ)
def ad0{A:ajM}(j5:Z.Ok)(l7:H a=none)(l9:H dP=none)(n7:dP≠a)(bw:bj X.K X.mg O H ds xs)(bR:Vals xs us)(ax:keys.toList.map Z.κ.keyOf=cT.map some)(au:cT.length=ds.length)(aG:cT.Nodup)(jb:ds.length<64)
    (S:qm X zn Y G O H a dP ao (cT.map Z.dN) s) :
    wpAny (model X.prog X.w) A (ksk_end a false us.toArray ao (.ref dP) keys) (λr aP=>r=.done (.ret .none)/\Ay X zn Y O H a ((hG Z.κ.blt (cT.zip ds)).map (·.2)) aP) E s:=by
  have vi:us.length=ds.length:=by rw[<-bR.length,bw.len]
  have lk:keys.size=ds.length:=by
    have:=congrArg akN ax;rw[ajm,ajm,akh]at this;omega
  have CE:(keys.zip us.toArray).size=ds.length:=by rw[Array.size_zip,lk,ajB,vi,Nat.min_self]
  have yi:∀v∈keys.toList,∃κ,Z.κ.keyOf v=some κ:=λv bI=>by
    have:Z.κ.keyOf v∈cT.map some:=by rw[<-ax];exact alN bI
    obtain⟨κ,_,e⟩:=akg.mp this;exact⟨κ,e.symm⟩
  unfold ksk_end
  try dsimp only
  simp only[alp,if_false]
  by_cases ah:us.toArray.size<2
  · rw[if_pos ah,if_pos ah]
    refine ajl (ajr ?_);rw[StateT.run_pure];refine ajl (ajr ?_)
    try dsimp only
    refine Oc (st:=SortSt.mk' general' (keys.zip us.toArray) #[] 7 none) l7 l9 n7 bw bR ax au aG jb S (Array.Perm.refl _) ?_ rfl;intro i j qO aW;have XC:j<(keys.zip us.toArray).size:=aW;rw[CE]at XC;rw[ajB]at ah;have:i=j:=by omega
    subst this;exact PyProof.Rows.KeyOrd.kle_refl _
  · rw[if_neg ah,if_neg ah]
    rw[ajB]at ah;have X5:2<=(keys.zip us.toArray).size:=by
      have bN:2<=us.length:=Nat.le_of_not_lt ah;rw[CE];omega
    have d8:keyKind' keys=pure oneType':=by
      cases e:keys.toList with
      |nil=>
               have fb:keys.size=0:=by rw[<-akh,e];rfl
               omega
      |cons qe r=>
        cases r with
        |nil=>
                 have fb:keys.size=1:=by rw[<-akh,e];rfl
                 omega
        |cons qf r=>
          have fS:keys=(qe::qf::r).toArray:=by rw[<-e,Array.toArray_toList]
          rw[fS];exact j5.kind qe qf r λv bI=>yi v (by rw[e];exact bI)
    rw[d8];refine ajl (ajr ?_);refine ajl (aj6 (wpS_sortRunsK (κ:=Z.κ) j5.one (a₀:=keys.zip us.toArray) (st:=SortSt.mk' oneType' (keys.zip us.toArray) #[] 7 none)
      (Q:=λ_ cc=>(arrOf cc).Perm (keys.zip us.toArray)/\failedOf cc=none/\SortedToK Z.κ (arrOf cc) (keys.zip us.toArray).size)
      (λp aH=>?_) ⟨Array.Perm.refl _,rfl,rfl,rfl⟩ X5 (by rw[CE];exact jb) λcc a1 a2 eO=>⟨a1,a2,eO⟩) ?_ λ_ _ e=>e)
    · rw[ksk_zip]at aH
      exact yi _ (amk aH).1
    rintro⟨⟨⟩,cc⟩ aP ⟨rfl,aH,hf,aC⟩
    try dsimp only
    exact Oc l7 l9 n7 bw bR ax au aG jb S aH (by rw[aH.size_eq];exact aC) hf
end
end a0
namespace a0
open PySem PySem.Spec aF PyProof.Rows
variable[aF.a7]
section
variable{X:aU}{zn:cX}{Y:aF.St}{H:aw}{s:ajp}{G:aw->Prop}{mf:bE}{f l:Addr}{k:Nat}{O:a4}{Z:fY}{ds:List D}{cT:List Z.κ.α}{xs:List V}{E:cF}
def adZ(j5:Z.Ok)(J:Inv X zn Y H s)(cL:c5 O H)(bw:bj X.K X.mg O H ds xs)(cu:dn X.K H l xs)(fI:nR X k f G mf)(uB:G H)(aB:cE (k+2) X.A)
  (sq:∀(i:Nat)(d:D),ds[i]? = some d->∃κ,cT[i]? = some κ/\(mf [d]).run []=.ok (.v (Z.dN κ)) []) (hlen:cT.length=ds.length) (aG:cT.Nodup) (jb:ds.length<64) :
  wpAny (model X.prog X.w) X.A (call (.builtin "sorted") [.ref l] [(ajG "key",.ref f)]) (λu aP=>∃a,u=.ref a/\H a=none/\Ay X zn Y O H a ((hG Z.κ.blt (cT.zip ds)).map (·.2)) aP) E s:=by
 obtain⟨us,bR,pl,_⟩:=J.list cu;have au:s.heap.IsList l us.toArray:=pl.isList;have vi:us.length=ds.length:=by rw[<-bR.length,bw.len]
 have qD:H (s.heap.objs.size+1)=none:=J.bQ.fresh (ak3 _);refine call_function_entry_kw kind_sorted plain_sorted entry_sorted (ksk_s1 _ _) ?_;unfold am9.«sorted»;refine ajl (m:=checkCount "sorted" 1 1 _) (ajr ?_);refine ajl (collect_list au ?_ (by rw[ajP];omega));refine ajl (amf ?_ (by rw[ajP];omega));have hsz:((s.heap.push (aj3 "list" #[] 0)).update s.heap.objs.size (ajZ (·++us.toArray))).objs.size=s.heap.objs.size+1:=by
  rw[anZ,anL]
 have l':(((s.heap.push (aj3 "list" #[] 0)).update s.heap.objs.size (ajZ (·++us.toArray))).push (aj3 "list" us.toArray 0)).get? (s.heap.objs.size+1)=some (aj3 "list" us.toArray 0):=by
  rw[<-hsz];exact ajA _ rfl
 have keep:∀b o,s.heap.get? b=some o->(((s.heap.push (aj3 "list" #[] 0)).update s.heap.objs.size (ajZ (·++us.toArray))).push (aj3 "list" us.toArray 0)).get? b=some o:=λb o q=>by
  have fx:b<s.heap.objs.size:=ajD q;rw[alA _ _ _ (by rw[hsz];exact ajJ (amy fx)),Heap.get?_update_ne _ _ _ _ (ajJ fx),alA _ _ _ (ajJ fx)];exact q
 have bb:Inv X zn Y (upd H (s.heap.objs.size+1) (.lst xs)) { s with heap:=((s.heap.push (aj3 "list" #[] 0)).update s.heap.objs.size (ajZ (·++us.toArray))).push (aj3 "list" us.toArray 0) }:=
  J.laid (t':=s.toks) keep (ak3 _) ⟨by rw[bw.len,ajP];omega,us,0,bR,l'⟩
 have VD:Go O O H (upd H (s.heap.objs.size+1) (.lst xs)):=Go.fz qD;have ahy:c5 O (upd H (s.heap.objs.size+1) (.lst xs)):=cL.same VD.same;show wpAny _ _ _ _ _ { s with heap:=((s.heap.push (aj3 "list" #[] 0)).update s.heap.objs.size (ajZ (·++us.toArray))).push (aj3 "list" us.toArray 0) };rw[hsz];refine ajl (akF (wpAny_call_entry_kw slot_list_sort ⟨_,l',rfl⟩ entry_list_sort ?body (ksk_l1 _ _)))
 case body=>
  show wpAny (model X.prog X.w) X.A.in1.in1 (am9.«list.sort» ⟨[.ref (s.heap.objs.size+1)],[(ajG "key",.ref f)]⟩) _ _ _;rw[ksk_t1];generalize sk:s.heap.objs.size+1=a at *;generalize((s.heap.push (aj3 "list" #[] 0)).update s.heap.objs.size (ajZ (·++us.toArray))).push (aj3 "list" us.toArray 0)=af at *;have s1:=akD af a (ajZ λ_=>(#[]:Array Value));obtain⟨ao,Cu⟩:∃ao,(af.update a (ajZ λ_=>(#[]:Array Value))).get? a=some (aj3 "list" #[] ao):=⟨_,alv l' λ_=>#[]⟩;have bU:Inv X zn Y (upd (upd H a (.lst xs)) a (.ext (lstP a ao))) { s with heap:=af.update a (ajZ λ_=>(#[]:Array Value)) }:=
   bb.write (x:=a) (e:=a) (t':=s.toks) (by rw[dx];trivial) (.inl rfl) (λb o ab e=>(s1.2 b ab).trans e) ⟨_,Cu⟩ (Zy Cu)
  rw[afa]at bU;unfold ksk_tree;refine ajl (listItems_at l' rfl ?_);refine ajl (alQ l' rfl ?_ (by rw[ajB,ajP];omega) (ajN _));refine ajl (anb Cu rfl ?_);refine ajl (wpAny_newTuple ?_ (by show us.length<=_;rw[ajP];omega));refine ajl (amf ?_ (ajN _));refine akF ?_;have dD:Inv X zn Y (upd H a (.ext (lstP a ao))) { s with heap:=(af.update a (ajZ λ_=>(#[]:Array Value))).push (aj3 "tuple" us.toArray 0) }:=
   bU.kept (t':=s.toks) λb o e=>ajn _ e
  generalize aiG:(af.update a (ajZ λ_=>(#[]:Array Value))).push (aj3 "tuple" us.toArray 0)=ah at *;have sh:upd H a (.ext (lstP a ao)) ah.objs.size=none:=dD.bQ.fresh (ajq _);have y':ah.objs.size≠a:=by
   intro z;rw[z,dx]at sh;cases sh
  have l9:H ah.objs.size=none:=by rw[df y']at sh;exact sh
  have i8:Inv X zn Y (upd (upd H a (.ext (lstP a ao))) ah.objs.size (.lst [])) { s with heap:=ah.push (aj3 "list" #[] 0) }:=
   dD.laid (t':=s.toks) (λb o e=>ajn _ e) (ajq _) ⟨ajN _,[],0,.nil,ajA _ rfl⟩
  have I0:Go O (fV O ah.objs.size .dw) H (upd (upd H a (.ext (lstP a ao))) ah.objs.size (.lst [])):=(Go.fz qD).trans (Go.new sh);have UH:c5 (fV O ah.objs.size .dw) (upd (upd H a (.ext (lstP a ao))) ah.objs.size (.lst [])):=(cL.same (Go.fz (O:=O) qD).same).new sh;have PO:qm X zn Y G O H a ah.objs.size ao [] { s with heap:=ah.push (aj3 "list" #[] 0) }:=
   ⟨⟨fV O ah.objs.size .dw,_,[],i8,I0,UH,fI.1 _ _ I0.same uB,by rw[df y'.symm];exact dx,dx,rfl,nJ⟩,λm=>cL.has a (by rw[cL.cn.2 a m];intro z;cases z) qD⟩
  refine aj6 (ad1 (E:=E) j5 fI (aB.in1.in1) qD l9 y' bw bR sq hlen jb PO λaP keys av XE=>ad0 j5 qD l9 y' bw bR XE hlen aG jb av) (λr aP a'=>?_) λ_ _ e=>e
  obtain⟨rfl,a'⟩:=a';exact⟨_,rfl,ajr ⟨_,rfl,a,rfl,qD,a'⟩⟩
end
structure mT(K:aS)(c P:Addr)(q:Str):Prop where
 hd:∀h,K.In h->W.CodeHd h c P
 hp:a7.hp P
 tn:a7.tn P=q
structure kk(base:Heap)(mg:bt):Prop where
 ex:∃bm o,mg (ajG "__builtins__")=some (ajU bm)/\bm≠anH/\bm≠ajX/\base.get? bm=some o/\o.cls=amv "module"/\o.dict=some anH/\o.data=Data.plain
def DQ(f:Addr)(bC:Obj):Heap->Prop:=λh=>h.get? f=some bC
def mS(f c:Addr)(q:Str)(bC:Obj):aw->Prop:=λH=>H f=some (.ext (DQ f bC))/\H c=some (.ext (qx c q))
def mS.mono(H H':aw)(s:eE H H')(g:mS f c q bC H):mS f c q bC H':=⟨s.at' _ _ g.1,s.at' _ _ g.2⟩
def mS.upd(H:aw)(p:Addr)(zs:List V)(o:gM)(h:H p=some (.lst zs))(g:mS f c q bC H):mS f c q bC (upd H p o):=
 ⟨by rw[df (by rintro rfl;have:=g.1;rw[h]at this;cases this)];exact g.1,by rw[df (by rintro rfl;have:=g.2;rw[h]at this;cases this)];exact g.2⟩
def Vd{K:aS}{mg:bt}{N ps:List Str}{m:bp}{vs:List V}{H:aw}{Q:c9}(h:b6 K mg (fnOf ps.length N.length (bG m)) vs H Q i7):fs K mg m (aF.start N vs) H Q:=by
 obtain⟨O,ds,r,S,cL,e2,e5,h,q⟩:=h;have au:=xV h;unfold fnOf at h;rw[if_pos au]at h;obtain⟨a_,S1,af,h⟩:=M.inv h;have wk:=EO (N:=N) cL e2 e5 au;obtain⟨kO,a6,ah,bN⟩:=M.inv af;refine⟨fk O,_,S,kO,a6,wk,ah,λaj v H' g cc br nn=>?_⟩
 let bu:a4:=⟨λb=>match H b with|some _=>O b|none=>aj b,O.bJ⟩
 have ra:∀b,H b≠none->bu b=O b:=λb ab=>by
  show(match H b with|some _=>O b|none=>aj b)=O b
  cases e:H b with
  |none=>exact absurd e ab|some o=>rfl
 have pZ:∀b,H b=none->bu b=aj b:=λb ab=>by
  show(match H b with|some _=>O b|none=>aj b)=aj b;rw[ab]
 have dr:mQ aj bu:=⟨λb ab=>by
  by_cases aG:H b=none
  .rw[pZ b aG];exact ab
  .rw[ra b aG];exact ph.mp ((g.own b aG).symm.trans ab),g.bJ.symm⟩
 have go:Go O bu H H':=⟨g.same,λb ab=>ra b ab,rfl⟩;have cg:c5 bu H':=⟨λb ab=>by
  by_cases aG:H b=none
  .rw[pZ b aG]at ab;exact cc.cg.has b ab
  .exact g.same.some aG,cc.cg.tabs,cL.cn.1,λb m=>(ra b (cL.has b (by rw[cL.cn.2 b m];intro z;cases z))).trans (cL.cn.2 b m)⟩
 cases kO with
 |v d=>
  cases bN;cases h;exact q bu v H' go cg (Rep.dr dr br) trivial
 |fr zs=>
  cases bN;cases h;obtain⟨a,ys,rfl,l,t,bw⟩:=br;have aG:=nn a rfl;exact q bu _ H' go cg ⟨a,ys,rfl,l,(pZ a aG).trans t,bw.dr dr⟩ nn
 |bF zs=>cases bN
 |mv zs=>cases bN
section
variable{X:aU}{k:Nat}{f c:Addr}{name q:Str}{params:amr}{body:Expr}{scope:Scope}{pm hi:Value}{N ps:List Str}{m:bp}
theorem KP{p1:Str}(Sc:cf N [p1] scope)(l5:∀(u:Value),alF (W.kla_fn name q params body scope [] pm (.ref c) hi) ⟨[u],[]⟩=pure [(p1,u)])
  (ab:∀(A:ajM)(s:ajp)(H:aw),cE k (A.deeper (al5 q scope s.heap.objs.size f (.ref c)))->hI (hj eM X.prog X.w X.K X.mg X.base N q scope f (.ref c) A X.stack s H i7).gI body m) :
  nR X (k+1) f (mS f c q (W.kla_obj name q params body scope [] pm c hi)) (fnOf 1 N.length (bG m)):=by
 refine⟨mS.mono,mS.upd,λA s H u v Q aB d6 g d9 hW=>?_⟩;obtain⟨g1,_⟩:=d6.bQ f _ g.1;obtain⟨g2,_⟩:=d6.bQ c _ g.2;have lim:s.heap.NoLimit:=d6.mod.nolimit.keeps λb o e=>(d6.bs b o e).1
 have Cr:∀y∈[p1].zip [u],scope.names.lookup y.1=some .local\/(scope.names.lookup y.1=some .cell/\((cellsFrom (s.heap.objs.size+1) scope.names []).lookup y.1).isSome=true):=λaX ba=>by
  obtain⟨n,v⟩:=aX;rcases Sc.par n (amk ba).1 with q|q
  .exact .inl q
  .exact .inr ⟨q,anU _ _ _ (.inl q)⟩
 refine W.kla_callFunE aB.depth g1 rfl Sc.co Sc.gen rfl g2 ?_;rw[l5];refine ajr ?_;refine wpAny_newFunctionEnv_cells Sc.kind Cr λenv he s1 x=>?_
 subst he;refine⟨lim.keeps x.toInCall.keep,W.kla_codeExpr ?_⟩;have J:Inv (hj eM X.prog X.w X.K X.mg X.base N q scope f (.ref c) A X.stack s H i7) [] (aF.start N [v]) H s1:=JZ Sc aB.hd d6 rfl (.cons d9 .nil) x;refine aj6 ((bV.gI (ab A s H (aB.deeper _))) [] s1 (aF.start N [v]) H _ J (Vd (ps:=[p1]) hW)) (λu' aP aC=>?_) λe aP aC=>aC
 obtain⟨fC,H',cm,bR,fp⟩:=aC;exact⟨fC,H',cm.os,cm.bare,cm.base,cm.bQ,bR,fp⟩
end
end a0
namespace a0
open PySem PySem.Spec aF PyProof.Rows
theorem OC{a b:Int}:∀l:List Value,aoc l->aoc (l++[alz a,alz b,c])
 |[],_=>trivial|.int _ _::.int _ _::_::rest,h=>OC rest h
theorem FL{pos pos':Pos}:∀l:List Value,aoc l->amN pos' (l++[alz pos.line,alz pos.col,c])=some iB->amN pos' l=some iB\/iB=c
 |[],_,h=>by
  right;have h:(if((pos.line:Int)==pos'.line&&(pos.col:Int)==pos'.col)=true then some c else none)=some iB:=h;split at h
  .cases h;rfl
  .cases h
 |.int a _::.int b _::d::rest,t,h=>by
  have h:(if(a==pos'.line&&b==pos'.col)=true then some d else amN pos' (rest++[alz pos.line,alz pos.col,c]))=some iB:=h;show(if(a==pos'.line&&b==pos'.col)=true then some d else amN pos' rest)=some iB\/_;split at h
  .rename_i aI;rw[if_pos aI];exact .inl h
  .rename_i aI;rw[if_neg aI];exact FL rest t h
variable[aF.a7]
section
variable{X:aU}{zn:cX}{Y:aF.St}{H:aw}{s:ajp}{O:a4}{c P:Addr}{q:Str}{params:amr}{body:Expr}{scope:Scope}{pos:Pos}
def KO(J:Inv X zn Y H s)(cL:c5 O H)(L:mT X.K c P q)(B:kk X.base X.mg)(m':X.env.code=.ref c)(a':X.env.qual++ajG "<lambda>"=q)(n_:anM params X.env=([],[]))(jG:alU scope X.env=pure []) :
  wpAny (model X.prog X.w) X.A (eval (.Lambda params body scope pos) X.env) (λu aP=>∃(f c':Addr)(pm hi:Value)(H':aw),u=.ref f/\Inv X zn Y H' aP/\Go O O H H'/\c5 O H'/\mS f c' q (W.kla_obj (ajG "<lambda>") q params body scope [] pm c' hi) H') X.dU s:=by
 obtain⟨ps,en,kV,Bl⟩:=cL.tabs P L.hp;rw[L.tn]at Bl;have IP:s.heap.get? P=some (W.tabObj ps):=J.bQ P _ en;have Hn:∀b o,X.base.get? b=some o->b≠P:=λb o e z=>by
  subst z;have:=(J.bs b o e).2;rw[en]at this;cases this
 have pz:s.heap.Ns ajX X.mg:=J.mod.glob.keeps J.cG;have Xw:ajX≠P:=by
  obtain⟨o,ay,cM,e,_⟩:=J.mod.glob;exact Hn _ _ e
 have n6:s.heap.BuiltinsAt X.mg P:=by
  obtain⟨bm,o,bW,bY,gR,hP,jA⟩:=B.ex;exact⟨bm,o,bW,bY,gR,Hn _ _ hP,J.cG _ _ hP,jA⟩
 have C:=L.hd _ J.fe;refine W.kla_eval n_ ?_;rw[a']
 cases lY:amN pos ps.toList with
 |some iB=>
  obtain⟨c',rfl,yc⟩:=Bl pos iB lY;refine W.kla_makeFunctionHit jG J.ok.glob pz m' C IP kV lY n6 λhi h' tk ax hsz=>?_
  have aG:H h'.objs.size=none:=J.bQ.fresh hsz;have go:Go O O H (upd H h'.objs.size (.ext (DQ h'.objs.size (W.kla_obj (ajG "<lambda>") q params body scope [] ((X.mg (ajG "__name__")).getD .none) c' hi)))):=Go.fz aG;refine⟨h'.objs.size,c',_,hi,_,rfl,J.laid (t':=tk) (λb o e=>ajn _ (ax b o e)) hsz ?_,go,cL.same go.same,dx,go.same.at' _ _ yc⟩;exact⟨ajA _ rfl,⟨_,ajA _ rfl⟩,λaf ah p r=>r _ p⟩
 |none=>
  refine W.kla_makeFunction jG J.ok.glob pz m' C IP kV lY Xw n6 λc' hi h' tk ag Jw fx Cy JL=>?_
  have JD:H c'=none:=J.bQ.fresh Jw;have Z7:c'≠P:=(j' en JD).symm
  let kM:=ps++#[alz pos.line,alz pos.col,.ref c']
  let H1:=upd (upd H P (.gp kM)) c' (.ext (qx c' q))
  have k9:∀{b:Addr},b≠P->b≠c'->H1 b=H b:=λaf ah=>by show upd _ _ _ _=_;rw[df ah,df af]
  have xe:H1 P=some (.gp kM):=by show upd _ _ _ _=_;rw[df Z7.symm];exact dx
  have AP:H1 c'=some (.ext (qx c' q)):=dx;have Z':∀{b:Addr}{o:Obj},s.heap.get? b=some o->b≠c':=λe=>ajJ (aj1 (ajD e) Jw)
  have nz:∀{b:Addr}{o:gM},H b=some o->b≠c':=λe=>j' e JD
  have un:gP X.aZ [] H H1 s.heap h':=by
   refine⟨λb o e n _ _=>ag b o (by rintro rfl;rw[en]at n;cases n) e,λb o e n _ _=>⟨o.slots,ag b o (by rintro rfl;rw[en]at n;cases n) e⟩,
    λb o e n _=>by rw[k9 (by rintro rfl;rw[en]at n;cases n) (Z' e)];exact n,λb o e _=>?_,λb xs e=>?_,λb o u e=>?_,λb zs e=>?_⟩
   .by_cases ab:b=P
    .rw[ab];exact⟨_,JL⟩
    .exact⟨o,ag b o ab e⟩
   .rw[k9 (by rintro rfl;rw[en]at e;cases e) (nz e)];exact e
   .rw[k9 (by rintro rfl;rw[en]at e;cases e) (nz e)];exact e
   .by_cases ab:b=P
    .subst ab
     rw[en]at e;cases e;exact⟨_,xe⟩
    .exact⟨#[],by rw[k9 ab (nz e),e];simp⟩
  have bQ:fh X.prog X.w H1 h':=λb u e=>by
   by_cases af:b=c'
   .subst af
    rw[AP]at e;cases e;obtain⟨ae,dv,vs,t,ff,ew,k1,mK⟩:=Cy;cases ff;exact⟨⟨_,dv,vs,t,rfl,ew,k1,mK⟩,⟨_,ew⟩,λaf ah aX r=>by obtain⟨jZ,aaq,afb,t3,Ac,Ad,Pj,Pk⟩:=aX;cases Ac;exact⟨_,aaq,afb,t3,rfl,r _ Ad,Pj,Pk⟩⟩
   .by_cases ah:b=P
    .subst ah
     rw[xe]at e;cases e;exact JL
    .rw[k9 ah af]at e
     refine(J.bQ b u e).rq (λd o hd U1=>ag d o (λz=>?_) U1) (λd dX=>?_) λd xs dX=>?_
     .rcases hd with rfl|hd
      .exact ah z
      .rw[z,en]at hd;cases hd
     .rw[k9 (by rintro rfl;rw[en]at dX;cases dX) (nz dX)];exact dX
     .rw[k9 (by rintro rfl;rw[en]at dX;cases dX) (nz dX)];exact dX
  have bb:Inv X zn Y H1 { s with heap:=h',toks:=tk }:=J.un (t':=tk) un bQ;have aG:H1 h'.objs.size=none:=bQ.fresh (ajq _);have acF:eE H H1:=by
   refine⟨λb o e n=>by rw[k9 (by rintro rfl;rw[en]at e;cases e;exact n) (nz e)];exact e,λb zs e=>?_,λg kn VW=>?_⟩
   .by_cases ab:b=P
    .exact⟨kM,by rw[ab];exact xe⟩
    .exact⟨zs,by rw[k9 ab (nz e)];exact e⟩
   .obtain⟨zs,ao,az,cI⟩:=g kn VW
    by_cases ab:kn=P
    .subst ab
     refine⟨kM,xe,?_,λpos' iB sm=>?_⟩
     .show aoc (ps++#[alz pos.line,alz pos.col,.ref c']).toList
      rw[Array.toList_append];exact OC _ kV
     .have sm:amN pos' (ps++#[alz pos.line,alz pos.col,.ref c']).toList=some iB:=sm
      rw[Array.toList_append]at sm;rw[L.tn];rcases FL _ kV sm with h|h
      .obtain⟨ae,rfl,ah⟩:=Bl pos' iB h
       exact⟨ae,rfl,by rw[k9 (by rintro rfl;rw[en]at ah;cases ah) (nz ah)];exact ah⟩
      .exact⟨c',h,AP⟩
    .refine⟨zs,by rw[k9 ab (nz ao)];exact ao,az,λpos' iB sm=>?_⟩
     obtain⟨ae,af,ah⟩:=cI pos' iB sm;exact⟨ae,af,by rw[k9 (by rintro rfl;rw[en]at ah;cases ah) (nz ah)];exact ah⟩
  have go:Go O O H (upd H1 h'.objs.size (.ext (DQ h'.objs.size (W.kla_obj (ajG "<lambda>") q params body scope [] ((X.mg (ajG "__name__")).getD .none) c' hi)))):=(⟨acF,λ_ _=>rfl,rfl⟩:Go O O H H1).trans (Go.fz aG);refine⟨h'.objs.size,c',_,hi,_,rfl,bb.laid (t':=tk) (λb o e=>ajn _ e) (ajq _) ?_,go,cL.same go.same,dx,(rn aG _).at' _ _ AP⟩;exact⟨ajA _ rfl,⟨_,ajA _ rfl⟩,λaf ah p r=>r _ p⟩
end
end a0
namespace a0
open PySem PySem.Spec aF PyProof.Rows
def A':ake "sorted"=some (.builtin "sorted"):=by decide +kernel
def yF(Z:fY)(mf:bE)(d:D):Option Z.κ.α:=match(mf [d]).run []with
 |.ok (.v x) []=>Z.un x|_=>none
def keysOf(Z:fY)(mf:bE):List D->Option (List Z.κ.α)
 |[]=>some []|d::ds=>match yF Z mf d,keysOf Z mf ds with
  |some a,some as=>some (a::as)|_,_=>none
def jz{α:Type}(blt:α->α->Bool):List α->Bool
 |[]=>true|a::r=>r.all (λb=>blt a b||blt b a)&&jz blt r
def sf(Z:fY)(mf:bE)(x:R):M R:=match x.fo with
 |some ds=>match keysOf Z mf ds with
  |some cT=>if jz Z.κ.blt cT=true/\ds.length<64 then pure (.fr ((hG Z.κ.blt (cT.zip ds)).map (·.2)))else bad|none=>bad
 |none=>bad
@[simp] def qw(Z:fY)(mf:bE)(c2:bp)(Y:aR):M R:=do
 let x <-c2 Y
 sf Z mf x
theorem Kr{Z:fY}{mf:bE}(ry:∀d a,Z.un d=some a->d=Z.dN a):∀{ds:List D}{cT:List Z.κ.α},keysOf Z mf ds=some cT->cT.length=ds.length/\∀(i:Nat)(d:D),ds[i]? = some d->∃κ,cT[i]? = some κ/\(mf [d]).run []=.ok (.v (Z.dN κ)) []
 |[],cT,h=>by cases h;exact⟨rfl,λi d h=>by simp at h⟩
 |d::ds,cT,h=>by
  unfold keysOf at h;split at h
  .rename_i a as af ah
   cases h;obtain⟨l,r⟩:=Kr ry ah;refine⟨by rw[ajC,ajC,l],λi e he=>?_⟩
   cases i with
   |zero=>
    cases(show some d=some e from he);refine⟨a,rfl,?_⟩;unfold yF at af;split at af
    .rename_i x ag
     rw[ag,ry x a af]
    .cases af
   |succ i=>
    obtain⟨κ,ao,az⟩:=r i e (by simpa using he);exact⟨κ,by simpa using ao,az⟩
  .cases h
theorem AJ(Q:ak0):∀{l:List Q.α},jz Q.blt l=true->l.Nodup
 |[],_=>.nil|a::r,h=>by
  unfold jz at h;rw[aj5,akL]at h;rw[akn];refine⟨λhm=>?_,AJ Q h.2⟩;have:=h.1 a hm;rw[Q.irrefl]at this;cases this
variable[aF.a7]
section
variable{X:aU}{k:Nat}{e:Expr}{c2:bp}{Z:fY}{p pos kp:Pos}{je:Expr}{mf:bE}{G:Addr->aw->Prop}
def SV(j5:Z.Ok)(aY:eC X "sorted")(hm:X.mg "sorted"=none)(aB:cE (k+2) X.A)(aq:hI X e c2)
  (dy:∀(zn:cX)(s:ajp)(Y:aF.St)(O:a4)(H:aw),Inv X zn Y H s->c5 O H->
   wpAny (model X.prog X.w) X.A (eval je X.env) (λu aP=>∃(f:Addr)(H':aw)(G:aw->Prop),u=.ref f/\Inv X zn Y H' aP/\Go O O H H'/\c5 O H'/\G H'/\nR X k f G mf) X.dU s)
  (he:ajS pos (ajo [e] X.env)=(false,eval e X.env)::ajS pos (ajo [] X.env):=by rfl)
  (aC:ajo [e] X.env=(false,eval e X.env)::ajo [] X.env:=by rfl)
  (iU:(ajS pos (ajo [e] X.env)).any (·.1)=false:=by rfl) :
  hI X (.Call (.Name "sorted" p) [e] [⟨some (ajG "key"),je,kp⟩] pos) (qw Z mf c2):=by
 rintro zn s Y H Q J ⟨O,wN,S,r,av,st,h,q⟩;obtain⟨x,S1,af,h⟩:=M.inv h;obtain⟨ds,cT,oa,XD,V2,jb,rfl,rfl⟩:∃ds cT,x.fo=some ds/\keysOf Z mf ds=some cT/\jz Z.κ.blt cT=true/\ds.length<64/\r=.fr ((hG Z.κ.blt (cT.zip ds)).map (·.2))/\S1=av:=by
  unfold sf at h;split at h
  .rename_i ds ao
   split at h
   .rename_i cT az
    by_cases c:jz Z.κ.blt cT=true/\ds.length<64
    .rw[if_pos c]at h
     cases h;exact⟨ds,cT,ao,az,c.1,c.2,rfl,rfl⟩
    .rw[if_neg c]at h;cases h
   .cases h
  .cases h
 obtain⟨hlen,sq⟩:=Kr j5.ry XD;refine akS (q0 J aY hm A' ?_);refine callWith_kw ?_ he iU rfl rfl;refine bX ((zp aq D5 aC) pos zn s Y H (λvs H1=>∃v aL,vs=[v]/\Go O aL H H1/\cy X.K X.mg aL wN S1 Y H1/\eW X.K X.mg aL H1 x v) J ⟨O,wN,S,x,S1,st,af,λaL v H1 g1 aT br nn=>⟨v,aL,rfl,g1,aT,br⟩⟩) λus s1 aX=>?_
 obtain⟨vs,H1,bb,bB,v,aL,ev,g1,aT,br⟩:=aX;subst ev;obtain⟨l,ys,rfl,au,bw⟩:=R.ni br oa;obtain⟨u,rfl,d9⟩:=vals1 bB;cases d9;refine wpAny_evalAll_cons (ajl (bX (dy zn s1 Y aL H1 bb aT.cg) λu s2 ax=>ajl (anz (ajr ?_))));obtain⟨f,aM,G,rfl,bU,g2,c1,BY,fI⟩:=ax;refine wpAny_evalAll_nil ?_;show wpAny _ _ (call (.builtin "sorted") [.ref l] [(ajG "key",.ref f)]) _ _ _;refine bX (adZ j5 bU c1 (bw.go g2) (g2.same.seq au) fI BY aB sq hlen (AJ Z.κ.toKeyOrd V2) jb) λu s3 aX=>?_
 obtain⟨a,jC,l7,eV,cP,zs,dD,g3,m1,qJ,nB,aca⟩:=aX;subst jC;refine⟨.ref a,cP,dD,rfl,q eV _ cP (g1.trans (g2.trans g3)) (aT.go (g2.trans g3) m1) ⟨a,zs,rfl,qJ,nB,aca⟩ λb c6=>?_⟩;cases c6;exact(g1.trans g2).same.free l7
def SW{c P:Addr}{q p1:Str}{params:amr}{body:Expr}{scope:Scope}{j8:Pos}{N:List Str}{m:bp}(j5:Z.Ok)(aY:eC X "sorted")(hm:X.mg "sorted"=none)(aB:cE (k+3) X.A)(L:mT X.K c P q)(B:kk X.base X.mg)(m':X.env.code=.ref c)
  (a':X.env.qual++ajG "<lambda>"=q) (Sc:cf N [p1] scope)
  (l5:∀(c:Addr)(pm hi u:Value),alF (W.kla_fn (ajG "<lambda>") q params body scope [] pm (.ref c) hi) ⟨[u],[]⟩=pure [(p1,u)])
  (ab:∀(f c:Addr)(A:ajM)(s:ajp)(H:aw),cE k (A.deeper (al5 q scope s.heap.objs.size f (.ref c)))->hI (hj eM X.prog X.w X.K X.mg X.base N q scope f (.ref c) A X.stack s H i7).gI body m)
  (aq:hI X e c2) (n_:anM params X.env=([],[]):=by rfl) (jG:alU scope X.env=pure []:=by rfl)
  (he:ajS pos (ajo [e] X.env)=(false,eval e X.env)::ajS pos (ajo [] X.env):=by rfl)
  (aC:ajo [e] X.env=(false,eval e X.env)::ajo [] X.env:=by rfl)
  (iU:(ajS pos (ajo [e] X.env)).any (·.1)=false:=by rfl) :
  hI X (.Call (.Name "sorted" p) [e] [⟨some (ajG "key"),.Lambda params body scope j8,kp⟩] pos) (qw Z (fnOf 1 N.length (bG m)) c2):=
 SV (k:=k+1) j5 aY hm aB aq (λzn s Y O H J cL=>bX (KO J cL L B m' a' n_ jG) λu aP ⟨f,c',pm,hi,H',jC,h7,g',d',nQ⟩=>
  ⟨f,H',_,jC,h7,g',d',nQ,KP Sc (l5 c' pm hi) (ab f c')⟩) he aC iU
end
def Cc{P:ajF}{w:World}{K:aS}{mg:bt}{base:Heap}{x:Str}{st:Stmt}{ps N:List Str}{k:Nat}{c_:a3}{n nl:Nat}{c:Addr}(cp:cp K mg x st ps)(aI:∀(f:Addr)(dv:Value)(c3:Option Addr)(cB doc pm:Value)(an:Option Addr)(bx ct:Value)(fA:Array (Option Value)),mg x=some (.ref f)->K.lookup f=some ⟨dv,c3,.func (ala x x (ie st) (fv st) (bH st) .none cB doc pm an bx ct),fA⟩->bx=.ref c)
  (Sc:cf N ps (bH st)) (aG:ps.length=n) (au:N.length=nl)
  (ab:∀(f:Addr)(A:ajM)(outer:List Env)(s:ajp)(H:aw)(E:gE),cE k (A.deeper (akx x (bH st) s.heap.objs.size f (.ref c)))->
   rL (hj eM P w K mg base N x (bH st) f (.ref c) A outer s H E).gI (fv st) c_):b2 P w K mg base x ps (k+1) (b6 K mg (fnOf n nl c_)):=by
 obtain⟨f,fd,F,b,m⟩:=cp.ex;refine⟨f,fd,?_,b,F.kp,m⟩;obtain⟨dv,c3,cB,doc,pm,an,bx,ct,fA,rfl,lk,gG⟩:=F.ex;have e:=aI f dv c3 cB doc pm an bx ct fA m lk;subst e;subst aG au;refine BS lk gG Sc (λvs H Q E ⟨O,ds,r,av,cL,e2,e5,h,q⟩=>e5.len.trans (xV h)) λA outer s H vs Q E aB hW=>⟨_,(ab f A outer s H E aB).gI,HD hW⟩
end a0
namespace aF
open PySem PySem.Spec PyProof.Rows
def nh(r:Int->Int->Bool)(z:Nat->Nat->Bool):List Int->List Int->Bool
 |x::xs,y::ys=>if x=y then nh r z xs ys else r x y|xs,ys=>z xs.length ys.length
def q1(r:Int->Int->Bool)(z:Nat->Nat->Bool)(x y:Int)(xs ys:List Int):nh r z (x::xs) (y::ys)=if x=y then nh r z xs ys else r x y:=rfl
def Dj(r:Int->Int->Bool)(z:Nat->Nat->Bool)(ys:List Int):nh r z [] ys=z 0 ys.length:=by cases ys<;>rfl
def Dk(r:Int->Int->Bool)(z:Nat->Nat->Bool)(xs:List Int):nh r z xs []=z xs.length 0:=by cases xs<;>rfl
abbrev lexLt:List Int->List Int->Bool:=nh (λi j=>decide (i<j)) (λi j=>decide (i<j))
section
open PySem.SeqAt
open PySem.AutoSeq1 (wpAny_loadPart')
open PySem.MeetsSeq PySem.MeetsSeq2 PySem.MeetsSeq3
def aeY(l b:Addr)(items fc:Array Value)(n di:Nat)(dd lV:Option Addr)(cN mz:Array (Option Value))(ns ms:List Int)(aA:akH items.toList ns)(aW:akH fc.toList ms) :
  Meets (am9.«tuple.__lt__» ⟨[.ref l,.ref b],[]⟩)
   (λ_ R s=>s.heap.get? l=some { cls:=.type "tuple",dict:=dd,data:=.seq items n,slots:=cN }/\s.heap.get? b=some { cls:=.type "tuple",dict:=lV,data:=.seq fc di,slots:=mz }/\
    R (.ok (.ret (.bool (lexLt ns ms)))) s):=
 .of_wp λprog w A R s h=>by
  obtain⟨aH,g,d,tk,os⟩:=s;obtain⟨au,ab,h⟩:=h;have f2:=amt;have ff:items.size=ns.length:=by rw[<-aA.length];simp
  have ew:fc.size=ms.length:=by rw[<-aW.length];simp
  wp_walk using wpAny_loadPart' au,wpAny_loadPart' ab,an0 _ (λrest b aP=>b.1=none/\aP=⟨aH,g,d,tk,os⟩/\∃(vs ws:List Value)(hY d2:List Int),rest=vs.zip ws/\
   akH vs hY/\akH ws d2/\hY.length+fc.size=d2.length+items.size/\R (.ok (.ret (.bool (lexLt hY d2)))) ⟨aH,g,d,tk,os⟩) _
  case turn=>
   rintro⟨y,x⟩ rest b aP ⟨l4,rfl,vs,ws,hY,d2,hz,mc,md,hlen,eG⟩
   cases mc with
   |nil=>rw[amz]at hz;cases hz
   |cons a t u2=>
    cases md with
    |nil=>rw[anm]at hz;cases hz
    |cons c u u3=>
     rw[akT]at hz;injection hz with u4 uZ
     injection u4 with ba ag
     subst ba ag;unfold lexLt at eG;rw[q1]at eG;simp only[ajC]at hlen;obtain⟨e,he,pC⟩:=d0.BE A.in1 ⟨aH,g,d,tk,os⟩ a t c u;refine ajl (he prog w _ _ ?_)
     cases e with
     |true=>
      rw[if_pos (pC.mp rfl)]at eG
      wp_walk
      exact⟨rfl,rfl,_,_,_,_,uZ,u2,u3,by omega,eG⟩
     |false=>
      rw[if_neg (λq=>absurd (pC.mpr q) ajx)]at eG;have qT:∀(E:cF)(Q:cF),Q (.bool (decide (a<c))) ⟨aH,g,d,tk,os⟩->wpAny (model prog w) A.in1 (amE .Lt (.int a t) (.int c u)) Q E ⟨aH,g,d,tk,os⟩:=λE Q h=>(PyProof.Rows.lt_int h:wpAny (model prog w) A.in1 (aj9 .Lt (.int a t) (.int c u)) Q E _)
      wp_walk using qT
      exact⟨_,rfl,by simpa using eG⟩
  case fin=>
   rintro⟨bW,bY⟩ aP ⟨l4,rfl,vs,ws,hY,d2,hz,mc,md,hlen,eG⟩;simp only at l4;subst l4;have bI:lexLt hY d2=decide (items.size<fc.size):=by
    cases mc with
    |nil=>
     unfold lexLt;rw[Dj];simp only[ako]at hlen;exact decide_eq_decide.mpr (by omega)
    |cons a t bI=>
     cases md with
     |nil=>
      unfold lexLt;rw[Dk];simp only[ako]at hlen;exact decide_eq_decide.mpr (by omega)
     |cons c u hw=>
      rw[akT]at hz;cases hz
   rw[bI]at eG
   wp_walk
   exact⟨_,rfl,by simpa[alO]using eG⟩
  case h=>
   exact⟨rfl,rfl,items.toList,fc.toList,ns,ms,rfl,aA,aW,by omega,h⟩
end
def ZA{prog:ajF}{w:World}{A:ajM}{E:cF}{s:ajp}{l b:Addr}{items fc:Array Value}{ns ms:List Int}{Q:cF}(au:IsTup s.heap l items)(ab:IsTup s.heap b fc)(aA:akH items.toList ns)(aW:akH fc.toList ms)
  (cx:A.units<cLine) (h:Q (.bool (lexLt ns ms)) s):wpAny (model prog w) A (aj9 .Lt (.ref l) (.ref b)) Q E s:=by
 obtain⟨⟨cls,dd,data,cN⟩,bg,aI,n,hd⟩:=id au;obtain⟨⟨HU,lV,data2,mz⟩,pE,hU,di,hd2⟩:=id ab;simp only at aI hd hU hd2;subst aI hd hU hd2;exact amF (op:=.Lt) ⟨_,bg,rfl⟩ ⟨_,pE,rfl⟩ PySem.F.slot_tuple_lt PySem.F.entry_tuple_lt (PySem.F.args_tuple_lt_2 _ _) (aeY l b items fc n di dd lV cN mz ns ms aA aW)
  ⟨bg,pE,show al9 (lexLt ns ms)≠amY/\Q (.bool (lexLt ns ms)) s from⟨(λx=>nomatch x),h⟩⟩ cx
def ai3(cx:X.A.units+64<cLine):ej X (aj9 .Lt) (λx y H Q=>∃a b ns ms,x=.ref a/\y=.ref b/\dI X.K H a (ns.map V.int)/\dI X.K H b (ms.map V.int)/\Q (.aE (lexLt ns ms)) H):=by
 intro zn s Y H x y v u Q J a9 bA h;obtain⟨a,b,ns,ms,rfl,rfl,aq,ab,q⟩:=h;cases a9;cases bA;obtain⟨its,bB,p1,_⟩:=J.tuple aq;obtain⟨ly,b_,dG,_⟩:=J.tuple ab;exact ZA p1 dG (intsAre_of bB) (intsAre_of b_) (by omega) ⟨.aE (lexLt ns ms),H,J,rfl,q⟩
abbrev g0:List Int->List Int->Bool:=nh (λi j=>decide (j<i)) (λi j=>decide (j<i))
section
open PySem.SeqAt
open PySem.AutoSeq1 (wpAny_loadPart')
open PySem.MeetsSeq PySem.MeetsSeq2 PySem.MeetsSeq3
def aeX(l b:Addr)(items fc:Array Value)(n di:Nat)(dd lV:Option Addr)(cN mz:Array (Option Value))(ns ms:List Int)(aA:akH items.toList ns)(aW:akH fc.toList ms) :
  Meets (am9.«tuple.__gt__» ⟨[.ref l,.ref b],[]⟩)
   (λ_ R s=>s.heap.get? l=some { cls:=.type "tuple",dict:=dd,data:=.seq items n,slots:=cN }/\s.heap.get? b=some { cls:=.type "tuple",dict:=lV,data:=.seq fc di,slots:=mz }/\
    R (.ok (.ret (.bool (g0 ns ms)))) s):=
 .of_wp λprog w A R s h=>by
  obtain⟨aH,g,d,tk,os⟩:=s;obtain⟨au,ab,h⟩:=h;have f2:=amt;have ff:items.size=ns.length:=by rw[<-aA.length];simp
  have ew:fc.size=ms.length:=by rw[<-aW.length];simp
  wp_walk using wpAny_loadPart' au,wpAny_loadPart' ab,an0 _ (λrest b aP=>b.1=none/\aP=⟨aH,g,d,tk,os⟩/\∃(vs ws:List Value)(hY d2:List Int),rest=vs.zip ws/\
   akH vs hY/\akH ws d2/\hY.length+fc.size=d2.length+items.size/\R (.ok (.ret (.bool (g0 hY d2)))) ⟨aH,g,d,tk,os⟩) _
  case turn=>
   rintro⟨y,x⟩ rest b aP ⟨l4,rfl,vs,ws,hY,d2,hz,mc,md,hlen,eG⟩
   cases mc with
   |nil=>rw[amz]at hz;cases hz
   |cons a t u2=>
    cases md with
    |nil=>rw[anm]at hz;cases hz
    |cons c u u3=>
     rw[akT]at hz;injection hz with u4 uZ
     injection u4 with ba ag
     subst ba ag;unfold g0 at eG;rw[q1]at eG;simp only[ajC]at hlen;obtain⟨e,he,pC⟩:=d0.BE A.in1 ⟨aH,g,d,tk,os⟩ a t c u;refine ajl (he prog w _ _ ?_)
     cases e with
     |true=>
      rw[if_pos (pC.mp rfl)]at eG
      wp_walk
      exact⟨rfl,rfl,_,_,_,_,uZ,u2,u3,by omega,eG⟩
     |false=>
      rw[if_neg (λq=>absurd (pC.mpr q) ajx)]at eG;have qT:∀(E:cF)(Q:cF),Q (.bool (decide (c<a))) ⟨aH,g,d,tk,os⟩->wpAny (model prog w) A.in1 (amE .Gt (.int a t) (.int c u)) Q E ⟨aH,g,d,tk,os⟩:=λE Q h=>(aot h:wpAny (model prog w) A.in1 (aj9 .Gt (.int a t) (.int c u)) Q E _)
      wp_walk using qT
      exact⟨_,rfl,by simpa using eG⟩
  case fin=>
   rintro⟨bW,bY⟩ aP ⟨l4,rfl,vs,ws,hY,d2,hz,mc,md,hlen,eG⟩;simp only at l4;subst l4;have bI:g0 hY d2=decide (fc.size<items.size):=by
    cases mc with
    |nil=>
     unfold g0;rw[Dj];simp only[ako]at hlen;exact decide_eq_decide.mpr (by omega)
    |cons a t bI=>
     cases md with
     |nil=>
      unfold g0;rw[Dk];simp only[ako]at hlen;exact decide_eq_decide.mpr (by omega)
     |cons c u hw=>
      rw[akT]at hz;cases hz
   rw[bI]at eG
   wp_walk
   exact⟨_,rfl,by simpa[alO]using eG⟩
  case h=>
   exact⟨rfl,rfl,items.toList,fc.toList,ns,ms,rfl,aA,aW,by omega,h⟩
end
def I5{prog:ajF}{w:World}{A:ajM}{E:cF}{s:ajp}{l b:Addr}{items fc:Array Value}{ns ms:List Int}{Q:cF}(au:IsTup s.heap l items)(ab:IsTup s.heap b fc)(aA:akH items.toList ns)(aW:akH fc.toList ms)
  (cx:A.units<cLine) (h:Q (.bool (g0 ns ms)) s):wpAny (model prog w) A (aj9 .Gt (.ref l) (.ref b)) Q E s:=by
 obtain⟨⟨cls,dd,data,cN⟩,bg,aI,n,hd⟩:=id au;obtain⟨⟨HU,lV,data2,mz⟩,pE,hU,di,hd2⟩:=id ab;simp only at aI hd hU hd2;subst aI hd hU hd2;exact amF (op:=.Gt) ⟨_,bg,rfl⟩ ⟨_,pE,rfl⟩ PySem.F.slot_tuple_gt PySem.F.entry_tuple_gt (PySem.F.args_tuple_gt_2 _ _) (aeX l b items fc n di dd lV cN mz ns ms aA aW)
  ⟨bg,pE,show al9 (g0 ns ms)≠amY/\Q (.bool (g0 ns ms)) s from⟨(λx=>nomatch x),h⟩⟩ cx
def aaF(cx:X.A.units+64<cLine):ej X (aj9 .Gt) (λx y H Q=>∃a b ns ms,x=.ref a/\y=.ref b/\dI X.K H a (ns.map V.int)/\dI X.K H b (ms.map V.int)/\Q (.aE (g0 ns ms)) H):=by
 intro zn s Y H x y v u Q J a9 bA h;obtain⟨a,b,ns,ms,rfl,rfl,aq,ab,q⟩:=h;cases a9;cases bA;obtain⟨its,bB,p1,_⟩:=J.tuple aq;obtain⟨ly,b_,dG,_⟩:=J.tuple ab;exact I5 p1 dG (intsAre_of bB) (intsAre_of b_) (by omega) ⟨.aE (g0 ns ms),H,J,rfl,q⟩
abbrev iX:List Int->List Int->Bool:=nh (λi j=>decide (j<=i)) (λi j=>decide (j<=i))
section
open PySem.SeqAt
open PySem.AutoSeq1 (wpAny_loadPart')
open PySem.MeetsSeq PySem.MeetsSeq2 PySem.MeetsSeq3
def aeW(l b:Addr)(items fc:Array Value)(n di:Nat)(dd lV:Option Addr)(cN mz:Array (Option Value))(ns ms:List Int)(aA:akH items.toList ns)(aW:akH fc.toList ms) :
  Meets (am9.«tuple.__ge__» ⟨[.ref l,.ref b],[]⟩)
   (λ_ R s=>s.heap.get? l=some { cls:=.type "tuple",dict:=dd,data:=.seq items n,slots:=cN }/\s.heap.get? b=some { cls:=.type "tuple",dict:=lV,data:=.seq fc di,slots:=mz }/\
    R (.ok (.ret (.bool (iX ns ms)))) s):=
 .of_wp λprog w A R s h=>by
  obtain⟨aH,g,d,tk,os⟩:=s;obtain⟨au,ab,h⟩:=h;have f2:=amt;have ff:items.size=ns.length:=by rw[<-aA.length];simp
  have ew:fc.size=ms.length:=by rw[<-aW.length];simp
  wp_walk using wpAny_loadPart' au,wpAny_loadPart' ab,an0 _ (λrest b aP=>b.1=none/\aP=⟨aH,g,d,tk,os⟩/\∃(vs ws:List Value)(hY d2:List Int),rest=vs.zip ws/\
   akH vs hY/\akH ws d2/\hY.length+fc.size=d2.length+items.size/\R (.ok (.ret (.bool (iX hY d2)))) ⟨aH,g,d,tk,os⟩) _
  case turn=>
   rintro⟨y,x⟩ rest b aP ⟨l4,rfl,vs,ws,hY,d2,hz,mc,md,hlen,eG⟩
   cases mc with
   |nil=>rw[amz]at hz;cases hz
   |cons a t u2=>
    cases md with
    |nil=>rw[anm]at hz;cases hz
    |cons c u u3=>
     rw[akT]at hz;injection hz with u4 uZ
     injection u4 with ba ag
     subst ba ag;unfold iX at eG;rw[q1]at eG;simp only[ajC]at hlen;obtain⟨e,he,pC⟩:=d0.BE A.in1 ⟨aH,g,d,tk,os⟩ a t c u;refine ajl (he prog w _ _ ?_)
     cases e with
     |true=>
      rw[if_pos (pC.mp rfl)]at eG
      wp_walk
      exact⟨rfl,rfl,_,_,_,_,uZ,u2,u3,by omega,eG⟩
     |false=>
      rw[if_neg (λq=>absurd (pC.mpr q) ajx)]at eG;have qT:∀(E:cF)(Q:cF),Q (.bool (decide (c<=a))) ⟨aH,g,d,tk,os⟩->wpAny (model prog w) A.in1 (amE .GtE (.int a t) (.int c u)) Q E ⟨aH,g,d,tk,os⟩:=λE Q h=>(PyProof.Rows.ge_int h:wpAny (model prog w) A.in1 (aj9 .GtE (.int a t) (.int c u)) Q E _)
      wp_walk using qT
      exact⟨_,rfl,by simpa using eG⟩
  case fin=>
   rintro⟨bW,bY⟩ aP ⟨l4,rfl,vs,ws,hY,d2,hz,mc,md,hlen,eG⟩;simp only at l4;subst l4;have bI:iX hY d2=decide (fc.size<=items.size):=by
    cases mc with
    |nil=>
     unfold iX;rw[Dj];simp only[ako]at hlen;exact decide_eq_decide.mpr (by omega)
    |cons a t bI=>
     cases md with
     |nil=>
      unfold iX;rw[Dk];simp only[ako]at hlen;exact decide_eq_decide.mpr (by omega)
     |cons c u hw=>
      rw[akT]at hz;cases hz
   rw[bI]at eG
   wp_walk
   exact⟨_,rfl,by simpa[alO]using eG⟩
  case h=>
   exact⟨rfl,rfl,items.toList,fc.toList,ns,ms,rfl,aA,aW,by omega,h⟩
end
def Vs{prog:ajF}{w:World}{A:ajM}{E:cF}{s:ajp}{l b:Addr}{items fc:Array Value}{ns ms:List Int}{Q:cF}(au:IsTup s.heap l items)(ab:IsTup s.heap b fc)(aA:akH items.toList ns)(aW:akH fc.toList ms)
  (cx:A.units<cLine) (h:Q (.bool (iX ns ms)) s):wpAny (model prog w) A (aj9 .GtE (.ref l) (.ref b)) Q E s:=by
 obtain⟨⟨cls,dd,data,cN⟩,bg,aI,n,hd⟩:=id au;obtain⟨⟨HU,lV,data2,mz⟩,pE,hU,di,hd2⟩:=id ab;simp only at aI hd hU hd2;subst aI hd hU hd2;exact amF (op:=.GtE) ⟨_,bg,rfl⟩ ⟨_,pE,rfl⟩ PySem.F.slot_tuple_ge PySem.F.entry_tuple_ge (PySem.F.args_tuple_ge_2 _ _) (aeW l b items fc n di dd lV cN mz ns ms aA aW)
  ⟨bg,pE,show al9 (iX ns ms)≠amY/\Q (.bool (iX ns ms)) s from⟨(λx=>nomatch x),h⟩⟩ cx
def aaD(cx:X.A.units+64<cLine):ej X (aj9 .GtE) (λx y H Q=>∃a b ns ms,x=.ref a/\y=.ref b/\dI X.K H a (ns.map V.int)/\dI X.K H b (ms.map V.int)/\Q (.aE (iX ns ms)) H):=by
 intro zn s Y H x y v u Q J a9 bA h;obtain⟨a,b,ns,ms,rfl,rfl,aq,ab,q⟩:=h;cases a9;cases bA;obtain⟨its,bB,p1,_⟩:=J.tuple aq;obtain⟨ly,b_,dG,_⟩:=J.tuple ab;exact Vs p1 dG (intsAre_of bB) (intsAre_of b_) (by omega) ⟨.aE (iX ns ms),H,J,rfl,q⟩
end aF
namespace a0
open PySem PySem.Spec aF
def oC(g:List Int->List Int->Bool):R->R->M R
 |.v (.tup xs),.v (.tup ys)=>match nums xs,nums ys with
  |some ns,some ms=>pure (.v (.aE (g ns ms)))|_,_=>bad
 |_,_=>bad
variable[aF.a7]
def FX{g:List Int->List Int->Bool}:eh K mg (λx y H Q=>∃a b ns ms,x=.ref a/\y=.ref b/\dI K H a (ns.map V.int)/\dI K H b (ms.map V.int)/\Q (.aE (g ns ms)) H) (oC g):=λO Y S ar H x y a9 bA bP av Q st ag ba h q=>by
 unfold oC at h;split at h
 .rename_i xs ys
  split at h
  .rename_i ns ms ao az
   cases h;obtain⟨a,as,rfl,KL,bw⟩:=ag;obtain⟨b,bs,rfl,KX,mw⟩:=ba;rw[sZ bw ao]at KL;rw[sZ mw az]at KX;exact⟨a,b,ns,ms,rfl,rfl,KL,KX,q O _ H (Go.refl _ _) st rfl trivial⟩
  .cases h
 .cases h
end a0
namespace a0
open PySem PySem.Spec aF PyProof.Rows
def pO(x:Str):Str:=x++ajG ".<locals>."++ajG "<lambda>"
def oi(K:aS)(P:Addr)(x:Str):Bool:=match W.tabIn K x with
 |some (_,kn)=>kn==P|none=>false
abbrev tA(K:aS)(ln:List Str):a7:=⟨λP=>∃x∈ln,∃c,W.tabIn K x=some (c,P),λP=>match ln.find? (oi K P)with
 |some x=>pO x| none=>""⟩
def ab3{K:aS}{ln:List Str}{x:Str}{c P:Addr}(ag:x∈ln)(bO:W.tabIn K x=some (c,P))(inj:∀y∈ln,oi K P y=true->y=x):(tA K ln).tn P=pO x:=by
 show(match ln.find? (oi K P)with|some x=>pO x|none=>"")=_;have X2:oi K P x=true:=by unfold oi;rw[bO];exact beq_self_eq_true P
 cases e:ln.find? (oi K P)with
 |none=>exact absurd X2 (ano.mp e x ag)|some y=>
  dsimp only;rw[inj y (anN e) (List.find?_some e)]
def rv{K:aS}{x:Str}{f c P:Addr}{dv zg:Value}{c3 DR:Option Addr}{fd:akA}{cN we:Array (Option Value)}{vs:Array Value}(a:amC K ajX x=some (some (.ref f)))(l:K.lookup f=some ⟨dv,c3,.func fd,cN⟩)(aI:fd.code=.ref c)
  (d:K.lookup c=some ⟨zg,DR,.fields vs,we⟩) (e:vs[11]? = some (.ref P)):W.tabIn K x=some (c,P):=by
 unfold W.tabIn;rw[a];simp only[l,aI,d,e]
def Xg{K:aS}{c P:Addr}{c3:Option Addr}{cN:Array (Option Value)}{vs:Array Value}{file:Str}{zV ck tt:Tok}{flags text:Int}{yt:Bool}(d:K.lookup c=some ⟨.type "code",c3,.fields vs,cN⟩)(r8:vs[11]? = some (.ref P))(BJ:vs.getD 11 .none=.ref P)
  (BK:vs.getD 18 .none=.str file zV) (BL:vs.getD 7 .none=.int flags ck) (BM:vs.getD 9 .none=.bool yt) (BI:vs.getD 10 .none=.int text tt) (ne:c≠P):∀h,K.In h->W.CodeHd h c P:=λh X=>
 ⟨_,vs,file,zV,flags,ck,yt,text,tt,X _ _ d,rfl,rfl,r8,BJ,BK,BL,BM,BI,ne⟩
def S6{K:aS}{st:Stmt}{Iu:akA}(X:K.In h)(G:h.Ns ajX mg)(a:amC K ajX x=some (some (.ref Vp)))(l:K.lookup Vp=some ⟨ai0,ai2,.func Iu,aja⟩)(aI:Iu.code=.ref c) :
  ∀(f:Addr)(dv:Value)(c3:Option Addr)(cB doc pm:Value)(an:Option Addr)(bx ct:Value)(fA:Array (Option Value)),mg x=some (.ref f)->K.lookup f=some ⟨dv,c3,.func (ala x x (ie st) (fv st) (bH st) .none cB doc pm an bx ct),fA⟩->bx=.ref c:=by
 intro f dv c3 cB doc pm an bx ct fA hm au;have e:=am8 X G a;rw[hm]at e;cases e;rw[l]at au;cases au;exact aI
def P0{l:W.OpenLaw}{w:World}{K:aS}{mg:bt}{ey:Addr}{k:Nat}{st:Stmt}[aF.a7](Xt:mg "law"=some (.ref ey))(Py:cp K mg "law" st ["script"])
  (ab:∀(cB doc pm:Value)(an:Option Addr)(bx ct v:Value),alF (ala "law" "law" (ie st) (fv st) (bH st) .none cB doc pm an bx ct) ⟨[v],[]⟩=pure [(("script":Str),v)])
  (ok:∀(base:Heap),kk base mg->∀(f:Addr)(fd:akA),k5 K "law" "law" st f fd->fg l.prog w K mg base eM k f fd ["script"] (wh K)) :
  ∃fd:akA,(∀(s:ajp)(v:Value),BindsTo s fd ⟨[v],[]⟩ [("script",v)])/\∀base:Heap,K.In base->base.Ns ajX mg->kk base mg->fg l.prog w K mg base eM k ey fd ["script"] (wh K):=by
 obtain⟨f,fd,F,b,m⟩:=Py.ex;have e:ajU ey=ajU f:=ajT (Xt.symm.trans m);cases e;refine⟨fd,λs v=>?_,λbase _ _ bm=>ok base bm ey fd F⟩;obtain⟨dv,c3,cB,doc,pm,an,bx,ct,fA,rfl,lk,gG⟩:=F.ex;exact .of_eq (ab cB doc pm an bx ct v)
def Zh{P:ajF}{w:World}{K:aS}{mg c_:bt}{k:Nat}{ey a:Addr}{fd:akA}{du:ajp}{vs:List Value}{ns:List Int}[aF.a7]
  (dy:K.In du.heap) (yj:du.heap.Ns ajX mg) (ab:du.heap.Ns anH c_) (Xb:∀x:Str,x≠"__name__"->c_ x=ake x) (XH:du.heap.NoLimit) (aY:du.gens=#[])
  (aq:du.heap.get? a=some { cls:=.type "list",data:=.seq vs.toArray }) (aA:akH vs ns) (au:ns.length<=63) (aB:cE k anQ)
  (Ce:kk du.heap mg) (F:∀base:Heap,K.In base->base.Ns ajX mg->kk base mg->fg P w K mg base eM k ey fd ["script"] (wh K)) (l5:∀(s:ajp)(u:Value),BindsTo s fd ⟨[u],[]⟩ [("script",u)])
  (gg:∀p,a7.hp p->du.heap.get? p=some (W.tabObj #[])/\isCodeTable du.heap p/\K.lookup p=none) :
  al4 (model P w) anQ (.call (.ref ey) ⟨[.ref a],[]⟩) (λr aP=>r=.ok (.ret (.bool true))/\OldK du.heap aP.heap/\aP.os=du.os/\amM aP.gens) du:=by
 have bR:=O3 aA;have Zn:=aA.length;have JB:ns.length<=ajt:=by rw[ajP];omega
 have Z1:¬a7.hp a:=λz=>by have:=(gg a z).1;rw[aq]at this;cases this
 have core:∀H:aw,(∀b,H b=none\/(∃o xs,H b=some (.cj o (.lst xs)))\/(a7.hp b/\H b=some (.gp #[])))->dn K H a (ns.map V.int)->TabsOk H->fh P w H du.heap->(∀b,H b≠none->b=a\/a7.hp b)->(∀b,H b≠none->K.lookup b=none)->
   al4 (model P w) anQ (.call (.ref ey) ⟨[.ref a],[]⟩) (λr aP=>r=.ok (.ret (.bool true))/\OldK du.heap aP.heap/\aP.os=du.os/\amM aP.gens) du:=by
  intro H VV cu VZ bQ sk hD;have vG:∀{b:Addr}{o:Obj}{ay:Array amO}{cM:Nat},du.heap.get? b=some o->o.data=.dict ay cM->H b=none:=λ{b o ay cM} e d=>by
   cases q:H b with
   |none=>rfl|some u=>
    rcases sk b (by rw[q];simp)with cz|cz
    .subst cz
     rw[aq]at e;cases e;cases d
    .rw[(gg b cz).1]at e;cases e
     cases d
  have zd:∀{b:Addr}{m:bt},du.heap.Ns b m->(ob du.heap H).Ns b m:=λ{b m} ⟨o,ay,cM,e,d,r⟩=>⟨o,ay,cM,Cq e (vG e d),d,r⟩
  have I':K.In (ob du.heap H):=λb o e=>Cq (dy b o e) (by
   cases q:H b with
   |none=>rfl| some u=>rw[hD b (by rw[q];simp)]at e;cases e)
  have VU:Mod K mg (ob du.heap H):=⟨I',zd yj,⟨c_,zd ab,Xb⟩,let⟨hn,af,ah⟩:=XH;⟨hn,zd af,ah⟩⟩;have d6:k4 P w K mg (ob du.heap H) anQ [] du H:=⟨rfl,VU,λb o e=>aar e,ak2 (Xz _ _),trivial,λb ab=>absurd (show b∈([]:List Addr)from ab) (by simp),bQ,.of_eq aY⟩;have VQ:kk (ob du.heap H) mg:=by
   obtain⟨bm,o,bW,bY,gR,hP,jA,t5,t6⟩:=Ce.ex;refine⟨bm,o,bW,bY,gR,Cq hP ?_,jA,t5,t6⟩
   cases q:H bm with
   |none=>rfl|some u=>
    rcases sk bm (by rw[q];simp)with cz|cz
    .subst cz
     rw[aq]at hP;cases hP;cases t6
    .rw[(gg bm cz).1]at hP;cases hP
     cases t6
  refine alG ((F _ I' (zd yj) VQ).run anQ [] du H ⟨[.ref a],[]⟩ [.ref a] [.ref a] (λv _=>v=.aE true) i7 aB d6 (l5 du (.ref a)) (.cons rfl .nil) ⟨a,ns,rfl,cu,au,VZ,λ_=>rfl⟩) λr aP h=>?_
  cases r with
  |error e=>exact aj4 h|ok a_=>
   cases a_ with
   |next=>exact aj4 h
   |brk=>exact aj4 h|cont=>exact aj4 h|ret u=>
    obtain⟨v,H',os,bare,un,JE,bP,q⟩:=h;have fp:v=.aE true:=q;subst fp;obtain rfl:u=al9 true:=bP;have each:∀b o,du.heap.get? b=some o->asItWas du.heap aP.heap b o/\∃o',aP.heap.get? b=some o':=λb o e=>by
     rcases VV b with z|⟨bC,xs,z⟩|⟨t,z⟩
     .have:=un.keep b o e z (by intro w;exact absurd (show b∈([]:List Addr)from w) (by simp)) (by simp)
      exact⟨.inl this,o,this⟩
     .have ew:=un.n5 b bC _ z
      obtain⟨ao,_⟩:=bQ b _ z;obtain⟨az,_⟩:=JE b _ ew;rw[e]at ao;cases ao;exact⟨.inl az,_,az⟩
     .obtain⟨more,ew⟩:=un.oM b #[] z
      have az:aP.heap.get? b=_:=JE b _ ew;rw[(gg b t).1]at e;cases e;exact⟨.inr (.inl ⟨(gg b t).2.1,rfl,#[],more,rfl,az⟩),_,az⟩
    exact⟨rfl,⟨λb o e=>(each b o e).1,λb o e=>(each b o e).2⟩,os,bare⟩
 classical
 have Oy:∀(H:aw),(∀p,a7.hp p->H p=some (.gp #[]))->TabsOk H:=λH h p aH=>⟨#[],h p aH,trivial,λpos iB z=>by cases z⟩
 cases ax:K.lookup a with
 |some o=>
  have e:=dy a o ax;rw[aq]at e;cases e;refine core (λb=>if a7.hp b then some (.gp #[])else none) (λb=>?_) (.inr ⟨_,vs.toArray,_,ax,rfl,rfl,rfl,by rw[ajB,Zn];exact JB,by simpa using bR⟩) (Oy _ λp aH=>if_pos aH) (λb u z=>?_) (λb z=>?_) λb z=>?_
  .by_cases t:a7.hp b
   .exact .inr (.inr ⟨t,if_pos t⟩)
   .exact .inl (if_neg t)
  .by_cases t:a7.hp b
   .have k0:=(if_pos t).symm.trans z
    cases k0;exact(gg b t).1
   .have k0:=(if_neg t).symm.trans z
    cases k0
  .by_cases t:a7.hp b
   .exact .inr t
   .exact absurd (if_neg t) z
  .by_cases t:a7.hp b
   .exact(gg b t).2.2
   .exact absurd (if_neg t) z
 |none=>
  refine core (λb=>if b=a then some (.cj { cls:=.type "list",data:=.seq vs.toArray } (.lst (ns.map V.int)))else if a7.hp b then some (.gp #[])else none) (λb=>?_) (.inl (.inr ⟨{ cls:=.type "list",data:=.seq vs.toArray },if_pos rfl⟩)) (Oy _ λp aH=>?_) (λb u z=>?_) (λb z=>?_) λb z=>?_
  .by_cases ab:b=a
   .exact .inr (.inl ⟨_,_,if_pos ab⟩)
   .by_cases t:a7.hp b
    .exact .inr (.inr ⟨t,by rw[if_neg ab,if_pos t]⟩)
    .exact .inl (by rw[if_neg ab,if_neg t])
  .rw[if_neg (by rintro rfl;exact Z1 aH),if_pos aH]
  .by_cases ab:b=a
   .have k0:=(if_pos ab).symm.trans z
    cases k0;subst ab;exact⟨aq,by rw[ajm];exact JB,vs,_,bR,aq⟩
   .try dsimp only at z
    rw[if_neg ab]at z
    by_cases t:a7.hp b
    .rw[if_pos t]at z;cases z
     exact(gg b t).1
    .rw[if_neg t]at z;cases z
  .by_cases ab:b=a
   .exact .inl ab
   .try dsimp only at z
    rw[if_neg ab]at z
    by_cases t:a7.hp b
    .exact .inr t
    .rw[if_neg t]at z;exact absurd rfl z
  .by_cases ab:b=a
   .rw[ab];exact ax
   .try dsimp only at z
    rw[if_neg ab]at z
    by_cases t:a7.hp b
    .exact(gg b t).2.2
    .rw[if_neg t]at z;exact absurd rfl z
def aff{l:W.OpenLaw}{q:ajF}{k:Nat}{loose:List Str}{w8:(Str->Option Value)->Heap->Prop}{tZ:World->Heap->Prop}{d:DefRec}{K:Params->aS}(ln:List Str)(aG:l.most=some 63)(Cj:d.params.defaults=[])(aB:cE k anQ)
  (Cy:∀x∈ln,∃d,(recsOf q).find? (λe=>e.name==x)=some d) (XQ:∀p,W.noTabs (K p)=true)
  (Jc:∀(w:World)(h:Heap),tZ w h->(K w.params).In h)
  (F:∀(w:World)(mg:bt)(ey:Addr)(h:Heap),(K w.params).In h->h.Ns ajX mg->mg d.name=some (.ref ey)->
   ∃fd:akA,(∀(s:ajp)(u:Value),BindsTo s fd ⟨[u],[]⟩ [("script",u)])/\∀base:Heap,(K w.params).In base->base.Ns ajX mg->kk base mg->@fg l.prog w (K w.params) mg base eM k ey fd ["script"] (@wh (tA (K w.params) ln) (K w.params))) :
  W.WalkO q loose w8 tZ l.row.toRowW d [] (λf vs=>PySem.call f vs):=by
 refine Fn.P' aG Cj λw g8 du mg c_ ey o pm cd doc a vs ns G σ bg hd gG uX Cv hints hlen aY=>?_
 have dy:=Jc w _ σ;obtain⟨fd,ab,dt⟩:=F w mg ey _ dy G.T.g uX
 letI:=tA (K w.params) ln
 have Ce:kk du.heap mg:=by
  obtain⟨bm,bC,bW,bY,gR,hP,jA,t5⟩:=G.T.bmain;refine⟨bm,bC,bW,bY,λq=>?_,gR,hP,jA,t5⟩;obtain⟨o,ay,cM,e,hd,_⟩:=G.T.g;rw[q,e]at gR;cases gR;rw[hd]at t5;cases t5
 refine Zh dy G.T.g G.T.b G.T.builtins G.T.nolimit aY Cv hints hlen aB Ce dt ab λp aX=>?_
 obtain⟨x,ag,c,bO⟩:=aX;obtain⟨d,hd⟩:=Cy x ag;obtain⟨af,ah⟩:=W.tab_of G.T dy hd bO;refine⟨ah,(af.tab ah).isCodeTable,?_⟩
 cases e:(K w.params).lookup p with
 |none=>rfl|some o=>
  have az:=dy p o e;rw[ah]at az;cases az;have bN:=akL.mp (XQ w.params) (p,_) (W.mem_of_lookupK e);exact absurd (show false=true from bN) ajx
def Dm{K:aS}{h:Heap}{mg:bt}{x:Str}{st:Stmt}{ln:List Str}{f c P:Addr}{dv zg:Value}{c3 DR:Option Addr}{fd:akA}{cN we:Array (Option Value)}{vs:Array Value}{file:Str}{zV ck tt:Tok}{flags text:Int}{yt:Bool}(X:K.In h)(G:h.Ns ajX mg)(ag:x∈ln)
  (a:amC K ajX x=some (some (.ref f))) (l:K.lookup f=some ⟨dv,c3,.func fd,cN⟩) (aI:fd.code=.ref c) (d:K.lookup c=some ⟨zg,DR,.fields vs,we⟩) (yk:zg=.type "code") (r8:vs[11]? = some (.ref P)) (BJ:vs.getD 11 .none=.ref P)
  (BK:vs.getD 18 .none=.str file zV) (BL:vs.getD 7 .none=.int flags ck) (BM:vs.getD 9 .none=.bool yt) (BI:vs.getD 10 .none=.int text tt) (ne:c≠P) (inj:∀y∈ln,oi K P y=true->y=x) :
  ∃c P,@mT (tA K ln) K c P (pO x)/\∀(f:Addr)(dv:Value)(c3:Option Addr)(cB doc pm:Value)(an:Option Addr)(bx ct:Value)(fA:Array (Option Value)),mg x=some (.ref f)->K.lookup f=some ⟨dv,c3,.func (ala x x (ie st) (fv st) (bH st) .none cB doc pm an bx ct),fA⟩->bx=.ref c:=by
 subst yk;have bO:=rv a l aI d r8;exact⟨c,P,@mT.mk (tA K ln) K c P (pO x) (Xg d r8 BJ BK BL BM BI ne) ⟨x,ag,c,bO⟩ (ab3 ag bO inj),S6 X G a l aI⟩
end a0
namespace a0
open PySem PySem.Spec aF PyProof.Rows
variable[aF.a7]
section
variable{X:aU}{k:Nat}{e:Expr}{c2:bp}{Z:fY}{p pos kp:Pos}
def O5{c P:Addr}{q p1:Str}{params:amr}{body:Expr}{scope:Scope}{j8:Pos}{N:List Str}{m:bp}(j5:Z.Ok)(aY:eC X "sorted")(hm:X.mg "sorted"=none)(aB:cE (k+3) X.A)(L:mT X.K c P q)(B:kk X.base X.mg)(m':X.env.code=.ref c)
  (a':X.env.qual++ajG "<lambda>"=q) (Sc:cf N [p1] scope)
  (l5:∀(c:Addr)(pm hi u:Value),alF (W.kla_fn (ajG "<lambda>") q params body scope [] pm (.ref c) hi) ⟨[u],[]⟩=pure [(p1,u)])
  (ab:∀(f c:Addr)(A:ajM)(s:ajp)(H:aw),cE k (A.deeper (al5 q scope s.heap.objs.size f (.ref c)))->bk (hj eM X.prog X.w X.K X.mg X.base N q scope f (.ref c) A X.stack s H i7).gI body m)
  (aq:bk X e c2) (n_:anM params X.env=([],[]):=by rfl) (jG:alU scope X.env=pure []:=by rfl)
  (he:ajS pos (ajo [e] X.env)=(false,eval e X.env)::ajS pos (ajo [] X.env):=by rfl)
  (aC:ajo [e] X.env=(false,eval e X.env)::ajo [] X.env:=by rfl)
  (iU:(ajS pos (ajo [e] X.env)).any (·.1)=false:=by rfl) :
  bk X (.Call (.Name "sorted" p) [e] [⟨some (ajG "key"),.Lambda params body scope j8,kp⟩] pos) (qw Z (fnOf 1 N.length (bG m)) c2):=
 ⟨SW j5 aY hm aB L B m' a' Sc l5 (λf c A s H aB=>(ab f c A s H aB).un) aq.un n_ jG he aC iU⟩
end
end a0
namespace a0
open PySem PySem.Spec aF PyProof.Rows
structure tQ(P:ajF)(w:World)(K:aS)(mg:bt)(x:Str)(ps:List (Str×Str)):Prop where
 ex:∃(a:Addr)(ay:Array amO)(n:Nat),mg x=some (.ref a)/\ak1 a K=some { cls:=.type "dict",data:=.dict ay n }/\KeysOf (amI P w) ay/\
  ∀k fn,ps.lookup k=some fn->∃f,ang akp ay k=some (.ref f)/\mg fn=some (.ref f)
@[simp] def Be(ps:List (Str×Str))(mk:bp)(Y:aR):M R:=do
 let k <-mk Y
 match k with
 |.v (.str z)=>match ps.lookup z with
  |some fn=>pure (.v (.fn fn))|none=>bad
 |_=>bad
@[simp] def Bb(i:Nat)(aZ:List (Str×bE))(ms:cV)(Y:aR):M R:=match Y[i]? with
 |some (.v (.fn f))=>match aZ.lookup f with
  |some mf=>bM mf ms Y|none=>bad
 |_=>bad
def aeD(mg:bt)(ps:List (Str×Str))(ty:TE):TE:=λY H Q=>ty Y H λy H1=>∃z fn f,y=.str z/\ps.lookup z=some fn/\mg fn=some (.ref f)/\Q (.ref f) H1
variable[aF.a7]
section
variable{X:aU}{x:Str}{ps:List (Str×Str)}{i:Expr}{pos p:Pos}{ty:TE}{mk:bp}{j k:Nat}{e:Expr}{ay:List Expr}{ms:cV}{pp:List Str}{aZ:List (Str×bE)}
omit [aF.a7]in
theorem abu(T:tQ X.prog X.w X.K X.mg x ps)(aY:eC X x)(aA:bV X i ty)(aC:tU i)(eH:(x==("__debug__":Str))=false:=by decide):bV X (.Subscript (.Name x p) i pos) (aeD X.mg ps ty):=by
 intro zn s Y H Q J h;obtain⟨a,ds,n,hm,au,ax,hf⟩:=T.ex;refine Oi anJ.lookup aC (sH J aY hm ?_ eH);refine bX (aA zn s Y H _ J h) λpJ s2 aX=>?_
 obtain⟨y,aM,bU,bA,z,fn,f,e7,el,em,b1⟩:=aX;subst e7;obtain⟨t,rfl⟩:=bA;have aq:=bU.fe a _ au;obtain⟨qC,ao,az⟩:=hf z fn el;rw[em]at az;cases az;refine⟨⟨_,aq,rfl⟩,?_⟩;refine wpAny_getItem_of (knd:=amI X.prog X.w) (k:=z) (f:=ang akp ds) (v:=.ref f) ?_ ?_ ao ?_
 .show(z==z)=true
  simp
 .exact⟨_,ds,n,aq,⟨rfl,rfl,rfl⟩,rfl,ax,λ_=>rfl⟩
 .exact⟨.ref f,aM,bU.tok _,rfl,b1⟩
omit [aF.a7]in
theorem abc(hN:X.N[j]? = some x)(bI:qu X.env.scope x)(aB:cE k X.A){t:gv}(aq:eN X (e::ay) t)(eH:(x==("__debug__":Str))=false:=by decide)(gG:(x==("__classdict__":Str))=false:=by decide)
  (he:ajo (e::ay) X.env=(false,eval e X.env)::ajo ay X.env:=by rfl) (e1:(ajS pos (ajo ay X.env)).any (·.1)=false:=by rfl) :
  bV X (.Call (.Name x p) (e::ay) [] pos) (λY H Q=>∃(f:Addr)(fd:akA)(sp:ek),Y[j]? = some (some (.ref f))/\fg X.prog X.w X.K X.mg X.base eM k f fd pp sp/\Binds X.K fd pp []/\alm X.K (.ref f)=true/\t Y H λvs H1=>sp vs H1 Q i7):=by
 rintro zn s Y H Q J ⟨f,fd,sp,ev,F,b,kp,h⟩;refine akS (bX (zr hN bI eH gG zn s Y H (λv H'=>v=.ref f/\H'=H) J ⟨.ref f,ev,rfl,rfl⟩) λu s1 aX=>?_);obtain⟨v,H1,bb,bB,ao,az⟩:=aX;subst ao az;obtain rfl:u=ajU f:=bB;refine anT (h₀:=X.base) J.ok.mod.sE kp (bX (aq pos zn s1 Y H1 _ bb h) λus s2 ⟨vs,aM,bU,r,q⟩=>⟨bU.fe,?_⟩) he e1;exact v_ (dvs:=[]) (ds:=[]) F aB b .nil tj bU r (by simpa only[akv]using q)
def O6(T:tQ X.prog X.w X.K X.mg x ps)(aY:eC X x)(aA:bk X i mk)(aC:tU i:=by exact λ_ _=>rfl)(eH:(x==("__debug__":Str))=false:=by decide):bk X (.Subscript (.Name x p) i pos) (Be ps mk):=⟨ee (abu T aY aA.un aC eH) λar H Q aX=>by
 obtain⟨O,Y,S,r,av,st,h,q⟩:=aX;obtain⟨y,S1,af,h⟩:=M.inv h;split at h
 .rename_i z
  split at h
  .rename_i fn el
   cases h;obtain⟨_,_,_,_,_,_,hall⟩:=T.ex;obtain⟨f,_,em⟩:=hall z fn el;refine⟨O,Y,S,_,_,st,af,λaL v H1 g1 aT br nn=>?_⟩;exact⟨z,fn,f,br,el,em,q aL _ H1 g1 aT ⟨f,rfl,em⟩ trivial⟩
  .cases h
 .cases h⟩
def afs(Xv:∀f mf,aZ.lookup f=some mf->b2 X.prog X.w X.K X.mg X.base f pp k (b6 X.K X.mg mf))(hN:X.N[j]? = some x)(bI:qu X.env.scope x)(aB:cE k X.A)(aq:gD X (e::ay) ms)(eH:(x==("__debug__":Str))=false:=by decide)(gG:(x==("__classdict__":Str))=false:=by decide)
  (he:ajo (e::ay) X.env=(false,eval e X.env)::ajo ay X.env:=by rfl) (e1:(ajS pos (ajo ay X.env)).any (·.1)=false:=by rfl):bk X (.Call (.Name x p) (e::ay) [] pos) (Bb j aZ ms):=⟨ee (abc (pp:=pp) hN bI aB aq.un eH gG he e1) λar H Q aX=>by
  obtain⟨O,Y,S,r,av,st,h,q⟩:=aX;unfold Bb at h;split at h
  .rename_i f um
   split at h
   .rename_i mf el
    obtain⟨ey,fd,F,b,kp,m⟩:=(Xv f mf el).ex;obtain⟨v,ev,a,rfl,em⟩:=st.loc j _ um;have:a=ey:=by
     rw[m]at em;cases em;rfl
    subst this;have U8:ar[j]? = some (some (.ref a)):=by
     cases w:ar[j]? with
     |none=>rw[w]at ev;cases ev
     |some y=>rw[w]at ev;exact congrArg some ev
    exact⟨a,fd,_,U8,F,b,kp,Bg ar H Q ⟨O,Y,S,r,av,st,h,q⟩⟩
   .cases h
  .cases h⟩
end
omit [aF.a7]in
theorem lookup_all{α β:Type}[BEq α][LawfulBEq α]{P:α->β->Prop}:∀{l:List (α×β)},(∀x∈l,P x.1 x.2)->∀a b,l.lookup a=some b->P a b
 |[],_,_,_,h=>by cases h
 |(c,d)::l,aH,a,b,h=>by
  rw[akb]at h;split at h
  .rename_i e
   cases h;rw[eq_of_beq e];exact aH _ ajy
  .exact lookup_all (λx ag=>aH x (ajv _ ag)) a b h
omit [aF.a7]in
theorem Vg{P:ajF}{w:World}{K:aS}{h:Heap}{mg:bt}{x:Str}{d:Addr}{ay:Array amO}{n:Nat}{ps:List (Str×Str)}(X:K.In h)(G:h.Ns ajX mg)
  (a:amC K ajX x=some (some (.ref d))) (l:ak1 d K=some { cls:=.type "dict",data:=.dict ay n }) (k:∀e∈ay.toList,∃s,akp s e.key=true/\e.hash=hashStr w s)
  (f:∀p∈ps,∃f,amC K d p.1=some (some (.ref f))/\amC K ajX p.2=some (some (.ref f))):tQ P w K mg x ps:=by
 refine⟨d,ay,n,am8 X G a,l,λe he=>?_,lookup_all (P:=λk fn=>∃f,ang akp ay k=some (.ref f)/\mg fn=some (.ref f)) λp aH=>?_⟩
 .obtain⟨s,af,ah⟩:=k e (by simpa using he)
  exact⟨s,af,ah⟩
 .obtain⟨f,af,ah⟩:=f p aH
  exact⟨f,W.find_K l af,am8 X G ah⟩
omit [aF.a7]in
theorem sY{K:aS}{P kn c:Addr}{x y:Str}(bO:W.tabIn K y=some (c,kn))(ne:kn≠P)(h:oi K P y=true):y=x:=by
 unfold oi at h;rw[bO]at h;exact absurd (eq_of_beq h) ne
end a0
namespace a0
open PySem PySem.W PyProof.Rows
def gb{α:Type}(n:Nat)(lt:Nat->Nat->Bool):KasT α->(α->Prop)->Prop
 |.ret a,Q=>Q a|.ask i j k,Q=>i<n/\j<n/\gb n lt (k (lt i j)) Q
theorem gb.bind{α β:Type}{n:Nat}{lt:Nat->Nat->Bool}{f:α->KasT β}{Q:β->Prop}:∀{t:KasT α},gb n lt t (λa=>gb n lt (f a) Q)->gb n lt (t.bind f) Q
 |.ret _,h=>h|.ask _ _ k,h=>⟨h.1,h.2.1,gb.bind (t:=k _) h.2.2⟩
theorem gb.imp{α:Type}{n:Nat}{lt:Nat->Nat->Bool}{Q fZ:α->Prop}(a':∀a,Q a->fZ a):∀{t:KasT α},gb n lt t Q->gb n lt t fZ
 |.ret a,h=>a' a h|.ask _ _ k,h=>⟨h.1,h.2.1,gb.imp a' (t:=k _) h.2.2⟩
theorem gb.wp{α:Type}{n:Nat}{lt:Nat->Nat->Bool}{cmp:Nat->Nat->(Bool->ajp->Prop)->ajp->Prop}{W:ajp->Prop}(aI:∀i j C s,i<n->j<n->W s->(∀aP,W aP->C (lt i j) aP)->cmp i j C s){G:α->ajp->Prop} :
  ∀{t:KasT α}{s:ajp},W s->gb n lt t (λa=>∀aP,W aP->G a aP)->t.kasWp cmp G s
 |.ret _,s,w,h=>h s w|.ask i j k,s,w,h=>aI i j _ s h.1 h.2.1 w λaP eu=>gb.wp aI (t:=k _) eu h.2.2
structure Ord(n:Nat)(lt:Nat->Nat->Bool):Prop where
 kV:∀i j k,i<n->j<n->k<n->lt i j=true->lt j k=true->lt i k=true
 OB:∀i j,i<n->j<n->i≠j->lt i j=false->lt j i=true
 aht:∀i j,i<n->j<n->lt i j=true->lt j i=false
structure Row(n:Nat)(p:Array Nat):Prop where
 lG:p.size=n
 lt:∀i,i<n->p.getD i 0<n
 ap:∀i j,i<n->j<n->i≠j->p.getD i 0≠p.getD j 0
 pm:p.toList.Perm (ajI n)
def Ey{p:Array Nat}(h:p.toList.Perm (ajI n)):Row n p:=by
 have lG:p.size=n:=by
  have:=h.length_eq;simpa using this
 have bT:∀i,i<n->p.toList[i]? = some (p.getD i 0):=λi aA=>by
  have:i<p.size:=by omega
  simp[Array.getD,this]
 refine⟨lG,λi aA=>?_,λi j aA aW ne e=>?_,h⟩
 .exact akt.mp (h.mem_iff.mp (aka (bT i aA)))
 .have eb:p.toList.Nodup:=h.nodup_iff.mpr List.nodup_range
  have ao:=bT i aA;rw[e,<-bT j aW]at ao;exact ne ((List.getElem?_inj (by simpa using(by omega:i<p.size)) eb).mp ao)
def Row.LQ(h:Row n p)(e:q.Perm p):Row n q:=Ey (e.toList.trans h.pm)
abbrev mN(lt:Nat->Nat->Bool)(p:Array Nat)(m:Nat):Prop:=∀i j,i<j->j<m->lt (p.getD i 0) (p.getD j 0)=true
section
variable{n:Nat}{lt:Nat->Nat->Bool}(O:Ord n lt)
include O
theorem FR{p:Array Nat}(h:Row n p)(hm:m<=n)(PX:∀i,1<=i->i<m->lt (p.getD (i-1) 0) (p.getD i 0)=true):mN lt p m:=by
 intro i j qO
 induction j with
 |zero=>omega|succ j a8=>
  intro aW;have a:=PX (j+1) (by omega) aW;rw[Nat.add_sub_cancel]at a
  by_cases q:i=j
  .subst q;exact a
  .exact O.kV _ _ _ (h.lt i (by omega)) (h.lt j (by omega)) (h.lt (j+1) (by omega)) (a8 (by omega) (by omega)) a
theorem flip{p:Array Nat}(h:Row n p)(af:1<=i)(aA:i<n)(e:lt (p.getD i 0) (p.getD (i-1) 0)=false):lt (p.getD (i-1) 0) (p.getD i 0)=true:=
 O.OB _ _ (h.lt i aA) (h.lt (i-1) (by omega)) (h.ap i (i-1) aA (by omega) (by omega)) e
omit O in
theorem Cg{p:Array Nat}(h:Row n p){Q:Nat->Prop}:∀(f m:Nat),1<=m->m+f=n->(∀eI,m<=eI->eI<=n->(∀i,m<=i->i<eI->lt (p.getD i 0) (p.getD (i-1) 0)=false)->(eI=n\/eI<n/\lt (p.getD eI 0) (p.getD (eI-1) 0)=true)->Q eI)->gb n lt (kas_asc p f m) Q
 | 0,m,af,e,q=>q m (ajq _) (by omega) (fun i _ _=>by omega) (.inl (by omega))|f+1,m,af,e,q=>by
  refine⟨h.lt m (by omega),h.lt (m-1) (by omega),?_⟩
  cases c:lt (p.getD m 0) (p.getD (m-1) 0)with
  |true=>exact q m (ajq _) (by omega) (λi _ _=>by omega) (.inr ⟨by omega,c⟩)|false=>
   refine Cg h f (m+1) (by omega) (by omega) λeI a1 a2 eO hy=>q eI (by omega) a2 (λi bW bY=>?_) hy
   by_cases z:i=m
   .rw[z];exact c
   .exact eO i (by omega) bY
theorem Jp{p:Array Nat}(h:Row n p){Q:Array Nat×Nat×Nat->Prop}:∀(f m:Nat),1<=m->m+f=n->(∀eI,m<=eI->eI<=n->(∀i,m<=i->i<eI->lt (p.getD i 0) (p.getD (i-1) 0)=true)->Q (p,eI,0))->gb n lt (kas_desc f p m 0) Q
 | 0,m,af,e,q=>q m (ajq _) (by omega) (fun i _ _=>by omega)|f+1,m,af,e,q=>by
  refine⟨h.lt m (by omega),h.lt (m-1) (by omega),?_⟩
  cases c:lt (p.getD m 0) (p.getD (m-1) 0)with
  |true=>
   refine Jp h f (m+1) (by omega) (by omega) λeI a1 a2 eO=>q eI (by omega) a2 λi bW bY=>?_
   by_cases z:i=m
   .rw[z];exact c
   .exact eO i (by omega) bY
  |false=>
   refine⟨h.lt (m-1) (by omega),h.lt m (by omega),?_⟩;rw[flip O h af (by omega) c];exact q m (ajq _) (by omega) (λi _ _=>by omega)
omit O in
theorem MO{p:Array Nat}(h:Row n p){m:Nat}(hm:m<=n){k:Nat}(ax:k<n):(kas_rev p 0 m).getD k 0=if k<m then p.getD (m-1-k) 0 else p.getD k 0:=by
 have e:=getElem?_mirror_all (xs:=p) (i:=0) (j:=m) (by rw[h.lG];exact hm) k;have bT:∀(q:Array Nat)(i:Nat),q.getD i 0=(q[i]?).getD 0:=λq i=>by simp[anp]
 rw[bT,bT,bT];unfold kas_rev;rw[e]
 by_cases z:k<m
 .rw[if_pos ⟨ajN _,z⟩,if_pos z,anW]
 .rw[if_neg (λy=>z y.2),if_neg z]
theorem Xf{Q:Nat×Array Nat->Prop}(h:Row n p)(aG:1<=n)(q:∀m p3,1<=m->m<=n->Row n p3->mN lt p3 m->Q (m,p3)):gb n lt (kas_count n p) Q:=by
 refine gb.bind (Cg h (n-1) 1 (ajq _) (by omega) λm a1 a2 eO hy=>?_);have as:mN lt p m:=FR O h a2 λi bW bY=>flip O h bW (by omega) (eO i bW bY)
 by_cases e:m=n
 .rw[if_pos (by rw[e];exact beq_self_eq_true n)]
  exact q m p a1 a2 h as
 .rw[if_neg (by intro z;exact e (eq_of_beq z))]
  by_cases ao:m > 1
  .rw[if_pos ao]
   refine⟨h.lt 0 (by omega),h.lt (m-1) (by omega),?_⟩;rw[as 0 (m-1) (by omega) (by omega)];exact q m p a1 a2 h as
  .rw[if_neg ao]
   have ov:m=1:=by omega
   subst ov;have fR:lt (p.getD 1 0) (p.getD 0 0)=true:=by
    rcases hy with z|z
    .exact absurd z e
    .exact z.2
   refine gb.bind (Jp O h (n-(1+1)) (1+1) (by omega) (by omega) λm a1 a2 eO=>?_);rw[if_neg (by exact aj7 0)];have aB:Row n (kas_rev p 0 m):=h.LQ (mirror_perm _ _ _ _);refine gb.bind (Cg aB (n-m) m (by omega) (by omega) λeI bW bY gR _=>?_);refine q eI _ (by omega) bY aB (FR O aB bY λi bS ae=>?_)
   by_cases z:i<m
   .rw[MO h a2 (k:=i-1) (by omega),MO h a2 (k:=i) (by omega),if_pos (by omega),if_pos z,show m-1-(i-1)=m-1-i+1 by omega]
    by_cases y:m-1-i+1=1
    .rw[y,show m-1-i=0 by omega];exact fR
    .have:=eO (m-1-i+1) (by omega) (by omega)
     rwa[Nat.add_sub_cancel]at this
   .exact flip O aB bS (by omega) (gR i (by omega) ae)
theorem Ci{p:Array Nat}(h:Row n p){k:Nat}(ax:k<n){Q:Nat->Prop}(q:∀l,l<=k->(∀i,i<l->lt (p.getD i 0) (p.getD k 0)=true)->(∀i,l<=i->i<k->lt (p.getD k 0) (p.getD i 0)=true)->Q l)(as:mN lt p k) :
  ∀(f l r:Nat),r-l<=f->l<=r->r<=k->(∀i,i<l->lt (p.getD i 0) (p.getD k 0)=true)->(∀i,r<=i->i<k->lt (p.getD k 0) (p.getD i 0)=true)->gb n lt (kas_place p k f l r) Q
 |0,l,r,hf,af,ah,a,b=>q l (by omega) a λi c d=>b i (by omega) d
 |f+1,l,r,hf,af,ah,a,b=>by
  unfold kas_place
  by_cases e:l≥r
  .rw[if_pos e];exact q l (by omega) a λi c d=>b i (by omega) d
  .rw[if_neg e]
   have hm:(l+r) / 2<r:=by omega
   have au:l<=(l+r) / 2:=by omega
   generalize(l+r) / 2=m at hm au;refine⟨h.lt k ax,h.lt m (by omega),?_⟩
   cases c:lt (p.getD k 0) (p.getD m 0)with
   |true=>
    refine Ci h ax q as f l m (by omega) au (by omega) a λi fR c1=>?_
    by_cases z:i=m
    .rw[z];exact c
    .exact O.kV _ _ _ (h.lt k ax) (h.lt m (by omega)) (h.lt i (by omega)) c (as m i (by omega) c1)
   |false=>
    refine Ci h ax q as f (m+1) r (by omega) (by omega) ah (λi fR=>?_) b;have c':=O.OB _ _ (h.lt k ax) (h.lt m (by omega)) (h.ap k m ax (by omega) (by omega)) c
    by_cases z:i=m
    .rw[z];exact c'
    .exact O.kV _ _ _ (h.lt i (by omega)) (h.lt m (by omega)) (h.lt k ax) (as i m (by omega) (by omega)) c'
theorem Jo{Q:Array Nat->Prop}(q:∀p,Row n p->mN lt p n->Q p):∀(f:Nat)(p:Array Nat)(k:Nat),Row n p->k+f=n->mN lt p k->gb n lt (kas_bin f p k) Q
 | 0,p,k,h,e,as=>q p h (by rw[<-e];exact as)|f+1,p,k,h,e,as=>by
  refine gb.bind (Ci O h (by omega) (λl af a b=>?_) as k 0 k (by omega) (ajN _) (ajq _) (λi z=>by omega) λi z y=>by omega);have aB:Row n (bubble p k (k-l)):=h.LQ (bubble_perm _ _ _);have at':∀i,i<n->(bubble p k (k-l)).getD i 0=if i=l then p.getD k 0 else if l<i/\i<=k then p.getD (i-1) 0 else p.getD i 0:=λi aA=>by
   have e:=getElem?_bubble (xs:=p) (src:=k) (by rw[h.lG];omega) (k-l) (by omega) i;have bT:∀(q:Array Nat)(i:Nat),q.getD i 0=(q[i]?).getD 0:=λq i=>by simp[anp]
   rw[bT,bT,bT,bT,e,show k-(k-l)=l by omega]
   by_cases z:i=l
   .rw[if_pos z,if_pos z]
   .rw[if_neg z,if_neg z]
    by_cases y:l<i/\i<=k
    .rw[if_pos y,if_pos y]
    .rw[if_neg y,if_neg y]
  refine Jo q f _ (k+1) aB (by omega) λi j qO aW=>?_
  rw[at' i (by omega),at' j (by omega)]
  by_cases ff:i=l
  .rw[if_pos ff,if_neg (by omega),if_pos (by omega)]
   exact b (j-1) (by omega) (by omega)
  .rw[if_neg ff]
   by_cases ew:l<i/\i<=k
   .rw[if_pos ew,if_neg (by omega),if_pos (by omega)]
    exact as (i-1) (j-1) (by omega) (by omega)
   .rw[if_neg ew]
    by_cases k1:j=l
    .rw[if_pos k1];exact a i (by omega)
    .rw[if_neg k1]
     by_cases mK:l<j/\j<=k
     .rw[if_pos mK]
      by_cases Fg:i=j-1
      .exact absurd Fg (by omega)
      .exact as i (j-1) (by omega) (by omega)
     .rw[if_neg mK];exact as i j qO (by omega)
theorem Xh(aG:1<=n):gb n lt (kas_sort n) λp=>Row n p/\mN lt p n:=by
 have h0:Row n (alJ (ajI n)):=Ey (by simp);refine gb.bind (Xf O h0 aG λm p a1 a2 aB as=>?_);have q':max m 1=m:=by omega
 show gb n lt (if m<n then kas_bin (n-max m 1) p (max m 1)else .ret p) _;rw[q']
 by_cases e:m<n
 .rw[if_pos e]
  exact Jo O (λp h a=>⟨h,a⟩) _ _ _ aB (by omega) as
 .rw[if_neg e]
  have:m=n:=by omega
  subst this;exact⟨aB,as⟩
end
section
variable{prog:ajF}{w:World}{A:ajM}{E:cF}{s:ajp}
abbrev jJ(h:Heap)(a:Addr)(vs:List Value):Heap:=((h.update a (ajZ λ_=>#[])).push (aj3 "tuple" vs.toArray 0)).push (aj3 "list" #[] 0)
def ZQ{h:Heap}(ab:b≠a)(e:h.get? b=some o):(jJ h a vs).get? b=some o:=
 ajn _ (ajn _ ((aoh _ _ (amg ab)).trans e))
def adP{vs:List Value}(short:vs.length<2):(arrOf (SortSt.mk' general' (vs.toArray.zip vs.toArray) #[] 7 none)).map (·.2)=alJ ((alJ (ajI vs.length)).toList.map λi=>vs.getD i akB):=by
 show(vs.toArray.zip vs.toArray).map (·.2)=_;rcases vs with _|⟨_,_|⟨_,_⟩⟩
 .simp
 .simp
 .simp only[ajC]at short;omega
def adY{a:Addr}{vs:List Value}{k:Nat}{Aw:Fin->ajp->Prop}{lt:Nat->Nat->Bool}{κ:SortKind}(here:s.heap.get? a=some (aj3 "list" vs.toArray k))(jb:vs.length<64)(O:Ord vs.length lt)
  (kind:2<=vs.length->∀Q:SortKind->ajp->Prop,Q κ { s with heap:=jJ s.heap a vs }->wpAny (model prog w) A (keyKind' vs.toArray) Q (λ_ _=>False) { s with heap:=jJ s.heap a vs })
  (ask:∀(i j:Nat)(C:Bool->ajp->Prop),i<vs.length->j<vs.length->C (lt i j) { s with heap:=jJ s.heap a vs }->kas_ask prog w A κ vs i j C { s with heap:=jJ s.heap a vs })
  (fin:∀p:Array Nat,Row vs.length p->mN lt p vs.length->Aw (.done (.ret .none)) { s with heap:=sortedHeap s.heap a vs (alJ (p.toList.map λi=>vs.getD i akB)) }) :
  wpAny (model prog w) A (am9.«list.sort» ⟨[.ref a],[]⟩) Aw E s:=by
 have K':=ajD here;have small:vs.toArray.size<=ajt:=by rw[ajB,ajP];omega
 obtain⟨cM,emptied⟩:∃cM,(s.heap.update a (ajZ λ_=>#[])).get? a=some (aj3 "list" #[] cM):=⟨_,alv here λ_=>#[]⟩;have mid:(jJ s.heap a vs).get? a=some (aj3 "list" #[] cM):=by
  unfold jJ;rw[alA _ _ _ (by rw[anL,anZ];exact ajJ (amy K')),alA _ _ _ (by rw[anZ];exact ajJ K')];exact emptied
 rw[list_sort_plain];refine ajl (listItems_at here rfl (ajl (alQ here rfl ?_ small (ajN _))));refine ajl (anb emptied rfl (ajl (wpAny_newTuple ?_ small)));refine ajl (amf (akF ?_) (ajN _));show wpAny (model prog w) A _ Aw E { s with heap:=jJ s.heap a vs };dsimp only
 by_cases two:vs.toArray.size<2
 .rw[if_pos two,if_pos two]
  have short:vs.length<2:=by rw[ajB]at two;exact two
  refine ajl (ajr ?_);rw[StateT.run_pure];refine ajl (ajr ?_);dsimp only;have R:Row vs.length (alJ (ajI vs.length)):=Ey (by simp);have same:=adP short;rw[same];refine ajl (anb mid rfl (ajl (alQ mid rfl ?_ (ajN _) (by simp;rw[ajP];omega))));simp only[failedOf,bne_self_eq_false,alp,if_false];exact ajr (fin _ R λi j af ah=>by omega)
 .rw[if_neg two,if_neg two]
  have OS:2<=vs.length:=by rw[ajB]at two;omega
  refine ajl (aj6 (kind OS (λFl aP=>Fl=κ/\aP={ s with heap:=jJ s.heap a vs }) ⟨rfl,rfl⟩) (λFl aP ⟨ao,az⟩=>?_) λ_ _ z=>z.elim);subst ao az;have tree:(kas_sort vs.length).kasWp (kas_ask prog w A Fl vs) (λp aP=>aP={ s with heap:=jJ s.heap a vs }/\Row vs.length p/\mN lt p vs.length) { s with heap:=jJ s.heap a vs }:=
   gb.wp (W:=λaP=>aP={ s with heap:=jJ s.heap a vs }) (λi j C aP aA aW ws fI=>by subst ws;exact ask i j C aA aW (fI _ rfl)) rfl ((Xh O (by omega)).imp λp aH aP ws=>⟨ws,aH⟩)
  refine ajl (aj6 (kat_run (Q:=λst aP=>∃p:Array Nat,aP={ s with heap:=jJ s.heap a vs }/\(arrOf st).map (·.2)=alJ (p.toList.map λi=>vs.getD i akB)/\failedOf st=none/\Row vs.length p/\mN lt p vs.length)
   rfl OS jb (λp st aP _ az cI ⟨e6,lg,n1⟩=>⟨p,e6,kat_snds rfl az,cI,lg,n1⟩) tree) ?_ λ_ _ e=>e)
  rintro⟨⟨⟩,st⟩ aP ⟨p,rfl,out,ok,R,S⟩;dsimp only;rw[out];refine ajl (anb mid rfl (ajl (alQ mid rfl ?_ (ajN _) ?_)))
  .rw[ok]
   simp only[bne_self_eq_false,alp,if_false];exact ajr (fin p R S)
  .rw[ajB,ajm,akh,R.lG,ajP];omega
end
end a0
namespace a0
open PySem PySem.Spec aF
def gs(b:Bool)(h:Heap)(i l:Addr)(k:Nat):Prop:=match b with
 |true=>h.IsTupleIter i l k|false=>h.IsListIter i l k
def i_(b:Bool)(h:Heap)(l:Addr)(xs:Array Value):Prop:=match b with
 |true=>h.IsTuple l xs|false=>h.IsList l xs
def gs.extBut(x:gs b h a l i)(aC:Heap.ExtBut c h h')(uN:a≠c):gs b h' a l i:=by
 cases b with
 |true=>exact Heap.IsTupleIter.extBut x aC uN|false=>exact Heap.IsListIter.extBut x aC uN
def i_.extBut(x:i_ b h a xs)(aC:Heap.ExtBut c h h')(uN:a≠c):i_ b h' a xs:=by
 cases b with
 |true=>exact Heap.IsTuple.extBut x aC uN|false=>exact Heap.IsList.extBut x aC uN
def gs.obj{h:Heap}(x:gs b h a l i):∃o vs,h.get? a=some o/\o.data=.fields vs:=by
 cases b with
 |true=>obtain⟨o,e,_,d⟩:=x;exact⟨o,_,e,d⟩
 |false=>obtain⟨o,e,_,d⟩:=x;exact⟨o,_,e,d⟩
def gs.at'{h h':Heap}(x:gs b h a l i)(k:∀o,h.get? a=some o->h'.get? a=some o):gs b h' a l i:=by
 cases b with
 |true=>obtain⟨o,e,r⟩:=x;exact⟨o,k o e,r⟩
 |false=>obtain⟨o,e,r⟩:=x;exact⟨o,k o e,r⟩
def i_.obj{h:Heap}(x:i_ b h a xs):∃o n,h.get? a=some o/\o.data=.seq xs n:=by
 cases b with
 |true=>obtain⟨o,e,_,n,d⟩:=x;exact⟨o,n,e,d⟩
 |false=>obtain⟨o,e,_,n,d⟩:=x;exact⟨o,n,e,d⟩
section
variable{prog:ajF}{w:World}{A:ajM}{E:cF}{s:ajp}
def DG{b:Bool}{it l:Addr}{i:Nat}{items:Array Value}{x:Value}{Q:cF}(hit:gs b s.heap it l i)(au:i_ b s.heap l items)(ag:items[i]? = some x)
  (iS:∀h',gs b h' it l (i+1)->amR it s.heap h'->Q x { s with heap:=h' }):wpAny (model prog w) A (akr (.ref it)) Q E s:=by
 cases b with
 |false=>exact wpAny_nextOf_list_item hit au ag iS|true=>
  have hit:s.heap.IsTupleIter it l i:=hit;obtain⟨o,bg,aI,hd⟩:=id hit;obtain⟨ol,Cw,_,nl,uS⟩:=au;unfold akr;refine ajl (akX (name:=ajG "__next__") hit.typeIs alx (alH alx hit.typeIs anq ?_ (ana _)));show wpAny _ _ (field (.ref it) 0 >>= _) _ _ s;refine ajl (akJ bg hd (x:=.ref l) rfl ?_);show wpAny _ _ (if(ajU l==akB)=true then _ else _) _ _ s;rw[if_neg (show ¬((ajU l==akB)=true)from ajx)];show wpAny _ _ (field (.ref it) 1 >>= _) _ _ s;refine ajl (akJ bg hd (x:=.int i 0) rfl ?_);show wpAny _ _ (alV (.ref l) >>= _) _ _ s;refine ajl (aku Cw uS ?_);simp only[anC,ag];refine ajl (wpAny_setField bg hd (by simp) (ajr ⟨x,rfl,ajr (iS _ ?_ (akD ..))⟩));exact⟨_,Heap.get?_update_self _ bg (Obj.isFreed_of_fields (Obj.data_mapFields hd _)),(Obj.cls_mapFields ..).trans aI,by rw[Obj.data_mapFields hd];simp[alz]⟩
def LJ{b:Bool}{it l:Addr}{i:Nat}{items:Array Value}{Q:cF}(dE:A.handled=none)(hit:gs b s.heap it l i)(au:i_ b s.heap l items)(ag:items[i]? = none)
  (I8:∀h' e,Heap.ExtBut it s.heap h'->(∃o,h'.get? e=some o/\o.cls=.type "StopIteration")->E (.ref e) { s with heap:=h' }):wpAny (model prog w) A (akr (.ref it)) Q E s:=by
 cases b with
 |false=>exact wpAny_nextOf_list_end dE hit au ag I8|true=>
  have hit:s.heap.IsTupleIter it l i:=hit;obtain⟨o,bg,aI,hd⟩:=id hit;obtain⟨ol,Cw,_,nl,uS⟩:=au;unfold akr;refine ajl (akX (name:=ajG "__next__") hit.typeIs alx (alH alx hit.typeIs anq ?_ (ana _)));show wpAny _ _ (field (.ref it) 0 >>= _) _ _ s;refine ajl (akJ bg hd (x:=.ref l) rfl ?_);show wpAny _ _ (if(ajU l==akB)=true then _ else _) _ _ s;rw[if_neg (show ¬((ajU l==akB)=true)from ajx)];show wpAny _ _ (field (.ref it) 1 >>= _) _ _ s;refine ajl (akJ bg hd (x:=.int i 0) rfl ?_);show wpAny _ _ (alV (.ref l) >>= _) _ _ s;refine ajl (aku Cw uS ?_);simp only[anC,ag];refine ajl (amW (ajl (wpAny_setField bg hd (by simp) ?_)));show wpAny _ _ (newExc (.type "StopIteration") [] >>= _) _ _ _;refine ajl ?_;simp only[newExc,newTuple];refine ajl (alh ?_ (by size_fits));refine ajl (m:=firstArgMember _ _) (wpAny_of_eq (a:=akB) (by first|rfl|(simp only[firstArgMember];rfl)) ?_);refine alh ?_ (by size_fits);simp only[raiseNew];refine ajl (wpAny_handled ?_)
  first|rw[show A.in1.handled=none from dE]|rw[dE]
  refine ajl (ajr (wpAny_throw ?_));exact I8 _ _ (((akD ..).extBut.push _).push _) ⟨_,ajA _ rfl,rfl⟩
end
section
variable{prog:ajF}{w:World}{A:ajM}{E:cF}{s:ajp}
def ahj{bW bY:Bool}{z TI dV fy fT b5 cv:Addr}{gX gi:Nat}{xs ys:Array Value}{x y a b:Value}{Q:Option Value->ajp->Prop}(D:ZipApart z TI dV fy fT b5 cv)
  (hz:IsZip s.heap z TI dV .none) (kD:alK s.heap TI (.ref fy) (.ref fT)) (lr:alK s.heap dV a b)
  (af:gs bW s.heap fy b5 gX) (ah:gs bY s.heap fT cv gi) (lx:i_ bW s.heap b5 xs) (ij:i_ bY s.heap cv ys) (ag:xs[gX]? = some x) (ba:ys[gi]? = some y)
  (iS:∀h',IsZip h' z TI dV (alz s.heap.objs.size)->alK h' dV x y->gs bW h' fy b5 (gX+1)->gs bY h' fT cv (gi+1)->alK h' s.heap.objs.size x y->
   (∀c o,c≠z->c≠dV->c≠fy->c≠fT->s.heap.get? c=some o->h'.get? c=some o)->Q (some (.ref s.heap.objs.size)) { s with heap:=h' }) :
  wpAny (model prog w) A (alS (.ref z)) Q E s:=by
 have gg:s.TypeIs (.ref z) "zip":=⟨_,hz,rfl⟩;unfold alS;refine ajl (wpAny_attempt (akX (name:=ajG "__next__") gg amZ (alH amZ gg F.entry_zip_next ?_ (F.args_zip_next_1 _))));show wpAny _ _ (field (.ref z) 2 >>= _) _ _ _;refine ajl (akJ hz rfl (x:=.bool false) rfl ?_);show wpAny _ _ (field (.ref z) 3 >>= _) _ _ _;refine ajl (akJ hz rfl (x:=.ref TI) rfl ?_);refine ajl (aku kD rfl ?_);show wpAny _ _ (akV (.ref z) >>= _) _ _ _;refine ajl ?_;unfold akV;refine ajl (akJ hz rfl (x:=.none) rfl (ajr ?_));simp only[if_true];refine ajl (amW ?_);refine ajl (akJ hz rfl (x:=.ref dV) rfl ?_);refine ajl (alq hz (by simp) λkG pH iV=>?_)
 replace pH:IsZip kG z TI dV .ellipsis:=pH
 refine ajl ?_;simp only[List.zipIdx_cons,List.zipIdx_nil,aod,List.forIn_nil];refine ajl (ajl (anA ?_));show wpAny _ _ (akr (.ref fy) >>= _) _ _ _;refine ajl (DG (af.extBut iV.extBut D.i1z) (lx.extBut iV.extBut D.l1z) ag λmh I6 jH=>ajr ?_);have uM:alK mh dV a b:=jH.extBut _ _ D.TOi1 (iV.extBut _ _ D.TOz lr);refine ajl (aku uM rfl ?_);refine ajl (am0 uM λog ya j6=>?_)
 replace ya:alK og dV x b:=ya
 refine ajl (ak5 (ajr ?_));refine ajl (ajl (anA ?_));show wpAny _ _ (akr (.ref fT) >>= _) _ _ _;refine ajl (DG (((ah.extBut iV.extBut D.i2z).extBut jH.extBut D.i12.symm).extBut j6.extBut D.TOi2.symm)
  (((ij.extBut iV.extBut D.l2z).extBut jH.extBut D.l2i1).extBut j6.extBut D.l2TO) ba λu5 VM pF=>ajr ?_)
 have Ja:alK u5 dV x b:=pF.extBut _ _ D.TOi2 ya;refine ajl (aku Ja rfl ?_);refine ajl (am0 Ja λiD yb pG=>?_)
 replace yb:alK iD dV x y:=yb
 refine ajl (ak5 (ajr (ajr ?_)));refine ajl (aku yb rfl ?_);refine ajl (wpAny_newTuple ?_);have hsz:iD.objs.size=s.heap.objs.size:=by rw[pG.1,pF.1,j6.1,jH.1,iV.1]
 have JQ:IsZip iD z TI dV .ellipsis:=pG.extBut _ _ D.TOz.symm (pF.extBut _ _ D.i2z.symm (j6.extBut _ _ D.TOz.symm (jH.extBut _ _ D.i1z.symm pH)));have XF:∀c o,c≠z->c≠dV->c≠fy->c≠fT->s.heap.get? c=some o->iD.get? c=some o:=λc o bS ae jZ t_ e=>
  pG.extBut _ _ ae (pF.extBut _ _ t_ (j6.extBut _ _ ae (jH.extBut _ _ jZ (iV.extBut _ _ bS e))))
 have VK:gs bW iD fy b5 (gX+1):=((I6.extBut j6.extBut D.TOi1.symm).extBut pF.extBut D.i12).extBut pG.extBut D.TOi1.symm;have VN:gs bY iD fT cv (gi+1):=VM.extBut pG.extBut D.TOi2.symm;have JN:z<iD.objs.size:=ajD JQ;show wpAny _ _ (amu (.ref z) (.ref iD.objs.size) >>= _) _ _ _;refine ajl ?_;unfold amu;have X6:IsZip (iD.push { cls:=.type "tuple",data:=.seq #[x,y] }) z TI dV .ellipsis:=ajn _ JQ;refine ajl (alq X6 (by simp) λX9 CF JJ=>?_)
 replace CF:IsZip X9 z TI dV (alz iD.objs.size):=CF
 refine alq CF (by simp) λyq yp JK=>?_
 replace yp:IsZip yq z TI dV (alz iD.objs.size):=yp
 have up:∀c o,c≠z->iD.get? c=some o->yq.get? c=some o:=λc o bS e=>JK.extBut _ _ bS (JJ.extBut _ _ bS (ajn _ e))
 have Jb:alK yq iD.objs.size x y:=JK.extBut _ _ (Nat.ne_of_gt JN) (JJ.extBut _ _ (Nat.ne_of_gt JN) (ajA _ rfl));rw[hsz]at yp Jb;refine ajr ⟨_,rfl,?_⟩;show wpAny _ _ (pure (some (ajU iD.objs.size))) _ _ _;rw[hsz];exact ajr (iS yq yp (up _ _ D.TOz yb) (VK.at' λo e=>up _ o D.i1z e) (VN.at' λo e=>up _ o D.i2z e) Jb λc o bS ae jZ t_ e=>up c o bS (XF c o bS ae jZ t_ e))
def ahi{bW bY:Bool}{z TI dV fy fT b5 cv:Addr}{gX gi:Nat}{xs ys:Array Value}{a b:Value}{Q:Option Value->ajp->Prop}(dE:A.handled=none)(D:ZipApart z TI dV fy fT b5 cv)
  (hz:IsZip s.heap z TI dV .none) (kD:alK s.heap TI (.ref fy) (.ref fT)) (lr:alK s.heap dV a b)
  (af:gs bW s.heap fy b5 gX) (ah:gs bY s.heap fT cv gi) (lx:i_ bW s.heap b5 xs) (ij:i_ bY s.heap cv ys) (Xr:xs[gX]? = none\/ys[gi]? = none)
  (iS:∀h',(∀c o,c≠z->c≠dV->c≠fy->c≠fT->s.heap.get? c=some o->h'.get? c=some o)->Q none { s with heap:=h' }):wpAny (model prog w) A (alS (.ref z)) Q E s:=by
 have gg:s.TypeIs (.ref z) "zip":=⟨_,hz,rfl⟩;have fin:∀h' e,(∀c o,c≠z->c≠dV->c≠fy->c≠fT->s.heap.get? c=some o->h'.get? c=some o)->(∃o,h'.get? e=some o/\o.cls=.type "StopIteration")->
   wpAny (model prog w) A (do
    if <-isInstance (.ref e) (.type "StopIteration")then pure none else throw (.ref e)) Q E { s with heap:=h' }:=λh' e ax aX=>by
  obtain⟨o,bg,aI⟩:=aX;refine ajl (wpAny_isInstance (T:="StopIteration") (b:=true) ⟨o,bg,aI⟩ isSubtype_stop ?_);exact ajr (iS _ ax)
 unfold alS;refine ajl (wpAny_attempt (akX (name:=ajG "__next__") gg amZ (alH amZ gg F.entry_zip_next ?_ (F.args_zip_next_1 _))));show wpAny _ _ (field (.ref z) 2 >>= _) _ _ _;refine ajl (akJ hz rfl (x:=.bool false) rfl ?_);show wpAny _ _ (field (.ref z) 3 >>= _) _ _ _;refine ajl (akJ hz rfl (x:=.ref TI) rfl ?_);refine ajl (aku kD rfl ?_);show wpAny _ _ (akV (.ref z) >>= _) _ _ _;refine ajl ?_;unfold akV;refine ajl (akJ hz rfl (x:=.none) rfl (ajr ?_));simp only[if_true];refine ajl (amW ?_);refine ajl (akJ hz rfl (x:=.ref dV) rfl ?_);refine ajl (alq hz (by simp) λkG pH iV=>?_)
 replace pH:IsZip kG z TI dV .ellipsis:=pH
 refine ajl ?_;simp only[List.zipIdx_cons,List.zipIdx_nil,aod,List.forIn_nil];refine ajl (ajl (anA ?_));show wpAny _ _ (akr (.ref fy) >>= _) _ _ _
 cases ag:xs[gX]? with
 |none=>
  refine ajl (LJ dE (af.extBut iV.extBut D.i1z) (lx.extBut iV.extBut D.l1z) ag λmh e jH he=>?_);obtain⟨vL,qQ,uQ⟩:=he;have JO:IsZip mh z TI dV .ellipsis:=jH _ _ D.i1z.symm pH;have Cm:e≠z:=λx=>by subst x;rw[JO]at qQ;cases qQ;simp at uQ
  exact alq JO (by simp) λog _ j6=>fin og e (λc o bS _ jZ _ x=>j6.extBut _ _ bS (jH _ _ jZ (iV.extBut _ _ bS x))) ⟨vL,j6.extBut _ _ Cm qQ,uQ⟩
 |some x=>
  have ba:ys[gi]? = none:=by rcases Xr with h|h;rw[ag]at h;cases h;exact h
  refine ajl (DG (af.extBut iV.extBut D.i1z) (lx.extBut iV.extBut D.l1z) ag λmh I6 jH=>ajr ?_);have uM:alK mh dV a b:=jH.extBut _ _ D.TOi1 (iV.extBut _ _ D.TOz lr);refine ajl (aku uM rfl ?_);refine ajl (am0 uM λog ya j6=>?_);refine ajl (ak5 (ajr ?_));refine ajl (ajl (anA ?_));show wpAny _ _ (akr (.ref fT) >>= _) _ _ _;refine ajl (LJ dE (((ah.extBut iV.extBut D.i2z).extBut jH.extBut D.i12.symm).extBut j6.extBut D.TOi2.symm)
   (((ij.extBut iV.extBut D.l2z).extBut jH.extBut D.l2i1).extBut j6.extBut D.l2TO) ba λu5 e pF he=>?_)
  obtain⟨vL,qQ,uQ⟩:=he;have JP:IsZip u5 z TI dV .ellipsis:=pF _ _ D.i2z.symm (j6.extBut _ _ D.TOz.symm (jH.extBut _ _ D.i1z.symm pH));have Cm:e≠z:=λx=>by subst x;rw[JP]at qQ;cases qQ;simp at uQ
  exact alq JP (by simp) λiD _ pG=>fin iD e (λc o bS ae jZ t_ x=>pG.extBut _ _ bS (pF _ _ t_ (j6.extBut _ _ ae (jH.extBut _ _ jZ (iV.extBut _ _ bS x))))) ⟨vL,pG.extBut _ _ Cm qQ,uQ⟩
end
section
variable{X:aU}{zn:cX}{Y:St}{H:aw}{s:ajp}{h':Heap}
def Inv.OR{t':Nat}{ch:List Addr}(J:Inv X zn Y H s)(k:∀b o,b∉ch->s.heap.get? b=some o->h'.get? b=some o)(hf:∀b∈ch,gC X zn H b):Inv X zn Y H { s with heap:=h',toks:=t' }:=by
 have vF:∀b u,H b=some u->b∉ch:=λb u e z=>by rw[(hf b z).1]at e;cases e
 refine J.step (g':=s.gens) (d':=s.drawn) (ch:=ch) (λb ab=>?_) (λb o _ _ aI e _=>k b o aI e) (λb o _ _ aI e _=>⟨o.slots,k b o aI e⟩) (λ_ _ _ _ n=>n)
  (λb o aI e=>⟨o,k b o aI e⟩) (λ_ _ e=>e) (λ_ _ _ e=>e) (λb ps e=>⟨#[],by rw[e];simp⟩) (λm hm=>?_) (λb u e=>?_) J.bare
 .obtain⟨_,f1,_,fw,f4,gT⟩:=hf b ab
  exact⟨fw,f1,f4,gT⟩
 .obtain⟨o,ay,cM,bg,r⟩:=hm
  exact⟨o,ay,cM,k _ o (λz=>(hf _ z).2.1 rfl) bg,r⟩
 .refine(J.bQ b u e).rq (λc v aI q=>k c v ?_ q) (λ_ q=>q) λ_ _ q=>q
  rcases aI with z|z
  .rw[z];exact vF b u e
  .exact vF c _ z
end
def ib(b:Bool)(K:aS)(H:aw)(a:Addr)(xs:List V):Prop:=match b with
 |true=>dI K H a xs|false=>dn K H a xs
def Inv.dH{s:ajp}(J:Inv X zn Y H s)(h:ib b X.K H a xs):∃its:List Value,Vals xs its/\i_ b s.heap a its.toArray:=by
 cases b with
 |true=>obtain⟨its,r,p,_⟩:=J.tuple h;exact⟨its,r,p⟩
 |false=>obtain⟨its,r,p,_⟩:=J.list h;exact⟨its,r,p.isList⟩
def Inv.Oe(J:Inv X zn Y H s)(h:ib b X.K H a xs)(h':ib b X.K H a ys):xs=ys:=by
 cases b with
 |true=>exact J.OO h h'|false=>exact J.K4 h h'
def FD(K:aS)(bW bY:Bool)(b5 cv:Addr):iy:=
  ⟨λi H=>(∃xs x,ib bW K H b5 xs/\xs[i]? = some x)/\∃ys y,ib bY K H cv ys/\ys[i]? = some y,
   λi H x H'=>∃u v T,x=.ref T/\H T=none/\H'=upd H T (.tup [u,v])/\(∀xs,ib bW K H b5 xs->xs[i]? = some u)/\∀ys,ib bY K H cv ys->ys[i]? = some v,
   λi H=>∃xs ys,ib bW K H b5 xs/\ib bY K H cv ys/\(xs.length<=i\/ys.length<=i)⟩
def ae2{d8:Nat}(bW bY:Bool){z TI dV fy fT b5 cv:Addr}(D:ZipApart z TI dV fy fT b5 cv):Turn P w K (.Tuple elts d8 d3) (FD K bW bY b5 cv) [z,TI,dV,fy,fT] z
  (λi h=>IsZip h z TI dV .none/\alK h TI (.ref fy) (.ref fT)/\(∃a b,alK h dV a b)/\gs bW h fy b5 i/\gs bY h fT cv i) where
 mem:=by simp
 obj:=λi h st b ab=>by
  obtain⟨hz,kD,⟨x,y,lr⟩,af,ah⟩:=st;rcases aju.mp ab with rfl|ab
  .exact⟨_,hz,λv z=>by cases z⟩
  rcases aju.mp ab with rfl|ab
  .exact⟨_,kD,λv z=>by cases z⟩
  rcases aju.mp ab with rfl|ab
  .exact⟨_,lr,λv z=>by cases z⟩
  rcases aju.mp ab with rfl|ab
  .obtain⟨o,vs,e,d⟩:=af.obj;exact⟨o,e,λv z=>by rw[d]at z;cases z⟩
  rcases aju.mp ab with rfl|ab
  .obtain⟨o,vs,e,d⟩:=ah.obj;exact⟨o,e,λv z=>by rw[d]at z;cases z⟩
  cases ab
 keep:=λi h h' ⟨hz,kD,⟨x,y,lr⟩,af,ah⟩ k=>⟨k z (by simp) _ hz,k TI (by simp) _ kD,⟨x,y,k dV (by simp) _ lr⟩,af.at' λo e=>k fy (by simp) o e,ah.at' λo e=>k fT (by simp) o e⟩
 item:=by
  rintro X en hw hD aI i zn s Y H E J hf ⟨hz,kD,⟨w_,b0,lr⟩,af,ah⟩ ⟨⟨xs,x,a',ag⟩,⟨ys,y,aB,ba⟩⟩;subst en hw hD;obtain⟨its,bR,p⟩:=Inv.dH J a';obtain⟨J6,jj,q⟩:=Inv.dH J aB;obtain⟨u,cx,d9⟩:=bR.get ag;obtain⟨v,bI,acj⟩:=jj.get ba;have Xs:∀b∈[z,dV,fy,fT],b∈[z,TI,dV,fy,fT]:=λb ab=>by simp at ab ⊢;rcases ab with h|h|h|h<;>simp[h]
  refine ahj D hz kD lr af ah p q (x:=u) (y:=v) (by simpa using cx) (by simpa using bI) λh' a1 a2 eO hy jy ax=>⟨_,rfl,wpAny_letOwnedTupleGo_zip a1 λVI X4 u1=>?_⟩
  have aG:=J.bQ.fresh (ajq s.heap.objs.size);have yP:=ajD hz;have yO:=ajD lr;have q3:fy<s.heap.objs.size:=by obtain⟨_,_,e,_⟩:=af.obj;exact ajD e
  have q4:fT<s.heap.objs.size:=by obtain⟨_,_,e,_⟩:=ah.obj;exact ajD e
  have ij:Vals [x,y] [u,v]:=.cons d9 (.cons acj .nil);have bb:Inv X zn Y (upd H s.heap.objs.size (.tup [x,y])) { s with heap:=s.heap.push { cls:=.type "tuple",data:=.seq #[u,v] } }:=
   J.laid (t':=s.toks) (λb u e=>ajn _ e) (ajq _) ⟨by rw[ajP];show 2<=_;decide,[u,v],ij,⟨_,ajA _ rfl,rfl,_,rfl⟩⟩
  have bU:Inv X zn Y (upd H s.heap.objs.size (.tup [x,y])) { s with heap:=VI }:=by
   refine Inv.OR (s:={ s with heap:=s.heap.push { cls:=.type "tuple",data:=.seq #[u,v] } }) (ch:=[z,dV,fy,fT]) (t':=s.toks) bb (λb o ab e=>?_) λb ab=>?_
   .have DK:b≠z:=λq=>ab (by simp[q])
    refine u1.extBut _ _ DK ?_;rcases Heap.get?_push_cases e with⟨rfl,rfl⟩|e
    .exact jy
    .exact ax b o DK (λq=>ab (by simp[q])) (λq=>ab (by simp[q])) (λq=>ab (by simp[q])) e
   .obtain⟨f0,f⟩:=hf b (Xs b ab)
    refine⟨?_,f⟩;rw[df]
    .exact f0
    .rintro rfl
     simp at ab;rcases ab with h|h|h|h
     .rw[<-h]at yP;exact aj7 _ yP
     .rw[<-h]at yO;exact aj7 _ yO
     .rw[<-h]at q3;exact aj7 _ q3
     .rw[<-h]at q4;exact aj7 _ q4
  refine⟨.ref s.heap.objs.size,_,bU,rfl,⟨x,y,_,rfl,aG,rfl,λwH h'=>by rw[Inv.Oe J h' a'];exact ag,λagH h'=>by rw[Inv.Oe J h' aB];exact ba⟩,
   ⟨X4,u1.extBut _ _ D.TIz (ax _ _ D.TIz D.TITO D.TIi1 D.TIi2 kD),⟨_,_,u1.extBut _ _ D.TOz a2⟩,eO.extBut u1.extBut D.i1z,hy.extBut u1.extBut D.i2z⟩,λb ab=>?_⟩
  rw[df]
  .exact(hf b ab).1
  .rintro rfl
   have ltI:=ajD kD;simp at ab;rcases ab with h|h|h|h|h
   .rw[<-h]at yP;exact aj7 _ yP
   .rw[<-h]at ltI;exact aj7 _ ltI
   .rw[<-h]at yO;exact aj7 _ yO
   .rw[<-h]at q3;exact aj7 _ q3
   .rw[<-h]at q4;exact aj7 _ q4
 done:=by
  rintro X en hw hD aI i zn s Y H E J hf ⟨hz,kD,⟨w_,b0,lr⟩,af,ah⟩ ⟨xs,ys,a',aB,au⟩;subst en hw hD;obtain⟨its,bR,p⟩:=Inv.dH J a';obtain⟨J6,jj,q⟩:=Inv.dH J aB;have ao:=bR.length;have az:=jj.length;refine ahi (J.ok.hd aI) D hz kD lr af ah p q ?_ λh' ax=>⟨rfl,?_⟩
  .rcases au with au|au
   .exact .inl (by simp;omega)
   .exact .inr (by simp;omega)
  .refine Inv.OR (ch:=[z,dV,fy,fT]) (t':=s.toks) J (λb o ab e=>ax b o (λq=>ab (by simp[q])) (λq=>ab (by simp[q])) (λq=>ab (by simp[q])) (λq=>ab (by simp[q])) e) λb ab=>hf b ?_
   simp at ab ⊢;rcases ab with h|h|h|h<;>simp[h]
 self:=λ_ _ _ _ _ ⟨hz,_⟩ h=>wpAny_pyIter_zip hz h
def yx(b:Bool)(l:Addr):Obj:=match b with
 |true=>{ cls:=.type "tuple_iterator",data:=.fields #[.ref l,.int 0 0] }
 |false=>{ cls:=.type "list_iterator",data:=.fields #[.ref l,.int 0 0] }
abbrev Af(bW:Bool)(h:Heap)(b5:Addr):Heap:=h.push (yx bW b5)
abbrev Ag(bW bY:Bool)(h:Heap)(b5 cv:Addr):Heap:=(Af bW h b5).push (yx bY cv)
abbrev Ah(bW bY:Bool)(h:Heap)(b5 cv:Addr):Heap:=(Ag bW bY h b5 cv).push { cls:=.type "tuple",data:=.seq #[.ref h.objs.size,.ref (Af bW h b5).objs.size] }
abbrev Ai(bW bY:Bool)(h:Heap)(b5 cv:Addr):Heap:=(Ah bW bY h b5 cv).push { cls:=.type "tuple",data:=.seq #[.none,.none] }
abbrev tL(bW bY:Bool)(h:Heap)(b5 cv:Addr):Heap:=(Ai bW bY h b5 cv).push { cls:=.type "zip",data:=.fields #[.none,.bool false,.bool false,.ref (Ag bW bY h b5 cv).objs.size,.ref (Ah bW bY h b5 cv).objs.size] }
def ZN(bW bY:Bool)(b5 cv:Addr)(xs ys:Array Value) :
  Meets (am9.«zip.__new__» ⟨[.type "zip",.ref b5,.ref cv],[]⟩) (λ_ R s=>i_ bW s.heap b5 xs/\i_ bY s.heap cv ys/\
   R (.ok (.ret (.ref (Ai bW bY s.heap b5 cv).objs.size))) { s with heap:=tL bW bY s.heap b5 cv }):=by
 cases bW with
 |false=>
  cases bY with
  |false=>exact meets_zip_new b5 cv xs ys|true=>
   refine .of_wp λprog w A R s h=>?_
   obtain⟨aH,g,d,tk,os⟩:=s;obtain⟨lx,ij,h⟩:=h;have JI:=sub_zip;have uK:Heap.IsList (amG ⟨aH,g,d,tk,os⟩) b5 xs:=lx;have uL:an1 (amG ⟨aH.push { cls:=.type "list_iterator",data:=.fields #[.ref b5,.int 0 0] },g,d,tk,os⟩) cv ys:=aoB ij _
   wp_walk using alg uK,alT uL
   exact⟨_,rfl,h⟩
 |true=>
  cases bY with
  |false=>
   refine .of_wp λprog w A R s h=>?_
   obtain⟨aH,g,d,tk,os⟩:=s;obtain⟨lx,ij,h⟩:=h;have JI:=sub_zip;have uK:an1 (amG ⟨aH,g,d,tk,os⟩) b5 xs:=lx;have uL:Heap.IsList (amG ⟨aH.push { cls:=.type "tuple_iterator",data:=.fields #[.ref b5,.int 0 0] },g,d,tk,os⟩) cv ys:=Heap.IsList.push ij _
   wp_walk using alT uK,alg uL
   exact⟨_,rfl,h⟩
  |true=>
   refine .of_wp λprog w A R s h=>?_
   obtain⟨aH,g,d,tk,os⟩:=s;obtain⟨lx,ij,h⟩:=h;have JI:=sub_zip;have uK:an1 (amG ⟨aH,g,d,tk,os⟩) b5 xs:=lx;have uL:an1 (amG ⟨aH.push { cls:=.type "tuple_iterator",data:=.fields #[.ref b5,.int 0 0] },g,d,tk,os⟩) cv ys:=aoB ij _
   wp_walk using alT uK,alT uL
   exact⟨_,rfl,h⟩
def gs.new{h:Heap}(e:h.get? a=some (yx b l)):gs b h a l 0:=by
 cases b with
 |true=>exact⟨_,e,rfl,rfl⟩|false=>exact⟨_,e,rfl,rfl⟩
section
variable{prog:ajF}{w:World}{A:ajM}{E:cF}{s:ajp}
def SN{bW bY:Bool}{b5 cv:Addr}{xs ys:Array Value}{Q:cF}(lx:i_ bW s.heap b5 xs)(ij:i_ bY s.heap cv ys)
  (h:∀h',IsZip h' (s.heap.objs.size+4) (s.heap.objs.size+2) (s.heap.objs.size+3) .none->alK h' (s.heap.objs.size+2) (.ref s.heap.objs.size) (.ref (s.heap.objs.size+1))->
   alK h' (s.heap.objs.size+3) .none .none->gs bW h' s.heap.objs.size b5 0->gs bY h' (s.heap.objs.size+1) cv 0->
   (∀c o,s.heap.get? c=some o->h'.get? c=some o)->Q (.ref (s.heap.objs.size+4)) { s with heap:=h' }) :
  wpAny (model prog w) A (call (.type "zip") [.ref b5,.ref cv]) Q E s:=by
 refine callType_new F.called_zip (by decide) (F.typeCall_zip_2 _ _) (F.newCall_zip_2 _ _) (λobj=>F.args_object_init_3 obj _ _) F.entry_zip_new (ZN bW bY b5 cv xs ys) ⟨lx,ij,?_⟩;have ff:(Af bW s.heap b5).objs.size=s.heap.objs.size+1:=alE ..;have ew:(Ag bW bY s.heap b5 cv).objs.size=s.heap.objs.size+2:=by rw[alE,ff]
 have k1:(Ah bW bY s.heap b5 cv).objs.size=s.heap.objs.size+3:=by rw[alE,ew]
 have mK:(Ai bW bY s.heap b5 cv).objs.size=s.heap.objs.size+4:=by rw[alE,k1]
 have f1:∀b l,(yx b l).isFreed=false:=λb l=>by cases b<;>rfl
 have BX:(tL bW bY s.heap b5 cv).get? (Ai bW bY s.heap b5 cv).objs.size=some _:=ajA _ rfl;have lh:(tL bW bY s.heap b5 cv).get? (Ah bW bY s.heap b5 cv).objs.size=some _:=ajn _ (ajA _ rfl);have g3:(tL bW bY s.heap b5 cv).get? (Ag bW bY s.heap b5 cv).objs.size=some _:=ajn _ (ajn _ (ajA _ rfl));have g2:(tL bW bY s.heap b5 cv).get? (Af bW s.heap b5).objs.size=some _:=ajn _ (ajn _ (ajn _ (ajA _ (f1 _ _))));have g1:(tL bW bY s.heap b5 cv).get? s.heap.objs.size=some _:=ajn _ (ajn _ (ajn _ (ajn _ (ajA _ (f1 _ _)))));show _/\_;rw[ew,k1,mK]at BX;rw[ff,ew]at g3;rw[k1]at lh;rw[ff]at g2;rw[mK];exact⟨⟨_,BX,rfl⟩,h _ BX g3 lh (.new g1) (.new g2) λc o x=>
  ajn _ (ajn _ (ajn _ (ajn _ (ajn _ x))))⟩
end
def yr(K:aS)(b3:gv):TI:=λY H R=>b3 Y H λvs H1=>∃bW bY b5 cv,vs=[.ref b5,.ref cv]/\(∃xs,ib bW K H1 b5 xs)/\(∃ys,ib bY K H1 cv ys)/\R (FD K bW bY b5 cv) H1
def Mi{X:aU}{elts:List Expr}{d8:Nat}{d3:Pos}{p pos:Pos}(aY:eC X "zip")(hm:X.mg "zip"=none)(aq:eN X [a,b] b3)(aC:ajo [a,b] X.env=[(false,eval a X.env),(false,eval b X.env)]:=by rfl)(kF:ajo [b] X.env=[(false,eval b X.env)]:=by rfl) :
  ko X (.Tuple elts d8 d3) (.Call (.Name "zip" p) [a,b] [] pos) (yr X.K b3):=by
 intro zn s Y H R J h;refine PyProof.Rows.Call_ (q0 J aY hm PyProof.Rows.boot_zip (al8 (bX (aq pos zn s Y H _ J h) λus s1 ⟨vs,H1,bb,bB,bq⟩=>?_) (by rw[aC,kF]) (by rw[kF];rfl)));obtain⟨bW,bY,b5,cv,e,⟨xs,ag⟩,⟨ys,ba⟩,q⟩:=bq;subst e
 cases bB with
 |cons r br=>
  cases br with
  |cons bP br=>
   cases br;cases r;cases bP;obtain⟨its,bR,p1⟩:=Inv.dH bb ag;obtain⟨J6,jj,dG⟩:=Inv.dH bb ba;have q3:b5<s1.heap.objs.size:=by obtain⟨_,_,e,_⟩:=p1.obj;exact ajD e
   have q4:cv<s1.heap.objs.size:=by obtain⟨_,_,e,_⟩:=dG.obj;exact ajD e
   refine SN p1 dG λh' a1 a2 eO hy jy ax=>?_
   refine wpAny_pyIter_zip (s:={ s1 with heap:=h' }) a1 ?_;have D:ZipApart (s1.heap.objs.size+4) (s1.heap.objs.size+2) (s1.heap.objs.size+3) s1.heap.objs.size (s1.heap.objs.size+1) b5 cv:=by
    have up:∀{l:Addr}(k:Nat),l<s1.heap.objs.size->l≠s1.heap.objs.size+k:=λk h=>ajJ (aj1 h (amc _ _))
    have qZ:b5≠s1.heap.objs.size:=ajJ q3;have KA:cv≠s1.heap.objs.size:=ajJ q4;have jm:=λk=>up k q3
    have gL:=λk=>up k q4
    generalize s1.heap.objs.size=n at qZ KA jm gL ⊢;constructor<;>first|exact jm 4|exact jm 3|exact qZ|exact jm 1|exact gL 4|exact gL 3|exact KA|exact gL 1|(show(_:Nat)≠_;omega)
   refine⟨s1.heap.objs.size+4,[s1.heap.objs.size+4,s1.heap.objs.size+2,s1.heap.objs.size+3,s1.heap.objs.size,s1.heap.objs.size+1],_,_,H1,rfl,bb.kept (t':=s1.toks) ax,ae2 bW bY D,⟨a1,a2,⟨_,_,eO⟩,hy,jy⟩,λc aI=>?_,q⟩;have le:s1.heap.objs.size<=c:=by
    simp at aI;rcases aI with rfl|rfl|rfl|rfl|rfl
    .exact amc _ _
    .exact amc _ _
    .exact amc _ _
    .exact ajq _
    .exact amc _ _
   exact bb.pw le (bb.bQ.fresh le)
end a0
namespace a0
open PySem PySem.Spec aF
variable[aF.a7]
def R.walk:R->Option (List D)
 |.v (.tup xs)=>some xs|.v (.lst xs)=>some xs|.fr xs=>some xs|.bF xs=>some xs|_=>none
def i5(xs ys:List D):List D:=(xs.zip ys).map λp=>.tup [p.1,p.2]
def pb(b:Bool)(K:aS)(O:a4)(H:aw)(a:Addr)(ys:List V):Prop:=match b with
 |true=>dI K H a ys|false=>h8 K O H a ys
def pb.dH{O:a4}(h:pb b K O H a ys):ib b K H a ys:=by
 cases b with
 |true=>exact h|false=>exact h8.dH h
def pb.aD{O aj:a4}(g:ei O aj H H')(h:pb b K O H a ys):pb b K aj H' a ys:=by
 cases b with
 |true=>exact g.wj h|false=>exact g.K9 h
def z2{O:a4}{r:R}{v:V}(h:eW K mg O H r v)(n:jv H₀ r v)(e:r.walk=some xs):∃b a ys,v=.ref a/\pb b K (cj H₀ O) H a ys/\bj K mg (cj H₀ O) H xs ys:=by
 unfold R.walk at e;split at e
 .cases e;obtain⟨a,ys,q,l,r⟩:=h;exact⟨true,a,ys,q,l,r.dr (ja _ _)⟩
 .cases e
  obtain⟨a,ys,q,l,r⟩:=h;exact⟨false,a,ys,q,.inl ⟨.inl l.1,.inl ((ja H₀ O).fr a l.2)⟩,r.dr (ja _ _)⟩
 .cases e
  obtain⟨a,ys,rfl,l,t,r⟩:=h;exact⟨false,a,ys,rfl,.inl ⟨.inl l,.inl (x1 (n a rfl) t)⟩,r.dr (ja _ _)⟩
 .cases e
  obtain⟨a,ys,q,l,r⟩:=h;refine⟨false,a,ys,q,?_,r.dr (ja _ _)⟩;rcases l with⟨l,f⟩|l
  .refine .inl ⟨l,?_⟩
   rcases f with f|f
   .exact .inl ((ja H₀ O).fr a f)
   .exact .inr (by rw[qE (by rw[f];intro z;cases z)];exact f)
  .exact .inr l
 .cases e
def qb(is:List Nat)(b:a3):D->a3:=λd Y=>match d with
 |.tup ay=>if ay.length=is.length then b (kf is ay Y)else bad|_=>bad
def tK:List R->Option (List D)
 |[x,y]=>match x.walk,y.walk with
  |some xs,some ys=>some (i5 xs ys)|_,_=>none
 |_=>none
def r3(is:List Nat)(ms:cV)(b:a3):a3:=λY=>do
 let rs <-ms Y
 match tK rs with
 |some ds=>hk (qb is b) ds Y|none=>bad
def ahh(h:tK rs=some ds):∃x y xs ys,rs=[x,y]/\x.walk=some xs/\y.walk=some ys/\ds=i5 xs ys:=by
 unfold tK at h;split at h
 .rename_i x y
  split at h
  .rename_i xs ys ao az
   cases h;exact⟨x,y,xs,ys,rfl,ao,az,rfl⟩
  .cases h
 .cases h
def Fi{xs ys:List D}{k:Nat}{d:D}{ds:List D}(e:(i5 xs ys).drop k=d::ds):∃x y,xs[k]? = some x/\ys[k]? = some y/\d=.tup [x,y]/\(i5 xs ys).drop (k+1)=ds:=by
 have ao:(i5 xs ys)[k]? = some d:=by
  have:=congrArg (·[0]?) e;simpa using this
 unfold i5 at ao;rw[ajW]at ao
 cases lZ:(xs.zip ys)[k]? with
 |none=>rw[lZ]at ao;cases ao
 |some p=>
  rw[lZ]at ao;cases ao;obtain⟨a,b⟩:=amm.mp lZ;refine⟨p.1,p.2,a,b,rfl,?_⟩;have:=congrArg (anj 1) e;simpa[al7]using this
def ahf{xs ys:List D}{k:Nat}(e:(i5 xs ys).drop k=[]):xs.length<=k\/ys.length<=k:=by
 have:=congrArg akN e;unfold i5 at this;simp only[akw,ajm,amX,ako]at this;omega
def Vj{is:List Nat}:∀D ar H,ki K mg (r3 is ms b) D ar H->rt (yr K (nH K mg ms)) (qF K is.length (jE is)) (ki K mg b) D ar H:=by
 rintro D ar H ⟨O,Y,S,a_,av,st,h,q⟩;obtain⟨rs,S1,af,h⟩:=M.inv h
 cases lZ:tK rs with
 |none=>rw[lZ]at h;cases h
 |some ds=>
  .rw[lZ]at h
   obtain⟨x,y,xs,ys,rfl,ex,e7,rfl⟩:=ahh lZ;refine⟨O,Y,S,_,S1,st,af,λaL vs H1 g1 aT br nn=>?_⟩;obtain⟨v1,bB,rfl,a9,v2,b_,rfl,bA,re⟩:=br;cases re;obtain⟨bW,b5,us,rfl,s1,a1⟩:=z2 (H₀:=H) a9 nn.1 ex;obtain⟨bY,cv,ws,rfl,s2,a2⟩:=z2 (H₀:=H) bA nn.2.1 e7;have zL:=aT.cj H;refine⟨bW,bY,b5,cv,rfl,⟨us,s1.dH⟩,⟨ws,s2.dH⟩,?_⟩;refine⟨λk m dc H'=>m=(i5 xs ys).length-k/\∃aj Y' hv,cy K mg aj Y' hv dc H'/\ei (cj H aL) aj H1 H'/\e4 Y Y' ar dc/\(hk (qb is b) ((i5 xs ys).drop k) Y').run hv=.ok a_ av,⟨_,rfl,_,Y,S1,zL,ei.refl _ _,e4.refl _ _,h⟩,?_⟩;rintro k m dc H' ⟨rfl,aj,Y',hv,cc,g',kp,h⟩;have EB:=pb.aD g' s1;have wa:=pb.aD g' s2
   cases e:(i5 xs ys).drop k with
   |nil=>
    rw[e]at h;cases h;refine .inl ⟨⟨us,ws,EB.dH,wa.dH,?_⟩,q aj dc H' (g1.cj.aD.trans g') cc kp⟩;rw[a1.len,a2.len];exact ahf e
   |cons d m2=>
    obtain⟨b8,Ij,ao,az,rfl,cz⟩:=Fi e;obtain⟨u,jC,d9⟩:=(bj.aD g' a1).get ao;obtain⟨v,ev,bR⟩:=(bj.aD g' a2).get az;have fx:k<(i5 xs ys).length:=by
     have:=congrArg akN e;rw[akw,ajC]at this;omega
    rw[e]at h;obtain⟨f1,a6,ah,h⟩:=M.inv h;unfold qb at ah;dsimp only at ah
    by_cases c:[b8,Ij].length=is.length
    .rw[if_pos c]at ah
     refine .inr ⟨⟨⟨us,u,EB.dH,jC⟩,⟨ws,v,wa.dH,ev⟩⟩,λhs aM=>∃bu dQ a6,cy K mg bu dQ a6 hs aM/\ei (cj H aL) bu H1 aM/\e4 Y dQ ar hs/\(hk (qb is b) ((i5 xs ys).drop (k+1)) dQ).run a6=.ok a_ av,?_,λx aM jS=>?_⟩
     .rintro hs aM ⟨bu,dQ,a6,ff,ew,k1,mK⟩
      exact⟨_,by omega,rfl,bu,dQ,a6,ff,ew,k1,mK⟩
     .obtain⟨u',fC,T,rfl,gg,rfl,su,mb⟩:=jS
      have vX:=su us EB.dH;rw[jC]at vX;cases vX;have vY:=mb ws wa.dH;rw[ev]at vY;cases vY;have iQ:Go aj aj H' (upd H' T (.tup [u,v])):=Go.fz gg;refine⟨T,[u,v],rfl,dI.of dx,by rw[<-c];rfl,z0 (ds:=[b8,Ij]) (cc.fz gg) ⟨u,[v],rfl,d9.go iQ,v,[],rfl,bR.go iQ,rfl⟩ c λkj mB bc=>?_⟩;refine⟨aj,_,hv,f1,a6,mB,ah,?_⟩
      cases f1 with
      |bo dQ=>exact λbu hs aM g2 cK gi=>⟨bu,dQ,a6,cK,g'.trans (iQ.aD.trans g2),kp.trans (bc.trans gi),by rw[cz];exact h⟩
      |ct dQ=>exact λbu hs aM g2 cK gi=>⟨bu,dQ,a6,cK,g'.trans (iQ.aD.trans g2),kp.trans (bc.trans gi),by rw[cz];exact h⟩
      |cG dQ=>cases h;exact λbu hs aM g2 cK gi=>q bu hs aM (g1.cj.aD.trans (g'.trans (iQ.aD.trans g2))) cK (kp.trans (bc.trans gi))
      |cZ r=>cases h;exact λbu v aM g2 c1 az b_=>q bu v aM (g1.cj.aD.trans (g'.trans (iQ.aD.trans g2))) c1 az b_
    .rw[if_neg c]at ah;cases ah
def Tb{X:aU}{pos d3:Pos}{is:List Nat}{ay:List Expr}{k:Nat}{p dk:Pos}{a fa:Expr}{ms:cV}{body:List Stmt}{b:a3}(aH:anf (model X.prog X.w) X.A X.env X.dU)(aI:X.calm=true)(qM:eC X "zip")(hm:X.mg "zip"=none)(aq:Al X [a,fa] ms)(aY:lP X ay (jE is))(ab:rL X body b)
  (aG:(ajQ ay X.env).length=is.length:=by rfl) (gh:(ajQ ay X.env).findIdx? (·.1)=none:=by rfl)
  (aC:∀x,akc (.Call (.Name "zip" p) [a,fa] [] dk) X.env x=pure x:=by intro _;rfl) (qU:ajo [a,fa] X.env=[(false,eval a X.env),(false,eval fa X.env)]:=by rfl) (kF:ajo [fa] X.env=[(false,eval fa X.env)]:=by rfl) :
  Fs X (.For (.Tuple ay k d3) (.Call (.Name "zip" p) [a,fa] [] dk) body [] pos) (r3 is ms b):=
 g5 (zu aH aI (Mi qM hm aq qU kF) (vT aI aY aG gh) ab aC) Vj
section
variable{X:aU}
abbrev sC:List String:=["int","bool","tuple","list","str"]
def MB(K:aS):List V->aw->c9->Prop:=λxs H Q=>∃x a ep di t,xs=[x,.ref a]/\dI K H a [.ty ep,.ty di]/\lQ K H x t/\ep∈sC/\di∈sC/\Q (.aE (iW t ep||iW t di)) H
omit [aF.a7]in
theorem SG(kt:tS X.K):js X (.builtin "isinstance") (MB X.K):=by
 intro zn s Y H xs us Q J bR h;obtain⟨x,a,ep,di,t,rfl,dH,ty,XN,sr,q⟩:=h;obtain⟨u,eu,rfl,bB,b_⟩:=vals2 bR;cases(show eu=ajU a from b_);obtain⟨its,Ez,⟨o,bg,aI,n,hd⟩,_⟩:=J.tuple dH;obtain⟨jm,gL,rfl,bq,b1⟩:=vals2 Ez;cases(show jm=amv ep from bq);cases(show gL=amv di from b1);obtain⟨dv,c3,ai1,fA⟩:=o;cases aI;cases hd;have e:W.kitAny X.K (.type t) [.type ep,.type di]=some (iW t ep||iW t di):=by
  have ao:W.kitOne X.K (.type t) (.type ep)=some (iW t ep):=kt.ans t ty.mem ep XN;have az:W.kitOne X.K (.type t) (.type di)=some (iW t di):=kt.ans t ty.mem di sr;unfold W.kitAny;rw[ao]
  cases iW t ep with
  |true=>rfl|false=>
   show W.kitAny X.K (.type t) [.type di]=_;unfold W.kitAny;rw[az];cases iW t di<;>rfl
 have fin:∀tk,ht X zn Y Q (.bool (iW t ep||iW t di)) { s with toks:=tk }:=λtk=>⟨.aE _,H,J.tok tk,rfl,q⟩
 cases ty with
 |aQ=>cases(show u=akB from bB);exact anr W.kitx_none J.fe akK bg e (λz=>nomatch z) fin
 |aE y=>cases(show u=al9 y from bB);exact anr W.kitx_bool J.fe akK bg e (λz=>nomatch z) fin
 |int i=>obtain⟨t,q⟩:=(show ∃t,u=amL i t from bB);cases q;exact anr W.kitx_int J.fe akK bg e (λz=>nomatch z) fin
 |str y=>obtain⟨t,q⟩:=(show ∃t,u=anc y t from bB);cases q;exact anr W.kitx_str J.fe akK bg e (λz=>nomatch z) fin
 |@lst a xs gy=>
  cases(show u=ajU a from bB);obtain⟨its,_,⟨o,gk,af,ah,_⟩,_⟩:=J.list gy;exact anr W.kitx_list J.fe ⟨o,af,ah⟩ bg e (λz=>nomatch z) fin
 |@tup a xs gy=>
  cases(show u=ajU a from bB);obtain⟨its,_,⟨o,af,ah,_⟩,_⟩:=J.tuple gy;exact anr W.kitx_tuple J.fe ⟨o,af,ah⟩ bg e (λz=>nomatch z) fin
end
def uv:List R->M R
 |[x,.v (.tup [.ty ep,.ty di])]=>match x.kind with
  |some t=>if ep∈sC/\di∈sC then pure (.v (.aE (iW t ep||iW t di)))else bad|none=>bad
 |_=>bad
def YG:jT K mg (MB K) uv:=fun O Y S ar H vs rs bP av Q st aB h q=>by
 unfold uv at h;split at h
 .rename_i x ep di
  obtain⟨v,u,rfl,ag,ba⟩:=Eu aB;obtain⟨a,ys,rfl,dH,Ac,bB,rfl,ao,Ad,b_,rfl,az,cI⟩:=ba;cases cI;cases(show Ac=.ty ep from ao);cases(show Ad=.ty di from az);split at h
  .rename_i t e
   by_cases aG:ep∈sC/\di∈sC
   .rw[if_pos aG]at h
    cases h;exact⟨v,a,ep,di,t,rfl,dH,R.Ku ag e,aG.1,aG.2,q O _ H (Go.refl _ _) st rfl trivial⟩
   .rw[if_neg aG]at h;cases h
  .cases h
 .cases h
end a0
namespace a0
open PySem PySem.Spec aF PyProof.Rows
variable[aF.a7]
def qX(t:aR->M Bool)(el:bp)(Y:aR):List (D×D)->M (List D)
 |[]=>pure []|d::ds=>do
  let b <-t ((Y.set 0 (.v d.1)).set 1 (.v d.2))
  if b=true then do
   let r <-el ((Y.set 0 (.v d.1)).set 1 (.v d.2))
   let x <-r.dat
   let xs <-qX t el Y ds
   pure (x::xs)
  else qX t el Y ds
def wK:List R->Option (List (D×D))
 |[x,y]=>match x.walk,y.walk with
  |some xs,some ys=>some (xs.zip ys)|_,_=>none
 |_=>none
@[simp] def ua(cap:List Nat)(ms:cV)(t:aR->M Bool)(el:bp)(Y:aR):M R:=do
 let rs <-ms Y
 match wK rs with
 |some ds=>do
  hR (ds.length<ajt)
  let xs <-qX t el (iP 2 cap Y) ds
  pure (.fr xs)
 |none=>bad
def ahg(h:wK rs=some ds):∃x y xs ys,rs=[x,y]/\x.walk=some xs/\y.walk=some ys/\ds=xs.zip ys:=by
 unfold wK at h;split at h
 .rename_i x y
  split at h
  .rename_i xs ys ao az
   cases h;exact⟨x,y,xs,ys,rfl,ao,az,rfl⟩
  .cases h
 .cases h
def ib.same{b:Bool}{K:aS}{H H':aw}(s:eE H H'){a:Addr}{ys:List V}(h:ib b K H a ys):ib b K H' a ys:=by
 cases b with
 |true=>exact s.wc h|false=>exact s.seq h
omit [aF.a7]in
theorem J9{t:aR->M Bool}(Y:aR):∀ds,qX t el Y ds=lz (λd=>some ((Y.set 0 (.v d.1)).set 1 (.v d.2))) t el ds
 |[]=>rfl| d::ds=>by unfold qX lz;rw[J9 Y ds]
def S8{K:aS}{mg:bt}{cap:List Nat}{ms:cV}{t:aR->M Bool}{el:bp}:∀ar H Q,fs K mg (ua cap ms t el) ar H Q->tw 2 cap (yr K (nH K mg ms)) (qF K 2 (jE [0,1])) (kW K mg t) (fs K mg el) ar H Q:=by
 rintro ar H Q ⟨O,Y,S,r,av,st,h,q⟩;obtain⟨rs,S1,af,h⟩:=M.inv h
 cases lZ:wK rs with
 |none=>rw[lZ]at h;cases h
 |some ds=>
  rw[lZ]at h;obtain⟨_,a6,ah,h⟩:=M.inv h;obtain⟨hlen,rfl⟩:=qy ah;obtain⟨xs,ia,bN,h⟩:=M.inv h;cases h;obtain⟨x,y,aji,Pf,rfl,ex,e7,rfl⟩:=ahg lZ;rw[J9]at bN;refine⟨O,Y,S,_,S1,st,af,λaL vs H1 g1 aT br nn=>?_⟩;obtain⟨v1,bB,rfl,a9,v2,b_,rfl,bA,re⟩:=br;cases re;obtain⟨bW,b5,us,rfl,s1,a1⟩:=z2 (H₀:=H) a9 nn.1 ex;obtain⟨bY,cv,ws,rfl,s2,a2⟩:=z2 (H₀:=H) bA nn.2.1 e7;refine⟨bW,bY,b5,cv,rfl,⟨us,s1.dH⟩,⟨ws,s2.dH⟩,Bm (aT.cj H) hlen (λH' s=>⟨us,ws,ib.same s s1.dH,ib.same s s2.dH,?_⟩) (λk d nN aj H' dX cM g' cc=>?_) bN λaj v H' g cc br nn=>q aj v H' (g1.cj.trans g) cc br (nn.back g1.same)⟩
  .rw[amX,a1.len,a2.len];omega
  .cases cM
   obtain⟨ao,az⟩:=amm.mp dX;obtain⟨u,jC,d9⟩:=(bj.go g' (a1.dr (k_ _))).get ao;obtain⟨v,ev,bR⟩:=(bj.go g' (a2.dr (k_ _))).get az;have bq:=ib.same g'.same s1.dH;have b1:=ib.same g'.same s2.dH;refine⟨⟨⟨us,u,bq,jC⟩,⟨ws,v,b1,ev⟩⟩,λx aM R jS eG=>?_⟩;obtain⟨u',fC,T,rfl,gg,rfl,su,mb⟩:=jS;have vX:=su us bq;rw[jC]at vX;cases vX;have vY:=mb ws b1;rw[ev]at vY;cases vY;have iQ:Go aj aj H' (upd H' T (.tup [u,v])):=Go.fz gg;exact⟨T,[u,v],rfl,dI.of dx,rfl,u,[v],rfl,v,[],rfl,rfl,eG _ _ iQ (((cc.fz gg).val (d9.go iQ)).val (bR.go iQ)) (((mP.refl _).set rfl).set rfl)⟩
section
variable{X:aU}{scope esc:Scope}{EN N:List Str}{cap:List Nat}{elt a fa:Expr}{ifs:List Expr}{pos d3 p dk p1 dG:Pos}{x y:Str}{t:aR->M Bool}{el:bp}{ms:cV}{k:Nat}
def SR(S:k2 esc scope EN N 2 cap)(qM:eC X "zip")(hm:X.mg "zip"=none)(aq:Al X [a,fa] ms)(ag:N[0]? = some x)(ba:N[1]? = some y)
  (iT:∀C aN s H,Loc (cw X scope N C aN s H).env.scope x/\(cw X scope N C aN s H).env.scope.names.lookup x=some .local) (qP:∀C aN s H,Loc (cw X scope N C aN s H).env.scope y/\(cw X scope N C aN s H).env.scope.names.lookup y=some .local)
  (bO:∀C aN s H,Am (cw X scope N C aN s H) ifs t) (ih:∀C aN s H,hI (cw X scope N C aN s H) elt el)
  (he:X.env.scope=esc:=by rfl) (hN:X.N=EN:=by rfl) (aI:X.calm=true:=by rfl) (aC:∀x,akc (.Call (.Name "zip" p) [a,fa] [] dk) X.env x=pure x:=by intro _;rfl)
  (qU:ajo [a,fa] X.env=[(false,eval a X.env),(false,eval fa X.env)]:=by rfl) (kF:ajo [fa] X.env=[(false,eval fa X.env)]:=by rfl)
  (l_:∀C aN s H,(ajQ [.Name x p1,.Name y dG] (cw X scope N C aN s H).env).length=2/\(ajQ [.Name x p1,.Name y dG] (cw X scope N C aN s H).env).findIdx? (·.1)=none/\
   (ajQ [.Name x p1,.Name y dG] (cw X scope N C aN s H).env).map (·.2)=alR (.Name x p1) (cw X scope N C aN s H).env::(ajQ [.Name y dG] (cw X scope N C aN s H).env).map (·.2)/\
   (ajQ [.Name y dG] (cw X scope N C aN s H).env).map (·.2)=alR (.Name y dG) (cw X scope N C aN s H).env::(ajQ [] (cw X scope N C aN s H).env).map (·.2):=by intros;exact⟨rfl,rfl,rfl,rfl⟩) :
  hI X (.ListComp elt [⟨.Tuple [.Name x p1,.Name y dG] k d3,.Call (.Name "zip" p) [a,fa] [] dk,ifs,0⟩] scope pos) (ua cap ms t el):=
 ee (D7 (wi:=yr X.K (nH X.K X.mg ms)) (g:=qF X.K 2 (jE [0,1])) (tt:=kW X.K X.mg t) (te:=fs X.K X.mg el) S (Mi qM hm aq qU kF)
  (λC aN s H=>vT aI (vU S.eb ag (iT C aN s H).1 (vU S.eb ba (qP C aN s H).1 Ea (l_ C aN s H).2.2.2 (.inr (qP C aN s H).2)) (l_ C aN s H).2.2.1 (.inr (iT C aN s H).2)) (l_ C aN s H).1 (l_ C aN s H).2.1) bO ih he hN aI aC) S8
end
end a0
namespace a0
open PySem PySem.Spec aF PyProof.Rows
def Su:ake "max"=some (.builtin "max"):=by decide +kernel
def kmk_max_key(a v:Value):argsOk "max" ⟨[a],[(ajG "key",v)]⟩:=by unfold argsOk;kernel_rfl
def ml(mf:bE)(d:D):Option (List Int):=match(mf [d]).run []with
 |.ok (.v (.tup bc)) []=>nums bc|_=>none
def j9(mf:bE)(b:D)(gj:List Int):List D->Option D
 |[]=>some b|d::ds=>match ml mf d with
  |some dN=>if g0 dN gj=true then j9 mf d dN ds else j9 mf b gj ds|none=>none
def vx(mf:bE):List D->Option D
 |d::ds=>match ml mf d with
  |some k=>j9 mf d k ds|none=>none
 |[]=>none
def xS(mf:bE)(x:R):M R:=match x.fo with
 |some ds=>match vx mf ds with
  |some r=>if ds.length<64 then pure (.v r)else bad|none=>bad
 |none=>bad
@[simp] def xu(mf:bE)(c2:bp)(Y:aR):M R:=do
 let x <-c2 Y
 xS mf x
def Ko{mf:bE}{k:List Int}(h:ml mf d=some k):∃bc,(mf [d]).run []=.ok (.v (.tup bc)) []/\nums bc=some k:=by
 unfold ml at h;split at h
 .rename_i bc e;exact⟨bc,e,h⟩
 .cases h
variable[aF.a7]
section
variable{X:aU}{zn:cX}{Y:aF.St}{H:aw}{s:ajp}{G:aw->Prop}{mf:bE}{f S it l:Addr}{k:Nat}{O:a4}
def next_item{xs:List V}{v:V}{E:cF}{A:ajM}(J:Inv X zn Y H1 s)(cu:dn X.K H1 l xs)(bI:xs[j]? = some v)(aN:gC X zn H1 it)(hit:s.heap.IsListIter it l j)(dE:A.handled=none) :
  wpAny (model X.prog X.w) A (alS (.ref it)) (λr s1=>∃u,r=some u/\RelV v u/\Inv X zn Y H1 s1/\s1.heap.IsListIter it l (j+1)) E s:=by
 obtain⟨us,bR,pl,_⟩:=J.list cu;have au:s.heap.IsList l us.toArray:=pl.isList;have hV:l≠it:=by
  rintro rfl;obtain⟨o,e,c,_⟩:=hit;obtain⟨o',cz,c',_⟩:=au;rw[e]at cz;cases cz;rw[c]at c';injection c' with z;exact absurd z (by decide)
 obtain⟨u,cx,d9⟩:=bR.get bI;have W:=aoo (prog:=X.prog) (w:=X.w) (A:=A) dE it l hV us.toArray;refine W.item j s _ _ (by have:=(ajs.mp cx).1;simpa using this) ⟨hit,au⟩ λu' h' EV en X0 od=>?_
 have e:some u'=some u:=by rw[<-cx];simpa using en.symm
 cases e;obtain⟨f0,f1,f2,fw,f4,gT⟩:=aN;exact⟨u,rfl,d9,J.turned (t':=EV) (λb o ab e=>od b o (by simpa using ab) e) f0 f1 fw f4 gT,X0.1⟩
def LI{xs:List V}{E:cF}{A:ajM}(J:Inv X zn Y H1 s)(cu:dn X.K H1 l xs)(bI:j=xs.length)(aN:gC X zn H1 it)(hit:s.heap.IsListIter it l j)(dE:A.handled=none) :
  wpAny (model X.prog X.w) A (alS (.ref it)) (λr s1=>r=none/\Inv X zn Y H1 s1) E s:=by
 obtain⟨us,bR,pl,_⟩:=J.list cu;have au:s.heap.IsList l us.toArray:=pl.isList;have hV:l≠it:=by
  rintro rfl;obtain⟨o,e,c,_⟩:=hit;obtain⟨o',cz,c',_⟩:=au;rw[e]at cz;cases cz;rw[c]at c';injection c' with z;exact absurd z (by decide)
 have W:=aoo (prog:=X.prog) (w:=X.w) (A:=A) dE it l hV us.toArray;have um:j=us.toArray.size:=by rw[ajB,bI,bR.length]
 rw[um]at hit;refine W.done s _ _ ⟨hit,au⟩ λh' EV od=>?_
 obtain⟨f0,f1,f2,fw,f4,gT⟩:=aN;exact⟨rfl,J.turned (t':=EV) (λb o ab e=>od b o (by simpa using ab) e) f0 f1 fw f4 gT⟩
def Kq{aL:a4}{v:V}{A:ajM}(fI:nR X k f G mf)(aB:cE k A.in1)(d6:k4 X.prog X.w X.K X.mg X.base A.in1 X.stack s H1)(J:Inv X zn Y H1 s)(fR:c5 aL H1)(o2:G H1)(bh:Rep X.K X.mg aL H1 d v)(d9:RelV v u)(hd:(mf [d]).run []=.ok (.v je) [])(aN:gC X zn H1 it)(hit:s.heap.IsListIter it l j) :
  wpAny (model X.prog X.w) A.in1 (call (.ref f) [u]) (λu' s2=>∃(bu:a4)(aM:aw)(fC:V),Inv X zn Y aM s2/\Go aL bu H1 aM/\c5 bu aM/\G aM/\Rep X.K X.mg bu aM je fC/\RelV fC u'/\gC X zn aM it/\s2.heap.IsListIter it l j) (λ_ _=>False) s:=by
 obtain⟨vM,xO,ci,xH⟩:=hit;have PI:Inv X (zn++ri [it] s.heap) Y H1 s:=J.pinned (λb ab=>by rw[ajH.mp ab];exact aN) λb ab=>by
  rw[ajH.mp ab];exact⟨vM,xO,λv z=>by rw[xH]at z;cases z⟩
 refine wpAny_call (alG (fI.2.2 A.in1 s H1 u v (λfC H'=>∃aj,Go aL aj H1 H'/\c5 aj H'/\Rep X.K X.mg aj H' je fC) aB d6 o2 d9 ?_) λr s2 a'=>?_)
 .refine⟨aL,[d],.v je,[],fR,gu.nil,⟨v,[],rfl,?_,rfl⟩,hd,λaj fC H' g cL br _=>⟨aj,g,cL,br⟩⟩
  cases d<;>first|exact bh|exact aj4 bh|skip
  obtain⟨x,zs,q,l,r⟩:=bh;exact⟨x,zs,q,l.dH,r⟩
 .cases r with
  |error e=>exact aj4 a'|ok a_=>
   cases a_ with
   |ret u'=>
    obtain⟨fC,aM,bU,bR,bu,g2,c1,b_⟩:=PI.after a';have pin:=bU.pin (it,vM) (akf _ (akf _ (by unfold ri;simp[xO])));exact⟨bu,aM,fC,bU.wy,g2,c1,fI.1 _ _ g2.same o2,b_,bR,⟨pin.2.1,aN.2⟩,⟨vM,pin.1,ci,xH⟩⟩
   |next=>exact aj4 a'
   |brk=>exact aj4 a'|cont=>exact aj4 a'
structure Pr(X:aU)(zn:cX)(Y:aF.St)(G:aw->Prop)(O:a4)(H:aw)(S it l:Addr)(j:Nat)(d:D)(gj:List Int)(aP:ajp):Prop where
 ex:∃aj H' v kv,Inv X zn Y H' aP/\Go O aj H H'/\c5 aj H'/\G H'/\H' S=some (.lst [v,kv])/\Rep X.K X.mg aj H' d v/\Rep X.K X.mg aj H' (.tup (gj.map D.int)) kv/\aj S=.dw/\gC X zn H' it/\aP.heap.IsListIter it l j
def w1(X:aU)(zn:cX)(Y:aF.St)(O:a4)(H:aw)(res:D)(u:Value)(aP:ajp):Prop:=
 ∃aj H' v,Inv X zn Y H' aP/\Go O aj H H'/\c5 aj H'/\Rep X.K X.mg aj H' res v/\RelV v u
def MK{K:aS}{mg:bt}{O:a4}{H:aw}{bc:List D}{gj:List Int}{v:V}(r:Rep K mg O H (.tup bc) v)(e:nums bc=some gj):Rep K mg O H (.tup (gj.map D.int)) v:=by
 obtain⟨a,ys,rfl,dH,bw⟩:=r;have:=sZ bw e;subst this;exact⟨a,_,rfl,dH,MI gj⟩
def ML{K:aS}{mg:bt}{O:a4}{H:aw}{gj:List Int}{v:V}(r:Rep K mg O H (.tup (gj.map D.int)) v):∃a,v=.ref a/\dI K H a (gj.map V.int):=by
 obtain⟨a,ys,rfl,dH,bw⟩:=r;have:∀(gj:List Int)(ys:List V),bj K mg O H (gj.map D.int) ys->ys=gj.map V.int:=by
  intro gj
  induction gj with
  |nil=>intro ys h;exact h|cons a t a8=>
   intro ys h;obtain⟨y,r,rfl,af,ah⟩:=h;rw[show y=V.int a from af,a8 _ ah];rfl
 rw[this gj ys bw]at dH;exact⟨a,rfl,dH⟩
def vals2{v kv:V}(h:Vals [v,kv] its):∃u kJ,its=[u,kJ]/\RelV v u/\RelV kv kJ:=by
 cases h with
 |cons bB b_=>cases b_ with
  |cons kP nE=>cases nE;exact⟨_,_,rfl,bB,kP⟩
def xn{H1:aw}{its:List Value}{v kv:V}(J:Inv X zn Y H1 s)(cu:H1 S=some (.lst zs))(gV:s.heap.get? S=some (aj3 "list" its.toArray Ba))(bR:RelV v u)(ji:RelV kv kJ) :
  Inv X zn Y (upd H1 S (.lst [v,kv])) { s with heap:=s.heap.update S (ajZ λ_=>#[u,kJ]) }:=by
 have s1:=akD s.heap S (ajZ λ_=>#[u,kJ]);obtain⟨ae,hU⟩:∃ae,(s.heap.update S (ajZ λ_=>#[u,kJ])).get? S=some (aj3 "list" #[u,kJ] ae):=⟨_,alv gV λ_=>#[u,kJ]⟩;refine J.write (x:=S) (e:=S) (t':=s.toks) (by rw[cu];trivial) (.inl rfl) (λb o ab e=>(s1.2 b ab).trans e) ⟨_,hU⟩ ⟨by rw[ajP];simp,[u,kJ],ae,.cons bR (.cons ji .nil),hU⟩
def Ho{H1:aw}{its:List Value}(J:Inv X zn Y H1 s)(cu:H1 S=some (.lst zs))(gV:s.heap.get? S=some (aj3 "list" its.toArray Ba)) :
  Inv X zn Y (upd H1 S (.lst [])) { s with heap:=s.heap.update S (ajZ λ_=>#[]) }:=by
 have s1:=akD s.heap S (ajZ λ_=>(#[]:Array Value));obtain⟨ae,hU⟩:∃ae,(s.heap.update S (ajZ λ_=>(#[]:Array Value))).get? S=some (aj3 "list" #[] ae):=⟨_,alv gV λ_=>#[]⟩;refine J.write (x:=S) (e:=S) (t':=s.toks) (by rw[cu];trivial) (.inl rfl) (λb o ab e=>(s1.2 b ab).trans e) ⟨_,hU⟩ ⟨ajN _,[],ae,.nil,hU⟩
def yy{h:Heap}(hV:S≠it)(hit:h.IsListIter it l j):(h.update S g).IsListIter it l j:=by
 obtain⟨vM,xO,ci,xH⟩:=hit;exact⟨vM,((akD h S g).2 it hV.symm).trans xO,ci,xH⟩
def xX(hV:S≠it)(aN:gC X zn H1 it):gC X zn (upd H1 S o) it:=⟨by rw[df hV.symm];exact aN.1,aN.2⟩
def ZM{res:D}(fI:nR X k f G mf)(aB:cE (k+1) X.A)(uY:H S=none)(jF:S≠it)(bw:bj X.K X.mg O H ds xs)(au:dn X.K H l xs) :
  ∀(r:List D)(j:Nat)(d:D)(gj:List Int)(aP:ajp),ds.drop j=r->Pr X zn Y G O H S it l j d gj aP->j<=ds.length->j9 mf d gj r=some res->
   al4 (model X.prog X.w) X.A (.builtin "max.loop" ⟨[.ref it,.ref f,.ref S],[]⟩) (λr aP=>∃u,r=.ok (.ret u)/\w1 X zn Y O H res u aP) aP:=by
 have l8:(toString "max"++toString ".loop":String)="max.loop":=by decide
 have dE:X.A.in1.handled=none:=aB.in1.hd;have ZC:=bw.len;intro r
 induction r with
 |nil=>
  intro j d gj aP n' B aW aY;cases aY;obtain⟨aL,H1,v,kv,bb,g1,fR,o2,cu,bh,ji,oF,aN,hit⟩:=B.ex;obtain⟨hsz,its,n,vals,gV⟩:=bb.bQ S _ cu;obtain⟨u,kJ,rfl,d9,v5⟩:=vals2 vals;have oc:j=xs.length:=by
   have:=congrArg akN n';rw[akw,ako]at this;omega
  refine alW ak6 ?_;rw[ale aj0 _];show wpAny _ X.A.in1 (alV (.ref S) >>= _) _ _ _;refine ajl (aku gV rfl ?_);show wpAny _ X.A.in1 (tryCatch (alS (.ref it)) _ >>= _) _ _ _;refine ajl (akW (aj6 (LI (E:=λ_ _=>False) bb (g1.same.seq au) oc aN hit dE) (λr s1 a'=>?_) λ_ _ dt=>dt.elim));obtain⟨rfl,bU⟩:=a';obtain⟨_,ly,di,E5,uV⟩:=bU.bQ S _ cu;show wpAny _ X.A.in1 (updateSeq S (λ_=>#[]) >>= _) _ _ _;refine ajl ?_;refine alX uV rfl (hz:=by rw[ajB,<-E5.length,ajP];simp) (ajl (ak5 (ajr ?_)));exact⟨u,rfl,aL,_,v,Ho bU cu uV,⟨oQ uY g1.same cu _,g1.own,g1.bJ⟩,fR.eg cu,bh.eg (by rw[oF];intro z;cases z) cu,d9⟩
 |cons c1 r a8=>
  intro j d gj aP n' B aW aY;unfold j9 at aY
  cases fS:ml mf c1 with
  |none=>rw[fS]at aY;cases aY
  |some dN=>
   rw[fS]at aY
   replace aY:(if g0 dN gj=true then j9 mf c1 dN r else j9 mf d gj r)=some res:=aY
   obtain⟨bc,hm,aG⟩:=Ko fS;obtain⟨aL,H1,v,kv,bb,g1,fR,o2,cu,bh,ji,oF,aN,hit⟩:=B.ex;obtain⟨hsz,its,n,vals,gV⟩:=bb.bQ S _ cu;obtain⟨u,kJ,rfl,d9,v5⟩:=vals2 vals;have hd2:ds[j]? = some c1:=by
    have:=congrArg (·[0]?) n';simpa using this
   have uT:ds.drop (j+1)=r:=by
    have:=congrArg (anj 1) n';simpa[al7]using this
   have oc:j+1<=ds.length:=(ajs.mp hd2).1;obtain⟨v2,CC,vZ⟩:=bw.get hd2;refine alW ak6 ?_;rw[ale aj0 _];show wpAny _ X.A.in1 (alV (.ref S) >>= _) _ _ _;refine ajl (aku gV rfl ?_);show wpAny _ X.A.in1 (tryCatch (alS (.ref it)) _ >>= _) _ _ _;refine ajl (akW (aj6 (next_item (E:=λ_ _=>False) bb (g1.same.seq au) CC aN hit dE) (λr s1 a'=>?_) λ_ _ dt=>dt.elim));obtain⟨gL,rfl,mx,bU,pD⟩:=a';show wpAny _ X.A.in1 (tryCatch (alf [gL] (call (.ref f) [gL])) _ >>= _) _ _ _;refine ajl (akW (akF (aj6 (Kq fI aB.in1 bU.uq.in1 bU fR o2 (vZ.go g1) mx hm aN pD) (λwu s3 a'=>?_) λ_ _ dt=>dt.elim)));obtain⟨eV,cP,Kz,dD,g3,m1,wW,Ew,Ex,xW,yh⟩:=a';have jc:=g3.same.at' _ _ cu;have nB:eV S=.dw:=(g3.own S (by rw[cu];intro z;cases z)).trans oF;obtain⟨_,CP,DD,vals3,l6⟩:=dD.bQ S _ jc;have zF:=MK Ew aG;obtain⟨eO,rfl,ad4⟩:=ML zF;obtain⟨a1,rfl,ad3⟩:=ML (ji.go g3);cases Ex;cases v5;obtain⟨t3,X_,aa0,_⟩:=dD.tuple ad4;obtain⟨t1,fy,p1,_⟩:=dD.tuple ad3;show wpAny _ X.A.in1 (tryCatch (alf [gL,.ref eO] (amE .Gt (.ref eO) (.ref a1) >>= _)) _ >>= _) _ _ _;refine ajl (akW (akF (ajl ((I5 aa0 p1 (intsAre_of X_) (intsAre_of fy) aB.in1.ae8 ?_)))));refine ajl (akF (akE ?_));refine ajl (ak5 (ajr ?_))
   by_cases ab:g0 dN gj=true
   .rw[if_pos ab]at aY
    simp only[ab,if_true];refine ajl ?_;refine alX l6 rfl (hz:=by rw[ajB,<-vals3.length,ajP];simp) (ajl (ak5 ?_));rw[l8];refine ajr ⟨aly aj0 _,a8 (j+1) c1 dN _ uT ?_ oc aY⟩;exact⟨eV,_,v2,.ref eO,xn (v:=v2) (kv:=.ref eO) dD jc l6 mx (show RelV (.ref eO) (.ref eO)from rfl),⟨oQ uY (g1.trans g3).same jc _,(g1.trans g3).own,(g1.trans g3).bJ⟩,m1.eg jc,fI.2.1 _ _ _ _ jc wW,dx,(vZ.go (g1.trans g3)).eg (by rw[nB];intro z;cases z) jc,zF.eg (by rw[nB];intro z;cases z) jc,nB,xX jF xW,yy jF yh⟩
   .rw[if_neg ab]at aY
    simp only[ab,if_false];refine ajl (ak5 ?_);rw[l8];refine ajr ⟨aly aj0 _,a8 (j+1) d gj _ uT ?_ oc aY⟩;exact⟨eV,cP,v,.ref a1,dD,g1.trans g3,m1,wW,jc,bh.go g3,ji.go g3,nB,xW,yh⟩
theorem ZL{E:cF}(J:Inv X zn Y H s)(cL:c5 O H)(bw:bj X.K X.mg O H ds xs)(au:dn X.K H l xs)(fI:nR X k f G mf)(uB:G H)(aB:cE (k+1) X.A)(hm:vx mf ds=some res) :
  wpAny (model X.prog X.w) X.A (call (.builtin "max") [.ref l] [(ajG "key",.ref f)]) (w1 X zn Y O H res) E s:=by
 have l8:(toString "max"++toString ".loop":String)="max.loop":=by decide
 have dE:X.A.in1.handled=none:=aB.in1.hd
 cases ds with
 |nil=>cases hm
 |cons d ds=>
  replace hm:(match ml mf d with|some k=>j9 mf d k ds|none=>none)=some res:=hm
  cases fS:ml mf d with
  |none=>rw[fS]at hm;cases hm
  |some dN=>
   rw[fS]at hm;obtain⟨bc,ax,aG⟩:=Ko fS;obtain⟨us,bR,pl,_⟩:=J.list au;have fJ:s.heap.IsList l us.toArray:=pl.isList;refine kmk_tree PySem.F.kind_max PySem.F.plain_max PySem.F.entry_max (kmk_max_key _ _) ?_;show wpAny _ X.A.in1 (alr "max" ["key","default"] 0 ⟨[],[(ajG "key",.ref f)]⟩ >>= _) _ _ s;refine ajl (wpAny_of_eq (show alr "max" ["key","default"] 0 ⟨[],[(ajG "key",.ref f)]⟩=pure [some (.ref f),none]from rfl) ?_);refine ajl (ajr ?_);refine ajl (alg fJ ?_);refine ajl (amf ?_ (ajN _));rw[l8];have bb:Inv X zn Y H { s with heap:=s.heap.push { cls:=.type "list_iterator",data:=.fields #[.ref l,.int 0 0] } }:=J.kept (t':=s.toks) λb o e=>ajn _ e
   have m8:(s.heap.push { cls:=.type "list_iterator",data:=.fields #[.ref l,.int 0 0] }).get? s.heap.objs.size=some { cls:=.type "list_iterator",data:=.fields #[.ref l,.int 0 0] }:=ajA _ rfl;have hsz:(s.heap.push { cls:=.type "list_iterator",data:=.fields #[.ref l,.int 0 0] }).objs.size=s.heap.objs.size+1:=anL ..;generalize Xy:s.heap.push { cls:=.type "list_iterator",data:=.fields #[.ref l,.int 0 0] }=af at *;have n4:H af.objs.size=none:=bb.bQ.fresh (ajq _);have jF:af.objs.size≠s.heap.objs.size:=by rw[hsz];omega
   have bU:Inv X zn Y (upd H af.objs.size (.lst [])) { s with heap:=af.push (aj3 "list" #[] 0) }:=
    bb.laid (t':=s.toks) (λb o e=>ajn _ e) (ajq _) ⟨ajN _,[],0,.nil,ajA _ rfl⟩
   have aN:gC X zn (upd H af.objs.size (.lst [])) s.heap.objs.size:=J.pw (ajq _) (by rw[df jF.symm];exact J.bQ.fresh (ajq _));have hit:(af.push (aj3 "list" #[] 0)).IsListIter s.heap.objs.size l 0:=⟨_,ajn _ m8,rfl,rfl⟩;have go2:Go O (fV O af.objs.size .dw) H (upd H af.objs.size (.lst [])):=Go.new n4;have Bt:c5 (fV O af.objs.size .dw) (upd H af.objs.size (.lst [])):=cL.new n4;have p2:fV O af.objs.size .dw af.objs.size=.dw:=nJ;have qI:upd H af.objs.size (.lst []) af.objs.size=some (.lst []):=dx;have gV:(af.push (aj3 "list" #[] 0)).get? af.objs.size=some (aj3 "list" #[] 0):=ajA _ rfl;refine ajr ⟨aly aj0 _,?_⟩;generalize af.push (aj3 "list" #[] 0)=ah at *;generalize af.objs.size=S at *;generalize s.heap.objs.size=it at *;generalize fV O S .dw=bu at *;generalize upd H S (.lst [])=aM at *;obtain⟨v,bI,bh⟩:=bw.get (i:=0) (d:=d) rfl;refine alW ak6 ?_;rw[ale aj0 _];show wpAny _ X.A.in1 (alV (.ref S) >>= _) _ _ _;refine ajl (aku gV rfl ?_);show wpAny _ X.A.in1 (tryCatch (alS (.ref it)) _ >>= _) _ _ _;refine ajl (akW (aj6 (next_item (E:=λ_ _=>False) bU (go2.same.seq au) bI aN hit dE) (λr s1 a'=>?_) λ_ _ dt=>dt.elim));obtain⟨gL,rfl,mx,dD,pD⟩:=a';show wpAny _ X.A.in1 (tryCatch (alf [gL] (call (.ref f) [gL])) _ >>= _) _ _ _;refine ajl (akW (akF (aj6 (Kq fI aB.in1 dD.uq.in1 dD Bt (fI.1 _ _ go2.same uB) (bh.go go2) mx ax aN pD) (λwu s3 a'=>?_) λ_ _ dt=>dt.elim)));obtain⟨eV,cP,Kz,i8,g3,m1,wW,Ew,Ex,xW,yh⟩:=a';have jc:=g3.same.at' _ _ qI;have nB:eV S=.dw:=(g3.own S (by rw[qI];intro z;cases z)).trans p2;obtain⟨_,CP,DD,vals3,l6⟩:=i8.bQ S _ jc;have zF:=MK Ew aG;show wpAny _ X.A.in1 (updateSeq S (λ_=>#[gL,wu]) >>= _) _ _ _;refine ajl ?_;refine alX l6 rfl (hz:=by rw[ajB,<-vals3.length,ajP];simp) ?_;rw[l8];refine ajr ⟨aly aj0 _,alG (ZM (zn:=zn) (Y:=Y) fI aB n4 jF bw au ds 1 d dN _ rfl ?_ (by simp) hm) λr aP a'=>?_⟩
   .exact⟨eV,_,v,Kz,xn i8 jc l6 mx Ex,⟨oQ n4 (go2.trans g3).same jc _,(go2.trans g3).own,(go2.trans g3).bJ⟩,m1.eg jc,fI.2.1 _ _ _ _ jc wW,dx,(bh.go (go2.trans g3)).eg (by rw[nB];intro z;cases z) jc,zF.eg (by rw[nB];intro z;cases z) jc,nB,xX jF xW,yy jF yh⟩
   .obtain⟨u,rfl,a'⟩:=a'
    exact a'
end
section
variable{X:aU}{k:Nat}{e:Expr}{c2:bp}{p pos kp:Pos}{je:Expr}{mf:bE}{G:Addr->aw->Prop}
def SS(aY:eC X "max")(hm:X.mg "max"=none)(aB:cE (k+1) X.A)(aq:hI X e c2)
  (dy:∀(zn:cX)(s:ajp)(Y:aF.St)(O:a4)(H:aw),Inv X zn Y H s->c5 O H->
   wpAny (model X.prog X.w) X.A (eval je X.env) (λu aP=>∃(f:Addr)(H':aw)(G:aw->Prop),u=.ref f/\Inv X zn Y H' aP/\Go O O H H'/\c5 O H'/\G H'/\nR X k f G mf) X.dU s)
  (he:ajS pos (ajo [e] X.env)=(false,eval e X.env)::ajS pos (ajo [] X.env):=by rfl)
  (aC:ajo [e] X.env=(false,eval e X.env)::ajo [] X.env:=by rfl)
  (iU:(ajS pos (ajo [e] X.env)).any (·.1)=false:=by rfl) :
  hI X (.Call (.Name "max" p) [e] [⟨some (ajG "key"),je,kp⟩] pos) (xu mf c2):=by
 rintro zn s Y H Q J ⟨O,wN,S,r,av,st,h,q⟩;obtain⟨x,S1,af,h⟩:=M.inv h;obtain⟨ds,res,oa,XK,jb,rfl,rfl⟩:∃ds res,x.fo=some ds/\vx mf ds=some res/\ds.length<64/\r=.v res/\S1=av:=by
  unfold xS at h;split at h
  .rename_i ds ao
   split at h
   .rename_i res az
    by_cases c:ds.length<64
    .rw[if_pos c]at h
     cases h;exact⟨ds,res,ao,az,c,rfl,rfl⟩
    .rw[if_neg c]at h;cases h
   .cases h
  .cases h
 refine akS (q0 J aY hm Su ?_);refine callWith_kw ?_ he iU rfl rfl;refine bX ((zp aq D5 aC) pos zn s Y H (λvs H1=>∃v aL,vs=[v]/\Go O aL H H1/\cy X.K X.mg aL wN S1 Y H1/\eW X.K X.mg aL H1 x v) J ⟨O,wN,S,x,S1,st,af,λaL v H1 g1 aT br nn=>⟨v,aL,rfl,g1,aT,br⟩⟩) λus s1 aX=>?_
 obtain⟨vs,H1,bb,bB,v,aL,ev,g1,aT,br⟩:=aX;subst ev;obtain⟨l,ys,rfl,au,bw⟩:=R.ni br oa;obtain⟨u,rfl,d9⟩:=vals1 bB;cases d9;refine wpAny_evalAll_cons (ajl (bX (dy zn s1 Y aL H1 bb aT.cg) λu s2 ax=>ajl (anz (ajr ?_))));obtain⟨f,aM,G,rfl,bU,g2,c1,BY,fI⟩:=ax;refine wpAny_evalAll_nil ?_;show wpAny _ _ (call (.builtin "max") [.ref l] [(ajG "key",.ref f)]) _ _ _;refine bX (ZL bU c1 (bw.go g2) (g2.same.seq au) fI BY aB XK) λu s3 aX=>?_
 obtain⟨eV,cP,v,dD,g3,m1,Es,EA⟩:=aX;exact⟨v,cP,dD,EA,q eV _ cP (g1.trans (g2.trans g3)) (aT.go (g2.trans g3) m1) Es trivial⟩
def SU{c P:Addr}{q p1:Str}{params:amr}{body:Expr}{scope:Scope}{j8:Pos}{N:List Str}{m:bp}(aY:eC X "max")(hm:X.mg "max"=none)(aB:cE (k+3) X.A)(L:mT X.K c P q)(B:kk X.base X.mg)(m':X.env.code=.ref c)
  (a':X.env.qual++ajG "<lambda>"=q) (Sc:cf N [p1] scope)
  (l5:∀(c:Addr)(pm hi u:Value),alF (W.kla_fn (ajG "<lambda>") q params body scope [] pm (.ref c) hi) ⟨[u],[]⟩=pure [(p1,u)])
  (ab:∀(f c:Addr)(A:ajM)(s:ajp)(H:aw),cE k (A.deeper (al5 q scope s.heap.objs.size f (.ref c)))->hI (hj eM X.prog X.w X.K X.mg X.base N q scope f (.ref c) A X.stack s H i7).gI body m)
  (aq:hI X e c2) (n_:anM params X.env=([],[]):=by rfl) (jG:alU scope X.env=pure []:=by rfl)
  (he:ajS pos (ajo [e] X.env)=(false,eval e X.env)::ajS pos (ajo [] X.env):=by rfl)
  (aC:ajo [e] X.env=(false,eval e X.env)::ajo [] X.env:=by rfl)
  (iU:(ajS pos (ajo [e] X.env)).any (·.1)=false:=by rfl) :
  hI X (.Call (.Name "max" p) [e] [⟨some (ajG "key"),.Lambda params body scope j8,kp⟩] pos) (xu (fnOf 1 N.length (bG m)) c2):=
 SS (k:=k+1) aY hm (aB.mono (by omega)) aq (λzn s Y O H J cL=>bX (KO J cL L B m' a' n_ jG) λu aP ⟨f,c',pm,hi,H',jC,h7,g',d',nQ⟩=>
  ⟨f,H',_,jC,h7,g',d',nQ,KP Sc (l5 c' pm hi) (ab f c')⟩) he aC iU
end
end a0
namespace a0
open PySem PySem.Spec aF PyProof.Rows
variable[aF.a7]
section
variable{X:aU}{scope esc:Scope}{EN N:List Str}{cap:List Nat}{elt a fa:Expr}{ifs:List Expr}{pos d3 p dk p1 dG:Pos}{x y:Str}{t:aR->M Bool}{el:bp}{ms:cV}{k:Nat}
def afv(S:k2 esc scope EN N 2 cap)(qM:eC X "zip")(hm:X.mg "zip"=none)(aq:gD X [a,fa] ms)(ag:N[0]? = some x)(ba:N[1]? = some y)
  (iT:∀C aN s H,Loc (cw X scope N C aN s H).env.scope x/\(cw X scope N C aN s H).env.scope.names.lookup x=some .local) (qP:∀C aN s H,Loc (cw X scope N C aN s H).env.scope y/\(cw X scope N C aN s H).env.scope.names.lookup y=some .local)
  (bO:∀C aN s H,pe (cw X scope N C aN s H) ifs t) (ih:∀C aN s H,bk (cw X scope N C aN s H) elt el)
  (he:X.env.scope=esc:=by rfl) (hN:X.N=EN:=by rfl) (aI:X.calm=true:=by rfl) (aC:∀x,akc (.Call (.Name "zip" p) [a,fa] [] dk) X.env x=pure x:=by intro _;rfl)
  (qU:ajo [a,fa] X.env=[(false,eval a X.env),(false,eval fa X.env)]:=by rfl) (kF:ajo [fa] X.env=[(false,eval fa X.env)]:=by rfl)
  (l_:∀C aN s H,(ajQ [.Name x p1,.Name y dG] (cw X scope N C aN s H).env).length=2/\(ajQ [.Name x p1,.Name y dG] (cw X scope N C aN s H).env).findIdx? (·.1)=none/\
   (ajQ [.Name x p1,.Name y dG] (cw X scope N C aN s H).env).map (·.2)=alR (.Name x p1) (cw X scope N C aN s H).env::(ajQ [.Name y dG] (cw X scope N C aN s H).env).map (·.2)/\
   (ajQ [.Name y dG] (cw X scope N C aN s H).env).map (·.2)=alR (.Name y dG) (cw X scope N C aN s H).env::(ajQ [] (cw X scope N C aN s H).env).map (·.2):=by intros;exact⟨rfl,rfl,rfl,rfl⟩) :
  bk X (.ListComp elt [⟨.Tuple [.Name x p1,.Name y dG] k d3,.Call (.Name "zip" p) [a,fa] [] dk,ifs,0⟩] scope pos) (ua cap ms t el):=
 ⟨SR S qM hm aq.un ag ba iT qP (λC aN s H=>(bO C aN s H).un) (λC aN s H=>(ih C aN s H).un) he hN aI aC qU kF l_⟩
end
def afY{X:aU}{pos d3:Pos}{is:List Nat}{ay:List Expr}{k:Nat}{p dk:Pos}{a fa:Expr}{ms:cV}{body:List Stmt}{b:a3}(aH:anf (model X.prog X.w) X.A X.env X.dU)(aI:X.calm=true)(qM:eC X "zip")(hm:X.mg "zip"=none)(aq:gD X [a,fa] ms)(aY:lP X ay (jE is))(ab:f5 X body b)
  (aG:(ajQ ay X.env).length=is.length:=by rfl) (gh:(ajQ ay X.env).findIdx? (·.1)=none:=by rfl)
  (aC:∀x,akc (.Call (.Name "zip" p) [a,fa] [] dk) X.env x=pure x:=by intro _;rfl) (qU:ajo [a,fa] X.env=[(false,eval a X.env),(false,eval fa X.env)]:=by rfl) (kF:ajo [fa] X.env=[(false,eval fa X.env)]:=by rfl) :
  fj X (.For (.Tuple ay k d3) (.Call (.Name "zip" p) [a,fa] [] dk) body [] pos) (r3 is ms b):=⟨Tb aH aI qM hm aq.un aY ab.un aG gh aC qU kF⟩
section
variable{X:aU}{k:Nat}{e:Expr}{c2:bp}{p pos kp:Pos}
def afz{c P:Addr}{q p1:Str}{params:amr}{body:Expr}{scope:Scope}{j8:Pos}{N:List Str}{m:bp}(aY:eC X "max")(hm:X.mg "max"=none)(aB:cE (k+3) X.A)(L:mT X.K c P q)(B:kk X.base X.mg)(m':X.env.code=.ref c)
  (a':X.env.qual++ajG "<lambda>"=q) (Sc:cf N [p1] scope)
  (l5:∀(c:Addr)(pm hi u:Value),alF (W.kla_fn (ajG "<lambda>") q params body scope [] pm (.ref c) hi) ⟨[u],[]⟩=pure [(p1,u)])
  (ab:∀(f c:Addr)(A:ajM)(s:ajp)(H:aw),cE k (A.deeper (al5 q scope s.heap.objs.size f (.ref c)))->bk (hj eM X.prog X.w X.K X.mg X.base N q scope f (.ref c) A X.stack s H i7).gI body m)
  (aq:bk X e c2) (n_:anM params X.env=([],[]):=by rfl) (jG:alU scope X.env=pure []:=by rfl)
  (he:ajS pos (ajo [e] X.env)=(false,eval e X.env)::ajS pos (ajo [] X.env):=by rfl)
  (aC:ajo [e] X.env=(false,eval e X.env)::ajo [] X.env:=by rfl)
  (iU:(ajS pos (ajo [e] X.env)).any (·.1)=false:=by rfl) :
  bk X (.Call (.Name "max" p) [e] [⟨some (ajG "key"),.Lambda params body scope j8,kp⟩] pos) (xu (fnOf 1 N.length (bG m)) c2):=
 ⟨SU aY hm aB L B m' a' Sc l5 (λf c A s H aB=>(ab f c A s H aB).un) aq.un n_ jG he aC iU⟩
end
omit [aF.a7]in
section
open d0
variable{prog:ajF}{w:World}{A:ajM}{E:cF}{s:ajp}
omit [aF.a7]in
theorem Vu{t cN:Addr}{items:Array Value}{ha hb:Value}{lo aA:Option Int}{Q:cF}(bO:IsTup s.heap t items)(aC:s.heap.IsSliceOf cN ha hb .none)(pl:amT ha lo)(pu:amT hb aA)
  (hw:cR items.size 0 lo=0/\cR items.size items.size aA=items.size)
  (h:Q (.ref t) s):wpAny (model prog w) A (amw (.ref t) (.ref cN)) Q E s:=by
 obtain⟨os,qR,ye,oa⟩:=id aC;have B':s.TypeIs (.ref cN) "slice":=⟨os,qR,ye⟩;unfold amw
 try with_reducible refine akF ?_
 first|refine ajl (ajr ?_)|skip
 refine ajl (wpAny_sequenceKey bO.typeIs (by decide) ?_);refine ajl (akX (name:=ajG "__getitem__") bO.typeIs akz
  (alH akz bO.typeIs entry_tuple_getitem ?_ (args_tuple_getitem _ _)))
 show wpAny _ _ (anw (.ref t) >>= _) _ _ s;refine ajl (tupleItemsOf_ bO ?_);refine ajl (wpAny_typeOf B' ?_);rw[if_pos (by decide)];refine ajl (N9 aC pl pu ?_);rw[hw.1,hw.2];show wpAny _ _ (if((((0:Nat):Int))==0&&(1:Int)==1&&(items.size-0)==items.size)=true then _ else _) _ _ s;rw[if_pos (by simp)];refine ajl (m:=Builtin.Tuple.tupleIsExact _) (ajl (wpAny_typeOf bO.typeIs (ajr ?_)));rw[if_pos (by decide)];refine ajl (amW ?_)
 first
  |exact ajl (ajr (ajr ⟨_,rfl,ajr h⟩))
  |exact ajl (ajr ⟨_,rfl,ajr h⟩)
  |exact ajr ⟨_,rfl,ajr h⟩
omit [aF.a7]in
omit [aF.a7]in
omit [aF.a7]in
end
def ab9(K:aS):V->Option Int->Option Int->aw->c9->Prop:=λx lo aA H Q=>∃a xs,x=.ref a/\dI K H a xs/\(d0.cR xs.length 0 lo=0/\d0.cR xs.length xs.length aA=xs.length)/\Q (.ref a) H
omit [aF.a7]in
theorem adT:pa X (ab9 X.K):=by
 intro zn s Y H x v ha hb lo aA cN Q J a9 aC pl pu h;obtain⟨a,xs,rfl,ag,hw,q⟩:=h;cases a9;obtain⟨its,r,bO,hz⟩:=J.tuple ag;have hlen:its.toArray.size=xs.length:=by rw[ajB];exact r.length.symm
 refine⟨"tuple",_,akz.lookup,bO.typeIs,?_⟩;exact Vu bO aC pl pu (by rw[hlen];exact hw) ⟨.ref a,H,J,rfl,q⟩
def DO(x:R)(lo aA:Option Int):M R:=
 match x with
 |.v (.tup xs)=>pure (.v (.tup (cutD xs lo aA)))|_=>bad
@[simp] def Bd(a:bp)(lo aA:o5)(Y:aR):M R:=do
 let x <-a Y
 let l <-lo Y
 let h <-aA Y
 DO x l h
def Tc{α:Type}{xs:List α}{lo aA:Option Int}(h:d0.cR xs.length 0 lo=0/\d0.cR xs.length xs.length aA=xs.length):cutD xs lo aA=xs:=by
 unfold cutD;rw[h.1,h.2,List.drop_zero,Nat.sub_zero,amD (ajq _)]
section
variable{X:aU}{e st:Expr}{m:bp}{lo aA:Option Expr}{pW vy:o5}{pos dG p:Pos}
theorem afG(he:bk X e m)(au:rX X lo pW)(cx:rX X aA vy):bk X (.Subscript e (.Slice lo aA none dG) pos) (Bd m pW vy):=⟨ee (Md (adT.or N8) he.un au.un cx.un) λar H Q aX=>by
 obtain⟨O,Y,S,r,av,st,h,q⟩:=aX;obtain⟨x,S1,af,aq⟩:=M.inv h;clear h;obtain⟨l,a6,ah,ab⟩:=M.inv aq;clear aq;obtain⟨u,ia,bN,h⟩:=M.inv ab;clear ab;refine⟨O,Y,S,x,S1,st,af,λaL f_ H1 g1 aT a9 bo=>?_⟩;refine⟨aL,Y,S1,l,a6,aT,ah,λbu aM g2 cK=>?_⟩;refine⟨bu,Y,a6,u,ia,cK,bN,λeV cP g3 f9=>?_⟩;have g:=(g1.trans g2).trans g3;have zG:=a9.go (g2.trans g3);unfold DO at h;split at h
 .rename_i xs
  cases h;obtain⟨a,ys,rfl,b5,bw⟩:=zG
  by_cases c:d0.cR xs.length 0 l=0/\d0.cR xs.length xs.length u=xs.length
  .refine .inl ⟨a,ys,rfl,b5,by rw[bw.len];exact c,?_⟩
   rw[Tc c]at q;exact q eV _ _ g f9 ⟨a,ys,rfl,b5,bw⟩ trivial
  .exact .inr ⟨a,ys,rfl,b5,by rw[bw.len];exact c,λp aH=>q eV _ _ (g.trans (Go.fz aH)) (f9.fz aH) ⟨p,_,rfl,dI.of dx,(bw.cut l u).go (Go.fz aH)⟩ trivial⟩
 .cases h⟩
end
omit [aF.a7]in
@[simp] theorem air{l h:Option Int}:DO (.v (.tup xs)) l h=pure (.v (.tup (cutD xs l h))):=rfl
end a0
namespace a0
open PySem PySem.Spec aF
def wJ(m:ed):aR->N Bool:=λY=>do
 let r <-m Y
 r.nI.up
def wI(a:aR->N Bool):aR->N Bool:=λY=>do
 let t <-a Y
 pure (!t)
def Ab(a b:aR->N Bool):aR->N Bool:=λY=>do
 let t <-a Y
 if t=true then pure true else b Y
variable[aF.a7]
section
variable{X:aU}{o e i f value a b:Expr}{ay rest:List Expr}{c:Str}{ns:List Str}{mo mk:bp}{ms:cV}{mv mI rI:ed}{b3 cU:aR->N Bool}{pos pos' apos dk vd:Pos}{g:List D->List R->M (R×List D)}{r:V->List V->aw->c9->Prop}{name:Str}{id:String}
theorem agI(T:oY X.K X.mg c ns){f:Str}(hf:f∈ns)(bg:bk X o mo)(bI:d_ X value mv)(aC:akP value (some (.Attribute o f pos')) pos.line X.env=pure false:=by rfl):gQ X (.Assign [.Attribute o f pos'] value pos) (eZ c f mo mv):=⟨g5 (abL bg.un bI.un aC) λD ar H aX=>by
 obtain⟨O,Y,S,a_,av,st,h,q⟩:=aX;obtain⟨r,S1,af,aq⟩:=N.inv h;clear h;obtain⟨d,a6,ah,ab⟩:=N.inv aq;clear aq;obtain⟨x,ia,bN,aI⟩:=N.inv ab;clear ab;obtain⟨bC,hx,dz,h⟩:=N.inv aI;clear aI;refine⟨O,Y,S,r,S1,st,af,λaL v H1 g1 aT br nn=>?_⟩;obtain⟨bh,rfl⟩:=pn (H₀:=H) br nn ah;obtain rfl:=(mo Y).ec _ _ _ bN;refine⟨cj H aL,Y,_,x,_,(aT.cj H).s3,bN,λbu f_ aM g2 cK a9 bo=>?_⟩;have ER:=(aT.cj H).go g2 cK.cg;obtain⟨n,b,rfl,rfl,aG,sn,ho⟩:=tb cK a9 dz;obtain rfl:=(gm (.v (.ref n))).ec _ _ _ dz;split at h
 .rename_i c' aZ
  split at h
  .rename_i qL
   obtain⟨rfl,B8⟩:=qL;cases h;obtain⟨C,b8,jD,d7,ci,iu⟩:=ho;obtain⟨lL,ao,az,_,e6⟩:=T.ex;cases ao.symm.trans ci.1;refine⟨b,C,b8,jD,rfl,d7,az,e6 f hf,by rw[iu.len];exact B8,?_⟩;obtain⟨iJ,dj⟩:=ER.write (u':=.ins C b8 (ir f v jD)) (o:=.bC c' (iI f d aZ)) aG d7 (by rintro(⟨_,z⟩|⟨_,_,z⟩)<;>cases z) (by intro _ z;cases z) (by intro _ z;cases z) λk=>
    ⟨C,b8,_,dx,ci,(Mr (f:=f) (v:=v) jD).symm▸d5.iI f (k _ _ (Rep.go g2 bh)) ⟨iu.1,iu.2.imp k⟩⟩
   exact q bu ar _ ((g1.cj.trans g2.dM).trans iJ).eQ dj
  .cases h
 .cases h⟩
theorem agJ(cx:X.A.units+64<cLine)(bg:bk X o mo)(ax:bk X i mk)(bI:d_ X value mv)(aC:akP value (some (.Subscript o i pos')) pos.line X.env=pure false:=by rfl):gQ X (.Assign [.Subscript o i pos'] value pos) (nK mo mk mv):=⟨g5 (Ml (by omega) bg.un ax.un bI.un aC) λD ar H aX=>by
 obtain⟨O,Y,S,a_,av,st,h,q⟩:=aX;obtain⟨r,S1,af,aq⟩:=N.inv h;clear h;obtain⟨d,a6,ah,ab⟩:=N.inv aq;clear aq;obtain⟨x,ia,bN,aI⟩:=N.inv ab;clear ab;obtain⟨y,rU,fb,hd⟩:=N.inv aI;clear aI;obtain⟨bC,hx,dz,h⟩:=N.inv hd;clear hd;refine⟨O,Y,S,r,S1,st,af,λaL v H1 g1 aT br nn=>?_⟩;obtain⟨bh,rfl⟩:=pn (H₀:=H) br nn ah;obtain rfl:=(mo Y).ec _ _ _ bN;obtain rfl:=(mk Y).ec _ _ _ fb;refine⟨cj H aL,Y,_,x,_,(aT.cj H).s3,bN,λbu f_ aM g2 cK a9 bo=>?_⟩;refine⟨bu,Y,_,y,_,cK,fb,λeV qd cP g3 f9 bA DJ=>?_⟩;have uC:=g2.trans g3;have aeb:=(aT.cj H).go uC f9.cg;obtain⟨n,b,rfl,rfl,aG,sn,ho⟩:=tb f9 (a9.go g3) dz;obtain rfl:=(gm (.v (.ref n))).ec _ _ _ dz;split at h
 .rename_i ai dN
  split at h
  .rename_i key fS
   split at h
   .rename_i B8
    cases h;obtain⟨dA,d7,iu⟩:=ho;obtain rfl:=CY (show Rep X.K X.mg eV cP dN qd from bA) fS;refine⟨b,_,rfl,oZ.k (k:=key) d7 (by rw[iu.len];exact eS (akG B8)),?_⟩;obtain⟨iJ,dj⟩:=aeb.write (u':=.fl (putK dA key v)) (o:=.f6 (fm ai key d)) aG d7 (by rintro(⟨_,z⟩|⟨_,_,z⟩)<;>cases z) (by intro _ z;cases z) (by intro _ z;cases z) λk=>
     ⟨_,dx,d5.put key (k _ _ (Rep.go uC bh)) ⟨iu.1,iu.2.imp k⟩⟩
    exact q eV ar _ ((g1.cj.trans uC.dM).trans iJ).eQ dj
   .cases h
  .cases h
 .cases h⟩
theorem agL{lI}(cx:X.A.units+64<cLine)(bg:bk X o mo)(ax:gD X ay ms)(bI:d_ X value mv)(aC:akP value (some (.Subscript o (.Tuple ay lI vd) pos')) pos.line X.env=pure false:=by rfl):gQ X (.Assign [.Subscript o (.Tuple ay lI vd) pos'] value pos) (wD mo ms mv):=⟨g5 (Ml (by omega) bg.un (D9 ax.un) bI.un aC) λD ar H aX=>by
 obtain⟨O,Y,S,a_,av,st,h,q⟩:=aX;obtain⟨r,S1,af,aq⟩:=N.inv h;clear h;obtain⟨d,a6,ah,ab⟩:=N.inv aq;clear aq;obtain⟨x,ia,bN,aI⟩:=N.inv ab;clear ab;obtain⟨rs,rU,fb,hd⟩:=N.inv aI;clear aI;obtain⟨bC,hx,dz,h⟩:=N.inv hd;clear hd;refine⟨O,Y,S,r,S1,st,af,λaL v H1 g1 aT br nn=>?_⟩;obtain⟨bh,rfl⟩:=pn (H₀:=H) br nn ah;obtain rfl:=(mo Y).ec _ _ _ bN;obtain rfl:=(ms Y).ec _ _ _ fb;refine⟨cj H aL,Y,_,x,_,(aT.cj H).s3,bN,λbu f_ aM g2 cK a9 bo=>?_⟩;refine⟨bu,Y,_,rs,_,cK,fb,λeV vs cP g3 f9 ji LK=>?_⟩;have uC:=g2.trans g3;obtain⟨n,b,rfl,rfl,aG,sn,ho⟩:=tb f9 (a9.go g3) dz;obtain rfl:=(gm (.v (.ref n))).ec _ _ _ dz;split at h
 .rename_i ai key fS
  split at h
  .rename_i qL
   cases h;have ev:=CZ fS ji;refine⟨akG (eS (by rw[gq.len ji];exact qL.1)),λp aH=>?_⟩;have lh:=uC.trans (Go.fz (O:=eV) (u:=.tup vs) aH);have aec:=(aT.cj H).go lh (f9.fz (u:=.tup vs) aH).cg;obtain⟨dA,d7,iu⟩:=ho;have I_:upd cP p (.tup vs) b=some (.hB dA):=by rw[df (j' d7 aH)];exact d7
   have MP:d5 X.K X.mg eV (upd cP p (.tup vs)) ai dA:=⟨iu.1,iu.2.go (Go.fz aH)⟩;refine⟨b,_,rfl,oZ.t (k:=key) I_ (by rw[<-ev];exact dx) (by rw[iu.len];exact eS (akG qL.2)),?_⟩;obtain⟨iJ,dj⟩:=aec.write (u':=.hB (putK dA key v)) (o:=.eY (fm ai key d)) aG I_ (by rintro(⟨_,z⟩|⟨_,_,z⟩)<;>cases z) (by intro _ z;cases z) (by intro _ z;cases z) λk=>
    ⟨_,dx,d5.put key (k _ _ (Rep.go lh bh)) ⟨MP.1,MP.2.imp k⟩⟩
   exact q eV ar _ ((g1.cj.trans lh.dM).trans iJ).eQ dj
  .cases h
 .cases h⟩
theorem agO(slot:PySem.Slot "list" name id)(qV:typeOf (.builtin id)=pure (.type "method_descriptor"))(hm:w2 X id r)(hf:tO X.K X.mg r g)(bg:bk X o mo)(aq:gD X (e::ay) ms)
  (n9:ak8 o name X.env (eval o X.env)=eval o X.env:=by rfl)
  (uU:((ajS dk (ajo (e::ay) X.env)).all (λx=>!x.1)&&(ald dk (akI [] X.env)).all (λx=>x.1.isSome)
&&decide ((e::ay).length+([]:List amx).length+(if([]:List amx).isEmpty then 0 else 1)<30))=true:=by rfl)
  (oe:(apos.endLine==dk.line)=true:=by rfl) (aC:ajo (e::ay) X.env=(false,eval e X.env)::ajo ay X.env:=by rfl) (iU:(ajS dk (ajo ay X.env)).any (·.1)=false:=by rfl)
  (ma:akP (.Call (.Attribute o name apos) (e::ay) [] dk) none pos.line X.env=pure false:=by rfl):gQ X (.Expr (.Call (.Attribute o name apos) (e::ay) [] dk) pos) (qi g mo ms):=
 ⟨g5 (Ee (L9 an6 slot qV hm bg.un aq.un n9 uU oe aC iU) ma) λD ar H aX=>by
  obtain⟨O,Y,S,a_,av,st,h,q⟩:=aX;obtain⟨x,S1,af,aq⟩:=N.inv h;clear h;obtain⟨rs,a6,ah,ab⟩:=N.inv aq;clear aq;obtain⟨bC,hx,dz,h⟩:=N.inv ab;clear ab;obtain rfl:=(mo Y).ec _ _ _ af;obtain rfl:=(ms Y).ec _ _ _ ah;refine⟨O,Y,_,x,_,st.s3,af,λaL f_ H1 g1 aT a9 bo=>?_⟩;obtain⟨n,b,rfl,rfl,aG,sn,ho⟩:=tb aT a9 dz;obtain rfl:=(gm (.v (.ref n))).ec _ _ _ dz;split at h
  .rename_i xs
   obtain⟨⟨b_,ys⟩,rU,fb,h⟩:=N.inv h;cases h;obtain⟨zs,d7,bw⟩:=ho;refine⟨.inl ⟨rfl,_,dn.of d7⟩,aL,Y,_,rs,_,aT,ah,λbu vs aM g2 cK br nn=>?_⟩;have sr:bu.bJ[n]? = some b:=by rw[g2.bJ];exact aG
   have I9:=g2.same.at' _ _ d7;refine hf bu aM H1 b xs zs rs vs _ _ _ ys _ I9 (bw.go g2) br nn fb λv ws ay rw _=>?_
   subst ay;have ER:=(st.go (g1.trans g2) cK.cg).cj H1;obtain⟨iJ,dj⟩:=ER.write (u':=.lst ws) (o:=.lst ys) sr I9 (by rintro(⟨_,z⟩|⟨_,_,z⟩)<;>cases z) (by intro _ z;cases z) (by intro _ z;cases z) λk=>⟨_,dx,rw.imp k⟩
   exact q _ ar _ ((g1.trans g2.cj).dM.trans iJ).eQ dj
  .cases h⟩
theorem agW(aq:d_ X a mI)(he:∀whole,isTrue a X.env whole=(do let v <-whole;al2 a.pos;alf [v] (truthy v)):=by intro _;rfl):ks X a (wJ mI):=⟨rj (Mq aq.un he) λar H Q aX=>by
 obtain⟨O,Y,S,t,av,st,h,q⟩:=aX;obtain⟨x,S1,af,h⟩:=N.inv h;obtain⟨rfl,rfl⟩:=tC h;exact⟨O,Y,S,_,_,st,af,λaj v H' g cc br _=>⟨t,br,q aj H' g cc⟩⟩⟩
theorem agU(aq:ks X a b3):ks X (.UnaryOp .Not a pos) (wI b3):=⟨rj (Mp aq.un) λar H Q aX=>by
 obtain⟨O,Y,S,r,av,st,h,q⟩:=aX;obtain⟨t,S1,af,h⟩:=N.inv h;cases h;exact⟨O,Y,S,t,_,st,af,λaL H1 g1 aT=>q aL H1 g1 aT⟩⟩
def agY(aq:ks X a b3):rY X (.BoolOp .Or [a] pos) b3:=⟨Mt aq.un⟩
theorem agX(aq:ks X a b3)(ab:rY X (.BoolOp .Or (b::rest) pos) cU):rY X (.BoolOp .Or (a::b::rest) pos) (Ab b3 cU):=⟨Ej (Ms aq.un ab.un) λar H Q aX=>by
 obtain⟨O,Y,S,r,av,st,h,q⟩:=aX;obtain⟨t,S1,af,h⟩:=N.inv h;refine⟨O,Y,S,t,S1,st,af,λaL H1 g1 aT=>?_⟩
 cases t with
 |true=>
  rw[if_pos rfl]at h;cases h;exact om (q aL H1 g1 aT)
 |false=>
  rw[if_neg ajx]at h;exact oj ⟨aL,Y,S1,r,av,aT,h,λaj H' g cc=>q aj H' (g1.trans g) cc⟩⟩
def rY.t(h:rY X a b3):ks X a b3:=⟨h.un.pt⟩
theorem agb{K:aS}{mg:bt}{r:fG}{f:R->R->M R}(hf:eh K mg r f):∀ar H Q,rJ K mg (oS f mI rI) ar H Q->tx r (rJ K mg mI) (rJ K mg rI) ar H Q:=by
 rintro ar H Q ⟨O,Y,S,bP,av,st,h,q⟩;obtain⟨x,S1,af,h⟩:=N.inv h;obtain⟨y,a6,ah,h⟩:=N.inv h;split at h
 .rename_i aC
  obtain rfl:=(f x y).ec _ _ _ h;refine⟨O,Y,S,x,S1,st,af,λaL f_ H1 g1 aT a9 bo=>?_⟩;refine⟨aL,Y,S1,y,av,aT,ah,λbu qd aM g2 cK bA DJ=>?_⟩;exact hf bu Y av ar aM f_ qd x y bP av Q cK.s3 (a9.dM g2 aT.s3.cg.cn aC) bA h λaj v H' g cc br nn=>q aj v H' ((g1.trans g2).trans g.dM) (cK.go g cc.cg) br (nn.dM (g1.trans g2))
 .cases h
def agD{op:Operator}{r:fG}{f:R->R->M R}(bg:ej X (alc op) r)(hf:eh X.K X.mg r f)(aq:d_ X a mI)(ab:d_ X b rI):d_ X (.BinOp a op b pos) (oS f mI rI):=⟨ee (Mc bg aq.un ab.un) (agb hf)⟩
end
def Ze{P:ajF}{w:World}{K:aS}{mg:bt}{base:Heap}{f:Addr}{fd:akA}{k:Nat}{mf:e'}(F:fg P w K mg base eM k f fd ["script"] (dJ K mg mf))
  (h:∀ns:List Int,ns.length<=63->∃av,(mf [.lst (ns.map D.int)]).run []=.ok (.v (.aE true)) av):fg P w K mg base eM k f fd ["script"] (wh K):=by
 refine F.imp λvs H Q E aX=>?_
 obtain⟨a,ns,e,cu,aG,cU,q⟩:=aX;subst e;obtain⟨av,h'⟩:=h ns aG;refine⟨⟨λ_=>.free,[]⟩,[.lst (ns.map D.int)],_,[],av,⟨λa aq=>absurd rfl aq,cU,am6,λa m=>by cases m⟩,gu.nil,rfl,⟨_,_,rfl,⟨a,_,rfl,cu.imp (λz=>⟨z,by simp⟩) id,MI ns⟩,rfl⟩,h',λaj v H' _ _ _ _ br _=>?_⟩;cases(show v=.aE true from br);exact q H'
end a0
namespace a0
open PySem PySem.Spec aF
def z9(bc:List Key)(ms:hM):ed:=λY=>do
 let rs <-ms Y
 let ds <-(lb rs).up
 if ds.length=bc.length then(do
  let S <-uD
  putN (S++[.f6 (bc.zip ds)])
  pure (.v (.ref S.length)))else gH
def wC(o:hL):ed:=λ_=>do
 let S <-uD
 putN (S++[o])
 pure (.v (.ref S.length))
theorem Ls:∀{bc:List Key}{vs:List V}{ai:List (Key×V)},bc.Nodup->bc.length=vs.length->(∀k∈bc,∀p∈ai,p.1≠k)->pV ai (bc.zip vs)=ai++bc.zip vs
 |[],vs,ai,_,_,_=>by
  show ai=ai++_;rw[amz,akv]
 | _::_,[],_,_,h,_=>by simp at h|k::bc,v::vs,ai,eb,au,aG=>by
  have ao:putK ai k v=ai++[(k,v)]:=by
   unfold putK;rw[if_neg];rw[an2];rintro⟨p,aH,e⟩;exact aG k (ajy ..) p aH (by simpa using e)
  show pV (putK ai k v) (bc.zip vs)=_;rw[ao,Ls (akn.mp eb).2 (by simpa using au),al1]
  .rfl
  .intro mj od p aH
   rcases aj2.mp aH with aH|aH
   .exact aG mj (ajv _ od) p aH
   .rw[ajH]at aH
    subst aH;rintro rfl;exact(akn.mp eb).1 od
variable[aF.a7]
section
variable{K:aS}{mg:bt}{O:a4}{H H':aw}{S:cA}{Y:aR}{ar:St}{p:Addr}{o:hL}
def eD.adopt(st:eD K mg O Y S ar H)(np:p∉O.bJ)(nl:∀i,O p≠.loc i)(same:∀b,b≠p->H' b=H b)(aH:H' p≠none)(kp:H' p=H p\/∀u,H p=some u->¬Fix u/\∀ys,u≠.lst ys)(lv:O p=.free\/O p=.out->∀u,H p=some u->(∀ys,u≠.lst ys)/\¬Fix u)(bT:TabsOk H->TabsOk H')
  (bC:(∀d v,Rep K mg O H d v->Rep K mg (hE O p) H' d v)->mU K mg (hE O p) H' p o):eD K mg (hE O p) Y (S++[o]) ar H'/\(hE O p).bJ[S.length]? = some p:=by
 have cL:=st.s3.cg;have aB:(hE O p).bJ[S.length]? = some p:=by show(O.bJ++[p])[S.length]? = _;rw[<-st.full,ajL (ajq _),aln];rfl
 have kB:cJ O (hE O p) H H':=⟨λb u e h _=>by
  by_cases c6:b=p
  .subst c6
   rcases kp with kp|kp
   .rw[kp];exact e
   .obtain⟨gX,gi⟩:=kp u e
    exact h.elim (λz=>absurd z.2.2.choose_spec (gi _)) λz=>absurd z gX
  .rw[same b c6];exact e,λb ys e f=>by
   rw[oB (by rintro rfl;exact(lv (.inl f) _ e).1 ys rfl)];exact f,anl _ _⟩
 have f:∀d v,Rep K mg O H d v->Rep K mg (hE O p) H' d v:=λ_ _ z=>Rep.kB kB cL.cn z
 have bh:∀{b:Addr}{ws:List V},f3 H b (.lst ws)->(O b=.free\/O b=.out)->b≠p:=λ{b ws} h hf=>by
  rintro rfl;rcases h with h|⟨x,h⟩
  .exact(lv hf _ h).1 ws rfl
  .exact(lv hf _ h).2 (.inr ⟨_,_,rfl⟩)
 have vZ:∀{b:Addr}{ws:List V},b≠p->f3 H b (.lst ws)->f3 H' b (.lst ws):=λ{b ws} nb h=>by unfold f3;rw[same b nb];exact h
 refine⟨⟨⟨⟨λb ab=>?_,bT cL.tabs,LH cL np⟩,st.s3.len,λi s e=>?_,λn o' e=>?_⟩,?_,λi zs e=>?_⟩,aB⟩
 .by_cases c6:b=p
  .rw[c6];exact aH
  .rw[oB c6]at ab;rw[same b c6];exact cL.has b ab
 .have lo:=st.s3.loc i s e
  cases s with
  |e=>exact trivial|v d=>obtain⟨v,q,r⟩:=lo;exact⟨v,q,f _ _ r⟩
  |c7 p3 zs=>
         obtain⟨b,ws,q,s9,cv,r⟩:=lo;have nb:b≠p:=by rintro rfl;exact nl i s9
         exact⟨b,ws,q,(oB nb).trans s9,by rw[same b nb];exact cv,r.imp f⟩
  |bF zs=>obtain⟨b,ws,q,cv,r⟩:=lo;exact⟨b,ws,q,cv.imp (λz=>⟨vZ (bh z.1 z.2) z.1,by rw[oB (bh z.1 z.2)];exact z.2⟩) id,r.imp f⟩
 .by_cases aG:n<S.length
  .rw[ajR aG]at e
   obtain⟨b,ao,az⟩:=st.s3.gK n o' e;have nb:b≠p:=by rintro rfl;exact np (aka ao)
   exact⟨b,by show(O.bJ++[p])[n]? = _;rw[ajR (by rw[st.full];exact aG)];exact ao,az.all f λ_ l _=>by rw[same b nb];exact l⟩
  .rw[ajL (by omega)]at e
   obtain rfl:n=S.length:=by
    have:=(ajs.mp e).1;simp at this;omega
   rw[aln]at e;cases e;exact⟨p,aB,bC f⟩
 .show(O.bJ++[p]).length=_
  rw[ajz,ajz,st.full];rfl
 .obtain⟨b,ws,q,cv,r⟩:=st.tF i zs e
  exact⟨b,ws,q,cv.imp (λz=>⟨vZ (bh z.1 z.2.1) z.1,by rw[oB (bh z.1 z.2.1)];exact z.2.1,λm=>(aj2.mp m).elim z.2.2 λw=>bh z.1 z.2.1 (ajH.mp w)⟩) id,r.imp f⟩
theorem fE.adopt{o6:a4}{H₀:aw}(g:fE o6 O H₀ H)(h0:H₀ p=none)(same:∀b,b≠p->H' b=H b)(bT:TabsOk H->TabsOk H'):fE o6 (hE O p) H₀ H':=by
 have nb:∀{b:Addr},H₀ b≠none->b≠p:=λh=>by rintro rfl;exact h h0
 exact⟨λb o e h n=>by rw[same b (nb (jl e))];exact g.cells b o e h n,λb ab=>(oB (nb ab)).trans (g.own b ab),λb ab=>by rw[same b (nb ab)];exact g.has b ab,
  λb ps e=>by rw[same b (nb (jl e))];exact g.cU b ps e,λt=>bT (g.bT t),g.bJ.trans (anl _ _),λb m=>(aj2.mp m).elim (g.new b) λz=>.inr (by rw[ajH.mp z];exact h0)⟩
end
section
variable{X:aU}{e:Expr}{m:ed}{ms:hM}{pos:Pos}
def agA(he:d_ X e m):d_ X e (oT m):=⟨ee he.un λar H Q aX=>by
 obtain⟨O,Y,S,r,av,st,h,q⟩:=aX;obtain⟨x,S1,af,h0⟩:=N.inv h;clear h;refine⟨O,Y,S,x,S1,st,af,λaL v H1 g1 aT br nn=>?_⟩;split at h0
 .rename_i xs
  obtain⟨Az,a6,ah,h⟩:=N.inv h0;clear h0;cases ah;cases h;obtain⟨a,ys,rfl,l,t,bw⟩:=br;obtain⟨s1,aB⟩:=aT.adopt (H':=H1) (p:=a) (o:=.lst xs) (aT.s3.cg.cn.no t (by intro z;cases z)) (λi z=>by rw[t]at z;cases z) (λ_ _=>rfl) (jl l) (.inl rfl) (λz=>by rw[t]at z;rcases z with z|z<;>cases z) id λf=>⟨ys,l,bw.imp f⟩
  exact q _ _ H1 (g1.adopt (nn a rfl) (λ_ _=>rfl) id) s1 ⟨a,rfl,aB⟩ trivial
 .cases h0⟩
structure w9(X:aU)(pos:Pos)(keys:List (Option Expr))(values:List Expr)(bc:List Key)(ms:hM):Prop where
 ex:∃kh,tW X pos keys values kh/\∀ar H (Q:List (V×V)->aw->Prop),Aa X.K X.mg ms ar H (λvs H'=>Q ((bc.zip vs).map λkv=>(cB kv.1,kv.2)) H')->wo kh ar H Q
def ags:w9 X pos [] [] [] mF:=⟨[],abI,λar H Q aX=>by
 obtain⟨O,Y,S,r,av,st,h,q⟩:=aX;cases h;exact q O [] H (Go.refl _ _).dM st rfl trivial⟩
def agr{key:Str}{i:Nat}{iq:Pos}{v:Expr}(bI:d_ X v m)(aB:w9 X pos keys values bc ms) :
  w9 X pos (some (.Constant (.str key) i iq)::keys) (v::values) (.inr key::bc) (jQ m ms):=by
 obtain⟨kh,af,ah⟩:=aB.ex;refine⟨_,abH Me bI.un af,λar H Q ⟨O,Y,S,r,av,st,h,q⟩=>?_⟩;obtain⟨x,S1,ao,aq⟩:=N.inv h;clear h;obtain⟨xs,a6,az,h⟩:=N.inv aq;clear aq;split at h
 .rename_i gh
  cases h;show rJ _ _ _ ar H λy aM=>wo kh ar aM λps cP=>Q ((V.str key,y)::ps) cP
  refine⟨O,Y,S,x,S1,st,ao,λaL y H1 g1 aT a9 bo=>ah _ _ _ ?_⟩;exact⟨aL,Y,S1,xs,_,aT,az,λbu vs aM g2 cK rs ns=>q bu (y::vs) aM (g1.trans g2) cK ⟨y,vs,rfl,a9.dM g2 aT.s3.cg.cn gh,rs⟩ ⟨bo,ns.dM g1⟩⟩
 .cases h
theorem agv{keys:List (Option Expr)}{values:List Expr}{bc:List Key}(h:w9 X pos keys values bc ms)(hall:keys.all (·.isSome)=true:=by rfl)(au:keys.length=values.length:=by rfl)(h0:keys≠[]:=by simp)(B9:keys.length<=15:=by decide)
  (ax:bc.Nodup/\bc.length<=15:=by decide +kernel):d_ X (.Dict keys values pos) (z9 bc ms):=by
 obtain⟨kh,af,ah⟩:=h.ex;refine⟨ee (abg af hall au h0 B9) λar H Q ⟨O,Y,S,t,av,st,h,q⟩ a aq=>ah _ _ _ ?_⟩;obtain⟨rs,S1,ao,ab⟩:=N.inv h;clear h;obtain⟨ds,a6,az,h⟩:=N.inv ab;clear ab;obtain rfl:=(lb rs).ec _ _ _ az;have iQ:Go O O H (upd H a (.fl [])):=Go.fz aq;refine⟨O,Y,S,rs,a6,st.go iQ (st.s3.fz aq).cg,ao,λbu vs aM g2 cK br nn=>?_⟩;obtain⟨bh,_⟩:=xF (H₀:=upd H a (.fl [])) br nn az;have m9:aM a=some (.fl []):=g2.cells _ _ dx (.inl (st.s3.cg.DH aq));have Z0:a∉bu.bJ:=λm=>(g2.new a m).elim (st.s3.cg.DH aq) (by rw[dx];intro z;cases z)
 split at h
 .rename_i hlen
  cases h;have ij:bc.length=vs.length:=by rw[bh.len,hlen]
  have hm:pV [] (bc.zip vs)=bc.zip vs:=Ls ax.1 ij (λ_ _ p aH=>by cases aH);refine⟨m9,bc.zip vs,rfl,by rw[amX];omega,?_⟩;rw[hm];have f9:=cK.cj (upd H a (.fl []));have aao:cj (upd H a (.fl [])) bu a=.free:=by rw[xZ (by rw[dx];intro z;cases z),g2.own a (by rw[dx];intro z;cases z)];exact st.s3.cg.free aq
  have bT:TabsOk aM->TabsOk (upd aM a (.fl (bc.zip vs))):=λt=>t.put _ (λps=>by rw[m9];intro z;cases z) (λq=>by rw[m9];intro z;cases z)
  have g7:∀b,b≠a->upd aM a (.fl (bc.zip vs)) b=aM b:=λb nb=>df nb
  have aV:∀u,aM a=some u->¬Fix u/\∀ys,u≠.lst ys:=λu e=>by rw[m9]at e;cases e;exact⟨(by rintro(⟨_,z⟩|⟨_,_,z⟩)<;>cases z),λ_ z=>by cases z⟩
  obtain⟨s1,aB⟩:=f9.adopt (H':=upd aM a (.fl (bc.zip vs))) (p:=a) (o:=.f6 (bc.zip ds)) Z0 (λi z=>by rw[aao]at z;cases z) g7 (by rw[dx];intro z;cases z) (.inr aV) (λ_ u e=>⟨(aV u e).2,(aV u e).1⟩) bT λf=>
   ⟨bc.zip vs,dx,by
    rw[amK (ak2 hlen.symm),amK (ak2 ij)],by
    rw[List.map_snd_zip (ak2 hlen),List.map_snd_zip (ak2 ij.symm)];exact bh.imp f⟩
  exact q _ _ _ ((iQ.dM.trans g2.cj).adopt aq g7 bT) s1 ⟨a,rfl,aB⟩ trivial
 .cases h
def UD(aH:∀{O:a4}{H:aw}{p:Addr},mU X.K X.mg O (upd H p u) p o)(he:bV X e λY H Q=>∀p,H p=none->Q (.ref p) (upd H p u)):d_ X e (wC o):=⟨ee he λar H Q aX p aG=>by
 obtain⟨O,Y,S,r,av,st,h,q⟩:=aX;cases h;obtain⟨g,d,e2,a_⟩:=alloc (o:=o) st.s3.cg st.s3.gK st.full aG (rn aG u) (by rw[dx];intro z;cases z) λ_=>aH
 refine q _ _ _ g (st.dM g d e2 a_) ⟨p,rfl,?_⟩ trivial;show(O.bJ++[p])[S.length]? = _;rw[<-st.full,ajL (ajq _),aln];rfl⟩
def agw:d_ X (.Dict [] [] pos) (wC (.eY [])):=UD ⟨[],dx,rfl,rfl⟩ abh
end
end a0
namespace a0
open PySem PySem.Spec aF
variable[aF.a7]
structure An(K:aS)(x qual:Str)(st:Stmt)(f:Addr)(fd:akA):Prop where
 ex:∃(dv:Value)(c3:Option Addr)(qA cB doc pm:Value)(an:Option Addr)(bx ct:Value)(fA:Array (Option Value)),
  fd=ala x qual (ie st) (fv st) (bH st) qA cB doc pm an bx ct/\K.lookup f=some ⟨dv,c3,.func fd,fA⟩/\am5 K bx qual=true
 kp:alm K (.ref f)=true
def An.ok{P:ajF}{w:World}{K:aS}{mg:bt}{base:Heap}{x qual:Str}{st:Stmt}{f:Addr}{fd:akA}{N ps:List Str}{k:Nat}{sp:ek}(F:An K x qual st f fd)(S:cf N ps (bH st))(len:∀vs H Q E,sp vs H Q E->vs.length=ps.length)
  (uP:∀(bx:Value)(A:ajM)(outer:List Env)(s:ajp)(H:aw)(vs:List V)(Q:c9)(E:gE),cE k (A.deeper (akx qual (bH st) s.heap.objs.size f bx))->sp vs H Q E->
   ∃t,iL (hj eM P w K mg base N qual (bH st) f bx A outer s H E).gI (fv st) t/\t { bo:=λ_ H'=>Q .aQ H',cZ:=Q } (start N vs) H):fg P w K mg base eM (k+1) f fd ps sp:=by
 obtain⟨dv,c3,qA,cB,doc,pm,an,bx,ct,fA,rfl,lk,gG⟩:=F.ex;refine BS lk gG S len λA outer s H vs Q E aB hW=>?_
 obtain⟨t,h,q⟩:=uP bx A outer s H vs Q E aB hW;exact⟨t,h.gI,q⟩
structure wV(K:aS)(mg:bt)(c m qual:Str)(st:Stmt)(ps:List Str):Prop where
 ex:∃C f fd,mg c=some (.ref C)/\i6 K C/\Meth K C m f/\An K m qual st f fd/\Binds K fd ps []/\Binds K fd ps [.none]
structure Ap(P:ajF)(w:World)(K:aS)(mg:bt)(base:Heap)(c m:Str)(ps:List Str)(k:Nat)(sp:ek):Prop where
 all:d1 P w K mg base c m ps k sp
 ex:∃C f fd,mg c=some (.ref C)/\i6 K C/\Meth K C m f/\fg P w K mg base eM k f fd ps sp/\Binds K fd ps [.none]
def V3{P:ajF}{w:World}{K:aS}{mg:bt}{base:Heap}{c m qual:Str}{st:Stmt}{ps N:List Str}{k:Nat}{c_:bl}{n nl:Nat}(cp:wV K mg c m qual st ps)(Sc:cf N ps (bH st))(aG:ps.length=n)(au:N.length=nl)
  (ab:∀(f:Addr)(bx:Value)(A:ajM)(outer:List Env)(s:ajp)(H:aw)(E:gE),cE k (A.deeper (akx qual (bH st) s.heap.objs.size f bx))->
   jX (hj eM P w K mg base N qual (bH st) f bx A outer s H E).gI (fv st) c_):Ap P w K mg base c m ps (k+1) (dJ K mg (fnX n nl c_)):=by
 obtain⟨C,f,fd,hn,cl,me,F,b0,b⟩:=cp.ex;subst aG au;have ok:=F.ok (P:=P) (w:=w) (mg:=mg) (base:=base) (sp:=dJ K mg (fnX ps.length N.length c_)) Sc (λvs H Q E ⟨O,ds,r,S,av,cL,e2,BV,e5,h,q⟩=>e5.r.len.trans (BQ h)) λbx A outer s H vs Q E aB hW=>⟨_,(ab f bx A outer s H E aB).un,HC hW⟩
 exact⟨⟨C,f,fd,hn,cl,me,ok,b0⟩,⟨C,f,fd,hn,cl,me,ok,b⟩⟩
omit [aF.a7]in
theorem S3{K:aS}{h:Heap}{mg:bt}{c:Str}{C:Addr}{aZ:List Str}(X:K.In h)(G:h.Ns ajX mg)(a:amC K ajX c=some (some (.ref C)))
  (nC:anI K C Str.empty=true) (hd:aof K C=true) (po:W.plainOver K C=true) (oI:alw K (.ref C) "__setattr__"=some (some (.builtin "object.__setattr__"))) (mk:W.makesIn K C=true) (CX:alm K (.ref C)=true)
  (na:∀f∈aZ,alw K (.ref C) f=some none):oY K mg c aZ:=⟨C,am8 X G a,⟨nC,hd,po,oI⟩,⟨mk,CX⟩,na⟩
omit [aF.a7]in
theorem UB{K:aS}{h:Heap}{mg:bt}{c m qual:Str}{C f:Addr}{aZ ps:List Str}{st:Stmt}{c3 an:Option Addr}{cN:Array (Option Value)}{dv cB pq pm cd ct:Value}(X:K.In h)(G:h.Ns ajX mg)(T:oY K mg c aZ)(a:amC K ajX c=some (some (.ref C)))
  (e:alw K (.ref C) m=some (some (.ref f))) (i:W.isFn K (.ref f)=true) (l:K.lookup f=some ⟨dv,c3,.func (ala m qual (ie st) (fv st) (bH st) .none cB pq pm an cd ct),cN⟩) (xB:am5 K cd qual=true) (k:alm K (.ref f)=true)
  (ab:∀(cB doc pm:Value)(an:Option Addr)(bx ct:Value)(us:List Value),us.length=ps.length->alF (ala m qual (ie st) (fv st) (bH st) .none cB doc pm an bx ct) ⟨us,[]⟩=pure (ps.zip us)):hc K mg c m qual st ps:=by
 obtain⟨lL,af,ah,_⟩:=T.ex;have bN:=am8 X G a;rw[af]at bN;cases bN;exact⟨_,f,_,af,ah,⟨e,i,k⟩,x2 (st:=st) l xB k,(x2 (st:=st) l xB k).binds ab⟩
omit [aF.a7]in
theorem UC{K:aS}{h:Heap}{mg:bt}{c m qual:Str}{C f T:Addr}{aZ ps:List Str}{st:Stmt}{c3 an aeM:Option Addr}{cN aeT:Array (Option Value)}{dv cB pq pm cd ct aeL:Value}{j ft:Nat}(X:K.In h)(G:h.Ns ajX mg)(PS:oY K mg c aZ)(a:amC K ajX c=some (some (.ref C)))
  (e:alw K (.ref C) m=some (some (.ref f))) (i:W.isFn K (.ref f)=true) (l:K.lookup f=some ⟨dv,c3,.func (ala m qual (ie st) (fv st) (bH st) (.ref T) cB pq pm an cd ct),cN⟩) (t:K.lookup T=some ⟨aeL,aeM,.seq #[.none] ft,aeT⟩) (xB:am5 K cd qual=true) (k:alm K (.ref f)=true) (aW:ps.length=j+1)
  (ab:∀(cB doc pm:Value)(an:Option Addr)(bx ct:Value)(us:List Value),us.length=j+1->∃d8,alF (ala m qual (ie st) (fv st) (bH st) (.ref T) cB doc pm an bx ct) ⟨us,[]⟩=alV (.ref T) >>= d8/\d8 (some #[.none])=pure (ps.zip us))
  (pB:∀(cB doc pm:Value)(an:Option Addr)(bx ct:Value)(us:List Value),us.length=j->∃d8,alF (ala m qual (ie st) (fv st) (bH st) (.ref T) cB doc pm an bx ct) ⟨us,[]⟩=alV (.ref T) >>= d8/\d8 (some #[.none])=pure (ps.zip (us++[.none]))):wV K mg c m qual st ps:=by
 obtain⟨lL,af,ah,_⟩:=PS.ex;have bN:=am8 X G a;rw[af]at bN;cases bN;refine⟨_,f,_,af,ah,⟨e,i,k⟩,⟨⟨dv,c3,_,cB,pq,pm,an,cd,ct,cN,rfl,l,xB⟩,k⟩,λs us AD au=>?_,λs us AD au=>?_⟩
 .rw[akv]at au ⊢
  obtain⟨d8,ao,az⟩:=ab cB pq pm an cd ct us (au.trans aW);exact aou rfl (AD _ _ t) rfl ao az
 .rw[ajz,aW]at au
  obtain⟨d8,ao,az⟩:=pB cB pq pm an cd ct us (by simpa using au);exact aou rfl (AD _ _ t) rfl ao az
def hc.none{k:Nat}{sp:ek}(D:hc K mg c m qual st ps)(no:∀vs H Q E,¬sp vs H Q E):d1 P w K mg base c m ps k sp:=by
 obtain⟨C,f,fd,a,b,d,F,e⟩:=D.ex;exact⟨C,f,fd,a,b,d,⟨λvs H Q E h=>absurd h (no vs H Q E),λA outer s H args us vs Q E _ _ _ _ h=>absurd h (no vs H Q E)⟩,e⟩
end a0
namespace a0
open PySem PySem.Spec aF
def z7(a b:ed):ed:=λY=>do
 let x <-a Y
 let t <-x.nI.up
 if t=true then b Y else pure (.v (.aE false))
variable[aF.a7]
section
variable{X:aU}{a b:Expr}{rest:List Expr}{pos:Pos}{mI rI:ed}
def agC{op}(h:d_ X a mI):d_ X (.BoolOp op [a] pos) mI:=⟨Mb h.un⟩
def agt(aq:d_ X a mI)(ab:d_ X (.BoolOp .And (b::rest) pos) rI):d_ X (.BoolOp .And (a::b::rest) pos) (z7 mI rI):=⟨ee (L8 aq.un ab.un) λar H Q aX=>by
 obtain⟨O,Y,S,r,av,st,h,q⟩:=aX;obtain⟨x,S1,af,h⟩:=N.inv h;obtain⟨t,a6,ah,h⟩:=N.inv h;obtain⟨rfl,rfl⟩:=tC ah;refine⟨O,Y,S,_,_,st,af,λaL f_ H1 g1 aT a9 bo=>⟨t,a9,?_⟩⟩
 cases t with
 |false=>
  rw[if_neg ajx]at h;cases h;exact oj (q aL _ H1 g1 aT rfl trivial)
 |true=>
  rw[if_pos rfl]at h;exact om ⟨aL,Y,_,r,av,aT,h,λaj v H' g cc br nn=>q aj v H' (g1.trans g) cc br (nn.dM g1)⟩⟩
end
end a0
namespace a0
open PySem PySem.Spec aF PyProof.Rows
section
variable{X:aU}
def ch(c:Nat):Str:=⟨#[c]⟩
def rO(z:Str):iy:=⟨λi _=>i<z.cps.size,λi H x H'=>H'=H/\∃c,z.cps[i]? = some c/\x=.str (ch c),λi _=>z.cps.size<=i⟩
theorem OQ{P:ajF}{w:World}{K:aS}{ck:Expr}(z:Str)(t:Tok)(it:Addr):Turn P w K ck (rO z) [it] it (λi h=>(h.IsStrIter it "str_ascii_iterator" z t i)\/h.IsStrIter it "str_iterator" z t i) where
 mem:=by simp
 obj:=λi h st b ab=>by
  have e:b=it:=by simpa using ab
  subst e;rcases st with⟨o,e,c,d⟩|⟨o,e,c,d⟩<;>exact⟨o,e,λv z=>by rw[d]at z;cases z⟩
 keep:=λi h h' st k=>by
  rcases st with⟨o,e,c,d⟩|⟨o,e,c,d⟩
  .exact .inl ⟨o,k it (by simp) o e,c,d⟩
  .exact .inr ⟨o,k it (by simp) o e,c,d⟩
 item:=by
  intro X en hw hD aI i zn s Y H E J hf st aY;subst en hw hD;have aY:i<z.cps.size:=aY;obtain⟨f0,f1,f2,fw,f4,gT⟩:=hf it (by simp);have ag:z.cps[i]? = some z.cps[i]:=by simp[aY]
  rcases st with st|st
  .refine wpAny_pyNext_ascii_item st ag λh' cc kR=>?_
   have bb:Inv X zn Y H { s with heap:=h',toks:=s.toks+1 }:=J.turned (t':=s.toks+1) (λb o ab e=>(kR.2 b ab).trans e) f0 f1 fw f4 gT;obtain⟨o,e,c,d⟩:=id cc;exact⟨_,rfl,uJ (s:={ s with heap:=h',toks:=s.toks+1 }) e c d (by decide) ⟨.str (ch z.cps[i]),H,bb,⟨_,rfl⟩,⟨rfl,_,ag,rfl⟩,.inl cc,λb ab=>(hf b ab).1⟩⟩
  .refine wpAny_pyNext_wide_item st ag λh' cc kR=>?_
   have bb:Inv X zn Y H { s with heap:=h',toks:=s.toks+1 }:=J.turned (t':=s.toks+1) (λb o ab e=>(kR.2 b ab).trans e) f0 f1 fw f4 gT;obtain⟨o,e,c,d⟩:=id cc;exact⟨_,rfl,uJ (s:={ s with heap:=h',toks:=s.toks+1 }) e c d (by decide) ⟨.str (ch z.cps[i]),H,bb,⟨_,rfl⟩,⟨rfl,_,ag,rfl⟩,.inr cc,λb ab=>(hf b ab).1⟩⟩
 done:=by
  intro X en hw hD aI i zn s Y H E J hf st aY;subst en hw hD;have aY:z.cps.size<=i:=aY;obtain⟨f0,f1,f2,fw,f4,gT⟩:=hf it (by simp);have ag:z.cps[i]? = none:=by simp[aY]
  rcases st with st|st
  .exact wpAny_pyNext_ascii_end (J.ok.hd aI) st ag λh' c6=>⟨rfl,J.turned (t':=s.toks) (λb o ab e=>c6 b o ab e) f0 f1 fw f4 gT⟩
  .exact wpAny_pyNext_wide_end (J.ok.hd aI) st ag λh' c6=>⟨rfl,J.turned (t':=s.toks) (λb o ab e=>c6 b o ab e) f0 f1 fw f4 gT⟩
 self:=λ_ _ _ _ _ st h=>by
  rcases st with st|st
  .exact wpAny_pyIter_striter_ascii st h
  .exact wpAny_pyIter_striter_wide st h
def abA{ck l:Expr}(au:bV X l h4):ko X ck l (λY H R=>h4 Y H λx H1=>∃z,x=.str z/\R (rO z) H1):=by
 intro zn s Y H R J h;refine bX (au zn s Y H _ J h) λv s1 aX=>?_
 obtain⟨x,H1,bb,bB,bq⟩:=aX;obtain⟨z,e,q⟩:=bq;subst e;obtain⟨t,rfl⟩:=bB;have fin:∀b∈[s1.heap.objs.size],gC X zn H1 b:=λb ab=>by
  have e:b=s1.heap.objs.size:=by simpa using ab
  subst e;exact bb.pw (ajq _) (bb.bQ.fresh (ajq _))
 cases aq:z.cps.all (· < 128)with
 |true=>
  refine wpAny_pyIter_ascii aq ?_;exact⟨s1.heap.objs.size,[s1.heap.objs.size],_,_,H1,rfl,bb.kept (t':=s1.toks) λb o e=>ajn _ e,OQ z t _,.inl ⟨_,ajA _ rfl,rfl,rfl⟩,fin,q⟩
 |false=>
  refine wpAny_pyIter_wide aq ?_;exact⟨s1.heap.objs.size,[s1.heap.objs.size],_,_,H1,rfl,bb.kept (t':=s1.toks) λb o e=>ajn _ e,OQ z t _,.inr ⟨_,ajA _ rfl,rfl,rfl⟩,fin,q⟩
end
def xC(z:Str):List D:=z.cps.toList.map λc=>D.str (ch c)
def nX(z:Str):List V:=z.cps.toList.map λc=>V.str (ch c)
def Yv(z:Str)(H:aw)(i:Nat):(i<(nX z).length->(rO z).go i H/\∀x H',(rO z).oU i H x H'->H'=H/\(nX z)[i]? = some x)/\((nX z).length<=i->(rO z).stop i H):=by
 have au:(nX z).length=z.cps.size:=by unfold nX;rw[ajm,akh]
 rw[au];refine⟨λaA=>⟨aA,λx H' ⟨e,c,af,ah⟩=>⟨e,?_⟩⟩,λaA=>aA⟩;subst ah;unfold nX;rw[ajW,aom,af];rfl
variable[aF.a7]
def SX{K:aS}{mg:bt}{O:a4}{H:aw}(z:Str):bj K mg O H (xC z) (nX z):=by
 unfold xC nX
 induction z.cps.toList with
 |nil=>rfl|cons c r a8=>exact⟨_,_,rfl,rfl,a8⟩
@[simp] def JR(m:bp)(Y:aR):M (List D):=do
 let r <-m Y
 match r with
 |.v (.str z)=>pure (xC z)|_=>bad
section
variable{X:aU}{ck l:Expr}{m:bp}
def afi(au:bk X l m):pf X ck l (JR m):=⟨oG (abA au.un) λar H R aX=>by
 obtain⟨O,Y,S,xs,av,st,h,q⟩:=aX;obtain⟨r,S1,af,h⟩:=M.inv h;split at h
 .rename_i z
  cases h;refine⟨O,Y,S,_,_,st,af,λaL v H1 g1 aT br nn=>⟨z,br,?_⟩⟩;exact q aL H1 (rO z) (nX z) g1 aT (λaM _ i=>Yv z aM i) (SX z)
 .cases h⟩
end
section
variable{K:aS}{mg:bt}
def tD(i j:Str):Bool:=!(alP j i 0 j.length 1).isEmpty
def rf(neg:Bool):R->R->M R
 |.v (.str i),.v (.str j)=>pure (.v (.aE (neg ^^ tD i j)))|_,_=>bad
def F0:eh K mg (λx y H Q=>∃i j,x=.str i/\y=.str j/\Q (.aE (!(alP j i 0 j.length 1).isEmpty)) H) (rf false):=λO Y S ar H x y a9 bA bP av Q st ag ba h q=>by
 unfold rf at h;split at h
 .rename_i i j
  cases h;refine⟨i,j,ag,ba,?_⟩;have:(!(alP j i 0 j.length 1).isEmpty)=(false ^^ tD i j):=by unfold tD;simp
  rw[this];exact q O _ H (Go.refl _ _) st rfl trivial
 .cases h
end
end a0
namespace a0
open PySem PySem.Spec aF PyProof.Rows
def w0(K:aS)(mg:bt)[aF.a7](d:D)(u:Value):Prop:=∃v,RelV v u/\∀O H,Rep K mg O H d v
structure KTab(P:ajF)(w:World)(K:aS)(mg:bt)[aF.a7](x:Str)(ps:List (Str×D)):Prop where
 ex:∃(a:Addr)(ay:Array amO)(n:Nat),(mg x=some (.ref a)/\(a==ak7)=false)/\ak1 a K=some { cls:=.type "dict",data:=.dict ay n }/\KeysOf (amI P w) ay/\
  ∀k,match ps.lookup k with
   |some d=>∃u,ang akp ay k=some u/\w0 K mg d u|none=>ang akp ay k=none
variable[aF.a7]
def Ar(K:aS)(mg:bt):List (Str×D)->List amO->Prop
 |[],ay=>ay=[]|p::ps,ay=>∃e r,ay=e::r/\(∃t,e.key=.str p.1 t)/\w0 K mg p.2 e.val/\Ar K mg ps r
theorem Kl{K:aS}{mg:bt}{k:Str}:∀{ps:List (Str×D)}{ay:List amO},Ar K mg ps ay->match ps.lookup k with
   |some d=>∃u,(ay.find? λe=>akp k e.key).map (·.val)=some u/\w0 K mg d u|none=>(ay.find? λe=>akp k e.key).map (·.val)=none
 |[],ay,h=>by cases h;rfl
 |p::ps,ay,h=>by
  obtain⟨e,r,rfl,⟨t,fS⟩,Y9,aB⟩:=h;have a8:=Kl (k:=k) aB;obtain⟨tl,L7⟩:=p;rw[akb,als,fS]
  by_cases c:k=tl
  .subst c
   have ao:(k==k)=true:=by simp
   have az:akp k (.str k t)=true:=by show(k==k)=true;simp
   rw[ao,az];exact⟨_,rfl,Y9⟩
  .have ao:(k==tl)=false:=by simpa using c
   have az:akp k (.str tl t)=false:=by
    show(tl==k)=false;simp only[beq_eq_false_iff_ne,ne_eq];exact λz=>c z.symm
   rw[ao,az];exact a8
def Y_{P:ajF}{w:World}{K:aS}{h:Heap}{mg:bt}{x:Str}{d:Addr}{ay:Array amO}{n:Nat}{ps:List (Str×D)}(X:K.In h)(G:h.Ns ajX mg)
  (a:amC K ajX x=some (some (.ref d))) (aC:(d==ak7)=false) (l:ak1 d K=some { cls:=.type "dict",data:=.dict ay n }) (k:∀e∈ay.toList,∃s,akp s e.key=true/\e.hash=hashStr w s)
  (f:Ar K mg ps ay.toList):KTab P w K mg x ps:=by
 refine⟨d,ay,n,⟨am8 X G a,aC⟩,l,λe he=>?_,λk=>?_⟩
 .obtain⟨s,af,ah⟩:=k e (by simpa using he)
  exact⟨s,af,ah⟩
 .have z:=Kl (k:=k) f
  have:∀k:Str,ang akp ay k=(ay.toList.find? λe=>akp k e.key).map (·.val):=λk=>by
   unfold ang;obtain⟨l⟩:=ay;rw[List.find?_toArray]
  rw[this];exact z
def Au:List Str->List Value->Prop
 |[],us=>us=[]|x::xs,us=>∃t r,us=.str x t::r/\Au xs r
theorem Ky:∀{xs:List Str}{us:List Value},Au xs us->Vals (xs.map V.str) us
 |[],us,h=>by cases h;exact .nil
 |x::xs,us,h=>by obtain⟨t,r,rfl,q⟩:=h;exact .cons ⟨t,rfl⟩ (Ky q)
def ou{K:aS}{mg:bt}{xs:List Str}{a:Addr}{its:Array Value}{n:Nat}{c3:Option Addr}{fA:Array (Option Value)}(l:ak1 a K=some ⟨.type "tuple",c3,.seq its n,fA⟩)(hz:its.size<=ajt)(h:Au xs its.toList) :
  w0 K mg (.tup (xs.map D.str)) (.ref a):=by
 refine⟨.ref a,rfl,λO H=>⟨a,xs.map V.str,rfl,.inr ⟨_,its,n,l,rfl,rfl,hz,Ky h⟩,?_⟩⟩
 induction xs with
 |nil=>rfl| cons x r a8=>exact⟨_,_,rfl,rfl,by
   clear a8 h
   induction r with
   |nil=>rfl| cons y q a8=>exact⟨_,_,rfl,rfl,a8⟩⟩
def ahw(neg:Bool)(ps:List (Str×D))(mk:bp):bp:=λY=>do
 let k <-mk Y
 match k with
 |.v (.str z)=>pure (.v (.aE (neg ^^ (ps.lookup z).isSome)))|_=>bad
section
omit [aF.a7]
@[simp] theorem aij:rf b (.v (.str i)) (.v (.str j))=pure (.v (.aE (b ^^ tD i j))):=rfl
end
end a0
namespace a0
open PySem PySem.Spec aF PyProof.Rows
variable[aF.a7]
@[simp] def Bf(ps:List (Str×D))(mk:bp)(Y:aR):M R:=do
 let k <-mk Y
 match k with
 |.v (.str z)=>pure (.v ((ps.lookup z).getD .aQ))|_=>bad
section
variable{X:aU}{x:Str}{ps:List (Str×D)}{e:Expr}{p apos dk:Pos}{mk:bp}
def afI(T:KTab X.prog X.w X.K X.mg x ps)(aY:eC X x)(he:bk X e mk)(m:hu X (.Name x p) "get" apos e dk:=by exact⟨rfl,rfl,rfl,rfl⟩)(eH:(x==("__debug__":Str))=false:=by decide) :
  bk X (.Call (.Attribute (.Name x p) "get" apos) [e] [] dk) (Bf ps mk):=⟨by
 rintro zn s Y H Q J ⟨O,Y',S,r,av,st,h,q⟩;obtain⟨y,S1,af,h⟩:=M.inv h;split at h
 .rename_i z
  cases h;obtain⟨a,ay,n,⟨hm,XZ⟩,au,ax,hf⟩:=T.ex;refine wpAny_Call_method m.base m.BN m.line an4 alu aok (sH J aY hm ?_ eH);have aq:=J.fe a _ au;refine⟨⟨_,aq,rfl⟩,λb e=>by cases e;exact⟨_,aq,rfl⟩,?_⟩;rw[m.trees];refine alZ rfl (amU (amq (bX (he.un zn s Y H (λv H1=>v=.str z/\∃aL,Go O aL H H1/\cy X.K X.mg aL Y' av Y H1) J ⟨O,Y',S,_,_,st,af,λaL v H1 g1 aT br nn=>⟨br,aL,g1,aT⟩⟩) λpJ s2 ⟨y,aM,bU,bA,e7,aL,g1,aT⟩=>anB ?_)));subst e7;obtain⟨t,rfl⟩:=bA;have aq:=bU.fe a _ au;have mo:s2.heap.MapOf (amI X.prog X.w) a (ang akp ay):=⟨_,ay,n,aq,⟨rfl,rfl,rfl⟩,rfl,ax,λ_=>rfl⟩;refine call_meetsIn alu mo.typeIs amB (PySem.F.args_dict_get_2 _ _) (meets_dict_get (amI X.prog X.w) a (k:=z) ?_ XZ) ⟨_,mo,?_⟩
  .show(z==z)=true
   simp
  .have:=hf z
   cases ao:ps.lookup z with
   |none=>
    rw[ao]at this q;rw[this];exact⟨.aQ,aM,bU.tok _,rfl,q aL _ aM g1 aT rfl trivial⟩
   |some d=>
    rw[ao]at this q;obtain⟨u,az,v,bR,v9⟩:=this;rw[az];exact⟨v,aM,bU.tok _,bR,q aL _ aM g1 aT (v9 aL aM) trivial⟩
 .cases h⟩
end
end a0
namespace a0
open PySem PySem.Spec aF PyProof.Rows PySem.W
section
variable{prog:ajF}{w:World}{A:ajM}{s:ajp}{E:cF}
def U6{v:Value}{Q:Bool->ajp->Prop}(h:Q true s):wpAny (model prog w) A (eqBool v v) Q E s:=by
 unfold eqBool
 try with_reducible refine akF ?_
 show wpAny _ _ (if(v==v)=true then _ else _) Q E s;rw[if_pos (beq_self_eq_true v)];exact ajl (amW (ajr h))
theorem Kk{Q:Bool->ajp->Prop}(h:Q fin s):∀(l:List Value)(i:Nat),KatLex prog w A b fin Q (l.zip l) i s
 |[],_=>kat_nil h|_::l,i=>kat_cons (U6 (kat_yes (Kk h l (i+1))))
end
variable[aF.a7]
end a0
namespace a0
open PySem PySem.Spec aF
section
variable{P:List Value->Prop}
def O0(h:P []):∀us:List Value,us.length=0->P us:=λus e=>by rw[List.eq_nil_of_length_eq_zero e];exact h
def rz(h:∀a,∀us:List Value,us.length=n->P (a::us)):∀us:List Value,us.length=n+1->P us:=λus e=>by
 cases us with
 |nil=>cases e
 |cons a r=>exact h a r (Nat.succ.inj e)
def wz(h:∀a,P [a]):∀us:List Value,us.length=1->P us:=rz λa=>O0 (h a)
def z1(h:∀a b,P [a,b]):∀us:List Value,us.length=2->P us:=rz λa=>wz (h a)
def EZ(h:∀a b c,P [a,b,c]):∀us:List Value,us.length=3->P us:=rz λa=>z1 (h a)
def E0(h:∀a b c d,P [a,b,c,d]):∀us:List Value,us.length=4->P us:=rz λa=>EZ (h a)
def E1(h:∀a b c d e,P [a,b,c,d,e]):∀us:List Value,us.length=5->P us:=rz λa=>E0 (h a)
def E2(h:∀a b c d e f,P [a,b,c,d,e,f]):∀us:List Value,us.length=6->P us:=rz λa=>E1 (h a)
def O1(h:∀a b c d e f g,P [a,b,c,d,e,f,g]):∀us:List Value,us.length=7->P us:=rz λa=>E2 (h a)
end
end a0
namespace a0
open PySem PySem.Spec aF PyProof.Rows PySem.W
def v8(Z:fY):D->Option Z.κ.α
 |.tup (d::_)=>Z.un d|_=>none
def oH(Z:fY):List D->Option (List Z.κ.α)
 |[]=>some []|d::ds=>match v8 Z d,oH Z ds with
  |some p,some ps=>some (p::ps)|_,_=>none
def o3(Z:fY)(h:Heap)(p:Z.κ.α)(a:Addr):Prop:=∃(o:Obj)(v:Value)(m:Nat)(r:List Value),h.get? a=some o/\o.cls=.type "tuple"/\o.data=.seq (alJ (v::r)) m/\Z.κ.keyOf v=some p
def o3.kept{h h':Heap}(x:o3 Z h p a)(k:∀b o,h.get? b=some o->h'.get? b=some o):o3 Z h' p a:=by
 obtain⟨o,v,m,r,af,ah,bN,dz⟩:=x;exact⟨o,v,m,r,k _ _ af,ah,bN,dz⟩
structure KF(Z:fY):Prop where
 ok:Z.Ok
 ne:∀(prog:ajF)(w:World)(A:ajM)(E:cF)(s:ajp)(v u:Value)(a b:Z.κ.α){Q:Bool->ajp->Prop},Z.κ.keyOf v=some a->Z.κ.keyOf u=some b->a≠b->Q false s->wpAny (model prog w) A (eqBool v u) Q E s
 ty:∃T:Value,(T==T)=true/\(T != amv "tuple")=true/\∀(prog:ajF)(w:World)(h:Heap)(v:Value)(a:Z.κ.α),Z.κ.keyOf v=some a->Looks (model prog w) h (typeOf v) T
def Y2:KF fM where
 ok:=Kw
 ne:=λprog w A E s v u a b Q aq ab hV h=>by
  cases v<;>first|cases aq|skip
  cases u<;>first|cases ab|skip
  refine(intKind prog w).eqBool (a:=a) (b:=b) (by show(a==a)=true;simp) (by show(b==b)=true;simp) ?_;rw[decide_eq_false hV];exact h
 ty:=⟨.type "int",by decide,by decide,λprog w h v a aq=>by
  cases v<;>first|cases aq|skip
  exact .now⟩
def Y3:KF ip where
 ok:=Kx
 ne:=λprog w A E s v u a b Q aq ab hV h=>by
  cases v<;>first|cases aq|skip
  cases u<;>first|cases ab|skip
  rename_i x t y t';refine wpAny_eqBool_str ?_;rw[decide_eq_false (λz=>hV (by rw[z]))];exact h
 ty:=⟨.type "str",by decide,by decide,λprog w h v a aq=>by
  cases v<;>first|cases aq|skip
  exact .now⟩
def P2{Z:fY}:∀{ps:List Z.κ.α},jz Z.κ.blt ps=true->ps.Nodup:=AJ Z.κ.toKeyOrd
section
variable{prog:ajF}{w:World}{A:ajM}{s:ajp}{E:cF}{Z:fY}
def ack{C:Bool->ajp->Prop}(F:KF Z)(aH:o3 Z s.heap p a)(a':o3 Z s.heap q b)(hV:p≠q\/a=b/\p=q)(h:C (Z.κ.blt p q) s):wpAny (model prog w) A (keyLt' (tuples' true) (.ref a) (.ref b)) C E s:=by
 rcases hV with hV|⟨rfl,rfl⟩
 .obtain⟨o,v,m,r,af,ah,bN,gX⟩:=aH
  obtain⟨o',fC,eI,bP,B7,aiD,VO,J7⟩:=a';refine kat_lt af bN B7 VO ?_;show KatLex prog w A true _ C ((v,fC)::r.zip bP) 0 s;exact kat_cons (F.ne prog w A _ s v fC p q gX J7 hV (kat_no (F.ok.one prog w A _ s v fC p q gX J7 h)))
 .obtain⟨o,v,m,r,af,ah,bN,gX⟩:=aH
  refine kat_lt af bN af bN (Kk ?_ _ 0);rw[decide_eq_false (aj7 _)];rw[Z.κ.irrefl]at h;exact h
end
theorem MU:∀{ps:List Z.κ.α}{as:List Addr},as.length=ps.length->(∀(i:Nat)(p:Z.κ.α)(a:Addr),ps[i]? = some p->as[i]? = some a->o3 Z h p a)->∃aZ:List Value,KatTups h (as.map ajU) aZ/\aZ.length=as.length/\∀v∈aZ,∃a,Z.κ.keyOf v=some a
 |[],[],_,_=>⟨[],.nil,rfl,λ_ h=>nomatch h⟩
 |p::ps,a::as,au,ag=>by
  obtain⟨aZ,af,ah,bN⟩:=MU (ps:=ps) (as:=as) (Nat.succ.inj au) λi q b ao az=>ag (i+1) q b (by simpa using ao) (by simpa using az)
  obtain⟨o,v0,m,r,ao,az,cI,e6⟩:=ag 0 p a rfl rfl;refine⟨v0::aZ,.cons ao az cI rfl af,by rw[ajC,ah];rfl,λv bI=>?_⟩;rcases aju.mp bI with rfl|bI
  .exact⟨_,e6⟩
  .exact bN v bI
def w7(Z:fY)(K:aS)(mg:bt)(O:a4)(H:aw)(p:Z.κ.α)(a:Addr):Prop:=∃z tM,dI K H a (z::tM)/\Rep K mg O H (Z.dN p) z
section
variable[aF.a7]{X:aU}{zn:cX}{Y:aF.St}{H:aw}{s:ajp}{A:ajM}{E:cF}{O:a4}{Q:c9}{Z:fY}
def w7.is(F:KF Z)(J:Inv X zn Y H s)(h:w7 Z X.K X.mg O H p b):o3 Z s.heap p b:=by
 obtain⟨z,tM,af,ah⟩:=h;obtain⟨its,r,⟨o,ao,az,n,cI⟩,_⟩:=J.tuple af
 cases r with
 |cons bB r=>exact⟨o,_,n,_,ao,az,cI,F.ok.key p _ _ _ _ _ _ ah bB⟩
theorem MW{K:aS}{mg:bt}(F:Z.Ok):∀{ds:List D}{ps:List Z.κ.α}{ys:List V},oH Z ds=some ps->bj K mg O H ds ys->∃as:List Addr,ys=as.map V.ref/\as.length=ps.length/\ds.length=ps.length/\∀(i:Nat)(p:Z.κ.α)(a:Addr),ps[i]? = some p->as[i]? = some a->w7 Z K mg O H p a
 |[],ps,ys,h,r=>by cases h;cases(show ys=[]from r);exact⟨[],rfl,rfl,rfl,λi p a e=>by simp at e⟩
 |d::ds,ps,ys,h,r=>by
  unfold oH at h;split at h
  .rename_i p kM ao az
   cases h;obtain⟨y,agH,rfl,bB,b_⟩:=r;obtain⟨as,rfl,af,ah,bN⟩:=MW F az b_;unfold v8 at ao;split at ao
   .rename_i ahx rest
    obtain⟨a,zs,rfl,dH,ff,ahn,rfl,bq,gB⟩:=bB;rw[F.ry _ _ ao]at bq;refine⟨a::as,rfl,by simp[af],by simp[ah],λk p b ao az=>?_⟩
    cases k with
    |zero=>simp at ao az;subst ao az;exact⟨ff,ahn,dH,bq⟩| succ k=>exact bN k p b (by simpa using ao) (by simpa using az)
   .cases ao
  .cases h
def ad2(F:KF Z)(J:Inv X zn Y H s){ps:List Z.κ.α}{as:List Addr}{ds:List D}(au:as.length=ps.length)(hd:ds.length=ps.length)(v9:bj X.K X.mg O H ds (as.map V.ref))(rows:∀(i:Nat)(p:Z.κ.α)(a:Addr),ps[i]? = some p->as[i]? = some a->w7 Z X.K X.mg O H p a)(eb:ps.Nodup)(jb:ps.length<64){us:List Value}(jC:us=as.map ajU)
  (q:∀l zs,H l=none->bj X.K X.mg O H ((hG Z.κ.blt (ps.zip ds)).map (·.2)) zs->Q (.ref l) (upd H l (.lst zs))) :
  wpAny (model X.prog X.w) A (do
   let l <-newList us
   let _ <-alf [l] (call (.builtin "list.sort") [l] [])
   ret l) (λfin aP=>∃v,fin=Fin.done (.ret v)/\ht X zn Y Q v aP) E s:=by
 have vi:us.length=ps.length:=by rw[jC,ajm,au]
 have CL:∀(i:Nat)(p:Z.κ.α)(a:Addr),ps[i]? = some p->as[i]? = some a->o3 Z s.heap p a:=λi p a ao az=>(rows i p a ao az).is F J
 let iq:Z.κ.α:=Z.κ.dflt
 have sj:∀i,i<us.length->ps[i]? = some (ps.getD i iq)/\as[i]? = some (as.getD i 0)/\ds[i]? = some (ds.getD i .aQ)/\us.getD i akB=.ref (as.getD i 0):=λi aA=>by
  have af:i<ps.length:=by omega
  have ah:i<as.length:=by omega
  have bN:i<ds.length:=by omega
  refine⟨by simp[ajY,af],by simp[ajY,ah],by simp[ajY,bN],?_⟩;rw[jC];simp[ajY,ah]
 refine ajl (amf ?_ (by rw[ajP];omega));have l':(s.heap.push (aj3 "list" us.toArray 0)).get? s.heap.objs.size=some (aj3 "list" us.toArray 0):=ajA _ rfl;have fr:H s.heap.objs.size=none:=J.bQ.fresh (ajq _);show wpAny _ _ _ _ _ { s with heap:=s.heap.push (aj3 "list" us.toArray 0) };have kept:∀b o,s.heap.get? b=some o->(jJ (s.heap.push (aj3 "list" us.toArray 0)) s.heap.objs.size us).get? b=some o:=λb o e=>ZQ (ajJ (ajD e)) (ajn _ e)
 refine ajl (akF (wpAny_call_entry_kw slot_list_sort ⟨_,l',rfl⟩ entry_list_sort ?body (args_list_sort _)));have inj:∀i j,i<us.length->j<us.length->i≠j->ps.getD i iq≠ps.getD j iq:=λi j aA aW ne e=>by
  have ao:=(sj i aA).1;have az:=(sj j aW).1;rw[e,<-az]at ao;exact ne ((List.getElem?_inj (by omega) eb).mp ao)
 refine adY (κ:=tuples' true) (lt:=λi j=>Z.κ.blt (ps.getD i iq) (ps.getD j iq)) (k:=0) l' (by omega) ?ord (λah Q iS=>?kind) (λi j C aA aW fI=>?ask) λp R S=>?fin
 case ord=>
  refine⟨λi j k _ _ _ af ah=>Z.κ.trans _ _ _ af ah,λi j aA aW ne af=>?_,λi j aA aW af=>?_⟩
  .cases c:Z.κ.blt (ps.getD j iq) (ps.getD i iq)with
   |true=>rfl|false=>exact absurd (Z.κ.total _ _ af c) (inj i j aA aW ne)
  .cases c:Z.κ.blt (ps.getD j iq) (ps.getD i iq)with
   |false=>rfl|true=>
    have:=Z.κ.trans _ _ _ af c;rw[Z.κ.irrefl]at this;cases this
 case kind=>
  obtain⟨aZ,gX,gi,yB⟩:=MU (Z:=Z) (h:=jJ (s.heap.push (aj3 "list" us.toArray 0)) s.heap.objs.size us) (ps:=ps) (as:=as) au λi p a ao az=>(CL i p a ao az).kept kept
  rw[<-jC]at gX;obtain⟨T,t1,dC,t3⟩:=F.ty;have f0:0<aZ.length:=by omega
  refine kat_kind (T:=T) gX f0 (λv bI=>by obtain⟨a,aq⟩:=yB v bI;exact t3 X.prog X.w _ v a aq) t1 ?_;rw[dC];exact iS
 case ask=>
  unfold kas_ask;obtain⟨ao,az,_,e6⟩:=sj i aA;obtain⟨f1,f2,_,f4⟩:=sj j aW;rw[e6,f4];refine ack F ((CL _ _ _ ao az).kept kept) ((CL _ _ _ f1 f2).kept kept) ?_ fI
  by_cases JT:i=j
  .subst JT;exact .inr ⟨rfl,rfl⟩
  .exact .inl (inj i j aA aW JT)
 case fin=>
  have v7:ps.zip ds=(ajI us.length).map λi=>(ps.getD i iq,ds.getD i .aQ):=by
   refine List.ext_getElem (by simp[vi,hd]) λi af ah=>?_
   have a1:i<ps.length:=by simp at af;omega
   have a2:i<ds.length:=by omega
   simp[ajY,a1,a2]
  have Z6:((ps.zip ds).map (·.1)).Nodup:=by
   rw[amK (by omega)];exact eb
  have EL:(hG Z.κ.blt (ps.zip ds)).map (·.2)=p.toList.map λi=>ds.getD i .aQ:=by
   have one:p.toList.map (λi=>(ps.getD i iq,ds.getD i .aQ))=hG Z.κ.blt (ps.zip ds):=by
    refine EJ Z.κ.toKeyOrd ?_ ?_ ?_
    .exact Z6
    .rw[v7];exact R.pm.map _
    .rw[anG,anK]
     intro i j aA aW qO;have hsz:p.toList.length=us.length:=by rw[akh,R.lG]
     have:=S i j qO (by omega);have Vz:p.getD i 0=p.toList[i]:=by
      have:i<p.size:=by simpa using aA
      simp[Array.getD,this]
     have VA:p.getD j 0=p.toList[j]:=by
      have:j<p.size:=by simpa using aW
      simp[Array.getD,this]
     rw[Vz,VA]at this;exact this
   rw[<-one,ak4];rfl
  have tM:bj X.K X.mg O H (p.toList.map λi=>ds.getD i .aQ) (p.toList.map λi=>V.ref (as.getD i 0)):=by
   have:∀l:List Nat,(∀i∈l,i<us.length)->bj X.K X.mg O H (l.map λi=>ds.getD i .aQ) (l.map λi=>V.ref (as.getD i 0)):=by
    intro l
    induction l with
    |nil=>intro _;rfl|cons i l a8=>
     intro au;obtain⟨_,g2,g3,_⟩:=sj i (au i ajy);obtain⟨u,ao,az⟩:=v9.get g3;rw[ajW,g2]at ao;cases ao;exact⟨_,_,rfl,az,a8 λk ax=>au k (ajv _ ax)⟩
   exact this _ λi aA=>akt.mp (R.pm.mem_iff.mp aA)
  have Aj:Vals (p.toList.map λi=>V.ref (as.getD i 0)) (p.toList.map λi=>us.getD i akB):=by
   have:∀l:List Nat,(∀i∈l,i<us.length)->Vals (l.map λi=>V.ref (as.getD i 0)) (l.map λi=>us.getD i akB):=by
    intro l
    induction l with
    |nil=>intro _;exact .nil| cons i l a8=>intro au;exact .cons (by show RelV (V.ref _) (us.getD i akB);rw[(sj i (au i ajy)).2.2.2];rfl) (a8 λk ax=>au k (ajv _ ax))
   exact this _ λi aA=>akt.mp (R.pm.mem_iff.mp aA)
  obtain⟨e,he⟩:=sortedHeap_at (out:=alJ (p.toList.map λi=>us.getD i akB)) l';refine⟨_,rfl,ajr ⟨_,rfl,.ref s.heap.objs.size,upd H s.heap.objs.size (.lst (p.toList.map λi=>V.ref (as.getD i 0))),?_,rfl,q _ _ fr (by rw[EL];exact tM)⟩⟩;refine J.laid (t':=s.toks) (λb o c6=>?_) (ajq _) ⟨?_,_,e,Aj,?_⟩
  .have fx:=ajD c6
   rw[sortedHeap_old (ajJ fx) (by rw[anL];exact amy fx),alA _ _ _ (ajJ fx)];exact c6
  .rw[ajm,akh,R.lG,ajP];omega
  .rw[he]
end
variable[aF.a7]
def m4(Z:fY):List R->M R
 |[x]=>match x.fo with
  |some ds=>match oH Z ds with
   |some ps=>if jz Z.κ.blt ps=true/\ps.length<64 then pure (.fr ((hG Z.κ.blt (ps.zip ds)).map (·.2)))else bad|none=>bad
  |none=>bad
 |_=>bad
def HJ{X:aU}(aI:X.calm=true)(F:KF Z):js X (.builtin "sorted") (fun xs H Q=>∃(p:Addr)(ys:List V)(O:a4)(ds:List D)(ps:List Z.κ.α),xs=[.ref p]/\dn X.K H p ys/\bj X.K X.mg O H ds ys/\oH Z ds=some ps/\jz Z.κ.blt ps=true/\ps.length<64/\
  ∀l zs,H l=none->bj X.K X.mg O H ((hG Z.κ.blt (ps.zip ds)).map (·.2)) zs->Q (.ref l) (upd H l (.lst zs))):=by
 rintro zn s Y H xs us Q J bR ⟨p,ys,O,ds,ps,ex,cu,bw,v9,aG,jb,q⟩;subst ex;obtain⟨u,rfl,bB⟩:=vals1 bR;cases bB;obtain⟨as,rfl,au,hd,rows⟩:=MW (Z:=Z) F.ok v9 bw;refine call_function_entry_kw kind_sorted plain_sorted entry_sorted (args_sorted1 _) ?_;unfold am9.«sorted»;refine ajl (m:=checkCount "sorted" 1 1 _) (ajr ?_);obtain⟨vs,p5,pl,_⟩:=J.list cu;have ev:vs=as.map ajU:=by
  have:∀{as:List Addr}{vs:List Value},Vals (as.map V.ref) vs->vs=as.map ajU:=by
   intro as
   induction as with
   |nil=>intro vs h;cases h;rfl
   |cons a as a8=>intro vs h;cases h with
    |cons af ah=>cases af;rw[a8 ah];rfl
  exact this p5
 have lv:vs.length=ps.length:=by rw[ev,ajm,au]
 refine ajl (collect_list pl.isList ?_ (by rw[ajP];omega));refine ad2 F (J.kept (t':=s.toks) λb o e=>?_) au hd bw rows (P2 aG) jb ev q;have fx:=ajD e;rw[Heap.get?_update_ne _ _ _ _ (ajJ fx),alA _ _ _ (ajJ fx)];exact e
def Ka{Z:fY}{K:aS}{mg:bt}:jT K mg (fun xs H Q=>∃(p:Addr)(ys:List V)(O:a4)(ds:List D)(ps:List Z.κ.α),xs=[.ref p]/\dn K H p ys/\bj K mg O H ds ys/\oH Z ds=some ps/\jz Z.κ.blt ps=true/\ps.length<64/\
  ∀l zs,H l=none->bj K mg O H ((hG Z.κ.blt (ps.zip ds)).map (·.2)) zs->Q (.ref l) (upd H l (.lst zs))) (m4 Z):=λO Y S ar H vs rs bP av Q st aB h q=>by
 unfold m4 at h;split at h
 .rename_i x
  obtain⟨v,rfl,ag⟩:=lF aB;split at h
  .rename_i ds e
   split at h
   .rename_i ps az
    by_cases c:jz Z.κ.blt ps=true/\ps.length<64
    .rw[if_pos c]at h
     cases h;obtain⟨a,ys,rfl,l,bw⟩:=R.ni ag e;refine⟨a,ys,O,ds,ps,rfl,l,bw,az,c.1,c.2,λp zs aH jM=>?_⟩;refine q (fV O p .dw) _ _ (Go.new aH) (st.new aH) ⟨p,zs,rfl,dx,nJ,jM.go (Go.new aH)⟩ λb c6=>?_
     cases c6;exact aH
    .rw[if_neg c]at h;cases h
   .cases h
  .cases h
 .cases h
omit [aF.a7]in
theorem US{x:R}:m4 Z [x]=match x.fo with
  |some ds=>match oH Z ds with
   |some ps=>if jz Z.κ.blt ps=true/\ps.length<64 then pure (.fr ((hG Z.κ.blt (ps.zip ds)).map (·.2)))else bad|none=>bad
  |none=>bad:=rfl
end a0
namespace a0
open PySem PySem.Spec aF PyProof.Rows
def i0(b:Int):List Int->Int
 |[]=>b|x::xs=>if b<x then i0 x xs else i0 b xs
def ux:List R->M R
 |[x]=>match x.fo with
  |some ds=>match nums ds with
   |some (b::bs)=>pure (.v (.int (i0 b bs)))|_=>bad
  |none=>bad
 |_=>bad
variable[aF.a7]
section
variable{X:aU}{zn:cX}{Y:aF.St}{H:aw}{s:ajp}{S it l:Addr}{O:a4}
def MH{i:Int}(h:RelV (.int i) u):∃t,u=.int i t:=h
structure Pq(X:aU)(zn:cX)(Y:aF.St)(O:a4)(H:aw)(S it l:Addr)(j:Nat)(b:Int)(aP:ajp):Prop where
 ex:∃aj H',Inv X zn Y H' aP/\Go O aj H H'/\c5 aj H'/\H' S=some (.lst [.int b,.int b])/\aj S=.dw/\gC X zn H' it/\aP.heap.IsListIter it l j
theorem ZK{ns:List Int}{res:Int}(jG:X.A.in1.handled=none)(uY:H S=none)(jF:S≠it)(au:dn X.K H l (ns.map V.int)) :
  ∀(r:List Int)(j:Nat)(b:Int)(aP:ajp),ns.drop j=r->Pq X zn Y O H S it l j b aP->j<=ns.length->i0 b r=res->
   al4 (model X.prog X.w) X.A (.builtin "max.loop" ⟨[.ref it,.none,.ref S],[]⟩) (λr aP=>∃u,r=.ok (.ret u)/\w1 X zn Y O H (.int res) u aP) aP:=by
 have l8:(toString "max"++toString ".loop":String)="max.loop":=by decide
 have dE:=jG;intro r
 induction r with
 |nil=>
  intro j b aP n' B aW aY;have aY:b=res:=aY;subst aY;obtain⟨aL,H1,bb,g1,fR,cu,oF,aN,hit⟩:=B.ex;obtain⟨hsz,its,n,vals,gV⟩:=bb.bQ S _ cu;obtain⟨u,kJ,rfl,d9,v5⟩:=vals2 vals;have oc:j=(ns.map V.int).length:=by
   have:=congrArg akN n';rw[akw,ako]at this;rw[ajm];omega
  refine alW ak6 ?_;rw[ale aj0 _];show wpAny _ X.A.in1 (alV (.ref S) >>= _) _ _ _;refine ajl (aku gV rfl ?_);show wpAny _ X.A.in1 (tryCatch (alS (.ref it)) _ >>= _) _ _ _;refine ajl (akW (aj6 (LI (E:=λ_ _=>False) bb (g1.same.seq au) oc aN hit dE) (λr s1 a'=>?_) λ_ _ dt=>dt.elim));obtain⟨rfl,bU⟩:=a';obtain⟨_,ly,di,E5,uV⟩:=bU.bQ S _ cu;show wpAny _ X.A.in1 (updateSeq S (λ_=>#[]) >>= _) _ _ _;refine ajl ?_;refine alX uV rfl (hz:=by rw[ajB,<-E5.length,ajP];simp) (ajl (ak5 (ajr ?_)));exact⟨u,rfl,aL,_,.int b,Ho bU cu uV,⟨oQ uY g1.same cu _,g1.own,g1.bJ⟩,fR.eg cu,rfl,d9⟩
 |cons c1 r a8=>
  intro j b aP n' B aW aY
  replace aY:(if b<c1 then i0 c1 r else i0 b r)=res:=aY
  obtain⟨aL,H1,bb,g1,fR,cu,oF,aN,hit⟩:=B.ex;obtain⟨hsz,its,n,vals,gV⟩:=bb.bQ S _ cu;obtain⟨u,kJ,rfl,d9,v5⟩:=vals2 vals;have hd2:ns[j]? = some c1:=by
   have:=congrArg (·[0]?) n';simpa using this
  have CC:(ns.map V.int)[j]? = some (.int c1):=by rw[ajW,hd2];rfl
  have uT:ns.drop (j+1)=r:=by
   have:=congrArg (anj 1) n';simpa[al7]using this
  have oc:j+1<=ns.length:=(ajs.mp hd2).1;refine alW ak6 ?_;rw[ale aj0 _];show wpAny _ X.A.in1 (alV (.ref S) >>= _) _ _ _;refine ajl (aku gV rfl ?_);show wpAny _ X.A.in1 (tryCatch (alS (.ref it)) _ >>= _) _ _ _;refine ajl (akW (aj6 (next_item (E:=λ_ _=>False) bb (g1.same.seq au) CC aN hit dE) (λr s1 a'=>?_) λ_ _ dt=>dt.elim));obtain⟨gL,rfl,mx,bU,pD⟩:=a';obtain⟨_,CP,DD,vals3,l6⟩:=bU.bQ S _ cu;have MX:=mx;obtain⟨dC,rfl⟩:=MH mx;obtain⟨cU,rfl⟩:=MH v5;show wpAny _ X.A.in1 (tryCatch (alf [.int c1 dC,.int c1 dC] (amE .Gt (.int c1 dC) (.int b cU) >>= _)) _ >>= _) _ _ _;have qT:∀(s:ajp)(E:cF)(Q:cF),Q (.bool (decide (b<c1))) s->wpAny (model X.prog X.w) X.A.in1 (amE .Gt (.int c1 dC) (.int b cU)) Q E s:=λs E Q h=>(aot h:wpAny (model X.prog X.w) X.A.in1 (aj9 .Gt (.int c1 dC) (.int b cU)) Q E s)
  refine ajl (akW (akF (ajl (qT _ _ _ ?_))));refine ajl (akF (akE ?_));refine ajl (ak5 (ajr ?_))
  by_cases ab:b<c1
  .rw[if_pos ab]at aY
   simp only[ab,decide_true,if_true];refine ajl ?_;refine alX l6 rfl (hz:=by rw[ajB,<-vals3.length,ajP];simp) (ajl (ak5 ?_));rw[l8];refine ajr ⟨aly aj0 _,a8 (j+1) c1 _ uT ?_ oc aY⟩;exact⟨aL,_,xn (v:=.int c1) (kv:=.int c1) bU cu l6 MX MX,⟨oQ uY g1.same cu _,g1.own,g1.bJ⟩,fR.eg cu,dx,oF,xX jF aN,yy jF pD⟩
  .rw[if_neg ab]at aY
   simp only[ab,decide_false,if_false];refine ajl (ak5 ?_);rw[l8];refine ajr ⟨aly aj0 _,a8 (j+1) b _ uT ?_ oc aY⟩;exact⟨aL,H1,bU,g1,fR,cu,oF,aN,pD⟩
theorem ZJ{b:Int}{bs:List Int}{E:cF}(J:Inv X zn Y H s)(cL:c5 O H)(au:dn X.K H l ((b::bs).map V.int))(jG:X.A.in1.handled=none) :
  wpAny (model X.prog X.w) X.A (call (.builtin "max") [.ref l]) (w1 X zn Y O H (.int (i0 b bs))) E s:=by
 have l8:(toString "max"++toString ".loop":String)="max.loop":=by decide
 have dE:=jG;obtain⟨us,bR,pl,_⟩:=J.list au;have fJ:s.heap.IsList l us.toArray:=pl.isList;refine call_function_tree PySem.F.kind_max PySem.F.plain_max PySem.F.entry_max (PySem.F.args_max1 _) ?_;show wpAny _ X.A.in1 (alr "max" ["key","default"] 0 ⟨[],[]⟩ >>= _) _ _ s;refine ajl (wpAny_of_eq (show alr "max" ["key","default"] 0 ⟨[],[]⟩=pure [none,none]from rfl) ?_);refine ajl (ajr ?_);refine ajl (alg fJ ?_);refine ajl (amf ?_ (ajN _));rw[l8];have bb:Inv X zn Y H { s with heap:=s.heap.push { cls:=.type "list_iterator",data:=.fields #[.ref l,.int 0 0] } }:=J.kept (t':=s.toks) λb o e=>ajn _ e
 have m8:(s.heap.push { cls:=.type "list_iterator",data:=.fields #[.ref l,.int 0 0] }).get? s.heap.objs.size=some { cls:=.type "list_iterator",data:=.fields #[.ref l,.int 0 0] }:=ajA _ rfl;have hsz:(s.heap.push { cls:=.type "list_iterator",data:=.fields #[.ref l,.int 0 0] }).objs.size=s.heap.objs.size+1:=anL ..;generalize Xy:s.heap.push { cls:=.type "list_iterator",data:=.fields #[.ref l,.int 0 0] }=af at *;have n4:H af.objs.size=none:=bb.bQ.fresh (ajq _);have jF:af.objs.size≠s.heap.objs.size:=by rw[hsz];omega
 have bU:Inv X zn Y (upd H af.objs.size (.lst [])) { s with heap:=af.push (aj3 "list" #[] 0) }:=
  bb.laid (t':=s.toks) (λb o e=>ajn _ e) (ajq _) ⟨ajN _,[],0,.nil,ajA _ rfl⟩
 have aN:gC X zn (upd H af.objs.size (.lst [])) s.heap.objs.size:=J.pw (ajq _) (by rw[df jF.symm];exact J.bQ.fresh (ajq _));have hit:(af.push (aj3 "list" #[] 0)).IsListIter s.heap.objs.size l 0:=⟨_,ajn _ m8,rfl,rfl⟩;have go2:Go O (fV O af.objs.size .dw) H (upd H af.objs.size (.lst [])):=Go.new n4;have Bt:c5 (fV O af.objs.size .dw) (upd H af.objs.size (.lst [])):=cL.new n4;have p2:fV O af.objs.size .dw af.objs.size=.dw:=nJ;have qI:upd H af.objs.size (.lst []) af.objs.size=some (.lst []):=dx;have gV:(af.push (aj3 "list" #[] 0)).get? af.objs.size=some (aj3 "list" #[] 0):=ajA _ rfl;refine ajr ⟨aly aj0 _,?_⟩;generalize af.push (aj3 "list" #[] 0)=ah at *;generalize af.objs.size=S at *;generalize s.heap.objs.size=it at *;generalize fV O S .dw=bu at *;generalize upd H S (.lst [])=aM at *;refine alW ak6 ?_;rw[ale aj0 _];show wpAny _ X.A.in1 (alV (.ref S) >>= _) _ _ _;refine ajl (aku gV rfl ?_);show wpAny _ X.A.in1 (tryCatch (alS (.ref it)) _ >>= _) _ _ _;refine ajl (akW (aj6 (next_item (E:=λ_ _=>False) (v:=.int b) bU (go2.same.seq au) rfl aN hit dE) (λr s1 a'=>?_) λ_ _ dt=>dt.elim));obtain⟨gL,rfl,mx,dD,pD⟩:=a';obtain⟨_,CP,DD,vals3,l6⟩:=dD.bQ S _ qI;show wpAny _ X.A.in1 (updateSeq S (λ_=>#[gL,gL]) >>= _) _ _ _;refine ajl ?_;refine alX l6 rfl (hz:=by rw[ajB,<-vals3.length,ajP];simp) ?_;rw[l8];refine ajr ⟨aly aj0 _,alG (ZK (zn:=zn) (Y:=Y) (O:=O) jG n4 jF au bs 1 b _ rfl ?_ (by simp) rfl) λr aP a'=>?_⟩
 .exact⟨bu,_,xn dD qI l6 mx mx,⟨oQ n4 go2.same qI _,go2.own,go2.bJ⟩,Bt.eg qI,dx,p2,xX jF aN,yy jF pD⟩
 .obtain⟨u,rfl,a'⟩:=a'
  exact a'
theorem SK(aI:X.calm=true):js X (.builtin "max") (λxs H Q=>∃(l:Addr)(b:Int)(bs:List Int)(O:a4),xs=[.ref l]/\dn X.K H l ((b::bs).map V.int)/\c5 O H/\
  ∀aj H' v,Go O aj H H'->c5 aj H'->Rep X.K X.mg aj H' (.int (i0 b bs)) v->Q v H'):=by
 rintro zn s Y H xs us Q J bR ⟨l,b,bs,O,ex,au,cL,q⟩;subst ex;obtain⟨u,rfl,bB⟩:=vals1 bR;cases bB;refine bX (ZJ J cL au (show X.A.in1.handled=none from J.ok.hd aI)) λu s3 aX=>?_
 obtain⟨eV,cP,v,dD,g3,m1,Es,EA⟩:=aX;exact⟨v,cP,dD,EA,q eV cP v g3 m1 Es⟩
end
def YJ{K:aS}{mg:bt}:jT K mg (fun xs H Q=>∃(l:Addr)(b:Int)(bs:List Int)(O:a4),xs=[.ref l]/\dn K H l ((b::bs).map V.int)/\c5 O H/\
  ∀aj H' v,Go O aj H H'->c5 aj H'->Rep K mg aj H' (.int (i0 b bs)) v->Q v H') ux:=λO Y S ar H vs rs bP av Q st aB h q=>by
 unfold ux at h;split at h
 .rename_i x
  obtain⟨v,rfl,ag⟩:=lF aB;split at h
  .rename_i ds e
   split at h
   .rename_i b bs az
    cases h;obtain⟨a,ys,rfl,l,bw⟩:=R.ni ag e;have:=sZ bw az;subst this;exact⟨a,b,bs,O,rfl,l,st.cg,λaj H' v g d r=>q aj v H' g (st.go g d) r trivial⟩
   .cases h
  .cases h
 .cases h
end a0
namespace a0
open PySem PySem.Spec aF
variable[aF.a7]
def oo(t:aR->M Bool)(el:bp)(Y:aR):List D->M (List D)
 |[]=>pure []|.tup [fR,c1]::ds=>do
  let b <-t ((Y.set 0 (.v fR)).set 1 (.v c1))
  if b=true then do
   let r <-el ((Y.set 0 (.v fR)).set 1 (.v c1))
   let x <-r.dat
   let xs <-oo t el Y ds
   pure (x::xs)
  else oo t el Y ds
 |_=>bad
def r2(cap:List Nat)(it:fi)(t:aR->M Bool)(el:bp):bp:=λY=>do
 let ds <-it Y
 hR (ds.length<ajt)
 let xs <-oo t el (iP 2 cap Y) ds
 pure (.fr xs)
section
variable{K:aS}{mg:bt}{cap:List Nat}{it:fi}{t:aR->M Bool}{el:bp}
def Ei(Y:aR):D->Option aR
 |.tup [fR,c1]=>some ((Y.set 0 (.v fR)).set 1 (.v c1))|_=>none
omit [aF.a7]in
theorem J_(Y:aR):∀ds,oo t el Y ds=lz (Ei Y) t el ds
 |[]=>rfl|d::ds=>by
  cases d with
  |tup xs=>
   match xs with
   |[a,b]=>simp only[oo,lz,Ei,J_ Y ds]|[]=>rfl|[_]=>rfl|_::_::_::_=>rfl
  |_=>rfl
def S7:∀ar H Q,fs K mg (r2 cap it t el) ar H Q->tw 2 cap (qa K mg it) (qF K 2 (jE [0,1])) (kW K mg t) (fs K mg el) ar H Q:=by
 rintro ar H Q ⟨O,Y,S,r,av,st,h,q⟩;obtain⟨ds,S1,af,h⟩:=M.inv h;obtain⟨_,a6,ah,h⟩:=M.inv h;obtain⟨hlen,rfl⟩:=qy ah;obtain⟨xs,ia,bN,h⟩:=M.inv h;cases h;rw[J_]at bN;refine⟨O,Y,S,ds,S1,st,af,λaL H1 cm ys g1 aT its bw=>Bm aT hlen (λH' s=>(its H' s _).2 (ak2 bw.len)) (λk d nN aj H' dX cM g' cc=>?_) bN λaj v H' g cc br nn=>q aj v H' (g1.trans g) cc br (nn.back g1.same)⟩;obtain⟨y,e7,bA⟩:=(bj.go g' (bw.dr (k_ aL))).get dX;obtain⟨go,mJ⟩:=(its H' g'.same k).1 (ajs.mp e7).1;refine⟨go,λx aM R jS eG=>?_⟩;obtain⟨rfl,ex⟩:=mJ x aM jS;rw[e7]at ex;cases ex;unfold Ei at cM;split at cM
 .cases cM
  obtain⟨a,wL,gy,dH,iJ,bB,rfl,acm,dj,b_,rfl,acn,rfl⟩:=bA;exact⟨a,[iJ,dj],gy,dH,rfl,iJ,[dj],rfl,dj,[],rfl,rfl,eG _ _ (Go.refl _ _) ((cc.val acm).val acn) (((mP.refl _).set rfl).set rfl)⟩
 .cases cM
end
section
variable{X:aU}{scope esc:Scope}{EN N:List Str}{cap:List Nat}{elt iter:Expr}{ifs:List Expr}{pos d3 p1 dG:Pos}{x y:Str}{it:fi}{t:aR->M Bool}{el:bp}{k:Nat}
def afu(S:k2 esc scope EN N 2 cap)(aA:pf X (.Tuple [.Name x p1,.Name y dG] k d3) iter it)(ag:N[0]? = some x)(ba:N[1]? = some y)
  (iT:∀C aN s H,Loc (cw X scope N C aN s H).env.scope x/\(cw X scope N C aN s H).env.scope.names.lookup x=some .local) (qP:∀C aN s H,Loc (cw X scope N C aN s H).env.scope y/\(cw X scope N C aN s H).env.scope.names.lookup y=some .local)
  (bO:∀C aN s H,pe (cw X scope N C aN s H) ifs t) (ih:∀C aN s H,bk (cw X scope N C aN s H) elt el)
  (he:X.env.scope=esc:=by rfl) (hN:X.N=EN:=by rfl) (aI:X.calm=true:=by rfl) (aC:∀x,akc iter X.env x=pure x:=by intro _;rfl)
  (l_:∀C aN s H,(ajQ [.Name x p1,.Name y dG] (cw X scope N C aN s H).env).length=2/\(ajQ [.Name x p1,.Name y dG] (cw X scope N C aN s H).env).findIdx? (·.1)=none/\
   (ajQ [.Name x p1,.Name y dG] (cw X scope N C aN s H).env).map (·.2)=alR (.Name x p1) (cw X scope N C aN s H).env::(ajQ [.Name y dG] (cw X scope N C aN s H).env).map (·.2)/\
   (ajQ [.Name y dG] (cw X scope N C aN s H).env).map (·.2)=alR (.Name y dG) (cw X scope N C aN s H).env::(ajQ [] (cw X scope N C aN s H).env).map (·.2):=by intros;exact⟨rfl,rfl,rfl,rfl⟩) :
  bk X (.ListComp elt [⟨.Tuple [.Name x p1,.Name y dG] k d3,iter,ifs,0⟩] scope pos) (r2 cap it t el):=
 ⟨ee (D7 (wi:=qa X.K X.mg it) (g:=qF X.K 2 (jE [0,1])) (tt:=kW X.K X.mg t) (te:=fs X.K X.mg el) S aA.un (λC aN s H=>vT aI (vU S.eb ag (iT C aN s H).1 (vU S.eb ba (qP C aN s H).1 Ea (l_ C aN s H).2.2.2 (.inr (qP C aN s H).2)) (l_ C aN s H).2.2.1 (.inr (iT C aN s H).2)) (l_ C aN s H).1 (l_ C aN s H).2.1) (λC aN s H=>(bO C aN s H).un) (λC aN s H=>(ih C aN s H).un) he hN aI aC) S7⟩
end
end a0
namespace a0
open PySem PySem.Spec aF
def IC(N P:List Str)(sc:Scope):Bool:=decide (sc.kind=.function)&&!sc.isCoroutine&&!sc.isGenerator&&decide N.Nodup&&decide (N.take P.length=P)
&&P.all (λx=>decide (sc.names.lookup x=some .local)||decide (sc.names.lookup x=some .cell))&&sc.names.all λy=>decide (y.2≠.free)
def cS{N P:List Str}(h:IC N P sc=true):cf N P sc:=by
 simp only[IC,aj5,Bool.not_eq_true',decide_eq_true_eq,akL,Bool.or_eq_true]at h;exact⟨h.1.1.1.1.1.1,h.1.1.1.1.1.2,h.1.1.1.1.2,h.1.1.1.2,h.1.1.2,h.1.2,h.2⟩
def H0(EN xs:List Str)(cap:List Nat):List Str:=xs++cap.filterMap λk=>EN[k]?
def H2(esc scope:Scope)(EN N:List Str)(n:Nat)(cap:List Nat):Bool:=decide (scope.kind=.function)&&scope.names.all (λy=>decide (y.2≠.cell))&&scope.names.all (λy=>decide (y.2=.local->scope.names.lookup y.1=some .local))
&&scope.names.all (λy=>decide (y.2=.free->esc.names.lookup y.1=some .cell\/esc.names.lookup y.1=some .free))&&decide N.Nodup&&decide (N.length=n+cap.length)
&&(ajI cap.length).all λj=>decide (N[n+j]? = EN[cap.getD j 0]?)&&(match N[n+j]? with|some x=>decide (scope.names.lookup x=some .free)|none=>true)
def ue{EN xs:List Str}(h:H2 esc scope EN (H0 EN xs cap) xs.length cap=true):k2 esc scope EN (H0 EN xs cap) xs.length cap:=by
 simp only[H2,aj5,decide_eq_true_eq,akL]at h;obtain⟨⟨⟨⟨⟨⟨af,ah⟩,bN⟩,dz⟩,fb⟩,gz⟩,VP⟩:=h;refine⟨af,ah,bN,dz,fb,gz,λj aW=>?_⟩;obtain⟨a,b⟩:=VP j (akt.mpr aW);refine⟨a,λx ag=>?_⟩;rw[ag]at b;exact of_decide_eq_true b
def oz{N:List Str}(h:decide N.Nodup=true):N.Nodup:=of_decide_eq_true h
def sW{p:Nat->Prop}(h0:p 0)(af:∀n,p (n+1)):∀n,p n:=λn=>by cases n with|zero=>exact h0|succ n=>exact af n
variable[aF.a7]
def dt{P:ajF}{w:World}{K:aS}{mg:bt}{base:Heap}{x:Str}{st:Stmt}{ps N:List Str}{k:Nat}{m:bE}{b:a3}(d:cp K mg x st ps)(sc:cf N ps (bH st))(hm:m=fnOf ps.length N.length b)
  (ab:∀(f:Addr)(bx:Value)(A:ajM)(outer:List Env)(s:ajp)(H:aw)(E:gE),cE k (A.deeper (akx x (bH st) s.heap.objs.size f bx))->
   f5 (hj eM P w K mg base N x (bH st) f bx A outer s H E).gI (fv st) b):b2 P w K mg base x ps (k+1) (b6 K mg m):=by
 subst hm;exact pA d sc rfl rfl λf bx A outer s H E aB=>(ab f bx A outer s H E aB).un
end a0
set_option maxHeartbeats 8000000
namespace e3
open PySem PySem.Spec aF a0
def top(i:Nat):Stmt:=PySem.Challenge.pw_oneslate_k34_a_deed_ends.main.body.getD i (.Pass ⟨0,0,0,0⟩)
abbrev Nu:Stmt:=top 2
def adb:cf ["thing"] ["thing"] (bH Nu):=cS (by kernel_rfl)
abbrev Nm:Stmt:=top 3
def ac5:cf ["mask","keeper"] ["mask","keeper"] (bH Nm):=cS (by kernel_rfl)
abbrev NT:Stmt:=top 4
def adD:cf ["keepers","mask","keeper"] ["keepers"] (bH NT):=cS (by kernel_rfl)
abbrev Nv:Stmt:=top 5
def ade:cf ["mask"] ["mask"] (bH Nv):=cS (by kernel_rfl)
abbrev tq:Stmt:=top 8
def N4:cf ["grants","opening","grant"] ["grants","opening"] (bH tq):=cS (by kernel_rfl)
abbrev Nl:Stmt:=top 10
def ac4:cf ["grants"] ["grants"] (bH Nl):=cS (by kernel_rfl)
abbrev NX:Stmt:=top 25
def adH:cf ["rule","keepers","part"] ["rule"] (bH NX):=cS (by kernel_rfl)
abbrev NW:Stmt:=top 27
def adG:cf ["rule"] ["rule"] (bH NW):=cS (by kernel_rfl)
abbrev Nj:Stmt:=top 28
def ac2:cf ["rule","mask"] ["rule","mask"] (bH Nj):=cS (by kernel_rfl)
abbrev acE:Stmt:=top 34
abbrev NU:Stmt:=top 35
def adE:cf ["hall"] ["hall"] (bH NU):=cS (by kernel_rfl)
abbrev NV:Stmt:=top 36
def adF:cf ["hall"] ["hall"] (bH NV):=cS (by kernel_rfl)
abbrev Np:Stmt:=top 41
def ac7:cf ["thing"] ["thing"] (bH Np):=cS (by kernel_rfl)
abbrev Nq:Stmt:=top 42
def ac8:cf ["thing"] ["thing"] (bH Nq):=cS (by kernel_rfl)
abbrev acD:Stmt:=top 43
abbrev Nk:Stmt:=top 44
def ac3:cf ["word"] ["word"] (bH Nk):=cS (by kernel_rfl)
abbrev Nr:Stmt:=top 45
def ac9:cf ["kind","thing"] ["kind","thing"] (bH Nr):=cS (by kernel_rfl)
abbrev Nn:Stmt:=top 46
def ac6:cf ["thing","form"] ["thing"] (bH Nn):=cS (by kernel_rfl)
abbrev Nc:Stmt:=top 48
def acW:cf [] [] (bH Nc):=cS (by kernel_rfl)
abbrev NZ:Stmt:=top 50
def adJ:cf ["slate"] ["slate"] (bH NZ):=cS (by kernel_rfl)
abbrev Nt:Stmt:=top 51
def ada:cf ["slate"] ["slate"] (bH Nt):=cS (by kernel_rfl)
abbrev Nd:Stmt:=top 52
def acX:cf ["slate","name","cell"] ["slate","name"] (bH Nd):=cS (by kernel_rfl)
abbrev rl:Stmt:=top 53
def N5:cf ["slate","name","n","cells"] ["slate","name","n"] (bH rl):=cS (by kernel_rfl)
abbrev Nh:Stmt:=top 54
def ac0:cf ["slate","asker","doing"] ["slate","asker"] (bH Nh):=cS (by kernel_rfl)
abbrev rm:Stmt:=top 55
def N6:cf ["slate","asker","number","answer","doings"] ["slate","asker","number","answer"] (bH rm):=cS (by kernel_rfl)
abbrev Ng:Stmt:=top 60
def acZ:cf ["slate","asker","deed"] ["slate","asker","deed"] (bH Ng):=cS (by kernel_rfl)
abbrev Nf:Stmt:=top 61
def acY:cf ["slate","asker","deed","total"] ["slate","asker","deed"] (bH Nf):=cS (by kernel_rfl)
abbrev acB:Stmt:=top 62
abbrev acC:Stmt:=top 65
abbrev acz:Stmt:=top 66
abbrev acx:Stmt:=top 67
abbrev acA:Stmt:=top 68
abbrev acy:Stmt:=top 69
abbrev acw:Stmt:=top 70
abbrev NY:Stmt:=top 72
def adI:cf ["slate","asker","deed","doer"] ["slate","asker","deed"] (bH NY):=cS (by kernel_rfl)
abbrev Ni:Stmt:=top 73
def ac1:cf ["slate","asker","number","deed","made"] ["slate","asker","number","deed"] (bH Ni):=cS (by kernel_rfl)
abbrev Nb:Stmt:=top 75
def acV:cf ["asker","keeper","epoch","stamp"] ["asker","keeper","epoch","stamp"] (bH Nb):=cS (by kernel_rfl)
abbrev N0:Stmt:=top 76
def adK:cf ["asker","keeper","epoch","stamp","load"] ["asker","keeper","epoch","stamp","load"] (bH N0):=cS (by kernel_rfl)
abbrev MY:Stmt:=inClass (top 78) 0
def acG:cf ["self","me","hall"] ["self","me","hall"] (bH MY):=cS (by kernel_rfl)
abbrev EE:Stmt:=inClass (top 78) 1
def acI:cf ["self","deed"] ["self","deed"] (bH EE):=cS (by kernel_rfl)
abbrev M0:Stmt:=inClass (top 78) 2
def acJ:cf ["self"] ["self"] (bH M0):=cS (by kernel_rfl)
abbrev M5:Stmt:=inClass (top 78) 3
def acN:cf ["self","letter"] ["self","letter"] (bH M5):=cS (by kernel_rfl)
abbrev M_:Stmt:=inClass (top 78) 4
def acS:cf ["self"] ["self"] (bH M_):=cS (by kernel_rfl)
abbrev M9:Stmt:=inClass (top 78) 5
def acR:cf ["self"] ["self"] (bH M9):=cS (by kernel_rfl)
abbrev Na:Stmt:=inClass (top 78) 6
def acU:cf ["self"] ["self"] (bH Na):=cS (by kernel_rfl)
abbrev M':Stmt:=inClass (top 78) 7
def acT:cf ["self"] ["self"] (bH M'):=cS (by kernel_rfl)
abbrev M8:Stmt:=inClass (top 78) 10
def acQ:cf ["self","letter"] ["self","letter"] (bH M8):=cS (by kernel_rfl)
abbrev MZ:Stmt:=inClass (top 78) 11
def acH:cf ["self"] ["self"] (bH MZ):=cS (by kernel_rfl)
abbrev M6:Stmt:=inClass (top 78) 12
def acO:cf ["self","letter"] ["self","letter"] (bH M6):=cS (by kernel_rfl)
abbrev M4:Stmt:=inClass (top 78) 13
def acM:cf ["self","pair","load"] ["self","pair"] (bH M4):=cS (by kernel_rfl)
abbrev acv:Stmt:=inClass (top 78) 14
abbrev M7:Stmt:=inClass (top 78) 15
def acP:cf ["self","letter","shut"] ["self","letter"] (bH M7):=cS (by kernel_rfl)
abbrev M1:Stmt:=inClass (top 78) 16
def acK:cf ["self","slate","doing"] ["self"] (bH M1):=cS (by kernel_rfl)
abbrev acu:Stmt:=inClass (top 78) 17
abbrev acs:Stmt:=inClass (top 78) 18
abbrev M3:Stmt:=inClass (top 78) 19
def acL:cf ["self","outcome"] ["self","outcome"] (bH M3):=cS (by kernel_rfl)
abbrev Nz:Stmt:=top 80
def adj:cf ["script","k"] ["script","k"] (bH Nz):=cS (by kernel_rfl)
abbrev NO:Stmt:=top 81
def ady:cf ["found","due","one","other"] ["found","due"] (bH NO):=cS (by kernel_rfl)
abbrev NR:Stmt:=top 82
def adB:cf ["rule","shift"] ["rule","shift"] (bH NR):=cS (by kernel_rfl)
abbrev NH:Stmt:=top 83
def adq:cf ["cell","three","rows","columns","some","asking","keeping"] ["cell"] (bH NH):=cS (by kernel_rfl)
abbrev NM:Stmt:=top 84
def adw:cf ["rule","found","part"] ["rule"] (bH NM):=cS (by kernel_rfl)
abbrev NK:Stmt:=top 85
def adu:cf ["hall","there"] ["hall"] (bH NK):=cS (by kernel_rfl)
abbrev ND:Stmt:=top 86
def adn:cf ["rule","keepers"] ["rule","keepers"] (bH ND):=cS (by kernel_rfl)
abbrev NL:Stmt:=top 87
def adv:cf ["cell","size","at","name","k"] ["cell"] (bH NL):=cS (by kernel_rfl)
abbrev NA:Stmt:=top 88
def adk:cf ["cell","seed","number"] ["cell","seed"] (bH NA):=cS (by kernel_rfl)
abbrev NB:Stmt:=top 89
def adl:cf ["slate","me","number","deed","cells","doings","lease","shut","later","answer","have","now","rest"] ["slate","me","number","deed"] (bH NB):=cS (by kernel_rfl)
abbrev NN:Stmt:=top 90
def adx:cf ["books","keeper","epoch"] ["books","keeper","epoch"] (bH NN):=cS (by kernel_rfl)
abbrev NI:Stmt:=top 91
def ads:cf ["books","letter","word","asker","keeper","epoch","stamp","load","promised","kept","slate"] ["books","letter"] (bH NI):=cS (by kernel_rfl)
abbrev Nx:Stmt:=top 92
def adh:cf ["me","place","stamp"] ["me","place","stamp"] (bH Nx):=cS (by kernel_rfl)
abbrev Ny:Stmt:=top 93
def adi:cf ["grants","opening","best","slate","keeper","kept","told"] ["grants","opening"] (bH Ny):=cS (by kernel_rfl)
abbrev NP:Stmt:=top 94
def adz:cf ["me","place","stamp","number","deed","grants","best","slate","load"] ["me","place","stamp","number","deed","grants"] (bH NP):=cS (by kernel_rfl)
abbrev NF:Stmt:=top 95
def ado:cf ["books","place","ghost","number","deed","cell","members","top","asked","told","grants","ask","answer","tell"] ["books","place","ghost","number","deed","cell"] (bH NF):=cS (by kernel_rfl)
abbrev NJ:Stmt:=top 96
def adt:cf ["cell","keepers"] ["cell"] (bH NJ):=cS (by kernel_rfl)
abbrev Nw:Stmt:=top 97
def adg:cf ["one","world","letters","living","shift","tells","grants","k","letter","answer"] ["one","world","letters","living","shift"] (bH Nw):=cS (by kernel_rfl)
abbrev NC:Stmt:=top 98
def adm:cf ["one","world","marks","told","due","answer","stand"] ["one","world","marks","told"] (bH NC):=cS (by kernel_rfl)
abbrev NG:Stmt:=top 99
def adp:cf ["world","cell","seed","ghost"] ["world","cell","seed"] (bH NG):=cS (by kernel_rfl)
abbrev NQ:Stmt:=top 100
def adA:cf ["one","world","tells","cell","seed","marks","told","k","letter","answer","again"] ["one","world","tells","cell","seed"] (bH NQ):=cS (by kernel_rfl)
abbrev NS:Stmt:=top 101
def adC:cf ["one","world","cell","seed","letters","tells","grants","due"] ["one","world","cell","seed"] (bH NS):=cS (by kernel_rfl)
abbrev wb:Stmt:=top 102
def adf:cf ["script","hall","me","seed","place","world","one","cell"] ["script"] (bH wb):=cS (by kernel_rfl)
abbrev ze:List Str:=["me","epoch","hall","opening","over_known","greatest_round","last_stamp","wishes","deed","standing","last_outcome","grants","kept_mask","told_slate"]
abbrev sF:List (Str×D):=[("put",.tup [(.str "name"),(.str "number")]),("add",.tup [(.str "name"),(.str "number")]),("swap",.tup [(.str "name"),(.str "number"),(.str "number")]),("take",.tup [(.str "fence")]),("renew",.tup [(.str "fence")]),("free",.tup [(.str "fence")]),("sure",.tup [(.str "fence"),(.str "name"),(.str "number")]),("move",.tup [(.str "hall")]),("end",.tup [])]
abbrev ru:List (Str×Str):=[("put","do_put"),("add","do_add"),("swap","do_swap"),("take","do_take"),("renew","do_renew"),("free","do_free"),("sure","do_sure"),("move","do_move"),("end","do_end")]
structure Txt[aF.a7](P:ajF)(w:World)(K:aS)(mg:bt)(base:Heap):Prop where
 T8:cp K mg "is_whole" Nu ["thing"]
 TY:cp K mg "has_keeper" Nm ["mask","keeper"]
 Ur:cp K mg "mask_of" NT ["keepers"]
 T9:cp K mg "keepers_of" Nv ["mask"]
 TZ:cp K mg "highest" tq ["grants","opening"]
 TX:cp K mg "granters" Nl ["grants"]
 H9:cp K mg "namings" NX ["rule"]
 Uu:cp K mg "named" NW ["rule"]
 H4:cp K mg "fills" Nj ["rule","mask"]
 T3:cp K mg "is_hall" acE ["thing"]
 Us:cp K mg "members_mask" NU ["hall"]
 Ut:cp K mg "members_of" NV ["hall"]
 T4:cp K mg "is_name" Np ["thing"]
 T5:cp K mg "is_number" Nq ["thing"]
 T2:cp K mg "is_fence" acD ["thing"]
 TS:cp K mg "form_of" Nk ["word"]
 T6:cp K mg "is_part" Nr ["kind","thing"]
 T1:cp K mg "is_deed" Nn ["thing"]
 TC:cp K mg "blank" Nc []
 Ux:cp K mg "shut_of" NZ ["slate"]
 T7:cp K mg "is_shut" Nt ["slate"]
 TF:cp K mg "cell_of" Nd ["slate","name"]
 Uz:cp K mg "with_cell" rl ["slate","name","n"]
 TQ:cp K mg "doing_of" Nh ["slate","asker"]
 UA:cp K mg "with_doing" rm ["slate","asker","number","answer"]
 TL:cp K mg "do_put" Ng ["slate","asker","deed"]
 TG:cp K mg "do_add" Nf ["slate","asker","deed"]
 TO:cp K mg "do_swap" acB ["slate","asker","deed"]
 TP:cp K mg "do_take" acC ["slate","asker","deed"]
 TM:cp K mg "do_renew" acz ["slate","asker","deed"]
 TJ:cp K mg "do_free" acx ["slate","asker","deed"]
 TN:cp K mg "do_sure" acA ["slate","asker","deed"]
 TK:cp K mg "do_move" acy ["slate","asker","deed"]
 TH:cp K mg "do_end" acw ["slate","asker","deed"]
 Uv:cp K mg "outcome_of" NY ["slate","asker","deed"]
 TR:cp K mg "done_on" Ni ["slate","asker","number","deed"]
 TB:cp K mg "ask_letter" Nb ["asker","keeper","epoch","stamp"]
 Uy:cp K mg "tell_letter" N0 ["asker","keeper","epoch","stamp","load"]
 Tg:hc K mg "Asker" "__init__" "Asker.__init__" MY ["self","me","hall"]
 Bp:wV K mg "Asker" "begin" "Asker.begin" EE ["self","deed"]
 Ti:hc K mg "Asker" "bell" "Asker.bell" M0 ["self"]
 Tq:hc K mg "Asker" "hear" "Asker.hear" M5 ["self","letter"]
 Tw:hc K mg "Asker" "outcome" "Asker.outcome" M_ ["self"]
 Tv:hc K mg "Asker" "number" "Asker.number" M9 ["self"]
 TA:hc K mg "Asker" "stand" "Asker.stand" Na ["self"]
 Tz:hc K mg "Asker" "stamp" "Asker.stamp" M' ["self"]
 Tt:hc K mg "Asker" "is_for_now" "Asker.is_for_now" M8 ["self","letter"]
 Th:hc K mg "Asker" "ask_members" "Asker.ask_members" MZ ["self"]
 Tr:hc K mg "Asker" "hear_grant" "Asker.hear_grant" M6 ["self","letter"]
 To:hc K mg "Asker" "go_on" "Asker.go_on" M4 ["self","pair"]
 Tx:hc K mg "Asker" "sees_at_once" "Asker.sees_at_once" acv ["self","slate"]
 Ts:hc K mg "Asker" "hear_kept" "Asker.hear_kept" M7 ["self","letter"]
 Tj:hc K mg "Asker" "end_where_told" "Asker.end_where_told" M1 ["self"]
 Tu:hc K mg "Asker" "learn_over" "Asker.learn_over" acu ["self"]
 Tp:hc K mg "Asker" "go_over" "Asker.go_over" acs ["self","hall"]
 Tn:hc K mg "Asker" "end_wish" "Asker.end_wish" M3 ["self","outcome"]
 Ub:cp K mg "_law_cell_at" Nz ["script","k"]
 H7:cp K mg "_law_same" NO ["found","due"]
 H8:cp K mg "_law_turned" NR ["rule","shift"]
 Ui:cp K mg "_law_hall" NH ["cell"]
 H6:cp K mg "_law_named" NM ["rule"]
 Ul:cp K mg "_law_members" NK ["hall"]
 H5:cp K mg "_law_filled" ND ["rule","keepers"]
 Um:cp K mg "_law_name" NL ["cell"]
 Uc:cp K mg "_law_deed" NA ["cell","seed"]
 Ud:cp K mg "_law_done" NB ["slate","me","number","deed"]
 Un:cp K mg "_law_page" NN ["books","keeper","epoch"]
 Uj:cp K mg "_law_heard" NI ["books","letter"]
 T':cp K mg "_law_asks" Nx ["me","place","stamp"]
 Ua:cp K mg "_law_best" Ny ["grants","opening"]
 Uo:cp K mg "_law_tells" NP ["me","place","stamp","number","deed","grants"]
 Ug:cp K mg "_law_ghost" NF ["books","place","ghost","number","deed","cell"]
 Uk:cp K mg "_law_living" NJ ["cell"]
 T_:cp K mg "_law_asked_all" Nw ["one","world","letters","living","shift"]
 Ue:cp K mg "_law_ended" NC ["one","world","marks","told"]
 Uh:cp K mg "_law_ghosted" NG ["world","cell","seed"]
 Up:cp K mg "_law_told_all" NQ ["one","world","tells","cell","seed"]
 Uq:cp K mg "_law_wish" NS ["one","world","cell","seed"]
 Bq:cp K mg "law" wb ["script"]
 nW:oY K mg "Asker" ze
 B0:∃u,mg "SMALL_LETTERS"=some u/\RelV (.str "abcdefghijklmnopqrstuvwxyz") u
 BZ:∃u,mg "MOST_LETTERS"=some u/\RelV (.int 8) u
 zU:tQ P w K mg "DOERS" ru
 CT:KTab P w K mg "FORMS" sF
 C4:∃c o8,mT K c o8 (pO "highest")/\∀(f:Addr)(dv:Value)(c3:Option Addr)(cB doc pm:Value)(an:Option Addr)(bx ct:Value)(fA:Array (Option Value)),mg "highest"=some (.ref f)->K.lookup f=some ⟨dv,c3,.func (ala "highest" "highest" (ie tq) (fv tq) (bH tq) .none cB doc pm an bx ct),fA⟩->bx=.ref c
 C_:∃c o8,mT K c o8 (pO "with_cell")/\∀(f:Addr)(dv:Value)(c3:Option Addr)(cB doc pm:Value)(an:Option Addr)(bx ct:Value)(fA:Array (Option Value)),mg "with_cell"=some (.ref f)->K.lookup f=some ⟨dv,c3,.func (ala "with_cell" "with_cell" (ie rl) (fv rl) (bH rl) .none cB doc pm an bx ct),fA⟩->bx=.ref c
 C':∃c o8,mT K c o8 (pO "with_doing")/\∀(f:Addr)(dv:Value)(c3:Option Addr)(cB doc pm:Value)(an:Option Addr)(bx ct:Value)(fA:Array (Option Value)),mg "with_doing"=some (.ref f)->K.lookup f=some ⟨dv,c3,.func (ala "with_doing" "with_doing" (ie rm) (fv rm) (bH rm) .none cB doc pm an bx ct),fA⟩->bx=.ref c
 bm:kk base mg
 B:Fo mg
 kt:tS K
section
variable[aF.a7]{P:ajF}{w:World}{K:aS}{mg:bt}{base:Heap}
def Q':a3:=
  (bG (k' (cH hT (U (I 0) (U (aa (.ty "int")) ak))) (xv (cH hT (U (I 0) (U (aa (.ty "bool")) ak))))))
def sM:bE:=fnOf 1 1 Q'
def Gq:a3:=
  (bG (ae oEq (ae DL (ae DN (I 0) (I 1)) (aa (.int 1))) (aa (.int 1))))
def pS:bE:=fnOf 2 2 Gq
def C8:a3:=
  (b7 1 (ae s' (I 1) (ae DM (aa (.int 1)) (I 2))))
def Hb:a3:=
  (bG (I 1))
def Ha:a3:=
  bZ (nU 2 (CG (I 0)) C8) Hb
def G':a3:=
  bZ (b7 1 (aa (.int 0))) Ha
def sS:bE:=fnOf 1 3 G'
def GD:a3:=
  (bG (eX 1 [0] (iE (U (bS oBits (I 0)) ak)) (a5 (bM pS (U (I 1) (U (I 0) ak)))) (I 0)))
def y1:bE:=fnOf 1 1 GD
def Gs:a3:=
  (bG (bD (U (ae aK (I 2) (aa (.int 1))) (U (ae aK (I 2) (aa (.int 2))) ak))))
def Gr:a3:=
  bZ (cW (a5 (ae oEq (ae aK (I 2) (aa (.int 1))) (bD (U (aa (.int 0)) (U (aa (.int 0)) ak))))) (bG (bD (U (ae aK (I 2) (aa (.int 1))) (U (I 1) ak)))) cq) Gs
def A0:a3:=
  bZ (b7 2 (xu (fnOf 1 1 (bG (ae aK (I 0) (aa (.int 1))))) (I 0))) Gr
def yY:bE:=fnOf 2 3 A0
def Wu(T:Txt P w K mg base):b2 P w K mg base "highest" ["grants","opening"] 4 (b6 K mg yY):=by
 show b2 P w K mg base _ _ _ (b6 K mg (fnOf 2 3 A0));obtain⟨c,o8,L,aI⟩:=T.C4;refine Cc (k:=3) T.TZ aI N4 rfl rfl λf A outer s H E aB=>?_
 have cx:=aB.units;refine f5.un ?_;refine qh ?_ (qh ?_ (rG ?_))
 .exact(Fc (i:=2) N4.eb rfl (.inl rfl) (afz (k:=0) (N:=["one"]) (p1:="one") rfl T.B.max (aB.mono (by omega)) L T.bm rfl rfl ⟨rfl,rfl,rfl,by decide +kernel,rfl,by decide +kernel,by decide +kernel⟩ (λ_ _ _ _=>rfl) (λ_ _ _ _ _ _=>(iv il ic (eT 0) hq)) (eT 0)))
 .exact(Fb (jq (D1 cx) AQ (iv il ic (eT 2) hq) (qg (f' hq (f' hq kY)))) (rG (tG (qg (f' (iv il ic (eT 2) hq) (f' (eT 1) kY))))) Fd)
 .exact(tG (qg (f' (iv il ic (eT 2) hq) (f' (iv il ic (eT 2) hq) kY))))
def Gp:a3:=
  (bG (bM sS (U (eX 1 [] (kH (I 0)) g_ (ae aK (I 0) (aa (.int 0)))) ak)))
def pR:bE:=fnOf 1 1 Gp
def C9(self:bE):a3:=
  (j0 1 wx (U (bM self (U (I 2) ak)) ak))
def Hh(self:bE):a3:=
  (xw 1)
def Hg(self:bE):a3:=
  bZ (nU 2 (hX (ae aK (I 0) (aa (.int 1)))) (C9 self)) (Hh self)
def Hf(self:bE):a3:=
  bZ (jB 1 (dS ak)) (Hg self)
def xk(self:bE):a3:=
  bZ (cW (a5 (bM sM (U (I 0) ak))) (bG (dS (U (I 0) ak))) cq) (Hf self)
def pT:Nat->bE
 |0=>λ_=>bad
 |n+1=>fnOf 1 3 (xk (pT n))
def He:a3:=
  (bG (bM sS (U (bM (pT 12) (U (I 0) ak)) ak)))
def vu:bE:=fnOf 1 1 He
def Gm(self:bE):a3:=
  (bG (ae oD (cH f7 (U (eX 1 [1] (hX (ae aK (I 0) (aa (.int 1)))) (a5 (bM self (U (I 0) (U (I 1) ak)))) (I 0)) ak)) (ae aK (I 0) (aa (.int 0)))))
def xg(self:bE):a3:=
  bZ (cW (a5 (bM sM (U (I 0) ak))) (bG (bM pS (U (I 1) (U (I 0) ak)))) cq) (Gm self)
def kL:Nat->bE
 |0=>λ_=>bad
 |n+1=>fnOf 2 2 (xg (kL n))
def Lo:bE:=λ_=>bad
def Wx(T:Txt P w K mg base):b2 P w K mg base "is_hall" ["thing"] 1 (b6 K mg Lo):=T.T3.none (by rintro vs H Q E ⟨O,ds,r,S,_,_,_,h,_⟩;cases h)
def Hc:a3:=
  (bG (ae s' (bM vu (U (ae aK (I 0) (aa (.int 0))) ak)) (bM vu (U (ae aK (I 0) (aa (.int 1))) ak))))
def y6:bE:=fnOf 1 1 Hc
def Hd:a3:=
  (bG (bM y1 (U (bM y6 (U (I 0) ak)) ak)))
def nr:bE:=fnOf 1 1 Hd
def Gz:a3:=
  (bG (cH se (U (eX 1 [] (JR (I 0)) g_ (ae (rf false) (I 0) (aa (.str "abcdefghijklmnopqrstuvwxyz")))) ak)))
def Gy:a3:=
  bZ (cW (i4 (g9 (a5 (cH hT (U (I 0) (U (aa (.ty "str")) ak))))) (g9 (a5 (jZ oLe oLe (aa (.int 1)) (cH uw (U (I 0) ak)) (aa (.int 8)))))) (bG (aa (.aE false))) cq) Gz
def yZ:bE:=fnOf 1 1 Gy
def GA:a3:=
  (bG (k' (bM sM (U (I 0) ak)) (ae oLt (cH uu (U (I 0) ak)) (ae mn (aa (.int 10)) (aa (.int 60))))))
def y0:bE:=fnOf 1 1 GA
def Ln:bE:=λ_=>bad
def Ww(T:Txt P w K mg base):b2 P w K mg base "is_fence" ["thing"] 1 (b6 K mg Ln):=T.T2.none (by rintro vs H Q E ⟨O,ds,r,S,_,_,_,h,_⟩;cases h)
def Gn:a3:=
  (bG (Bf sF (I 0)))
def Dq:bE:=fnOf 1 1 Gn
def Q_:a3:=
  (bG (bM Lo (U (I 1) ak)))
def Q9:a3:=
  bZ (cW (a5 (ae oEq (I 0) (aa (.str "fence")))) (bG (bM Ln (U (I 1) ak))) cq) Q_
def GB:a3:=
  bZ (cW (a5 (ae oEq (I 0) (aa (.str "number")))) (bG (bM y0 (U (I 1) ak))) cq) Q9
def A1:a3:=
  bZ (cW (a5 (ae oEq (I 0) (aa (.str "name")))) (bG (bM yZ (U (I 1) ak))) cq) GB
def q7:bE:=fnOf 2 2 A1
def Gx:a3:=
  (bG (cH se (U (ua [] (U (I 1) (U (Bd (I 0) (r4 (aa (.int 1))) Bc) ak)) g_ (bM q7 (U (I 0) (U (I 1) ak)))) ak)))
def Gw:a3:=
  bZ (cW (i4 (a5 (ae jK (I 1) (aa (.aQ)))) (a5 (ae eJ (cH f7 (U (I 0) ak)) (ae fN (cH f7 (U (I 1) ak)) (aa (.int 1)))))) (bG (aa (.aE false))) cq) Gx
def Gv:a3:=
  bZ (b7 1 (bM Dq (U (ae aK (I 0) (aa (.int 0))) ak))) Gw
def Gu:a3:=
  bZ (cW (i4 (g9 (a5 (cH hT (U (I 0) (U (aa (.ty "tuple")) ak))))) (i4 (a5 (ae oEq (cH f7 (U (I 0) ak)) (aa (.int 0)))) (g9 (a5 (cH hT (U (ae aK (I 0) (aa (.int 0))) (U (aa (.ty "str")) ak))))))) (bG (aa (.aE false))) cq) Gv
def vp:bE:=fnOf 1 2 Gu
def Q8:a3:=
  (bG (bD (U (bD ak) (U (bD ak) (U (bD (U (aa (.int 0)) (U (aa (.aQ)) ak))) (U (aa (.aQ)) ak))))))
def Lf:bE:=fnOf 0 0 Q8
def Hi:a3:=
  (bG (ae aK (I 0) (aa (.int 3))))
def q9:bE:=fnOf 1 1 Hi
def GC:a3:=
  (bG (ae jL (bM q9 (U (I 0) ak)) (aa (.aQ))))
def vq:bE:=fnOf 1 1 GC
def yJ:a3:=
  (cW (a5 (ae oEq (ae aK (I 2) (aa (.int 0))) (I 1))) (bG (ae aK (I 2) (aa (.int 1)))) cq)
def Gg:a3:=
  (bG (aa (.int 0)))
def Gf:a3:=
  bZ (nU 2 (hX (ae aK (I 0) (aa (.int 0)))) yJ) Gg
def vm:bE:=fnOf 2 3 Gf
def Hk:a3:=
  (bG (bD (U (cH l0 (U (qw ip (fnOf 1 1 (bG (ae aK (I 0) (aa (.int 0))))) (I 3)) ak)) (U (ae aK (I 0) (aa (.int 1))) (U (ae aK (I 0) (aa (.int 2))) (U (ae aK (I 0) (aa (.int 3))) ak))))))
def Hj:a3:=
  bZ (cW (a5 (ae eJ (I 2) (aa (.int 0)))) (j0 3 hH (U (bD (U (I 1) (U (I 2) ak))) ak)) cq) Hk
def A5:a3:=
  bZ (jB 3 (eX 1 [1] (hX (ae aK (I 0) (aa (.int 0)))) (a5 (ae eJ (ae aK (I 0) (aa (.int 0))) (I 1))) (I 0))) Hj
def vv:bE:=fnOf 3 4 A5
def W'(T:Txt P w K mg base):b2 P w K mg base "with_cell" ["slate","name","n"] 4 (b6 K mg vv):=by
 show b2 P w K mg base _ _ _ (b6 K mg (fnOf 3 4 A5));obtain⟨c,o8,L,aI⟩:=T.C_;refine Cc (k:=3) T.Uz aI N5 rfl rfl λf A outer s H E aB=>?_
 have cx:=aB.units;refine f5.un ?_;refine qh ?_ (qh ?_ (rG ?_))
 .exact(E' (i:=3) (esc:=(bH rl)) (EN:=["slate","name","n","cells"]) (N:=["cell","name"]) (n:=1) (cap:=[1]) ⟨rfl,by decide +kernel,by decide +kernel,by decide +kernel,by decide +kernel,rfl,by decide +kernel⟩ N5.eb rfl rfl (by decide) (E7 (iv il ic (eT 0) hq)) rfl (λ_ _ _ _=>⟨alk rfl,rfl⟩) (λ_ _ _ _=>(E9 (jq (zm cx) xf (iv il ic (eT 0) hq) (eT 1)))) (λ_ _ _ _=>(eT 0)))
 .exact(Fb (jq (zm cx) xf (eT 2) hq) (rG (z6 (i:=3) alL alM vz yQ (f' (qg (f' (eT 1) (f' (eT 2) kY))) kY) rfl (.inl rfl))) Fd)
 .exact(tG (qg (f' (E8 Bh CS rfl T.B.tuple' xq (f' (O5 (k:=0) (N:=["cell"]) (p1:="cell") Kx rfl T.B.sorted (aB.mono (by omega)) L T.bm rfl rfl ⟨rfl,rfl,rfl,by decide +kernel,rfl,by decide +kernel,by decide +kernel⟩ (λ_ _ _ _=>rfl) (λ_ _ _ _ _ _=>(iv il ic (eT 0) hq)) (eT 3)) kY)) (f' (iv il ic (eT 0) hq) (f' (iv il ic (eT 0) hq) (f' (iv il ic (eT 0) hq) kY))))))
def yK:a3:=
  (cW (a5 (ae oEq (ae aK (I 2) (aa (.int 0))) (I 1))) (bG (I 2)) cq)
def Gl:a3:=
  (bG (bD (U (I 1) (U (aa (.int 0)) (U (aa (.aQ)) ak)))))
def Gk:a3:=
  bZ (nU 2 (hX (ae aK (I 0) (aa (.int 1)))) yK) Gl
def q6:bE:=fnOf 2 3 Gk
def Hm:a3:=
  (bG (bD (U (ae aK (I 0) (aa (.int 0))) (U (cH l0 (U (qw fM (fnOf 1 1 (bG (ae aK (I 0) (aa (.int 0))))) (I 4)) ak)) (U (ae aK (I 0) (aa (.int 2))) (U (ae aK (I 0) (aa (.int 3))) ak))))))
def Hl:a3:=
  bZ (j0 4 hH (U (bD (U (I 1) (U (I 2) (U (I 3) ak)))) ak)) Hm
def A6:a3:=
  bZ (jB 4 (eX 1 [1] (hX (ae aK (I 0) (aa (.int 1)))) (a5 (ae eJ (ae aK (I 0) (aa (.int 0))) (I 1))) (I 0))) Hl
def y7:bE:=fnOf 4 5 A6
def Xa(T:Txt P w K mg base):b2 P w K mg base "with_doing" ["slate","asker","number","answer"] 4 (b6 K mg y7):=by
 show b2 P w K mg base _ _ _ (b6 K mg (fnOf 4 5 A6));obtain⟨c,o8,L,aI⟩:=T.C';refine Cc (k:=3) T.UA aI N6 rfl rfl λf A outer s H E aB=>?_
 have cx:=aB.units;refine f5.un ?_;refine qh ?_ (qh ?_ (rG ?_))
 .exact(E' (i:=4) (esc:=(bH rm)) (EN:=["slate","asker","number","answer","doings"]) (N:=["doing","asker"]) (n:=1) (cap:=[1]) ⟨rfl,by decide +kernel,by decide +kernel,by decide +kernel,by decide +kernel,rfl,by decide +kernel⟩ N6.eb rfl rfl (by decide) (E7 (iv il ic (eT 0) hq)) rfl (λ_ _ _ _=>⟨alk rfl,rfl⟩) (λ_ _ _ _=>(E9 (jq (zm cx) xf (iv il ic (eT 0) hq) (eT 1)))) (λ_ _ _ _=>(eT 0)))
 .exact(z6 (i:=4) alL alM vz yQ (f' (qg (f' (eT 1) (f' (eT 2) (f' (eT 3) kY)))) kY) rfl (.inl rfl))
 .exact(tG (qg (f' (iv il ic (eT 0) hq) (f' (E8 Bh CS rfl T.B.tuple' xq (f' (O5 (k:=0) (N:=["doing"]) (p1:="doing") Kw rfl T.B.sorted (aB.mono (by omega)) L T.bm rfl rfl ⟨rfl,rfl,rfl,by decide +kernel,rfl,by decide +kernel,by decide +kernel⟩ (λ_ _ _ _=>rfl) (λ_ _ _ _ _ _=>(iv il ic (eT 0) hq)) (eT 4)) kY)) (f' (iv il ic (eT 0) hq) (f' (iv il ic (eT 0) hq) kY))))))
def Gj:a3:=
  (bG (bD (U (bM vv (U (I 0) (U (ae aK (I 2) (aa (.int 1))) (U (ae aK (I 2) (aa (.int 2))) ak)))) (U (bM vm (U (I 0) (U (ae aK (I 2) (aa (.int 1))) ak))) ak))))
def vo:bE:=fnOf 3 3 Gj
def Gi:a3:=
  (bG (bD (U (bM vv (U (I 0) (U (ae aK (I 2) (aa (.int 1))) (U (I 3) ak)))) (U (I 3) ak))))
def Gh:a3:=
  bZ (b7 3 (ae fN (bM vm (U (I 0) (U (ae aK (I 2) (aa (.int 1))) ak))) (ae aK (I 2) (aa (.int 2))))) Gi
def vn:bE:=fnOf 3 4 Gh
def Ll:bE:=λ_=>bad
def Jk(T:Txt P w K mg base):b2 P w K mg base "do_swap" ["slate","asker","deed"] 1 (b6 K mg Ll):=T.TO.none (by rintro vs H Q E ⟨O,ds,r,S,_,_,_,h,_⟩;cases h)
def Lm:bE:=λ_=>bad
def Jl(T:Txt P w K mg base):b2 P w K mg base "do_take" ["slate","asker","deed"] 1 (b6 K mg Lm):=T.TP.none (by rintro vs H Q E ⟨O,ds,r,S,_,_,_,h,_⟩;cases h)
def Lj:bE:=λ_=>bad
def Ji(T:Txt P w K mg base):b2 P w K mg base "do_renew" ["slate","asker","deed"] 1 (b6 K mg Lj):=T.TM.none (by rintro vs H Q E ⟨O,ds,r,S,_,_,_,h,_⟩;cases h)
def Lh:bE:=λ_=>bad
def Jf(T:Txt P w K mg base):b2 P w K mg base "do_free" ["slate","asker","deed"] 1 (b6 K mg Lh):=T.TJ.none (by rintro vs H Q E ⟨O,ds,r,S,_,_,_,h,_⟩;cases h)
def Lk:bE:=λ_=>bad
def Jj(T:Txt P w K mg base):b2 P w K mg base "do_sure" ["slate","asker","deed"] 1 (b6 K mg Lk):=T.TN.none (by rintro vs H Q E ⟨O,ds,r,S,_,_,_,h,_⟩;cases h)
def Li:bE:=λ_=>bad
def Jg(T:Txt P w K mg base):b2 P w K mg base "do_move" ["slate","asker","deed"] 1 (b6 K mg Li):=T.TK.none (by rintro vs H Q E ⟨O,ds,r,S,_,_,_,h,_⟩;cases h)
def Lg:bE:=λ_=>bad
def Je(T:Txt P w K mg base):b2 P w K mg base "do_end" ["slate","asker","deed"] 1 (b6 K mg Lg):=T.TH.none (by rintro vs H Q E ⟨O,ds,r,S,_,_,_,h,_⟩;cases h)
abbrev uz:List (Str×bE):=[("do_put",vo),("do_add",vn),("do_swap",Ll),("do_take",Lm),("do_renew",Lj),("do_free",Lh),("do_sure",Lk),("do_move",Li),("do_end",Lg)]
def A4:a3:=
  (bG (Bb 3 uz (U (I 0) (U (I 1) (U (I 2) ak)))))
def xl:a3:=
  bZ (b7 3 (Be ru (ae aK (I 2) (aa (.int 0))))) A4
def nt:bE:=fnOf 3 4 xl
def AZ:a3:=
  (bG (bM y7 (U (ae aK (I 4) (aa (.int 0))) (U (I 1) (U (I 2) (U (ae aK (I 4) (aa (.int 1))) ak))))))
def AY:a3:=
  bZ (b7 4 (bM nt (U (I 0) (U (I 1) (U (I 3) ak))))) AZ
def AX:a3:=
  bZ (cW (i4 (a5 (ae jK (I 3) (aa (.aQ)))) (i4 (a5 (bM vq (U (I 0) ak))) (a5 (ae oD (ae aK (bM q6 (U (I 0) (U (I 1) ak))) (aa (.int 1))) (I 2))))) (bG (I 0)) cq) AY
def nj:bE:=fnOf 4 5 AX
def Q7:a3:=
  (bG (bD (U (aa (.str "ask")) (U (I 0) (U (I 1) (U (I 2) (U (I 3) (U (bD ak) ak))))))))
def Le:bE:=fnOf 4 4 Q7
def Sb:a3:=
  (bG (bD (U (aa (.str "tell")) (U (I 0) (U (I 1) (U (I 2) (U (I 3) (U (I 4) ak))))))))
def Lp:bE:=fnOf 5 5 Sb
def Qs:bl:=
  (eZ "Asker" "told_slate" (I 0) (da (aa (.aQ))))
def Qr:bl:=
  bK (eZ "Asker" "kept_mask" (I 0) (da (aa (.int 0)))) Qs
def Qq:bl:=
  bK (eZ "Asker" "grants" (I 0) (oT (da (dS ak)))) Qr
def Qp:bl:=
  bK (eZ "Asker" "last_outcome" (I 0) (da (aa (.aQ)))) Qq
def QA:bl:=
  bK (eZ "Asker" "standing" (I 0) (da (aa (.str "calm")))) Qp
def Qz:bl:=
  bK (eZ "Asker" "deed" (I 0) (da (aa (.aQ)))) QA
def Qy:bl:=
  bK (eZ "Asker" "wishes" (I 0) (da (aa (.int 0)))) Qz
def Qx:bl:=
  bK (eZ "Asker" "last_stamp" (I 0) (da (bD (U (aa (.int 0)) (U (aa (.int 0)) ak))))) Qy
def Qw:bl:=
  bK (eZ "Asker" "greatest_round" (I 0) (da (aa (.int 0)))) Qx
def Qv:bl:=
  bK (eZ "Asker" "over_known" (I 0) (da (aa (.aE false)))) Qw
def Qu:bl:=
  bK (eZ "Asker" "opening" (I 0) (da (bM Lf ak))) Qv
def Qt:bl:=
  bK (eZ "Asker" "hall" (I 0) (da (I 2))) Qu
def Qo:bl:=
  bK (eZ "Asker" "epoch" (I 0) (da (aa (.int 0)))) Qt
def AS:bl:=
  bK (eZ "Asker" "me" (I 0) (da (I 1))) Qo
def yR:e':=fnX 3 3 AS
def QE:bl:=
  (b9 (bG (eX 1 [0] (kH (bM nr (U (bS (cQ "Asker" "hall") (I 0)) ak))) g_ (bM Le (U (bS (cQ "Asker" "me") (I 1)) (U (I 0) (U (bS (cQ "Asker" "epoch") (I 1)) (U (bS (cQ "Asker" "last_stamp") (I 1)) ak))))))))
def QD:bl:=
  bK (eZ "Asker" "grants" (I 0) (oT (da (dS ak)))) QE
def QC:bl:=
  bK (eZ "Asker" "standing" (I 0) (da (aa (.str "asking")))) QD
def QB:bl:=
  bK (eZ "Asker" "last_stamp" (I 0) (da (bD (U (bS (cQ "Asker" "greatest_round") (I 0)) (U (bS (cQ "Asker" "me") (I 0)) ak))))) QC
def F4:bl:=
  bK (eZ "Asker" "greatest_round" (I 0) (da (ae fN (bS (cQ "Asker" "greatest_round") (I 0)) (aa (.int 1))))) QB
def yS:e':=fnX 1 1 F4
def QK:bl:=
  (lJ (fO "Asker" "ask_members" yS (I 0) mF))
def QJ:bl:=
  bK (eZ "Asker" "last_outcome" (I 0) (da (aa (.aQ)))) QK
def QI:bl:=
  bK (eZ "Asker" "deed" (I 0) (da (I 1))) QJ
def QH:bl:=
  bK (eZ "Asker" "wishes" (I 0) (da (ae fN (bS (cQ "Asker" "wishes") (I 0)) (aa (.int 1))))) QI
def QG:bl:=
  bK (b9 (cW (a5 (ae eJ (bS (cQ "Asker" "standing") (I 0)) (aa (.str "calm")))) ub cq)) QH
def QF:bl:=
  bK (b9 (cW (a5 (bS (cQ "Asker" "over_known") (I 0))) ub cq)) QG
def AU:bl:=
  bK (b9 (cW (h3 (a5 (ae jL (I 1) (aa (.aQ)))) (g9 (a5 (bM vp (U (I 1) ak))))) ub cq)) QF
def yT:e':=fnX 2 2 AU
def QL:bl:=
  (lJ (fO "Asker" "ask_members" yS (I 0) mF))
def F5:bl:=
  bK (b9 (cW (a5 (ae oEq (bS (cQ "Asker" "standing") (I 0)) (aa (.str "calm")))) (bG (dS ak)) cq)) QL
def yU:e':=fnX 1 1 F5
def Q6:a3:=
  (bG (ae (jg false) (ae aK (I 1) (aa (.int 1))) (bM nr (U (bS (cQ "Asker" "hall") (I 0)) ak))))
def F':a3:=
  bZ (cW (i4 (a5 (ae eJ (ae aK (I 1) (aa (.int 3))) (bS (cQ "Asker" "epoch") (I 0)))) (a5 (ae eJ (ae aK (I 1) (aa (.int 4))) (bS (cQ "Asker" "last_stamp") (I 0))))) (bG (aa (.aE false))) cq) Q6
def yX:bE:=fnOf 2 2 F'
def Lc:bE:=λ_=>bad
def Wh(T:Txt P w K mg base):d1 P w K mg base "Asker" "sees_at_once" ["self","slate"] 1 (b6 K mg Lc):=T.Tx.none (by rintro vs H Q E ⟨O,ds,r,S,_,_,_,h,_⟩;cases h)
def QN:bl:=
  (eZ "Asker" "last_outcome" (I 0) (da (I 1)))
def AV:bl:=
  bK (eZ "Asker" "standing" (I 0) (da (aa (.str "calm")))) QN
def sL:e':=fnX 2 2 AV
def QS:bl:=
  (b9 (bG (eX 1 [0,2] (kH (bM nr (U (bS (cQ "Asker" "hall") (I 0)) ak))) g_ (bM Lp (U (bS (cQ "Asker" "me") (I 1)) (U (I 0) (U (bS (cQ "Asker" "epoch") (I 1)) (U (bS (cQ "Asker" "last_stamp") (I 1)) (U (I 2) ak)))))))))
def QR:bl:=
  bK (b9 (b7 2 (bD (U (ae aK (I 1) (aa (.int 0))) (U (bS (cQ "Asker" "wishes") (I 0)) (U (bS (cQ "Asker" "deed") (I 0)) (U (bS (cQ "Asker" "told_slate") (I 0)) ak))))))) QS
def QQ:bl:=
  bK (eZ "Asker" "told_slate" (I 0) (da (bM nj (U (ae aK (I 1) (aa (.int 1))) (U (bS (cQ "Asker" "me") (I 0)) (U (bS (cQ "Asker" "wishes") (I 0)) (U (bS (cQ "Asker" "deed") (I 0)) ak))))))) QR
def QP:bl:=
  bK (eZ "Asker" "kept_mask" (I 0) (da (aa (.int 0)))) QQ
def QO:bl:=
  bK (eZ "Asker" "standing" (I 0) (da (aa (.str "telling")))) QP
def F7:bl:=
  bK (eL (e_ (h3 (a5 (ae jK (bS (cQ "Asker" "deed") (I 0)) (aa (.aQ)))) (a5 (gF "Asker" "sees_at_once" Lc (I 0) (U (ae aK (I 1) (aa (.int 1))) ak))))) (bK (jr (fO "Asker" "end_wish" sL (I 0) (eU (U (bD (U (aa (.str "saw")) (U (bD (U (bS (cQ "Asker" "epoch") (I 0)) (U (ae aK (I 1) (aa (.int 0))) (U (ae aK (I 1) (aa (.int 1))) ak)))) ak))) ak))))
  (b9 (bG (dS ak)))) (b9 cq)) QO
def yW:e':=fnX 2 3 F7
def Q0:bl:=
  (lJ (fO "Asker" "go_on" yW (I 0) (eU (U (bM yY (U (lT (bS (cQ "Asker" "grants") (I 0))) (U (bS (cQ "Asker" "opening") (I 0)) ak))) ak))))
def QZ:bl:=
  bK (b9 (cW (g9 (a5 (bM (kL 12) (U (ae aK (bS (cQ "Asker" "hall") (I 0)) (aa (.int 0))) (U (bM pR (U (lT (bS (cQ "Asker" "grants") (I 0))) ak)) ak))))) (bG (dS ak)) cq)) Q0
def QY:bl:=
  bK (qi hH (bS (cQ "Asker" "grants") (I 0)) (U (bD (U (ae aK (I 1) (aa (.int 1))) (U (ae aK (ae aK (I 1) (aa (.int 5))) (aa (.int 0))) (U (ae aK (ae aK (I 1) (aa (.int 5))) (aa (.int 1))) ak)))) ak)) QZ
def F9:bl:=
  bK (b9 (cW (a5 (bM pS (U (bM pR (U (lT (bS (cQ "Asker" "grants") (I 0))) ak)) (U (ae aK (I 1) (aa (.int 1))) ak)))) (bG (dS ak)) cq)) QY
def vj:e':=fnX 2 2 F9
def QM:bl:=
  (eL (e_ (a5 (ae jL (bS (cQ "Asker" "deed") (I 0)) (aa (.aQ))))) (bK (b9 (b7 2 (bM q6 (U (I 1) (U (bS (cQ "Asker" "me") (I 0)) ak)))))
  (eL (e_ (a5 (ae oEq (ae aK (I 2) (aa (.int 1))) (bS (cQ "Asker" "wishes") (I 0))))) (jr (fO "Asker" "end_wish" sL (I 0) (eU (U (bD (U (aa (.str "did")) (U (ae aK (I 2) (aa (.int 2))) ak))) ak)))) (b9 cq))) (eL (e_ (g9 (a5 (bM vq (U (I 1) ak))))) (jr (fO "Asker" "end_wish" sL (I 0) (eU (U (bD (U (aa (.str "saw")) (U (bD (U (bS (cQ "Asker" "epoch") (I 0)) (U (bS (cQ "Asker" "last_stamp") (I 0)) (U (I 1) ak)))) ak))) ak)))) (eL (e_ (a5 (ae oEq (bM q9 (U (I 1) ak)) (aa (.str "over"))))) (jr (fO "Asker" "end_wish" sL (I 0) (eU (U (bD (U (aa (.str "saw")) (U (bD (U (bS (cQ "Asker" "epoch") (I 0)) (U (aa (.aQ)) (U (I 1) ak)))) ak))) ak)))) (b9 cq))))
def F6:bl:=
  bK (b9 (b7 1 (bS (cQ "Asker" "told_slate") (I 0)))) QM
def yV:e':=fnX 1 3 F6
def Lb:e':=λ_=>gH
def We(T:Txt P w K mg base):d1 P w K mg base "Asker" "learn_over" ["self"] 1 (dJ K mg Lb):=T.Tu.none (by rintro vs H Q E ⟨O,ds,r,S,av,_,_,_,_,h,_⟩;cases h)
def La:e':=λ_=>gH
def V'(T:Txt P w K mg base):d1 P w K mg base "Asker" "go_over" ["self","hall"] 1 (dJ K mg La):=T.Tp.none (by rintro vs H Q E ⟨O,ds,r,S,av,_,_,_,_,h,_⟩;cases h)
def Q5:bl:=
  (lJ (fO "Asker" "go_over" La (I 0) (eU (U (I 2) ak))))
def Q4:bl:=
  bK (eL (e_ (a5 (ae oEq (I 2) (aa (.str "over"))))) (bK (jr (fO "Asker" "learn_over" Lb (I 0) mF))
  (b9 (bG (dS ak)))) (b9 cq)) Q5
def Q3:bl:=
  bK (b9 (cW (a5 (ae jK (I 2) (aa (.aQ)))) (bG (dS ak)) cq)) Q4
def Q2:bl:=
  bK (b9 (b7 2 (bM q9 (U (bS (cQ "Asker" "told_slate") (I 0)) ak)))) Q3
def Q1:bl:=
  bK (jr (fO "Asker" "end_where_told" yV (I 0) mF)) Q2
def F_:bl:=
  bK (b9 (cW (g9 (a5 (bM (kL 12) (U (ae aK (bS (cQ "Asker" "hall") (I 0)) (aa (.int 1))) (U (bS (cQ "Asker" "kept_mask") (I 0)) ak))))) (bG (dS ak)) cq)) Q1
def AW:bl:=
  bK (eZ "Asker" "kept_mask" (I 0) (da (ae s' (bS (cQ "Asker" "kept_mask") (I 0)) (bM sS (U (dS (U (ae aK (I 1) (aa (.int 1))) ak)) ak))))) F_
def vk:e':=fnX 2 3 AW
def QX:bl:=
  (b9 (bG (dS ak)))
def QW:bl:=
  bK (eL (e_ (h3 (a5 (ae oEq (ae aK (I 1) (aa (.int 0))) (aa (.str "kept")))) (a5 (ae oEq (bS (cQ "Asker" "standing") (I 0)) (aa (.str "telling")))))) (lJ (fO "Asker" "hear_kept" vk (I 0) (eU (U (I 1) ak)))) (b9 cq)) QX
def QV:bl:=
  bK (eL (e_ (h3 (a5 (ae oEq (ae aK (I 1) (aa (.int 0))) (aa (.str "grant")))) (a5 (ae oEq (bS (cQ "Asker" "standing") (I 0)) (aa (.str "asking")))))) (lJ (fO "Asker" "hear_grant" vj (I 0) (eU (U (I 1) ak)))) (b9 cq)) QW
def QU:bl:=
  bK (b9 (cW (g9 (a5 (gF "Asker" "is_for_now" yX (I 0) (U (I 1) ak)))) (bG (dS ak)) cq)) QV
def QT:bl:=
  bK (eL (e_ (a5 (ae oEq (ae aK (I 1) (aa (.int 0))) (aa (.str "late"))))) (bK (eZ "Asker" "greatest_round" (I 0) (da (cH Va (U (bS (cQ "Asker" "greatest_round") (I 0)) (U (ae aK (ae aK (ae aK (I 1) (aa (.int 5))) (aa (.int 0))) (aa (.int 0))) ak)))))
  (b9 (bG (dS ak)))) (b9 cq)) QU
def F8:bl:=
  bK (b9 (cW (a5 (ae eJ (ae aK (I 1) (aa (.int 2))) (bS (cQ "Asker" "me") (I 0)))) (bG (dS ak)) cq)) QT
def iY:e':=fnX 2 2 F8
def Gb:a3:=
  (bG (bS (cQ "Asker" "last_outcome") (I 0)))
def vl:bE:=fnOf 1 1 Gb
def Ga:a3:=
  (bG (bS (cQ "Asker" "wishes") (I 0)))
def Dp:bE:=fnOf 1 1 Ga
def Ge:a3:=
  (bG (bS (cQ "Asker" "standing") (I 0)))
def q5:bE:=fnOf 1 1 Ge
def Gd:a3:=
  (bG (bS (cQ "Asker" "last_stamp") (I 0)))
def Ld:bE:=fnOf 1 1 Gd
def GJ:a3:=
  (bG (aa (.int 0)))
def GI:a3:=
  bZ (cW (a5 (ae oLt (I 1) (cH f7 (U (I 0) ak)))) (bG (ae aK (I 0) (I 1))) cq) GJ
def ow:bE:=fnOf 2 2 GI
def C7(self:bE):a3:=
  (cW (g9 (a5 (bM self (U (I 2) (U (I 3) ak))))) (bG (aa (.aE false))) cq)
def R1(self:bE):a3:=
  (bG (k' (cH hT (U (I 0) (U (aa (.ty "str")) ak))) (ae oEq (I 0) (I 1))))
def R0(self:bE):a3:=
  bZ (cW (a5 (cH hT (U (I 1) (U (aa (.ty "int")) ak)))) (bG (k' (cH hT (U (I 0) (U (aa (.ty "int")) ak))) (k' (xv (cH hT (U (I 0) (U (aa (.ty "bool")) ak)))) (ae oEq (I 0) (I 1))))) cq) (R1 self)
def RZ(self:bE):a3:=
  bZ (cW (a5 (cH hT (U (I 1) (U (aa (.ty "bool")) ak)))) (bG (k' (cH hT (U (I 0) (U (aa (.ty "bool")) ak))) (ae oEq (I 0) (I 1)))) cq) (R0 self)
def RY(self:bE):a3:=
  bZ (cW (a5 (ae jK (I 1) (aa (.aQ)))) (bG (ae jK (I 0) (aa (.aQ)))) cq) (RZ self)
def G5(self:bE):a3:=
  bZ (cW (a5 (cH uv (U (I 1) (U (bD (U (aa (.ty "tuple")) (U (aa (.ty "list")) ak))) ak)))) (bZ (cW (i4 (g9 (a5 (cH uv (U (I 0) (U (bD (U (aa (.ty "tuple")) (U (aa (.ty "list")) ak))) ak))))) (a5 (ae eJ (cH hT (U (I 0) (U (aa (.ty "tuple")) ak))) (cH hT (U (I 1) (U (aa (.ty "tuple")) ak)))))) (bG (aa (.aE false))) cq)
  (bZ (cW (a5 (ae eJ (cH f7 (U (I 0) ak)) (cH f7 (U (I 1) ak)))) (bG (aa (.aE false))) cq)
  (bZ (r3 [2,3] (U (I 0) (U (I 1) ak)) (C7 self))
  (bG (aa (.aE true)))))) cq) (RY self)
def iZ:Nat->bE
 |0=>λ_=>bad
 |n+1=>fnOf 2 4 (G5 (iZ n))
def G8(self:bE):a3:=
  (bG (bD (U (ae aK (I 0) (aa (.int 0))) (U (cH l0 (U (eX 1 [1] (hX (ae aK (I 0) (aa (.int 1)))) g_ (bM self (U (I 0) (U (I 1) ak)))) ak)) ak))))
def xj(self:bE):a3:=
  bZ (cW (g9 (a5 (cH hT (U (I 0) (U (aa (.ty "tuple")) ak))))) (bG (ae oMod (ae fN (I 0) (I 1)) (aa (.int 6)))) cq) (G8 self)
def nq:Nat->bE
 |0=>λ_=>bad
 |n+1=>fnOf 2 2 (xj (nq n))
def GS:a3:=
  (bG (bD (U (bM (nq 6) (U (I 5) (U (ae oMod (ae dZ (I 0) (aa (.int 10))) (aa (.int 6))) ak))) (U (bM (nq 6) (U (I 6) (U (ae oMod (ae dZ (I 0) (aa (.int 10))) (aa (.int 6))) ak))) ak))))
def xh:a3:=
  bZ (nV [5,6] (ae aK (I 4) (ae oMod (I 0) (aa (.int 10))))) GS
def RP:a3:=
  bZ (b7 4 (ae iH (I 4) (dS (U (bD (U (bD (U (aa (.int 2)) (U (bD (U (aa (.int 0)) (U (bD (U (aa (.int 1)) (U (bD (U (aa (.int 1)) (U (aa (.int 2)) ak))) ak))) ak))) ak))) (U (bD (U (aa (.int 1)) (U (bD (U (aa (.int 0)) (U (bD (U (aa (.int 2)) (U (bD (U (aa (.int 1)) (U (aa (.int 2)) ak))) ak))) ak))) ak))) ak))) ak)))) xh
def RO:a3:=
  bZ (b7 4 (ae iH (I 4) (dS (U (bD (U (bD (U (aa (.int 2)) (U (bD (U (aa (.int 0)) (U (aa (.int 0)) (U (aa (.int 1)) (U (aa (.int 2)) ak))))) ak))) (U (bD (U (aa (.int 3)) (U (bD (U (aa (.int 0)) (U (aa (.int 0)) (U (aa (.int 1)) (U (aa (.int 2)) ak))))) ak))) ak))) (U (bD (U (bD (U (aa (.int 2)) (U (bD (U (aa (.int 0)) (U (aa (.int 1)) ak))) ak))) (U (bD (U (aa (.int 1)) (U (bD (U (aa (.int 0)) (U (aa (.int 1)) ak))) ak))) ak))) ak))))) RP
def RN:a3:=
  bZ (b7 4 (ae iH (I 4) (dS (U (bD (U (I 2) (U (I 3) ak))) (U (bD (U (I 3) (U (I 2) ak))) (U (bD (U (bD (U (aa (.int 3)) (U (bD (U (aa (.int 0)) (U (aa (.int 1)) (U (aa (.int 2)) (U (aa (.int 3)) (U (aa (.int 4)) ak)))))) ak))) (U (bD (U (aa (.int 3)) (U (bD (U (aa (.int 4)) (U (aa (.int 3)) (U (aa (.int 2)) (U (aa (.int 1)) (U (aa (.int 0)) ak)))))) ak))) ak))) ak)))))) RO
def RM:a3:=
  bZ (b7 4 (dS (U (bD (U (I 1) (U (I 1) ak))) (U (bD (U (aa (.int 0)) (U (aa (.int 0)) ak))) (U (bD (U (bD (U (aa (.int 1)) (U (bD (U (aa (.int 0)) (U (aa (.int 1)) (U (aa (.int 2)) ak)))) ak))) (U (bD (U (aa (.int 3)) (U (bD (U (aa (.int 0)) (U (aa (.int 1)) (U (aa (.int 2)) ak)))) ak))) ak))) (U (bD (U (bD (U (aa (.int 3)) (U (bD (U (aa (.int 0)) (U (aa (.int 1)) (U (aa (.int 2)) ak)))) ak))) (U (bD (U (aa (.int 1)) (U (bD (U (aa (.int 0)) (U (aa (.int 1)) (U (aa (.int 2)) ak)))) ak))) ak))) ak)))))) RN
def RL:a3:=
  bZ (b7 3 (bD (U (aa (.int 2)) (U (bD (U (bD (U (aa (.int 1)) (U (bD (U (aa (.int 0)) (U (aa (.int 1)) ak))) ak))) (U (bD (U (aa (.int 1)) (U (bD (U (aa (.int 2)) (U (aa (.int 3)) ak))) ak))) ak))) ak)))) RM
def RK:a3:=
  bZ (b7 2 (bD (U (aa (.int 1)) (U (bD (U (bD (U (aa (.int 2)) (U (bD (U (aa (.int 0)) (U (aa (.int 1)) ak))) ak))) (U (bD (U (aa (.int 2)) (U (bD (U (aa (.int 2)) (U (aa (.int 3)) ak))) ak))) ak))) ak)))) RL
def A3:a3:=
  bZ (b7 1 (bD (U (aa (.int 2)) (U (bD (U (aa (.int 0)) (U (aa (.int 1)) (U (aa (.int 2)) ak)))) ak)))) RK
def vt:bE:=fnOf 1 7 A3
def C6(self:bE):a3:=
  (b7 1 (ae iH (I 1) (bM self (U (I 2) ak))))
def G4(self:bE):a3:=
  (bG (I 1))
def G3(self:bE):a3:=
  bZ (nU 2 (hX (ae aK (I 0) (aa (.int 1)))) (C6 self)) (G4 self)
def G2(self:bE):a3:=
  bZ (b7 1 (dS ak)) (G3 self)
def xi(self:bE):a3:=
  bZ (cW (g9 (a5 (cH hT (U (I 0) (U (aa (.ty "tuple")) ak))))) (bG (dS (U (I 0) ak))) cq) (G2 self)
def ox:Nat->bE
 |0=>λ_=>bad
 |n+1=>fnOf 1 3 (xi (ox n))
def GW:a3:=
  (bG (eX 1 [1] (iE (U (aa (.int 6)) ak)) (a5 (ae (jg false) (I 0) (I 1))) (I 0)))
def GV:a3:=
  bZ (b7 1 (ae iH (bM (ox 6) (U (ae aK (I 0) (aa (.int 0))) ak)) (bM (ox 6) (U (ae aK (I 0) (aa (.int 1))) ak)))) GW
def sP:bE:=fnOf 1 2 GV
def RC(self:bE):a3:=
  (bG (ae oD (cH f7 (U (eX 1 [1] (hX (ae aK (I 0) (aa (.int 1)))) (a5 (bM self (U (I 0) (U (I 1) ak)))) (I 0)) ak)) (ae aK (I 0) (aa (.int 0)))))
def GP(self:bE):a3:=
  bZ (cW (g9 (a5 (cH hT (U (I 0) (U (aa (.ty "tuple")) ak))))) (bG (ae (jg false) (I 0) (I 1))) cq) (RC self)
def nk:Nat->bE
 |0=>λ_=>bad
 |n+1=>fnOf 2 2 (GP (nk n))
def yL:a3:=
  (cW (a5 (ae oEq (I 4) (I 2))) (b7 3 (ae ta (I 3) (ae aK (aa (.str "abcdefghijklmnopqrstuvwxyz")) (ae oMod (ae dZ (I 0) (aa (.int 64))) (aa (.int 26)))))) (b7 3 (ae ta (I 3) (aa (.str "m")))))
def G1:a3:=
  (bG (I 3))
def G0:a3:=
  bZ (nU 4 (iE (U (I 1) ak)) yL) G1
def GZ:a3:=
  bZ (b7 3 (aa (.str ""))) G0
def GY:a3:=
  bZ (b7 2 (ae oMod (ae dZ (I 0) (aa (.int 8))) (I 1))) GZ
def GX:a3:=
  bZ (b7 1 (ae fN (aa (.int 1)) (ae oMod (I 0) (aa (.int 8))))) GY
def sQ:bE:=fnOf 1 5 GX
def GL:a3:=
  (bG (bD (U (ae aK (dS (U (aa (.str "put")) (U (aa (.str "add")) (U (aa (.str "add")) ak)))) (ae oMod (I 0) (aa (.int 3)))) (U (bM sQ (U (ae fN (I 1) (ae vK (aa (.int 64)) (ae oMod (ae dZ (I 0) (aa (.int 6))) (aa (.int 3))))) ak)) (U (I 2) ak)))))
def GK:a3:=
  bZ (cW (a5 (ae oEq (ae oMod (I 0) (aa (.int 5))) (aa (.int 0)))) (b7 2 (ae DP (aa (.int 0)) (I 2))) cq) GL
def Rq:a3:=
  bZ (b7 2 (ae oMod (ae dZ (I 0) (aa (.int 6))) (ae mn (aa (.int 10)) (aa (.int 40))))) GK
def sN:bE:=fnOf 2 3 Rq
def Rx:a3:=
  (bG (bD (U (I 4) (U (I 5) (U (I 6) (U (I 7) ak))))))
def Rw:a3:=
  bZ (b7 5 (cH l0 (U (cH (m4 fM) (U (ae iH (eX 1 [1] (hX (I 5)) (a5 (ae eJ (ae aK (I 0) (aa (.int 0))) (I 1))) (I 0)) (dS (U (bD (U (I 1) (U (I 2) (U (I 9) ak)))) ak))) ak)) ak))) Rx
def Rv:a3:=
  bZ (cW (a5 (ae oEq (ae aK (I 3) (aa (.int 0))) (aa (.str "move")))) (b7 7 (ae aK (I 3) (aa (.int 1)))) (cW (a5 (ae oEq (ae aK (I 3) (aa (.int 0))) (aa (.str "end")))) (b7 7 (aa (.str "over"))) (bZ (b7 10 (cH sg (U (r2 [3] (hX (I 4)) (a5 (ae oEq (I 0) (ae aK (I 2) (aa (.int 1))))) (I 1)) ak)))
  (bZ (b7 11 (ae aK (I 3) (aa (.int 2))))
  (bZ (b7 9 (I 10))
  (bZ (cW (a5 (ae oEq (ae aK (I 3) (aa (.int 0))) (aa (.str "add")))) (bZ (b7 11 (ae fN (I 10) (ae aK (I 3) (aa (.int 2)))))
  (b7 9 (I 11))) cq)
  (bZ (jB 12 (eX 1 [3] (hX (I 4)) (a5 (ae eJ (ae aK (I 0) (aa (.int 0))) (ae aK (I 1) (aa (.int 1))))) (I 0)))
  (bZ (cW (a5 (ae eJ (I 11) (aa (.int 0)))) (j0 12 hH (U (bD (U (ae aK (I 3) (aa (.int 1))) (U (I 11) ak))) ak)) cq)
  (b7 4 (cH l0 (U (cH (m4 ip) (U (I 12) ak)) ak))))))))))) Rw
def Ru:a3:=
  bZ (b7 9 (aa (.int 1))) Rv
def Rt:a3:=
  bZ (cW (i4 (a5 (ae jK (I 3) (aa (.aQ)))) (i4 (a5 (ae jL (I 7) (aa (.aQ)))) (a5 (ae vJ (cH f7 (U (I 8) ak)) (aa (.int 0)))))) (bG (I 0)) cq) Ru
def Rr:a3:=
  bZ (b7 8 (eX 1 [1,2] (hX (I 5)) (h3 (a5 (ae oEq (ae aK (I 0) (aa (.int 0))) (I 1))) (a5 (ae oD (ae aK (I 0) (aa (.int 1))) (I 2)))) (I 0))) Rt
def GN:a3:=
  bZ (nV [4,5,6,7] (I 0)) Rr
def vr:bE:=fnOf 4 13 GN
def RX:a3:=
  (bG (xy (I 0) (U (I 1) (U (I 2) ak)) (bD (U (bD (U (aa (.int 0)) (U (aa (.int 0)) ak))) (U (bD (U (aa (.int 0)) (U (aa (.int 0)) ak))) (U (aa (.aQ)) ak))))))
def sR:bE:=fnOf 3 3 RX
def RT:bl:=
  (b9 (bG (bD (U (aa (.str "late")) (U (I 4) (U (I 3) (U (I 5) (U (I 6) (U (bD (U (I 8) ak)) ak)))))))))
def RS:bl:=
  bK (eL (e_ (h3 (a5 (ae oEq (I 2) (aa (.str "tell")))) (a5 (ae (oC iX) (I 6) (I 8))))) (bK (wD (I 0) (U (I 4) (U (I 5) ak)) (da (bD (U (I 6) (U (I 6) (U (ae aK (I 7) (aa (.int 3))) ak))))))
  (b9 (bG (bD (U (aa (.str "kept")) (U (I 4) (U (I 3) (U (I 5) (U (I 6) (U (bD ak) ak)))))))))) (b9 cq)) RT
def RR:bl:=
  bK (eL (e_ (h3 (a5 (ae oEq (I 2) (aa (.str "ask")))) (a5 (ae (oC g0) (I 6) (I 8))))) (bK (wD (I 0) (U (I 4) (U (I 5) ak)) (da (bD (U (I 6) (U (I 9) (U (I 10) ak))))))
  (b9 (bG (bD (U (aa (.str "grant")) (U (I 4) (U (I 3) (U (I 5) (U (I 6) (U (bD (U (I 9) (U (I 10) ak))) ak)))))))))) (b9 cq)) RS
def RQ:bl:=
  bK (b9 (nV [8,9,10] (bM sR (U (I 0) (U (I 4) (U (I 5) ak)))))) RR
def GU:bl:=
  bK (b9 (nV [2,3,4,5,6,7] (I 1))) RQ
def mm:e':=fnX 2 11 GU
def Rm:a3:=
  (bG (eX 1 [0,1,2] (kH (bM sP (U (ae aK (I 1) (aa (.int 1))) ak))) g_ (bD (U (aa (.str "ask")) (U (I 1) (U (I 0) (U (ae aK (I 2) (aa (.int 0))) (U (I 3) (U (bD ak) ak)))))))))
def Ds:bE:=fnOf 3 3 Rm
def C5:a3:=
  (cW (a5 (ae (oC g0) (I 5) (I 2))) (bZ (b7 2 (I 5))
  (b7 3 (I 6))) cq)
def Rp:a3:=
  (bG (bD (U (I 2) (U (I 3) ak))))
def Ro:a3:=
  bZ (xt [4,5,6] (CG (I 0)) C5) Rp
def Rn:a3:=
  bZ (b7 3 (I 1)) Ro
def GH:a3:=
  bZ (b7 2 (bD (U (aa (.int 0)) (U (aa (.int 0)) ak)))) Rn
def Dt:bE:=fnOf 2 7 GH
def R3:a3:=
  (bG (eX 1 [0,1,2,8] (kH (bM sP (U (ae aK (I 1) (aa (.int 1))) ak))) g_ (bD (U (aa (.str "tell")) (U (I 1) (U (I 0) (U (ae aK (I 2) (aa (.int 0))) (U (I 3) (U (I 4) ak)))))))))
def R2:a3:=
  bZ (b7 8 (bD (U (I 6) (U (I 3) (U (I 4) (U (bM vr (U (I 7) (U (I 0) (U (I 3) (U (I 4) ak))))) ak)))))) R3
def G6:a3:=
  bZ (nV [6,7] (bM Dt (U (I 5) (U (ae aK (I 1) (aa (.int 2))) ak)))) R2
def y4:bE:=fnOf 6 9 G6
def KH:bl:=
  (eL (e_ (a5 (ae oEq (ae oMod (ae dZ (I 8) (ae aK (dS (U (aa (.int 1)) (U (aa (.int 2)) (U (aa (.int 4)) (U (aa (.int 8)) (U (aa (.int 16)) (U (aa (.int 32)) ak))))))) (ae aK (I 11) (aa (.int 2))))) (aa (.int 2))) (aa (.int 1))))) (bK (hr 12 (iw mm (eU (U (I 0) (U (I 11) ak)))))
  (b9 (j0 10 hH (U (bD (U (ae aK (I 11) (aa (.int 2))) (U (ae aK (ae aK (I 12) (aa (.int 5))) (aa (.int 0))) (U (ae aK (ae aK (I 12) (aa (.int 5))) (aa (.int 1))) ak)))) ak)))) (b9 cq))
def KI:bl:=
  (eL (e_ (a5 (ae oEq (ae oMod (ae dZ (I 9) (ae aK (dS (U (aa (.int 1)) (U (aa (.int 2)) (U (aa (.int 4)) (U (aa (.int 8)) (U (aa (.int 16)) (U (aa (.int 32)) ak))))))) (ae aK (I 13) (aa (.int 2))))) (aa (.int 2))) (aa (.int 1))))) (jr (iw mm (eU (U (I 0) (U (I 13) ak))))) (b9 cq))
def GQ:bl:=
  (eL (e_ (a5 (bM (nk 6) (U (ae aK (ae aK (I 1) (aa (.int 1))) (aa (.int 0))) (U (eX 1 [] (kH (I 10)) g_ (ae aK (I 0) (aa (.int 0)))) ak))))) (nL 13 (sv (bM y4 (U (I 2) (U (I 1) (U (bD (U (I 7) (U (I 2) ak))) (U (I 3) (U (I 4) (U (I 10) ak)))))))) KI) (b9 cq))
def RH:bl:=
  bK (nL 11 (sv (bM Ds (U (I 2) (U (I 1) (U (bD (U (I 7) (U (I 2) ak))) ak))))) KH) GQ
def RG:bl:=
  bK (b9 (jB 10 (dS ak))) RH
def RF:bl:=
  bK (b9 (b7 9 (ae aK (dS (U (aa (.int 63)) (U (ae oMod (ae dZ (I 5) (aa (.int 384))) (aa (.int 64))) ak))) (ae oMod (ae dZ (I 5) (aa (.int 3))) (aa (.int 2)))))) RG
def RE:bl:=
  bK (b9 (b7 8 (ae aK (dS (U (aa (.int 63)) (U (aa (.int 63)) (U (ae oMod (ae dZ (I 5) (aa (.int 6))) (aa (.int 64))) ak)))) (ae oMod (I 5) (aa (.int 3)))))) RF
def RD:bl:=
  bK (b9 (b7 7 (ae fN (aa (.int 1)) (cH ux (U (eX 1 [0,1] (kH (I 6)) g_ (ae aK (ae aK (bM sR (U (I 1) (U (I 0) (U (ae aK (I 2) (aa (.int 0))) ak)))) (aa (.int 0))) (aa (.int 0)))) ak))))) RE
def A2:bl:=
  bK (b9 (b7 6 (bM sP (U (ae aK (I 1) (aa (.int 1))) ak)))) RD
def y3:e':=fnX 6 14 A2
def RW:a3:=
  (bG (I 1))
def RV:a3:=
  bZ (cW (a5 (ae vJ (ae oMod (ae dZ (I 0) (aa (.int 64))) (aa (.int 3))) (aa (.int 0)))) (b7 1 (dS (U (aa (.int 0)) (U (aa (.int 1)) (U (aa (.int 2)) (U (aa (.int 3)) (U (aa (.int 4)) (U (aa (.int 5)) ak)))))))) cq) RW
def RU:a3:=
  bZ (b7 1 (eX 1 [0] (iE (U (aa (.int 6)) ak)) (a5 (ae oEq (ae oMod (ae dZ (I 1) (ae aK (dS (U (aa (.int 1)) (U (aa (.int 2)) (U (aa (.int 4)) (U (aa (.int 8)) (U (aa (.int 16)) (U (aa (.int 32)) ak))))))) (I 0))) (aa (.int 2))) (aa (.int 1)))) (I 0))) RV
def q8:bE:=fnOf 1 2 RU
def KG:bl:=
  (bK (b9 (b7 8 (ae aK (I 2) (ae oMod (ae fN (I 7) (I 4)) (cH f7 (U (I 2) ak))))))
  (eL (e_ (a5 (ae (jg false) (ae aK (I 8) (aa (.int 2))) (I 3)))) (bK (hr 9 (iw mm (eU (U (ae er (I 1) (aa (.str "books"))) (U (I 8) ak)))))
  (bK (eL (e_ (h3 (a5 (ae oEq (ae aK (I 9) (aa (.int 0))) (aa (.str "grant")))) (a5 (ae oEq (cH f7 (U (I 5) ak)) (aa (.int 0)))))) (qi hH (I 6) (U (bD (U (ae aK (I 9) (aa (.int 1))) (U (ae aK (ae aK (I 9) (aa (.int 5))) (aa (.int 0))) (U (ae aK (ae aK (I 9) (aa (.int 5))) (aa (.int 1))) ak)))) ak)) (b9 cq))
  (hr 5 (oS iH (da (I 5)) (fO "Asker" "hear" iY (I 0) (eU (U (I 9) ak))))))) (b9 cq)))
def Rl:bl:=
  (b9 (bG (I 5)))
def Rk:bl:=
  bK (nK (I 1) (aa (.str "grants")) (da (I 6))) Rl
def Rj:bl:=
  bK (nL 7 (iE (U (cH f7 (U (I 2) ak)) ak)) KG) Rk
def Ri:bl:=
  bK (hr 6 (oT (da (dS ak)))) Rj
def GG:bl:=
  bK (b9 (b7 5 (dS ak))) Ri
def y2:e':=fnX 5 10 GG
def GO:a3:=
  (bG (k' (bM (iZ 14) (U (gF "Asker" "outcome" vl (I 0) ak) (U (I 4) ak))) (bM (iZ 14) (U (gF "Asker" "stand" q5 (I 0) ak) (U (I 6) ak)))))
def RB:a3:=
  bZ (cW (a5 (ae jL (I 4) (aa (.aQ)))) (b7 6 (aa (.str "calm"))) cq) GO
def RA:a3:=
  bZ (b7 6 (aa (.str "telling"))) RB
def Rz:a3:=
  bZ (cW (a5 (bM (nk 6) (U (ae aK (ae aK (ae er (I 1) (aa (.str "place"))) (aa (.int 1))) (aa (.int 1))) (U (I 2) ak)))) (bZ (b7 5 (ae aK (ae aK (eX 1 [1] (hX (ae aK (I 3) (aa (.int 1)))) (h3 (a5 (ae oEq (ae aK (I 0) (aa (.int 0))) (ae er (I 1) (aa (.str "me"))))) (a5 (ae oEq (ae aK (I 0) (aa (.int 1))) (ae er (I 1) (aa (.str "number")))))) (I 0)) (aa (.int 0))) (aa (.int 2))))
  (b7 4 (bD (U (aa (.str "did")) (U (I 5) ak))))) cq) RA
def Ry:a3:=
  bZ (b7 4 (aa (.aQ))) Rz
def Du:bE:=fnOf 4 7 Ry
def RJ:bl:=
  (jr (iw y3 (eU (U (ae er (I 0) (aa (.str "books"))) (U (ae er (I 0) (aa (.str "place"))) (U (I 3) (U (ae er (I 0) (aa (.str "turn"))) (U (bM sN (U (ae oMod (ae dZ (I 1) (aa (.int 5))) (ae mn (aa (.int 10)) (aa (.int 45)))) (U (I 2) ak))) (U (ae dZ (I 1) (aa (.int 5))) ak)))))))))
def RI:bl:=
  bK (nK (I 0) (aa (.str "turn")) (da (ae fN (ae er (I 0) (aa (.str "turn"))) (aa (.int 1))))) RJ
def GR:bl:=
  bK (b9 (b7 3 (ae oMod (ae fN (ae fN (ae er (I 0) (aa (.str "me"))) (aa (.int 1))) (ae oMod (I 1) (aa (.int 5)))) (aa (.int 6))))) RI
def sO:e':=fnX 3 4 GR
def ve:bl:=
  (eL (Ab (wI (wJ (z_ (iZ 14) (z8 (fO "Asker" "hear" iY (I 0) (eU (U (I 9) ak))) (U (dS ak) ak))))) (e_ (g9 (a5 (bM Du (U (I 0) (U (I 1) (U (I 5) (U (I 6) ak))))))))) (b9 (bG (aa (.aE false)))) (b9 cq))
def KJ:bl:=
  (bK (b9 (b7 8 (ae aK (I 2) (ae oMod (ae fN (I 7) (I 3)) (cH f7 (U (I 2) ak))))))
  (bK (eL (e_ (a5 (ae (jg false) (ae aK (I 8) (aa (.int 2))) (bM q8 (U (ae dZ (I 3) (aa (.int 7))) ak))))) (bK (hr 9 (iw mm (eU (U (ae er (I 1) (aa (.str "books"))) (U (I 8) ak)))))
  (bK (b9 (cW (a5 (ae oEq (ae aK (I 9) (aa (.int 0))) (aa (.str "kept")))) (j0 5 hH (U (ae aK (I 9) (aa (.int 1))) ak)) cq))
  (nL 10 (iE (U (ae fN (aa (.int 1)) (ae oMod (ae dZ (I 3) (aa (.int 11))) (aa (.int 2)))) ak)) ve))) (b9 cq))
  (eL (e_ (a5 (ae oEq (I 7) (ae oMod (ae dZ (I 3) (aa (.int 13))) (aa (.int 9)))))) (jr (iw sO (eU (U (I 1) (U (ae dZ (I 3) (aa (.int 17))) (U (I 4) ak)))))) (b9 cq))))
def R6:bl:=
  (b9 (bG (aa (.aE true))))
def R5:bl:=
  bK (nL 7 (iE (U (cH f7 (U (I 2) ak)) ak)) KJ) R6
def R4:bl:=
  bK (b9 (b7 6 (ae aK (ae aK (ae aK (I 2) (aa (.int 0))) (aa (.int 5))) (aa (.int 3))))) R5
def G7:bl:=
  bK (b9 (jB 5 (dS ak))) R4
def Dv:e':=fnX 5 11 G7
def Sa:bl:=
  (lJ (z7 (da (bM (iZ 14) (U (I 5) (U (I 7) ak)))) (iw Dv (eU (U (I 0) (U (I 1) (U (I 5) (U (I 2) (U (I 3) ak)))))))))
def R':bl:=
  bK (b9 (b7 7 (bM y4 (U (ae er (I 1) (aa (.str "me"))) (U (ae er (I 1) (aa (.str "place"))) (U (gF "Asker" "stamp" Ld (I 0) ak) (U (ae er (I 1) (aa (.str "number"))) (U (ae er (I 1) (aa (.str "deed"))) (U (lT (I 6)) ak))))))))) Sa
def R_:bl:=
  bK (hr 6 (da (ae er (I 1) (aa (.str "grants"))))) R'
def G_:bl:=
  bK (b9 (cW (a5 (ae oEq (cH f7 (U (I 5) ak)) (aa (.int 0)))) (bG (k' (bM (iZ 14) (U (gF "Asker" "stand" q5 (I 0) ak) (U (aa (.str "asking")) ak))) (ae jK (gF "Asker" "outcome" vl (I 0) ak) (aa (.aQ))))) cq)) R_
def R9:bl:=
  bK (hr 5 (iw y2 (eU (U (I 0) (U (I 1) (U (I 4) (U (bM q8 (U (ae dZ (I 2) (aa (.int 19))) ak)) (U (ae oMod (ae dZ (I 2) (aa (.int 7))) (aa (.int 6))) ak)))))))) G_
def R8:bl:=
  bK (b9 (cW (i4 (a5 (ae jL (gF "Asker" "outcome" vl (I 0) ak) (aa (.aQ)))) (a5 (ae eJ (gF "Asker" "number" Dp (I 0) ak) (ae er (I 1) (aa (.str "number")))))) (bG (aa (.aE false))) cq)) R9
def R7:bl:=
  bK (eL (e_ (a5 (ae oEq (gF "Asker" "stand" q5 (I 0) ak) (aa (.str "calm"))))) (bK (nK (I 1) (aa (.str "number")) (da (ae fN (ae er (I 1) (aa (.str "number"))) (aa (.int 1)))))
  (bK (nK (I 1) (aa (.str "deed")) (da (bM sN (U (ae oMod (ae dZ (I 2) (aa (.int 5))) (ae mn (aa (.int 10)) (aa (.int 50)))) (U (I 3) ak)))))
  (hr 4 (fO "Asker" "begin" yT (I 0) (eU (U (ae er (I 1) (aa (.str "deed"))) ak)))))) (hr 4 (fO "Asker" "bell" yU (I 0) mF))) R8
def G9:bl:=
  bK (eL (e_ (a5 (ae oEq (ae oMod (I 2) (aa (.int 3))) (aa (.int 0))))) (jr (iw sO (eU (U (I 1) (U (ae dZ (I 2) (aa (.int 3))) (U (I 3) ak)))))) (b9 cq)) R7
def y5:e':=fnX 4 8 G9
def KD:bl:=
  (eL (wI (wJ (iw y5 (eU (U (I 6) (U (I 5) (U (ae oMod (I 7) (ae mn (aa (.int 10)) (aa (.int 60)))) (U (I 3) ak)))))))) (b9 (bG (aa (.aE false)))) (b9 cq))
def Rh:bl:=
  (b9 (bG (aa (.aE true))))
def Rg:bl:=
  bK (nL 7 (sv (xx (I 0) (r4 (aa (.int 3))) (r4 (aa (.int 23))))) KD) Rh
def Rf:bl:=
  bK (hr 6 (wF "Asker" yR (eU (U (I 2) (U (I 1) ak))))) Rg
def Rd:bl:=
  bK (hr 5 (z9 [.inr "me",.inr "place",.inr "books",.inr "number",.inr "turn",.inr "deed",.inr "grants"] (jQ (da (I 2)) (jQ (da (I 4)) (jQ (wC (.eY [])) (jQ (da (aa (.int 0))) (jQ (da (aa (.int 0))) (jQ (da (aa (.aQ))) (jQ (oT (da (dS ak))) mF))))))))) Rf
def Rc:bl:=
  bK (b9 (b7 4 (bD (U (aa (.int 0)) (U (I 1) (U (bD (U (bD ak) (U (bD ak) (U (bD (U (aa (.int 0)) (U (aa (.aQ)) ak))) (U (aa (.aQ)) ak))))) ak)))))) Rd
def Rb:bl:=
  bK (b9 (b7 3 (ae oMod (bM ow (U (I 0) (U (aa (.int 2)) ak))) (aa (.int 512))))) Rc
def Ra:bl:=
  bK (b9 (b7 2 (ae oMod (bM ow (U (I 0) (U (aa (.int 1)) ak))) (aa (.int 6))))) Rb
def GF:bl:=
  bK (b9 (b7 1 (bM vt (U (ae oMod (bM ow (U (I 0) (U (aa (.int 0)) ak))) (aa (.int 600))) ak)))) Ra
def Dr:e':=fnX 1 8 GF
structure PB(P:ajF)(w:World)(K:aS)(mg:bt)(base:Heap)(j:Nat):Prop where
 WC:1<=j->b2 P w K mg base "is_whole" ["thing"] 1 (b6 K mg sM)
 Wt:1<=j->b2 P w K mg base "has_keeper" ["mask","keeper"] 1 (b6 K mg pS)
 W3:1<=j->b2 P w K mg base "mask_of" ["keepers"] 1 (b6 K mg sS)
 WD:2<=j->b2 P w K mg base "keepers_of" ["mask"] 2 (b6 K mg y1)
 Ws:2<=j->b2 P w K mg base "granters" ["grants"] 2 (b6 K mg pR)
 W7:∀n,n+2<=j->b2 P w K mg base "namings" ["rule"] (n+2) (b6 K mg (pT n))
 W6:15<=j->b2 P w K mg base "named" ["rule"] 15 (b6 K mg vu)
 Wq:∀n,n+2<=j->b2 P w K mg base "fills" ["rule","mask"] (n+2) (b6 K mg (kL n))
 W4:16<=j->b2 P w K mg base "members_mask" ["hall"] 16 (b6 K mg y6)
 W5:17<=j->b2 P w K mg base "members_of" ["hall"] 17 (b6 K mg nr)
 Wy:1<=j->b2 P w K mg base "is_name" ["thing"] 1 (b6 K mg yZ)
 Wz:2<=j->b2 P w K mg base "is_number" ["thing"] 2 (b6 K mg y0)
 Wr:1<=j->b2 P w K mg base "form_of" ["word"] 1 (b6 K mg Dq)
 WA:3<=j->b2 P w K mg base "is_part" ["kind","thing"] 3 (b6 K mg q7)
 Wv:4<=j->b2 P w K mg base "is_deed" ["thing"] 4 (b6 K mg vp)
 Wl:1<=j->b2 P w K mg base "blank" [] 1 (b6 K mg Lf)
 W9:1<=j->b2 P w K mg base "shut_of" ["slate"] 1 (b6 K mg q9)
 WB:2<=j->b2 P w K mg base "is_shut" ["slate"] 2 (b6 K mg vq)
 Wm:1<=j->b2 P w K mg base "cell_of" ["slate","name"] 1 (b6 K mg vm)
 Wn:1<=j->b2 P w K mg base "doing_of" ["slate","asker"] 1 (b6 K mg q6)
 Jh:5<=j->b2 P w K mg base "do_put" ["slate","asker","deed"] 5 (b6 K mg vo)
 Jd:5<=j->b2 P w K mg base "do_add" ["slate","asker","deed"] 5 (b6 K mg vn)
 W8:6<=j->b2 P w K mg base "outcome_of" ["slate","asker","deed"] 6 (b6 K mg nt)
 Wo:7<=j->b2 P w K mg base "done_on" ["slate","asker","number","deed"] 7 (b6 K mg nj)
 Wk:1<=j->b2 P w K mg base "ask_letter" ["asker","keeper","epoch","stamp"] 1 (b6 K mg Le)
 W_:1<=j->b2 P w K mg base "tell_letter" ["asker","keeper","epoch","stamp","load"] 1 (b6 K mg Lp)
 V4:2<=j->d1 P w K mg base "Asker" "__init__" ["self","me","hall"] 2 (dJ K mg yR)
 V5:18<=j->d1 P w K mg base "Asker" "ask_members" ["self"] 18 (dJ K mg yS)
 V6:19<=j->Ap P w K mg base "Asker" "begin" ["self","deed"] 19 (dJ K mg yT)
 V7:19<=j->d1 P w K mg base "Asker" "bell" ["self"] 19 (dJ K mg yU)
 Wd:18<=j->d1 P w K mg base "Asker" "is_for_now" ["self","letter"] 18 (b6 K mg yX)
 V9:1<=j->d1 P w K mg base "Asker" "end_wish" ["self","outcome"] 1 (dJ K mg sL)
 V_:18<=j->d1 P w K mg base "Asker" "go_on" ["self","pair"] 18 (dJ K mg yW)
 Wb:19<=j->d1 P w K mg base "Asker" "hear_grant" ["self","letter"] 19 (dJ K mg vj)
 V8:3<=j->d1 P w K mg base "Asker" "end_where_told" ["self"] 3 (dJ K mg yV)
 Wc:15<=j->d1 P w K mg base "Asker" "hear_kept" ["self","letter"] 15 (dJ K mg vk)
 Wa:20<=j->d1 P w K mg base "Asker" "hear" ["self","letter"] 20 (dJ K mg iY)
 Wg:1<=j->d1 P w K mg base "Asker" "outcome" ["self"] 1 (b6 K mg vl)
 Wf:1<=j->d1 P w K mg base "Asker" "number" ["self"] 1 (b6 K mg Dp)
 Wj:1<=j->d1 P w K mg base "Asker" "stand" ["self"] 1 (b6 K mg q5)
 Wi:1<=j->d1 P w K mg base "Asker" "stamp" ["self"] 1 (b6 K mg Ld)
 WI:1<=j->b2 P w K mg base "_law_cell_at" ["script","k"] 1 (b6 K mg ow)
 WX:∀n,n+1<=j->b2 P w K mg base "_law_same" ["found","due"] (n+1) (b6 K mg (iZ n))
 W0:∀n,n+1<=j->b2 P w K mg base "_law_turned" ["rule","shift"] (n+1) (b6 K mg (nq n))
 WQ:8<=j->b2 P w K mg base "_law_hall" ["cell"] 8 (b6 K mg vt)
 WV:∀n,n+1<=j->b2 P w K mg base "_law_named" ["rule"] (n+1) (b6 K mg (ox n))
 WT:8<=j->b2 P w K mg base "_law_members" ["hall"] 8 (b6 K mg sP)
 WM:∀n,n+1<=j->b2 P w K mg base "_law_filled" ["rule","keepers"] (n+1) (b6 K mg (nk n))
 WU:1<=j->b2 P w K mg base "_law_name" ["cell"] 1 (b6 K mg sQ)
 WJ:2<=j->b2 P w K mg base "_law_deed" ["cell","seed"] 2 (b6 K mg sN)
 WK:1<=j->b2 P w K mg base "_law_done" ["slate","me","number","deed"] 1 (b6 K mg vr)
 WW:1<=j->b2 P w K mg base "_law_page" ["books","keeper","epoch"] 1 (b6 K mg sR)
 WR:2<=j->b2 P w K mg base "_law_heard" ["books","letter"] 2 (dJ K mg mm)
 WG:9<=j->b2 P w K mg base "_law_asks" ["me","place","stamp"] 9 (b6 K mg Ds)
 WH:1<=j->b2 P w K mg base "_law_best" ["grants","opening"] 1 (b6 K mg Dt)
 WY:9<=j->b2 P w K mg base "_law_tells" ["me","place","stamp","number","deed","grants"] 9 (b6 K mg y4)
 WN:10<=j->b2 P w K mg base "_law_ghost" ["books","place","ghost","number","deed","cell"] 10 (dJ K mg y3)
 WS:1<=j->b2 P w K mg base "_law_living" ["cell"] 1 (b6 K mg q8)
 WE:21<=j->b2 P w K mg base "_law_asked_all" ["one","world","letters","living","shift"] 21 (dJ K mg y2)
 WL:16<=j->b2 P w K mg base "_law_ended" ["one","world","marks","told"] 16 (b6 K mg Du)
 WO:11<=j->b2 P w K mg base "_law_ghosted" ["world","cell","seed"] 11 (dJ K mg sO)
 WZ:21<=j->b2 P w K mg base "_law_told_all" ["one","world","tells","cell","seed"] 21 (dJ K mg Dv)
 W2:22<=j->b2 P w K mg base "_law_wish" ["one","world","cell","seed"] 22 (dJ K mg y5)
 DY {f:Addr}{fd:akA}(F:k5 K "law" "law" wb f fd):23<=j->fg P w K mg base eM 23 f fd ["script"] (dJ K mg Dr)
theorem aC(T:Txt P w K mg base):∀j,PB P w K mg base j
 |0=>by constructor<;>intros<;>omega
 |j+1=>by
  have a8:=aC T j;refine⟨λaW=>dt T.T8 adb rfl ?_,
   λaW=>dt T.TY ac5 rfl ?_,
   λaW=>dt T.Ur adD rfl ?_,
   λaW=>dt T.T9 ade rfl ?_,
   λaW=>dt T.TX ac4 rfl ?_,
   sW (λ_=>T.H9.none (by rintro vs H Q E ⟨O,ds,r,av,_,_,_,h,_⟩;cases h)) λn aW=>(pA (k:=n+2) T.H9 adH rfl rfl λf bx A outer s H E aB=>f5.un ?_:b2 P w K mg base _ _ _ (b6 K mg (fnOf 1 3 (xk (pT n))))).mono (by omega),
   λaW=>dt T.Uu adG rfl ?_,
   sW (λ_=>T.H4.none (by rintro vs H Q E ⟨O,ds,r,av,_,_,_,h,_⟩;cases h)) λn aW=>(pA (k:=n+2) T.H4 ac2 rfl rfl λf bx A outer s H E aB=>f5.un ?_:b2 P w K mg base _ _ _ (b6 K mg (fnOf 2 2 (xg (kL n))))).mono (by omega),
   λaW=>dt T.Us adE rfl ?_,
   λaW=>dt T.Ut adF rfl ?_,
   λaW=>dt T.T4 ac7 rfl ?_,
   λaW=>dt T.T5 ac8 rfl ?_,
   λaW=>dt T.TS ac3 rfl ?_,
   λaW=>dt T.T6 ac9 rfl ?_,
   λaW=>dt T.T1 ac6 rfl ?_,
   λaW=>dt T.TC acW rfl ?_,
   λaW=>dt T.Ux adJ rfl ?_,
   λaW=>dt T.T7 ada rfl ?_,
   λaW=>dt T.TF acX rfl ?_,
   λaW=>dt T.TQ ac0 rfl ?_,
   λaW=>dt T.TL acZ rfl ?_,
   λaW=>dt T.TG acY rfl ?_,
   λaW=>(pA (k:=5) T.Uv adI rfl rfl λf bx A outer s H E aB=>f5.un (@qh _ _ _ _ _ _ ((Fc (i:=3) (oz (by kernel_rfl)) rfl (.inl rfl) (O6 T.zU rfl (iv il ic (eT 2) hq)))) (@rG _ _ _ _ ((tG (afs (k:=5) (pp:=["slate","asker","deed"]) (lookup_all (by simp only[akM];exact⟨(a8.Jh (by omega)).mono (by omega),(a8.Jd (by omega)).mono (by omega),(Jk T).mono (by omega),(Jl T).mono (by omega),(Ji T).mono (by omega),(Jf T).mono (by omega),(Jj T).mono (by omega),(Jg T).mono (by omega),(Je T).mono (by omega),λ_ h=>nomatch h⟩)) rfl (.inl rfl) (aB.mono (by omega)) (f' (eT 0) (f' (eT 1) (f' (eT 2) kY)))))))):b2 P w K mg base _ _ _ (b6 K mg (fnOf 3 4 xl))),
   λaW=>dt T.TR ac1 rfl ?_,
   λaW=>dt T.TB acV rfl ?_,
   λaW=>dt T.Uy adK rfl ?_,
   λaW=>(n8 (k:=1) T.Tg acG rfl rfl λf bx A outer s H E aB=>?_:d1 P w K mg base _ _ _ _ (dJ K mg (fnX 3 3 AS))),
   λaW=>(n8 (k:=17) T.Th acH rfl rfl λf bx A outer s H E aB=>?_:d1 P w K mg base _ _ _ _ (dJ K mg (fnX 1 1 F4))),
   λaW=>(V3 (k:=18) T.Bp acI rfl rfl λf bx A outer s H E aB=>?_:Ap P w K mg base _ _ _ _ (dJ K mg (fnX 2 2 AU))),
   λaW=>(n8 (k:=18) T.Ti acJ rfl rfl λf bx A outer s H E aB=>?_:d1 P w K mg base _ _ _ _ (dJ K mg (fnX 1 1 F5))),
   λaW=>(uO (k:=17) T.Tt acQ rfl rfl λf bx A outer s H E aB=>f5.un ?_:d1 P w K mg base _ _ _ _ (b6 K mg (fnOf 2 2 F'))),
   λaW=>(n8 (k:=0) T.Tn acL rfl rfl λf bx A outer s H E aB=>?_:d1 P w K mg base _ _ _ _ (dJ K mg (fnX 2 2 AV))),
   λaW=>(n8 (k:=17) T.To acM rfl rfl λf bx A outer s H E aB=>?_:d1 P w K mg base _ _ _ _ (dJ K mg (fnX 2 3 F7))),
   λaW=>(n8 (k:=18) T.Tr acO rfl rfl λf bx A outer s H E aB=>?_:d1 P w K mg base _ _ _ _ (dJ K mg (fnX 2 2 F9))),
   λaW=>(n8 (k:=2) T.Tj acK rfl rfl λf bx A outer s H E aB=>?_:d1 P w K mg base _ _ _ _ (dJ K mg (fnX 1 3 F6))),
   λaW=>(n8 (k:=14) T.Ts acP rfl rfl λf bx A outer s H E aB=>?_:d1 P w K mg base _ _ _ _ (dJ K mg (fnX 2 3 AW))),
   λaW=>(n8 (k:=19) T.Tq acN rfl rfl λf bx A outer s H E aB=>?_:d1 P w K mg base _ _ _ _ (dJ K mg (fnX 2 2 F8))),
   λaW=>(uO (k:=0) T.Tw acS rfl rfl λf bx A outer s H E aB=>f5.un ?_:d1 P w K mg base _ _ _ _ (b6 K mg (fnOf 1 1 Gb))),
   λaW=>(uO (k:=0) T.Tv acR rfl rfl λf bx A outer s H E aB=>f5.un ?_:d1 P w K mg base _ _ _ _ (b6 K mg (fnOf 1 1 Ga))),
   λaW=>(uO (k:=0) T.TA acU rfl rfl λf bx A outer s H E aB=>f5.un ?_:d1 P w K mg base _ _ _ _ (b6 K mg (fnOf 1 1 Ge))),
   λaW=>(uO (k:=0) T.Tz acT rfl rfl λf bx A outer s H E aB=>f5.un ?_:d1 P w K mg base _ _ _ _ (b6 K mg (fnOf 1 1 Gd))),
   λaW=>dt T.Ub adj rfl ?_,
   sW (λ_=>T.H7.none (by rintro vs H Q E ⟨O,ds,r,av,_,_,_,h,_⟩;cases h)) λn aW=>(pA (k:=n+1) T.H7 ady rfl rfl λf bx A outer s H E aB=>f5.un ?_:b2 P w K mg base _ _ _ (b6 K mg (fnOf 2 4 (G5 (iZ n))))).mono (by omega),
   sW (λ_=>T.H8.none (by rintro vs H Q E ⟨O,ds,r,av,_,_,_,h,_⟩;cases h)) λn aW=>(pA (k:=n+1) T.H8 adB rfl rfl λf bx A outer s H E aB=>f5.un ?_:b2 P w K mg base _ _ _ (b6 K mg (fnOf 2 2 (xj (nq n))))).mono (by omega),
   λaW=>dt T.Ui adq rfl ?_,
   sW (λ_=>T.H6.none (by rintro vs H Q E ⟨O,ds,r,av,_,_,_,h,_⟩;cases h)) λn aW=>(pA (k:=n+1) T.H6 adw rfl rfl λf bx A outer s H E aB=>f5.un ?_:b2 P w K mg base _ _ _ (b6 K mg (fnOf 1 3 (xi (ox n))))).mono (by omega),
   λaW=>dt T.Ul adu rfl ?_,
   sW (λ_=>T.H5.none (by rintro vs H Q E ⟨O,ds,r,av,_,_,_,h,_⟩;cases h)) λn aW=>(pA (k:=n+1) T.H5 adn rfl rfl λf bx A outer s H E aB=>f5.un ?_:b2 P w K mg base _ _ _ (b6 K mg (fnOf 2 2 (GP (nk n))))).mono (by omega),
   λaW=>dt T.Um adv rfl ?_,
   λaW=>dt T.Uc adk rfl ?_,
   λaW=>dt T.Ud adl rfl ?_,
   λaW=>dt T.Un adx rfl ?_,
   λaW=>(sl (k:=1) T.Uj ads rfl rfl λf bx A outer s H E aB=>?_:b2 P w K mg base _ _ _ (dJ K mg (fnX 2 11 GU))),
   λaW=>dt T.T' adh rfl ?_,
   λaW=>dt T.Ua adi rfl ?_,
   λaW=>dt T.Uo adz rfl ?_,
   λaW=>(sl (k:=9) T.Ug ado rfl rfl λf bx A outer s H E aB=>?_:b2 P w K mg base _ _ _ (dJ K mg (fnX 6 14 A2))),
   λaW=>dt T.Uk adt rfl ?_,
   λaW=>(sl (k:=20) T.T_ adg rfl rfl λf bx A outer s H E aB=>?_:b2 P w K mg base _ _ _ (dJ K mg (fnX 5 10 GG))),
   λaW=>dt T.Ue adm rfl ?_,
   λaW=>(sl (k:=10) T.Uh adp rfl rfl λf bx A outer s H E aB=>?_:b2 P w K mg base _ _ _ (dJ K mg (fnX 3 4 GR))),
   λaW=>(sl (k:=20) T.Up adA rfl rfl λf bx A outer s H E aB=>?_:b2 P w K mg base _ _ _ (dJ K mg (fnX 5 11 G7))),
   λaW=>(sl (k:=21) T.Uq adC rfl rfl λf bx A outer s H E aB=>?_:b2 P w K mg base _ _ _ (dJ K mg (fnX 4 8 G9))),
   λF aW=>(BR (k:=22) F adf rfl rfl λbx A outer s H E aB=>?_:fg P w K mg base eM _ _ _ _ (dJ K mg (fnX 1 8 GF)))⟩
  all_goals try intro f bx A outer s H E aB
  all_goals repeat' first
   |((with_reducible show bk _ _ _);first
    |(with_reducible show bk _ _ (I _));exact eT _
    |(with_reducible show bk _ (.BoolOp _ [_] _) _);refine afE ?_
    |(with_reducible show bk _ _ (ae aK _ _));refine iv il ic ?_ ?_ (λ_ _=>rfl)
    |(with_reducible show bk _ _ (bD _));refine qg ?_
    |(with_reducible show bk _ _ (bM _ ak));refine' afr ?_ ?_ rfl
    |(with_reducible show bk _ _ (bM _ _));refine' afq ?_ ?_ rfl ?_
    |(with_reducible show bk _ _ (aa (.int _)));first|exact hq|exact rE (L_ rfl T.BZ) λ_ _=>rfl
    |(with_reducible show bk _ _ (aa .aQ));exact afC
    |(with_reducible show bk _ _ (aa (.aE _)));exact afp
    |(with_reducible show bk _ _ (aa (.ty "tuple")));exact rE (vR (v:=.ty "tuple") rfl T.B.tuple' xq rfl) λ_ _=>rfl
    |(with_reducible show bk _ _ (aa (.ty "bool")));exact rE (vR (v:=.ty "bool") rfl T.B.Sn Sq rfl) λ_ _=>rfl
    |(with_reducible show bk _ _ (aa (.ty "str")));exact rE (vR (v:=.ty "str") rfl T.B.ad7 Sv rfl) λ_ _=>rfl
    |(with_reducible show bk _ _ (aa (.ty "int")));exact rE (vR (v:=.ty "int") rfl T.B.Yg Sr rfl) λ_ _=>rfl
    |(with_reducible show bk _ _ (aa (.ty "list")));exact rE (vR (v:=.ty "list") rfl T.B.Zr Ss rfl) λ_ _=>rfl
    |(with_reducible show bk _ _ (aa (.str _)));first|exact afH|exact rE (L_ rfl T.B0) λ_ _=>rfl
    |(with_reducible show bk _ _ (ae fN _ _));refine lH aaz Qb ?_ ?_
    |(with_reducible show bk _ _ (ae oMod _ _));refine lH aaG Qi ?_ ?_
    |(with_reducible show bk _ _ (ae dZ _ _));refine lH aaC Qf ?_ ?_
    |(with_reducible show bk _ _ (ae iH _ _));refine lH LW FW ?_ ?_
    |(with_reducible show bk _ _ (ae ta _ _));refine lH aaA Qe ?_ ?_
    |(with_reducible show bk _ _ (ae mn _ _));refine lH aaJ Qk ?_ ?_
    |(with_reducible show bk _ _ (ae DP _ _));refine lH aaM Qn ?_ ?_
    |(with_reducible show bk _ _ (ae vK _ _));refine lH aaH Qj ?_ ?_
    |(with_reducible show bk _ _ (ae DL _ _));refine lH aaB Qc ?_ ?_
    |(with_reducible show bk _ _ (ae s' _ _));refine lH aaI Qd ?_ ?_
    |(with_reducible show bk _ _ (ae DM _ _));refine lH aaK Ql ?_ ?_
    |(with_reducible show bk _ _ (ae DN _ _));refine lH aaL Qm ?_ ?_
    |(with_reducible show bk _ _ (ae oEq _ _));refine rD (D1 aB.units) AQ ?_ ?_ (jf _)
    |(with_reducible show bk _ _ (ae jK _ _));refine rD L0 F1 ?_ ?_ (jf _)
    |(with_reducible show bk _ _ (ae jL _ _));refine rD L2 F3 ?_ ?_ (jf _)
    |(with_reducible show bk _ _ (ae oD _ _));refine rD LX FY ?_ ?_ (jf _)
    |(with_reducible show bk _ _ (ae oLt _ _));refine rD L1 F2 ?_ ?_ (jf _)
    |(with_reducible show bk _ _ (ae (jg false) _ _));refine rD LY (FZ false) ?_ ?_ rfl
    |(with_reducible show bk _ _ (ae (rf false) _ _));refine rD LZ F0 ?_ ?_ rfl
    |(with_reducible show bk _ _ (cH f7 _));refine mD SH YH rfl T.B.len HF ?_
    |(with_reducible show bk _ _ (cH hT _));refine mD (SF T.kt) YF rfl T.B.isinstance HE ?_
    |(with_reducible show bk _ _ (cH uv _));refine mD (SG T.kt) YG rfl T.B.isinstance HE ?_
    |(with_reducible show bk _ _ (cH se _));refine mD (SE rfl) YE rfl T.B.all Sp ?_
    |(with_reducible show bk _ _ (cH (xR _) _));refine mD (SJ rfl) YB rfl T.B.max HG ?_
    |(with_reducible show bk _ _ (cH ux _));refine mD (SK rfl) YJ rfl T.B.max HG ?_
    |(with_reducible show bk _ _ (cH (m4 fM) _));refine mD (HJ rfl Y2) Ka rfl T.B.sorted A' ?_
    |(with_reducible show bk _ _ (cH (m4 ip) _));refine mD (HJ rfl Y3) Ka rfl T.B.sorted A' ?_
    |(with_reducible show bk _ _ (cH sg _));refine mD (SM rfl) YK rfl T.B.sum Sw ?_
    |(with_reducible show bk _ _ (cH uu _));refine mD SD YD rfl T.B.abs So ?_
    |(with_reducible show bk _ _ (cH uw _));refine mD SI YI rfl T.B.len HF ?_
    |(with_reducible show bk _ _ (cH l0 _));refine E8 Bh CS rfl T.B.tuple' xq ?_
    |(with_reducible show bk _ _ (dS _));refine afy ?_
    |(with_reducible show bk _ _ (k' _ _));refine afm ?_ ?_
    |(with_reducible show bk _ _ (xv _));refine afD ?_
    |(with_reducible show bk _ _ (bS oBits _));refine afo ?_
    |(with_reducible show bk _ _ (eX _ _ _ _ _));refine aft (ue (xs:=[_]) (by kernel_rfl)) (by decide) ?_ rfl (λ_ _ _ _=>⟨alk rfl,rfl⟩) (λ_ _ _ _=>?_) (λ_ _ _ _=>?_) (he:=rfl) (hN:=rfl)
    |(with_reducible show bk _ _ (r2 _ _ _ _));refine afu (ue (xs:=[_,_]) (by kernel_rfl)) ?_ rfl rfl (λ_ _ _ _=>⟨alk rfl,rfl⟩) (λ_ _ _ _=>⟨alk rfl,rfl⟩) (λ_ _ _ _=>?_) (λ_ _ _ _=>?_) (he:=rfl) (hN:=rfl)
    |(with_reducible show bk _ _ (ua _ _ _ _));refine afv (ue (xs:=[_,_]) (by kernel_rfl)) rfl T.B.zip ?_ rfl rfl (λ_ _ _ _=>⟨alk rfl,rfl⟩) (λ_ _ _ _=>⟨alk rfl,rfl⟩) (λ_ _ _ _=>?_) (λ_ _ _ _=>?_) (he:=rfl) (hN:=rfl)
    |(with_reducible show bk _ _ (xx _ _ _));refine afF ?_ ?_ ?_
    |(with_reducible show bk _ _ (Bd _ _ _));refine afG ?_ ?_ ?_
    |(with_reducible show bk _ _ (Be _ _));refine O6 T.zU rfl ?_
    |(with_reducible show bk _ _ (Bf _ _));refine afI T.CT rfl ?_
    |(with_reducible show bk _ _ (xy _ _ _));refine afJ aB.units ?_ ?_ ?_
    |(with_reducible show bk _ _ (bS (cQ _ _) _));refine afn T.nW (by simp[ze]) ?_
    |(with_reducible show bk _ _ (ae er _ _));refine afw aB.units ?_ ?_
    |(with_reducible show bk _ _ (lT _));refine afx ?_
    |(with_reducible show bk _ _ (gF _ _ _ _ ak));refine' afB ?_ ?_ ?_
    |(with_reducible show bk _ _ (gF _ _ _ _ _));refine' afA ?_ ?_ ?_ ?_)
   |((with_reducible show gD _ _ _);first
    |(with_reducible show gD _ _ (ak));exact kY
    |(with_reducible show gD _ _ (U _ _));refine f' ?_ ?_)
   |((with_reducible show fj _ _ _);first
    |(show fj _ _ (bG _));refine tG ?_
    |(show fj _ _ (b7 _ (eX _ _ _ _ _)));refine afV (ue (xs:=[_]) (by kernel_rfl)) (oz (by kernel_rfl)) rfl rfl (by decide) ?_ rfl (λ_ _ _ _=>⟨alk rfl,rfl⟩) (λ_ _ _ _=>?_) (λ_ _ _ _=>?_) (he:=rfl) (hN:=rfl)
    |(show fj _ _ (b7 _ _));refine Fc (oz (by kernel_rfl)) rfl (by first|exact alk rfl|exact akl rfl|exact akl (.inl rfl)|exact akl (akl rfl)) ?_
    |(show fj _ _ (cW _ _ _));refine Fb ?_ ?_ ?_
    |(show fj _ _ (jB _ (eX _ _ _ _ _)));refine E' (ue (xs:=[_]) (by kernel_rfl)) (oz (by kernel_rfl)) rfl rfl (by decide) ?_ rfl (λ_ _ _ _=>⟨alk rfl,rfl⟩) (λ_ _ _ _=>?_) (λ_ _ _ _=>?_) (he:=rfl) (hN:=rfl)
    |(show fj _ _ (jB _ _));refine af0 (oz (by kernel_rfl)) rfl (by first|exact alk rfl|exact akl rfl|exact akl (.inl rfl)|exact akl (akl rfl)) ?_
    |(show fj _ _ (nU _ _ _));refine afW am1 rfl ?_ (oz (by kernel_rfl)) rfl (by first|exact alk rfl|exact akl rfl|exact akl (.inl rfl)|exact akl (akl rfl)) ?_
    |(show fj _ _ (xt _ _ _));refine afX am1 rfl ?_ ?_ ?_
    |(show fj _ _ (r3 _ _ _));refine afY am1 rfl rfl T.B.zip ?_ ?_ ?_
    |(show fj _ _ (nV _ _));refine af2 rfl ?_ ?_
    |(show fj _ _ (j0 _ hH _));refine z6 alL alM vz yQ ?_ rfl (by first|exact alk rfl|exact akl rfl|exact akl (.inl rfl)|exact akl (akl rfl))
    |(show fj _ _ (j0 _ wx _));refine z6 PySem.F.slot_list_extend PySem.F.type_list_extend ZW ZD ?_ rfl (by first|exact alk rfl|exact akl rfl|exact akl (.inl rfl)|exact akl (akl rfl))
    |(show fj _ _ (xw _));exact af1 _
    |(show fj _ _ (ub));exact afZ)
   |((with_reducible show fH _ _ _);first
    |(with_reducible show fH _ _ (a5 (ae oEq _ _)));refine jq (D1 aB.units) AQ ?_ ?_ (jf _)
    |(with_reducible show fH _ _ (a5 (ae eJ _ _)));refine jq (zm aB.units) xf ?_ ?_ (jf _)
    |(with_reducible show fH _ _ (a5 (ae jK _ _)));refine jq L0 F1 ?_ ?_ (jf _)
    |(with_reducible show fH _ _ (a5 (ae jL _ _)));refine jq L2 F3 ?_ ?_ (jf _)
    |(with_reducible show fH _ _ (a5 (ae oD _ _)));refine jq LX FY ?_ ?_ (jf _)
    |(with_reducible show fH _ _ (a5 (ae vJ _ _)));refine jq aaE Qh ?_ ?_ (jf _)
    |(with_reducible show fH _ _ (a5 (ae oLt _ _)));refine jq L1 F2 ?_ ?_ (jf _)
    |(with_reducible show fH _ _ (a5 (ae oLe _ _)));refine jq D2 AR ?_ ?_ (jf _)
    |(with_reducible show fH _ _ (a5 (ae (oC g0) _ _)));refine jq (aaF aB.units) FX ?_ ?_ (jf _)
    |(with_reducible show fH _ _ (a5 (ae (oC iX) _ _)));refine jq (aaD aB.units) FX ?_ ?_ (jf _)
    |(with_reducible show fH _ _ (a5 (ae (jg false) _ _)));refine jq LY (FZ false) ?_ ?_ rfl
    |(with_reducible show fH _ _ (a5 (ae (rf false) _ _)));refine jq LZ F0 ?_ ?_ rfl
    |(with_reducible show fH _ _ (a5 (jZ _ _ _ _ _)));refine af3 D2 AR D2 AR ?_ ?_ ?_
    |(with_reducible show fH _ _ (a5 _));refine af5 ?_
    |(with_reducible show fH _ _ (g9 _));refine af4 ?_
    |refine k8.ct ?_)
   |((with_reducible show k8 _ _ _);first
    |(with_reducible show k8 _ _ (i4 _ _));refine af8 ?_ ?_
    |(with_reducible show k8 _ _ (h3 _ _));refine af6 ?_ ?_
    |first|refine af9 ?_|refine af7 ?_)
   |((with_reducible show d_ _ _ _);first
    |(with_reducible show d_ _ _ (da _));refine agB ?_
    |(with_reducible show d_ _ (.BoolOp _ [_] _) _);refine agC ?_
    |(with_reducible show d_ _ _ (z7 _ _));refine agt ?_ ?_
    |(with_reducible show d_ _ _ (oS iH _ _));refine agD LW FW ?_ ?_
    |(with_reducible show d_ _ _ (z_ _ _));refine' agE ?_ ?_ rfl ?_
    |(with_reducible show d_ _ _ (oT _));refine agA ?_
    |(with_reducible show d_ _ _ (fO _ _ _ _ mF));refine' agz ?_ ?_ ?_
    |(with_reducible show d_ _ _ (fO _ _ _ _ _));refine' agy ?_ ?_ ?_ ?_
    |(with_reducible show d_ _ _ (iw _ _));refine' agu ?_ ?_ rfl ?_
    |(with_reducible show d_ _ _ (wF _ _ _));refine' agx T.nW ?_ ?_ rfl ?_
    |(with_reducible show d_ _ _ (z9 _ _));refine agv ?_
    |(with_reducible show d_ _ _ (wC _));exact agw)
   |((with_reducible show ks _ _ _);first
    |(with_reducible show ks _ _ (e_ _));refine agV ?_
    |(with_reducible show ks _ _ (wJ _));refine agW ?_
    |(with_reducible show ks _ _ (wI _));refine agU ?_
    |(with_reducible show ks _ _ (Ab _ _));refine rY.t (agX ?_ (agY ?_)))
   |((with_reducible show nT _ _ _);first
    |(with_reducible show nT _ _ (eU _));refine agq ?_
    |(with_reducible show nT _ _ (z8 _ _));refine agp ?_ ?_)
   |((with_reducible show gQ _ _ _);first
    |(show gQ _ _ (b9 _));refine agP ?_
    |(show gQ _ _ (hr _ _));refine agR (oz (by kernel_rfl)) rfl (by first|exact alk rfl|exact akl rfl|exact akl (.inl rfl)|exact akl (akl rfl)) ?_
    |(show gQ _ _ (eL _ _ _));refine agN ?_ ?_ ?_
    |(show gQ _ _ (lJ _));refine agQ ?_
    |(show gQ _ _ (jr _));refine agK ?_
    |(show gQ _ _ (eZ _ _ _ _));refine agI T.nW (by simp[ze]) ?_ ?_
    |(show gQ _ _ (nK _ _ _));refine agJ aB.units ?_ ?_ ?_
    |(show gQ _ _ (wD _ _ _));refine agL aB.units ?_ ?_ ?_
    |(show gQ _ _ (qi hH _ _));refine agO alL alM vz yQ ?_ ?_
    |(show gQ _ _ (nL _ _ _));refine agM am1 rfl ?_ (oz (by kernel_rfl)) rfl (by first|exact alk rfl|exact akl rfl|exact akl (.inl rfl)|exact akl (akl rfl)) ?_)
   |((with_reducible show f5 _ _ _);first|exact Fd|refine rG ?_|refine qh ?_ ?_)
   |((with_reducible show jX _ _ _);first|((show jX _ _ (bK _ _));refine agS ?_ ?_)|((with_reducible show jX _ [] _);refine Pl ?_)|refine agT ?_|refine Pl ?_)
   |((with_reducible show pe _ _ _);first|exact afN|refine E9 ?_)
   |((with_reducible show cE _ _);exact aB.mono (by omega))
   |((with_reducible show b2 _ _ _ _ _ _ _ _ _);first|exact(a8.WC (by omega))|exact(a8.Wt (by omega))|exact(a8.W3 (by omega))|exact(a8.WD (by omega))|exact Wu T|exact(a8.Ws (by omega))|exact a8.W7 _ (by omega)|exact(a8.W6 (by omega))|exact a8.Wq _ (by omega)|exact Wx T|exact(a8.W4 (by omega))|exact(a8.W5 (by omega))|exact(a8.Wy (by omega))|exact(a8.Wz (by omega))|exact Ww T|exact(a8.Wr (by omega))|exact(a8.WA (by omega))|exact(a8.Wv (by omega))|exact(a8.Wl (by omega))|exact(a8.W9 (by omega))|exact(a8.WB (by omega))|exact(a8.Wm (by omega))|exact W' T|exact(a8.Wn (by omega))|exact Xa T|exact(a8.Jh (by omega))|exact(a8.Jd (by omega))|exact Jk T|exact Jl T|exact Ji T|exact Jf T|exact Jj T|exact Jg T|exact Je T|exact(a8.W8 (by omega))|exact(a8.Wo (by omega))|exact(a8.Wk (by omega))|exact(a8.W_ (by omega))|exact(a8.WI (by omega))|exact a8.WX _ (by omega)|exact a8.W0 _ (by omega)|exact(a8.WQ (by omega))|exact a8.WV _ (by omega)|exact(a8.WT (by omega))|exact a8.WM _ (by omega)|exact(a8.WU (by omega))|exact(a8.WJ (by omega))|exact(a8.WK (by omega))|exact(a8.WW (by omega))|exact(a8.WR (by omega))|exact(a8.WG (by omega))|exact(a8.WH (by omega))|exact(a8.WY (by omega))|exact(a8.WN (by omega))|exact(a8.WS (by omega))|exact(a8.WE (by omega))|exact(a8.WL (by omega))|exact(a8.WO (by omega))|exact(a8.WZ (by omega))|exact(a8.W2 (by omega)))
   |((with_reducible show d1 _ _ _ _ _ _ _ _ _ _);first|exact(a8.V4 (by omega))|exact(a8.V5 (by omega))|exact(a8.V6 (by omega)).all|exact(a8.V7 (by omega))|exact(a8.Wd (by omega))|exact Wh T|exact(a8.V9 (by omega))|exact(a8.V_ (by omega))|exact(a8.Wb (by omega))|exact(a8.V8 (by omega))|exact We T|exact V' T|exact(a8.Wc (by omega))|exact(a8.Wa (by omega))|exact(a8.Wg (by omega))|exact(a8.Wf (by omega))|exact(a8.Wj (by omega))|exact(a8.Wi (by omega)))
   |(first|exact Ea|refine vU (oz (by kernel_rfl)) rfl (by first|exact alk rfl|exact akl rfl|exact akl (.inl rfl)|exact akl (akl rfl)) ?_|refine afg ?_|refine E7 ?_|refine afh rfl T.B.range ?_|refine afi ?_|refine afK ?_|refine afM ?_|refine afL rfl T.B.range ?_|refine agF ?_|refine agG rfl T.B.range ?_|exact afT|refine afU ?_|exact ags|refine agr ?_ ?_)
def DY(T:Txt P w K mg base)(F:k5 K "law" "law" wb f fd):fg P w K mg base eM 23 f fd ["script"] (dJ K mg Dr):=(aC T 23).DY F (ajq _)
end
end e3
set_option maxHeartbeats 1000000
namespace a0
open PySem PySem.Spec aF
@[simp] theorem ahN{x y:R}:iH x y=match x.own,y.own with
 |some xs,some ys=>if xs.length+ys.length<=ajt then pure (.fr (xs++ys))else bad|_,_=>bad:=rfl
@[simp] theorem ai8{i j:Int}(af:0<j)(ah:j<10 ^ 200):nO i j:=gw af ah
def AN{α:Type}{xs:List α}{i:Int}{v:α}(h:eP xs i=some v):v∈xs:=by
 obtain⟨j,_,e,_⟩:=xd h;exact aka e
def AO{α:Type}{xs:List α}{i:Int}(h0:0<=i)(af:i<xs.length):∃v,eP xs i=some v:=by
 have au:i.toNat<xs.length:=by omega
 refine⟨xs[i.toNat],?_⟩;have:=pg (xs:=xs) i.toNat (v:=xs[i.toNat]) (by simp[au])
 rwa[Int.toNat_of_nonneg h0]at this
end a0
namespace ju
inductive aO where
 |kp (k:Nat)
 |ch (k:Nat) (ps:List aO)
mutual
def aO.names:aO->List Nat
 |.kp k=>[k]
 |.ch _ ps=>aO.ea ps
def aO.ea:List aO->List Nat
 |[]=>[]
 |r::rs=>r.names++aO.ea rs
end
mutual
def aO.deep:aO->Nat
 |.kp _=>0|.ch _ ps=>aO.lW ps+1
def aO.lW:List aO->Nat
 |[]=>0|r::rs=>max r.deep (aO.lW rs)
end
mutual
def aO.wf:aO->Prop
 |.kp k=>k<6|.ch k ps=>1<=k/\k<=ps.length/\ps.length<=6/\aO.jo ps
def aO.jo:List aO->Prop
 |[]=>True|r::rs=>r.wf/\aO.jo rs
end
mutual
def aO.fills(p:Nat->Bool):aO->Bool
 |.kp k=>p k|.ch k ps=>decide (k<=aO.cnt p ps)
def aO.cnt(p:Nat->Bool):List aO->Nat
 |[]=>0|r::rs=>(if r.fills p then 1 else 0)+aO.cnt p rs
end
theorem z3:∀{ps:List aO},aO.jo ps↔∀r∈ps,r.wf
 |[]=>by simp[aO.jo]| r::rs=>by simp[aO.jo,z3]
theorem r6:∀{ps:List aO}{n:Nat},aO.lW ps<n->∀r∈ps,r.deep<n
 |r::rs,n,h,x,ag=>by
  simp only[aO.lW]at h;rcases aju.mp ag with rfl|ag
  .omega
  .exact r6 (ps:=rs) (by omega) x ag
theorem xD(p:Nat->Bool):∀ps:List aO,(ps.filter (aO.fills p)).length=aO.cnt p ps
 |[]=>rfl|r::rs=>by
  rw[List.filter_cons];simp only[aO.cnt]
  cases h:r.fills p with
  |true=>simp[xD p rs];omega|false=>simp[xD p rs]
mutual
theorem Iy{p q:Nat->Bool}(h:∀k,p k=true->q k=true):∀r:aO,r.fills p=true->r.fills q=true
 |.kp k,e=>by simp only[aO.fills]at e ⊢;exact h k e|.ch k ps,e=>by
  simp only[aO.fills,decide_eq_true_eq]at e ⊢;exact akq e (HX h ps)
theorem HX{p q:Nat->Bool}(h:∀k,p k=true->q k=true):∀ps:List aO,aO.cnt p ps<=aO.cnt q ps
 |[]=>ajq _|r::rs=>by
  simp only[aO.cnt];have af:=Iy h r;have ah:=HX h rs
  cases e:r.fills p with
  |true=>rw[af e];simp;omega|false=>simp only[alp,if_false];split<;>omega
end
mutual
theorem Iz:∀r:aO,r.wf->r.fills (λ_=>false)=false
 |.kp _,_=>by simp[aO.fills]|.ch k ps,h=>by
  simp only[aO.wf]at h;simp only[aO.fills,cnt_none ps h.2.2.2];exact decide_eq_false (by omega)
theorem cnt_none:∀ps:List aO,aO.jo ps->aO.cnt (λ_=>false) ps=0
 |[],_=>rfl|r::rs,h=>by
  simp only[aO.jo]at h;simp only[aO.cnt,Iz r h.1,cnt_none rs h.2];rfl
end
mutual
theorem sV:∀r:aO,r.wf->∀k∈r.names,k<6
 |.kp k,h,x,ag=>by simp only[aO.names,ajH]at ag;simp only[aO.wf]at h;omega| .ch k ps,h,x,ag=>by simp only[aO.wf]at h;exact Ly ps h.2.2.2 x (by simpa only[aO.names]using ag)
theorem Ly:∀ps:List aO,aO.jo ps->∀k∈aO.ea ps,k<6
 |[],_,x,ag=>by simp[aO.ea]at ag|r::rs,h,x,ag=>by
  simp only[aO.jo]at h;simp only[aO.ea,aj2]at ag;rcases ag with ag|ag
  .exact sV r h.1 x ag
  .exact Ly rs h.2 x ag
end
theorem vC:∀ps g6:List aO,aO.ea (ps++g6)=aO.ea ps++aO.ea g6
 |[],_=>rfl|r::rs,g6=>by
  show r.names++aO.ea (rs++g6)=(r.names++aO.ea rs)++aO.ea g6;rw[vC rs g6,al1]
end ju
namespace a0
open PySem PySem.Spec aF ju
mutual
def enc:aO->D
 |.kp k=>.int (k:Nat)|.ch k ps=>.tup [.int (k:Nat),.tup (encL ps)]
def encL:List aO->List D
 |[]=>[]
 |r::rs=>enc r::encL rs
end
theorem Il:∀ps:List aO,encL ps=ps.map enc
 |[]=>rfl| r::rs=>by rw[ajw,<-Il rs];rfl
def qB(k:Nat)(ps:List aO):enc (.ch k ps)=.tup [.int (k:Nat),.tup (ps.map enc)]:=by rw[<-Il];rfl
def sa(k:Nat):enc (.kp k)=.int (k:Nat):=rfl
@[simp] theorem EG(r:aO):dp (enc r)=.v (enc r):=by cases r<;>rfl
def Te{α:Type}(xs:List α)(k:Nat):cutD xs (some (k:Int)) none=xs.drop k:=by
 unfold cutD;rw[d0.ED,d0.acr]
 by_cases h:k<=xs.length
 .rw[Nat.min_eq_left h]
  exact amD (by rw[akw];omega)
 .rw[Nat.min_eq_right (by omega),aoi (ajq _),aoi (by omega),aos]
end a0
namespace hu
def gS(m k:Nat):Bool:=m / 2 ^ k % 2==1
def yE(m:Nat):List Nat:=(ajI (if m==0 then 0 else m.log2+1)).filter (gS m)
def rZ(b:Bool)(n:Nat):Nat:=if b then n else 0
def sU(b0 bW bY gR hP jA:Bool):Nat:=rZ b0 1+rZ bW 2+rZ bY 4+rZ gR 8+rZ hP 16+rZ jA 32
def nx(p:Nat->Bool):Nat:=sU (p 0) (p 1) (p 2) (p 3) (p 4) (p 5)
def ZU(p:Nat->Bool)(k:Nat)(ax:k<6):nx p ||| 2 ^ k=nx λj=>p j||j==k:=by
 have all:∀b0 bW bY gR hP jA:Bool,∀k:Fin 6,sU b0 bW bY gR hP jA ||| 2 ^ k.val=sU (b0||0==k.val) (bW||1==k.val) (bY||2==k.val) (gR||3==k.val) (hP||4==k.val) (jA||5==k.val):=by decide +kernel
 exact all (p 0) (p 1) (p 2) (p 3) (p 4) (p 5) ⟨k,ax⟩
def Lx(p:Nat->Bool)(k:Nat)(ax:k<6):(nx p / 2 ^ k % 2==1)=p k:=by
 have all:∀b0 bW bY gR hP jA:Bool,∀k:Fin 6,(sU b0 bW bY gR hP jA / 2 ^ k.val % 2==1)=[b0,bW,bY,gR,hP,jA].getD k.val false:=by decide +kernel
 have e:=all (p 0) (p 1) (p 2) (p 3) (p 4) (p 5) ⟨k,ax⟩;rw[show nx p=sU (p 0) (p 1) (p 2) (p 3) (p 4) (p 5)from rfl,e];have:k=0\/k=1\/k=2\/k=3\/k=4\/k=5:=by omega
 rcases this with rfl|rfl|rfl|rfl|rfl|rfl<;>rfl
def ZT(p:Nat->Bool):nx p<64:=by
 have all:∀b0 bW bY gR hP jA:Bool,sU b0 bW bY gR hP jA<64:=by decide +kernel
 exact all _ _ _ _ _ _
def bits(m:Nat):Nat:=if m==0 then 0 else m.log2+1
def maskOf(ns:List Nat):Nat:=ns.foldl (λm k=>m ||| 2 ^ k) 0
theorem Lr:∀(ns:List Nat)(p:Nat->Bool),(∀n∈ns,n<6)->ns.foldl (λm k=>m ||| 2 ^ k) (nx p)=nx λj=>p j||ns.contains j
 |[],p,_=>by simp|n::r,p,h=>by
  rw[List.foldl_cons,ZU p n (h n ajy),Lr r _ λx ag=>h x (ajv _ ag)]
  congr 1
  funext j
  rw[List.contains_cons,Bool.or_assoc]
def y8(ns:List Nat)(h:∀n∈ns,n<6):maskOf ns=nx λj=>ns.contains j:=by
 have e:=Lr ns (λ_=>false) h;have z:nx (λ_=>false)=0:=rfl;rw[z]at e;show ns.foldl (λm k=>m ||| 2 ^ k) 0=_;rw[e];simp
end hu
namespace lO
open hu ju
def sub(x m:Nat):Bool:=(ajI 6).all λk=>!gS x k||gS m k
mutual
theorem Iv{p q:Nat->Bool}:∀r:aO,(∀k∈r.names,p k=q k)->r.fills p=r.fills q
 |.kp k,h=>by simp only[aO.fills];exact h k (by simp[aO.names])| .ch k ps,h=>by simp only[aO.fills];rw[HW ps λk ax=>h k (by simpa[aO.names]using ax)]
theorem HW{p q:Nat->Bool}:∀ps:List aO,(∀k∈aO.ea ps,p k=q k)->aO.cnt p ps=aO.cnt q ps
 |[],_=>rfl|r::rs,h=>by
  simp only[aO.cnt];rw[Iv r λk ax=>h k (by simp[aO.ea,ax]),HW rs λk ax=>h k (by simp[aO.ea,ax])]
end
end lO
namespace a0
open PySem PySem.Spec aF hu ju lO
def bf(k:Nat):D:=.int (k:Int)
def lB(k:Nat):bf k=.int (k:Int):=rfl
def P1(x:Int):al3 x 1=x % 2:=W.kbt_mask x 1
def D3(a b:Nat):amH (a:Int) (b:Int)=((a ||| b:Nat):Int):=by
 have af:decide (0<=akO (a:Int))=false:=decide_eq_false (by unfold akO;omega);have ah:decide (0<=akO (b:Int))=false:=decide_eq_false (by unfold akO;omega);have ao:(akO (akO (a:Int))).toNat=a:=by unfold akO;omega
 have az:(akO (akO (b:Int))).toNat=b:=by unfold akO;omega
 unfold amH al3;rw[af,ah];dsimp only;rw[ao,az];unfold akO;omega
def Yh(m:Nat):akC (m:Int)=hu.bits m:=by
 unfold akC hu.bits;rw[Int.natAbs_natCast]
 by_cases h:m=0
 .subst h;rfl
 .have h':(m:Int)≠0:=by omega
  rw[beq_eq_false_iff_ne.mpr h,beq_eq_false_iff_ne.mpr h']
def bits_le(m:Nat)(h:m<64):hu.bits m<=6:=by
 have all:∀m:_root_.Fin 64,hu.bits m.val<=6:=by decide +kernel
 exact all ⟨m,h⟩
def YQ(m:Nat):yE m=(ajI (hu.bits m)).filter (gS m):=rfl
def vw(bc:List Nat)(k:Nat):hu.maskOf (bc++[k])=hu.maskOf bc ||| 2 ^ k:=by
 unfold hu.maskOf;rw[List.foldl_append];rfl
def take_snoc{α:Type}{l:List α}{i:Nat}{x:α}(h:l[i]? = some x):l.take (i+1)=l.take i++[x]:=by
 rw[anE,h];rfl
def Dx{α β:Type}{f:α->β}{l:List α}{i:Nat}{y:β}(h:(l.map f)[i]? = some y):∃x,l[i]? = some x/\y=f x:=by
 rw[ajW]at h
 cases e:l[i]? with
 |none=>rw[e]at h;cases h
 |some x=>rw[e]at h;exact⟨x,rfl,(ajT h).symm⟩
def Si(m k:Nat):(al3 ((m:Int) / 2 ^ k) 1==1)=gS m k:=by
 rw[P1];unfold gS;have ao:((m:Int) / 2 ^ k) % 2=((m / 2 ^ k % 2:Nat):Int):=by
  rw[Int.natCast_emod,Int.natCast_ediv,Int.natCast_pow];rfl
 rw[ao,akR,beq_iff_eq,beq_iff_eq];omega
def MS(n:Nat):h1 0 n=(ajI n).map bf:=by
 unfold h1;refine am4 λi _=>?_
 show D.int (0+(i:Int))=.int (i:Int);rw[Int.zero_add]
def Yc(k:Nat)(bc:List Nat):inD (bf k) (bc.map bf)=bc.contains k:=by
 unfold inD;rw[List.any_map,List.contains_eq_any_beq]
 congr 1
 funext j
 show jh (.int (j:Int)) (.int (k:Int))=(k==j);rw[akR,beq_iff_eq];simp[jh];omega
theorem la{α:Type}{t:aR->M Bool}{el:bp}{Y:aR}(f:α->D)(p:α->Bool)(g:α->D):∀xs:List α,(∀x∈xs,t (Y.set 0 (.v (f x)))=pure (p x))->(∀x∈xs,p x=true->(el (Y.set 0 (.v (f x))) >>= R.dat)=pure (g x))->
  fK t el Y (xs.map f)=pure ((xs.filter p).map g)
 |[],_,_=>rfl|x::xs,af,ah=>by
  have a8:=la f p g xs (λx ag=>af x (ajv _ ag)) λx ag=>ah x (ajv _ ag)
  rw[ajw];unfold fK;rw[af x ajy,pure_bind]
  cases e:p x with
  |false=>rw[if_neg ajx,a8,an8 (by rw[e];exact ajx)]|true=>
   have h:=ah x ajy e;rw[if_pos rfl,<-bind_assoc,h,pure_bind,a8,pure_bind,an9 e];rfl
def r5{α:Type}{el:bp}{Y:aR}(f:α->D)(g:α->D)(xs:List α)(h:∀x∈xs,(el (Y.set 0 (.v (f x))) >>= R.dat)=pure (g x)):fK g_ el Y (xs.map f)=pure (xs.map g):=by
 have:=la (t:=g_) (el:=el) (Y:=Y) f (λ_=>true) g xs (λ_ _=>rfl) λx ag _=>h x ag
 rw[this]
 congr 2
 exact List.filter_eq_self.mpr λ_ _=>rfl
theorem BU{α:Type}{b:D->a3}(f:α->D)(p:α->Bool)(v:α->R)(J:aR->Prop):∀(xs:List α)(Y:aR),J Y->
  (∀x Y,x∈xs->J Y->(p x=true->b (f x) Y=pure (.cZ (v x)))/\(p x=false->∃Y',b (f x) Y=pure (.bo Y')/\J Y'))->
  (∀x,xs.find? p=some x->hk b (xs.map f) Y=pure (.cZ (v x)))/\(xs.find? p=none->∃Y',hk b (xs.map f) Y=pure (.bo Y')/\J Y')
 |[],Y,h0,_=>⟨λx h=>(nomatch h),λ_=>⟨Y,rfl,h0⟩⟩
 |x::xs,Y,h0,step=>by
  obtain⟨s1,s2⟩:=step x Y ajy h0
  cases e:p x with
  |true=>
   rw[aks e];refine⟨λy h=>?_,λh=>(nomatch h)⟩;cases h;show(b (f x) Y >>= _)=_;rw[s1 e];rfl
  |false=>
   obtain⟨h6,ao,af⟩:=s2 e;have a8:=BU f p v J xs h6 af λy Y ba=>step y Y (ajv _ ba)
   rw[aki (by rw[e];exact ajx)];have u:hk b ((x::xs).map f) Y=hk b (xs.map f) h6:=by
    show(b (f x) Y >>= _)=_;rw[ao];rfl
   rw[u];exact a8
end a0
namespace a0
open PySem PySem.Spec aF
mutual
def D.z4:D->Bool
 |.tup xs=>decide (xs.length<=1000)&&oR xs|.lst xs=>decide (xs.length<=1000)&&oR xs|.ref _=>true|.fn _=>true|.ty _=>true|.aQ=>true|.aE _=>true|.int _=>true|.str _=>true
def oR:List D->Bool
 |[]=>true|x::xs=>x.z4&&oR xs
end
theorem z5:∀{xs:List D},oR xs=true↔∀x∈xs,x.z4=true
 |[]=>by simp[oR]| x::xs=>by simp[oR,z5]
theorem x4:∀{xs:List D}{n:Nat},iC xs n=true↔∀x∈xs,x.bT n=true
 |[],_=>by simp[iC]| x::xs,n=>by simp[iC,x4]
def Ok(n:Nat)(d:D):Prop:=d.bT n=true/\d.z4=true
def DZ:Ok n .aQ:=⟨rfl,rfl⟩
def kb{i:Int}:Ok n (.int i):=⟨rfl,rfl⟩
def nA(h:ajK x=true):Ok n (.str x):=⟨h,rfl⟩
def rg{xs:List D}(au:xs.length<=1000)(h:∀x∈xs,Ok n x):Ok (n+1) (.tup xs):=
 ⟨x4.mpr λx ag=>(h x ag).1,by show(decide (xs.length<=1000)&&oR xs)=true;rw[decide_eq_true au,z5.mpr λx ag=>(h x ag).2];rfl⟩
def Vr:∀{d:D}{n m:Nat},n<=m->d.bT n=true->d.bT m=true:=by
 intro d
 induction d using D.rec (motive_2:=λds=>∀n m,n<=m->iC ds n=true->iC ds m=true)with
 |aQ=>exact λ_ h=>h
 |aE _=>exact λ_ h=>h
 |int _=>exact λ_ h=>h
 |str _=>exact λ_ h=>h
 |fn _=>exact λ_ h=>h
 |ty _=>exact λ_ h=>h
 |ref _=>exact λ_ h=>h
 |tup xs a8=>
  intro n m hm h
  cases n with
  |zero=>cases h
  |succ n=>
   cases m with
   |zero=>omega| succ m=>exact a8 n m (by omega) h
 |lst xs a8=>
  intro n m hm h
  cases n with
  |zero=>cases h
  |succ n=>
   cases m with
   |zero=>omega| succ m=>exact a8 n m (by omega) h
 |nil=>rfl|cons x xs u6 u7=>
  rename_i n m hm h;have h:(x.bT n&&iC xs n)=true:=h;rw[aj5]at h;show(x.bT m&&iC xs m)=true;rw[u6 hm h.1,u7 n m hm h.2];rfl
def p0(h:Ok n d)(hm:n<=m):Ok m d:=⟨Vr hm h.1,h.2⟩
def zh(af:Ok n a)(ah:Ok n b):Ok (n+1) (.tup [a,b]):=rg (by simp) (by simp only[akM];exact⟨af,ah,λ_ h=>nomatch h⟩)
def DU(af:Ok n a)(ah:Ok n b)(bN:Ok n c):Ok (n+1) (.tup [a,b,c]):=rg (by simp) (by simp only[akM];exact⟨af,ah,bN,λ_ h=>nomatch h⟩)
def LR(af:Ok n a)(ah:Ok n b)(bN:Ok n c)(dz:Ok n d):Ok (n+1) (.tup [a,b,c,d]):=rg (by simp) (by simp only[akM];exact⟨af,ah,bN,dz,λ_ h=>nomatch h⟩)
def aat(af:Ok n a)(ah:Ok n b)(bN:Ok n c)(dz:Ok n d)(fb:Ok n e)(gz:Ok n f):Ok (n+1) (.tup [a,b,c,d,e,f]):=rg (by simp) (by simp only[akM];exact⟨af,ah,bN,dz,fb,gz,λ_ h=>nomatch h⟩)
@[simp] theorem aib{z:Str}:uw [.v (.str z)]=if z.length<=ajt then pure (.v (.int (z.length:Nat)))else bad:=rfl
@[simp] theorem ahO{x y:Str}:ta (.v (.str x)) (.v (.str y))=if x.length+y.length<=ajt then pure (.v (.str (x++y)))else bad:=rfl
def U4(b:Bool):oEq (.v (.aE b)) (.v (.aE b))=pure (.v (.aE true)):=by rw[r' rfl rfl];simp[jh]
def eq_str(h:ajK x=true):oEq (.v (.str x)) (.v (.str x))=pure (.v (.aE true)):=by rw[r' (x:=.v (.str x)) (y:=.v (.str x)) h h];simp[jh]
structure PM where
 e:Int
 p1:Int
 dG:Int
 gX:Int
 gi:Int
 cN:D
def cK(a b:Int):D:=.tup [.int a,.int b]
def g4(g:PM):D:=.tup [.int g.e,cK g.p1 g.dG,cK g.gX g.gi,g.cN]
end a0
namespace a0
open PySem PySem.Spec aF PyProof.Rows
section
variable{Q:ak0}[DecidableEq Q.α]
def kq(Q:ak0)(l:List (Q.α×D)):Prop:=l.Pairwise λa b=>Q.blt a.1 b.1=true
def kq.nodup{l:List (Q.α×D)}(h:kq Q l):(l.map (·.1)).Nodup:=by
 rw[List.nodup_iff_pairwise_ne,anG];refine List.Pairwise.imp (λ{a b} h e=>?_) h;rw[e,Q.irrefl]at h;cases h
def hC(l:List (Q.α×D))(a:Q.α):List (Q.α×D):=l.filter λq=>!decide (q.1=a)
def i2(l:List (Q.α×D))(p:Q.α×D):List (Q.α×D):=hC l p.1++[p]
def kN(l:List (Q.α×D))(p:Q.α×D):List (Q.α×D):=hG Q.blt (i2 l p)
def e8(l:List (Q.α×D))(a:Q.α):Option D:=(l.find? λq=>decide (q.1=a)).map (·.2)
def Bx{l:List (Q.α×D)}(a:Q.α)(h:(l.map (·.1)).Nodup):((hC l a).map (·.1)).Nodup:=h.sublist (List.filter_sublist.map _)
def r7{l:List (Q.α×D)}{a:Q.α}{x:Q.α×D}:x∈hC l a↔x∈l/\x.1≠a:=by
 unfold hC;rw[akZ];simp
def xJ(l:List (Q.α×D))(a:Q.α):(hC l a).length<=l.length:=amP _ _
def vW{l:List (Q.α×D)}(p:Q.α×D)(h:(l.map (·.1)).Nodup):((i2 l p).map (·.1)).Nodup:=by
 unfold i2;rw[akd,anF];refine⟨Bx _ h,by simp,λa aq b ab=>?_⟩;obtain⟨x,ag,rfl⟩:=akg.mp aq;rw[show b=p.1 by simpa using ab];exact(r7.mp ag).2
def vV{l:List (Q.α×D)}{p x:Q.α×D}:x∈i2 l p↔(x∈l/\x.1≠p.1)\/x=p:=by
 unfold i2;rw[aj2,r7,ajH]
def zw(l:List (Q.α×D))(p:Q.α×D):(i2 l p).length<=l.length+1:=by
 unfold i2;rw[ajz,al6];have:=xJ l p.1;omega
def Eh{l:List (Q.α×D)}(p:Q.α×D)(h:(l.map (·.1)).Nodup):kq Q (kN l p):=EH Q _ (vW p h)
def tm{l:List (Q.α×D)}{p x:Q.α×D}:x∈kN l p↔(x∈l/\x.1≠p.1)\/x=p:=by
 unfold kN;rw[(zK _ _).mem_iff,vV]
def Vc{l:List (Q.α×D)}(aG:(l.map (·.1)).Nodup)(ag:x∈l):l.find? (λq=>decide (q.1=x.1))=some x:=by
 induction l with
 |nil=>cases ag
 |cons y l a8=>
  rw[ajw,akn]at aG;rcases aju.mp ag with rfl|ag
  .rw[aks (by simp)]
  .have hV:¬y.1=x.1:=λh=>aG.1 (by rw[h];exact alN ag)
   rw[aki (by simpa using hV)];exact a8 aG.2 ag
def uE{l:List (Q.α×D)}(aG:(l.map (·.1)).Nodup)(ag:x∈l):e8 l x.1=some x.2:=by
 unfold e8;rw[Vc aG ag];rfl
def uF{l:List (Q.α×D)}{a:Q.α}{d:D}(h:e8 l a=some d):(a,d)∈l:=by
 unfold e8 at h;obtain⟨x,ag,rfl⟩:=al0.mp h;have af:=anN ag;have ah:x.1=a:=by have:=List.find?_some ag;simpa using this
 rw[<-ah];exact af
def IT{l:List (Q.α×D)}(aG:(l.map (·.1)).Nodup):e8 l a=some d↔(a,d)∈l:=⟨uF,λh=>uE aG h⟩
def Vv{l yI:List (Q.α×D)}(aG:(yI.map (·.1)).Nodup)(h:∀d,(a,d)∈yI↔o=some d):e8 yI a=o:=by
 cases o with
 |some d=>exact(IT aG).mpr ((h d).mpr rfl)|none=>
  cases e:e8 yI a with
  |none=>rfl|some d=>exact((h d).mp (uF e)).symm
def Vw{l:List (Q.α×D)}(p:Q.α×D)(aG:(l.map (·.1)).Nodup)(a:Q.α):e8 (kN l p) a=if a=p.1 then some p.2 else e8 l a:=
 Vv (l:=l) (Eh p aG).nodup fun d=>by
  rw[tm]
  by_cases e:a=p.1
  .rw[if_pos e]
   constructor
   .rintro(⟨_,h⟩|h)
    .exact absurd e h
    .rw[<-h]
   .intro h
    refine .inr ?_;cases p;cases h;rw[e]
  .rw[if_neg e,IT aG]
   constructor
   .rintro(⟨h,_⟩|h)
    .exact h
    .rw[<-h]at e;exact absurd rfl e
   .exact λh=>.inl ⟨h,e⟩
def By(b:Q.α)(h:kq Q l):kq Q (hC l b):=List.Pairwise.sublist List.filter_sublist h
def Ob(h:kq Q l):hG Q.blt l=l:=(EJ Q h.nodup (.refl _) h).symm
def FO(h:l.Nodup):jz Q.blt l=true:=by
 induction l with
 |nil=>rfl|cons a r a8=>
  rw[akn]at h;unfold jz;rw[a8 h.2,Bool.and_true,akL];intro b ab
  cases ao:Q.blt a b with
  |true=>rfl|false=>
   cases az:Q.blt b a with
   |true=>rfl|false=>exact absurd (Q.total a b ao az▸ab) h.1
end
section
variable{Z:fY}[DecidableEq Z.κ.α]
theorem Ks(yo:∀a,Z.un (Z.dN a)=some a){mf:bE}:∀{l:List (Z.κ.α×D)},(∀x∈l,mf [x.2]=pure (.v (Z.dN x.1)))->keysOf Z mf (l.map (·.2))=some (l.map (·.1))
 |[],_=>rfl|x::l,h=>by
  have e:yF Z mf x.2=some x.1:=by
   unfold yF;rw[h x ajy];exact yo x.1
  rw[ajw,ajw];unfold keysOf;rw[e,Ks yo λy ba=>h y (ajv _ ba)]
theorem zip_rows{α β:Type}:∀l:List (α×β),(l.map (·.1)).zip (l.map (·.2))=l
 |[]=>rfl| x::l=>by rw[ajw,ajw,akT,zip_rows l]
def EK(yo:∀a,Z.un (Z.dN a)=some a){mf:bE}{l:List (Z.κ.α×D)}(h:∀x∈l,mf [x.2]=pure (.v (Z.dN x.1))){r:R}(ag:r.fo=some (l.map (·.2)))(aG:(l.map (·.1)).Nodup)(au:l.length<64) :
  sf Z mf r=pure (.fr ((hG Z.κ.blt l).map (·.2))):=by
 unfold sf;rw[ag];dsimp only;rw[Ks yo h];dsimp only;rw[if_pos ⟨FO (Q:=Z.κ.toKeyOrd) aG,by rw[ajm];exact au⟩,zip_rows]
end
end a0
namespace a0
open PySem PySem.Spec aF
abbrev d4:=ip.κ.toKeyOrd
def cD(a:List Nat):Str:=⟨a.toArray⟩
abbrev cd(s:Str):List Nat:=s.cps.toList
def HM(a:List Nat):cd (cD a)=a:=rfl
def OY(a:List Nat):ip.un (ip.dN a)=some a:=rfl
def YP(a:List Nat):ip.dN a=.str (cD a):=rfl
def OV:cD a=cD b↔a=b:=⟨λh=>by rw[<-HM a,h,HM],λh=>by rw[h]⟩
def Io(aq:ajK (cD a)=true)(ab:ajK (cD b)=true):oEq (.v (.str (cD a))) (.v (.str (cD b)))=pure (.v (.aE (decide (a=b)))):=by
 rw[r' (x:=.v (.str (cD a))) (y:=.v (.str (cD b))) aq ab];show pure (R.v (D.aE (cD a==cD b)))=_
 congr 3
 rw[akR,beq_iff_eq,decide_eq_true_eq,OV]
def LG(aq:ajK (cD a)=true)(ab:ajK (cD b)=true):eJ (.v (.str (cD a))) (.v (.str (cD b)))=pure (.v (.aE (!decide (a=b)))):=by
 rw[BC (x:=.v (.str (cD a))) (y:=.v (.str (cD b))) aq ab];show pure (R.v (D.aE (!(cD a==cD b))))=_
 congr 4
 rw[akR,beq_iff_eq,decide_eq_true_eq,OV]
def kr(a:List Nat):Prop:=ajK (cD a)=true/\1<=a.length/\a.length<=8
def ad8:ajK (cD a)=true↔∀c∈a,c<0x110000:=by
 unfold ajK cD;rw[List.all_toArray,akL];simp
def EY(a:List Nat):(cD a).length=a.length:=by
 show a.toArray.size=_;simp
def OU(a b:List Nat):cD a++cD b=cD (a++b):=by
 show(⟨a.toArray++b.toArray⟩:Str)=_;unfold cD;simp
def Z8:(("add":Str) == "put")=false:=by decide +kernel
def Z9:(("do_add":Str) == "do_put")=false:=by decide +kernel
end a0
namespace e3
open PySem PySem.Spec aF a0
def o1(x:Int×D):Prop:=∃n z:D,x.2=.tup [.int x.1,n,z]
def o1.gW{x:Int×D}(h:o1 x):aK (.v x.2) (.v (.int 0))=pure (.v (.int x.1)):=by
 obtain⟨n,z,e⟩:=h;rw[e];simp
def o1.slot{x:Int×D}(h:o1 x):dp x.2=.v x.2:=by
 obtain⟨n,z,e⟩:=h;rw[e];rfl
def Bv{l:List (Int×D)}(h:∀x∈l,o1 x)(c le cb:D)(a:Int):q6 [.tup [c,.tup (l.map (·.2)),le,cb],.int a]=pure (.v ((e8 (Q:=fM.κ.toKeyOrd) l a).getD (.tup [.int a,.int 0,.aQ]))):=by
 have L:=BU (b:=λd Y=>yK (Y.set 2 (.v d))) (λx:Int×D=>x.2) (λx=>decide (x.1=a)) (λx=>.v x.2) (λY=>∃s2,Y=[.v (.tup [c,.tup (l.map (·.2)),le,cb]),.v (.int a),s2]) l [.v (.tup [c,.tup (l.map (·.2)),le,cb]),.v (.int a),.e] ⟨_,rfl⟩
  (λx Y ag ⟨s2,ay⟩=>by
   subst ay;have gW:=(h x ag).gW;refine⟨λq=>?_,λq=>⟨[.v (.tup [c,.tup (l.map (·.2)),le,cb]),.v (.int a),.v x.2],?_,_,rfl⟩⟩
   .have q:x.1=a:=of_decide_eq_true q
    simp only[yK];simp[gW,q]
   .have q:¬x.1=a:=of_decide_eq_false q
    simp only[yK];simp[gW,q])
 simp only[q6,Gk,Gl];unfold e8
 cases e:l.find? (λx=>decide (x.1=a))with
 |some x=>
  have:=L.1 x e;simp[this]
 |none=>
  obtain⟨Y',cz,s2,rfl⟩:=L.2 e;simp[cz]
def KN{x:Int×D}(h:o1 x):fnOf 1 1 (bG (ae aK (I 0) (aa (.int 0)))) [x.2]=pure (.v (.int x.1)):=by
 have:=h.gW;simp[h.slot,this]
def afR{l:List (Int×D)}(h:∀x∈l,o1 x)(aG:(l.map (·.1)).Nodup)(au:l.length<63)(c le cb:D)(a:Int)(n z:D)(aC:dp n=.v n)(hz:dp z=.v z) :
  y7 [.tup [c,.tup (l.map (·.2)),le,cb],.int a,n,z]=pure (.v (.tup [c,.tup ((kN (Q:=fM.κ.toKeyOrd) l (a,.tup [.int a,n,z])).map (·.2)),le,cb])):=by
 have bS:fK (a5 (ae eJ (ae aK (I 0) (aa (.int 0))) (I 1))) (I 0) [.e,.v (.int a)] (l.map (·.2))=pure ((hC (Q:=fM.κ.toKeyOrd) l a).map (·.2)):=
  la (λx:Int×D=>x.2) (λx=>!decide (x.1=a)) (λx=>x.2) l (λx ag=>by
   have gW:=(h x ag).gW;simp[gW];rfl) λx _ _=>by simp
 have ff:l.length<ajt:=eS (by omega);have dl:=xJ (Q:=fM.κ.toKeyOrd) l a;have ew:(hC (Q:=fM.κ.toKeyOrd) l a).length<ajt:=eS (by omega);have e2:=EK (Z:=fM) (λ_=>rfl) (mf:=fnOf 1 1 (bG (ae aK (I 0) (aa (.int 0))))) (l:=i2 (Q:=fM.κ.toKeyOrd) l (a,.tup [.int a,n,z])) (λx ag=>by
  rcases(vV (Q:=fM.κ.toKeyOrd)).mp ag with⟨ag,_⟩|rfl
  .exact KN (h x ag)
  .exact KN ⟨n,z,rfl⟩) (r:=.mv ((hC (Q:=fM.κ.toKeyOrd) l a).map (·.2)++[.tup [.int a,n,z]])) (by
   show some _=some _;unfold i2;rw[akd];rfl) (vW _ aG) (by have:=zw (Q:=fM.κ.toKeyOrd) l (a,.tup [.int a,n,z]);omega)
 have xN:∀(c2:bp)(Y:aR)(mf:bE),qw fM mf c2 Y=(do let x <-c2 Y;sf fM mf x):=λ_ _ _=>rfl
 simp only[y7,A6,Hl,Hm];unfold kN;simp[aC,hz,bS,ff,ew,e2,xN]
abbrev qs:=List (List Nat×D)
def jt(x:List Nat×D):Prop:=kr x.1/\∃n:Int,n≠0/\x.2=.tup [.str (cD x.1),.int n]
def jt.gW(h:jt x):aK (.v x.2) (.v (.int 0))=pure (.v (.str (cD x.1))):=by
 obtain⟨_,n,_,e⟩:=h;rw[e];simp
def jt.slot(h:jt x):dp x.2=.v x.2:=by
 obtain⟨_,n,_,e⟩:=h;rw[e];rfl
def lU:Option D->Int
 |some (.tup [_,.int n])=>n|_=>0
def HO{l:qs}(h:∀x∈l,jt x)(d le cb:D)(aq:kr a):vm [.tup [.tup (l.map (·.2)),d,le,cb],.str (cD a)]=pure (.v (.int (lU (e8 (Q:=d4) l a)))):=by
 have L:=BU (b:=λd Y=>yJ (Y.set 2 (.v d))) (λx:List Nat×D=>x.2) (λx=>decide (x.1=a)) (λx=>.v (.int (lU (some x.2)))) (λY=>∃s2,Y=[.v (.tup [.tup (l.map (·.2)),d,le,cb]),.v (.str (cD a)),s2]) l [.v (.tup [.tup (l.map (·.2)),d,le,cb]),.v (.str (cD a)),.e] ⟨_,rfl⟩
  (λx Y ag ⟨s2,ay⟩=>by
   subst ay;have gW:=(h x ag).gW;have eq:=Io (h x ag).1.1 aq.1;obtain⟨_,n,_,e⟩:=h x ag;refine⟨λq=>?_,λq=>⟨[.v (.tup [.tup (l.map (·.2)),d,le,cb]),.v (.str (cD a)),.v x.2],?_,_,rfl⟩⟩
   .rw[q]at eq
    simp only[yJ];rw[e]at gW ⊢;simp[gW,eq,lU]
   .rw[q]at eq
    simp only[yJ];simp[gW,eq])
 simp only[vm,Gf,Gg];unfold e8
 cases e:l.find? (λx=>decide (x.1=a))with
 |some x=>
  have:=L.1 x e;simp[this]
 |none=>
  obtain⟨Y',cz,s2,rfl⟩:=L.2 e;simp[cz,lU]
def Dc(h:jt x):fnOf 1 1 (bG (ae aK (I 0) (aa (.int 0)))) [x.2]=pure (.v (ip.dN x.1)):=by
 have:=h.gW;rw[YP];simp[h.slot,this]
def jn(l:qs)(a:List Nat)(n:Int):qs:=if n=0 then hC (Q:=d4) l a else kN (Q:=d4) l (a,.tup [.str (cD a),.int n])
def afj(h:kq d4 l)(a:List Nat)(n:Int):kq d4 (jn l a n):=by
 unfold jn;split
 .exact By a h
 .exact Eh _ h.nodup
def afk(h:∀x∈l,jt x)(aq:kr a)(n:Int):∀x∈jn l a n,jt x:=λx ag=>by
 unfold jn at ag;split at ag
 .exact h x ((r7 (Q:=d4)).mp ag).1
 .rename_i q
  rcases(tm (Q:=d4)).mp ag with⟨ag,_⟩|rfl
  .exact h x ag
  .exact⟨aq,n,q,rfl⟩
def O9{l:qs}(h:∀x∈l,jt x)(aB:kq d4 l)(au:l.length<63)(d le cb:D)(aq:kr a)(n:Int) :
  vv [.tup [.tup (l.map (·.2)),d,le,cb],.str (cD a),.int n]=pure (.v (.tup [.tup ((jn l a n).map (·.2)),d,le,cb])):=by
 have bS:fK (a5 (ae eJ (ae aK (I 0) (aa (.int 0))) (I 1))) (I 0) [.e,.v (.str (cD a))] (l.map (·.2))=pure ((hC (Q:=d4) l a).map (·.2)):=
  la (λx:List Nat×D=>x.2) (λx=>!decide (x.1=a)) (λx=>x.2) l (λx ag=>by
   have gW:=(h x ag).gW;have ne:=LG (h x ag).1.1 aq.1;simp[gW,ne]) λx _ _=>by simp
 have ff:l.length<ajt:=eS (by omega);have dl:=xJ (Q:=d4) l a;have ew:(hC (Q:=d4) l a).length<ajt:=eS (by omega);have xN:∀(c2:bp)(Y:aR)(mf:bE),qw ip mf c2 Y=(do let x <-c2 Y;sf ip mf x):=λ_ _ _=>rfl
 simp only[vv,A5,Hj,Hk];unfold jn
 by_cases q:n=0
 .have e2:=EK (Z:=ip) OY (mf:=fnOf 1 1 (bG (ae aK (I 0) (aa (.int 0))))) (l:=hC (Q:=d4) l a) (λx ag=>Dc (h x ((r7 (Q:=d4)).mp ag).1)) (r:=.mv ((hC (Q:=d4) l a).map (·.2))) rfl (Bx a aB.nodup) (by omega)
  rw[Ob (Q:=d4) (By a aB)]at e2;rw[if_pos q];simp[q,bS,ff,ew,e2,xN]
 .have e2:=EK (Z:=ip) OY (mf:=fnOf 1 1 (bG (ae aK (I 0) (aa (.int 0))))) (l:=i2 (Q:=d4) l (a,.tup [.str (cD a),.int n])) (λx ag=>by
   rcases(vV (Q:=d4)).mp ag with⟨ag,_⟩|rfl
   .exact Dc (h x ag)
   .exact Dc ⟨aq,n,q,rfl⟩) (r:=.mv ((hC (Q:=d4) l a).map (·.2)++[.tup [.str (cD a),.int n]])) (by
    show some _=some _;unfold i2;rw[akd];rfl) (vW _ aB.nodup) (by have:=zw (Q:=d4) l (a,.tup [.str (cD a),.int n]);omega)
  rw[if_neg q];unfold kN;simp[q,bS,ff,ew,e2,xN]
def FV(x:D)(ds:List D):eP (x::ds) 0=some x:=pg 0 rfl
def aeH:ru.lookup ("put":Str)=some ("do_put":Str):=by
 unfold ru;simp only[akb,beq_self_eq_true]
def Vf:uz.lookup ("do_put":Str)=some vo:=by
 unfold uz;simp only[akb,beq_self_eq_true]
def aaV{s a r:D}(aC:dp s=.v s)(aq:dp a=.v a)(h:vo [s,a,.tup (.str "put"::ds)]=pure (.v r)):nt [s,a,.tup (.str "put"::ds)]=pure (.v r):=by
 simp only[nt,xl,A4];simp[aC,aq,FV,aeH,Vf,h]
def aeG:ru.lookup ("add":Str)=some ("do_add":Str):=by
 unfold ru;simp only[akb,beq_self_eq_true,Z8]
def Ve:uz.lookup ("do_add":Str)=some vn:=by
 unfold uz;simp only[akb,beq_self_eq_true,Z9]
def aaQ{s a r:D}(aC:dp s=.v s)(aq:dp a=.v a)(h:vn [s,a,.tup (.str "add"::ds)]=pure (.v r)):nt [s,a,.tup (.str "add"::ds)]=pure (.v r):=by
 simp only[nt,xl,A4];simp[aC,aq,FV,aeG,Ve,h]
section
variable{l:qs}(h:∀x∈l,jt x)(aB:kq d4 l)(au:l.length<63)(d le cb:D){a:List Nat}(aq:kr a)(n i:Int)
include h aB au aq
theorem aaY:nt [.tup [.tup (l.map (·.2)),d,le,cb],.int i,.tup [.str "put",.str (cD a),.int n]]=pure (.v (.tup [.tup [.tup ((jn l a n).map (·.2)),d,le,cb],.int (lU (e8 (Q:=d4) l a))])):=
 aaV rfl rfl (by
  have ao:=O9 h aB au d le cb aq n;have az:=HO h d le cb aq;simp[vo,Gj,ao,az])
theorem aaX:nt [.tup [.tup (l.map (·.2)),d,le,cb],.int i,.tup [.str "add",.str (cD a),.int n]]=pure (.v (.tup [.tup [.tup ((jn l a (lU (e8 (Q:=d4) l a)+n)).map (·.2)),d,le,cb],.int (lU (e8 (Q:=d4) l a)+n)])):=
 aaQ rfl rfl (by
  have ao:=O9 h aB au d le cb aq (lU (e8 (Q:=d4) l a)+n);have az:=HO h d le cb aq;simp[vn,Gh,Gi,ao,az])
end
def qq(x:Int×D):Prop:=∃(n:Int)(z:D),x.2=.tup [.int x.1,.int n,z]
def qq.xG{x:Int×D}(h:qq x):o1 x:=by obtain⟨n,z,e⟩:=h;exact⟨_,_,e⟩
def ka:Option D->Int
 |some (.tup [_,.int n,_])=>n|_=>0
def KS{l:List (Int×D)}(h:∀x∈l,qq x)(a:Int):aK (.v ((e8 (Q:=fM.κ.toKeyOrd) l a).getD (.tup [.int a,.int 0,.aQ]))) (.v (.int 1))=pure (.v (.int (ka (e8 (Q:=fM.κ.toKeyOrd) l a)))):=by
 cases q:e8 (Q:=fM.κ.toKeyOrd) l a with
 |none=>simp[ka]|some d=>
  obtain⟨n,z,e⟩:=h _ (uF q);have e:d=.tup [.int a,.int n,z]:=e;subst e;simp[ka]
def yw(c d le cb:D):vq [.tup [c,d,le,cb]]=(do jL (.v cb) (.v .aQ)):=by
 simp[vq,GC,q9,Hi]
section
variable{l:List (Int×D)}(h:∀x∈l,qq x)(c le cb:D)(a n:Int)
include h
theorem Ih(ds:D)(hd:dp ds=.v ds)(q:ds=.aQ\/(∃xs,ds=.tup xs)/\(cb=.str "over"\/(∃zs,cb=.tup zs)\/cb=.aQ/\n<=ka (e8 (Q:=fM.κ.toKeyOrd) l a))) :
  nj [.tup [c,.tup (l.map (·.2)),le,cb],.int a,.int n,ds]=pure (.v (.tup [c,.tup (l.map (·.2)),le,cb])):=by
 have ao:=Bv (λx ag=>(h x ag).xG) c le cb a;have az:=KS h a;simp only[nj,AX,AY,AZ];rcases q with rfl|⟨⟨xs,rfl⟩,rfl|⟨zs,rfl⟩|⟨rfl,q⟩⟩
 .simp
 .simp[yw]
 .simp[yw]
 .simp[yw,ao,az,q]
theorem UJ(xs:List D)(q:ka (e8 (Q:=fM.κ.toKeyOrd) l a)<n)(au:l.length<63)(aG:(l.map (·.1)).Nodup){c' le' sh' v:D}
  (bg:nt [.tup [c,.tup (l.map (·.2)),le,.aQ],.int a,.tup xs]=pure (.v (.tup [.tup [c',.tup (l.map (·.2)),le',sh'],v]))) (bI:dp v=.v v) :
  nj [.tup [c,.tup (l.map (·.2)),le,.aQ],.int a,.int n,.tup xs]=pure (.v (.tup [c',.tup ((kN (Q:=fM.κ.toKeyOrd) l (a,.tup [.int a,.int n,v])).map (·.2)),le',sh'])):=by
 have ao:=Bv (λx ag=>(h x ag).xG) c le .aQ a;have az:=KS h a;have cI:=afR (λx ag=>(h x ag).xG) aG au c' le' sh' a (.int n) v rfl bI;have fp:¬n<=ka (e8 (Q:=fM.κ.toKeyOrd) l a):=by omega
 simp only[nj,AX,AY,AZ];simp[yw,ao,az,fp,bg,cI]
end
def aam{l:List (Int×D)}(h:∀x∈l,qq x)(a n:Int)(v:D):∀x∈kN (Q:=fM.κ.toKeyOrd) l (a,.tup [.int a,.int n,v]),qq x:=λx ag=>by
 rcases(tm (Q:=fM.κ.toKeyOrd)).mp ag with⟨ag,_⟩|rfl
 .exact h x ag
 .exact⟨n,v,rfl⟩
end e3
namespace e3
open PySem PySem.Spec aF a0 ju
def Good(r:aO):Prop:=r.wf/\r.deep<=4/\r.names.length<=12
end e3
namespace e3
open PySem PySem.Spec aF a0 ju hu lO
def E_(i:Int):sM [.int i]=pure (.v (.aE true)):=by kernel_rfl
def O7(xs:List D):sM [.tup xs]=pure (.v (.aE false)):=by kernel_rfl
def Cb(m k:Nat):pS [bf m,bf k]=pure (.v (.aE (gS m k))):=by
 have e:=Si m k;simp only[pS,Gq,lB];simp[e]
def Dy(bc:List Nat)(h:∀k∈bc,k<=1000):sS [.lst (bc.map bf)]=pure (.v (bf (maskOf bc))):=by
 obtain⟨Y',e,s2,rfl⟩:=uA (b:=λd Y=>C8 (Y.set 2 (.v d))) (ds:=bc.map bf) (Y:=[.bF (bc.map bf),.v (.int 0),.e])
  (λi Y=>∃s2,Y=[.bF (bc.map bf),.v (bf (maskOf (bc.take i))),s2]) ⟨_,rfl⟩ (λi d Y hd ⟨s2,ay⟩=>by
   subst ay;obtain⟨k,ax,rfl⟩:=Dx hd;have od:=h k (aka ax);refine⟨_,.inl (?_:_=pure (fX.bo [.bF (bc.map bf),.v (bf (maskOf (bc.take (i+1)))),.v (bf k)])),_,rfl⟩;rw[take_snoc ax,vw,lB (_ ||| _),<-D3];have gX:(k:Int)<=1000000:=by omega
   simp only[C8,lB];simp[gX])
 rw[ajm,amJ]at e;simp only[sS,G',Ha,Hb];simp[e]
def YT(h:m<64):y1 [bf m]=pure (.fr ((yE m).map bf)):=by
 have ab:=bits_le m h;have c:fK (a5 (bM pS (U (I 1) (U (I 0) ak)))) (I 0) [.e,.v (bf m)] ((ajI (bits m)).map bf)=pure (((ajI (bits m)).filter (gS m)).map bf):=
  la bf (gS m) bf _ (λk _=>by simp[Cb]) λk _ _=>by simp
 have bB:-4611686018427387904<=((bits m:Nat):Int)/\((bits m:Nat):Int)<4611686018427387904:=by omega
 have z:bits m<ajt:=eS (by omega);rw[YQ];simp only[y1,GD];simp only[lB m]at c ⊢;simp[Yh,bB,MS,z,c]
theorem LA:∀(n:Nat)(r:aO),r.deep<n->r.names.length<=1000->pT n [enc r]=pure (.fr (r.names.map bf))
 |0,r,h,_=>absurd h (amn _)|n+1,.kp k,h,_=>by
  simp only[pT,xk,sa,aO.names];simp[E_,lB]
 |n+1,.ch k ps,h,au=>by
  simp only[aO.deep]at h;simp only[aO.names]at au ⊢;have dl:=r6 (ps:=ps) (n:=n) (by omega);rw[qB];obtain⟨Y',e,s2,rfl⟩:=uA (b:=λd Y=>C9 (pT n) (Y.set 2 (.v d))) (ds:=ps.map enc) (Y:=[.v (.tup [.int (k:Nat),.tup (ps.map enc)]),.c7 false [],.e])
   (λi Y=>∃s2,Y=[.v (.tup [.int (k:Nat),.tup (ps.map enc)]),.c7 false ((aO.ea (ps.take i)).map bf),s2]) ⟨_,rfl⟩ (λi d Y hd ⟨s2,ay⟩=>by
    subst ay;obtain⟨r,aB,rfl⟩:=Dx hd;have hm:=aka aB;refine⟨_,.inl (?_:_=pure (fX.bo [.v (.tup [.int (k:Nat),.tup (ps.map enc)]),.c7 false ((aO.ea (ps.take (i+1))).map bf),.v (enc r)])),_,rfl⟩;have bO:=take_snoc aB;have le:(aO.ea (ps.take (i+1))).length<=1000:=by
     have:aO.ea ps=aO.ea (ps.take (i+1))++aO.ea (ps.drop (i+1)):=by rw[<-vC,List.take_append_drop]
     rw[this,ajz]at au;omega
    rw[bO,vC]at le ⊢;rw[show aO.ea [r]=r.names from akv _]at le ⊢;rw[ajz]at le;have a8:=LA n r (dl r hm) (by omega);have z:(aO.ea (ps.take i)).length+r.names.length<=ajt:=akG (eS (by omega));simp only[C9];simp[a8,z])
  rw[ajm,amJ]at e;simp only[pT,xk,Hf,Hg,Hh];simp[O7,e]
def named_eq{r:aO}(hw:r.wf)(hd:r.deep<12)(au:r.names.length<=1000):vu [enc r]=pure (.v (bf (maskOf r.names))):=by
 have af:=LA 12 r hd au;have ah:=Dy r.names λk ax=>by have:=sV r hw k ax;omega
 simp only[vu,He];simp[af,ah]
theorem BO(m:Nat):∀(n:Nat)(r:aO),r.deep<n->r.wf->kL n [enc r,bf m]=pure (.v (.aE (r.fills (gS m))))
 |0,r,h,_=>absurd h (amn _)|n+1,.kp k,h,hw=>by
  have ax:=Cb m k;simp only[kL,xg,sa,aO.fills];simp only[lB]at ax ⊢;simp[E_,ax]
 |n+1,.ch k ps,h,hw=>by
  simp only[aO.deep]at h;simp only[aO.wf]at hw;have dl:=r6 (ps:=ps) (n:=n) (by omega);have wl:=z3.mp hw.2.2.2;rw[qB];have c:fK (a5 (bM (kL n) (U (I 0) (U (I 1) ak)))) (I 0) [.e,.v (bf m)] (ps.map enc)=pure ((ps.filter (aO.fills (gS m))).map enc):=
   la enc (aO.fills (gS m)) enc ps (λr aB=>by simp[BO m n r (dl r aB) (wl r aB)]) λr _ _=>by simp
  have z:ps.length<ajt:=eS (by omega);have e:decide (((k:Nat):Int)<=(aO.cnt (gS m) ps:Nat))=decide (k<=aO.cnt (gS m) ps):=decide_eq_decide.mpr (by omega);simp only[kL,xg,Gm,aO.fills];simp only[lB m]at c ⊢;simp[O7,c,z,xD,e]
end e3
namespace lO
open hu ju
def sb(a k:aO):Nat:=maskOf a.names ||| maskOf k.names
def ZI(xs:List Nat):∀ys:List Nat,maskOf (xs++ys)=maskOf xs ||| maskOf ys:=by
 intro ys;have:∀n,∀ys:List Nat,ys.length=n->maskOf (xs++ys)=maskOf xs ||| maskOf ys:=by
  intro n
  induction n with
  |zero=>intro ys h;rw[an7.mp h,akv];exact(Nat.or_zero _).symm|succ n a8=>
   intro ys h;rcases List.eq_nil_or_concat ys with rfl|⟨l,k,rfl⟩
   .cases h
   .rw[List.concat_eq_append]at h ⊢
    rw[ajz,al6]at h;rw[<-al1,a0.vw,a8 l (by omega),a0.vw,Nat.or_assoc]
 exact this _ _ rfl
def Ip{a k:aO}(aq:a.wf)(ax:k.wf):sb a k=nx λj=>(a.names++k.names).contains j:=by
 unfold sb;rw[<-ZI,y8];intro n aG;rcases aj2.mp aG with h|h
 .exact sV a aq n h
 .exact sV k ax n h
def Iq{a k:aO}(aq:a.wf)(ax:k.wf):sb a k<64:=by rw[Ip aq ax];exact ZT _
end lO
namespace e3
open PySem PySem.Spec aF a0 ju hu lO
def dm(a k:aO):D:=.tup [enc a,enc k]
def ZP{a k:aO}(aq:Good a)(ax:Good k):y6 [dm a k]=pure (.v (bf (sb a k))):=by
 have af:=named_eq (r:=a) aq.1 (by have:=aq.2.1;omega) (by have:=aq.2.2;omega);have ah:=named_eq (r:=k) ax.1 (by have:=ax.2.1;omega) (by have:=ax.2.2;omega);unfold dm;simp only[y6,Hc];simp only[lB]at af ah ⊢;simp[af,ah,D3,sb]
def yu(j:Nat)(bc:List Nat):jg false (.v (bf j)) (.v (.lst (bc.map bf)))=pure (.v (.aE (bc.contains j))):=by
 have ey:(bc.map bf).all D.flat=true:=by rw[List.all_map];exact akL.mpr λ_ _=>rfl
 show(if(bf j).flat=true/\(bc.map bf).all D.flat=true then pure (R.v (D.aE (if false=true then !inD (bf j) (bc.map bf)else inD (bf j) (bc.map bf))))else bad)=_;rw[if_pos ⟨rfl,ey⟩,if_neg ajx,Yc]
def YS:∀m:Nat,m<64->yE m=(ajI 6).filter (gS m):=by decide +kernel
def YR{a k:aO}(aq:a.wf)(ax:k.wf):yE (sb a k)=(ajI 6).filter λj=>(a.names++k.names).contains j:=by
 rw[YS _ (Iq aq ax),Ip aq ax];exact List.filter_congr λj aW=>Lx _ j (akt.mp aW)
def DC{a k:aO}(aq:Good a)(ax:Good k):nr [dm a k]=pure (.fr (((ajI 6).filter λj=>(a.names++k.names).contains j).map bf)):=by
 have m:=ZP aq ax;have e:=YT (Iq aq.1 ax.1);rw[YR aq.1 ax.1]at e;have cb:dp (dm a k)=.v (dm a k):=rfl;simp only[nr,Hd];simp[cb,m,e]
def b'(a k:aO):List Nat:=(ajI 6).filter λj=>(a.names++k.names).contains j
end e3
namespace e3
open PySem PySem.Spec aF a0 hu ju lO
abbrev dq:=Int×Int
abbrev cO(s:dq):D:=.tup [.int s.1,.int s.2]
structure cJ where
 k:Nat
 s:dq
 w:D
abbrev dg(g:cJ):D:=.tup [bf g.k,cO g.s,g.w]
def VH(ps:List cJ)(h:∀p∈ps,p.k<6)(au:ps.length<=1000):pR [.lst (ps.map dg)]=pure (.v (bf (maskOf (ps.map (·.k))))):=by
 have c:fK g_ (ae aK (I 0) (aa (.int 0))) [.e] (ps.map dg)=pure (ps.map (bf∘λp=>p.k)):=r5 dg _ ps λp _=>by simp[dg]
 have z:ps.length<ajt:=eS (by omega);have m:=Dy (ps.map (·.k)) (λk ax=>by obtain⟨p,aH,rfl⟩:=akg.mp ax;have:=h p aH;omega);rw[ak4]at m;simp only[pR,Gp];simp[c,z,m]
def U5(s t:dq):oEq (.v (cO s)) (.v (cO t))=pure (.v (.aE (decide (s=t)))):=by
 rw[r' (x:=.v (cO s)) (y:=.v (cO t)) rfl rfl]
 congr 3
 obtain⟨a,b⟩:=s;obtain⟨c,d⟩:=t;rw[akR];simp[jh,R.arg,rh]
def Z_(s t:dq):eJ (.v (cO s)) (.v (cO t))=pure (.v (.aE (!decide (s=t)))):=by
 rw[BC (x:=.v (cO s)) (y:=.v (cO t)) rfl rfl]
 congr 4
 obtain⟨a,b⟩:=s;obtain⟨c,d⟩:=t;rw[akR];simp[jh,R.arg,rh]
def fQ(s t:dq):Bool:=decide (t.1<s.1)||decide (s.1=t.1)&&decide (t.2<s.2)
def K3(s t:dq):g0 [s.1,s.2] [t.1,t.2]=fQ s t:=by
 unfold g0 fQ;rw[q1,q1]
 by_cases bq:s.1=t.1
 .rw[if_pos bq,bq]
  by_cases b1:s.2=t.2
  .rw[if_pos b1,b1]
   simp[nh]
  .rw[if_neg b1];simp
 .rw[if_neg bq]
  simp[bq]
def vA(b p:cJ):cJ:=if fQ p.s b.s=true then p else b
def mY(p:cJ)(ps:List cJ):cJ:=ps.foldl vA p
abbrev j7:bE:=fnOf 1 1 (bG (ae aK (I 0) (aa (.int 1))))
def Kp(p:cJ):ml j7 (dg p)=some [p.s.1,p.s.2]:=by
 have e:j7 [dg p]=pure (.v (cO p.s)):=by simp[j7,dg]
 unfold ml;rw[e];rfl
theorem Dz:∀(ps:List cJ)(b:cJ),j9 j7 (dg b) [b.s.1,b.s.2] (ps.map dg)=some (dg (mY b ps))
 |[],b=>rfl|p::ps,b=>by
  rw[ajw];unfold mY;rw[List.foldl_cons];show(match ml j7 (dg p)with|some dN=>if g0 dN [b.s.1,b.s.2]=true then j9 j7 (dg p) dN (ps.map dg)else j9 j7 (dg b) [b.s.1,b.s.2] (ps.map dg)|none=>none)=_;rw[Kp];show(if g0 [p.s.1,p.s.2] [b.s.1,b.s.2]=true then j9 j7 (dg p) [p.s.1,p.s.2] (ps.map dg)else j9 j7 (dg b) [b.s.1,b.s.2] (ps.map dg))=_;rw[K3];unfold vA
  by_cases q:fQ p.s b.s=true
  .rw[if_pos q,if_pos q];exact Dz ps p
  .rw[if_neg q,if_neg q];exact Dz ps b
def qN(op:D)(g:cJ):D:=.tup [cO g.s,if g.s=(0,0)then op else g.w]
def XA(p:cJ)(ps:List cJ)(op:D)(bg:dp op=.v op)(au:(p::ps).length<64):yY [.lst ((p::ps).map dg),op]=pure (.v (qN op (mY p ps))):=by
 have c6:vx j7 ((p::ps).map dg)=some (dg (mY p ps)):=by
  rw[ajw];show(match ml j7 (dg p)with|some k=>j9 j7 (dg p) k (ps.map dg)|none=>none)=_;rw[Kp];exact Dz ps p
 generalize mY p ps=b at *;generalize p::ps=g6 at *;have d6:=U5 b.s (0,0);have z:(g6.map dg).length<64:=by rw[ajm];exact au
 have em:xS j7 (.bF (g6.map dg))=pure (.v (dg b)):=by
  unfold xS;show(match vx j7 (g6.map dg)with|some r=>if(g6.map dg).length<64 then(pure (R.v r):M R)else bad|none=>bad)=_;rw[c6];dsimp only;rw[if_pos z]
 unfold qN;simp only[yY,A0,Gr,Gs]
 by_cases q:b.s=(0,0)
 .rw[q]at d6
  simp at d6;simp[bg,em,dg,q,d6]
 .simp[q]at d6
  simp[bg,em,dg,q,d6]
end e3
namespace e3
open PySem PySem.Spec aF a0
def j3{n N:Nat}{b:a3}{ds:List D}(h:ds.length=n)(e:b (ds.map dp++akk (N-n) .e)=pure (.cZ (.v d))):fnOf n N b ds=pure (.v d):=by
 rw[BB,if_pos h,e];rfl
def ef{a b:a3}(e:a Y=pure (.bo Y')):bZ a b Y=b Y':=by rw[bZ,e];rfl
def ro{a b:a3}{r:R}(e:a Y=pure (.cZ r)):bZ a b Y=pure (.cZ r):=by rw[bZ,e];rfl
def kI{t:aR->M Bool}{a b:a3}(e:t Y=pure true):cW t a b Y=a Y:=by rw[cW,e];rfl
def nd{t:aR->M Bool}{a b:a3}(e:t Y=pure false):cW t a b Y=b Y:=by rw[cW,e];rfl
def ti{a b:aR->M Bool}(h:a Y=pure false):i4 a b Y=b Y:=by show(a Y >>= _)=_;rw[h];rfl
def zb{a:aR->M Bool}(h:a Y=pure true):g9 a Y=pure false:=by show(a Y >>= _)=_;rw[h];rfl
def aaj{a:aR->M Bool}(h:a Y=pure false):g9 a Y=pure true:=by show(a Y >>= _)=_;rw[h];rfl
def c0{m:bp}(h:m Y=pure (.v (.aE b))):a5 m Y=pure b:=by show(m Y >>= _)=_;rw[h];rfl
def AH{a b:aR->M Bool}(h:a Y=pure true):h3 a b Y=b Y:=by show(a Y >>= _)=_;rw[h];rfl
def FN{a b:aR->M Bool}(h:a Y=pure false):h3 a b Y=pure false:=by show(a Y >>= _)=_;rw[h];rfl
def bz{f:R->R->M R}{a b:bp}{r:M R}(e:f x y=r)(ao:a Y=pure x)(az:b Y=pure y):ae f a b Y=r:=by
 show(a Y >>= _)=_;rw[ao];show(b Y >>= _)=_;rw[az];exact e
def fq{m:bp}{Y:aR}(e:m Y=pure (.v d)):b7 i m Y=pure (.bo (Y.set i (.v d))):=by show(m Y >>= _)=_;rw[e];rfl
def kQ{m:bp}(e:m Y=pure (.v d)):bG m Y=pure (.cZ (.v d)):=by show(m Y >>= _)=_;rw[e];rfl
def AK{ms:cV}{Y:aR}{xs:List D}(h:Y[i]? = some (.c7 p xs))(e:ms Y=pure [.v d])(z:xs.length<ajt):j0 i hH ms Y=pure (.bo (Y.set i (.c7 p (xs++[d])))):=by
 simp[h,e,z]
def call_of{mf:bE}{ms:cV}{rs:List R}{r:M R}(ao:ms Y=pure rs)(e:mf (rs.map R.arg)=r):bM mf ms Y=r:=by show(ms Y >>= _)=_;rw[ao];exact e
def iO{f:List R->M R}{ms:cV}{r:M R}(e:f rs=r)(ao:ms Y=pure rs):cH f ms Y=r:=by show(ms Y >>= _)=_;rw[ao];exact e
def cons_of{m:bp}{ms:cV}(e:m Y=pure x)(ao:ms Y=pure xs):U m ms Y=pure (x::xs):=by show(m Y >>= _)=_;rw[e];show(ms Y >>= _)=_;rw[ao];rfl
def oJ{m:bp}{Y:aR}{r:R}(e:m Y=pure r)(h:r.dat=pure d):b7 i m Y=pure (.bo (Y.set i (.v d))):=by show(m Y >>= _)=_;rw[e];show(r.dat >>= _)=_;rw[h];rfl
def SQ{xs ys:List D}(h:xs.length+ys.length<=ajt):iH (.fr xs) (.fr ys)=pure (.fr (xs++ys)):=if_pos h
def L3{Y:aR}:jB i (dS ak) Y=pure (.bo (Y.set i (.c7 false []))):=rfl
def ON{a b c:bp}(ao:a Y=pure (.v x))(az:b Y=pure (.v y))(cI:c Y=pure (.v z)):bD (U a (U b (U c ak))) Y=pure (.v (.tup [x,y,z])):=by
 show(U a (U b (U c ak)) Y >>= _)=_;rw[cons_of ao (cons_of az (cons_of cI rfl))];rfl
def aeV{a b:bp}(ao:a Y=pure (.v x))(az:b Y=pure (.v y)):bD (U a (U b ak)) Y=pure (.v (.tup [x,y])):=by
 show(U a (U b ak) Y >>= _)=_;rw[cons_of ao (cons_of az rfl)];rfl
def hS{a b:Int}(h:nO a b):dZ (.v (.int a)) (.v (.int b))=pure (.v (.int (a / b))):=if_pos h
def pj{it:fi}{t:aR->M Bool}{ds xs:List D}(ao:it Y=pure ds)(z:ds.length<ajt)(e:fK t el (iP n cap Y) ds=pure xs):eX n cap it t el Y=pure (.fr xs):=by
 show(it Y >>= _)=_;rw[ao];show(hR (ds.length<ajt) >>= _)=_;unfold hR;rw[if_pos z];show(fK t el (iP n cap Y) ds >>= _)=_;rw[e];rfl
def Bs(e:m=pure (.v d)):(m >>= R.dat)=pure d:=by rw[e];rfl
def ID{n N:Nat}{b:a3}{ds xs:List D}(h:ds.length=n)(e:b (ds.map dp++akk (N-n) .e)=pure (.cZ (.fr xs))):fnOf n N b ds=pure (.fr xs):=by
 rw[BB,if_pos h,e];rfl
def fU{a b:Int}(h:0<b):oMod (.v (.int a)) (.v (.int b))=pure (.v (.int (a % b))):=if_pos h
def j1{a b:Int}:oEq (.v (.int a)) (.v (.int b))=pure (.v (.aE (decide (a=b)))):=rfl
def xA{xs ys:List D}(h:xs.length+ys.length<=ajt):iH (.v (.lst xs)) (.fr ys)=pure (.fr (xs++ys)):=if_pos h
def aiP{i:Int}{v:D}(e:eP xs i=some v):aK (.v (.lst xs)) (.v (.int i))=pure (.v v):=by
 show(match eP xs i with|some d=>pure (R.v d)|none=>bad)=_;rw[e]
def CQ{i:Int}{v:D}(e:eP xs i=some v):aK (.fr xs) (.v (.int i))=pure (.v v):=by
 show(match eP xs i with|some d=>pure (R.v d)|none=>bad)=_;rw[e]
def q2{ms:cV}{ds:List D}(e:ms Y=pure rs)(h:lb rs=pure ds)(z:ds.length<=1000):dS ms Y=pure (.fr ds):=by
 show(ms Y >>= _)=_;rw[e];show(lb rs >>= _)=_;rw[h];show(hR (ds.length<=1000) >>= _)=_;unfold hR;rw[if_pos z];rfl
def ZX{a b:Int}(h:nP a b):vK (.v (.int a)) (.v (.int b))=pure (.v (.int (a*b))):=if_pos h
def zt{a b n:Int}(h:0<=b/\b<=1000000/\a.natAbs<2 ^ 64)(e:a ^ b.toNat=n):mn (.v (.int a)) (.v (.int b))=pure (.v (.int n)):=by rw[<-e];exact if_pos h
def OZ{is:List Nat}{m:bp}{ds:List D}(e:m Y=pure (.v (.tup ds)))(h:ds.length=is.length):nV is m Y=pure (.bo (kf is ds Y)):=by
 show(m Y >>= _)=_;rw[e];exact if_pos h
def JU{m:bp}(e:m Y=pure (.fr xs)):kH m Y=pure xs:=by show(m Y >>= _)=_;rw[e];rfl
def aJ{α:Type}(S:cA)(m:M α)(a:α):Prop:=m.run S=.ok a S
def bL{α:Type}(S:cA)(m:N α)(a:α)(av:cA):Prop:=m.run S=.ok a av
section
variable{α β:Type}{S S1 a6:cA}{Y Y':aR}
def aJ.of(h:m=pure a):aJ S m a:=by rw[h];rfl
theorem aJ.bind{f:α->M β}(h:aJ S m a)(ah:aJ S (f a) b):aJ S (m >>= f) b:=by
 show(match m.run S with|.ok a S1=>(f a).run S1|.exc c S1=>.exc c S1|.bad=>.bad)=_;rw[show m.run S=.ok a S from h];exact ah
def bL.bind{f:α->N β}(h:bL S m a S1)(ah:bL S1 (f a) b a6):bL S (m >>= f) b a6:=by
 show(match m.run S with|.ok a S1=>(f a).run S1|.exc c S1=>.exc c S1|.bad=>.bad)=_;rw[show m.run S=.ok a S1 from h];exact ah
def aJ.to{m:M α}(h:aJ S m a):bL S m.up a S:=h
def Kd{p:Prop}[Decidable p](h:p):aJ S (hR p) ():=.of (if_pos h)
def de{f:R->R->M R}{a b:bp}{x y r:R}(e:f x y=pure r)(af:aJ S (a Y) x)(ah:aJ S (b Y) y):aJ S (ae f a b Y) r:=af.bind (ah.bind (.of e))
def fL:aJ S (ak Y) []:=.of rfl
def cY{m:bp}{ms:cV}(h:aJ S (m Y) x)(af:aJ S (ms Y) xs):aJ S (U m ms Y) (x::xs):=h.bind (af.bind (.of rfl))
def gY{mf:bE}{ms:cV}{rs:List R}{r:R}(h:aJ S (ms Y) rs)(e:aJ S (mf (rs.map R.arg)) r):aJ S (bM mf ms Y) r:=h.bind e
def Kb{f:List R->M R}{ms:cV}{r:R}(e:f rs=pure r)(h:aJ S (ms Y) rs):aJ S (cH f ms Y) r:=h.bind (.of e)
def Kj{ms:cV}{ds:List D}(h:aJ S (ms Y) rs)(e:lb rs=pure ds)(z:ds.length<=1000):aJ S (bD ms Y) (.v (.tup ds)):=h.bind ((aJ.of e).bind ((Kd z).bind (.of rfl)))
def dF{m:bp}(h:aJ S (m Y) (.v (.aE b))):aJ S (a5 m Y) b:=h.bind (.of rfl)
def YN{a b:aR->M Bool}(h:aJ S (a Y) true):aJ S (i4 a b Y) true:=h.bind (.of rfl)
def CW{a b:aR->M Bool}(h:aJ S (a Y) false)(ah:aJ S (b Y) x):aJ S (i4 a b Y) x:=h.bind ah
def nf{a b:aR->M Bool}(h:aJ S (a Y) true)(ah:aJ S (b Y) x):aJ S (h3 a b Y) x:=h.bind ah
def pK{a b:aR->M Bool}(h:aJ S (a Y) false):aJ S (h3 a b Y) false:=h.bind (.of rfl)
def vc{a:aR->M Bool}(h:aJ S (a Y) x):aJ S (g9 a Y) (!x):=h.bind (.of rfl)
def yC{it:fi}{t:aR->M Bool}{ds xs:List D}(h:aJ S (it Y) ds)(z:ds.length<ajt)(e:aJ S (fK t el (iP n cap Y) ds) xs):aJ S (eX n cap it t el Y) (.fr xs):=h.bind ((Kd z).bind (e.bind (.of rfl)))
theorem yD{α:Type}{el:bp}(g:α->D)(f:α->D):∀as:List α,(∀a∈as,aJ S (el (Y.set 0 (.v (g a)))) (.v (f a)))->aJ S (fK g_ el Y (as.map g)) (as.map f)
 |[],_=>.of rfl|a::as,h=>(aJ.of (S:=S) (m:=(pure true:M Bool)) rfl).bind ((h a (ajy ..)).bind ((aJ.of (m:=R.dat (.v (f a))) rfl).bind ((yD g f as λx ag=>h x (ajv _ ag)).bind (.of rfl))))
def Ke{m:bp}{r:R}(h:aJ S (m Y) r)(e:r.fo=some ds):aJ S (kH m Y) ds:=h.bind (by rw[e];exact .of rfl)
def CU{m:bp}(h:aJ S (m Y) (.fr xs)):aJ S (sv m Y) xs:=h.bind (.of rfl)
def pL{m:bp}{r:R}(h:aJ S (m Y) r)(e:r.dat=pure d):aJ S (b7 i m Y) (.bo (Y.set i (.v d))):=h.bind ((aJ.of e).bind (.of rfl))
def sA{m:bp}(h:aJ S (m Y) (.v d)):aJ S (bG m Y) (.cZ (.v d)):=h.bind (.of rfl)
def Kh{m:bp}(h:aJ S (m Y) (.fr xs)):aJ S (bG m Y) (.cZ (.fr xs)):=h.bind (.of rfl)
def sz{t:aR->M Bool}{a b:a3}(h:aJ S (t Y) true)(ah:aJ S (a Y) a_):aJ S (cW t a b Y) a_:=h.bind ah
def sy{t:aR->M Bool}{a b:a3}(h:aJ S (t Y) false)(ah:aJ S (b Y) a_):aJ S (cW t a b Y) a_:=h.bind ah
def oq{a b:a3}(h:aJ S (a Y) (.bo Y'))(ah:aJ S (b Y') a_):aJ S (bZ a b Y) a_:=h.bind ah
def Ki{a b:a3}{r:R}(h:aJ S (a Y) (.cZ r)):aJ S (bZ a b Y) (.cZ r):=h.bind (.of rfl)
def pM{is:List Nat}{m:bp}{ds:List D}(h:aJ S (m Y) (.v (.tup ds)))(e:ds.length=is.length):aJ S (nV is m Y) (.bo (kf is ds Y)):=h.bind (.of (if_pos e))
def vb{n N:Nat}{b:a3}{ds:List D}(h:ds.length=n)(e:aJ S (b (ds.map dp++akk (N-n) .e)) (.cZ (.v d))):aJ S (fnOf n N b ds) (.v d):=by
 rw[BB,if_pos h];exact e.bind (.of rfl)
def ng(h:S[i]? = some o):aJ S (gm (.v (.ref i))) o:=(show aJ S IU S from rfl).bind (by rw[h];exact .of rfl)
def YM{a b:bp}{k:Key}(h:S[i]? = some (.f6 ai))(af:aJ S (a Y) (.v (.ref i)))(ah:aJ S (b Y) (.v dN))(ax:pN dN=some k)(e:ig ai k=some d):aJ S (ae er a b Y) (.v d):=af.bind (ah.bind ((ng h).bind (by show aJ S (match pN dN with|some key=>_|none=>_) _;rw[ax];show aJ S (match ig ai k with|some d=>_|none=>_) _;rw[e];exact .of rfl)))
def Kf{m:bp}(h:S[i]? = some (.lst xs))(af:aJ S (m Y) (.v (.ref i))):aJ S (lT m Y) (.mv xs):=af.bind ((ng h).bind (.of rfl))
def CV{mf:bE}{mo:bp}{ms:cV}{aZ:List (Str×D)}{rs:List R}{r:R}(h:S[i]? = some (.bC c aZ))(af:aJ S (mo Y) (.v (.ref i)))(aG:aZ.lookup m=none)(ah:aJ S (ms Y) rs)(e:aJ S (mf (.ref i::rs.map R.arg)) r):aJ S (gF c m mf mo ms Y) r:=af.bind ((ng h).bind (by show aJ S (if c=c/\aZ.lookup m=none then _ else _) _;rw[if_pos ⟨rfl,aG⟩];exact ah.bind e))
def YL{m:bp}{aZ:List (Str×D)}(h:S[i]? = some (.bC c aZ))(af:aJ S (m Y) (.v (.ref i)))(e:aZ.lookup f=some d):aJ S (bS (cQ c f) m Y) (.v d):=af.bind ((ng h).bind (by show aJ S (if c=c then _ else _) _;rw[if_pos rfl,e];exact .of rfl))
def YO{m ny:bp}{ms:cV}{rs:List R}{k:List Key}(h:S[i]? = some (.eY ai))(af:aJ S (m Y) (.v (.ref i)))(ah:aJ S (ms Y) rs)(bN:aJ S (ny Y) (.v qk))(ax:qY rs=some k)(au:rs.length<=1000):aJ S (xy m ms ny Y) (.v ((ig ai k).getD qk)):=af.bind (ah.bind (bN.bind ((ng h).bind (by rw[ax];exact .of (if_pos au)))))
def c4{a b:bl}(h:bL S (a Y) (.bo Y') S1)(ah:bL S1 (b Y') a_ a6):bL S (bK a b Y) a_ a6:=h.bind ah
def wG{a b:bl}{r:R}(h:bL S (a Y) (.cZ r) S1):bL S (bK a b Y) (.cZ r) S1:=h.bind rfl
def mG{t:aR->N Bool}{a b:bl}(h:bL S (t Y) true S1)(ah:bL S1 (a Y) a_ a6):bL S (eL t a b Y) a_ a6:=h.bind ah
def nM{t:aR->N Bool}{a b:bl}(h:bL S (t Y) false S1)(ah:bL S1 (b Y) a_ a6):bL S (eL t a b Y) a_ a6:=h.bind ah
def tJ{t:aR->N Bool}{a b:bl}(h:bL S (t Y) false S1)(ah:bL S1 (b Y) a_ a6):bL S (bK (eL t a (b9 cq)) b Y) a_ a6:=c4 (nM h rfl) ah
def agm{t:aR->M Bool}{b:bl}(h:aJ S (t Y) false)(ah:bL S (b Y) a_ a6):bL S (bK (b9 (cW t a cq)) b Y) a_ a6:=c4 (sy h (.of rfl)).to ah
def agl{m:ed}(h:bL S (m Y) (.v d) S1):bL S (lJ m Y) (.cZ (.v d)) S1:=h.bind rfl
def agk{m:ed}(h:bL S (m Y) (.fr xs) S1):bL S (lJ m Y) (.cZ (.fr xs)) S1:=h.bind rfl
def tH{m:ed}{r:R}(h:bL S (m Y) r S1):bL S (jr m Y) (.bo Y) S1:=h.bind rfl
def kZ{m:ed}{r:R}(h:bL S (m Y) r S1)(e:r.dat=pure d):bL S (hr i m Y) (.bo (Y.set i (.v d))) S1:=h.bind ((aJ.of e).to.bind rfl)
def x_call{mf:e'}{ms:cV}{rs:List R}{r:R}(h:aJ S (ms Y) rs)(aC:rs.all R.i3=true)(e:bL S (mf (rs.map R.arg)) r S1):bL S (iw mf (eU ms) Y) r S1:=(aJ.to h).bind (by rw[if_pos aC];exact e)
def tI{mf:e'}{mo:bp}{ms:hM}{aZ:List (Str×D)}{rs:List R}{r:R}(h:S[i]? = some (.bC c aZ))(af:aJ S (mo Y) (.v (.ref i)))(aG:aZ.lookup m=none)(ah:bL S (ms Y) rs S)(aC:rs.all R.i3=true)(e:bL S (mf (.ref i::rs.map R.arg)) r S1):bL S (fO c m mf mo ms Y) r S1:=af.to.bind ((ng h).to.bind (by show bL S (if c=c/\aZ.lookup m=none then _ else _) _ _;rw[if_pos ⟨rfl,aG⟩];exact ah.bind (by rw[if_pos aC];exact e)))
def agi{mf:e'}{ms:cV}{rs:List R}(h:aJ S (ms Y) rs)(aC:rs.all R.i3=true)(e:bL (S++[.bC c []]) (mf (.ref S.length::rs.map R.arg)) (.v .aQ) S1):bL S (wF c mf (eU ms) Y) (.v (.ref S.length)) S1:=(aJ.to h).bind (by
 rw[if_pos aC];exact bL.bind (m:=uD) (a:=S) (S1:=S) rfl (bL.bind (m:=putN _) (a:=()) (S1:=S++[hL.bC c []]) rfl (bL.bind e rfl)))
def qj{n N:Nat}{b:bl}{ds:List D}(h:ds.length=n)(e:bL S (b (ds.map dp++akk (N-n) .e)) (.cZ (.v d)) S1):bL S (fnX n N b ds) (.v d) S1:=by
 unfold fnX;rw[if_pos h];exact e.bind rfl
def agh{n N:Nat}{b:bl}{ds xs:List D}(h:ds.length=n)(e:bL S (b (ds.map dp++akk (N-n) .e)) (.cZ (.fr xs)) S1):bL S (fnX n N b ds) (.fr xs) S1:=by
 unfold fnX;rw[if_pos h];exact e.bind rfl
def z'{n N:Nat}{b:bl}{ds:List D}(h:ds.length=n)(e:bL S (b (ds.map dp++akk (N-n) .e)) (.bo Y') S1):bL S (fnX n N b ds) (.v .aQ) S1:=by
 unfold fnX;rw[if_pos h];exact e.bind rfl
def x_at{mo:bp}{mv:ed}{aZ:List (Str×D)}{r:R}(bI:bL S (mv Y) r S1)(e:r.dat=pure d)(af:aJ S1 (mo Y) (.v (.ref i)))(h:S1[i]? = some (.bC c aZ))(au:aZ.length<1000):bL S (eZ c f mo mv Y) (.bo Y) (S1.set i (.bC c (iI f d aZ))):=bI.bind ((aJ.of e).to.bind (af.to.bind ((ng h).to.bind (by
 show bL S1 (if c=c/\aZ.length<1000 then _ else _) _ _;rw[if_pos ⟨rfl,au⟩];rfl))))
def agg{mo mk:bp}{mv:ed}{ai:List (Key×D)}{r:R}{k:Key}(bI:bL S (mv Y) r S1)(e:r.dat=pure d)(af:aJ S1 (mo Y) (.v (.ref i)))(ah:aJ S1 (mk Y) (.v dN))(h:S1[i]? = some (.f6 ai))(ax:pN dN=some k)(au:ai.length<1000):bL S (nK mo mk mv Y) (.bo Y) (S1.set i (.f6 (fm ai k d))):=bI.bind ((aJ.of e).to.bind (af.to.bind (ah.to.bind ((ng h).to.bind (by
 show bL S1 (match pN dN with|some key=>_|none=>_) _ _;rw[ax];show bL S1 (if ai.length<1000 then _ else _) _ _;rw[if_pos au];rfl)))))
def Pc{mo:bp}{ms:cV}{mv:ed}{ai:List (List Key×D)}{r:R}{rs:List R}{k:List Key}(bI:bL S (mv Y) r S1)(e:r.dat=pure d)(af:aJ S1 (mo Y) (.v (.ref i)))(ah:aJ S1 (ms Y) rs)(h:S1[i]? = some (.eY ai))(ax:qY rs=some k)(au:rs.length<=1000/\ai.length<1000):bL S (wD mo ms mv Y) (.bo Y) (S1.set i (.eY (fm ai k d))):=bI.bind ((aJ.of e).to.bind (af.to.bind (ah.to.bind ((ng h).to.bind (by
 rw[ax];show bL S1 (if rs.length<=1000/\ai.length<1000 then _ else _) _ _;rw[if_pos au];rfl)))))
def Pa{mo:bp}{ms:cV}{xs:List D}(af:aJ S (mo Y) (.v (.ref i)))(ah:aJ S (ms Y) [.v d])(h:S[i]? = some (.lst xs))(z:xs.length<ajt):bL S (qi hH mo ms Y) (.bo Y) (S.set i (.lst (xs++[d]))):=af.to.bind (ah.to.bind ((ng h).to.bind ((aJ.to (a:=(R.v .aQ,xs++[d])) (.of (by show(hR (xs.length<ajt) >>= _)=_;rw[HQ z];rfl))).bind rfl)))
def Fe:bL S (oT (da (dS ak)) Y) (.v (.ref S.length)) (S++[.lst []]):=rfl
def rH{it:fi}(h:aJ S (it Y) ds)(e:bL S (jR (λd Y=>b (Y.set i (.v d))) ds Y) a_ S1):bL S (nL i it b Y) a_ S1:=(aJ.to h).bind e
def mH{b:D->bl}(h:bL S (b d Y) (.bo Y') S1)(ah:bL S1 (jR b ds Y') a_ a6):bL S (jR b (d::ds) Y) a_ a6:=h.bind ah
def Pd{a:aR->N Bool}(h:bL S (a Y) x S1):bL S (wI a Y) (!x) S1:=h.bind rfl
def O'{m:ed}(h:bL S (m Y) (.v (.aE b)) S1):bL S (wJ m Y) b S1:=h.bind rfl
def Fr(W:List Nat)(S av:cA):Prop:=∀j o,j∉W->S[j]? = some o->av[j]? = some o
def Fr.set(h:i∈W):Fr W S (S.set i o):=λj o' aW e=>by
 rw[ajE (λq:i=j=>aW (q▸h))];exact e
def Fr.app:Fr W S (S++l):=λj o _ e=>by
 rw[ajR (ajs.mp e).1];exact e
def Fr.refl:Fr W S S:=λ_ _ _ e=>e
def Fr.trans(h:Fr W S S1)(ah:Fr W S1 a6):Fr W S a6:=λj o aW e=>ah j o aW (h j o aW e)
def get_set(h:S[i]? = some o):(S.set i o')[i]? = some o':=by
 rw[akm (ajs.mp h).1]
def IW:(S++[o])[S.length]? = some o:=by rw[ajL (ajq _),aln];rfl
def set_same(h:S[i]? = some o):S.set i o=S:=by
 obtain⟨au,e⟩:=ajs.mp h;rw[<-e,List.set_getElem_self]
end
end e3
namespace e3
open PySem PySem.Spec aF a0 ju hu lO
structure b4 where
 me:Int
 cM:Int
 h:D
 op:D
 eK:Bool
 bh:Int
 st:dq
 wi:Int
 dd:D
 dY:Str
 dv:D
 aD:List cJ
 dT:Nat
 et:D
def b4.aZ(a:b4)(g:Nat):List (Str×D):=[("me",.int a.me),("epoch",.int a.cM),("hall",a.h),("opening",a.op),("over_known",.aE a.eK),("greatest_round",.int a.bh),("last_stamp",cO a.st),("wishes",.int a.wi),("deed",a.dd),("standing",.str a.dY),("last_outcome",a.dv),("grants",.ref g),("kept_mask",bf a.dT),("told_slate",a.et)]
def dR(me cM:Int)(s:dq)(k:Nat):D:=.tup [.str "ask",.int me,bf k,.int cM,cO s,.tup []]
def dK(me cM:Int)(s:dq)(l:D)(k:Nat):D:=.tup [.str "tell",.int me,bf k,.int cM,cO s,l]
def hQ:D:=.tup [.tup [],.tup [],.tup [.int 0,.aQ],.aQ]
def za(me:Int)(h:D):b4:=⟨me,0,h,hQ,false,0,(0,0),0,.aQ,"calm",.aQ,[],0,.aQ⟩
structure eA(S:cA)(i g:Nat)(a:b4):Prop where
 bC:S[i]? = some (.bC "Asker" (a.aZ g))
 ls:S[g]? = some (.lst (a.aD.map dg))
structure ek(S av:cA)(i g g':Nat)(b:b4):Prop where
 at':eA av i g' b
 fr:Fr [i,g] S av
 nw:g'=g\/S.length<=g'
 len:S.length<=av.length
def fu(S:cA)(i g:Nat)(m:N fX)(a_:fX)(c:b4):Prop:=∃av g',bL S m a_ av/\ek S av i g g' c
def b4.Do(a:b4)(mf:e')(ds ys:List D)(b:b4):Prop:=∀(S:cA)(i g:Nat),eA S i g a->∃av g',bL S (mf (.ref i::ds)) (.fr ys) av/\ek S av i g g' b
section
variable{S S1 a6:cA}{Y Y':aR}{i g g1 g2 k:Nat}{a b c:b4}{f:Str}{d:D}{mv:bp}{r:R}{bd:bl}{a_:fX}
def vh(h:S[i]? = some o):i<S.length:=(ajs.mp h).1
def eA.ne(h:eA S i g a):i≠g:=λe=>by have:=h.bC;rw[e,h.ls]at this;cases this
def ek.refl(h:eA S i g a):ek S S i g g a:=⟨h,.refl,.inl rfl,ajq _⟩
def ek.trans(h:ek S S1 i g g1 b)(ah:ek S1 a6 i g1 g2 c):ek S a6 i g g2 c:=by
 refine⟨ah.at',λj o aW e=>ah.fr j o ?_ (h.fr j o aW e),?_,akq h.len ah.len⟩
 .have:=vh e
  simp only[aju,akU,or_false,not_or]at aW ⊢;rcases h.nw with q|q
  .rw[q];exact aW
  .exact⟨aW.1,by omega⟩
 .rcases ah.nw with q|q
  .rw[q];exact h.nw
  .exact .inr (akq h.len q)
def dW(h:eA S i g a)(ax:I k Y=pure (.v (.ref i)))(e:(a.aZ g).lookup f=some d):aJ S (bS (cQ "Asker" f) (I k) Y) (.v d):=YL h.bC (.of ax) e
def C2:(a.aZ g).length<1000:=by show 14<1000;omega
theorem lp(h:eA S i g a)(b:b4)(ax:I k Y=pure (.v (.ref i)))(ev:aJ S (mv Y) r)(j2:r.dat=pure d)(e:iI f d (a.aZ g)=b.aZ g)(pv:b.aD=a.aD)(q:∀S1,eA S1 i g b->fu S1 i g (bd Y) a_ c):fu S i g (bK (eZ "Asker" f (I k) (da mv)) bd Y) a_ c:=by
 have af:eA (S.set i (.bC "Asker" (iI f d (a.aZ g)))) i g b:=⟨by rw[get_set h.bC,e],by rw[ajE h.ne,pv];exact h.ls⟩;obtain⟨a6,g2,t,s⟩:=q _ af;exact⟨a6,g2,c4 (x_at ev.to j2 (.of ax) h.bC C2) t,ek.trans ⟨af,.set (by simp),.inl rfl,by rw[akj];exact ajq _⟩ s⟩
theorem VE(h:eA S i g a)(b:b4)(ax:I k Y=pure (.v (.ref i)))(e:∀n,iI ("grants":Str) (D.ref n) (a.aZ g)=b.aZ n)(c6:b.aD=[])(q:∀S1 g1,eA S1 i g1 b->fu S1 i g1 (bd Y) a_ c):fu S i g (bK (eZ "Asker" "grants" (I k) (oT (da (dS ak)))) bd Y) a_ c:=by
 have h0:(S++[hL.lst []])[i]? = some (.bC "Asker" (a.aZ g)):=Fr.app (W:=[]) _ _ (akU) h.bC;have af:eA ((S++[hL.lst []]).set i (.bC "Asker" (iI ("grants":Str) (D.ref S.length) (a.aZ g)))) i S.length b:=⟨by rw[get_set h0,e],by rw[ajE (ajJ (vh h.bC)),IW,c6];rfl⟩;obtain⟨a6,g2,t,s⟩:=q _ _ af;exact⟨a6,g2,c4 (x_at Fe rfl (.of ax) h0 C2) t,ek.trans ⟨af,Fr.app.trans (.set (by simp)),.inr (ajq _),by rw[akj,ajz];omega⟩ s⟩
theorem I1{ms:cV}(h:eA S i g a)(b:b4)(ax:I k Y=pure (.v (.ref i)))(ev:aJ S (ms Y) [.v (dg x)])(e:b.aZ g=a.aZ g)(pv:b.aD=a.aD++[x])(z:a.aD.length<1000)(q:∀S1,eA S1 i g b->fu S1 i g (bd Y) a_ c):fu S i g (bK (qi hH (bS (cQ "Asker" "grants") (I k)) ms) bd Y) a_ c:=by
 have af:eA (S.set g (.lst (a.aD.map dg++[dg x]))) i g b:=⟨by rw[ajE h.ne.symm,e];exact h.bC,by rw[get_set h.ls,pv,akd];rfl⟩;obtain⟨a6,g2,t,s⟩:=q _ af;exact⟨a6,g2,c4 (Pa (dW h ax rfl) ev h.ls (by rw[ajm];exact eS (by omega))) t,ek.trans ⟨af,.set (by simp),.inl rfl,by rw[akj];exact ajq _⟩ s⟩
def FK(h:eA S i g a)(ax:I k Y=pure (.v (.ref i))):aJ S (lT (bS (cQ "Asker" "grants") (I k)) Y) (.mv (a.aD.map dg)):=Kf h.ls (dW h ax rfl)
def uH{m:a3}(h:eA S i g a)(e:aJ S (m Y) a_):fu S i g (b9 m Y) a_ a:=⟨S,g,e,.refl h⟩
theorem iR{t:aR->M Bool}(e:aJ S (t Y) false)(q:fu S i g (bd Y) a_ c):fu S i g (bK (b9 (cW t m cq)) bd Y) a_ c:=by
 obtain⟨a6,g2,t,s⟩:=q;exact⟨a6,g2,agm e t,s⟩
theorem m7{t:aR->M Bool}(e:aJ S (t Y) false)(q:fu S i g (bd Y) a_ c):fu S i g (bK (eL (e_ t) m (b9 cq)) bd Y) a_ c:=by
 obtain⟨a6,g2,t,s⟩:=q;exact⟨a6,g2,tJ e t,s⟩
def B5{t:aR->M Bool}{m:a3}{r:R}(h:eA S i g a)(e:aJ S (t Y) true)(az:aJ S (m Y) (.cZ r)):fu S i g (bK (b9 (cW t m cq)) bd Y) (.cZ r) a:=⟨S,g,wG (sz e az).to,.refl h⟩
theorem B4{t:aR->M Bool}{m:bl}{r:R}(e:aJ S (t Y) true)(q:fu S i g (m Y) (.cZ r) c):fu S i g (bK (eL (e_ t) m (b9 cq)) bd Y) (.cZ r) c:=by
 obtain⟨a6,g2,t,s⟩:=q;exact⟨a6,g2,wG (mG e t),s⟩
theorem x8{m:a3}(e:aJ S (m Y) (.bo Y'))(q:fu S i g (bd Y') a_ c):fu S i g (bK (b9 m) bd Y) a_ c:=by
 obtain⟨a6,g2,t,s⟩:=q;exact⟨a6,g2,c4 (aJ.to e) t,s⟩
theorem uI{ms:hM}{rs:List R}(h:eA S i g a)(q:a.Do mf (rs.map R.arg) ys c)(ax:I k Y=pure (.v (.ref i)))(aG:(a.aZ g).lookup m=none)(ah:bL S (ms Y) rs S)(aC:rs.all R.i3=true):fu S i g (lJ (fO "Asker" m mf (I k) ms) Y) (.cZ (.fr ys)) c:=by
 obtain⟨a6,g2,t,s⟩:=q _ _ _ h;exact⟨a6,g2,agk (tI h.bC (.of ax) aG ah aC t),s⟩
theorem ku{n N:Nat}{bd:bl}{ds ys:List D}(h:ds.length+1=n)(q:∀S i g,eA S i g a->fu S i g (bd (.v (.ref i)::ds.map dp++akk (N-n) .e)) (.cZ (.fr ys)) c):a.Do (fnX n N bd) ds ys c:=λS i g dE=>by
 obtain⟨a6,g2,t,s⟩:=q S i g dE;exact⟨a6,g2,agh h t,s⟩
end
def b4.asks(a:b4):b4:={ a with bh:=a.bh+1,st:=(a.bh+1,a.me),dY:="asking",aD:=[] }
def FU{a:b4}{ms:List Nat}(hm:nr [a.h]=pure (.fr (ms.map bf)))(au:ms.length<=6) :
  a.Do yS [] (ms.map (dR a.me a.cM (a.bh+1,a.me))) a.asks:=ku rfl λS i g h=>
 lp h { a with bh:=a.bh+1 } rfl (de rfl (dW h rfl rfl) (.of rfl)) rfl rfl rfl λS h=>
 lp h { a with bh:=a.bh+1,st:=(a.bh+1,a.me) } rfl (Kj (cY (dW h rfl rfl) (cY (dW h rfl rfl) fL)) rfl (ajO rfl)) rfl rfl rfl λS h=>
 lp h { a with bh:=a.bh+1,st:=(a.bh+1,a.me),dY:="asking" } rfl (.of rfl) rfl rfl rfl λS h=>
 VE h a.asks rfl (λ_=>rfl) rfl λS g h=>
 uH h (Kh (yC (Ke (gY (cY (dW h rfl rfl) fL) (.of hm)) rfl) (by rw[ajm];exact eS (by omega))
  (yD bf (dR a.me a.cM (a.bh+1,a.me)) ms λk _=>gY (cY (dW h rfl rfl) (cY (.of rfl) (cY (dW h rfl rfl) (cY (dW h rfl rfl) fL)))) (.of rfl))))
def Pb{S:cA}{mv:bp}{aZ:List (Str×D)}{bd:bl}(h:S[i]? = some (.bC c aZ))(ev:mv Y=pure (.v d))(ax:I 0 Y=pure (.v (.ref i)))(au:aZ.length<1000)(q:bL (S.set i (.bC c (iI f d aZ))) (bd Y) a_ a6):bL S (bK (eZ c f (I 0) (da mv)) bd Y) a_ a6:=c4 (x_at (aJ.of ev).to rfl (.of ax) h au) q
def qZ{n:Nat}(h:n.ble 999=true):n<1000:=Nat.lt_succ_of_le (ajO h)
def Yf(S:cA)(me:Int)(h:D)(dE:dp h=.v h):∃av,bL (S++[.bC "Asker" []]) (yR [.ref S.length,.int me,h]) (.v .aQ) av/\eA av S.length (S.length+1) (za me h)/\av.length=S.length+2/\Fr [] S av:=by
 have ne:S.length+1≠S.length:=by omega
 have ap:∀{o o':hL},(S++[o])++[o']=S++[o,o']:=λ{o o'}=>by rw[al1];rfl
 have st:∀{o o':hL}{l:cA},(S++o::l).set S.length o'=S++o'::l:=λ{o o' l}=>by rw[List.set_append_right _ _ (ajq _),aln];rfl
 have gt:∀{o:hL}{l:cA},(S++o::l)[S.length]? = some o:=λ{o l}=>by rw[ajL (ajq _),aln];rfl
 refine⟨S++[.bC "Asker" ((za me h).aZ (S.length+1)),.lst []],z' (Y':=[.v (.ref S.length),.v (.int me),.v h]) rfl ?_,⟨gt,?_⟩,by rw[ajz];rfl,.app⟩
 .show bL _ (AS [.v (.ref S.length),.v (.int me),dp h]) _ _
  rw[dE]
  repeat' (refine Pb gt (by rfl) rfl (qZ rfl) ?_;rw[st])
  refine c4 (x_at Fe rfl (.of rfl) (by rw[ap];exact gt) (qZ rfl)) ?_;rw[ap,st,ajz];refine Pb gt (by rfl) rfl (qZ rfl) ?_;rw[st];have:=x_at (S:=S++[hL.bC "Asker" [("me",D.int me),("epoch",.int 0),("hall",h),("opening",hQ),("over_known",.aE false),("greatest_round",.int 0),("last_stamp",cO (0,0)),("wishes",.int 0),("deed",.aQ),("standing",.str "calm"),("last_outcome",.aQ),("grants",.ref (S.length+1)),("kept_mask",bf 0)],.lst []]) (f:="told_slate") (mv:=da (aa .aQ)) (Y:=[.v (.ref S.length),.v (.int me),.v h]) (mo:=I 0) (i:=S.length) (d:=.aQ) (r:=.v .aQ) rfl rfl (.of rfl) gt (qZ rfl);rw[st]at this;exact this
 .rw[ajL (by omega),Nat.add_sub_cancel_left];rfl
def gn(ag:ajK x=true)(ba:ajK y=true):oEq (.v (.str x)) (.v (.str y))=pure (.v (.aE (x==y))):=r' (x:=.v (.str x)) (y:=.v (.str y)) ag ba
def ad6(ag:ajK x=true)(ba:ajK y=true):eJ (.v (.str x)) (.v (.str y))=pure (.v (.aE (!(x==y)))):=BC (x:=.v (.str x)) (y:=.v (.str y)) ag ba
def tc:ajK "calm"=true:=by decide +kernel
def DV:ajK "asking"=true:=by decide +kernel
def D0:ajK "telling"=true:=by decide +kernel
def tf:ajK "late"=true:=by decide +kernel
def b4.mV(a:b4):Prop:=a.dY="calm"\/a.dY="asking"\/a.dY="telling"
def tr{a:b4}(h:a.mV):ajK a.dY=true:=by rcases h with h|h|h<;>rw[h]<;>decide +kernel
def calm_eq{a:b4}(h:a.mV):oEq (.v (.str a.dY)) (.v (.str "calm"))=pure (.v (.aE (a.dY == "calm"))):=gn (tr h) tc
def SO{a:b4}(h:a.mV):eJ (.v (.str a.dY)) (.v (.str "calm"))=pure (.v (.aE (!(a.dY == "calm")))):=ad6 (tr h) tc
structure rM(h:D)(ms:List Nat)(ey kz:Nat->Bool):Prop where
 mem:nr [h]=pure (.fr (ms.map bf))
 len:ms.length<=6
 lt:∀k∈ms,k<6
 ne:ms≠[]
 ex:∃x y,h=.tup [x,y]/\dp x=.v x/\dp y=.v y/\(∀m:Nat,kL 12 [x,bf m]=pure (.v (.aE (ey m))))/\∀m:Nat,kL 12 [y,bf m]=pure (.v (.aE (kz m)))
def b4.tells(a:b4)(t:D):b4:={ a with dY:="telling",dT:=0,et:=t }
def Yr(d:D):jK (.v d) (.v .aQ)=pure (.v (.aE (match d with|.aQ=>true|_=>false))):=by cases d<;>rfl
def VF{a:b4}{ms:List Nat}{s:dq}{w:D}(hm:nr [a.h]=pure (.fr (ms.map bf)))(au:ms.length<=6)(hd:a.dd≠.aQ){t:D}
  (dX:nj [w,.int a.me,.int a.wi,a.dd]=pure (.v t)) :
  a.Do yW [.tup [cO s,w]] (ms.map (dK a.me a.cM a.st (.tup [cO s,.int a.wi,a.dd,t]))) (a.tells t):=ku rfl λS i g h=>
 m7 (pK (dF (de (by rw[Yr];revert hd;cases a.dd<;>first|exact λ_=>rfl|exact λh=>absurd rfl h) (dW (d:=a.dd) h rfl rfl) (.of rfl))))<|
 lp h { a with dY:="telling" } rfl (.of rfl) rfl rfl rfl λS h=>
 lp h { a with dY:="telling",dT:=0 } rfl (.of rfl) rfl rfl rfl λS h=>
 lp h (a.tells t) rfl (gY (cY (.of rfl) (cY (dW h rfl rfl) (cY (dW h rfl rfl) (cY (dW h rfl rfl) fL)))) (.of dX)) rfl rfl rfl λS h=>
 x8 (pL (Kj (cY (.of rfl) (cY (dW h rfl rfl) (cY (dW h rfl rfl) (cY (dW h rfl rfl) fL)))) rfl (ajO rfl)) rfl)<|
 uH h (Kh (yC (Ke (gY (cY (dW h rfl rfl) fL) (.of hm)) rfl) (by rw[ajm];exact eS (by omega))
  (yD bf (dK a.me a.cM a.st (.tup [cO s,.int a.wi,a.dd,t])) ms λk _=>gY (cY (dW h rfl rfl) (cY (.of rfl) (cY (dW h rfl rfl) (cY (dW h rfl rfl) (cY (.of rfl) fL))))) (.of rfl))))
def j4(k:Nat)(a e:Int)(s kp:dq)(w:D):D:=.tup [.str "grant",bf k,.int a,.int e,cO s,.tup [cO kp,w]]
def iF(k:Nat)(a e:Int)(s:dq):D:=.tup [.str "kept",bf k,.int a,.int e,cO s,.tup []]
def sG(k:Nat)(a e:Int)(s p:dq):D:=.tup [.str "late",bf k,.int a,.int e,cO s,.tup [cO p]]
def b4.got(a:b4)(k:Nat)(kp:dq)(w:D):b4:={ a with aD:=a.aD++[⟨k,kp,w⟩] }
section
variable{a:b4}{ms:List Nat}{ey kz:Nat->Bool}(H:rM a.h ms ey kz){k:Nat}{me e:Int}{s kp:dq}{w:D}(aY:∀g∈a.aD,g.k<6)(au:a.aD.length<60)(ax:k<6)
def I4{a:b4}{i g:Nat}(h:eA S i g a)(aY:∀g∈a.aD,g.k<6)(au:a.aD.length<=1000)(Y:aR):aJ S (bM pR (U (lT (bS (cQ "Asker" "grants") (I 0))) ak) (.v (.ref i)::Y)) (.v (bf (maskOf (a.aD.map (·.k))))):=
 gY (cY (FK h rfl) fL) (.of (VH a.aD aY au))
include aY au
theorem JA(h:eA S i g a):aJ S (a5 (bM pS (U (bM pR (U (lT (bS (cQ "Asker" "grants") (I 0))) ak)) (U (ae aK (I 1) (aa (.int 1))) ak))) [.v (.ref i),.v (j4 k me e s kp w)]) (gS (maskOf (a.aD.map (·.k))) k):=
 dF (gY (cY (I4 h aY (by omega) _) (cY (.of rfl) fL)) (.of (Cb _ k)))
include H ax
theorem I3(h:eA S i g (a.got k kp w)):aJ S (g9 (a5 (bM (kL 12) (U (ae aK (bS (cQ "Asker" "hall") (I 0)) (aa (.int 0))) (U (bM pR (U (lT (bS (cQ "Asker" "grants") (I 0))) ak)) ak)))) [.v (.ref i),.v (j4 k me e s kp w)]) (!ey (maskOf ((a.got k kp w).aD.map (·.k)))):=by
 obtain⟨x,y,uk,_,_,f1,_⟩:=H.ex;have g3:=I4 h (λg h=>by
  rcases aj2.mp h with h|h
  .exact aY g h
  .rw[ajH.mp h];exact ax) (by show(a.aD++[_]).length<=1000;rw[ajz];show _+1<=_;omega) [.v (j4 k me e s kp w)]
 exact vc (dF (gY (cY (de (x:=.v (.tup [x,y])) (r:=.v x) rfl (dW h rfl (by show some a.h=_;rw[uk])) (.of rfl)) (cY g3 fL)) (.of (f1 _))))
theorem Xk(q:gS (maskOf (a.aD.map (·.k))) k=false)(b1:ey (maskOf ((a.got k kp w).aD.map (·.k)))=false):a.Do vj [j4 k me e s kp w] [] (a.got k kp w):=ku rfl λS i g h=>
 iR (by have:=JA (k:=k) (me:=me) (e:=e) (s:=s) (kp:=kp) (w:=w) aY au h;rw[q]at this;exact this)<|
 I1 h (a.got k kp w) rfl (cY (x:=.v (dg ⟨k,kp,w⟩)) (.of rfl) fL) rfl rfl (by omega) λS h=>
 B5 h (by have:=I3 (me:=me) (e:=e) (s:=s) H aY au ax h;rw[b1]at this;exact this) (.of rfl)
theorem Xm{σ:List D}{t:b4}{p:cJ}{ps:List cJ}(pv:(a.got k kp w).aD=p::ps)(XU:dp a.op=.v a.op)(q:gS (maskOf (a.aD.map (·.k))) k=false)(b1:ey (maskOf ((a.got k kp w).aD.map (·.k)))=true)
  (go:(a.got k kp w).Do yW [qN a.op (mY p ps)] σ t):a.Do vj [j4 k me e s kp w] σ t:=by
 have aA:=XA p ps a.op XU (by rw[<-pv];show(a.aD++[_]).length<64;rw[ajz];show _+1 < _;omega);rw[<-pv]at aA;exact ku rfl λS i g h=>
  iR (by have:=JA (k:=k) (me:=me) (e:=e) (s:=s) (kp:=kp) (w:=w) aY au h;rw[q]at this;exact this)<|
  I1 h (a.got k kp w) rfl (cY (x:=.v (dg ⟨k,kp,w⟩)) (.of rfl) fL) rfl rfl (by omega) λS h=>
  iR (by have:=I3 (me:=me) (e:=e) (s:=s) H aY au ax h;rw[b1]at this;exact this)<|
  uI (rs:=[.v (qN a.op (mY p ps))]) h go rfl rfl (aJ.to (cY (gY (cY (FK h rfl) (cY (dW h rfl rfl) fL)) (.of aA)) fL)) rfl
end
def vI:D->Bool
 |.aQ=>true|_=>false
def aai(d:D):jL (.v d) (.v .aQ)=pure (.v (.aE (!vI d))):=by cases d<;>rfl
def Ye(j:Nat)(bc:List Nat):jg false (.v (bf j)) (.fr (bc.map bf))=pure (.v (.aE (bc.contains j))):=yu j bc
def pX{a b:Int}:eJ (.v (.int a)) (.v (.int b))=pure (.v (.aE (!decide (a=b)))):=rfl
def b4.now(a:b4)(ms:List Nat)(k:Nat)(e:Int)(s:dq):Bool:=decide (e=a.cM)&&decide (s=a.st)&&ms.contains k
def Yp{a:b4}(h:eA S i g a)(H:rM a.h ms ey kz)(w ld:D)(k:Nat)(b e:Int)(s:dq):aJ S (yX [.ref i,.tup [w,bf k,.int b,.int e,cO s,ld]]) (.v (.aE (a.now ms k e s))):=by
 refine vb rfl ?_;have t1:aJ S (a5 (ae eJ (ae aK (I 1) (aa (.int 3))) (bS (cQ "Asker" "epoch") (I 0))) [.v (.ref i),.v (.tup [w,bf k,.int b,.int e,cO s,ld])]) (!decide (e=a.cM)):=dF (de pX (.of rfl) (dW h rfl rfl));have dC:aJ S (a5 (ae eJ (ae aK (I 1) (aa (.int 4))) (bS (cQ "Asker" "last_stamp") (I 0))) [.v (.ref i),.v (.tup [w,bf k,.int b,.int e,cO s,ld])]) (!decide (s=a.st)):=dF (de (Z_ s a.st) (.of rfl) (dW h rfl rfl));unfold b4.now;generalize decide (e=a.cM)=lI at *;generalize decide (s=a.st)=oS at *
 cases lI with
 |false=>exact Ki (sz (YN t1) (.of rfl))|true=>
  cases oS with
  |false=>exact Ki (sz (CW t1 dC) (.of rfl))|true=>exact oq (sy (CW t1 dC) (.of rfl)) (sA (de (Ye k ms) (.of rfl) (gY (cY (dW h rfl rfl) fL) (.of H.mem))))
def td:ajK "grant"=true:=by decide +kernel
def LS:ajK "kept"=true:=by decide +kernel
def Zu:oEq (.v (.str "late")) (.v (.str "late"))=pure (.v (.aE true)):=by rw[gn tf tf,beq_self_eq_true]
def IY:oEq (.v (.str "grant")) (.v (.str "late"))=pure (.v (.aE false)):=by rw[gn td tf];rfl
def x6:oEq (.v (.str "grant")) (.v (.str "grant"))=pure (.v (.aE true)):=by rw[gn td td,beq_self_eq_true]
def VB:oEq (.v (.str "grant")) (.v (.str "kept"))=pure (.v (.aE false)):=by rw[gn td LS];rfl
def b4.yM(a:b4)(r:Int):b4:={ a with bh:=if r > a.bh then r else a.bh }
section
variable{a:b4}{ms:List Nat}{ey kz:Nat->Bool}{S:cA}{i g:Nat}(H:rM a.h ms ey kz){k:Nat}{e:Int}{s kp:dq}{w:D}
def vP(h:eA S i g a)(x ld:D)(k:Nat)(e:Int)(s:dq):aJ S (a5 (ae eJ (ae aK (I 1) (aa (.int 2))) (bS (cQ "Asker" "me") (I 0))) [.v (.ref i),.v (.tup [x,bf k,.int a.me,.int e,cO s,ld])]) false:=
 dF (de (pX.trans (by rw[decide_eq_true rfl];rfl)) (.of rfl) (dW (d:=.int a.me) h rfl rfl))
theorem Ck(p:dq):a.Do iY [sG k a.me e s p] [] (a.yM p.1):=ku rfl λS i g h=>
 iR (vP h (.str "late") (.tup [cO p]) k e s)<|B4 (dF (de Zu (.of rfl) (.of rfl)))<|
 lp h (a.yM p.1) rfl (Kb (r:=.v (.int (a.yM p.1).bh)) rfl (cY (dW h rfl rfl) (cY (.of rfl) fL))) rfl rfl rfl λS h=>uH h (.of rfl)
include H
theorem zc(h:eA S i g a)(x ld:D)(k:Nat)(b e:Int)(s:dq):aJ S (g9 (a5 (gF "Asker" "is_for_now" yX (I 0) (U (I 1) ak))) [.v (.ref i),.v (.tup [x,bf k,.int b,.int e,cO s,ld])]) (!a.now ms k e s):=
 vc (dF (CV h.bC (.of rfl) rfl (cY (.of rfl) fL) (Yp h H x ld k b e s)))
variable(aC:a.mV)
include aC
theorem Jq(q:a.now ms k e s=true)(c:a.dY="asking"){t:b4}(g:a.Do vj [j4 k a.me e s kp w] σ t):a.Do iY [j4 k a.me e s kp w] σ t:=ku rfl λS i j h=>
 iR (vP h (.str "grant") (.tup [cO kp,w]) k e s)<|m7 (dF (de IY (.of rfl) (.of rfl)))<|
 iR (by have:=zc H h (.str "grant") (.tup [cO kp,w]) k a.me e s;rw[q]at this;exact this)<|
 B4 (nf (dF (de x6 (.of rfl) (.of rfl))) (dF (de (by rw[gn (tr aC) DV,c,beq_self_eq_true]) (dW h rfl rfl) (.of rfl))))<|
 uI (rs:=[.v (j4 k a.me e s kp w)]) h g rfl rfl (aJ.to (.of rfl)) rfl
theorem Xl(q:a.now ms k e s=true)(c:a.dY≠"asking"):a.Do iY [j4 k a.me e s kp w] [] a:=ku rfl λS i j h=>
 iR (vP h (.str "grant") (.tup [cO kp,w]) k e s)<|m7 (dF (de IY (.of rfl) (.of rfl)))<|
 iR (by have:=zc H h (.str "grant") (.tup [cO kp,w]) k a.me e s;rw[q]at this;exact this)<|
 m7 (nf (dF (de x6 (.of rfl) (.of rfl))) (dF (de (by rw[gn (tr aC) DV,show(a.dY == "asking")=false by simpa using c]) (dW h rfl rfl) (.of rfl))))<|
 m7 (pK (dF (de VB (.of rfl) (.of rfl))))<|uH h (.of rfl)
end
section
variable{a:b4}{ms:List Nat}(hm:nr [a.h]=pure (.fr (ms.map bf)))(au:ms.length<=6)
include hm au
theorem Se(aC:a.mV)(c:a.dY≠"calm"):a.Do yU [] (ms.map (dR a.me a.cM (a.bh+1,a.me))) a.asks:=ku rfl λS i g h=>
 iR (dF (de (by rw[calm_eq aC,show(a.dY == "calm")=false by simpa using c]) (dW h rfl rfl) (.of rfl)))<|uI (rs:=[]) h (FU hm au) rfl rfl rfl rfl
def b4.A7(a:b4)(d:D):b4:={ a with wi:=a.wi+1,dd:=d,dv:=.aQ }
theorem Sd(aC:a.dY="calm")(bg:a.eK=false)(hd:dp d=.v d)(nn:jL (.v d) (.v .aQ)=pure (.v (.aE true)))(a':vp [d]=pure (.v (.aE true))):a.Do yT [d] (ms.map (dR a.me a.cM (a.bh+1,a.me))) (a.A7 d).asks:=ku rfl λS i g h=>by
 show fu S i g (AU [.v (.ref i),dp d]) _ _;rw[hd];exact iR (nf (dF (de nn (.of rfl) (.of rfl))) (vc (dF (gY (cY (x:=.v d) (.of rfl) fL) (.of a')))))<|
  iR (dF (dW h rfl (by show some (D.aE a.eK)=_;rw[bg])))<|
  iR (dF (de (by rw[SO (a:=a) (.inl aC),aC,beq_self_eq_true];rfl) (dW h rfl rfl) (.of rfl)))<|
  lp h { a with wi:=a.wi+1 } rfl (de rfl (dW h rfl rfl) (.of rfl)) rfl rfl rfl λS h=>
  lp h { a with wi:=a.wi+1,dd:=d } rfl (.of rfl) rfl rfl rfl λS h=>
  lp h (a.A7 d) rfl (.of rfl) rfl rfl rfl λS h=>
  uI (rs:=[]) h (FU (a:=a.A7 d) hm au) rfl rfl rfl rfl
end
abbrev iz:=fM.κ.toKeyOrd
structure c8 where
 cs:qs
 ds:List (Int×D)
 f:Int
 t:D
 cb:D
def c8.D(s:c8):a0.D:=.tup [.tup (s.cs.map (·.2)),.tup (s.ds.map (·.2)),.tup [.int s.f,s.t],s.cb]
inductive fD where
 |put (a:List Nat) (n:Int)|add (a:List Nat) (n:Int)
def fD.D:fD->a0.D
 |.put a n=>.tup [.str "put",.str (cD a),.int n]|.add a n=>.tup [.str "add",.str (cD a),.int n]
def afe:Option fD->a0.D
 |none=>.aQ|some d=>d.D
def c8.cell(s:c8)(a:List Nat):Int:=lU (e8 (Q:=d4) s.cs a)
def c8.put(s:c8)(a:List Nat)(n:Int):c8:={ s with cs:=jn s.cs a n }
def mq(s:c8)(i:Int):fD->c8×a0.D
 |.put a n=>(s.put a n,.int (s.cell a))
 |.add a n=>(s.put a (s.cell a+n),.int (s.cell a+n))
structure gr(G:a0.D->Prop)(W:List (List Nat))(s:c8):Prop where
 row:∀x∈s.cs,jt x
 rise:kq d4 s.cs
 nm:∀x∈s.cs,x.1∈W
 num:∀x∈s.ds,qq x
 lX:kq iz s.ds
 eF:∀x∈s.ds,0<=x.1/\x.1<6
 ft:s.t=.aQ\/∃i:Int,s.t=.int i
 cb:s.cb=.aQ\/s.cb=.str "over"\/(∃xs,s.cb=.tup xs)/\G s.cb
 uj:∀x∈s.ds,a0.Ok 2 x.2
def jU(G:a0.D->Prop)(W:List (List Nat)):fD->Prop
 |.put a _=>kr a/\a∈W|.add a _=>kr a/\a∈W
def adQ{z:Int}(h0:0<=z)(gz:z<6):z∈([0,1,2,3,4,5]:List Int):=by
 have e:z=0\/z=1\/z=2\/z=3\/z=4\/z=5:=by omega
 rcases e with e|e|e|e|e|e<;>rw[e]<;>simp
section
variable{G:a0.D->Prop}{W:List (List Nat)}{s:c8}(h:gr G W s)
include h
theorem gr.cl:s.cs.length<=W.length:=by
 have:=am2 (l₂:=W) h.rise.nodup λx ag=>by
  obtain⟨y,ba,rfl⟩:=akg.mp ag;exact h.nm y ba
 rwa[ajm]at this
theorem gr.dl:s.ds.length<=6:=by
 have:=am2 (l₂:=([0,1,2,3,4,5]:List Int)) h.lX.nodup λx ag=>by
  obtain⟨y,ba,rfl⟩:=akg.mp ag;exact adQ (h.eF y ba).1 (h.eF y ba).2
 rw[ajm]at this;exact this
theorem gr.ck:s.t.bT 63=true:=by rcases h.ft with e|⟨i,e⟩<;>rw[e]<;>rfl
theorem aaT(eR:W.length<63)(i:Int)(hd:jU G W d):nt [s.D,.int i,d.D]=pure (.v (.tup [(mq s i d).1.D,(mq s i d).2])):=by
 have au:s.cs.length<63:=by have:=h.cl;omega
 have ck:=h.ck;obtain⟨cs,ds,f,t,cb⟩:=s
 cases d with
 |put a n=>exact aaY h.row h.rise au _ _ _ hd.1 n i|add a n=>exact aaX h.row h.rise au _ _ _ hd.1 n i
end
def c8.last(s:c8)(i:Int):Int:=ka (e8 (Q:=iz) s.ds i)
def gx(s:c8)(i n:Int):Option fD->c8
 |none=>s|some d=>if(vI s.cb)=true/\s.last i<n then{ (mq s i d).1 with ds:=kN (Q:=iz) s.ds (i,.tup [.int i,.int n,(mq s i d).2]) }else s
def aaS(s:c8)(i:Int)(d:fD):(mq s i d).1.ds=s.ds:=by
 cases d<;>rfl
section
variable{G:a0.D->Prop}{W:List (List Nat)}{s:c8}(h:gr G W s)
include h
theorem aaW(i:Int)(d:fD):dp (mq s i d).2=.v (mq s i d).2:=by
 cases d<;>rfl
theorem UK(eR:W.length<63)(i n:Int)(hd:∀x,d=some x->jU G W x):nj [s.D,.int i,.int n,afe d]=pure (.v (gx s i n d).D):=by
 cases d with
 |none=>exact Ih h.num _ _ _ i n .aQ rfl (.inl rfl)|some d=>
  have hd:=hd d rfl;unfold gx;dsimp only;have eY:∃xs,d.D=.tup xs:=by cases d<;>exact⟨_,rfl⟩
  obtain⟨xs,eY⟩:=eY
  by_cases c:(vI s.cb)=true/\s.last i<n
  .rw[if_pos c]
   have d6:=aaT h eR i hd;have c3:=aaS s i d;have os:=aaW h i d;have ym:s.cb=.aQ:=by
    rcases h.cb with e|e|⟨⟨xs,e⟩,_⟩
    .exact e
    .rw[e]at c;cases c.1
    .rw[e]at c;cases c.1
   have uS:=h.dl;have XO:=h.lX.nodup;have XR:=h.num;generalize mq s i d=o at *;obtain⟨⟨Ta,m2,qC,t',sh'⟩,v⟩:=o;obtain⟨cs,ds,f,t,cb⟩:=s;dsimp only at c3 os ym d6 uS ⊢;subst c3 ym;show nj [_,_,_,d.D]=_;unfold c8.D at d6 ⊢;dsimp only at d6 ⊢;rw[eY]at d6 ⊢;have ao:=UJ XR (.tup (cs.map (·.2))) (.tup [.int f,t]) i n xs c.2 (show m2.length<63 by omega) XO (c':=.tup (Ta.map (·.2))) (le':=.tup [.int qC,t']) (sh':=sh') (v:=v);exact ao d6 os
  .rw[if_neg c]
   show nj [_,_,_,d.D]=_;rw[eY];refine Ih h.num _ _ _ i n (.tup xs) rfl (.inr ⟨⟨_,rfl⟩,?_⟩);rcases h.cb with e|e|⟨⟨zs,e⟩,_⟩
   .refine .inr (.inr ⟨e,?_⟩)
    rw[e]at c;have:¬s.last i<n:=λz=>c ⟨rfl,z⟩
    unfold c8.last at this;omega
   .exact .inl e
   .exact .inr (.inl ⟨zs,e⟩)
end
section
variable{G:a0.D->Prop}{W:List (List Nat)}{s:c8}(h:gr G W s)
include h
theorem gr.put(aq:kr a)(hw:a∈W)(n:Int):gr G W (s.put a n) where
 row:=afk h.row aq n
 rise:=afj h.rise a n
 nm:=λx ag=>by
  have ag:x∈jn s.cs a n:=ag;unfold jn at ag;split at ag
  .exact h.nm x ((r7 (Q:=d4)).mp ag).1
  .rcases(tm (Q:=d4)).mp ag with⟨ag,_⟩|rfl
   .exact h.nm x ag
   .exact hw
 num:=h.num
 lX:=h.lX
 eF:=h.eF
 ft:=h.ft
 cb:=h.cb
 uj:=h.uj
theorem aaU(i:Int)(hd:jU G W d):gr G W (mq s i d).1:=by
 cases d with
 |put a n=>exact h.put hd.1 hd.2 n|add a n=>exact h.put hd.1 hd.2 _
theorem aaR(i:Int)(d:fD):a0.Ok 1 (mq s i d).2:=by
 cases d<;>exact kb
theorem Ie{i:Int}(h0:0<=i)(gz:i<6)(n:Int)(hd:∀x,d=some x->jU G W x):gr G W (gx s i n d):=by
 cases d with
 |none=>exact h|some d=>
  have o:=aaU h i (hd d rfl);unfold gx;dsimp only;split
  .refine⟨o.row,o.rise,o.nm,?_,?_,?_,o.ft,o.cb,?_⟩
   .exact aam h.num i n _
   .exact Eh _ h.lX.nodup
   .intro x ag
    rcases(tm (Q:=iz)).mp ag with⟨ag,_⟩|rfl
    .exact h.eF x ag
    .exact⟨h0,gz⟩
   .intro x ag
    rcases(tm (Q:=iz)).mp ag with⟨ag,_⟩|rfl
    .exact h.uj x ag
    .exact DU kb kb (aaR h i d)
  .exact h
theorem gr.ok(eR:W.length<=1000)(pz:∀z,G z->a0.Ok 9 z):a0.Ok 10 s.D:=by
 have aI:=h.cl;have hd:=h.dl;refine LR (n:=9) (p0 (n:=3) (rg (n:=2) (by rw[ajm];omega) λx ag=>?_) (by decide)) (p0 (n:=3) (rg (n:=2) (by rw[ajm];omega) λx ag=>?_) (by decide)) (p0 (n:=1) (zh kb ?_) (by decide)) ?_
 .obtain⟨y,ba,rfl⟩:=akg.mp ag
  obtain⟨w,n,_,e⟩:=h.row y ba;rw[e];exact p0 (n:=1) (zh (nA w.1) kb) (by decide)
 .obtain⟨y,ba,rfl⟩:=akg.mp ag
  exact h.uj y ba
 .rcases h.ft with e|⟨i,e⟩
  .rw[e];exact DZ
  .rw[e];exact kb
 .rcases h.cb with e|e|⟨_,g⟩
  .rw[e];exact DZ
  .rw[e];exact nA (by decide +kernel)
  .exact pz _ g
end
abbrev d8(k:Nat):List Key:=[.inl (k:Nat),.inl 0]
def g4(pr kp:dq)(w:D):D:=.tup [cO pr,cO kp,w]
def hF(ai:List (List Key×D))(k:Nat):D:=(ig ai (d8 k)).getD (g4 (0,0) (0,0) .aQ)
def Zk{S:cA}(h:S[i]? = some (.eY ai))(k:Nat):aJ S (sR [.ref i,bf k,.int 0]) (.v (hF ai k)):=
 vb rfl (sA (YO h (.of rfl) (.of rfl) (.of rfl) rfl (ajO rfl)))
def cmp_gt(s t:dq):oC g0 (.v (cO s)) (.v (cO t))=pure (.v (.aE (fQ s t))):=by
 show pure (R.v (.aE (g0 [s.1,s.2] [t.1,t.2])))=_;rw[K3]
def Zp(s t:dq):iX [s.1,s.2] [t.1,t.2] = !fQ t s:=by
 unfold iX fQ;rw[q1,q1]
 by_cases bq:s.1=t.1
 .rw[if_pos bq,bq]
  by_cases b1:s.2=t.2
  .rw[if_pos b1,b1]
   simp[nh]
  .rw[if_neg b1,akR];simp
 .rw[if_neg bq,akR]
  simp;omega
def HV(s t:dq):oC iX (.v (cO s)) (.v (cO t))=pure (.v (.aE (!fQ t s))):=by
 show pure (R.v (.aE (iX [s.1,s.2] [t.1,t.2])))=_;rw[Zp]
def zi:ajK "ask"=true:=by decide +kernel
def vN:ajK "tell"=true:=by decide +kernel
def FI:oEq (.v (.str "ask")) (.v (.str "ask"))=pure (.v (.aE true)):=by rw[gn zi zi,beq_self_eq_true]
def P9:oEq (.v (.str "ask")) (.v (.str "tell"))=pure (.v (.aE false)):=by rw[gn zi vN];rfl
def Ox:oEq (.v (.str "tell")) (.v (.str "ask"))=pure (.v (.aE false)):=by rw[gn vN zi];rfl
def OM:oEq (.v (.str "tell")) (.v (.str "tell"))=pure (.v (.aE true)):=by rw[gn vN vN,beq_self_eq_true]
section
variable{ai:List (List Key×D)}{k:Nat}{me:Int}{s pr kp:dq}{w:D}(aH:hF ai k=g4 pr kp w)
include aH
variable{S:cA}{i:Nat}(aA:S[i]? = some (.eY ai))
include aA
theorem vQ{ao az cI:bp}(h0:cI Y=pure (.v (.ref i)))(af:ao Y=pure (.v (bf k)))(ah:az Y=pure (.v (.int 0))):aJ S (bM sR (U cI (U ao (U az ak))) Y) (.v (g4 pr kp w)):=
 gY (cY (.of h0) (cY (.of af) (cY (.of ah) fL))) (aH▸Zk aA k)
theorem Js(hz:ai.length<1000)(hO:fQ s pr=true):bL S (mm [.ref i,dR me 0 s k]) (.v (j4 k me 0 s kp w)) (S.set i (.eY (fm ai (d8 k) (g4 s kp w)))):=
 qj rfl (c4 (aJ.to (pM (.of rfl) rfl)) (c4 (aJ.to (pM (vQ aH aA rfl rfl rfl) rfl)) (wG (mG (aJ.to (nf (dF (de FI (.of rfl) (.of rfl))) (dF (de ((cmp_gt s pr).trans (by rw[hO])) (.of rfl) (.of rfl))))) (c4 (Pc (k:=d8 k) rfl rfl (.of rfl) (.of rfl) aA rfl ⟨ajO rfl,hz⟩) rfl)))))
theorem Xq(hO:fQ s pr=false):bL S (mm [.ref i,dR me 0 s k]) (.v (sG k me 0 s pr)) S:=
 qj rfl (c4 (aJ.to (pM (.of rfl) rfl)) (c4 (aJ.to (pM (vQ aH aA rfl rfl rfl) rfl)) (tJ (aJ.to (nf (dF (de FI (.of rfl) (.of rfl))) (dF (de ((cmp_gt s pr).trans (by rw[hO])) (.of rfl) (.of rfl))))) (tJ (aJ.to (pK (dF (de P9 (.of rfl) (.of rfl))))) rfl))))
variable{b n dd t:D}
theorem Jt(hz:ai.length<1000)(hO:fQ pr s=false):bL S (mm [.ref i,dK me 0 s (.tup [b,n,dd,t]) k]) (.v (iF k me 0 s)) (S.set i (.eY (fm ai (d8 k) (g4 s s t)))):=
 qj rfl (c4 (aJ.to (pM (.of rfl) rfl)) (c4 (aJ.to (pM (vQ aH aA rfl rfl rfl) rfl)) (tJ (aJ.to (pK (dF (de Ox (.of rfl) (.of rfl))))) (wG (mG (aJ.to (nf (dF (de OM (.of rfl) (.of rfl))) (dF (de ((HV s pr).trans (by rw[hO];rfl)) (.of rfl) (.of rfl))))) (c4 (Pc (k:=d8 k) rfl rfl (.of rfl) (.of rfl) aA rfl ⟨ajO rfl,hz⟩) rfl))))))
theorem Ju(hO:fQ pr s=true):bL S (mm [.ref i,dK me 0 s (.tup [b,n,dd,t]) k]) (.v (sG k me 0 s pr)) S:=
 qj rfl (c4 (aJ.to (pM (.of rfl) rfl)) (c4 (aJ.to (pM (vQ aH aA rfl rfl rfl) rfl)) (tJ (aJ.to (pK (dF (de Ox (.of rfl) (.of rfl))))) (tJ (aJ.to (nf (dF (de OM (.of rfl) (.of rfl))) (dF (de ((HV s pr).trans (by rw[hO];rfl)) (.of rfl) (.of rfl))))) rfl))))
end
def xI(ai:List (List Key×D))(k:List Key)(d:D):(fm ai k d).length<=ai.length+1:=by
 unfold fm;split
 .rw[ajm];omega
 .rw[ajz];exact ajq _
def UO{k j:List Key}(h:j≠k)(d:D):∀ai:List (List Key×D),ig (fm ai k d) j=ig ai j:=by
 intro ai;unfold fm ig;split
 .rename_i l3
  clear l3
  induction ai with
  |nil=>rfl|cons p ai a8=>
   rw[ajw]
   by_cases c:p.1=k
   .rw[if_pos c,aki (by simpa using λz=>h (z.symm.trans c)),aki (by simpa using λz=>h (z.symm.trans c))]
    exact a8
   .rw[if_neg c]
    by_cases ae:p.1=j
    .rw[aks (by simpa using ae),aks (by simpa using ae)]
    .rw[aki (by simpa using ae),aki (by simpa using ae)]
     exact a8
 .rw[List.find?_append]
  cases e:ai.find? λkv=>decide (kv.1=j)with
  |none=>rw[aki (by simpa using amg h)];rfl|some x=>rfl
def Y6{j k:Nat}(h:j≠k):d8 j≠d8 k:=λz=>h (by injection z with z;injection z with z;omega)
def D_{j k:Nat}(h:j≠k)(ai:List (List Key×D))(d:D):hF (fm ai (d8 k) d) j=hF ai j:=by unfold hF;rw[UO (Y6 h)]
end e3
namespace e3
open PySem PySem.Spec aF a0
def Fi{xs:List D}{i:Nat}{d:D}(h:(i5 xs xs)[i]? = some d):∃x,xs[i]? = some x/\d=.tup [x,x]:=by
 unfold i5 at h;rw[ajW]at h
 cases e:(xs.zip xs)[i]? with
 |none=>rw[e]at h;cases h
 |some p=>
  rw[e]at h;cases h;obtain⟨a,b⟩:=amm.mp e;rw[a]at b;exact⟨p.1,a,by show D.tup [p.1,p.2]=_;rw[<-ajT b]⟩
def jk{t:aR->M Bool}{a b:a3}(e:t Y=pure false):bZ (cW t a cq) b Y=b Y:=ef (nd e)
def w'{a b:bp}{r:M R}(e:a Y=pure (.v (.aE true)))(az:b Y=r):k' a b Y=r:=by show(a Y >>= _)=_;rw[e];exact az
def N3(n:Nat):iZ (n+1) [.aQ,.aQ]=pure (.v (.aE true)):=j3 rfl ((jk (c0 rfl)).trans (ro ((kI (c0 rfl)).trans (kQ rfl))))
def N1(n:Nat)(b:Bool):iZ (n+1) [.aE b,.aE b]=pure (.v (.aE true)):=j3 rfl ((jk (c0 rfl)).trans ((jk (c0 rfl)).trans (ro ((kI (c0 rfl)).trans (kQ (w' rfl (bz (U4 b) rfl rfl)))))))
def same_int(n:Nat)(i:Int):iZ (n+1) [.int i,.int i]=pure (.v (.aE true)):=j3 rfl ((jk (c0 rfl)).trans ((jk (c0 rfl)).trans ((jk (c0 rfl)).trans (ro ((kI (c0 rfl)).trans (kQ (w' rfl (w' rfl (bz (j1.trans (by rw[decide_eq_true rfl])) rfl rfl)))))))))
def same_str(n:Nat)(h:ajK x=true):iZ (n+1) [.str x,.str x]=pure (.v (.aE true)):=j3 rfl ((jk (c0 rfl)).trans ((jk (c0 rfl)).trans ((jk (c0 rfl)).trans ((jk (c0 rfl)).trans (kQ (w' rfl (bz (eq_str h) rfl rfl)))))))
def LD(b:Bool):eJ (.v (.aE b)) (.v (.aE b))=pure (.v (.aE false)):=by cases b<;>rfl
def IG{is:List Nat}{ms:cV}(ao:ms Y=pure rs)(hz:tK rs=some ds)(e:hk (qb is b) ds Y=pure (.bo Y')):r3 is ms b Y=pure (.bo Y'):=by
 show(ms Y >>= _)=_;rw[ao];show(match tK rs with|some ds=>hk (qb is b) ds Y|none=>bad)=_;rw[hz];exact e
def N2(n:Nat)(s:Slot)(h:∀x∈xs,iZ n [x,x]=pure (.v (.aE true))):∃Y',hk (qb [2,3] (C7 (iZ n))) (i5 xs xs) [s,s,.e,.e]=pure (.bo Y'):=by
 obtain⟨Y',e,s2,s3,rfl⟩:=uA (b:=qb [2,3] (C7 (iZ n))) (ds:=i5 xs xs) (Y:=[s,s,.e,.e])
  (λi Y=>∃s2 s3,Y=[s,s,s2,s3]) ⟨_,_,rfl⟩ (λi d Y ag ⟨s2,s3,ay⟩=>by
   subst ay;obtain⟨x,X1,rfl⟩:=Fi ag;exact⟨_,.inl (nd (Y:=[s,s,.v x,.v x]) (zb (c0 (call_of (rs:=[.v x,.v x]) rfl (h x (aka X1)))))),_,_,rfl⟩)
 exact⟨_,e⟩
def same_refl:∀(n:Nat)(d:D),Ok n d->iZ (n+1) [d,d]=pure (.v (.aE true)):=by
 intro n
 induction n with
 |zero=>
  intro d h
  cases d with
  |aQ=>exact N3 0|aE b=>exact N1 0 b|int i=>exact same_int 0 i|str x=>exact same_str 0 h.1| _=>exact absurd h.1 (by intro z;cases z)
 |succ n a8=>
  intro d h;have parts:∀xs:List D,iC xs n=true->(decide (xs.length<=1000)&&oR xs)=true->(∀x∈xs,iZ (n+1) [x,x]=pure (.v (.aE true))):=λxs af ah=>by
   rw[aj5]at ah;exact λx ag=>a8 x ⟨x4.mp af x ag,z5.mp ah.2 x ag⟩
  cases d with
  |aQ=>exact N3 _|aE b=>exact N1 _ b|int i=>exact same_int _ i|str x=>exact same_str _ h.1|tup xs=>
   obtain⟨Y',S⟩:=N2 (n+1) (.v (.tup xs)) (parts xs h.1 h.2);exact j3 rfl (ro ((kI (c0 rfl)).trans ((jk ((ti (zb (c0 rfl))).trans (c0 (bz (LD true) rfl rfl)))).trans ((jk (c0 (bz (pX.trans (by rw[decide_eq_true rfl];rfl)) rfl rfl))).trans ((ef (IG (cons_of rfl rfl) rfl S)).trans (kQ rfl))))))
  |lst xs=>
   obtain⟨Y',S⟩:=N2 (n+1) (.bF xs) (parts xs h.1 h.2);exact j3 rfl (ro ((kI (c0 rfl)).trans ((jk ((ti (zb (c0 rfl))).trans (c0 (bz (LD false) rfl rfl)))).trans ((jk (c0 (bz (pX.trans (by rw[decide_eq_true rfl];rfl)) rfl rfl))).trans ((ef (IG (cons_of rfl rfl) rfl S)).trans (kQ rfl))))))
  |_=>exact absurd h.1 (by intro z;cases z)
def Bi(ns:List Int)(k:Nat):ow [.lst (ns.map D.int),.int (k:Nat)]=pure (.v (.int (ns.getD k 0))):=by
 simp only[ow,GI,GJ]
 by_cases h:k<ns.length
 .simp[h,P_ h]
 .simp[h]
end e3
namespace ju
mutual
def h5(s:Nat):aO->aO
 |.kp k=>.kp ((k+s) % 6)|.ch k ps=>.ch k (kg s ps)
def kg(s:Nat):List aO->List aO
 |[]=>[]
 |r::rs=>h5 s r::kg s rs
end
theorem EX(s:Nat):∀ps:List aO,kg s ps=ps.map (h5 s)
 |[]=>rfl| r::rs=>by rw[ajw,<-EX s rs];rfl
def aeR(s k:Nat)(ps:List aO):h5 s (.ch k ps)=.ch k (ps.map (h5 s)):=by rw[<-EX];rfl
def aeQ(s:Nat)(ps:List aO):(kg s ps).length=ps.length:=by rw[EX,ajm]
mutual
theorem OG(s:Nat):∀r:aO,(h5 s r).deep=r.deep
 |.kp _=>rfl| .ch k ps=>by show aO.lW (kg s ps)+1=aO.lW ps+1;rw[OD s ps]
theorem OD(s:Nat):∀ps:List aO,aO.lW (kg s ps)=aO.lW ps
 |[]=>rfl| r::rs=>by show max (h5 s r).deep (aO.lW (kg s rs))=max r.deep (aO.lW rs);rw[OG s r,OD s rs]
end
mutual
theorem OI(s:Nat):∀r:aO,(h5 s r).names.length=r.names.length
 |.kp _=>rfl| .ch k ps=>by show(aO.ea (kg s ps)).length=(aO.ea ps).length;rw[OE s ps]
theorem OE(s:Nat):∀ps:List aO,(aO.ea (kg s ps)).length=(aO.ea ps).length
 |[]=>rfl| r::rs=>by show((h5 s r).names++aO.ea (kg s rs)).length=(r.names++aO.ea rs).length;rw[ajz,ajz,OI s r,OE s rs]
end
mutual
theorem OJ(s:Nat):∀r:aO,r.wf->(h5 s r).wf
 |.kp k,_=>Nat.mod_lt _ (by decide)|.ch k ps,h=>by
  have h':1<=k/\k<=ps.length/\ps.length<=6/\aO.jo ps:=h;show 1<=k/\k<=(kg s ps).length/\(kg s ps).length<=6/\aO.jo (kg s ps);rw[aeQ];exact⟨h'.1,h'.2.1,h'.2.2.1,OF s ps h'.2.2.2⟩
theorem OF(s:Nat):∀ps:List aO,aO.jo ps->aO.jo (kg s ps)
 |[],_=>trivial|r::rs,h=>⟨OJ s r h.1,OF s rs h.2⟩
end
end ju
namespace e3
open PySem PySem.Spec aF a0 ju hu lO
theorem Dg:∀(n:Nat)(r:aO),r.deep<n->r.names.length<=1000->∃o,ox n [enc r]=pure o/\o.own=some (r.names.map bf)
 |0,r,h,_=>absurd h (amn _)|n+1,.kp k,h,_=>by
  refine⟨.fr [bf k],?_,rfl⟩;simp only[ox,xi,sa];simp[lB]
 |n+1,.ch k ps,h,au=>by
  simp only[aO.deep]at h;simp only[aO.names]at au ⊢;have dl:=r6 (ps:=ps) (n:=n) (by omega);refine⟨.v (.lst ((aO.ea ps).map bf)),?_,rfl⟩;rw[qB];obtain⟨Y',e,s2,rfl⟩:=uA (b:=λd Y=>C6 (ox n) (Y.set 2 (.v d))) (ds:=ps.map enc) (Y:=[.v (.tup [.int (k:Nat),.tup (ps.map enc)]),.v (.lst []),.e])
   (λi Y=>∃s2,Y=[.v (.tup [.int (k:Nat),.tup (ps.map enc)]),.v (.lst ((aO.ea (ps.take i)).map bf)),s2]) ⟨_,rfl⟩ (λi d Y hd ⟨s2,ay⟩=>by
    subst ay;obtain⟨r,aB,rfl⟩:=Dx hd;have hm:=aka aB;refine⟨_,.inl (?_:_=pure (fX.bo [.v (.tup [.int (k:Nat),.tup (ps.map enc)]),.v (.lst ((aO.ea (ps.take (i+1))).map bf)),.v (enc r)])),_,rfl⟩;have bO:=take_snoc aB;have le:(aO.ea (ps.take (i+1))).length<=1000:=by
     have:aO.ea ps=aO.ea (ps.take (i+1))++aO.ea (ps.drop (i+1)):=by rw[<-vC,List.take_append_drop]
     rw[this,ajz]at au;omega
    rw[bO,vC]at le ⊢;rw[show aO.ea [r]=r.names from akv _]at le ⊢;rw[ajz]at le;obtain⟨o,a8,bg⟩:=Dg n r (dl r hm) (by omega);have z:(aO.ea (ps.take i)).length+r.names.length<=ajt:=akG (eS (by omega));simp only[C6];simp[a8,bg,z])
  rw[ajm,amJ]at e;simp only[ox,xi,G2,G3,G4];simp[e]
def De{a k:aO}(aq:Good a)(ax:Good k):sP [dm a k]=pure (.fr ((b' a k).map bf)):=by
 obtain⟨s9,ao,af⟩:=Dg 6 a (by have:=aq.2.1;omega) (by have:=aq.2.2;omega);obtain⟨s_,az,ah⟩:=Dg 6 k (by have:=ax.2.1;omega) (by have:=ax.2.2;omega);have z:a.names.length+k.names.length<=ajt:=akG (eS (by have:=aq.2.2;have:=ax.2.2;omega));have Fh:6<ajt:=eS (by decide);have ct:iH s9 s_=pure (.fr ((a.names++k.names).map bf)):=by
  unfold iH;rw[af,ah];simp[z]
 have c:fK (a5 (ae (jg false) (I 0) (I 1))) (I 0) [.e,.v (.lst ((a.names++k.names).map bf))] ((ajI 6).map bf)=pure ((b' a k).map bf):=
  la bf (λj=>(a.names++k.names).contains j) bf _ (λj _=>by
   have q:=yu j (a.names++k.names);generalize(a.names++k.names).map bf=L at q ⊢;generalize(a.names++k.names).contains j=B at q ⊢;simp[q]) λj _ _=>by simp
 unfold dm;simp only[sP,GV,GW];generalize(a.names++k.names).map bf=L at ct c;generalize iH=ahp at ct ⊢;simp[ao,az,ct,MS,Fh,c]
theorem Dh(s:Nat):∀(n:Nat)(r:aO),r.deep<n->r.wf->nq n [enc r,.int (s:Nat)]=pure (.v (enc (h5 s r)))
 |0,r,h,_=>absurd h (amn _)|n+1,.kp k,h,hw=>by
  simp only[nq,xj,sa,h5];simp
 |n+1,.ch k ps,h,hw=>by
  simp only[aO.deep]at h;simp only[aO.wf]at hw;have dl:=r6 (ps:=ps) (n:=n) (by omega);have wl:=z3.mp hw.2.2.2;rw[qB];have c:fK g_ (bM (nq n) (U (I 0) (U (I 1) ak))) [.e,.v (.int (s:Nat))] (ps.map enc)=pure (ps.map (enc∘h5 s)):=
   r5 enc _ ps (λr aB=>by simp[Dh s n r (dl r aB) (wl r aB)])
  have z:ps.length<ajt:=eS (by omega);rw[aeR,qB,ak4];generalize ps.map (enc∘h5 s)=σ at c ⊢;simp only[nq,xj,G8];generalize nq n=F at c ⊢;have wL:(ps.map enc).length<ajt:=by rw[ajm];exact z
  generalize ps.map enc=Z at c wL ⊢;simp[c,wL]
def OH{r:aO}(h:Good r):Good (h5 s r):=⟨OJ s r h.1,by rw[OG];exact h.2.1,by rw[OI];exact h.2.2⟩
def rx:aO:=.ch 2 [.kp 0,.kp 1,.kp 2]
def rws:aO:=.ch 1 [.ch 2 [.kp 0,.kp 1],.ch 2 [.kp 2,.kp 3]]
def cols:aO:=.ch 2 [.ch 1 [.kp 0,.kp 1],.ch 1 [.kp 2,.kp 3]]
def fJ:List (aO×aO):=[(rx,rx),(.kp 0,.kp 0),(.ch 1 [.kp 0,.kp 1,.kp 2],.ch 3 [.kp 0,.kp 1,.kp 2]),(.ch 3 [.kp 0,.kp 1,.kp 2],.ch 1 [.kp 0,.kp 1,.kp 2]),
 (rws,cols),(cols,rws),(.ch 3 [.kp 0,.kp 1,.kp 2,.kp 3,.kp 4],.ch 3 [.kp 4,.kp 3,.kp 2,.kp 1,.kp 0]),
 (.ch 2 [.kp 0,.kp 0,.kp 1,.kp 2],.ch 3 [.kp 0,.kp 0,.kp 1,.kp 2]),(.ch 2 [.kp 0,.kp 1],.ch 1 [.kp 0,.kp 1]),
 (.ch 2 [.kp 0,.ch 1 [.kp 1,.kp 2]],.ch 1 [.kp 0,.ch 2 [.kp 1,.kp 2]])]
def gJ(p:aO×aO):D:=dm p.1 p.2
def XJ:∀p∈fJ,Good p.1/\Good p.2:=by
 simp only[fJ,akM,rx,rws,cols,Good];simp[aO.wf,aO.jo,aO.deep,aO.lW,aO.names,aO.ea]
def V0(c:Int):A3 [.v (.int c),.e,.e,.e,.e,.e,.e]=xh [.v (.int c),.v (enc rx),.v (enc rws),.v (enc cols),.v (.lst (fJ.map gJ)),.e,.e]:=by
 have z:∀{xs ys:List D},xs.length+ys.length<=10->xs.length+ys.length<=ajt:=λh=>akG (eS (by omega))
 have e:fJ.map gJ=(fJ.take 4).map gJ++((fJ.drop 4).take 3).map gJ++((fJ.drop 7).take 2).map gJ++(fJ.drop 9).map gJ:=rfl;rw[e];exact(ef (fq (d:=enc rx) rfl)).trans ((ef (fq (d:=enc rws) rfl)).trans ((ef (fq (d:=enc cols) rfl)).trans ((ef (oJ (r:=.fr ((fJ.take 4).map gJ)) (d:=.lst ((fJ.take 4).map gJ)) rfl rfl)).trans ((ef (oJ (bz (xA (xs:=(fJ.take 4).map gJ) (ys:=((fJ.drop 4).take 3).map gJ) (z (ajO rfl))) rfl rfl) rfl)).trans ((ef (oJ (bz (xA (xs:=(fJ.take 4).map gJ++((fJ.drop 4).take 3).map gJ) (ys:=((fJ.drop 7).take 2).map gJ) (z (ajO rfl))) rfl rfl) rfl)).trans (ef (oJ (bz (xA (xs:=(fJ.take 4).map gJ++((fJ.drop 4).take 3).map gJ++((fJ.drop 7).take 2).map gJ) (ys:=(fJ.drop 9).map gJ) (z (ajO rfl))) rfl rfl) rfl)))))))
def Zj(c:Int):∃a k,vt [.int c]=pure (.v (dm a k))/\Good a/\Good k:=by
 have aiC:=mod_lt (a:=c) (b:=10) (by decide);have gz:=mod_lt (a:=c / 10) (b:=6) (by decide);obtain⟨i,aA,au⟩:∃i:Nat,c % 10=(i:Nat)/\i<10:=⟨(c % 10).toNat,by omega,by omega⟩;obtain⟨s,aC⟩:∃s:Nat,c / 10 % 6=(s:Nat):=⟨(c / 10 % 6).toNat,by omega⟩;obtain⟨p,aH⟩:∃p,fJ[i]? = some p:=⟨_,aj8 (show i<fJ.length from au)⟩;obtain⟨ga,ll⟩:=XJ p (aka aH);refine⟨h5 s p.1,h5 s p.2,?_,OH ga,OH ll⟩;have t1:=Dh s 6 p.1 (by have:=ga.2.1;omega) ga.1;have dC:=Dh s 6 p.2 (by have:=ll.2.1;omega) ll.1;have gW:aK (.v (.lst (fJ.map gJ))) (.v (.int (i:Nat)))=pure (.v (gJ p)):=by
  show(match eP (fJ.map gJ) (i:Int)with|some v=>pure (R.v v)|none=>bad)=_;rw[pg (v:=gJ p) i (by rw[ajW,aH];rfl)]
 have t6:xh [.v (.int c),.v (enc rx),.v (enc rws),.v (enc cols),.v (.lst (fJ.map gJ)),.e,.e]=pure (.cZ (.v (dm (h5 s p.1) (h5 s p.2)))):=by
  simp only[xh,GS];generalize fJ.map gJ=L at gW ⊢;generalize enc rx=lI;generalize enc rws=oS;generalize enc cols=ajh;unfold gJ dm at gW;unfold dm;have jm:dp (enc p.1)=.v (enc p.1):=by cases p.1<;>rfl
  have gL:dp (enc p.2)=.v (enc p.2):=by cases p.2<;>rfl
  generalize enc p.1=Ac at *;generalize enc p.2=Ad at *;generalize enc (h5 s p.1)=Pj at *;generalize enc (h5 s p.2)=Pk at *;simp[aA,aC,gW,t1,dC,jm,gL]
 have pre:=V0 c;rw[t6]at pre;simp only[vt];generalize A3=B at pre ⊢;simp[pre]
def SY(l:List Nat):xC (cD l)=l.map λc=>D.str (ch c):=rfl
def wd(h:n<=1000):n<=ajt:=by rw[ajP];omega
def kK(c:Nat):Bool:=decide (97<=c/\c<=122)
def AF:("abcdefghijklmnopqrstuvwxyz":Str).cps.toList=(ajI 26).map λk=>97+k:=by decide +kernel
def Yd(c:Nat):tD (ch c) "abcdefghijklmnopqrstuvwxyz"=kK c:=by
 unfold tD;rw[show ch c=⟨#[c]⟩from rfl,StrLaws.found_one,AF];unfold kK;rw[akR,decide_eq_true_eq,decide_eq_true_eq];simp only[akg,akt];constructor
 .rintro⟨k,ax,rfl⟩;omega
 .intro h;exact⟨c-97,by omega,by omega⟩
def Z3(l:List Nat):fK g_ (ae (rf false) (I 0) (aa (.str "abcdefghijklmnopqrstuvwxyz"))) [.e] (l.map λc=>D.str (ch c))=pure (l.map λc=>D.aE (kK c)):=
 r5 (λc=>D.str (ch c)) (λc=>D.aE (kK c)) l λc _=>by simp[Yd]
structure qn(l:List Nat):Prop where
 p1:1<=l.length
 zo:l.length<=8
 al:l.all kK=true
def qn.ok(h:qn l):ajK (cD l)=true:=ad8.mpr λc aI=>by
 have:=akL.mp h.al c aI;simp[kK]at this;omega
def Yq(h:qn l):yZ [.str (cD l)]=pure (.v (.aE true)):=by
 have aC:l.length<=ajt:=wd (by have:=h.zo;omega);have u0:l.length<ajt:=by rw[ajP];have:=h.zo;omega
 have ab:lR (l.map λc=>D.aE (kK c))=some (l.map kK):=HA kK _;have aI:=Z3 l;have hall:(l.map kK).all id=true:=by rw[List.all_map];exact h.al
 have VJ:(1:Int)<=(l.length:Int):=by have:=h.p1;omega
 have VL:(l.length:Int)<=8:=by have:=h.zo;omega
 simp only[yZ,Gy,Gz];simp[EY,aC,VJ,VL,SY,aI,ab,hall,u0]
def PU{i:Int}(h0:0<=i)(h:i<26):∃c,aK (.v (.str "abcdefghijklmnopqrstuvwxyz")) (.v (.int i))=pure (.v (.str (cD [c])))/\kK c=true:=by
 obtain⟨c,e⟩:=AO (xs:=("abcdefghijklmnopqrstuvwxyz":Str).cps.toList) (i:=i) h0 (by rw[AF];simpa using h);refine⟨c,?_,?_⟩
 .show(match eP ("abcdefghijklmnopqrstuvwxyz":Str).cps.toList i with
   |some c=>if("abcdefghijklmnopqrstuvwxyz":Str).length<=ajt then(pure (R.v (.str ⟨#[c]⟩)):M R)else bad| none=>bad)=_
  rw[e];dsimp only;rw[if_pos (wd (by decide +kernel))];rfl
 .have:=AN e
  rw[AF]at this;obtain⟨k,ax,rfl⟩:=akg.mp this;have:=akt.mp ax;simp[kK];omega
def ZE:("m":Str)=cD [109]:=by decide +kernel
def UT:("":Str)=cD []:=by decide +kernel
def Df(c:Int):∃a,sQ [.int c]=pure (.v (.str (cD a)))/\qn a:=by
 have aiF:=mod_lt (a:=c) (b:=8) (by decide);obtain⟨z,hz,aiN⟩:∃z:Nat,1+c % 8=(z:Nat)/\1<=z/\z<=8:=⟨(1+c % 8).toNat,by omega,by omega,by omega⟩;have I7:=mod_lt (a:=c / 64) (b:=26) (by decide);obtain⟨x,ao,ag⟩:=PU I7.1 I7.2;have ahm:0<z:=by omega
 obtain⟨Y',e,a,s4,rfl,bg,au⟩:=uA (b:=λd Y=>yL (Y.set 4 (.v d))) (ds:=h1 0 z) (Y:=[.v (.int c),.v (.int (z:Nat)),.v (.int (c / 8 % (z:Nat))),.v (.str (cD [])),.e])
  (λi Y=>∃(a:List Nat)(s4:Slot),Y=[.v (.int c),.v (.int (z:Nat)),.v (.int (c / 8 % (z:Nat))),.v (.str (cD a)),s4]/\a.all kK=true/\a.length=i)
  ⟨[],_,rfl,rfl,rfl⟩ (λi d Y hd ⟨a,s4,ay,bg,au⟩=>by
   subst ay;have aA:i<z:=by
    have:=(ajs.mp hd).1
    rwa[show(h1 0 z).length=z by simp[h1]]at this
   obtain⟨j,rfl⟩:∃j:Int,d=.int j:=by
    have:=aka hd;simp only[h1]at this;obtain⟨j,_,rfl⟩:=akg.mp this;exact⟨_,rfl⟩
   have ew:a.length+1<=ajt:=wd (by omega)
   by_cases q:j=c / 8 % (z:Nat)
   .refine⟨_,.inl (?_:_=pure (fX.bo [.v (.int c),.v (.int (z:Nat)),.v (.int (c / 8 % (z:Nat))),.v (.str (cD (a++[x]))),.v (.int j)])),_,_,rfl,by rw[List.all_append,bg];simpa using ag,by rw[ajz,au];rfl⟩
    simp only[yL];simp[q,ao,EY,OU,ew]
   .refine⟨_,.inl (?_:_=pure (fX.bo [.v (.int c),.v (.int (z:Nat)),.v (.int (c / 8 % (z:Nat))),.v (.str (cD (a++[109]))),.v (.int j)])),_,_,rfl,by rw[List.all_append,bg];decide,by rw[ajz,au];rfl⟩
    simp only[yL,ZE];simp[q,EY,OU,ew])
 have au:a.length=z:=by rw[au];simp[h1]
 refine⟨a,?_,⟨by omega,by omega,bg⟩⟩;have ff:(z:Int)<4611686018427387904:=by omega
 simp only[sQ,GX,GY,GZ,G0,G1,UT];simp[hz,ahm,e,ff]
def xM(ag:ajK x=true)(ba:ajK y=true):oEq (.v (.str x)) (.v (.str y))=pure (.v (.aE (x==y))):=r' (x:=.v (.str x)) (y:=.v (.str y)) ag ba
def DW:ajK "name"=true:=by decide +kernel
def DX:ajK "number"=true:=by decide +kernel
def aa4(h:qn l):q7 [.str "name",.str (cD l)]=pure (.v (.aE true)):=by
 have f:=Yq h;have q:=xM DW DW;rw[show(("name":Str) == "name")=true by simp]at q;simp only[q7,A1];generalize cD l=x at f ⊢;simp[q,f]
def aal{n:Int}(h:-(10 ^ 60)<n/\n<10 ^ 60):y0 [.int n]=pure (.v (.aE true)):=by
 have w:=E_ n;have e:decide ((if n<0 then -n else n)<1000000000000000000000000000000000000000000000000000000000000)=true:=by
  rw[decide_eq_true_eq];have af:=h.1;have ah:=h.2;split<;>omega
 simp only[y0,GA];rw[<-e];simp[w]
def aa5{n:Int}(h:-(10 ^ 60)<n/\n<10 ^ 60):q7 [.str "number",.int n]=pure (.v (.aE true)):=by
 have f:=aal h;have q:=xM DX DW;rw[show(("number":Str) == "name")=false by decide +kernel]at q;have b1:=xM DX DX;rw[show(("number":Str) == "number")=true by simp]at b1;simp only[q7,A1,GB];simp[q,b1,f]
def Vl:sF.lookup ("put":Str)=some (.tup [.str "name",.str "number"]):=rfl
def IH:sF.lookup ("add":Str)=some (.tup [.str "name",.str "number"]):=rfl
def Td(x:D)(ps:List D):cutD (x::ps) (some 1) none=ps:=Te (x::ps) 1
structure Fv(d:D):Prop where
 ex:∃(w:Str)(l:List Nat)(n:Int),d=.tup [.str w,.str (cD l),.int n]/\sF.lookup w=some (.tup [.str "name",.str "number"])/\qn l/\(-(10 ^ 60)<n/\n<10 ^ 60)
def Yo(h:Fv d):vp [d]=pure (.v (.aE true)):=by
 obtain⟨w,l,n,rfl,a_,au,aG⟩:=h.ex;have p1:=aa4 au;have dG:=aa5 aG;have wL:2<ajt:=by rw[ajP];omega
 generalize cD l=x at p1 ⊢;have Y7:qX g_ (bM q7 (U (I 0) (U (I 1) ak))) [.e,.e] [(.str "name",.str x),(.str "number",.int n)]=pure [.aE true,.aE true]:=by
  simp[qX,p1,dG]
 simp only[vp,Gu,Gv,Gw,Gx,Dq,Gn];simp[a_,Td,Y7,lR,wL,wK,R.walk]
mutual
theorem Lz:∀r:aO,r.wf->r.names≠[]
 |.kp k,_=>λh=>nomatch h
 |.ch k ps,h=>by
  have h':1<=k/\k<=ps.length/\ps.length<=6/\aO.jo ps:=h;show aO.ea ps≠[];exact Z4 ps h'.2.2.2 (by omega)
theorem Z4:∀ps:List aO,aO.jo ps->0<ps.length->aO.ea ps≠[]
 |[],_,h=>absurd h (aj7 _)|r::rs,h,_=>by
  show r.names++aO.ea rs≠[];exact λe=>Lz r h.1 (List.append_eq_nil_iff.mp e).1
end
def nu(a k:aO):(b' a k).length<=6:=by
 have:=amP (λj=>(a.names++k.names).contains j) (ajI 6);simpa[b']using this
def q_{a k:aO}(aq:Good a):0<(b' a k).length:=by
 obtain⟨x,ag⟩:=List.exists_mem_of_ne_nil _ (Lz a aq.1);refine aoj (a:=x) ?_;unfold b';rw[akZ,akt];exact⟨sV a aq.1 x ag,alb.mpr (amQ _ ag)⟩
def LU{xs:List D}(au:xs.length<=1000)(h:∀x∈xs,Ok n x):Ok (n+1) (.lst xs):=
 have q:=rg au h
 ⟨q.1,q.2⟩
theorem MV:∀{l:List (Z.κ.α×D)},(∀x∈l,v8 Z x.2=some x.1)->oH Z (l.map (·.2))=some (l.map (·.1))
 |[],_=>rfl|x::l,h=>by
  rw[ajw,ajw];unfold oH;rw[h x ajy,MV λy ba=>h y (ajv _ ba)]
theorem Pm{α β:Type}:∀l:List (α×β),(l.map (·.1)).zip (l.map (·.2))=l
 |[]=>rfl| x::l=>by rw[ajw,ajw,akT,Pm l]
def EI[DecidableEq Z.κ.α]{l:List (Z.κ.α×D)}(h:∀x∈l,v8 Z x.2=some x.1){r:R}(ag:r.fo=some (l.map (·.2)))(aG:(l.map (·.1)).Nodup)(au:l.length<64):m4 Z [r]=pure (.fr ((hG Z.κ.blt l).map (·.2))):=by
 rw[US,ag];dsimp only;rw[MV h];show(if jz Z.κ.blt (l.map (·.1))=true/\(l.map (·.1)).length<64 then _ else _)=_;rw[if_pos ⟨FO (Q:=Z.κ.toKeyOrd) aG,by rw[ajm];exact au⟩,Pm]
theorem Cd(aq:kr a)(hd:aK (.v dd) (.v (.int 1))=pure (.v (.str (cD a)))):∀{cs:qs},(∀x∈cs,jt x)->(cs.map (·.1)).Nodup->∃L:List Int,oo (a5 (ae oEq (I 0) (ae aK (I 2) (aa (.int 1))))) (I 1) [.e,.e,.v dd] (cs.map (·.2))=pure (L.map D.int)/\L.sum=lU (e8 (Q:=d4) cs a)
 |[],_,_=>⟨[],rfl,rfl⟩
 |x::cs,h,aG=>by
  obtain⟨aga,n,hV,ex⟩:=h x ajy;rw[ajw,akn]at aG;obtain⟨L,e,s⟩:=Cd aq hd (cs:=cs) (λy ba=>h y (ajv _ ba)) aG.2;have t:a5 (ae oEq (I 0) (ae aK (I 2) (aa (.int 1)))) [.v (.str (cD x.1)),.v (.int n),.v dd]=pure (decide (x.1=a)):=c0 (bz (Io aga.1 aq.1) rfl (bz hd rfl rfl));rw[ajw,ex];unfold e8
  by_cases c:x.1=a
  .rw[decide_eq_true c]at t
   have PJ:L.sum=0:=by
    rw[s];have:e8 (Q:=d4) cs a=none:=by
     unfold e8;rw[ano.mpr λy ba z=>aG.1 (akg.mpr ⟨y,ba,(of_decide_eq_true z).trans c.symm⟩)];rfl
    rw[this];rfl
   refine⟨n::L,?_,?_⟩
   .show(a5 (ae oEq (I 0) (ae aK (I 2) (aa (.int 1)))) [.v (.str (cD x.1)),.v (.int n),.v dd] >>= _)=_
    rw[t];show(oo _ _ _ _ >>= _)=_;rw[e];rfl
   .rw[aks (by simpa using c),List.sum_cons,PJ]
    show n+0=lU (some x.2);rw[ex,Int.add_zero];rfl
  .rw[decide_eq_false c]at t
   refine⟨L,?_,?_⟩
   .show(a5 (ae oEq (I 0) (ae aK (I 2) (aa (.int 1)))) [.v (.str (cD x.1)),.v (.int n),.v dd] >>= _)=_
    rw[t];exact e
   .rw[aki (by simpa using c)]
    exact s
def Oj{L:List Int}:sg [.fr (L.map D.int)]=pure (.v (.int L.sum)):=by
 show(match nums (L.map D.int)with|some bs=>pure (R.v (.int bs.sum))|none=>bad)=_;rw[DI (λi=>i),List.map_id']
def HY{it:fi}{t:aR->M Bool}{ds xs:List D}(ao:it Y=pure ds)(z:ds.length<ajt)(e:oo t el (iP 2 cap Y) ds=pure xs):r2 cap it t el Y=pure (.fr xs):=by
 show(it Y >>= _)=_;rw[ao];show(hR (ds.length<ajt) >>= _)=_;rw[HQ z];show(oo t el (iP 2 cap Y) ds >>= _)=_;rw[e];rfl
def aaZ{m:bp}{Y:aR}(e:m Y=pure (.fr xs)):jB i m Y=pure (.bo (Y.set i (.c7 false xs))):=by show(m Y >>= _)=_;rw[e];rfl
def ldI:a3:=(bZ (b7 10 (cH sg (U (r2 [3] (hX (I 4)) (a5 (ae oEq (I 0) (ae aK (I 2) (aa (.int 1))))) (I 1)) ak)))
  (bZ (b7 11 (ae aK (I 3) (aa (.int 2))))
  (bZ (b7 9 (I 10))
  (bZ (cW (a5 (ae oEq (ae aK (I 3) (aa (.int 0))) (aa (.str "add")))) (bZ (b7 11 (ae fN (I 10) (ae aK (I 3) (aa (.int 2)))))
  (b7 9 (I 11))) cq)
  (bZ (jB 12 (eX 1 [3] (hX (I 4)) (a5 (ae eJ (ae aK (I 0) (aa (.int 0))) (ae aK (I 1) (aa (.int 1))))) (I 0)))
  (bZ (cW (a5 (ae eJ (I 11) (aa (.int 0)))) (j0 12 hH (U (bD (U (ae aK (I 3) (aa (.int 1))) (U (I 11) ak))) ak)) cq)
  (b7 4 (cH l0 (U (cH (m4 ip) (U (I 12) ak)) ak)))))))))
def oA(s:c8):fD->Int×Int
 |.put a n=>(n,s.cell a)
 |.add a n=>(s.cell a+n,s.cell a+n)
def sX:fD->List Nat
 |.put a _=>a|.add a _=>a
def eN(d:fD):Prop:=(∃a n,d=.put a n)\/∃a n,d=.add a n
def ab0:oEq (.v (.str "put")) (.v (.str "add"))=pure (.v (.aE false)):=by rw[gn (by decide +kernel) (by decide +kernel)];rfl
def abX:oEq (.v (.str "add")) (.v (.str "add"))=pure (.v (.aE true)):=by rw[gn (by decide +kernel) (by decide +kernel),beq_self_eq_true]
def ab2:oEq (.v (.str "put")) (.v (.str "move"))=pure (.v (.aE false)):=by rw[gn (by decide +kernel) (by decide +kernel)];rfl
def abZ:oEq (.v (.str "add")) (.v (.str "move"))=pure (.v (.aE false)):=by rw[gn (by decide +kernel) (by decide +kernel)];rfl
def ab1:oEq (.v (.str "put")) (.v (.str "end"))=pure (.v (.aE false)):=by rw[gn (by decide +kernel) (by decide +kernel)];rfl
def abY:oEq (.v (.str "add")) (.v (.str "end"))=pure (.v (.aE false)):=by rw[gn (by decide +kernel) (by decide +kernel)];rfl
section
variable{s:c8}(row:∀x∈s.cs,jt x)(rise:kq d4 s.cs)(au:s.cs.length<60)
include row rise au
theorem KY(aq:kr a)(hd:aK (.v dd) (.v (.int 1))=pure (.v (.str (cD a))))(w:Int)(s0 s1 s2 s5 s6 s7 s8 es ez kd:Slot) :
  bZ (jB 12 (eX 1 [3] (hX (I 4)) (a5 (ae eJ (ae aK (I 0) (aa (.int 0))) (ae aK (I 1) (aa (.int 1))))) (I 0)))
  (bZ (cW (a5 (ae eJ (I 11) (aa (.int 0)))) (j0 12 hH (U (bD (U (ae aK (I 3) (aa (.int 1))) (U (I 11) ak))) ak)) cq)
  (b7 4 (cH l0 (U (cH (m4 ip) (U (I 12) ak)) ak)))) [s0,s1,s2,.v dd,.v (.tup (s.cs.map (·.2))),s5,s6,s7,s8,es,ez,.v (.int w),kd]=pure (.bo [s0,s1,s2,.v dd,.v (.tup ((jn s.cs a w).map (·.2))),s5,s6,s7,s8,es,ez,.v (.int w),.c7 false ((if w=0 then hC (Q:=d4) s.cs a else i2 (Q:=d4) s.cs (a,.tup [.str (cD a),.int w])).map (·.2))]):=by
 have bS:fK (a5 (ae eJ (ae aK (I 0) (aa (.int 0))) (ae aK (I 1) (aa (.int 1))))) (I 0) [.e,.v dd] (s.cs.map (·.2))=pure ((hC (Q:=d4) s.cs a).map (·.2)):=
  la (λx:List Nat×D=>x.2) (λx=>!decide (x.1=a)) (λx=>x.2) s.cs (λx ag=>c0 (bz (LG (row x ag).1.1 aq.1) (bz (row x ag).gW rfl rfl) (bz hd rfl rfl))) λx _ _=>Bs rfl
 have ji:∀x:List Nat×D,jt x->v8 ip x.2=some x.1:=λx ag=>by obtain⟨_,m,_,e⟩:=ag;rw[e];rfl
 have cL:∀x∈hC (Q:=d4) s.cs a,jt x:=λx ag=>row x ((r7 (Q:=d4)).mp ag).1
 have dl:(hC (Q:=d4) s.cs a).length<=s.cs.length:=amP _ _;refine(ef (aaZ (pj rfl (by rw[ajm];exact eS (by omega)) bS))).trans ?_
 by_cases c:w=0
 .refine(ef (nd (c0 (bz (pX.trans (by rw[decide_eq_true c];rfl)) rfl rfl)))).trans ?_
  refine(fq (iO rfl (cons_of (iO (EI (Z:=ip) (l:=hC (Q:=d4) s.cs a) (λx ag=>ji x (cL x ag)) rfl (Bx _ rise.nodup) (by omega)) rfl) rfl))).trans ?_;unfold jn;rw[if_pos c,if_pos c,Ob (Q:=d4) (By a rise)];rfl
 .refine(ef ((kI (c0 (bz (pX.trans (by rw[decide_eq_false c];rfl)) rfl rfl))).trans (AK rfl (cons_of (aeV (bz hd rfl rfl) rfl) rfl) (by rw[ajm];exact eS (by omega))))).trans ?_
  refine(fq (iO rfl (cons_of (iO (EI (Z:=ip) (l:=i2 (Q:=d4) s.cs (a,.tup [.str (cD a),.int w])) (λx ag=>?_) (by show some _=some _;unfold i2;rw[akd];rfl) (vW _ rise.nodup) (by have:=zw (Q:=d4) s.cs (a,.tup [.str (cD a),.int w]);omega)) rfl) rfl))).trans ?_
  .rcases(vV (Q:=d4)).mp ag with⟨ag,_⟩|rfl
   .exact ji x (row x ag)
   .rfl
  .unfold jn
   rw[if_neg c,if_neg c];unfold kN i2;rw[akd];rfl
theorem Zm(dh:eN d)(aq:kr (sX d))(s0 s1 s2 s5 s6 s7 s8 es ez my kd:Slot):∃jN,ldI [s0,s1,s2,.v d.D,.v (.tup (s.cs.map (·.2))),s5,s6,s7,s8,es,ez,my,kd]=pure (.bo [s0,s1,s2,.v d.D,.v (.tup ((jn s.cs (sX d) (oA s d).1).map (·.2))),s5,s6,s7,s8,.v (.int (oA s d).2),.v (.int (s.cell (sX d))),.v (.int (oA s d).1),jN]):=by
 have z:(s.cs.map (·.2)).length<ajt:=by rw[ajm];exact eS (by omega)
 rcases dh with⟨a,m,rfl⟩|⟨a,m,rfl⟩
 .obtain⟨L,e,g7⟩:=Cd (a:=a) aq (dd:=(fD.put a m).D) rfl row rise.nodup
  have g7:L.sum=s.cell a:=g7;refine⟨_,(ef (fq (iO (Oj.trans (by rw[g7];rfl)) (cons_of (HY rfl z e) rfl)))).trans ((ef (fq rfl)).trans ((ef (fq rfl)).trans ((ef (nd (c0 (bz ab0 rfl rfl)))).trans (KY row rise au aq rfl m _ _ _ _ _ _ _ _ _ _))))⟩
 .obtain⟨L,e,g7⟩:=Cd (a:=a) aq (dd:=(fD.add a m).D) rfl row rise.nodup
  have g7:L.sum=s.cell a:=g7;refine⟨_,(ef (fq (iO (Oj.trans (by rw[g7];rfl)) (cons_of (HY rfl z e) rfl)))).trans ((ef (fq rfl)).trans ((ef (fq rfl)).trans ((ef ((kI (c0 (bz abX rfl rfl))).trans ((ef (fq rfl)).trans (fq rfl)))).trans (KY row rise au aq rfl (s.cell a+m) _ _ _ _ _ _ _ _ _ _))))⟩
end
def pP(i n:Int)(x:Int×D):Bool:=decide (x.1=i)&&decide (n<=ka (some x.2))
def IS{a b:Int}:oD (.v (.int a)) (.v (.int b))=pure (.v (.aE (decide (a≥b)))):=rfl
def x_{a b:Int}:vJ (.v (.int a)) (.v (.int b))=pure (.v (.aE (decide (a > b)))):=rfl
def KZ(xs:List D):f7 [.v (.lst xs)]=pure (.v (.int (xs.length:Nat))):=rfl
section
variable{G:a0.D->Prop}{W:List (List Nat)}{s:c8}(h:gr G W s)
include h
theorem Zd(i n:Int):fK (h3 (a5 (ae oEq (ae aK (I 0) (aa (.int 0))) (I 1))) (a5 (ae oD (ae aK (I 0) (aa (.int 1))) (I 2)))) (I 0) [.e,.v (.int i),.v (.int n)] (s.ds.map (·.2))=pure ((s.ds.filter (pP i n)).map (·.2)):=
 la (λx:Int×D=>x.2) (pP i n) (λx=>x.2) s.ds (λx ag=>by
  obtain⟨m,z,e⟩:=h.num x ag;unfold pP;rw[e]
  by_cases c:x.1=i
  .rw[decide_eq_true c]
   exact(AH (c0 (bz (j1.trans (by rw[decide_eq_true c])) (bz rfl rfl rfl) rfl))).trans (c0 (bz IS (bz rfl rfl rfl) rfl))
  .rw[decide_eq_false c]
   exact FN (c0 (bz (j1.trans (by rw[decide_eq_false c])) (bz rfl rfl rfl) rfl))) λx _ _=>Bs rfl
theorem Zc{i n:Int}(aG:1<=n):decide ((((s.ds.filter (pP i n)).map (·.2)).length:Int) > 0)=decide (n<=s.last i):=by
 rw[ajm,show ∀m:Nat,decide ((m:Int) > 0)=decide (m > 0)from λm=>by simp]
 by_cases c:n<=s.last i
 .rw[decide_eq_true c]
  unfold c8.last at c
  cases q:e8 (Q:=iz) s.ds i with
  |none=>rw[q]at c;have c:n<=0:=c;omega|some d=>
   rw[q]at c;have m:(i,d)∈s.ds.filter (pP i n):=akZ.mpr ⟨uF q,by unfold pP;rw[decide_eq_true c];simp⟩;exact decide_eq_true (aoj m)
 .rw[decide_eq_false c]
  refine decide_eq_false λz=>c ?_
  obtain⟨x,ag⟩:=List.exists_mem_of_length_pos z;obtain⟨ag,q⟩:=akZ.mp ag;unfold pP at q;obtain⟨bq,b1⟩:=Bool.and_eq_true_iff.mp q;have bq:=of_decide_eq_true bq;unfold c8.last;rw[<-bq,uE h.lX.nodup ag];exact of_decide_eq_true b1
theorem UL(i:Int):fK (a5 (ae eJ (ae aK (I 0) (aa (.int 0))) (I 1))) (I 0) [.e,.v (.int i)] (s.ds.map (·.2))=pure ((hC (Q:=iz) s.ds i).map (·.2)):=
 la (λx:Int×D=>x.2) (λx=>!decide (x.1=i)) (λx=>x.2) s.ds (λx ag=>by
  obtain⟨m,z,e⟩:=h.num x ag;rw[e];exact c0 (bz pX (bz rfl rfl rfl) rfl)) λx _ _=>Bs rfl
theorem KV(aC:s.cb=.aQ)(eR:W.length<59)(i:Int){n:Int}(aG:1<=n)(dh:eN d)(hd:jU G W d):vr [s.D,.int i,.int n,d.D]=pure (.v (gx s i n (some d)).D):=by
 have cN:dp d.D=.v d.D:=by rcases dh with⟨a,m,rfl⟩|⟨a,m,rfl⟩<;>rfl
 have wB:kr (sX d):=by rcases dh with⟨a,m,rfl⟩|⟨a,m,rfl⟩<;>exact hd.1
 have nn:jK (.v d.D) (.v .aQ)=pure (.v (.aE false)):=by rcases dh with⟨a,m,rfl⟩|⟨a,m,rfl⟩<;>rfl
 have vL:mq s i d=(s.put (sX d) (oA s d).1,.int (oA s d).2):=by rcases dh with⟨a,m,rfl⟩|⟨a,m,rfl⟩<;>rfl
 obtain⟨w,rB,afS,afl⟩:∃w:Str,aK (.v d.D) (.v (.int 0))=pure (.v (.str w))/\oEq (.v (.str w)) (.v (.str "move"))=pure (.v (.aE false))/\oEq (.v (.str w)) (.v (.str "end"))=pure (.v (.aE false)):=by
  rcases dh with⟨a,m,rfl⟩|⟨a,m,rfl⟩
  .exact⟨_,rfl,ab2,ab1⟩
  .exact⟨_,rfl,abZ,abY⟩
 have dl:=h.dl;have cl:s.cs.length<60:=by have:=h.cl;omega
 have qk:(s.ds.map (·.2)).length<ajt:=by rw[ajm];exact eS (by omega)
 have jI:=Zc h (i:=i) aG;refine j3 rfl ?_;show GN [.v s.D,.v (.int i),.v (.int n),dp d.D,.e,.e,.e,.e,.e,.e,.e,.e,.e]=_;rw[cN];refine(ef (OZ (ds:=[.tup (s.cs.map (·.2)),.tup (s.ds.map (·.2)),.tup [.int s.f,s.t],s.cb]) rfl rfl)).trans ?_;rw[aC];refine(ef (oJ (pj rfl qk (Zd h i n)) rfl)).trans ?_;unfold gx;dsimp only
 by_cases c:n<=s.last i
 .rw[decide_eq_true c]at jI
  rw[if_neg λz=>absurd z.2 (Int.not_lt.mpr c)];exact ro ((kI ((ti (c0 (bz nn rfl rfl))).trans ((ti (c0 rfl)).trans (c0 (bz (x_.trans (by rw[jI])) (iO (KZ _) rfl) rfl))))).trans (kQ rfl))
 .rw[decide_eq_false c]at jI
  rw[if_pos ⟨by rw[aC];rfl,Int.not_le.mp c⟩];refine(ef (nd ((ti (c0 (bz nn rfl rfl))).trans ((ti (c0 rfl)).trans (c0 (bz (x_.trans (by rw[jI])) (iO (KZ _) rfl) rfl)))))).trans ?_;refine(ef (fq rfl)).trans ?_;obtain⟨jN,Yb⟩:=Zm h.row h.rise cl dh wB (.v s.D) (.v (.int i)) (.v (.int n)) (.v (.tup (s.ds.map (·.2)))) (.v (.tup [.int s.f,s.t])) (.v .aQ) (.v (.lst ((s.ds.filter (pP i n)).map (·.2)))) (.v (.int 1)) .e .e .e;refine(ef ((nd (c0 (bz afS (bz rB rfl rfl) rfl))).trans ((nd (c0 (bz afl (bz rB rfl rfl) rfl))).trans Yb))).trans ?_;rw[vL];refine(ef (fq (iO rfl (cons_of (iO (EI (Z:=fM) (l:=i2 (Q:=iz) s.ds (i,.tup [.int i,.int n,.int (oA s d).2])) (λx ag=>?_) (by show some _=some _;unfold i2;rw[akd];rfl) (vW _ h.lX.nodup) (by have:=zw (Q:=iz) s.ds (i,.tup [.int i,.int n,.int (oA s d).2]);omega)) (cons_of (bz (SQ ?_) (pj rfl qk (UL h i)) rfl) rfl)) rfl)))).trans ?_
  .rcases(vV (Q:=iz)).mp ag with⟨ag,_⟩|rfl
   .obtain⟨m,z,e⟩:=h.num x ag
    rw[e];rfl
   .rfl
  .have:=xJ (Q:=iz) s.ds i
   refine wd ?_;rw[ajm];show _+1<=1000;omega
  .refine Eq.trans (kQ (d:=.tup [.tup ((jn s.cs (sX d) (oA s d).1).map (·.2)),.tup ((kN (Q:=iz) s.ds (i,.tup [.int i,.int n,.int (oA s d).2])).map (·.2)),.tup [.int s.f,s.t],.aQ]) rfl) ?_
   rw[<-aC];rfl
end
def U'{b:D->a3}(h:b d Y=pure (.bo Y')):hk b (d::ds) Y=hk b ds Y':=by
 show(b d Y >>= _)=_;rw[h];rfl
def MM{m:bp}(e:m Y=pure (.fr xs)):bG m Y=pure (.cZ (.fr xs)):=by show(m Y >>= _)=_;rw[e];rfl
def e9(a k:aO):D:=.tup [.int 0,dm a k,hQ]
section
variable{a k:aO}(aq:Good a)(ax:Good k)
include aq ax
theorem Zf(me:Int)(s:dq):Ds [.int me,e9 a k,cO s]=pure (.fr ((b' a k).map (dR me 0 s))):=
 ID rfl (MM (pj (JU (call_of rfl (De aq ax))) (by rw[ajm];have:=nu a k;exact eS (by omega)) (r5 bf (dR me 0 s) (b' a k) λ_ _=>rfl)))
end
def dO(b:dq×D)(g:cJ):dq×D:=if fQ g.s b.1=true then(g.s,g.w)else b
theorem Hp{B:D->a3}(n6:∀g Y,B (dg g) Y=C5 (kf [4,5,6] [bf g.k,cO g.s,g.w] Y))(s0 s1:Slot):∀(aD:List cJ)(b:dq×D)(s4 s5 s6:Slot),∃rr zO zP,hk B (aD.map dg) [s0,s1,.v (cO b.1),.v b.2,s4,s5,s6]=pure (.bo [s0,s1,.v (cO (aD.foldl dO b).1),.v (aD.foldl dO b).2,rr,zO,zP])
 |[],b,s4,s5,s6=>⟨s4,s5,s6,rfl⟩
 |g::aD,b,s4,s5,s6=>by
  obtain⟨rr,zO,zP,e⟩:=Hp n6 s0 s1 aD (dO b g) (.v (bf g.k)) (.v (cO g.s)) (.v g.w);refine⟨rr,zO,zP,(U' (Y':=[s0,s1,.v (cO (dO b g).1),.v (dO b g).2,.v (bf g.k),.v (cO g.s),.v g.w]) ((n6 g _).trans ?_)).trans e⟩;unfold dO
  by_cases c:fQ g.s b.1=true
  .rw[if_pos c]
   exact(kI (c0 (bz ((cmp_gt g.s b.1).trans (by rw[c])) rfl rfl))).trans ((ef (fq rfl)).trans (fq rfl))
  .rw[if_neg c]
   exact nd (c0 (bz ((cmp_gt g.s b.1).trans (by rw[Bool.eq_false_iff.mpr c])) rfl rfl))
def Zg(aD:List cJ)(bg:dp op=.v op):Dt [.lst (aD.map dg),op]=pure (.v (.tup [cO (aD.foldl dO ((0,0),op)).1,(aD.foldl dO ((0,0),op)).2])):=by
 obtain⟨rr,zO,zP,e⟩:=Hp (B:=λd Y=>match d with
  |.tup ay=>if ay.length=[4,5,6].length then C5 (kf [4,5,6] ay Y)else bad| _=>bad) (λ_ _=>rfl) (.bF (aD.map dg)) (.v op) aD ((0,0),op) .e .e .e
 refine j3 rfl ?_;show GH [.bF (aD.map dg),dp op,.e,.e,.e,.e,.e]=_;rw[bg];exact(ef (fq rfl)).trans ((ef (fq rfl)).trans ((ef e).trans (kQ rfl)))
section
variable{a k:aO}(aq:Good a)(ax:Good k)
include aq ax
theorem KW(me:Int)(s:dq)(n:Int)(hd:dp d=.v d){aD:List cJ}(hw:vr [(aD.foldl dO ((0,0),hQ)).2,.int me,.int n,d]=pure (.v w)) :
  y4 [.int me,e9 a k,cO s,.int n,d,.lst (aD.map dg)]=pure (.fr ((b' a k).map (dK me 0 s (.tup [cO (aD.foldl dO ((0,0),hQ)).1,.int n,d,w])))):=by
 refine ID rfl ?_;show G6 [.v (.int me),.v (e9 a k),.v (cO s),.v (.int n),dp d,.bF (aD.map dg),.e,.e,.e]=_;rw[hd];exact(ef (OZ (call_of rfl (Zg aD rfl)) rfl)).trans ((ef (fq (by
  show(U _ _ _ >>= _)=_;rw[cons_of rfl (cons_of rfl (cons_of rfl (cons_of (call_of rfl hw) rfl)))];rfl))).trans (MM (pj (JU (call_of (rs:=[.v (dm a k)]) rfl (De aq ax))) (by rw[ajm];have:=nu a k;exact eS (by omega)) (r5 bf (dK me 0 s (.tup [cO (aD.foldl dO ((0,0),hQ)).1,.int n,d,w])) (b' a k) λ_ _=>rfl))))
end
def i9(P:c8->Prop)(W:List (List Nat))(s:dq)(w:D):Prop:=(s=(0,0)/\w=.aQ)\/(1<=s.1/\∃t:c8,w=t.D/\gr (λ_=>False) W t/\P t)
theorem xm{P:c8->Prop}:∀(ps:List cJ)(b:cJ)(c:dq×D),(∀g∈ps,i9 P W g.s g.w)->(b.s=(0,0)\/1<=b.s.1)->c.1=b.s->c.2=(if b.s=(0,0)then op else b.w)->qN op (mY b ps)=.tup [cO (ps.foldl dO c).1,(ps.foldl dO c).2]
 |[],b,c,_,_,af,ah=>by
  show D.tup [cO b.s,if b.s=(0,0)then op else b.w]=.tup [cO c.1,c.2];rw[af,ah]
 |g::ps,b,c,aY,ab,af,ah=>by
  have ax:=aY g ajy;show qN op (mY (vA b g) ps)=.tup [cO (ps.foldl dO (dO c g)).1,(ps.foldl dO (dO c g)).2];have Vq:g.s=(0,0)\/1<=g.s.1:=ax.elim (λz=>.inl z.1) λz=>.inr z.1
  by_cases q:fQ g.s b.s=true
  .have ne:g.s≠(0,0):=λz=>by
    rw[z]at q;rcases ab with ab|ab
    .rw[ab]at q;cases q
    .unfold fQ at q
     simp at q;omega
   have ao:vA b g=g:=if_pos q;have az:dO c g=(g.s,g.w):=by unfold dO;rw[af,if_pos q]
   rw[ao,az];exact xm ps g _ (λx ag=>aY x (ajv _ ag)) Vq rfl (if_neg ne).symm
  .have ao:vA b g=b:=if_neg q
   have az:dO c g=c:=by unfold dO;rw[af,if_neg q]
   rw[ao,az];exact xm ps b c (λx ag=>aY x (ajv _ ag)) ab af ah
theorem A8{P:c8->Prop}:∀(aD:List cJ)(c:dq×D),(∀g∈aD,i9 P W g.s g.w)->(c.1=(0,0)\/1<=c.1.1)->(∃t:c8,c.2=t.D/\gr (λ_=>False) W t/\P t)->∃t:c8,(aD.foldl dO c).2=t.D/\gr (λ_=>False) W t/\P t
 |[],_,_,_,h=>h|g::aD,c,aY,h0,h=>by
  show ∃t:c8,(aD.foldl dO (dO c g)).2=t.D/\_;unfold dO
  by_cases q:fQ g.s c.1=true
  .rw[if_pos q]
   rcases aY g ajy with⟨z,_⟩|⟨z,bO⟩
   .rw[z]at q
    rcases h0 with h0|h0
    .rw[h0]at q;cases q
    .unfold fQ at q
     simp at q;omega
   .exact A8 aD _ (λx ag=>aY x (ajv _ ag)) (.inr z) bO
  .rw[if_neg q]
   exact A8 aD c (λx ag=>aY x (ajv _ ag)) h0 h
def t7:c8:=⟨[],[],0,.aQ,.aQ⟩
def Sl(W:List (List Nat)):gr (λ_=>False) W t7:=⟨λ_ h=>(nomatch h),anD,λ_ h=>(nomatch h),λ_ h=>(nomatch h),anD,λ_ h=>(nomatch h),.inl rfl,.inl rfl,λ_ h=>(nomatch h)⟩
def Hq{P:c8->Prop}{aD:List cJ}(h0:P t7)(aY:∀g∈aD,i9 P W g.s g.w):∃t:c8,(aD.foldl dO ((0,0),hQ)).2=t.D/\gr (λ_=>False) W t/\P t:=
 A8 aD _ aY (.inl rfl) ⟨t7,rfl,Sl W,h0⟩
def Sf{P:c8->Prop}(aY:∀g∈p::ps,i9 P W g.s g.w)(op:D):qN op (mY p ps)=.tup [cO ((p::ps).foldl dO ((0,0),op)).1,((p::ps).foldl dO ((0,0),op)).2]:=by
 rcases aY p ajy with⟨z,_⟩|⟨z,_⟩
 .have e:dO ((0,0),op) p=((0,0),op):=by unfold dO;rw[z];exact if_neg (show ¬fQ (0,0) (0,0)=true by decide)
  show _=D.tup [cO (ps.foldl dO (dO _ p)).1,(ps.foldl dO (dO _ p)).2];rw[e];exact xm ps p _ (λx ag=>aY x (ajv _ ag)) (.inl z) z.symm (if_pos z).symm
 .have a1:fQ p.s (0,0)=true:=by unfold fQ;simp;omega
  have ne:p.s≠(0,0):=λq=>by rw[q]at z;exact absurd z (by decide)
  have e:dO ((0,0),op) p=(p.s,p.w):=by unfold dO;exact if_pos a1
  show _=D.tup [cO (ps.foldl dO (dO _ p)).1,(ps.foldl dO (dO _ p)).2];rw[e];exact xm ps p _ (λx ag=>aY x (ajv _ ag)) (.inr z) rfl (if_neg ne).symm
def Zo(xs:List D):f7 [.fr xs]=pure (.v (.int (xs.length:Nat))):=rfl
def JW(j:Nat)(bc:List Nat):jg false (.v (bf j)) (.bF (bc.map bf))=pure (.v (.aE (bc.contains j))):=yu j bc
theorem Dd(bc:List Nat):∀(n:Nat)(r:aO),r.deep<n->r.wf->nk n [enc r,.lst (bc.map bf)]=pure (.v (.aE (r.fills λj=>bc.contains j)))
 |0,r,h,_=>absurd h (amn _)|n+1,.kp k,h,hw=>by
  rw[sa];exact j3 rfl (ro ((kI (aaj (c0 rfl))).trans (kQ (bz (JW k bc) rfl rfl))))
 |n+1,.ch k ps,h,hw=>by
  simp only[aO.deep]at h;simp only[aO.wf]at hw;have dl:=r6 (ps:=ps) (n:=n) (by omega);have wl:=z3.mp hw.2.2.2;rw[qB];have c:fK (a5 (bM (nk n) (U (I 0) (U (I 1) ak)))) (I 0) [.e,.bF (bc.map bf)] (ps.map enc)=pure ((ps.filter (aO.fills λj=>bc.contains j)).map enc):=
   la enc (aO.fills λj=>bc.contains j) enc ps (λr aB=>c0 (call_of rfl (Dd bc n r (dl r aB) (wl r aB)))) λr _ _=>rfl
  have z:(ps.map enc).length<ajt:=by rw[ajm];exact eS (by omega)
  have e:decide ((((ps.filter (aO.fills λj=>bc.contains j)).map enc).length:Int)≥(k:Nat))=(aO.ch k ps).fills λj=>bc.contains j:=by
   rw[ajm,xD];exact decide_eq_decide.mpr (by omega)
  exact j3 rfl ((jk (zb (c0 rfl))).trans (kQ (bz (IS.trans (by rw[e])) (iO (Zo _) (cons_of (pj rfl z c) rfl)) (bz rfl rfl rfl))))
def UP(k:List Key)(d:D):∀ai:List (List Key×D),ig (fm ai k d) k=some d:=by
 intro ai;unfold fm ig;split
 .rename_i l3
  induction ai with
  |nil=>cases l3
  |cons p ai a8=>
   rw[ajw]
   by_cases c:p.1=k
   .rw[if_pos c,aks (by simpa using c)];rfl
   .rw[if_neg c,aki (by simpa using c)]
    refine a8 ?_;rw[ak9]at l3;simpa[c]using l3
 .rename_i l3
  rw[List.find?_append,ano.mpr λx ag z=>l3 (an2.mpr ⟨x,ag,z⟩),aks (by simp)];rfl
def D'(k:Nat)(ai:List (List Key×D))(d:D):hF (fm ai (d8 k) d) k=d:=by unfold hF;rw[UP];rfl
def rW(ai:List (List Key×D)):Prop:=∃bc:List Nat,ai.map (·.1)=bc.map d8/\bc.Nodup/\∀k∈bc,k<6
def rW.len{ai:List (List Key×D)}(h:rW ai):ai.length<=6:=by
 obtain⟨bc,e,eb,gz⟩:=h;have l:=congrArg akN e;rw[ajm,ajm]at l;have:=eb.length_le_of_subset (l₂:=ajI 6) λk ax=>akt.mpr (gz k ax)
 rw[akY]at this;omega
def rW.put(h:rW ai){k:Nat}(u_:k<6)(d:D):rW (fm ai (d8 k) d):=by
 obtain⟨bc,e,eb,gz⟩:=h;unfold fm;split
 .refine⟨bc,?_,eb,gz⟩
  rw[<-e,ak4];refine am4 λp _=>?_
  show(if p.1=d8 k then(p.1,d)else p).1=p.1;split<;>rfl
 .rename_i l3
  refine⟨bc++[k],by rw[akd,akd,e];rfl,?_,λx ag=>?_⟩
  .refine anF.mpr ⟨eb,akn.mpr ⟨akU,am6⟩,λx ag y ba=>?_⟩
   rw[ajH.mp ba];rintro rfl;have:d8 x∈ai.map (·.1):=e▸alN ag;obtain⟨p,aH,cM⟩:=akg.mp this;exact l3 (an2.mpr ⟨p,aH,by simpa using cM⟩)
  .rcases aj2.mp ag with ag|ag
   .exact gz x ag
   .rw[ajH.mp ag];exact u_
def fP(P:c8->Prop)(W:List (List Nat))(ai:List (List Key×D)):Prop:=(∀k:Nat,∃pr kp w,hF ai k=g4 pr kp w/\0<=pr.1/\i9 P W kp w)/\rW ai
def fP.nil(P:c8->Prop)(W:List (List Nat)):fP P W []:=⟨λ_=>⟨(0,0),(0,0),.aQ,rfl,ami _,.inl ⟨rfl,rfl⟩⟩,[],rfl,am6,λ_ h=>(nomatch h)⟩
def fP.put{P:c8->Prop}(h:fP P W ai)(k:Nat)(u_:k<6)(h0:0<=pr.1)(ax:i9 P W kp w):fP P W (fm ai (d8 k) (g4 pr kp w)):=by
 refine⟨λj=>?_,h.2.put u_ _⟩
 by_cases c:j=k
 .rw[c,D'];exact⟨pr,kp,w,rfl,h0,ax⟩
 .rw[D_ c];exact h.1 j
def nD:D->Int
 |.tup [.tup [.int r,_],_,_]=>r|_=>0
theorem DA:∀(l:List Int)(b:Int),b<=i0 b l/\∀x∈l,x<=i0 b l
 |[],b=>⟨ami _,λ_ h=>(nomatch h)⟩
 |y::l,b=>by
  unfold i0
  by_cases c:b<y
  .rw[if_pos c]
   have:=DA l y;exact⟨by omega,λx ag=>by rcases aju.mp ag with rfl|ag;exact this.1;exact this.2 x ag⟩
  .rw[if_neg c]
   have:=DA l b;exact⟨this.1,λx ag=>by rcases aju.mp ag with rfl|ag;omega;exact this.2 x ag⟩
def Ed{k:Nat}(ax:k<6):∃p:Int,nO 0 p/\aK (.fr [.int 1,.int 2,.int 4,.int 8,.int 16,.int 32]) (.v (bf k))=pure (.v (.int p)):=by
 rcases(by omega:k=0\/k=1\/k=2\/k=3\/k=4\/k=5)with rfl|rfl|rfl|rfl|rfl|rfl
 .exact⟨1,gw (by decide) (by decide),rfl⟩
 .exact⟨2,gw (by decide) (by decide),rfl⟩
 .exact⟨4,gw (by decide) (by decide),rfl⟩
 .exact⟨8,gw (by decide) (by decide),rfl⟩
 .exact⟨16,gw (by decide) (by decide),rfl⟩
 .exact⟨32,gw (by decide) (by decide),rfl⟩
def Hx{i j k:Nat}{A:Int}(bI:I i Y=pure (.v (.int A)))(ax:k<6)(ag:ae aK (I j) (aa (.int 2)) Y=pure (.v (bf k))) :
  ∃b,a5 (ae oEq (ae oMod (ae dZ (I i) (ae aK (dS (U (aa (.int 1)) (U (aa (.int 2)) (U (aa (.int 4)) (U (aa (.int 8)) (U (aa (.int 16)) (U (aa (.int 32)) ak))))))) (ae aK (I j) (aa (.int 2))))) (aa (.int 2))) (aa (.int 1))) Y=pure b:=by
 obtain⟨p,aH,e⟩:=Ed ax;exact⟨_,c0 (bz j1 (bz (fU (by decide)) (bz (hS (a:=A) (b:=p) aH) bI (bz e (q2 rfl rfl (ajO rfl)) ag)) rfl) rfl)⟩
def JY{xs:List Int}{i:Int}(h0:0<=i)(af:i<xs.length):∃A:Int,aK (.fr (xs.map D.int)) (.v (.int i))=pure (.v (.int A)):=by
 obtain⟨v,e⟩:=AO (xs:=xs.map D.int) h0 (by rw[ajm];exact af);obtain⟨A,_,rfl⟩:=akg.mp (AN e);exact⟨A,CQ e⟩
section
variable{P:c8->Prop}{W:List (List Nat)}{top g A:Int}(af:1<=top)(bn:Nat)(s1 s2 s3 s4 s5 s6 s7 es p6:Slot)
include af
theorem B3:∀(ms:List Nat)(ai:List (List Key×D))(aD:List cJ)(my kd:Slot)(S:cA),S[bn]? = some (.eY ai)->ms.Nodup->(∀k∈ms,k<6)->fP P W ai->(∀k∈ms,nD (hF ai k)<top)->(∀x∈aD,i9 P W x.s x.w)->ai.length+ms.length<1000->aD.length+ms.length<1000->
  ∃(cC:List (List Key×D))(gf:List cJ)(oK jN:Slot),bL S (jR (λd Y=>KH (Y.set 11 (.v d))) (ms.map (dR g 0 (top,g))) [.v (.ref bn),s1,s2,s3,s4,s5,s6,s7,.v (.int A),es,.c7 false (aD.map dg),my,kd,p6]) (.bo [.v (.ref bn),s1,s2,s3,s4,s5,s6,s7,.v (.int A),es,.c7 false (gf.map dg),oK,jN,p6]) (S.set bn (.eY cC))/\fP P W cC/\(∀x∈gf,i9 P W x.s x.w)/\cC.length<=ai.length+ms.length/\gf.length<=aD.length+ms.length
 |[],ai,aD,my,kd,S,cu,_,_,ab,_,aY,_,_=>⟨ai,aD,my,kd,by rw[set_same cu];rfl,ab,aY,ajq _,ajq _⟩
 |k::ms,ai,aD,my,kd,S,cu,eb,gz,ab,bO,aY,b5,cv=>by
  rw[ajC]at b5 cv;obtain⟨LK,eb⟩:=akn.mp eb;obtain⟨pr,kp,w,aH,iq,ax⟩:=ab.1 k;have pt:=bO k ajy;rw[aH]at pt;have pt:pr.1<top:=pt;have hO:fQ (top,g) pr=true:=by unfold fQ;simp;omega
  obtain⟨b,c6⟩:=Hx (i:=8) (j:=11) (A:=A) (Y:=[.v (.ref bn),s1,s2,s3,s4,s5,s6,s7,.v (.int A),es,.c7 false (aD.map dg),.v (dR g 0 (top,g) k),kd,p6]) rfl (gz k ajy) rfl
  cases b with
  |false=>
   obtain⟨cC,gf,oK,jN,e,bB,b_,kP,nE⟩:=B3 ms ai aD (.v (dR g 0 (top,g) k)) kd S cu eb (λx ag=>gz x (ajv _ ag)) ab (λx ag=>bO x (ajv _ ag)) aY (by omega) (by omega);exact⟨cC,gf,oK,jN,mH (nM (aJ.of c6).to rfl) e,bB,b_,by rw[ajC];omega,by rw[ajC];omega⟩
  |true=>
   have dl:=xI ai (d8 k) (g4 (top,g) kp w);obtain⟨cC,gf,oK,jN,e,bB,b_,kP,nE⟩:=B3 ms (fm ai (d8 k) (g4 (top,g) kp w)) (aD++[⟨k,kp,w⟩]) (.v (dR g 0 (top,g) k)) (.v (j4 k g 0 (top,g) kp w)) _ (get_set cu) eb (λx ag=>gz x (ajv _ ag)) (ab.put k (gz k ajy) (by show 0<=top;omega) ax) (λx ag=>by rw[D_ (show x≠k from λz=>LK (z▸ag))];exact bO x (ajv _ ag)) (λx ag=>by
    rcases aj2.mp ag with ag|ag
    .exact aY x ag
    .rw[ajH.mp ag];exact ax) (by omega) (by rw[ajz];show aD.length+1+_ < _;omega)
   rw[ajz]at nE;have nE:gf.length<=aD.length+1+ms.length:=nE;rw[akd,List.set_set]at e;exact⟨cC,gf,oK,jN,mH (mG (aJ.of c6).to (c4 (kZ (x_call (.of rfl) rfl (Js aH cu (by omega) hO)) rfl) (aJ.of (AK rfl (cons_of (ON (bz rfl rfl rfl) (bz rfl (bz rfl rfl rfl) rfl) (bz rfl (bz rfl rfl rfl) rfl)) rfl) (by rw[ajm];exact eS (by omega)))).to)) e,bB,b_,by rw[ajC];omega,by rw[ajC];omega⟩
end
section
variable{P:c8->Prop}{W:List (List Nat)}{top g A:Int}(af:1<=top){b n dd w:D}(hw:i9 P W (top,g) w)(bn:Nat)(s1 s2 s3 s4 s5 s6 s7 s8 ez my kd:Slot)
include af hw
theorem x7:∀(ms:List Nat)(ai:List (List Key×D))(p6:Slot)(S:cA),S[bn]? = some (.eY ai)->(∀k∈ms,k<6)->fP P W ai->ai.length+ms.length<1000->
  ∃(cC:List (List Key×D))(p8:Slot),bL S (jR (λd Y=>KI (Y.set 13 (.v d))) (ms.map (dK g 0 (top,g) (.tup [b,n,dd,w]))) [.v (.ref bn),s1,s2,s3,s4,s5,s6,s7,s8,.v (.int A),ez,my,kd,p6]) (.bo [.v (.ref bn),s1,s2,s3,s4,s5,s6,s7,s8,.v (.int A),ez,my,kd,p8]) (S.set bn (.eY cC))/\fP P W cC/\cC.length<=ai.length+ms.length
 |[],ai,p6,S,cu,_,ab,_=>⟨ai,p6,by rw[set_same cu];rfl,ab,ajq _⟩
 |k::ms,ai,p6,S,cu,gz,ab,b5=>by
  rw[ajC]at b5;obtain⟨pr,kp,rB,aH,iq,ax⟩:=ab.1 k;have B_:∀x∈ms,x<6:=λx ag=>gz x (ajv _ ag)
  obtain⟨q,c6⟩:=Hx (i:=9) (j:=13) (A:=A) (Y:=[.v (.ref bn),s1,s2,s3,s4,s5,s6,s7,s8,.v (.int A),ez,my,kd,.v (dK g 0 (top,g) (.tup [b,n,dd,w]) k)]) rfl (gz k ajy) rfl
  cases q with
  |false=>
   obtain⟨cC,p8,e,bB,b_⟩:=x7 ms ai (.v (dK g 0 (top,g) (.tup [b,n,dd,w]) k)) S cu B_ ab (by omega);exact⟨cC,p8,mH (nM (aJ.of c6).to rfl) e,bB,by rw[ajC];omega⟩
  |true=>
   cases hO:fQ pr (top,g)with
   |true=>
    obtain⟨cC,p8,e,bB,b_⟩:=x7 ms ai (.v (dK g 0 (top,g) (.tup [b,n,dd,w]) k)) S cu B_ ab (by omega);exact⟨cC,p8,mH (mG (aJ.of c6).to (tH (x_call (.of rfl) rfl (Ju aH cu hO)))) e,bB,by rw[ajC];omega⟩
   |false=>
    have dl:=xI ai (d8 k) (g4 (top,g) (top,g) w);obtain⟨cC,p8,e,bB,b_⟩:=x7 ms (fm ai (d8 k) (g4 (top,g) (top,g) w)) (.v (dK g 0 (top,g) (.tup [b,n,dd,w]) k)) _ (get_set cu) B_ (ab.put k (gz k ajy) (by show 0<=top;omega) hw) (by omega);rw[List.set_set]at e;exact⟨cC,p8,mH (mG (aJ.of c6).to (tH (x_call (.of rfl) rfl (Jt aH cu (by omega) hO)))) e,bB,by rw[ajC];omega⟩
end
def sT{a k:aO}(h:j∈b' a k):j<6:=akt.mp (akZ.mp h).1
def ZO(a k:aO):(b' a k).Nodup:=List.nodup_range.filter _
def Ig{s:c8}(aC:s.cb=.aQ)(i n:Int)(dh:eN d):(gx s i n (some d)).cb=.aQ:=by
 unfold gx;dsimp only;split
 .rcases dh with⟨a,m,rfl⟩|⟨a,m,rfl⟩<;>exact aC
 .exact aC
def Vb(aq:Good a){aD:List cJ}(au:aD.length<1000){ov sJ:bp}{r:R}(af:ov Y=pure (.v (enc a)))(ah:sJ Y=pure r)(aB:r.fo=some (aD.map dg)) :
  a5 (bM (nk 6) (U ov (U (eX 1 [] (kH sJ) g_ (ae aK (I 0) (aa (.int 0)))) ak))) Y=pure (a.fills λj=>(aD.map (·.k)).contains j):=by
 have a_:=Dd (aD.map (·.k)) 6 a (by have:=aq.2.1;omega) aq.1;have ahe:(aD.map dg).length<ajt:=by rw[ajm];exact eS (by omega)
 have ll:fK g_ (ae aK (I 0) (aa (.int 0))) (iP 1 [] Y) (aD.map dg)=pure ((aD.map (·.k)).map bf):=(r5 (Y:=iP 1 [] Y) dg (λx=>bf x.k) aD λx _=>rfl).trans (by rw[ak4];rfl);have az:kH sJ Y=pure (aD.map dg):=by show(sJ Y >>= _)=_;rw[ah];show(match r.fo with|some xs=>pure xs|none=>bad)=_;rw[aB]
 exact c0 (call_of (cons_of af (cons_of (pj az ahe ll) rfl)) a_)
section
variable{a k:aO}(aq:Good a)(ax:Good k){P:c8->Prop}{W:List (List Nat)}
include aq ax
theorem Zi(eR:W.length<59){ai:List (List Key×D)}{S:cA}(cu:S[bn]? = some (.eY ai))(ab:fP P W ai)(hz:ai.length+12<1000){g:Int}(uB:0<=g)(x3:g<6){n:Int}(aG:1<=n)(dh:eN d)(hd:jU (λ_=>False) W d)(c:Int)(iq:P t7)(lD:∀t,P t->t.cb=.aQ)(L7:∀t,gr (λ_=>False) W t->P t->P (gx t g n (some d))) :
  ∃cC,bL S (y3 [.ref bn,e9 a k,.int g,.int n,d.D,.int c]) (.v .aQ) (S.set bn (.eY cC))/\fP P W cC/\cC.length<=ai.length+12:=by
 have cN:dp d.D=.v d.D:=by rcases dh with⟨a,m,rfl⟩|⟨a,m,rfl⟩<;>rfl
 have gA:=nu a k;have ahk:((b' a k).map bf).length<ajt:=by rw[ajm];exact eS (by omega)
 have aa3:aJ S (fK g_ (ae aK (ae aK (bM sR (U (I 1) (U (I 0) (U (ae aK (I 2) (aa (.int 0))) ak)))) (aa (.int 0))) (aa (.int 0))) [.e,.v (.ref bn),.v (e9 a k)] ((b' a k).map bf)) ((b' a k).map λj=>.int (nD (hF ai j))):=
  yD bf (λj=>.int (nD (hF ai j))) (b' a k) λj _=>by
   obtain⟨pr,kp,w,aH,_⟩:=ab.1 j;rw[aH];exact de (x:=.v (cO pr)) rfl (de rfl (vQ aH cu rfl rfl rfl) (.of rfl)) (.of rfl)
 obtain⟨b,bs,BA⟩:∃b bs,((b' a k).map λj=>nD (hF ai j))=b::bs:=by
  cases e:(b' a k).map λj=>nD (hF ai j)with
  |nil=>have:=q_ (k:=k) aq;rw[List.map_eq_nil_iff.mp e]at this;cases this
  |cons b bs=>exact⟨b,bs,rfl⟩
 have ny:ux [.fr ((b' a k).map λj=>.int (nD (hF ai j)))]=pure (.v (.int (i0 b bs))):=by
  show(match nums ((b' a k).map λj=>D.int (nD (hF ai j)))with|some (b::bs)=>pure (R.v (.int (i0 b bs)))|_=>bad)=_;rw[DI,BA]
 have pW:=DA bs b;have all:∀j∈b' a k,nD (hF ai j)<=i0 b bs:=λj aW=>by
  have:nD (hF ai j)∈b::bs:=BA▸akg.mpr ⟨j,aW,rfl⟩;rcases aju.mp this with e|h
  .rw[e];exact pW.1
  .exact pW.2 _ h
 have b0:0<=b:=by
  have:b∈((b' a k).map λj=>nD (hF ai j)):=BA▸ajy;obtain⟨j,_,e⟩:=akg.mp this;obtain⟨pr,kp,w,aH,ai4,_⟩:=ab.1 j;rw[aH]at e;have e:pr.1=b:=e;omega
 have af:1<=1+i0 b bs:=by omega
 generalize bO:i0 b bs=m at *;obtain⟨A,kx⟩:=JY (xs:=[63,63,c / 6 % 64]) (i:=c % 3) (aoe _ (by decide)) (ank _ (by decide));obtain⟨B,UR⟩:=JY (xs:=[63,c / 384 % 64]) (i:=c / 3 % 2) (aoe _ (by decide)) (ank _ (by decide));obtain⟨gZ,aD,oK,jN,ao,bW,aY,b5,Dl⟩:=B3 (W:=W) (g:=g) (A:=A) af bn (.v (e9 a k)) (.v (.int g)) (.v (.int n)) (.v d.D) (.v (.int c)) (.v (.lst ((b' a k).map bf))) (.v (.int (1+m))) (.v (.int B)) .e (b' a k) ai [] .e .e S cu (ZO a k) (λ_ h=>sT h) ab (λj aW=>by have:=all j aW;omega) (λ_ h=>(nomatch h)) (by omega) (by show 0+_ < _;omega);have Dl:aD.length<=0+(b' a k).length:=Dl;obtain⟨t,xP,tok,OK⟩:=Hq (W:=W) iq aY;have Xi:vr [(aD.foldl dO ((0,0),hQ)).2,.int g,.int n,d.D]=pure (.v (gx t g n (some d)).D):=by rw[xP];exact KV tok (lD t OK) eR g aG dh hd
 have Y8:i9 P W (1+m,g) (gx t g n (some d)).D:=.inr ⟨af,_,rfl,Ie tok uB x3 n λx ag=>by cases ag;exact hd,L7 t tok OK⟩;have VY:=get_set (o':=.eY gZ) cu;obtain⟨lA,p8,az,bY,cv⟩:=x7 (W:=W) (g:=g) (A:=B) (b:=cO (aD.foldl dO ((0,0),hQ)).1) (n:=.int n) (dd:=d.D) af Y8 bn (.v (e9 a k)) (.v (.int g)) (.v (.int n)) (.v d.D) (.v (.int c)) (.v (.lst ((b' a k).map bf))) (.v (.int (1+m))) (.v (.int A)) (.c7 false (aD.map dg)) oK jN (b' a k) gZ .e _ VY (λ_ h=>sT h) bW (by omega);rw[List.set_set]at az;have yd:a5 (bM (nk 6) (U (ae aK (ae aK (I 1) (aa (.int 1))) (aa (.int 0))) (U (eX 1 [] (kH (I 10)) g_ (ae aK (I 0) (aa (.int 0)))) ak))) [.v (.ref bn),.v (e9 a k),.v (.int g),.v (.int n),.v d.D,.v (.int c),.v (.lst ((b' a k).map bf)),.v (.int (1+m)),.v (.int A),.v (.int B),.c7 false (aD.map dg),oK,jN,.e]=pure (a.fills λj=>(aD.map (·.k)).contains j):=
  Vb aq (by omega) rfl rfl rfl
 have pre:∀{Y':aR}{av:cA},bL (S.set bn (.eY gZ)) (GQ [.v (.ref bn),.v (e9 a k),.v (.int g),.v (.int n),.v d.D,.v (.int c),.v (.lst ((b' a k).map bf)),.v (.int (1+m)),.v (.int A),.v (.int B),.c7 false (aD.map dg),oK,jN,.e]) (.bo Y') av->bL S (y3 [.ref bn,e9 a k,.int g,.int n,d.D,.int c]) (.v .aQ) av:=λ{Y' av} q=>z' (Y':=Y') rfl (by
  show bL S (A2 [.v (.ref bn),.v (e9 a k),.v (.int g),.v (.int n),dp d.D,.v (.int c),.e,.e,.e,.e,.e,.e,.e,.e]) _ _;rw[cN];exact c4 (aJ.of (oJ (call_of rfl (De aq ax)) rfl)).to<|
   c4 (aJ.to (pL (de (r:=.v (.int (1+m))) rfl (.of rfl) (Kb ny (cY (yC (.of rfl) ahk aa3) fL))) rfl))<|
   c4 (aJ.of (fq (bz kx (q2 (cons_of rfl (cons_of rfl (cons_of (bz (fU (by decide)) (bz (hS (gw (by decide) (by decide))) rfl rfl) rfl) rfl))) rfl (ajO rfl)) (bz (fU (by decide)) rfl rfl)))).to<|
   c4 (aJ.of (fq (bz UR (q2 (cons_of rfl (cons_of (bz (fU (by decide)) (bz (hS (gw (by decide) (by decide))) rfl rfl) rfl) rfl)) rfl (ajO rfl)) (bz (fU (by decide)) (bz (hS (gw (by decide) (by decide))) rfl rfl) rfl)))).to<|
   c4 (aJ.of L3).to<|c4 (rH (CU (.of (call_of rfl (Zf aq ax g (1+m,g))))) ao) q)
 cases q:a.fills λj=>(aD.map (·.k)).contains j with
 |false=>
  rw[q]at yd;exact⟨gZ,pre (nM (aJ.of yd).to rfl),bW,by omega⟩
 |true=>
  rw[q]at yd;exact⟨lA,pre (mG (aJ.of yd).to (rH (CU (.of (call_of rfl (KW aq ax g (1+m,g) n cN Xi)))) az)),bY,by omega⟩
end
def or_eq(m n:Nat):s' (.v (bf m)) (.v (bf n))=pure (.v (bf (m ||| n))):=by
 rw[lB,lB,lB,<-D3];rfl
def b4.kept(a:b4)(k:Nat):b4:={ a with dT:=a.dT ||| maskOf [k] }
def b4.ends(a:b4)(o:D):b4:={ a with dY:="calm",dv:=o }
def b4.tP(a:b4)(mf:e')(ds:List D)(b:b4):Prop:=∀(S:cA)(i g:Nat),eA S i g a->∃av g',bL S (mf (.ref i::ds)) (.v .aQ) av/\ek S av i g g' b
section
variable{S S1 a6:cA}{Y Y':aR}{i g k:Nat}{a b c:b4}{f:Str}{d:D}{mv:bp}{r:R}{bd:bl}{a_:fX}
def abQ(h:eA S i g a)(b:b4)(ax:I k Y=pure (.v (.ref i)))(ev:aJ S (mv Y) r)(j2:r.dat=pure d)(e:iI f d (a.aZ g)=b.aZ g)(pv:b.aD=a.aD):fu S i g (eZ "Asker" f (I k) (da mv) Y) (.bo Y) b:=
 ⟨_,g,x_at ev.to j2 (.of ax) h.bC C2,⟨by rw[get_set h.bC,e],by rw[ajE h.ne,pv];exact h.ls⟩,.set (by simp),.inl rfl,by rw[akj];exact ajq _⟩
theorem I2{t:aR->M Bool}{m n:bl}(e:aJ S (t Y) true)(q:fu S i g (m Y) a_ c):fu S i g (eL (e_ t) m n Y) a_ c:=by
 obtain⟨a6,g2,t,s⟩:=q;exact⟨a6,g2,mG (aJ.to e) t,s⟩
theorem Ii{ms:hM}{rs:List R}(h:eA S i g a)(q:a.tP mf (rs.map R.arg) c)(ax:I k Y=pure (.v (.ref i)))(aG:(a.aZ g).lookup m=none)(ah:bL S (ms Y) rs S)(aC:rs.all R.i3=true):fu S i g (jr (fO "Asker" m mf (I k) ms) Y) (.bo Y) c:=by
 obtain⟨a6,g2,t,s⟩:=q _ _ _ h;exact⟨a6,g2,tH (tI h.bC (.of ax) aG ah aC t),s⟩
theorem VG{m:bl}(q:fu S i g (m Y) (.bo Y') b)(p:∀S1 g1,eA S1 i g1 b->fu S1 i g1 (bd Y') a_ c):fu S i g (bK m bd Y) a_ c:=by
 obtain⟨S1,g1,t1,s1⟩:=q;obtain⟨a6,g2,dC,s2⟩:=p S1 g1 s1.at';exact⟨a6,g2,c4 t1 dC,s1.trans s2⟩
theorem Ic{n N:Nat}{bd:bl}{ds:List D}(h:ds.length+1=n)(q:∀S i g,eA S i g a->∃Y',fu S i g (bd (.v (.ref i)::ds.map dp++akk (N-n) .e)) (.bo Y') c):a.tP (fnX n N bd) ds c:=λS i g dE=>by
 obtain⟨Y',a6,g2,t,s⟩:=q S i g dE;exact⟨a6,g2,z' h t,s⟩
end
def UZ{a:b4}(bg:dp o=.v o):a.tP sL [o] (a.ends o):=Ic rfl λS i g h=>by
 show ∃Y',fu S i g (AV [.v (.ref i),dp o]) (.bo Y') _;rw[bg];exact⟨_,lp h { a with dY:="calm" } rfl (.of rfl) rfl rfl rfl λS h=>abQ h (a.ends o) rfl (.of rfl) rfl rfl rfl⟩
def UY{a:b4}(hd:a.dd≠.aQ)(bO:dp a.et=.v a.et)(dX:q6 [a.et,.int a.me]=pure (.v (.tup [x,.int a.wi,ans]))):a.tP yV [] (a.ends (.tup [.str "did",ans])):=Ic rfl λS i g h=>
 ⟨[.v (.ref i),.v a.et,.v (.tup [x,.int a.wi,ans])],x8 (Y':=[.v (.ref i),.v a.et,.e]) (pL (r:=.v a.et) (dW h rfl rfl) rfl)<|
  I2 (dF (de (by rw[aai];revert hd;cases a.dd<;>first|exact λ_=>rfl|exact λh=>absurd rfl h) (dW (d:=a.dd) h rfl rfl) (.of rfl)))<|
  x8 (pL (r:=.v (.tup [x,.int a.wi,ans])) (gY (rs:=[.v a.et,.v (.int a.me)]) (cY (.of rfl) (cY (dW h rfl rfl) fL)) (.of dX)) rfl)<|
  I2 (dF (de (j1.trans (by rw[decide_eq_true rfl])) (.of rfl) (dW (d:=.int a.wi) h rfl rfl)))<|
  Ii (rs:=[.v (.tup [.str "did",ans])]) h (UZ rfl) rfl rfl (aJ.to (.of rfl)) rfl⟩
section
variable{a:b4}{ms:List Nat}{ey kz:Nat->Bool}(H:rM a.h ms ey kz){k:Nat}{me e:Int}{s:dq}(ax:k<6)
include H ax
theorem Km(h:eA S i g (a.kept k)):aJ S (g9 (a5 (bM (kL 12) (U (ae aK (bS (cQ "Asker" "hall") (I 0)) (aa (.int 1))) (U (bS (cQ "Asker" "kept_mask") (I 0)) ak)))) [.v (.ref i),.v (iF k me e s),s2]) (!kz (a.kept k).dT):=by
 obtain⟨x,y,uk,_,_,_,f2⟩:=H.ex;exact vc (dF (gY (cY (de (x:=.v (.tup [x,y])) (r:=.v y) rfl (dW h rfl (by show some a.h=_;rw[uk])) (.of rfl)) (cY (dW h rfl rfl) fL)) (.of (f2 _))))
theorem Kn(h:eA S i g a)(p:∀S1,eA S1 i g (a.kept k)->fu S1 i g (F_ [.v (.ref i),.v (iF k me e s),.e]) a_ c):fu S i g (AW [.v (.ref i),.v (iF k me e s),.e]) a_ c:=
 lp h (a.kept k) rfl (de (or_eq a.dT (maskOf [k])) (dW h rfl rfl) (gY (rs:=[.fr [bf k]]) (.of (cons_of (q2 (cons_of (bz rfl rfl rfl) rfl) rfl (ajO rfl)) rfl)) (.of (Dy [k] λj aW=>by rw[ajH.mp aW];omega)))) rfl rfl rfl p
theorem Xo(q:kz (a.kept k).dT=false):a.Do vk [iF k me e s] [] (a.kept k):=ku rfl λS i g h=>
 Kn H ax h λS h=>B5 h (by have:=Km (me:=me) (e:=e) (s:=s) (s2:=.e) H ax h;rw[q]at this;exact this) (.of rfl)
theorem Xn{c:b4}(q:kz (a.kept k).dT=true)(uo:(a.kept k).tP yV [] c)(aC:q9 [c.et]=pure (.v .aQ)):a.Do vk [iF k me e s] [] c:=ku rfl λS i g h=>
 Kn H ax h λS h=>iR (by have:=Km (me:=me) (e:=e) (s:=s) (s2:=.e) H ax h;rw[q]at this;exact this)<|
 VG (Y':=[.v (.ref i),.v (iF k me e s),.e]) (Ii (rs:=[]) h uo rfl rfl rfl rfl) λS g h=>
 x8 (pL (r:=.v .aQ) (gY (cY (dW h rfl rfl) fL) (.of aC)) rfl)<|B5 h (dF (.of rfl)) (.of rfl)
end
def zj:ajK "kept"=true:=by decide +kernel
def Kv:oEq (.v (.str "kept")) (.v (.str "late"))=pure (.v (.aE false)):=by rw[gn zj tf];rfl
def Kt:oEq (.v (.str "kept")) (.v (.str "grant"))=pure (.v (.aE false)):=by rw[gn zj td];rfl
def C1:oEq (.v (.str "kept")) (.v (.str "kept"))=pure (.v (.aE true)):=by rw[gn zj zj,beq_self_eq_true]
section
variable{a:b4}{ms:List Nat}{ey kz:Nat->Bool}(H:rM a.h ms ey kz)(aC:a.mV){k:Nat}{e:Int}{s:dq}
include H aC
theorem Jr(q:a.now ms k e s=true)(c:a.dY="telling"){t:b4}(g:a.Do vk [iF k a.me e s] σ t):a.Do iY [iF k a.me e s] σ t:=ku rfl λS i j h=>
 iR (vP h (.str "kept") (.tup []) k e s)<|m7 (dF (de Kv (.of rfl) (.of rfl)))<|
 iR (by have:=zc H h (.str "kept") (.tup []) k a.me e s;rw[q]at this;exact this)<|
 m7 (pK (dF (de Kt (.of rfl) (.of rfl))))<|
 B4 (nf (dF (de C1 (.of rfl) (.of rfl))) (dF (de (by rw[gn (tr aC) D0,c,beq_self_eq_true]) (dW h rfl rfl) (.of rfl))))<|
 uI (rs:=[.v (iF k a.me e s)]) h g rfl rfl (aJ.to (.of rfl)) rfl
theorem Xp(q:a.now ms k e s=true)(c:a.dY≠"telling"):a.Do iY [iF k a.me e s] [] a:=ku rfl λS i j h=>
 iR (vP h (.str "kept") (.tup []) k e s)<|m7 (dF (de Kv (.of rfl) (.of rfl)))<|
 iR (by have:=zc H h (.str "kept") (.tup []) k a.me e s;rw[q]at this;exact this)<|
 m7 (pK (dF (de Kt (.of rfl) (.of rfl))))<|
 m7 (nf (dF (de C1 (.of rfl) (.of rfl))) (dF (de (by rw[gn (tr aC) D0,show(a.dY == "telling")=false by simpa using c]) (dW h rfl rfl) (.of rfl))))<|
 uH h (.of rfl)
end
structure h9 where
 me:Int
 pl:D
 aV:Int
 fB:Int
 dd:D
 q:Nat
def h9.L(n:h9)(b:Nat):List (Key×D):=[(.inr "me",.int n.me),(.inr "place",n.pl),(.inr "books",.ref b),(.inr "number",.int n.aV),(.inr "turn",.int n.fB),(.inr "deed",n.dd),(.inr "grants",.ref n.q)]
abbrev h_:=List (List Key×D)
structure e0(S:cA)(i g w r b:Nat)(A:b4)(n:h9)(aD:List cJ)(ai:h_):Prop where
 eF:eA S i g A
 f6:S[w]? = some (.f6 (n.L b))
 ls:S[r]? = some (.lst (aD.map dg))
 cG:S[b]? = some (.eY ai)
 ne:g≠r
structure hx(S av:cA)(i g w r b g':Nat)(A:b4)(n:h9)(aD:List cJ)(ai:h_):Prop where
 at':e0 av i g' w r b A n aD ai
 fr:Fr [i,g,w,r,b] S av
 nw:g'=g\/S.length<=g'
 len:S.length<=av.length
def gO(S:cA)(i g w r b:Nat)(m:N fX)(a_:fX)(A:b4)(n:h9)(aD:List cJ)(ai:h_):Prop:=∃av g',bL S m a_ av/\hx S av i g w r b g' A n aD ai
section
variable{S S1 a6:cA}{Y Y':aR}{i g w r b g1 g2 k:Nat}{A fW oV:b4}{n ep di:h9}{aD gU x9:List cJ}{ai gZ lA:h_}{f:Str}{d:D}{mv:bp}{x:R}{bd:bl}{a_:fX}
def hx.refl(h:e0 S i g w r b A n aD ai):hx S S i g w r b g A n aD ai:=⟨h,.refl,.inl rfl,ajq _⟩
def hx.trans(h:hx S S1 i g w r b g1 fW ep gU gZ)(ah:hx S1 a6 i g1 w r b g2 oV di x9 lA):hx S a6 i g w r b g2 oV di x9 lA:=by
 have l:=h.len;have nw:=h.nw;have aiY:=ah.nw;refine⟨ah.at',λj o aW e=>ah.fr j o ?_ (h.fr j o aW e),by omega,akq h.len ah.len⟩;have:=vh e;simp only[aju,akU,or_false,not_or]at aW ⊢;omega
theorem e0.other(h:e0 S i g w r b A n aD ai):(w≠i/\w≠g/\w≠r/\w≠b)/\(r≠i/\r≠b)/\b≠i/\b≠g:=by
 have ne:∀{x y:Nat}{o o':hL},S[x]? = some o->S[y]? = some o'->o≠o'->x≠y:=λaf ah n e=>n (by rw[e,ah]at af;exact(ajT af).symm)
 exact⟨⟨ne h.f6 h.eF.bC (λz=>nomatch z),ne h.f6 h.eF.ls (λz=>nomatch z),ne h.f6 h.ls (λz=>nomatch z),ne h.f6 h.cG (λz=>nomatch z)⟩,⟨ne h.ls h.eF.bC (λz=>nomatch z),ne h.ls h.cG (λz=>nomatch z)⟩,ne h.cG h.eF.bC (λz=>nomatch z),ne h.cG h.eF.ls (λz=>nomatch z)⟩
def e0.step(h:e0 S i g w r b A n aD ai)(s:ek S S1 i g g1 fW):hx S S1 i g w r b g1 fW n aD ai:=by
 obtain⟨⟨iJ,dj,rC,wA⟩,⟨bB,b_⟩,bW,bY⟩:=h.other;have:=h.ne;have aiV:=vh h.ls;have nw:=s.nw;exact⟨⟨s.at',s.fr _ _ (by simp[iJ,dj]) h.f6,s.fr _ _ (by simp[bB,this.symm]) h.ls,s.fr _ _ (by simp[bW,bY]) h.cG,by omega⟩,λj o aW e=>s.fr j o (λz=>aW (by simp only[aju,akU,or_false]at z ⊢;omega)) e,nw,s.len⟩
def e0.D6(h:e0 S i g w r b A n aD ai)(cC:h_):hx S (S.set b (.eY cC)) i g w r b g A n aD cC:=by
 obtain⟨⟨iJ,dj,rC,wA⟩,⟨bB,b_⟩,bW,bY⟩:=h.other;refine⟨⟨⟨?_,?_⟩,?_,?_,get_set h.cG,h.ne⟩,.set (by simp),.inl rfl,by rw[akj];exact ajq _⟩
 .rw[ajE bW];exact h.eF.bC
 .rw[ajE bY];exact h.eF.ls
 .rw[ajE wA.symm];exact h.f6
 .rw[ajE b_.symm];exact h.ls
def iG(h:e0 S i g w r b A n aD ai)(ax:I k Y=pure (.v (.ref w)))(e:ig (n.L b) (.inr f)=some d):aJ S (ae er (I k) (aa (.str f)) Y) (.v d):=YM h.f6 (.of ax) (.of rfl) rfl e
def Zv:(n.L b).length<1000:=by show 7<1000;omega
theorem Mv{a:bl}(h:gO S i g w r b (a Y) (.bo Y') fW ep gU gZ)(ah:∀S1 g1,e0 S1 i g1 w r b fW ep gU gZ->gO S1 i g1 w r b (bd Y') a_ oV di x9 lA):gO S i g w r b (bK a bd Y) a_ oV di x9 lA:=by
 obtain⟨S1,g1,t,s⟩:=h;obtain⟨a6,g2,dC,s2⟩:=ah S1 g1 s.at';exact⟨a6,g2,c4 t dC,s.trans s2⟩
def En{m:a3}(h:e0 S i g w r b A n aD ai)(e:aJ S (m Y) a_):gO S i g w r b (b9 m Y) a_ A n aD ai:=⟨S,g,e,.refl h⟩
theorem zB{t:aR->M Bool}{a c:bl}(e:aJ S (t Y) true)(h:gO S i g w r b (a Y) a_ A n aD ai):gO S i g w r b (eL (e_ t) a c Y) a_ A n aD ai:=by
 obtain⟨S1,g1,t,s⟩:=h;exact⟨S1,g1,mG (aJ.to e) t,s⟩
theorem zA{t:aR->M Bool}{a c:bl}(e:aJ S (t Y) false)(h:gO S i g w r b (c Y) a_ A n aD ai):gO S i g w r b (eL (e_ t) a c Y) a_ A n aD ai:=by
 obtain⟨S1,g1,t,s⟩:=h;exact⟨S1,g1,nM (aJ.to e) t,s⟩
def zC(h:e0 S i g w r b A n aD ai)(gk:h9)(ax:I k Y=pure (.v (.ref w)))(ev:aJ S (mv Y) x)(j2:x.dat=pure d)(e:fm (n.L b) (.inr f) d=gk.L b):gO S i g w r b (nK (I k) (aa (.str f)) (da mv) Y) (.bo Y) A gk aD ai:=by
 obtain⟨⟨iJ,dj,rC,wA⟩,⟨bB,b_⟩,bW,bY⟩:=h.other;refine⟨_,g,agg ev.to j2 (.of ax) (.of rfl) h.f6 rfl Zv,⟨⟨?_,?_⟩,?_,?_,?_,h.ne⟩,.set (by simp),.inl rfl,by rw[akj];exact ajq _⟩
 .rw[ajE iJ];exact h.eF.bC
 .rw[ajE dj];exact h.eF.ls
 .rw[get_set h.f6,e]
 .rw[ajE rC];exact h.ls
 .rw[ajE wA];exact h.cG
def ab6{ms:cV}(h:e0 S i g w r b A n aD ai)(ax:I k Y=pure (.v (.ref r)))(ev:aJ S (ms Y) [.v (dg y)])(z:aD.length<1000):gO S i g w r b (qi hH (I k) ms Y) (.bo Y) A n (aD++[y]) ai:=by
 obtain⟨⟨iJ,dj,rC,wA⟩,⟨bB,b_⟩,bW,bY⟩:=h.other;have ne:=h.ne;refine⟨_,g,Pa (.of ax) ev h.ls (by rw[ajm];exact eS (by omega)),⟨⟨?_,?_⟩,?_,?_,?_,ne⟩,.set (by simp),.inl rfl,by rw[akj];exact ajq _⟩
 .rw[ajE bB];exact h.eF.bC
 .rw[ajE ne.symm];exact h.eF.ls
 .rw[ajE rC.symm];exact h.f6
 .rw[get_set h.ls,akd];rfl
 .rw[ajE b_];exact h.cG
end
def fF(me aV:Int)(t:c8):Prop:=t.cb=.aQ/\t.last me<=aV
def fF.mono{me aV LN:Int}{t:c8}(h:fF me aV t)(au:aV<=LN):fF me LN t:=⟨h.1,by have:=h.2;omega⟩
def L5{me aV:Int}(h:0<=aV):fF me aV t7:=⟨rfl,h⟩
def i9.mono{P kn:c8->Prop}(h:i9 P W s w)(aH:∀t,P t->kn t):i9 kn W s w:=h.imp id λ⟨a,t,e,o,p⟩=>⟨a,t,e,o,aH t p⟩
def fP.mono{P kn:c8->Prop}(h:fP P W ai)(aH:∀t,P t->kn t):fP kn W ai:=⟨λk=>by
 obtain⟨pr,kp,w,e,h0,ax⟩:=h.1 k;exact⟨pr,kp,w,e,h0,ax.mono aH⟩,h.2⟩
section
variable{G:D->Prop}{W:List (List Nat)}{t:c8}(ok:gr G W t){me aV:Int}{d:fD}(dh:eN d)
include ok
theorem KR(i n j:Int):(gx t i n (some d)).last j=if(vI t.cb=true/\t.last i<n)/\j=i then n else t.last j:=by
 unfold gx;dsimp only
 by_cases c:vI t.cb=true/\t.last i<n
 .rw[if_pos c]
  unfold c8.last;rw[Vw (Q:=iz) _ ok.lX.nodup]
  by_cases e:j=i
  .rw[if_pos e,if_pos ⟨c,e⟩];rfl
  .rw[if_neg e,if_neg (λz=>e z.2)]
 .rw[if_neg c,if_neg λz=>c z.1]
include dh
theorem aa2{g:Int}(aY:g≠me)(n:Int)(h:fF me aV t):fF me aV (gx t g n (some d)):=
 ⟨Ig h.1 g n dh,by rw[KR ok,if_neg λz=>aY z.2.symm];exact h.2⟩
theorem aa1(h:fF me aV t):fF me aV (gx t me aV (some d))/\(gx t me aV (some d)).last me=aV:=by
 have e:(gx t me aV (some d)).last me=aV:=by
  rw[KR ok,h.1]
  by_cases c:t.last me<aV
  .rw[if_pos ⟨⟨rfl,c⟩,rfl⟩]
  .rw[if_neg λz=>c z.1.2];have:=h.2;omega
 exact⟨⟨Ig h.1 me aV dh,by rw[e];exact ami _⟩,e⟩
end
def Zb{G:D->Prop}{t:c8}(ok:gr G W t){me aV:Int}(af:1<=aV)(h:t.last me=aV):∃z,(me,.tup [.int me,.int aV,z])∈t.ds:=by
 unfold c8.last at h
 cases e:e8 (Q:=iz) t.ds me with
 |none=>rw[e]at h;have h:(0:Int)=aV:=h;omega|some d=>
  have hm:=uF e;obtain⟨n,z,az⟩:=ok.num _ hm;have az:d=.tup [.int me,.int n,z]:=az;rw[e,az]at h;have h:n=aV:=h;rw[az,h]at hm;exact⟨z,hm⟩
def UI{G:D->Prop}{t:c8}(ok:gr G W t){me:Int}(h:(me,d)∈t.ds):q6 [t.D,.int me]=pure (.v d):=by
 have e:=Bv (λx ag=>(ok.num x ag).xG) (.tup (t.cs.map (·.2))) (.tup [.int t.f,t.t]) t.cb me;have aY:e8 (Q:=fM.κ.toKeyOrd) t.ds me=some d:=uE (Q:=iz) ok.lX.nodup h;rw[aY]at e;exact e
end e3
namespace e3
open PySem PySem.Spec aF a0 ju hu lO
open Classical in
def sI(c:Int)(k:Nat):Bool:=if h:k<6 then decide (c / (Ed h).choose % 2=1)else false
def K5(c:Int):∃bc:List Nat,q8 [.int c]=pure (.v (.lst (bc.map bf))):=by
 have t:∀k:Nat,k<6->a5 (ae oEq (ae oMod (ae dZ (I 1) (ae aK (dS (U (aa (.int 1)) (U (aa (.int 2)) (U (aa (.int 4)) (U (aa (.int 8)) (U (aa (.int 16)) (U (aa (.int 32)) ak))))))) (I 0))) (aa (.int 2))) (aa (.int 1))) [.v (bf k),.v (.int c)]=pure (sI c k):=λk ax=>by
  obtain⟨af,ah⟩:=(Ed ax).choose_spec;refine(c0 (bz j1 (bz (fU (by decide)) (bz (hS (a:=c) af) rfl (bz ah (q2 rfl rfl (ajO rfl)) rfl)) rfl) rfl)).trans ?_;unfold sI;rw[dif_pos ax]
 have j8:fK (a5 (ae oEq (ae oMod (ae dZ (I 1) (ae aK (dS (U (aa (.int 1)) (U (aa (.int 2)) (U (aa (.int 4)) (U (aa (.int 8)) (U (aa (.int 16)) (U (aa (.int 32)) ak))))))) (I 0))) (aa (.int 2))) (aa (.int 1)))) (I 0) [.e,.v (.int c)] ((ajI 6).map bf)=pure (((ajI 6).filter (sI c)).map bf):=la bf (sI c) bf _ (λk ax=>t k (akt.mp ax)) λk _ _=>rfl
 have s1:b7 1 (eX 1 [0] (iE (U (aa (.int 6)) ak)) (a5 (ae oEq (ae oMod (ae dZ (I 1) (ae aK (dS (U (aa (.int 1)) (U (aa (.int 2)) (U (aa (.int 4)) (U (aa (.int 8)) (U (aa (.int 16)) (U (aa (.int 32)) ak))))))) (I 0))) (aa (.int 2))) (aa (.int 1)))) (I 0)) [.v (.int c),.e]=pure (.bo [.v (.int c),.v (.lst (((ajI 6).filter (sI c)).map bf))]):=oJ (pj (ds:=(ajI 6).map bf) rfl (by rw[ajm];exact eS (by decide)) j8) rfl;generalize((ajI 6).filter (sI c))=bc at s1
 by_cases q:c / 64 % 3 > 0
 .exact⟨[0,1,2,3,4,5],j3 rfl ((ef s1).trans ((ef ((kI (c0 (bz (x_.trans (by rw[decide_eq_true q])) (bz (fU (by decide)) (bz (hS (gw (by decide) (by decide))) rfl rfl) rfl) rfl))).trans (oJ (q2 rfl rfl (ajO rfl)) rfl))).trans rfl))⟩
 .exact⟨bc,j3 rfl ((ef s1).trans ((ef (nd (c0 (bz (x_.trans (by rw[decide_eq_false q])) (bz (fU (by decide)) (bz (hS (gw (by decide) (by decide))) rfl rfl) rfl) rfl)))).trans rfl))⟩
end e3
namespace e3
open PySem PySem.Spec aF a0 ju hu lO
def adO:Bool->Str
 |true=>"telling"|false=>"asking"
def gd(me:Int)(h dd:D)(bh:Int)(st:dq)(aD:List cJ)(h4:Bool)(dT:Nat)(et:D)(wi:Int):b4:=⟨me,0,h,hQ,false,bh,st,wi,dd,adO h4,.aQ,aD,dT,et⟩
def EG(r:aO):dp (enc r)=.v (enc r):=by cases r;rw[sa];rfl;rw[qB];rfl
def Ca{a k:aO}(aq:Good a)(ax:Good k):rM (dm a k) (b' a k) (λm=>a.fills (gS m)) (λm=>k.fills (gS m)) where
 mem:=DC aq ax
 len:=nu a k
 lt:=λ_ h=>sT h
 ne:=λz=>by have:=q_ (k:=k) aq;rw[z]at this;cases this
 ex:=⟨enc a,enc k,rfl,EG a,EG k,λm=>BO m 12 a (by have:=aq.2.1;omega) aq.1,λm=>BO m 12 k (by have:=ax.2.1;omega) ax.1⟩
def Hw{bc:List Nat}(ax:∀k∈bc,k<6)(aW:j<6):gS (maskOf bc) j=bc.contains j:=by
 rw[y8 bc ax];exact Lx _ j aW
def Iw{a:aO}(aq:a.wf){bc:List Nat}(ax:∀k∈bc,k<6):a.fills (gS (maskOf bc))=a.fills λi=>bc.contains i:=Iv a λi aA=>Hw ax (sV a aq i aA)
def PQ(a k:aO)(me:Int)(st:dq)(aV:Int)(d:fD)(aD:List cJ)(t:c8):List D:=(b' a k).map (dK me 0 st (.tup [cO (aD.foldl dO ((0,0),hQ)).1,.int aV,d.D,(gx t me aV (some d)).D]))
structure o9(a k:aO)(W:List (List Nat))(me aV:Int)(d:fD)(st:dq)(A:b4)(tells:List D)(aD:List cJ)(ai:h_):Prop where
 cG:fP (fF me aV) W ai
 ll:∀x∈aD,i9 (fF me aV) W x.s x.w/\x.k<6
 nC:∀x∈aD,∃kp w,hF ai x.k=g4 st kp w
 mu:(∃bh dT et,A=gd me (dm a k) d.D bh st aD false dT et aV/\st.1<=bh/\tells=[])\/∃bh t,A=gd me (dm a k) d.D bh st aD true 0 (gx t me aV (some d)).D aV/\st.1<=bh/\(aD.foldl dO ((0,0),hQ)).2=t.D/\gr (λ_=>False) W t/\fF me aV t/\tells=PQ a k me st aV d aD t
def Zq:oEq (.v (.str "late")) (.v (.str "grant"))=pure (.v (.aE false)):=by rw[gn tf td];rfl
def P5:bl:=(eL (e_ (h3 (a5 (ae oEq (ae aK (I 9) (aa (.int 0))) (aa (.str "grant")))) (a5 (ae oEq (cH f7 (U (I 5) ak)) (aa (.int 0)))))) (qi hH (I 6) (U (bD (U (ae aK (I 9) (aa (.int 1))) (U (ae aK (ae aK (I 9) (aa (.int 5))) (aa (.int 0))) (U (ae aK (ae aK (I 9) (aa (.int 5))) (aa (.int 1))) ak)))) ak)) (b9 cq))
def FQ:bl:=(hr 5 (oS iH (da (I 5)) (fO "Asker" "hear" iY (I 0) (eU (U (I 9) ak)))))
def AL:bl:=(bK (hr 9 (iw mm (eU (U (ae er (I 1) (aa (.str "books"))) (U (I 8) ak))))) (bK P5 FQ))
def agd{f:R->R->M R}{a b:ed}{x y r:R}(af:bL S (a Y) x S1)(ah:bL S1 (b Y) y a6)(aC:x.i3=true)(e:f x y=pure r):bL S (oS f a b Y) r a6:=af.bind (ah.bind (by rw[if_pos aC];exact(aJ.of e).to))
def Em{i g w r b:Nat}{aD:List cJ}{s2 s3 s4 s6 s7 s8:Slot}{T σ:List D}(h:e0 S i g w r b A n aD ai)(p:A.Do iY [ans] σ fW)(z:T.length+σ.length<=1000) :
  gO S i g w r b (FQ [.v (.ref i),.v (.ref w),s2,s3,s4,.v (.lst T),s6,s7,s8,.v ans]) (.bo [.v (.ref i),.v (.ref w),s2,s3,s4,.v (.lst (T++σ)),s6,s7,s8,.v ans]) fW n aD ai:=by
 obtain⟨a6,g2,t,s⟩:=p _ _ _ h.eF;have e:bL S (fO "Asker" "hear" iY (I 0) (eU (U (I 9) ak)) [.v (.ref i),.v (.ref w),s2,s3,s4,.v (.lst T),s6,s7,s8,.v ans]) (.fr σ) a6:=tI h.eF.bC (.of rfl) rfl (rs:=[.v ans]) (aJ.to (.of rfl)) rfl t;exact⟨a6,g2,kZ (r:=.fr (T++σ)) (agd (aJ.to (.of (a:=R.v (.lst T)) rfl)) e rfl (xA (wd z))) rfl,h.step s⟩
def PW(s:dq):fQ s s=false:=by unfold fQ;simp
def K0(xs:List D):f7 [.v (.lst xs)]=pure (.v (.int (xs.length:Nat))):=rfl
section
variable{a k:aO}(aq:Good a)(ax:Good k){W:List (List Nat)}(eR:W.length<59){me aV:Int}(ep:1<=aV){d:fD}(dh:eN d)(hd:jU (λ_=>False) W d){st:dq}(s0:1<=st.1)
variable{A:b4}{tells:List D}{aD:List cJ}{ai:h_}(q:o9 a k W me aV d st A tells aD ai)(au:aD.length<50)(hz:ai.length<900)
include q
theorem o9.aeJ:tells.length<=6:=by
 rcases q.mu with⟨_,_,_,_,_,e⟩|⟨_,t,_,_,_,_,_,e⟩
 .rw[e];exact ajN _
 .rw[e];show(List.map _ _).length<=6;rw[ajm];exact nu a k
include aq ax eR ep dh hd s0 au hz
theorem P7(aW:j∈b' a k){i g w r b:Nat}(s2 s3 s4 s7 es:Slot)(h:e0 S i g w r b A n aD ai) :
  ∃dB jO gf cC ans,gO S i g w r b (AL [.v (.ref i),.v (.ref w),s2,s3,s4,.v (.lst tells),.v (.ref r),s7,.v (dR me 0 st j),es]) (.bo [.v (.ref i),.v (.ref w),s2,s3,s4,.v (.lst jO),.v (.ref r),s7,.v (dR me 0 st j),.v ans]) dB n gf cC/\o9 a k W me aV d st dB jO gf cC/\gf.length<=aD.length+1/\cC.length<=ai.length+1:=by
 obtain⟨pr,kp,v,aH,iq,Cs⟩:=q.cG.1 j;have H:=Ca aq ax;have mi:=sT aW;have ajb:=q.aeJ;have r1:∀{S:cA}{g:Nat}{aD:List cJ}{ai:h_}{A:b4},e0 S i g w r b A n aD ai->aJ S (U (ae er (I 1) (aa (.str "books"))) (U (I 8) ak) [.v (.ref i),.v (.ref w),s2,s3,s4,.v (.lst tells),.v (.ref r),s7,.v (dR me 0 st j),es]) [.v (.ref b),.v (dR me 0 st j)]:=λh=>cY (iG h rfl rfl) (.of rfl)
 have u9:(b' a k).contains j=true:=alb.mpr aW
 cases hO:fQ st pr with
 |false=>
  have dE:=Xq (me:=me) aH h.cG hO;have go:∀B:b4,A=B->B.me=me->gO S i g w r b (AL [.v (.ref i),.v (.ref w),s2,s3,s4,.v (.lst tells),.v (.ref r),s7,.v (dR me 0 st j),es]) (.bo [.v (.ref i),.v (.ref w),s2,s3,s4,.v (.lst tells),.v (.ref r),s7,.v (dR me 0 st j),.v (sG j me 0 st pr)]) (B.yM pr.1) n aD ai:=λB e em=>by
   subst e em;have aB:=Em (s2:=s2) (s3:=s3) (s4:=s4) (s6:=.v (.ref r)) (s7:=s7) (s8:=.v (dR A.me 0 st j)) (T:=tells) h (Ck (k:=j) (e:=0) (s:=st) pr) (by show _+0<=_;omega);rw[akv]at aB;obtain⟨S1,g1,t1,s1⟩:=aB;exact⟨S1,g1,c4 (kZ (x_call (r1 h) rfl dE) rfl) (c4 (nM (aJ.of (FN (c0 (bz Zq rfl rfl)))).to rfl) t1),s1⟩
  rcases q.mu with⟨bh,dT,et,kx,aB,e⟩|⟨bh,t,kx,aB,f1,f2,fw,e⟩
  .refine⟨_,tells,aD,ai,_,go _ kx rfl,⟨q.cG,q.ll,q.nC,.inl ⟨if pr.1 > bh then pr.1 else bh,dT,et,rfl,by split<;>omega,e⟩⟩,ak3 _,ak3 _⟩
  .refine⟨_,tells,aD,ai,_,go _ kx rfl,⟨q.cG,q.ll,q.nC,.inr ⟨if pr.1 > bh then pr.1 else bh,t,rfl,by split<;>omega,f1,f2,fw,e⟩⟩,ak3 _,ak3 _⟩
 |true=>
  have dE:=Js (me:=me) aH h.cG (by omega) hO;have dl:=xI ai (d8 j) (g4 st kp v);have A_:fP (fF me aV) W (fm ai (d8 j) (g4 st kp v)):=q.cG.put j mi (by omega) Cs;have Mf:∀x∈aD,∃yH eu,hF (fm ai (d8 j) (g4 st kp v)) x.k=g4 st yH eu:=λx ag=>by
   by_cases c:x.k=j
   .rw[c,D'];exact⟨_,_,rfl⟩
   .rw[D_ c];exact q.nC x ag
  have qS:=h.D6 (fm ai (d8 j) (g4 st kp v));rcases q.mu with⟨bh,dT,et,kx,aB,e⟩|⟨bh,t,kx,aB,f1,f2,fw,e⟩
  ·-- asking
   subst kx e;have aC:(gd me (dm a k) d.D bh st aD false dT et aV).mV:=.inr (.inl rfl);have nw:(gd me (dm a k) d.D bh st aD false dT et aV).now (b' a k) j 0 st=true:=by unfold b4.now;rw[u9];simp[gd]
   have u_:∀x∈aD.map (·.k),x<6:=λx ag=>by obtain⟨y,ba,rfl⟩:=akg.mp ag;exact(q.ll y ba).2
   have x3:∀x∈aD,x.k<6:=λx ag=>(q.ll x ag).2
   have S0:(aD.map (·.k)).contains j=false:=by
    cases c:(aD.map (·.k)).contains j with
    |false=>rfl|true=>
     obtain⟨x,ag,ex⟩:=akg.mp (alb.mp c);obtain⟨yH,eu,e⟩:=q.nC x ag;rw[ex,aH]at e;have ao:cO pr=cO st:=by injection e with e;injection e
     have az:pr=st:=by
      injection ao with ao;injection ao with ao cI;injection ao with ao;injection cI with cI;injection cI with cI
      exact Prod.ext ao cI
     rw[az,PW]at hO;cases hO
   have bm:=Hw u_ mi;rw[S0]at bm;have yg:∀x∈aD++[cJ.mk j kp v],i9 (fF me aV) W x.s x.w/\x.k<6:=λx ag=>by
    rcases aj2.mp ag with ag|ag
    .exact q.ll x ag
    .rw[ajH.mp ag];exact⟨Cs,mi⟩
   have Mg:∀x∈aD++[cJ.mk j kp v],∃yH eu,hF (fm ai (d8 j) (g4 st kp v)) x.k=g4 st yH eu:=λx ag=>by
    rcases aj2.mp ag with ag|ag
    .exact Mf x ag
    .rw[ajH.mp ag];exact⟨_,_,D' _ _ _⟩
   have YC:∀x∈(aD++[cJ.mk j kp v]).map (·.k),x<6:=λx ag=>by obtain⟨y,h',rfl⟩:=akg.mp ag;exact(yg y h').2
   have n3:=Iw aq.1 YC;have jI:(aD++[cJ.mk j kp v]).length<=aD.length+1:=by rw[ajz];exact ajq _
   have fin:∀{fW:b4}{σ:List D},(gd me (dm a k) d.D bh st aD false dT et aV).Do iY [j4 j me 0 st kp v] σ fW->σ.length<=6->gO S i g w r b (AL [.v (.ref i),.v (.ref w),s2,s3,s4,.v (.lst []),.v (.ref r),s7,.v (dR me 0 st j),es]) (.bo [.v (.ref i),.v (.ref w),s2,s3,s4,.v (.lst σ),.v (.ref r),s7,.v (dR me 0 st j),.v (j4 j me 0 st kp v)]) fW n (aD++[cJ.mk j kp v]) (fm ai (d8 j) (g4 st kp v)):=λ{fW σ} p Jc=>by
    have ap:=ab6 (Y:=[.v (.ref i),.v (.ref w),s2,s3,s4,.v (.lst []),.v (.ref r),s7,.v (dR me 0 st j),.v (j4 j me 0 st kp v)]) (k:=6) (y:=cJ.mk j kp v) (ms:=U (bD (U (ae aK (I 9) (aa (.int 1))) (U (ae aK (ae aK (I 9) (aa (.int 5))) (aa (.int 0))) (U (ae aK (ae aK (I 9) (aa (.int 5))) (aa (.int 1))) ak)))) ak) qS.at' rfl (cY (.of rfl) fL) (by omega);obtain⟨S1,g1,t1,s1⟩:=ap;obtain⟨a6,g2,dC,wa⟩:=Em (s2:=s2) (s3:=s3) (s4:=s4) (s6:=.v (.ref r)) (s7:=s7) (s8:=.v (dR me 0 st j)) (T:=[]) s1.at' p (by show 0+_<=_;omega);exact⟨a6,g2,c4 (kZ (x_call (r1 h) rfl dE) rfl) (c4 (mG (aJ.of ((AH (c0 (bz x6 rfl rfl))).trans (c0 rfl))).to t1) dC),(qS.trans s1).trans wa⟩
   cases f:a.fills λi=>((aD++[cJ.mk j kp v]).map (·.k)).contains i with
   |false=>
    rw[f]at n3;exact⟨_,[],_,_,_,fin (Jq H aC nw rfl (Xk (a:=gd me (dm a k) d.D bh st aD false dT et aV) H x3 (by show aD.length<60;omega) mi bm n3)) (ajN _),⟨A_,yg,Mg,.inl ⟨bh,dT,et,rfl,aB,rfl⟩⟩,jI,dl⟩
   |true=>
    rw[f]at n3;have Jv:∀x∈aD++[cJ.mk j kp v],i9 (fF me aV) W x.s x.w:=λx ag=>(yg x ag).1
    obtain⟨t,xP,tok,hp⟩:=Hq (L5 (by omega)) Jv;have Bu:d.D≠.aQ:=by rcases dh with⟨a,m,rfl⟩|⟨a,m,rfl⟩<;>exact λz=>by cases z
    have Bw:∀x,some d=some x->jU (λ_=>False) W x:=λx ag=>by cases ag;exact hd
    have c1:=UK tok (by omega) me aV Bw;obtain⟨p,ps,cM⟩:∃p ps,aD++[cJ.mk j kp v]=p::ps:=by cases aD with|nil=>exact⟨_,_,rfl⟩|cons p ps=>exact⟨_,_,rfl⟩
    have aA:=Sf (W:=W) (p:=p) (ps:=ps) (by rw[<-cM];exact Jv) hQ;rw[<-cM]at aA;have go:=VF (a:=(gd me (dm a k) d.D bh st aD false dT et aV).got j kp v) (ms:=b' a k) (s:=((aD++[cJ.mk j kp v]).foldl dO ((0,0),hQ)).1) (w:=t.D) H.mem H.len Bu (t:=(gx t me aV (some d)).D) c1;rw[<-xP,<-aA]at go;refine⟨_,_,_,_,_,fin (Jq H aC nw rfl (Xm (a:=gd me (dm a k) d.D bh st aD false dT et aV) H x3 (by show aD.length<60;omega) mi cM rfl bm n3 go)) (by rw[ajm];exact nu a k),⟨A_,yg,Mg,.inr ⟨bh,t,rfl,aB,xP,tok,hp,rfl⟩⟩,jI,dl⟩
  ·-- telling
   subst kx;have aC:(gd me (dm a k) d.D bh st aD true 0 (gx t me aV (some d)).D aV).mV:=.inr (.inr rfl);have nw:(gd me (dm a k) d.D bh st aD true 0 (gx t me aV (some d)).D aV).now (b' a k) j 0 st=true:=by unfold b4.now;rw[u9];simp[gd]
   have hp:=q_ (k:=k) aq;have ft:tells.length≠0:=by rw[e];show(List.map _ _).length≠0;rw[ajm];omega
   have JH:=Em (s2:=s2) (s3:=s3) (s4:=s4) (s6:=.v (.ref r)) (s7:=s7) (s8:=.v (dR me 0 st j)) (T:=tells) qS.at' (Xl (kp:=kp) (w:=v) H aC nw (show ¬("telling":Str)="asking" by decide)) (by show _+0<=_;omega);rw[akv]at JH;obtain⟨S1,g1,t1,s1⟩:=JH;refine⟨_,tells,aD,_,_,⟨S1,g1,c4 (kZ (x_call (r1 h) rfl dE) rfl) (c4 (nM (aJ.of ((AH (c0 (bz x6 rfl rfl))).trans (c0 (bz (j1.trans (by rw[decide_eq_false (by omega)])) (iO (K0 _) rfl) rfl)))).to rfl) t1),qS.trans s1⟩,⟨A_,q.ll,Mf,.inr ⟨bh,t,rfl,aB,f1,f2,fw,e⟩⟩,ak3 _,dl⟩
end
def CR{i:Int}{v:D}(e:eP xs i=some v):aK (.bF xs) (.v (.int i))=pure (.v v):=by
 show(match eP xs i with|some d=>pure (R.v d)|none=>bad)=_;rw[e]
def zz{ms:cV}(e:ms Y=pure [.v (.int (z:Nat))])(h:z<1000):iE ms Y=pure (h1 0 z):=by
 have ff:(z:Int)<4611686018427387904:=by omega
 simp[e,ff]
def yN(xs:List D):f7 [.bF xs]=pure (.v (.int (xs.length:Nat))):=rfl
section
variable{b:Nat}
theorem OP{ls:List D}(aH:0<ls.length)(x:Int):∃l,eP ls (x % (ls.length:Nat))=some l/\l∈ls:=by
 have m:=mod_lt (a:=x) (b:=(ls.length:Nat)) (by omega);obtain⟨v,e⟩:=AO (xs:=ls) m.1 m.2;exact⟨v,e,AN e⟩
end
section
variable{a k:aO}(aq:Good a)(ax:Good k){W:List (List Nat)}(eR:W.length<59){me aV:Int}(ep:1<=aV){d:fD}(dh:eN d)(hd:jU (λ_=>False) W d){st:dq}(s0:1<=st.1)
include aq ax eR ep dh hd s0
theorem AM{i w r b:Nat}(bc:List Nat)(cb:Int):∀(is:List Int)(A:b4)(tells:List D)(aD:List cJ)(ai:h_)(s7 s8 es:Slot)(S:cA)(g:Nat),o9 a k W me aV d st A tells aD ai->e0 S i g w r b A n aD ai->aD.length+is.length<50->ai.length+is.length<900->
  ∃dB jO gf cC rk EC ke,gO S i g w r b (jR (λd Y=>KG (Y.set 7 (.v d))) (is.map D.int) [.v (.ref i),.v (.ref w),.bF ((b' a k).map (dR me 0 st)),.bF (bc.map bf),.v (.int cb),.v (.lst tells),.v (.ref r),s7,s8,es]) (.bo [.v (.ref i),.v (.ref w),.bF ((b' a k).map (dR me 0 st)),.bF (bc.map bf),.v (.int cb),.v (.lst jO),.v (.ref r),rk,EC,ke]) dB n gf cC/\o9 a k W me aV d st dB jO gf cC/\cC.length<=ai.length+is.length
 |[],A,tells,aD,ai,s7,s8,es,S,g,q,h,_,_=>⟨A,tells,aD,ai,s7,s8,es,⟨S,g,rfl,.refl h⟩,q,ajq _⟩
 |x::is,A,tells,aD,ai,s7,s8,es,S,g,q,h,b5,cv=>by
  rw[ajC]at b5 cv;have j8:=q_ (k:=k) aq;obtain⟨l,el,hm⟩:=OP (ls:=(b' a k).map (dR me 0 st)) (by rw[ajm];exact j8) (x+cb);obtain⟨j,aW,rfl⟩:=akg.mp hm;have zH:bL S (b9 (b7 8 (ae aK (I 2) (ae oMod (ae fN (I 7) (I 4)) (cH f7 (U (I 2) ak))))) [.v (.ref i),.v (.ref w),.bF ((b' a k).map (dR me 0 st)),.bF (bc.map bf),.v (.int cb),.v (.lst tells),.v (.ref r),.v (.int x),s8,es]) (.bo [.v (.ref i),.v (.ref w),.bF ((b' a k).map (dR me 0 st)),.bF (bc.map bf),.v (.int cb),.v (.lst tells),.v (.ref r),.v (.int x),.v (dR me 0 st j),es]) S:=
   (aJ.of (fq (bz (CR el) rfl (bz (fU (by rw[ajm];omega)) (bz rfl rfl rfl) (iO (yN _) rfl))))).to
  have oh:a5 (ae (jg false) (ae aK (I 8) (aa (.int 2))) (I 3)) [.v (.ref i),.v (.ref w),.bF ((b' a k).map (dR me 0 st)),.bF (bc.map bf),.v (.int cb),.v (.lst tells),.v (.ref r),.v (.int x),.v (dR me 0 st j),es]=pure (bc.contains j):=c0 (bz (JW j bc) rfl rfl)
  cases c:bc.contains j with
  |false=>
   rw[c]at oh;obtain⟨dB,jO,gf,cC,p9,p_,p',⟨a6,g2,dC,az⟩,fp,z⟩:=AM bc cb is A tells aD ai (.v (.int x)) (.v (dR me 0 st j)) es S g q h (by omega) (by omega);exact⟨dB,jO,gf,cC,p9,p_,p',⟨a6,g2,mH (c4 zH (nM (aJ.of oh).to rfl)) dC,az⟩,fp,by rw[ajC];omega⟩
  |true=>
   rw[c]at oh;obtain⟨fW,Az,gU,gZ,ans,⟨S1,g1,t1,ao⟩,bq,ff,ew⟩:=P7 aq ax eR ep dh hd s0 q (by omega) (by omega) aW (.bF ((b' a k).map (dR me 0 st))) (.bF (bc.map bf)) (.v (.int cb)) (.v (.int x)) es h;obtain⟨dB,jO,gf,cC,p9,p_,p',⟨a6,g2,dC,az⟩,fp,z⟩:=AM bc cb is fW Az gU gZ (.v (.int x)) (.v (dR me 0 st j)) (.v ans) S1 g1 bq ao.at' (by omega) (by omega);exact⟨dB,jO,gf,cC,p9,p_,p',⟨a6,g2,mH (c4 zH (mG (aJ.of oh).to t1)) dC,ao.trans az⟩,fp,by rw[ajC];omega⟩
theorem P6{ai:h_}(bc:List Nat)(cb:Int)(h:e0 S i g w kO b A n B6 ai)(q:o9 a k W me aV d st A [] [] ai)(hz:ai.length+6<900) :
  ∃av dB jO gf cC g' bP,bL S (y2 [.ref i,.ref w,.lst ((b' a k).map (dR me 0 st)),.lst (bc.map bf),.int cb]) (.v (.lst jO)) av/\e0 av i g' w bP b dB { n with q:=bP } gf cC/\o9 a k W me aV d st dB jO gf cC/\cC.length<=ai.length+6:=by
 have gA:=nu a k;have Dl:=vh h.eF.ls;have ap:∀{j:Nat}{o:hL},S[j]? = some o->(S++[hL.lst []])[j]? = some o:=λz=>Fr.app (W:=[]) _ _ (akU) z
 have af:e0 (S++[.lst []]) i g w S.length b A n [] ai:=⟨⟨ap h.eF.bC,ap h.eF.ls⟩,ap h.f6,IW,ap h.cG,by omega⟩;have j2:h1 0 (b' a k).length=((ajI (b' a k).length).map λj:Nat=>(0+(j:Int))).map D.int:=by unfold h1;rw[ak4];rfl
 obtain⟨dB,jO,gf,cC,p9,p_,p',⟨a6,g2,dC,az⟩,fp,z⟩:=AM aq ax eR ep dh hd s0 bc cb ((ajI (b' a k).length).map λj:Nat=>(0+(j:Int))) A [] [] ai .e .e .e _ g q af (by rw[ajm,akY];show 0+_ < _;omega) (by rw[ajm,akY];omega);rw[<-j2]at dC;rw[ajm,akY]at z;have pt:=zC (Y:=[.v (.ref i),.v (.ref w),.bF ((b' a k).map (dR me 0 st)),.bF (bc.map bf),.v (.int cb),.v (.lst jO),.v (.ref S.length),p9,p_,p']) (k:=1) (f:="grants") (mv:=I 6) (x:=.v (.ref S.length)) az.at' { n with q:=S.length } rfl (.of rfl) rfl rfl;obtain⟨cy,g3,t3,cI⟩:=pt;refine⟨cy,dB,jO,gf,cC,g3,S.length,qj rfl ?_,cI.at',fp,by omega⟩;exact c4 (Y':=[.v (.ref i),.v (.ref w),.bF ((b' a k).map (dR me 0 st)),.bF (bc.map bf),.v (.int cb),.v (.lst []),.e,.e,.e,.e]) (aJ.of (oJ (r:=.fr []) rfl rfl)).to<|
  c4 (Y':=[.v (.ref i),.v (.ref w),.bF ((b' a k).map (dR me 0 st)),.bF (bc.map bf),.v (.int cb),.v (.lst []),.v (.ref S.length),.e,.e,.e]) (kZ Fe rfl)<|
  c4 (rH (.of (zz (z:=(b' a k).length) (cons_of (iO (by rw[yN,ajm]) rfl) rfl) (by omega))) dC)<|c4 t3 rfl
end
theorem Kg{S:cA}{Y:aR}{α:Type}{t:aR->M Bool}{el:bp}(f:α->D)(p:α->Bool)(g:α->D):∀xs:List α,(∀x∈xs,aJ S (t (Y.set 0 (.v (f x)))) (p x))->(∀x∈xs,p x=true->aJ S (el (Y.set 0 (.v (f x)))) (.v (g x)))->aJ S (fK t el Y (xs.map f)) ((xs.filter p).map g)
 |[],_,_=>.of rfl|x::xs,af,ah=>by
  have a8:=Kg f p g xs (λy ba=>af y (ajv _ ba)) λy ba=>ah y (ajv _ ba)
  refine(af x (ajy ..)).bind ?_
  cases e:p x with
  |false=>rw[if_neg ajx,an8 (by rw[e];exact ajx)];exact a8|true=>
   rw[if_pos rfl,an9 e];exact(ah x (ajy ..) e).bind ((aJ.of (m:=R.dat (.v (g x))) rfl).bind (a8.bind (.of rfl)))
def t4(me:Int)(h dd:D)(bh:Int)(st:dq)(aD:List cJ)(dT:Nat)(et:D)(wi:Int)(z:D):b4:=(gd me h dd bh st aD true dT et wi).ends (.tup [.str "did",z])
def uy(k:aO)(ms:List Nat):Bool:=k.fills λi=>ms.contains i
structure iN(a k:aO)(W:List (List Nat))(me aV:Int)(d:fD)(st:dq)(aD:List cJ)(T:c8)(z:D)(A:b4)(ms:List Nat):Prop where
 ok:gr (λ_=>False) W T
 cb:T.cb=.aQ
 row:(me,.tup [.int me,.int aV,z])∈T.ds
 gA:∀j∈ms,j<6
 mu:(uy k ms=false/\∃bh,st.1<=bh/\A=gd me (dm a k) d.D bh st aD true (maskOf ms) T.D aV)\/uy k ms=true/\∃bh dT,st.1<=bh/\A=t4 me (dm a k) d.D bh st aD dT T.D aV z
def aaN(hm:∀i∈ms,i<6)(h:j∈ms):maskOf ms ||| maskOf [j]=maskOf ms:=by
 have ao:maskOf ms ||| maskOf [j]=maskOf (ms++[j]):=by rw[vw];show _ ||| (0 ||| 2 ^ j)=_;rw[Nat.zero_or]
 have uW:∀i∈ms++[j],i<6:=λi aA=>by
  rcases aj2.mp aA with aA|aA
  .exact hm i aA
  .rw[ajH.mp aA];exact hm j h
 rw[ao,y8 _ uW,y8 _ hm]
 congr 1
 funext i
 rw[List.contains_eq_mem,List.contains_eq_mem,decide_eq_decide,aj2,ajH];exact⟨λz=>z.elim id λz=>z▸h,.inl⟩
def aaO(ms:List Nat)(j:Nat):maskOf ms ||| maskOf [j]=maskOf (ms++[j]):=by rw[vw];show _ ||| (0 ||| 2 ^ j)=_;rw[Nat.zero_or]
section
variable{a k:aO}(aq:Good a)(ax:Good k){W:List (List Nat)}{me aV:Int}{d:fD}(dh:eN d){st:dq}{aD:List cJ}{T:c8}{z:D}{A:b4}{ms:List Nat}(q:iN a k W me aV d st aD T z A ms)
include q
theorem ae7(j:Nat)(p:dq):∃dB,A.Do iY [sG j me 0 st p] [] dB/\iN a k W me aV d st aD T z dB ms:=by
 rcases q.mu with⟨f,bh,aB,e⟩|⟨f,bh,dT,aB,e⟩
 .subst e
  exact⟨_,Ck (a:=gd me (dm a k) d.D bh st aD true (maskOf ms) T.D aV) p,q.ok,q.cb,q.row,q.gA,.inl ⟨f,if p.1 > bh then p.1 else bh,by split<;>omega,rfl⟩⟩
 .subst e
  exact⟨_,Ck (a:=t4 me (dm a k) d.D bh st aD dT T.D aV z) p,q.ok,q.cb,q.row,q.gA,.inr ⟨f,if p.1 > bh then p.1 else bh,dT,by split<;>omega,rfl⟩⟩
include aq ax dh
theorem OX(aW:j∈b' a k)(em:maskOf ms ||| maskOf [j]=maskOf d2)(hm:∀i∈d2,i<6)(sub:∀i∈ms,i∈d2):∃dB,A.Do iY [iF j me 0 st] [] dB/\iN a k W me aV d st aD T z dB d2:=by
 have H:=Ca aq ax;have mi:=sT aW;have u9:(b' a k).contains j=true:=alb.mpr aW;rcases q.mu with⟨f,bh,aB,e⟩|⟨f,bh,dT,aB,e⟩
 .subst e
  have aC:(gd me (dm a k) d.D bh st aD true (maskOf ms) T.D aV).mV:=.inr (.inr rfl);have nw:(gd me (dm a k) d.D bh st aD true (maskOf ms) T.D aV).now (b' a k) j 0 st=true:=by unfold b4.now;rw[u9];simp[gd]
  have fS:(gd me (dm a k) d.D bh st aD true (maskOf ms) T.D aV).kept j=gd me (dm a k) d.D bh st aD true (maskOf d2) T.D aV:=by unfold b4.kept gd;rw[<-em]
  have n3:k.fills (gS (maskOf d2))=uy k d2:=Iw ax.1 hm
  cases c:uy k d2 with
  |false=>
   rw[c]at n3;exact⟨_,Jr H aC nw rfl (Xo (a:=gd me (dm a k) d.D bh st aD true (maskOf ms) T.D aV) H mi (by rw[fS];exact n3)),q.ok,q.cb,q.row,hm,.inl ⟨c,bh,aB,fS⟩⟩
  |true=>
   rw[c]at n3;have Bu:d.D≠.aQ:=by rcases dh with⟨a,m,rfl⟩|⟨a,m,rfl⟩<;>exact λz=>by cases z
   have uo:=UY (a:=gd me (dm a k) d.D bh st aD true (maskOf d2) T.D aV) (x:=.int me) (ans:=z) Bu rfl (UI q.ok q.row);have shut:q9 [T.D]=pure (.v .aQ):=by
    have:=q.cb;refine j3 rfl (kQ ?_);unfold c8.D;rw[this];exact bz rfl rfl rfl
   exact⟨_,Jr H aC nw rfl (Xn (a:=gd me (dm a k) d.D bh st aD true (maskOf ms) T.D aV) H mi (by rw[fS];exact n3) (by rw[fS];exact uo) shut),q.ok,q.cb,q.row,hm,.inr ⟨c,bh,maskOf d2,aB,rfl⟩⟩
 .subst e
  have aC:(t4 me (dm a k) d.D bh st aD dT T.D aV z).mV:=.inl rfl;have nw:(t4 me (dm a k) d.D bh st aD dT T.D aV z).now (b' a k) j 0 st=true:=by unfold b4.now;rw[u9];simp[t4,gd,b4.ends]
  refine⟨_,Xp H aC nw (show ¬("calm":Str)="telling" by decide),q.ok,q.cb,q.row,hm,.inr ⟨?_,bh,dT,aB,rfl⟩⟩;exact Iy (λi aA=>alb.mpr (sub i (alb.mp aA))) k f
end
def aay(h:Ok (n+1) (.tup xs)):∀x∈xs,Ok n x:=λx ag=>
 ⟨x4.mp h.1 x ag,by have:=h.2;rw[show D.z4 (.tup xs)=(decide (xs.length<=1000)&&oR xs)from rfl,aj5]at this;exact z5.mp this.2 x ag⟩
def Kc{a b:bp}{r:R}(h:aJ S (a Y) (.v (.aE true)))(ah:aJ S (b Y) r):aJ S (k' a b Y) r:=h.bind ((aJ.of (m:=R.nI (.v (.aE true))) (a:=true) rfl).bind ah)
def aav:ajK "did"=true:=by decide +kernel
def acg{G:D->Prop}{T:c8}(ok:gr G W T){me aV:Int}(h:(me,.tup [.int me,.int aV,z])∈T.ds):∃rest,(T.ds.filter λx=>decide (x.1=me)&&decide (ka (some x.2)=aV)).map (·.2)=.tup [.int me,.int aV,z]::rest:=by
 have Jx:(me,D.tup [.int me,.int aV,z])∈T.ds.filter λx=>decide (x.1=me)&&decide (ka (some x.2)=aV):=akZ.mpr ⟨h,by simp[ka]⟩
 cases e:T.ds.filter λx=>decide (x.1=me)&&decide (ka (some x.2)=aV)with
 |nil=>rw[e]at Jx;cases Jx
 |cons y ys=>
  have ba:y∈T.ds.filter λx=>decide (x.1=me)&&decide (ka (some x.2)=aV):=by rw[e];exact ajy
  obtain⟨X3,JM⟩:=akZ.mp ba;have e7:y.1=me:=by simp at JM;exact JM.1
  have g1:=uE (Q:=iz) ok.lX.nodup X3;have g2:=uE (Q:=iz) ok.lX.nodup h;rw[e7]at g1;have g2:e8 (Q:=iz) T.ds me=some (D.tup [.int me,.int aV,z]):=g2;rw[g2]at g1;refine⟨ys.map (·.2),?_⟩;rw[ajw,<-ajT g1]
section
variable{a k:aO}(ax:Good k){W:List (List Nat)}{me aV:Int}{d:fD}{st:dq}{aD:List cJ}{T:c8}{z:D}{A:b4}{ms:List Nat}(q:iN a k W me aV d st aD T z A ms)(au:ms.length<900)
variable{S:cA}{i g w r b:Nat}{n:h9}{gU:List cJ}{ai:h_}(h:e0 S i g w r b A n gU ai)(aH:n.pl=e9 a k)(hl:n.me=me)(jd:n.aV=aV)
include ax q h aH hl jd au
theorem U0:aJ S (Du [.ref i,.ref w,.lst (ms.map bf),T.D]) (.v (.aE true)):=by
 have a_:=Dd ms 6 k (by have:=ax.2.1;omega) ax.1;have OL:∀s4 s5 s6:Slot,aJ S (a5 (bM (nk 6) (U (ae aK (ae aK (ae er (I 1) (aa (.str "place"))) (aa (.int 1))) (aa (.int 1))) (U (I 2) ak))) [.v (.ref i),.v (.ref w),.bF (ms.map bf),.v T.D,s4,s5,s6]) (uy k ms):=λ_ _ _=>
  dF (gY (rs:=[.v (enc k),.bF (ms.map bf)]) (cY (de (x:=.v (dm a k)) rfl (de (x:=.v (e9 a k)) rfl (iG h rfl (by rw[<-aH];rfl)) (.of rfl)) (.of rfl)) (.of rfl)) (.of a_))
 have ahl:Ok 1 z:=aay (q.ok.uj _ q.row) z (by simp);have c3:Ok 13 (.tup [.str "did",z]):=p0 (n:=2) (zh (nA aav) ahl) (by decide);have ov:∀{m f:Str}{bd:a3}{v:D}{Y:aR},I 0 Y=pure (.v (.ref i))->(A.aZ g).lookup m=none->(A.aZ g).lookup f=some v->bd=bG (bS (cQ "Asker" f) (I 0))->aJ S (gF "Asker" m (fnOf 1 1 bd) (I 0) ak Y) (.v v):=λh0 af ah e=>CV h.eF.bC (.of h0) af fL (vb rfl (by rw[e];exact sA (dW h.eF rfl ah)))
 have tail:∀(due:D)(dY:Str)(s5:Slot),A.dv=due->A.dY=dY->Ok 13 due->ajK dY=true->aJ S (GO [.v (.ref i),.v (.ref w),.bF (ms.map bf),.v T.D,.v due,s5,.v (.str dY)]) (.cZ (.v (.aE true))):=λdue dY s5 ao az s9 s_=>
  sA (Kc (gY (rs:=[.v due,.v due]) (cY (ov (v:=due) rfl rfl (by rw[<-ao];rfl) rfl) (.of rfl)) (.of (same_refl 13 _ s9))) (gY (rs:=[.v (.str dY),.v (.str dY)]) (cY (ov (v:=.str dY) rfl rfl (by rw[<-az];rfl) rfl) (.of rfl)) (.of (same_refl 13 _ (nA s_)))))
 refine vb rfl (oq (Y':=[.v (.ref i),.v (.ref w),.bF (ms.map bf),.v T.D,.v .aQ,.e,.e]) (.of rfl) ?_);rcases q.mu with⟨f,bh,aB,e⟩|⟨f,bh,dT,aB,e⟩
 .have t:=OL (.v .aQ) .e .e
  rw[f]at t;refine oq (sy t (.of rfl)) (oq (Y':=[.v (.ref i),.v (.ref w),.bF (ms.map bf),.v T.D,.v .aQ,.e,.v (.str "telling")]) (.of rfl) (oq (sy (.of rfl) (.of rfl)) (tail _ _ _ (by rw[e];rfl) (by rw[e];rfl) DZ D0)))
 .have t:=OL (.v .aQ) .e .e
  rw[f]at t;obtain⟨rest,j2⟩:=acg q.ok q.row;have S9:aJ S (fK (h3 (a5 (ae oEq (ae aK (I 0) (aa (.int 0))) (ae er (I 1) (aa (.str "me"))))) (a5 (ae oEq (ae aK (I 0) (aa (.int 1))) (ae er (I 1) (aa (.str "number")))))) (I 0) [.e,.v (.ref w)] (T.ds.map (·.2))) (.tup [.int me,.int aV,z]::rest):=by
   rw[<-j2];refine Kg (·.2) (λx=>decide (x.1=me)&&decide (ka (some x.2)=aV)) (·.2) T.ds (λx ag=>?_) λx ag _=>?_
   .obtain⟨m,y,e⟩:=q.ok.num x ag
    show aJ S (h3 _ _ [.v x.2,.v (.ref w)]) _;rw[e];have g1:ig (n.L b) (.inr "me")=some (.int me):=by rw[<-hl];rfl
    have g2:ig (n.L b) (.inr "number")=some (.int aV):=by rw[<-jd];rfl
    have t1:aJ S (a5 (ae oEq (ae aK (I 0) (aa (.int 0))) (ae er (I 1) (aa (.str "me")))) [.v (.tup [.int x.1,.int m,y]),.v (.ref w)]) (decide (x.1=me)):=dF (de j1 (.of rfl) (iG h rfl g1));have dC:aJ S (a5 (ae oEq (ae aK (I 0) (aa (.int 1))) (ae er (I 1) (aa (.str "number")))) [.v (.tup [.int x.1,.int m,y]),.v (.ref w)]) (decide (m=aV)):=dF (de j1 (.of rfl) (iG h rfl g2));show aJ S _ (decide (x.1=me)&&decide (m=aV));generalize decide (x.1=me)=bW at *
    cases bW with
    |false=>exact pK t1|true=>rw[Bool.true_and];exact nf t1 dC
   .obtain⟨m,y,e⟩:=q.ok.num x ag
    show aJ S (I 0 [.v x.2,.v (.ref w)]) (.v x.2);exact .of rfl
  have dl:=q.ok.dl;have p7:aJ S (b7 5 (ae aK (ae aK (eX 1 [1] (hX (ae aK (I 3) (aa (.int 1)))) (h3 (a5 (ae oEq (ae aK (I 0) (aa (.int 0))) (ae er (I 1) (aa (.str "me"))))) (a5 (ae oEq (ae aK (I 0) (aa (.int 1))) (ae er (I 1) (aa (.str "number")))))) (I 0)) (aa (.int 0))) (aa (.int 2))) [.v (.ref i),.v (.ref w),.bF (ms.map bf),.v T.D,.v .aQ,.e,.e]) (.bo [.v (.ref i),.v (.ref w),.bF (ms.map bf),.v T.D,.v .aQ,.v z,.e]):=
   pL (r:=.v z) (de (x:=.v (.tup [.int me,.int aV,z])) rfl (de (x:=.fr (.tup [.int me,.int aV,z]::rest)) (CQ Ik) (yC (ds:=T.ds.map λx:Int×D=>x.2) (.of rfl) (by rw[ajm];exact eS (by omega)) S9) (.of rfl)) (.of rfl)) rfl
  refine oq (Y':=[.v (.ref i),.v (.ref w),.bF (ms.map bf),.v T.D,.v (.tup [.str "did",z]),.v z,.e]) (sz t (oq p7 (.of rfl))) (oq (Y':=[.v (.ref i),.v (.ref w),.bF (ms.map bf),.v T.D,.v (.tup [.str "did",z]),.v z,.v (.str "telling")]) (.of rfl) (oq (Y':=[.v (.ref i),.v (.ref w),.bF (ms.map bf),.v T.D,.v (.tup [.str "did",z]),.v z,.v (.str "calm")]) (sz (.of rfl) (.of rfl)) (tail _ _ _ (by rw[e];rfl) (by rw[e];rfl) c3 tc)))
end
def aaw:Ok 13 (.lst []):=LU (n:=12) (ajN _) λ_ h=>(nomatch h)
section
variable{S S1 a6:cA}{Y:aR}
def agj{a b:aR->N Bool}(h:bL S (a Y) false S1)(ah:bL S1 (b Y) x a6):bL S (Ab a b Y) x a6:=h.bind ah
def x_pure{mf:bE}{ms:hM}{rs:List R}{r:R}(h:bL S (ms Y) rs S1)(e:aJ S1 (mf (rs.map R.arg)) r):bL S (z_ mf ms Y) r S1:=h.bind e.to
def agf{m:ed}{ms:cV}(h:bL S (m Y) x S1)(e:aJ S1 (ms Y) xs):bL S (z8 m ms Y) (x::xs) S1:=h.bind (e.to.bind rfl)
end
section
variable{a k:aO}(ax:Good k){W:List (List Nat)}{me aV:Int}{d:fD}{st:dq}{aD:List cJ}{T:c8}{z:D}{ms:List Nat}(au:ms.length<900)
variable{i w r b:Nat}{n:h9}{gU:List cJ}{ai:h_}(aH:n.pl=e9 a k)(hl:n.me=me)(jd:n.aV=aV){ans:D}(s2 s3 s4 s7 s8:Slot)
include ax au aH hl jd
theorem FJ(h:e0 S i g w r b A n gU ai)(p:A.Do iY [ans] [] dB)(q:iN a k W me aV d st aD T z dB ms)(ez:Slot) :
  gO S i g w r b (ve [.v (.ref i),.v (.ref w),s2,s3,s4,.c7 false (ms.map bf),.v T.D,s7,s8,.v ans,ez]) (.bo [.v (.ref i),.v (.ref w),s2,s3,s4,.c7 false (ms.map bf),.v T.D,s7,s8,.v ans,ez]) dB n gU ai:=by
 obtain⟨a6,g2,t,s⟩:=p _ _ _ h.eF;have ah:=h.step s;have ao:bL S (fO "Asker" "hear" iY (I 0) (eU (U (I 9) ak)) [.v (.ref i),.v (.ref w),s2,s3,s4,.c7 false (ms.map bf),.v T.D,s7,s8,.v ans,ez]) (.fr []) a6:=tI h.eF.bC (.of rfl) rfl (rs:=[.v ans]) (aJ.to (.of rfl)) rfl t;have uo:=U0 ax q au ah.at' aH hl jd;exact⟨a6,g2,nM (agj (Pd (x:=true) (O' (x_pure (agf ao (.of (cons_of (x:=.fr []) rfl rfl))) (.of (same_refl 13 _ aaw))))) (aJ.to (vc (dF (gY (rs:=[.v (.ref i),.v (.ref w),.mv (ms.map bf),.v T.D]) (.of rfl) uo))))) rfl,ah⟩
theorem AG(ba:∀A,iN a k W me aV d st aD T z A ms->∃dB,A.Do iY [ans] [] dB/\iN a k W me aV d st aD T z dB ms):∀(is:List Int)(A:b4)(ez:Slot)(S:cA)(g:Nat),iN a k W me aV d st aD T z A ms->e0 S i g w r b A n gU ai->
  ∃dB h2,gO S i g w r b (jR (λd Y=>ve (Y.set 10 (.v d))) (is.map D.int) [.v (.ref i),.v (.ref w),s2,s3,s4,.c7 false (ms.map bf),.v T.D,s7,s8,.v ans,ez]) (.bo [.v (.ref i),.v (.ref w),s2,s3,s4,.c7 false (ms.map bf),.v T.D,s7,s8,.v ans,h2]) dB n gU ai/\iN a k W me aV d st aD T z dB ms
 |[],A,ez,S,g,q,h=>⟨A,ez,⟨S,g,rfl,.refl h⟩,q⟩
 |x::is,A,ez,S,g,q,h=>by
  obtain⟨fW,p,bq⟩:=ba A q;obtain⟨S1,g1,t1,ao⟩:=FJ ax au aH hl jd s2 s3 s4 s7 s8 h p bq (.v (.int x));obtain⟨oV,h2,⟨a6,g2,dC,az⟩,b1⟩:=AG ba is fW (.v (.int x)) S1 g1 bq ao.at';exact⟨oV,h2,⟨a6,g2,mH t1 dC,ao.trans az⟩,b1⟩
end
def Oz:bl:=(bK (hr 9 (iw mm (eU (U (ae er (I 1) (aa (.str "books"))) (U (I 8) ak)))))
  (bK (b9 (cW (a5 (ae oEq (ae aK (I 9) (aa (.int 0))) (aa (.str "kept")))) (j0 5 hH (U (ae aK (I 9) (aa (.int 1))) ak)) cq))
  (nL 10 (iE (U (ae fN (aa (.int 1)) (ae oMod (ae dZ (I 3) (aa (.int 11))) (aa (.int 2)))) ak)) ve)))
def Zt:oEq (.v (.str "late")) (.v (.str "kept"))=pure (.v (.aE false)):=by rw[gn tf LS];rfl
section
variable{a k:aO}(aq:Good a)(ax:Good k){W:List (List Nat)}{me aV:Int}{d:fD}(dh:eN d){st:dq}(s0:1<=st.1){aD:List cJ}{T:c8}{z:D}(lC:fF me aV T){ms:List Nat}(au:ms.length<800)
variable{i w r b:Nat}{n:h9}{gU:List cJ}{ai:h_}(hz:ai.length<900)(cG:fP (fF me aV) W ai)(aH:n.pl=e9 a k)(hl:n.me=me)(jd:n.aV=aV)(c:Int)(s2 s4 s7 es ez:Slot)
include aq ax dh s0 lC au hz cG aH hl jd
theorem aeO{b0 n0 dd0:D}(aW:j∈b' a k)(q:iN a k W me aV d st aD T z A ms)(h:e0 S i g w r b A n gU ai) :
  ∃dB d2 cC ke h2,gO S i g w r b (Oz [.v (.ref i),.v (.ref w),s2,.v (.int c),s4,.c7 false (ms.map bf),.v T.D,s7,.v (dK me 0 st (.tup [b0,n0,dd0,T.D]) j),es,ez]) (.bo [.v (.ref i),.v (.ref w),s2,.v (.int c),s4,.c7 false (d2.map bf),.v T.D,s7,.v (dK me 0 st (.tup [b0,n0,dd0,T.D]) j),ke,h2]) dB n gU cC/\iN a k W me aV d st aD T z dB d2/\fP (fF me aV) W cC/\d2.length<=ms.length+1/\cC.length<=ai.length+1:=by
 obtain⟨pr,kp,v,JF,iq,Cs⟩:=cG.1 j;have mi:=sT aW;have ahu:=mod_lt (a:=c / 11) (b:=2) (by decide);obtain⟨m,hm,em⟩:∃m:Nat,1+c / 11 % 2=((m+1:Nat):Int)/\m+1<1000:=⟨(c / 11 % 2).toNat,by omega,by omega⟩;have j2:h1 0 (m+1)=(0::(ajI m).map λx:Nat=>((x:Int)+1)).map D.int:=by
  unfold h1;rw[List.range_succ_eq_map,ajw,ajw,ak4,ak4]
  congr 1
  exact am4 λx _=>by simp
 have it:∀Y:aR,I 3 Y=pure (.v (.int c))->aJ S (iE (U (ae fN (aa (.int 1)) (ae oMod (ae dZ (I 3) (aa (.int 11))) (aa (.int 2)))) ak) Y) (h1 0 (m+1)):=λY e=>.of (zz (cons_of (x:=.v (.int ((m+1:Nat):Int))) (by rw[<-hm];exact bz rfl rfl (bz (fU (by decide)) (bz (hS (gw (by decide) (by decide))) e rfl) rfl)) rfl) em)
 have r1:aJ S (U (ae er (I 1) (aa (.str "books"))) (U (I 8) ak) [.v (.ref i),.v (.ref w),s2,.v (.int c),s4,.c7 false (ms.map bf),.v T.D,s7,.v (dK me 0 st (.tup [b0,n0,dd0,T.D]) j),es,ez]) [.v (.ref b),.v (dK me 0 st (.tup [b0,n0,dd0,T.D]) j)]:=cY (iG h rfl rfl) (.of rfl)
 cases hO:fQ pr st with
 |true=>
  have dE:=Ju (me:=me) (b:=b0) (n:=n0) (dd:=dd0) (t:=T.D) JF h.cG hO;obtain⟨dB,h2,⟨a6,g2,dC,az⟩,b1⟩:=AG (ans:=sG j me 0 st pr) ax (by omega) aH hl jd s2 (.v (.int c)) s4 s7 (.v (dK me 0 st (.tup [b0,n0,dd0,T.D]) j)) (λA q=>ae7 q j pr) (0::(ajI m).map λx:Nat=>((x:Int)+1)) A ez S g q h;rw[<-j2]at dC;exact⟨dB,ms,ai,_,h2,⟨a6,g2,c4 (kZ (x_call r1 rfl dE) rfl) (c4 (aJ.of (nd (c0 (bz Zt rfl rfl)))).to (rH (it _ rfl) dC)),az⟩,b1,cG,ak3 _,ak3 _⟩
 |false=>
  have dE:=Jt (me:=me) (b:=b0) (n:=n0) (dd:=dd0) (t:=T.D) JF h.cG (by omega) hO;have qS:=h.D6 (fm ai (d8 j) (g4 st st T.D));have uW:∀x∈ms++[j],x<6:=λx ag=>by
   rcases aj2.mp ag with ag|ag
   .exact q.gA x ag
   .rw[ajH.mp ag];exact mi
  have jI:(ms++[j]).length<=ms.length+1:=by rw[ajz];exact ajq _
  obtain⟨fW,p1,bq⟩:=OX aq ax dh q aW (aaO ms j) uW λx ag=>aj2.mpr (.inl ag)
  obtain⟨S1,g1,t1,ao⟩:=FJ (ans:=iF j me 0 st) ax (by omega) aH hl jd s2 (.v (.int c)) s4 s7 (.v (dK me 0 st (.tup [b0,n0,dd0,T.D]) j)) qS.at' p1 bq (.v (.int 0));obtain⟨dB,h2,⟨a6,g2,dC,az⟩,b1⟩:=AG (ans:=iF j me 0 st) ax (by omega) aH hl jd s2 (.v (.int c)) s4 s7 (.v (dK me 0 st (.tup [b0,n0,dd0,T.D]) j)) (λA q=>OX aq ax dh q aW (aaN q.gA (aj2.mpr (.inr (ajH.mpr rfl)))) q.gA λ_ h=>h) ((ajI m).map λx:Nat=>((x:Int)+1)) fW (.v (.int 0)) S1 g1 bq ao.at';have jN:=mH (b:=λd Y=>ve (Y.set 10 (.v d))) (d:=.int 0) (Y:=[.v (.ref i),.v (.ref w),s2,.v (.int c),s4,.c7 false ((ms++[j]).map bf),.v T.D,s7,.v (dK me 0 st (.tup [b0,n0,dd0,T.D]) j),.v (iF j me 0 st),ez]) t1 dC;have U7:D.int 0::((ajI m).map λx:Nat=>((x:Int)+1)).map D.int=h1 0 (m+1):=by rw[j2];rfl
  rw[U7]at jN;have ap:j0 5 hH (U (ae aK (I 9) (aa (.int 1))) ak) [.v (.ref i),.v (.ref w),s2,.v (.int c),s4,.c7 false (ms.map bf),.v T.D,s7,.v (dK me 0 st (.tup [b0,n0,dd0,T.D]) j),.v (iF j me 0 st),ez]=pure (.bo [.v (.ref i),.v (.ref w),s2,.v (.int c),s4,.c7 false ((ms++[j]).map bf),.v T.D,s7,.v (dK me 0 st (.tup [b0,n0,dd0,T.D]) j),.v (iF j me 0 st),ez]):=by
   rw[akd];exact AK (xs:=ms.map bf) (d:=bf j) rfl (cons_of (bz rfl rfl rfl) rfl) (by rw[ajm];exact eS (by omega))
  have Ys:aJ (S.set b (.eY (fm ai (d8 j) (g4 st st T.D)))) (iE (U (ae fN (aa (.int 1)) (ae oMod (ae dZ (I 3) (aa (.int 11))) (aa (.int 2)))) ak) [.v (.ref i),.v (.ref w),s2,.v (.int c),s4,.c7 false ((ms++[j]).map bf),.v T.D,s7,.v (dK me 0 st (.tup [b0,n0,dd0,T.D]) j),.v (iF j me 0 st),ez]) (h1 0 (m+1)):=.of (zz (cons_of (x:=.v (.int ((m+1:Nat):Int))) (by rw[<-hm];exact bz rfl rfl (bz (fU (by decide)) (bz (hS (gw (by decide) (by decide))) rfl rfl) rfl)) rfl) em);exact⟨dB,ms++[j],_,_,h2,⟨a6,g2,c4 (kZ (x_call r1 rfl dE) rfl) (c4 (aJ.of ((kI (c0 (bz C1 rfl rfl))).trans ap)).to (rH Ys jN)),qS.trans (ao.trans az)⟩,b1,cG.put j mi (by omega) (.inr ⟨s0,T,rfl,q.ok,lC⟩),jI,xI _ _ _⟩
end
def qo(s:Int)(W:List (List Nat)):Prop:=∀j:Int,0<=j->j<3->∃a∈W,sQ [.int (s+64*j)]=pure (.v (.str (cD a)))/\qn a
def aab(s:Int):∃W:List (List Nat),W.length<59/\qo s W:=by
 obtain⟨w_,d6,h0⟩:=Df (s+64*0);obtain⟨a1,ao,af⟩:=Df (s+64*1);obtain⟨a2,az,ah⟩:=Df (s+64*2);refine⟨[w_,a1,a2],ajO rfl,λj yA aiQ=>?_⟩;rcases(by omega:j=0\/j=1\/j=2)with rfl|rfl|rfl
 .exact⟨w_,by simp,d6,h0⟩
 .exact⟨a1,by simp,ao,af⟩
 .exact⟨a2,by simp,az,ah⟩
def KU{s:Int}(eR:qo s W)(c:Int):∃d:fD,sN [.int c,.int s]=pure (.v d.D)/\eN d/\jU (λ_=>False) W d/\Fv d.D:=by
 have bN:=mod_lt (a:=c / 6) (b:=3) (by decide);have aiE:=mod_lt (a:=c / 6) (b:=10 ^ 40) (by decide);obtain⟨l,C3,ao,au⟩:=eR (c / 6 % 3) bN.1 bN.2;have S4:nP 64 (c / 6 % 3):=.inl ⟨by decide,by decide⟩;have wB:kr l:=⟨au.ok,au.p1,au.zo⟩;have abR:ae mn (aa (.int 10)) (aa (.int 40)) [.v (.int c),.v (.int s),.e]=pure (.v (.int (10 ^ 40))):=bz (zt ⟨by decide,by decide,by decide⟩ rfl) rfl rfl;have nm:∀x:Slot,bM sQ (U (ae fN (I 1) (ae vK (aa (.int 64)) (ae oMod (ae dZ (I 0) (aa (.int 6))) (aa (.int 3))))) ak) [.v (.int c),.v (.int s),x]=pure (.v (.str (cD l))):=λx=>call_of (rs:=[.v (.int (s+64*(c / 6 % 3)))]) (cons_of (bz rfl rfl (bz (ZX S4) rfl (bz (fU (by decide)) (bz (hS (gw (by decide) (by decide))) rfl rfl) rfl))) rfl) ao
 have cK:b7 2 (ae oMod (ae dZ (I 0) (aa (.int 6))) (ae mn (aa (.int 10)) (aa (.int 40)))) [.v (.int c),.v (.int s),.e]=pure (.bo [.v (.int c),.v (.int s),.v (.int (c / 6 % 10 ^ 40))]):=fq (bz (fU (by decide)) (bz (hS (gw (by decide) (by decide))) rfl rfl) abR);generalize c / 6 % 10 ^ 40=X at *;obtain⟨n,aG,az⟩:∃n:Int,(-(10 ^ 60)<n/\n<10 ^ 60)/\GK [.v (.int c),.v (.int s),.v (.int X)]=GL [.v (.int c),.v (.int s),.v (.int n)]:=by
  by_cases q:c % 5=0
  .exact⟨0-X,by omega,ef ((kI (c0 (bz (j1.trans (by rw[decide_eq_true q])) (bz (fU (by decide)) rfl rfl) rfl))).trans (fq rfl))⟩
  .exact⟨X,by omega,jk (c0 (bz (j1.trans (by rw[decide_eq_false q])) (bz (fU (by decide)) rfl rfl) rfl))⟩
 have cI:∀w:Str,eP [D.str "put",.str "add",.str "add"] (c % 3)=some (.str w)->sN [.int c,.int s]=pure (.v (.tup [.str w,.str (cD l),.int n])):=λw sd=>
  j3 rfl ((ef cK).trans (az.trans (kQ (ON (bz (CQ sd) (q2 rfl rfl (ajO rfl)) (bz (fU (by decide)) rfl rfl)) (nm _) rfl))))
 have jZ:=mod_lt (a:=c) (b:=3) (by decide);rcases(by omega:c % 3=0\/c % 3=1\/c % 3=2)with h|h|h
 .exact⟨.put l n,cI "put" (by rw[h];rfl),.inl ⟨l,n,rfl⟩,⟨wB,C3⟩,⟨"put",l,n,rfl,Vl,au,aG⟩⟩
 .exact⟨.add l n,cI "add" (by rw[h];rfl),.inr ⟨l,n,rfl⟩,⟨wB,C3⟩,⟨"add",l,n,rfl,IH,au,aG⟩⟩
 .exact⟨.add l n,cI "add" (by rw[h];rfl),.inr ⟨l,n,rfl⟩,⟨wB,C3⟩,⟨"add",l,n,rfl,IH,au,aG⟩⟩
section
variable{a k:aO}(aq:Good a)(ax:Good k){W:List (List Nat)}(eR:W.length<59){me aV seed:Int}(m0:0<=me)(gA:me<6)(n0:0<=aV)(cu:qo seed W)
include aq ax eR m0 gA n0 cu
theorem IX{i g w r b:Nat}{n:h9}{aD:List cJ}{ai:h_}(h:e0 S i g w r b A n aD ai)(aH:n.pl=e9 a k)(hl:n.me=me)(t0:0<=n.fB)(cG:fP (fF me aV) W ai)(hz:ai.length+12<1000)(c:Int) :
  ∃av g' cC,bL S (sO [.ref w,.int c,.int seed]) (.v .aQ) av/\hx S av i g w r b g' A { n with fB:=n.fB+1 } aD cC/\fP (fF me aV) W cC/\cC.length<=ai.length+12:=by
 have IZ:=mod_lt (a:=me+1+c % 5) (b:=6) (by decide);have ahv:=mod_lt (a:=c) (b:=5) (by decide);have VC:(me+1+c % 5) % 6≠me:=by omega
 have f9:aJ S (b7 3 (ae oMod (ae fN (ae fN (ae er (I 0) (aa (.str "me"))) (aa (.int 1))) (ae oMod (I 1) (aa (.int 5)))) (aa (.int 6))) [.v (.ref w),.v (.int c),.v (.int seed),.e]) (.bo [.v (.ref w),.v (.int c),.v (.int seed),.v (.int ((me+1+c % 5) % 6))]):=
  pL (r:=.v (.int ((me+1+c % 5) % 6))) (de (fU (by decide)) (de (x:=.v (.int (me+1))) rfl (de (x:=.v (.int me)) rfl (iG h rfl (by rw[<-hl];rfl)) (.of rfl)) (.of (bz (fU (by decide)) rfl rfl))) (.of rfl)) rfl
 obtain⟨S1,g1,t1,ao⟩:=zC (Y:=[.v (.ref w),.v (.int c),.v (.int seed),.v (.int ((me+1+c % 5) % 6))]) (k:=0) (f:="turn") (mv:=ae fN (ae er (I 0) (aa (.str "turn"))) (aa (.int 1))) (x:=.v (.int (n.fB+1))) h { n with fB:=n.fB+1 } rfl (de (x:=.v (.int n.fB)) rfl (iG h rfl rfl) (.of rfl)) rfl rfl;obtain⟨d',dX,L6,uR,_⟩:=KU cu (c / 5 % 10 ^ 45);obtain⟨cC,e,ab,au⟩:=Zi aq ax eR ao.at'.cG cG hz IZ.1 IZ.2 (n:=n.fB+1) (by omega) L6 uR (c / 5) (L5 n0) (λt p=>p.1) (λt ok p=>aa2 ok L6 VC _ p);have az:=ao.at'.D6 cC;refine⟨_,g1,cC,z' (Y':=[.v (.ref w),.v (.int c),.v (.int seed),.v (.int ((me+1+c % 5) % 6))]) rfl (c4 f9.to (c4 t1 (tH (x_call (rs:=[.v (.ref b),.v (e9 a k),.v (.int ((me+1+c % 5) % 6)),.v (.int (n.fB+1)),.v d'.D,.v (.int (c / 5))]) ?_ rfl e)))),ao.trans az,ab,au⟩;exact cY (iG ao.at' rfl rfl) (cY (iG ao.at' rfl (by rw[<-aH];rfl)) (cY (.of rfl) (cY (iG ao.at' rfl rfl) (cY (.of (call_of (rs:=[.v (.int (c / 5 % 10 ^ 45)),.v (.int seed)]) (cons_of (bz (fU (by decide)) (bz (hS (gw (by decide) (by decide))) rfl rfl) (bz (zt ⟨by decide,by decide,by decide⟩ rfl) rfl rfl)) rfl) dX)) (cY (.of (bz (hS (gw (by decide) (by decide))) rfl rfl)) fL)))))
end
section
variable{a k:aO}(aq:Good a)(ax:Good k){W:List (List Nat)}(eR:W.length<59){me aV seed:Int}(m0:0<=me)(gA:me<6)(ep:1<=aV)(cu:qo seed W){d:fD}(dh:eN d){st:dq}(s0:1<=st.1){aD:List cJ}{T:c8}{z:D}(lC:fF me aV T)(ld:D->D)(el:∃b0 n0 dd0,ld T.D=.tup [b0,n0,dd0,T.D])
include aq ax eR m0 gA ep cu dh s0 lC el
theorem OA{i w r b:Nat}(c:Int):∀(is:List Int)(A:b4)(ms:List Nat)(n:h9)(ai:h_)(s7 s8 es ez:Slot)(S:cA)(g:Nat),iN a k W me aV d st aD T z A ms->e0 S i g w r b A n gU ai->n.pl=e9 a k->n.me=me->n.aV=aV->0<=n.fB->fP (fF me aV) W ai->ms.length+is.length<800->ai.length+13*is.length<900->
  ∃dB d2 oN cC rk EC ke h2,gO S i g w r b (jR (λd Y=>KJ (Y.set 7 (.v d))) (is.map D.int) [.v (.ref i),.v (.ref w),.bF ((b' a k).map (dK me 0 st (ld T.D))),.v (.int c),.v (.int seed),.c7 false (ms.map bf),.v T.D,s7,s8,es,ez]) (.bo [.v (.ref i),.v (.ref w),.bF ((b' a k).map (dK me 0 st (ld T.D))),.v (.int c),.v (.int seed),.c7 false (d2.map bf),.v T.D,rk,EC,ke,h2]) dB { n with fB:=oN } gU cC/\iN a k W me aV d st aD T z dB d2/\0<=oN/\fP (fF me aV) W cC/\cC.length<=ai.length+13*is.length
 |[],A,ms,n,ai,s7,s8,es,ez,S,g,q,h,_,_,_,t0,cG,_,_=>⟨A,ms,n.fB,ai,s7,s8,es,ez,⟨S,g,rfl,.refl h⟩,q,t0,cG,ajq _⟩
 |x::is,A,ms,n,ai,s7,s8,es,ez,S,g,q,h,aH,hl,jd,t0,cG,b5,cv=>by
  rw[ajC]at b5 cv;obtain⟨b0,n0,dd0,UU⟩:=el;have j8:=q_ (k:=k) aq;obtain⟨l,UX,hm⟩:=OP (ls:=(b' a k).map (dK me 0 st (ld T.D))) (by rw[ajm];exact j8) (x+c);obtain⟨j,aW,rfl⟩:=akg.mp hm;obtain⟨bc,UW⟩:=K5 (c / 7);have zH:bL S (b9 (b7 8 (ae aK (I 2) (ae oMod (ae fN (I 7) (I 3)) (cH f7 (U (I 2) ak))))) [.v (.ref i),.v (.ref w),.bF ((b' a k).map (dK me 0 st (ld T.D))),.v (.int c),.v (.int seed),.c7 false (ms.map bf),.v T.D,.v (.int x),s8,es,ez]) (.bo [.v (.ref i),.v (.ref w),.bF ((b' a k).map (dK me 0 st (ld T.D))),.v (.int c),.v (.int seed),.c7 false (ms.map bf),.v T.D,.v (.int x),.v (dK me 0 st (ld T.D) j),es,ez]) S:=
   (aJ.of (fq (bz (CR UX) rfl (bz (fU (by rw[ajm];omega)) (bz rfl rfl rfl) (iO (yN _) rfl))))).to
  have oh:a5 (ae (jg false) (ae aK (I 8) (aa (.int 2))) (bM q8 (U (ae dZ (I 3) (aa (.int 7))) ak))) [.v (.ref i),.v (.ref w),.bF ((b' a k).map (dK me 0 st (ld T.D))),.v (.int c),.v (.int seed),.c7 false (ms.map bf),.v T.D,.v (.int x),.v (dK me 0 st (ld T.D) j),es,ez]=pure (bc.contains j):=c0 (bz (yu j bc) rfl (call_of (rs:=[.v (.int (c / 7))]) (cons_of (bz (hS (gw (by decide) (by decide))) rfl rfl) rfl) UW));obtain⟨fW,nv,gZ,ke,h2,⟨S1,g1,t1,ao⟩,bq,Hy,ff,ew⟩:∃fW nv gZ ke h2,gO S i g w r b (eL (e_ (a5 (ae (jg false) (ae aK (I 8) (aa (.int 2))) (bM q8 (U (ae dZ (I 3) (aa (.int 7))) ak))))) Oz (b9 cq) [.v (.ref i),.v (.ref w),.bF ((b' a k).map (dK me 0 st (ld T.D))),.v (.int c),.v (.int seed),.c7 false (ms.map bf),.v T.D,.v (.int x),.v (dK me 0 st (ld T.D) j),es,ez]) (.bo [.v (.ref i),.v (.ref w),.bF ((b' a k).map (dK me 0 st (ld T.D))),.v (.int c),.v (.int seed),.c7 false (nv.map bf),.v T.D,.v (.int x),.v (dK me 0 st (ld T.D) j),ke,h2]) fW n gU gZ/\iN a k W me aV d st aD T z fW nv/\fP (fF me aV) W gZ/\nv.length<=ms.length+1/\gZ.length<=ai.length+1:=by
   cases HL:bc.contains j with
   |false=>
    rw[HL]at oh;exact⟨A,ms,ai,es,ez,zA (.of oh) (En h (.of rfl)),q,cG,ak3 _,ak3 _⟩
   |true=>
    rw[HL]at oh;have o:=aeO (b0:=b0) (n0:=n0) (dd0:=dd0) aq ax dh s0 lC (by omega) (by omega) cG aH hl jd c (.bF ((b' a k).map (dK me 0 st (ld T.D)))) (.v (.int seed)) (.v (.int x)) es ez aW q h;rw[<-UU]at o;obtain⟨fW,nv,gZ,ke,h2,e,r⟩:=o;exact⟨fW,nv,gZ,ke,h2,zB (.of oh) e,r⟩
  obtain⟨zY,lA,aed,Sj,k1,a6,g2,dC,az⟩:∃zY lA,0<=zY/\fP (fF me aV) W lA/\lA.length<=gZ.length+12/\gO S1 i g1 w r b (eL (e_ (a5 (ae oEq (I 7) (ae oMod (ae dZ (I 3) (aa (.int 13))) (aa (.int 9)))))) (jr (iw sO (eU (U (I 1) (U (ae dZ (I 3) (aa (.int 17))) (U (I 4) ak)))))) (b9 cq) [.v (.ref i),.v (.ref w),.bF ((b' a k).map (dK me 0 st (ld T.D))),.v (.int c),.v (.int seed),.c7 false (nv.map bf),.v T.D,.v (.int x),.v (dK me 0 st (ld T.D) j),ke,h2]) (.bo [.v (.ref i),.v (.ref w),.bF ((b' a k).map (dK me 0 st (ld T.D))),.v (.int c),.v (.int seed),.c7 false (nv.map bf),.v T.D,.v (.int x),.v (dK me 0 st (ld T.D) j),ke,h2]) fW { n with fB:=zY } gU lA:=by
   have kU:a5 (ae oEq (I 7) (ae oMod (ae dZ (I 3) (aa (.int 13))) (aa (.int 9)))) [.v (.ref i),.v (.ref w),.bF ((b' a k).map (dK me 0 st (ld T.D))),.v (.int c),.v (.int seed),.c7 false (nv.map bf),.v T.D,.v (.int x),.v (dK me 0 st (ld T.D) j),ke,h2]=pure (decide (x=c / 13 % 9)):=c0 (bz j1 rfl (bz (fU (by decide)) (bz (hS (gw (by decide) (by decide))) rfl rfl) rfl))
   by_cases uf:x=c / 13 % 9
   .rw[decide_eq_true uf]at kU
    obtain⟨av,g',cC,t,s,ab,au⟩:=IX aq ax eR m0 gA (by omega) cu ao.at' aH hl t0 Hy (by omega) (c / 17);exact⟨n.fB+1,cC,by omega,ab,au,zB (.of kU) ⟨av,g',tH (x_call (rs:=[.v (.ref w),.v (.int (c / 17)),.v (.int seed)]) (.of (cons_of rfl (cons_of (bz (hS (gw (by decide) (by decide))) rfl rfl) (cons_of rfl rfl)))) rfl t),s⟩⟩
   .rw[decide_eq_false uf]at kU
    exact⟨n.fB,gZ,t0,Hy,by omega,zA (.of kU) (En ao.at' (.of rfl))⟩
  obtain⟨dB,d2,oN,cC,p9,p_,p',Oo,⟨cy,g3,t3,cI⟩,fp,jm,gL,wu⟩:=OA c is fW nv { n with fB:=zY } lA (.v (.int x)) (.v (dK me 0 st (ld T.D) j)) ke h2 a6 g2 bq az.at' aH hl jd aed Sj (by omega) (by omega);exact⟨dB,d2,oN,cC,p9,p_,p',Oo,⟨cy,g3,mH (c4 zH (c4 t1 dC)) t3,ao.trans (az.trans cI)⟩,fp,jm,gL,by rw[ajC];omega⟩
end
section
variable{a k:aO}(aq:Good a)(ax:Good k){W:List (List Nat)}(eR:W.length<59){me aV seed:Int}(m0:0<=me)(gA:me<6)(ep:1<=aV)(cu:qo seed W){d:fD}(dh:eN d){st:dq}(s0:1<=st.1){aD:List cJ}{T:c8}{z:D}(lC:fF me aV T)
include aq ax eR m0 gA ep cu dh s0 lC
theorem aeN{i w r b g:Nat}{n:h9}{ai:h_}(c:Int)(b0 n0 dd0:D)(q:iN a k W me aV d st aD T z A [])(h:e0 S i g w r b A n gU ai)(aH:n.pl=e9 a k)(hl:n.me=me)(jd:n.aV=aV)(t0:0<=n.fB)(cG:fP (fF me aV) W ai)(hz:ai.length<800) :
  ∃av dB d2 oN cC g',bL S (Dv [.ref i,.ref w,.lst ((b' a k).map (dK me 0 st (.tup [b0,n0,dd0,T.D]))),.int c,.int seed]) (.v (.aE true)) av/\e0 av i g' w r b dB { n with fB:=oN } gU cC/\iN a k W me aV d st aD T z dB d2/\0<=oN/\fP (fF me aV) W cC/\cC.length<=ai.length+78:=by
 have KC:=nu a k;have j2:h1 0 (b' a k).length=((ajI (b' a k).length).map λj:Nat=>(0+(j:Int))).map D.int:=by unfold h1;rw[ak4];rfl
 obtain⟨dB,d2,oN,cC,p9,p_,p',Oo,⟨a6,g2,dC,az⟩,fp,jm,gL,wu⟩:=OA aq ax eR m0 gA ep cu dh s0 lC (λt=>.tup [b0,n0,dd0,t]) ⟨b0,n0,dd0,rfl⟩ c ((ajI (b' a k).length).map λj:Nat=>(0+(j:Int))) A [] n ai .e .e .e .e S g q h aH hl jd t0 cG (by rw[ajm,akY];show 0+_ < _;omega) (by rw[ajm,akY];omega);rw[<-j2]at dC;rw[ajm,akY]at wu;obtain⟨yA,J5,um⟩:∃yA J5,b' a k=yA::J5:=by
  have:=q_ (k:=k) aq
  cases e:b' a k with
  |nil=>rw[e]at this;cases this
  |cons x xs=>exact⟨x,xs,rfl⟩
 have s6:b7 6 (ae aK (ae aK (ae aK (I 2) (aa (.int 0))) (aa (.int 5))) (aa (.int 3))) [.v (.ref i),.v (.ref w),.bF ((b' a k).map (dK me 0 st (.tup [b0,n0,dd0,T.D]))),.v (.int c),.v (.int seed),.c7 false [],.e,.e,.e,.e,.e]=pure (.bo [.v (.ref i),.v (.ref w),.bF ((b' a k).map (dK me 0 st (.tup [b0,n0,dd0,T.D]))),.v (.int c),.v (.int seed),.c7 false [],.v T.D,.e,.e,.e,.e]):=by
  rw[um];exact fq (bz (x:=.v (.tup [b0,n0,dd0,T.D])) rfl (bz (x:=.v (dK me 0 st (.tup [b0,n0,dd0,T.D]) yA)) rfl (bz (CR Ik) rfl rfl) rfl) rfl)
 refine⟨a6,dB,d2,oN,cC,g2,qj rfl ?_,az.at',fp,jm,gL,by omega⟩;exact c4 (Y':=[.v (.ref i),.v (.ref w),.bF ((b' a k).map (dK me 0 st (.tup [b0,n0,dd0,T.D]))),.v (.int c),.v (.int seed),.c7 false [],.e,.e,.e,.e,.e]) (aJ.of L3).to<|c4 (aJ.of s6).to<|
  c4 (rH (.of (zz (z:=(b' a k).length) (cons_of (iO (by rw[yN,ajm]) rfl) rfl) (by omega))) dC) rfl
end
def LV(s:dq)(h:1<=n):Ok n (cO s):=p0 (n:=1) (zh kb kb) h
def aax(hd:Ok 10 d)(hw:Ok 10 w)(me n:Int)(st b:dq){ms:List Nat}(au:ms.length<=6):Ok 13 (.lst (ms.map (dK me 0 st (.tup [cO b,.int n,d,w])))):=
 LU (n:=12) (by rw[ajm];omega) λx ag=>by
  obtain⟨j,_,rfl⟩:=akg.mp ag;exact aat (n:=11) (nA vN) kb kb kb (LV st (by decide)) (LR (n:=10) (LV b (by decide)) kb hd hw)
def aau{G:D->Prop}(dh:eN d)(hd:jU G W d):Ok 10 d.D:=by
 rcases dh with⟨a,m,rfl⟩|⟨a,m,rfl⟩
 .exact p0 (n:=1) (DU (nA (by decide +kernel)) (nA hd.1.1) kb) (by decide)
 .exact p0 (n:=1) (DU (nA (by decide +kernel)) (nA hd.1.1) kb) (by decide)
def age{a b:ed}{r:R}(h:bL S (a Y) (.v (.aE true)) S1)(ah:bL S1 (b Y) r a6):bL S (z7 a b Y) r a6:=h.bind ((aJ.of (m:=R.nI (.v (.aE true))) (a:=true) rfl).to.bind ah)
def qv{i g k:Nat}{A:b4}{v:D}(h:eA S i g A)(h0:I k Y=pure (.v (.ref i)))(af:(A.aZ g).lookup m=none)(ah:(A.aZ g).lookup f=some v)(e:bd=bG (bS (cQ "Asker" f) (I 0))):aJ S (gF "Asker" m (fnOf 1 1 bd) (I k) ak Y) (.v v):=CV h.bC (.of h0) af fL (vb rfl (by rw[e];exact sA (dW h rfl ah)))
structure qt(a k:aO)(W:List (List Nat))(me:Int)(A:b4)(n:h9)(ai:h_):Prop where
 pl:n.pl=e9 a k
 nm:n.me=me
 aV:0<=n.aV
 fB:0<=n.fB
 cG:fP (fF me n.aV) W ai
 ex:∃bh st dd dY dv aD dT et,A=⟨me,0,dm a k,hQ,false,bh,st,n.aV,dd,dY,dv,aD,dT,et⟩/\0<=bh/\(dY="calm"\/((dY="asking"\/dY="telling")/\dv=.aQ/\1<=n.aV/\∃d:fD,dd=d.D/\n.dd=d.D/\eN d/\jU (λ_=>False) W d))
structure Pp(a k:aO)(W:List (List Nat))(me:Int)(d:fD)(bh:Int)(A:b4)(n:h9)(ai:h_):Prop where
 pl:n.pl=e9 a k
 nm:n.me=me
 aV:1<=n.aV
 fB:0<=n.fB
 dd:n.dd=d.D
 dh:eN d
 hd:jU (λ_=>False) W d
 cG:fP (fF me n.aV) W ai
 kO:0<=bh
 ex:∃dT et,A=gd me (dm a k) d.D (bh+1) (bh+1,me) [] false dT et n.aV
section
variable{a k:aO}(aq:Good a)(ax:Good k){W:List (List Nat)}(eR:W.length<59){me seed:Int}(m0:0<=me)(gA:me<6)(cu:qo seed W)
include aq ax eR m0 gA cu
theorem afQ{i g w r b:Nat}{aD:List cJ}(h:e0 S i g w r b A n aD ai)(v:qt a k W me A n ai)(c:Int)(s4 s5 s6 s7:Slot) :
  ∃gk cC,gO S i g w r b (eL (e_ (a5 (ae oEq (ae oMod (I 2) (aa (.int 3))) (aa (.int 0))))) (jr (iw sO (eU (U (I 1) (U (ae dZ (I 2) (aa (.int 3))) (U (I 3) ak)))))) (b9 cq) [.v (.ref i),.v (.ref w),.v (.int c),.v (.int seed),s4,s5,s6,s7]) (.bo [.v (.ref i),.v (.ref w),.v (.int c),.v (.int seed),s4,s5,s6,s7]) A gk aD cC/\qt a k W me A gk cC:=by
 have kU:a5 (ae oEq (ae oMod (I 2) (aa (.int 3))) (aa (.int 0))) [.v (.ref i),.v (.ref w),.v (.int c),.v (.int seed),s4,s5,s6,s7]=pure (decide (c % 3=0)):=c0 (bz j1 (bz (fU (by decide)) rfl rfl) rfl)
 by_cases uf:c % 3=0
 .rw[decide_eq_true uf]at kU
  have KC:=v.cG.2.len;obtain⟨av,g',cC,t,s,ab,_⟩:=IX aq ax eR m0 gA v.aV cu h v.pl v.nm v.fB v.cG (by omega) (c / 3);exact⟨_,cC,zB (.of kU) ⟨av,g',tH (x_call (rs:=[.v (.ref w),.v (.int (c / 3)),.v (.int seed)]) (.of (cons_of rfl (cons_of (bz (hS (gw (by decide) (by decide))) rfl rfl) (cons_of rfl rfl)))) rfl t),s⟩,v.pl,v.nm,v.aV,by have:=v.fB;show 0<=n.fB+1;omega,ab,v.ex⟩
 .rw[decide_eq_false uf]at kU
  exact⟨n,ai,zA (.of kU) (En h (.of rfl)),v⟩
theorem afO{i g w r b:Nat}{aD:List cJ}(h:e0 S i g w r b A n aD ai)(v:qt a k W me A n ai)(c:Int)(s4 s5 s6 s7:Slot) :
  ∃d bh dB gk,gO S i g w r b (eL (e_ (a5 (ae oEq (gF "Asker" "stand" q5 (I 0) ak) (aa (.str "calm"))))) (bK (nK (I 1) (aa (.str "number")) (da (ae fN (ae er (I 1) (aa (.str "number"))) (aa (.int 1)))))
  (bK (nK (I 1) (aa (.str "deed")) (da (bM sN (U (ae oMod (ae dZ (I 2) (aa (.int 5))) (ae mn (aa (.int 10)) (aa (.int 50)))) (U (I 3) ak)))))
  (hr 4 (fO "Asker" "begin" yT (I 0) (eU (U (ae er (I 1) (aa (.str "deed"))) ak)))))) (hr 4 (fO "Asker" "bell" yU (I 0) mF)) [.v (.ref i),.v (.ref w),.v (.int c),.v (.int seed),s4,s5,s6,s7]) (.bo [.v (.ref i),.v (.ref w),.v (.int c),.v (.int seed),.v (.lst ((b' a k).map (dR me 0 (bh+1,me)))),s5,s6,s7]) dB gk aD ai/\Pp a k W me d bh dB gk ai:=by
 obtain⟨bh,st,dd,dY,dv,B6,dT,et,rfl,kO,mu⟩:=v.ex;rcases mu with rfl|⟨EF,rfl,ep,d,rfl,eb,dh,hd⟩
 .obtain⟨d,dX,dh,hd,nZ⟩:=KU cu (c / 5 % 10 ^ 50)
  have cN:dp d.D=.v d.D:=by rcases dh with⟨a,m,rfl⟩|⟨a,m,rfl⟩<;>rfl
  have Sg:=Sd (a:=(⟨me,0,dm a k,hQ,false,bh,st,n.aV,dd,"calm",dv,B6,dT,et⟩:b4)) (DC aq ax) (nu a k) rfl rfl cN (by rcases dh with⟨a,m,rfl⟩|⟨a,m,rfl⟩<;>rfl) (Yo nZ);have kU:aJ S (a5 (ae oEq (gF "Asker" "stand" q5 (I 0) ak) (aa (.str "calm"))) [.v (.ref i),.v (.ref w),.v (.int c),.v (.int seed),s4,s5,s6,s7]) true:=dF (de ((gn tc tc).trans (by rw[beq_self_eq_true])) (qv (v:=.str "calm") h.eF rfl rfl rfl rfl) (.of rfl));refine⟨d,bh,_,{ n with aV:=n.aV+1,dd:=d.D },zB kU ?_,v.pl,v.nm,by have:=v.aV;show 1<=n.aV+1;omega,v.fB,rfl,dh,hd,v.cG.mono λt p=>p.mono (by show n.aV<=n.aV+1;omega),kO,dT,et,rfl⟩;refine Mv (zC (x:=.v (.int (n.aV+1))) h { n with aV:=n.aV+1 } rfl (de (x:=.v (.int n.aV)) rfl (iG h rfl rfl) (.of rfl)) rfl rfl) λS1 g1 af=>?_
  refine Mv (zC (x:=.v d.D) af { n with aV:=n.aV+1,dd:=d.D } rfl (.of (call_of (rs:=[.v (.int (c / 5 % 10 ^ 50)),.v (.int seed)]) (cons_of (bz (fU (by decide)) (bz (hS (gw (by decide) (by decide))) rfl rfl) (bz (zt ⟨by decide,by decide,by decide⟩ rfl) rfl rfl)) rfl) dX)) rfl rfl) λa6 g2 ah=>?_
  obtain⟨cy,g3,t3,s3⟩:=Sg _ _ _ ah.eF;exact⟨cy,g3,kZ (tI ah.eF.bC (.of rfl) rfl (rs:=[.v d.D]) (aJ.to (cY (iG ah rfl rfl) fL)) rfl t3) rfl,ah.step s3⟩
 .have N':dY≠"calm":=by rcases EF with rfl|rfl<;>decide
  have adR:ajK dY=true:=by rcases EF with rfl|rfl<;>decide +kernel
  have aE:=Se (a:=(⟨me,0,dm a k,hQ,false,bh,st,n.aV,d.D,dY,.aQ,B6,dT,et⟩:b4)) (DC aq ax) (nu a k) (.inr EF) N';have kU:aJ S (a5 (ae oEq (gF "Asker" "stand" q5 (I 0) ak) (aa (.str "calm"))) [.v (.ref i),.v (.ref w),.v (.int c),.v (.int seed),s4,s5,s6,s7]) false:=dF (de ((gn adR tc).trans (by rw[show(dY == "calm")=false by simpa using N'])) (qv (v:=.str dY) h.eF rfl rfl rfl rfl) (.of rfl));obtain⟨cy,g3,t3,s3⟩:=aE _ _ _ h.eF;exact⟨d,bh,_,n,zA kU ⟨cy,g3,kZ (tI h.eF.bC (.of rfl) rfl (rs:=[]) rfl rfl t3) rfl,h.step s3⟩,v.pl,v.nm,ep,v.fB,eb,dh,hd,v.cG,kO,dT,et,rfl⟩
end
section
variable{a k:aO}(aq:Good a)(ax:Good k){W:List (List Nat)}(eR:W.length<59){me seed:Int}(m0:0<=me)(gA:me<6)(cu:qo seed W)
include aq ax eR m0 gA cu
theorem afP{i g w r b:Nat}{aD:List cJ}(h:e0 S i g w r b A n aD ai)(v:qt a k W me A n ai)(c:Int) :
  ∃av dB gk gf cC g' bP,bL S (y5 [.ref i,.ref w,.int c,.int seed]) (.v (.aE true)) av/\e0 av i g' w bP b dB gk gf cC/\qt a k W me dB gk cC:=by
 obtain⟨ep,gZ,⟨S1,g1,t1,ao⟩,v1⟩:=afQ aq ax eR m0 gA cu h v c .e .e .e .e;obtain⟨d,bh,oV,di,⟨a6,g2,dC,az⟩,dj⟩:=afO aq ax eR m0 gA cu ao.at' v1 c .e .e .e .e;have ah:=az.at';obtain⟨dT,et,kx⟩:=dj.ex;have KC:=dj.cG.2.len;have H:=Ca aq ax;have kO:=dj.kO;have s0:1<=((bh+1,me):dq).1:=by show 1<=bh+1;omega
 have b1:o9 a k W me di.aV d (bh+1,me) oV [] [] gZ:=⟨dj.cG,λ_ h=>(nomatch h),λ_ h=>(nomatch h),.inl ⟨bh+1,dT,et,kx,ami _,rfl⟩⟩;obtain⟨bc,fS⟩:=K5 (c / 19);obtain⟨cy,Fm,mW,qG,σ',g3,kP,t3,bN,gB,_⟩:=P6 aq ax eR dj.aV dj.dh dj.hd s0 bc (c / 7 % 6) ah b1 (by omega);have f9:bL a6 (b9 (cW (i4 (a5 (ae jL (gF "Asker" "outcome" vl (I 0) ak) (aa (.aQ)))) (a5 (ae eJ (gF "Asker" "number" Dp (I 0) ak) (ae er (I 1) (aa (.str "number")))))) (bG (aa (.aE false))) cq) [.v (.ref i),.v (.ref w),.v (.int c),.v (.int seed),.v (.lst ((b' a k).map (dR me 0 (bh+1,me)))),.e,.e,.e]) (.bo [.v (.ref i),.v (.ref w),.v (.int c),.v (.int seed),.v (.lst ((b' a k).map (dR me 0 (bh+1,me)))),.e,.e,.e]) a6:=
  aJ.to (sy (CW (dF (de rfl (qv (v:=.aQ) ah.eF rfl rfl (by rw[kx];rfl) rfl) (.of rfl))) (dF (de (pX.trans (by rw[decide_eq_true rfl];rfl)) (qv (v:=.int di.aV) ah.eF rfl rfl (by rw[kx];rfl) rfl) (iG ah rfl rfl)))) (.of rfl))
 have ts:bL a6 (hr 5 (iw y2 (eU (U (I 0) (U (I 1) (U (I 4) (U (bM q8 (U (ae dZ (I 2) (aa (.int 19))) ak)) (U (ae oMod (ae dZ (I 2) (aa (.int 7))) (aa (.int 6))) ak))))))) [.v (.ref i),.v (.ref w),.v (.int c),.v (.int seed),.v (.lst ((b' a k).map (dR me 0 (bh+1,me)))),.e,.e,.e]) (.bo [.v (.ref i),.v (.ref w),.v (.int c),.v (.int seed),.v (.lst ((b' a k).map (dR me 0 (bh+1,me)))),.v (.lst mW),.e,.e]) cy:=
  kZ (x_call (rs:=[.v (.ref i),.v (.ref w),.v (.lst ((b' a k).map (dR me 0 (bh+1,me)))),.v (.lst (bc.map bf)),.v (.int (c / 7 % 6))]) (.of (cons_of rfl (cons_of rfl (cons_of rfl (cons_of (call_of (rs:=[.v (.int (c / 19))]) (cons_of (bz (hS (gw (by decide) (by decide))) rfl rfl) rfl) fS) (cons_of (bz (fU (by decide)) (bz (hS (gw (by decide) (by decide))) rfl rfl) rfl) rfl)))))) rfl t3) rfl
 have pre:∀{av:cA},bL cy (G_ [.v (.ref i),.v (.ref w),.v (.int c),.v (.int seed),.v (.lst ((b' a k).map (dR me 0 (bh+1,me)))),.v (.lst mW),.e,.e]) (.cZ (.v (.aE true))) av->bL S (y5 [.ref i,.ref w,.int c,.int seed]) (.v (.aE true)) av:=λz=>qj rfl (c4 t1 (c4 dC (c4 f9 (c4 ts z))))
 have h4:a5 (ae oEq (cH f7 (U (I 5) ak)) (aa (.int 0))) [.v (.ref i),.v (.ref w),.v (.int c),.v (.int seed),.v (.lst ((b' a k).map (dR me 0 (bh+1,me)))),.v (.lst mW),.e,.e]=pure (decide (((mW.length:Nat):Int)=0)):=c0 (bz j1 (iO (K0 _) rfl) rfl);rcases gB.mu with⟨zE,aiR,ajc,r9,aB,r_⟩|⟨zE,t,r9,aB,f1,f2,fw,r_⟩
 .subst r_
  refine⟨cy,Fm,_,qG,σ',g3,kP,pre (wG (aJ.to (sz (.of h4) (sA (Kc (gY (rs:=[.v (.str "asking"),.v (.str "asking")]) (cY (qv (v:=.str "asking") bN.eF rfl rfl (by rw[r9];rfl) rfl) (.of rfl)) (.of (same_refl 13 _ (nA DV)))) (de rfl (qv (v:=.aQ) bN.eF rfl rfl (by rw[r9];rfl) rfl) (.of rfl))))))),bN,dj.pl,dj.nm,by have:=dj.aV;show 0<=di.aV;omega,dj.fB,gB.cG,zE,_,_,_,_,_,_,_,r9,by have:bh+1<=zE:=aB;omega,.inr ⟨.inl rfl,rfl,dj.aV,d,rfl,dj.dd,dj.dh,dj.hd⟩⟩
 .have j8:=q_ (k:=k) aq
  have ft:mW.length≠0:=by rw[r_];show(List.map _ _).length≠0;rw[ajm];omega
  rw[decide_eq_false (by omega)]at h4;have dh:=dj.dh;have cN:dp d.D=.v d.D:=by rcases dh with⟨a,m,rfl⟩|⟨a,m,rfl⟩<;>rfl
  have Bw:∀x,some d=some x->jU (λ_=>False) W x:=λx ag=>by cases ag;exact dj.hd
  have fR:=KV f2 fw.1 eR me (n:=di.aV) dj.aV dh dj.hd;have tok:=Ie f2 m0 gA di.aV Bw;have aan:Ok 10 (gx t me di.aV (some d)).D:=gr.ok tok (by omega) λz hz=>hz.elim
  have lC:=aa1 f2 dh fw;obtain⟨z,hz⟩:=Zb tok dj.aV lC.2;have ae5:iN a k W me di.aV d (bh+1,me) qG (gx t me di.aV (some d)) z Fm []:=⟨tok,lC.1.1,hz,λ_ h=>(nomatch h),.inl ⟨Iz k ax.1,zE,aB,r9⟩⟩;have aiU:=gB.cG.2.len;obtain⟨hx,Pn,aiX,ajd,Za,lh,rr,dz,ae6,aeU,Sk,_⟩:=aeN aq ax eR m0 gA dj.aV cu dh s0 lC.1 c (cO (qG.foldl dO ((0,0),hQ)).1) (.int di.aV) d.D ae5 bN dj.pl dj.nm rfl dj.fB gB.cG (by omega);rw[<-f1]at fR;have due:=KW aq ax me (bh+1,me) di.aV cN fR;have g7:=same_refl 13 _ (aax (aau dh dj.hd) aan me di.aV (bh+1,me) (qG.foldl dO ((0,0),hQ)).1 H.len);have r_:mW=(b' a k).map (dK me 0 (bh+1,me) (.tup [cO (qG.foldl dO ((0,0),hQ)).1,.int di.aV,d.D,(gx t me di.aV (some d)).D])):=r_;rw[<-r_]at due g7 rr;refine⟨hx,Pn,_,qG,Za,lh,kP,pre (c4 (aJ.to (sy (.of h4) (.of rfl))) (c4 (kZ (aJ.to (iG (d:=.ref kP) bN rfl rfl)) rfl) (c4 (aJ.to (pL (d:=.lst mW) (gY (rs:=[.v (.int me),.v (e9 a k),.v (cO (bh+1,me)),.v (.int di.aV),.v d.D,.mv (qG.map dg)]) ?_ (.of due)) rfl)) (agl (age (aJ.to (gY (rs:=[.v (.lst mW),.v (.lst mW)]) (.of rfl) (.of g7))) (x_call (rs:=[.v (.ref i),.v (.ref w),.v (.lst mW),.v (.int c),.v (.int seed)]) (.of rfl) rfl rr)))))),dz,dj.pl,dj.nm,by have:=dj.aV;show 0<=di.aV;omega,aeU,Sk,?_⟩
  .exact cY (iG bN rfl (by rw[<-dj.nm];rfl)) (cY (iG bN rfl (by rw[<-dj.pl];rfl)) (cY (qv (v:=cO (bh+1,me)) bN.eF rfl rfl (by rw[r9];rfl) rfl) (cY (iG bN rfl rfl) (cY (iG bN rfl (by rw[<-dj.dd];rfl)) (cY (Kf bN.ls (.of rfl)) fL)))))
  .rcases ae6.mu with⟨_,v3,Cx,e6⟩|⟨_,v3,aiS,Cx,e6⟩
   .exact⟨v3,_,_,_,_,_,_,_,e6,by have:bh+1<=v3:=Cx;omega,.inr ⟨.inr rfl,rfl,dj.aV,d,rfl,dj.dd,dj.dh,dj.hd⟩⟩
   .exact⟨v3,_,_,_,_,_,_,_,e6,by have:bh+1<=v3:=Cx;omega,.inl rfl⟩
theorem O8(s0 s1 s2 s4:Slot):∀(cs:List Int)(s7:Slot)(A:b4)(n:h9)(aD:List cJ)(ai:h_)(S:cA)(g r:Nat),e0 S i g w r b A n aD ai->qt a k W me A n ai->∃rk av,bL S (jR (λd Y=>KD (Y.set 7 (.v d))) (cs.map D.int) [s0,s1,s2,.v (.int seed),s4,.v (.ref w),.v (.ref i),s7]) (.bo [s0,s1,s2,.v (.int seed),s4,.v (.ref w),.v (.ref i),rk]) av
 |[],s7,A,n,aD,ai,S,g,r,h,v=>⟨s7,S,rfl⟩
 |x::cs,s7,A,n,aD,ai,S,g,r,h,v=>by
  obtain⟨S1,fW,ep,gU,gZ,g1,bB,t1,af,v1⟩:=afP aq ax eR m0 gA cu h v (x % 10 ^ 60);obtain⟨rk,a6,dC⟩:=O8 s0 s1 s2 s4 cs (.v (.int x)) fW ep gU gZ S1 g1 bB af v1;exact⟨rk,a6,mH (nM (Pd (x:=true) (O' (x_call (rs:=[.v (.ref i),.v (.ref w),.v (.int (x % 10 ^ 60)),.v (.int seed)]) (.of (cons_of rfl (cons_of rfl (cons_of (bz (fU (by decide)) rfl (bz (zt ⟨by decide,by decide,by decide⟩ rfl) rfl rfl)) (cons_of rfl rfl))))) rfl t1))) rfl) dC⟩
end
def Tf(ns:List Int)(a b:Nat):∃ms:List Int,cutD (ns.map D.int) (some (a:Int)) (some (b:Int))=ms.map D.int:=by
 unfold cutD;rw[d0.ED,d0.ED,<-List.map_drop,<-List.map_take];exact⟨_,rfl⟩
def Zl(ns:List Int)(aG:ns.length<=63):∃av,(Dr [.lst (ns.map D.int)]).run []=.ok (.v (.aE true)) av:=by
 obtain⟨a,k,uk,aq,ax⟩:=Zj (ns.getD 0 0 % 600);have hl:=mod_lt (a:=ns.getD 1 0) (b:=6) (by decide);obtain⟨W,eR,cu⟩:=aab (ns.getD 2 0 % 512);obtain⟨cs,lY⟩:=Tf ns 3 23;have Ba:=Bi ns 0;have bS:=Bi ns 1;have Sx:=Bi ns 2;have ao:b7 1 (bM vt (U (ae oMod (bM ow (U (I 0) (U (aa (.int 0)) ak))) (aa (.int 600))) ak)) [.bF (ns.map D.int),.e,.e,.e,.e,.e,.e,.e]=pure (.bo [.bF (ns.map D.int),.v (dm a k),.e,.e,.e,.e,.e,.e]):=
  fq (call_of (rs:=[.v (.int (ns.getD 0 0 % 600))]) (cons_of (bz (fU (by decide)) (call_of (rs:=[.bF (ns.map D.int),.v (.int 0)]) rfl Ba) rfl) rfl) uk)
 have az:b7 2 (ae oMod (bM ow (U (I 0) (U (aa (.int 1)) ak))) (aa (.int 6))) [.bF (ns.map D.int),.v (dm a k),.e,.e,.e,.e,.e,.e]=pure (.bo [.bF (ns.map D.int),.v (dm a k),.v (.int (ns.getD 1 0 % 6)),.e,.e,.e,.e,.e]):=
  fq (bz (fU (by decide)) (call_of (rs:=[.bF (ns.map D.int),.v (.int 1)]) rfl bS) rfl)
 have cI:∀dC:Slot,b7 3 (ae oMod (bM ow (U (I 0) (U (aa (.int 2)) ak))) (aa (.int 512))) [.bF (ns.map D.int),.v (dm a k),dC,.e,.e,.e,.e,.e]=pure (.bo [.bF (ns.map D.int),.v (dm a k),dC,.v (.int (ns.getD 2 0 % 512)),.e,.e,.e,.e]):=λ_=>
  fq (bz (fU (by decide)) (call_of (rs:=[.bF (ns.map D.int),.v (.int 2)]) rfl Sx) rfl)
 generalize ns.getD 1 0 % 6=me at *;generalize ns.getD 2 0 % 512=seed at *;obtain⟨S1,t1,af,_,f1⟩:=Yf [.eY [],.lst [],.f6 (h9.L ⟨me,e9 a k,0,0,.aQ,1⟩ 0)] me (dm a k) rfl;have h0:e0 S1 3 4 2 1 0 (za me (dm a k)) ⟨me,e9 a k,0,0,.aQ,1⟩ [] []:=⟨af,f1 2 _ akU rfl,f1 1 _ akU rfl,f1 0 _ akU rfl,by decide⟩;have v0:qt a k W me (za me (dm a k)) ⟨me,e9 a k,0,0,.aQ,1⟩ []:=⟨rfl,rfl,ami _,ami _,.nil _ _,_,_,_,_,_,_,_,_,rfl,ami _,.inl rfl⟩;obtain⟨s7,av,el⟩:=O8 aq ax eR hl.1 hl.2 cu (.bF (ns.map D.int)) (.v (dm a k)) (.v (.int me)) (.v (e9 a k)) cs .e _ _ _ _ _ _ _ h0 v0;rw[<-lY]at el;have lg:bL [] (hr 5 (z9 [.inr "me",.inr "place",.inr "books",.inr "number",.inr "turn",.inr "deed",.inr "grants"] (jQ (da (I 2)) (jQ (da (I 4)) (jQ (wC (.eY [])) (jQ (da (aa (.int 0))) (jQ (da (aa (.int 0))) (jQ (da (aa (.aQ))) (jQ (oT (da (dS ak))) mF)))))))) [.bF (ns.map D.int),.v (dm a k),.v (.int me),.v (.int seed),.v (e9 a k),.e,.e,.e]) (.bo [.bF (ns.map D.int),.v (dm a k),.v (.int me),.v (.int seed),.v (e9 a k),.v (.ref 2),.e,.e]) [.eY [],.lst [],.f6 (h9.L ⟨me,e9 a k,0,0,.aQ,1⟩ 0)]:=rfl;have n1:bL [.eY [],.lst [],.f6 (h9.L ⟨me,e9 a k,0,0,.aQ,1⟩ 0)] (hr 6 (wF "Asker" yR (eU (U (I 2) (U (I 1) ak)))) [.bF (ns.map D.int),.v (dm a k),.v (.int me),.v (.int seed),.v (e9 a k),.v (.ref 2),.e,.e]) (.bo [.bF (ns.map D.int),.v (dm a k),.v (.int me),.v (.int seed),.v (e9 a k),.v (.ref 2),.v (.ref 3),.e]) S1:=kZ (agi (rs:=[.v (.int me),.v (dm a k)]) (.of rfl) rfl t1) rfl;refine⟨av,qj rfl ?_⟩;exact c4 (aJ.of ao).to<|c4 (aJ.of az).to<|c4 (aJ.of (cI _)).to<|c4 (aJ.of (fq (d:=e9 a k) rfl)).to<|c4 lg<|c4 n1<|
  c4 (rH (CU (.of (show xx (I 0) (r4 (aa (.int 3))) (r4 (aa (.int 23))) _=pure (.fr (cutD (ns.map D.int) (some 3) (some 23)))from rfl))) el) rfl
end e3
namespace PySem.W.Fast
noncomputable def tw7601591513984474433:List PySem.Stmt:=(PySem.Challenge.pw_oneslate_k34_a_deed_ends.main.body.drop 79).take 13
theorem te7601591513984474433:tw7601591513984474433=tw7601591513984474433:=rfl
noncomputable def tw15164220596540206433:List PySem.Stmt:=(PySem.Challenge.pw_oneslate_k34_a_deed_ends.main.body.drop 40).take 9
theorem te15164220596540206433:tw15164220596540206433=tw15164220596540206433:=rfl
noncomputable def tw3767403310957095973:List PySem.Stmt:=(PySem.Challenge.pw_oneslate_k34_a_deed_ends.main.body.drop 78).take 1
theorem te3767403310957095973:tw3767403310957095973=tw3767403310957095973:=rfl
noncomputable def tw1684686285477365574:List PySem.Stmt:=(PySem.Challenge.pw_oneslate_k34_a_deed_ends.main.body.drop 25).take 15
theorem te1684686285477365574:tw1684686285477365574=tw1684686285477365574:=rfl
noncomputable def tw8431512104693815305:List PySem.Stmt:=(PySem.Challenge.pw_oneslate_k34_a_deed_ends.main.body.drop 14).take 1
theorem te8431512104693815305:tw8431512104693815305=tw8431512104693815305:=rfl
noncomputable def tw5638387042427571306:List PySem.Stmt:=(PySem.Challenge.pw_oneslate_k34_a_deed_ends.main.body.drop 15).take 10
theorem te5638387042427571306:tw5638387042427571306=tw5638387042427571306:=rfl
noncomputable def tw2370026898002741963:List PySem.Stmt:=(PySem.Challenge.pw_oneslate_k34_a_deed_ends.main.body.drop 49).take 14
theorem te2370026898002741963:tw2370026898002741963=tw2370026898002741963:=rfl
noncomputable def tw5588349716602555566:List PySem.Stmt:=(PySem.Challenge.pw_oneslate_k34_a_deed_ends.main.body.drop 92).take 11
theorem te5588349716602555566:tw5588349716602555566=tw5588349716602555566:=rfl
noncomputable def tw17960950409291614638:List PySem.Stmt:=(PySem.Challenge.pw_oneslate_k34_a_deed_ends.main.body.drop 12).take 2
theorem te17960950409291614638:tw17960950409291614638=tw17960950409291614638:=rfl
noncomputable def tw9181668233919858063:PySem.Program:={PySem.Challenge.pw_oneslate_k34_a_deed_ends with main:={PySem.Challenge.pw_oneslate_k34_a_deed_ends.main with body:=([0,2,3,4,5,6,8,9,10,12,13,14,15,17,18,19,20,21,22,23,24,25,26,27,28,29,30,32,33,34,35,36,38,39,40,41,42,43,44,45,46,48,49,50,51,52,53,54,55,56,57,58,60,61,62,63,64,65,66,67,68,69,70,71,72,73,75,76,78,80,81,82,83,84,85,86,87,88,89,90,91,92,93,94,95,96,97,98,99,100,101,102]:List Nat).filterMap fun i=>PySem.Challenge.pw_oneslate_k34_a_deed_ends.main.body[i]?}}
theorem te9181668233919858063:tw9181668233919858063=tw9181668233919858063:=rfl
noncomputable def tw1081178274353644432:List PySem.Stmt:=(PySem.Challenge.pw_oneslate_k34_a_deed_ends.main.body.drop 63).take 8
theorem te1081178274353644432:tw1081178274353644432=tw1081178274353644432:=rfl
noncomputable def tw17298363763623038354:List PySem.Stmt:=(PySem.Challenge.pw_oneslate_k34_a_deed_ends.main.body.drop 71).take 7
theorem te17298363763623038354:tw17298363763623038354=tw17298363763623038354:=rfl
noncomputable def tw323437146297104179:List PySem.Stmt:=(PySem.Challenge.pw_oneslate_k34_a_deed_ends.main.body.drop 0).take 12
theorem te323437146297104179:tw323437146297104179=tw323437146297104179:=rfl
noncomputable def tw7653924659587640213:List PySem.Stmt:=(PySem.Challenge.pw_oneslate_k34_a_deed_ends.main.body.drop 79).take 13
theorem te7653924659587640213:tw7653924659587640213=tw7653924659587640213:=rfl
noncomputable def tw2084586674176586196:List PySem.Stmt:=(PySem.Challenge.pw_oneslate_k34_a_deed_ends.main.body.drop 40).take 9
theorem te2084586674176586196:tw2084586674176586196=tw2084586674176586196:=rfl
noncomputable def tw11019231607967613964:List PySem.Stmt:=(PySem.Challenge.pw_oneslate_k34_a_deed_ends.main.body.drop 78).take 1
theorem te11019231607967613964:tw11019231607967613964=tw11019231607967613964:=rfl
noncomputable def tw9672522028782930067:List PySem.Stmt:=(PySem.Challenge.pw_oneslate_k34_a_deed_ends.main.body.drop 15).take 10
theorem te9672522028782930067:tw9672522028782930067=tw9672522028782930067:=rfl
noncomputable def tw18211981557369069102:List PySem.Stmt:=(PySem.Challenge.pw_oneslate_k34_a_deed_ends.main.body.drop 92).take 11
theorem te18211981557369069102:tw18211981557369069102=tw18211981557369069102:=rfl
noncomputable def tw15407750856133836539:List PySem.Stmt:=(PySem.Challenge.pw_oneslate_k34_a_deed_ends.main.body.drop 12).take 2
theorem te15407750856133836539:tw15407750856133836539=tw15407750856133836539:=rfl
noncomputable def tw4519751891803464779:List PySem.Stmt:=(PySem.Challenge.pw_oneslate_k34_a_deed_ends.main.body.drop 63).take 8
theorem te4519751891803464779:tw4519751891803464779=tw4519751891803464779:=rfl
def te17406328322700338286:=0
def te15918971536420160619:=0
def te5570424075864927716:=0
def te4667350754186684766:=0
def te387652946427209759:=0
def te15205443441318823001:=0
def te8824232195242048851:=0
def te4806741745675447834:=0
def te16031464991692197148:=0
def te11978314773571518614:=0
def te1700585794007642204:=0
def te13104860234759700195:=0
def te2016355480846891744:=0
def te17476300953430182054:=0
def te4771399661258187241:=0
def te8664491398051954370:=0
def te6079331590922717267:=0
def te18287828046673156445:=0
def te3054843562735525801:=0
def te2977797507967086560:=0
def te13046730384771212169:=0
def te15842513788174376528:=0
def te12870197556290009790:=0
def te11363525042387079795:=0
def te8592318987428389317:=0
def te14884322088148222303:=0
def te16473668559375141752:=0
def te13891270444568566028:=0
def te7823409716145739005:=0
def te4610208024875498581:=0
def te14804540135297242364:=0
def te11998469568938486210:=0
def te18072646829543685855:=0
def te8375886869835760197:=0
def te3850685214442304030:=0
def te7707039110354254053:=0
def te11544631388180238727:=0
def te8304992038958167692:=0
def te17236760112935363055:=0
def te10963916295125373939:=0
def te8242432824276691338:=0
def te4038169328891776168:=0
def te454794857545585567:=0
def te15270374727224914672:=0
def te5595463864112312010:=0
def te11016133238482543848:=0
def te8415688501017679747:=0
def te1986773527230174559:=0
def te14075154102230391822:=0
def te9444774121326966096:=0
def te4712375519741721973:=0
def te4653872624142209119:=0
def te16727654330072533616:=0
def te9816110571145656848:=0
def te1460313563882609356:=0
def te6507855273825056888:=0
def te12005577209994848986:=0
def te9810293899806647018:=0
def te7093378465452414805:=0
def te13096525525053966735:=0
def te10508603768733670827:=0
def te11714074243234489022:=0
def te16999617410936192905:=0
def te4962246343606523595:=0
def te10203124098976151416:=0
def te9763652797247335074:=0
def te5596604033444857591:=0
def te13925845066837351198:=0
def te4415227319821122107:=0
def te10780380829843716399:=0
def te10130325197759638189:=0
def te7141872636363211218:=0
def te14159761534361101534:=0
def te7208079553773616960:=0
def te12101880619524602901:=0
def te1817267899280152481:=0
def te6211579850512720671:=0
def te8323226995359987171:=0
def te3783029198173387239:=0
def te10253094327558114155:=0
def te7703058965450852573:=0
def te17870287217243257424:=0
def te8331012854857419310:=0
def te15095130218108674793:=0
def te7724847903897926888:=0
def te3357939707789713213:=0
def te2959766640881981863:=0
def te15335523825533228888:=0
def te12618506953811095746:=0
def te5406253352589452514:=0
def te11040295979731757275:=0
def te1993074473804827838:=0
def te6754157165894675849:=0
def te9004843283703503812:=0
def te7465287746863965101:=0
def te14057530024539954924:=0
def te15755846051587923585:=0
def te5176238330824878505:=0
def te2906910386041900491:=0
def te6276876342737900970:=0
def te1782612633990364026:=0
def te18008857317660373763:=0
def te3838310685145138180:=0
def te1712619129571051749:=0
def te7687674051912750614:=0
def te14947937997774465874:=0
def te8858345187540057581:=0
def te13826211590742740678:=0
def te12256719322527503691:=0
def te2570339331332770325:=0
def te17645615084948672024:=0
def te11984377785556607876:=0
def te18160556202179095052:=0
def te9813349539624694484:=0
def te16433570396761087801:=0
def te12091990716948231356:=0
def te2561023007684900553:=0
def te4062534799112668329:=0
def te16531545879239621398:=0
def te9365850287767165297:=0
def te3893125132727216717:=0
def te10933873811122615937:=0
def te11544929530596794719:=0
def te16561910739481090381:=0
def te14355112789790861046:=0
def te3314070201853904265:=0
def te12329630098439657416:=0
def te10421783186463710154:=0
def te7473428587102116975:=0
def te13025065225811813256:=0
def te7076913439393570203:=0
def te984648084723738683:=0
def te18081035430789037113:=0
def te18066971884938335627:=0
def te17304012341973846751:=0
def te16864264964875482591:=0
def te15751550458213765065:=0
def te3853739045722778572:=0
def te11011821429660209669:=0
def te1462810308615856489:=0
def te6138251492313730504:=0
def te15869219795023182285:=0
def te883416117902903883:=0
def te3944331416251202735:=0
def te9081076146570245659:=0
def te5592530740321558975:=0
def te14494637277858641242:=0
def te5200655928396437158:=0
def te6639782935623503793:=0
def te4264585118430681233:=0
def te17230235393605604212:=0
def te11600570764708585557:=0
def te2981198466200578961:=0
def te16442531083544532803:=0
def te5352489727928834704:=0
def te17330902055666207530:=0
def te8094625051014972376:=0
def te6802094164529260324:=0
def te5474063011993574793:=0
def te16059085862349112959:=0
def te6336001660334674547:=0
def te18364508523023764167:=0
def te17254967290730282782:=0
def te16100981789054394111:=0
def te5016436389570344349:=0
def te2615319316157843182:=0
def te16834105082122390565:=0
def te574303208588147818:=0
def te16615580929777440264:=0
def te3464739951356652828:=0
def te16583739173482298295:=0
def te9406531021051728164:=0
def te1485865131750621967:=0
def te18071892773163744842:=0
def te5024577008685168116:=0
end PySem.W.Fast
open PySem PySem.W PyProof.Rows
set_option maxHeartbeats 0 in
theorem PySem.Challenge.cw_oneslate_k34_a_deed_ends_holds : PySem.Challenge.rw_oneslate_k34_a_deed_ends.Holds := by
 w_on;o_law;k_head;(case hw=>w_witness2)
 k_fill
 refine a0.aff (l:=PySem.Challenge.rw_oneslate_k34_a_deed_ends) (k:=23) ["highest","with_cell","with_doing"] rfl rfl ⟨rfl,by decide,by decide⟩ ?ahd ?ahc (λw h σ=>PySem.W.km_in_of σ) ?F
 case ahd=>
  intro x ag
  rcases aju.mp ag with rfl|ag
  .exact⟨_,rfl⟩
  rcases aju.mp ag with rfl|ag
  .exact⟨_,rfl⟩
  rcases aju.mp ag with rfl|ag
  .exact⟨_,rfl⟩
  cases ag
 case ahc=>exact λp=>by kernel_rfl
 case F=>
  intro w mg ey h dy G uX
  have nW:a0.oY (aF.jW dy) mg "Asker" e3.ze:=by
   dsimp only[aF.jW]
   refine' a0.S3 dy G ?a ?nC ?hd ?po ?oI ?mk ?CX ?na
   (case a=>k_is);(case nC=>k_is);(case hd=>k_is);(case po=>k_is);(case oI=>k_is);(case mk=>k_is);(case CX=>k_is)
   case na=>
    simp only[akM]
    refine⟨by k_is,by k_is,by k_is,by k_is,by k_is,by k_is,by k_is,by k_is,by k_is,by k_is,by k_is,by k_is,by k_is,by k_is,λ_ h=>nomatch h⟩
  have Bp:a0.wV (aF.jW dy) mg "Asker" "begin" "Asker.begin" e3.EE ["self","deed"]:=by
   dsimp only[aF.jW]at nW ⊢
   refine' a0.UC dy G nW ?a ?f ?i ?l ?t ?c ?k rfl (λ_ _ _ _ _ _=>a0.z1 λ_ _=>⟨_,rfl,rfl⟩) (λ_ _ _ _ _ _=>a0.wz λ_=>⟨_,rfl,rfl⟩)
   (case a=>k_is);(case f=>k_is);(case i=>k_is);(case l=>k_is);(case t=>k_is);(case c=>k_is);(case k=>k_is)
  have Bq:aF.cp (aF.jW dy) mg "law" e3.wb ["script"]:=by
   dsimp only[aF.jW]
   refine' a0.H_ dy G ?a ?l ?c ?k (λ_ _ _ _ _ _=>a0.wz λ_=>rfl)
   (case a=>k_is);(case l=>k_is);(case c=>k_is);(case k=>k_is)
  have B0:∃u,mg "SMALL_LETTERS"=some u/\aF.RelV (.str "abcdefghijklmnopqrstuvwxyz") u:=by
   refine' ⟨_,PySem.W.mg_of dy G ?a,?b⟩
   (case a=>k_is);(case b=>exact⟨_,rfl⟩)
  have BZ:∃u,mg "MOST_LETTERS"=some u/\aF.RelV (.int 8) u:=by
   refine' ⟨_,PySem.W.mg_of dy G ?a,?b⟩
   (case a=>k_is);(case b=>exact⟨_,rfl⟩)
  letI:aF.a7:=a0.tA (aF.jW dy) ["highest","with_cell","with_doing"]
  have CT:a0.KTab PySem.Challenge.rw_oneslate_k34_a_deed_ends.prog w (aF.jW dy) mg "FORMS" e3.sF:=by
   dsimp only[aF.jW]
   refine' a0.Y_ dy G ?a ?s ?l ?k ?f
   (case a=>k_is);(case s=>decide);(case l=>k_is)
   case k=>
    intro e he
    rcases aju.mp he with rfl|he
    .exact⟨"put",rfl,rfl⟩
    rcases aju.mp he with rfl|he
    .exact⟨"add",rfl,rfl⟩
    rcases aju.mp he with rfl|he
    .exact⟨"swap",rfl,rfl⟩
    rcases aju.mp he with rfl|he
    .exact⟨"take",rfl,rfl⟩
    rcases aju.mp he with rfl|he
    .exact⟨"renew",rfl,rfl⟩
    rcases aju.mp he with rfl|he
    .exact⟨"free",rfl,rfl⟩
    rcases aju.mp he with rfl|he
    .exact⟨"sure",rfl,rfl⟩
    rcases aju.mp he with rfl|he
    .exact⟨"move",rfl,rfl⟩
    rcases aju.mp he with rfl|he
    .exact⟨"end",rfl,rfl⟩
    cases he
   case f=>exact⟨_,_,rfl,⟨_,rfl⟩,(a0.ou (xs:=["name","number"]) (by k_is) (by decide +kernel) (by exact⟨_,_,rfl,⟨_,_,rfl,rfl⟩⟩)),⟨_,_,rfl,⟨_,rfl⟩,(a0.ou (xs:=["name","number"]) (by k_is) (by decide +kernel) (by exact⟨_,_,rfl,⟨_,_,rfl,rfl⟩⟩)),⟨_,_,rfl,⟨_,rfl⟩,(a0.ou (xs:=["name","number","number"]) (by k_is) (by decide +kernel) (by exact⟨_,_,rfl,⟨_,_,rfl,⟨_,_,rfl,rfl⟩⟩⟩)),⟨_,_,rfl,⟨_,rfl⟩,(a0.ou (xs:=["fence"]) (by k_is) (by decide +kernel) (by exact⟨_,_,rfl,rfl⟩)),⟨_,_,rfl,⟨_,rfl⟩,(a0.ou (xs:=["fence"]) (by k_is) (by decide +kernel) (by exact⟨_,_,rfl,rfl⟩)),⟨_,_,rfl,⟨_,rfl⟩,(a0.ou (xs:=["fence"]) (by k_is) (by decide +kernel) (by exact⟨_,_,rfl,rfl⟩)),⟨_,_,rfl,⟨_,rfl⟩,(a0.ou (xs:=["fence","name","number"]) (by k_is) (by decide +kernel) (by exact⟨_,_,rfl,⟨_,_,rfl,⟨_,_,rfl,rfl⟩⟩⟩)),⟨_,_,rfl,⟨_,rfl⟩,(a0.ou (xs:=["hall"]) (by k_is) (by decide +kernel) (by exact⟨_,_,rfl,rfl⟩)),⟨_,_,rfl,⟨_,rfl⟩,(a0.ou (xs:=[]) (by k_is) (by decide +kernel) (by exact rfl)),rfl⟩⟩⟩⟩⟩⟩⟩⟩⟩
  have zU:a0.tQ PySem.Challenge.rw_oneslate_k34_a_deed_ends.prog w (aF.jW dy) mg "DOERS" e3.ru:=by
   dsimp only[aF.jW]
   refine' a0.Vg dy G ?a ?l ?k ?f
   (case a=>k_is);(case l=>k_is)
   case k=>
    intro e he
    rcases aju.mp he with rfl|he
    .exact⟨"put",rfl,rfl⟩
    rcases aju.mp he with rfl|he
    .exact⟨"add",rfl,rfl⟩
    rcases aju.mp he with rfl|he
    .exact⟨"swap",rfl,rfl⟩
    rcases aju.mp he with rfl|he
    .exact⟨"take",rfl,rfl⟩
    rcases aju.mp he with rfl|he
    .exact⟨"renew",rfl,rfl⟩
    rcases aju.mp he with rfl|he
    .exact⟨"free",rfl,rfl⟩
    rcases aju.mp he with rfl|he
    .exact⟨"sure",rfl,rfl⟩
    rcases aju.mp he with rfl|he
    .exact⟨"move",rfl,rfl⟩
    rcases aju.mp he with rfl|he
    .exact⟨"end",rfl,rfl⟩
    cases he
   case f=>
    simp only[akM]
    refine⟨⟨_,by k_is,by k_is⟩,⟨_,by k_is,by k_is⟩,⟨_,by k_is,by k_is⟩,⟨_,by k_is,by k_is⟩,⟨_,by k_is,by k_is⟩,⟨_,by k_is,by k_is⟩,⟨_,by k_is,by k_is⟩,⟨_,by k_is,by k_is⟩,⟨_,by k_is,by k_is⟩,λ_ h=>nomatch h⟩
  have C4:=by
   refine' a0.Dm (x:="highest") (st:=e3.tq) (ln:=["highest","with_cell","with_doing"]) dy G ?q' ?t2 ?jI ?dE ?dd ?vO ?ao ?az ?cI ?e6 ?lg ?n1 ?nn ?ii
   (case q'=>decide);(case t2=>k_is);(case jI=>k_is);(case dE=>exact rfl);(case dd=>k_is);(case vO=>exact rfl);(case ao=>exact rfl);(case az=>exact rfl);(case cI=>exact rfl);(case e6=>exact rfl);(case lg=>exact rfl);(case n1=>exact rfl);(case nn=>decide)
   case ii=>
    intro y ba bO
    rcases aju.mp ba with rfl|ba
    .rfl
    rcases aju.mp ba with rfl|ba
    .refine' a0.sY ?bq ?b1 bO
     case bq=>
      refine' a0.rv ?a1 ?a2 ?eO ?hy ?jy
      (case a1=>k_is);(case a2=>k_is);(case eO=>exact rfl);(case hy=>k_is);(case jy=>exact rfl)
     case b1=>decide
    rcases aju.mp ba with rfl|ba
    .refine' a0.sY ?bq ?b1 bO
     case bq=>
      refine' a0.rv ?a1 ?a2 ?eO ?hy ?jy
      (case a1=>k_is);(case a2=>k_is);(case eO=>exact rfl);(case hy=>k_is);(case jy=>exact rfl)
     case b1=>decide
    cases ba
  have C_:=by
   refine' a0.Dm (x:="with_cell") (st:=e3.rl) (ln:=["highest","with_cell","with_doing"]) dy G ?q' ?t2 ?jI ?dE ?dd ?vO ?ao ?az ?cI ?e6 ?lg ?n1 ?nn ?ii
   (case q'=>decide);(case t2=>k_is);(case jI=>k_is);(case dE=>exact rfl);(case dd=>k_is);(case vO=>exact rfl);(case ao=>exact rfl);(case az=>exact rfl);(case cI=>exact rfl);(case e6=>exact rfl);(case lg=>exact rfl);(case n1=>exact rfl);(case nn=>decide)
   case ii=>
    intro y ba bO
    rcases aju.mp ba with rfl|ba
    .refine' a0.sY ?bq ?b1 bO
     case bq=>
      refine' a0.rv ?a1 ?a2 ?eO ?hy ?jy
      (case a1=>k_is);(case a2=>k_is);(case eO=>exact rfl);(case hy=>k_is);(case jy=>exact rfl)
     case b1=>decide
    rcases aju.mp ba with rfl|ba
    .rfl
    rcases aju.mp ba with rfl|ba
    .refine' a0.sY ?bq ?b1 bO
     case bq=>
      refine' a0.rv ?a1 ?a2 ?eO ?hy ?jy
      (case a1=>k_is);(case a2=>k_is);(case eO=>exact rfl);(case hy=>k_is);(case jy=>exact rfl)
     case b1=>decide
    cases ba
  have C':=by
   refine' a0.Dm (x:="with_doing") (st:=e3.rm) (ln:=["highest","with_cell","with_doing"]) dy G ?q' ?t2 ?jI ?dE ?dd ?vO ?ao ?az ?cI ?e6 ?lg ?n1 ?nn ?ii
   (case q'=>decide);(case t2=>k_is);(case jI=>k_is);(case dE=>exact rfl);(case dd=>k_is);(case vO=>exact rfl);(case ao=>exact rfl);(case az=>exact rfl);(case cI=>exact rfl);(case e6=>exact rfl);(case lg=>exact rfl);(case n1=>exact rfl);(case nn=>decide)
   case ii=>
    intro y ba bO
    rcases aju.mp ba with rfl|ba
    .refine' a0.sY ?bq ?b1 bO
     case bq=>
      refine' a0.rv ?a1 ?a2 ?eO ?hy ?jy
      (case a1=>k_is);(case a2=>k_is);(case eO=>exact rfl);(case hy=>k_is);(case jy=>exact rfl)
     case b1=>decide
    rcases aju.mp ba with rfl|ba
    .refine' a0.sY ?bq ?b1 bO
     case bq=>
      refine' a0.rv ?a1 ?a2 ?eO ?hy ?jy
      (case a1=>k_is);(case a2=>k_is);(case eO=>exact rfl);(case hy=>k_is);(case jy=>exact rfl)
     case b1=>decide
    rcases aju.mp ba with rfl|ba
    .rfl
    cases ba
  have kt:aF.tS (aF.jW dy):=aF.Y5 _
  have Pt:a0.Fo mg:=by
   refine' ⟨ajV dy G ?agZ,ajV dy G ?ff,ajV dy G ?ew,ajV dy G ?k1,ajV dy G ?mK,ajV dy G ?Fg,ajV dy G ?Fh,ajV dy G ?ag9,ajV dy G ?aha,ajV dy G ?ahb,ajV dy G ?ag0,ajV dy G ?ag1,ajV dy G ?ag2,ajV dy G ?ag3,ajV dy G ?ag4,ajV dy G ?ag5,ajV dy G ?ag6,ajV dy G ?ag7,ajV dy G ?ag8⟩
   (case agZ=>k_is);(case ff=>k_is);(case ew=>k_is);(case k1=>k_is);(case mK=>k_is);(case Fg=>k_is);(case Fh=>k_is);(case ag9=>k_is);(case aha=>k_is);(case ahb=>k_is);(case ag0=>k_is);(case ag1=>k_is);(case ag2=>k_is);(case ag3=>k_is);(case ag4=>k_is);(case ag5=>k_is);(case ag6=>k_is);(case ag7=>k_is);(case ag8=>k_is)
  refine a0.P0 uX Bq (λ_ _ _ _ _ _ _=>rfl) (λbase Sm f fd F=>a0.Ze (e3.DY ⟨?_,?_,?_,?_,?_,?_,?_,?_,?_,?_,?_,?_,?_,?_,?_,?_,?_,?_,?_,?_,?_,?_,?_,?_,?_,?_,?_,?_,?_,?_,?_,?_,?_,?_,?_,?_,?_,?_,?_,Bp,?_,?_,?_,?_,?_,?_,?_,?_,?_,?_,?_,?_,?_,?_,?_,?_,?_,?_,?_,?_,?_,?_,?_,?_,?_,?_,?_,?_,?_,?_,?_,?_,?_,?_,?_,?_,?_,?_,Bq,nW,B0,BZ,zU,CT,C4,C_,C',Sm,Pt,kt⟩ F) e3.Zl)
  all_goals first
  |((try dsimp only[aF.jW]);refine' a0.H_ dy G ?a ?l ?c ?k (λ_ _ _ _ _ _=>by first|exact a0.O0 rfl|exact a0.wz λ_=>rfl|exact a0.z1 λ_ _=>rfl|exact a0.EZ λ_ _ _=>rfl|exact a0.E0 λ_ _ _ _=>rfl|exact a0.E1 λ_ _ _ _ _=>rfl|exact a0.E2 λ_ _ _ _ _ _=>rfl|exact a0.O1 λ_ _ _ _ _ _ _=>rfl);(case a=>k_is);(case l=>k_is);(case c=>k_is);(case k=>k_is))
  |(dsimp only[aF.jW]at nW ⊢;refine' a0.UB dy G nW ?a ?f ?i ?l ?c ?k (λ_ _ _ _ _ _=>by first|exact a0.wz λ_=>rfl|exact a0.z1 λ_ _=>rfl|exact a0.EZ λ_ _ _=>rfl|exact a0.E0 λ_ _ _ _=>rfl|exact a0.E1 λ_ _ _ _ _=>rfl|exact a0.E2 λ_ _ _ _ _ _=>rfl|exact a0.O1 λ_ _ _ _ _ _ _=>rfl);(case a=>k_is);(case f=>k_is);(case i=>k_is);(case l=>k_is);(case c=>k_is);(case k=>k_is))
