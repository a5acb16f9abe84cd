import PyProof.Rows.All
import Wide.All
import OpenK.AllK
import Wide.FinOn
import Lean
import PyProof.EqAt
import PyProof.EqKinds
import PyProof.TupleCall
import KE.KSortTup
import PyProof.ZipIter
import KE.KMinKey
import KE.KRevSl
import PyProof.Rows.EnumRows
import PyProof.EnumStmt
import KE.KIntText
import PySem.Challenge.RW_oneslate_k35_a_glance
set_option Elab.async false
set_option linter.all false
set_option maxRecDepth 100000
set_option bootstrap.genMatcherCode false
open Array renaming length_toList->akz,getD_eq_getD_getElem?->anI,getElem?_toList->aoB
open Bool renaming false_ne_true->ajO,and_eq_true->ako,eq_iff_iff->ak3,false_eq_true->amb
open False renaming elim->akl
open ForInStep renaming yield->ane
open Int renaming le_refl->anv,emod_lt_of_pos->anE,fdiv_eq_ediv_of_nonneg->anM,toNat_natCast->anT,emod_nonneg->aos
open List renaming length_map->ajE,getElem?_eq_some_iff->ajJ,mem_cons_of_mem->ajM,mem_cons->ajN,map_cons->ajP,length_append->ajQ,mem_cons_self->ajR,size_toArray->ajT,length_cons->ajW,getElem?_set_ne->ajX,mem_singleton->aj0,getElem?_append_right->aj3,range->aj6,getElem?_append_left->aj8,getElem?_map->akc,getD_eq_getElem?_getD->akg,mem_append->akp,getElem?_eq_getElem->akr,mem_map->aks,mem_of_getElem?->akt,lookup_cons->aku,map_append->akw,mem_append_right->aky,find?_cons_of_neg->akA,replicate->akB,nodup_cons->akD,all_eq_true->akE,getElem?_set_self->akF,append_nil->akG,length_nil->akH,length_set->akI,find?_cons_of_pos->akL,mem_range->akM,length_replicate->akP,length_drop->akV,forall_mem_cons->ak5,length->ak6,zip_cons_cons->alb,not_mem_nil->alc,lookup->alh,any_cons->alo,contains_iff_mem->als,getElem?_replicate->aly,pairwise_cons->alE,map_map->alF,mem_filter->alI,find?_cons->alJ,toArray->alY,mem_map_of_mem->al2,append_assoc->aml,length_singleton->amq,nodup_nil->amr,drop_drop->ams,length_take->amv,all_cons->amx,of_mem_zip->amD,getElem?_zip_eq_some->amF,length_range->amP,nodup_append->amR,zip_nil_left->amS,take_length->am1,map_fst_zip->am2,length_filter_le->am7,mem_append_left->am8,length_zip->ang,eq_nil_of_length_eq_zero->anm,filterMap_cons->ano,take_zero->anq,drop->anD,prefix_append->anF,zip_nil_right->anG,find?_eq_none->anH,take_add_one->anV,pairwise_map->anW,pairwise_iff_getElem->an1,mem_of_find?_eq_some->an4,map_nil->aoc,prefix_refl->aoe,any_eq_true->aoi,length_eq_zero_iff->aon,forIn_cons->aor,take_of_length_le->aow,length_pos_of_mem->aox,filter_eq_nil_iff->aoy
open List.Nodup renaming length_le_of_subset->anl
open List.Pairwise renaming nil->anU
open Nat renaming le_refl->ajK,le_of_ble_eq_true->ajU,ne_of_lt->aj1,zero_le->aj5,lt_of_lt_of_le->akj,lt_irrefl->akn,le_trans->akT,le_of_lt->ak0,le_of_eq->ali,sub_self->alD,not_lt_zero->amf,le_succ->amh,le_add_right->amw,lt_succ_of_lt->amQ,lt_succ_self->an9,zero_add->aod
open Ne renaming symm->amA
open Option renaming map_eq_some_iff->amk,bind_eq_some_iff->aol
open Option.some renaming inj->akd,injEq->aoO
open Or renaming inr->akC,inl->alz
open PyProof.Rows renaming seqObj->akk,envOfC->akO,slot_tuple_getitem->akQ,IntsAre->ak1,KeyOrd->alg,get?_update_seq->alL,listUpdate_at->al6,envOfC->amo,callWith_type1->amt,AllBare->am4,seqEpoch_at->anu,size_push'->an2,KeyKind->aoE,strKind->aoF,gt_int->aoH
open PySem renaming wpAny_bind->ajD,starEach->ajG,Shared->ajH,wpAny_pure->ajI,sizeLine->ajL,Program->ajY,Around->aj4,assignEach->aj7,backTo->aj9,sizeLine_eq->ake,mainGlobals->akf,wpAny_mono->akm,compareOp->akq,foldedSetIterable->akv,bootBuiltins->akx,wpAny_seqItems->akN,FuncData->akR,keywordEach->akU,wpAny_truthy_bool->akY,wpAny_holding->akZ,wpAny_field->ak2,swapsWith->ak8,mem_of_lookup->ak9,wpAny_Call_Name_kw->ala,wpAny_tryCatch->ale,wpAny_callSpecial?_slot->alf,wpAny_letGo->alj,sysModules->alm,attributeBase->aln,backToKw->alp,holding->alq,wpAny_pyIter_list->alv,wpAny_newObj_type->alw,behindInMarks->alx,binaryOp->alA,getMethod->alC,wpAny_setField_rec->alG,plainId_quiet->alO,rawInt->alP,bindArgs->alU,codeAny_mono->alV,wpAny_call_entry->alW,IsPair->alZ,standAt->al5,assign->al7,pyNext->al8,wpAny_pyIter_tuple->al9,closureFor->ama,seqItems?->amc,codeAny_builtin->amd,wpAny_updateSeq->ame,callWith->amg,NameKind->ami,codeAny->amn,wpAny_newList->amz,sliceBounds->amB,wpAny_passesOwn->amC,Arguments->amI,getItem->amN,Keyword->amO,Paired->amT,richCompare->amW,richCompare_meets_room->amX,strKind->am0,codeAmong->am5,DictEntry->am6,letOwnedTupleGo->ana,IsPart->anb,wpAny_rule->anf,wpAny_updateSeq_pair->anj,Builtin->ans,tupleKind->anx,PassesOwn->anz,findBy->anA,tupleKind_room_in1->anB,wpAny_standAt->anQ,wpAny_onRaise->anR,builtinsNs->anY,defaultsOf->an3,callerA->an7,valueAt->an8,wpAny_forIn_list->aog,wpAny_execs_nil->aoo,TriplesOk->aoq,subscripted->aou
open PySem.Around renaming under_plainId->alu,under->aoL
open PySem.AutoSeq1 renaming sub_tuple_tuple->amK
open PySem.BindsTo renaming of_defaults->aoI
open PySem.Builtin renaming bitNot->ak7,bitAnd->amm,bitOr->amZ
open PySem.Builtin.Builtins renaming bindParams->alH
open PySem.Builtin.Int renaming intBits->akW,intTooBig->aoA
open PySem.Builtin.List renaming listTooLong->amJ
open PySem.Builtin.Slice renaming slicePlaces->alR,sliceAdjust->amE,sliceApplied->anN
open PySem.Builtin.SmallTypes renaming nextOf->akK,ownedTupleIsFree->ald,ownedTupleHandOut->amL
open PySem.Builtin.Str renaming occurrences->al4
open PySem.Builtin.Tuple renaming tupleExact->alX,tupleCompareSizes->al3,tupleItemsOf->anO
open PySem.Calls renaming callWith_builtin->amj,spliced_cons->amH,evalArgs_plain->anc,Name_function_global->anL,spliced_nil->anS
open PySem.F renaming plain_max_loop->aki,entry_max_loop->alk,slot_dict_get->alK,slot_tuple_iterator_next->alN,slot_list_append->al0,type_list_append->al1,entry_dict_get->amU,slot_zip_next->ani,args_tuple_iterator_next_1->ant,entry_tuple_iterator_next->anJ,slot_dict_getitem->an0,args_dict_get_3->aoj,plainAttrs_dict->aok,plainAttrs_list->aom,type_dict_get->aoz
open PySem.Heap renaming get?_push_of_some->ajF,get?_push_size->ajS,lt_size->ajV,get?_push_ne->alQ,size_push->alT,SameBut->am9,size_update->aof,IsTuple->aoh,get?_update_other->aov
open PySem.Heap.IsTuple renaming push->aoP
open PySem.Heap.SameBut renaming update->akX
open PySem.NameKind renaming free->amy,cell->anP
open PySem.Obj renaming mapSeq->akh
open PySem.Paired renaming length->aoG
open PySem.PassesOwn renaming never->ank
open PySem.PyData renaming strOk->aj2,eqv->aoC
open PySem.SeqAt renaming shaped->aoN
open PySem.SeqAt.EqAt renaming int_str->aoJ,str_int->aoK,int_int->aoM
open PySem.Shared renaming heap->amY
open PySem.Str renaming ofString->ajZ
open PySem.Value renaming ref->aka,isStrOf->akJ,none->akS,bool->amu,type->amM,int->am3,notImplemented->anh,str->anw
open PySem.W renaming mg_none_of->akb,fnOf->alr,keepIn->alB,findIn->alM,emptyDict->alS,instObj->amG,nsIn->amV,codeIn->anp,mg_of->anr,kia_one->anC,kia_tup->anK,plainGet->anZ,callWith_K->aoa,cellsFrom_some->aob,methodCall_KW->aop,hasDictIn->aot
open PySem.Walks renaming list->aoD
open Sum renaming inl->an5,inr->an6
open True renaming intro->ak4
abbrev aS:=PySem.W.Frag
abbrev bq:=PySem.Str->Option PySem.Value
abbrev cN:=PySem.Value->PySem.Shared->Prop
abbrev c8:=List (PySem.Addr×PySem.Obj)
noncomputable section
namespace aF
open PySem PySem.Spec PyProof.Rows
abbrev Key:=Sum Int Str
def s6:Key->Value->Bool
 |.inl k,v=>Value.isInt k v|.inr x,v=>akJ x v
def Zn(w:World):Key->Int
 |.inl k=>hashInt k|.inr x=>hashStr w x
def oV:∀{k:Key}{v:Value},s6 k v=true->(∃i t,k=an5 i/\v=am3 i t)\/(∃x t,k=an6 x/\v=anw x t)
 |.inl i,v,h=>by
  obtain⟨t,e⟩:=Value.isInt_shape (k:=i) (v:=v) h;exact .inl ⟨i,t,rfl,e⟩
 |.inr x,v,h=>by
  obtain⟨t,e⟩:=Value.isStrOf_shape (x:=x) (v:=v) h;exact .inr ⟨x,t,rfl,e⟩
def Zo(i:Int)(t:Tok):s6 (.inl i) (.int i t)=true:=by simp[s6,Value.isInt]
def Zp(x:Str)(t:Tok):s6 (.inr x) (.str x t)=true:=by simp[s6,akJ]
def Zq(a b:Int):decide ((an5 a:Key)=an5 b)=(a==b):=by
 by_cases e:a=b
 .subst e;simp
 .have h:¬(an5 a:Key)=an5 b:=λq=>e (Sum.inl.inj q)
  rw[decide_eq_false h];exact(beq_eq_false_iff_ne.mpr e).symm
def Zt(a b:Str):decide ((an6 a:Key)=an6 b)=decide (a=b):=by
 by_cases e:a=b
 .subst e;simp
 .have h:¬(an6 a:Key)=an6 b:=λq=>e (Sum.inr.inj q)
  rw[decide_eq_false h,decide_eq_false e]
def Zr(a:Int)(b:Str):decide ((an5 a:Key)=an6 b)=false:=decide_eq_false (λq=>nomatch q)
def Zs(a:Str)(b:Int):decide ((an6 a:Key)=an5 b)=false:=decide_eq_false (λq=>nomatch q)
def ja(prog:ajY)(w:World):KeyKind prog w Key where
 is:=s6
 hash:=Zn w
 inj:=λv a b ar af=>by
  rcases oV ar with⟨i,t,rfl,rfl⟩|⟨x,t,rfl,rfl⟩
  .rcases oV af with⟨j,u,rfl,e⟩|⟨y,u,rfl,e⟩
   .injection e with ao _;rw[ao]
   .exact nomatch e
  .rcases oV af with⟨j,u,rfl,e⟩|⟨y,u,rfl,e⟩
   .exact nomatch e
   .injection e with ao _;rw[ao]
 byValue:=λk v h=>by
  rcases oV h with⟨i,t,rfl,rfl⟩|⟨x,t,rfl,rfl⟩<;>rfl
 pyHash:=λbL h=>by
  rcases oV bL with⟨i,t,rfl,rfl⟩|⟨x,t,rfl,rfl⟩
  .exact wpAny_pyHash_int h
  .exact wpAny_pyHash_str h
 eqBool:=λcC bL h=>by
  rcases oV cC with⟨i,t,rfl,rfl⟩|⟨x,t,rfl,rfl⟩
  .rcases oV bL with⟨j,u,rfl,rfl⟩|⟨y,u,rfl,rfl⟩
   .rw[Zq]at h;exact wpAny_eqBool_int h
   .rw[Zr]at h;exact aoJ i t y u _ _ _ _ h
  .rcases oV bL with⟨j,u,rfl,rfl⟩|⟨y,u,rfl,rfl⟩
   .rw[Zs]at h;exact aoK x t j u _ _ _ _ h
   .rw[Zt]at h;exact wpAny_eqBool_str h
 «strs»:=λk x t v h=>by
  rcases oV h with⟨i,u,rfl,e⟩|⟨y,u,rfl,e⟩
  .exact nomatch e
  .injection e with ao _
   subst ao;cases v<;>rfl
def aak(prog:ajY)(w:World)(i:Int)(t:Tok):(ja prog w).is (.inl i) (.int i t)=true:=Zo i t
def aal(prog:ajY)(w:World)(x:Str)(t:Tok):(ja prog w).is (.inr x) (.str x t)=true:=Zp x t
inductive V where
 |aG|aC (b:Bool)|int (i:Int)|str (x:Str)|x6 (b:Array UInt8)|yp (b:UInt64)|ref (a:Addr)|ty (n:String)
 deriving DecidableEq
def RelV:V->Value->Prop
 |.aG,u=>u=akS|.aC b,u=>u=amu b|.int i,u=>∃t,u=am3 i t|.str x,u=>∃t,u=anw x t|.x6 b,u=>∃t,u=Value.bytes b t|.yp b,u=>∃t,u=Value.float b t|.ref a,u=>u=aka a|.ty n,u=>u=amM n
abbrev Vals:List V->List Value->Prop:=amT RelV
def Vals.length{xs:List V}{us:List Value}(r:Vals xs us):xs.length=us.length:=aoG r
theorem Vals.get:∀{xs:List V}{us:List Value}{i:Nat}{x:V},Vals xs us->xs[i]? = some x->∃u,us[i]? = some u/\RelV x u
 |_,_,_,_,.nil,e=>by simp at e| _,_,0,_,.cons r _,e=>by simp at e;subst e;exact⟨_,rfl,r⟩|_,_,i+1,x,.cons _ t,e=>by
  obtain⟨u,ae,ah⟩:=Vals.get (i:=i) (x:=x) t (by simpa using e);exact⟨u,by simpa using ae,ah⟩
theorem Vals.append:∀{xs ys:List V}{us ws:List Value},Vals xs us->Vals ys ws->Vals (xs++ys) (us++ws)
 |_,_,_,_,.nil,s=>s|_,_,_,_,.cons r t,s=>.cons r (Vals.append t s)
theorem Vals.take:∀{xs:List V}{us:List Value}(n:Nat),Vals xs us->Vals (xs.take n) (us.take n)
 |_,_,0,_=>.nil|_,_,_+1,.nil=>.nil|_,_,n+1,.cons r t=>.cons r (Vals.take n t)
theorem Vals.drop:∀{xs:List V}{us:List Value}(n:Nat),Vals xs us->Vals (xs.drop n) (us.drop n)
 |_,_,0,r=>r|_,_,_+1,.nil=>.nil|_,_,n+1,.cons _ t=>Vals.drop n t
def iJ:Option V->Option Value->Prop
 |some v,some u=>RelV v u|none,none=>True|_,_=>False
def gk{κ:Type}:List (κ×V)->List (κ×Value)->Prop:=amT λ(p:κ×V) (q:κ×Value)=>p.1=q.1/\RelV p.2 q.2
def cI:Key->V
 |.inl i=>.int i|.inr x=>.str x
inductive gT where
 |lst (xs:List V)
 |tup (xs:List V)
 |fy (ak:List (Key×V))|hF (ak:List (List Key×V))
 |set (S:Int->Bool) (n:Nat)
 |ins (C b7:Addr) (aW:List (Str×V))
 |own (x:Addr)
 |FQ (aW:List (Str×V))
 |met (f x:Addr)
 |wR (lo aD:Int)
 |cg (o:Obj) (u:gT)
 |gw (ps:Array Value)
 |ext (qN:Heap->Prop)
abbrev aw:=Addr->Option gT
def upd(H:aw)(a:Addr)(o:gT):aw:=λb=>if b=a then some o else H b
def dG:upd H a o a=some o:=by unfold upd;rw[if_pos rfl]
def dm{H:aw}(h:b≠a):upd H a o b=H b:=by unfold upd;rw[if_neg h]
def afH:upd (upd H a o) a u=upd H a u:=by
 funext b;unfold upd;split<;>rfl
def D_{H:aw}(h:H a=some o)(h':H b=some u)(d:o≠u):a≠b:=by
 intro e;subst e;rw[h]at h';exact d (akd h')
def kx{H:aw}(h:H a=some o)(h':H b=none):a≠b:=by
 intro e;subst e;rw[h]at h';cases h'
section
variable(P:ajY)(w:World)
def gU(H:aw)(h:Heap)(a:Addr):gT->Prop
 |.lst xs=>xs.length<=ajL/\∃(its:List Value)(n:Nat),Vals xs its/\h.get? a=some { cls:=.type "list",data:=.seq its.toArray n }|.tup xs=>xs.length<=ajL/\∃its:List Value,Vals xs its/\IsTup h a its.toArray|.fy ak=>ak.length<=ajL/\(a==alm)=false/\∃vs,gk ak vs/\h.DictOf (ja P w) a vs|.hF ak=>ak.length<=ajL/\(a==alm)=false/\∃xs:List (List Key×Addr×Value),
   amT (λ(p:List Key×V) (q:List Key×Addr×Value)=>p.1=q.1/\H q.2.1=some (.tup (p.1.map cI))/\RelV p.2 q.2.2) ak xs/\
   ∃o ay cB,h.get? a=some o/\o.ExactDict/\o.data=.dict ay cB/\ay.toList=xs.map (entryOfKey (anx (ja P w)))/\(xs.map (·.1)).Nodup
 |.set S n=>h.SetOf (intKind P w) a S n|.ins C b7 aW=>H b7=some (.own a)/\aW.length<=1000/\b7≠a/\h.get? a=some (amG C b7)/\
   ∃eA,h.Ns1 b7 eA/\(∀f,iJ (aW.lookup f) (eA f))/\Within eA (aW.map (·.1))
 |.own _=>∃o,h.get? a=some o|.FQ aW=>∃eA,h.Ns1 a eA/\∀f,iJ (aW.lookup f) (eA f)|.wR lo aD=>∃t u v,h.get? a=some { cls:=.type "range",data:=.fields #[.int lo t,.int aD u,.int 1 v] }|.cg o u=>h.get? a=some o/\gU H h a u|.gw ps=>h.get? a=some { cls:=.none,data:=.fields ps }|.met f x=>h.get? a=some (W.methodObj (.ref f) (.ref x))|.ext qN=>qN h/\(∃o,h.get? a=some o)/\∀ae ah:Heap,qN ae->(∀o,ae.get? a=some o->ah.get? a=some o)->qN ah
def fs(H:aw)(h:Heap):Prop:=∀a o,H a=some o->gU P w H h a o
end
section
variable{P:ajY}{w:World}{H H':aw}{h h':Heap}{a:Addr}{o:gT}
def gU.lt(x:gU P w H h a o):a<h.objs.size:=by
 cases o with
 |lst xs=>obtain⟨_,_,_,_,e⟩:=x;exact ajV e
 |tup xs=>obtain⟨_,_,_,p⟩:=x;exact p.lt
 |fy ak=>obtain⟨_,_,_,_,o,_,_,e,_⟩:=x;exact ajV e
 |hF ak=>obtain⟨_,_,_,_,o,_,_,e,_⟩:=x;exact ajV e
 |set S n=>obtain⟨o,_,_,_,e,_⟩:=x;exact ajV e
 |ins C b7 aW=>obtain⟨_,_,_,e,_⟩:=x;exact ajV e
 |own y=>obtain⟨_,e⟩:=x;exact ajV e
 |FQ aW=>obtain⟨_,⟨_,_,_,e,_⟩,_⟩:=x;exact ajV e
 |wR lo aD=>obtain⟨_,_,_,e⟩:=x;exact ajV e
 |cg bD u=>obtain⟨e,_⟩:=x;exact ajV e
 |gw ps=>exact ajV (show h.get? a=some _ from x)|met f y=>exact ajV (show h.get? a=some _ from x)|ext qN=>obtain⟨_,⟨_,e⟩,_⟩:=x;exact ajV e
theorem amT.D1{α β:Type}{F G:α->β->Prop}:∀{qm:List α}{l₂:List β},amT F qm l₂->(∀a b,F a b->G a b)->amT G qm l₂
 |_,_,.nil,_=>.nil|_,_,.cons r t,f=>.cons (f _ _ r) (amT.D1 t f)
def gU.rZ(x:gU P w H h a o)(k:∀b u,(b=a\/H b=some (.own a))->h.get? b=some u->h'.get? b=some u)
  (bf:∀b,H b=some (.own a)->H' b=some (.own a)) (bO:∀b xs,H b=some (.tup xs)->H' b=some (.tup xs)):gU P w H' h' a o:=by
 induction o with
 |lst xs=>obtain⟨z,its,n,r,e⟩:=x;exact⟨z,its,n,r,k _ _ (.inl rfl) e⟩
 |tup xs=>obtain⟨z,its,r,bD,e,c⟩:=x;exact⟨z,its,r,bD,k _ _ (.inl rfl) e,c⟩
 |fy ak=>obtain⟨z,y,vs,r,bD,ay,cB,e,c⟩:=x;exact⟨z,y,vs,r,bD,ay,cB,k _ _ (.inl rfl) e,c⟩
 |hF ak=>
  obtain⟨z,y,xs,r,bD,ay,cB,e,c⟩:=x;exact⟨z,y,xs,amT.D1 r λp q z=>⟨z.1,bO _ _ z.2.1,z.2.2⟩,bD,ay,cB,k _ _ (.inl rfl) e,c⟩
 |set S n=>obtain⟨bD,ay,cB,t,e,c⟩:=x;exact⟨bD,ay,cB,t,k _ _ (.inl rfl) e,c⟩
 |ins C b7 aW=>
  obtain⟨d,z,ne,e,eA,⟨dj,ay,cB,az,c⟩,r⟩:=x;exact⟨bf _ d,z,ne,k _ _ (.inl rfl) e,eA,⟨dj,ay,cB,k _ _ (.inr d) az,c⟩,r⟩
 |own y=>obtain⟨bD,e⟩:=x;exact⟨bD,k _ _ (.inl rfl) e⟩
 |FQ aW=>obtain⟨eA,⟨dj,ay,cB,e,c⟩,r⟩:=x;exact⟨eA,⟨dj,ay,cB,k _ _ (.inl rfl) e,c⟩,r⟩
 |wR lo aD=>obtain⟨t,u,v,e⟩:=x;exact⟨t,u,v,k _ _ (.inl rfl) e⟩
 |cg bD u a6=>obtain⟨e,q⟩:=x;exact⟨k _ _ (.inl rfl) e,a6 q⟩
 |gw ps=>
  have e:h.get? a=some { cls:=.none,data:=.fields ps }:=x;show h'.get? a=some { cls:=.none,data:=.fields ps };exact k a _ (.inl rfl) e
 |met f y=>
  have e:h.get? a=some (W.methodObj (.ref f) (.ref y)):=x;show h'.get? a=some (W.methodObj (.ref f) (.ref y));exact k a _ (.inl rfl) e
 |ext qN=>obtain⟨p,⟨o,e⟩,st⟩:=x;exact⟨st _ _ p λo q=>k _ _ (.inl rfl) q,⟨o,k _ _ (.inl rfl) e⟩,st⟩
def fs.lt(x:fs P w H h)(e:H a=some o):a<h.objs.size:=(x a o e).lt
def fs.fresh(x:fs P w H h)(e:h.objs.size<=a):H a=none:=by
 cases q:H a with
 |none=>rfl|some u=>exact absurd (akj (x.lt q) e) (akn _)
theorem fs.kept(x:fs P w H h)(k:∀b u,h.get? b=some u->h'.get? b=some u):fs P w H h':=λa o e=>
 (x a o e).rZ (λb u _ q=>k b u q) (λ_ q=>q) λ_ _ q=>q
def fs.laid(x:fs P w H h)(k:∀b u,h.get? b=some u->h'.get? b=some u)(aK:h.objs.size<=a)(new:gU P w (upd H a o) h' a o):fs P w (upd H a o) h':=λb u e=>by
 have aH:=x.fresh aK
 by_cases af:b=a
 .subst af;rw[dG]at e;cases e;exact new
 .rw[dm af]at e
  exact(x b u e).rZ (λc v _ q=>k c v q) (λc q=>by rw[dm (kx q aH)];exact q) λc xs q=>by rw[dm (kx q aH)];exact q
end
def gc(H:aw)(a:Addr)(u:gT):Prop:=H a=some u\/∃o,H a=some (.cg o u)
def gc.ok(r:gc H a u)(x:fs P w H h):gU P w H h a u:=by
 rcases r with r|⟨o,r⟩
 .exact x a u r
 .obtain⟨_,q⟩:=x a _ r
  exact q
def uh:Option gT->Prop
 |some (.lst _)=>True|some (.fy _)=>True|some (.hF _)=>True|some (.set _ _)=>True|some (.ins _ _ _)=>True|some (.ext _)=>True|_=>False
section
variable{P:ajY}{w:World}{H:aw}{h h':Heap}{x e:Addr}{o':gT}
def fs.write(ok:fs P w H h)(ku:uh (H x))(he:e=x\/H e=some (.own x))(k:∀b u,b≠e->h.get? b=some u->h'.get? b=some u)(sS:∃u,h'.get? e=some u)
  (new:gU P w (upd H x o') h' x o'):fs P w (upd H x o') h':=λb u q=>by
 have Mj:∀c y,H c=some (.own y)->c≠x:=λc y r z=>by subst z;rw[r]at ku;exact ku
 have aaQ:∀c xs,H c=some (.tup xs)->c≠x:=λc xs r z=>by subst z;rw[r]at ku;exact ku
 by_cases af:b=x
 .subst af;rw[dG]at q;cases q;exact new
 .rw[dm af]at q
  by_cases rj:b=e
  .have hM:H b=some (.own x):=by
    rcases he with z|z
    .exact absurd (rj.trans z) af
    .rw[rj];exact z
   rw[q]at hM;cases hM;obtain⟨v,bL⟩:=sS;exact⟨v,by rw[rj];exact bL⟩
  .refine(ok b u q).rZ (λc v aI r=>k c v ?_ r) (λc r=>by rw[dm (Mj c b r)];exact r) λc xs r=>by rw[dm (aaQ c xs r)];exact r
   rcases aI with rfl|aI
   .exact rj
   .rintro rfl
    rcases he with z|z
    .exact Mj c b aI z
    .rw[aI]at z;cases z;exact af rfl
end
structure gV(aW ex:List Addr)(H H':aw)(h h':Heap):Prop where
 keep:∀b o,h.get? b=some o->H b=none->b∉aW->b∉ex->h'.get? b=some o
 slot:∀b o,h.get? b=some o->H b=none->b∈aW->b∉ex->∃bW,h'.get? b=some { o with slots:=bW }
 free:∀b o,h.get? b=some o->H b=none->b∉ex->H' b=none
 there:∀b o,h.get? b=some o->b∉ex->∃o',h'.get? b=some o'
 qF:∀b xs,H b=some (.tup xs)->H' b=some (.tup xs)
 oA:∀b o u,H b=some (.cg o u)->H' b=some (.cg o u)
 ph:∀b ps,H b=some (.gw ps)->∃more,H' b=some (.gw (ps++more))
section
variable{aW ex:List Addr}{H H1:aw}{h ae h':Heap}{a x e:Addr}{o:gT}
def gV.any(u:gV aW ex H H1 h ae)(q:h.get? b=some bD)(n:H b=none)(ag:b∉ex):∃bW,ae.get? b=some { bD with slots:=bW }:=by
 by_cases af:b∈aW
 .exact u.slot b bD q n af ag
 .exact⟨bD.slots,u.keep b bD q n af ag⟩
def gV.kept(k:∀b u,h.get? b=some u->h'.get? b=some u):gV aW ex H H h h':=
 ⟨λb bD q _ _ _=>k b bD q,λb bD q _ _ _=>⟨bD.slots,k b bD q⟩,λ_ _ _ n _=>n,λb bD q _=>⟨bD,k b bD q⟩,λ_ _ q=>q,λ_ _ _ q=>q,λ_ ps q=>⟨#[],by rw[q];simp⟩⟩
def gV.refl:gV aW ex H H h h:=gV.kept λ_ _ q=>q
def gV.laid(k:∀b u,h.get? b=some u->h'.get? b=some u)(aK:h.objs.size<=a)(aH:H a=none):gV aW ex H (upd H a o) h h' where
 keep:=λb u q _ _ _=>k b u q
 slot:=λb u q _ _ _=>⟨u.slots,k b u q⟩
 free:=λb u q n _=>by rw[dm (aj1 (akj (ajV q) aK))];exact n
 there:=λb u q _=>⟨u,k b u q⟩
 qF:=λb xs q=>by rw[dm (kx q aH)];exact q
 oA:=λb u xs q=>by rw[dm (kx q aH)];exact q
 ph:=λb ps q=>⟨#[],by rw[dm (kx q aH),q];simp⟩
def gV.write(ku:uh (H x))(he:e=x\/H e=some (.own x))(k:∀b u,b≠e->h.get? b=some u->h'.get? b=some u)(sS:∃u,h'.get? e=some u):gV aW ex H (upd H x o) h h':=by
 have ag:∀b,H b=none->b≠x:=λb n z=>by subst z;rw[n]at ku;exact ku
 have af:∀b,H b=none->b≠e:=λb n z=>by
  subst z;rcases he with r|r
  .exact ag b n r
  .rw[n]at r;cases r
 have hm:∀b u,H b=some u->¬uh (some u)->b≠x:=λb u q nm z=>by subst z;rw[q]at ku;exact nm ku
 refine⟨λb u q n _ _=>k b u (af b n) q,λb u q n _ _=>⟨u.slots,k b u (af b n) q⟩,λb u q n _=>by rw[dm (ag b n)];exact n,λb u q _=>?_,
  λb xs q=>by rw[dm (hm b _ q λz=>z)];exact q,λb u xs q=>by rw[dm (hm b _ q λz=>z)];exact q,λb ps q=>⟨#[],by rw[dm (hm b _ q λz=>z),q];simp⟩⟩
 by_cases rj:b=e
 .subst rj;exact sS
 .exact⟨u,k b u rj q⟩
end
def Ah(h:Heap)(H:aw):List Addr:=(aj6 h.objs.size).filter λa=>(H a).isSome
def oJ(h:Heap)(H:aw):Heap:=W.hideAll h (Ah h H)
def X'(h:Heap)(H:aw):(oJ h H).objs.size=h.objs.size:=W.hideAll_size _ _
def C0{h:Heap}{H:aw}(e:h.get? b=some o)(n:H b=none):(oJ h H).get? b=some o:=
 W.hideAll_get _ e λhm=>by
  have q:(H b).isSome=true:=(alI.mp hm).2;rw[n]at q;simp at q
def aaU{h:Heap}{H:aw}(e:(oJ h H).get? b=some o):h.get? b=some o/\H b=none:=by
 have cF:h.get? b=some o:=W.of_hideAll (Ah h H) e;refine⟨cF,?_⟩
 cases q:H b with
 |none=>rfl|some x=>
  have hm:b∈Ah h H:=alI.mpr ⟨akM.mpr (ajV cF),by simp[q]⟩;have z:(oJ h H).get? b=none:=W.hideAll_none (Ah h H) hm;rw[z]at e;cases e
def Qy(g h:Heap)(L:Addr):List (Addr×Obj):=(aj6 h.objs.size).filterMap λa=>if a=L\/(g.get? a).isSome=true then none else(h.get? a).map λo=>(a,o)
def rest(g h:Heap)(L d:Addr):List (Addr×Obj):=(Qy g h L).filter λp=>decide (p.1≠d)
structure Mod(K:aS)(mg:bq)(base:Heap):Prop where
 s7:K.In base
 glob:base.Ns akf mg
 blt:∃di,base.Ns anY di/\∀x:Str,x≠"__name__"->di x=akx x
 nolimit:base.NoLimit
structure aT where
 prog:ajY
 w:World
 K:aS
 mg:Str->Option Value
 base:Heap
 A:aj4
 N:List Str
 hg:ajH
 H₀:aw
 env:Env
 outer:List Env
 stack:List Env
 ex:List Addr
 fn:Str->Bool
 calm:Bool
 lV:List (Addr×Obj)
 d2:Value->ajH->Prop
def mu(l:List Env):List Addr:=l.filterMap (·.frame)
abbrev aT.aW(X:aT):List Addr:=mu X.outer
def qX(sc:Scope)(x:Str):Prop:=sc.names.lookup x=some .local\/sc.names.lookup x=some .cell\/sc.names.lookup x=some .free
def Loc(sc:Scope)(x:Str):Prop:=sc.names.lookup x=some .local\/sc.names.lookup x=some .cell
def Look(env:Env)(h:Heap)(m:bq)(x:Str)(u:Value):Prop:=
 (env.kindOf x=some .local/\m x=some u)\/((env.kindOf x=some .cell\/env.kindOf x=some .free)/\∃c,env.cells.lookup x=some c/\h.IsCell c (some u))
structure aT.Ok(X:aT):Prop where
 mod:Mod X.K X.mg X.base
 kind:X.env.scope.kind=.function
 glob:X.env.globals=akf
 blt:X.env.builtins=anY
 above:X.hg.heap.objs.size<=X.env.locals
 inj:∀x y c,X.env.cells.lookup x=some c->X.env.cells.lookup y=some c->x=y
 has:∀x,(X.env.kindOf x=some .cell\/X.env.kindOf x=some .free)->∃c,X.env.cells.lookup x=some c
 uE:∀x c,X.fn x=true->X.env.cells.lookup x=some c->X.hg.heap.objs.size<=c
 hd:X.calm=true->X.A.handled=none
 frames:X.A.frames=some X.stack
 z9:X.stack=X.outer\/(X.stack=X.env::X.outer/\X.env.frame=some X.env.locals)
 yl:∀b∈X.ex,b≠X.env.locals/\∀x c,X.env.cells.lookup x=some c->c≠b
 bs:∀b o,X.base.get? b=some o->X.hg.heap.get? b=some o/\X.H₀ b=none
 ma:X.base.objs.size<=X.hg.heap.objs.size
 wd:∀b o,X.base.get? b=some o->b∉X.ex
 uO:∀b∈X.ex,b∉X.aW
 kU:X.hg.heap.FunFrames X.base X.outer
 p6:∀b∈X.aW,X.H₀ b=none
structure Inv(X:aT)(zn:c8)(Y:List (Option V))(H:aw)(s:ajH):Prop where
 ok:X.Ok
 os:s.os=X.hg.os
 bare:am4 s.gens
 base:gV X.aW X.ex X.H₀ H X.hg.heap s.heap
 loc:∃m,s.heap.Ns X.env.locals m/\∀(i:Nat)(x:Str)(v:V),X.N[i]? = some x->Y[i]? = some (some v)->qX X.env.scope x->∃u,RelV v u/\Look X.env s.heap m x u
 cell:∀x c,X.env.cells.lookup x=some c->∃v,s.heap.IsCell c v
 free:H X.env.locals=none
 mr:∀x c,X.env.cells.lookup x=some c->H c=none
 pin:∀p∈X.lV++zn,s.heap.get? p.1=some p.2/\H p.1=none/\p.1≠X.env.locals/\p.1∉X.aW/\∀v,p.2.data≠.cell v
 bP:fs X.prog X.w H s.heap
 len:Y.length=X.N.length
section
variable{X:aT}{zn:c8}{Y:List (Option V)}{H H':aw}{s:ajH}{h':Heap}
def aT.Ok.aaK(ok:X.Ok)(e:X.base.get? b=some o):b∉X.aW:=λaf=>by
 have:=(ok.kU.mem af).1;rw[e]at this;cases this
def Inv.bs(J:Inv X zn Y H s):∀b o,X.base.get? b=some o->s.heap.get? b=some o/\H b=none:=λb o e=>
 ⟨J.base.keep b o (J.ok.bs b o e).1 (J.ok.bs b o e).2 (J.ok.aaK e) (J.ok.wd b o e),J.base.free b o (J.ok.bs b o e).1 (J.ok.bs b o e).2 (J.ok.wd b o e)⟩
def Inv.cP(J:Inv X zn Y H s):∀b o,X.base.get? b=some o->s.heap.get? b=some o:=λb o e=>(J.bs b o e).1
def Inv.mod(J:Inv X zn Y H s):Mod X.K X.mg X.base:=J.ok.mod
def Inv.fp(J:Inv X zn Y H s):X.K.In s.heap:=J.ok.mod.s7.keeps J.cP
def Inv.fr(J:Inv X zn Y H s):∃m,Fr X.base X.env.locals s.heap m:=
 let⟨m,aH,_⟩:=J.loc
 ⟨m,aH,J.cP,akT J.ok.ma J.ok.above⟩
def Inv.lt(J:Inv X zn Y H s):X.env.locals<s.heap.objs.size:=let⟨_,aH,_⟩:=J.loc;aH.lt
def Inv.lY(J:Inv X zn Y H s):X.hg.heap.objs.size<=s.heap.objs.size:=akT J.ok.above (ak0 J.lt)
def Inv.aaM(J:Inv X zn Y H s)(h:s.heap.objs.size<=a):a∉X.aW:=λaf=>by
 obtain⟨_,o,bf,_⟩:=J.ok.kU.mem af;exact absurd (akj (ajV bf) (akT J.lY h)) (akn _)
def Inv.q1(J:Inv X zn Y H s):∀x c,X.env.cells.lookup x=some c->c≠X.env.locals:=λx c e z=>by
 obtain⟨v,o,bf,hd⟩:=J.cell x c e;obtain⟨m,⟨o',ay,cB,iw,va,_⟩,_⟩:=J.loc;rw[z,iw]at bf;cases bf;rw[va]at hd;cases hd
def Inv.kU(J:Inv X zn Y H s):s.heap.FunFrames X.base X.outer:=by
 have all:∀(l:List Env),(∀b∈mu l,b∈X.aW)->X.hg.heap.FunFrames X.base l->s.heap.FunFrames X.base l:=by
  intro l
  induction l with
  |nil=>intro _ _;trivial|cons env r a6=>
   intro aE au;obtain⟨ax,⟨L,o,hf,aH,bf,hd⟩,aB⟩:=au;have j1:L∈X.aW:=aE L (by unfold mu;rw[ano,hf];exact ajR);obtain⟨bW,e⟩:=J.base.slot L o bf (J.ok.p6 L j1) j1 λz=>J.ok.uO L z j1
   exact⟨ax,⟨L,_,hf,aH,e,hd⟩,a6 (λb af=>aE b (by unfold mu;rw[ano,hf];exact ajM _ af)) aB⟩
 exact all X.outer (λ_ af=>af) J.ok.kU
def Inv.stack(J:Inv X zn Y H s):s.heap.FunFrames X.base X.stack:=by
 rcases J.ok.z9 with e|⟨e,hf⟩
 .rw[e];exact J.kU
 .rw[e]
  obtain⟨m,aH,_⟩:=J.loc;refine .cons (by rw[J.ok.kind];decide) hf aH ?_ J.kU;exact Heap.get?_none_of_le (akT J.ok.ma J.ok.above)
def Inv.Fj(J:Inv X zn Y H s):∀b∈mu X.stack,b∈X.env.locals::X.aW:=λb af=>by
 rcases J.ok.z9 with e|⟨e,hf⟩
 .rw[e]at af;exact ajM _ af
 .rw[e]at af
  unfold mu at af;rw[ano,hf]at af;exact af
def Inv.OS(J:Inv X zn Y H s):∀b∈mu X.stack,H b=none:=λb af=>by
 rcases ajN.mp (J.Fj b af)with e|af
 .rw[e];exact J.free
 .obtain⟨_,o,bf,_⟩:=J.ok.kU.mem af
  exact J.base.free b o bf (J.ok.p6 b af) λz=>J.ok.uO b z af
def Inv.step{g':Array GenState}{t':Nat}{d':Drawn}{ch:List Addr}(J:Inv X zn Y H s)
  (nI:∀b∈ch,(b∈X.ex\/X.hg.heap.objs.size<=b)/\b≠X.env.locals/\(∀x c,X.env.cells.lookup x=some c->c≠b)/\∀p∈X.lV++zn,p.1≠b)
  (keep:∀b o,b≠X.env.locals->b∉X.aW->b∉ch->s.heap.get? b=some o->H b=none->h'.get? b=some o)
  (slot:∀b o,b≠X.env.locals->b∈X.aW->b∉ch->s.heap.get? b=some o->H b=none->∃bW,h'.get? b=some { o with slots:=bW }) (free:∀b o,b∉ch->s.heap.get? b=some o->H b=none->H' b=none)
  (there:∀b o,b∉ch->s.heap.get? b=some o->∃o',h'.get? b=some o')
  (qF:∀b xs,H b=some (.tup xs)->H' b=some (.tup xs)) (oA:∀b o u,H b=some (.cg o u)->H' b=some (.cg o u)) (ph:∀b ps,H b=some (.gw ps)->∃more,H' b=some (.gw (ps++more)))
  (ns:∀m,s.heap.Ns X.env.locals m->h'.Ns X.env.locals m) (bP:fs X.prog X.w H' h') (aU:am4 g') :
  Inv X zn Y H' { s with heap:=h',gens:=g',drawn:=d',toks:=t' }:=by
 have Ma:∀b o,X.hg.heap.get? b=some o->b≠X.env.locals:=λb o e=>aj1 (akj (ajV e) J.ok.above)
 have zC:∀b o,X.hg.heap.get? b=some o->b∉X.ex->b∉ch:=λb o e ag af=>by
  rcases(nI b af).1 with z|z
  .exact ag z
  .exact absurd (akj (ajV e) z) (akn _)
 have cellK:∀x c,X.env.cells.lookup x=some c->∀v,s.heap.IsCell c v->h'.IsCell c v:=λx c e v aX=>by
  obtain⟨o,bf,hd⟩:=aX;have v':c∉ch:=λz=>(nI c z).2.2.1 x c e rfl
  by_cases aI:c∈X.aW
  .obtain⟨bW,q⟩:=slot c o (J.q1 x c e) aI v' bf (J.mr x c e)
   exact⟨_,q,hd⟩
  .exact⟨o,keep c o (J.q1 x c e) aI v' bf (J.mr x c e),hd⟩
 refine⟨J.ok,J.os,aU,⟨λb o e n af ag=>?_,λb o e n af ag=>?_,λb o e n ag=>?_,λb o e ag=>?_,λb xs e=>qF b xs (J.base.qF b xs e),λb o xs e=>oA b o xs (J.base.oA b o xs e),λb ps e=>?_⟩,?_,λx c e=>?_,?_,λx c e=>?_,λp aK=>?_,bP,J.len⟩
 .exact keep b o (Ma b o e) af (zC b o e ag) (J.base.keep b o e n af ag) (J.base.free b o e n ag)
 .obtain⟨bW,ao⟩:=J.base.slot b o e n af ag
  obtain⟨n8,az⟩:=slot b _ (Ma b o e) af (zC b o e ag) ao (J.base.free b o e n ag);exact⟨n8,az⟩
 .obtain⟨o',ao⟩:=J.base.there b o e ag
  exact free b o' (zC b o e ag) ao (J.base.free b o e n ag)
 .obtain⟨o',ao⟩:=J.base.there b o e ag
  exact there b o' (zC b o e ag) ao
 .obtain⟨mN,ao⟩:=J.base.ph b ps e
  obtain⟨oX,az⟩:=ph b _ ao;exact⟨mN++oX,by rw[az,Array.append_assoc]⟩
 .obtain⟨m,aH,au⟩:=J.loc
  refine⟨m,ns m aH,λi x v ao az cG=>?_⟩;obtain⟨u,r,l⟩:=au i x v ao az cG;refine⟨u,r,?_⟩;rcases l with l|⟨k,c,e,z⟩
  .exact .inl l
  .exact .inr ⟨k,c,e,cellK x c e _ z⟩
 .obtain⟨v,z⟩:=J.cell x c e
  exact⟨v,cellK x c e v z⟩
 .obtain⟨m,⟨o,_,_,bf,_⟩,_⟩:=J.loc
  exact free _ o (λz=>(nI _ z).2.1 rfl) bf J.free
 .obtain⟨v,o,bf,hd⟩:=J.cell x c e
  exact free c o (λz=>(nI c z).2.2.1 x c e rfl) bf (J.mr x c e)
 .obtain⟨e,n,ne,lU,d⟩:=J.pin p aK
  have v':p.1∉ch:=λz=>(nI p.1 z).2.2.2 p aK rfl
  exact⟨keep p.1 p.2 ne lU v' e n,free p.1 p.2 v' e n,ne,lU,d⟩
def Inv.un{t':Nat}(J:Inv X zn Y H s)(u:gV X.aW [] H H' s.heap h')(bP:fs X.prog X.w H' h'):Inv X zn Y H' { s with heap:=h',toks:=t' }:=by
 obtain⟨m,⟨o,ay,cB,bf,r⟩,_⟩:=id J.loc;obtain⟨bW,j1⟩:=u.any bf J.free (by simp);exact J.step (g':=s.gens) (d':=s.drawn) (ch:=[]) (λ_ z=>nomatch z) (λb o _ af _ e n=>u.keep b o e n af (by simp)) (λb o _ af _ e n=>u.slot b o e n af (by simp)) (λb o _ e n=>u.free b o e n (by simp)) (λb o _ e=>u.there b o e (by simp)) u.qF u.oA u.ph (λeQ hm=>by
  obtain⟨o',B_,B6,iw,bT⟩:=hm;rw[bf]at iw;cases iw;exact⟨_,B_,B6,j1,bT⟩) bP J.bare
def Inv.call{g':Array GenState}{t':Nat}{d':Drawn}{ch:List Addr}(J:Inv X zn Y H s)(u:gV (mu X.stack) ch H H' s.heap h')(bP:fs X.prog X.w H' h')(aU:am4 g')
  (nI:∀b∈ch,(b∈X.ex\/X.hg.heap.objs.size<=b)/\b≠X.env.locals/\(∀x c,X.env.cells.lookup x=some c->c≠b)/\∀p∈X.lV++zn,p.1≠b) :
  Inv X zn Y H' { s with heap:=h',gens:=g',drawn:=d',toks:=t' }:=by
 obtain⟨m,⟨o,ay,cB,bf,r⟩,_⟩:=id J.loc;obtain⟨bW,j1⟩:=u.any bf J.free λz=>(nI _ z).2.1 rfl
 exact J.step (ch:=ch) nI (λb o j1 af aI e n=>u.keep b o e n (λz=>(ajN.mp (J.Fj b z)).elim j1 af) aI) (λb o _ _ aI e n=>u.any e n aI) (λb o aI e n=>u.free b o e n aI) (λb o aI e=>u.there b o e aI) u.qF u.oA u.ph (λeQ hm=>by
  obtain⟨o',B_,B6,iw,bT⟩:=hm;rw[bf]at iw;cases iw;exact⟨_,B_,B6,j1,bT⟩) bP aU
def Inv.turned{t':Nat}{it:Addr}(J:Inv X zn Y H s)(k:∀b o,b≠it->s.heap.get? b=some o->h'.get? b=some o)(aH:H it=none)(j1:it≠X.env.locals)
  (ae:it∈X.ex\/X.hg.heap.objs.size<=it) (ah:∀x c,X.env.cells.lookup x=some c->c≠it) (bF:∀p∈X.lV++zn,p.1≠it):Inv X zn Y H { s with heap:=h',toks:=t' }:=by
 have wb:∀b u,H b=some u->b≠it:=λb u e z=>by rw[z,aH]at e;cases e
 refine J.step (g':=s.gens) (d':=s.drawn) (ch:=[it]) (λb af=>?_) (λb o _ _ aI e _=>k b o (λz=>aI (by simp[z])) e) (λb o _ _ aI e _=>⟨o.slots,k b o (λz=>aI (by simp[z])) e⟩) (λ_ _ _ _ n=>n)
  (λb o aI e=>⟨o,k b o (λz=>aI (by simp[z])) e⟩) (λ_ _ e=>e) (λ_ _ _ e=>e) (λb ps e=>⟨#[],by rw[e];simp⟩) (λm hm=>?_) (λb u e=>?_) J.bare
 .have e:b=it:=by simpa using af
  subst e;exact⟨ae,j1,ah,bF⟩
 .obtain⟨o,ay,cB,bf,r⟩:=hm
  exact⟨o,ay,cB,k _ o (amA j1) bf,r⟩
 .refine(J.bP b u e).rZ (λc v aI q=>k c v ?_ q) (λ_ q=>q) λ_ _ q=>q
  rcases aI with z|z
  .rw[z];exact wb b u e
  .exact wb c _ z
theorem Inv.tok(J:Inv X zn Y H s)(t:Nat):Inv X zn Y H { s with toks:=t }:=J.un (h':=s.heap) (t':=t) gV.refl J.bP
def Inv.kept{t':Nat}(J:Inv X zn Y H s)(k:∀b u,s.heap.get? b=some u->h'.get? b=some u):Inv X zn Y H { s with heap:=h',toks:=t' }:=J.un (gV.kept k) (J.bP.kept k)
def Inv.laid{t':Nat}(J:Inv X zn Y H s)(k:∀b u,s.heap.get? b=some u->h'.get? b=some u)(aK:s.heap.objs.size<=a)(new:gU X.prog X.w (upd H a o) h' a o) :
  Inv X zn Y (upd H a o) { s with heap:=h',toks:=t' }:=J.un (gV.laid k aK (J.bP.fresh aK)) (J.bP.laid k aK new)
def Inv.write{x e:Addr}{o:gT}{t':Nat}(J:Inv X zn Y H s)(ku:uh (H x))(he:e=x\/H e=some (.own x))(k:∀b u,b≠e->s.heap.get? b=some u->h'.get? b=some u)(sS:∃u,h'.get? e=some u)
  (new:gU X.prog X.w (upd H x o) h' x o):Inv X zn Y (upd H x o) { s with heap:=h',toks:=t' }:=J.un (gV.write ku he k sS) (J.bP.write ku he k sS new)
def Inv.weak{Y':List (Option V)}(J:Inv X zn Y H s)(au:Y'.length=Y.length)(w:∀(i:Nat) v,Y'[i]? = some (some v)->Y[i]? = some (some v)):Inv X zn Y' H s:=
 ⟨J.ok,J.os,J.bare,J.base,let⟨m,aH,Yg⟩:=J.loc;⟨m,aH,λi x v ao az cG=>Yg i x v ao (w i v az) cG⟩,J.cell,J.free,J.mr,J.pin,J.bP,au.trans J.len⟩
def Inv.ML(J:Inv X zn Y H s)(h:∀p∈acd,s.heap.get? p.1=some p.2/\H p.1=none/\p.1≠X.env.locals/\p.1∉X.aW/\∀v,p.2.data≠.cell v):Inv X acd Y H s:=
 ⟨J.ok,J.os,J.bare,J.base,J.loc,J.cell,J.free,J.mr,λp aK=>(akp.mp aK).elim (λz=>J.pin p (am8 _ z)) (h p),J.bP,J.len⟩
def Mh{N:List Str}(hN:N.Nodup){i j:Nat}{x:Str}(a:N[i]? = some x)(b:N[j]? = some x):i=j:=by
 obtain⟨ae,ao⟩:=ajJ.mp a;obtain⟨ah,az⟩:=ajJ.mp b;exact(List.getElem_inj hN).mp (ao.trans az.symm)
theorem OU{M:Model}{A:aj4}{E:cN}{i:Nat}{x:Str}{v:V}{u:Value}{Q:Unit->ajH->Prop}(J:Inv X zn Y H s)(hN:X.N.Nodup)(aD:X.N[i]? = some x)(ag:Loc X.env.scope x)(r:RelV v u)
  (h:∀aQ,Inv X zn (Y.set i (some v)) H aQ->(∃a,am9 a s.heap aQ.heap/\(a=X.env.locals\/X.env.cells.lookup x=some a))->Q () aQ) (hf:X.fn x=true\/X.env.scope.names.lookup x=some .local:=by first|exact .inl rfl|exact .inr rfl|assumption):wpAny M A (storeName X.env x u) Q E s:=by
 obtain⟨m,aH,au⟩:=id J.loc;have XO:(X.env.scope.kind==.class||(X.env.scope.kind==.module&&X.env.locals != X.env.globals))=false:=by rw[J.ok.kind];rfl
 have JY:i<Y.length:=by rw[J.len];exact(ajJ.mp aD).1
 have q1:=J.q1;have tracked:∀{a:Addr}{h':Heap},(∃o,s.heap.get? a=some o/\H a=none)->am9 a s.heap h'->fs X.prog X.w H h':=λ{a h'} ar aE b bD e=>by
  obtain⟨_,_,yM⟩:=ar;refine(J.bP b bD e).rZ (λc eC aI q=>(aE.2 c ?_).trans q) (λ_ q=>q) λ_ _ q=>q
  rintro rfl;rcases aI with rfl|aI
  .rw[yM]at e;cases e
  .rw[yM]at aI;cases aI
 rcases ag with ax|ax
 .refine wpAny_storeName_local ax aH (λh' Yl aE=>?_) XO
  obtain⟨aaS,_,_,mE,_⟩:=id aH;refine h _ ⟨J.ok,J.os,J.bare,⟨λb o e n af ag=>?_,λb o e n af ag=>?_,J.base.free,λb o e ag=>?_,J.base.qF,J.base.oA,J.base.ph⟩,⟨_,Yl,λj y fN ao az cG=>?_⟩,λy c e=>?_,J.free,J.mr,λp aK=>?_,tracked ⟨aaS,mE,J.free⟩ aE,by simpa using J.len⟩ ⟨_,aE,.inl rfl⟩
  .exact(aE.2 b (aj1 (akj (ajV e) J.ok.above))).trans (J.base.keep b o e n af ag)
  .obtain⟨bW,ao⟩:=J.base.slot b o e n af ag
   exact⟨bW,(aE.2 b (aj1 (akj (ajV e) J.ok.above))).trans ao⟩
  .obtain⟨o',ao⟩:=J.base.there b o e ag
   exact⟨o',(aE.2 b (aj1 (akj (ajV e) J.ok.above))).trans ao⟩
  .by_cases aZ:j=i
   .subst aZ
    rw[aD]at ao;cases ao;rw[akF JY]at az;cases az;exact⟨u,r,.inl ⟨ax,by simp⟩⟩
   .rw[ajX (amA aZ)]at az
    obtain⟨u',bT,q⟩:=au j y fN ao az cG;refine⟨u',bT,?_⟩;rcases q with⟨k,e⟩|⟨k,c,e,z⟩
    .refine .inl ⟨k,?_⟩
     have:y≠x:=λe=>aZ (Mh hN ao (e▸aD))
     simp[this,e]
    .exact .inr ⟨k,c,e,z.sameBut aE (q1 y c e)⟩
  .obtain⟨eC,z⟩:=J.cell y c e
   exact⟨eC,z.sameBut aE (q1 y c e)⟩
  .obtain⟨e,n,ne,lU,d⟩:=J.pin p aK
   exact⟨(aE.2 p.1 ne).trans e,n,ne,lU,d⟩
 .have CX:X.fn x=true:=by
   rcases hf with z|z
   .exact z
   .rw[z]at ax;cases ax
  obtain⟨c,aI⟩:=J.ok.has x (.inl ax);obtain⟨eC,z⟩:=J.cell x c aI;refine wpAny_storeName_cell J.ok.kind ax aI z (λh' yJ aE=>?_);obtain⟨bK,yQ,Ys⟩:=id z;refine h { s with heap:=h' } ⟨J.ok,J.os,J.bare,⟨λb o e n af ag=>?_,λb o e n af ag=>?_,J.base.free,λb o e ag=>?_,J.base.qF,J.base.oA,J.base.ph⟩,⟨m,aH.sameBut aE (amA (q1 x c aI)),λj y fN ao az cG=>?_⟩,λy c' e=>?_,J.free,J.mr,λp aK=>?_,tracked ⟨bK,yQ,J.mr x c aI⟩ aE,by simpa using J.len⟩ ⟨c,aE,.inr aI⟩
  .exact(aE.2 b (aj1 (akj (ajV e) (J.ok.uE x c CX aI)))).trans (J.base.keep b o e n af ag)
  .obtain⟨bW,ao⟩:=J.base.slot b o e n af ag
   exact⟨bW,(aE.2 b (aj1 (akj (ajV e) (J.ok.uE x c CX aI)))).trans ao⟩
  .obtain⟨o',ao⟩:=J.base.there b o e ag
   exact⟨o',(aE.2 b (aj1 (akj (ajV e) (J.ok.uE x c CX aI)))).trans ao⟩
  .by_cases aZ:j=i
   .subst aZ
    rw[aD]at ao;cases ao;rw[akF JY]at az;cases az;exact⟨u,r,.inr ⟨.inl ax,c,aI,yJ⟩⟩
   .rw[ajX (amA aZ)]at az
    obtain⟨u',bT,q⟩:=au j y fN ao az cG;refine⟨u',bT,?_⟩;rcases q with q|⟨k,c',e,lj⟩
    .exact .inl q
    .refine .inr ⟨k,c',e,lj.sameBut aE ?_⟩
     rintro rfl;exact aZ (Mh hN ao (J.ok.inj _ _ _ e aI▸aD))
  .by_cases rk:c'=c
   .subst rk;exact⟨_,yJ⟩
   .obtain⟨jI,eS⟩:=J.cell y c' e
    exact⟨jI,eS.sameBut aE rk⟩
  .obtain⟨e,n,ne,lU,d⟩:=J.pin p aK
   refine⟨(aE.2 p.1 ?_).trans e,n,ne,lU,d⟩;intro q;rw[q,yQ]at e;have hM:bK=p.2:=akd e;exact d eC (by rw[<-hM];exact Ys)
def OT{M:Model}{A:aj4}{E:cN}{i:Nat}{x:Str}{v:V}{u:Value}{Q:Unit->ajH->Prop}(J:Inv X zn Y H s)(hN:X.N.Nodup)(aD:X.N[i]? = some x)(ag:Loc X.env.scope x)(r:RelV v u)
  (h:∀aQ,Inv X zn (Y.set i (some v)) H aQ->Q () aQ) (hf:X.fn x=true\/X.env.scope.names.lookup x=some .local:=by first|exact .inl rfl|exact .inr rfl|assumption):wpAny M A (storeName X.env x u) Q E s:=
 OU J hN aD ag r (λaQ ih _=>h aQ ih) hf
theorem Inv.Ti{aQ:ajH}{ch:List Addr}(J:Inv X zn Y H s)(bf:aQ.os=s.os)(u:gV (mu X.stack) ch H H' s.heap aQ.heap)(bP:fs X.prog X.w H' aQ.heap)(aU:am4 aQ.gens)
  (nI:∀b∈ch,(b∈X.ex\/X.hg.heap.objs.size<=b)/\b≠X.env.locals/\(∀x c,X.env.cells.lookup x=some c->c≠b)/\∀p∈X.lV++zn,p.1≠b):Inv X zn Y H' aQ:=by
 obtain⟨h',g',d',t',o'⟩:=aQ;have e:o'=s.os:=bf;subst e;exact J.call (g':=g') (t':=t') (d':=d') u bP aU nI
end
abbrev gL:=Value->Option Addr->aw->Prop
abbrev St:=List (Option V)
abbrev df:=V->aw->Prop
abbrev TE:=St->aw->df->Prop
abbrev TT:=St->aw->(Bool->aw->Prop)->Prop
abbrev gA:=St->aw->(List V->aw->Prop)->Prop
structure Ends where
 bh:St->aw->Prop
 cQ:df
 cP:St->aw->Prop:=λ_ _=>False
 cw:St->aw->Prop:=λ_ _=>False
abbrev hl:=Ends->St->aw->Prop
def hA(X:aT)(zn:c8)(Y:St)(Q:df)(u:Value)(aQ:ajH):Prop:=∃v H',Inv X zn Y H' aQ/\RelV v u/\Q v H'
def A1(X:aT)(zn:c8)(Y:St)(Q:Bool->aw->Prop)(b:Bool)(aQ:ajH):Prop:=∃H',Inv X zn Y H' aQ/\Q b H'
def PZ(X:aT)(zn:c8)(Y:St)(Q:List V->aw->Prop)(us:List Value)(aQ:ajH):Prop:=∃vs H',Inv X zn Y H' aQ/\Vals vs us/\Q vs H'
def sr(X:aT)(zn:c8)(D:Ends)(f:Flow)(aQ:ajH):Prop:=
 match f with
 |.next=>∃Y' H',Inv X zn Y' H' aQ/\D.bh Y' H'|.brk=>∃Y' H',Inv X zn Y' H' aQ/\D.cP Y' H'|.cont=>∃Y' H',Inv X zn Y' H' aQ/\D.cw Y' H'|.ret u=>∃v Y' H',Inv X zn Y' H' aQ/\RelV v u/\D.cQ v H'
def bY(X:aT)(e:Expr)(t:TE):Prop:=
 ∀(zn:c8)(s:ajH)(Y:St)(H:aw)(Q:df),Inv X zn Y H s->t Y H Q->wpAny (model X.prog X.w) X.A (eval e X.env) (hA X zn Y Q) X.d2 s
def iY(X:aT)(e:Expr)(t:TT):Prop:=
 ∀(zn:c8)(s:ajH)(Y:St)(H:aw)(Q:Bool->aw->Prop),Inv X zn Y H s->t Y H Q->wpAny (model X.prog X.w) X.A (isTrue e X.env (eval e X.env)) (A1 X zn Y Q) X.d2 s
def ly(X:aT)(e:Expr)(t:TT):Prop:=
 ∀(whole:Sem Value)(zn:c8)(s:ajH)(Y:St)(H:aw)(Q:Bool->aw->Prop),Inv X zn Y H s->t Y H Q->wpAny (model X.prog X.w) X.A (isTrue e X.env whole) (A1 X zn Y Q) X.d2 s
def ly.pt{t:TT}(h:ly X e t):iY X e t:=h _
def gm(X:aT)(ay:List Expr)(t:gA):Prop:=
 ∀(pos:Pos)(zn:c8)(s:ajH)(Y:St)(H:aw)(Q:List V->aw->Prop),Inv X zn Y H s->t Y H Q->wpAny (model X.prog X.w) X.A (spliced (aj9 pos (ajG ay X.env))) (PZ X zn Y Q) X.d2 s
def iW(X:aT)(st:Stmt)(t:hl):Prop:=
 ∀(zn:c8)(s:ajH)(Y:St)(H:aw)(D:Ends),Inv X zn Y H s->t D Y H->wpAny (model X.prog X.w) X.A (exec st X.env) (sr X zn D) X.d2 s
def iX(X:aT)(st:List Stmt)(t:hl):Prop:=
 ∀(zn:c8)(s:ajH)(Y:St)(H:aw)(D:Ends),Inv X zn Y H s->t D Y H->wpAny (model X.prog X.w) X.A (execs st X.env) (sr X zn D) X.d2 s
def bZ{α:Type}{t:Sem α}{Q f':α->ajH->Prop}{M:Model}{A:aj4}{E:cN}{s:ajH}(h:wpAny M A t Q E s)(i4:∀a s,Q a s->f' a s):wpAny M A t f' E s:=akm h i4 λ_ _ x=>x
section
variable{X:aT}
def afh(i:Nat):TE:=λY H Q=>∃v,Y[i]? = some (some v)/\Q v H
def pg(v:V):TE:=λ_ H Q=>Q v H
def zS(hN:X.N[i]? = some x)(bL:qX X.env.scope x)(hd:(x==("__debug__":Str))=false:=by decide)(gM:(x==("__classdict__":Str))=false:=by decide):bY X (.Name x pos) (afh i):=by
 intro zn s Y H Q J h;obtain⟨v,e,h⟩:=h;obtain⟨m,aH,au⟩:=J.loc;obtain⟨u,r,l⟩:=au i x v hN e bL;have fin:hA X zn Y Q u s:=⟨v,H,J,r,h⟩;rcases l with⟨ax,hm⟩|⟨ax,c,aI,JO⟩
 .exact wpAny_Name (wpAny_loadName_local J.ok.kind ax aH hm fin) hd
 .rcases ax with ax|ax
  .exact wpAny_Name (wpAny_loadName_cell J.ok.kind ax aI JO fin) hd
  .exact wpAny_Name (wpAny_loadName_free J.ok.kind ax aI JO fin gM) hd
def abV{i j pos}:bY X (.Constant (.int i) j pos) (pg (.int i)):=λ_ _ _ H _ J h=>wpAny_Constant_int ⟨.int i,H,J.tok _,⟨_,rfl⟩,h⟩
def abG{b j pos}:bY X (.Constant (.bool b) j pos) (pg (.aC b)):=λ_ _ _ H _ J h=>Constant_bool ⟨.aC b,H,J,rfl,h⟩
def ab0{j pos}:bY X (.Constant .none j pos) (pg .aG):=λ_ _ _ H _ J h=>Constant_none ⟨.aG,H,J,rfl,h⟩
def MI{x j pos}:bY X (.Constant (.str x) j pos) (pg (.str x)):=λ_ _ _ H _ J h=>Calls.Constant_str ⟨.str x,H,J.tok _,⟨_,rfl⟩,h⟩
def eU(X:aT)(x:Str):Prop:=X.env.kindOf x=some .globalImplicit
def s_{E:cN}{zn:c8}{s:ajH}{Y:St}{H:aw}{x:Str}{u:Value}{pos:Pos}{Q:cN}(J:Inv X zn Y H s)(aU:eU X x)(hm:X.mg x=some u)(h:Q u s)
  (hd:(x==("__debug__":Str))=false:=by decide):wpAny (model X.prog X.w) X.A (eval (.Name x pos) X.env) Q E s:=
 anL J.ok.kind aU (Calls.loadGlobal_global (by rw[J.ok.glob];exact J.mod.glob.keeps J.cP) hm h) hd
def ry{E:cN}{zn:c8}{s:ajH}{Y:St}{H:aw}{x:Str}{u:Value}{pos:Pos}{Q:cN}(J:Inv X zn Y H s)(aU:eU X x)(hm:X.mg x=none)(bL:akx x=some u)(h:Q u s)
  (aH:x≠"__name__":=by decide) (hd:(x==("__debug__":Str))=false:=by decide):wpAny (model X.prog X.w) X.A (eval (.Name x pos) X.env) Q E s:=by
 obtain⟨di,ae,ah⟩:=J.mod.blt;exact anL J.ok.kind aU (Calls.loadGlobal_builtin (by rw[J.ok.glob];exact J.mod.glob.keeps J.cP) hm (by rw[J.ok.blt];exact ae.keeps J.cP) ((ah x aH).trans bL) h) hd
def abU{v:V}(aU:eU X x)(hm:X.mg x=some u)(r:RelV v u)(hd:(x==("__debug__":Str))=false:=by decide):bY X (.Name x pos) (pg v):=
 λ_ _ _ H _ J h=>s_ J aU hm ⟨v,H,J,r,h⟩ hd
def wC{v:V}(aU:eU X x)(hm:X.mg x=none)(bL:akx x=some u)(r:RelV v u)(aH:x≠"__name__":=by decide)(hd:(x==("__debug__":Str))=false:=by decide):bY X (.Name x pos) (pg v):=
 λ_ _ _ H _ J h=>ry J aU hm bL ⟨v,H,J,r,h⟩ aH hd
variable{a b:Expr}{b9 c6:TE}{pos:Pos}
def Qj(X:aT)(op:CmpOp)(a b:Expr)(t:TE):Prop:=
 ∀(zn:c8)(s:ajH)(Y:St)(H:aw)(Q:df),Inv X zn Y H s->t Y H Q->
  wpAny (model X.prog X.w) X.A (eval a X.env) (λv dD=>wpAny (model X.prog X.w) X.A (eval b X.env) (λu mZ=>wpAny (model X.prog X.w) X.A (akq op v u) (hA X zn Y Q) X.d2 mZ) X.d2 dD) X.d2 s
def aaJ(b:Expr)(h:op≠.In)(ah:op≠.NotIn):alx op b=false:=by
 have ao:(op==CmpOp.In)=false:=by cases op<;>first|rfl|exact absurd rfl h
 have az:(op==CmpOp.NotIn)=false:=by cases op<;>first|rfl|exact absurd rfl ah
 cases b<;>simp[alx,ao,az]
def O0(t:TE):TT:=λY H Q=>t Y H λx H1=>∃c,x=.aC c/\Q c H1
def ajo{t:TE}(h:Qj X op a b t)(ae:alx op b=false:=by first|exact aaJ _ (by decide) (by decide)|rfl):iY X (.Compare a [op] [b] pos) (O0 t):=by
 intro zn s Y H Q J hw;refine wpAny_isTrue_Compare1 (bZ (h zn s Y H _ J hw) λv s1 ae=>bZ ae λu s2 ah=>bZ ah λc s3 ⟨x,H1,a_,bG,bz⟩=>?_) ae;obtain⟨d,rfl,q⟩:=bz;cases bG;exact akY ⟨H1,a_,q⟩
def MT{e:Expr}{t:TE}(h:bY X e t)(he:∀whole,isTrue e X.env whole=(do let v <-whole;al5 e.pos;alq [v] (truthy v)):=by intro _;rfl):iY X e (O0 t):=by
 intro zn s Y H Q J hw;refine isTrue_plain (bZ (h zn s Y H _ J hw) λv s1 ⟨x,H1,a_,bG,bz⟩=>?_) (he _);obtain⟨d,rfl,q⟩:=bz;cases bG;exact akY ⟨H1,a_,q⟩
variable{n' Ab:TT}{rest:List Expr}
def aeQ(t u:TT):TT:=λY H Q=>t Y H λc H1=>if c=true then u Y H1 Q else Q false H1
def ae9(t u:TT):TT:=λY H Q=>t Y H λc H1=>if c=true then Q true H1 else u Y H1 Q
def ae7(t:TT):TT:=λY H Q=>t Y H λc H1=>Q (!c) H1
def MX(ar:iY X a n'):ly X (.BoolOp .And [a] pos) n':=by
 intro r_ zn s Y H Q J h;refine isTrue_and (bZ (ar zn s Y H Q J h) λc s1 e=>?_)
 cases c with
 |true=>exact isTrue_and_nil e|false=>exact e
def acB(ar:iY X a n'):ly X (.BoolOp .Or [a] pos) n':=by
 intro r_ zn s Y H Q J h;refine isTrue_or (bZ (ar zn s Y H Q J h) λc s1 e=>?_)
 cases c with
 |false=>exact isTrue_or_nil e|true=>exact e
def MW(ar:iY X a n')(af:ly X (.BoolOp .And (b::rest) pos) Ab):ly X (.BoolOp .And (a::b::rest) pos) (aeQ n' Ab):=by
 intro r_ zn s Y H Q J h;refine isTrue_and (bZ (ar zn s Y H _ J h) λc s1 aX=>?_);obtain⟨H1,a_,bz⟩:=aX
 cases c with
 |true=>exact af r_ zn s1 Y H1 Q a_ bz|false=>exact⟨H1,a_,bz⟩
def acA(ar:iY X a n')(af:ly X (.BoolOp .Or (b::rest) pos) Ab):ly X (.BoolOp .Or (a::b::rest) pos) (ae9 n' Ab):=by
 intro r_ zn s Y H Q J h;refine isTrue_or (bZ (ar zn s Y H _ J h) λc s1 aX=>?_);obtain⟨H1,a_,bz⟩:=aX
 cases c with
 |true=>exact⟨H1,a_,bz⟩|false=>exact af r_ zn s1 Y H1 Q a_ bz
def MS(ar:iY X a n'):iY X (.UnaryOp .Not a pos) (ae7 n'):=by
 intro zn s Y H Q J h;exact isTrue_not (ar zn s Y H (λc H1=>Q (!c) H1) J h)
def aeR(b9 c6:TE):TE:=λY H Q=>b9 Y H λx H1=>∃c,x=.aC c/\if c=true then c6 Y H1 Q else Q (.aC false) H1
def ae8(b9:TE):TE:=λY H Q=>b9 Y H λx H1=>∃c,x=.aC c/\Q (.aC (!c)) H1
def ab2{op}{t:TE}(h:bY X a t):bY X (.BoolOp op [a] pos) t:=λzn s Y H Q J hw=>BoolOp_one (h zn s Y H Q J hw)
def abF(ar:bY X a b9)(af:bY X (.BoolOp .And (b::rest) pos) c6):bY X (.BoolOp .And (a::b::rest) pos) (aeR b9 c6):=by
 intro zn s Y H Q J h;refine BoolOp_and (bZ (ar zn s Y H _ J h) λv s1 aX=>?_);obtain⟨x,H1,a_,bG,bz⟩:=aX;obtain⟨c,rfl,bz⟩:=bz;cases bG;refine akY ?_
 cases c with
 |true=>exact af zn s1 Y H1 Q a_ bz|false=>exact⟨.aC false,H1,a_,rfl,bz⟩
def ab1(ar:bY X a b9):bY X (.UnaryOp .Not a pos) (ae8 b9):=by
 intro zn s Y H Q J h;refine UnaryOp_ (bZ (ar zn s Y H _ J h) λv s1 aX=>?_);obtain⟨x,H1,a_,bG,bz⟩:=aX;obtain⟨c,rfl,bz⟩:=bz;cases bG;exact not_of (akY ⟨.aC (!c),H1,a_,rfl,bz⟩)
end
def dx(K:aS)(H:aw)(a:Addr)(xs:List V):Prop:=
 gc H a (.lst xs)\/
  ∃(o:Obj)(its:Array Value)(n:Nat),K.lookup a=some o/\o.cls=.type "list"/\o.dict=none/\o.data=.seq its n/\its.size<=ajL/\Vals xs its.toList
def dQ(K:aS)(H:aw)(a:Addr)(xs:List V):Prop:=
 gc H a (.tup xs)\/
  ∃(o:Obj)(its:Array Value)(n:Nat),K.lookup a=some o/\o.cls=.type "tuple"/\o.data=.seq its n/\its.size<=ajL/\Vals xs its.toList
def Qt:Value->Option V
 |.none=>some .aG|.bool b=>some (.aC b)|.int i _=>some (.int i)|.str x _=>some (.str x)|.bytes b _=>some (.x6 b)|.float b _=>some (.yp b)|.ref a=>some (.ref a)|.type n=>some (.ty n)|_=>none
def RelV.abs(r:RelV x u):Qt u=some x:=by
 cases x with
 |aG=>cases r;rfl
 |aC _=>cases r;rfl
 |int _=>obtain⟨t,rfl⟩:=r;rfl
 |str _=>obtain⟨t,rfl⟩:=r;rfl
 |x6 _=>obtain⟨t,rfl⟩:=r;rfl
 |yp _=>obtain⟨t,rfl⟩:=r;rfl
 |ref _=>cases r;rfl
 |ty _=>cases r;rfl
def RelV.inj(r:RelV x u)(q:RelV y u):x=y:=akd (r.abs.symm.trans q.abs)
theorem Vals.inj:∀{xs ys:List V}{us:List Value},Vals xs us->Vals ys us->xs=ys
 |_,_,_,.nil,.nil=>rfl| _,_,_,.cons r t,.cons bT t'=>by rw[r.inj bT,Vals.inj t t']
section
variable{X:aT}{zn:c8}{Y:St}{H:aw}{s:ajH}{a:Addr}{xs ys:List V}
def dx.of{K:aS}(h:H a=some (.lst xs)):dx K H a xs:=.inl (.inl h)
def dQ.of{K:aS}(h:H a=some (.tup xs)):dQ K H a xs:=.inl (.inl h)
def Inv.list(J:Inv X zn Y H s)(h:dx X.K H a xs):∃its:List Value,Vals xs its/\PlainL s.heap a its.toArray/\xs.length<=ajL:=by
 rcases h with h|⟨o,its,n,ax,aI,hd,aE,hz,r⟩
 .obtain⟨z,its,n,r,e⟩:=h.ok J.bP
  exact⟨its,r,⟨_,n,e,rfl,rfl,rfl⟩,z⟩
 .refine⟨its.toList,r,⟨o,n,J.fp a o ax,aI,hd,by simpa using aE⟩,?_⟩
  have e:=r.length;simp only[akz]at e;omega
def Inv.tuple(J:Inv X zn Y H s)(h:dQ X.K H a xs):∃its:List Value,Vals xs its/\IsTup s.heap a its.toArray/\xs.length<=ajL:=by
 rcases h with h|⟨o,its,n,ax,aI,aE,hz,r⟩
 .obtain⟨z,its,r,p⟩:=h.ok J.bP
  exact⟨its,r,p,z⟩
 .refine⟨its.toList,r,⟨o,J.fp a o ax,aI,n,by simpa using aE⟩,?_⟩
  have e:=r.length;simp only[akz]at e;omega
def Inv.Lp(J:Inv X zn Y H s)(h:dx X.K H a xs)(h':dx X.K H a ys):xs=ys:=by
 obtain⟨its,r,⟨o,n,e,_,_,d⟩,_⟩:=J.list h;obtain⟨its',bT,⟨o',c9,cF,_,_,d'⟩,_⟩:=J.list h';rw[e]at cF;cases cF;rw[d]at d';injection d' with gB _
 have:its=its':=by simpa using congrArg Array.toList gB
 subst this;exact r.inj bT
def Inv.Pj(J:Inv X zn Y H s)(h:dQ X.K H a xs)(h':dQ X.K H a ys):xs=ys:=by
 obtain⟨its,r,⟨o,e,_,n,d⟩,_⟩:=J.tuple h;obtain⟨its',bT,⟨o',cF,_,c9,d'⟩,_⟩:=J.tuple h';rw[e]at cF;cases cF;rw[d]at d';injection d' with gB _
 have:its=its':=by simpa using congrArg Array.toList gB
 subst this;exact r.inj bT
end
abbrev aT.m3(X:aT)(E:cN):aT:={ X with d2:=E }
abbrev aT.gO(X:aT):aT:=X.m3 λ_ _=>False
def aT.Ok.m3{X:aT}(ok:X.Ok)(E:cN):(X.m3 E).Ok:=
 ⟨ok.mod,ok.kind,ok.glob,ok.blt,ok.above,ok.inj,ok.has,ok.uE,ok.hd,ok.frames,ok.z9,ok.yl,ok.bs,ok.ma,ok.wd,ok.uO,ok.kU,ok.p6⟩
def aT.Ok.pk{X:aT}(ok:(X.m3 E).Ok):X.Ok:=
 ⟨ok.mod,ok.kind,ok.glob,ok.blt,ok.above,ok.inj,ok.has,ok.uE,ok.hd,ok.frames,ok.z9,ok.yl,ok.bs,ok.ma,ok.wd,ok.uO,ok.kU,ok.p6⟩
section
variable{X:aT}{zn:c8}{Y:St}{H:aw}{s:ajH}{E:cN}
def Inv.m3(J:Inv X zn Y H s)(E:cN):Inv (X.m3 E) zn Y H s:=⟨J.ok.m3 E,J.os,J.bare,J.base,J.loc,J.cell,J.free,J.mr,J.pin,J.bP,J.len⟩
def Inv.pk(J:Inv (X.m3 E) zn Y H s):Inv X zn Y H s:=⟨J.ok.pk,J.os,J.bare,J.base,J.loc,J.cell,J.free,J.mr,J.pin,J.bP,J.len⟩
def sr.pk{D:Ends}(h:sr (X.m3 E) zn D f aQ):sr X zn D f aQ:=by
 cases f with
 |next=>obtain⟨Y',H',J,q⟩:=h;exact⟨Y',H',J.pk,q⟩
 |brk=>obtain⟨Y',H',J,q⟩:=h;exact⟨Y',H',J.pk,q⟩
 |cont=>obtain⟨Y',H',J,q⟩:=h;exact⟨Y',H',J.pk,q⟩
 |ret u=>obtain⟨v,Y',H',J,r,q⟩:=h;exact⟨v,Y',H',J.pk,r,q⟩
theorem bY.gO{t:TE}(h:bY X.gO e t):bY X e t:=λzn s Y H Q J hw=>
 akm (h zn s Y H Q (J.m3 _) hw) (λ_ _ ⟨v,H',ih,r,q⟩=>⟨v,H',ih.pk,r,q⟩) λ_ _ z=>akl z
theorem iX.gO{st:List Stmt}{t:hl}(h:iX X.gO st t):iX X st t:=λzn s Y H D J hw=>
 akm (h zn s Y H D (J.m3 _) hw) (λ_ _ q=>q.pk) λ_ _ z=>akl z
end
section
variable{X:aT}{st:Stmt}{rest:List Stmt}{t u:hl}{e:Expr}{te:TE}{pos:Pos}
def ae5:hl:=λD Y H=>D.bh Y H
def afc(t u:hl):hl:=λD Y H=>t { D with bh:=u D } Y H
def acp:iX X [] ae5:=λ_ _ Y H _ J h=>aoo ⟨Y,H,J,h⟩
def MQ(ae:iW X st t)(ah:iX X rest u):iX X (st::rest) (afc t u):=by
 intro zn s Y H D J h;refine wpAny_execs_cons (bZ (ae zn s Y H { D with bh:=u D } J h) λf s1 q=>?_)
 cases f with
 |next=>
  obtain⟨Y',H',ih,q⟩:=q;exact ah zn s1 Y' H' D ih q
 |ret v=>exact q|brk=>exact q|cont=>exact q
def MR(ae:iW X st t):iX X [st] t:=by
 intro zn s Y H D J h;refine wpAny_execs_cons (bZ (ae zn s Y H D J h) λf s1 q=>?_)
 cases f with
 |next=>exact aoo q
 |ret v=>exact q|brk=>exact q|cont=>exact q
def Inv.quiet(J:Inv X zn Y H s):interactive X.env=false:=by simp[interactive,J.ok.kind]
def aeZ(te:TE):hl:=λD Y H=>te Y H λ_ H1=>D.bh Y H1
def EJ(he:bY X e te)(aE:ak8 e none pos.line X.env=pure false:=by rfl):iW X (.Expr e pos) (aeZ te):=by
 intro zn s Y H D J h;exact wpAny_Expr_any (bZ (he zn s Y H _ J h) λv s1 ⟨x,H1,a_,bG,bz⟩=>⟨Y,H1,a_,bz⟩) J.quiet aE
def afb(te:TE):hl:=λD Y H=>te Y H D.cQ
def EK(he:bY X e te):iW X (.Return (some e) pos) (afb te):=by
 intro zn s Y H D J h;exact wpAny_Return_some (bZ (he zn s Y H _ J h) λv s1 ⟨x,H1,a_,bG,bz⟩=>⟨x,Y,H1,a_,bG,bz⟩)
def ae1(c:TT)(t u:hl):hl:=λD Y H=>c Y H λb H1=>if b=true then t D Y H1 else u D Y H1
def MP(aI:iY X c tZ)(ar:iX X a t)(af:iX X b u):iW X (.If c a b pos) (ae1 tZ t u):=by
 intro zn s Y H D J h;refine wpAny_If (bZ (aI zn s Y H _ J h) λd s1 aX=>?_);obtain⟨H1,a_,bz⟩:=aX
 cases d with
 |true=>exact ar zn s1 Y H1 D a_ bz|false=>exact af zn s1 Y H1 D a_ bz
def ae4:hl:=λ_ _ _=>False
def aco:iW X st ae4:=λ_ _ _ _ _ _ h=>h.elim
end
abbrev jo:=V->St->aw->(St->aw->Prop)->Prop
abbrev pS:=List V->St->aw->(St->aw->Prop)->Prop
def pM(X:aT)(target:Expr)(t:jo):Prop:=
 ∀(zn:c8)(s:ajH)(Y:St)(H:aw)(v:V)(u:Value)(Q:St->aw->Prop),Inv X zn Y H s->RelV v u->t v Y H Q->
  wpAny (model X.prog X.w) X.A (al7 target X.env u) (λ_ aQ=>∃Y' H',Inv X zn Y' H' aQ/\Q Y' H') X.d2 s
def l9(X:aT)(c1:List Expr)(t:pS):Prop:=
 ∀(zn:c8)(s:ajH)(Y:St)(H:aw)(vs:List V)(us:List Value)(Q:St->aw->Prop),Inv X zn Y H s->Vals vs us->t vs Y H Q->
  wpAny (model X.prog X.w) X.A (assignInOrder ((aj7 c1 X.env).map (·.2)) us) (λ_ aQ=>∃Y' H',Inv X zn Y' H' aQ/\Q Y' H') X.d2 s
section
variable{X:aT}{pos:Pos}
def lI(i:Nat):jo:=λv Y H Q=>Q (Y.set i (some v)) H
def wD(hN:X.N.Nodup)(aD:X.N[i]? = some x)(ag:Loc X.env.scope x)(hf:X.fn x=true\/X.env.scope.names.lookup x=some .local:=by first|exact .inl rfl|exact .inr rfl|assumption):pM X (.Name x pos) (lI i):=by
 intro zn s Y H v u Q J r h;exact wpAny_assign_Name (OT J hN aD ag r (λaQ ih=>⟨_,H,ih,h⟩) hf)
def Je:pS:=λvs Y H Q=>vs=[]/\Q Y H
def Jd(t:jo)(u:pS):pS:=λvs Y H Q=>∃v r,vs=v::r/\t v Y H λY' H'=>u r Y' H' Q
def ab9:l9 X [] Je:=by
 intro zn s Y H vs us Q J r h;obtain⟨e,h⟩:=h;subst e;cases r;exact assignInOrder_nil ⟨Y,H,J,h⟩
def ab8{e:Expr}{ay:List Expr}{t:jo}{u:pS}(ae:pM X e t)(ah:l9 X ay u)
  (aE:(aj7 (e::ay) X.env).map (·.2)=al7 e X.env::(aj7 ay X.env).map (·.2):=by rfl):l9 X (e::ay) (Jd t u):=by
 intro zn s Y H vs us Q J r h;obtain⟨v,FD,ao,h⟩:=h;subst ao
 cases r with
 |cons r bu=>
  rw[aE];refine assignInOrder_cons (bZ (ae zn s Y H _ _ _ J r h) λ_ s1 aX=>?_);obtain⟨ig,H1,a_,bz⟩:=aX;exact ah zn s1 ig H1 _ _ Q a_ bu bz
def rd(K:aS)(n:Nat)(t:pS):jo:=λv Y H Q=>∃a xs,v=.ref a/\dQ K H a xs/\xs.length=n/\t xs Y H Q
def wF{ay:List Expr}{k:Nat}{t:pS}{n:Nat}(aI:X.calm=true)(h:l9 X ay t)
  (aH:(aj7 ay X.env).length=n:=by rfl) (f3:(aj7 ay X.env).findIdx? (·.1)=none:=by rfl):pM X (.Tuple ay k pos) (rd X.K n t):=by
 intro zn s Y H v u Q J r hw;obtain⟨a,xs,ao,a9,au,hw⟩:=hw;subst ao;cases r;obtain⟨its,bR,bO,hz⟩:=J.tuple a9;refine assign_Tuple_tuple (J.ok.hd aI) bO (by simp[aH,<-au,bR.length]) f3 λh' ag=>?_
 have a_:Inv X zn Y H { s with heap:=h' }:=J.kept (t':=s.toks) λb o e=>ag b o (aj1 (ajV e)) e
 exact h zn _ Y H xs _ Q a_ (by simpa using bR) hw
def tW(te:TE)(g:jo):hl:=λD Y H=>te Y H λx H1=>g x Y H1 D.bh
def ack{cj e:Expr}{te:TE}{g:jo}(he:bY X e te)(aU:pM X cj g)(aE:swapsWithSole [cj] e pos.line X.env=pure false:=by rfl)(hw:swappedStores [cj] e X.env=pure none:=by rfl)
  (ae:(aj7 [cj] X.env).map (·.2)=[al7 cj X.env]:=by rfl):iW X (.Assign [cj] e pos) (tW te g):=by
 intro zn s Y H D J h;refine wpAny_Assign_stores (bZ (he zn s Y H _ J h) λv s1 ⟨x,H1,a_,bG,bz⟩=>?_) aE hw;rw[ae];exact bZ (aU zn s1 Y H1 x v _ a_ bG bz) λ_ s2 q=>q
def EL(hN:X.N.Nodup)(aD:X.N[i]? = some x)(ag:Loc X.env.scope x)(he:bY X e te)(aE:ak8 e (some (.Name x pos')) pos.line X.env=pure false:=by rfl)(hf:X.fn x=true\/X.env.scope.names.lookup x=some .local:=by first|exact .inl rfl|exact .inr rfl|assumption) :
  iW X (.Assign [.Name x pos'] e pos) (tW te (lI i)):=by
 intro zn s Y H D J h;refine wpAny_Assign_Name (bZ (he zn s Y H _ J h) λv s1 ⟨y,H1,a_,bG,bz⟩=>?_) aE;exact OT a_ hN aD ag bG (λs2 bX=>⟨_,H1,bX,bz⟩) hf
end
structure iI where
 go:Nat->aw->Prop
 pB:Nat->aw->V->aw->Prop
 stop:Nat->aw->Prop
def gJ(X:aT)(zn:c8)(H:aw)(b:Addr):Prop:=
 H b=none/\b≠X.env.locals/\b∉X.aW/\(b∈X.ex\/X.hg.heap.objs.size<=b)/\(∀x c,X.env.cells.lookup x=some c->c≠b)/\∀p∈X.lV++zn,p.1≠b
def Inv.p5{H H':aw}{s:ajH}(J:Inv X zn Y H s)(af:s.heap.objs.size<=b)(aH:H' b=none):gJ X zn H' b:=by
 refine⟨aH,Nat.ne_of_gt (akj J.lt af),J.aaM af,.inr (akT J.lY af),λx c e z=>?_,λp aK z=>?_⟩
 .obtain⟨v,q⟩:=J.cell x c e
  exact absurd (akj q.lt (by rw[z];exact af)) (akn _)
 .exact absurd (akj (ajV (J.pin p aK).1) (by rw[z];exact af)) (akn _)
structure Turn(P:ajY)(w:World)(K:aS)(cj:Expr)(cm:iI)(aN:List Addr)(it:Addr)(fY:Nat->Heap->Prop):Prop where
 mem:it∈aN
 obj:∀i h,fY i h->∀b∈aN,∃o,h.get? b=some o/\∀v,o.data≠.cell v
 keep:∀i h h',fY i h->(∀b∈aN,∀o,h.get? b=some o->h'.get? b=some o)->fY i h'
 item:∀(X:aT),X.prog=P->X.w=w->X.K=K->X.calm=true->∀(i:Nat)(zn:c8)(s:ajH)(Y:St)(H:aw)(E:cN),Inv X zn Y H s->(∀b∈aN,gJ X zn H b)->fY i s.heap->cm.go i H->
  wpAny (model P w) X.A (al8 (.ref it)) (λr s1=>∃u,r=some u/\
   wpAny (model P w) X.A (ana cj (.ref it) u) (λ_ s2=>∃x H',Inv X zn Y H' s2/\RelV x u/\cm.pB i H x H'/\fY (i+1) s2.heap/\∀b∈aN,H' b=none) E s1) E s
 done:∀(X:aT),X.prog=P->X.w=w->X.K=K->X.calm=true->∀(i:Nat)(zn:c8)(s:ajH)(Y:St)(H:aw)(E:cN),Inv X zn Y H s->(∀b∈aN,gJ X zn H b)->fY i s.heap->cm.stop i H->
  wpAny (model P w) X.A (al8 (.ref it)) (λr s1=>r=none/\Inv X zn Y H s1) E s
 self:∀(A:aj4)(i:Nat)(s:ajH)(Q:cN)(E:cN),fY i s.heap->Q (.ref it) s->wpAny (model P w) A (pyIter (.ref it)) Q E s
abbrev TI:=St->aw->(iI->aw->Prop)->Prop
def Gb(X:aT)(zn:c8)(Y:St)(cj:Expr)(R:iI->aw->Prop)(y3:Value)(s2:ajH):Prop:=
 ∃(it:Addr)(aN:List Addr)(fY:Nat->Heap->Prop)(cm:iI)(H':aw),y3=.ref it/\Inv X zn Y H' s2/\Turn X.prog X.w X.K cj cm aN it fY/\fY 0 s2.heap/\(∀b∈aN,gJ X zn H' b)/\R cm H'
def kN(X:aT)(cj iter:Expr)(wi:TI):Prop:=
 ∀(zn:c8)(s:ajH)(Y:St)(H:aw)(R:iI->aw->Prop),Inv X zn Y H s->wi Y H R->
  wpAny (model X.prog X.w) X.A (eval iter X.env) (λv s1=>wpAny (model X.prog X.w) X.A (pyIter v) (Gb X zn Y cj R) X.d2 s1) X.d2 s
def u1{M:Model}{A:aj4}{E:cN}{s:ajH}{cj:Expr}{it:Addr}{u:Value}{o:Obj}{n:String}{vs:Array Value}{Q:Unit->ajH->Prop}(bf:s.heap.get? it=some o)(aI:o.cls=.type n)(hd:o.data=.fields vs)
    (aH:["enumerate","zip","dict_itemiterator","dict_reverseitemiterator","odict_iterator","itertools.zip_longest","itertools.pairwise"].contains n=false) (i4:Q () s):wpAny M A (ana cj (.ref it) u) Q E s:=by
  unfold ana;cases cj<;>first
    |exact ajI i4
    |(cases u<;>first
        |exact ajI i4
        | (refine ajD (wpAny_load bf ?_)
           rw[aI,hd];show wpAny M A (if(["enumerate","zip","dict_itemiterator","dict_reverseitemiterator","odict_iterator","itertools.zip_longest","itertools.pairwise"].contains n&&vs[0]? == some (alP _))=true then _ else _) Q E s;rw[if_neg (by intro h;rw[aH,Bool.false_and]at h;cases h)];exact ajI i4))
def l6(K:aS)(a:Addr):iI:=
 ⟨λi H=>∃xs x,dx K H a xs/\xs[i]? = some x,λi H x H'=>H'=H/\∀xs,dx K H a xs->xs[i]? = some x,λi H=>∃xs,dx K H a xs/\xs.length<=i⟩
def sj(K:aS)(a:Addr):iI:=
 ⟨λi H=>∃xs x,dQ K H a xs/\xs[i]? = some x,λi H x H'=>H'=H/\∀xs,dQ K H a xs->xs[i]? = some x,λi H=>∃xs,dQ K H a xs/\xs.length<=i⟩
def pJ(lo:Int)(n:Nat):iI:=⟨λi _=>i<n,λi H x H'=>H'=H/\x=.int (lo+i),λi _=>n<=i⟩
def afz{P:ajY}{w:World}{K:aS}{cj:Expr}(a it:Addr):Turn P w K cj (l6 K a) [it] it (λi h=>h.IsListIter it a i) where
 mem:=by simp
 obj:=λi h st b af=>by
  have e:b=it:=by simpa using af
  subst e;obtain⟨o,e,c,d⟩:=st;exact⟨o,e,λv z=>by rw[d]at z;cases z⟩
 keep:=λi h h' st k=>st.at λo e=>k it (by simp) o e
 item:=by
  intro X ez hw hI aI i zn s Y H E J hf st aU;subst ez hw hI;obtain⟨xs,x,a9,ag⟩:=aU;obtain⟨its,bR,p,hz⟩:=J.list a9;obtain⟨u,cC,eg⟩:=bR.get ag;obtain⟨f0,f1,f2,gZ,f4,g0⟩:=hf it (by simp);refine wpAny_pyNext_list_item st p.isList (x:=u) (by simpa using cC) λh' cq k7=>?_
  have a_:Inv X zn Y H { s with heap:=h' }:=J.turned (t':=s.toks) (λb o af e=>(k7.2 b af).trans e) f0 f1 gZ f4 g0;obtain⟨o,e,c,d⟩:=id cq;exact⟨u,rfl,u1 (s:={ s with heap:=h' }) e c d (by decide) ⟨x,H,a_,eg,⟨rfl,λys bg=>by rw[J.Lp bg a9];exact ag⟩,cq,λb af=>(hf b af).1⟩⟩
 done:=by
  intro X ez hw hI aI i zn s Y H E J hf st aU;subst ez hw hI;obtain⟨xs,a9,ag⟩:=aU;obtain⟨its,bR,p,hz⟩:=J.list a9;obtain⟨f0,f1,f2,gZ,f4,g0⟩:=hf it (by simp);have au:=bR.length;exact wpAny_pyNext_list_end (J.ok.hd aI) st p.isList (by simp;omega) λh' dc=>⟨rfl,J.turned (t':=s.toks) (λb o af e=>dc b o af e) f0 f1 gZ f4 g0⟩
 self:=λ_ _ _ _ _ st h=>wpAny_pyIter_listiter st h
def afB{P:ajY}{w:World}{K:aS}{cj:Expr}(a it:Addr):Turn P w K cj (sj K a) [it] it (λi h=>h.IsTupleIter it a i) where
 mem:=by simp
 obj:=λi h st b af=>by
  have e:b=it:=by simpa using af
  subst e;obtain⟨o,e,c,d⟩:=st;exact⟨o,e,λv z=>by rw[d]at z;cases z⟩
 keep:=λi h h' st k=>st.at λo e=>k it (by simp) o e
 item:=by
  intro X ez hw hI aI i zn s Y H E J hf st aU;subst ez hw hI;obtain⟨xs,x,a9,ag⟩:=aU;obtain⟨its,bR,p,hz⟩:=J.tuple a9;obtain⟨u,cC,eg⟩:=bR.get ag;obtain⟨f0,f1,f2,gZ,f4,g0⟩:=hf it (by simp);refine wpAny_pyNext_tuple_item st (show s.heap.IsTuple a its.toArray from p) (x:=u) (by simpa using cC) λh' cq k7=>?_
  have a_:Inv X zn Y H { s with heap:=h' }:=J.turned (t':=s.toks) (λb o af e=>(k7.2 b af).trans e) f0 f1 gZ f4 g0;obtain⟨o,e,c,d⟩:=id cq;exact⟨u,rfl,u1 (s:={ s with heap:=h' }) e c d (by decide) ⟨x,H,a_,eg,⟨rfl,λys bg=>by rw[J.Pj bg a9];exact ag⟩,cq,λb af=>(hf b af).1⟩⟩
 done:=by
  intro X ez hw hI aI i zn s Y H E J hf st aU;subst ez hw hI;obtain⟨xs,a9,ag⟩:=aU;obtain⟨its,bR,p,hz⟩:=J.tuple a9;obtain⟨f0,f1,f2,gZ,f4,g0⟩:=hf it (by simp);have au:=bR.length;exact wpAny_pyNext_tuple_end (J.ok.hd aI) st (show s.heap.IsTuple a its.toArray from p) (by simp;omega) λh' dc=>⟨rfl,J.turned (t':=s.toks) (λb o af e=>dc b o af e) f0 f1 gZ f4 g0⟩
 self:=λ_ _ _ _ _ st h=>wpAny_pyIter_tupleiter st h
def afA{P:ajY}{w:World}{K:aS}{cj:Expr}(it:Addr)(lo:Int)(n:Nat):Turn P w K cj (pJ lo n) [it] it (λi h=>IsRangeIter h it (lo+(i:Nat)*1) ((n:Int)-(i:Nat)) 1) where
 mem:=by simp
 obj:=λi h st b af=>by
  have e:b=it:=by simpa using af
  subst e;exact⟨_,st,λv z=>by
   have lj:Data.fields _=Data.cell v:=z;cases lj⟩
 keep:=λi h h' st k=>k it (by simp) _ st
 item:=by
  intro X ez hw hI aI i zn s Y H E J hf st aU;subst ez hw hI;obtain⟨f0,f1,f2,gZ,f4,g0⟩:=hf it (by simp);have W:=Walks.range (prog:=X.prog) (w:=X.w) (J.ok.hd aI) it lo 1 n;refine W.item i s _ _ aU st λv h' tk bL cq ed=>?_
  obtain⟨t,rfl⟩:=bL;have a_:Inv X zn Y H { s with heap:=h',toks:=tk }:=J.turned (λb o af e=>ed b o (by simpa using af) e) f0 f1 gZ f4 g0;refine⟨_,rfl,u1 (s:={ s with heap:=h',toks:=tk }) (n:="range_iterator") cq rfl rfl (by decide) ⟨.int (lo+i),H,a_,⟨t,?_⟩,⟨rfl,rfl⟩,cq,λb af=>(hf b af).1⟩⟩;rw[Int.mul_one]
 done:=by
  intro X ez hw hI aI i zn s Y H E J hf st aU;subst ez hw hI;obtain⟨f0,f1,f2,gZ,f4,g0⟩:=hf it (by simp);exact wpAny_pyNext_range_end (J.ok.hd aI) st (by have:n<=i:=aU;omega) λh' dc=>⟨rfl,J.turned (t':=s.toks) (λb o af e=>dc b o af e) f0 f1 gZ f4 g0⟩
 self:=λ_ _ _ _ _ st h=>wpAny_pyIter_rangeiter st h
section
variable{X:aT}{cj:Expr}
def YJ(K:aS)(d7:TE):TI:=λY H R=>d7 Y H λx H1=>∃a,x=.ref a/\(∃xs,dx K H1 a xs)/\R (l6 K a) H1
def YK(K:aS)(d7:TE):TI:=λY H R=>d7 Y H λx H1=>∃a,x=.ref a/\(∃xs,dQ K H1 a xs)/\R (sj K a) H1
def EF(au:bY X l d7):kN X cj l (YJ X.K d7):=by
 intro zn s Y H R J h;refine bZ (au zn s Y H _ J h) λv s1 aX=>?_
 obtain⟨x,H1,a_,bG,bz⟩:=aX;obtain⟨a,e,⟨xs,a9⟩,q⟩:=bz;subst e;cases bG;obtain⟨its,bR,p,hz⟩:=a_.list a9;refine alv p.isList ?_;refine⟨s1.heap.objs.size,[s1.heap.objs.size],_,_,H1,rfl,a_.kept (t':=s1.toks) λb o e=>ajF _ e,afz a _,⟨_,ajS _ rfl,rfl,rfl⟩,λb af=>?_,q⟩;have e:b=s1.heap.objs.size:=by simpa using af
 subst e;exact a_.p5 (ajK _) (a_.bP.fresh (ajK _))
def MJ(au:bY X l d7):kN X cj l (YK X.K d7):=by
 intro zn s Y H R J h;refine bZ (au zn s Y H _ J h) λv s1 aX=>?_
 obtain⟨x,H1,a_,bG,bz⟩:=aX;obtain⟨a,e,⟨xs,a9⟩,q⟩:=bz;subst e;cases bG;obtain⟨its,bR,p,hz⟩:=a_.tuple a9;refine al9 (show s1.heap.IsTuple a its.toArray from p) ?_;refine⟨s1.heap.objs.size,[s1.heap.objs.size],_,_,H1,rfl,a_.kept (t':=s1.toks) λb o e=>ajF _ e,afB a _,⟨_,ajS _ rfl,rfl,rfl⟩,λb af=>?_,q⟩;have e:b=s1.heap.objs.size:=by simpa using af
 subst e;exact a_.p5 (ajK _) (a_.bP.fresh (ajK _))
def acR{zn:c8}{Y:St}{H:aw}{s:ajH}{R:iI->aw->Prop}{E:cN}{lo aD:Int}{t u v:Tok}{tk:Nat}(J:Inv X zn Y H s)(ae:-(2 ^ 62)<=lo)(ah:lo<2 ^ 62)(bF:-(2 ^ 62)<=aD)(dw:aD<2 ^ 62)
  (q:R (pJ lo (aD-lo).toNat) H):wpAny (model X.prog X.w) X.A (pyIter (.ref s.heap.objs.size)) (Gb X zn Y cj R) E { s with heap:=s.heap.push { cls:=.type "range",data:=.fields #[.int lo t,.int aD u,.int 1 v] },toks:=tk }:=by
 refine wpAny_pyIter_range (IsRange.new ..) (small_one ae ah bF dw) ?_;have a_:Inv X zn Y H { s with heap:=s.heap.push { cls:=.type "range",data:=.fields #[.int lo t,.int aD u,.int 1 v] },toks:=tk }:=J.kept λb o e=>ajF _ e
 refine⟨(s.heap.push { cls:=.type "range",data:=.fields #[.int lo t,.int aD u,.int 1 v] }).objs.size,[(s.heap.push { cls:=.type "range",data:=.fields #[.int lo t,.int aD u,.int 1 v] }).objs.size],_,_,H,rfl,
  a_.kept (t':=tk) λb o e=>ajF _ e,afA _ lo (aD-lo).toNat,?_,λb af=>?_,q⟩
 .have ao:lo+((0:Nat):Int)*1=lo:=by simp
  have az:(((aD-lo).toNat:Nat):Int)-((0:Nat):Int)=Builtin.Range.rangeSize lo aD 1:=by rw[rangeSize_one];split<;>omega
  show IsRangeIter _ _ (lo+((0:Nat):Int)*1) ((((aD-lo).toNat:Nat):Int)-((0:Nat):Int)) 1;rw[ao,az];exact ajS _ rfl
 .have e:b=(s.heap.push { cls:=.type "range",data:=.fields #[.int lo t,.int aD u,.int 1 v] }).objs.size:=by simpa using af
  subst e;exact a_.p5 (ajK _) (a_.bP.fresh (ajK _))
def Dj(b9:gA):TI:=λY H R=>b9 Y H λvs H1=>∃j:Int,vs=[.int j]/\-(2 ^ 62)<=j/\j<2 ^ 62/\R (pJ 0 j.toNat) H1
def EG(aU:eU X "range")(hm:X.mg "range"=none)(ar:gm X [a] b9)(aE:ajG [a] X.env=[(false,eval a X.env)]:=by rfl):kN X cj (.Call (.Name "range" p) [a] [] pos) (Dj b9):=by
 intro zn s Y H R J h;refine Call_ (ry J aU hm boot_range (amt (bZ (ar pos zn s Y H _ J h) λus s1 ⟨vs,H1,a_,bG,bz⟩=>?_) aE rfl));obtain⟨j,e,bz,cf,q⟩:=bz;subst e
 cases bG with
 |cons r bu=>
  cases bu;obtain⟨t,rfl⟩:=r;exact call_range_1 (acR a_ (by omega) (by omega) bz cf (by simpa using q))
def r0(wi:TI)(g:jo)(c6:hl):hl:=λD Y H=>wi Y H λcm H1=>∃W:Nat->Nat->St->aw->Prop,(∃m,W 0 m Y H1)/\∀i m Y H,W i m Y H->
 (cm.stop i H/\D.bh Y H)\/(cm.go i H/\∃N:St->aw->Prop,(∀Y' H',N Y' H'->∃eQ,eQ<m/\W (i+1) eQ Y' H')/\∀x H',cm.pB i H x H'->g x Y H' λdX aM=>c6 { D with bh:=N,cw:=N,cP:=D.bh } dX aM)
def rP(aN:List Addr)(h:Heap):List (Addr×Obj):=aN.filterMap λb=>(h.get? b).map λo=>(b,o)
def zz{h:Heap}(af:b∈aN)(e:h.get? b=some o):(b,o)∈rP aN h:=List.mem_filterMap.mpr ⟨b,af,by rw[e];rfl⟩
def aaV{h:Heap}(aK:p∈rP aN h):p.1∈aN/\h.get? p.1=some p.2:=by
 obtain⟨b,af,e⟩:=List.mem_filterMap.mp aK
 cases q:h.get? b with
 |none=>rw[q]at e;cases e
 |some o=>
  rw[q]at e;have cF:(b,o)=p:=akd e;subst cF;exact⟨af,q⟩
def Inv.pinned{s:ajH}(J:Inv X zn Y H s)(hf:∀b∈aN,gJ X zn H b)(bf:∀b∈aN,∃o,s.heap.get? b=some o/\∀v,o.data≠.cell v):Inv X (zn++rP aN s.heap) Y H s:=
 J.ML λp aK=>(akp.mp aK).elim (λz=>J.pin p (aky _ z)) λz=>by
  obtain⟨af,e⟩:=aaV z;obtain⟨f0,f1,f2,_⟩:=hf p.1 af;obtain⟨o,cF,d⟩:=bf p.1 af;rw[e]at cF;cases cF;exact⟨e,f0,f1,f2,d⟩
def Inv.xa(J:Inv X (zn++pl) Y H s):Inv X zn Y H s:=J.ML λp aK=>J.pin p (aky _ (am8 _ aK))
def zU{iter:Expr}{body:List Stmt}{wi:TI}{g:jo}{c6:hl}{pos:Pos}(aK:anz (model X.prog X.w) X.A X.env X.d2)(aI:X.calm=true)(aD:kN X cj iter wi)(aU:pM X cj g)(af:iX X body c6)
  (aE:∀x,akv iter X.env x=pure x:=by intro _;rfl):iW X (.For cj iter body [] pos) (r0 wi g c6):=by
 intro zn s Y H D J h;refine wpAny_For (bZ (aD zn s Y H _ J h) λv s1 ae=>bZ ae λy3 s2 ah=>?_) aE;obtain⟨it,aN,fY,cm,aM,e,bX,T,cU,f2,W,⟨m0,r7⟩,turn⟩:=ah;subst e;have rY:∀{H':aw},(∀b∈aN,H' b=none)->∀b∈aN,gJ X zn H' b:=λaH b af=>⟨aH b af,(f2 b af).2⟩
 refine codeAny_forLoop_any (λn aQ=>∃i Y' H',Inv X zn Y' H' aQ/\fY i aQ.heap/\(∀b∈aN,H' b=none)/\W i n Y' H') ?_ m0 ⟨0,Y,aM,bX,cU,λb af=>(f2 b af).1,r7⟩;rintro n s3 ⟨i,xj,cZ,dN,hb,I',afJ⟩;rcases turn i n xj cZ afJ with⟨stop,zZ⟩|⟨go,N,hN,step⟩
 .refine amC aK (bZ (T.done X rfl rfl rfl aI i zn s3 xj cZ X.d2 dN (rY I') hb stop) λr s4 aX=>?_)
  obtain⟨aB,jk⟩:=aX;subst aB;exact aoo ⟨xj,cZ,jk,zZ⟩
 .refine amC aK (bZ (T.item X rfl rfl rfl aI i zn s3 xj cZ X.d2 dN (rY I') hb go) λr s4 aX=>?_)
  obtain⟨u,aB,dw⟩:=aX;subst aB;refine amC aK (bZ dw λ_ s5 aX=>?_);obtain⟨x,lx,sh,EV,agP,qA,yu⟩:=aX;have Qd:=sh.pinned (rY yu) (T.obj _ _ qA);refine amC aK (bZ (aU _ s5 xj lx x u _ Qd EV (step x lx agP)) λ_ fK aX=>?_);obtain⟨ahN,P9,uf,ET⟩:=aX;refine amC aK (bZ (af _ fK ahN P9 _ uf ET) λf eh n3=>?_);have again:∀{m7:St}{ka:aw},Inv X (zn++rP aN s5.heap) m7 ka eh->N m7 ka->∃m,m<n/\∃i Y' H',Inv X zn Y' H' eh/\fY i eh.heap/\(∀b∈aN,H' b=none)/\W i m Y' H':=λ{m7 ka} kL v8=>by
   obtain⟨eQ,hm,afK⟩:=hN m7 ka v8;refine⟨eQ,hm,i+1,m7,ka,kL.xa,T.keep _ _ _ qA λb af o e=>(kL.pin (b,o) (aky _ (aky _ (zz af e)))).1,λb af=>?_,afK⟩;obtain⟨o,e,d⟩:=T.obj _ _ qA b af;exact(kL.pin (b,o) (aky _ (aky _ (zz af e)))).2.1
  cases f with
  |next=>obtain⟨m7,ka,kL,v8⟩:=n3;exact again kL v8
  |cont=>obtain⟨m7,ka,kL,v8⟩:=n3;exact again kL v8
  |brk=>obtain⟨m7,ka,kL,n3⟩:=n3;exact⟨m7,ka,kL.xa,n3⟩
  |ret v=>obtain⟨agI,m7,ka,kL,wM,n3⟩:=n3;exact⟨agI,m7,ka,kL.xa,wM,n3⟩
end
abbrev gb:=V->V->aw->df->Prop
def ew(X:aT)(f:Value->Value->Sem Value)(r:gb):Prop:=
 ∀(zn:c8)(s:ajH)(Y:St)(H:aw)(x y:V)(v u:Value)(Q:df),Inv X zn Y H s->RelV x v->RelV y u->r x y H Q->
  wpAny (model X.prog X.w) X.A (f v u) (hA X zn Y Q) X.d2 s
def jh(X:aT)(f:Value)(r:List V->aw->df->Prop):Prop:=
 ∀(zn:c8)(s:ajH)(Y:St)(H:aw)(xs:List V)(us:List Value)(Q:df),Inv X zn Y H s->Vals xs us->r xs H Q->
  wpAny (model X.prog X.w) X.A (call f us) (hA X zn Y Q) X.d2 s
def w6(r:gb)(b9 c6:TE):TE:=λY H Q=>b9 Y H λx H1=>c6 Y H1 λy aM=>r x y aM Q
def kA(C:Int->Int->Prop)(g:Int->Int->V):gb:=λx y H Q=>∃i j,x=.int i/\y=.int j/\C i j/\Q (g i j) H
def h9(g:Int->Int->V):gb:=λx y H Q=>∃i j,x=.int i/\y=.int j/\Q (g i j) H
section
variable{X:aT}{a b:Expr}{b9 c6:TE}{pos:Pos}
def Bu(ar:bY X a b9)(af:bY X b c6){zn:c8}{s:ajH}{Y:St}{H:aw}{R:V->V->aw->Prop}(J:Inv X zn Y H s)
  (h:b9 Y H λx H1=>c6 Y H1 λy aM=>R x y aM) {Q:cN}{f:Value->Value->Sem Value}
  (hf:∀v u s2 x y aM,Inv X zn Y aM s2->RelV x v->RelV y u->R x y aM->wpAny (model X.prog X.w) X.A (f v u) Q X.d2 s2) :
  wpAny (model X.prog X.w) X.A (eval a X.env) (λv dD=>wpAny (model X.prog X.w) X.A (eval b X.env) (λu mZ=>wpAny (model X.prog X.w) X.A (f v u) Q X.d2 mZ) X.d2 dD) X.d2 s:=by
 refine bZ (ar zn s Y H _ J h) λv s1 aX=>?_
 obtain⟨x,H1,a_,bG,bz⟩:=aX;refine bZ (af zn s1 Y H1 _ a_ bz) λu s2 aX=>?_
 obtain⟨y,aM,bX,cx,cf⟩:=aX;exact hf v u s2 x y aM bX bG cx cf
def ab3{r:gb}(bf:ew X (alA op) r)(ar:bY X a b9)(af:bY X b c6):bY X (.BinOp a op b pos) (w6 r b9 c6):=by
 intro zn s Y H Q J h;exact wpAny_BinOp (Bu ar af J h λv u s2 x y aM bX a7 bC q=>bf zn s2 Y aM x y v u Q bX a7 bC q)
def tM{f:Value->Value->Sem Value}{C:Int->Int->Prop}{g:Int->Int->Int}
  (rule:∀(i j:Int)(t u:Tok)(s:ajH)(Q:cN)(E:cN),C i j->Q (.int (g i j) s.toks) { s with toks:=s.toks+1 }->wpAny (model X.prog X.w) X.A (f (.int i t) (.int j u)) Q E s) :
  ew X f (kA C λi j=>.int (g i j)):=by
 intro zn s Y H x y v u Q J a7 bC h;obtain⟨i,j,rfl,rfl,aI,q⟩:=h;obtain⟨t,rfl⟩:=a7;obtain⟨t',rfl⟩:=bC;exact rule i j t t' s _ _ aI ⟨.int (g i j),H,J.tok _,⟨_,rfl⟩,q⟩
def zP{f:Value->Value->Sem Value}{g:Int->Int->Int}
  (rule:∀(i j:Int)(t u:Tok)(s:ajH)(Q:cN)(E:cN),Q (.int (g i j) s.toks) { s with toks:=s.toks+1 }->wpAny (model X.prog X.w) X.A (f (.int i t) (.int j u)) Q E s) :
  ew X f (h9 λi j=>.int (g i j)):=by
 intro zn s Y H x y v u Q J a7 bC h;obtain⟨i,j,rfl,rfl,q⟩:=h;obtain⟨t,rfl⟩:=a7;obtain⟨t',rfl⟩:=bC;exact rule i j t t' s _ _ ⟨.int (g i j),H,J.tok _,⟨_,rfl⟩,q⟩
def zO{f:Value->Value->Sem Value}{g:Int->Int->Bool}
  (rule:∀(i j:Int)(t u:Tok)(s:ajH)(Q:cN)(E:cN),Q (.bool (g i j)) s->wpAny (model X.prog X.w) X.A (f (.int i t) (.int j u)) Q E s) :
  ew X f (h9 λi j=>.aC (g i j)):=by
 intro zn s Y H x y v u Q J a7 bC h;obtain⟨i,j,rfl,rfl,q⟩:=h;obtain⟨t,rfl⟩:=a7;obtain⟨t',rfl⟩:=bC;exact rule i j t t' s _ _ ⟨.aC (g i j),H,J,rfl,q⟩
def xo(i j:Int):Prop:=0<=j/\j<=1000000/\i.natAbs<2 ^ 64
def xn(i j:Int):Prop:=(-(2 ^ 64)<i/\i<2 ^ 64)\/(-(2 ^ 64)<j/\j<2 ^ 64)
def xn.ok{i j:Int}(h:xn i j):IntMulOk i j:=by
 rcases h with⟨ae,ah⟩|⟨ae,ah⟩
 .exact .of_left (intBits_le_64 ae ah)
 .exact .of_right (intBits_le_64 ae ah)
def afD(k:Nat):(0:Int)<=2 ^ k:=by
 rw[two_pow_cast];exact Int.natCast_nonneg _
def aa4:ew X (alA .Add) (h9 λi j=>.int (i+j)):=zP λ_ _ _ _ _ _ _ q=>add_int q
def abj:ew X (alA .Sub) (h9 λi j=>.int (i-j)):=zP λ_ _ _ _ _ _ _ q=>sub_int q
def abc:ew X (alA .Mod) (kA (λ_ j=>0<j) λi j=>.int (i % j)):=tM λi j _ _ _ _ _ aI q=>by
 have ae:(0:Int)<j:=aI;exact mod_int' (by omega) (by rw[Int.fmod_eq_emod_of_nonneg i (by omega)];exact q)
def abg:ew X (alA .Pow) (kA xo λi j=>.int (i ^ j.toNat)):=tM λ_ _ _ _ _ _ _ aI q=>pow_int_small aI.1 aI.2.1 aI.2.2 q
def abh:ew X (alA .LShift) (kA xo λi j=>.int (i*2 ^ j.toNat)):=tM λ_ _ _ _ _ _ _ aI q=>lshift_int_small aI.1 aI.2.1 aI.2.2 q
def abi:ew X (alA .RShift) (kA (λ_ j=>0<=j) λi j=>.int (i / 2 ^ j.toNat)):=tM λi j _ _ _ _ _ aI q=>
 rshift_int aI (by rw[anM i (afD _)];exact q)
def aa6:ew X (alA .BitAnd) (h9 λi j=>.int (amm i j)):=zP λ_ _ _ _ _ _ _ q=>and_int q
def abf:ew X (alA .BitOr) (h9 λi j=>.int (amZ i j)):=zP λ_ _ _ _ _ _ _ q=>or_int q
end
section
variable{X:aT}{a b c:Expr}{b9 c6 tZ:TE}{pos:Pos}
def Ci{Q:df}{k mL:Bool}(J:Inv X zn Y H s)(q:Q (.aC k) H)(e:k=mL):hA X zn Y Q (.bool mL) s:=by
 subst e;exact⟨.aC k,H,J,rfl,q⟩
def Mv:ew X (akq .Lt) (h9 λi j=>.aC (decide (i<j))):=zO λ_ _ _ _ _ _ _ q=>lt_int q
def Er:ew X (akq .LtE) (h9 λi j=>.aC (decide (i<=j))):=zO λ_ _ _ _ _ _ _ q=>le_int q
def aba:ew X (akq .Gt) (h9 λi j=>.aC (decide (j<i))):=zO λ_ _ _ _ _ _ _ q=>gt_int q
def Mr:ew X (akq .GtE) (h9 λi j=>.aC (decide (j<=i))):=zO λ_ _ _ _ _ _ _ q=>ge_int q
def Mt:ew X (akq .In) (λx y H Q=>∃i j,x=.str i/\y=.str j/\Q (.aC (!(al4 j i 0 j.length 1).isEmpty)) H):=by
 intro zn s Y H x y v u Q J a7 bC h;obtain⟨i,j,rfl,rfl,q⟩:=h;obtain⟨t,rfl⟩:=a7;obtain⟨t',rfl⟩:=bC;exact in_str (Ci J q rfl)
def Mu:ew X (akq .Is) (λx y H Q=>y=.aG/\Q (.aC (decide (x=.aG))) H):=by
 intro zn s Y H x y v u Q J a7 bC h;obtain⟨rfl,q⟩:=h;cases bC;refine is_none_gen (Ci J q ?_);cases x<;>first
  |(cases a7;rfl)
  |(obtain⟨t,rfl⟩:=a7;rfl)
def Mw:ew X (akq .IsNot) (λx y H Q=>y=.aG/\Q (.aC (!decide (x=.aG))) H):=by
 intro zn s Y H x y v u Q J a7 bC h;obtain⟨rfl,q⟩:=h;cases bC;refine isnot_none_gen (Ci J q ?_);cases x<;>first
  |(cases a7;rfl)
  |(obtain⟨t,rfl⟩:=a7;rfl)
def jx(b:Expr)(h:op≠.In:=by decide)(ah:op≠.NotIn:=by decide):alx op b=false:=by
 have ao:(op==CmpOp.In)=false:=by cases op<;>first|rfl|exact absurd rfl h
 have az:(op==CmpOp.NotIn)=false:=by cases op<;>first|rfl|exact absurd rfl ah
 cases b<;>simp[alx,ao,az]
def abN{r:gb}(bf:ew X (akq op) r)(ar:bY X a b9)(af:bY X b c6)(hm:alx op b=false):bY X (.Compare a [op] [b] pos) (w6 r b9 c6):=by
 intro zn s Y H Q J h;exact wpAny_Compare1 (Bu ar af J h λv u s2 x y aM bX a7 bC q=>bf zn s2 Y aM x y v u Q bX a7 bC q) hm
def w8(t:TE):TT:=λY H Q=>t Y H λx H'=>∃k,x=.aC k/\Q k H'
theorem acr{r:gb}(bf:ew X (akq op) r)(ar:bY X a b9)(af:bY X b c6)(hm:alx op b=false):iY X (.Compare a [op] [b] pos) (w8 (w6 r b9 c6)):=by
 intro zn s Y H Q J h;refine wpAny_isTrue_Compare1 (bZ (ar zn s Y H _ J h) λv s1 ⟨x,H1,a_,bG,bz⟩=>bZ (af zn s1 Y H1 _ a_ bz) λu s2 ⟨y,aM,bX,cx,cf⟩=>
  bZ (bf zn s2 Y aM x y v u _ bX bG cx cf) λc s3 ⟨z,cZ,dN,pd,k,e,h8⟩=>?_) hm
 subst e;cases pd;exact akY ⟨cZ,dN,h8⟩
def O2(r bT:gb)(b9 c6 tZ:TE):TE:=λY H Q=>b9 Y H λx H1=>c6 Y H1 λy aM=>r x y aM λz cZ=>∃k,z=.aC k/\
 (if k=true then tZ Y cZ λeC hU=>bT y eC hU Q else Q (.aC false) cZ)
def acq{op tL:CmpOp}{r bT:gb}(bf:ew X (akq op) r)(iw:ew X (akq tL) bT)(ar:bY X a b9)(af:bY X b c6)(aI:bY X c tZ)
  (hm:lastMarks [op,tL] [b,c]=false:=by with_unfolding_all rfl):iY X (.Compare a [op,tL] [b,c] pos) (w8 (O2 r bT b9 c6 tZ)):=by
 intro zn s Y H Q J h;refine isTrue_chain (bZ (ar zn s Y H _ J h) λv s1 ⟨x,H1,a_,bG,bz⟩=>test_link (bZ (af zn s1 Y H1 _ a_ bz) λu s2 ⟨y,aM,bX,cx,cf⟩=>
  bZ (bf zn s2 Y aM x y v u _ bX bG cx cf) λd s3 ⟨z,cZ,dN,pd,k,e,h8⟩=>?_)) hm
 subst e;cases pd;refine akY ?_
 cases k with
 |false=>
  obtain⟨mL,cF,hM⟩:=h8;cases cF;exact ite_ff ⟨cZ,dN,hM⟩
 |true=>
  refine ite_tt (test_last (bZ (aI zn s3 Y cZ _ dN h8) λeC s4 ⟨lj,hU,jk,n5,ES⟩=>bZ (iw zn s4 Y hU y lj u eC _ jk cx n5 ES) λd' s5 aX=>?_));obtain⟨eS,lx,sh,EV,gr,az,acC⟩:=aX;subst az;cases EV;exact akY ⟨lx,sh,acC⟩
def vE:(ajL:Nat)<2 ^ 63:=by rw[ake];decide
def aa5:ew X (alA .Add) (λx y H Q=>∃i j,x=.str i/\y=.str j/\i.length+j.length<=ajL/\Q (.str (i++j)) H):=by
 intro zn s Y H x y v u Q J a7 bC h;obtain⟨i,j,rfl,rfl,hz,q⟩:=h;obtain⟨t,rfl⟩:=a7;obtain⟨t',rfl⟩:=bC;exact add_str (λt' tk=>⟨.str (i++j),H,J.tok _,⟨_,rfl⟩,q⟩) hz
def vals1(r:Vals [x] us):∃u,us=[u]/\RelV x u:=by
 cases r with
 |cons bG cx=>cases cx;exact⟨_,rfl,bG⟩
def vals2(r:Vals [x,y] us):∃u eC,us=[u,eC]/\RelV x u/\RelV y eC:=by
 cases r with
 |cons bG cx=>
  cases cx with
  |cons pd n5=>cases n5;exact⟨_,_,rfl,bG,pd⟩
def Tn:jh X (.builtin "abs") (λxs H Q=>∃i,xs=[.int i]/\Q (.int (if i<0 then -i else i)) H):=by
 intro zn s Y H xs us Q J r h;obtain⟨i,rfl,q⟩:=h;obtain⟨u,rfl,t,rfl⟩:=vals1 r;exact call_abs_int λu tk=>⟨.int (if i<0 then -i else i),H,J.tok _,⟨_,rfl⟩,q⟩
def Tu(aI:X.calm=true):jh X (.builtin "max") (λxs H Q=>∃i j,xs=[.int i,.int j]/\Q (.int (if j > i then j else i)) H):=by
 intro zn s Y H xs us Q J r h;obtain⟨i,j,rfl,q⟩:=h;obtain⟨u,eC,rfl,⟨t,rfl⟩,⟨t',rfl⟩⟩:=vals2 r;refine max_two_ints (J.ok.hd aI) λh' tk k=>⟨_,H,J.kept k,?_,q⟩
 by_cases aZ:j > i
 .rw[if_pos aZ,if_pos aZ];exact⟨_,rfl⟩
 .rw[if_neg aZ,if_neg aZ];exact⟨_,rfl⟩
def Tp:jh X (.type "int") (λxs H Q=>(∃i,xs=[.int i]/\Q (.int i) H)\/∃k,xs=[.aC k]/\Q (.int (if k then 1 else 0)) H):=by
 intro zn s Y H xs us Q J r h;rcases h with⟨i,rfl,q⟩|⟨k,rfl,q⟩
 .obtain⟨u,rfl,t,rfl⟩:=vals1 r
  exact call_int_int ⟨.int i,H,J,⟨_,rfl⟩,q⟩
 .obtain⟨u,rfl,bG⟩:=vals1 r
  cases bG;exact call_int_bool ⟨.int (if k then 1 else 0),H,J.tok _,⟨_,rfl⟩,q⟩
end
structure qT(h:Heap)(x b7 C:Addr)(eA:bq):Prop where
 obj:h.get? x=some (amG C b7)
 ns:h.Ns1 b7 eA
 ne:b7≠x
def Z0{h:Heap}{eA:bq}(n:h.Ns1 b7 eA):∃dj,h.get? b7=some dj/\∀name,W.lookIn name dj=some (eA name):=by
 obtain⟨o,ay,cB,bf,hd,ax,_,hm⟩:=n;refine⟨o,bf,λname=>?_⟩;have e:=hm name;unfold nsFind anA at e;rw[<-Array.find?_toList]at e;unfold W.lookIn;rw[hd];dsimp only;split
 .rename_i y q
  rw[q]at e;exact congrArg some e
 .rename_i q
  rw[q]at e;have a:ay.toList.any (·.refKey)=false:=by
   rw[List.any_eq_false];intro y bg;obtain⟨z,t,yO⟩:=ax y (Array.mem_toList_iff.mp bg);simp[DictEntry.refKey,yO]
  have Qr:¬ay.toList.any (·.refKey)=true:=by rw[a];exact ajO
  rw[if_neg Qr];exact congrArg some e
def qT.look{eA:bq}(J:qT h x b7 C eA):∃dj,W.InstAt h x (amG C b7) C (some dj)/\∀name,W.lookIn name dj=some (eA name):=
 let⟨dj,bf,au⟩:=Z0 J.ns
 ⟨dj,⟨J.obj,rfl,rfl,bf⟩,au⟩
section
variable{prog:ajY}{w:World}{A:aj4}{E:cN}{s:ajH}{K:aS}{x b7 C f:Addr}{eA:bq}{name:Str}{v:Value}
def get_map{expr:Bool}{Q:cN}(X:K.In s.heap)(J:qT s.heap x b7 C eA)(aU:anZ K C name=true)(dK:aot K C=true)
  (ar:alM K (.ref C) name=some none) (bL:eA name=some v) (mG:W.handedIn v=true) (h:Q v { s with toks:=s.toks+1 }) :
  wpAny (model prog w) A (getAttr (.ref x) name expr) Q E s:=by
 obtain⟨dj,cm,au⟩:=J.look;exact W.get_value X cm (W.plainGet_of aU).1 (W.findObj_own dK ar rfl (by rw[au,bL])) mG h
def V4{pl:Sem Bool}{Q:Value×List Value->ajH->Prop}(X:K.In s.heap)(J:qT s.heap x b7 C eA)(aU:anZ K C name=true)
  (hf:alM K (.ref C) name=some (some (.ref f))) (bO:W.isFn K (.ref f)=true) (bL:eA name=none) (h:Q (.ref f,[.ref x]) s) :
  wpAny (model prog w) A (alC (.ref x) name pl) Q E s:=by
 obtain⟨dj,cm,au⟩:=J.look;exact W.method_fn X cm (W.plainGet_of aU).1 (W.plainGet_of aU).2 hf (beq_iff_eq.mp bO) (by show(W.lookIn name dj).map (·.isSome)=some false;rw[au,bL];rfl) h
def aep{ns:List Str}{Q:Unit->ajH->Prop}(X:K.In s.heap)(J:qT s.heap x b7 C eA)
  (aE:alM K (.ref C) "__setattr__"=some (some (.builtin "object.__setattr__"))) (aK:W.plainOver K C=true) (bO:W.takerIn K C name=some none) (dK:aot K C=true)
  (hw:Within eA ns) (hsz:ns.length<=ajL)
  (h:∀h',qT h' x b7 C (λy=>if y=name then some v else eA y)->am9 b7 s.heap h'->Q () { s with heap:=h',toks:=s.toks+2 }) :
  wpAny (model prog w) A (setAttr (.ref x) name v) Q E s:=by
 obtain⟨dj,cm,au⟩:=J.look;refine W.set_plain X cm aE (W.osa_open (s:={ s with toks:=s.toks+1 }) (r:=none) X cm aK bO λb=>?_);obtain⟨cd,aI,va⟩:=W.any_some dK;have ag:s.heap.get? x=some ⟨.ref C,some b7,.plain,#[]⟩:=J.obj;refine ajD (ajI (ajD (ajD (wpAny_loadPart ag (ajD (W.Looks.here (s:={ s with toks:=s.toks+1 }) (W.looks_clsIn X aI) ?_))))));rw[va];refine ajI (a:=some b7) (ajD (ajI (ajD ?_)));refine wpAny_nsSet1 (s:={ s with toks:=s.toks+1 }) J.ns λh' sU k0=>?_
 obtain⟨ajg,aiV,aiU,Yr,XP,XN⟩:=sU.count (Within.cons name v hw);refine ajD (wpAny_lookBehind Yr (by rw[XP];exact pastItsLine_dict (akT XN (by rw[ajW];omega))) ?_);exact ajI (h _ ⟨(k0.2 _ (amA J.ne)).trans J.obj,sU,J.ne⟩ k0)
def Z9{R:Result->ajH->Prop}{vs:List Value}{kw:List (Str×Value)}(X:K.In s.heap)(hm:W.makesIn K C=true)
  (aD:alM K (.ref C) "__init__"=some (some (.ref f))) (hf:W.typeIn K (.ref f)=some (.type "function"))
  (h:amn (model prog w) (A.under (.builtin "type.__call__" ⟨.ref C::vs,kw⟩)) (.call (.ref f) ⟨.ref (s.heap.objs.size+1)::vs,kw⟩) (W.InitBack (s.heap.objs.size+1) R)
   { s with heap:=(s.heap.push alS).push (amG C s.heap.objs.size) }) :
  amn (model prog w) A (.call (.ref C) ⟨vs,kw⟩) R s:=by
 obtain⟨dK,g,d,t,os⟩:=s;exact W.make_core (W.makes_of X hm) (W.looks_findIn X aD) (λself=>W.bind_fn X self hf) (.inl rfl) h
end
def iA(f:Str)(v:V):List (Str×V)->List (Str×V)
 |[]=>[(f,v)]
 |(g,x)::r=>if g=f then(g,v)::r else(g,x)::iA f v r
theorem Lu(f g:Str)(v:V):∀aW:List (Str×V),(iA f v aW).lookup g=if g=f then some v else aW.lookup g
 |[]=>by
  show alh g [(f,v)]=_
  by_cases h:g=f
  .have af:(g==f)=true:=beq_iff_eq.mpr h
   simp only[alh,af,if_pos h]
  .have af:(g==f)=false:=beq_eq_false_iff_ne.mpr h
   simp only[alh,af,if_neg h]
 |(k,x)::r=>by
  have a6:=Lu f g v r;rw[show iA f v ((k,x)::r)=(if k=f then(k,v)::r else(k,x)::iA f v r)from rfl]
  by_cases ax:k=f
  .rw[if_pos ax]
   by_cases h:g=k
   .have af:(g==k)=true:=beq_iff_eq.mpr h
    simp only[alh,af,if_pos (h.trans ax)]
   .have af:(g==k)=false:=beq_eq_false_iff_ne.mpr h
    simp only[alh,af,if_neg (λe:g=f=>h (e.trans ax.symm))]
  .rw[if_neg ax]
   by_cases h:g=k
   .have af:(g==k)=true:=beq_iff_eq.mpr h
    simp only[alh,af,if_neg (λe:g=f=>ax (h.symm.trans e))]
   .have af:(g==k)=false:=beq_eq_false_iff_ne.mpr h
    simp only[alh,af];exact a6
theorem DC(f:Str)(v:V):∀aW:List (Str×V),f∈(iA f v aW).map (·.1)/\∀g,g∈aW.map (·.1)->g∈(iA f v aW).map (·.1)
 |[]=>⟨by simp[iA],λg h=>by simp at h⟩
 |(k,x)::r=>by
  obtain⟨fH,f5⟩:=DC f v r;rw[show iA f v ((k,x)::r)=(if k=f then(k,v)::r else(k,x)::iA f v r)from rfl]
  by_cases ax:k=f
  .rw[if_pos ax]
   subst ax;exact⟨by simp,λg h=>by simpa using h⟩
  .rw[if_neg ax]
   refine⟨?_,λg h=>?_⟩
   .rw[ajP]
    exact ajM _ fH
   .rw[ajP]at h ⊢
    rcases ajN.mp h with e|e
    .exact ajN.mpr (.inl e)
    .exact ajM _ (f5 g e)
theorem Ln(f:Str)(v:V):∀aW:List (Str×V),(iA f v aW).length<=aW.length+1
 |[]=>by simp[iA]|(k,x)::r=>by
  have a6:=Ln f v r;rw[show iA f v ((k,x)::r)=(if k=f then(k,v)::r else(k,x)::iA f v r)from rfl]
  by_cases ax:k=f
  .rw[if_pos ax,ajW,ajW];omega
  .rw[if_neg ax,ajW,ajW];omega
def iJ.some_of{v:V}(r:iJ (some v) o):∃u,o=some u/\RelV v u:=by
 cases o with
 |none=>exact(show False from r).elim|some u=>exact⟨u,rfl,r⟩
def iJ.none_of(r:iJ none o):o=none:=by
 cases o with
 |none=>rfl|some u=>exact(show False from r).elim
def WA{v:V}(r:RelV v u):W.handedIn u=true:=by
 cases v with
 |aG=>cases(show u=akS from r);rfl
 |aC b=>cases(show u=amu b from r);rfl
 |int i=>obtain⟨t,e⟩:=(show ∃t,u=am3 i t from r);cases e;rfl
 |str x=>obtain⟨t,e⟩:=(show ∃t,u=anw x t from r);cases e;rfl
 |x6 b=>obtain⟨t,e⟩:=(show ∃t,u=Value.bytes b t from r);cases e;rfl
 |yp b=>obtain⟨t,e⟩:=(show ∃t,u=Value.float b t from r);cases e;rfl
 |ref a=>cases(show u=aka a from r);rfl
 |ty n=>cases(show u=amM n from r);rfl
section
variable{P:ajY}{w:World}{H:aw}{h:Heap}{a C b7:Addr}{aW:List (Str×V)}
def Dm(bP:fs P w H h)(e:H a=some (.ins C b7 aW)):∃eA,qT h a b7 C eA/\(∀f,iJ (aW.lookup f) (eA f))/\Within eA (aW.map (·.1))/\aW.length<=1000/\H b7=some (.own a):=by
 obtain⟨d,z,ne,bD,eA,n,r,q⟩:=(show gU P w H h a (.ins C b7 aW)from bP a _ e);exact⟨eA,⟨bD,n,ne⟩,r,q,z,d⟩
end
structure ji(K:aS)(C:Addr):Prop where
 mS:anZ K C Str.empty=true
 hd:aot K C=true
 po:W.plainOver K C=true
 k6:alM K (.ref C) "__setattr__"=some (some (.builtin "object.__setattr__"))
def ji.get{K:aS}{C:Addr}(c:ji K C)(f:Str):anZ K C f=true:=c.mS
def qR(K:aS)(C:Addr)(f:Str):Prop:=alM K (.ref C) f=some none
def qR.afk{K:aS}{C:Addr}{f:Str}(n:qR K C f):W.takerIn K C f=some none:=by
 unfold W.takerIn;rw[show alM K (.ref C) f=some none from n];rfl
structure Meth(K:aS)(C:Addr)(m:Str)(f:Addr):Prop where
 at_:alM K (.ref C) m=some (some (.ref f))
 fn:W.isFn K (.ref f)=true
 kp:alB K (.ref f)=true
section
variable{X:aT}{zn:c8}{Y:St}{H:aw}{s:ajH}{a C b7:Addr}{aW:List (Str×V)}{f:Str}{v:V}{A:aj4}{E:cN}
def V6{b:Bool}{Q:cN}(J:Inv X zn Y H s)(e:H a=some (.ins C b7 aW))(c:ji X.K C)(n:qR X.K C f)(l:aW.lookup f=some v)
  (h:∀u aQ,Inv X zn Y H aQ->RelV v u->Q u aQ):wpAny (model X.prog X.w) A (getAttr (.ref a) f b) Q E s:=by
 obtain⟨eA,O,r,_,_,_⟩:=Dm J.bP e;obtain⟨u,cC,eg⟩:=iJ.some_of (v:=v) (o:=eA f) (by rw[<-l];exact r f);exact get_map J.fp O (c.get f) c.hd n cC (WA eg) (h u _ (J.tok _) eg)
def CB{m:Str}{g:Addr}{pl:Sem Bool}{Q:Value×List Value->ajH->Prop}(J:Inv X zn Y H s)(e:H a=some (.ins C b7 aW))(c:ji X.K C)(k:Meth X.K C m g)(l:aW.lookup m=none)
  (h:Q (.ref g,[.ref a]) s):wpAny (model X.prog X.w) A (alC (.ref a) m pl) Q E s:=by
 obtain⟨eA,O,r,_,_,_⟩:=Dm J.bP e;have aH:eA m=none:=iJ.none_of (by rw[<-l];exact r m);exact V4 J.fp O (c.get m) k.at_ k.fn aH h
def aeq{y:V}{u:Value}{Q:Unit->ajH->Prop}(J:Inv X zn Y H s)(e:H a=some (.ins C b7 aW))(c:ji X.K C)(n:qR X.K C f)(au:aW.length<1000)(bC:RelV y u)
  (h:∀aQ,Inv X zn Y (upd H a (.ins C b7 (iA f y aW))) aQ->Q () aQ):wpAny (model X.prog X.w) A (setAttr (.ref a) f u) Q E s:=by
 obtain⟨eA,O,r,wi,_,bf⟩:=Dm J.bP e;have hz:(aW.map (·.1)).length<=ajL:=by rw[ajE,ake];omega
 refine aep J.fp O c.k6 c.po n.afk c.hd wi hz λh' aq k7=>h _ ?_
 have hd:∃o,h'.get? b7=some o:=let⟨o,_,_,cF,_⟩:=aq.ns;⟨o,cF⟩
 refine J.write (x:=a) (e:=b7) (by rw[e];exact ak4) (.inr bf) (λb q af z=>(k7.2 b af).trans z) hd ?_;refine⟨by rw[dm O.ne];exact bf,?_,O.ne,aq.obj,_,aq.ns,λg=>?_,λg aU=>?_⟩
 .have:=Ln f y aW;omega
 .show iJ ((iA f y aW).lookup g) (if g=f then some u else eA g)
  rw[Lu]
  by_cases q:g=f
  .rw[if_pos q,if_pos q];exact bC
  .rw[if_neg q,if_neg q];exact r g
 .by_cases q:g=f
  .rw[q];exact(DC f y aW).1
  .refine(DC f y aW).2 g (wi g λz=>aU ?_)
   show(if g=f then some u else eA g)=none;rw[if_neg q];exact z
theorem Inv.made(J:Inv X zn Y H s):Inv X zn Y (upd (upd H s.heap.objs.size (.own (s.heap.objs.size+1))) (s.heap.objs.size+1) (.ins C s.heap.objs.size []))
  { s with heap:=(s.heap.push alS).push (amG C s.heap.objs.size) }:=by
 have ao:(s.heap.push alS).get? s.heap.objs.size=some alS:=ajS s.heap rfl;have az:((s.heap.push alS).push (amG C s.heap.objs.size)).get? (s.heap.objs.size+1)=some (amG C s.heap.objs.size):=by
  have:=ajS (s.heap.push alS) (o:=amG C s.heap.objs.size) rfl
  rwa[alT]at this
 have cG:(s.heap.push alS).Ns s.heap.objs.size (λ_=>none):=⟨alS,#[],_,ao,rfl,(λe he=>absurd he (by simp)),λ_=>rfl⟩;have a_:=J.laid (a:=s.heap.objs.size) (o:=.own (s.heap.objs.size+1)) (h':=s.heap.push alS) (t':=s.toks) (λb u q=>ajF _ q) (ajK _) ⟨_,ao⟩;refine a_.laid (a:=s.heap.objs.size+1) (o:=.ins C s.heap.objs.size []) (t':=s.toks) (λb u q=>ajF _ q) (ali (alT _ _)) ?_;have ne:s.heap.objs.size≠s.heap.objs.size+1:=aj1 (an9 _);refine⟨by rw[dm ne,dG],aj5 _,ne,az,λ_=>none,(Heap.Ns1.of_empty cG).at λo q=>ajF _ q,λ_=>ak4,λy bg=>absurd rfl bg⟩
def QL{prog:ajY}{w:World}{env:Env}{e:Expr}{f:Str}{pos:Pos}{s:ajH}{Q:cN}(af:aln e f env (eval e env)=eval e env)
  (h:wpAny (model prog w) A (eval e env) (λo dD=>wpAny (model prog w) A (getAttr o f true) Q E dD) E s):wpAny (model prog w) A (eval (.Attribute e f pos) env) Q E s:=
 Attribute_any_ h (by rw[arm_eval_Attribute,af])
end
def ae0(K:aS)(b9:TE)(f:Str):TE:=λY H Q=>b9 Y H λx H1=>∃a C b7 aW v,x=.ref a/\H1 a=some (.ins C b7 aW)/\ji K C/\qR K C f/\aW.lookup f=some v/\Q v H1
def ac3(K:aS)(b9 lb:TE)(f:Str):hl:=λD Y H=>lb Y H λy H1=>b9 Y H1 λx aM=>∃a C b7 aW,x=.ref a/\aM a=some (.ins C b7 aW)/\ji K C/\qR K C f/\aW.length<1000/\
 D.bh Y (upd aM a (.ins C b7 (iA f y aW)))
section
variable{X:aT}{o e value:Expr}{f:Str}{pos pos':Pos}{b9 lb:TE}
def abS(he:bY X e b9)(af:aln e f X.env (eval e X.env)=eval e X.env):bY X (.Attribute e f pos) (ae0 X.K b9 f):=by
 intro zn s Y H Q J h;refine QL af (bZ (he zn s Y H _ J h) λu s1 aX=>?_);obtain⟨x,H1,a_,a7,a,C,b7,aW,v,ex,gC,c,n,l,q⟩:=aX;subst ex;obtain rfl:u=aka a:=a7;exact V6 a_ gC c n l λu' s2 bX eg=>⟨v,H1,bX,eg,q⟩
def acn(ar:bY X o b9)(bL:bY X value lb)(aE:ak8 value (some (.Attribute o f pos')) pos.line X.env=pure false):iW X (.Assign [.Attribute o f pos'] value pos) (ac3 X.K b9 lb f):=by
 intro zn s Y H D J h;refine plainObj_wpAny_Assign_Attribute (bZ (bL zn s Y H _ J h) λu s1 ⟨y,H1,a_,bC,q⟩=>bZ (ar zn s1 Y H1 _ a_ q) λep s2 ⟨x,aM,bX,a7,a,C,b7,aW,ex,gC,c,n,l,cf⟩=>?_) aE;subst ex;obtain rfl:ep=aka a:=a7;exact aeq bX gC c n l bC λs3 dN=>⟨Y,_,dN,cf⟩
def ajf{pl:Sem Bool}{m:Str}{apos:Pos}{args:List Expr}{zn:c8}{s:ajH}{Y:St}{H:aw}{Q:cN}{te:TE}(he:bY X e te)(J:Inv X zn Y H s)
  (h:te Y H λx H1=>∃a C b7 aW g,x=.ref a/\H1 a=some (.ins C b7 aW)/\ji X.K C/\Meth X.K C m g/\aW.lookup m=none/\
   ∀s1,Inv X zn Y H1 s1->wpAny (model X.prog X.w) X.A (amg pos (.ref g) [.ref a] (aj9 pos (ajG args X.env)) (alp pos (akU [] X.env))) Q X.d2 s1)
  (bO:eval (.Call (.Attribute e m apos) args [] pos) X.env=(do
   let ep <-eval e X.env
   al5 apos.atName
   let(f,first) <-alq [ep] (alC ep m pl)
   amg pos f first (aj9 pos (ajG args X.env)) (alp pos (akU [] X.env)))) :
  wpAny (model X.prog X.w) X.A (eval (.Call (.Attribute e m apos) args [] pos) X.env) Q X.d2 s:=by
 refine aop (pl:=pl) (bZ (he zn s Y H _ J h) λu s1 ⟨x,H1,a_,a7,a,C,b7,aW,g,ex,gC,c,k,l,q⟩=>?_) bO;subst ex;obtain rfl:u=aka a:=a7;exact CB a_ gC c k l (q s1 a_)
end
structure cK(k:Nat)(A:aj4):Prop where
 hd:A.handled=none
 uJ:A.depth+3*k+5<recursionLimit
 un:A.units+16*k+200<cLine
def cK.mono{j k:Nat}(r:cK k A)(h:j<=k):cK j A:=⟨r.hd,by have:=r.uJ;omega,by have:=r.un;omega⟩
def cK.deeper{k:Nat}{A:aj4}(r:cK (k+1) A)(env:Env):cK k (A.deeper env):=
 ⟨r.hd,by have:=r.uJ;show A.depth+1+3*k+5 < _;omega,by have:=r.un;show A.units+3+16*k+200 < _;omega⟩
def cK.in1{k:Nat}{A:aj4}(r:cK (k+1) A):cK k A.in1:=
 ⟨r.hd,by have:=r.uJ;show A.depth+3*k+5 < _;omega,by have:=r.un;show A.units+1+16*k+200 < _;omega⟩
def Z8{A:aj4}:(A.under (.builtin "type.__call__" ⟨.ref C::us,kw⟩)).depth=A.depth+1:=by
 first|rfl|simp[aoL,Code.weight,Code.isCreation,Code.isGuard,Code.isCaller,Code.frames,Code.isFrame,guardIds]
def Z_{A:aj4}:(A.under (.builtin "type.__call__" ⟨.ref C::us,kw⟩)).units=A.units+1:=by
 first|rfl|simp[aoL,Code.cUnits,Code.frames,Code.isFrame]
def cK.make{k:Nat}{A:aj4}(r:cK (k+1) A)(C:Addr)(us:List Value)(kw:List (Str×Value)):cK k (A.under (.builtin "type.__call__" ⟨.ref C::us,kw⟩)):=
 ⟨r.hd,by have:=r.uJ;rw[Z8];omega,by have:=r.un;rw[Z_];omega⟩
def cK.depth{k:Nat}{A:aj4}(r:cK k A):A.depth<recursionLimit:=by have:=r.uJ;omega
def cK.units{k:Nat}{A:aj4}(r:cK k A):A.units+64<cLine:=by have:=r.un;omega
def cK.afF{k:Nat}{A:aj4}(r:cK k A):A.units<cLine:=by have:=r.un;omega
def w5:gA:=λ_ H Q=>Q [] H
def aeU(b9:TE)(k_:gA):gA:=λY H Q=>b9 Y H λx H1=>k_ Y H1 λxs aM=>Q (x::xs) aM
section
variable{X:aT}{e:Expr}{ay:List Expr}{te:TE}{t:gA}{pos:Pos}
def Ex:gm X [] w5:=λ_ _ _ _ H Q J h=>anS ⟨[],H,J,.nil,h⟩
theorem wy(ar:bY X e te)(aB:gm X ay t)(aE:ajG (e::ay) X.env=(false,eval e X.env)::ajG ay X.env:=by rfl):gm X (e::ay) (aeU te t):=by
 intro pos zn s Y H Q J h;rw[aE];show wpAny _ _ (spliced ((false,eval e X.env)::aj9 pos (ajG ay X.env))) _ _ s;refine amH (bZ (ar zn s Y H _ J h) λu s1 aX=>?_);obtain⟨x,H1,a_,bG,bz⟩:=aX;exact bZ (aB pos zn s1 Y H1 _ a_ bz) λus s2 ⟨xs,aM,bX,cx,cf⟩=>⟨x::xs,aM,bX,.cons bG cx,cf⟩
def afg(t:gA):TE:=λY H Q=>t Y H λxs H1=>xs.length<=ajL/\∀p,H1 p=none->Q (.ref p) (upd H1 p (.tup xs))
def ae2(t:gA):TE:=λY H Q=>t Y H λxs H1=>xs.length<=ajL/\∀p,H1 p=none->Q (.ref p) (upd H1 p (.lst xs))
theorem Ez{l3}(h:gm X ay t):bY X (.Tuple ay l3 pos) (afg t):=by
 intro zn s Y H Q J a9;refine wpAny_Tuple_spliced (bZ (h pos zn s Y H _ J a9) λus s1 ⟨xs,H1,a_,r,z,q⟩=>⟨by rw[<-r.length];exact z,?_⟩);have hf:H1 s1.heap.objs.size=none:=a_.bP.fresh (ajK _);refine⟨.ref s1.heap.objs.size,upd H1 s1.heap.objs.size (.tup xs),a_.laid (t':=s1.toks) (λb u e=>ajF _ e) (ajK _) ?_,rfl,q _ hf⟩;exact⟨z,us,r,⟨_,ajS _ rfl,rfl,_,rfl⟩⟩
theorem abX(h:gm X ay t):bY X (.List ay pos) (ae2 t):=by
 intro zn s Y H Q J a9;refine wpAny_List_spliced (bZ (h pos zn s Y H _ J a9) λus s1 ⟨xs,H1,a_,r,z,q⟩=>⟨by rw[<-r.length];exact z,?_⟩);have hf:H1 s1.heap.objs.size=none:=a_.bP.fresh (ajK _);refine⟨.ref s1.heap.objs.size,upd H1 s1.heap.objs.size (.lst xs),a_.laid (t':=s1.toks) (λb u e=>ajF _ e) (ajK _) ?_,rfl,q _ hf⟩;exact⟨z,us,0,r,ajS _ rfl⟩
end
abbrev eo:=List V->aw->df->gL->Prop
abbrev m_:=List Env->aw->ajH->gL->Value->ajH->Prop
structure lr(P:ajY)(w:World)(K:aS)(mg:bq)(base:Heap)(A:aj4)(outer:List Env)(s:ajH)(H:aw):Prop where
 frames:A.frames=some outer
 mod:Mod K mg base
 bs:∀b o,base.get? b=some o->s.heap.get? b=some o/\H b=none
 ma:base.objs.size<=s.heap.objs.size
 kU:s.heap.FunFrames base outer
 p6:∀b∈mu outer,H b=none
 bP:fs P w H s.heap
 bare:am4 s.gens
def hR(outer:List Env)(P:ajY)(w:World)(H:aw)(s:ajH)(Q:df)(u:Value)(aQ:ajH):Prop:=
 ∃v H',aQ.os=s.os/\am4 aQ.gens/\gV (mu outer) [] H H' s.heap aQ.heap/\fs P w H' aQ.heap/\RelV v u/\Q v H'
def F0(eL:m_)(outer:List Env)(P:ajY)(w:World)(H:aw)(s:ajH)(Q:df)(E:gL)(r:Result)(aQ:ajH):Prop:=
 match r with
 |.ok (.ret u)=>hR outer P w H s Q u aQ|.ok _=>False|.error e=>eL outer H s E e aQ
structure fq(P:ajY)(w:World)(K:aS)(mg:bq)(base:Heap)(eL:m_)(k:Nat)(f:Addr)(fd:akR)(ps:List Str)(sp:eo):Prop where
 len:∀vs H Q E,sp vs H Q E->vs.length=ps.length
 run:∀(A:aj4)(outer:List Env)(s:ajH)(H:aw)(args:Args)(us:List Value)(vs:List V)(Q:df)(E:gL),cK k A->lr P w K mg base A outer s H->BindsTo s fd args (ps.zip us)->Vals vs us->sp vs H Q E->
  amn (model P w) A (.call (.ref f) args) (F0 eL outer P w H s Q E) s
def fq.mono{P:ajY}{w:World}{K:aS}{mg:bq}{base:Heap}{eL:m_}{j k:Nat}{f:Addr}{fd:akR}{ps:List Str}{sp:eo}(F:fq P w K mg base eL j f fd ps sp)(h:j<=k) :
  fq P w K mg base eL k f fd ps sp:=⟨F.len,λA outer s H args us vs Q E aB=>F.run A outer s H args us vs Q E (aB.mono h)⟩
def fq.imp{P:ajY}{w:World}{K:aS}{mg:bq}{base:Heap}{eL:m_}{k:Nat}{f:Addr}{fd:akR}{ps:List Str}{sp OQ:eo}(F:fq P w K mg base eL k f fd ps sp)
  (h:∀vs H Q E,OQ vs H Q E->sp vs H Q E):fq P w K mg base eL k f fd ps OQ:=
 ⟨λvs H Q E q=>F.len vs H Q E (h _ _ _ _ q),λA outer s H args us vs Q E aB he af bL aE=>F.run A outer s H args us vs Q E aB he af bL (h _ _ _ _ aE)⟩
def lr.make{P:ajY}{w:World}{K:aS}{mg:bq}{base:Heap}{A:aj4}{outer:List Env}{s:ajH}{H:aw}(e:lr P w K mg base A outer s H)(C:Addr)(us:List Value)(kw:List (Str×Value)) :
  lr P w K mg base (A.under (.builtin "type.__call__" ⟨.ref C::us,kw⟩)) outer s H:=⟨by first|exact e.frames|(simpa[aoL,Code.envs,Code.isFrame,pushEnvs]using e.frames),e.mod,e.bs,e.ma,e.kU,e.p6,e.bP,e.bare⟩
def lr.in1{P:ajY}{w:World}{K:aS}{mg:bq}{base:Heap}{A:aj4}{outer:List Env}{s:ajH}{H:aw}(e:lr P w K mg base A outer s H) :
  lr P w K mg base A.in1 outer s H:=⟨e.frames,e.mod,e.bs,e.ma,e.kU,e.p6,e.bP,e.bare⟩
section
variable{X:aT}{zn:c8}{Y:St}{H:aw}{s aQ:ajH}
def Inv.uN(J:Inv X zn Y H s):lr X.prog X.w X.K X.mg X.base X.A X.stack s H:=
 ⟨J.ok.frames,J.ok.mod,J.bs,akT J.ok.ma J.lY,J.stack,J.OS,J.bP,J.bare⟩
def Inv.after(J:Inv X zn Y H s)(h:hR X.stack X.prog X.w H s Q u aQ):hA X zn Y Q u aQ:=by
 obtain⟨v,H',os,bare,un,bP,r,q⟩:=h;obtain⟨dK,g,d,t,abn⟩:=aQ;obtain rfl:abn=s.os:=os;exact⟨v,H',J.call (h':=dK) (g':=g) (d':=d) (t':=t) (ch:=[]) un bP bare (λb z=>absurd z (by simp)),r,q⟩
end
def O1(sp:eo)(dvs:List V)(E:gL)(t:gA):TE:=λY H Q=>t Y H λvs H1=>sp (vs++dvs) H1 Q E
def O3(C:Addr)(m:Str)(sp:eo)(dvs:List V)(E:gL)(b9:TE)(t:gA):TE:=λY H Q=>b9 Y H λx H1=>∃a b7 aW,x=.ref a/\H1 a=some (.ins C b7 aW)/\aW.lookup m=none/\
 t Y H1 λvs aM=>sp (x::(vs++dvs)) aM Q E
def ae3(C:Addr)(sp:eo)(dvs:List V)(E:gL)(t:gA):TE:=λY H Q=>t Y H λvs H1=>∀x b7,H1 x=none->H1 b7=none->b7≠x->
 sp (.ref x::(vs++dvs)) (upd (upd H1 b7 (.own x)) x (.ins C b7 [])) (λv aM=>v=.aG/\Q (.ref x) aM) E
def Binds(K:aS)(fd:akR)(ps:List Str)(ds:List Value):Prop:=
 ∀(s:ajH)(us:List Value),K.In s.heap->(us++ds).length=ps.length->BindsTo s fd ⟨us,[]⟩ (ps.zip (us++ds))
def Binds.all{K:aS}{fd:akR}{ps:List Str}(h:∀us:List Value,us.length=ps.length->alU fd ⟨us,[]⟩=pure (ps.zip us)):Binds K fd ps []:=λs us _ au=>by
 rw[akG]at au ⊢;exact .of_eq (h us au)
def Passes(eL:m_)(X:aT)(E:gL):Prop:=∀(zn:c8)(Y:St)(H:aw)(s:ajH)(e:Value)(aQ:ajH),Inv X zn Y H s->eL X.stack H s E e aQ->X.d2 e aQ
section
variable{X:aT}{eL:m_}{k:Nat}{f C:Addr}{fd:akR}{ps:List Str}{sp:eo}{dvs:List V}{ds:List Value}{E:gL}{x m:Str}{p pos apos:Pos}{e o:Expr}{ay:List Expr}{b9:TE}{t:gA}
theorem wW{zn:c8}{Y:St}{H:aw}{s:ajH}{Q:df}{us:List Value}{vs:List V}(F:fq X.prog X.w X.K X.mg X.base eL k f fd ps sp)(aB:cK k X.A)(af:Binds X.K fd ps ds)(hd:Vals dvs ds)(ag:Passes eL X E)
  (J:Inv X zn Y H s) (r:Vals vs us) (h:sp (vs++dvs) H Q E):wpAny (model X.prog X.w) X.A (call (.ref f) us) (hA X zn Y Q) X.d2 s:=by
 have cx:Vals (vs++dvs) (us++ds):=r.append hd;have au:(us++ds).length=ps.length:=by rw[<-cx.length];exact F.len _ _ _ _ h
 refine wpAny_call (alV (F.run X.A X.stack s H ⟨us,[]⟩ (us++ds) (vs++dvs) Q E aB J.uN (af s us J.fp au) cx h) λr aQ a9=>?_)
 cases r with
 |error e=>exact ag zn Y H s e aQ J a9|ok ba=>
  cases ba with
  |ret u=>exact J.after a9|next=>exact akl a9
  |brk=>exact akl a9|cont=>exact akl a9
def abI(F:fq X.prog X.w X.K X.mg X.base eL k f fd ps sp)(aB:cK k X.A)(aU:eU X x)(hm:X.mg x=some (.ref f))(ax:alB X.K (.ref f)=true)(af:Binds X.K fd ps ds)(hd:Vals dvs ds)(ag:Passes eL X E)
  (ar:gm X (e::ay) t) (e7:(x==("__debug__":Str))=false:=by decide) (he:ajG (e::ay) X.env=(false,eval e X.env)::ajG ay X.env:=by rfl) (fm:(aj9 pos (ajG ay X.env)).any (·.1)=false:=by rfl) :
  bY X (.Call (.Name x p) (e::ay) [] pos) (O1 sp dvs E t):=by
 intro zn s Y H Q J h;refine ala (s_ J aU hm ?_ e7);refine aoa (h₀:=X.base) J.ok.mod.s7 ax (bZ (ar pos zn s Y H _ J h) λus s1 ⟨vs,H1,a_,r,q⟩=>⟨a_.fp,?_⟩) he fm;exact wW F aB af hd ag a_ r q
def abJ(F:fq X.prog X.w X.K X.mg X.base eL k f fd ps sp)(aB:cK k X.A)(aU:eU X x)(hm:X.mg x=some (.ref f))(ax:alB X.K (.ref f)=true)(af:Binds X.K fd ps ds)(hd:Vals dvs ds)(ag:Passes eL X E)
  (e7:(x==("__debug__":Str))=false:=by decide):bY X (.Call (.Name x p) [] [] pos) (O1 sp dvs E w5):=by
 intro zn s Y H Q J h;refine ala (s_ J aU hm ?_ e7);exact W.callWith_K0 J.fp ax (wW (us:=[]) F aB af hd ag J .nil h)
theorem abZ{pl:Sem Bool}(he:bY X o b9)(c:ji X.K C)(hm:Meth X.K C m f)(F:fq X.prog X.w X.K X.mg X.base eL k f fd ps sp)(aB:cK k X.A)(af:Binds X.K fd ps ds)(hd:Vals dvs ds)(ag:Passes eL X E)(ar:gm X (e::ay) t)
  (f3:ajG (e::ay) X.env=(false,eval e X.env)::ajG ay X.env:=by rfl) (fm:(aj9 pos (ajG ay X.env)).any (·.1)=false:=by rfl)
  (bO:eval (.Call (.Attribute o m apos) (e::ay) [] pos) X.env=(do
   let ep <-eval o X.env
   al5 apos.atName
   let(f,first) <-alq [ep] (alC ep m pl)
   amg pos f first (aj9 pos (ajG (e::ay) X.env)) (alp pos (akU [] X.env))):=by rfl) :
  bY X (.Call (.Attribute o m apos) (e::ay) [] pos) (O3 C m sp dvs E b9 t):=by
 intro zn s Y H Q J h;refine aop (pl:=pl) (bZ (he zn s Y H _ J h) λu s1 ⟨x,H1,a_,a7,a,b7,aW,ex,gC,l,q⟩=>?_) bO;subst ex;obtain rfl:u=aka a:=a7;refine CB a_ gC c hm l ?_;refine aoa (first:=[.ref a]) (h₀:=X.base) J.ok.mod.s7 hm.kp (bZ (ar pos zn s1 Y H1 _ a_ q) λus s2 ⟨vs,aM,bX,r,cf⟩=>⟨bX.fp,?_⟩) f3 fm;exact wW (us:=.ref a::us) (vs:=.ref a::vs) F aB af hd ag bX (.cons rfl r) cf
theorem ME{pl:Sem Bool}(he:bY X o b9)(c:ji X.K C)(hm:Meth X.K C m f)(F:fq X.prog X.w X.K X.mg X.base eL k f fd ps sp)(aB:cK k X.A)(af:Binds X.K fd ps ds)(hd:Vals dvs ds)(ag:Passes eL X E)
  (bO:eval (.Call (.Attribute o m apos) [] [] pos) X.env=(do
   let ep <-eval o X.env
   al5 apos.atName
   let(f,first) <-alq [ep] (alC ep m pl)
   amg pos f first (aj9 pos (ajG [] X.env)) (alp pos (akU [] X.env))):=by rfl) :
  bY X (.Call (.Attribute o m apos) [] [] pos) (O3 C m sp dvs E b9 w5):=by
 intro zn s Y H Q J h;refine aop (pl:=pl) (bZ (he zn s Y H _ J h) λu s1 ⟨x,H1,a_,a7,a,b7,aW,ex,gC,l,q⟩=>?_) bO;subst ex;obtain rfl:u=aka a:=a7;refine CB a_ gC c hm l ?_;exact W.callWith_K0 (first:=[.ref a]) a_.fp hm.kp (wW (us:=[.ref a]) (vs:=[.ref a]) F aB af hd ag a_ (.cons rfl .nil) q)
structure Ga(K:aS)(C f:Addr):Prop where
 makes:W.makesIn K C=true
 init:alM K (.ref C) "__init__"=some (some (.ref f))
 fn:W.isFn K (.ref f)=true
 kp:alB K (.ref C)=true
theorem acW{zn:c8}{Y:St}{H:aw}{s:ajH}{Q:df}{us:List Value}{vs:List V}(M:Ga X.K C f)(F:fq X.prog X.w X.K X.mg X.base eL k f fd ps sp)(aB:cK (k+1) X.A)(af:Binds X.K fd ps ds)(hd:Vals dvs ds)
  (ag:Passes eL X E) (J:Inv X zn Y H s) (r:Vals vs us)
  (h:∀x b7,H x=none->H b7=none->b7≠x->sp (.ref x::(vs++dvs)) (upd (upd H b7 (.own x)) x (.ins C b7 [])) (λv aM=>v=.aG/\Q (.ref x) aM) E) :
  wpAny (model X.prog X.w) X.A (call (.ref C) us) (hA X zn Y Q) X.d2 s:=by
 have a9:=h (s.heap.objs.size+1) s.heap.objs.size (J.bP.fresh (amh _)) (J.bP.fresh (ajK _)) (aj1 (an9 _));have bX:=Inv.made (C:=C) J;have cx:Vals (V.ref (s.heap.objs.size+1)::(vs++dvs)) (aka (s.heap.objs.size+1)::(us++ds)):=.cons rfl (r.append hd);have au:(aka (s.heap.objs.size+1)::us++ds).length=ps.length:=by
  have e:=cx.length;rw[F.len _ _ _ _ a9]at e;exact e.symm
 refine wpAny_call (Z9 (f:=f) J.fp M.makes M.init (beq_iff_eq.mp M.fn) (alV (F.run _ X.stack _ _ ⟨aka (s.heap.objs.size+1)::us,[]⟩ (aka (s.heap.objs.size+1)::(us++ds)) _ _ E (aB.make C us [])
  (bX.uN.make C us []) (af _ (aka (s.heap.objs.size+1)::us) bX.fp au) cx a9) λr aQ nK=>?_))
 cases r with
 |error e=>exact ag zn Y _ _ e aQ bX nK|ok ba=>
  cases ba with
  |ret u=>
   obtain⟨v,H',dN,bR,ev,h8⟩:=bX.after nK;subst ev;exact⟨bR,⟨V.ref (s.heap.objs.size+1),H',dN,rfl,h8⟩⟩
  |next=>exact akl nK
  |brk=>exact akl nK|cont=>exact akl nK
def abY(M:Ga X.K C f)(F:fq X.prog X.w X.K X.mg X.base eL k f fd ps sp)(aB:cK (k+1) X.A)(aU:eU X x)(hm:X.mg x=some (.ref C))(af:Binds X.K fd ps ds)(hd:Vals dvs ds)(ag:Passes eL X E)
  (ar:gm X (e::ay) t) (e7:(x==("__debug__":Str))=false:=by decide) (he:ajG (e::ay) X.env=(false,eval e X.env)::ajG ay X.env:=by rfl) (fm:(aj9 pos (ajG ay X.env)).any (·.1)=false:=by rfl) :
  bY X (.Call (.Name x p) (e::ay) [] pos) (ae3 C sp dvs E t):=by
 intro zn s Y H Q J h;refine ala (s_ J aU hm ?_ e7);refine aoa (h₀:=X.base) J.ok.mod.s7 M.kp (bZ (ar pos zn s Y H _ J h) λus s1 ⟨vs,H1,a_,r,q⟩=>⟨a_.fp,?_⟩) he fm;exact acW M F aB af hd ag a_ r q
end
structure cb(N P:List Str)(sc:Scope):Prop where
 kind:sc.kind=.function:=by rfl
 co:sc.isCoroutine=false:=by rfl
 gen:sc.isGenerator=false:=by rfl
 dZ:N.Nodup:=by decide +kernel
 pre:N.take P.length=P:=by rfl
 par:∀x∈P,sc.names.lookup x=some .local\/sc.names.lookup x=some .cell:=by decide +kernel
 aaL:∀y∈sc.names,y.2≠.free:=by decide +kernel
theorem HV{kindOf:Str->Option ami}{x:Str}:∀{binds:List (Str×Value)}{m:bq},(∀v,(x,v)∉binds)->bindL kindOf binds m x=m x
 |[],_,_=>rfl|(n,v)::r,m,h=>by
  unfold bindL;rw[HV λw hw=>h w (ajM _ hw)];split
  .have:x≠n:=by rintro rfl;exact h v ajR
   simp[this]
  .rfl
theorem HT{kindOf:Str->Option ami}{x:Str}:∀{binds:List (Str×Value)}{m:bq},(∀v,(x,v)∉binds)->bindC kindOf binds m x=m x
 |[],_,_=>rfl|(n,v)::r,m,h=>by
  unfold bindC;rw[HT λw hw=>h w (ajM _ hw)];split
  .rfl
  .have:x≠n:=by rintro rfl;exact h v ajR
   simp[this]
theorem HU{kindOf:Str->Option ami}{v:Value}:∀{P:List Str}{vs:List Value}{i:Nat}{m:bq},P.Nodup->P[i]? = some x->vs[i]? = some v->kindOf x=some .local->
  bindL kindOf (P.zip vs) m x=some v
 |[],_,_,_,_,h,_,_=>by simp at h| _::_,[],_,_,_,_,h,_=>by simp at h|p::P,w::vs,0,m,dZ,ae,ah,ax=>by
  simp at ae ah;subst ae;subst ah;show bindL kindOf ((p,w)::P.zip vs) m p=_;unfold bindL;rw[HV λv bL=>(akD.mp dZ).1 (amD bL).1,if_pos ax];simp
 |p::P,w::vs,i+1,m,dZ,ae,ah,ax=>by
  show bindL kindOf ((p,w)::P.zip vs) m x=_;unfold bindL;exact HU (i:=i) (akD.mp dZ).2 (by simpa using ae) (by simpa using ah) ax
theorem HS{kindOf:Str->Option ami}{v:Value}:∀{P:List Str}{vs:List Value}{i:Nat}{m:bq},P.Nodup->P[i]? = some x->vs[i]? = some v->kindOf x≠some .local->
  bindC kindOf (P.zip vs) m x=some v
 |[],_,_,_,_,h,_,_=>by simp at h| _::_,[],_,_,_,_,h,_=>by simp at h|p::P,w::vs,0,m,dZ,ae,ah,ax=>by
  simp at ae ah;subst ae;subst ah;show bindC kindOf ((p,w)::P.zip vs) m p=_;unfold bindC;rw[HT λv bL=>(akD.mp dZ).1 (amD bL).1,if_neg ax];simp
 |p::P,w::vs,i+1,m,dZ,ae,ah,ax=>by
  show bindC kindOf ((p,w)::P.zip vs) m x=_;unfold bindC;exact HS (i:=i) (akD.mp dZ).2 (by simpa using ae) (by simpa using ah) ax
def start(N:List Str)(vs:List V):St:=vs.map some++akB (N.length-vs.length) none
def ho(eL:m_)(P:ajY)(w:World)(K:aS)(mg:bq)(base:Heap)(N:List Str)(qual:Str)(scope:Scope)(f:Addr)(cd:Value)(A:aj4)(outer:List Env)(s:ajH)(H:aw)(E:gL):aT where
 prog:=P
 w:=w
 K:=K
 mg:=mg
 base:=base
 A:=A.deeper (amo qual scope s.heap.objs.size f cd)
 N:=N
 hg:=s
 H₀:=H
 env:=amo qual scope s.heap.objs.size f cd
 outer:=outer
 stack:=amo qual scope s.heap.objs.size f cd::outer
 ex:=[]
 calm:=true
 fn:=λ_=>true
 lV:=[]
 d2:=λe aQ=>wpAny (model P w) (A.deeper (amo qual scope s.heap.objs.size f cd)) (leaving (amo qual scope s.heap.objs.size f cd) e) (λ_ wX=>eL outer H s E e wX) (λcF wX=>eL outer H s E cF wX) aQ
def Ie{sc:Scope}(h:sc.names.lookup x=some .cell):∃c,(cellsFrom n sc.names []).lookup x=some c:=by
 have q:=aob sc.names n [] (.inl h);exact Option.isSome_iff_exists.mp q
def Kp{eL:m_}{P:ajY}{w:World}{K:aS}{mg:bq}{base:Heap}{N ps:List Str}{qual:Str}{scope:Scope}{f:Addr}{cd:Value}{A:aj4}{outer:List Env}{s s1:ajH}{H:aw}{E:gL}{us:List Value}{vs:List V}
  (S:cb N ps scope) (hd:A.handled=none) (eb:lr P w K mg base A outer s H) (au:vs.length=ps.length) (r:Vals vs us)
  (x:InCallC s s.heap.objs.size (bindL (amo qual scope s.heap.objs.size f cd).kindOf (ps.zip us) λ_=>none) (cellsFrom (s.heap.objs.size+1) scope.names []) (bindC (amo qual scope s.heap.objs.size f cd).kindOf (ps.zip us) λ_=>none) s1) :
  Inv (ho eL P w K mg base N qual scope f cd A outer s H E) [] (start N vs) H s1:=by
 have fm:ps.length<=N.length:=by have:=congrArg ak6 S.pre;rw[amv]at this;omega
 obtain⟨ae,tk,rfl,ax⟩:=x.done;have wc:∀b:Addr,b∉(ho eL P w K mg base N qual scope f cd A outer s H E).ex:=λb z=>absurd (show b∈([]:List Addr)from z) (by simp)
 refine⟨⟨eb.mod,S.kind,rfl,rfl,ajK _,λy z c ae ah=>?_,λy bg=>?_,λy c _ h=>?_,λ_=>hd,Around.frames_deeper eb.frames,.inr ⟨rfl,rfl⟩,λb z=>absurd z (wc b),eb.bs,eb.ma,λb _ _=>wc b,λb z=>absurd z (wc b),eb.kU,eb.p6⟩,
  rfl,eb.bare,gV.kept ax,⟨_,x.toInCall.ns,λi y v ae ah bF=>?_⟩,λy c h=>⟨_,x.cell y c h⟩,eb.bP.fresh (ajK _),λy c h=>?_,λp aK=>absurd (show p∈([]:c8)from aK) (by simp),eb.bP.kept ax,?_⟩
 .exact name_of_addr x.apart (ak9 ae) (ak9 ah)
 .have bg:scope.names.lookup y=some .cell\/scope.names.lookup y=some .free:=bg
  rcases bg with bg|bg
  .exact Ie bg
  .exact absurd rfl (S.aaL _ (ak9 bg))
 .exact ak0 (x.above y c (ak9 h))
 .have aD:i<vs.length:=by
   unfold start at ah
   by_cases aD:i<vs.length
   .exact aD
   .rw[aj3 (by simpa using aD)]at ah
    rw[aly]at ah;split at ah<;>cases ah
  have ar:vs[i]? = some v:=by
   unfold start at ah;rw[aj8 (by simpa using aD),akc]at ah
   cases e:vs[i]? with
   |none=>rw[e]at ah;cases ah
   |some a=>rw[e]at ah;cases ah;rfl
  obtain⟨u,cC,bR⟩:=r.get ar;have aK:ps[i]? = some y:=by
   rw[<-S.pre,List.getElem?_take_of_lt (by omega)];exact ae
  have L9:ps.Nodup:=by rw[<-S.pre];exact S.dZ.sublist (List.take_sublist _ _)
  refine⟨u,bR,?_⟩;rcases S.par y (akt aK)with k|k
  .exact .inl ⟨k,HU L9 aK cC k⟩
  .obtain⟨c,e⟩:=Ie (n:=s.heap.objs.size+1) k
   refine .inr ⟨.inl k,c,e,?_⟩;have q:=x.cell y c e;rw[HS L9 aK cC (by show scope.names.lookup y≠_;rw[k];decide)]at q;exact q
 .exact eb.bP.fresh (ak0 (x.above y c (ak9 h)))
 .unfold start
  show _=N.length;rw[ajQ,ajE,akP];omega
def Cm{eL:m_}{P:ajY}{w:World}{K:aS}{mg:bq}{base:Heap}{k:Nat}{f:Addr}{name qual:Str}{params:amI}{body:List Stmt}{scope:Scope}{q3 cI doc pm bw cw bK:Value}{an dj:Option Addr}
  {fJ:Array (Option Value)}{N ps:List Str}{sp:eo}(lk:K.lookup f=some ⟨bK,dj,.func (alr name qual params body scope q3 cI doc pm an bw cw),fJ⟩) (gM:anp K bw qual=true) (S:cb N ps scope)
  (len:∀vs H Q E,sp vs H Q E->vs.length=ps.length)
  (u9:∀(A:aj4)(outer:List Env)(s:ajH)(H:aw)(vs:List V)(Q:df)(E:gL),cK k (A.deeper (amo qual scope s.heap.objs.size f bw))->sp vs H Q E->
   ∃t,iX (ho eL P w K mg base N qual scope f bw A outer s H E) body t/\t { bh:=λ_ H'=>Q .aG H',cQ:=Q } (start N vs) H) :
  fq P w K mg base eL (k+1) f (alr name qual params body scope q3 cI doc pm an bw cw) ps sp:=by
 refine⟨len,λA outer s H args us vs Q E aB eb af r h4=>?_⟩;have au:=len _ _ _ _ h4;have dH:K.In s.heap:=eb.mod.s7.keeps λb o e=>(eb.bs b o e).1
 have lim:s.heap.NoLimit:=eb.mod.nolimit.keeps λb o e=>(eb.bs b o e).1
 have C1:∀y∈ps.zip us,scope.names.lookup y.1=some .local\/(scope.names.lookup y.1=some .cell/\((cellsFrom (s.heap.objs.size+1) scope.names []).lookup y.1).isSome=true):=λaX bg=>by
  obtain⟨n,v⟩:=aX;rcases S.par n (amD bg).1 with q|q
  .exact .inl q
  .exact .inr ⟨q,aob _ _ _ (.inl q)⟩
 refine codeAny_call_function aB.depth (dH _ _ lk) rfl S.co S.gen rfl (W.codeRec_of dH gM) (af _ _ _ _ ?_);refine wpAny_newFunctionEnv_cells S.kind C1 λenv he s1 x=>?_
 subst he;refine⟨lim.keeps x.toInCall.keep,codeAny_func ?_⟩;obtain⟨t,bO,a9⟩:=u9 A outer s H vs Q E (aB.deeper _) h4;have J:Inv (ho eL P w K mg base N qual scope f bw A outer s H E) [] (start N vs) H s1:=Kp S aB.hd eb au r x;refine akm (bO [] s1 (start N vs) H _ J a9) (λba aQ aE=>?_) λe aQ aE=>aE
 have fin:∀{Y':St}{H':aw}{v:V}{u:Value},Inv (ho eL P w K mg base N qual scope f bw A outer s H E) [] Y' H' aQ->RelV v u->Q v H'->hR outer P w H s Q u aQ:=
  λ{Y' H' v u} cm bR q=>⟨v,H',cm.os,cm.bare,cm.base,cm.bP,bR,q⟩
 cases ba with
 |ret u=>
  obtain⟨v,Y',H',cm,bR,q⟩:=aE;exact fin cm bR q
 |next=>
  obtain⟨Y',H',cm,q⟩:=aE;exact fin (v:=V.aG) (u:=akS) cm rfl q
 |brk=>
  obtain⟨_,_,_,q⟩:=aE;exact akl q
 |cont=>
  obtain⟨_,_,_,q⟩:=aE;exact akl q
section
variable{X:aT}{x:Str}{p pos:Pos}{e:Expr}{ay:List Expr}{t:gA}{id T:String}{r:List V->aw->df->Prop}
def Fn(r:List V->aw->df->Prop)(t:gA):TE:=λY H Q=>t Y H λvs H1=>r vs H1 Q
def abK(aI:jh X (.builtin id) r)(aU:eU X x)(hm:X.mg x=none)(bL:akx x=some (.builtin id))(ar:gm X (e::ay) t)(aH:x≠"__name__":=by decide)(e7:(x==("__debug__":Str))=false:=by decide)
  (he:ajG (e::ay) X.env=(false,eval e X.env)::ajG ay X.env:=by rfl) (fm:(aj9 pos (ajG ay X.env)).any (·.1)=false:=by rfl):bY X (.Call (.Name x p) (e::ay) [] pos) (Fn r t):=by
 intro zn s Y H Q J h;refine ala (ry J aU hm bL ?_ aH e7);exact PyProof.Rows.callWith_builtin1 (bZ (ar pos zn s Y H _ J h) λus s1 ⟨vs,H1,a_,bG,bz⟩=>aI zn s1 Y H1 vs us Q a_ bG bz) he fm
def abL(aI:jh X (.type T) r)(aU:eU X x)(hm:X.mg x=none)(bL:akx x=some (.type T))(ar:gm X (e::ay) t)(aH:x≠"__name__":=by decide)(e7:(x==("__debug__":Str))=false:=by decide)
  (he:ajG (e::ay) X.env=(false,eval e X.env)::ajG ay X.env:=by rfl) (fm:(aj9 pos (ajG ay X.env)).any (·.1)=false:=by rfl):bY X (.Call (.Name x p) (e::ay) [] pos) (Fn r t):=by
 intro zn s Y H Q J h;refine ala (ry J aU hm bL ?_ aH e7);exact amt (bZ (ar pos zn s Y H _ J h) λus s1 ⟨vs,H1,a_,bG,bz⟩=>aI zn s1 Y H1 vs us Q a_ bG bz) he fm
end
end aF
namespace ej
open PySem PyProof.Rows
def B7(A:aj4)(s:ajH)(a:Int)(t:Tok)(c:Int)(u:Tok):∃e,SeqAt.EqAt A s (.int a t) (.int c u) e/\(e=true↔a=c):=
 ⟨(a==c),aoM a t c u,by simp⟩
section
variable{prog:ajY}{w:World}{A:aj4}{E:cN}{s:ajH}
def c4(n d:Nat):Option Int->Nat
 |none=>d|some v=>if v<0 then(v+(n:Int)).toNat else min v.toNat n
def Nr(n d k:Nat):c4 n d (some (k:Int))=min k n:=by
 show(if(k:Int)<0 then((k:Int)+(n:Int)).toNat else min (k:Int).toNat n)=min k n;rw[if_neg (by omega),anT]
def ac4(n d:Nat)(hd:d<=n)(o:Option Int):c4 n d o<=n:=by
 cases o with
 |none=>exact hd|some v=>
  show(if v<0 then(v+(n:Int)).toNat else min v.toNat n)<=n
  by_cases bL:v<0
  .rw[if_pos bL];omega
  .rw[if_neg bL];exact Nat.min_le_right _ _
def Ik(v:Int)(n d:Nat):(if v<0 then max (v+(n:Int)) 0 else min v (n:Int))=((c4 n d (some v):Nat):Int):=by
 show(if v<0 then max (v+(n:Int)) 0 else min v (n:Int))=(((if v<0 then(v+(n:Int)).toNat else min v.toNat n):Nat):Int)
 by_cases bL:v<0
 .simp only[if_pos bL];omega
 .simp only[if_neg bL];omega
def Qv(lo aD:Option Int)(n:Nat):amE lo aD 1 (n:Int)=(((c4 n 0 lo:Nat):Int),((c4 n n aD:Nat):Int)):=by
 have ae:¬((1:Int)<0):=by omega
 unfold amE;simp only[ae,if_false];refine Prod.ext ?_ ?_
 .cases lo with
  |none=>rfl|some v=>exact Ik v n 0
 .cases aD with
  |none=>rfl|some v=>exact Ik v n n
def ace(i j:Nat):alR (i:Int) (j:Int) 1=j-i:=by
 unfold alR;have ae:(1:Int) > 0:=by omega
 simp only[ae,if_true,Int.ediv_one];split<;>omega
def OM{v:Value}{o:Option Int}{Q:Option Int->ajH->Prop}(p:anb v o)(h:Q o s):wpAny (model prog w) A (Builtin.Slice.slicePartIndex v) Q E s:=by
 cases p with
 |none=>exact slicePart_none h|int i t=>exact slicePart_int h
def OL{bW:Addr}{hi hj:Value}{lo aD:Option Int}{n:Nat}{Q:Int×Int×Nat->ajH->Prop}(aE:s.heap.IsSliceOf bW hi hj .none)(pl:anb hi lo)(pu:anb hj aD)
  (h:Q (((c4 n 0 lo:Nat):Int),1,c4 n n aD-c4 n 0 lo) s):wpAny (model prog w) A (anN (.ref bW) (pure (n:Int))) Q E s:=by
 obtain⟨os,rp,yL,oH⟩:=id aE;unfold anN Builtin.Slice.sliceFields;refine ajD (ajD (ak2 rp oH (x:=hi) rfl (ajD (ak2 rp oH (x:=hj) rfl (ajD (ak2 rp oH (x:=.none) rfl (ajI ?_)))))));refine ajD (slicePart_none ?_);show wpAny _ _ (if((1:Int)==0)=true then _ else _) _ _ s;rw[if_neg (by decide)];refine ajD (OM pl (ajD (OM pu (ajD (ajI ?_)))));show wpAny _ _ (match amE lo aD 1 (n:Int)with|(lo,aD)=>pure (lo,(1:Int),alR lo aD 1)) _ _ s;rw[Qv lo aD n];show wpAny _ _ (pure (((c4 n 0 lo:Nat):Int),(1:Int),alR ((c4 n 0 lo:Nat):Int) ((c4 n n aD:Nat):Int) 1)) _ _ s;rw[ace];exact ajI h
def acb(xs:Array Value)(i k:Nat):((aj6 k).filterMap λ(m:Nat)=>xs[((i:Int)+(m:Int)*1).toNat]?).toArray=((xs.toList.drop i).take k).toArray:=by
 have e:(λ(m:Nat)=>xs[((i:Int)+(m:Int)*1).toNat]?)=λm=>xs[i+m]?:=by
  funext m
  have:((i:Int)+(m:Int)*1).toNat=i+m:=by omega
  rw[this]
 rw[e];have:=pick_run xs i k;rw[List.filterMap_map]at this;have az:((λx=>xs[x]?)∘λx=>i+x)=λm=>xs[i+m]?:=rfl
 rw[az]at this;rw[this]
def V1{t bW:Addr}{items:Array Value}{hi hj:Value}{lo aD:Option Int}{Q:cN}(bO:IsTup s.heap t items)(aE:s.heap.IsSliceOf bW hi hj .none)(pl:anb hi lo)(pu:anb hj aD)
  (hw:¬(c4 items.size 0 lo=0/\c4 items.size items.size aD=items.size))
  (h:Q (.ref s.heap.objs.size) { s with heap:=s.heap.push { cls:=.type "tuple",data:=.seq ((items.toList.drop (c4 items.size 0 lo)).take (c4 items.size items.size aD-c4 items.size 0 lo)).toArray } })
  (hsz:items.size<=ajL):wpAny (model prog w) A (amN (.ref t) (.ref bW)) Q E s:=by
 have yT:sizeOk (.seq ((items.toList.drop (c4 items.size 0 lo)).take (c4 items.size items.size aD-c4 items.size 0 lo)).toArray):=by
  show((items.toList.drop (c4 items.size 0 lo)).take (c4 items.size items.size aD-c4 items.size 0 lo)).toArray.size<=ajL;rw[ajT,amv,akV,akz];omega
 have aZ:c4 items.size items.size aD<=items.size:=ac4 _ _ (ajK _) aD;obtain⟨os,rp,yL,oH⟩:=id aE;have CM:s.TypeIs (.ref bW) "slice":=⟨os,rp,yL⟩;unfold amN
 try with_reducible refine akZ ?_
 first|refine ajD (ajI ?_)|skip
 refine ajD (wpAny_sequenceKey bO.typeIs (by decide) ?_);refine ajD (alf (name:=ajZ "__getitem__") bO.typeIs akQ
  (alW akQ bO.typeIs entry_tuple_getitem ?_ (args_tuple_getitem _ _)))
 show wpAny _ _ (anO (.ref t) >>= _) _ _ s;refine ajD (tupleItemsOf_ bO ?_);refine ajD (wpAny_typeOf CM ?_);rw[if_pos (by decide)];refine ajD (OL aE pl pu ?_);have Yo:¬((((c4 items.size 0 lo:Nat):Int)==0&&(1:Int)==1&&(c4 items.size items.size aD-c4 items.size 0 lo)==items.size)=true):=by
  intro q;rw[ako,ako]at q;have bz:((c4 items.size 0 lo:Nat):Int)=0:=eq_of_beq q.1.1;have cf:c4 items.size items.size aD-c4 items.size 0 lo=items.size:=eq_of_beq q.2;exact hw ⟨by omega,by omega⟩
 show wpAny _ _ (if(((c4 items.size 0 lo:Nat):Int)==0&&(1:Int)==1&&(c4 items.size items.size aD-c4 items.size 0 lo)==items.size)=true then _ else _) _ _ s;rw[if_neg Yo,acb]
 first
  |exact ajD (m:=alX _) (alw (ajI ⟨_,rfl,ajI h⟩) yT)
  |exact ajD (m:=alX _) (alw (ajD (ajI (ajI ⟨_,rfl,ajI h⟩))) yT)
  |exact ajD (ajD (m:=alX _) (alw (ajI (ajI ⟨_,rfl,ajI h⟩)) yT))
  |exact ajD (ajD (m:=alX _) (alw (ajI ⟨_,rfl,ajI h⟩) yT))
end
end ej
namespace aF
open PySem PySem.Spec PyProof.Rows
abbrev d3:=St->aw->(Option Int->aw->Prop)->Prop
def uk(X:aT)(e:Option Expr)(t:d3):Prop:=
 ∀(zn:c8)(s:ajH)(Y:St)(H:aw)(Q:Option Int->aw->Prop),Inv X zn Y H s->t Y H Q->
  wpAny (model X.prog X.w) X.A (evalPart e X.env) (λu aQ=>∃o H',Inv X zn Y H' aQ/\anb u o/\Q o H') X.d2 s
def ae6:d3:=λ_ H Q=>Q none H
def afa(t:TE):d3:=λY H Q=>t Y H λx H1=>∃i,x=.int i/\Q (some i) H1
def intsAre_of{ns:List Int}:∀{us:List Value},Vals (ns.map V.int) us->ak1 us ns:=by
 induction ns with
 |nil=>intro us r;rw[aoc]at r;cases r;exact .nil
 |cons n ns a6=>
  intro us r;rw[ajP]at r
  cases r with
  |cons bG cx=>
   obtain⟨t,e⟩:=bG;subst e;exact .cons n t (a6 cx)
section
variable{X:aT}{e:Expr}{te:TE}{lo aD:Option Expr}{d7 t2:d3}{pos dB:Pos}
def acf:uk X none ae6:=by
 intro zn s Y H Q J h;rw[evalPart_none];exact ajI ⟨none,H,J,.none,h⟩
def acg(h:bY X e te):uk X (some e) (afa te):=by
 intro zn s Y H Q J hw;rw[evalPart_some];refine bZ (h zn s Y H _ J hw) λu s1 aX=>?_
 obtain⟨x,H1,a_,bG,bz⟩:=aX;obtain⟨i,rfl,q⟩:=bz;obtain⟨t,rfl⟩:=bG;exact⟨some i,H1,a_,.int i t,q⟩
def pQ(X:aT)(r:V->Option Int->Option Int->aw->df->Prop):Prop:=
 ∀(zn:c8)(s:ajH)(Y:St)(H:aw)(x:V)(v hi hj:Value)(lo aD:Option Int)(bW:Addr)(Q:df),Inv X zn Y H s->RelV x v->s.heap.IsSliceOf bW hi hj .none->anb hi lo->anb hj aD->r x lo aD H Q->
  ∃T id,typeLookup (.type T) "__getitem__"=pure (some (.builtin id))/\s.TypeIs v T/\wpAny (model X.prog X.w) X.A (amN v (.ref bW)) (hA X zn Y Q) X.d2 s
def pQ.or{r bT:V->Option Int->Option Int->aw->df->Prop}(h:pQ X r)(h':pQ X bT):pQ X (λx lo aD H Q=>r x lo aD H Q\/bT x lo aD H Q):=by
 intro zn s Y H x v hi hj lo aD bW Q J a7 aE pl pu q;rcases q with q|q
 .exact h zn s Y H x v hi hj lo aD bW Q J a7 aE pl pu q
 .exact h' zn s Y H x v hi hj lo aD bW Q J a7 aE pl pu q
def afd(r:V->Option Int->Option Int->aw->df->Prop)(te:TE)(d7 t2:d3):TE:=λY H Q=>te Y H λx H1=>d7 Y H1 λl aM=>t2 Y aM λu cZ=>r x l u cZ Q
def MH{r:V->Option Int->Option Int->aw->df->Prop}(aB:pQ X r)(he:bY X e te)(au:uk X lo d7)(cC:uk X aD t2):bY X (.Subscript e (.Slice lo aD none dB) pos) (afd r te d7 t2):=by
 intro zn s Y H Q J h;refine Subscript_ (bZ (he zn s Y H _ J h) λv s1 aX=>?_);obtain⟨x,H1,a_,bG,bz⟩:=aX;refine wpAny_Slice (bZ (au zn s1 Y H1 _ a_ bz) λhi s2 ⟨l,aM,bX,pl,cf⟩=>bZ (cC zn s2 Y aM _ bX cf) λhj s3 aX=>?_);obtain⟨u,cZ,dN,pu,h8⟩:=aX;rw[evalPart_none];refine ajI ?_;have jk:Inv X zn Y cZ { s3 with heap:=s3.heap.push { cls:=.type "slice",data:=.fields #[hi,hj,.none] } }:=dN.kept (t':=s3.toks) λb bD q=>ajF _ q
 obtain⟨T,id,e1,bO,aU⟩:=aB zn { s3 with heap:=s3.heap.push { cls:=.type "slice",data:=.fields #[hi,hj,.none] } } Y cZ x v hi hj l u s3.heap.objs.size Q jk bG (Heap.IsSliceOf.new ..) pl pu h8;show wpAny (model X.prog X.w) X.A (subscriptTail e (.Slice lo aD none dB) v (.ref s3.heap.objs.size)) (hA X zn Y Q) X.d2 { s3 with heap:=s3.heap.push { cls:=.type "slice",data:=.fields #[hi,hj,.none] } };exact tail_any (ops:=[.ref s3.heap.objs.size,v]) bO e1 aU (by with_unfolding_all rfl)
def pY(xs:List V)(lo aD:Option Int):List V:=(xs.drop (ej.c4 xs.length 0 lo)).take (ej.c4 xs.length xs.length aD-ej.c4 xs.length 0 lo)
def Iv(xs:List V)(lo aD:Option Int):(pY xs lo aD).length<=xs.length:=by
 unfold pY;rw[amv,akV];omega
def acO(K:aS):V->Option Int->Option Int->aw->df->Prop:=λx lo aD H Q=>∃a xs,x=.ref a/\dQ K H a xs/\
 ¬(ej.c4 xs.length 0 lo=0/\ej.c4 xs.length xs.length aD=xs.length)/\∀p,H p=none->Q (.ref p) (upd H p (.tup (pY xs lo aD)))
theorem OK:pQ X (acO X.K):=by
 intro zn s Y H x v hi hj lo aD bW Q J a7 aE pl pu h;obtain⟨a,xs,rfl,ag,hw,q⟩:=h;cases a7;obtain⟨its,r,bO,hz⟩:=J.tuple ag;have hlen:its.toArray.size=xs.length:=by rw[ajT];exact r.length.symm
 refine⟨"tuple",_,akQ.lookup,bO.typeIs,?_⟩;refine ej.V1 bO aE pl pu (by rw[hlen];exact hw) ?_ (by rw[hlen];exact hz);rw[hlen];refine⟨.ref s.heap.objs.size,_,J.laid (t':=s.toks) (o:=.tup (pY xs lo aD)) (λb bD q=>ajF _ q) (ajK _) ?_,rfl,q _ (J.bP.fresh (ajK _))⟩;exact⟨akT (Iv xs lo aD) hz,_,(r.drop (ej.c4 xs.length 0 lo)).take (ej.c4 xs.length xs.length aD-ej.c4 xs.length 0 lo),IsTup.new _ _⟩
end
def ru(n:Nat)(i:Int):Option Nat:=if 0<=i then(if i<n then some i.toNat else none)else if -(n:Int)<=i then some (i+n).toNat else none
def e_{α:Type}(xs:List α)(i:Int):Option α:=(ru xs.length i).bind λj=>xs[j]?
def Y2{i:Int}(h:ru n i=some j):seqIndex? i n=some j/\j<n/\-(n:Int)<=i/\i<n:=by
 unfold ru at h
 by_cases h0:0<=i
 .rw[if_pos h0]at h
  by_cases ae:i<n
  .rw[if_pos ae]at h
   have e:i.toNat=j:=akd h;exact⟨by rw[seqIndex_of h0 ae,e],by omega,by omega,ae⟩
  .rw[if_neg ae]at h;cases h
 .rw[if_neg h0]at h
  by_cases ae:-(n:Int)<=i
  .rw[if_pos ae]at h
   have e:(i+n).toNat=j:=akd h;exact⟨by rw[seqIndex_neg (by omega) ae,e],by omega,ae,by omega⟩
  .rw[if_neg ae]at h;cases h
def xP{α:Type}{xs:List α}{i:Int}{v:α}(h:e_ xs i=some v):∃j,seqIndex? i xs.length=some j/\xs[j]? = some v/\j<xs.length/\-(xs.length:Int)<=i/\i<xs.length:=by
 unfold e_ at h
 cases e:ru xs.length i with
 |none=>rw[e]at h;cases h
 |some j=>
  rw[e]at h;obtain⟨ae,ah,bF,dw⟩:=Y2 e;exact⟨j,ae,h,ah,bF,dw⟩
def QH{α:Type}{xs:List α}{j:Nat}{v:α}(h:xs[j]? = some v):e_ xs (j:Int)=some v:=by
 have aZ:j<xs.length:=(ajJ.mp h).1;have e:ru xs.length (j:Int)=some j:=by
  unfold ru;rw[if_pos (by omega),if_pos (by omega)];simp
 unfold e_;rw[e];exact h
def Gd(b:Expr):Prop:=∀o i,aou b false o i=operate [o,i] (amN o i)
def nd(X:aT)(r:gb):Prop:=
 ∀(value slice:Expr)(zn:c8)(s:ajH)(Y:St)(H:aw)(x y:V)(v u:Value)(Q:df),Inv X zn Y H s->RelV x v->RelV y u->r x y H Q->
  aou slice false v u=operate [v,u] (amN v u)->wpAny (model X.prog X.w) X.A (subscriptTail value slice v u) (hA X zn Y Q) X.d2 s
def AU(X:aT)(id:String)(r:V->List V->aw->df->Prop):Prop:=
 ∀(zn:c8)(s:ajH)(Y:St)(H:aw)(x:V)(xs:List V)(v:Value)(us:List Value)(Q:df),Inv X zn Y H s->RelV x v->Vals xs us->r x xs H Q->
  wpAny (model X.prog X.w) X.A (call (.builtin id) (v::us)) (hA X zn Y Q) X.d2 s
section
variable{X:aT}{a b:Expr}{b9 c6:TE}{pos:Pos}
def nd.or{r bT:gb}(h:nd X r)(h':nd X bT):nd X (λx y H Q=>r x y H Q\/bT x y H Q):=by
 intro value slice zn s Y H x y v u Q J a7 bC q aE;rcases q with q|q
 .exact h value slice zn s Y H x y v u Q J a7 bC q aE
 .exact h' value slice zn s Y H x y v u Q J a7 bC q aE
def abW{r:gb}(aB:nd X r)(ar:bY X a b9)(af:bY X b c6)(aE:Gd b):bY X (.Subscript a b pos) (w6 r b9 c6):=by
 intro zn s Y H Q J h;exact Subscript_ (Bu ar af J h λv u s2 x y aM bX a7 bC q=>aB a b zn s2 Y aM x y v u Q bX a7 bC q (aE _ _))
def M6(K:aS):gb:=λx y H Q=>∃p xs i v,x=.ref p/\y=.int i/\dx K H p xs/\e_ xs i=some v/\Q v H
def M8(K:aS):gb:=λx y H Q=>∃p xs i v,x=.ref p/\y=.int i/\dQ K H p xs/\e_ xs i=some v/\Q v H
def M7:gb:=λx y H Q=>∃z i c,x=.str z/\y=.int i/\z.length<=ajL/\e_ z.cps.toList i=some c/\Q (.str ⟨#[c]⟩) H
def Y3:nd X (M6 X.K):=by
 intro value slice zn s Y H x y v u Q J a7 bC h aE;obtain⟨p,xs,i,z,rfl,rfl,a9,he,q⟩:=h;cases a7;obtain⟨t,rfl⟩:=bC;obtain⟨its,r,pl,hz⟩:=J.list a9;obtain⟨j,ae,ah,bF,dw,eO⟩:=xP he;obtain⟨w,sH,jC⟩:=r.get ah;have au:=r.length;have aH:=vE;have fin:hA X zn Y Q w s:=⟨z,H,J,jC,q⟩
 by_cases h0:0<=i
 .have aZ:i.toNat=j:=by
   rw[seqIndex_of h0 eO]at ae;exact akd ae
  exact item_listR pl.isList h0 (by omega) (by rw[aZ];simpa using sH) fin aE
 .have aZ:(i+(its.toArray.size:Int)).toNat=j:=by
   rw[seqIndex_neg (by omega) dw]at ae;rw[ajT,<-au];exact akd ae
  exact subscriptTail_builtinR (x:=w) pl.isList.typeIs slot_list_getitem.lookup
   (wpAny_getItem_list_neg (Q:=λr aQ=>r=w/\hA X zn Y Q r aQ) pl.isList (by omega) (by rw[ajT]<;>omega) (by omega) (by rw[aZ];simpa using sH) ⟨rfl,fin⟩) aE
def Y5:nd X (M8 X.K):=by
 intro value slice zn s Y H x y v u Q J a7 bC h aE;obtain⟨p,xs,i,z,rfl,rfl,a9,he,q⟩:=h;cases a7;obtain⟨t,rfl⟩:=bC;obtain⟨its,r,pl,hz⟩:=J.tuple a9;obtain⟨j,ae,ah,bF,dw,eO⟩:=xP he;obtain⟨w,sH,jC⟩:=r.get ah;have au:=r.length;have aH:=vE;have fin:hA X zn Y Q w s:=⟨z,H,J,jC,q⟩;exact subscriptTail_builtinR (x:=w) pl.typeIs slot_tuple_getitem.lookup
  (getItem_tuple (j:=j) (Q:=λr aQ=>r=w/\hA X zn Y Q r aQ) pl (by omega) (by omega) (by rw[ajT,<-au];exact ae) (by simpa using sH) ⟨rfl,fin⟩) aE
def Y4:nd X M7:=by
 intro value slice zn s Y H x y v u Q J a7 bC h aE;obtain⟨z,i,c,rfl,rfl,hz,he,q⟩:=h;obtain⟨t,rfl⟩:=a7;obtain⟨t',rfl⟩:=bC;obtain⟨j,ae,ah,bF,dw,eO⟩:=xP he;have au:z.cps.toList.length=z.length:=by simp[Str.length]
 rw[au]at ae dw eO;have aH:=vE;exact tail_any (typeIs_str s z t) slot_str_getitem.lookup (getItem_str (c:=c) (by
  have ao:decide (i < -(2 ^ 63:Int))=false:=decide_eq_false (by omega);have az:decide (i≥2 ^ 63)=false:=decide_eq_false (by omega);rw[ao,az,Bool.or_false]) (by rw[ae];simpa using ah) ⟨.str ⟨#[c]⟩,H,J.tok _,⟨_,rfl⟩,q⟩) aE
def M5(K:aS):gb:=λx y H Q=>M6 K x y H Q\/M8 K x y H Q\/M7 x y H Q
def ix:nd X (M5 X.K):=Y3.or (Y5.or Y4)
def aex(lo aD:Option Int)(n:Nat):(amB lo aD none n).1=((ej.c4 n 0 lo:Nat):Int)/\(amB lo aD none n).2.1=((ej.c4 n n aD:Nat):Int)/\(amB lo aD none n).2.2=1:=by
 refine⟨?_,?_,rfl⟩
 .cases lo with
  |none=>simp[amB,ej.c4]|some i=>
   simp only[amB,ej.c4,Option.getD_none,show(1:Int) > 0 by decide,if_true]
   by_cases h:i<0
   .simp only[h,if_true]<;>omega
   .simp only[h,if_false]<;>omega
 .cases aD with
  |none=>simp[amB,ej.c4]|some i=>
   simp only[amB,ej.c4,Option.getD_none,show(1:Int) > 0 by decide,if_true]
   by_cases h:i<0
   .simp only[h,if_true]<;>omega
   .simp only[h,if_false]<;>omega
def aew(its:List Value)(lo aD:Option Int):slicePick its.toArray lo aD none=((its.drop (ej.c4 its.length 0 lo)).take (ej.c4 its.length its.length aD-ej.c4 its.length 0 lo)).toArray:=by
 obtain⟨ae,ah,bF⟩:=aex lo aD its.toArray.size;unfold slicePick;rw[ae,ah,bF];simp only[sliceRange_one,pick_run,ajT]<;>rfl
def acN(K:aS):V->Option Int->Option Int->aw->df->Prop:=λx lo aD H Q=>∃a xs,x=.ref a/\dx K H a xs/\∀p,H p=none->Q (.ref p) (upd H p (.lst (pY xs lo aD)))
theorem aeu:pQ X (acN X.K):=by
 intro zn s Y H x v hi hj lo aD bW Q J a7 aE pl pu h;obtain⟨a,xs,rfl,ag,q⟩:=h;cases a7;obtain⟨its,r,bO,hz⟩:=J.list ag;have hlen:=r.length;refine⟨"list",_,slot_list_getitem.lookup,bO.isList.typeIs,?_⟩;refine wpAny_getItem_list_slice bO.isList aE pl pu .none (by simp) ?_ (by rw[ajT]<;>omega);rw[aew,<-hlen];refine⟨.ref s.heap.objs.size,_,J.laid (t':=s.toks) (o:=.lst (pY xs lo aD)) (λb bD q=>ajF _ q) (ajK _) ?_,rfl,q _ (J.bP.fresh (ajK _))⟩;exact⟨akT (Iv xs lo aD) hz,_,0,(r.drop (ej.c4 xs.length 0 lo)).take (ej.c4 xs.length xs.length aD-ej.c4 xs.length 0 lo),ajS _ rfl⟩
def nC:V->Bool
 |.aG=>true|.aC _=>true|.int _=>true|.str _=>true|_=>false
def ny:V->V->Bool
 |.aG,.aG=>true|.aC a,.aC b=>a==b|.aC a,.int b=>(if a then 1 else 0)==b|.int a,.aC b=>a==(if b then 1 else 0)|.int a,.int b=>a==b|.str a,.str b=>a==b|_,_=>false
theorem VB{u v:Value}(bC:RelV y u)(a7:RelV x v)(VW:nC y=true)(kV:nC x=true):SeqAt.EqAt A s u v (ny y x):=by
 cases y with
 |aG=>
  cases bC
  cases x with
  |aG=>cases a7;exact SeqAt.EqAt.same _
  |aC b=>cases a7;exact SeqAt.EqAt.none_bool b
  |int b=>obtain⟨t,rfl⟩:=a7;exact SeqAt.EqAt.none_int b t
  |str b=>obtain⟨t,rfl⟩:=a7;exact SeqAt.EqAt.none_str b t
  |_=>exact absurd (show false=true from kV) ajO
 |aC a=>
  cases bC
  cases x with
  |aG=>cases a7;exact SeqAt.EqAt.bool_none a
  |aC b=>cases a7;exact SeqAt.EqAt.bool_bool a b
  |int b=>obtain⟨t,rfl⟩:=a7;exact SeqAt.EqAt.bool_int a b t
  |str b=>obtain⟨t,rfl⟩:=a7;exact SeqAt.EqAt.bool_str a b t
  |_=>exact absurd (show false=true from kV) ajO
 |int a=>
  obtain⟨t',rfl⟩:=bC
  cases x with
  |aG=>cases a7;exact SeqAt.EqAt.int_none a t'
  |aC b=>cases a7;exact SeqAt.EqAt.int_bool a t' b
  |int b=>obtain⟨t,rfl⟩:=a7;exact aoM a t' b t
  |str b=>obtain⟨t,rfl⟩:=a7;exact aoJ a t' b t
  |_=>exact absurd (show false=true from kV) ajO
 |str a=>
  obtain⟨t',rfl⟩:=bC
  cases x with
  |aG=>cases a7;exact SeqAt.EqAt.str_none a t'
  |aC b=>cases a7;exact SeqAt.EqAt.str_bool a t' b
  |int b=>obtain⟨t,rfl⟩:=a7;exact aoK a t' b t
  |str b=>obtain⟨t,rfl⟩:=a7;exact SeqAt.EqAt.str_str a t' b t
  |_=>exact absurd (show false=true from kV) ajO
 |_=>exact absurd (show false=true from VW) ajO
def jW(x:V)(u:Value):Bool:=match u with
 |.none=>ny .aG x|.bool b=>ny (.aC b) x|.int i _=>ny (.int i) x|.str z _=>ny (.str z) x|_=>false
theorem IQ(r:RelV y u)(f:nC y=true):jW x u=ny y x:=by
 cases y with
 |aG=>cases r;rfl
 |aC b=>cases r;rfl
 |int i=>obtain⟨t,rfl⟩:=r;rfl
 |str z=>obtain⟨t,rfl⟩:=r;rfl
 |_=>exact absurd (show false=true from f) ajO
theorem uv:∀{xs:List V}{us:List Value},Vals xs us->xs.all nC=true->us.any (jW x)=xs.any λy=>ny y x
 |_,_,.nil,_=>rfl|y::xs,u::us,.cons r t,f=>by
  rw[amx,ako]at f;rw[alo,alo,IQ r f.1,uv t f.2]
theorem vZ{v:Value}(a7:RelV x v)(kV:nC x=true):∀{xs:List V}{us:List Value},Vals xs us->xs.all nC=true->∀u∈us,SeqAt.EqAt A s u v (jW x u)
 |_,_,.nil,_=>λu cC=>by cases cC
 |y::xs,u::us,.cons r t,f=>λu' cC=>by
  rw[amx,ako]at f;rcases ajN.mp cC with rfl|cC
  .rw[IQ r f.1];exact VB r a7 f.1 kV
  .exact vZ a7 kV t f.2 u' cC
def Dk(x:V)(xs:List V):Bool:=xs.any λy=>ny y x
def EW(K:aS)(neg:Bool):gb:=λx y H Q=>∃p xs,y=.ref p/\(dx K H p xs\/dQ K H p xs)/\nC x=true/\xs.all nC=true/\Q (.aC (if neg then !Dk x xs else Dk x xs)) H
def Ms:ew X (akq .In) (EW X.K false):=by
 intro zn s Y H x y v u Q J a7 bC h;obtain⟨p,xs,rfl,a9,kV,aW,q⟩:=h;cases bC;rcases a9 with a9|a9
 .obtain⟨its,r,pl,hz⟩:=J.list a9
  refine SeqAt.in_listAt (jW x) pl.isList (λw hw=>vZ a7 kV r aW w (by simpa using hw)) ⟨.aC _,H,J,rfl,?_⟩;rw[show its.toArray.any (jW x)=its.any (jW x)by simp,uv r aW];exact q
 .obtain⟨its,r,pl,hz⟩:=J.tuple a9
  refine SeqAt.in_tupleAt (jW x) pl (λw hw=>vZ a7 kV r aW w (by simpa using hw)) ⟨.aC _,H,J,rfl,?_⟩;rw[show its.toArray.any (jW x)=its.any (jW x)by simp,uv r aW];exact q
def abe:ew X (akq .NotIn) (EW X.K true):=by
 intro zn s Y H x y v u Q J a7 bC h;obtain⟨p,xs,rfl,a9,kV,aW,q⟩:=h;cases bC;rcases a9 with a9|a9
 .obtain⟨its,r,pl,hz⟩:=J.list a9
  refine SeqAt.notIn_listAt (jW x) pl.isList (λw hw=>vZ a7 kV r aW w (by simpa using hw)) ⟨.aC _,H,J,rfl,?_⟩;rw[show its.toArray.any (jW x)=its.any (jW x)by simp,uv r aW];exact q
 .obtain⟨its,r,pl,hz⟩:=J.tuple a9
  refine SeqAt.notIn_tupleAt (jW x) pl (λw hw=>vZ a7 kV r aW w (by simpa using hw)) ⟨.aC _,H,J,rfl,?_⟩;rw[show its.toArray.any (jW x)=its.any (jW x)by simp,uv r aW];exact q
def Ts:jh X (.builtin "len") (λxs H Q=>∃p ys,xs=[.ref p]/\(dx X.K H p ys\/dQ X.K H p ys)/\Q (.int ys.length) H):=by
 intro zn s Y H xs us Q J r h;obtain⟨p,ys,rfl,a9,q⟩:=h;obtain⟨u,rfl,a7⟩:=vals1 r;cases a7;have aH:=vE;rcases a9 with a9|a9
 .obtain⟨its,bT,pl,hz⟩:=J.list a9
  have hlen:=bT.length;exact Calls.call_len_list pl.isList (by simp only[ajT]<;>omega) ⟨.int ys.length,H,J.tok _,⟨s.toks+1,by rw[ajT,hlen]⟩,q⟩
 .obtain⟨its,bT,pl,hz⟩:=J.tuple a9
  have hlen:=bT.length;exact len_tuple pl (by simp only[ajT]<;>omega) ⟨.int ys.length,H,J.tok _,⟨s.toks+1,by rw[ajT,hlen]⟩,q⟩
def Tt:jh X (.builtin "len") (λxs H Q=>∃z,xs=[.str z]/\z.length<=ajL/\Q (.int z.length) H):=by
 intro zn s Y H xs us Q J r h;obtain⟨z,rfl,hz,q⟩:=h;obtain⟨u,rfl,t,rfl⟩:=vals1 r;have aH:=vE;exact len_str (by omega) ⟨.int z.length,H,J.tok _,⟨_,rfl⟩,q⟩
theorem BD:jh X (.type "tuple") (λxs H Q=>∃p ys,xs=[.ref p]/\((dx X.K H p ys/\∀l,H l=none->Q (.ref l) (upd H l (.tup ys)))\/(dQ X.K H p ys/\Q (.ref p) H))):=by
 intro zn s Y H xs us Q J r h;obtain⟨p,ys,rfl,h⟩:=h;obtain⟨u,rfl,a7⟩:=vals1 r;cases a7;rcases h with⟨a9,q⟩|⟨a9,q⟩
 .obtain⟨its,bT,pl,hz⟩:=J.list a9
  have hlen:=bT.length;refine call_tuple_list pl.isList (λh' kp=>?_) (by simp only[ajT]<;>omega);have a_:Inv X zn Y H { s with heap:=h' }:=J.kept (t':=s.toks) kp;have bX:Inv X zn Y (upd H h'.objs.size (.tup ys)) { s with heap:=h'.push { cls:=.type "tuple",data:=.seq its.toArray } }:=
   a_.laid (t':=s.toks) (λb o e=>ajF _ e) (ajK _) (show gU X.prog X.w _ _ _ (.tup ys)from⟨hz,its,bT,IsTup.new _ _⟩)
  exact⟨.ref h'.objs.size,_,bX,rfl,q _ (a_.bP.fresh (ajK _))⟩
 .obtain⟨its,bT,pl,hz⟩:=J.tuple a9
  exact call_tuple_same pl ⟨.ref p,H,J,rfl,q⟩
def Aj(K:aS)(T:String)(x:V)(H:aw):Prop:=match x with
 |.str _=>T="str"|.int _=>T="int"|.ref p=>(T="list"/\∃xs,dx K H p xs)\/(T="tuple"/\∃o,K.lookup p=some o/\o.cls=.type "tuple"/\o.dict=none)\/
   (T="dict"/\((∃ak,H p=some (.fy ak))\/∃ak,H p=some (.hF ak)))\/(T="set"/\∃S n,H p=some (.set S n))
 |_=>False
def Pt{v:Value}(J:Inv X zn Y H s)(r:RelV x v)(ty:Aj X.K T x H) :
  s.TypeIs v T/\∀a,v=.ref a->∃bD,s.heap.get? a=some bD/\bD.dict=none:=by
 cases x with
 |str z=>
  obtain⟨t,rfl⟩:=r;cases(show T="str" from ty);exact⟨typeIs_str s z t,λ_ e=>nomatch e⟩
 |int i=>
  obtain⟨t,rfl⟩:=r;cases(show T="int" from ty);exact⟨typeIs_int s i t,λ_ e=>nomatch e⟩
 |ref p=>
  cases r;rcases ty with⟨rfl,xs,a9⟩|⟨rfl,o,ax,aI,hd⟩|⟨rfl,ax⟩|⟨rfl,S,n,ax⟩
  .obtain⟨its,_,pl,_⟩:=J.list a9
   refine⟨pl.isList.typeIs,λa e=>?_⟩;cases e;obtain⟨o,n,e,c,hd,_⟩:=pl;exact⟨o,e,hd⟩
  .refine⟨⟨o,J.fp p o ax,aI⟩,λa e=>?_⟩
   cases e;exact⟨o,J.fp _ o ax,hd⟩
  .have z:∃o,s.heap.get? p=some o/\o.ExactDict:=by
    rcases ax with⟨ak,ax⟩|⟨ak,ax⟩
    .obtain⟨_,_,_,_,o,_,_,e,ex,_⟩:=J.bP p _ ax
     exact⟨o,e,ex⟩
    .obtain⟨_,_,_,_,o,_,_,e,ex,_⟩:=J.bP p _ ax
     exact⟨o,e,ex⟩
   obtain⟨o,e,ex⟩:=z;refine⟨⟨o,e,ex.1⟩,λa az=>?_⟩;cases az;exact⟨o,e,ex.2.1⟩
  .obtain⟨o,_,_,_,e,ex,_⟩:=J.bP p _ ax
   refine⟨⟨o,e,ex.1⟩,λa az=>?_⟩;cases az;exact⟨o,e,ex.2.1⟩
 |_=>exact akl ty
def aeT(K:aS)(T:String)(r:V->List V->aw->df->Prop)(to:TE):TE:=λY H Q=>to Y H λx H1=>Aj K T x H1/\r x [] H1 Q
def aeS(K:aS)(T:String)(r:V->List V->aw->df->Prop)(to:TE)(t:gA):TE:=λY H Q=>to Y H λx H1=>Aj K T x H1/\t Y H1 λxs aM=>r x xs aM Q
variable{o e:Expr}{ay:List Expr}{to:TE}{t:gA}{name:Str}{apos dv:Pos}{T id:String}{r:V->List V->aw->df->Prop}
def abH(jc:PlainAttrs T)(slot:Slot T name id)(rt:typeOf (.builtin id)=pure (.type "method_descriptor"))(hm:AU X id r)(bf:bY X o to)
  (oE:aln o name X.env (eval o X.env)=eval o X.env:=by rfl) (oM:(apos.endLine==dv.line)=true:=by rfl):bY X (.Call (.Attribute o name apos) [] [] dv) (aeT X.K T r to):=by
 intro zn s Y H Q J h;refine wpAny_Call_method0_late oE oM (bZ (bf zn s Y H _ J h) λv s1 aX=>?_);obtain⟨x,H1,a_,bG,ty,bz⟩:=aX;obtain⟨ae,ah⟩:=Pt a_ bG ty;exact⟨T,id,jc,slot,rt,ae,ah,amj rfl (PySem.evalArgs_none (hm zn s1 Y H1 x [] v [] Q a_ bG .nil bz))⟩
def MB(jc:PlainAttrs T)(slot:Slot T name id)(rt:typeOf (.builtin id)=pure (.type "method_descriptor"))(hm:AU X id r)(bf:bY X o to)(ar:gm X (e::ay) t)
  (oE:aln o name X.env (eval o X.env)=eval o X.env:=by rfl)
  (vd:((aj9 dv (ajG (e::ay) X.env)).all (λx=>!x.1)&&(alp dv (akU [] X.env)).all (λx=>x.1.isSome)
&&decide ((e::ay).length+([]:List amO).length+(if([]:List amO).isEmpty then 0 else 1)<30))=true:=by rfl)
  (oM:(apos.endLine==dv.line)=true:=by rfl) (aE:ajG (e::ay) X.env=(false,eval e X.env)::ajG ay X.env:=by rfl) (i6:(aj9 dv (ajG ay X.env)).any (·.1)=false:=by rfl) :
  bY X (.Call (.Attribute o name apos) (e::ay) [] dv) (aeS X.K T r to t):=by
 intro zn s Y H Q J h;refine wpAny_Call_method_late oE vd oM rfl (bZ (bf zn s Y H _ J h) λv s1 aX=>?_);obtain⟨x,H1,a_,bG,ty,bz⟩:=aX;obtain⟨ae,ah⟩:=Pt a_ bG ty;refine⟨T,id,jc,slot,rt,ae,ah,?_⟩;have nF:=ar dv zn s1 Y H1 _ a_ bz;rw[aE]at nF ⊢;refine amj (by show(false||(aj9 dv (ajG ay X.env)).any (·.1))=false;rw[i6]<;>rfl) (anc ?_);exact bZ nF λus s2 ⟨vs,aM,bX,cx,cf⟩=>hm zn s2 Y aM x vs v us Q bX bG cx cf
end
def xA(X:aT)(id:String)(r:V->List V->aw->df->Prop):Prop:=
 ∀(zn:c8)(s:ajH)(Y:St)(H:aw)(x:V)(xs:List V)(v:Value)(us:List Value)(Q:df),Inv X zn Y H s->RelV x v->Vals xs us->r x xs H Q->
  wpAny (model X.prog X.w) X.A (call (.builtin id) (v::us)) (hA X zn Y Q) X.d2 s
def Vals.one:∀{x:V}{us:List Value},Vals [x] us->∃u,us=[u]/\RelV x u
 |_,_,.cons r .nil=>⟨_,rfl,r⟩
section
variable{X:aT}{zn:c8}{Y:St}{H:aw}{s:ajH}{l:Addr}{xs ys:List V}
def Inv.Lw{its its':List Value}{n:Nat}{f:Array Value->Array Value}{t':Nat}(J:Inv X zn Y H s)(d5:H l=some (.lst xs))
  (e:s.heap.get? l=some { cls:=.type "list",data:=.seq its.toArray n }) (hf:f its.toArray=its'.toArray) (bL:Vals ys its') (hz:ys.length<=ajL) :
  Inv X zn Y (upd H l (.lst ys)) { s with heap:=s.heap.update l (akh f),toks:=t' }:=by
 have q:=IsL.update e f;rw[hf]at q;refine J.write (x:=l) (e:=l) (by rw[d5];exact trivial) (.inl rfl) (λfl u af cC=>(aov s.heap (akh f) (amA af)).trans cC) ⟨_,q⟩ ?_;exact⟨hz,its',_,bL,q⟩
def Inv.Lr{t':Nat}(J:Inv X zn Y H s)(bL:Vals ys its)(hz:ys.length<=ajL) :
  Inv X zn Y (upd H s.heap.objs.size (.lst ys)) { s with heap:=s.heap.push { cls:=.type "list",data:=.seq its.toArray },toks:=t' }:=
 J.laid (λ_ _ q=>ajF _ q) (ajK _) ⟨hz,its,0,bL,ajS _ rfl⟩
def Inv.fresh(J:Inv X zn Y H s):H s.heap.objs.size=none:=J.bP.fresh (ajK _)
def Inv.vF(J:Inv X zn Y H s)(d5:H l=some (.lst xs)):xs.length<=ajL/\∃(its:List Value)(n:Nat),Vals xs its/\xs.length=its.length/\s.heap.get? l=some { cls:=.type "list",data:=.seq its.toArray n }:=by
 obtain⟨z,its,n,r,e⟩:=J.bP l _ d5;exact⟨z,its,n,r,r.length,e⟩
def aaN(h:n<=ajL):amJ n=false:=by
 unfold amJ;exact decide_eq_false (by omega)
end
section
variable{X:aT}
def MZ:V->List V->aw->df->Prop:=λx vs H Q=>∃l xs y,x=.ref l/\vs=[y]/\H l=some (.lst xs)/\xs.length<ajL/\Q .aG (upd H l (.lst (xs++[y])))
def v5:xA X "list.append" MZ:=by
 intro zn s Y H x vs v us Q J a7 bR h;obtain⟨l,xs,y,rfl,rfl,d5,hz,q⟩:=h;cases a7;obtain⟨u,rfl,eg⟩:=bR.one;obtain⟨z,its,n,r,au,e⟩:=J.vF d5;refine call_meets F.slot_list_append ⟨_,e,rfl⟩ F.entry_list_append (F.args_list_append_2 _ _) (PySem.list_append l its.toArray n u (by rw[ajT];omega)) ⟨e,?_⟩;refine⟨.aG,_,J.Lw (its':=its++[u]) d5 e (by simp) (r.append (.cons eg .nil)) ?_,rfl,q⟩;rw[ajQ,amq];omega
def M1:V->List V->aw->df->Prop:=λx vs H Q=>∃l b xs zs,x=.ref l/\vs=[.ref b]/\H l=some (.lst xs)/\H b=some (.lst zs)/\xs.length+zs.length<=ajL/\Q .aG (upd H l (.lst (xs++zs)))
def aaq:xA X "list.extend" M1:=by
 intro zn s Y H x vs v us Q J a7 bR h;obtain⟨l,b,xs,zs,rfl,rfl,d5,oB,hz,q⟩:=h;cases a7;obtain⟨u,rfl,eg⟩:=bR.one;cases eg;obtain⟨z,its,n,r,au,e⟩:=J.vF d5;obtain⟨eS,lN,dY,cx,iv,az⟩:=J.vF oB;have hsz:its.toArray.size+lN.toArray.size<=ajL:=by rw[ajT,ajT];omega
 have Yi:¬(!its.toArray.isEmpty&&amJ (its.toArray.size+lN.toArray.size))=true:=by
  rw[aaN hsz,Bool.and_false];exact ajO
 refine call_meets F.slot_list_extend ⟨_,e,rfl⟩ F.entry_list_extend (F.args_list_extend_2 _ _)
  (AutoSeq1.list_extend_list_list_0 l its.toArray n b lN.toArray dY Yi (by rw[ajT];omega) (by omega)) ⟨e,az,?_⟩
 refine⟨.aG,_,J.Lw (its':=its++lN) d5 e (by simp) (r.append cx) ?_,rfl,q⟩;rw[ajQ];omega
def M0:gb:=λx y H Q=>∃l b xs zs,x=.ref l/\y=.ref b/\H l=some (.lst xs)/\H b=some (.lst zs)/\xs.length+zs.length<=ajL/\∀p,H p=none->Q (.ref p) (upd H p (.lst (xs++zs)))
def aa7:ew X (alA .Add) M0:=by
 intro zn s Y H x y v u Q J a7 bC h;obtain⟨l,b,xs,zs,rfl,rfl,d5,oB,hz,q⟩:=h;cases a7;cases bC;obtain⟨z,its,n,r,au,e⟩:=J.vF d5;obtain⟨eS,lN,dY,cx,iv,az⟩:=J.vF oB;refine P.add_list e az ?_ (by rw[ajT,ajT];omega);have gC:its.toArray++lN.toArray=(its++lN).toArray:=by simp
 rw[gC];exact⟨.ref _,_,J.Lr (t':=s.toks) (r.append cx) (by rw[ajQ];omega),rfl,q _ J.fresh⟩
end
end aF
namespace FX
open PySem PySem.W PySem.Calls PyProof.Rows
def YR:∀(ns:List Int)(vs:List Value),WellAll P h vs (ns.map WData.int)->ak1 vs ns:=by
 intro ns
 induction ns with
 |nil=>
  intro vs w;rw[aoc]at w;cases w;exact .nil
 |cons n ns a6=>
  intro vs w;rw[ajP]at w
  cases w with
  |cons a b=>
   cases a;exact .cons _ _ (a6 _ b)
def aeo{l:OpenLaw}{n:Nat}(aH:l.most=some n){P:Params}{h:Heap}{args:List WData}{vals:List Value}
  (yR:l.row.toRowW.claim.pre args=true) (Df:WellAll P h vals args) :
  ∃a vs ns,vals=[aka a]/\args=[WData.list (ns.map WData.int)]/\h.get? a=some { cls:=.type "list",data:=.seq vs.toArray }/\ak1 vs ns/\ns.length<=n:=by
 have yS:WShape.hasAll [] args [.list .int]=true:=(pre_splitW yR).1;have aI:l.pre.holds [] { args:=args }=true:=(pre_splitW yR).2;obtain⟨d,r,rfl,ae,ah⟩:=hasAllW_cons yS;obtain rfl:=hasAllW_nil ah;obtain⟨xs,rfl,bF⟩:=hasW_list ae;obtain⟨ns,rfl⟩:=items_int bF;have hlen:ns.length<=n:=by
  unfold OpenLaw.pre at aI;have dw:(WTm.not (.lt (.lit (.int (n:Int))) (.len (.arg 0)))).holds [] { args:=[.list (ns.map .int)] }=true:=by
   have dw:=(holds_andW aI).1;rw[aH]at dw;exact dw
  have eO:=condW_of dw (w_not (w_lt w_lit (w_len_list (w_arg rfl))));rw[ajE]at eO;refine Nat.le_of_not_lt λq=>?_
  have hM:(n:Int)<((ns.length:Nat):Int):=by omega
  first
   |(rw[decide_eq_true hM]at eO;exact absurd eO (by decide))
   |(simp at eO;omega)
 cases Df with
 |cons l1 jI=>
  cases jI
  cases l1 with
  |list bf hall=>exact⟨_,_,ns,rfl,rfl,bf,YR ns _ hall,hlen⟩
def ach(l:OpenLaw)(args:List WData):l.row.toRowW.claim.post args (.bool true) args=true:=
 postW_of (r:=l.row.toRowW) (X:=(true==true))
  (show WShape.has [] (.bool true) .bool=true by first|rfl|decide|simp[WShape.has,WShape.arms,WShape.armsAll])
  (show(WTm.eq .res (.lit (.bool true))).value [] { args:=args,res:=some (.bool true),after:=args }=some (.bool (true==true))from w_eq_bool (w_res rfl) w_lit) rfl
def QK{l:OpenLaw}{n:Nat}{q:ajY}{loose:List Str}{xH:(Str->Option Value)->Heap->Prop}{ur:World->Heap->Prop}{d:DefRec}
  (aH:l.most=some n) (CU:d.params.defaults=[])
  (call:∀(w:World)(hg dD:ajH)(mg di:bq)(ec:Addr)(o:Obj)(pm cd doc:Value)(a:Addr)(vs:List Value)(ns:List Int),
   Ground q loose [] xH w hg mg di dD.heap->ur w dD.heap->
   dD.heap.get? ec=some o->o.data=.func (docDef d.name d.params d.body d.scope pm cd doc)->dD.heap.CodeRec cd d.name->mg d.name=some (.ref ec)->
   dD.heap.get? a=some { cls:=.type "list",data:=.seq vs.toArray }->ak1 vs ns->ns.length<=n->dD.gens=#[]->
   amn (model l.prog w) an7 (.call (.ref ec) ⟨[.ref a],[]⟩) (λr aQ=>r=.ok (.ret (.bool true))/\OldK dD.heap aQ.heap/\aQ.os=dD.os/\am4 aQ.gens) dD) :
  WalkO q loose xH ur l.row.toRowW d [] (λf vs=>PySem.call f vs):=by
 intro w hg dD mg di G σ ec o pm cd doc q3 cI bf hd gM kX vg aU args vals as yR ai2 ai5 Df ai3;obtain rfl:q3=.none:=Dflts.none kX CU;obtain rfl:cI=.none:=Dflts.noKw kX;obtain⟨a,vs,ns,rfl,rfl,C6,hints,hlen⟩:=aeo aH yR Df;refine enter_call (alV (call w hg dD mg di ec o pm cd doc a vs ns G σ bf (fd_plain hd) gM vg C6 hints hlen aU) λr aQ a9=>?_);obtain⟨rfl,ah,bF,dw⟩:=a9;exact⟨.inl ⟨.bool true,.bool true,[],rfl,λ_=>rfl,.bool true,ach l _,λ_=>⟨anU,λ_ hm=>(nomatch hm)⟩⟩,ah,bF,dw⟩
end FX
namespace aF
open PySem PySem.Spec PyProof.Rows
theorem PA:∀{vs:List Value}{ns:List Int},ak1 vs ns->Vals (ns.map V.int) vs
 |_,_,.nil=>.nil|_,_,.cons n t h=>.cons ⟨t,rfl⟩ (PA h)
abbrev kb{K:aS}{h:Heap}(_:K.In h):aS:=K
def inClass(s:Stmt)(j:Nat):Stmt:=match s with
 |.ClassDef _ _ _ body _ _ _ _ _ _ _=>body.getD j (.Pass ⟨0,0,0,0⟩)|_=>.Pass ⟨0,0,0,0⟩
def iq(s:Stmt):amI:=match s with
 |.FunctionDef _ a _ _ _ _ _ _ _ _=>a|_=>{ posonlyargs:=[],args:=[],vararg:=none,kwonlyargs:=[],kw_defaults:=[],kwarg:=none,defaults:=[] }
def fF(s:Stmt):List Stmt:=match s with
 |.FunctionDef _ _ b _ _ _ _ _ _ _=>b|_=>[]
def bH(s:Stmt):Scope:=match s with
 |.FunctionDef _ _ _ _ _ _ sc _ _ _=>sc|_=>{ kind:=.function,names:=[],isGenerator:=false,isCoroutine:=false }
abbrev eT:m_:=λ_ _ _ _ _ _=>False
abbrev jj:gL:=λ_ _ _=>False
def rM:Passes eT X jj:=λ_ _ _ _ _ _ _ h=>h.elim
structure lu(K:aS)(x qual:Str)(st:Stmt)(f:Addr)(fd:akR):Prop where
 ex:∃(bK:Value)(dj:Option Addr)(cI doc pm:Value)(an:Option Addr)(bw cw:Value)(fJ:Array (Option Value)),
  fd=alr x qual (iq st) (fF st) (bH st) .none cI doc pm an bw cw/\K.lookup f=some ⟨bK,dj,.func fd,fJ⟩/\anp K bw qual=true
 kp:alB K (.ref f)=true
section
variable{P:ajY}{w:World}{K:aS}{mg:bq}{base:Heap}
def lu.ok{x qual:Str}{st:Stmt}{f:Addr}{fd:akR}{N ps:List Str}{k:Nat}{sp:eo}(F:lu K x qual st f fd)(S:cb N ps (bH st))(len:∀vs H Q E,sp vs H Q E->vs.length=ps.length)
  (u9:∀(bw:Value)(A:aj4)(outer:List Env)(s:ajH)(H:aw)(vs:List V)(Q:df)(E:gL),cK k (A.deeper (amo qual (bH st) s.heap.objs.size f bw))->sp vs H Q E->
   ∃t,iX (ho eT P w K mg base N qual (bH st) f bw A outer s H E).gO (fF st) t/\t { bh:=λ_ H'=>Q .aG H',cQ:=Q } (start N vs) H):fq P w K mg base eT (k+1) f fd ps sp:=by
 obtain⟨bK,dj,cI,doc,pm,an,bw,cw,fJ,rfl,lk,gM⟩:=F.ex;refine Cm lk gM S len λA outer s H vs Q E aB h4=>?_
 obtain⟨t,h,q⟩:=u9 bw A outer s H vs Q E aB h4;exact⟨t,h.gO,q⟩
def lu.binds{x qual:Str}{st:Stmt}{f:Addr}{fd:akR}{ps:List Str}(F:lu K x qual st f fd)
  (h:∀(cI doc pm:Value)(an:Option Addr)(bw cw:Value)(us:List Value),us.length=ps.length->alU (alr x qual (iq st) (fF st) (bH st) .none cI doc pm an bw cw) ⟨us,[]⟩=pure (ps.zip us)):Binds K fd ps []:=by
 obtain⟨bK,dj,cI,doc,pm,an,bw,cw,fJ,rfl,lk,gM⟩:=F.ex;exact .all (h cI doc pm an bw cw)
def yx{x qual:Str}{st:Stmt}{f:Addr}{bK:Value}{dj an:Option Addr}{fJ:Array (Option Value)}{cI doc pm bw cw:Value}(l:K.lookup f=some ⟨bK,dj,.func (alr x qual (iq st) (fF st) (bH st) .none cI doc pm an bw cw),fJ⟩)
  (c:anp K bw qual=true) (k:alB K (.ref f)=true):lu K x qual st f (alr x qual (iq st) (fF st) (bH st) .none cI doc pm an bw cw):=⟨⟨bK,dj,cI,doc,pm,an,bw,cw,fJ,rfl,l,c⟩,k⟩
end
def eJ(h:n<=1000):n<ajL:=Nat.lt_of_le_of_lt h (by decide)
def qf{A B:Prop}(h:B):if false=true then A else B:=by
 rw[if_neg ajO];exact h
def qg{A B:Prop}(h:A):if true=true then A else B:=by
 rw[if_pos rfl];exact h
end aF
set_option maxHeartbeats 4000000
namespace aF
open PySem PySem.Spec PyProof.Rows
section
variable{κ:Type}[DecidableEq κ]
def j_(ak:List (κ×V))(k:κ):Option V:=(ak.find? λkv=>decide (kv.1=k)).map (·.2)
def putK(ak:List (κ×V))(k:κ)(v:V):List (κ×V):=
 if(ak.any λkv=>decide (kv.1=k))=true then ak.map (λkv=>if kv.1=k then(kv.1,v)else kv)else ak++[(k,v)]
def FA{r:List (κ×V)}{k:κ}(e:p.1=k):j_ (p::r) k=some p.2:=by simp[j_,alJ,e]
def Fz{r:List (κ×V)}{k:κ}(e:¬p.1=k):j_ (p::r) k=j_ r k:=by simp[j_,alJ,e]
theorem Pz(k:κ):∀ak:List (κ×V),(ak.any λkv=>decide (kv.1=k))=(j_ ak k).isSome
 |[]=>rfl|p::r=>by
  rw[alo]
  by_cases e:p.1=k
  .simp only[FA e,decide_eq_true e,Bool.true_or,Option.isSome_some]
  .rw[Fz e,decide_eq_false e,Bool.false_or];exact Pz k r
def DT(ak:List (κ×V))(k:κ)(v:V):(putK ak k v).length<=ak.length+1:=by
 unfold putK;split
 .rw[ajE];omega
 .rw[ajQ,ajW,akH];omega
def iJ.YV{o:Option V}{u:Option Value}(r:iJ o u):o.isSome=u.isSome:=by
 cases o with
 |none=>cases u with
  |none=>rfl|some _=>exact(show False from r).elim
 |some _=>cases u with
  |none=>exact(show False from r).elim|some _=>rfl
def iJ.getD{o:Option V}{u:Option Value}(r:iJ o u)(a4:RelV d d'):RelV (o.getD d) (u.getD d'):=by
 cases o with
 |none=>cases u with
  |none=>exact a4|some _=>exact(show False from r).elim
 |some _=>cases u with
  |none=>exact(show False from r).elim|some _=>exact r
def gk.val(r:gk ak vs)(k:κ):iJ (j_ ak k) (an8 vs k):=by
 unfold gk at r
 induction r with
 |nil=>exact ak4|@cons p q ps ha h t a6=>
  obtain⟨ae,ah⟩:=h
  by_cases e:p.1=k
  .have cF:q.1=k:=ae.symm.trans e
   have b:an8 (q::ha) k=some q.2:=by simp[an8,alJ,cF]
   rw[FA e,b];exact ah
  .have cF:¬q.1=k:=λz=>e (ae.trans z)
   have b:an8 (q::ha) k=an8 ha k:=by simp[an8,alJ,cF]
   rw[Fz e,b];exact a6
def gk.any{ak:List (κ×V)}{vs:List (κ×Value)}(r:gk ak vs)(k:κ):(ak.any λkv=>decide (kv.1=k))=vs.any λkv=>decide (kv.1=k):=by
 unfold gk at r
 induction r with
 |nil=>rfl|cons h t a6=>rw[alo,alo,a6,h.1]
def gk.EZ(r:gk ak vs)(k:κ)(bC:RelV y u) :
  gk (ak.map λkv=>if kv.1=k then(kv.1,y)else kv) (vs.map λkv=>if kv.1=k then(kv.1,u)else kv):=by
 unfold gk at r ⊢
 induction r with
 |nil=>exact .nil|@cons p q ps ha h t a6=>
  rw[ajP,ajP];refine .cons ?_ a6;obtain⟨ae,ah⟩:=h
  by_cases e:p.1=k
  .rw[if_pos e,if_pos (ae.symm.trans e)];exact⟨ae,bC⟩
  .rw[if_neg e,if_neg (λz=>e (ae.trans z))];exact⟨ae,ah⟩
def gk.put(r:gk ak vs)(k:κ)(bC:RelV y u):gk (putK ak k y) (stored vs k u):=by
 unfold putK stored;rw[r.any k]
 by_cases e:(vs.any λkv=>decide (kv.1=k))=true
 .rw[if_pos e,if_pos e];exact r.EZ k bC
 .rw[if_neg e,if_neg e];exact Paired.snoc r ⟨rfl,bC⟩
def gk.length{ak:List (κ×V)}{vs:List (κ×Value)}(r:gk ak vs):ak.length=vs.length:=aoG r
end
def vw{k:Key}(r:RelV (cI k) u):(ja P w).is k u=true:=by
 cases k with
 |inl i=>obtain⟨t,e⟩:=(show ∃t,u=am3 i t from r);subst e;exact aak P w i t
 |inr x=>obtain⟨t,e⟩:=(show ∃t,u=anw x t from r);subst e;exact aal P w x t
theorem Kt:∀{bj:List Key}{us:List Value},Vals (bj.map cI) us->ItemsAre (ja P w) bj us
 |[],_,r=>by rw[aoc]at r;cases r;exact .nil
 |k::bj,_,r=>by
  rw[ajP]at r
  cases r with
  |cons h t=>exact .cons (vw h) (Kt t)
abbrev KT(H:aw):List (List Key×V)->List (List Key×Addr×Value)->Prop:=amT λp q=>p.1=q.1/\H q.2.1=some (.tup (p.1.map cI))/\RelV p.2 q.2.2
def KT.val(r:KT H ak xs)(k:List Key):iJ (j_ ak k) ((atKey xs k).map (·.2)):=by
 induction r with
 |nil=>exact ak4|@cons p q ps ha h t a6=>
  obtain⟨ae,_,ah⟩:=h
  by_cases e:p.1=k
  .have cF:q.1=k:=ae.symm.trans e
   have b:atKey (q::ha) k=some q.2:=by simp[atKey,alJ,cF]
   rw[FA e,b];exact ah
  .have cF:¬q.1=k:=λz=>e (ae.trans z)
   have b:atKey (q::ha) k=atKey ha k:=by simp[atKey,alJ,cF]
   rw[Fz e,b];exact a6
def KT.EZ(r:KT H ak xs)(k:List Key)(bC:RelV y u) :
  KT H (ak.map λkv=>if kv.1=k then(kv.1,y)else kv) (xs.map (putAt k u)):=by
 induction r with
 |nil=>exact .nil|@cons p q ps ha h t a6=>
  rw[ajP,ajP];refine .cons ?_ a6;obtain⟨ae,ah,bF⟩:=h;unfold putAt
  by_cases e:p.1=k
  .rw[if_pos e,if_pos (ae.symm.trans e)];exact⟨ae,ah,bC⟩
  .rw[if_neg e,if_neg (λz=>e (ae.trans z))];exact⟨ae,ah,bF⟩
def KT.put{H:aw}(r:KT H ak xs)(k:List Key)(af:H b=some (.tup (k.map cI)))(bC:RelV y u) :
  KT H (putK ak k y) (storedH xs k b u):=by
 have e:(ak.any λkv=>decide (kv.1=k))=(atKey xs k).isSome:=by
  rw[Pz,(r.val k).YV,Option.isSome_map]
 unfold putK storedH;rw[e]
 by_cases q:(atKey xs k).isSome=true
 .rw[if_pos q,if_pos q];exact r.EZ k bC
 .rw[if_neg q,if_neg q];exact Paired.snoc r ⟨rfl,af,bC⟩
def KT.keeps{H H':aw}(r:KT H ak xs)(bO:∀b ys,H b=some (.tup ys)->H' b=some (.tup ys)):KT H' ak xs:=
 amT.D1 r λ_ _ z=>⟨z.1,bO _ _ z.2.1,z.2.2⟩
section
variable{P:ajY}{w:World}{H:aw}{h:Heap}{a:Addr}
def M9(ok:fs P w H h)(e:gc H a u):gU P w H h a u:=e.ok ok
def uI{ak:List (Key×V)}(ok:fs P w H h)(e:gc H a (.fy ak)):ak.length<=ajL/\(a==alm)=false/\∃vs,gk ak vs/\h.DictOf (ja P w) a vs:=
 show gU P w H h a (.fy ak)from M9 ok e
def IF{ak:List (Key×V)}(ok:fs P w H h)(e:H a=some (.fy ak)):ak.length<=ajL/\(a==alm)=false/\∃vs,gk ak vs/\h.DictOf (ja P w) a vs:=uI ok (.inl e)
def y'{bj:List Key}(ok:fs P w H h)(e:H a=some (.tup (bj.map cI))):(anx (ja P w)).is h bj a:=by
 obtain⟨_,its,r,o,ae,ah,n,bF⟩:=(show gU P w H h a (.tup (bj.map cI))from ok a _ e);exact⟨o,its.toArray,n,ae,ah,bF,by simpa using Kt r⟩
def uK{ak:List (List Key×V)}(ok:fs P w H h)(e:gc H a (.hF ak)):ak.length<=ajL/\(a==alm)=false/\
  ∃xs,KT H ak xs/\h.DictOfH (anx (ja P w)) a xs:=by
 obtain⟨z,y,xs,r,o,ay,cB,ae,ah,bF,dw,eO⟩:=(show gU P w H h a (.hF ak)from M9 ok e);refine⟨z,y,xs,r,o,ay,cB,ae,ah,bF,dw,λx ag=>?_,eO⟩;have all:∀{l:List (List Key×V)}{m:List (List Key×Addr×Value)},KT H l m->∀x∈m,(anx (ja P w)).is h x.1 x.2.1:=by
  intro l m q
  induction q with
  |nil=>intro x ag;exact nomatch ag
  |@cons p q ps ha a9 t a6=>
   intro x ag;rcases ajN.mp ag with e|ag
   .subst e
    exact y' ok (by rw[<-a9.1];exact a9.2.1)
   .exact a6 x ag
 exact all r x ag
def Vr{ak:List (List Key×V)}(ok:fs P w H h)(e:H a=some (.hF ak)):ak.length<=ajL/\(a==alm)=false/\
  ∃xs,KT H ak xs/\h.DictOfH (anx (ja P w)) a xs:=uK ok (.inl e)
end
def lq(H:aw)(a:Addr)(y:V)(r:Option V):Prop:=
 (∃ak k,gc H a (.fy ak)/\y=cI k/\r=j_ ak k)\/∃ak k b,gc H a (.hF ak)/\y=.ref b/\H b=some (.tup (k.map cI))/\r=j_ ak k
def pF(H:aw)(a:Addr)(y v:V)(H':aw):Prop:=
 (∃ak k,H a=some (.fy ak)/\y=cI k/\ak.length<ajL/\H'=upd H a (.fy (putK ak k v)))\/
 ∃ak k b,H a=some (.hF ak)/\y=.ref b/\H b=some (.tup (k.map cI))/\ak.length<ajL/\H'=upd H a (.hF (putK ak k v))
def lq.k{H:aw}{k:Key}(e:H a=some (.fy ak)):lq H a (cI k) (j_ ak k):=.inl ⟨ak,k,.inl e,rfl,rfl⟩
def lq.t{H:aw}{k:List Key}(e:H a=some (.hF ak))(dc:H b=some (.tup (k.map cI))):lq H a (.ref b) (j_ ak k):=.inr ⟨ak,k,b,.inl e,rfl,dc,rfl⟩
def pF.k{H:aw}{ak:List (Key×V)}{k:Key}{v:V}(e:H a=some (.fy ak))(au:ak.length<ajL):pF H a (cI k) v (upd H a (.fy (putK ak k v))):=.inl ⟨ak,k,e,rfl,au,rfl⟩
def pF.t{H:aw}{ak:List (List Key×V)}{k:List Key}{v:V}(e:H a=some (.hF ak))(dc:H b=some (.tup (k.map cI)))(au:ak.length<ajL) :
  pF H a (.ref b) v (upd H a (.hF (putK ak k v))):=.inr ⟨ak,k,b,e,rfl,dc,au,rfl⟩
section
variable{X:aT}{zn:c8}{Y:St}{H:aw}{s:ajH}{a:Addr}{y v:V}{u r:Value}{o:Option V}{A:aj4}{E:cN}
def Inv.big(J:Inv X zn Y H s):alm<s.heap.objs.size:=by
 have h:akf<s.heap.objs.size:=(J.mod.glob.keeps J.cP).lt;exact Nat.lt_trans (by decide) h
theorem UB{Q:cN}(cC:A.units+1<cLine)(J:Inv X zn Y H s)(g:lq H a y (some v))(bC:RelV y u)(h:∀eC aQ,Inv X zn Y H aQ->RelV v eC->Q eC aQ) :
  wpAny (model X.prog X.w) A (amN (.ref a) u) Q E s:=by
 rcases g with⟨ak,k,e,fz,l⟩|⟨ak,k,b,e,fz,dc,l⟩
 .subst fz
  obtain⟨z,hd,vs,rel,dd⟩:=uI J.bP e;obtain⟨eC,hw,jC⟩:=iJ.some_of (v:=v) (o:=an8 vs k) (by rw[l];exact rel.val k);exact wpAny_getItem_of (vw bC) dd.mapOf hw (h eC _ (J.tok _) jC)
 .subst fz
  cases(show u=aka b from bC);obtain⟨z,hd,xs,rel,dd⟩:=uK J.bP e;obtain⟨eC,hw,jC⟩:=iJ.some_of (v:=v) (o:=(atKey xs k).map (·.2)) (by rw[l];exact rel.val k);obtain⟨p,aK,Yv⟩:=amk.mp hw;refine wpAny_getItem_heap (anB cC) (y' J.bP dc) dd aK ?_;rw[Yv];exact h eC _ (J.tok _) jC
def BP{h':Heap}{t':Nat}(J:Inv X zn Y H s)(ku:uh (H a))(aE:am9 a s.heap h')(he:∃q,h'.get? a=some q)(new:gU X.prog X.w (upd H a bD) h' a bD) :
  Inv X zn Y (upd H a bD) { s with heap:=h',toks:=t' }:=
 J.write (x:=a) (e:=a) ku (.inl rfl) (λb q af z=>(aE.2 b af).trans z) he new
def IE{H':aw}{ak:List (Key×V)}(z:ak.length<=ajL)(hd:(a==alm)=false)(rel:gk ak vs)(dd:h'.DictOf (ja P w) a vs) :
  gU P w H' h' a (.fy ak):=⟨z,hd,vs,rel,dd⟩
def Va{Q:Unit->ajH->Prop}(cC:A.units+1<cLine)(J:Inv X zn Y H s)(g:pF H a y v H')(bC:RelV y u)(bR:RelV v r)(h:∀aQ,Inv X zn Y H' aQ->Q () aQ) :
  wpAny (model X.prog X.w) A (setItem (.ref a) u r) Q E s:=by
 rcases g with⟨ak,k,e,fz,l,B0⟩|⟨ak,k,b,e,fz,dc,l,B0⟩
 .subst fz B0
  obtain⟨z,hd,vs,rel,dd⟩:=IF J.bP e;have hz:vs.length<=ajL:=by rw[<-rel.length];exact z
  have au:(putK ak k v).length<=ajL:=by have:=DT ak k v;omega
  refine wpAny_setItem_pairs (hsz:=hz) (vw bC) dd λh' q4 aE=>h _ ?_
  have he:∃q,h'.get? a=some q:=let⟨q,_,_,a9,_⟩:=q4;⟨q,a9⟩
  exact BP J (by rw[e];exact ak4) aE he (IE au hd (rel.put k bR) q4)
 .subst fz B0
  cases(show u=aka b from bC);obtain⟨z,hd,xs,rel,dd⟩:=Vr J.bP e;have hz:xs.length<=ajL:=by rw[<-aoG rel];exact z
  have au:(putK ak k v).length<=ajL:=by have:=DT ak k v;omega
  refine wpAny_setItem_heap (hsz:=hz) (anB cC) (y' J.bP dc) dd λh' q4 aE=>h _ ?_
  obtain⟨q,ay,cB,a9,ah,bF,dw,_,eO⟩:=q4;refine BP J (by rw[e];exact ak4) aE ⟨q,a9⟩ ⟨au,hd,_,(rel.put k dc bR).keeps λc ys ml=>?_,q,ay,cB,a9,ah,bF,dw,eO⟩;rw[dm (D_ ml e (λz=>nomatch z))];exact ml
end
def uj(i:Expr):Prop:=∀ep qh,aou i false ep qh=operate [ep,qh] (amN ep qh)
def OV{prog:ajY}{w:World}{A:aj4}{E:cN}{s:ajH}{env:Env}{value slice:Expr}{pos:Pos}{T id:String}{Q:cN}
  (au:typeLookup (.type T) "__getitem__"=pure (some (.builtin id))) (aE:uj slice)
  (h:wpAny (model prog w) A (eval value env) (λo dD=>wpAny (model prog w) A (eval slice env) (λi mZ=>mZ.TypeIs o T/\wpAny (model prog w) A (amN o i) Q E mZ) E dD) E s) :
  wpAny (model prog w) A (eval (.Subscript value slice pos) env) Q E s:=by
 refine Subscript_ (akm h (λo dD k1=>akm k1 (λi mZ mJ=>?_) λ_ _ x=>x) λ_ _ x=>x);obtain⟨e1,mJ⟩:=mJ;unfold subscriptTail;refine ajD ?_;rw[getitemInPython_of_ne e1.not_modules];refine ajD (wpAny_specialOf e1 au ?_);have fin:wpAny (model prog w) A (aou slice false o i) (λr k8=>wpAny (model prog w) A (letTemporaryGo value o r >>= λ_=>pure r) Q E k8) E mZ:=by
  rw[aE o i];exact wpAny_operating (akm mJ (λr k8 oN=>ajD (wpAny_letTemporaryGo (ajI oN))) λ_ _ x=>x)
 first
  |exact ajI (ajD fin)
  |exact ajD (ajI (ajD fin))
  |exact ajD fin
def Vi(J:Inv X zn Y H s)(g:lq H a y o):s.TypeIs (.ref a) "dict":=by
 rcases g with⟨ak,k,e,_,_⟩|⟨ak,k,b,e,_,_,_⟩
 .obtain⟨_,_,vs,_,dd⟩:=uI J.bP e
  exact dd.typeIs
 .obtain⟨_,_,xs,_,dd⟩:=uK J.bP e
  exact dd.typeIs
def aeV(k9 ty:TE):TE:=λY H Q=>k9 Y H λx H1=>ty Y H1 λy aM=>∃a v,x=.ref a/\lq aM a y (some v)/\Q v aM
def ac2(k9 ty lb:TE):hl:=λD Y H=>lb Y H λv H1=>k9 Y H1 λx aM=>ty Y aM λy cZ=>∃a hU,x=.ref a/\pF cZ a y v hU/\D.bh Y hU
section
variable{X:aT}{o i value:Expr}{pos pos':Pos}{k9 ty lb:TE}
def abO(cC:X.A.units+1<cLine)(bf:bY X o k9)(aD:bY X i ty)(aE:uj i):bY X (.Subscript o i pos) (aeV k9 ty):=by
 intro zn s Y H Q J h;refine OV an0.lookup aE (bZ (bf zn s Y H _ J h) λu s1 ⟨x,H1,a_,a7,bz⟩=>bZ (aD zn s1 Y H1 _ a_ bz) λqh s2 ⟨y,aM,bX,bC,a,v,ex,g,cf⟩=>?_);subst ex;obtain rfl:u=aka a:=a7;exact⟨Vi bX g,UB cC bX g bC λeC s3 dN jC=>⟨v,aM,dN,jC,cf⟩⟩
def MO(cC:X.A.units+1<cLine)(bf:bY X o k9)(aD:bY X i ty)(bL:bY X value lb)(aE:ak8 value (some (.Subscript o i pos')) pos.line X.env=pure false) :
  iW X (.Assign [.Subscript o i pos'] value pos) (ac2 k9 ty lb):=by
 intro zn s Y H D J h;refine wpAny_Assign_Subscript (bZ (bL zn s Y H _ J h) λr s1 ⟨v,H1,a_,bR,bz⟩=>bZ (bf zn s1 Y H1 _ a_ bz) λu s2 ⟨x,aM,bX,a7,cf⟩=>bZ (aD zn s2 Y aM _ bX cf) λqh s3 ⟨y,cZ,dN,bC,a,hU,ex,g,h8⟩=>?_) aE;subst ex;obtain rfl:u=aka a:=a7;exact Va cC dN g bC bR λs4 jk=>⟨Y,hU,jk,h8⟩
end
def Vj(h:Heap)(af:alm<h.objs.size):gU P w H (h.push { cls:=.type "dict",data:=.dict #[] }) h.objs.size (.fy []):=
 ⟨aj5 _,beq_eq_false_iff_ne.mpr (amA (aj1 af)),[],.nil,Heap.DictOf.new h⟩
def Vq(h:Heap)(af:alm<h.objs.size):gU P w H (h.push { cls:=.type "dict",data:=.dict #[] }) h.objs.size (.hF []):=
 ⟨aj5 _,beq_eq_false_iff_ne.mpr (amA (aj1 af)),[],.nil,_,#[],0,ajS _ rfl,⟨rfl,rfl,rfl⟩,rfl,rfl,amr⟩
def aeX:TE:=λ_ H Q=>∀p,H p=none->Q (.ref p) (upd H p (.hF []))
section
variable{X:aT}{pos:Pos}
def abR:bY X (.Dict [] [] pos) aeX:=λzn s Y H Q J h=>
 wpAny_Dict_empty ⟨.ref s.heap.objs.size,_,J.laid (a:=s.heap.objs.size) (o:=.hF []) (t':=s.toks) (λ_ _ q=>ajF _ q) (ajK _) (Vq s.heap J.big),rfl,h _ (J.bP.fresh (ajK _))⟩
end
def w7:List (TE×TE)->St->aw->(List (V×V)->aw->Prop)->Prop
 |[],_,H,Q=>Q [] H|(tk,lb)::r,Y,H,Q=>tk Y H λx H1=>lb Y H1 λy aM=>w7 r Y aM λps cZ=>Q ((x,y)::ps) cZ
abbrev Gf:List (V×V)->List (Value×Value)->Prop:=amT λp q=>RelV p.1 q.1/\RelV p.2 q.2
def um(X:aT)(pos:Pos)(keys:List (Option Expr))(values:List Expr)(kG:List (TE×TE)):Prop:=
 ∀(zn:c8)(s:ajH)(Y:St)(H:aw)(Q:List (V×V)->aw->Prop),Inv X zn Y H s->w7 kG Y H Q->
  wpAny (model X.prog X.w) X.A (evalPairs (pairTrees keys values X.env pos)) (λvs aQ=>∃ps H',Inv X zn Y H' aQ/\Gf ps vs/\Q ps H') X.d2 s
def acj:um X pos [] [] []:=λzn s Y H Q J h=>pairTrees_nil_walk ⟨[],H,J,.nil,h⟩
def aci{k v:Expr}(ax:bY X k tk)(bL:bY X v lb)(aB:um X pos bj vs kG) :
  um X pos (some k::bj) (v::vs) ((tk,lb)::kG):=λzn s Y H Q J h=>
 pairTrees_cons_walk (bZ (ax zn s Y H _ J h) λu s1 ⟨x,H1,a_,a7,bz⟩=>bZ (bL zn s1 Y H1 _ a_ bz) λjI s2 ⟨y,aM,bX,bC,cf⟩=>
  bZ (aB zn s2 Y aM _ bX cf) λws s3 ⟨ps,cZ,dN,rel,h8⟩=>⟨(x,y)::ps,cZ,dN,.cons ⟨a7,bC⟩ rel,h8⟩)
def qq(ak more:List (Key×V)):List (Key×V):=more.foldl (λacc kv=>putK acc kv.1 kv.2) ak
def gk.merge:∀{more:List (Key×V)}{rs:List (Key×Value)}{ak:List (Key×V)}{vs:List (Key×Value)},gk more rs->gk ak vs->gk (qq ak more) (merged vs rs):=by
 intro more rs ak vs r;unfold gk at r
 induction r generalizing ak vs with
 |nil=>intro q;exact q|@cons p q ps ha h t a6=>
  intro n4;have e:gk (putK ak p.1 p.2) (stored vs q.1 q.2):=by
   have:=n4.put p.1 h.2;rw[<-h.1];exact this
  exact a6 e
theorem Lm:∀(more ak:List (Key×V)),(qq ak more).length<=ak.length+more.length
 |[],ak=>by show ak.length<=ak.length+0;omega|p::r,ak=>by
  have ae:=Lm r (putK ak p.1 p.2);have ah:=DT ak p.1 p.2;show(qq (putK ak p.1 p.2) r).length<=_;rw[ajW];omega
theorem Ib:∀{ak:List (Key×V)}{ws:List (Value×Value)},Gf (ak.map λkv=>(cI kv.1,kv.2)) ws->∃rs,Carries (ja P w) ws rs/\gk ak rs
 |[],_,r=>by rw[aoc]at r;cases r;exact⟨[],ak4,.nil⟩
 |p::ak,_,r=>by
  rw[ajP]at r
  cases r with
  |@cons a b as bs h t=>
   obtain⟨rs,c,q⟩:=Ib (P:=P) (w:=w) t;obtain⟨b4,b5⟩:=b;exact⟨(p.1,b5)::rs,⟨vw h.1,rfl,c⟩,.cons ⟨rfl,h.2⟩ q⟩
def aeY(kG:List (TE×TE)):TE:=λY H Q=>∀p,H p=none->w7 kG Y (upd H p (.fy [])) λps aM=>aM p=some (.fy [])/\∃ak:List (Key×V),ps=ak.map (λkv=>(cI kv.1,kv.2))/\ak.length<=15/\Q (.ref p) (upd aM p (.fy (qq [] ak)))
def abQ{X:aT}{pos:Pos}{keys:List (Option Expr)}{values:List Expr}{kG:List (TE×TE)}(h:um X pos keys values kG)(hall:keys.all (·.isSome)=true)(au:keys.length=values.length)(h0:keys≠[])
  (CJ:keys.length<=15):bY X (.Dict keys values pos) (aeY kG):=by
 intro zn s Y H Q J q;have aH:=J.bP.fresh (ajK s.heap.objs.size);have a_:=J.laid (a:=s.heap.objs.size) (o:=.fy []) (h':=s.heap.push { cls:=.type "dict",data:=.dict #[] }) (t':=s.toks) (λ_ _ q=>ajF _ q) (ajK _) (Vj s.heap J.big);refine wpAny_Dict_walk (knd:=ja X.prog X.w) hall au h0 CJ (bZ (h zn _ Y _ _ a_ (q _ aH)) λws s2 ⟨ps,aM,bX,rel,e,ak,cB,lk,cf⟩=>?_);subst cB;obtain⟨rs,c,jB⟩:=Ib (P:=X.prog) (w:=X.w) rel;obtain⟨z,hd,ajx,n4,dd⟩:=IF bX.bP e;cases n4;refine⟨rs,c,dd,λh' q4 aE=>⟨.ref s.heap.objs.size,_,?_,rfl,cf⟩⟩;have hz:(qq [] ak).length<=ajL:=by
  have ae:=Lm ak [];rw[akH]at ae;rw[ake];omega
 have he:∃q,h'.get? s.heap.objs.size=some q:=let⟨q,_,_,a9,_⟩:=q4;⟨q,a9⟩
 exact BP bX (by rw[e];exact ak4) aE he (IE hz hd (jB.merge .nil) q4)
structure hB(X:aT)(o:Expr)(m:Str)(apos:Pos)(e:Expr)(dv:Pos):Prop where
 base:aln o m X.env (eval o X.env)=eval o X.env
 Ce:((aj9 dv (ajG [e] X.env)).all (λx=>!x.1)&&(alp dv (akU [] X.env)).all (λx=>x.1.isSome)
&&decide (([e]:List Expr).length+([]:List amO).length+(if([]:List amO).isEmpty then 0 else 1)<30))=true
 line:(apos.endLine==dv.line)=true
 trees:aj9 dv (ajG [e] X.env)=[(false,eval e X.env)]
structure M2(X:aT)(o:Expr)(m:Str)(apos:Pos)(e f:Expr)(dv:Pos):Prop where
 base:aln o m X.env (eval o X.env)=eval o X.env
 Ce:((aj9 dv (ajG [e,f] X.env)).all (λx=>!x.1)&&(alp dv (akU [] X.env)).all (λx=>x.1.isSome)
&&decide (([e,f]:List Expr).length+([]:List amO).length+(if([]:List amO).isEmpty then 0 else 1)<30))=true
 line:(apos.endLine==dv.line)=true
 trees:aj9 dv (ajG [e,f] X.env)=[(false,eval e X.env),(false,eval f X.env)]
def F_(H:aw)(a:Addr):Prop:=(∃ak,gc H a (.fy ak))\/∃ak,gc H a (.hF ak)
def YU(J:Inv X zn Y H s)(d:F_ H a) :
  s.TypeIs (.ref a) "dict"/\(∀b,aka a=.ref b->∃bD,s.heap.get? b=some bD/\bD.dict=none)/\(a==alm)=false:=by
 rcases d with⟨ak,e⟩|⟨ak,e⟩
 .obtain⟨_,hd,vs,_,dd⟩:=uI J.bP e
  refine⟨dd.typeIs,λb q=>?_,hd⟩;cases q;obtain⟨bD,_,_,ae,ah,_⟩:=dd;exact⟨bD,ae,ah.2.1⟩
 .obtain⟨_,hd,xs,_,dd⟩:=uK J.bP e
  refine⟨dd.typeIs,λb q=>?_,hd⟩;cases q;obtain⟨bD,_,_,ae,ah,_⟩:=dd;exact⟨bD,ae,ah.2.1⟩
section
variable{X:aT}{zn:c8}{Y:St}{H:aw}{s:ajH}{a:Addr}{y d:V}{u r:Value}{o:Option V}{A:aj4}{E:cN}
def UA{Q:cN}(cC:A.units+1<cLine)(J:Inv X zn Y H s)(g:lq H a y o)(bC:RelV y u)(a4:RelV d r)(h:∀eC aQ,Inv X zn Y H aQ->RelV (o.getD d) eC->Q eC aQ) :
  wpAny (model X.prog X.w) A (call (.builtin "dict.get") [.ref a,u,r]) Q E s:=by
 rcases g with⟨ak,k,e,fz,l⟩|⟨ak,k,b,e,fz,dc,l⟩
 .subst fz
  obtain⟨z,hd,vs,rel,dd⟩:=uI J.bP e;refine call_meetsIn alK dd.typeIs amU (aoj _ _ _) (meets_dict_get_default (ja X.prog X.w) a (vw bC) hd r) ⟨_,dd.mapOf,h _ _ (J.tok _) ?_⟩;rw[l];exact(rel.val k).getD a4
 .subst fz
  cases(show u=aka b from bC);obtain⟨z,hd,xs,rel,dd⟩:=uK J.bP e;refine call_meetsIn alK dd.typeIs amU (aoj _ _ _) (meetsH_dict_get_default (anx (ja X.prog X.w)) a b hd r) ⟨anB cC,k,xs,y' J.bP dc,dd,h _ _ (J.tok _) ?_⟩;rw[l];exact(rel.val k).getD a4
end
def aeW(k9 ty cV:TE):TE:=λY H Q=>k9 Y H λx H1=>∃a,x=.ref a/\F_ H1 a/\ty Y H1 λy aM=>cV Y aM λz cZ=>∃o,lq cZ a y o/\Q (o.getD z) cZ
section
variable{X:aT}{o e f:Expr}{apos dv:Pos}{k9 ty cV:TE}
def abP(cC:X.A.units+1<cLine)(bf:bY X o k9)(he:bY X e ty)(hf:bY X f cV)(m:M2 X o "get" apos e f dv):bY X (.Call (.Attribute o "get" apos) [e,f] [] dv) (aeW k9 ty cV):=by
 intro zn s Y H Q J h;refine wpAny_Call_method m.base m.Ce m.line aok alK aoz (bZ (bf zn s Y H _ J h) λu s1 ⟨x,H1,a_,a7,a,ex,d,bz⟩=>?_);subst ex;obtain rfl:u=aka a:=a7;obtain⟨t1,d6,_⟩:=YU a_ d;refine⟨t1,d6,?_⟩;rw[m.trees];refine amj rfl (anc (amH (bZ (he zn s1 Y H1 _ a_ bz) λqh s2 ⟨y,aM,bX,bC,cf⟩=>
  amH (bZ (hf zn s2 Y aM _ bX cf) λjZ s3 ⟨z,cZ,dN,j9,ep,g,h8⟩=>anS ?_))))
 exact UA cC dN g bC j9 λeC s4 jk jC=>⟨_,cZ,jk,jC,h8⟩
end
class a8 where
 hh:Addr->Prop
 tP:Addr->Str
def o2:gT->Prop
 |.gw _=>False|_=>True
def qZ(c:Addr)(q:Str):Heap->Prop:=λh=>h.CodeRec (.ref c) q
def Qo[a8](H:aw)(P:Addr):Prop:=∃ps:Array Value,H P=some (.gw ps)/\aoq ps.toList/\∀pos iL,am5 pos ps.toList=some iL->∃c,iL=.ref c/\H c=some (.ext (qZ c (a8.tP P)))
def TabsOk[a8](H:aw):Prop:=∀P,a8.hh P->Qo H P
structure eN[a8](H H':aw):Prop where
 at':∀b o,H b=some o->(h:o2 o:=by exact trivial)->H' b=some o
 c6:∀b ps,H b=some (.gw ps)->∃iT,H' b=some (.gw iT)
 bV:TabsOk H->TabsOk H'
variable[a8]
def aat(o:gT):o2 o\/∃ps,o=.gw ps:=by cases o<;>first|exact .inl trivial|exact .inr ⟨_,rfl⟩
def eN.refl(H:aw):eN H H:=⟨λ_ _ h _=>h,λ_ ps h=>⟨ps,h⟩,id⟩
def eN.trans(a:eN H H1)(b:eN H1 aM):eN H aM:=
 ⟨λc o h n=>b.at' c o (a.at' c o h n) n,λc ps h=>let⟨p1,ao⟩:=a.c6 c ps h;b.c6 c p1 ao,λg=>b.bV (a.bV g)⟩
def eN.some{H H':aw}(s:eN H H')(h:H b≠none):H' b≠none:=by
 cases e:H b with
 |none=>exact absurd e h|some o=>
  rcases aat o with n|⟨ps,rfl⟩
  .rw[s.at' b o e n];intro z;cases z
  .obtain⟨p,q⟩:=s.c6 b ps e;rw[q];intro z;cases z
def eN.free{H H':aw}(e:eN H H')(h:H' l=Option.none):H l=Option.none:=by
 cases q:H l with
 |none=>rfl| some o=>exact absurd h (e.some (by rw[q];intro z;cases z))
def eN.seq{K:aS}{H H':aw}{a:Addr}{xs:List V}(e:eN H H')(h:dx K H a xs):dx K H' a xs:=by
 rcases h with(h|⟨o,h⟩)|h
 .exact .inl (.inl (e.at' _ _ h))
 .exact .inl (.inr ⟨o,e.at' _ _ h⟩)
 .exact .inr h
def TabsOk.put{H:aw}(g:TabsOk H)(o:gT)(ae:∀ps,H p≠some (.gw ps))(ah:∀q,H p≠some (.ext (qZ p q))):TabsOk (upd H p o):=λP ez=>by
 obtain⟨ps,e,t,c⟩:=g P ez;refine⟨ps,by rw[dm (by rintro rfl;exact ae _ e)];exact e,t,λpos iL aI=>?_⟩;obtain⟨c',ao,az⟩:=c pos iL aI;exact⟨c',ao,by rw[dm (by rintro rfl;exact ah _ az)];exact az⟩
def TabsOk.new{H:aw}(g:TabsOk H)(h:H p=none)(o:gT):TabsOk (upd H p o):=g.put o (λps=>by rw[h];intro z;cases z) (λqN=>by rw[h];intro z;cases z)
def TabsOk.lst{H:aw}{p:Addr}{zs:List V}(g:TabsOk H)(h:H p=some (.lst zs))(o:gT):TabsOk (upd H p o):=g.put o (λps=>by rw[h];intro z;cases z) (λqN=>by rw[h];intro z;cases z)
def rV{H:aw}(h:H p=none)(o:gT):eN H (upd H p o):=
 ⟨λb u q _=>by rw[dm (kx q h)];exact q,λb ps q=>⟨ps,by rw[dm (kx q h)];exact q⟩,λg=>g.new h o⟩
def pq{H1 H:aw}{D:Addr}(kX:H1 D=none)(s:eN H1 H)(au:H D=some (.lst zs))(o:gT):eN H1 (upd H D o):=
 ⟨λb u q n=>by rw[dm (kx q kX)];exact s.at' b u q n,λb ps q=>by rw[dm (kx q kX)];exact s.c6 b ps q,λg=>(s.bV g).lst au o⟩
end aF
namespace aF
open PySem
def ox(env:Env):List (Str×ami)->List (Str×Addr)->List (Str×Addr)
 |[],acc=>acc|(n,k)::r,acc=>if(k==amy)=true then ox env r ((n,(env.cells.lookup n).getD 0)::acc)else ox env r acc
abbrev nt(scope:Scope)(env:Env):List (Str×Addr):=ox env scope.names []
def Il{scope:Scope}{env:Env}(h:∀y∈scope.names,y.2=.free->∃c,env.cells.lookup y.1=some c):ama scope env=pure (nt scope env):=by
 unfold ama nt;generalize scope.names=ns at h;generalize([]:List (Str×Addr))=acc;show(forIn ns acc _ >>= _)=_
 induction ns generalizing acc with
 |nil=>rfl|cons y r a6=>
  obtain⟨n,k⟩:=y;rw[aor];have Kh:=λacc=>a6 (λy bg=>h y (ajM _ bg)) acc
  by_cases ax:(k==amy)=true
  .have oL:k=.free:=by simpa using ax
   obtain⟨c,aI⟩:=h (n,k) ajR oL;have ao:cellOf env n=pure c:=by unfold cellOf;rw[aI]
   simp only[ax,if_true,ao,pure_bind,ox,aI,Option.getD_some];exact Kh _
  .simp only[ax,ox]
   exact Kh _
theorem BI{env:Env}:∀{ns:List (Str×ami)}{acc:List (Str×Addr)}{p:Str×Addr},p∈ox env ns acc->p∈acc\/∃k,(p.1,k)∈ns/\k=amy/\p.2=(env.cells.lookup p.1).getD 0
 |[],_,_,h=>.inl h|(n,k)::r,acc,p,h=>by
  unfold ox at h;split at h
  .rename_i ax
   rcases BI h with h|⟨mL,a,b⟩
   .rcases ajN.mp h with rfl|h
    .exact .inr ⟨k,ajR,by simpa using ax,rfl⟩
    .exact .inl h
   .exact .inr ⟨mL,ajM _ a,b⟩
  .rcases BI h with h|⟨mL,a,b⟩
   .exact .inl h
   .exact .inr ⟨mL,ajM _ a,b⟩
theorem BH:∀{ns:List (Str×ami)}{acc:List (Str×Addr)}{y:Str},((y,amy)∈ns\/∃c,(y,c)∈acc)->∃c,(y,c)∈ox env ns acc
 |[],_,_,h=>by
  rcases h with h|h
  .cases h
  .exact h
 |(n,k)::r,acc,y,h=>by
  unfold ox;split
  .refine BH ?_
   rcases h with h|⟨c,h⟩
   .rcases ajN.mp h with e|h
    .cases e;exact .inr ⟨_,ajR⟩
    .exact .inl h
   .exact .inr ⟨c,ajM _ h⟩
  .rename_i ax
   refine BH ?_;rcases h with h|h
   .rcases ajN.mp h with e|h
    .cases e;exact absurd rfl ax
    .exact .inl h
   .exact .inr h
theorem Ls{α:Type}{y:Str}{c:α}:∀{l:List (Str×α)},(y,c)∈l->∃c',l.lookup y=some c'
 |(n,k)::r,h=>by
  by_cases e:(y==n)=true
  .exact⟨k,by rw[aku,e]⟩
  .have cF:(y==n)=false:=by simpa using e
   rcases ajN.mp h with z|z
   .cases z;simp at e
   .obtain⟨c',q⟩:=Ls z
    exact⟨c',by rw[aku,cF];exact q⟩
def TM{scope:Scope}{env:Env}(h:∀y∈scope.names,y.2=.free->∃c,env.cells.lookup y.1=some c)(e:(nt scope env).lookup y=some c):env.cells.lookup y=some c:=by
 rcases BI (ak9 e)with z|⟨k,a,b,d⟩
 .cases z
 .obtain⟨c',q⟩:=h _ a b
  have d':c=(env.cells.lookup y).getD 0:=d;have hM:env.cells.lookup y=some c':=q;rw[hM]at d' ⊢;exact congrArg some d'.symm
def Ij{scope:Scope}(h:scope.names.lookup y=some .free):∃c,(nt scope env).lookup y=some c:=by
 obtain⟨c,q⟩:=BH (env:=env) (acc:=[]) (.inl (ak9 h));exact Ls q
theorem LX{g:Str×ami->Str×ami}{y:Str}(ae:∀p,(g p).1=p.1)(ah:∀p,p.2≠.cell->(g p).2=.cell\/(g p).2=.free->p.2=.free) :
  ∀{ns:List (Str×ami)},(∀z∈ns,z.2≠anP)->((ns.map g).lookup y=some .cell\/(ns.map g).lookup y=some .free)->ns.lookup y=some .free
 | [],_,h=>by simp at h|p::r,aI,h=>by
  rw[ajP]at h;have a6:=LX (g:=g) (y:=y) ae ah (ns:=r) λz hz=>aI z (ajM _ hz)
  have aay:=aI p ajR;have bz:=ae p;have cf:=ah p aay;generalize g p=q at h bz cf;obtain⟨zZ,zY⟩:=q;obtain⟨n,k⟩:=p;have bz:zZ=n:=bz;subst bz;have cf:zY=.cell\/zY=.free->k=.free:=cf;rw[aku]at h ⊢
  cases e:(y==zZ)with
  |true=>
   rw[e]at h;have h':some zY=some anP\/some zY=some amy:=h;exact congrArg some (cf (h'.imp akd akd))
  |false=>
   rw[e]at h;exact a6 h
def acS{scope:Scope}(aI:∀z∈scope.names,z.2≠anP)(h:(relabel scope env).names.lookup y=some .cell\/(relabel scope env).names.lookup y=some .free):scope.names.lookup y=some .free:=by
 refine LX (λp=>?_) (λp aK q=>?_) aI h
 .obtain⟨n,k⟩:=p
  dsimp only;split<;>rfl
 .obtain⟨n,k⟩:=p
  dsimp only at q aK ⊢;split at q
  .rename_i ax
   have:=(ako _ _▸(ako _ _▸ax).1).1;simpa using this
  .exact q.elim (λz=>absurd z aK) id
end aF
namespace aF
open PySem PySem.Spec PyProof.Rows
def cA(X:aT)(scope:Scope)(N:List Str)(C:Addr)(aN:List Addr)(s:ajH)(H:aw):aT where
 prog:=X.prog
 w:=X.w
 K:=X.K
 mg:=X.mg
 base:=X.base
 A:=X.A
 N:=N
 hg:=s
 H₀:=H
 env:=compEnvC scope (nt scope X.env) C X.env
 outer:=X.stack
 stack:=X.stack
 ex:=aN
 fn:=λ_=>false
 calm:=X.calm
 lV:=[]
 d2:=λ_ _=>False
structure lp(esc scope:Scope)(EN N:List Str)(n:Nat)(cap:List Nat):Prop where
 kind:scope.kind=.function
 cell:∀y∈scope.names,y.2≠.cell
 loc:∀y∈scope.names,y.2=.local->scope.names.lookup y.1=some .local
 free:∀y∈scope.names,y.2=.free->esc.names.lookup y.1=some .cell\/esc.names.lookup y.1=some .free
 dZ:N.Nodup
 len:N.length=n+cap.length
 TA:∀j<cap.length,N[n+j]? = EN[cap.getD j 0]?/\∀x,N[n+j]? = some x->scope.names.lookup x=some .free
def hE(n:Nat)(cap:List Nat)(Y:St):St:=akB n none++cap.map λk=>(Y[k]?).join
def TV{cap:List Nat}:(hE n cap Y).length=n+cap.length:=by
 unfold hE;rw[ajQ,akP,ajE]
def TU{cap:List Nat}{Y:St}{v:V}(h:(hE n cap Y)[i]? = some (some v)):∃j,i=n+j/\j<cap.length/\Y[cap.getD j 0]? = some (some v):=by
 unfold hE at h
 by_cases aD:i<n
 .rw[aj8 (by simpa using aD),aly,if_pos aD]at h
  cases h
 .rw[aj3 (by simpa using aD),akP,akc]at h
  cases e:cap[i-n]? with
  |none=>rw[e]at h;cases h
  |some k=>
   rw[e]at h;have au:i-n<cap.length:=(ajJ.mp e).1;refine⟨i-n,by omega,au,?_⟩;have h':(Y[k]?).join=some v:=akd h;rw[akg,e,Option.getD_some]
   cases q:Y[k]? with
   |none=>rw[q]at h';cases h'
   |some z=>rw[q]at h';exact congrArg some h'
section
variable{X:aT}{scope esc:Scope}{EN N:List Str}{n:Nat}{cap:List Nat}{zn:c8}{Y:St}{H:aw}{s:ajH}{aN:List Addr}
def YT{h':Heap}{tk:Nat}{m:bq}(S:lp esc scope EN N n cap)(he:X.env.scope=esc)(hN:X.N=EN)(J:Inv X zn Y H s)(hf:∀b∈aN,gJ X zn H b)(bf:∀b∈aN,∃o,s.heap.get? b=some o)
  (yP:h'.Ns s.heap.objs.size m) (k:∀b o,s.heap.get? b=some o->h'.get? b=some o) :
  Inv (cA X scope N s.heap.objs.size aN s H) [] (hE n cap Y) H { s with heap:=h',toks:=tk }:=by
 have yM:∀y∈scope.names,y.2=.free->∃c,X.env.cells.lookup y.1=some c:=λy bg ax=>by
  refine J.ok.has y.1 ?_;show X.env.scope.names.lookup y.1=_\/X.env.scope.names.lookup y.1=_;rw[he];exact S.free y bg ax
 have up:∀{y:Str}{c:Addr},(nt scope X.env).lookup y=some c->X.env.cells.lookup y=some c:=λ{y c} e=>TM yM e
 have Zx:∀y,(cA X scope N s.heap.objs.size aN s H).env.kindOf y=some .cell\/(cA X scope N s.heap.objs.size aN s H).env.kindOf y=some .free->scope.names.lookup y=some .free:=λy h=>acS S.cell h
 have cellK:∀c v,s.heap.IsCell c v->h'.IsCell c v:=λc v ⟨o,e,d⟩=>⟨o,k c o e,d⟩
 refine⟨⟨J.ok.mod,S.kind,J.ok.glob,J.ok.blt,ajK _,λx y c ae ah=>J.ok.inj x y c (up ae) (up ah),λy bg=>Ij (Zx y bg),λ_ _ z=>absurd z ajO,J.ok.hd,J.ok.frames,.inl rfl,λb af=>⟨?_,λx c e=>(hf b af).2.2.2.2.1 x c (up e)⟩,J.bs,akT J.ok.ma J.lY,λb o e af=>?_,λb af hz=>?_,J.stack,J.OS⟩,
  rfl,J.bare,gV.kept k,⟨m,yP,λi x v ao az cG=>?_⟩,λx c e=>?_,J.bP.fresh (ajK _),λx c e=>J.mr x c (up e),λp aK=>absurd (show p∈([]:c8)from aK) (by simp),J.bP.kept k,?_⟩
 .obtain⟨o,e⟩:=bf b af
  exact aj1 (ajV e)
 .rcases(hf b af).2.2.2.1 with z|z
  .exact J.ok.wd b o e z
  .exact absurd (akj (ajV e) (akT J.ok.ma z)) (akn _)
 .rcases ajN.mp (J.Fj b hz)with z|z
  .exact(hf b af).2.1 z
  .exact(hf b af).2.2.1 z
 .obtain⟨j,rfl,aZ,fg⟩:=TU az
  obtain⟨bQ,ab⟩:=S.TA j aZ;have ao:N[n+j]? = some x:=ao;have CY:=ab x ao;rw[ao,<-hN]at bQ;obtain⟨c,aI⟩:=Ij (env:=X.env) CY;obtain⟨m0,ai4,au⟩:=J.loc;have jw:X.env.scope.names.lookup x=some .cell\/X.env.scope.names.lookup x=some .free:=by
   rw[he];exact S.free (x,.free) (ak9 CY) rfl
  obtain⟨u,r,l⟩:=au _ x v bQ.symm fg (jw.elim (λz=>.inr (.inl z)) λz=>.inr (.inr z));refine⟨u,r,.inr ⟨?_,c,aI,?_⟩⟩
  .rcases cG with z|z|z
   .exfalso
    have lj:(relabel scope X.env).names.lookup x=some .local:=z;have hz:∀ns:List (Str×ami),ns.lookup x=some .free->(ns.map λ(n,k)=>if(k==amy&&X.env.scope.kind==.function&&X.env.kindOf n==some .cell)then(n,anP)else(n,k)).lookup x≠some .local:=by
     intro ns
     induction ns with
     |nil=>intro h;simp at h|cons p r a6=>
      obtain⟨lV,tO⟩:=p;intro h;rw[ajP];rw[aku]at h
      cases q:(x==lV)with
      |true=>
       rw[q]at h;have h':tO=.free:=akd h;subst h';dsimp only;split
       .rw[aku,q];intro w;cases w
       .rw[aku,q];intro w;cases w
      |false=>
       rw[q]at h;dsimp only;split
       .rw[aku,q];exact a6 h
       .rw[aku,q];exact a6 h
    exact hz _ CY lj
   .exact .inl z
   .exact .inr z
  .rcases l with⟨q,_⟩|⟨_,c',lG,z⟩
   .exfalso
    have hM:X.env.scope.names.lookup x=some .local:=q;rcases jw with w|w<;>rw[w]at hM<;>cases hM
   .rw[up aI]at lG
    cases lG;exact cellK c _ z
 .obtain⟨v,z⟩:=J.cell x c (up e)
  exact⟨v,cellK c v z⟩
 .show(hE n cap Y).length=N.length
  rw[TV,S.len]
def YS{N:List Str}(J:Inv X zn Y H s)(hf:∀b∈aN,gJ X zn H b)(cm:Inv (cA X scope N C aN s H) ajn Y' H' aQ):Inv X zn Y H' aQ:=
 J.Ti cm.os cm.base cm.bP cm.bare λb af=>⟨(hf b af).2.2.2.1,(hf b af).2.1,(hf b af).2.2.2.2.1,(hf b af).2.2.2.2.2⟩
end
section
variable{X:aT}
def sm(X:aT)(ifs:List Expr)(t:TT):Prop:=
 ∀(zn:c8)(s:ajH)(Y:St)(H:aw)(Q:Bool->aw->Prop),Inv X zn Y H s->t Y H Q->
  wpAny (model X.prog X.w) X.A (forIn ifs true λc r=>if r=true then do let ok <-isTrue c X.env (eval c X.env);pure (ane ok)else pure (ane r)) (A1 X zn Y Q) X.d2 s
def afe:TT:=λ_ H Q=>Q true H
def ab6:sm X [] afe:=λ_ _ _ H _ J h=>wpAny_tests_nil ⟨H,J,h⟩
def ab7{t:TT}(h:iY X c t):sm X [c] t:=λzn s Y H Q J a9=>wpAny_tests_one (h zn s Y H Q J a9)
end
section
variable{prog:ajY}{w:World}{A:aj4}{R:Result->ajH->Prop}{s:ajH}
def TP{elt target iter:Expr}{ifs:List Expr}{scope:Scope}{pos:Pos}{it acc:Value}{env:Env}(J:Nat->ajH->Prop)
  (turn:∀n s,J n s->wpAny (model prog w) A (al8 it) (λr dD=>match r with
   |none=>R (.ok .next) dD| some v=>wpAny (model prog w) A (ana target it v) (λ_ OX=>wpAny (model prog w) A (al7 target env v) (λ_ mZ=>
     wpAny (model prog w) A (forIn ifs true λc r=>if r=true then do let ok <-isTrue c env (eval c env);pure (ane ok)else pure (ane r)) (λok k8=>
      if ok=true then wpAny (model prog w) A (eval elt env) (λx z_=>
       wpAny (model prog w) A (call (.builtin "list.append") [acc,x]) (λ_ OY=>∃m,m<n/\J m OY) (λ_ _=>False) z_) (λ_ _=>False) k8
      else ∃m,m<n/\J m k8) (λ_ _=>False) mZ) (λ_ _=>False) OX) (λ_ _=>False) dD) (λ_ _=>False) s)
  (n:Nat) (h:J n s) :
  amn (model prog w) A (.compLoop (.ListComp elt [⟨target,iter,ifs,0⟩] scope pos) 0 it acc env) R s:=by
 refine codeAny_loop rfl J (λn s nG=>?_) n h;show wpAny _ A ((compTurn (.ListComp elt [⟨target,iter,ifs,0⟩] scope pos) 0 it acc env).onRaise (λx=>do noteFrame x env;theTreesLotGoes x)) _ _ s;refine wpAny_noted ?_;rw[compTurn_list];refine ajD (anQ (ajD (akm (turn n s nG) (λr dD k1=>?_) λ_ _ h'=>h'.elim)))
 cases r with
 |none=>exact ajI k1|some v=>
  refine ajD (akm k1 (λ_ OX YF=>?_) λ_ _ h'=>h'.elim);refine ajD (akm YF (λ_ mZ mJ=>ajD (akm mJ (λok k8 oN=>?_) λ_ _ h'=>h'.elim)) λ_ _ h'=>h'.elim)
  cases ok with
  |false=>exact ajI ⟨rfl,oN⟩|true=>
   exact ajD (ajD (akm oN (λx z_ vo=>ajD (akm vo (λ_ OY iO=>ajI (ajI ⟨rfl,iO⟩)) λ_ _ h'=>h'.elim)) λ_ _ h'=>h'.elim))
end
def m'(Y dX:St):Prop:=Y.length=dX.length/\∀(i:Nat) v,Y[i]? = some (some v)->dX[i]? = some (some v)
def m'.refl(Y:St):m' Y Y:=⟨rfl,λ_ _ h=>h⟩
def m'.set{Y dX:St}(h:m' Y dX)(aH:Y[i]? = some none):m' Y (dX.set i (some x)):=by
 refine⟨by rw[akI];exact h.1,λj v e=>?_⟩
 by_cases aZ:i=j
 .subst aZ;rw[aH]at e;cases e
 .rw[ajX aZ];exact h.2 j v e
def BM(cm:iI)(Y':St)(g:jo)(tt:TT)(te:TE)(D:Addr)(H1:aw)(Q:df):Prop:=
  ∃W:Nat->Nat->List V->aw->Prop,(∃m,W 0 m [] (upd H1 D (.lst [])))/\∀i m ys H,W i m ys H->
   ((cm.stop i H/\Q (.ref D) H)\/(cm.go i H/\∀x H',cm.pB i H x H'->g x Y' H' λdX aM=>m' Y' dX/\tt dX aM λb cZ=>
       if b=true then te dX cZ λy hU=>hU D=some (.lst ys)/\ys.length<ajL/\∃eQ,eQ<m/\W (i+1) eQ (ys++[y]) (upd hU D (.lst (ys++[y])))else ∃eQ,eQ<m/\W (i+1) eQ ys cZ))
def tX(n:Nat)(cap:List Nat)(wi:TI)(g:jo)(tt:TT)(te:TE):TE:=λY H Q=>wi Y H λcm H1=>∀D,H1 D=none->BM cm (hE n cap Y) g tt te D H1 Q
section
variable{X:aT}{scope esc:Scope}{EN N:List Str}{n:Nat}{cap:List Nat}{zn:c8}{Y:St}{s:ajH}{elt cj iter:Expr}{ifs:List Expr}{pos:Pos}{g:jo}{tt:TT}{te:TE}
def Ir{E:cN}{H:aw}{cm:iI}{aN:List Addr}{it:Addr}{fY:Nat->Heap->Prop}{Q:df}{xE:Value->Addr->Result->ajH->Prop}(S:lp esc scope EN N n cap)(he:X.env.scope=esc)(hN:X.N=EN)(aI:X.calm=true)
  (aU:∀C aN s H,pM (cA X scope N C aN s H) cj g) (bO:∀C aN s H,sm (cA X scope N C aN s H) ifs tt) (iu:∀C aN s H,bY (cA X scope N C aN s H) elt te)
  (J:Inv X zn Y H s) (T:Turn X.prog X.w X.K cj cm aN it fY) (st:fY 0 s.heap) (hf:∀b∈aN,gJ X zn H b) (a9:∀D,H D=none->BM cm (hE n cap Y) g tt te D H Q)
  (Wv:∀D C H' aQ m,Inv X zn Y H' aQ->gJ X zn H' C->aQ.heap.Ns C m->Q (.ref D) H'->xE (.ref D) C (.ok .next) aQ) :
  wpAny (model X.prog X.w) X.A (newList []) (λacc k8=>wpAny (model X.prog X.w) X.A (newFunctionEnv scope X.env.globals (nt scope X.env) [] X.env.qual none .none (some X.env)) (λIh z_=>
   amn (model X.prog X.w) X.A (.compStart (.ListComp elt [⟨cj,iter,ifs,0⟩] scope pos) 0 (.ref it) acc { Ih with scope:=relabel scope X.env }) (xE acc Ih.locals) z_) E k8) E s:=by
 refine alw (wpAny_newFunctionEnv S.cell (by intro y bg;simp at bg) (λk1 C4 Dd=>?_) S.kind);have dN:=J.Lr (t':=s.toks) (ys:=[]) (its:=[]) .nil (aj5 _);have kX:H s.heap.objs.size=none:=J.fresh;obtain⟨W,⟨m0,r7⟩,turn⟩:=a9 _ kX;generalize Dc:({ s with heap:=s.heap.push { cls:=.type "list",data:=.seq ([]:List Value).toArray },toks:=s.toks }:ajH)=s3 at dN;have y4:∀b o,s.heap.get? b=some o->s3.heap.get? b=some o:=λb o e=>by rw[<-Dc];exact ajF _ e
 have ai6:({ s with heap:=s.heap.push { cls:=.type "list",data:=.seq ([]:List Value).toArray } }:ajH)=s3:=Dc;have dK:s.heap.push { cls:=.type "list",data:=.seq ([]:List Value).toArray }=s3.heap:=by rw[<-Dc]
 dsimp only at C4 Dd ⊢
 try rw[dK]at C4
 try rw[dK]at Dd
 have CW:∀b∈aN,gJ X zn (upd H s.heap.objs.size (.lst [])) b:=λb af=>by
  refine⟨?_,(hf b af).2⟩;obtain⟨o,e,_⟩:=T.obj _ _ st b af;rw[dm (aj1 (ajV e))];exact(hf b af).1
 have KA:∀b o,s3.heap.get? b=some o->k1.get? b=some o:=λb o e=>Dd.extBut b o (aj1 (ajV e)) (ajF _ e)
 have bD:∀b∈aN,∃o,s3.heap.get? b=some o:=λb af=>by
  obtain⟨o,e,_⟩:=T.obj _ _ st b af;exact⟨o,y4 b o e⟩
 have jk:=YT (tk:=s3.toks) S he hN dN CW bD C4 KA;have z8:fY 0 k1:=T.keep _ _ _ st λb _ o e=>KA b o (y4 b o e)
 have Wo:s3.heap.objs.size<=s3.heap.objs.size:=ajK _;have loop:∀k8:ajH,k8.heap=k1->Inv (cA X scope N s3.heap.objs.size aN s3 (upd H s.heap.objs.size (.lst []))) [] (hE n cap Y) (upd H s.heap.objs.size (.lst [])) k8->
   amn (model X.prog X.w) X.A (.compLoop (.ListComp elt [⟨cj,iter,ifs,0⟩] scope pos) 0 (.ref it) (.ref s.heap.objs.size) (compEnvC scope (nt scope X.env) s3.heap.objs.size X.env)) (xE (.ref s.heap.objs.size) s3.heap.objs.size) k8:=by
  intro k8 VG xw;have rY:∀{H':aw},(∀b∈aN,H' b=none)->∀b∈aN,gJ (cA X scope N s3.heap.objs.size aN s3 (upd H s.heap.objs.size (.lst []))) [] H' b:=λ{H'} aH b af=>
   ⟨aH b af,(xw.ok.yl b af).1,xw.ok.uO b af,.inl af,(xw.ok.yl b af).2,λp aK=>absurd (show p∈([]:c8)from aK) (by simp)⟩
  refine TP (λk aQ=>∃i ys H',Inv (cA X scope N s3.heap.objs.size aN s3 (upd H s.heap.objs.size (.lst []))) [] (hE n cap Y) H' aQ/\fY i aQ.heap/\(∀b∈aN,H' b=none)/\W i k ys H') ?_ m0
   ⟨0,[],_,xw,by rw[VG];exact z8,λb af=>(CW b af).1,r7⟩
  rintro k s5 ⟨i,ys,lx,sh,qA,yu,fi⟩;rcases turn i k ys lx fi with⟨stop,q⟩|⟨go,step⟩
  .refine bZ (T.done (cA X scope N s3.heap.objs.size aN s3 (upd H s.heap.objs.size (.lst []))) rfl rfl rfl aI i [] s5 _ lx _ sh (rY yu) qA stop) λr fK ⟨aB,uf⟩=>?_
   subst aB;obtain⟨m,aH,_⟩:=uf.loc;exact Wv _ _ lx fK m (YS dN CW uf) (dN.p5 Wo uf.free) aH q
  .refine bZ (T.item (cA X scope N s3.heap.objs.size aN s3 (upd H s.heap.objs.size (.lst []))) rfl rfl rfl aI i [] s5 _ lx (λ_ _=>False) sh (rY yu) qA go) λr fK ⟨u,aB,fZ⟩=>?_
   subst aB;refine bZ fZ λ_ eh ⟨x,ka,kL,wM,agQ,Ff,VU⟩=>?_
   have Qe:=kL.pinned (rY VU) (T.obj _ _ Ff);refine bZ (aU _ _ _ _ _ eh _ ka x u _ Qe wM (step x ka agQ)) λ_ fA ⟨AK,P_,Qf,yo,acD⟩=>?_
   refine bZ (bO _ _ _ _ _ fA AK P_ _ Qf acD) λb jD ⟨F7,F9,MY⟩=>?_
   have back:∀{H':aw}{aQ:ajH},Inv (cA X scope N s3.heap.objs.size aN s3 (upd H s.heap.objs.size (.lst []))) ([]++rP aN eh.heap) AK H' aQ->
     Inv (cA X scope N s3.heap.objs.size aN s3 (upd H s.heap.objs.size (.lst []))) [] (hE n cap Y) H' aQ/\fY (i+1) aQ.heap/\∀b∈aN,H' b=none:=λ{H' aQ} ih=>by
    refine⟨ih.xa.weak yo.1 yo.2,T.keep _ _ _ Ff λb af o e=>(ih.pin (b,o) (aky _ (aky _ (zz af e)))).1,λb af=>?_⟩;obtain⟨o,e,d⟩:=T.obj _ _ Ff b af;exact(ih.pin (b,o) (aky _ (aky _ (zz af e)))).2.1
   cases b with
   |false=>
    obtain⟨eQ,hm,eC⟩:=MY;obtain⟨b4,b5,gX⟩:=back F9;exact⟨eQ,hm,i+1,ys,F7,b4,b5,gX,eC⟩
   |true=>
    refine bZ (iu _ _ _ _ _ jD AK F7 _ F9 MY) λv ht ⟨y,F6,Qb,acM,Wr,hz,eQ,hm,eC⟩=>?_
    refine bZ (v5 _ ht AK F6 (.ref s.heap.objs.size) [y] (.ref s.heap.objs.size) [v] (λz H'=>z=.aG/\H'=upd F6 s.heap.objs.size (.lst (ys++[y]))) Qb rfl (.cons acM .nil) ⟨_,ys,y,rfl,rfl,Wr,hz,rfl,rfl⟩) λz mV ⟨ajB,ahP,Qc,_,_,sF⟩=>?_
    subst sF;obtain⟨b4,b5,gX⟩:=back Qc;exact⟨eQ,hm,i+1,ys++[y],_,b4,b5,gX,eC⟩
 have F8:Inv (cA X scope N s3.heap.objs.size aN s3 (upd H s.heap.objs.size (.lst []))) [] (hE n cap Y) (upd H s.heap.objs.size (.lst [])) { heap:=k1,gens:=s3.gens,drawn:=s3.drawn,toks:=s3.toks+([]:List (Str×Value)).length,os:=s3.os }:=jk;exact codeAny_compStart_list (loop _ rfl F8) (T.self _ 0 _ _ _ z8 (loop _ rfl F8))
theorem Ey(S:lp esc scope EN N n cap){wi:TI}(aD:kN X cj iter wi)(aU:∀C aN s H,pM (cA X scope N C aN s H) cj g)(bO:∀C aN s H,sm (cA X scope N C aN s H) ifs tt)(iu:∀C aN s H,bY (cA X scope N C aN s H) elt te)
  (he:X.env.scope=esc:=by rfl) (hN:X.N=EN:=by rfl) (aI:X.calm=true:=by rfl) (aE:∀x,akv iter X.env x=pure x:=by intro _;rfl):bY X (.ListComp elt [⟨cj,iter,ifs,0⟩] scope pos) (tX n cap wi g tt te):=by
 intro zn s Y H Q J h;rw[eval_ListComp];have CR:ama scope X.env=pure (nt scope X.env):=Il λy bg ax=>J.ok.has y.1 (by
  show X.env.scope.names.lookup y.1=_\/X.env.scope.names.lookup y.1=_;rw[he];exact S.free y bg ax)
 refine wpAny_comprehension_free (use:=none) rfl aE CR S.kind S.loc (bZ (aD zn s Y H _ J h) λv s1 ae=>bZ ae λy3 s2 ah=>?_);obtain⟨it,aN,fY,cm,aM,e,bX,T,cU,f2,a9⟩:=ah;subst e;refine Ir S he hN aI aU bO iu bX T cU f2 a9 λD C H' aQ m ih kT aH q=>?_
 exact⟨m,aH,λh' C'=>⟨.ref D,H',ih.turned (t':=aQ.toks) (λb o af e=>C'.extBut b o af e) kT.1 kT.2.1 kT.2.2.2.1 kT.2.2.2.2.1 kT.2.2.2.2.2,rfl,q⟩⟩
theorem acm{i:Nat}{y:Str}{py mX:Pos}(S:lp esc scope EN N n cap){wi:TI}(rf:X.N.Nodup)(lL:X.N[i]? = some y)(bg:X.env.scope.names.lookup y=some .local)(aD:kN X cj iter wi)(aU:∀C aN s H,pM (cA X scope N C aN s H) cj g)(bO:∀C aN s H,sm (cA X scope N C aN s H) ifs tt)(iu:∀C aN s H,bY (cA X scope N C aN s H) elt te)
  (he:X.env.scope=esc:=by rfl) (hN:X.N=EN:=by rfl) (aI:X.calm=true:=by rfl) (aE:∀x,akv iter X.env x=pure x:=by intro _;rfl)
  (mF:ak8 (.ListComp elt [⟨cj,iter,ifs,0⟩] scope pos) (some (.Name y py)) mX.line X.env=pure true:=by rfl) :
  iW X (.Assign [.Name y py] (.ListComp elt [⟨cj,iter,ifs,0⟩] scope pos) mX) (tW (tX n cap wi g tt te) (lI i)):=by
 intro zn s Y H D J h;have CR:ama scope X.env=pure (nt scope X.env):=Il λy bg ax=>J.ok.has y.1 (by
  show X.env.scope.names.lookup y.1=_\/X.env.scope.names.lookup y.1=_;rw[he];exact S.free y bg ax)
 rw[exec_Assign_Name_used _ _ _ _ mF];refine ajD (anQ (ajD ?_));show wpAny _ X.A (do let _ <-comprehension (.ListComp elt [⟨cj,iter,ifs,0⟩] scope pos) scope X.env _ (newList []) false (eval iter X.env) (some (al7 (.Name y py) X.env))) _ _ s;refine ajD (akm (wpAny_comprehension_free (use:=some (al7 (.Name y py) X.env)) (Q:=λ_ aQ=>sr X zn D .next aQ) rfl aE CR S.kind S.loc
  (bZ (aD zn s Y H _ J h) λv s1 ae=>bZ ae λy3 s2 ah=>?_)) (λ_ aQ a9=>ajI (ajI a9)) λ_ _ e=>e)
 obtain⟨it,aN,fY,cm,aM,e,bX,T,cU,f2,a9⟩:=ah;subst e;refine Ir S he hN aI aU bO iu bX T cU f2 a9 λF3 C H' aQ m ih kT aH q=>?_
 show wpAny _ X.A (al7 (.Name y py) X.env (.ref F3)) _ _ _;refine wpAny_assign_Name (OU (v:=.ref F3) ih rf lL (.inl bg) rfl (λwX Qa ch=>?_) (.inr bg));obtain⟨a,Yw,ar⟩:=ch;have Wq:C≠a:=by
  rcases ar with z|z
  .rw[z];exact kT.2.1
  .exact λw=>kT.2.2.2.2.1 y a z w.symm
 refine⟨m,aH.sameBut Yw Wq,λh' C'=>?_⟩;exact⟨_,H',Qa.turned (t':=wX.toks) (λb o af e=>C'.extBut b o af e) kT.1 kT.2.1 kT.2.2.2.1 kT.2.2.2.2.1 kT.2.2.2.2.2,q⟩
end
def du(p:V->V->aw->df->Prop):eo:=λvs H Q _=>∃a b,vs=[a,b]/\p a b H Q
structure b_(P:ajY)(w:World)(K:aS)(mg:bq)(base:Heap)(x:Str)(ps:List Str)(k:Nat)(sp:eo):Prop where
 ex:∃f fd,fq P w K mg base eT k f fd ps sp/\Binds K fd ps []/\alB K (.ref f)=true/\mg x=some (.ref f)
structure cu(K:aS)(mg:bq)(x:Str)(st:Stmt)(ps:List Str):Prop where
 ex:∃f fd,lu K x x st f fd/\Binds K fd ps []/\mg x=some (.ref f)
section
variable{P:ajY}{w:World}{K:aS}{mg:bq}{base:Heap}{x:Str}{ps:List Str}{k:Nat}{sp:eo}
def b_.mono(h:b_ P w K mg base x ps k sp)(aZ:k<=j):b_ P w K mg base x ps j sp:=by
 obtain⟨f,fd,a,b⟩:=h.ex;exact⟨f,fd,a.mono aZ,b⟩
end
section
variable{X:aT}{x:Str}{ps:List Str}{k:Nat}{sp:eo}{p pos:Pos}{e:Expr}{ay:List Expr}{t:gA}
def Ad(sp:eo)(t:gA):TE:=λY H Q=>t Y H λvs H1=>sp vs H1 Q jj
def MC(h:b_ X.prog X.w X.K X.mg X.base x ps k sp)(aB:cK k X.A)(aU:eU X x)(ar:gm X (e::ay) t)(e7:(x==("__debug__":Str))=false:=by decide)
  (he:ajG (e::ay) X.env=(false,eval e X.env)::ajG ay X.env:=by rfl) (fm:(aj9 pos (ajG ay X.env)).any (·.1)=false:=by rfl):bY X (.Call (.Name x p) (e::ay) [] pos) (Ad sp t):=by
 obtain⟨f,fd,F,b,kp,m⟩:=h.ex;intro zn s Y H Q J a9;refine abI (dvs:=[]) (ds:=[]) F aB aU m kp b .nil rM ar e7 he fm zn s Y H Q J ?_;have nK:t Y H λvs H1=>sp vs H1 Q jj:=a9
 show t Y H λvs H1=>sp (vs++[]) H1 Q jj
 simpa only[akG]using nK
def abT(h:b_ X.prog X.w X.K X.mg X.base x ps k sp)(aB:cK k X.A)(aU:eU X x)(e7:(x==("__debug__":Str))=false:=by decide):bY X (.Call (.Name x p) [] [] pos) (Ad sp w5):=by
 obtain⟨f,fd,F,b,kp,m⟩:=h.ex;intro zn s Y H Q J a9;exact abJ (dvs:=[]) (ds:=[]) F aB aU m kp b .nil rM e7 zn s Y H Q J a9
end
structure ug(K:aS):Prop where
 ek:∀t∈["NoneType","bool","int","str","list","tuple"],∀c∈["int","bool","tuple","list","str"],W.kitOne K (.type t) (.type c)=some (t==c||(t == "bool"&&c == "int"))
inductive l_(K:aS)(H:aw):V->String->Prop where
 |aG:l_ K H .aG "NoneType"
 |aC (x:Bool):l_ K H (.aC x) "bool"
 |int (i:Int):l_ K H (.int i) "int"
 |str (x:Str):l_ K H (.str x) "str"
 |lst {a:Addr}{xs:List V}(e:dx K H a xs):l_ K H (.ref a) "list"
 |tup {a:Addr}{xs:List V}(e:dQ K H a xs):l_ K H (.ref a) "tuple"
abbrev afE:List String:=["NoneType","bool","int","str","list","tuple"]
def l_.mem{K:aS}{H:aw}{x:V}{t:String}(h:l_ K H x t):t∈afE:=by
 cases h<;>decide
section
variable{X:aT}
def i8(t n:String):Bool:=t==n||(t == "bool"&&n == "int")
def M3(K:aS):List V->aw->df->Prop:=λxs H Q=>∃x n t,xs=[x,.ty n]/\l_ K H x t/\n∈["int","bool","tuple","list","str"]/\Q (.aC (i8 t n)) H
def Tq(kt:ug X.K):jh X (.builtin "isinstance") (M3 X.K):=by
 intro zn s Y H xs us Q J bR h;obtain⟨x,n,t,rfl,ty,aH,q⟩:=h;obtain⟨u,eC,rfl,bG,cx⟩:=vals2 bR;cases(show eC=amM n from cx);have e:=kt.ek t ty.mem n aH;have fin:∀tk,hA X zn Y Q (.bool (i8 t n)) { s with toks:=tk }:=λtk=>⟨.aC _,H,J.tok tk,rfl,q⟩
 cases ty with
 |aG=>cases(show u=akS from bG);exact anC W.kitx_none J.fp ak4 e (λz=>nomatch z) fin
 |aC y=>cases(show u=amu y from bG);exact anC W.kitx_bool J.fp ak4 e (λz=>nomatch z) fin
 |int i=>obtain⟨t,q⟩:=(show ∃t,u=am3 i t from bG);cases q;exact anC W.kitx_int J.fp ak4 e (λz=>nomatch z) fin
 |str y=>obtain⟨t,q⟩:=(show ∃t,u=anw y t from bG);cases q;exact anC W.kitx_str J.fp ak4 e (λz=>nomatch z) fin
 |@lst a xs gC=>
  cases(show u=aka a from bG);obtain⟨its,_,⟨o,c9,ae,ah,_⟩,_⟩:=J.list gC;exact anC W.kitx_list J.fp ⟨o,ae,ah⟩ e (λz=>nomatch z) fin
 |@tup a xs gC=>
  cases(show u=aka a from bG);obtain⟨its,_,⟨o,ae,ah,_⟩,_⟩:=J.tuple gC;exact anC W.kitx_tuple J.fp ⟨o,ae,ah⟩ e (λz=>nomatch z) fin
def aap:AU X "int.bit_length" (λx xs H Q=>∃i,x=.int i/\xs=[]/\Q (.int (akW i:Nat)) H):=by
 intro zn s Y H x xs v us Q J a7 bR h;obtain⟨i,rfl,rfl,q⟩:=h;obtain⟨t,rfl⟩:=a7;cases bR;exact call_int_bit_length ⟨.int _,H,J.tok _,⟨_,rfl⟩,q⟩
end
mutual
def Rep(K:aS)(H:aw):PyData->V->Prop
 |.none,v=>v=.aG|.bool b,v=>v=.aC b|.int i,v=>v=.int i|.str x,v=>v=.str x|.list ds,v=>∃a xs,v=.ref a/\dx K H a xs/\bb K H ds xs|.tuple ds,v=>∃a xs,v=.ref a/\dQ K H a xs/\bb K H ds xs|.dict _,_=>False
def bb(K:aS)(H:aw):List PyData->List V->Prop
 |[],xs=>xs=[]|d::ds,xs=>∃x r,xs=x::r/\Rep K H d x/\bb K H ds r
end
def eN.w1[a8]{K:aS}{H H':aw}{a:Addr}{xs:List V}(e:eN H H')(h:dQ K H a xs):dQ K H' a xs:=by
 rcases h with(h|⟨o,h⟩)|h
 .exact .inl (.inl (e.at' _ _ h))
 .exact .inl (.inr ⟨o,e.at' _ _ h⟩)
 .exact .inr h
section
variable{X:aT}{zn:c8}{Y:St}{H:aw}{s:ajH}
mutual
theorem Rep.reads(J:Inv X zn Y H s):∀{d:PyData}{v:V}{u:Value},Rep X.K H d v->RelV v u->∃as,Reads s.heap u d as
 |.none,_,_,h,r=>by cases h;cases r;exact⟨_,.none⟩
 |.bool _,_,_,h,r=>by cases h;cases r;exact⟨_,.bool _⟩
 |.int _,_,_,h,r=>by cases h;obtain⟨t,rfl⟩:=r;exact⟨_,.int _ _⟩
 |.str _,_,_,h,r=>by cases h;obtain⟨t,rfl⟩:=r;exact⟨_,.str _ _⟩
 |.list _,_,_,h,r=>by
  obtain⟨a,xs,rfl,l,q⟩:=h;cases r;obtain⟨its,bR,⟨o,n,e,c,_,d⟩,_⟩:=J.list l;obtain⟨as,z⟩:=bb.reads J q bR;exact⟨_,.list e c d (by simpa using z)⟩
 |.tuple _,_,_,h,r=>by
  obtain⟨a,xs,rfl,l,q⟩:=h;cases r;obtain⟨its,bR,⟨o,e,c,n,d⟩,_⟩:=J.tuple l;obtain⟨as,z⟩:=bb.reads J q bR;exact⟨_,.tuple e c d (by simpa using z)⟩
 |.dict _,_,_,h,_=>h.elim
theorem bb.reads(J:Inv X zn Y H s):∀{ds:List PyData}{xs:List V}{us:List Value},bb X.K H ds xs->Vals xs us->∃as,ReadsAll s.heap us ds as
 |[],_,_,h,r=>by cases h;cases r;exact⟨_,.nil⟩
 |_::_,_,_,h,r=>by
  obtain⟨x,t,rfl,a,b⟩:=h
  cases r with
  |cons bG cx=>
   obtain⟨as,fO⟩:=Rep.reads J a bG;obtain⟨bs,eS⟩:=bb.reads J b cx;exact⟨_,.cons fO eS⟩
end
end
section
variable{X:aT}
def z0(K:aS)(neg:Bool):gb:=λx y H Q=>∃d e,Rep K H d x/\Rep K H e y/\aoN d=true/\aoN e=true/\Q (.aC (if neg then !aoC d e else aoC d e)) H
def Ep(cC:X.A.units+64<cLine):ew X (akq .Eq) (z0 X.K false):=by
 intro zn s Y H x y v u Q J a7 bC h;obtain⟨d,e,a,b,k6,k7,q⟩:=h;obtain⟨as,bt⟩:=a.reads J a7;obtain⟨bs,mT⟩:=b.reads J bC;exact eq_dataH bt mT k6 k7 cC ⟨.aC _,H,J,rfl,q⟩
def zQ(cC:X.A.units+64<cLine):ew X (akq .NotEq) (z0 X.K true):=by
 intro zn s Y H x y v u Q J a7 bC h;obtain⟨d,e,a,b,k6,k7,q⟩:=h;obtain⟨as,bt⟩:=a.reads J a7;obtain⟨bs,mT⟩:=b.reads J bC;exact ne_dataH bt mT k6 k7 cC ⟨.aC _,H,J,rfl,q⟩
end
def H7:akx "len"=some (.builtin "len"):=by decide +kernel
def H6:akx "isinstance"=some (.builtin "isinstance"):=by decide +kernel
def H8:akx "max"=some (.builtin "max"):=by decide +kernel
def Ta:akx "all"=some (.builtin "all"):=by decide +kernel
def H5:akx "int"=some (.type "int"):=by decide +kernel
def Tb:akx "bool"=some (.type "bool"):=by decide +kernel
def Tc:akx "list"=some (.type "list"):=by decide +kernel
def x5:akx "tuple"=some (.type "tuple"):=by decide +kernel
def Te:akx "str"=some (.type "str"):=by decide +kernel
variable[a8]
def xu(cm:iI)(H1:aw)(xs:List V):Prop:=∀H,eN H1 H->∀i,(i<xs.length->cm.go i H/\∀x H',cm.pB i H x H'->H'=H/\xs[i]? = some x)/\(xs.length<=i->cm.stop i H)
def Dp{K:aS}{H:aw}{a:Addr}{xs:List V}(h:dx K H a xs):xu (l6 K a) H xs:=λH' s i=>
 ⟨λaD=>⟨⟨xs,xs[i],s.seq h,by simp[aD]⟩,λx F5 y=>⟨y.1,y.2 xs (s.seq h)⟩⟩,λaD=>⟨xs,s.seq h,aD⟩⟩
def Ku{K:aS}{H:aw}{a:Addr}{xs:List V}(h:dQ K H a xs):xu (sj K a) H xs:=λH' s i=>
 ⟨λaD=>⟨⟨xs,xs[i],s.w1 h,by simp[aD]⟩,λx F5 y=>⟨y.1,y.2 xs (s.w1 h)⟩⟩,λaD=>⟨xs,s.w1 h,aD⟩⟩
def n6(lo:Int)(n:Nat):List V:=(aj6 n).map λi=>V.int (lo+(i:Nat))
def Dr(lo:Int)(n:Nat):xu (pJ lo n) H (n6 lo n):=λH' s i=>by
 have au:(n6 lo n).length=n:=by unfold n6;rw[ajE,amP]
 refine⟨λaD=>⟨by rw[au]at aD;exact aD,λx F5 y=>⟨y.1,?_⟩⟩,λaD=>by rw[au]at aD;exact aD⟩;rw[au]at aD;rw[y.2];unfold n6;rw[akc,List.getElem?_range aD];rfl
end aF
namespace aF
open PySem PySem.Spec PyProof.Rows
def cu.none{P:ajY}{w:World}{K:aS}{mg:bq}{base:Heap}{x:Str}{st:Stmt}{ps:List Str}{k:Nat}{sp:eo}(D:cu K mg x st ps)(no:∀vs H Q E,¬sp vs H Q E):b_ P w K mg base x ps k sp:=by
 obtain⟨f,fd,F,b,m⟩:=D.ex;exact⟨f,fd,⟨λvs H Q E h=>absurd h (no vs H Q E),λA outer s H args us vs Q E _ _ _ _ h=>absurd h (no vs H Q E)⟩,b,F.kp,m⟩
def Zy(K:aS):ug K:=⟨by
 intro t bO c aI;simp only[ajN,List.mem_nil_iff,or_false]at bO aI;rcases bO with rfl|rfl|rfl|rfl|rfl|rfl<;>rcases aI with rfl|rfl|rfl|rfl|rfl<;>kernel_rfl⟩
def range_all(bs:List Bool):(aj6 bs.length).all (λi=>bs.getD i false)=bs.all id:=by
 rw[ak3,akE,akE];constructor
 .intro h b af
  obtain⟨i,aD,rfl⟩:=List.getElem_of_mem af;have:=h i (akM.mpr aD);rw[akg,akr aD]at this;exact this
 .intro h i aD
  have lL:=akM.mp aD;rw[akg,akr lL];exact h _ (List.getElem_mem lL)
section
variable{X:aT}{K:aS}
def afs{bs:List Bool}{its:List Value}(bR:Vals (bs.map V.aC) its):TruthOf prog w A (λi v=>its.toArray[i]? = some v) (λi=>bs.getD i false):=by
 intro i v s Q E bL a9;have mG:its[i]? = some v:=by simpa using bL
 have aD:i<bs.length:=by
  have ae:=(ajJ.mp mG).1;have ah:=bR.length;rw[ajE]at ah;omega
 obtain⟨u,cC,eg⟩:=bR.get (i:=i) (x:=.aC bs[i]) (by rw[akc,akr aD];rfl);rw[mG]at cC;cases cC;cases eg;have nK:Q (bs.getD i false) s:=a9;rw[akg,akr aD]at nK;exact akY nK
def To(aI:X.calm=true):jh X (.builtin "all") (λxs H Q=>∃(l:Addr)(bs:List Bool),xs=[.ref l]/\dx X.K H l (bs.map V.aC)/\Q (.aC (bs.all id)) H):=by
 intro zn s Y H xs us Q J bR h;obtain⟨l,bs,rfl,cX,q⟩:=h;obtain⟨u,rfl,bG⟩:=vals1 bR;cases bG;obtain⟨its,qx,p,hz⟩:=J.list cX;have fG:l<s.heap.objs.size:=by obtain⟨o,n,e,_⟩:=p;exact ajV e
 refine call_all_walk (alv p.isList ?_);refine⟨s.heap.objs.size,_,_,_,_,_,λi=>bs.getD i false,rfl,aoD (A:=X.A.in1) (show X.A.in1.handled=none from J.ok.hd aI) s.heap.objs.size l (aj1 fG) its.toArray,⟨⟨_,ajS _ rfl,rfl,rfl⟩,p.isList.at λo e=>ajF _ e⟩,afs qx,λh' tk k=>?_⟩;have aH:its.toArray.size=bs.length:=by
  have ah:=qx.length;rw[ajE]at ah;simp[ah]
 rw[aH,range_all];exact⟨.aC _,H,J.kept (h':=h') (t':=tk) λb o e=>k b o (by intro z;rw[aj0.mp z]at e;exact absurd (ajV e) (akn _)) (ajF _ e),rfl,q⟩
end
section
variable{X:aT}
def MD{v:V}(aU:eU X x)(h:∃u,X.mg x=some u/\RelV v u)(hd:(x==("__debug__":Str))=false:=by decide):bY X (.Name x pos) (pg v):=by
 obtain⟨u,hm,r⟩:=h;exact abU aU hm r hd
variable[a8]
end
end aF
set_option maxHeartbeats 1000000
namespace a0
open PySem PySem.Spec aF
variable[aF.a8]
inductive D where
 |aG|aC (b:Bool)|int (i:Int)|str (x:Str)|tup (xs:List D)|lst (xs:List D)|ref (n:Nat)|fn (f:Str)|ty (n:String)
inductive Slot where
 |e|v (d:D)|eH (p:Bool) (xs:List D)|cc (xs:List D)
abbrev aR:=List Slot
inductive fQ where
 |lst (xs:List D)|dS (ak:List (Key×D))|eZ (ak:List (List Key×D))|bD (c:Str) (aW:List (Str×D))
abbrev cz:=List fQ
inductive Out(α:Type) where
 |ok (a:α) (S:cz)|exc (c:Str) (S:cz)|bad
structure M(α:Type):Type where
 run:cz->Out α
 eB:∀S a ai,run S=.ok a ai->ai=S
def M.kh{α β:Type}(m:M α)(f:α->M β):M β:=⟨λS=>match m.run S with
 |.ok a ai=>(f a).run ai|.exc c ai=>.exc c ai|.bad=>.bad,λS b ai h=>by
  cases e:m.run S with
  |ok a S1=>rw[e]at h;exact((f a).eB _ _ _ h).trans (m.eB _ _ _ e)|exc c S1=>rw[e]at h;cases h
  |bad=>rw[e]at h;cases h⟩
noncomputable instance:Monad M where
 pure a:=⟨λS=>.ok a S,λ_ _ _ h=>by cases h;rfl⟩
 bind:=M.kh
omit [aF.a8]in
theorem M.ext{α:Type}{x y:M α}(h:∀S,x.run S=y.run S):x=y:=by
 cases x with|mk f p=>cases y with|mk g q=>obtain rfl:f=g:=funext h;rfl
omit [aF.a8]in
theorem M.S7{α β:Type}(m:M α)(f:α->M β):(m >>= f)=M.kh m f:=rfl
instance:LawfulMonad M:=LawfulMonad.mk'
 (id_map:=λx=>M.ext λS=>by show(M.kh x (λa=>pure (id a))).run S=x.run S;unfold M.kh;dsimp only;cases x.run S<;>rfl)
 (pure_bind:=λx f=>rfl)
 (bind_assoc:=λx f g=>M.ext λS=>by show(M.kh (M.kh x f) g).run S=(M.kh x (λa=>M.kh (f a) g)).run S;unfold M.kh;dsimp only;cases x.run S<;>rfl)
 (bind_pure_comp:=λf x=>rfl)
def bad{α:Type}:M α:=⟨λ_=>.bad,λ_ _ _ h=>by cases h⟩
omit [aF.a8]in
theorem M.inv{α β:Type}{m:M α}{f:α->M β}{S ai:cz}{b:β}(h:(m >>= f).run S=.ok b ai):∃a S1,m.run S=.ok a S1/\(f a).run S1=.ok b ai:=by
 rw[M.S7]at h;unfold M.kh at h;dsimp only at h
 cases e:m.run S with
 |ok a S1=>rw[e]at h;exact⟨a,S1,rfl,h⟩|exc c S1=>rw[e]at h;cases h
 |bad=>rw[e]at h;cases h
def hY(p:Prop)[Decidable p]:M Unit:=if p then pure ()else bad
omit [aF.a8]in
theorem Ii{p:Prop}[Decidable p](h:p):hY p=pure ():=if_pos h
omit [aF.a8]in
theorem q0{p:Prop}[Decidable p](h:(hY p).run S=.ok u ai):p/\S=ai:=by
 unfold hY at h
 by_cases aK:p
 .rw[if_pos aK]at h;cases h;exact⟨aK,rfl⟩
 .rw[if_neg aK]at h;cases h
inductive R where
 |v (d:D)|fr (xs:List D)|cc (xs:List D)|mv (xs:List D)
abbrev bo:=aR->M R
inductive Own where
 |free|out|dF|loc (i:Nat)
 deriving DecidableEq
structure a5 where
 own:Addr->Own
 bM:List Addr
instance:CoeFun a5 (λ_=>Addr->Own):=⟨a5.own⟩
def AR(K:aS)(a:Addr)(xs:List V):Prop:=
 ∃(o:Obj)(its:Array Value)(n:Nat),K.lookup a=some o/\o.cls=.type "list"/\o.dict=none/\o.data=.seq its n/\its.size<=ajL/\Vals xs its.toList
def sk(_:aS)(O:a5)(H:aw)(a:Addr)(ys:List V):Prop:=H a=some (.lst ys)/\O a=.free
mutual
def Rep(K:aS)(mg:bq)(O:a5)(H:aw):D->V->Prop
 |.aG,v=>v=.aG|.aC b,v=>v=.aC b|.int i,v=>v=.int i|.str x,v=>v=.str x|.tup xs,v=>∃a ys,v=.ref a/\dQ K H a ys/\bb K mg O H xs ys|.lst xs,v=>∃a ys,v=.ref a/\sk K O H a ys/\bb K mg O H xs ys|.ref n,v=>∃a,v=.ref a/\O.bM[n]? = some a|.fn f,v=>∃a,v=.ref a/\mg f=some (.ref a)|.ty n,v=>v=.ty n
def bb(K:aS)(mg:bq)(O:a5)(H:aw):List D->List V->Prop
 |[],ys=>ys=[]|x::xs,ys=>∃y r,ys=y::r/\Rep K mg O H x y/\bb K mg O H xs r
end
structure Go(O aq:a5)(H H':aw):Prop where
 same:eN H H'
 own:∀b,H b≠none->aq b=O b
 bM:aq.bM=O.bM
def Go.refl(O:a5)(H:aw):Go O O H H:=⟨eN.refl _,λ_ _=>rfl,rfl⟩
def Go.trans{O aO br:a5}(a:Go O aO H H1)(b:Go aO br H1 aM):Go O br H aM:=
 ⟨a.same.trans b.same,λc h=>(b.own c (a.same.some h)).trans (a.own c h),b.bM.trans a.bM⟩
def gc.same(s:eN H H')(h:gc H a u)(n:o2 u:=by exact trivial):gc H' a u:=by
 rcases h with h|⟨o,h⟩
 .exact .inl (s.at' _ _ h n)
 .exact .inr ⟨o,s.at' _ _ h⟩
omit [aF.a8]in
theorem gc.some{H:aw}(h:gc H a u):H a≠none:=by
 rcases h with h|⟨o,h⟩<;>rw[h]<;>intro z<;>cases z
def sk.dP{O:a5}(h:sk K O H a ys):dx K H a ys:=dx.of h.1
def ij(K:aS)(O:a5)(H:aw)(a:Addr)(ys:List V):Prop:=(gc H a (.lst ys)/\(O a=.free\/O a=.out))\/AR K a ys
def ij.dP{O:a5}(h:ij K O H a ys):dx K H a ys:=h.elim (λz=>.inl z.1) .inr
def ij.go{O aq:a5}(g:Go O aq H H')(h:ij K O H a ys):ij K aq H' a ys:=by
 rcases h with⟨l,f⟩|l
 .exact .inl ⟨gc.same g.same l,by rw[g.own a (gc.some l)];exact f⟩
 .exact .inr l
def sk.go{O aq:a5}(g:Go O aq H H')(h:sk K O H a ys):sk K aq H' a ys:=by
 exact⟨g.same.at' _ _ h.1,(g.own a (by rw[h.1];intro z;cases z)).trans h.2⟩
section
variable{K:aS}{mg:bq}{O aq:a5}{H H':aw}
mutual
theorem Rep.go(g:Go O aq H H'):∀{d:D}{v:V},Rep K mg O H d v->Rep K mg aq H' d v
 |.aG,_,h=>h|.aC _,_,h=>h|.int _,_,h=>h|.str _,_,h=>h| .tup _,_,h=>by obtain⟨a,ys,q,l,r⟩:=h;exact⟨a,ys,q,g.same.w1 l,bb.go g r⟩
 |.lst _,_,h=>by obtain⟨a,ys,q,l,r⟩:=h;exact⟨a,ys,q,l.go g,bb.go g r⟩
 |.ref _,_,h=>by obtain⟨a,q,l⟩:=h;exact⟨a,q,by rw[g.bM];exact l⟩
 |.fn _,_,h=>h|.ty _,_,h=>h
theorem bb.go(g:Go O aq H H'):∀{ds:List D}{ys:List V},bb K mg O H ds ys->bb K mg aq H' ds ys
 |[],_,h=>h| _::_,_,h=>by obtain⟨x,r,q,a,b⟩:=h;exact⟨x,r,q,Rep.go g a,bb.go g b⟩
end
structure nc(O aq:a5):Prop where
 fr:∀a,O a=.free->aq a=.free
 bM:aq.bM=O.bM
mutual
theorem Rep.dA(g:nc O aq):∀{d:D}{v:V},Rep K mg O H d v->Rep K mg aq H d v
 |.aG,_,h=>h|.aC _,_,h=>h|.int _,_,h=>h|.str _,_,h=>h| .tup _,_,h=>by obtain⟨a,ys,q,l,r⟩:=h;exact⟨a,ys,q,l,bb.dA g r⟩
 |.lst _,_,h=>by obtain⟨a,ys,q,l,r⟩:=h;exact⟨a,ys,q,⟨l.1,g.fr _ l.2⟩,bb.dA g r⟩
 |.ref _,_,h=>by obtain⟨a,q,l⟩:=h;exact⟨a,q,by rw[g.bM];exact l⟩
 |.fn _,_,h=>h|.ty _,_,h=>h
theorem bb.dA(g:nc O aq):∀{ds:List D}{ys:List V},bb K mg O H ds ys->bb K mg aq H ds ys
 |[],_,h=>h| _::_,_,h=>by obtain⟨x,r,q,a,b⟩:=h;exact⟨x,r,q,Rep.dA g a,bb.dA g b⟩
end
theorem bb.len:∀{ds:List D}{xs:List V},bb K mg O H ds xs->xs.length=ds.length
 |[],_,h=>by cases h;rfl
 |_::_,_,h=>by obtain⟨x,r,rfl,_,b⟩:=h;rw[ajW,ajW,bb.len b]
theorem bb.get:∀{ds:List D}{xs:List V}{i:Nat}{d:D},bb K mg O H ds xs->ds[i]? = some d->∃x,xs[i]? = some x/\Rep K mg O H d x
 |[],_,_,_,_,e=>by simp at e| _::_,_,0,d,h,e=>by obtain⟨x,r,rfl,a,_⟩:=h;cases(show some _=some d from e);exact⟨x,rfl,a⟩
 |_::ds,_,i+1,d,h,e=>by
  obtain⟨x,r,rfl,_,b⟩:=h;obtain⟨y,ao,az⟩:=bb.get (i:=i) b (by simpa using e);exact⟨y,by simpa using ao,az⟩
theorem bb.Jk:∀{ds:List D}{xs:List V}{i:Nat}{x:V},bb K mg O H ds xs->xs[i]? = some x->∃d,ds[i]? = some d/\Rep K mg O H d x
 |[],_,_,_,h,e=>by cases h;simp at e
 |_::_,_,0,x,h,e=>by obtain⟨y,r,rfl,a,_⟩:=h;cases(show some _=some x from e);exact⟨_,rfl,a⟩
 |_::ds,_,i+1,d,h,e=>by
  obtain⟨x,r,rfl,_,b⟩:=h;obtain⟨y,ao,az⟩:=bb.Jk (i:=i) b (by simpa using e);exact⟨y,by simpa using ao,az⟩
theorem bb.append:∀{ds ay:List D}{xs ys:List V},bb K mg O H ds xs->bb K mg O H ay ys->bb K mg O H (ds++ay) (xs++ys)
 |[],_,_,_,h,q=>by cases h;exact q
 |_::_,_,_,_,h,q=>by obtain⟨x,r,rfl,a,b⟩:=h;exact⟨x,_,rfl,a,bb.append b q⟩
def bb.one(h:Rep K mg O H d x):bb K mg O H [d] [x]:=⟨x,[],rfl,h,rfl⟩
theorem bb.take:∀{ds:List D}{xs:List V}(n:Nat),bb K mg O H ds xs->bb K mg O H (ds.take n) (xs.take n)
 |[],_,_,h=>by cases h;rw[List.take_nil,List.take_nil];rfl
 |_::_,_,0,_=>by rw[anq,anq];rfl| _::_,_,n+1,h=>by obtain⟨x,r,rfl,a,b⟩:=h;exact⟨x,_,rfl,a,bb.take n b⟩
theorem bb.drop:∀{ds:List D}{xs:List V}(n:Nat),bb K mg O H ds xs->bb K mg O H (ds.drop n) (xs.drop n)
 |[],_,_,h=>by cases h;rw[List.drop_nil,List.drop_nil];rfl
 |_::_,_,0,h=>h| _::_,_,n+1,h=>by obtain⟨x,r,rfl,a,b⟩:=h;exact bb.drop n b
def M'(ns:List Int):bb K mg O H (ns.map D.int) (ns.map V.int):=by
 induction ns with
 |nil=>rfl|cons n r a6=>exact⟨.int n,_,rfl,rfl,a6⟩
def ea{κ:Type}(K:aS)(mg:bq)(O:a5)(H:aw)(ak:List (κ×D))(dI:List (κ×V)):Prop:=ak.map (·.1)=dI.map (·.1)/\bb K mg O H (ak.map (·.2)) (dI.map (·.2))
def e5(K:aS)(mg:bq)(O:a5)(H:aw):R->V->Prop
 |.v d,v=>Rep K mg O H d v|.fr xs,v=>∃a ys,v=.ref a/\H a=some (.lst ys)/\O a=.dF/\bb K mg O H xs ys|.cc xs,v=>∃a ys,v=.ref a/\ij K O H a ys/\bb K mg O H xs ys|.mv xs,v=>∃a ys,v=.ref a/\H a=some (.lst ys)/\bb K mg O H xs ys
def e5.go(g:Go O aq H H'):∀{r:R}{v:V},e5 K mg O H r v->e5 K mg aq H' r v
 |.v _,_,h=>Rep.go g h| .fr _,_,h=>by obtain⟨a,ys,q,l,o,r⟩:=h;exact⟨a,ys,q,g.same.at' _ _ l,(g.own a (by rw[l];intro z;cases z)).trans o,r.go g⟩
 |.cc _,_,h=>by obtain⟨a,ys,q,l,r⟩:=h;exact⟨a,ys,q,l.go g,r.go g⟩
 |.mv _,_,h=>by obtain⟨a,ys,q,l,r⟩:=h;exact⟨a,ys,q,g.same.at' _ _ l,r.go g⟩
theorem bb.imp{aq:a5}(f:∀d v,Rep K mg O H d v->Rep K mg aq H' d v):∀{ds:List D}{ys:List V},bb K mg O H ds ys->bb K mg aq H' ds ys
 |[],_,h=>h| _::_,_,h=>by obtain⟨x,r,q,a,b⟩:=h;exact⟨x,r,q,f _ _ a,bb.imp f b⟩
def P6(K:aS)(mg:bq)(c:Str)(C:Addr):Prop:=mg c=some (.ref C)/\ji K C
def jS(K:aS)(mg:bq)(O:a5)(H:aw)(w:Own):Slot->Option V->Prop
 |.e,_=>True|.v d,u=>∃v,u=some v/\Rep K mg O H d v|.eH _ xs,u=>∃a ys,u=some (.ref a)/\O a=w/\H a=some (.lst ys)/\bb K mg O H xs ys|.cc xs,u=>∃a ys,u=some (.ref a)/\ij K O H a ys/\bb K mg O H xs ys
def jS.go(g:Go O aq H H'):∀{s:Slot}{u:Option V},jS K mg O H w s u->jS K mg aq H' w s u
 |.e,_,_=>trivial| .v _,_,h=>by obtain⟨v,q,r⟩:=h;exact⟨v,q,r.go g⟩
 |.eH _ _,_,h=>by obtain⟨a,ys,q,o,l,r⟩:=h;exact⟨a,ys,q,(g.own a (by rw[l];intro z;cases z)).trans o,g.same.at' _ _ l,r.go g⟩
 |.cc _,_,h=>by
  obtain⟨a,ys,q,l,r⟩:=h;exact⟨a,ys,q,l.go g,r.go g⟩
end
def jR(O:a5):Prop:=O.bM.Nodup/\∀a∈O.bM,O a=.out
structure da(O:a5)(H:aw):Prop where
 has:∀a,O a≠.free->H a≠none
 tabs:TabsOk H
 cp:jR O
def nh(K:aS)(mg:bq)(O:a5)(H:aw)(a:Addr):fQ->Prop
 |.lst xs=>∃ys,H a=some (.lst ys)/\bb K mg O H xs ys|.dS ak=>∃dI,H a=some (.fy dI)/\ea K mg O H ak dI|.eZ ak=>∃dI,H a=some (.hF dI)/\ea K mg O H ak dI|.bD c aW=>∃C b7 jZ,H a=some (.ins C b7 jZ)/\P6 K mg c C/\ea K mg O H aW jZ
def gz(K:aS)(mg:bq)(O:a5)(H:aw)(S:cz):Prop:=∀(n:Nat)(o:fQ),S[n]? = some o->∃a,O.bM[n]? = some a/\nh K mg O H a o
def nh.all{O aq:a5}{H H':aw}(f:∀d v,Rep K mg O H d v->Rep K mg aq H' d v)(g:∀u,H a=some u->o2 u->H' a=some u):∀{o:fQ},nh K mg O H a o->nh K mg aq H' a o
 |.lst _,h=>by obtain⟨ys,l,r⟩:=h;exact⟨ys,g _ l trivial,r.imp f⟩
 |.dS _,h=>by obtain⟨ys,l,e,r⟩:=h;exact⟨ys,g _ l trivial,e,r.imp f⟩
 |.eZ _,h=>by obtain⟨ys,l,e,r⟩:=h;exact⟨ys,g _ l trivial,e,r.imp f⟩
 |.bD _ _,h=>by obtain⟨C,b7,jZ,l,c,e,r⟩:=h;exact⟨C,b7,jZ,g _ l trivial,c,e,r.imp f⟩
def gz.all{O aq:a5}{H H':aw}(s:gz K mg O H S)(f:∀d v,Rep K mg O H d v->Rep K mg aq H' d v)(e:aq.bM=O.bM)(g:∀a∈O.bM,∀u,H a=some u->o2 u->H' a=some u):gz K mg aq H' S:=λn o h=>by
 obtain⟨a,ae,ah⟩:=s n o h;exact⟨a,by rw[e];exact ae,ah.all f (g a (akt ae))⟩
def gz.go{O aq:a5}(s:gz K mg O H S)(g:Go O aq H H'):gz K mg aq H' S:=
 s.all (λ_ _ z=>Rep.go g z) g.bM λa _ u l n=>g.same.at' _ _ l n
def gz.nil{O:a5}:gz K mg O H []:=λn o h=>by cases n<;>cases h
structure cO(K:aS)(mg:bq)(O:a5)(Y:aR)(S:cz)(av:St)(H:aw):Prop where
 cn:da O H
 len:Y.length=av.length
 loc:∀i s,Y[i]? = some s->jS K mg O H (.loc i) s (av[i]?.join)
 hc:gz K mg O H S
def cO.go{O aq:a5}(h:cO K mg O Y S av H)(g:Go O aq H H')(d:da aq H'):cO K mg aq Y S av H':=
 ⟨d,h.len,λi s e=>(h.loc i s e).go g,h.hc.go g⟩
def f9(O:a5)(a:Addr)(o:Own):a5:=⟨λb=>if b=a then o else O b,O.bM⟩
omit [aF.a8]in
theorem ob{O:a5}:f9 O a o a=o:=if_pos rfl
omit [aF.a8]in
theorem pn{O:a5}(h:b≠a):f9 O a o b=O b:=if_neg h
section
variable{K:aS}{mg:bq}{O:a5}{Y:aR}{S:cz}{av:St}{H:aw}{p:Addr}{u:gT}{o:Own}
def Go.new(aK:H p=none):Go O (f9 O p o) H (upd H p u):=
 ⟨rV aK u,λb af=>pn (by rintro rfl;exact af aK),rfl⟩
def Go.fI(aK:H p=none):Go O O H (upd H p u):=⟨rV aK u,λ_ _=>rfl,rfl⟩
def da.new(d:da O H)(aK:H p=none):da (f9 O p o) (upd H p u):=⟨λa ar=>by
 by_cases e:a=p
 .subst e;rw[dG];intro z;cases z
 .rw[dm e];rw[pn e]at ar;exact d.has a ar,d.tabs.new aK u,d.cp.1,λa h=>by rw[pn (by rintro rfl;exact d.has _ (by rw[d.cp.2 _ h];intro z;cases z) aK)];exact d.cp.2 a h⟩
def da.same(d:da O H)(s:eN H H'):da O H':=⟨λa ar=>s.some (d.has a ar),s.bV d.tabs,d.cp⟩
def da.free(d:da O H)(aK:H p=none):O p=.free:=by
 cases e:O p with
 |free=>rfl| _=>exact absurd aK (d.has p (by rw[e];intro z;cases z))
def cO.new(h:cO K mg O Y S av H)(aK:H p=none):cO K mg (f9 O p o) Y S av (upd H p u):=h.go (Go.new aK) (h.cn.new aK)
def cO.fI(h:cO K mg O Y S av H)(aK:H p=none):cO K mg O Y S av (upd H p u):=h.go (Go.fI aK) (h.cn.same (rV aK u))
end
def jQ(H:aw):R->V->Prop
 |.fr _,v=>∀a,v=.ref a->H a=none|_,_=>True
def jQ.back(s:eN H H1):∀{r:R}{v:V},jQ H1 r v->jQ H r v
 |.v _,_,_=>trivial|.cc _,_,_=>trivial|.mv _,_,_=>trivial|.fr _,_,h=>λa e=>s.free (h a e)
def kM(H:aw):List R->List V->Prop
 |r::rs,v::vs=>jQ H r v/\kM H rs vs|_,_=>True
theorem kM.back(s:eN H H1):∀{rs:List R}{vs:List V},kM H1 rs vs->kM H rs vs
 |[],_,_=>trivial|_::_,[],_=>trivial|_::_,_::_,h=>⟨h.1.back s,kM.back s h.2⟩
def xB(K:aS)(mg:bq)(O:a5)(Y:aR)(ai:cz)(av:St)(H:aw)(r:R)(Q:df):Prop:=
 ∀aq v H',Go O aq H H'->cO K mg aq Y ai av H'->e5 K mg aq H' r v->jQ H r v->Q v H'
inductive pO{α:Type}(K:aS)(mg:bq)(m:aR->M α)(av:St)(H:aw)(P:a5->aR->cz->α->Prop):Prop
 |mk (O:a5) (Y:aR) (S:cz) (x:α) (ai:cz) (st:cO K mg O Y S av H) (h:(m Y).run S=.ok x ai) (q:P O Y ai x):pO K mg m av H P
def fB(K:aS)(mg:bq)(m:bo):TE:=λav H Q=>pO K mg m av H λO Y ai r=>xB K mg O Y ai av H r Q
def la(K:aS)(mg:bq)(m:aR->M Bool):TT:=λav H Q=>pO K mg m av H λO Y ai b=>∀aq H',Go O aq H H'->cO K mg aq Y ai av H'->Q b H'
abbrev hR(X:aT)(e:Expr)(m:bo):Prop:=bY X e (fB X.K X.mg m)
abbrev F2(X:aT)(e:Expr)(m:aR->M Bool):Prop:=iY X e (la X.K X.mg m)
abbrev xp(X:aT)(e:Expr)(m:aR->M Bool):Prop:=ly X e (la X.K X.mg m)
def gx(K:aS)(mg:bq)(O:a5)(H:aw):List R->List V->Prop
 |[],ys=>ys=[]|x::xs,ys=>∃y r,ys=y::r/\e5 K mg O H x y/\gx K mg O H xs r
theorem gx.go{O aq:a5}(g:Go O aq H H'):∀{rs:List R}{ys:List V},gx K mg O H rs ys->gx K mg aq H' rs ys
 |[],_,h=>h| _::_,_,h=>by obtain⟨x,r,q,a,b⟩:=h;exact⟨x,r,q,a.go g,gx.go g b⟩
theorem gx.len{O:a5}:∀{rs:List R}{ys:List V},gx K mg O H rs ys->ys.length=rs.length
 |[],_,h=>by cases h;rfl
 |_::_,_,h=>by obtain⟨x,r,rfl,_,b⟩:=h;rw[ajW,ajW,gx.len b]
abbrev c7:=aR->M (List R)
def oa(K:aS)(mg:bq)(m:c7):gA:=λav H Q=>pO K mg m av H λO Y ai rs=>∀aq vs H',Go O aq H H'->cO K mg aq Y ai av H'->gx K mg aq H' rs vs->kM H rs vs->Q vs H'
abbrev AL(X:aT)(ay:List Expr)(m:c7):Prop:=gm X ay (oa X.K X.mg m)
def eI{t t':TE}(h:bY X e t)(i:∀Y H Q,t' Y H Q->t Y H Q):bY X e t':=λzn s Y H Q J q=>h zn s Y H Q J (i _ _ _ q)
def rQ{t t':TT}(h:iY X e t)(i:∀Y H Q,t' Y H Q->t Y H Q):iY X e t':=λzn s Y H Q J q=>h zn s Y H Q J (i _ _ _ q)
def EP{t t':TT}(h:ly X e t)(i:∀Y H Q,t' Y H Q->t Y H Q):ly X e t':=λr_ zn s Y H Q J q=>h r_ zn s Y H Q J (i _ _ _ q)
def wz{t t':gA}(h:gm X ay t)(i:∀Y H Q,t' Y H Q->t Y H Q):gm X ay t':=λpos zn s Y H Q J q=>h pos zn s Y H Q J (i _ _ _ q)
@[simp] def I(i:Nat)(Y:aR):M R:=match Y[i]? with
 |some (.v d)=>pure (.v d)|some (.eH _ xs)=>pure (.mv xs)|some (.cc xs)=>pure (.cc xs)|_=>bad
def aa(d:D):bo:=λ_=>pure (.v d)
section
variable{X:aT}{a b c e:Expr}{c_ di gN m:bo}{b9:aR->M Bool}
def uG{v:V}(h:bY X e (pg v))(r:∀O H,Rep X.K X.mg O H d v):hR X e (aa d):=eI h λav H Q aX=>by
 obtain⟨O,Y,S,bT,ai,st,h,q⟩:=aX;cases h;exact q O v H (Go.refl _ _) st (r O H) trivial
@[simp] def ab(f:R->R->M R)(a b:bo)(Y:aR):M R:=do
 let x <-a Y
 let y <-b Y
 f x y
def eK(K:aS)(mg:bq)(r:gb)(f:R->R->M R):Prop:=
 ∀O Y S av H x y a7 bC bT ai (Q:df),cO K mg O Y S av H->e5 K mg O H a7 x->e5 K mg O H bC y->(f a7 bC).run S=.ok bT ai->xB K mg O Y ai av H bT Q->r x y H Q
def uA{r:gb}(hf:eK K mg r f):∀av H Q,fB K mg (ab f c_ di) av H Q->w6 r (fB K mg c_) (fB K mg di) av H Q:=by
 rintro av H Q ⟨O,Y,S,bT,ai,st,h,q⟩;obtain⟨x,S1,ae,h⟩:=M.inv h;obtain⟨y,bc,ah,h⟩:=M.inv h;refine⟨O,Y,S,x,S1,st,ae,λaO gh H1 g1 aV a7 bh=>?_⟩;refine⟨aO,Y,S1,y,bc,aV,ah,λbr t5 aM g2 cU bC Ml=>?_⟩;exact hf br Y bc av aM gh t5 x y bT ai Q cU (a7.go g2) bC h λaq v H' g cq bu nn=>q aq v H' ((g1.trans g2).trans g) cq bu (nn.back (g1.trans g2).same)
def R.qD:R->M Bool
 |.v (.aC b)=>pure b|_=>bad
@[simp] def aY(m:bo)(Y:aR):M Bool:=do
 let x <-m Y
 x.qD
omit [aF.a8]in
theorem w_{r:R}{b:Bool}{S ai:cz}(h:r.qD.run S=.ok b ai):r=.v (.aC b)/\S=ai:=by
 cases r with
 |v d=>cases d<;>cases h<;>exact⟨rfl,rfl⟩
 |fr _=>cases h
 |cc _=>cases h
 |mv _=>cases h
def Fp:∀av H Q,la K mg (aY m) av H Q->w8 (fB K mg m) av H Q:=by
 rintro av H Q ⟨O,Y,S,t,ai,st,h,q⟩;obtain⟨x,S1,ae,h⟩:=M.inv h;obtain⟨rfl,rfl⟩:=w_ h;exact⟨O,Y,S,_,_,st,ae,λaq v H' g cq bu _=>⟨t,bu,q aq H' g cq⟩⟩
def O4{t t':TE}(i:∀Y H Q,t' Y H Q->t Y H Q):∀Y H Q,w8 t' Y H Q->w8 t Y H Q:=λY H Q q=>i _ _ _ q
@[simp] def ki(f g:R->R->M R)(a b c:bo)(Y:aR):M R:=do
 let x <-a Y
 let y <-b Y
 let z <-f x y
 let t <-z.qD
 if t=true then do
  let w <-c Y
  g y w
 else pure (.v (.aC false))
def Th{r bT:gb}(hf:eK K mg r f)(aU:eK K mg bT g):∀av H Q,fB K mg (ki f g c_ di gN) av H Q->O2 r bT (fB K mg c_) (fB K mg di) (fB K mg gN) av H Q:=by
 rintro av H Q ⟨O,Y,S,bT,ai,st,h,q⟩;obtain⟨x,S1,ae,h⟩:=M.inv h;obtain⟨y,bc,ah,h⟩:=M.inv h;obtain⟨z,ik,bF,h⟩:=M.inv h;obtain⟨t,pP,dw,h⟩:=M.inv h;obtain⟨rfl,rfl⟩:=w_ dw;refine⟨O,Y,S,x,S1,st,ae,λaO gh H1 g1 aV a7 bh=>?_⟩;refine⟨aO,Y,S1,y,bc,aV,ah,λbr t5 aM g2 cU bC Ml=>?_⟩;refine hf br Y bc av aM gh t5 x y _ _ _ cU (a7.go g2) bC bF λe4 ajw cZ g3 hb bu _=>⟨t,bu,?_⟩
 have Cp:=(g1.trans g2).trans g3
 cases t with
 |false=>
  rw[if_neg ajO]at h;cases h;exact qf (q e4 _ cZ Cp hb rfl trivial)
 |true=>
  rw[if_pos rfl]at h;obtain⟨w,gd,eO,h⟩:=M.inv h;refine qg ⟨e4,Y,_,w,gd,hb,eO,λQi cc hU nD z8 rw nw=>?_⟩;exact aU Qi Y gd av hU t5 cc y w _ ai Q z8 (bC.go (g3.trans nD)) rw h λaq v H' g cq bu nn=>q aq v H' ((Cp.trans nD).trans g) cq bu (nn.back (Cp.trans nD).same)
@[simp] def lF(a b:bo)(Y:aR):M R:=do
 let x <-a Y
 let t <-x.qD
 if t=true then b Y else pure (.v (.aC false))
def x9(a:bo):bo:=λY=>do
 let x <-a Y
 let t <-x.qD
 pure (.v (.aC (!t)))
def hQ(a b:aR->M Bool):aR->M Bool:=λY=>do
 let t <-a Y
 if t=true then b Y else pure false
@[simp] def iC(a b:aR->M Bool)(Y:aR):M Bool:=do
 let t <-a Y
 if t=true then pure true else b Y
@[simp] def gg(a:aR->M Bool)(Y:aR):M Bool:=do
 let t <-a Y
 pure (!t)
def xp.cw(h:xp X a b9):F2 X a b9:=h.pt
end
def rL(g:Int->Int->Int):R->R->M R
 |.v (.int i),.v (.int j)=>pure (.v (.int (g i j)))|_,_=>bad
def o8(C:Int->Int->Prop)[∀i j,Decidable (C i j)](g:Int->Int->Int):R->R->M R
 |.v (.int i),.v (.int j)=>if C i j then pure (.v (.int (g i j)))else bad|_,_=>bad
def rK(g:Int->Int->Bool):R->R->M R
 |.v (.int i),.v (.int j)=>pure (.v (.aC (g i j)))|_,_=>bad
section
variable{K:aS}{mg:bq}
def x3{g:Int->Int->Int}:eK K mg (h9 λi j=>.int (g i j)) (rL g):=λO Y S av H x y a7 bC bT ai Q st ag bg h q=>by
 unfold rL at h;split at h
 .rename_i i j
  cases h;exact⟨i,j,ag,bg,q O _ H (Go.refl _ _) st rfl trivial⟩
 .cases h
def sz{C:Int->Int->Prop}{ll:Int->Int->Prop}[∀i j,Decidable (ll i j)]{g:Int->Int->Int}(fT:∀i j,ll i j->C i j):eK K mg (kA C λi j=>.int (g i j)) (o8 ll g):=λO Y S av H x y a7 bC bT ai Q st ag bg h q=>by
 unfold o8 at h;split at h
 .rename_i i j
  by_cases c:ll i j
  .rw[if_pos c]at h
   cases h;exact⟨i,j,ag,bg,fT i j c,q O _ H (Go.refl _ _) st rfl trivial⟩
  .rw[if_neg c]at h;cases h
 .cases h
def x2{g:Int->Int->Bool}:eK K mg (h9 λi j=>.aC (g i j)) (rK g):=λO Y S av H x y a7 bC bT ai Q st ag bg h q=>by
 unfold rK at h;split at h
 .rename_i i j
  cases h;exact⟨i,j,ag,bg,q O _ H (Go.refl _ _) st rfl trivial⟩
 .cases h
end
abbrev f7:=rL (· + ·)
abbrev Eh:=rL (· - ·)
abbrev oMod:=o8 (λ_ j=>0<j) (· % ·)
abbrev nZ:=o8 (λi j=>0<=j/\j<=1000000/\i.natAbs<2 ^ 64) (λi j=>i ^ j.toNat)
abbrev Ee:=o8 (λi j=>0<=j/\j<=1000000/\i.natAbs<2 ^ 64) (λi j=>i*2 ^ j.toNat)
abbrev Ef:=o8 (λ_ j=>0<=j) (λi j=>i / 2 ^ j.toNat)
abbrev Ed:=rL amm
abbrev tC:=rL amZ
abbrev oLt:=rK λi j=>decide (i<j)
abbrev oLe:=rK λi j=>decide (i<=j)
abbrev wg:=rK λi j=>decide (j<i)
abbrev o7:=rK λi j=>decide (j<=i)
section
variable{X:aT}
def QM:eK X.K X.mg (h9 λi j=>.int (i+j)) f7:=x3
def QZ:eK X.K X.mg (h9 λi j=>.int (i-j)) Eh:=x3
def QU:eK X.K X.mg (kA (λ_ j=>0<j) λi j=>.int (i % j)) oMod:=sz λ_ _ h=>h
def QW:eK X.K X.mg (kA xo λi j=>.int (i ^ j.toNat)) nZ:=sz λ_ _ h=>h
def QX:eK X.K X.mg (kA xo λi j=>.int (i*2 ^ j.toNat)) Ee:=sz λ_ _ h=>h
def QY:eK X.K X.mg (kA (λ_ j=>0<=j) λi j=>.int (i / 2 ^ j.toNat)) Ef:=sz λ_ _ h=>h
def QN:eK X.K X.mg (h9 λi j=>.int (amm i j)) Ed:=x3
def QO:eK X.K X.mg (h9 λi j=>.int (amZ i j)) tC:=x3
def Gx:eK X.K X.mg (h9 λi j=>.aC (decide (i<j))) oLt:=x2
def Bd:eK X.K X.mg (h9 λi j=>.aC (decide (i<=j))) oLe:=x2
def QT:eK X.K X.mg (h9 λi j=>.aC (decide (j<i))) wg:=x2
def Gu:eK X.K X.mg (h9 λi j=>.aC (decide (j<=i))) o7:=x2
end
@[simp] def bQ(f:R->M R)(a:bo)(Y:aR):M R:=do
 let x <-a Y
 f x
def R.fX:R->Option (List D)
 |.v (.lst xs)=>some xs|.fr xs=>some xs|.cc xs=>some xs|.mv xs=>some xs|_=>none
def R.Fs:R->Option (List D)
 |.v (.tup xs)=>some xs|_=>none
def R.seq(r:R):Option (List D):=r.fX<|> r.Fs
def R.nO{K:aS}{mg:bq}{O:a5}{H:aw}{r:R}{v:V}{xs:List D}(h:e5 K mg O H r v)(e:r.fX=some xs):∃a ys,v=.ref a/\dx K H a ys/\bb K mg O H xs ys:=by
 unfold R.fX at e;split at e
 .cases e;obtain⟨a,ys,q,l,r⟩:=h;exact⟨a,ys,q,l.dP,r⟩
 .cases e;obtain⟨a,ys,q,l,_,r⟩:=h;exact⟨a,ys,q,dx.of l,r⟩
 .cases e;obtain⟨a,ys,q,l,r⟩:=h;exact⟨a,ys,q,l.dP,r⟩
 .cases e;obtain⟨a,ys,q,l,r⟩:=h;exact⟨a,ys,q,dx.of l,r⟩
 .cases e
def R.afp{K:aS}{mg:bq}{O:a5}{H:aw}{r:R}{v:V}{xs:List D}(h:e5 K mg O H r v)(e:r.Fs=some xs):∃a ys,v=.ref a/\dQ K H a ys/\bb K mg O H xs ys:=by
 unfold R.Fs at e;split at e
 .cases e;exact h
 .cases e
def R.z3{K:aS}{mg:bq}{O:a5}{H:aw}{r:R}{v:V}{xs:List D}(h:e5 K mg O H r v)(e:r.seq=some xs):∃a ys,v=.ref a/\(dx K H a ys\/dQ K H a ys)/\bb K mg O H xs ys:=by
 unfold R.seq at e
 cases ao:r.fX with
 |some zs=>rw[ao]at e;cases e;obtain⟨a,ys,q,l,r⟩:=R.nO h ao;exact⟨a,ys,q,.inl l,r⟩
 |none=>rw[ao]at e;obtain⟨a,ys,q,l,r⟩:=R.afp h e;exact⟨a,ys,q,.inr l,r⟩
def bb.e_{O:a5}{i:Int}(h:bb K mg O H ds xs)(e:e_ ds i=some d):∃x,aF.e_ xs i=some x/\Rep K mg O H d x:=by
 unfold aF.e_ at e ⊢;rw[h.len]
 cases q:ru ds.length i with
 |none=>rw[q]at e;cases e
 |some j=>rw[q]at e;exact h.get e
def aL:R->R->M R
 |.v (.str z),.v (.int i)=>match e_ z.cps.toList i with
  |some c=>if z.length<=ajL then pure (.v (.str ⟨#[c]⟩))else bad|none=>bad
 |x,.v (.int i)=>match x.seq with
  |some xs=>match e_ xs i with
   |some d=>pure (.v d)|none=>bad
  |none=>bad
 |_,_=>bad
def ip:eK K mg (M5 K) aL:=fun O Y S av H x y a7 bC bT ai Q st ag bg h q=>by
 unfold aL at h;split at h
 .rename_i z i
  split at h
  .rename_i c az
   by_cases hz:z.length<=ajL
   .rw[if_pos hz]at h
    cases h;exact .inr (.inr ⟨z,i,c,ag,bg,hz,az,q O _ H (Go.refl _ _) st rfl trivial⟩)
   .rw[if_neg hz]at h;cases h
  .cases h
 .rename_i i _
  split at h
  .rename_i xs e
   split at h
   .rename_i d az
    cases h;obtain⟨a,ys,rfl,l,bt⟩:=R.z3 ag e;obtain⟨z,cG,j9⟩:=bb.e_ bt az;have i4:=q O z H (Go.refl _ _) st j9 trivial;rcases l with l|l
    .exact .inl ⟨a,ys,i,z,rfl,bg,l,cG,i4⟩
    .exact .inr (.inl ⟨a,ys,i,z,rfl,bg,l,cG,i4⟩)
   .cases h
  .cases h
 .cases h
def aj:c7:=λ_=>pure []
@[simp] def U(m:bo)(ms:c7)(Y:aR):M (List R):=do
 let x <-m Y
 let xs <-ms Y
 pure (x::xs)
def R.dat:R->M D
 |.v d=>pure d|.fr xs=>pure (.lst xs)|_=>bad
def kS:List R->M (List D)
 |[]=>pure []|r::rs=>do
  let d <-r.dat
  let ds <-kS rs
  pure (d::ds)
def cg(H₀:aw)(O:a5):a5:=⟨λb=>match H₀ b,O b with
 |none,.dF=>.free| _,o=>o,O.bM⟩
def yv{H₀:aw}{O:a5}(h:H₀ b≠none):cg H₀ O b=O b:=by
 show(match H₀ b,O b with|none,.dF=>.free|_,o=>o)=O b
 cases e:H₀ b with
 |none=>exact absurd e h|some o=>cases O b<;>rfl
def yw{H₀:aw}{O:a5}(h:H₀ b=none)(t:O b=.dF):cg H₀ O b=.free:=by show(match H₀ b,O b with|none,.dF=>.free|_,o=>o)=Own.free;rw[h,t]
def rb{O:a5}(t:O b≠.dF):cg H₀ O b=O b:=by
 show(match H₀ b,O b with|none,.dF=>.free|_,o=>o)=O b;cases e:H₀ b<;>cases az:O b<;>first|rfl|exact absurd az t
def js(H₀:aw)(O:a5):nc O (cg H₀ O):=⟨λa h=>by rw[rb (by rw[h];intro z;cases z),h],rfl⟩
def jS.dA{O aq:a5}(g:nc O aq)(bf:∀a,O a=.out->aq a=.out)(hw:∀a,O a=w->aq a=w):∀{s:Slot}{u:Option V},jS K mg O H w s u->jS K mg aq H w s u
 |.e,_,_=>trivial| .v _,_,h=>by obtain⟨v,q,r⟩:=h;exact⟨v,q,r.dA g⟩
 |.eH _ _,_,h=>by obtain⟨a,ys,q,o,l,r⟩:=h;exact⟨a,ys,q,hw a o,l,r.dA g⟩
 |.cc _,_,h=>by
  obtain⟨a,ys,q,l,r⟩:=h;refine⟨a,ys,q,l.imp (λz=>⟨z.1,z.2.imp (g.fr a) (bf a)⟩) id,r.dA g⟩
section
variable{K:aS}{mg:bq}{O:a5}{Y:aR}{S:cz}{av:St}{H H₀:aw}
def cO.cg(h:cO K mg O Y S av H)(H₀:aw):cO K mg (cg H₀ O) Y S av H:=
  ⟨⟨λa ar=>h.cn.has a λz=>ar (by rw[rb (by rw[z];intro w;cases w),z]),h.cn.tabs,h.cn.cp.1,λa m=>by rw[rb (by rw[h.cn.cp.2 a m];intro w;cases w)];exact h.cn.cp.2 a m⟩,h.len,
   λi s e=>(h.loc i s e).dA (js _ _) (λa z=>by rw[rb (by rw[z];intro w;cases w),z]) (λa z=>by rw[rb (by rw[z];intro w;cases w),z]),h.hc.all (λ_ _ z=>Rep.dA (js _ _) z) rfl λ_ _ _ l _=>l⟩
def Go.cg{pL:a5}(g:Go pL O H₀ H):Go pL (cg H₀ O) H₀ H:=⟨g.same,λb af=>(yv af).trans (g.own b af),g.bM⟩
def p0{r:R}{v:V}(aB:e5 K mg O H r v)(aH:jQ H₀ r v)(h:r.dat.run S=.ok d ai):Rep K mg (a0.cg H₀ O) H d v/\S=ai:=by
 cases r with
 |v d'=>cases h;exact⟨Rep.dA (js _ _) aB,rfl⟩
 |fr xs=>
  cases h;obtain⟨a,ys,rfl,l,t,bt⟩:=aB;exact⟨⟨a,ys,rfl,⟨l,yw (aH a rfl) t⟩,bb.dA (js _ _) bt⟩,rfl⟩
 |cc xs=>cases h
 |mv xs=>cases h
theorem ye:∀{rs:List R}{vs:List V}{ds:List D}{S ai:cz},gx K mg O H rs vs->kM H₀ rs vs->(kS rs).run S=.ok ds ai->bb K mg (a0.cg H₀ O) H ds vs/\S=ai
 |[],vs,ds,S,ai,aB,_,h=>by cases h;exact⟨aB,rfl⟩
 |r::rs,vs,ds,S,ai,aB,aH,h=>by
  obtain⟨d,S1,ae,h⟩:=M.inv h;obtain⟨nx,bc,ah,h⟩:=M.inv h;cases h;obtain⟨v,FD,rfl,bG,cx⟩:=aB;obtain⟨bz,rfl⟩:=p0 (H₀:=H₀) bG aH.1 ae;obtain⟨cf,rfl⟩:=ye cx aH.2 ah;exact⟨⟨v,FD,rfl,bz,cf⟩,rfl⟩
end
@[simp] def bB(ms:c7)(Y:aR):M R:=do
 let rs <-ms Y
 let ds <-kS rs
 hY (ds.length<=1000)
 pure (.v (.tup ds))
@[simp] def dJ(ms:c7)(Y:aR):M R:=do
 let rs <-ms Y
 let ds <-kS rs
 hY (ds.length<=1000)
 pure (.fr ds)
@[simp] def cE(f:List R->M R)(ms:c7)(Y:aR):M R:=do
 let rs <-ms Y
 f rs
def jL(K:aS)(mg:bq)(r:List V->aw->df->Prop)(f:List R->M R):Prop:=
 ∀O Y S av H xs rs bT ai (Q:df),cO K mg O Y S av H->gx K mg O H rs xs->(f rs).run S=.ok bT ai->xB K mg O Y ai av H bT Q->r xs H Q
section
variable{ms:c7}{r:List V->aw->df->Prop}{f:List R->M R}
def H9(hf:jL K mg r f):∀av H Q,fB K mg (cE f ms) av H Q->Fn r (oa K mg ms) av H Q:=by
 rintro av H Q ⟨O,Y,S,bT,ai,st,h,q⟩;obtain⟨rs,S1,ae,h⟩:=M.inv h;refine⟨O,Y,S,rs,S1,st,ae,λaO vs H1 g1 aV bu nn=>?_⟩;exact hf aO Y S1 av H1 vs rs bT ai Q aV bu h λaq v H' g cq acV aaI=>q aq v H' (g1.trans g) cq acV (aaI.back g1.same)
end
def gq:List R->M R
 |[x]=>match x.seq with
  |some xs=>pure (.v (.int (xs.length:Nat)))|none=>bad
 |_=>bad
def uS:List R->M R
 |[.v (.str z)]=>if z.length<=ajL then pure (.v (.int (z.length:Nat)))else bad|_=>bad
def R.kind:R->Option String
 |.v .aG=>some "NoneType"|.v (.aC _)=>some "bool"|.v (.int _)=>some "int"|.v (.str _)=>some "str"|.v (.tup _)=>some "tuple"|.v (.lst _)=>some "list"|.fr _=>some "list"|.cc _=>some "list"|.mv _=>some "list"|_=>none
def hZ:List R->M R
 |[x,.v (.ty n)]=>match x.kind with
  |some t=>if n∈["int","bool","tuple","list","str"]then pure (.v (.aC (i8 t n)))else bad|none=>bad
 |_=>bad
def ym(g:Int->Int->Int):List R->M R
 |[.v (.int i),.v (.int j)]=>pure (.v (.int (g i j)))|_=>bad
abbrev VI:=ym λi j=>if j > i then j else i
def uP:List R->M R
 |[.v (.int i)]=>pure (.v (.int (if i<0 then -i else i)))|_=>bad
def pX:List D->Option (List Bool)
 |[]=>some []|.aC b::r=>(pX r).map (b::·)|_=>none
def aiW:List R->M R
 |[x]=>match x.fX.bind pX with
  |some bs=>pure (.v (.aC (bs.any id)))|none=>bad
 |_=>bad
def sI:List R->M R
 |[x]=>match x.fX.bind pX with
  |some bs=>pure (.v (.aC (bs.all id)))|none=>bad
 |_=>bad
def uQ:List R->M R
 |[.v (.int i)]=>pure (.v (.int i))|[.v (.aC b)]=>pure (.v (.int (if b then 1 else 0)))|_=>bad
def mq:List R->M R
 |[x]=>match x.seq with
  |some xs=>pure (.v (.tup xs))|none=>bad
 |_=>bad
section
variable{K:aS}{mg:bq}
def kB{O:a5}{r:R}(h:gx K mg O H [r] vs):∃v,vs=[v]/\e5 K mg O H r v:=by
 obtain⟨v,bT,rfl,a,b⟩:=h;cases b;exact⟨v,rfl,a⟩
def E0{O:a5}{r s:R}(h:gx K mg O H [r,s] vs):∃v u,vs=[v,u]/\e5 K mg O H r v/\e5 K mg O H s u:=by
 obtain⟨v,bT,rfl,a,b⟩:=h;obtain⟨u,ajp,rfl,c,d⟩:=b;cases d;exact⟨v,u,rfl,a,c⟩
def Za:jL K mg (λxs H Q=>∃p ys,xs=[.ref p]/\(dx K H p ys\/dQ K H p ys)/\Q (.int ys.length) H) gq:=λO Y S av H vs rs bT ai Q st aB h q=>by
 unfold gq at h;split at h
 .rename_i x
  obtain⟨v,rfl,ag⟩:=kB aB;split at h
  .rename_i xs e
   cases h;obtain⟨a,ys,rfl,l,bt⟩:=R.z3 ag e;exact⟨a,ys,rfl,l,by rw[bt.len];exact q O _ H (Go.refl _ _) st rfl trivial⟩
  .cases h
 .cases h
def Zb:jL K mg (λxs H Q=>∃z,xs=[.str z]/\z.length<=ajL/\Q (.int z.length) H) uS:=λO Y S av H vs rs bT ai Q st aB h q=>by
 unfold uS at h;split at h
 .rename_i z
  obtain⟨v,rfl,ag⟩:=kB aB;cases(show v=.str z from ag)
  by_cases hz:z.length<=ajL
  .rw[if_pos hz]at h
   cases h;exact⟨z,rfl,hz,q O _ H (Go.refl _ _) st rfl trivial⟩
  .rw[if_neg hz]at h;cases h
 .cases h
def R.KZ{O:a5}{H:aw}{r:R}{v:V}{t:String}(h:e5 K mg O H r v)(e:r.kind=some t):l_ K H v t:=by
 unfold R.kind at e;split at e
 .cases e;cases h;exact .aG
 .cases e;cases h;exact .aC _
 .cases e;cases h;exact .int _
 .cases e;cases h;exact .str _
 .cases e;obtain⟨a,ys,rfl,l,_⟩:=h;exact .tup l
 .cases e;obtain⟨a,ys,rfl,l,_⟩:=h;exact .lst l.dP
 .cases e;obtain⟨a,ys,rfl,l,_⟩:=h;exact .lst (dx.of l)
 .cases e;obtain⟨a,ys,rfl,l,_⟩:=h;exact .lst l.dP
 .cases e;obtain⟨a,ys,rfl,l,_⟩:=h;exact .lst (dx.of l)
 .cases e
def Y_:jL K mg (M3 K) hZ:=fun O Y S av H vs rs bT ai Q st aB h q=>by
 unfold hZ at h;split at h
 .rename_i x n
  obtain⟨v,u,rfl,ag,bg⟩:=E0 aB;cases(show u=.ty n from bg);split at h
  .rename_i t e
   by_cases aH:n∈["int","bool","tuple","list","str"]
   .rw[if_pos aH]at h
    cases h;exact⟨v,n,t,rfl,R.KZ ag e,aH,q O _ H (Go.refl _ _) st rfl trivial⟩
   .rw[if_neg aH]at h;cases h
  .cases h
 .cases h
def Y6{g:Int->Int->Int}:jL K mg (λxs H Q=>∃i j,xs=[.int i,.int j]/\Q (.int (g i j)) H) (ym g):=λO Y S av H vs rs bT ai Q st aB h q=>by
 unfold ym at h;split at h
 .rename_i i j
  obtain⟨v,u,rfl,ag,bg⟩:=E0 aB;cases(show v=.int i from ag);cases(show u=.int j from bg);cases h;exact⟨i,j,rfl,q O _ H (Go.refl _ _) st rfl trivial⟩
 .cases h
def Y7:jL K mg (λxs H Q=>∃i,xs=[.int i]/\Q (.int (if i<0 then -i else i)) H) uP:=λO Y S av H vs rs bT ai Q st aB h q=>by
 unfold uP at h;split at h
 .rename_i i
  obtain⟨v,rfl,ag⟩:=kB aB;cases(show v=.int i from ag);cases h;exact⟨i,rfl,q O _ H (Go.refl _ _) st rfl trivial⟩
 .cases h
theorem H2{O:a5}:∀{ds:List D}{ys:List V}{bs:List Bool},bb K mg O H ds ys->pX ds=some bs->ys=bs.map V.aC
 |[],ys,bs,h,e=>by cases e;exact h
 |d::ds,ys,bs,h,e=>by
  cases d with
  |aC b=>
   have e:(pX ds).map (b::·)=some bs:=e;obtain⟨cs,ao,rfl⟩:=amk.mp e;obtain⟨y,r,rfl,ae,ah⟩:=h;rw[H2 ah ao,show y=.aC b from ae];rfl
  |_=>exact absurd (show(none:Option (List Bool))=some bs from e) (by intro z;cases z)
def Y8:jL K mg (λxs H Q=>∃(l:Addr)(bs:List Bool),xs=[.ref l]/\dx K H l (bs.map V.aC)/\Q (.aC (bs.all id)) H) sI:=λO Y S av H vs rs bT ai Q st aB h q=>by
 unfold sI at h;split at h
 .rename_i x
  obtain⟨v,rfl,ag⟩:=kB aB;split at h
  .rename_i xs e
   cases h;obtain⟨zs,ao,az⟩:=aol.mp e;obtain⟨a,ys,rfl,l,bt⟩:=R.nO ag ao;rw[H2 bt az]at l;exact⟨a,xs,rfl,l,q O _ H (Go.refl _ _) st rfl trivial⟩
  .cases h
 .cases h
def Y9:jL K mg (λxs H Q=>(∃i,xs=[.int i]/\Q (.int i) H)\/∃k,xs=[.aC k]/\Q (.int (if k then 1 else 0)) H) uQ:=λO Y S av H vs rs bT ai Q st aB h q=>by
 unfold uQ at h;split at h
 .rename_i i
  obtain⟨v,rfl,ag⟩:=kB aB;cases(show v=.int i from ag);cases h;exact .inl ⟨i,rfl,q O _ H (Go.refl _ _) st rfl trivial⟩
 .rename_i b
  obtain⟨v,rfl,ag⟩:=kB aB;cases(show v=.aC b from ag);cases h;exact .inr ⟨b,rfl,q O _ H (Go.refl _ _) st rfl trivial⟩
 .cases h
def Dt:jL K mg (λxs H Q=>∃p ys,xs=[.ref p]/\((dx K H p ys/\∀l,H l=none->Q (.ref l) (upd H l (.tup ys)))\/(dQ K H p ys/\Q (.ref p) H))) mq:=λO Y S av H vs rs bT ai Q st aB h q=>by
 unfold mq at h;split at h
 .rename_i x
  obtain⟨v,rfl,ag⟩:=kB aB;split at h
  .rename_i xs e
   cases h;obtain⟨a,ys,rfl,l,bt⟩:=R.z3 ag e;refine⟨a,ys,rfl,?_⟩;rcases l with l|l
   .exact .inl ⟨l,λp aK=>q O _ _ (Go.fI aK) (st.fI aK) ⟨p,ys,rfl,dQ.of dG,bt.go (Go.fI aK)⟩ trivial⟩
   .exact .inr ⟨l,q O _ _ (Go.refl _ _) st ⟨a,ys,rfl,l,bt⟩ trivial⟩
  .cases h
 .cases h
end
def cutD{α:Type}(xs:List α)(lo aD:Option Int):List α:=(xs.drop (ej.c4 xs.length 0 lo)).take (ej.c4 xs.length xs.length aD-ej.c4 xs.length 0 lo)
def bb.cut{O:a5}(h:bb K mg O H ds xs)(lo aD:Option Int):bb K mg O H (cutD ds lo aD) (pY xs lo aD):=by
 unfold cutD pY;rw[h.len];exact(h.drop _).take _
abbrev pK:=aR->M (Option Int)
def afm(K:aS)(mg:bq)(m:pK):d3:=λav H Q=>pO K mg m av H λO Y ai b=>∀aq H',Go O aq H H'->cO K mg aq Y ai av H'->Q b H'
abbrev P5(X:aT)(e:Option Expr)(m:pK):Prop:=uk X e (afm X.K X.mg m)
def By:pK:=λ_=>pure none
@[simp] def sD(m:bo)(Y:aR):M (Option Int):=do
 let r <-m Y
 match r with
 |.v (.int i)=>pure (some i)|_=>bad
def Mm(x:R)(lo aD:Option Int):M R:=
 match x with
 |.v (.tup xs)=>if ej.c4 xs.length 0 lo=0/\ej.c4 xs.length xs.length aD=xs.length then bad else pure (.v (.tup (cutD xs lo aD)))|_=>match x.fX with
  |some xs=>pure (.fr (cutD xs lo aD))|none=>bad
def x'(a:bo)(lo aD:pK):bo:=λY=>do
 let x <-a Y
 let l <-lo Y
 let h <-aD Y
 Mm x l h
def R.own:R->Option (List D)
 |.v (.lst xs)=>some xs|.fr xs=>some xs|.mv xs=>some xs|_=>none
def jy(x y:R):M R:=match x.own,y.own with
 |some xs,some ys=>if xs.length+ys.length<=ajL then pure (.fr (xs++ys))else bad|_,_=>bad
def tD:R->R->M R
 |.v (.str x),.v (.str y)=>if x.length+y.length<=ajL then pure (.v (.str (x++y)))else bad|_,_=>bad
def R.Et{K:aS}{mg:bq}{O:a5}{H:aw}{r:R}{v:V}{xs:List D}(h:e5 K mg O H r v)(e:r.own=some xs):∃a ys,v=.ref a/\H a=some (.lst ys)/\bb K mg O H xs ys:=by
 unfold R.own at e;split at e
 .cases e;obtain⟨a,ys,q,l,r⟩:=h;exact⟨a,ys,q,l.1,r⟩
 .cases e;obtain⟨a,ys,q,l,_,r⟩:=h;exact⟨a,ys,q,l,r⟩
 .cases e;obtain⟨a,ys,q,l,r⟩:=h;exact⟨a,ys,q,l,r⟩
 .cases e
section
variable{K:aS}{mg:bq}
def QP:eK K mg M0 jy:=fun O Y S av H x y a7 bC bT ai Q st ag bg h q=>by
 unfold jy at h
 cases ao:a7.own with
 |none=>rw[ao]at h;cases h
 |some xs=>
  cases az:bC.own with
  |none=>rw[ao,az]at h;cases h
  |some ys=>
   rw[ao,az]at h;dsimp only at h
   by_cases au:xs.length+ys.length<=ajL
   .rw[if_pos au]at h
    cases h;obtain⟨a,us,rfl,b',bG⟩:=R.Et ag ao;obtain⟨b,ws,rfl,cD,cx⟩:=R.Et bg az;refine⟨a,b,us,ws,rfl,rfl,b',cD,by rw[bG.len,cx.len];exact au,λp aK=>q (f9 O p .dF) _ _ (Go.new aK) (st.new aK) ⟨p,_,rfl,dG,ob,(bG.append cx).go (Go.new aK)⟩ λb dc=>?_⟩;cases dc;exact aK
   .rw[if_neg au]at h;cases h
def QQ:eK K mg (λx y H Q=>∃i j,x=.str i/\y=.str j/\i.length+j.length<=ajL/\Q (.str (i++j)) H) tD:=λO Y S av H x y a7 bC bT ai Q st ag bg h q=>by
 unfold tD at h;split at h
 .rename_i i j
  by_cases au:i.length+j.length<=ajL
  .rw[if_pos au]at h
   cases h;exact⟨i,j,ag,bg,au,q O _ H (Go.refl _ _) st rfl trivial⟩
  .rw[if_neg au]at h;cases h
 .cases h
end
def D.py:D->PyData
 |.aG=>.none|.aC b=>.bool b|.int i=>.int i|.str x=>.str x|.tup xs=>.tuple (lX xs)|.lst xs=>.list (lX xs)|.ref _=>.none|.fn _=>.none|.ty _=>.none
where lX:List D->List PyData
 |[]=>[]
 |x::xs=>x.py::lX xs
mutual
def D.bV:D->Nat->Bool
 |.aG,_=>true|.aC _,_=>true|.int _,_=>true|.str x,_=>aj2 x|.tup xs,n=>match n with
  |0=>false|k+1=>iN xs k
 |.lst xs,n=>match n with
  |0=>false|k+1=>iN xs k
 |.ref _,_=>false|.fn _,_=>false|.ty _,_=>false
def iN:List D->Nat->Bool
 |[],_=>true|x::xs,n=>x.bV n&&iN xs n
end
mutual
def jz:D->D->Bool
 |.aG,b=>match b with|.aG=>true|_=>false
 |.aC a,b=>match b with|.aC c=>a==c|.int j=>(if a then 1 else 0)==j|_=>false
 |.int i,b=>match b with|.aC c=>i==(if c then 1 else 0)|.int j=>i==j|_=>false
 |.str x,b=>match b with|.str y=>x==y|_=>false
 |.tup xs,b=>match b with|.tup ys=>rN xs ys|_=>false
 |.lst xs,b=>match b with|.lst ys=>rN xs ys|_=>false
 |.ref _,_=>false|.fn _,_=>false|.ty _,_=>false
def rN:List D->List D->Bool
 |[],ys=>match ys with|[]=>true|_=>false
 |x::xs,ys=>match ys with|[]=>false|y::r=>jz x y&&rN xs r
end
mutual
theorem B8:∀(a b:D)(n m:Nat),a.bV n=true->b.bV m=true->aoC a.py b.py=jz a b
 |.aG,b,n,m,ar,af=>by cases b<;>first|rfl|(simp[D.bV]at af)
 |.aC _,b,n,m,ar,af=>by cases b<;>first|rfl|(simp[D.bV]at af)
 |.int _,b,n,m,ar,af=>by cases b<;>first|rfl|(simp[D.bV]at af)
 |.str _,b,n,m,ar,af=>by cases b<;>first|rfl|(simp[D.bV]at af)
 |.tup xs,b,n,m,ar,af=>by
  cases b with
  |tup ys=>
   cases n with
   |zero=>simp[D.bV]at ar|succ k=>
    cases m with
    |zero=>simp[D.bV]at af|succ j=>exact B9 xs ys k j ar af
  |ref _=>simp[D.bV]at af|fn _=>simp[D.bV]at af|ty _=>simp[D.bV]at af|_=>rfl
 |.lst xs,b,n,m,ar,af=>by
  cases b with
  |lst ys=>
   cases n with
   |zero=>simp[D.bV]at ar|succ k=>
    cases m with
    |zero=>simp[D.bV]at af|succ j=>exact B9 xs ys k j ar af
  |ref _=>simp[D.bV]at af|fn _=>simp[D.bV]at af|ty _=>simp[D.bV]at af|_=>rfl
 |.ref _,b,n,m,ar,af=>by simp[D.bV]at ar| .fn _,b,n,m,ar,af=>by simp[D.bV]at ar| .ty _,b,n,m,ar,af=>by simp[D.bV]at ar
theorem B9:∀(xs ys:List D)(n m:Nat),iN xs n=true->iN ys m=true->PyData.eqvAll (D.py.lX xs) (D.py.lX ys)=rN xs ys
 |[],ys,n,m,ar,af=>by cases ys<;>rfl
 |x::xs,ys,n,m,ar,af=>by
  cases ys with
  |nil=>rfl|cons y r=>
   rw[iN,ako]at ar af;show(aoC x.py y.py&&PyData.eqvAll (D.py.lX xs) (D.py.lX r))=(jz x y&&rN xs r);rw[B8 x y n m ar.1 af.1,B9 xs r n m ar.2 af.2]
end
mutual
theorem Jg:∀(a:D)(n:Nat),a.bV n=true->a.py.canLay0=true/\a.py.depth<=n
 |.aG,n,h=>⟨rfl,aj5 _⟩
 |.aC _,n,h=>⟨rfl,aj5 _⟩
 |.int _,n,h=>⟨rfl,aj5 _⟩
 |.str _,n,h=>⟨h,aj5 _⟩
 |.tup xs,n,h=>by
  cases n with
  |zero=>simp[D.bV]at h|succ k=>obtain⟨bz,cf⟩:=Cw xs k h;exact⟨bz,Nat.succ_le_succ cf⟩
 |.lst xs,n,h=>by
  cases n with
  |zero=>simp[D.bV]at h|succ k=>obtain⟨bz,cf⟩:=Cw xs k h;exact⟨bz,Nat.succ_le_succ cf⟩
 |.ref _,n,h=>by simp[D.bV]at h| .fn _,n,h=>by simp[D.bV]at h| .ty _,n,h=>by simp[D.bV]at h
theorem Cw:∀(xs:List D)(n:Nat),iN xs n=true->PyData.canLayAll0 (D.py.lX xs)=true/\PyData.depthAll (D.py.lX xs)<=n
 |[],n,h=>⟨rfl,aj5 _⟩
 |x::xs,n,h=>by
  rw[iN,ako]at h;obtain⟨a1,a2⟩:=Jg x n h.1;obtain⟨b4,b5⟩:=Cw xs n h.2;exact⟨by show(x.py.canLay0&&PyData.canLayAll0 (D.py.lX xs))=true;rw[a1,b4];rfl,by show max x.py.depth (PyData.depthAll (D.py.lX xs))<=n;omega⟩
end
def yz{a:D}(h:a.bV 64=true):aoN a.py=true:=by
 obtain⟨ae,ah⟩:=Jg a 64 h;show(a.py.canLay0&&decide (a.py.depth<=64))=true;rw[ae,decide_eq_true ah];rfl
mutual
theorem Rep.py{O:a5}:∀{d:D}{v:V}{n:Nat},d.bV n=true->Rep K mg O H d v->aF.Rep K H d.py v
 |.aG,_,_,_,h=>h|.aC _,_,_,_,h=>h|.int _,_,_,_,h=>h|.str _,_,_,_,h=>h|.tup _,_,n,g,h=>by
  cases n with
  |zero=>simp[D.bV]at g|succ k=>obtain⟨a,ys,q,l,r⟩:=h;exact⟨a,ys,q,l,bb.py (n:=k) g r⟩
 |.lst _,_,n,g,h=>by
  cases n with
  |zero=>simp[D.bV]at g|succ k=>obtain⟨a,ys,q,l,r⟩:=h;exact⟨a,ys,q,l.dP,bb.py (n:=k) g r⟩
 |.ref _,_,_,g,h=>by simp[D.bV]at g| .fn _,_,_,g,h=>by simp[D.bV]at g| .ty _,_,_,g,h=>by simp[D.bV]at g
theorem bb.py{O:a5}:∀{ds:List D}{ys:List V}{n:Nat},iN ds n=true->bb K mg O H ds ys->aF.bb K H (D.py.lX ds) ys
 |[],_,_,_,h=>h|_::_,_,n,g,h=>by
  rw[iN,ako]at g;obtain⟨x,r,q,a,b⟩:=h;exact⟨x,r,q,Rep.py g.1 a,bb.py g.2 b⟩
end
def R.arg:R->D
 |.v d=>d|.fr xs=>.lst xs|.cc xs=>.lst xs|.mv xs=>.lst xs
def R.xN{K:aS}{mg:bq}{O:a5}{H:aw}{r:R}{v:V}{n:Nat}(g:r.arg.bV n=true)(h:e5 K mg O H r v):aF.Rep K H r.arg.py v:=by
 have fX:∀xs,r.fX=some xs->(D.lst xs).bV n=true->aF.Rep K H (D.lst xs).py v:=λxs e g=>by
  obtain⟨a,ys,q,l,bt⟩:=R.nO h e
  cases n with
  |zero=>simp[D.bV]at g|succ k=>exact⟨a,ys,q,l,bb.py (n:=k) g bt⟩
 cases r with
 |v d=>exact Rep.py g h|fr xs=>exact fX xs rfl g|cc xs=>exact fX xs rfl g|mv xs=>exact fX xs rfl g
def oEq(x y:R):M R:=if x.arg.bV 64=true/\y.arg.bV 64=true then pure (.v (.aC (jz x.arg y.arg)))else bad
def ef(x y:R):M R:=if x.arg.bV 64=true/\y.arg.bV 64=true then pure (.v (.aC (!jz x.arg y.arg)))else bad
section
variable{K:aS}{mg:bq}
def Bb:eK K mg (z0 K false) oEq:=λO Y S av H x y a7 bC bT ai Q st ag bg h q=>by
 unfold oEq at h
 by_cases c:a7.arg.bV 64=true/\bC.arg.bV 64=true
 .rw[if_pos c]at h
  cases h;refine⟨_,_,R.xN c.1 ag,R.xN c.2 bg,yz c.1,yz c.2,?_⟩;rw[if_neg ajO,B8 _ _ _ _ c.1 c.2];exact q O _ H (Go.refl _ _) st rfl trivial
 .rw[if_neg c]at h;cases h
def xR:eK K mg (z0 K true) ef:=λO Y S av H x y a7 bC bT ai Q st ag bg h q=>by
 unfold ef at h
 by_cases c:a7.arg.bV 64=true/\bC.arg.bV 64=true
 .rw[if_pos c]at h
  cases h;refine⟨_,_,R.xN c.1 ag,R.xN c.2 bg,yz c.1,yz c.2,?_⟩;rw[if_pos rfl,B8 _ _ _ _ c.1 c.2];exact q O _ H (Go.refl _ _) st rfl trivial
 .rw[if_neg c]at h;cases h
end
def R.qe:R->Bool
 |.v .aG=>true|_=>false
def ky(x:R):R->M R
 |.v .aG=>pure (.v (.aC x.qe))|_=>bad
def nY(x:R):R->M R
 |.v .aG=>pure (.v (.aC (!x.qe)))|_=>bad
section
variable{K:aS}{mg:bq}
def Kr{O:a5}{r:R}{v:V}(h:e5 K mg O H r v):decide (v=.aG)=r.qe:=by
 have no:∀{a:Addr},v=.ref a->decide (v=.aG)=false:=λ{a} e=>by rw[e];exact decide_eq_false (by intro z;cases z)
 cases r with
 |v d=>
  cases d with
  |aG=>exact decide_eq_true h|aC _=>rw[show v=_ from h];rfl|int _=>rw[show v=_ from h];rfl|str _=>rw[show v=_ from h];rfl|ty _=>rw[show v=_ from h];rfl|tup _=>obtain⟨a,_,e,_⟩:=h;exact no e
  |lst _=>obtain⟨a,_,e,_⟩:=h;exact no e
  |ref _=>obtain⟨a,e,_⟩:=h;exact no e
  |fn _=>obtain⟨a,e,_⟩:=h;exact no e
 |fr _=>obtain⟨a,_,e,_⟩:=h;exact no e
 |cc _=>obtain⟨a,_,e,_⟩:=h;exact no e
 |mv _=>obtain⟨a,_,e,_⟩:=h;exact no e
def Gw:eK K mg (λx y H Q=>y=.aG/\Q (.aC (decide (x=.aG))) H) ky:=λO Y S av H x y a7 bC bT ai Q st ag bg h q=>by
 unfold ky at h;split at h
 .cases h;exact⟨bg,by rw[Kr ag];exact q O _ H (Go.refl _ _) st rfl trivial⟩
 .cases h
def Gy:eK K mg (λx y H Q=>y=.aG/\Q (.aC (!decide (x=.aG))) H) nY:=λO Y S av H x y a7 bC bT ai Q st ag bg h q=>by
 unfold nY at h;split at h
 .cases h;exact⟨bg,by rw[Kr ag];exact q O _ H (Go.refl _ _) st rfl trivial⟩
 .cases h
end
def D.flat:D->Bool
 |.aG=>true|.aC _=>true|.int _=>true|.str _=>true|_=>false
def inD(x:D)(xs:List D):Bool:=xs.any λy=>jz y x
def h6(neg:Bool)(x y:R):M R:=match x,y.seq with
 |.v d,some xs=>if d.flat=true/\xs.all D.flat=true then pure (.v (.aC (if neg then !inD d xs else inD d xs)))else bad|_,_=>bad
section
variable{K:aS}{mg:bq}
def I3{O:a5}{d:D}{v:V}(h:Rep K mg O H d v)(f:d.flat=true):nC v=true:=by
 cases d with
 |aG=>rw[show v=_ from h];rfl|aC _=>rw[show v=_ from h];rfl|int _=>rw[show v=_ from h];rfl|str _=>rw[show v=_ from h];rfl|_=>exact absurd (show false=true from f) ajO
def VC{O:a5}{d e:D}{v u:V}(h:Rep K mg O H d v)(h':Rep K mg O H e u)(f:d.flat=true)(q_:e.flat=true):ny v u=jz d e:=by
 cases d with
 |aG=>
  rw[show v=_ from h]
  cases e with
  |aG=>rw[show u=_ from h'];rfl|aC _=>rw[show u=_ from h'];rfl|int _=>rw[show u=_ from h'];rfl|str _=>rw[show u=_ from h'];rfl|_=>exact absurd (show false=true from q_) ajO
 |aC _=>
  rw[show v=_ from h]
  cases e with
  |aG=>rw[show u=_ from h'];rfl|aC _=>rw[show u=_ from h'];rfl|int _=>rw[show u=_ from h'];rfl|str _=>rw[show u=_ from h'];rfl|_=>exact absurd (show false=true from q_) ajO
 |int _=>
  rw[show v=_ from h]
  cases e with
  |aG=>rw[show u=_ from h'];rfl|aC _=>rw[show u=_ from h'];rfl|int _=>rw[show u=_ from h'];rfl|str _=>rw[show u=_ from h'];rfl|_=>exact absurd (show false=true from q_) ajO
 |str _=>
  rw[show v=_ from h]
  cases e with
  |aG=>rw[show u=_ from h'];rfl|aC _=>rw[show u=_ from h'];rfl|int _=>rw[show u=_ from h'];rfl|str _=>rw[show u=_ from h'];rfl|_=>exact absurd (show false=true from q_) ajO
 |_=>exact absurd (show false=true from f) ajO
theorem Kl{O:a5}{d:D}{v:V}(h:Rep K mg O H d v)(f:d.flat=true):∀{ds:List D}{ys:List V},bb K mg O H ds ys->ds.all D.flat=true->ys.all nC=true/\Dk v ys=inD d ds
 |[],ys,r,_=>by cases r;exact⟨rfl,rfl⟩
 |e::ds,ys,r,g=>by
  obtain⟨y,t,rfl,bG,cx⟩:=r;rw[amx,ako]at g;obtain⟨bz,cf⟩:=Kl h f cx g.2;refine⟨by rw[amx,I3 bG g.1,bz];rfl,?_⟩;show(y::t).any (λz=>ny z v)=(e::ds).any λz=>jz z d
  rw[alo,alo,VC bG h g.1 f];exact congrArg _ cf
def Bc(neg:Bool):eK K mg (EW K neg) (h6 neg):=λO Y S av H x y a7 bC bT ai Q st ag bg h q=>by
 unfold h6 at h;split at h
 .rename_i d xs e
  by_cases c:d.flat=true/\xs.all D.flat=true
  .rw[if_pos c]at h
   cases h;obtain⟨a,ys,rfl,l,bt⟩:=R.z3 bg e;obtain⟨f1,f2⟩:=Kl ag c.1 bt c.2;exact⟨a,ys,rfl,l,I3 ag c.1,f1,by rw[f2];exact q O _ H (Go.refl _ _) st rfl trivial⟩
  .rw[if_neg c]at h;cases h
 .cases h
end
inductive gI where
 |bh (Y:aR)|cQ (r:R)|cP (Y:aR)|cw (Y:aR)
abbrev a3:=aR->M gI
def Fix(o:gT):Prop:=(∃xs,o=.tup xs)\/∃bD u,o=.cg bD u
structure eu(O aq:a5)(H H':aw):Prop where
 cells:∀b o,H b=some o->(O b=.free\/O b=.out\/Fix o)->(h:o2 o:=by exact trivial)->H' b=some o
 own:∀b,H b≠none->(O b=.free\/O b=.out)->aq b=O b
 has:∀b,H b≠none->H' b≠none
 c6:∀b ps,H b=some (.gw ps)->∃iT,H' b=some (.gw iT)
 bV:TabsOk H->TabsOk H'
 bM:aq.bM=O.bM
def Go.aA{O aq:a5}(g:Go O aq H H'):eu O aq H H':=⟨λb o e _ n=>g.same.at' b o e n,λb h _=>g.own b h,λ_ h=>g.same.some h,g.same.c6,g.same.bV,g.bM⟩
def eu.refl(O:a5)(H:aw):eu O O H H:=(Go.refl O H).aA
def eu.trans{O aO br:a5}(a:eu O aO H H1)(b:eu aO br H1 aM):eu O br H aM:=by
 have ON:∀{b:Addr}{o:gT},H b=some o->H b≠none:=λe z=>by rw[e]at z;cases z
 refine⟨λc o e h n=>?_,λc h f=>?_,λc h=>b.has c (a.has c h),λc ps h=>let⟨p1,ao⟩:=a.c6 c ps h;b.c6 c p1 ao,λg=>b.bV (a.bV g),b.bM.trans a.bM⟩
 .have ao:=a.cells c o e h n
  rcases h with h|h|h
  .exact b.cells c o ao (.inl ((a.own c (ON e) (.inl h)).trans h)) n
  .exact b.cells c o ao (.inr (.inl ((a.own c (ON e) (.inr h)).trans h))) n
  .exact b.cells c o ao (.inr (.inr h)) n
 .have ao:=a.own c h f
  rw[b.own c (a.has c h) (by rw[ao];exact f),ao]
def fc(Y Y':aR)(av dk:St):Prop:=(∀(i:Nat)(xs:List D),Y'[i]? = some (Slot.cc xs)->Y[i]? = some (Slot.cc xs)/\dk[i]? = av[i]?)/\
 (∀(i:Nat)(ys:List D),Y'[i]? = some (Slot.eH true ys)->(∃xs,Y[i]? = some (Slot.eH true xs))/\dk[i]? = av[i]?)
def fc.refl(Y:aR)(av:St):fc Y Y av av:=⟨λ_ _ h=>⟨h,rfl⟩,λ_ _ h=>⟨⟨_,h⟩,rfl⟩⟩
def fc.trans{v v1 v2:St}(a:fc Y ig v v1)(b:fc ig dX v1 v2):fc Y dX v v2:=⟨λi xs h=>⟨(a.1 i xs (b.1 i xs h).1).1,(b.1 i xs h).2.trans (a.1 i xs (b.1 i xs h).1).2⟩,λi ys h=>by
 obtain⟨⟨xs,e⟩,q⟩:=b.2 i ys h;obtain⟨z,hM⟩:=a.2 i xs e;exact⟨z,q.trans hM⟩⟩
def fc.put{Y:aR}(h0:Y[i]? = some s0)(bL:∀xs,s≠.cc xs)(bf:∀xs,s=.eH true xs->∃ys,s0=.eH true ys):fc Y (Y.set i s) av av:=by
 have fG:i<Y.length:=(ajJ.mp h0).1;have key:∀(j:Nat)(t:Slot),(Y.set i s)[j]? = some t->(i=j/\t=s)\/(i≠j/\Y[j]? = some t):=λj t h=>by
  by_cases aZ:i=j
  .subst aZ
   rw[akF fG]at h;exact .inl ⟨rfl,(akd h).symm⟩
  .rw[ajX aZ]at h
   exact .inr ⟨aZ,h⟩
 refine⟨λj xs h=>?_,λj ys h=>?_⟩
 .rcases key j _ h with⟨_,e⟩|⟨_,e⟩
  .exact absurd e.symm (bL xs)
  .exact⟨e,rfl⟩
 .rcases key j _ h with⟨rfl,e⟩|⟨_,e⟩
  .obtain⟨zs,cF⟩:=bf ys e.symm
   exact⟨⟨zs,cF▸h0⟩,rfl⟩
  .exact⟨⟨_,e⟩,rfl⟩
def AY(K:aS)(mg:bq)(O:a5)(H:aw):R->V->Prop
 |.v d,v=>Rep K mg O H d v|.fr xs,v=>∃a ys,v=.ref a/\H a=some (.lst ys)/\(O a=.dF\/∃i,O a=.loc i)/\bb K mg O H xs ys|_,_=>False
def oq(K:aS)(mg:bq)(O:a5)(Y:aR)(ai:cz)(av:St)(H:aw)(Y':aR)(N:St->aw->Prop):Prop:=
 ∀aq dk H',eu O aq H H'->cO K mg aq Y' ai dk H'->fc Y Y' av dk->N dk H'
def xC(K:aS)(mg:bq)(O:a5)(Y:aR)(ai:cz)(av:St)(H:aw)(ba:gI)(hS:Ends):Prop:=match ba with
 |.bh Y'=>oq K mg O Y ai av H Y' hS.bh|.cP Y'=>oq K mg O Y ai av H Y' hS.cP|.cw Y'=>oq K mg O Y ai av H Y' hS.cw|.cQ r=>∀aq v H',eu O aq H H'->da aq H'->gz K mg aq H' ai->AY K mg aq H' r v->hS.cQ v H'
def oq.aA{O aO:a5}{N:St->aw->Prop}(h:oq K mg O Y ai av H Y' N)(g:eu O aO H H1)(k:fc Y ig av xl):oq K mg aO ig ai xl H1 Y' N:=
 λaq dk H' g' st mL=>h aq dk H' (g.trans g') st (k.trans mL)
def xC.aA{O aO:a5}(h:xC K mg O Y ai av H ba hS)(g:eu O aO H H1)(k:fc Y ig av xl):xC K mg aO ig ai xl H1 ba hS:=by
 cases ba with
 |bh Y'=>exact oq.aA h g k|cP Y'=>exact oq.aA h g k|cw Y'=>exact oq.aA h g k|cQ r=>exact λaq v H' g' d e r=>h aq v H' (g.trans g') d e r
def kH(K:aS)(mg:bq)(m:a3):hl:=λhS av H=>pO K mg m av H λO Y ai ba=>xC K mg O Y ai av H ba hS
abbrev F1(X:aT)(st:Stmt)(m:a3):Prop:=iW X st (kH X.K X.mg m)
abbrev sg(X:aT)(tU:List Stmt)(m:a3):Prop:=iX X tU (kH X.K X.mg m)
def g_{t t':hl}(h:iW X s t)(i:∀D Y H,t' D Y H->t D Y H):iW X s t':=λzn s Y H D J q=>h zn s Y H D J (i _ _ _ q)
def zV{t t':hl}(h:iX X s t)(i:∀D Y H,t' D Y H->t D Y H):iX X s t':=λzn s Y H D J q=>h zn s Y H D J (i _ _ _ q)
@[simp] def cv(Y:aR):M gI:=pure (.bh Y)
def uD:a3:=λ_=>bad
@[simp] def b1(a b:a3)(Y:aR):M gI:=do
 let ba <-a Y
 match ba with
 |.bh Y'=>b Y'|ba=>pure ba
@[simp] def bE(m:bo)(Y:aR):M gI:=do
 let r <-m Y
 match r with
 |.v d=>pure (.cQ (.v d))|.fr xs=>pure (.cQ (.fr xs))|_=>bad
@[simp] def x_(i:Nat)(Y:aR):M gI:=match Y[i]? with
 |some (.eH false xs)=>pure (.cQ (.fr xs))|_=>bad
@[simp] def dg(t:aR->M Bool)(a b:a3)(Y:aR):M gI:=do
 let t <-t Y
 if t=true then a Y else b Y
@[simp] def b2(i:Nat)(m:bo)(Y:aR):M gI:=do
 let r <-m Y
 let d <-r.dat
 pure (.bh (Y.set i (.v d)))
@[simp] def kj(i:Nat)(m:bo)(Y:aR):M gI:=do
 let r <-m Y
 match r with
 |.fr xs=>pure (.bh (Y.set i (.eH false xs)))|_=>bad
section
variable{st:Stmt}{a b:a3}{e:Expr}{m:bo}
theorem Nf{O:a5}{r:R}{v:V}(h:e5 K mg O H r v)(aB:(∃d,r=.v d)\/∃xs,r=.fr xs):AY K mg O H r v:=by
 rcases aB with⟨d,rfl⟩|⟨xs,rfl⟩
 .exact h
 .obtain⟨a,ys,q,l,t,bt⟩:=h;exact⟨a,ys,q,l,.inl t,bt⟩
theorem cO.set{O:a5}{Y:aR}{av:St}{v:V}(st:cO K mg O Y S av H)(h:jS K mg O H (.loc i) s (some v)):cO K mg O (Y.set i s) S (av.set i (some v)) H:=by
 refine⟨st.cn,by rw[akI,akI];exact st.len,λj t e=>?_,st.hc⟩
 by_cases aZ:i=j
 .subst aZ
  have au:i<Y.length:=by
   have:=(ajJ.mp e).1
   rwa[akI]at this
  rw[akF au]at e;cases e;rw[akF (by rw[<-st.len];exact au)];exact h
 .rw[ajX aZ]at e
  rw[ajX aZ];exact st.loc j t e
theorem fc.set{Y:aR}{av:St}{v:Option V}(aE:∀xs,s≠.cc xs)(bO:∀xs,s≠.eH true xs:=by intro xs z;cases z):fc Y (Y.set i s) av (av.set i v):=by
 have key:∀(j:Nat)(t:Slot),(Y.set i s)[j]? = some t->t≠s->Y[j]? = some t/\(av.set i v)[j]? = av[j]?:=λj t h h3=>by
  by_cases aZ:i=j
  .subst aZ
   have au:i<Y.length:=by
    have:=(ajJ.mp h).1
    rwa[akI]at this
   rw[akF au]at h;exact absurd (akd h).symm h3
  .rw[ajX aZ]at h ⊢
   exact⟨h,rfl⟩
 refine⟨λj xs h=>key j _ h (λz=>aE xs z.symm),λj ys h=>?_⟩;obtain⟨a,b⟩:=key j _ h (λz=>bO ys z.symm);exact⟨⟨ys,a⟩,b⟩
theorem cO.own{K:aS}{mg:bq}{O:a5}{Y:aR}{S:cz}{av:St}{H:aw}{i:Nat}{a:Addr}{xs:List D}{ys:List V}(st:cO K mg O Y S av H)(bO:O a=.dF)(au:H a=some (.lst ys))(aB:bb K mg O H xs ys) :
  cO K mg (f9 O a (.loc i)) (Y.set i (.eH false xs)) S (av.set i (some (.ref a))) H:=by
 have ne:∀{b:Addr}{w:Own},O b=w->w≠.dF->f9 O a (.loc i) b=w:=λ{b w} h hw=>by
  rw[pn];exact h;rintro rfl;exact hw (h.symm.trans bO)
 have dA:nc O (f9 O a (.loc i)):=⟨λb h=>ne h (by intro z;cases z),rfl⟩;have aV:cO K mg (f9 O a (.loc i)) Y S av H:=by
  refine⟨⟨λb af=>?_,st.cn.tabs,st.cn.cp.1,λb m=>ne (st.cn.cp.2 b m) (by intro z;cases z)⟩,st.len,λj s e=>(st.loc j s e).dA dA (λb h=>ne h (by intro z;cases z)) (λb h=>ne h (by intro z;cases z)),st.hc.all (λ_ _ z=>Rep.dA dA z) rfl λ_ _ _ l _=>l⟩
  by_cases e:b=a
  .rw[e,au];intro z;cases z
  .rw[pn e]at af;exact st.cn.has b af
 exact aV.set ⟨a,ys,rfl,ob,au,aB.dA dA⟩
theorem eu.dF{O:a5}{H:aw}{a:Addr}{w:Own}(bO:O a=.dF):eu O (f9 O a w) H H:=by
 refine⟨λb o e _ _=>e,λb h f=>?_,λ_ h=>h,λ_ ps h=>⟨ps,h⟩,id,rfl⟩;rw[pn];rintro rfl;rw[bO]at f;rcases f with z|z<;>cases z
theorem OG{te:TE}(aD:∀Y H Q,fB K mg m Y H Q->te Y H Q):∀D av H,kH K mg (b2 i m) D av H->tW te (lI i) D av H:=by
 rintro D av H ⟨O,Y,S,ba,ai,st,h,q⟩;obtain⟨r,S1,ae,h⟩:=M.inv h;obtain⟨d,bc,ah,h⟩:=M.inv h;cases h;refine aD av H _ ⟨O,Y,S,r,S1,st,ae,λaO v H1 g1 aV bu nn=>?_⟩;obtain⟨a4,rfl⟩:=p0 (H₀:=H) bu nn ah;exact q (cg H aO) _ H1 g1.cg.aA ((aV.cg H).set ⟨v,rfl,a4⟩) (fc.set λxs z=>by cases z)
theorem Mx{te:TE}(aD:∀Y H Q,fB K mg m Y H Q->te Y H Q):∀D av H,kH K mg (kj i m) D av H->tW te (lI i) D av H:=by
 rintro D av H ⟨O,Y,S,ba,ai,st,h,q⟩;obtain⟨r,S1,ae,h⟩:=M.inv h;split at h
 .rename_i xs
  cases h;refine aD av H _ ⟨O,Y,S,_,_,st,ae,λaO v H1 g1 aV bu nn=>?_⟩;obtain⟨a,ys,rfl,l,t,bt⟩:=bu;exact q _ _ H1 (g1.aA.trans (eu.dF t)) (aV.own t l bt) (fc.set λxs z=>by cases z)
 .cases h
end
@[simp] def H_(i:Nat)(f:List D->List R->M (R×List D))(ms:c7)(Y:aR):M (R×aR):=do
 let rs <-ms Y
 match Y[i]? with
 |some (.eH p xs)=>do
  let(r,ys) <-f xs rs
  pure (r,Y.set i (.eH p ys))
 |_=>bad
@[simp] def mb(i:Nat)(f:List D->List R->M (R×List D))(ms:c7)(Y:aR):M gI:=do
 let(_,Y') <-H_ i f ms Y
 pure (.bh Y')
def iD(xs:List D):List R->M (R×List D)
 |[r]=>do
  let d <-r.dat
  hY (xs.length<ajL)
  pure (.v .aG,xs++[d])
 |_=>bad
def w'(xs:List D):List R->M (R×List D)
 |[r]=>match r.own with
  |some ys=>do
   hY (xs.length+ys.length<=ajL)
   pure (.v .aG,xs++ys)
  |none=>bad
 |_=>bad
section
variable{K:aS}{mg:bq}{O:a5}{H:aw}{l:Addr}{zs ws:List V}
mutual
theorem Rep.es(bf:O l≠.free)(au:H l=some (.lst zs)):∀{d:D}{v:V},Rep K mg O H d v->Rep K mg O (upd H l (.lst ws)) d v
 |.aG,_,h=>h|.aC _,_,h=>h|.int _,_,h=>h|.str _,_,h=>h|.tup _,_,h=>by
  obtain⟨a,ys,q,t,r⟩:=h;refine⟨a,ys,q,?_,bb.es bf au r⟩;rcases t with(t|⟨o,t⟩)|t
  .exact .inl (.inl (by rw[dm (D_ t au (by intro z;cases z))];exact t))
  .exact .inl (.inr ⟨o,by rw[dm (D_ t au (by intro z;cases z))];exact t⟩)
  .exact .inr t
 |.lst _,_,h=>by
  obtain⟨a,ys,q,t,r⟩:=h;exact⟨a,ys,q,⟨by rw[dm (by rintro rfl;exact bf t.2)];exact t.1,t.2⟩,bb.es bf au r⟩
 |.ref _,_,h=>h|.fn _,_,h=>h|.ty _,_,h=>h
theorem bb.es(bf:O l≠.free)(au:H l=some (.lst zs)):∀{ds:List D}{ys:List V},bb K mg O H ds ys->bb K mg O (upd H l (.lst ws)) ds ys
 |[],_,h=>h| _::_,_,h=>by obtain⟨x,r,q,a,b⟩:=h;exact⟨x,r,q,Rep.es bf au a,bb.es bf au b⟩
end
def ij.es(bf:O l≠.free)(iw:O l≠.out)(h:ij K O H a ys):ij K O (upd H l (.lst ws)) a ys:=by
 rcases h with⟨h,f⟩|h
 .have ne:a≠l:=by rintro rfl;exact f.elim bf iw
  refine .inl ⟨?_,f⟩;rcases h with h|⟨o,h⟩
  .exact .inl (by rw[dm ne];exact h)
  .exact .inr ⟨o,by rw[dm ne];exact h⟩
 .exact .inr h
def jS.es(bf:O l≠.free)(iw:O l≠.out)(hw:O l≠w)(au:H l=some (.lst zs)):∀{s:Slot}{u:Option V},jS K mg O H w s u->jS K mg O (upd H l (.lst ws)) w s u
 |.e,_,_=>trivial| .v _,_,h=>by obtain⟨v,q,r⟩:=h;exact⟨v,q,r.es bf au⟩
 |.eH _ _,_,h=>by obtain⟨a,ys,q,o,t,r⟩:=h;exact⟨a,ys,q,o,by rw[dm (by rintro rfl;exact hw o)];exact t,r.es bf au⟩
 |.cc _,_,h=>by obtain⟨a,ys,q,t,r⟩:=h;exact⟨a,ys,q,t.es bf iw,r.es bf au⟩
def da.es(d:da O H)(au:H l=some (.lst zs)):da O (upd H l (.lst ws)):=⟨λa ar=>by
 by_cases e:a=l
 .rw[e,dG];intro z;cases z
 .rw[dm e];exact d.has a ar,d.tabs.lst au _,d.cp⟩
def eu.es(bf:O l≠.free)(iw:O l≠.out)(au:H l=some (.lst zs)):eu O O H (upd H l (.lst ws)):=by
 refine⟨λb o e h _=>?_,λ_ _ _=>rfl,λb h=>?_,λb ps e=>⟨ps,by rw[dm (by rintro rfl;rw[au]at e;cases e)];exact e⟩,λg=>g.lst au _,rfl⟩
 .rw[dm]
  .exact e
  .rintro rfl
   rcases h with h|h|⟨xs,h⟩|⟨_,_,h⟩
   .exact bf h
   .exact iw h
   .subst h;rw[e]at au;cases au
   .subst h;rw[e]at au;cases au
 .by_cases e:b=l
  .rw[e,dG];intro z;cases z
  .rw[dm e];exact h
def gz.es(s:gz K mg O H S)(cT:da O H)(bf:O l≠.free)(iw:O l≠.out)(au:H l=some (.lst zs)):gz K mg O (upd H l (.lst ws)) S:=
 s.all (λ_ _ z=>Rep.es bf au z) rfl λa h u e _=>by rw[dm (by rintro rfl;exact iw (cT.cp.2 _ h))];exact e
def cO.es{Y:aR}{av:St}(st:cO K mg O Y S av H)(aD:Y[i]? = some (.eH p xs))(bL:av[i]?.join=some (.ref l))(bf:O l=.loc i)(au:H l=some (.lst zs))(aB:bb K mg O H ys ws) :
  cO K mg O (Y.set i (.eH p ys)) S av (upd H l (.lst ws)):=by
 have ne:∀w:Own,w≠.loc i->O l≠w:=λw hw z=>hw (z.symm.trans bf)
 refine⟨st.cn.es au,by rw[akI];exact st.len,λj t e=>?_,st.hc.es st.cn (ne _ (by intro z;cases z)) (ne _ (by intro z;cases z)) au⟩
 by_cases aZ:i=j
 .subst aZ
  have fG:i<Y.length:=(ajJ.mp aD).1;rw[akF fG]at e;cases e;exact⟨l,ws,bL,bf,dG,aB.es (ne _ (by intro z;cases z)) au⟩
 .rw[ajX aZ]at e
  exact(st.loc j t e).es (ne _ (by intro z;cases z)) (ne _ (by intro z;cases z)) (ne _ (by intro z;cases z;exact aZ rfl)) au
end
def uc(K:aS)(mg:bq)(r:V->List V->aw->df->Prop)(f:List D->List R->M (R×List D)):Prop:=
 ∀O H H₀ l xs zs rs vs S ai bT ys (Q:df),H l=some (.lst zs)->bb K mg O H xs zs->gx K mg O H rs vs->kM H₀ rs vs->(f xs rs).run S=.ok (bT,ys) ai->
  (∀v ws,S=ai->bb K mg (cg H₀ O) H ys ws->(∃d,bT=.v d/\Rep K mg (cg H₀ O) H d v)->Q v (upd H l (.lst ws)))->r (.ref l) vs H Q
section
variable{K:aS}{mg:bq}
def zk:uc K mg MZ iD:=λO H H₀ l xs zs rs vs S ai bT ys Q au ag aB aH h q=>by
 unfold iD at h;split at h
 .rename_i r
  obtain⟨v,rfl,bR⟩:=kB aB;obtain⟨d,S1,ae,h⟩:=M.inv h;obtain⟨_,bc,ah,h⟩:=M.inv h;obtain⟨c,rfl⟩:=q0 ah;obtain⟨a4,rfl⟩:=p0 (H₀:=H₀) bR aH.1 ae;cases h;exact⟨l,zs,v,rfl,rfl,au,by rw[ag.len];exact c,q .aG _ rfl ((ag.dA (js _ _)).append (.one a4)) ⟨.aG,rfl,rfl⟩⟩
 .cases h
def Z6:uc K mg M1 w':=λO H H₀ l xs zs rs vs S ai bT ys Q au ag aB aH h q=>by
 unfold w' at h;split at h
 .rename_i r
  obtain⟨v,rfl,bR⟩:=kB aB;split at h
  .rename_i us e
   obtain⟨_,bc,ah,h⟩:=M.inv h;obtain⟨c,rfl⟩:=q0 ah;cases h;obtain⟨b,ws,rfl,cD,cx⟩:=R.Et bR e;exact⟨l,b,zs,ws,rfl,rfl,au,cD,by rw[ag.len,cx.len];exact c,q .aG _ rfl ((ag.append cx).dA (js _ _)) ⟨.aG,rfl,rfl⟩⟩
  .cases h
 .cases h
variable{f:List D->List R->M (R×List D)}{r:V->List V->aw->df->Prop}{ms:c7}{i:Nat}
def aas(hf:uc K mg r f){O:a5}{Y Y':aR}{S ai:cz}{av:St}{H:aw}{bT:R}{Q:df}(st:cO K mg O Y S av H)(h:(H_ i f ms Y).run S=.ok (bT,Y') ai)
  (q:∀aq v H',eu O aq H H'->cO K mg aq Y' ai av H'->fc Y Y' av av->(∃d,bT=.v d/\Rep K mg aq H' d v)->Q v H') :
  ∃v,av[i]? = some (some v)/\Aj K "list" v H/\oa K mg ms av H λvs aM=>r v vs aM Q:=by
 obtain⟨rs,S1,ae,h⟩:=M.inv h
 cases e:Y[i]? with
 |none=>rw[e]at h;cases h
 |some s=>
  rw[e]at h
  cases s with
  |e=>cases h
  |v _=>cases h
  |cc _=>cases h
  |eH p xs=>
   obtain⟨⟨cx,ys⟩,bc,ah,h⟩:=M.inv h;cases h;obtain⟨a,zs,ao,az,cG,fg⟩:=st.loc i _ e;have ev:av[i]? = some (some (.ref a)):=by
    cases w:av[i]? with
    |none=>rw[w]at ao;cases ao
    |some y=>rw[w]at ao;exact congrArg some ao
   refine⟨.ref a,ev,.inl ⟨rfl,_,dx.of cG⟩,O,Y,S,rs,S1,st,ae,λaO vs H1 g1 aV bu nn=>?_⟩;have yi:=g1.same.at' _ _ cG;have aH:H a≠none:=by rw[cG];intro z;cases z
   have BY:aO a=.loc i:=(g1.own a aH).trans az;refine hf aO H1 H a xs zs rs vs S1 _ _ ys Q yi (fg.go g1) bu nn ah λv ws ay bt aX=>?_
   obtain⟨d,d4,a4⟩:=aX;subst ay;have gP:cg H aO a=.loc i:=by rw[yv aH];exact BY
   have no:∀w:Own,w≠.loc i->cg H aO a≠w:=λw hw z=>hw (z.symm.trans gP)
   refine q (cg H aO) v _ (g1.cg.aA.trans (eu.es (no _ (by intro z;cases z)) (no _ (by intro z;cases z)) yi)) ((aV.cg H).es e (by rw[ev];rfl) gP yi bt) ?_ ⟨d,d4,a4.es (no _ (by intro z;cases z)) yi⟩;have fG:i<Y.length:=(ajJ.mp e).1;exact fc.put e (λxs z=>by cases z) (λ_ z=>by cases z;exact⟨xs,rfl⟩)
end
def xv(cm:iI)(O:a5)(H:aw)(ys:List V):Prop:=∀br aM,eu O br H aM->∀i,(i<ys.length->cm.go i aM/\∀x H',cm.pB i aM x H'->H'=aM/\ys[i]? = some x)/\(ys.length<=i->cm.stop i aM)
abbrev fj:=aR->M (List D)
def qC(K:aS)(mg:bq)(m:fj):TI:=λav H R=>pO K mg m av H λO Y ai xs=>∀aq H' cm ys,Go O aq H H'->cO K mg aq Y ai av H'->xu cm H' ys->bb K mg aq H' xs ys->R cm H'
def w9(K:aS)(mg:bq)(m:fj):TI:=λav H R=>pO K mg m av H λO Y ai xs=>∀aq H' cm ys,Go O aq H H'->cO K mg aq Y ai av H'->xv cm aq H' ys->bb K mg aq H' xs ys->R cm H'
abbrev FZ(X:aT)(cj iter:Expr)(m:fj):Prop:=kN X cj iter (qC X.K X.mg m)
abbrev P4(X:aT)(cj iter:Expr)(m:fj):Prop:=kN X cj iter (w9 X.K X.mg m)
def pb{cj e:Expr}{t t':TI}(h:kN X cj e t)(i:∀Y H Q,t' Y H Q->t Y H Q):kN X cj e t':=λzn s Y H Q J q=>h zn s Y H Q J (i _ _ _ q)
def eu.w4{O aq:a5}(g:eu O aq H H')(h:dQ K H a ys):dQ K H' a ys:=by
 rcases h with(h|⟨o,h⟩)|h
 .exact .inl (.inl (g.cells _ _ h (.inr (.inr (.inl ⟨_,rfl⟩)))))
 .exact .inl (.inr ⟨o,g.cells _ _ h (.inr (.inr (.inr ⟨_,_,rfl⟩)))⟩)
 .exact .inr h
def eu.Lv{O aq:a5}(g:eu O aq H H')(h:ij K O H a ys):ij K aq H' a ys:=by
 rcases h with⟨h,f⟩|h
 .refine .inl ⟨?_,by rw[g.own a (gc.some h) f];exact f⟩
  rcases h with h|⟨o,h⟩
  .exact .inl (g.cells _ _ h (f.elim .inl λz=>.inr (.inl z)))
  .exact .inr ⟨o,g.cells _ _ h (f.elim .inl λz=>.inr (.inl z))⟩
 .exact .inr h
@[simp] def iQ(m:bo)(Y:aR):M (List D):=do
 let r <-m Y
 match r with
 |.v (.tup xs)=>pure xs|_=>bad
@[simp] def Di(m:bo)(Y:aR):M (List D):=do
 let r <-m Y
 match r with
 |.v (.lst xs)=>pure xs|.fr xs=>pure xs|.cc xs=>pure xs|_=>bad
@[simp] def iP(m:bo)(Y:aR):M (List D):=do
 let r <-m Y
 match r.fX with
 |some xs=>pure xs|none=>bad
def kC(lo:Int)(n:Nat):List D:=(aj6 n).map λi=>D.int (lo+(i:Nat))
@[simp] def j5(m:c7)(Y:aR):M (List D):=do
 let rs <-m Y
 match rs with
 |[.v (.int j)]=>if -(2 ^ 62)<=j/\j<2 ^ 62 then pure (kC 0 j.toNat)else bad|_=>bad
def Nl{O:a5}(lo:Int)(n:Nat):bb K mg O H (kC lo n) (n6 lo n):=by
 unfold kC n6
 induction(aj6 n)with
 |nil=>rfl|cons a r a6=>exact⟨.int (lo+a),_,rfl,rfl,a6⟩
def YY{O:a5}(lo:Int)(n:Nat):xv (pJ lo n) O H (n6 lo n):=λbr aM _ i=>Dr (H:=aM) lo n aM (eN.refl _) i
section
variable{a:Expr}{ms:c7}
def Nj:(∀av H R,w9 K mg (j5 ms) av H R->Dj (oa K mg ms) av H R)/\(∀av H R,qC K mg (j5 ms) av H R->Dj (oa K mg ms) av H R):=by
 constructor<;>
 .rintro av H R ⟨O,Y,S,xs,ai,st,h,q⟩
  obtain⟨rs,S1,ae,h⟩:=M.inv h;split at h
  .rename_i j
   by_cases c:-(2 ^ 62)<=j/\j<2 ^ 62
   .rw[if_pos c]at h
    cases h;refine⟨O,Y,S,_,_,st,ae,λaO vs H1 g1 aV bu nn=>?_⟩;obtain⟨v,rfl,bR⟩:=kB bu;cases(show v=.int j from bR);exact⟨j,rfl,c.1,c.2,q aO H1 (pJ 0 j.toNat) (n6 0 j.toNat) g1 aV (by first|exact YY _ _|exact Dr _ _) (Nl _ _)⟩
   .rw[if_neg c]at h;cases h
  .cases h
def Dq{K:aS}{O:a5}{H:aw}{a:Addr}{xs:List V}(h:ij K O H a xs):xv (l6 K a) O H xs:=λbr aM g i=>Dp (g.Lv h).dP aM (eN.refl _) i
def Y1{K:aS}{O:a5}{H:aw}{a:Addr}{xs:List V}(h:dQ K H a xs):xv (sj K a) O H xs:=λbr aM g i=>Ku (g.w4 h) aM (eN.refl _) i
end
def hr(b:D->a3):List D->a3
 |[]=>λY=>pure (.bh Y)
 |d::ds=>λY=>do
  let ba <-b d Y
  match ba with
  |.bh Y'=>hr b ds Y'|.cw Y'=>hr b ds Y'|.cP Y'=>pure (.bh Y')|.cQ r=>pure (.cQ r)
@[simp] def ou(i:Nat)(it:fj)(b:a3)(Y:aR):M gI:=do
 let ds <-it Y
 hr (λd Y=>b (Y.set i (.v d))) ds Y
def cO.val{O:a5}{Y:aR}{av:St}{v:V}(st:cO K mg O Y S av H)(h:Rep K mg O H d v):cO K mg O (Y.set i (.v d)) S (av.set i (some v)) H:=st.set ⟨v,rfl,h⟩
def bb.aA{O aq:a5}(g:eu O aq H H'):∀{ds:List D}{ys:List V},bb K mg O H ds ys->bb K mg aq H' ds ys:=by
 have rep:∀(d:D)(v:V),Rep K mg O H d v->Rep K mg aq H' d v:=by
  intro d
  induction d using D.rec (motive_2:=λds=>∀ys,bb K mg O H ds ys->bb K mg aq H' ds ys)with
  |aG=>exact λv h=>h
  |aC _=>exact λv h=>h
  |int _=>exact λv h=>h
  |str _=>exact λv h=>h
  |fn _=>exact λv h=>h
  |ty _=>exact λv h=>h
  |ref n=>exact λv ⟨a,q,l⟩=>⟨a,q,by rw[g.bM];exact l⟩
  |tup xs a6=>exact λv ⟨a,ys,q,l,r⟩=>⟨a,ys,q,g.w4 l,a6 ys r⟩
  |lst xs a6=>exact λv ⟨a,ys,q,l,r⟩=>⟨a,ys,q,⟨g.cells _ _ l.1 (.inl l.2),by rw[g.own a (by rw[l.1];intro z;cases z) (.inl l.2)];exact l.2⟩,a6 ys r⟩
  |nil=>assumption|cons x xs vp vq=>
   rename_i zs hz;obtain⟨y,r,q,a,b⟩:=hz;exact⟨y,r,q,vp y a,vq r b⟩
 intro ds
 induction ds with
 |nil=>exact λh=>h
 |cons x xs a6=>rintro ys ⟨y,r,q,a,b⟩;exact⟨y,r,q,rep x y a,a6 b⟩
section
variable{it:fj}{i:Nat}{b:a3}{x:Str}
def bb.get'{O:a5}{ds:List D}{ys:List V}{k:Nat}(h:bb K mg O H ds ys)(e:ds.drop k=d::nx):∃y,ys[k]? = some y/\Rep K mg O H d y/\ds.drop (k+1)=nx:=by
 have ao:ds[k]? = some d:=by
  have:=congrArg (·[0]?) e;simpa using this
 obtain⟨y,q,r⟩:=h.get ao;refine⟨y,q,r,?_⟩;have:=congrArg (anD 1) e;simpa[ams]using this
theorem I8{G:jo}{B:a0.D->a3}(p7:∀O Y S av H d y f bc Q,cO K mg O Y S av H->Rep K mg O H d y->(B d Y).run S=.ok f bc->(∀iH kJ,cO K mg O iH S kJ H->fc Y iH av kJ->(b iH).run S=.ok f bc->Q kJ H)->G y av H Q) :
  ∀D av H,kH K mg (λY=>do
   let ds <-it Y
   hr B ds Y) D av H->r0 (w9 K mg it) G (kH K mg b) D av H:=by
 rintro D av H ⟨O,Y,S,ba,ai,st,h,q⟩;obtain⟨ds,S1,ae,h⟩:=M.inv h;refine⟨O,Y,S,ds,S1,st,ae,λaO H1 cm ys g1 aV its bt=>?_⟩;refine⟨λk m dk H'=>m=ys.length-k/\k<=ys.length/\∃aq Y' hC,cO K mg aq Y' hC dk H'/\eu aO aq H1 H'/\fc Y Y' av dk/\(hr B (ds.drop k) Y').run hC=.ok ba ai,
  ⟨_,rfl,aj5 _,aO,Y,S1,aV,eu.refl _ _,fc.refl _ _,h⟩,?_⟩
 rintro k m dk H' ⟨rfl,ax,aq,Y',hC,cq,g',kp,h⟩
 cases e:ds.drop k with
 |nil=>
  have au:ys.length<=k:=by
   have:=congrArg ak6 e;rw[akV,akH]at this;rw[bt.len];omega
  rw[e]at h;cases h;exact .inl ⟨(its aq H' g' k).2 au,q aq dk H' (g1.aA.trans g') cq kp⟩
 |cons d nx=>
  obtain⟨y,fz,bC,cF⟩:=(bb.aA g' bt).get' e;have fG:k<ys.length:=(ajJ.mp fz).1;obtain⟨go,m5⟩:=(its aq H' g' k).1 fG;rw[e]at h;obtain⟨f1,bc,ah,h⟩:=M.inv h;refine .inr ⟨go,λhy aM=>∃br dX bc,cO K mg br dX bc hy aM/\eu aO br H1 aM/\fc Y dX av hy/\(hr B (ds.drop (k+1)) dX).run bc=.ok ba ai,?_,λx aM j'=>?_⟩
  .rintro hy aM ⟨br,dX,bc,a1,a2,eV,hD⟩
   exact⟨_,by omega,rfl,fG,br,dX,bc,a1,a2,eV,hD⟩
  .obtain⟨rfl,ex⟩:=m5 x aM j'
   rw[fz]at ex;cases ex;refine p7 _ _ _ _ _ _ _ _ _ _ cq bC ah λiH kJ mY bj af=>?_
   refine⟨aq,iH,hC,f1,bc,mY,af,?_⟩
   cases f1 with
   |bh dX=>exact λbr hy aM g2 cU gr=>⟨br,dX,bc,cU,g'.trans g2,kp.trans (bj.trans gr),by rw[cF];exact h⟩
   |cw dX=>exact λbr hy aM g2 cU gr=>⟨br,dX,bc,cU,g'.trans g2,kp.trans (bj.trans gr),by rw[cF];exact h⟩
   |cP dX=>cases h;exact λbr hy aM g2 cU gr=>q br hy aM (g1.aA.trans (g'.trans g2)) cU (kp.trans (bj.trans gr))
   |cQ r=>cases h;exact λbr v aM g2 dh az cx=>q br v aM (g1.aA.trans (g'.trans g2)) dh az cx
def VS:∀D av H,kH K mg (ou i it b) D av H->r0 (w9 K mg it) (lI i) (kH K mg b) D av H:=
 I8 (B:=λd Y=>b (Y.set i (.v d))) λ_ _ _ _ _ _ _ _ _ _ st bC h k=>k _ _ (st.val bC) (fc.set λxs z=>by cases z) h
end
def fV(t:aR->M Bool)(el:bo)(Y:aR):List D->M (List D)
 |[]=>pure []|d::ds=>do
  let b <-t (Y.set 0 (.v d))
  if b=true then do
   let r <-el (Y.set 0 (.v d))
   let x <-r.dat
   let xs <-fV t el Y ds
   pure (x::xs)
  else fV t el Y ds
def yd:Option Slot->Slot
 |some (.v d)=>.v d|some (.eH _ xs)=>.cc xs|some (.cc xs)=>.cc xs|_=>.e
def i0(n:Nat)(cap:List Nat)(Y:aR):aR:=akB n .e++cap.map λk=>yd Y[k]?
@[simp] def eE(n:Nat)(cap:List Nat)(it:fj)(t:aR->M Bool)(el:bo)(Y:aR):M R:=do
 let ds <-it Y
 hY (ds.length<ajL)
 let xs <-fV t el (i0 n cap Y) ds
 pure (.fr xs)
def gv:aR->M Bool:=λ_=>pure true
abbrev AM(X:aT)(ifs:List Expr)(t:aR->M Bool):Prop:=sm X ifs (la X.K X.mg t)
def Own.fx:Own->Own
 |.loc _=>.out|.dF=>.out|o=>o
def fx(O:a5):a5:=⟨λb=>(O b).fx,O.bM⟩
def uz(O:a5)(b:Addr):fx O b=(O b).fx:=rfl
def HZ{O:a5}(d:da O H):jR (fx O):=⟨d.cp.1,λa h=>by rw[uz,d.cp.2 a h];rfl⟩
def pW{O:a5}:fx O b=.free↔O b=.free:=by rw[uz];cases O b<;>simp[Own.fx]
def nr(O:a5)(b:Addr):fx O b=.free\/fx O b=.out:=by rw[uz];cases O b<;>simp[Own.fx]
def lD(O:a5):nc O (fx O):=⟨λ_ h=>pW.mpr h,rfl⟩
def ij.fx{O:a5}(h:ij K O H a ys):ij K (fx O) H a ys:=by
 rcases h with⟨h,f⟩|h
 .refine .inl ⟨h,?_⟩
  rcases f with f|f
  .exact .inl (pW.mpr f)
  .exact .inr (by rw[uz,f];rfl)
 .exact .inr h
def cO.fx{O:a5}(st:cO K mg O Y S av H)(n:Nat)(cap:List Nat):cO K mg (fx O) (i0 n cap Y) S (hE n cap av) H:=by
 refine⟨⟨λa ar=>st.cn.has a λz=>ar (pW.mpr z),st.cn.tabs,HZ st.cn⟩,?_,λi s e=>?_,st.hc.all (λ_ _ z=>Rep.dA (lD O) z) rfl λ_ _ _ l _=>l⟩
 .unfold i0 hE
  rw[ajQ,ajQ,akP,akP,ajE,ajE]
 .unfold i0 at e
  unfold hE
  by_cases aD:i<n
  .rw[aj8 (by simpa using aD),aly,if_pos aD]at e
   cases e;exact trivial
  .rw[aj3 (by simpa using aD),akP,akc]at e
   rw[aj3 (by simpa using aD),akP,akc]
   cases ml:cap[i-n]? with
   |none=>rw[ml]at e;cases e
   |some k=>
    rw[ml]at e;have cF:yd Y[k]? = s:=akd e;show jS K mg _ H _ s (some (av[k]?.join)).join
    cases ay:Y[k]? with
    |none=>rw[ay]at cF;subst cF;exact trivial|some s0=>
     rw[ay]at cF;have l:=st.loc k s0 ay
     cases s0 with
     |e=>subst cF;exact trivial|v d=>subst cF;obtain⟨v,q,r⟩:=l;exact⟨v,q,r.dA (lD O)⟩
     |cc xs=>subst cF;obtain⟨a,ys,q,l,r⟩:=l;exact⟨a,ys,q,l.fx,r.dA (lD O)⟩
     |eH p xs=>subst cF;obtain⟨a,ys,q,o,l,r⟩:=l;exact⟨a,ys,q,.inl ⟨.inl l,.inr (by rw[uz,o];rfl)⟩,r.dA (lD O)⟩
def cO.afG{O:a5}{H:aw}(st:cO K mg O Y S av H)(bf:O l=.dF)(au:H l=some (.lst zs)):cO K mg O Y S av (upd H l (.lst ws)):=by
 have ne:∀w:Own,w≠.dF->O l≠w:=λw hw z=>hw (z.symm.trans bf)
 exact⟨st.cn.es au,st.len,λj t e=>(st.loc j t e).es (ne _ (by intro z;cases z)) (ne _ (by intro z;cases z)) (ne _ (by intro z;cases z)) au,st.hc.es st.cn (ne _ (by intro z;cases z)) (ne _ (by intro z;cases z)) au⟩
section
variable{K:aS}{mg:bq}{n:Nat}{cap:List Nat}{it:fj}{t:aR->M Bool}{el:bo}
def lO{α:Type}(put:α->Option aR)(t:aR->M Bool)(el:bo):List α->M (List D)
 |[]=>pure []|d::ds=>match put d with
  |none=>bad|some Y=>do
   let b <-t Y
   if b=true then do
    let r <-el Y
    let x <-r.dat
    let xs <-lO put t el ds
    pure (x::xs)
   else lO put t el ds
omit [aF.a8]in
theorem KH(Y:aR):∀ds:List D,fV t el Y ds=lO (λd=>some (Y.set 0 (.v d))) t el ds
 |[]=>rfl| d::ds=>by unfold fV lO;rw[KH Y ds]
inductive CompI{α:Type}(K:aS)(mg:bq)(n:Nat)(cap:List Nat)(L:Nat->M (List a0.D))(aO:a5)(Y:aR)(S1:cz)(av:St)(H1:aw)(A:Addr)(xs:List a0.D)(k:Nat)(zs:List V)(H':aw):Prop
 |mk (aq:a5) (acc xh:List a0.D) (cq:cO K mg aq (i0 n cap Y) S1 (hE n cap av) H') (g':Go (fx aO) aq H1 H') (Ac:aq A=.dF) (d5:H' A=some (.lst zs)) (hz:zs.length<=k)
   (j9:bb K mg aq H' acc zs) (h:(L k).run S1=.ok xh S1) (ex:acc++xh=xs)
def BK{α:Type}{put:α->Option aR}{items:List α}{aO:a5}{Y:aR}{S1 ai:cz}{av:St}{H1:aw}{cm:iI}{G:jo}{xs:List a0.D}{Q:df}(aV:cO K mg aO Y S1 av H1)(hlen:items.length<ajL)
  (stop:∀H',eN H1 H'->cm.stop items.length H')
  (step:∀k d oh aq H',items[k]? = some d->put d=some oh->Go (fx aO) aq H1 H'->cO K mg aq (i0 n cap Y) S1 (hE n cap av) H'->cm.go k H'/\∀x aM (R:St->aw->Prop),cm.pB k H' x aM->
   (∀iH cZ,Go aq aq H' cZ->cO K mg aq oh S1 iH cZ->m' (hE n cap av) iH->R iH cZ)->G x (hE n cap av) aM R)
  (bF:(lO put t el items).run S1=.ok xs ai) (q:∀aq v H',Go aO aq H1 H'->cO K mg aq Y ai av H'->e5 K mg aq H' (.fr xs) v->jQ H1 (.fr xs) v->Q v H') :
  ∀D,H1 D=none->BM cm (hE n cap av) G (la K mg t) (fB K mg el) D H1 Q:=by
 intro D kX;obtain rfl:=(lO put t el items).eB _ _ _ bF;have je:cO K mg (f9 (fx aO) D .dF) (i0 n cap Y) ai (hE n cap av) (upd H1 D (.lst [])):=(aV.fx n cap).new kX;refine⟨λk m zs H'=>m=items.length-k/\k<=items.length/\CompI (α:=α) K mg n cap (λk=>lO put t el (items.drop k)) aO Y ai av H1 D xs k zs H',
  ⟨_,rfl,aj5 _,_,[],xs,je,Go.new kX,ob,dG,ajK _,rfl,bF,rfl⟩,?_⟩
 rintro k m zs H' ⟨rfl,ax,aq,acc,xh,cq,g',Ac,d5,hz,j9,h,ex⟩
 cases e:items.drop k with
 |nil=>
  obtain rfl:k=items.length:=by
   have:=congrArg ak6 e;rw[akV,akH]at this;omega
  rw[e]at h;cases h;rw[akG]at ex;subst ex;refine .inl ⟨stop H' g'.same,?_⟩
  let sl:a5:=⟨λb=>match H1 b with|none=>aq b|some _=>aO b,aO.bM⟩
  have El:∀b,H1 b≠none->sl b=aO b:=λb af=>by
   show(match H1 b with|none=>aq b|some _=>aO b)=aO b
   cases e:H1 b with
   |none=>exact absurd e af|some _=>rfl
  have Ek:∀b,H1 b=none->sl b=aq b:=λb af=>by
   show(match H1 b with|none=>aq b|some _=>aO b)=aq b;rw[af]
  have dA:nc aq sl:=⟨λb af=>by
    by_cases p9:H1 b=none
    .rw[Ek b p9];exact af
    .rw[El b p9];exact pW.mp ((g'.own b p9).symm.trans af),g'.bM.symm⟩
  have go:Go aO sl H1 H':=⟨g'.same,El,rfl⟩;have cn:da sl H':=⟨λb af=>by
   by_cases p9:H1 b=none
   .rw[Ek b p9]at af;exact cq.cn.has b af
   .exact g'.same.some p9,cq.cn.tabs,aV.cn.cp.1,λb m=>(El b (aV.cn.has b (by rw[aV.cn.cp.2 b m];intro z;cases z))).trans (aV.cn.cp.2 b m)⟩
  refine q sl (.ref D) H' go (aV.go go cn) ⟨D,zs,rfl,d5,(Ek D kX).trans Ac,j9.dA dA⟩ λa gC=>?_
  cases gC;exact kX
 |cons d nx=>
  have fG:k<items.length:=by
   have:=congrArg ak6 e;rw[akV,ajW]at this;omega
  have d4:items[k]? = some d:=by
   have:=congrArg (·[0]?) e;simpa using this
  have cF:items.drop (k+1)=nx:=by
   have:=congrArg (anD 1) e;simpa[ams]using this
  rw[e]at h;unfold lO at h
  cases cB:put d with
  |none=>rw[cB]at h;cases h
  |some oh=>
  rw[cB]at h;dsimp only at h;obtain⟨b,bc,ah,h⟩:=M.inv h;obtain rfl:=(t oh).eB _ _ _ ah;obtain⟨go,m5⟩:=step k d oh aq H' d4 cB g' cq;refine .inr ⟨go,λx aM j'=>m5 x aM _ j' λiH cZ i2 mY yo=>⟨yo,aq,oh,bc,b,bc,mY,ah,λbr hU g2 cU=>?_⟩⟩;have sO:Go aq br H' hU:=i2.trans g2
  cases b with
  |false=>
   rw[if_neg ajO]at h;exact qf ⟨items.length-(k+1),by omega,rfl,fG,br,acc,xh,cq.go sO cU.cn,g'.trans sO,(sO.own D (by rw[d5];intro z;cases z)).trans Ac,sO.same.at' _ _ d5,by omega,j9.go sO,by rw[cF];exact h,ex⟩
  |true=>
   rw[if_pos rfl]at h;obtain⟨r,pP,dw,h⟩:=M.inv h;obtain rfl:=(el oh).eB _ _ _ dw;obtain⟨x,gd,eO,h⟩:=M.inv h;obtain rfl:=r.dat.eB _ _ _ eO;obtain⟨PS,ke,fZ,h⟩:=M.inv h;cases h;refine qg ⟨br,_,_,r,_,cU,dw,λe4 v lx g3 hb bu nn=>?_⟩;obtain⟨a7,_⟩:=p0 (H₀:=hU) bu nn eO;have om:Go aq (cg hU e4) H' lx:=sO.trans g3.cg;have yG:lx D=some (.lst zs):=om.same.at' _ _ d5;have Fo:cg hU e4 D=.dF:=(om.own D (by rw[d5];intro z;cases z)).trans Ac;have uZ:=g'.trans om;exact⟨yG,by omega,items.length-(k+1),by omega,rfl,fG,cg hU e4,acc++[x],PS,(cq.go om (hb.cg hU).cn).afG Fo yG,⟨pq kX uZ.same yG _,uZ.own,uZ.bM⟩,Fo,dG,
    by rw[ajQ,amq];omega,((j9.go om).append (.one a7)).es (by rw[Fo];intro z;cases z) yG,by rw[cF];exact fZ,by rw[aml];exact ex⟩
def BL(aH:0<n):∀av H Q,fB K mg (eE n cap it t el) av H Q->tX n cap (qC K mg it) (lI 0) (la K mg t) (fB K mg el) av H Q:=by
 rintro av H Q ⟨O,Y,S,r,ai,st,h,q⟩;obtain⟨ds,S1,ae,h⟩:=M.inv h;obtain⟨_,bc,ah,h⟩:=M.inv h;obtain⟨hlen,rfl⟩:=q0 ah;obtain⟨xs,ik,bF,h⟩:=M.inv h;cases h;rw[KH]at bF;refine⟨O,Y,S,ds,S1,st,ae,λaO H1 cm ys g1 aV its bt=>BK aV hlen (λH' s=>(its H' s _).2 (ali bt.len)) (λk d oh aq H' d4 cB g' cq=>?_) bF λaq v H' g cq bu nn=>q aq v H' (g1.trans g) cq bu (nn.back g1.same)⟩;cases cB;obtain⟨y,fz,bC⟩:=(bb.go g' (bt.dA (lD aO))).get d4;obtain⟨go,m5⟩:=(its H' g'.same k).1 (ajJ.mp fz).1;refine⟨go,λx aM R j' eP=>?_⟩;obtain⟨rfl,ex⟩:=m5 x aM j';rw[fz]at ex;cases ex;exact eP _ _ (Go.refl _ _) (cq.val bC) ((m'.refl _).set (by cases n with|zero=>exact absurd aH (akn _)|succ j=>rfl))
end
section
variable{X:aT}{scope esc:Scope}{EN N:List Str}{n:Nat}{cap:List Nat}{elt iter:Expr}{ifs:List Expr}{pos d8:Pos}{x:Str}{it:fj}{t:aR->M Bool}{el:bo}
def Gp{i:Nat}{y:Str}{py mX:Pos}(S:lp esc scope EN N n cap)(rf:X.N.Nodup)(lL:X.N[i]? = some y)(bg:X.env.scope.names.lookup y=some .local)(aH:0<n)(aD:FZ X (.Name x d8) iter it)(ag:N[0]? = some x)(i5:∀C aN s H,Loc (cA X scope N C aN s H).env.scope x/\(cA X scope N C aN s H).env.scope.names.lookup x=some .local)
  (bO:∀C aN s H,AM (cA X scope N C aN s H) ifs t) (iu:∀C aN s H,hR (cA X scope N C aN s H) elt el)
  (he:X.env.scope=esc:=by rfl) (hN:X.N=EN:=by rfl) (aI:X.calm=true:=by rfl) (aE:∀x,akv iter X.env x=pure x:=by intro _;rfl)
  (mF:ak8 (.ListComp elt [⟨.Name x d8,iter,ifs,0⟩] scope pos) (some (.Name y py)) mX.line X.env=pure true:=by rfl) :
  iW X (.Assign [.Name y py] (.ListComp elt [⟨.Name x d8,iter,ifs,0⟩] scope pos) mX) (tW (tX n cap (qC X.K X.mg it) (lI 0) (la X.K X.mg t) (fB X.K X.mg el)) (lI i)):=
 acm (wi:=qC X.K X.mg it) (g:=lI 0) (tt:=la X.K X.mg t) (te:=fB X.K X.mg el) S rf lL bg aD (λC aN s H=>wD S.dZ ag (i5 C aN s H).1 (.inr (i5 C aN s H).2)) bO iu he hN aI aE mF
end
abbrev bJ:=List D->M R
def ub(K:aS)(mg:bq)(O:a5)(H:aw):D->V->Prop
 |.lst xs,v=>∃a ys,v=.ref a/\dx K H a ys/\bb K mg O H xs ys|d,v=>Rep K mg O H d v
def l5(K:aS)(mg:bq)(O:a5)(H:aw):List D->List V->Prop
 |[],ys=>ys=[]|x::xs,ys=>∃y r,ys=y::r/\ub K mg O H x y/\l5 K mg O H xs r
def dC:D->Slot
 |.lst xs=>.cc xs|d=>.v d
def Gm{O:a5}{r:R}{v:V}(h:e5 K mg O H r v):ub K mg O H r.arg v:=by
 match r,h with
 |.v (.lst xs),h=>obtain⟨a,ys,q,l,r⟩:=h;exact⟨a,ys,q,l.dP,r⟩
 |.fr xs,h=>obtain⟨a,ys,q,l,_,r⟩:=h;exact⟨a,ys,q,dx.of l,r⟩
 |.cc xs,h=>obtain⟨a,ys,q,l,r⟩:=h;exact⟨a,ys,q,l.dP,r⟩
 |.mv xs,h=>obtain⟨a,ys,q,l,r⟩:=h;exact⟨a,ys,q,dx.of l,r⟩
 |.v .aG,h=>exact h|.v (.aC _),h=>exact h|.v (.int _),h=>exact h|.v (.str _),h=>exact h|.v (.tup _),h=>exact h|.v (.ref _),h=>exact h|.v (.fn _),h=>exact h|.v (.ty _),h=>exact h
theorem A8{O:a5}:∀{rs:List R}{vs:List V},gx K mg O H rs vs->l5 K mg O H (rs.map R.arg) vs
 |[],_,h=>h| _::_,_,h=>by obtain⟨y,r,q,a,b⟩:=h;exact⟨y,r,q,Gm a,A8 b⟩
theorem l5.len{O:a5}:∀{ds:List D}{vs:List V},l5 K mg O H ds vs->vs.length=ds.length
 |[],_,h=>by cases h;rfl
 |_::_,_,h=>by obtain⟨x,r,rfl,_,b⟩:=h;rw[ajW,ajW,l5.len b]
theorem l5.get{O:a5}:∀{ds:List D}{xs:List V}{i:Nat}{d:D},l5 K mg O H ds xs->ds[i]? = some d->∃x,xs[i]? = some x/\ub K mg O H d x
 |[],_,_,_,_,e=>by simp at e| _::_,_,0,d,h,e=>by obtain⟨x,r,rfl,a,_⟩:=h;cases(show some _=some d from e);exact⟨x,rfl,a⟩
 |_::ds,_,i+1,d,h,e=>by
  obtain⟨x,r,rfl,_,b⟩:=h;obtain⟨y,ao,az⟩:=l5.get (i:=i) b (by simpa using e);exact⟨y,by simpa using ao,az⟩
def b3(K:aS)(mg:bq)(mf:bJ):eo:=λvs H Q _=>∃O ds r S,da O H/\gz K mg O H S/\l5 K mg O H ds vs/\(mf ds).run S=.ok r S/\∀aq v H',Go O aq H H'->da aq H'->e5 K mg aq H' r v->jQ H r v->Q v H'
@[simp] def bA(mf:bJ)(ms:c7)(Y:aR):M R:=do
 let rs <-ms Y
 mf (rs.map R.arg)
section
variable{mf:bJ}{ms:c7}
def BC:∀av H Q,fB K mg (bA mf ms) av H Q->Ad (b3 K mg mf) (oa K mg ms) av H Q:=by
 rintro av H Q ⟨O,Y,S,r,ai,st,h,q⟩;obtain⟨rs,S1,ae,h⟩:=M.inv h;refine⟨O,Y,S,rs,S1,st,ae,λaO vs H1 g1 aV bu nn=>?_⟩;obtain rfl:=(mf _).eB _ _ _ h;exact⟨aO,_,r,ai,aV.cn,aV.hc,A8 bu,h,λaq v H' g d bT c9=>q aq v H' (g1.trans g) (aV.go g d) bT (c9.back g1.same)⟩
end
def fnOf(n N:Nat)(b:a3):bJ:=λds=>if ds.length=n then do
  let ba <-b (ds.map dC++akB (N-n) .e)
  match ba with
  |.cQ (.v d)=>pure (.v d)|.cQ (.fr xs)=>pure (.fr xs)|.bh _=>pure (.v .aG)|_=>bad
 else bad
def aey{O:a5}{v:V}(h:ub K mg O H d v):jS K mg (fx O) H w (dC d) (some v):=by
 have val:Rep K mg O H d v->jS K mg (fx O) H w (.v d) (some v):=λh=>⟨v,rfl,h.dA (lD O)⟩
 match d,h,val with
 |.lst xs,h,_=>
  obtain⟨a,ys,rfl,l,r⟩:=h;exact⟨a,ys,rfl,l.imp (λz=>⟨z,nr O a⟩) id,r.dA (lD O)⟩
 |.aG,h,val=>exact val h|.aC _,h,val=>exact val h|.int _,h,val=>exact val h|.str _,h,val=>exact val h|.tup _,h,val=>exact val h|.ref _,h,val=>exact val h|.fn _,h,val=>exact val h|.ty _,h,val=>exact val h
omit [aF.a8]in
theorem yq{n N:Nat}{ds:List D}{r:R}(h:(fnOf n N b ds).run S=.ok r ai):ds.length=n:=by
 unfold fnOf at h
 by_cases c:ds.length=n
 .exact c
 .rw[if_neg c]at h;cases h
def Fh{ps N:List Str}{O:a5}{ds:List D}(cT:da O H)(e':gz K mg O H S)(ff:l5 K mg O H ds vs)(au:ds.length=ps.length):cO K mg (fx O) (ds.map dC++akB (N.length-ps.length) .e) S (aF.start N vs) H:=by
 have J2:=ff.len;refine⟨⟨λa ar=>cT.has a λz=>ar (pW.mpr z),cT.tabs,HZ cT⟩,?_,λi s e=>?_,e'.all (λ_ _ z=>Rep.dA (lD O) z) rfl λ_ _ _ l _=>l⟩
 .unfold aF.start
  rw[ajQ,ajQ,ajE,ajE,akP,akP,J2,au]
 .by_cases aD:i<ds.length
  .rw[aj8 (by rw[ajE];exact aD),akc]at e
   cases d4:ds[i]? with
   |none=>rw[d4]at e;cases e
   |some d=>
    rw[d4]at e;cases e;obtain⟨v,ev,bR⟩:=ff.get d4;unfold aF.start;rw[aj8 (by rw[ajE,J2];exact aD),akc,ev];exact aey bR
  .rw[aj3 (by rw[ajE];omega),aly]at e
   split at e
   .cases e;exact trivial
   .cases e
def H4{ps N:List Str}(h4:b3 K mg (fnOf ps.length N.length di) vs H Q E):kH K mg di { bh:=fun _ H'=>Q .aG H',cQ:=Q } (aF.start N vs) H:=by
 obtain⟨O,ds,r,S,cT,e',ff,h,q⟩:=h4;have au:=yq h;unfold fnOf at h;rw[if_pos au]at h;obtain⟨ba,S1,ae,h⟩:=M.inv h;have rX:=Fh (N:=N) cT e' ff au;have old:∀b,H b≠none->fx O b=.free\/fx O b=.out:=λb _=>nr O b
 have back:∀{aq:a5}{H':aw},eu (fx O) aq H H'->da aq H'->∃br:a5,Go O br H H'/\da br H'/\nc aq br/\∀b,(aq b=.dF\/∃i,aq b=.loc i)->H b=none/\br b=.dF:=λ{aq H'} g d=>by
  refine⟨⟨λb=>match H b with|some _=>O b|none=>(match aq b with|.loc _=>.dF|o=>o),O.bM⟩,⟨⟨λb o e n=>g.cells b o e ((old b (by rw[e];intro z;cases z)).elim .inl λz=>.inr (.inl z)) n,g.c6,g.bV⟩,λb af=>?_,rfl⟩,⟨λb af=>?_,d.tabs,cT.cp.1,λb m=>?_⟩,⟨λb af=>?_,g.bM.symm⟩,λb af=>?_⟩
  .dsimp only
   cases e:H b with
   |none=>exact absurd e af|some o=>rfl
  .dsimp only at af
   cases e:H b with
   |some o=>exact g.has b (by rw[e];intro z;cases z)|none=>
    rw[e]at af;refine d.has b λz=>af ?_
    dsimp only;rw[z]
  .dsimp only
   cases e:H b with
   |some o=>exact cT.cp.2 b m| none=>exact absurd e (cT.has b (by rw[cT.cp.2 b m];intro z;cases z))
  .dsimp only
   cases e:H b with
   |some o=>
    dsimp only;have:=(g.own b (by rw[e];intro z;cases z) (nr O b)).symm.trans af;exact pW.mp this
   |none=>
    dsimp only;rw[af]
  .have aH:H b=none:=by
    cases e:H b with
    |none=>rfl|some o=>
     exfalso;have bz:=g.own b (by rw[e];intro z;cases z) (nr O b);rcases nr O b with z|z<;>rw[z]at bz<;>rcases af with w|⟨i,w⟩<;>rw[bz]at w<;>cases w
   refine⟨aH,?_⟩;dsimp only;rw[aH];rcases af with w|⟨i,w⟩<;>rw[w]
 refine⟨fx O,_,S,ba,S1,rX,ae,?_⟩
 cases ba with
 |bh Y'=>
  cases h;intro aq dk H' g cq _;obtain⟨br,g2,dh,f2,_⟩:=back g cq.cn;exact q br .aG H' g2 dh rfl trivial
 |cP Y'=>cases h
 |cw Y'=>cases h
 |cQ bT=>
  intro aq v H' g d ahT bu;obtain⟨br,g2,dh,f2,d6⟩:=back g d
  cases bT with
  |v dd=>cases h;exact q br v H' g2 dh (Rep.dA f2 bu) trivial
  |fr xs=>
   cases h;obtain⟨a,ys,rfl,l,t,bt⟩:=bu;obtain⟨aH,bO⟩:=d6 a t;exact q br _ H' g2 dh ⟨a,ys,rfl,l,bO,bt.dA f2⟩ λb dc=>by cases dc;exact aH
  |cc xs=>exact akl bu|mv xs=>exact akl bu
def I7{P:ajY}{w:World}{K:aS}{mg:bq}{base:Heap}{x qual:Str}{st:Stmt}{ps N:List Str}{k:Nat}{di:a3}{f:Addr}{fd:akR}{n nl:Nat}(F:lu K x qual st f fd)(Sc:cb N ps (bH st))(aH:ps.length=n)(au:N.length=nl)
  (af:∀(bw:Value)(A:aj4)(outer:List Env)(s:ajH)(H:aw)(E:gL),cK k (A.deeper (akO qual (bH st) s.heap.objs.size f bw))->
   sg (ho eT P w K mg base N qual (bH st) f bw A outer s H E).gO (fF st) di):fq P w K mg base eT (k+1) f fd ps (b3 K mg (fnOf n nl di)):=by
 subst aH au;exact F.ok Sc (λvs H Q E ⟨O,ds,r,S,cT,e',ff,h,q⟩=>ff.len.trans (yq h)) λbw A outer s H vs Q E aB h4=>⟨_,af bw A outer s H E aB,H4 h4⟩
def p8{P:ajY}{w:World}{K:aS}{mg:bq}{base:Heap}{x:Str}{st:Stmt}{ps N:List Str}{k:Nat}{di:a3}{n nl:Nat}(cu:cu K mg x st ps)(Sc:cb N ps (bH st))(aH:ps.length=n)(au:N.length=nl)
  (af:∀(f:Addr)(bw:Value)(A:aj4)(outer:List Env)(s:ajH)(H:aw)(E:gL),cK k (A.deeper (akO x (bH st) s.heap.objs.size f bw))->
   sg (ho eT P w K mg base N x (bH st) f bw A outer s H E).gO (fF st) di):b_ P w K mg base x ps (k+1) (b3 K mg (fnOf n nl di)):=by
 obtain⟨f,fd,F,b,m⟩:=cu.ex;exact⟨f,fd,I7 F Sc aH au (λbw=>af f bw),b,F.kp,m⟩
omit [aF.a8]in
theorem ID{K:aS}{h:Heap}{mg:bq}{x:Str}{st:Stmt}{f:Addr}{ps:List Str}{dj an:Option Addr}{bW:Array (Option Value)}{bK cI p2 pm cd cw:Value}(X:K.In h)(G:h.Ns akf mg)
  (a:amV K akf x=some (some (.ref f))) (l:K.lookup f=some ⟨bK,dj,.func (alr x x (iq st) (fF st) (bH st) .none cI p2 pm an cd cw),bW⟩) (c:anp K cd x=true) (k:alB K (.ref f)=true)
  (af:∀(cI doc pm:Value)(an:Option Addr)(bw cw:Value)(us:List Value),us.length=ps.length->alU (alr x x (iq st) (fF st) (bH st) .none cI doc pm an bw cw) ⟨us,[]⟩=pure (ps.zip us)):cu K mg x st ps:=
 ⟨f,_,yx (st:=st) l c k,(yx (st:=st) l c k).binds af,anr X G a⟩
abbrev w3(K:aS):eo:=λvs H Q _=>∃(a:Addr)(ns:List Int),vs=[.ref a]/\dx K H a (ns.map V.int)/\ns.length<=63/\TabsOk H/\∀H',Q (.aC true) H'
abbrev pD:Nat:=10715086071862673209484250490600018105614048117055336074437503883703510511249361224931983788156958581275946729175531468251871452856923140435984577574698574803934567774824230985421074605062371141877954182153046474983581941267398767559165543946077062914571196477686542167660429831652624386837205668069376
omit [aF.a8]in
theorem HR:pD=2 ^ 1000:=by decide +kernel
omit [aF.a8]in
theorem L7{i:Int}(h:i.natAbs<pD):akW i<=1000:=by
 unfold akW;split
 .exact aj5 _
 .rename_i hz
  have:i.natAbs.log2<1000:=(Nat.log2_lt (by simpa using hz)).mpr (HR▸h);omega
def oj(i j:Int):Prop:=(-(2 ^ 64)<i/\i<2 ^ 64)\/(-(2 ^ 64)<j/\j<2 ^ 64)\/(i.natAbs<pD/\j.natAbs<pD)
omit [aF.a8]in
theorem oj.ok{i j:Int}(h:oj i j):IntMulOk i j:=by
 rcases h with h|h|h
 .exact(show xn i j from .inl h).ok
 .exact(show xn i j from .inr h).ok
 .have ae:=L7 h.1
  have ah:=L7 h.2;have af:aoA (akW i+akW j)=false:=by
   unfold aoA;refine decide_eq_false ?_;have:(2000:Int)<=((bitsLine:Nat):Int):=by decide
   omega
  unfold IntMulOk;rw[af];simp
instance (i j:Int):Decidable (oj i j):=by unfold oj;exact inferInstance
def abd:ew X (alA .Mult) (kA oj λi j=>.int (i*j)):=tM λ_ _ _ _ _ _ _ aI q=>PyProof.Rows.mul_int q aI.ok
abbrev wh:=o8 oj (· * ·)
def QV{X:aT}:eK X.K X.mg (kA oj λi j=>.int (i*j)) wh:=sz λ_ _ h=>h
def oi(_ j:Int):Prop:=0<j/\j.natAbs<pD
instance (i j:Int):Decidable (oi i j):=by unfold oi;exact inferInstance
def aa8:ew X (alA .FloorDiv) (kA oi λi j=>.int (i / j)):=tM λi j _ _ _ _ _ aI q=>by
 have ae:(0:Int)<j:=aI.1;have ah:j.natAbs<pD:=aI.2;refine PyProof.Rows.floordiv_int (by omega) (by rw[anM i (by omega)];exact q) (.inl (PyProof.noPylong_of_log2 ?_));have:j.natAbs.log2<1000:=(Nat.log2_lt (by omega)).mpr (HR▸ah);omega
abbrev eG:=o8 oi (· / ·)
def QR{X:aT}:eK X.K X.mg (kA oi λi j=>.int (i / j)) eG:=sz λ_ _ h=>h
def oBits:R->M R
 |.v (.int i)=>pure (.v (.int (akW i:Nat)))|_=>bad
structure FY(mg:bq):Prop where
 len:mg "len"=none
 range:mg "range"=none
 isinstance:mg "isinstance"=none
 max:mg "max"=none
 min:mg "min"=none
 any:mg "any"=none
 all:mg "all"=none
 Kn:mg "int"=none
 S_:mg "bool"=none
 ZW:mg "list"=none
 tuple':mg "tuple"=none
 aeK:mg "str"=none
 abs:mg "abs"=none
 sorted:mg "sorted"=none
 sum:mg "sum"=none
 zip:mg "zip"=none
 enumerate:mg "enumerate"=none
 reversed:mg "reversed"=none
 ajr:mg "set"=none
omit [aF.a8]in
theorem S':akx "abs"=some (.builtin "abs"):=by decide +kernel
end a0
namespace a0
open PySem PySem.Spec aF
@[simp] theorem ah9{p:Prop}[Decidable p]:hY p=if p then pure ()else bad:=rfl
@[simp] theorem ahX:aa d Y=pure (.v d):=rfl
@[simp] theorem aiR:R.qD (.v (.aC b))=pure b:=rfl
@[simp] theorem ahW{g:Int->Int->Int}{i j:Int}:rL g (.v (.int i)) (.v (.int j))=pure (.v (.int (g i j))):=rfl
@[simp] theorem ahV{C:Int->Int->Prop}[∀i j,Decidable (C i j)]{g:Int->Int->Int}{i j:Int}:o8 C g (.v (.int i)) (.v (.int j))=if C i j then pure (.v (.int (g i j)))else bad:=rfl
@[simp] theorem ahU{g:Int->Int->Bool}{i j:Int}:rK g (.v (.int i)) (.v (.int j))=pure (.v (.aC (g i j))):=rfl
@[simp] theorem ah6{i:Int}:oBits (.v (.int i))=pure (.v (.int (akW i:Nat))):=rfl
@[simp] theorem aiA:aj Y=pure []:=rfl
@[simp] theorem aif:R.dat (.v d)=pure d:=rfl
@[simp] theorem aic:R.dat (.fr xs)=pure (.lst xs):=rfl
@[simp] theorem aie:kS []=pure []:=rfl
@[simp] theorem aid{r:R}:kS (r::rs)=(do
  let d <-r.dat
  let ds <-kS rs
  pure (d::ds)):=rfl
@[simp] theorem aix:R.fX (.fr xs)=some xs:=rfl
@[simp] theorem aiy:R.fX (.cc xs)=some xs:=rfl
@[simp] theorem aiH:R.seq (.v (.tup xs))=some xs:=rfl
@[simp] theorem aiG:R.seq (.fr xs)=some xs:=rfl
@[simp] theorem aiI:R.seq (.cc xs)=some xs:=rfl
@[simp] theorem aiF:R.own (.v (.lst xs))=some xs:=rfl
@[simp] theorem aiE:R.own (.fr xs)=some xs:=rfl
@[simp] theorem ah1:R.arg (.v d)=d:=rfl
@[simp] theorem ah0:R.arg (.fr xs)=.lst xs:=rfl
@[simp] theorem aiv{x:R}:gq [x]=match x.seq with
  |some xs=>pure (.v (.int (xs.length:Nat)))|none=>bad:=rfl
@[simp] theorem ais{i:Int}:R.kind (.v (.int i))=some "int":=rfl
@[simp] theorem ait:R.kind (.v (.str x))=some "str":=rfl
@[simp] theorem aiu:R.kind (.v (.tup xs))=some "tuple":=rfl
@[simp] theorem aik{x:R}:hZ [x,.v (.ty n)]=match x.kind with
  |some t=>if n∈["int","bool","tuple","list","str"]then pure (.v (.aC (i8 t n)))else bad|none=>bad:=rfl
@[simp] theorem ail{t n:String}:i8 t n=(t==n||(t == "bool"&&n == "int")):=rfl
@[simp] theorem ahY{i:Int}:uP [.v (.int i)]=pure (.v (.int (if i<0 then -i else i))):=rfl
theorem H0{α:Type}(p:α->Bool):∀xs:List α,pX (xs.map λx=>D.aC (p x))=some (xs.map p)
 |[]=>rfl| x::xs=>by rw[ajP,ajP,pX,H0 p xs];rfl
@[simp] theorem aiS{x:R}:mq [x]=match x.seq with
  |some xs=>pure (.v (.tup xs))|none=>bad:=rfl
@[simp] theorem aiq{i:Int}:aL (.v (.tup xs)) (.v (.int i))=match e_ xs i with
   |some d=>pure (.v d)|none=>bad:=rfl
@[simp] theorem aip{i:Int}:aL (.fr xs) (.v (.int i))=match e_ xs i with
   |some d=>pure (.v d)|none=>bad:=rfl
@[simp] theorem air{i:Int}:aL (.cc xs) (.v (.int i))=match e_ xs i with
   |some d=>pure (.v d)|none=>bad:=rfl
def pV{α:Type}{xs:List α}(k:Nat){v:α}(h:xs[k]? = some v):e_ xs (k:Int)=some v:=QH h
@[simp] theorem ah2{α:Type}{x:α}{xs:List α}:e_ (x::xs) 0=some x:=pV 0 rfl
@[simp] theorem ah3{α:Type}{x y:α}{xs:List α}:e_ (x::y::xs) 1=some y:=pV 1 rfl
@[simp] theorem ah4{α:Type}{x y z:α}{xs:List α}:e_ (x::y::z::xs) 2=some z:=pV 2 rfl
@[simp] theorem ah5{α:Type}{x y z w:α}{xs:List α}:e_ (x::y::z::w::xs) 3=some w:=pV 3 rfl
@[simp] theorem ahZ{r:R}:iD xs [r]=(do
  let d <-r.dat
  hY (xs.length<ajL)
  pure (.v .aG,xs++[d])):=rfl
@[simp] theorem aii{r:R}:w' xs [r]=match r.own with
  |some ys=>do
   hY (xs.length+ys.length<=ajL)
   pure (.v .aG,xs++ys)
  |none=>bad:=rfl
@[simp] theorem aiB:By Y=pure none:=rfl
@[simp] theorem aia{cap:List Nat}:i0 n cap Y=akB n .e++cap.map λk=>yd Y[k]?:=rfl
@[simp] theorem aib:yd (some (.v d))=.v d:=rfl
@[simp] theorem aiT:gv Y=pure true:=rfl
@[simp] theorem aij{x:R}:ky x (.v .aG)=pure (.v (.aC x.qe)):=rfl
@[simp] theorem aiC{x:R}:nY x (.v .aG)=pure (.v (.aC (!x.qe))):=rfl
@[simp] theorem aim:R.qe (.v .aG)=true:=rfl
@[simp] theorem aio:R.qe (.v (.tup xs))=false:=rfl
@[simp] theorem ain:R.qe (.v (.str x))=false:=rfl
@[simp] theorem aih{i j:Int}:oEq (.v (.int i)) (.v (.int j))=pure (.v (.aC (i==j))):=rfl
@[simp] theorem aiz{i j:Int}:ef (.v (.int i)) (.v (.int j))=pure (.v (.aC (!(i==j)))):=rfl
def uL{x y:R}(ag:x.arg.bV 64=true)(bg:y.arg.bV 64=true):oEq x y=pure (.v (.aC (jz x.arg y.arg))):=if_pos ⟨ag,bg⟩
def B3{x y:R}(ag:x.arg.bV 64=true)(bg:y.arg.bV 64=true):ef x y=pure (.v (.aC (!jz x.arg y.arg))):=if_pos ⟨ag,bg⟩
@[simp] theorem aiN:dC (.lst xs)=.cc xs:=rfl
@[simp] theorem aiM{i:Int}:dC (.int i)=.v (.int i):=rfl
@[simp] theorem aiQ:dC (.tup xs)=.v (.tup xs):=rfl
@[simp] theorem aiP:dC (.str x)=.v (.str x):=rfl
@[simp] theorem aiO:dC .aG=.v .aG:=rfl
@[simp] theorem B2{n N:Nat}{ds:List D}:fnOf n N b ds=if ds.length=n then(do
  let ba <-b (ds.map dC++akB (N-n) .e)
  match ba with
  |.cQ (.v d)=>pure (.v d)|.cQ (.fr xs)=>pure (.fr xs)|.bh _=>pure (.v .aG)| _=>bad)else bad:=rfl
theorem IX{b:D->a3}(J:Nat->aR->Prop):∀(ds:List D)(k:Nat)(Y:aR),J k Y->(∀i d Y,ds[i]? = some d->J (k+i) Y->∃Y',(b d Y=pure (.bh Y')\/b d Y=pure (.cw Y'))/\J (k+i+1) Y')->
  ∃Y',hr b ds Y=pure (.bh Y')/\J (k+ds.length) Y'
 |[],k,Y,h0,_=>⟨Y,rfl,h0⟩
 |d::ds,k,Y,h0,step=>by
  obtain⟨ig,e,ae⟩:=step 0 d Y rfl h0;obtain⟨dX,az,ah⟩:=IX J ds (k+1) ig ae λi d' Y' hd nG=>by
   have:=step (i+1) d' Y' (by simpa using hd) (by rw[show k+(i+1)=k+1+i by omega];exact nG);rw[show k+(i+1)+1=k+1+i+1 by omega]at this;exact this
  refine⟨dX,?_,by rw[ajW,show k+(ds.length+1)=k+1+ds.length by omega];exact ah⟩;show(b d Y >>= _)=_;rcases e with e|e<;>rw[e]<;>exact az
def uV{b:D->a3}{ds:List D}(J:Nat->aR->Prop)(h0:J 0 Y)(step:∀i d Y,ds[i]? = some d->J i Y->∃Y',(b d Y=pure (.bh Y')\/b d Y=pure (.cw Y'))/\J (i+1) Y') :
  ∃Y',hr b ds Y=pure (.bh Y')/\J ds.length Y':=by
 obtain⟨Y',e,h⟩:=IX J ds 0 Y h0 λi d Y hd nG=>by
  rw[aod]at nG ⊢;exact step i d Y hd nG
 exact⟨Y',e,by rw[aod]at h;exact h⟩
def QJ{ns:List Int}{k:Nat}(h:k<ns.length):e_ (ns.map D.int) (k:Int)=some (.int (ns.getD k 0)):=by
 refine pV k ?_;rw[akc,akr h];simp[akg,h]
def mod_lt{a b:Int}(h:0<b):0<=a % b/\a % b<b:=⟨aos _ (by omega),anE _ h⟩
def Z3{i:Int}(ae:-(10 ^ 200)<i)(ah:i<10 ^ 200):i.natAbs<pD:=by
 unfold pD;omega
def hG{i j:Int}(ae:0<j)(ah:j<10 ^ 200):oi i j:=⟨ae,Z3 (by omega) ah⟩
end a0
namespace a0
open PySem PySem.Spec aF
variable[aF.a8]
def kE:List Nat->List D->aR->aR
 |i::is,d::ds,Y=>kE is ds (Y.set i (.v d))|_,_,Y=>Y
def j0:List Nat->pS
 |[]=>Je|i::is=>Jd (lI i) (j0 is)
@[simp] def mc(is:List Nat)(m:bo)(Y:aR):M gI:=do
 let r <-m Y
 match r with
 |.v (.tup ds)=>if ds.length=is.length then pure (.bh (kE is ds Y))else bad|_=>bad
theorem Ak{O:a5}:∀{is:List Nat}{ds:List D}{xs:List V}{Y:aR}{av:St}{Q:St->aw->Prop},cO K mg O Y S av H->bb K mg O H ds xs->ds.length=is.length->
  (∀dk,cO K mg O (kE is ds Y) S dk H->fc Y (kE is ds Y) av dk->Q dk H)->j0 is xs av H Q
 |[],[],xs,Y,av,Q,st,bt,au,q=>⟨bt,q av st (fc.refl _ _)⟩
 |[],_::_,xs,Y,av,Q,st,bt,au,q=>by cases au
 |_::_,[],xs,Y,av,Q,st,bt,au,q=>by cases au
 |i::is,d::ds,xs,Y,av,Q,st,bt,au,q=>by
  obtain⟨y,r,e,bC,bu⟩:=bt;refine⟨y,r,e,?_⟩;exact Ak (is:=is) (st.val bC) bu (by simpa using au) λdk cq k=>q dk cq (fc.trans (fc.set λxs z=>by cases z) k)
section
variable{X:aT}{is:List Nat}{e:Expr}{ay:List Expr}{k:Nat}{it:fj}{b:a3}
def wG{i:Nat}{x:Str}{p:Pos}(hN:X.N.Nodup)(aD:X.N[i]? = some x)(ag:Loc X.env.scope x)(h:l9 X ay (j0 is))(aE:(aj7 (.Name x p::ay) X.env).map (·.2)=al7 (.Name x p) X.env::(aj7 ay X.env).map (·.2):=by rfl)
  (hf:X.fn x=true\/X.env.scope.names.lookup x=some .local:=by first|exact .inl rfl|exact .inr rfl|assumption):l9 X (.Name x p::ay) (j0 (i::is)):=ab8 (wD hN aD ag hf) h aE
def EE:l9 X [] (j0 []):=ab9
def x7(is:List Nat)(it:fj)(b:a3):a3:=λY=>do
 let ds <-it Y
 hr (λd Y=>match d with
  |.tup ay=>if ay.length=is.length then b (kE is ay Y)else bad| _=>bad) ds Y
theorem VP:∀D av H,kH K mg (x7 is it b) D av H->r0 (w9 K mg it) (rd K is.length (j0 is)) (kH K mg b) D av H:=
 I8 (B:=fun d Y=>match d with
  |.tup ay=>if ay.length=is.length then b (kE is ay Y)else bad| _=>bad) λO Y S av H d y f bc Q st bC h k=>by
  cases d with
  |tup ay=>
   by_cases c:ay.length=is.length
   .dsimp only at h
    rw[if_pos c]at h;obtain⟨a,zs,e,t,j9⟩:=bC;exact⟨a,zs,e,t,by rw[j9.len,c],Ak st j9 c λkJ mY bj=>k _ _ mY bj h⟩
   .dsimp only at h
    rw[if_neg c]at h;cases h
  |_=>cases h
end
omit [aF.a8]in
@[simp] theorem aiJ{is:List Nat}{Y:aR}:kE (i::is) (d::ds) Y=kE is ds (Y.set i (.v d)):=rfl
omit [aF.a8]in
@[simp] theorem aiK:kE [] ds Y=Y:=by cases ds<;>rfl
end a0
namespace aF
open PySem PySem.Spec PyProof.Rows
variable[aF.a8]
omit [aF.a8]in
theorem MN(ns:List Int):∀k,k<=ns.length->preSum (λi=>ns.getD i 0) k=(ns.take k).sum
 |0,_=>by rw[anq];rfl|k+1,h=>by
  have ax:k<ns.length:=by omega
  rw[anV,akr ax,List.sum_append];show preSum _ k+_=_;rw[MN ns k (by omega)];simp[akg,ax]
def Tw{X:aT}(aI:X.calm=true):jh X (.builtin "sum") (λxs H Q=>∃(l:Addr)(ns:List Int),xs=[.ref l]/\dx X.K H l (ns.map V.int)/\Q (.int ns.sum) H):=by
 intro zn s Y H xs us Q J bR h;obtain⟨l,ns,rfl,cX,q⟩:=h;obtain⟨u,rfl,bG⟩:=vals1 bR;cases bG;obtain⟨its,qx,p,hz⟩:=J.list cX;have fG:l<s.heap.objs.size:=by obtain⟨o,n,e,_⟩:=p;exact ajV e
 have aH:its.toArray.size=ns.length:=by
  have ah:=qx.length;rw[ajE]at ah;simp[ah]
 have bL:∀(i:Nat)(v:Value),its.toArray[i]? = some v->∃t,v=am3 (ns.getD i 0) t:=λi v bL=>by
  have mG:its[i]? = some v:=by simpa using bL
  have aD:i<ns.length:=by
   have ae:=(ajJ.mp mG).1;have ah:=qx.length;rw[ajE]at ah;omega
  obtain⟨u,cC,eg⟩:=qx.get (i:=i) (x:=.int ns[i]) (by rw[akc,akr aD];rfl);rw[mG]at cC;cases cC;obtain⟨t,rfl⟩:=eg;exact⟨t,by rw[akg,akr aD];rfl⟩
 refine call_sum_walkG (alv p.isList ?_);refine⟨s.heap.objs.size,_,_,_,_,_,λi=>ns.getD i 0,rfl,aoD (A:=X.A.in1) (show X.A.in1.handled=none from J.ok.hd aI) s.heap.objs.size l (aj1 fG) its.toArray,⟨⟨_,ajS _ rfl,rfl,rfl⟩,p.isList.at λo e=>ajF _ e⟩,λb af=>?_,bL,λh' tk t' k=>?_⟩
 .show b<(s.heap.push _).objs.size
  rw[alT];rcases ajN.mp af with rfl|af
  .exact an9 _
  .rw[aj0.mp af];exact amQ fG
 rw[aH,MN ns _ (ajK _),am1];exact⟨.int _,H,J.kept (h':=h') (t':=tk) λb o e=>k b o (by intro z;rw[aj0.mp z]at e;exact absurd (ajV e) (akn _)) (ajF _ e),⟨_,rfl⟩,q⟩
end aF
namespace a0
open PySem PySem.Spec aF
variable[aF.a8]
omit [aF.a8]in
theorem Tf:akx "sum"=some (.builtin "sum"):=by decide +kernel
def nums:List D->Option (List Int)
 |[]=>some []|.int b::r=>(nums r).map (b::·)|_=>none
def sL:List R->M R
 |[x]=>match x.fX.bind nums with
  |some bs=>pure (.v (.int bs.sum))|none=>bad
 |_=>bad
section
variable{K:aS}{mg:bq}
theorem tB{O:a5}:∀{ds:List D}{ys:List V}{bs:List Int},bb K mg O H ds ys->nums ds=some bs->ys=bs.map V.int
 |[],ys,bs,h,e=>by cases e;exact h
 |d::ds,ys,bs,h,e=>by
  cases d with
  |int b=>
   have e:(nums ds).map (b::·)=some bs:=e;obtain⟨cs,ao,rfl⟩:=amk.mp e;obtain⟨y,r,rfl,ae,ah⟩:=h;rw[tB ah ao,show y=.int b from ae];rfl
  |_=>exact absurd (show(none:Option (List Int))=some bs from e) (by intro z;cases z)
def Zd:jL K mg (λxs H Q=>∃(l:Addr)(bs:List Int),xs=[.ref l]/\dx K H l (bs.map V.int)/\Q (.int bs.sum) H) sL:=λO Y S av H vs rs bT ai Q st aB h q=>by
 unfold sL at h;split at h
 .rename_i x
  obtain⟨v,rfl,ag⟩:=kB aB;split at h
  .rename_i xs e
   cases h;obtain⟨zs,ao,az⟩:=aol.mp e;obtain⟨a,ys,rfl,l,bt⟩:=R.nO ag ao;rw[tB bt az]at l;exact⟨a,xs,rfl,l,q O _ H (Go.refl _ _) st rfl trivial⟩
  .cases h
 .cases h
end
omit [aF.a8]in
theorem Eb{α:Type}(p:α->Int):∀xs:List α,nums (xs.map λx=>D.int (p x))=some (xs.map p)
 |[]=>rfl| x::xs=>by rw[ajP,ajP,nums,Eb p xs];rfl
end a0
namespace a0
open PySem PySem.Spec aF
section
variable[aF.a8](X:aT)
structure a'(e:Expr)(m:bo):Prop where
 un:hR X e m
structure fE(e:Expr)(m:aR->M Bool):Prop where
 un:F2 X e m
structure lB(e:Expr)(m:aR->M Bool):Prop where
 un:xp X e m
structure gK(e:List Expr)(m:c7):Prop where
 un:AL X e m
structure sv(e:Option Expr)(m:pK):Prop where
 un:P5 X e m
structure fu(e:Stmt)(m:a3):Prop where
 un:F1 X e m
structure fS(e:List Stmt)(m:a3):Prop where
 un:sg X e m
structure pU(cj e:Expr)(m:fj):Prop where
 un:FZ X cj e m
structure uq(cj e:Expr)(m:fj):Prop where
 un:P4 X cj e m
structure pT(e:List Expr)(m:aR->M Bool):Prop where
 un:AM X e m
end
section
variable[aF.a8]
variable{X:aT}{a e:Expr}{pos:Pos}
theorem e3(i:Nat)(hN:X.N[i]? = some x:=by rfl)(bL:qX X.env.scope x:=by first|exact alz rfl|exact akC (.inl rfl)|exact akC (akC rfl))(hd:(x==("__debug__":Str))=false:=by decide)(gM:(x==("__classdict__":Str))=false:=by decide):a' X (.Name x pos) (I i):=⟨eI (zS hN bL hd gM) λav H Q aX=>by
 obtain⟨O,Y,S,r,ai,st,h,q⟩:=aX;unfold I at h
 cases e:Y[i]? with
 |none=>rw[e]at h;cases h
 |some s=>
  rw[e]at h;have l:=st.loc i s e;have get:∀{v:V},av[i]?.join=some v->av[i]? = some (some v):=λ{v} z=>by
   cases w:av[i]? with
   |none=>rw[w]at z;cases z
   |some y=>rw[w]at z;exact congrArg some z
  cases s with
  |v d=>
   obtain⟨v,ao,az⟩:=l;cases h;exact⟨v,get ao,q O v H (Go.refl _ _) st az trivial⟩
  |eH p xs=>
   obtain⟨a,ys,ao,az,cG,fg⟩:=l;cases h;exact⟨_,get ao,q O _ H (Go.refl _ _) st ⟨a,ys,rfl,cG,fg⟩ trivial⟩
  |cc xs=>
   obtain⟨a,ys,ao,az,fg⟩:=l;cases h;exact⟨_,get ao,q O _ H (Go.refl _ _) st ⟨a,ys,rfl,az,fg⟩ trivial⟩
  |e=>cases h⟩
end
section
variable[aF.a8]
variable{X:aT}{e:Expr}{ay:List Expr}{m:bo}{ms:c7}
def gi(ar:a' X e m)(aB:gK X ay ms)(aE:ajG (e::ay) X.env=(false,eval e X.env)::ajG ay X.env:=by rfl):gK X (e::ay) (U m ms):=⟨wz (wy ar.un aB.un aE) λav H Q aX=>by
 obtain⟨O,Y,S,r,ai,st,h,q⟩:=aX;obtain⟨x,S1,ae,h⟩:=M.inv h;obtain⟨xs,bc,ah,h⟩:=M.inv h;cases h;refine⟨O,Y,S,x,S1,st,ae,λaO gh H1 g1 aV a7 bh=>?_⟩;refine⟨aO,Y,S1,xs,_,aV,ah,λbr vs aM g2 cU rs ns=>?_⟩;exact q br (gh::vs) aM (g1.trans g2) cU ⟨gh,vs,rfl,a7.go g2,rs⟩ ⟨bh,ns.back g1.same⟩⟩
end
section
variable[aF.a8]
variable{X:aT}{pos:Pos}
def hv{i j pos}:a' X (.Constant (.int i) j pos) (aa (.int i)):=⟨uG abV λ_ _=>rfl⟩
end
section
variable[aF.a8]
variable{X:aT}
def lg :gK X [] aj:=⟨wz Ex λav H Q aX=>by
 obtain⟨O,Y,S,r,ai,st,h,q⟩:=aX;cases h;exact q O [] H (Go.refl _ _) st rfl trivial⟩
end
section
variable[aF.a8]
variable{X:aT}{a b:Expr}{c_ di:bo}{pos:Pos}
def l2{r:gb}(bf:ew X (alA op) r)(hf:eK X.K X.mg r f)(ar:a' X a c_)(af:a' X b di):a' X (.BinOp a op b pos) (ab f c_ di):=⟨eI (ab3 bf ar.un af.un) (uA hf)⟩
end
section
variable[aF.a8]
variable{X:aT}{st:Stmt}{rest:List Stmt}{a b:a3}
def qK(ae:fu X st a)(ah:fS X rest b):fS X (st::rest) (b1 a b):=⟨zV (MQ ae.un ah.un) λD av H aX=>by
 obtain⟨O,Y,S,ba,ai,st,h,q⟩:=aX;obtain⟨f1,S1,ae,h⟩:=M.inv h;refine⟨O,Y,S,f1,S1,st,ae,?_⟩
 cases f1 with
 |bh ig=>exact λaO xl H1 g1 aV g6=>⟨aO,ig,S1,ba,ai,aV,h,q.aA g1 g6⟩
 |cQ r=>cases h;exact q
 |cP ig=>cases h;exact q
 |cw ig=>cases h;exact q⟩
end
section
variable[aF.a8]
variable{X:aT}{st:Stmt}{a:a3}
def r'(h:fu X st a):fS X [st] a:=⟨MR h.un⟩
end
section
variable[aF.a8]
variable{X:aT}{a b:Expr}{c_ di:bo}{pos:Pos}
def iE{r:gb}(bf:nd X r)(hf:eK X.K X.mg r f)(ar:a' X a c_)(af:a' X b di)(aE:Gd b:=by exact λ_ _=>rfl):a' X (.Subscript a b pos) (ab f c_ di):=⟨eI (abW bf ar.un af.un aE) (uA hf)⟩
end
section
variable[aF.a8]
variable{X:aT}{st:Stmt}{pos:Pos}{e:Expr}{m:bo}
theorem t6(he:a' X e m):fu X (.Return (some e) pos) (bE m):=⟨g_ (EK he.un) λD av H aX=>by
 obtain⟨O,Y,S,ba,ai,st,h,q⟩:=aX;obtain⟨r,S1,ae,h⟩:=M.inv h;refine⟨O,Y,S,r,S1,st,ae,λaO v H1 g1 aV bu nn=>?_⟩
 cases r with
 |v d=>cases h;exact q aO v H1 g1.aA aV.cn aV.hc bu
 |fr xs=>cases h;exact q aO v H1 g1.aA aV.cn aV.hc (Nf bu (.inr ⟨_,rfl⟩))
 |cc xs=>cases h
 |mv xs=>cases h⟩
end
section
variable[aF.a8]
variable{X:aT}{ay:List Expr}{ms:c7}{pos:Pos}
def qI{l3}(h:gK X ay ms):a' X (.Tuple ay l3 pos) (bB ms):=⟨eI (Ez h.un) λav H Q aX=>by
 obtain⟨O,Y,S,r,ai,st,h,q⟩:=aX;obtain⟨rs,S1,ae,h⟩:=M.inv h;obtain⟨ds,bc,ah,h⟩:=M.inv h;obtain⟨_,ik,bF,h⟩:=M.inv h;obtain⟨au,rfl⟩:=q0 bF;cases h;refine⟨O,Y,S,rs,S1,st,ae,λaO vs H1 g1 aV bu nn=>?_⟩;obtain⟨bt,rfl⟩:=ye (H₀:=H) bu nn ah;refine⟨ak0 (eJ (by rw[bt.len];exact au)),λp aK=>?_⟩;exact q (cg H aO) _ _ (g1.cg.trans (Go.fI aK)) ((aV.cg H).fI aK) ⟨p,vs,rfl,dQ.of dG,bt.go (Go.fI aK)⟩ trivial⟩
end
section
variable[aF.a8]
variable{X:aT}{pos:Pos}{e:Expr}{m:bo}
variable{i:Nat}{x:Str}{pos':Pos}
def FK(hN:X.N.Nodup)(aD:X.N[i]? = some x)(ag:Loc X.env.scope x)(he:a' X e m)(aE:ak8 e (some (.Name x pos')) pos.line X.env=pure false:=by rfl)(hf:X.fn x=true\/X.env.scope.names.lookup x=some .local:=by first|exact .inl rfl|exact .inr rfl|assumption):fu X (.Assign [.Name x pos'] e pos) (b2 i m):=⟨g_ (EL hN aD ag he.un aE hf) (OG λ_ _ _ h=>h)⟩
end
section
variable[aF.a8]
variable{X:aT}{x:Str}{ps:List Str}{k:Nat}{mf:bJ}{p pos:Pos}{e:Expr}{ay:List Expr}{ms:c7}
def afX(h:b_ X.prog X.w X.K X.mg X.base x ps k (b3 X.K X.mg mf))(aB:cK k X.A)(aU:eU X x)(ar:gK X (e::ay) ms)(e7:(x==("__debug__":Str))=false:=by decide)(he:ajG (e::ay) X.env=(false,eval e X.env)::ajG ay X.env:=by rfl)(fm:(aj9 pos (ajG ay X.env)).any (·.1)=false:=by rfl):a' X (.Call (.Name x p) (e::ay) [] pos) (bA mf ms):=⟨eI (MC h aB aU ar.un e7 he fm) BC⟩
end
section
variable[aF.a8]
variable{X:aT}{x:Str}{ps:List Str}{k:Nat}{mf:bJ}{p pos:Pos}
def afY(h:b_ X.prog X.w X.K X.mg X.base x ps k (b3 X.K X.mg mf))(aB:cK k X.A)(aU:eU X x)(e7:(x==("__debug__":Str))=false:=by decide):a' X (.Call (.Name x p) [] [] pos) (bA mf aj):=⟨eI (abT h aB aU e7) λav H Q h=>by
  obtain⟨O,Y,S,rs,S1,st,ae,q⟩:=BC av H Q h;cases ae;exact q O [] H (Go.refl _ _) st rfl trivial⟩
end
section
variable[aF.a8]
variable{X:aT}{e:Expr}{ay:List Expr}{ms:c7}{pos p:Pos}{x:Str}{id:String}{r:List V->aw->df->Prop}{f:List R->M R}
def m2(aI:jh X (.builtin id) r)(hf:jL X.K X.mg r f)(aU:eU X x)(hm:X.mg x=none)(bL:akx x=some (.builtin id))(ar:gK X (e::ay) ms)(aH:x≠"__name__":=by decide)(e7:(x==("__debug__":Str))=false:=by decide)(he:ajG (e::ay) X.env=(false,eval e X.env)::ajG ay X.env:=by rfl)(fm:(aj9 pos (ajG ay X.env)).any (·.1)=false:=by rfl):a' X (.Call (.Name x p) (e::ay) [] pos) (cE f ms):=⟨eI (abK aI aU hm bL ar.un aH e7 he fm) (H9 hf)⟩
end
section
variable[aF.a8]
variable{X:aT}{st:Stmt}{pos:Pos}{a b:a3}
theorem FJ{t:aR->M Bool}(aI:fE X c t)(ar:fS X A a)(af:fS X B b):fu X (.If c A B pos) (dg t a b):=⟨g_ (MP aI.un ar.un af.un) λD av H aX=>by
 obtain⟨O,Y,S,ba,ai,st,h,q⟩:=aX;obtain⟨t,S1,ae,h⟩:=M.inv h;refine⟨O,Y,S,t,S1,st,ae,λaO H1 g1 aV=>?_⟩
 cases t with
 |false=>
  rw[if_neg ajO]at h;exact qf ⟨aO,Y,S1,ba,ai,aV,h,q.aA g1.aA (fc.refl _ _)⟩
 |true=>
  rw[if_pos rfl]at h;exact qg ⟨aO,Y,S1,ba,ai,aV,h,q.aA g1.aA (fc.refl _ _)⟩⟩
end
section
variable[aF.a8]
variable{X:aT}{st:Stmt}
theorem FL :fS X [] cv:=⟨zV acp λD av H aX=>by obtain⟨O,Y,S,ba,ai,st,h,q⟩:=aX;cases h;exact q O av H (eu.refl _ _) st (fc.refl _ _)⟩
end
section
variable[aF.a8]
variable{X:aT}{a b:Expr}{c_ di:bo}{pos:Pos}
def jf{r:gb}(bf:ew X (akq op) r)(hf:eK X.K X.mg r f)(ar:a' X a c_)(af:a' X b di)(hm:alx op b=false:=by exact jx _):fE X (.Compare a [op] [b] pos) (aY (ab f c_ di)):=⟨rQ (acr bf ar.un af.un hm) λav H Q h=>O4 (uA hf) av H Q (Fp av H Q h)⟩
end
section
variable[aF.a8]
variable{X:aT}{a:Expr}{c_:bo}{pos:Pos}
def agC(ar:a' X a c_)(he:∀whole,isTrue a X.env whole=(do let v <-whole;al5 a.pos;alq [v] (truthy v)):=by intro _;rfl):fE X a (aY c_):=⟨rQ (MT ar.un he) λav H Q h=>Fp av H Q h⟩
end
section
variable[aF.a8]
variable{X:aT}{e:Expr}
def r9{v:V}(h:bY X e (pg v))(r:∀O H,Rep X.K X.mg O H d v):a' X e (aa d):=⟨uG h r⟩
end
section
variable[aF.a8]
variable{X:aT}{ay:List Expr}{ms:c7}{pos:Pos}
def af5(h:gK X ay ms):a' X (.List ay pos) (dJ ms):=⟨eI (abX h.un) λav H Q aX=>by
 obtain⟨O,Y,S,r,ai,st,h,q⟩:=aX;obtain⟨rs,S1,ae,h⟩:=M.inv h;obtain⟨ds,bc,ah,h⟩:=M.inv h;obtain⟨_,ik,bF,h⟩:=M.inv h;obtain⟨au,rfl⟩:=q0 bF;cases h;refine⟨O,Y,S,rs,S1,st,ae,λaO vs H1 g1 aV bu nn=>?_⟩;obtain⟨bt,rfl⟩:=ye (H₀:=H) bu nn ah;refine⟨ak0 (eJ (by rw[bt.len];exact au)),λp aK=>?_⟩;refine q (f9 (cg H aO) p .dF) _ _ (g1.cg.trans (Go.new aK)) ((aV.cg H).new aK) ⟨p,vs,rfl,dG,ob,bt.go (Go.new aK)⟩ λa gC=>?_
 cases gC;exact g1.same.free aK⟩
end
section
variable[aF.a8]
variable{X:aT}{b:Expr}{pos:Pos}
def afW{b j pos}:a' X (.Constant (.bool b) j pos) (aa (.aC b)):=⟨uG abG λ_ _=>rfl⟩
end
section
variable[aF.a8]
variable{X:aT}{a:Expr}{b9:aR->M Bool}{pos:Pos}
def agB(ar:fE X a b9):fE X (.UnaryOp .Not a pos) (gg b9):=⟨rQ (MS ar.un) λav H Q aX=>by
 obtain⟨O,Y,S,r,ai,st,h,q⟩:=aX;obtain⟨t,S1,ae,h⟩:=M.inv h;cases h;exact⟨O,Y,S,t,_,st,ae,λaO H1 g1 aV=>q aO H1 g1 aV⟩⟩
end
section
variable[aF.a8]
variable{X:aT}{a b:Expr}{b9 c6:aR->M Bool}{pos:Pos}
variable{rest:List Expr}
def agF(ar:fE X a b9)(af:lB X (.BoolOp .Or (b::rest) pos) c6):lB X (.BoolOp .Or (a::b::rest) pos) (iC b9 c6):=⟨EP (acA ar.un af.un) λav H Q aX=>by
 obtain⟨O,Y,S,r,ai,st,h,q⟩:=aX;obtain⟨t,S1,ae,h⟩:=M.inv h;refine⟨O,Y,S,t,S1,st,ae,λaO H1 g1 aV=>?_⟩
 cases t with
 |true=>
  rw[if_pos rfl]at h;cases h;exact qg (q aO H1 g1 aV)
 |false=>
  rw[if_neg ajO]at h;exact qf ⟨aO,Y,S1,r,ai,aV,h,λaq H' g cq=>q aq H' (g1.trans g) cq⟩⟩
end
section
variable[aF.a8]
variable{X:aT}{pos:Pos}
def age{x j pos}:a' X (.Constant (.str x) j pos) (aa (.str x)):=⟨uG MI λ_ _=>rfl⟩
end
section
variable[aF.a8]
variable{X:aT}{pos:Pos}
def af9{j pos}:a' X (.Constant .none j pos) (aa .aG):=⟨uG ab0 λ_ _=>rfl⟩
end
section
variable[aF.a8]
variable{X:aT}{a b:Expr}{c_ di:bo}{pos:Pos}
def r8{r:gb}(bf:ew X (akq op) r)(hf:eK X.K X.mg r f)(ar:a' X a c_)(af:a' X b di)(hm:alx op b=false):a' X (.Compare a [op] [b] pos) (ab f c_ di):=⟨eI (abN bf ar.un af.un hm) (uA hf)⟩
end
section
variable[aF.a8]
variable{X:aT}{iter:Expr}{it:fj}{i:Nat}{b:a3}{body:List Stmt}{pos d8:Pos}{x:Str}
def agt(aK:anz (model X.prog X.w) X.A X.env X.d2)(aI:X.calm=true)(aD:uq X (.Name x d8) iter it)(hN:X.N.Nodup)(ag:X.N[i]? = some x)(au:Loc X.env.scope x)(af:fS X body b)(aE:∀x,akv iter X.env x=pure x:=by intro _;rfl)(hf:X.fn x=true\/X.env.scope.names.lookup x=some .local:=by first|exact .inl rfl|exact .inr rfl|assumption):fu X (.For (.Name x d8) iter body [] pos) (ou i it b):=⟨g_ (zU aK aI aD.un (wD hN ag au hf) af.un aE) VS⟩
end
section
variable[aF.a8]
variable{X:aT}{a b:Expr}{c_ di:bo}{pos:Pos}
variable{rest:List Expr}
def afT(ar:a' X a c_)(af:a' X (.BoolOp .And (b::rest) pos) di):a' X (.BoolOp .And (a::b::rest) pos) (lF c_ di):=⟨eI (abF ar.un af.un) λav H Q aX=>by
 obtain⟨O,Y,S,r,ai,st,h,q⟩:=aX;obtain⟨x,S1,ae,h⟩:=M.inv h;obtain⟨t,bc,ah,h⟩:=M.inv h;obtain⟨rfl,rfl⟩:=w_ ah;refine⟨O,Y,S,_,_,st,ae,λaO gh H1 g1 aV a7 bh=>⟨t,a7,?_⟩⟩
 cases t with
 |false=>
  rw[if_neg ajO]at h;cases h;exact qf (q aO _ H1 g1 aV rfl trivial)
 |true=>
  rw[if_pos rfl]at h;exact qg ⟨aO,Y,_,r,ai,aV,h,λaq v H' g cq bu nn=>q aq v H' (g1.trans g) cq bu (nn.back g1.same)⟩⟩
end
section
variable[aF.a8]
variable{X:aT}{a:Expr}{b9:aR->M Bool}{pos:Pos}
def agG(ar:fE X a b9):lB X (.BoolOp .Or [a] pos) b9:=⟨acB ar.un⟩
end
section
variable[aF.a8]
variable{X:aT}{a b:Expr}{b9 c6:aR->M Bool}{pos:Pos}
variable{rest:List Expr}
def agD(ar:fE X a b9)(af:lB X (.BoolOp .And (b::rest) pos) c6):lB X (.BoolOp .And (a::b::rest) pos) (hQ b9 c6):=⟨EP (MW ar.un af.un) λav H Q aX=>by
 obtain⟨O,Y,S,r,ai,st,h,q⟩:=aX;obtain⟨t,S1,ae,h⟩:=M.inv h;refine⟨O,Y,S,t,S1,st,ae,λaO H1 g1 aV=>?_⟩
 cases t with
 |false=>
  rw[if_neg ajO]at h;cases h;exact qf (q aO H1 g1 aV)
 |true=>
  rw[if_pos rfl]at h;exact qg ⟨aO,Y,S1,r,ai,aV,h,λaq H' g cq=>q aq H' (g1.trans g) cq⟩⟩
end
section
variable[aF.a8]
variable{X:aT}{e:Expr}{m:bo}
def agr(he:a' X e m):sv X (some e) (sD m):=⟨λzn s av H Q J aX=>by
 obtain⟨O,Y,S,r,ai,st,h,q⟩:=aX;obtain⟨x,S1,ae,h⟩:=M.inv h;split at h
 .rename_i i
  cases h;exact acg he.un zn s av H Q J ⟨O,Y,S,_,_,st,ae,λaO v H1 g1 aV bu _=>⟨i,bu,q aO H1 g1 aV⟩⟩
 .cases h⟩
end
section
variable[aF.a8]
variable{X:aT}
def agq :sv X none By:=⟨λzn s av H Q J aX=>by
 obtain⟨O,Y,S,r,ai,st,h,q⟩:=aX;cases h;exact acf zn s av H Q J (q O H (Go.refl _ _) st)⟩
end
section
variable[aF.a8]
variable{X:aT}{e:Expr}{m:bo}{lo aD:Option Expr}{qr v3:pK}{pos dB:Pos}
def agc(he:a' X e m)(au:sv X lo qr)(cC:sv X aD v3):a' X (.Subscript e (.Slice lo aD none dB) pos) (x' m qr v3):=⟨eI (MH (aeu.or OK) he.un au.un cC.un) λav H Q aX=>by
 obtain⟨O,Y,S,r,ai,st,h,q⟩:=aX;obtain⟨x,S1,ae,ar⟩:=M.inv h;clear h;obtain⟨l,bc,ah,af⟩:=M.inv ar;clear ar;obtain⟨u,ik,bF,h⟩:=M.inv af;clear af;refine⟨O,Y,S,x,S1,st,ae,λaO gh H1 g1 aV a7 bh=>?_⟩;refine⟨aO,Y,S1,l,bc,aV,ah,λbr aM g2 cU=>?_⟩;refine⟨br,Y,bc,u,ik,cU,bF,λe4 cZ g3 hb=>?_⟩;have g:=(g1.trans g2).trans g3;have z2:=a7.go (g2.trans g3);unfold Mm at h;split at h
 .rename_i xs
  by_cases c:ej.c4 xs.length 0 l=0/\ej.c4 xs.length xs.length u=xs.length
  .rw[if_pos c]at h;cases h
  .rw[if_neg c]at h
   cases h;obtain⟨a,ys,rfl,b',bt⟩:=z2;exact .inr ⟨a,ys,rfl,b',by rw[bt.len];exact c,λp aK=>q e4 _ _ (g.trans (Go.fI aK)) (hb.fI aK) ⟨p,_,rfl,dQ.of dG,(bt.cut l u).go (Go.fI aK)⟩ trivial⟩
 .split at h
  .rename_i xs ao
   cases h;obtain⟨a,ys,rfl,b',bt⟩:=R.nO z2 ao;refine .inl ⟨a,ys,rfl,b',λp aK=>q (f9 e4 p .dF) _ _ (g.trans (Go.new aK)) (hb.new aK) ⟨p,_,rfl,dG,ob,(bt.cut l u).go (Go.new aK)⟩ λb dc=>?_⟩;cases dc;exact g.same.free aK
  .cases h⟩
end
section
variable[aF.a8]
variable{X:aT}{a:Expr}{c_:bo}{pos:Pos}
def agb{op}(h:a' X a c_):a' X (.BoolOp op [a] pos) c_:=⟨ab2 h.un⟩
end
section
variable[aF.a8]
variable{X:aT}{scope esc:Scope}{EN N:List Str}{n:Nat}{cap:List Nat}{elt iter:Expr}{ifs:List Expr}{pos d8:Pos}{x:Str}{it:fj}{t:aR->M Bool}{el:bo}
def af0(S:lp esc scope EN N n cap)(aH:0<n)(aD:pU X (.Name x d8) iter it)(ag:N[0]? = some x)(i5:∀C aN s H,Loc (cA X scope N C aN s H).env.scope x/\(cA X scope N C aN s H).env.scope.names.lookup x=some .local)(bO:∀C aN s H,pT (cA X scope N C aN s H) ifs t)(iu:∀C aN s H,a' (cA X scope N C aN s H) elt el)(he:X.env.scope=esc:=by rfl)(hN:X.N=EN:=by rfl)(aI:X.calm=true:=by rfl)(aE:∀x,akv iter X.env x=pure x:=by intro _;rfl):a' X (.ListComp elt [⟨.Name x d8,iter,ifs,0⟩] scope pos) (eE n cap it t el):=⟨eI (Ey (wi:=qC X.K X.mg it) (g:=lI 0) (tt:=la X.K X.mg t) (te:=fB X.K X.mg el) S aD.un (λC aN s H=>wD S.dZ ag (i5 C aN s H).1 (.inr (i5 C aN s H).2)) (λC aN s H=>(bO C aN s H).un) (λC aN s H=>(iu C aN s H).un) he hN aI aE) (BL aH)⟩
end
section
variable[aF.a8]
variable{X:aT}{x:Str}{i:Nat}{p apos dv pos:Pos}{e:Expr}{ay:List Expr}{ms:c7}{name:Str}{id:String}{f:List D->List R->M (R×List D)}{r:V->List V->aw->df->Prop}
def Ao(slot:PySem.Slot "list" name id)(rt:typeOf (.builtin id)=pure (.type "method_descriptor"))(hm:xA X id r)(hf:uc X.K X.mg r f)(ar:gK X (e::ay) ms)(hN:X.N[i]? = some x)(bL:qX X.env.scope x)(hd:(x==("__debug__":Str))=false:=by decide)(gM:(x==("__classdict__":Str))=false:=by decide)(oE:aln (.Name x p) name X.env (eval (.Name x p) X.env)=eval (.Name x p) X.env:=by rfl) (vd:((aj9 dv (ajG (e::ay) X.env)).all (λx=>!x.1)&&(alp dv (akU [] X.env)).all (λx=>x.1.isSome)
&&decide ((e::ay).length+([]:List amO).length+(if([]:List amO).isEmpty then 0 else 1)<30))=true:=by rfl) (oM:(apos.endLine==dv.line)=true:=by rfl) (aE:ajG (e::ay) X.env=(false,eval e X.env)::ajG ay X.env:=by rfl) (i6:(aj9 dv (ajG ay X.env)).any (·.1)=false:=by rfl) (mF:ak8 (.Call (.Attribute (.Name x p) name apos) (e::ay) [] dv) none pos.line X.env=pure false:=by rfl):fu X (.Expr (.Call (.Attribute (.Name x p) name apos) (e::ay) [] dv) pos) (mb i f ms):=⟨g_ (EJ (MB aom slot rt hm (zS hN bL hd gM) ar.un oE vd oM aE i6) mF) λD av H aX=>by
  obtain⟨O,Y,S,ba,ai,st,h,q⟩:=aX;obtain⟨⟨cx,dX⟩,S1,ae,h⟩:=M.inv h;cases h;exact aas hf st ae λaq v H' g cq k _=>q aq av H' g cq k⟩
end
section
variable[aF.a8]
variable{X:aT}{a:Expr}{b9:aR->M Bool}{pos:Pos}
def agE(ar:fE X a b9):lB X (.BoolOp .And [a] pos) b9:=⟨MX ar.un⟩
end
section
variable[aF.a8]
variable{X:aT}{cj l:Expr}{m:bo}{a:Expr}
theorem agh(au:a' X l m):uq X cj l (Di m):=⟨pb (EF au.un) λav H R aX=>by
 obtain⟨O,Y,S,xs,ai,st,h,q⟩:=aX;obtain⟨r,S1,ae,h⟩:=M.inv h;refine⟨O,Y,S,r,S1,st,ae,λaO v H1 g1 aV bu nn=>?_⟩;split at h
 .cases h
  obtain⟨a,ys,rfl,ls,bt⟩:=bu;exact⟨a,rfl,⟨ys,ls.dP⟩,q aO H1 (l6 X.K a) ys g1 aV (Dq (.inl ⟨.inl ls.1,.inl ls.2⟩)) bt⟩
 .cases h
  obtain⟨a,ys,rfl,ls,t,bt⟩:=bu;exact⟨a,rfl,⟨ys,dx.of ls⟩,q (cg H aO) H1 (l6 X.K a) ys g1.cg (aV.cg H) (Dq (.inl ⟨.inl ls,.inl (yw (nn a rfl) t)⟩)) (bt.dA (js _ _))⟩
 .cases h
  obtain⟨a,ys,rfl,ls,bt⟩:=bu;exact⟨a,rfl,⟨ys,ls.dP⟩,q aO H1 (l6 X.K a) ys g1 aV (Dq ls) bt⟩
 .cases h⟩
end
section
variable[aF.a8]
variable{X:aT}{pos:Pos}{e:Expr}{m:bo}
variable{i:Nat}{x:Str}{pos':Pos}
def agx(hN:X.N.Nodup)(aD:X.N[i]? = some x)(ag:Loc X.env.scope x)(he:a' X e m)(aE:ak8 e (some (.Name x pos')) pos.line X.env=pure false:=by rfl)(hf:X.fn x=true\/X.env.scope.names.lookup x=some .local:=by first|exact .inl rfl|exact .inr rfl|assumption):fu X (.Assign [.Name x pos'] e pos) (kj i m):=⟨g_ (EL hN aD ag he.un aE hf) (Mx λ_ _ _ h=>h)⟩
end
section
variable[aF.a8]
def agk:pT X [] gv:=⟨λzn s Y H Q J aX=>by
 obtain⟨O,Y',S,b,ai,st,h,q⟩:=aX;cases h;exact ab6 zn s Y H Q J (q O H (Go.refl _ _) st)⟩
end
section
variable[aF.a8]
variable{X:aT}{a:Expr}{c_:bo}{pos:Pos}
def aga(ar:a' X a c_):a' X (.UnaryOp .Not a pos) (x9 c_):=⟨eI (ab1 ar.un) λav H Q aX=>by
 obtain⟨O,Y,S,r,ai,st,h,q⟩:=aX;obtain⟨x,S1,ae,h⟩:=M.inv h;obtain⟨t,bc,ah,h⟩:=M.inv h;obtain⟨rfl,rfl⟩:=w_ ah;cases h;exact⟨O,Y,S,_,_,st,ae,λaO gh H1 g1 aV a7 bh=>⟨t,a7,q aO _ H1 g1 aV rfl trivial⟩⟩⟩
end
section
variable[aF.a8]
variable{X:aT}{e:Expr}{ay:List Expr}{ms:c7}{pos p:Pos}{x:Str}{T:String}{r:List V->aw->df->Prop}{f:List R->M R}
def An(aI:jh X (.type T) r)(hf:jL X.K X.mg r f)(aU:eU X x)(hm:X.mg x=none)(bL:akx x=some (.type T))(ar:gK X (e::ay) ms)(aH:x≠"__name__":=by decide)(e7:(x==("__debug__":Str))=false:=by decide)(he:ajG (e::ay) X.env=(false,eval e X.env)::ajG ay X.env:=by rfl)(fm:(aj9 pos (ajG ay X.env)).any (·.1)=false:=by rfl):a' X (.Call (.Name x p) (e::ay) [] pos) (cE f ms):=⟨eI (abL aI aU hm bL ar.un aH e7 he fm) (H9 hf)⟩
end
section
variable[aF.a8]
def FF{t:aR->M Bool}(h:fE X c t):pT X [c] t:=⟨ab7 h.un⟩
end
section
variable[aF.a8]
variable{X:aT}{cj:Expr}{a:Expr}{ms:c7}{pos p:Pos}
def agi(aU:eU X "range")(hm:X.mg "range"=none)(ar:gK X [a] ms)(aE:ajG [a] X.env=[(false,eval a X.env)]:=by rfl):uq X cj (.Call (.Name "range" p) [a] [] pos) (j5 ms):=⟨pb (EG aU hm ar.un aE) Nj.1⟩
end
section
variable[aF.a8]
variable{X:aT}{a b c:Expr}{c_ di gN:bo}{pos:Pos}
def agA{r bT:gb}(bf:ew X (akq op) r)(hf:eK X.K X.mg r f)(iw:ew X (akq tL) bT)(aU:eK X.K X.mg bT g)(ar:a' X a c_)(af:a' X b di)(aI:a' X c gN)(hm:lastMarks [op,tL] [b,c]=false:=by with_unfolding_all rfl):fE X (.Compare a [op,tL] [b,c] pos) (aY (ki f g c_ di gN)):=⟨rQ (acq bf iw ar.un af.un aI.un hm) λav H Q h=>O4 (Th hf aU) av H Q (Fp av H Q h)⟩
end
section
variable[aF.a8]
variable{X:aT}{cj l:Expr}{m:bo}{a:Expr}
theorem FE(au:a' X l m):pU X cj l (iQ m):=⟨pb (MJ au.un) λav H R aX=>by
 obtain⟨O,Y,S,xs,ai,st,h,q⟩:=aX;obtain⟨r,S1,ae,h⟩:=M.inv h;split at h
 .rename_i zs
  cases h;refine⟨O,Y,S,_,_,st,ae,λaO v H1 g1 aV bu nn=>?_⟩;obtain⟨a,ys,rfl,ls,bt⟩:=bu;exact⟨a,rfl,⟨ys,ls⟩,q aO H1 (sj X.K a) ys g1 aV (Ku ls) bt⟩
 .cases h⟩
end
section
variable[aF.a8]
variable{X:aT}{cj l:Expr}{m:bo}{e a:Expr}
theorem afN(au:a' X l m):pU X cj l (iP m):=⟨pb (EF au.un) λav H xE aX=>by
 obtain⟨O,Y,S,xs,ai,st,h,q⟩:=aX;obtain⟨r,S1,ae,h⟩:=M.inv h
 cases e:r.fX with
 |none=>rw[e]at h;cases h
 |some zs=>
  rw[e]at h;cases h;refine⟨O,Y,S,r,_,st,ae,λaO v H1 g1 aV bu nn=>?_⟩;obtain⟨a,ys,rfl,ls,bt⟩:=R.nO bu e;exact⟨a,rfl,⟨ys,ls⟩,q aO H1 (l6 X.K a) ys g1 aV (Dp ls) bt⟩⟩
end
section
variable[aF.a8]
variable{X:aT}{cj l:Expr}{m:bo}{a:Expr}
theorem agj(au:a' X l m):uq X cj l (iQ m):=⟨pb (MJ au.un) λav H R aX=>by
 obtain⟨O,Y,S,xs,ai,st,h,q⟩:=aX;obtain⟨r,S1,ae,h⟩:=M.inv h;split at h
 .rename_i zs
  cases h;refine⟨O,Y,S,_,_,st,ae,λaO v H1 g1 aV bu nn=>?_⟩;obtain⟨a,ys,rfl,ls,bt⟩:=bu;exact⟨a,rfl,⟨ys,ls⟩,q aO H1 (sj X.K a) ys g1 aV (Y1 ls) bt⟩
 .cases h⟩
end
section
variable[aF.a8]
variable{X:aT}{cj:Expr}{a:Expr}{ms:c7}{pos p:Pos}
def afO(aU:eU X "range")(hm:X.mg "range"=none)(ar:gK X [a] ms)(aE:ajG [a] X.env=[(false,eval a X.env)]:=by rfl):pU X cj (.Call (.Name "range" p) [a] [] pos) (j5 ms):=⟨pb (EG aU hm ar.un aE) Nj.2⟩
end
section
variable[aF.a8]
variable{X:aT}{st:Stmt}{pos:Pos}{a:a3}{e:Expr}
theorem agy(i:Nat)(hN:X.N[i]? = some x:=by rfl)(bL:qX X.env.scope x:=by first|exact alz rfl|exact akC (.inl rfl)|exact akC (akC rfl))(hd:(x==("__debug__":Str))=false:=by decide)(gM:(x==("__classdict__":Str))=false:=by decide):fu X (.Return (some (.Name x p)) pos) (x_ i):=⟨g_ (EK (zS hN bL hd gM)) λD av H aX=>by
 obtain⟨O,Y,S,ba,ai,st,h,q⟩:=aX;unfold x_ at h
 cases e:Y[i]? with
 |none=>rw[e]at h;cases h
 |some s=>
  rw[e]at h;have l:=st.loc i s e
  cases s with
  |eH p xs=>
   obtain⟨a,ys,ao,az,cG,fg⟩:=l
   cases p with
   |true=>cases h
   |false=>
   cases h;refine⟨.ref a,?_,q O _ H (eu.refl _ _) st.cn st.hc ⟨a,ys,rfl,cG,.inr ⟨i,az⟩,fg⟩⟩
   cases w:av[i]? with
   |none=>rw[w]at ao;cases ao
   |some y=>rw[w]at ao;exact congrArg some ao
  |v d=>cases h
  |cc d=>cases h
  |e=>cases h⟩
end
section
variable[aF.a8]
variable{X:aT}{pos d8:Pos}{is:List Nat}{e:Expr}{m:bo}{ay:List Expr}{k:Nat}
def agz(aI:X.calm=true)(aU:l9 X ay (j0 is))(he:a' X e m)(aH:(aj7 ay X.env).length=is.length:=by rfl)(f3:(aj7 ay X.env).findIdx? (·.1)=none:=by rfl)(aE:swapsWithSole [.Tuple ay k d8] e pos.line X.env=pure false:=by rfl)(hw:swappedStores [.Tuple ay k d8] e X.env=pure none:=by rfl)(ae:(aj7 [.Tuple ay k d8] X.env).map (·.2)=[al7 (.Tuple ay k d8) X.env]:=by rfl):fu X (.Assign [.Tuple ay k d8] e pos) (mc is m):=⟨g_ (ack he.un (wF aI aU aH f3) aE hw ae) λD av H aX=>by
 obtain⟨O,Y,S,ba,ai,st,h,q⟩:=aX;obtain⟨r,S1,ae,h⟩:=M.inv h;split at h
 .rename_i ds
  by_cases c:ds.length=is.length
  .rw[if_pos c]at h
   cases h;refine⟨O,Y,S,_,_,st,ae,λaO v H1 g1 aV bu nn=>?_⟩;obtain⟨a,ys,rfl,t,bt⟩:=bu;refine⟨a,ys,rfl,t,by rw[bt.len,c],Ak aV bt c λdk cq k=>q aO dk H1 g1.aA cq k⟩
  .rw[if_neg c]at h;cases h
 .cases h⟩
end
section
variable[aF.a8]
variable{X:aT}{pos d8:Pos}{is:List Nat}{ay:List Expr}{k:Nat}{iter:Expr}{it:fj}{body:List Stmt}{b:a3}
def agu(aK:anz (model X.prog X.w) X.A X.env X.d2)(aI:X.calm=true)(aD:uq X (.Tuple ay k d8) iter it)(aU:l9 X ay (j0 is))(af:fS X body b)(aH:(aj7 ay X.env).length=is.length:=by rfl)(f3:(aj7 ay X.env).findIdx? (·.1)=none:=by rfl)(aE:∀x,akv iter X.env x=pure x:=by intro _;rfl):fu X (.For (.Tuple ay k d8) iter body [] pos) (x7 is it b):=⟨g_ (zU aK aI aD.un (wF aI aU aH f3) af.un aE) VP⟩
end
section
variable[aF.a8]
variable{X:aT}{a:Expr}{c_:bo}{apos dv:Pos}
def afV(ar:a' X a c_)(oE:aln a "bit_length" X.env (eval a X.env)=eval a X.env:=by rfl)(oM:(apos.endLine==dv.line)=true:=by rfl):a' X (.Call (.Attribute a "bit_length" apos) [] [] dv) (bQ oBits c_):=⟨eI (abH PySem.F.plainAttrs_int PySem.F.slot_int_bit_length PySem.F.type_int_bit_length aap ar.un oE oM) λav H Q aX=>by
  obtain⟨O,Y,S,r,ai,st,h,q⟩:=aX;obtain⟨x,S1,ae,h⟩:=M.inv h;unfold oBits at h;split at h
  .rename_i i
   cases h;refine⟨O,Y,S,_,_,st,ae,λaO gh H1 g1 aV a7 bh=>?_⟩;cases(show gh=.int i from a7);exact⟨rfl,i,rfl,rfl,q aO _ H1 g1 aV rfl trivial⟩
  .cases h⟩
end
section
variable[aF.a8]
variable{X:aT}{st:Stmt}
def agw :fu X st uD:=⟨g_ aco λD av H aX=>by obtain⟨O,Y,S,ba,ai,st,h,q⟩:=aX;cases h⟩
end
section
variable[aF.a8]
variable{X:aT}{a:Expr}{b9:aR->M Bool}
def lB.cw(h:lB X a b9):fE X a b9:=⟨xp.cw h.un⟩
end
section
variable[aF.a8]
variable{X:aT}{scope esc:Scope}{EN N:List Str}{n:Nat}{cap:List Nat}{elt iter:Expr}{ifs:List Expr}{pos d8:Pos}{x:Str}{it:fj}{t:aR->M Bool}{el:bo}
def FI{py mX:Pos}(S:lp esc scope EN N n cap)(rf:X.N.Nodup)(lL:X.N[i]? = some y)(bg:X.env.scope.names.lookup y=some .local)(aH:0<n)(aD:pU X (.Name x d8) iter it)(ag:N[0]? = some x)(i5:∀C aN s H,Loc (cA X scope N C aN s H).env.scope x/\(cA X scope N C aN s H).env.scope.names.lookup x=some .local)(bO:∀C aN s H,pT (cA X scope N C aN s H) ifs t)(iu:∀C aN s H,a' (cA X scope N C aN s H) elt el)(he:X.env.scope=esc:=by rfl)(hN:X.N=EN:=by rfl)(aI:X.calm=true:=by rfl)(aE:∀x,akv iter X.env x=pure x:=by intro _;rfl)(mF:ak8 (.ListComp elt [⟨.Name x d8,iter,ifs,0⟩] scope pos) (some (.Name y py)) mX.line X.env=pure true:=by rfl):fu X (.Assign [.Name y py] (.ListComp elt [⟨.Name x d8,iter,ifs,0⟩] scope pos) mX) (kj i (eE n cap it t el)):=⟨g_ (Gp S rf lL bg aH aD.un ag i5 (λC aN s H=>(bO C aN s H).un) (λC aN s H=>(iu C aN s H).un) he hN aI aE mF) (Mx (BL aH))⟩
end
section
variable[aF.a8]
variable{X:aT}{scope esc:Scope}{EN N:List Str}{n:Nat}{cap:List Nat}{elt iter:Expr}{ifs:List Expr}{pos d8:Pos}{x:Str}{it:fj}{t:aR->M Bool}{el:bo}
def ags{py mX:Pos}(S:lp esc scope EN N n cap)(rf:X.N.Nodup)(lL:X.N[i]? = some y)(bg:X.env.scope.names.lookup y=some .local)(aH:0<n)(aD:pU X (.Name x d8) iter it)(ag:N[0]? = some x)(i5:∀C aN s H,Loc (cA X scope N C aN s H).env.scope x/\(cA X scope N C aN s H).env.scope.names.lookup x=some .local)(bO:∀C aN s H,pT (cA X scope N C aN s H) ifs t)(iu:∀C aN s H,a' (cA X scope N C aN s H) elt el)(he:X.env.scope=esc:=by rfl)(hN:X.N=EN:=by rfl)(aI:X.calm=true:=by rfl)(aE:∀x,akv iter X.env x=pure x:=by intro _;rfl)(mF:ak8 (.ListComp elt [⟨.Name x d8,iter,ifs,0⟩] scope pos) (some (.Name y py)) mX.line X.env=pure true:=by rfl):fu X (.Assign [.Name y py] (.ListComp elt [⟨.Name x d8,iter,ifs,0⟩] scope pos) mX) (b2 i (eE n cap it t el)):=⟨g_ (Gp S rf lL bg aH aD.un ag i5 (λC aN s H=>(bO C aN s H).un) (λC aN s H=>(iu C aN s H).un) he hN aI aE mF) (OG (BL aH))⟩
end
def Jj:M cz:=⟨λS=>.ok S S,λ_ _ _ h=>by cases h;rfl⟩
def gu:R->M fQ
 |.v (.ref n)=>do
  let S <-Jj
  match S[n]? with
  |some o=>pure o|none=>bad
 |_=>bad
def Mn{r:R}{S ai:cz}(h:(gu r).run S=.ok o ai):∃n,r=.v (.ref n)/\S[n]? = some o/\S=ai:=by
 unfold gu at h;split at h
 .rename_i n
  obtain⟨T,S1,ae,h⟩:=M.inv h;cases ae
  cases e:S[n]? with
  |none=>rw[e]at h;cases h
  |some o'=>rw[e]at h;cases h;exact⟨n,rfl,e,rfl⟩
 .cases h
def qj:D->Option Key
 |.int i=>some (.inl i)|.str x=>some (.inr x)|_=>none
def iU{κ α:Type}[DecidableEq κ](k:κ)(a:α):List (κ×α)->List (κ×α)
 |[]=>[(k,a)]
 |(g,x)::r=>if g=k then(g,a)::r else(g,x)::iU k a r
theorem MU{v:V}:∀aW:List (Str×V),iA f v aW=iU f v aW
 |[]=>rfl| (g,x)::r=>by unfold iA iU;rw[MU r]
section
variable{κ:Type}[DecidableEq κ]
def hq(ak:List (κ×D))(k:κ):Option D:=(ak.find? λkv=>decide (kv.1=k)).map (·.2)
def dE(ak:List (κ×D))(k:κ)(d:D):List (κ×D):=
 if(ak.any λkv=>decide (kv.1=k))=true then ak.map (λkv=>if kv.1=k then(kv.1,d)else kv)else ak++[(k,d)]
variable[aF.a8]{K:aS}{mg:bq}{O:a5}{H:aw}
def ea.cons{p:κ×D}{ak:List (κ×D)}{dI:List (κ×V)}(h:ea K mg O H (p::ak) dI):∃q r,dI=q::r/\p.1=q.1/\Rep K mg O H p.2 q.2/\ea K mg O H ak r:=by
 obtain⟨ae,ah⟩:=h
 cases dI with
 |nil=>cases ae
 |cons q r=>
  rw[ajP,ajP]at ae ah;injection ae with ae CH
  obtain⟨y,t,e,a,b⟩:=ah;injection e with ao az
  subst ao az;exact⟨q,r,rfl,ae,a,CH,b⟩
def ea.mk'{r:List (κ×V)}(ae:p.1=q.1)(ah:Rep K mg O H p.2 q.2)(h:ea K mg O H ak r):ea K mg O H (p::ak) (q::r):=
 ⟨by rw[ajP,ajP,ae,h.1],q.2,_,rfl,ah,h.2⟩
def ea.wa(h:ea K mg O H [] dI):dI=[]:=List.map_eq_nil_iff.mp h.1.symm
def ea.len{ak:List (κ×D)}{dI:List (κ×V)}(h:ea K mg O H ak dI):dI.length=ak.length:=by
 have:=congrArg ak6 h.1;rw[ajE,ajE]at this;exact this.symm
theorem ea.val(k:κ):∀{ak:List (κ×D)}{dI:List (κ×V)},ea K mg O H ak dI->match hq ak k with
  |some d=>∃v,j_ dI k=some v/\Rep K mg O H d v|none=>j_ dI k=none
 |[],dI,h=>by obtain rfl:=h.wa;exact rfl
 |p::ak,dI,h=>by
  obtain⟨q,r,rfl,ao,az,h'⟩:=h.cons;unfold hq j_
  by_cases ax:p.1=k
  .rw[akL (by simpa using ax),akL (by rw[<-ao];simpa using ax)]
   exact⟨q.2,rfl,az⟩
  .rw[akA (by simpa using ax),akA (by rw[<-ao];simpa using ax)]
   exact ea.val k h'
theorem ea.any(k:κ):∀{ak:List (κ×D)}{dI:List (κ×V)},ea K mg O H ak dI->(dI.any λkv=>decide (kv.1=k))=ak.any λkv=>decide (kv.1=k)
 |[],dI,h=>by obtain rfl:=h.wa;rfl
 |p::ak,dI,h=>by
  obtain⟨q,r,rfl,ao,az,h'⟩:=h.cons;rw[alo,alo,ea.any k h',ao]
def ea.put(k:κ){v:V}(hd:Rep K mg O H d v)(h:ea K mg O H ak dI):ea K mg O H (dE ak k d) (putK dI k v):=by
 unfold dE putK;rw[ea.any k h];split
 .rename_i mw
  clear mw
  induction ak generalizing dI with
  |nil=>obtain rfl:=h.wa;exact⟨rfl,rfl⟩
  |cons p ak a6=>
   obtain⟨q,r,rfl,ao,az,h'⟩:=h.cons;rw[ajP,ajP]
   by_cases ax:p.1=k
   .rw[if_pos ax,if_pos (ao▸ax)];exact ea.mk' ao hd (a6 h')
   .rw[if_neg ax,if_neg (ao▸ax)];exact ea.mk' ao az (a6 h')
 .exact⟨by rw[akw,akw,h.1];rfl,by rw[akw,akw];exact h.2.append (.one hd)⟩
theorem ea.iU(k:κ){v:V}(hd:Rep K mg O H d v):∀{ak:List (κ×D)}{dI:List (κ×V)},ea K mg O H ak dI->ea K mg O H (a0.iU k d ak) (a0.iU k v dI)
 |[],dI,h=>by obtain rfl:=h.wa;exact⟨rfl,_,_,rfl,hd,rfl⟩
 |p::ak,dI,h=>by
  obtain⟨q,r,rfl,ao,az,h'⟩:=h.cons;obtain⟨p1,dB⟩:=p;obtain⟨bz,cf⟩:=q;cases(show p1=bz from ao);unfold a0.iU;split
  .exact ea.mk' rfl hd h'
  .exact ea.mk' rfl az (ea.iU k hd h')
theorem ea.lookup:∀{ak:List (Str×D)}{dI:List (Str×V)},ea K mg O H ak dI->ak.lookup f=some d->∃v,dI.lookup f=some v/\Rep K mg O H d v
 |[],dI,h,e=>by cases e
 |p::ak,dI,h,e=>by
  obtain⟨q,r,rfl,ao,az,h'⟩:=h.cons;obtain⟨p1,dB⟩:=p;obtain⟨bz,cf⟩:=q;cases(show p1=bz from ao);rw[aku]at e ⊢
  cases dc:f==p1 with
  |true=>rw[dc]at e;cases e;exact⟨cf,rfl,az⟩
  |false=>rw[dc]at e;exact ea.lookup h' e
end
variable[aF.a8]
section
variable{K:aS}{mg:bq}{O:a5}{Y:aR}{S ai:cz}{av:St}{H:aw}{r:R}{v:V}{o:fQ}
def zJ(st:cO K mg O Y S av H)(aB:e5 K mg O H r v)(h:(gu r).run S=.ok o ai):∃a,v=.ref a/\a∈O.bM/\nh K mg O H a o:=by
 obtain⟨n,rfl,e,rfl⟩:=Mn h;obtain⟨a,bt,hs⟩:=st.hc n o e;obtain⟨b,dc,mT⟩:=aB;rw[bt]at mT;cases mT;exact⟨a,dc,akt bt,hs⟩
def DA{v:V}{k:Key}(h:Rep K mg O H d v)(e:qj d=some k):v=cI k:=by
 cases d<;>cases e<;>exact h
end
structure pE(K:aS)(mg:bq)(c:Str)(aW:List Str):Prop where
 ex:∃C,mg c=some (.ref C)/\ji K C/\(W.makesIn K C=true/\alB K (.ref C)=true)/\∀f∈aW,qR K C f
def cL(c f:Str)(r:R):M R:=do
 let o <-gu r
 match o with
 |.bD c' aW=>if c'=c then(match aW.lookup f with
  |some d=>pure (.v d)| none=>bad)else bad
 |_=>bad
def cM(r k:R):M R:=do
 let o <-gu r
 match o,k with
 |.dS ak,.v kd=>match qj kd with
  |some key=>match hq ak key with
   |some d=>pure (.v d)|none=>bad
  |none=>bad
 |_,_=>bad
def rv:List R->Option (List Key)
 |[]=>some []|.v d::rs=>match qj d,rv rs with
  |some k,some bj=>some (k::bj)|_,_=>none
 |_::_=>none
def ya(m:bo)(ms:c7)(nW:bo):bo:=λY=>do
 let x <-m Y
 let rs <-ms Y
 let z <-nW Y
 let o <-gu x
 match o,rv rs,z with
 |.eZ ak,some k,.v og=>if rs.length<=1000 then pure (.v ((hq ak k).getD og))else bad|_,_,_=>bad
def gf(m:bo):bo:=λY=>do
 let x <-m Y
 let o <-gu x
 match o with
 |.lst xs=>pure (.mv xs)|_=>bad
theorem DB{O:a5}:∀{rs:List R}{vs:List V}{bj:List Key},rv rs=some bj->gx K mg O H rs vs->vs=bj.map cI
 |[],vs,bj,e,h=>by cases e;exact h
 |r::rs,vs,bj,e,h=>by
  obtain⟨v,FD,rfl,ae,ah⟩:=h
  cases r with
  |v d=>
   unfold rv at e;split at e
   .rename_i k ajd ao az
    cases e;rw[ajP,DB az ah,DA (show Rep K mg O H d v from ae) ao]
   .cases e
  |_=>cases e
def QS:eK K mg (fun x y H Q=>∃a v,x=.ref a/\lq H a y (some v)/\Q v H) cM:=fun O Y S av H x y a7 bC bT ai Q st ag bg h q=>by
 obtain⟨o,S1,ae,h'⟩:=M.inv h;clear h;have h:=h';clear h';obtain⟨a,rfl,_,hs⟩:=zJ st ag ae;obtain rfl:=(gu a7).eB _ _ _ ae;split at h
 .rename_i ak kd
  split at h
  .rename_i key gp
   have bR:=hs;obtain⟨dI,l,iB⟩:=hs;have pv:=iB.val key
   cases d4:hq ak key with
   |none=>rw[d4]at h;cases h
   |some d=>
    rw[d4]at h pv;cases h;obtain⟨v,ao,az⟩:=pv;refine⟨a,v,rfl,?_,q O v H (Go.refl _ _) st az trivial⟩;rw[DA (show Rep K mg O H kd y from bg) gp,<-ao];exact lq.k l
  .cases h
 .cases h
section
variable{X:aT}{e o i f:Expr}{ay:List Expr}{m mo L1 nW:bo}{ms:c7}{pos apos dv vC:Pos}{c a:Str}{ns:List Str}
theorem afU(T:pE X.K X.mg c ns)(hf:a∈ns)(he:a' X e m)(af:aln e a X.env (eval e X.env)=eval e X.env:=by rfl):a' X (.Attribute e a pos) (bQ (cL c a) m):=⟨eI (abS he.un af) λav H Q aX=>by
 obtain⟨O,Y,S,r,ai,st,h,q⟩:=aX;obtain⟨x,S1,ae,h0⟩:=M.inv h;clear h;refine⟨O,Y,S,x,S1,st,ae,λaO gh H1 g1 aV a7 bh=>?_⟩;obtain⟨o,bc,ah,h'⟩:=M.inv h0;clear h0;have h:=h';clear h';obtain⟨b,rfl,_,hs⟩:=zJ aV a7 ah;obtain rfl:=(gu x).eB _ _ _ ah;split at h
 .rename_i c' aW
  split at h
  .rename_i aI
   subst aI
   cases el:aW.lookup a with
   |none=>rw[el]at h;cases h
   |some d=>
    rw[el]at h;cases h;obtain⟨C,b7,jZ,d5,ci,iB⟩:=hs;obtain⟨ll,ao,az,_,fg⟩:=T.ex;cases ao.symm.trans ci.1;obtain⟨v,ev,bR⟩:=iB.lookup el;exact⟨b,C,b7,jZ,v,rfl,d5,az,fg a hf,ev,q aO v H1 g1 aV bR trivial⟩
  .cases h
 .cases h⟩
def af3(cC:X.A.units+64<cLine)(bf:a' X o mo)(aD:a' X i L1)(aE:uj i:=by intro _ _;rfl):a' X (.Subscript o i pos) (ab cM mo L1):=⟨eI (abO (by omega) bf.un aD.un aE) (uA QS)⟩
theorem agg{l3}(cC:X.A.units+64<cLine)(he:a' X o m)(ax:gK X ay ms)(hf:a' X f nW)(ah:M2 X o "get" apos (.Tuple ay l3 vC) f dv:=by exact⟨rfl,rfl,rfl,rfl⟩):a' X (.Call (.Attribute o "get" apos) [.Tuple ay l3 vC,f] [] dv) (ya m ms nW):=
 ⟨eI (abP (by omega) he.un (Ez ax.un) hf.un ah) λav H Q aX=>by
  obtain⟨O,Y,S,r,ai,st,h,q⟩:=aX;obtain⟨x,S1,ae,ar⟩:=M.inv h;clear h;obtain⟨rs,bc,ah,af⟩:=M.inv ar;clear ar;obtain⟨z,ik,bF,aI⟩:=M.inv af;clear af;obtain⟨o,pP,dw,h⟩:=M.inv aI;clear aI;obtain rfl:=(m Y).eB _ _ _ ae;obtain rfl:=(ms Y).eB _ _ _ ah;obtain rfl:=(nW Y).eB _ _ _ bF;obtain rfl:=(gu x).eB _ _ _ dw;split at h
  .rename_i ak k og gp
   by_cases c:rs.length<=1000
   .rw[if_pos c]at h
    cases h;refine⟨O,Y,_,x,_,st,ae,λaO gh H1 g1 aV a7 bh=>?_⟩;obtain⟨a,rfl,_,xs,l,jB⟩:=zJ aV a7 dw;refine⟨a,rfl,.inr ⟨xs,.inl l⟩,aO,Y,_,rs,_,aV,ah,λbr vs aM g2 cU bu nn=>?_⟩;have ev:=DB gp bu;refine⟨ak0 (eJ (by rw[gx.len bu];exact c)),λp aK=>?_⟩;refine⟨br,Y,_,_,_,cU.fI aK,bF,λe4 ajy cZ g3 hb j9 Ec=>?_⟩;have g:=g2.trans ((Go.fI aK).trans g3);refine⟨_,lq.t (k:=k) (g.same.at' _ _ l) (by rw[<-ev];exact g3.same.at' _ _ dG),?_⟩;have pv:=(show ea X.K X.mg e4 cZ ak xs from⟨jB.1,jB.2.go g⟩).val k;refine q e4 _ cZ (g1.trans g) hb ?_ trivial;show Rep _ _ _ _ ((hq ak k).getD og) _
    cases d4:hq ak k with
    |none=>rw[d4]at pv;rw[pv];exact j9|some d=>rw[d4]at pv;obtain⟨v,ao,az⟩:=pv;rw[ao];exact az
   .rw[if_neg c]at h;cases h
  .cases h⟩
def ZX{av:St}{H:aw}{Q:df}{O:a5}{Y:aR}{S S1 ai:cz}{x r:R}{g:List D->R}(st:cO X.K X.mg O Y S av H)(ae:(m Y).run S=.ok x S1)
  (h:(do let o <-gu x;match o with|.lst xs=>pure (g xs)|_=>bad:M R).run S1=.ok r ai) (q:xB X.K X.mg O Y ai av H r Q)
  (aU:∀aq H' xs a ys,aq a=.out->H' a=some (.lst ys)->bb X.K X.mg aq H' xs ys->e5 X.K X.mg aq H' (g xs) (.ref a)/\jQ H (g xs) (.ref a)):fB X.K X.mg m av H Q:=by
 obtain⟨o,bc,ah,h'⟩:=M.inv h;clear h;have h:=h';clear h';refine⟨O,Y,S,x,S1,st,ae,λaO gh H1 g1 aV a7 bh=>?_⟩;obtain⟨a,rfl,c_,hs⟩:=zJ aV a7 ah;obtain rfl:=(gu x).eB _ _ _ ah;split at h
 .cases h
  obtain⟨ys,l,bt⟩:=hs;obtain⟨fO,eS⟩:=aU aO H1 _ a ys (aV.cn.cp.2 a c_) l bt;exact q aO _ H1 g1 aV fO eS
 .cases h
theorem af4(he:a' X e m):a' X e (gf m):=⟨eI he.un λav H Q aX=>by
 obtain⟨O,Y,S,r,ai,st,h,q⟩:=aX;obtain⟨x,S1,ae,h⟩:=M.inv h;exact ZX st ae h q λaq H' xs a ys _ l bt=>⟨⟨a,ys,rfl,l,bt⟩,trivial⟩⟩
end
end a0
namespace a0
open PySem PySem.Spec aF
structure N(α:Type):Type where
 run:cz->Out α
def N.kh{α β:Type}(m:N α)(f:α->N β):N β:=⟨λS=>match m.run S with
 |.ok a ai=>(f a).run ai|.exc c ai=>.exc c ai| .bad=>.bad⟩
instance:Monad N where
 pure a:=⟨λS=>.ok a S⟩
 bind:=N.kh
def N.inv{α β:Type}{m:N α}{f:α->N β}{S ai:cz}{b:β}(h:(m >>= f).run S=.ok b ai):∃a S1,m.run S=.ok a S1/\(f a).run S1=.ok b ai:=by
 have h:(N.kh m f).run S=.ok b ai:=h;unfold N.kh at h;dsimp only at h
 cases e:m.run S with
 |ok a S1=>rw[e]at h;exact⟨a,S1,rfl,h⟩|exc c S1=>rw[e]at h;cases h
 |bad=>rw[e]at h;cases h
def g8{α:Type}:N α:=⟨λ_=>.bad⟩
def M.up{α:Type}(m:M α):N α:=⟨m.run⟩
def uY:N cz:=⟨λS=>.ok S S⟩
def putN(S:cz):N Unit:=⟨λ_=>.ok () S⟩
abbrev fk:=aR->N R
abbrev hV:=aR->N (List R)
abbrev bk:=aR->N gI
abbrev fe:=List D->N R
variable[aF.a8]
structure fP(O aq:a5)(H H':aw):Prop where
 cells:∀b o,H b=some o->(b∉O.bM\/Fix o)->(h:o2 o:=by exact trivial)->H' b=some o
 own:∀b,H b≠none->aq b=O b
 has:∀b,H b≠none->H' b≠none
 c6:∀b ps,H b=some (.gw ps)->∃iT,H' b=some (.gw iT)
 bV:TabsOk H->TabsOk H'
 bM:O.bM <+: aq.bM
 new:∀b∈aq.bM,b∈O.bM\/H b=none
structure hk(O aq:a5)(H H':aw):Prop where
 cells:∀b o,H b=some o->(((O b=.free\/O b=.out)/\b∉O.bM)\/Fix o)->(h:o2 o:=by exact trivial)->H' b=some o
 own:∀b,H b≠none->(O b=.free\/O b=.out)->aq b=O b
 has:∀b,H b≠none->H' b≠none
 c6:∀b ps,H b=some (.gw ps)->∃iT,H' b=some (.gw iT)
 bV:TabsOk H->TabsOk H'
 bM:O.bM <+: aq.bM
 new:∀b∈aq.bM,b∈O.bM\/H b=none
structure c2(O aq:a5)(H H':aw):Prop where
 cells:∀b o,H b=some o->((O b=.free/\b∉O.bM/\∃ys,o=.lst ys)\/Fix o)->(h:o2 o:=by exact trivial)->H' b=some o
 own:∀b ys,H b=some (.lst ys)->O b=.free->aq b=.free
 bM:O.bM <+: aq.bM
section
variable{K:aS}{mg:bq}{O aO br aq:a5}{H H1 aM H':aw}{S ai:cz}{Y Y':aR}{av dk:St}
omit [aF.a8]in
theorem jG(e:H b=some o):H b≠none:=λz=>by rw[e]at z;cases z
def Go.d1(g:Go O aq H H'):fP O aq H H':=⟨λb o e _ n=>g.same.at' b o e n,g.own,λ_ h=>g.same.some h,g.same.c6,g.same.bV,by rw[g.bM];exact aoe _,λb h=>.inl (by rw[<-g.bM];exact h)⟩
def eu.e0(g:eu O aq H H'):hk O aq H H':=⟨λb o e h n=>g.cells b o e (h.elim (λz=>z.1.elim .inl λz=>.inr (.inl z)) λz=>.inr (.inr z)) n,g.own,g.has,g.c6,g.bV,by rw[g.bM];exact aoe _,λb h=>.inl (by rw[<-g.bM];exact h)⟩
def fP.e0(g:fP O aq H H'):hk O aq H H':=⟨λb o e h n=>g.cells b o e (h.imp (·.2) id) n,λb h _=>g.own b h,g.has,g.c6,g.bV,g.bM,g.new⟩
def fP.trans(a:fP O aO H H1)(b:fP aO br H1 aM):fP O br H aM:=
  ⟨λc o e h n=>b.cells c o (a.cells c o e h n) (h.imp (λz m=>(a.new c m).elim z (jG e)) id) n,λc h=>(b.own c (a.has c h)).trans (a.own c h),λc h=>b.has c (a.has c h),λc ps h=>let⟨p1,ao⟩:=a.c6 c ps h;b.c6 c p1 ao,λg=>b.bV (a.bV g),
   a.bM.trans b.bM,λc m=>(b.new c m).elim (a.new c) λz=>.inr (by cases e:H c with|none=>rfl|some o=>exact absurd z (a.has c (jG e)))⟩
def hk.trans(a:hk O aO H H1)(b:hk aO br H1 aM):hk O br H aM:=
  ⟨λc o e h n=>b.cells c o (a.cells c o e h n) (h.imp (λz=>⟨by rw[a.own c (jG e) z.1];exact z.1,λm=>(a.new c m).elim z.2 (jG e)⟩) id) n,
   λc h f=>(b.own c (a.has c h) (by rw[a.own c h f];exact f)).trans (a.own c h f),λc h=>b.has c (a.has c h),λc ps h=>let⟨p1,ao⟩:=a.c6 c ps h;b.c6 c p1 ao,λg=>b.bV (a.bV g),
   a.bM.trans b.bM,λc m=>(b.new c m).elim (a.new c) λz=>.inr (by cases e:H c with|none=>rfl|some o=>exact absurd z (a.has c (jG e)))⟩
def hk.kW(g:hk O aq H H'):c2 O aq H H':=⟨λb o e h n=>g.cells b o e (h.imp (λz=>⟨.inl z.1,z.2.1⟩) id) n,λb ys e f=>(g.own b (jG e) (.inl f)).trans f,g.bM⟩
def c2.w4(g:c2 O aq H H')(h:dQ K H a ys):dQ K H' a ys:=by
 rcases h with(h|⟨o,h⟩)|h
 .exact .inl (.inl (g.cells _ _ h (.inr (.inl ⟨_,rfl⟩))))
 .exact .inl (.inr ⟨o,g.cells _ _ h (.inr (.inr ⟨_,_,rfl⟩))⟩)
 .exact .inr h
omit [aF.a8]in
theorem jR.no(r:jR O)(h:O a=w)(hw:w≠.out):a∉O.bM:=λm=>hw (h.symm.trans (r.2 a m))
mutual
theorem Rep.kW(g:c2 O aq H H')(cp:jR O):∀{d:D}{v:V},Rep K mg O H d v->Rep K mg aq H' d v
 |.aG,_,h=>h|.aC _,_,h=>h|.int _,_,h=>h|.str _,_,h=>h| .tup _,_,h=>by obtain⟨a,ys,q,l,r⟩:=h;exact⟨a,ys,q,g.w4 l,bb.kW g cp r⟩
 |.lst _,_,h=>by obtain⟨a,ys,q,l,r⟩:=h;exact⟨a,ys,q,⟨g.cells _ _ l.1 (.inl ⟨l.2,cp.no l.2 (by intro z;cases z),_,rfl⟩),g.own a _ l.1 l.2⟩,bb.kW g cp r⟩
 |.ref _,_,h=>by
  obtain⟨a,q,l⟩:=h;obtain⟨t,e⟩:=g.bM;exact⟨a,q,by rw[<-e,aj8 (ajJ.mp l).1];exact l⟩
 |.fn _,_,h=>h|.ty _,_,h=>h
theorem bb.kW(g:c2 O aq H H')(cp:jR O):∀{ds:List D}{ys:List V},bb K mg O H ds ys->bb K mg aq H' ds ys
 |[],_,h=>h| _::_,_,h=>by obtain⟨x,r,q,a,b⟩:=h;exact⟨x,r,q,Rep.kW g cp a,bb.kW g cp b⟩
end
def bb.e0(g:hk O aq H H')(cp:jR O)(h:bb K mg O H ds ys):bb K mg aq H' ds ys:=h.kW g.kW cp
def Rep.d1(g:fP O aq H H')(cp:jR O){v:V}(h:Rep K mg O H d v):Rep K mg aq H' d v:=h.kW g.e0.kW cp
def bb.d1(g:fP O aq H H')(cp:jR O)(h:bb K mg O H ds ys):bb K mg aq H' ds ys:=h.e0 g.e0 cp
def R.je:R->Bool
 |.v _=>true|.fr _=>true|_=>false
def e5.d1(g:fP O aq H H')(cp:jR O){r:R}{v:V}(aE:r.je=true)(h:e5 K mg O H r v):e5 K mg aq H' r v:=by
 cases r with
 |v d=>exact Rep.d1 g cp h| fr xs=>obtain⟨a,ys,q,l,o,r⟩:=h;exact⟨a,ys,q,g.cells _ _ l (.inl (cp.no o (by intro z;cases z))),(g.own a (jG l)).trans o,r.d1 g cp⟩
 |cc xs=>cases aE
 |mv xs=>cases aE
def jQ.d1(g:fP O aq H H'):∀{r:R}{v:V},jQ H' r v->jQ H r v
 |.v _,_,_=>trivial|.cc _,_,_=>trivial|.mv _,_,_=>trivial|.fr _,_,h=>λa e=>by
  cases ao:H a with
  |none=>rfl|some o=>exact absurd (h a e) (g.has a (jG ao))
def l7(K:aS)(O:a5)(H:aw)(a:Addr)(ys:List V):Prop:=(gc H a (.lst ys)/\(O a=.free\/O a=.out)/\a∉O.bM)\/AR K a ys
structure eM(K:aS)(mg:bq)(O:a5)(Y:aR)(S:cz)(av:St)(H:aw):Prop where
 s3:cO K mg O Y S av H
 full:O.bM.length=S.length
 t4:∀(i:Nat)(xs:List D),Y[i]? = some (.cc xs)->∃a ys,av[i]?.join=some (.ref a)/\l7 K O H a ys/\bb K mg O H xs ys
def l7.e0(g:hk O aq H H')(h:l7 K O H a ys):l7 K aq H' a ys:=by
 rcases h with⟨h,f,m⟩|h
 .have aH:H a≠none:=gc.some h
  refine .inl ⟨?_,by rw[g.own a aH f];exact f,λz=>(g.new a z).elim m aH⟩;rcases h with h|⟨o,h⟩
  .exact .inl (g.cells _ _ h (.inl ⟨f,m⟩))
  .exact .inr ⟨o,g.cells _ _ h (.inl ⟨f,m⟩)⟩
 .exact .inr h
def l7.v(h:l7 K O H a ys):ij K O H a ys:=h.imp (λz=>⟨z.1,z.2.1⟩) id
def eM.go(s:eM K mg O Y S av H)(g:Go O aq H H')(d:da aq H'):eM K mg aq Y S av H':=
 ⟨s.s3.go g d,by rw[g.bM];exact s.full,λi xs e=>by obtain⟨a,ys,ao,l,r⟩:=s.t4 i xs e;exact⟨a,ys,ao,l.e0 g.aA.e0,r.go g⟩⟩
def eM.aA(s:eM K mg O Y S av H)(g:eu O aq H H')(k:fc Y Y' av dk)(t:cO K mg aq Y' S dk H'):eM K mg aq Y' S dk H':=
 ⟨t,by rw[g.bM];exact s.full,λi xs e=>by
  obtain⟨eb,ev⟩:=k.1 i xs e;obtain⟨a,ys,ao,l,r⟩:=s.t4 i xs eb;exact⟨a,ys,by rw[ev];exact ao,l.e0 g.e0,bb.aA g r⟩⟩
def eM.d1(s:eM K mg O Y S av H)(g:fP O aq H H')(d:da aq H')(e':gz K mg aq H' ai)(ba:aq.bM.length=ai.length):eM K mg aq Y ai av H':=by
 have cp:=s.s3.cn.cp;have cc:∀(i:Nat)(xs:List D),Y[i]? = some (.cc xs)->∃a ys,av[i]?.join=some (.ref a)/\l7 K aq H' a ys/\bb K mg aq H' xs ys:=λi xs e=>by
  obtain⟨a,ys,ao,l,r⟩:=s.t4 i xs e;exact⟨a,ys,ao,l.e0 g.e0,r.d1 g cp⟩
 refine⟨⟨d,s.s3.len,λi t e=>?_,e'⟩,ba,cc⟩;have l:=s.s3.loc i t e
 cases t with
 |e=>exact trivial|v d=>obtain⟨v,q,r⟩:=l;exact⟨v,q,r.d1 g cp⟩
 |eH p xs=>obtain⟨a,ys,q,o,l,r⟩:=l;exact⟨a,ys,q,(g.own a (jG l)).trans o,g.cells _ _ l (.inl (cp.no o (by intro z;cases z))),r.d1 g cp⟩
 |cc xs=>obtain⟨a,ys,ao,l,r⟩:=cc i xs e;exact⟨a,ys,ao,l.v,r⟩
end
inductive sq{α:Type}(K:aS)(mg:bq)(m:aR->N α)(av:St)(H:aw)(P:a5->aR->cz->α->Prop):Prop
 |mk (O:a5) (Y:aR) (S:cz) (x:α) (ai:cz) (st:eM K mg O Y S av H) (h:(m Y).run S=.ok x ai) (q:P O Y ai x):sq K mg m av H P
def Ax(K:aS)(mg:bq)(m:fk):TE:=λav H Q=>sq K mg m av H λO Y ai r=>∀aq v H',fP O aq H H'->eM K mg aq Y ai av H'->e5 K mg aq H' r v->jQ H r v->Q v H'
def PU(K:aS)(mg:bq)(m:aR->N Bool):TT:=λav H Q=>sq K mg m av H λO Y ai b=>∀aq H',fP O aq H H'->eM K mg aq Y ai av H'->Q b H'
def Aw(K:aS)(mg:bq)(m:hV):gA:=λav H Q=>sq K mg m av H λO Y ai rs=>∀aq vs H',fP O aq H H'->eM K mg aq Y ai av H'->gx K mg aq H' rs vs->kM H rs vs->Q vs H'
def uo(K:aS)(mg:bq)(O:a5)(ai:cz)(H:aw)(ba:gI)(hS:Ends):Prop:=match ba with
 |.bh Y'=>∀aq dk H',hk O aq H H'->eM K mg aq Y' ai dk H'->hS.bh dk H'|.cP Y'=>∀aq dk H',hk O aq H H'->eM K mg aq Y' ai dk H'->hS.cP dk H'|.cw Y'=>∀aq dk H',hk O aq H H'->eM K mg aq Y' ai dk H'->hS.cw dk H'|.cQ r=>∀aq v H',hk O aq H H'->da aq H'->gz K mg aq H' ai->aq.bM.length=ai.length->AY K mg aq H' r v->hS.cQ v H'
def uo.e0{O aO:a5}(h:uo K mg O ai H ba hS)(g:hk O aO H H1):uo K mg aO ai H1 ba hS:=by
 cases ba with
 |bh Y'=>exact λaq dk H' g'=>h aq dk H' (g.trans g')
 |cP Y'=>exact λaq dk H' g'=>h aq dk H' (g.trans g')
 |cw Y'=>exact λaq dk H' g'=>h aq dk H' (g.trans g')
 |cQ r=>exact λaq v H' g'=>h aq v H' (g.trans g')
def sb(K:aS)(mg:bq)(m:bk):hl:=λhS av H=>sq K mg m av H λO _ ai ba=>uo K mg O ai H ba hS
section
variable(X:aT)
structure fv(e:Expr)(m:fk):Prop where
 un:bY X e (Ax X.K X.mg m)
structure kQ(e:Expr)(m:aR->N Bool):Prop where
 un:iY X e (PU X.K X.mg m)
structure sx(e:Expr)(m:aR->N Bool):Prop where
 un:ly X e (PU X.K X.mg m)
structure l'(ay:List Expr)(m:hV):Prop where
 un:gm X ay (Aw X.K X.mg m)
structure gW(st:Stmt)(m:bk):Prop where
 un:iW X st (sb X.K X.mg m)
structure kf(tU:List Stmt)(m:bk):Prop where
 un:iX X tU (sb X.K X.mg m)
end
def cS(m:bo):fk:=λY=>(m Y).up
def eR(m:aR->M Bool):aR->N Bool:=λY=>(m Y).up
def e8(m:c7):hV:=λY=>(m Y).up
def bU(m:a3):bk:=λY=>(m Y).up
section
variable{X:aT}{e:Expr}{ay:List Expr}{m:bo}{t:aR->M Bool}{ms:c7}{b:a3}{st:Stmt}{tU:List Stmt}
theorem ag4(h:a' X e m):fv X e (cS m):=⟨eI h.un λav H Q aX=>by
 obtain⟨O,Y,S,r,ai,st,h,q⟩:=aX;obtain rfl:=(m Y).eB _ _ _ h;exact⟨O,Y,ai,r,ai,st.s3,h,λaO v H1 g1 aV bu nn=>q aO v H1 g1.d1 (st.go g1 aV.cn) bu nn⟩⟩
theorem ahl(h:fE X e t):kQ X e (eR t):=⟨rQ h.un λav H Q aX=>by
 obtain⟨O,Y,S,r,ai,st,h,q⟩:=aX;obtain rfl:=(t Y).eB _ _ _ h;exact⟨O,Y,ai,r,ai,st.s3,h,λaO H1 g1 aV=>q aO H1 g1.d1 (st.go g1 aV.cn)⟩⟩
theorem agT(h:gK X ay ms):l' X ay (e8 ms):=⟨wz h.un λav H Q aX=>by
 obtain⟨O,Y,S,r,ai,st,h,q⟩:=aX;obtain rfl:=(ms Y).eB _ _ _ h;exact⟨O,Y,ai,r,ai,st.s3,h,λaO v H1 g1 aV bu nn=>q aO v H1 g1.d1 (st.go g1 aV.cn) bu nn⟩⟩
theorem PT:∀D av H,sb K mg (bU b) D av H->kH K mg b D av H:=by
 rintro D av H ⟨O,Y,S,ba,ai,st,h,q⟩;obtain rfl:=(b Y).eB _ _ _ h;refine⟨O,Y,ai,ba,ai,st.s3,h,?_⟩
 cases ba with
 |bh Y'=>exact λaq dk H' g t k=>q aq dk H' g.e0 (st.aA g k t)
 |cP Y'=>exact λaq dk H' g t k=>q aq dk H' g.e0 (st.aA g k t)
 |cw Y'=>exact λaq dk H' g t k=>q aq dk H' g.e0 (st.aA g k t)
 |cQ r=>exact λaq v H' g d e' bu=>q aq v H' g.e0 d e' (by rw[g.bM];exact st.full) bu
def ahf(h:fu X st b):gW X st (bU b):=⟨g_ h.un PT⟩
def PX(h:fS X tU b):kf X tU (bU b):=⟨zV h.un PT⟩
end
end a0
namespace a0
open PySem PySem.Spec aF
def bI(a b:bk):bk:=λY=>do
 let ba <-a Y
 match ba with
 |.bh Y'=>b Y'|ba=>pure ba
def d9(t:aR->N Bool)(a b:bk):bk:=λY=>do
 let t <-t Y
 if t=true then a Y else b Y
def iF(i:Nat)(m:fk):bk:=λY=>do
 let r <-m Y
 let d <-r.dat.up
 pure (.bh (Y.set i (.v d)))
def od(m:fk):bk:=λY=>do
 let r <-m Y
 match r with
 |.v d=>pure (.cQ (.v d))|.fr xs=>pure (.cQ (.fr xs))|_=>g8
def lh(m:fk):bk:=λY=>do
 let _ <-m Y
 pure (.bh Y)
variable[aF.a8]
section
variable{K:aS}{mg:bq}{O pL:a5}{H H₀:aw}{S:cz}{Y:aR}{av:St}
def eM.cg(s:eM K mg O Y S av H)(H₀:aw):eM K mg (cg H₀ O) Y S av H:=⟨s.s3.cg H₀,s.full,λi xs e=>by
 obtain⟨a,ys,ao,l,r⟩:=s.t4 i xs e;refine⟨a,ys,ao,l.imp (λz=>⟨z.1,?_,z.2.2⟩) id,r.dA (js _ _)⟩;rcases z.2.1 with f|f
 .exact .inl ((js H₀ O).fr a f)
 .exact .inr (by rw[rb (by rw[f];intro z;cases z)];exact f)⟩
def fP.cg(g:fP pL O H₀ H):fP pL (cg H₀ O) H₀ H:=⟨λb o e h n=>g.cells b o e h n,λb af=>(yv af).trans (g.own b af),g.has,g.c6,g.bV,g.bM,g.new⟩
def eM.set{v:V}(st:eM K mg O Y S av H)(aE:∀xs,s≠.cc xs)(h:jS K mg O H (.loc i) s (some v)):eM K mg O (Y.set i s) S (av.set i (some v)) H:=⟨st.s3.set h,st.full,λj xs e=>by
 by_cases aZ:i=j
 .subst aZ
  rw[akF (by have:=(ajJ.mp e).1;rwa[akI]at this)]at e;exact absurd (akd e) (aE xs)
 .rw[ajX aZ]at e
  rw[ajX aZ];exact st.t4 j xs e⟩
end
section
variable{X:aT}{st:Stmt}{rest A B:List Stmt}{pos pos':Pos}{a b:bk}{e c:Expr}{m:fk}{t:aR->N Bool}{i:Nat}{x:Str}
def ahj(h:gW X st a):kf X [st] a:=⟨MR h.un⟩
def ahi(ae:gW X st a)(ah:kf X rest b):kf X (st::rest) (bI a b):=⟨zV (MQ ae.un ah.un) λD av H aX=>by
 obtain⟨O,Y,S,ba,ai,st,h,q⟩:=aX;obtain⟨f1,S1,ae,h⟩:=N.inv h;refine⟨O,Y,S,f1,S1,st,ae,?_⟩
 cases f1 with
 |bh ig=>exact λaO xl H1 g1 aV=>⟨aO,ig,S1,ba,ai,aV,h,q.e0 g1⟩
 |cQ r=>cases h;exact q
 |cP ig=>cases h;exact q
 |cw ig=>cases h;exact q⟩
theorem ahd(aI:kQ X c t)(ar:kf X A a)(af:kf X B b):gW X (.If c A B pos) (d9 t a b):=⟨g_ (MP aI.un ar.un af.un) λD av H aX=>by
 obtain⟨O,Y,S,ba,ai,st,h,q⟩:=aX;obtain⟨t,S1,ae,h⟩:=N.inv h;refine⟨O,Y,S,t,S1,st,ae,λaO H1 g1 aV=>?_⟩
 cases t with
 |false=>
  rw[if_neg ajO]at h;exact qf ⟨aO,Y,S1,ba,ai,aV,h,q.e0 g1.e0⟩
 |true=>
  rw[if_pos rfl]at h;exact qg ⟨aO,Y,S1,ba,ai,aV,h,q.e0 g1.e0⟩⟩
theorem ahg(he:fv X e m):gW X (.Return (some e) pos) (od m):=⟨g_ (EK he.un) λD av H aX=>by
 obtain⟨O,Y,S,ba,ai,st,h,q⟩:=aX;obtain⟨r,S1,ae,h⟩:=N.inv h;refine⟨O,Y,S,r,S1,st,ae,λaO v H1 g1 aV bu nn=>?_⟩
 cases r with
 |v d=>cases h;exact q aO v H1 g1.e0 aV.s3.cn aV.s3.hc aV.full bu
 |fr xs=>cases h;exact q aO v H1 g1.e0 aV.s3.cn aV.s3.hc aV.full (Nf bu (.inr ⟨_,rfl⟩))
 |cc xs=>cases h
 |mv xs=>cases h⟩
theorem aha(he:fv X e m)(aE:ak8 e none pos.line X.env=pure false:=by rfl):gW X (.Expr e pos) (lh m):=⟨g_ (EJ he.un aE) λD av H aX=>by
 obtain⟨O,Y,S,ba,ai,st,h,q⟩:=aX;obtain⟨r,S1,ae,h⟩:=N.inv h;cases h;exact⟨O,Y,S,r,_,st,ae,λaO v H1 g1 aV bu nn=>q aO av H1 g1.e0 aV⟩⟩
theorem ahh(hN:X.N.Nodup)(aD:X.N[i]? = some x)(ag:Loc X.env.scope x)(he:fv X e m)(aE:ak8 e (some (.Name x pos')) pos.line X.env=pure false:=by rfl)(hf:X.fn x=true\/X.env.scope.names.lookup x=some .local:=by first|exact .inl rfl|exact .inr rfl|assumption) :
  gW X (.Assign [.Name x pos'] e pos) (iF i m):=⟨g_ (EL hN aD ag he.un aE hf) λD av H aX=>by
 obtain⟨O,Y,S,ba,ai,st,h,q⟩:=aX;obtain⟨r,S1,ae,h⟩:=N.inv h;obtain⟨d,bc,ah,h⟩:=N.inv h;cases h;refine⟨O,Y,S,r,S1,st,ae,λaO v H1 g1 aV bu nn=>?_⟩;obtain⟨a4,rfl⟩:=p0 (H₀:=H) bu nn ah;exact q (cg H aO) _ H1 g1.cg.e0 ((aV.cg H).set (λxs z=>by cases z) ⟨v,rfl,a4⟩)⟩
end
def AP(cm:iI)(O:a5)(H:aw)(ys:List V):Prop:=∀br aM,hk O br H aM->∀i,(i<ys.length->cm.go i aM/\∀x H',cm.pB i aM x H'->H'=aM/\ys[i]? = some x)/\(ys.length<=i->cm.stop i aM)
def Po(K:aS)(mg:bq)(m:fj):TI:=λav H R=>sq K mg (λY=>(m Y).up) av H λO Y ai xs=>∀aq H' cm ys,Go O aq H H'->eM K mg aq Y ai av H'->AP cm aq H' ys->bb K mg aq H' xs ys->R cm H'
structure A5(X:aT)(cj e:Expr)(m:fj):Prop where
 un:kN X cj e (Po X.K X.mg m)
def sW(m:bo):fj:=λY=>do
 let r <-m Y
 match r with
 |.v (.lst xs)=>pure xs|.fr xs=>pure xs|_=>bad
def kI(b:D->bk):List D->bk
 |[]=>λY=>pure (.bh Y)
 |d::ds=>λY=>do
  let ba <-b d Y
  match ba with
  |.bh Y'=>kI b ds Y'|.cw Y'=>kI b ds Y'|.cP Y'=>pure (.bh Y')|.cQ r=>pure (.cQ r)
def PJ(B:D->bk)(it:fj):bk:=λY=>do
 let ds <-(it Y).up
 kI B ds Y
abbrev qL(i:Nat)(it:fj)(b:bk):bk:=PJ (λd Y=>b (Y.set i (.v d))) it
section
variable{X:aT}{cj l iter:Expr}{m:bo}{a:Expr}{ms:c7}{pos p d8:Pos}{it:fj}{bd:bk}{body:List Stmt}{i:Nat}{x:Str}
theorem l7.Kv{K:aS}{O:a5}{H:aw}{a:Addr}{xs:List V}(h:l7 K O H a xs):AP (l6 K a) O H xs:=λbr aM g i=>Dp (h.e0 g).v.dP aM (eN.refl _) i
theorem ag5(au:a' X l m):A5 X cj l (sW m):=⟨pb (EF au.un) λav H R aX=>by
 obtain⟨O,Y,S,xs,ai,st,h,q⟩:=aX;obtain rfl:=(sW m Y).eB _ _ _ h;obtain⟨r,S1,ae,h⟩:=M.inv h;obtain rfl:=(m Y).eB _ _ _ ae;refine⟨O,Y,S1,r,S1,st.s3,ae,λaO v H1 g1 aV bu nn=>?_⟩;have z7:=st.go g1 aV.cn;split at h
 .cases h
  obtain⟨a,ys,rfl,ls,bt⟩:=bu;exact⟨a,rfl,⟨ys,ls.dP⟩,q aO H1 (l6 X.K a) ys g1 z7 (l7.Kv (.inl ⟨.inl ls.1,.inl ls.2,aV.cn.cp.no ls.2 (by intro z;cases z)⟩)) bt⟩
 .cases h
  obtain⟨a,ys,rfl,ls,t,bt⟩:=bu;exact⟨a,rfl,⟨ys,dx.of ls⟩,q (cg H aO) H1 (l6 X.K a) ys g1.cg (z7.cg H) (l7.Kv (.inl ⟨.inl ls,.inl (yw (nn a rfl) t),aV.cn.cp.no t (by intro z;cases z)⟩)) (bt.dA (js _ _))⟩
 .cases h⟩
theorem YZ{O:a5}(lo:Int)(n:Nat):AP (pJ lo n) O H (n6 lo n):=λbr aM _ i=>Dr (H:=aM) lo n aM (eN.refl _) i
def ag6(aU:eU X "range")(hm:X.mg "range"=none)(ar:gK X [a] ms)(aE:ajG [a] X.env=[(false,eval a X.env)]:=by rfl):A5 X cj (.Call (.Name "range" p) [a] [] pos) (j5 ms):=⟨pb (EG aU hm ar.un aE) λav H R aX=>by
 obtain⟨O,Y,S,xs,ai,st,h,q⟩:=aX;obtain rfl:=(j5 ms Y).eB _ _ _ h;obtain⟨rs,S1,ae,h⟩:=M.inv h;obtain rfl:=(ms Y).eB _ _ _ ae;split at h
 .rename_i j
  by_cases c:-(2 ^ 62)<=j/\j<2 ^ 62
  .rw[if_pos c]at h
   cases h;refine⟨O,Y,S1,_,S1,st.s3,ae,λaO vs H1 g1 aV bu nn=>?_⟩;obtain⟨v,rfl,bR⟩:=kB bu;cases(show v=.int j from bR);exact⟨j,rfl,c.1,c.2,q aO H1 (pJ 0 j.toNat) (n6 0 j.toNat) g1 (st.go g1 aV.cn) (YZ _ _) (Nl _ _)⟩
  .rw[if_neg c]at h;cases h
 .cases h⟩
theorem Z1{K:aS}{mg:bq}{cm:iI}{G:jo}{B:a0.D->bk}{items:List a0.D}{aO:a5}{Y:aR}{S1 ai:cz}{av:St}{H1:aw}{ba:gI}{hS:Ends}(aV:eM K mg aO Y S1 av H1)(stop:∀aq H',hk aO aq H1 H'->cm.stop items.length H')
  (step:∀k d aq H' Y' hC dk f bc,items[k]? = some d->hk aO aq H1 H'->eM K mg aq Y' hC dk H'->(B d Y').run hC=.ok f bc->cm.go k H'/\∀x aM (R:St->aw->Prop),cm.pB k H' x aM->
   (∀iH kJ cZ,hk aq aq H' cZ->eM K mg aq iH hC kJ cZ->(bd iH).run hC=.ok f bc->R kJ cZ)->G x dk aM R)
  (h:(kI B items Y).run S1=.ok ba ai) (q:uo K mg aO ai H1 ba hS):r0 (λ_ _ R=>R cm H1) G (sb K mg bd) hS av H1:=by
 refine⟨λk m dk H'=>m=items.length-k/\k<=items.length/\∃aq Y' hC,eM K mg aq Y' hC dk H'/\hk aO aq H1 H'/\(kI B (items.drop k) Y').run hC=.ok ba ai,
  ⟨_,rfl,aj5 _,aO,Y,S1,aV,(eu.refl _ _).e0,h⟩,?_⟩
 rintro k m dk H' ⟨rfl,ax,aq,Y',hC,cq,g',h⟩
 cases e:items.drop k with
 |nil=>
  obtain rfl:k=items.length:=by
   have:=congrArg ak6 e;rw[akV,akH]at this;omega
  rw[e]at h;cases h;exact .inl ⟨stop aq H' g',q aq dk H' g' cq⟩
 |cons d nx=>
  have fG:k<items.length:=by
   have:=congrArg ak6 e;rw[akV,ajW]at this;omega
  have d4:items[k]? = some d:=by
   have:=congrArg (·[0]?) e;simpa using this
  have cF:items.drop (k+1)=nx:=by
   have:=congrArg (anD 1) e;simpa[ams]using this
  rw[e]at h;obtain⟨f1,bc,ah,h⟩:=N.inv h;obtain⟨go,m5⟩:=step k d aq H' Y' hC dk f1 bc d4 g' cq ah;refine .inr ⟨go,λhy aM=>∃br dX bc,eM K mg br dX bc hy aM/\hk aO br H1 aM/\(kI B (items.drop (k+1)) dX).run bc=.ok ba ai,?_,λx aM j'=>m5 x aM _ j' λiH kJ cZ i2 mY af=>?_⟩
  .rintro hy aM ⟨br,dX,bc,a1,a2,eV⟩
   exact⟨_,by omega,rfl,fG,br,dX,bc,a1,a2,eV⟩
  .refine⟨aq,iH,hC,f1,bc,mY,af,?_⟩
   have g3:=g'.trans i2
   cases f1 with
   |bh dX=>exact λbr hy aM g2 cU=>⟨br,dX,bc,cU,g3.trans g2,by rw[cF];exact h⟩
   |cw dX=>exact λbr hy aM g2 cU=>⟨br,dX,bc,cU,g3.trans g2,by rw[cF];exact h⟩
   |cP dX=>cases h;exact λbr hy aM g2 cU=>q br hy aM (g3.trans g2) cU
   |cQ r=>cases h;exact λbr v aM g2 dh az f2 cx=>q br v aM (g3.trans g2) dh az f2 cx
theorem VQ{G:jo}{B:a0.D->bk}(p7:∀O Y S av H d y f bc Q,eM K mg O Y S av H->Rep K mg O H d y->(B d Y).run S=.ok f bc->(∀iH kJ,eM K mg O iH S kJ H->(bd iH).run S=.ok f bc->Q kJ H)->G y av H Q) :
  ∀D av H,sb K mg (PJ B it) D av H->r0 (Po K mg it) G (sb K mg bd) D av H:=by
 rintro D av H ⟨O,Y,S,ba,ai,st,h,q⟩;obtain⟨ds,S1,ae,h⟩:=N.inv h;refine⟨O,Y,S,ds,S1,st,ae,λaO H1 cm ys g1 aV its bt=>Z1 aV (λaq H' g=>(its aq H' g _).2 (ali bt.len)) (λk d aq H' Y' hC dk f bc d4 g' cq ah=>?_) h (q.e0 g1.aA.e0)⟩;obtain⟨y,fz,bC⟩:=(bt.e0 g' aV.s3.cn.cp).get d4;obtain⟨go,m5⟩:=(its aq H' g' k).1 (ajJ.mp fz).1;refine⟨go,λx aM R j' eP=>?_⟩;obtain⟨rfl,ex⟩:=m5 x aM j';rw[fz]at ex;cases ex;exact p7 _ _ _ _ _ _ _ _ _ _ cq bC ah λiH kJ mY af=>eP _ _ _ (eu.refl _ _).e0 mY af
def ahc(aK:anz (model X.prog X.w) X.A X.env X.d2)(aI:X.calm=true)(aD:A5 X (.Name x d8) iter it)(hN:X.N.Nodup)(ag:X.N[i]? = some x)(au:Loc X.env.scope x)(af:kf X body bd)
  (aE:∀x,akv iter X.env x=pure x:=by intro _;rfl) (hf:X.fn x=true\/X.env.scope.names.lookup x=some .local:=by first|exact .inl rfl|exact .inr rfl|assumption):gW X (.For (.Name x d8) iter body [] pos) (qL i it bd):=
 ⟨g_ (zU aK aI aD.un (wD hN ag au hf) af.un aE) (VQ λ_ _ _ _ _ _ _ _ _ _ st bC h k=>k _ _ (st.set (s:=.v _) (λxs z=>by cases z) ⟨_,rfl,bC⟩) h)⟩
end
end a0
namespace a0
open PySem PySem.Spec aF
def fnX(n N:Nat)(b:bk):fe:=λds=>if ds.length=n then do
  let ba <-b (ds.map dC++akB (N-n) .e)
  match ba with
  |.cQ (.v d)=>pure (.v d)|.cQ (.fr xs)=>pure (.fr xs)|.bh _=>pure (.v .aG)|_=>g8
 else g8
def Cj{n N:Nat}{ds:List D}{r:R}(h:(fnX n N b ds).run S=.ok r ai):ds.length=n:=by
 unfold fnX at h
 by_cases c:ds.length=n
 .exact c
 .rw[if_neg c]at h;cases h
def m4:hV:=λ_=>pure []
def ic(m:fk)(ms:hV):hV:=λY=>do
 let x <-m Y
 let xs <-ms Y
 if x.je=true then pure (x::xs)else g8
def Ap(m:fk)(ms:c7):hV:=λY=>do
 let x <-m Y
 let xs <-(ms Y).up
 pure (x::xs)
def iV(mf:fe)(ms:hV):fk:=λY=>do
 let rs <-ms Y
 if rs.all R.je=true then mf (rs.map R.arg)else g8
def fD(c m:Str)(mf:fe)(mo:bo)(ms:hV):fk:=λY=>do
 let x <-(mo Y).up
 let o <-(gu x).up
 match o with
 |.bD c' aW=>if c'=c/\aW.lookup m=none then(do
  let rs <-ms Y
  if rs.all R.je=true then mf (x.arg::rs.map R.arg)else g8)else g8
 |_=>g8
def xg(c:Str)(mf:fe)(ms:hV):fk:=λY=>do
 let rs <-ms Y
 if rs.all R.je=true then(do
  let S <-uY
  putN (S++[.bD c []])
  let r <-mf (.ref S.length::rs.map R.arg)
  match r with
  |.v .aG=>pure (.v (.ref S.length))| _=>g8)else g8
variable[aF.a8]
def pC(K:aS)(mg:bq)(O:a5)(H:aw):D->V->Prop
 |.lst xs,v=>∃a ys,v=.ref a/\((gc H a (.lst ys)/\a∉O.bM)\/AR K a ys)/\bb K mg O H xs ys|d,v=>Rep K mg O H d v
def m8(K:aS)(mg:bq)(O:a5)(H:aw):List D->List V->Prop
 |[],ys=>ys=[]|x::xs,ys=>∃y r,ys=y::r/\pC K mg O H x y/\m8 K mg O H xs r
section
variable{K:aS}{mg:bq}{O:a5}{H:aw}{S:cz}
def pC.rep{v:V}(cp:jR O)(h:Rep K mg O H d v):pC K mg O H d v:=by
 cases d with
 |lst xs=>obtain⟨a,ys,e,l,r⟩:=h;exact⟨a,ys,e,.inl ⟨.inl l.1,cp.no l.2 (by intro z;cases z)⟩,r⟩
 |_=>exact h
def QF{r:R}{v:V}(cp:jR O)(aE:r.je=true)(h:e5 K mg O H r v):pC K mg O H r.arg v:=by
 cases r with
 |v d=>exact pC.rep cp h| fr xs=>obtain⟨a,ys,e,l,t,r⟩:=h;exact⟨a,ys,e,.inl ⟨.inl l,cp.no t (by intro z;cases z)⟩,r⟩
 |cc _=>cases aE
 |mv _=>cases aE
theorem xO(cp:jR O):∀{rs:List R}{vs:List V},rs.all R.je=true->gx K mg O H rs vs->m8 K mg O H (rs.map R.arg) vs
 |[],_,_,h=>h|_::_,_,aE,h=>by
  rw[amx,ako]at aE;obtain⟨y,r,q,a,b⟩:=h;exact⟨y,r,q,QF cp aE.1 a,xO cp aE.2 b⟩
def pC.r{v:V}(h:pC K mg O H d v):ub K mg O H d v:=by
 cases d with
 |lst xs=>obtain⟨a,ys,e,l,r⟩:=h;exact⟨a,ys,e,l.imp (·.1) id,r⟩
 |_=>exact h
theorem m8.r:∀{ds:List D}{vs:List V},m8 K mg O H ds vs->l5 K mg O H ds vs
 |[],_,h=>h| _::_,_,h=>by obtain⟨y,r,q,a,b⟩:=h;exact⟨y,r,q,a.r,m8.r b⟩
theorem m8.get:∀{ds:List D}{xs:List V}{i:Nat}{d:D},m8 K mg O H ds xs->ds[i]? = some d->∃x,xs[i]? = some x/\pC K mg O H d x
 |[],_,_,_,_,e=>by simp at e| _::_,_,0,d,h,e=>by obtain⟨x,r,rfl,a,_⟩:=h;cases(show some _=some d from e);exact⟨x,rfl,a⟩
 |_::ds,_,i+1,d,h,e=>by
  obtain⟨x,r,rfl,_,b⟩:=h;obtain⟨y,ao,az⟩:=m8.get (i:=i) b (by simpa using e);exact⟨y,by simpa using ao,az⟩
def dU(K:aS)(mg:bq)(mf:fe):eo:=λvs H Q _=>∃O ds r S ai,da O H/\gz K mg O H S/\O.bM.length=S.length/\m8 K mg O H ds vs/\(mf ds).run S=.ok r ai/\
 ∀aq v H',fP O aq H H'->da aq H'->gz K mg aq H' ai->aq.bM.length=ai.length->e5 K mg aq H' r v->jQ H r v->Q v H'
def aeJ{ps N:List Str}{ds:List D}(cT:da O H)(e':gz K mg O H S)(ba:O.bM.length=S.length)(ff:m8 K mg O H ds vs)(au:ds.length=ps.length):eM K mg (fx O) (ds.map dC++akB (N.length-ps.length) .e) S (aF.start N vs) H:=by
 refine⟨Fh cT e' ff.r au,ba,λi xs e=>?_⟩
 by_cases aD:i<ds.length
 .rw[aj8 (by rw[ajE];exact aD),akc]at e
  cases d4:ds[i]? with
  |none=>rw[d4]at e;cases e
  |some d=>
   rw[d4]at e;obtain⟨v,ev,bR⟩:=ff.get d4
   cases d with
   |lst zs=>
    cases e;obtain⟨a,ys,rfl,l,r⟩:=bR;refine⟨a,ys,?_,l.imp (λz=>⟨z.1,nr O a,z.2⟩) id,r.dA (lD O)⟩;unfold aF.start;rw[aj8 (by rw[ajE];exact(ajJ.mp ev).1),akc,ev];rfl
   |_=>cases e
 .rw[aj3 (by rw[ajE];omega),aly]at e
  split at e
  .cases e
  .cases e
theorem H3{ps N:List Str}(h4:dU K mg (fnX ps.length N.length di) vs H Q E):sb K mg di { bh:=λ_ H'=>Q .aG H',cQ:=Q } (aF.start N vs) H:=by
 obtain⟨O,ds,r,S,ai,cT,e',Co,ff,h,q⟩:=h4;have au:=Cj h;unfold fnX at h;rw[if_pos au]at h;obtain⟨ba,S1,ae,h⟩:=a0.N.inv h;have rX:=aeJ (N:=N) cT e' Co ff au;have back:∀{aq:a5}{H':aw},hk (fx O) aq H H'->da aq H'->∃br:a5,fP O br H H'/\da br H'/\nc aq br/\∀b,(aq b=.dF\/∃i,aq b=.loc i)->H b=none/\br b=.dF:=λ{aq H'} g d=>by
  have rJ:∀b,H b≠none->(match H b with|some _=>O b|none=>(match aq b with|.loc _=>.dF|o=>o))=O b:=λb af=>by
   cases e:H b with
   |none=>exact absurd e af|some o=>rfl
  have qt:∀b,H b=none->(match H b with|some _=>O b|none=>(match aq b with|.loc _=>.dF|o=>o))=(match aq b with|.loc _=>Own.dF|o=>o):=λb af=>by rw[af]
  refine⟨⟨λb=>match H b with|some _=>O b|none=>(match aq b with|.loc _=>.dF|o=>o),aq.bM⟩,⟨λb o e h n=>g.cells b o e (h.imp (λz=>⟨nr O b,z⟩) id) n,rJ,g.has,g.c6,g.bV,g.bM,g.new⟩,⟨λb af=>?_,d.tabs,d.cp.1,λb m=>?_⟩,⟨λb af=>?_,rfl⟩,λb af=>?_⟩
  .cases e:H b with
   |some o=>exact g.has b (jG e)|none=>
    refine d.has b λz=>af ?_
    refine(qt b e).trans ?_;rw[z]
  .rcases g.new b m with z|z
   .exact(rJ b (cT.has b (by rw[cT.cp.2 b z];intro z;cases z))).trans (cT.cp.2 b z)
   .refine(qt b z).trans ?_
    rw[d.cp.2 b m]
  .cases e:H b with
   |some o=>exact(rJ b (jG e)).trans (pW.mp ((g.own b (jG e) (nr O b)).symm.trans af))|none=>
    refine(qt b e).trans ?_;rw[af]
  .have aH:H b=none:=by
    cases e:H b with
    |none=>rfl|some o=>
     exfalso;have bz:=g.own b (jG e) (nr O b);rcases nr O b with z|z<;>rw[z]at bz<;>rcases af with w|⟨i,w⟩<;>rw[bz]at w<;>cases w
   refine⟨aH,(qt b aH).trans ?_⟩;rcases af with w|⟨i,w⟩<;>rw[w]
 refine⟨fx O,_,S,ba,S1,rX,ae,?_⟩
 cases ba with
 |bh Y'=>
  cases h;intro aq dk H' g cq;obtain⟨br,g2,dh,f2,_⟩:=back g cq.s3.cn;exact q br .aG H' g2 dh (cq.s3.hc.all (λ_ _ z=>Rep.dA f2 z) f2.bM λ_ _ _ l _=>l) (by rw[f2.bM];exact cq.full) rfl trivial
 |cP Y'=>cases h
 |cw Y'=>cases h
 |cQ bT=>
  intro aq v H' g d aez VV bu;obtain⟨br,g2,dh,f2,d6⟩:=back g d;have w2:=aez.all (λ_ _ z=>Rep.dA f2 z) f2.bM λ_ _ _ l _=>l
  have Ja:br.bM.length=S1.length:=by rw[f2.bM];exact VV
  cases bT with
  |v dd=>cases h;exact q br v H' g2 dh w2 Ja (Rep.dA f2 bu) trivial
  |fr xs=>
   cases h;obtain⟨a,ys,rfl,l,t,bt⟩:=bu;obtain⟨aH,bO⟩:=d6 a t;exact q br _ H' g2 dh w2 Ja ⟨a,ys,rfl,l,bO,bt.dA f2⟩ λb dc=>by cases dc;exact aH
  |cc xs=>exact akl bu|mv xs=>exact akl bu
end
structure gR(K:aS)(mg:bq)(c m qual:Str)(st:Stmt)(ps:List Str):Prop where
 ex:∃C f fd,mg c=some (.ref C)/\ji K C/\Meth K C m f/\lu K m qual st f fd/\Binds K fd ps []
structure d0(P:ajY)(w:World)(K:aS)(mg:bq)(base:Heap)(c m:Str)(ps:List Str)(k:Nat)(sp:eo):Prop where
 ex:∃C f fd,mg c=some (.ref C)/\ji K C/\Meth K C m f/\fq P w K mg base eT k f fd ps sp/\Binds K fd ps []
section
variable{P:ajY}{w:World}{K:aS}{mg:bq}{base:Heap}{x c m qual:Str}{st:Stmt}{ps N:List Str}{k:Nat}{di:bk}{n nl:Nat}{f:Addr}{fd:akR}
def Ck(F:lu K x qual st f fd)(Sc:cb N ps (bH st))(aH:ps.length=n)(au:N.length=nl)
  (af:∀(bw:Value)(A:aj4)(outer:List Env)(s:ajH)(H:aw)(E:gL),cK k (A.deeper (akO qual (bH st) s.heap.objs.size f bw))->
   kf (ho eT P w K mg base N qual (bH st) f bw A outer s H E).gO (fF st) di):fq P w K mg base eT (k+1) f fd ps (dU K mg (fnX n nl di)):=by
 subst aH au;exact F.ok Sc (λvs H Q E ⟨O,ds,r,S,ai,cT,e',Co,ff,h,q⟩=>ff.r.len.trans (Cj h)) λbw A outer s H vs Q E aB h4=>⟨_,(af bw A outer s H E aB).un,H3 h4⟩
theorem u7(cu:cu K mg x st ps)(Sc:cb N ps (bH st))(aH:ps.length=n)(au:N.length=nl)
  (af:∀(f:Addr)(bw:Value)(A:aj4)(outer:List Env)(s:ajH)(H:aw)(E:gL),cK k (A.deeper (akO x (bH st) s.heap.objs.size f bw))->
   kf (ho eT P w K mg base N x (bH st) f bw A outer s H E).gO (fF st) di):b_ P w K mg base x ps (k+1) (dU K mg (fnX n nl di)):=by
 obtain⟨f,fd,F,b,m⟩:=cu.ex;exact⟨f,fd,Ck F Sc aH au (λbw=>af f bw),b,F.kp,m⟩
theorem oD(cu:gR K mg c m qual st ps)(Sc:cb N ps (bH st))(aH:ps.length=n)(au:N.length=nl)
  (af:∀(f:Addr)(bw:Value)(A:aj4)(outer:List Env)(s:ajH)(H:aw)(E:gL),cK k (A.deeper (akO qual (bH st) s.heap.objs.size f bw))->
   kf (ho eT P w K mg base N qual (bH st) f bw A outer s H E).gO (fF st) di):d0 P w K mg base c m ps (k+1) (dU K mg (fnX n nl di)):=by
 obtain⟨C,f,fd,gN,cl,me,F,b⟩:=cu.ex;exact⟨C,f,fd,gN,cl,me,Ck F Sc aH au (λbw=>af f bw),b⟩
theorem ri{di:a3}(cu:gR K mg c m qual st ps)(Sc:cb N ps (bH st))(aH:ps.length=n)(au:N.length=nl)
  (af:∀(f:Addr)(bw:Value)(A:aj4)(outer:List Env)(s:ajH)(H:aw)(E:gL),cK k (A.deeper (akO qual (bH st) s.heap.objs.size f bw))->
   sg (ho eT P w K mg base N qual (bH st) f bw A outer s H E).gO (fF st) di):d0 P w K mg base c m ps (k+1) (b3 K mg (fnOf n nl di)):=by
 obtain⟨C,f,fd,gN,cl,me,F,b⟩:=cu.ex;exact⟨C,f,fd,gN,cl,me,I7 F Sc aH au (λbw=>af f bw),b⟩
end
section
variable{X:aT}{x:Str}{ps:List Str}{k:Nat}{mf:fe}{p pos:Pos}{e:Expr}{ay:List Expr}{ms:hV}{pm:c7}{Ay:fk}
theorem kM.d1{O aq:a5}(g:fP O aq H H'):∀{rs:List R}{vs:List V},kM H' rs vs->kM H rs vs
 |[],_,_=>trivial|_::_,[],_=>trivial|_::_,_::_,h=>⟨h.1.d1 g,kM.d1 g h.2⟩
theorem agR(ar:fv X e Ay)(aB:l' X ay ms)(aE:ajG (e::ay) X.env=(false,eval e X.env)::ajG ay X.env:=by rfl):l' X (e::ay) (ic Ay ms):=⟨wz (wy ar.un aB.un aE) λav H Q aX=>by
 obtain⟨O,Y,S,r,ai,st,h,q⟩:=aX;obtain⟨x,S1,ae,h⟩:=N.inv h;obtain⟨xs,bc,ah,h⟩:=N.inv h;split at h
 .rename_i f3
  cases h;refine⟨O,Y,S,x,S1,st,ae,λaO gh H1 g1 aV a7 bh=>?_⟩;exact⟨aO,Y,S1,xs,_,aV,ah,λbr vs aM g2 cU rs ns=>q br (gh::vs) aM (g1.trans g2) cU ⟨gh,vs,rfl,a7.d1 g2 aV.s3.cn.cp f3,rs⟩ ⟨bh,ns.d1 g1⟩⟩
 .cases h⟩
theorem agS(ar:fv X e Ay)(aB:gK X ay pm)(aE:ajG (e::ay) X.env=(false,eval e X.env)::ajG ay X.env:=by rfl):l' X (e::ay) (Ap Ay pm):=⟨wz (wy ar.un aB.un aE) λav H Q aX=>by
 obtain⟨O,Y,S,r,ai,st,h,q⟩:=aX;obtain⟨x,S1,ae,h⟩:=N.inv h;obtain⟨xs,bc,ah,h⟩:=N.inv h;cases h;obtain rfl:=(pm Y).eB _ _ _ ah;refine⟨O,Y,S,x,_,st,ae,λaO gh H1 g1 aV a7 bh=>?_⟩;exact⟨aO,Y,_,xs,_,aV.s3,ah,λbr vs aM g2 cU rs ns=>q br (gh::vs) aM (g1.trans g2.d1) (aV.go g2 cU.cn) ⟨gh,vs,rfl,a7.go g2,rs⟩ ⟨bh,ns.d1 g1⟩⟩⟩
def Tj:∀av H Q,Ax K mg (iV mf ms) av H Q->Ad (dU K mg mf) (Aw K mg ms) av H Q:=by
 rintro av H Q ⟨O,Y,S,r,ai,st,h,q⟩;obtain⟨rs,S1,ae,h⟩:=N.inv h;split at h
 .rename_i f3
  refine⟨O,Y,S,rs,S1,st,ae,λaO vs H1 g1 aV bu nn=>?_⟩;exact⟨aO,_,r,S1,ai,aV.s3.cn,aV.s3.hc,aV.full,xO aV.s3.cn.cp f3 bu,h,λaq v H' g d e' ba bT c9=>q aq v H' (g1.trans g) (aV.d1 g d e' ba) bT (c9.d1 g1)⟩
 .cases h
def agW(h:b_ X.prog X.w X.K X.mg X.base x ps k (dU X.K X.mg mf))(aB:cK k X.A)(aU:eU X x)(ar:l' X (e::ay) ms)(e7:(x==("__debug__":Str))=false:=by decide)
  (he:ajG (e::ay) X.env=(false,eval e X.env)::ajG ay X.env:=by rfl) (fm:(aj9 pos (ajG ay X.env)).any (·.1)=false:=by rfl):fv X (.Call (.Name x p) (e::ay) [] pos) (iV mf ms):=
 ⟨eI (MC h aB aU ar.un e7 he fm) Tj⟩
end
end a0
namespace a0
open PySem PySem.Spec aF
def jq(c m:Str)(mf:bJ)(mo:bo)(ms:c7):bo:=λY=>do
 let x <-mo Y
 let o <-gu x
 match o with
 |.bD c' aW=>if c'=c/\aW.lookup m=none then(do
  let rs <-ms Y
  mf (x.arg::rs.map R.arg))else bad
 |_=>bad
def z4(x:R)(o:fQ):N Unit:=match x with
 |.v (.ref n)=>⟨λS=>.ok () (S.set n o)⟩
 |_=>g8
def e9(c f:Str)(mo:bo)(mv:fk):bk:=λY=>do
 let r <-mv Y
 let d <-r.dat.up
 let x <-(mo Y).up
 let o <-(gu x).up
 match o with
 |.bD c' aW=>if c'=c/\aW.length<1000 then(do
  z4 x (.bD c (iU f d aW))
  pure (.bh Y))else g8
 |_=>g8
def ie(mo mk:bo)(mv:fk):bk:=λY=>do
 let r <-mv Y
 let d <-r.dat.up
 let x <-(mo Y).up
 let k <-(mk Y).up
 let o <-(gu x).up
 match o,k with
 | .dS ak,.v kd=>(match qj kd with
  |some key=>if ak.length<1000 then(do
   z4 x (.dS (dE ak key d))
   pure (.bh Y))else g8
  |none=>g8)
 |_,_=>g8
def xf(mo:bo)(ms:c7)(mv:fk):bk:=λY=>do
 let r <-mv Y
 let d <-r.dat.up
 let x <-(mo Y).up
 let rs <-(ms Y).up
 let o <-(gu x).up
 match o,rv rs with
 |.eZ ak,some k=>(if rs.length<=1000/\ak.length<1000 then(do
  z4 x (.eZ (dE ak k d))
  pure (.bh Y))else g8)
 |_,_=>g8
def pw(f:List D->List R->M (R×List D))(mo:bo)(ms:c7):bk:=λY=>do
 let x <-(mo Y).up
 let rs <-(ms Y).up
 let o <-(gu x).up
 match o with
 |.lst xs=>do
  let p <-(f xs rs).up
  z4 x (.lst p.2)
  pure (.bh Y)
 |_=>g8
def oc(m:fk):fk:=λY=>do
 let r <-m Y
 match r with
 |.fr xs=>do
  let S <-uY
  putN (S++[.lst xs])
  pure (.v (.ref S.length))
 |_=>g8
variable[aF.a8]
def hK(O:a5)(p:Addr):a5:=⟨λb=>if b=p then .out else O b,O.bM++[p]⟩
section
variable{K:aS}{mg:bq}{O aq:a5}{H H':aw}{S ai:cz}{Y:aR}{av:St}{p a:Addr}{o:fQ}{n:Nat}{u u':gT}
omit [aF.a8]in
theorem o5(h:b≠p):hK O p b=O b:=if_neg h
omit [aF.a8]in
theorem aaE:hK O p p=.out:=if_pos rfl
theorem Md(cT:da O H)(aK:p∉O.bM):jR (hK O p):=⟨amR.mpr ⟨cT.cp.1,by simp,λx ag y bg=>by rintro rfl;rw[aj0.mp bg]at ag;exact aK ag⟩,λa m=>by
 by_cases e:a=p
 .rw[e];exact aaE
 .rw[o5 e];exact cT.cp.2 a ((akp.mp m).elim id λz=>absurd (aj0.mp z) e)⟩
def da.Ea(cT:da O H)(aK:H p=none):p∉O.bM:=λm=>cT.has p (by rw[cT.cp.2 p m];intro z;cases z) aK
theorem alloc(cT:da O H)(e':gz K mg O H S)(ba:O.bM.length=S.length)(aK:H p=none)(hu:eN H H')(d5:H' p≠none)(bD:(∀d v,Rep K mg O H d v->Rep K mg (hK O p) H' d v)->nh K mg (hK O p) H' p o) :
  fP O (hK O p) H H'/\da (hK O p) H'/\gz K mg (hK O p) H' (S++[o])/\(hK O p).bM.length=(S++[o]).length:=by
 have g:fP O (hK O p) H H':=⟨λb o e _ n=>hu.at' b o e n,λb af=>o5 (by rintro rfl;exact af aK),λ_ h=>hu.some h,hu.c6,hu.bV,anF _ _,λb m=>(akp.mp m).imp id λz=>by rw[aj0.mp z];exact aK⟩;have f:∀d v,Rep K mg O H d v->Rep K mg (hK O p) H' d v:=λ_ _ z=>Rep.d1 g cT.cp z
 refine⟨g,⟨λb af=>?_,hu.bV cT.tabs,Md cT (cT.Ea aK)⟩,λn o' e=>?_,by rw[ajQ,<-ba];exact ajQ⟩
 .by_cases e:b=p
  .rw[e];exact d5
  .rw[o5 e]at af;exact hu.some (cT.has b af)
 .by_cases aH:n<S.length
  .rw[aj8 aH]at e
   obtain⟨a,ae,ah⟩:=e' n o' e;exact⟨a,by show(O.bM++[p])[n]? = _;rw[aj8 (by rw[ba];exact aH)];exact ae,ah.all f λu l n=>hu.at' _ _ l n⟩
  .rw[aj3 (by omega)]at e
   obtain rfl:n=S.length:=by
    have:=(ajJ.mp e).1;simp at this;omega
   rw[alD]at e;cases e;exact⟨p,by show(O.bM++[p])[S.length]? = _;rw[<-ba,aj3 (ajK _),alD];rfl,bD f⟩
def eM.write(st:eM K mg O Y S av H)(aH:O.bM[n]? = some a)(cC:H a=some u)(lU:¬Fix u)(ae:∀ps,u≠.gw ps)(ah:∀q,u≠.ext (qZ a q))(bD:(∀d v,Rep K mg O H d v->Rep K mg O (upd H a u') d v)->nh K mg O (upd H a u') a o) :
  fP O O H (upd H a u')/\eM K mg O Y (S.set n o) av (upd H a u'):=by
 have c_:=akt aH;have bV:TabsOk H->TabsOk (upd H a u'):=λt=>t.put u' (λps z=>ae ps (akd (cC.symm.trans z))) (λq z=>ah q (akd (cC.symm.trans z)))
 have has:∀b,H b≠none->upd H a u' b≠none:=λb af=>by
  by_cases e:b=a
  .rw[e,dG];intro z;cases z
  .rw[dm e];exact af
 have g:fP O O H (upd H a u'):=by
  refine⟨λb o e h _=>?_,λ_ _=>rfl,has,λb ps e=>⟨ps,?_⟩,bV,aoe _,λ_ m=>.inl m⟩
  .rw[dm]
   .exact e
   .rintro rfl
    rcases h with h|h
    .exact h c_
    .rw[cC]at e;cases e;exact lU h
  .rw[dm]
   .exact e
   .rintro rfl;rw[cC]at e;cases e;exact ae _ rfl
 have f:∀d v,Rep K mg O H d v->Rep K mg O (upd H a u') d v:=λ_ _ z=>Rep.d1 g st.s3.cn.cp z
 refine⟨g,st.d1 g ⟨λb af=>has b (st.s3.cn.has b af),bV st.s3.cn.tabs,st.s3.cn.cp⟩ (λk o' e=>?_) (by rw[akI];exact st.full)⟩
 by_cases ax:n=k
 .subst ax
  rw[akF (by have:=(ajJ.mp e).1;rwa[akI]at this)]at e;cases e;exact⟨a,aH,bD f⟩
 .rw[ajX ax]at e
  obtain⟨b,ao,az⟩:=st.s3.hc k o' e;refine⟨b,ao,az.all f λu l _=>?_⟩;rw[dm]
  .exact l
  .rintro rfl
   obtain⟨bz,cf⟩:=ajJ.mp ao;obtain⟨h8,ES⟩:=ajJ.mp aH;exact ax ((List.getElem_inj st.s3.cn.cp.1).mp (ES.trans cf.symm))
theorem gx.d1(g:fP O aq H H')(cp:jR O):∀{rs:List R}{vs:List V},rs.all R.je=true->gx K mg O H rs vs->gx K mg aq H' rs vs
 |[],_,_,h=>h|_::_,_,aE,h=>by
  rw[amx,ako]at aE;obtain⟨y,r,q,a,b⟩:=h;exact⟨y,r,q,a.d1 g cp aE.1,gx.d1 g cp aE.2 b⟩
def tF{r:R}{v:V}(st:cO K mg O Y S av H)(aB:e5 K mg O H r v)(h:(gu r).run S=.ok o ai):∃n a,r=.v (.ref n)/\v=.ref a/\O.bM[n]? = some a/\S[n]? = some o/\nh K mg O H a o:=by
 obtain⟨n,rfl,e,rfl⟩:=Mn h;obtain⟨a,bt,hs⟩:=st.hc n o e;obtain⟨b,dc,mT⟩:=aB;rw[bt]at mT;cases mT;exact⟨n,a,rfl,dc,bt,e,hs⟩
theorem ea.DX:∀{ak:List (Str×D)}{dI:List (Str×V)},ea K mg O H ak dI->ak.lookup f=none->dI.lookup f=none
 |[],dI,h,e=>by obtain rfl:=h.wa;rfl
 |p::ak,dI,h,e=>by
  obtain⟨q,r,rfl,ao,az,h'⟩:=h.cons;obtain⟨p1,dB⟩:=p;obtain⟨bz,cf⟩:=q;cases(show p1=bz from ao);rw[aku]at e ⊢
  cases dc:f==p1 with
  |true=>rw[dc]at e;cases e
  |false=>rw[dc]at e;exact ea.DX h' e
end
def Ae(mg:bq)(c m:Str)(sp:eo)(b9:TE)(t:gA):TE:=λY H Q=>b9 Y H λx H1=>∃a C b7 aW,x=.ref a/\mg c=some (.ref C)/\H1 a=some (.ins C b7 aW)/\aW.lookup m=none/\t Y H1 λvs aM=>sp (x::vs) aM Q jj
def A3(t:TE):Prop:=∀Y H Q f',(∀v H',Q v H'->f' v H')->t Y H Q->t Y H f'
def r5:A3 (fB K mg m):=λav H Q f' i ⟨O,Y,S,x,ai,st,h,q⟩=>⟨O,Y,S,x,ai,st,h,λaq v H' g s p n=>i _ _ (q aq v H' g s p n)⟩
section
variable{X:aT}{c m:Str}{ps:List Str}{k:Nat}{sp:eo}{o e:Expr}{ay:List Expr}{b9:TE}{t:gA}{apos pos:Pos}{mf:fe}{rO:bJ}{mo:bo}{pm:c7}{ms:hV}
def MF{pl:Sem Bool}(h:d0 X.prog X.w X.K X.mg X.base c m ps k sp)(aB:cK k X.A)(up:A3 b9)(he:bY X o b9)(ar:gm X (e::ay) t)
  (f3:ajG (e::ay) X.env=(false,eval e X.env)::ajG ay X.env:=by rfl) (fm:(aj9 pos (ajG ay X.env)).any (·.1)=false:=by rfl)
  (bO:eval (.Call (.Attribute o m apos) (e::ay) [] pos) X.env=(do
   let ep <-eval o X.env
   al5 apos.atName
   let(f,first) <-alq [ep] (alC ep m pl)
   amg pos f first (aj9 pos (ajG (e::ay) X.env)) (alp pos (akU [] X.env))):=by rfl) :
  bY X (.Call (.Attribute o m apos) (e::ay) [] pos) (Ae X.mg c m sp b9 t):=by
 obtain⟨C,f,fd,gN,cl,me,F,b⟩:=h.ex;refine eI (abZ (dvs:=[]) (ds:=[]) he cl me F aB b .nil rM ar f3 fm bO) λY H Q a9=>up _ _ _ _ (λv H1 z=>?_) a9
 obtain⟨a,ll,b7,aW,ev,mO,d5,au,z⟩:=z;rw[gN]at mO;cases mO;refine⟨a,b7,aW,ev,d5,au,?_⟩;simpa only[akG]using z
def MG{pl:Sem Bool}(h:d0 X.prog X.w X.K X.mg X.base c m ps k sp)(aB:cK k X.A)(up:A3 b9)(he:bY X o b9)
  (bO:eval (.Call (.Attribute o m apos) [] [] pos) X.env=(do
   let ep <-eval o X.env
   al5 apos.atName
   let(f,first) <-alq [ep] (alC ep m pl)
   amg pos f first (aj9 pos (ajG [] X.env)) (alp pos (akU [] X.env))):=by rfl) :
  bY X (.Call (.Attribute o m apos) [] [] pos) (Ae X.mg c m sp b9 w5):=by
 obtain⟨C,f,fd,gN,cl,me,F,b⟩:=h.ex;refine eI (ME (dvs:=[]) (ds:=[]) he cl me F aB b .nil rM bO) λY H Q a9=>up _ _ _ _ (λv H1 z=>?_) a9
 obtain⟨a,ll,b7,aW,ev,mO,d5,au,z⟩:=z;rw[gN]at mO;cases mO;exact⟨a,b7,aW,ev,d5,au,z⟩
def L0:∀av H Q,fB K mg (jq c m rO mo pm) av H Q->Ae mg c m (b3 K mg rO) (fB K mg mo) (oa K mg pm) av H Q:=by
 rintro av H Q ⟨O,Y,S,r,ai,st,h,q⟩;obtain⟨x,S1,ae,h0⟩:=M.inv h;clear h;refine⟨O,Y,S,x,S1,st,ae,λaO gh H1 g1 aV a7 bh=>?_⟩;obtain⟨bD,bc,ah,h⟩:=M.inv h0;clear h0;obtain⟨n,a,rfl,rfl,bt,acU,hs⟩:=tF aV a7 ah;obtain rfl:=(gu (.v (.ref n))).eB _ _ _ ah;split at h
 .rename_i c' aW
  split at h
  .rename_i aI
   obtain⟨rfl,hm⟩:=aI;obtain⟨rs,ik,bF,h⟩:=M.inv h;obtain⟨C,b7,jZ,d5,ci,iB⟩:=hs;refine⟨a,C,b7,jZ,rfl,ci.1,d5,iB.DX hm,aO,Y,_,rs,ik,aV,bF,λbr vs aM g2 cU bu nn=>?_⟩;obtain rfl:=(rO _).eB _ _ _ h;exact⟨br,.ref n::rs.map R.arg,r,ai,cU.cn,cU.hc,⟨_,_,rfl,Gm (e5.go g2 a7),A8 bu⟩,h,λaq v H' g d bT c9=>q aq v H' ((g1.trans g2).trans g) (cU.go g d) bT (c9.back (g1.trans g2).same)⟩
  .cases h
 .cases h
def af7{pl:Sem Bool}(h:d0 X.prog X.w X.K X.mg X.base c m ps k (b3 X.K X.mg rO))(aB:cK k X.A)(he:a' X o mo)(ar:gK X (e::ay) pm)
  (f3:ajG (e::ay) X.env=(false,eval e X.env)::ajG ay X.env:=by rfl) (fm:(aj9 pos (ajG ay X.env)).any (·.1)=false:=by rfl)
  (bO:eval (.Call (.Attribute o m apos) (e::ay) [] pos) X.env=(do
   let ep <-eval o X.env
   al5 apos.atName
   let(f,first) <-alq [ep] (alC ep m pl)
   amg pos f first (aj9 pos (ajG (e::ay) X.env)) (alp pos (akU [] X.env))):=by rfl):a' X (.Call (.Attribute o m apos) (e::ay) [] pos) (jq c m rO mo pm):=
 ⟨eI (MF h aB r5 he.un ar.un f3 fm bO) L0⟩
def af8{pl:Sem Bool}(h:d0 X.prog X.w X.K X.mg X.base c m ps k (b3 X.K X.mg rO))(aB:cK k X.A)(he:a' X o mo)
  (bO:eval (.Call (.Attribute o m apos) [] [] pos) X.env=(do
   let ep <-eval o X.env
   al5 apos.atName
   let(f,first) <-alq [ep] (alC ep m pl)
   amg pos f first (aj9 pos (ajG [] X.env)) (alp pos (akU [] X.env))):=by rfl):a' X (.Call (.Attribute o m apos) [] [] pos) (jq c m rO mo aj):=
 ⟨eI (MG h aB r5 he.un bO) λav H Q a9=>r5 _ _ _ _ (λv H1 z=>by
  obtain⟨a,C,b7,aW,ao,az,cG,fg,O,Y,S,rs,S1,st,ae,q⟩:=z;cases ae;exact⟨a,C,b7,aW,ao,az,cG,fg,q O [] H1 (Go.refl _ _) st rfl trivial⟩) (L0 _ _ _ a9)⟩
def D8:∀av H Q,Ax K mg (fD c m mf mo ms) av H Q->Ae mg c m (dU K mg mf) (fB K mg mo) (Aw K mg ms) av H Q:=by
 rintro av H Q ⟨O,Y,S,r,ai,st,h,q⟩;obtain⟨x,S1,ae,h0⟩:=N.inv h;clear h;obtain rfl:=(mo Y).eB _ _ _ ae;refine⟨O,Y,S1,x,S1,st.s3,ae,λaO gh H1 g1 aV a7 bh=>?_⟩;have aeN:=st.go g1 aV.cn;obtain⟨bD,bc,ah,h⟩:=N.inv h0;clear h0;obtain⟨n,a,rfl,rfl,bt,acU,hs⟩:=tF aV a7 ah;obtain rfl:=(gu (.v (.ref n))).eB _ _ _ ah;split at h
 .rename_i c' aW
  split at h
  .rename_i aI
   obtain⟨rfl,hm⟩:=aI;obtain⟨rs,ik,bF,h⟩:=N.inv h;obtain⟨C,b7,jZ,d5,ci,iB⟩:=hs;split at h
   .rename_i f3
    refine⟨a,C,b7,jZ,rfl,ci.1,d5,iB.DX hm,aO,Y,_,rs,ik,aeN,bF,λbr vs aM g2 cU bu nn=>?_⟩;have Jb:=g1.d1.trans g2;exact⟨br,.ref n::rs.map R.arg,r,ik,ai,cU.s3.cn,cU.s3.hc,cU.full,⟨_,_,rfl,Rep.d1 g2 aV.cn.cp a7,xO cU.s3.cn.cp f3 bu⟩,h,λaq v H' g d e' ba bT c9=>q aq v H' (Jb.trans g) (cU.d1 g d e' ba) bT (c9.d1 Jb)⟩
   .cases h
  .cases h
 .cases h
def ag0{pl:Sem Bool}(h:d0 X.prog X.w X.K X.mg X.base c m ps k (dU X.K X.mg mf))(aB:cK k X.A)(he:a' X o mo)(ar:l' X (e::ay) ms)
  (f3:ajG (e::ay) X.env=(false,eval e X.env)::ajG ay X.env:=by rfl) (fm:(aj9 pos (ajG ay X.env)).any (·.1)=false:=by rfl)
  (bO:eval (.Call (.Attribute o m apos) (e::ay) [] pos) X.env=(do
   let ep <-eval o X.env
   al5 apos.atName
   let(f,first) <-alq [ep] (alC ep m pl)
   amg pos f first (aj9 pos (ajG (e::ay) X.env)) (alp pos (akU [] X.env))):=by rfl):fv X (.Call (.Attribute o m apos) (e::ay) [] pos) (fD c m mf mo ms):=
 ⟨eI (MF h aB r5 he.un ar.un f3 fm bO) D8⟩
def ag1{pl:Sem Bool}(h:d0 X.prog X.w X.K X.mg X.base c m ps k (dU X.K X.mg mf))(aB:cK k X.A)(he:a' X o mo)
  (bO:eval (.Call (.Attribute o m apos) [] [] pos) X.env=(do
   let ep <-eval o X.env
   al5 apos.atName
   let(f,first) <-alq [ep] (alC ep m pl)
   amg pos f first (aj9 pos (ajG [] X.env)) (alp pos (akU [] X.env))):=by rfl):fv X (.Call (.Attribute o m apos) [] [] pos) (fD c m mf mo m4):=
 ⟨eI (MG h aB r5 he.un bO) λav H Q a9=>r5 _ _ _ _ (λv H1 z=>by
  obtain⟨a,C,b7,aW,ao,az,cG,fg,O,Y,S,rs,S1,st,ae,q⟩:=z;cases ae;exact⟨a,C,b7,aW,ao,az,cG,fg,q O [] H1 (Go.refl _ _).d1 st rfl trivial⟩) (D8 _ _ _ a9)⟩
theorem agZ{aW:List Str}{p:Pos}(T:pE X.K X.mg c aW)(h:d0 X.prog X.w X.K X.mg X.base c "__init__" ps k (dU X.K X.mg mf))(aB:cK (k+1) X.A)(aU:eU X c)(ar:l' X (e::ay) ms)(e7:(c==("__debug__":Str))=false:=by decide)
  (he:ajG (e::ay) X.env=(false,eval e X.env)::ajG ay X.env:=by rfl) (fm:(aj9 pos (ajG ay X.env)).any (·.1)=false:=by rfl):fv X (.Call (.Name c p) (e::ay) [] pos) (xg c mf ms):=by
 obtain⟨C,f,fd,gN,cl,me,F,b⟩:=h.ex;obtain⟨ll,mO,_,⟨mk,kp⟩,_⟩:=T.ex;rw[gN]at mO;cases mO;refine⟨eI (abY (dvs:=[]) (ds:=[]) ⟨mk,me.at_,me.fn,kp⟩ F aB aU gN b .nil rM ar.un e7 he fm) λav H Q aX=>?_⟩;obtain⟨O,Y,S,r,ai,st,h,q⟩:=aX;obtain⟨rs,S1,ae,h0⟩:=N.inv h;clear h;refine⟨O,Y,S,rs,S1,st,ae,λaO vs H1 g1 aV bu nn a b7 ar XU aaw=>?_⟩;split at h0
 .rename_i f3
  obtain⟨Qn,bc,ah,af⟩:=N.inv h0;clear h0;cases ah;obtain⟨_,ik,bF,aI⟩:=N.inv af;clear af;cases bF;obtain⟨cx,pP,dw,h⟩:=N.inv aI;clear aI;have hu:eN H1 (upd (upd H1 b7 (.own a)) a (.ins C b7 [])):=(rV XU _).trans (rV (by rw[dm (amA aaw)];exact ar) _);obtain⟨g2,dh,w2,I2⟩:=alloc (o:=.bD c []) aV.s3.cn aV.s3.hc aV.full ar hu (by rw[dG];intro z;cases z) λ_=>⟨C,b7,[],dG,⟨gN,cl⟩,rfl,rfl⟩
  rw[akG];have C_:(hK aO a).bM[S1.length]? = some a:=by show(aO.bM++[a])[S1.length]? = _;rw[<-aV.full,aj3 (ajK _),alD];rfl
  have uZ:=g1.trans g2;refine⟨hK aO a,.ref S1.length::rs.map R.arg,cx,_,pP,dh,w2,I2,⟨_,_,rfl,⟨a,rfl,C_⟩,?_⟩,dw,λaq v H' g d e' ba bT c9=>?_⟩
  .exact xO dh.cp f3 (gx.d1 g2 aV.s3.cn.cp f3 bu)
  .split at h
   .cases h
    refine⟨bT,q aq _ H' (uZ.trans g) ((aV.d1 g2 dh w2 I2).d1 g d e' ba) ⟨a,rfl,?_⟩ trivial⟩;obtain⟨t,e⟩:=g.bM;rw[<-e,aj8 (ajJ.mp C_).1];exact C_
   .cases h
 .cases h0
end
end a0
namespace a0
open PySem PySem.Spec aF PyProof.Rows
@[reducible] def yZ:aoE where
 α:=Int
 blt a b:=decide (a<b)
 irrefl a:=by simp
 trans a b c ae ah:=by simp only[decide_eq_true_eq]at *;omega
 negTrans a b c h:=by simp only[decide_eq_true_eq]at *;omega
 total a b ae ah:=by simp only[decide_eq_false_iff_not]at *;omega
 keyOf v:=match v with|.int i _=>some i|_=>none
 dflt:=0
def YQ:yZ.OneLt:=by
 intro prog w A E s x y a b Q ar af h;cases x<;>simp only[yZ,reduceCtorEq,aoO]at ar
 cases y<;>simp only[yZ,reduceCtorEq,aoO]at af
 cases ar;cases af;exact oneLt_int h
structure f_ where
 κ:aoE
 kd:κ.α->D
 un:D->Option κ.α
structure f_.Ok(Z:f_):Prop where
 one:Z.κ.OneLt
 r4:∀d a,Z.un d=some a->d=Z.kd a
 key:∀(a:Z.κ.α)(K:aS)(mg:bq)(O:a5)(H:aw)(v:V)(u:Value),Rep K mg O H (Z.kd a) v->RelV v u->Z.κ.keyOf u=some a
 kind:∀(qG qH:Value)(vs:List Value),(∀v∈qG::qH::vs,∃a,Z.κ.keyOf v=some a)->keyKind' (qG::qH::vs).toArray=pure oneType'
@[reducible] def f6:f_ where
 κ:=yZ
 kd:=D.int
 un d:=match d with|.int i=>some i|_=>none
@[reducible] def iz:f_ where
 κ:=aoF
 kd:=λl=>D.str ⟨l.toArray⟩
 un d:=match d with|.str x=>some x.cps.toList|_=>none
def K1:f6.Ok where
 one:=YQ
 r4:=λd a h=>by cases d<;>first|(cases h;rfl)|cases h
 key:=λa K mg O H v u h r=>by
  cases(show v=.int a from h);obtain⟨t,rfl⟩:=r;rfl
 kind:=λqG qH vs h=>by
  refine keyKind_ints (ns:=(qG::qH::vs).map numOf) (intsAre_map _ λv bL=>?_);obtain⟨a,ar⟩:=h v bL;cases v<;>first|(cases ar;exact⟨_,_,rfl⟩)|cases ar
def K2:iz.Ok where
 one:=strKind_oneLt
 r4:=λd a h=>by cases d<;>first|(cases h;rfl)|cases h
 key:=λa K mg O H v u h r=>by
  cases(show v=.str ⟨a.toArray⟩from h);obtain⟨t,rfl⟩:=r;rfl
 kind:=λqG qH vs h=>by
  have key:∀(l:List Value),(∀v∈l,∃a,aoF.keyOf v=some a)->∃ss,StrsAre l ss:=λl=>by
   induction l with
   |nil=>exact λ_=>⟨[],.nil⟩
   |cons v l a6=>
    intro h;obtain⟨ss,aE⟩:=a6 λw hw=>h w (ajM _ hw)
    obtain⟨a,ar⟩:=h v ajR;cases v<;>first|exact⟨_::ss,.cons _ _ aE⟩|cases ar
  obtain⟨ss,aE⟩:=key _ h;exact keyKind_strs aE
section
variable{β:Type}
def sX(blt:β->β->Bool)(p:β×D):List (β×D)->List (β×D)
 |[]=>[p]
 |q::r=>if blt q.1 p.1 then q::sX blt p r else p::q::r
def hP(blt:β->β->Bool):List (β×D)->List (β×D)
 |[]=>[]
 |p::r=>sX blt p (hP blt r)
theorem Dl(blt:β->β->Bool)(p:β×D):∀l,(sX blt p l).Perm (p::l)
 |[]=>.refl _|q::r=>by
  unfold sX;split
  .exact((Dl blt p r).cons q).trans (.swap p q r)
  .exact .refl _
theorem z6(blt:β->β->Bool):∀l,(hP blt l).Perm l
 |[]=>.refl _|p::r=>(Dl blt p _).trans ((z6 blt r).cons p)
end
theorem Km(O:alg)(p:O.α×D):∀l:List (O.α×D),l.Pairwise (λa b=>O.blt a.1 b.1=true)->(∀q∈l,q.1≠p.1)->(sX O.blt p l).Pairwise (λa b=>O.blt a.1 b.1=true)
 |[],_,_=>List.pairwise_singleton _ _|q::r,h,aH=>by
  rw[alE]at h;unfold sX
  cases e:O.blt q.1 p.1 with
  |true=>
   rw[if_pos rfl,alE];refine⟨λx ag=>?_,Km O p r h.2 λx ag=>aH x (ajM _ ag)⟩;rcases ajN.mp ((Dl O.blt p r).mem_iff.mp ag)with rfl|ag
   .exact e
   .exact h.1 x ag
  |false=>
   rw[if_neg ajO,alE,alE];have J9:O.blt p.1 q.1=true:=by
    cases az:O.blt p.1 q.1 with
    |true=>rfl|false=>exact absurd (O.total _ _ e az) (aH q ajR)
   refine⟨λx ag=>?_,h.1,h.2⟩;rcases ajN.mp ag with rfl|ag
   .exact J9
   .exact O.trans _ _ _ J9 (h.1 x ag)
theorem E'(O:alg):∀l:List (O.α×D),(l.map (·.1)).Nodup->(hP O.blt l).Pairwise (λa b=>O.blt a.1 b.1=true)
 |[],_=>.nil|p::r,h=>by
  rw[ajP,akD]at h;refine Km O p _ (E' O r h.2) λq a9 e=>h.1 ?_
  rw[<-e];exact al2 ((z6 O.blt r).mem_iff.mp a9)
theorem Ni{FV:Type}{lt:FV->FV->Prop}(Kq:∀a,¬lt a a)(k_:∀a b c,lt a b->lt b c->lt a c):∀{qm l₂:List FV},qm.Perm l₂->qm.Pairwise lt->l₂.Pairwise lt->qm=l₂
 |[],l₂,p,_,_=>(List.nil_perm.mp p).symm|a::qm,[],p,_,_=>(List.nil_perm.mp p.symm)
 |a::qm,b::l₂,p,ae,ah=>by
  rw[alE]at ae ah;have e:a=b:=by
   rcases ajN.mp (p.mem_iff.mp ajR)with h|h
   .exact h
   .rcases ajN.mp (p.mem_iff.mpr ajR)with h'|h'
    .exact h'.symm
    .exact(Kq _ (k_ _ _ _ (ae.1 b h') (ah.1 a h))).elim
  subst e;rw[Ni Kq k_ (List.Perm.cons_inv p) ae.2 ah.2]
def Fc(O:alg){l ps:List (O.α×D)}(aH:(l.map (·.1)).Nodup)(aK:ps.Perm l)(aE:ps.Pairwise (λa b=>O.blt a.1 b.1=true)):ps=hP O.blt l:=
 Ni (lt:=λa b=>O.blt a.1 b.1=true) (λa=>by rw[O.irrefl];exact ajO) (λa b c=>O.trans _ _ _) (aK.trans (z6 O.blt l).symm) aE (E' O l aH)
def aeM(O:alg){ps:List (O.α×D)}(aH:(ps.map (·.1)).Nodup)(h:ps.Pairwise (λa b=>O.blt b.1 a.1=false)):ps.Pairwise (λa b=>O.blt a.1 b.1=true):=by
 induction ps with
 |nil=>exact .nil|cons p r a6=>
  rw[ajP,akD]at aH;rw[alE]at h ⊢;refine⟨λq a9=>?_,a6 aH.2 h.2⟩
  cases e:O.blt p.1 q.1 with
  |true=>rfl| false=>exact absurd (al2 (f:=λx:O.α×D=>x.1) a9) (by rw[<-O.total _ _ e (h.1 q a9)];exact aH.1)
end a0
namespace a0
open PySem PySem.Spec aF PyProof.Rows
variable[aF.a8]
def oo(X:aT)(k:Nat)(f:Addr)(G:aw->Prop)(mf:bJ):Prop:=
 (∀H H',eN H H'->G H->G H')/\(∀H p zs o,H p=some (.lst zs)->G H->G (upd H p o))/\∀(A:aj4)(s:ajH)(H:aw)(u:Value)(v:V)(Q:df),cK k A->lr X.prog X.w X.K X.mg X.base A X.stack s H->G H->RelV v u->b3 X.K X.mg mf [v] H Q jj->
  amn (model X.prog X.w) A (.call (.ref f) ⟨[u],[]⟩) (F0 eT X.stack X.prog X.w H s Q jj) s
def lstP(a:Addr)(e:Nat):Heap->Prop:=λh=>h.get? a=some (akk "list" #[] e)
structure qQ(X:aT)(zn:c8)(Y:aF.St)(G:aw->Prop)(O:a5)(H:aw)(a dV:Addr)(ao:Nat)(bj:List D)(aQ:ajH):Prop where
 ex:∃aq H' ys,Inv X zn Y H' aQ/\Go O aq H H'/\da aq H'/\G H'/\H' a=some (.ext (lstP a ao))/\H' dV=some (.lst ys)/\bb X.K X.mg aq H' bj ys/\aq dV=.dF
 na:a∉O.bM
section
variable{X:aT}{zn:c8}{Y:aF.St}{H:aw}{s:ajH}{G:aw->Prop}{mf:bJ}{f a dV:Addr}{k:Nat}{O:a5}{ao:Nat}
def Z2{h:Heap}(e:h.get? a=some (akk "list" #[] ao)):gU prog w H h a (.ext (lstP a ao)):=
 ⟨e,⟨_,e⟩,λae ah p q=>q _ p⟩
def IW{H':aw}(J:Inv X zn Y H' aQ)(ar:H' a=some (.ext (lstP a ao)))(q:Str):H' a≠some (.ext (qZ a q)):=λz=>by
 obtain⟨p,_⟩:=J.bP a _ ar;obtain⟨dB,_⟩:=J.bP a _ z;obtain⟨c,o,vs,t,ao,az,cG,_⟩:=dB;cases ao;have p:aQ.heap.get? a=_:=p;rw[p]at az;cases az;cases cG
def Zu{bj:List D}{v:V}(fT:oo X k f G mf)(aB:cK k X.A.in1.in1)(mA:H a=none)(mC:H dV=none)(oC:dV≠a)(a4:Rep X.K X.mg O H d v)(eg:RelV v u)(hd:(mf [d]).run []=.ok (.v jw) [])(sT:bj.length<64)(S:qQ X zn Y G O H a dV ao bj aQ) :
  wpAny (model X.prog X.w) X.A.in1.in1 (call (.ref f) [u]) (λu' s2=>∃(aq:a5)(H':aw)(ys:List V)(fN:V),Inv X zn Y H' s2/\Go O aq H H'/\da aq H'/\G H'/\H' a=some (.ext (lstP a ao))/\H' dV=some (.lst ys)/\bb X.K X.mg aq H' bj ys/\Rep X.K X.mg aq H' jw fN/\RelV fN u'/\aq dV=.dF) (λ_ _=>False) aQ:=by
 obtain⟨aO,H1,ys,a_,g1,gB,pH,ar,ax,bt,pa⟩:=S.ex;refine wpAny_call (alV (fT.2.2 X.A.in1.in1 aQ H1 u v (λfN H'=>∃aq,Go aO aq H1 H'/\da aq H'/\Rep X.K X.mg aq H' jw fN) aB a_.uN.in1.in1 pH eg ?_) λr s2 a9=>?_)
 .refine⟨aO,[d],.v jw,[],gB,gz.nil,⟨v,[],rfl,?_,rfl⟩,hd,λaq fN H' g cT bu _=>⟨aq,g,cT,bu⟩⟩
  have EX:=a4.go g1;cases d<;>first|exact EX|exact akl EX|skip
  obtain⟨x,zs,q,l,r⟩:=EX;exact⟨x,zs,q,l.dP,r⟩
 .cases r with
  |error e=>exact akl a9|ok ba=>
   cases ba with
   |ret u'=>
    obtain⟨fN,aM,bX,bR,br,g2,dh,cx⟩:=a_.after a9;exact⟨br,aM,ys,fN,bX,g1.trans g2,dh,fT.1 _ _ g2.same pH,g2.same.at' _ _ ar,g2.same.at' _ _ ax,bt.go g2,cx,bR,(g2.own dV (by rw[ax];intro z;cases z)).trans pa⟩
   |next=>exact akl a9
   |brk=>exact akl a9|cont=>exact akl a9
def aeD{Z:f_}(kl:Z.Ok){ds:List D}{c3:List Z.κ.α}{xs:List V}{us:List Value}{P:Fin->ajH->Prop}{E:cN}(fT:oo X k f G mf)(aB:cK k X.A.in1.in1)(mA:H a=none)(mC:H dV=none)(oC:dV≠a)
  (bt:bb X.K X.mg O H ds xs) (bR:Vals xs us) (sT:∀(i:Nat)(d:D),ds[i]? = some d->∃κ,c3[i]? = some κ/\(mf [d]).run []=.ok (.v (Z.kd κ)) []) (hlen:c3.length=ds.length) (ju:ds.length<64) (S:qQ X zn Y G O H a dV ao [] s)
  (fin:∀(aQ:ajH)(keys:Array Value),qQ X zn Y G O H a dV ao (c3.map Z.kd) aQ->keys.toList.map Z.κ.keyOf=c3.map some->wpAny (model X.prog X.w) X.A.in1.in1 (ksk_end a false us.toArray ao (.ref dV) keys) P E aQ) :
  wpAny (model X.prog X.w) X.A.in1.in1 (ksk_rest a (.ref f) false us.toArray ao (.ref dV)) P E s:=by
 have Z5:=bt.len;have vH:=bR.length;unfold ksk_rest;refine ajD (anf ?_)
 first
  |rw[List.forIn_toArray]
  |(rw[<-Array.forIn_toList];simp only[List.toList_toArray])
  |rw[<-Array.forIn_toList]
 refine ajD (ksk_fold (λi aQ=>qQ X zn Y G O H a dV ao ((c3.take i).map Z.kd) aQ) us 0 s (by rw[anq];exact S) ?step ?done)
 case step=>
  intro j u aQ cC ai;simp only[aod]at ai ⊢;have aZ:j<us.length:=(ajJ.mp cC).1;obtain⟨v,bL,eg⟩:∃v,xs[j]? = some v/\RelV v u:=by
   have bL:xs[j]? = some xs[j]:=akr (by omega);obtain⟨u',sV,r⟩:=bR.get bL;rw[cC]at sV;cases sV;exact⟨_,bL,r⟩
  obtain⟨d,hd,a4⟩:=bt.Jk bL;obtain⟨κ,YE,hm⟩:=sT j d hd;have hz:((c3.take j).map Z.kd).length<64:=by rw[ajE,amv];omega
  refine ajD (wpAny_attempt (akm (Zu fT aB mA mC oC a4 eg hm hz ai) (λu' s2 he=>?_) λ_ _ dy=>dy.elim));obtain⟨br,aM,ys,fN,bX,g2,dh,AO,nH,kZ,tQ,acT,E4,qv⟩:=he
  try dsimp only
  obtain⟨hsz,its,n,vals,g4⟩:=bX.bP dV _ kZ;have Yb:its.length=(c3.take j).length:=by rw[<-vals.length,tQ.len,ajE]
  have ai1:its.length<64:=by rw[Yb,amv];omega
  have s1:=akX s2.heap dV (akh (·.push u'));obtain⟨ab,h2⟩:∃ab,(s2.heap.update dV (akh (·.push u'))).get? dV=some (akk "list" (its.toArray.push u') ab):=⟨_,alL g4 (·.push u')⟩;refine ajD (al6 g4 rfl ?_ (by rw[ajT,ake];omega) (akT (ali (Array.size_push ..)) (by rw[ajT,ake];omega)));refine ajI ⟨rfl,⟨⟨br,upd aM dV (.lst (ys++[fN])),ys++[fN],?_,⟨pq mC g2.same kZ _,g2.own,g2.bM⟩,dh.es kZ,fT.2.1 _ _ _ _ kZ AO,by rw[dm oC.symm];exact nH,dG,?_,qv⟩,ai.na⟩⟩
  .refine bX.write (x:=dV) (e:=dV) (t':=s2.toks) (by rw[kZ];trivial) (.inl rfl) (λb o af e=>(s1.2 b af).trans e) ⟨_,h2⟩ ⟨?_,its++[u'],ab,vals.append (.cons E4 .nil),?_⟩
   .rw[ajQ,vals.length];rw[ake];simp;omega
   .rw[h2];simp[akk]
  .have gp:c3.take (j+1)=c3.take j++[κ]:=by rw[anV,YE];rfl
   rw[gp,akw];exact(tQ.append (.one acT)).es (by rw[qv];intro z;cases z) kZ
 case done=>
  intro aQ ai;have cG:c3.take (0+us.length)=c3:=aow (by omega);rw[cG]at ai;obtain⟨br,aM,ys,bX,g2,dh,AO,nH,kZ,tQ,qv⟩:=id ai.ex;obtain⟨hsz,its,n,vals,g4⟩:=bX.bP dV _ kZ;refine ajD (listItems_at g4 rfl ?_);refine fin aQ its.toArray ai ?_;have key:∀(c3:List Z.κ.α)(ys:List V)(its:List Value),bb X.K X.mg br aM (c3.map Z.kd) ys->Vals ys its->its.map Z.κ.keyOf=c3.map some:=by
   intro c3
   induction c3 with
   |nil=>intro ys its h r;cases h;cases r;rfl
   |cons κ c3 a6=>
    intro ys its h r;obtain⟨y,t,rfl,ae,ah⟩:=h
    cases r with
    |cons bG cx=>
     rw[ajP,ajP,a6 _ _ ah cx,kl.key κ _ _ _ _ _ _ ae bG]
  exact key _ _ _ tQ vals
end
end a0
namespace a0
open PySem PySem.Spec aF PyProof.Rows
def ab5{α β:Type}(f:α->β):∀{L M:List β},L.Perm M->∀{Q:List α},M=Q.map f->∃f':List α,f'.Perm Q/\L=f'.map f:=by
 intro L M h
 induction h with
 |nil=>
  intro Q e
  cases Q with
  |nil=>exact⟨[],.refl _,rfl⟩|cons q Q=>cases e
 |cons x _ a6=>
  intro Q e
  cases Q with
  |nil=>cases e
  |cons q Q=>
   rw[ajP]at e;injection e with ao az
   obtain⟨f',p,cG⟩:=a6 az;exact⟨q::f',p.cons q,by rw[ao,cG];rfl⟩
 |swap x y l=>
  intro Q e
  cases Q with
  |nil=>cases e
  |cons q Q=>
   cases Q with
   |nil=>rw[ajP]at e;injection e with _ az;cases az
   |cons r Q=>
    rw[ajP,ajP]at e;injection e with ao az
    injection az with az cG
    exact⟨r::q::Q,.swap _ _ _,by rw[ao,az,cG];rfl⟩
 |trans _ _ vp vq=>
  intro Q e;obtain⟨ahQ,p1,ao⟩:=vq e;obtain⟨AX,dB,az⟩:=vp ao;exact⟨AX,dB.trans p1,az⟩
variable[aF.a8]
abbrev xD(Z:f_):=(Value×Value)×(Z.κ.α×(D×V))
section
variable{K:aS}{mg:bq}{O:a5}{H:aw}{Z:f_}
def acL{ds:List D}:∀{xs:List V}{us keys:List Value}{c3:List Z.κ.α},bb K mg O H ds xs->Vals xs us->keys.map Z.κ.keyOf=c3.map some->c3.length=ds.length->
  ∃Q:List (xD Z),Q.map (·.1)=keys.zip us/\Q.map (λq=>(q.2.1,q.2.2.1))=c3.zip ds/\∀q∈Q,Z.κ.keyOf q.1.1=some q.2.1/\Rep K mg O H q.2.2.1 q.2.2.2/\RelV q.2.2.2 q.1.2:=by
 induction ds with
 |nil=>
  intro xs us keys c3 h r e l;cases h;cases r;rw[aon.mp l]at e ⊢;have:keys=[]:=by cases keys with|nil=>rfl|cons=>cases e
  subst this;exact⟨[],rfl,rfl,λ_ h=>(nomatch h)⟩
 |cons d ds a6=>
  intro xs us keys c3 h r e l;obtain⟨x,t,rfl,ae,ah⟩:=h
  cases r with
  |@cons _ u _ us bG cx=>
   cases c3 with
   |nil=>cases l
   |cons κ c3=>
    cases keys with
    |nil=>cases e
    |cons kv keys=>
     rw[ajP,ajP]at e;injection e with ao az
     obtain⟨Q,bz,cf,h8⟩:=a6 ah cx az (by simpa using l);refine⟨((kv,u),(κ,(d,x)))::Q,?_,?_,λq a9=>?_⟩
     .rw[ajP,bz];rfl
     .rw[ajP,cf];rfl
     .rcases ajN.mp a9 with rfl|a9
      .exact⟨ao,ae,bG⟩
      .exact h8 q a9
theorem Na{α:Type}(f:α->D)(g:α->V):∀l:List α,(∀q∈l,Rep K mg O H (f q) (g q))->bb K mg O H (l.map f) (l.map g)
 |[],_=>rfl|q::l,h=>⟨_,_,rfl,h q ajR,Na f g l λx ag=>h x (ajM _ ag)⟩
omit [aF.a8]in
theorem PB{α:Type}(f:α->V)(g:α->Value):∀l:List α,(∀q∈l,RelV (f q) (g q))->Vals (l.map f) (l.map g)
 |[],_=>.nil|q::l,h=>.cons (h q ajR) (PB f g l λx ag=>h x (ajM _ ag))
def sorted_out{ds:List D}{xs:List V}{us:List Value}{keys:Array Value}{c3:List Z.κ.α}(bt:bb K mg O H ds xs)(bR:Vals xs us)(ax:keys.toList.map Z.κ.keyOf=c3.map some)(au:c3.length=ds.length)(aH:c3.Nodup)
  {ff:Array Keyed}(aK:ff.Perm (keys.zip us.toArray)) (aE:SortedToK Z.κ ff ff.size) :
  ∃ys,Vals ys (ff.map (·.2)).toList/\ys.length=ds.length/\bb K mg O H ((hP Z.κ.blt (c3.zip ds)).map (·.2)) ys:=by
 obtain⟨Q,bz,cf,h8⟩:=acL bt bR ax au;have Yu:ff.toList.Perm (Q.map (·.1)):=by
  rw[bz,<-ksk_zip];exact Array.perm_iff_toList_perm.mp aK
 obtain⟨f',qw,cF⟩:=ab5 (λq:xD Z=>q.1) Yu rfl;have ER:∀q∈f',Z.κ.keyOf q.1.1=some q.2.1/\Rep K mg O H q.2.2.1 q.2.2.2/\RelV q.2.2.2 q.1.2:=λq a9=>h8 q (qw.mem_iff.mp a9)
 have AE:(c3.zip ds).map (·.1)=c3:=by rw[am2];omega
 have perm:(f'.map λq=>(q.2.1,q.2.2.1)).Perm (c3.zip ds):=by rw[<-cf];exact qw.map _
 have dZ:((f'.map λq:xD Z=>(q.2.1,q.2.2.1)).map (·.1)).Nodup:=by
  have:=perm.map (λp:Z.κ.α×D=>p.1);rw[AE]at this;exact this.nodup_iff.mpr aH
 have Fe:(f'.map λq:xD Z=>(q.2.1,q.2.2.1)).Pairwise (λa b=>Z.κ.blt b.1 a.1=false):=by
  rw[anW,an1];intro i j aD aZ rm;have Ld:ff.toList.length=f'.length:=by rw[cF,ajE]
  have lL:i<ff.size:=by rw[akz]at Ld;omega
  have JZ:j<ff.size:=by rw[akz]at Ld;omega
  have:=aE i j (ak0 rm) JZ;have at':∀(m:Nat)(hm:m<f'.length)(C3:m<ff.size),KK Z.κ ff m=f'[m].2.1:=λm hm C3=>by
   have ao:ff[m]? = some f'[m].1:=by
    have:ff.toList[m]? = some f'[m].1:=by rw[cF,akc,akr hm];rfl
    rwa[aoB]at this
   unfold KK;rw[ao];show(Z.κ.keyOf f'[m].1.1).getD Z.κ.dflt=_;rw[(ER _ (List.getElem_mem hm)).1];rfl
  rw[at' i aD lL,at' j aZ JZ]at this;exact this
 have one:=Fc Z.κ.toKeyOrd (by rw[AE];exact aH) perm (aeM Z.κ.toKeyOrd dZ Fe);refine⟨f'.map λq=>q.2.2.2,?_,?_,?_⟩
 .have:(ff.map (·.2)).toList=f'.map λq=>q.1.2:=by
   rw[Array.toList_map,cF,alF];rfl
  rw[this];exact PB _ _ _ λq a9=>(ER q a9).2.2
 .rw[ajE,qw.length_eq]
  have:=congrArg ak6 cf;rw[ajE,ang,au,Nat.min_self]at this;exact this
 .rw[<-one,alF]
  exact Na _ _ _ λq a9=>(ER q a9).2.1
end
section
variable{X:aT}{zn:c8}{Y:aF.St}{H:aw}{s:ajH}{G:aw->Prop}{a dV:Addr}{O:a5}{ao:Nat}{Z:f_}{ds:List D}{c3:List Z.κ.α}{xs:List V}{us:List Value}{E:cN}{keys:Array Value}
def A0(X:aT)(zn:c8)(Y:aF.St)(O:a5)(H:aw)(a:Addr)(out:List D)(aQ:ajH):Prop:=
 ∃aq H' ys,Inv X zn Y H' aQ/\Go O aq H H'/\da aq H'/\H' a=some (.lst ys)/\aq a=.dF/\bb X.K X.mg aq H' out ys
def OP{A:aj4}{st:SortSt}(mA:H a=none)(mC:H dV=none)(oC:dV≠a)(bt:bb X.K X.mg O H ds xs)(bR:Vals xs us)(ax:keys.toList.map Z.κ.keyOf=c3.map some)(au:c3.length=ds.length)(aH:c3.Nodup)(ju:ds.length<64)
  (S:qQ X zn Y G O H a dV ao (c3.map Z.kd) s) (aK:(arrOf st).Perm (keys.zip us.toArray)) (aE:SortedToK Z.κ (arrOf st) (arrOf st).size) (X6:failedOf st=none) :
  wpAny (model X.prog X.w) A (ksk_tail a false ao (.ref dV) st) (λr aQ=>r=.done (.ret .none)/\A0 X zn Y O H a ((hP Z.κ.blt (c3.zip ds)).map (·.2)) aQ) E s:=by
 obtain⟨br,aM,ajC,bX,g2,dh,AO,nH,kZ,tQ,qv⟩:=S.ex;obtain⟨_,its,n,vals,g4⟩:=bX.bP dV _ kZ;have X9:s.heap.get? a=some (akk "list" #[] ao):=(bX.bP a _ nH).1;obtain⟨zs,AJ,AE,ua⟩:=sorted_out bt bR ax au aH aK aE;have hsz:(arrOf st).size=ds.length:=by
  have ae:=AJ.length;have ah:((arrOf st).map (·.2)).toList.length=(arrOf st).size:=by rw[akz,Array.size_map]
  omega
 have ai9:its.length=ds.length:=by rw[<-vals.length,tQ.len,ajE,au]
 have s1:=akX s.heap dV (akh λ_=>(#[]:Array Value));obtain⟨bQ,JN⟩:∃bQ,(s.heap.update dV (akh λ_=>(#[]:Array Value))).get? dV=some (akk "list" #[] bQ):=⟨_,alL g4 λ_=>#[]⟩;have D9:(s.heap.update dV (akh λ_=>(#[]:Array Value))).get? a=some (akk "list" #[] ao):=(s1.2 a oC.symm).trans X9;have dN:Inv X zn Y (upd aM dV (.lst [])) { s with heap:=s.heap.update dV (akh λ_=>(#[]:Array Value)) }:=
  bX.write (x:=dV) (e:=dV) (t':=s.toks) (by rw[kZ];trivial) (.inl rfl) (λb o af e=>(s1.2 b af).trans e) ⟨_,JN⟩ ⟨aj5 _,[],bQ,.nil,JN⟩
 have s2:=akX (s.heap.update dV (akh λ_=>(#[]:Array Value))) a (akh λ_=>(arrOf st).map (·.2));obtain⟨ab,h2⟩:∃ab,((s.heap.update dV (akh λ_=>(#[]:Array Value))).update a (akh λ_=>(arrOf st).map (·.2))).get? a=some (akk "list" ((arrOf st).map (·.2)) ab):=⟨_,alL D9 λ_=>(arrOf st).map (·.2)⟩;have rh:upd aM dV (.lst []) a=some (.ext (lstP a ao)):=by rw[dm oC.symm];exact nH
 unfold ksk_tail
 try dsimp only
 simp only[amb,if_false];refine ajD (al6 g4 rfl ?_ (by rw[ajT,ake];omega) (aj5 _));refine ajD (alj ?_);refine ajD (anu D9 rfl ?_);refine ajD (al6 D9 rfl ?_ (aj5 _) (akT (ali (Array.size_map ..)) (by rw[hsz,ake];omega)));rw[X6];simp only[bne_self_eq_false,amb,if_false];have same:eN H (upd (upd aM dV (.lst [])) a (.lst zs)):=by
  have l0:=pq mC g2.same kZ (.lst []);refine⟨λb o e n=>by rw[dm (kx e mA)];exact l0.at' b o e n,λb ps e=>by rw[dm (kx e mA)];exact l0.c6 b ps e,λg=>?_⟩;exact(l0.bV g).put _ (λps=>by rw[rh];intro z;cases z) (IW dN rh)
 have go:Go O (f9 br a .dF) H (upd (upd aM dV (.lst [])) a (.lst zs)):=⟨same,λb af=>by
  rw[pn (by rintro rfl;exact af mA)];exact g2.own b af,g2.bM⟩
 refine ajI ⟨rfl,f9 br a .dF,_,zs,?_,go,⟨λb af=>?_,?_,dh.cp.1,λb m=>by rw[pn (by rintro rfl;exact S.na (g2.bM▸m))];exact dh.cp.2 b m⟩,dG,ob,ua.go go⟩
 .refine dN.write (x:=a) (e:=a) (t':=s.toks) (by rw[rh];trivial) (.inl rfl) (λb o af e=>(s2.2 b af).trans e) ⟨_,h2⟩ ⟨?_,_,ab,AJ,?_⟩
  .rw[AE,ake];omega
  .rw[h2,Array.toArray_toList]
 .by_cases e:b=a
  .rw[e,dG];intro z;cases z
  .rw[dm e]
   rw[pn e]at af
   by_cases cF:b=dV
   .rw[cF,dG];intro z;cases z
   .rw[dm cF];exact dh.has b af
 .exact(dh.tabs.lst kZ _).put _ (λps=>by rw[rh];intro z;cases z) (IW dN rh)
def aeC{A:aj4}(kl:Z.Ok)(mA:H a=none)(mC:H dV=none)(oC:dV≠a)(bt:bb X.K X.mg O H ds xs)(bR:Vals xs us)(ax:keys.toList.map Z.κ.keyOf=c3.map some)(au:c3.length=ds.length)(aH:c3.Nodup)(ju:ds.length<64)
    (S:qQ X zn Y G O H a dV ao (c3.map Z.kd) s) :
    wpAny (model X.prog X.w) A (ksk_end a false us.toArray ao (.ref dV) keys) (λr aQ=>r=.done (.ret .none)/\A0 X zn Y O H a ((hP Z.κ.blt (c3.zip ds)).map (·.2)) aQ) E s:=by
  have vH:us.length=ds.length:=by rw[<-bR.length,bt.len]
  have lk:keys.size=ds.length:=by
    have:=congrArg ak6 ax;rw[ajE,ajE,akz]at this;omega
  have Dg:(keys.zip us.toArray).size=ds.length:=by rw[Array.size_zip,lk,ajT,vH,Nat.min_self]
  have yO:∀v∈keys.toList,∃κ,Z.κ.keyOf v=some κ:=λv bL=>by
    have:Z.κ.keyOf v∈c3.map some:=by rw[<-ax];exact al2 bL
    obtain⟨κ,_,e⟩:=aks.mp this;exact⟨κ,e.symm⟩
  unfold ksk_end
  try dsimp only
  simp only[amb,if_false]
  by_cases ah:us.toArray.size<2
  · rw[if_pos ah,if_pos ah]
    refine ajD (ajI ?_);rw[StateT.run_pure];refine ajD (ajI ?_)
    try dsimp only
    refine OP (st:=SortSt.mk' general' (keys.zip us.toArray) #[] 7 none) mA mC oC bt bR ax au aH ju S (Array.Perm.refl _) ?_ rfl;intro i j rm aZ;have Yc:j<(keys.zip us.toArray).size:=aZ;rw[Dg]at Yc;rw[ajT]at ah;have:i=j:=by omega
    subst this;exact PyProof.Rows.KeyOrd.kle_refl _
  · rw[if_neg ah,if_neg ah]
    rw[ajT]at ah;have YC:2<=(keys.zip us.toArray).size:=by
      have bF:2<=us.length:=Nat.le_of_not_lt ah;rw[Dg];omega
    have ed:keyKind' keys=pure oneType':=by
      cases e:keys.toList with
      |nil=>
               have eO:keys.size=0:=by rw[<-akz,e];rfl
               omega
      |cons qG r=>
        cases r with
        |nil=>
                 have eO:keys.size=1:=by rw[<-akz,e];rfl
                 omega
        |cons qH r=>
          have gp:keys=(qG::qH::r).toArray:=by rw[<-e,Array.toArray_toList]
          rw[gp];exact kl.kind qG qH r λv bL=>yO v (by rw[e];exact bL)
    rw[ed];refine ajD (ajI ?_);refine ajD (akm (wpS_sortRunsK (κ:=Z.κ) kl.one (a₀:=keys.zip us.toArray) (st:=SortSt.mk' oneType' (keys.zip us.toArray) #[] 7 none)
      (Q:=λ_ cq=>(arrOf cq).Perm (keys.zip us.toArray)/\failedOf cq=none/\SortedToK Z.κ (arrOf cq) (keys.zip us.toArray).size)
      (λp aK=>?_) ⟨Array.Perm.refl _,rfl,rfl,rfl⟩ YC (by rw[Dg];exact ju) λcq a1 a2 eV=>⟨a1,a2,eV⟩) ?_ λ_ _ e=>e)
    · rw[ksk_zip]at aK
      exact yO _ (amD aK).1
    rintro⟨⟨⟩,cq⟩ aQ ⟨rfl,aK,hf,aE⟩
    try dsimp only
    exact OP mA mC oC bt bR ax au aH ju S aK (by rw[aK.size_eq];exact aE) hf
end
end a0
namespace a0
open PySem PySem.Spec aF PyProof.Rows
variable[aF.a8]
section
variable{X:aT}{zn:c8}{Y:aF.St}{H:aw}{s:ajH}{G:aw->Prop}{mf:bJ}{f l:Addr}{k:Nat}{O:a5}{Z:f_}{ds:List D}{c3:List Z.κ.α}{xs:List V}{E:cN}
def aeB(kl:Z.Ok)(J:Inv X zn Y H s)(cT:da O H)(bt:bb X.K X.mg O H ds xs)(cX:dx X.K H l xs)(fT:oo X k f G mf)(uW:G H)(aB:cK (k+2) X.A)
  (sT:∀(i:Nat)(d:D),ds[i]? = some d->∃κ,c3[i]? = some κ/\(mf [d]).run []=.ok (.v (Z.kd κ)) []) (hlen:c3.length=ds.length) (aH:c3.Nodup) (ju:ds.length<64) :
  wpAny (model X.prog X.w) X.A (call (.builtin "sorted") [.ref l] [(ajZ "key",.ref f)]) (λu aQ=>∃a,u=.ref a/\H a=none/\A0 X zn Y O H a ((hP Z.κ.blt (c3.zip ds)).map (·.2)) aQ) E s:=by
 obtain⟨us,bR,pl,_⟩:=J.list cX;have au:s.heap.IsList l us.toArray:=pl.isList;have vH:us.length=ds.length:=by rw[<-bR.length,bt.len]
 have ra:H (s.heap.objs.size+1)=none:=J.bP.fresh (amh _);refine call_function_entry_kw kind_sorted plain_sorted entry_sorted (ksk_s1 _ _) ?_;unfold ans.«sorted»;refine ajD (m:=checkCount "sorted" 1 1 _) (ajI ?_);refine ajD (collect_list au ?_ (by rw[ake];omega));refine ajD (amz ?_ (by rw[ake];omega));have hsz:((s.heap.push (akk "list" #[] 0)).update s.heap.objs.size (akh (·++us.toArray))).objs.size=s.heap.objs.size+1:=by
  rw[aof,an2]
 have mE:(((s.heap.push (akk "list" #[] 0)).update s.heap.objs.size (akh (·++us.toArray))).push (akk "list" us.toArray 0)).get? (s.heap.objs.size+1)=some (akk "list" us.toArray 0):=by
  rw[<-hsz];exact ajS _ rfl
 have keep:∀b o,s.heap.get? b=some o->(((s.heap.push (akk "list" #[] 0)).update s.heap.objs.size (akh (·++us.toArray))).push (akk "list" us.toArray 0)).get? b=some o:=λb o q=>by
  have fG:b<s.heap.objs.size:=ajV q;rw[alQ _ _ _ (by rw[hsz];exact aj1 (amQ fG)),Heap.get?_update_ne _ _ _ _ (aj1 fG),alQ _ _ _ (aj1 fG)];exact q
 have a_:Inv X zn Y (upd H (s.heap.objs.size+1) (.lst xs)) { s with heap:=((s.heap.push (akk "list" #[] 0)).update s.heap.objs.size (akh (·++us.toArray))).push (akk "list" us.toArray 0) }:=
  J.laid (t':=s.toks) keep (amh _) ⟨by rw[bt.len,ake];omega,us,0,bR,mE⟩
 have V_:Go O O H (upd H (s.heap.objs.size+1) (.lst xs)):=Go.fI ra;have ahS:da O (upd H (s.heap.objs.size+1) (.lst xs)):=cT.same V_.same;show wpAny _ _ _ _ _ { s with heap:=((s.heap.push (akk "list" #[] 0)).update s.heap.objs.size (akh (·++us.toArray))).push (akk "list" us.toArray 0) };rw[hsz];refine ajD (akZ (wpAny_call_entry_kw slot_list_sort ⟨_,mE,rfl⟩ entry_list_sort ?body (ksk_l1 _ _)))
 case body=>
  show wpAny (model X.prog X.w) X.A.in1.in1 (ans.«list.sort» ⟨[.ref (s.heap.objs.size+1)],[(ajZ "key",.ref f)]⟩) _ _ _;rw[ksk_t1];generalize nF:s.heap.objs.size+1=a at *;generalize((s.heap.push (akk "list" #[] 0)).update s.heap.objs.size (akh (·++us.toArray))).push (akk "list" us.toArray 0)=ae at *;have s1:=akX ae a (akh λ_=>(#[]:Array Value));obtain⟨ao,C5⟩:∃ao,(ae.update a (akh λ_=>(#[]:Array Value))).get? a=some (akk "list" #[] ao):=⟨_,alL mE λ_=>#[]⟩;have bX:Inv X zn Y (upd (upd H a (.lst xs)) a (.ext (lstP a ao))) { s with heap:=ae.update a (akh λ_=>(#[]:Array Value)) }:=
   a_.write (x:=a) (e:=a) (t':=s.toks) (by rw[dG];trivial) (.inl rfl) (λb o af e=>(s1.2 b af).trans e) ⟨_,C5⟩ (Z2 C5)
  rw[afH]at bX;unfold ksk_tree;refine ajD (listItems_at mE rfl ?_);refine ajD (al6 mE rfl ?_ (by rw[ajT,ake];omega) (aj5 _));refine ajD (anu C5 rfl ?_);refine ajD (wpAny_newTuple ?_ (by show us.length<=_;rw[ake];omega));refine ajD (amz ?_ (aj5 _));refine akZ ?_;have dN:Inv X zn Y (upd H a (.ext (lstP a ao))) { s with heap:=(ae.update a (akh λ_=>(#[]:Array Value))).push (akk "tuple" us.toArray 0) }:=
   bX.kept (t':=s.toks) λb o e=>ajF _ e
  generalize ai0:(ae.update a (akh λ_=>(#[]:Array Value))).push (akk "tuple" us.toArray 0)=ah at *;have sN:upd H a (.ext (lstP a ao)) ah.objs.size=none:=dN.bP.fresh (ajK _);have zD:ah.objs.size≠a:=by
   intro z;rw[z,dG]at sN;cases sN
  have mC:H ah.objs.size=none:=by rw[dm zD]at sN;exact sN
  have jk:Inv X zn Y (upd (upd H a (.ext (lstP a ao))) ah.objs.size (.lst [])) { s with heap:=ah.push (akk "list" #[] 0) }:=
   dN.laid (t':=s.toks) (λb o e=>ajF _ e) (ajK _) ⟨aj5 _,[],0,.nil,ajS _ rfl⟩
  have Jn:Go O (f9 O ah.objs.size .dF) H (upd (upd H a (.ext (lstP a ao))) ah.objs.size (.lst [])):=(Go.fI ra).trans (Go.new sN);have Vk:da (f9 O ah.objs.size .dF) (upd (upd H a (.ext (lstP a ao))) ah.objs.size (.lst [])):=(cT.same (Go.fI (O:=O) ra).same).new sN;have Ql:qQ X zn Y G O H a ah.objs.size ao [] { s with heap:=ah.push (akk "list" #[] 0) }:=
   ⟨⟨f9 O ah.objs.size .dF,_,[],jk,Jn,Vk,fT.1 _ _ Jn.same uW,by rw[dm zD.symm];exact dG,dG,rfl,ob⟩,λm=>cT.has a (by rw[cT.cp.2 a m];intro z;cases z) ra⟩
  refine akm (aeD (E:=E) kl fT (aB.in1.in1) ra mC zD bt bR sT hlen ju Ql λaQ keys ai Ye=>aeC kl ra mC zD bt bR Ye hlen aH ju ai) (λr aQ a9=>?_) λ_ _ e=>e
  obtain⟨rfl,a9⟩:=a9;exact⟨_,rfl,ajI ⟨_,rfl,a,rfl,ra,a9⟩⟩
end
structure ng(K:aS)(c P:Addr)(q:Str):Prop where
 hd:∀h,K.In h->W.CodeHd h c P
 hh:a8.hh P
 tP:a8.tP P=q
structure kK(base:Heap)(mg:bq):Prop where
 ex:∃bm o,mg (ajZ "__builtins__")=some (aka bm)/\bm≠anY/\bm≠akf/\base.get? bm=some o/\o.cls=amM "module"/\o.dict=some anY/\o.data=Data.plain
def Ei(f:Addr)(bD:Obj):Heap->Prop:=λh=>h.get? f=some bD
def nf(f c:Addr)(q:Str)(bD:Obj):aw->Prop:=λH=>H f=some (.ext (Ei f bD))/\H c=some (.ext (qZ c q))
def nf.mono(H H':aw)(s:eN H H')(g:nf f c q bD H):nf f c q bD H':=⟨s.at' _ _ g.1,s.at' _ _ g.2⟩
def nf.upd(H:aw)(p:Addr)(zs:List V)(o:gT)(h:H p=some (.lst zs))(g:nf f c q bD H):nf f c q bD (upd H p o):=
 ⟨by rw[dm (by rintro rfl;have:=g.1;rw[h]at this;cases this)];exact g.1,by rw[dm (by rintro rfl;have:=g.2;rw[h]at this;cases this)];exact g.2⟩
def VL{K:aS}{mg:bq}{N ps:List Str}{m:bo}{vs:List V}{H:aw}{Q:df}(h:b3 K mg (fnOf ps.length N.length (bE m)) vs H Q jj):fB K mg m (aF.start N vs) H Q:=by
 obtain⟨O,ds,r,S,cT,e',ff,h,q⟩:=h;have au:=yq h;unfold fnOf at h;rw[if_pos au]at h;obtain⟨ba,S1,ae,h⟩:=M.inv h;have rX:=Fh (N:=N) cT e' ff au;obtain⟨n4,bc,ah,bF⟩:=M.inv ae;refine⟨fx O,_,S,n4,bc,rX,ah,λaq v H' g cq bu nn=>?_⟩
 let br:a5:=⟨λb=>match H b with|some _=>O b|none=>aq b,O.bM⟩
 have rJ:∀b,H b≠none->br b=O b:=λb af=>by
  show(match H b with|some _=>O b|none=>aq b)=O b
  cases e:H b with
  |none=>exact absurd e af|some o=>rfl
 have qt:∀b,H b=none->br b=aq b:=λb af=>by
  show(match H b with|some _=>O b|none=>aq b)=aq b;rw[af]
 have dA:nc aq br:=⟨λb af=>by
  by_cases aH:H b=none
  .rw[qt b aH];exact af
  .rw[rJ b aH];exact pW.mp ((g.own b aH).symm.trans af),g.bM.symm⟩
 have go:Go O br H H':=⟨g.same,λb af=>rJ b af,rfl⟩;have cn:da br H':=⟨λb af=>by
  by_cases aH:H b=none
  .rw[qt b aH]at af;exact cq.cn.has b af
  .exact g.same.some aH,cq.cn.tabs,cT.cp.1,λb m=>(rJ b (cT.has b (by rw[cT.cp.2 b m];intro z;cases z))).trans (cT.cp.2 b m)⟩
 cases n4 with
 |v d=>
  cases bF;cases h;exact q br v H' go cn (Rep.dA dA bu) trivial
 |fr zs=>
  cases bF;cases h;obtain⟨a,ys,rfl,l,t,bt⟩:=bu;have aH:=nn a rfl;exact q br _ H' go cn ⟨a,ys,rfl,l,(qt a aH).trans t,bt.dA dA⟩ nn
 |cc zs=>cases bF
 |mv zs=>cases bF
section
variable{X:aT}{k:Nat}{f c:Addr}{name q:Str}{params:amI}{body:Expr}{scope:Scope}{pm hn:Value}{N ps:List Str}{m:bo}
theorem Lc{p1:Str}(Sc:cb N [p1] scope)(my:∀(u:Value),alU (W.kla_fn name q params body scope [] pm (.ref c) hn) ⟨[u],[]⟩=pure [(p1,u)])
  (af:∀(A:aj4)(s:ajH)(H:aw),cK k (A.deeper (amo q scope s.heap.objs.size f (.ref c)))->hR (ho eT X.prog X.w X.K X.mg X.base N q scope f (.ref c) A X.stack s H jj).gO body m) :
  oo X (k+1) f (nf f c q (W.kla_obj name q params body scope [] pm c hn)) (fnOf 1 N.length (bE m)):=by
 refine⟨nf.mono,nf.upd,λA s H u v Q aB eb g eg h4=>?_⟩;obtain⟨g1,_⟩:=eb.bP f _ g.1;obtain⟨g2,_⟩:=eb.bP c _ g.2;have lim:s.heap.NoLimit:=eb.mod.nolimit.keeps λb o e=>(eb.bs b o e).1
 have C1:∀y∈[p1].zip [u],scope.names.lookup y.1=some .local\/(scope.names.lookup y.1=some .cell/\((cellsFrom (s.heap.objs.size+1) scope.names []).lookup y.1).isSome=true):=λaX bg=>by
  obtain⟨n,v⟩:=aX;rcases Sc.par n (amD bg).1 with q|q
  .exact .inl q
  .exact .inr ⟨q,aob _ _ _ (.inl q)⟩
 refine W.kla_callFunE aB.depth g1 rfl Sc.co Sc.gen rfl g2 ?_;rw[my];refine ajI ?_;refine wpAny_newFunctionEnv_cells Sc.kind C1 λenv he s1 x=>?_
 subst he;refine⟨lim.keeps x.toInCall.keep,W.kla_codeExpr ?_⟩;have J:Inv (ho eT X.prog X.w X.K X.mg X.base N q scope f (.ref c) A X.stack s H jj) [] (aF.start N [v]) H s1:=Kp Sc aB.hd eb rfl (.cons eg .nil) x;refine akm ((bY.gO (af A s H (aB.deeper _))) [] s1 (aF.start N [v]) H _ J (VL (ps:=[p1]) h4)) (λu' aQ aE=>?_) λe aQ aE=>aE
 obtain⟨fN,H',cm,bR,hM⟩:=aE;exact⟨fN,H',cm.os,cm.bare,cm.base,cm.bP,bR,hM⟩
end
end a0
namespace a0
open PySem PySem.Spec aF PyProof.Rows
theorem O_{a b:Int}:∀l:List Value,aoq l->aoq (l++[alP a,alP b,c])
 |[],_=>trivial|.int _ _::.int _ _::_::rest,h=>O_ rest h
theorem Gj{pos pos':Pos}:∀l:List Value,aoq l->am5 pos' (l++[alP pos.line,alP pos.col,c])=some iL->am5 pos' l=some iL\/iL=c
 |[],_,h=>by
  right;have h:(if((pos.line:Int)==pos'.line&&(pos.col:Int)==pos'.col)=true then some c else none)=some iL:=h;split at h
  .cases h;rfl
  .cases h
 |.int a _::.int b _::d::rest,t,h=>by
  have h:(if(a==pos'.line&&b==pos'.col)=true then some d else am5 pos' (rest++[alP pos.line,alP pos.col,c]))=some iL:=h;show(if(a==pos'.line&&b==pos'.col)=true then some d else am5 pos' rest)=some iL\/_;split at h
  .rename_i aI;rw[if_pos aI];exact .inl h
  .rename_i aI;rw[if_neg aI];exact Gj rest t h
variable[aF.a8]
section
variable{X:aT}{zn:c8}{Y:aF.St}{H:aw}{s:ajH}{O:a5}{c P:Addr}{q:Str}{params:amI}{body:Expr}{scope:Scope}{pos:Pos}
def Lb(J:Inv X zn Y H s)(cT:da O H)(L:ng X.K c P q)(B:kK X.base X.mg)(nJ:X.env.code=.ref c)(a9:X.env.qual++ajZ "<lambda>"=q)(oF:an3 params X.env=([],[]))(j3:ama scope X.env=pure []) :
  wpAny (model X.prog X.w) X.A (eval (.Lambda params body scope pos) X.env) (λu aQ=>∃(f c':Addr)(pm hn:Value)(H':aw),u=.ref f/\Inv X zn Y H' aQ/\Go O O H H'/\da O H'/\nf f c' q (W.kla_obj (ajZ "<lambda>") q params body scope [] pm c' hn) H') X.d2 s:=by
 obtain⟨ps,ez,k_,BJ⟩:=cT.tabs P L.hh;rw[L.tP]at BJ;have Jf:s.heap.get? P=some (W.tabObj ps):=J.bP P _ ez;have HM:∀b o,X.base.get? b=some o->b≠P:=λb o e z=>by
  subst z;have:=(J.bs b o e).2;rw[ez]at this;cases this
 have p7:s.heap.Ns akf X.mg:=J.mod.glob.keeps J.cP;have X8:akf≠P:=by
  obtain⟨o,ay,cB,e,_⟩:=J.mod.glob;exact HM _ _ e
 have oB:s.heap.BuiltinsAt X.mg P:=by
  obtain⟨bm,o,b4,b5,gX,hX,jV⟩:=B.ex;exact⟨bm,o,b4,b5,gX,HM _ _ hX,J.cP _ _ hX,jV⟩
 have C:=L.hd _ J.fp;refine W.kla_eval oF ?_;rw[a9]
 cases ml:am5 pos ps.toList with
 |some iL=>
  obtain⟨c',rfl,yJ⟩:=BJ pos iL ml;refine W.kla_makeFunctionHit j3 J.ok.glob p7 nJ C Jf k_ ml oB λhn h' tk ax hsz=>?_
  have aH:H h'.objs.size=none:=J.bP.fresh hsz;have go:Go O O H (upd H h'.objs.size (.ext (Ei h'.objs.size (W.kla_obj (ajZ "<lambda>") q params body scope [] ((X.mg (ajZ "__name__")).getD .none) c' hn)))):=Go.fI aH;refine⟨h'.objs.size,c',_,hn,_,rfl,J.laid (t':=tk) (λb o e=>ajF _ (ax b o e)) hsz ?_,go,cT.same go.same,dG,go.same.at' _ _ yJ⟩;exact⟨ajS _ rfl,⟨_,ajS _ rfl⟩,λae ah p r=>r _ p⟩
 |none=>
  refine W.kla_makeFunction j3 J.ok.glob p7 nJ C Jf k_ ml X8 oB λc' hn h' tk ag JX fG C9 Kb=>?_
  have J6:H c'=none:=J.bP.fresh JX;have aaA:c'≠P:=(kx ez J6).symm
  let iT:=ps++#[alP pos.line,alP pos.col,.ref c']
  let H1:=upd (upd H P (.gw iT)) c' (.ext (qZ c' q))
  have lC:∀{b:Addr},b≠P->b≠c'->H1 b=H b:=λae ah=>by show upd _ _ _ _=_;rw[dm ah,dm ae]
  have xQ:H1 P=some (.gw iT):=by show upd _ _ _ _=_;rw[dm aaA.symm];exact dG
  have Ba:H1 c'=some (.ext (qZ c' q)):=dG;have aaD:∀{b:Addr}{o:Obj},s.heap.get? b=some o->b≠c':=λe=>aj1 (akj (ajV e) JX)
  have nX:∀{b:Addr}{o:gT},H b=some o->b≠c':=λe=>kx e J6
  have un:gV X.aW [] H H1 s.heap h':=by
   refine⟨λb o e n _ _=>ag b o (by rintro rfl;rw[ez]at n;cases n) e,λb o e n _ _=>⟨o.slots,ag b o (by rintro rfl;rw[ez]at n;cases n) e⟩,
    λb o e n _=>by rw[lC (by rintro rfl;rw[ez]at n;cases n) (aaD e)];exact n,λb o e _=>?_,λb xs e=>?_,λb o u e=>?_,λb zs e=>?_⟩
   .by_cases af:b=P
    .rw[af];exact⟨_,Kb⟩
    .exact⟨o,ag b o af e⟩
   .rw[lC (by rintro rfl;rw[ez]at e;cases e) (nX e)];exact e
   .rw[lC (by rintro rfl;rw[ez]at e;cases e) (nX e)];exact e
   .by_cases af:b=P
    .subst af
     rw[ez]at e;cases e;exact⟨_,xQ⟩
    .exact⟨#[],by rw[lC af (nX e),e];simp⟩
  have bP:fs X.prog X.w H1 h':=λb u e=>by
   by_cases ae:b=c'
   .subst ae
    rw[Ba]at e;cases e;obtain⟨ab,bK,vs,t,fO,eS,l4,m6⟩:=C9;cases fO;exact⟨⟨_,bK,vs,t,rfl,eS,l4,m6⟩,⟨_,eS⟩,λae ah aX r=>by obtain⟨ki,aaT,afI,t3,Az,AA,PV,PW⟩:=aX;cases Az;exact⟨_,aaT,afI,t3,rfl,r _ AA,PV,PW⟩⟩
   .by_cases ah:b=P
    .subst ah
     rw[xQ]at e;cases e;exact Kb
    .rw[lC ah ae]at e
     refine(J.bP b u e).rZ (λd o hd VA=>ag d o (λz=>?_) VA) (λd d4=>?_) λd xs d4=>?_
     .rcases hd with rfl|hd
      .exact ah z
      .rw[z,ez]at hd;cases hd
     .rw[lC (by rintro rfl;rw[ez]at d4;cases d4) (nX d4)];exact d4
     .rw[lC (by rintro rfl;rw[ez]at d4;cases d4) (nX d4)];exact d4
  have a_:Inv X zn Y H1 { s with heap:=h',toks:=tk }:=J.un (t':=tk) un bP;have aH:H1 h'.objs.size=none:=bP.fresh (ajK _);have adi:eN H H1:=by
   refine⟨λb o e n=>by rw[lC (by rintro rfl;rw[ez]at e;cases e;exact n) (nX e)];exact e,λb zs e=>?_,λg qU Wu=>?_⟩
   .by_cases af:b=P
    .exact⟨iT,by rw[af];exact xQ⟩
    .exact⟨zs,by rw[lC af (nX e)];exact e⟩
   .obtain⟨zs,ao,az,cG⟩:=g qU Wu
    by_cases af:qU=P
    .subst af
     refine⟨iT,xQ,?_,λpos' iL sR=>?_⟩
     .show aoq (ps++#[alP pos.line,alP pos.col,.ref c']).toList
      rw[Array.toList_append];exact O_ _ k_
     .have sR:am5 pos' (ps++#[alP pos.line,alP pos.col,.ref c']).toList=some iL:=sR
      rw[Array.toList_append]at sR;rw[L.tP];rcases Gj _ k_ sR with h|h
      .obtain⟨ab,rfl,ah⟩:=BJ pos' iL h
       exact⟨ab,rfl,by rw[lC (by rintro rfl;rw[ez]at ah;cases ah) (nX ah)];exact ah⟩
      .exact⟨c',h,Ba⟩
    .refine⟨zs,by rw[lC af (nX ao)];exact ao,az,λpos' iL sR=>?_⟩
     obtain⟨ab,ae,ah⟩:=cG pos' iL sR;exact⟨ab,ae,by rw[lC (by rintro rfl;rw[ez]at ah;cases ah) (nX ah)];exact ah⟩
  have go:Go O O H (upd H1 h'.objs.size (.ext (Ei h'.objs.size (W.kla_obj (ajZ "<lambda>") q params body scope [] ((X.mg (ajZ "__name__")).getD .none) c' hn)))):=(⟨adi,λ_ _=>rfl,rfl⟩:Go O O H H1).trans (Go.fI aH);refine⟨h'.objs.size,c',_,hn,_,rfl,a_.laid (t':=tk) (λb o e=>ajF _ e) (ajK _) ?_,go,cT.same go.same,dG,(rV aH _).at' _ _ Ba⟩;exact⟨ajS _ rfl,⟨_,ajS _ rfl⟩,λae ah p r=>r _ p⟩
end
end a0
namespace a0
open PySem PySem.Spec aF PyProof.Rows
def Bv:akx "sorted"=some (.builtin "sorted"):=by decide +kernel
def y_(Z:f_)(mf:bJ)(d:D):Option Z.κ.α:=match(mf [d]).run []with
 |.ok (.v x) []=>Z.un x|_=>none
def keysOf(Z:f_)(mf:bJ):List D->Option (List Z.κ.α)
 |[]=>some []|d::ds=>match y_ Z mf d,keysOf Z mf ds with
  |some a,some as=>some (a::as)|_,_=>none
def jU{α:Type}(blt:α->α->Bool):List α->Bool
 |[]=>true|a::r=>r.all (λb=>blt a b||blt b a)&&jU blt r
def sJ(Z:f_)(mf:bJ)(x:R):M R:=match x.fX with
 |some ds=>match keysOf Z mf ds with
  |some c3=>if jU Z.κ.blt c3=true/\ds.length<64 then pure (.fr ((hP Z.κ.blt (c3.zip ds)).map (·.2)))else bad|none=>bad
 |none=>bad
@[simp] def qY(Z:f_)(mf:bJ)(c_:bo)(Y:aR):M R:=do
 let x <-c_ Y
 sJ Z mf x
theorem KW{Z:f_}{mf:bJ}(r4:∀d a,Z.un d=some a->d=Z.kd a):∀{ds:List D}{c3:List Z.κ.α},keysOf Z mf ds=some c3->c3.length=ds.length/\∀(i:Nat)(d:D),ds[i]? = some d->∃κ,c3[i]? = some κ/\(mf [d]).run []=.ok (.v (Z.kd κ)) []
 |[],c3,h=>by cases h;exact⟨rfl,λi d h=>by simp at h⟩
 |d::ds,c3,h=>by
  unfold keysOf at h;split at h
  .rename_i a as ae ah
   cases h;obtain⟨l,r⟩:=KW r4 ah;refine⟨by rw[ajW,ajW,l],λi e he=>?_⟩
   cases i with
   |zero=>
    cases(show some d=some e from he);refine⟨a,rfl,?_⟩;unfold y_ at ae;split at ae
    .rename_i x ag
     rw[ag,r4 x a ae]
    .cases ae
   |succ i=>
    obtain⟨κ,ao,az⟩:=r i e (by simpa using he);exact⟨κ,by simpa using ao,az⟩
  .cases h
theorem A7(Q:alg):∀{l:List Q.α},jU Q.blt l=true->l.Nodup
 |[],_=>.nil|a::r,h=>by
  unfold jU at h;rw[ako,akE]at h;rw[akD];refine⟨λhm=>?_,A7 Q h.2⟩;have:=h.1 a hm;rw[Q.irrefl]at this;cases this
variable[aF.a8]
section
variable{X:aT}{k:Nat}{e:Expr}{c_:bo}{Z:f_}{p pos kp:Pos}{jw:Expr}{mf:bJ}{G:Addr->aw->Prop}
def TH(kl:Z.Ok)(aU:eU X "sorted")(hm:X.mg "sorted"=none)(aB:cK (k+2) X.A)(ar:hR X e c_)
  (dH:∀(zn:c8)(s:ajH)(Y:aF.St)(O:a5)(H:aw),Inv X zn Y H s->da O H->
   wpAny (model X.prog X.w) X.A (eval jw X.env) (λu aQ=>∃(f:Addr)(H':aw)(G:aw->Prop),u=.ref f/\Inv X zn Y H' aQ/\Go O O H H'/\da O H'/\G H'/\oo X k f G mf) X.d2 s)
  (he:aj9 pos (ajG [e] X.env)=(false,eval e X.env)::aj9 pos (ajG [] X.env):=by rfl)
  (aE:ajG [e] X.env=(false,eval e X.env)::ajG [] X.env:=by rfl)
  (i6:(aj9 pos (ajG [e] X.env)).any (·.1)=false:=by rfl) :
  hR X (.Call (.Name "sorted" p) [e] [⟨some (ajZ "key"),jw,kp⟩] pos) (qY Z mf c_):=by
 rintro zn s Y H Q J ⟨O,xk,S,r,ai,st,h,q⟩;obtain⟨x,S1,ae,h⟩:=M.inv h;obtain⟨ds,c3,oH,Yd,WB,ju,rfl,rfl⟩:∃ds c3,x.fX=some ds/\keysOf Z mf ds=some c3/\jU Z.κ.blt c3=true/\ds.length<64/\r=.fr ((hP Z.κ.blt (c3.zip ds)).map (·.2))/\S1=ai:=by
  unfold sJ at h;split at h
  .rename_i ds ao
   split at h
   .rename_i c3 az
    by_cases c:jU Z.κ.blt c3=true/\ds.length<64
    .rw[if_pos c]at h
     cases h;exact⟨ds,c3,ao,az,c.1,c.2,rfl,rfl⟩
    .rw[if_neg c]at h;cases h
   .cases h
  .cases h
 obtain⟨hlen,sT⟩:=KW kl.r4 Yd;refine ala (ry J aU hm Bv ?_);refine callWith_kw ?_ he i6 rfl rfl;refine bZ ((wy ar Ex aE) pos zn s Y H (λvs H1=>∃v aO,vs=[v]/\Go O aO H H1/\cO X.K X.mg aO xk S1 Y H1/\e5 X.K X.mg aO H1 x v) J ⟨O,xk,S,x,S1,st,ae,λaO v H1 g1 aV bu nn=>⟨v,aO,rfl,g1,aV,bu⟩⟩) λus s1 aX=>?_
 obtain⟨vs,H1,a_,bG,v,aO,ev,g1,aV,bu⟩:=aX;subst ev;obtain⟨l,ys,rfl,au,bt⟩:=R.nO bu oH;obtain⟨u,rfl,eg⟩:=vals1 bG;cases eg;refine wpAny_evalAll_cons (ajD (bZ (dH zn s1 Y aO H1 a_ aV.cn) λu s2 ax=>ajD (anQ (ajI ?_))));obtain⟨f,aM,G,rfl,bX,g2,dh,Cs,fT⟩:=ax;refine wpAny_evalAll_nil ?_;show wpAny _ _ (call (.builtin "sorted") [.ref l] [(ajZ "key",.ref f)]) _ _ _;refine bZ (aeB kl bX dh (bt.go g2) (g2.same.seq au) fT Cs aB sT hlen (A7 Z.κ.toKeyOrd WB) ju) λu s3 aX=>?_
 obtain⟨a,jY,mA,e4,cZ,zs,dN,g3,nv,rh,n0,acQ⟩:=aX;subst jY;refine⟨.ref a,cZ,dN,rfl,q e4 _ cZ (g1.trans (g2.trans g3)) (aV.go (g2.trans g3) nv) ⟨a,zs,rfl,rh,n0,acQ⟩ λb dc=>?_⟩;cases dc;exact(g1.trans g2).same.free mA
def TJ{c P:Addr}{q p1:Str}{params:amI}{body:Expr}{scope:Scope}{k4:Pos}{N:List Str}{m:bo}(kl:Z.Ok)(aU:eU X "sorted")(hm:X.mg "sorted"=none)(aB:cK (k+3) X.A)(L:ng X.K c P q)(B:kK X.base X.mg)(nJ:X.env.code=.ref c)
  (a9:X.env.qual++ajZ "<lambda>"=q) (Sc:cb N [p1] scope)
  (my:∀(c:Addr)(pm hn u:Value),alU (W.kla_fn (ajZ "<lambda>") q params body scope [] pm (.ref c) hn) ⟨[u],[]⟩=pure [(p1,u)])
  (af:∀(f c:Addr)(A:aj4)(s:ajH)(H:aw),cK k (A.deeper (amo q scope s.heap.objs.size f (.ref c)))->hR (ho eT X.prog X.w X.K X.mg X.base N q scope f (.ref c) A X.stack s H jj).gO body m)
  (ar:hR X e c_) (oF:an3 params X.env=([],[]):=by rfl) (j3:ama scope X.env=pure []:=by rfl)
  (he:aj9 pos (ajG [e] X.env)=(false,eval e X.env)::aj9 pos (ajG [] X.env):=by rfl)
  (aE:ajG [e] X.env=(false,eval e X.env)::ajG [] X.env:=by rfl)
  (i6:(aj9 pos (ajG [e] X.env)).any (·.1)=false:=by rfl) :
  hR X (.Call (.Name "sorted" p) [e] [⟨some (ajZ "key"),.Lambda params body scope k4,kp⟩] pos) (qY Z (fnOf 1 N.length (bE m)) c_):=
 TH (k:=k+1) kl aU hm aB ar (λzn s Y O H J cT=>bZ (Lb J cT L B nJ a9 oF j3) λu aQ ⟨f,c',pm,hn,H',jY,ih,g',d',om⟩=>
  ⟨f,H',_,jY,ih,g',d',om,Lc Sc (my c' pm hn) (af f c')⟩) he aE i6
end
def CO{P:ajY}{w:World}{K:aS}{mg:bq}{base:Heap}{x:Str}{st:Stmt}{ps N:List Str}{k:Nat}{di:a3}{n nl:Nat}{c:Addr}(cu:cu K mg x st ps)(aI:∀(f:Addr)(bK:Value)(dj:Option Addr)(cI doc pm:Value)(an:Option Addr)(bw cw:Value)(fJ:Array (Option Value)),mg x=some (.ref f)->K.lookup f=some ⟨bK,dj,.func (alr x x (iq st) (fF st) (bH st) .none cI doc pm an bw cw),fJ⟩->bw=.ref c)
  (Sc:cb N ps (bH st)) (aH:ps.length=n) (au:N.length=nl)
  (af:∀(f:Addr)(A:aj4)(outer:List Env)(s:ajH)(H:aw)(E:gL),cK k (A.deeper (akO x (bH st) s.heap.objs.size f (.ref c)))->
   sg (ho eT P w K mg base N x (bH st) f (.ref c) A outer s H E).gO (fF st) di):b_ P w K mg base x ps (k+1) (b3 K mg (fnOf n nl di)):=by
 obtain⟨f,fd,F,b,m⟩:=cu.ex;refine⟨f,fd,?_,b,F.kp,m⟩;obtain⟨bK,dj,cI,doc,pm,an,bw,cw,fJ,rfl,lk,gM⟩:=F.ex;have e:=aI f bK dj cI doc pm an bw cw fJ m lk;subst e;subst aH au;refine Cm lk gM Sc (λvs H Q E ⟨O,ds,r,ai,cT,e',ff,h,q⟩=>ff.len.trans (yq h)) λA outer s H vs Q E aB h4=>⟨_,(af f A outer s H E aB).gO,H4 h4⟩
end a0
namespace aF
open PySem PySem.Spec PyProof.Rows
def nN(r:Int->Int->Bool)(z:Nat->Nat->Bool):List Int->List Int->Bool
 |x::xs,y::ys=>if x=y then nN r z xs ys else r x y|xs,ys=>z xs.length ys.length
def rz(r:Int->Int->Bool)(z:Nat->Nat->Bool)(x y:Int)(xs ys:List Int):nN r z (x::xs) (y::ys)=if x=y then nN r z xs ys else r x y:=rfl
def DU(r:Int->Int->Bool)(z:Nat->Nat->Bool)(ys:List Int):nN r z [] ys=z 0 ys.length:=by cases ys<;>rfl
def DV(r:Int->Int->Bool)(z:Nat->Nat->Bool)(xs:List Int):nN r z xs []=z xs.length 0:=by cases xs<;>rfl
abbrev lexLt:List Int->List Int->Bool:=nN (λi j=>decide (i<j)) (λi j=>decide (i<j))
section
open PySem.SeqAt
open PySem.AutoSeq1 (wpAny_loadPart')
open PySem.MeetsSeq PySem.MeetsSeq2 PySem.MeetsSeq3
def afy(l b:Addr)(items fo:Array Value)(n dY:Nat)(dd mh:Option Addr)(bW mW:Array (Option Value))(ns ms:List Int)(aD:ak1 items.toList ns)(aZ:ak1 fo.toList ms) :
  Meets (ans.«tuple.__lt__» ⟨[.ref l,.ref b],[]⟩)
   (λ_ R s=>s.heap.get? l=some { cls:=.type "tuple",dict:=dd,data:=.seq items n,slots:=bW }/\s.heap.get? b=some { cls:=.type "tuple",dict:=mh,data:=.seq fo dY,slots:=mW }/\
    R (.ok (.ret (.bool (lexLt ns ms)))) s):=
 .of_wp λprog w A R s h=>by
  obtain⟨aK,g,d,tk,os⟩:=s;obtain⟨au,af,h⟩:=h;have f2:=amK;have fO:items.size=ns.length:=by rw[<-aD.length];simp
  have eS:fo.size=ms.length:=by rw[<-aZ.length];simp
  wp_walk using wpAny_loadPart' au,wpAny_loadPart' af,aog _ (λrest b aQ=>b.1=none/\aQ=⟨aK,g,d,tk,os⟩/\∃(vs ws:List Value)(h5 dr:List Int),rest=vs.zip ws/\
   ak1 vs h5/\ak1 ws dr/\h5.length+fo.size=dr.length+items.size/\R (.ok (.ret (.bool (lexLt h5 dr)))) ⟨aK,g,d,tk,os⟩) _
  case turn=>
   rintro⟨y,x⟩ rest b aQ ⟨mx,rfl,vs,ws,h5,dr,hz,mH,mI,hlen,eP⟩
   cases mH with
   |nil=>rw[amS]at hz;cases hz
   |cons a t vk=>
    cases mI with
    |nil=>rw[anG]at hz;cases hz
    |cons c u vl=>
     rw[alb]at hz;injection hz with vm vi
     injection vm with bg ag
     subst bg ag;unfold lexLt at eP;rw[rz]at eP;simp only[ajW]at hlen;obtain⟨e,he,p_⟩:=ej.B7 A.in1 ⟨aK,g,d,tk,os⟩ a t c u;refine ajD (he prog w _ _ ?_)
     cases e with
     |true=>
      rw[if_pos (p_.mp rfl)]at eP
      wp_walk
      exact⟨rfl,rfl,_,_,_,_,vi,vk,vl,by omega,eP⟩
     |false=>
      rw[if_neg (λq=>absurd (p_.mpr q) ajO)]at eP;have rq:∀(E:cN)(Q:cN),Q (.bool (decide (a<c))) ⟨aK,g,d,tk,os⟩->wpAny (model prog w) A.in1 (amW .Lt (.int a t) (.int c u)) Q E ⟨aK,g,d,tk,os⟩:=λE Q h=>(PyProof.Rows.lt_int h:wpAny (model prog w) A.in1 (akq .Lt (.int a t) (.int c u)) Q E _)
      wp_walk using rq
      exact⟨_,rfl,by simpa using eP⟩
  case fin=>
   rintro⟨b4,b5⟩ aQ ⟨mx,rfl,vs,ws,h5,dr,hz,mH,mI,hlen,eP⟩;simp only at mx;subst mx;have bL:lexLt h5 dr=decide (items.size<fo.size):=by
    cases mH with
    |nil=>
     unfold lexLt;rw[DU];simp only[akH]at hlen;exact decide_eq_decide.mpr (by omega)
    |cons a t bL=>
     cases mI with
     |nil=>
      unfold lexLt;rw[DV];simp only[akH]at hlen;exact decide_eq_decide.mpr (by omega)
     |cons c u hw=>
      rw[alb]at hz;cases hz
   rw[bL]at eP
   wp_walk
   exact⟨_,rfl,by simpa[al3]using eP⟩
  case h=>
   exact⟨rfl,rfl,items.toList,fo.toList,ns,ms,rfl,aD,aZ,by omega,h⟩
end
def Z4{prog:ajY}{w:World}{A:aj4}{E:cN}{s:ajH}{l b:Addr}{items fo:Array Value}{ns ms:List Int}{Q:cN}(au:IsTup s.heap l items)(af:IsTup s.heap b fo)(aD:ak1 items.toList ns)(aZ:ak1 fo.toList ms)
  (cC:A.units<cLine) (h:Q (.bool (lexLt ns ms)) s):wpAny (model prog w) A (akq .Lt (.ref l) (.ref b)) Q E s:=by
 obtain⟨⟨cls,dd,data,bW⟩,bf,aI,n,hd⟩:=id au;obtain⟨⟨Im,mh,data2,mW⟩,qa,h2,dY,hd2⟩:=id af;simp only at aI hd h2 hd2;subst aI hd h2 hd2;exact amX (op:=.Lt) ⟨_,bf,rfl⟩ ⟨_,qa,rfl⟩ PySem.F.slot_tuple_lt PySem.F.entry_tuple_lt (PySem.F.args_tuple_lt_2 _ _) (afy l b items fo n dY dd mh bW mW ns ms aD aZ)
  ⟨bf,qa,show amu (lexLt ns ms)≠anh/\Q (.bool (lexLt ns ms)) s from⟨(λx=>nomatch x),h⟩⟩ cC
def ajl(cC:X.A.units+64<cLine):ew X (akq .Lt) (λx y H Q=>∃a b ns ms,x=.ref a/\y=.ref b/\dQ X.K H a (ns.map V.int)/\dQ X.K H b (ms.map V.int)/\Q (.aC (lexLt ns ms)) H):=by
 intro zn s Y H x y v u Q J a7 bC h;obtain⟨a,b,ns,ms,rfl,rfl,ar,af,q⟩:=h;cases a7;cases bC;obtain⟨its,bG,p1,_⟩:=J.tuple ar;obtain⟨lN,cx,dB,_⟩:=J.tuple af;exact Z4 p1 dB (intsAre_of bG) (intsAre_of cx) (by omega) ⟨.aC (lexLt ns ms),H,J,rfl,q⟩
abbrev g7:List Int->List Int->Bool:=nN (λi j=>decide (j<i)) (λi j=>decide (j<i))
section
open PySem.SeqAt
open PySem.AutoSeq1 (wpAny_loadPart')
open PySem.MeetsSeq PySem.MeetsSeq2 PySem.MeetsSeq3
def afx(l b:Addr)(items fo:Array Value)(n dY:Nat)(dd mh:Option Addr)(bW mW:Array (Option Value))(ns ms:List Int)(aD:ak1 items.toList ns)(aZ:ak1 fo.toList ms) :
  Meets (ans.«tuple.__gt__» ⟨[.ref l,.ref b],[]⟩)
   (λ_ R s=>s.heap.get? l=some { cls:=.type "tuple",dict:=dd,data:=.seq items n,slots:=bW }/\s.heap.get? b=some { cls:=.type "tuple",dict:=mh,data:=.seq fo dY,slots:=mW }/\
    R (.ok (.ret (.bool (g7 ns ms)))) s):=
 .of_wp λprog w A R s h=>by
  obtain⟨aK,g,d,tk,os⟩:=s;obtain⟨au,af,h⟩:=h;have f2:=amK;have fO:items.size=ns.length:=by rw[<-aD.length];simp
  have eS:fo.size=ms.length:=by rw[<-aZ.length];simp
  wp_walk using wpAny_loadPart' au,wpAny_loadPart' af,aog _ (λrest b aQ=>b.1=none/\aQ=⟨aK,g,d,tk,os⟩/\∃(vs ws:List Value)(h5 dr:List Int),rest=vs.zip ws/\
   ak1 vs h5/\ak1 ws dr/\h5.length+fo.size=dr.length+items.size/\R (.ok (.ret (.bool (g7 h5 dr)))) ⟨aK,g,d,tk,os⟩) _
  case turn=>
   rintro⟨y,x⟩ rest b aQ ⟨mx,rfl,vs,ws,h5,dr,hz,mH,mI,hlen,eP⟩
   cases mH with
   |nil=>rw[amS]at hz;cases hz
   |cons a t vk=>
    cases mI with
    |nil=>rw[anG]at hz;cases hz
    |cons c u vl=>
     rw[alb]at hz;injection hz with vm vi
     injection vm with bg ag
     subst bg ag;unfold g7 at eP;rw[rz]at eP;simp only[ajW]at hlen;obtain⟨e,he,p_⟩:=ej.B7 A.in1 ⟨aK,g,d,tk,os⟩ a t c u;refine ajD (he prog w _ _ ?_)
     cases e with
     |true=>
      rw[if_pos (p_.mp rfl)]at eP
      wp_walk
      exact⟨rfl,rfl,_,_,_,_,vi,vk,vl,by omega,eP⟩
     |false=>
      rw[if_neg (λq=>absurd (p_.mpr q) ajO)]at eP;have rq:∀(E:cN)(Q:cN),Q (.bool (decide (c<a))) ⟨aK,g,d,tk,os⟩->wpAny (model prog w) A.in1 (amW .Gt (.int a t) (.int c u)) Q E ⟨aK,g,d,tk,os⟩:=λE Q h=>(aoH h:wpAny (model prog w) A.in1 (akq .Gt (.int a t) (.int c u)) Q E _)
      wp_walk using rq
      exact⟨_,rfl,by simpa using eP⟩
  case fin=>
   rintro⟨b4,b5⟩ aQ ⟨mx,rfl,vs,ws,h5,dr,hz,mH,mI,hlen,eP⟩;simp only at mx;subst mx;have bL:g7 h5 dr=decide (fo.size<items.size):=by
    cases mH with
    |nil=>
     unfold g7;rw[DU];simp only[akH]at hlen;exact decide_eq_decide.mpr (by omega)
    |cons a t bL=>
     cases mI with
     |nil=>
      unfold g7;rw[DV];simp only[akH]at hlen;exact decide_eq_decide.mpr (by omega)
     |cons c u hw=>
      rw[alb]at hz;cases hz
   rw[bL]at eP
   wp_walk
   exact⟨_,rfl,by simpa[al3]using eP⟩
  case h=>
   exact⟨rfl,rfl,items.toList,fo.toList,ns,ms,rfl,aD,aZ,by omega,h⟩
end
def Jt{prog:ajY}{w:World}{A:aj4}{E:cN}{s:ajH}{l b:Addr}{items fo:Array Value}{ns ms:List Int}{Q:cN}(au:IsTup s.heap l items)(af:IsTup s.heap b fo)(aD:ak1 items.toList ns)(aZ:ak1 fo.toList ms)
  (cC:A.units<cLine) (h:Q (.bool (g7 ns ms)) s):wpAny (model prog w) A (akq .Gt (.ref l) (.ref b)) Q E s:=by
 obtain⟨⟨cls,dd,data,bW⟩,bf,aI,n,hd⟩:=id au;obtain⟨⟨Im,mh,data2,mW⟩,qa,h2,dY,hd2⟩:=id af;simp only at aI hd h2 hd2;subst aI hd h2 hd2;exact amX (op:=.Gt) ⟨_,bf,rfl⟩ ⟨_,qa,rfl⟩ PySem.F.slot_tuple_gt PySem.F.entry_tuple_gt (PySem.F.args_tuple_gt_2 _ _) (afx l b items fo n dY dd mh bW mW ns ms aD aZ)
  ⟨bf,qa,show amu (g7 ns ms)≠anh/\Q (.bool (g7 ns ms)) s from⟨(λx=>nomatch x),h⟩⟩ cC
def abb(cC:X.A.units+64<cLine):ew X (akq .Gt) (λx y H Q=>∃a b ns ms,x=.ref a/\y=.ref b/\dQ X.K H a (ns.map V.int)/\dQ X.K H b (ms.map V.int)/\Q (.aC (g7 ns ms)) H):=by
 intro zn s Y H x y v u Q J a7 bC h;obtain⟨a,b,ns,ms,rfl,rfl,ar,af,q⟩:=h;cases a7;cases bC;obtain⟨its,bG,p1,_⟩:=J.tuple ar;obtain⟨lN,cx,dB,_⟩:=J.tuple af;exact Jt p1 dB (intsAre_of bG) (intsAre_of cx) (by omega) ⟨.aC (g7 ns ms),H,J,rfl,q⟩
abbrev i9:List Int->List Int->Bool:=nN (λi j=>decide (j<=i)) (λi j=>decide (j<=i))
section
open PySem.SeqAt
open PySem.AutoSeq1 (wpAny_loadPart')
open PySem.MeetsSeq PySem.MeetsSeq2 PySem.MeetsSeq3
def afw(l b:Addr)(items fo:Array Value)(n dY:Nat)(dd mh:Option Addr)(bW mW:Array (Option Value))(ns ms:List Int)(aD:ak1 items.toList ns)(aZ:ak1 fo.toList ms) :
  Meets (ans.«tuple.__ge__» ⟨[.ref l,.ref b],[]⟩)
   (λ_ R s=>s.heap.get? l=some { cls:=.type "tuple",dict:=dd,data:=.seq items n,slots:=bW }/\s.heap.get? b=some { cls:=.type "tuple",dict:=mh,data:=.seq fo dY,slots:=mW }/\
    R (.ok (.ret (.bool (i9 ns ms)))) s):=
 .of_wp λprog w A R s h=>by
  obtain⟨aK,g,d,tk,os⟩:=s;obtain⟨au,af,h⟩:=h;have f2:=amK;have fO:items.size=ns.length:=by rw[<-aD.length];simp
  have eS:fo.size=ms.length:=by rw[<-aZ.length];simp
  wp_walk using wpAny_loadPart' au,wpAny_loadPart' af,aog _ (λrest b aQ=>b.1=none/\aQ=⟨aK,g,d,tk,os⟩/\∃(vs ws:List Value)(h5 dr:List Int),rest=vs.zip ws/\
   ak1 vs h5/\ak1 ws dr/\h5.length+fo.size=dr.length+items.size/\R (.ok (.ret (.bool (i9 h5 dr)))) ⟨aK,g,d,tk,os⟩) _
  case turn=>
   rintro⟨y,x⟩ rest b aQ ⟨mx,rfl,vs,ws,h5,dr,hz,mH,mI,hlen,eP⟩
   cases mH with
   |nil=>rw[amS]at hz;cases hz
   |cons a t vk=>
    cases mI with
    |nil=>rw[anG]at hz;cases hz
    |cons c u vl=>
     rw[alb]at hz;injection hz with vm vi
     injection vm with bg ag
     subst bg ag;unfold i9 at eP;rw[rz]at eP;simp only[ajW]at hlen;obtain⟨e,he,p_⟩:=ej.B7 A.in1 ⟨aK,g,d,tk,os⟩ a t c u;refine ajD (he prog w _ _ ?_)
     cases e with
     |true=>
      rw[if_pos (p_.mp rfl)]at eP
      wp_walk
      exact⟨rfl,rfl,_,_,_,_,vi,vk,vl,by omega,eP⟩
     |false=>
      rw[if_neg (λq=>absurd (p_.mpr q) ajO)]at eP;have rq:∀(E:cN)(Q:cN),Q (.bool (decide (c<=a))) ⟨aK,g,d,tk,os⟩->wpAny (model prog w) A.in1 (amW .GtE (.int a t) (.int c u)) Q E ⟨aK,g,d,tk,os⟩:=λE Q h=>(PyProof.Rows.ge_int h:wpAny (model prog w) A.in1 (akq .GtE (.int a t) (.int c u)) Q E _)
      wp_walk using rq
      exact⟨_,rfl,by simpa using eP⟩
  case fin=>
   rintro⟨b4,b5⟩ aQ ⟨mx,rfl,vs,ws,h5,dr,hz,mH,mI,hlen,eP⟩;simp only at mx;subst mx;have bL:i9 h5 dr=decide (fo.size<=items.size):=by
    cases mH with
    |nil=>
     unfold i9;rw[DU];simp only[akH]at hlen;exact decide_eq_decide.mpr (by omega)
    |cons a t bL=>
     cases mI with
     |nil=>
      unfold i9;rw[DV];simp only[akH]at hlen;exact decide_eq_decide.mpr (by omega)
     |cons c u hw=>
      rw[alb]at hz;cases hz
   rw[bL]at eP
   wp_walk
   exact⟨_,rfl,by simpa[al3]using eP⟩
  case h=>
   exact⟨rfl,rfl,items.toList,fo.toList,ns,ms,rfl,aD,aZ,by omega,h⟩
end
def V0{prog:ajY}{w:World}{A:aj4}{E:cN}{s:ajH}{l b:Addr}{items fo:Array Value}{ns ms:List Int}{Q:cN}(au:IsTup s.heap l items)(af:IsTup s.heap b fo)(aD:ak1 items.toList ns)(aZ:ak1 fo.toList ms)
  (cC:A.units<cLine) (h:Q (.bool (i9 ns ms)) s):wpAny (model prog w) A (akq .GtE (.ref l) (.ref b)) Q E s:=by
 obtain⟨⟨cls,dd,data,bW⟩,bf,aI,n,hd⟩:=id au;obtain⟨⟨Im,mh,data2,mW⟩,qa,h2,dY,hd2⟩:=id af;simp only at aI hd h2 hd2;subst aI hd h2 hd2;exact amX (op:=.GtE) ⟨_,bf,rfl⟩ ⟨_,qa,rfl⟩ PySem.F.slot_tuple_ge PySem.F.entry_tuple_ge (PySem.F.args_tuple_ge_2 _ _) (afw l b items fo n dY dd mh bW mW ns ms aD aZ)
  ⟨bf,qa,show amu (i9 ns ms)≠anh/\Q (.bool (i9 ns ms)) s from⟨(λx=>nomatch x),h⟩⟩ cC
def aa9(cC:X.A.units+64<cLine):ew X (akq .GtE) (λx y H Q=>∃a b ns ms,x=.ref a/\y=.ref b/\dQ X.K H a (ns.map V.int)/\dQ X.K H b (ms.map V.int)/\Q (.aC (i9 ns ms)) H):=by
 intro zn s Y H x y v u Q J a7 bC h;obtain⟨a,b,ns,ms,rfl,rfl,ar,af,q⟩:=h;cases a7;cases bC;obtain⟨its,bG,p1,_⟩:=J.tuple ar;obtain⟨lN,cx,dB,_⟩:=J.tuple af;exact V0 p1 dB (intsAre_of bG) (intsAre_of cx) (by omega) ⟨.aC (i9 ns ms),H,J,rfl,q⟩
end aF
namespace a0
open PySem PySem.Spec aF
def o6(g:List Int->List Int->Bool):R->R->M R
 |.v (.tup xs),.v (.tup ys)=>match nums xs,nums ys with
  |some ns,some ms=>pure (.v (.aC (g ns ms)))|_,_=>bad
 |_,_=>bad
variable[aF.a8]
def Gs{g:List Int->List Int->Bool}:eK K mg (λx y H Q=>∃a b ns ms,x=.ref a/\y=.ref b/\dQ K H a (ns.map V.int)/\dQ K H b (ms.map V.int)/\Q (.aC (g ns ms)) H) (o6 g):=λO Y S av H x y a7 bC bT ai Q st ag bg h q=>by
 unfold o6 at h;split at h
 .rename_i xs ys
  split at h
  .rename_i ns ms ao az
   cases h;obtain⟨a,as,rfl,K',bt⟩:=ag;obtain⟨b,bs,rfl,Lj,mT⟩:=bg;rw[tB bt ao]at K';rw[tB mT az]at Lj;exact⟨a,b,ns,ms,rfl,rfl,K',Lj,q O _ H (Go.refl _ _) st rfl trivial⟩
  .cases h
 .cases h
end a0
namespace a0
open PySem PySem.Spec aF PyProof.Rows
def qk(x:Str):Str:=x++ajZ ".<locals>."++ajZ "<lambda>"
def oQ(K:aS)(P:Addr)(x:Str):Bool:=match W.tabIn K x with
 |some (_,qU)=>qU==P|none=>false
abbrev tY(K:aS)(ln:List Str):a8:=⟨λP=>∃x∈ln,∃c,W.tabIn K x=some (c,P),λP=>match ln.find? (oQ K P)with
 |some x=>qk x| none=>""⟩
def acK{K:aS}{ln:List Str}{x:Str}{c P:Addr}(ag:x∈ln)(bO:W.tabIn K x=some (c,P))(inj:∀y∈ln,oQ K P y=true->y=x):(tY K ln).tP P=qk x:=by
 show(match ln.find? (oQ K P)with|some x=>qk x|none=>"")=_;have YA:oQ K P x=true:=by unfold oQ;rw[bO];exact beq_self_eq_true P
 cases e:ln.find? (oQ K P)with
 |none=>exact absurd YA (anH.mp e x ag)|some y=>
  dsimp only;rw[inj y (an4 e) (List.find?_some e)]
def r2{K:aS}{x:Str}{f c P:Addr}{bK zK:Value}{dj Ej:Option Addr}{fd:akR}{bW n8:Array (Option Value)}{vs:Array Value}(a:amV K akf x=some (some (.ref f)))(l:K.lookup f=some ⟨bK,dj,.func fd,bW⟩)(aI:fd.code=.ref c)
  (d:K.lookup c=some ⟨zK,Ej,.fields vs,n8⟩) (e:vs[11]? = some (.ref P)):W.tabIn K x=some (c,P):=by
 unfold W.tabIn;rw[a];simp only[l,aI,d,e]
def XR{K:aS}{c P:Addr}{dj:Option Addr}{bW:Array (Option Value)}{vs:Array Value}{file:Str}{pj cj tt:Tok}{flags text:Int}{yY:Bool}(d:K.lookup c=some ⟨.type "code",dj,.fields vs,bW⟩)(sF:vs[11]? = some (.ref P))(Ca:vs.getD 11 .none=.ref P)
  (Cb:vs.getD 18 .none=.str file pj) (Cc:vs.getD 7 .none=.int flags cj) (Cd:vs.getD 9 .none=.bool yY) (B':vs.getD 10 .none=.int text tt) (ne:c≠P):∀h,K.In h->W.CodeHd h c P:=λh X=>
 ⟨_,vs,file,pj,flags,cj,yY,text,tt,X _ _ d,rfl,rfl,sF,Ca,Cb,Cc,Cd,B',ne⟩
def TQ{K:aS}{st:Stmt}{IY:akR}(X:K.In h)(G:h.Ns akf mg)(a:amV K akf x=some (some (.ref VX)))(l:K.lookup VX=some ⟨aji,ajk,.func IY,ajs⟩)(aI:IY.code=.ref c) :
  ∀(f:Addr)(bK:Value)(dj:Option Addr)(cI doc pm:Value)(an:Option Addr)(bw cw:Value)(fJ:Array (Option Value)),mg x=some (.ref f)->K.lookup f=some ⟨bK,dj,.func (alr x x (iq st) (fF st) (bH st) .none cI doc pm an bw cw),fJ⟩->bw=.ref c:=by
 intro f bK dj cI doc pm an bw cw fJ hm au;have e:=anr X G a;rw[hm]at e;cases e;rw[l]at au;cases au;exact aI
def QA{l:W.OpenLaw}{w:World}{K:aS}{mg:bq}{ec:Addr}{k:Nat}{st:Stmt}[aF.a8](X5:mg "law"=some (.ref ec))(P8:cu K mg "law" st ["script"])
  (af:∀(cI doc pm:Value)(an:Option Addr)(bw cw v:Value),alU (alr "law" "law" (iq st) (fF st) (bH st) .none cI doc pm an bw cw) ⟨[v],[]⟩=pure [(("script":Str),v)])
  (ok:∀(base:Heap),kK base mg->∀(f:Addr)(fd:akR),lu K "law" "law" st f fd->fq l.prog w K mg base eT k f fd ["script"] (w3 K)) :
  ∃fd:akR,(∀(s:ajH)(v:Value),BindsTo s fd ⟨[v],[]⟩ [("script",v)])/\∀base:Heap,K.In base->base.Ns akf mg->kK base mg->fq l.prog w K mg base eT k ec fd ["script"] (w3 K):=by
 obtain⟨f,fd,F,b,m⟩:=P8.ex;have e:aka ec=aka f:=akd (X5.symm.trans m);cases e;refine⟨fd,λs v=>?_,λbase _ _ bm=>ok base bm ec fd F⟩;obtain⟨bK,dj,cI,doc,pm,an,bw,cw,fJ,rfl,lk,gM⟩:=F.ex;exact .of_eq (af cI doc pm an bw cw v)
def ZI{P:ajY}{w:World}{K:aS}{mg di:bq}{k:Nat}{ec a:Addr}{fd:akR}{dD:ajH}{vs:List Value}{ns:List Int}[aF.a8]
  (dH:K.In dD.heap) (yP:dD.heap.Ns akf mg) (af:dD.heap.Ns anY di) (XM:∀x:Str,x≠"__name__"->di x=akx x) (Yh:dD.heap.NoLimit) (aU:dD.gens=#[])
  (ar:dD.heap.get? a=some { cls:=.type "list",data:=.seq vs.toArray }) (aD:ak1 vs ns) (au:ns.length<=63) (aB:cK k an7)
  (CQ:kK dD.heap mg) (F:∀base:Heap,K.In base->base.Ns akf mg->kK base mg->fq P w K mg base eT k ec fd ["script"] (w3 K)) (my:∀(s:ajH)(u:Value),BindsTo s fd ⟨[u],[]⟩ [("script",u)])
  (e1:∀p,a8.hh p->dD.heap.get? p=some (W.tabObj #[])/\isCodeTable dD.heap p/\K.lookup p=none) :
  amn (model P w) an7 (.call (.ref ec) ⟨[.ref a],[]⟩) (λr aQ=>r=.ok (.ret (.bool true))/\OldK dD.heap aQ.heap/\aQ.os=dD.os/\am4 aQ.gens) dD:=by
 have bR:=PA aD;have ZR:=aD.length;have J1:ns.length<=ajL:=by rw[ake];omega
 have aav:¬a8.hh a:=λz=>by have:=(e1 a z).1;rw[ar]at this;cases this
 have core:∀H:aw,(∀b,H b=none\/(∃o xs,H b=some (.cg o (.lst xs)))\/(a8.hh b/\H b=some (.gw #[])))->dx K H a (ns.map V.int)->TabsOk H->fs P w H dD.heap->(∀b,H b≠none->b=a\/a8.hh b)->(∀b,H b≠none->K.lookup b=none)->
   amn (model P w) an7 (.call (.ref ec) ⟨[.ref a],[]⟩) (λr aQ=>r=.ok (.ret (.bool true))/\OldK dD.heap aQ.heap/\aQ.os=dD.os/\am4 aQ.gens) dD:=by
  intro H Wt cX Wx bP nF hI;have wc:∀{b:Addr}{o:Obj}{ay:Array am6}{cB:Nat},dD.heap.get? b=some o->o.data=.dict ay cB->H b=none:=λ{b o ay cB} e d=>by
   cases q:H b with
   |none=>rfl|some u=>
    rcases nF b (by rw[q];simp)with cF|cF
    .subst cF
     rw[ar]at e;cases e;cases d
    .rw[(e1 b cF).1]at e;cases e
     cases d
  have zH:∀{b:Addr}{m:bq},dD.heap.Ns b m->(oJ dD.heap H).Ns b m:=λ{b m} ⟨o,ay,cB,e,d,r⟩=>⟨o,ay,cB,C0 e (wc e d),d,r⟩
  have Jz:K.In (oJ dD.heap H):=λb o e=>C0 (dH b o e) (by
   cases q:H b with
   |none=>rfl| some u=>rw[hI b (by rw[q];simp)]at e;cases e)
  have Ws:Mod K mg (oJ dD.heap H):=⟨Jz,zH yP,⟨di,zH af,XM⟩,let⟨gN,ae,ah⟩:=Yh;⟨gN,zH ae,ah⟩⟩;have eb:lr P w K mg (oJ dD.heap H) an7 [] dD H:=⟨rfl,Ws,λb o e=>aaU e,ali (X' _ _),trivial,λb af=>absurd (show b∈([]:List Addr)from af) (by simp),bP,.of_eq aU⟩;have Wn:kK (oJ dD.heap H) mg:=by
   obtain⟨bm,o,b4,b5,gX,hX,jV,uw,ux⟩:=CQ.ex;refine⟨bm,o,b4,b5,gX,C0 hX ?_,jV,uw,ux⟩
   cases q:H bm with
   |none=>rfl|some u=>
    rcases nF bm (by rw[q];simp)with cF|cF
    .subst cF
     rw[ar]at hX;cases hX;cases ux
    .rw[(e1 bm cF).1]at hX;cases hX
     cases ux
  refine alV ((F _ Jz (zH yP) Wn).run an7 [] dD H ⟨[.ref a],[]⟩ [.ref a] [.ref a] (λv _=>v=.aC true) jj aB eb (my dD (.ref a)) (.cons rfl .nil) ⟨a,ns,rfl,cX,au,Wx,λ_=>rfl⟩) λr aQ h=>?_
  cases r with
  |error e=>exact akl h|ok ba=>
   cases ba with
   |next=>exact akl h
   |brk=>exact akl h|cont=>exact akl h|ret u=>
    obtain⟨v,H',os,bare,un,J7,bT,q⟩:=h;have hM:v=.aC true:=q;subst hM;obtain rfl:u=amu true:=bT;have each:∀b o,dD.heap.get? b=some o->asItWas dD.heap aQ.heap b o/\∃o',aQ.heap.get? b=some o':=λb o e=>by
     rcases Wt b with z|⟨bD,xs,z⟩|⟨t,z⟩
     .have:=un.keep b o e z (by intro w;exact absurd (show b∈([]:List Addr)from w) (by simp)) (by simp)
      exact⟨.inl this,o,this⟩
     .have eS:=un.oA b bD _ z
      obtain⟨ao,_⟩:=bP b _ z;obtain⟨az,_⟩:=J7 b _ eS;rw[e]at ao;cases ao;exact⟨.inl az,_,az⟩
     .obtain⟨more,eS⟩:=un.ph b #[] z
      have az:aQ.heap.get? b=_:=J7 b _ eS;rw[(e1 b t).1]at e;cases e;exact⟨.inr (.inl ⟨(e1 b t).2.1,rfl,#[],more,rfl,az⟩),_,az⟩
    exact⟨rfl,⟨λb o e=>(each b o e).1,λb o e=>(each b o e).2⟩,os,bare⟩
 classical
 have O6:∀(H:aw),(∀p,a8.hh p->H p=some (.gw #[]))->TabsOk H:=λH h p aK=>⟨#[],h p aK,trivial,λpos iL z=>by cases z⟩
 cases ax:K.lookup a with
 |some o=>
  have e:=dH a o ax;rw[ar]at e;cases e;refine core (λb=>if a8.hh b then some (.gw #[])else none) (λb=>?_) (.inr ⟨_,vs.toArray,_,ax,rfl,rfl,rfl,by rw[ajT,ZR];exact J1,by simpa using bR⟩) (O6 _ λp aK=>if_pos aK) (λb u z=>?_) (λb z=>?_) λb z=>?_
  .by_cases t:a8.hh b
   .exact .inr (.inr ⟨t,if_pos t⟩)
   .exact .inl (if_neg t)
  .by_cases t:a8.hh b
   .have lj:=(if_pos t).symm.trans z
    cases lj;exact(e1 b t).1
   .have lj:=(if_neg t).symm.trans z
    cases lj
  .by_cases t:a8.hh b
   .exact .inr t
   .exact absurd (if_neg t) z
  .by_cases t:a8.hh b
   .exact(e1 b t).2.2
   .exact absurd (if_neg t) z
 |none=>
  refine core (λb=>if b=a then some (.cg { cls:=.type "list",data:=.seq vs.toArray } (.lst (ns.map V.int)))else if a8.hh b then some (.gw #[])else none) (λb=>?_) (.inl (.inr ⟨{ cls:=.type "list",data:=.seq vs.toArray },if_pos rfl⟩)) (O6 _ λp aK=>?_) (λb u z=>?_) (λb z=>?_) λb z=>?_
  .by_cases af:b=a
   .exact .inr (.inl ⟨_,_,if_pos af⟩)
   .by_cases t:a8.hh b
    .exact .inr (.inr ⟨t,by rw[if_neg af,if_pos t]⟩)
    .exact .inl (by rw[if_neg af,if_neg t])
  .rw[if_neg (by rintro rfl;exact aav aK),if_pos aK]
  .by_cases af:b=a
   .have lj:=(if_pos af).symm.trans z
    cases lj;subst af;exact⟨ar,by rw[ajE];exact J1,vs,_,bR,ar⟩
   .try dsimp only at z
    rw[if_neg af]at z
    by_cases t:a8.hh b
    .rw[if_pos t]at z;cases z
     exact(e1 b t).1
    .rw[if_neg t]at z;cases z
  .by_cases af:b=a
   .exact .inl af
   .try dsimp only at z
    rw[if_neg af]at z
    by_cases t:a8.hh b
    .exact .inr t
    .rw[if_neg t]at z;exact absurd rfl z
  .by_cases af:b=a
   .rw[af];exact ax
   .try dsimp only at z
    rw[if_neg af]at z
    by_cases t:a8.hh b
    .exact(e1 b t).2.2
    .rw[if_neg t]at z;exact absurd rfl z
def afM{l:W.OpenLaw}{q:ajY}{k:Nat}{loose:List Str}{xH:(Str->Option Value)->Heap->Prop}{ur:World->Heap->Prop}{d:DefRec}{K:Params->aS}(ln:List Str)(aH:l.most=some 63)(CU:d.params.defaults=[])(aB:cK k an7)
  (C9:∀x∈ln,∃d,(recsOf q).find? (λe=>e.name==x)=some d) (Yp:∀p,W.noTabs (K p)=true)
  (Wy:∀(w:World)(h:Heap),ur w h->(K w.params).In h)
  (F:∀(w:World)(mg:bq)(ec:Addr)(h:Heap),(K w.params).In h->h.Ns akf mg->mg d.name=some (.ref ec)->
   ∃fd:akR,(∀(s:ajH)(u:Value),BindsTo s fd ⟨[u],[]⟩ [("script",u)])/\∀base:Heap,(K w.params).In base->base.Ns akf mg->kK base mg->@fq l.prog w (K w.params) mg base eT k ec fd ["script"] (@w3 (tY (K w.params) ln) (K w.params))) :
  W.WalkO q loose xH ur l.row.toRowW d [] (λf vs=>PySem.call f vs):=by
 refine FX.QK aH CU λw hg dD mg di ec o pm cd doc a vs ns G σ bf hd gM vg C6 hints hlen aU=>?_
 have dH:=Wy w _ σ;obtain⟨fd,af,dy⟩:=F w mg ec _ dH G.T.g vg
 letI:=tY (K w.params) ln
 have CQ:kK dD.heap mg:=by
  obtain⟨bm,bD,b4,b5,gX,hX,jV,uw⟩:=G.T.bmain;refine⟨bm,bD,b4,b5,λq=>?_,gX,hX,jV,uw⟩;obtain⟨o,ay,cB,e,hd,_⟩:=G.T.g;rw[q,e]at gX;cases gX;rw[hd]at uw;cases uw
 refine ZI dH G.T.g G.T.b G.T.builtins G.T.nolimit aU C6 hints hlen aB CQ dy af λp aX=>?_
 obtain⟨x,ag,c,bO⟩:=aX;obtain⟨d,hd⟩:=C9 x ag;obtain⟨ae,ah⟩:=W.tab_of G.T dH hd bO;refine⟨ah,(ae.tab ah).isCodeTable,?_⟩
 cases e:(K w.params).lookup p with
 |none=>rfl|some o=>
  have az:=dH p o e;rw[ah]at az;cases az;have bF:=akE.mp (Yp w.params) (p,_) (W.mem_of_lookupK e);exact absurd (show false=true from bF) ajO
def DW{K:aS}{h:Heap}{mg:bq}{x:Str}{st:Stmt}{ln:List Str}{f c P:Addr}{bK zK:Value}{dj Ej:Option Addr}{fd:akR}{bW n8:Array (Option Value)}{vs:Array Value}{file:Str}{pj cj tt:Tok}{flags text:Int}{yY:Bool}(X:K.In h)(G:h.Ns akf mg)(ag:x∈ln)
  (a:amV K akf x=some (some (.ref f))) (l:K.lookup f=some ⟨bK,dj,.func fd,bW⟩) (aI:fd.code=.ref c) (d:K.lookup c=some ⟨zK,Ej,.fields vs,n8⟩) (yQ:zK=.type "code") (sF:vs[11]? = some (.ref P)) (Ca:vs.getD 11 .none=.ref P)
  (Cb:vs.getD 18 .none=.str file pj) (Cc:vs.getD 7 .none=.int flags cj) (Cd:vs.getD 9 .none=.bool yY) (B':vs.getD 10 .none=.int text tt) (ne:c≠P) (inj:∀y∈ln,oQ K P y=true->y=x) :
  ∃c P,@ng (tY K ln) K c P (qk x)/\∀(f:Addr)(bK:Value)(dj:Option Addr)(cI doc pm:Value)(an:Option Addr)(bw cw:Value)(fJ:Array (Option Value)),mg x=some (.ref f)->K.lookup f=some ⟨bK,dj,.func (alr x x (iq st) (fF st) (bH st) .none cI doc pm an bw cw),fJ⟩->bw=.ref c:=by
 subst yQ;have bO:=r2 a l aI d sF;exact⟨c,P,@ng.mk (tY K ln) K c P (qk x) (XR d sF Ca Cb Cc Cd B' ne) ⟨x,ag,c,bO⟩ (acK ag bO inj),TQ X G a l aI⟩
end a0
namespace a0
open PySem PySem.Spec aF PyProof.Rows
variable[aF.a8]
section
variable{X:aT}{k:Nat}{e:Expr}{c_:bo}{Z:f_}{p pos kp:Pos}
def PC{c P:Addr}{q p1:Str}{params:amI}{body:Expr}{scope:Scope}{k4:Pos}{N:List Str}{m:bo}(kl:Z.Ok)(aU:eU X "sorted")(hm:X.mg "sorted"=none)(aB:cK (k+3) X.A)(L:ng X.K c P q)(B:kK X.base X.mg)(nJ:X.env.code=.ref c)
  (a9:X.env.qual++ajZ "<lambda>"=q) (Sc:cb N [p1] scope)
  (my:∀(c:Addr)(pm hn u:Value),alU (W.kla_fn (ajZ "<lambda>") q params body scope [] pm (.ref c) hn) ⟨[u],[]⟩=pure [(p1,u)])
  (af:∀(f c:Addr)(A:aj4)(s:ajH)(H:aw),cK k (A.deeper (amo q scope s.heap.objs.size f (.ref c)))->a' (ho eT X.prog X.w X.K X.mg X.base N q scope f (.ref c) A X.stack s H jj).gO body m)
  (ar:a' X e c_) (oF:an3 params X.env=([],[]):=by rfl) (j3:ama scope X.env=pure []:=by rfl)
  (he:aj9 pos (ajG [e] X.env)=(false,eval e X.env)::aj9 pos (ajG [] X.env):=by rfl)
  (aE:ajG [e] X.env=(false,eval e X.env)::ajG [] X.env:=by rfl)
  (i6:(aj9 pos (ajG [e] X.env)).any (·.1)=false:=by rfl) :
  a' X (.Call (.Name "sorted" p) [e] [⟨some (ajZ "key"),.Lambda params body scope k4,kp⟩] pos) (qY Z (fnOf 1 N.length (bE m)) c_):=
 ⟨TJ kl aU hm aB L B nJ a9 Sc my (λf c A s H aB=>(af f c A s H aB).un) ar.un oF j3 he aE i6⟩
end
end a0
namespace a0
open PySem PySem.Spec aF PyProof.Rows
structure ue(P:ajY)(w:World)(K:aS)(mg:bq)(x:Str)(ps:List (Str×Str)):Prop where
 ex:∃(a:Addr)(ay:Array am6)(n:Nat),mg x=some (.ref a)/\alh a K=some { cls:=.type "dict",data:=.dict ay n }/\KeysOf (am0 P w) ay/\
  ∀k fn,ps.lookup k=some fn->∃f,anA akJ ay k=some (.ref f)/\mg fn=some (.ref f)
@[simp] def BA(ps:List (Str×Str))(mk:bo)(Y:aR):M R:=do
 let k <-mk Y
 match k with
 |.v (.str z)=>match ps.lookup z with
  |some fn=>pure (.v (.fn fn))|none=>bad
 |_=>bad
@[simp] def Bx(i:Nat)(aW:List (Str×bJ))(ms:c7)(Y:aR):M R:=match Y[i]? with
 |some (.v (.fn f))=>match aW.lookup f with
  |some mf=>bA mf ms Y|none=>bad
 |_=>bad
def aff(mg:bq)(ps:List (Str×Str))(ty:TE):TE:=λY H Q=>ty Y H λy H1=>∃z fn f,y=.str z/\ps.lookup z=some fn/\mg fn=some (.ref f)/\Q (.ref f) H1
variable[aF.a8]
section
variable{X:aT}{x:Str}{ps:List (Str×Str)}{i:Expr}{pos p:Pos}{ty:TE}{mk:bo}{j k:Nat}{e:Expr}{ay:List Expr}{ms:c7}{pp:List Str}{aW:List (Str×bJ)}
omit [aF.a8]in
theorem ab4(T:ue X.prog X.w X.K X.mg x ps)(aU:eU X x)(aD:bY X i ty)(aE:uj i)(e7:(x==("__debug__":Str))=false:=by decide):bY X (.Subscript (.Name x p) i pos) (aff X.mg ps ty):=by
 intro zn s Y H Q J h;obtain⟨a,ds,n,hm,au,ax,hf⟩:=T.ex;refine OV an0.lookup aE (s_ J aU hm ?_ e7);refine bZ (aD zn s Y H _ J h) λqh s2 aX=>?_
 obtain⟨y,aM,bX,bC,z,fn,f,fz,el,em,cf⟩:=aX;subst fz;obtain⟨t,rfl⟩:=bC;have ar:=bX.fp a _ au;obtain⟨q_,ao,az⟩:=hf z fn el;rw[em]at az;cases az;refine⟨⟨_,ar,rfl⟩,?_⟩;refine wpAny_getItem_of (knd:=am0 X.prog X.w) (k:=z) (f:=anA akJ ds) (v:=.ref f) ?_ ?_ ao ?_
 .show(z==z)=true
  simp
 .exact⟨_,ds,n,ar,⟨rfl,rfl,rfl⟩,rfl,ax,λ_=>rfl⟩
 .exact⟨.ref f,aM,bX.tok _,rfl,cf⟩
omit [aF.a8]in
theorem abM(hN:X.N[j]? = some x)(bL:qX X.env.scope x)(aB:cK k X.A){t:gA}(ar:gm X (e::ay) t)(e7:(x==("__debug__":Str))=false:=by decide)(gM:(x==("__classdict__":Str))=false:=by decide)
  (he:ajG (e::ay) X.env=(false,eval e X.env)::ajG ay X.env:=by rfl) (fm:(aj9 pos (ajG ay X.env)).any (·.1)=false:=by rfl) :
  bY X (.Call (.Name x p) (e::ay) [] pos) (λY H Q=>∃(f:Addr)(fd:akR)(sp:eo),Y[j]? = some (some (.ref f))/\fq X.prog X.w X.K X.mg X.base eT k f fd pp sp/\Binds X.K fd pp []/\alB X.K (.ref f)=true/\t Y H λvs H1=>sp vs H1 Q jj):=by
 rintro zn s Y H Q J ⟨f,fd,sp,ev,F,b,kp,h⟩;refine ala (bZ (zS hN bL e7 gM zn s Y H (λv H'=>v=.ref f/\H'=H) J ⟨.ref f,ev,rfl,rfl⟩) λu s1 aX=>?_);obtain⟨v,H1,a_,bG,ao,az⟩:=aX;subst ao az;obtain rfl:u=aka f:=bG;refine aoa (h₀:=X.base) J.ok.mod.s7 kp (bZ (ar pos zn s1 Y H1 _ a_ h) λus s2 ⟨vs,aM,bX,r,q⟩=>⟨bX.fp,?_⟩) he fm;exact wW (dvs:=[]) (ds:=[]) F aB b .nil rM bX r (by simpa only[akG]using q)
def PD(T:ue X.prog X.w X.K X.mg x ps)(aU:eU X x)(aD:a' X i mk)(aE:uj i:=by exact λ_ _=>rfl)(e7:(x==("__debug__":Str))=false:=by decide):a' X (.Subscript (.Name x p) i pos) (BA ps mk):=⟨eI (ab4 T aU aD.un aE e7) λav H Q aX=>by
 obtain⟨O,Y,S,r,ai,st,h,q⟩:=aX;obtain⟨y,S1,ae,h⟩:=M.inv h;split at h
 .rename_i z
  split at h
  .rename_i fn el
   cases h;obtain⟨_,_,_,_,_,_,hall⟩:=T.ex;obtain⟨f,_,em⟩:=hall z fn el;refine⟨O,Y,S,_,_,st,ae,λaO v H1 g1 aV bu nn=>?_⟩;exact⟨z,fn,f,bu,el,em,q aO _ H1 g1 aV ⟨f,rfl,em⟩ trivial⟩
  .cases h
 .cases h⟩
def afZ(X7:∀f mf,aW.lookup f=some mf->b_ X.prog X.w X.K X.mg X.base f pp k (b3 X.K X.mg mf))(hN:X.N[j]? = some x)(bL:qX X.env.scope x)(aB:cK k X.A)(ar:gK X (e::ay) ms)(e7:(x==("__debug__":Str))=false:=by decide)(gM:(x==("__classdict__":Str))=false:=by decide)
  (he:ajG (e::ay) X.env=(false,eval e X.env)::ajG ay X.env:=by rfl) (fm:(aj9 pos (ajG ay X.env)).any (·.1)=false:=by rfl):a' X (.Call (.Name x p) (e::ay) [] pos) (Bx j aW ms):=⟨eI (abM (pp:=pp) hN bL aB ar.un e7 gM he fm) λav H Q aX=>by
  obtain⟨O,Y,S,r,ai,st,h,q⟩:=aX;unfold Bx at h;split at h
  .rename_i f B4
   split at h
   .rename_i mf el
    obtain⟨ec,fd,F,b,kp,m⟩:=(X7 f mf el).ex;obtain⟨v,ev,a,rfl,em⟩:=st.loc j _ B4;have:a=ec:=by
     rw[m]at em;cases em;rfl
    subst this;have VF:av[j]? = some (some (.ref a)):=by
     cases w:av[j]? with
     |none=>rw[w]at ev;cases ev
     |some y=>rw[w]at ev;exact congrArg some ev
    exact⟨a,fd,_,VF,F,b,kp,BC av H Q ⟨O,Y,S,r,ai,st,h,q⟩⟩
   .cases h
  .cases h⟩
end
omit [aF.a8]in
theorem lookup_all{α β:Type}[BEq α][LawfulBEq α]{P:α->β->Prop}:∀{l:List (α×β)},(∀x∈l,P x.1 x.2)->∀a b,l.lookup a=some b->P a b
 |[],_,_,_,h=>by cases h
 |(c,d)::l,aK,a,b,h=>by
  rw[aku]at h;split at h
  .rename_i e
   cases h;rw[eq_of_beq e];exact aK _ ajR
  .exact lookup_all (λx ag=>aK x (ajM _ ag)) a b h
omit [aF.a8]in
theorem VO{P:ajY}{w:World}{K:aS}{h:Heap}{mg:bq}{x:Str}{d:Addr}{ay:Array am6}{n:Nat}{ps:List (Str×Str)}(X:K.In h)(G:h.Ns akf mg)
  (a:amV K akf x=some (some (.ref d))) (l:alh d K=some { cls:=.type "dict",data:=.dict ay n }) (k:∀e∈ay.toList,∃s,akJ s e.key=true/\e.hash=hashStr w s)
  (f:∀p∈ps,∃f,amV K d p.1=some (some (.ref f))/\amV K akf p.2=some (some (.ref f))):ue P w K mg x ps:=by
 refine⟨d,ay,n,anr X G a,l,λe he=>?_,lookup_all (P:=λk fn=>∃f,anA akJ ay k=some (.ref f)/\mg fn=some (.ref f)) λp aK=>?_⟩
 .obtain⟨s,ae,ah⟩:=k e (by simpa using he)
  exact⟨s,ae,ah⟩
 .obtain⟨f,ae,ah⟩:=f p aK
  exact⟨f,W.find_K l ae,anr X G ah⟩
omit [aF.a8]in
theorem tA{K:aS}{P qU c:Addr}{x y:Str}(bO:W.tabIn K y=some (c,qU))(ne:qU≠P)(h:oQ K P y=true):y=x:=by
 unfold oQ at h;rw[bO]at h;exact absurd (eq_of_beq h) ne
end a0
namespace a0
open PySem PySem.W PyProof.Rows
def gj{α:Type}(n:Nat)(lt:Nat->Nat->Bool):KasT α->(α->Prop)->Prop
 |.ret a,Q=>Q a|.ask i j k,Q=>i<n/\j<n/\gj n lt (k (lt i j)) Q
theorem gj.bind{α β:Type}{n:Nat}{lt:Nat->Nat->Bool}{f:α->KasT β}{Q:β->Prop}:∀{t:KasT α},gj n lt t (λa=>gj n lt (f a) Q)->gj n lt (t.bind f) Q
 |.ret _,h=>h|.ask _ _ k,h=>⟨h.1,h.2.1,gj.bind (t:=k _) h.2.2⟩
theorem gj.imp{α:Type}{n:Nat}{lt:Nat->Nat->Bool}{Q f':α->Prop}(a9:∀a,Q a->f' a):∀{t:KasT α},gj n lt t Q->gj n lt t f'
 |.ret a,h=>a9 a h|.ask _ _ k,h=>⟨h.1,h.2.1,gj.imp a9 (t:=k _) h.2.2⟩
theorem gj.wp{α:Type}{n:Nat}{lt:Nat->Nat->Bool}{cmp:Nat->Nat->(Bool->ajH->Prop)->ajH->Prop}{W:ajH->Prop}(aI:∀i j C s,i<n->j<n->W s->(∀aQ,W aQ->C (lt i j) aQ)->cmp i j C s){G:α->ajH->Prop} :
  ∀{t:KasT α}{s:ajH},W s->gj n lt t (λa=>∀aQ,W aQ->G a aQ)->t.kasWp cmp G s
 |.ret _,s,w,h=>h s w|.ask i j k,s,w,h=>aI i j _ s h.1 h.2.1 w λaQ eC=>gj.wp aI (t:=k _) eC h.2.2
structure Ord(n:Nat)(lt:Nat->Nat->Bool):Prop where
 k_:∀i j k,i<n->j<n->k<n->lt i j=true->lt j k=true->lt i k=true
 O9:∀i j,i<n->j<n->i≠j->lt i j=false->lt j i=true
 ahR:∀i j,i<n->j<n->lt i j=true->lt j i=false
structure Row(n:Nat)(p:Array Nat):Prop where
 lY:p.size=n
 lt:∀i,i<n->p.getD i 0<n
 ap:∀i j,i<n->j<n->i≠j->p.getD i 0≠p.getD j 0
 pm:p.toList.Perm (aj6 n)
def E3{p:Array Nat}(h:p.toList.Perm (aj6 n)):Row n p:=by
 have lY:p.size=n:=by
  have:=h.length_eq;simpa using this
 have bV:∀i,i<n->p.toList[i]? = some (p.getD i 0):=λi aD=>by
  have:i<p.size:=by omega
  simp[Array.getD,this]
 refine⟨lY,λi aD=>?_,λi j aD aZ ne e=>?_,h⟩
 .exact akM.mp (h.mem_iff.mp (akt (bV i aD)))
 .have dZ:p.toList.Nodup:=h.nodup_iff.mpr List.nodup_range
  have ao:=bV i aD;rw[e,<-bV j aZ]at ao;exact ne ((List.getElem?_inj (by simpa using(by omega:i<p.size)) dZ).mp ao)
def Row.Mo(h:Row n p)(e:q.Perm p):Row n q:=E3 (e.toList.trans h.pm)
abbrev m9(lt:Nat->Nat->Bool)(p:Array Nat)(m:Nat):Prop:=∀i j,i<j->j<m->lt (p.getD i 0) (p.getD j 0)=true
section
variable{n:Nat}{lt:Nat->Nat->Bool}(O:Ord n lt)
include O
theorem Gn{p:Array Nat}(h:Row n p)(hm:m<=n)(Qu:∀i,1<=i->i<m->lt (p.getD (i-1) 0) (p.getD i 0)=true):m9 lt p m:=by
 intro i j rm
 induction j with
 |zero=>omega|succ j a6=>
  intro aZ;have a:=Qu (j+1) (by omega) aZ;rw[Nat.add_sub_cancel]at a
  by_cases q:i=j
  .subst q;exact a
  .exact O.k_ _ _ _ (h.lt i (by omega)) (h.lt j (by omega)) (h.lt (j+1) (by omega)) (a6 (by omega) (by omega)) a
theorem flip{p:Array Nat}(h:Row n p)(ae:1<=i)(aD:i<n)(e:lt (p.getD i 0) (p.getD (i-1) 0)=false):lt (p.getD (i-1) 0) (p.getD i 0)=true:=
 O.O9 _ _ (h.lt i aD) (h.lt (i-1) (by omega)) (h.ap i (i-1) aD (by omega) (by omega)) e
omit O in
theorem CS{p:Array Nat}(h:Row n p){Q:Nat->Prop}:∀(f m:Nat),1<=m->m+f=n->(∀eQ,m<=eQ->eQ<=n->(∀i,m<=i->i<eQ->lt (p.getD i 0) (p.getD (i-1) 0)=false)->(eQ=n\/eQ<n/\lt (p.getD eQ 0) (p.getD (eQ-1) 0)=true)->Q eQ)->gj n lt (kas_asc p f m) Q
 | 0,m,ae,e,q=>q m (ajK _) (by omega) (fun i _ _=>by omega) (.inl (by omega))|f+1,m,ae,e,q=>by
  refine⟨h.lt m (by omega),h.lt (m-1) (by omega),?_⟩
  cases c:lt (p.getD m 0) (p.getD (m-1) 0)with
  |true=>exact q m (ajK _) (by omega) (λi _ _=>by omega) (.inr ⟨by omega,c⟩)|false=>
   refine CS h f (m+1) (by omega) (by omega) λeQ a1 a2 eV hD=>q eQ (by omega) a2 (λi b4 b5=>?_) hD
   by_cases z:i=m
   .rw[z];exact c
   .exact eV i (by omega) b5
theorem JQ{p:Array Nat}(h:Row n p){Q:Array Nat×Nat×Nat->Prop}:∀(f m:Nat),1<=m->m+f=n->(∀eQ,m<=eQ->eQ<=n->(∀i,m<=i->i<eQ->lt (p.getD i 0) (p.getD (i-1) 0)=true)->Q (p,eQ,0))->gj n lt (kas_desc f p m 0) Q
 | 0,m,ae,e,q=>q m (ajK _) (by omega) (fun i _ _=>by omega)|f+1,m,ae,e,q=>by
  refine⟨h.lt m (by omega),h.lt (m-1) (by omega),?_⟩
  cases c:lt (p.getD m 0) (p.getD (m-1) 0)with
  |true=>
   refine JQ h f (m+1) (by omega) (by omega) λeQ a1 a2 eV=>q eQ (by omega) a2 λi b4 b5=>?_
   by_cases z:i=m
   .rw[z];exact c
   .exact eV i (by omega) b5
  |false=>
   refine⟨h.lt (m-1) (by omega),h.lt m (by omega),?_⟩;rw[flip O h ae (by omega) c];exact q m (ajK _) (by omega) (λi _ _=>by omega)
omit O in
theorem Ng{p:Array Nat}(h:Row n p){m:Nat}(hm:m<=n){k:Nat}(ax:k<n):(kas_rev p 0 m).getD k 0=if k<m then p.getD (m-1-k) 0 else p.getD k 0:=by
 have e:=getElem?_mirror_all (xs:=p) (i:=0) (j:=m) (by rw[h.lY];exact hm) k;have bV:∀(q:Array Nat)(i:Nat),q.getD i 0=(q[i]?).getD 0:=λq i=>by simp[anI]
 rw[bV,bV,bV];unfold kas_rev;rw[e]
 by_cases z:k<m
 .rw[if_pos ⟨aj5 _,z⟩,if_pos z,aod]
 .rw[if_neg (λy=>z y.2),if_neg z]
theorem XQ{Q:Nat×Array Nat->Prop}(h:Row n p)(aH:1<=n)(q:∀m qw,1<=m->m<=n->Row n qw->m9 lt qw m->Q (m,qw)):gj n lt (kas_count n p) Q:=by
 refine gj.bind (CS h (n-1) 1 (ajK _) (by omega) λm a1 a2 eV hD=>?_);have as:m9 lt p m:=Gn O h a2 λi b4 b5=>flip O h b4 (by omega) (eV i b4 b5)
 by_cases e:m=n
 .rw[if_pos (by rw[e];exact beq_self_eq_true n)]
  exact q m p a1 a2 h as
 .rw[if_neg (by intro z;exact e (eq_of_beq z))]
  by_cases ao:m > 1
  .rw[if_pos ao]
   refine⟨h.lt 0 (by omega),h.lt (m-1) (by omega),?_⟩;rw[as 0 (m-1) (by omega) (by omega)];exact q m p a1 a2 h as
  .rw[if_neg ao]
   have mN:m=1:=by omega
   subst mN;have gB:lt (p.getD 1 0) (p.getD 0 0)=true:=by
    rcases hD with z|z
    .exact absurd z e
    .exact z.2
   refine gj.bind (JQ O h (n-(1+1)) (1+1) (by omega) (by omega) λm a1 a2 eV=>?_);rw[if_neg (by exact akn 0)];have aB:Row n (kas_rev p 0 m):=h.Mo (mirror_perm _ _ _ _);refine gj.bind (CS aB (n-m) m (by omega) (by omega) λeQ b4 b5 gX _=>?_);refine q eQ _ (by omega) b5 aB (Gn O aB b5 λi bQ ab=>?_)
   by_cases z:i<m
   .rw[Ng h a2 (k:=i-1) (by omega),Ng h a2 (k:=i) (by omega),if_pos (by omega),if_pos z,show m-1-(i-1)=m-1-i+1 by omega]
    by_cases y:m-1-i+1=1
    .rw[y,show m-1-i=0 by omega];exact gB
    .have:=eV (m-1-i+1) (by omega) (by omega)
     rwa[Nat.add_sub_cancel]at this
   .exact flip O aB bQ (by omega) (gX i (by omega) ab)
theorem CT{p:Array Nat}(h:Row n p){k:Nat}(ax:k<n){Q:Nat->Prop}(q:∀l,l<=k->(∀i,i<l->lt (p.getD i 0) (p.getD k 0)=true)->(∀i,l<=i->i<k->lt (p.getD k 0) (p.getD i 0)=true)->Q l)(as:m9 lt p k) :
  ∀(f l r:Nat),r-l<=f->l<=r->r<=k->(∀i,i<l->lt (p.getD i 0) (p.getD k 0)=true)->(∀i,r<=i->i<k->lt (p.getD k 0) (p.getD i 0)=true)->gj n lt (kas_place p k f l r) Q
 |0,l,r,hf,ae,ah,a,b=>q l (by omega) a λi c d=>b i (by omega) d
 |f+1,l,r,hf,ae,ah,a,b=>by
  unfold kas_place
  by_cases e:l≥r
  .rw[if_pos e];exact q l (by omega) a λi c d=>b i (by omega) d
  .rw[if_neg e]
   have hm:(l+r) / 2<r:=by omega
   have au:l<=(l+r) / 2:=by omega
   generalize(l+r) / 2=m at hm au;refine⟨h.lt k ax,h.lt m (by omega),?_⟩
   cases c:lt (p.getD k 0) (p.getD m 0)with
   |true=>
    refine CT h ax q as f l m (by omega) au (by omega) a λi gB dh=>?_
    by_cases z:i=m
    .rw[z];exact c
    .exact O.k_ _ _ _ (h.lt k ax) (h.lt m (by omega)) (h.lt i (by omega)) c (as m i (by omega) dh)
   |false=>
    refine CT h ax q as f (m+1) r (by omega) (by omega) ah (λi gB=>?_) b;have c':=O.O9 _ _ (h.lt k ax) (h.lt m (by omega)) (h.ap k m ax (by omega) (by omega)) c
    by_cases z:i=m
    .rw[z];exact c'
    .exact O.k_ _ _ _ (h.lt i (by omega)) (h.lt m (by omega)) (h.lt k ax) (as i m (by omega) (by omega)) c'
theorem JP{Q:Array Nat->Prop}(q:∀p,Row n p->m9 lt p n->Q p):∀(f:Nat)(p:Array Nat)(k:Nat),Row n p->k+f=n->m9 lt p k->gj n lt (kas_bin f p k) Q
 | 0,p,k,h,e,as=>q p h (by rw[<-e];exact as)|f+1,p,k,h,e,as=>by
  refine gj.bind (CT O h (by omega) (λl ae a b=>?_) as k 0 k (by omega) (aj5 _) (ajK _) (λi z=>by omega) λi z y=>by omega);have aB:Row n (bubble p k (k-l)):=h.Mo (bubble_perm _ _ _);have at':∀i,i<n->(bubble p k (k-l)).getD i 0=if i=l then p.getD k 0 else if l<i/\i<=k then p.getD (i-1) 0 else p.getD i 0:=λi aD=>by
   have e:=getElem?_bubble (xs:=p) (src:=k) (by rw[h.lY];omega) (k-l) (by omega) i;have bV:∀(q:Array Nat)(i:Nat),q.getD i 0=(q[i]?).getD 0:=λq i=>by simp[anI]
   rw[bV,bV,bV,bV,e,show k-(k-l)=l by omega]
   by_cases z:i=l
   .rw[if_pos z,if_pos z]
   .rw[if_neg z,if_neg z]
    by_cases y:l<i/\i<=k
    .rw[if_pos y,if_pos y]
    .rw[if_neg y,if_neg y]
  refine JP q f _ (k+1) aB (by omega) λi j rm aZ=>?_
  rw[at' i (by omega),at' j (by omega)]
  by_cases fO:i=l
  .rw[if_pos fO,if_neg (by omega),if_pos (by omega)]
   exact b (j-1) (by omega) (by omega)
  .rw[if_neg fO]
   by_cases eS:l<i/\i<=k
   .rw[if_pos eS,if_neg (by omega),if_pos (by omega)]
    exact as (i-1) (j-1) (by omega) (by omega)
   .rw[if_neg eS]
    by_cases l4:j=l
    .rw[if_pos l4];exact a i (by omega)
    .rw[if_neg l4]
     by_cases m6:l<j/\j<=k
     .rw[if_pos m6]
      by_cases FR:i=j-1
      .exact absurd FR (by omega)
      .exact as i (j-1) (by omega) (by omega)
     .rw[if_neg m6];exact as i j rm (by omega)
theorem XS(aH:1<=n):gj n lt (kas_sort n) λp=>Row n p/\m9 lt p n:=by
 have h0:Row n (alY (aj6 n)):=E3 (by simp);refine gj.bind (XQ O h0 aH λm p a1 a2 aB as=>?_);have rF:max m 1=m:=by omega
 show gj n lt (if m<n then kas_bin (n-max m 1) p (max m 1)else .ret p) _;rw[rF]
 by_cases e:m<n
 .rw[if_pos e]
  exact JP O (λp h a=>⟨h,a⟩) _ _ _ aB (by omega) as
 .rw[if_neg e]
  have:m=n:=by omega
  subst this;exact⟨aB,as⟩
end
section
variable{prog:ajY}{w:World}{A:aj4}{E:cN}{s:ajH}
abbrev j8(h:Heap)(a:Addr)(vs:List Value):Heap:=((h.update a (akh λ_=>#[])).push (akk "tuple" vs.toArray 0)).push (akk "list" #[] 0)
def aaj{h:Heap}(af:b≠a)(e:h.get? b=some o):(j8 h a vs).get? b=some o:=
 ajF _ (ajF _ ((aov _ _ (amA af)).trans e))
def aer{vs:List Value}(short:vs.length<2):(arrOf (SortSt.mk' general' (vs.toArray.zip vs.toArray) #[] 7 none)).map (·.2)=alY ((alY (aj6 vs.length)).toList.map λi=>vs.getD i akS):=by
 show(vs.toArray.zip vs.toArray).map (·.2)=_;rcases vs with _|⟨_,_|⟨_,_⟩⟩
 .simp
 .simp
 .simp only[ajW]at short;omega
def aeA{a:Addr}{vs:List Value}{k:Nat}{AW:Fin->ajH->Prop}{lt:Nat->Nat->Bool}{κ:SortKind}(here:s.heap.get? a=some (akk "list" vs.toArray k))(ju:vs.length<64)(O:Ord vs.length lt)
  (kind:2<=vs.length->∀Q:SortKind->ajH->Prop,Q κ { s with heap:=j8 s.heap a vs }->wpAny (model prog w) A (keyKind' vs.toArray) Q (λ_ _=>False) { s with heap:=j8 s.heap a vs })
  (ask:∀(i j:Nat)(C:Bool->ajH->Prop),i<vs.length->j<vs.length->C (lt i j) { s with heap:=j8 s.heap a vs }->kas_ask prog w A κ vs i j C { s with heap:=j8 s.heap a vs })
  (fin:∀p:Array Nat,Row vs.length p->m9 lt p vs.length->AW (.done (.ret .none)) { s with heap:=sortedHeap s.heap a vs (alY (p.toList.map λi=>vs.getD i akS)) }) :
  wpAny (model prog w) A (ans.«list.sort» ⟨[.ref a],[]⟩) AW E s:=by
 have Lx:=ajV here;have small:vs.toArray.size<=ajL:=by rw[ajT,ake];omega
 obtain⟨cB,emptied⟩:∃cB,(s.heap.update a (akh λ_=>#[])).get? a=some (akk "list" #[] cB):=⟨_,alL here λ_=>#[]⟩;have mid:(j8 s.heap a vs).get? a=some (akk "list" #[] cB):=by
  unfold j8;rw[alQ _ _ _ (by rw[an2,aof];exact aj1 (amQ Lx)),alQ _ _ _ (by rw[aof];exact aj1 Lx)];exact emptied
 rw[list_sort_plain];refine ajD (listItems_at here rfl (ajD (al6 here rfl ?_ small (aj5 _))));refine ajD (anu emptied rfl (ajD (wpAny_newTuple ?_ small)));refine ajD (amz (akZ ?_) (aj5 _));show wpAny (model prog w) A _ AW E { s with heap:=j8 s.heap a vs };dsimp only
 by_cases two:vs.toArray.size<2
 .rw[if_pos two,if_pos two]
  have short:vs.length<2:=by rw[ajT]at two;exact two
  refine ajD (ajI ?_);rw[StateT.run_pure];refine ajD (ajI ?_);dsimp only;have R:Row vs.length (alY (aj6 vs.length)):=E3 (by simp);have same:=aer short;rw[same];refine ajD (anu mid rfl (ajD (al6 mid rfl ?_ (aj5 _) (by simp;rw[ake];omega))));simp only[failedOf,bne_self_eq_false,amb,if_false];exact ajI (fin _ R λi j ae ah=>by omega)
 .rw[if_neg two,if_neg two]
  have Pn:2<=vs.length:=by rw[ajT]at two;omega
  refine ajD (akm (kind Pn (λFW aQ=>FW=κ/\aQ={ s with heap:=j8 s.heap a vs }) ⟨rfl,rfl⟩) (λFW aQ ⟨ao,az⟩=>?_) λ_ _ z=>z.elim);subst ao az;have tree:(kas_sort vs.length).kasWp (kas_ask prog w A FW vs) (λp aQ=>aQ={ s with heap:=j8 s.heap a vs }/\Row vs.length p/\m9 lt p vs.length) { s with heap:=j8 s.heap a vs }:=
   gj.wp (W:=λaQ=>aQ={ s with heap:=j8 s.heap a vs }) (λi j C aQ aD aZ ws fT=>by subst ws;exact ask i j C aD aZ (fT _ rfl)) rfl ((XS O (by omega)).imp λp aK aQ ws=>⟨ws,aK⟩)
  refine ajD (akm (kat_run (Q:=λst aQ=>∃p:Array Nat,aQ={ s with heap:=j8 s.heap a vs }/\(arrOf st).map (·.2)=alY (p.toList.map λi=>vs.getD i akS)/\failedOf st=none/\Row vs.length p/\m9 lt p vs.length)
   rfl Pn ju (λp st aQ _ az cG ⟨fg,lG,oy⟩=>⟨p,fg,kat_snds rfl az,cG,lG,oy⟩) tree) ?_ λ_ _ e=>e)
  rintro⟨⟨⟩,st⟩ aQ ⟨p,rfl,out,ok,R,S⟩;dsimp only;rw[out];refine ajD (anu mid rfl (ajD (al6 mid rfl ?_ (aj5 _) ?_)))
  .rw[ok]
   simp only[bne_self_eq_false,amb,if_false];exact ajI (fin p R S)
  .rw[ajT,ajE,akz,R.lY,ake];omega
end
end a0
namespace a0
open PySem PySem.Spec aF
def gy(b:Bool)(h:Heap)(i l:Addr)(k:Nat):Prop:=match b with
 |true=>h.IsTupleIter i l k|false=>h.IsListIter i l k
def jn(b:Bool)(h:Heap)(l:Addr)(xs:Array Value):Prop:=match b with
 |true=>h.IsTuple l xs|false=>h.IsList l xs
def gy.extBut(x:gy b h a l i)(aE:Heap.ExtBut c h h')(u6:a≠c):gy b h' a l i:=by
 cases b with
 |true=>exact Heap.IsTupleIter.extBut x aE u6|false=>exact Heap.IsListIter.extBut x aE u6
def jn.extBut(x:jn b h a xs)(aE:Heap.ExtBut c h h')(u6:a≠c):jn b h' a xs:=by
 cases b with
 |true=>exact Heap.IsTuple.extBut x aE u6|false=>exact Heap.IsList.extBut x aE u6
def gy.obj{h:Heap}(x:gy b h a l i):∃o vs,h.get? a=some o/\o.data=.fields vs:=by
 cases b with
 |true=>obtain⟨o,e,_,d⟩:=x;exact⟨o,_,e,d⟩
 |false=>obtain⟨o,e,_,d⟩:=x;exact⟨o,_,e,d⟩
def gy.at'{h h':Heap}(x:gy b h a l i)(k:∀o,h.get? a=some o->h'.get? a=some o):gy b h' a l i:=by
 cases b with
 |true=>obtain⟨o,e,r⟩:=x;exact⟨o,k o e,r⟩
 |false=>obtain⟨o,e,r⟩:=x;exact⟨o,k o e,r⟩
def jn.obj{h:Heap}(x:jn b h a xs):∃o n,h.get? a=some o/\o.data=.seq xs n:=by
 cases b with
 |true=>obtain⟨o,e,_,n,d⟩:=x;exact⟨o,n,e,d⟩
 |false=>obtain⟨o,e,_,n,d⟩:=x;exact⟨o,n,e,d⟩
section
variable{prog:ajY}{w:World}{A:aj4}{E:cN}{s:ajH}
def D'{b:Bool}{it l:Addr}{i:Nat}{items:Array Value}{x:Value}{Q:cN}(hit:gy b s.heap it l i)(au:jn b s.heap l items)(ag:items[i]? = some x)
  (i4:∀h',gy b h' it l (i+1)->am9 it s.heap h'->Q x { s with heap:=h' }):wpAny (model prog w) A (akK (.ref it)) Q E s:=by
 cases b with
 |false=>exact wpAny_nextOf_list_item hit au ag i4|true=>
  have hit:s.heap.IsTupleIter it l i:=hit;obtain⟨o,bf,aI,hd⟩:=id hit;obtain⟨ol,C7,_,nl,vb⟩:=au;unfold akK;refine ajD (alf (name:=ajZ "__next__") hit.typeIs alN (alW alN hit.typeIs anJ ?_ (ant _)));show wpAny _ _ (field (.ref it) 0 >>= _) _ _ s;refine ajD (ak2 bf hd (x:=.ref l) rfl ?_);show wpAny _ _ (if(aka l==akS)=true then _ else _) _ _ s;rw[if_neg (show ¬((aka l==akS)=true)from ajO)];show wpAny _ _ (field (.ref it) 1 >>= _) _ _ s;refine ajD (ak2 bf hd (x:=.int i 0) rfl ?_);show wpAny _ _ (amc (.ref l) >>= _) _ _ s;refine ajD (akN C7 vb ?_);simp only[anT,ag];refine ajD (wpAny_setField bf hd (by simp) (ajI ⟨x,rfl,ajI (i4 _ ?_ (akX ..))⟩));exact⟨_,Heap.get?_update_self _ bf (Obj.isFreed_of_fields (Obj.data_mapFields hd _)),(Obj.cls_mapFields ..).trans aI,by rw[Obj.data_mapFields hd];simp[alP]⟩
def Mf{b:Bool}{it l:Addr}{i:Nat}{items:Array Value}{Q:cN}(dK:A.handled=none)(hit:gy b s.heap it l i)(au:jn b s.heap l items)(ag:items[i]? = none)
  (Jw:∀h' e,Heap.ExtBut it s.heap h'->(∃o,h'.get? e=some o/\o.cls=.type "StopIteration")->E (.ref e) { s with heap:=h' }):wpAny (model prog w) A (akK (.ref it)) Q E s:=by
 cases b with
 |false=>exact wpAny_nextOf_list_end dK hit au ag Jw|true=>
  have hit:s.heap.IsTupleIter it l i:=hit;obtain⟨o,bf,aI,hd⟩:=id hit;obtain⟨ol,C7,_,nl,vb⟩:=au;unfold akK;refine ajD (alf (name:=ajZ "__next__") hit.typeIs alN (alW alN hit.typeIs anJ ?_ (ant _)));show wpAny _ _ (field (.ref it) 0 >>= _) _ _ s;refine ajD (ak2 bf hd (x:=.ref l) rfl ?_);show wpAny _ _ (if(aka l==akS)=true then _ else _) _ _ s;rw[if_neg (show ¬((aka l==akS)=true)from ajO)];show wpAny _ _ (field (.ref it) 1 >>= _) _ _ s;refine ajD (ak2 bf hd (x:=.int i 0) rfl ?_);show wpAny _ _ (amc (.ref l) >>= _) _ _ s;refine ajD (akN C7 vb ?_);simp only[anT,ag];refine ajD (anf (ajD (wpAny_setField bf hd (by simp) ?_)));show wpAny _ _ (newExc (.type "StopIteration") [] >>= _) _ _ _;refine ajD ?_;simp only[newExc,newTuple];refine ajD (alw ?_ (by size_fits));refine ajD (m:=firstArgMember _ _) (wpAny_of_eq (a:=akS) (by first|rfl|(simp only[firstArgMember];rfl)) ?_);refine alw ?_ (by size_fits);simp only[raiseNew];refine ajD (wpAny_handled ?_)
  first|rw[show A.in1.handled=none from dK]|rw[dK]
  refine ajD (ajI (wpAny_throw ?_));exact Jw _ _ (((akX ..).extBut.push _).push _) ⟨_,ajS _ rfl,rfl⟩
end
section
variable{prog:ajY}{w:World}{A:aj4}{E:cN}{s:ajH}
def ahJ{b4 b5:Bool}{z TI d3 fH f5 b' cD:Addr}{g6 gr:Nat}{xs ys:Array Value}{x y a b:Value}{Q:Option Value->ajH->Prop}(D:ZipApart z TI d3 fH f5 b' cD)
  (hz:IsZip s.heap z TI d3 .none) (kY:alZ s.heap TI (.ref fH) (.ref f5)) (lK:alZ s.heap d3 a b)
  (ae:gy b4 s.heap fH b' g6) (ah:gy b5 s.heap f5 cD gr) (lM:jn b4 s.heap b' xs) (iv:jn b5 s.heap cD ys) (ag:xs[g6]? = some x) (bg:ys[gr]? = some y)
  (i4:∀h',IsZip h' z TI d3 (alP s.heap.objs.size)->alZ h' d3 x y->gy b4 h' fH b' (g6+1)->gy b5 h' f5 cD (gr+1)->alZ h' s.heap.objs.size x y->
   (∀c o,c≠z->c≠d3->c≠fH->c≠f5->s.heap.get? c=some o->h'.get? c=some o)->Q (some (.ref s.heap.objs.size)) { s with heap:=h' }) :
  wpAny (model prog w) A (al8 (.ref z)) Q E s:=by
 have e1:s.TypeIs (.ref z) "zip":=⟨_,hz,rfl⟩;unfold al8;refine ajD (wpAny_attempt (alf (name:=ajZ "__next__") e1 ani (alW ani e1 F.entry_zip_next ?_ (F.args_zip_next_1 _))));show wpAny _ _ (field (.ref z) 2 >>= _) _ _ _;refine ajD (ak2 hz rfl (x:=.bool false) rfl ?_);show wpAny _ _ (field (.ref z) 3 >>= _) _ _ _;refine ajD (ak2 hz rfl (x:=.ref TI) rfl ?_);refine ajD (akN kY rfl ?_);show wpAny _ _ (ald (.ref z) >>= _) _ _ _;refine ajD ?_;unfold ald;refine ajD (ak2 hz rfl (x:=.none) rfl (ajI ?_));simp only[if_true];refine ajD (anf ?_);refine ajD (ak2 hz rfl (x:=.ref d3) rfl ?_);refine ajD (alG hz (by simp) λk1 qd i7=>?_)
 replace qd:IsZip k1 z TI d3 .ellipsis:=qd
 refine ajD ?_;simp only[List.zipIdx_cons,List.zipIdx_nil,aor,List.forIn_nil];refine ajD (ajD (anR ?_));show wpAny _ _ (akK (.ref fH) >>= _) _ _ _;refine ajD (D' (ae.extBut i7.extBut D.i1z) (lM.extBut i7.extBut D.l1z) ag λmJ Ju j4=>ajI ?_);have u5:alZ mJ d3 a b:=j4.extBut _ _ D.TOi1 (i7.extBut _ _ D.TOz lK);refine ajD (akN u5 rfl ?_);refine ajD (anj u5 λoN yH km=>?_)
 replace yH:alZ oN d3 x b:=yH
 refine ajD (alj (ajI ?_));refine ajD (ajD (anR ?_));show wpAny _ _ (akK (.ref f5) >>= _) _ _ _;refine ajD (D' (((ah.extBut i7.extBut D.i2z).extBut j4.extBut D.i12.symm).extBut km.extBut D.TOi2.symm)
  (((iv.extBut i7.extBut D.l2z).extBut j4.extBut D.l2i1).extBut km.extBut D.l2TO) bg λvo Wk qb=>ajI ?_)
 have JA:alZ vo d3 x b:=qb.extBut _ _ D.TOi2 yH;refine ajD (akN JA rfl ?_);refine ajD (anj JA λiO yI qc=>?_)
 replace yI:alZ iO d3 x y:=yI
 refine ajD (alj (ajI (ajI ?_)));refine ajD (akN yI rfl ?_);refine ajD (wpAny_newTuple ?_);have hsz:iO.objs.size=s.heap.objs.size:=by rw[qc.1,qb.1,km.1,j4.1,i7.1]
 have Kf:IsZip iO z TI d3 .ellipsis:=qc.extBut _ _ D.TOz.symm (qb.extBut _ _ D.i2z.symm (km.extBut _ _ D.TOz.symm (j4.extBut _ _ D.i1z.symm qd)));have Yf:∀c o,c≠z->c≠d3->c≠fH->c≠f5->s.heap.get? c=some o->iO.get? c=some o:=λc o bQ ab ki uB e=>
  qc.extBut _ _ ab (qb.extBut _ _ uB (km.extBut _ _ ab (j4.extBut _ _ ki (i7.extBut _ _ bQ e))))
 have Wj:gy b4 iO fH b' (g6+1):=((Ju.extBut km.extBut D.TOi1.symm).extBut qb.extBut D.i12).extBut qc.extBut D.TOi1.symm;have Wl:gy b5 iO f5 cD (gr+1):=Wk.extBut qc.extBut D.TOi2.symm;have Kc:z<iO.objs.size:=ajV Kf;show wpAny _ _ (amL (.ref z) (.ref iO.objs.size) >>= _) _ _ _;refine ajD ?_;unfold amL;have YD:IsZip (iO.push { cls:=.type "tuple",data:=.seq #[x,y] }) z TI d3 .ellipsis:=ajF _ Kf;refine ajD (alG YD (by simp) λYG Dh J'=>?_)
 replace Dh:IsZip YG z TI d3 (alP iO.objs.size):=Dh
 refine alG Dh (by simp) λyW yV Ka=>?_
 replace yV:IsZip yW z TI d3 (alP iO.objs.size):=yV
 have up:∀c o,c≠z->iO.get? c=some o->yW.get? c=some o:=λc o bQ e=>Ka.extBut _ _ bQ (J'.extBut _ _ bQ (ajF _ e))
 have JB:alZ yW iO.objs.size x y:=Ka.extBut _ _ (Nat.ne_of_gt Kc) (J'.extBut _ _ (Nat.ne_of_gt Kc) (ajS _ rfl));rw[hsz]at yV JB;refine ajI ⟨_,rfl,?_⟩;show wpAny _ _ (pure (some (aka iO.objs.size))) _ _ _;rw[hsz];exact ajI (i4 yW yV (up _ _ D.TOz yI) (Wj.at' λo e=>up _ o D.i1z e) (Wl.at' λo e=>up _ o D.i2z e) JB λc o bQ ab ki uB e=>up c o bQ (Yf c o bQ ab ki uB e))
def ahI{b4 b5:Bool}{z TI d3 fH f5 b' cD:Addr}{g6 gr:Nat}{xs ys:Array Value}{a b:Value}{Q:Option Value->ajH->Prop}(dK:A.handled=none)(D:ZipApart z TI d3 fH f5 b' cD)
  (hz:IsZip s.heap z TI d3 .none) (kY:alZ s.heap TI (.ref fH) (.ref f5)) (lK:alZ s.heap d3 a b)
  (ae:gy b4 s.heap fH b' g6) (ah:gy b5 s.heap f5 cD gr) (lM:jn b4 s.heap b' xs) (iv:jn b5 s.heap cD ys) (X3:xs[g6]? = none\/ys[gr]? = none)
  (i4:∀h',(∀c o,c≠z->c≠d3->c≠fH->c≠f5->s.heap.get? c=some o->h'.get? c=some o)->Q none { s with heap:=h' }):wpAny (model prog w) A (al8 (.ref z)) Q E s:=by
 have e1:s.TypeIs (.ref z) "zip":=⟨_,hz,rfl⟩;have fin:∀h' e,(∀c o,c≠z->c≠d3->c≠fH->c≠f5->s.heap.get? c=some o->h'.get? c=some o)->(∃o,h'.get? e=some o/\o.cls=.type "StopIteration")->
   wpAny (model prog w) A (do
    if <-isInstance (.ref e) (.type "StopIteration")then pure none else throw (.ref e)) Q E { s with heap:=h' }:=λh' e ax aX=>by
  obtain⟨o,bf,aI⟩:=aX;refine ajD (wpAny_isInstance (T:="StopIteration") (b:=true) ⟨o,bf,aI⟩ isSubtype_stop ?_);exact ajI (i4 _ ax)
 unfold al8;refine ajD (wpAny_attempt (alf (name:=ajZ "__next__") e1 ani (alW ani e1 F.entry_zip_next ?_ (F.args_zip_next_1 _))));show wpAny _ _ (field (.ref z) 2 >>= _) _ _ _;refine ajD (ak2 hz rfl (x:=.bool false) rfl ?_);show wpAny _ _ (field (.ref z) 3 >>= _) _ _ _;refine ajD (ak2 hz rfl (x:=.ref TI) rfl ?_);refine ajD (akN kY rfl ?_);show wpAny _ _ (ald (.ref z) >>= _) _ _ _;refine ajD ?_;unfold ald;refine ajD (ak2 hz rfl (x:=.none) rfl (ajI ?_));simp only[if_true];refine ajD (anf ?_);refine ajD (ak2 hz rfl (x:=.ref d3) rfl ?_);refine ajD (alG hz (by simp) λk1 qd i7=>?_)
 replace qd:IsZip k1 z TI d3 .ellipsis:=qd
 refine ajD ?_;simp only[List.zipIdx_cons,List.zipIdx_nil,aor,List.forIn_nil];refine ajD (ajD (anR ?_));show wpAny _ _ (akK (.ref fH) >>= _) _ _ _
 cases ag:xs[g6]? with
 |none=>
  refine ajD (Mf dK (ae.extBut i7.extBut D.i1z) (lM.extBut i7.extBut D.l1z) ag λmJ e j4 he=>?_);obtain⟨wj,ro,u_⟩:=he;have Kd:IsZip mJ z TI d3 .ellipsis:=j4 _ _ D.i1z.symm qd;have CV:e≠z:=λx=>by subst x;rw[Kd]at ro;cases ro;simp at u_
  exact alG Kd (by simp) λoN _ km=>fin oN e (λc o bQ _ ki _ x=>km.extBut _ _ bQ (j4 _ _ ki (i7.extBut _ _ bQ x))) ⟨wj,km.extBut _ _ CV ro,u_⟩
 |some x=>
  have bg:ys[gr]? = none:=by rcases X3 with h|h;rw[ag]at h;cases h;exact h
  refine ajD (D' (ae.extBut i7.extBut D.i1z) (lM.extBut i7.extBut D.l1z) ag λmJ Ju j4=>ajI ?_);have u5:alZ mJ d3 a b:=j4.extBut _ _ D.TOi1 (i7.extBut _ _ D.TOz lK);refine ajD (akN u5 rfl ?_);refine ajD (anj u5 λoN yH km=>?_);refine ajD (alj (ajI ?_));refine ajD (ajD (anR ?_));show wpAny _ _ (akK (.ref f5) >>= _) _ _ _;refine ajD (Mf dK (((ah.extBut i7.extBut D.i2z).extBut j4.extBut D.i12.symm).extBut km.extBut D.TOi2.symm)
   (((iv.extBut i7.extBut D.l2z).extBut j4.extBut D.l2i1).extBut km.extBut D.l2TO) bg λvo e qb he=>?_)
  obtain⟨wj,ro,u_⟩:=he;have Ke:IsZip vo z TI d3 .ellipsis:=qb _ _ D.i2z.symm (km.extBut _ _ D.TOz.symm (j4.extBut _ _ D.i1z.symm qd));have CV:e≠z:=λx=>by subst x;rw[Ke]at ro;cases ro;simp at u_
  exact alG Ke (by simp) λiO _ qc=>fin iO e (λc o bQ ab ki uB x=>qc.extBut _ _ bQ (qb _ _ uB (km.extBut _ _ ab (j4.extBut _ _ ki (i7.extBut _ _ bQ x))))) ⟨wj,qc.extBut _ _ CV ro,u_⟩
end
section
variable{X:aT}{zn:c8}{Y:St}{H:aw}{s:ajH}{h':Heap}
def Inv.Pm{t':Nat}{ch:List Addr}(J:Inv X zn Y H s)(k:∀b o,b∉ch->s.heap.get? b=some o->h'.get? b=some o)(hf:∀b∈ch,gJ X zn H b):Inv X zn Y H { s with heap:=h',toks:=t' }:=by
 have wb:∀b u,H b=some u->b∉ch:=λb u e z=>by rw[(hf b z).1]at e;cases e
 refine J.step (g':=s.gens) (d':=s.drawn) (ch:=ch) (λb af=>?_) (λb o _ _ aI e _=>k b o aI e) (λb o _ _ aI e _=>⟨o.slots,k b o aI e⟩) (λ_ _ _ _ n=>n)
  (λb o aI e=>⟨o,k b o aI e⟩) (λ_ _ e=>e) (λ_ _ _ e=>e) (λb ps e=>⟨#[],by rw[e];simp⟩) (λm hm=>?_) (λb u e=>?_) J.bare
 .obtain⟨_,f1,_,gZ,f4,g0⟩:=hf b af
  exact⟨gZ,f1,f4,g0⟩
 .obtain⟨o,ay,cB,bf,r⟩:=hm
  exact⟨o,ay,cB,k _ o (λz=>(hf _ z).2.1 rfl) bf,r⟩
 .refine(J.bP b u e).rZ (λc v aI q=>k c v ?_ q) (λ_ q=>q) λ_ _ q=>q
  rcases aI with z|z
  .rw[z];exact wb b u e
  .exact wb c _ z
end
def il(b:Bool)(K:aS)(H:aw)(a:Addr)(xs:List V):Prop:=match b with
 |true=>dQ K H a xs|false=>dx K H a xs
def Inv.dP{s:ajH}(J:Inv X zn Y H s)(h:il b X.K H a xs):∃its:List Value,Vals xs its/\jn b s.heap a its.toArray:=by
 cases b with
 |true=>obtain⟨its,r,p,_⟩:=J.tuple h;exact⟨its,r,p⟩
 |false=>obtain⟨its,r,p,_⟩:=J.list h;exact⟨its,r,p.isList⟩
def Inv.OR(J:Inv X zn Y H s)(h:il b X.K H a xs)(h':il b X.K H a ys):xs=ys:=by
 cases b with
 |true=>exact J.Pj h h'|false=>exact J.Lp h h'
def F'(K:aS)(b4 b5:Bool)(b' cD:Addr):iI:=
  ⟨λi H=>(∃xs x,il b4 K H b' xs/\xs[i]? = some x)/\∃ys y,il b5 K H cD ys/\ys[i]? = some y,
   λi H x H'=>∃u v T,x=.ref T/\H T=none/\H'=upd H T (.tup [u,v])/\(∀xs,il b4 K H b' xs->xs[i]? = some u)/\∀ys,il b5 K H cD ys->ys[i]? = some v,
   λi H=>∃xs ys,il b4 K H b' xs/\il b5 K H cD ys/\(xs.length<=i\/ys.length<=i)⟩
def afC{ed:Nat}(b4 b5:Bool){z TI d3 fH f5 b' cD:Addr}(D:ZipApart z TI d3 fH f5 b' cD):Turn P w K (.Tuple elts ed d8) (F' K b4 b5 b' cD) [z,TI,d3,fH,f5] z
  (λi h=>IsZip h z TI d3 .none/\alZ h TI (.ref fH) (.ref f5)/\(∃a b,alZ h d3 a b)/\gy b4 h fH b' i/\gy b5 h f5 cD i) where
 mem:=by simp
 obj:=λi h st b af=>by
  obtain⟨hz,kY,⟨x,y,lK⟩,ae,ah⟩:=st;rcases ajN.mp af with rfl|af
  .exact⟨_,hz,λv z=>by cases z⟩
  rcases ajN.mp af with rfl|af
  .exact⟨_,kY,λv z=>by cases z⟩
  rcases ajN.mp af with rfl|af
  .exact⟨_,lK,λv z=>by cases z⟩
  rcases ajN.mp af with rfl|af
  .obtain⟨o,vs,e,d⟩:=ae.obj;exact⟨o,e,λv z=>by rw[d]at z;cases z⟩
  rcases ajN.mp af with rfl|af
  .obtain⟨o,vs,e,d⟩:=ah.obj;exact⟨o,e,λv z=>by rw[d]at z;cases z⟩
  cases af
 keep:=λi h h' ⟨hz,kY,⟨x,y,lK⟩,ae,ah⟩ k=>⟨k z (by simp) _ hz,k TI (by simp) _ kY,⟨x,y,k d3 (by simp) _ lK⟩,ae.at' λo e=>k fH (by simp) o e,ah.at' λo e=>k f5 (by simp) o e⟩
 item:=by
  rintro X ez hw hI aI i zn s Y H E J hf ⟨hz,kY,⟨xJ,eX,lK⟩,ae,ah⟩ ⟨⟨xs,x,a9,ag⟩,⟨ys,y,aB,bg⟩⟩;subst ez hw hI;obtain⟨its,bR,p⟩:=Inv.dP J a9;obtain⟨Ky,jC,q⟩:=Inv.dP J aB;obtain⟨u,cC,eg⟩:=bR.get ag;obtain⟨v,bL,acX⟩:=jC.get bg;have X4:∀b∈[z,d3,fH,f5],b∈[z,TI,d3,fH,f5]:=λb af=>by simp at af ⊢;rcases af with h|h|h|h<;>simp[h]
  refine ahJ D hz kY lK ae ah p q (x:=u) (y:=v) (by simpa using cC) (by simpa using bL) λh' a1 a2 eV hD jT ax=>⟨_,rfl,wpAny_letOwnedTupleGo_zip a1 λWi YB vj=>?_⟩
  have aH:=J.bP.fresh (ajK s.heap.objs.size);have zj:=ajV hz;have zi:=ajV lK;have rB:fH<s.heap.objs.size:=by obtain⟨_,_,e,_⟩:=ae.obj;exact ajV e
  have rC:f5<s.heap.objs.size:=by obtain⟨_,_,e,_⟩:=ah.obj;exact ajV e
  have iv:Vals [x,y] [u,v]:=.cons eg (.cons acX .nil);have a_:Inv X zn Y (upd H s.heap.objs.size (.tup [x,y])) { s with heap:=s.heap.push { cls:=.type "tuple",data:=.seq #[u,v] } }:=
   J.laid (t':=s.toks) (λb u e=>ajF _ e) (ajK _) ⟨by rw[ake];show 2<=_;decide,[u,v],iv,⟨_,ajS _ rfl,rfl,_,rfl⟩⟩
  have bX:Inv X zn Y (upd H s.heap.objs.size (.tup [x,y])) { s with heap:=Wi }:=by
   refine Inv.Pm (s:={ s with heap:=s.heap.push { cls:=.type "tuple",data:=.seq #[u,v] } }) (ch:=[z,d3,fH,f5]) (t':=s.toks) a_ (λb o af e=>?_) λb af=>?_
   .have Ec:b≠z:=λq=>af (by simp[q])
    refine vj.extBut _ _ Ec ?_;rcases Heap.get?_push_cases e with⟨rfl,rfl⟩|e
    .exact jT
    .exact ax b o Ec (λq=>af (by simp[q])) (λq=>af (by simp[q])) (λq=>af (by simp[q])) e
   .obtain⟨f0,f⟩:=hf b (X4 b af)
    refine⟨?_,f⟩;rw[dm]
    .exact f0
    .rintro rfl
     simp at af;rcases af with h|h|h|h
     .rw[<-h]at zj;exact akn _ zj
     .rw[<-h]at zi;exact akn _ zi
     .rw[<-h]at rB;exact akn _ rB
     .rw[<-h]at rC;exact akn _ rC
  refine⟨.ref s.heap.objs.size,_,bX,rfl,⟨x,y,_,rfl,aH,rfl,λxh h'=>by rw[Inv.OR J h' a9];exact ag,λag7 h'=>by rw[Inv.OR J h' aB];exact bg⟩,
   ⟨YB,vj.extBut _ _ D.TIz (ax _ _ D.TIz D.TITO D.TIi1 D.TIi2 kY),⟨_,_,vj.extBut _ _ D.TOz a2⟩,eV.extBut vj.extBut D.i1z,hD.extBut vj.extBut D.i2z⟩,λb af=>?_⟩
  rw[dm]
  .exact(hf b af).1
  .rintro rfl
   have ltI:=ajV kY;simp at af;rcases af with h|h|h|h|h
   .rw[<-h]at zj;exact akn _ zj
   .rw[<-h]at ltI;exact akn _ ltI
   .rw[<-h]at zi;exact akn _ zi
   .rw[<-h]at rB;exact akn _ rB
   .rw[<-h]at rC;exact akn _ rC
 done:=by
  rintro X ez hw hI aI i zn s Y H E J hf ⟨hz,kY,⟨xJ,eX,lK⟩,ae,ah⟩ ⟨xs,ys,a9,aB,au⟩;subst ez hw hI;obtain⟨its,bR,p⟩:=Inv.dP J a9;obtain⟨Ky,jC,q⟩:=Inv.dP J aB;have ao:=bR.length;have az:=jC.length;refine ahI (J.ok.hd aI) D hz kY lK ae ah p q ?_ λh' ax=>⟨rfl,?_⟩
  .rcases au with au|au
   .exact .inl (by simp;omega)
   .exact .inr (by simp;omega)
  .refine Inv.Pm (ch:=[z,d3,fH,f5]) (t':=s.toks) J (λb o af e=>ax b o (λq=>af (by simp[q])) (λq=>af (by simp[q])) (λq=>af (by simp[q])) (λq=>af (by simp[q])) e) λb af=>hf b ?_
   simp at af ⊢;rcases af with h|h|h|h<;>simp[h]
 self:=λ_ _ _ _ _ ⟨hz,_⟩ h=>wpAny_pyIter_zip hz h
def y1(b:Bool)(l:Addr):Obj:=match b with
 |true=>{ cls:=.type "tuple_iterator",data:=.fields #[.ref l,.int 0 0] }
 |false=>{ cls:=.type "list_iterator",data:=.fields #[.ref l,.int 0 0] }
abbrev AF(b4:Bool)(h:Heap)(b':Addr):Heap:=h.push (y1 b4 b')
abbrev AG(b4 b5:Bool)(h:Heap)(b' cD:Addr):Heap:=(AF b4 h b').push (y1 b5 cD)
abbrev AH(b4 b5:Bool)(h:Heap)(b' cD:Addr):Heap:=(AG b4 b5 h b' cD).push { cls:=.type "tuple",data:=.seq #[.ref h.objs.size,.ref (AF b4 h b').objs.size] }
abbrev AI(b4 b5:Bool)(h:Heap)(b' cD:Addr):Heap:=(AH b4 b5 h b' cD).push { cls:=.type "tuple",data:=.seq #[.none,.none] }
abbrev t_(b4 b5:Bool)(h:Heap)(b' cD:Addr):Heap:=(AI b4 b5 h b' cD).push { cls:=.type "zip",data:=.fields #[.none,.bool false,.bool false,.ref (AG b4 b5 h b' cD).objs.size,.ref (AH b4 b5 h b' cD).objs.size] }
def aag(b4 b5:Bool)(b' cD:Addr)(xs ys:Array Value) :
  Meets (ans.«zip.__new__» ⟨[.type "zip",.ref b',.ref cD],[]⟩) (λ_ R s=>jn b4 s.heap b' xs/\jn b5 s.heap cD ys/\
   R (.ok (.ret (.ref (AI b4 b5 s.heap b' cD).objs.size))) { s with heap:=t_ b4 b5 s.heap b' cD }):=by
 cases b4 with
 |false=>
  cases b5 with
  |false=>exact meets_zip_new b' cD xs ys|true=>
   refine .of_wp λprog w A R s h=>?_
   obtain⟨aK,g,d,tk,os⟩:=s;obtain⟨lM,iv,h⟩:=h;have J_:=sub_zip;have u3:Heap.IsList (amY ⟨aK,g,d,tk,os⟩) b' xs:=lM;have u4:aoh (amY ⟨aK.push { cls:=.type "list_iterator",data:=.fields #[.ref b',.int 0 0] },g,d,tk,os⟩) cD ys:=aoP iv _
   wp_walk using alv u3,al9 u4
   exact⟨_,rfl,h⟩
 |true=>
  cases b5 with
  |false=>
   refine .of_wp λprog w A R s h=>?_
   obtain⟨aK,g,d,tk,os⟩:=s;obtain⟨lM,iv,h⟩:=h;have J_:=sub_zip;have u3:aoh (amY ⟨aK,g,d,tk,os⟩) b' xs:=lM;have u4:Heap.IsList (amY ⟨aK.push { cls:=.type "tuple_iterator",data:=.fields #[.ref b',.int 0 0] },g,d,tk,os⟩) cD ys:=Heap.IsList.push iv _
   wp_walk using al9 u3,alv u4
   exact⟨_,rfl,h⟩
  |true=>
   refine .of_wp λprog w A R s h=>?_
   obtain⟨aK,g,d,tk,os⟩:=s;obtain⟨lM,iv,h⟩:=h;have J_:=sub_zip;have u3:aoh (amY ⟨aK,g,d,tk,os⟩) b' xs:=lM;have u4:aoh (amY ⟨aK.push { cls:=.type "tuple_iterator",data:=.fields #[.ref b',.int 0 0] },g,d,tk,os⟩) cD ys:=aoP iv _
   wp_walk using al9 u3,al9 u4
   exact⟨_,rfl,h⟩
def gy.new{h:Heap}(e:h.get? a=some (y1 b l)):gy b h a l 0:=by
 cases b with
 |true=>exact⟨_,e,rfl,rfl⟩|false=>exact⟨_,e,rfl,rfl⟩
section
variable{prog:ajY}{w:World}{A:aj4}{E:cN}{s:ajH}
def Tx{b4 b5:Bool}{b' cD:Addr}{xs ys:Array Value}{Q:cN}(lM:jn b4 s.heap b' xs)(iv:jn b5 s.heap cD ys)
  (h:∀h',IsZip h' (s.heap.objs.size+4) (s.heap.objs.size+2) (s.heap.objs.size+3) .none->alZ h' (s.heap.objs.size+2) (.ref s.heap.objs.size) (.ref (s.heap.objs.size+1))->
   alZ h' (s.heap.objs.size+3) .none .none->gy b4 h' s.heap.objs.size b' 0->gy b5 h' (s.heap.objs.size+1) cD 0->
   (∀c o,s.heap.get? c=some o->h'.get? c=some o)->Q (.ref (s.heap.objs.size+4)) { s with heap:=h' }) :
  wpAny (model prog w) A (call (.type "zip") [.ref b',.ref cD]) Q E s:=by
 refine callType_new F.called_zip (by decide) (F.typeCall_zip_2 _ _) (F.newCall_zip_2 _ _) (λobj=>F.args_object_init_3 obj _ _) F.entry_zip_new (aag b4 b5 b' cD xs ys) ⟨lM,iv,?_⟩;have fO:(AF b4 s.heap b').objs.size=s.heap.objs.size+1:=alT ..;have eS:(AG b4 b5 s.heap b' cD).objs.size=s.heap.objs.size+2:=by rw[alT,fO]
 have l4:(AH b4 b5 s.heap b' cD).objs.size=s.heap.objs.size+3:=by rw[alT,eS]
 have m6:(AI b4 b5 s.heap b' cD).objs.size=s.heap.objs.size+4:=by rw[alT,l4]
 have f1:∀b l,(y1 b l).isFreed=false:=λb l=>by cases b<;>rfl
 have Cq:(t_ b4 b5 s.heap b' cD).get? (AI b4 b5 s.heap b' cD).objs.size=some _:=ajS _ rfl;have nD:(t_ b4 b5 s.heap b' cD).get? (AH b4 b5 s.heap b' cD).objs.size=some _:=ajF _ (ajS _ rfl);have g3:(t_ b4 b5 s.heap b' cD).get? (AG b4 b5 s.heap b' cD).objs.size=some _:=ajF _ (ajF _ (ajS _ rfl));have g2:(t_ b4 b5 s.heap b' cD).get? (AF b4 s.heap b').objs.size=some _:=ajF _ (ajF _ (ajF _ (ajS _ (f1 _ _))));have g1:(t_ b4 b5 s.heap b' cD).get? s.heap.objs.size=some _:=ajF _ (ajF _ (ajF _ (ajF _ (ajS _ (f1 _ _)))));show _/\_;rw[eS,l4,m6]at Cq;rw[fO,eS]at g3;rw[l4]at nD;rw[fO]at g2;rw[m6];exact⟨⟨_,Cq,rfl⟩,h _ Cq g3 nD (.new g1) (.new g2) λc o x=>
  ajF _ (ajF _ (ajF _ (ajF _ (ajF _ x))))⟩
end
def yX(K:aS)(b9:gA):TI:=λY H R=>b9 Y H λvs H1=>∃b4 b5 b' cD,vs=[.ref b',.ref cD]/\(∃xs,il b4 K H1 b' xs)/\(∃ys,il b5 K H1 cD ys)/\R (F' K b4 b5 b' cD) H1
def MK{X:aT}{elts:List Expr}{ed:Nat}{d8:Pos}{p pos:Pos}(aU:eU X "zip")(hm:X.mg "zip"=none)(ar:gm X [a,b] b9)(aE:ajG [a,b] X.env=[(false,eval a X.env),(false,eval b X.env)]:=by rfl)(k0:ajG [b] X.env=[(false,eval b X.env)]:=by rfl) :
  kN X (.Tuple elts ed d8) (.Call (.Name "zip" p) [a,b] [] pos) (yX X.K b9):=by
 intro zn s Y H R J h;refine PyProof.Rows.Call_ (ry J aU hm PyProof.Rows.boot_zip (amt (bZ (ar pos zn s Y H _ J h) λus s1 ⟨vs,H1,a_,bG,bz⟩=>?_) (by rw[aE,k0]) (by rw[k0];rfl)));obtain⟨b4,b5,b',cD,e,⟨xs,ag⟩,⟨ys,bg⟩,q⟩:=bz;subst e
 cases bG with
 |cons r bu=>
  cases bu with
  |cons bT bu=>
   cases bu;cases r;cases bT;obtain⟨its,bR,p1⟩:=Inv.dP a_ ag;obtain⟨Ky,jC,dB⟩:=Inv.dP a_ bg;have rB:b'<s1.heap.objs.size:=by obtain⟨_,_,e,_⟩:=p1.obj;exact ajV e
   have rC:cD<s1.heap.objs.size:=by obtain⟨_,_,e,_⟩:=dB.obj;exact ajV e
   refine Tx p1 dB λh' a1 a2 eV hD jT ax=>?_
   refine wpAny_pyIter_zip (s:={ s1 with heap:=h' }) a1 ?_;have D:ZipApart (s1.heap.objs.size+4) (s1.heap.objs.size+2) (s1.heap.objs.size+3) s1.heap.objs.size (s1.heap.objs.size+1) b' cD:=by
    have up:∀{l:Addr}(k:Nat),l<s1.heap.objs.size->l≠s1.heap.objs.size+k:=λk h=>aj1 (akj h (amw _ _))
    have rx:b'≠s1.heap.objs.size:=aj1 rB;have K5:cD≠s1.heap.objs.size:=aj1 rC;have l0:=λk=>up k rB
    have ib:=λk=>up k rC
    generalize s1.heap.objs.size=n at rx K5 l0 ib ⊢;constructor<;>first|exact l0 4|exact l0 3|exact rx|exact l0 1|exact ib 4|exact ib 3|exact K5|exact ib 1|(show(_:Nat)≠_;omega)
   refine⟨s1.heap.objs.size+4,[s1.heap.objs.size+4,s1.heap.objs.size+2,s1.heap.objs.size+3,s1.heap.objs.size,s1.heap.objs.size+1],_,_,H1,rfl,a_.kept (t':=s1.toks) ax,afC b4 b5 D,⟨a1,a2,⟨_,_,eV⟩,hD,jT⟩,λc aI=>?_,q⟩;have le:s1.heap.objs.size<=c:=by
    simp at aI;rcases aI with rfl|rfl|rfl|rfl|rfl
    .exact amw _ _
    .exact amw _ _
    .exact amw _ _
    .exact ajK _
    .exact amw _ _
   exact a_.p5 le (a_.bP.fresh le)
end a0
namespace a0
open PySem PySem.Spec aF
variable[aF.a8]
def R.walk:R->Option (List D)
 |.v (.tup xs)=>some xs|.v (.lst xs)=>some xs|.fr xs=>some xs|.cc xs=>some xs|_=>none
def jg(xs ys:List D):List D:=(xs.zip ys).map λp=>.tup [p.1,p.2]
def pR(b:Bool)(K:aS)(O:a5)(H:aw)(a:Addr)(ys:List V):Prop:=match b with
 |true=>dQ K H a ys|false=>ij K O H a ys
def pR.dP{O:a5}(h:pR b K O H a ys):il b K H a ys:=by
 cases b with
 |true=>exact h|false=>exact ij.dP h
def pR.aA{O aq:a5}(g:eu O aq H H')(h:pR b K O H a ys):pR b K aq H' a ys:=by
 cases b with
 |true=>exact g.w4 h|false=>exact g.Lv h
def Am{O:a5}{r:R}{v:V}(h:e5 K mg O H r v)(n:jQ H₀ r v)(e:r.walk=some xs):∃b a ys,v=.ref a/\pR b K (cg H₀ O) H a ys/\bb K mg (cg H₀ O) H xs ys:=by
 unfold R.walk at e;split at e
 .cases e;obtain⟨a,ys,q,l,r⟩:=h;exact⟨true,a,ys,q,l,r.dA (js _ _)⟩
 .cases e
  obtain⟨a,ys,q,l,r⟩:=h;exact⟨false,a,ys,q,.inl ⟨.inl l.1,.inl ((js H₀ O).fr a l.2)⟩,r.dA (js _ _)⟩
 .cases e
  obtain⟨a,ys,rfl,l,t,r⟩:=h;exact⟨false,a,ys,rfl,.inl ⟨.inl l,.inl (yw (n a rfl) t)⟩,r.dA (js _ _)⟩
 .cases e
  obtain⟨a,ys,q,l,r⟩:=h;refine⟨false,a,ys,q,?_,r.dA (js _ _)⟩;rcases l with⟨l,f⟩|l
  .refine .inl ⟨l,?_⟩
   rcases f with f|f
   .exact .inl ((js H₀ O).fr a f)
   .exact .inr (by rw[rb (by rw[f];intro z;cases z)];exact f)
  .exact .inr l
 .cases e
def qE(is:List Nat)(b:a3):D->a3:=λd Y=>match d with
 |.tup ay=>if ay.length=is.length then b (kE is ay Y)else bad|_=>bad
def t9:List R->Option (List D)
 |[x,y]=>match x.walk,y.walk with
  |some xs,some ys=>some (jg xs ys)|_,_=>none
 |_=>none
def sC(is:List Nat)(ms:c7)(b:a3):a3:=λY=>do
 let rs <-ms Y
 match t9 rs with
 |some ds=>hr (qE is b) ds Y|none=>bad
def ahH(h:t9 rs=some ds):∃x y xs ys,rs=[x,y]/\x.walk=some xs/\y.walk=some ys/\ds=jg xs ys:=by
 unfold t9 at h;split at h
 .rename_i x y
  split at h
  .rename_i xs ys ao az
   cases h;exact⟨x,y,xs,ys,rfl,ao,az,rfl⟩
  .cases h
 .cases h
def FT{xs ys:List D}{k:Nat}{d:D}{ds:List D}(e:(jg xs ys).drop k=d::ds):∃x y,xs[k]? = some x/\ys[k]? = some y/\d=.tup [x,y]/\(jg xs ys).drop (k+1)=ds:=by
 have ao:(jg xs ys)[k]? = some d:=by
  have:=congrArg (·[0]?) e;simpa using this
 unfold jg at ao;rw[akc]at ao
 cases mn:(xs.zip ys)[k]? with
 |none=>rw[mn]at ao;cases ao
 |some p=>
  rw[mn]at ao;cases ao;obtain⟨a,b⟩:=amF.mp mn;refine⟨p.1,p.2,a,b,rfl,?_⟩;have:=congrArg (anD 1) e;simpa[ams]using this
def ahF{xs ys:List D}{k:Nat}(e:(jg xs ys).drop k=[]):xs.length<=k\/ys.length<=k:=by
 have:=congrArg ak6 e;unfold jg at this;simp only[akV,ajE,ang,akH]at this;omega
def VR{is:List Nat}:∀D av H,kH K mg (sC is ms b) D av H->r0 (yX K (oa K mg ms)) (rd K is.length (j0 is)) (kH K mg b) D av H:=by
 rintro D av H ⟨O,Y,S,ba,ai,st,h,q⟩;obtain⟨rs,S1,ae,h⟩:=M.inv h
 cases mn:t9 rs with
 |none=>rw[mn]at h;cases h
 |some ds=>
  .rw[mn]at h
   obtain⟨x,y,xs,ys,rfl,ex,fz,rfl⟩:=ahH mn;refine⟨O,Y,S,_,S1,st,ae,λaO vs H1 g1 aV bu nn=>?_⟩;obtain⟨v1,bG,rfl,a7,v2,cx,rfl,bC,re⟩:=bu;cases re;obtain⟨b4,b',us,rfl,s1,a1⟩:=Am (H₀:=H) a7 nn.1 ex;obtain⟨b5,cD,ws,rfl,s2,a2⟩:=Am (H₀:=H) bC nn.2.1 fz;have z7:=aV.cg H;refine⟨b4,b5,b',cD,rfl,⟨us,s1.dP⟩,⟨ws,s2.dP⟩,?_⟩;refine⟨λk m dk H'=>m=(jg xs ys).length-k/\∃aq Y' hC,cO K mg aq Y' hC dk H'/\eu (cg H aO) aq H1 H'/\fc Y Y' av dk/\(hr (qE is b) ((jg xs ys).drop k) Y').run hC=.ok ba ai,⟨_,rfl,_,Y,S1,z7,eu.refl _ _,fc.refl _ _,h⟩,?_⟩;rintro k m dk H' ⟨rfl,aq,Y',hC,cq,g',kp,h⟩;have E6:=pR.aA g' s1;have E7:=pR.aA g' s2
   cases e:(jg xs ys).drop k with
   |nil=>
    rw[e]at h;cases h;refine .inl ⟨⟨us,ws,E6.dP,E7.dP,?_⟩,q aq dk H' (g1.cg.aA.trans g') cq kp⟩;rw[a1.len,a2.len];exact ahF e
   |cons d nx=>
    obtain⟨b7,IL,ao,az,rfl,cF⟩:=FT e;obtain⟨u,jY,eg⟩:=(bb.aA g' a1).get ao;obtain⟨v,ev,bR⟩:=(bb.aA g' a2).get az;have fG:k<(jg xs ys).length:=by
     have:=congrArg ak6 e;rw[akV,ajW]at this;omega
    rw[e]at h;obtain⟨f1,bc,ah,h⟩:=M.inv h;unfold qE at ah;dsimp only at ah
    by_cases c:[b7,IL].length=is.length
    .rw[if_pos c]at ah
     refine .inr ⟨⟨⟨us,u,E6.dP,jY⟩,⟨ws,v,E7.dP,ev⟩⟩,λhy aM=>∃br dX bc,cO K mg br dX bc hy aM/\eu (cg H aO) br H1 aM/\fc Y dX av hy/\(hr (qE is b) ((jg xs ys).drop (k+1)) dX).run bc=.ok ba ai,?_,λx aM j'=>?_⟩
     .rintro hy aM ⟨br,dX,bc,fO,eS,l4,m6⟩
      exact⟨_,by omega,rfl,br,dX,bc,fO,eS,l4,m6⟩
     .obtain⟨u',fN,T,rfl,e1,rfl,sV,mG⟩:=j'
      have wK:=sV us E6.dP;rw[jY]at wK;cases wK;have wL:=mG ws E7.dP;rw[ev]at wL;cases wL;have i2:Go aq aq H' (upd H' T (.tup [u,v])):=Go.fI e1;refine⟨T,[u,v],rfl,dQ.of dG,by rw[<-c];rfl,Ak (ds:=[b7,IL]) (cq.fI e1) ⟨u,[v],rfl,eg.go i2,v,[],rfl,bR.go i2,rfl⟩ c λkJ mY bj=>?_⟩;refine⟨aq,_,hC,f1,bc,mY,ah,?_⟩
      cases f1 with
      |bh dX=>exact λbr hy aM g2 cU gr=>⟨br,dX,bc,cU,g'.trans (i2.aA.trans g2),kp.trans (bj.trans gr),by rw[cF];exact h⟩
      |cw dX=>exact λbr hy aM g2 cU gr=>⟨br,dX,bc,cU,g'.trans (i2.aA.trans g2),kp.trans (bj.trans gr),by rw[cF];exact h⟩
      |cP dX=>cases h;exact λbr hy aM g2 cU gr=>q br hy aM (g1.cg.aA.trans (g'.trans (i2.aA.trans g2))) cU (kp.trans (bj.trans gr))
      |cQ r=>cases h;exact λbr v aM g2 dh az cx=>q br v aM (g1.cg.aA.trans (g'.trans (i2.aA.trans g2))) dh az cx
    .rw[if_neg c]at ah;cases ah
def TY{X:aT}{pos d8:Pos}{is:List Nat}{ay:List Expr}{k:Nat}{p dv:Pos}{a fl:Expr}{ms:c7}{body:List Stmt}{b:a3}(aK:anz (model X.prog X.w) X.A X.env X.d2)(aI:X.calm=true)(rl:eU X "zip")(hm:X.mg "zip"=none)(ar:AL X [a,fl] ms)(aU:l9 X ay (j0 is))(af:sg X body b)
  (aH:(aj7 ay X.env).length=is.length:=by rfl) (f3:(aj7 ay X.env).findIdx? (·.1)=none:=by rfl)
  (aE:∀x,akv (.Call (.Name "zip" p) [a,fl] [] dv) X.env x=pure x:=by intro _;rfl) (rr:ajG [a,fl] X.env=[(false,eval a X.env),(false,eval fl X.env)]:=by rfl) (k0:ajG [fl] X.env=[(false,eval fl X.env)]:=by rfl) :
  F1 X (.For (.Tuple ay k d8) (.Call (.Name "zip" p) [a,fl] [] dv) body [] pos) (sC is ms b):=
 g_ (zU aK aI (MK rl hm ar rr k0) (wF aI aU aH f3) af aE) VR
section
variable{X:aT}
abbrev sZ:List String:=["int","bool","tuple","list","str"]
def M4(K:aS):List V->aw->df->Prop:=λxs H Q=>∃x a ee dY t,xs=[x,.ref a]/\dQ K H a [.ty ee,.ty dY]/\l_ K H x t/\ee∈sZ/\dY∈sZ/\Q (.aC (i8 t ee||i8 t dY)) H
omit [aF.a8]in
theorem Tr(kt:ug X.K):jh X (.builtin "isinstance") (M4 X.K):=by
 intro zn s Y H xs us Q J bR h;obtain⟨x,a,ee,dY,t,rfl,dP,ty,Ym,sU,q⟩:=h;obtain⟨u,eC,rfl,bG,cx⟩:=vals2 bR;cases(show eC=aka a from cx);obtain⟨its,E4,⟨o,bf,aI,n,hd⟩,_⟩:=J.tuple dP;obtain⟨l0,ib,rfl,bz,cf⟩:=vals2 E4;cases(show l0=amM ee from bz);cases(show ib=amM dY from cf);obtain⟨bK,dj,ajj,fJ⟩:=o;cases aI;cases hd;have e:W.kitAny X.K (.type t) [.type ee,.type dY]=some (i8 t ee||i8 t dY):=by
  have ao:W.kitOne X.K (.type t) (.type ee)=some (i8 t ee):=kt.ek t ty.mem ee Ym;have az:W.kitOne X.K (.type t) (.type dY)=some (i8 t dY):=kt.ek t ty.mem dY sU;unfold W.kitAny;rw[ao]
  cases i8 t ee with
  |true=>rfl|false=>
   show W.kitAny X.K (.type t) [.type dY]=_;unfold W.kitAny;rw[az];cases i8 t dY<;>rfl
 have fin:∀tk,hA X zn Y Q (.bool (i8 t ee||i8 t dY)) { s with toks:=tk }:=λtk=>⟨.aC _,H,J.tok tk,rfl,q⟩
 cases ty with
 |aG=>cases(show u=akS from bG);exact anK W.kitx_none J.fp ak4 bf e (λz=>nomatch z) fin
 |aC y=>cases(show u=amu y from bG);exact anK W.kitx_bool J.fp ak4 bf e (λz=>nomatch z) fin
 |int i=>obtain⟨t,q⟩:=(show ∃t,u=am3 i t from bG);cases q;exact anK W.kitx_int J.fp ak4 bf e (λz=>nomatch z) fin
 |str y=>obtain⟨t,q⟩:=(show ∃t,u=anw y t from bG);cases q;exact anK W.kitx_str J.fp ak4 bf e (λz=>nomatch z) fin
 |@lst a xs gC=>
  cases(show u=aka a from bG);obtain⟨its,_,⟨o,c9,ae,ah,_⟩,_⟩:=J.list gC;exact anK W.kitx_list J.fp ⟨o,ae,ah⟩ bf e (λz=>nomatch z) fin
 |@tup a xs gC=>
  cases(show u=aka a from bG);obtain⟨its,_,⟨o,ae,ah,_⟩,_⟩:=J.tuple gC;exact anK W.kitx_tuple J.fp ⟨o,ae,ah⟩ bf e (λz=>nomatch z) fin
end
def uR:List R->M R
 |[x,.v (.tup [.ty ee,.ty dY])]=>match x.kind with
  |some t=>if ee∈sZ/\dY∈sZ then pure (.v (.aC (i8 t ee||i8 t dY)))else bad|none=>bad
 |_=>bad
def σ':jL K mg (M4 K) uR:=fun O Y S av H vs rs bT ai Q st aB h q=>by
 unfold uR at h;split at h
 .rename_i x ee dY
  obtain⟨v,u,rfl,ag,bg⟩:=E0 aB;obtain⟨a,ys,rfl,dP,Az,bG,rfl,ao,AA,cx,rfl,az,cG⟩:=bg;cases cG;cases(show Az=.ty ee from ao);cases(show AA=.ty dY from az);split at h
  .rename_i t e
   by_cases aH:ee∈sZ/\dY∈sZ
   .rw[if_pos aH]at h
    cases h;exact⟨v,a,ee,dY,t,rfl,dP,R.KZ ag e,aH.1,aH.2,q O _ H (Go.refl _ _) st rfl trivial⟩
   .rw[if_neg aH]at h;cases h
  .cases h
 .cases h
end a0
namespace a0
open PySem PySem.Spec aF PyProof.Rows
variable[aF.a8]
def vv(t:aR->M Bool)(el:bo)(Y:aR):List (D×D)->M (List D)
 |[]=>pure []|d::ds=>do
  let b <-t ((Y.set 0 (.v d.1)).set 1 (.v d.2))
  if b=true then do
   let r <-el ((Y.set 0 (.v d.1)).set 1 (.v d.2))
   let x <-r.dat
   let xs <-vv t el Y ds
   pure (x::xs)
  else vv t el Y ds
def AD:List R->Option (List (D×D))
 |[x,y]=>match x.walk,y.walk with
  |some xs,some ys=>some (xs.zip ys)|_,_=>none
 |_=>none
@[simp] def uC(cap:List Nat)(ms:c7)(t:aR->M Bool)(el:bo)(Y:aR):M R:=do
 let rs <-ms Y
 match AD rs with
 |some ds=>do
  hY (ds.length<ajL)
  let xs <-vv t el (i0 2 cap Y) ds
  pure (.fr xs)
 |none=>bad
def ahG(h:AD rs=some ds):∃x y xs ys,rs=[x,y]/\x.walk=some xs/\y.walk=some ys/\ds=xs.zip ys:=by
 unfold AD at h;split at h
 .rename_i x y
  split at h
  .rename_i xs ys ao az
   cases h;exact⟨x,y,xs,ys,rfl,ao,az,rfl⟩
  .cases h
 .cases h
def il.same{b:Bool}{K:aS}{H H':aw}(s:eN H H'){a:Addr}{ys:List V}(h:il b K H a ys):il b K H' a ys:=by
 cases b with
 |true=>exact s.w1 h|false=>exact s.seq h
omit [aF.a8]in
theorem KD{t:aR->M Bool}(Y:aR):∀ds,vv t el Y ds=lO (λd=>some ((Y.set 0 (.v d.1)).set 1 (.v d.2))) t el ds
 |[]=>rfl| d::ds=>by unfold vv lO;rw[KD Y ds]
def TS{K:aS}{mg:bq}{cap:List Nat}{ms:c7}{t:aR->M Bool}{el:bo}:∀av H Q,fB K mg (uC cap ms t el) av H Q->tX 2 cap (yX K (oa K mg ms)) (rd K 2 (j0 [0,1])) (la K mg t) (fB K mg el) av H Q:=by
 rintro av H Q ⟨O,Y,S,r,ai,st,h,q⟩;obtain⟨rs,S1,ae,h⟩:=M.inv h
 cases mn:AD rs with
 |none=>rw[mn]at h;cases h
 |some ds=>
  rw[mn]at h;obtain⟨_,bc,ah,h⟩:=M.inv h;obtain⟨hlen,rfl⟩:=q0 ah;obtain⟨xs,ik,bF,h⟩:=M.inv h;cases h;obtain⟨x,y,ajA,PS,rfl,ex,fz,rfl⟩:=ahG mn;rw[KD]at bF;refine⟨O,Y,S,_,S1,st,ae,λaO vs H1 g1 aV bu nn=>?_⟩;obtain⟨v1,bG,rfl,a7,v2,cx,rfl,bC,re⟩:=bu;cases re;obtain⟨b4,b',us,rfl,s1,a1⟩:=Am (H₀:=H) a7 nn.1 ex;obtain⟨b5,cD,ws,rfl,s2,a2⟩:=Am (H₀:=H) bC nn.2.1 fz;refine⟨b4,b5,b',cD,rfl,⟨us,s1.dP⟩,⟨ws,s2.dP⟩,BK (aV.cg H) hlen (λH' s=>⟨us,ws,il.same s s1.dP,il.same s s2.dP,?_⟩) (λk d oh aq H' d4 cB g' cq=>?_) bF λaq v H' g cq bu nn=>q aq v H' (g1.cg.trans g) cq bu (nn.back g1.same)⟩
  .rw[ang,a1.len,a2.len];omega
  .cases cB
   obtain⟨ao,az⟩:=amF.mp d4;obtain⟨u,jY,eg⟩:=(bb.go g' (a1.dA (lD _))).get ao;obtain⟨v,ev,bR⟩:=(bb.go g' (a2.dA (lD _))).get az;have bz:=il.same g'.same s1.dP;have cf:=il.same g'.same s2.dP;refine⟨⟨⟨us,u,bz,jY⟩,⟨ws,v,cf,ev⟩⟩,λx aM R j' eP=>?_⟩;obtain⟨u',fN,T,rfl,e1,rfl,sV,mG⟩:=j';have wK:=sV us bz;rw[jY]at wK;cases wK;have wL:=mG ws cf;rw[ev]at wL;cases wL;have i2:Go aq aq H' (upd H' T (.tup [u,v])):=Go.fI e1;exact⟨T,[u,v],rfl,dQ.of dG,rfl,u,[v],rfl,v,[],rfl,rfl,eP _ _ i2 (((cq.fI e1).val (eg.go i2)).val (bR.go i2)) (((m'.refl _).set rfl).set rfl)⟩
section
variable{X:aT}{scope esc:Scope}{EN N:List Str}{cap:List Nat}{elt a fl:Expr}{ifs:List Expr}{pos d8 p dv p1 dB:Pos}{x y:Str}{t:aR->M Bool}{el:bo}{ms:c7}{k:Nat}
def TC(S:lp esc scope EN N 2 cap)(rl:eU X "zip")(hm:X.mg "zip"=none)(ar:AL X [a,fl] ms)(ag:N[0]? = some x)(bg:N[1]? = some y)
  (i5:∀C aN s H,Loc (cA X scope N C aN s H).env.scope x/\(cA X scope N C aN s H).env.scope.names.lookup x=some .local) (rn:∀C aN s H,Loc (cA X scope N C aN s H).env.scope y/\(cA X scope N C aN s H).env.scope.names.lookup y=some .local)
  (bO:∀C aN s H,AM (cA X scope N C aN s H) ifs t) (iu:∀C aN s H,hR (cA X scope N C aN s H) elt el)
  (he:X.env.scope=esc:=by rfl) (hN:X.N=EN:=by rfl) (aI:X.calm=true:=by rfl) (aE:∀x,akv (.Call (.Name "zip" p) [a,fl] [] dv) X.env x=pure x:=by intro _;rfl)
  (rr:ajG [a,fl] X.env=[(false,eval a X.env),(false,eval fl X.env)]:=by rfl) (k0:ajG [fl] X.env=[(false,eval fl X.env)]:=by rfl)
  (mD:∀C aN s H,(aj7 [.Name x p1,.Name y dB] (cA X scope N C aN s H).env).length=2/\(aj7 [.Name x p1,.Name y dB] (cA X scope N C aN s H).env).findIdx? (·.1)=none/\
   (aj7 [.Name x p1,.Name y dB] (cA X scope N C aN s H).env).map (·.2)=al7 (.Name x p1) (cA X scope N C aN s H).env::(aj7 [.Name y dB] (cA X scope N C aN s H).env).map (·.2)/\
   (aj7 [.Name y dB] (cA X scope N C aN s H).env).map (·.2)=al7 (.Name y dB) (cA X scope N C aN s H).env::(aj7 [] (cA X scope N C aN s H).env).map (·.2):=by intros;exact⟨rfl,rfl,rfl,rfl⟩) :
  hR X (.ListComp elt [⟨.Tuple [.Name x p1,.Name y dB] k d8,.Call (.Name "zip" p) [a,fl] [] dv,ifs,0⟩] scope pos) (uC cap ms t el):=
 eI (Ey (wi:=yX X.K (oa X.K X.mg ms)) (g:=rd X.K 2 (j0 [0,1])) (tt:=la X.K X.mg t) (te:=fB X.K X.mg el) S (MK rl hm ar rr k0)
  (λC aN s H=>wF aI (wG S.dZ ag (i5 C aN s H).1 (wG S.dZ bg (rn C aN s H).1 EE (mD C aN s H).2.2.2 (.inr (rn C aN s H).2)) (mD C aN s H).2.2.1 (.inr (i5 C aN s H).2)) (mD C aN s H).1 (mD C aN s H).2.1) bO iu he hN aI aE) TS
end
end a0
namespace a0
open PySem PySem.Spec aF PyProof.Rows
def Td:akx "max"=some (.builtin "max"):=by decide +kernel
def kmk_max_key(a v:Value):argsOk "max" ⟨[a],[(ajZ "key",v)]⟩:=by unfold argsOk;kernel_rfl
def mM(mf:bJ)(d:D):Option (List Int):=match(mf [d]).run []with
 |.ok (.v (.tup bj)) []=>nums bj|_=>none
def ks(mf:bJ)(b:D)(gs:List Int):List D->Option D
 |[]=>some b|d::ds=>match mM mf d with
  |some kd=>if g7 kd gs=true then ks mf d kd ds else ks mf b gs ds|none=>none
def vY(mf:bJ):List D->Option D
 |d::ds=>match mM mf d with
  |some k=>ks mf d k ds|none=>none
 |[]=>none
def yn(mf:bJ)(x:R):M R:=match x.fX with
 |some ds=>match vY mf ds with
  |some r=>if ds.length<64 then pure (.v r)else bad|none=>bad
 |none=>bad
@[simp] def x8(mf:bJ)(c_:bo)(Y:aR):M R:=do
 let x <-c_ Y
 yn mf x
def KS{mf:bJ}{k:List Int}(h:mM mf d=some k):∃bj,(mf [d]).run []=.ok (.v (.tup bj)) []/\nums bj=some k:=by
 unfold mM at h;split at h
 .rename_i bj e;exact⟨bj,e,h⟩
 .cases h
variable[aF.a8]
section
variable{X:aT}{zn:c8}{Y:aF.St}{H:aw}{s:ajH}{G:aw->Prop}{mf:bJ}{f S it l:Addr}{k:Nat}{O:a5}
def next_item{xs:List V}{v:V}{E:cN}{A:aj4}(J:Inv X zn Y H1 s)(cX:dx X.K H1 l xs)(bL:xs[j]? = some v)(aN:gJ X zn H1 it)(hit:s.heap.IsListIter it l j)(dK:A.handled=none) :
  wpAny (model X.prog X.w) A (al8 (.ref it)) (λr s1=>∃u,r=some u/\RelV v u/\Inv X zn Y H1 s1/\s1.heap.IsListIter it l (j+1)) E s:=by
 obtain⟨us,bR,pl,_⟩:=J.list cX;have au:s.heap.IsList l us.toArray:=pl.isList;have h3:l≠it:=by
  rintro rfl;obtain⟨o,e,c,_⟩:=hit;obtain⟨o',cF,c',_⟩:=au;rw[e]at cF;cases cF;rw[c]at c';injection c' with z;exact absurd z (by decide)
 obtain⟨u,cC,eg⟩:=bR.get bL;have W:=aoD (prog:=X.prog) (w:=X.w) (A:=A) dK it l h3 us.toArray;refine W.item j s _ _ (by have:=(ajJ.mp cC).1;simpa using this) ⟨hit,au⟩ λu' h' Fq ez Yy oL=>?_
 have e:some u'=some u:=by rw[<-cC];simpa using ez.symm
 cases e;obtain⟨f0,f1,f2,gZ,f4,g0⟩:=aN;exact⟨u,rfl,eg,J.turned (t':=Fq) (λb o af e=>oL b o (by simpa using af) e) f0 f1 gZ f4 g0,Yy.1⟩
def Me{xs:List V}{E:cN}{A:aj4}(J:Inv X zn Y H1 s)(cX:dx X.K H1 l xs)(bL:j=xs.length)(aN:gJ X zn H1 it)(hit:s.heap.IsListIter it l j)(dK:A.handled=none) :
  wpAny (model X.prog X.w) A (al8 (.ref it)) (λr s1=>r=none/\Inv X zn Y H1 s1) E s:=by
 obtain⟨us,bR,pl,_⟩:=J.list cX;have au:s.heap.IsList l us.toArray:=pl.isList;have h3:l≠it:=by
  rintro rfl;obtain⟨o,e,c,_⟩:=hit;obtain⟨o',cF,c',_⟩:=au;rw[e]at cF;cases cF;rw[c]at c';injection c' with z;exact absurd z (by decide)
 have W:=aoD (prog:=X.prog) (w:=X.w) (A:=A) dK it l h3 us.toArray;have B4:j=us.toArray.size:=by rw[ajT,bL,bR.length]
 rw[B4]at hit;refine W.done s _ _ ⟨hit,au⟩ λh' Fq oL=>?_
 obtain⟨f0,f1,f2,gZ,f4,g0⟩:=aN;exact⟨rfl,J.turned (t':=Fq) (λb o af e=>oL b o (by simpa using af) e) f0 f1 gZ f4 g0⟩
def KV{aO:a5}{v:V}{A:aj4}(fT:oo X k f G mf)(aB:cK k A.in1)(eb:lr X.prog X.w X.K X.mg X.base A.in1 X.stack s H1)(J:Inv X zn Y H1 s)(gB:da aO H1)(pH:G H1)(a4:Rep X.K X.mg aO H1 d v)(eg:RelV v u)(hd:(mf [d]).run []=.ok (.v jw) [])(aN:gJ X zn H1 it)(hit:s.heap.IsListIter it l j) :
  wpAny (model X.prog X.w) A.in1 (call (.ref f) [u]) (λu' s2=>∃(br:a5)(aM:aw)(fN:V),Inv X zn Y aM s2/\Go aO br H1 aM/\da br aM/\G aM/\Rep X.K X.mg br aM jw fN/\RelV fN u'/\gJ X zn aM it/\s2.heap.IsListIter it l j) (λ_ _=>False) s:=by
 obtain⟨wk,yk,ci,yf⟩:=hit;have Qg:Inv X (zn++rP [it] s.heap) Y H1 s:=J.pinned (λb af=>by rw[aj0.mp af];exact aN) λb af=>by
  rw[aj0.mp af];exact⟨wk,yk,λv z=>by rw[yf]at z;cases z⟩
 refine wpAny_call (alV (fT.2.2 A.in1 s H1 u v (λfN H'=>∃aq,Go aO aq H1 H'/\da aq H'/\Rep X.K X.mg aq H' jw fN) aB eb pH eg ?_) λr s2 a9=>?_)
 .refine⟨aO,[d],.v jw,[],gB,gz.nil,⟨v,[],rfl,?_,rfl⟩,hd,λaq fN H' g cT bu _=>⟨aq,g,cT,bu⟩⟩
  cases d<;>first|exact a4|exact akl a4|skip
  obtain⟨x,zs,q,l,r⟩:=a4;exact⟨x,zs,q,l.dP,r⟩
 .cases r with
  |error e=>exact akl a9|ok ba=>
   cases ba with
   |ret u'=>
    obtain⟨fN,aM,bX,bR,br,g2,dh,cx⟩:=Qg.after a9;have pin:=bX.pin (it,wk) (aky _ (aky _ (by unfold rP;simp[yk])));exact⟨br,aM,fN,bX.xa,g2,dh,fT.1 _ _ g2.same pH,cx,bR,⟨pin.2.1,aN.2⟩,⟨wk,pin.1,ci,yf⟩⟩
   |next=>exact akl a9
   |brk=>exact akl a9|cont=>exact akl a9
structure P1(X:aT)(zn:c8)(Y:aF.St)(G:aw->Prop)(O:a5)(H:aw)(S it l:Addr)(j:Nat)(d:D)(gs:List Int)(aQ:ajH):Prop where
 ex:∃aq H' v kv,Inv X zn Y H' aQ/\Go O aq H H'/\da aq H'/\G H'/\H' S=some (.lst [v,kv])/\Rep X.K X.mg aq H' d v/\Rep X.K X.mg aq H' (.tup (gs.map D.int)) kv/\aq S=.dF/\gJ X zn H' it/\aQ.heap.IsListIter it l j
def xy(X:aT)(zn:c8)(Y:aF.St)(O:a5)(H:aw)(res:D)(u:Value)(aQ:ajH):Prop:=
 ∃aq H' v,Inv X zn Y H' aQ/\Go O aq H H'/\da aq H'/\Rep X.K X.mg aq H' res v/\RelV v u
def Nb{K:aS}{mg:bq}{O:a5}{H:aw}{bj:List D}{gs:List Int}{v:V}(r:Rep K mg O H (.tup bj) v)(e:nums bj=some gs):Rep K mg O H (.tup (gs.map D.int)) v:=by
 obtain⟨a,ys,rfl,dP,bt⟩:=r;have:=tB bt e;subst this;exact⟨a,_,rfl,dP,M' gs⟩
def Nc{K:aS}{mg:bq}{O:a5}{H:aw}{gs:List Int}{v:V}(r:Rep K mg O H (.tup (gs.map D.int)) v):∃a,v=.ref a/\dQ K H a (gs.map V.int):=by
 obtain⟨a,ys,rfl,dP,bt⟩:=r;have:∀(gs:List Int)(ys:List V),bb K mg O H (gs.map D.int) ys->ys=gs.map V.int:=by
  intro gs
  induction gs with
  |nil=>intro ys h;exact h|cons a t a6=>
   intro ys h;obtain⟨y,r,rfl,ae,ah⟩:=h;rw[show y=V.int a from ae,a6 _ ah];rfl
 rw[this gs ys bt]at dP;exact⟨a,rfl,dP⟩
def vals2{v kv:V}(h:Vals [v,kv] its):∃u k3,its=[u,k3]/\RelV v u/\RelV kv k3:=by
 cases h with
 |cons bG cx=>cases cx with
  |cons pd n5=>cases n5;exact⟨_,_,rfl,bG,pd⟩
def x1{H1:aw}{its:List Value}{v kv:V}(J:Inv X zn Y H1 s)(cX:H1 S=some (.lst zs))(g4:s.heap.get? S=some (akk "list" its.toArray Bw))(bR:RelV v u)(jB:RelV kv k3) :
  Inv X zn Y (upd H1 S (.lst [v,kv])) { s with heap:=s.heap.update S (akh λ_=>#[u,k3]) }:=by
 have s1:=akX s.heap S (akh λ_=>#[u,k3]);obtain⟨ab,h2⟩:∃ab,(s.heap.update S (akh λ_=>#[u,k3])).get? S=some (akk "list" #[u,k3] ab):=⟨_,alL g4 λ_=>#[u,k3]⟩;refine J.write (x:=S) (e:=S) (t':=s.toks) (by rw[cX];trivial) (.inl rfl) (λb o af e=>(s1.2 b af).trans e) ⟨_,h2⟩ ⟨by rw[ake];simp,[u,k3],ab,.cons bR (.cons jB .nil),h2⟩
def HN{H1:aw}{its:List Value}(J:Inv X zn Y H1 s)(cX:H1 S=some (.lst zs))(g4:s.heap.get? S=some (akk "list" its.toArray Bw)) :
  Inv X zn Y (upd H1 S (.lst [])) { s with heap:=s.heap.update S (akh λ_=>#[]) }:=by
 have s1:=akX s.heap S (akh λ_=>(#[]:Array Value));obtain⟨ab,h2⟩:∃ab,(s.heap.update S (akh λ_=>(#[]:Array Value))).get? S=some (akk "list" #[] ab):=⟨_,alL g4 λ_=>#[]⟩;refine J.write (x:=S) (e:=S) (t':=s.toks) (by rw[cX];trivial) (.inl rfl) (λb o af e=>(s1.2 b af).trans e) ⟨_,h2⟩ ⟨aj5 _,[],ab,.nil,h2⟩
def y2{h:Heap}(h3:S≠it)(hit:h.IsListIter it l j):(h.update S g).IsListIter it l j:=by
 obtain⟨wk,yk,ci,yf⟩:=hit;exact⟨wk,((akX h S g).2 it h3.symm).trans yk,ci,yf⟩
def yt(h3:S≠it)(aN:gJ X zn H1 it):gJ X zn (upd H1 S o) it:=⟨by rw[dm h3.symm];exact aN.1,aN.2⟩
def aaf{res:D}(fT:oo X k f G mf)(aB:cK (k+1) X.A)(vh:H S=none)(j2:S≠it)(bt:bb X.K X.mg O H ds xs)(au:dx X.K H l xs) :
  ∀(r:List D)(j:Nat)(d:D)(gs:List Int)(aQ:ajH),ds.drop j=r->P1 X zn Y G O H S it l j d gs aQ->j<=ds.length->ks mf d gs r=some res->
   amn (model X.prog X.w) X.A (.builtin "max.loop" ⟨[.ref it,.ref f,.ref S],[]⟩) (λr aQ=>∃u,r=.ok (.ret u)/\xy X zn Y O H res u aQ) aQ:=by
 have mB:(toString "max"++toString ".loop":String)="max.loop":=by decide
 have dK:X.A.in1.handled=none:=aB.in1.hd;have Z5:=bt.len;intro r
 induction r with
 |nil=>
  intro j d gs aQ oG B aZ aU;cases aU;obtain⟨aO,H1,v,kv,a_,g1,gB,pH,cX,a4,jB,pa,aN,hit⟩:=B.ex;obtain⟨hsz,its,n,vals,g4⟩:=a_.bP S _ cX;obtain⟨u,k3,rfl,eg,wQ⟩:=vals2 vals;have oK:j=xs.length:=by
   have:=congrArg ak6 oG;rw[akV,akH]at this;omega
  refine amd alk ?_;rw[alu aki _];show wpAny _ X.A.in1 (amc (.ref S) >>= _) _ _ _;refine ajD (akN g4 rfl ?_);show wpAny _ X.A.in1 (tryCatch (al8 (.ref it)) _ >>= _) _ _ _;refine ajD (ale (akm (Me (E:=λ_ _=>False) a_ (g1.same.seq au) oK aN hit dK) (λr s1 a9=>?_) λ_ _ dy=>dy.elim));obtain⟨rfl,bX⟩:=a9;obtain⟨_,lN,dY,FC,vf⟩:=bX.bP S _ cX;show wpAny _ X.A.in1 (updateSeq S (λ_=>#[]) >>= _) _ _ _;refine ajD ?_;refine ame vf rfl (hz:=by rw[ajT,<-FC.length,ake];simp) (ajD (alj (ajI ?_)));exact⟨u,rfl,aO,_,v,HN bX cX vf,⟨pq vh g1.same cX _,g1.own,g1.bM⟩,gB.es cX,a4.es (by rw[pa];intro z;cases z) cX,eg⟩
 |cons dh r a6=>
  intro j d gs aQ oG B aZ aU;unfold ks at aU
  cases gp:mM mf dh with
  |none=>rw[gp]at aU;cases aU
  |some kd=>
   rw[gp]at aU
   replace aU:(if g7 kd gs=true then ks mf dh kd r else ks mf d gs r)=some res:=aU
   obtain⟨bj,hm,aH⟩:=KS gp;obtain⟨aO,H1,v,kv,a_,g1,gB,pH,cX,a4,jB,pa,aN,hit⟩:=B.ex;obtain⟨hsz,its,n,vals,g4⟩:=a_.bP S _ cX;obtain⟨u,k3,rfl,eg,wQ⟩:=vals2 vals;have hd2:ds[j]? = some dh:=by
    have:=congrArg (·[0]?) oG;simpa using this
   have vc:ds.drop (j+1)=r:=by
    have:=congrArg (anD 1) oG;simpa[ams]using this
   have oK:j+1<=ds.length:=(ajJ.mp hd2).1;obtain⟨v2,De,wO⟩:=bt.get hd2;refine amd alk ?_;rw[alu aki _];show wpAny _ X.A.in1 (amc (.ref S) >>= _) _ _ _;refine ajD (akN g4 rfl ?_);show wpAny _ X.A.in1 (tryCatch (al8 (.ref it)) _ >>= _) _ _ _;refine ajD (ale (akm (next_item (E:=λ_ _=>False) a_ (g1.same.seq au) De aN hit dK) (λr s1 a9=>?_) λ_ _ dy=>dy.elim));obtain⟨ib,rfl,mU,bX,p'⟩:=a9;show wpAny _ X.A.in1 (tryCatch (alq [ib] (call (.ref f) [ib])) _ >>= _) _ _ _;refine ajD (ale (akZ (akm (KV fT aB.in1 bX.uN.in1 bX gB pH (wO.go g1) mU hm aN p') (λPu s3 a9=>?_) λ_ _ dy=>dy.elim)));obtain⟨e4,cZ,K4,dN,g3,nv,xr,E1,E2,yr,yN⟩:=a9;have jv:=g3.same.at' _ _ cX;have n0:e4 S=.dF:=(g3.own S (by rw[cX];intro z;cases z)).trans pa;obtain⟨_,Ds,iS,vals3,mz⟩:=dN.bP S _ jv;have z1:=Nb E1 aH;obtain⟨eV,rfl,aeG⟩:=Nc z1;obtain⟨a1,rfl,aeF⟩:=Nc (jB.go g3);cases E2;cases wQ;obtain⟨t3,YH,Eu,_⟩:=dN.tuple aeG;obtain⟨t1,fH,p1,_⟩:=dN.tuple aeF;show wpAny _ X.A.in1 (tryCatch (alq [ib,.ref eV] (amW .Gt (.ref eV) (.ref a1) >>= _)) _ >>= _) _ _ _;refine ajD (ale (akZ (ajD ((Jt Eu p1 (intsAre_of YH) (intsAre_of fH) aB.in1.afF ?_)))));refine ajD (akZ (akY ?_));refine ajD (alj (ajI ?_))
   by_cases af:g7 kd gs=true
   .rw[if_pos af]at aU
    simp only[af,if_true];refine ajD ?_;refine ame mz rfl (hz:=by rw[ajT,<-vals3.length,ake];simp) (ajD (alj ?_));rw[mB];refine ajI ⟨alO aki _,a6 (j+1) dh kd _ vc ?_ oK aU⟩;exact⟨e4,_,v2,.ref eV,x1 (v:=v2) (kv:=.ref eV) dN jv mz mU (show RelV (.ref eV) (.ref eV)from rfl),⟨pq vh (g1.trans g3).same jv _,(g1.trans g3).own,(g1.trans g3).bM⟩,nv.es jv,fT.2.1 _ _ _ _ jv xr,dG,(wO.go (g1.trans g3)).es (by rw[n0];intro z;cases z) jv,z1.es (by rw[n0];intro z;cases z) jv,n0,yt j2 yr,y2 j2 yN⟩
   .rw[if_neg af]at aU
    simp only[af,if_false];refine ajD (alj ?_);rw[mB];refine ajI ⟨alO aki _,a6 (j+1) d gs _ vc ?_ oK aU⟩;exact⟨e4,cZ,v,.ref a1,dN,g1.trans g3,nv,xr,jv,a4.go g3,jB.go g3,n0,yr,yN⟩
theorem aae{E:cN}(J:Inv X zn Y H s)(cT:da O H)(bt:bb X.K X.mg O H ds xs)(au:dx X.K H l xs)(fT:oo X k f G mf)(uW:G H)(aB:cK (k+1) X.A)(hm:vY mf ds=some res) :
  wpAny (model X.prog X.w) X.A (call (.builtin "max") [.ref l] [(ajZ "key",.ref f)]) (xy X zn Y O H res) E s:=by
 have mB:(toString "max"++toString ".loop":String)="max.loop":=by decide
 have dK:X.A.in1.handled=none:=aB.in1.hd
 cases ds with
 |nil=>cases hm
 |cons d ds=>
  replace hm:(match mM mf d with|some k=>ks mf d k ds|none=>none)=some res:=hm
  cases gp:mM mf d with
  |none=>rw[gp]at hm;cases hm
  |some kd=>
   rw[gp]at hm;obtain⟨bj,ax,aH⟩:=KS gp;obtain⟨us,bR,pl,_⟩:=J.list au;have fU:s.heap.IsList l us.toArray:=pl.isList;refine kmk_tree PySem.F.kind_max PySem.F.plain_max PySem.F.entry_max (kmk_max_key _ _) ?_;show wpAny _ X.A.in1 (alH "max" ["key","default"] 0 ⟨[],[(ajZ "key",.ref f)]⟩ >>= _) _ _ s;refine ajD (wpAny_of_eq (show alH "max" ["key","default"] 0 ⟨[],[(ajZ "key",.ref f)]⟩=pure [some (.ref f),none]from rfl) ?_);refine ajD (ajI ?_);refine ajD (alv fU ?_);refine ajD (amz ?_ (aj5 _));rw[mB];have a_:Inv X zn Y H { s with heap:=s.heap.push { cls:=.type "list_iterator",data:=.fields #[.ref l,.int 0 0] } }:=J.kept (t':=s.toks) λb o e=>ajF _ e
   have nG:(s.heap.push { cls:=.type "list_iterator",data:=.fields #[.ref l,.int 0 0] }).get? s.heap.objs.size=some { cls:=.type "list_iterator",data:=.fields #[.ref l,.int 0 0] }:=ajS _ rfl;have hsz:(s.heap.push { cls:=.type "list_iterator",data:=.fields #[.ref l,.int 0 0] }).objs.size=s.heap.objs.size+1:=an2 ..;generalize X_:s.heap.push { cls:=.type "list_iterator",data:=.fields #[.ref l,.int 0 0] }=ae at *;have oz:H ae.objs.size=none:=a_.bP.fresh (ajK _);have j2:ae.objs.size≠s.heap.objs.size:=by rw[hsz];omega
   have bX:Inv X zn Y (upd H ae.objs.size (.lst [])) { s with heap:=ae.push (akk "list" #[] 0) }:=
    a_.laid (t':=s.toks) (λb o e=>ajF _ e) (ajK _) ⟨aj5 _,[],0,.nil,ajS _ rfl⟩
   have aN:gJ X zn (upd H ae.objs.size (.lst [])) s.heap.objs.size:=J.p5 (ajK _) (by rw[dm j2.symm];exact J.bP.fresh (ajK _));have hit:(ae.push (akk "list" #[] 0)).IsListIter s.heap.objs.size l 0:=⟨_,ajF _ nG,rfl,rfl⟩;have go2:Go O (f9 O ae.objs.size .dF) H (upd H ae.objs.size (.lst [])):=Go.new oz;have BS:da (f9 O ae.objs.size .dF) (upd H ae.objs.size (.lst [])):=cT.new oz;have qv:f9 O ae.objs.size .dF ae.objs.size=.dF:=ob;have rg:upd H ae.objs.size (.lst []) ae.objs.size=some (.lst []):=dG;have g4:(ae.push (akk "list" #[] 0)).get? ae.objs.size=some (akk "list" #[] 0):=ajS _ rfl;refine ajI ⟨alO aki _,?_⟩;generalize ae.push (akk "list" #[] 0)=ah at *;generalize ae.objs.size=S at *;generalize s.heap.objs.size=it at *;generalize f9 O S .dF=br at *;generalize upd H S (.lst [])=aM at *;obtain⟨v,bL,a4⟩:=bt.get (i:=0) (d:=d) rfl;refine amd alk ?_;rw[alu aki _];show wpAny _ X.A.in1 (amc (.ref S) >>= _) _ _ _;refine ajD (akN g4 rfl ?_);show wpAny _ X.A.in1 (tryCatch (al8 (.ref it)) _ >>= _) _ _ _;refine ajD (ale (akm (next_item (E:=λ_ _=>False) bX (go2.same.seq au) bL aN hit dK) (λr s1 a9=>?_) λ_ _ dy=>dy.elim));obtain⟨ib,rfl,mU,dN,p'⟩:=a9;show wpAny _ X.A.in1 (tryCatch (alq [ib] (call (.ref f) [ib])) _ >>= _) _ _ _;refine ajD (ale (akZ (akm (KV fT aB.in1 dN.uN.in1 dN BS (fT.1 _ _ go2.same uW) (a4.go go2) mU ax aN p') (λPu s3 a9=>?_) λ_ _ dy=>dy.elim)));obtain⟨e4,cZ,K4,jk,g3,nv,xr,E1,E2,yr,yN⟩:=a9;have jv:=g3.same.at' _ _ rg;have n0:e4 S=.dF:=(g3.own S (by rw[rg];intro z;cases z)).trans qv;obtain⟨_,Ds,iS,vals3,mz⟩:=jk.bP S _ jv;have z1:=Nb E1 aH;show wpAny _ X.A.in1 (updateSeq S (λ_=>#[ib,Pu]) >>= _) _ _ _;refine ajD ?_;refine ame mz rfl (hz:=by rw[ajT,<-vals3.length,ake];simp) ?_;rw[mB];refine ajI ⟨alO aki _,alV (aaf (zn:=zn) (Y:=Y) fT aB oz j2 bt au ds 1 d kd _ rfl ?_ (by simp) hm) λr aQ a9=>?_⟩
   .exact⟨e4,_,v,K4,x1 jk jv mz mU E2,⟨pq oz (go2.trans g3).same jv _,(go2.trans g3).own,(go2.trans g3).bM⟩,nv.es jv,fT.2.1 _ _ _ _ jv xr,dG,(a4.go (go2.trans g3)).es (by rw[n0];intro z;cases z) jv,z1.es (by rw[n0];intro z;cases z) jv,n0,yt j2 yr,y2 j2 yN⟩
   .obtain⟨u,rfl,a9⟩:=a9
    exact a9
end
section
variable{X:aT}{k:Nat}{e:Expr}{c_:bo}{p pos kp:Pos}{jw:Expr}{mf:bJ}{G:Addr->aw->Prop}
def TF(aU:eU X "max")(hm:X.mg "max"=none)(aB:cK (k+1) X.A)(ar:hR X e c_)
  (dH:∀(zn:c8)(s:ajH)(Y:aF.St)(O:a5)(H:aw),Inv X zn Y H s->da O H->
   wpAny (model X.prog X.w) X.A (eval jw X.env) (λu aQ=>∃(f:Addr)(H':aw)(G:aw->Prop),u=.ref f/\Inv X zn Y H' aQ/\Go O O H H'/\da O H'/\G H'/\oo X k f G mf) X.d2 s)
  (he:aj9 pos (ajG [e] X.env)=(false,eval e X.env)::aj9 pos (ajG [] X.env):=by rfl)
  (aE:ajG [e] X.env=(false,eval e X.env)::ajG [] X.env:=by rfl)
  (i6:(aj9 pos (ajG [e] X.env)).any (·.1)=false:=by rfl) :
  hR X (.Call (.Name "max" p) [e] [⟨some (ajZ "key"),jw,kp⟩] pos) (x8 mf c_):=by
 rintro zn s Y H Q J ⟨O,xk,S,r,ai,st,h,q⟩;obtain⟨x,S1,ae,h⟩:=M.inv h;obtain⟨ds,res,oH,Yk,ju,rfl,rfl⟩:∃ds res,x.fX=some ds/\vY mf ds=some res/\ds.length<64/\r=.v res/\S1=ai:=by
  unfold yn at h;split at h
  .rename_i ds ao
   split at h
   .rename_i res az
    by_cases c:ds.length<64
    .rw[if_pos c]at h
     cases h;exact⟨ds,res,ao,az,c,rfl,rfl⟩
    .rw[if_neg c]at h;cases h
   .cases h
  .cases h
 refine ala (ry J aU hm Td ?_);refine callWith_kw ?_ he i6 rfl rfl;refine bZ ((wy ar Ex aE) pos zn s Y H (λvs H1=>∃v aO,vs=[v]/\Go O aO H H1/\cO X.K X.mg aO xk S1 Y H1/\e5 X.K X.mg aO H1 x v) J ⟨O,xk,S,x,S1,st,ae,λaO v H1 g1 aV bu nn=>⟨v,aO,rfl,g1,aV,bu⟩⟩) λus s1 aX=>?_
 obtain⟨vs,H1,a_,bG,v,aO,ev,g1,aV,bu⟩:=aX;subst ev;obtain⟨l,ys,rfl,au,bt⟩:=R.nO bu oH;obtain⟨u,rfl,eg⟩:=vals1 bG;cases eg;refine wpAny_evalAll_cons (ajD (bZ (dH zn s1 Y aO H1 a_ aV.cn) λu s2 ax=>ajD (anQ (ajI ?_))));obtain⟨f,aM,G,rfl,bX,g2,dh,Cs,fT⟩:=ax;refine wpAny_evalAll_nil ?_;show wpAny _ _ (call (.builtin "max") [.ref l] [(ajZ "key",.ref f)]) _ _ _;refine bZ (aae bX dh (bt.go g2) (g2.same.seq au) fT Cs aB Yk) λu s3 aX=>?_
 obtain⟨e4,cZ,v,dN,g3,nv,EY,E5⟩:=aX;exact⟨v,cZ,dN,E5,q e4 _ cZ (g1.trans (g2.trans g3)) (aV.go (g2.trans g3) nv) EY trivial⟩
def TG{c P:Addr}{q p1:Str}{params:amI}{body:Expr}{scope:Scope}{k4:Pos}{N:List Str}{m:bo}(aU:eU X "max")(hm:X.mg "max"=none)(aB:cK (k+3) X.A)(L:ng X.K c P q)(B:kK X.base X.mg)(nJ:X.env.code=.ref c)
  (a9:X.env.qual++ajZ "<lambda>"=q) (Sc:cb N [p1] scope)
  (my:∀(c:Addr)(pm hn u:Value),alU (W.kla_fn (ajZ "<lambda>") q params body scope [] pm (.ref c) hn) ⟨[u],[]⟩=pure [(p1,u)])
  (af:∀(f c:Addr)(A:aj4)(s:ajH)(H:aw),cK k (A.deeper (amo q scope s.heap.objs.size f (.ref c)))->hR (ho eT X.prog X.w X.K X.mg X.base N q scope f (.ref c) A X.stack s H jj).gO body m)
  (ar:hR X e c_) (oF:an3 params X.env=([],[]):=by rfl) (j3:ama scope X.env=pure []:=by rfl)
  (he:aj9 pos (ajG [e] X.env)=(false,eval e X.env)::aj9 pos (ajG [] X.env):=by rfl)
  (aE:ajG [e] X.env=(false,eval e X.env)::ajG [] X.env:=by rfl)
  (i6:(aj9 pos (ajG [e] X.env)).any (·.1)=false:=by rfl) :
  hR X (.Call (.Name "max" p) [e] [⟨some (ajZ "key"),.Lambda params body scope k4,kp⟩] pos) (x8 (fnOf 1 N.length (bE m)) c_):=
 TF (k:=k+1) aU hm (aB.mono (by omega)) ar (λzn s Y O H J cT=>bZ (Lb J cT L B nJ a9 oF j3) λu aQ ⟨f,c',pm,hn,H',jY,ih,g',d',om⟩=>
  ⟨f,H',_,jY,ih,g',d',om,Lc Sc (my c' pm hn) (af f c')⟩) he aE i6
end
end a0
namespace a0
open PySem PySem.Spec aF PyProof.Rows
variable[aF.a8]
section
variable{X:aT}{scope esc:Scope}{EN N:List Str}{cap:List Nat}{elt a fl:Expr}{ifs:List Expr}{pos d8 p dv p1 dB:Pos}{x y:Str}{t:aR->M Bool}{el:bo}{ms:c7}{k:Nat}
def af2(S:lp esc scope EN N 2 cap)(rl:eU X "zip")(hm:X.mg "zip"=none)(ar:gK X [a,fl] ms)(ag:N[0]? = some x)(bg:N[1]? = some y)
  (i5:∀C aN s H,Loc (cA X scope N C aN s H).env.scope x/\(cA X scope N C aN s H).env.scope.names.lookup x=some .local) (rn:∀C aN s H,Loc (cA X scope N C aN s H).env.scope y/\(cA X scope N C aN s H).env.scope.names.lookup y=some .local)
  (bO:∀C aN s H,pT (cA X scope N C aN s H) ifs t) (iu:∀C aN s H,a' (cA X scope N C aN s H) elt el)
  (he:X.env.scope=esc:=by rfl) (hN:X.N=EN:=by rfl) (aI:X.calm=true:=by rfl) (aE:∀x,akv (.Call (.Name "zip" p) [a,fl] [] dv) X.env x=pure x:=by intro _;rfl)
  (rr:ajG [a,fl] X.env=[(false,eval a X.env),(false,eval fl X.env)]:=by rfl) (k0:ajG [fl] X.env=[(false,eval fl X.env)]:=by rfl)
  (mD:∀C aN s H,(aj7 [.Name x p1,.Name y dB] (cA X scope N C aN s H).env).length=2/\(aj7 [.Name x p1,.Name y dB] (cA X scope N C aN s H).env).findIdx? (·.1)=none/\
   (aj7 [.Name x p1,.Name y dB] (cA X scope N C aN s H).env).map (·.2)=al7 (.Name x p1) (cA X scope N C aN s H).env::(aj7 [.Name y dB] (cA X scope N C aN s H).env).map (·.2)/\
   (aj7 [.Name y dB] (cA X scope N C aN s H).env).map (·.2)=al7 (.Name y dB) (cA X scope N C aN s H).env::(aj7 [] (cA X scope N C aN s H).env).map (·.2):=by intros;exact⟨rfl,rfl,rfl,rfl⟩) :
  a' X (.ListComp elt [⟨.Tuple [.Name x p1,.Name y dB] k d8,.Call (.Name "zip" p) [a,fl] [] dv,ifs,0⟩] scope pos) (uC cap ms t el):=
 ⟨TC S rl hm ar.un ag bg i5 rn (λC aN s H=>(bO C aN s H).un) (λC aN s H=>(iu C aN s H).un) he hN aI aE rr k0 mD⟩
end
def agv{X:aT}{pos d8:Pos}{is:List Nat}{ay:List Expr}{k:Nat}{p dv:Pos}{a fl:Expr}{ms:c7}{body:List Stmt}{b:a3}(aK:anz (model X.prog X.w) X.A X.env X.d2)(aI:X.calm=true)(rl:eU X "zip")(hm:X.mg "zip"=none)(ar:gK X [a,fl] ms)(aU:l9 X ay (j0 is))(af:fS X body b)
  (aH:(aj7 ay X.env).length=is.length:=by rfl) (f3:(aj7 ay X.env).findIdx? (·.1)=none:=by rfl)
  (aE:∀x,akv (.Call (.Name "zip" p) [a,fl] [] dv) X.env x=pure x:=by intro _;rfl) (rr:ajG [a,fl] X.env=[(false,eval a X.env),(false,eval fl X.env)]:=by rfl) (k0:ajG [fl] X.env=[(false,eval fl X.env)]:=by rfl) :
  fu X (.For (.Tuple ay k d8) (.Call (.Name "zip" p) [a,fl] [] dv) body [] pos) (sC is ms b):=⟨TY aK aI rl hm ar.un aU af.un aH f3 aE rr k0⟩
section
variable{X:aT}{k:Nat}{e:Expr}{c_:bo}{p pos kp:Pos}
def af6{c P:Addr}{q p1:Str}{params:amI}{body:Expr}{scope:Scope}{k4:Pos}{N:List Str}{m:bo}(aU:eU X "max")(hm:X.mg "max"=none)(aB:cK (k+3) X.A)(L:ng X.K c P q)(B:kK X.base X.mg)(nJ:X.env.code=.ref c)
  (a9:X.env.qual++ajZ "<lambda>"=q) (Sc:cb N [p1] scope)
  (my:∀(c:Addr)(pm hn u:Value),alU (W.kla_fn (ajZ "<lambda>") q params body scope [] pm (.ref c) hn) ⟨[u],[]⟩=pure [(p1,u)])
  (af:∀(f c:Addr)(A:aj4)(s:ajH)(H:aw),cK k (A.deeper (amo q scope s.heap.objs.size f (.ref c)))->a' (ho eT X.prog X.w X.K X.mg X.base N q scope f (.ref c) A X.stack s H jj).gO body m)
  (ar:a' X e c_) (oF:an3 params X.env=([],[]):=by rfl) (j3:ama scope X.env=pure []:=by rfl)
  (he:aj9 pos (ajG [e] X.env)=(false,eval e X.env)::aj9 pos (ajG [] X.env):=by rfl)
  (aE:ajG [e] X.env=(false,eval e X.env)::ajG [] X.env:=by rfl)
  (i6:(aj9 pos (ajG [e] X.env)).any (·.1)=false:=by rfl) :
  a' X (.Call (.Name "max" p) [e] [⟨some (ajZ "key"),.Lambda params body scope k4,kp⟩] pos) (x8 (fnOf 1 N.length (bE m)) c_):=
 ⟨TG aU hm aB L B nJ a9 Sc my (λf c A s H aB=>(af f c A s H aB).un) ar.un oF j3 he aE i6⟩
end
omit [aF.a8]in
section
open ej
variable{prog:ajY}{w:World}{A:aj4}{E:cN}{s:ajH}
omit [aF.a8]in
theorem V2{t bW:Addr}{items:Array Value}{hi hj:Value}{lo aD:Option Int}{Q:cN}(bO:IsTup s.heap t items)(aE:s.heap.IsSliceOf bW hi hj .none)(pl:anb hi lo)(pu:anb hj aD)
  (hw:c4 items.size 0 lo=0/\c4 items.size items.size aD=items.size)
  (h:Q (.ref t) s):wpAny (model prog w) A (amN (.ref t) (.ref bW)) Q E s:=by
 obtain⟨os,rp,yL,oH⟩:=id aE;have CM:s.TypeIs (.ref bW) "slice":=⟨os,rp,yL⟩;unfold amN
 try with_reducible refine akZ ?_
 first|refine ajD (ajI ?_)|skip
 refine ajD (wpAny_sequenceKey bO.typeIs (by decide) ?_);refine ajD (alf (name:=ajZ "__getitem__") bO.typeIs akQ
  (alW akQ bO.typeIs entry_tuple_getitem ?_ (args_tuple_getitem _ _)))
 show wpAny _ _ (anO (.ref t) >>= _) _ _ s;refine ajD (tupleItemsOf_ bO ?_);refine ajD (wpAny_typeOf CM ?_);rw[if_pos (by decide)];refine ajD (OL aE pl pu ?_);rw[hw.1,hw.2];show wpAny _ _ (if((((0:Nat):Int))==0&&(1:Int)==1&&(items.size-0)==items.size)=true then _ else _) _ _ s;rw[if_pos (by simp)];refine ajD (m:=Builtin.Tuple.tupleIsExact _) (ajD (wpAny_typeOf bO.typeIs (ajI ?_)));rw[if_pos (by decide)];refine ajD (anf ?_)
 first
  |exact ajD (ajI (ajI ⟨_,rfl,ajI h⟩))
  |exact ajD (ajI ⟨_,rfl,ajI h⟩)
  |exact ajI ⟨_,rfl,ajI h⟩
omit [aF.a8]in
omit [aF.a8]in
omit [aF.a8]in
end
def acP(K:aS):V->Option Int->Option Int->aw->df->Prop:=λx lo aD H Q=>∃a xs,x=.ref a/\dQ K H a xs/\(ej.c4 xs.length 0 lo=0/\ej.c4 xs.length xs.length aD=xs.length)/\Q (.ref a) H
omit [aF.a8]in
theorem aev:pQ X (acP X.K):=by
 intro zn s Y H x v hi hj lo aD bW Q J a7 aE pl pu h;obtain⟨a,xs,rfl,ag,hw,q⟩:=h;cases a7;obtain⟨its,r,bO,hz⟩:=J.tuple ag;have hlen:its.toArray.size=xs.length:=by rw[ajT];exact r.length.symm
 refine⟨"tuple",_,akQ.lookup,bO.typeIs,?_⟩;exact V2 bO aE pl pu (by rw[hlen];exact hw) ⟨.ref a,H,J,rfl,q⟩
def Eg(x:R)(lo aD:Option Int):M R:=
 match x with
 |.v (.tup xs)=>pure (.v (.tup (cutD xs lo aD)))|_=>bad
@[simp] def Bz(a:bo)(lo aD:pK)(Y:aR):M R:=do
 let x <-a Y
 let l <-lo Y
 let h <-aD Y
 Eg x l h
def T1{α:Type}{xs:List α}{lo aD:Option Int}(h:ej.c4 xs.length 0 lo=0/\ej.c4 xs.length xs.length aD=xs.length):cutD xs lo aD=xs:=by
 unfold cutD;rw[h.1,h.2,List.drop_zero,Nat.sub_zero,aow (ajK _)]
section
variable{X:aT}{e st:Expr}{m:bo}{lo aD:Option Expr}{qr v3:pK}{pos dB p:Pos}
theorem agd(he:a' X e m)(au:sv X lo qr)(cC:sv X aD v3):a' X (.Subscript e (.Slice lo aD none dB) pos) (Bz m qr v3):=⟨eI (MH (aev.or OK) he.un au.un cC.un) λav H Q aX=>by
 obtain⟨O,Y,S,r,ai,st,h,q⟩:=aX;obtain⟨x,S1,ae,ar⟩:=M.inv h;clear h;obtain⟨l,bc,ah,af⟩:=M.inv ar;clear ar;obtain⟨u,ik,bF,h⟩:=M.inv af;clear af;refine⟨O,Y,S,x,S1,st,ae,λaO gh H1 g1 aV a7 bh=>?_⟩;refine⟨aO,Y,S1,l,bc,aV,ah,λbr aM g2 cU=>?_⟩;refine⟨br,Y,bc,u,ik,cU,bF,λe4 cZ g3 hb=>?_⟩;have g:=(g1.trans g2).trans g3;have z2:=a7.go (g2.trans g3);unfold Eg at h;split at h
 .rename_i xs
  cases h;obtain⟨a,ys,rfl,b',bt⟩:=z2
  by_cases c:ej.c4 xs.length 0 l=0/\ej.c4 xs.length xs.length u=xs.length
  .refine .inl ⟨a,ys,rfl,b',by rw[bt.len];exact c,?_⟩
   rw[T1 c]at q;exact q e4 _ _ g hb ⟨a,ys,rfl,b',bt⟩ trivial
  .exact .inr ⟨a,ys,rfl,b',by rw[bt.len];exact c,λp aK=>q e4 _ _ (g.trans (Go.fI aK)) (hb.fI aK) ⟨p,_,rfl,dQ.of dG,(bt.cut l u).go (Go.fI aK)⟩ trivial⟩
 .cases h⟩
end
omit [aF.a8]in
@[simp] theorem aiL{l h:Option Int}:Eg (.v (.tup xs)) l h=pure (.v (.tup (cutD xs l h))):=rfl
end a0
namespace a0
open PySem PySem.Spec aF
def pA(m:fk):aR->N Bool:=λY=>do
 let r <-m Y
 r.qD.up
def pz(a:aR->N Bool):aR->N Bool:=λY=>do
 let t <-a Y
 pure (!t)
def sd(a b:aR->N Bool):aR->N Bool:=λY=>do
 let t <-a Y
 if t=true then b Y else pure false
variable[aF.a8]
section
variable{X:aT}{o e i f value a b:Expr}{ay rest:List Expr}{c:Str}{ns:List Str}{mo mk:bo}{ms:c7}{mv PR:fk}{b9 c6:aR->N Bool}{pos pos' apos dv vC:Pos}{g:List D->List R->M (R×List D)}{r:V->List V->aw->df->Prop}{name:Str}{id:String}
theorem ag8(T:pE X.K X.mg c ns){f:Str}(hf:f∈ns)(bf:a' X o mo)(bL:fv X value mv)(aE:ak8 value (some (.Attribute o f pos')) pos.line X.env=pure false:=by rfl):gW X (.Assign [.Attribute o f pos'] value pos) (e9 c f mo mv):=⟨g_ (acn bf.un bL.un aE) λD av H aX=>by
 obtain⟨O,Y,S,ba,ai,st,h,q⟩:=aX;obtain⟨r,S1,ae,ar⟩:=N.inv h;clear h;obtain⟨d,bc,ah,af⟩:=N.inv ar;clear ar;obtain⟨x,ik,bF,aI⟩:=N.inv af;clear af;obtain⟨bD,pP,dw,h⟩:=N.inv aI;clear aI;refine⟨O,Y,S,r,S1,st,ae,λaO v H1 g1 aV bu nn=>?_⟩;obtain⟨a4,rfl⟩:=p0 (H₀:=H) bu nn ah;obtain rfl:=(mo Y).eB _ _ _ bF;refine⟨cg H aO,Y,_,x,_,(aV.cg H).s3,bF,λbr gh aM g2 cU a7 bh=>?_⟩;have Fl:=(aV.cg H).go g2 cU.cn;obtain⟨n,b,rfl,rfl,aH,sn,hs⟩:=tF cU a7 dw;obtain rfl:=(gu (.v (.ref n))).eB _ _ _ dw;split at h
 .rename_i c' aW
  split at h
  .rename_i rk
   obtain⟨rfl,CI⟩:=rk;cases h;obtain⟨C,b7,jZ,d5,ci,iB⟩:=hs;obtain⟨ll,ao,az,_,fg⟩:=T.ex;cases ao.symm.trans ci.1;refine⟨b,C,b7,jZ,rfl,d5,az,fg f hf,by rw[iB.len];exact CI,?_⟩;obtain⟨l1,jI⟩:=Fl.write (u':=.ins C b7 (iA f v jZ)) (o:=.bD c' (iU f d aW)) aH d5 (by rintro(⟨_,z⟩|⟨_,_,z⟩)<;>cases z) (by intro _ z;cases z) (by intro _ z;cases z) λk=>
    ⟨C,b7,_,dG,ci,(MU (f:=f) (v:=v) jZ).symm▸ea.iU f (k _ _ (Rep.go g2 a4)) ⟨iB.1,iB.2.imp k⟩⟩
   exact q br av _ ((g1.cg.trans g2.d1).trans l1).e0 jI
  .cases h
 .cases h⟩
theorem ag9(cC:X.A.units+64<cLine)(bf:a' X o mo)(ax:a' X i mk)(bL:fv X value mv)(aE:ak8 value (some (.Subscript o i pos')) pos.line X.env=pure false:=by rfl):gW X (.Assign [.Subscript o i pos'] value pos) (ie mo mk mv):=⟨g_ (MO (by omega) bf.un ax.un bL.un aE) λD av H aX=>by
 obtain⟨O,Y,S,ba,ai,st,h,q⟩:=aX;obtain⟨r,S1,ae,ar⟩:=N.inv h;clear h;obtain⟨d,bc,ah,af⟩:=N.inv ar;clear ar;obtain⟨x,ik,bF,aI⟩:=N.inv af;clear af;obtain⟨y,gd,eO,hd⟩:=N.inv aI;clear aI;obtain⟨bD,pP,dw,h⟩:=N.inv hd;clear hd;refine⟨O,Y,S,r,S1,st,ae,λaO v H1 g1 aV bu nn=>?_⟩;obtain⟨a4,rfl⟩:=p0 (H₀:=H) bu nn ah;obtain rfl:=(mo Y).eB _ _ _ bF;obtain rfl:=(mk Y).eB _ _ _ eO;refine⟨cg H aO,Y,_,x,_,(aV.cg H).s3,bF,λbr gh aM g2 cU a7 bh=>?_⟩;refine⟨br,Y,_,y,_,cU,eO,λe4 t5 cZ g3 hb bC Ml=>?_⟩;have uX:=g2.trans g3;have aeO:=(aV.cg H).go uX hb.cn;obtain⟨n,b,rfl,rfl,aH,sn,hs⟩:=tF hb (a7.go g3) dw;obtain rfl:=(gu (.v (.ref n))).eB _ _ _ dw;split at h
 .rename_i ak kd
  split at h
  .rename_i key gp
   split at h
   .rename_i CI
    cases h;obtain⟨dI,d5,iB⟩:=hs;obtain rfl:=DA (show Rep X.K X.mg e4 cZ kd t5 from bC) gp;refine⟨b,_,rfl,pF.k (k:=key) d5 (by rw[iB.len];exact eJ (ak0 CI)),?_⟩;obtain⟨l1,jI⟩:=aeO.write (u':=.fy (putK dI key v)) (o:=.dS (dE ak key d)) aH d5 (by rintro(⟨_,z⟩|⟨_,_,z⟩)<;>cases z) (by intro _ z;cases z) (by intro _ z;cases z) λk=>
     ⟨_,dG,ea.put key (k _ _ (Rep.go uX a4)) ⟨iB.1,iB.2.imp k⟩⟩
    exact q e4 av _ ((g1.cg.trans uX.d1).trans l1).e0 jI
   .cases h
  .cases h
 .cases h⟩
theorem ahb{l3}(cC:X.A.units+64<cLine)(bf:a' X o mo)(ax:gK X ay ms)(bL:fv X value mv)(aE:ak8 value (some (.Subscript o (.Tuple ay l3 vC) pos')) pos.line X.env=pure false:=by rfl):gW X (.Assign [.Subscript o (.Tuple ay l3 vC) pos'] value pos) (xf mo ms mv):=⟨g_ (MO (by omega) bf.un (Ez ax.un) bL.un aE) λD av H aX=>by
 obtain⟨O,Y,S,ba,ai,st,h,q⟩:=aX;obtain⟨r,S1,ae,ar⟩:=N.inv h;clear h;obtain⟨d,bc,ah,af⟩:=N.inv ar;clear ar;obtain⟨x,ik,bF,aI⟩:=N.inv af;clear af;obtain⟨rs,gd,eO,hd⟩:=N.inv aI;clear aI;obtain⟨bD,pP,dw,h⟩:=N.inv hd;clear hd;refine⟨O,Y,S,r,S1,st,ae,λaO v H1 g1 aV bu nn=>?_⟩;obtain⟨a4,rfl⟩:=p0 (H₀:=H) bu nn ah;obtain rfl:=(mo Y).eB _ _ _ bF;obtain rfl:=(ms Y).eB _ _ _ eO;refine⟨cg H aO,Y,_,x,_,(aV.cg H).s3,bF,λbr gh aM g2 cU a7 bh=>?_⟩;refine⟨br,Y,_,rs,_,cU,eO,λe4 vs cZ g3 hb jB Mg=>?_⟩;have uX:=g2.trans g3;obtain⟨n,b,rfl,rfl,aH,sn,hs⟩:=tF hb (a7.go g3) dw;obtain rfl:=(gu (.v (.ref n))).eB _ _ _ dw;split at h
 .rename_i ak key gp
  split at h
  .rename_i rk
   cases h;have ev:=DB gp jB;refine⟨ak0 (eJ (by rw[gx.len jB];exact rk.1)),λp aK=>?_⟩;have nD:=uX.trans (Go.fI (O:=e4) (u:=.tup vs) aK);have aeP:=(aV.cg H).go nD (hb.fI (u:=.tup vs) aK).cn;obtain⟨dI,d5,iB⟩:=hs;have Jy:upd cZ p (.tup vs) b=some (.hF dI):=by rw[dm (kx d5 aK)];exact d5
   have Nh:ea X.K X.mg e4 (upd cZ p (.tup vs)) ak dI:=⟨iB.1,iB.2.go (Go.fI aK)⟩;refine⟨b,_,rfl,pF.t (k:=key) Jy (by rw[<-ev];exact dG) (by rw[iB.len];exact eJ (ak0 rk.2)),?_⟩;obtain⟨l1,jI⟩:=aeP.write (u':=.hF (putK dI key v)) (o:=.eZ (dE ak key d)) aH Jy (by rintro(⟨_,z⟩|⟨_,_,z⟩)<;>cases z) (by intro _ z;cases z) (by intro _ z;cases z) λk=>
    ⟨_,dG,ea.put key (k _ _ (Rep.go nD a4)) ⟨Nh.1,Nh.2.imp k⟩⟩
   exact q e4 av _ ((g1.cg.trans nD.d1).trans l1).e0 jI
  .cases h
 .cases h⟩
theorem ahe(slot:PySem.Slot "list" name id)(rt:typeOf (.builtin id)=pure (.type "method_descriptor"))(hm:xA X id r)(hf:uc X.K X.mg r g)(bf:a' X o mo)(ar:gK X (e::ay) ms)
  (oE:aln o name X.env (eval o X.env)=eval o X.env:=by rfl)
  (vd:((aj9 dv (ajG (e::ay) X.env)).all (λx=>!x.1)&&(alp dv (akU [] X.env)).all (λx=>x.1.isSome)
&&decide ((e::ay).length+([]:List amO).length+(if([]:List amO).isEmpty then 0 else 1)<30))=true:=by rfl)
  (oM:(apos.endLine==dv.line)=true:=by rfl) (aE:ajG (e::ay) X.env=(false,eval e X.env)::ajG ay X.env:=by rfl) (i6:(aj9 dv (ajG ay X.env)).any (·.1)=false:=by rfl)
  (mF:ak8 (.Call (.Attribute o name apos) (e::ay) [] dv) none pos.line X.env=pure false:=by rfl):gW X (.Expr (.Call (.Attribute o name apos) (e::ay) [] dv) pos) (pw g mo ms):=
 ⟨g_ (EJ (MB aom slot rt hm bf.un ar.un oE vd oM aE i6) mF) λD av H aX=>by
  obtain⟨O,Y,S,ba,ai,st,h,q⟩:=aX;obtain⟨x,S1,ae,ar⟩:=N.inv h;clear h;obtain⟨rs,bc,ah,af⟩:=N.inv ar;clear ar;obtain⟨bD,pP,dw,h⟩:=N.inv af;clear af;obtain rfl:=(mo Y).eB _ _ _ ae;obtain rfl:=(ms Y).eB _ _ _ ah;refine⟨O,Y,_,x,_,st.s3,ae,λaO gh H1 g1 aV a7 bh=>?_⟩;obtain⟨n,b,rfl,rfl,aH,sn,hs⟩:=tF aV a7 dw;obtain rfl:=(gu (.v (.ref n))).eB _ _ _ dw;split at h
  .rename_i xs
   obtain⟨⟨cx,ys⟩,gd,eO,h⟩:=N.inv h;cases h;obtain⟨zs,d5,bt⟩:=hs;refine⟨.inl ⟨rfl,_,dx.of d5⟩,aO,Y,_,rs,_,aV,ah,λbr vs aM g2 cU bu nn=>?_⟩;have sU:br.bM[n]? = some b:=by rw[g2.bM];exact aH
   have Jx:=g2.same.at' _ _ d5;refine hf br aM H1 b xs zs rs vs _ _ _ ys _ Jx (bt.go g2) bu nn eO λv ws ay rw _=>?_
   subst ay;have Fl:=(st.go (g1.trans g2) cU.cn).cg H1;obtain⟨l1,jI⟩:=Fl.write (u':=.lst ws) (o:=.lst ys) sU Jx (by rintro(⟨_,z⟩|⟨_,_,z⟩)<;>cases z) (by intro _ z;cases z) (by intro _ z;cases z) λk=>⟨_,dG,rw.imp k⟩
   exact q _ av _ ((g1.trans g2.cg).d1.trans l1).e0 jI
  .cases h⟩
theorem ahm(ar:fv X a PR)(he:∀whole,isTrue a X.env whole=(do let v <-whole;al5 a.pos;alq [v] (truthy v)):=by intro _;rfl):kQ X a (pA PR):=⟨rQ (MT ar.un he) λav H Q aX=>by
 obtain⟨O,Y,S,t,ai,st,h,q⟩:=aX;obtain⟨x,S1,ae,h⟩:=N.inv h;obtain⟨rfl,rfl⟩:=w_ h;exact⟨O,Y,S,_,_,st,ae,λaq v H' g cq bu _=>⟨t,bu,q aq H' g cq⟩⟩⟩
theorem ahk(ar:kQ X a b9):kQ X (.UnaryOp .Not a pos) (pz b9):=⟨rQ (MS ar.un) λav H Q aX=>by
 obtain⟨O,Y,S,r,ai,st,h,q⟩:=aX;obtain⟨t,S1,ae,h⟩:=N.inv h;cases h;exact⟨O,Y,S,t,_,st,ae,λaO H1 g1 aV=>q aO H1 g1 aV⟩⟩
def aho(ar:kQ X a b9):sx X (.BoolOp .And [a] pos) b9:=⟨MX ar.un⟩
theorem ahn(ar:kQ X a b9)(af:sx X (.BoolOp .And (b::rest) pos) c6):sx X (.BoolOp .And (a::b::rest) pos) (sd b9 c6):=⟨EP (MW ar.un af.un) λav H Q aX=>by
 obtain⟨O,Y,S,r,ai,st,h,q⟩:=aX;obtain⟨t,S1,ae,h⟩:=N.inv h;refine⟨O,Y,S,t,S1,st,ae,λaO H1 g1 aV=>?_⟩
 cases t with
 |false=>
  rw[if_neg ajO]at h;cases h;exact qf (q aO H1 g1 aV)
 |true=>
  rw[if_pos rfl]at h;exact qg ⟨aO,Y,S1,r,ai,aV,h,λaq H' g cq=>q aq H' (g1.trans g) cq⟩⟩
def sx.t(h:sx X a b9):kQ X a b9:=⟨h.un.pt⟩
end
def ZH{P:ajY}{w:World}{K:aS}{mg:bq}{base:Heap}{f:Addr}{fd:akR}{k:Nat}{mf:fe}(F:fq P w K mg base eT k f fd ["script"] (dU K mg mf))
  (h:∀ns:List Int,ns.length<=63->∃ai,(mf [.lst (ns.map D.int)]).run []=.ok (.v (.aC true)) ai):fq P w K mg base eT k f fd ["script"] (w3 K):=by
 refine F.imp λvs H Q E aX=>?_
 obtain⟨a,ns,e,cX,aH,c6,q⟩:=aX;subst e;obtain⟨ai,h'⟩:=h ns aH;refine⟨⟨λ_=>.free,[]⟩,[.lst (ns.map D.int)],_,[],ai,⟨λa ar=>absurd rfl ar,c6,amr,λa m=>by cases m⟩,gz.nil,rfl,⟨_,_,rfl,⟨a,_,rfl,cX.imp (λz=>⟨z,by simp⟩) id,M' ns⟩,rfl⟩,h',λaq v H' _ _ _ _ bu _=>?_⟩;cases(show v=.aC true from bu);exact q H'
end a0
namespace a0
open PySem PySem.Spec aF
def Aq(bj:List Key)(ms:hV):fk:=λY=>do
 let rs <-ms Y
 let ds <-(kS rs).up
 if ds.length=bj.length then(do
  let S <-uY
  putN (S++[.dS (bj.zip ds)])
  pure (.v (.ref S.length)))else g8
def xe(o:fQ):fk:=λ_=>do
 let S <-uY
 putN (S++[o])
 pure (.v (.ref S.length))
theorem LZ:∀{bj:List Key}{vs:List V}{ak:List (Key×V)},bj.Nodup->bj.length=vs.length->(∀k∈bj,∀p∈ak,p.1≠k)->qq ak (bj.zip vs)=ak++bj.zip vs
 |[],vs,ak,_,_,_=>by
  show ak=ak++_;rw[amS,akG]
 | _::_,[],_,_,h,_=>by simp at h|k::bj,v::vs,ak,dZ,au,aH=>by
  have ao:putK ak k v=ak++[(k,v)]:=by
   unfold putK;rw[if_neg];rw[aoi];rintro⟨p,aK,e⟩;exact aH k (ajR ..) p aK (by simpa using e)
  show qq (putK ak k v) (bj.zip vs)=_;rw[ao,LZ (akD.mp dZ).2 (by simpa using au),aml]
  .rfl
  .intro mL oL p aK
   rcases akp.mp aK with aK|aK
   .exact aH mL (ajM _ oL) p aK
   .rw[aj0]at aK
    subst aK;rintro rfl;exact(akD.mp dZ).1 oL
variable[aF.a8]
section
variable{K:aS}{mg:bq}{O:a5}{H H':aw}{S:cz}{Y:aR}{av:St}{p:Addr}{o:fQ}
def eM.adopt(st:eM K mg O Y S av H)(np:p∉O.bM)(nl:∀i,O p≠.loc i)(same:∀b,b≠p->H' b=H b)(aK:H' p≠none)(kp:H' p=H p\/∀u,H p=some u->¬Fix u/\∀ys,u≠.lst ys)(lv:O p=.free\/O p=.out->∀u,H p=some u->(∀ys,u≠.lst ys)/\¬Fix u)(bV:TabsOk H->TabsOk H')
  (bD:(∀d v,Rep K mg O H d v->Rep K mg (hK O p) H' d v)->nh K mg (hK O p) H' p o):eM K mg (hK O p) Y (S++[o]) av H'/\(hK O p).bM[S.length]? = some p:=by
 have cT:=st.s3.cn;have aB:(hK O p).bM[S.length]? = some p:=by show(O.bM++[p])[S.length]? = _;rw[<-st.full,aj3 (ajK _),alD];rfl
 have kW:c2 O (hK O p) H H':=⟨λb u e h _=>by
  by_cases dc:b=p
  .subst dc
   rcases kp with kp|kp
   .rw[kp];exact e
   .obtain⟨g6,gr⟩:=kp u e
    exact h.elim (λz=>absurd z.2.2.choose_spec (gr _)) λz=>absurd z g6
  .rw[same b dc];exact e,λb ys e f=>by
   rw[o5 (by rintro rfl;exact(lv (.inl f) _ e).1 ys rfl)];exact f,anF _ _⟩
 have f:∀d v,Rep K mg O H d v->Rep K mg (hK O p) H' d v:=λ_ _ z=>Rep.kW kW cT.cp z
 have a4:∀{b:Addr}{ws:List V},gc H b (.lst ws)->(O b=.free\/O b=.out)->b≠p:=λ{b ws} h hf=>by
  rintro rfl;rcases h with h|⟨x,h⟩
  .exact(lv hf _ h).1 ws rfl
  .exact(lv hf _ h).2 (.inr ⟨_,_,rfl⟩)
 have wO:∀{b:Addr}{ws:List V},b≠p->gc H b (.lst ws)->gc H' b (.lst ws):=λ{b ws} nb h=>by unfold gc;rw[same b nb];exact h
 refine⟨⟨⟨⟨λb af=>?_,bV cT.tabs,Md cT np⟩,st.s3.len,λi s e=>?_,λn o' e=>?_⟩,?_,λi zs e=>?_⟩,aB⟩
 .by_cases dc:b=p
  .rw[dc];exact aK
  .rw[o5 dc]at af;rw[same b dc];exact cT.has b af
 .have lo:=st.s3.loc i s e
  cases s with
  |e=>exact trivial|v d=>obtain⟨v,q,r⟩:=lo;exact⟨v,q,f _ _ r⟩
  |eH qw zs=>
         obtain⟨b,ws,q,jb,cD,r⟩:=lo;have nb:b≠p:=by rintro rfl;exact nl i jb
         exact⟨b,ws,q,(o5 nb).trans jb,by rw[same b nb];exact cD,r.imp f⟩
  |cc zs=>obtain⟨b,ws,q,cD,r⟩:=lo;exact⟨b,ws,q,cD.imp (λz=>⟨wO (a4 z.1 z.2) z.1,by rw[o5 (a4 z.1 z.2)];exact z.2⟩) id,r.imp f⟩
 .by_cases aH:n<S.length
  .rw[aj8 aH]at e
   obtain⟨b,ao,az⟩:=st.s3.hc n o' e;have nb:b≠p:=by rintro rfl;exact np (akt ao)
   exact⟨b,by show(O.bM++[p])[n]? = _;rw[aj8 (by rw[st.full];exact aH)];exact ao,az.all f λ_ l _=>by rw[same b nb];exact l⟩
  .rw[aj3 (by omega)]at e
   obtain rfl:n=S.length:=by
    have:=(ajJ.mp e).1;simp at this;omega
   rw[alD]at e;cases e;exact⟨p,aB,bD f⟩
 .show(O.bM++[p]).length=_
  rw[ajQ,ajQ,st.full];rfl
 .obtain⟨b,ws,q,cD,r⟩:=st.t4 i zs e
  exact⟨b,ws,q,cD.imp (λz=>⟨wO (a4 z.1 z.2.1) z.1,by rw[o5 (a4 z.1 z.2.1)];exact z.2.1,λm=>(akp.mp m).elim z.2.2 λw=>a4 z.1 z.2.1 (aj0.mp w)⟩) id,r.imp f⟩
theorem fP.adopt{pL:a5}{H₀:aw}(g:fP pL O H₀ H)(h0:H₀ p=none)(same:∀b,b≠p->H' b=H b)(bV:TabsOk H->TabsOk H'):fP pL (hK O p) H₀ H':=by
 have nb:∀{b:Addr},H₀ b≠none->b≠p:=λh=>by rintro rfl;exact h h0
 exact⟨λb o e h n=>by rw[same b (nb (jG e))];exact g.cells b o e h n,λb af=>(o5 (nb af)).trans (g.own b af),λb af=>by rw[same b (nb af)];exact g.has b af,
  λb ps e=>by rw[same b (nb (jG e))];exact g.c6 b ps e,λt=>bV (g.bV t),g.bM.trans (anF _ _),λb m=>(akp.mp m).elim (g.new b) λz=>.inr (by rw[aj0.mp z];exact h0)⟩
end
section
variable{X:aT}{e:Expr}{m:fk}{ms:hV}{pos:Pos}
def ag3(he:fv X e m):fv X e (oc m):=⟨eI he.un λav H Q aX=>by
 obtain⟨O,Y,S,r,ai,st,h,q⟩:=aX;obtain⟨x,S1,ae,h0⟩:=N.inv h;clear h;refine⟨O,Y,S,x,S1,st,ae,λaO v H1 g1 aV bu nn=>?_⟩;split at h0
 .rename_i xs
  obtain⟨Qn,bc,ah,h⟩:=N.inv h0;clear h0;cases ah;cases h;obtain⟨a,ys,rfl,l,t,bt⟩:=bu;obtain⟨s1,aB⟩:=aV.adopt (H':=H1) (p:=a) (o:=.lst xs) (aV.s3.cn.cp.no t (by intro z;cases z)) (λi z=>by rw[t]at z;cases z) (λ_ _=>rfl) (jG l) (.inl rfl) (λz=>by rw[t]at z;rcases z with z|z<;>cases z) id λf=>⟨ys,l,bt.imp f⟩
  exact q _ _ H1 (g1.adopt (nn a rfl) (λ_ _=>rfl) id) s1 ⟨a,rfl,aB⟩ trivial
 .cases h0⟩
structure xI(X:aT)(pos:Pos)(keys:List (Option Expr))(values:List Expr)(bj:List Key)(ms:hV):Prop where
 ex:∃kG,um X pos keys values kG/\∀av H (Q:List (V×V)->aw->Prop),Aw X.K X.mg ms av H (λvs H'=>Q ((bj.zip vs).map λkv=>(cI kv.1,kv.2)) H')->w7 kG av H Q
def agV:xI X pos [] [] [] m4:=⟨[],acj,λav H Q aX=>by
 obtain⟨O,Y,S,r,ai,st,h,q⟩:=aX;cases h;exact q O [] H (Go.refl _ _).d1 st rfl trivial⟩
def agU{key:Str}{i:Nat}{fh:Pos}{v:Expr}(bL:fv X v m)(aB:xI X pos keys values bj ms) :
  xI X pos (some (.Constant (.str key) i fh)::keys) (v::values) (.inr key::bj) (ic m ms):=by
 obtain⟨kG,ae,ah⟩:=aB.ex;refine⟨_,aci MI bL.un ae,λav H Q ⟨O,Y,S,r,ai,st,h,q⟩=>?_⟩;obtain⟨x,S1,ao,ar⟩:=N.inv h;clear h;obtain⟨xs,bc,az,h⟩:=N.inv ar;clear ar;split at h
 .rename_i f3
  cases h;show Ax _ _ _ av H λy aM=>w7 kG av aM λps cZ=>Q ((V.str key,y)::ps) cZ
  refine⟨O,Y,S,x,S1,st,ao,λaO y H1 g1 aV a7 bh=>ah _ _ _ ?_⟩;exact⟨aO,Y,S1,xs,_,aV,az,λbr vs aM g2 cU rs ns=>q br (y::vs) aM (g1.trans g2) cU ⟨y,vs,rfl,a7.d1 g2 aV.s3.cn.cp f3,rs⟩ ⟨bh,ns.d1 g1⟩⟩
 .cases h
theorem agX{keys:List (Option Expr)}{values:List Expr}{bj:List Key}(h:xI X pos keys values bj ms)(hall:keys.all (·.isSome)=true:=by rfl)(au:keys.length=values.length:=by rfl)(h0:keys≠[]:=by simp)(CJ:keys.length<=15:=by decide)
  (ax:bj.Nodup/\bj.length<=15:=by decide +kernel):fv X (.Dict keys values pos) (Aq bj ms):=by
 obtain⟨kG,ae,ah⟩:=h.ex;refine⟨eI (abQ ae hall au h0 CJ) λav H Q ⟨O,Y,S,t,ai,st,h,q⟩ a ar=>ah _ _ _ ?_⟩;obtain⟨rs,S1,ao,af⟩:=N.inv h;clear h;obtain⟨ds,bc,az,h⟩:=N.inv af;clear af;obtain rfl:=(kS rs).eB _ _ _ az;have i2:Go O O H (upd H a (.fy [])):=Go.fI ar;refine⟨O,Y,S,rs,bc,st.go i2 (st.s3.fI ar).cn,ao,λbr vs aM g2 cU bu nn=>?_⟩;obtain⟨a4,_⟩:=ye (H₀:=upd H a (.fy [])) bu nn az;have nH:aM a=some (.fy []):=g2.cells _ _ dG (.inl (st.s3.cn.Ea ar));have aau:a∉br.bM:=λm=>(g2.new a m).elim (st.s3.cn.Ea ar) (by rw[dG];intro z;cases z)
 split at h
 .rename_i hlen
  cases h;have iv:bj.length=vs.length:=by rw[a4.len,hlen]
  have hm:qq [] (bj.zip vs)=bj.zip vs:=LZ ax.1 iv (λ_ _ p aK=>by cases aK);refine⟨nH,bj.zip vs,rfl,by rw[ang];omega,?_⟩;rw[hm];have hb:=cU.cg (upd H a (.fy []));have we:cg (upd H a (.fy [])) br a=.free:=by rw[yv (by rw[dG];intro z;cases z),g2.own a (by rw[dG];intro z;cases z)];exact st.s3.cn.free ar
  have bV:TabsOk aM->TabsOk (upd aM a (.fy (bj.zip vs))):=λt=>t.put _ (λps=>by rw[nH];intro z;cases z) (λq=>by rw[nH];intro z;cases z)
  have hu:∀b,b≠a->upd aM a (.fy (bj.zip vs)) b=aM b:=λb nb=>dm nb
  have bx:∀u,aM a=some u->¬Fix u/\∀ys,u≠.lst ys:=λu e=>by rw[nH]at e;cases e;exact⟨(by rintro(⟨_,z⟩|⟨_,_,z⟩)<;>cases z),λ_ z=>by cases z⟩
  obtain⟨s1,aB⟩:=hb.adopt (H':=upd aM a (.fy (bj.zip vs))) (p:=a) (o:=.dS (bj.zip ds)) aau (λi z=>by rw[we]at z;cases z) hu (by rw[dG];intro z;cases z) (.inr bx) (λ_ u e=>⟨(bx u e).2,(bx u e).1⟩) bV λf=>
   ⟨bj.zip vs,dG,by
    rw[am2 (ali hlen.symm),am2 (ali iv)],by
    rw[List.map_snd_zip (ali hlen),List.map_snd_zip (ali iv.symm)];exact a4.imp f⟩
  exact q _ _ _ ((i2.d1.trans g2.cg).adopt ar hu bV) s1 ⟨a,rfl,aB⟩ trivial
 .cases h
def Vh(aK:∀{O:a5}{H:aw}{p:Addr},nh X.K X.mg O (upd H p u) p o)(he:bY X e λY H Q=>∀p,H p=none->Q (.ref p) (upd H p u)):fv X e (xe o):=⟨eI he λav H Q aX p aH=>by
 obtain⟨O,Y,S,r,ai,st,h,q⟩:=aX;cases h;obtain⟨g,d,e',ba⟩:=alloc (o:=o) st.s3.cn st.s3.hc st.full aH (rV aH u) (by rw[dG];intro z;cases z) λ_=>aK
 refine q _ _ _ g (st.d1 g d e' ba) ⟨p,rfl,?_⟩ trivial;show(O.bM++[p])[S.length]? = _;rw[<-st.full,aj3 (ajK _),alD];rfl⟩
def agY:fv X (.Dict [] [] pos) (xe (.eZ [])):=Vh ⟨[],dG,rfl,rfl⟩ abR
end
end a0
namespace a0
open PySem PySem.Spec aF
variable[aF.a8]
structure AN(K:aS)(x qual:Str)(st:Stmt)(f:Addr)(fd:akR):Prop where
 ex:∃(bK:Value)(dj:Option Addr)(q3 cI doc pm:Value)(an:Option Addr)(bw cw:Value)(fJ:Array (Option Value)),
  fd=alr x qual (iq st) (fF st) (bH st) q3 cI doc pm an bw cw/\K.lookup f=some ⟨bK,dj,.func fd,fJ⟩/\anp K bw qual=true
 kp:alB K (.ref f)=true
def AN.ok{P:ajY}{w:World}{K:aS}{mg:bq}{base:Heap}{x qual:Str}{st:Stmt}{f:Addr}{fd:akR}{N ps:List Str}{k:Nat}{sp:eo}(F:AN K x qual st f fd)(S:cb N ps (bH st))(len:∀vs H Q E,sp vs H Q E->vs.length=ps.length)
  (u9:∀(bw:Value)(A:aj4)(outer:List Env)(s:ajH)(H:aw)(vs:List V)(Q:df)(E:gL),cK k (A.deeper (akO qual (bH st) s.heap.objs.size f bw))->sp vs H Q E->
   ∃t,iX (ho eT P w K mg base N qual (bH st) f bw A outer s H E).gO (fF st) t/\t { bh:=λ_ H'=>Q .aG H',cQ:=Q } (start N vs) H):fq P w K mg base eT (k+1) f fd ps sp:=by
 obtain⟨bK,dj,q3,cI,doc,pm,an,bw,cw,fJ,rfl,lk,gM⟩:=F.ex;refine Cm lk gM S len λA outer s H vs Q E aB h4=>?_
 obtain⟨t,h,q⟩:=u9 bw A outer s H vs Q E aB h4;exact⟨t,h.gO,q⟩
structure xq(K:aS)(mg:bq)(c m qual:Str)(st:Stmt)(ps:List Str):Prop where
 ex:∃C f fd,mg c=some (.ref C)/\ji K C/\Meth K C m f/\AN K m qual st f fd/\Binds K fd ps []/\Binds K fd ps [.none]
structure xt(P:ajY)(w:World)(K:aS)(mg:bq)(base:Heap)(c m:Str)(ps:List Str)(k:Nat)(sp:eo):Prop where
 all:d0 P w K mg base c m ps k sp
 ex:∃C f fd,mg c=some (.ref C)/\ji K C/\Meth K C m f/\fq P w K mg base eT k f fd ps sp/\Binds K fd ps [.none]
def WC{P:ajY}{w:World}{K:aS}{mg:bq}{base:Heap}{c m qual:Str}{st:Stmt}{ps N:List Str}{k:Nat}{di:bk}{n nl:Nat}(cu:xq K mg c m qual st ps)(Sc:cb N ps (bH st))(aH:ps.length=n)(au:N.length=nl)
  (af:∀(f:Addr)(bw:Value)(A:aj4)(outer:List Env)(s:ajH)(H:aw)(E:gL),cK k (A.deeper (akO qual (bH st) s.heap.objs.size f bw))->
   kf (ho eT P w K mg base N qual (bH st) f bw A outer s H E).gO (fF st) di):xt P w K mg base c m ps (k+1) (dU K mg (fnX n nl di)):=by
 obtain⟨C,f,fd,gN,cl,me,F,eX,b⟩:=cu.ex;subst aH au;have ok:=F.ok (P:=P) (w:=w) (mg:=mg) (base:=base) (sp:=dU K mg (fnX ps.length N.length di)) Sc (λvs H Q E ⟨O,ds,r,S,ai,cT,e',Co,ff,h,q⟩=>ff.r.len.trans (Cj h)) λbw A outer s H vs Q E aB h4=>⟨_,(af f bw A outer s H E aB).un,H3 h4⟩
 exact⟨⟨C,f,fd,gN,cl,me,ok,eX⟩,⟨C,f,fd,gN,cl,me,ok,b⟩⟩
omit [aF.a8]in
theorem TN{K:aS}{h:Heap}{mg:bq}{c:Str}{C:Addr}{aW:List Str}(X:K.In h)(G:h.Ns akf mg)(a:amV K akf c=some (some (.ref C)))
  (mS:anZ K C Str.empty=true) (hd:aot K C=true) (po:W.plainOver K C=true) (k6:alM K (.ref C) "__setattr__"=some (some (.builtin "object.__setattr__"))) (mk:W.makesIn K C=true) (Dz:alB K (.ref C)=true)
  (na:∀f∈aW,alM K (.ref C) f=some none):pE K mg c aW:=⟨C,anr X G a,⟨mS,hd,po,k6⟩,⟨mk,Dz⟩,na⟩
omit [aF.a8]in
theorem Vf{K:aS}{h:Heap}{mg:bq}{c m qual:Str}{C f:Addr}{aW ps:List Str}{st:Stmt}{dj an:Option Addr}{bW:Array (Option Value)}{bK cI p2 pm cd cw:Value}(X:K.In h)(G:h.Ns akf mg)(T:pE K mg c aW)(a:amV K akf c=some (some (.ref C)))
  (e:alM K (.ref C) m=some (some (.ref f))) (i:W.isFn K (.ref f)=true) (l:K.lookup f=some ⟨bK,dj,.func (alr m qual (iq st) (fF st) (bH st) .none cI p2 pm an cd cw),bW⟩) (yb:anp K cd qual=true) (k:alB K (.ref f)=true)
  (af:∀(cI doc pm:Value)(an:Option Addr)(bw cw:Value)(us:List Value),us.length=ps.length->alU (alr m qual (iq st) (fF st) (bH st) .none cI doc pm an bw cw) ⟨us,[]⟩=pure (ps.zip us)):gR K mg c m qual st ps:=by
 obtain⟨ll,ae,ah,_⟩:=T.ex;have bF:=anr X G a;rw[ae]at bF;cases bF;exact⟨_,f,_,ae,ah,⟨e,i,k⟩,yx (st:=st) l yb k,(yx (st:=st) l yb k).binds af⟩
omit [aF.a8]in
theorem Vg{K:aS}{h:Heap}{mg:bq}{c m qual:Str}{C f T:Addr}{aW ps:List Str}{st:Stmt}{dj an afo:Option Addr}{bW afu:Array (Option Value)}{bK cI p2 pm cd cw afn:Value}{j fY:Nat}(X:K.In h)(G:h.Ns akf mg)(Qp:pE K mg c aW)(a:amV K akf c=some (some (.ref C)))
  (e:alM K (.ref C) m=some (some (.ref f))) (i:W.isFn K (.ref f)=true) (l:K.lookup f=some ⟨bK,dj,.func (alr m qual (iq st) (fF st) (bH st) (.ref T) cI p2 pm an cd cw),bW⟩) (t:K.lookup T=some ⟨afn,afo,.seq #[.none] fY,afu⟩) (yb:anp K cd qual=true) (k:alB K (.ref f)=true) (aZ:ps.length=j+1)
  (af:∀(cI doc pm:Value)(an:Option Addr)(bw cw:Value)(us:List Value),us.length=j+1->∃ed,alU (alr m qual (iq st) (fF st) (bH st) (.ref T) cI doc pm an bw cw) ⟨us,[]⟩=amc (.ref T) >>= ed/\ed (some #[.none])=pure (ps.zip us))
  (p9:∀(cI doc pm:Value)(an:Option Addr)(bw cw:Value)(us:List Value),us.length=j->∃ed,alU (alr m qual (iq st) (fF st) (bH st) (.ref T) cI doc pm an bw cw) ⟨us,[]⟩=amc (.ref T) >>= ed/\ed (some #[.none])=pure (ps.zip (us++[.none]))):xq K mg c m qual st ps:=by
 obtain⟨ll,ae,ah,_⟩:=Qp.ex;have bF:=anr X G a;rw[ae]at bF;cases bF;refine⟨_,f,_,ae,ah,⟨e,i,k⟩,⟨⟨bK,dj,_,cI,p2,pm,an,cd,cw,bW,rfl,l,yb⟩,k⟩,λs us A4 au=>?_,λs us A4 au=>?_⟩
 .rw[akG]at au ⊢
  obtain⟨ed,ao,az⟩:=af cI p2 pm an cd cw us (au.trans aZ);exact aoI rfl (A4 _ _ t) rfl ao az
 .rw[ajQ,aZ]at au
  obtain⟨ed,ao,az⟩:=p9 cI p2 pm an cd cw us (by simpa using au);exact aoI rfl (A4 _ _ t) rfl ao az
def ag2{X:aT}{c m:Str}{ps:List Str}{k:Nat}{o:Expr}{apos pos:Pos}{mf:fe}{mo:bo}{pl:Sem Bool}(h:xt X.prog X.w X.K X.mg X.base c m ps k (dU X.K X.mg mf))(aB:cK k X.A)(he:a' X o mo)
  (bO:eval (.Call (.Attribute o m apos) [] [] pos) X.env=(do
   let ep <-eval o X.env
   al5 apos.atName
   let(f,first) <-alq [ep] (alC ep m pl)
   amg pos f first (aj9 pos (ajG [] X.env)) (alp pos (akU [] X.env))):=by rfl):fv X (.Call (.Attribute o m apos) [] [] pos) (fD c m mf mo (e8 (U (aa .aG) aj))):=by
 obtain⟨C,f,fd,gN,cl,me,F,b⟩:=h.ex;refine⟨eI (ME (dvs:=[.aG]) (ds:=[.none]) he.un cl me F aB b (.cons rfl .nil) rM bO) λav H Q a9=>r5 _ _ _ _ (λv H1 z=>?_) (D8 _ _ _ a9)⟩;obtain⟨a,ll,b7,aW,ev,mO,d5,au,O,Y,S,rs,ai,st,h,q⟩:=z;rw[gN]at mO;cases mO;cases h;exact⟨a,b7,aW,ev,d5,au,q O [.aG] H1 (Go.refl _ _).d1 st ⟨.aG,[],rfl,rfl,rfl⟩ ⟨trivial,trivial⟩⟩
def gR.none{k:Nat}{sp:eo}(D:gR K mg c m qual st ps)(no:∀vs H Q E,¬sp vs H Q E):d0 P w K mg base c m ps k sp:=by
 obtain⟨C,f,fd,a,b,d,F,e⟩:=D.ex;exact⟨C,f,fd,a,b,d,⟨λvs H Q E h=>absurd h (no vs H Q E),λA outer s H args us vs Q E _ _ _ _ h=>absurd h (no vs H Q E)⟩,e⟩
end a0
namespace a0
open PySem PySem.Spec aF PyProof.Rows
section
variable{X:aT}
def ch(c:Nat):Str:=⟨#[c]⟩
def si(z:Str):iI:=⟨λi _=>i<z.cps.size,λi H x H'=>H'=H/\∃c,z.cps[i]? = some c/\x=.str (ch c),λi _=>z.cps.size<=i⟩
theorem Pl{P:ajY}{w:World}{K:aS}{cj:Expr}(z:Str)(t:Tok)(it:Addr):Turn P w K cj (si z) [it] it (λi h=>(h.IsStrIter it "str_ascii_iterator" z t i)\/h.IsStrIter it "str_iterator" z t i) where
 mem:=by simp
 obj:=λi h st b af=>by
  have e:b=it:=by simpa using af
  subst e;rcases st with⟨o,e,c,d⟩|⟨o,e,c,d⟩<;>exact⟨o,e,λv z=>by rw[d]at z;cases z⟩
 keep:=λi h h' st k=>by
  rcases st with⟨o,e,c,d⟩|⟨o,e,c,d⟩
  .exact .inl ⟨o,k it (by simp) o e,c,d⟩
  .exact .inr ⟨o,k it (by simp) o e,c,d⟩
 item:=by
  intro X ez hw hI aI i zn s Y H E J hf st aU;subst ez hw hI;have aU:i<z.cps.size:=aU;obtain⟨f0,f1,f2,gZ,f4,g0⟩:=hf it (by simp);have ag:z.cps[i]? = some z.cps[i]:=by simp[aU]
  rcases st with st|st
  .refine wpAny_pyNext_ascii_item st ag λh' cq k7=>?_
   have a_:Inv X zn Y H { s with heap:=h',toks:=s.toks+1 }:=J.turned (t':=s.toks+1) (λb o af e=>(k7.2 b af).trans e) f0 f1 gZ f4 g0;obtain⟨o,e,c,d⟩:=id cq;exact⟨_,rfl,u1 (s:={ s with heap:=h',toks:=s.toks+1 }) e c d (by decide) ⟨.str (ch z.cps[i]),H,a_,⟨_,rfl⟩,⟨rfl,_,ag,rfl⟩,.inl cq,λb af=>(hf b af).1⟩⟩
  .refine wpAny_pyNext_wide_item st ag λh' cq k7=>?_
   have a_:Inv X zn Y H { s with heap:=h',toks:=s.toks+1 }:=J.turned (t':=s.toks+1) (λb o af e=>(k7.2 b af).trans e) f0 f1 gZ f4 g0;obtain⟨o,e,c,d⟩:=id cq;exact⟨_,rfl,u1 (s:={ s with heap:=h',toks:=s.toks+1 }) e c d (by decide) ⟨.str (ch z.cps[i]),H,a_,⟨_,rfl⟩,⟨rfl,_,ag,rfl⟩,.inr cq,λb af=>(hf b af).1⟩⟩
 done:=by
  intro X ez hw hI aI i zn s Y H E J hf st aU;subst ez hw hI;have aU:z.cps.size<=i:=aU;obtain⟨f0,f1,f2,gZ,f4,g0⟩:=hf it (by simp);have ag:z.cps[i]? = none:=by simp[aU]
  rcases st with st|st
  .exact wpAny_pyNext_ascii_end (J.ok.hd aI) st ag λh' dc=>⟨rfl,J.turned (t':=s.toks) (λb o af e=>dc b o af e) f0 f1 gZ f4 g0⟩
  .exact wpAny_pyNext_wide_end (J.ok.hd aI) st ag λh' dc=>⟨rfl,J.turned (t':=s.toks) (λb o af e=>dc b o af e) f0 f1 gZ f4 g0⟩
 self:=λ_ _ _ _ _ st h=>by
  rcases st with st|st
  .exact wpAny_pyIter_striter_ascii st h
  .exact wpAny_pyIter_striter_wide st h
def aca{cj l:Expr}(au:bY X l d7):kN X cj l (λY H R=>d7 Y H λx H1=>∃z,x=.str z/\R (si z) H1):=by
 intro zn s Y H R J h;refine bZ (au zn s Y H _ J h) λv s1 aX=>?_
 obtain⟨x,H1,a_,bG,bz⟩:=aX;obtain⟨z,e,q⟩:=bz;subst e;obtain⟨t,rfl⟩:=bG;have fin:∀b∈[s1.heap.objs.size],gJ X zn H1 b:=λb af=>by
  have e:b=s1.heap.objs.size:=by simpa using af
  subst e;exact a_.p5 (ajK _) (a_.bP.fresh (ajK _))
 cases ar:z.cps.all (· < 128)with
 |true=>
  refine wpAny_pyIter_ascii ar ?_;exact⟨s1.heap.objs.size,[s1.heap.objs.size],_,_,H1,rfl,a_.kept (t':=s1.toks) λb o e=>ajF _ e,Pl z t _,.inl ⟨_,ajS _ rfl,rfl,rfl⟩,fin,q⟩
 |false=>
  refine wpAny_pyIter_wide ar ?_;exact⟨s1.heap.objs.size,[s1.heap.objs.size],_,_,H1,rfl,a_.kept (t':=s1.toks) λb o e=>ajF _ e,Pl z t _,.inr ⟨_,ajS _ rfl,rfl,rfl⟩,fin,q⟩
end
def BG(z:Str):List D:=z.cps.toList.map λc=>D.str (ch c)
def ow(z:Str):List V:=z.cps.toList.map λc=>V.str (ch c)
def Y0(z:Str)(H:aw)(i:Nat):(i<(ow z).length->(si z).go i H/\∀x H',(si z).pB i H x H'->H'=H/\(ow z)[i]? = some x)/\((ow z).length<=i->(si z).stop i H):=by
 have au:(ow z).length=z.cps.size:=by unfold ow;rw[ajE,akz]
 rw[au];refine⟨λaD=>⟨aD,λx H' ⟨e,c,ae,ah⟩=>⟨e,?_⟩⟩,λaD=>aD⟩;subst ah;unfold ow;rw[akc,aoB,ae];rfl
variable[aF.a8]
def TK{K:aS}{mg:bq}{O:a5}{H:aw}(z:Str):bb K mg O H (BG z) (ow z):=by
 unfold BG ow
 induction z.cps.toList with
 |nil=>rfl|cons c r a6=>exact⟨_,_,rfl,rfl,a6⟩
def Kg(m:bo):fj:=λY=>do
 let r <-m Y
 match r with
 |.v (.str z)=>pure (BG z)|_=>bad
section
variable{X:aT}{cj l:Expr}{m:bo}
def afP(au:a' X l m):pU X cj l (Kg m):=⟨pb (aca au.un) λav H R aX=>by
 obtain⟨O,Y,S,xs,ai,st,h,q⟩:=aX;obtain⟨r,S1,ae,h⟩:=M.inv h;split at h
 .rename_i z
  cases h;refine⟨O,Y,S,_,_,st,ae,λaO v H1 g1 aV bu nn=>⟨z,bu,?_⟩⟩;exact q aO H1 (si z) (ow z) g1 aV (λaM _ i=>Y0 z aM i) (TK z)
 .cases h⟩
end
section
variable{K:aS}{mg:bq}
def Ai(i j:Str):Bool:=!(al4 j i 0 j.length 1).isEmpty
def tE(neg:Bool):R->R->M R
 |.v (.str i),.v (.str j)=>pure (.v (.aC (neg ^^ Ai i j)))|_,_=>bad
def Gv:eK K mg (λx y H Q=>∃i j,x=.str i/\y=.str j/\Q (.aC (!(al4 j i 0 j.length 1).isEmpty)) H) (tE false):=λO Y S av H x y a7 bC bT ai Q st ag bg h q=>by
 unfold tE at h;split at h
 .rename_i i j
  cases h;refine⟨i,j,ag,bg,?_⟩;have:(!(al4 j i 0 j.length 1).isEmpty)=(false ^^ Ai i j):=by unfold Ai;simp
  rw[this];exact q O _ H (Go.refl _ _) st rfl trivial
 .cases h
end
end a0
namespace a0
open PySem PySem.Spec aF PyProof.Rows
def xx(K:aS)(mg:bq)[aF.a8](d:D)(u:Value):Prop:=∃v,RelV v u/\∀O H,Rep K mg O H d v
structure KTab(P:ajY)(w:World)(K:aS)(mg:bq)[aF.a8](x:Str)(ps:List (Str×D)):Prop where
 ex:∃(a:Addr)(ay:Array am6)(n:Nat),(mg x=some (.ref a)/\(a==alm)=false)/\alh a K=some { cls:=.type "dict",data:=.dict ay n }/\KeysOf (am0 P w) ay/\
  ∀k,match ps.lookup k with
   |some d=>∃u,anA akJ ay k=some u/\xx K mg d u|none=>anA akJ ay k=none
variable[aF.a8]
def AQ(K:aS)(mg:bq):List (Str×D)->List am6->Prop
 |[],ay=>ay=[]|p::ps,ay=>∃e r,ay=e::r/\(∃t,e.key=.str p.1 t)/\xx K mg p.2 e.val/\AQ K mg ps r
theorem KP{K:aS}{mg:bq}{k:Str}:∀{ps:List (Str×D)}{ay:List am6},AQ K mg ps ay->match ps.lookup k with
   |some d=>∃u,(ay.find? λe=>akJ k e.key).map (·.val)=some u/\xx K mg d u|none=>(ay.find? λe=>akJ k e.key).map (·.val)=none
 |[],ay,h=>by cases h;rfl
 |p::ps,ay,h=>by
  obtain⟨e,r,rfl,⟨t,gp⟩,ZD,aB⟩:=h;have a6:=KP (k:=k) aB;obtain⟨tO,Mz⟩:=p;rw[aku,alJ,gp]
  by_cases c:k=tO
  .subst c
   have ao:(k==k)=true:=by simp
   have az:akJ k (.str k t)=true:=by show(k==k)=true;simp
   rw[ao,az];exact⟨_,rfl,ZD⟩
  .have ao:(k==tO)=false:=by simpa using c
   have az:akJ k (.str tO t)=false:=by
    show(tO==k)=false;simp only[beq_eq_false_iff_ne,ne_eq];exact λz=>c z.symm
   rw[ao,az];exact a6
def ZE{P:ajY}{w:World}{K:aS}{h:Heap}{mg:bq}{x:Str}{d:Addr}{ay:Array am6}{n:Nat}{ps:List (Str×D)}(X:K.In h)(G:h.Ns akf mg)
  (a:amV K akf x=some (some (.ref d))) (aE:(d==alm)=false) (l:alh d K=some { cls:=.type "dict",data:=.dict ay n }) (k:∀e∈ay.toList,∃s,akJ s e.key=true/\e.hash=hashStr w s)
  (f:AQ K mg ps ay.toList):KTab P w K mg x ps:=by
 refine⟨d,ay,n,⟨anr X G a,aE⟩,l,λe he=>?_,λk=>?_⟩
 .obtain⟨s,ae,ah⟩:=k e (by simpa using he)
  exact⟨s,ae,ah⟩
 .have z:=KP (k:=k) f
  have:∀k:Str,anA akJ ay k=(ay.toList.find? λe=>akJ k e.key).map (·.val):=λk=>by
   unfold anA;obtain⟨l⟩:=ay;rw[List.find?_toArray]
  rw[this];exact z
def AS:List Str->List Value->Prop
 |[],us=>us=[]|x::xs,us=>∃t r,us=.str x t::r/\AS xs r
theorem K3:∀{xs:List Str}{us:List Value},AS xs us->Vals (xs.map V.str) us
 |[],us,h=>by cases h;exact .nil
 |x::xs,us,h=>by obtain⟨t,r,rfl,q⟩:=h;exact .cons ⟨t,rfl⟩ (K3 q)
def oW{K:aS}{mg:bq}{xs:List Str}{a:Addr}{its:Array Value}{n:Nat}{dj:Option Addr}{fJ:Array (Option Value)}(l:alh a K=some ⟨.type "tuple",dj,.seq its n,fJ⟩)(hz:its.size<=ajL)(h:AS xs its.toList) :
  xx K mg (.tup (xs.map D.str)) (.ref a):=by
 refine⟨.ref a,rfl,λO H=>⟨a,xs.map V.str,rfl,.inr ⟨_,its,n,l,rfl,rfl,hz,K3 h⟩,?_⟩⟩
 induction xs with
 |nil=>rfl| cons x r a6=>exact⟨_,_,rfl,rfl,by
   clear a6 h
   induction r with
   |nil=>rfl| cons y q a6=>exact⟨_,_,rfl,rfl,a6⟩⟩
section
omit [aF.a8]
@[simp] theorem aiD:tE b (.v (.str i)) (.v (.str j))=pure (.v (.aC (b ^^ Ai i j))):=rfl
end
end a0
namespace a0
open PySem PySem.Spec aF PyProof.Rows
variable[aF.a8]
@[simp] def BB(ps:List (Str×D))(mk:bo)(Y:aR):M R:=do
 let k <-mk Y
 match k with
 |.v (.str z)=>pure (.v ((ps.lookup z).getD .aG))|_=>bad
section
variable{X:aT}{x:Str}{ps:List (Str×D)}{e:Expr}{p apos dv:Pos}{mk:bo}
def agf(T:KTab X.prog X.w X.K X.mg x ps)(aU:eU X x)(he:a' X e mk)(m:hB X (.Name x p) "get" apos e dv:=by exact⟨rfl,rfl,rfl,rfl⟩)(e7:(x==("__debug__":Str))=false:=by decide) :
  a' X (.Call (.Attribute (.Name x p) "get" apos) [e] [] dv) (BB ps mk):=⟨by
 rintro zn s Y H Q J ⟨O,Y',S,r,ai,st,h,q⟩;obtain⟨y,S1,ae,h⟩:=M.inv h;split at h
 .rename_i z
  cases h;obtain⟨a,ay,n,⟨hm,Yx⟩,au,ax,hf⟩:=T.ex;refine wpAny_Call_method m.base m.Ce m.line aok alK aoz (s_ J aU hm ?_ e7);have ar:=J.fp a _ au;refine⟨⟨_,ar,rfl⟩,λb e=>by cases e;exact⟨_,ar,rfl⟩,?_⟩;rw[m.trees];refine amj rfl (anc (amH (bZ (he.un zn s Y H (λv H1=>v=.str z/\∃aO,Go O aO H H1/\cO X.K X.mg aO Y' ai Y H1) J ⟨O,Y',S,_,_,st,ae,λaO v H1 g1 aV bu nn=>⟨bu,aO,g1,aV⟩⟩) λqh s2 ⟨y,aM,bX,bC,fz,aO,g1,aV⟩=>anS ?_)));subst fz;obtain⟨t,rfl⟩:=bC;have ar:=bX.fp a _ au;have mo:s2.heap.MapOf (am0 X.prog X.w) a (anA akJ ay):=⟨_,ay,n,ar,⟨rfl,rfl,rfl⟩,rfl,ax,λ_=>rfl⟩;refine call_meetsIn alK mo.typeIs amU (PySem.F.args_dict_get_2 _ _) (meets_dict_get (am0 X.prog X.w) a (k:=z) ?_ Yx) ⟨_,mo,?_⟩
  .show(z==z)=true
   simp
  .have:=hf z
   cases ao:ps.lookup z with
   |none=>
    rw[ao]at this q;rw[this];exact⟨.aG,aM,bX.tok _,rfl,q aO _ aM g1 aV rfl trivial⟩
   |some d=>
    rw[ao]at this q;obtain⟨u,az,v,bR,wV⟩:=this;rw[az];exact⟨v,aM,bX.tok _,bR,q aO _ aM g1 aV (wV aO aM) trivial⟩
 .cases h⟩
end
end a0
namespace a0
open PySem PySem.Spec aF PyProof.Rows PySem.W
section
variable{prog:ajY}{w:World}{A:aj4}{s:ajH}{E:cN}
def VE{v:Value}{Q:Bool->ajH->Prop}(h:Q true s):wpAny (model prog w) A (eqBool v v) Q E s:=by
 unfold eqBool
 try with_reducible refine akZ ?_
 show wpAny _ _ (if(v==v)=true then _ else _) Q E s;rw[if_pos (beq_self_eq_true v)];exact ajD (anf (ajI h))
theorem KO{Q:Bool->ajH->Prop}(h:Q fin s):∀(l:List Value)(i:Nat),KatLex prog w A b fin Q (l.zip l) i s
 |[],_=>kat_nil h|_::l,i=>kat_cons (VE (kat_yes (KO h l (i+1))))
end
variable[aF.a8]
end a0
namespace a0
open PySem PySem.Spec aF
section
variable{P:List Value->Prop}
def Px(h:P []):∀us:List Value,us.length=0->P us:=λus e=>by rw[anm e];exact h
def r6(h:∀a,∀us:List Value,us.length=n->P (a::us)):∀us:List Value,us.length=n+1->P us:=λus e=>by
 cases us with
 |nil=>cases e
 |cons a r=>exact h a r (Nat.succ.inj e)
def xb(h:∀a,P [a]):∀us:List Value,us.length=1->P us:=r6 λa=>Px (h a)
def Al(h:∀a b,P [a,b]):∀us:List Value,us.length=2->P us:=r6 λa=>xb (h a)
def Fv(h:∀a b c,P [a,b,c]):∀us:List Value,us.length=3->P us:=r6 λa=>Al (h a)
def Fw(h:∀a b c d,P [a,b,c,d]):∀us:List Value,us.length=4->P us:=r6 λa=>Fv (h a)
def Fx(h:∀a b c d e,P [a,b,c,d,e]):∀us:List Value,us.length=5->P us:=r6 λa=>Fw (h a)
def Fy(h:∀a b c d e f,P [a,b,c,d,e,f]):∀us:List Value,us.length=6->P us:=r6 λa=>Fx (h a)
def Py(h:∀a b c d e f g,P [a,b,c,d,e,f,g]):∀us:List Value,us.length=7->P us:=r6 λa=>Fy (h a)
end
end a0
namespace a0
open PySem PySem.Spec aF PyProof.Rows PySem.W
def wU(Z:f_):D->Option Z.κ.α
 |.tup (d::_)=>Z.un d|_=>none
def pe(Z:f_):List D->Option (List Z.κ.α)
 |[]=>some []|d::ds=>match wU Z d,pe Z ds with
  |some p,some ps=>some (p::ps)|_,_=>none
def pI(Z:f_)(h:Heap)(p:Z.κ.α)(a:Addr):Prop:=∃(o:Obj)(v:Value)(m:Nat)(r:List Value),h.get? a=some o/\o.cls=.type "tuple"/\o.data=.seq (alY (v::r)) m/\Z.κ.keyOf v=some p
def pI.kept{h h':Heap}(x:pI Z h p a)(k:∀b o,h.get? b=some o->h'.get? b=some o):pI Z h' p a:=by
 obtain⟨o,v,m,r,ae,ah,bF,dw⟩:=x;exact⟨o,v,m,r,k _ _ ae,ah,bF,dw⟩
structure KF(Z:f_):Prop where
 ok:Z.Ok
 ne:∀(prog:ajY)(w:World)(A:aj4)(E:cN)(s:ajH)(v u:Value)(a b:Z.κ.α){Q:Bool->ajH->Prop},Z.κ.keyOf v=some a->Z.κ.keyOf u=some b->a≠b->Q false s->wpAny (model prog w) A (eqBool v u) Q E s
 ty:∃T:Value,(T==T)=true/\(T != amM "tuple")=true/\∀(prog:ajY)(w:World)(h:Heap)(v:Value)(a:Z.κ.α),Z.κ.keyOf v=some a->Looks (model prog w) h (typeOf v) T
def Zv:KF f6 where
 ok:=K1
 ne:=λprog w A E s v u a b Q ar af h3 h=>by
  cases v<;>first|cases ar|skip
  cases u<;>first|cases af|skip
  refine(intKind prog w).eqBool (a:=a) (b:=b) (by show(a==a)=true;simp) (by show(b==b)=true;simp) ?_;rw[decide_eq_false h3];exact h
 ty:=⟨.type "int",by decide,by decide,λprog w h v a ar=>by
  cases v<;>first|cases ar|skip
  exact .now⟩
def Zw:KF iz where
 ok:=K2
 ne:=λprog w A E s v u a b Q ar af h3 h=>by
  cases v<;>first|cases ar|skip
  cases u<;>first|cases af|skip
  rename_i x t y t';refine wpAny_eqBool_str ?_;rw[decide_eq_false (λz=>h3 (by rw[z]))];exact h
 ty:=⟨.type "str",by decide,by decide,λprog w h v a ar=>by
  cases v<;>first|cases ar|skip
  exact .now⟩
def QE{Z:f_}:∀{ps:List Z.κ.α},jU Z.κ.blt ps=true->ps.Nodup:=A7 Z.κ.toKeyOrd
section
variable{prog:ajY}{w:World}{A:aj4}{s:ajH}{E:cN}{Z:f_}
def acY{C:Bool->ajH->Prop}(F:KF Z)(aK:pI Z s.heap p a)(a9:pI Z s.heap q b)(h3:p≠q\/a=b/\p=q)(h:C (Z.κ.blt p q) s):wpAny (model prog w) A (keyLt' (tuples' true) (.ref a) (.ref b)) C E s:=by
 rcases h3 with h3|⟨rfl,rfl⟩
 .obtain⟨o,v,m,r,ae,ah,bF,g6⟩:=aK
  obtain⟨o',fN,eQ,bT,CH,aiY,Wm,Kz⟩:=a9;refine kat_lt ae bF CH Wm ?_;show KatLex prog w A true _ C ((v,fN)::r.zip bT) 0 s;exact kat_cons (F.ne prog w A _ s v fN p q g6 Kz h3 (kat_no (F.ok.one prog w A _ s v fN p q g6 Kz h)))
 .obtain⟨o,v,m,r,ae,ah,bF,g6⟩:=aK
  refine kat_lt ae bF ae bF (KO ?_ _ 0);rw[decide_eq_false (akn _)];rw[Z.κ.irrefl]at h;exact h
end
theorem Nm:∀{ps:List Z.κ.α}{as:List Addr},as.length=ps.length->(∀(i:Nat)(p:Z.κ.α)(a:Addr),ps[i]? = some p->as[i]? = some a->pI Z h p a)->∃aW:List Value,KatTups h (as.map aka) aW/\aW.length=as.length/\∀v∈aW,∃a,Z.κ.keyOf v=some a
 |[],[],_,_=>⟨[],.nil,rfl,λ_ h=>nomatch h⟩
 |p::ps,a::as,au,ag=>by
  obtain⟨aW,ae,ah,bF⟩:=Nm (ps:=ps) (as:=as) (Nat.succ.inj au) λi q b ao az=>ag (i+1) q b (by simpa using ao) (by simpa using az)
  obtain⟨o,v0,m,r,ao,az,cG,fg⟩:=ag 0 p a rfl rfl;refine⟨v0::aW,.cons ao az cG rfl ae,by rw[ajW,ah];rfl,λv bL=>?_⟩;rcases ajN.mp bL with rfl|bL
  .exact⟨_,fg⟩
  .exact bF v bL
def xF(Z:f_)(K:aS)(mg:bq)(O:a5)(H:aw)(p:Z.κ.α)(a:Addr):Prop:=∃z ua,dQ K H a (z::ua)/\Rep K mg O H (Z.kd p) z
section
variable[aF.a8]{X:aT}{zn:c8}{Y:aF.St}{H:aw}{s:ajH}{A:aj4}{E:cN}{O:a5}{Q:df}{Z:f_}
def xF.is(F:KF Z)(J:Inv X zn Y H s)(h:xF Z X.K X.mg O H p b):pI Z s.heap p b:=by
 obtain⟨z,ua,ae,ah⟩:=h;obtain⟨its,r,⟨o,ao,az,n,cG⟩,_⟩:=J.tuple ae
 cases r with
 |cons bG r=>exact⟨o,_,n,_,ao,az,cG,F.ok.key p _ _ _ _ _ _ ah bG⟩
theorem Np{K:aS}{mg:bq}(F:Z.Ok):∀{ds:List D}{ps:List Z.κ.α}{ys:List V},pe Z ds=some ps->bb K mg O H ds ys->∃as:List Addr,ys=as.map V.ref/\as.length=ps.length/\ds.length=ps.length/\∀(i:Nat)(p:Z.κ.α)(a:Addr),ps[i]? = some p->as[i]? = some a->xF Z K mg O H p a
 |[],ps,ys,h,r=>by cases h;cases(show ys=[]from r);exact⟨[],rfl,rfl,rfl,λi p a e=>by simp at e⟩
 |d::ds,ps,ys,h,r=>by
  unfold pe at h;split at h
  .rename_i p iT ao az
   cases h;obtain⟨y,ag7,rfl,bG,cx⟩:=r;obtain⟨as,rfl,ae,ah,bF⟩:=Np F az cx;unfold wU at ao;split at ao
   .rename_i hp rest
    obtain⟨a,zs,rfl,dP,fO,ahM,rfl,bz,h8⟩:=bG;rw[F.r4 _ _ ao]at bz;refine⟨a::as,rfl,by simp[ae],by simp[ah],λk p b ao az=>?_⟩
    cases k with
    |zero=>simp at ao az;subst ao az;exact⟨fO,ahM,dP,bz⟩| succ k=>exact bF k p b (by simpa using ao) (by simpa using az)
   .cases ao
  .cases h
def aeE(F:KF Z)(J:Inv X zn Y H s){ps:List Z.κ.α}{as:List Addr}{ds:List D}(au:as.length=ps.length)(hd:ds.length=ps.length)(wV:bb X.K X.mg O H ds (as.map V.ref))(rows:∀(i:Nat)(p:Z.κ.α)(a:Addr),ps[i]? = some p->as[i]? = some a->xF Z X.K X.mg O H p a)(dZ:ps.Nodup)(ju:ps.length<64){us:List Value}(jY:us=as.map aka)
  (q:∀l zs,H l=none->bb X.K X.mg O H ((hP Z.κ.blt (ps.zip ds)).map (·.2)) zs->Q (.ref l) (upd H l (.lst zs))) :
  wpAny (model X.prog X.w) A (do
   let l <-newList us
   let _ <-alq [l] (call (.builtin "list.sort") [l] [])
   ret l) (λfin aQ=>∃v,fin=Fin.done (.ret v)/\hA X zn Y Q v aQ) E s:=by
 have vH:us.length=ps.length:=by rw[jY,ajE,au]
 have Dn:∀(i:Nat)(p:Z.κ.α)(a:Addr),ps[i]? = some p->as[i]? = some a->pI Z s.heap p a:=λi p a ao az=>(rows i p a ao az).is F J
 let fh:Z.κ.α:=Z.κ.dflt
 have sP:∀i,i<us.length->ps[i]? = some (ps.getD i fh)/\as[i]? = some (as.getD i 0)/\ds[i]? = some (ds.getD i .aG)/\us.getD i akS=.ref (as.getD i 0):=λi aD=>by
  have ae:i<ps.length:=by omega
  have ah:i<as.length:=by omega
  have bF:i<ds.length:=by omega
  refine⟨by simp[akg,ae],by simp[akg,ah],by simp[akg,bF],?_⟩;rw[jY];simp[akg,ah]
 refine ajD (amz ?_ (by rw[ake];omega));have mE:(s.heap.push (akk "list" us.toArray 0)).get? s.heap.objs.size=some (akk "list" us.toArray 0):=ajS _ rfl;have fr:H s.heap.objs.size=none:=J.bP.fresh (ajK _);show wpAny _ _ _ _ _ { s with heap:=s.heap.push (akk "list" us.toArray 0) };have kept:∀b o,s.heap.get? b=some o->(j8 (s.heap.push (akk "list" us.toArray 0)) s.heap.objs.size us).get? b=some o:=λb o e=>aaj (aj1 (ajV e)) (ajF _ e)
 refine ajD (akZ (wpAny_call_entry_kw slot_list_sort ⟨_,mE,rfl⟩ entry_list_sort ?body (args_list_sort _)));have inj:∀i j,i<us.length->j<us.length->i≠j->ps.getD i fh≠ps.getD j fh:=λi j aD aZ ne e=>by
  have ao:=(sP i aD).1;have az:=(sP j aZ).1;rw[e,<-az]at ao;exact ne ((List.getElem?_inj (by omega) dZ).mp ao)
 refine aeA (κ:=tuples' true) (lt:=λi j=>Z.κ.blt (ps.getD i fh) (ps.getD j fh)) (k:=0) mE (by omega) ?ord (λah Q i4=>?kind) (λi j C aD aZ fT=>?ask) λp R S=>?fin
 case ord=>
  refine⟨λi j k _ _ _ ae ah=>Z.κ.trans _ _ _ ae ah,λi j aD aZ ne ae=>?_,λi j aD aZ ae=>?_⟩
  .cases c:Z.κ.blt (ps.getD j fh) (ps.getD i fh)with
   |true=>rfl|false=>exact absurd (Z.κ.total _ _ ae c) (inj i j aD aZ ne)
  .cases c:Z.κ.blt (ps.getD j fh) (ps.getD i fh)with
   |false=>rfl|true=>
    have:=Z.κ.trans _ _ _ ae c;rw[Z.κ.irrefl]at this;cases this
 case kind=>
  obtain⟨aW,g6,gr,y4⟩:=Nm (Z:=Z) (h:=j8 (s.heap.push (akk "list" us.toArray 0)) s.heap.objs.size us) (ps:=ps) (as:=as) au λi p a ao az=>(Dn i p a ao az).kept kept
  rw[<-jY]at g6;obtain⟨T,t1,d6,t3⟩:=F.ty;have f0:0<aW.length:=by omega
  refine kat_kind (T:=T) g6 f0 (λv bL=>by obtain⟨a,ar⟩:=y4 v bL;exact t3 X.prog X.w _ v a ar) t1 ?_;rw[d6];exact i4
 case ask=>
  unfold kas_ask;obtain⟨ao,az,_,fg⟩:=sP i aD;obtain⟨f1,f2,_,f4⟩:=sP j aZ;rw[fg,f4];refine acY F ((Dn _ _ _ ao az).kept kept) ((Dn _ _ _ f1 f2).kept kept) ?_ fT
  by_cases Ki:i=j
  .subst Ki;exact .inr ⟨rfl,rfl⟩
  .exact .inl (inj i j aD aZ Ki)
 case fin=>
  have wR:ps.zip ds=(aj6 us.length).map λi=>(ps.getD i fh,ds.getD i .aG):=by
   refine List.ext_getElem (by simp[vH,hd]) λi ae ah=>?_
   have a1:i<ps.length:=by simp at ae;omega
   have a2:i<ds.length:=by omega
   simp[akg,a1,a2]
  have aaz:((ps.zip ds).map (·.1)).Nodup:=by
   rw[am2 (by omega)];exact dZ
  have Fe:(hP Z.κ.blt (ps.zip ds)).map (·.2)=p.toList.map λi=>ds.getD i .aG:=by
   have one:p.toList.map (λi=>(ps.getD i fh,ds.getD i .aG))=hP Z.κ.blt (ps.zip ds):=by
    refine Fc Z.κ.toKeyOrd ?_ ?_ ?_
    .exact aaz
    .rw[wR];exact R.pm.map _
    .rw[anW,an1]
     intro i j aD aZ rm;have hsz:p.toList.length=us.length:=by rw[akz,R.lY]
     have:=S i j rm (by omega);have V7:p.getD i 0=p.toList[i]:=by
      have:i<p.size:=by simpa using aD
      simp[Array.getD,this]
     have V8:p.getD j 0=p.toList[j]:=by
      have:j<p.size:=by simpa using aZ
      simp[Array.getD,this]
     rw[V7,V8]at this;exact this
   rw[<-one,alF];rfl
  have ua:bb X.K X.mg O H (p.toList.map λi=>ds.getD i .aG) (p.toList.map λi=>V.ref (as.getD i 0)):=by
   have:∀l:List Nat,(∀i∈l,i<us.length)->bb X.K X.mg O H (l.map λi=>ds.getD i .aG) (l.map λi=>V.ref (as.getD i 0)):=by
    intro l
    induction l with
    |nil=>intro _;rfl|cons i l a6=>
     intro au;obtain⟨_,g2,g3,_⟩:=sP i (au i ajR);obtain⟨u,ao,az⟩:=wV.get g3;rw[akc,g2]at ao;cases ao;exact⟨_,_,rfl,az,a6 λk ax=>au k (ajM _ ax)⟩
   exact this _ λi aD=>akM.mp (R.pm.mem_iff.mp aD)
  have AJ:Vals (p.toList.map λi=>V.ref (as.getD i 0)) (p.toList.map λi=>us.getD i akS):=by
   have:∀l:List Nat,(∀i∈l,i<us.length)->Vals (l.map λi=>V.ref (as.getD i 0)) (l.map λi=>us.getD i akS):=by
    intro l
    induction l with
    |nil=>intro _;exact .nil| cons i l a6=>intro au;exact .cons (by show RelV (V.ref _) (us.getD i akS);rw[(sP i (au i ajR)).2.2.2];rfl) (a6 λk ax=>au k (ajM _ ax))
   exact this _ λi aD=>akM.mp (R.pm.mem_iff.mp aD)
  obtain⟨e,he⟩:=sortedHeap_at (out:=alY (p.toList.map λi=>us.getD i akS)) mE;refine⟨_,rfl,ajI ⟨_,rfl,.ref s.heap.objs.size,upd H s.heap.objs.size (.lst (p.toList.map λi=>V.ref (as.getD i 0))),?_,rfl,q _ _ fr (by rw[Fe];exact ua)⟩⟩;refine J.laid (t':=s.toks) (λb o dc=>?_) (ajK _) ⟨?_,_,e,AJ,?_⟩
  .have fG:=ajV dc
   rw[sortedHeap_old (aj1 fG) (by rw[an2];exact amQ fG),alQ _ _ _ (aj1 fG)];exact dc
  .rw[ajE,akz,R.lY,ake];omega
  .rw[he]
end
variable[aF.a8]
def nz(Z:f_):List R->M R
 |[x]=>match x.fX with
  |some ds=>match pe Z ds with
   |some ps=>if jU Z.κ.blt ps=true/\ps.length<64 then pure (.fr ((hP Z.κ.blt (ps.zip ds)).map (·.2)))else bad|none=>bad
  |none=>bad
 |_=>bad
def Ia{X:aT}(aI:X.calm=true)(F:KF Z):jh X (.builtin "sorted") (fun xs H Q=>∃(p:Addr)(ys:List V)(O:a5)(ds:List D)(ps:List Z.κ.α),xs=[.ref p]/\dx X.K H p ys/\bb X.K X.mg O H ds ys/\pe Z ds=some ps/\jU Z.κ.blt ps=true/\ps.length<64/\
  ∀l zs,H l=none->bb X.K X.mg O H ((hP Z.κ.blt (ps.zip ds)).map (·.2)) zs->Q (.ref l) (upd H l (.lst zs))):=by
 rintro zn s Y H xs us Q J bR ⟨p,ys,O,ds,ps,ex,cX,bt,wV,aH,ju,q⟩;subst ex;obtain⟨u,rfl,bG⟩:=vals1 bR;cases bG;obtain⟨as,rfl,au,hd,rows⟩:=Np (Z:=Z) F.ok wV bt;refine call_function_entry_kw kind_sorted plain_sorted entry_sorted (args_sorted1 _) ?_;unfold ans.«sorted»;refine ajD (m:=checkCount "sorted" 1 1 _) (ajI ?_);obtain⟨vs,qx,pl,_⟩:=J.list cX;have ev:vs=as.map aka:=by
  have:∀{as:List Addr}{vs:List Value},Vals (as.map V.ref) vs->vs=as.map aka:=by
   intro as
   induction as with
   |nil=>intro vs h;cases h;rfl
   |cons a as a6=>intro vs h;cases h with
    |cons ae ah=>cases ae;rw[a6 ah];rfl
  exact this qx
 have lv:vs.length=ps.length:=by rw[ev,ajE,au]
 refine ajD (collect_list pl.isList ?_ (by rw[ake];omega));refine aeE F (J.kept (t':=s.toks) λb o e=>?_) au hd bt rows (QE aH) ju ev q;have fG:=ajV e;rw[Heap.get?_update_ne _ _ _ _ (aj1 fG),alQ _ _ _ (aj1 fG)];exact e
def KI{Z:f_}{K:aS}{mg:bq}:jL K mg (fun xs H Q=>∃(p:Addr)(ys:List V)(O:a5)(ds:List D)(ps:List Z.κ.α),xs=[.ref p]/\dx K H p ys/\bb K mg O H ds ys/\pe Z ds=some ps/\jU Z.κ.blt ps=true/\ps.length<64/\
  ∀l zs,H l=none->bb K mg O H ((hP Z.κ.blt (ps.zip ds)).map (·.2)) zs->Q (.ref l) (upd H l (.lst zs))) (nz Z):=λO Y S av H vs rs bT ai Q st aB h q=>by
 unfold nz at h;split at h
 .rename_i x
  obtain⟨v,rfl,ag⟩:=kB aB;split at h
  .rename_i ds e
   split at h
   .rename_i ps az
    by_cases c:jU Z.κ.blt ps=true/\ps.length<64
    .rw[if_pos c]at h
     cases h;obtain⟨a,ys,rfl,l,bt⟩:=R.nO ag e;refine⟨a,ys,O,ds,ps,rfl,l,bt,az,c.1,c.2,λp zs aK j9=>?_⟩;refine q (f9 O p .dF) _ _ (Go.new aK) (st.new aK) ⟨p,zs,rfl,dG,ob,j9.go (Go.new aK)⟩ λb dc=>?_
     cases dc;exact aK
    .rw[if_neg c]at h;cases h
   .cases h
  .cases h
 .cases h
omit [aF.a8]in
theorem Vx{x:R}:nz Z [x]=match x.fX with
  |some ds=>match pe Z ds with
   |some ps=>if jU Z.κ.blt ps=true/\ps.length<64 then pure (.fr ((hP Z.κ.blt (ps.zip ds)).map (·.2)))else bad|none=>bad
  |none=>bad:=rfl
end a0
namespace a0
open PySem PySem.Spec aF PyProof.Rows
def i'(b:Int):List Int->Int
 |[]=>b|x::xs=>if b<x then i' x xs else i' b xs
def uT:List R->M R
 |[x]=>match x.fX with
  |some ds=>match nums ds with
   |some (b::bs)=>pure (.v (.int (i' b bs)))|_=>bad
  |none=>bad
 |_=>bad
variable[aF.a8]
section
variable{X:aT}{zn:c8}{Y:aF.St}{H:aw}{s:ajH}{S it l:Addr}{O:a5}
def M_{i:Int}(h:RelV (.int i) u):∃t,u=.int i t:=h
structure P0(X:aT)(zn:c8)(Y:aF.St)(O:a5)(H:aw)(S it l:Addr)(j:Nat)(b:Int)(aQ:ajH):Prop where
 ex:∃aq H',Inv X zn Y H' aQ/\Go O aq H H'/\da aq H'/\H' S=some (.lst [.int b,.int b])/\aq S=.dF/\gJ X zn H' it/\aQ.heap.IsListIter it l j
theorem aad{ns:List Int}{res:Int}(j3:X.A.in1.handled=none)(vh:H S=none)(j2:S≠it)(au:dx X.K H l (ns.map V.int)) :
  ∀(r:List Int)(j:Nat)(b:Int)(aQ:ajH),ns.drop j=r->P0 X zn Y O H S it l j b aQ->j<=ns.length->i' b r=res->
   amn (model X.prog X.w) X.A (.builtin "max.loop" ⟨[.ref it,.none,.ref S],[]⟩) (λr aQ=>∃u,r=.ok (.ret u)/\xy X zn Y O H (.int res) u aQ) aQ:=by
 have mB:(toString "max"++toString ".loop":String)="max.loop":=by decide
 have dK:=j3;intro r
 induction r with
 |nil=>
  intro j b aQ oG B aZ aU;have aU:b=res:=aU;subst aU;obtain⟨aO,H1,a_,g1,gB,cX,pa,aN,hit⟩:=B.ex;obtain⟨hsz,its,n,vals,g4⟩:=a_.bP S _ cX;obtain⟨u,k3,rfl,eg,wQ⟩:=vals2 vals;have oK:j=(ns.map V.int).length:=by
   have:=congrArg ak6 oG;rw[akV,akH]at this;rw[ajE];omega
  refine amd alk ?_;rw[alu aki _];show wpAny _ X.A.in1 (amc (.ref S) >>= _) _ _ _;refine ajD (akN g4 rfl ?_);show wpAny _ X.A.in1 (tryCatch (al8 (.ref it)) _ >>= _) _ _ _;refine ajD (ale (akm (Me (E:=λ_ _=>False) a_ (g1.same.seq au) oK aN hit dK) (λr s1 a9=>?_) λ_ _ dy=>dy.elim));obtain⟨rfl,bX⟩:=a9;obtain⟨_,lN,dY,FC,vf⟩:=bX.bP S _ cX;show wpAny _ X.A.in1 (updateSeq S (λ_=>#[]) >>= _) _ _ _;refine ajD ?_;refine ame vf rfl (hz:=by rw[ajT,<-FC.length,ake];simp) (ajD (alj (ajI ?_)));exact⟨u,rfl,aO,_,.int b,HN bX cX vf,⟨pq vh g1.same cX _,g1.own,g1.bM⟩,gB.es cX,rfl,eg⟩
 |cons dh r a6=>
  intro j b aQ oG B aZ aU
  replace aU:(if b<dh then i' dh r else i' b r)=res:=aU
  obtain⟨aO,H1,a_,g1,gB,cX,pa,aN,hit⟩:=B.ex;obtain⟨hsz,its,n,vals,g4⟩:=a_.bP S _ cX;obtain⟨u,k3,rfl,eg,wQ⟩:=vals2 vals;have hd2:ns[j]? = some dh:=by
   have:=congrArg (·[0]?) oG;simpa using this
  have De:(ns.map V.int)[j]? = some (.int dh):=by rw[akc,hd2];rfl
  have vc:ns.drop (j+1)=r:=by
   have:=congrArg (anD 1) oG;simpa[ams]using this
  have oK:j+1<=ns.length:=(ajJ.mp hd2).1;refine amd alk ?_;rw[alu aki _];show wpAny _ X.A.in1 (amc (.ref S) >>= _) _ _ _;refine ajD (akN g4 rfl ?_);show wpAny _ X.A.in1 (tryCatch (al8 (.ref it)) _ >>= _) _ _ _;refine ajD (ale (akm (next_item (E:=λ_ _=>False) a_ (g1.same.seq au) De aN hit dK) (λr s1 a9=>?_) λ_ _ dy=>dy.elim));obtain⟨ib,rfl,mU,bX,p'⟩:=a9;obtain⟨_,Ds,iS,vals3,mz⟩:=bX.bP S _ cX;have Nq:=mU;obtain⟨d6,rfl⟩:=M_ mU;obtain⟨c6,rfl⟩:=M_ wQ;show wpAny _ X.A.in1 (tryCatch (alq [.int dh d6,.int dh d6] (amW .Gt (.int dh d6) (.int b c6) >>= _)) _ >>= _) _ _ _;have rq:∀(s:ajH)(E:cN)(Q:cN),Q (.bool (decide (b<dh))) s->wpAny (model X.prog X.w) X.A.in1 (amW .Gt (.int dh d6) (.int b c6)) Q E s:=λs E Q h=>(aoH h:wpAny (model X.prog X.w) X.A.in1 (akq .Gt (.int dh d6) (.int b c6)) Q E s)
  refine ajD (ale (akZ (ajD (rq _ _ _ ?_))));refine ajD (akZ (akY ?_));refine ajD (alj (ajI ?_))
  by_cases af:b<dh
  .rw[if_pos af]at aU
   simp only[af,decide_true,if_true];refine ajD ?_;refine ame mz rfl (hz:=by rw[ajT,<-vals3.length,ake];simp) (ajD (alj ?_));rw[mB];refine ajI ⟨alO aki _,a6 (j+1) dh _ vc ?_ oK aU⟩;exact⟨aO,_,x1 (v:=.int dh) (kv:=.int dh) bX cX mz Nq Nq,⟨pq vh g1.same cX _,g1.own,g1.bM⟩,gB.es cX,dG,pa,yt j2 aN,y2 j2 p'⟩
  .rw[if_neg af]at aU
   simp only[af,decide_false,if_false];refine ajD (alj ?_);rw[mB];refine ajI ⟨alO aki _,a6 (j+1) b _ vc ?_ oK aU⟩;exact⟨aO,H1,bX,g1,gB,cX,pa,aN,p'⟩
theorem aac{b:Int}{bs:List Int}{E:cN}(J:Inv X zn Y H s)(cT:da O H)(au:dx X.K H l ((b::bs).map V.int))(j3:X.A.in1.handled=none) :
  wpAny (model X.prog X.w) X.A (call (.builtin "max") [.ref l]) (xy X zn Y O H (.int (i' b bs))) E s:=by
 have mB:(toString "max"++toString ".loop":String)="max.loop":=by decide
 have dK:=j3;obtain⟨us,bR,pl,_⟩:=J.list au;have fU:s.heap.IsList l us.toArray:=pl.isList;refine call_function_tree PySem.F.kind_max PySem.F.plain_max PySem.F.entry_max (PySem.F.args_max1 _) ?_;show wpAny _ X.A.in1 (alH "max" ["key","default"] 0 ⟨[],[]⟩ >>= _) _ _ s;refine ajD (wpAny_of_eq (show alH "max" ["key","default"] 0 ⟨[],[]⟩=pure [none,none]from rfl) ?_);refine ajD (ajI ?_);refine ajD (alv fU ?_);refine ajD (amz ?_ (aj5 _));rw[mB];have a_:Inv X zn Y H { s with heap:=s.heap.push { cls:=.type "list_iterator",data:=.fields #[.ref l,.int 0 0] } }:=J.kept (t':=s.toks) λb o e=>ajF _ e
 have nG:(s.heap.push { cls:=.type "list_iterator",data:=.fields #[.ref l,.int 0 0] }).get? s.heap.objs.size=some { cls:=.type "list_iterator",data:=.fields #[.ref l,.int 0 0] }:=ajS _ rfl;have hsz:(s.heap.push { cls:=.type "list_iterator",data:=.fields #[.ref l,.int 0 0] }).objs.size=s.heap.objs.size+1:=an2 ..;generalize X_:s.heap.push { cls:=.type "list_iterator",data:=.fields #[.ref l,.int 0 0] }=ae at *;have oz:H ae.objs.size=none:=a_.bP.fresh (ajK _);have j2:ae.objs.size≠s.heap.objs.size:=by rw[hsz];omega
 have bX:Inv X zn Y (upd H ae.objs.size (.lst [])) { s with heap:=ae.push (akk "list" #[] 0) }:=
  a_.laid (t':=s.toks) (λb o e=>ajF _ e) (ajK _) ⟨aj5 _,[],0,.nil,ajS _ rfl⟩
 have aN:gJ X zn (upd H ae.objs.size (.lst [])) s.heap.objs.size:=J.p5 (ajK _) (by rw[dm j2.symm];exact J.bP.fresh (ajK _));have hit:(ae.push (akk "list" #[] 0)).IsListIter s.heap.objs.size l 0:=⟨_,ajF _ nG,rfl,rfl⟩;have go2:Go O (f9 O ae.objs.size .dF) H (upd H ae.objs.size (.lst [])):=Go.new oz;have BS:da (f9 O ae.objs.size .dF) (upd H ae.objs.size (.lst [])):=cT.new oz;have qv:f9 O ae.objs.size .dF ae.objs.size=.dF:=ob;have rg:upd H ae.objs.size (.lst []) ae.objs.size=some (.lst []):=dG;have g4:(ae.push (akk "list" #[] 0)).get? ae.objs.size=some (akk "list" #[] 0):=ajS _ rfl;refine ajI ⟨alO aki _,?_⟩;generalize ae.push (akk "list" #[] 0)=ah at *;generalize ae.objs.size=S at *;generalize s.heap.objs.size=it at *;generalize f9 O S .dF=br at *;generalize upd H S (.lst [])=aM at *;refine amd alk ?_;rw[alu aki _];show wpAny _ X.A.in1 (amc (.ref S) >>= _) _ _ _;refine ajD (akN g4 rfl ?_);show wpAny _ X.A.in1 (tryCatch (al8 (.ref it)) _ >>= _) _ _ _;refine ajD (ale (akm (next_item (E:=λ_ _=>False) (v:=.int b) bX (go2.same.seq au) rfl aN hit dK) (λr s1 a9=>?_) λ_ _ dy=>dy.elim));obtain⟨ib,rfl,mU,dN,p'⟩:=a9;obtain⟨_,Ds,iS,vals3,mz⟩:=dN.bP S _ rg;show wpAny _ X.A.in1 (updateSeq S (λ_=>#[ib,ib]) >>= _) _ _ _;refine ajD ?_;refine ame mz rfl (hz:=by rw[ajT,<-vals3.length,ake];simp) ?_;rw[mB];refine ajI ⟨alO aki _,alV (aad (zn:=zn) (Y:=Y) (O:=O) j3 oz j2 au bs 1 b _ rfl ?_ (by simp) rfl) λr aQ a9=>?_⟩
 .exact⟨br,_,x1 dN rg mz mU mU,⟨pq oz go2.same rg _,go2.own,go2.bM⟩,BS.es rg,dG,qv,yt j2 aN,y2 j2 p'⟩
 .obtain⟨u,rfl,a9⟩:=a9
  exact a9
theorem Tv(aI:X.calm=true):jh X (.builtin "max") (λxs H Q=>∃(l:Addr)(b:Int)(bs:List Int)(O:a5),xs=[.ref l]/\dx X.K H l ((b::bs).map V.int)/\da O H/\
  ∀aq H' v,Go O aq H H'->da aq H'->Rep X.K X.mg aq H' (.int (i' b bs)) v->Q v H'):=by
 rintro zn s Y H xs us Q J bR ⟨l,b,bs,O,ex,au,cT,q⟩;subst ex;obtain⟨u,rfl,bG⟩:=vals1 bR;cases bG;refine bZ (aac J cT au (show X.A.in1.handled=none from J.ok.hd aI)) λu s3 aX=>?_
 obtain⟨e4,cZ,v,dN,g3,nv,EY,E5⟩:=aX;exact⟨v,cZ,dN,E5,q e4 cZ v g3 nv EY⟩
end
def Zc{K:aS}{mg:bq}:jL K mg (fun xs H Q=>∃(l:Addr)(b:Int)(bs:List Int)(O:a5),xs=[.ref l]/\dx K H l ((b::bs).map V.int)/\da O H/\
  ∀aq H' v,Go O aq H H'->da aq H'->Rep K mg aq H' (.int (i' b bs)) v->Q v H') uT:=λO Y S av H vs rs bT ai Q st aB h q=>by
 unfold uT at h;split at h
 .rename_i x
  obtain⟨v,rfl,ag⟩:=kB aB;split at h
  .rename_i ds e
   split at h
   .rename_i b bs az
    cases h;obtain⟨a,ys,rfl,l,bt⟩:=R.nO ag e;have:=tB bt az;subst this;exact⟨a,b,bs,O,rfl,l,st.cn,λaq H' v g d r=>q aq v H' g (st.go g d) r trivial⟩
   .cases h
  .cases h
 .cases h
end a0
namespace a0
open PySem PySem.Spec aF
variable[aF.a8]
def oR(t:aR->M Bool)(el:bo)(Y:aR):List D->M (List D)
 |[]=>pure []|.tup [gB,dh]::ds=>do
  let b <-t ((Y.set 0 (.v gB)).set 1 (.v dh))
  if b=true then do
   let r <-el ((Y.set 0 (.v gB)).set 1 (.v dh))
   let x <-r.dat
   let xs <-oR t el Y ds
   pure (x::xs)
  else oR t el Y ds
 |_=>bad
def sA(cap:List Nat)(it:fj)(t:aR->M Bool)(el:bo):bo:=λY=>do
 let ds <-it Y
 hY (ds.length<ajL)
 let xs <-oR t el (i0 2 cap Y) ds
 pure (.fr xs)
section
variable{K:aS}{mg:bq}{cap:List Nat}{it:fj}{t:aR->M Bool}{el:bo}
def EM(Y:aR):D->Option aR
 |.tup [gB,dh]=>some ((Y.set 0 (.v gB)).set 1 (.v dh))|_=>none
omit [aF.a8]in
theorem KG(Y:aR):∀ds,oR t el Y ds=lO (EM Y) t el ds
 |[]=>rfl|d::ds=>by
  cases d with
  |tup xs=>
   match xs with
   |[a,b]=>simp only[oR,lO,EM,KG Y ds]|[]=>rfl|[_]=>rfl|_::_::_::_=>rfl
  |_=>rfl
def TR:∀av H Q,fB K mg (sA cap it t el) av H Q->tX 2 cap (qC K mg it) (rd K 2 (j0 [0,1])) (la K mg t) (fB K mg el) av H Q:=by
 rintro av H Q ⟨O,Y,S,r,ai,st,h,q⟩;obtain⟨ds,S1,ae,h⟩:=M.inv h;obtain⟨_,bc,ah,h⟩:=M.inv h;obtain⟨hlen,rfl⟩:=q0 ah;obtain⟨xs,ik,bF,h⟩:=M.inv h;cases h;rw[KG]at bF;refine⟨O,Y,S,ds,S1,st,ae,λaO H1 cm ys g1 aV its bt=>BK aV hlen (λH' s=>(its H' s _).2 (ali bt.len)) (λk d oh aq H' d4 cB g' cq=>?_) bF λaq v H' g cq bu nn=>q aq v H' (g1.trans g) cq bu (nn.back g1.same)⟩;obtain⟨y,fz,bC⟩:=(bb.go g' (bt.dA (lD aO))).get d4;obtain⟨go,m5⟩:=(its H' g'.same k).1 (ajJ.mp fz).1;refine⟨go,λx aM R j' eP=>?_⟩;obtain⟨rfl,ex⟩:=m5 x aM j';rw[fz]at ex;cases ex;unfold EM at cB;split at cB
 .cases cB
  obtain⟨a,FU,gC,dP,l1,bG,rfl,acZ,jI,cx,rfl,ac0,rfl⟩:=bC;exact⟨a,[l1,jI],gC,dP,rfl,l1,[jI],rfl,jI,[],rfl,rfl,eP _ _ (Go.refl _ _) ((cq.val acZ).val ac0) (((m'.refl _).set rfl).set rfl)⟩
 .cases cB
end
section
variable{X:aT}{scope esc:Scope}{EN N:List Str}{cap:List Nat}{elt iter:Expr}{ifs:List Expr}{pos d8 p1 dB:Pos}{x y:Str}{it:fj}{t:aR->M Bool}{el:bo}{k:Nat}
def af1(S:lp esc scope EN N 2 cap)(aD:pU X (.Tuple [.Name x p1,.Name y dB] k d8) iter it)(ag:N[0]? = some x)(bg:N[1]? = some y)
  (i5:∀C aN s H,Loc (cA X scope N C aN s H).env.scope x/\(cA X scope N C aN s H).env.scope.names.lookup x=some .local) (rn:∀C aN s H,Loc (cA X scope N C aN s H).env.scope y/\(cA X scope N C aN s H).env.scope.names.lookup y=some .local)
  (bO:∀C aN s H,pT (cA X scope N C aN s H) ifs t) (iu:∀C aN s H,a' (cA X scope N C aN s H) elt el)
  (he:X.env.scope=esc:=by rfl) (hN:X.N=EN:=by rfl) (aI:X.calm=true:=by rfl) (aE:∀x,akv iter X.env x=pure x:=by intro _;rfl)
  (mD:∀C aN s H,(aj7 [.Name x p1,.Name y dB] (cA X scope N C aN s H).env).length=2/\(aj7 [.Name x p1,.Name y dB] (cA X scope N C aN s H).env).findIdx? (·.1)=none/\
   (aj7 [.Name x p1,.Name y dB] (cA X scope N C aN s H).env).map (·.2)=al7 (.Name x p1) (cA X scope N C aN s H).env::(aj7 [.Name y dB] (cA X scope N C aN s H).env).map (·.2)/\
   (aj7 [.Name y dB] (cA X scope N C aN s H).env).map (·.2)=al7 (.Name y dB) (cA X scope N C aN s H).env::(aj7 [] (cA X scope N C aN s H).env).map (·.2):=by intros;exact⟨rfl,rfl,rfl,rfl⟩) :
  a' X (.ListComp elt [⟨.Tuple [.Name x p1,.Name y dB] k d8,iter,ifs,0⟩] scope pos) (sA cap it t el):=
 ⟨eI (Ey (wi:=qC X.K X.mg it) (g:=rd X.K 2 (j0 [0,1])) (tt:=la X.K X.mg t) (te:=fB X.K X.mg el) S aD.un (λC aN s H=>wF aI (wG S.dZ ag (i5 C aN s H).1 (wG S.dZ bg (rn C aN s H).1 EE (mD C aN s H).2.2.2 (.inr (rn C aN s H).2)) (mD C aN s H).2.2.1 (.inr (i5 C aN s H).2)) (mD C aN s H).1 (mD C aN s H).2.1) (λC aN s H=>(bO C aN s H).un) (λC aN s H=>(iu C aN s H).un) he hN aI aE) TR⟩
end
end a0
namespace a0
open PySem PySem.Spec aF
def I5(N P:List Str)(sc:Scope):Bool:=decide (sc.kind=.function)&&!sc.isCoroutine&&!sc.isGenerator&&decide N.Nodup&&decide (N.take P.length=P)
&&P.all (λx=>decide (sc.names.lookup x=some .local)||decide (sc.names.lookup x=some .cell))&&sc.names.all λy=>decide (y.2≠.free)
def cW{N P:List Str}(h:I5 N P sc=true):cb N P sc:=by
 simp only[I5,ako,Bool.not_eq_true',decide_eq_true_eq,akE,Bool.or_eq_true]at h;exact⟨h.1.1.1.1.1.1,h.1.1.1.1.1.2,h.1.1.1.1.2,h.1.1.1.2,h.1.1.2,h.1.2,h.2⟩
def It(EN xs:List Str)(cap:List Nat):List Str:=xs++cap.filterMap λk=>EN[k]?
def Iu(esc scope:Scope)(EN N:List Str)(n:Nat)(cap:List Nat):Bool:=decide (scope.kind=.function)&&scope.names.all (λy=>decide (y.2≠.cell))&&scope.names.all (λy=>decide (y.2=.local->scope.names.lookup y.1=some .local))
&&scope.names.all (λy=>decide (y.2=.free->esc.names.lookup y.1=some .cell\/esc.names.lookup y.1=some .free))&&decide N.Nodup&&decide (N.length=n+cap.length)
&&(aj6 cap.length).all λj=>decide (N[n+j]? = EN[cap.getD j 0]?)&&(match N[n+j]? with|some x=>decide (scope.names.lookup x=some .free)|none=>true)
def uH{EN xs:List Str}(h:Iu esc scope EN (It EN xs cap) xs.length cap=true):lp esc scope EN (It EN xs cap) xs.length cap:=by
 simp only[Iu,ako,decide_eq_true_eq,akE]at h;obtain⟨⟨⟨⟨⟨⟨ae,ah⟩,bF⟩,dw⟩,eO⟩,fZ⟩,yF⟩:=h;refine⟨ae,ah,bF,dw,eO,fZ,λj aZ=>?_⟩;obtain⟨a,b⟩:=yF j (akM.mpr aZ);refine⟨a,λx ag=>?_⟩;rw[ag]at b;exact of_decide_eq_true b
def o3{N:List Str}(h:decide N.Nodup=true):N.Nodup:=of_decide_eq_true h
def tw{p:Nat->Prop}(h0:p 0)(ae:∀n,p (n+1)):∀n,p n:=λn=>by cases n with|zero=>exact h0|succ n=>exact ae n
variable[aF.a8]
def dy{P:ajY}{w:World}{K:aS}{mg:bq}{base:Heap}{x:Str}{st:Stmt}{ps N:List Str}{k:Nat}{m:bJ}{b:a3}(d:cu K mg x st ps)(sc:cb N ps (bH st))(hm:m=fnOf ps.length N.length b)
  (af:∀(f:Addr)(bw:Value)(A:aj4)(outer:List Env)(s:ajH)(H:aw)(E:gL),cK k (A.deeper (akO x (bH st) s.heap.objs.size f bw))->
   fS (ho eT P w K mg base N x (bH st) f bw A outer s H E).gO (fF st) b):b_ P w K mg base x ps (k+1) (b3 K mg m):=by
 subst hm;exact p8 d sc rfl rfl λf bw A outer s H E aB=>(af f bw A outer s H E aB).un
end a0
set_option maxHeartbeats 8000000
namespace fb
open PySem PySem.Spec aF a0
def top(i:Nat):Stmt:=PySem.Challenge.pw_oneslate_k35_a_glance.main.body.getD i (.Pass ⟨0,0,0,0⟩)
abbrev N1:Stmt:=top 2
def adS:cb ["thing"] ["thing"] (bH N1):=cW (by kernel_rfl)
abbrev NV:Stmt:=top 3
def adM:cb ["mask","keeper"] ["mask","keeper"] (bH NV):=cW (by kernel_rfl)
abbrev Oo:Stmt:=top 4
def aeg:cb ["keepers","mask","keeper"] ["keepers"] (bH Oo):=cW (by kernel_rfl)
abbrev N2:Stmt:=top 5
def adT:cb ["mask"] ["mask"] (bH N2):=cW (by kernel_rfl)
abbrev tR:Stmt:=top 8
def OC:cb ["grants","opening","grant"] ["grants","opening"] (bH tR):=cW (by kernel_rfl)
abbrev NK:Stmt:=top 9
def adB:cb ["grants"] ["grants"] (bH NK):=cW (by kernel_rfl)
abbrev NU:Stmt:=top 10
def adL:cb ["grants"] ["grants"] (bH NU):=cW (by kernel_rfl)
abbrev Ov:Stmt:=top 25
def aek:cb ["rule","keepers","part"] ["rule"] (bH Ov):=cW (by kernel_rfl)
abbrev Ou:Stmt:=top 27
def aej:cb ["rule"] ["rule"] (bH Ou):=cW (by kernel_rfl)
abbrev NS:Stmt:=top 28
def adJ:cb ["rule","mask"] ["rule","mask"] (bH NS):=cW (by kernel_rfl)
abbrev adh:Stmt:=top 34
abbrev Oq:Stmt:=top 35
def aeh:cb ["hall"] ["hall"] (bH Oq):=cW (by kernel_rfl)
abbrev Ot:Stmt:=top 36
def aei:cb ["hall"] ["hall"] (bH Ot):=cW (by kernel_rfl)
abbrev NX:Stmt:=top 41
def adO:cb ["thing"] ["thing"] (bH NX):=cW (by kernel_rfl)
abbrev NY:Stmt:=top 42
def adP:cb ["thing"] ["thing"] (bH NY):=cW (by kernel_rfl)
abbrev adg:Stmt:=top 43
abbrev NT:Stmt:=top 44
def adK:cb ["word"] ["word"] (bH NT):=cW (by kernel_rfl)
abbrev NZ:Stmt:=top 45
def adQ:cb ["kind","thing"] ["kind","thing"] (bH NZ):=cW (by kernel_rfl)
abbrev NW:Stmt:=top 46
def adN:cb ["thing","form"] ["thing"] (bH NW):=cW (by kernel_rfl)
abbrev NM:Stmt:=top 48
def adD:cb [] [] (bH NM):=cW (by kernel_rfl)
abbrev Ox:Stmt:=top 50
def aem:cb ["slate"] ["slate"] (bH Ox):=cW (by kernel_rfl)
abbrev N0:Stmt:=top 51
def adR:cb ["slate"] ["slate"] (bH N0):=cW (by kernel_rfl)
abbrev NN:Stmt:=top 52
def adE:cb ["slate","name","cell"] ["slate","name"] (bH NN):=cW (by kernel_rfl)
abbrev rT:Stmt:=top 53
def OD:cb ["slate","name","n","cells"] ["slate","name","n"] (bH rT):=cW (by kernel_rfl)
abbrev NQ:Stmt:=top 54
def adH:cb ["slate","asker","doing"] ["slate","asker"] (bH NQ):=cW (by kernel_rfl)
abbrev rU:Stmt:=top 55
def OE:cb ["slate","asker","number","answer","doings"] ["slate","asker","number","answer"] (bH rU):=cW (by kernel_rfl)
abbrev NP:Stmt:=top 60
def adG:cb ["slate","asker","deed"] ["slate","asker","deed"] (bH NP):=cW (by kernel_rfl)
abbrev NO:Stmt:=top 61
def adF:cb ["slate","asker","deed","total"] ["slate","asker","deed"] (bH NO):=cW (by kernel_rfl)
abbrev ade:Stmt:=top 62
abbrev adf:Stmt:=top 65
abbrev ada:Stmt:=top 66
abbrev ac8:Stmt:=top 67
abbrev adb:Stmt:=top 68
abbrev ac9:Stmt:=top 69
abbrev ac7:Stmt:=top 70
abbrev Ow:Stmt:=top 72
def ael:cb ["slate","asker","deed","doer"] ["slate","asker","deed"] (bH Ow):=cW (by kernel_rfl)
abbrev NR:Stmt:=top 73
def adI:cb ["slate","asker","number","deed","made"] ["slate","asker","number","deed"] (bH NR):=cW (by kernel_rfl)
abbrev NL:Stmt:=top 75
def adC:cb ["asker","keeper","epoch","stamp"] ["asker","keeper","epoch","stamp"] (bH NL):=cW (by kernel_rfl)
abbrev Oy:Stmt:=top 76
def aen:cb ["asker","keeper","epoch","stamp","load"] ["asker","keeper","epoch","stamp","load"] (bH Oy):=cW (by kernel_rfl)
abbrev Nt:Stmt:=inClass (top 78) 0
def adj:cb ["self","me","hall"] ["self","me","hall"] (bH Nt):=cW (by kernel_rfl)
abbrev E9:Stmt:=inClass (top 78) 1
def adl:cb ["self","deed"] ["self","deed"] (bH E9):=cW (by kernel_rfl)
abbrev Nv:Stmt:=inClass (top 78) 2
def adm:cb ["self"] ["self"] (bH Nv):=cW (by kernel_rfl)
abbrev Nz:Stmt:=inClass (top 78) 3
def adq:cb ["self","letter"] ["self","letter"] (bH Nz):=cW (by kernel_rfl)
abbrev NF:Stmt:=inClass (top 78) 4
def adw:cb ["self"] ["self"] (bH NF):=cW (by kernel_rfl)
abbrev ND:Stmt:=inClass (top 78) 5
def adv:cb ["self"] ["self"] (bH ND):=cW (by kernel_rfl)
abbrev NJ:Stmt:=inClass (top 78) 6
def adA:cb ["self"] ["self"] (bH NJ):=cW (by kernel_rfl)
abbrev NI:Stmt:=inClass (top 78) 7
def adz:cb ["self"] ["self"] (bH NI):=cW (by kernel_rfl)
abbrev NG:Stmt:=inClass (top 78) 8
def adx:cb ["self"] ["self"] (bH NG):=cW (by kernel_rfl)
abbrev NC:Stmt:=inClass (top 78) 10
def adu:cb ["self","letter"] ["self","letter"] (bH NC):=cW (by kernel_rfl)
abbrev Nu:Stmt:=inClass (top 78) 11
def adk:cb ["self"] ["self"] (bH Nu):=cW (by kernel_rfl)
abbrev NA:Stmt:=inClass (top 78) 12
def ads:cb ["self","letter"] ["self","letter"] (bH NA):=cW (by kernel_rfl)
abbrev Ny:Stmt:=inClass (top 78) 13
def adp:cb ["self","pair","load"] ["self","pair"] (bH Ny):=cW (by kernel_rfl)
abbrev NH:Stmt:=inClass (top 78) 14
def ady:cb ["self","slate"] ["self","slate"] (bH NH):=cW (by kernel_rfl)
abbrev NB:Stmt:=inClass (top 78) 15
def adt:cb ["self","letter","shut"] ["self","letter"] (bH NB):=cW (by kernel_rfl)
abbrev Nw:Stmt:=inClass (top 78) 16
def adn:cb ["self","slate","doing"] ["self"] (bH Nw):=cW (by kernel_rfl)
abbrev ac6:Stmt:=inClass (top 78) 17
abbrev ac5:Stmt:=inClass (top 78) 18
abbrev Nx:Stmt:=inClass (top 78) 19
def ado:cb ["self","outcome"] ["self","outcome"] (bH Nx):=cW (by kernel_rfl)
abbrev N5:Stmt:=top 80
def adX:cb ["script","k"] ["script","k"] (bH N5):=cW (by kernel_rfl)
abbrev Oh:Stmt:=top 81
def aeb:cb ["found","due","one","other"] ["found","due"] (bH Oh):=cW (by kernel_rfl)
abbrev Ol:Stmt:=top 82
def aee:cb ["rule","shift"] ["rule","shift"] (bH Ol):=cW (by kernel_rfl)
abbrev N':Stmt:=top 83
def ad3:cb ["cell","three","rows","columns","some","asking","keeping"] ["cell"] (bH N'):=cW (by kernel_rfl)
abbrev Of:Stmt:=top 84
def ad9:cb ["rule","found","part"] ["rule"] (bH Of):=cW (by kernel_rfl)
abbrev Od:Stmt:=top 85
def ad7:cb ["hall","there"] ["hall"] (bH Od):=cW (by kernel_rfl)
abbrev N8:Stmt:=top 86
def ad0:cb ["rule","keepers"] ["rule","keepers"] (bH N8):=cW (by kernel_rfl)
abbrev Oe:Stmt:=top 87
def ad8:cb ["cell","size","at","name","k"] ["cell"] (bH Oe):=cW (by kernel_rfl)
abbrev N6:Stmt:=top 88
def adY:cb ["cell","seed","number"] ["cell","seed"] (bH N6):=cW (by kernel_rfl)
abbrev N7:Stmt:=top 89
def adZ:cb ["slate","me","number","deed","cells","doings","lease","shut","later","answer","have","now","rest"] ["slate","me","number","deed"] (bH N7):=cW (by kernel_rfl)
abbrev Og:Stmt:=top 90
def aea:cb ["books","keeper","epoch"] ["books","keeper","epoch"] (bH Og):=cW (by kernel_rfl)
abbrev Oa:Stmt:=top 91
def ad4:cb ["books","letter","word","asker","keeper","epoch","stamp","load","promised","kept","slate"] ["books","letter"] (bH Oa):=cW (by kernel_rfl)
abbrev N3:Stmt:=top 92
def adV:cb ["me","place","stamp"] ["me","place","stamp"] (bH N3):=cW (by kernel_rfl)
abbrev N4:Stmt:=top 93
def adW:cb ["grants","opening","best","slate","keeper","kept","told"] ["grants","opening"] (bH N4):=cW (by kernel_rfl)
abbrev Oj:Stmt:=top 94
def aed:cb ["me","place","stamp","number","deed","grants","best","slate","load"] ["me","place","stamp","number","deed","grants"] (bH Oj):=cW (by kernel_rfl)
abbrev N9:Stmt:=top 95
def ad1:cb ["books","place","ghost","number","deed","cell","members","top","asked","told","grants","ask","answer","tell"] ["books","place","ghost","number","deed","cell"] (bH N9):=cW (by kernel_rfl)
abbrev Ob:Stmt:=top 96
def ad5:cb ["cell","keepers"] ["cell"] (bH Ob):=cW (by kernel_rfl)
abbrev Oi:Stmt:=top 97
def aec:cb ["one","world","found"] ["one","world"] (bH Oi):=cW (by kernel_rfl)
abbrev N_:Stmt:=top 98
def ad2:cb ["one","world","answer","letters","due","keepers","hall","best","slate","alike"] ["one","world","answer"] (bH N_):=cW (by kernel_rfl)
abbrev Oc:Stmt:=top 99
def ad6:cb ["one","world","answer","letters"] ["one","world","answer"] (bH Oc):=cW (by kernel_rfl)
abbrev Om:Stmt:=top 100
def aef:cb ["one","world","cell","seed","place","ghost","letters","k","letter","tells","answer"] ["one","world","cell","seed"] (bH Om):=cW (by kernel_rfl)
abbrev wZ:Stmt:=top 101
def adU:cb ["script","hall","me","seed","place","world","one","cell"] ["script"] (bH wZ):=cW (by kernel_rfl)
abbrev zI:List Str:=["me","epoch","hall","opening","over_known","greatest_round","last_stamp","wishes","deed","standing","last_outcome","grants","kept_mask","told_slate"]
abbrev s8:List (Str×D):=[("put",.tup [(.str "name"),(.str "number")]),("add",.tup [(.str "name"),(.str "number")]),("swap",.tup [(.str "name"),(.str "number"),(.str "number")]),("take",.tup [(.str "fence")]),("renew",.tup [(.str "fence")]),("free",.tup [(.str "fence")]),("sure",.tup [(.str "fence"),(.str "name"),(.str "number")]),("move",.tup [(.str "hall")]),("end",.tup [])]
abbrev r1:List (Str×Str):=[("put","do_put"),("add","do_add"),("swap","do_swap"),("take","do_take"),("renew","do_renew"),("free","do_free"),("sure","do_sure"),("move","do_move"),("end","do_end")]
structure Txt[aF.a8](P:ajY)(w:World)(K:aS)(mg:bq)(base:Heap):Prop where
 UN:cu K mg "is_whole" N1 ["thing"]
 UD:cu K mg "has_keeper" NV ["mask","keeper"]
 U7:cu K mg "mask_of" Oo ["keepers"]
 UO:cu K mg "keepers_of" N2 ["mask"]
 UE:cu K mg "highest" tR ["grants","opening"]
 Uk:cu K mg "all_alike" NK ["grants"]
 UC:cu K mg "granters" NU ["grants"]
 IC:cu K mg "namings" Ov ["rule"]
 U_:cu K mg "named" Ou ["rule"]
 Iw:cu K mg "fills" NS ["rule","mask"]
 UI:cu K mg "is_hall" adh ["thing"]
 U8:cu K mg "members_mask" Oq ["hall"]
 U9:cu K mg "members_of" Ot ["hall"]
 UJ:cu K mg "is_name" NX ["thing"]
 UK:cu K mg "is_number" NY ["thing"]
 UH:cu K mg "is_fence" adg ["thing"]
 Uz:cu K mg "form_of" NT ["word"]
 UL:cu K mg "is_part" NZ ["kind","thing"]
 UG:cu K mg "is_deed" NW ["thing"]
 Um:cu K mg "blank" NM []
 Vb:cu K mg "shut_of" Ox ["slate"]
 UM:cu K mg "is_shut" N0 ["slate"]
 Un:cu K mg "cell_of" NN ["slate","name"]
 Vd:cu K mg "with_cell" rT ["slate","name","n"]
 Ux:cu K mg "doing_of" NQ ["slate","asker"]
 Ve:cu K mg "with_doing" rU ["slate","asker","number","answer"]
 Us:cu K mg "do_put" NP ["slate","asker","deed"]
 Uo:cu K mg "do_add" NO ["slate","asker","deed"]
 Uv:cu K mg "do_swap" ade ["slate","asker","deed"]
 Uw:cu K mg "do_take" adf ["slate","asker","deed"]
 Ut:cu K mg "do_renew" ada ["slate","asker","deed"]
 Uq:cu K mg "do_free" ac8 ["slate","asker","deed"]
 Uu:cu K mg "do_sure" adb ["slate","asker","deed"]
 Ur:cu K mg "do_move" ac9 ["slate","asker","deed"]
 Up:cu K mg "do_end" ac7 ["slate","asker","deed"]
 U':cu K mg "outcome_of" Ow ["slate","asker","deed"]
 Uy:cu K mg "done_on" NR ["slate","asker","number","deed"]
 Ul:cu K mg "ask_letter" NL ["asker","keeper","epoch","stamp"]
 Vc:cu K mg "tell_letter" Oy ["asker","keeper","epoch","stamp","load"]
 T3:gR K mg "Asker" "__init__" "Asker.__init__" Nt ["self","me","hall"]
 BN:xq K mg "Asker" "begin" "Asker.begin" E9 ["self","deed"]
 T5:gR K mg "Asker" "bell" "Asker.bell" Nv ["self"]
 T_:gR K mg "Asker" "hear" "Asker.hear" Nz ["self","letter"]
 Ue:gR K mg "Asker" "outcome" "Asker.outcome" NF ["self"]
 Ud:gR K mg "Asker" "number" "Asker.number" ND ["self"]
 Uj:gR K mg "Asker" "stand" "Asker.stand" NJ ["self"]
 Ui:gR K mg "Asker" "stamp" "Asker.stamp" NI ["self"]
 Ug:gR K mg "Asker" "place" "Asker.place" NG ["self"]
 Ub:gR K mg "Asker" "is_for_now" "Asker.is_for_now" NC ["self","letter"]
 T4:gR K mg "Asker" "ask_members" "Asker.ask_members" Nu ["self"]
 T':gR K mg "Asker" "hear_grant" "Asker.hear_grant" NA ["self","letter"]
 T8:gR K mg "Asker" "go_on" "Asker.go_on" Ny ["self","pair"]
 Uh:gR K mg "Asker" "sees_at_once" "Asker.sees_at_once" NH ["self","slate"]
 Ua:gR K mg "Asker" "hear_kept" "Asker.hear_kept" NB ["self","letter"]
 T6:gR K mg "Asker" "end_where_told" "Asker.end_where_told" Nw ["self"]
 Uc:gR K mg "Asker" "learn_over" "Asker.learn_over" ac6 ["self"]
 T9:gR K mg "Asker" "go_over" "Asker.go_over" ac5 ["self","hall"]
 T7:gR K mg "Asker" "end_wish" "Asker.end_wish" Nx ["self","outcome"]
 UR:cu K mg "_law_cell_at" N5 ["script","k"]
 IA:cu K mg "_law_same" Oh ["found","due"]
 IB:cu K mg "_law_turned" Ol ["rule","shift"]
 UX:cu K mg "_law_hall" N' ["cell"]
 Iz:cu K mg "_law_named" Of ["rule"]
 U1:cu K mg "_law_members" Od ["hall"]
 Iy:cu K mg "_law_filled" N8 ["rule","keepers"]
 U2:cu K mg "_law_name" Oe ["cell"]
 US:cu K mg "_law_deed" N6 ["cell","seed"]
 UT:cu K mg "_law_done" N7 ["slate","me","number","deed"]
 U3:cu K mg "_law_page" Og ["books","keeper","epoch"]
 UY:cu K mg "_law_heard" Oa ["books","letter"]
 UP:cu K mg "_law_asks" N3 ["me","place","stamp"]
 UQ:cu K mg "_law_best" N4 ["grants","opening"]
 U5:cu K mg "_law_tells" Oj ["me","place","stamp","number","deed","grants"]
 UU:cu K mg "_law_ghost" N9 ["books","place","ghost","number","deed","cell"]
 UZ:cu K mg "_law_living" Ob ["cell"]
 U4:cu K mg "_law_stands" Oi ["one","world"]
 UW:cu K mg "_law_granted" N_ ["one","world","answer"]
 U0:cu K mg "_law_marked" Oc ["one","world","answer"]
 U6:cu K mg "_law_wish" Om ["one","world","cell","seed"]
 BO:cu K mg "law" wZ ["script"]
 ov:pE K mg "Asker" zI
 Cu:∃u,mg "SMALL_LETTERS"=some u/\RelV (.str "abcdefghijklmnopqrstuvwxyz") u
 Ct:∃u,mg "MOST_LETTERS"=some u/\RelV (.int 8) u
 Af:ue P w K mg "DOERS" r1
 Du:KTab P w K mg "FORMS" s8
 DF:∃c pN,ng K c pN (qk "highest")/\∀(f:Addr)(bK:Value)(dj:Option Addr)(cI doc pm:Value)(an:Option Addr)(bw cw:Value)(fJ:Array (Option Value)),mg "highest"=some (.ref f)->K.lookup f=some ⟨bK,dj,.func (alr "highest" "highest" (iq tR) (fF tR) (bH tR) .none cI doc pm an bw cw),fJ⟩->bw=.ref c
 DL:∃c pN,ng K c pN (qk "with_cell")/\∀(f:Addr)(bK:Value)(dj:Option Addr)(cI doc pm:Value)(an:Option Addr)(bw cw:Value)(fJ:Array (Option Value)),mg "with_cell"=some (.ref f)->K.lookup f=some ⟨bK,dj,.func (alr "with_cell" "with_cell" (iq rT) (fF rT) (bH rT) .none cI doc pm an bw cw),fJ⟩->bw=.ref c
 DM:∃c pN,ng K c pN (qk "with_doing")/\∀(f:Addr)(bK:Value)(dj:Option Addr)(cI doc pm:Value)(an:Option Addr)(bw cw:Value)(fJ:Array (Option Value)),mg "with_doing"=some (.ref f)->K.lookup f=some ⟨bK,dj,.func (alr "with_doing" "with_doing" (iq rU) (fF rU) (bH rU) .none cI doc pm an bw cw),fJ⟩->bw=.ref c
 bm:kK base mg
 B:FY mg
 kt:ug K
section
variable[aF.a8]{P:ajY}{w:World}{K:aS}{mg:bq}{base:Heap}
def RZ:a3:=
  (bE (lF (cE hZ (U (I 0) (U (aa (.ty "int")) aj))) (x9 (cE hZ (U (I 0) (U (aa (.ty "bool")) aj))))))
def tf:bJ:=fnOf 1 1 RZ
def G0:a3:=
  (bE (ab oEq (ab Ed (ab Ef (I 0) (I 1)) (aa (.int 1))) (aa (.int 1))))
def qn:bJ:=fnOf 2 2 G0
def DJ:a3:=
  (b2 1 (ab tC (I 1) (ab Ee (aa (.int 1)) (I 2))))
def HA:a3:=
  (bE (I 1))
def Hz:a3:=
  b1 (ou 2 (Di (I 0)) DJ) HA
def Hy:a3:=
  b1 (b2 1 (aa (.int 0))) Hz
def tq:bJ:=fnOf 1 3 Hy
def G4:a3:=
  (bE (eE 1 [0] (j5 (U (bQ oBits (I 0)) aj)) (aY (bA qn (U (I 1) (U (I 0) aj)))) (I 0)))
def zu:bJ:=fnOf 1 1 G4
def G2:a3:=
  (bE (bB (U (ab aL (I 2) (aa (.int 1))) (U (ab aL (I 2) (aa (.int 2))) aj))))
def G1:a3:=
  b1 (dg (aY (ab oEq (ab aL (I 2) (aa (.int 1))) (bB (U (aa (.int 0)) (U (aa (.int 0)) aj))))) (bE (bB (U (ab aL (I 2) (aa (.int 1))) (U (I 1) aj)))) cv) G2
def Bk:a3:=
  b1 (b2 2 (x8 (fnOf 1 1 (bE (ab aL (I 0) (aa (.int 1))))) (I 0))) G1
def zt:bJ:=fnOf 2 3 Bk
def W8(T:Txt P w K mg base):b_ P w K mg base "highest" ["grants","opening"] 4 (b3 K mg zt):=by
 show b_ P w K mg base _ _ _ (b3 K mg (fnOf 2 3 Bk));obtain⟨c,pN,L,aI⟩:=T.DF;refine CO (k:=3) T.UE aI OC rfl rfl λf A outer s H E aB=>?_
 have cC:=aB.units;refine fS.un ?_;refine qK ?_ (qK ?_ (r' ?_))
 .exact(FK (i:=2) OC.dZ rfl (.inl rfl) (af6 (k:=0) (N:=["one"]) (p1:="one") rfl T.B.max (aB.mono (by omega)) L T.bm rfl rfl ⟨rfl,rfl,rfl,by decide +kernel,rfl,by decide +kernel,by decide +kernel⟩ (λ_ _ _ _=>rfl) (λ_ _ _ _ _ _=>(iE ix ip (e3 0) hv)) (e3 0)))
 .exact(FJ (jf (Ep cC) Bb (iE ix ip (e3 2) hv) (qI (gi hv (gi hv lg)))) (r' (t6 (qI (gi (iE ix ip (e3 2) hv) (gi (e3 1) lg))))) FL)
 .exact(t6 (qI (gi (iE ix ip (e3 2) hv) (gi (iE ix ip (e3 2) hv) lg))))
def RK:a3:=
  (bE (cE sI (U (eE 1 [0] (iP (I 0)) gv (ab oEq (ab aL (I 0) (aa (.int 1))) (ab aL (ab aL (I 1) (aa (.int 0))) (aa (.int 1))))) aj)))
def zr:bJ:=fnOf 1 1 RK
def GZ:a3:=
  (bE (bA tq (U (eE 1 [] (iP (I 0)) gv (ab aL (I 0) (aa (.int 0)))) aj)))
def oY:bJ:=fnOf 1 1 GZ
def DK(self:bJ):a3:=
  (mb 1 w' (U (bA self (U (I 2) aj)) aj))
def HG(self:bJ):a3:=
  (x_ 1)
def HF(self:bJ):a3:=
  b1 (ou 2 (iQ (ab aL (I 0) (aa (.int 1)))) (DK self)) (HG self)
def HE(self:bJ):a3:=
  b1 (kj 1 (dJ aj)) (HF self)
def xX(self:bJ):a3:=
  b1 (dg (aY (bA tf (U (I 0) aj))) (bE (dJ (U (I 0) aj))) cv) (HE self)
def qp:Nat->bJ
 |0=>λ_=>bad
 |n+1=>fnOf 1 3 (xX (qp n))
def HD:a3:=
  (bE (bA tq (U (bA (qp 12) (U (I 0) aj)) aj)))
def vV:bJ:=fnOf 1 1 HD
def GY(self:bJ):a3:=
  (bE (ab o7 (cE gq (U (eE 1 [1] (iQ (ab aL (I 0) (aa (.int 1)))) (aY (bA self (U (I 0) (U (I 1) aj)))) (I 0)) aj)) (ab aL (I 0) (aa (.int 0)))))
def xS(self:bJ):a3:=
  b1 (dg (aY (bA tf (U (I 0) aj))) (bE (bA qn (U (I 1) (U (I 0) aj)))) cv) (GY self)
def kr:Nat->bJ
 |0=>λ_=>bad
 |n+1=>fnOf 2 2 (xS (kr n))
def LR:bJ:=λ_=>bad
def W'(T:Txt P w K mg base):b_ P w K mg base "is_hall" ["thing"] 1 (b3 K mg LR):=T.UI.none (by rintro vs H Q E ⟨O,ds,r,S,_,_,_,h,_⟩;cases h)
def HB:a3:=
  (bE (ab tC (bA vV (U (ab aL (I 0) (aa (.int 0))) aj)) (bA vV (U (ab aL (I 0) (aa (.int 1))) aj))))
def zv:bJ:=fnOf 1 1 HB
def HC:a3:=
  (bE (bA zu (U (bA zv (U (I 0) aj)) aj)))
def nS:bJ:=fnOf 1 1 HC
def RT:a3:=
  (bE (cE sI (U (eE 1 [] (Kg (I 0)) gv (ab (tE false) (I 0) (aa (.str "abcdefghijklmnopqrstuvwxyz")))) aj)))
def RS:a3:=
  b1 (dg (iC (gg (aY (cE hZ (U (I 0) (U (aa (.ty "str")) aj))))) (gg (aY (ki oLe oLe (aa (.int 1)) (cE uS (U (I 0) aj)) (aa (.int 8)))))) (bE (aa (.aC false))) cv) RT
def LS:bJ:=fnOf 1 1 RS
def RU:a3:=
  (bE (lF (bA tf (U (I 0) aj)) (ab oLt (cE uP (U (I 0) aj)) (ab nZ (aa (.int 10)) (aa (.int 60))))))
def LU:bJ:=fnOf 1 1 RU
def LQ:bJ:=λ_=>bad
def W_(T:Txt P w K mg base):b_ P w K mg base "is_fence" ["thing"] 1 (b3 K mg LQ):=T.UH.none (by rintro vs H Q E ⟨O,ds,r,S,_,_,_,h,_⟩;cases h)
def RN:a3:=
  (bE (BB s8 (I 0)))
def LO:bJ:=fnOf 1 1 RN
def RY:a3:=
  (bE (bA LR (U (I 1) aj)))
def RX:a3:=
  b1 (dg (aY (ab oEq (I 0) (aa (.str "fence")))) (bE (bA LQ (U (I 1) aj))) cv) RY
def RW:a3:=
  b1 (dg (aY (ab oEq (I 0) (aa (.str "number")))) (bE (bA LU (U (I 1) aj))) cv) RX
def RV:a3:=
  b1 (dg (aY (ab oEq (I 0) (aa (.str "name")))) (bE (bA LS (U (I 1) aj))) cv) RW
def LV:bJ:=fnOf 2 2 RV
def RR:a3:=
  (bE (cE sI (U (uC [] (U (I 1) (U (Bz (I 0) (sD (aa (.int 1))) By) aj)) gv (bA LV (U (I 0) (U (I 1) aj)))) aj)))
def RQ:a3:=
  b1 (dg (iC (aY (ab ky (I 1) (aa (.aG)))) (aY (ab ef (cE gq (U (I 0) aj)) (ab f7 (cE gq (U (I 1) aj)) (aa (.int 1)))))) (bE (aa (.aC false))) cv) RR
def RP:a3:=
  b1 (b2 1 (bA LO (U (ab aL (I 0) (aa (.int 0))) aj))) RQ
def RO:a3:=
  b1 (dg (iC (gg (aY (cE hZ (U (I 0) (U (aa (.ty "tuple")) aj))))) (iC (aY (ab oEq (cE gq (U (I 0) aj)) (aa (.int 0)))) (gg (aY (cE hZ (U (ab aL (I 0) (aa (.int 0))) (U (aa (.ty "str")) aj))))))) (bE (aa (.aC false))) cv) RP
def LP:bJ:=fnOf 1 2 RO
def RM:a3:=
  (bE (bB (U (bB aj) (U (bB aj) (U (bB (U (aa (.int 0)) (U (aa (.aG)) aj))) (U (aa (.aG)) aj))))))
def LG:bJ:=fnOf 0 0 RM
def HH:a3:=
  (bE (ab aL (I 0) (aa (.int 3))))
def rE:bJ:=fnOf 1 1 HH
def G3:a3:=
  (bE (ab nY (bA rE (U (I 0) aj)) (aa (.aG))))
def qo:bJ:=fnOf 1 1 G3
def ze:a3:=
  (dg (aY (ab oEq (ab aL (I 2) (aa (.int 0))) (I 1))) (bE (ab aL (I 2) (aa (.int 1)))) cv)
def GR:a3:=
  (bE (aa (.int 0)))
def GQ:a3:=
  b1 (ou 2 (iQ (ab aL (I 0) (aa (.int 0)))) ze) GR
def vL:bJ:=fnOf 2 3 GQ
def HJ:a3:=
  (bE (bB (U (cE mq (U (qY iz (fnOf 1 1 (bE (ab aL (I 0) (aa (.int 0))))) (I 3)) aj)) (U (ab aL (I 0) (aa (.int 1))) (U (ab aL (I 0) (aa (.int 2))) (U (ab aL (I 0) (aa (.int 3))) aj))))))
def HI:a3:=
  b1 (dg (aY (ab ef (I 2) (aa (.int 0)))) (mb 3 iD (U (bB (U (I 1) (U (I 2) aj))) aj)) cv) HJ
def Bq:a3:=
  b1 (kj 3 (eE 1 [1] (iQ (ab aL (I 0) (aa (.int 0)))) (aY (ab ef (ab aL (I 0) (aa (.int 0))) (I 1))) (I 0))) HI
def vW:bJ:=fnOf 3 4 Bq
def XJ(T:Txt P w K mg base):b_ P w K mg base "with_cell" ["slate","name","n"] 4 (b3 K mg vW):=by
 show b_ P w K mg base _ _ _ (b3 K mg (fnOf 3 4 Bq));obtain⟨c,pN,L,aI⟩:=T.DL;refine CO (k:=3) T.Vd aI OD rfl rfl λf A outer s H E aB=>?_
 have cC:=aB.units;refine fS.un ?_;refine qK ?_ (qK ?_ (r' ?_))
 .exact(FI (i:=3) (esc:=(bH rT)) (EN:=["slate","name","n","cells"]) (N:=["cell","name"]) (n:=1) (cap:=[1]) ⟨rfl,by decide +kernel,by decide +kernel,by decide +kernel,by decide +kernel,rfl,by decide +kernel⟩ OD.dZ rfl rfl (by decide) (FE (iE ix ip (e3 0) hv)) rfl (λ_ _ _ _=>⟨alz rfl,rfl⟩) (λ_ _ _ _=>(FF (jf (zQ cC) xR (iE ix ip (e3 0) hv) (e3 1)))) (λ_ _ _ _=>(e3 0)))
 .exact(FJ (jf (zQ cC) xR (e3 2) hv) (r' (Ao (i:=3) al0 al1 v5 zk (gi (qI (gi (e3 1) (gi (e3 2) lg))) lg) rfl (.inl rfl))) FL)
 .exact(t6 (qI (gi (An BD Dt rfl T.B.tuple' x5 (gi (PC (k:=0) (N:=["cell"]) (p1:="cell") K2 rfl T.B.sorted (aB.mono (by omega)) L T.bm rfl rfl ⟨rfl,rfl,rfl,by decide +kernel,rfl,by decide +kernel,by decide +kernel⟩ (λ_ _ _ _=>rfl) (λ_ _ _ _ _ _=>(iE ix ip (e3 0) hv)) (e3 3)) lg)) (gi (iE ix ip (e3 0) hv) (gi (iE ix ip (e3 0) hv) (gi (iE ix ip (e3 0) hv) lg))))))
def zf:a3:=
  (dg (aY (ab oEq (ab aL (I 2) (aa (.int 0))) (I 1))) (bE (I 2)) cv)
def GX:a3:=
  (bE (bB (U (I 1) (U (aa (.int 0)) (U (aa (.aG)) aj)))))
def GW:a3:=
  b1 (ou 2 (iQ (ab aL (I 0) (aa (.int 1)))) zf) GX
def vO:bJ:=fnOf 2 3 GW
def HL:a3:=
  (bE (bB (U (ab aL (I 0) (aa (.int 0))) (U (cE mq (U (qY f6 (fnOf 1 1 (bE (ab aL (I 0) (aa (.int 0))))) (I 4)) aj)) (U (ab aL (I 0) (aa (.int 2))) (U (ab aL (I 0) (aa (.int 3))) aj))))))
def HK:a3:=
  b1 (mb 4 iD (U (bB (U (I 1) (U (I 2) (U (I 3) aj)))) aj)) HL
def Br:a3:=
  b1 (kj 4 (eE 1 [1] (iQ (ab aL (I 0) (aa (.int 1)))) (aY (ab ef (ab aL (I 0) (aa (.int 0))) (I 1))) (I 0))) HK
def zw:bJ:=fnOf 4 5 Br
def XK(T:Txt P w K mg base):b_ P w K mg base "with_doing" ["slate","asker","number","answer"] 4 (b3 K mg zw):=by
 show b_ P w K mg base _ _ _ (b3 K mg (fnOf 4 5 Br));obtain⟨c,pN,L,aI⟩:=T.DM;refine CO (k:=3) T.Ve aI OE rfl rfl λf A outer s H E aB=>?_
 have cC:=aB.units;refine fS.un ?_;refine qK ?_ (qK ?_ (r' ?_))
 .exact(FI (i:=4) (esc:=(bH rU)) (EN:=["slate","asker","number","answer","doings"]) (N:=["doing","asker"]) (n:=1) (cap:=[1]) ⟨rfl,by decide +kernel,by decide +kernel,by decide +kernel,by decide +kernel,rfl,by decide +kernel⟩ OE.dZ rfl rfl (by decide) (FE (iE ix ip (e3 0) hv)) rfl (λ_ _ _ _=>⟨alz rfl,rfl⟩) (λ_ _ _ _=>(FF (jf (zQ cC) xR (iE ix ip (e3 0) hv) (e3 1)))) (λ_ _ _ _=>(e3 0)))
 .exact(Ao (i:=4) al0 al1 v5 zk (gi (qI (gi (e3 1) (gi (e3 2) (gi (e3 3) lg)))) lg) rfl (.inl rfl))
 .exact(t6 (qI (gi (iE ix ip (e3 0) hv) (gi (An BD Dt rfl T.B.tuple' x5 (gi (PC (k:=0) (N:=["doing"]) (p1:="doing") K1 rfl T.B.sorted (aB.mono (by omega)) L T.bm rfl rfl ⟨rfl,rfl,rfl,by decide +kernel,rfl,by decide +kernel,by decide +kernel⟩ (λ_ _ _ _=>rfl) (λ_ _ _ _ _ _=>(iE ix ip (e3 0) hv)) (e3 4)) lg)) (gi (iE ix ip (e3 0) hv) (gi (iE ix ip (e3 0) hv) lg))))))
def GV:a3:=
  (bE (bB (U (bA vW (U (I 0) (U (ab aL (I 2) (aa (.int 1))) (U (ab aL (I 2) (aa (.int 2))) aj)))) (U (bA vL (U (I 0) (U (ab aL (I 2) (aa (.int 1))) aj))) aj))))
def vN:bJ:=fnOf 3 3 GV
def GU:a3:=
  (bE (bB (U (bA vW (U (I 0) (U (ab aL (I 2) (aa (.int 1))) (U (I 3) aj)))) (U (I 3) aj))))
def GS:a3:=
  b1 (b2 3 (ab f7 (bA vL (U (I 0) (U (ab aL (I 2) (aa (.int 1))) aj))) (ab aL (I 2) (aa (.int 2))))) GU
def vM:bJ:=fnOf 3 4 GS
def LM:bJ:=λ_=>bad
def JL(T:Txt P w K mg base):b_ P w K mg base "do_swap" ["slate","asker","deed"] 1 (b3 K mg LM):=T.Uv.none (by rintro vs H Q E ⟨O,ds,r,S,_,_,_,h,_⟩;cases h)
def LN:bJ:=λ_=>bad
def JM(T:Txt P w K mg base):b_ P w K mg base "do_take" ["slate","asker","deed"] 1 (b3 K mg LN):=T.Uw.none (by rintro vs H Q E ⟨O,ds,r,S,_,_,_,h,_⟩;cases h)
def LK:bJ:=λ_=>bad
def JJ(T:Txt P w K mg base):b_ P w K mg base "do_renew" ["slate","asker","deed"] 1 (b3 K mg LK):=T.Ut.none (by rintro vs H Q E ⟨O,ds,r,S,_,_,_,h,_⟩;cases h)
def LI:bJ:=λ_=>bad
def JG(T:Txt P w K mg base):b_ P w K mg base "do_free" ["slate","asker","deed"] 1 (b3 K mg LI):=T.Uq.none (by rintro vs H Q E ⟨O,ds,r,S,_,_,_,h,_⟩;cases h)
def LL:bJ:=λ_=>bad
def JK(T:Txt P w K mg base):b_ P w K mg base "do_sure" ["slate","asker","deed"] 1 (b3 K mg LL):=T.Uu.none (by rintro vs H Q E ⟨O,ds,r,S,_,_,_,h,_⟩;cases h)
def LJ:bJ:=λ_=>bad
def JH(T:Txt P w K mg base):b_ P w K mg base "do_move" ["slate","asker","deed"] 1 (b3 K mg LJ):=T.Ur.none (by rintro vs H Q E ⟨O,ds,r,S,_,_,_,h,_⟩;cases h)
def LH:bJ:=λ_=>bad
def JF(T:Txt P w K mg base):b_ P w K mg base "do_end" ["slate","asker","deed"] 1 (b3 K mg LH):=T.Up.none (by rintro vs H Q E ⟨O,ds,r,S,_,_,_,h,_⟩;cases h)
abbrev uU:List (Str×bJ):=[("do_put",vN),("do_add",vM),("do_swap",LM),("do_take",LN),("do_renew",LK),("do_free",LI),("do_sure",LL),("do_move",LJ),("do_end",LH)]
def Bp:a3:=
  (bE (Bx 3 uU (U (I 0) (U (I 1) (U (I 2) aj)))))
def xY:a3:=
  b1 (b2 3 (BA r1 (ab aL (I 2) (aa (.int 0))))) Bp
def nT:bJ:=fnOf 3 4 xY
def Bj:a3:=
  (bE (bA zw (U (ab aL (I 4) (aa (.int 0))) (U (I 1) (U (I 2) (U (ab aL (I 4) (aa (.int 1))) aj))))))
def Bi:a3:=
  b1 (b2 4 (bA nT (U (I 0) (U (I 1) (U (I 3) aj))))) Bj
def Bh:a3:=
  b1 (dg (iC (aY (ab ky (I 3) (aa (.aG)))) (iC (aY (bA qo (U (I 0) aj))) (aY (ab o7 (ab aL (bA vO (U (I 0) (U (I 1) aj))) (aa (.int 1))) (I 2))))) (bE (I 0)) cv) Bi
def nP:bJ:=fnOf 4 5 Bh
def RL:a3:=
  (bE (bB (U (aa (.str "ask")) (U (I 0) (U (I 1) (U (I 2) (U (I 3) (U (bB aj) aj))))))))
def LF:bJ:=fnOf 4 4 RL
def S2:a3:=
  (bE (bB (U (aa (.str "tell")) (U (I 0) (U (I 1) (U (I 2) (U (I 3) (U (I 4) aj))))))))
def LW:bJ:=fnOf 5 5 S2
def Q4:bk:=
  (e9 "Asker" "told_slate" (I 0) (cS (aa (.aG))))
def Q3:bk:=
  bI (e9 "Asker" "kept_mask" (I 0) (cS (aa (.int 0)))) Q4
def Q2:bk:=
  bI (e9 "Asker" "grants" (I 0) (oc (cS (dJ aj)))) Q3
def Q1:bk:=
  bI (e9 "Asker" "last_outcome" (I 0) (cS (aa (.aG)))) Q2
def Ra:bk:=
  bI (e9 "Asker" "standing" (I 0) (cS (aa (.str "calm")))) Q1
def Q':bk:=
  bI (e9 "Asker" "deed" (I 0) (cS (aa (.aG)))) Ra
def Q_:bk:=
  bI (e9 "Asker" "wishes" (I 0) (cS (aa (.int 0)))) Q'
def Q9:bk:=
  bI (e9 "Asker" "last_stamp" (I 0) (cS (bB (U (aa (.int 0)) (U (aa (.int 0)) aj))))) Q_
def Q8:bk:=
  bI (e9 "Asker" "greatest_round" (I 0) (cS (aa (.int 0)))) Q9
def Q7:bk:=
  bI (e9 "Asker" "over_known" (I 0) (cS (aa (.aC false)))) Q8
def Q6:bk:=
  bI (e9 "Asker" "opening" (I 0) (cS (bA LG aj))) Q7
def Q5:bk:=
  bI (e9 "Asker" "hall" (I 0) (cS (I 2))) Q6
def Q0:bk:=
  bI (e9 "Asker" "epoch" (I 0) (cS (aa (.int 0)))) Q5
def Be:bk:=
  bI (e9 "Asker" "me" (I 0) (cS (I 1))) Q0
def zl:fe:=fnX 3 3 Be
def Rf:bk:=
  (bU (bE (eE 1 [0] (iP (bA nS (U (bQ (cL "Asker" "hall") (I 0)) aj))) gv (bA LF (U (bQ (cL "Asker" "me") (I 1)) (U (I 0) (U (bQ (cL "Asker" "epoch") (I 1)) (U (bQ (cL "Asker" "last_stamp") (I 1)) aj))))))))
def Rd:bk:=
  bI (e9 "Asker" "grants" (I 0) (oc (cS (dJ aj)))) Rf
def Rc:bk:=
  bI (e9 "Asker" "standing" (I 0) (cS (aa (.str "asking")))) Rd
def Rb:bk:=
  bI (e9 "Asker" "last_stamp" (I 0) (cS (bB (U (bQ (cL "Asker" "greatest_round") (I 0)) (U (bQ (cL "Asker" "me") (I 0)) aj))))) Rc
def Gz:bk:=
  bI (e9 "Asker" "greatest_round" (I 0) (cS (ab f7 (bQ (cL "Asker" "greatest_round") (I 0)) (aa (.int 1))))) Rb
def zm:fe:=fnX 1 1 Gz
def Rl:bk:=
  (od (fD "Asker" "ask_members" zm (I 0) m4))
def Rk:bk:=
  bI (e9 "Asker" "last_outcome" (I 0) (cS (aa (.aG)))) Rl
def Rj:bk:=
  bI (e9 "Asker" "deed" (I 0) (cS (I 1))) Rk
def Ri:bk:=
  bI (e9 "Asker" "wishes" (I 0) (cS (ab f7 (bQ (cL "Asker" "wishes") (I 0)) (aa (.int 1))))) Rj
def Rh:bk:=
  bI (bU (dg (aY (ab ef (bQ (cL "Asker" "standing") (I 0)) (aa (.str "calm")))) uD cv)) Ri
def Rg:bk:=
  bI (bU (dg (aY (bQ (cL "Asker" "over_known") (I 0))) uD cv)) Rh
def GA:bk:=
  bI (bU (dg (hQ (aY (ab nY (I 1) (aa (.aG)))) (gg (aY (bA LP (U (I 1) aj))))) uD cv)) Rg
def rD:fe:=fnX 2 2 GA
def Rm:bk:=
  (od (fD "Asker" "ask_members" zm (I 0) m4))
def GB:bk:=
  bI (bU (dg (aY (ab oEq (bQ (cL "Asker" "standing") (I 0)) (aa (.str "calm")))) (bE (dJ aj)) cv)) Rm
def zo:fe:=fnX 1 1 GB
def RI:a3:=
  (bE (ab (h6 false) (ab aL (I 1) (aa (.int 1))) (bA nS (U (bQ (cL "Asker" "hall") (I 0)) aj))))
def GI:a3:=
  b1 (dg (iC (aY (ab ef (ab aL (I 1) (aa (.int 3))) (bQ (cL "Asker" "epoch") (I 0)))) (aY (ab ef (ab aL (I 1) (aa (.int 4))) (bQ (cL "Asker" "last_stamp") (I 0))))) (bE (aa (.aC false))) cv) RI
def zq:bJ:=fnOf 2 2 GI
def RJ:a3:=
  (bE (bA (kr 12) (U (ab aL (bQ (cL "Asker" "hall") (I 0)) (aa (.int 1))) (U (bA oY (U (gf (bQ (cL "Asker" "grants") (I 0))) aj)) aj))))
def GN:a3:=
  b1 (dg (iC (aY (bA qo (U (I 1) aj))) (gg (aY (bA zr (U (gf (bQ (cL "Asker" "grants") (I 0))) aj))))) (bE (aa (.aC false))) cv) RJ
def DY:bJ:=fnOf 2 2 GN
def Ro:bk:=
  (e9 "Asker" "last_outcome" (I 0) (cS (I 1)))
def Bf:bk:=
  bI (e9 "Asker" "standing" (I 0) (cS (aa (.str "calm")))) Ro
def tc:fe:=fnX 2 2 Bf
def Ru:bk:=
  (bU (bE (eE 1 [0,2] (iP (bA nS (U (bQ (cL "Asker" "hall") (I 0)) aj))) gv (bA LW (U (bQ (cL "Asker" "me") (I 1)) (U (I 0) (U (bQ (cL "Asker" "epoch") (I 1)) (U (bQ (cL "Asker" "last_stamp") (I 1)) (U (I 2) aj)))))))))
def Rt:bk:=
  bI (bU (b2 2 (bB (U (ab aL (I 1) (aa (.int 0))) (U (bQ (cL "Asker" "wishes") (I 0)) (U (bQ (cL "Asker" "deed") (I 0)) (U (bQ (cL "Asker" "told_slate") (I 0)) aj))))))) Ru
def Rr:bk:=
  bI (e9 "Asker" "told_slate" (I 0) (cS (bA nP (U (ab aL (I 1) (aa (.int 1))) (U (bQ (cL "Asker" "me") (I 0)) (U (bQ (cL "Asker" "wishes") (I 0)) (U (bQ (cL "Asker" "deed") (I 0)) aj))))))) Rt
def Rq:bk:=
  bI (e9 "Asker" "kept_mask" (I 0) (cS (aa (.int 0)))) Rr
def Rp:bk:=
  bI (e9 "Asker" "standing" (I 0) (cS (aa (.str "telling")))) Rq
def GD:bk:=
  bI (d9 (eR (hQ (aY (ab ky (bQ (cL "Asker" "deed") (I 0)) (aa (.aG)))) (aY (jq "Asker" "sees_at_once" DY (I 0) (U (ab aL (I 1) (aa (.int 1))) aj))))) (bI (lh (fD "Asker" "end_wish" tc (I 0) (e8 (U (bB (U (aa (.str "saw")) (U (bB (U (bQ (cL "Asker" "epoch") (I 0)) (U (ab aL (I 1) (aa (.int 0))) (U (ab aL (I 1) (aa (.int 1))) aj)))) aj))) aj))))
  (bU (bE (dJ aj)))) (bU cv)) Rp
def td:fe:=fnX 2 3 GD
def RC:bk:=
  (od (fD "Asker" "go_on" td (I 0) (e8 (U (bA zt (U (gf (bQ (cL "Asker" "grants") (I 0))) (U (bQ (cL "Asker" "opening") (I 0)) aj))) aj))))
def RB:bk:=
  bI (bU (dg (gg (aY (bA (kr 12) (U (ab aL (bQ (cL "Asker" "hall") (I 0)) (aa (.int 0))) (U (bA oY (U (gf (bQ (cL "Asker" "grants") (I 0))) aj)) aj))))) (bE (dJ aj)) cv)) RC
def RA:bk:=
  bI (pw iD (bQ (cL "Asker" "grants") (I 0)) (U (bB (U (ab aL (I 1) (aa (.int 1))) (U (ab aL (ab aL (I 1) (aa (.int 5))) (aa (.int 0))) (U (ab aL (ab aL (I 1) (aa (.int 5))) (aa (.int 1))) aj)))) aj)) RB
def GG:bk:=
  bI (bU (dg (aY (bA qn (U (bA oY (U (gf (bQ (cL "Asker" "grants") (I 0))) aj)) (U (ab aL (I 1) (aa (.int 1))) aj)))) (bE (dJ aj)) cv)) RA
def vJ:fe:=fnX 2 2 GG
def Rn:bk:=
  (d9 (eR (aY (ab nY (bQ (cL "Asker" "deed") (I 0)) (aa (.aG))))) (bI (bU (b2 2 (bA vO (U (I 1) (U (bQ (cL "Asker" "me") (I 0)) aj)))))
  (d9 (eR (aY (ab oEq (ab aL (I 2) (aa (.int 1))) (bQ (cL "Asker" "wishes") (I 0))))) (lh (fD "Asker" "end_wish" tc (I 0) (e8 (U (bB (U (aa (.str "did")) (U (ab aL (I 2) (aa (.int 2))) aj))) aj)))) (bU cv))) (d9 (eR (gg (aY (bA qo (U (I 1) aj))))) (lh (fD "Asker" "end_wish" tc (I 0) (e8 (U (bB (U (aa (.str "saw")) (U (bB (U (bQ (cL "Asker" "epoch") (I 0)) (U (bQ (cL "Asker" "last_stamp") (I 0)) (U (I 1) aj)))) aj))) aj)))) (d9 (eR (aY (ab oEq (bA rE (U (I 1) aj)) (aa (.str "over"))))) (lh (fD "Asker" "end_wish" tc (I 0) (e8 (U (bB (U (aa (.str "saw")) (U (bB (U (bQ (cL "Asker" "epoch") (I 0)) (U (aa (.aG)) (U (I 1) aj)))) aj))) aj)))) (bU cv))))
def GC:bk:=
  bI (bU (b2 1 (bQ (cL "Asker" "told_slate") (I 0)))) Rn
def zp:fe:=fnX 1 3 GC
def Lz:fe:=λ_=>g8
def WQ(T:Txt P w K mg base):d0 P w K mg base "Asker" "learn_over" ["self"] 1 (dU K mg Lz):=T.Uc.none (by rintro vs H Q E ⟨O,ds,r,S,ai,_,_,_,_,h,_⟩;cases h)
def Ly:fe:=λ_=>g8
def WK(T:Txt P w K mg base):d0 P w K mg base "Asker" "go_over" ["self","hall"] 1 (dU K mg Ly):=T.T9.none (by rintro vs H Q E ⟨O,ds,r,S,ai,_,_,_,_,h,_⟩;cases h)
def RH:bk:=
  (od (fD "Asker" "go_over" Ly (I 0) (e8 (U (I 2) aj))))
def RG:bk:=
  bI (d9 (eR (aY (ab oEq (I 2) (aa (.str "over"))))) (bI (lh (fD "Asker" "learn_over" Lz (I 0) m4))
  (bU (bE (dJ aj)))) (bU cv)) RH
def RF:bk:=
  bI (bU (dg (aY (ab ky (I 2) (aa (.aG)))) (bE (dJ aj)) cv)) RG
def RE:bk:=
  bI (bU (b2 2 (bA rE (U (bQ (cL "Asker" "told_slate") (I 0)) aj)))) RF
def RD:bk:=
  bI (lh (fD "Asker" "end_where_told" zp (I 0) m4)) RE
def GH:bk:=
  bI (bU (dg (gg (aY (bA (kr 12) (U (ab aL (bQ (cL "Asker" "hall") (I 0)) (aa (.int 1))) (U (bQ (cL "Asker" "kept_mask") (I 0)) aj))))) (bE (dJ aj)) cv)) RD
def Bg:bk:=
  bI (e9 "Asker" "kept_mask" (I 0) (cS (ab tC (bQ (cL "Asker" "kept_mask") (I 0)) (bA tq (U (dJ (U (ab aL (I 1) (aa (.int 1))) aj)) aj))))) GH
def vK:fe:=fnX 2 3 Bg
def Rz:bk:=
  (bU (bE (dJ aj)))
def Ry:bk:=
  bI (d9 (eR (hQ (aY (ab oEq (ab aL (I 1) (aa (.int 0))) (aa (.str "kept")))) (aY (ab oEq (bQ (cL "Asker" "standing") (I 0)) (aa (.str "telling")))))) (od (fD "Asker" "hear_kept" vK (I 0) (e8 (U (I 1) aj)))) (bU cv)) Rz
def Rx:bk:=
  bI (d9 (eR (hQ (aY (ab oEq (ab aL (I 1) (aa (.int 0))) (aa (.str "grant")))) (aY (ab oEq (bQ (cL "Asker" "standing") (I 0)) (aa (.str "asking")))))) (od (fD "Asker" "hear_grant" vJ (I 0) (e8 (U (I 1) aj)))) (bU cv)) Ry
def Rw:bk:=
  bI (bU (dg (gg (aY (jq "Asker" "is_for_now" zq (I 0) (U (I 1) aj)))) (bE (dJ aj)) cv)) Rx
def Rv:bk:=
  bI (d9 (eR (aY (ab oEq (ab aL (I 1) (aa (.int 0))) (aa (.str "late"))))) (bI (e9 "Asker" "greatest_round" (I 0) (cS (cE VI (U (bQ (cL "Asker" "greatest_round") (I 0)) (U (ab aL (ab aL (ab aL (I 1) (aa (.int 5))) (aa (.int 0))) (aa (.int 0))) aj)))))
  (bU (bE (dJ aj)))) (bU cv)) Rw
def GF:bk:=
  bI (bU (dg (aY (ab ef (ab aL (I 1) (aa (.int 2))) (bQ (cL "Asker" "me") (I 0)))) (bE (dJ aj)) cv)) Rv
def lQ:fe:=fnX 2 2 GF
def GK:a3:=
  (bE (bQ (cL "Asker" "last_outcome") (I 0)))
def LB:bJ:=fnOf 1 1 GK
def GJ:a3:=
  (bE (bQ (cL "Asker" "wishes") (I 0)))
def LA:bJ:=fnOf 1 1 GJ
def GP:a3:=
  (bE (bQ (cL "Asker" "standing") (I 0)))
def LD:bJ:=fnOf 1 1 GP
def GO:a3:=
  (bE (bQ (cL "Asker" "last_stamp") (I 0)))
def DZ:bJ:=fnOf 1 1 GO
def GL:a3:=
  (bE (bB (U (bQ (cL "Asker" "epoch") (I 0)) (U (bQ (cL "Asker" "hall") (I 0)) (U (bQ (cL "Asker" "opening") (I 0)) aj)))))
def LC:bJ:=fnOf 1 1 GL
def G8:a3:=
  (bE (aa (.int 0)))
def G7:a3:=
  b1 (dg (aY (ab oLt (I 1) (cE gq (U (I 0) aj)))) (bE (ab aL (I 0) (I 1))) cv) G8
def oZ:bJ:=fnOf 2 2 G7
def DI(self:bJ):a3:=
  (dg (gg (aY (bA self (U (I 2) (U (I 3) aj))))) (bE (aa (.aC false))) cv)
def SJ(self:bJ):a3:=
  (bE (lF (cE hZ (U (I 0) (U (aa (.ty "str")) aj))) (ab oEq (I 0) (I 1))))
def SI(self:bJ):a3:=
  b1 (dg (aY (cE hZ (U (I 1) (U (aa (.ty "int")) aj)))) (bE (lF (cE hZ (U (I 0) (U (aa (.ty "int")) aj))) (lF (x9 (cE hZ (U (I 0) (U (aa (.ty "bool")) aj)))) (ab oEq (I 0) (I 1))))) cv) (SJ self)
def SH(self:bJ):a3:=
  b1 (dg (aY (cE hZ (U (I 1) (U (aa (.ty "bool")) aj)))) (bE (lF (cE hZ (U (I 0) (U (aa (.ty "bool")) aj))) (ab oEq (I 0) (I 1)))) cv) (SI self)
def SG(self:bJ):a3:=
  b1 (dg (aY (ab ky (I 1) (aa (.aG)))) (bE (ab ky (I 0) (aa (.aG)))) cv) (SH self)
def Hr(self:bJ):a3:=
  b1 (dg (aY (cE uR (U (I 1) (U (bB (U (aa (.ty "tuple")) (U (aa (.ty "list")) aj))) aj)))) (b1 (dg (iC (gg (aY (cE uR (U (I 0) (U (bB (U (aa (.ty "tuple")) (U (aa (.ty "list")) aj))) aj))))) (aY (ab ef (cE hZ (U (I 0) (U (aa (.ty "tuple")) aj))) (cE hZ (U (I 1) (U (aa (.ty "tuple")) aj)))))) (bE (aa (.aC false))) cv)
  (b1 (dg (aY (ab ef (cE gq (U (I 0) aj)) (cE gq (U (I 1) aj)))) (bE (aa (.aC false))) cv)
  (b1 (sC [2,3] (U (I 0) (U (I 1) aj)) (DI self))
  (bE (aa (.aC true)))))) cv) (SG self)
def i_:Nat->bJ
 |0=>λ_=>bad
 |n+1=>fnOf 2 4 (Hr (i_ n))
def Ht(self:bJ):a3:=
  (bE (bB (U (ab aL (I 0) (aa (.int 0))) (U (cE mq (U (eE 1 [1] (iQ (ab aL (I 0) (aa (.int 1)))) gv (bA self (U (I 0) (U (I 1) aj)))) aj)) aj))))
def xW(self:bJ):a3:=
  b1 (dg (gg (aY (cE hZ (U (I 0) (U (aa (.ty "tuple")) aj))))) (bE (ab oMod (ab f7 (I 0) (I 1)) (aa (.int 6)))) cv) (Ht self)
def nR:Nat->bJ
 |0=>λ_=>bad
 |n+1=>fnOf 2 2 (xW (nR n))
def Hd:a3:=
  (bE (bB (U (bA (nR 6) (U (I 5) (U (ab oMod (ab eG (I 0) (aa (.int 10))) (aa (.int 6))) aj))) (U (bA (nR 6) (U (I 6) (U (ab oMod (ab eG (I 0) (aa (.int 10))) (aa (.int 6))) aj))) aj))))
def xU:a3:=
  b1 (mc [5,6] (ab aL (I 4) (ab oMod (I 0) (aa (.int 10))))) Hd
def Sv:a3:=
  b1 (b2 4 (ab jy (I 4) (dJ (U (bB (U (bB (U (aa (.int 2)) (U (bB (U (aa (.int 0)) (U (bB (U (aa (.int 1)) (U (bB (U (aa (.int 1)) (U (aa (.int 2)) aj))) aj))) aj))) aj))) (U (bB (U (aa (.int 1)) (U (bB (U (aa (.int 0)) (U (bB (U (aa (.int 2)) (U (bB (U (aa (.int 1)) (U (aa (.int 2)) aj))) aj))) aj))) aj))) aj))) aj)))) xU
def Su:a3:=
  b1 (b2 4 (ab jy (I 4) (dJ (U (bB (U (bB (U (aa (.int 2)) (U (bB (U (aa (.int 0)) (U (aa (.int 0)) (U (aa (.int 1)) (U (aa (.int 2)) aj))))) aj))) (U (bB (U (aa (.int 3)) (U (bB (U (aa (.int 0)) (U (aa (.int 0)) (U (aa (.int 1)) (U (aa (.int 2)) aj))))) aj))) aj))) (U (bB (U (bB (U (aa (.int 2)) (U (bB (U (aa (.int 0)) (U (aa (.int 1)) aj))) aj))) (U (bB (U (aa (.int 1)) (U (bB (U (aa (.int 0)) (U (aa (.int 1)) aj))) aj))) aj))) aj))))) Sv
def Ss:a3:=
  b1 (b2 4 (ab jy (I 4) (dJ (U (bB (U (I 2) (U (I 3) aj))) (U (bB (U (I 3) (U (I 2) aj))) (U (bB (U (bB (U (aa (.int 3)) (U (bB (U (aa (.int 0)) (U (aa (.int 1)) (U (aa (.int 2)) (U (aa (.int 3)) (U (aa (.int 4)) aj)))))) aj))) (U (bB (U (aa (.int 3)) (U (bB (U (aa (.int 4)) (U (aa (.int 3)) (U (aa (.int 2)) (U (aa (.int 1)) (U (aa (.int 0)) aj)))))) aj))) aj))) aj)))))) Su
def Sr:a3:=
  b1 (b2 4 (dJ (U (bB (U (I 1) (U (I 1) aj))) (U (bB (U (aa (.int 0)) (U (aa (.int 0)) aj))) (U (bB (U (bB (U (aa (.int 1)) (U (bB (U (aa (.int 0)) (U (aa (.int 1)) (U (aa (.int 2)) aj)))) aj))) (U (bB (U (aa (.int 3)) (U (bB (U (aa (.int 0)) (U (aa (.int 1)) (U (aa (.int 2)) aj)))) aj))) aj))) (U (bB (U (bB (U (aa (.int 3)) (U (bB (U (aa (.int 0)) (U (aa (.int 1)) (U (aa (.int 2)) aj)))) aj))) (U (bB (U (aa (.int 1)) (U (bB (U (aa (.int 0)) (U (aa (.int 1)) (U (aa (.int 2)) aj)))) aj))) aj))) aj)))))) Ss
def Sq:a3:=
  b1 (b2 3 (bB (U (aa (.int 2)) (U (bB (U (bB (U (aa (.int 1)) (U (bB (U (aa (.int 0)) (U (aa (.int 1)) aj))) aj))) (U (bB (U (aa (.int 1)) (U (bB (U (aa (.int 2)) (U (aa (.int 3)) aj))) aj))) aj))) aj)))) Sr
def Sp:a3:=
  b1 (b2 2 (bB (U (aa (.int 1)) (U (bB (U (bB (U (aa (.int 2)) (U (bB (U (aa (.int 0)) (U (aa (.int 1)) aj))) aj))) (U (bB (U (aa (.int 2)) (U (bB (U (aa (.int 2)) (U (aa (.int 3)) aj))) aj))) aj))) aj)))) Sq
def Bn:a3:=
  b1 (b2 1 (bB (U (aa (.int 2)) (U (bB (U (aa (.int 0)) (U (aa (.int 1)) (U (aa (.int 2)) aj)))) aj)))) Sp
def vT:bJ:=fnOf 1 7 Bn
def DH(self:bJ):a3:=
  (b2 1 (ab jy (I 1) (bA self (U (I 2) aj))))
def Hq(self:bJ):a3:=
  (bE (I 1))
def Hp(self:bJ):a3:=
  b1 (ou 2 (iQ (ab aL (I 0) (aa (.int 1)))) (DH self)) (Hq self)
def Ho(self:bJ):a3:=
  b1 (b2 1 (dJ aj)) (Hp self)
def xV(self:bJ):a3:=
  b1 (dg (gg (aY (cE hZ (U (I 0) (U (aa (.ty "tuple")) aj))))) (bE (dJ (U (I 0) aj))) cv) (Ho self)
def o1:Nat->bJ
 |0=>λ_=>bad
 |n+1=>fnOf 1 3 (xV (o1 n))
def Hi:a3:=
  (bE (eE 1 [1] (j5 (U (aa (.int 6)) aj)) (aY (ab (h6 false) (I 0) (I 1))) (I 0)))
def Hh:a3:=
  b1 (b2 1 (ab jy (bA (o1 6) (U (ab aL (I 0) (aa (.int 0))) aj)) (bA (o1 6) (U (ab aL (I 0) (aa (.int 1))) aj)))) Hi
def tj:bJ:=fnOf 1 2 Hh
def Sh(self:bJ):a3:=
  (bE (ab o7 (cE gq (U (eE 1 [1] (iQ (ab aL (I 0) (aa (.int 1)))) (aY (bA self (U (I 0) (U (I 1) aj)))) (I 0)) aj)) (ab aL (I 0) (aa (.int 0)))))
def Ha(self:bJ):a3:=
  b1 (dg (gg (aY (cE hZ (U (I 0) (U (aa (.ty "tuple")) aj))))) (bE (ab (h6 false) (I 0) (I 1))) cv) (Sh self)
def j7:Nat->bJ
 |0=>λ_=>bad
 |n+1=>fnOf 2 2 (Ha (j7 n))
def zg:a3:=
  (dg (aY (ab oEq (I 4) (I 2))) (b2 3 (ab tD (I 3) (ab aL (aa (.str "abcdefghijklmnopqrstuvwxyz")) (ab oMod (ab eG (I 0) (aa (.int 64))) (aa (.int 26)))))) (b2 3 (ab tD (I 3) (aa (.str "m")))))
def Hn:a3:=
  (bE (I 3))
def Hm:a3:=
  b1 (ou 4 (j5 (U (I 1) aj)) zg) Hn
def Hl:a3:=
  b1 (b2 3 (aa (.str ""))) Hm
def Hk:a3:=
  b1 (b2 2 (ab oMod (ab eG (I 0) (aa (.int 8))) (I 1))) Hl
def Hj:a3:=
  b1 (b2 1 (ab f7 (aa (.int 1)) (ab oMod (I 0) (aa (.int 8))))) Hk
def tl:bJ:=fnOf 1 5 Hj
def G_:a3:=
  (bE (bB (U (ab aL (dJ (U (aa (.str "put")) (U (aa (.str "add")) (U (aa (.str "add")) aj)))) (ab oMod (I 0) (aa (.int 3)))) (U (bA tl (U (ab f7 (I 1) (ab wh (aa (.int 64)) (ab oMod (ab eG (I 0) (aa (.int 6))) (aa (.int 3))))) aj)) (U (I 2) aj)))))
def G9:a3:=
  b1 (dg (aY (ab oEq (ab oMod (I 0) (aa (.int 5))) (aa (.int 0)))) (b2 2 (ab Eh (aa (.int 0)) (I 2))) cv) G_
def R':a3:=
  b1 (b2 2 (ab oMod (ab eG (I 0) (aa (.int 6))) (ab nZ (aa (.int 10)) (aa (.int 40))))) G9
def vR:bJ:=fnOf 2 3 R'
def Sg:a3:=
  (bE (bB (U (I 4) (U (I 5) (U (I 6) (U (I 7) aj))))))
def Sf:a3:=
  b1 (b2 5 (cE mq (U (cE (nz f6) (U (ab jy (eE 1 [1] (iQ (I 5)) (aY (ab ef (ab aL (I 0) (aa (.int 0))) (I 1))) (I 0)) (dJ (U (bB (U (I 1) (U (I 2) (U (I 9) aj)))) aj))) aj)) aj))) Sg
def Se:a3:=
  b1 (dg (aY (ab oEq (ab aL (I 3) (aa (.int 0))) (aa (.str "move")))) (b2 7 (ab aL (I 3) (aa (.int 1)))) (dg (aY (ab oEq (ab aL (I 3) (aa (.int 0))) (aa (.str "end")))) (b2 7 (aa (.str "over"))) (b1 (b2 10 (cE sL (U (sA [3] (iQ (I 4)) (aY (ab oEq (I 0) (ab aL (I 2) (aa (.int 1))))) (I 1)) aj)))
  (b1 (b2 11 (ab aL (I 3) (aa (.int 2))))
  (b1 (b2 9 (I 10))
  (b1 (dg (aY (ab oEq (ab aL (I 3) (aa (.int 0))) (aa (.str "add")))) (b1 (b2 11 (ab f7 (I 10) (ab aL (I 3) (aa (.int 2)))))
  (b2 9 (I 11))) cv)
  (b1 (kj 12 (eE 1 [3] (iQ (I 4)) (aY (ab ef (ab aL (I 0) (aa (.int 0))) (ab aL (I 1) (aa (.int 1))))) (I 0)))
  (b1 (dg (aY (ab ef (I 11) (aa (.int 0)))) (mb 12 iD (U (bB (U (ab aL (I 3) (aa (.int 1))) (U (I 11) aj))) aj)) cv)
  (b2 4 (cE mq (U (cE (nz iz) (U (I 12) aj)) aj))))))))))) Sf
def Sd:a3:=
  b1 (b2 9 (aa (.int 1))) Se
def Sb:a3:=
  b1 (dg (iC (aY (ab ky (I 3) (aa (.aG)))) (iC (aY (ab nY (I 7) (aa (.aG)))) (aY (ab wg (cE gq (U (I 8) aj)) (aa (.int 0)))))) (bE (I 0)) cv) Sd
def Sa:a3:=
  b1 (b2 8 (eE 1 [1,2] (iQ (I 5)) (hQ (aY (ab oEq (ab aL (I 0) (aa (.int 0))) (I 1))) (aY (ab o7 (ab aL (I 0) (aa (.int 1))) (I 2)))) (I 0))) Sb
def G':a3:=
  b1 (mc [4,5,6,7] (I 0)) Sa
def tg:bJ:=fnOf 4 13 G'
def SF:a3:=
  (bE (ya (I 0) (U (I 1) (U (I 2) aj)) (bB (U (bB (U (aa (.int 0)) (U (aa (.int 0)) aj))) (U (bB (U (aa (.int 0)) (U (aa (.int 0)) aj))) (U (aa (.aG)) aj))))))
def tm:bJ:=fnOf 3 3 SF
def Sz:bk:=
  (bU (bE (bB (U (aa (.str "late")) (U (I 4) (U (I 3) (U (I 5) (U (I 6) (U (bB (U (I 8) aj)) aj)))))))))
def Sy:bk:=
  bI (d9 (eR (hQ (aY (ab oEq (I 2) (aa (.str "tell")))) (aY (ab (o6 i9) (I 6) (I 8))))) (bI (xf (I 0) (U (I 4) (U (I 5) aj)) (cS (bB (U (I 6) (U (I 6) (U (ab aL (I 7) (aa (.int 3))) aj))))))
  (bU (bE (bB (U (aa (.str "kept")) (U (I 4) (U (I 3) (U (I 5) (U (I 6) (U (bB aj) aj)))))))))) (bU cv)) Sz
def Sx:bk:=
  bI (d9 (eR (hQ (aY (ab oEq (I 2) (aa (.str "ask")))) (aY (ab (o6 g7) (I 6) (I 8))))) (bI (xf (I 0) (U (I 4) (U (I 5) aj)) (cS (bB (U (I 6) (U (I 9) (U (I 10) aj))))))
  (bU (bE (bB (U (aa (.str "grant")) (U (I 4) (U (I 3) (U (I 5) (U (I 6) (U (bB (U (I 9) (U (I 10) aj))) aj)))))))))) (bU cv)) Sy
def Sw:bk:=
  bI (bU (mc [8,9,10] (bA tm (U (I 0) (U (I 4) (U (I 5) aj)))))) Sx
def He:bk:=
  bI (bU (mc [2,3,4,5,6,7] (I 1))) Sw
def lR:fe:=fnX 2 11 He
def R7:a3:=
  (bE (eE 1 [0,1,2] (iP (bA tj (U (ab aL (I 1) (aa (.int 1))) aj))) gv (bB (U (aa (.str "ask")) (U (I 1) (U (I 0) (U (ab aL (I 2) (aa (.int 0))) (U (I 3) (U (bB aj) aj)))))))))
def vP:bJ:=fnOf 3 3 R7
def DG:a3:=
  (dg (aY (ab (o6 g7) (I 5) (I 2))) (b1 (b2 2 (I 5))
  (b2 3 (I 6))) cv)
def R_:a3:=
  (bE (bB (U (I 2) (U (I 3) aj))))
def R9:a3:=
  b1 (x7 [4,5,6] (Di (I 0)) DG) R_
def R8:a3:=
  b1 (b2 3 (I 1)) R9
def G6:a3:=
  b1 (b2 2 (bB (U (aa (.int 0)) (U (aa (.int 0)) aj)))) R8
def vQ:bJ:=fnOf 2 7 G6
def SO:a3:=
  (bE (eE 1 [0,1,2,8] (iP (bA tj (U (ab aL (I 1) (aa (.int 1))) aj))) gv (bB (U (aa (.str "tell")) (U (I 1) (U (I 0) (U (ab aL (I 2) (aa (.int 0))) (U (I 3) (U (I 4) aj)))))))))
def SN:a3:=
  b1 (b2 8 (bB (U (I 6) (U (I 3) (U (I 4) (U (bA tg (U (I 7) (U (I 0) (U (I 3) (U (I 4) aj))))) aj)))))) SO
def Hs:a3:=
  b1 (mc [6,7] (bA vQ (U (I 5) (U (ab aL (I 1) (aa (.int 2))) aj)))) SN
def tp:bJ:=fnOf 6 9 Hs
def K7:bk:=
  (d9 (eR (aY (ab oEq (ab oMod (ab eG (I 8) (ab aL (dJ (U (aa (.int 1)) (U (aa (.int 2)) (U (aa (.int 4)) (U (aa (.int 8)) (U (aa (.int 16)) (U (aa (.int 32)) aj))))))) (ab aL (I 11) (aa (.int 2))))) (aa (.int 2))) (aa (.int 1))))) (bI (iF 12 (iV lR (e8 (U (I 0) (U (I 11) aj)))))
  (bU (mb 10 iD (U (bB (U (ab aL (I 11) (aa (.int 2))) (U (ab aL (ab aL (I 12) (aa (.int 5))) (aa (.int 0))) (U (ab aL (ab aL (I 12) (aa (.int 5))) (aa (.int 1))) aj)))) aj)))) (bU cv))
def K8:bk:=
  (d9 (eR (aY (ab oEq (ab oMod (ab eG (I 9) (ab aL (dJ (U (aa (.int 1)) (U (aa (.int 2)) (U (aa (.int 4)) (U (aa (.int 8)) (U (aa (.int 16)) (U (aa (.int 32)) aj))))))) (ab aL (I 13) (aa (.int 2))))) (aa (.int 2))) (aa (.int 1))))) (lh (iV lR (e8 (U (I 0) (U (I 13) aj))))) (bU cv))
def Hb:bk:=
  (d9 (eR (aY (bA (j7 6) (U (ab aL (ab aL (I 1) (aa (.int 1))) (aa (.int 0))) (U (eE 1 [] (iP (I 10)) gv (ab aL (I 0) (aa (.int 0)))) aj))))) (qL 13 (sW (bA tp (U (I 2) (U (I 1) (U (bB (U (I 7) (U (I 2) aj))) (U (I 3) (U (I 4) (U (I 10) aj)))))))) K8) (bU cv))
def Sm:bk:=
  bI (qL 11 (sW (bA vP (U (I 2) (U (I 1) (U (bB (U (I 7) (U (I 2) aj))) aj))))) K7) Hb
def Sl:bk:=
  bI (bU (kj 10 (dJ aj))) Sm
def Sk:bk:=
  bI (bU (b2 9 (ab aL (dJ (U (aa (.int 63)) (U (ab oMod (ab eG (I 5) (aa (.int 384))) (aa (.int 64))) aj))) (ab oMod (ab eG (I 5) (aa (.int 3))) (aa (.int 2)))))) Sl
def Sj:bk:=
  bI (bU (b2 8 (ab aL (dJ (U (aa (.int 63)) (U (aa (.int 63)) (U (ab oMod (ab eG (I 5) (aa (.int 6))) (aa (.int 64))) aj)))) (ab oMod (I 5) (aa (.int 3)))))) Sk
def Si:bk:=
  bI (bU (b2 7 (ab f7 (aa (.int 1)) (cE uT (U (eE 1 [0,1] (iP (I 6)) gv (ab aL (ab aL (bA tm (U (I 1) (U (I 0) (U (ab aL (I 2) (aa (.int 0))) aj)))) (aa (.int 0))) (aa (.int 0)))) aj))))) Sj
def Bl:bk:=
  bI (bU (b2 6 (bA tj (U (ab aL (I 1) (aa (.int 1))) aj)))) Si
def vS:fe:=fnX 6 14 Bl
def SE:a3:=
  (bE (I 1))
def SD:a3:=
  b1 (dg (aY (ab wg (ab oMod (ab eG (I 0) (aa (.int 64))) (aa (.int 3))) (aa (.int 0)))) (b2 1 (dJ (U (aa (.int 0)) (U (aa (.int 1)) (U (aa (.int 2)) (U (aa (.int 3)) (U (aa (.int 4)) (U (aa (.int 5)) aj)))))))) cv) SE
def SA:a3:=
  b1 (b2 1 (eE 1 [0] (j5 (U (aa (.int 6)) aj)) (aY (ab oEq (ab oMod (ab eG (I 1) (ab aL (dJ (U (aa (.int 1)) (U (aa (.int 2)) (U (aa (.int 4)) (U (aa (.int 8)) (U (aa (.int 16)) (U (aa (.int 32)) aj))))))) (I 0))) (aa (.int 2))) (aa (.int 1)))) (I 0))) SD
def ti:bJ:=fnOf 1 2 SA
def SM:a3:=
  (bE (bA (i_ 14) (U (I 2) (U (dJ (U (ab cM (I 1) (aa (.str "stand"))) (U (ab cM (I 1) (aa (.str "outcome"))) (U (ab cM (I 1) (aa (.str "number"))) (U (ab cM (I 1) (aa (.str "place"))) aj))))) aj))))
def SK:a3:=
  b1 (b2 2 (dJ (U (jq "Asker" "stand" LD (I 0) aj) (U (jq "Asker" "outcome" LB (I 0) aj) (U (jq "Asker" "number" LA (I 0) aj) (U (jq "Asker" "place" LC (I 0) aj) aj)))))) SM
def tn:bJ:=fnOf 2 3 SK
def So:bk:=
  (bU (bE (lF (bA (i_ 14) (U (I 3) (U (I 4) aj))) (bA tn (U (I 0) (U (I 1) aj))))))
def Hc:bk:=
  bI (ie (I 1) (aa (.str "tells")) (cS (ab jy (ab cM (I 1) (aa (.str "tells"))) (I 4)))) So
def xT:bk:=
  bI (d9 (eR (hQ (aY (ab oEq (ab aL (I 2) (aa (.int 0))) (aa (.str "grant")))) (aY (ab oEq (ab cM (I 1) (aa (.str "stand"))) (aa (.str "asking")))))) (bI (pw iD (ab cM (I 1) (aa (.str "grants"))) (U (bB (U (ab aL (I 2) (aa (.int 1))) (U (ab aL (ab aL (I 2) (aa (.int 5))) (aa (.int 0))) (U (ab aL (ab aL (I 2) (aa (.int 5))) (aa (.int 1))) aj)))) aj))
  (bI (bU (b2 5 (eE 1 [] (iP (gf (ab cM (I 1) (aa (.str "grants"))))) gv (ab aL (I 0) (aa (.int 0))))))
  (bI (bU (b2 6 (ab aL (ab cM (I 1) (aa (.str "place"))) (aa (.int 1)))))
  (d9 (eR (aY (bA (j7 6) (U (ab aL (I 6) (aa (.int 0))) (U (I 5) aj))))) (bI (bU (mc [7,8] (bA vQ (U (gf (ab cM (I 1) (aa (.str "grants")))) (U (ab aL (ab cM (I 1) (aa (.str "place"))) (aa (.int 2))) aj)))))
  (bI (bU (b2 9 (ab oEq (cE gq (U (eE 1 [7] (iP (gf (ab cM (I 1) (aa (.str "grants"))))) (aY (ab ef (ab aL (I 0) (aa (.int 1))) (I 1))) (I 0)) aj)) (aa (.int 0)))))
  (d9 (eR (hQ (aY (I 9)) (aY (bA (j7 6) (U (ab aL (I 6) (aa (.int 1))) (U (I 5) aj)))))) (bI (ie (I 1) (aa (.str "stand")) (cS (aa (.str "calm"))))
  (ie (I 1) (aa (.str "outcome")) (cS (bB (U (aa (.str "saw")) (U (bB (U (aa (.int 0)) (U (I 7) (U (I 8) aj)))) aj)))))) (bI (ie (I 1) (aa (.str "stand")) (cS (aa (.str "telling"))))
  (bI (ie (I 1) (aa (.str "slate")) (cS (I 8)))
  (bU (b2 4 (bA tp (U (ab cM (I 1) (aa (.str "me"))) (U (ab cM (I 1) (aa (.str "place"))) (U (ab aL (I 2) (aa (.int 4))) (U (ab cM (I 1) (aa (.str "number"))) (U (aa (.aG)) (U (gf (ab cM (I 1) (aa (.str "grants")))) aj)))))))))))))) (bU cv))))) (bU cv)) Hc
def Sn:bk:=
  bI (bU (b2 4 (dJ aj))) xT
def Bm:bk:=
  bI (iF 3 (fD "Asker" "hear" lQ (I 0) (e8 (U (I 2) aj)))) Sn
def th:fe:=fnX 3 10 Bm
def Hg:bk:=
  (bU (bE (lF (bA (i_ 14) (U (I 3) (U (dJ aj) aj))) (bA tn (U (I 0) (U (I 1) aj))))))
def Hf:bk:=
  bI (d9 (eR (hQ (aY (ab oEq (ab aL (I 2) (aa (.int 0))) (aa (.str "kept")))) (aY (ab oEq (ab cM (I 1) (aa (.str "stand"))) (aa (.str "telling")))))) (bI (d9 (eR (aY (ab (h6 true) (ab aL (I 2) (aa (.int 1))) (gf (ab cM (I 1) (aa (.str "marks"))))))) (pw iD (ab cM (I 1) (aa (.str "marks"))) (U (ab aL (I 2) (aa (.int 1))) aj)) (bU cv))
  (d9 (eR (aY (bA (j7 6) (U (ab aL (ab aL (ab cM (I 1) (aa (.str "place"))) (aa (.int 1))) (aa (.int 1))) (U (gf (ab cM (I 1) (aa (.str "marks")))) aj))))) (bI (ie (I 1) (aa (.str "stand")) (cS (aa (.str "calm"))))
  (ie (I 1) (aa (.str "outcome")) (cS (bB (U (aa (.str "saw")) (U (bB (U (aa (.int 0)) (U (ab aL (I 2) (aa (.int 4))) (U (ab cM (I 1) (aa (.str "slate"))) aj)))) aj)))))) (bU cv))) (bU cv)) Hg
def Bo:bk:=
  bI (iF 3 (fD "Asker" "hear" lQ (I 0) (e8 (U (I 2) aj)))) Hf
def nQ:fe:=fnX 3 4 Bo
def K9:bk:=
  (bI (bU (b2 8 (ab aL (I 6) (ab oMod (ab f7 (I 7) (ab eG (I 2) (aa (.int 7)))) (cE gq (U (I 6) aj))))))
  (d9 (sd (eR (aY (ab (h6 false) (ab aL (I 8) (aa (.int 2))) (bA ti (U (ab eG (I 2) (aa (.int 19))) aj))))) (pz (pA (iV th (ic (cS (I 0)) (ic (cS (I 1)) (Ap (iV lR (e8 (U (ab cM (I 1) (aa (.str "books"))) (U (I 8) aj)))) aj))))))) (bU (bE (aa (.aC false)))) (bU cv)))
def K_:bk:=
  (bI (bU (b2 8 (ab aL (I 9) (ab oMod (ab f7 (I 7) (I 2)) (cE gq (U (I 9) aj))))))
  (d9 (eR (aY (ab (h6 false) (ab aL (I 8) (aa (.int 2))) (bA ti (U (ab eG (I 2) (aa (.int 23))) aj))))) (bI (iF 10 (iV lR (e8 (U (ab cM (I 1) (aa (.str "books"))) (U (I 8) aj)))))
  (bI (d9 (pz (pA (iV nQ (e8 (U (I 0) (U (I 1) (U (I 10) aj))))))) (bU (bE (aa (.aC false)))) (bU cv))
  (d9 (sd (eR (aY (ab oEq (ab oMod (ab eG (I 2) (aa (.int 11))) (aa (.int 2))) (aa (.int 0))))) (pz (pA (iV nQ (e8 (U (I 0) (U (I 1) (U (I 10) aj)))))))) (bU (bE (aa (.aC false)))) (bU cv)))) (bU cv)))
def SR:bk:=
  (bU (bE (aa (.aC true))))
def Hw:bk:=
  bI (qL 7 (j5 (U (cE gq (U (I 9) aj)) aj)) K_) SR
def SQ:bk:=
  bI (bU (b2 9 (ab cM (I 1) (aa (.str "tells"))))) Hw
def Hv:bk:=
  bI (qL 7 (j5 (U (cE gq (U (I 6) aj)) aj)) K9) SQ
def S0:bk:=
  bI (bU (dg (iC (gg (aY (bA (i_ 14) (U (I 6) (U (bA vP (U (ab cM (I 1) (aa (.str "me"))) (U (I 4) (U (jq "Asker" "stamp" DZ (I 0) aj) aj)))) aj))))) (gg (aY (bA tn (U (I 0) (U (I 1) aj)))))) (bE (aa (.aC false))) cv)) Hv
def SY:bk:=
  bI (ie (I 1) (aa (.str "tells")) (cS (dJ aj))) S0
def SX:bk:=
  bI (ie (I 1) (aa (.str "marks")) (oc (cS (dJ aj)))) SY
def SW:bk:=
  bI (ie (I 1) (aa (.str "grants")) (oc (cS (dJ aj)))) SX
def SV:bk:=
  bI (ie (I 1) (aa (.str "outcome")) (cS (aa (.aG)))) SW
def SU:bk:=
  bI (ie (I 1) (aa (.str "stand")) (cS (aa (.str "asking")))) SV
def Hx:bk:=
  bI (ie (I 1) (aa (.str "number")) (cS (ab f7 (ab cM (I 1) (aa (.str "number"))) (cE uQ (U (ab oEq (ab cM (I 1) (aa (.str "stand"))) (aa (.str "calm"))) aj))))) SU
def SS:bk:=
  bI (d9 (eR (aY (ab ef (ab cM (I 1) (aa (.str "stand"))) (aa (.str "calm"))))) (iF 6 (fD "Asker" "bell" zo (I 0) m4)) (d9 (eR (aY (ab oEq (ab oMod (I 2) (aa (.int 3))) (aa (.int 0))))) (iF 6 (fD "Asker" "begin" rD (I 0) (e8 (U (aa .aG) aj)))) (iF 6 (fD "Asker" "begin" rD (I 0) (e8 (U (aa (.aG)) aj)))))) Hx
def SP:bk:=
  bI (d9 (eR (aY (ab oEq (ab oMod (I 2) (aa (.int 2))) (aa (.int 0))))) (bI (ie (I 1) (aa (.str "turn")) (cS (ab f7 (ab cM (I 1) (aa (.str "turn"))) (aa (.int 1)))))
  (bI (bU (b2 5 (ab oMod (ab f7 (ab f7 (ab cM (I 1) (aa (.str "me"))) (aa (.int 1))) (ab oMod (ab eG (I 2) (aa (.int 2))) (aa (.int 5)))) (aa (.int 6)))))
  (lh (iV vS (e8 (U (ab cM (I 1) (aa (.str "books"))) (U (I 4) (U (I 5) (U (ab cM (I 1) (aa (.str "turn"))) (U (bA vR (U (ab oMod (ab eG (I 2) (aa (.int 10))) (ab nZ (aa (.int 10)) (aa (.int 45)))) (U (I 3) aj))) (U (ab eG (I 2) (aa (.int 10))) aj))))))))))) (bU cv)) SS
def Hu:bk:=
  bI (bU (b2 4 (ab cM (I 1) (aa (.str "place"))))) SP
def vU:fe:=fnX 4 11 Hu
def K6:bk:=
  (d9 (pz (pA (iV vU (e8 (U (I 6) (U (I 5) (U (ab oMod (I 7) (ab nZ (aa (.int 10)) (aa (.int 60)))) (U (I 3) aj)))))))) (bU (bE (aa (.aC false)))) (bU cv))
def R6:bk:=
  (bU (bE (aa (.aC true))))
def R5:bk:=
  bI (qL 7 (sW (x' (I 0) (sD (aa (.int 3))) (sD (aa (.int 23))))) K6) R6
def R4:bk:=
  bI (iF 6 (xg "Asker" zl (e8 (U (I 2) (U (I 1) aj))))) R5
def R3:bk:=
  bI (iF 5 (Aq [.inr "me",.inr "place",.inr "books",.inr "number",.inr "turn",.inr "stand",.inr "outcome"] (ic (cS (I 2)) (ic (cS (I 4)) (ic (xe (.eZ [])) (ic (cS (aa (.int 0))) (ic (cS (aa (.int 0))) (ic (cS (aa (.str "calm"))) (ic (cS (aa (.aG))) m4))))))))) R4
def R2:bk:=
  bI (bU (b2 4 (bB (U (aa (.int 0)) (U (I 1) (U (bB (U (bB aj) (U (bB aj) (U (bB (U (aa (.int 0)) (U (aa (.aG)) aj))) (U (aa (.aG)) aj))))) aj)))))) R3
def R1:bk:=
  bI (bU (b2 3 (ab oMod (bA oZ (U (I 0) (U (aa (.int 2)) aj))) (aa (.int 512))))) R2
def R0:bk:=
  bI (bU (b2 2 (ab oMod (bA oZ (U (I 0) (U (aa (.int 1)) aj))) (aa (.int 6))))) R1
def G5:bk:=
  bI (bU (b2 1 (bA vT (U (ab oMod (bA oZ (U (I 0) (U (aa (.int 0)) aj))) (aa (.int 600))) aj)))) R0
def D0:fe:=fnX 1 8 G5
structure P'(P:ajY)(w:World)(K:aS)(mg:bq)(base:Heap)(j:Nat):Prop where
 Xe:1<=j->b_ P w K mg base "is_whole" ["thing"] 1 (b3 K mg tf)
 W7:1<=j->b_ P w K mg base "has_keeper" ["mask","keeper"] 1 (b3 K mg qn)
 XB:1<=j->b_ P w K mg base "mask_of" ["keepers"] 1 (b3 K mg tq)
 Xf:2<=j->b_ P w K mg base "keepers_of" ["mask"] 2 (b3 K mg zu)
 WX:1<=j->b_ P w K mg base "all_alike" ["grants"] 1 (b3 K mg zr)
 W6:2<=j->b_ P w K mg base "granters" ["grants"] 2 (b3 K mg oY)
 XF:∀n,n+2<=j->b_ P w K mg base "namings" ["rule"] (n+2) (b3 K mg (qp n))
 XE:15<=j->b_ P w K mg base "named" ["rule"] 15 (b3 K mg vV)
 W4:∀n,n+2<=j->b_ P w K mg base "fills" ["rule","mask"] (n+2) (b3 K mg (kr n))
 XC:16<=j->b_ P w K mg base "members_mask" ["hall"] 16 (b3 K mg zv)
 XD:17<=j->b_ P w K mg base "members_of" ["hall"] 17 (b3 K mg nS)
 Xa:1<=j->b_ P w K mg base "is_name" ["thing"] 1 (b3 K mg LS)
 Xb:2<=j->b_ P w K mg base "is_number" ["thing"] 2 (b3 K mg LU)
 W5:1<=j->b_ P w K mg base "form_of" ["word"] 1 (b3 K mg LO)
 Xc:3<=j->b_ P w K mg base "is_part" ["kind","thing"] 3 (b3 K mg LV)
 W9:4<=j->b_ P w K mg base "is_deed" ["thing"] 4 (b3 K mg LP)
 WZ:1<=j->b_ P w K mg base "blank" [] 1 (b3 K mg LG)
 XH:1<=j->b_ P w K mg base "shut_of" ["slate"] 1 (b3 K mg rE)
 Xd:2<=j->b_ P w K mg base "is_shut" ["slate"] 2 (b3 K mg qo)
 W0:1<=j->b_ P w K mg base "cell_of" ["slate","name"] 1 (b3 K mg vL)
 W2:1<=j->b_ P w K mg base "doing_of" ["slate","asker"] 1 (b3 K mg vO)
 JI:5<=j->b_ P w K mg base "do_put" ["slate","asker","deed"] 5 (b3 K mg vN)
 JE:5<=j->b_ P w K mg base "do_add" ["slate","asker","deed"] 5 (b3 K mg vM)
 XG:6<=j->b_ P w K mg base "outcome_of" ["slate","asker","deed"] 6 (b3 K mg nT)
 W3:7<=j->b_ P w K mg base "done_on" ["slate","asker","number","deed"] 7 (b3 K mg nP)
 WY:1<=j->b_ P w K mg base "ask_letter" ["asker","keeper","epoch","stamp"] 1 (b3 K mg LF)
 XI:1<=j->b_ P w K mg base "tell_letter" ["asker","keeper","epoch","stamp","load"] 1 (b3 K mg LW)
 WD:2<=j->d0 P w K mg base "Asker" "__init__" ["self","me","hall"] 2 (dU K mg zl)
 WE:18<=j->d0 P w K mg base "Asker" "ask_members" ["self"] 18 (dU K mg zm)
 JD:19<=j->xt P w K mg base "Asker" "begin" ["self","deed"] 19 (dU K mg rD)
 WG:19<=j->d0 P w K mg base "Asker" "bell" ["self"] 19 (dU K mg zo)
 WO:18<=j->d0 P w K mg base "Asker" "is_for_now" ["self","letter"] 18 (b3 K mg zq)
 WU:15<=j->d0 P w K mg base "Asker" "sees_at_once" ["self","slate"] 15 (b3 K mg DY)
 WI:1<=j->d0 P w K mg base "Asker" "end_wish" ["self","outcome"] 1 (dU K mg tc)
 WJ:18<=j->d0 P w K mg base "Asker" "go_on" ["self","pair"] 18 (dU K mg td)
 WM:19<=j->d0 P w K mg base "Asker" "hear_grant" ["self","letter"] 19 (dU K mg vJ)
 WH:3<=j->d0 P w K mg base "Asker" "end_where_told" ["self"] 3 (dU K mg zp)
 WN:15<=j->d0 P w K mg base "Asker" "hear_kept" ["self","letter"] 15 (dU K mg vK)
 WL:20<=j->d0 P w K mg base "Asker" "hear" ["self","letter"] 20 (dU K mg lQ)
 WS:1<=j->d0 P w K mg base "Asker" "outcome" ["self"] 1 (b3 K mg LB)
 WR:1<=j->d0 P w K mg base "Asker" "number" ["self"] 1 (b3 K mg LA)
 WW:1<=j->d0 P w K mg base "Asker" "stand" ["self"] 1 (b3 K mg LD)
 WV:1<=j->d0 P w K mg base "Asker" "stamp" ["self"] 1 (b3 K mg DZ)
 WT:1<=j->d0 P w K mg base "Asker" "place" ["self"] 1 (b3 K mg LC)
 Xi:1<=j->b_ P w K mg base "_law_cell_at" ["script","k"] 1 (b3 K mg oZ)
 Xw:∀n,n+1<=j->b_ P w K mg base "_law_same" ["found","due"] (n+1) (b3 K mg (i_ n))
 Xz:∀n,n+1<=j->b_ P w K mg base "_law_turned" ["rule","shift"] (n+1) (b3 K mg (nR n))
 Xo:8<=j->b_ P w K mg base "_law_hall" ["cell"] 8 (b3 K mg vT)
 Xu:∀n,n+1<=j->b_ P w K mg base "_law_named" ["rule"] (n+1) (b3 K mg (o1 n))
 Xs:8<=j->b_ P w K mg base "_law_members" ["hall"] 8 (b3 K mg tj)
 Xl:∀n,n+1<=j->b_ P w K mg base "_law_filled" ["rule","keepers"] (n+1) (b3 K mg (j7 n))
 Xt:1<=j->b_ P w K mg base "_law_name" ["cell"] 1 (b3 K mg tl)
 Xj:2<=j->b_ P w K mg base "_law_deed" ["cell","seed"] 2 (b3 K mg vR)
 Xk:1<=j->b_ P w K mg base "_law_done" ["slate","me","number","deed"] 1 (b3 K mg tg)
 Xv:1<=j->b_ P w K mg base "_law_page" ["books","keeper","epoch"] 1 (b3 K mg tm)
 Xp:2<=j->b_ P w K mg base "_law_heard" ["books","letter"] 2 (dU K mg lR)
 Xg:9<=j->b_ P w K mg base "_law_asks" ["me","place","stamp"] 9 (b3 K mg vP)
 Xh:1<=j->b_ P w K mg base "_law_best" ["grants","opening"] 1 (b3 K mg vQ)
 Xy:9<=j->b_ P w K mg base "_law_tells" ["me","place","stamp","number","deed","grants"] 9 (b3 K mg tp)
 Xm:10<=j->b_ P w K mg base "_law_ghost" ["books","place","ghost","number","deed","cell"] 10 (dU K mg vS)
 Xq:1<=j->b_ P w K mg base "_law_living" ["cell"] 1 (b3 K mg ti)
 Xx:16<=j->b_ P w K mg base "_law_stands" ["one","world"] 16 (b3 K mg tn)
 Xn:21<=j->b_ P w K mg base "_law_granted" ["one","world","answer"] 21 (dU K mg th)
 Xr:21<=j->b_ P w K mg base "_law_marked" ["one","world","answer"] 21 (dU K mg nQ)
 XA:22<=j->b_ P w K mg base "_law_wish" ["one","world","cell","seed"] 22 (dU K mg vU)
 Eo {f:Addr}{fd:akR}(F:lu K "law" "law" wZ f fd):23<=j->fq P w K mg base eT 23 f fd ["script"] (dU K mg D0)
theorem aE(T:Txt P w K mg base):∀j,P' P w K mg base j
 |0=>by constructor<;>intros<;>omega
 |j+1=>by
  have a6:=aE T j;refine⟨λaZ=>dy T.UN adS rfl ?_,
   λaZ=>dy T.UD adM rfl ?_,
   λaZ=>dy T.U7 aeg rfl ?_,
   λaZ=>dy T.UO adT rfl ?_,
   λaZ=>dy T.Uk adB rfl ?_,
   λaZ=>dy T.UC adL rfl ?_,
   tw (λ_=>T.IC.none (by rintro vs H Q E ⟨O,ds,r,ai,_,_,_,h,_⟩;cases h)) λn aZ=>(p8 (k:=n+2) T.IC aek rfl rfl λf bw A outer s H E aB=>fS.un ?_:b_ P w K mg base _ _ _ (b3 K mg (fnOf 1 3 (xX (qp n))))).mono (by omega),
   λaZ=>dy T.U_ aej rfl ?_,
   tw (λ_=>T.Iw.none (by rintro vs H Q E ⟨O,ds,r,ai,_,_,_,h,_⟩;cases h)) λn aZ=>(p8 (k:=n+2) T.Iw adJ rfl rfl λf bw A outer s H E aB=>fS.un ?_:b_ P w K mg base _ _ _ (b3 K mg (fnOf 2 2 (xS (kr n))))).mono (by omega),
   λaZ=>dy T.U8 aeh rfl ?_,
   λaZ=>dy T.U9 aei rfl ?_,
   λaZ=>dy T.UJ adO rfl ?_,
   λaZ=>dy T.UK adP rfl ?_,
   λaZ=>dy T.Uz adK rfl ?_,
   λaZ=>dy T.UL adQ rfl ?_,
   λaZ=>dy T.UG adN rfl ?_,
   λaZ=>dy T.Um adD rfl ?_,
   λaZ=>dy T.Vb aem rfl ?_,
   λaZ=>dy T.UM adR rfl ?_,
   λaZ=>dy T.Un adE rfl ?_,
   λaZ=>dy T.Ux adH rfl ?_,
   λaZ=>dy T.Us adG rfl ?_,
   λaZ=>dy T.Uo adF rfl ?_,
   λaZ=>(p8 (k:=5) T.U' ael rfl rfl λf bw A outer s H E aB=>fS.un (@qK _ _ _ _ _ _ ((FK (i:=3) (o3 (by kernel_rfl)) rfl (.inl rfl) (PD T.Af rfl (iE ix ip (e3 2) hv)))) (@r' _ _ _ _ ((t6 (afZ (k:=5) (pp:=["slate","asker","deed"]) (lookup_all (by simp only[ak5];exact⟨(a6.JI (by omega)).mono (by omega),(a6.JE (by omega)).mono (by omega),(JL T).mono (by omega),(JM T).mono (by omega),(JJ T).mono (by omega),(JG T).mono (by omega),(JK T).mono (by omega),(JH T).mono (by omega),(JF T).mono (by omega),λ_ h=>nomatch h⟩)) rfl (.inl rfl) (aB.mono (by omega)) (gi (e3 0) (gi (e3 1) (gi (e3 2) lg)))))))):b_ P w K mg base _ _ _ (b3 K mg (fnOf 3 4 xY))),
   λaZ=>dy T.Uy adI rfl ?_,
   λaZ=>dy T.Ul adC rfl ?_,
   λaZ=>dy T.Vc aen rfl ?_,
   λaZ=>(oD (k:=1) T.T3 adj rfl rfl λf bw A outer s H E aB=>?_:d0 P w K mg base _ _ _ _ (dU K mg (fnX 3 3 Be))),
   λaZ=>(oD (k:=17) T.T4 adk rfl rfl λf bw A outer s H E aB=>?_:d0 P w K mg base _ _ _ _ (dU K mg (fnX 1 1 Gz))),
   λaZ=>(WC (k:=18) T.BN adl rfl rfl λf bw A outer s H E aB=>?_:xt P w K mg base _ _ _ _ (dU K mg (fnX 2 2 GA))),
   λaZ=>(oD (k:=18) T.T5 adm rfl rfl λf bw A outer s H E aB=>?_:d0 P w K mg base _ _ _ _ (dU K mg (fnX 1 1 GB))),
   λaZ=>(ri (k:=17) T.Ub adu rfl rfl λf bw A outer s H E aB=>fS.un ?_:d0 P w K mg base _ _ _ _ (b3 K mg (fnOf 2 2 GI))),
   λaZ=>(ri (k:=14) T.Uh ady rfl rfl λf bw A outer s H E aB=>fS.un ?_:d0 P w K mg base _ _ _ _ (b3 K mg (fnOf 2 2 GN))),
   λaZ=>(oD (k:=0) T.T7 ado rfl rfl λf bw A outer s H E aB=>?_:d0 P w K mg base _ _ _ _ (dU K mg (fnX 2 2 Bf))),
   λaZ=>(oD (k:=17) T.T8 adp rfl rfl λf bw A outer s H E aB=>?_:d0 P w K mg base _ _ _ _ (dU K mg (fnX 2 3 GD))),
   λaZ=>(oD (k:=18) T.T' ads rfl rfl λf bw A outer s H E aB=>?_:d0 P w K mg base _ _ _ _ (dU K mg (fnX 2 2 GG))),
   λaZ=>(oD (k:=2) T.T6 adn rfl rfl λf bw A outer s H E aB=>?_:d0 P w K mg base _ _ _ _ (dU K mg (fnX 1 3 GC))),
   λaZ=>(oD (k:=14) T.Ua adt rfl rfl λf bw A outer s H E aB=>?_:d0 P w K mg base _ _ _ _ (dU K mg (fnX 2 3 Bg))),
   λaZ=>(oD (k:=19) T.T_ adq rfl rfl λf bw A outer s H E aB=>?_:d0 P w K mg base _ _ _ _ (dU K mg (fnX 2 2 GF))),
   λaZ=>(ri (k:=0) T.Ue adw rfl rfl λf bw A outer s H E aB=>fS.un ?_:d0 P w K mg base _ _ _ _ (b3 K mg (fnOf 1 1 GK))),
   λaZ=>(ri (k:=0) T.Ud adv rfl rfl λf bw A outer s H E aB=>fS.un ?_:d0 P w K mg base _ _ _ _ (b3 K mg (fnOf 1 1 GJ))),
   λaZ=>(ri (k:=0) T.Uj adA rfl rfl λf bw A outer s H E aB=>fS.un ?_:d0 P w K mg base _ _ _ _ (b3 K mg (fnOf 1 1 GP))),
   λaZ=>(ri (k:=0) T.Ui adz rfl rfl λf bw A outer s H E aB=>fS.un ?_:d0 P w K mg base _ _ _ _ (b3 K mg (fnOf 1 1 GO))),
   λaZ=>(ri (k:=0) T.Ug adx rfl rfl λf bw A outer s H E aB=>fS.un ?_:d0 P w K mg base _ _ _ _ (b3 K mg (fnOf 1 1 GL))),
   λaZ=>dy T.UR adX rfl ?_,
   tw (λ_=>T.IA.none (by rintro vs H Q E ⟨O,ds,r,ai,_,_,_,h,_⟩;cases h)) λn aZ=>(p8 (k:=n+1) T.IA aeb rfl rfl λf bw A outer s H E aB=>fS.un ?_:b_ P w K mg base _ _ _ (b3 K mg (fnOf 2 4 (Hr (i_ n))))).mono (by omega),
   tw (λ_=>T.IB.none (by rintro vs H Q E ⟨O,ds,r,ai,_,_,_,h,_⟩;cases h)) λn aZ=>(p8 (k:=n+1) T.IB aee rfl rfl λf bw A outer s H E aB=>fS.un ?_:b_ P w K mg base _ _ _ (b3 K mg (fnOf 2 2 (xW (nR n))))).mono (by omega),
   λaZ=>dy T.UX ad3 rfl ?_,
   tw (λ_=>T.Iz.none (by rintro vs H Q E ⟨O,ds,r,ai,_,_,_,h,_⟩;cases h)) λn aZ=>(p8 (k:=n+1) T.Iz ad9 rfl rfl λf bw A outer s H E aB=>fS.un ?_:b_ P w K mg base _ _ _ (b3 K mg (fnOf 1 3 (xV (o1 n))))).mono (by omega),
   λaZ=>dy T.U1 ad7 rfl ?_,
   tw (λ_=>T.Iy.none (by rintro vs H Q E ⟨O,ds,r,ai,_,_,_,h,_⟩;cases h)) λn aZ=>(p8 (k:=n+1) T.Iy ad0 rfl rfl λf bw A outer s H E aB=>fS.un ?_:b_ P w K mg base _ _ _ (b3 K mg (fnOf 2 2 (Ha (j7 n))))).mono (by omega),
   λaZ=>dy T.U2 ad8 rfl ?_,
   λaZ=>dy T.US adY rfl ?_,
   λaZ=>dy T.UT adZ rfl ?_,
   λaZ=>dy T.U3 aea rfl ?_,
   λaZ=>(u7 (k:=1) T.UY ad4 rfl rfl λf bw A outer s H E aB=>?_:b_ P w K mg base _ _ _ (dU K mg (fnX 2 11 He))),
   λaZ=>dy T.UP adV rfl ?_,
   λaZ=>dy T.UQ adW rfl ?_,
   λaZ=>dy T.U5 aed rfl ?_,
   λaZ=>(u7 (k:=9) T.UU ad1 rfl rfl λf bw A outer s H E aB=>?_:b_ P w K mg base _ _ _ (dU K mg (fnX 6 14 Bl))),
   λaZ=>dy T.UZ ad5 rfl ?_,
   λaZ=>dy T.U4 aec rfl ?_,
   λaZ=>(u7 (k:=20) T.UW ad2 rfl rfl λf bw A outer s H E aB=>?_:b_ P w K mg base _ _ _ (dU K mg (fnX 3 10 Bm))),
   λaZ=>(u7 (k:=20) T.U0 ad6 rfl rfl λf bw A outer s H E aB=>?_:b_ P w K mg base _ _ _ (dU K mg (fnX 3 4 Bo))),
   λaZ=>(u7 (k:=21) T.U6 aef rfl rfl λf bw A outer s H E aB=>?_:b_ P w K mg base _ _ _ (dU K mg (fnX 4 11 Hu))),
   λF aZ=>(Ck (k:=22) F adU rfl rfl λbw A outer s H E aB=>?_:fq P w K mg base eT _ _ _ _ (dU K mg (fnX 1 8 G5)))⟩
  all_goals try intro f bw A outer s H E aB
  all_goals repeat' first
   |((with_reducible show a' _ _ _);first
    |(with_reducible show a' _ _ (I _));exact e3 _
    |(with_reducible show a' _ (.BoolOp _ [_] _) _);refine agb ?_
    |(with_reducible show a' _ _ (ab aL _ _));refine iE ix ip ?_ ?_ (λ_ _=>rfl)
    |(with_reducible show a' _ _ (bB _));refine qI ?_
    |(with_reducible show a' _ _ (bA _ aj));refine' afY ?_ ?_ rfl
    |(with_reducible show a' _ _ (bA _ _));refine' afX ?_ ?_ rfl ?_
    |(with_reducible show a' _ _ (aa (.int _)));first|exact hv|exact r9 (MD rfl T.Ct) λ_ _=>rfl
    |(with_reducible show a' _ _ (aa .aG));exact af9
    |(with_reducible show a' _ _ (aa (.aC _)));exact afW
    |(with_reducible show a' _ _ (aa (.ty "tuple")));exact r9 (wC (v:=.ty "tuple") rfl T.B.tuple' x5 rfl) λ_ _=>rfl
    |(with_reducible show a' _ _ (aa (.ty "bool")));exact r9 (wC (v:=.ty "bool") rfl T.B.S_ Tb rfl) λ_ _=>rfl
    |(with_reducible show a' _ _ (aa (.ty "str")));exact r9 (wC (v:=.ty "str") rfl T.B.aeK Te rfl) λ_ _=>rfl
    |(with_reducible show a' _ _ (aa (.ty "int")));exact r9 (wC (v:=.ty "int") rfl T.B.Kn H5 rfl) λ_ _=>rfl
    |(with_reducible show a' _ _ (aa (.ty "list")));exact r9 (wC (v:=.ty "list") rfl T.B.ZW Tc rfl) λ_ _=>rfl
    |(with_reducible show a' _ _ (aa (.str _)));first|exact age|exact r9 (MD rfl T.Cu) λ_ _=>rfl
    |(with_reducible show a' _ _ (ab f7 _ _));refine l2 aa4 QM ?_ ?_
    |(with_reducible show a' _ _ (ab oMod _ _));refine l2 abc QU ?_ ?_
    |(with_reducible show a' _ _ (ab eG _ _));refine l2 aa8 QR ?_ ?_
    |(with_reducible show a' _ _ (ab jy _ _));refine l2 aa7 QP ?_ ?_
    |(with_reducible show a' _ _ (ab tD _ _));refine l2 aa5 QQ ?_ ?_
    |(with_reducible show a' _ _ (ab nZ _ _));refine l2 abg QW ?_ ?_
    |(with_reducible show a' _ _ (ab Eh _ _));refine l2 abj QZ ?_ ?_
    |(with_reducible show a' _ _ (ab wh _ _));refine l2 abd QV ?_ ?_
    |(with_reducible show a' _ _ (ab Ed _ _));refine l2 aa6 QN ?_ ?_
    |(with_reducible show a' _ _ (ab tC _ _));refine l2 abf QO ?_ ?_
    |(with_reducible show a' _ _ (ab Ee _ _));refine l2 abh QX ?_ ?_
    |(with_reducible show a' _ _ (ab Ef _ _));refine l2 abi QY ?_ ?_
    |(with_reducible show a' _ _ (ab oEq _ _));refine r8 (Ep aB.units) Bb ?_ ?_ (jx _)
    |(with_reducible show a' _ _ (ab ky _ _));refine r8 Mu Gw ?_ ?_ (jx _)
    |(with_reducible show a' _ _ (ab nY _ _));refine r8 Mw Gy ?_ ?_ (jx _)
    |(with_reducible show a' _ _ (ab o7 _ _));refine r8 Mr Gu ?_ ?_ (jx _)
    |(with_reducible show a' _ _ (ab oLt _ _));refine r8 Mv Gx ?_ ?_ (jx _)
    |(with_reducible show a' _ _ (ab (h6 false) _ _));refine r8 Ms (Bc false) ?_ ?_ rfl
    |(with_reducible show a' _ _ (ab (tE false) _ _));refine r8 Mt Gv ?_ ?_ rfl
    |(with_reducible show a' _ _ (cE gq _));refine m2 Ts Za rfl T.B.len H7 ?_
    |(with_reducible show a' _ _ (cE hZ _));refine m2 (Tq T.kt) Y_ rfl T.B.isinstance H6 ?_
    |(with_reducible show a' _ _ (cE uR _));refine m2 (Tr T.kt) σ' rfl T.B.isinstance H6 ?_
    |(with_reducible show a' _ _ (cE sI _));refine m2 (To rfl) Y8 rfl T.B.all Ta ?_
    |(with_reducible show a' _ _ (cE (ym _) _));refine m2 (Tu rfl) Y6 rfl T.B.max H8 ?_
    |(with_reducible show a' _ _ (cE uT _));refine m2 (Tv rfl) Zc rfl T.B.max H8 ?_
    |(with_reducible show a' _ _ (cE (nz f6) _));refine m2 (Ia rfl Zv) KI rfl T.B.sorted Bv ?_
    |(with_reducible show a' _ _ (cE (nz iz) _));refine m2 (Ia rfl Zw) KI rfl T.B.sorted Bv ?_
    |(with_reducible show a' _ _ (cE sL _));refine m2 (Tw rfl) Zd rfl T.B.sum Tf ?_
    |(with_reducible show a' _ _ (cE uP _));refine m2 Tn Y7 rfl T.B.abs S' ?_
    |(with_reducible show a' _ _ (cE uS _));refine m2 Tt Zb rfl T.B.len H7 ?_
    |(with_reducible show a' _ _ (cE uQ _));refine An Tp Y9 rfl T.B.Kn H5 ?_
    |(with_reducible show a' _ _ (cE mq _));refine An BD Dt rfl T.B.tuple' x5 ?_
    |(with_reducible show a' _ _ (dJ _));refine af5 ?_
    |(with_reducible show a' _ _ (lF _ _));refine afT ?_ ?_
    |(with_reducible show a' _ _ (x9 _));refine aga ?_
    |(with_reducible show a' _ _ (bQ oBits _));refine afV ?_
    |(with_reducible show a' _ _ (eE _ _ _ _ _));refine af0 (uH (xs:=[_]) (by kernel_rfl)) (by decide) ?_ rfl (λ_ _ _ _=>⟨alz rfl,rfl⟩) (λ_ _ _ _=>?_) (λ_ _ _ _=>?_) (he:=rfl) (hN:=rfl)
    |(with_reducible show a' _ _ (sA _ _ _ _));refine af1 (uH (xs:=[_,_]) (by kernel_rfl)) ?_ rfl rfl (λ_ _ _ _=>⟨alz rfl,rfl⟩) (λ_ _ _ _=>⟨alz rfl,rfl⟩) (λ_ _ _ _=>?_) (λ_ _ _ _=>?_) (he:=rfl) (hN:=rfl)
    |(with_reducible show a' _ _ (uC _ _ _ _));refine af2 (uH (xs:=[_,_]) (by kernel_rfl)) rfl T.B.zip ?_ rfl rfl (λ_ _ _ _=>⟨alz rfl,rfl⟩) (λ_ _ _ _=>⟨alz rfl,rfl⟩) (λ_ _ _ _=>?_) (λ_ _ _ _=>?_) (he:=rfl) (hN:=rfl)
    |(with_reducible show a' _ _ (x' _ _ _));refine agc ?_ ?_ ?_
    |(with_reducible show a' _ _ (Bz _ _ _));refine agd ?_ ?_ ?_
    |(with_reducible show a' _ _ (BA _ _));refine PD T.Af rfl ?_
    |(with_reducible show a' _ _ (BB _ _));refine agf T.Du rfl ?_
    |(with_reducible show a' _ _ (ya _ _ _));refine agg aB.units ?_ ?_ ?_
    |(with_reducible show a' _ _ (bQ (cL _ _) _));refine afU T.ov (by simp[zI]) ?_
    |(with_reducible show a' _ _ (ab cM _ _));refine af3 aB.units ?_ ?_
    |(with_reducible show a' _ _ (gf _));refine af4 ?_
    |(with_reducible show a' _ _ (jq _ _ _ _ aj));refine' af8 ?_ ?_ ?_
    |(with_reducible show a' _ _ (jq _ _ _ _ _));refine' af7 ?_ ?_ ?_ ?_)
   |((with_reducible show gK _ _ _);first
    |(with_reducible show gK _ _ (aj));exact lg
    |(with_reducible show gK _ _ (U _ _));refine gi ?_ ?_)
   |((with_reducible show fu _ _ _);first
    |(show fu _ _ (bE _));refine t6 ?_
    |(show fu _ _ (b2 _ (eE _ _ _ _ _)));refine ags (uH (xs:=[_]) (by kernel_rfl)) (o3 (by kernel_rfl)) rfl rfl (by decide) ?_ rfl (λ_ _ _ _=>⟨alz rfl,rfl⟩) (λ_ _ _ _=>?_) (λ_ _ _ _=>?_) (he:=rfl) (hN:=rfl)
    |(show fu _ _ (b2 _ _));refine FK (o3 (by kernel_rfl)) rfl (by first|exact alz rfl|exact akC rfl|exact akC (.inl rfl)|exact akC (akC rfl)) ?_
    |(show fu _ _ (dg _ _ _));refine FJ ?_ ?_ ?_
    |(show fu _ _ (kj _ (eE _ _ _ _ _)));refine FI (uH (xs:=[_]) (by kernel_rfl)) (o3 (by kernel_rfl)) rfl rfl (by decide) ?_ rfl (λ_ _ _ _=>⟨alz rfl,rfl⟩) (λ_ _ _ _=>?_) (λ_ _ _ _=>?_) (he:=rfl) (hN:=rfl)
    |(show fu _ _ (kj _ _));refine agx (o3 (by kernel_rfl)) rfl (by first|exact alz rfl|exact akC rfl|exact akC (.inl rfl)|exact akC (akC rfl)) ?_
    |(show fu _ _ (ou _ _ _));refine agt ank rfl ?_ (o3 (by kernel_rfl)) rfl (by first|exact alz rfl|exact akC rfl|exact akC (.inl rfl)|exact akC (akC rfl)) ?_
    |(show fu _ _ (x7 _ _ _));refine agu ank rfl ?_ ?_ ?_
    |(show fu _ _ (sC _ _ _));refine agv ank rfl rfl T.B.zip ?_ ?_ ?_
    |(show fu _ _ (mc _ _));refine agz rfl ?_ ?_
    |(show fu _ _ (mb _ iD _));refine Ao al0 al1 v5 zk ?_ rfl (by first|exact alz rfl|exact akC rfl|exact akC (.inl rfl)|exact akC (akC rfl))
    |(show fu _ _ (mb _ w' _));refine Ao PySem.F.slot_list_extend PySem.F.type_list_extend aaq Z6 ?_ rfl (by first|exact alz rfl|exact akC rfl|exact akC (.inl rfl)|exact akC (akC rfl))
    |(show fu _ _ (x_ _));exact agy _
    |(show fu _ _ (uD));exact agw)
   |((with_reducible show fE _ _ _);first
    |(with_reducible show fE _ _ (aY (ab oEq _ _)));refine jf (Ep aB.units) Bb ?_ ?_ (jx _)
    |(with_reducible show fE _ _ (aY (ab ef _ _)));refine jf (zQ aB.units) xR ?_ ?_ (jx _)
    |(with_reducible show fE _ _ (aY (ab ky _ _)));refine jf Mu Gw ?_ ?_ (jx _)
    |(with_reducible show fE _ _ (aY (ab nY _ _)));refine jf Mw Gy ?_ ?_ (jx _)
    |(with_reducible show fE _ _ (aY (ab o7 _ _)));refine jf Mr Gu ?_ ?_ (jx _)
    |(with_reducible show fE _ _ (aY (ab wg _ _)));refine jf aba QT ?_ ?_ (jx _)
    |(with_reducible show fE _ _ (aY (ab oLt _ _)));refine jf Mv Gx ?_ ?_ (jx _)
    |(with_reducible show fE _ _ (aY (ab oLe _ _)));refine jf Er Bd ?_ ?_ (jx _)
    |(with_reducible show fE _ _ (aY (ab (o6 g7) _ _)));refine jf (abb aB.units) Gs ?_ ?_ (jx _)
    |(with_reducible show fE _ _ (aY (ab (o6 i9) _ _)));refine jf (aa9 aB.units) Gs ?_ ?_ (jx _)
    |(with_reducible show fE _ _ (aY (ab (h6 false) _ _)));refine jf Ms (Bc false) ?_ ?_ rfl
    |(with_reducible show fE _ _ (aY (ab (h6 true) _ _)));refine jf abe (Bc true) ?_ ?_ rfl
    |(with_reducible show fE _ _ (aY (ab (tE false) _ _)));refine jf Mt Gv ?_ ?_ rfl
    |(with_reducible show fE _ _ (aY (ki _ _ _ _ _)));refine agA Er Bd Er Bd ?_ ?_ ?_
    |(with_reducible show fE _ _ (aY _));refine agC ?_
    |(with_reducible show fE _ _ (gg _));refine agB ?_
    |refine lB.cw ?_)
   |((with_reducible show lB _ _ _);first
    |(with_reducible show lB _ _ (iC _ _));refine agF ?_ ?_
    |(with_reducible show lB _ _ (hQ _ _));refine agD ?_ ?_
    |first|refine agG ?_|refine agE ?_)
   |((with_reducible show fv _ _ _);first
    |(with_reducible show fv _ _ (cS _));refine ag4 ?_
    |(with_reducible show fv _ (.Call (.Attribute _ _ _) [] [] _) (fD _ _ _ _ (e8 _)));refine' ag2 (a6.JD (by omega)) ?_ ?_
    |(with_reducible show fv _ _ (oc _));refine ag3 ?_
    |(with_reducible show fv _ _ (fD _ _ _ _ m4));refine' ag1 ?_ ?_ ?_
    |(with_reducible show fv _ _ (fD _ _ _ _ _));refine' ag0 ?_ ?_ ?_ ?_
    |(with_reducible show fv _ _ (iV _ _));refine' agW ?_ ?_ rfl ?_
    |(with_reducible show fv _ _ (xg _ _ _));refine' agZ T.ov ?_ ?_ rfl ?_
    |(with_reducible show fv _ _ (Aq _ _));refine agX ?_
    |(with_reducible show fv _ _ (xe _));exact agY)
   |((with_reducible show kQ _ _ _);first
    |(with_reducible show kQ _ _ (eR _));refine ahl ?_
    |(with_reducible show kQ _ _ (pA _));refine ahm ?_
    |(with_reducible show kQ _ _ (pz _));refine ahk ?_
    |(with_reducible show kQ _ _ (sd _ _));refine sx.t (ahn ?_ (aho ?_)))
   |((with_reducible show l' _ _ _);first
    |(with_reducible show l' _ _ (e8 _));refine agT ?_
    |(with_reducible show l' _ _ (ic _ _));refine agR ?_ ?_
    |(with_reducible show l' _ _ (Ap _ _));refine agS ?_ ?_)
   |((with_reducible show gW _ _ _);first
    |(show gW _ _ (bU _));refine ahf ?_
    |(show gW _ _ (iF _ _));refine ahh (o3 (by kernel_rfl)) rfl (by first|exact alz rfl|exact akC rfl|exact akC (.inl rfl)|exact akC (akC rfl)) ?_
    |(show gW _ _ (d9 _ _ _));refine ahd ?_ ?_ ?_
    |(show gW _ _ (od _));refine ahg ?_
    |(show gW _ _ (lh _));refine aha ?_
    |(show gW _ _ (e9 _ _ _ _));refine ag8 T.ov (by simp[zI]) ?_ ?_
    |(show gW _ _ (ie _ _ _));refine ag9 aB.units ?_ ?_ ?_
    |(show gW _ _ (xf _ _ _));refine ahb aB.units ?_ ?_ ?_
    |(show gW _ _ (pw iD _ _));refine ahe al0 al1 v5 zk ?_ ?_
    |(show gW _ _ (qL _ _ _));refine ahc ank rfl ?_ (o3 (by kernel_rfl)) rfl (by first|exact alz rfl|exact akC rfl|exact akC (.inl rfl)|exact akC (akC rfl)) ?_)
   |((with_reducible show fS _ _ _);first|exact FL|refine r' ?_|refine qK ?_ ?_)
   |((with_reducible show kf _ _ _);first|((show kf _ _ (bI _ _));refine ahi ?_ ?_)|((with_reducible show kf _ [] _);refine PX ?_)|refine ahj ?_|refine PX ?_)
   |((with_reducible show pT _ _ _);first|exact agk|refine FF ?_)
   |((with_reducible show cK _ _);exact aB.mono (by omega))
   |((with_reducible show b_ _ _ _ _ _ _ _ _ _);first|exact(a6.Xe (by omega))|exact(a6.W7 (by omega))|exact(a6.XB (by omega))|exact(a6.Xf (by omega))|exact W8 T|exact(a6.WX (by omega))|exact(a6.W6 (by omega))|exact a6.XF _ (by omega)|exact(a6.XE (by omega))|exact a6.W4 _ (by omega)|exact W' T|exact(a6.XC (by omega))|exact(a6.XD (by omega))|exact(a6.Xa (by omega))|exact(a6.Xb (by omega))|exact W_ T|exact(a6.W5 (by omega))|exact(a6.Xc (by omega))|exact(a6.W9 (by omega))|exact(a6.WZ (by omega))|exact(a6.XH (by omega))|exact(a6.Xd (by omega))|exact(a6.W0 (by omega))|exact XJ T|exact(a6.W2 (by omega))|exact XK T|exact(a6.JI (by omega))|exact(a6.JE (by omega))|exact JL T|exact JM T|exact JJ T|exact JG T|exact JK T|exact JH T|exact JF T|exact(a6.XG (by omega))|exact(a6.W3 (by omega))|exact(a6.WY (by omega))|exact(a6.XI (by omega))|exact(a6.Xi (by omega))|exact a6.Xw _ (by omega)|exact a6.Xz _ (by omega)|exact(a6.Xo (by omega))|exact a6.Xu _ (by omega)|exact(a6.Xs (by omega))|exact a6.Xl _ (by omega)|exact(a6.Xt (by omega))|exact(a6.Xj (by omega))|exact(a6.Xk (by omega))|exact(a6.Xv (by omega))|exact(a6.Xp (by omega))|exact(a6.Xg (by omega))|exact(a6.Xh (by omega))|exact(a6.Xy (by omega))|exact(a6.Xm (by omega))|exact(a6.Xq (by omega))|exact(a6.Xx (by omega))|exact(a6.Xn (by omega))|exact(a6.Xr (by omega))|exact(a6.XA (by omega)))
   |((with_reducible show d0 _ _ _ _ _ _ _ _ _ _);first|exact(a6.WD (by omega))|exact(a6.WE (by omega))|exact(a6.JD (by omega)).all|exact(a6.WG (by omega))|exact(a6.WO (by omega))|exact(a6.WU (by omega))|exact(a6.WI (by omega))|exact(a6.WJ (by omega))|exact(a6.WM (by omega))|exact(a6.WH (by omega))|exact WQ T|exact WK T|exact(a6.WN (by omega))|exact(a6.WL (by omega))|exact(a6.WS (by omega))|exact(a6.WR (by omega))|exact(a6.WW (by omega))|exact(a6.WV (by omega))|exact(a6.WT (by omega)))
   |(first|exact EE|refine wG (o3 (by kernel_rfl)) rfl (by first|exact alz rfl|exact akC rfl|exact akC (.inl rfl)|exact akC (akC rfl)) ?_|refine afN ?_|refine FE ?_|refine afO rfl T.B.range ?_|refine afP ?_|refine agh ?_|refine agj ?_|refine agi rfl T.B.range ?_|refine ag5 ?_|refine ag6 rfl T.B.range ?_|exact agq|refine agr ?_|exact agV|refine agU ?_ ?_)
def Eo(T:Txt P w K mg base)(F:lu K "law" "law" wZ f fd):fq P w K mg base eT 23 f fd ["script"] (dU K mg D0):=(aE T 23).Eo F (ajK _)
end
end fb
set_option maxHeartbeats 1000000
namespace a0
open PySem PySem.Spec aF
@[simp] theorem ah7{x y:R}:jy x y=match x.own,y.own with
 |some xs,some ys=>if xs.length+ys.length<=ajL then pure (.fr (xs++ys))else bad|_,_=>bad:=rfl
@[simp] theorem ajq{i j:Int}(ae:0<j)(ah:j<10 ^ 200):oi i j:=hG ae ah
def A_{α:Type}{xs:List α}{i:Int}{v:α}(h:e_ xs i=some v):v∈xs:=by
 obtain⟨j,_,e,_⟩:=xP h;exact akt e
def A'{α:Type}{xs:List α}{i:Int}(h0:0<=i)(ae:i<xs.length):∃v,e_ xs i=some v:=by
 have au:i.toNat<xs.length:=by omega
 refine⟨xs[i.toNat],?_⟩;have:=pV (xs:=xs) i.toNat (v:=xs[i.toNat]) (by simp[au])
 rwa[Int.toNat_of_nonneg h0]at this
end a0
namespace jP
inductive aP where
 |kp (k:Nat)
 |ch (k:Nat) (ps:List aP)
mutual
def aP.names:aP->List Nat
 |.kp k=>[k]
 |.ch _ ps=>aP.en ps
def aP.en:List aP->List Nat
 |[]=>[]
 |r::rs=>r.names++aP.en rs
end
mutual
def aP.deep:aP->Nat
 |.kp _=>0|.ch _ ps=>aP.mi ps+1
def aP.mi:List aP->Nat
 |[]=>0|r::rs=>max r.deep (aP.mi rs)
end
mutual
def aP.wf:aP->Prop
 |.kp k=>k<6|.ch k ps=>1<=k/\k<=ps.length/\ps.length<=6/\aP.jK ps
def aP.jK:List aP->Prop
 |[]=>True|r::rs=>r.wf/\aP.jK rs
end
mutual
def aP.fills(p:Nat->Bool):aP->Bool
 |.kp k=>p k|.ch k ps=>decide (k<=aP.cnt p ps)
def aP.cnt(p:Nat->Bool):List aP->Nat
 |[]=>0|r::rs=>(if r.fills p then 1 else 0)+aP.cnt p rs
end
theorem xd:∀{ps:List aP},aP.jK ps↔∀r∈ps,r.wf
 |[]=>by simp[aP.jK]| r::rs=>by simp[aP.jK,xd]
theorem q5:∀{ps:List aP}{n:Nat},aP.mi ps<n->∀r∈ps,r.deep<n
 |r::rs,n,h,x,ag=>by
  simp only[aP.mi]at h;rcases ajN.mp ag with rfl|ag
  .omega
  .exact q5 (ps:=rs) (by omega) x ag
theorem yc(p:Nat->Bool):∀ps:List aP,(ps.filter (aP.fills p)).length=aP.cnt p ps
 |[]=>rfl|r::rs=>by
  rw[List.filter_cons];simp only[aP.cnt]
  cases h:r.fills p with
  |true=>simp[yc p rs];omega|false=>simp[yc p rs]
mutual
theorem I1:∀r:aP,r.wf->r.fills (λ_=>false)=false
 |.kp _,_=>by simp[aP.fills]|.ch k ps,h=>by
  simp only[aP.wf]at h;simp only[aP.fills,cnt_none ps h.2.2.2];exact decide_eq_false (by omega)
theorem cnt_none:∀ps:List aP,aP.jK ps->aP.cnt (λ_=>false) ps=0
 |[],_=>rfl|r::rs,h=>by
  simp only[aP.jK]at h;simp only[aP.cnt,I1 r h.1,cnt_none rs h.2];rfl
end
mutual
theorem tv:∀r:aP,r.wf->∀k∈r.names,k<6
 |.kp k,h,x,ag=>by simp only[aP.names,aj0]at ag;simp only[aP.wf]at h;omega| .ch k ps,h,x,ag=>by simp only[aP.wf]at h;exact L4 ps h.2.2.2 x (by simpa only[aP.names]using ag)
theorem L4:∀ps:List aP,aP.jK ps->∀k∈aP.en ps,k<6
 |[],_,x,ag=>by simp[aP.en]at ag|r::rs,h,x,ag=>by
  simp only[aP.jK]at h;simp only[aP.en,akp]at ag;rcases ag with ag|ag
  .exact tv r h.1 x ag
  .exact L4 rs h.2 x ag
end
theorem v_:∀ps ha:List aP,aP.en (ps++ha)=aP.en ps++aP.en ha
 |[],_=>rfl|r::rs,ha=>by
  show r.names++aP.en (rs++ha)=(r.names++aP.en rs)++aP.en ha;rw[v_ rs ha,aml]
end jP
namespace a0
open PySem PySem.Spec aF jP
mutual
def enc:aP->D
 |.kp k=>.int (k:Nat)|.ch k ps=>.tup [.int (k:Nat),.tup (encL ps)]
def encL:List aP->List D
 |[]=>[]
 |r::rs=>enc r::encL rs
end
theorem IM:∀ps:List aP,encL ps=ps.map enc
 |[]=>rfl| r::rs=>by rw[ajP,<-IM rs];rfl
def p3(k:Nat)(ps:List aP):enc (.ch k ps)=.tup [.int (k:Nat),.tup (ps.map enc)]:=by rw[<-IM];rfl
def q8(k:Nat):enc (.kp k)=.int (k:Nat):=rfl
@[simp] theorem E_(r:aP):dC (enc r)=.v (enc r):=by cases r<;>rfl
end a0
namespace hB
def gY(m k:Nat):Bool:=m / 2 ^ k % 2==1
def y9(m:Nat):List Nat:=(aj6 (if m==0 then 0 else m.log2+1)).filter (gY m)
def sy(b:Bool)(n:Nat):Nat:=if b then n else 0
def tu(eX b4 b5 gX hX jV:Bool):Nat:=sy eX 1+sy b4 2+sy b5 4+sy gX 8+sy hX 16+sy jV 32
def nV(p:Nat->Bool):Nat:=tu (p 0) (p 1) (p 2) (p 3) (p 4) (p 5)
def aao(p:Nat->Bool)(k:Nat)(ax:k<6):nV p ||| 2 ^ k=nV λj=>p j||j==k:=by
 have all:∀eX b4 b5 gX hX jV:Bool,∀k:Fin 6,tu eX b4 b5 gX hX jV ||| 2 ^ k.val=tu (eX||0==k.val) (b4||1==k.val) (b5||2==k.val) (gX||3==k.val) (hX||4==k.val) (jV||5==k.val):=by decide +kernel
 exact all (p 0) (p 1) (p 2) (p 3) (p 4) (p 5) ⟨k,ax⟩
def L2(p:Nat->Bool)(k:Nat)(ax:k<6):(nV p / 2 ^ k % 2==1)=p k:=by
 have all:∀eX b4 b5 gX hX jV:Bool,∀k:Fin 6,(tu eX b4 b5 gX hX jV / 2 ^ k.val % 2==1)=[eX,b4,b5,gX,hX,jV].getD k.val false:=by decide +kernel
 have e:=all (p 0) (p 1) (p 2) (p 3) (p 4) (p 5) ⟨k,ax⟩;rw[show nV p=tu (p 0) (p 1) (p 2) (p 3) (p 4) (p 5)from rfl,e];have:k=0\/k=1\/k=2\/k=3\/k=4\/k=5:=by omega
 rcases this with rfl|rfl|rfl|rfl|rfl|rfl<;>rfl
def aan(p:Nat->Bool):nV p<64:=by
 have all:∀eX b4 b5 gX hX jV:Bool,tu eX b4 b5 gX hX jV<64:=by decide +kernel
 exact all _ _ _ _ _ _
def bits(m:Nat):Nat:=if m==0 then 0 else m.log2+1
def maskOf(ns:List Nat):Nat:=ns.foldl (λm k=>m ||| 2 ^ k) 0
theorem LY:∀(ns:List Nat)(p:Nat->Bool),(∀n∈ns,n<6)->ns.foldl (λm k=>m ||| 2 ^ k) (nV p)=nV λj=>p j||ns.contains j
 |[],p,_=>by simp|n::r,p,h=>by
  rw[List.foldl_cons,aao p n (h n ajR),LY r _ λx ag=>h x (ajM _ ag)]
  congr 1
  funext j
  rw[List.contains_cons,Bool.or_assoc]
def zx(ns:List Nat)(h:∀n∈ns,n<6):maskOf ns=nV λj=>ns.contains j:=by
 have e:=LY ns (λ_=>false) h;have z:nV (λ_=>false)=0:=rfl;rw[z]at e;show ns.foldl (λm k=>m ||| 2 ^ k) 0=_;rw[e];simp
end hB
namespace l8
open hB jP
mutual
theorem I0{p q:Nat->Bool}:∀r:aP,(∀k∈r.names,p k=q k)->r.fills p=r.fills q
 |.kp k,h=>by simp only[aP.fills];exact h k (by simp[aP.names])| .ch k ps,h=>by simp only[aP.fills];rw[Ip ps λk ax=>h k (by simpa[aP.names]using ax)]
theorem Ip{p q:Nat->Bool}:∀ps:List aP,(∀k∈aP.en ps,p k=q k)->aP.cnt p ps=aP.cnt q ps
 |[],_=>rfl|r::rs,h=>by
  simp only[aP.cnt];rw[I0 r λk ax=>h k (by simp[aP.en,ax]),Ip rs λk ax=>h k (by simp[aP.en,ax])]
end
end l8
namespace a0
open PySem PySem.Spec aF hB jP l8
def bl(k:Nat):D:=.int (k:Int)
def lS(k:Nat):bl k=.int (k:Int):=rfl
def QC(x:Int):amm x 1=x % 2:=W.kbt_mask x 1
def Es(a b:Nat):amZ (a:Int) (b:Int)=((a ||| b:Nat):Int):=by
 have ae:decide (0<=ak7 (a:Int))=false:=decide_eq_false (by unfold ak7;omega);have ah:decide (0<=ak7 (b:Int))=false:=decide_eq_false (by unfold ak7;omega);have ao:(ak7 (ak7 (a:Int))).toNat=a:=by unfold ak7;omega
 have az:(ak7 (ak7 (b:Int))).toNat=b:=by unfold ak7;omega
 unfold amZ amm;rw[ae,ah];dsimp only;rw[ao,az];unfold ak7;omega
def YP(m:Nat):akW (m:Int)=hB.bits m:=by
 unfold akW hB.bits;rw[Int.natAbs_natCast]
 by_cases h:m=0
 .subst h;rfl
 .have h':(m:Int)≠0:=by omega
  rw[beq_eq_false_iff_ne.mpr h,beq_eq_false_iff_ne.mpr h']
def bits_le(m:Nat)(h:m<64):hB.bits m<=6:=by
 have all:∀m:_root_.Fin 64,hB.bits m.val<=6:=by decide +kernel
 exact all ⟨m,h⟩
def Zj(m:Nat):y9 m=(aj6 (hB.bits m)).filter (gY m):=rfl
def vX(bj:List Nat)(k:Nat):hB.maskOf (bj++[k])=hB.maskOf bj ||| 2 ^ k:=by
 unfold hB.maskOf;rw[List.foldl_append];rfl
def take_snoc{α:Type}{l:List α}{i:Nat}{x:α}(h:l[i]? = some x):l.take (i+1)=l.take i++[x]:=by
 rw[anV,h];rfl
def D2{α β:Type}{f:α->β}{l:List α}{i:Nat}{y:β}(h:(l.map f)[i]? = some y):∃x,l[i]? = some x/\y=f x:=by
 rw[akc]at h
 cases e:l[i]? with
 |none=>rw[e]at h;cases h
 |some x=>rw[e]at h;exact⟨x,rfl,(akd h).symm⟩
def S8(m k:Nat):(amm ((m:Int) / 2 ^ k) 1==1)=gY m k:=by
 rw[QC];unfold gY;have ao:((m:Int) / 2 ^ k) % 2=((m / 2 ^ k % 2:Nat):Int):=by
  rw[Int.natCast_emod,Int.natCast_ediv,Int.natCast_pow];rfl
 rw[ao,ak3,beq_iff_eq,beq_iff_eq];omega
def Nk(n:Nat):kC 0 n=(aj6 n).map bl:=by
 unfold kC;refine List.map_congr_left λi _=>?_
 show D.int (0+(i:Int))=.int (i:Int);rw[Int.zero_add]
def Kk(k:Nat)(bj:List Nat):inD (bl k) (bj.map bl)=bj.contains k:=by
 unfold inD;rw[List.any_map,List.contains_eq_any_beq]
 congr 1
 funext j
 show jz (.int (j:Int)) (.int (k:Int))=(k==j);rw[ak3,beq_iff_eq];simp[jz];omega
theorem kR{α:Type}{t:aR->M Bool}{el:bo}{Y:aR}(f:α->D)(p:α->Bool)(g:α->D):∀xs:List α,(∀x∈xs,t (Y.set 0 (.v (f x)))=pure (p x))->(∀x∈xs,p x=true->(el (Y.set 0 (.v (f x))) >>= R.dat)=pure (g x))->
  fV t el Y (xs.map f)=pure ((xs.filter p).map g)
 |[],_,_=>rfl|x::xs,ae,ah=>by
  have a6:=kR f p g xs (λx ag=>ae x (ajM _ ag)) λx ag=>ah x (ajM _ ag)
  rw[ajP];unfold fV;rw[ae x ajR,pure_bind]
  cases e:p x with
  |false=>rw[if_neg ajO,a6,List.filter_cons_of_neg (by rw[e];exact ajO)]|true=>
   have h:=ah x ajR e;rw[if_pos rfl,<-bind_assoc,h,pure_bind,a6,pure_bind,List.filter_cons_of_pos e];rfl
def q2{α:Type}{el:bo}{Y:aR}(f:α->D)(g:α->D)(xs:List α)(h:∀x∈xs,(el (Y.set 0 (.v (f x))) >>= R.dat)=pure (g x)):fV gv el Y (xs.map f)=pure (xs.map g):=by
 have:=kR (t:=gv) (el:=el) (Y:=Y) f (λ_=>true) g xs (λ_ _=>rfl) λx ag _=>h x ag
 rw[this]
 congr 2
 exact List.filter_eq_self.mpr λ_ _=>rfl
theorem Cn{α:Type}{b:D->a3}(f:α->D)(p:α->Bool)(v:α->R)(J:aR->Prop):∀(xs:List α)(Y:aR),J Y->
  (∀x Y,x∈xs->J Y->(p x=true->b (f x) Y=pure (.cQ (v x)))/\(p x=false->∃Y',b (f x) Y=pure (.bh Y')/\J Y'))->
  (∀x,xs.find? p=some x->hr b (xs.map f) Y=pure (.cQ (v x)))/\(xs.find? p=none->∃Y',hr b (xs.map f) Y=pure (.bh Y')/\J Y')
 |[],Y,h0,_=>⟨λx h=>(nomatch h),λ_=>⟨Y,rfl,h0⟩⟩
 |x::xs,Y,h0,step=>by
  obtain⟨s1,s2⟩:=step x Y ajR h0
  cases e:p x with
  |true=>
   rw[akL e];refine⟨λy h=>?_,λh=>(nomatch h)⟩;cases h;show(b (f x) Y >>= _)=_;rw[s1 e];rfl
  |false=>
   obtain⟨ig,ao,ae⟩:=s2 e;have a6:=Cn f p v J xs ig ae λy Y bg=>step y Y (ajM _ bg)
   rw[akA (by rw[e];exact ajO)];have u:hr b ((x::xs).map f) Y=hr b (xs.map f) ig:=by
    show(b (f x) Y >>= _)=_;rw[ao];rfl
   rw[u];exact a6
end a0
namespace a0
open PySem PySem.Spec aF
mutual
def D.FG:D->Bool
 |.tup xs=>decide (xs.length<=1000)&&qJ xs|.lst xs=>decide (xs.length<=1000)&&qJ xs|.ref _=>true|.fn _=>true|.ty _=>true|.aG=>true|.aC _=>true|.int _=>true|.str _=>true
def qJ:List D->Bool
 |[]=>true|x::xs=>x.FG&&qJ xs
end
theorem FH:∀{xs:List D},qJ xs=true↔∀x∈xs,x.FG=true
 |[]=>by simp[qJ]| x::xs=>by simp[qJ,FH]
theorem Cv:∀{xs:List D}{n:Nat},iN xs n=true↔∀x∈xs,x.bV n=true
 |[],_=>by simp[iN]| x::xs,n=>by simp[iN,Cv]
def Ok(n:Nat)(d:D):Prop:=d.bV n=true/\d.FG=true
def mQ:Ok n .aG:=⟨rfl,rfl⟩
def h7{i:Int}:Ok n (.int i):=⟨rfl,rfl⟩
def tK(h:aj2 x=true):Ok n (.str x):=⟨h,rfl⟩
def o_{xs:List D}(au:xs.length<=1000)(h:∀x∈xs,Ok n x):Ok (n+1) (.tup xs):=
 ⟨Cv.mpr λx ag=>(h x ag).1,by show(decide (xs.length<=1000)&&qJ xs)=true;rw[decide_eq_true au,FH.mpr λx ag=>(h x ag).2];rfl⟩
def VZ:∀{d:D}{n m:Nat},n<=m->d.bV n=true->d.bV m=true:=by
 intro d
 induction d using D.rec (motive_2:=λds=>∀n m,n<=m->iN ds n=true->iN ds m=true)with
 |aG=>exact λ_ h=>h
 |aC _=>exact λ_ h=>h
 |int _=>exact λ_ h=>h
 |str _=>exact λ_ h=>h
 |fn _=>exact λ_ h=>h
 |ty _=>exact λ_ h=>h
 |ref _=>exact λ_ h=>h
 |tup xs a6=>
  intro n m hm h
  cases n with
  |zero=>cases h
  |succ n=>
   cases m with
   |zero=>omega| succ m=>exact a6 n m (by omega) h
 |lst xs a6=>
  intro n m hm h
  cases n with
  |zero=>cases h
  |succ n=>
   cases m with
   |zero=>omega| succ m=>exact a6 n m (by omega) h
 |nil=>rfl|cons x xs vp vq=>
  rename_i n m hm h;have h:(x.bV n&&iN xs n)=true:=h;rw[ako]at h;show(x.bV m&&iN xs m)=true;rw[vp hm h.1,vq n m hm h.2];rfl
def tJ(h:Ok n d)(hm:n<=m):Ok m d:=⟨VZ hm h.1,h.2⟩
def tG(ae:Ok n a)(ah:Ok n b):Ok (n+1) (.tup [a,b]):=o_ (by simp) (by simp only[ak5];exact⟨ae,ah,λ_ h=>nomatch h⟩)
def Em(ae:Ok n a)(ah:Ok n b)(bF:Ok n c):Ok (n+1) (.tup [a,b,c]):=o_ (by simp) (by simp only[ak5];exact⟨ae,ah,bF,λ_ h=>nomatch h⟩)
def Mp(ae:Ok n a)(ah:Ok n b)(bF:Ok n c)(dw:Ok n d):Ok (n+1) (.tup [a,b,c,d]):=o_ (by simp) (by simp only[ak5];exact⟨ae,ah,bF,dw,λ_ h=>nomatch h⟩)
def Mq(ae:Ok n a)(ah:Ok n b)(bF:Ok n c)(dw:Ok n d)(eO:Ok n e)(fZ:Ok n f):Ok (n+1) (.tup [a,b,c,d,e,f]):=o_ (by simp) (by simp only[ak5];exact⟨ae,ah,bF,dw,eO,fZ,λ_ h=>nomatch h⟩)
def aaW:Ok (n+1) (.tup []):=o_ (by simp) λ_ h=>nomatch h
@[simp] theorem aiw{z:Str}:uS [.v (.str z)]=if z.length<=ajL then pure (.v (.int (z.length:Nat)))else bad:=rfl
@[simp] theorem ah8{x y:Str}:tD (.v (.str x)) (.v (.str y))=if x.length+y.length<=ajL then pure (.v (.str (x++y)))else bad:=rfl
def VD(b:Bool):oEq (.v (.aC b)) (.v (.aC b))=pure (.v (.aC true)):=by rw[uL rfl rfl];simp[jz]
def eq_str(h:aj2 x=true):oEq (.v (.str x)) (.v (.str x))=pure (.v (.aC true)):=by rw[uL (x:=.v (.str x)) (y:=.v (.str x)) h h];simp[jz]
structure Qk where
 e:Int
 p1:Int
 dB:Int
 g6:Int
 gr:Int
 bW:D
def cU(a b:Int):D:=.tup [.int a,.int b]
def g9(g:Qk):D:=.tup [.int g.e,cU g.p1 g.dB,cU g.g6 g.gr,g.bW]
end a0
namespace a0
open PySem PySem.Spec aF PyProof.Rows
section
variable{Q:alg}[DecidableEq Q.α]
def kO(Q:alg)(l:List (Q.α×D)):Prop:=l.Pairwise λa b=>Q.blt a.1 b.1=true
def kO.nodup{l:List (Q.α×D)}(h:kO Q l):(l.map (·.1)).Nodup:=by
 rw[List.nodup_iff_pairwise_ne,anW];refine List.Pairwise.imp (λ{a b} h e=>?_) h;rw[e,Q.irrefl]at h;cases h
def hH(l:List (Q.α×D))(a:Q.α):List (Q.α×D):=l.filter λq=>!decide (q.1=a)
def jd(l:List (Q.α×D))(p:Q.α×D):List (Q.α×D):=hH l p.1++[p]
def lW(l:List (Q.α×D))(p:Q.α×D):List (Q.α×D):=hP Q.blt (jd l p)
def gE(l:List (Q.α×D))(a:Q.α):Option D:=(l.find? λq=>decide (q.1=a)).map (·.2)
def BU{l:List (Q.α×D)}(a:Q.α)(h:(l.map (·.1)).Nodup):((hH l a).map (·.1)).Nodup:=h.sublist (List.filter_sublist.map _)
def sE{l:List (Q.α×D)}{a:Q.α}{x:Q.α×D}:x∈hH l a↔x∈l/\x.1≠a:=by
 unfold hH;rw[alI];simp
def yg(l:List (Q.α×D))(a:Q.α):(hH l a).length<=l.length:=am7 _ _
def wI{l:List (Q.α×D)}(p:Q.α×D)(h:(l.map (·.1)).Nodup):((jd l p).map (·.1)).Nodup:=by
 unfold jd;rw[akw,amR];refine⟨BU _ h,by simp,λa ar b af=>?_⟩;obtain⟨x,ag,rfl⟩:=aks.mp ar;rw[show b=p.1 by simpa using af];exact(sE.mp ag).2
def wH{l:List (Q.α×D)}{p x:Q.α×D}:x∈jd l p↔(x∈l/\x.1≠p.1)\/x=p:=by
 unfold jd;rw[akp,sE,aj0]
def zW(l:List (Q.α×D))(p:Q.α×D):(jd l p).length<=l.length+1:=by
 unfold jd;rw[ajQ,amq];have:=yg l p.1;omega
def MV{l:List (Q.α×D)}(p:Q.α×D)(h:(l.map (·.1)).Nodup):kO Q (lW l p):=E' Q _ (wI p h)
def wJ{l:List (Q.α×D)}{p x:Q.α×D}:x∈lW l p↔(x∈l/\x.1≠p.1)\/x=p:=by
 unfold lW;rw[(z6 _ _).mem_iff,wH]
def VK{l:List (Q.α×D)}(aH:(l.map (·.1)).Nodup)(ag:x∈l):l.find? (λq=>decide (q.1=x.1))=some x:=by
 induction l with
 |nil=>cases ag
 |cons y l a6=>
  rw[ajP,akD]at aH;rcases ajN.mp ag with rfl|ag
  .rw[akL (by simp)]
  .have h3:¬y.1=x.1:=λh=>aH.1 (by rw[h];exact al2 ag)
   rw[akA (by simpa using h3)];exact a6 aH.2 ag
def V3{l:List (Q.α×D)}(aH:(l.map (·.1)).Nodup)(ag:x∈l):gE l x.1=some x.2:=by
 unfold gE;rw[VK aH ag];rfl
def Ji{l:List (Q.α×D)}{a:Q.α}{d:D}(h:gE l a=some d):(a,d)∈l:=by
 unfold gE at h;obtain⟨x,ag,rfl⟩:=amk.mp h;have ae:=an4 ag;have ah:x.1=a:=by have:=List.find?_some ag;simpa using this
 rw[<-ah];exact ae
def BV(b:Q.α)(h:kO Q l):kO Q (hH l b):=List.Pairwise.sublist List.filter_sublist h
def OO(h:kO Q l):hP Q.blt l=l:=(Fc Q h.nodup (.refl _) h).symm
def Gk(h:l.Nodup):jU Q.blt l=true:=by
 induction l with
 |nil=>rfl|cons a r a6=>
  rw[akD]at h;unfold jU;rw[a6 h.2,Bool.and_true,akE];intro b af
  cases ao:Q.blt a b with
  |true=>rfl|false=>
   cases az:Q.blt b a with
   |true=>rfl|false=>exact absurd (Q.total a b ao az▸af) h.1
end
section
variable{Z:f_}[DecidableEq Z.κ.α]
theorem KX(yU:∀a,Z.un (Z.kd a)=some a){mf:bJ}:∀{l:List (Z.κ.α×D)},(∀x∈l,mf [x.2]=pure (.v (Z.kd x.1)))->keysOf Z mf (l.map (·.2))=some (l.map (·.1))
 |[],_=>rfl|x::l,h=>by
  have e:y_ Z mf x.2=some x.1:=by
   unfold y_;rw[h x ajR];exact yU x.1
  rw[ajP,ajP];unfold keysOf;rw[e,KX yU λy bg=>h y (ajM _ bg)]
theorem zip_rows{α β:Type}:∀l:List (α×β),(l.map (·.1)).zip (l.map (·.2))=l
 |[]=>rfl| x::l=>by rw[ajP,ajP,alb,zip_rows l]
def Fd(yU:∀a,Z.un (Z.kd a)=some a){mf:bJ}{l:List (Z.κ.α×D)}(h:∀x∈l,mf [x.2]=pure (.v (Z.kd x.1))){r:R}(ag:r.fX=some (l.map (·.2)))(aH:(l.map (·.1)).Nodup)(au:l.length<64) :
  sJ Z mf r=pure (.fr ((hP Z.κ.blt l).map (·.2))):=by
 unfold sJ;rw[ag];dsimp only;rw[KX yU h];dsimp only;rw[if_pos ⟨Gk (Q:=Z.κ.toKeyOrd) aH,by rw[ajE];exact au⟩,zip_rows]
end
end a0
namespace a0
open PySem PySem.Spec aF
abbrev d_:=iz.κ.toKeyOrd
def cV(a:List Nat):Str:=⟨a.toArray⟩
abbrev cd(s:Str):List Nat:=s.cps.toList
def Ic(a:List Nat):cd (cV a)=a:=rfl
def Pw(a:List Nat):iz.un (iz.kd a)=some a:=rfl
def Zi(a:List Nat):iz.kd a=.str (cV a):=rfl
def Pq:cV a=cV b↔a=b:=⟨λh=>by rw[<-Ic a,h,Ic],λh=>by rw[h]⟩
def IT(ar:aj2 (cV a)=true)(af:aj2 (cV b)=true):oEq (.v (.str (cV a))) (.v (.str (cV b)))=pure (.v (.aC (decide (a=b)))):=by
 rw[uL (x:=.v (.str (cV a))) (y:=.v (.str (cV b))) ar af];show pure (R.v (D.aC (cV a==cV b)))=_
 congr 3
 rw[ak3,beq_iff_eq,decide_eq_true_eq,Pq]
def Mc(ar:aj2 (cV a)=true)(af:aj2 (cV b)=true):ef (.v (.str (cV a))) (.v (.str (cV b)))=pure (.v (.aC (!decide (a=b)))):=by
 rw[B3 (x:=.v (.str (cV a))) (y:=.v (.str (cV b))) ar af];show pure (R.v (D.aC (!(cV a==cV b))))=_
 congr 4
 rw[ak3,beq_iff_eq,decide_eq_true_eq,Pq]
def kP(a:List Nat):Prop:=aj2 (cV a)=true/\1<=a.length/\a.length<=8
def aeL:aj2 (cV a)=true↔∀c∈a,c<0x110000:=by
 unfold aj2 cV;rw[List.all_toArray,akE];simp
def Pr(a:List Nat):(cV a).length=a.length:=by
 show a.toArray.size=_;simp
def Pp(a b:List Nat):cV a++cV b=cV (a++b):=by
 show(⟨a.toArray++b.toArray⟩:Str)=_;unfold cV;simp
def aaB:(("add":Str) == "put")=false:=by decide +kernel
def aaC:(("do_add":Str) == "do_put")=false:=by decide +kernel
end a0
namespace fb
open PySem PySem.Spec aF a0
def pG(x:Int×D):Prop:=∃n z:D,x.2=.tup [.int x.1,n,z]
def pG.g5{x:Int×D}(h:pG x):aL (.v x.2) (.v (.int 0))=pure (.v (.int x.1)):=by
 obtain⟨n,z,e⟩:=h;rw[e];simp
def pG.slot{x:Int×D}(h:pG x):dC x.2=.v x.2:=by
 obtain⟨n,z,e⟩:=h;rw[e];rfl
def IH{l:List (Int×D)}(h:∀x∈l,pG x)(c le c5:D)(a:Int):vO [.tup [c,.tup (l.map (·.2)),le,c5],.int a]=pure (.v ((gE (Q:=f6.κ.toKeyOrd) l a).getD (.tup [.int a,.int 0,.aG]))):=by
 have L:=Cn (b:=λd Y=>zf (Y.set 2 (.v d))) (λx:Int×D=>x.2) (λx=>decide (x.1=a)) (λx=>.v x.2) (λY=>∃s2,Y=[.v (.tup [c,.tup (l.map (·.2)),le,c5]),.v (.int a),s2]) l [.v (.tup [c,.tup (l.map (·.2)),le,c5]),.v (.int a),.e] ⟨_,rfl⟩
  (λx Y ag ⟨s2,ay⟩=>by
   subst ay;have g5:=(h x ag).g5;refine⟨λq=>?_,λq=>⟨[.v (.tup [c,.tup (l.map (·.2)),le,c5]),.v (.int a),.v x.2],?_,_,rfl⟩⟩
   .have q:x.1=a:=of_decide_eq_true q
    simp only[zf];simp[g5,q]
   .have q:¬x.1=a:=of_decide_eq_false q
    simp only[zf];simp[g5,q])
 simp only[vO,GW,GX];unfold gE
 cases e:l.find? (λx=>decide (x.1=a))with
 |some x=>
  have:=L.1 x e;simp[this]
 |none=>
  obtain⟨Y',cF,s2,rfl⟩:=L.2 e;simp[cF]
def La{x:Int×D}(h:pG x):fnOf 1 1 (bE (ab aL (I 0) (aa (.int 0)))) [x.2]=pure (.v (.int x.1)):=by
 have:=h.g5;simp[h.slot,this]
def ago{l:List (Int×D)}(h:∀x∈l,pG x)(aH:(l.map (·.1)).Nodup)(au:l.length<63)(c le c5:D)(a:Int)(n z:D)(aE:dC n=.v n)(hz:dC z=.v z) :
  zw [.tup [c,.tup (l.map (·.2)),le,c5],.int a,n,z]=pure (.v (.tup [c,.tup ((lW (Q:=f6.κ.toKeyOrd) l (a,.tup [.int a,n,z])).map (·.2)),le,c5])):=by
 have bQ:fV (aY (ab ef (ab aL (I 0) (aa (.int 0))) (I 1))) (I 0) [.e,.v (.int a)] (l.map (·.2))=pure ((hH (Q:=f6.κ.toKeyOrd) l a).map (·.2)):=
  kR (λx:Int×D=>x.2) (λx=>!decide (x.1=a)) (λx=>x.2) l (λx ag=>by
   have g5:=(h x ag).g5;simp[g5];rfl) λx _ _=>by simp
 have fO:l.length<ajL:=eJ (by omega);have dl:=yg (Q:=f6.κ.toKeyOrd) l a;have eS:(hH (Q:=f6.κ.toKeyOrd) l a).length<ajL:=eJ (by omega);have e':=Fd (Z:=f6) (λ_=>rfl) (mf:=fnOf 1 1 (bE (ab aL (I 0) (aa (.int 0))))) (l:=jd (Q:=f6.κ.toKeyOrd) l (a,.tup [.int a,n,z])) (λx ag=>by
  rcases(wH (Q:=f6.κ.toKeyOrd)).mp ag with⟨ag,_⟩|rfl
  .exact La (h x ag)
  .exact La ⟨n,z,rfl⟩) (r:=.mv ((hH (Q:=f6.κ.toKeyOrd) l a).map (·.2)++[.tup [.int a,n,z]])) (by
   show some _=some _;unfold jd;rw[akw];rfl) (wI _ aH) (by have:=zW (Q:=f6.κ.toKeyOrd) l (a,.tup [.int a,n,z]);omega)
 have yj:∀(c_:bo)(Y:aR)(mf:bJ),qY f6 mf c_ Y=(do let x <-c_ Y;sJ f6 mf x):=λ_ _ _=>rfl
 simp only[zw,Br,HK,HL];unfold lW;simp[aE,hz,bQ,fO,eS,e',yj]
abbrev qV:=List (List Nat×D)
def jN(x:List Nat×D):Prop:=kP x.1/\∃n:Int,n≠0/\x.2=.tup [.str (cV x.1),.int n]
def jN.g5(h:jN x):aL (.v x.2) (.v (.int 0))=pure (.v (.str (cV x.1))):=by
 obtain⟨_,n,_,e⟩:=h;rw[e];simp
def jN.slot(h:jN x):dC x.2=.v x.2:=by
 obtain⟨_,n,_,e⟩:=h;rw[e];rfl
def md:Option D->Int
 |some (.tup [_,.int n])=>n|_=>0
def Ig{l:qV}(h:∀x∈l,jN x)(d le c5:D)(ar:kP a):vL [.tup [.tup (l.map (·.2)),d,le,c5],.str (cV a)]=pure (.v (.int (md (gE (Q:=d_) l a)))):=by
 have L:=Cn (b:=λd Y=>ze (Y.set 2 (.v d))) (λx:List Nat×D=>x.2) (λx=>decide (x.1=a)) (λx=>.v (.int (md (some x.2)))) (λY=>∃s2,Y=[.v (.tup [.tup (l.map (·.2)),d,le,c5]),.v (.str (cV a)),s2]) l [.v (.tup [.tup (l.map (·.2)),d,le,c5]),.v (.str (cV a)),.e] ⟨_,rfl⟩
  (λx Y ag ⟨s2,ay⟩=>by
   subst ay;have g5:=(h x ag).g5;have eq:=IT (h x ag).1.1 ar.1;obtain⟨_,n,_,e⟩:=h x ag;refine⟨λq=>?_,λq=>⟨[.v (.tup [.tup (l.map (·.2)),d,le,c5]),.v (.str (cV a)),.v x.2],?_,_,rfl⟩⟩
   .rw[q]at eq
    simp only[ze];rw[e]at g5 ⊢;simp[g5,eq,md]
   .rw[q]at eq
    simp only[ze];simp[g5,eq])
 simp only[vL,GQ,GR];unfold gE
 cases e:l.find? (λx=>decide (x.1=a))with
 |some x=>
  have:=L.1 x e;simp[this]
 |none=>
  obtain⟨Y',cF,s2,rfl⟩:=L.2 e;simp[cF,md]
def DN(h:jN x):fnOf 1 1 (bE (ab aL (I 0) (aa (.int 0)))) [x.2]=pure (.v (iz.kd x.1)):=by
 have:=h.g5;rw[Zi];simp[h.slot,this]
def jJ(l:qV)(a:List Nat)(n:Int):qV:=if n=0 then hH (Q:=d_) l a else lW (Q:=d_) l (a,.tup [.str (cV a),.int n])
def afQ(h:kO d_ l)(a:List Nat)(n:Int):kO d_ (jJ l a n):=by
 unfold jJ;split
 .exact BV a h
 .exact MV _ h.nodup
def afR(h:∀x∈l,jN x)(ar:kP a)(n:Int):∀x∈jJ l a n,jN x:=λx ag=>by
 unfold jJ at ag;split at ag
 .exact h x ((sE (Q:=d_)).mp ag).1
 .rename_i q
  rcases(wJ (Q:=d_)).mp ag with⟨ag,_⟩|rfl
  .exact h x ag
  .exact⟨ar,n,q,rfl⟩
def PH{l:qV}(h:∀x∈l,jN x)(aB:kO d_ l)(au:l.length<63)(d le c5:D)(ar:kP a)(n:Int) :
  vW [.tup [.tup (l.map (·.2)),d,le,c5],.str (cV a),.int n]=pure (.v (.tup [.tup ((jJ l a n).map (·.2)),d,le,c5])):=by
 have bQ:fV (aY (ab ef (ab aL (I 0) (aa (.int 0))) (I 1))) (I 0) [.e,.v (.str (cV a))] (l.map (·.2))=pure ((hH (Q:=d_) l a).map (·.2)):=
  kR (λx:List Nat×D=>x.2) (λx=>!decide (x.1=a)) (λx=>x.2) l (λx ag=>by
   have g5:=(h x ag).g5;have ne:=Mc (h x ag).1.1 ar.1;simp[g5,ne]) λx _ _=>by simp
 have fO:l.length<ajL:=eJ (by omega);have dl:=yg (Q:=d_) l a;have eS:(hH (Q:=d_) l a).length<ajL:=eJ (by omega);have yj:∀(c_:bo)(Y:aR)(mf:bJ),qY iz mf c_ Y=(do let x <-c_ Y;sJ iz mf x):=λ_ _ _=>rfl
 simp only[vW,Bq,HI,HJ];unfold jJ
 by_cases q:n=0
 .have e':=Fd (Z:=iz) Pw (mf:=fnOf 1 1 (bE (ab aL (I 0) (aa (.int 0))))) (l:=hH (Q:=d_) l a) (λx ag=>DN (h x ((sE (Q:=d_)).mp ag).1)) (r:=.mv ((hH (Q:=d_) l a).map (·.2))) rfl (BU a aB.nodup) (by omega)
  rw[OO (Q:=d_) (BV a aB)]at e';rw[if_pos q];simp[q,bQ,fO,eS,e',yj]
 .have e':=Fd (Z:=iz) Pw (mf:=fnOf 1 1 (bE (ab aL (I 0) (aa (.int 0))))) (l:=jd (Q:=d_) l (a,.tup [.str (cV a),.int n])) (λx ag=>by
   rcases(wH (Q:=d_)).mp ag with⟨ag,_⟩|rfl
   .exact DN (h x ag)
   .exact DN ⟨ar,n,q,rfl⟩) (r:=.mv ((hH (Q:=d_) l a).map (·.2)++[.tup [.str (cV a),.int n]])) (by
    show some _=some _;unfold jd;rw[akw];rfl) (wI _ aB.nodup) (by have:=zW (Q:=d_) l (a,.tup [.str (cV a),.int n]);omega)
  rw[if_neg q];unfold lW;simp[q,bQ,fO,eS,e',yj]
def Gr(x:D)(ds:List D):e_ (x::ds) 0=some x:=pV 0 rfl
def afj:r1.lookup ("put":Str)=some ("do_put":Str):=by
 unfold r1;simp only[aku,beq_self_eq_true]
def VN:uU.lookup ("do_put":Str)=some vN:=by
 unfold uU;simp only[aku,beq_self_eq_true]
def abu{s a r:D}(aE:dC s=.v s)(ar:dC a=.v a)(h:vN [s,a,.tup (.str "put"::ds)]=pure (.v r)):nT [s,a,.tup (.str "put"::ds)]=pure (.v r):=by
 simp only[nT,xY,Bp];simp[aE,ar,Gr,afj,VN,h]
def afi:r1.lookup ("add":Str)=some ("do_add":Str):=by
 unfold r1;simp only[aku,beq_self_eq_true,aaB]
def VM:uU.lookup ("do_add":Str)=some vM:=by
 unfold uU;simp only[aku,beq_self_eq_true,aaC]
def abo{s a r:D}(aE:dC s=.v s)(ar:dC a=.v a)(h:vM [s,a,.tup (.str "add"::ds)]=pure (.v r)):nT [s,a,.tup (.str "add"::ds)]=pure (.v r):=by
 simp only[nT,xY,Bp];simp[aE,ar,Gr,afi,VM,h]
section
variable{l:qV}(h:∀x∈l,jN x)(aB:kO d_ l)(au:l.length<63)(d le c5:D){a:List Nat}(ar:kP a)(n i:Int)
include h aB au ar
theorem abx:nT [.tup [.tup (l.map (·.2)),d,le,c5],.int i,.tup [.str "put",.str (cV a),.int n]]=pure (.v (.tup [.tup [.tup ((jJ l a n).map (·.2)),d,le,c5],.int (md (gE (Q:=d_) l a))])):=
 abu rfl rfl (by
  have ao:=PH h aB au d le c5 ar n;have az:=Ig h d le c5 ar;simp[vN,GV,ao,az])
theorem abw:nT [.tup [.tup (l.map (·.2)),d,le,c5],.int i,.tup [.str "add",.str (cV a),.int n]]=pure (.v (.tup [.tup [.tup ((jJ l a (md (gE (Q:=d_) l a)+n)).map (·.2)),d,le,c5],.int (md (gE (Q:=d_) l a)+n)])):=
 abo rfl rfl (by
  have ao:=PH h aB au d le c5 ar (md (gE (Q:=d_) l a)+n);have az:=Ig h d le c5 ar;simp[vM,GS,GU,ao,az])
end
def qS(x:Int×D):Prop:=∃(n:Int)(z:D),x.2=.tup [.int x.1,.int n,z]
def qS.BR{x:Int×D}(h:qS x):pG x:=by obtain⟨n,z,e⟩:=h;exact⟨_,_,e⟩
def qs:Option D->Int
 |some (.tup [_,.int n,_])=>n|_=>0
def Le{l:List (Int×D)}(h:∀x∈l,qS x)(a:Int):aL (.v ((gE (Q:=f6.κ.toKeyOrd) l a).getD (.tup [.int a,.int 0,.aG]))) (.v (.int 1))=pure (.v (.int (qs (gE (Q:=f6.κ.toKeyOrd) l a)))):=by
 cases q:gE (Q:=f6.κ.toKeyOrd) l a with
 |none=>simp[qs]|some d=>
  obtain⟨n,z,e⟩:=h _ (Ji q);have e:d=.tup [.int a,.int n,z]:=e;subst e;simp[qs]
def y0(c d le c5:D):qo [.tup [c,d,le,c5]]=(do nY (.v c5) (.v .aG)):=by
 simp[qo,G3,rE,HH]
section
variable{l:List (Int×D)}(h:∀x∈l,qS x)(c le c5:D)(a n:Int)
include h
theorem IJ(ds:D)(hd:dC ds=.v ds)(q:ds=.aG\/(∃xs,ds=.tup xs)/\(c5=.str "over"\/(∃zs,c5=.tup zs)\/c5=.aG/\n<=qs (gE (Q:=f6.κ.toKeyOrd) l a))) :
  nP [.tup [c,.tup (l.map (·.2)),le,c5],.int a,.int n,ds]=pure (.v (.tup [c,.tup (l.map (·.2)),le,c5])):=by
 have ao:=IH (λx ag=>(h x ag).BR) c le c5 a;have az:=Le h a;simp only[nP,Bh,Bi,Bj];rcases q with rfl|⟨⟨xs,rfl⟩,rfl|⟨zs,rfl⟩|⟨rfl,q⟩⟩
 .simp
 .simp[y0]
 .simp[y0]
 .simp[y0,ao,az,q]
theorem Vl(xs:List D)(q:qs (gE (Q:=f6.κ.toKeyOrd) l a)<n)(au:l.length<63)(aH:(l.map (·.1)).Nodup){c' le' sh' v:D}
  (bf:nT [.tup [c,.tup (l.map (·.2)),le,.aG],.int a,.tup xs]=pure (.v (.tup [.tup [c',.tup (l.map (·.2)),le',sh'],v]))) (bL:dC v=.v v) :
  nP [.tup [c,.tup (l.map (·.2)),le,.aG],.int a,.int n,.tup xs]=pure (.v (.tup [c',.tup ((lW (Q:=f6.κ.toKeyOrd) l (a,.tup [.int a,.int n,v])).map (·.2)),le',sh'])):=by
 have ao:=IH (λx ag=>(h x ag).BR) c le .aG a;have az:=Le h a;have cG:=ago (λx ag=>(h x ag).BR) aH au c' le' sh' a (.int n) v rfl bL;have hM:¬n<=qs (gE (Q:=f6.κ.toKeyOrd) l a):=by omega
 simp only[nP,Bh,Bi,Bj];simp[y0,ao,az,hM,bf,cG]
end
def aaR{l:List (Int×D)}(h:∀x∈l,qS x)(a n:Int)(v:D):∀x∈lW (Q:=f6.κ.toKeyOrd) l (a,.tup [.int a,.int n,v]),qS x:=λx ag=>by
 rcases(wJ (Q:=f6.κ.toKeyOrd)).mp ag with⟨ag,_⟩|rfl
 .exact h x ag
 .exact⟨n,v,rfl⟩
end fb
namespace fb
open PySem PySem.Spec aF a0 jP
def Good(r:aP):Prop:=r.wf/\r.deep<=4/\r.names.length<=12
end fb
namespace fb
open PySem PySem.Spec aF a0 jP hB l8
def PE(i:Int):tf [.int i]=pure (.v (.aC true)):=by kernel_rfl
def PF(xs:List D):tf [.tup xs]=pure (.v (.aC false)):=by kernel_rfl
def CN(m k:Nat):qn [bl m,bl k]=pure (.v (.aC (gY m k))):=by
 have e:=S8 m k;simp only[qn,G0,lS];simp[e]
def D4(bj:List Nat)(h:∀k∈bj,k<=1000):tq [.lst (bj.map bl)]=pure (.v (bl (maskOf bj))):=by
 obtain⟨Y',e,s2,rfl⟩:=uV (b:=λd Y=>DJ (Y.set 2 (.v d))) (ds:=bj.map bl) (Y:=[.cc (bj.map bl),.v (.int 0),.e])
  (λi Y=>∃s2,Y=[.cc (bj.map bl),.v (bl (maskOf (bj.take i))),s2]) ⟨_,rfl⟩ (λi d Y hd ⟨s2,ay⟩=>by
   subst ay;obtain⟨k,ax,rfl⟩:=D2 hd;have oL:=h k (akt ax);refine⟨_,.inl (?_:_=pure (gI.bh [.cc (bj.map bl),.v (bl (maskOf (bj.take (i+1)))),.v (bl k)])),_,rfl⟩;rw[take_snoc ax,vX,lS (_ ||| _),<-Es];have g6:(k:Int)<=1000000:=by omega
   simp only[DJ,lS];simp[g6])
 rw[ajE,am1]at e;simp only[tq,Hy,Hz,HA];simp[e]
def Zm(h:m<64):zu [bl m]=pure (.fr ((y9 m).map bl)):=by
 have af:=bits_le m h;have c:fV (aY (bA qn (U (I 1) (U (I 0) aj)))) (I 0) [.e,.v (bl m)] ((aj6 (bits m)).map bl)=pure (((aj6 (bits m)).filter (gY m)).map bl):=
  kR bl (gY m) bl _ (λk _=>by simp[CN]) λk _ _=>by simp
 have bG:-4611686018427387904<=((bits m:Nat):Int)/\((bits m:Nat):Int)<4611686018427387904:=by omega
 have z:bits m<ajL:=eJ (by omega);rw[Zj];simp only[zu,G4];simp only[lS m]at c ⊢;simp[YP,bG,Nk,z,c]
theorem L6:∀(n:Nat)(r:aP),r.deep<n->r.names.length<=1000->qp n [enc r]=pure (.fr (r.names.map bl))
 |0,r,h,_=>absurd h (amf _)|n+1,.kp k,h,_=>by
  simp only[qp,xX,q8,aP.names];simp[PE,lS]
 |n+1,.ch k ps,h,au=>by
  simp only[aP.deep]at h;simp only[aP.names]at au ⊢;have dl:=q5 (ps:=ps) (n:=n) (by omega);rw[p3];obtain⟨Y',e,s2,rfl⟩:=uV (b:=λd Y=>DK (qp n) (Y.set 2 (.v d))) (ds:=ps.map enc) (Y:=[.v (.tup [.int (k:Nat),.tup (ps.map enc)]),.eH false [],.e])
   (λi Y=>∃s2,Y=[.v (.tup [.int (k:Nat),.tup (ps.map enc)]),.eH false ((aP.en (ps.take i)).map bl),s2]) ⟨_,rfl⟩ (λi d Y hd ⟨s2,ay⟩=>by
    subst ay;obtain⟨r,aB,rfl⟩:=D2 hd;have hm:=akt aB;refine⟨_,.inl (?_:_=pure (gI.bh [.v (.tup [.int (k:Nat),.tup (ps.map enc)]),.eH false ((aP.en (ps.take (i+1))).map bl),.v (enc r)])),_,rfl⟩;have bO:=take_snoc aB;have le:(aP.en (ps.take (i+1))).length<=1000:=by
     have:aP.en ps=aP.en (ps.take (i+1))++aP.en (ps.drop (i+1)):=by rw[<-v_,List.take_append_drop]
     rw[this,ajQ]at au;omega
    rw[bO,v_]at le ⊢;rw[show aP.en [r]=r.names from akG _]at le ⊢;rw[ajQ]at le;have a6:=L6 n r (dl r hm) (by omega);have z:(aP.en (ps.take i)).length+r.names.length<=ajL:=ak0 (eJ (by omega));simp only[DK];simp[a6,z])
  rw[ajE,am1]at e;simp only[qp,xX,HE,HF,HG];simp[PF,e]
def named_eq{r:aP}(hw:r.wf)(hd:r.deep<12)(au:r.names.length<=1000):vV [enc r]=pure (.v (bl (maskOf r.names))):=by
 have ae:=L6 12 r hd au;have ah:=D4 r.names λk ax=>by have:=tv r hw k ax;omega
 simp only[vV,HD];simp[ae,ah]
theorem Cf(m:Nat):∀(n:Nat)(r:aP),r.deep<n->r.wf->kr n [enc r,bl m]=pure (.v (.aC (r.fills (gY m))))
 |0,r,h,_=>absurd h (amf _)|n+1,.kp k,h,hw=>by
  have ax:=CN m k;simp only[kr,xS,q8,aP.fills];simp only[lS]at ax ⊢;simp[PE,ax]
 |n+1,.ch k ps,h,hw=>by
  simp only[aP.deep]at h;simp only[aP.wf]at hw;have dl:=q5 (ps:=ps) (n:=n) (by omega);have wl:=xd.mp hw.2.2.2;rw[p3];have c:fV (aY (bA (kr n) (U (I 0) (U (I 1) aj)))) (I 0) [.e,.v (bl m)] (ps.map enc)=pure ((ps.filter (aP.fills (gY m))).map enc):=
   kR enc (aP.fills (gY m)) enc ps (λr aB=>by simp[Cf m n r (dl r aB) (wl r aB)]) λr _ _=>by simp
  have z:ps.length<ajL:=eJ (by omega);have e:decide (((k:Nat):Int)<=(aP.cnt (gY m) ps:Nat))=decide (k<=aP.cnt (gY m) ps):=decide_eq_decide.mpr (by omega);simp only[kr,xS,GY,aP.fills];simp only[lS m]at c ⊢;simp[PF,c,z,yc,e]
end fb
namespace l8
open hB jP
def sG(a k:aP):Nat:=maskOf a.names ||| maskOf k.names
def aab(xs:List Nat):∀ys:List Nat,maskOf (xs++ys)=maskOf xs ||| maskOf ys:=by
 intro ys;have:∀n,∀ys:List Nat,ys.length=n->maskOf (xs++ys)=maskOf xs ||| maskOf ys:=by
  intro n
  induction n with
  |zero=>intro ys h;rw[aon.mp h,akG];exact(Nat.or_zero _).symm|succ n a6=>
   intro ys h;rcases List.eq_nil_or_concat ys with rfl|⟨l,k,rfl⟩
   .cases h
   .rw[List.concat_eq_append]at h ⊢
    rw[ajQ,amq]at h;rw[<-aml,a0.vX,a6 l (by omega),a0.vX,Nat.or_assoc]
 exact this _ _ rfl
def IU{a k:aP}(ar:a.wf)(ax:k.wf):sG a k=nV λj=>(a.names++k.names).contains j:=by
 unfold sG;rw[<-aab,zx];intro n aH;rcases akp.mp aH with h|h
 .exact tv a ar n h
 .exact tv k ax n h
def IV{a k:aP}(ar:a.wf)(ax:k.wf):sG a k<64:=by rw[IU ar ax];exact aan _
end l8
namespace fb
open PySem PySem.Spec aF a0 jP hB l8
def b0(a k:aP):D:=.tup [enc a,enc k]
def aai{a k:aP}(ar:Good a)(ax:Good k):zv [b0 a k]=pure (.v (bl (sG a k))):=by
 have ae:=named_eq (r:=a) ar.1 (by have:=ar.2.1;omega) (by have:=ar.2.2;omega);have ah:=named_eq (r:=k) ax.1 (by have:=ax.2.1;omega) (by have:=ax.2.2;omega);unfold b0;simp only[zv,HB];simp only[lS]at ae ah ⊢;simp[ae,ah,Es,sG]
def vr(j:Nat)(bj:List Nat):h6 false (.v (bl j)) (.v (.lst (bj.map bl)))=pure (.v (.aC (bj.contains j))):=by
 have ec:(bj.map bl).all D.flat=true:=by rw[List.all_map];exact akE.mpr λ_ _=>rfl
 show(if(bl j).flat=true/\(bj.map bl).all D.flat=true then pure (R.v (D.aC (if false=true then !inD (bl j) (bj.map bl)else inD (bl j) (bj.map bl))))else bad)=_;rw[if_pos ⟨rfl,ec⟩,if_neg ajO,Kk]
def Zl:∀m:Nat,m<64->y9 m=(aj6 6).filter (gY m):=by decide +kernel
def Zk{a k:aP}(ar:a.wf)(ax:k.wf):y9 (sG a k)=(aj6 6).filter λj=>(a.names++k.names).contains j:=by
 rw[Zl _ (IV ar ax),IU ar ax];exact List.filter_congr λj aZ=>L2 _ j (akM.mp aZ)
def D7{a k:aP}(ar:Good a)(ax:Good k):nS [b0 a k]=pure (.fr (((aj6 6).filter λj=>(a.names++k.names).contains j).map bl)):=by
 have m:=aai ar ax;have e:=Zm (IV ar.1 ax.1);rw[Zk ar.1 ax.1]at e;have c5:dC (b0 a k)=.v (b0 a k):=rfl;simp only[nS,HC];simp[c5,m,e]
def cY(a k:aP):List Nat:=(aj6 6).filter λj=>(a.names++k.names).contains j
end fb
namespace fb
open PySem PySem.Spec aF a0 hB jP l8
abbrev du:=Int×Int
abbrev b8(s:du):D:=.tup [.int s.1,.int s.2]
structure c2 where
 k:Nat
 s:du
 w:D
abbrev ck(g:c2):D:=.tup [bl g.k,b8 g.s,g.w]
def Wg(ps:List c2)(h:∀p∈ps,p.k<6)(au:ps.length<=1000):oY [.lst (ps.map ck)]=pure (.v (bl (maskOf (ps.map (·.k))))):=by
 have c:fV gv (ab aL (I 0) (aa (.int 0))) [.e] (ps.map ck)=pure (ps.map (bl∘λp=>p.k)):=q2 ck _ ps λp _=>by simp[ck]
 have z:ps.length<ajL:=eJ (by omega);have m:=D4 (ps.map (·.k)) (λk ax=>by obtain⟨p,aK,rfl⟩:=aks.mp ax;have:=h p aK;omega);rw[alF]at m;simp only[oY,GZ];simp[c,z,m]
def IS(s t:du):oEq (.v (b8 s)) (.v (b8 t))=pure (.v (.aC (decide (s=t)))):=by
 rw[uL (x:=.v (b8 s)) (y:=.v (b8 t)) rfl rfl]
 congr 3
 obtain⟨a,b⟩:=s;obtain⟨c,d⟩:=t;rw[ak3];simp[jz,R.arg,rN]
def Mb(s t:du):ef (.v (b8 s)) (.v (b8 t))=pure (.v (.aC (!decide (s=t)))):=by
 rw[B3 (x:=.v (b8 s)) (y:=.v (b8 t)) rfl rfl]
 congr 4
 obtain⟨a,b⟩:=s;obtain⟨c,d⟩:=t;rw[ak3];simp[jz,R.arg,rN]
def fw(s t:du):Bool:=decide (t.1<s.1)||decide (s.1=t.1)&&decide (t.2<s.2)
def Lo(s t:du):g7 [s.1,s.2] [t.1,t.2]=fw s t:=by
 unfold g7 fw;rw[rz,rz]
 by_cases bz:s.1=t.1
 .rw[if_pos bz,bz]
  by_cases cf:s.2=t.2
  .rw[if_pos cf,cf]
   simp[nN]
  .rw[if_neg cf];simp
 .rw[if_neg bz]
  simp[bz]
def v7(b p:c2):c2:=if fw p.s b.s=true then p else b
def lE(p:c2)(ps:List c2):c2:=ps.foldl v7 p
abbrev kn:bJ:=fnOf 1 1 (bE (ab aL (I 0) (aa (.int 1))))
def KU(p:c2):mM kn (ck p)=some [p.s.1,p.s.2]:=by
 have e:kn [ck p]=pure (.v (b8 p.s)):=by simp[kn,ck]
 unfold mM;rw[e];rfl
theorem D5:∀(ps:List c2)(b:c2),ks kn (ck b) [b.s.1,b.s.2] (ps.map ck)=some (ck (lE b ps))
 |[],b=>rfl|p::ps,b=>by
  rw[ajP];unfold lE;rw[List.foldl_cons];show(match mM kn (ck p)with|some kd=>if g7 kd [b.s.1,b.s.2]=true then ks kn (ck p) kd (ps.map ck)else ks kn (ck b) [b.s.1,b.s.2] (ps.map ck)|none=>none)=_;rw[KU];show(if g7 [p.s.1,p.s.2] [b.s.1,b.s.2]=true then ks kn (ck p) [p.s.1,p.s.2] (ps.map ck)else ks kn (ck b) [b.s.1,b.s.2] (ps.map ck))=_;rw[Lo];unfold v7
  by_cases q:fw p.s b.s=true
  .rw[if_pos q,if_pos q];exact D5 ps p
  .rw[if_neg q,if_neg q];exact D5 ps b
def oI(op:D)(g:c2):D:=.tup [b8 g.s,if g.s=(0,0)then op else g.w]
def Ya(p:c2)(ps:List c2)(op:D)(bf:dC op=.v op)(au:(p::ps).length<64):zt [.lst ((p::ps).map ck),op]=pure (.v (oI op (lE p ps))):=by
 have dc:vY kn ((p::ps).map ck)=some (ck (lE p ps)):=by
  rw[ajP];show(match mM kn (ck p)with|some k=>ks kn (ck p) k (ps.map ck)|none=>none)=_;rw[KU];exact D5 ps p
 generalize lE p ps=b at *;generalize p::ps=ha at *;have eb:=IS b.s (0,0);have z:(ha.map ck).length<64:=by rw[ajE];exact au
 have em:yn kn (.cc (ha.map ck))=pure (.v (ck b)):=by
  unfold yn;show(match vY kn (ha.map ck)with|some r=>if(ha.map ck).length<64 then(pure (R.v r):M R)else bad|none=>bad)=_;rw[dc];dsimp only;rw[if_pos z]
 unfold oI;simp only[zt,Bk,G1,G2]
 by_cases q:b.s=(0,0)
 .rw[q]at eb
  simp at eb;simp[bf,em,ck,q,eb]
 .simp[q]at eb
  simp[bf,em,ck,q,eb]
end fb
namespace fb
open PySem PySem.Spec aF a0
def i1{n N:Nat}{b:a3}{ds:List D}(h:ds.length=n)(e:b (ds.map dC++akB (N-n) .e)=pure (.cQ (.v d))):fnOf n N b ds=pure (.v d):=by
 rw[B2,if_pos h,e];rfl
def ei{a b:a3}(e:a Y=pure (.bh Y')):b1 a b Y=b Y':=by rw[b1,e];rfl
def qz{a b:a3}{r:R}(e:a Y=pure (.cQ r)):b1 a b Y=pure (.cQ r):=by rw[b1,e];rfl
def k2{t:aR->M Bool}{a b:a3}(e:t Y=pure true):dg t a b Y=a Y:=by rw[dg,e];rfl
def oO{t:aR->M Bool}{a b:a3}(e:t Y=pure false):dg t a b Y=b Y:=by rw[dg,e];rfl
def abm{a b:aR->M Bool}(h:a Y=pure true):iC a b Y=pure true:=by show(a Y >>= _)=_;rw[h];rfl
def tN{a b:aR->M Bool}(h:a Y=pure false):iC a b Y=b Y:=by show(a Y >>= _)=_;rw[h];rfl
def zF{a:aR->M Bool}(h:a Y=pure true):gg a Y=pure false:=by show(a Y >>= _)=_;rw[h];rfl
def aaO{a:aR->M Bool}(h:a Y=pure false):gg a Y=pure true:=by show(a Y >>= _)=_;rw[h];rfl
def dn{m:bo}(h:m Y=pure (.v (.aC b))):aY m Y=pure b:=by show(m Y >>= _)=_;rw[h];rfl
def QD{a b:aR->M Bool}(h:a Y=pure true):hQ a b Y=b Y:=by show(a Y >>= _)=_;rw[h];rfl
def QB{a b:aR->M Bool}(h:a Y=pure false):hQ a b Y=pure false:=by show(a Y >>= _)=_;rw[h];rfl
def bN{f:R->R->M R}{a b:bo}{r:M R}(e:f x y=r)(ao:a Y=pure x)(az:b Y=pure y):ab f a b Y=r:=by
 show(a Y >>= _)=_;rw[ao];show(b Y >>= _)=_;rw[az];exact e
def fL{m:bo}{Y:aR}(e:m Y=pure (.v d)):b2 i m Y=pure (.bh (Y.set i (.v d))):=by show(m Y >>= _)=_;rw[e];rfl
def jA{m:bo}(e:m Y=pure (.v d)):bE m Y=pure (.cQ (.v d)):=by show(m Y >>= _)=_;rw[e];rfl
def Gl{ms:c7}{Y:aR}{xs:List D}(h:Y[i]? = some (.eH p xs))(e:ms Y=pure [.v d])(z:xs.length<ajL):mb i iD ms Y=pure (.bh (Y.set i (.eH p (xs++[d])))):=by
 simp[h,e,z]
def call_of{mf:bJ}{ms:c7}{rs:List R}{r:M R}(ao:ms Y=pure rs)(e:mf (rs.map R.arg)=r):bA mf ms Y=r:=by show(ms Y >>= _)=_;rw[ao];exact e
def iZ{f:List R->M R}{ms:c7}{r:M R}(e:f rs=r)(ao:ms Y=pure rs):cE f ms Y=r:=by show(ms Y >>= _)=_;rw[ao];exact e
def cons_of{m:bo}{ms:c7}(e:m Y=pure x)(ao:ms Y=pure xs):U m ms Y=pure (x::xs):=by show(m Y >>= _)=_;rw[e];show(ms Y >>= _)=_;rw[ao];rfl
def n7{m:bo}{Y:aR}{r:R}(e:m Y=pure r)(h:r.dat=pure d):b2 i m Y=pure (.bh (Y.set i (.v d))):=by show(m Y >>= _)=_;rw[e];show(r.dat >>= _)=_;rw[h];rfl
def TB{xs ys:List D}(h:xs.length+ys.length<=ajL):jy (.fr xs) (.fr ys)=pure (.fr (xs++ys)):=if_pos h
def aby{Y:aR}:kj i (dJ aj) Y=pure (.bh (Y.set i (.eH false []))):=rfl
def Ph{a b c:bo}(ao:a Y=pure (.v x))(az:b Y=pure (.v y))(cG:c Y=pure (.v z)):bB (U a (U b (U c aj))) Y=pure (.v (.tup [x,y,z])):=by
 show(U a (U b (U c aj)) Y >>= _)=_;rw[cons_of ao (cons_of az (cons_of cG rfl))];rfl
def afv{a b:bo}(ao:a Y=pure (.v x))(az:b Y=pure (.v y)):bB (U a (U b aj)) Y=pure (.v (.tup [x,y])):=by
 show(U a (U b aj) Y >>= _)=_;rw[cons_of ao (cons_of az rfl)];rfl
def jr{a b:Int}(h:oi a b):eG (.v (.int a)) (.v (.int b))=pure (.v (.int (a / b))):=if_pos h
def nu{it:fj}{t:aR->M Bool}{ds xs:List D}(ao:it Y=pure ds)(z:ds.length<ajL)(e:fV t el (i0 n cap Y) ds=pure xs):eE n cap it t el Y=pure (.fr xs):=by
 show(it Y >>= _)=_;rw[ao];show(hY (ds.length<ajL) >>= _)=_;unfold hY;rw[if_pos z];show(fV t el (i0 n cap Y) ds >>= _)=_;rw[e];rfl
def BQ(e:m=pure (.v d)):(m >>= R.dat)=pure d:=by rw[e];rfl
def I6{n N:Nat}{b:a3}{ds xs:List D}(h:ds.length=n)(e:b (ds.map dC++akB (N-n) .e)=pure (.cQ (.fr xs))):fnOf n N b ds=pure (.fr xs):=by
 rw[B2,if_pos h,e];rfl
def gH{a b:Int}(h:0<b):oMod (.v (.int a)) (.v (.int b))=pure (.v (.int (a % b))):=if_pos h
def mm{a b:Int}:oEq (.v (.int a)) (.v (.int b))=pure (.v (.aC (decide (a=b)))):=rfl
def BE{xs ys:List D}(h:xs.length+ys.length<=ajL):jy (.v (.lst xs)) (.fr ys)=pure (.fr (xs++ys)):=if_pos h
def Kx{i:Int}{v:D}(e:e_ xs i=some v):aL (.v (.lst xs)) (.v (.int i))=pure (.v v):=by
 show(match e_ xs i with|some d=>pure (R.v d)|none=>bad)=_;rw[e]
def Kw{i:Int}{v:D}(e:e_ xs i=some v):aL (.fr xs) (.v (.int i))=pure (.v v):=by
 show(match e_ xs i with|some d=>pure (R.v d)|none=>bad)=_;rw[e]
def rA{ms:c7}{ds:List D}(e:ms Y=pure rs)(h:kS rs=pure ds)(z:ds.length<=1000):dJ ms Y=pure (.fr ds):=by
 show(ms Y >>= _)=_;rw[e];show(kS rs >>= _)=_;rw[h];show(hY (ds.length<=1000) >>= _)=_;unfold hY;rw[if_pos z];rfl
def aar{a b:Int}(h:oj a b):wh (.v (.int a)) (.v (.int b))=pure (.v (.int (a*b))):=if_pos h
def EI{a b n:Int}(h:0<=b/\b<=1000000/\a.natAbs<2 ^ 64)(e:a ^ b.toNat=n):nZ (.v (.int a)) (.v (.int b))=pure (.v (.int n)):=by rw[<-e];exact if_pos h
def Fu{is:List Nat}{m:bo}{ds:List D}(e:m Y=pure (.v (.tup ds)))(h:ds.length=is.length):mc is m Y=pure (.bh (kE is ds Y)):=by
 show(m Y >>= _)=_;rw[e];exact if_pos h
def Kj{m:bo}(e:m Y=pure (.fr xs)):iP m Y=pure xs:=by show(m Y >>= _)=_;rw[e];rfl
def aJ{α:Type}(S:cz)(m:M α)(a:α):Prop:=m.run S=.ok a S
def bp{α:Type}(S:cz)(m:N α)(a:α)(ai:cz):Prop:=m.run S=.ok a ai
section
variable{α β:Type}{S S1 bc:cz}{Y Y':aR}
def aJ.of(h:m=pure a):aJ S m a:=by rw[h];rfl
theorem aJ.bind{f:α->M β}(h:aJ S m a)(ah:aJ S (f a) b):aJ S (m >>= f) b:=by
 show(match m.run S with|.ok a S1=>(f a).run S1|.exc c S1=>.exc c S1|.bad=>.bad)=_;rw[show m.run S=.ok a S from h];exact ah
def bp.bind{f:α->N β}(h:bp S m a S1)(ah:bp S1 (f a) b bc):bp S (m >>= f) b bc:=by
 show(match m.run S with|.ok a S1=>(f a).run S1|.exc c S1=>.exc c S1|.bad=>.bad)=_;rw[show m.run S=.ok a S1 from h];exact ah
def aJ.to{m:M α}(h:aJ S m a):bp S m.up a S:=h
def Dv{p:Prop}[Decidable p](h:p):aJ S (hY p) ():=.of (if_pos h)
def cH{f:R->R->M R}{a b:bo}{x y r:R}(e:f x y=pure r)(ae:aJ S (a Y) x)(ah:aJ S (b Y) y):aJ S (ab f a b Y) r:=ae.bind (ah.bind (.of e))
def dM:aJ S (aj Y) []:=.of rfl
def bS{m:bo}{ms:c7}(h:aJ S (m Y) x)(ae:aJ S (ms Y) xs):aJ S (U m ms Y) (x::xs):=h.bind (ae.bind (.of rfl))
def fW{mf:bJ}{ms:c7}{rs:List R}{r:R}(h:aJ S (ms Y) rs)(e:aJ S (mf (rs.map R.arg)) r):aJ S (bA mf ms Y) r:=h.bind e
def vx{f:List R->M R}{ms:c7}{r:R}(e:f rs=pure r)(h:aJ S (ms Y) rs):aJ S (cE f ms Y) r:=h.bind (.of e)
def oT{ms:c7}{ds:List D}(h:aJ S (ms Y) rs)(e:kS rs=pure ds)(z:ds.length<=1000):aJ S (bB ms Y) (.v (.tup ds)):=h.bind ((aJ.of e).bind ((Dv z).bind (.of rfl)))
def de{m:bo}(h:aJ S (m Y) (.v (.aC b))):aJ S (aY m Y) b:=h.bind (.of rfl)
def Zg{a b:aR->M Bool}(h:aJ S (a Y) true):aJ S (iC a b Y) true:=h.bind (.of rfl)
def vB{a b:aR->M Bool}(h:aJ S (a Y) false)(ah:aJ S (b Y) x):aJ S (iC a b Y) x:=h.bind ah
def j6{a b:aR->M Bool}(h:aJ S (a Y) true)(ah:aJ S (b Y) x):aJ S (hQ a b Y) x:=h.bind ah
def nL{a b:aR->M Bool}(h:aJ S (a Y) false):aJ S (hQ a b Y) false:=h.bind (.of rfl)
def qi{a:aR->M Bool}(h:aJ S (a Y) x):aJ S (gg a Y) (!x):=h.bind (.of rfl)
def vy{it:fj}{t:aR->M Bool}{ds xs:List D}(h:aJ S (it Y) ds)(z:ds.length<ajL)(e:aJ S (fV t el (i0 n cap Y) ds) xs):aJ S (eE n cap it t el Y) (.fr xs):=h.bind ((Dv z).bind (e.bind (.of rfl)))
theorem y8{α:Type}{el:bo}(g:α->D)(f:α->D):∀as:List α,(∀a∈as,aJ S (el (Y.set 0 (.v (g a)))) (.v (f a)))->aJ S (fV gv el Y (as.map g)) (as.map f)
 |[],_=>.of rfl|a::as,h=>(aJ.of (S:=S) (m:=(pure true:M Bool)) rfl).bind ((h a (ajR ..)).bind ((aJ.of (m:=R.dat (.v (f a))) rfl).bind ((y8 g f as λx ag=>h x (ajM _ ag)).bind (.of rfl))))
def y5{m:bo}{r:R}(h:aJ S (m Y) r)(e:r.fX=some ds):aJ S (iP m Y) ds:=h.bind (by rw[e];exact .of rfl)
def Dw{m:bo}(h:aJ S (m Y) (.fr xs)):aJ S (sW m Y) xs:=h.bind (.of rfl)
def lP{m:bo}{r:R}(h:aJ S (m Y) r)(e:r.dat=pure d):aJ S (b2 i m Y) (.bh (Y.set i (.v d))):=h.bind ((aJ.of e).bind (.of rfl))
def oS{m:bo}(h:aJ S (m Y) (.v d)):aJ S (bE m Y) (.cQ (.v d)):=h.bind (.of rfl)
def KN{m:bo}(h:aJ S (m Y) (.fr xs)):aJ S (bE m Y) (.cQ (.fr xs)):=h.bind (.of rfl)
def y7{t:aR->M Bool}{a b:a3}(h:aJ S (t Y) true)(ah:aJ S (a Y) ba):aJ S (dg t a b Y) ba:=h.bind ah
def y6{t:aR->M Bool}{a b:a3}(h:aJ S (t Y) false)(ah:aJ S (b Y) ba):aJ S (dg t a b Y) ba:=h.bind ah
def Dx{a b:a3}(h:aJ S (a Y) (.bh Y'))(ah:aJ S (b Y') ba):aJ S (b1 a b Y) ba:=h.bind ah
def Dy{a b:a3}{r:R}(h:aJ S (a Y) (.cQ r)):aJ S (b1 a b Y) (.cQ r):=h.bind (.of rfl)
def oU{is:List Nat}{m:bo}{ds:List D}(h:aJ S (m Y) (.v (.tup ds)))(e:ds.length=is.length):aJ S (mc is m Y) (.bh (kE is ds Y)):=h.bind (.of (if_pos e))
def sY{n N:Nat}{b:a3}{ds:List D}(h:ds.length=n)(e:aJ S (b (ds.map dC++akB (N-n) .e)) (.cQ (.v d))):aJ S (fnOf n N b ds) (.v d):=by
 rw[B2,if_pos h];exact e.bind (.of rfl)
def nM(h:S[i]? = some o):aJ S (gu (.v (.ref i))) o:=(show aJ S Jj S from rfl).bind (by rw[h];exact .of rfl)
def Zf{a b:bo}{k:Key}(h:S[i]? = some (.dS ak))(ae:aJ S (a Y) (.v (.ref i)))(ah:aJ S (b Y) (.v kd))(ax:qj kd=some k)(e:hq ak k=some d):aJ S (ab cM a b Y) (.v d):=ae.bind (ah.bind ((nM h).bind (by show aJ S (match qj kd with|some key=>_|none=>_) _;rw[ax];show aJ S (match hq ak k with|some d=>_|none=>_) _;rw[e];exact .of rfl)))
def vz{m:bo}(h:S[i]? = some (.lst xs))(ae:aJ S (m Y) (.v (.ref i))):aJ S (gf m Y) (.mv xs):=ae.bind ((nM h).bind (.of rfl))
def vA{mf:bJ}{mo:bo}{ms:c7}{aW:List (Str×D)}{rs:List R}{r:R}(h:S[i]? = some (.bD c aW))(ae:aJ S (mo Y) (.v (.ref i)))(aH:aW.lookup m=none)(ah:aJ S (ms Y) rs)(e:aJ S (mf (.ref i::rs.map R.arg)) r):aJ S (jq c m mf mo ms Y) r:=ae.bind ((nM h).bind (by show aJ S (if c=c/\aW.lookup m=none then _ else _) _;rw[if_pos ⟨rfl,aH⟩];exact ah.bind e))
def Ze{m:bo}{aW:List (Str×D)}(h:S[i]? = some (.bD c aW))(ae:aJ S (m Y) (.v (.ref i)))(e:aW.lookup f=some d):aJ S (bQ (cL c f) m Y) (.v d):=ae.bind ((nM h).bind (by show aJ S (if c=c then _ else _) _;rw[if_pos rfl,e];exact .of rfl))
def Zh{m nW:bo}{ms:c7}{rs:List R}{k:List Key}(h:S[i]? = some (.eZ ak))(ae:aJ S (m Y) (.v (.ref i)))(ah:aJ S (ms Y) rs)(bF:aJ S (nW Y) (.v og))(ax:rv rs=some k)(au:rs.length<=1000):aJ S (ya m ms nW Y) (.v ((hq ak k).getD og)):=ae.bind (ah.bind (bF.bind ((nM h).bind (by rw[ax];exact .of (if_pos au)))))
def ct{a b:bk}(h:bp S (a Y) (.bh Y') S1)(ah:bp S1 (b Y') ba bc):bp S (bI a b Y) ba bc:=h.bind ah
def Av{a b:bk}{r:R}(h:bp S (a Y) (.cQ r) S1):bp S (bI a b Y) (.cQ r) S1:=h.bind rfl
def hx{t:aR->N Bool}{a b:bk}(h:bp S (t Y) true S1)(ah:bp S1 (a Y) ba bc):bp S (d9 t a b Y) ba bc:=h.bind ah
def iG{t:aR->N Bool}{a b:bk}(h:bp S (t Y) false S1)(ah:bp S1 (b Y) ba bc):bp S (d9 t a b Y) ba bc:=h.bind ah
def px{t:aR->N Bool}{a b:bk}(h:bp S (t Y) false S1)(ah:bp S1 (b Y) ba bc):bp S (bI (d9 t a (bU cv)) b Y) ba bc:=ct (iG h rfl) ah
def agO{t:aR->M Bool}{b:bk}(h:aJ S (t Y) false)(ah:bp S (b Y) ba bc):bp S (bI (bU (dg t a cv)) b Y) ba bc:=ct (y6 h (.of rfl)).to ah
def agN{m:fk}(h:bp S (m Y) (.fr xs) S1):bp S (od m Y) (.cQ (.fr xs)) S1:=h.bind rfl
def As{m:fk}{r:R}(h:bp S (m Y) r S1):bp S (lh m Y) (.bh Y) S1:=h.bind rfl
def sa{m:fk}{r:R}(h:bp S (m Y) r S1)(e:r.dat=pure d):bp S (iF i m Y) (.bh (Y.set i (.v d))) S1:=h.bind ((aJ.of e).to.bind rfl)
def x_call{mf:fe}{ms:c7}{rs:List R}{r:R}(h:aJ S (ms Y) rs)(aE:rs.all R.je=true)(e:bp S (mf (rs.map R.arg)) r S1):bp S (iV mf (e8 ms) Y) r S1:=(aJ.to h).bind (by rw[if_pos aE];exact e)
def t8{mf:fe}{mo:bo}{ms:hV}{aW:List (Str×D)}{rs:List R}{r:R}(h:S[i]? = some (.bD c aW))(ae:aJ S (mo Y) (.v (.ref i)))(aH:aW.lookup m=none)(ah:bp S (ms Y) rs S)(aE:rs.all R.je=true)(e:bp S (mf (.ref i::rs.map R.arg)) r S1):bp S (fD c m mf mo ms Y) r S1:=ae.to.bind ((nM h).to.bind (by show bp S (if c=c/\aW.lookup m=none then _ else _) _ _;rw[if_pos ⟨rfl,aH⟩];exact ah.bind (by rw[if_pos aE];exact e)))
def agM{mf:fe}{ms:c7}{rs:List R}(h:aJ S (ms Y) rs)(aE:rs.all R.je=true)(e:bp (S++[.bD c []]) (mf (.ref S.length::rs.map R.arg)) (.v .aG) S1):bp S (xg c mf (e8 ms) Y) (.v (.ref S.length)) S1:=(aJ.to h).bind (by
 rw[if_pos aE];exact bp.bind (m:=uY) (a:=S) (S1:=S) rfl (bp.bind (m:=putN _) (a:=()) (S1:=S++[fQ.bD c []]) rfl (bp.bind e rfl)))
def qM{n N:Nat}{b:bk}{ds:List D}(h:ds.length=n)(e:bp S (b (ds.map dC++akB (N-n) .e)) (.cQ (.v d)) S1):bp S (fnX n N b ds) (.v d) S1:=by
 unfold fnX;rw[if_pos h];exact e.bind rfl
def agL{n N:Nat}{b:bk}{ds xs:List D}(h:ds.length=n)(e:bp S (b (ds.map dC++akB (N-n) .e)) (.cQ (.fr xs)) S1):bp S (fnX n N b ds) (.fr xs) S1:=by
 unfold fnX;rw[if_pos h];exact e.bind rfl
def FO{n N:Nat}{b:bk}{ds:List D}(h:ds.length=n)(e:bp S (b (ds.map dC++akB (N-n) .e)) (.bh Y') S1):bp S (fnX n N b ds) (.v .aG) S1:=by
 unfold fnX;rw[if_pos h];exact e.bind rfl
def x_at{mo:bo}{mv:fk}{aW:List (Str×D)}{r:R}(bL:bp S (mv Y) r S1)(e:r.dat=pure d)(ae:aJ S1 (mo Y) (.v (.ref i)))(h:S1[i]? = some (.bD c aW))(au:aW.length<1000):bp S (e9 c f mo mv Y) (.bh Y) (S1.set i (.bD c (iU f d aW))):=bL.bind ((aJ.of e).to.bind (ae.to.bind ((nM h).to.bind (by
 show bp S1 (if c=c/\aW.length<1000 then _ else _) _ _;rw[if_pos ⟨rfl,au⟩];rfl))))
def PM{mo mk:bo}{mv:fk}{ak:List (Key×D)}{r:R}{k:Key}(bL:bp S (mv Y) r S1)(e:r.dat=pure d)(ae:aJ S1 (mo Y) (.v (.ref i)))(ah:aJ S1 (mk Y) (.v kd))(h:S1[i]? = some (.dS ak))(ax:qj kd=some k)(au:ak.length<1000):bp S (ie mo mk mv Y) (.bh Y) (S1.set i (.dS (dE ak k d))):=bL.bind ((aJ.of e).to.bind (ae.to.bind (ah.to.bind ((nM h).to.bind (by
 show bp S1 (match qj kd with|some key=>_|none=>_) _ _;rw[ax];show bp S1 (if ak.length<1000 then _ else _) _ _;rw[if_pos au];rfl)))))
def PN{mo:bo}{ms:c7}{mv:fk}{ak:List (List Key×D)}{r:R}{rs:List R}{k:List Key}(bL:bp S (mv Y) r S1)(e:r.dat=pure d)(ae:aJ S1 (mo Y) (.v (.ref i)))(ah:aJ S1 (ms Y) rs)(h:S1[i]? = some (.eZ ak))(ax:rv rs=some k)(au:rs.length<=1000/\ak.length<1000):bp S (xf mo ms mv Y) (.bh Y) (S1.set i (.eZ (dE ak k d))):=bL.bind ((aJ.of e).to.bind (ae.to.bind (ah.to.bind ((nM h).to.bind (by
 rw[ax];show bp S1 (if rs.length<=1000/\ak.length<1000 then _ else _) _ _;rw[if_pos au];rfl)))))
def FN{mo:bo}{ms:c7}{xs:List D}(ae:aJ S (mo Y) (.v (.ref i)))(ah:aJ S (ms Y) [.v d])(h:S[i]? = some (.lst xs))(z:xs.length<ajL):bp S (pw iD mo ms Y) (.bh Y) (S.set i (.lst (xs++[d]))):=ae.to.bind (ah.to.bind ((nM h).to.bind ((aJ.to (a:=(R.v .aG,xs++[d])) (.of (by show(hY (xs.length<ajL) >>= _)=_;rw[Ii z];rfl))).bind rfl)))
def FP:bp S (oc (cS (dJ aj)) Y) (.v (.ref S.length)) (S++[.lst []]):=rfl
def t7{it:fj}(h:aJ S (it Y) ds)(e:bp S (kI (λd Y=>b (Y.set i (.v d))) ds Y) ba S1):bp S (qL i it b Y) ba S1:=(aJ.to h).bind e
def oe{b:D->bk}(h:bp S (b d Y) (.bh Y') S1)(ah:bp S1 (kI b ds Y') ba bc):bp S (kI b (d::ds) Y) ba bc:=h.bind ah
def Au{a:aR->N Bool}(h:bp S (a Y) x S1):bp S (pz a Y) (!x) S1:=h.bind rfl
def Ar{m:fk}(h:bp S (m Y) (.v (.aC b)) S1):bp S (pA m Y) b S1:=h.bind rfl
def Fr(W:List Nat)(S ai:cz):Prop:=∀j o,j∉W->S[j]? = some o->ai[j]? = some o
def Fr.set(h:i∈W):Fr W S (S.set i o):=λj o' aZ e=>by
 rw[ajX (λq:i=j=>aZ (q▸h))];exact e
def Fr.app:Fr W S (S++l):=λj o _ e=>by
 rw[aj8 (ajJ.mp e).1];exact e
def Fr.refl:Fr W S S:=λ_ _ _ e=>e
def Fr.trans(h:Fr W S S1)(ah:Fr W S1 bc):Fr W S bc:=λj o aZ e=>ah j o aZ (h j o aZ e)
def get_set(h:S[i]? = some o):(S.set i o')[i]? = some o':=by
 rw[akF (ajJ.mp h).1]
def Cz:(S++[o])[S.length]? = some o:=by rw[aj3 (ajK _),alD];rfl
def set_same(h:S[i]? = some o):S.set i o=S:=by
 obtain⟨au,e⟩:=ajJ.mp h;rw[<-e,List.set_getElem_self]
end
end fb
namespace fb
open PySem PySem.Spec aF a0 jP hB l8
structure b6 where
 me:Int
 cB:Int
 h:D
 op:D
 ep:Bool
 a4:Int
 st:du
 wi:Int
 dd:D
 cR:Str
 bK:D
 aA:List c2
 cJ:Nat
 c1:D
def b6.aW(a:b6)(g:Nat):List (Str×D):=[("me",.int a.me),("epoch",.int a.cB),("hall",a.h),("opening",a.op),("over_known",.aC a.ep),("greatest_round",.int a.a4),("last_stamp",b8 a.st),("wishes",.int a.wi),("deed",a.dd),("standing",.str a.cR),("last_outcome",a.bK),("grants",.ref g),("kept_mask",bl a.cJ),("told_slate",a.c1)]
def eW(me cB:Int)(s:du)(k:Nat):D:=.tup [.str "ask",.int me,bl k,.int cB,b8 s,.tup []]
def fC(me cB:Int)(s:du)(l:D)(k:Nat):D:=.tup [.str "tell",.int me,bl k,.int cB,b8 s,l]
def iK:D:=.tup [.tup [],.tup [],.tup [.int 0,.aG],.aG]
def zE(me:Int)(h:D):b6:=⟨me,0,h,iK,false,0,(0,0),0,.aG,"calm",.aG,[],0,.aG⟩
structure eD(S:cz)(i g:Nat)(a:b6):Prop where
 bD:S[i]? = some (.bD "Asker" (a.aW g))
 ls:S[g]? = some (.lst (a.aA.map ck))
structure eo(S ai:cz)(i g g':Nat)(b:b6):Prop where
 at':eD ai i g' b
 fr:Fr [i,g] S ai
 nw:g'=g\/S.length<=g'
 len:S.length<=ai.length
def ft(S:cz)(i g:Nat)(m:N gI)(ba:gI)(c:b6):Prop:=∃ai g',bp S m ba ai/\eo S ai i g g' c
def b6.Do(a:b6)(mf:fe)(ds ys:List D)(b:b6):Prop:=∀(S:cz)(i g:Nat),eD S i g a->∃ai g',bp S (mf (.ref i::ds)) (.fr ys) ai/\eo S ai i g g' b
section
variable{S S1 bc:cz}{Y Y':aR}{i g g1 g2 k:Nat}{a b c:b6}{f:Str}{d:D}{mv:bo}{r:R}{bd:bk}{ba:gI}
def tb(h:S[i]? = some o):i<S.length:=(ajJ.mp h).1
def eD.ne(h:eD S i g a):i≠g:=λe=>by have:=h.bD;rw[e,h.ls]at this;cases this
def eo.refl(h:eD S i g a):eo S S i g g a:=⟨h,.refl,.inl rfl,ajK _⟩
def eo.trans(h:eo S S1 i g g1 b)(ah:eo S1 bc i g1 g2 c):eo S bc i g g2 c:=by
 refine⟨ah.at',λj o aZ e=>ah.fr j o ?_ (h.fr j o aZ e),?_,akT h.len ah.len⟩
 .have:=tb e
  simp only[ajN,alc,or_false,not_or]at aZ ⊢;rcases h.nw with q|q
  .rw[q];exact aZ
  .exact⟨aZ.1,by omega⟩
 .rcases ah.nw with q|q
  .rw[q];exact h.nw
  .exact .inr (akT h.len q)
def dR(h:eD S i g a)(ax:I k Y=pure (.v (.ref i)))(e:(a.aW g).lookup f=some d):aJ S (bQ (cL "Asker" f) (I k) Y) (.v d):=Ze h.bD (.of ax) e
def DD:(a.aW g).length<1000:=by show 14<1000;omega
theorem lJ(h:eD S i g a)(b:b6)(ax:I k Y=pure (.v (.ref i)))(ev:aJ S (mv Y) r)(p4:r.dat=pure d)(e:iU f d (a.aW g)=b.aW g)(gD:b.aA=a.aA)(q:∀S1,eD S1 i g b->ft S1 i g (bd Y) ba c):ft S i g (bI (e9 "Asker" f (I k) (cS mv)) bd Y) ba c:=by
 have ae:eD (S.set i (.bD "Asker" (iU f d (a.aW g)))) i g b:=⟨by rw[get_set h.bD,e],by rw[ajX h.ne,gD];exact h.ls⟩;obtain⟨bc,g2,t,s⟩:=q _ ae;exact⟨bc,g2,ct (x_at ev.to p4 (.of ax) h.bD DD) t,eo.trans ⟨ae,.set (by simp),.inl rfl,by rw[akI];exact ajK _⟩ s⟩
theorem Wb(h:eD S i g a)(b:b6)(ax:I k Y=pure (.v (.ref i)))(e:∀n,iU ("grants":Str) (D.ref n) (a.aW g)=b.aW n)(dc:b.aA=[])(q:∀S1 g1,eD S1 i g1 b->ft S1 i g1 (bd Y) ba c):ft S i g (bI (e9 "Asker" "grants" (I k) (oc (cS (dJ aj)))) bd Y) ba c:=by
 have h0:(S++[fQ.lst []])[i]? = some (.bD "Asker" (a.aW g)):=Fr.app (W:=[]) _ _ (alc) h.bD;have ae:eD ((S++[fQ.lst []]).set i (.bD "Asker" (iU ("grants":Str) (D.ref S.length) (a.aW g)))) i S.length b:=⟨by rw[get_set h0,e],by rw[ajX (aj1 (tb h.bD)),Cz,dc];rfl⟩;obtain⟨bc,g2,t,s⟩:=q _ _ ae;exact⟨bc,g2,ct (x_at FP rfl (.of ax) h0 DD) t,eo.trans ⟨ae,Fr.app.trans (.set (by simp)),.inr (ajK _),by rw[akI,ajQ];omega⟩ s⟩
theorem Jo{ms:c7}(h:eD S i g a)(b:b6)(ax:I k Y=pure (.v (.ref i)))(ev:aJ S (ms Y) [.v (ck x)])(e:b.aW g=a.aW g)(gD:b.aA=a.aA++[x])(z:a.aA.length<1000)(q:∀S1,eD S1 i g b->ft S1 i g (bd Y) ba c):ft S i g (bI (pw iD (bQ (cL "Asker" "grants") (I k)) ms) bd Y) ba c:=by
 have ae:eD (S.set g (.lst (a.aA.map ck++[ck x]))) i g b:=⟨by rw[ajX h.ne.symm,e];exact h.bD,by rw[get_set h.ls,gD,akw];rfl⟩;obtain⟨bc,g2,t,s⟩:=q _ ae;exact⟨bc,g2,ct (FN (dR h ax rfl) ev h.ls (by rw[ajE];exact eJ (by omega))) t,eo.trans ⟨ae,.set (by simp),.inl rfl,by rw[akI];exact ajK _⟩ s⟩
def A6(h:eD S i g a)(ax:I k Y=pure (.v (.ref i))):aJ S (gf (bQ (cL "Asker" "grants") (I k)) Y) (.mv (a.aA.map ck)):=vz h.ls (dR h ax rfl)
def sQ{m:a3}(h:eD S i g a)(e:aJ S (m Y) ba):ft S i g (bU m Y) ba a:=⟨S,g,e,.refl h⟩
theorem i3{t:aR->M Bool}(e:aJ S (t Y) false)(q:ft S i g (bd Y) ba c):ft S i g (bI (bU (dg t m cv)) bd Y) ba c:=by
 obtain⟨bc,g2,t,s⟩:=q;exact⟨bc,g2,agO e t,s⟩
theorem nE{t:aR->M Bool}(e:aJ S (t Y) false)(q:ft S i g (bd Y) ba c):ft S i g (bI (d9 (eR t) m (bU cv)) bd Y) ba c:=by
 obtain⟨bc,g2,t,s⟩:=q;exact⟨bc,g2,px e t,s⟩
def CE{t:aR->M Bool}{m:a3}{r:R}(h:eD S i g a)(e:aJ S (t Y) true)(az:aJ S (m Y) (.cQ r)):ft S i g (bI (bU (dg t m cv)) bd Y) (.cQ r) a:=⟨S,g,Av (y7 e az).to,.refl h⟩
theorem yC{t:aR->M Bool}{m:bk}{r:R}(e:aJ S (t Y) true)(q:ft S i g (m Y) (.cQ r) c):ft S i g (bI (d9 (eR t) m (bU cv)) bd Y) (.cQ r) c:=by
 obtain⟨bc,g2,t,s⟩:=q;exact⟨bc,g2,Av (hx e t),s⟩
theorem CD{m:a3}(e:aJ S (m Y) (.bh Y'))(q:ft S i g (bd Y') ba c):ft S i g (bI (bU m) bd Y) ba c:=by
 obtain⟨bc,g2,t,s⟩:=q;exact⟨bc,g2,ct (aJ.to e) t,s⟩
theorem u0{ms:hV}{rs:List R}(h:eD S i g a)(q:a.Do mf (rs.map R.arg) ys c)(ax:I k Y=pure (.v (.ref i)))(aH:(a.aW g).lookup m=none)(ah:bp S (ms Y) rs S)(aE:rs.all R.je=true):ft S i g (od (fD "Asker" m mf (I k) ms) Y) (.cQ (.fr ys)) c:=by
 obtain⟨bc,g2,t,s⟩:=q _ _ _ h;exact⟨bc,g2,agN (t8 h.bD (.of ax) aH ah aE t),s⟩
theorem kk{n N:Nat}{bd:bk}{ds ys:List D}(h:ds.length+1=n)(q:∀S i g,eD S i g a->ft S i g (bd (.v (.ref i)::ds.map dC++akB (N-n) .e)) (.cQ (.fr ys)) c):a.Do (fnX n N bd) ds ys c:=λS i g dK=>by
 obtain⟨bc,g2,t,s⟩:=q S i g dK;exact⟨bc,g2,agL h t,s⟩
end
def b6.asks(a:b6):b6:={ a with a4:=a.a4+1,st:=(a.a4+1,a.me),cR:="asking",aA:=[] }
def Gq{a:b6}{ms:List Nat}(hm:nS [a.h]=pure (.fr (ms.map bl)))(au:ms.length<=6) :
  a.Do zm [] (ms.map (eW a.me a.cB (a.a4+1,a.me))) a.asks:=kk rfl λS i g h=>
 lJ h { a with a4:=a.a4+1 } rfl (cH rfl (dR h rfl rfl) (.of rfl)) rfl rfl rfl λS h=>
 lJ h { a with a4:=a.a4+1,st:=(a.a4+1,a.me) } rfl (oT (bS (dR h rfl rfl) (bS (dR h rfl rfl) dM)) rfl (ajU rfl)) rfl rfl rfl λS h=>
 lJ h { a with a4:=a.a4+1,st:=(a.a4+1,a.me),cR:="asking" } rfl (.of rfl) rfl rfl rfl λS h=>
 Wb h a.asks rfl (λ_=>rfl) rfl λS g h=>
 sQ h (KN (vy (y5 (fW (bS (dR h rfl rfl) dM) (.of hm)) rfl) (by rw[ajE];exact eJ (by omega))
  (y8 bl (eW a.me a.cB (a.a4+1,a.me)) ms λk _=>fW (bS (dR h rfl rfl) (bS (.of rfl) (bS (dR h rfl rfl) (bS (dR h rfl rfl) dM)))) (.of rfl))))
def PK{S:cz}{mv:bo}{aW:List (Str×D)}{bd:bk}(h:S[i]? = some (.bD c aW))(ev:mv Y=pure (.v d))(ax:I 0 Y=pure (.v (.ref i)))(au:aW.length<1000)(q:bp (S.set i (.bD c (iU f d aW))) (bd Y) ba bc):bp S (bI (e9 c f (I 0) (cS mv)) bd Y) ba bc:=ct (x_at (aJ.of ev).to rfl (.of ax) h au) q
def rx{n:Nat}(h:n.ble 999=true):n<1000:=Nat.lt_succ_of_le (ajU h)
def YO(S:cz)(me:Int)(h:D)(dK:dC h=.v h):∃ai,bp (S++[.bD "Asker" []]) (zl [.ref S.length,.int me,h]) (.v .aG) ai/\eD ai S.length (S.length+1) (zE me h)/\ai.length=S.length+2/\Fr [] S ai:=by
 have ne:S.length+1≠S.length:=by omega
 have ap:∀{o o':fQ},(S++[o])++[o']=S++[o,o']:=λ{o o'}=>by rw[aml];rfl
 have st:∀{o o':fQ}{l:cz},(S++o::l).set S.length o'=S++o'::l:=λ{o o' l}=>by rw[List.set_append_right _ _ (ajK _),alD];rfl
 have gt:∀{o:fQ}{l:cz},(S++o::l)[S.length]? = some o:=λ{o l}=>by rw[aj3 (ajK _),alD];rfl
 refine⟨S++[.bD "Asker" ((zE me h).aW (S.length+1)),.lst []],FO (Y':=[.v (.ref S.length),.v (.int me),.v h]) rfl ?_,⟨gt,?_⟩,by rw[ajQ];rfl,.app⟩
 .show bp _ (Be [.v (.ref S.length),.v (.int me),dC h]) _ _
  rw[dK]
  repeat' (refine PK gt (by rfl) rfl (rx rfl) ?_;rw[st])
  refine ct (x_at FP rfl (.of rfl) (by rw[ap];exact gt) (rx rfl)) ?_;rw[ap,st,ajQ];refine PK gt (by rfl) rfl (rx rfl) ?_;rw[st];have:=x_at (S:=S++[fQ.bD "Asker" [("me",D.int me),("epoch",.int 0),("hall",h),("opening",iK),("over_known",.aC false),("greatest_round",.int 0),("last_stamp",b8 (0,0)),("wishes",.int 0),("deed",.aG),("standing",.str "calm"),("last_outcome",.aG),("grants",.ref (S.length+1)),("kept_mask",bl 0)],.lst []]) (f:="told_slate") (mv:=cS (aa .aG)) (Y:=[.v (.ref S.length),.v (.int me),.v h]) (mo:=I 0) (i:=S.length) (d:=.aG) (r:=.v .aG) rfl rfl (.of rfl) gt (rx rfl);rw[st]at this;exact this
 .rw[aj3 (by omega),Nat.add_sub_cancel_left];rfl
def fM(ag:aj2 x=true)(bg:aj2 y=true):oEq (.v (.str x)) (.v (.str y))=pure (.v (.aC (x==y))):=uL (x:=.v (.str x)) (y:=.v (.str y)) ag bg
def Fi(ag:aj2 x=true)(bg:aj2 y=true):ef (.v (.str x)) (.v (.str y))=pure (.v (.aC (!(x==y)))):=B3 (x:=.v (.str x)) (y:=.v (.str y)) ag bg
def kz:aj2 "calm"=true:=by decide +kernel
def qu:aj2 "asking"=true:=by decide +kernel
def o9:aj2 "telling"=true:=by decide +kernel
def tI:aj2 "late"=true:=by decide +kernel
def b6.nj(a:b6):Prop:=a.cR="calm"\/a.cR="asking"\/a.cR="telling"
def rW{a:b6}(h:a.nj):aj2 a.cR=true:=by rcases h with h|h|h<;>rw[h]<;>decide +kernel
def calm_eq{a:b6}(h:a.nj):oEq (.v (.str a.cR)) (.v (.str "calm"))=pure (.v (.aC (a.cR == "calm"))):=fM (rW h) kz
def Tz{a:b6}(h:a.nj):ef (.v (.str a.cR)) (.v (.str "calm"))=pure (.v (.aC (!(a.cR == "calm")))):=Fi (rW h) kz
structure qP(h:D)(ms:List Nat)(ec iM:Nat->Bool):Prop where
 mem:nS [h]=pure (.fr (ms.map bl))
 len:ms.length<=6
 lt:∀k∈ms,k<6
 ne:ms≠[]
 ex:∃x y,h=.tup [x,y]/\dC x=.v x/\dC y=.v y/\(∀m:Nat,kr 12 [x,bl m]=pure (.v (.aC (ec m))))/\∀m:Nat,kr 12 [y,bl m]=pure (.v (.aC (iM m)))
def b6.tells(a:b6)(t:D):b6:={ a with cR:="telling",cJ:=0,c1:=t }
def ai8(d:D):ky (.v d) (.v .aG)=pure (.v (.aC (match d with|.aG=>true|_=>false))):=by cases d<;>rfl
def h1(k:Nat)(a e:Int)(s kp:du)(w:D):D:=.tup [.str "grant",bl k,.int a,.int e,b8 s,.tup [b8 kp,w]]
def iy(k:Nat)(a e:Int)(s:du):D:=.tup [.str "kept",bl k,.int a,.int e,b8 s,.tup []]
def s9(k:Nat)(a e:Int)(s p:du):D:=.tup [.str "late",bl k,.int a,.int e,b8 s,.tup [b8 p]]
def b6.got(a:b6)(k:Nat)(kp:du)(w:D):b6:={ a with aA:=a.aA++[⟨k,kp,w⟩] }
section
variable{a:b6}{ms:List Nat}{ec iM:Nat->Bool}(H:qP a.h ms ec iM){k:Nat}{me e:Int}{s kp:du}{w:D}(aU:∀g∈a.aA,g.k<6)(au:a.aA.length<60)(ax:k<6)
def CG{a:b6}{i g:Nat}(h:eD S i g a)(aU:∀g∈a.aA,g.k<6)(au:a.aA.length<=1000)(Y:aR):aJ S (bA oY (U (gf (bQ (cL "Asker" "grants") (I 0))) aj) (.v (.ref i)::Y)) (.v (bl (maskOf (a.aA.map (·.k))))):=
 fW (bS (A6 h rfl) dM) (.of (Wg a.aA aU au))
include aU au
theorem J0(h:eD S i g a):aJ S (aY (bA qn (U (bA oY (U (gf (bQ (cL "Asker" "grants") (I 0))) aj)) (U (ab aL (I 1) (aa (.int 1))) aj))) [.v (.ref i),.v (h1 k me e s kp w)]) (gY (maskOf (a.aA.map (·.k))) k):=
 de (fW (bS (CG h aU (by omega) _) (bS (.of rfl) dM)) (.of (CN _ k)))
include H ax
theorem Jq(h:eD S i g (a.got k kp w)):aJ S (gg (aY (bA (kr 12) (U (ab aL (bQ (cL "Asker" "hall") (I 0)) (aa (.int 0))) (U (bA oY (U (gf (bQ (cL "Asker" "grants") (I 0))) aj)) aj)))) [.v (.ref i),.v (h1 k me e s kp w)]) (!ec (maskOf ((a.got k kp w).aA.map (·.k)))):=by
 obtain⟨x,y,q7,_,_,f1,_⟩:=H.ex;have g3:=CG h (λg h=>by
  rcases akp.mp h with h|h
  .exact aU g h
  .rw[aj0.mp h];exact ax) (by show(a.aA++[_]).length<=1000;rw[ajQ];show _+1<=_;omega) [.v (h1 k me e s kp w)]
 exact qi (de (fW (bS (cH (x:=.v (.tup [x,y])) (r:=.v x) rfl (dR h rfl (by show some a.h=_;rw[q7])) (.of rfl)) (bS g3 dM)) (.of (f1 _))))
theorem XW(q:gY (maskOf (a.aA.map (·.k))) k=false)(cf:ec (maskOf ((a.got k kp w).aA.map (·.k)))=false):a.Do vJ [h1 k me e s kp w] [] (a.got k kp w):=kk rfl λS i g h=>
 i3 (by have:=J0 (k:=k) (me:=me) (e:=e) (s:=s) (kp:=kp) (w:=w) aU au h;rw[q]at this;exact this)<|
 Jo h (a.got k kp w) rfl (bS (x:=.v (ck ⟨k,kp,w⟩)) (.of rfl) dM) rfl rfl (by omega) λS h=>
 CE h (by have:=Jq (me:=me) (e:=e) (s:=s) H aU au ax h;rw[cf]at this;exact this) (.of rfl)
theorem XY{σ:List D}{t:b6}{p:c2}{ps:List c2}(gD:(a.got k kp w).aA=p::ps)(Yt:dC a.op=.v a.op)(q:gY (maskOf (a.aA.map (·.k))) k=false)(cf:ec (maskOf ((a.got k kp w).aA.map (·.k)))=true)
  (go:(a.got k kp w).Do td [oI a.op (lE p ps)] σ t):a.Do vJ [h1 k me e s kp w] σ t:=by
 have aD:=Ya p ps a.op Yt (by rw[<-gD];show(a.aA++[_]).length<64;rw[ajQ];show _+1 < _;omega);rw[<-gD]at aD;exact kk rfl λS i g h=>
  i3 (by have:=J0 (k:=k) (me:=me) (e:=e) (s:=s) (kp:=kp) (w:=w) aU au h;rw[q]at this;exact this)<|
  Jo h (a.got k kp w) rfl (bS (x:=.v (ck ⟨k,kp,w⟩)) (.of rfl) dM) rfl rfl (by omega) λS h=>
  i3 (by have:=Jq (me:=me) (e:=e) (s:=s) H aU au ax h;rw[cf]at this;exact this)<|
  u0 (rs:=[.v (oI a.op (lE p ps))]) h go rfl rfl (aJ.to (bS (fW (bS (A6 h rfl) (bS (dR h rfl rfl) dM)) (.of aD)) dM)) rfl
end
def Mi:D->Bool
 |.aG=>true|_=>false
def YM(j:Nat)(bj:List Nat):h6 false (.v (bl j)) (.fr (bj.map bl))=pure (.v (.aC (bj.contains j))):=vr j bj
def rH{a b:Int}:ef (.v (.int a)) (.v (.int b))=pure (.v (.aC (!decide (a=b)))):=rfl
def b6.now(a:b6)(ms:List Nat)(k:Nat)(e:Int)(s:du):Bool:=decide (e=a.cB)&&decide (s=a.st)&&ms.contains k
def YW{a:b6}(h:eD S i g a)(H:qP a.h ms ec iM)(w ld:D)(k:Nat)(b e:Int)(s:du):aJ S (zq [.ref i,.tup [w,bl k,.int b,.int e,b8 s,ld]]) (.v (.aC (a.now ms k e s))):=by
 refine sY rfl ?_;have t1:aJ S (aY (ab ef (ab aL (I 1) (aa (.int 3))) (bQ (cL "Asker" "epoch") (I 0))) [.v (.ref i),.v (.tup [w,bl k,.int b,.int e,b8 s,ld])]) (!decide (e=a.cB)):=de (cH rH (.of rfl) (dR h rfl rfl));have d6:aJ S (aY (ab ef (ab aL (I 1) (aa (.int 4))) (bQ (cL "Asker" "last_stamp") (I 0))) [.v (.ref i),.v (.tup [w,bl k,.int b,.int e,b8 s,ld])]) (!decide (s=a.st)):=de (cH (Mb s a.st) (.of rfl) (dR h rfl rfl));unfold b6.now;generalize decide (e=a.cB)=l3 at *;generalize decide (s=a.st)=PI at *
 cases l3 with
 |false=>exact Dy (y7 (Zg t1) (.of rfl))|true=>
  cases PI with
  |false=>exact Dy (y7 (vB t1 d6) (.of rfl))|true=>exact Dx (y6 (vB t1 d6) (.of rfl)) (oS (cH (YM k ms) (.of rfl) (fW (bS (dR h rfl rfl) dM) (.of H.mem))))
def tH:aj2 "grant"=true:=by decide +kernel
def aa1:aj2 "kept"=true:=by decide +kernel
def ZZ:oEq (.v (.str "late")) (.v (.str "late"))=pure (.v (.aC true)):=by rw[fM tI tI,beq_self_eq_true]
def Jl:oEq (.v (.str "grant")) (.v (.str "late"))=pure (.v (.aC false)):=by rw[fM tH tI];rfl
def yA:oEq (.v (.str "grant")) (.v (.str "grant"))=pure (.v (.aC true)):=by rw[fM tH tH,beq_self_eq_true]
def V9:oEq (.v (.str "grant")) (.v (.str "kept"))=pure (.v (.aC false)):=by rw[fM tH aa1];rfl
def b6.DO(a:b6)(r:Int):b6:={ a with a4:=if r > a.a4 then r else a.a4 }
section
variable{a:b6}{ms:List Nat}{ec iM:Nat->Bool}{S:cz}{i g:Nat}(H:qP a.h ms ec iM){k:Nat}{e:Int}{s kp:du}{w:D}
def wx(h:eD S i g a)(x ld:D)(k:Nat)(e:Int)(s:du):aJ S (aY (ab ef (ab aL (I 1) (aa (.int 2))) (bQ (cL "Asker" "me") (I 0))) [.v (.ref i),.v (.tup [x,bl k,.int a.me,.int e,b8 s,ld])]) false:=
 de (cH (rH.trans (by rw[decide_eq_true rfl];rfl)) (.of rfl) (dR (d:=.int a.me) h rfl rfl))
theorem JT(p:du):a.Do lQ [s9 k a.me e s p] [] (a.DO p.1):=kk rfl λS i g h=>
 i3 (wx h (.str "late") (.tup [b8 p]) k e s)<|yC (de (cH ZZ (.of rfl) (.of rfl)))<|
 lJ h (a.DO p.1) rfl (vx (r:=.v (.int (a.DO p.1).a4)) rfl (bS (dR h rfl rfl) (bS (.of rfl) dM))) rfl rfl rfl λS h=>sQ h (.of rfl)
include H
theorem zG(h:eD S i g a)(x ld:D)(k:Nat)(b e:Int)(s:du):aJ S (gg (aY (jq "Asker" "is_for_now" zq (I 0) (U (I 1) aj))) [.v (.ref i),.v (.tup [x,bl k,.int b,.int e,b8 s,ld])]) (!a.now ms k e s):=
 qi (de (vA h.bD (.of rfl) rfl (bS (.of rfl) dM) (YW h H x ld k b e s)))
variable(aE:a.nj)
include aE
theorem JR(q:a.now ms k e s=true)(c:a.cR="asking"){t:b6}(g:a.Do vJ [h1 k a.me e s kp w] σ t):a.Do lQ [h1 k a.me e s kp w] σ t:=kk rfl λS i j h=>
 i3 (wx h (.str "grant") (.tup [b8 kp,w]) k e s)<|nE (de (cH Jl (.of rfl) (.of rfl)))<|
 i3 (by have:=zG H h (.str "grant") (.tup [b8 kp,w]) k a.me e s;rw[q]at this;exact this)<|
 yC (j6 (de (cH yA (.of rfl) (.of rfl))) (de (cH (by rw[fM (rW aE) qu,c,beq_self_eq_true]) (dR h rfl rfl) (.of rfl))))<|
 u0 (rs:=[.v (h1 k a.me e s kp w)]) h g rfl rfl (aJ.to (.of rfl)) rfl
theorem XX(q:a.now ms k e s=true)(c:a.cR≠"asking"):a.Do lQ [h1 k a.me e s kp w] [] a:=kk rfl λS i j h=>
 i3 (wx h (.str "grant") (.tup [b8 kp,w]) k e s)<|nE (de (cH Jl (.of rfl) (.of rfl)))<|
 i3 (by have:=zG H h (.str "grant") (.tup [b8 kp,w]) k a.me e s;rw[q]at this;exact this)<|
 nE (j6 (de (cH yA (.of rfl) (.of rfl))) (de (cH (by rw[fM (rW aE) qu,show(a.cR == "asking")=false by simpa using c]) (dR h rfl rfl) (.of rfl))))<|
 nE (nL (de (cH V9 (.of rfl) (.of rfl))))<|sQ h (.of rfl)
end
section
variable{a:b6}{ms:List Nat}(hm:nS [a.h]=pure (.fr (ms.map bl)))(au:ms.length<=6)
include hm au
theorem S5(aE:a.nj)(c:a.cR≠"calm"):a.Do zo [] (ms.map (eW a.me a.cB (a.a4+1,a.me))) a.asks:=kk rfl λS i g h=>
 i3 (de (cH (by rw[calm_eq aE,show(a.cR == "calm")=false by simpa using c]) (dR h rfl rfl) (.of rfl)))<|u0 (rs:=[]) h (Gq hm au) rfl rfl rfl rfl
def b6.Bs(a:b6)(d:D):b6:={ a with wi:=a.wi+1,dd:=d,bK:=.aG }
end
abbrev lz:=f6.κ.toKeyOrd
structure dp where
 cs:qV
 ds:List (Int×D)
 f:Int
 t:D
 c5:D
def dp.D(s:dp):a0.D:=.tup [.tup (s.cs.map (·.2)),.tup (s.ds.map (·.2)),.tup [.int s.f,s.t],s.c5]
inductive jO where
 |put (a:List Nat) (n:Int)|add (a:List Nat) (n:Int)
def jO.D:jO->a0.D
 |.put a n=>.tup [.str "put",.str (cV a),.int n]|.add a n=>.tup [.str "add",.str (cV a),.int n]
def afL:Option jO->a0.D
 |none=>.aG|some d=>d.D
def dp.cell(s:dp)(a:List Nat):Int:=md (gE (Q:=d_) s.cs a)
def dp.put(s:dp)(a:List Nat)(n:Int):dp:={ s with cs:=jJ s.cs a n }
def mR(s:dp)(i:Int):jO->dp×a0.D
 |.put a n=>(s.put a n,.int (s.cell a))
 |.add a n=>(s.put a (s.cell a+n),.int (s.cell a+n))
structure fR(G:a0.D->Prop)(W:List (List Nat))(s:dp):Prop where
 row:∀x∈s.cs,jN x
 rise:kO d_ s.cs
 nm:∀x∈s.cs,x.1∈W
 num:∀x∈s.ds,qS x
 q6:kO lz s.ds
 ey:∀x∈s.ds,0<=x.1/\x.1<6
 fY:s.t=.aG\/∃i:Int,s.t=.int i
 c5:s.c5=.aG\/s.c5=.str "over"\/(∃xs,s.c5=.tup xs)/\G s.c5
 yh:∀x∈s.ds,a0.Ok 2 x.2
def qO(G:a0.D->Prop)(W:List (List Nat)):jO->Prop
 |.put a _=>kP a/\a∈W|.add a _=>kP a/\a∈W
def aes{z:Int}(h0:0<=z)(fZ:z<6):z∈([0,1,2,3,4,5]:List Int):=by
 have e:z=0\/z=1\/z=2\/z=3\/z=4\/z=5:=by omega
 rcases e with e|e|e|e|e|e<;>rw[e]<;>simp
section
variable{G:a0.D->Prop}{W:List (List Nat)}{s:dp}(h:fR G W s)
include h
theorem fR.cl:s.cs.length<=W.length:=by
 have:=anl (l₂:=W) h.rise.nodup λx ag=>by
  obtain⟨y,bg,rfl⟩:=aks.mp ag;exact h.nm y bg
 rwa[ajE]at this
theorem fR.dl:s.ds.length<=6:=by
 have:=anl (l₂:=([0,1,2,3,4,5]:List Int)) h.q6.nodup λx ag=>by
  obtain⟨y,bg,rfl⟩:=aks.mp ag;exact aes (h.ey y bg).1 (h.ey y bg).2
 rw[ajE]at this;exact this
theorem fR.cj:s.t.bV 63=true:=by rcases h.fY with e|⟨i,e⟩<;>rw[e]<;>rfl
theorem abr(eF:W.length<63)(i:Int)(hd:qO G W d):nT [s.D,.int i,d.D]=pure (.v (.tup [(mR s i d).1.D,(mR s i d).2])):=by
 have au:s.cs.length<63:=by have:=h.cl;omega
 have cj:=h.cj;obtain⟨cs,ds,f,t,c5⟩:=s
 cases d with
 |put a n=>exact abx h.row h.rise au _ _ _ hd.1 n i|add a n=>exact abw h.row h.rise au _ _ _ hd.1 n i
end
def dp.last(s:dp)(i:Int):Int:=qs (gE (Q:=lz) s.ds i)
def mj(s:dp)(i n:Int):Option jO->dp
 |none=>s|some d=>if(Mi s.c5)=true/\s.last i<n then{ (mR s i d).1 with ds:=lW (Q:=lz) s.ds (i,.tup [.int i,.int n,(mR s i d).2]) }else s
def abq(s:dp)(i:Int)(d:jO):(mR s i d).1.ds=s.ds:=by
 cases d<;>rfl
section
variable{G:a0.D->Prop}{W:List (List Nat)}{s:dp}(h:fR G W s)
include h
theorem abv(i:Int)(d:jO):dC (mR s i d).2=.v (mR s i d).2:=by
 cases d<;>rfl
theorem Vm(eF:W.length<63)(i n:Int)(hd:∀x,d=some x->qO G W x):nP [s.D,.int i,.int n,afL d]=pure (.v (mj s i n d).D):=by
 cases d with
 |none=>exact IJ h.num _ _ _ i n .aG rfl (.inl rfl)|some d=>
  have hd:=hd d rfl;unfold mj;dsimp only;have eZ:∃xs,d.D=.tup xs:=by cases d<;>exact⟨_,rfl⟩
  obtain⟨xs,eZ⟩:=eZ
  by_cases c:(Mi s.c5)=true/\s.last i<n
  .rw[if_pos c]
   have eb:=abr h eF i hd;have dj:=abq s i d;have os:=abv h i d;have yS:s.c5=.aG:=by
    rcases h.c5 with e|e|⟨⟨xs,e⟩,_⟩
    .exact e
    .rw[e]at c;cases c.1
    .rw[e]at c;cases c.1
   have vb:=h.dl;have Yn:=h.q6.nodup;have Yq:=h.num;generalize mR s i d=o at *;obtain⟨⟨TX,nx,q_,t',sh'⟩,v⟩:=o;obtain⟨cs,ds,f,t,c5⟩:=s;dsimp only at dj os yS eb vb ⊢;subst dj yS;show nP [_,_,_,d.D]=_;unfold dp.D at eb ⊢;dsimp only at eb ⊢;rw[eZ]at eb ⊢;have ao:=Vl Yq (.tup (cs.map (·.2))) (.tup [.int f,t]) i n xs c.2 (show nx.length<63 by omega) Yn (c':=.tup (TX.map (·.2))) (le':=.tup [.int q_,t']) (sh':=sh') (v:=v);exact ao eb os
  .rw[if_neg c]
   show nP [_,_,_,d.D]=_;rw[eZ];refine IJ h.num _ _ _ i n (.tup xs) rfl (.inr ⟨⟨_,rfl⟩,?_⟩);rcases h.c5 with e|e|⟨⟨zs,e⟩,_⟩
   .refine .inr (.inr ⟨e,?_⟩)
    rw[e]at c;have:¬s.last i<n:=λz=>c ⟨rfl,z⟩
    unfold dp.last at this;omega
   .exact .inl e
   .exact .inr (.inl ⟨zs,e⟩)
end
section
variable{G:a0.D->Prop}{W:List (List Nat)}{s:dp}(h:fR G W s)
include h
theorem fR.put(ar:kP a)(hw:a∈W)(n:Int):fR G W (s.put a n) where
 row:=afR h.row ar n
 rise:=afQ h.rise a n
 nm:=λx ag=>by
  have ag:x∈jJ s.cs a n:=ag;unfold jJ at ag;split at ag
  .exact h.nm x ((sE (Q:=d_)).mp ag).1
  .rcases(wJ (Q:=d_)).mp ag with⟨ag,_⟩|rfl
   .exact h.nm x ag
   .exact hw
 num:=h.num
 q6:=h.q6
 ey:=h.ey
 fY:=h.fY
 c5:=h.c5
 yh:=h.yh
theorem abt(i:Int)(hd:qO G W d):fR G W (mR s i d).1:=by
 cases d with
 |put a n=>exact h.put hd.1 hd.2 n|add a n=>exact h.put hd.1 hd.2 _
theorem abp(i:Int)(d:jO):a0.Ok 1 (mR s i d).2:=by
 cases d<;>exact h7
theorem Vn{i:Int}(h0:0<=i)(fZ:i<6)(n:Int)(hd:∀x,d=some x->qO G W x):fR G W (mj s i n d):=by
 cases d with
 |none=>exact h|some d=>
  have o:=abt h i (hd d rfl);unfold mj;dsimp only;split
  .refine⟨o.row,o.rise,o.nm,?_,?_,?_,o.fY,o.c5,?_⟩
   .exact aaR h.num i n _
   .exact MV _ h.q6.nodup
   .intro x ag
    rcases(wJ (Q:=lz)).mp ag with⟨ag,_⟩|rfl
    .exact h.ey x ag
    .exact⟨h0,fZ⟩
   .intro x ag
    rcases(wJ (Q:=lz)).mp ag with⟨ag,_⟩|rfl
    .exact h.yh x ag
    .exact Em h7 h7 (abp h i d)
  .exact h
theorem fR.ok(eF:W.length<=1000)(p7:∀z,G z->a0.Ok 9 z):a0.Ok 10 s.D:=by
 have aI:=h.cl;have hd:=h.dl;refine Mp (n:=9) (tJ (n:=3) (o_ (n:=2) (by rw[ajE];omega) λx ag=>?_) (by decide)) (tJ (n:=3) (o_ (n:=2) (by rw[ajE];omega) λx ag=>?_) (by decide)) (tJ (n:=1) (tG h7 ?_) (by decide)) ?_
 .obtain⟨y,bg,rfl⟩:=aks.mp ag
  obtain⟨w,n,_,e⟩:=h.row y bg;rw[e];exact tJ (n:=1) (tG (tK w.1) h7) (by decide)
 .obtain⟨y,bg,rfl⟩:=aks.mp ag
  exact h.yh y bg
 .rcases h.fY with e|⟨i,e⟩
  .rw[e];exact mQ
  .rw[e];exact h7
 .rcases h.c5 with e|e|⟨_,g⟩
  .rw[e];exact mQ
  .rw[e];exact tK (by decide +kernel)
  .exact p7 _ g
end
abbrev ed(k:Nat):List Key:=[.inl (k:Nat),.inl 0]
def g9(pr kp:du)(w:D):D:=.tup [b8 pr,b8 kp,w]
def hL(ak:List (List Key×D))(k:Nat):D:=(hq ak (ed k)).getD (g9 (0,0) (0,0) .aG)
def ZO{S:cz}(h:S[i]? = some (.eZ ak))(k:Nat):aJ S (tm [.ref i,bl k,.int 0]) (.v (hL ak k)):=
 sY rfl (oS (Zh h (.of rfl) (.of rfl) (.of rfl) rfl (ajU rfl)))
def cmp_gt(s t:du):o6 g7 (.v (b8 s)) (.v (b8 t))=pure (.v (.aC (fw s t))):=by
 show pure (R.v (.aC (g7 [s.1,s.2] [t.1,t.2])))=_;rw[Lo]
def ZU(s t:du):i9 [s.1,s.2] [t.1,t.2] = !fw t s:=by
 unfold i9 fw;rw[rz,rz]
 by_cases bz:s.1=t.1
 .rw[if_pos bz,bz]
  by_cases cf:s.2=t.2
  .rw[if_pos cf,cf]
   simp[nN]
  .rw[if_neg cf,ak3];simp
 .rw[if_neg bz,ak3]
  simp;omega
def Io(s t:du):o6 i9 (.v (b8 s)) (.v (b8 t))=pure (.v (.aC (!fw t s))):=by
 show pure (R.v (.aC (i9 [s.1,s.2] [t.1,t.2])))=_;rw[ZU]
def wm:aj2 "ask"=true:=by decide +kernel
def wt:aj2 "tell"=true:=by decide +kernel
def Gg:oEq (.v (.str "ask")) (.v (.str "ask"))=pure (.v (.aC true)):=by rw[fM wm wm,beq_self_eq_true]
def QI:oEq (.v (.str "ask")) (.v (.str "tell"))=pure (.v (.aC false)):=by rw[fM wm wt];rfl
def O5:oEq (.v (.str "tell")) (.v (.str "ask"))=pure (.v (.aC false)):=by rw[fM wt wm];rfl
def Pg:oEq (.v (.str "tell")) (.v (.str "tell"))=pure (.v (.aC true)):=by rw[fM wt wt,beq_self_eq_true]
section
variable{ak:List (List Key×D)}{k:Nat}{me:Int}{s pr kp:du}{w:D}(aK:hL ak k=g9 pr kp w)
include aK
variable{S:cz}{i:Nat}(aD:S[i]? = some (.eZ ak))
include aD
theorem wB{ao az cG:bo}(h0:cG Y=pure (.v (.ref i)))(ae:ao Y=pure (.v (bl k)))(ah:az Y=pure (.v (.int 0))):aJ S (bA tm (U cG (U ao (U az aj))) Y) (.v (g9 pr kp w)):=
 fW (bS (.of h0) (bS (.of ae) (bS (.of ah) dM))) (aK▸ZO aD k)
theorem JU(hz:ak.length<1000)(hW:fw s pr=true):bp S (lR [.ref i,eW me 0 s k]) (.v (h1 k me 0 s kp w)) (S.set i (.eZ (dE ak (ed k) (g9 s kp w)))):=
 qM rfl (ct (aJ.to (oU (.of rfl) rfl)) (ct (aJ.to (oU (wB aK aD rfl rfl rfl) rfl)) (Av (hx (aJ.to (j6 (de (cH Gg (.of rfl) (.of rfl))) (de (cH ((cmp_gt s pr).trans (by rw[hW])) (.of rfl) (.of rfl))))) (ct (PN (k:=ed k) rfl rfl (.of rfl) (.of rfl) aD rfl ⟨ajU rfl,hz⟩) rfl)))))
theorem X2(hW:fw s pr=false):bp S (lR [.ref i,eW me 0 s k]) (.v (s9 k me 0 s pr)) S:=
 qM rfl (ct (aJ.to (oU (.of rfl) rfl)) (ct (aJ.to (oU (wB aK aD rfl rfl rfl) rfl)) (px (aJ.to (j6 (de (cH Gg (.of rfl) (.of rfl))) (de (cH ((cmp_gt s pr).trans (by rw[hW])) (.of rfl) (.of rfl))))) (px (aJ.to (nL (de (cH QI (.of rfl) (.of rfl))))) rfl))))
variable{b n dd t:D}
theorem JV(hz:ak.length<1000)(hW:fw pr s=false):bp S (lR [.ref i,fC me 0 s (.tup [b,n,dd,t]) k]) (.v (iy k me 0 s)) (S.set i (.eZ (dE ak (ed k) (g9 s s t)))):=
 qM rfl (ct (aJ.to (oU (.of rfl) rfl)) (ct (aJ.to (oU (wB aK aD rfl rfl rfl) rfl)) (px (aJ.to (nL (de (cH O5 (.of rfl) (.of rfl))))) (Av (hx (aJ.to (j6 (de (cH Pg (.of rfl) (.of rfl))) (de (cH ((Io s pr).trans (by rw[hW];rfl)) (.of rfl) (.of rfl))))) (ct (PN (k:=ed k) rfl rfl (.of rfl) (.of rfl) aD rfl ⟨ajU rfl,hz⟩) rfl))))))
theorem JW(hW:fw pr s=true):bp S (lR [.ref i,fC me 0 s (.tup [b,n,dd,t]) k]) (.v (s9 k me 0 s pr)) S:=
 qM rfl (ct (aJ.to (oU (.of rfl) rfl)) (ct (aJ.to (oU (wB aK aD rfl rfl rfl) rfl)) (px (aJ.to (nL (de (cH O5 (.of rfl) (.of rfl))))) (px (aJ.to (j6 (de (cH Pg (.of rfl) (.of rfl))) (de (cH ((Io s pr).trans (by rw[hW];rfl)) (.of rfl) (.of rfl))))) rfl))))
end
def IK(ak:List (List Key×D))(k:List Key)(d:D):(dE ak k d).length<=ak.length+1:=by
 unfold dE;split
 .rw[ajE];omega
 .rw[ajQ];exact ajK _
def Vs{k j:List Key}(h:j≠k)(d:D):∀ak:List (List Key×D),hq (dE ak k d) j=hq ak j:=by
 intro ak;unfold dE hq;split
 .rename_i mw
  clear mw
  induction ak with
  |nil=>rfl|cons p ak a6=>
   rw[ajP]
   by_cases c:p.1=k
   .rw[if_pos c,akA (by simpa using λz=>h (z.symm.trans c)),akA (by simpa using λz=>h (z.symm.trans c))]
    exact a6
   .rw[if_neg c]
    by_cases ab:p.1=j
    .rw[akL (by simpa using ab),akL (by simpa using ab)]
    .rw[akA (by simpa using ab),akA (by simpa using ab)]
     exact a6
 .rw[List.find?_append]
  cases e:ak.find? λkv=>decide (kv.1=j)with
  |none=>rw[akA (by simpa using amA h)];rfl|some x=>rfl
def Zz{j k:Nat}(h:j≠k):ed j≠ed k:=λz=>h (by injection z with z;injection z with z;omega)
def EC{j k:Nat}(h:j≠k)(ak:List (List Key×D))(d:D):hL (dE ak (ed k) d) j=hL ak j:=by unfold hL;rw[Vs (Zz h)]
end fb
namespace fb
open PySem PySem.Spec aF a0
def FT{xs:List D}{i:Nat}{d:D}(h:(jg xs xs)[i]? = some d):∃x,xs[i]? = some x/\d=.tup [x,x]:=by
 unfold jg at h;rw[akc]at h
 cases e:(xs.zip xs)[i]? with
 |none=>rw[e]at h;cases h
 |some p=>
  rw[e]at h;cases h;obtain⟨a,b⟩:=amF.mp e;rw[a]at b;exact⟨p.1,a,by show D.tup [p.1,p.2]=_;rw[<-akd b]⟩
def jF{t:aR->M Bool}{a b:a3}(e:t Y=pure false):b1 (dg t a cv) b Y=b Y:=ei (oO e)
def xM{a b:bo}{r:M R}(e:a Y=pure (.v (.aC true)))(az:b Y=r):lF a b Y=r:=by show(a Y >>= _)=_;rw[e];exact az
def OB(n:Nat):i_ (n+1) [.aG,.aG]=pure (.v (.aC true)):=i1 rfl ((jF (dn rfl)).trans (qz ((k2 (dn rfl)).trans (jA rfl))))
def Oz(n:Nat)(b:Bool):i_ (n+1) [.aC b,.aC b]=pure (.v (.aC true)):=i1 rfl ((jF (dn rfl)).trans ((jF (dn rfl)).trans (qz ((k2 (dn rfl)).trans (jA (xM rfl (bN (VD b) rfl rfl)))))))
def same_int(n:Nat)(i:Int):i_ (n+1) [.int i,.int i]=pure (.v (.aC true)):=i1 rfl ((jF (dn rfl)).trans ((jF (dn rfl)).trans ((jF (dn rfl)).trans (qz ((k2 (dn rfl)).trans (jA (xM rfl (xM rfl (bN (mm.trans (by rw[decide_eq_true rfl])) rfl rfl)))))))))
def same_str(n:Nat)(h:aj2 x=true):i_ (n+1) [.str x,.str x]=pure (.v (.aC true)):=i1 rfl ((jF (dn rfl)).trans ((jF (dn rfl)).trans ((jF (dn rfl)).trans ((jF (dn rfl)).trans (jA (xM rfl (bN (eq_str h) rfl rfl)))))))
def L_(b:Bool):ef (.v (.aC b)) (.v (.aC b))=pure (.v (.aC false)):=by cases b<;>rfl
def I9{is:List Nat}{ms:c7}(ao:ms Y=pure rs)(hz:t9 rs=some ds)(e:hr (qE is b) ds Y=pure (.bh Y')):sC is ms b Y=pure (.bh Y'):=by
 show(ms Y >>= _)=_;rw[ao];show(match t9 rs with|some ds=>hr (qE is b) ds Y|none=>bad)=_;rw[hz];exact e
def OA(n:Nat)(s:Slot)(h:∀x∈xs,i_ n [x,x]=pure (.v (.aC true))):∃Y',hr (qE [2,3] (DI (i_ n))) (jg xs xs) [s,s,.e,.e]=pure (.bh Y'):=by
 obtain⟨Y',e,s2,s3,rfl⟩:=uV (b:=qE [2,3] (DI (i_ n))) (ds:=jg xs xs) (Y:=[s,s,.e,.e])
  (λi Y=>∃s2 s3,Y=[s,s,s2,s3]) ⟨_,_,rfl⟩ (λi d Y ag ⟨s2,s3,ay⟩=>by
   subst ay;obtain⟨x,Yz,rfl⟩:=FT ag;exact⟨_,.inl (oO (Y:=[s,s,.v x,.v x]) (zF (dn (call_of (rs:=[.v x,.v x]) rfl (h x (akt Yz)))))),_,_,rfl⟩)
 exact⟨_,e⟩
def same_refl:∀(n:Nat)(d:D),Ok n d->i_ (n+1) [d,d]=pure (.v (.aC true)):=by
 intro n
 induction n with
 |zero=>
  intro d h
  cases d with
  |aG=>exact OB 0|aC b=>exact Oz 0 b|int i=>exact same_int 0 i|str x=>exact same_str 0 h.1| _=>exact absurd h.1 (by intro z;cases z)
 |succ n a6=>
  intro d h;have parts:∀xs:List D,iN xs n=true->(decide (xs.length<=1000)&&qJ xs)=true->(∀x∈xs,i_ (n+1) [x,x]=pure (.v (.aC true))):=λxs ae ah=>by
   rw[ako]at ah;exact λx ag=>a6 x ⟨Cv.mp ae x ag,FH.mp ah.2 x ag⟩
  cases d with
  |aG=>exact OB _|aC b=>exact Oz _ b|int i=>exact same_int _ i|str x=>exact same_str _ h.1|tup xs=>
   obtain⟨Y',S⟩:=OA (n+1) (.v (.tup xs)) (parts xs h.1 h.2);exact i1 rfl (qz ((k2 (dn rfl)).trans ((jF ((tN (zF (dn rfl))).trans (dn (bN (L_ true) rfl rfl)))).trans ((jF (dn (bN (rH.trans (by rw[decide_eq_true rfl];rfl)) rfl rfl))).trans ((ei (I9 (cons_of rfl rfl) rfl S)).trans (jA rfl))))))
  |lst xs=>
   obtain⟨Y',S⟩:=OA (n+1) (.cc xs) (parts xs h.1 h.2);exact i1 rfl (qz ((k2 (dn rfl)).trans ((jF ((tN (zF (dn rfl))).trans (dn (bN (L_ false) rfl rfl)))).trans ((jF (dn (bN (rH.trans (by rw[decide_eq_true rfl];rfl)) rfl rfl))).trans ((ei (I9 (cons_of rfl rfl) rfl S)).trans (jA rfl))))))
  |_=>exact absurd h.1 (by intro z;cases z)
def BF(ns:List Int)(k:Nat):oZ [.lst (ns.map D.int),.int (k:Nat)]=pure (.v (.int (ns.getD k 0))):=by
 simp only[oZ,G7,G8]
 by_cases h:k<ns.length
 .simp[h,QJ h]
 .simp[h]
end fb
namespace jP
mutual
def ia(s:Nat):aP->aP
 |.kp k=>.kp ((k+s) % 6)|.ch k ps=>.ch k (kF s ps)
def kF(s:Nat):List aP->List aP
 |[]=>[]
 |r::rs=>ia s r::kF s rs
end
theorem Ft(s:Nat):∀ps:List aP,kF s ps=ps.map (ia s)
 |[]=>rfl| r::rs=>by rw[ajP,<-Ft s rs];rfl
def afr(s k:Nat)(ps:List aP):ia s (.ch k ps)=.ch k (ps.map (ia s)):=by rw[<-Ft];rfl
def afq(s:Nat)(ps:List aP):(kF s ps).length=ps.length:=by rw[Ft,ajE]
mutual
theorem Pc(s:Nat):∀r:aP,(ia s r).deep=r.deep
 |.kp _=>rfl| .ch k ps=>by show aP.mi (kF s ps)+1=aP.mi ps+1;rw[O' s ps]
theorem O'(s:Nat):∀ps:List aP,aP.mi (kF s ps)=aP.mi ps
 |[]=>rfl| r::rs=>by show max (ia s r).deep (aP.mi (kF s rs))=max r.deep (aP.mi rs);rw[Pc s r,O' s rs]
end
mutual
theorem Pe(s:Nat):∀r:aP,(ia s r).names.length=r.names.length
 |.kp _=>rfl| .ch k ps=>by show(aP.en (kF s ps)).length=(aP.en ps).length;rw[Pa s ps]
theorem Pa(s:Nat):∀ps:List aP,(aP.en (kF s ps)).length=(aP.en ps).length
 |[]=>rfl| r::rs=>by show((ia s r).names++aP.en (kF s rs)).length=(r.names++aP.en rs).length;rw[ajQ,ajQ,Pe s r,Pa s rs]
end
mutual
theorem Pf(s:Nat):∀r:aP,r.wf->(ia s r).wf
 |.kp k,_=>Nat.mod_lt _ (by decide)|.ch k ps,h=>by
  have h':1<=k/\k<=ps.length/\ps.length<=6/\aP.jK ps:=h;show 1<=k/\k<=(kF s ps).length/\(kF s ps).length<=6/\aP.jK (kF s ps);rw[afq];exact⟨h'.1,h'.2.1,h'.2.2.1,Pb s ps h'.2.2.2⟩
theorem Pb(s:Nat):∀ps:List aP,aP.jK ps->aP.jK (kF s ps)
 |[],_=>trivial|r::rs,h=>⟨Pf s r h.1,Pb s rs h.2⟩
end
end jP
namespace fb
open PySem PySem.Spec aF a0 jP hB l8
theorem DR:∀(n:Nat)(r:aP),r.deep<n->r.names.length<=1000->∃o,o1 n [enc r]=pure o/\o.own=some (r.names.map bl)
 |0,r,h,_=>absurd h (amf _)|n+1,.kp k,h,_=>by
  refine⟨.fr [bl k],?_,rfl⟩;simp only[o1,xV,q8];simp[lS]
 |n+1,.ch k ps,h,au=>by
  simp only[aP.deep]at h;simp only[aP.names]at au ⊢;have dl:=q5 (ps:=ps) (n:=n) (by omega);refine⟨.v (.lst ((aP.en ps).map bl)),?_,rfl⟩;rw[p3];obtain⟨Y',e,s2,rfl⟩:=uV (b:=λd Y=>DH (o1 n) (Y.set 2 (.v d))) (ds:=ps.map enc) (Y:=[.v (.tup [.int (k:Nat),.tup (ps.map enc)]),.v (.lst []),.e])
   (λi Y=>∃s2,Y=[.v (.tup [.int (k:Nat),.tup (ps.map enc)]),.v (.lst ((aP.en (ps.take i)).map bl)),s2]) ⟨_,rfl⟩ (λi d Y hd ⟨s2,ay⟩=>by
    subst ay;obtain⟨r,aB,rfl⟩:=D2 hd;have hm:=akt aB;refine⟨_,.inl (?_:_=pure (gI.bh [.v (.tup [.int (k:Nat),.tup (ps.map enc)]),.v (.lst ((aP.en (ps.take (i+1))).map bl)),.v (enc r)])),_,rfl⟩;have bO:=take_snoc aB;have le:(aP.en (ps.take (i+1))).length<=1000:=by
     have:aP.en ps=aP.en (ps.take (i+1))++aP.en (ps.drop (i+1)):=by rw[<-v_,List.take_append_drop]
     rw[this,ajQ]at au;omega
    rw[bO,v_]at le ⊢;rw[show aP.en [r]=r.names from akG _]at le ⊢;rw[ajQ]at le;obtain⟨o,a6,bf⟩:=DR n r (dl r hm) (by omega);have z:(aP.en (ps.take i)).length+r.names.length<=ajL:=ak0 (eJ (by omega));simp only[DH];simp[a6,bf,z])
  rw[ajE,am1]at e;simp only[o1,xV,Ho,Hp,Hq];simp[e]
def DP{a k:aP}(ar:Good a)(ax:Good k):tj [b0 a k]=pure (.fr ((cY a k).map bl)):=by
 obtain⟨jb,ao,ae⟩:=DR 6 a (by have:=ar.2.1;omega) (by have:=ar.2.2;omega);obtain⟨gP,az,ah⟩:=DR 6 k (by have:=ax.2.1;omega) (by have:=ax.2.2;omega);have z:a.names.length+k.names.length<=ajL:=ak0 (eJ (by have:=ar.2.2;have:=ax.2.2;omega));have xi:6<ajL:=eJ (by decide);have cw:jy jb gP=pure (.fr ((a.names++k.names).map bl)):=by
  unfold jy;rw[ae,ah];simp[z]
 have c:fV (aY (ab (h6 false) (I 0) (I 1))) (I 0) [.e,.v (.lst ((a.names++k.names).map bl))] ((aj6 6).map bl)=pure ((cY a k).map bl):=
  kR bl (λj=>(a.names++k.names).contains j) bl _ (λj _=>by
   have q:=vr j (a.names++k.names);generalize(a.names++k.names).map bl=L at q ⊢;generalize(a.names++k.names).contains j=B at q ⊢;simp[q]) λj _ _=>by simp
 unfold b0;simp only[tj,Hh,Hi];generalize(a.names++k.names).map bl=L at cw c;generalize jy=ahO at cw ⊢;simp[ao,az,cw,Nk,xi,c]
theorem DS(s:Nat):∀(n:Nat)(r:aP),r.deep<n->r.wf->nR n [enc r,.int (s:Nat)]=pure (.v (enc (ia s r)))
 |0,r,h,_=>absurd h (amf _)|n+1,.kp k,h,hw=>by
  simp only[nR,xW,q8,ia];simp
 |n+1,.ch k ps,h,hw=>by
  simp only[aP.deep]at h;simp only[aP.wf]at hw;have dl:=q5 (ps:=ps) (n:=n) (by omega);have wl:=xd.mp hw.2.2.2;rw[p3];have c:fV gv (bA (nR n) (U (I 0) (U (I 1) aj))) [.e,.v (.int (s:Nat))] (ps.map enc)=pure (ps.map (enc∘ia s)):=
   q2 enc _ ps (λr aB=>by simp[DS s n r (dl r aB) (wl r aB)])
  have z:ps.length<ajL:=eJ (by omega);rw[afr,p3,alF];generalize ps.map (enc∘ia s)=σ at c ⊢;simp only[nR,xW,Ht];generalize nR n=F at c ⊢;have FU:(ps.map enc).length<ajL:=by rw[ajE];exact z
  generalize ps.map enc=Z at c FU ⊢;simp[c,FU]
def Pd{r:aP}(h:Good r):Good (ia s r):=⟨Pf s r h.1,by rw[Pc];exact h.2.1,by rw[Pe];exact h.2.2⟩
def r3:aP:=.ch 2 [.kp 0,.kp 1,.kp 2]
def rws:aP:=.ch 1 [.ch 2 [.kp 0,.kp 1],.ch 2 [.kp 2,.kp 3]]
def cols:aP:=.ch 2 [.ch 1 [.kp 0,.kp 1],.ch 1 [.kp 2,.kp 3]]
def fU:List (aP×aP):=[(r3,r3),(.kp 0,.kp 0),(.ch 1 [.kp 0,.kp 1,.kp 2],.ch 3 [.kp 0,.kp 1,.kp 2]),(.ch 3 [.kp 0,.kp 1,.kp 2],.ch 1 [.kp 0,.kp 1,.kp 2]),
 (rws,cols),(cols,rws),(.ch 3 [.kp 0,.kp 1,.kp 2,.kp 3,.kp 4],.ch 3 [.kp 4,.kp 3,.kp 2,.kp 1,.kp 0]),
 (.ch 2 [.kp 0,.kp 0,.kp 1,.kp 2],.ch 3 [.kp 0,.kp 0,.kp 1,.kp 2]),(.ch 2 [.kp 0,.kp 1],.ch 1 [.kp 0,.kp 1]),
 (.ch 2 [.kp 0,.ch 1 [.kp 1,.kp 2]],.ch 1 [.kp 0,.ch 2 [.kp 1,.kp 2]])]
def gQ(p:aP×aP):D:=b0 p.1 p.2
def Yj:∀p∈fU,Good p.1/\Good p.2:=by
 simp only[fU,ak5,r3,rws,cols,Good];simp[aP.wf,aP.jK,aP.deep,aP.mi,aP.names,aP.en]
def Wz(c:Int):Bn [.v (.int c),.e,.e,.e,.e,.e,.e]=xU [.v (.int c),.v (enc r3),.v (enc rws),.v (enc cols),.v (.lst (fU.map gQ)),.e,.e]:=by
 have z:∀{xs ys:List D},xs.length+ys.length<=10->xs.length+ys.length<=ajL:=λh=>ak0 (eJ (by omega))
 have e:fU.map gQ=(fU.take 4).map gQ++((fU.drop 4).take 3).map gQ++((fU.drop 7).take 2).map gQ++(fU.drop 9).map gQ:=rfl;rw[e];exact(ei (fL (d:=enc r3) rfl)).trans ((ei (fL (d:=enc rws) rfl)).trans ((ei (fL (d:=enc cols) rfl)).trans ((ei (n7 (r:=.fr ((fU.take 4).map gQ)) (d:=.lst ((fU.take 4).map gQ)) rfl rfl)).trans ((ei (n7 (bN (BE (xs:=(fU.take 4).map gQ) (ys:=((fU.drop 4).take 3).map gQ) (z (ajU rfl))) rfl rfl) rfl)).trans ((ei (n7 (bN (BE (xs:=(fU.take 4).map gQ++((fU.drop 4).take 3).map gQ) (ys:=((fU.drop 7).take 2).map gQ) (z (ajU rfl))) rfl rfl) rfl)).trans (ei (n7 (bN (BE (xs:=(fU.take 4).map gQ++((fU.drop 4).take 3).map gQ++((fU.drop 7).take 2).map gQ) (ys:=(fU.drop 9).map gQ) (z (ajU rfl))) rfl rfl) rfl)))))))
def ZN(c:Int):∃a k,vT [.int c]=pure (.v (b0 a k))/\Good a/\Good k:=by
 have aiX:=mod_lt (a:=c) (b:=10) (by decide);have fZ:=mod_lt (a:=c / 10) (b:=6) (by decide);obtain⟨i,aD,au⟩:∃i:Nat,c % 10=(i:Nat)/\i<10:=⟨(c % 10).toNat,by omega,by omega⟩;obtain⟨s,aE⟩:∃s:Nat,c / 10 % 6=(s:Nat):=⟨(c / 10 % 6).toNat,by omega⟩;obtain⟨p,aK⟩:∃p,fU[i]? = some p:=⟨_,akr (show i<fU.length from au)⟩;obtain⟨ga,jt⟩:=Yj p (akt aK);refine⟨ia s p.1,ia s p.2,?_,Pd ga,Pd jt⟩;have t1:=DS s 6 p.1 (by have:=ga.2.1;omega) ga.1;have d6:=DS s 6 p.2 (by have:=jt.2.1;omega) jt.1;have g5:aL (.v (.lst (fU.map gQ))) (.v (.int (i:Nat)))=pure (.v (gQ p)):=by
  show(match e_ (fU.map gQ) (i:Int)with|some v=>pure (R.v v)|none=>bad)=_;rw[pV (v:=gQ p) i (by rw[akc,aK];rfl)]
 have ux:xU [.v (.int c),.v (enc r3),.v (enc rws),.v (enc cols),.v (.lst (fU.map gQ)),.e,.e]=pure (.cQ (.v (b0 (ia s p.1) (ia s p.2)))):=by
  simp only[xU,Hd];generalize fU.map gQ=L at g5 ⊢;generalize enc r3=l3;generalize enc rws=PI;generalize enc cols=ajz;unfold gQ b0 at g5;unfold b0;have l0:dC (enc p.1)=.v (enc p.1):=by cases p.1<;>rfl
  have ib:dC (enc p.2)=.v (enc p.2):=by cases p.2<;>rfl
  generalize enc p.1=Az at *;generalize enc p.2=AA at *;generalize enc (ia s p.1)=PV at *;generalize enc (ia s p.2)=PW at *;simp[aD,aE,g5,t1,d6,l0,ib]
 have pre:=Wz c;rw[ux]at pre;simp only[vT];generalize Bn=B at pre ⊢;simp[pre]
def z5(h:n<=1000):n<=ajL:=by rw[ake];omega
def vG(c:Nat):Bool:=decide (97<=c/\c<=122)
def Gh:("abcdefghijklmnopqrstuvwxyz":Str).cps.toList=(aj6 26).map λk=>97+k:=by decide +kernel
structure ui(l:List Nat):Prop where
 p1:1<=l.length
 Ew:l.length<=8
 al:l.all vG=true
def ui.ok(h:ui l):aj2 (cV l)=true:=aeL.mpr λc aI=>by
 have:=akE.mp h.al c aI;simp[vG]at this;omega
def Qs{i:Int}(h0:0<=i)(h:i<26):∃c,aL (.v (.str "abcdefghijklmnopqrstuvwxyz")) (.v (.int i))=pure (.v (.str (cV [c])))/\vG c=true:=by
 obtain⟨c,e⟩:=A' (xs:=("abcdefghijklmnopqrstuvwxyz":Str).cps.toList) (i:=i) h0 (by rw[Gh];simpa using h);refine⟨c,?_,?_⟩
 .show(match e_ ("abcdefghijklmnopqrstuvwxyz":Str).cps.toList i with
   |some c=>if("abcdefghijklmnopqrstuvwxyz":Str).length<=ajL then(pure (R.v (.str ⟨#[c]⟩)):M R)else bad| none=>bad)=_
  rw[e];dsimp only;rw[if_pos (z5 (by decide +kernel))];rfl
 .have:=A_ e
  rw[Gh]at this;obtain⟨k,ax,rfl⟩:=aks.mp this;have:=akM.mp ax;simp[vG];omega
def Z7:("m":Str)=cV [109]:=by decide +kernel
def Vy:("":Str)=cV []:=by decide +kernel
def DQ(c:Int):∃a,tl [.int c]=pure (.v (.str (cV a)))/\ui a:=by
 have u2:=mod_lt (a:=c) (b:=8) (by decide);obtain⟨z,hz,ai7⟩:∃z:Nat,1+c % 8=(z:Nat)/\1<=z/\z<=8:=⟨(1+c % 8).toNat,by omega,by omega,by omega⟩;have Jv:=mod_lt (a:=c / 64) (b:=26) (by decide);obtain⟨x,ao,ag⟩:=Qs Jv.1 Jv.2;have ahL:0<z:=by omega
 obtain⟨Y',e,a,s4,rfl,bf,au⟩:=uV (b:=λd Y=>zg (Y.set 4 (.v d))) (ds:=kC 0 z) (Y:=[.v (.int c),.v (.int (z:Nat)),.v (.int (c / 8 % (z:Nat))),.v (.str (cV [])),.e])
  (λi Y=>∃(a:List Nat)(s4:Slot),Y=[.v (.int c),.v (.int (z:Nat)),.v (.int (c / 8 % (z:Nat))),.v (.str (cV a)),s4]/\a.all vG=true/\a.length=i)
  ⟨[],_,rfl,rfl,rfl⟩ (λi d Y hd ⟨a,s4,ay,bf,au⟩=>by
   subst ay;have aD:i<z:=by
    have:=(ajJ.mp hd).1
    rwa[show(kC 0 z).length=z by simp[kC]]at this
   obtain⟨j,rfl⟩:∃j:Int,d=.int j:=by
    have:=akt hd;simp only[kC]at this;obtain⟨j,_,rfl⟩:=aks.mp this;exact⟨_,rfl⟩
   have eS:a.length+1<=ajL:=z5 (by omega)
   by_cases q:j=c / 8 % (z:Nat)
   .refine⟨_,.inl (?_:_=pure (gI.bh [.v (.int c),.v (.int (z:Nat)),.v (.int (c / 8 % (z:Nat))),.v (.str (cV (a++[x]))),.v (.int j)])),_,_,rfl,by rw[List.all_append,bf];simpa using ag,by rw[ajQ,au];rfl⟩
    simp only[zg];simp[q,ao,Pr,Pp,eS]
   .refine⟨_,.inl (?_:_=pure (gI.bh [.v (.int c),.v (.int (z:Nat)),.v (.int (c / 8 % (z:Nat))),.v (.str (cV (a++[109]))),.v (.int j)])),_,_,rfl,by rw[List.all_append,bf];decide,by rw[ajQ,au];rfl⟩
    simp only[zg,Z7];simp[q,Pr,Pp,eS])
 have au:a.length=z:=by rw[au];simp[kC]
 refine⟨a,?_,⟨by omega,by omega,bf⟩⟩;have fO:(z:Int)<4611686018427387904:=by omega
 simp only[tl,Hj,Hk,Hl,Hm,Hn,Vy];simp[hz,ahL,e,fO]
def VT:s8.lookup ("put":Str)=some (.tup [.str "name",.str "number"]):=rfl
def I_:s8.lookup ("add":Str)=some (.tup [.str "name",.str "number"]):=rfl
structure P7(d:D):Prop where
 ex:∃(w:Str)(l:List Nat)(n:Int),d=.tup [.str w,.str (cV l),.int n]/\s8.lookup w=some (.tup [.str "name",.str "number"])/\ui l/\(-(10 ^ 60)<n/\n<10 ^ 60)
mutual
theorem L5:∀r:aP,r.wf->r.names≠[]
 |.kp k,_=>λh=>nomatch h
 |.ch k ps,h=>by
  have h':1<=k/\k<=ps.length/\ps.length<=6/\aP.jK ps:=h;show aP.en ps≠[];exact aax ps h'.2.2.2 (by omega)
theorem aax:∀ps:List aP,aP.jK ps->0<ps.length->aP.en ps≠[]
 |[],_,h=>absurd h (akn _)|r::rs,h,_=>by
  show r.names++aP.en rs≠[];exact λe=>L5 r h.1 (List.append_eq_nil_iff.mp e).1
end
def nU(a k:aP):(cY a k).length<=6:=by
 have:=am7 (λj=>(a.names++k.names).contains j) (aj6 6);simpa[cY]using this
def zy{a k:aP}(ar:Good a):0<(cY a k).length:=by
 obtain⟨x,ag⟩:=List.exists_mem_of_ne_nil _ (L5 a ar.1);refine aox (a:=x) ?_;unfold cY;rw[alI,akM];exact⟨tv a ar.1 x ag,als.mpr (am8 _ ag)⟩
def zL{xs:List D}(au:xs.length<=1000)(h:∀x∈xs,Ok n x):Ok (n+1) (.lst xs):=
 have q:=o_ au h
 ⟨q.1,q.2⟩
theorem En:∀(m:Nat)(r:aP),r.deep<m->r.wf->Ok (2*m) (enc r)
 |0,r,h,_=>absurd h (amf _)| m+1,.kp k,_,_=>by rw[q8];exact h7|m+1,.ch k ps,h,hw=>by
  simp only[aP.deep]at h;simp only[aP.wf]at hw;have dl:=q5 (ps:=ps) (n:=m) (by omega);have wl:=xd.mp hw.2.2.2;rw[p3];exact tG (n:=2*m+1) h7 (o_ (by rw[ajE];omega) λp aK=>by
   obtain⟨r,aB,rfl⟩:=aks.mp aK;exact En m r (dl r aB) (wl r aB))
def aa0{a k:aP}(ar:Good a)(ax:Good k):Ok 11 (b0 a k):=
 tG (En 5 a (by have:=ar.2.1;omega) ar.1) (En 5 k (by have:=ax.2.1;omega) ax.1)
theorem Nn:∀{l:List (Z.κ.α×D)},(∀x∈l,wU Z x.2=some x.1)->pe Z (l.map (·.2))=some (l.map (·.1))
 |[],_=>rfl|x::l,h=>by
  rw[ajP,ajP];unfold pe;rw[h x ajR,Nn λy bg=>h y (ajM _ bg)]
theorem PY{α β:Type}:∀l:List (α×β),(l.map (·.1)).zip (l.map (·.2))=l
 |[]=>rfl| x::l=>by rw[ajP,ajP,alb,PY l]
def Fb[DecidableEq Z.κ.α]{l:List (Z.κ.α×D)}(h:∀x∈l,wU Z x.2=some x.1){r:R}(ag:r.fX=some (l.map (·.2)))(aH:(l.map (·.1)).Nodup)(au:l.length<64):nz Z [r]=pure (.fr ((hP Z.κ.blt l).map (·.2))):=by
 rw[Vx,ag];dsimp only;rw[Nn h];show(if jU Z.κ.blt (l.map (·.1))=true/\(l.map (·.1)).length<64 then _ else _)=_;rw[if_pos ⟨Gk (Q:=Z.κ.toKeyOrd) aH,by rw[ajE];exact au⟩,PY]
theorem CP(ar:kP a)(hd:aL (.v dd) (.v (.int 1))=pure (.v (.str (cV a)))):∀{cs:qV},(∀x∈cs,jN x)->(cs.map (·.1)).Nodup->∃L:List Int,oR (aY (ab oEq (I 0) (ab aL (I 2) (aa (.int 1))))) (I 1) [.e,.e,.v dd] (cs.map (·.2))=pure (L.map D.int)/\L.sum=md (gE (Q:=d_) cs a)
 |[],_,_=>⟨[],rfl,rfl⟩
 |x::cs,h,aH=>by
  obtain⟨agH,n,h3,ex⟩:=h x ajR;rw[ajP,akD]at aH;obtain⟨L,e,s⟩:=CP ar hd (cs:=cs) (λy bg=>h y (ajM _ bg)) aH.2;have t:aY (ab oEq (I 0) (ab aL (I 2) (aa (.int 1)))) [.v (.str (cV x.1)),.v (.int n),.v dd]=pure (decide (x.1=a)):=dn (bN (IT agH.1 ar.1) rfl (bN hd rfl rfl));rw[ajP,ex];unfold gE
  by_cases c:x.1=a
  .rw[decide_eq_true c]at t
   have Qh:L.sum=0:=by
    rw[s];have:gE (Q:=d_) cs a=none:=by
     unfold gE;rw[anH.mpr λy bg z=>aH.1 (aks.mpr ⟨y,bg,(of_decide_eq_true z).trans c.symm⟩)];rfl
    rw[this];rfl
   refine⟨n::L,?_,?_⟩
   .show(aY (ab oEq (I 0) (ab aL (I 2) (aa (.int 1)))) [.v (.str (cV x.1)),.v (.int n),.v dd] >>= _)=_
    rw[t];show(oR _ _ _ _ >>= _)=_;rw[e];rfl
   .rw[akL (by simpa using c),List.sum_cons,Qh]
    show n+0=md (some x.2);rw[ex,Int.add_zero];rfl
  .rw[decide_eq_false c]at t
   refine⟨L,?_,?_⟩
   .show(aY (ab oEq (I 0) (ab aL (I 2) (aa (.int 1)))) [.v (.str (cV x.1)),.v (.int n),.v dd] >>= _)=_
    rw[t];exact e
   .rw[akA (by simpa using c)]
    exact s
def OW{L:List Int}:sL [.fr (L.map D.int)]=pure (.v (.int L.sum)):=by
 show(match nums (L.map D.int)with|some bs=>pure (R.v (.int bs.sum))|none=>bad)=_;rw[Eb (λi=>i),List.map_id']
def Iq{it:fj}{t:aR->M Bool}{ds xs:List D}(ao:it Y=pure ds)(z:ds.length<ajL)(e:oR t el (i0 2 cap Y) ds=pure xs):sA cap it t el Y=pure (.fr xs):=by
 show(it Y >>= _)=_;rw[ao];show(hY (ds.length<ajL) >>= _)=_;rw[Ii z];show(oR t el (i0 2 cap Y) ds >>= _)=_;rw[e];rfl
def abz{m:bo}{Y:aR}(e:m Y=pure (.fr xs)):kj i m Y=pure (.bh (Y.set i (.eH false xs))):=by show(m Y >>= _)=_;rw[e];rfl
def ldI:a3:=(b1 (b2 10 (cE sL (U (sA [3] (iQ (I 4)) (aY (ab oEq (I 0) (ab aL (I 2) (aa (.int 1))))) (I 1)) aj)))
  (b1 (b2 11 (ab aL (I 3) (aa (.int 2))))
  (b1 (b2 9 (I 10))
  (b1 (dg (aY (ab oEq (ab aL (I 3) (aa (.int 0))) (aa (.str "add")))) (b1 (b2 11 (ab f7 (I 10) (ab aL (I 3) (aa (.int 2)))))
  (b2 9 (I 11))) cv)
  (b1 (kj 12 (eE 1 [3] (iQ (I 4)) (aY (ab ef (ab aL (I 0) (aa (.int 0))) (ab aL (I 1) (aa (.int 1))))) (I 0)))
  (b1 (dg (aY (ab ef (I 11) (aa (.int 0)))) (mb 12 iD (U (bB (U (ab aL (I 3) (aa (.int 1))) (U (I 11) aj))) aj)) cv)
  (b2 4 (cE mq (U (cE (nz iz) (U (I 12) aj)) aj)))))))))
def o4(s:dp):jO->Int×Int
 |.put a n=>(n,s.cell a)
 |.add a n=>(s.cell a+n,s.cell a+n)
def tx:jO->List Nat
 |.put a _=>a|.add a _=>a
def gm(d:jO):Prop:=(∃a n,d=.put a n)\/∃a n,d=.add a n
def acH:oEq (.v (.str "put")) (.v (.str "add"))=pure (.v (.aC false)):=by rw[fM (by decide +kernel) (by decide +kernel)];rfl
def acE:oEq (.v (.str "add")) (.v (.str "add"))=pure (.v (.aC true)):=by rw[fM (by decide +kernel) (by decide +kernel),beq_self_eq_true]
def acJ:oEq (.v (.str "put")) (.v (.str "move"))=pure (.v (.aC false)):=by rw[fM (by decide +kernel) (by decide +kernel)];rfl
def acG:oEq (.v (.str "add")) (.v (.str "move"))=pure (.v (.aC false)):=by rw[fM (by decide +kernel) (by decide +kernel)];rfl
def acI:oEq (.v (.str "put")) (.v (.str "end"))=pure (.v (.aC false)):=by rw[fM (by decide +kernel) (by decide +kernel)];rfl
def acF:oEq (.v (.str "add")) (.v (.str "end"))=pure (.v (.aC false)):=by rw[fM (by decide +kernel) (by decide +kernel)];rfl
section
variable{s:dp}(row:∀x∈s.cs,jN x)(rise:kO d_ s.cs)(au:s.cs.length<60)
include row rise au
theorem Lk(ar:kP a)(hd:aL (.v dd) (.v (.int 1))=pure (.v (.str (cV a))))(w:Int)(s0 s1 s2 s5 fK eh fA jD ht kD:Slot) :
  b1 (kj 12 (eE 1 [3] (iQ (I 4)) (aY (ab ef (ab aL (I 0) (aa (.int 0))) (ab aL (I 1) (aa (.int 1))))) (I 0)))
  (b1 (dg (aY (ab ef (I 11) (aa (.int 0)))) (mb 12 iD (U (bB (U (ab aL (I 3) (aa (.int 1))) (U (I 11) aj))) aj)) cv)
  (b2 4 (cE mq (U (cE (nz iz) (U (I 12) aj)) aj)))) [s0,s1,s2,.v dd,.v (.tup (s.cs.map (·.2))),s5,fK,eh,fA,jD,ht,.v (.int w),kD]=pure (.bh [s0,s1,s2,.v dd,.v (.tup ((jJ s.cs a w).map (·.2))),s5,fK,eh,fA,jD,ht,.v (.int w),.eH false ((if w=0 then hH (Q:=d_) s.cs a else jd (Q:=d_) s.cs (a,.tup [.str (cV a),.int w])).map (·.2))]):=by
 have bQ:fV (aY (ab ef (ab aL (I 0) (aa (.int 0))) (ab aL (I 1) (aa (.int 1))))) (I 0) [.e,.v dd] (s.cs.map (·.2))=pure ((hH (Q:=d_) s.cs a).map (·.2)):=
  kR (λx:List Nat×D=>x.2) (λx=>!decide (x.1=a)) (λx=>x.2) s.cs (λx ag=>dn (bN (Mc (row x ag).1.1 ar.1) (bN (row x ag).g5 rfl rfl) (bN hd rfl rfl))) λx _ _=>BQ rfl
 have jB:∀x:List Nat×D,jN x->wU iz x.2=some x.1:=λx ag=>by obtain⟨_,m,_,e⟩:=ag;rw[e];rfl
 have cT:∀x∈hH (Q:=d_) s.cs a,jN x:=λx ag=>row x ((sE (Q:=d_)).mp ag).1
 have dl:(hH (Q:=d_) s.cs a).length<=s.cs.length:=am7 _ _;refine(ei (abz (nu rfl (by rw[ajE];exact eJ (by omega)) bQ))).trans ?_
 by_cases c:w=0
 .refine(ei (oO (dn (bN (rH.trans (by rw[decide_eq_true c];rfl)) rfl rfl)))).trans ?_
  refine(fL (iZ rfl (cons_of (iZ (Fb (Z:=iz) (l:=hH (Q:=d_) s.cs a) (λx ag=>jB x (cT x ag)) rfl (BU _ rise.nodup) (by omega)) rfl) rfl))).trans ?_;unfold jJ;rw[if_pos c,if_pos c,OO (Q:=d_) (BV a rise)];rfl
 .refine(ei ((k2 (dn (bN (rH.trans (by rw[decide_eq_false c];rfl)) rfl rfl))).trans (Gl rfl (cons_of (afv (bN hd rfl rfl) rfl) rfl) (by rw[ajE];exact eJ (by omega))))).trans ?_
  refine(fL (iZ rfl (cons_of (iZ (Fb (Z:=iz) (l:=jd (Q:=d_) s.cs (a,.tup [.str (cV a),.int w])) (λx ag=>?_) (by show some _=some _;unfold jd;rw[akw];rfl) (wI _ rise.nodup) (by have:=zW (Q:=d_) s.cs (a,.tup [.str (cV a),.int w]);omega)) rfl) rfl))).trans ?_
  .rcases(wH (Q:=d_)).mp ag with⟨ag,_⟩|rfl
   .exact jB x (row x ag)
   .rfl
  .unfold jJ
   rw[if_neg c,if_neg c];unfold lW jd;rw[akw];rfl
theorem ZQ(jc:gm d)(ar:kP (tx d))(s0 s1 s2 s5 fK eh fA jD ht mV kD:Slot):∃lZ,ldI [s0,s1,s2,.v d.D,.v (.tup (s.cs.map (·.2))),s5,fK,eh,fA,jD,ht,mV,kD]=pure (.bh [s0,s1,s2,.v d.D,.v (.tup ((jJ s.cs (tx d) (o4 s d).1).map (·.2))),s5,fK,eh,fA,.v (.int (o4 s d).2),.v (.int (s.cell (tx d))),.v (.int (o4 s d).1),lZ]):=by
 have z:(s.cs.map (·.2)).length<ajL:=by rw[ajE];exact eJ (by omega)
 rcases jc with⟨a,m,rfl⟩|⟨a,m,rfl⟩
 .obtain⟨L,e,hu⟩:=CP (a:=a) ar (dd:=(jO.put a m).D) rfl row rise.nodup
  have hu:L.sum=s.cell a:=hu;refine⟨_,(ei (fL (iZ (OW.trans (by rw[hu];rfl)) (cons_of (Iq rfl z e) rfl)))).trans ((ei (fL rfl)).trans ((ei (fL rfl)).trans ((ei (oO (dn (bN acH rfl rfl)))).trans (Lk row rise au ar rfl m _ _ _ _ _ _ _ _ _ _))))⟩
 .obtain⟨L,e,hu⟩:=CP (a:=a) ar (dd:=(jO.add a m).D) rfl row rise.nodup
  have hu:L.sum=s.cell a:=hu;refine⟨_,(ei (fL (iZ (OW.trans (by rw[hu];rfl)) (cons_of (Iq rfl z e) rfl)))).trans ((ei (fL rfl)).trans ((ei (fL rfl)).trans ((ei ((k2 (dn (bN acE rfl rfl))).trans ((ei (fL rfl)).trans (fL rfl)))).trans (Lk row rise au ar rfl (s.cell a+m) _ _ _ _ _ _ _ _ _ _))))⟩
end
def ql(i n:Int)(x:Int×D):Bool:=decide (x.1=i)&&decide (n<=qs (some x.2))
def Jh{a b:Int}:o7 (.v (.int a)) (.v (.int b))=pure (.v (.aC (decide (a≥b)))):=rfl
def yE{a b:Int}:wg (.v (.int a)) (.v (.int b))=pure (.v (.aC (decide (a > b)))):=rfl
def Ll(xs:List D):gq [.v (.lst xs)]=pure (.v (.int (xs.length:Nat))):=rfl
section
variable{G:a0.D->Prop}{W:List (List Nat)}{s:dp}(h:fR G W s)
include h
theorem Lf(i n:Int):fV (hQ (aY (ab oEq (ab aL (I 0) (aa (.int 0))) (I 1))) (aY (ab o7 (ab aL (I 0) (aa (.int 1))) (I 2)))) (I 0) [.e,.v (.int i),.v (.int n)] (s.ds.map (·.2))=pure ((s.ds.filter (ql i n)).map (·.2)):=
 kR (λx:Int×D=>x.2) (ql i n) (λx=>x.2) s.ds (λx ag=>by
  obtain⟨m,z,e⟩:=h.num x ag;unfold ql;rw[e]
  by_cases c:x.1=i
  .rw[decide_eq_true c]
   exact(QD (dn (bN (mm.trans (by rw[decide_eq_true c])) (bN rfl rfl rfl) rfl))).trans (dn (bN Jh (bN rfl rfl rfl) rfl))
  .rw[decide_eq_false c]
   exact QB (dn (bN (mm.trans (by rw[decide_eq_false c])) (bN rfl rfl rfl) rfl))) λx _ _=>BQ rfl
theorem ZG{i n:Int}(aH:1<=n):decide ((((s.ds.filter (ql i n)).map (·.2)).length:Int) > 0)=decide (n<=s.last i):=by
 rw[ajE,show ∀m:Nat,decide ((m:Int) > 0)=decide (m > 0)from λm=>by simp]
 by_cases c:n<=s.last i
 .rw[decide_eq_true c]
  unfold dp.last at c
  cases q:gE (Q:=lz) s.ds i with
  |none=>rw[q]at c;have c:n<=0:=c;omega|some d=>
   rw[q]at c;have m:(i,d)∈s.ds.filter (ql i n):=alI.mpr ⟨Ji q,by unfold ql;rw[decide_eq_true c];simp⟩;exact decide_eq_true (aox m)
 .rw[decide_eq_false c]
  refine decide_eq_false λz=>c ?_
  obtain⟨x,ag⟩:=List.exists_mem_of_length_pos z;obtain⟨ag,q⟩:=alI.mp ag;unfold ql at q;obtain⟨bz,cf⟩:=Bool.and_eq_true_iff.mp q;have bz:=of_decide_eq_true bz;unfold dp.last;rw[<-bz,V3 h.q6.nodup ag];exact of_decide_eq_true cf
theorem Vp(i:Int):fV (aY (ab ef (ab aL (I 0) (aa (.int 0))) (I 1))) (I 0) [.e,.v (.int i)] (s.ds.map (·.2))=pure ((hH (Q:=lz) s.ds i).map (·.2)):=
 kR (λx:Int×D=>x.2) (λx=>!decide (x.1=i)) (λx=>x.2) s.ds (λx ag=>by
  obtain⟨m,z,e⟩:=h.num x ag;rw[e];exact dn (bN rH (bN rfl rfl rfl) rfl)) λx _ _=>BQ rfl
theorem ZK(aE:s.c5=.aG)(eF:W.length<59)(i:Int){n:Int}(aH:1<=n)(jc:gm d)(hd:qO G W d):tg [s.D,.int i,.int n,d.D]=pure (.v (mj s i n (some d)).D):=by
 have bW:dC d.D=.v d.D:=by rcases jc with⟨a,m,rfl⟩|⟨a,m,rfl⟩<;>rfl
 have xc:kP (tx d):=by rcases jc with⟨a,m,rfl⟩|⟨a,m,rfl⟩<;>exact hd.1
 have nn:ky (.v d.D) (.v .aG)=pure (.v (.aC false)):=by rcases jc with⟨a,m,rfl⟩|⟨a,m,rfl⟩<;>rfl
 have wj:mR s i d=(s.put (tx d) (o4 s d).1,.int (o4 s d).2):=by rcases jc with⟨a,m,rfl⟩|⟨a,m,rfl⟩<;>rfl
 obtain⟨w,r7,agp,afS⟩:∃w:Str,aL (.v d.D) (.v (.int 0))=pure (.v (.str w))/\oEq (.v (.str w)) (.v (.str "move"))=pure (.v (.aC false))/\oEq (.v (.str w)) (.v (.str "end"))=pure (.v (.aC false)):=by
  rcases jc with⟨a,m,rfl⟩|⟨a,m,rfl⟩
  .exact⟨_,rfl,acJ,acI⟩
  .exact⟨_,rfl,acG,acF⟩
 have dl:=h.dl;have cl:s.cs.length<60:=by have:=h.cl;omega
 have og:(s.ds.map (·.2)).length<ajL:=by rw[ajE];exact eJ (by omega)
 have ko:=ZG h (i:=i) aH;refine i1 rfl ?_;show G' [.v s.D,.v (.int i),.v (.int n),dC d.D,.e,.e,.e,.e,.e,.e,.e,.e,.e]=_;rw[bW];refine(ei (Fu (ds:=[.tup (s.cs.map (·.2)),.tup (s.ds.map (·.2)),.tup [.int s.f,s.t],s.c5]) rfl rfl)).trans ?_;rw[aE];refine(ei (n7 (nu rfl og (Lf h i n)) rfl)).trans ?_;unfold mj;dsimp only
 by_cases c:n<=s.last i
 .rw[decide_eq_true c]at ko
  rw[if_neg λz=>absurd z.2 (Int.not_lt.mpr c)];exact qz ((k2 ((tN (dn (bN nn rfl rfl))).trans ((tN (dn rfl)).trans (dn (bN (yE.trans (by rw[ko])) (iZ (Ll _) rfl) rfl))))).trans (jA rfl))
 .rw[decide_eq_false c]at ko
  rw[if_pos ⟨by rw[aE];rfl,Int.not_le.mp c⟩];refine(ei (oO ((tN (dn (bN nn rfl rfl))).trans ((tN (dn rfl)).trans (dn (bN (yE.trans (by rw[ko])) (iZ (Ll _) rfl) rfl)))))).trans ?_;refine(ei (fL rfl)).trans ?_;obtain⟨lZ,YL⟩:=ZQ h.row h.rise cl jc xc (.v s.D) (.v (.int i)) (.v (.int n)) (.v (.tup (s.ds.map (·.2)))) (.v (.tup [.int s.f,s.t])) (.v .aG) (.v (.lst ((s.ds.filter (ql i n)).map (·.2)))) (.v (.int 1)) .e .e .e;refine(ei ((oO (dn (bN agp (bN r7 rfl rfl) rfl))).trans ((oO (dn (bN afS (bN r7 rfl rfl) rfl))).trans YL))).trans ?_;rw[wj];refine(ei (fL (iZ rfl (cons_of (iZ (Fb (Z:=f6) (l:=jd (Q:=lz) s.ds (i,.tup [.int i,.int n,.int (o4 s d).2])) (λx ag=>?_) (by show some _=some _;unfold jd;rw[akw];rfl) (wI _ h.q6.nodup) (by have:=zW (Q:=lz) s.ds (i,.tup [.int i,.int n,.int (o4 s d).2]);omega)) (cons_of (bN (TB ?_) (nu rfl og (Vp h i)) rfl) rfl)) rfl)))).trans ?_
  .rcases(wH (Q:=lz)).mp ag with⟨ag,_⟩|rfl
   .obtain⟨m,z,e⟩:=h.num x ag
    rw[e];rfl
   .rfl
  .have:=yg (Q:=lz) s.ds i
   refine z5 ?_;rw[ajE];show _+1<=1000;omega
  .refine Eq.trans (jA (d:=.tup [.tup ((jJ s.cs (tx d) (o4 s d).1).map (·.2)),.tup ((lW (Q:=lz) s.ds (i,.tup [.int i,.int n,.int (o4 s d).2])).map (·.2)),.tup [.int s.f,s.t],.aG]) rfl) ?_
   rw[<-aE];rfl
end
def VH{b:D->a3}(h:b d Y=pure (.bh Y')):hr b (d::ds) Y=hr b ds Y':=by
 show(b d Y >>= _)=_;rw[h];rfl
def Nd{m:bo}(e:m Y=pure (.fr xs)):bE m Y=pure (.cQ (.fr xs)):=by show(m Y >>= _)=_;rw[e];rfl
def dW(a k:aP):D:=.tup [.int 0,b0 a k,iK]
section
variable{a k:aP}(ar:Good a)(ax:Good k)
include ar ax
theorem Lg(me:Int)(s:du):vP [.int me,dW a k,b8 s]=pure (.fr ((cY a k).map (eW me 0 s))):=
 I6 rfl (Nd (nu (Kj (call_of rfl (DP ar ax))) (by rw[ajE];have:=nU a k;exact eJ (by omega)) (q2 bl (eW me 0 s) (cY a k) λ_ _=>rfl)))
end
def dT(b:du×D)(g:c2):du×D:=if fw g.s b.1=true then(g.s,g.w)else b
theorem HO{B:D->a3}(oB:∀g Y,B (ck g) Y=DG (kE [4,5,6] [bl g.k,b8 g.s,g.w] Y))(s0 s1:Slot):∀(aA:List c2)(b:du×D)(s4 s5 fK:Slot),∃n_ z' Aa,hr B (aA.map ck) [s0,s1,.v (b8 b.1),.v b.2,s4,s5,fK]=pure (.bh [s0,s1,.v (b8 (aA.foldl dT b).1),.v (aA.foldl dT b).2,n_,z',Aa])
 |[],b,s4,s5,fK=>⟨s4,s5,fK,rfl⟩
 |g::aA,b,s4,s5,fK=>by
  obtain⟨n_,z',Aa,e⟩:=HO oB s0 s1 aA (dT b g) (.v (bl g.k)) (.v (b8 g.s)) (.v g.w);refine⟨n_,z',Aa,(VH (Y':=[s0,s1,.v (b8 (dT b g).1),.v (dT b g).2,.v (bl g.k),.v (b8 g.s),.v g.w]) ((oB g _).trans ?_)).trans e⟩;unfold dT
  by_cases c:fw g.s b.1=true
  .rw[if_pos c]
   exact(k2 (dn (bN ((cmp_gt g.s b.1).trans (by rw[c])) rfl rfl))).trans ((ei (fL rfl)).trans (fL rfl))
  .rw[if_neg c]
   exact oO (dn (bN ((cmp_gt g.s b.1).trans (by rw[Bool.eq_false_iff.mpr c])) rfl rfl))
def Lh(aA:List c2)(bf:dC op=.v op):vQ [.lst (aA.map ck),op]=pure (.v (.tup [b8 (aA.foldl dT ((0,0),op)).1,(aA.foldl dT ((0,0),op)).2])):=by
 obtain⟨n_,z',Aa,e⟩:=HO (B:=λd Y=>match d with
  |.tup ay=>if ay.length=[4,5,6].length then DG (kE [4,5,6] ay Y)else bad| _=>bad) (λ_ _=>rfl) (.cc (aA.map ck)) (.v op) aA ((0,0),op) .e .e .e
 refine i1 rfl ?_;show G6 [.cc (aA.map ck),dC op,.e,.e,.e,.e,.e]=_;rw[bf];exact(ei (fL rfl)).trans ((ei (fL rfl)).trans ((ei e).trans (jA rfl)))
section
variable{a k:aP}(ar:Good a)(ax:Good k)
include ar ax
theorem Li(me:Int)(s:du)(n:Int)(hd:dC d=.v d){aA:List c2}(hw:tg [(aA.foldl dT ((0,0),iK)).2,.int me,.int n,d]=pure (.v w)) :
  tp [.int me,dW a k,b8 s,.int n,d,.lst (aA.map ck)]=pure (.fr ((cY a k).map (fC me 0 s (.tup [b8 (aA.foldl dT ((0,0),iK)).1,.int n,d,w])))):=by
 refine I6 rfl ?_;show Hs [.v (.int me),.v (dW a k),.v (b8 s),.v (.int n),dC d,.cc (aA.map ck),.e,.e,.e]=_;rw[hd];exact(ei (Fu (call_of rfl (Lh aA rfl)) rfl)).trans ((ei (fL (by
  show(U _ _ _ >>= _)=_;rw[cons_of rfl (cons_of rfl (cons_of rfl (cons_of (call_of rfl hw) rfl)))];rfl))).trans (Nd (nu (Kj (call_of (rs:=[.v (b0 a k)]) rfl (DP ar ax))) (by rw[ajE];have:=nU a k;exact eJ (by omega)) (q2 bl (fC me 0 s (.tup [b8 (aA.foldl dT ((0,0),iK)).1,.int n,d,w])) (cY a k) λ_ _=>rfl))))
end
def kc(P:dp->Prop)(W:List (List Nat))(s:du)(w:D):Prop:=(s=(0,0)/\w=.aG)\/(1<=s.1/\∃t:dp,w=t.D/\fR (λ_=>False) W t/\P t)
theorem xZ{P:dp->Prop}:∀(ps:List c2)(b:c2)(c:du×D),(∀g∈ps,kc P W g.s g.w)->(b.s=(0,0)\/1<=b.s.1)->c.1=b.s->c.2=(if b.s=(0,0)then op else b.w)->oI op (lE b ps)=.tup [b8 (ps.foldl dT c).1,(ps.foldl dT c).2]
 |[],b,c,_,_,ae,ah=>by
  show D.tup [b8 b.s,if b.s=(0,0)then op else b.w]=.tup [b8 c.1,c.2];rw[ae,ah]
 |g::ps,b,c,aU,af,ae,ah=>by
  have ax:=aU g ajR;show oI op (lE (v7 b g) ps)=.tup [b8 (ps.foldl dT (dT c g)).1,(ps.foldl dT (dT c g)).2];have VY:g.s=(0,0)\/1<=g.s.1:=ax.elim (λz=>.inl z.1) λz=>.inr z.1
  by_cases q:fw g.s b.s=true
  .have ne:g.s≠(0,0):=λz=>by
    rw[z]at q;rcases af with af|af
    .rw[af]at q;cases q
    .unfold fw at q
     simp at q;omega
   have ao:v7 b g=g:=if_pos q;have az:dT c g=(g.s,g.w):=by unfold dT;rw[ae,if_pos q]
   rw[ao,az];exact xZ ps g _ (λx ag=>aU x (ajM _ ag)) VY rfl (if_neg ne).symm
  .have ao:v7 b g=b:=if_neg q
   have az:dT c g=c:=by unfold dT;rw[ae,if_neg q]
   rw[ao,az];exact xZ ps b c (λx ag=>aU x (ajM _ ag)) af ae ah
theorem Bt{P:dp->Prop}:∀(aA:List c2)(c:du×D),(∀g∈aA,kc P W g.s g.w)->(c.1=(0,0)\/1<=c.1.1)->(∃t:dp,c.2=t.D/\fR (λ_=>False) W t/\P t)->∃t:dp,(aA.foldl dT c).2=t.D/\fR (λ_=>False) W t/\P t
 |[],_,_,_,h=>h|g::aA,c,aU,h0,h=>by
  show ∃t:dp,(aA.foldl dT (dT c g)).2=t.D/\_;unfold dT
  by_cases q:fw g.s c.1=true
  .rw[if_pos q]
   rcases aU g ajR with⟨z,_⟩|⟨z,bO⟩
   .rw[z]at q
    rcases h0 with h0|h0
    .rw[h0]at q;cases q
    .unfold fw at q
     simp at q;omega
   .exact Bt aA _ (λx ag=>aU x (ajM _ ag)) (.inr z) bO
  .rw[if_neg q]
   exact Bt aA c (λx ag=>aU x (ajM _ ag)) h0 h
def x4:dp:=⟨[],[],0,.aG,.aG⟩
def HY(W:List (List Nat)):fR (λ_=>False) W x4:=⟨λ_ h=>(nomatch h),anU,λ_ h=>(nomatch h),λ_ h=>(nomatch h),anU,λ_ h=>(nomatch h),.inl rfl,.inl rfl,λ_ h=>(nomatch h)⟩
def HP{P:dp->Prop}{aA:List c2}(h0:P x4)(aU:∀g∈aA,kc P W g.s g.w):∃t:dp,(aA.foldl dT ((0,0),iK)).2=t.D/\fR (λ_=>False) W t/\P t:=
 Bt aA _ aU (.inl rfl) ⟨x4,rfl,HY W,h0⟩
def S6{P:dp->Prop}(aU:∀g∈p::ps,kc P W g.s g.w)(op:D):oI op (lE p ps)=.tup [b8 ((p::ps).foldl dT ((0,0),op)).1,((p::ps).foldl dT ((0,0),op)).2]:=by
 rcases aU p ajR with⟨z,_⟩|⟨z,_⟩
 .have e:dT ((0,0),op) p=((0,0),op):=by unfold dT;rw[z];exact if_neg (show ¬fw (0,0) (0,0)=true by decide)
  show _=D.tup [b8 (ps.foldl dT (dT _ p)).1,(ps.foldl dT (dT _ p)).2];rw[e];exact xZ ps p _ (λx ag=>aU x (ajM _ ag)) (.inl z) z.symm (if_pos z).symm
 .have a1:fw p.s (0,0)=true:=by unfold fw;simp;omega
  have ne:p.s≠(0,0):=λq=>by rw[q]at z;exact absurd z (by decide)
  have e:dT ((0,0),op) p=(p.s,p.w):=by unfold dT;exact if_pos a1
  show _=D.tup [b8 (ps.foldl dT (dT _ p)).1,(ps.foldl dT (dT _ p)).2];rw[e];exact xZ ps p _ (λx ag=>aU x (ajM _ ag)) (.inr z) rfl (if_neg ne).symm
def ZT(xs:List D):gq [.fr xs]=pure (.v (.int (xs.length:Nat))):=rfl
def YN(j:Nat)(bj:List Nat):h6 false (.v (bl j)) (.cc (bj.map bl))=pure (.v (.aC (bj.contains j))):=vr j bj
theorem zh(bj:List Nat):∀(n:Nat)(r:aP),r.deep<n->r.wf->j7 n [enc r,.lst (bj.map bl)]=pure (.v (.aC (r.fills λj=>bj.contains j)))
 |0,r,h,_=>absurd h (amf _)|n+1,.kp k,h,hw=>by
  rw[q8];exact i1 rfl (qz ((k2 (aaO (dn rfl))).trans (jA (bN (YN k bj) rfl rfl))))
 |n+1,.ch k ps,h,hw=>by
  simp only[aP.deep]at h;simp only[aP.wf]at hw;have dl:=q5 (ps:=ps) (n:=n) (by omega);have wl:=xd.mp hw.2.2.2;rw[p3];have c:fV (aY (bA (j7 n) (U (I 0) (U (I 1) aj)))) (I 0) [.e,.cc (bj.map bl)] (ps.map enc)=pure ((ps.filter (aP.fills λj=>bj.contains j)).map enc):=
   kR enc (aP.fills λj=>bj.contains j) enc ps (λr aB=>dn (call_of rfl (zh bj n r (dl r aB) (wl r aB)))) λr _ _=>rfl
  have z:(ps.map enc).length<ajL:=by rw[ajE];exact eJ (by omega)
  have e:decide ((((ps.filter (aP.fills λj=>bj.contains j)).map enc).length:Int)≥(k:Nat))=(aP.ch k ps).fills λj=>bj.contains j:=by
   rw[ajE,yc];exact decide_eq_decide.mpr (by omega)
  exact i1 rfl ((jF (zF (dn rfl))).trans (jA (bN (Jh.trans (by rw[e])) (iZ (ZT _) (cons_of (nu rfl z c) rfl)) (bN rfl rfl rfl))))
def Vt(k:List Key)(d:D):∀ak:List (List Key×D),hq (dE ak k d) k=some d:=by
 intro ak;unfold dE hq;split
 .rename_i mw
  induction ak with
  |nil=>cases mw
  |cons p ak a6=>
   rw[ajP]
   by_cases c:p.1=k
   .rw[if_pos c,akL (by simpa using c)];rfl
   .rw[if_neg c,akA (by simpa using c)]
    refine a6 ?_;rw[alo]at mw;simpa[c]using mw
 .rename_i mw
  rw[List.find?_append,anH.mpr λx ag z=>mw (aoi.mpr ⟨x,ag,z⟩),akL (by simp)];rfl
def ED(k:Nat)(ak:List (List Key×D))(d:D):hL (dE ak (ed k) d) k=d:=by unfold hL;rw[Vt];rfl
def su(ak:List (List Key×D)):Prop:=∃bj:List Nat,ak.map (·.1)=bj.map ed/\bj.Nodup/\∀k∈bj,k<6
def su.len{ak:List (List Key×D)}(h:su ak):ak.length<=6:=by
 obtain⟨bj,e,dZ,fZ⟩:=h;have l:=congrArg ak6 e;rw[ajE,ajE]at l;have:=dZ.length_le_of_subset (l₂:=aj6 6) λk ax=>akM.mpr (fZ k ax)
 rw[amP]at this;omega
def su.put(h:su ak){k:Nat}(vu:k<6)(d:D):su (dE ak (ed k) d):=by
 obtain⟨bj,e,dZ,fZ⟩:=h;unfold dE;split
 .refine⟨bj,?_,dZ,fZ⟩
  rw[<-e,alF];refine List.map_congr_left λp _=>?_
  show(if p.1=ed k then(p.1,d)else p).1=p.1;split<;>rfl
 .rename_i mw
  refine⟨bj++[k],by rw[akw,akw,e];rfl,?_,λx ag=>?_⟩
  .refine amR.mpr ⟨dZ,akD.mpr ⟨alc,amr⟩,λx ag y bg=>?_⟩
   rw[aj0.mp bg];rintro rfl;have:ed x∈ak.map (·.1):=e▸al2 ag;obtain⟨p,aK,cB⟩:=aks.mp this;exact mw (aoi.mpr ⟨p,aK,by simpa using cB⟩)
  .rcases akp.mp ag with ag|ag
   .exact fZ x ag
   .rw[aj0.mp ag];exact vu
def jM(P:dp->Prop)(W:List (List Nat))(ak:List (List Key×D)):Prop:=(∀k:Nat,∃pr kp w,hL ak k=g9 pr kp w/\0<=pr.1/\kc P W kp w)/\su ak
def jM.nil(P:dp->Prop)(W:List (List Nat)):jM P W []:=⟨λ_=>⟨(0,0),(0,0),.aG,rfl,anv _,.inl ⟨rfl,rfl⟩⟩,[],rfl,amr,λ_ h=>(nomatch h)⟩
def jM.put{P:dp->Prop}(h:jM P W ak)(k:Nat)(vu:k<6)(h0:0<=pr.1)(ax:kc P W kp w):jM P W (dE ak (ed k) (g9 pr kp w)):=by
 refine⟨λj=>?_,h.2.put vu _⟩
 by_cases c:j=k
 .rw[c,ED];exact⟨pr,kp,w,rfl,h0,ax⟩
 .rw[EC c];exact h.1 j
def n2:D->Int
 |.tup [.tup [.int r,_],_,_]=>r|_=>0
theorem D6:∀(l:List Int)(b:Int),b<=i' b l/\∀x∈l,x<=i' b l
 |[],b=>⟨anv _,λ_ h=>(nomatch h)⟩
 |y::l,b=>by
  unfold i'
  by_cases c:b<y
  .rw[if_pos c]
   have:=D6 l y;exact⟨by omega,λx ag=>by rcases ajN.mp ag with rfl|ag;exact this.1;exact this.2 x ag⟩
  .rw[if_neg c]
   have:=D6 l b;exact⟨this.1,λx ag=>by rcases ajN.mp ag with rfl|ag;omega;exact this.2 x ag⟩
def EH{k:Nat}(ax:k<6):∃p:Int,oi 0 p/\aL (.fr [.int 1,.int 2,.int 4,.int 8,.int 16,.int 32]) (.v (bl k))=pure (.v (.int p)):=by
 rcases(by omega:k=0\/k=1\/k=2\/k=3\/k=4\/k=5)with rfl|rfl|rfl|rfl|rfl|rfl
 .exact⟨1,hG (by decide) (by decide),rfl⟩
 .exact⟨2,hG (by decide) (by decide),rfl⟩
 .exact⟨4,hG (by decide) (by decide),rfl⟩
 .exact⟨8,hG (by decide) (by decide),rfl⟩
 .exact⟨16,hG (by decide) (by decide),rfl⟩
 .exact⟨32,hG (by decide) (by decide),rfl⟩
def HX{i j k:Nat}{A:Int}(bL:I i Y=pure (.v (.int A)))(ax:k<6)(ag:ab aL (I j) (aa (.int 2)) Y=pure (.v (bl k))) :
  ∃b,aY (ab oEq (ab oMod (ab eG (I i) (ab aL (dJ (U (aa (.int 1)) (U (aa (.int 2)) (U (aa (.int 4)) (U (aa (.int 8)) (U (aa (.int 16)) (U (aa (.int 32)) aj))))))) (ab aL (I j) (aa (.int 2))))) (aa (.int 2))) (aa (.int 1))) Y=pure b:=by
 obtain⟨p,aK,e⟩:=EH ax;exact⟨_,dn (bN mm (bN (gH (by decide)) (bN (jr (a:=A) (b:=p) aK) bL (bN e (rA rfl rfl (ajU rfl)) ag)) rfl) rfl)⟩
def Ko{xs:List Int}{i:Int}(h0:0<=i)(ae:i<xs.length):∃A:Int,aL (.fr (xs.map D.int)) (.v (.int i))=pure (.v (.int A)):=by
 obtain⟨v,e⟩:=A' (xs:=xs.map D.int) h0 (by rw[ajE];exact ae);obtain⟨A,_,rfl⟩:=aks.mp (A_ e);exact⟨A,Kw e⟩
section
variable{P:dp->Prop}{W:List (List Nat)}{top g A:Int}(ae:1<=top)(bn:Nat)(s1 s2 s3 s4 s5 fK eh jD qy:Slot)
include ae
theorem CC:∀(ms:List Nat)(ak:List (List Key×D))(aA:List c2)(mV kD:Slot)(S:cz),S[bn]? = some (.eZ ak)->ms.Nodup->(∀k∈ms,k<6)->jM P W ak->(∀k∈ms,n2 (hL ak k)<top)->(∀x∈aA,kc P W x.s x.w)->ak.length+ms.length<1000->aA.length+ms.length<1000->
  ∃(dq:List (List Key×D))(ir:List c2)(pf lZ:Slot),bp S (kI (λd Y=>K7 (Y.set 11 (.v d))) (ms.map (eW g 0 (top,g))) [.v (.ref bn),s1,s2,s3,s4,s5,fK,eh,.v (.int A),jD,.eH false (aA.map ck),mV,kD,qy]) (.bh [.v (.ref bn),s1,s2,s3,s4,s5,fK,eh,.v (.int A),jD,.eH false (ir.map ck),pf,lZ,qy]) (S.set bn (.eZ dq))/\jM P W dq/\(∀x∈ir,kc P W x.s x.w)/\dq.length<=ak.length+ms.length/\ir.length<=aA.length+ms.length
 |[],ak,aA,mV,kD,S,cX,_,_,af,_,aU,_,_=>⟨ak,aA,mV,kD,by rw[set_same cX];rfl,af,aU,ajK _,ajK _⟩
 |k::ms,ak,aA,mV,kD,S,cX,dZ,fZ,af,bO,aU,b',cD=>by
  rw[ajW]at b' cD;obtain⟨Mg,dZ⟩:=akD.mp dZ;obtain⟨pr,kp,w,aK,fh,ax⟩:=af.1 k;have pt:=bO k ajR;rw[aK]at pt;have pt:pr.1<top:=pt;have hW:fw (top,g) pr=true:=by unfold fw;simp;omega
  obtain⟨b,dc⟩:=HX (i:=8) (j:=11) (A:=A) (Y:=[.v (.ref bn),s1,s2,s3,s4,s5,fK,eh,.v (.int A),jD,.eH false (aA.map ck),.v (eW g 0 (top,g) k),kD,qy]) rfl (fZ k ajR) rfl
  cases b with
  |false=>
   obtain⟨dq,ir,pf,lZ,e,bG,cx,pd,n5⟩:=CC ms ak aA (.v (eW g 0 (top,g) k)) kD S cX dZ (λx ag=>fZ x (ajM _ ag)) af (λx ag=>bO x (ajM _ ag)) aU (by omega) (by omega);exact⟨dq,ir,pf,lZ,oe (iG (aJ.of dc).to rfl) e,bG,cx,by rw[ajW];omega,by rw[ajW];omega⟩
  |true=>
   have dl:=IK ak (ed k) (g9 (top,g) kp w);obtain⟨dq,ir,pf,lZ,e,bG,cx,pd,n5⟩:=CC ms (dE ak (ed k) (g9 (top,g) kp w)) (aA++[⟨k,kp,w⟩]) (.v (eW g 0 (top,g) k)) (.v (h1 k g 0 (top,g) kp w)) _ (get_set cX) dZ (λx ag=>fZ x (ajM _ ag)) (af.put k (fZ k ajR) (by show 0<=top;omega) ax) (λx ag=>by rw[EC (show x≠k from λz=>Mg (z▸ag))];exact bO x (ajM _ ag)) (λx ag=>by
    rcases akp.mp ag with ag|ag
    .exact aU x ag
    .rw[aj0.mp ag];exact ax) (by omega) (by rw[ajQ];show aA.length+1+_ < _;omega)
   rw[ajQ]at n5;have n5:ir.length<=aA.length+1+ms.length:=n5;rw[akw,List.set_set]at e;exact⟨dq,ir,pf,lZ,oe (hx (aJ.of dc).to (ct (sa (x_call (.of rfl) rfl (JU aK cX (by omega) hW)) rfl) (aJ.of (Gl rfl (cons_of (Ph (bN rfl rfl rfl) (bN rfl (bN rfl rfl rfl) rfl) (bN rfl (bN rfl rfl rfl) rfl)) rfl) (by rw[ajE];exact eJ (by omega)))).to)) e,bG,cx,by rw[ajW];omega,by rw[ajW];omega⟩
end
section
variable{P:dp->Prop}{W:List (List Nat)}{top g A:Int}(ae:1<=top){b n dd w:D}(hw:kc P W (top,g) w)(bn:Nat)(s1 s2 s3 s4 s5 fK eh fA ht mV kD:Slot)
include ae hw
theorem yB:∀(ms:List Nat)(ak:List (List Key×D))(qy:Slot)(S:cz),S[bn]? = some (.eZ ak)->(∀k∈ms,k<6)->jM P W ak->ak.length+ms.length<1000->
  ∃(dq:List (List Key×D))(qB:Slot),bp S (kI (λd Y=>K8 (Y.set 13 (.v d))) (ms.map (fC g 0 (top,g) (.tup [b,n,dd,w]))) [.v (.ref bn),s1,s2,s3,s4,s5,fK,eh,fA,.v (.int A),ht,mV,kD,qy]) (.bh [.v (.ref bn),s1,s2,s3,s4,s5,fK,eh,fA,.v (.int A),ht,mV,kD,qB]) (S.set bn (.eZ dq))/\jM P W dq/\dq.length<=ak.length+ms.length
 |[],ak,qy,S,cX,_,af,_=>⟨ak,qy,by rw[set_same cX];rfl,af,ajK _⟩
 |k::ms,ak,qy,S,cX,fZ,af,b'=>by
  rw[ajW]at b';obtain⟨pr,kp,r7,aK,fh,ax⟩:=af.1 k;have CK:∀x∈ms,x<6:=λx ag=>fZ x (ajM _ ag)
  obtain⟨q,dc⟩:=HX (i:=9) (j:=13) (A:=A) (Y:=[.v (.ref bn),s1,s2,s3,s4,s5,fK,eh,fA,.v (.int A),ht,mV,kD,.v (fC g 0 (top,g) (.tup [b,n,dd,w]) k)]) rfl (fZ k ajR) rfl
  cases q with
  |false=>
   obtain⟨dq,qB,e,bG,cx⟩:=yB ms ak (.v (fC g 0 (top,g) (.tup [b,n,dd,w]) k)) S cX CK af (by omega);exact⟨dq,qB,oe (iG (aJ.of dc).to rfl) e,bG,by rw[ajW];omega⟩
  |true=>
   cases hW:fw pr (top,g)with
   |true=>
    obtain⟨dq,qB,e,bG,cx⟩:=yB ms ak (.v (fC g 0 (top,g) (.tup [b,n,dd,w]) k)) S cX CK af (by omega);exact⟨dq,qB,oe (hx (aJ.of dc).to (As (x_call (.of rfl) rfl (JW aK cX hW)))) e,bG,by rw[ajW];omega⟩
   |false=>
    have dl:=IK ak (ed k) (g9 (top,g) (top,g) w);obtain⟨dq,qB,e,bG,cx⟩:=yB ms (dE ak (ed k) (g9 (top,g) (top,g) w)) (.v (fC g 0 (top,g) (.tup [b,n,dd,w]) k)) _ (get_set cX) CK (af.put k (fZ k ajR) (by show 0<=top;omega) hw) (by omega);rw[List.set_set]at e;exact⟨dq,qB,oe (hx (aJ.of dc).to (As (x_call (.of rfl) rfl (JV aK cX (by omega) hW)))) e,bG,by rw[ajW];omega⟩
end
def tr{a k:aP}(h:j∈cY a k):j<6:=akM.mp (alI.mp h).1
def aah(a k:aP):(cY a k).Nodup:=List.nodup_range.filter _
def Vo{s:dp}(aE:s.c5=.aG)(i n:Int)(jc:gm d):(mj s i n (some d)).c5=.aG:=by
 unfold mj;dsimp only;split
 .rcases jc with⟨a,m,rfl⟩|⟨a,m,rfl⟩<;>exact aE
 .exact aE
def VJ(ar:Good a){aA:List c2}(au:aA.length<1000){mN oX:bo}{r:R}(ae:mN Y=pure (.v (enc a)))(ah:oX Y=pure r)(aB:r.fX=some (aA.map ck)) :
  aY (bA (j7 6) (U mN (U (eE 1 [] (iP oX) gv (ab aL (I 0) (aa (.int 0)))) aj))) Y=pure (a.fills λj=>(aA.map (·.k)).contains j):=by
 have ba:=zh (aA.map (·.k)) 6 a (by have:=ar.2.1;omega) ar.1;have AB:(aA.map ck).length<ajL:=by rw[ajE];exact eJ (by omega)
 have jt:fV gv (ab aL (I 0) (aa (.int 0))) (i0 1 [] Y) (aA.map ck)=pure ((aA.map (·.k)).map bl):=(q2 (Y:=i0 1 [] Y) ck (λx=>bl x.k) aA λx _=>rfl).trans (by rw[alF];rfl);have az:iP oX Y=pure (aA.map ck):=by show(oX Y >>= _)=_;rw[ah];show(match r.fX with|some xs=>pure xs|none=>bad)=_;rw[aB]
 exact dn (call_of (cons_of ae (cons_of (nu az AB jt) rfl)) ba)
section
variable{a k:aP}(ar:Good a)(ax:Good k){P:dp->Prop}{W:List (List Nat)}
include ar ax
theorem ZM(eF:W.length<59){ak:List (List Key×D)}{S:cz}(cX:S[bn]? = some (.eZ ak))(af:jM P W ak)(hz:ak.length+12<1000){g:Int}(uW:0<=g)(yy:g<6){n:Int}(aH:1<=n)(jc:gm d)(hd:qO (λ_=>False) W d)(c:Int)(fh:P x4)(lV:∀t,P t->t.c5=.aG)(Mz:∀t,fR (λ_=>False) W t->P t->P (mj t g n (some d))) :
  ∃dq,bp S (vS [.ref bn,dW a k,.int g,.int n,d.D,.int c]) (.v .aG) (S.set bn (.eZ dq))/\jM P W dq/\dq.length<=ak.length+12:=by
 have bW:dC d.D=.v d.D:=by rcases jc with⟨a,m,rfl⟩|⟨a,m,rfl⟩<;>rfl
 have kq:=nU a k;have ahK:((cY a k).map bl).length<ajL:=by rw[ajE];exact eJ (by omega)
 have abE:aJ S (fV gv (ab aL (ab aL (bA tm (U (I 1) (U (I 0) (U (ab aL (I 2) (aa (.int 0))) aj)))) (aa (.int 0))) (aa (.int 0))) [.e,.v (.ref bn),.v (dW a k)] ((cY a k).map bl)) ((cY a k).map λj=>.int (n2 (hL ak j))):=
  y8 bl (λj=>.int (n2 (hL ak j))) (cY a k) λj _=>by
   obtain⟨pr,kp,w,aK,_⟩:=af.1 j;rw[aK];exact cH (x:=.v (b8 pr)) rfl (cH rfl (wB aK cX rfl rfl rfl) (.of rfl)) (.of rfl)
 obtain⟨b,bs,B1⟩:∃b bs,((cY a k).map λj=>n2 (hL ak j))=b::bs:=by
  cases e:(cY a k).map λj=>n2 (hL ak j)with
  |nil=>have:=zy (k:=k) ar;rw[List.map_eq_nil_iff.mp e]at this;cases this
  |cons b bs=>exact⟨b,bs,rfl⟩
 have nW:uT [.fr ((cY a k).map λj=>.int (n2 (hL ak j)))]=pure (.v (.int (i' b bs))):=by
  show(match nums ((cY a k).map λj=>D.int (n2 (hL ak j)))with|some (b::bs)=>pure (R.v (.int (i' b bs)))|_=>bad)=_;rw[Eb,B1]
 have qr:=D6 bs b;have all:∀j∈cY a k,n2 (hL ak j)<=i' b bs:=λj aZ=>by
  have:n2 (hL ak j)∈b::bs:=B1▸aks.mpr ⟨j,aZ,rfl⟩;rcases ajN.mp this with e|h
  .rw[e];exact qr.1
  .exact qr.2 _ h
 have eX:0<=b:=by
  have:b∈((cY a k).map λj=>n2 (hL ak j)):=B1▸ajR;obtain⟨j,_,e⟩:=aks.mp this;obtain⟨pr,kp,w,aK,ajm,_⟩:=af.1 j;rw[aK]at e;have e:pr.1=b:=e;omega
 have ae:1<=1+i' b bs:=by omega
 generalize bO:i' b bs=m at *;obtain⟨A,e6⟩:=Ko (xs:=[63,63,c / 6 % 64]) (i:=c % 3) (aos _ (by decide)) (anE _ (by decide));obtain⟨B,Vv⟩:=Ko (xs:=[63,c / 384 % 64]) (i:=c / 3 % 2) (aos _ (by decide)) (anE _ (by decide));obtain⟨gG,aA,pf,lZ,ao,b4,aU,b',s'⟩:=CC (W:=W) (g:=g) (A:=A) ae bn (.v (dW a k)) (.v (.int g)) (.v (.int n)) (.v d.D) (.v (.int c)) (.v (.lst ((cY a k).map bl))) (.v (.int (1+m))) (.v (.int B)) .e (cY a k) ak [] .e .e S cX (aah a k) (λ_ h=>tr h) af (λj aZ=>by have:=all j aZ;omega) (λ_ h=>(nomatch h)) (by omega) (by show 0+_ < _;omega);have s':aA.length<=0+(cY a k).length:=s';obtain⟨t,jX,tok,k'⟩:=HP (W:=W) fh aU;have XT:tg [(aA.foldl dT ((0,0),iK)).2,.int g,.int n,d.D]=pure (.v (mj t g n (some d)).D):=by rw[jX];exact ZK tok (lV t k') eF g aH jc hd
 have ZC:kc P W (1+m,g) (mj t g n (some d)).D:=.inr ⟨ae,_,rfl,Vn tok uW yy n λx ag=>by cases ag;exact hd,Mz t tok k'⟩;have Ww:=get_set (o':=.eZ gG) cX;obtain⟨ZF,qB,az,b5,cD⟩:=yB (W:=W) (g:=g) (A:=B) (b:=b8 (aA.foldl dT ((0,0),iK)).1) (n:=.int n) (dd:=d.D) ae ZC bn (.v (dW a k)) (.v (.int g)) (.v (.int n)) (.v d.D) (.v (.int c)) (.v (.lst ((cY a k).map bl))) (.v (.int (1+m))) (.v (.int A)) (.eH false (aA.map ck)) pf lZ (cY a k) gG .e _ Ww (λ_ h=>tr h) b4 (by omega);rw[List.set_set]at az;have yK:aY (bA (j7 6) (U (ab aL (ab aL (I 1) (aa (.int 1))) (aa (.int 0))) (U (eE 1 [] (iP (I 10)) gv (ab aL (I 0) (aa (.int 0)))) aj))) [.v (.ref bn),.v (dW a k),.v (.int g),.v (.int n),.v d.D,.v (.int c),.v (.lst ((cY a k).map bl)),.v (.int (1+m)),.v (.int A),.v (.int B),.eH false (aA.map ck),pf,lZ,.e]=pure (a.fills λj=>(aA.map (·.k)).contains j):=
  VJ ar (by omega) rfl rfl rfl
 have pre:∀{Y':aR}{ai:cz},bp (S.set bn (.eZ gG)) (Hb [.v (.ref bn),.v (dW a k),.v (.int g),.v (.int n),.v d.D,.v (.int c),.v (.lst ((cY a k).map bl)),.v (.int (1+m)),.v (.int A),.v (.int B),.eH false (aA.map ck),pf,lZ,.e]) (.bh Y') ai->bp S (vS [.ref bn,dW a k,.int g,.int n,d.D,.int c]) (.v .aG) ai:=λ{Y' ai} q=>FO (Y':=Y') rfl (by
  show bp S (Bl [.v (.ref bn),.v (dW a k),.v (.int g),.v (.int n),dC d.D,.v (.int c),.e,.e,.e,.e,.e,.e,.e,.e]) _ _;rw[bW];exact ct (aJ.of (n7 (call_of rfl (DP ar ax)) rfl)).to<|
   ct (aJ.to (lP (cH (r:=.v (.int (1+m))) rfl (.of rfl) (vx nW (bS (vy (.of rfl) ahK abE) dM))) rfl))<|
   ct (aJ.of (fL (bN e6 (rA (cons_of rfl (cons_of rfl (cons_of (bN (gH (by decide)) (bN (jr (hG (by decide) (by decide))) rfl rfl) rfl) rfl))) rfl (ajU rfl)) (bN (gH (by decide)) rfl rfl)))).to<|
   ct (aJ.of (fL (bN Vv (rA (cons_of rfl (cons_of (bN (gH (by decide)) (bN (jr (hG (by decide) (by decide))) rfl rfl) rfl) rfl)) rfl (ajU rfl)) (bN (gH (by decide)) (bN (jr (hG (by decide) (by decide))) rfl rfl) rfl)))).to<|
   ct (aJ.of aby).to<|ct (t7 (Dw (.of (call_of rfl (Lg ar ax g (1+m,g))))) ao) q)
 cases q:a.fills λj=>(aA.map (·.k)).contains j with
 |false=>
  rw[q]at yK;exact⟨gG,pre (iG (aJ.of yK).to rfl),b4,by omega⟩
 |true=>
  rw[q]at yK;exact⟨ZF,pre (hx (aJ.of yK).to (t7 (Dw (.of (call_of rfl (Li ar ax g (1+m,g) n bW XT)))) az)),b5,by omega⟩
end
def or_eq(m n:Nat):tC (.v (bl m)) (.v (bl n))=pure (.v (bl (m ||| n))):=by
 rw[lS,lS,lS,<-Es];rfl
def b6.kept(a:b6)(k:Nat):b6:={ a with cJ:=a.cJ ||| maskOf [k] }
def b6.ends(a:b6)(o:D):b6:={ a with cR:="calm",bK:=o }
def b6.ud(a:b6)(mf:fe)(ds:List D)(b:b6):Prop:=∀(S:cz)(i g:Nat),eD S i g a->∃ai g',bp S (mf (.ref i::ds)) (.v .aG) ai/\eo S ai i g g' b
section
variable{S S1 bc:cz}{Y Y':aR}{i g k:Nat}{a b c:b6}{f:Str}{d:D}{mv:bo}{r:R}{bd:bk}{ba:gI}
def acs(h:eD S i g a)(b:b6)(ax:I k Y=pure (.v (.ref i)))(ev:aJ S (mv Y) r)(p4:r.dat=pure d)(e:iU f d (a.aW g)=b.aW g)(gD:b.aA=a.aA):ft S i g (e9 "Asker" f (I k) (cS mv) Y) (.bh Y) b:=
 ⟨_,g,x_at ev.to p4 (.of ax) h.bD DD,⟨by rw[get_set h.bD,e],by rw[ajX h.ne,gD];exact h.ls⟩,.set (by simp),.inl rfl,by rw[akI];exact ajK _⟩
theorem Wa{t:aR->M Bool}{m n:bk}(e:aJ S (t Y) true)(q:ft S i g (m Y) ba c):ft S i g (d9 (eR t) m n Y) ba c:=by
 obtain⟨bc,g2,t,s⟩:=q;exact⟨bc,g2,hx (aJ.to e) t,s⟩
theorem V'{t:aR->M Bool}{m n:bk}(e:aJ S (t Y) false)(q:ft S i g (n Y) ba c):ft S i g (d9 (eR t) m n Y) ba c:=by
 obtain⟨bc,g2,t,s⟩:=q;exact⟨bc,g2,iG (aJ.to e) t,s⟩
theorem BW{ms:hV}{rs:List R}(h:eD S i g a)(q:a.ud mf (rs.map R.arg) c)(ax:I k Y=pure (.v (.ref i)))(aH:(a.aW g).lookup m=none)(ah:bp S (ms Y) rs S)(aE:rs.all R.je=true):ft S i g (lh (fD "Asker" m mf (I k) ms) Y) (.bh Y) c:=by
 obtain⟨bc,g2,t,s⟩:=q _ _ _ h;exact⟨bc,g2,As (t8 h.bD (.of ax) aH ah aE t),s⟩
theorem Jp{m:bk}(q:ft S i g (m Y) (.bh Y') b)(p:∀S1 g1,eD S1 i g1 b->ft S1 i g1 (bd Y') ba c):ft S i g (bI m bd Y) ba c:=by
 obtain⟨S1,g1,t1,s1⟩:=q;obtain⟨bc,g2,d6,s2⟩:=p S1 g1 s1.at';exact⟨bc,g2,ct t1 d6,s1.trans s2⟩
theorem II{n N:Nat}{bd:bk}{ds:List D}(h:ds.length+1=n)(q:∀S i g,eD S i g a->∃Y',ft S i g (bd (.v (.ref i)::ds.map dC++akB (N-n) .e)) (.bh Y') c):a.ud (fnX n N bd) ds c:=λS i g dK=>by
 obtain⟨Y',bc,g2,t,s⟩:=q S i g dK;exact⟨bc,g2,FO h t,s⟩
end
def IP{a:b6}(bf:dC o=.v o):a.ud tc [o] (a.ends o):=II rfl λS i g h=>by
 show ∃Y',ft S i g (Bf [.v (.ref i),dC o]) (.bh Y') _;rw[bf];exact⟨_,lJ h { a with cR:="calm" } rfl (.of rfl) rfl rfl rfl λS h=>acs h (a.ends o) rfl (.of rfl) rfl rfl rfl⟩
section
variable{a:b6}{ms:List Nat}{ec iM:Nat->Bool}(H:qP a.h ms ec iM){k:Nat}{me e:Int}{s:du}(ax:k<6)
include H ax
theorem KQ(h:eD S i g (a.kept k)):aJ S (gg (aY (bA (kr 12) (U (ab aL (bQ (cL "Asker" "hall") (I 0)) (aa (.int 1))) (U (bQ (cL "Asker" "kept_mask") (I 0)) aj)))) [.v (.ref i),.v (iy k me e s),s2]) (!iM (a.kept k).cJ):=by
 obtain⟨x,y,q7,_,_,_,f2⟩:=H.ex;exact qi (de (fW (bS (cH (x:=.v (.tup [x,y])) (r:=.v y) rfl (dR h rfl (by show some a.h=_;rw[q7])) (.of rfl)) (bS (dR h rfl rfl) dM)) (.of (f2 _))))
theorem KR(h:eD S i g a)(p:∀S1,eD S1 i g (a.kept k)->ft S1 i g (GH [.v (.ref i),.v (iy k me e s),.e]) ba c):ft S i g (Bg [.v (.ref i),.v (iy k me e s),.e]) ba c:=
 lJ h (a.kept k) rfl (cH (or_eq a.cJ (maskOf [k])) (dR h rfl rfl) (fW (rs:=[.fr [bl k]]) (.of (cons_of (rA (cons_of (bN rfl rfl rfl) rfl) rfl (ajU rfl)) rfl)) (.of (D4 [k] λj aZ=>by rw[aj0.mp aZ];omega)))) rfl rfl rfl p
theorem X0(q:iM (a.kept k).cJ=false):a.Do vK [iy k me e s] [] (a.kept k):=kk rfl λS i g h=>
 KR H ax h λS h=>CE h (by have:=KQ (me:=me) (e:=e) (s:=s) (s2:=.e) H ax h;rw[q]at this;exact this) (.of rfl)
theorem XZ{c:b6}(q:iM (a.kept k).cJ=true)(uM:(a.kept k).ud zp [] c)(aE:rE [c.c1]=pure (.v .aG)):a.Do vK [iy k me e s] [] c:=kk rfl λS i g h=>
 KR H ax h λS h=>i3 (by have:=KQ (me:=me) (e:=e) (s:=s) (s2:=.e) H ax h;rw[q]at this;exact this)<|
 Jp (Y':=[.v (.ref i),.v (iy k me e s),.e]) (BW (rs:=[]) h uM rfl rfl rfl rfl) λS g h=>
 CD (lP (r:=.v .aG) (fW (bS (dR h rfl rfl) dM) (.of aE)) rfl)<|CE h (de (.of rfl)) (.of rfl)
end
def wo:aj2 "kept"=true:=by decide +kernel
def K0:oEq (.v (.str "kept")) (.v (.str "late"))=pure (.v (.aC false)):=by rw[fM wo tI];rfl
def KY:oEq (.v (.str "kept")) (.v (.str "grant"))=pure (.v (.aC false)):=by rw[fM wo tH];rfl
def za:oEq (.v (.str "kept")) (.v (.str "kept"))=pure (.v (.aC true)):=by rw[fM wo wo,beq_self_eq_true]
section
variable{a:b6}{ms:List Nat}{ec iM:Nat->Bool}(H:qP a.h ms ec iM)(aE:a.nj){k:Nat}{e:Int}{s:du}
include H aE
theorem JS(q:a.now ms k e s=true)(c:a.cR="telling"){t:b6}(g:a.Do vK [iy k a.me e s] σ t):a.Do lQ [iy k a.me e s] σ t:=kk rfl λS i j h=>
 i3 (wx h (.str "kept") (.tup []) k e s)<|nE (de (cH K0 (.of rfl) (.of rfl)))<|
 i3 (by have:=zG H h (.str "kept") (.tup []) k a.me e s;rw[q]at this;exact this)<|
 nE (nL (de (cH KY (.of rfl) (.of rfl))))<|
 yC (j6 (de (cH za (.of rfl) (.of rfl))) (de (cH (by rw[fM (rW aE) o9,c,beq_self_eq_true]) (dR h rfl rfl) (.of rfl))))<|
 u0 (rs:=[.v (iy k a.me e s)]) h g rfl rfl (aJ.to (.of rfl)) rfl
theorem X1(q:a.now ms k e s=true)(c:a.cR≠"telling"):a.Do lQ [iy k a.me e s] [] a:=kk rfl λS i j h=>
 i3 (wx h (.str "kept") (.tup []) k e s)<|nE (de (cH K0 (.of rfl) (.of rfl)))<|
 i3 (by have:=zG H h (.str "kept") (.tup []) k a.me e s;rw[q]at this;exact this)<|
 nE (nL (de (cH KY (.of rfl) (.of rfl))))<|
 nE (j6 (de (cH za (.of rfl) (.of rfl))) (de (cH (by rw[fM (rW aE) o9,show(a.cR == "telling")=false by simpa using c]) (dR h rfl rfl) (.of rfl))))<|
 sQ h (.of rfl)
end
structure nq where
 q:Nat
 m:Nat
 d7:List D
 bW:Option D
def nq.L:Option nq->List (Key×D)
 |none=>[]
 |some ⟨q,m,d7,none⟩=>[(.inr "grants",.ref q),(.inr "marks",.ref m),(.inr "tells",.lst d7)]
 |some ⟨q,m,d7,some w⟩=>[(.inr "grants",.ref q),(.inr "marks",.ref m),(.inr "tells",.lst d7),(.inr "slate",w)]
structure dt where
 me:Int
 pl:D
 bx:Int
 er:Int
 c0:Str
 bK:D
 ex:Option nq
def dt.L(n:dt)(b:Nat):List (Key×D):=(.inr "me",.int n.me)::(.inr "place",n.pl)::(.inr "books",.ref b)::(.inr "number",.int n.bx)::(.inr "turn",.int n.er)::(.inr "stand",.str n.c0)::(.inr "outcome",n.bK)::nq.L n.ex
def iR(n:dt)(b:Nat):(n.L b).length<1000:=by
 obtain⟨_,_,_,_,_,_,_|⟨_,_,_,_|_⟩⟩:=n<;>exact ajU rfl
abbrev jl:=List (List Key×D)
structure gn(S:cz)(i g w b:Nat)(A:b6)(L:List (Key×D))(ak:jl):Prop where
 ey:eD S i g A
 dS:S[w]? = some (.dS L)
 cP:S[b]? = some (.eZ ak)
 ln:L.length<1000
structure dz(S:cz)(i g w b q m:Nat)(A:b6)(L:List (Key×D))(aA:List c2)(ms:List Nat)(ak:jl):Prop where
 o:gn S i g w b A L ak
 ls:S[q]? = some (.lst (aA.map ck))
 k5:S[m]? = some (.lst (ms.map bl))
 ee:g≠q
 dY:g≠m
 iS:q≠m
section
variable{S S1:cz}{Y:aR}{i g w b q m g1 k:Nat}{A et:b6}{L L':List (Key×D)}{aA:List c2}{ms:List Nat}{ak:jl}{f:Str}{d:D}{mv:bo}{x:R}
def rI{x y:Nat}(ae:S[x]? = some o)(ah:S[y]? = some o')(n:o≠o'):x≠y:=λe=>n (by rw[e,ah]at ae;exact(akd ae).symm)
def jE{x y:Nat}(ae:S[x]? = some o)(ah:S[y]? = some o')(n:o≠o'):(S.set x gP)[y]? = some o':=by rw[ajX (rI ae ah n)];exact ah
def gn.put(h:gn S i g w b A L ak)(au:L'.length<1000):gn (S.set w (.dS L')) i g w b A L' ak:=
 ⟨⟨jE h.dS h.ey.bD (λz=>nomatch z),jE h.dS h.ey.ls (λz=>nomatch z)⟩,get_set h.dS,jE h.dS h.cP (λz=>nomatch z),au⟩
def gn.wA(h:gn S i g w b A L ak)(dq:jl):gn (S.set b (.eZ dq)) i g w b A L dq:=
 ⟨⟨jE h.cP h.ey.bD (λz=>nomatch z),jE h.cP h.ey.ls (λz=>nomatch z)⟩,jE h.cP h.dS (λz=>nomatch z),get_set h.cP,h.ln⟩
def gn.step(h:gn S i g w b A L ak)(s:eo S S1 i g g1 et):gn S1 i g1 w b et L ak:=
 ⟨s.at',s.fr _ _ (by simp[rI h.dS h.ey.bD (λz=>nomatch z),rI h.dS h.ey.ls (λz=>nomatch z)]) h.dS,s.fr _ _ (by simp[rI h.cP h.ey.bD (λz=>nomatch z),rI h.cP h.ey.ls (λz=>nomatch z)]) h.cP,h.ln⟩
def gn.app(h:gn S i g w b A L ak)(o:fQ):gn (S++[o]) i g w b A L ak:=by
 have ap:∀{j:Nat}{o':fQ},S[j]? = some o'->(S++[o])[j]? = some o':=λz=>Fr.app (W:=[]) _ _ (alc) z
 exact⟨⟨ap h.ey.bD,ap h.ey.ls⟩,ap h.dS,ap h.cP,h.ln⟩
def dz.put(h:dz S i g w b q m A L aA ms ak)(au:L'.length<1000):dz (S.set w (.dS L')) i g w b q m A L' aA ms ak:=
 ⟨h.o.put au,jE h.o.dS h.ls (λz=>nomatch z),jE h.o.dS h.k5 (λz=>nomatch z),h.ee,h.dY,h.iS⟩
def dz.wA(h:dz S i g w b q m A L aA ms ak)(dq:jl):dz (S.set b (.eZ dq)) i g w b q m A L aA ms dq:=
 ⟨h.o.wA dq,jE h.o.cP h.ls (λz=>nomatch z),jE h.o.cP h.k5 (λz=>nomatch z),h.ee,h.dY,h.iS⟩
def dz.step(h:dz S i g w b q m A L aA ms ak)(s:eo S S1 i g g1 et):dz S1 i g1 w b q m et L aA ms ak:=by
 have:=s.nw;have:=tb h.ls;have:=tb h.k5;have:=h.ee;have:=h.dY;exact⟨h.o.step s,s.fr _ _ (by simp[rI h.ls h.o.ey.bD (λz=>nomatch z),h.ee.symm]) h.ls,s.fr _ _ (by simp[rI h.k5 h.o.ey.bD (λz=>nomatch z),h.dY.symm]) h.k5,by omega,by omega,h.iS⟩
def dz.grant(h:dz S i g w b q m A L aA ms ak)(y:c2):dz (S.set q (.lst (aA.map ck++[ck y]))) i g w b q m A L (aA++[y]) ms ak:=
 ⟨⟨⟨jE h.ls h.o.ey.bD (λz=>nomatch z),by rw[ajX h.ee.symm];exact h.o.ey.ls⟩,jE h.ls h.o.dS (λz=>nomatch z),jE h.ls h.o.cP (λz=>nomatch z),h.o.ln⟩,by rw[get_set h.ls,akw];rfl,by rw[ajX h.iS];exact h.k5,h.ee,h.dY,h.iS⟩
def dz.mark(h:dz S i g w b q m A L aA ms ak)(y:Nat):dz (S.set m (.lst (ms.map bl++[bl y]))) i g w b q m A L aA (ms++[y]) ak:=
 ⟨⟨⟨jE h.k5 h.o.ey.bD (λz=>nomatch z),by rw[ajX h.dY.symm];exact h.o.ey.ls⟩,jE h.k5 h.o.dS (λz=>nomatch z),jE h.k5 h.o.cP (λz=>nomatch z),h.o.ln⟩,by rw[ajX h.iS.symm];exact h.ls,by rw[get_set h.k5,akw];rfl,h.ee,h.dY,h.iS⟩
def e2(h:gn S i g w b A L ak)(ax:I k Y=pure (.v (.ref w)))(e:hq L (.inr f)=some d):aJ S (ab cM (I k) (aa (.str f)) Y) (.v d):=Zf h.dS (.of ax) (.of rfl) rfl e
def lT(h:gn S i g w b A L ak)(ax:I k Y=pure (.v (.ref w)))(ev:aJ S (mv Y) x)(p4:x.dat=pure d)(e:dE L (.inr f) d=L'):bp S (ie (I k) (aa (.str f)) (cS mv) Y) (.bh Y) (S.set w (.dS L')):=by
 have:=PM (k:=.inr f) (kd:=.str f) (mk:=aa (.str f)) (mo:=I k) (mv:=cS mv) (Y:=Y) ev.to p4 (.of ax) (.of rfl) h.dS rfl h.ln;rw[e]at this;exact this
theorem L3(h:gn S i g w b A L ak)(ax:I k Y=pure (.v (.ref w)))(e:dE L (.inr f) (.ref S.length)=L'):bp S (ie (I k) (aa (.str f)) (oc (cS (dJ aj))) Y) (.bh Y) ((S++[fQ.lst []]).set w (.dS L')):=by
 have:=PM (k:=.inr f) (kd:=.str f) (mk:=aa (.str f)) (mo:=I k) (Y:=Y) (mv:=oc (cS (dJ aj))) (FP (S:=S)) rfl (.of ax) (.of rfl) (h.app (.lst [])).dS rfl h.ln;rw[e]at this;exact this
def KL{ms:c7}{ds:List D}(h:aJ S (ms Y) rs)(e:kS rs=pure ds)(z:ds.length<=1000):aJ S (dJ ms Y) (.fr ds):=h.bind ((aJ.of e).bind ((Dv z).bind (.of rfl)))
theorem KJ{a b:bo}{r:R}(h:aJ S (a Y) (.v (.aC true)))(ah:aJ S (b Y) r):aJ S (lF a b Y) r:=h.bind ((aJ.of (m:=R.qD (.v (.aC true))) (a:=true) rfl).bind ah)
def xK{k:Nat}{m f:Str}{v:D}(h:eD S i g A)(h0:I k Y=pure (.v (.ref i)))(ae:(A.aW g).lookup m=none)(ah:(A.aW g).lookup f=some v)(e:bd=bE (bQ (cL "Asker" f) (I 0))):aJ S (jq "Asker" m (fnOf 1 1 bd) (I k) aj Y) (.v v):=vA h.bD (.of h0) ae dM (sY rfl (by rw[e];exact oS (dR h rfl ah)))
end
section
variable{n:dt}{b q m:Nat}{d7:List D}{bW:Option D}(ag:n.ex=some ⟨q,m,d7,bW⟩)
def acy(n:dt)(b:Nat)(x:Int):dE (n.L b) (.inr "turn") (.int x)=dt.L { n with er:=x } b:=by obtain⟨_,_,_,_,_,_,_|⟨_,_,_,_|_⟩⟩:=n<;>rfl
def acv(n:dt)(b:Nat)(x:Int):dE (n.L b) (.inr "number") (.int x)=dt.L { n with bx:=x } b:=by obtain⟨_,_,_,_,_,_,_|⟨_,_,_,_|_⟩⟩:=n<;>rfl
def zX(n:dt)(b:Nat)(x:Str):dE (n.L b) (.inr "stand") (.str x)=dt.L { n with c0:=x } b:=by obtain⟨_,_,_,_,_,_,_|⟨_,_,_,_|_⟩⟩:=n<;>rfl
def EO(n:dt)(b:Nat)(x:D):dE (n.L b) (.inr "outcome") x=dt.L { n with bK:=x } b:=by obtain⟨_,_,_,_,_,_,_|⟨_,_,_,_|_⟩⟩:=n<;>rfl
def nq.n8:Option nq->Option D
 |none=>none|some x=>x.bW
def acu(n:dt)(b q m:Nat):dE (dE (dE (n.L b) (.inr "grants") (.ref q)) (.inr "marks") (.ref m)) (.inr "tells") (.lst [])=dt.L { n with ex:=some ⟨q,m,[],nq.n8 n.ex⟩ } b/\(dE (n.L b) (.inr "grants") (.ref q)).length<1000/\(dE (dE (n.L b) (.inr "grants") (.ref q)) (.inr "marks") (.ref m)).length<1000:=by obtain⟨_,_,_,_,_,_,_|⟨_,_,_,_|_⟩⟩:=n<;>exact⟨rfl,ajU rfl,ajU rfl⟩
include ag
theorem Cx:hq (n.L b) (.inr "grants")=some (.ref q):=by obtain⟨_,_,_,_,_,_,_⟩:=n;cases ag;cases bW<;>rfl
theorem Cy:hq (n.L b) (.inr "marks")=some (.ref m):=by obtain⟨_,_,_,_,_,_,_⟩:=n;cases ag;cases bW<;>rfl
theorem CA:hq (n.L b) (.inr "tells")=some (.lst d7):=by obtain⟨_,_,_,_,_,_,_⟩:=n;cases ag;cases bW<;>rfl
theorem acx(x:List D):dE (n.L b) (.inr "tells") (.lst x)=dt.L { n with ex:=some ⟨q,m,x,bW⟩ } b:=by obtain⟨_,_,_,_,_,_,_⟩:=n;cases ag;cases bW<;>rfl
theorem acw(x:D):dE (n.L b) (.inr "slate") x=dt.L { n with ex:=some ⟨q,m,d7,some x⟩ } b:=by obtain⟨_,_,_,_,_,_,_⟩:=n;cases ag;cases bW<;>rfl
end
def V5{n:dt}(ag:n.ex=some ⟨q,m,d7,some w⟩):hq (n.L b) (.inr "slate")=some w:=by obtain⟨_,_,_,_,_,_,_⟩:=n;cases ag;rfl
structure Std(A:b6)(n:dt):Prop where
 ao:A.cR=n.c0
 az:A.bK=n.bK
 cG:A.wi=n.bx
 fg:n.pl=.tup [.int A.cB,A.h,A.op]
 jb:aj2 n.c0=true
 gP:Ok 12 n.bK
 we:Ok 12 n.pl
def Fg(h:gn S i g w b A (n.L b) ak)(s:Std A n):aJ S (tn [.ref i,.ref w]) (.v (.aC true)):=by
 have ok:Ok 13 (.lst [.str n.c0,n.bK,.int n.bx,n.pl]):=zL (n:=12) (ajU rfl) λx ag=>by
  simp only[ajN,alc,or_false]at ag;rcases ag with rfl|rfl|rfl|rfl
  .exact tK s.jb
  .exact s.gP
  .exact h7
  .exact s.we
 refine sY rfl (Dx (Y':=[.v (.ref i),.v (.ref w),.v (.lst [.str n.c0,n.bK,.int n.bx,n.pl])]) (lP (r:=.fr [.str n.c0,n.bK,.int n.bx,n.pl]) (KL (bS (xK (v:=.str n.c0) h.ey rfl rfl (by rw[<-s.ao];rfl) rfl) (bS (xK (v:=n.bK) h.ey rfl rfl (by rw[<-s.az];rfl) rfl) (bS (xK (v:=.int n.bx) h.ey rfl rfl (by rw[<-s.cG];rfl) rfl) (bS (vA h.ey.bD (.of rfl) rfl dM (sY (d:=n.pl) rfl (oS ?_))) dM)))) rfl (ajU rfl)) rfl) (oS (fW (rs:=[.v (.lst [.str n.c0,n.bK,.int n.bx,n.pl]),.fr [.str n.c0,n.bK,.int n.bx,n.pl]]) (bS (.of rfl) (bS (KL (bS (e2 h rfl rfl) (bS (e2 h rfl rfl) (bS (e2 h rfl rfl) (bS (e2 h rfl rfl) dM)))) rfl (ajU rfl)) dM)) (.of (same_refl 13 _ ok)))));rw[s.fg];exact oT (bS (dR h.ey rfl rfl) (bS (dR h.ey rfl rfl) (bS (dR h.ey rfl rfl) dM))) rfl (ajU rfl)
def Qx(ps:List c2)(fh:c2)(au:(fh::ps).length<=1000):zr [.lst ((fh::ps).map ck)]=pure (.v (.aC ((fh::ps).all λp=>decide (p.s=fh.s)))):=by
 have c:fV gv (ab oEq (ab aL (I 0) (aa (.int 1))) (ab aL (ab aL (I 1) (aa (.int 0))) (aa (.int 1)))) [.e,.cc ((fh::ps).map ck)] ((fh::ps).map ck)=pure ((fh::ps).map λp=>D.aC (decide (p.s=fh.s))):=
  q2 ck _ _ λp _=>by
   have e:=IS p.s fh.s;simp[ck,e]
 have z:((fh::ps).map ck).length<ajL:=by rw[ajE];exact eJ (by omega)
 have b:=H0 (λp:c2=>decide (p.s=fh.s)) (fh::ps);exact i1 rfl (jA (iZ (by show(match pX _ with|some bs=>_|none=>_)=_;rw[b];show pure (R.v (.aC ((List.map _ _).all id)))=_;rw[List.all_map];rfl) (cons_of (nu (ds:=(fh::ps).map ck) rfl z c) rfl)))
def OI{t:dp}(h:t.c5=.aG):rE [t.D]=pure (.v .aG):=by
 refine i1 rfl (jA ?_);unfold dp.D;rw[h];exact bN rfl rfl rfl
def Ks{t:dp}(h:t.c5=.aG):qo [t.D]=pure (.v (.aC false)):=i1 rfl (jA (bN (x:=.v .aG) rfl (call_of (rs:=[.v t.D]) rfl (OI h)) rfl))
section
variable{a:b6}{ms:List Nat}{ec iM:Nat->Bool}(H:qP a.h ms ec iM){p:c2}{ps:List c2}(gD:a.aA=p::ps)(aU:∀g∈a.aA,g.k<6)(au:a.aA.length<=1000){t:dp}(aE:t.c5=.aG){s:du}
include H gD aU au aE
theorem OF{i g:Nat}(h:eD S i g a):aJ S (DY [.ref i,t.D]) (.v (.aC ((a.aA.all λg=>decide (g.s=p.s))&&iM (maskOf (a.aA.map (·.k)))))):=by
 obtain⟨x,y,q7,ag,bg,_,f2⟩:=H.ex;have g2:=Qx ps p (by rw[<-gD];exact au);rw[<-gD]at g2;have al:aJ S (aY (bA zr (U (gf (bQ (cL "Asker" "grants") (I 0))) aj)) [.v (.ref i),.v t.D]) (a.aA.all λg=>decide (g.s=p.s)):=de (fW (bS (A6 h rfl) dM) (.of g2));refine sY rfl ?_;generalize(a.aA.all λg=>decide (g.s=p.s))=b5 at *;have OH:aJ S (aY (bA qo (U (I 1) aj)) [.v (.ref i),.v t.D]) false:=.of (dn (call_of (rs:=[.v t.D]) rfl (Ks aE)))
 cases b5 with
 |false=>exact Dy (y7 (vB OH (qi al)) (oS (.of rfl)))| true=>exact Dx (y6 (vB OH (qi al)) (.of rfl)) (oS (fW (bS (cH (x:=.v (.tup [x,y])) (r:=.v y) rfl (dR h rfl (by show some a.h=_;rw[q7])) (.of rfl)) (bS (CG h aU au _) dM)) (.of (f2 _))))
variable(hd:a.dd=.aG)
include hd
theorem Wd(q:((a.aA.all λg=>decide (g.s=p.s))&&iM (maskOf (a.aA.map (·.k))))=true):a.Do td [.tup [b8 s,t.D]] [] (a.ends (.tup [.str "saw",.tup [.int a.cB,b8 s,t.D]])):=kk rfl λS i g h=>by
 have w0:=OF H gD aU au aE h;rw[q]at w0;exact yC (j6 (de (cH rfl (dR (d:=.aG) h rfl (by rw[<-hd];rfl)) (.of rfl))) (de (vA h.bD (.of rfl) rfl (bS (x:=.v t.D) (.of rfl) dM) w0)))<|
  Jp (BW (rs:=[.v (.tup [.str "saw",.tup [.int a.cB,b8 s,t.D]])]) h (IP rfl) rfl rfl (aJ.to (bS (oT (bS (.of rfl) (bS (oT (bS (dR h rfl rfl) (bS (.of rfl) (bS (.of rfl) dM))) rfl (ajU rfl)) dM)) rfl (ajU rfl)) dM)) rfl) λS g h=>sQ h (.of rfl)
theorem Wc(q:((a.aA.all λg=>decide (g.s=p.s))&&iM (maskOf (a.aA.map (·.k))))=false)(d4:nP [t.D,.int a.me,.int a.wi,.aG]=pure (.v t.D)):a.Do td [.tup [b8 s,t.D]] (ms.map (fC a.me a.cB a.st (.tup [b8 s,.int a.wi,.aG,t.D]))) (a.tells t.D):=kk rfl λS i g h=>by
 have w0:=OF H gD aU au aE h;have hm:=H.mem;have zd:=H.len;rw[q]at w0;exact nE (j6 (de (cH rfl (dR (d:=.aG) h rfl (by rw[<-hd];rfl)) (.of rfl))) (de (vA h.bD (.of rfl) rfl (bS (x:=.v t.D) (.of rfl) dM) w0)))<|
  lJ h { a with cR:="telling" } rfl (.of rfl) rfl rfl rfl λS h=>
  lJ h { a with cR:="telling",cJ:=0 } rfl (.of rfl) rfl rfl rfl λS h=>
  lJ h (a.tells t.D) rfl (fW (rs:=[.v t.D,.v (.int a.me),.v (.int a.wi),.v .aG]) (bS (.of rfl) (bS (dR h rfl rfl) (bS (dR h rfl rfl) (bS (dR h rfl (by show some a.dd=_;rw[hd])) dM)))) (.of d4)) rfl rfl rfl λS h=>
  CD (lP (r:=.v (.tup [b8 s,.int a.wi,.aG,t.D])) (oT (bS (.of rfl) (bS (dR h rfl rfl) (bS (dR (d:=.aG) h rfl (by show some a.dd=_;rw[hd])) (bS (dR h rfl rfl) dM)))) rfl (ajU rfl)) rfl)<|
  sQ h (KN (vy (y5 (fW (bS (dR h rfl rfl) dM) (.of hm)) rfl) (by rw[ajE];exact eJ (by omega))
   (y8 bl (fC a.me a.cB a.st (.tup [b8 s,.int a.wi,.aG,t.D])) ms λk _=>fW (bS (dR h rfl rfl) (bS (.of rfl) (bS (dR h rfl rfl) (bS (dR h rfl rfl) (bS (.of rfl) dM))))) (.of rfl))))
end
def Vz{a:b6}{t:dp}(hd:a.dd=.aG)(jX:a.c1=t.D)(aE:t.c5=.aG):a.ud zp [] (a.ends (.tup [.str "saw",.tup [.int a.cB,b8 a.st,t.D]])):=II rfl λS i g h=>
 ⟨[.v (.ref i),.v t.D,.e],CD (Y':=[.v (.ref i),.v t.D,.e]) (lP (r:=.v t.D) (dR h rfl (by rw[<-jX];rfl)) rfl)<|
  V' (de (cH rfl (dR (d:=.aG) h rfl (by rw[<-hd];rfl)) (.of rfl)))<|
  Wa (qi (de (fW (rs:=[.v t.D]) (.of rfl) (.of (Ks aE)))))<|
  BW (rs:=[.v (.tup [.str "saw",.tup [.int a.cB,b8 a.st,t.D]])]) h (IP rfl) rfl rfl (aJ.to (bS (oT (bS (.of rfl) (bS (oT (bS (dR h rfl rfl) (bS (dR h rfl rfl) (bS (.of rfl) dM))) rfl (ajU rfl)) dM)) rfl (ajU rfl)) dM)) rfl⟩
section
variable{a:b6}{ms:List Nat}(hm:nS [a.h]=pure (.fr (ms.map bl)))(au:ms.length<=6)
include hm au
theorem S4(aE:a.cR="calm")(bf:a.ep=false):a.Do rD [.aG] (ms.map (eW a.me a.cB (a.a4+1,a.me))) (a.Bs .aG).asks:=kk rfl λS i g h=>
 i3 (nL (de (cH rfl (.of rfl) (.of rfl))))<|
  i3 (de (dR h rfl (by show some (D.aC a.ep)=_;rw[bf])))<|
  i3 (de (cH (by rw[Tz (a:=a) (.inl aE),aE,beq_self_eq_true];rfl) (dR h rfl rfl) (.of rfl)))<|
  lJ h { a with wi:=a.wi+1 } rfl (cH rfl (dR h rfl rfl) (.of rfl)) rfl rfl rfl λS h=>
  lJ h { a with wi:=a.wi+1,dd:=.aG } rfl (.of rfl) rfl rfl rfl λS h=>
  lJ h (a.Bs .aG) rfl (.of rfl) rfl rfl rfl λS h=>
  u0 (rs:=[]) h (Gq (a:=a.Bs .aG) hm au) rfl rfl rfl rfl
end
def ni(t:dp):Prop:=t.c5=.aG
def dO(me:Int)(h:D)(a4:Int)(st:du)(cR:Str)(bK:D)(aA:List c2)(cJ:Nat)(c1:D)(wi:Int):b6:=⟨me,0,h,iK,false,a4,st,wi,.aG,cR,bK,aA,cJ,c1⟩
def E_(r:aP):dC (enc r)=.v (enc r):=by cases r;rw[q8];rfl;rw[p3];rfl
def JC{a k:aP}(ar:Good a)(ax:Good k):qP (b0 a k) (cY a k) (λm=>a.fills (gY m)) (λm=>k.fills (gY m)) where
 mem:=D7 ar ax
 len:=nU a k
 lt:=λ_ h=>tr h
 ne:=λz=>by have:=zy (k:=k) ar;rw[z]at this;cases this
 ex:=⟨enc a,enc k,rfl,E_ a,E_ k,λm=>Cf m 12 a (by have:=ar.2.1;omega) ar.1,λm=>Cf m 12 k (by have:=ax.2.1;omega) ax.1⟩
def HW{bj:List Nat}(ax:∀k∈bj,k<6)(aZ:j<6):gY (maskOf bj) j=bj.contains j:=by
 rw[zx bj ax];exact L2 _ j aZ
def Cg{a:aP}(ar:a.wf){bj:List Nat}(ax:∀k∈bj,k<6):a.fills (gY (maskOf bj))=a.fills λi=>bj.contains i:=I0 a λi aD=>HW ax (tv a ar i aD)
def sM(k:aP)(ms:List Nat):Bool:=k.fills λi=>ms.contains i
def Gi(s:du):fw s s=false:=by unfold fw;simp
def vD(xs:List D):gq [.v (.lst xs)]=pure (.v (.int (xs.length:Nat))):=rfl
def ZS(xs:List D):gq [.fr xs]=pure (.v (.int (xs.length:Nat))):=rfl
def ZV:oEq (.v (.str "late")) (.v (.str "grant"))=pure (.v (.aC false)):=by rw[fM tI tH];rfl
def ZY:oEq (.v (.str "late")) (.v (.str "kept"))=pure (.v (.aC false)):=by rw[fM tI wo];rfl
def eY(aA:List c2):du×D:=aA.foldl dT ((0,0),iK)
def lA(a k:aP)(me:Int)(st:du)(bx:Int)(aA:List c2)(t:dp):List D:=(cY a k).map (fC me 0 st (.tup [b8 (eY aA).1,.int bx,.aG,t.D]))
def hO(s:du)(t:dp):D:=.tup [.str "saw",.tup [.int 0,b8 s,t.D]]
def zN(s:du)(h:1<=n):Ok n (b8 s):=tJ (n:=1) (tG h7 h7) h
def aa3:aj2 "saw"=true:=by decide +kernel
def wq{W:List (List Nat)}{t:dp}(s:du)(h:fR (λ_=>False) W t)(eF:W.length<59):Ok 12 (hO s t):=tG (n:=11) (tK aa3) (Em (n:=10) h7 (zN s (by decide)) (fR.ok h (by omega) λz hz=>hz.elim))
def aa2{a k:aP}(ar:Good a)(ax:Good k):Ok 12 (dW a k):=Em (n:=11) h7 (aa0 ar ax) (tJ (n:=10) (fR.ok (HY []) (by decide) λz hz=>hz.elim) (by decide))
def zM:Ok 13 (.lst []):=zL (n:=12) (aj5 _) λ_ h=>(nomatch h)
def aaY{a k:aP}{W:List (List Nat)}{t:dp}(h:fR (λ_=>False) W t)(eF:W.length<59)(me bx:Int)(st:du)(aA:List c2):Ok 13 (.lst (lA a k me st bx aA t)):=
 zL (n:=12) (by unfold lA;rw[ajE];have:=nU a k;omega) λx ag=>by
  obtain⟨j,_,rfl⟩:=aks.mp ag;exact Mq (n:=11) (tK wt) h7 h7 h7 (zN st (by decide)) (Mp (n:=10) (zN _ (by decide)) h7 mQ (fR.ok h (by omega) λz hz=>hz.elim))
theorem fold_same:∀(ps:List c2)(c:du×D),c.1=s->(∀g∈ps,g.s=s)->(ps.foldl dT c).1=s
 |[],_,h,_=>h|g::ps,c,h,aK=>by
  refine fold_same ps (dT c g) ?_ λx ag=>aK x (ajM _ ag)
  unfold dT;rw[h,aK g ajR,Gi,if_neg ajO,h]
def Qz{P:dp->Prop}{p:c2}(aU:∀g∈p::ps,kc P W g.s g.w):((p::ps).all λg=>decide (g.s=p.s))=(p::ps).all λg=>decide (g.s=(eY (p::ps)).1):=by
 rw[ak3,akE,akE];simp only[decide_eq_true_eq];constructor
 .intro h
  have:(eY (p::ps)).1=p.s:=by
   refine fold_same ps (dT ((0,0),iK) p) ?_ λg aU=>h g (ajM _ aU)
   unfold dT;rcases aU p ajR with⟨z,_⟩|⟨z,_⟩
   .rw[z];exact if_neg (show ¬fw (0,0) (0,0)=true by decide)▸rfl
   .rw[if_pos (show fw p.s (0,0)=true by unfold fw;simp;omega)]
  rw[this];exact h
 .intro h g aU
  rw[h g aU,h p ajR]
def Qw(aA:List c2)(s:du):decide (((((aA.filter λg=>!decide (g.s=s)).map ck).length:Nat):Int)=0)=aA.all λg=>decide (g.s=s):=by
 rw[ajE,ak3,akE];simp only[decide_eq_true_eq];constructor
 .intro h g aU
  have:(aA.filter λg=>!decide (g.s=s))=[]:=anm (by omega);rw[aoy]at this;have:=this g aU;simpa using this
 .intro h
  rw[aoy.mpr λg aU=>by simp[h g aU]];rfl
def ZL{G:D->Prop}(h:fR G W s)(i n:Int):tg [s.D,.int i,.int n,.aG]=pure (.v s.D):=by
 have dl:=h.dl;have og:(s.ds.map (·.2)).length<ajL:=by rw[ajE];exact eJ (by omega)
 refine i1 rfl ?_;refine(ei (Fu (ds:=[.tup (s.cs.map (·.2)),.tup (s.ds.map (·.2)),.tup [.int s.f,s.t],s.c5]) rfl rfl)).trans ?_;refine(ei (n7 (nu rfl og (Lf h i n)) rfl)).trans ?_;exact qz ((k2 (abm (dn rfl))).trans (jA rfl))
structure so(a k:aP)(W:List (List Nat))(me bx:Int)(st:du)(q m:Nat)(A:b6)(n:dt)(aA:List c2)(ak:jl):Prop where
 pl:n.pl=dW a k
 nm:n.me=me
 nn:n.bx=bx
 er:0<=n.er
 cP:jM ni W ak
 jt:∀x∈aA,kc ni W x.s x.w/\x.k<6
 mS:∀x∈aA,∃kp w,hL ak x.k=g9 st kp w
 n1:(∃a4 cJ c1 bW,A=dO me (b0 a k) a4 st "asking" .aG aA cJ c1 bx/\st.1<=a4/\n.c0="asking"/\n.bK=.aG/\n.ex=some ⟨q,m,[],bW⟩)\/(∃a4 t,A=dO me (b0 a k) a4 st "telling" .aG aA 0 t.D bx/\st.1<=a4/\n.c0="telling"/\n.bK=.aG/\n.ex=some ⟨q,m,lA a k me st bx aA t,some t.D⟩/\fR (λ_=>False) W t/\ni t)\/∃a4 cJ c1 bK bW,A=dO me (b0 a k) a4 st "calm" bK aA cJ c1 bx/\st.1<=a4/\n.c0="calm"/\n.bK=bK/\n.ex=some ⟨q,m,[],bW⟩/\Ok 12 bK
def n9{a k:aP}(ar:Good a)(ax:Good k){me a4 bx:Int}{aA:List c2}{n:dt}(pl:n.pl=dW a k)(nn:n.bx=bx)(ao:n.c0=cR)(az:n.bK=bK)(jb:aj2 cR=true)(gP:Ok 12 bK):Std (dO me (b0 a k) a4 st cR bK aA cJ c1 bx) n:=
 ⟨ao.symm,az.symm,nn.symm,pl,by rw[ao];exact jb,by rw[az];exact gP,by rw[pl];exact aa2 ar ax⟩
section
variable{S:cz}{i g w b q m:Nat}{A et:b6}{n:dt}{aA:List c2}{ms:List Nat}{ak:jl}{ek:D}{σ:List D}{d7:List D}{bW:Option D}{Z:cz->Prop}
def CF(k6:dC ek=.v ek)(h:dz S i g w b q m A (n.L b) aA ms ak)(p:A.Do lQ [ek] σ et)(bh:∀S1 g1,dz S1 i g1 w b q m et (n.L b) aA ms ak->∃ai,bp S1 (xT [.v (.ref i),.v (.ref w),.v ek,.v (.lst σ),.v (.lst []),.e,.e,.e,.e,.e]) (.cQ (.v (.aC true))) ai/\Z ai):∃ai,bp S (th [.ref i,.ref w,ek]) (.v (.aC true)) ai/\Z ai:=by
 obtain⟨S1,g1,t1,s1⟩:=p _ _ _ h.o.ey;obtain⟨ai,d6,z⟩:=bh S1 g1 (h.step s1);refine⟨ai,qM rfl ?_,z⟩;show bp S (Bm [.v (.ref i),.v (.ref w),dC ek,.e,.e,.e,.e,.e,.e,.e]) _ _;rw[k6];exact ct (sa (t8 h.o.ey.bD (.of rfl) rfl (rs:=[.v ek]) (aJ.to (.of rfl)) rfl t1) rfl) (ct (Y':=[.v (.ref i),.v (.ref w),.v ek,.v (.lst σ),.v (.lst []),.e,.e,.e,.e,.e]) (aJ.of (n7 (r:=.fr []) rfl rfl)).to d6)
def yD(h:dz S i g w b q m A (n.L b) aA ms ak)(ag:n.ex=some ⟨q,m,d7,bW⟩)(s:Std A n)(ok:Ok 13 (.lst σ))(z:d7.length+σ.length<=1000)(s2 s5 fK eh fA jD:Slot):bp S (Hc [.v (.ref i),.v (.ref w),s2,.v (.lst σ),.v (.lst σ),s5,fK,eh,fA,jD]) (.cQ (.v (.aC true))) (S.set w (.dS (dt.L { n with ex:=some ⟨q,m,d7++σ,bW⟩ } b))):=by
 have ah:=h.put (L':=dt.L { n with ex:=some ⟨q,m,d7++σ,bW⟩ } b) (iR _ _);exact ct (lT h.o rfl (cH (x:=.v (.lst d7)) (y:=.v (.lst σ)) (r:=.fr (d7++σ)) (if_pos (z5 z)) (e2 h.o rfl (CA ag)) (.of rfl)) rfl (acx ag _)) (aJ.to (oS (KJ (fW (rs:=[.v (.lst σ),.v (.lst σ)]) (.of rfl) (.of (same_refl 13 _ ok))) (fW (rs:=[.v (.ref i),.v (.ref w)]) (.of rfl) (Fg (n:={ n with ex:=some ⟨q,m,d7++σ,bW⟩ }) ah.o ⟨s.ao,s.az,s.cG,s.fg,s.jb,s.gP,s.we⟩)))))
def Jr(h:dz S i g w b q m A (n.L b) aA ms ak)(ag:n.ex=some ⟨q,m,d7,bW⟩)(s:Std A n)(z:d7.length<=1000)(t:aJ S (hQ (aY (ab oEq (ab aL (I 2) (aa (.int 0))) (aa (.str "grant")))) (aY (ab oEq (ab cM (I 1) (aa (.str "stand"))) (aa (.str "asking")))) [.v (.ref i),.v (.ref w),.v ek,.v (.lst []),.v (.lst []),.e,.e,.e,.e,.e]) false):bp S (xT [.v (.ref i),.v (.ref w),.v ek,.v (.lst []),.v (.lst []),.e,.e,.e,.e,.e]) (.cQ (.v (.aC true))) (S.set w (.dS (n.L b))):=by
 have e:=yD h ag s zM (by show _+0<=_;omega) (.v ek) .e .e .e .e .e;have uM:({ n with ex:=some ⟨q,m,d7++[],bW⟩ }:dt)=n:=by rw[akG,<-ag]
 rw[uM]at e;exact px t.to e
end
def IZ{a:aP}(ar:Good a){bj:List Nat}{mN oX:bo}(ae:aJ S (mN Y) (.v (enc a)))(ah:aJ S (oX Y) (.v (.lst (bj.map bl)))):aJ S (aY (bA (j7 6) (U mN (U oX aj))) Y) (a.fills λx=>bj.contains x):=
 de (fW (rs:=[.v (enc a),.v (.lst (bj.map bl))]) (bS ae (bS ah dM)) (.of (zh bj 6 a (by have:=ar.2.1;omega) ar.1)))
abbrev hT(i w:Nat)(x:D)(σ T:List D)(s5 fK eh fA jD:Slot):aR:=[.v (.ref i),.v (.ref w),.v x,.v (.lst σ),.v (.lst T),s5,fK,eh,fA,jD]
abbrev gF(G:List c2):List Nat:=G.map (·.k)
abbrev kg(G:List c2):Bool:=G.all λg=>decide (g.s=(eY G).1)
abbrev nB(a:aP)(G:List c2):Bool:=a.fills λx=>(gF G).contains x
abbrev tV(k:aP)(G:List c2):Bool:=kg G&&sM k (gF G)
section
variable(a k:aP)(W:List (List Nat))(me:Int)(st:du)(bx:Int)
def F4(et:b6)(n:dt)(σ:List D)(G:List c2):Prop:=∃t:dp,(eY G).2=t.D/\fR (λ_=>False) W t/\if tV k G=true then σ=[]/\Std et { n with c0:="calm",bK:=hO (eY G).1 t }else σ=lA a k me st bx G t/\Std et { n with c0:="telling" }
def Gc(q m:Nat)(G:List c2)(n c9:dt):Prop:=(nB a G=false/\c9=n)\/(nB a G=true/\∃t:dp,(eY G).2=t.D/\fR (λ_=>False) W t/\((tV k G=true/\c9={ n with c0:="calm",bK:=hO (eY G).1 t })\/(tV k G=false/\c9={ n with c0:="telling",ex:=some ⟨q,m,lA a k me st bx G t,some t.D⟩ })))
end
section
variable{a k:aP}(ar:Good a)(ax:Good k){W:List (List Nat)}(eF:W.length<59){me bx:Int}{st:du}{q m:Nat}{A:b6}{n:dt}{aA:List c2}{ak:jl}(Q:so a k W me bx st q m A n aA ak)(au:aA.length<50)
include ar ax eF Q au
theorem We{v:D}(lH:aA++[⟨j,kp,v⟩]=G)(h:dz S i g w b q m et (n.L b) aA ms gG)(ay:n.c0="asking")(ag:n.ex=some ⟨q,m,[],bW⟩)(lU:nB a G=false->σ=[]/\Std et n)(nA:nB a G=true->F4 a k W me st bx et n σ G) :
  ∃ai c9,bp S (xT (hT i w (h1 j me 0 st kp v) σ [] .e .e .e .e .e)) (.cQ (.v (.aC true))) ai/\dz ai i g w b q m et (c9.L b) G ms gG/\Gc a k W me st bx q m G n c9:=by
 have cD:G.length<1000:=by rw[<-lH,ajQ];show _+1 < _;omega
 have AB:(G.map ck).length<ajL:=by rw[ajE];exact eJ (by omega)
 have ae:=h.grant ⟨j,kp,v⟩;rw[lH]at ae;have h_:aJ S (hQ (aY (ab oEq (ab aL (I 2) (aa (.int 0))) (aa (.str "grant")))) (aY (ab oEq (ab cM (I 1) (aa (.str "stand"))) (aa (.str "asking")))) (hT i w (h1 j me 0 st kp v) σ [] .e .e .e .e .e)) true:=j6 (de (cH yA (.of rfl) (.of rfl))) (de (cH (by rw[ay,fM qu qu,beq_self_eq_true]) (e2 (d:=.str n.c0) h.o rfl rfl) (.of rfl)));have s1:bp S (pw iD (ab cM (I 1) (aa (.str "grants"))) (U (bB (U (ab aL (I 2) (aa (.int 1))) (U (ab aL (ab aL (I 2) (aa (.int 5))) (aa (.int 0))) (U (ab aL (ab aL (I 2) (aa (.int 5))) (aa (.int 1))) aj)))) aj) (hT i w (h1 j me 0 st kp v) σ [] .e .e .e .e .e)) (.bh (hT i w (h1 j me 0 st kp v) σ [] .e .e .e .e .e)) (S.set q (.lst (aA.map ck++[ck ⟨j,kp,v⟩]))):=FN (e2 h.o rfl (Cx ag)) (bS (.of rfl) dM) h.ls (by rw[ajE];exact eJ (by omega));have YI:aL (.v (h1 j me 0 st kp v)) (.v (.int 4))=pure (.v (b8 st)):=rfl;generalize S.set q (.lst (aA.map ck++[ck ⟨j,kp,v⟩]))=S1 at *;generalize h1 j me 0 st kp v=X at *;have gl:∀{Y:aR},I 1 Y=pure (.v (.ref w))->aJ S1 (gf (ab cM (I 1) (aa (.str "grants"))) Y) (.mv (G.map ck)):=λe=>vz ae.ls (e2 ae.o e (Cx ag))
 have jt:fV gv (ab aL (I 0) (aa (.int 0))) [.e] (G.map ck)=pure ((gF G).map bl):=(q2 ck (λx:c2=>bl x.k) G λx _=>rfl).trans (by show _=pure (List.map bl (List.map _ G));rw[alF];rfl);have zT:∀{Y:aR},I 1 Y=pure (.v (.ref w))->aJ S1 (ab cM (I 1) (aa (.str "place")) Y) (.v (dW a k)):=λe=>e2 ae.o e (by rw[<-Q.pl];rfl)
 have s2:bp S1 (bU (b2 5 (eE 1 [] (iP (gf (ab cM (I 1) (aa (.str "grants"))))) gv (ab aL (I 0) (aa (.int 0))))) (hT i w X σ [] .e .e .e .e .e)) (.bh (hT i w X σ [] (.v (.lst ((gF G).map bl))) .e .e .e .e)) S1:=aJ.to (lP (vy (y5 (gl rfl) rfl) AB (.of jt)) rfl);have s3:bp S1 (bU (b2 6 (ab aL (ab cM (I 1) (aa (.str "place"))) (aa (.int 1)))) (hT i w X σ [] (.v (.lst ((gF G).map bl))) .e .e .e .e)) (.bh (hT i w X σ [] (.v (.lst ((gF G).map bl))) (.v (b0 a k)) .e .e .e)) S1:=aJ.to (lP (r:=.v (b0 a k)) (cH rfl (zT rfl) (.of rfl)) rfl);have n_:aJ S1 (aY (bA (j7 6) (U (ab aL (I 6) (aa (.int 0))) (U (I 5) aj))) (hT i w X σ [] (.v (.lst ((gF G).map bl))) (.v (b0 a k)) .e .e .e)) (nB a G):=IZ ar (cH (x:=.v (b0 a k)) (y:=.v (.int 0)) rfl (.of rfl) (.of rfl)) (.of rfl)
 cases f:nB a G with
 |false=>
  rw[f]at n_;obtain⟨rfl,c0⟩:=lU f;have e:=yD ae ag c0 zM (by show 0+0<=_;omega) (.v X) (.v (.lst ((gF G).map bl))) (.v (b0 a k)) .e .e .e;exact⟨_,_,ct (hx h_.to (ct s1 (ct s2 (ct s3 (iG n_.to rfl))))) e,ae.put (iR _ _),.inl ⟨f,by rw[akG,<-ag]⟩⟩
 |true=>
  rw[f]at n_;obtain⟨t,jX,tok,nA⟩:=nA f;have af:=Lh G (op:=iK) rfl;have q9:(List.foldl dT ((0,0),iK) G).2=t.D:=jX;rw[q9]at af;have s5:bp S1 (bU (mc [7,8] (bA vQ (U (gf (ab cM (I 1) (aa (.str "grants")))) (U (ab aL (ab cM (I 1) (aa (.str "place"))) (aa (.int 2))) aj)))) (hT i w X σ [] (.v (.lst ((gF G).map bl))) (.v (b0 a k)) .e .e .e)) (.bh (hT i w X σ [] (.v (.lst ((gF G).map bl))) (.v (b0 a k)) (.v (b8 (eY G).1)) (.v t.D) .e)) S1:=aJ.to (oU (ds:=[b8 (eY G).1,t.D]) (fW (rs:=[.mv (G.map ck),.v iK]) (bS (gl rfl) (bS (cH (x:=.v (dW a k)) rfl (zT rfl) (.of rfl)) dM)) (.of af)) rfl);have al:fV (aY (ab ef (ab aL (I 0) (aa (.int 1))) (I 1))) (I 0) [.e,.v (b8 (eY G).1)] (G.map ck)=pure ((G.filter λg=>!decide (g.s=(eY G).1)).map ck):=kR ck (λg=>!decide (g.s=(eY G).1)) ck G (λx _=>dn (bN (Mb x.s (eY G).1) rfl rfl)) λx _ _=>rfl
  have fK:bp S1 (bU (b2 9 (ab oEq (cE gq (U (eE 1 [7] (iP (gf (ab cM (I 1) (aa (.str "grants"))))) (aY (ab ef (ab aL (I 0) (aa (.int 1))) (I 1))) (I 0)) aj)) (aa (.int 0)))) (hT i w X σ [] (.v (.lst ((gF G).map bl))) (.v (b0 a k)) (.v (b8 (eY G).1)) (.v t.D) .e)) (.bh (hT i w X σ [] (.v (.lst ((gF G).map bl))) (.v (b0 a k)) (.v (b8 (eY G).1)) (.v t.D) (.v (.aC (kg G))))) S1:=aJ.to (lP (r:=.v (.aC (kg G))) (cH (mm.trans (by rw[Qw])) (vx (ZS _) (bS (vy (y5 (gl rfl) rfl) AB (.of al)) dM)) (.of rfl)) rfl);have jH:aJ S1 (hQ (aY (I 9)) (aY (bA (j7 6) (U (ab aL (I 6) (aa (.int 1))) (U (I 5) aj)))) (hT i w X σ [] (.v (.lst ((gF G).map bl))) (.v (b0 a k)) (.v (b8 (eY G).1)) (.v t.D) (.v (.aC (kg G))))) (tV k G):=by
   show aJ S1 _ (kg G&&_);generalize kg G=S3
   cases S3 with
   |false=>exact nL (.of rfl)|true=>exact j6 (.of rfl) (IZ ax (cH (x:=.v (b0 a k)) (y:=.v (.int 1)) rfl (.of rfl) (.of rfl)) (.of rfl))
  cases c:tV k G with
  |true=>
   rw[c]at jH nA;rw[if_pos rfl]at nA;obtain⟨rfl,c0⟩:=nA;have p1:=lT (k:=1) (Y:=hT i w X [] [] (.v (.lst ((gF G).map bl))) (.v (b0 a k)) (.v (b8 (eY G).1)) (.v t.D) (.v (.aC (kg G)))) (mv:=aa (.str "calm")) ae.o rfl (.of rfl) rfl (zX n b "calm");have ah:=ae.put (L':=dt.L { n with c0:="calm" } b) (iR _ _);have dB:=lT (k:=1) (Y:=hT i w X [] [] (.v (.lst ((gF G).map bl))) (.v (b0 a k)) (.v (b8 (eY G).1)) (.v t.D) (.v (.aC (kg G)))) (mv:=bB (U (aa (.str "saw")) (U (bB (U (aa (.int 0)) (U (I 7) (U (I 8) aj)))) aj))) (x:=.v (hO (eY G).1 t)) ah.o rfl (.of rfl) rfl (EO { n with c0:="calm" } b (hO (eY G).1 t));have bF:=ah.put (L':=dt.L { n with c0:="calm",bK:=hO (eY G).1 t } b) (iR _ _);have e:=yD (n:={ n with c0:="calm",bK:=hO (eY G).1 t }) bF ag c0 zM (by show 0+0<=_;omega) (.v X) (.v (.lst ((gF G).map bl))) (.v (b0 a k)) (.v (b8 (eY G).1)) (.v t.D) (.v (.aC (kg G)));exact⟨_,_,ct (hx h_.to (ct s1 (ct s2 (ct s3 (hx n_.to (ct s5 (ct fK (hx jH.to (ct p1 dB))))))))) e,bF.put (iR _ _),.inr ⟨f,t,jX,tok,.inl ⟨c,by rw[akG,<-ag]⟩⟩⟩
  |false=>
   rw[c]at jH nA;rw[if_neg ajO]at nA;obtain⟨rfl,c0⟩:=nA;have IG:=ZL tok me bx;rw[<-q9]at IG;have due:=Li ar ax me st bx (d:=.aG) rfl IG;have due:tp [.int me,dW a k,b8 st,.int bx,.aG,.lst (G.map ck)]=pure (.fr (lA a k me st bx G t)):=by rw[due,q9];rfl
   generalize e1:lA a k me st bx G t=T at *;have aaX:Ok 13 (.lst T):=by rw[<-e1];exact aaY tok eF me bx st G
   have aje:T.length<=6:=by rw[<-e1];show(List.map _ _).length<=6;rw[ajE];exact nU a k
   have p1:=lT (k:=1) (Y:=hT i w X T [] (.v (.lst ((gF G).map bl))) (.v (b0 a k)) (.v (b8 (eY G).1)) (.v t.D) (.v (.aC (kg G)))) (mv:=aa (.str "telling")) ae.o rfl (.of rfl) rfl (zX n b "telling");have ah:=ae.put (L':=dt.L { n with c0:="telling" } b) (iR _ _);have dB:=lT (k:=1) (Y:=hT i w X T [] (.v (.lst ((gF G).map bl))) (.v (b0 a k)) (.v (b8 (eY G).1)) (.v t.D) (.v (.aC (kg G)))) (mv:=I 8) (x:=.v t.D) ah.o rfl (.of rfl) rfl (acw (n:={ n with c0:="telling" }) ag t.D);have bF:=ah.put (L':=dt.L { n with c0:="telling",ex:=some ⟨q,m,[],some t.D⟩ } b) (iR _ _);have fA:bp _ (bU (b2 4 (bA tp (U (ab cM (I 1) (aa (.str "me"))) (U (ab cM (I 1) (aa (.str "place"))) (U (ab aL (I 2) (aa (.int 4))) (U (ab cM (I 1) (aa (.str "number"))) (U (aa (.aG)) (U (gf (ab cM (I 1) (aa (.str "grants")))) aj)))))))) (hT i w X T [] (.v (.lst ((gF G).map bl))) (.v (b0 a k)) (.v (b8 (eY G).1)) (.v t.D) (.v (.aC (kg G))))) (.bh (hT i w X T T (.v (.lst ((gF G).map bl))) (.v (b0 a k)) (.v (b8 (eY G).1)) (.v t.D) (.v (.aC (kg G))))) _:=aJ.to (lP (d:=.lst T) (fW (rs:=[.v (.int me),.v (dW a k),.v (b8 st),.v (.int bx),.v .aG,.mv (G.map ck)]) (bS (e2 bF.o rfl (by rw[<-Q.nm];rfl)) (bS (e2 bF.o rfl (by rw[<-Q.pl];rfl)) (bS (cH YI (.of rfl) (.of rfl)) (bS (e2 bF.o rfl (by rw[<-Q.nn];rfl)) (bS (.of rfl) (bS (vz bF.ls (e2 bF.o rfl (Cx (n:={ n with c0:="telling",ex:=some ⟨q,m,[],some t.D⟩ }) rfl))) dM)))))) (.of due)) rfl);have e:=yD (n:={ n with c0:="telling",ex:=some ⟨q,m,[],some t.D⟩ }) bF rfl ⟨c0.ao,c0.az,c0.cG,c0.fg,c0.jb,c0.gP,c0.we⟩ aaX (by show 0+T.length<=_;omega) (.v X) (.v (.lst ((gF G).map bl))) (.v (b0 a k)) (.v (b8 (eY G).1)) (.v t.D) (.v (.aC (kg G)));exact⟨_,_,ct (hx h_.to (ct s1 (ct s2 (ct s3 (hx n_.to (ct s5 (ct fK (iG jH.to (ct p1 (ct dB fA)))))))))) e,bF.put (iR _ _),.inr ⟨f,t,jX,tok,.inr ⟨c,by rw[e1];rfl⟩⟩⟩
end
section
variable{a k:aP}(ar:Good a)(ax:Good k){W:List (List Nat)}(eF:W.length<59){me bx:Int}{st:du}(s0:1<=st.1){q m:Nat}{A:b6}{n:dt}{aA:List c2}{ak:jl}(Q:so a k W me bx st q m A n aA ak)(au:aA.length<50)
include ar ax eF s0 Q au
theorem Wf(aZ:j∈cY a k)(h:dz S i g w b q m A (n.L b) aA ms ak) :
  ∃S1 ek ai fa c9 ir dq g',bp S (lR [.ref b,eW me 0 st j]) (.v ek) S1/\bp S1 (th [.ref i,.ref w,ek]) (.v (.aC true)) ai/\dz ai i g' w b q m fa (c9.L b) ir ms dq/\so a k W me bx st q m fa c9 ir dq/\ir.length<=aA.length+1:=by
 obtain⟨pr,kp,v,aK,fh,C2⟩:=Q.cP.1 j;have H:=JC ar ax;have mK:=tr aZ;have zd:=Q.cP.2.len;have vt:(cY a k).contains j=true:=als.mpr aZ;have O7:∀t,(lA a k me st bx aA t).length<=1000:=λt=>by unfold lA;rw[ajE];have:=nU a k;omega
 cases hW:fw st pr with
 |false=>
  have dK:=X2 (me:=me) aK h.o.cP hW;have go:∀{a4 cJ c1 cR bK d7 bW},A=dO me (b0 a k) a4 st cR bK aA cJ c1 bx->n.c0=cR->n.bK=bK->n.ex=some ⟨q,m,d7,bW⟩->aj2 cR=true->Ok 12 bK->d7.length<=1000->∃ai g',bp S (th [.ref i,.ref w,s9 j me 0 st pr]) (.v (.aC true)) ai/\dz ai i g' w b q m (dO me (b0 a k) (if pr.1 > a4 then pr.1 else a4) st cR bK aA cJ c1 bx) (n.L b) aA ms ak:=λ{a4 cJ c1 cR bK d7 bW} e6 ao az ag jb gP z=>by
   subst e6;obtain⟨ai,t,g',fi⟩:=CF (Z:=λai=>∃g',dz ai i g' w b q m (dO me (b0 a k) (if pr.1 > a4 then pr.1 else a4) st cR bK aA cJ c1 bx) (n.L b) aA ms ak) rfl h (JT (a:=dO me (b0 a k) a4 st cR bK aA cJ c1 bx) (k:=j) (e:=0) (s:=st) pr) λS1 g1 ae=>⟨_,Jr ae ag (n9 ar ax Q.pl Q.nn ao az jb gP) z (nL (de (cH ZV (.of rfl) (.of rfl)))),g1,ae.put (iR _ _)⟩
   exact⟨ai,g',t,fi⟩
  rcases Q.n1 with⟨a4,cJ,c1,bW,e6,aB,ao,az,ag⟩|⟨a4,t,e6,aB,ao,az,ag,t1,d6⟩|⟨a4,cJ,c1,bK,bW,e6,aB,ao,az,ag,gP⟩
  .obtain⟨ai,g',t,fi⟩:=go e6 ao az ag qu mQ (aj5 _)
   exact⟨S,_,ai,_,n,aA,ak,g',dK,t,fi,⟨Q.pl,Q.nm,Q.nn,Q.er,Q.cP,Q.jt,Q.mS,.inl ⟨_,cJ,c1,bW,rfl,by split<;>omega,ao,az,ag⟩⟩,amh _⟩
  .obtain⟨ai,g',tt,fi⟩:=go e6 ao az ag o9 mQ (O7 t)
   exact⟨S,_,ai,_,n,aA,ak,g',dK,tt,fi,⟨Q.pl,Q.nm,Q.nn,Q.er,Q.cP,Q.jt,Q.mS,.inr (.inl ⟨_,t,rfl,by split<;>omega,ao,az,ag,t1,d6⟩)⟩,amh _⟩
  .obtain⟨ai,g',t,fi⟩:=go e6 ao az ag kz gP (aj5 _)
   exact⟨S,_,ai,_,n,aA,ak,g',dK,t,fi,⟨Q.pl,Q.nm,Q.nn,Q.er,Q.cP,Q.jt,Q.mS,.inr (.inr ⟨_,cJ,c1,bK,bW,rfl,by split<;>omega,ao,az,ag,gP⟩)⟩,amh _⟩
 |true=>
  have dK:=JU (me:=me) aK h.o.cP (by omega) hW;have uy:jM ni W (dE ak (ed j) (g9 st kp v)):=Q.cP.put j mK (by omega) C2;have EA:∀x∈aA,∃zb eC,hL (dE ak (ed j) (g9 st kp v)) x.k=g9 st zb eC:=λx ag=>by
   by_cases c:x.k=j
   .rw[c,ED];exact⟨_,_,rfl⟩
   .rw[EC c];exact Q.mS x ag
  have J8:=h.wA (dE ak (ed j) (g9 st kp v));have no:∀{a4 cJ c1 cR bK d7 bW},A=dO me (b0 a k) a4 st cR bK aA cJ c1 bx->n.c0=cR->n.bK=bK->n.ex=some ⟨q,m,d7,bW⟩->(cR="calm"\/cR="telling")->Ok 12 bK->d7.length<=1000->∃ai g',bp (S.set b (.eZ (dE ak (ed j) (g9 st kp v)))) (th [.ref i,.ref w,h1 j me 0 st kp v]) (.v (.aC true)) ai/\dz ai i g' w b q m A (n.L b) aA ms (dE ak (ed j) (g9 st kp v)):=λ{a4 cJ c1 cR bK d7 bW} e6 ao az ag tS gP z=>by
   subst e6;have aE:(dO me (b0 a k) a4 st cR bK aA cJ c1 bx).nj:=tS.elim .inl λz=>.inr (.inr z)
   have jb:aj2 cR=true:=rW aE;have tT:cR≠"asking":=by rcases tS with rfl|rfl<;>decide
   have nw:(dO me (b0 a k) a4 st cR bK aA cJ c1 bx).now (cY a k) j 0 st=true:=by unfold b6.now;rw[vt];simp[dO]
   obtain⟨ai,t,g',fi⟩:=CF (Z:=λai=>∃g',dz ai i g' w b q m (dO me (b0 a k) a4 st cR bK aA cJ c1 bx) (n.L b) aA ms (dE ak (ed j) (g9 st kp v))) rfl J8 (XX (kp:=kp) (w:=v) H aE nw tT) λS1 g1 ae=>⟨_,Jr ae ag (n9 ar ax Q.pl Q.nn ao az jb gP) z (j6 (de (cH yA (.of rfl) (.of rfl))) (de (cH (by rw[ao,fM jb qu,show(cR == "asking")=false by simpa using tT]) (e2 (d:=.str n.c0) ae.o rfl rfl) (.of rfl)))),g1,ae.put (iR _ _)⟩
   exact⟨ai,g',t,fi⟩
  rcases Q.n1 with⟨a4,cJ,c1,bW,e6,aB,ao,az,ag⟩|⟨a4,t,e6,aB,ao,az,ag,t1,d6⟩|⟨a4,cJ,c1,bK,bW,e6,aB,ao,az,ag,gP⟩
  ·-- asking
   subst e6;have aE:(dO me (b0 a k) a4 st "asking" .aG aA cJ c1 bx).nj:=.inr (.inl rfl);have nw:(dO me (b0 a k) a4 st "asking" .aG aA cJ c1 bx).now (cY a k) j 0 st=true:=by unfold b6.now;rw[vt];simp[dO]
   have vu:∀x∈aA.map (·.k),x<6:=λx ag=>by obtain⟨y,bg,rfl⟩:=aks.mp ag;exact(Q.jt y bg).2
   have yy:∀x∈aA,x.k<6:=λx ag=>(Q.jt x ag).2
   have TL:(aA.map (·.k)).contains j=false:=by
    cases c:(aA.map (·.k)).contains j with
    |false=>rfl|true=>
     obtain⟨x,ag,ex⟩:=aks.mp (als.mp c);obtain⟨zb,eC,e⟩:=Q.mS x ag;rw[ex,aK]at e;have ao:b8 pr=b8 st:=by injection e with e;injection e
     have az:pr=st:=by
      injection ao with ao;injection ao with ao cG;injection ao with ao;injection cG with cG;injection cG with cG
      exact Prod.ext ao cG
     rw[az,Gi]at hW;cases hW
   have bm:=HW vu mK;rw[TL]at bm;generalize lH:aA++[c2.mk j kp v]=G at *;have ve:∀x∈G,kc ni W x.s x.w/\x.k<6:=λx ag=>by
    rw[<-lH]at ag;rcases akp.mp ag with ag|ag
    .exact Q.jt x ag
    .rw[aj0.mp ag];exact⟨C2,mK⟩
   have EB:∀x∈G,∃zb eC,hL (dE ak (ed j) (g9 st kp v)) x.k=g9 st zb eC:=λx ag=>by
    rw[<-lH]at ag;rcases akp.mp ag with ag|ag
    .exact EA x ag
    .rw[aj0.mp ag];exact⟨_,_,ED _ _ _⟩
   have Cr:∀x∈G,x.k<6:=λx ag=>(ve x ag).2
   have KC:∀x∈gF G,x<6:=λx ag=>by obtain⟨y,h',rfl⟩:=aks.mp ag;exact Cr y h'
   have q':a.fills (gY (maskOf (gF G)))=nB a G:=Cg ar.1 KC;have I4:k.fills (gY (maskOf (gF G)))=sM k (gF G):=Cg ax.1 KC;have ko:G.length<=aA.length+1:=by rw[<-lH,ajQ];exact ajK _
   have gD:((dO me (b0 a k) a4 st "asking" .aG aA cJ c1 bx).got j kp v).aA=G:=by rw[<-lH];rfl
   have fin:∀{et:b6}{σ:List D},(dO me (b0 a k) a4 st "asking" .aG aA cJ c1 bx).Do lQ [h1 j me 0 st kp v] σ et->(nB a G=false->σ=[]/\Std et n)->(nB a G=true->F4 a k W me st bx et n σ G)->_:=λ{et σ} p lU nA=>CF (Z:=λai=>∃g' c9,dz ai i g' w b q m et (c9.L b) G ms (dE ak (ed j) (g9 st kp v))/\Gc a k W me st bx q m G n c9) rfl J8 p λS1 g1 ae=>by
     obtain⟨ai,c9,t,r⟩:=We ar ax eF Q au lH ae ao ag lU nA;exact⟨ai,t,g1,c9,r⟩
   cases f:nB a G with
   |false=>
    have p:=JR H aE nw rfl (XW (a:=dO me (b0 a k) a4 st "asking" .aG aA cJ c1 bx) (me:=me) (e:=0) (s:=st) (kp:=kp) (w:=v) H yy (by show aA.length<60;omega) mK bm (by rw[gD,q',f]));obtain⟨ai,t,g',c9,fi,r⟩:=fin p (λ_=>⟨rfl,n9 ar ax Q.pl Q.nn ao az qu mQ⟩) λz=>by rw[f]at z;cases z
    rcases r with⟨_,rfl⟩|⟨z,_⟩
    .refine⟨_,_,ai,_,c9,G,_,g',dK,t,fi,⟨Q.pl,Q.nm,Q.nn,Q.er,uy,ve,EB,.inl ⟨a4,cJ,c1,bW,by rw[<-lH];rfl,aB,ao,az,ag⟩⟩,ko⟩
    .rw[f]at z;cases z
   |true=>
    have CZ:∀x∈G,kc ni W x.s x.w:=λx ag=>(ve x ag).1
    obtain⟨t,jX,tok,hh⟩:=HP (P:=ni) rfl CZ;have jX:(eY G).2=t.D:=jX;obtain⟨zR,iT,cB⟩:∃p ps,G=p::ps:=by rw[<-lH];cases aA with|nil=>exact⟨_,_,rfl⟩|cons p ps=>exact⟨_,_,rfl⟩
    have aD:=S6 (W:=W) (p:=zR) (ps:=iT) (by rw[<-cB];exact CZ) iK;rw[<-cB]at aD;have aD:oI iK (lE zR iT)=.tup [b8 (eY G).1,t.D]:=by rw[<-jX];exact aD
    have al:=Qz (p:=zR) (ps:=iT) (W:=W) (P:=ni) (by rw[<-cB];exact CZ);rw[<-cB]at al;have on:∀{σ et},((dO me (b0 a k) a4 st "asking" .aG aA cJ c1 bx).got j kp v).Do td [.tup [b8 (eY G).1,t.D]] σ et->(dO me (b0 a k) a4 st "asking" .aG aA cJ c1 bx).Do lQ [h1 j me 0 st kp v] σ et:=λgo=>JR H aE nw rfl (XY (a:=dO me (b0 a k) a4 st "asking" .aG aA cJ c1 bx) H yy (by show aA.length<60;omega) mK (gD.trans cB) rfl bm (by rw[gD,q',f]) (by show b6.Do _ _ [oI iK (lE zR iT)] _ _;rw[aD];exact go))
    have s':((dO me (b0 a k) a4 st "asking" .aG aA cJ c1 bx).got j kp v).aA.length<=1000:=by rw[gD];omega
    cases c:tV k G with
    |true=>
     have go:=Wd (a:=(dO me (b0 a k) a4 st "asking" .aG aA cJ c1 bx).got j kp v) (s:=(eY G).1) H (gD.trans cB) (by rw[gD];exact Cr) s' hh rfl (by rw[gD,I4,al];exact c);obtain⟨ai,tt,g',c9,fi,r⟩:=fin (on go) (λz=>by rw[f]at z;cases z) λ_=>⟨t,jX,tok,by rw[if_pos c];exact⟨rfl,n9 ar ax Q.pl Q.nn rfl rfl kz (wq _ tok eF)⟩⟩
     rcases r with⟨z,_⟩|⟨_,t',q9,O8,⟨_,rfl⟩|⟨z,_⟩⟩
     .rw[f]at z;cases z
     .have d4:hO (eY G).1 t'=hO (eY G).1 t:=by unfold hO;rw[<-q9,jX]
      refine⟨_,_,ai,_,_,G,_,g',dK,tt,fi,⟨Q.pl,Q.nm,Q.nn,Q.er,uy,ve,EB,.inr (.inr ⟨a4,cJ,c1,_,bW,by rw[d4,<-lH];rfl,aB,rfl,rfl,ag,wq _ O8 eF⟩)⟩,ko⟩
     .rw[c]at z;cases z
    |false=>
     have go:=Wc (a:=(dO me (b0 a k) a4 st "asking" .aG aA cJ c1 bx).got j kp v) (s:=(eY G).1) H (gD.trans cB) (by rw[gD];exact Cr) s' hh rfl (by rw[gD,I4,al];exact c) (Vm tok (by omega) me bx (d:=none) λx ag=>by cases ag);obtain⟨ai,tt,g',c9,fi,r⟩:=fin (on go) (λz=>by rw[f]at z;cases z) λ_=>⟨t,jX,tok,by rw[if_neg (by rw[c];exact ajO)];exact⟨rfl,n9 ar ax Q.pl Q.nn rfl az o9 mQ⟩⟩
     rcases r with⟨z,_⟩|⟨_,t',q9,O8,⟨z,_⟩|⟨_,rfl⟩⟩
     .rw[f]at z;cases z
     .rw[c]at z;cases z
     .have d4:t'.D=t.D:=by rw[<-q9,jX]
      refine⟨_,_,ai,_,_,G,_,g',dK,tt,fi,⟨Q.pl,Q.nm,Q.nn,Q.er,uy,ve,EB,.inr (.inl ⟨a4,t,by rw[<-lH];rfl,aB,rfl,az,by unfold lA;rw[d4],tok,hh⟩)⟩,ko⟩
  .obtain⟨ai,g',tt,fi⟩:=no e6 ao az ag (.inr rfl) mQ (O7 t)
   exact⟨_,_,ai,_,n,aA,_,g',dK,tt,fi,⟨Q.pl,Q.nm,Q.nn,Q.er,uy,Q.jt,EA,.inr (.inl ⟨a4,t,e6,aB,ao,az,ag,t1,d6⟩)⟩,amh _⟩
  .obtain⟨ai,g',tt,fi⟩:=no e6 ao az ag (.inl rfl) gP (aj5 _)
   exact⟨_,_,ai,_,n,aA,_,g',dK,tt,fi,⟨Q.pl,Q.nm,Q.nn,Q.er,uy,Q.jt,EA,.inr (.inr ⟨a4,cJ,c1,bK,bW,e6,aB,ao,az,ag,gP⟩)⟩,amh _⟩
end
def aaP(j:Nat)(bj:List Nat):h6 true (.v (bl j)) (.mv (bj.map bl))=pure (.v (.aC (!bj.contains j))):=by
 have ec:(bj.map bl).all D.flat=true:=by rw[List.all_map];exact akE.mpr λ_ _=>rfl
 show(if(bl j).flat=true/\(bj.map bl).all D.flat=true then pure (R.v (D.aC (if true=true then !inD (bl j) (bj.map bl)else inD (bl j) (bj.map bl))))else bad)=_;rw[if_pos ⟨rfl,ec⟩,if_pos rfl,Kk]
def abk(hm:∀i∈ms,i<6)(h:j∈ms):maskOf ms ||| maskOf [j]=maskOf ms:=by
 have ao:maskOf ms ||| maskOf [j]=maskOf (ms++[j]):=by rw[vX];show _ ||| (0 ||| 2 ^ j)=_;rw[Nat.zero_or]
 have C3:∀i∈ms++[j],i<6:=λi aD=>by
  rcases akp.mp aD with aD|aD
  .exact hm i aD
  .rw[aj0.mp aD];exact hm j h
 rw[ao,zx _ C3,zx _ hm]
 congr 1
 funext i
 rw[List.contains_eq_mem,List.contains_eq_mem,decide_eq_decide,akp,aj0];exact⟨λz=>z.elim id λz=>z▸h,.inl⟩
def abl(ms:List Nat)(j:Nat):maskOf ms ||| maskOf [j]=maskOf (ms++[j]):=by rw[vX];show _ ||| (0 ||| 2 ^ j)=_;rw[Nat.zero_or]
def afl:oEq (.v (.str "telling")) (.v (.str "telling"))=pure (.v (.aC true)):=by rw[fM o9 o9,beq_self_eq_true]
def TZ:oEq (.v (.str "calm")) (.v (.str "telling"))=pure (.v (.aC false)):=by rw[fM kz o9];rfl
structure nk(a k:aP)(W:List (List Nat))(me bx:Int)(st:du)(q m:Nat)(aA:List c2)(t:dp)(T:List D)(A:b6)(n:dt)(ms:List Nat)(ak:jl):Prop where
 pl:n.pl=dW a k
 nm:n.me=me
 nn:n.bx=bx
 er:0<=n.er
 cP:jM ni W ak
 ex:n.ex=some ⟨q,m,T,some t.D⟩
 kq:∀j∈ms,j<6
 dZ:ms.Nodup
 n1:(sM k ms=false/\∃a4,st.1<=a4/\A=dO me (b0 a k) a4 st "telling" .aG aA (maskOf ms) t.D bx/\n.c0="telling"/\n.bK=.aG)\/∃a4 cJ,st.1<=a4/\A=dO me (b0 a k) a4 st "calm" (hO st t) aA cJ t.D bx/\n.c0="calm"/\n.bK=hO st t
section
variable{S:cz}{i g w b q m:Nat}{A et:b6}{n:dt}{aA:List c2}{ms:List Nat}{ak:jl}{ek:D}{Z:cz->Prop}
def zA(k6:dC ek=.v ek)(h:dz S i g w b q m A (n.L b) aA ms ak)(p:A.Do lQ [ek] [] et)(bh:∀S1 g1,dz S1 i g1 w b q m et (n.L b) aA ms ak->∃ai,bp S1 (Hf [.v (.ref i),.v (.ref w),.v ek,.v (.lst [])]) (.cQ (.v (.aC true))) ai/\Z ai):∃ai,bp S (nQ [.ref i,.ref w,ek]) (.v (.aC true)) ai/\Z ai:=by
 obtain⟨S1,g1,t1,s1⟩:=p _ _ _ h.o.ey;obtain⟨ai,d6,z⟩:=bh S1 g1 (h.step s1);refine⟨ai,qM rfl ?_,z⟩;show bp S (Bo [.v (.ref i),.v (.ref w),dC ek,.e]) _ _;rw[k6];exact ct (sa (t8 h.o.ey.bD (.of rfl) rfl (rs:=[.v ek]) (aJ.to (.of rfl)) rfl t1) rfl) d6
def zB(h:dz S i g w b q m A (n.L b) aA ms ak)(s:Std A n)(s2:Slot):bp S (Hg [.v (.ref i),.v (.ref w),s2,.v (.lst [])]) (.cQ (.v (.aC true))) S:=
 aJ.to (oS (KJ (fW (rs:=[.v (.lst []),.fr []]) (.of rfl) (.of (same_refl 13 _ zM))) (fW (rs:=[.v (.ref i),.v (.ref w)]) (.of rfl) (Fg h.o s))))
end
section
variable{a k:aP}(ar:Good a)(ax:Good k){W:List (List Nat)}(eF:W.length<59){me bx:Int}{st:du}{q m:Nat}{A:b6}{n:dt}{aA:List c2}{t:dp}(tok:fR (λ_=>False) W t)(k':t.c5=.aG){T:List D}{ms:List Nat}{ak:jl}(cy:nk a k W me bx st q m aA t T A n ms ak)
include ar ax eF tok k' cy
theorem aaa(j:Nat)(pr:du)(h:dz S i g w b q m A (n.L b) aA ms ak):∃ai fa c9 dr g',bp S (nQ [.ref i,.ref w,s9 j me 0 st pr]) (.v (.aC true)) ai/\dz ai i g' w b q m fa (c9.L b) aA dr ak/\nk a k W me bx st q m aA t T fa c9 dr ak:=by
 have go:∀{a4 cJ c1 cR bK},A=dO me (b0 a k) a4 st cR bK aA cJ c1 bx->n.c0=cR->n.bK=bK->aj2 cR=true->Ok 12 bK->∃ai g',bp S (nQ [.ref i,.ref w,s9 j me 0 st pr]) (.v (.aC true)) ai/\dz ai i g' w b q m (dO me (b0 a k) (if pr.1 > a4 then pr.1 else a4) st cR bK aA cJ c1 bx) (n.L b) aA ms ak:=λ{a4 cJ c1 cR bK} e6 ao az jb gP=>by
  subst e6;obtain⟨ai,tt,g',fi⟩:=zA (Z:=λai=>∃g',dz ai i g' w b q m (dO me (b0 a k) (if pr.1 > a4 then pr.1 else a4) st cR bK aA cJ c1 bx) (n.L b) aA ms ak) rfl h (JT (a:=dO me (b0 a k) a4 st cR bK aA cJ c1 bx) (k:=j) (e:=0) (s:=st) pr) λS1 g1 ae=>⟨_,px (aJ.to (nL (de (cH ZY (.of rfl) (.of rfl))))) (zB ae (n9 ar ax cy.pl cy.nn ao az jb gP) _),g1,ae⟩
  exact⟨ai,g',tt,fi⟩
 rcases cy.n1 with⟨f,a4,aB,e6,ao,az⟩|⟨a4,cJ,aB,e6,ao,az⟩
 .obtain⟨ai,g',tt,fi⟩:=go e6 ao az o9 mQ
  exact⟨ai,_,n,ms,g',tt,fi,cy.pl,cy.nm,cy.nn,cy.er,cy.cP,cy.ex,cy.kq,cy.dZ,.inl ⟨f,_,by split<;>omega,rfl,ao,az⟩⟩
 .obtain⟨ai,g',tt,fi⟩:=go e6 ao az kz (wq st tok eF)
  exact⟨ai,_,n,ms,g',tt,fi,cy.pl,cy.nm,cy.nn,cy.er,cy.cP,cy.ex,cy.kq,cy.dZ,.inr ⟨_,cJ,by split<;>omega,rfl,ao,az⟩⟩
theorem Z'(aZ:j∈cY a k)(h:dz S i g w b q m A (n.L b) aA ms ak):∃ai fa c9 dr g',bp S (nQ [.ref i,.ref w,iy j me 0 st]) (.v (.aC true)) ai/\dz ai i g' w b q m fa (c9.L b) aA dr ak/\nk a k W me bx st q m aA t T fa c9 dr ak:=by
 have H:=JC ar ax;have mK:=tr aZ;have vt:(cY a k).contains j=true:=als.mpr aZ;rcases cy.n1 with⟨f,a4,aB,e6,ao,az⟩|⟨a4,cJ,aB,e6,ao,az⟩
 .subst e6
  have aE:(dO me (b0 a k) a4 st "telling" .aG aA (maskOf ms) t.D bx).nj:=.inr (.inr rfl);have nw:(dO me (b0 a k) a4 st "telling" .aG aA (maskOf ms) t.D bx).now (cY a k) j 0 st=true:=by unfold b6.now;rw[vt];simp[dO]
  have zd:ms.length<=6:=by
   have:=cy.dZ.length_le_of_subset (l₂:=aj6 6) λk ax=>akM.mpr (cy.kq k ax)
   rw[amP]at this;exact this
  obtain⟨dr,em,vI,L8,mk⟩:∃dr:List Nat,maskOf ms ||| maskOf [j]=maskOf dr/\(∀x∈dr,x<6)/\dr.Nodup/\∀{S:cz}{g:Nat}{et:b6},dz S i g w b q m et (n.L b) aA ms ak->∃ai,bp S (d9 (eR (aY (ab (h6 true) (ab aL (I 2) (aa (.int 1))) (gf (ab cM (I 1) (aa (.str "marks"))))))) (pw iD (ab cM (I 1) (aa (.str "marks"))) (U (ab aL (I 2) (aa (.int 1))) aj)) (bU cv) [.v (.ref i),.v (.ref w),.v (iy j me 0 st),.v (.lst [])]) (.bh [.v (.ref i),.v (.ref w),.v (iy j me 0 st),.v (.lst [])]) ai/\dz ai i g w b q m et (n.L b) aA dr ak:=by
   have c1:∀{S:cz}{g:Nat}{et:b6},dz S i g w b q m et (n.L b) aA ms ak->aJ S (aY (ab (h6 true) (ab aL (I 2) (aa (.int 1))) (gf (ab cM (I 1) (aa (.str "marks"))))) [.v (.ref i),.v (.ref w),.v (iy j me 0 st),.v (.lst [])]) (!ms.contains j):=λh=>de (cH (aaP j ms) (.of rfl) (vz h.k5 (e2 h.o rfl (Cy cy.ex))))
   cases c:ms.contains j with
   |true=>
    rw[c]at c1;exact⟨ms,abk cy.kq (als.mp c),cy.kq,cy.dZ,λh=>⟨_,iG (c1 h).to rfl,h⟩⟩
   |false=>
    rw[c]at c1;have aaF:j∉ms:=λz=>by rw[als.mpr z]at c;cases c
    refine⟨ms++[j],abl ms j,λx ag=>?_,amR.mpr ⟨cy.dZ,akD.mpr ⟨alc,amr⟩,λx ag y bg=>?_⟩,λh=>⟨_,hx (c1 h).to (FN (e2 h.o rfl (Cy cy.ex)) (bS (.of rfl) dM) h.k5 (by rw[ajE];exact eJ (by omega))),h.mark j⟩⟩
    .rcases akp.mp ag with ag|ag
     .exact cy.kq x ag
     .rw[aj0.mp ag];exact mK
    .rw[aj0.mp bg];rintro rfl;exact aaF ag
  have gp:(dO me (b0 a k) a4 st "telling" .aG aA (maskOf ms) t.D bx).kept j=dO me (b0 a k) a4 st "telling" .aG aA (maskOf dr) t.D bx:=by unfold b6.kept dO;rw[<-em]
  have q':k.fills (gY (maskOf dr))=sM k dr:=Cg ax.1 vI;have ba:=zh dr 6 k (by have:=ax.2.1;omega) ax.1;have h_:∀{S:cz}{g:Nat}{et:b6},dz S i g w b q m et (n.L b) aA ms ak->aJ S (hQ (aY (ab oEq (ab aL (I 2) (aa (.int 0))) (aa (.str "kept")))) (aY (ab oEq (ab cM (I 1) (aa (.str "stand"))) (aa (.str "telling")))) [.v (.ref i),.v (.ref w),.v (iy j me 0 st),.v (.lst [])]) true:=λh=>j6 (de (cH za (.of rfl) (.of rfl))) (de (cH (by rw[ao];exact afl) (e2 (d:=.str n.c0) h.o rfl rfl) (.of rfl)))
  have pj:∀{S:cz}{g:Nat}{et:b6},dz S i g w b q m et (n.L b) aA dr ak->aJ S (aY (bA (j7 6) (U (ab aL (ab aL (ab cM (I 1) (aa (.str "place"))) (aa (.int 1))) (aa (.int 1))) (U (gf (ab cM (I 1) (aa (.str "marks")))) aj))) [.v (.ref i),.v (.ref w),.v (iy j me 0 st),.v (.lst [])]) (sM k dr):=λh=>
   de (fW (rs:=[.v (enc k),.mv (dr.map bl)]) (bS (cH (x:=.v (b0 a k)) rfl (cH (x:=.v (dW a k)) rfl (e2 h.o rfl (by rw[<-cy.pl];rfl)) (.of rfl)) (.of rfl)) (bS (vz h.k5 (e2 h.o rfl (Cy cy.ex))) dM)) (.of ba))
  cases c:sM k dr with
  |false=>
   rw[c]at q' pj;have p:=JS H aE nw rfl (X0 (a:=dO me (b0 a k) a4 st "telling" .aG aA (maskOf ms) t.D bx) (me:=me) (e:=0) (s:=st) H mK (by rw[gp];exact q'));rw[gp]at p;obtain⟨ai,tt,g',fi⟩:=zA (Z:=λai=>∃g',dz ai i g' w b q m (dO me (b0 a k) a4 st "telling" .aG aA (maskOf dr) t.D bx) (n.L b) aA dr ak) rfl h p λS1 g1 ae=>by
    obtain⟨bc,d6,ah⟩:=mk ae;exact⟨bc,ct (hx (h_ ae).to (ct d6 (iG (pj ah).to rfl))) (zB ah (n9 ar ax cy.pl cy.nn ao az o9 mQ) _),g1,ah⟩
   exact⟨ai,_,n,dr,g',tt,fi,cy.pl,cy.nm,cy.nn,cy.er,cy.cP,cy.ex,vI,L8,.inl ⟨c,a4,aB,rfl,ao,az⟩⟩
  |true=>
   rw[c]at q' pj;have uM:=Vz (a:=dO me (b0 a k) a4 st "telling" .aG aA (maskOf dr) t.D bx) rfl rfl k';have p:=JS H aE nw rfl (XZ (a:=dO me (b0 a k) a4 st "telling" .aG aA (maskOf ms) t.D bx) (me:=me) (e:=0) (s:=st) H mK (by rw[gp];exact q') (by rw[gp];exact uM) (OI k'));obtain⟨ai,tt,g',fi⟩:=zA (Z:=λai=>∃g',dz ai i g' w b q m (dO me (b0 a k) a4 st "calm" (hO st t) aA (maskOf dr) t.D bx) (dt.L { n with c0:="calm",bK:=hO st t } b) aA dr ak) rfl h p λS1 g1 ae=>by
    obtain⟨bc,d6,ah⟩:=mk ae;have p1:=lT (k:=1) (Y:=[.v (.ref i),.v (.ref w),.v (iy j me 0 st),.v (.lst [])]) (mv:=aa (.str "calm")) ah.o rfl (.of rfl) rfl (zX n b "calm");have bF:=ah.put (L':=dt.L { n with c0:="calm" } b) (iR _ _);have dB:=lT (k:=1) (Y:=[.v (.ref i),.v (.ref w),.v (iy j me 0 st),.v (.lst [])]) (f:="outcome") (mv:=bB (U (aa (.str "saw")) (U (bB (U (aa (.int 0)) (U (ab aL (I 2) (aa (.int 4))) (U (ab cM (I 1) (aa (.str "slate"))) aj)))) aj))) (x:=.v (hO st t)) bF.o rfl (oT (bS (.of rfl) (bS (oT (bS (.of rfl) (bS (.of rfl) (bS (e2 (d:=t.D) bF.o rfl (V5 (n:={ n with c0:="calm" }) cy.ex)) dM))) rfl (ajU rfl)) dM)) rfl (ajU rfl)) rfl (EO { n with c0:="calm" } b (hO st t));have dw:=bF.put (L':=dt.L { n with c0:="calm",bK:=hO st t } b) (iR _ _);exact⟨_,ct (hx (h_ ae).to (ct d6 (hx (pj ah).to (ct p1 dB)))) (zB (n:={ n with c0:="calm",bK:=hO st t }) dw (n9 ar ax cy.pl cy.nn rfl rfl kz (wq st tok eF)) _),g1,dw⟩
   exact⟨ai,_,_,dr,g',tt,fi,cy.pl,cy.nm,cy.nn,cy.er,cy.cP,cy.ex,vI,L8,.inr ⟨a4,maskOf dr,aB,rfl,rfl,rfl⟩⟩
 .subst e6
  have aE:(dO me (b0 a k) a4 st "calm" (hO st t) aA cJ t.D bx).nj:=.inl rfl;have nw:(dO me (b0 a k) a4 st "calm" (hO st t) aA cJ t.D bx).now (cY a k) j 0 st=true:=by unfold b6.now;rw[vt];simp[dO]
  obtain⟨ai,tt,g',fi⟩:=zA (Z:=λai=>∃g',dz ai i g' w b q m (dO me (b0 a k) a4 st "calm" (hO st t) aA cJ t.D bx) (n.L b) aA ms ak) rfl h (X1 H aE nw (show ¬("calm":Str)="telling" by decide)) λS1 g1 ae=>⟨_,px (aJ.to (j6 (de (cH za (.of rfl) (.of rfl))) (de (cH (by rw[ao];exact TZ) (e2 (d:=.str n.c0) ae.o rfl rfl) (.of rfl))))) (zB ae (n9 ar ax cy.pl cy.nn ao az kz (wq st tok eF)) _),g1,ae⟩
  exact⟨ai,_,n,ms,g',tt,fi,cy.pl,cy.nm,cy.nn,cy.er,cy.cP,cy.ex,cy.kq,cy.dZ,.inr ⟨a4,cJ,aB,rfl,ao,az⟩⟩
end
end fb
namespace fb
open PySem PySem.Spec aF a0 jP hB l8
open Classical in
def ta(c:Int)(k:Nat):Bool:=if h:k<6 then decide (c / (EH h).choose % 2=1)else false
def Lq(c:Int):∃bj:List Nat,ti [.int c]=pure (.v (.lst (bj.map bl))):=by
 have t:∀k:Nat,k<6->aY (ab oEq (ab oMod (ab eG (I 1) (ab aL (dJ (U (aa (.int 1)) (U (aa (.int 2)) (U (aa (.int 4)) (U (aa (.int 8)) (U (aa (.int 16)) (U (aa (.int 32)) aj))))))) (I 0))) (aa (.int 2))) (aa (.int 1))) [.v (bl k),.v (.int c)]=pure (ta c k):=λk ax=>by
  obtain⟨ae,ah⟩:=(EH ax).choose_spec;refine(dn (bN mm (bN (gH (by decide)) (bN (jr (a:=c) ae) rfl (bN ah (rA rfl rfl (ajU rfl)) rfl)) rfl) rfl)).trans ?_;unfold ta;rw[dif_pos ax]
 have k4:fV (aY (ab oEq (ab oMod (ab eG (I 1) (ab aL (dJ (U (aa (.int 1)) (U (aa (.int 2)) (U (aa (.int 4)) (U (aa (.int 8)) (U (aa (.int 16)) (U (aa (.int 32)) aj))))))) (I 0))) (aa (.int 2))) (aa (.int 1)))) (I 0) [.e,.v (.int c)] ((aj6 6).map bl)=pure (((aj6 6).filter (ta c)).map bl):=kR bl (ta c) bl _ (λk ax=>t k (akM.mp ax)) λk _ _=>rfl
 have s1:b2 1 (eE 1 [0] (j5 (U (aa (.int 6)) aj)) (aY (ab oEq (ab oMod (ab eG (I 1) (ab aL (dJ (U (aa (.int 1)) (U (aa (.int 2)) (U (aa (.int 4)) (U (aa (.int 8)) (U (aa (.int 16)) (U (aa (.int 32)) aj))))))) (I 0))) (aa (.int 2))) (aa (.int 1)))) (I 0)) [.v (.int c),.e]=pure (.bh [.v (.int c),.v (.lst (((aj6 6).filter (ta c)).map bl))]):=n7 (nu (ds:=(aj6 6).map bl) rfl (by rw[ajE];exact eJ (by decide)) k4) rfl;generalize((aj6 6).filter (ta c))=bj at s1
 by_cases q:c / 64 % 3 > 0
 .exact⟨[0,1,2,3,4,5],i1 rfl ((ei s1).trans ((ei ((k2 (dn (bN (yE.trans (by rw[decide_eq_true q])) (bN (gH (by decide)) (bN (jr (hG (by decide) (by decide))) rfl rfl) rfl) rfl))).trans (n7 (rA rfl rfl (ajU rfl)) rfl))).trans rfl))⟩
 .exact⟨bj,i1 rfl ((ei s1).trans ((ei (oO (dn (bN (yE.trans (by rw[decide_eq_false q])) (bN (gH (by decide)) (bN (jr (hG (by decide) (by decide))) rfl rfl) rfl) rfl)))).trans rfl))⟩
end fb
namespace fb
open PySem PySem.Spec aF a0 jP hB l8
def aaZ(me:Int)(st:du){ms:List Nat}(au:ms.length<=6):Ok 13 (.lst (ms.map (eW me 0 st))):=
 zL (n:=12) (by rw[ajE];omega) λx ag=>by
  obtain⟨j,_,rfl⟩:=aks.mp ag;exact Mq (n:=11) (tK wm) h7 h7 h7 (zN st (by decide)) aaW
def EU{ms:c7}(e:ms Y=pure [.v (.int (z:Nat))])(h:z<1000):j5 ms Y=pure (kC 0 z):=by
 have fO:(z:Int)<4611686018427387904:=by omega
 simp[e,fO]
def Pk{ls:List D}(aK:0<ls.length)(x:Int):∃l,e_ ls (x % (ls.length:Nat))=some l/\l∈ls:=by
 have m:=mod_lt (a:=x) (b:=(ls.length:Nat)) (by omega);obtain⟨v,e⟩:=A' (xs:=ls) m.1 m.2;exact⟨v,e,A_ e⟩
section
variable{S S1 bc:cz}{Y:aR}
def agJ{mf:fe}{ms:hV}{rs:List R}{r:R}(h:bp S (ms Y) rs S1)(aE:rs.all R.je=true)(e:bp S1 (mf (rs.map R.arg)) r bc):bp S (iV mf ms Y) r bc:=h.bind (by rw[if_pos aE];exact e)
def PL{m:fk}{ms:hV}{x:R}(h:bp S (m Y) x S1)(ah:bp S1 (ms Y) xs bc)(aE:x.je=true):bp S (ic m ms Y) (x::xs) bc:=h.bind (ah.bind (by rw[if_pos aE];rfl))
def agK{m:fk}{ms:c7}(h:bp S (m Y) x S1)(e:aJ S1 (ms Y) xs):bp S (Ap m ms Y) (x::xs) S1:=h.bind (e.to.bind rfl)
def PO{a b:aR->N Bool}(h:bp S (a Y) false S1):bp S (sd a b Y) false S1:=h.bind rfl
def PQ{a b:aR->N Bool}(h:bp S (a Y) true S1)(ah:bp S1 (b Y) x bc):bp S (sd a b Y) x bc:=h.bind ah
end
abbrev gS(i w:Nat)(c:Int)(s3 s4 s5:Slot)(L:List D)(eh fA jD ht:Slot):aR:=[.v (.ref i),.v (.ref w),.v (.int c),s3,s4,s5,.v (.lst L),eh,fA,jD,ht]
section
variable{a k:aP}(ar:Good a)(ax:Good k){W:List (List Nat)}(eF:W.length<59){me bx:Int}{st:du}(s0:1<=st.1){q m i w b:Nat}(c:Int)(s3 s4 s5:Slot)
include ar ax eF s0
theorem A9:∀(is:List Int)(A:b6)(n:dt)(aA:List c2)(ak:jl)(eh fA:Slot)(S:cz)(g:Nat),so a k W me bx st q m A n aA ak->dz S i g w b q m A (n.L b) aA [] ak->aA.length+is.length<50->
  ∃fa c9 ir dq rS E8 ai g',bp S (kI (λd Y=>K9 (Y.set 7 (.v d))) (is.map D.int) (gS i w c s3 s4 s5 ((cY a k).map (eW me 0 st)) eh fA .e .e)) (.bh (gS i w c s3 s4 s5 ((cY a k).map (eW me 0 st)) rS E8 .e .e)) ai/\so a k W me bx st q m fa c9 ir dq/\dz ai i g' w b q m fa (c9.L b) ir [] dq
 |[],A,n,aA,ak,eh,fA,S,g,Q,h,_=>⟨A,n,aA,ak,eh,fA,S,g,rfl,Q,h⟩
 |x::is,A,n,aA,ak,eh,fA,S,g,Q,h,b'=>by
  rw[ajW]at b';have k4:=zy (k:=k) ar;obtain⟨l,el,hm⟩:=Pk (ls:=(cY a k).map (eW me 0 st)) (by rw[ajE];exact k4) (x+c / 7);obtain⟨j,aZ,rfl⟩:=aks.mp hm;obtain⟨bj,B5⟩:=Lq (c / 19);have wY:bp S (bU (b2 8 (ab aL (I 6) (ab oMod (ab f7 (I 7) (ab eG (I 2) (aa (.int 7)))) (cE gq (U (I 6) aj))))) (gS i w c s3 s4 s5 ((cY a k).map (eW me 0 st)) (.v (.int x)) fA .e .e)) (.bh (gS i w c s3 s4 s5 ((cY a k).map (eW me 0 st)) (.v (.int x)) (.v (eW me 0 st j)) .e .e)) S:=
   (aJ.of (fL (bN (Kx el) rfl (bN (gH (by rw[ajE];omega)) (bN rfl rfl (bN (jr (hG (by decide) (by decide))) rfl rfl)) (iZ (vD _) rfl))))).to
  have oP:aY (ab (h6 false) (ab aL (I 8) (aa (.int 2))) (bA ti (U (ab eG (I 2) (aa (.int 19))) aj))) (gS i w c s3 s4 s5 ((cY a k).map (eW me 0 st)) (.v (.int x)) (.v (eW me 0 st j)) .e .e)=pure (bj.contains j):=dn (bN (vr j bj) rfl (call_of (rs:=[.v (.int (c / 19))]) (cons_of (bN (jr (hG (by decide) (by decide))) rfl rfl) rfl) B5))
  cases uF:bj.contains j with
  |false=>
   rw[uF]at oP;obtain⟨fa,c9,ir,dq,jH,m1,ai,g',t,r⟩:=A9 is A n aA ak (.v (.int x)) (.v (eW me 0 st j)) S g Q h (by omega);exact⟨fa,c9,ir,dq,jH,m1,ai,g',oe (ct wY (iG (PO (aJ.of oP).to) rfl)) t,r⟩
  |true=>
   rw[uF]at oP;obtain⟨S1,ek,bc,et,ee,Wh,gG,g1,t1,d6,ah,AX,z⟩:=Wf ar ax eF s0 Q (by omega) aZ h;obtain⟨fa,c9,ir,dq,jH,m1,ai,g',t,r⟩:=A9 is et ee Wh gG (.v (.int x)) (.v (eW me 0 st j)) bc g1 AX ah (by omega);exact⟨fa,c9,ir,dq,jH,m1,ai,g',oe (ct wY (iG (PQ (aJ.of oP).to (Au (x:=true) (Ar (agJ (rs:=[.v (.ref i),.v (.ref w),.v ek]) (PL (aJ.to (.of rfl)) (PL (aJ.to (.of rfl)) (agK (x_call (rs:=[.v (.ref b),.v (eW me 0 st j)]) (bS (e2 h.o rfl rfl) (.of rfl)) rfl t1) dM) rfl) rfl) rfl d6)))) rfl)) t,r⟩
variable{aA:List c2}{t:dp}(tok:fR (λ_=>False) W t)(k':t.c5=.aG){eX hJ hp:D}
include tok k'
theorem D3:∀(is:List Int)(A:b6)(n:dt)(ms:List Nat)(ak:jl)(eh fA ht:Slot)(S:cz)(g:Nat),nk a k W me bx st q m aA t ((cY a k).map (fC me 0 st (.tup [eX,hJ,hp,t.D]))) A n ms ak->dz S i g w b q m A (n.L b) aA ms ak->
  ∃fa c9 dr dq rS E8 ac1 ai g',bp S (kI (λd Y=>K_ (Y.set 7 (.v d))) (is.map D.int) (gS i w c s3 s4 s5 ((cY a k).map (eW me 0 st)) eh fA (.v (.lst ((cY a k).map (fC me 0 st (.tup [eX,hJ,hp,t.D]))))) ht)) (.bh (gS i w c s3 s4 s5 ((cY a k).map (eW me 0 st)) rS E8 (.v (.lst ((cY a k).map (fC me 0 st (.tup [eX,hJ,hp,t.D]))))) ac1)) ai/\nk a k W me bx st q m aA t ((cY a k).map (fC me 0 st (.tup [eX,hJ,hp,t.D]))) fa c9 dr dq/\dz ai i g' w b q m fa (c9.L b) aA dr dq
 |[],A,n,ms,ak,eh,fA,ht,S,g,cy,h=>⟨A,n,ms,ak,eh,fA,ht,S,g,rfl,cy,h⟩
 |x::is,A,n,ms,ak,eh,fA,ht,S,g,cy,h=>by
  have k4:=zy (k:=k) ar;obtain⟨l,el,hm⟩:=Pk (ls:=(cY a k).map (fC me 0 st (.tup [eX,hJ,hp,t.D]))) (by rw[ajE];exact k4) (x+c);obtain⟨j,aZ,rfl⟩:=aks.mp hm;obtain⟨bj,B5⟩:=Lq (c / 23);generalize j1:(cY a k).map (eW me 0 st)=L at *;generalize e1:(cY a k).map (fC me 0 st (.tup [eX,hJ,hp,t.D]))=T at *;have ahE:(0:Int)<(T.length:Nat):=by rw[<-e1,ajE];omega
  have wY:bp S (bU (b2 8 (ab aL (I 9) (ab oMod (ab f7 (I 7) (I 2)) (cE gq (U (I 9) aj))))) (gS i w c s3 s4 s5 L (.v (.int x)) fA (.v (.lst T)) ht)) (.bh (gS i w c s3 s4 s5 L (.v (.int x)) (.v (fC me 0 st (.tup [eX,hJ,hp,t.D]) j)) (.v (.lst T)) ht)) S:=
   (aJ.of (fL (bN (Kx el) rfl (bN (gH ahE) (bN rfl rfl rfl) (iZ (vD _) rfl))))).to
  have oP:aY (ab (h6 false) (ab aL (I 8) (aa (.int 2))) (bA ti (U (ab eG (I 2) (aa (.int 23))) aj))) (gS i w c s3 s4 s5 L (.v (.int x)) (.v (fC me 0 st (.tup [eX,hJ,hp,t.D]) j)) (.v (.lst T)) ht)=pure (bj.contains j):=dn (bN (vr j bj) rfl (call_of (rs:=[.v (.int (c / 23))]) (cons_of (bN (jr (hG (by decide) (by decide))) rfl rfl) rfl) B5))
  cases uF:bj.contains j with
  |false=>
   rw[uF]at oP;have a6:=D3 is A n ms ak (.v (.int x)) (.v (fC me 0 st (.tup [eX,hJ,hp,t.D]) j)) ht S g (by rw[e1];exact cy) h;rw[e1,j1]at a6;obtain⟨fa,c9,dr,dq,jH,m1,Fm,ai,g',t,r⟩:=a6;exact⟨fa,c9,dr,dq,jH,m1,Fm,ai,g',oe (ct wY (iG (aJ.of oP).to rfl)) t,r⟩
  |true=>
   rw[uF]at oP;obtain⟨pr,kp,v,aK,fh,C2⟩:=cy.cP.1 j;have zd:=cy.cP.2.len;have mK:=tr aZ;obtain⟨ek,gG,S1,t2,Qq,ae,again⟩:∃ek gG S1,bp S (lR [.ref b,fC me 0 st (.tup [eX,hJ,hp,t.D]) j]) (.v ek) S1/\nk a k W me bx st q m aA t T A n ms gG/\dz S1 i g w b q m A (n.L b) aA ms gG/\∀(S:cz)(A:b6)(n:dt)(ms:List Nat)(g:Nat),nk a k W me bx st q m aA t T A n ms gG->dz S i g w b q m A (n.L b) aA ms gG->∃ai fa c9 dr g',bp S (nQ [.ref i,.ref w,ek]) (.v (.aC true)) ai/\dz ai i g' w b q m fa (c9.L b) aA dr gG/\nk a k W me bx st q m aA t T fa c9 dr gG:=by
    cases hW:fw pr st with
    |true=>exact⟨_,ak,S,JW (me:=me) (b:=eX) (n:=hJ) (dd:=hp) (t:=t.D) aK h.o.cP hW,cy,h,λS A n ms g cy h=>aaa ar ax eF tok k' cy j pr h⟩| false=>exact⟨_,_,_,JV (me:=me) (b:=eX) (n:=hJ) (dd:=hp) (t:=t.D) aK h.o.cP (by omega) hW,⟨cy.pl,cy.nm,cy.nn,cy.er,cy.cP.put j mK (by omega) (.inr ⟨s0,t,rfl,tok,k'⟩),cy.ex,cy.kq,cy.dZ,cy.n1⟩,h.wA _,λS A n ms g cy h=>Z' ar ax eF tok k' cy aZ h⟩
   obtain⟨bc,se,dY,aam,g2,d6,ah,Ge⟩:=again _ _ _ _ _ Qq ae;have aeH:bp S (iF 10 (iV lR (e8 (U (ab cM (I 1) (aa (.str "books"))) (U (I 8) aj)))) (gS i w c s3 s4 s5 L (.v (.int x)) (.v (fC me 0 st (.tup [eX,hJ,hp,t.D]) j)) (.v (.lst T)) ht)) (.bh (gS i w c s3 s4 s5 L (.v (.int x)) (.v (fC me 0 st (.tup [eX,hJ,hp,t.D]) j)) (.v (.lst T)) (.v ek))) S1:=sa (x_call (rs:=[.v (.ref b),.v (fC me 0 st (.tup [eX,hJ,hp,t.D]) j)]) (bS (e2 h.o rfl rfl) (.of rfl)) rfl t2) rfl;have mN:bp S1 (d9 (pz (pA (iV nQ (e8 (U (I 0) (U (I 1) (U (I 10) aj))))))) (bU (bE (aa (.aC false)))) (bU cv) (gS i w c s3 s4 s5 L (.v (.int x)) (.v (fC me 0 st (.tup [eX,hJ,hp,t.D]) j)) (.v (.lst T)) (.v ek))) (.bh (gS i w c s3 s4 s5 L (.v (.int x)) (.v (fC me 0 st (.tup [eX,hJ,hp,t.D]) j)) (.v (.lst T)) (.v ek))) bc:=iG (Au (x:=true) (Ar (x_call (rs:=[.v (.ref i),.v (.ref w),.v ek]) (.of rfl) rfl d6))) rfl;have h_:aY (ab oEq (ab oMod (ab eG (I 2) (aa (.int 11))) (aa (.int 2))) (aa (.int 0))) (gS i w c s3 s4 s5 L (.v (.int x)) (.v (fC me 0 st (.tup [eX,hJ,hp,t.D]) j)) (.v (.lst T)) (.v ek))=pure (decide (c / 11 % 2=0)):=dn (bN mm (bN (gH (by decide)) (bN (jr (hG (by decide) (by decide))) rfl rfl) rfl) rfl);obtain⟨cO,sf,iS,ts,g3,t3,bF,A2⟩:∃cO sf iS ts g3,bp bc (d9 (sd (eR (aY (ab oEq (ab oMod (ab eG (I 2) (aa (.int 11))) (aa (.int 2))) (aa (.int 0))))) (pz (pA (iV nQ (e8 (U (I 0) (U (I 1) (U (I 10) aj)))))))) (bU (bE (aa (.aC false)))) (bU cv) (gS i w c s3 s4 s5 L (.v (.int x)) (.v (fC me 0 st (.tup [eX,hJ,hp,t.D]) j)) (.v (.lst T)) (.v ek))) (.bh (gS i w c s3 s4 s5 L (.v (.int x)) (.v (fC me 0 st (.tup [eX,hJ,hp,t.D]) j)) (.v (.lst T)) (.v ek))) cO/\dz cO i g3 w b q m sf (iS.L b) aA ts gG/\nk a k W me bx st q m aA t T sf iS ts gG:=by
    by_cases pZ:c / 11 % 2=0
    .rw[decide_eq_true pZ]at h_
     obtain⟨cO,sf,iS,ts,g3,t3,bF,A2⟩:=again _ _ _ _ _ Ge ah;exact⟨cO,sf,iS,ts,g3,iG (PQ (aJ.of h_).to (Au (x:=true) (Ar (x_call (rs:=[.v (.ref i),.v (.ref w),.v ek]) (.of rfl) rfl t3)))) rfl,bF,A2⟩
    .rw[decide_eq_false pZ]at h_
     exact⟨bc,se,dY,aam,g2,iG (PO (aJ.of h_).to) rfl,ah,Ge⟩
   have a6:=D3 is sf iS ts gG (.v (.int x)) (.v (fC me 0 st (.tup [eX,hJ,hp,t.D]) j)) (.v ek) cO g3 (by rw[e1];exact A2) bF;rw[e1,j1]at a6;obtain⟨fa,c9,dr,dq,jH,m1,Fm,ai,g',t,r⟩:=a6;exact⟨fa,c9,dr,dq,jH,m1,Fm,ai,g',oe (ct wY (hx (aJ.of oP).to (ct aeH (ct mN t3)))) t,r⟩
end
def AV(s:Int)(W:List (List Nat)):Prop:=∀j:Int,0<=j->j<3->∃a∈W,tl [.int (s+64*j)]=pure (.v (.str (cV a)))/\ui a
def aaG(s:Int):∃W:List (List Nat),W.length<59/\AV s W:=by
 obtain⟨xJ,eb,h0⟩:=DQ (s+64*0);obtain⟨a1,ao,ae⟩:=DQ (s+64*1);obtain⟨a2,az,ah⟩:=DQ (s+64*2);refine⟨[xJ,a1,a2],ajU rfl,λj aja ajb=>?_⟩;rcases(by omega:j=0\/j=1\/j=2)with rfl|rfl|rfl
 .exact⟨xJ,by simp,eb,h0⟩
 .exact⟨a1,by simp,ao,ae⟩
 .exact⟨a2,by simp,az,ah⟩
def ZJ{s:Int}(eF:AV s W)(c:Int):∃d:jO,vR [.int c,.int s]=pure (.v d.D)/\gm d/\qO (λ_=>False) W d/\P7 d.D:=by
 have bF:=mod_lt (a:=c / 6) (b:=3) (by decide);have aiZ:=mod_lt (a:=c / 6) (b:=10 ^ 40) (by decide);obtain⟨l,DE,ao,au⟩:=eF (c / 6 % 3) bF.1 bF.2;have TO:oj 64 (c / 6 % 3):=.inl ⟨by decide,by decide⟩;have xc:kP l:=⟨au.ok,au.p1,au.Ew⟩;have acz:ab nZ (aa (.int 10)) (aa (.int 40)) [.v (.int c),.v (.int s),.e]=pure (.v (.int (10 ^ 40))):=bN (EI ⟨by decide,by decide,by decide⟩ rfl) rfl rfl;have nm:∀x:Slot,bA tl (U (ab f7 (I 1) (ab wh (aa (.int 64)) (ab oMod (ab eG (I 0) (aa (.int 6))) (aa (.int 3))))) aj) [.v (.int c),.v (.int s),x]=pure (.v (.str (cV l))):=λx=>call_of (rs:=[.v (.int (s+64*(c / 6 % 3)))]) (cons_of (bN rfl rfl (bN (aar TO) rfl (bN (gH (by decide)) (bN (jr (hG (by decide) (by decide))) rfl rfl) rfl))) rfl) ao
 have cU:b2 2 (ab oMod (ab eG (I 0) (aa (.int 6))) (ab nZ (aa (.int 10)) (aa (.int 40)))) [.v (.int c),.v (.int s),.e]=pure (.bh [.v (.int c),.v (.int s),.v (.int (c / 6 % 10 ^ 40))]):=fL (bN (gH (by decide)) (bN (jr (hG (by decide) (by decide))) rfl rfl) acz);generalize c / 6 % 10 ^ 40=X at *;obtain⟨n,aH,az⟩:∃n:Int,(-(10 ^ 60)<n/\n<10 ^ 60)/\G9 [.v (.int c),.v (.int s),.v (.int X)]=G_ [.v (.int c),.v (.int s),.v (.int n)]:=by
  by_cases q:c % 5=0
  .exact⟨0-X,by omega,ei ((k2 (dn (bN (mm.trans (by rw[decide_eq_true q])) (bN (gH (by decide)) rfl rfl) rfl))).trans (fL rfl))⟩
  .exact⟨X,by omega,jF (dn (bN (mm.trans (by rw[decide_eq_false q])) (bN (gH (by decide)) rfl rfl) rfl))⟩
 have cG:∀w:Str,e_ [D.str "put",.str "add",.str "add"] (c % 3)=some (.str w)->vR [.int c,.int s]=pure (.v (.tup [.str w,.str (cV l),.int n])):=λw sH=>
  i1 rfl ((ei cU).trans (az.trans (jA (Ph (bN (Kw sH) (rA rfl rfl (ajU rfl)) (bN (gH (by decide)) rfl rfl)) (nm _) rfl))))
 have ki:=mod_lt (a:=c) (b:=3) (by decide);rcases(by omega:c % 3=0\/c % 3=1\/c % 3=2)with h|h|h
 .exact⟨.put l n,cG "put" (by rw[h];rfl),.inl ⟨l,n,rfl⟩,⟨xc,DE⟩,⟨"put",l,n,rfl,VT,au,aH⟩⟩
 .exact⟨.add l n,cG "add" (by rw[h];rfl),.inr ⟨l,n,rfl⟩,⟨xc,DE⟩,⟨"add",l,n,rfl,I_,au,aH⟩⟩
 .exact⟨.add l n,cG "add" (by rw[h];rfl),.inr ⟨l,n,rfl⟩,⟨xc,DE⟩,⟨"add",l,n,rfl,I_,au,aH⟩⟩
structure ot(a k:aP)(W:List (List Nat))(me:Int)(A:b6)(n:dt)(ak:jl):Prop where
 pl:n.pl=dW a k
 nm:n.me=me
 er:0<=n.er
 cP:jM ni W ak
 ex:∃a4 st cR bK aA cJ c1,A=dO me (b0 a k) a4 st cR bK aA cJ c1 n.bx/\0<=a4/\n.c0=cR/\(cR="calm"\/(cR="asking"\/cR="telling")/\bK=.aG)
section
variable{a k:aP}(ar:Good a)(ax:Good k){W:List (List Nat)}(eF:W.length<59){me seed:Int}(m0:0<=me)(kq:me<6)(cX:AV seed W)
include ar ax eF m0 kq cX
theorem agn(h:gn S i g w b A (n.L b) ak)(v:ot a k W me A n ak)(c:Int) :
  ∃c9 dq s5 ai,bp S (d9 (eR (aY (ab oEq (ab oMod (I 2) (aa (.int 2))) (aa (.int 0))))) (bI (ie (I 1) (aa (.str "turn")) (cS (ab f7 (ab cM (I 1) (aa (.str "turn"))) (aa (.int 1)))))
  (bI (bU (b2 5 (ab oMod (ab f7 (ab f7 (ab cM (I 1) (aa (.str "me"))) (aa (.int 1))) (ab oMod (ab eG (I 2) (aa (.int 2))) (aa (.int 5)))) (aa (.int 6)))))
  (lh (iV vS (e8 (U (ab cM (I 1) (aa (.str "books"))) (U (I 4) (U (I 5) (U (ab cM (I 1) (aa (.str "turn"))) (U (bA vR (U (ab oMod (ab eG (I 2) (aa (.int 10))) (ab nZ (aa (.int 10)) (aa (.int 45)))) (U (I 3) aj))) (U (ab eG (I 2) (aa (.int 10))) aj))))))))))) (bU cv) [.v (.ref i),.v (.ref w),.v (.int c),.v (.int seed),.v (dW a k),.e,.e,.e,.e,.e,.e]) (.bh [.v (.ref i),.v (.ref w),.v (.int c),.v (.int seed),.v (dW a k),s5,.e,.e,.e,.e,.e]) ai/\gn ai i g w b A (c9.L b) dq/\ot a k W me A c9 dq:=by
 have h_:aY (ab oEq (ab oMod (I 2) (aa (.int 2))) (aa (.int 0))) [.v (.ref i),.v (.ref w),.v (.int c),.v (.int seed),.v (dW a k),.e,.e,.e,.e,.e,.e]=pure (decide (c % 2=0)):=dn (bN mm (bN (gH (by decide)) rfl rfl) rfl)
 by_cases pZ:c % 2=0
 .rw[decide_eq_true pZ]at h_
  have Jm:=mod_lt (a:=me+1+c / 2 % 5) (b:=6) (by decide);have zd:=v.cP.2.len;have t0:=v.er;obtain⟨d',d4,My,va,_⟩:=ZJ cX (c / 10 % 10 ^ 45);have p1:=lT (k:=1) (Y:=[.v (.ref i),.v (.ref w),.v (.int c),.v (.int seed),.v (dW a k),.e,.e,.e,.e,.e,.e]) (mv:=ab f7 (ab cM (I 1) (aa (.str "turn"))) (aa (.int 1))) (x:=.v (.int (n.er+1))) h rfl (cH (x:=.v (.int n.er)) rfl (e2 h rfl rfl) (.of rfl)) rfl (acy n b (n.er+1));have ae:=h.put (L':=dt.L { n with er:=n.er+1 } b) (iR _ _);have qA:aJ (S.set w (.dS (dt.L { n with er:=n.er+1 } b))) (b2 5 (ab oMod (ab f7 (ab f7 (ab cM (I 1) (aa (.str "me"))) (aa (.int 1))) (ab oMod (ab eG (I 2) (aa (.int 2))) (aa (.int 5)))) (aa (.int 6))) [.v (.ref i),.v (.ref w),.v (.int c),.v (.int seed),.v (dW a k),.e,.e,.e,.e,.e,.e]) (.bh [.v (.ref i),.v (.ref w),.v (.int c),.v (.int seed),.v (dW a k),.v (.int ((me+1+c / 2 % 5) % 6)),.e,.e,.e,.e,.e]):=
   lP (r:=.v (.int ((me+1+c / 2 % 5) % 6))) (cH (gH (by decide)) (cH (x:=.v (.int (me+1))) rfl (cH (x:=.v (.int me)) rfl (e2 ae rfl (by rw[<-v.nm];rfl)) (.of rfl)) (.of (bN (gH (by decide)) (bN (jr (hG (by decide) (by decide))) rfl rfl) rfl))) (.of rfl)) rfl
  obtain⟨dq,e,af,_⟩:=ZM ar ax eF ae.cP v.cP (by omega) Jm.1 Jm.2 (n:=n.er+1) (by omega) My va (c / 10) rfl (λt p=>p) (λt ok p=>Vo p _ _ My);refine⟨{ n with er:=n.er+1 },dq,_,_,hx (aJ.of h_).to (ct p1 (ct qA.to (As (x_call (rs:=[.v (.ref b),.v (dW a k),.v (.int ((me+1+c / 2 % 5) % 6)),.v (.int (n.er+1)),.v d'.D,.v (.int (c / 10))]) ?_ rfl e)))),ae.wA dq,v.pl,v.nm,by show 0<=n.er+1;omega,af,v.ex⟩;exact bS (e2 ae rfl rfl) (bS (.of rfl) (bS (.of rfl) (bS (e2 ae rfl rfl) (bS (.of (call_of (rs:=[.v (.int (c / 10 % 10 ^ 45)),.v (.int seed)]) (cons_of (bN (gH (by decide)) (bN (jr (hG (by decide) (by decide))) rfl rfl) (bN (EI ⟨by decide,by decide,by decide⟩ rfl) rfl rfl)) rfl) d4)) (bS (.of (bN (jr (hG (by decide) (by decide))) rfl rfl)) dM)))))
 .rw[decide_eq_false pZ]at h_
  exact⟨n,ak,_,S,iG (aJ.of h_).to rfl,h,v⟩
theorem agl(h:gn S i g w b A (n.L b) ak)(v:ot a k W me A n ak)(c:Int)(s3 s4 s5:Slot) :
  ∃a4 cJ c1 Mk g1 S1,0<=a4/\bp S (d9 (eR (aY (ab ef (ab cM (I 1) (aa (.str "stand"))) (aa (.str "calm"))))) (iF 6 (fD "Asker" "bell" zo (I 0) m4)) (d9 (eR (aY (ab oEq (ab oMod (I 2) (aa (.int 3))) (aa (.int 0))))) (iF 6 (fD "Asker" "begin" rD (I 0) (e8 (U (aa .aG) aj)))) (iF 6 (fD "Asker" "begin" rD (I 0) (e8 (U (aa (.aG)) aj))))) [.v (.ref i),.v (.ref w),.v (.int c),s3,s4,s5,.e,.e,.e,.e,.e]) (.bh (gS i w c s3 s4 s5 ((cY a k).map (eW me 0 (a4+1,me))) .e .e .e .e)) S1/\gn S1 i g1 w b (dO me (b0 a k) (a4+1) (a4+1,me) "asking" .aG [] cJ c1 Mk) (n.L b) ak/\
   ∀Y:aR,I 1 Y=pure (.v (.ref w))->aJ S1 (ab f7 (ab cM (I 1) (aa (.str "number"))) (cE uQ (U (ab oEq (ab cM (I 1) (aa (.str "stand"))) (aa (.str "calm"))) aj)) Y) (.v (.int Mk)):=by
 obtain⟨a4,st,cR,bK,aA,cJ,c1,rfl,n4,ay,n1⟩:=v.ex;rcases n1 with rfl|⟨tS,rfl⟩
 .obtain⟨S1,g1,t1,s1⟩:=S4 (a:=dO me (b0 a k) a4 st "calm" bK aA cJ c1 n.bx) (D7 ar ax) (nU a k) rfl rfl _ _ _ h.ey
  have ae:=h.step s1;have h_:aJ S (aY (ab ef (ab cM (I 1) (aa (.str "stand"))) (aa (.str "calm"))) [.v (.ref i),.v (.ref w),.v (.int c),s3,s4,s5,.e,.e,.e,.e,.e]) false:=de (cH (by rw[ay,Fi kz kz,beq_self_eq_true];rfl) (e2 (d:=.str n.c0) h rfl rfl) (.of rfl));have Ag:aY (ab oEq (ab oMod (I 2) (aa (.int 3))) (aa (.int 0))) [.v (.ref i),.v (.ref w),.v (.int c),s3,s4,s5,.e,.e,.e,.e,.e]=pure (decide (c % 3=0)):=dn (bN mm (bN (gH (by decide)) rfl rfl) rfl);have HQ:bp S (iF 6 (fD "Asker" "begin" rD (I 0) (e8 (U (aa .aG) aj))) [.v (.ref i),.v (.ref w),.v (.int c),s3,s4,s5,.e,.e,.e,.e,.e]) (.bh (gS i w c s3 s4 s5 ((cY a k).map (eW me 0 (a4+1,me))) .e .e .e .e)) S1:=sa (t8 h.ey.bD (.of rfl) rfl (rs:=[.v .aG]) (aJ.to (.of rfl)) rfl t1) rfl;refine⟨a4,cJ,c1,n.bx+1,g1,S1,n4,iG h_.to ?_,ae,λY e=>cH (y:=.v (.int 1)) rfl (e2 (d:=.int n.bx) ae e rfl) (vx (rs:=[.v (.aC true)]) rfl (bS (cH (by rw[ay,fM kz kz,beq_self_eq_true]) (e2 (d:=.str n.c0) ae e rfl) (.of rfl)) dM))⟩
  by_cases pZ:c % 3=0
  .rw[decide_eq_true pZ]at Ag;exact hx (aJ.of Ag).to HQ
  .rw[decide_eq_false pZ]at Ag;exact iG (aJ.of Ag).to HQ
 .have tT:cR≠"calm":=by rcases tS with rfl|rfl<;>decide
  have OJ:aj2 cR=true:=by rcases tS with rfl|rfl<;>decide +kernel
  obtain⟨S1,g1,t1,s1⟩:=S5 (a:=dO me (b0 a k) a4 st cR .aG aA cJ c1 n.bx) (D7 ar ax) (nU a k) (.inr tS) tT _ _ _ h.ey;have ae:=h.step s1;have h_:aJ S (aY (ab ef (ab cM (I 1) (aa (.str "stand"))) (aa (.str "calm"))) [.v (.ref i),.v (.ref w),.v (.int c),s3,s4,s5,.e,.e,.e,.e,.e]) true:=de (cH (by rw[ay,Fi OJ kz,show(cR == "calm")=false by simpa using tT];rfl) (e2 (d:=.str n.c0) h rfl rfl) (.of rfl));exact⟨a4,cJ,c1,n.bx,g1,S1,n4,hx h_.to (sa (t8 h.ey.bD (.of rfl) rfl (rs:=[]) rfl rfl t1) rfl),ae,λY e=>cH (x:=.v (.int n.bx)) (y:=.v (.int 0)) (by show pure (R.v (.int (n.bx+0)))=_;rw[Int.add_zero]) (e2 (d:=.int n.bx) ae e rfl) (vx (rs:=[.v (.aC false)]) rfl (bS (cH (by rw[ay,fM OJ kz,show(cR == "calm")=false by simpa using tT]) (e2 (d:=.str n.c0) ae e rfl) (.of rfl)) dM))⟩
theorem agm(h:gn S i g w b A (n.L b) ak)(v:ot a k W me A n ak)(c:Int) :
  ∃ai fa c9 dq g',bp S (vU [.ref i,.ref w,.int c,.int seed]) (.v (.aC true)) ai/\gn ai i g' w b fa (c9.L b) dq/\ot a k W me fa c9 dq:=by
 have rX:bp S (bU (b2 4 (ab cM (I 1) (aa (.str "place")))) [.v (.ref i),.v (.ref w),.v (.int c),.v (.int seed),.e,.e,.e,.e,.e,.e,.e]) (.bh [.v (.ref i),.v (.ref w),.v (.int c),.v (.int seed),.v (dW a k),.e,.e,.e,.e,.e,.e]) S:=aJ.to (lP (e2 h rfl (by rw[<-v.pl];rfl)) rfl);obtain⟨ee,gG,s5,S1,t1,ae,v1⟩:=agn ar ax eF m0 kq cX h v c;obtain⟨a4,cJ,c1,bx,g2,bc,n4,d6,ah,nb⟩:=agl ar ax eF m0 kq cX ae v1 c (.v (.int seed)) (.v (dW a k)) s5;generalize nF:dO me (b0 a k) (a4+1) (a4+1,me) "asking" .aG [] cJ c1 bx=se at *;generalize vn:((gS i w c (.v (.int seed)) (.v (dW a k)) s5 ((cY a k).map (eW me 0 (a4+1,me))) .e .e .e .e):aR)=Y;have v0:I 0 Y=pure (.v (.ref i)):=by rw[<-vn];rfl
 have cc:I 1 Y=pure (.v (.ref w)):=by rw[<-vn];rfl
 have Eu:=lT (k:=1) ah cc (nb Y cc) rfl (acv ee b bx);have bF:=ah.put (L':=dt.L { ee with bx:=bx } b) (iR _ _);have abA:=lT (k:=1) (Y:=Y) (mv:=aa (.str "asking")) bF cc (.of rfl) rfl (zX { ee with bx:=bx } b "asking");have dw:=bF.put (L':=dt.L { ee with bx:=bx,c0:="asking" } b) (iR _ _);have abB:=lT (k:=1) (Y:=Y) (mv:=aa (.aG)) dw cc (.of rfl) rfl (EO { ee with bx:=bx,c0:="asking" } b .aG);have eO:=dw.put (L':=dt.L { ee with bx:=bx,c0:="asking",bK:=.aG } b) (iR _ _);generalize((bc.set w (fQ.dS (dt.L { ee with bx:=bx } b))).set w (fQ.dS (dt.L { ee with bx:=bx,c0:="asking" } b))).set w (fQ.dS (dt.L { ee with bx:=bx,c0:="asking",bK:=.aG } b))=gd at *;generalize J4:({ ee with bx:=bx,c0:="asking",bK:=.aG }:dt)=mP at *;have abC:=L3 (k:=1) (Y:=Y) (f:="grants") eO cc rfl;have lw:=tb eO.dS;have s':=tb eO.ey.ls;obtain⟨MA,zT,MM⟩:=acu mP b gd.length (gd.length+1);have fZ:=(eO.app (.lst [])).put zT;have ET:((gd++[fQ.lst []]).set w (.dS (dE (mP.L b) (.inr "grants") (.ref gd.length))))[gd.length]? = some (.lst []):=by rw[ajX (by omega)];exact Cz
 have xi:((gd++[fQ.lst []]).set w (.dS (dE (mP.L b) (.inr "grants") (.ref gd.length)))).length=gd.length+1:=by rw[akI,ajQ];rfl
 generalize(gd++[fQ.lst []]).set w (.dS (dE (mP.L b) (.inr "grants") (.ref gd.length)))=ke at *;have abD:=L3 (k:=1) (Y:=Y) (f:="marks") fZ cc rfl;rw[<-xi]at MM MA;have yF:=(fZ.app (.lst [])).put MM;have n3:((ke++[fQ.lst []]).set w (.dS (dE (dE (mP.L b) (.inr "grants") (.ref gd.length)) (.inr "marks") (.ref ke.length))))[gd.length]? = some (.lst []):=by rw[ajX (by omega)];exact Fr.app (W:=[]) _ _ alc ET
 have wM:((ke++[fQ.lst []]).set w (.dS (dE (dE (mP.L b) (.inr "grants") (.ref gd.length)) (.inr "marks") (.ref ke.length))))[ke.length]? = some (.lst []):=by rw[ajX (by omega)];exact Cz
 generalize(ke++[fQ.lst []]).set w (.dS (dE (dE (mP.L b) (.inr "grants") (.ref gd.length)) (.inr "marks") (.ref ke.length)))=Qm at *;have Ew:=lT (k:=1) (Y:=Y) (mv:=dJ aj) (x:=.fr []) yF cc (.of rfl) rfl MA;have u2:dz _ i g2 w b gd.length ke.length se _ [] [] gG:=dz.put (L':=dt.L { mP with ex:=some ⟨gd.length,ke.length,[],nq.n8 mP.ex⟩ } b) ⟨yF,n3,wM,by omega,by omega,by omega⟩ (iR _ _);generalize J5:({ mP with ex:=some ⟨gd.length,ke.length,[],nq.n8 mP.ex⟩ }:dt)=v9 at *;generalize Qm.set w (.dS (v9.L b))=xG at *;have Q:so a k W me bx (a4+1,me) gd.length ke.length se v9 [] gG:=by
  rw[<-J5,<-J4,<-nF];exact⟨v1.pl,v1.nm,rfl,v1.er,v1.cP,λ_ h=>(nomatch h),λ_ h=>(nomatch h),.inl ⟨a4+1,cJ,c1,_,rfl,anv _,rfl,rfl,rfl⟩⟩
 have c0:Std se v9:=by
  rw[<-J5,<-J4,<-nF];exact n9 ar ax v1.pl rfl rfl rfl qu mQ
 have aaH:v9.me=me:=Q.nm;have s0:1<=((a4+1,me):du).1:=by show 1<=a4+1;omega
 have vI:=nU a k;have hu:=same_refl 13 _ (aaZ me (a4+1,me) vI);have QG:=Lg ar ax me (a4+1,me);have aeI:bp xG (bU (dg (iC (gg (aY (bA (i_ 14) (U (I 6) (U (bA vP (U (ab cM (I 1) (aa (.str "me"))) (U (I 4) (U (jq "Asker" "stamp" DZ (I 0) aj) aj)))) aj))))) (gg (aY (bA tn (U (I 0) (U (I 1) aj)))))) (bE (aa (.aC false))) cv) Y) (.bh Y) xG:=by
  rw[<-vn];exact aJ.to (y6 (vB (qi (de (fW (rs:=[.v (.lst ((cY a k).map (eW me 0 (a4+1,me)))),.fr ((cY a k).map (eW me 0 (a4+1,me)))]) (bS (.of rfl) (bS (fW (rs:=[.v (.int me),.v (dW a k),.v (b8 (a4+1,me))]) (bS (e2 u2.o rfl (by rw[<-aaH];rfl)) (bS (.of rfl) (bS (xK (v:=b8 (a4+1,me)) u2.o.ey rfl rfl (by rw[<-nF];rfl) rfl) dM))) (.of QG)) dM)) (.of hu)))) (qi (de (fW (rs:=[.v (.ref i),.v (.ref w)]) (.of rfl) (Fg u2.o c0))))) (.of rfl))
 have p4:kC 0 (cY a k).length=((aj6 (cY a k).length).map λj:Nat=>(0+(j:Int))).map D.int:=by unfold kC;rw[alF];rfl
 obtain⟨xm,rG,Js,zc,jH,m1,AZ,Jc,OZ,jm,CL⟩:=A9 ar ax eF s0 c (.v (.int seed)) (.v (dW a k)) s5 ((aj6 (cY a k).length).map λj:Nat=>(0+(j:Int))) se v9 [] gG .e .e xG g2 Q u2 (by rw[ajE,amP];show 0+_ < _;omega);rw[<-p4]at OZ;have YX:∀S:cz,aJ S (j5 (U (cE gq (U (I 6) aj)) aj) (gS i w c (.v (.int seed)) (.v (dW a k)) s5 ((cY a k).map (eW me 0 (a4+1,me))) .e .e .e .e)) (kC 0 (cY a k).length):=λS=>.of (EU (z:=(cY a k).length) (cons_of (iZ (by rw[vD,ajE]) rfl) rfl) (by omega))
 have pre:∀{ai:cz}{T:List D},hq (rG.L b) (.inr "tells")=some (.lst T)->bp AZ (Hw (gS i w c (.v (.int seed)) (.v (dW a k)) s5 ((cY a k).map (eW me 0 (a4+1,me))) jH m1 (.v (.lst T)) .e)) (.cQ (.v (.aC true))) ai->bp S (vU [.ref i,.ref w,.int c,.int seed]) (.v (.aC true)) ai:=λ{ai T} Vw z=>by
  have Vu:bp xG (Hv Y) (.cQ (.v (.aC true))) ai:=by
   rw[<-vn];exact ct (t7 (YX _) OZ) (ct (Y':=(gS i w c (.v (.int seed)) (.v (dW a k)) s5 ((cY a k).map (eW me 0 (a4+1,me))) jH m1 (.v (.lst T)) .e)) (aJ.to (lP (e2 CL.o rfl Vw) rfl)) z)
  have cG:bp bc (Hx Y) (.cQ (.v (.aC true))) ai:=ct Eu (ct abA (ct abB (ct abC (ct abD (ct Ew (ct aeI Vu))))));rw[<-vn]at cG;exact qM rfl (ct rX (ct t1 (ct d6 cG)))
 have nil:rG.ex=some ⟨gd.length,ke.length,[],nq.n8 rG.ex⟩->ot a k W me xm rG zc->∃ai fa c9 dq g',bp S (vU [.ref i,.ref w,.int c,.int seed]) (.v (.aC true)) ai/\gn ai i g' w b fa (c9.L b) dq/\ot a k W me fa c9 dq:=λag pv=>⟨AZ,xm,rG,zc,Jc,pre (CA ag) (ct (t7 (ds:=[]) (.of (EU (z:=0) (cons_of (iZ (vD _) rfl) rfl) (by omega))) rfl) rfl),CL.o,pv⟩
 rcases jm.n1 with⟨rR,ZA,aft,aet,e6,aB,ao,az,ag⟩|⟨rR,t,e6,aB,ao,az,ag,tok,k'⟩|⟨rR,ZA,aft,ajh,aet,e6,aB,ao,az,ag,gP⟩
 .exact nil (by rw[ag];rfl) ⟨jm.pl,jm.nm,jm.er,jm.cP,rR,_,_,_,_,_,_,by rw[jm.nn];exact e6,by have:a4+1<=rR:=aB;omega,ao,.inr ⟨.inl rfl,rfl⟩⟩
 .have cy:nk a k W me bx (a4+1,me) gd.length ke.length Js t (lA a k me (a4+1,me) bx Js t) xm rG [] zc:=⟨jm.pl,jm.nm,jm.nn,jm.er,jm.cP,ag,λ_ h=>(nomatch h),amr,.inl ⟨I1 k ax.1,rR,aB,e6,ao,az⟩⟩
  obtain⟨fa,c9,dr,dq,aju,ajv,ajt,ai,g',tt,qW,h'⟩:=D3 ar ax eF s0 c (.v (.int seed)) (.v (dW a k)) s5 tok k' ((aj6 (cY a k).length).map λj:Nat=>(0+(j:Int))) xm rG [] zc jH m1 .e AZ Jc cy CL;rw[<-p4]at tt;refine⟨ai,fa,c9,dq,g',pre (CA ag) (ct (t7 (.of (EU (z:=(cY a k).length) (cons_of (iZ (by rw[vD];unfold lA;rw[ajE]) rfl) rfl) (by omega))) tt) rfl),h'.o,qW.pl,qW.nm,qW.er,qW.cP,?_⟩;rcases qW.n1 with⟨_,wN,C8,BZ,BX,BY⟩|⟨wN,ajc,C8,BZ,BX,BY⟩
  .exact⟨wN,_,_,_,_,_,_,by rw[qW.nn];exact BZ,by have:a4+1<=wN:=C8;omega,BX,.inr ⟨.inr rfl,rfl⟩⟩
  .exact⟨wN,_,_,_,_,_,_,by rw[qW.nn];exact BZ,by have:a4+1<=wN:=C8;omega,BX,.inl rfl⟩
 .exact nil (by rw[ag];rfl) ⟨jm.pl,jm.nm,jm.er,jm.cP,rR,_,_,_,_,_,_,by rw[jm.nn];exact e6,by have:a4+1<=rR:=aB;omega,ao,.inl rfl⟩
theorem PG(s0 s1 s2 s4:Slot):∀(cs:List Int)(eh:Slot)(A:b6)(n:dt)(ak:jl)(S:cz)(g:Nat),gn S i g w b A (n.L b) ak->ot a k W me A n ak->∃rS ai,bp S (kI (λd Y=>K6 (Y.set 7 (.v d))) (cs.map D.int) [s0,s1,s2,.v (.int seed),s4,.v (.ref w),.v (.ref i),eh]) (.bh [s0,s1,s2,.v (.int seed),s4,.v (.ref w),.v (.ref i),rS]) ai
 |[],eh,A,n,ak,S,g,h,v=>⟨eh,S,rfl⟩
 |x::cs,eh,A,n,ak,S,g,h,v=>by
  obtain⟨S1,et,ee,gG,g1,t1,ae,v1⟩:=agm ar ax eF m0 kq cX h v (x % 10 ^ 60);obtain⟨rS,bc,d6⟩:=PG s0 s1 s2 s4 cs (.v (.int x)) et ee gG S1 g1 ae v1;exact⟨rS,bc,oe (iG (Au (x:=true) (Ar (x_call (rs:=[.v (.ref i),.v (.ref w),.v (.int (x % 10 ^ 60)),.v (.int seed)]) (.of (cons_of rfl (cons_of rfl (cons_of (bN (gH (by decide)) rfl (bN (EI ⟨by decide,by decide,by decide⟩ rfl) rfl rfl)) (cons_of rfl rfl))))) rfl t1))) rfl) d6⟩
end
def T2(ns:List Int)(a b:Nat):∃ms:List Int,cutD (ns.map D.int) (some (a:Int)) (some (b:Int))=ms.map D.int:=by
 unfold cutD;rw[ej.Nr,ej.Nr,<-List.map_drop,<-List.map_take];exact⟨_,rfl⟩
def ZP(ns:List Int)(aH:ns.length<=63):∃ai,(D0 [.lst (ns.map D.int)]).run []=.ok (.v (.aC true)) ai:=by
 obtain⟨a,k,q7,ar,ax⟩:=ZN (ns.getD 0 0 % 600);have J3:=mod_lt (a:=ns.getD 1 0) (b:=6) (by decide);obtain⟨W,eF,cX⟩:=aaG (ns.getD 2 0 % 512);obtain⟨cs,ml⟩:=T2 ns 3 23;have Bw:=BF ns 0;have bQ:=BF ns 1;have Tg:=BF ns 2;have ao:b2 1 (bA vT (U (ab oMod (bA oZ (U (I 0) (U (aa (.int 0)) aj))) (aa (.int 600))) aj)) [.cc (ns.map D.int),.e,.e,.e,.e,.e,.e,.e]=pure (.bh [.cc (ns.map D.int),.v (b0 a k),.e,.e,.e,.e,.e,.e]):=
  fL (call_of (rs:=[.v (.int (ns.getD 0 0 % 600))]) (cons_of (bN (gH (by decide)) (call_of (rs:=[.cc (ns.map D.int),.v (.int 0)]) rfl Bw) rfl) rfl) q7)
 have az:b2 2 (ab oMod (bA oZ (U (I 0) (U (aa (.int 1)) aj))) (aa (.int 6))) [.cc (ns.map D.int),.v (b0 a k),.e,.e,.e,.e,.e,.e]=pure (.bh [.cc (ns.map D.int),.v (b0 a k),.v (.int (ns.getD 1 0 % 6)),.e,.e,.e,.e,.e]):=
  fL (bN (gH (by decide)) (call_of (rs:=[.cc (ns.map D.int),.v (.int 1)]) rfl bQ) rfl)
 have cG:∀d6:Slot,b2 3 (ab oMod (bA oZ (U (I 0) (U (aa (.int 2)) aj))) (aa (.int 512))) [.cc (ns.map D.int),.v (b0 a k),d6,.e,.e,.e,.e,.e]=pure (.bh [.cc (ns.map D.int),.v (b0 a k),d6,.v (.int (ns.getD 2 0 % 512)),.e,.e,.e,.e]):=λ_=>
  fL (bN (gH (by decide)) (call_of (rs:=[.cc (ns.map D.int),.v (.int 2)]) rfl Tg) rfl)
 generalize ns.getD 1 0 % 6=me at *;generalize ns.getD 2 0 % 512=seed at *;obtain⟨S1,t1,ae,_,f1⟩:=YO [.eZ [],.dS (dt.L ⟨me,dW a k,0,0,"calm",.aG,none⟩ 0)] me (b0 a k) rfl;have h0:gn S1 2 3 1 0 (zE me (b0 a k)) (dt.L ⟨me,dW a k,0,0,"calm",.aG,none⟩ 0) []:=⟨ae,f1 1 _ alc rfl,f1 0 _ alc rfl,iR _ _⟩;have v0:ot a k W me (zE me (b0 a k)) ⟨me,dW a k,0,0,"calm",.aG,none⟩ []:=⟨rfl,rfl,anv _,.nil _ _,_,_,_,_,_,_,_,rfl,anv _,rfl,.inl rfl⟩;obtain⟨eh,ai,el⟩:=PG ar ax eF J3.1 J3.2 cX (.cc (ns.map D.int)) (.v (b0 a k)) (.v (.int me)) (.v (dW a k)) cs .e _ _ _ _ _ h0 v0;rw[<-ml]at el;have lG:bp [] (iF 5 (Aq [.inr "me",.inr "place",.inr "books",.inr "number",.inr "turn",.inr "stand",.inr "outcome"] (ic (cS (I 2)) (ic (cS (I 4)) (ic (xe (.eZ [])) (ic (cS (aa (.int 0))) (ic (cS (aa (.int 0))) (ic (cS (aa (.str "calm"))) (ic (cS (aa (.aG))) m4)))))))) [.cc (ns.map D.int),.v (b0 a k),.v (.int me),.v (.int seed),.v (dW a k),.e,.e,.e]) (.bh [.cc (ns.map D.int),.v (b0 a k),.v (.int me),.v (.int seed),.v (dW a k),.v (.ref 1),.e,.e]) [.eZ [],.dS (dt.L ⟨me,dW a k,0,0,"calm",.aG,none⟩ 0)]:=rfl;have oy:bp [.eZ [],.dS (dt.L ⟨me,dW a k,0,0,"calm",.aG,none⟩ 0)] (iF 6 (xg "Asker" zl (e8 (U (I 2) (U (I 1) aj)))) [.cc (ns.map D.int),.v (b0 a k),.v (.int me),.v (.int seed),.v (dW a k),.v (.ref 1),.e,.e]) (.bh [.cc (ns.map D.int),.v (b0 a k),.v (.int me),.v (.int seed),.v (dW a k),.v (.ref 1),.v (.ref 2),.e]) S1:=sa (agM (rs:=[.v (.int me),.v (b0 a k)]) (.of rfl) rfl t1) rfl;refine⟨ai,qM rfl ?_⟩;exact ct (aJ.of ao).to<|ct (aJ.of az).to<|ct (aJ.of (cG _)).to<|ct (aJ.of (fL (d:=dW a k) rfl)).to<|ct lG<|ct oy<|
  ct (t7 (Dw (.of (show x' (I 0) (sD (aa (.int 3))) (sD (aa (.int 23))) _=pure (.fr (cutD (ns.map D.int) (some 3) (some 23)))from rfl))) el) rfl
end fb
namespace PySem.W.Fast
noncomputable def tw9072117966115860481:List PySem.Stmt:=(PySem.Challenge.pw_oneslate_k35_a_glance.main.body.drop 78).take 1
theorem te9072117966115860481:tw9072117966115860481=tw9072117966115860481:=rfl
noncomputable def tw17414150641990187426:List PySem.Stmt:=(PySem.Challenge.pw_oneslate_k35_a_glance.main.body.drop 12).take 2
theorem te17414150641990187426:tw17414150641990187426=tw17414150641990187426:=rfl
noncomputable def tw14436976216193562274:List PySem.Stmt:=(PySem.Challenge.pw_oneslate_k35_a_glance.main.body.drop 92).take 10
theorem te14436976216193562274:tw14436976216193562274=tw14436976216193562274:=rfl
noncomputable def tw11562954194533314245:List PySem.Stmt:=(PySem.Challenge.pw_oneslate_k35_a_glance.main.body.drop 40).take 9
theorem te11562954194533314245:tw11562954194533314245=tw11562954194533314245:=rfl
noncomputable def tw17812996373576269541:List PySem.Stmt:=(PySem.Challenge.pw_oneslate_k35_a_glance.main.body.drop 79).take 13
theorem te17812996373576269541:tw17812996373576269541=tw17812996373576269541:=rfl
noncomputable def tw6730573918315573318:List PySem.Stmt:=(PySem.Challenge.pw_oneslate_k35_a_glance.main.body.drop 15).take 10
theorem te6730573918315573318:tw6730573918315573318=tw6730573918315573318:=rfl
noncomputable def tw18200566492019109031:List PySem.Stmt:=(PySem.Challenge.pw_oneslate_k35_a_glance.main.body.drop 0).take 12
theorem te18200566492019109031:tw18200566492019109031=tw18200566492019109031:=rfl
noncomputable def tw16903678570721031530:List PySem.Stmt:=(PySem.Challenge.pw_oneslate_k35_a_glance.main.body.drop 25).take 15
theorem te16903678570721031530:tw16903678570721031530=tw16903678570721031530:=rfl
noncomputable def tw5383291863922769131:PySem.Program:={PySem.Challenge.pw_oneslate_k35_a_glance with main:={PySem.Challenge.pw_oneslate_k35_a_glance.main with body:=([0,2,3,4,5,6,8,9,10,12,13,14,15,17,18,19,20,21,22,23,24,25,26,27,28,29,30,32,33,34,35,36,38,39,40,41,42,43,44,45,46,48,49,50,51,52,53,54,55,56,57,58,60,61,62,63,64,65,66,67,68,69,70,71,72,73,75,76,78,80,81,82,83,84,85,86,87,88,89,90,91,92,93,94,95,96,97,98,99,100,101]:List Nat).filterMap fun i=>PySem.Challenge.pw_oneslate_k35_a_glance.main.body[i]?}}
theorem te5383291863922769131:tw5383291863922769131=tw5383291863922769131:=rfl
noncomputable def tw628386622744462700:List PySem.Stmt:=(PySem.Challenge.pw_oneslate_k35_a_glance.main.body.drop 63).take 8
theorem te628386622744462700:tw628386622744462700=tw628386622744462700:=rfl
noncomputable def tw17121737664562973615:List PySem.Stmt:=(PySem.Challenge.pw_oneslate_k35_a_glance.main.body.drop 49).take 14
theorem te17121737664562973615:tw17121737664562973615=tw17121737664562973615:=rfl
noncomputable def tw11807394528697755005:List PySem.Stmt:=(PySem.Challenge.pw_oneslate_k35_a_glance.main.body.drop 14).take 1
theorem te11807394528697755005:tw11807394528697755005=tw11807394528697755005:=rfl
noncomputable def tw14873026849429013278:List PySem.Stmt:=(PySem.Challenge.pw_oneslate_k35_a_glance.main.body.drop 71).take 7
theorem te14873026849429013278:tw14873026849429013278=tw14873026849429013278:=rfl
def te16536711093553405666:=0
def te4613417778764403725:=0
def te14435219214046838287:=0
def te242468161780095768:=0
def te9503370041605002066:=0
def te10681400021807916987:=0
def te2151983562666518386:=0
def te12277428497653509069:=0
def te11184473232242348679:=0
def te2018910875601196342:=0
def te916992508458387776:=0
def te14435388146726301370:=0
def te8278011584270105088:=0
def te2976646539680285591:=0
def te9070979866154315644:=0
def te3875250819553604618:=0
def te11363181055221914525:=0
def te16286161635390212673:=0
def te15211634884205872270:=0
def te17082398142100309895:=0
def te17068805892185056297:=0
def te4577731536773433821:=0
def te5073010698126878332:=0
def te17214778978951644669:=0
def te5092459872714091180:=0
def te5800475313561092594:=0
def te13514297268649065831:=0
def te7495908213338661499:=0
def te413757780432605572:=0
def te8052583755574561732:=0
def te8512266907166486512:=0
def te10936195774439827593:=0
def te2221580417391886641:=0
def te18323959915676063072:=0
def te6207905178604624270:=0
def te3758213960243925243:=0
def te12911542903984298465:=0
def te1120372840724373138:=0
def te11339938649490978625:=0
def te7651947919772406355:=0
def te5508137617231057520:=0
def te16999593533594902667:=0
def te12331830540472335335:=0
def te3114429932013671206:=0
def te14932161306710280628:=0
def te4563362483810091974:=0
def te4278933119926259771:=0
def te4141031895230278156:=0
def te9548913171015273958:=0
def te10445050245729355124:=0
def te9466746073265258231:=0
def te9445940776629784187:=0
def te1342024897833324976:=0
def te12411961213594309442:=0
def te11743871565126745076:=0
def te5337057222038262700:=0
def te11165966457960683039:=0
def te6287886495983485173:=0
def te9061256420402392081:=0
def te6401082559551209339:=0
def te8764775528570486412:=0
def te18410928997428006636:=0
def te16408890240278153542:=0
def te11894202812270947888:=0
def te11581807104865751172:=0
def te3405985133637196230:=0
def te16881452574903924971:=0
def te2788203725690509810:=0
def te401405032650893821:=0
def te13633499127489581660:=0
def te1821668793696347903:=0
def te3851164081030090462:=0
def te7300272783818201042:=0
def te12852294701127101809:=0
def te1105440657756313733:=0
def te3664887014508404887:=0
def te9994142174435568115:=0
def te5748697152999334057:=0
def te3769425808002485932:=0
def te15485333896361941661:=0
def te7501369767197535604:=0
def te11340488954699794995:=0
def te10409733802809148836:=0
def te12185014132168084078:=0
def te7914145838132307711:=0
def te18218589650041851901:=0
def te3160568079534735672:=0
def te15842608561026470877:=0
def te18263879908044092591:=0
def te14265644074781566726:=0
def te4857762998663073655:=0
def te2322785574542563642:=0
def te17589476318984063670:=0
def te16410958966754125358:=0
def te13619791381673483833:=0
def te8856851578342107601:=0
def te11548007711138464047:=0
def te4713210275597618916:=0
def te11680159186499626360:=0
def te12497628514773170056:=0
def te7284596087732916461:=0
def te7579280523843225277:=0
def te1653524413728793821:=0
def te15871565173012804666:=0
def te7778329760000217109:=0
def te10634338590218500517:=0
def te15347947805916660347:=0
def te8342450357296564314:=0
def te7331536816696489981:=0
def te11929924028651205862:=0
def te15868844976451872267:=0
def te6519107478857795135:=0
def te15914044565918546847:=0
def te542010096951410927:=0
def te16744620589433996539:=0
def te1879757981895318011:=0
def te14199995930911087037:=0
def te12825733996102442529:=0
def te4259660819508993053:=0
def te15488825705008079449:=0
def te1597754407259437103:=0
def te6934123601626470847:=0
def te8939084140696251931:=0
def te8585055065865320970:=0
def te18294404888174521813:=0
def te8412464436307280616:=0
def te8380739446568574257:=0
def te10542957817379077943:=0
def te15884066909951520364:=0
def te10150674099947903268:=0
def te4048846949101003224:=0
def te16352408307968122203:=0
def te17749002146716761447:=0
def te3616827549767651730:=0
def te2509780663259492571:=0
def te6739162896827298793:=0
def te2981312487063960674:=0
def te8351403405669306369:=0
def te13048710486448673876:=0
def te2868269024720300352:=0
def te17229698006179353190:=0
def te18034472126806305141:=0
end PySem.W.Fast
open PySem PySem.W PyProof.Rows
set_option maxHeartbeats 0 in
theorem PySem.Challenge.cw_oneslate_k35_a_glance_holds : PySem.Challenge.rw_oneslate_k35_a_glance.Holds := by
 w_on;o_law;k_head;(case hw=>w_witness2)
 k_fill
 refine a0.afM (l:=PySem.Challenge.rw_oneslate_k35_a_glance) (k:=23) ["highest","with_cell","with_doing"] rfl rfl ⟨rfl,by decide,by decide⟩ ?ahD ?ahC (λw h σ=>PySem.W.km_in_of σ) ?F
 case ahD=>
  intro x ag
  rcases ajN.mp ag with rfl|ag
  .exact⟨_,rfl⟩
  rcases ajN.mp ag with rfl|ag
  .exact⟨_,rfl⟩
  rcases ajN.mp ag with rfl|ag
  .exact⟨_,rfl⟩
  cases ag
 case ahC=>exact λp=>by kernel_rfl
 case F=>
  intro w mg ec h dH G vg
  have ov:a0.pE (aF.kb dH) mg "Asker" fb.zI:=by
   dsimp only[aF.kb]
   refine' a0.TN dH G ?a ?mS ?hd ?po ?k6 ?mk ?Dz ?na
   (case a=>k_is);(case mS=>k_is);(case hd=>k_is);(case po=>k_is);(case k6=>k_is);(case mk=>k_is);(case Dz=>k_is)
   case na=>
    simp only[ak5]
    refine⟨by k_is,by k_is,by k_is,by k_is,by k_is,by k_is,by k_is,by k_is,by k_is,by k_is,by k_is,by k_is,by k_is,by k_is,λ_ h=>nomatch h⟩
  have BN:a0.xq (aF.kb dH) mg "Asker" "begin" "Asker.begin" fb.E9 ["self","deed"]:=by
   dsimp only[aF.kb]at ov ⊢
   refine' a0.Vg dH G ov ?a ?f ?i ?l ?t ?c ?k rfl (λ_ _ _ _ _ _=>a0.Al λ_ _=>⟨_,rfl,rfl⟩) (λ_ _ _ _ _ _=>a0.xb λ_=>⟨_,rfl,rfl⟩)
   (case a=>k_is);(case f=>k_is);(case i=>k_is);(case l=>k_is);(case t=>k_is);(case c=>k_is);(case k=>k_is)
  have BO:aF.cu (aF.kb dH) mg "law" fb.wZ ["script"]:=by
   dsimp only[aF.kb]
   refine' a0.ID dH G ?a ?l ?c ?k (λ_ _ _ _ _ _=>a0.xb λ_=>rfl)
   (case a=>k_is);(case l=>k_is);(case c=>k_is);(case k=>k_is)
  have Cu:∃u,mg "SMALL_LETTERS"=some u/\aF.RelV (.str "abcdefghijklmnopqrstuvwxyz") u:=by
   refine' ⟨_,PySem.W.mg_of dH G ?a,?b⟩
   (case a=>k_is);(case b=>exact⟨_,rfl⟩)
  have Ct:∃u,mg "MOST_LETTERS"=some u/\aF.RelV (.int 8) u:=by
   refine' ⟨_,PySem.W.mg_of dH G ?a,?b⟩
   (case a=>k_is);(case b=>exact⟨_,rfl⟩)
  letI:aF.a8:=a0.tY (aF.kb dH) ["highest","with_cell","with_doing"]
  have Du:a0.KTab PySem.Challenge.rw_oneslate_k35_a_glance.prog w (aF.kb dH) mg "FORMS" fb.s8:=by
   dsimp only[aF.kb]
   refine' a0.ZE dH G ?a ?s ?l ?k ?f
   (case a=>k_is);(case s=>decide);(case l=>k_is)
   case k=>
    intro e he
    rcases ajN.mp he with rfl|he
    .exact⟨"put",rfl,rfl⟩
    rcases ajN.mp he with rfl|he
    .exact⟨"add",rfl,rfl⟩
    rcases ajN.mp he with rfl|he
    .exact⟨"swap",rfl,rfl⟩
    rcases ajN.mp he with rfl|he
    .exact⟨"take",rfl,rfl⟩
    rcases ajN.mp he with rfl|he
    .exact⟨"renew",rfl,rfl⟩
    rcases ajN.mp he with rfl|he
    .exact⟨"free",rfl,rfl⟩
    rcases ajN.mp he with rfl|he
    .exact⟨"sure",rfl,rfl⟩
    rcases ajN.mp he with rfl|he
    .exact⟨"move",rfl,rfl⟩
    rcases ajN.mp he with rfl|he
    .exact⟨"end",rfl,rfl⟩
    cases he
   case f=>exact⟨_,_,rfl,⟨_,rfl⟩,(a0.oW (xs:=["name","number"]) (by k_is) (by decide +kernel) (by exact⟨_,_,rfl,⟨_,_,rfl,rfl⟩⟩)),⟨_,_,rfl,⟨_,rfl⟩,(a0.oW (xs:=["name","number"]) (by k_is) (by decide +kernel) (by exact⟨_,_,rfl,⟨_,_,rfl,rfl⟩⟩)),⟨_,_,rfl,⟨_,rfl⟩,(a0.oW (xs:=["name","number","number"]) (by k_is) (by decide +kernel) (by exact⟨_,_,rfl,⟨_,_,rfl,⟨_,_,rfl,rfl⟩⟩⟩)),⟨_,_,rfl,⟨_,rfl⟩,(a0.oW (xs:=["fence"]) (by k_is) (by decide +kernel) (by exact⟨_,_,rfl,rfl⟩)),⟨_,_,rfl,⟨_,rfl⟩,(a0.oW (xs:=["fence"]) (by k_is) (by decide +kernel) (by exact⟨_,_,rfl,rfl⟩)),⟨_,_,rfl,⟨_,rfl⟩,(a0.oW (xs:=["fence"]) (by k_is) (by decide +kernel) (by exact⟨_,_,rfl,rfl⟩)),⟨_,_,rfl,⟨_,rfl⟩,(a0.oW (xs:=["fence","name","number"]) (by k_is) (by decide +kernel) (by exact⟨_,_,rfl,⟨_,_,rfl,⟨_,_,rfl,rfl⟩⟩⟩)),⟨_,_,rfl,⟨_,rfl⟩,(a0.oW (xs:=["hall"]) (by k_is) (by decide +kernel) (by exact⟨_,_,rfl,rfl⟩)),⟨_,_,rfl,⟨_,rfl⟩,(a0.oW (xs:=[]) (by k_is) (by decide +kernel) (by exact rfl)),rfl⟩⟩⟩⟩⟩⟩⟩⟩⟩
  have Af:a0.ue PySem.Challenge.rw_oneslate_k35_a_glance.prog w (aF.kb dH) mg "DOERS" fb.r1:=by
   dsimp only[aF.kb]
   refine' a0.VO dH G ?a ?l ?k ?f
   (case a=>k_is);(case l=>k_is)
   case k=>
    intro e he
    rcases ajN.mp he with rfl|he
    .exact⟨"put",rfl,rfl⟩
    rcases ajN.mp he with rfl|he
    .exact⟨"add",rfl,rfl⟩
    rcases ajN.mp he with rfl|he
    .exact⟨"swap",rfl,rfl⟩
    rcases ajN.mp he with rfl|he
    .exact⟨"take",rfl,rfl⟩
    rcases ajN.mp he with rfl|he
    .exact⟨"renew",rfl,rfl⟩
    rcases ajN.mp he with rfl|he
    .exact⟨"free",rfl,rfl⟩
    rcases ajN.mp he with rfl|he
    .exact⟨"sure",rfl,rfl⟩
    rcases ajN.mp he with rfl|he
    .exact⟨"move",rfl,rfl⟩
    rcases ajN.mp he with rfl|he
    .exact⟨"end",rfl,rfl⟩
    cases he
   case f=>
    simp only[ak5]
    refine⟨⟨_,by k_is,by k_is⟩,⟨_,by k_is,by k_is⟩,⟨_,by k_is,by k_is⟩,⟨_,by k_is,by k_is⟩,⟨_,by k_is,by k_is⟩,⟨_,by k_is,by k_is⟩,⟨_,by k_is,by k_is⟩,⟨_,by k_is,by k_is⟩,⟨_,by k_is,by k_is⟩,λ_ h=>nomatch h⟩
  have DF:=by
   refine' a0.DW (x:="highest") (st:=fb.tR) (ln:=["highest","with_cell","with_doing"]) dH G ?rF ?uu ?ko ?dK ?dd ?wu ?ao ?az ?cG ?fg ?lG ?oy ?nn ?ii
   (case rF=>decide);(case uu=>k_is);(case ko=>k_is);(case dK=>exact rfl);(case dd=>k_is);(case wu=>exact rfl);(case ao=>exact rfl);(case az=>exact rfl);(case cG=>exact rfl);(case fg=>exact rfl);(case lG=>exact rfl);(case oy=>exact rfl);(case nn=>decide)
   case ii=>
    intro y bg bO
    rcases ajN.mp bg with rfl|bg
    .rfl
    rcases ajN.mp bg with rfl|bg
    .refine' a0.tA ?bz ?cf bO
     case bz=>
      refine' a0.r2 ?a1 ?a2 ?eV ?hD ?jT
      (case a1=>k_is);(case a2=>k_is);(case eV=>exact rfl);(case hD=>k_is);(case jT=>exact rfl)
     case cf=>decide
    rcases ajN.mp bg with rfl|bg
    .refine' a0.tA ?bz ?cf bO
     case bz=>
      refine' a0.r2 ?a1 ?a2 ?eV ?hD ?jT
      (case a1=>k_is);(case a2=>k_is);(case eV=>exact rfl);(case hD=>k_is);(case jT=>exact rfl)
     case cf=>decide
    cases bg
  have DL:=by
   refine' a0.DW (x:="with_cell") (st:=fb.rT) (ln:=["highest","with_cell","with_doing"]) dH G ?rF ?uu ?ko ?dK ?dd ?wu ?ao ?az ?cG ?fg ?lG ?oy ?nn ?ii
   (case rF=>decide);(case uu=>k_is);(case ko=>k_is);(case dK=>exact rfl);(case dd=>k_is);(case wu=>exact rfl);(case ao=>exact rfl);(case az=>exact rfl);(case cG=>exact rfl);(case fg=>exact rfl);(case lG=>exact rfl);(case oy=>exact rfl);(case nn=>decide)
   case ii=>
    intro y bg bO
    rcases ajN.mp bg with rfl|bg
    .refine' a0.tA ?bz ?cf bO
     case bz=>
      refine' a0.r2 ?a1 ?a2 ?eV ?hD ?jT
      (case a1=>k_is);(case a2=>k_is);(case eV=>exact rfl);(case hD=>k_is);(case jT=>exact rfl)
     case cf=>decide
    rcases ajN.mp bg with rfl|bg
    .rfl
    rcases ajN.mp bg with rfl|bg
    .refine' a0.tA ?bz ?cf bO
     case bz=>
      refine' a0.r2 ?a1 ?a2 ?eV ?hD ?jT
      (case a1=>k_is);(case a2=>k_is);(case eV=>exact rfl);(case hD=>k_is);(case jT=>exact rfl)
     case cf=>decide
    cases bg
  have DM:=by
   refine' a0.DW (x:="with_doing") (st:=fb.rU) (ln:=["highest","with_cell","with_doing"]) dH G ?rF ?uu ?ko ?dK ?dd ?wu ?ao ?az ?cG ?fg ?lG ?oy ?nn ?ii
   (case rF=>decide);(case uu=>k_is);(case ko=>k_is);(case dK=>exact rfl);(case dd=>k_is);(case wu=>exact rfl);(case ao=>exact rfl);(case az=>exact rfl);(case cG=>exact rfl);(case fg=>exact rfl);(case lG=>exact rfl);(case oy=>exact rfl);(case nn=>decide)
   case ii=>
    intro y bg bO
    rcases ajN.mp bg with rfl|bg
    .refine' a0.tA ?bz ?cf bO
     case bz=>
      refine' a0.r2 ?a1 ?a2 ?eV ?hD ?jT
      (case a1=>k_is);(case a2=>k_is);(case eV=>exact rfl);(case hD=>k_is);(case jT=>exact rfl)
     case cf=>decide
    rcases ajN.mp bg with rfl|bg
    .refine' a0.tA ?bz ?cf bO
     case bz=>
      refine' a0.r2 ?a1 ?a2 ?eV ?hD ?jT
      (case a1=>k_is);(case a2=>k_is);(case eV=>exact rfl);(case hD=>k_is);(case jT=>exact rfl)
     case cf=>decide
    rcases ajN.mp bg with rfl|bg
    .rfl
    cases bg
  have kt:aF.ug (aF.kb dH):=aF.Zy _
  have P2:a0.FY mg:=by
   refine' ⟨akb dH G ?ahp,akb dH G ?fO,akb dH G ?eS,akb dH G ?l4,akb dH G ?m6,akb dH G ?FR,akb dH G ?xi,akb dH G ?ahz,akb dH G ?ahA,akb dH G ?ahB,akb dH G ?ahq,akb dH G ?ahr,akb dH G ?ahs,akb dH G ?aht,akb dH G ?ahu,akb dH G ?ahv,akb dH G ?ahw,akb dH G ?ahx,akb dH G ?ahy⟩
   (case ahp=>k_is);(case fO=>k_is);(case eS=>k_is);(case l4=>k_is);(case m6=>k_is);(case FR=>k_is);(case xi=>k_is);(case ahz=>k_is);(case ahA=>k_is);(case ahB=>k_is);(case ahq=>k_is);(case ahr=>k_is);(case ahs=>k_is);(case aht=>k_is);(case ahu=>k_is);(case ahv=>k_is);(case ahw=>k_is);(case ahx=>k_is);(case ahy=>k_is)
  refine a0.QA vg BO (λ_ _ _ _ _ _ _=>rfl) (λbase S9 f fd F=>a0.ZH (fb.Eo ⟨?_,?_,?_,?_,?_,?_,?_,?_,?_,?_,?_,?_,?_,?_,?_,?_,?_,?_,?_,?_,?_,?_,?_,?_,?_,?_,?_,?_,?_,?_,?_,?_,?_,?_,?_,?_,?_,?_,?_,?_,BN,?_,?_,?_,?_,?_,?_,?_,?_,?_,?_,?_,?_,?_,?_,?_,?_,?_,?_,?_,?_,?_,?_,?_,?_,?_,?_,?_,?_,?_,?_,?_,?_,?_,?_,?_,?_,?_,?_,BO,ov,Cu,Ct,Af,Du,DF,DL,DM,S9,P2,kt⟩ F) fb.ZP)
  all_goals first
  |((try dsimp only[aF.kb]);refine' a0.ID dH G ?a ?l ?c ?k (λ_ _ _ _ _ _=>by first|exact a0.Px rfl|exact a0.xb λ_=>rfl|exact a0.Al λ_ _=>rfl|exact a0.Fv λ_ _ _=>rfl|exact a0.Fw λ_ _ _ _=>rfl|exact a0.Fx λ_ _ _ _ _=>rfl|exact a0.Fy λ_ _ _ _ _ _=>rfl|exact a0.Py λ_ _ _ _ _ _ _=>rfl);(case a=>k_is);(case l=>k_is);(case c=>k_is);(case k=>k_is))
  |(dsimp only[aF.kb]at ov ⊢;refine' a0.Vf dH G ov ?a ?f ?i ?l ?c ?k (λ_ _ _ _ _ _=>by first|exact a0.xb λ_=>rfl|exact a0.Al λ_ _=>rfl|exact a0.Fv λ_ _ _=>rfl|exact a0.Fw λ_ _ _ _=>rfl|exact a0.Fx λ_ _ _ _ _=>rfl|exact a0.Fy λ_ _ _ _ _ _=>rfl|exact a0.Py λ_ _ _ _ _ _ _=>rfl);(case a=>k_is);(case f=>k_is);(case i=>k_is);(case l=>k_is);(case c=>k_is);(case k=>k_is))
