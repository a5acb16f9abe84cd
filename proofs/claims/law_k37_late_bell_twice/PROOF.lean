import PyProof.Rows.All
import Wide.All
import OpenK.AllK
import Wide.FinOn
import Lean
import PyProof.EqAt
import PyProof.EqKinds
import PyProof.TupleCall
import KE.KSortTup
import PyProof.ZipIter
import KE.KMinKey
import KE.KRevSl
import PyProof.Rows.EnumRows
import PyProof.EnumStmt
import KE.KIntText
import PySem.Challenge.RW_oneslate_k37_late_bell_twice
set_option Elab.async false
set_option linter.all false
set_option maxRecDepth 100000
set_option bootstrap.genMatcherCode false
open Array renaming length_toList->akR,getD_eq_getD_getElem?->an0,getElem?_toList->aoU
open Bool renaming false_ne_true->aj6,and_eq_true->akE,eq_iff_iff->alo,false_eq_true->amv,and_false->aoR
open False renaming elim->akD
open ForInStep renaming yield->anz
open Int renaming le_refl->amD,emod_lt_of_pos->anV,fdiv_eq_ediv_of_nonneg->an4,toNat_natCast->aob,emod_nonneg->aoL
open List renaming length_map->ajX,getElem?_eq_some_iff->aj2,mem_cons_of_mem->aj4,mem_cons->aj5,length_append->aj7,map_cons->aj8,mem_cons_self->aj9,size_toArray->aka,length_cons->akd,mem_singleton->akg,getElem?_append_right->akk,getElem?_set_ne->akn,getElem?_append_left->akq,getElem?_map->aku,mem_append->akx,getD_eq_getElem?_getD->aky,getElem?_eq_getElem->akF,range->akG,mem_of_getElem?->akL,lookup_cons->akM,map_append->akO,mem_append_right->akP,replicate->akQ,find?_cons_of_neg->akS,nodup_cons->akT,mem_map->akV,getElem?_set_self->akX,length_nil->akY,length_drop->ak0,not_mem_nil->ak1,find?_cons_of_pos->ak3,mem_range->ak4,append_nil->ak6,length_set->ak7,all_eq_true->ak9,length_replicate->alb,forall_mem_cons->alq,length->alr,zip_cons_cons->alx,nodup_nil->aly,mem_map_of_mem->alD,lookup->alE,any_cons->alK,contains_iff_mem->alM,getElem?_replicate->alT,pairwise_cons->alY,mem_filter->al1,find?_cons->al2,length_take->amg,toArray->amj,append_assoc->amE,nodup_append->amF,length_singleton->amK,drop_drop->amL,map_map->amM,all_cons->amQ,of_mem_zip->amW,getElem?_zip_eq_some->amY,zip_nil_left->am9,take_of_length_le->ane,take_length->ank,map_fst_zip->anl,length_filter_le->anr,mem_append_left->ant,length_zip->anB,filterMap_cons->anH,take_zero->anJ,drop->anU,prefix_append->anW,zip_nil_right->anY,find?_eq_none->anZ,length_range->aod,take_add_one->aoe,pairwise_map->aof,pairwise_iff_getElem->aoj,mem_of_find?_eq_some->aom,map_nil->aou,getElem_mem->aov,prefix_refl->aox,any_eq_true->aoB,length_eq_zero_iff->aoG,forIn_cons->aoK,drop_eq_nil_of_le->aoP,length_pos_of_mem->aoQ,take_nil->ao0
open List.Nodup renaming length_le_of_subset->anG
open List.Pairwise renaming nil->aoc
open Nat renaming le_refl->aj0,le_of_ble_eq_true->akc,ne_of_lt->akj,zero_le->akm,lt_of_lt_of_le->akB,lt_irrefl->akI,le_add_right->akW,le_of_lt->ak8,le_trans->alg,le_of_eq->alF,sub_self->alX,not_lt_zero->amz,lt_succ_of_lt->am8,lt_succ_self->aor,zero_add->aow
open Ne renaming symm->amT
open Option renaming map_eq_some_iff->amC,bind_eq_some_iff->aoE
open Option.some renaming inj->akv,injEq->ao8
open Or renaming inr->akU,inl->alU
open PyProof.Rows renaming seqObj->akC,envOfC->ala,slot_tuple_getitem->ald,IntsAre->alk,KeyOrd->alC,get?_update_seq->al4,listUpdate_at->amq,envOfC->amJ,callWith_type1->amN,AllBare->ano,seqEpoch_at->anN,size_push'->aok,KeyKind->aoX,strKind->aoY,gt_int->ao1
open PySem renaming wpAny_bind->ajV,starEach->ajY,Shared->ajZ,wpAny_pure->aj1,sizeLine->aj3,Program->akh,Around->akl,sizeLine_eq->ako,assignEach->akp,backTo->akr,mainGlobals->akw,wpAny_mono->akH,bootBuiltins->akJ,compareOp->akK,foldedSetIterable->akN,wpAny_seqItems->ak5,wpAny_truthy_bool->alc,FuncData->ale,wpAny_holding->alj,keywordEach->alm,wpAny_field->aln,swapsWith->alu,mem_of_lookup->alv,wpAny_Call_Name_kw->alw,wpAny_tryCatch->alA,wpAny_callSpecial?_slot->alB,wpAny_letGo->alG,sysModules->alI,attributeBase->alJ,backToKw->alN,holding->alP,wpAny_pyIter_list->alQ,wpAny_newObj_type->alR,behindInMarks->alS,binaryOp->alV,wpAny_setField_rec->alZ,plainId_quiet->al7,rawInt->al8,getMethod->amb,bindArgs->ame,codeAny_mono->amf,wpAny_call_entry->amh,IsPair->amk,assign->amr,pyNext->ams,wpAny_pyIter_tuple->amt,closureFor->amu,seqItems?->amw,codeAny_builtin->amx,wpAny_updateSeq->amy,NameKind->amA,standAt->amG,codeAny->amI,callWith->amP,wpAny_newList->amS,sliceBounds->amU,wpAny_passesOwn->amV,Arguments->am1,getItem->am6,Keyword->am7,Paired->ana,richCompare->anf,richCompare_meets_room->ang,strKind->anj,codeAmong->anp,DictEntry->anq,letOwnedTupleGo->anv,IsPart->anw,wpAny_rule->anA,wpAny_updateSeq_pair->anE,Builtin->anL,tupleKind->anP,PassesOwn->anQ,findBy->anR,tupleKind_room_in1->anS,wpAny_standAt->an8,wpAny_onRaise->an9,builtinsNs->aog,defaultsOf->aol,callerA->aop,valueAt->aoq,wpAny_forIn_list->aoz,wpAny_execs_nil->aoH,TriplesOk->aoJ,subscripted->aoN
open PySem.Around renaming under_plainId->alO,under->ao5
open PySem.AutoSeq1 renaming sub_tuple_tuple->am3
open PySem.BindsTo renaming of_defaults->ao2
open PySem.Builtin renaming bitNot->als,bitAnd->amH,bitOr->ani
open PySem.Builtin.Builtins renaming bindParams->al0
open PySem.Builtin.Int renaming intBits->alh,intTooBig->aoT
open PySem.Builtin.List renaming listTooLong->am2
open PySem.Builtin.Slice renaming slicePlaces->ama,sliceAdjust->amX,sliceApplied->an5
open PySem.Builtin.SmallTypes renaming nextOf->ak2,ownedTupleIsFree->alz,ownedTupleHandOut->am4
open PySem.Builtin.Str renaming occurrences->amo
open PySem.Builtin.Tuple renaming tupleExact->ami,tupleCompareSizes->amn,tupleItemsOf->an6
open PySem.Calls renaming callWith_builtin->amB,spliced_cons->am0,evalArgs_plain->anx,Name_function_global->an3,spliced_nil->aoa
open PySem.F renaming plain_max_loop->akA,entry_max_loop->alH,slot_dict_get->al3,slot_tuple_iterator_next->al6,slot_list_append->aml,type_list_append->amm,entry_dict_get->anb,slot_zip_next->anD,args_tuple_iterator_next_1->anM,entry_tuple_iterator_next->an1,slot_dict_getitem->aoi,args_dict_get_3->aoC,plainAttrs_dict->aoD,plainAttrs_list->aoF,type_dict_get->aoS
open PySem.Heap renaming get?_push_of_some->ajW,get?_push_size->akb,lt_size->ake,get?_push_ne->al9,size_push->amd,SameBut->anu,size_update->aoy,IsTuple->aoA,get?_update_other->aoO
open PySem.Heap.IsTuple renaming push->ao9
open PySem.Heap.SameBut renaming update->ali
open PySem.NameKind renaming free->amR,cell->an7
open PySem.Obj renaming mapSeq->akz
open PySem.Paired renaming length->aoZ
open PySem.PassesOwn renaming never->anF
open PySem.PyData renaming strOk->akf,eqv->aoV
open PySem.SeqAt renaming shaped->ao7
open PySem.SeqAt.EqAt renaming int_str->ao3,str_int->ao4,int_int->ao6
open PySem.Shared renaming heap->anh
open PySem.Str renaming ofString->aki
open PySem.Value renaming ref->aks,isStrOf->akZ,none->alf,bool->amO,type->am5,int->anm,notImplemented->anC,str->anO
open PySem.W renaming mg_none_of->akt,fnOf->alL,keepIn->alW,findIn->al5,emptyDict->amc,instObj->amZ,nsIn->anc,codeIn->anI,mg_of->anK,kia_one->anT,kia_tup->an2,plainGet->aoh,callWith_K->aos,cellsFrom_some->aot,methodCall_KW->aoI,hasDictIn->aoM
open PySem.Walks renaming list->aoW
open Sum renaming inl->aon,inr->aoo
open True renaming intro->alp
abbrev x0:List PySem.Str:=["self"]
abbrev o0:List PySem.Str:=["thing"]
abbrev T0:List PySem.Str:=["slate","asker","deed"]
abbrev W1:List PySem.Str:=["self","letter"]
abbrev P3:List PySem.Str:=["hall"]
abbrev v4:List PySem.Str:=["rule"]
abbrev v6:List PySem.Str:=["grants"]
abbrev u8:List PySem.Str:=["slate"]
abbrev f8:List PySem.Str:=["one","world","answer"]
abbrev zzz0:List PySem.Str:=["one","world","cell","seed"]
abbrev zzz1:List PySem.Str:=["grants","opening"]
abbrev zzz2:List PySem.Str:=["mask","keeper"]
abbrev zzz3:List PySem.Str:=["rule","mask"]
abbrev zzz4:List PySem.Str:=["kind","thing"]
abbrev zzz5:List PySem.Str:=["asker","keeper","epoch","stamp"]
abbrev zzz6:List PySem.Str:=["asker","keeper","epoch","stamp","load"]
abbrev zzz7:List PySem.Str:=["self","me","hall"]
abbrev zzz8:List PySem.Str:=["self","deed"]
abbrev zzz9:List PySem.Str:=["self","slate"]
abbrev zzy0:List PySem.Str:=["self","outcome"]
abbrev zzy1:List PySem.Str:=["script","k"]
abbrev zzy2:List PySem.Str:=["rule","shift"]
abbrev zzy3:List PySem.Str:=["rule","keepers"]
abbrev zzy4:List PySem.Str:=["books","keeper","epoch"]
abbrev zzy5:List PySem.Str:=["me","place","stamp"]
abbrev zzy6:List PySem.Str:=["slate","asker","number","deed"]
abbrev zzy7:List PySem.Str:=["slate","me","number","deed"]
abbrev zzy8:List PySem.Str:=["me","place","stamp","number","deed","grants"]
abbrev zzy9:List PySem.Str:=["books","place","ghost","number","deed","cell"]
abbrev aT:=PySem.W.Frag
abbrev bo:=PySem.Str->Option PySem.Value
abbrev cB:=PySem.Value->PySem.Shared->Prop
abbrev c2:=List (PySem.Addr×PySem.Obj)
noncomputable section
namespace aE
open PySem PySem.Spec PyProof.Rows
abbrev Key:=Sum Int Str
def tq:Key->Value->Bool
 |.inl k,v=>Value.isInt k v|.inr x,v=>akZ x v
def ZA(w:World):Key->Int
 |.inl k=>hashInt k|.inr x=>hashStr w x
def oS:∀{k:Key}{v:Value},tq k v=true->(∃i t,k=aon i/\v=anm i t)\/(∃x t,k=aoo x/\v=anO x t)
 |.inl i,v,h=>by
  obtain⟨t,e⟩:=Value.isInt_shape (k:=i) (v:=v) h;exact .inl ⟨i,t,rfl,e⟩
 |.inr x,v,h=>by
  obtain⟨t,e⟩:=Value.isStrOf_shape (x:=x) (v:=v) h;exact .inr ⟨x,t,rfl,e⟩
def ZC(i:Int)(t:Tok):tq (.inl i) (.int i t)=true:=by simp[tq,Value.isInt]
def ZD(x:Str)(t:Tok):tq (.inr x) (.str x t)=true:=by simp[tq,akZ]
def ZE(a b:Int):decide ((aon a:Key)=aon b)=(a==b):=by
 by_cases e:a=b
 .subst e;simp
 .have h:¬(aon a:Key)=aon b:=λq=>e (Sum.inl.inj q)
  rw[decide_eq_false h];exact(beq_eq_false_iff_ne.mpr e).symm
def ZH(a b:Str):decide ((aoo a:Key)=aoo b)=decide (a=b):=by
 by_cases e:a=b
 .subst e;simp
 .have h:¬(aoo a:Key)=aoo b:=λq=>e (Sum.inr.inj q)
  rw[decide_eq_false h,decide_eq_false e]
def ZF(a:Int)(b:Str):decide ((aon a:Key)=aoo b)=false:=decide_eq_false (λq=>nomatch q)
def ZG(a:Str)(b:Int):decide ((aoo a:Key)=aon b)=false:=decide_eq_false (λq=>nomatch q)
def iZ(prog:akh)(w:World):KeyKind prog w Key where
 is:=tq
 hash:=ZA w
 inj:=λv a b ak ab=>by
  rcases oS ak with⟨i,t,rfl,rfl⟩|⟨x,t,rfl,rfl⟩
  .rcases oS ab with⟨j,u,rfl,e⟩|⟨y,u,rfl,e⟩
   .injection e with av _;rw[av]
   .exact nomatch e
  .rcases oS ab with⟨j,u,rfl,e⟩|⟨y,u,rfl,e⟩
   .exact nomatch e
   .injection e with av _;rw[av]
 byValue:=λk v h=>by
  rcases oS h with⟨i,t,rfl,rfl⟩|⟨x,t,rfl,rfl⟩<;>rfl
 pyHash:=λbI h=>by
  rcases oS bI with⟨i,t,rfl,rfl⟩|⟨x,t,rfl,rfl⟩
  .exact wpAny_pyHash_int h
  .exact wpAny_pyHash_str h
 eqBool:=λcy bI h=>by
  rcases oS cy with⟨i,t,rfl,rfl⟩|⟨x,t,rfl,rfl⟩
  .rcases oS bI with⟨j,u,rfl,rfl⟩|⟨y,u,rfl,rfl⟩
   .rw[ZE]at h;exact wpAny_eqBool_int h
   .rw[ZF]at h;exact ao3 i t y u _ _ _ _ h
  .rcases oS bI with⟨j,u,rfl,rfl⟩|⟨y,u,rfl,rfl⟩
   .rw[ZG]at h;exact ao4 x t j u _ _ _ _ h
   .rw[ZH]at h;exact wpAny_eqBool_str h
 «strs»:=λk x t v h=>by
  rcases oS h with⟨i,u,rfl,e⟩|⟨y,u,rfl,e⟩
  .exact nomatch e
  .injection e with av _
   subst av;cases v<;>rfl
def aav(prog:akh)(w:World)(i:Int)(t:Tok):(iZ prog w).is (.inl i) (.int i t)=true:=ZC i t
def aaw(prog:akh)(w:World)(x:Str)(t:Tok):(iZ prog w).is (.inr x) (.str x t)=true:=ZD x t
inductive V where
 |aI|az (b:Bool)|int (i:Int)|str (x:Str)|ya (b:Array UInt8)|yB (b:UInt64)|ref (a:Addr)|ty (n:String)
 deriving DecidableEq
def RelV:V->Value->Prop
 |.aI,u=>u=alf|.az b,u=>u=amO b|.int i,u=>∃t,u=anm i t|.str x,u=>∃t,u=anO x t|.ya b,u=>∃t,u=Value.bytes b t|.yB b,u=>∃t,u=Value.float b t|.ref a,u=>u=aks a|.ty n,u=>u=am5 n
abbrev Vals:List V->List Value->Prop:=ana RelV
def Vals.length{xs:List V}{us:List Value}(r:Vals xs us):xs.length=us.length:=aoZ r
theorem Vals.get:∀{xs:List V}{us:List Value}{i:Nat}{x:V},Vals xs us->xs[i]? = some x->∃u,us[i]? = some u/\RelV x u
 |_,_,_,_,.nil,e=>by simp at e| _,_,0,_,.cons r _,e=>by simp at e;subst e;exact⟨_,rfl,r⟩|_,_,i+1,x,.cons _ t,e=>by
  obtain⟨u,ae,ah⟩:=Vals.get (i:=i) (x:=x) t (by simpa using e);exact⟨u,by simpa using ae,ah⟩
theorem Vals.append:∀{xs ys:List V}{us ws:List Value},Vals xs us->Vals ys ws->Vals (xs++ys) (us++ws)
 |_,_,_,_,.nil,s=>s|_,_,_,_,.cons r t,s=>.cons r (Vals.append t s)
theorem Vals.take:∀{xs:List V}{us:List Value}(n:Nat),Vals xs us->Vals (xs.take n) (us.take n)
 |_,_,0,_=>.nil|_,_,_+1,.nil=>.nil|_,_,n+1,.cons r t=>.cons r (Vals.take n t)
theorem Vals.drop:∀{xs:List V}{us:List Value}(n:Nat),Vals xs us->Vals (xs.drop n) (us.drop n)
 |_,_,0,r=>r|_,_,_+1,.nil=>.nil|_,_,n+1,.cons _ t=>Vals.drop n t
def iw:Option V->Option Value->Prop
 |some v,some u=>RelV v u|none,none=>True|_,_=>False
def f6{κ:Type}:List (κ×V)->List (κ×Value)->Prop:=ana λ(p:κ×V) (q:κ×Value)=>p.1=q.1/\RelV p.2 q.2
def cC:Key->V
 |.inl i=>.int i|.inr x=>.str x
inductive gH where
 |l (xs:List V)
 |t (xs:List V)
 |ff (aq:List (Key×V))|hq (aq:List (List Key×V))
 |set (S:Int->Bool) (n:Nat)
 |ins (C b7:Addr) (aY:List (Str×V))
 |own (x:Addr)
 |FW (aY:List (Str×V))
 |met (f x:Addr)
 |wX (lo aB:Int)
 |ck (o:Obj) (u:gH)
 |gd (ps:Array Value)
 |ext (qP:Heap->Prop)
abbrev ax:=Addr->Option gH
def upd(H:ax)(a:Addr)(o:gH):ax:=λb=>if b=a then some o else H b
def dy:upd H a o a=some o:=by unfold upd;rw[if_pos rfl]
def dj{H:ax}(h:b≠a):upd H a o b=H b:=by unfold upd;rw[if_neg h]
def af2:upd (upd H a o) a u=upd H a u:=by
 funext b;unfold upd;split<;>rfl
def Eb{H:ax}(h:H a=some o)(h':H b=some u)(d:o≠u):a≠b:=by
 intro e;subst e;rw[h]at h';exact d (akv h')
def kb{H:ax}(h:H a=some o)(h':H b=none):a≠b:=by
 intro e;subst e;rw[h]at h';cases h'
section
variable(P:akh)(w:World)
def gx(H:ax)(h:Heap)(a:Addr):gH->Prop
 |.l xs=>xs.length<=aj3/\∃(its:List Value)(n:Nat),Vals xs its/\h.get? a=some { cls:=.type "list",data:=.seq its.toArray n }|.t xs=>xs.length<=aj3/\∃its:List Value,Vals xs its/\IsTup h a its.toArray|.ff aq=>aq.length<=aj3/\(a==alI)=false/\∃vs,f6 aq vs/\h.DictOf (iZ P w) a vs|.hq aq=>aq.length<=aj3/\(a==alI)=false/\∃xs:List (List Key×Addr×Value),
   ana (λ(p:List Key×V) (q:List Key×Addr×Value)=>p.1=q.1/\H q.2.1=some (.t (p.1.map cC))/\RelV p.2 q.2.2) aq xs/\
   ∃o ay cf,h.get? a=some o/\o.ExactDict/\o.data=.dict ay cf/\ay.toList=xs.map (entryOfKey (anP (iZ P w)))/\(xs.map (·.1)).Nodup
 |.set S n=>h.SetOf (intKind P w) a S n|.ins C b7 aY=>H b7=some (.own a)/\aY.length<=1000/\b7≠a/\h.get? a=some (amZ C b7)/\
   ∃ek,h.Ns1 b7 ek/\(∀f,iw (aY.lookup f) (ek f))/\Within ek (aY.map (·.1))
 |.own _=>∃o,h.get? a=some o|.FW aY=>∃ek,h.Ns1 a ek/\∀f,iw (aY.lookup f) (ek f)|.wX lo aB=>∃t u v,h.get? a=some { cls:=.type "range",data:=.fields #[.int lo t,.int aB u,.int 1 v] }|.ck o u=>h.get? a=some o/\gx H h a u|.gd ps=>h.get? a=some { cls:=.none,data:=.fields ps }|.met f x=>h.get? a=some (W.methodObj (.ref f) (.ref x))|.ext qP=>qP h/\(∃o,h.get? a=some o)/\∀ae ah:Heap,qP ae->(∀o,ae.get? a=some o->ah.get? a=some o)->qP ah
def e_(H:ax)(h:Heap):Prop:=∀a o,H a=some o->gx P w H h a o
end
section
variable{P:akh}{w:World}{H H':ax}{h h':Heap}{a:Addr}{o:gH}
def gx.lt(x:gx P w H h a o):a<h.objs.size:=by
 cases o with
 |l xs=>obtain⟨_,_,_,_,e⟩:=x;exact ake e
 |t xs=>obtain⟨_,_,_,p⟩:=x;exact p.lt
 |ff aq=>obtain⟨_,_,_,_,o,_,_,e,_⟩:=x;exact ake e
 |hq aq=>obtain⟨_,_,_,_,o,_,_,e,_⟩:=x;exact ake e
 |set S n=>obtain⟨o,_,_,_,e,_⟩:=x;exact ake e
 |ins C b7 aY=>obtain⟨_,_,_,e,_⟩:=x;exact ake e
 |own y=>obtain⟨_,e⟩:=x;exact ake e
 |FW aY=>obtain⟨_,⟨_,_,_,e,_⟩,_⟩:=x;exact ake e
 |wX lo aB=>obtain⟨_,_,_,e⟩:=x;exact ake e
 |ck bx u=>obtain⟨e,_⟩:=x;exact ake e
 |gd ps=>exact ake (show h.get? a=some _ from x)|met f y=>exact ake (show h.get? a=some _ from x)|ext qP=>obtain⟨_,⟨_,e⟩,_⟩:=x;exact ake e
theorem ana.D5{α β:Type}{F G:α->β->Prop}:∀{qg:List α}{l₂:List β},ana F qg l₂->(∀a b,F a b->G a b)->ana G qg l₂
 |_,_,.nil,_=>.nil|_,_,.cons r t,f=>.cons (f _ _ r) (ana.D5 t f)
def gx.r9(x:gx P w H h a o)(k:∀b u,(b=a\/H b=some (.own a))->h.get? b=some u->h'.get? b=some u)
  (a':∀b,H b=some (.own a)->H' b=some (.own a)) (bM:∀b xs,H b=some (.t xs)->H' b=some (.t xs)):gx P w H' h' a o:=by
 induction o with
 |l xs=>obtain⟨z,its,n,r,e⟩:=x;exact⟨z,its,n,r,k _ _ (.inl rfl) e⟩
 |t xs=>obtain⟨z,its,r,bx,e,c⟩:=x;exact⟨z,its,r,bx,k _ _ (.inl rfl) e,c⟩
 |ff aq=>obtain⟨z,y,vs,r,bx,ay,cf,e,c⟩:=x;exact⟨z,y,vs,r,bx,ay,cf,k _ _ (.inl rfl) e,c⟩
 |hq aq=>
  obtain⟨z,y,xs,r,bx,ay,cf,e,c⟩:=x;exact⟨z,y,xs,ana.D5 r λp q z=>⟨z.1,bM _ _ z.2.1,z.2.2⟩,bx,ay,cf,k _ _ (.inl rfl) e,c⟩
 |set S n=>obtain⟨bx,ay,cf,t,e,c⟩:=x;exact⟨bx,ay,cf,t,k _ _ (.inl rfl) e,c⟩
 |ins C b7 aY=>
  obtain⟨d,z,ne,e,ek,⟨df,ay,cf,aC,c⟩,r⟩:=x;exact⟨a' _ d,z,ne,k _ _ (.inl rfl) e,ek,⟨df,ay,cf,k _ _ (.inr d) aC,c⟩,r⟩
 |own y=>obtain⟨bx,e⟩:=x;exact⟨bx,k _ _ (.inl rfl) e⟩
 |FW aY=>obtain⟨ek,⟨df,ay,cf,e,c⟩,r⟩:=x;exact⟨ek,⟨df,ay,cf,k _ _ (.inl rfl) e,c⟩,r⟩
 |wX lo aB=>obtain⟨t,u,v,e⟩:=x;exact⟨t,u,v,k _ _ (.inl rfl) e⟩
 |ck bx u a6=>obtain⟨e,q⟩:=x;exact⟨k _ _ (.inl rfl) e,a6 q⟩
 |gd ps=>
  have e:h.get? a=some { cls:=.none,data:=.fields ps }:=x;show h'.get? a=some { cls:=.none,data:=.fields ps };exact k a _ (.inl rfl) e
 |met f y=>
  have e:h.get? a=some (W.methodObj (.ref f) (.ref y)):=x;show h'.get? a=some (W.methodObj (.ref f) (.ref y));exact k a _ (.inl rfl) e
 |ext qP=>obtain⟨p,⟨o,e⟩,st⟩:=x;exact⟨st _ _ p λo q=>k _ _ (.inl rfl) q,⟨o,k _ _ (.inl rfl) e⟩,st⟩
def e_.lt(x:e_ P w H h)(e:H a=some o):a<h.objs.size:=(x a o e).lt
def e_.fresh(x:e_ P w H h)(e:h.objs.size<=a):H a=none:=by
 cases q:H a with
 |none=>rfl|some u=>exact absurd (akB (x.lt q) e) (akI _)
theorem e_.kept(x:e_ P w H h)(k:∀b u,h.get? b=some u->h'.get? b=some u):e_ P w H h':=λa o e=>
 (x a o e).r9 (λb u _ q=>k b u q) (λ_ q=>q) λ_ _ q=>q
def e_.laid(x:e_ P w H h)(k:∀b u,h.get? b=some u->h'.get? b=some u)(aH:h.objs.size<=a)(new:gx P w (upd H a o) h' a o):e_ P w (upd H a o) h':=λb u e=>by
 have aF:=x.fresh aH
 by_cases ab:b=a
 .subst ab;rw[dy]at e;cases e;exact new
 .rw[dj ab]at e
  exact(x b u e).r9 (λc v _ q=>k c v q) (λc q=>by rw[dj (kb q aF)];exact q) λc xs q=>by rw[dj (kb q aF)];exact q
end
def fV(H:ax)(a:Addr)(u:gH):Prop:=H a=some u\/∃o,H a=some (.ck o u)
def fV.ok(r:fV H a u)(x:e_ P w H h):gx P w H h a u:=by
 rcases r with r|⟨o,r⟩
 .exact x a u r
 .obtain⟨_,q⟩:=x a _ r
  exact q
def uF:Option gH->Prop
 |some (.l _)=>True|some (.ff _)=>True|some (.hq _)=>True|some (.set _ _)=>True|some (.ins _ _ _)=>True|some (.ext _)=>True|_=>False
section
variable{P:akh}{w:World}{H:ax}{h h':Heap}{x e:Addr}{o':gH}
def e_.write(ok:e_ P w H h)(ka:uF (H x))(he:e=x\/H e=some (.own x))(k:∀b u,b≠e->h.get? b=some u->h'.get? b=some u)(tg:∃u,h'.get? e=some u)
  (new:gx P w (upd H x o') h' x o'):e_ P w (upd H x o') h':=λb u q=>by
 have Mj:∀c y,H c=some (.own y)->c≠x:=λc y r z=>by subst z;rw[r]at ka;exact ka
 have aaZ:∀c xs,H c=some (.t xs)->c≠x:=λc xs r z=>by subst z;rw[r]at ka;exact ka
 by_cases ab:b=x
 .subst ab;rw[dy]at q;cases q;exact new
 .rw[dj ab]at q
  by_cases rm:b=e
  .have hy:H b=some (.own x):=by
    rcases he with z|z
    .exact absurd (rm.trans z) ab
    .rw[rm];exact z
   rw[q]at hy;cases hy;obtain⟨v,bI⟩:=tg;exact⟨v,by rw[rm];exact bI⟩
  .refine(ok b u q).r9 (λc v aD r=>k c v ?_ r) (λc r=>by rw[dj (Mj c b r)];exact r) λc xs r=>by rw[dj (aaZ c xs r)];exact r
   rcases aD with rfl|aD
   .exact rm
   .rintro rfl
    rcases he with z|z
    .exact Mj c b aD z
    .rw[aD]at z;cases z;exact ab rfl
end
structure gJ(aY ex:List Addr)(H H':ax)(h h':Heap):Prop where
 keep:∀b o,h.get? b=some o->H b=none->b∉aY->b∉ex->h'.get? b=some o
 slot:∀b o,h.get? b=some o->H b=none->b∈aY->b∉ex->∃cS,h'.get? b=some { o with slots:=cS }
 free:∀b o,h.get? b=some o->H b=none->b∉ex->H' b=none
 there:∀b o,h.get? b=some o->b∉ex->∃o',h'.get? b=some o'
 qE:∀b xs,H b=some (.t xs)->H' b=some (.t xs)
 oq:∀b o u,H b=some (.ck o u)->H' b=some (.ck o u)
 ph:∀b ps,H b=some (.gd ps)->∃more,H' b=some (.gd (ps++more))
section
variable{aY ex:List Addr}{H H1:ax}{h ae h':Heap}{a x e:Addr}{o:gH}
def gJ.any(u:gJ aY ex H H1 h ae)(q:h.get? b=some bx)(n:H b=none)(ag:b∉ex):∃cS,ae.get? b=some { bx with slots:=cS }:=by
 by_cases ab:b∈aY
 .exact u.slot b bx q n ab ag
 .exact⟨bx.slots,u.keep b bx q n ab ag⟩
def gJ.kept(k:∀b u,h.get? b=some u->h'.get? b=some u):gJ aY ex H H h h':=
 ⟨λb bx q _ _ _=>k b bx q,λb bx q _ _ _=>⟨bx.slots,k b bx q⟩,λ_ _ _ n _=>n,λb bx q _=>⟨bx,k b bx q⟩,λ_ _ q=>q,λ_ _ _ q=>q,λ_ ps q=>⟨#[],by rw[q];simp⟩⟩
def gJ.refl:gJ aY ex H H h h:=gJ.kept λ_ _ q=>q
def gJ.laid(k:∀b u,h.get? b=some u->h'.get? b=some u)(aH:h.objs.size<=a)(aF:H a=none):gJ aY ex H (upd H a o) h h' where
 keep:=λb u q _ _ _=>k b u q
 slot:=λb u q _ _ _=>⟨u.slots,k b u q⟩
 free:=λb u q n _=>by rw[dj (akj (akB (ake q) aH))];exact n
 there:=λb u q _=>⟨u,k b u q⟩
 qE:=λb xs q=>by rw[dj (kb q aF)];exact q
 oq:=λb u xs q=>by rw[dj (kb q aF)];exact q
 ph:=λb ps q=>⟨#[],by rw[dj (kb q aF),q];simp⟩
def gJ.write(ka:uF (H x))(he:e=x\/H e=some (.own x))(k:∀b u,b≠e->h.get? b=some u->h'.get? b=some u)(tg:∃u,h'.get? e=some u):gJ aY ex H (upd H x o) h h':=by
 have ag:∀b,H b=none->b≠x:=λb n z=>by subst z;rw[n]at ka;exact ka
 have ab:∀b,H b=none->b≠e:=λb n z=>by
  subst z;rcases he with r|r
  .exact ag b n r
  .rw[n]at r;cases r
 have hm:∀b u,H b=some u->¬uF (some u)->b≠x:=λb u q nm z=>by subst z;rw[q]at ka;exact nm ka
 refine⟨λb u q n _ _=>k b u (ab b n) q,λb u q n _ _=>⟨u.slots,k b u (ab b n) q⟩,λb u q n _=>by rw[dj (ag b n)];exact n,λb u q _=>?_,
  λb xs q=>by rw[dj (hm b _ q λz=>z)];exact q,λb u xs q=>by rw[dj (hm b _ q λz=>z)];exact q,λb ps q=>⟨#[],by rw[dj (hm b _ q λz=>z),q];simp⟩⟩
 by_cases rm:b=e
 .subst rm;exact tg
 .exact⟨u,k b u rm q⟩
end
def Ay(h:Heap)(H:ax):List Addr:=(akG h.objs.size).filter λa=>(H a).isSome
def oC(h:Heap)(H:ax):Heap:=W.hideAll h (Ay h H)
def Yf(h:Heap)(H:ax):(oC h H).objs.size=h.objs.size:=W.hideAll_size _ _
def CX{h:Heap}{H:ax}(e:h.get? b=some o)(n:H b=none):(oC h H).get? b=some o:=
 W.hideAll_get _ e λhm=>by
  have q:(H b).isSome=true:=(al1.mp hm).2;rw[n]at q;simp at q
def aa4{h:Heap}{H:ax}(e:(oC h H).get? b=some o):h.get? b=some o/\H b=none:=by
 have cA:h.get? b=some o:=W.of_hideAll (Ay h H) e;refine⟨cA,?_⟩
 cases q:H b with
 |none=>rfl|some x=>
  have hm:b∈Ay h H:=al1.mpr ⟨ak4.mpr (ake cA),by simp[q]⟩;have z:(oC h H).get? b=none:=W.hideAll_none (Ay h H) hm;rw[z]at e;cases e
def Qs(g h:Heap)(L:Addr):List (Addr×Obj):=(akG h.objs.size).filterMap λa=>if a=L\/(g.get? a).isSome=true then none else(h.get? a).map λo=>(a,o)
def rest(g h:Heap)(L d:Addr):List (Addr×Obj):=(Qs g h L).filter λp=>decide (p.1≠d)
structure Mod(K:aT)(mg:bo)(base:Heap):Prop where
 tr:K.In base
 glob:base.Ns akw mg
 blt:∃c6,base.Ns aog c6/\∀x:Str,x≠"__name__"->c6 x=akJ x
 nolimit:base.NoLimit
structure aS where
 prog:akh
 w:World
 K:aT
 mg:Str->Option Value
 base:Heap
 A:akl
 N:List Str
 g0:ajZ
 H₀:ax
 env:Env
 outer:List Env
 stack:List Env
 ex:List Addr
 fn:Str->Bool
 calm:Bool
 lO:List (Addr×Obj)
 dV:Value->ajZ->Prop
def ml(l:List Env):List Addr:=l.filterMap (·.frame)
abbrev aS.aY(X:aS):List Addr:=ml X.outer
def qY(sc:Scope)(x:Str):Prop:=sc.names.lookup x=some .local\/sc.names.lookup x=some .cell\/sc.names.lookup x=some .free
def Loc(sc:Scope)(x:Str):Prop:=sc.names.lookup x=some .local\/sc.names.lookup x=some .cell
def Look(env:Env)(h:Heap)(m:bo)(x:Str)(u:Value):Prop:=
 (env.kindOf x=some .local/\m x=some u)\/((env.kindOf x=some .cell\/env.kindOf x=some .free)/\∃c,env.cells.lookup x=some c/\h.IsCell c (some u))
structure aS.Ok(X:aS):Prop where
 mod:Mod X.K X.mg X.base
 kind:X.env.scope.kind=.function
 glob:X.env.globals=akw
 blt:X.env.builtins=aog
 above:X.g0.heap.objs.size<=X.env.locals
 inj:∀x y c,X.env.cells.lookup x=some c->X.env.cells.lookup y=some c->x=y
 has:∀x,(X.env.kindOf x=some .cell\/X.env.kindOf x=some .free)->∃c,X.env.cells.lookup x=some c
 uY:∀x c,X.fn x=true->X.env.cells.lookup x=some c->X.g0.heap.objs.size<=c
 hd:X.calm=true->X.A.handled=none
 frames:X.A.frames=some X.stack
 Ak:X.stack=X.outer\/(X.stack=X.env::X.outer/\X.env.frame=some X.env.locals)
 yx:∀b∈X.ex,b≠X.env.locals/\∀x c,X.env.cells.lookup x=some c->c≠b
 bs:∀b o,X.base.get? b=some o->X.g0.heap.get? b=some o/\X.H₀ b=none
 l_:X.base.objs.size<=X.g0.heap.objs.size
 wq:∀b o,X.base.get? b=some o->b∉X.ex
 u_:∀b∈X.ex,b∉X.aY
 kM:X.g0.heap.FunFrames X.base X.outer
 pZ:∀b∈X.aY,X.H₀ b=none
structure Inv(X:aS)(zn:c2)(Y:List (Option V))(H:ax)(s:ajZ):Prop where
 ok:X.Ok
 os:s.os=X.g0.os
 bare:ano s.gens
 base:gJ X.aY X.ex X.H₀ H X.g0.heap s.heap
 loc:∃m,s.heap.Ns X.env.locals m/\∀(i:Nat)(x:Str)(v:V),X.N[i]? = some x->Y[i]? = some (some v)->qY X.env.scope x->∃u,RelV v u/\Look X.env s.heap m x u
 cell:∀x c,X.env.cells.lookup x=some c->∃v,s.heap.IsCell c v
 free:H X.env.locals=none
 mj:∀x c,X.env.cells.lookup x=some c->H c=none
 pin:∀p∈X.lO++zn,s.heap.get? p.1=some p.2/\H p.1=none/\p.1≠X.env.locals/\p.1∉X.aY/\∀v,p.2.data≠.cell v
 bO:e_ X.prog X.w H s.heap
 len:Y.length=X.N.length
section
variable{X:aS}{zn:c2}{Y:List (Option V)}{H H':ax}{s:ajZ}{h':Heap}
def aS.Ok.aaT(ok:X.Ok)(e:X.base.get? b=some o):b∉X.aY:=λab=>by
 have:=(ok.kM.mem ab).1;rw[e]at this;cases this
def Inv.bs(I:Inv X zn Y H s):∀b o,X.base.get? b=some o->s.heap.get? b=some o/\H b=none:=λb o e=>
 ⟨I.base.keep b o (I.ok.bs b o e).1 (I.ok.bs b o e).2 (I.ok.aaT e) (I.ok.wq b o e),I.base.free b o (I.ok.bs b o e).1 (I.ok.bs b o e).2 (I.ok.wq b o e)⟩
def Inv.c_(I:Inv X zn Y H s):∀b o,X.base.get? b=some o->s.heap.get? b=some o:=λb o e=>(I.bs b o e).1
def Inv.mod(I:Inv X zn Y H s):Mod X.K X.mg X.base:=I.ok.mod
def Inv.e6(I:Inv X zn Y H s):X.K.In s.heap:=I.ok.mod.tr.keeps I.c_
def Inv.fr(I:Inv X zn Y H s):∃m,Fr X.base X.env.locals s.heap m:=
 let⟨m,aF,_⟩:=I.loc
 ⟨m,aF,I.c_,alg I.ok.l_ I.ok.above⟩
def Inv.lt(I:Inv X zn Y H s):X.env.locals<s.heap.objs.size:=let⟨_,aF,_⟩:=I.loc;aF.lt
def Inv.lR(I:Inv X zn Y H s):X.g0.heap.objs.size<=s.heap.objs.size:=alg I.ok.above (ak8 I.lt)
def Inv.aaV(I:Inv X zn Y H s)(h:s.heap.objs.size<=a):a∉X.aY:=λab=>by
 obtain⟨_,o,a',_⟩:=I.ok.kM.mem ab;exact absurd (akB (ake a') (alg I.lR h)) (akI _)
def Inv.q3(I:Inv X zn Y H s):∀x c,X.env.cells.lookup x=some c->c≠X.env.locals:=λx c e z=>by
 obtain⟨v,o,a',hd⟩:=I.cell x c e;obtain⟨m,⟨o',ay,cf,ib,vy,_⟩,_⟩:=I.loc;rw[z,ib]at a';cases a';rw[vy]at hd;cases hd
def Inv.kM(I:Inv X zn Y H s):s.heap.FunFrames X.base X.outer:=by
 have all:∀(l:List Env),(∀b∈ml l,b∈X.aY)->X.g0.heap.FunFrames X.base l->s.heap.FunFrames X.base l:=by
  intro l
  induction l with
  |nil=>intro _ _;trivial|cons env r a6=>
   intro aj ar;obtain⟨aw,⟨L,o,hf,aF,a',hd⟩,aA⟩:=ar;have lD:L∈X.aY:=aj L (by unfold ml;rw[anH,hf];exact aj9);obtain⟨cS,e⟩:=I.base.slot L o a' (I.ok.pZ L lD) lD λz=>I.ok.u_ L z lD
   exact⟨aw,⟨L,_,hf,aF,e,hd⟩,a6 (λb ab=>aj b (by unfold ml;rw[anH,hf];exact aj4 _ ab)) aA⟩
 exact all X.outer (λ_ ab=>ab) I.ok.kM
def Inv.stack(I:Inv X zn Y H s):s.heap.FunFrames X.base X.stack:=by
 rcases I.ok.Ak with e|⟨e,hf⟩
 .rw[e];exact I.kM
 .rw[e]
  obtain⟨m,aF,_⟩:=I.loc;refine .cons (by rw[I.ok.kind];decide) hf aF ?_ I.kM;exact Heap.get?_none_of_le (alg I.ok.l_ I.ok.above)
def Inv.Fn(I:Inv X zn Y H s):∀b∈ml X.stack,b∈X.env.locals::X.aY:=λb ab=>by
 rcases I.ok.Ak with e|⟨e,hf⟩
 .rw[e]at ab;exact aj4 _ ab
 .rw[e]at ab
  unfold ml at ab;rw[anH,hf]at ab;exact ab
def Inv.OQ(I:Inv X zn Y H s):∀b∈ml X.stack,H b=none:=λb ab=>by
 rcases aj5.mp (I.Fn b ab)with e|ab
 .rw[e];exact I.free
 .obtain⟨_,o,a',_⟩:=I.ok.kM.mem ab
  exact I.base.free b o a' (I.ok.pZ b ab) λz=>I.ok.u_ b z ab
def Inv.step{g':Array GenState}{t':Nat}{d':Drawn}{ch:List Addr}(I:Inv X zn Y H s)
  (nC:∀b∈ch,(b∈X.ex\/X.g0.heap.objs.size<=b)/\b≠X.env.locals/\(∀x c,X.env.cells.lookup x=some c->c≠b)/\∀p∈X.lO++zn,p.1≠b)
  (keep:∀b o,b≠X.env.locals->b∉X.aY->b∉ch->s.heap.get? b=some o->H b=none->h'.get? b=some o)
  (slot:∀b o,b≠X.env.locals->b∈X.aY->b∉ch->s.heap.get? b=some o->H b=none->∃cS,h'.get? b=some { o with slots:=cS }) (free:∀b o,b∉ch->s.heap.get? b=some o->H b=none->H' b=none)
  (there:∀b o,b∉ch->s.heap.get? b=some o->∃o',h'.get? b=some o')
  (qE:∀b xs,H b=some (.t xs)->H' b=some (.t xs)) (oq:∀b o u,H b=some (.ck o u)->H' b=some (.ck o u)) (ph:∀b ps,H b=some (.gd ps)->∃more,H' b=some (.gd (ps++more)))
  (ns:∀m,s.heap.Ns X.env.locals m->h'.Ns X.env.locals m) (bO:e_ X.prog X.w H' h') (aV:ano g') :
  Inv X zn Y H' { s with heap:=h',gens:=g',drawn:=d',toks:=t' }:=by
 have Mb:∀b o,X.g0.heap.get? b=some o->b≠X.env.locals:=λb o e=>akj (akB (ake e) I.ok.above)
 have zQ:∀b o,X.g0.heap.get? b=some o->b∉X.ex->b∉ch:=λb o e ag ab=>by
  rcases(nC b ab).1 with z|z
  .exact ag z
  .exact absurd (akB (ake e) z) (akI _)
 have cellK:∀x c,X.env.cells.lookup x=some c->∀v,s.heap.IsCell c v->h'.IsCell c v:=λx c e v aW=>by
  obtain⟨o,a',hd⟩:=aW;have wj:c∉ch:=λz=>(nC c z).2.2.1 x c e rfl
  by_cases aD:c∈X.aY
  .obtain⟨cS,q⟩:=slot c o (I.q3 x c e) aD wj a' (I.mj x c e)
   exact⟨_,q,hd⟩
  .exact⟨o,keep c o (I.q3 x c e) aD wj a' (I.mj x c e),hd⟩
 refine⟨I.ok,I.os,aV,⟨λb o e n ab ag=>?_,λb o e n ab ag=>?_,λb o e n ag=>?_,λb o e ag=>?_,λb xs e=>qE b xs (I.base.qE b xs e),λb o xs e=>oq b o xs (I.base.oq b o xs e),λb ps e=>?_⟩,?_,λx c e=>?_,?_,λx c e=>?_,λp aH=>?_,bO,I.len⟩
 .exact keep b o (Mb b o e) ab (zQ b o e ag) (I.base.keep b o e n ab ag) (I.base.free b o e n ag)
 .obtain⟨cS,av⟩:=I.base.slot b o e n ab ag
  obtain⟨w8,aC⟩:=slot b _ (Mb b o e) ab (zQ b o e ag) av (I.base.free b o e n ag);exact⟨w8,aC⟩
 .obtain⟨o',av⟩:=I.base.there b o e ag
  exact free b o' (zQ b o e ag) av (I.base.free b o e n ag)
 .obtain⟨o',av⟩:=I.base.there b o e ag
  exact there b o' (zQ b o e ag) av
 .obtain⟨tx,av⟩:=I.base.ph b ps e
  obtain⟨tA,aC⟩:=ph b _ av;exact⟨tx++tA,by rw[aC,Array.append_assoc]⟩
 .obtain⟨m,aF,ar⟩:=I.loc
  refine⟨m,ns m aF,λi x v av aC c4=>?_⟩;obtain⟨u,r,l⟩:=ar i x v av aC c4;refine⟨u,r,?_⟩;rcases l with l|⟨k,c,e,z⟩
  .exact .inl l
  .exact .inr ⟨k,c,e,cellK x c e _ z⟩
 .obtain⟨v,z⟩:=I.cell x c e
  exact⟨v,cellK x c e v z⟩
 .obtain⟨m,⟨o,_,_,a',_⟩,_⟩:=I.loc
  exact free _ o (λz=>(nC _ z).2.1 rfl) a' I.free
 .obtain⟨v,o,a',hd⟩:=I.cell x c e
  exact free c o (λz=>(nC c z).2.2.1 x c e rfl) a' (I.mj x c e)
 .obtain⟨e,n,ne,kc,d⟩:=I.pin p aH
  have wj:p.1∉ch:=λz=>(nC p.1 z).2.2.2 p aH rfl
  exact⟨keep p.1 p.2 ne kc wj e n,free p.1 p.2 wj e n,ne,kc,d⟩
def Inv.un{t':Nat}(I:Inv X zn Y H s)(u:gJ X.aY [] H H' s.heap h')(bO:e_ X.prog X.w H' h'):Inv X zn Y H' { s with heap:=h',toks:=t' }:=by
 obtain⟨m,⟨o,ay,cf,a',r⟩,_⟩:=id I.loc;obtain⟨cS,lD⟩:=u.any a' I.free (by simp);exact I.step (g':=s.gens) (d':=s.drawn) (ch:=[]) (λ_ z=>nomatch z) (λb o _ ab _ e n=>u.keep b o e n ab (by simp)) (λb o _ ab _ e n=>u.slot b o e n ab (by simp)) (λb o _ e n=>u.free b o e n (by simp)) (λb o _ e=>u.there b o e (by simp)) u.qE u.oq u.ph (λeD hm=>by
  obtain⟨o',B',B7,ib,bJ⟩:=hm;rw[a']at ib;cases ib;exact⟨_,B',B7,lD,bJ⟩) bO I.bare
def Inv.call{g':Array GenState}{t':Nat}{d':Drawn}{ch:List Addr}(I:Inv X zn Y H s)(u:gJ (ml X.stack) ch H H' s.heap h')(bO:e_ X.prog X.w H' h')(aV:ano g')
  (nC:∀b∈ch,(b∈X.ex\/X.g0.heap.objs.size<=b)/\b≠X.env.locals/\(∀x c,X.env.cells.lookup x=some c->c≠b)/\∀p∈X.lO++zn,p.1≠b) :
  Inv X zn Y H' { s with heap:=h',gens:=g',drawn:=d',toks:=t' }:=by
 obtain⟨m,⟨o,ay,cf,a',r⟩,_⟩:=id I.loc;obtain⟨cS,lD⟩:=u.any a' I.free λz=>(nC _ z).2.1 rfl
 exact I.step (ch:=ch) nC (λb o lD ab aD e n=>u.keep b o e n (λz=>(aj5.mp (I.Fn b z)).elim lD ab) aD) (λb o _ _ aD e n=>u.any e n aD) (λb o aD e n=>u.free b o e n aD) (λb o aD e=>u.there b o e aD) u.qE u.oq u.ph (λeD hm=>by
  obtain⟨o',B',B7,ib,bJ⟩:=hm;rw[a']at ib;cases ib;exact⟨_,B',B7,lD,bJ⟩) bO aV
def Inv.turned{t':Nat}{it:Addr}(I:Inv X zn Y H s)(k:∀b o,b≠it->s.heap.get? b=some o->h'.get? b=some o)(aF:H it=none)(lD:it≠X.env.locals)
  (ae:it∈X.ex\/X.g0.heap.objs.size<=it) (ah:∀x c,X.env.cells.lookup x=some c->c≠it) (bN:∀p∈X.lO++zn,p.1≠it):Inv X zn Y H { s with heap:=h',toks:=t' }:=by
 have wm:∀b u,H b=some u->b≠it:=λb u e z=>by rw[z,aF]at e;cases e
 refine I.step (g':=s.gens) (d':=s.drawn) (ch:=[it]) (λb ab=>?_) (λb o _ _ aD e _=>k b o (λz=>aD (by simp[z])) e) (λb o _ _ aD e _=>⟨o.slots,k b o (λz=>aD (by simp[z])) e⟩) (λ_ _ _ _ n=>n)
  (λb o aD e=>⟨o,k b o (λz=>aD (by simp[z])) e⟩) (λ_ _ e=>e) (λ_ _ _ e=>e) (λb ps e=>⟨#[],by rw[e];simp⟩) (λm hm=>?_) (λb u e=>?_) I.bare
 .have e:b=it:=by simpa using ab
  subst e;exact⟨ae,lD,ah,bN⟩
 .obtain⟨o,ay,cf,a',r⟩:=hm
  exact⟨o,ay,cf,k _ o (amT lD) a',r⟩
 .refine(I.bO b u e).r9 (λc v aD q=>k c v ?_ q) (λ_ q=>q) λ_ _ q=>q
  rcases aD with z|z
  .rw[z];exact wm b u e
  .exact wm c _ z
theorem Inv.tok(I:Inv X zn Y H s)(t:Nat):Inv X zn Y H { s with toks:=t }:=I.un (h':=s.heap) (t':=t) gJ.refl I.bO
def Inv.kept{t':Nat}(I:Inv X zn Y H s)(k:∀b u,s.heap.get? b=some u->h'.get? b=some u):Inv X zn Y H { s with heap:=h',toks:=t' }:=I.un (gJ.kept k) (I.bO.kept k)
def Inv.laid{t':Nat}(I:Inv X zn Y H s)(k:∀b u,s.heap.get? b=some u->h'.get? b=some u)(aH:s.heap.objs.size<=a)(new:gx X.prog X.w (upd H a o) h' a o) :
  Inv X zn Y (upd H a o) { s with heap:=h',toks:=t' }:=I.un (gJ.laid k aH (I.bO.fresh aH)) (I.bO.laid k aH new)
def Inv.write{x e:Addr}{o:gH}{t':Nat}(I:Inv X zn Y H s)(ka:uF (H x))(he:e=x\/H e=some (.own x))(k:∀b u,b≠e->s.heap.get? b=some u->h'.get? b=some u)(tg:∃u,h'.get? e=some u)
  (new:gx X.prog X.w (upd H x o) h' x o):Inv X zn Y (upd H x o) { s with heap:=h',toks:=t' }:=I.un (gJ.write ka he k tg) (I.bO.write ka he k tg new)
def Inv.weak{Y':List (Option V)}(I:Inv X zn Y H s)(ar:Y'.length=Y.length)(w:∀(i:Nat) v,Y'[i]? = some (some v)->Y[i]? = some (some v)):Inv X zn Y' H s:=
 ⟨I.ok,I.os,I.bare,I.base,let⟨m,aF,Ym⟩:=I.loc;⟨m,aF,λi x v av aC c4=>Ym i x v av (w i v aC) c4⟩,I.cell,I.free,I.mj,I.pin,I.bO,ar.trans I.len⟩
def Inv.MJ(I:Inv X zn Y H s)(h:∀p∈acx,s.heap.get? p.1=some p.2/\H p.1=none/\p.1≠X.env.locals/\p.1∉X.aY/\∀v,p.2.data≠.cell v):Inv X acx Y H s:=
 ⟨I.ok,I.os,I.bare,I.base,I.loc,I.cell,I.free,I.mj,λp aH=>(akx.mp aH).elim (λz=>I.pin p (ant _ z)) (h p),I.bO,I.len⟩
def Mi{N:List Str}(hN:N.Nodup){i j:Nat}{x:Str}(a:N[i]? = some x)(b:N[j]? = some x):i=j:=by
 obtain⟨ae,av⟩:=aj2.mp a;obtain⟨ah,aC⟩:=aj2.mp b;exact(List.getElem_inj hN).mp (av.trans aC.symm)
theorem OS{M:Model}{A:akl}{E:cB}{i:Nat}{x:Str}{v:V}{u:Value}{Q:Unit->ajZ->Prop}(I:Inv X zn Y H s)(hN:X.N.Nodup)(aB:X.N[i]? = some x)(ag:Loc X.env.scope x)(r:RelV v u)
  (h:∀aP,Inv X zn (Y.set i (some v)) H aP->(∃a,anu a s.heap aP.heap/\(a=X.env.locals\/X.env.cells.lookup x=some a))->Q () aP) (hf:X.fn x=true\/X.env.scope.names.lookup x=some .local:=by first|exact .inl rfl|exact .inr rfl|assumption):wpAny M A (storeName X.env x u) Q E s:=by
 obtain⟨m,aF,ar⟩:=id I.loc;have XO:(X.env.scope.kind==.class||(X.env.scope.kind==.module&&X.env.locals != X.env.globals))=false:=by rw[I.ok.kind];rfl
 have Kd:i<Y.length:=by rw[I.len];exact(aj2.mp aB).1
 have q3:=I.q3;have tracked:∀{a:Addr}{h':Heap},(∃o,s.heap.get? a=some o/\H a=none)->anu a s.heap h'->e_ X.prog X.w H h':=λ{a h'} ak aj b bx e=>by
  obtain⟨_,_,yV⟩:=ak;refine(I.bO b bx e).r9 (λc eR aD q=>(aj.2 c ?_).trans q) (λ_ q=>q) λ_ _ q=>q
  rintro rfl;rcases aD with rfl|aD
  .rw[yV]at e;cases e
  .rw[yV]at aD;cases aD
 rcases ag with aw|aw
 .refine wpAny_storeName_local aw aF (λh' Yr aj=>?_) XO
  obtain⟨aa2,_,_,mB,_⟩:=id aF;refine h _ ⟨I.ok,I.os,I.bare,⟨λb o e n ab ag=>?_,λb o e n ab ag=>?_,I.base.free,λb o e ag=>?_,I.base.qE,I.base.oq,I.base.ph⟩,⟨_,Yr,λj y fx av aC c4=>?_⟩,λy c e=>?_,I.free,I.mj,λp aH=>?_,tracked ⟨aa2,mB,I.free⟩ aj,by simpa using I.len⟩ ⟨_,aj,.inl rfl⟩
  .exact(aj.2 b (akj (akB (ake e) I.ok.above))).trans (I.base.keep b o e n ab ag)
  .obtain⟨cS,av⟩:=I.base.slot b o e n ab ag
   exact⟨cS,(aj.2 b (akj (akB (ake e) I.ok.above))).trans av⟩
  .obtain⟨o',av⟩:=I.base.there b o e ag
   exact⟨o',(aj.2 b (akj (akB (ake e) I.ok.above))).trans av⟩
  .by_cases aR:j=i
   .subst aR
    rw[aB]at av;cases av;rw[akX Kd]at aC;cases aC;exact⟨u,r,.inl ⟨aw,by simp⟩⟩
   .rw[akn (amT aR)]at aC
    obtain⟨u',bJ,q⟩:=ar j y fx av aC c4;refine⟨u',bJ,?_⟩;rcases q with⟨k,e⟩|⟨k,c,e,z⟩
    .refine .inl ⟨k,?_⟩
     have:y≠x:=λe=>aR (Mi hN av (e▸aB))
     simp[this,e]
    .exact .inr ⟨k,c,e,z.sameBut aj (q3 y c e)⟩
  .obtain⟨eR,z⟩:=I.cell y c e
   exact⟨eR,z.sameBut aj (q3 y c e)⟩
  .obtain⟨e,n,ne,kc,d⟩:=I.pin p aH
   exact⟨(aj.2 p.1 ne).trans e,n,ne,kc,d⟩
 .have CV:X.fn x=true:=by
   rcases hf with z|z
   .exact z
   .rw[z]at aw;cases aw
  obtain⟨c,aD⟩:=I.ok.has x (.inl aw);obtain⟨eR,z⟩:=I.cell x c aD;refine wpAny_storeName_cell I.ok.kind aw aD z (λh' yS aj=>?_);obtain⟨cZ,y0,Yy⟩:=id z;refine h { s with heap:=h' } ⟨I.ok,I.os,I.bare,⟨λb o e n ab ag=>?_,λb o e n ab ag=>?_,I.base.free,λb o e ag=>?_,I.base.qE,I.base.oq,I.base.ph⟩,⟨m,aF.sameBut aj (amT (q3 x c aD)),λj y fx av aC c4=>?_⟩,λy c' e=>?_,I.free,I.mj,λp aH=>?_,tracked ⟨cZ,y0,I.mj x c aD⟩ aj,by simpa using I.len⟩ ⟨c,aj,.inr aD⟩
  .exact(aj.2 b (akj (akB (ake e) (I.ok.uY x c CV aD)))).trans (I.base.keep b o e n ab ag)
  .obtain⟨cS,av⟩:=I.base.slot b o e n ab ag
   exact⟨cS,(aj.2 b (akj (akB (ake e) (I.ok.uY x c CV aD)))).trans av⟩
  .obtain⟨o',av⟩:=I.base.there b o e ag
   exact⟨o',(aj.2 b (akj (akB (ake e) (I.ok.uY x c CV aD)))).trans av⟩
  .by_cases aR:j=i
   .subst aR
    rw[aB]at av;cases av;rw[akX Kd]at aC;cases aC;exact⟨u,r,.inr ⟨.inl aw,c,aD,yS⟩⟩
   .rw[akn (amT aR)]at aC
    obtain⟨u',bJ,q⟩:=ar j y fx av aC c4;refine⟨u',bJ,?_⟩;rcases q with q|⟨k,c',e,k'⟩
    .exact .inl q
    .refine .inr ⟨k,c',e,k'.sameBut aj ?_⟩
     rintro rfl;exact aR (Mi hN av (I.ok.inj _ _ _ e aD▸aB))
  .by_cases rn:c'=c
   .subst rn;exact⟨_,yS⟩
   .obtain⟨js,eb⟩:=I.cell y c' e
    exact⟨js,eb.sameBut aj rn⟩
  .obtain⟨e,n,ne,kc,d⟩:=I.pin p aH
   refine⟨(aj.2 p.1 ?_).trans e,n,ne,kc,d⟩;intro q;rw[q,y0]at e;have hy:cZ=p.2:=akv e;exact d eR (by rw[<-hy];exact Yy)
def OR{M:Model}{A:akl}{E:cB}{i:Nat}{x:Str}{v:V}{u:Value}{Q:Unit->ajZ->Prop}(I:Inv X zn Y H s)(hN:X.N.Nodup)(aB:X.N[i]? = some x)(ag:Loc X.env.scope x)(r:RelV v u)
  (h:∀aP,Inv X zn (Y.set i (some v)) H aP->Q () aP) (hf:X.fn x=true\/X.env.scope.names.lookup x=some .local:=by first|exact .inl rfl|exact .inr rfl|assumption):wpAny M A (storeName X.env x u) Q E s:=
 OS I hN aB ag r (λaP hZ _=>h aP hZ) hf
theorem Inv.Te{aP:ajZ}{ch:List Addr}(I:Inv X zn Y H s)(a':aP.os=s.os)(u:gJ (ml X.stack) ch H H' s.heap aP.heap)(bO:e_ X.prog X.w H' aP.heap)(aV:ano aP.gens)
  (nC:∀b∈ch,(b∈X.ex\/X.g0.heap.objs.size<=b)/\b≠X.env.locals/\(∀x c,X.env.cells.lookup x=some c->c≠b)/\∀p∈X.lO++zn,p.1≠b):Inv X zn Y H' aP:=by
 obtain⟨h',g',d',t',o'⟩:=aP;have e:o'=s.os:=a';subst e;exact I.call (g':=g') (t':=t') (d':=d') u bO aV nC
end
abbrev gy:=Value->Option Addr->ax->Prop
abbrev St:=List (Option V)
abbrev cX:=V->ax->Prop
abbrev TE:=St->ax->cX->Prop
abbrev TT:=St->ax->(Bool->ax->Prop)->Prop
abbrev gj:=St->ax->(List V->ax->Prop)->Prop
structure Ends where
 bj:St->ax->Prop
 cJ:cX
 c_:St->ax->Prop:=λ_ _=>False
 b5:St->ax->Prop:=λ_ _=>False
abbrev g8:=Ends->St->ax->Prop
def gG(X:aS)(zn:c2)(Y:St)(Q:cX)(u:Value)(aP:ajZ):Prop:=∃v H',Inv X zn Y H' aP/\RelV v u/\Q v H'
def A7(X:aS)(zn:c2)(Y:St)(Q:Bool->ax->Prop)(b:Bool)(aP:ajZ):Prop:=∃H',Inv X zn Y H' aP/\Q b H'
def PT(X:aS)(zn:c2)(Y:St)(Q:List V->ax->Prop)(us:List Value)(aP:ajZ):Prop:=∃vs H',Inv X zn Y H' aP/\Vals vs us/\Q vs H'
def sH(X:aS)(zn:c2)(D:Ends)(f:Flow)(aP:ajZ):Prop:=
 match f with
 |.next=>∃Y' H',Inv X zn Y' H' aP/\D.bj Y' H'|.brk=>∃Y' H',Inv X zn Y' H' aP/\D.c_ Y' H'|.cont=>∃Y' H',Inv X zn Y' H' aP/\D.b5 Y' H'|.ret u=>∃v Y' H',Inv X zn Y' H' aP/\RelV v u/\D.cJ v H'
def bQ(X:aS)(e:Expr)(t:TE):Prop:=
 ∀(zn:c2)(s:ajZ)(Y:St)(H:ax)(Q:cX),Inv X zn Y H s->t Y H Q->wpAny (model X.prog X.w) X.A (eval e X.env) (gG X zn Y Q) X.dV s
def iO(X:aS)(e:Expr)(t:TT):Prop:=
 ∀(zn:c2)(s:ajZ)(Y:St)(H:ax)(Q:Bool->ax->Prop),Inv X zn Y H s->t Y H Q->wpAny (model X.prog X.w) X.A (isTrue e X.env (eval e X.env)) (A7 X zn Y Q) X.dV s
def ll(X:aS)(e:Expr)(t:TT):Prop:=
 ∀(whole:Sem Value)(zn:c2)(s:ajZ)(Y:St)(H:ax)(Q:Bool->ax->Prop),Inv X zn Y H s->t Y H Q->wpAny (model X.prog X.w) X.A (isTrue e X.env whole) (A7 X zn Y Q) X.dV s
def ll.pt{t:TT}(h:ll X e t):iO X e t:=h _
def fM(X:aS)(ay:List Expr)(t:gj):Prop:=
 ∀(pos:Pos)(zn:c2)(s:ajZ)(Y:St)(H:ax)(Q:List V->ax->Prop),Inv X zn Y H s->t Y H Q->wpAny (model X.prog X.w) X.A (spliced (akr pos (ajY ay X.env))) (PT X zn Y Q) X.dV s
def iM(X:aS)(st:Stmt)(t:g8):Prop:=
 ∀(zn:c2)(s:ajZ)(Y:St)(H:ax)(D:Ends),Inv X zn Y H s->t D Y H->wpAny (model X.prog X.w) X.A (exec st X.env) (sH X zn D) X.dV s
def iN(X:aS)(st:List Stmt)(t:g8):Prop:=
 ∀(zn:c2)(s:ajZ)(Y:St)(H:ax)(D:Ends),Inv X zn Y H s->t D Y H->wpAny (model X.prog X.w) X.A (execs st X.env) (sH X zn D) X.dV s
def bV{α:Type}{t:Sem α}{Q fT:α->ajZ->Prop}{M:Model}{A:akl}{E:cB}{s:ajZ}(h:wpAny M A t Q E s)(iS:∀a s,Q a s->fT a s):wpAny M A t fT E s:=akH h iS λ_ _ x=>x
section
variable{X:aS}
def afB(i:Nat):TE:=λY H Q=>∃v,Y[i]? = some (some v)/\Q v H
def pg(v:V):TE:=λ_ H Q=>Q v H
def z6(hN:X.N[i]? = some x)(bI:qY X.env.scope x)(hd:(x==("__debug__":Str))=false:=by decide)(gA:(x==("__classdict__":Str))=false:=by decide):bQ X (.Name x pos) (afB i):=by
 intro zn s Y H Q I h;obtain⟨v,e,h⟩:=h;obtain⟨m,aF,ar⟩:=I.loc;obtain⟨u,r,l⟩:=ar i x v hN e bI;have fin:gG X zn Y Q u s:=⟨v,H,I,r,h⟩;rcases l with⟨aw,hm⟩|⟨aw,c,aD,J1⟩
 .exact wpAny_Name (wpAny_loadName_local I.ok.kind aw aF hm fin) hd
 .rcases aw with aw|aw
  .exact wpAny_Name (wpAny_loadName_cell I.ok.kind aw aD J1 fin) hd
  .exact wpAny_Name (wpAny_loadName_free I.ok.kind aw aD J1 fin gA) hd
def ab9{i j pos}:bQ X (.Constant (.int i) j pos) (pg (.int i)):=λ_ _ _ H _ I h=>wpAny_Constant_int ⟨.int i,H,I.tok _,⟨_,rfl⟩,h⟩
def abU{b j pos}:bQ X (.Constant (.bool b) j pos) (pg (.az b)):=λ_ _ _ H _ I h=>Constant_bool ⟨.az b,H,I,rfl,h⟩
def acg{j pos}:bQ X (.Constant .none j pos) (pg .aI):=λ_ _ _ H _ I h=>Constant_none ⟨.aI,H,I,rfl,h⟩
def ME{x j pos}:bQ X (.Constant (.str x) j pos) (pg (.str x)):=λ_ _ _ H _ I h=>Calls.Constant_str ⟨.str x,H,I.tok _,⟨_,rfl⟩,h⟩
def eF(X:aS)(x:Str):Prop:=X.env.kindOf x=some .globalImplicit
def tv{E:cB}{zn:c2}{s:ajZ}{Y:St}{H:ax}{x:Str}{u:Value}{pos:Pos}{Q:cB}(I:Inv X zn Y H s)(aV:eF X x)(hm:X.mg x=some u)(h:Q u s)
  (hd:(x==("__debug__":Str))=false:=by decide):wpAny (model X.prog X.w) X.A (eval (.Name x pos) X.env) Q E s:=
 an3 I.ok.kind aV (Calls.loadGlobal_global (by rw[I.ok.glob];exact I.mod.glob.keeps I.c_) hm h) hd
def rE{E:cB}{zn:c2}{s:ajZ}{Y:St}{H:ax}{x:Str}{u:Value}{pos:Pos}{Q:cB}(I:Inv X zn Y H s)(aV:eF X x)(hm:X.mg x=none)(bI:akJ x=some u)(h:Q u s)
  (aF:x≠"__name__":=by decide) (hd:(x==("__debug__":Str))=false:=by decide):wpAny (model X.prog X.w) X.A (eval (.Name x pos) X.env) Q E s:=by
 obtain⟨c6,ae,ah⟩:=I.mod.blt;exact an3 I.ok.kind aV (Calls.loadGlobal_builtin (by rw[I.ok.glob];exact I.mod.glob.keeps I.c_) hm (by rw[I.ok.blt];exact ae.keeps I.c_) ((ah x aF).trans bI) h) hd
def ab8{v:V}(aV:eF X x)(hm:X.mg x=some u)(r:RelV v u)(hd:(x==("__debug__":Str))=false:=by decide):bQ X (.Name x pos) (pg v):=
 λ_ _ _ H _ I h=>tv I aV hm ⟨v,H,I,r,h⟩ hd
def wJ{v:V}(aV:eF X x)(hm:X.mg x=none)(bI:akJ x=some u)(r:RelV v u)(aF:x≠"__name__":=by decide)(hd:(x==("__debug__":Str))=false:=by decide):bQ X (.Name x pos) (pg v):=
 λ_ _ _ H _ I h=>rE I aV hm bI ⟨v,H,I,r,h⟩ aF hd
variable{a b:Expr}{bT cK:TE}{pos:Pos}
def Qc(X:aS)(op:CmpOp)(a b:Expr)(t:TE):Prop:=
 ∀(zn:c2)(s:ajZ)(Y:St)(H:ax)(Q:cX),Inv X zn Y H s->t Y H Q->
  wpAny (model X.prog X.w) X.A (eval a X.env) (λv dw=>wpAny (model X.prog X.w) X.A (eval b X.env) (λu mY=>wpAny (model X.prog X.w) X.A (akK op v u) (gG X zn Y Q) X.dV mY) X.dV dw) X.dV s
def aaS(b:Expr)(h:op≠.In)(ah:op≠.NotIn):alS op b=false:=by
 have av:(op==CmpOp.In)=false:=by cases op<;>first|rfl|exact absurd rfl h
 have aC:(op==CmpOp.NotIn)=false:=by cases op<;>first|rfl|exact absurd rfl ah
 cases b<;>simp[alS,av,aC]
def OY(t:TE):TT:=λY H Q=>t Y H λx H1=>∃c,x=.az c/\Q c H1
def ajH{t:TE}(h:Qc X op a b t)(ae:alS op b=false:=by first|exact aaS _ (by decide) (by decide)|rfl):iO X (.Compare a [op] [b] pos) (OY t):=by
 intro zn s Y H Q I hw;refine wpAny_isTrue_Compare1 (bV (h zn s Y H _ I hw) λv s1 ae=>bV ae λu s2 ah=>bV ah λc s3 ⟨x,H1,a9,bB,bk⟩=>?_) ae;obtain⟨d,rfl,q⟩:=bk;cases bB;exact alc ⟨H1,a9,q⟩
def MQ{e:Expr}{t:TE}(h:bQ X e t)(he:∀whole,isTrue e X.env whole=(do let v <-whole;amG e.pos;alP [v] (truthy v)):=by intro _;rfl):iO X e (OY t):=by
 intro zn s Y H Q I hw;refine isTrue_plain (bV (h zn s Y H _ I hw) λv s1 ⟨x,H1,a9,bB,bk⟩=>?_) (he _);obtain⟨d,rfl,q⟩:=bk;cases bB;exact alc ⟨H1,a9,q⟩
variable{nW Aq:TT}{rest:List Expr}
def ae8(t u:TT):TT:=λY H Q=>t Y H λc H1=>if c=true then u Y H1 Q else Q false H1
def afr(t u:TT):TT:=λY H Q=>t Y H λc H1=>if c=true then Q true H1 else u Y H1 Q
def afp(t:TT):TT:=λY H Q=>t Y H λc H1=>Q (!c) H1
def acP(ak:iO X a nW):ll X (.BoolOp .And [a] pos) nW:=by
 intro sh zn s Y H Q I h;refine isTrue_and (bV (ak zn s Y H Q I h) λc s1 e=>?_)
 cases c with
 |true=>exact isTrue_and_nil e|false=>exact e
def MT(ak:iO X a nW):ll X (.BoolOp .Or [a] pos) nW:=by
 intro sh zn s Y H Q I h;refine isTrue_or (bV (ak zn s Y H Q I h) λc s1 e=>?_)
 cases c with
 |false=>exact isTrue_or_nil e|true=>exact e
def acO(ak:iO X a nW)(ab:ll X (.BoolOp .And (b::rest) pos) Aq):ll X (.BoolOp .And (a::b::rest) pos) (ae8 nW Aq):=by
 intro sh zn s Y H Q I h;refine isTrue_and (bV (ak zn s Y H _ I h) λc s1 aW=>?_);obtain⟨H1,a9,bk⟩:=aW
 cases c with
 |true=>exact ab sh zn s1 Y H1 Q a9 bk|false=>exact⟨H1,a9,bk⟩
def MS(ak:iO X a nW)(ab:ll X (.BoolOp .Or (b::rest) pos) Aq):ll X (.BoolOp .Or (a::b::rest) pos) (afr nW Aq):=by
 intro sh zn s Y H Q I h;refine isTrue_or (bV (ak zn s Y H _ I h) λc s1 aW=>?_);obtain⟨H1,a9,bk⟩:=aW
 cases c with
 |true=>exact⟨H1,a9,bk⟩|false=>exact ab sh zn s1 Y H1 Q a9 bk
def MP(ak:iO X a nW):iO X (.UnaryOp .Not a pos) (afp nW):=by
 intro zn s Y H Q I h;exact isTrue_not (ak zn s Y H (λc H1=>Q (!c) H1) I h)
def ae9(bT cK:TE):TE:=λY H Q=>bT Y H λx H1=>∃c,x=.az c/\if c=true then cK Y H1 Q else Q (.az false) H1
def afs(bT cK:TE):TE:=λY H Q=>bT Y H λx H1=>∃c,x=.az c/\if c=true then Q (.az true) H1 else cK Y H1 Q
def afq(bT:TE):TE:=λY H Q=>bT Y H λx H1=>∃c,x=.az c/\Q (.az (!c)) H1
def aci{op}{t:TE}(h:bQ X a t):bQ X (.BoolOp op [a] pos) t:=λzn s Y H Q I hw=>BoolOp_one (h zn s Y H Q I hw)
def abT(ak:bQ X a bT)(ab:bQ X (.BoolOp .And (b::rest) pos) cK):bQ X (.BoolOp .And (a::b::rest) pos) (ae9 bT cK):=by
 intro zn s Y H Q I h;refine BoolOp_and (bV (ak zn s Y H _ I h) λv s1 aW=>?_);obtain⟨x,H1,a9,bB,bk⟩:=aW;obtain⟨c,rfl,bk⟩:=bk;cases bB;refine alc ?_
 cases c with
 |true=>exact ab zn s1 Y H1 Q a9 bk|false=>exact⟨.az false,H1,a9,rfl,bk⟩
def ack(ak:bQ X a bT)(ab:bQ X (.BoolOp .Or (b::rest) pos) cK):bQ X (.BoolOp .Or (a::b::rest) pos) (afs bT cK):=by
 intro zn s Y H Q I h;refine BoolOp_or (bV (ak zn s Y H _ I h) λv s1 aW=>?_);obtain⟨x,H1,a9,bB,bk⟩:=aW;obtain⟨c,rfl,bk⟩:=bk;cases bB;refine alc ?_
 cases c with
 |false=>exact ab zn s1 Y H1 Q a9 bk|true=>exact⟨.az true,H1,a9,rfl,bk⟩
def ach(ak:bQ X a bT):bQ X (.UnaryOp .Not a pos) (afq bT):=by
 intro zn s Y H Q I h;refine UnaryOp_ (bV (ak zn s Y H _ I h) λv s1 aW=>?_);obtain⟨x,H1,a9,bB,bk⟩:=aW;obtain⟨c,rfl,bk⟩:=bk;cases bB;exact not_of (alc ⟨.az (!c),H1,a9,rfl,bk⟩)
end
def dk(K:aT)(H:ax)(a:Addr)(xs:List V):Prop:=
 fV H a (.l xs)\/
  ∃(o:Obj)(its:Array Value)(n:Nat),K.lookup a=some o/\o.cls=.type "list"/\o.dict=none/\o.data=.seq its n/\its.size<=aj3/\Vals xs its.toList
def dD(K:aT)(H:ax)(a:Addr)(xs:List V):Prop:=
 fV H a (.t xs)\/
  ∃(o:Obj)(its:Array Value)(n:Nat),K.lookup a=some o/\o.cls=.type "tuple"/\o.data=.seq its n/\its.size<=aj3/\Vals xs its.toList
def Qn:Value->Option V
 |.none=>some .aI|.bool b=>some (.az b)|.int i _=>some (.int i)|.str x _=>some (.str x)|.bytes b _=>some (.ya b)|.float b _=>some (.yB b)|.ref a=>some (.ref a)|.type n=>some (.ty n)|_=>none
def RelV.abs(r:RelV x u):Qn u=some x:=by
 cases x with
 |aI=>cases r;rfl
 |az _=>cases r;rfl
 |int _=>obtain⟨t,rfl⟩:=r;rfl
 |str _=>obtain⟨t,rfl⟩:=r;rfl
 |ya _=>obtain⟨t,rfl⟩:=r;rfl
 |yB _=>obtain⟨t,rfl⟩:=r;rfl
 |ref _=>cases r;rfl
 |ty _=>cases r;rfl
def RelV.inj(r:RelV x u)(q:RelV y u):x=y:=akv (r.abs.symm.trans q.abs)
theorem Vals.inj:∀{xs ys:List V}{us:List Value},Vals xs us->Vals ys us->xs=ys
 |_,_,_,.nil,.nil=>rfl| _,_,_,.cons r t,.cons bJ t'=>by rw[r.inj bJ,Vals.inj t t']
section
variable{X:aS}{zn:c2}{Y:St}{H:ax}{s:ajZ}{a:Addr}{xs ys:List V}
def dk.of{K:aT}(h:H a=some (.l xs)):dk K H a xs:=.inl (.inl h)
def dD.of{K:aT}(h:H a=some (.t xs)):dD K H a xs:=.inl (.inl h)
def Inv.list(I:Inv X zn Y H s)(h:dk X.K H a xs):∃its:List Value,Vals xs its/\PlainL s.heap a its.toArray/\xs.length<=aj3:=by
 rcases h with h|⟨o,its,n,aw,aD,hd,aj,hz,r⟩
 .obtain⟨z,its,n,r,e⟩:=h.ok I.bO
  exact⟨its,r,⟨_,n,e,rfl,rfl,rfl⟩,z⟩
 .refine⟨its.toList,r,⟨o,n,I.e6 a o aw,aD,hd,by simpa using aj⟩,?_⟩
  have e:=r.length;simp only[akR]at e;omega
def Inv.tuple(I:Inv X zn Y H s)(h:dD X.K H a xs):∃its:List Value,Vals xs its/\IsTup s.heap a its.toArray/\xs.length<=aj3:=by
 rcases h with h|⟨o,its,n,aw,aD,aj,hz,r⟩
 .obtain⟨z,its,r,p⟩:=h.ok I.bO
  exact⟨its,r,p,z⟩
 .refine⟨its.toList,r,⟨o,I.e6 a o aw,aD,n,by simpa using aj⟩,?_⟩
  have e:=r.length;simp only[akR]at e;omega
def Inv.Ly(I:Inv X zn Y H s)(h:dk X.K H a xs)(h':dk X.K H a ys):xs=ys:=by
 obtain⟨its,r,⟨o,n,e,_,_,d⟩,_⟩:=I.list h;obtain⟨its',bJ,⟨o',dE,cA,_,_,d'⟩,_⟩:=I.list h';rw[e]at cA;cases cA;rw[d]at d';injection d' with gk _
 have:its=its':=by simpa using congrArg Array.toList gk
 subst this;exact r.inj bJ
def Inv.Pf(I:Inv X zn Y H s)(h:dD X.K H a xs)(h':dD X.K H a ys):xs=ys:=by
 obtain⟨its,r,⟨o,e,_,n,d⟩,_⟩:=I.tuple h;obtain⟨its',bJ,⟨o',cA,_,dE,d'⟩,_⟩:=I.tuple h';rw[e]at cA;cases cA;rw[d]at d';injection d' with gk _
 have:its=its':=by simpa using congrArg Array.toList gk
 subst this;exact r.inj bJ
end
abbrev aS.m2(X:aS)(E:cB):aS:={ X with dV:=E }
abbrev aS.gD(X:aS):aS:=X.m2 λ_ _=>False
def aS.Ok.m2{X:aS}(ok:X.Ok)(E:cB):(X.m2 E).Ok:=
 ⟨ok.mod,ok.kind,ok.glob,ok.blt,ok.above,ok.inj,ok.has,ok.uY,ok.hd,ok.frames,ok.Ak,ok.yx,ok.bs,ok.l_,ok.wq,ok.u_,ok.kM,ok.pZ⟩
def aS.Ok.pj{X:aS}(ok:(X.m2 E).Ok):X.Ok:=
 ⟨ok.mod,ok.kind,ok.glob,ok.blt,ok.above,ok.inj,ok.has,ok.uY,ok.hd,ok.frames,ok.Ak,ok.yx,ok.bs,ok.l_,ok.wq,ok.u_,ok.kM,ok.pZ⟩
section
variable{X:aS}{zn:c2}{Y:St}{H:ax}{s:ajZ}{E:cB}
def Inv.m2(I:Inv X zn Y H s)(E:cB):Inv (X.m2 E) zn Y H s:=⟨I.ok.m2 E,I.os,I.bare,I.base,I.loc,I.cell,I.free,I.mj,I.pin,I.bO,I.len⟩
def Inv.pj(I:Inv (X.m2 E) zn Y H s):Inv X zn Y H s:=⟨I.ok.pj,I.os,I.bare,I.base,I.loc,I.cell,I.free,I.mj,I.pin,I.bO,I.len⟩
def sH.pj{D:Ends}(h:sH (X.m2 E) zn D f aP):sH X zn D f aP:=by
 cases f with
 |next=>obtain⟨Y',H',I,q⟩:=h;exact⟨Y',H',I.pj,q⟩
 |brk=>obtain⟨Y',H',I,q⟩:=h;exact⟨Y',H',I.pj,q⟩
 |cont=>obtain⟨Y',H',I,q⟩:=h;exact⟨Y',H',I.pj,q⟩
 |ret u=>obtain⟨v,Y',H',I,r,q⟩:=h;exact⟨v,Y',H',I.pj,r,q⟩
theorem bQ.gD{t:TE}(h:bQ X.gD e t):bQ X e t:=λzn s Y H Q I hw=>
 akH (h zn s Y H Q (I.m2 _) hw) (λ_ _ ⟨v,H',hZ,r,q⟩=>⟨v,H',hZ.pj,r,q⟩) λ_ _ z=>akD z
theorem iN.gD{st:List Stmt}{t:g8}(h:iN X.gD st t):iN X st t:=λzn s Y H D I hw=>
 akH (h zn s Y H D (I.m2 _) hw) (λ_ _ q=>q.pj) λ_ _ z=>akD z
end
section
variable{X:aS}{st:Stmt}{rest:List Stmt}{t u:g8}{e:Expr}{te:TE}{pos:Pos}
def afn:g8:=λD Y H=>D.bj Y H
def afv(t u:g8):g8:=λD Y H=>t { D with bj:=u D } Y H
def acJ:iN X [] afn:=λ_ _ Y H _ I h=>aoH ⟨Y,H,I,h⟩
def MN(ae:iM X st t)(ah:iN X rest u):iN X (st::rest) (afv t u):=by
 intro zn s Y H D I h;refine wpAny_execs_cons (bV (ae zn s Y H { D with bj:=u D } I h) λf s1 q=>?_)
 cases f with
 |next=>
  obtain⟨Y',H',hZ,q⟩:=q;exact ah zn s1 Y' H' D hZ q
 |ret v=>exact q|brk=>exact q|cont=>exact q
def MO(ae:iM X st t):iN X [st] t:=by
 intro zn s Y H D I h;refine wpAny_execs_cons (bV (ae zn s Y H D I h) λf s1 q=>?_)
 cases f with
 |next=>exact aoH q
 |ret v=>exact q|brk=>exact q|cont=>exact q
def Inv.quiet(I:Inv X zn Y H s):interactive X.env=false:=by simp[interactive,I.ok.kind]
def afh(te:TE):g8:=λD Y H=>te Y H λ_ H1=>D.bj Y H1
def EL(he:bQ X e te)(aj:alu e none pos.line X.env=pure false:=by rfl):iM X (.Expr e pos) (afh te):=by
 intro zn s Y H D I h;exact wpAny_Expr_any (bV (he zn s Y H _ I h) λv s1 ⟨x,H1,a9,bB,bk⟩=>⟨Y,H1,a9,bk⟩) I.quiet aj
def afu(te:TE):g8:=λD Y H=>te Y H D.cJ
def EM(he:bQ X e te):iM X (.Return (some e) pos) (afu te):=by
 intro zn s Y H D I h;exact wpAny_Return_some (bV (he zn s Y H _ I h) λv s1 ⟨x,H1,a9,bB,bk⟩=>⟨x,Y,H1,a9,bB,bk⟩)
def afj(c:TT)(t u:g8):g8:=λD Y H=>c Y H λb H1=>if b=true then t D Y H1 else u D Y H1
def MM(aD:iO X c mZ)(ak:iN X a t)(ab:iN X b u):iM X (.If c a b pos) (afj mZ t u):=by
 intro zn s Y H D I h;refine wpAny_If (bV (aD zn s Y H _ I h) λd s1 aW=>?_);obtain⟨H1,a9,bk⟩:=aW
 cases d with
 |true=>exact ak zn s1 Y H1 D a9 bk|false=>exact ab zn s1 Y H1 D a9 bk
def afm:g8:=λ_ _ _=>False
def acI:iM X st afm:=λ_ _ _ _ _ _ h=>h.elim
end
abbrev ja:=V->St->ax->(St->ax->Prop)->Prop
abbrev pO:=List V->St->ax->(St->ax->Prop)->Prop
def pI(X:aS)(target:Expr)(t:ja):Prop:=
 ∀(zn:c2)(s:ajZ)(Y:St)(H:ax)(v:V)(u:Value)(Q:St->ax->Prop),Inv X zn Y H s->RelV v u->t v Y H Q->
  wpAny (model X.prog X.w) X.A (amr target X.env u) (λ_ aP=>∃Y' H',Inv X zn Y' H' aP/\Q Y' H') X.dV s
def l7(X:aS)(di:List Expr)(t:pO):Prop:=
 ∀(zn:c2)(s:ajZ)(Y:St)(H:ax)(vs:List V)(us:List Value)(Q:St->ax->Prop),Inv X zn Y H s->Vals vs us->t vs Y H Q->
  wpAny (model X.prog X.w) X.A (assignInOrder ((akp di X.env).map (·.2)) us) (λ_ aP=>∃Y' H',Inv X zn Y' H' aP/\Q Y' H') X.dV s
section
variable{X:aS}{pos:Pos}
def lA(i:Nat):ja:=λv Y H Q=>Q (Y.set i (some v)) H
def wL(hN:X.N.Nodup)(aB:X.N[i]? = some x)(ag:Loc X.env.scope x)(hf:X.fn x=true\/X.env.scope.names.lookup x=some .local:=by first|exact .inl rfl|exact .inr rfl|assumption):pI X (.Name x pos) (lA i):=by
 intro zn s Y H v u Q I r h;exact wpAny_assign_Name (OR I hN aB ag r (λaP hZ=>⟨_,H,hZ,h⟩) hf)
def Jt:pO:=λvs Y H Q=>vs=[]/\Q Y H
def Js(t:ja)(u:pO):pO:=λvs Y H Q=>∃v r,vs=v::r/\t v Y H λY' H'=>u r Y' H' Q
def acu:l7 X [] Jt:=by
 intro zn s Y H vs us Q I r h;obtain⟨e,h⟩:=h;subst e;cases r;exact assignInOrder_nil ⟨Y,H,I,h⟩
def acs{e:Expr}{ay:List Expr}{t:ja}{u:pO}(ae:pI X e t)(ah:l7 X ay u)
  (aj:(akp (e::ay) X.env).map (·.2)=amr e X.env::(akp ay X.env).map (·.2):=by rfl):l7 X (e::ay) (Js t u):=by
 intro zn s Y H vs us Q I r h;obtain⟨v,FH,av,h⟩:=h;subst av
 cases r with
 |cons r bp=>
  rw[aj];refine assignInOrder_cons (bV (ae zn s Y H _ _ _ I r h) λ_ s1 aW=>?_);obtain⟨hX,H1,a9,bk⟩:=aW;exact ah zn s1 hX H1 _ _ Q a9 bp bk
def rh(K:aT)(n:Nat)(t:pO):ja:=λv Y H Q=>∃a xs,v=.ref a/\dD K H a xs/\xs.length=n/\t xs Y H Q
def wM{ay:List Expr}{k:Nat}{t:pO}{n:Nat}(aD:X.calm=true)(h:l7 X ay t)
  (aF:(akp ay X.env).length=n:=by rfl) (f9:(akp ay X.env).findIdx? (·.1)=none:=by rfl):pI X (.Tuple ay k pos) (rh X.K n t):=by
 intro zn s Y H v u Q I r hw;obtain⟨a,xs,av,a8,ar,hw⟩:=hw;subst av;cases r;obtain⟨its,bP,bM,hz⟩:=I.tuple a8;refine assign_Tuple_tuple (I.ok.hd aD) bM (by simp[aF,<-ar,bP.length]) f9 λh' ag=>?_
 have a9:Inv X zn Y H { s with heap:=h' }:=I.kept (t':=s.toks) λb o e=>ag b o (akj (ake e)) e
 exact h zn _ Y H xs _ Q a9 (by simpa using bP) hw
def ue(te:TE)(g:ja):g8:=λD Y H=>te Y H λx H1=>g x Y H1 D.bj
def acF{b8 e:Expr}{te:TE}{g:ja}(he:bQ X e te)(aV:pI X b8 g)(aj:swapsWithSole [b8] e pos.line X.env=pure false:=by rfl)(hw:swappedStores [b8] e X.env=pure none:=by rfl)
  (ae:(akp [b8] X.env).map (·.2)=[amr b8 X.env]:=by rfl):iM X (.Assign [b8] e pos) (ue te g):=by
 intro zn s Y H D I h;refine wpAny_Assign_stores (bV (he zn s Y H _ I h) λv s1 ⟨x,H1,a9,bB,bk⟩=>?_) aj hw;rw[ae];exact bV (aV zn s1 Y H1 x v _ a9 bB bk) λ_ s2 q=>q
def EO(hN:X.N.Nodup)(aB:X.N[i]? = some x)(ag:Loc X.env.scope x)(he:bQ X e te)(aj:alu e (some (.Name x pos')) pos.line X.env=pure false:=by rfl)(hf:X.fn x=true\/X.env.scope.names.lookup x=some .local:=by first|exact .inl rfl|exact .inr rfl|assumption) :
  iM X (.Assign [.Name x pos'] e pos) (ue te (lA i)):=by
 intro zn s Y H D I h;refine wpAny_Assign_Name (bV (he zn s Y H _ I h) λv s1 ⟨y,H1,a9,bB,bk⟩=>?_) aj;exact OR a9 hN aB ag bB (λs2 bU=>⟨_,H1,bU,bk⟩) hf
end
structure iu where
 go:Nat->ax->Prop
 px:Nat->ax->V->ax->Prop
 stop:Nat->ax->Prop
def gw(X:aS)(zn:c2)(H:ax)(b:Addr):Prop:=
 H b=none/\b≠X.env.locals/\b∉X.aY/\(b∈X.ex\/X.g0.heap.objs.size<=b)/\(∀x c,X.env.cells.lookup x=some c->c≠b)/\∀p∈X.lO++zn,p.1≠b
def Inv.pY{H H':ax}{s:ajZ}(I:Inv X zn Y H s)(ab:s.heap.objs.size<=b)(aF:H' b=none):gw X zn H' b:=by
 refine⟨aF,Nat.ne_of_gt (akB I.lt ab),I.aaV ab,.inr (alg I.lR ab),λx c e z=>?_,λp aH z=>?_⟩
 .obtain⟨v,q⟩:=I.cell x c e
  exact absurd (akB q.lt (by rw[z];exact ab)) (akI _)
 .exact absurd (akB (ake (I.pin p aH).1) (by rw[z];exact ab)) (akI _)
structure Turn(P:akh)(w:World)(K:aT)(b8:Expr)(cm:iu)(aK:List Addr)(it:Addr)(fK:Nat->Heap->Prop):Prop where
 mem:it∈aK
 obj:∀i h,fK i h->∀b∈aK,∃o,h.get? b=some o/\∀v,o.data≠.cell v
 keep:∀i h h',fK i h->(∀b∈aK,∀o,h.get? b=some o->h'.get? b=some o)->fK i h'
 item:∀(X:aS),X.prog=P->X.w=w->X.K=K->X.calm=true->∀(i:Nat)(zn:c2)(s:ajZ)(Y:St)(H:ax)(E:cB),Inv X zn Y H s->(∀b∈aK,gw X zn H b)->fK i s.heap->cm.go i H->
  wpAny (model P w) X.A (ams (.ref it)) (λr s1=>∃u,r=some u/\
   wpAny (model P w) X.A (anv b8 (.ref it) u) (λ_ s2=>∃x H',Inv X zn Y H' s2/\RelV x u/\cm.px i H x H'/\fK (i+1) s2.heap/\∀b∈aK,H' b=none) E s1) E s
 done:∀(X:aS),X.prog=P->X.w=w->X.K=K->X.calm=true->∀(i:Nat)(zn:c2)(s:ajZ)(Y:St)(H:ax)(E:cB),Inv X zn Y H s->(∀b∈aK,gw X zn H b)->fK i s.heap->cm.stop i H->
  wpAny (model P w) X.A (ams (.ref it)) (λr s1=>r=none/\Inv X zn Y H s1) E s
 self:∀(A:akl)(i:Nat)(s:ajZ)(Q:cB)(E:cB),fK i s.heap->Q (.ref it) s->wpAny (model P w) A (pyIter (.ref it)) Q E s
abbrev TI:=St->ax->(iu->ax->Prop)->Prop
def Gk(X:aS)(zn:c2)(Y:St)(b8:Expr)(R:iu->ax->Prop)(zc:Value)(s2:ajZ):Prop:=
 ∃(it:Addr)(aK:List Addr)(fK:Nat->Heap->Prop)(cm:iu)(H':ax),zc=.ref it/\Inv X zn Y H' s2/\Turn X.prog X.w X.K b8 cm aK it fK/\fK 0 s2.heap/\(∀b∈aK,gw X zn H' b)/\R cm H'
def kE(X:aS)(b8 iter:Expr)(wi:TI):Prop:=
 ∀(zn:c2)(s:ajZ)(Y:St)(H:ax)(R:iu->ax->Prop),Inv X zn Y H s->wi Y H R->
  wpAny (model X.prog X.w) X.A (eval iter X.env) (λv s1=>wpAny (model X.prog X.w) X.A (pyIter v) (Gk X zn Y b8 R) X.dV s1) X.dV s
def vo{M:Model}{A:akl}{E:cB}{s:ajZ}{b8:Expr}{it:Addr}{u:Value}{o:Obj}{n:String}{vs:Array Value}{Q:Unit->ajZ->Prop}(a':s.heap.get? it=some o)(aD:o.cls=.type n)(hd:o.data=.fields vs)
    (aF:["enumerate","zip","dict_itemiterator","dict_reverseitemiterator","odict_iterator","itertools.zip_longest","itertools.pairwise"].contains n=false) (iS:Q () s):wpAny M A (anv b8 (.ref it) u) Q E s:=by
  unfold anv;cases b8<;>first
    |exact aj1 iS
    |(cases u<;>first
        |exact aj1 iS
        | (refine ajV (wpAny_load a' ?_)
           rw[aD,hd];show wpAny M A (if(["enumerate","zip","dict_itemiterator","dict_reverseitemiterator","odict_iterator","itertools.zip_longest","itertools.pairwise"].contains n&&vs[0]? == some (al8 _))=true then _ else _) Q E s;rw[if_neg (by intro h;rw[aF,Bool.false_and]at h;cases h)];exact aj1 iS))
def l5(K:aT)(a:Addr):iu:=
 ⟨λi H=>∃xs x,dk K H a xs/\xs[i]? = some x,λi H x H'=>H'=H/\∀xs,dk K H a xs->xs[i]? = some x,λi H=>∃xs,dk K H a xs/\xs.length<=i⟩
def sA(K:aT)(a:Addr):iu:=
 ⟨λi H=>∃xs x,dD K H a xs/\xs[i]? = some x,λi H x H'=>H'=H/\∀xs,dD K H a xs->xs[i]? = some x,λi H=>∃xs,dD K H a xs/\xs.length<=i⟩
def sy(lo:Int)(n:Nat):iu:=⟨λi _=>i<n,λi H x H'=>H'=H/\x=.int (lo+i),λi _=>n<=i⟩
def afS{P:akh}{w:World}{K:aT}{b8:Expr}(a it:Addr):Turn P w K b8 (l5 K a) [it] it (λi h=>h.IsListIter it a i) where
 mem:=by simp
 obj:=λi h st b ab=>by
  have e:b=it:=by simpa using ab
  subst e;obtain⟨o,e,c,d⟩:=st;exact⟨o,e,λv z=>by rw[d]at z;cases z⟩
 keep:=λi h h' st k=>st.at λo e=>k it (by simp) o e
 item:=by
  intro X ej hw ht aD i zn s Y H E I hf st aV;subst ej hw ht;obtain⟨xs,x,a8,ag⟩:=aV;obtain⟨its,bP,p,hz⟩:=I.list a8;obtain⟨u,cy,d9⟩:=bP.get ag;obtain⟨f0,f1,f2,gO,f4,gP⟩:=hf it (by simp);refine wpAny_pyNext_list_item st p.isList (x:=u) (by simpa using cy) λh' cg k1=>?_
  have a9:Inv X zn Y H { s with heap:=h' }:=I.turned (t':=s.toks) (λb o ab e=>(k1.2 b ab).trans e) f0 f1 gO f4 gP;obtain⟨o,e,c,d⟩:=id cg;exact⟨u,rfl,vo (s:={ s with heap:=h' }) e c d (by decide) ⟨x,H,a9,d9,⟨rfl,λys ba=>by rw[I.Ly ba a8];exact ag⟩,cg,λb ab=>(hf b ab).1⟩⟩
 done:=by
  intro X ej hw ht aD i zn s Y H E I hf st aV;subst ej hw ht;obtain⟨xs,a8,ag⟩:=aV;obtain⟨its,bP,p,hz⟩:=I.list a8;obtain⟨f0,f1,f2,gO,f4,gP⟩:=hf it (by simp);have ar:=bP.length;exact wpAny_pyNext_list_end (I.ok.hd aD) st p.isList (by simp;omega) λh' c5=>⟨rfl,I.turned (t':=s.toks) (λb o ab e=>c5 b o ab e) f0 f1 gO f4 gP⟩
 self:=λ_ _ _ _ _ st h=>wpAny_pyIter_listiter st h
def afU{P:akh}{w:World}{K:aT}{b8:Expr}(a it:Addr):Turn P w K b8 (sA K a) [it] it (λi h=>h.IsTupleIter it a i) where
 mem:=by simp
 obj:=λi h st b ab=>by
  have e:b=it:=by simpa using ab
  subst e;obtain⟨o,e,c,d⟩:=st;exact⟨o,e,λv z=>by rw[d]at z;cases z⟩
 keep:=λi h h' st k=>st.at λo e=>k it (by simp) o e
 item:=by
  intro X ej hw ht aD i zn s Y H E I hf st aV;subst ej hw ht;obtain⟨xs,x,a8,ag⟩:=aV;obtain⟨its,bP,p,hz⟩:=I.tuple a8;obtain⟨u,cy,d9⟩:=bP.get ag;obtain⟨f0,f1,f2,gO,f4,gP⟩:=hf it (by simp);refine wpAny_pyNext_tuple_item st (show s.heap.IsTuple a its.toArray from p) (x:=u) (by simpa using cy) λh' cg k1=>?_
  have a9:Inv X zn Y H { s with heap:=h' }:=I.turned (t':=s.toks) (λb o ab e=>(k1.2 b ab).trans e) f0 f1 gO f4 gP;obtain⟨o,e,c,d⟩:=id cg;exact⟨u,rfl,vo (s:={ s with heap:=h' }) e c d (by decide) ⟨x,H,a9,d9,⟨rfl,λys ba=>by rw[I.Pf ba a8];exact ag⟩,cg,λb ab=>(hf b ab).1⟩⟩
 done:=by
  intro X ej hw ht aD i zn s Y H E I hf st aV;subst ej hw ht;obtain⟨xs,a8,ag⟩:=aV;obtain⟨its,bP,p,hz⟩:=I.tuple a8;obtain⟨f0,f1,f2,gO,f4,gP⟩:=hf it (by simp);have ar:=bP.length;exact wpAny_pyNext_tuple_end (I.ok.hd aD) st (show s.heap.IsTuple a its.toArray from p) (by simp;omega) λh' c5=>⟨rfl,I.turned (t':=s.toks) (λb o ab e=>c5 b o ab e) f0 f1 gO f4 gP⟩
 self:=λ_ _ _ _ _ st h=>wpAny_pyIter_tupleiter st h
def afT{P:akh}{w:World}{K:aT}{b8:Expr}(it:Addr)(lo:Int)(n:Nat):Turn P w K b8 (sy lo n) [it] it (λi h=>IsRangeIter h it (lo+(i:Nat)*1) ((n:Int)-(i:Nat)) 1) where
 mem:=by simp
 obj:=λi h st b ab=>by
  have e:b=it:=by simpa using ab
  subst e;exact⟨_,st,λv z=>by
   have k':Data.fields _=Data.cell v:=z;cases k'⟩
 keep:=λi h h' st k=>k it (by simp) _ st
 item:=by
  intro X ej hw ht aD i zn s Y H E I hf st aV;subst ej hw ht;obtain⟨f0,f1,f2,gO,f4,gP⟩:=hf it (by simp);have W:=Walks.range (prog:=X.prog) (w:=X.w) (I.ok.hd aD) it lo 1 n;refine W.item i s _ _ aV st λv h' tk bI cg eV=>?_
  obtain⟨t,rfl⟩:=bI;have a9:Inv X zn Y H { s with heap:=h',toks:=tk }:=I.turned (λb o ab e=>eV b o (by simpa using ab) e) f0 f1 gO f4 gP;refine⟨_,rfl,vo (s:={ s with heap:=h',toks:=tk }) (n:="range_iterator") cg rfl rfl (by decide) ⟨.int (lo+i),H,a9,⟨t,?_⟩,⟨rfl,rfl⟩,cg,λb ab=>(hf b ab).1⟩⟩;rw[Int.mul_one]
 done:=by
  intro X ej hw ht aD i zn s Y H E I hf st aV;subst ej hw ht;obtain⟨f0,f1,f2,gO,f4,gP⟩:=hf it (by simp);exact wpAny_pyNext_range_end (I.ok.hd aD) st (by have:n<=i:=aV;omega) λh' c5=>⟨rfl,I.turned (t':=s.toks) (λb o ab e=>c5 b o ab e) f0 f1 gO f4 gP⟩
 self:=λ_ _ _ _ _ st h=>wpAny_pyIter_rangeiter st h
section
variable{X:aS}{b8:Expr}
def YN(K:aT)(kk:TE):TI:=λY H R=>kk Y H λx H1=>∃a,x=.ref a/\(∃xs,dk K H1 a xs)/\R (l5 K a) H1
def YO(K:aT)(kk:TE):TI:=λY H R=>kk Y H λx H1=>∃a,x=.ref a/\(∃xs,dD K H1 a xs)/\R (sA K a) H1
def EK(ar:bQ X l kk):kE X b8 l (YN X.K kk):=by
 intro zn s Y H R I h;refine bV (ar zn s Y H _ I h) λv s1 aW=>?_
 obtain⟨x,H1,a9,bB,bk⟩:=aW;obtain⟨a,e,⟨xs,a8⟩,q⟩:=bk;subst e;cases bB;obtain⟨its,bP,p,hz⟩:=a9.list a8;refine alQ p.isList ?_;refine⟨s1.heap.objs.size,[s1.heap.objs.size],_,_,H1,rfl,a9.kept (t':=s1.toks) λb o e=>ajW _ e,afS a _,⟨_,akb _ rfl,rfl,rfl⟩,λb ab=>?_,q⟩;have e:b=s1.heap.objs.size:=by simpa using ab
 subst e;exact a9.pY (aj0 _) (a9.bO.fresh (aj0 _))
def MH(ar:bQ X l kk):kE X b8 l (YO X.K kk):=by
 intro zn s Y H R I h;refine bV (ar zn s Y H _ I h) λv s1 aW=>?_
 obtain⟨x,H1,a9,bB,bk⟩:=aW;obtain⟨a,e,⟨xs,a8⟩,q⟩:=bk;subst e;cases bB;obtain⟨its,bP,p,hz⟩:=a9.tuple a8;refine amt (show s1.heap.IsTuple a its.toArray from p) ?_;refine⟨s1.heap.objs.size,[s1.heap.objs.size],_,_,H1,rfl,a9.kept (t':=s1.toks) λb o e=>ajW _ e,afU a _,⟨_,akb _ rfl,rfl,rfl⟩,λb ab=>?_,q⟩;have e:b=s1.heap.objs.size:=by simpa using ab
 subst e;exact a9.pY (aj0 _) (a9.bO.fresh (aj0 _))
def ac4{zn:c2}{Y:St}{H:ax}{s:ajZ}{R:iu->ax->Prop}{E:cB}{lo aB:Int}{t u v:Tok}{tk:Nat}(I:Inv X zn Y H s)(ae:-(2 ^ 62)<=lo)(ah:lo<2 ^ 62)(bN:-(2 ^ 62)<=aB)(dq:aB<2 ^ 62)
  (q:R (sy lo (aB-lo).toNat) H):wpAny (model X.prog X.w) X.A (pyIter (.ref s.heap.objs.size)) (Gk X zn Y b8 R) E { s with heap:=s.heap.push { cls:=.type "range",data:=.fields #[.int lo t,.int aB u,.int 1 v] },toks:=tk }:=by
 refine wpAny_pyIter_range (IsRange.new ..) (small_one ae ah bN dq) ?_;have a9:Inv X zn Y H { s with heap:=s.heap.push { cls:=.type "range",data:=.fields #[.int lo t,.int aB u,.int 1 v] },toks:=tk }:=I.kept λb o e=>ajW _ e
 refine⟨(s.heap.push { cls:=.type "range",data:=.fields #[.int lo t,.int aB u,.int 1 v] }).objs.size,[(s.heap.push { cls:=.type "range",data:=.fields #[.int lo t,.int aB u,.int 1 v] }).objs.size],_,_,H,rfl,
  a9.kept (t':=tk) λb o e=>ajW _ e,afT _ lo (aB-lo).toNat,?_,λb ab=>?_,q⟩
 .have av:lo+((0:Nat):Int)*1=lo:=by simp
  have aC:(((aB-lo).toNat:Nat):Int)-((0:Nat):Int)=Builtin.Range.rangeSize lo aB 1:=by rw[rangeSize_one];split<;>omega
  show IsRangeIter _ _ (lo+((0:Nat):Int)*1) ((((aB-lo).toNat:Nat):Int)-((0:Nat):Int)) 1;rw[av,aC];exact akb _ rfl
 .have e:b=(s.heap.push { cls:=.type "range",data:=.fields #[.int lo t,.int aB u,.int 1 v] }).objs.size:=by simpa using ab
  subst e;exact a9.pY (aj0 _) (a9.bO.fresh (aj0 _))
def De(bT:gj):TI:=λY H R=>bT Y H λvs H1=>∃j:Int,vs=[.int j]/\-(2 ^ 62)<=j/\j<2 ^ 62/\R (sy 0 j.toNat) H1
def MG(aV:eF X "range")(hm:X.mg "range"=none)(ak:fM X [a] bT)(aj:ajY [a] X.env=[(false,eval a X.env)]:=by rfl):kE X b8 (.Call (.Name "range" p) [a] [] pos) (De bT):=by
 intro zn s Y H R I h;refine Call_ (rE I aV hm boot_range (amN (bV (ak pos zn s Y H _ I h) λus s1 ⟨vs,H1,a9,bB,bk⟩=>?_) aj rfl));obtain⟨j,e,bk,b0,q⟩:=bk;subst e
 cases bB with
 |cons r bp=>
  cases bp;obtain⟨t,rfl⟩:=r;exact call_range_1 (ac4 a9 (by omega) (by omega) bk b0 (by simpa using q))
def r_(wi:TI)(g:ja)(cK:g8):g8:=λD Y H=>wi Y H λcm H1=>∃W:Nat->Nat->St->ax->Prop,(∃m,W 0 m Y H1)/\∀i m Y H,W i m Y H->
 (cm.stop i H/\D.bj Y H)\/(cm.go i H/\∃N:St->ax->Prop,(∀Y' H',N Y' H'->∃eD,eD<m/\W (i+1) eD Y' H')/\∀x H',cm.px i H x H'->g x Y H' λdQ aM=>cK { D with bj:=N,b5:=N,c_:=D.bj } dQ aM)
def r1(aK:List Addr)(h:Heap):List (Addr×Obj):=aK.filterMap λb=>(h.get? b).map λo=>(b,o)
def zO{h:Heap}(ab:b∈aK)(e:h.get? b=some o):(b,o)∈r1 aK h:=List.mem_filterMap.mpr ⟨b,ab,by rw[e];rfl⟩
def aa5{h:Heap}(aH:p∈r1 aK h):p.1∈aK/\h.get? p.1=some p.2:=by
 obtain⟨b,ab,e⟩:=List.mem_filterMap.mp aH
 cases q:h.get? b with
 |none=>rw[q]at e;cases e
 |some o=>
  rw[q]at e;have cA:(b,o)=p:=akv e;subst cA;exact⟨ab,q⟩
def Inv.pinned{s:ajZ}(I:Inv X zn Y H s)(hf:∀b∈aK,gw X zn H b)(a':∀b∈aK,∃o,s.heap.get? b=some o/\∀v,o.data≠.cell v):Inv X (zn++r1 aK s.heap) Y H s:=
 I.MJ λp aH=>(akx.mp aH).elim (λz=>I.pin p (akP _ z)) λz=>by
  obtain⟨ab,e⟩:=aa5 z;obtain⟨f0,f1,f2,_⟩:=hf p.1 ab;obtain⟨o,cA,d⟩:=a' p.1 ab;rw[e]at cA;cases cA;exact⟨e,f0,f1,f2,d⟩
def Inv.xh(I:Inv X (zn++pl) Y H s):Inv X zn Y H s:=I.MJ λp aH=>I.pin p (akP _ (ant _ aH))
def z8{iter:Expr}{body:List Stmt}{wi:TI}{g:ja}{cK:g8}{pos:Pos}(aH:anQ (model X.prog X.w) X.A X.env X.dV)(aD:X.calm=true)(aB:kE X b8 iter wi)(aV:pI X b8 g)(ab:iN X body cK)
  (aj:∀x,akN iter X.env x=pure x:=by intro _;rfl):iM X (.For b8 iter body [] pos) (r_ wi g cK):=by
 intro zn s Y H D I h;refine wpAny_For (bV (aB zn s Y H _ I h) λv s1 ae=>bV ae λzc s2 ah=>?_) aj;obtain⟨it,aK,fK,cm,aM,e,bU,T,cV,f2,W,⟨m0,hB⟩,turn⟩:=ah;subst e;have r8:∀{H':ax},(∀b∈aK,H' b=none)->∀b∈aK,gw X zn H' b:=λaF b ab=>⟨aF b ab,(f2 b ab).2⟩
 refine codeAny_forLoop_any (λn aP=>∃i Y' H',Inv X zn Y' H' aP/\fK i aP.heap/\(∀b∈aK,H' b=none)/\W i n Y' H') ?_ m0 ⟨0,Y,aM,bU,cV,λb ab=>(f2 b ab).1,hB⟩;rintro n s3 ⟨i,xv,cT,dF,gZ,Jo,af4⟩;rcases turn i n xv cT af4 with⟨stop,Ab⟩|⟨go,N,hN,step⟩
 .refine amV aH (bV (T.done X rfl rfl rfl aD i zn s3 xv cT X.dV dF (r8 Jo) gZ stop) λr s4 aW=>?_)
  obtain⟨aA,i_⟩:=aW;subst aA;exact aoH ⟨xv,cT,i_,Ab⟩
 .refine amV aH (bV (T.item X rfl rfl rfl aD i zn s3 xv cT X.dV dF (r8 Jo) gZ go) λr s4 aW=>?_)
  obtain⟨u,aA,dq⟩:=aW;subst aA;refine amV aH (bV dq λ_ s5 aW=>?_);obtain⟨x,lj,sx,EV,ag7,qA,yF⟩:=aW;have P8:=sx.pinned (r8 yF) (T.obj _ _ qA);refine amV aH (bV (aV _ s5 xv lj x u _ P8 EV (step x lj ag7)) λ_ et aW=>?_);obtain⟨ah1,P1,uD,z'⟩:=aW;refine amV aH (bV (ab _ et ah1 P1 _ uD z') λf d1 qw=>?_);have again:∀{m5:St}{jV:ax},Inv X (zn++r1 aK s5.heap) m5 jV d1->N m5 jV->∃m,m<n/\∃i Y' H',Inv X zn Y' H' d1/\fK i d1.heap/\(∀b∈aK,H' b=none)/\W i m Y' H':=λ{m5 jV} kz wg=>by
   obtain⟨eD,hm,fQ⟩:=hN m5 jV wg;refine⟨eD,hm,i+1,m5,jV,kz.xh,T.keep _ _ _ qA λb ab o e=>(kz.pin (b,o) (akP _ (akP _ (zO ab e)))).1,λb ab=>?_,fQ⟩;obtain⟨o,e,d⟩:=T.obj _ _ qA b ab;exact(kz.pin (b,o) (akP _ (akP _ (zO ab e)))).2.1
  cases f with
  |next=>obtain⟨m5,jV,kz,wg⟩:=qw;exact again kz wg
  |cont=>obtain⟨m5,jV,kz,wg⟩:=qw;exact again kz wg
  |brk=>obtain⟨m5,jV,kz,qw⟩:=qw;exact⟨m5,jV,kz.xh,qw⟩
  |ret v=>obtain⟨ag1,m5,jV,kz,EW,qw⟩:=qw;exact⟨ag1,m5,jV,kz.xh,EW,qw⟩
end
abbrev fU:=V->V->ax->cX->Prop
def en(X:aS)(f:Value->Value->Sem Value)(r:fU):Prop:=
 ∀(zn:c2)(s:ajZ)(Y:St)(H:ax)(x y:V)(v u:Value)(Q:cX),Inv X zn Y H s->RelV x v->RelV y u->r x y H Q->
  wpAny (model X.prog X.w) X.A (f v u) (gG X zn Y Q) X.dV s
def A8(X:aS)(f:Value->Sem Value)(r:V->ax->cX->Prop):Prop:=
 ∀(zn:c2)(s:ajZ)(Y:St)(H:ax)(x:V)(v:Value)(Q:cX),Inv X zn Y H s->RelV x v->r x H Q->
  wpAny (model X.prog X.w) X.A (f v) (gG X zn Y Q) X.dV s
def ir(X:aS)(f:Value)(r:List V->ax->cX->Prop):Prop:=
 ∀(zn:c2)(s:ajZ)(Y:St)(H:ax)(xs:List V)(us:List Value)(Q:cX),Inv X zn Y H s->Vals xs us->r xs H Q->
  wpAny (model X.prog X.w) X.A (call f us) (gG X zn Y Q) X.dV s
def xc(r:fU)(bT cK:TE):TE:=λY H Q=>bT Y H λx H1=>cK Y H1 λy aM=>r x y aM Q
def afA(r:V->ax->cX->Prop)(bT:TE):TE:=λY H Q=>bT Y H λx H1=>r x H1 Q
def kg(C:Int->Int->Prop)(g:Int->Int->V):fU:=λx y H Q=>∃i j,x=.int i/\y=.int j/\C i j/\Q (g i j) H
def hQ(g:Int->Int->V):fU:=λx y H Q=>∃i j,x=.int i/\y=.int j/\Q (g i j) H
def M6(g:Int->V):V->ax->cX->Prop:=λx H Q=>∃i,x=.int i/\Q (g i) H
section
variable{X:aS}{a b:Expr}{bT cK:TE}{pos:Pos}
def By(ak:bQ X a bT)(ab:bQ X b cK){zn:c2}{s:ajZ}{Y:St}{H:ax}{R:V->V->ax->Prop}(I:Inv X zn Y H s)
  (h:bT Y H λx H1=>cK Y H1 λy aM=>R x y aM) {Q:cB}{f:Value->Value->Sem Value}
  (hf:∀v u s2 x y aM,Inv X zn Y aM s2->RelV x v->RelV y u->R x y aM->wpAny (model X.prog X.w) X.A (f v u) Q X.dV s2) :
  wpAny (model X.prog X.w) X.A (eval a X.env) (λv dw=>wpAny (model X.prog X.w) X.A (eval b X.env) (λu mY=>wpAny (model X.prog X.w) X.A (f v u) Q X.dV mY) X.dV dw) X.dV s:=by
 refine bV (ak zn s Y H _ I h) λv s1 aW=>?_
 obtain⟨x,H1,a9,bB,bk⟩:=aW;refine bV (ab zn s1 Y H1 _ a9 bk) λu s2 aW=>?_
 obtain⟨y,aM,bU,cq,b0⟩:=aW;exact hf v u s2 x y aM bU bB cq b0
def acj{r:fU}(a':en X (alV op) r)(ak:bQ X a bT)(ab:bQ X b cK):bQ X (.BinOp a op b pos) (xc r bT cK):=by
 intro zn s Y H Q I h;exact wpAny_BinOp (By ak ab I h λv u s2 x y aM bU a4 bz q=>a' zn s2 Y aM x y v u Q bU a4 bz q)
def acn{r:V->ax->cX->Prop}(a':A8 X (unaryOp op) r)(ak:bQ X a bT):bQ X (.UnaryOp op a pos) (afA r bT):=by
 intro zn s Y H Q I h;exact UnaryOp_ (bV (ak zn s Y H _ I h) λv s1 ⟨x,H1,a9,bB,bk⟩=>a' zn s1 Y H1 x v Q a9 bB bk)
def tZ{f:Value->Value->Sem Value}{C:Int->Int->Prop}{g:Int->Int->Int}
  (rule:∀(i j:Int)(t u:Tok)(s:ajZ)(Q:cB)(E:cB),C i j->Q (.int (g i j) s.toks) { s with toks:=s.toks+1 }->wpAny (model X.prog X.w) X.A (f (.int i t) (.int j u)) Q E s) :
  en X f (kg C λi j=>.int (g i j)):=by
 intro zn s Y H x y v u Q I a4 bz h;obtain⟨i,j,rfl,rfl,aD,q⟩:=h;obtain⟨t,rfl⟩:=a4;obtain⟨t',rfl⟩:=bz;exact rule i j t t' s _ _ aD ⟨.int (g i j),H,I.tok _,⟨_,rfl⟩,q⟩
def z2{f:Value->Value->Sem Value}{g:Int->Int->Int}
  (rule:∀(i j:Int)(t u:Tok)(s:ajZ)(Q:cB)(E:cB),Q (.int (g i j) s.toks) { s with toks:=s.toks+1 }->wpAny (model X.prog X.w) X.A (f (.int i t) (.int j u)) Q E s) :
  en X f (hQ λi j=>.int (g i j)):=by
 intro zn s Y H x y v u Q I a4 bz h;obtain⟨i,j,rfl,rfl,q⟩:=h;obtain⟨t,rfl⟩:=a4;obtain⟨t',rfl⟩:=bz;exact rule i j t t' s _ _ ⟨.int (g i j),H,I.tok _,⟨_,rfl⟩,q⟩
def z1{f:Value->Value->Sem Value}{g:Int->Int->Bool}
  (rule:∀(i j:Int)(t u:Tok)(s:ajZ)(Q:cB)(E:cB),Q (.bool (g i j)) s->wpAny (model X.prog X.w) X.A (f (.int i t) (.int j u)) Q E s) :
  en X f (hQ λi j=>.az (g i j)):=by
 intro zn s Y H x y v u Q I a4 bz h;obtain⟨i,j,rfl,rfl,q⟩:=h;obtain⟨t,rfl⟩:=a4;obtain⟨t',rfl⟩:=bz;exact rule i j t t' s _ _ ⟨.az (g i j),H,I,rfl,q⟩
def xA(i j:Int):Prop:=0<=j/\j<=1000000/\i.natAbs<2 ^ 64
def xy(i j:Int):Prop:=(-(2 ^ 64)<i/\i<2 ^ 64)\/(-(2 ^ 64)<j/\j<2 ^ 64)
def xy.ok{i j:Int}(h:xy i j):IntMulOk i j:=by
 rcases h with⟨ae,ah⟩|⟨ae,ah⟩
 .exact .of_left (intBits_le_64 ae ah)
 .exact .of_right (intBits_le_64 ae ah)
def afW(k:Nat):(0:Int)<=2 ^ k:=by
 rw[two_pow_cast];exact Int.natCast_nonneg _
def abj:en X (alV .Add) (hQ λi j=>.int (i+j)):=z2 λ_ _ _ _ _ _ _ q=>add_int q
def aby:en X (alV .Sub) (hQ λi j=>.int (i-j)):=z2 λ_ _ _ _ _ _ _ q=>sub_int q
def abr:en X (alV .Mod) (kg (λ_ j=>0<j) λi j=>.int (i % j)):=tZ λi j _ _ _ _ _ aD q=>by
 have ae:(0:Int)<j:=aD;exact mod_int' (by omega) (by rw[Int.fmod_eq_emod_of_nonneg i (by omega)];exact q)
def abv:en X (alV .Pow) (kg xA λi j=>.int (i ^ j.toNat)):=tZ λ_ _ _ _ _ _ _ aD q=>pow_int_small aD.1 aD.2.1 aD.2.2 q
def abw:en X (alV .LShift) (kg xA λi j=>.int (i*2 ^ j.toNat)):=tZ λ_ _ _ _ _ _ _ aD q=>lshift_int_small aD.1 aD.2.1 aD.2.2 q
def abx:en X (alV .RShift) (kg (λ_ j=>0<=j) λi j=>.int (i / 2 ^ j.toNat)):=tZ λi j _ _ _ _ _ aD q=>
 rshift_int aD (by rw[an4 i (afW _)];exact q)
def abl:en X (alV .BitAnd) (hQ λi j=>.int (amH i j)):=z2 λ_ _ _ _ _ _ _ q=>and_int q
def abu:en X (alV .BitOr) (hQ λi j=>.int (ani i j)):=z2 λ_ _ _ _ _ _ _ q=>or_int q
def afY{f:Value->Sem Value}{g:Int->Int}
  (rule:∀(i:Int)(t:Tok)(s:ajZ)(Q:cB)(E:cB),Q (.int (g i) s.toks) { s with toks:=s.toks+1 }->wpAny (model X.prog X.w) X.A (f (.int i t)) Q E s) :
  A8 X f (M6 λi=>.int (g i)):=by
 intro zn s Y H x v Q I a4 h;obtain⟨i,rfl,q⟩:=h;obtain⟨t,rfl⟩:=a4;exact rule i t s _ _ ⟨.int (g i),H,I.tok _,⟨_,rfl⟩,q⟩
def afZ:A8 X (unaryOp .USub) (M6 λi=>.int (-i)):=afY λ_ _ _ _ _ q=>neg_int q
end
section
variable{X:aS}{a b c:Expr}{bT cK mZ:TE}{pos:Pos}
def Cm{Q:cX}{k mH:Bool}(I:Inv X zn Y H s)(q:Q (.az k) H)(e:k=mH):gG X zn Y Q (.bool mH) s:=by
 subst e;exact⟨.az k,H,I,rfl,q⟩
def Mu:en X (akK .Lt) (hQ λi j=>.az (decide (i<j))):=z1 λ_ _ _ _ _ _ _ q=>lt_int q
def Ey:en X (akK .LtE) (hQ λi j=>.az (decide (i<=j))):=z1 λ_ _ _ _ _ _ _ q=>le_int q
def abp:en X (akK .Gt) (hQ λi j=>.az (decide (j<i))):=z1 λ_ _ _ _ _ _ _ q=>gt_int q
def Mq:en X (akK .GtE) (hQ λi j=>.az (decide (j<=i))):=z1 λ_ _ _ _ _ _ _ q=>ge_int q
def Ms:en X (akK .In) (λx y H Q=>∃i j,x=.str i/\y=.str j/\Q (.az (!(amo j i 0 j.length 1).isEmpty)) H):=by
 intro zn s Y H x y v u Q I a4 bz h;obtain⟨i,j,rfl,rfl,q⟩:=h;obtain⟨t,rfl⟩:=a4;obtain⟨t',rfl⟩:=bz;exact in_str (Cm I q rfl)
def Mt:en X (akK .Is) (λx y H Q=>y=.aI/\Q (.az (decide (x=.aI))) H):=by
 intro zn s Y H x y v u Q I a4 bz h;obtain⟨rfl,q⟩:=h;cases bz;refine is_none_gen (Cm I q ?_);cases x<;>first
  |(cases a4;rfl)
  |(obtain⟨t,rfl⟩:=a4;rfl)
def Mv:en X (akK .IsNot) (λx y H Q=>y=.aI/\Q (.az (!decide (x=.aI))) H):=by
 intro zn s Y H x y v u Q I a4 bz h;obtain⟨rfl,q⟩:=h;cases bz;refine isnot_none_gen (Cm I q ?_);cases x<;>first
  |(cases a4;rfl)
  |(obtain⟨t,rfl⟩:=a4;rfl)
def i0(b:Expr)(h:op≠.In:=by decide)(ah:op≠.NotIn:=by decide):alS op b=false:=by
 have av:(op==CmpOp.In)=false:=by cases op<;>first|rfl|exact absurd rfl h
 have aC:(op==CmpOp.NotIn)=false:=by cases op<;>first|rfl|exact absurd rfl ah
 cases b<;>simp[alS,av,aC]
def ab1{r:fU}(a':en X (akK op) r)(ak:bQ X a bT)(ab:bQ X b cK)(hm:alS op b=false):bQ X (.Compare a [op] [b] pos) (xc r bT cK):=by
 intro zn s Y H Q I h;exact wpAny_Compare1 (By ak ab I h λv u s2 x y aM bU a4 bz q=>a' zn s2 Y aM x y v u Q bU a4 bz q) hm
def xe(t:TE):TT:=λY H Q=>t Y H λx H'=>∃k,x=.az k/\Q k H'
theorem acL{r:fU}(a':en X (akK op) r)(ak:bQ X a bT)(ab:bQ X b cK)(hm:alS op b=false):iO X (.Compare a [op] [b] pos) (xe (xc r bT cK)):=by
 intro zn s Y H Q I h;refine wpAny_isTrue_Compare1 (bV (ak zn s Y H _ I h) λv s1 ⟨x,H1,a9,bB,bk⟩=>bV (ab zn s1 Y H1 _ a9 bk) λu s2 ⟨y,aM,bU,cq,b0⟩=>
  bV (a' zn s2 Y aM x y v u _ bU bB cq b0) λc s3 ⟨z,cT,dF,pb,k,e,gX⟩=>?_) hm
 subst e;cases pb;exact alc ⟨cT,dF,gX⟩
def O0(r bJ:fU)(bT cK mZ:TE):TE:=λY H Q=>bT Y H λx H1=>cK Y H1 λy aM=>r x y aM λz cT=>∃k,z=.az k/\
 (if k=true then mZ Y cT λeR hE=>bJ y eR hE Q else Q (.az false) cT)
def acK{op tY:CmpOp}{r bJ:fU}(a':en X (akK op) r)(ib:en X (akK tY) bJ)(ak:bQ X a bT)(ab:bQ X b cK)(aD:bQ X c mZ)
  (hm:lastMarks [op,tY] [b,c]=false:=by with_unfolding_all rfl):iO X (.Compare a [op,tY] [b,c] pos) (xe (O0 r bJ bT cK mZ)):=by
 intro zn s Y H Q I h;refine isTrue_chain (bV (ak zn s Y H _ I h) λv s1 ⟨x,H1,a9,bB,bk⟩=>test_link (bV (ab zn s1 Y H1 _ a9 bk) λu s2 ⟨y,aM,bU,cq,b0⟩=>
  bV (a' zn s2 Y aM x y v u _ bU bB cq b0) λd s3 ⟨z,cT,dF,pb,k,e,gX⟩=>?_)) hm
 subst e;cases pb;refine alc ?_
 cases k with
 |false=>
  obtain⟨mH,cA,hy⟩:=gX;cases cA;exact ite_ff ⟨cT,dF,hy⟩
 |true=>
  refine ite_tt (test_last (bV (aD zn s3 Y cT _ dF gX) λeR s4 ⟨k',hE,i_,nT,t8⟩=>bV (ib zn s4 Y hE y k' u eR _ i_ cq nT t8) λd' s5 aW=>?_));obtain⟨eb,lj,sx,EV,f_,aC,EU⟩:=aW;subst aC;cases EV;exact alc ⟨lj,sx,EU⟩
def vU:(aj3:Nat)<2 ^ 63:=by rw[ako];decide
def abk:en X (alV .Add) (λx y H Q=>∃i j,x=.str i/\y=.str j/\i.length+j.length<=aj3/\Q (.str (i++j)) H):=by
 intro zn s Y H x y v u Q I a4 bz h;obtain⟨i,j,rfl,rfl,hz,q⟩:=h;obtain⟨t,rfl⟩:=a4;obtain⟨t',rfl⟩:=bz;exact add_str (λt' tk=>⟨.str (i++j),H,I.tok _,⟨_,rfl⟩,q⟩) hz
def vals1(r:Vals [x] us):∃u,us=[u]/\RelV x u:=by
 cases r with
 |cons bB cq=>cases cq;exact⟨_,rfl,bB⟩
def vals2(r:Vals [x,y] us):∃u eR,us=[u,eR]/\RelV x u/\RelV y eR:=by
 cases r with
 |cons bB cq=>
  cases cq with
  |cons pb nT=>cases nT;exact⟨_,_,rfl,bB,pb⟩
def Tg:ir X (.builtin "abs") (λxs H Q=>∃i,xs=[.int i]/\Q (.int (if i<0 then -i else i)) H):=by
 intro zn s Y H xs us Q I r h;obtain⟨i,rfl,q⟩:=h;obtain⟨u,rfl,t,rfl⟩:=vals1 r;exact call_abs_int λu tk=>⟨.int (if i<0 then -i else i),H,I.tok _,⟨_,rfl⟩,q⟩
def Tr(aD:X.calm=true):ir X (.builtin "max") (λxs H Q=>∃i j,xs=[.int i,.int j]/\Q (.int (if j > i then j else i)) H):=by
 intro zn s Y H xs us Q I r h;obtain⟨i,j,rfl,q⟩:=h;obtain⟨u,eR,rfl,⟨t,rfl⟩,⟨t',rfl⟩⟩:=vals2 r;refine max_two_ints (I.ok.hd aD) λh' tk k=>⟨_,H,I.kept k,?_,q⟩
 by_cases aR:j > i
 .rw[if_pos aR,if_pos aR];exact⟨_,rfl⟩
 .rw[if_neg aR,if_neg aR];exact⟨_,rfl⟩
def Tt(aD:X.calm=true):ir X (.builtin "min") (λxs H Q=>∃i j,xs=[.int i,.int j]/\Q (.int (if j<i then j else i)) H):=by
 intro zn s Y H xs us Q I r h;obtain⟨i,j,rfl,q⟩:=h;obtain⟨u,eR,rfl,⟨t,rfl⟩,⟨t',rfl⟩⟩:=vals2 r;refine min_two_ints (I.ok.hd aD) λh' tk k=>⟨_,H,I.kept k,?_,q⟩
 by_cases aR:j<i
 .rw[if_pos aR,if_pos aR];exact⟨_,rfl⟩
 .rw[if_neg aR,if_neg aR];exact⟨_,rfl⟩
def Ti:ir X (.type "int") (λxs H Q=>(∃i,xs=[.int i]/\Q (.int i) H)\/∃k,xs=[.az k]/\Q (.int (if k then 1 else 0)) H):=by
 intro zn s Y H xs us Q I r h;rcases h with⟨i,rfl,q⟩|⟨k,rfl,q⟩
 .obtain⟨u,rfl,t,rfl⟩:=vals1 r
  exact call_int_int ⟨.int i,H,I,⟨_,rfl⟩,q⟩
 .obtain⟨u,rfl,bB⟩:=vals1 r
  cases bB;exact call_int_bool ⟨.int (if k then 1 else 0),H,I.tok _,⟨_,rfl⟩,q⟩
end
structure qV(h:Heap)(x b7 C:Addr)(ek:bo):Prop where
 obj:h.get? x=some (amZ C b7)
 ns:h.Ns1 b7 ek
 ne:b7≠x
def aab{h:Heap}{ek:bo}(n:h.Ns1 b7 ek):∃df,h.get? b7=some df/\∀name,W.lookIn name df=some (ek name):=by
 obtain⟨o,ay,cf,a',hd,aw,_,hm⟩:=n;refine⟨o,a',λname=>?_⟩;have e:=hm name;unfold nsFind anR at e;rw[<-Array.find?_toList]at e;unfold W.lookIn;rw[hd];dsimp only;split
 .rename_i y q
  rw[q]at e;exact congrArg some e
 .rename_i q
  rw[q]at e;have a:ay.toList.any (·.refKey)=false:=by
   rw[List.any_eq_false];intro y ba;obtain⟨z,t,yY⟩:=aw y (Array.mem_toList_iff.mp ba);simp[DictEntry.refKey,yY]
  have Ql:¬ay.toList.any (·.refKey)=true:=by rw[a];exact aj6
  rw[if_neg Ql];exact congrArg some e
def qV.look{ek:bo}(I:qV h x b7 C ek):∃df,W.InstAt h x (amZ C b7) C (some df)/\∀name,W.lookIn name df=some (ek name):=
 let⟨df,a',ar⟩:=aab I.ns
 ⟨df,⟨I.obj,rfl,rfl,a'⟩,ar⟩
section
variable{prog:akh}{w:World}{A:akl}{E:cB}{s:ajZ}{K:aT}{x b7 C f:Addr}{ek:bo}{name:Str}{v:Value}
def get_map{expr:Bool}{Q:cB}(X:K.In s.heap)(I:qV s.heap x b7 C ek)(aV:aoh K C name=true)(d7:aoM K C=true)
  (ak:al5 K (.ref C) name=some none) (bI:ek name=some v) (mD:W.handedIn v=true) (h:Q v { s with toks:=s.toks+1 }) :
  wpAny (model prog w) A (getAttr (.ref x) name expr) Q E s:=by
 obtain⟨df,cm,ar⟩:=I.look;exact W.get_value X cm (W.plainGet_of aV).1 (W.findObj_own d7 ak rfl (by rw[ar,bI])) mD h
def V5{pl:Sem Bool}{Q:Value×List Value->ajZ->Prop}(X:K.In s.heap)(I:qV s.heap x b7 C ek)(aV:aoh K C name=true)
  (hf:al5 K (.ref C) name=some (some (.ref f))) (bM:W.isFn K (.ref f)=true) (bI:ek name=none) (h:Q (.ref f,[.ref x]) s) :
  wpAny (model prog w) A (amb (.ref x) name pl) Q E s:=by
 obtain⟨df,cm,ar⟩:=I.look;exact W.method_fn X cm (W.plainGet_of aV).1 (W.plainGet_of aV).2 hf (beq_iff_eq.mp bM) (by show(W.lookIn name df).map (·.isSome)=some false;rw[ar,bI];rfl) h
def aeJ{ns:List Str}{Q:Unit->ajZ->Prop}(X:K.In s.heap)(I:qV s.heap x b7 C ek)
  (aj:al5 K (.ref C) "__setattr__"=some (some (.builtin "object.__setattr__"))) (aH:W.plainOver K C=true) (bM:W.takerIn K C name=some none) (d7:aoM K C=true)
  (hw:Within ek ns) (hsz:ns.length<=aj3)
  (h:∀h',qV h' x b7 C (λy=>if y=name then some v else ek y)->anu b7 s.heap h'->Q () { s with heap:=h',toks:=s.toks+2 }) :
  wpAny (model prog w) A (setAttr (.ref x) name v) Q E s:=by
 obtain⟨df,cm,ar⟩:=I.look;refine W.set_plain X cm aj (W.osa_open (s:={ s with toks:=s.toks+1 }) (r:=none) X cm aH bM λb=>?_);obtain⟨cd,aD,vy⟩:=W.any_some d7;have ag:s.heap.get? x=some ⟨.ref C,some b7,.plain,#[]⟩:=I.obj;refine ajV (aj1 (ajV (ajV (wpAny_loadPart ag (ajV (W.Looks.here (s:={ s with toks:=s.toks+1 }) (W.looks_clsIn X aD) ?_))))));rw[vy];refine aj1 (a:=some b7) (ajV (aj1 (ajV ?_)));refine wpAny_nsSet1 (s:={ s with toks:=s.toks+1 }) I.ns λh' ti kQ=>?_
 obtain⟨ajA,ajd,ajc,Yx,XP,XN⟩:=ti.count (Within.cons name v hw);refine ajV (wpAny_lookBehind Yx (by rw[XP];exact pastItsLine_dict (alg XN (by rw[akd];omega))) ?_);exact aj1 (h _ ⟨(kQ.2 _ (amT I.ne)).trans I.obj,ti,I.ne⟩ kQ)
def aak{R:Result->ajZ->Prop}{vs:List Value}{kw:List (Str×Value)}(X:K.In s.heap)(hm:W.makesIn K C=true)
  (aB:al5 K (.ref C) "__init__"=some (some (.ref f))) (hf:W.typeIn K (.ref f)=some (.type "function"))
  (h:amI (model prog w) (A.under (.builtin "type.__call__" ⟨.ref C::vs,kw⟩)) (.call (.ref f) ⟨.ref (s.heap.objs.size+1)::vs,kw⟩) (W.InitBack (s.heap.objs.size+1) R)
   { s with heap:=(s.heap.push amc).push (amZ C s.heap.objs.size) }) :
  amI (model prog w) A (.call (.ref C) ⟨vs,kw⟩) R s:=by
 obtain⟨d7,g,d,t,os⟩:=s;exact W.make_core (W.makes_of X hm) (W.looks_findIn X aB) (λself=>W.bind_fn X self hf) (.inl rfl) h
end
def ik(f:Str)(v:V):List (Str×V)->List (Str×V)
 |[]=>[(f,v)]
 |(g,x)::r=>if g=f then(g,v)::r else(g,x)::ik f v r
theorem LC(f g:Str)(v:V):∀aY:List (Str×V),(ik f v aY).lookup g=if g=f then some v else aY.lookup g
 |[]=>by
  show alE g [(f,v)]=_
  by_cases h:g=f
  .have ab:(g==f)=true:=beq_iff_eq.mpr h
   simp only[alE,ab,if_pos h]
  .have ab:(g==f)=false:=beq_eq_false_iff_ne.mpr h
   simp only[alE,ab,if_neg h]
 |(k,x)::r=>by
  have a6:=LC f g v r;rw[show ik f v ((k,x)::r)=(if k=f then(k,v)::r else(k,x)::ik f v r)from rfl]
  by_cases aw:k=f
  .rw[if_pos aw]
   by_cases h:g=k
   .have ab:(g==k)=true:=beq_iff_eq.mpr h
    simp only[alE,ab,if_pos (h.trans aw)]
   .have ab:(g==k)=false:=beq_eq_false_iff_ne.mpr h
    simp only[alE,ab,if_neg (λe:g=f=>h (e.trans aw.symm))]
  .rw[if_neg aw]
   by_cases h:g=k
   .have ab:(g==k)=true:=beq_iff_eq.mpr h
    simp only[alE,ab,if_neg (λe:g=f=>aw (h.symm.trans e))]
   .have ab:(g==k)=false:=beq_eq_false_iff_ne.mpr h
    simp only[alE,ab];exact a6
theorem DA(f:Str)(v:V):∀aY:List (Str×V),f∈(ik f v aY).map (·.1)/\∀g,g∈aY.map (·.1)->g∈(ik f v aY).map (·.1)
 |[]=>⟨by simp[ik],λg h=>by simp at h⟩
 |(k,x)::r=>by
  obtain⟨ft,fN⟩:=DA f v r;rw[show ik f v ((k,x)::r)=(if k=f then(k,v)::r else(k,x)::ik f v r)from rfl]
  by_cases aw:k=f
  .rw[if_pos aw]
   subst aw;exact⟨by simp,λg h=>by simpa using h⟩
  .rw[if_neg aw]
   refine⟨?_,λg h=>?_⟩
   .rw[aj8]
    exact aj4 _ ft
   .rw[aj8]at h ⊢
    rcases aj5.mp h with e|e
    .exact aj5.mpr (.inl e)
    .exact aj4 _ (fN g e)
theorem Lu(f:Str)(v:V):∀aY:List (Str×V),(ik f v aY).length<=aY.length+1
 |[]=>by simp[ik]|(k,x)::r=>by
  have a6:=Lu f v r;rw[show ik f v ((k,x)::r)=(if k=f then(k,v)::r else(k,x)::ik f v r)from rfl]
  by_cases aw:k=f
  .rw[if_pos aw,akd,akd];omega
  .rw[if_neg aw,akd,akd];omega
def iw.some_of{v:V}(r:iw (some v) o):∃u,o=some u/\RelV v u:=by
 cases o with
 |none=>exact(show False from r).elim|some u=>exact⟨u,rfl,r⟩
def iw.none_of(r:iw none o):o=none:=by
 cases o with
 |none=>rfl|some u=>exact(show False from r).elim
def Wy{v:V}(r:RelV v u):W.handedIn u=true:=by
 cases v with
 |aI=>cases(show u=alf from r);rfl
 |az b=>cases(show u=amO b from r);rfl
 |int i=>obtain⟨t,e⟩:=(show ∃t,u=anm i t from r);cases e;rfl
 |str x=>obtain⟨t,e⟩:=(show ∃t,u=anO x t from r);cases e;rfl
 |ya b=>obtain⟨t,e⟩:=(show ∃t,u=Value.bytes b t from r);cases e;rfl
 |yB b=>obtain⟨t,e⟩:=(show ∃t,u=Value.float b t from r);cases e;rfl
 |ref a=>cases(show u=aks a from r);rfl
 |ty n=>cases(show u=am5 n from r);rfl
section
variable{P:akh}{w:World}{H:ax}{h:Heap}{a C b7:Addr}{aY:List (Str×V)}
def Dh(bO:e_ P w H h)(e:H a=some (.ins C b7 aY)):∃ek,qV h a b7 C ek/\(∀f,iw (aY.lookup f) (ek f))/\Within ek (aY.map (·.1))/\aY.length<=1000/\H b7=some (.own a):=by
 obtain⟨d,z,ne,bx,ek,n,r,q⟩:=(show gx P w H h a (.ins C b7 aY)from bO a _ e);exact⟨ek,⟨bx,n,ne⟩,r,q,z,d⟩
end
structure i7(K:aT)(C:Addr):Prop where
 wK:aoh K C Str.empty=true
 hd:aoM K C=true
 po:W.plainOver K C=true
 pe:al5 K (.ref C) "__setattr__"=some (some (.builtin "object.__setattr__"))
def i7.get{K:aT}{C:Addr}(c:i7 K C)(f:Str):aoh K C f=true:=c.wK
def qT(K:aT)(C:Addr)(f:Str):Prop:=al5 K (.ref C) f=some none
def qT.afE{K:aT}{C:Addr}{f:Str}(n:qT K C f):W.takerIn K C f=some none:=by
 unfold W.takerIn;rw[show al5 K (.ref C) f=some none from n];rfl
structure Meth(K:aT)(C:Addr)(m:Str)(f:Addr):Prop where
 at_:al5 K (.ref C) m=some (some (.ref f))
 fn:W.isFn K (.ref f)=true
 kp:alW K (.ref f)=true
section
variable{X:aS}{zn:c2}{Y:St}{H:ax}{s:ajZ}{a C b7:Addr}{aY:List (Str×V)}{f:Str}{v:V}{A:akl}{E:cB}
def V6{b:Bool}{Q:cB}(I:Inv X zn Y H s)(e:H a=some (.ins C b7 aY))(c:i7 X.K C)(n:qT X.K C f)(l:aY.lookup f=some v)
  (h:∀u aP,Inv X zn Y H aP->RelV v u->Q u aP):wpAny (model X.prog X.w) A (getAttr (.ref a) f b) Q E s:=by
 obtain⟨ek,O,r,_,_,_⟩:=Dh I.bO e;obtain⟨u,cy,d9⟩:=iw.some_of (v:=v) (o:=ek f) (by rw[<-l];exact r f);exact get_map I.e6 O (c.get f) c.hd n cy (Wy d9) (h u _ (I.tok _) d9)
def CA{m:Str}{g:Addr}{pl:Sem Bool}{Q:Value×List Value->ajZ->Prop}(I:Inv X zn Y H s)(e:H a=some (.ins C b7 aY))(c:i7 X.K C)(k:Meth X.K C m g)(l:aY.lookup m=none)
  (h:Q (.ref g,[.ref a]) s):wpAny (model X.prog X.w) A (amb (.ref a) m pl) Q E s:=by
 obtain⟨ek,O,r,_,_,_⟩:=Dh I.bO e;have aF:ek m=none:=iw.none_of (by rw[<-l];exact r m);exact V5 I.e6 O (c.get m) k.at_ k.fn aF h
def aeK{y:V}{u:Value}{Q:Unit->ajZ->Prop}(I:Inv X zn Y H s)(e:H a=some (.ins C b7 aY))(c:i7 X.K C)(n:qT X.K C f)(ar:aY.length<1000)(bz:RelV y u)
  (h:∀aP,Inv X zn Y (upd H a (.ins C b7 (ik f y aY))) aP->Q () aP):wpAny (model X.prog X.w) A (setAttr (.ref a) f u) Q E s:=by
 obtain⟨ek,O,r,wi,_,a'⟩:=Dh I.bO e;have hz:(aY.map (·.1)).length<=aj3:=by rw[ajX,ako];omega
 refine aeJ I.e6 O c.pe c.po n.afE c.hd wi hz λh' ao k1=>h _ ?_
 have hd:∃o,h'.get? b7=some o:=let⟨o,_,_,cA,_⟩:=ao.ns;⟨o,cA⟩
 refine I.write (x:=a) (e:=b7) (by rw[e];exact alp) (.inr a') (λb q ab z=>(k1.2 b ab).trans z) hd ?_;refine⟨by rw[dj O.ne];exact a',?_,O.ne,ao.obj,_,ao.ns,λg=>?_,λg aV=>?_⟩
 .have:=Lu f y aY;omega
 .show iw ((ik f y aY).lookup g) (if g=f then some u else ek g)
  rw[LC]
  by_cases q:g=f
  .rw[if_pos q,if_pos q];exact bz
  .rw[if_neg q,if_neg q];exact r g
 .by_cases q:g=f
  .rw[q];exact(DA f y aY).1
  .refine(DA f y aY).2 g (wi g λz=>aV ?_)
   show(if g=f then some u else ek g)=none;rw[if_neg q];exact z
theorem Inv.made(I:Inv X zn Y H s):Inv X zn Y (upd (upd H s.heap.objs.size (.own (s.heap.objs.size+1))) (s.heap.objs.size+1) (.ins C s.heap.objs.size []))
  { s with heap:=(s.heap.push amc).push (amZ C s.heap.objs.size) }:=by
 have av:(s.heap.push amc).get? s.heap.objs.size=some amc:=akb s.heap rfl;have aC:((s.heap.push amc).push (amZ C s.heap.objs.size)).get? (s.heap.objs.size+1)=some (amZ C s.heap.objs.size):=by
  have:=akb (s.heap.push amc) (o:=amZ C s.heap.objs.size) rfl
  rwa[amd]at this
 have c4:(s.heap.push amc).Ns s.heap.objs.size (λ_=>none):=⟨amc,#[],_,av,rfl,(λe he=>absurd he (by simp)),λ_=>rfl⟩;have a9:=I.laid (a:=s.heap.objs.size) (o:=.own (s.heap.objs.size+1)) (h':=s.heap.push amc) (t':=s.toks) (λb u q=>ajW _ q) (aj0 _) ⟨_,av⟩;refine a9.laid (a:=s.heap.objs.size+1) (o:=.ins C s.heap.objs.size []) (t':=s.toks) (λb u q=>ajW _ q) (alF (amd _ _)) ?_;have ne:s.heap.objs.size≠s.heap.objs.size+1:=akj (aor _);refine⟨by rw[dj ne,dy],akm _,ne,aC,λ_=>none,(Heap.Ns1.of_empty c4).at λo q=>ajW _ q,λ_=>alp,λy ba=>absurd rfl ba⟩
def QF{prog:akh}{w:World}{env:Env}{e:Expr}{f:Str}{pos:Pos}{s:ajZ}{Q:cB}(ab:alJ e f env (eval e env)=eval e env)
  (h:wpAny (model prog w) A (eval e env) (λo dw=>wpAny (model prog w) A (getAttr o f true) Q E dw) E s):wpAny (model prog w) A (eval (.Attribute e f pos) env) Q E s:=
 Attribute_any_ h (by rw[arm_eval_Attribute,ab])
end
def afi(K:aT)(bT:TE)(f:Str):TE:=λY H Q=>bT Y H λx H1=>∃a C b7 aY v,x=.ref a/\H1 a=some (.ins C b7 aY)/\i7 K C/\qT K C f/\aY.lookup f=some v/\Q v H1
def adm(K:aT)(bT k6:TE)(f:Str):g8:=λD Y H=>k6 Y H λy H1=>bT Y H1 λx aM=>∃a C b7 aY,x=.ref a/\aM a=some (.ins C b7 aY)/\i7 K C/\qT K C f/\aY.length<1000/\
 D.bj Y (upd aM a (.ins C b7 (ik f y aY)))
section
variable{X:aS}{o e value:Expr}{f:Str}{pos pos':Pos}{bT k6:TE}
def ab6(he:bQ X e bT)(ab:alJ e f X.env (eval e X.env)=eval e X.env):bQ X (.Attribute e f pos) (afi X.K bT f):=by
 intro zn s Y H Q I h;refine QF ab (bV (he zn s Y H _ I h) λu s1 aW=>?_);obtain⟨x,H1,a9,a4,a,C,b7,aY,v,ex,gm,c,n,l,q⟩:=aW;subst ex;obtain rfl:u=aks a:=a4;exact V6 a9 gm c n l λu' s2 bU d9=>⟨v,H1,bU,d9,q⟩
def acH(ak:bQ X o bT)(bI:bQ X value k6)(aj:alu value (some (.Attribute o f pos')) pos.line X.env=pure false):iM X (.Assign [.Attribute o f pos'] value pos) (adm X.K bT k6 f):=by
 intro zn s Y H D I h;refine plainObj_wpAny_Assign_Attribute (bV (bI zn s Y H _ I h) λu s1 ⟨y,H1,a9,bz,q⟩=>bV (ak zn s1 Y H1 _ a9 q) λea s2 ⟨x,aM,bU,a4,a,C,b7,aY,ex,gm,c,n,l,b0⟩=>?_) aj;subst ex;obtain rfl:ea=aks a:=a4;exact aeK bU gm c n l bz λs3 dF=>⟨Y,_,dF,b0⟩
def ajx{pl:Sem Bool}{m:Str}{apos:Pos}{args:List Expr}{zn:c2}{s:ajZ}{Y:St}{H:ax}{Q:cB}{te:TE}(he:bQ X e te)(I:Inv X zn Y H s)
  (h:te Y H λx H1=>∃a C b7 aY g,x=.ref a/\H1 a=some (.ins C b7 aY)/\i7 X.K C/\Meth X.K C m g/\aY.lookup m=none/\
   ∀s1,Inv X zn Y H1 s1->wpAny (model X.prog X.w) X.A (amP pos (.ref g) [.ref a] (akr pos (ajY args X.env)) (alN pos (alm [] X.env))) Q X.dV s1)
  (bM:eval (.Call (.Attribute e m apos) args [] pos) X.env=(do
   let ea <-eval e X.env
   amG apos.atName
   let(f,first) <-alP [ea] (amb ea m pl)
   amP pos f first (akr pos (ajY args X.env)) (alN pos (alm [] X.env)))) :
  wpAny (model X.prog X.w) X.A (eval (.Call (.Attribute e m apos) args [] pos) X.env) Q X.dV s:=by
 refine aoI (pl:=pl) (bV (he zn s Y H _ I h) λu s1 ⟨x,H1,a9,a4,a,C,b7,aY,g,ex,gm,c,k,l,q⟩=>?_) bM;subst ex;obtain rfl:u=aks a:=a4;exact CA a9 gm c k l (q s1 a9)
end
structure cF(k:Nat)(A:akl):Prop where
 hd:A.handled=none
 u3:A.depth+3*k+5<recursionLimit
 un:A.units+16*k+200<cLine
def cF.mono{j k:Nat}(r:cF k A)(h:j<=k):cF j A:=⟨r.hd,by have:=r.u3;omega,by have:=r.un;omega⟩
def cF.deeper{k:Nat}{A:akl}(r:cF (k+1) A)(env:Env):cF k (A.deeper env):=
 ⟨r.hd,by have:=r.u3;show A.depth+1+3*k+5 < _;omega,by have:=r.un;show A.units+3+16*k+200 < _;omega⟩
def cF.in1{k:Nat}{A:akl}(r:cF (k+1) A):cF k A.in1:=
 ⟨r.hd,by have:=r.u3;show A.depth+3*k+5 < _;omega,by have:=r.un;show A.units+1+16*k+200 < _;omega⟩
def aaj{A:akl}:(A.under (.builtin "type.__call__" ⟨.ref C::us,kw⟩)).depth=A.depth+1:=by
 first|rfl|simp[ao5,Code.weight,Code.isCreation,Code.isGuard,Code.isCaller,Code.frames,Code.isFrame,guardIds]
def aal{A:akl}:(A.under (.builtin "type.__call__" ⟨.ref C::us,kw⟩)).units=A.units+1:=by
 first|rfl|simp[ao5,Code.cUnits,Code.frames,Code.isFrame]
def cF.make{k:Nat}{A:akl}(r:cF (k+1) A)(C:Addr)(us:List Value)(kw:List (Str×Value)):cF k (A.under (.builtin "type.__call__" ⟨.ref C::us,kw⟩)):=
 ⟨r.hd,by have:=r.u3;rw[aaj];omega,by have:=r.un;rw[aal];omega⟩
def cF.depth{k:Nat}{A:akl}(r:cF k A):A.depth<recursionLimit:=by have:=r.u3;omega
def cF.units{k:Nat}{A:akl}(r:cF k A):A.units+64<cLine:=by have:=r.un;omega
def cF.af0{k:Nat}{A:akl}(r:cF k A):A.units<cLine:=by have:=r.un;omega
def xb:gj:=λ_ H Q=>Q [] H
def afc(bT:TE)(k4:gj):gj:=λY H Q=>bT Y H λx H1=>k4 Y H1 λxs aM=>Q (x::xs) aM
section
variable{X:aS}{e:Expr}{ay:List Expr}{te:TE}{t:gj}{pos:Pos}
def EE:fM X [] xb:=λ_ _ _ _ H Q I h=>aoa ⟨[],H,I,.nil,h⟩
theorem z4(ak:bQ X e te)(aA:fM X ay t)(aj:ajY (e::ay) X.env=(false,eval e X.env)::ajY ay X.env:=by rfl):fM X (e::ay) (afc te t):=by
 intro pos zn s Y H Q I h;rw[aj];show wpAny _ _ (spliced ((false,eval e X.env)::akr pos (ajY ay X.env))) _ _ s;refine am0 (bV (ak zn s Y H _ I h) λu s1 aW=>?_);obtain⟨x,H1,a9,bB,bk⟩:=aW;exact bV (aA pos zn s1 Y H1 _ a9 bk) λus s2 ⟨xs,aM,bU,cq,b0⟩=>⟨x::xs,aM,bU,.cons bB cq,b0⟩
def afz(t:gj):TE:=λY H Q=>t Y H λxs H1=>xs.length<=aj3/\∀p,H1 p=none->Q (.ref p) (upd H1 p (.t xs))
def afk(t:gj):TE:=λY H Q=>t Y H λxs H1=>xs.length<=aj3/\∀p,H1 p=none->Q (.ref p) (upd H1 p (.l xs))
theorem EI{lX}(h:fM X ay t):bQ X (.Tuple ay lX pos) (afz t):=by
 intro zn s Y H Q I a8;refine wpAny_Tuple_spliced (bV (h pos zn s Y H _ I a8) λus s1 ⟨xs,H1,a9,r,z,q⟩=>⟨by rw[<-r.length];exact z,?_⟩);have hf:H1 s1.heap.objs.size=none:=a9.bO.fresh (aj0 _);refine⟨.ref s1.heap.objs.size,upd H1 s1.heap.objs.size (.t xs),a9.laid (t':=s1.toks) (λb u e=>ajW _ e) (aj0 _) ?_,rfl,q _ hf⟩;exact⟨z,us,r,⟨_,akb _ rfl,rfl,_,rfl⟩⟩
theorem acb(h:fM X ay t):bQ X (.List ay pos) (afk t):=by
 intro zn s Y H Q I a8;refine wpAny_List_spliced (bV (h pos zn s Y H _ I a8) λus s1 ⟨xs,H1,a9,r,z,q⟩=>⟨by rw[<-r.length];exact z,?_⟩);have hf:H1 s1.heap.objs.size=none:=a9.bO.fresh (aj0 _);refine⟨.ref s1.heap.objs.size,upd H1 s1.heap.objs.size (.l xs),a9.laid (t':=s1.toks) (λb u e=>ajW _ e) (aj0 _) ?_,rfl,q _ hf⟩;exact⟨z,us,0,r,akb _ rfl⟩
end
abbrev ed:=List V->ax->cX->gy->Prop
abbrev m8:=List Env->ax->ajZ->gy->Value->ajZ->Prop
structure lg(P:akh)(w:World)(K:aT)(mg:bo)(base:Heap)(A:akl)(outer:List Env)(s:ajZ)(H:ax):Prop where
 frames:A.frames=some outer
 mod:Mod K mg base
 bs:∀b o,base.get? b=some o->s.heap.get? b=some o/\H b=none
 l_:base.objs.size<=s.heap.objs.size
 kM:s.heap.FunFrames base outer
 pZ:∀b∈ml outer,H b=none
 bO:e_ P w H s.heap
 bare:ano s.gens
def hC(outer:List Env)(P:akh)(w:World)(H:ax)(s:ajZ)(Q:cX)(u:Value)(aP:ajZ):Prop:=
 ∃v H',aP.os=s.os/\ano aP.gens/\gJ (ml outer) [] H H' s.heap aP.heap/\e_ P w H' aP.heap/\RelV v u/\Q v H'
def F7(ey:m8)(outer:List Env)(P:akh)(w:World)(H:ax)(s:ajZ)(Q:cX)(E:gy)(r:Result)(aP:ajZ):Prop:=
 match r with
 |.ok (.ret u)=>hC outer P w H s Q u aP|.ok _=>False|.error e=>ey outer H s E e aP
structure e9(P:akh)(w:World)(K:aT)(mg:bo)(base:Heap)(ey:m8)(k:Nat)(f:Addr)(fd:ale)(ps:List Str)(sp:ed):Prop where
 len:∀vs H Q E,sp vs H Q E->vs.length=ps.length
 run:∀(A:akl)(outer:List Env)(s:ajZ)(H:ax)(args:Args)(us:List Value)(vs:List V)(Q:cX)(E:gy),cF k A->lg P w K mg base A outer s H->BindsTo s fd args (ps.zip us)->Vals vs us->sp vs H Q E->
  amI (model P w) A (.call (.ref f) args) (F7 ey outer P w H s Q E) s
def e9.mono{P:akh}{w:World}{K:aT}{mg:bo}{base:Heap}{ey:m8}{j k:Nat}{f:Addr}{fd:ale}{ps:List Str}{sp:ed}(F:e9 P w K mg base ey j f fd ps sp)(h:j<=k) :
  e9 P w K mg base ey k f fd ps sp:=⟨F.len,λA outer s H args us vs Q E aA=>F.run A outer s H args us vs Q E (aA.mono h)⟩
def e9.imp{P:akh}{w:World}{K:aT}{mg:bo}{base:Heap}{ey:m8}{k:Nat}{f:Addr}{fd:ale}{ps:List Str}{sp ON:ed}(F:e9 P w K mg base ey k f fd ps sp)
  (h:∀vs H Q E,ON vs H Q E->sp vs H Q E):e9 P w K mg base ey k f fd ps ON:=
 ⟨λvs H Q E q=>F.len vs H Q E (h _ _ _ _ q),λA outer s H args us vs Q E aA he ab bI aj=>F.run A outer s H args us vs Q E aA he ab bI (h _ _ _ _ aj)⟩
def lg.make{P:akh}{w:World}{K:aT}{mg:bo}{base:Heap}{A:akl}{outer:List Env}{s:ajZ}{H:ax}(e:lg P w K mg base A outer s H)(C:Addr)(us:List Value)(kw:List (Str×Value)) :
  lg P w K mg base (A.under (.builtin "type.__call__" ⟨.ref C::us,kw⟩)) outer s H:=⟨by first|exact e.frames|(simpa[ao5,Code.envs,Code.isFrame,pushEnvs]using e.frames),e.mod,e.bs,e.l_,e.kM,e.pZ,e.bO,e.bare⟩
def lg.in1{P:akh}{w:World}{K:aT}{mg:bo}{base:Heap}{A:akl}{outer:List Env}{s:ajZ}{H:ax}(e:lg P w K mg base A outer s H) :
  lg P w K mg base A.in1 outer s H:=⟨e.frames,e.mod,e.bs,e.l_,e.kM,e.pZ,e.bO,e.bare⟩
section
variable{X:aS}{zn:c2}{Y:St}{H:ax}{s aP:ajZ}
def Inv.u9(I:Inv X zn Y H s):lg X.prog X.w X.K X.mg X.base X.A X.stack s H:=
 ⟨I.ok.frames,I.ok.mod,I.bs,alg I.ok.l_ I.lR,I.stack,I.OQ,I.bO,I.bare⟩
def Inv.after(I:Inv X zn Y H s)(h:hC X.stack X.prog X.w H s Q u aP):gG X zn Y Q u aP:=by
 obtain⟨v,H',os,bare,un,bO,r,q⟩:=h;obtain⟨d7,g,d,t,abB⟩:=aP;obtain rfl:abB=s.os:=os;exact⟨v,H',I.call (h':=d7) (g':=g) (d':=d) (t':=t) (ch:=[]) un bO bare (λb z=>absurd z (by simp)),r,q⟩
end
def OZ(sp:ed)(dvs:List V)(E:gy)(t:gj):TE:=λY H Q=>t Y H λvs H1=>sp (vs++dvs) H1 Q E
def O1(C:Addr)(m:Str)(sp:ed)(dvs:List V)(E:gy)(bT:TE)(t:gj):TE:=λY H Q=>bT Y H λx H1=>∃a b7 aY,x=.ref a/\H1 a=some (.ins C b7 aY)/\aY.lookup m=none/\
 t Y H1 λvs aM=>sp (x::(vs++dvs)) aM Q E
def afl(C:Addr)(sp:ed)(dvs:List V)(E:gy)(t:gj):TE:=λY H Q=>t Y H λvs H1=>∀x b7,H1 x=none->H1 b7=none->b7≠x->
 sp (.ref x::(vs++dvs)) (upd (upd H1 b7 (.own x)) x (.ins C b7 [])) (λv aM=>v=.aI/\Q (.ref x) aM) E
def Binds(K:aT)(fd:ale)(ps:List Str)(ds:List Value):Prop:=
 ∀(s:ajZ)(us:List Value),K.In s.heap->(us++ds).length=ps.length->BindsTo s fd ⟨us,[]⟩ (ps.zip (us++ds))
def Binds.all{K:aT}{fd:ale}{ps:List Str}(h:∀us:List Value,us.length=ps.length->ame fd ⟨us,[]⟩=pure (ps.zip us)):Binds K fd ps []:=λs us _ ar=>by
 rw[ak6]at ar ⊢;exact .of_eq (h us ar)
def Passes(ey:m8)(X:aS)(E:gy):Prop:=∀(zn:c2)(Y:St)(H:ax)(s:ajZ)(e:Value)(aP:ajZ),Inv X zn Y H s->ey X.stack H s E e aP->X.dV e aP
section
variable{X:aS}{ey:m8}{k:Nat}{f C:Addr}{fd:ale}{ps:List Str}{sp:ed}{dvs:List V}{ds:List Value}{E:gy}{x m:Str}{p pos apos:Pos}{e o:Expr}{ay:List Expr}{bT:TE}{t:gj}
theorem w0{zn:c2}{Y:St}{H:ax}{s:ajZ}{Q:cX}{us:List Value}{vs:List V}(F:e9 X.prog X.w X.K X.mg X.base ey k f fd ps sp)(aA:cF k X.A)(ab:Binds X.K fd ps ds)(hd:Vals dvs ds)(ag:Passes ey X E)
  (I:Inv X zn Y H s) (r:Vals vs us) (h:sp (vs++dvs) H Q E):wpAny (model X.prog X.w) X.A (call (.ref f) us) (gG X zn Y Q) X.dV s:=by
 have cq:Vals (vs++dvs) (us++ds):=r.append hd;have ar:(us++ds).length=ps.length:=by rw[<-cq.length];exact F.len _ _ _ _ h
 refine wpAny_call (amf (F.run X.A X.stack s H ⟨us,[]⟩ (us++ds) (vs++dvs) Q E aA I.u9 (ab s us I.e6 ar) cq h) λr aP a8=>?_)
 cases r with
 |error e=>exact ag zn Y H s e aP I a8|ok a7=>
  cases a7 with
  |ret u=>exact I.after a8|next=>exact akD a8
  |brk=>exact akD a8|cont=>exact akD a8
def abW(F:e9 X.prog X.w X.K X.mg X.base ey k f fd ps sp)(aA:cF k X.A)(aV:eF X x)(hm:X.mg x=some (.ref f))(aw:alW X.K (.ref f)=true)(ab:Binds X.K fd ps ds)(hd:Vals dvs ds)(ag:Passes ey X E)
  (ak:fM X (e::ay) t) (eC:(x==("__debug__":Str))=false:=by decide) (he:ajY (e::ay) X.env=(false,eval e X.env)::ajY ay X.env:=by rfl) (eU:(akr pos (ajY ay X.env)).any (·.1)=false:=by rfl) :
  bQ X (.Call (.Name x p) (e::ay) [] pos) (OZ sp dvs E t):=by
 intro zn s Y H Q I h;refine alw (tv I aV hm ?_ eC);refine aos (h₀:=X.base) I.ok.mod.tr aw (bV (ak pos zn s Y H _ I h) λus s1 ⟨vs,H1,a9,r,q⟩=>⟨a9.e6,?_⟩) he eU;exact w0 F aA ab hd ag a9 r q
def abX(F:e9 X.prog X.w X.K X.mg X.base ey k f fd ps sp)(aA:cF k X.A)(aV:eF X x)(hm:X.mg x=some (.ref f))(aw:alW X.K (.ref f)=true)(ab:Binds X.K fd ps ds)(hd:Vals dvs ds)(ag:Passes ey X E)
  (eC:(x==("__debug__":Str))=false:=by decide):bQ X (.Call (.Name x p) [] [] pos) (OZ sp dvs E xb):=by
 intro zn s Y H Q I h;refine alw (tv I aV hm ?_ eC);exact W.callWith_K0 I.e6 aw (w0 (us:=[]) F aA ab hd ag I .nil h)
theorem ace{pl:Sem Bool}(he:bQ X o bT)(c:i7 X.K C)(hm:Meth X.K C m f)(F:e9 X.prog X.w X.K X.mg X.base ey k f fd ps sp)(aA:cF k X.A)(ab:Binds X.K fd ps ds)(hd:Vals dvs ds)(ag:Passes ey X E)(ak:fM X (e::ay) t)
  (f9:ajY (e::ay) X.env=(false,eval e X.env)::ajY ay X.env:=by rfl) (eU:(akr pos (ajY ay X.env)).any (·.1)=false:=by rfl)
  (bM:eval (.Call (.Attribute o m apos) (e::ay) [] pos) X.env=(do
   let ea <-eval o X.env
   amG apos.atName
   let(f,first) <-alP [ea] (amb ea m pl)
   amP pos f first (akr pos (ajY (e::ay) X.env)) (alN pos (alm [] X.env))):=by rfl) :
  bQ X (.Call (.Attribute o m apos) (e::ay) [] pos) (O1 C m sp dvs E bT t):=by
 intro zn s Y H Q I h;refine aoI (pl:=pl) (bV (he zn s Y H _ I h) λu s1 ⟨x,H1,a9,a4,a,b7,aY,ex,gm,l,q⟩=>?_) bM;subst ex;obtain rfl:u=aks a:=a4;refine CA a9 gm c hm l ?_;refine aos (first:=[.ref a]) (h₀:=X.base) I.ok.mod.tr hm.kp (bV (ak pos zn s1 Y H1 _ a9 q) λus s2 ⟨vs,aM,bU,r,b0⟩=>⟨bU.e6,?_⟩) f9 eU;exact w0 (us:=.ref a::us) (vs:=.ref a::vs) F aA ab hd ag bU (.cons rfl r) b0
theorem acf{pl:Sem Bool}(he:bQ X o bT)(c:i7 X.K C)(hm:Meth X.K C m f)(F:e9 X.prog X.w X.K X.mg X.base ey k f fd ps sp)(aA:cF k X.A)(ab:Binds X.K fd ps ds)(hd:Vals dvs ds)(ag:Passes ey X E)
  (bM:eval (.Call (.Attribute o m apos) [] [] pos) X.env=(do
   let ea <-eval o X.env
   amG apos.atName
   let(f,first) <-alP [ea] (amb ea m pl)
   amP pos f first (akr pos (ajY [] X.env)) (alN pos (alm [] X.env))):=by rfl) :
  bQ X (.Call (.Attribute o m apos) [] [] pos) (O1 C m sp dvs E bT xb):=by
 intro zn s Y H Q I h;refine aoI (pl:=pl) (bV (he zn s Y H _ I h) λu s1 ⟨x,H1,a9,a4,a,b7,aY,ex,gm,l,q⟩=>?_) bM;subst ex;obtain rfl:u=aks a:=a4;refine CA a9 gm c hm l ?_;exact W.callWith_K0 (first:=[.ref a]) a9.e6 hm.kp (w0 (us:=[.ref a]) (vs:=[.ref a]) F aA ab hd ag a9 (.cons rfl .nil) q)
structure Gj(K:aT)(C f:Addr):Prop where
 makes:W.makesIn K C=true
 init:al5 K (.ref C) "__init__"=some (some (.ref f))
 fn:W.isFn K (.ref f)=true
 kp:alW K (.ref C)=true
theorem ada{zn:c2}{Y:St}{H:ax}{s:ajZ}{Q:cX}{us:List Value}{vs:List V}(M:Gj X.K C f)(F:e9 X.prog X.w X.K X.mg X.base ey k f fd ps sp)(aA:cF (k+1) X.A)(ab:Binds X.K fd ps ds)(hd:Vals dvs ds)
  (ag:Passes ey X E) (I:Inv X zn Y H s) (r:Vals vs us)
  (h:∀x b7,H x=none->H b7=none->b7≠x->sp (.ref x::(vs++dvs)) (upd (upd H b7 (.own x)) x (.ins C b7 [])) (λv aM=>v=.aI/\Q (.ref x) aM) E) :
  wpAny (model X.prog X.w) X.A (call (.ref C) us) (gG X zn Y Q) X.dV s:=by
 have a8:=h (s.heap.objs.size+1) s.heap.objs.size (I.bO.fresh (Nat.le_succ _)) (I.bO.fresh (aj0 _)) (akj (aor _));have bU:=Inv.made (C:=C) I;have cq:Vals (V.ref (s.heap.objs.size+1)::(vs++dvs)) (aks (s.heap.objs.size+1)::(us++ds)):=.cons rfl (r.append hd);have ar:(aks (s.heap.objs.size+1)::us++ds).length=ps.length:=by
  have e:=cq.length;rw[F.len _ _ _ _ a8]at e;exact e.symm
 refine wpAny_call (aak (f:=f) I.e6 M.makes M.init (beq_iff_eq.mp M.fn) (amf (F.run _ X.stack _ _ ⟨aks (s.heap.objs.size+1)::us,[]⟩ (aks (s.heap.objs.size+1)::(us++ds)) _ _ E (aA.make C us [])
  (bU.u9.make C us []) (ab _ (aks (s.heap.objs.size+1)::us) bU.e6 ar) cq a8) λr aP nE=>?_))
 cases r with
 |error e=>exact ag zn Y _ _ e aP bU nE|ok a7=>
  cases a7 with
  |ret u=>
   obtain⟨v,H',dF,bP,ev,gX⟩:=bU.after nE;subst ev;exact⟨bP,⟨V.ref (s.heap.objs.size+1),H',dF,rfl,gX⟩⟩
  |next=>exact akD nE
  |brk=>exact akD nE|cont=>exact akD nE
def acd(M:Gj X.K C f)(F:e9 X.prog X.w X.K X.mg X.base ey k f fd ps sp)(aA:cF (k+1) X.A)(aV:eF X x)(hm:X.mg x=some (.ref C))(ab:Binds X.K fd ps ds)(hd:Vals dvs ds)(ag:Passes ey X E)
  (ak:fM X (e::ay) t) (eC:(x==("__debug__":Str))=false:=by decide) (he:ajY (e::ay) X.env=(false,eval e X.env)::ajY ay X.env:=by rfl) (eU:(akr pos (ajY ay X.env)).any (·.1)=false:=by rfl) :
  bQ X (.Call (.Name x p) (e::ay) [] pos) (afl C sp dvs E t):=by
 intro zn s Y H Q I h;refine alw (tv I aV hm ?_ eC);refine aos (h₀:=X.base) I.ok.mod.tr M.kp (bV (ak pos zn s Y H _ I h) λus s1 ⟨vs,H1,a9,r,q⟩=>⟨a9.e6,?_⟩) he eU;exact ada M F aA ab hd ag a9 r q
end
structure b9(N P:List Str)(sc:Scope):Prop where
 kind:sc.kind=.function:=by rfl
 co:sc.isCoroutine=false:=by rfl
 gen:sc.isGenerator=false:=by rfl
 dU:N.Nodup:=by decide +kernel
 pre:N.take P.length=P:=by rfl
 par:∀x∈P,sc.names.lookup x=some .local\/sc.names.lookup x=some .cell:=by decide +kernel
 aaU:∀y∈sc.names,y.2≠.free:=by decide +kernel
theorem H9{kindOf:Str->Option amA}{x:Str}:∀{binds:List (Str×Value)}{m:bo},(∀v,(x,v)∉binds)->bindL kindOf binds m x=m x
 |[],_,_=>rfl|(n,v)::r,m,h=>by
  unfold bindL;rw[H9 λw hw=>h w (aj4 _ hw)];split
  .have:x≠n:=by rintro rfl;exact h v aj9
   simp[this]
  .rfl
theorem H7{kindOf:Str->Option amA}{x:Str}:∀{binds:List (Str×Value)}{m:bo},(∀v,(x,v)∉binds)->bindC kindOf binds m x=m x
 |[],_,_=>rfl|(n,v)::r,m,h=>by
  unfold bindC;rw[H7 λw hw=>h w (aj4 _ hw)];split
  .rfl
  .have:x≠n:=by rintro rfl;exact h v aj9
   simp[this]
theorem H8{kindOf:Str->Option amA}{v:Value}:∀{P:List Str}{vs:List Value}{i:Nat}{m:bo},P.Nodup->P[i]? = some x->vs[i]? = some v->kindOf x=some .local->
  bindL kindOf (P.zip vs) m x=some v
 |[],_,_,_,_,h,_,_=>by simp at h| _::_,[],_,_,_,_,h,_=>by simp at h|p::P,w::vs,0,m,dU,ae,ah,aw=>by
  simp at ae ah;subst ae;subst ah;show bindL kindOf ((p,w)::P.zip vs) m p=_;unfold bindL;rw[H9 λv bI=>(akT.mp dU).1 (amW bI).1,if_pos aw];simp
 |p::P,w::vs,i+1,m,dU,ae,ah,aw=>by
  show bindL kindOf ((p,w)::P.zip vs) m x=_;unfold bindL;exact H8 (i:=i) (akT.mp dU).2 (by simpa using ae) (by simpa using ah) aw
theorem H6{kindOf:Str->Option amA}{v:Value}:∀{P:List Str}{vs:List Value}{i:Nat}{m:bo},P.Nodup->P[i]? = some x->vs[i]? = some v->kindOf x≠some .local->
  bindC kindOf (P.zip vs) m x=some v
 |[],_,_,_,_,h,_,_=>by simp at h| _::_,[],_,_,_,_,h,_=>by simp at h|p::P,w::vs,0,m,dU,ae,ah,aw=>by
  simp at ae ah;subst ae;subst ah;show bindC kindOf ((p,w)::P.zip vs) m p=_;unfold bindC;rw[H7 λv bI=>(akT.mp dU).1 (amW bI).1,if_neg aw];simp
 |p::P,w::vs,i+1,m,dU,ae,ah,aw=>by
  show bindC kindOf ((p,w)::P.zip vs) m x=_;unfold bindC;exact H6 (i:=i) (akT.mp dU).2 (by simpa using ae) (by simpa using ah) aw
def start(N:List Str)(vs:List V):St:=vs.map some++akQ (N.length-vs.length) none
def g_(ey:m8)(P:akh)(w:World)(K:aT)(mg:bo)(base:Heap)(N:List Str)(qual:Str)(scope:Scope)(f:Addr)(cd:Value)(A:akl)(outer:List Env)(s:ajZ)(H:ax)(E:gy):aS where
 prog:=P
 w:=w
 K:=K
 mg:=mg
 base:=base
 A:=A.deeper (amJ qual scope s.heap.objs.size f cd)
 N:=N
 g0:=s
 H₀:=H
 env:=amJ qual scope s.heap.objs.size f cd
 outer:=outer
 stack:=amJ qual scope s.heap.objs.size f cd::outer
 ex:=[]
 calm:=true
 fn:=λ_=>true
 lO:=[]
 dV:=λe aP=>wpAny (model P w) (A.deeper (amJ qual scope s.heap.objs.size f cd)) (leaving (amJ qual scope s.heap.objs.size f cd) e) (λ_ w1=>ey outer H s E e w1) (λcA w1=>ey outer H s E cA w1) aP
def Iv{sc:Scope}(h:sc.names.lookup x=some .cell):∃c,(cellsFrom n sc.names []).lookup x=some c:=by
 have q:=aot sc.names n [] (.inl h);exact Option.isSome_iff_exists.mp q
def KC{ey:m8}{P:akh}{w:World}{K:aT}{mg:bo}{base:Heap}{N ps:List Str}{qual:Str}{scope:Scope}{f:Addr}{cd:Value}{A:akl}{outer:List Env}{s s1:ajZ}{H:ax}{E:gy}{us:List Value}{vs:List V}
  (S:b9 N ps scope) (hd:A.handled=none) (d5:lg P w K mg base A outer s H) (ar:vs.length=ps.length) (r:Vals vs us)
  (x:InCallC s s.heap.objs.size (bindL (amJ qual scope s.heap.objs.size f cd).kindOf (ps.zip us) λ_=>none) (cellsFrom (s.heap.objs.size+1) scope.names []) (bindC (amJ qual scope s.heap.objs.size f cd).kindOf (ps.zip us) λ_=>none) s1) :
  Inv (g_ ey P w K mg base N qual scope f cd A outer s H E) [] (start N vs) H s1:=by
 have eU:ps.length<=N.length:=by have:=congrArg alr S.pre;rw[amg]at this;omega
 obtain⟨ae,tk,rfl,aw⟩:=x.done;have wo:∀b:Addr,b∉(g_ ey P w K mg base N qual scope f cd A outer s H E).ex:=λb z=>absurd (show b∈([]:List Addr)from z) (by simp)
 refine⟨⟨d5.mod,S.kind,rfl,rfl,aj0 _,λy z c ae ah=>?_,λy ba=>?_,λy c _ h=>?_,λ_=>hd,Around.frames_deeper d5.frames,.inr ⟨rfl,rfl⟩,λb z=>absurd z (wo b),d5.bs,d5.l_,λb _ _=>wo b,λb z=>absurd z (wo b),d5.kM,d5.pZ⟩,
  rfl,d5.bare,gJ.kept aw,⟨_,x.toInCall.ns,λi y v ae ah bN=>?_⟩,λy c h=>⟨_,x.cell y c h⟩,d5.bO.fresh (aj0 _),λy c h=>?_,λp aH=>absurd (show p∈([]:c2)from aH) (by simp),d5.bO.kept aw,?_⟩
 .exact name_of_addr x.apart (alv ae) (alv ah)
 .have ba:scope.names.lookup y=some .cell\/scope.names.lookup y=some .free:=ba
  rcases ba with ba|ba
  .exact Iv ba
  .exact absurd rfl (S.aaU _ (alv ba))
 .exact ak8 (x.above y c (alv h))
 .have aB:i<vs.length:=by
   unfold start at ah
   by_cases aB:i<vs.length
   .exact aB
   .rw[akk (by simpa using aB)]at ah
    rw[alT]at ah;split at ah<;>cases ah
  have ak:vs[i]? = some v:=by
   unfold start at ah;rw[akq (by simpa using aB),aku]at ah
   cases e:vs[i]? with
   |none=>rw[e]at ah;cases ah
   |some a=>rw[e]at ah;cases ah;rfl
  obtain⟨u,cy,bP⟩:=r.get ak;have aH:ps[i]? = some y:=by
   rw[<-S.pre,List.getElem?_take_of_lt (by omega)];exact ae
  have L':ps.Nodup:=by rw[<-S.pre];exact S.dU.sublist (List.take_sublist _ _)
  refine⟨u,bP,?_⟩;rcases S.par y (akL aH)with k|k
  .exact .inl ⟨k,H8 L' aH cy k⟩
  .obtain⟨c,e⟩:=Iv (n:=s.heap.objs.size+1) k
   refine .inr ⟨.inl k,c,e,?_⟩;have q:=x.cell y c e;rw[H6 L' aH cy (by show scope.names.lookup y≠_;rw[k];decide)]at q;exact q
 .exact d5.bO.fresh (ak8 (x.above y c (alv h)))
 .unfold start
  show _=N.length;rw[aj7,ajX,alb];omega
def Cq{ey:m8}{P:akh}{w:World}{K:aT}{mg:bo}{base:Heap}{k:Nat}{f:Addr}{name qual:Str}{params:am1}{body:List Stmt}{scope:Scope}{q6 cC doc pm br b5 cZ:Value}{an df:Option Addr}
  {fv:Array (Option Value)}{N ps:List Str}{sp:ed}(lk:K.lookup f=some ⟨cZ,df,.func (alL name qual params body scope q6 cC doc pm an br b5),fv⟩) (gA:anI K br qual=true) (S:b9 N ps scope)
  (len:∀vs H Q E,sp vs H Q E->vs.length=ps.length)
  (vw:∀(A:akl)(outer:List Env)(s:ajZ)(H:ax)(vs:List V)(Q:cX)(E:gy),cF k (A.deeper (amJ qual scope s.heap.objs.size f br))->sp vs H Q E->
   ∃t,iN (g_ ey P w K mg base N qual scope f br A outer s H E) body t/\t { bj:=λ_ H'=>Q .aI H',cJ:=Q } (start N vs) H) :
  e9 P w K mg base ey (k+1) f (alL name qual params body scope q6 cC doc pm an br b5) ps sp:=by
 refine⟨len,λA outer s H args us vs Q E aA d5 ab r hM=>?_⟩;have ar:=len _ _ _ _ hM;have dA:K.In s.heap:=d5.mod.tr.keeps λb o e=>(d5.bs b o e).1
 have lim:s.heap.NoLimit:=d5.mod.nolimit.keeps λb o e=>(d5.bs b o e).1
 have CZ:∀y∈ps.zip us,scope.names.lookup y.1=some .local\/(scope.names.lookup y.1=some .cell/\((cellsFrom (s.heap.objs.size+1) scope.names []).lookup y.1).isSome=true):=λaW ba=>by
  obtain⟨n,v⟩:=aW;rcases S.par n (amW ba).1 with q|q
  .exact .inl q
  .exact .inr ⟨q,aot _ _ _ (.inl q)⟩
 refine codeAny_call_function aA.depth (dA _ _ lk) rfl S.co S.gen rfl (W.codeRec_of dA gA) (ab _ _ _ _ ?_);refine wpAny_newFunctionEnv_cells S.kind CZ λenv he s1 x=>?_
 subst he;refine⟨lim.keeps x.toInCall.keep,codeAny_func ?_⟩;obtain⟨t,bM,a8⟩:=vw A outer s H vs Q E (aA.deeper _) hM;have I:Inv (g_ ey P w K mg base N qual scope f br A outer s H E) [] (start N vs) H s1:=KC S aA.hd d5 ar r x;refine akH (bM [] s1 (start N vs) H _ I a8) (λa7 aP aj=>?_) λe aP aj=>aj
 have fin:∀{Y':St}{H':ax}{v:V}{u:Value},Inv (g_ ey P w K mg base N qual scope f br A outer s H E) [] Y' H' aP->RelV v u->Q v H'->hC outer P w H s Q u aP:=
  λ{Y' H' v u} cm bP q=>⟨v,H',cm.os,cm.bare,cm.base,cm.bO,bP,q⟩
 cases a7 with
 |ret u=>
  obtain⟨v,Y',H',cm,bP,q⟩:=aj;exact fin cm bP q
 |next=>
  obtain⟨Y',H',cm,q⟩:=aj;exact fin (v:=V.aI) (u:=alf) cm rfl q
 |brk=>
  obtain⟨_,_,_,q⟩:=aj;exact akD q
 |cont=>
  obtain⟨_,_,_,q⟩:=aj;exact akD q
section
variable{X:aS}{x:Str}{p pos:Pos}{e:Expr}{ay:List Expr}{t:gj}{id T:String}{r:List V->ax->cX->Prop}
def Fp(r:List V->ax->cX->Prop)(t:gj):TE:=λY H Q=>t Y H λvs H1=>r vs H1 Q
def abY(aD:ir X (.builtin id) r)(aV:eF X x)(hm:X.mg x=none)(bI:akJ x=some (.builtin id))(ak:fM X (e::ay) t)(aF:x≠"__name__":=by decide)(eC:(x==("__debug__":Str))=false:=by decide)
  (he:ajY (e::ay) X.env=(false,eval e X.env)::ajY ay X.env:=by rfl) (eU:(akr pos (ajY ay X.env)).any (·.1)=false:=by rfl):bQ X (.Call (.Name x p) (e::ay) [] pos) (Fp r t):=by
 intro zn s Y H Q I h;refine alw (rE I aV hm bI ?_ aF eC);exact PyProof.Rows.callWith_builtin1 (bV (ak pos zn s Y H _ I h) λus s1 ⟨vs,H1,a9,bB,bk⟩=>aD zn s1 Y H1 vs us Q a9 bB bk) he eU
def abZ(aD:ir X (.type T) r)(aV:eF X x)(hm:X.mg x=none)(bI:akJ x=some (.type T))(ak:fM X (e::ay) t)(aF:x≠"__name__":=by decide)(eC:(x==("__debug__":Str))=false:=by decide)
  (he:ajY (e::ay) X.env=(false,eval e X.env)::ajY ay X.env:=by rfl) (eU:(akr pos (ajY ay X.env)).any (·.1)=false:=by rfl):bQ X (.Call (.Name x p) (e::ay) [] pos) (Fp r t):=by
 intro zn s Y H Q I h;refine alw (rE I aV hm bI ?_ aF eC);exact amN (bV (ak pos zn s Y H _ I h) λus s1 ⟨vs,H1,a9,bB,bk⟩=>aD zn s1 Y H1 vs us Q a9 bB bk) he eU
end
end aE
namespace dZ
open PySem PyProof.Rows
def B8(A:akl)(s:ajZ)(a:Int)(t:Tok)(c:Int)(u:Tok):∃e,SeqAt.EqAt A s (.int a t) (.int c u) e/\(e=true↔a=c):=
 ⟨(a==c),ao6 a t c u,by simp⟩
section
variable{prog:akh}{w:World}{A:akl}{E:cB}{s:ajZ}
def cU(n d:Nat):Option Int->Nat
 |none=>d|some v=>if v<0 then(v+(n:Int)).toNat else min v.toNat n
def ado(n d:Nat):cU n d none=d:=rfl
def E_(n d k:Nat):cU n d (some (k:Int))=min k n:=by
 show(if(k:Int)<0 then((k:Int)+(n:Int)).toNat else min (k:Int).toNat n)=min k n;rw[if_neg (by omega),aob]
def adn(n d:Nat)(hd:d<=n)(o:Option Int):cU n d o<=n:=by
 cases o with
 |none=>exact hd|some v=>
  show(if v<0 then(v+(n:Int)).toNat else min v.toNat n)<=n
  by_cases bI:v<0
  .rw[if_pos bI];omega
  .rw[if_neg bI];exact Nat.min_le_right _ _
def IB(v:Int)(n d:Nat):(if v<0 then max (v+(n:Int)) 0 else min v (n:Int))=((cU n d (some v):Nat):Int):=by
 show(if v<0 then max (v+(n:Int)) 0 else min v (n:Int))=(((if v<0 then(v+(n:Int)).toNat else min v.toNat n):Nat):Int)
 by_cases bI:v<0
 .simp only[if_pos bI];omega
 .simp only[if_neg bI];omega
def Qq(lo aB:Option Int)(n:Nat):amX lo aB 1 (n:Int)=(((cU n 0 lo:Nat):Int),((cU n n aB:Nat):Int)):=by
 have ae:¬((1:Int)<0):=by omega
 unfold amX;simp only[ae,if_false];refine Prod.ext ?_ ?_
 .cases lo with
  |none=>rfl|some v=>exact IB v n 0
 .cases aB with
  |none=>rfl|some v=>exact IB v n n
def acy(i j:Nat):ama (i:Int) (j:Int) 1=j-i:=by
 unfold ama;have ae:(1:Int) > 0:=by omega
 simp only[ae,if_true,Int.ediv_one];split<;>omega
def OJ{v:Value}{o:Option Int}{Q:Option Int->ajZ->Prop}(p:anw v o)(h:Q o s):wpAny (model prog w) A (Builtin.Slice.slicePartIndex v) Q E s:=by
 cases p with
 |none=>exact slicePart_none h|int i t=>exact slicePart_int h
def OI{cS:Addr}{g4 g5:Value}{lo aB:Option Int}{n:Nat}{Q:Int×Int×Nat->ajZ->Prop}(aj:s.heap.IsSliceOf cS g4 g5 .none)(pl:anw g4 lo)(pu:anw g5 aB)
  (h:Q (((cU n 0 lo:Nat):Int),1,cU n n aB-cU n 0 lo) s):wpAny (model prog w) A (an5 (.ref cS) (pure (n:Int))) Q E s:=by
 obtain⟨os,ru,yU,oA⟩:=id aj;unfold an5 Builtin.Slice.sliceFields;refine ajV (ajV (aln ru oA (x:=g4) rfl (ajV (aln ru oA (x:=g5) rfl (ajV (aln ru oA (x:=.none) rfl (aj1 ?_)))))));refine ajV (slicePart_none ?_);show wpAny _ _ (if((1:Int)==0)=true then _ else _) _ _ s;rw[if_neg (by decide)];refine ajV (OJ pl (ajV (OJ pu (ajV (aj1 ?_)))));show wpAny _ _ (match amX lo aB 1 (n:Int)with|(lo,aB)=>pure (lo,(1:Int),ama lo aB 1)) _ _ s;rw[Qq lo aB n];show wpAny _ _ (pure (((cU n 0 lo:Nat):Int),(1:Int),ama ((cU n 0 lo:Nat):Int) ((cU n n aB:Nat):Int) 1)) _ _ s;rw[acy];exact aj1 h
def acw(xs:Array Value)(i k:Nat):((akG k).filterMap λ(m:Nat)=>xs[((i:Int)+(m:Int)*1).toNat]?).toArray=((xs.toList.drop i).take k).toArray:=by
 have e:(λ(m:Nat)=>xs[((i:Int)+(m:Int)*1).toNat]?)=λm=>xs[i+m]?:=by
  funext m
  have:((i:Int)+(m:Int)*1).toNat=i+m:=by omega
  rw[this]
 rw[e];have:=pick_run xs i k;rw[List.filterMap_map]at this;have aC:((λx=>xs[x]?)∘λx=>i+x)=λm=>xs[i+m]?:=rfl
 rw[aC]at this;rw[this]
def V1{t cS:Addr}{items:Array Value}{g4 g5:Value}{lo aB:Option Int}{Q:cB}(bM:IsTup s.heap t items)(aj:s.heap.IsSliceOf cS g4 g5 .none)(pl:anw g4 lo)(pu:anw g5 aB)
  (hw:¬(cU items.size 0 lo=0/\cU items.size items.size aB=items.size))
  (h:Q (.ref s.heap.objs.size) { s with heap:=s.heap.push { cls:=.type "tuple",data:=.seq ((items.toList.drop (cU items.size 0 lo)).take (cU items.size items.size aB-cU items.size 0 lo)).toArray } })
  (hsz:items.size<=aj3):wpAny (model prog w) A (am6 (.ref t) (.ref cS)) Q E s:=by
 have y3:sizeOk (.seq ((items.toList.drop (cU items.size 0 lo)).take (cU items.size items.size aB-cU items.size 0 lo)).toArray):=by
  show((items.toList.drop (cU items.size 0 lo)).take (cU items.size items.size aB-cU items.size 0 lo)).toArray.size<=aj3;rw[aka,amg,ak0,akR];omega
 have aR:cU items.size items.size aB<=items.size:=adn _ _ (aj0 _) aB;obtain⟨os,ru,yU,oA⟩:=id aj;have CI:s.TypeIs (.ref cS) "slice":=⟨os,ru,yU⟩;unfold am6
 try with_reducible refine alj ?_
 first|refine ajV (aj1 ?_)|skip
 refine ajV (wpAny_sequenceKey bM.typeIs (by decide) ?_);refine ajV (alB (name:=aki "__getitem__") bM.typeIs ald
  (amh ald bM.typeIs entry_tuple_getitem ?_ (args_tuple_getitem _ _)))
 show wpAny _ _ (an6 (.ref t) >>= _) _ _ s;refine ajV (tupleItemsOf_ bM ?_);refine ajV (wpAny_typeOf CI ?_);rw[if_pos (by decide)];refine ajV (OI aj pl pu ?_);have Yu:¬((((cU items.size 0 lo:Nat):Int)==0&&(1:Int)==1&&(cU items.size items.size aB-cU items.size 0 lo)==items.size)=true):=by
  intro q;rw[akE,akE]at q;have bk:((cU items.size 0 lo:Nat):Int)=0:=eq_of_beq q.1.1;have b0:cU items.size items.size aB-cU items.size 0 lo=items.size:=eq_of_beq q.2;exact hw ⟨by omega,by omega⟩
 show wpAny _ _ (if(((cU items.size 0 lo:Nat):Int)==0&&(1:Int)==1&&(cU items.size items.size aB-cU items.size 0 lo)==items.size)=true then _ else _) _ _ s;rw[if_neg Yu,acw]
 first
  |exact ajV (m:=ami _) (alR (aj1 ⟨_,rfl,aj1 h⟩) y3)
  |exact ajV (m:=ami _) (alR (ajV (aj1 (aj1 ⟨_,rfl,aj1 h⟩))) y3)
  |exact ajV (ajV (m:=ami _) (alR (aj1 (aj1 ⟨_,rfl,aj1 h⟩)) y3))
  |exact ajV (ajV (m:=ami _) (alR (aj1 ⟨_,rfl,aj1 h⟩) y3))
end
end dZ
namespace aE
open PySem PySem.Spec PyProof.Rows
abbrev dX:=St->ax->(Option Int->ax->Prop)->Prop
def uH(X:aS)(e:Option Expr)(t:dX):Prop:=
 ∀(zn:c2)(s:ajZ)(Y:St)(H:ax)(Q:Option Int->ax->Prop),Inv X zn Y H s->t Y H Q->
  wpAny (model X.prog X.w) X.A (evalPart e X.env) (λu aP=>∃o H',Inv X zn Y H' aP/\anw u o/\Q o H') X.dV s
def afo:dX:=λ_ H Q=>Q none H
def aft(t:TE):dX:=λY H Q=>t Y H λx H1=>∃i,x=.int i/\Q (some i) H1
def intsAre_of{ns:List Int}:∀{us:List Value},Vals (ns.map V.int) us->alk us ns:=by
 induction ns with
 |nil=>intro us r;rw[aou]at r;cases r;exact .nil
 |cons n ns a6=>
  intro us r;rw[aj8]at r
  cases r with
  |cons bB cq=>
   obtain⟨t,e⟩:=bB;subst e;exact .cons n t (a6 cq)
section
variable{X:aS}{e:Expr}{te:TE}{lo aB:Option Expr}{kk Ax:dX}{pos dv:Pos}
def acz:uH X none afo:=by
 intro zn s Y H Q I h;rw[evalPart_none];exact aj1 ⟨none,H,I,.none,h⟩
def acA(h:bQ X e te):uH X (some e) (aft te):=by
 intro zn s Y H Q I hw;rw[evalPart_some];refine bV (h zn s Y H _ I hw) λu s1 aW=>?_
 obtain⟨x,H1,a9,bB,bk⟩:=aW;obtain⟨i,rfl,q⟩:=bk;obtain⟨t,rfl⟩:=bB;exact⟨some i,H1,a9,.int i t,q⟩
def pM(X:aS)(r:V->Option Int->Option Int->ax->cX->Prop):Prop:=
 ∀(zn:c2)(s:ajZ)(Y:St)(H:ax)(x:V)(v g4 g5:Value)(lo aB:Option Int)(cS:Addr)(Q:cX),Inv X zn Y H s->RelV x v->s.heap.IsSliceOf cS g4 g5 .none->anw g4 lo->anw g5 aB->r x lo aB H Q->
  ∃T id,typeLookup (.type T) "__getitem__"=pure (some (.builtin id))/\s.TypeIs v T/\wpAny (model X.prog X.w) X.A (am6 v (.ref cS)) (gG X zn Y Q) X.dV s
def pM.or{r bJ:V->Option Int->Option Int->ax->cX->Prop}(h:pM X r)(h':pM X bJ):pM X (λx lo aB H Q=>r x lo aB H Q\/bJ x lo aB H Q):=by
 intro zn s Y H x v g4 g5 lo aB cS Q I a4 aj pl pu q;rcases q with q|q
 .exact h zn s Y H x v g4 g5 lo aB cS Q I a4 aj pl pu q
 .exact h' zn s Y H x v g4 g5 lo aB cS Q I a4 aj pl pu q
def afw(r:V->Option Int->Option Int->ax->cX->Prop)(te:TE)(kk Ax:dX):TE:=λY H Q=>te Y H λx H1=>kk Y H1 λl aM=>Ax Y aM λu cT=>r x l u cT Q
def MD{r:V->Option Int->Option Int->ax->cX->Prop}(aA:pM X r)(he:bQ X e te)(ar:uH X lo kk)(cy:uH X aB Ax):bQ X (.Subscript e (.Slice lo aB none dv) pos) (afw r te kk Ax):=by
 intro zn s Y H Q I h;refine Subscript_ (bV (he zn s Y H _ I h) λv s1 aW=>?_);obtain⟨x,H1,a9,bB,bk⟩:=aW;refine wpAny_Slice (bV (ar zn s1 Y H1 _ a9 bk) λg4 s2 ⟨l,aM,bU,pl,b0⟩=>bV (cy zn s2 Y aM _ bU b0) λg5 s3 aW=>?_);obtain⟨u,cT,dF,pu,gX⟩:=aW;rw[evalPart_none];refine aj1 ?_;have i_:Inv X zn Y cT { s3 with heap:=s3.heap.push { cls:=.type "slice",data:=.fields #[g4,g5,.none] } }:=dF.kept (t':=s3.toks) λb bx q=>ajW _ q
 obtain⟨T,id,fG,bM,aV⟩:=aA zn { s3 with heap:=s3.heap.push { cls:=.type "slice",data:=.fields #[g4,g5,.none] } } Y cT x v g4 g5 l u s3.heap.objs.size Q i_ bB (Heap.IsSliceOf.new ..) pl pu gX;show wpAny (model X.prog X.w) X.A (subscriptTail e (.Slice lo aB none dv) v (.ref s3.heap.objs.size)) (gG X zn Y Q) X.dV { s3 with heap:=s3.heap.push { cls:=.type "slice",data:=.fields #[g4,g5,.none] } };exact tail_any (ops:=[.ref s3.heap.objs.size,v]) bM fG aV (by with_unfolding_all rfl)
def pU(xs:List V)(lo aB:Option Int):List V:=(xs.drop (dZ.cU xs.length 0 lo)).take (dZ.cU xs.length xs.length aB-dZ.cU xs.length 0 lo)
def IL(xs:List V)(lo aB:Option Int):(pU xs lo aB).length<=xs.length:=by
 unfold pU;rw[amg,ak0];omega
def ac1(K:aT):V->Option Int->Option Int->ax->cX->Prop:=λx lo aB H Q=>∃a xs,x=.ref a/\dD K H a xs/\
 ¬(dZ.cU xs.length 0 lo=0/\dZ.cU xs.length xs.length aB=xs.length)/\∀p,H p=none->Q (.ref p) (upd H p (.t (pU xs lo aB)))
theorem OH:pM X (ac1 X.K):=by
 intro zn s Y H x v g4 g5 lo aB cS Q I a4 aj pl pu h;obtain⟨a,xs,rfl,ag,hw,q⟩:=h;cases a4;obtain⟨its,r,bM,hz⟩:=I.tuple ag;have hlen:its.toArray.size=xs.length:=by rw[aka];exact r.length.symm
 refine⟨"tuple",_,ald.lookup,bM.typeIs,?_⟩;refine dZ.V1 bM aj pl pu (by rw[hlen];exact hw) ?_ (by rw[hlen];exact hz);rw[hlen];refine⟨.ref s.heap.objs.size,_,I.laid (t':=s.toks) (o:=.t (pU xs lo aB)) (λb bx q=>ajW _ q) (aj0 _) ?_,rfl,q _ (I.bO.fresh (aj0 _))⟩;exact⟨alg (IL xs lo aB) hz,_,(r.drop (dZ.cU xs.length 0 lo)).take (dZ.cU xs.length xs.length aB-dZ.cU xs.length 0 lo),IsTup.new _ _⟩
end
def oM(n:Nat)(i:Int):Option Nat:=if 0<=i then(if i<n then some i.toNat else none)else if -(n:Int)<=i then some (i+n).toNat else none
def eo{α:Type}(xs:List α)(i:Int):Option α:=(oM xs.length i).bind λj=>xs[j]?
def Za{i:Int}(h:oM n i=some j):seqIndex? i n=some j/\j<n/\-(n:Int)<=i/\i<n:=by
 unfold oM at h
 by_cases h0:0<=i
 .rw[if_pos h0]at h
  by_cases ae:i<n
  .rw[if_pos ae]at h
   have e:i.toNat=j:=akv h;exact⟨by rw[seqIndex_of h0 ae,e],by omega,by omega,ae⟩
  .rw[if_neg ae]at h;cases h
 .rw[if_neg h0]at h
  by_cases ae:-(n:Int)<=i
  .rw[if_pos ae]at h
   have e:(i+n).toNat=j:=akv h;exact⟨by rw[seqIndex_neg (by omega) ae,e],by omega,ae,by omega⟩
  .rw[if_neg ae]at h;cases h
def xY{α:Type}{xs:List α}{i:Int}{v:α}(h:eo xs i=some v):∃j,seqIndex? i xs.length=some j/\xs[j]? = some v/\j<xs.length/\-(xs.length:Int)<=i/\i<xs.length:=by
 unfold eo at h
 cases e:oM xs.length i with
 |none=>rw[e]at h;cases h
 |some j=>
  rw[e]at h;obtain⟨ae,ah,bN,dq⟩:=Za e;exact⟨j,ae,h,ah,bN,dq⟩
def QB{α:Type}{xs:List α}{j:Nat}{v:α}(h:xs[j]? = some v):eo xs (j:Int)=some v:=by
 have aR:j<xs.length:=(aj2.mp h).1;have e:oM xs.length (j:Int)=some j:=by
  unfold oM;rw[if_pos (by omega),if_pos (by omega)];simp
 unfold eo;rw[e];exact h
def Gl(b:Expr):Prop:=∀o i,aoN b false o i=operate [o,i] (am6 o i)
def m'(X:aS)(r:fU):Prop:=
 ∀(value slice:Expr)(zn:c2)(s:ajZ)(Y:St)(H:ax)(x y:V)(v u:Value)(Q:cX),Inv X zn Y H s->RelV x v->RelV y u->r x y H Q->
  aoN slice false v u=operate [v,u] (am6 v u)->wpAny (model X.prog X.w) X.A (subscriptTail value slice v u) (gG X zn Y Q) X.dV s
def A3(X:aS)(id:String)(r:V->List V->ax->cX->Prop):Prop:=
 ∀(zn:c2)(s:ajZ)(Y:St)(H:ax)(x:V)(xs:List V)(v:Value)(us:List Value)(Q:cX),Inv X zn Y H s->RelV x v->Vals xs us->r x xs H Q->
  wpAny (model X.prog X.w) X.A (call (.builtin id) (v::us)) (gG X zn Y Q) X.dV s
section
variable{X:aS}{a b:Expr}{bT cK:TE}{pos:Pos}
def m'.or{r bJ:fU}(h:m' X r)(h':m' X bJ):m' X (λx y H Q=>r x y H Q\/bJ x y H Q):=by
 intro value slice zn s Y H x y v u Q I a4 bz q aj;rcases q with q|q
 .exact h value slice zn s Y H x y v u Q I a4 bz q aj
 .exact h' value slice zn s Y H x y v u Q I a4 bz q aj
def aca{r:fU}(aA:m' X r)(ak:bQ X a bT)(ab:bQ X b cK)(aj:Gl b):bQ X (.Subscript a b pos) (xc r bT cK):=by
 intro zn s Y H Q I h;exact Subscript_ (By ak ab I h λv u s2 x y aM bU a4 bz q=>aA a b zn s2 Y aM x y v u Q bU a4 bz q (aj _ _))
def M3(K:aT):fU:=λx y H Q=>∃p xs i v,x=.ref p/\y=.int i/\dk K H p xs/\eo xs i=some v/\Q v H
def M5(K:aT):fU:=λx y H Q=>∃p xs i v,x=.ref p/\y=.int i/\dD K H p xs/\eo xs i=some v/\Q v H
def M4:fU:=λx y H Q=>∃z i c,x=.str z/\y=.int i/\z.length<=aj3/\eo z.cps.toList i=some c/\Q (.str ⟨#[c]⟩) H
def Zb:m' X (M3 X.K):=by
 intro value slice zn s Y H x y v u Q I a4 bz h aj;obtain⟨p,xs,i,z,rfl,rfl,a8,he,q⟩:=h;cases a4;obtain⟨t,rfl⟩:=bz;obtain⟨its,r,pl,hz⟩:=I.list a8;obtain⟨j,ae,ah,bN,dq,ep⟩:=xY he;obtain⟨w,sY,jn⟩:=r.get ah;have ar:=r.length;have aF:=vU;have fin:gG X zn Y Q w s:=⟨z,H,I,jn,q⟩
 by_cases h0:0<=i
 .have aR:i.toNat=j:=by
   rw[seqIndex_of h0 ep]at ae;exact akv ae
  exact item_listR pl.isList h0 (by omega) (by rw[aR];simpa using sY) fin aj
 .have aR:(i+(its.toArray.size:Int)).toNat=j:=by
   rw[seqIndex_neg (by omega) dq]at ae;rw[aka,<-ar];exact akv ae
  exact subscriptTail_builtinR (x:=w) pl.isList.typeIs slot_list_getitem.lookup
   (wpAny_getItem_list_neg (Q:=λr aP=>r=w/\gG X zn Y Q r aP) pl.isList (by omega) (by rw[aka]<;>omega) (by omega) (by rw[aR];simpa using sY) ⟨rfl,fin⟩) aj
def Zd:m' X (M5 X.K):=by
 intro value slice zn s Y H x y v u Q I a4 bz h aj;obtain⟨p,xs,i,z,rfl,rfl,a8,he,q⟩:=h;cases a4;obtain⟨t,rfl⟩:=bz;obtain⟨its,r,pl,hz⟩:=I.tuple a8;obtain⟨j,ae,ah,bN,dq,ep⟩:=xY he;obtain⟨w,sY,jn⟩:=r.get ah;have ar:=r.length;have aF:=vU;have fin:gG X zn Y Q w s:=⟨z,H,I,jn,q⟩;exact subscriptTail_builtinR (x:=w) pl.typeIs slot_tuple_getitem.lookup
  (getItem_tuple (j:=j) (Q:=λr aP=>r=w/\gG X zn Y Q r aP) pl (by omega) (by omega) (by rw[aka,<-ar];exact ae) (by simpa using sY) ⟨rfl,fin⟩) aj
def Zc:m' X M4:=by
 intro value slice zn s Y H x y v u Q I a4 bz h aj;obtain⟨z,i,c,rfl,rfl,hz,he,q⟩:=h;obtain⟨t,rfl⟩:=a4;obtain⟨t',rfl⟩:=bz;obtain⟨j,ae,ah,bN,dq,ep⟩:=xY he;have ar:z.cps.toList.length=z.length:=by simp[Str.length]
 rw[ar]at ae dq ep;have aF:=vU;exact tail_any (typeIs_str s z t) slot_str_getitem.lookup (getItem_str (c:=c) (by
  have av:decide (i < -(2 ^ 63:Int))=false:=decide_eq_false (by omega);have aC:decide (i≥2 ^ 63)=false:=decide_eq_false (by omega);rw[av,aC,Bool.or_false]) (by rw[ae];simpa using ah) ⟨.str ⟨#[c]⟩,H,I.tok _,⟨_,rfl⟩,q⟩) aj
def M1(K:aT):fU:=λx y H Q=>M3 K x y H Q\/M5 K x y H Q\/M4 x y H Q
def ic:m' X (M1 X.K):=Zb.or (Zd.or Zc)
def aeQ(lo aB:Option Int)(n:Nat):(amU lo aB none n).1=((dZ.cU n 0 lo:Nat):Int)/\(amU lo aB none n).2.1=((dZ.cU n n aB:Nat):Int)/\(amU lo aB none n).2.2=1:=by
 refine⟨?_,?_,rfl⟩
 .cases lo with
  |none=>simp[amU,dZ.cU]|some i=>
   simp only[amU,dZ.cU,Option.getD_none,show(1:Int) > 0 by decide,if_true]
   by_cases h:i<0
   .simp only[h,if_true]<;>omega
   .simp only[h,if_false]<;>omega
 .cases aB with
  |none=>simp[amU,dZ.cU]|some i=>
   simp only[amU,dZ.cU,Option.getD_none,show(1:Int) > 0 by decide,if_true]
   by_cases h:i<0
   .simp only[h,if_true]<;>omega
   .simp only[h,if_false]<;>omega
def aeP(its:List Value)(lo aB:Option Int):slicePick its.toArray lo aB none=((its.drop (dZ.cU its.length 0 lo)).take (dZ.cU its.length its.length aB-dZ.cU its.length 0 lo)).toArray:=by
 obtain⟨ae,ah,bN⟩:=aeQ lo aB its.toArray.size;unfold slicePick;rw[ae,ah,bN];simp only[sliceRange_one,pick_run,aka]<;>rfl
def ac0(K:aT):V->Option Int->Option Int->ax->cX->Prop:=λx lo aB H Q=>∃a xs,x=.ref a/\dk K H a xs/\∀p,H p=none->Q (.ref p) (upd H p (.l (pU xs lo aB)))
theorem aeN:pM X (ac0 X.K):=by
 intro zn s Y H x v g4 g5 lo aB cS Q I a4 aj pl pu h;obtain⟨a,xs,rfl,ag,q⟩:=h;cases a4;obtain⟨its,r,bM,hz⟩:=I.list ag;have hlen:=r.length;refine⟨"list",_,slot_list_getitem.lookup,bM.isList.typeIs,?_⟩;refine wpAny_getItem_list_slice bM.isList aj pl pu .none (by simp) ?_ (by rw[aka]<;>omega);rw[aeP,<-hlen];refine⟨.ref s.heap.objs.size,_,I.laid (t':=s.toks) (o:=.l (pU xs lo aB)) (λb bx q=>ajW _ q) (aj0 _) ?_,rfl,q _ (I.bO.fresh (aj0 _))⟩;exact⟨alg (IL xs lo aB) hz,_,0,(r.drop (dZ.cU xs.length 0 lo)).take (dZ.cU xs.length xs.length aB-dZ.cU xs.length 0 lo),akb _ rfl⟩
def nv:V->Bool
 |.aI=>true|.az _=>true|.int _=>true|.str _=>true|_=>false
def nr:V->V->Bool
 |.aI,.aI=>true|.az a,.az b=>a==b|.az a,.int b=>(if a then 1 else 0)==b|.int a,.az b=>a==(if b then 1 else 0)|.int a,.int b=>a==b|.str a,.str b=>a==b|_,_=>false
theorem VB{u v:Value}(bz:RelV y u)(a4:RelV x v)(VW:nv y=true)(ny:nv x=true):SeqAt.EqAt A s u v (nr y x):=by
 cases y with
 |aI=>
  cases bz
  cases x with
  |aI=>cases a4;exact SeqAt.EqAt.same _
  |az b=>cases a4;exact SeqAt.EqAt.none_bool b
  |int b=>obtain⟨t,rfl⟩:=a4;exact SeqAt.EqAt.none_int b t
  |str b=>obtain⟨t,rfl⟩:=a4;exact SeqAt.EqAt.none_str b t
  |_=>exact absurd (show false=true from ny) aj6
 |az a=>
  cases bz
  cases x with
  |aI=>cases a4;exact SeqAt.EqAt.bool_none a
  |az b=>cases a4;exact SeqAt.EqAt.bool_bool a b
  |int b=>obtain⟨t,rfl⟩:=a4;exact SeqAt.EqAt.bool_int a b t
  |str b=>obtain⟨t,rfl⟩:=a4;exact SeqAt.EqAt.bool_str a b t
  |_=>exact absurd (show false=true from ny) aj6
 |int a=>
  obtain⟨t',rfl⟩:=bz
  cases x with
  |aI=>cases a4;exact SeqAt.EqAt.int_none a t'
  |az b=>cases a4;exact SeqAt.EqAt.int_bool a t' b
  |int b=>obtain⟨t,rfl⟩:=a4;exact ao6 a t' b t
  |str b=>obtain⟨t,rfl⟩:=a4;exact ao3 a t' b t
  |_=>exact absurd (show false=true from ny) aj6
 |str a=>
  obtain⟨t',rfl⟩:=bz
  cases x with
  |aI=>cases a4;exact SeqAt.EqAt.str_none a t'
  |az b=>cases a4;exact SeqAt.EqAt.str_bool a t' b
  |int b=>obtain⟨t,rfl⟩:=a4;exact ao4 a t' b t
  |str b=>obtain⟨t,rfl⟩:=a4;exact SeqAt.EqAt.str_str a t' b t
  |_=>exact absurd (show false=true from ny) aj6
 |_=>exact absurd (show false=true from VW) aj6
def om(x:V)(u:Value):Bool:=match u with
 |.none=>nr .aI x|.bool b=>nr (.az b) x|.int i _=>nr (.int i) x|.str z _=>nr (.str z) x|_=>false
theorem I7(r:RelV y u)(f:nv y=true):om x u=nr y x:=by
 cases y with
 |aI=>cases r;rfl
 |az b=>cases r;rfl
 |int i=>obtain⟨t,rfl⟩:=r;rfl
 |str z=>obtain⟨t,rfl⟩:=r;rfl
 |_=>exact absurd (show false=true from f) aj6
theorem Bb:∀{xs:List V}{us:List Value},Vals xs us->xs.all nv=true->us.any (om x)=xs.any λy=>nr y x
 |_,_,.nil,_=>rfl|y::xs,u::us,.cons r t,f=>by
  rw[amQ,akE]at f;rw[alK,alK,I7 r f.1,Bb t f.2]
theorem D_{v:Value}(a4:RelV x v)(ny:nv x=true):∀{xs:List V}{us:List Value},Vals xs us->xs.all nv=true->∀u∈us,SeqAt.EqAt A s u v (om x u)
 |_,_,.nil,_=>λu cy=>by cases cy
 |y::xs,u::us,.cons r t,f=>λu' cy=>by
  rw[amQ,akE]at f;rcases aj5.mp cy with rfl|cy
  .rw[I7 r f.1];exact VB r a4 f.1 ny
  .exact D_ a4 ny t f.2 u' cy
def Df(x:V)(xs:List V):Bool:=xs.any λy=>nr y x
def MY(K:aT)(neg:Bool):fU:=λx y H Q=>∃p xs,y=.ref p/\(dk K H p xs\/dD K H p xs)/\nv x=true/\xs.all nv=true/\Q (.az (if neg then !Df x xs else Df x xs)) H
def Mr:en X (akK .In) (MY X.K false):=by
 intro zn s Y H x y v u Q I a4 bz h;obtain⟨p,xs,rfl,a8,ny,aY,q⟩:=h;cases bz;rcases a8 with a8|a8
 .obtain⟨its,r,pl,hz⟩:=I.list a8
  refine SeqAt.in_listAt (om x) pl.isList (λw hw=>D_ a4 ny r aY w (by simpa using hw)) ⟨.az _,H,I,rfl,?_⟩;rw[show its.toArray.any (om x)=its.any (om x)by simp,Bb r aY];exact q
 .obtain⟨its,r,pl,hz⟩:=I.tuple a8
  refine SeqAt.in_tupleAt (om x) pl (λw hw=>D_ a4 ny r aY w (by simpa using hw)) ⟨.az _,H,I,rfl,?_⟩;rw[show its.toArray.any (om x)=its.any (om x)by simp,Bb r aY];exact q
def To:ir X (.builtin "len") (λxs H Q=>∃p ys,xs=[.ref p]/\(dk X.K H p ys\/dD X.K H p ys)/\Q (.int ys.length) H):=by
 intro zn s Y H xs us Q I r h;obtain⟨p,ys,rfl,a8,q⟩:=h;obtain⟨u,rfl,a4⟩:=vals1 r;cases a4;have aF:=vU;rcases a8 with a8|a8
 .obtain⟨its,bJ,pl,hz⟩:=I.list a8
  have hlen:=bJ.length;exact Calls.call_len_list pl.isList (by simp only[aka]<;>omega) ⟨.int ys.length,H,I.tok _,⟨s.toks+1,by rw[aka,hlen]⟩,q⟩
 .obtain⟨its,bJ,pl,hz⟩:=I.tuple a8
  have hlen:=bJ.length;exact len_tuple pl (by simp only[aka]<;>omega) ⟨.int ys.length,H,I.tok _,⟨s.toks+1,by rw[aka,hlen]⟩,q⟩
def Tp:ir X (.builtin "len") (λxs H Q=>∃z,xs=[.str z]/\z.length<=aj3/\Q (.int z.length) H):=by
 intro zn s Y H xs us Q I r h;obtain⟨z,rfl,hz,q⟩:=h;obtain⟨u,rfl,t,rfl⟩:=vals1 r;have aF:=vU;exact len_str (by omega) ⟨.int z.length,H,I.tok _,⟨_,rfl⟩,q⟩
theorem Tq:ir X (.type "list") (λxs H Q=>∃p ys,xs=[.ref p]/\(dk X.K H p ys\/dD X.K H p ys)/\∀l,H l=none->Q (.ref l) (upd H l (.l ys))):=by
 intro zn s Y H xs us Q I r h;obtain⟨p,ys,rfl,a8,q⟩:=h;obtain⟨u,rfl,a4⟩:=vals1 r;cases a4;have fin:∀(its:List Value),Vals ys its->ys.length<=aj3->∀(h':Heap)(c':Nat),(∀b o',s.heap.get? b=some o'->h'.get? b=some o')->
   h'.get? s.heap.objs.size=some { cls:=.type "list",dict:=none,data:=.seq its.toArray c',slots:=#[] }->gG X zn Y Q (.ref s.heap.objs.size) { s with heap:=h' }:=λits bJ hz h' c' kp e=>
  ⟨.ref s.heap.objs.size,_,I.laid (t':=s.toks) kp (aj0 _) (show gx X.prog X.w _ h' _ (.l ys)from⟨hz,its,c',bJ,e⟩),rfl,q _ (I.bO.fresh (aj0 _))⟩
 rcases a8 with a8|a8
 .obtain⟨its,bJ,pl,hz⟩:=I.list a8
  have hlen:=bJ.length;obtain⟨o,a',aD,n,hd⟩:=pl.isList;exact call_list_seq p (.inl rfl) a' aD hd (λh' c' kp e=>fin its bJ hz h' c' kp e) (by simp only[aka]<;>omega)
 .obtain⟨its,bJ,pl,hz⟩:=I.tuple a8
  have hlen:=bJ.length;obtain⟨o,a',aD,n,hd⟩:=pl;exact call_list_seq p (.inr rfl) a' aD hd (λh' c' kp e=>fin its bJ hz h' c' kp e) (by simp only[aka]<;>omega)
theorem BH:ir X (.type "tuple") (λxs H Q=>∃p ys,xs=[.ref p]/\((dk X.K H p ys/\∀l,H l=none->Q (.ref l) (upd H l (.t ys)))\/(dD X.K H p ys/\Q (.ref p) H))):=by
 intro zn s Y H xs us Q I r h;obtain⟨p,ys,rfl,h⟩:=h;obtain⟨u,rfl,a4⟩:=vals1 r;cases a4;rcases h with⟨a8,q⟩|⟨a8,q⟩
 .obtain⟨its,bJ,pl,hz⟩:=I.list a8
  have hlen:=bJ.length;refine call_tuple_list pl.isList (λh' kp=>?_) (by simp only[aka]<;>omega);have a9:Inv X zn Y H { s with heap:=h' }:=I.kept (t':=s.toks) kp;have bU:Inv X zn Y (upd H h'.objs.size (.t ys)) { s with heap:=h'.push { cls:=.type "tuple",data:=.seq its.toArray } }:=
   a9.laid (t':=s.toks) (λb o e=>ajW _ e) (aj0 _) (show gx X.prog X.w _ _ _ (.t ys)from⟨hz,its,bJ,IsTup.new _ _⟩)
  exact⟨.ref h'.objs.size,_,bU,rfl,q _ (a9.bO.fresh (aj0 _))⟩
 .obtain⟨its,bJ,pl,hz⟩:=I.tuple a8
  exact call_tuple_same pl ⟨.ref p,H,I,rfl,q⟩
def Az(K:aT)(T:String)(x:V)(H:ax):Prop:=match x with
 |.str _=>T="str"|.int _=>T="int"|.ref p=>(T="list"/\∃xs,dk K H p xs)\/(T="tuple"/\∃o,K.lookup p=some o/\o.cls=.type "tuple"/\o.dict=none)\/
   (T="dict"/\((∃aq,H p=some (.ff aq))\/∃aq,H p=some (.hq aq)))\/(T="set"/\∃S n,H p=some (.set S n))
 |_=>False
def Pn{v:Value}(I:Inv X zn Y H s)(r:RelV x v)(ty:Az X.K T x H) :
  s.TypeIs v T/\∀a,v=.ref a->∃bx,s.heap.get? a=some bx/\bx.dict=none:=by
 cases x with
 |str z=>
  obtain⟨t,rfl⟩:=r;cases(show T="str" from ty);exact⟨typeIs_str s z t,λ_ e=>nomatch e⟩
 |int i=>
  obtain⟨t,rfl⟩:=r;cases(show T="int" from ty);exact⟨typeIs_int s i t,λ_ e=>nomatch e⟩
 |ref p=>
  cases r;rcases ty with⟨rfl,xs,a8⟩|⟨rfl,o,aw,aD,hd⟩|⟨rfl,aw⟩|⟨rfl,S,n,aw⟩
  .obtain⟨its,_,pl,_⟩:=I.list a8
   refine⟨pl.isList.typeIs,λa e=>?_⟩;cases e;obtain⟨o,n,e,c,hd,_⟩:=pl;exact⟨o,e,hd⟩
  .refine⟨⟨o,I.e6 p o aw,aD⟩,λa e=>?_⟩
   cases e;exact⟨o,I.e6 _ o aw,hd⟩
  .have z:∃o,s.heap.get? p=some o/\o.ExactDict:=by
    rcases aw with⟨aq,aw⟩|⟨aq,aw⟩
    .obtain⟨_,_,_,_,o,_,_,e,ex,_⟩:=I.bO p _ aw
     exact⟨o,e,ex⟩
    .obtain⟨_,_,_,_,o,_,_,e,ex,_⟩:=I.bO p _ aw
     exact⟨o,e,ex⟩
   obtain⟨o,e,ex⟩:=z;refine⟨⟨o,e,ex.1⟩,λa aC=>?_⟩;cases aC;exact⟨o,e,ex.2.1⟩
  .obtain⟨o,_,_,_,e,ex,_⟩:=I.bO p _ aw
   refine⟨⟨o,e,ex.1⟩,λa aC=>?_⟩;cases aC;exact⟨o,e,ex.2.1⟩
 |_=>exact akD ty
def afb(K:aT)(T:String)(r:V->List V->ax->cX->Prop)(to:TE):TE:=λY H Q=>to Y H λx H1=>Az K T x H1/\r x [] H1 Q
def afa(K:aT)(T:String)(r:V->List V->ax->cX->Prop)(to:TE)(t:gj):TE:=λY H Q=>to Y H λx H1=>Az K T x H1/\t Y H1 λxs aM=>r x xs aM Q
variable{o e:Expr}{ay:List Expr}{to:TE}{t:gj}{name:Str}{apos dp:Pos}{T id:String}{r:V->List V->ax->cX->Prop}
def abV(fO:PlainAttrs T)(slot:Slot T name id)(rx:typeOf (.builtin id)=pure (.type "method_descriptor"))(hm:A3 X id r)(a':bQ X o to)
  (ox:alJ o name X.env (eval o X.env)=eval o X.env:=by rfl) (oF:(apos.endLine==dp.line)=true:=by rfl):bQ X (.Call (.Attribute o name apos) [] [] dp) (afb X.K T r to):=by
 intro zn s Y H Q I h;refine wpAny_Call_method0_late ox oF (bV (a' zn s Y H _ I h) λv s1 aW=>?_);obtain⟨x,H1,a9,bB,ty,bk⟩:=aW;obtain⟨ae,ah⟩:=Pn a9 bB ty;exact⟨T,id,fO,slot,rx,ae,ah,amB rfl (PySem.evalArgs_none (hm zn s1 Y H1 x [] v [] Q a9 bB .nil bk))⟩
def Mz(fO:PlainAttrs T)(slot:Slot T name id)(rx:typeOf (.builtin id)=pure (.type "method_descriptor"))(hm:A3 X id r)(a':bQ X o to)(ak:fM X (e::ay) t)
  (ox:alJ o name X.env (eval o X.env)=eval o X.env:=by rfl)
  (vC:((akr dp (ajY (e::ay) X.env)).all (λx=>!x.1)&&(alN dp (alm [] X.env)).all (λx=>x.1.isSome)
&&decide ((e::ay).length+([]:List am7).length+(if([]:List am7).isEmpty then 0 else 1)<30))=true:=by rfl)
  (oF:(apos.endLine==dp.line)=true:=by rfl) (aj:ajY (e::ay) X.env=(false,eval e X.env)::ajY ay X.env:=by rfl) (iU:(akr dp (ajY ay X.env)).any (·.1)=false:=by rfl) :
  bQ X (.Call (.Attribute o name apos) (e::ay) [] dp) (afa X.K T r to t):=by
 intro zn s Y H Q I h;refine wpAny_Call_method_late ox vC oF rfl (bV (a' zn s Y H _ I h) λv s1 aW=>?_);obtain⟨x,H1,a9,bB,ty,bk⟩:=aW;obtain⟨ae,ah⟩:=Pn a9 bB ty;refine⟨T,id,fO,slot,rx,ae,ah,?_⟩;have tc:=ak dp zn s1 Y H1 _ a9 bk;rw[aj]at tc ⊢;refine amB (by show(false||(akr dp (ajY ay X.env)).any (·.1))=false;rw[iU]<;>rfl) (anx ?_);exact bV tc λus s2 ⟨vs,aM,bU,cq,b0⟩=>hm zn s2 Y aM x vs v us Q bU bB cq b0
end
def xJ(X:aS)(id:String)(r:V->List V->ax->cX->Prop):Prop:=
 ∀(zn:c2)(s:ajZ)(Y:St)(H:ax)(x:V)(xs:List V)(v:Value)(us:List Value)(Q:cX),Inv X zn Y H s->RelV x v->Vals xs us->r x xs H Q->
  wpAny (model X.prog X.w) X.A (call (.builtin id) (v::us)) (gG X zn Y Q) X.dV s
def Vals.one:∀{x:V}{us:List Value},Vals [x] us->∃u,us=[u]/\RelV x u
 |_,_,.cons r .nil=>⟨_,rfl,r⟩
section
variable{X:aS}{zn:c2}{Y:St}{H:ax}{s:ajZ}{l:Addr}{xs ys:List V}
def Inv.LF{its its':List Value}{n:Nat}{f:Array Value->Array Value}{t':Nat}(I:Inv X zn Y H s)(d6:H l=some (.l xs))
  (e:s.heap.get? l=some { cls:=.type "list",data:=.seq its.toArray n }) (hf:f its.toArray=its'.toArray) (bI:Vals ys its') (hz:ys.length<=aj3) :
  Inv X zn Y (upd H l (.l ys)) { s with heap:=s.heap.update l (akz f),toks:=t' }:=by
 have q:=IsL.update e f;rw[hf]at q;refine I.write (x:=l) (e:=l) (by rw[d6];exact trivial) (.inl rfl) (λe2 u ab cy=>(aoO s.heap (akz f) (amT ab)).trans cy) ⟨_,q⟩ ?_;exact⟨hz,its',_,bI,q⟩
def Inv.LA{t':Nat}(I:Inv X zn Y H s)(bI:Vals ys its)(hz:ys.length<=aj3) :
  Inv X zn Y (upd H s.heap.objs.size (.l ys)) { s with heap:=s.heap.push { cls:=.type "list",data:=.seq its.toArray },toks:=t' }:=
 I.laid (λ_ _ q=>ajW _ q) (aj0 _) ⟨hz,its,0,bI,akb _ rfl⟩
def Inv.fresh(I:Inv X zn Y H s):H s.heap.objs.size=none:=I.bO.fresh (aj0 _)
def Inv.vV(I:Inv X zn Y H s)(d6:H l=some (.l xs)):xs.length<=aj3/\∃(its:List Value)(n:Nat),Vals xs its/\xs.length=its.length/\s.heap.get? l=some { cls:=.type "list",data:=.seq its.toArray n }:=by
 obtain⟨z,its,n,r,e⟩:=I.bO l _ d6;exact⟨z,its,n,r,r.length,e⟩
def aaW(h:n<=aj3):am2 n=false:=by
 unfold am2;exact decide_eq_false (by omega)
end
section
variable{X:aS}
def MV:V->List V->ax->cX->Prop:=λx vs H Q=>∃l xs y,x=.ref l/\vs=[y]/\H l=some (.l xs)/\xs.length<aj3/\Q .aI (upd H l (.l (xs++[y])))
def wd:xJ X "list.append" MV:=by
 intro zn s Y H x vs v us Q I a4 bP h;obtain⟨l,xs,y,rfl,rfl,d6,hz,q⟩:=h;cases a4;obtain⟨u,rfl,d9⟩:=bP.one;obtain⟨z,its,n,r,ar,e⟩:=I.vV d6;refine call_meets F.slot_list_append ⟨_,e,rfl⟩ F.entry_list_append (F.args_list_append_2 _ _) (PySem.list_append l its.toArray n u (by rw[aka];omega)) ⟨e,?_⟩;refine⟨.aI,_,I.LF (its':=its++[u]) d6 e (by simp) (r.append (.cons d9 .nil)) ?_,rfl,q⟩;rw[aj7,amK];omega
def MX:V->List V->ax->cX->Prop:=λx vs H Q=>∃l b xs zs,x=.ref l/\vs=[.ref b]/\H l=some (.l xs)/\H b=some (.l zs)/\xs.length+zs.length<=aj3/\Q .aI (upd H l (.l (xs++zs)))
def aaA:xJ X "list.extend" MX:=by
 intro zn s Y H x vs v us Q I a4 bP h;obtain⟨l,b,xs,zs,rfl,rfl,d6,ot,hz,q⟩:=h;cases a4;obtain⟨u,rfl,d9⟩:=bP.one;cases d9;obtain⟨z,its,n,r,ar,e⟩:=I.vV d6;obtain⟨eb,lI,dW,cq,ia,aC⟩:=I.vV ot;have hsz:its.toArray.size+lI.toArray.size<=aj3:=by rw[aka,aka];omega
 have Yo:¬(!its.toArray.isEmpty&&am2 (its.toArray.size+lI.toArray.size))=true:=by
  rw[aaW hsz,aoR];exact aj6
 refine call_meets F.slot_list_extend ⟨_,e,rfl⟩ F.entry_list_extend (F.args_list_extend_2 _ _)
  (AutoSeq1.list_extend_list_list_0 l its.toArray n b lI.toArray dW Yo (by rw[aka];omega) (by omega)) ⟨e,aC,?_⟩
 refine⟨.aI,_,I.LF (its':=its++lI) d6 e (by simp) (r.append cq) ?_,rfl,q⟩;rw[aj7];omega
def MW:fU:=λx y H Q=>∃l b xs zs,x=.ref l/\y=.ref b/\H l=some (.l xs)/\H b=some (.l zs)/\xs.length+zs.length<=aj3/\∀p,H p=none->Q (.ref p) (upd H p (.l (xs++zs)))
def abm:en X (alV .Add) MW:=by
 intro zn s Y H x y v u Q I a4 bz h;obtain⟨l,b,xs,zs,rfl,rfl,d6,ot,hz,q⟩:=h;cases a4;cases bz;obtain⟨z,its,n,r,ar,e⟩:=I.vV d6;obtain⟨eb,lI,dW,cq,ia,aC⟩:=I.vV ot;refine P.add_list e aC ?_ (by rw[aka,aka];omega);have gm:its.toArray++lI.toArray=(its++lI).toArray:=by simp
 rw[gm];exact⟨.ref _,_,I.LA (t':=s.toks) (r.append cq) (by rw[aj7];omega),rfl,q _ I.fresh⟩
end
end aE
namespace F4
open PySem PySem.W PySem.Calls PyProof.Rows
def YY:∀(ns:List Int)(vs:List Value),WellAll P h vs (ns.map WData.int)->alk vs ns:=by
 intro ns
 induction ns with
 |nil=>
  intro vs w;rw[aou]at w;cases w;exact .nil
 |cons n ns a6=>
  intro vs w;rw[aj8]at w
  cases w with
  |cons a b=>
   cases a;exact .cons _ _ (a6 _ b)
def aeI{l:OpenLaw}{n:Nat}(aF:l.most=some n){P:Params}{h:Heap}{args:List WData}{vals:List Value}
  (y1:l.row.toRowW.claim.pre args=true) (C9:WellAll P h vals args) :
  ∃a vs ns,vals=[aks a]/\args=[WData.list (ns.map WData.int)]/\h.get? a=some { cls:=.type "list",data:=.seq vs.toArray }/\alk vs ns/\ns.length<=n:=by
 have y2:WShape.hasAll [] args [.list .int]=true:=(pre_splitW y1).1;have aD:l.pre.holds [] { args:=args }=true:=(pre_splitW y1).2;obtain⟨d,r,rfl,ae,ah⟩:=hasAllW_cons y2;obtain rfl:=hasAllW_nil ah;obtain⟨xs,rfl,bN⟩:=hasW_list ae;obtain⟨ns,rfl⟩:=items_int bN;have hlen:ns.length<=n:=by
  unfold OpenLaw.pre at aD;have dq:(WTm.not (.lt (.lit (.int (n:Int))) (.len (.arg 0)))).holds [] { args:=[.list (ns.map .int)] }=true:=by
   have dq:=(holds_andW aD).1;rw[aF]at dq;exact dq
  have ep:=condW_of dq (w_not (w_lt w_lit (w_len_list (w_arg rfl))));rw[ajX]at ep;refine Nat.le_of_not_lt λq=>?_
  have hy:(n:Int)<((ns.length:Nat):Int):=by omega
  first
   |(rw[decide_eq_true hy]at ep;exact absurd ep (by decide))
   |(simp at ep;omega)
 cases C9 with
 |cons fl js=>
  cases js
  cases fl with
  |list a' hall=>exact⟨_,_,ns,rfl,rfl,a',YY ns _ hall,hlen⟩
def acB(l:OpenLaw)(args:List WData):l.row.toRowW.claim.post args (.bool true) args=true:=
 postW_of (r:=l.row.toRowW) (X:=(true==true))
  (show WShape.has [] (.bool true) .bool=true by first|rfl|decide|simp[WShape.has,WShape.arms,WShape.armsAll])
  (show(WTm.eq .res (.lit (.bool true))).value [] { args:=args,res:=some (.bool true),after:=args }=some (.bool (true==true))from w_eq_bool (w_res rfl) w_lit) rfl
def QE{l:OpenLaw}{n:Nat}{q:akh}{loose:List Str}{xR:(Str->Option Value)->Heap->Prop}{uL:World->Heap->Prop}{d:DefRec}
  (aF:l.most=some n) (CQ:d.params.defaults=[])
  (call:∀(w:World)(g0 dw:ajZ)(mg c6:bo)(ef:Addr)(o:Obj)(pm cd doc:Value)(a:Addr)(vs:List Value)(ns:List Int),
   Ground q loose [] xR w g0 mg c6 dw.heap->uL w dw.heap->
   dw.heap.get? ef=some o->o.data=.func (docDef d.name d.params d.body d.scope pm cd doc)->dw.heap.CodeRec cd d.name->mg d.name=some (.ref ef)->
   dw.heap.get? a=some { cls:=.type "list",data:=.seq vs.toArray }->alk vs ns->ns.length<=n->dw.gens=#[]->
   amI (model l.prog w) aop (.call (.ref ef) ⟨[.ref a],[]⟩) (λr aP=>r=.ok (.ret (.bool true))/\OldK dw.heap aP.heap/\aP.os=dw.os/\ano aP.gens) dw) :
  WalkO q loose xR uL l.row.toRowW d [] (λf vs=>PySem.call f vs):=by
 intro w g0 dw mg c6 G σ ef o pm cd doc q6 cC a' hd gA kN vE aV args vals as y1 ajk ajn C9 ajl;obtain rfl:q6=.none:=Dflts.none kN CQ;obtain rfl:cC=.none:=Dflts.noKw kN;obtain⟨a,vs,ns,rfl,rfl,C3,hints,hlen⟩:=aeI aF y1 C9;refine enter_call (amf (call w g0 dw mg c6 ef o pm cd doc a vs ns G σ a' (fd_plain hd) gA vE C3 hints hlen aV) λr aP a8=>?_);obtain⟨rfl,ah,bN,dq⟩:=a8;exact⟨.inl ⟨.bool true,.bool true,[],rfl,λ_=>rfl,.bool true,acB l _,λ_=>⟨aoc,λ_ hm=>(nomatch hm)⟩⟩,ah,bN,dq⟩
end F4
namespace aE
open PySem PySem.Spec PyProof.Rows
theorem Pw:∀{vs:List Value}{ns:List Int},alk vs ns->Vals (ns.map V.int) vs
 |_,_,.nil=>.nil|_,_,.cons n t h=>.cons ⟨t,rfl⟩ (Pw h)
abbrev jW{K:aT}{h:Heap}(_:K.In h):aT:=K
def inClass(s:Stmt)(j:Nat):Stmt:=match s with
 |.ClassDef _ _ _ body _ _ _ _ _ _ _=>body.getD j (.Pass ⟨0,0,0,0⟩)|_=>.Pass ⟨0,0,0,0⟩
def h7(s:Stmt):am1:=match s with
 |.FunctionDef _ a _ _ _ _ _ _ _ _=>a|_=>{ posonlyargs:=[],args:=[],vararg:=none,kwonlyargs:=[],kw_defaults:=[],kwarg:=none,defaults:=[] }
def fq(s:Stmt):List Stmt:=match s with
 |.FunctionDef _ _ b _ _ _ _ _ _ _=>b|_=>[]
def bF(s:Stmt):Scope:=match s with
 |.FunctionDef _ _ _ _ _ _ sc _ _ _=>sc|_=>{ kind:=.function,names:=[],isGenerator:=false,isCoroutine:=false }
abbrev eE:m8:=λ_ _ _ _ _ _=>False
abbrev i8:gy:=λ_ _ _=>False
def t5:Passes eE X i8:=λ_ _ _ _ _ _ _ h=>h.elim
structure lh(K:aT)(x qual:Str)(st:Stmt)(f:Addr)(fd:ale):Prop where
 ex:∃(cZ:Value)(df:Option Addr)(cC doc pm:Value)(an:Option Addr)(br b5:Value)(fv:Array (Option Value)),
  fd=alL x qual (h7 st) (fq st) (bF st) .none cC doc pm an br b5/\K.lookup f=some ⟨cZ,df,.func fd,fv⟩/\anI K br qual=true
 kp:alW K (.ref f)=true
section
variable{P:akh}{w:World}{K:aT}{mg:bo}{base:Heap}
def lh.ok{x qual:Str}{st:Stmt}{f:Addr}{fd:ale}{N ps:List Str}{k:Nat}{sp:ed}(F:lh K x qual st f fd)(S:b9 N ps (bF st))(len:∀vs H Q E,sp vs H Q E->vs.length=ps.length)
  (vw:∀(br:Value)(A:akl)(outer:List Env)(s:ajZ)(H:ax)(vs:List V)(Q:cX)(E:gy),cF k (A.deeper (amJ qual (bF st) s.heap.objs.size f br))->sp vs H Q E->
   ∃t,iN (g_ eE P w K mg base N qual (bF st) f br A outer s H E).gD (fq st) t/\t { bj:=λ_ H'=>Q .aI H',cJ:=Q } (start N vs) H):e9 P w K mg base eE (k+1) f fd ps sp:=by
 obtain⟨cZ,df,cC,doc,pm,an,br,b5,fv,rfl,lk,gA⟩:=F.ex;refine Cq lk gA S len λA outer s H vs Q E aA hM=>?_
 obtain⟨t,h,q⟩:=vw br A outer s H vs Q E aA hM;exact⟨t,h.gD,q⟩
def lh.binds{x qual:Str}{st:Stmt}{f:Addr}{fd:ale}{ps:List Str}(F:lh K x qual st f fd)
  (h:∀(cC doc pm:Value)(an:Option Addr)(br b5:Value)(us:List Value),us.length=ps.length->ame (alL x qual (h7 st) (fq st) (bF st) .none cC doc pm an br b5) ⟨us,[]⟩=pure (ps.zip us)):Binds K fd ps []:=by
 obtain⟨cZ,df,cC,doc,pm,an,br,b5,fv,rfl,lk,gA⟩:=F.ex;exact .all (h cC doc pm an br b5)
def yI{x qual:Str}{st:Stmt}{f:Addr}{cZ:Value}{df an:Option Addr}{fv:Array (Option Value)}{cC doc pm br b5:Value}(l:K.lookup f=some ⟨cZ,df,.func (alL x qual (h7 st) (fq st) (bF st) .none cC doc pm an br b5),fv⟩)
  (c:anI K br qual=true) (k:alW K (.ref f)=true):lh K x qual st f (alL x qual (h7 st) (fq st) (bF st) .none cC doc pm an br b5):=⟨⟨cZ,df,cC,doc,pm,an,br,b5,fv,rfl,l,c⟩,k⟩
end
def eQ(h:n<=1000):n<aj3:=Nat.lt_of_le_of_lt h (by decide)
def oK{A B:Prop}(h:B):if false=true then A else B:=by
 rw[if_neg aj6];exact h
def oL{A B:Prop}(h:A):if true=true then A else B:=by
 rw[if_pos rfl];exact h
end aE
set_option maxHeartbeats 4000000
namespace aE
open PySem PySem.Spec PyProof.Rows
section
variable{κ:Type}[DecidableEq κ]
def jT(aq:List (κ×V))(k:κ):Option V:=(aq.find? λkv=>decide (kv.1=k)).map (·.2)
def putK(aq:List (κ×V))(k:κ)(v:V):List (κ×V):=
 if(aq.any λkv=>decide (kv.1=k))=true then aq.map (λkv=>if kv.1=k then(kv.1,v)else kv)else aq++[(k,v)]
def FF{r:List (κ×V)}{k:κ}(e:p.1=k):jT (p::r) k=some p.2:=by simp[jT,al2,e]
def FE{r:List (κ×V)}{k:κ}(e:¬p.1=k):jT (p::r) k=jT r k:=by simp[jT,al2,e]
theorem Pu(k:κ):∀aq:List (κ×V),(aq.any λkv=>decide (kv.1=k))=(jT aq k).isSome
 |[]=>rfl|p::r=>by
  rw[alK]
  by_cases e:p.1=k
  .simp only[FF e,decide_eq_true e,Bool.true_or,Option.isSome_some]
  .rw[FE e,decide_eq_false e,Bool.false_or];exact Pu k r
def DT(aq:List (κ×V))(k:κ)(v:V):(putK aq k v).length<=aq.length+1:=by
 unfold putK;split
 .rw[ajX];omega
 .rw[aj7,akd,akY];omega
def iw.Y2{o:Option V}{u:Option Value}(r:iw o u):o.isSome=u.isSome:=by
 cases o with
 |none=>cases u with
  |none=>rfl|some _=>exact(show False from r).elim
 |some _=>cases u with
  |none=>exact(show False from r).elim|some _=>rfl
def iw.getD{o:Option V}{u:Option Value}(r:iw o u)(bb:RelV d d'):RelV (o.getD d) (u.getD d'):=by
 cases o with
 |none=>cases u with
  |none=>exact bb|some _=>exact(show False from r).elim
 |some _=>cases u with
  |none=>exact(show False from r).elim|some _=>exact r
def f6.val(r:f6 aq vs)(k:κ):iw (jT aq k) (aoq vs k):=by
 unfold f6 at r
 induction r with
 |nil=>exact alp|@cons p q ps gY h t a6=>
  obtain⟨ae,ah⟩:=h
  by_cases e:p.1=k
  .have cA:q.1=k:=ae.symm.trans e
   have b:aoq (q::gY) k=some q.2:=by simp[aoq,al2,cA]
   rw[FF e,b];exact ah
  .have cA:¬q.1=k:=λz=>e (ae.trans z)
   have b:aoq (q::gY) k=aoq gY k:=by simp[aoq,al2,cA]
   rw[FE e,b];exact a6
def f6.any{aq:List (κ×V)}{vs:List (κ×Value)}(r:f6 aq vs)(k:κ):(aq.any λkv=>decide (kv.1=k))=vs.any λkv=>decide (kv.1=k):=by
 unfold f6 at r
 induction r with
 |nil=>rfl|cons h t a6=>rw[alK,alK,a6,h.1]
def f6.EZ(r:f6 aq vs)(k:κ)(bz:RelV y u) :
  f6 (aq.map λkv=>if kv.1=k then(kv.1,y)else kv) (vs.map λkv=>if kv.1=k then(kv.1,u)else kv):=by
 unfold f6 at r ⊢
 induction r with
 |nil=>exact .nil|@cons p q ps gY h t a6=>
  rw[aj8,aj8];refine .cons ?_ a6;obtain⟨ae,ah⟩:=h
  by_cases e:p.1=k
  .rw[if_pos e,if_pos (ae.symm.trans e)];exact⟨ae,bz⟩
  .rw[if_neg e,if_neg (λz=>e (ae.trans z))];exact⟨ae,ah⟩
def f6.put(r:f6 aq vs)(k:κ)(bz:RelV y u):f6 (putK aq k y) (stored vs k u):=by
 unfold putK stored;rw[r.any k]
 by_cases e:(vs.any λkv=>decide (kv.1=k))=true
 .rw[if_pos e,if_pos e];exact r.EZ k bz
 .rw[if_neg e,if_neg e];exact Paired.snoc r ⟨rfl,bz⟩
def f6.length{aq:List (κ×V)}{vs:List (κ×Value)}(r:f6 aq vs):aq.length=vs.length:=aoZ r
end
def vP{k:Key}(r:RelV (cC k) u):(iZ P w).is k u=true:=by
 cases k with
 |inl i=>obtain⟨t,e⟩:=(show ∃t,u=anm i t from r);subst e;exact aav P w i t
 |inr x=>obtain⟨t,e⟩:=(show ∃t,u=anO x t from r);subst e;exact aaw P w x t
theorem KI:∀{bu:List Key}{us:List Value},Vals (bu.map cC) us->ItemsAre (iZ P w) bu us
 |[],_,r=>by rw[aou]at r;cases r;exact .nil
 |k::bu,_,r=>by
  rw[aj8]at r
  cases r with
  |cons h t=>exact .cons (vP h) (KI t)
abbrev KT(H:ax):List (List Key×V)->List (List Key×Addr×Value)->Prop:=ana λp q=>p.1=q.1/\H q.2.1=some (.t (p.1.map cC))/\RelV p.2 q.2.2
def KT.val(r:KT H aq xs)(k:List Key):iw (jT aq k) ((atKey xs k).map (·.2)):=by
 induction r with
 |nil=>exact alp|@cons p q ps gY h t a6=>
  obtain⟨ae,_,ah⟩:=h
  by_cases e:p.1=k
  .have cA:q.1=k:=ae.symm.trans e
   have b:atKey (q::gY) k=some q.2:=by simp[atKey,al2,cA]
   rw[FF e,b];exact ah
  .have cA:¬q.1=k:=λz=>e (ae.trans z)
   have b:atKey (q::gY) k=atKey gY k:=by simp[atKey,al2,cA]
   rw[FE e,b];exact a6
def KT.EZ(r:KT H aq xs)(k:List Key)(bz:RelV y u) :
  KT H (aq.map λkv=>if kv.1=k then(kv.1,y)else kv) (xs.map (putAt k u)):=by
 induction r with
 |nil=>exact .nil|@cons p q ps gY h t a6=>
  rw[aj8,aj8];refine .cons ?_ a6;obtain⟨ae,ah,bN⟩:=h;unfold putAt
  by_cases e:p.1=k
  .rw[if_pos e,if_pos (ae.symm.trans e)];exact⟨ae,ah,bz⟩
  .rw[if_neg e,if_neg (λz=>e (ae.trans z))];exact⟨ae,ah,bN⟩
def KT.put{H:ax}(r:KT H aq xs)(k:List Key)(ab:H b=some (.t (k.map cC)))(bz:RelV y u) :
  KT H (putK aq k y) (storedH xs k b u):=by
 have e:(aq.any λkv=>decide (kv.1=k))=(atKey xs k).isSome:=by
  rw[Pu,(r.val k).Y2,Option.isSome_map]
 unfold putK storedH;rw[e]
 by_cases q:(atKey xs k).isSome=true
 .rw[if_pos q,if_pos q];exact r.EZ k bz
 .rw[if_neg q,if_neg q];exact Paired.snoc r ⟨rfl,ab,bz⟩
def KT.keeps{H H':ax}(r:KT H aq xs)(bM:∀b ys,H b=some (.t ys)->H' b=some (.t ys)):KT H' aq xs:=
 ana.D5 r λ_ _ z=>⟨z.1,bM _ _ z.2.1,z.2.2⟩
section
variable{P:akh}{w:World}{H:ax}{h:Heap}{a:Addr}
def M7(ok:e_ P w H h)(e:fV H a u):gx P w H h a u:=e.ok ok
def u2{aq:List (Key×V)}(ok:e_ P w H h)(e:fV H a (.ff aq)):aq.length<=aj3/\(a==alI)=false/\∃vs,f6 aq vs/\h.DictOf (iZ P w) a vs:=
 show gx P w H h a (.ff aq)from M7 ok e
def IY{aq:List (Key×V)}(ok:e_ P w H h)(e:H a=some (.ff aq)):aq.length<=aj3/\(a==alI)=false/\∃vs,f6 aq vs/\h.DictOf (iZ P w) a vs:=u2 ok (.inl e)
def zj{bu:List Key}(ok:e_ P w H h)(e:H a=some (.t (bu.map cC))):(anP (iZ P w)).is h bu a:=by
 obtain⟨_,its,r,o,ae,ah,n,bN⟩:=(show gx P w H h a (.t (bu.map cC))from ok a _ e);exact⟨o,its.toArray,n,ae,ah,bN,by simpa using KI r⟩
def u4{aq:List (List Key×V)}(ok:e_ P w H h)(e:fV H a (.hq aq)):aq.length<=aj3/\(a==alI)=false/\
  ∃xs,KT H aq xs/\h.DictOfH (anP (iZ P w)) a xs:=by
 obtain⟨z,y,xs,r,o,ay,cf,ae,ah,bN,dq,ep⟩:=(show gx P w H h a (.hq aq)from M7 ok e);refine⟨z,y,xs,r,o,ay,cf,ae,ah,bN,dq,λx ag=>?_,ep⟩;have all:∀{l:List (List Key×V)}{m:List (List Key×Addr×Value)},KT H l m->∀x∈m,(anP (iZ P w)).is h x.1 x.2.1:=by
  intro l m q
  induction q with
  |nil=>intro x ag;exact nomatch ag
  |@cons p q ps gY a8 t a6=>
   intro x ag;rcases aj5.mp ag with e|ag
   .subst e
    exact zj ok (by rw[<-a8.1];exact a8.2.1)
   .exact a6 x ag
 exact all r x ag
def Vp{aq:List (List Key×V)}(ok:e_ P w H h)(e:H a=some (.hq aq)):aq.length<=aj3/\(a==alI)=false/\
  ∃xs,KT H aq xs/\h.DictOfH (anP (iZ P w)) a xs:=u4 ok (.inl e)
end
def lb(H:ax)(a:Addr)(y:V)(r:Option V):Prop:=
 (∃aq k,fV H a (.ff aq)/\y=cC k/\r=jT aq k)\/∃aq k b,fV H a (.hq aq)/\y=.ref b/\H b=some (.t (k.map cC))/\r=jT aq k
def pC(H:ax)(a:Addr)(y v:V)(H':ax):Prop:=
 (∃aq k,H a=some (.ff aq)/\y=cC k/\aq.length<aj3/\H'=upd H a (.ff (putK aq k v)))\/
 ∃aq k b,H a=some (.hq aq)/\y=.ref b/\H b=some (.t (k.map cC))/\aq.length<aj3/\H'=upd H a (.hq (putK aq k v))
def lb.k{H:ax}{k:Key}(e:H a=some (.ff aq)):lb H a (cC k) (jT aq k):=.inl ⟨aq,k,.inl e,rfl,rfl⟩
def lb.t{H:ax}{k:List Key}(e:H a=some (.hq aq))(c5:H b=some (.t (k.map cC))):lb H a (.ref b) (jT aq k):=.inr ⟨aq,k,b,.inl e,rfl,c5,rfl⟩
def pC.k{H:ax}{aq:List (Key×V)}{k:Key}{v:V}(e:H a=some (.ff aq))(ar:aq.length<aj3):pC H a (cC k) v (upd H a (.ff (putK aq k v))):=.inl ⟨aq,k,e,rfl,ar,rfl⟩
def pC.t{H:ax}{aq:List (List Key×V)}{k:List Key}{v:V}(e:H a=some (.hq aq))(c5:H b=some (.t (k.map cC)))(ar:aq.length<aj3) :
  pC H a (.ref b) v (upd H a (.hq (putK aq k v))):=.inr ⟨aq,k,b,e,rfl,c5,ar,rfl⟩
section
variable{X:aS}{zn:c2}{Y:St}{H:ax}{s:ajZ}{a:Addr}{y v:V}{u r:Value}{o:Option V}{A:akl}{E:cB}
def Inv.big(I:Inv X zn Y H s):alI<s.heap.objs.size:=by
 have h:akw<s.heap.objs.size:=(I.mod.glob.keeps I.c_).lt;exact Nat.lt_trans (by decide) h
theorem UA{Q:cB}(cy:A.units+1<cLine)(I:Inv X zn Y H s)(g:lb H a y (some v))(bz:RelV y u)(h:∀eR aP,Inv X zn Y H aP->RelV v eR->Q eR aP) :
  wpAny (model X.prog X.w) A (am6 (.ref a) u) Q E s:=by
 rcases g with⟨aq,k,e,fg,l⟩|⟨aq,k,b,e,fg,c5,l⟩
 .subst fg
  obtain⟨z,hd,vs,rel,dd⟩:=u2 I.bO e;obtain⟨eR,hw,jn⟩:=iw.some_of (v:=v) (o:=aoq vs k) (by rw[l];exact rel.val k);exact wpAny_getItem_of (vP bz) dd.mapOf hw (h eR _ (I.tok _) jn)
 .subst fg
  cases(show u=aks b from bz);obtain⟨z,hd,xs,rel,dd⟩:=u4 I.bO e;obtain⟨eR,hw,jn⟩:=iw.some_of (v:=v) (o:=(atKey xs k).map (·.2)) (by rw[l];exact rel.val k);obtain⟨p,aH,YB⟩:=amC.mp hw;refine wpAny_getItem_heap (anS cy) (zj I.bO c5) dd aH ?_;rw[YB];exact h eR _ (I.tok _) jn
def BS{h':Heap}{t':Nat}(I:Inv X zn Y H s)(ka:uF (H a))(aj:anu a s.heap h')(he:∃q,h'.get? a=some q)(new:gx X.prog X.w (upd H a bx) h' a bx) :
  Inv X zn Y (upd H a bx) { s with heap:=h',toks:=t' }:=
 I.write (x:=a) (e:=a) ka (.inl rfl) (λb q ab z=>(aj.2 b ab).trans z) he new
def IX{H':ax}{aq:List (Key×V)}(z:aq.length<=aj3)(hd:(a==alI)=false)(rel:f6 aq vs)(dd:h'.DictOf (iZ P w) a vs) :
  gx P w H' h' a (.ff aq):=⟨z,hd,vs,rel,dd⟩
def U'{Q:Unit->ajZ->Prop}(cy:A.units+1<cLine)(I:Inv X zn Y H s)(g:pC H a y v H')(bz:RelV y u)(bP:RelV v r)(h:∀aP,Inv X zn Y H' aP->Q () aP) :
  wpAny (model X.prog X.w) A (setItem (.ref a) u r) Q E s:=by
 rcases g with⟨aq,k,e,fg,l,B0⟩|⟨aq,k,b,e,fg,c5,l,B0⟩
 .subst fg B0
  obtain⟨z,hd,vs,rel,dd⟩:=IY I.bO e;have hz:vs.length<=aj3:=by rw[<-rel.length];exact z
  have ar:(putK aq k v).length<=aj3:=by have:=DT aq k v;omega
  refine wpAny_setItem_pairs (hsz:=hz) (vP bz) dd λh' og aj=>h _ ?_
  have he:∃q,h'.get? a=some q:=let⟨q,_,_,a8,_⟩:=og;⟨q,a8⟩
  exact BS I (by rw[e];exact alp) aj he (IX ar hd (rel.put k bP) og)
 .subst fg B0
  cases(show u=aks b from bz);obtain⟨z,hd,xs,rel,dd⟩:=Vp I.bO e;have hz:xs.length<=aj3:=by rw[<-aoZ rel];exact z
  have ar:(putK aq k v).length<=aj3:=by have:=DT aq k v;omega
  refine wpAny_setItem_heap (hsz:=hz) (anS cy) (zj I.bO c5) dd λh' og aj=>h _ ?_
  obtain⟨q,ay,cf,a8,ah,bN,dq,_,ep⟩:=og;refine BS I (by rw[e];exact alp) aj ⟨q,a8⟩ ⟨ar,hd,_,(rel.put k c5 bP).keeps λc ys gn=>?_,q,ay,cf,a8,ah,bN,dq,ep⟩;rw[dj (Eb gn e (λz=>nomatch z))];exact gn
end
def uG(i:Expr):Prop:=∀ea qb,aoN i false ea qb=operate [ea,qb] (am6 ea qb)
def OT{prog:akh}{w:World}{A:akl}{E:cB}{s:ajZ}{env:Env}{value slice:Expr}{pos:Pos}{T id:String}{Q:cB}
  (ar:typeLookup (.type T) "__getitem__"=pure (some (.builtin id))) (aj:uG slice)
  (h:wpAny (model prog w) A (eval value env) (λo dw=>wpAny (model prog w) A (eval slice env) (λi mY=>mY.TypeIs o T/\wpAny (model prog w) A (am6 o i) Q E mY) E dw) E s) :
  wpAny (model prog w) A (eval (.Subscript value slice pos) env) Q E s:=by
 refine Subscript_ (akH h (λo dw kR=>akH kR (λi mY mG=>?_) λ_ _ x=>x) λ_ _ x=>x);obtain⟨fG,mG⟩:=mG;unfold subscriptTail;refine ajV ?_;rw[getitemInPython_of_ne fG.not_modules];refine ajV (wpAny_specialOf fG ar ?_);have fin:wpAny (model prog w) A (aoN slice false o i) (λr k2=>wpAny (model prog w) A (letTemporaryGo value o r >>= λ_=>pure r) Q E k2) E mY:=by
  rw[aj o i];exact wpAny_operating (akH mG (λr k2 oH=>ajV (wpAny_letTemporaryGo (aj1 oH))) λ_ _ x=>x)
 first
  |exact aj1 (ajV fin)
  |exact ajV (aj1 (ajV fin))
  |exact ajV fin
def Vh(I:Inv X zn Y H s)(g:lb H a y o):s.TypeIs (.ref a) "dict":=by
 rcases g with⟨aq,k,e,_,_⟩|⟨aq,k,b,e,_,_,_⟩
 .obtain⟨_,_,vs,_,dd⟩:=u2 I.bO e
  exact dd.typeIs
 .obtain⟨_,_,xs,_,dd⟩:=u4 I.bO e
  exact dd.typeIs
def afd(k3 ty:TE):TE:=λY H Q=>k3 Y H λx H1=>ty Y H1 λy aM=>∃a v,x=.ref a/\lb aM a y (some v)/\Q v aM
def adl(k3 ty k6:TE):g8:=λD Y H=>k6 Y H λv H1=>k3 Y H1 λx aM=>ty Y aM λy cT=>∃a hE,x=.ref a/\pC cT a y v hE/\D.bj Y hE
section
variable{X:aS}{o i value:Expr}{pos pos':Pos}{k3 ty k6:TE}
def ab2(cy:X.A.units+1<cLine)(a':bQ X o k3)(aB:bQ X i ty)(aj:uG i):bQ X (.Subscript o i pos) (afd k3 ty):=by
 intro zn s Y H Q I h;refine OT aoi.lookup aj (bV (a' zn s Y H _ I h) λu s1 ⟨x,H1,a9,a4,bk⟩=>bV (aB zn s1 Y H1 _ a9 bk) λqb s2 ⟨y,aM,bU,bz,a,v,ex,g,b0⟩=>?_);subst ex;obtain rfl:u=aks a:=a4;exact⟨Vh bU g,UA cy bU g bz λeR s3 dF jn=>⟨v,aM,dF,jn,b0⟩⟩
def ML(cy:X.A.units+1<cLine)(a':bQ X o k3)(aB:bQ X i ty)(bI:bQ X value k6)(aj:alu value (some (.Subscript o i pos')) pos.line X.env=pure false) :
  iM X (.Assign [.Subscript o i pos'] value pos) (adl k3 ty k6):=by
 intro zn s Y H D I h;refine wpAny_Assign_Subscript (bV (bI zn s Y H _ I h) λr s1 ⟨v,H1,a9,bP,bk⟩=>bV (a' zn s1 Y H1 _ a9 bk) λu s2 ⟨x,aM,bU,a4,b0⟩=>bV (aB zn s2 Y aM _ bU b0) λqb s3 ⟨y,cT,dF,bz,a,hE,ex,g,gX⟩=>?_) aj;subst ex;obtain rfl:u=aks a:=a4;exact U' cy dF g bz bP λs4 i_=>⟨Y,hE,i_,gX⟩
end
def Vi(h:Heap)(ab:alI<h.objs.size):gx P w H (h.push { cls:=.type "dict",data:=.dict #[] }) h.objs.size (.ff []):=
 ⟨akm _,beq_eq_false_iff_ne.mpr (amT (akj ab)),[],.nil,Heap.DictOf.new h⟩
def Vo(h:Heap)(ab:alI<h.objs.size):gx P w H (h.push { cls:=.type "dict",data:=.dict #[] }) h.objs.size (.hq []):=
 ⟨akm _,beq_eq_false_iff_ne.mpr (amT (akj ab)),[],.nil,_,#[],0,akb _ rfl,⟨rfl,rfl,rfl⟩,rfl,rfl,aly⟩
def aff:TE:=λ_ H Q=>∀p,H p=none->Q (.ref p) (upd H p (.hq []))
section
variable{X:aS}{pos:Pos}
def ab5:bQ X (.Dict [] [] pos) aff:=λzn s Y H Q I h=>
 wpAny_Dict_empty ⟨.ref s.heap.objs.size,_,I.laid (a:=s.heap.objs.size) (o:=.hq []) (t':=s.toks) (λ_ _ q=>ajW _ q) (aj0 _) (Vo s.heap I.big),rfl,h _ (I.bO.fresh (aj0 _))⟩
end
def xd:List (TE×TE)->St->ax->(List (V×V)->ax->Prop)->Prop
 |[],_,H,Q=>Q [] H|(tk,k6)::r,Y,H,Q=>tk Y H λx H1=>k6 Y H1 λy aM=>xd r Y aM λps cT=>Q ((x,y)::ps) cT
abbrev Gm:List (V×V)->List (Value×Value)->Prop:=ana λp q=>RelV p.1 q.1/\RelV p.2 q.2
def uI(X:aS)(pos:Pos)(keys:List (Option Expr))(values:List Expr)(km:List (TE×TE)):Prop:=
 ∀(zn:c2)(s:ajZ)(Y:St)(H:ax)(Q:List (V×V)->ax->Prop),Inv X zn Y H s->xd km Y H Q->
  wpAny (model X.prog X.w) X.A (evalPairs (pairTrees keys values X.env pos)) (λvs aP=>∃ps H',Inv X zn Y H' aP/\Gm ps vs/\Q ps H') X.dV s
def acE:uI X pos [] [] []:=λzn s Y H Q I h=>pairTrees_nil_walk ⟨[],H,I,.nil,h⟩
def acD{k v:Expr}(aw:bQ X k tk)(bI:bQ X v k6)(aA:uI X pos bu vs km) :
  uI X pos (some k::bu) (v::vs) ((tk,k6)::km):=λzn s Y H Q I h=>
 pairTrees_cons_walk (bV (aw zn s Y H _ I h) λu s1 ⟨x,H1,a9,a4,bk⟩=>bV (bI zn s1 Y H1 _ a9 bk) λjs s2 ⟨y,aM,bU,bz,b0⟩=>
  bV (aA zn s2 Y aM _ bU b0) λws s3 ⟨ps,cT,dF,rel,gX⟩=>⟨(x,y)::ps,cT,dF,.cons ⟨a4,bz⟩ rel,gX⟩)
def qn(aq more:List (Key×V)):List (Key×V):=more.foldl (λacc kv=>putK acc kv.1 kv.2) aq
def f6.merge:∀{more:List (Key×V)}{rs:List (Key×Value)}{aq:List (Key×V)}{vs:List (Key×Value)},f6 more rs->f6 aq vs->f6 (qn aq more) (merged vs rs):=by
 intro more rs aq vs r;unfold f6 at r
 induction r generalizing aq vs with
 |nil=>intro q;exact q|@cons p q ps gY h t a6=>
  intro iJ;have e:f6 (putK aq p.1 p.2) (stored vs q.1 q.2):=by
   have:=iJ.put p.1 h.2;rw[<-h.1];exact this
  exact a6 e
theorem Ls:∀(more aq:List (Key×V)),(qn aq more).length<=aq.length+more.length
 |[],aq=>by show aq.length<=aq.length+0;omega|p::r,aq=>by
  have ae:=Ls r (putK aq p.1 p.2);have ah:=DT aq p.1 p.2;show(qn (putK aq p.1 p.2) r).length<=_;rw[akd];omega
theorem It:∀{aq:List (Key×V)}{ws:List (Value×Value)},Gm (aq.map λkv=>(cC kv.1,kv.2)) ws->∃rs,Carries (iZ P w) ws rs/\f6 aq rs
 |[],_,r=>by rw[aou]at r;cases r;exact⟨[],alp,.nil⟩
 |p::aq,_,r=>by
  rw[aj8]at r
  cases r with
  |@cons a b as bs h t=>
   obtain⟨rs,c,q⟩:=It (P:=P) (w:=w) t;obtain⟨b2,b3⟩:=b;exact⟨(p.1,b3)::rs,⟨vP h.1,rfl,c⟩,.cons ⟨rfl,h.2⟩ q⟩
def afg(km:List (TE×TE)):TE:=λY H Q=>∀p,H p=none->xd km Y (upd H p (.ff [])) λps aM=>aM p=some (.ff [])/\∃aq:List (Key×V),ps=aq.map (λkv=>(cC kv.1,kv.2))/\aq.length<=15/\Q (.ref p) (upd aM p (.ff (qn [] aq)))
def ab4{X:aS}{pos:Pos}{keys:List (Option Expr)}{values:List Expr}{km:List (TE×TE)}(h:uI X pos keys values km)(hall:keys.all (·.isSome)=true)(ar:keys.length=values.length)(h0:keys≠[])
  (CG:keys.length<=15):bQ X (.Dict keys values pos) (afg km):=by
 intro zn s Y H Q I q;have aF:=I.bO.fresh (aj0 s.heap.objs.size);have a9:=I.laid (a:=s.heap.objs.size) (o:=.ff []) (h':=s.heap.push { cls:=.type "dict",data:=.dict #[] }) (t':=s.toks) (λ_ _ q=>ajW _ q) (aj0 _) (Vi s.heap I.big);refine wpAny_Dict_walk (knd:=iZ X.prog X.w) hall ar h0 CG (bV (h zn _ Y _ _ a9 (q _ aF)) λws s2 ⟨ps,aM,bU,rel,e,aq,cf,lk,b0⟩=>?_);subst cf;obtain⟨rs,c,jm⟩:=It (P:=X.prog) (w:=X.w) rel;obtain⟨z,hd,ajN,iJ,dd⟩:=IY bU.bO e;cases iJ;refine⟨rs,c,dd,λh' og aj=>⟨.ref s.heap.objs.size,_,?_,rfl,b0⟩⟩;have hz:(qn [] aq).length<=aj3:=by
  have ae:=Ls aq [];rw[akY]at ae;rw[ako];omega
 have he:∃q,h'.get? s.heap.objs.size=some q:=let⟨q,_,_,a8,_⟩:=og;⟨q,a8⟩
 exact BS bU (by rw[e];exact alp) aj he (IX hz hd (jm.merge .nil) og)
structure h2(X:aS)(o:Expr)(m:Str)(apos:Pos)(e:Expr)(dp:Pos):Prop where
 base:alJ o m X.env (eval o X.env)=eval o X.env
 Ci:((akr dp (ajY [e] X.env)).all (λx=>!x.1)&&(alN dp (alm [] X.env)).all (λx=>x.1.isSome)
&&decide (([e]:List Expr).length+([]:List am7).length+(if([]:List am7).isEmpty then 0 else 1)<30))=true
 line:(apos.endLine==dp.line)=true
 trees:akr dp (ajY [e] X.env)=[(false,eval e X.env)]
structure M2(X:aS)(o:Expr)(m:Str)(apos:Pos)(e f:Expr)(dp:Pos):Prop where
 base:alJ o m X.env (eval o X.env)=eval o X.env
 Ci:((akr dp (ajY [e,f] X.env)).all (λx=>!x.1)&&(alN dp (alm [] X.env)).all (λx=>x.1.isSome)
&&decide (([e,f]:List Expr).length+([]:List am7).length+(if([]:List am7).isEmpty then 0 else 1)<30))=true
 line:(apos.endLine==dp.line)=true
 trees:akr dp (ajY [e,f] X.env)=[(false,eval e X.env),(false,eval f X.env)]
def Gg(H:ax)(a:Addr):Prop:=(∃aq,fV H a (.ff aq))\/∃aq,fV H a (.hq aq)
def Y1(I:Inv X zn Y H s)(d:Gg H a) :
  s.TypeIs (.ref a) "dict"/\(∀b,aks a=.ref b->∃bx,s.heap.get? b=some bx/\bx.dict=none)/\(a==alI)=false:=by
 rcases d with⟨aq,e⟩|⟨aq,e⟩
 .obtain⟨_,hd,vs,_,dd⟩:=u2 I.bO e
  refine⟨dd.typeIs,λb q=>?_,hd⟩;cases q;obtain⟨bx,_,_,ae,ah,_⟩:=dd;exact⟨bx,ae,ah.2.1⟩
 .obtain⟨_,hd,xs,_,dd⟩:=u4 I.bO e
  refine⟨dd.typeIs,λb q=>?_,hd⟩;cases q;obtain⟨bx,_,_,ae,ah,_⟩:=dd;exact⟨bx,ae,ah.2.1⟩
section
variable{X:aS}{zn:c2}{Y:St}{H:ax}{s:ajZ}{a:Addr}{y d:V}{u r:Value}{o:Option V}{A:akl}{E:cB}
def Uz{Q:cB}(cy:A.units+1<cLine)(I:Inv X zn Y H s)(g:lb H a y o)(bz:RelV y u)(bb:RelV d r)(h:∀eR aP,Inv X zn Y H aP->RelV (o.getD d) eR->Q eR aP) :
  wpAny (model X.prog X.w) A (call (.builtin "dict.get") [.ref a,u,r]) Q E s:=by
 rcases g with⟨aq,k,e,fg,l⟩|⟨aq,k,b,e,fg,c5,l⟩
 .subst fg
  obtain⟨z,hd,vs,rel,dd⟩:=u2 I.bO e;refine call_meetsIn al3 dd.typeIs anb (aoC _ _ _) (meets_dict_get_default (iZ X.prog X.w) a (vP bz) hd r) ⟨_,dd.mapOf,h _ _ (I.tok _) ?_⟩;rw[l];exact(rel.val k).getD bb
 .subst fg
  cases(show u=aks b from bz);obtain⟨z,hd,xs,rel,dd⟩:=u4 I.bO e;refine call_meetsIn al3 dd.typeIs anb (aoC _ _ _) (meetsH_dict_get_default (anP (iZ X.prog X.w)) a b hd r) ⟨anS cy,k,xs,zj I.bO c5,dd,h _ _ (I.tok _) ?_⟩;rw[l];exact(rel.val k).getD bb
end
def afe(k3 ty cE:TE):TE:=λY H Q=>k3 Y H λx H1=>∃a,x=.ref a/\Gg H1 a/\ty Y H1 λy aM=>cE Y aM λz cT=>∃o,lb cT a y o/\Q (o.getD z) cT
section
variable{X:aS}{o e f:Expr}{apos dp:Pos}{k3 ty cE:TE}
def ab3(cy:X.A.units+1<cLine)(a':bQ X o k3)(he:bQ X e ty)(hf:bQ X f cE)(m:M2 X o "get" apos e f dp):bQ X (.Call (.Attribute o "get" apos) [e,f] [] dp) (afe k3 ty cE):=by
 intro zn s Y H Q I h;refine wpAny_Call_method m.base m.Ci m.line aoD al3 aoS (bV (a' zn s Y H _ I h) λu s1 ⟨x,H1,a9,a4,a,ex,d,bk⟩=>?_);subst ex;obtain rfl:u=aks a:=a4;obtain⟨t1,dJ,_⟩:=Y1 a9 d;refine⟨t1,dJ,?_⟩;rw[m.trees];refine amB rfl (anx (am0 (bV (he zn s1 Y H1 _ a9 bk) λqb s2 ⟨y,aM,bU,bz,b0⟩=>
  am0 (bV (hf zn s2 Y aM _ bU b0) λjJ s3 ⟨z,cT,dF,jQ,ea,g,gX⟩=>aoa ?_))))
 exact Uz cy dF g bz jQ λeR s4 i_ jn=>⟨_,cT,i_,jn,gX⟩
end
class a5 where
 cw:Addr->Prop
 t9:Addr->Str
def o3:gH->Prop
 |.gd _=>False|_=>True
def q1(c:Addr)(q:Str):Heap->Prop:=λh=>h.CodeRec (.ref c) q
def Qh[a5](H:ax)(P:Addr):Prop:=∃ps:Array Value,H P=some (.gd ps)/\aoJ ps.toList/\∀pos iz,anp pos ps.toList=some iz->∃c,iz=.ref c/\H c=some (.ext (q1 c (a5.t9 P)))
def TabsOk[a5](H:ax):Prop:=∀P,a5.cw P->Qh H P
structure eG[a5](H H':ax):Prop where
 at':∀b o,H b=some o->(h:o3 o:=by exact trivial)->H' b=some o
 cK:∀b ps,H b=some (.gd ps)->∃iH,H' b=some (.gd iH)
 bS:TabsOk H->TabsOk H'
variable[a5]
def aaD(o:gH):o3 o\/∃ps,o=.gd ps:=by cases o<;>first|exact .inl trivial|exact .inr ⟨_,rfl⟩
def eG.refl(H:ax):eG H H:=⟨λ_ _ h _=>h,λ_ ps h=>⟨ps,h⟩,id⟩
def eG.trans(a:eG H H1)(b:eG H1 aM):eG H aM:=
 ⟨λc o h n=>b.at' c o (a.at' c o h n) n,λc ps h=>let⟨p1,av⟩:=a.cK c ps h;b.cK c p1 av,λg=>b.bS (a.bS g)⟩
def eG.some{H H':ax}(s:eG H H')(h:H b≠none):H' b≠none:=by
 cases e:H b with
 |none=>exact absurd e h|some o=>
  rcases aaD o with n|⟨ps,rfl⟩
  .rw[s.at' b o e n];intro z;cases z
  .obtain⟨p,q⟩:=s.cK b ps e;rw[q];intro z;cases z
def eG.free{H H':ax}(e:eG H H')(h:H' l=Option.none):H l=Option.none:=by
 cases q:H l with
 |none=>rfl| some o=>exact absurd h (e.some (by rw[q];intro z;cases z))
def eG.seq{K:aT}{H H':ax}{a:Addr}{xs:List V}(e:eG H H')(h:dk K H a xs):dk K H' a xs:=by
 rcases h with(h|⟨o,h⟩)|h
 .exact .inl (.inl (e.at' _ _ h))
 .exact .inl (.inr ⟨o,e.at' _ _ h⟩)
 .exact .inr h
def TabsOk.put{H:ax}(g:TabsOk H)(o:gH)(ae:∀ps,H p≠some (.gd ps))(ah:∀q,H p≠some (.ext (q1 p q))):TabsOk (upd H p o):=λP ej=>by
 obtain⟨ps,e,t,c⟩:=g P ej;refine⟨ps,by rw[dj (by rintro rfl;exact ae _ e)];exact e,t,λpos iz aD=>?_⟩;obtain⟨c',av,aC⟩:=c pos iz aD;exact⟨c',av,by rw[dj (by rintro rfl;exact ah _ aC)];exact aC⟩
def TabsOk.new{H:ax}(g:TabsOk H)(h:H p=none)(o:gH):TabsOk (upd H p o):=g.put o (λps=>by rw[h];intro z;cases z) (λqP=>by rw[h];intro z;cases z)
def TabsOk.l{H:ax}{p:Addr}{zs:List V}(g:TabsOk H)(h:H p=some (.l zs))(o:gH):TabsOk (upd H p o):=g.put o (λps=>by rw[h];intro z;cases z) (λqP=>by rw[h];intro z;cases z)
def r5{H:ax}(h:H p=none)(o:gH):eG H (upd H p o):=
 ⟨λb u q _=>by rw[dj (kb q h)];exact q,λb ps q=>⟨ps,by rw[dj (kb q h)];exact q⟩,λg=>g.new h o⟩
def pn{H1 H:ax}{D:Addr}(kN:H1 D=none)(s:eG H1 H)(ar:H D=some (.l zs))(o:gH):eG H1 (upd H D o):=
 ⟨λb u q n=>by rw[dj (kb q kN)];exact s.at' b u q n,λb ps q=>by rw[dj (kb q kN)];exact s.cK b ps q,λg=>(s.bS g).l ar o⟩
end aE
namespace aE
open PySem
def oe(env:Env):List (Str×amA)->List (Str×Addr)->List (Str×Addr)
 |[],acc=>acc|(n,k)::r,acc=>if(k==amR)=true then oe env r ((n,(env.cells.lookup n).getD 0)::acc)else oe env r acc
abbrev nh(scope:Scope)(env:Env):List (Str×Addr):=oe env scope.names []
def IC{scope:Scope}{env:Env}(h:∀y∈scope.names,y.2=.free->∃c,env.cells.lookup y.1=some c):amu scope env=pure (nh scope env):=by
 unfold amu nh;generalize scope.names=ns at h;generalize([]:List (Str×Addr))=acc;show(forIn ns acc _ >>= _)=_
 induction ns generalizing acc with
 |nil=>rfl|cons y r a6=>
  obtain⟨n,k⟩:=y;rw[aoK];have Ku:=λacc=>a6 (λy ba=>h y (aj4 _ ba)) acc
  by_cases aw:(k==amR)=true
  .have oE:k=.free:=by simpa using aw
   obtain⟨c,aD⟩:=h (n,k) aj9 oE;have av:cellOf env n=pure c:=by unfold cellOf;rw[aD]
   simp only[aw,if_true,av,pure_bind,oe,aD,Option.getD_some];exact Ku _
  .simp only[aw,oe]
   exact Ku _
theorem BL{env:Env}:∀{ns:List (Str×amA)}{acc:List (Str×Addr)}{p:Str×Addr},p∈oe env ns acc->p∈acc\/∃k,(p.1,k)∈ns/\k=amR/\p.2=(env.cells.lookup p.1).getD 0
 |[],_,_,h=>.inl h|(n,k)::r,acc,p,h=>by
  unfold oe at h;split at h
  .rename_i aw
   rcases BL h with h|⟨mH,a,b⟩
   .rcases aj5.mp h with rfl|h
    .exact .inr ⟨k,aj9,by simpa using aw,rfl⟩
    .exact .inl h
   .exact .inr ⟨mH,aj4 _ a,b⟩
  .rcases BL h with h|⟨mH,a,b⟩
   .exact .inl h
   .exact .inr ⟨mH,aj4 _ a,b⟩
theorem BK:∀{ns:List (Str×amA)}{acc:List (Str×Addr)}{y:Str},((y,amR)∈ns\/∃c,(y,c)∈acc)->∃c,(y,c)∈oe env ns acc
 |[],_,_,h=>by
  rcases h with h|h
  .cases h
  .exact h
 |(n,k)::r,acc,y,h=>by
  unfold oe;split
  .refine BK ?_
   rcases h with h|⟨c,h⟩
   .rcases aj5.mp h with e|h
    .cases e;exact .inr ⟨_,aj9⟩
    .exact .inl h
   .exact .inr ⟨c,aj4 _ h⟩
  .rename_i aw
   refine BK ?_;rcases h with h|h
   .rcases aj5.mp h with e|h
    .cases e;exact absurd rfl aw
    .exact .inl h
   .exact .inr h
theorem LB{α:Type}{y:Str}{c:α}:∀{l:List (Str×α)},(y,c)∈l->∃c',l.lookup y=some c'
 |(n,k)::r,h=>by
  by_cases e:(y==n)=true
  .exact⟨k,by rw[akM,e]⟩
  .have cA:(y==n)=false:=by simpa using e
   rcases aj5.mp h with z|z
   .cases z;simp at e
   .obtain⟨c',q⟩:=LB z
    exact⟨c',by rw[akM,cA];exact q⟩
def TJ{scope:Scope}{env:Env}(h:∀y∈scope.names,y.2=.free->∃c,env.cells.lookup y.1=some c)(e:(nh scope env).lookup y=some c):env.cells.lookup y=some c:=by
 rcases BL (alv e)with z|⟨k,a,b,d⟩
 .cases z
 .obtain⟨c',q⟩:=h _ a b
  have d':c=(env.cells.lookup y).getD 0:=d;have hy:env.cells.lookup y=some c':=q;rw[hy]at d' ⊢;exact congrArg some d'.symm
def IA{scope:Scope}(h:scope.names.lookup y=some .free):∃c,(nh scope env).lookup y=some c:=by
 obtain⟨c,q⟩:=BK (env:=env) (acc:=[]) (.inl (alv h));exact LB q
theorem LZ{g:Str×amA->Str×amA}{y:Str}(ae:∀p,(g p).1=p.1)(ah:∀p,p.2≠.cell->(g p).2=.cell\/(g p).2=.free->p.2=.free) :
  ∀{ns:List (Str×amA)},(∀z∈ns,z.2≠an7)->((ns.map g).lookup y=some .cell\/(ns.map g).lookup y=some .free)->ns.lookup y=some .free
 | [],_,h=>by simp at h|p::r,aD,h=>by
  rw[aj8]at h;have a6:=LZ (g:=g) (y:=y) ae ah (ns:=r) λz hz=>aD z (aj4 _ hz)
  have aaJ:=aD p aj9;have bk:=ae p;have b0:=ah p aaJ;generalize g p=q at h bk b0;obtain⟨Ab,Aa⟩:=q;obtain⟨n,k⟩:=p;have bk:Ab=n:=bk;subst bk;have b0:Aa=.cell\/Aa=.free->k=.free:=b0;rw[akM]at h ⊢
  cases e:(y==Ab)with
  |true=>
   rw[e]at h;have h':some Aa=some an7\/some Aa=some amR:=h;exact congrArg some (b0 (h'.imp akv akv))
  |false=>
   rw[e]at h;exact a6 h
def ac5{scope:Scope}(aD:∀z∈scope.names,z.2≠an7)(h:(relabel scope env).names.lookup y=some .cell\/(relabel scope env).names.lookup y=some .free):scope.names.lookup y=some .free:=by
 refine LZ (λp=>?_) (λp aH q=>?_) aD h
 .obtain⟨n,k⟩:=p
  dsimp only;split<;>rfl
 .obtain⟨n,k⟩:=p
  dsimp only at q aH ⊢;split at q
  .rename_i aw
   have:=(akE _ _▸(akE _ _▸aw).1).1;simpa using this
  .exact q.elim (λz=>absurd z aH) id
end aE
namespace aE
open PySem PySem.Spec PyProof.Rows
def cx(X:aS)(scope:Scope)(N:List Str)(C:Addr)(aK:List Addr)(s:ajZ)(H:ax):aS where
 prog:=X.prog
 w:=X.w
 K:=X.K
 mg:=X.mg
 base:=X.base
 A:=X.A
 N:=N
 g0:=s
 H₀:=H
 env:=compEnvC scope (nh scope X.env) C X.env
 outer:=X.stack
 stack:=X.stack
 ex:=aK
 fn:=λ_=>false
 calm:=X.calm
 lO:=[]
 dV:=λ_ _=>False
structure la(esc scope:Scope)(EN N:List Str)(n:Nat)(cap:List Nat):Prop where
 kind:scope.kind=.function
 cell:∀y∈scope.names,y.2≠.cell
 loc:∀y∈scope.names,y.2=.local->scope.names.lookup y.1=some .local
 free:∀y∈scope.names,y.2=.free->esc.names.lookup y.1=some .cell\/esc.names.lookup y.1=some .free
 dU:N.Nodup
 len:N.length=n+cap.length
 Tw:∀j<cap.length,N[n+j]? = EN[cap.getD j 0]?/\∀x,N[n+j]? = some x->scope.names.lookup x=some .free
def hp(n:Nat)(cap:List Nat)(Y:St):St:=akQ n none++cap.map λk=>(Y[k]?).join
def TR{cap:List Nat}:(hp n cap Y).length=n+cap.length:=by
 unfold hp;rw[aj7,alb,ajX]
def TQ{cap:List Nat}{Y:St}{v:V}(h:(hp n cap Y)[i]? = some (some v)):∃j,i=n+j/\j<cap.length/\Y[cap.getD j 0]? = some (some v):=by
 unfold hp at h
 by_cases aB:i<n
 .rw[akq (by simpa using aB),alT,if_pos aB]at h
  cases h
 .rw[akk (by simpa using aB),alb,aku]at h
  cases e:cap[i-n]? with
  |none=>rw[e]at h;cases h
  |some k=>
   rw[e]at h;have ar:i-n<cap.length:=(aj2.mp e).1;refine⟨i-n,by omega,ar,?_⟩;have h':(Y[k]?).join=some v:=akv h;rw[aky,e,Option.getD_some]
   cases q:Y[k]? with
   |none=>rw[q]at h';cases h'
   |some z=>rw[q]at h';exact congrArg some h'
section
variable{X:aS}{scope esc:Scope}{EN N:List Str}{n:Nat}{cap:List Nat}{zn:c2}{Y:St}{H:ax}{s:ajZ}{aK:List Addr}
def Y0{h':Heap}{tk:Nat}{m:bo}(S:la esc scope EN N n cap)(he:X.env.scope=esc)(hN:X.N=EN)(I:Inv X zn Y H s)(hf:∀b∈aK,gw X zn H b)(a':∀b∈aK,∃o,s.heap.get? b=some o)
  (yZ:h'.Ns s.heap.objs.size m) (k:∀b o,s.heap.get? b=some o->h'.get? b=some o) :
  Inv (cx X scope N s.heap.objs.size aK s H) [] (hp n cap Y) H { s with heap:=h',toks:=tk }:=by
 have yV:∀y∈scope.names,y.2=.free->∃c,X.env.cells.lookup y.1=some c:=λy ba aw=>by
  refine I.ok.has y.1 ?_;show X.env.scope.names.lookup y.1=_\/X.env.scope.names.lookup y.1=_;rw[he];exact S.free y ba aw
 have up:∀{y:Str}{c:Addr},(nh scope X.env).lookup y=some c->X.env.cells.lookup y=some c:=λ{y c} e=>TJ yV e
 have ZL:∀y,(cx X scope N s.heap.objs.size aK s H).env.kindOf y=some .cell\/(cx X scope N s.heap.objs.size aK s H).env.kindOf y=some .free->scope.names.lookup y=some .free:=λy h=>ac5 S.cell h
 have cellK:∀c v,s.heap.IsCell c v->h'.IsCell c v:=λc v ⟨o,e,d⟩=>⟨o,k c o e,d⟩
 refine⟨⟨I.ok.mod,S.kind,I.ok.glob,I.ok.blt,aj0 _,λx y c ae ah=>I.ok.inj x y c (up ae) (up ah),λy ba=>IA (ZL y ba),λ_ _ z=>absurd z aj6,I.ok.hd,I.ok.frames,.inl rfl,λb ab=>⟨?_,λx c e=>(hf b ab).2.2.2.2.1 x c (up e)⟩,I.bs,alg I.ok.l_ I.lR,λb o e ab=>?_,λb ab hz=>?_,I.stack,I.OQ⟩,
  rfl,I.bare,gJ.kept k,⟨m,yZ,λi x v av aC c4=>?_⟩,λx c e=>?_,I.bO.fresh (aj0 _),λx c e=>I.mj x c (up e),λp aH=>absurd (show p∈([]:c2)from aH) (by simp),I.bO.kept k,?_⟩
 .obtain⟨o,e⟩:=a' b ab
  exact akj (ake e)
 .rcases(hf b ab).2.2.2.1 with z|z
  .exact I.ok.wq b o e z
  .exact absurd (akB (ake e) (alg I.ok.l_ z)) (akI _)
 .rcases aj5.mp (I.Fn b hz)with z|z
  .exact(hf b ab).2.1 z
  .exact(hf b ab).2.2.1 z
 .obtain⟨j,rfl,aR,fD⟩:=TQ aC
  obtain⟨bL,af⟩:=S.Tw j aR;have av:N[n+j]? = some x:=av;have CW:=af x av;rw[av,<-hN]at bL;obtain⟨c,aD⟩:=IA (env:=X.env) CW;obtain⟨m0,ajm,ar⟩:=I.loc;have jj:X.env.scope.names.lookup x=some .cell\/X.env.scope.names.lookup x=some .free:=by
   rw[he];exact S.free (x,.free) (alv CW) rfl
  obtain⟨u,r,l⟩:=ar _ x v bL.symm fD (jj.elim (λz=>.inr (.inl z)) λz=>.inr (.inr z));refine⟨u,r,.inr ⟨?_,c,aD,?_⟩⟩
  .rcases c4 with z|z|z
   .exfalso
    have k':(relabel scope X.env).names.lookup x=some .local:=z;have hz:∀ns:List (Str×amA),ns.lookup x=some .free->(ns.map λ(n,k)=>if(k==amR&&X.env.scope.kind==.function&&X.env.kindOf n==some .cell)then(n,an7)else(n,k)).lookup x≠some .local:=by
     intro ns
     induction ns with
     |nil=>intro h;simp at h|cons p r a6=>
      obtain⟨lO,t6⟩:=p;intro h;rw[aj8];rw[akM]at h
      cases q:(x==lO)with
      |true=>
       rw[q]at h;have h':t6=.free:=akv h;subst h';dsimp only;split
       .rw[akM,q];intro w;cases w
       .rw[akM,q];intro w;cases w
      |false=>
       rw[q]at h;dsimp only;split
       .rw[akM,q];exact a6 h
       .rw[akM,q];exact a6 h
    exact hz _ CW k'
   .exact .inl z
   .exact .inr z
  .rcases l with⟨q,_⟩|⟨_,c',lz,z⟩
   .exfalso
    have hy:X.env.scope.names.lookup x=some .local:=q;rcases jj with w|w<;>rw[w]at hy<;>cases hy
   .rw[up aD]at lz
    cases lz;exact cellK c _ z
 .obtain⟨v,z⟩:=I.cell x c (up e)
  exact⟨v,cellK c v z⟩
 .show(hp n cap Y).length=N.length
  rw[TR,S.len]
def YZ{N:List Str}(I:Inv X zn Y H s)(hf:∀b∈aK,gw X zn H b)(cm:Inv (cx X scope N C aK s H) ajG Y' H' aP):Inv X zn Y H' aP:=
 I.Te cm.os cm.base cm.bO cm.bare λb ab=>⟨(hf b ab).2.2.2.1,(hf b ab).2.1,(hf b ab).2.2.2.2.1,(hf b ab).2.2.2.2.2⟩
end
section
variable{X:aS}
def sE(X:aS)(ifs:List Expr)(t:TT):Prop:=
 ∀(zn:c2)(s:ajZ)(Y:St)(H:ax)(Q:Bool->ax->Prop),Inv X zn Y H s->t Y H Q->
  wpAny (model X.prog X.w) X.A (forIn ifs true λc r=>if r=true then do let ok <-isTrue c X.env (eval c X.env);pure (anz ok)else pure (anz r)) (A7 X zn Y Q) X.dV s
def afx:TT:=λ_ H Q=>Q true H
def acp:sE X [] afx:=λ_ _ _ H _ I h=>wpAny_tests_nil ⟨H,I,h⟩
def acq{t:TT}(h:iO X c t):sE X [c] t:=λzn s Y H Q I a8=>wpAny_tests_one (h zn s Y H Q I a8)
end
section
variable{prog:akh}{w:World}{A:akl}{R:Result->ajZ->Prop}{s:ajZ}
def TM{elt target iter:Expr}{ifs:List Expr}{scope:Scope}{pos:Pos}{it acc:Value}{env:Env}(I:Nat->ajZ->Prop)
  (turn:∀n s,I n s->wpAny (model prog w) A (ams it) (λr dw=>match r with
   |none=>R (.ok .next) dw| some v=>wpAny (model prog w) A (anv target it v) (λ_ OV=>wpAny (model prog w) A (amr target env v) (λ_ mY=>
     wpAny (model prog w) A (forIn ifs true λc r=>if r=true then do let ok <-isTrue c env (eval c env);pure (anz ok)else pure (anz r)) (λok k2=>
      if ok=true then wpAny (model prog w) A (eval elt env) (λx Al=>
       wpAny (model prog w) A (call (.builtin "list.append") [acc,x]) (λ_ OW=>∃m,m<n/\I m OW) (λ_ _=>False) Al) (λ_ _=>False) k2
      else ∃m,m<n/\I m k2) (λ_ _=>False) mY) (λ_ _=>False) OV) (λ_ _=>False) dw) (λ_ _=>False) s)
  (n:Nat) (h:I n s) :
  amI (model prog w) A (.compLoop (.ListComp elt [⟨target,iter,ifs,0⟩] scope pos) 0 it acc env) R s:=by
 refine codeAny_loop rfl I (λn s nA=>?_) n h;show wpAny _ A ((compTurn (.ListComp elt [⟨target,iter,ifs,0⟩] scope pos) 0 it acc env).onRaise (λx=>do noteFrame x env;theTreesLotGoes x)) _ _ s;refine wpAny_noted ?_;rw[compTurn_list];refine ajV (an8 (ajV (akH (turn n s nA) (λr dw kR=>?_) λ_ _ h'=>h'.elim)))
 cases r with
 |none=>exact aj1 kR|some v=>
  refine ajV (akH kR (λ_ OV YK=>?_) λ_ _ h'=>h'.elim);refine ajV (akH YK (λ_ mY mG=>ajV (akH mG (λok k2 oH=>?_) λ_ _ h'=>h'.elim)) λ_ _ h'=>h'.elim)
  cases ok with
  |false=>exact aj1 ⟨rfl,oH⟩|true=>
   exact ajV (ajV (akH oH (λx Al vM=>ajV (akH vM (λ_ OW iD=>aj1 (aj1 ⟨rfl,iD⟩)) λ_ _ h'=>h'.elim)) λ_ _ h'=>h'.elim))
end
def m9(Y dQ:St):Prop:=Y.length=dQ.length/\∀(i:Nat) v,Y[i]? = some (some v)->dQ[i]? = some (some v)
def m9.refl(Y:St):m9 Y Y:=⟨rfl,λ_ _ h=>h⟩
def m9.set{Y dQ:St}(h:m9 Y dQ)(aF:Y[i]? = some none):m9 Y (dQ.set i (some x)):=by
 refine⟨by rw[ak7];exact h.1,λj v e=>?_⟩
 by_cases aR:i=j
 .subst aR;rw[aF]at e;cases e
 .rw[akn aR];exact h.2 j v e
def BP(cm:iu)(Y':St)(g:ja)(tt:TT)(te:TE)(D:Addr)(H1:ax)(Q:cX):Prop:=
  ∃W:Nat->Nat->List V->ax->Prop,(∃m,W 0 m [] (upd H1 D (.l [])))/\∀i m ys H,W i m ys H->
   ((cm.stop i H/\Q (.ref D) H)\/(cm.go i H/\∀x H',cm.px i H x H'->g x Y' H' λdQ aM=>m9 Y' dQ/\tt dQ aM λb cT=>
       if b=true then te dQ cT λy hE=>hE D=some (.l ys)/\ys.length<aj3/\∃eD,eD<m/\W (i+1) eD (ys++[y]) (upd hE D (.l (ys++[y])))else ∃eD,eD<m/\W (i+1) eD ys cT))
def uf(n:Nat)(cap:List Nat)(wi:TI)(g:ja)(tt:TT)(te:TE):TE:=λY H Q=>wi Y H λcm H1=>∀D,H1 D=none->BP cm (hp n cap Y) g tt te D H1 Q
section
variable{X:aS}{scope esc:Scope}{EN N:List Str}{n:Nat}{cap:List Nat}{zn:c2}{Y:St}{s:ajZ}{elt b8 iter:Expr}{ifs:List Expr}{pos:Pos}{g:ja}{tt:TT}{te:TE}
def IH{E:cB}{H:ax}{cm:iu}{aK:List Addr}{it:Addr}{fK:Nat->Heap->Prop}{Q:cX}{xP:Value->Addr->Result->ajZ->Prop}(S:la esc scope EN N n cap)(he:X.env.scope=esc)(hN:X.N=EN)(aD:X.calm=true)
  (aV:∀C aK s H,pI (cx X scope N C aK s H) b8 g) (bM:∀C aK s H,sE (cx X scope N C aK s H) ifs tt) (h_:∀C aK s H,bQ (cx X scope N C aK s H) elt te)
  (I:Inv X zn Y H s) (T:Turn X.prog X.w X.K b8 cm aK it fK) (st:fK 0 s.heap) (hf:∀b∈aK,gw X zn H b) (a8:∀D,H D=none->BP cm (hp n cap Y) g tt te D H Q)
  (Wv:∀D C H' aP m,Inv X zn Y H' aP->gw X zn H' C->aP.heap.Ns C m->Q (.ref D) H'->xP (.ref D) C (.ok .next) aP) :
  wpAny (model X.prog X.w) X.A (newList []) (λacc k2=>wpAny (model X.prog X.w) X.A (newFunctionEnv scope X.env.globals (nh scope X.env) [] X.env.qual none .none (some X.env)) (λIy Al=>
   amI (model X.prog X.w) X.A (.compStart (.ListComp elt [⟨b8,iter,ifs,0⟩] scope pos) 0 (.ref it) acc { Iy with scope:=relabel scope X.env }) (xP acc Iy.locals) Al) E k2) E s:=by
 refine alR (wpAny_newFunctionEnv S.cell (by intro y ba;simp at ba) (λkR C1 C7=>?_) S.kind);have dF:=I.LA (t':=s.toks) (ys:=[]) (its:=[]) .nil (akm _);have kN:H s.heap.objs.size=none:=I.fresh;obtain⟨W,⟨m0,hB⟩,turn⟩:=a8 _ kN;generalize vI:({ s with heap:=s.heap.push { cls:=.type "list",data:=.seq ([]:List Value).toArray },toks:=s.toks }:ajZ)=s3 at dF;have zd:∀b o,s.heap.get? b=some o->s3.heap.get? b=some o:=λb o e=>by rw[<-vI];exact ajW _ e
 have ajo:({ s with heap:=s.heap.push { cls:=.type "list",data:=.seq ([]:List Value).toArray } }:ajZ)=s3:=vI;have d7:s.heap.push { cls:=.type "list",data:=.seq ([]:List Value).toArray }=s3.heap:=by rw[<-vI]
 dsimp only at C1 C7 ⊢
 try rw[d7]at C1
 try rw[d7]at C7
 have CU:∀b∈aK,gw X zn (upd H s.heap.objs.size (.l [])) b:=λb ab=>by
  refine⟨?_,(hf b ab).2⟩;obtain⟨o,e,_⟩:=T.obj _ _ st b ab;rw[dj (akj (ake e))];exact(hf b ab).1
 have KS:∀b o,s3.heap.get? b=some o->kR.get? b=some o:=λb o e=>C7.extBut b o (akj (ake e)) (ajW _ e)
 have bx:∀b∈aK,∃o,s3.heap.get? b=some o:=λb ab=>by
  obtain⟨o,e,_⟩:=T.obj _ _ st b ab;exact⟨o,zd b o e⟩
 have i_:=Y0 (tk:=s3.toks) S he hN dF CU bx C1 KS;have Aj:fK 0 kR:=T.keep _ _ _ st λb _ o e=>KS b o (zd b o e)
 have Wo:s3.heap.objs.size<=s3.heap.objs.size:=aj0 _;have loop:∀k2:ajZ,k2.heap=kR->Inv (cx X scope N s3.heap.objs.size aK s3 (upd H s.heap.objs.size (.l []))) [] (hp n cap Y) (upd H s.heap.objs.size (.l [])) k2->
   amI (model X.prog X.w) X.A (.compLoop (.ListComp elt [⟨b8,iter,ifs,0⟩] scope pos) 0 (.ref it) (.ref s.heap.objs.size) (compEnvC scope (nh scope X.env) s3.heap.objs.size X.env)) (xP (.ref s.heap.objs.size) s3.heap.objs.size) k2:=by
  intro k2 VH xG;have r8:∀{H':ax},(∀b∈aK,H' b=none)->∀b∈aK,gw (cx X scope N s3.heap.objs.size aK s3 (upd H s.heap.objs.size (.l []))) [] H' b:=λ{H'} aF b ab=>
   ⟨aF b ab,(xG.ok.yx b ab).1,xG.ok.u_ b ab,.inl ab,(xG.ok.yx b ab).2,λp aH=>absurd (show p∈([]:c2)from aH) (by simp)⟩
  refine TM (λk aP=>∃i ys H',Inv (cx X scope N s3.heap.objs.size aK s3 (upd H s.heap.objs.size (.l []))) [] (hp n cap Y) H' aP/\fK i aP.heap/\(∀b∈aK,H' b=none)/\W i k ys H') ?_ m0
   ⟨0,[],_,xG,by rw[VH];exact Aj,λb ab=>(CU b ab).1,hB⟩
  rintro k s5 ⟨i,ys,lj,sx,qA,yF,af5⟩;rcases turn i k ys lj af5 with⟨stop,q⟩|⟨go,step⟩
  .refine bV (T.done (cx X scope N s3.heap.objs.size aK s3 (upd H s.heap.objs.size (.l []))) rfl rfl rfl aD i [] s5 _ lj _ sx (r8 yF) qA stop) λr et ⟨aA,uD⟩=>?_
   subst aA;obtain⟨m,aF,_⟩:=uD.loc;exact Wv _ _ lj et m (YZ dF CU uD) (dF.pY Wo uD.free) aF q
  .refine bV (T.item (cx X scope N s3.heap.objs.size aK s3 (upd H s.heap.objs.size (.l []))) rfl rfl rfl aD i [] s5 _ lj (λ_ _=>False) sx (r8 yF) qA go) λr et ⟨u,aA,eA⟩=>?_
   subst aA;refine bV eA λ_ d1 ⟨x,jV,kz,EW,ag8,Fj,rf⟩=>?_
   have P9:=kz.pinned (r8 rf) (T.obj _ _ Fj);refine bV (aV _ _ _ _ _ d1 _ jV x u _ P9 EW (step x jV ag8)) λ_ hS ⟨AS,P2,P_,yz,acQ⟩=>?_
   refine bV (bM _ _ _ _ _ hS AS P2 _ P_ acQ) λb i2 ⟨Gd,Gf,MU⟩=>?_
   have back:∀{H':ax}{aP:ajZ},Inv (cx X scope N s3.heap.objs.size aK s3 (upd H s.heap.objs.size (.l []))) ([]++r1 aK d1.heap) AS H' aP->
     Inv (cx X scope N s3.heap.objs.size aK s3 (upd H s.heap.objs.size (.l []))) [] (hp n cap Y) H' aP/\fK (i+1) aP.heap/\∀b∈aK,H' b=none:=λ{H' aP} hZ=>by
    refine⟨hZ.xh.weak yz.1 yz.2,T.keep _ _ _ Fj λb ab o e=>(hZ.pin (b,o) (akP _ (akP _ (zO ab e)))).1,λb ab=>?_⟩;obtain⟨o,e,d⟩:=T.obj _ _ Fj b ab;exact(hZ.pin (b,o) (akP _ (akP _ (zO ab e)))).2.1
   cases b with
   |false=>
    obtain⟨eD,hm,eR⟩:=MU;obtain⟨b2,b3,gM⟩:=back Gf;exact⟨eD,hm,i+1,ys,Gd,b2,b3,gM,eR⟩
   |true=>
    refine bV (h_ _ _ _ _ _ i2 AS Gd _ Gf MU) λv nV ⟨y,Gb,P6,acZ,Wr,hz,eD,hm,eR⟩=>?_
    refine bV (wd _ nV AS Gb (.ref s.heap.objs.size) [y] (.ref s.heap.objs.size) [v] (λz H'=>z=.aI/\H'=upd Gb s.heap.objs.size (.l (ys++[y]))) P6 rfl (.cons acZ .nil) ⟨_,ys,y,rfl,rfl,Wr,hz,rfl,rfl⟩) λz mU ⟨ajS,ah3,P7,_,_,sV⟩=>?_
    subst sV;obtain⟨b2,b3,gM⟩:=back P7;exact⟨eD,hm,i+1,ys++[y],_,b2,b3,gM,eR⟩
 have Ge:Inv (cx X scope N s3.heap.objs.size aK s3 (upd H s.heap.objs.size (.l []))) [] (hp n cap Y) (upd H s.heap.objs.size (.l [])) { heap:=kR,gens:=s3.gens,drawn:=s3.drawn,toks:=s3.toks+([]:List (Str×Value)).length,os:=s3.os }:=i_;exact codeAny_compStart_list (loop _ rfl Ge) (T.self _ 0 _ _ _ Aj (loop _ rfl Ge))
theorem EG(S:la esc scope EN N n cap){wi:TI}(aB:kE X b8 iter wi)(aV:∀C aK s H,pI (cx X scope N C aK s H) b8 g)(bM:∀C aK s H,sE (cx X scope N C aK s H) ifs tt)(h_:∀C aK s H,bQ (cx X scope N C aK s H) elt te)
  (he:X.env.scope=esc:=by rfl) (hN:X.N=EN:=by rfl) (aD:X.calm=true:=by rfl) (aj:∀x,akN iter X.env x=pure x:=by intro _;rfl):bQ X (.ListComp elt [⟨b8,iter,ifs,0⟩] scope pos) (uf n cap wi g tt te):=by
 intro zn s Y H Q I h;rw[eval_ListComp];have CN:amu scope X.env=pure (nh scope X.env):=IC λy ba aw=>I.ok.has y.1 (by
  show X.env.scope.names.lookup y.1=_\/X.env.scope.names.lookup y.1=_;rw[he];exact S.free y ba aw)
 refine wpAny_comprehension_free (use:=none) rfl aj CN S.kind S.loc (bV (aB zn s Y H _ I h) λv s1 ae=>bV ae λzc s2 ah=>?_);obtain⟨it,aK,fK,cm,aM,e,bU,T,cV,f2,a8⟩:=ah;subst e;refine IH S he hN aD aV bM h_ bU T cV f2 a8 λD C H' aP m hZ kL aF q=>?_
 exact⟨m,aF,λh' gp=>⟨.ref D,H',hZ.turned (t':=aP.toks) (λb o ab e=>gp.extBut b o ab e) kL.1 kL.2.1 kL.2.2.2.1 kL.2.2.2.2.1 kL.2.2.2.2.2,rfl,q⟩⟩
theorem acG{i:Nat}{y:Str}{py mW:Pos}(S:la esc scope EN N n cap){wi:TI}(rj:X.N.Nodup)(lF:X.N[i]? = some y)(ba:X.env.scope.names.lookup y=some .local)(aB:kE X b8 iter wi)(aV:∀C aK s H,pI (cx X scope N C aK s H) b8 g)(bM:∀C aK s H,sE (cx X scope N C aK s H) ifs tt)(h_:∀C aK s H,bQ (cx X scope N C aK s H) elt te)
  (he:X.env.scope=esc:=by rfl) (hN:X.N=EN:=by rfl) (aD:X.calm=true:=by rfl) (aj:∀x,akN iter X.env x=pure x:=by intro _;rfl)
  (mC:alu (.ListComp elt [⟨b8,iter,ifs,0⟩] scope pos) (some (.Name y py)) mW.line X.env=pure true:=by rfl) :
  iM X (.Assign [.Name y py] (.ListComp elt [⟨b8,iter,ifs,0⟩] scope pos) mW) (ue (uf n cap wi g tt te) (lA i)):=by
 intro zn s Y H D I h;have CN:amu scope X.env=pure (nh scope X.env):=IC λy ba aw=>I.ok.has y.1 (by
  show X.env.scope.names.lookup y.1=_\/X.env.scope.names.lookup y.1=_;rw[he];exact S.free y ba aw)
 rw[exec_Assign_Name_used _ _ _ _ mC];refine ajV (an8 (ajV ?_));show wpAny _ X.A (do let _ <-comprehension (.ListComp elt [⟨b8,iter,ifs,0⟩] scope pos) scope X.env _ (newList []) false (eval iter X.env) (some (amr (.Name y py) X.env))) _ _ s;refine ajV (akH (wpAny_comprehension_free (use:=some (amr (.Name y py) X.env)) (Q:=λ_ aP=>sH X zn D .next aP) rfl aj CN S.kind S.loc
  (bV (aB zn s Y H _ I h) λv s1 ae=>bV ae λzc s2 ah=>?_)) (λ_ aP a8=>aj1 (aj1 a8)) λ_ _ e=>e)
 obtain⟨it,aK,fK,cm,aM,e,bU,T,cV,f2,a8⟩:=ah;subst e;refine IH S he hN aD aV bM h_ bU T cV f2 a8 λF_ C H' aP m hZ kL aF q=>?_
 show wpAny _ X.A (amr (.Name y py) X.env (.ref F_)) _ _ _;refine wpAny_assign_Name (OS (v:=.ref F_) hZ rj lF (.inl ba) rfl (λw1 P5 ch=>?_) (.inr ba));obtain⟨a,YC,ak⟩:=ch;have Wq:C≠a:=by
  rcases ak with z|z
  .rw[z];exact kL.2.1
  .exact λw=>kL.2.2.2.2.1 y a z w.symm
 refine⟨m,aF.sameBut YC Wq,λh' gp=>?_⟩;exact⟨_,H',P5.turned (t':=w1.toks) (λb o ab e=>gp.extBut b o ab e) kL.1 kL.2.1 kL.2.2.2.1 kL.2.2.2.2.1 kL.2.2.2.2.2,q⟩
end
def c3(p:V->V->ax->cX->Prop):ed:=λvs H Q _=>∃a b,vs=[a,b]/\p a b H Q
structure b6(P:akh)(w:World)(K:aT)(mg:bo)(base:Heap)(x:Str)(ps:List Str)(k:Nat)(sp:ed):Prop where
 ex:∃f fd,e9 P w K mg base eE k f fd ps sp/\Binds K fd ps []/\alW K (.ref f)=true/\mg x=some (.ref f)
structure cn(K:aT)(mg:bo)(x:Str)(st:Stmt)(ps:List Str):Prop where
 ex:∃f fd,lh K x x st f fd/\Binds K fd ps []/\mg x=some (.ref f)
section
variable{P:akh}{w:World}{K:aT}{mg:bo}{base:Heap}{x:Str}{ps:List Str}{k:Nat}{sp:ed}
def b6.mono(h:b6 P w K mg base x ps k sp)(aR:k<=j):b6 P w K mg base x ps j sp:=by
 obtain⟨f,fd,a,b⟩:=h.ex;exact⟨f,fd,a.mono aR,b⟩
end
section
variable{X:aS}{x:Str}{ps:List Str}{k:Nat}{sp:ed}{p pos:Pos}{e:Expr}{ay:List Expr}{t:gj}
def As(sp:ed)(t:gj):TE:=λY H Q=>t Y H λvs H1=>sp vs H1 Q i8
def EH(h:b6 X.prog X.w X.K X.mg X.base x ps k sp)(aA:cF k X.A)(aV:eF X x)(ak:fM X (e::ay) t)(eC:(x==("__debug__":Str))=false:=by decide)
  (he:ajY (e::ay) X.env=(false,eval e X.env)::ajY ay X.env:=by rfl) (eU:(akr pos (ajY ay X.env)).any (·.1)=false:=by rfl):bQ X (.Call (.Name x p) (e::ay) [] pos) (As sp t):=by
 obtain⟨f,fd,F,b,kp,m⟩:=h.ex;intro zn s Y H Q I a8;refine abW (dvs:=[]) (ds:=[]) F aA aV m kp b .nil t5 ak eC he eU zn s Y H Q I ?_;have nE:t Y H λvs H1=>sp vs H1 Q i8:=a8
 show t Y H λvs H1=>sp (vs++[]) H1 Q i8
 simpa only[ak6]using nE
def ab7(h:b6 X.prog X.w X.K X.mg X.base x ps k sp)(aA:cF k X.A)(aV:eF X x)(eC:(x==("__debug__":Str))=false:=by decide):bQ X (.Call (.Name x p) [] [] pos) (As sp xb):=by
 obtain⟨f,fd,F,b,kp,m⟩:=h.ex;intro zn s Y H Q I a8;exact abX (dvs:=[]) (ds:=[]) F aA aV m kp b .nil t5 eC zn s Y H Q I a8
end
structure uE(K:aT):Prop where
 ans:∀t∈["NoneType","bool","int","str","list","tuple"],∀c∈["int","bool","tuple","list","str"],W.kitOne K (.type t) (.type c)=some (t==c||(t == "bool"&&c == "int"))
inductive l8(K:aT)(H:ax):V->String->Prop where
 |aI:l8 K H .aI "NoneType"
 |az (x:Bool):l8 K H (.az x) "bool"
 |int (i:Int):l8 K H (.int i) "int"
 |str (x:Str):l8 K H (.str x) "str"
 |l {a:Addr}{xs:List V}(e:dk K H a xs):l8 K H (.ref a) "list"
 |t {a:Addr}{xs:List V}(e:dD K H a xs):l8 K H (.ref a) "tuple"
abbrev afX:List String:=["NoneType","bool","int","str","list","tuple"]
def l8.mem{K:aT}{H:ax}{x:V}{t:String}(h:l8 K H x t):t∈afX:=by
 cases h<;>decide
section
variable{X:aS}
def iW(t n:String):Bool:=t==n||(t == "bool"&&n == "int")
def MZ(K:aT):List V->ax->cX->Prop:=λxs H Q=>∃x n t,xs=[x,.ty n]/\l8 K H x t/\n∈["int","bool","tuple","list","str"]/\Q (.az (iW t n)) H
def Tj(kt:uE X.K):ir X (.builtin "isinstance") (MZ X.K):=by
 intro zn s Y H xs us Q I bP h;obtain⟨x,n,t,rfl,ty,aF,q⟩:=h;obtain⟨u,eR,rfl,bB,cq⟩:=vals2 bP;cases(show eR=am5 n from cq);have e:=kt.ans t ty.mem n aF;have fin:∀tk,gG X zn Y Q (.bool (iW t n)) { s with toks:=tk }:=λtk=>⟨.az _,H,I.tok tk,rfl,q⟩
 cases ty with
 |aI=>cases(show u=alf from bB);exact anT W.kitx_none I.e6 alp e (λz=>nomatch z) fin
 |az y=>cases(show u=amO y from bB);exact anT W.kitx_bool I.e6 alp e (λz=>nomatch z) fin
 |int i=>obtain⟨t,q⟩:=(show ∃t,u=anm i t from bB);cases q;exact anT W.kitx_int I.e6 alp e (λz=>nomatch z) fin
 |str y=>obtain⟨t,q⟩:=(show ∃t,u=anO y t from bB);cases q;exact anT W.kitx_str I.e6 alp e (λz=>nomatch z) fin
 |@l a xs gm=>
  cases(show u=aks a from bB);obtain⟨its,_,⟨o,dE,ae,ah,_⟩,_⟩:=I.list gm;exact anT W.kitx_list I.e6 ⟨o,ae,ah⟩ e (λz=>nomatch z) fin
 |@t a xs gm=>
  cases(show u=aks a from bB);obtain⟨its,_,⟨o,ae,ah,_⟩,_⟩:=I.tuple gm;exact anT W.kitx_tuple I.e6 ⟨o,ae,ah⟩ e (λz=>nomatch z) fin
def aaz:A3 X "int.bit_length" (λx xs H Q=>∃i,x=.int i/\xs=[]/\Q (.int (alh i:Nat)) H):=by
 intro zn s Y H x xs v us Q I a4 bP h;obtain⟨i,rfl,rfl,q⟩:=h;obtain⟨t,rfl⟩:=a4;cases bP;exact call_int_bit_length ⟨.int _,H,I.tok _,⟨_,rfl⟩,q⟩
end
mutual
def Rep(K:aT)(H:ax):PyData->V->Prop
 |.none,v=>v=.aI|.bool b,v=>v=.az b|.int i,v=>v=.int i|.str x,v=>v=.str x|.list ds,v=>∃a xs,v=.ref a/\dk K H a xs/\bc K H ds xs|.tuple ds,v=>∃a xs,v=.ref a/\dD K H a xs/\bc K H ds xs|.dict _,_=>False
def bc(K:aT)(H:ax):List PyData->List V->Prop
 |[],xs=>xs=[]|d::ds,xs=>∃x r,xs=x::r/\Rep K H d x/\bc K H ds r
end
def eG.w5[a5]{K:aT}{H H':ax}{a:Addr}{xs:List V}(e:eG H H')(h:dD K H a xs):dD K H' a xs:=by
 rcases h with(h|⟨o,h⟩)|h
 .exact .inl (.inl (e.at' _ _ h))
 .exact .inl (.inr ⟨o,e.at' _ _ h⟩)
 .exact .inr h
section
variable{X:aS}{zn:c2}{Y:St}{H:ax}{s:ajZ}
mutual
theorem Rep.reads(I:Inv X zn Y H s):∀{d:PyData}{v:V}{u:Value},Rep X.K H d v->RelV v u->∃as,Reads s.heap u d as
 |.none,_,_,h,r=>by cases h;cases r;exact⟨_,.none⟩
 |.bool _,_,_,h,r=>by cases h;cases r;exact⟨_,.bool _⟩
 |.int _,_,_,h,r=>by cases h;obtain⟨t,rfl⟩:=r;exact⟨_,.int _ _⟩
 |.str _,_,_,h,r=>by cases h;obtain⟨t,rfl⟩:=r;exact⟨_,.str _ _⟩
 |.list _,_,_,h,r=>by
  obtain⟨a,xs,rfl,l,q⟩:=h;cases r;obtain⟨its,bP,⟨o,n,e,c,_,d⟩,_⟩:=I.list l;obtain⟨as,z⟩:=bc.reads I q bP;exact⟨_,.list e c d (by simpa using z)⟩
 |.tuple _,_,_,h,r=>by
  obtain⟨a,xs,rfl,l,q⟩:=h;cases r;obtain⟨its,bP,⟨o,e,c,n,d⟩,_⟩:=I.tuple l;obtain⟨as,z⟩:=bc.reads I q bP;exact⟨_,.tuple e c d (by simpa using z)⟩
 |.dict _,_,_,h,_=>h.elim
theorem bc.reads(I:Inv X zn Y H s):∀{ds:List PyData}{xs:List V}{us:List Value},bc X.K H ds xs->Vals xs us->∃as,ReadsAll s.heap us ds as
 |[],_,_,h,r=>by cases h;cases r;exact⟨_,.nil⟩
 |_::_,_,_,h,r=>by
  obtain⟨x,t,rfl,a,b⟩:=h
  cases r with
  |cons bB cq=>
   obtain⟨as,e8⟩:=Rep.reads I a bB;obtain⟨bs,eb⟩:=bc.reads I b cq;exact⟨_,.cons e8 eb⟩
end
end
section
variable{X:aS}
def Ac(K:aT)(neg:Bool):fU:=λx y H Q=>∃d e,Rep K H d x/\Rep K H e y/\ao7 d=true/\ao7 e=true/\Q (.az (if neg then !aoV d e else aoV d e)) H
def Ex(cy:X.A.units+64<cLine):en X (akK .Eq) (Ac X.K false):=by
 intro zn s Y H x y v u Q I a4 bz h;obtain⟨d,e,a,b,pe,k1,q⟩:=h;obtain⟨as,bl⟩:=a.reads I a4;obtain⟨bs,mS⟩:=b.reads I bz;exact eq_dataH bl mS pe k1 cy ⟨.az _,H,I,rfl,q⟩
def wG(cy:X.A.units+64<cLine):en X (akK .NotEq) (Ac X.K true):=by
 intro zn s Y H x y v u Q I a4 bz h;obtain⟨d,e,a,b,pe,k1,q⟩:=h;obtain⟨as,bl⟩:=a.reads I a4;obtain⟨bs,mS⟩:=b.reads I bz;exact ne_dataH bl mS pe k1 cy ⟨.az _,H,I,rfl,q⟩
end
def Ik:akJ "len"=some (.builtin "len"):=by decide +kernel
def Ij:akJ "isinstance"=some (.builtin "isinstance"):=by decide +kernel
def Im:akJ "max"=some (.builtin "max"):=by decide +kernel
def S8:akJ "all"=some (.builtin "all"):=by decide +kernel
def Ii:akJ "int"=some (.type "int"):=by decide +kernel
def S9:akJ "bool"=some (.type "bool"):=by decide +kernel
def Il:akJ "list"=some (.type "list"):=by decide +kernel
def x':akJ "tuple"=some (.type "tuple"):=by decide +kernel
def Tb:akJ "str"=some (.type "str"):=by decide +kernel
variable[a5]
def xE(cm:iu)(H1:ax)(xs:List V):Prop:=∀H,eG H1 H->∀i,(i<xs.length->cm.go i H/\∀x H',cm.px i H x H'->H'=H/\xs[i]? = some x)/\(xs.length<=i->cm.stop i H)
def Dj{K:aT}{H:ax}{a:Addr}{xs:List V}(h:dk K H a xs):xE (l5 K a) H xs:=λH' s i=>
 ⟨λaB=>⟨⟨xs,xs[i],s.seq h,by simp[aB]⟩,λx Ga y=>⟨y.1,y.2 xs (s.seq h)⟩⟩,λaB=>⟨xs,s.seq h,aB⟩⟩
def KL{K:aT}{H:ax}{a:Addr}{xs:List V}(h:dD K H a xs):xE (sA K a) H xs:=λH' s i=>
 ⟨λaB=>⟨⟨xs,xs[i],s.w5 h,by simp[aB]⟩,λx Ga y=>⟨y.1,y.2 xs (s.w5 h)⟩⟩,λaB=>⟨xs,s.w5 h,aB⟩⟩
def qx(lo:Int)(n:Nat):List V:=(akG n).map λi=>V.int (lo+(i:Nat))
def KJ(lo:Int)(n:Nat):xE (sy lo n) H (qx lo n):=λH' s i=>by
 have ar:(qx lo n).length=n:=by unfold qx;rw[ajX,aod]
 refine⟨λaB=>⟨by rw[ar]at aB;exact aB,λx Ga y=>⟨y.1,?_⟩⟩,λaB=>by rw[ar]at aB;exact aB⟩;rw[ar]at aB;rw[y.2];unfold qx;rw[aku,List.getElem?_range aB];rfl
end aE
namespace aE
open PySem PySem.Spec PyProof.Rows
def cn.none{P:akh}{w:World}{K:aT}{mg:bo}{base:Heap}{x:Str}{st:Stmt}{ps:List Str}{k:Nat}{sp:ed}(D:cn K mg x st ps)(no:∀vs H Q E,¬sp vs H Q E):b6 P w K mg base x ps k sp:=by
 obtain⟨f,fd,F,b,m⟩:=D.ex;exact⟨f,fd,⟨λvs H Q E h=>absurd h (no vs H Q E),λA outer s H args us vs Q E _ _ _ _ h=>absurd h (no vs H Q E)⟩,b,F.kp,m⟩
def ZM(K:aT):uE K:=⟨by
 intro t bM c aD;simp only[aj5,List.mem_nil_iff,or_false]at bM aD;rcases bM with rfl|rfl|rfl|rfl|rfl|rfl<;>rcases aD with rfl|rfl|rfl|rfl|rfl<;>kernel_rfl⟩
def range_all(bs:List Bool):(akG bs.length).all (λi=>bs.getD i false)=bs.all id:=by
 rw[alo,ak9,ak9];constructor
 .intro h b ab
  obtain⟨i,aB,rfl⟩:=List.getElem_of_mem ab;have:=h i (ak4.mpr aB);rw[aky,akF aB]at this;exact this
 .intro h i aB
  have lF:=ak4.mp aB;rw[aky,akF lF];exact h _ (aov lF)
section
variable{X:aS}{K:aT}
def afL{bs:List Bool}{its:List Value}(bP:Vals (bs.map V.az) its):TruthOf prog w A (λi v=>its.toArray[i]? = some v) (λi=>bs.getD i false):=by
 intro i v s Q E bI a8;have mD:its[i]? = some v:=by simpa using bI
 have aB:i<bs.length:=by
  have ae:=(aj2.mp mD).1;have ah:=bP.length;rw[ajX]at ah;omega
 obtain⟨u,cy,d9⟩:=bP.get (i:=i) (x:=.az bs[i]) (by rw[aku,akF aB];rfl);rw[mD]at cy;cases cy;cases d9;have nE:Q (bs.getD i false) s:=a8;rw[aky,akF aB]at nE;exact alc nE
def Th(aD:X.calm=true):ir X (.builtin "all") (λxs H Q=>∃(l:Addr)(bs:List Bool),xs=[.ref l]/\dk X.K H l (bs.map V.az)/\Q (.az (bs.all id)) H):=by
 intro zn s Y H xs us Q I bP h;obtain⟨l,bs,rfl,cI,q⟩:=h;obtain⟨u,rfl,bB⟩:=vals1 bP;cases bB;obtain⟨its,qy,p,hz⟩:=I.list cI;have fs:l<s.heap.objs.size:=by obtain⟨o,n,e,_⟩:=p;exact ake e
 refine call_all_walk (alQ p.isList ?_);refine⟨s.heap.objs.size,_,_,_,_,_,λi=>bs.getD i false,rfl,aoW (A:=X.A.in1) (show X.A.in1.handled=none from I.ok.hd aD) s.heap.objs.size l (akj fs) its.toArray,⟨⟨_,akb _ rfl,rfl,rfl⟩,p.isList.at λo e=>ajW _ e⟩,afL qy,λh' tk k=>?_⟩;have aF:its.toArray.size=bs.length:=by
  have ah:=qy.length;rw[ajX]at ah;simp[ah]
 rw[aF,range_all];exact⟨.az _,H,I.kept (h':=h') (t':=tk) λb o e=>k b o (by intro z;rw[akg.mp z]at e;exact absurd (ake e) (akI _)) (ajW _ e),rfl,q⟩
end
section
variable{X:aS}
def MA{v:V}(aV:eF X x)(h:∃u,X.mg x=some u/\RelV v u)(hd:(x==("__debug__":Str))=false:=by decide):bQ X (.Name x pos) (pg v):=by
 obtain⟨u,hm,r⟩:=h;exact ab8 aV hm r hd
variable[a5]
end
end aE
set_option maxHeartbeats 1000000
namespace aZ
open PySem PySem.Spec aE
variable[aE.a5]
inductive D where
 |aI|az (b:Bool)|int (i:Int)|str (x:Str)|t (xs:List D)|l (xs:List D)|ref (n:Nat)|fn (f:Str)|ty (n:String)
inductive Slot where
 |e|v (d:D)|er (p:Bool) (xs:List D)|cu (xs:List D)
abbrev aQ:=List Slot
inductive gI where
 |l (xs:List D)|cH (aq:List (Key×D))|eI (aq:List (List Key×D))|bx (c:Str) (aY:List (Str×D))
abbrev cG:=List gI
inductive Out(α:Type) where
 |ok (a:α) (S:cG)|exc (c:Str) (S:cG)|bad
structure M(α:Type):Type where
 run:cG->Out α
 es:∀S a S',run S=.ok a S'->S'=S
def M.jZ{α β:Type}(m:M α)(f:α->M β):M β:=⟨λS=>match m.run S with
 |.ok a S'=>(f a).run S'|.exc c S'=>.exc c S'|.bad=>.bad,λS b S' h=>by
  cases e:m.run S with
  |ok a S1=>rw[e]at h;exact((f a).es _ _ _ h).trans (m.es _ _ _ e)|exc c S1=>rw[e]at h;cases h
  |bad=>rw[e]at h;cases h⟩
noncomputable instance:Monad M where
 pure a:=⟨λS=>.ok a S,λ_ _ _ h=>by cases h;rfl⟩
 bind:=M.jZ
omit [aE.a5]in
theorem M.ext{α:Type}{x y:M α}(h:∀S,x.run S=y.run S):x=y:=by
 cases x with|mk f p=>cases y with|mk g q=>obtain rfl:f=g:=funext h;rfl
omit [aE.a5]in
theorem M.S3{α β:Type}(m:M α)(f:α->M β):(m >>= f)=M.jZ m f:=rfl
instance:LawfulMonad M:=LawfulMonad.mk'
 (id_map:=λx=>M.ext λS=>by show(M.jZ x (λa=>pure (id a))).run S=x.run S;unfold M.jZ;dsimp only;cases x.run S<;>rfl)
 (pure_bind:=λx f=>rfl)
 (bind_assoc:=λx f g=>M.ext λS=>by show(M.jZ (M.jZ x f) g).run S=(M.jZ x (λa=>M.jZ (f a) g)).run S;unfold M.jZ;dsimp only;cases x.run S<;>rfl)
 (bind_pure_comp:=λf x=>rfl)
def bad{α:Type}:M α:=⟨λ_=>.bad,λ_ _ _ h=>by cases h⟩
omit [aE.a5]in
theorem M.inv{α β:Type}{m:M α}{f:α->M β}{S S':cG}{b:β}(h:(m >>= f).run S=.ok b S'):∃a S1,m.run S=.ok a S1/\(f a).run S1=.ok b S':=by
 rw[M.S3]at h;unfold M.jZ at h;dsimp only at h
 cases e:m.run S with
 |ok a S1=>rw[e]at h;exact⟨a,S1,rfl,h⟩|exc c S1=>rw[e]at h;cases h
 |bad=>rw[e]at h;cases h
def hI(p:Prop)[Decidable p]:M Unit:=if p then pure ()else bad
omit [aE.a5]in
theorem Iz{p:Prop}[Decidable p](h:p):hI p=pure ():=if_pos h
omit [aE.a5]in
theorem q2{p:Prop}[Decidable p](h:(hI p).run S=.ok u S'):p/\S=S':=by
 unfold hI at h
 by_cases aH:p
 .rw[if_pos aH]at h;cases h;exact⟨aH,rfl⟩
 .rw[if_neg aH]at h;cases h
inductive R where
 |v (d:D)|fr (xs:List D)|cu (xs:List D)|mv (xs:List D)
abbrev bg:=aQ->M R
inductive Own where
 |free|out|dx|loc (i:Nat)
 deriving DecidableEq
structure a0 where
 own:Addr->Own
 bK:List Addr
instance:CoeFun a0 (λ_=>Addr->Own):=⟨a0.own⟩
def A0(K:aT)(a:Addr)(xs:List V):Prop:=
 ∃(o:Obj)(its:Array Value)(n:Nat),K.lookup a=some o/\o.cls=.type "list"/\o.dict=none/\o.data=.seq its n/\its.size<=aj3/\Vals xs its.toList
def sC(_:aT)(O:a0)(H:ax)(a:Addr)(ys:List V):Prop:=H a=some (.l ys)/\O a=.free
mutual
def Rep(K:aT)(mg:bo)(O:a0)(H:ax):D->V->Prop
 |.aI,v=>v=.aI|.az b,v=>v=.az b|.int i,v=>v=.int i|.str x,v=>v=.str x|.t xs,v=>∃a ys,v=.ref a/\dD K H a ys/\bc K mg O H xs ys|.l xs,v=>∃a ys,v=.ref a/\sC K O H a ys/\bc K mg O H xs ys|.ref n,v=>∃a,v=.ref a/\O.bK[n]? = some a|.fn f,v=>∃a,v=.ref a/\mg f=some (.ref a)|.ty n,v=>v=.ty n
def bc(K:aT)(mg:bo)(O:a0)(H:ax):List D->List V->Prop
 |[],ys=>ys=[]|x::xs,ys=>∃y r,ys=y::r/\Rep K mg O H x y/\bc K mg O H xs r
end
structure Go(O ao:a0)(H H':ax):Prop where
 same:eG H H'
 own:∀b,H b≠none->ao b=O b
 bK:ao.bK=O.bK
def Go.refl(O:a0)(H:ax):Go O O H H:=⟨eG.refl _,λ_ _=>rfl,rfl⟩
def Go.trans{O aJ bq:a0}(a:Go O aJ H H1)(b:Go aJ bq H1 aM):Go O bq H aM:=
 ⟨a.same.trans b.same,λc h=>(b.own c (a.same.some h)).trans (a.own c h),b.bK.trans a.bK⟩
def fV.same(s:eG H H')(h:fV H a u)(n:o3 u:=by exact trivial):fV H' a u:=by
 rcases h with h|⟨o,h⟩
 .exact .inl (s.at' _ _ h n)
 .exact .inr ⟨o,s.at' _ _ h⟩
omit [aE.a5]in
theorem fV.some{H:ax}(h:fV H a u):H a≠none:=by
 rcases h with h|⟨o,h⟩<;>rw[h]<;>intro z<;>cases z
def sC.dI{O:a0}(h:sC K O H a ys):dk K H a ys:=dk.of h.1
def h1(K:aT)(O:a0)(H:ax)(a:Addr)(ys:List V):Prop:=(fV H a (.l ys)/\(O a=.free\/O a=.out))\/A0 K a ys
def h1.dI{O:a0}(h:h1 K O H a ys):dk K H a ys:=h.elim (λz=>.inl z.1) .inr
def h1.go{O ao:a0}(g:Go O ao H H')(h:h1 K O H a ys):h1 K ao H' a ys:=by
 rcases h with⟨l,f⟩|l
 .exact .inl ⟨fV.same g.same l,by rw[g.own a (fV.some l)];exact f⟩
 .exact .inr l
def sC.go{O ao:a0}(g:Go O ao H H')(h:sC K O H a ys):sC K ao H' a ys:=by
 exact⟨g.same.at' _ _ h.1,(g.own a (by rw[h.1];intro z;cases z)).trans h.2⟩
section
variable{K:aT}{mg:bo}{O ao:a0}{H H':ax}
mutual
theorem Rep.go(g:Go O ao H H'):∀{d:D}{v:V},Rep K mg O H d v->Rep K mg ao H' d v
 |.aI,_,h=>h|.az _,_,h=>h|.int _,_,h=>h|.str _,_,h=>h| .t _,_,h=>by obtain⟨a,ys,q,l,r⟩:=h;exact⟨a,ys,q,g.same.w5 l,bc.go g r⟩
 |.l _,_,h=>by obtain⟨a,ys,q,l,r⟩:=h;exact⟨a,ys,q,l.go g,bc.go g r⟩
 |.ref _,_,h=>by obtain⟨a,q,l⟩:=h;exact⟨a,q,by rw[g.bK];exact l⟩
 |.fn _,_,h=>h|.ty _,_,h=>h
theorem bc.go(g:Go O ao H H'):∀{ds:List D}{ys:List V},bc K mg O H ds ys->bc K mg ao H' ds ys
 |[],_,h=>h| _::_,_,h=>by obtain⟨x,r,q,a,b⟩:=h;exact⟨x,r,q,Rep.go g a,bc.go g b⟩
end
structure m_(O ao:a0):Prop where
 fr:∀a,O a=.free->ao a=.free
 bK:ao.bK=O.bK
mutual
theorem Rep.du(g:m_ O ao):∀{d:D}{v:V},Rep K mg O H d v->Rep K mg ao H d v
 |.aI,_,h=>h|.az _,_,h=>h|.int _,_,h=>h|.str _,_,h=>h| .t _,_,h=>by obtain⟨a,ys,q,l,r⟩:=h;exact⟨a,ys,q,l,bc.du g r⟩
 |.l _,_,h=>by obtain⟨a,ys,q,l,r⟩:=h;exact⟨a,ys,q,⟨l.1,g.fr _ l.2⟩,bc.du g r⟩
 |.ref _,_,h=>by obtain⟨a,q,l⟩:=h;exact⟨a,q,by rw[g.bK];exact l⟩
 |.fn _,_,h=>h|.ty _,_,h=>h
theorem bc.du(g:m_ O ao):∀{ds:List D}{ys:List V},bc K mg O H ds ys->bc K mg ao H ds ys
 |[],_,h=>h| _::_,_,h=>by obtain⟨x,r,q,a,b⟩:=h;exact⟨x,r,q,Rep.du g a,bc.du g b⟩
end
theorem bc.len:∀{ds:List D}{xs:List V},bc K mg O H ds xs->xs.length=ds.length
 |[],_,h=>by cases h;rfl
 |_::_,_,h=>by obtain⟨x,r,rfl,_,b⟩:=h;rw[akd,akd,bc.len b]
theorem bc.get:∀{ds:List D}{xs:List V}{i:Nat}{d:D},bc K mg O H ds xs->ds[i]? = some d->∃x,xs[i]? = some x/\Rep K mg O H d x
 |[],_,_,_,_,e=>by simp at e| _::_,_,0,d,h,e=>by obtain⟨x,r,rfl,a,_⟩:=h;cases(show some _=some d from e);exact⟨x,rfl,a⟩
 |_::ds,_,i+1,d,h,e=>by
  obtain⟨x,r,rfl,_,b⟩:=h;obtain⟨y,av,aC⟩:=bc.get (i:=i) b (by simpa using e);exact⟨y,by simpa using av,aC⟩
theorem bc.Jz:∀{ds:List D}{xs:List V}{i:Nat}{x:V},bc K mg O H ds xs->xs[i]? = some x->∃d,ds[i]? = some d/\Rep K mg O H d x
 |[],_,_,_,h,e=>by cases h;simp at e
 |_::_,_,0,x,h,e=>by obtain⟨y,r,rfl,a,_⟩:=h;cases(show some _=some x from e);exact⟨_,rfl,a⟩
 |_::ds,_,i+1,d,h,e=>by
  obtain⟨x,r,rfl,_,b⟩:=h;obtain⟨y,av,aC⟩:=bc.Jz (i:=i) b (by simpa using e);exact⟨y,by simpa using av,aC⟩
theorem bc.append:∀{ds ay:List D}{xs ys:List V},bc K mg O H ds xs->bc K mg O H ay ys->bc K mg O H (ds++ay) (xs++ys)
 |[],_,_,_,h,q=>by cases h;exact q
 |_::_,_,_,_,h,q=>by obtain⟨x,r,rfl,a,b⟩:=h;exact⟨x,_,rfl,a,bc.append b q⟩
def bc.one(h:Rep K mg O H d x):bc K mg O H [d] [x]:=⟨x,[],rfl,h,rfl⟩
theorem bc.take:∀{ds:List D}{xs:List V}(n:Nat),bc K mg O H ds xs->bc K mg O H (ds.take n) (xs.take n)
 |[],_,_,h=>by cases h;rw[ao0,ao0];rfl
 |_::_,_,0,_=>by rw[anJ,anJ];rfl| _::_,_,n+1,h=>by obtain⟨x,r,rfl,a,b⟩:=h;exact⟨x,_,rfl,a,bc.take n b⟩
theorem bc.drop:∀{ds:List D}{xs:List V}(n:Nat),bc K mg O H ds xs->bc K mg O H (ds.drop n) (xs.drop n)
 |[],_,_,h=>by cases h;rw[List.drop_nil,List.drop_nil];rfl
 |_::_,_,0,h=>h| _::_,_,n+1,h=>by obtain⟨x,r,rfl,a,b⟩:=h;exact bc.drop n b
def M9(ns:List Int):bc K mg O H (ns.map D.int) (ns.map V.int):=by
 induction ns with
 |nil=>rfl|cons n r a6=>exact⟨.int n,_,rfl,rfl,a6⟩
def d4{κ:Type}(K:aT)(mg:bo)(O:a0)(H:ax)(aq:List (κ×D))(dC:List (κ×V)):Prop:=aq.map (·.1)=dC.map (·.1)/\bc K mg O H (aq.map (·.2)) (dC.map (·.2))
def eN(K:aT)(mg:bo)(O:a0)(H:ax):R->V->Prop
 |.v d,v=>Rep K mg O H d v|.fr xs,v=>∃a ys,v=.ref a/\H a=some (.l ys)/\O a=.dx/\bc K mg O H xs ys|.cu xs,v=>∃a ys,v=.ref a/\h1 K O H a ys/\bc K mg O H xs ys|.mv xs,v=>∃a ys,v=.ref a/\H a=some (.l ys)/\bc K mg O H xs ys
def eN.go(g:Go O ao H H'):∀{r:R}{v:V},eN K mg O H r v->eN K mg ao H' r v
 |.v _,_,h=>Rep.go g h| .fr _,_,h=>by obtain⟨a,ys,q,l,o,r⟩:=h;exact⟨a,ys,q,g.same.at' _ _ l,(g.own a (by rw[l];intro z;cases z)).trans o,r.go g⟩
 |.cu _,_,h=>by obtain⟨a,ys,q,l,r⟩:=h;exact⟨a,ys,q,l.go g,r.go g⟩
 |.mv _,_,h=>by obtain⟨a,ys,q,l,r⟩:=h;exact⟨a,ys,q,g.same.at' _ _ l,r.go g⟩
theorem bc.imp{ao:a0}(f:∀d v,Rep K mg O H d v->Rep K mg ao H' d v):∀{ds:List D}{ys:List V},bc K mg O H ds ys->bc K mg ao H' ds ys
 |[],_,h=>h| _::_,_,h=>by obtain⟨x,r,q,a,b⟩:=h;exact⟨x,r,q,f _ _ a,bc.imp f b⟩
def PZ(K:aT)(mg:bo)(c:Str)(C:Addr):Prop:=mg c=some (.ref C)/\i7 K C
def jB(K:aT)(mg:bo)(O:a0)(H:ax)(w:Own):Slot->Option V->Prop
 |.e,_=>True|.v d,u=>∃v,u=some v/\Rep K mg O H d v|.er _ xs,u=>∃a ys,u=some (.ref a)/\O a=w/\H a=some (.l ys)/\bc K mg O H xs ys|.cu xs,u=>∃a ys,u=some (.ref a)/\h1 K O H a ys/\bc K mg O H xs ys
def jB.go(g:Go O ao H H'):∀{s:Slot}{u:Option V},jB K mg O H w s u->jB K mg ao H' w s u
 |.e,_,_=>trivial| .v _,_,h=>by obtain⟨v,q,r⟩:=h;exact⟨v,q,r.go g⟩
 |.er _ _,_,h=>by obtain⟨a,ys,q,o,l,r⟩:=h;exact⟨a,ys,q,(g.own a (by rw[l];intro z;cases z)).trans o,g.same.at' _ _ l,r.go g⟩
 |.cu _,_,h=>by
  obtain⟨a,ys,q,l,r⟩:=h;exact⟨a,ys,q,l.go g,r.go g⟩
end
def jA(O:a0):Prop:=O.bK.Nodup/\∀a∈O.bK,O a=.out
structure dc(O:a0)(H:ax):Prop where
 has:∀a,O a≠.free->H a≠none
 tabs:TabsOk H
 ct:jA O
def nf(K:aT)(mg:bo)(O:a0)(H:ax)(a:Addr):gI->Prop
 |.l xs=>∃ys,H a=some (.l ys)/\bc K mg O H xs ys|.cH aq=>∃dC,H a=some (.ff dC)/\d4 K mg O H aq dC|.eI aq=>∃dC,H a=some (.hq dC)/\d4 K mg O H aq dC|.bx c aY=>∃C b7 jJ,H a=some (.ins C b7 jJ)/\PZ K mg c C/\d4 K mg O H aY jJ
def gi(K:aT)(mg:bo)(O:a0)(H:ax)(S:cG):Prop:=∀(n:Nat)(o:gI),S[n]? = some o->∃a,O.bK[n]? = some a/\nf K mg O H a o
def nf.all{O ao:a0}{H H':ax}(f:∀d v,Rep K mg O H d v->Rep K mg ao H' d v)(g:∀u,H a=some u->o3 u->H' a=some u):∀{o:gI},nf K mg O H a o->nf K mg ao H' a o
 |.l _,h=>by obtain⟨ys,l,r⟩:=h;exact⟨ys,g _ l trivial,r.imp f⟩
 |.cH _,h=>by obtain⟨ys,l,e,r⟩:=h;exact⟨ys,g _ l trivial,e,r.imp f⟩
 |.eI _,h=>by obtain⟨ys,l,e,r⟩:=h;exact⟨ys,g _ l trivial,e,r.imp f⟩
 |.bx _ _,h=>by obtain⟨C,b7,jJ,l,c,e,r⟩:=h;exact⟨C,b7,jJ,g _ l trivial,c,e,r.imp f⟩
def gi.all{O ao:a0}{H H':ax}(s:gi K mg O H S)(f:∀d v,Rep K mg O H d v->Rep K mg ao H' d v)(e:ao.bK=O.bK)(g:∀a∈O.bK,∀u,H a=some u->o3 u->H' a=some u):gi K mg ao H' S:=λn o h=>by
 obtain⟨a,ae,ah⟩:=s n o h;exact⟨a,by rw[e];exact ae,ah.all f (g a (akL ae))⟩
def gi.go{O ao:a0}(s:gi K mg O H S)(g:Go O ao H H'):gi K mg ao H' S:=
 s.all (λ_ _ z=>Rep.go g z) g.bK λa _ u l n=>g.same.at' _ _ l n
def gi.nil{O:a0}:gi K mg O H []:=λn o h=>by cases n<;>cases h
structure cN(K:aT)(mg:bo)(O:a0)(Y:aQ)(S:cG)(au:St)(H:ax):Prop where
 cp:dc O H
 len:Y.length=au.length
 loc:∀i s,Y[i]? = some s->jB K mg O H (.loc i) s (au[i]?.join)
 gF:gi K mg O H S
def cN.go{O ao:a0}(h:cN K mg O Y S au H)(g:Go O ao H H')(d:dc ao H'):cN K mg ao Y S au H':=
 ⟨d,h.len,λi s e=>(h.loc i s e).go g,h.gF.go g⟩
def fL(O:a0)(a:Addr)(o:Own):a0:=⟨λb=>if b=a then o else O b,O.bK⟩
omit [aE.a5]in
theorem m1{O:a0}:fL O a o a=o:=if_pos rfl
omit [aE.a5]in
theorem pk{O:a0}(h:b≠a):fL O a o b=O b:=if_neg h
section
variable{K:aT}{mg:bo}{O:a0}{Y:aQ}{S:cG}{au:St}{H:ax}{p:Addr}{u:gH}{o:Own}
def Go.new(aH:H p=none):Go O (fL O p o) H (upd H p u):=
 ⟨r5 aH u,λb ab=>pk (by rintro rfl;exact ab aH),rfl⟩
def Go.fu(aH:H p=none):Go O O H (upd H p u):=⟨r5 aH u,λ_ _=>rfl,rfl⟩
def dc.new(d:dc O H)(aH:H p=none):dc (fL O p o) (upd H p u):=⟨λa ak=>by
 by_cases e:a=p
 .subst e;rw[dy];intro z;cases z
 .rw[dj e];rw[pk e]at ak;exact d.has a ak,d.tabs.new aH u,d.ct.1,λa h=>by rw[pk (by rintro rfl;exact d.has _ (by rw[d.ct.2 _ h];intro z;cases z) aH)];exact d.ct.2 a h⟩
def dc.same(d:dc O H)(s:eG H H'):dc O H':=⟨λa ak=>s.some (d.has a ak),s.bS d.tabs,d.ct⟩
def dc.free(d:dc O H)(aH:H p=none):O p=.free:=by
 cases e:O p with
 |free=>rfl| _=>exact absurd aH (d.has p (by rw[e];intro z;cases z))
def cN.new(h:cN K mg O Y S au H)(aH:H p=none):cN K mg (fL O p o) Y S au (upd H p u):=h.go (Go.new aH) (h.cp.new aH)
def cN.fu(h:cN K mg O Y S au H)(aH:H p=none):cN K mg O Y S au (upd H p u):=h.go (Go.fu aH) (h.cp.same (r5 aH u))
end
def jy(H:ax):R->V->Prop
 |.fr _,v=>∀a,v=.ref a->H a=none|_,_=>True
def jy.back(s:eG H H1):∀{r:R}{v:V},jy H1 r v->jy H r v
 |.v _,_,_=>trivial|.cu _,_,_=>trivial|.mv _,_,_=>trivial|.fr _,_,h=>λa e=>s.free (h a e)
def kC(H:ax):List R->List V->Prop
 |r::rs,v::vs=>jy H r v/\kC H rs vs|_,_=>True
theorem kC.back(s:eG H H1):∀{rs:List R}{vs:List V},kC H1 rs vs->kC H rs vs
 |[],_,_=>trivial|_::_,[],_=>trivial|_::_,_::_,h=>⟨h.1.back s,kC.back s h.2⟩
def xM(K:aT)(mg:bo)(O:a0)(Y:aQ)(S':cG)(au:St)(H:ax)(r:R)(Q:cX):Prop:=
 ∀ao v H',Go O ao H H'->cN K mg ao Y S' au H'->eN K mg ao H' r v->jy H r v->Q v H'
inductive pK{α:Type}(K:aT)(mg:bo)(m:aQ->M α)(au:St)(H:ax)(P:a0->aQ->cG->α->Prop):Prop
 |mk (O:a0) (Y:aQ) (S:cG) (x:α) (S':cG) (st:cN K mg O Y S au H) (h:(m Y).run S=.ok x S') (q:P O Y S' x):pK K mg m au H P
def fk(K:aT)(mg:bo)(m:bg):TE:=λau H Q=>pK K mg m au H λO Y S' r=>xM K mg O Y S' au H r Q
def k5(K:aT)(mg:bo)(m:aQ->M Bool):TT:=λau H Q=>pK K mg m au H λO Y S' b=>∀ao H',Go O ao H H'->cN K mg ao Y S' au H'->Q b H'
abbrev hC(X:aS)(e:Expr)(m:bg):Prop:=bQ X e (fk X.K X.mg m)
abbrev F9(X:aS)(e:Expr)(m:aQ->M Bool):Prop:=iO X e (k5 X.K X.mg m)
abbrev xB(X:aS)(e:Expr)(m:aQ->M Bool):Prop:=ll X e (k5 X.K X.mg m)
def gg(K:aT)(mg:bo)(O:a0)(H:ax):List R->List V->Prop
 |[],ys=>ys=[]|x::xs,ys=>∃y r,ys=y::r/\eN K mg O H x y/\gg K mg O H xs r
theorem gg.go{O ao:a0}(g:Go O ao H H'):∀{rs:List R}{ys:List V},gg K mg O H rs ys->gg K mg ao H' rs ys
 |[],_,h=>h| _::_,_,h=>by obtain⟨x,r,q,a,b⟩:=h;exact⟨x,r,q,a.go g,gg.go g b⟩
theorem gg.len{O:a0}:∀{rs:List R}{ys:List V},gg K mg O H rs ys->ys.length=rs.length
 |[],_,h=>by cases h;rfl
 |_::_,_,h=>by obtain⟨x,r,rfl,_,b⟩:=h;rw[akd,akd,gg.len b]
abbrev c8:=aQ->M (List R)
def nX(K:aT)(mg:bo)(m:c8):gj:=λau H Q=>pK K mg m au H λO Y S' rs=>∀ao vs H',Go O ao H H'->cN K mg ao Y S' au H'->gg K mg ao H' rs vs->kC H rs vs->Q vs H'
abbrev AU(X:aS)(ay:List Expr)(m:c8):Prop:=fM X ay (nX X.K X.mg m)
def eg{t t':TE}(h:bQ X e t)(i:∀Y H Q,t' Y H Q->t Y H Q):bQ X e t':=λzn s Y H Q I q=>h zn s Y H Q I (i _ _ _ q)
def r2{t t':TT}(h:iO X e t)(i:∀Y H Q,t' Y H Q->t Y H Q):iO X e t':=λzn s Y H Q I q=>h zn s Y H Q I (i _ _ _ q)
def ES{t t':TT}(h:ll X e t)(i:∀Y H Q,t' Y H Q->t Y H Q):ll X e t':=λsh zn s Y H Q I q=>h sh zn s Y H Q I (i _ _ _ q)
def z5{t t':gj}(h:fM X ay t)(i:∀Y H Q,t' Y H Q->t Y H Q):fM X ay t':=λpos zn s Y H Q I q=>h pos zn s Y H Q I (i _ _ _ q)
@[simp] def J(i:Nat)(Y:aQ):M R:=match Y[i]? with
 |some (.v d)=>pure (.v d)|some (.er _ xs)=>pure (.mv xs)|some (.cu xs)=>pure (.cu xs)|_=>bad
def aa(d:D):bg:=λ_=>pure (.v d)
section
variable{X:aS}{a b c e:Expr}{cR c6 hb m:bg}{bT:aQ->M Bool}
def u0{v:V}(h:bQ X e (pg v))(r:∀O H,Rep X.K X.mg O H d v):hC X e (aa d):=eg h λau H Q aW=>by
 obtain⟨O,Y,S,bJ,S',st,h,q⟩:=aW;cases h;exact q O v H (Go.refl _ _) st (r O H) trivial
@[simp] def af(f:R->R->M R)(a b:bg)(Y:aQ):M R:=do
 let x <-a Y
 let y <-b Y
 f x y
def ew(K:aT)(mg:bo)(r:fU)(f:R->R->M R):Prop:=
 ∀O Y S au H x y a4 bz bJ S' (Q:cX),cN K mg O Y S au H->eN K mg O H a4 x->eN K mg O H bz y->(f a4 bz).run S=.ok bJ S'->xM K mg O Y S' au H bJ Q->r x y H Q
def uT{r:fU}(hf:ew K mg r f):∀au H Q,fk K mg (af f cR c6) au H Q->xc r (fk K mg cR) (fk K mg c6) au H Q:=by
 rintro au H Q ⟨O,Y,S,bJ,S',st,h,q⟩;obtain⟨x,S1,ae,h⟩:=M.inv h;obtain⟨y,bh,ah,h⟩:=M.inv h;refine⟨O,Y,S,x,S1,st,ae,λaJ gf H1 g1 aU a4 bj=>?_⟩;refine⟨aJ,Y,S1,y,bh,aU,ah,λbq um aM g2 cV bz Ml=>?_⟩;exact hf bq Y bh au aM gf um x y bJ S' Q cV (a4.go g2) bz h λao v H' g cg bp nn=>q ao v H' ((g1.trans g2).trans g) cg bp (nn.back (g1.trans g2).same)
def R.lT:R->M Bool
 |.v (.az b)=>pure b|_=>bad
@[simp] def a3(m:bg)(Y:aQ):M Bool:=do
 let x <-m Y
 x.lT
omit [aE.a5]in
theorem uh{r:R}{b:Bool}{S S':cG}(h:r.lT.run S=.ok b S'):r=.v (.az b)/\S=S':=by
 cases r with
 |v d=>cases d<;>cases h<;>exact⟨rfl,rfl⟩
 |fr _=>cases h
 |cu _=>cases h
 |mv _=>cases h
def Fs:∀au H Q,k5 K mg (a3 m) au H Q->xe (fk K mg m) au H Q:=by
 rintro au H Q ⟨O,Y,S,t,S',st,h,q⟩;obtain⟨x,S1,ae,h⟩:=M.inv h;obtain⟨rfl,rfl⟩:=uh h;exact⟨O,Y,S,_,_,st,ae,λao v H' g cg bp _=>⟨t,bp,q ao H' g cg⟩⟩
def O2{t t':TE}(i:∀Y H Q,t' Y H Q->t Y H Q):∀Y H Q,xe t' Y H Q->xe t Y H Q:=λY H Q q=>i _ _ _ q
@[simp] def j0(f g:R->R->M R)(a b c:bg)(Y:aQ):M R:=do
 let x <-a Y
 let y <-b Y
 let z <-f x y
 let t <-z.lT
 if t=true then do
  let w <-c Y
  g y w
 else pure (.v (.az false))
def Td{r bJ:fU}(hf:ew K mg r f)(aV:ew K mg bJ g):∀au H Q,fk K mg (j0 f g cR c6 hb) au H Q->O0 r bJ (fk K mg cR) (fk K mg c6) (fk K mg hb) au H Q:=by
 rintro au H Q ⟨O,Y,S,bJ,S',st,h,q⟩;obtain⟨x,S1,ae,h⟩:=M.inv h;obtain⟨y,bh,ah,h⟩:=M.inv h;obtain⟨z,h4,bN,h⟩:=M.inv h;obtain⟨t,pL,dq,h⟩:=M.inv h;obtain⟨rfl,rfl⟩:=uh dq;refine⟨O,Y,S,x,S1,st,ae,λaJ gf H1 g1 aU a4 bj=>?_⟩;refine⟨aJ,Y,S1,y,bh,aU,ah,λbq um aM g2 cV bz Ml=>?_⟩;refine hf bq Y bh au aM gf um x y _ _ _ cV (a4.go g2) bz bN λeM ajM cT g3 gZ bp _=>⟨t,bp,?_⟩
 have Ct:=(g1.trans g2).trans g3
 cases t with
 |false=>
  rw[if_neg aj6]at h;cases h;exact oK (q eM _ cT Ct gZ rfl trivial)
 |true=>
  rw[if_pos rfl]at h;obtain⟨w,sG,ep,h⟩:=M.inv h;refine oL ⟨eM,Y,_,w,sG,gZ,ep,λQb cu hE nz Aj rw nw=>?_⟩;exact aV Qb Y sG au hE um cu y w _ S' Q Aj (bz.go (g3.trans nz)) rw h λao v H' g cg bp nn=>q ao v H' ((Ct.trans nz).trans g) cg bp (nn.back (Ct.trans nz).same)
@[simp] def j1(a b:bg)(Y:aQ):M R:=do
 let x <-a Y
 let t <-x.lT
 if t=true then b Y else pure (.v (.az false))
def uX(a b:bg):bg:=λY=>do
 let x <-a Y
 let t <-x.lT
 if t=true then pure (.v (.az true))else b Y
def yd(a:bg):bg:=λY=>do
 let x <-a Y
 let t <-x.lT
 pure (.v (.az (!t)))
def jr(a b:aQ->M Bool):aQ->M Bool:=λY=>do
 let t <-a Y
 if t=true then b Y else pure false
@[simp] def hh(a b:aQ->M Bool)(Y:aQ):M Bool:=do
 let t <-a Y
 if t=true then pure true else b Y
@[simp] def fw(a:aQ->M Bool)(Y:aQ):M Bool:=do
 let t <-a Y
 pure (!t)
def xB.b5(h:xB X a bT):F9 X a bT:=h.pt
end
def rV(g:Int->Int->Int):R->R->M R
 |.v (.int i),.v (.int j)=>pure (.v (.int (g i j)))|_,_=>bad
def o9(C:Int->Int->Prop)[∀i j,Decidable (C i j)](g:Int->Int->Int):R->R->M R
 |.v (.int i),.v (.int j)=>if C i j then pure (.v (.int (g i j)))else bad|_,_=>bad
def rU(g:Int->Int->Bool):R->R->M R
 |.v (.int i),.v (.int j)=>pure (.v (.az (g i j)))|_,_=>bad
section
variable{K:aT}{mg:bo}
def x_{g:Int->Int->Int}:ew K mg (hQ λi j=>.int (g i j)) (rV g):=λO Y S au H x y a4 bz bJ S' Q st ag ba h q=>by
 unfold rV at h;split at h
 .rename_i i j
  cases h;exact⟨i,j,ag,ba,q O _ H (Go.refl _ _) st rfl trivial⟩
 .cases h
def sP{C:Int->Int->Prop}{l2:Int->Int->Prop}[∀i j,Decidable (l2 i j)]{g:Int->Int->Int}(fF:∀i j,l2 i j->C i j):ew K mg (kg C λi j=>.int (g i j)) (o9 l2 g):=λO Y S au H x y a4 bz bJ S' Q st ag ba h q=>by
 unfold o9 at h;split at h
 .rename_i i j
  by_cases c:l2 i j
  .rw[if_pos c]at h
   cases h;exact⟨i,j,ag,ba,fF i j c,q O _ H (Go.refl _ _) st rfl trivial⟩
  .rw[if_neg c]at h;cases h
 .cases h
def x9{g:Int->Int->Bool}:ew K mg (hQ λi j=>.az (g i j)) (rU g):=λO Y S au H x y a4 bz bJ S' Q st ag ba h q=>by
 unfold rU at h;split at h
 .rename_i i j
  cases h;exact⟨i,j,ag,ba,q O _ H (Go.refl _ _) st rfl trivial⟩
 .cases h
end
abbrev hx:=rV (· + ·)
abbrev wz:=rV (· - ·)
abbrev oMod:=o9 (λ_ j=>0<j) (· % ·)
abbrev kZ:=o9 (λi j=>0<=j/\j<=1000000/\i.natAbs<2 ^ 64) (λi j=>i ^ j.toNat)
abbrev Ei:=o9 (λi j=>0<=j/\j<=1000000/\i.natAbs<2 ^ 64) (λi j=>i*2 ^ j.toNat)
abbrev Ej:=o9 (λ_ j=>0<=j) (λi j=>i / 2 ^ j.toNat)
abbrev Eh:=rV amH
abbrev tS:=rV ani
abbrev oLt:=rU λi j=>decide (i<j)
abbrev oLe:=rU λi j=>decide (i<=j)
abbrev kY:=rU λi j=>decide (j<i)
abbrev o8:=rU λi j=>decide (j<=i)
section
variable{X:aS}
def QG:ew X.K X.mg (hQ λi j=>.int (i+j)) hx:=x_
def QT:ew X.K X.mg (hQ λi j=>.int (i-j)) wz:=x_
def QO:ew X.K X.mg (kg (λ_ j=>0<j) λi j=>.int (i % j)) oMod:=sP λ_ _ h=>h
def QQ:ew X.K X.mg (kg xA λi j=>.int (i ^ j.toNat)) kZ:=sP λ_ _ h=>h
def QR:ew X.K X.mg (kg xA λi j=>.int (i*2 ^ j.toNat)) Ei:=sP λ_ _ h=>h
def QS:ew X.K X.mg (kg (λ_ j=>0<=j) λi j=>.int (i / 2 ^ j.toNat)) Ej:=sP λ_ _ h=>h
def QH:ew X.K X.mg (hQ λi j=>.int (amH i j)) Eh:=x_
def QI:ew X.K X.mg (hQ λi j=>.int (ani i j)) tS:=x_
def GF:ew X.K X.mg (hQ λi j=>.az (decide (i<j))) oLt:=x9
def Bi:ew X.K X.mg (hQ λi j=>.az (decide (i<=j))) oLe:=x9
def QN:ew X.K X.mg (hQ λi j=>.az (decide (j<i))) kY:=x9
def GA:ew X.K X.mg (hQ λi j=>.az (decide (j<=i))) o8:=x9
end
@[simp] def bL(f:R->M R)(a:bg)(Y:aQ):M R:=do
 let x <-a Y
 f x
def wy:R->M R
 |.v (.int i)=>pure (.v (.int (-i)))|_=>bad
def R.fi:R->Option (List D)
 |.v (.l xs)=>some xs|.fr xs=>some xs|.cu xs=>some xs|.mv xs=>some xs|_=>none
def R.Fv:R->Option (List D)
 |.v (.t xs)=>some xs|_=>none
def R.seq(r:R):Option (List D):=r.fi<|> r.Fv
def R.nI{K:aT}{mg:bo}{O:a0}{H:ax}{r:R}{v:V}{xs:List D}(h:eN K mg O H r v)(e:r.fi=some xs):∃a ys,v=.ref a/\dk K H a ys/\bc K mg O H xs ys:=by
 unfold R.fi at e;split at e
 .cases e;obtain⟨a,ys,q,l,r⟩:=h;exact⟨a,ys,q,l.dI,r⟩
 .cases e;obtain⟨a,ys,q,l,_,r⟩:=h;exact⟨a,ys,q,dk.of l,r⟩
 .cases e;obtain⟨a,ys,q,l,r⟩:=h;exact⟨a,ys,q,l.dI,r⟩
 .cases e;obtain⟨a,ys,q,l,r⟩:=h;exact⟨a,ys,q,dk.of l,r⟩
 .cases e
def R.afI{K:aT}{mg:bo}{O:a0}{H:ax}{r:R}{v:V}{xs:List D}(h:eN K mg O H r v)(e:r.Fv=some xs):∃a ys,v=.ref a/\dD K H a ys/\bc K mg O H xs ys:=by
 unfold R.Fv at e;split at e
 .cases e;exact h
 .cases e
def R.w6{K:aT}{mg:bo}{O:a0}{H:ax}{r:R}{v:V}{xs:List D}(h:eN K mg O H r v)(e:r.seq=some xs):∃a ys,v=.ref a/\(dk K H a ys\/dD K H a ys)/\bc K mg O H xs ys:=by
 unfold R.seq at e
 cases av:r.fi with
 |some zs=>rw[av]at e;cases e;obtain⟨a,ys,q,l,r⟩:=R.nI h av;exact⟨a,ys,q,.inl l,r⟩
 |none=>rw[av]at e;obtain⟨a,ys,q,l,r⟩:=R.afI h e;exact⟨a,ys,q,.inr l,r⟩
def bc.eo{O:a0}{i:Int}(h:bc K mg O H ds xs)(e:eo ds i=some d):∃x,aE.eo xs i=some x/\Rep K mg O H d x:=by
 unfold aE.eo at e ⊢;rw[h.len]
 cases q:oM ds.length i with
 |none=>rw[q]at e;cases e
 |some j=>rw[q]at e;exact h.get e
def aO:R->R->M R
 |.v (.str z),.v (.int i)=>match eo z.cps.toList i with
  |some c=>if z.length<=aj3 then pure (.v (.str ⟨#[c]⟩))else bad|none=>bad
 |x,.v (.int i)=>match x.seq with
  |some xs=>match eo xs i with
   |some d=>pure (.v d)|none=>bad
  |none=>bad
 |_,_=>bad
def h6:ew K mg (M1 K) aO:=fun O Y S au H x y a4 bz bJ S' Q st ag ba h q=>by
 unfold aO at h;split at h
 .rename_i z i
  split at h
  .rename_i c aC
   by_cases hz:z.length<=aj3
   .rw[if_pos hz]at h
    cases h;exact .inr (.inr ⟨z,i,c,ag,ba,hz,aC,q O _ H (Go.refl _ _) st rfl trivial⟩)
   .rw[if_neg hz]at h;cases h
  .cases h
 .rename_i i _
  split at h
  .rename_i xs e
   split at h
   .rename_i d aC
    cases h;obtain⟨a,ys,rfl,l,bl⟩:=R.w6 ag e;obtain⟨z,c4,jQ⟩:=bc.eo bl aC;have iS:=q O z H (Go.refl _ _) st jQ trivial;rcases l with l|l
    .exact .inl ⟨a,ys,i,z,rfl,ba,l,c4,iS⟩
    .exact .inr (.inl ⟨a,ys,i,z,rfl,ba,l,c4,iS⟩)
   .cases h
  .cases h
 .cases h
def ai:c8:=λ_=>pure []
@[simp] def U(m:bg)(ms:c8)(Y:aQ):M (List R):=do
 let x <-m Y
 let xs <-ms Y
 pure (x::xs)
def R.dat:R->M D
 |.v d=>pure d|.fr xs=>pure (.l xs)|_=>bad
def kJ:List R->M (List D)
 |[]=>pure []|r::rs=>do
  let d <-r.dat
  let ds <-kJ rs
  pure (d::ds)
def ck(H₀:ax)(O:a0):a0:=⟨λb=>match H₀ b,O b with
 |none,.dx=>.free| _,o=>o,O.bK⟩
def yG{H₀:ax}{O:a0}(h:H₀ b≠none):ck H₀ O b=O b:=by
 show(match H₀ b,O b with|none,.dx=>.free|_,o=>o)=O b
 cases e:H₀ b with
 |none=>exact absurd e h|some o=>cases O b<;>rfl
def yH{H₀:ax}{O:a0}(h:H₀ b=none)(t:O b=.dx):ck H₀ O b=.free:=by show(match H₀ b,O b with|none,.dx=>.free|_,o=>o)=Own.free;rw[h,t]
def rg{O:a0}(t:O b≠.dx):ck H₀ O b=O b:=by
 show(match H₀ b,O b with|none,.dx=>.free|_,o=>o)=O b;cases e:H₀ b<;>cases aC:O b<;>first|rfl|exact absurd aC t
def je(H₀:ax)(O:a0):m_ O (ck H₀ O):=⟨λa h=>by rw[rg (by rw[h];intro z;cases z),h],rfl⟩
def jB.du{O ao:a0}(g:m_ O ao)(a':∀a,O a=.out->ao a=.out)(hw:∀a,O a=w->ao a=w):∀{s:Slot}{u:Option V},jB K mg O H w s u->jB K mg ao H w s u
 |.e,_,_=>trivial| .v _,_,h=>by obtain⟨v,q,r⟩:=h;exact⟨v,q,r.du g⟩
 |.er _ _,_,h=>by obtain⟨a,ys,q,o,l,r⟩:=h;exact⟨a,ys,q,hw a o,l,r.du g⟩
 |.cu _,_,h=>by
  obtain⟨a,ys,q,l,r⟩:=h;refine⟨a,ys,q,l.imp (λz=>⟨z.1,z.2.imp (g.fr a) (a' a)⟩) id,r.du g⟩
section
variable{K:aT}{mg:bo}{O:a0}{Y:aQ}{S:cG}{au:St}{H H₀:ax}
def cN.ck(h:cN K mg O Y S au H)(H₀:ax):cN K mg (ck H₀ O) Y S au H:=
  ⟨⟨λa ak=>h.cp.has a λz=>ak (by rw[rg (by rw[z];intro w;cases w),z]),h.cp.tabs,h.cp.ct.1,λa m=>by rw[rg (by rw[h.cp.ct.2 a m];intro w;cases w)];exact h.cp.ct.2 a m⟩,h.len,
   λi s e=>(h.loc i s e).du (je _ _) (λa z=>by rw[rg (by rw[z];intro w;cases w),z]) (λa z=>by rw[rg (by rw[z];intro w;cases w),z]),h.gF.all (λ_ _ z=>Rep.du (je _ _) z) rfl λ_ _ _ l _=>l⟩
def Go.ck{pH:a0}(g:Go pH O H₀ H):Go pH (ck H₀ O) H₀ H:=⟨g.same,λb ab=>(yG ab).trans (g.own b ab),g.bK⟩
def pV{r:R}{v:V}(aA:eN K mg O H r v)(aF:jy H₀ r v)(h:r.dat.run S=.ok d S'):Rep K mg (aZ.ck H₀ O) H d v/\S=S':=by
 cases r with
 |v d'=>cases h;exact⟨Rep.du (je _ _) aA,rfl⟩
 |fr xs=>
  cases h;obtain⟨a,ys,rfl,l,t,bl⟩:=aA;exact⟨⟨a,ys,rfl,⟨l,yH (aF a rfl) t⟩,bc.du (je _ _) bl⟩,rfl⟩
 |cu xs=>cases h
 |mv xs=>cases h
theorem yn:∀{rs:List R}{vs:List V}{ds:List D}{S S':cG},gg K mg O H rs vs->kC H₀ rs vs->(kJ rs).run S=.ok ds S'->bc K mg (aZ.ck H₀ O) H ds vs/\S=S'
 |[],vs,ds,S,S',aA,_,h=>by cases h;exact⟨aA,rfl⟩
 |r::rs,vs,ds,S,S',aA,aF,h=>by
  obtain⟨d,S1,ae,h⟩:=M.inv h;obtain⟨nk,bh,ah,h⟩:=M.inv h;cases h;obtain⟨v,FH,rfl,bB,cq⟩:=aA;obtain⟨bk,rfl⟩:=pV (H₀:=H₀) bB aF.1 ae;obtain⟨b0,rfl⟩:=yn cq aF.2 ah;exact⟨⟨v,FH,rfl,bk,b0⟩,rfl⟩
end
@[simp] def bG(ms:c8)(Y:aQ):M R:=do
 let rs <-ms Y
 let ds <-kJ rs
 hI (ds.length<=1000)
 pure (.v (.t ds))
@[simp] def dh(ms:c8)(Y:aQ):M R:=do
 let rs <-ms Y
 let ds <-kJ rs
 hI (ds.length<=1000)
 pure (.fr ds)
@[simp] def b_(f:List R->M R)(ms:c8)(Y:aQ):M R:=do
 let rs <-ms Y
 f rs
def i5(K:aT)(mg:bo)(r:List V->ax->cX->Prop)(f:List R->M R):Prop:=
 ∀O Y S au H xs rs bJ S' (Q:cX),cN K mg O Y S au H->gg K mg O H rs xs->(f rs).run S=.ok bJ S'->xM K mg O Y S' au H bJ Q->r xs H Q
section
variable{ms:c8}{r:List V->ax->cX->Prop}{f:List R->M R}
def Io(hf:i5 K mg r f):∀au H Q,fk K mg (b_ f ms) au H Q->Fp r (nX K mg ms) au H Q:=by
 rintro au H Q ⟨O,Y,S,bJ,S',st,h,q⟩;obtain⟨rs,S1,ae,h⟩:=M.inv h;refine⟨O,Y,S,rs,S1,st,ae,λaJ vs H1 g1 aU bp nn=>?_⟩;exact hf aJ Y S1 au H1 vs rs bJ S' Q aU bp h λao v H' g cg ac9 aaR=>q ao v H' (g1.trans g) cg ac9 (aaR.back g1.same)
end
def fh:List R->M R
 |[x]=>match x.seq with
  |some xs=>pure (.v (.int (xs.length:Nat)))|none=>bad
 |_=>bad
def vd:List R->M R
 |[.v (.str z)]=>if z.length<=aj3 then pure (.v (.int (z.length:Nat)))else bad|_=>bad
def R.kind:R->Option String
 |.v .aI=>some "NoneType"|.v (.az _)=>some "bool"|.v (.int _)=>some "int"|.v (.str _)=>some "str"|.v (.t _)=>some "tuple"|.v (.l _)=>some "list"|.fr _=>some "list"|.cu _=>some "list"|.mv _=>some "list"|_=>none
def hJ:List R->M R
 |[x,.v (.ty n)]=>match x.kind with
  |some t=>if n∈["int","bool","tuple","list","str"]then pure (.v (.az (iW t n)))else bad|none=>bad
 |_=>bad
def sZ(g:Int->Int->Int):List R->M R
 |[.v (.int i),.v (.int j)]=>pure (.v (.int (g i j)))|_=>bad
abbrev Cg:=sZ λi j=>if j > i then j else i
abbrev Jd:=sZ λi j=>if j<i then j else i
def va:List R->M R
 |[.v (.int i)]=>pure (.v (.int (if i<0 then -i else i)))|_=>bad
def lx:List D->Option (List Bool)
 |[]=>some []|.az b::r=>(lx r).map (b::·)|_=>none
def VI:List R->M R
 |[x]=>match x.fi.bind lx with
  |some bs=>pure (.v (.az (bs.any id)))|none=>bad
 |_=>bad
def rb:List R->M R
 |[x]=>match x.fi.bind lx with
  |some bs=>pure (.v (.az (bs.all id)))|none=>bad
 |_=>bad
def vb:List R->M R
 |[.v (.int i)]=>pure (.v (.int i))|[.v (.az b)]=>pure (.v (.int (if b then 1 else 0)))|_=>bad
def ve:List R->M R
 |[x]=>match x.seq with
  |some xs=>pure (.fr xs)|none=>bad
 |_=>bad
def mi:List R->M R
 |[x]=>match x.seq with
  |some xs=>pure (.v (.t xs))|none=>bad
 |_=>bad
section
variable{K:aT}{mg:bo}
def kh{O:a0}{r:R}(h:gg K mg O H [r] vs):∃v,vs=[v]/\eN K mg O H r v:=by
 obtain⟨v,bJ,rfl,a,b⟩:=h;cases b;exact⟨v,rfl,a⟩
def E0{O:a0}{r s:R}(h:gg K mg O H [r,s] vs):∃v u,vs=[v,u]/\eN K mg O H r v/\eN K mg O H s u:=by
 obtain⟨v,bJ,rfl,a,b⟩:=h;obtain⟨u,ajI,rfl,c,d⟩:=b;cases d;exact⟨v,u,rfl,a,c⟩
def Zj:i5 K mg (λxs H Q=>∃p ys,xs=[.ref p]/\(dk K H p ys\/dD K H p ys)/\Q (.int ys.length) H) fh:=λO Y S au H vs rs bJ S' Q st aA h q=>by
 unfold fh at h;split at h
 .rename_i x
  obtain⟨v,rfl,ag⟩:=kh aA;split at h
  .rename_i xs e
   cases h;obtain⟨a,ys,rfl,l,bl⟩:=R.w6 ag e;exact⟨a,ys,rfl,l,by rw[bl.len];exact q O _ H (Go.refl _ _) st rfl trivial⟩
  .cases h
 .cases h
def Zk:i5 K mg (λxs H Q=>∃z,xs=[.str z]/\z.length<=aj3/\Q (.int z.length) H) vd:=λO Y S au H vs rs bJ S' Q st aA h q=>by
 unfold vd at h;split at h
 .rename_i z
  obtain⟨v,rfl,ag⟩:=kh aA;cases(show v=.str z from ag)
  by_cases hz:z.length<=aj3
  .rw[if_pos hz]at h
   cases h;exact⟨z,rfl,hz,q O _ H (Go.refl _ _) st rfl trivial⟩
  .rw[if_neg hz]at h;cases h
 .cases h
def R.K7{O:a0}{H:ax}{r:R}{v:V}{t:String}(h:eN K mg O H r v)(e:r.kind=some t):l8 K H v t:=by
 unfold R.kind at e;split at e
 .cases e;cases h;exact .aI
 .cases e;cases h;exact .az _
 .cases e;cases h;exact .int _
 .cases e;cases h;exact .str _
 .cases e;obtain⟨a,ys,rfl,l,_⟩:=h;exact .t l
 .cases e;obtain⟨a,ys,rfl,l,_⟩:=h;exact .l l.dI
 .cases e;obtain⟨a,ys,rfl,l,_⟩:=h;exact .l (dk.of l)
 .cases e;obtain⟨a,ys,rfl,l,_⟩:=h;exact .l l.dI
 .cases e;obtain⟨a,ys,rfl,l,_⟩:=h;exact .l (dk.of l)
 .cases e
def Zh:i5 K mg (MZ K) hJ:=fun O Y S au H vs rs bJ S' Q st aA h q=>by
 unfold hJ at h;split at h
 .rename_i x n
  obtain⟨v,u,rfl,ag,ba⟩:=E0 aA;cases(show u=.ty n from ba);split at h
  .rename_i t e
   by_cases aF:n∈["int","bool","tuple","list","str"]
   .rw[if_pos aF]at h
    cases h;exact⟨v,n,t,rfl,R.K7 ag e,aF,q O _ H (Go.refl _ _) st rfl trivial⟩
   .rw[if_neg aF]at h;cases h
  .cases h
 .cases h
def KR{g:Int->Int->Int}:i5 K mg (λxs H Q=>∃i j,xs=[.int i,.int j]/\Q (.int (g i j)) H) (sZ g):=λO Y S au H vs rs bJ S' Q st aA h q=>by
 unfold sZ at h;split at h
 .rename_i i j
  obtain⟨v,u,rfl,ag,ba⟩:=E0 aA;cases(show v=.int i from ag);cases(show u=.int j from ba);cases h;exact⟨i,j,rfl,q O _ H (Go.refl _ _) st rfl trivial⟩
 .cases h
def Ze:i5 K mg (λxs H Q=>∃i,xs=[.int i]/\Q (.int (if i<0 then -i else i)) H) va:=λO Y S au H vs rs bJ S' Q st aA h q=>by
 unfold va at h;split at h
 .rename_i i
  obtain⟨v,rfl,ag⟩:=kh aA;cases(show v=.int i from ag);cases h;exact⟨i,rfl,q O _ H (Go.refl _ _) st rfl trivial⟩
 .cases h
theorem Ie{O:a0}:∀{ds:List D}{ys:List V}{bs:List Bool},bc K mg O H ds ys->lx ds=some bs->ys=bs.map V.az
 |[],ys,bs,h,e=>by cases e;exact h
 |d::ds,ys,bs,h,e=>by
  cases d with
  |az b=>
   have e:(lx ds).map (b::·)=some bs:=e;obtain⟨cs,av,rfl⟩:=amC.mp e;obtain⟨y,r,rfl,ae,ah⟩:=h;rw[Ie ah av,show y=.az b from ae];rfl
  |_=>exact absurd (show(none:Option (List Bool))=some bs from e) (by intro z;cases z)
def Zf:i5 K mg (λxs H Q=>∃(l:Addr)(bs:List Bool),xs=[.ref l]/\dk K H l (bs.map V.az)/\Q (.az (bs.all id)) H) rb:=λO Y S au H vs rs bJ S' Q st aA h q=>by
 unfold rb at h;split at h
 .rename_i x
  obtain⟨v,rfl,ag⟩:=kh aA;split at h
  .rename_i xs e
   cases h;obtain⟨zs,av,aC⟩:=aoE.mp e;obtain⟨a,ys,rfl,l,bl⟩:=R.nI ag av;rw[Ie bl aC]at l;exact⟨a,xs,rfl,l,q O _ H (Go.refl _ _) st rfl trivial⟩
  .cases h
 .cases h
def Zg:i5 K mg (λxs H Q=>(∃i,xs=[.int i]/\Q (.int i) H)\/∃k,xs=[.az k]/\Q (.int (if k then 1 else 0)) H) vb:=λO Y S au H vs rs bJ S' Q st aA h q=>by
 unfold vb at h;split at h
 .rename_i i
  obtain⟨v,rfl,ag⟩:=kh aA;cases(show v=.int i from ag);cases h;exact .inl ⟨i,rfl,q O _ H (Go.refl _ _) st rfl trivial⟩
 .rename_i b
  obtain⟨v,rfl,ag⟩:=kh aA;cases(show v=.az b from ag);cases h;exact .inr ⟨b,rfl,q O _ H (Go.refl _ _) st rfl trivial⟩
 .cases h
def Zl:i5 K mg (λxs H Q=>∃p ys,xs=[.ref p]/\(dk K H p ys\/dD K H p ys)/\∀l,H l=none->Q (.ref l) (upd H l (.l ys))) ve:=λO Y S au H vs rs bJ S' Q st aA h q=>by
 unfold ve at h;split at h
 .rename_i x
  obtain⟨v,rfl,ag⟩:=kh aA;split at h
  .rename_i xs e
   cases h;obtain⟨a,ys,rfl,l,bl⟩:=R.w6 ag e;refine⟨a,ys,rfl,l,λp aH=>q (fL O p .dx) _ _ (Go.new aH) (st.new aH) ⟨p,ys,rfl,dy,m1,bl.go (Go.new aH)⟩ λb c5=>?_⟩;cases c5;exact aH
  .cases h
 .cases h
def Dp:i5 K mg (λxs H Q=>∃p ys,xs=[.ref p]/\((dk K H p ys/\∀l,H l=none->Q (.ref l) (upd H l (.t ys)))\/(dD K H p ys/\Q (.ref p) H))) mi:=λO Y S au H vs rs bJ S' Q st aA h q=>by
 unfold mi at h;split at h
 .rename_i x
  obtain⟨v,rfl,ag⟩:=kh aA;split at h
  .rename_i xs e
   cases h;obtain⟨a,ys,rfl,l,bl⟩:=R.w6 ag e;refine⟨a,ys,rfl,?_⟩;rcases l with l|l
   .exact .inl ⟨l,λp aH=>q O _ _ (Go.fu aH) (st.fu aH) ⟨p,ys,rfl,dD.of dy,bl.go (Go.fu aH)⟩ trivial⟩
   .exact .inr ⟨l,q O _ _ (Go.refl _ _) st ⟨a,ys,rfl,l,bl⟩ trivial⟩
  .cases h
 .cases h
end
def cutD{α:Type}(xs:List α)(lo aB:Option Int):List α:=(xs.drop (dZ.cU xs.length 0 lo)).take (dZ.cU xs.length xs.length aB-dZ.cU xs.length 0 lo)
def bc.cut{O:a0}(h:bc K mg O H ds xs)(lo aB:Option Int):bc K mg O H (cutD ds lo aB) (pU xs lo aB):=by
 unfold cutD pU;rw[h.len];exact(h.drop _).take _
abbrev pG:=aQ->M (Option Int)
def afF(K:aT)(mg:bo)(m:pG):dX:=λau H Q=>pK K mg m au H λO Y S' b=>∀ao H',Go O ao H H'->cN K mg ao Y S' au H'->Q b H'
abbrev PY(X:aS)(e:Option Expr)(m:pG):Prop:=uH X e (afF X.K X.mg m)
def BC:pG:=λ_=>pure none
@[simp] def sT(m:bg)(Y:aQ):M (Option Int):=do
 let r <-m Y
 match r with
 |.v (.int i)=>pure (some i)|_=>bad
def Mm(x:R)(lo aB:Option Int):M R:=
 match x with
 |.v (.t xs)=>if dZ.cU xs.length 0 lo=0/\dZ.cU xs.length xs.length aB=xs.length then bad else pure (.v (.t (cutD xs lo aB)))|_=>match x.fi with
  |some xs=>pure (.fr (cutD xs lo aB))|none=>bad
def yf(a:bg)(lo aB:pG):bg:=λY=>do
 let x <-a Y
 let l <-lo Y
 let h <-aB Y
 Mm x l h
def R.own:R->Option (List D)
 |.v (.l xs)=>some xs|.fr xs=>some xs|.mv xs=>some xs|_=>none
def ih(x y:R):M R:=match x.own,y.own with
 |some xs,some ys=>if xs.length+ys.length<=aj3 then pure (.fr (xs++ys))else bad|_,_=>bad
def tT:R->R->M R
 |.v (.str x),.v (.str y)=>if x.length+y.length<=aj3 then pure (.v (.str (x++y)))else bad|_,_=>bad
def R.EA{K:aT}{mg:bo}{O:a0}{H:ax}{r:R}{v:V}{xs:List D}(h:eN K mg O H r v)(e:r.own=some xs):∃a ys,v=.ref a/\H a=some (.l ys)/\bc K mg O H xs ys:=by
 unfold R.own at e;split at e
 .cases e;obtain⟨a,ys,q,l,r⟩:=h;exact⟨a,ys,q,l.1,r⟩
 .cases e;obtain⟨a,ys,q,l,_,r⟩:=h;exact⟨a,ys,q,l,r⟩
 .cases e;obtain⟨a,ys,q,l,r⟩:=h;exact⟨a,ys,q,l,r⟩
 .cases e
section
variable{K:aT}{mg:bo}
def QJ:ew K mg MW ih:=fun O Y S au H x y a4 bz bJ S' Q st ag ba h q=>by
 unfold ih at h
 cases av:a4.own with
 |none=>rw[av]at h;cases h
 |some xs=>
  cases aC:bz.own with
  |none=>rw[av,aC]at h;cases h
  |some ys=>
   rw[av,aC]at h;dsimp only at h
   by_cases ar:xs.length+ys.length<=aj3
   .rw[if_pos ar]at h
    cases h;obtain⟨a,us,rfl,cb,bB⟩:=R.EA ag av;obtain⟨b,ws,rfl,cz,cq⟩:=R.EA ba aC;refine⟨a,b,us,ws,rfl,rfl,cb,cz,by rw[bB.len,cq.len];exact ar,λp aH=>q (fL O p .dx) _ _ (Go.new aH) (st.new aH) ⟨p,_,rfl,dy,m1,(bB.append cq).go (Go.new aH)⟩ λb c5=>?_⟩;cases c5;exact aH
   .rw[if_neg ar]at h;cases h
def QK:ew K mg (λx y H Q=>∃i j,x=.str i/\y=.str j/\i.length+j.length<=aj3/\Q (.str (i++j)) H) tT:=λO Y S au H x y a4 bz bJ S' Q st ag ba h q=>by
 unfold tT at h;split at h
 .rename_i i j
  by_cases ar:i.length+j.length<=aj3
  .rw[if_pos ar]at h
   cases h;exact⟨i,j,ag,ba,ar,q O _ H (Go.refl _ _) st rfl trivial⟩
  .rw[if_neg ar]at h;cases h
 .cases h
end
def D.py:D->PyData
 |.aI=>.none|.az b=>.bool b|.int i=>.int i|.str x=>.str x|.t xs=>.tuple (lP xs)|.l xs=>.list (lP xs)|.ref _=>.none|.fn _=>.none|.ty _=>.none
where lP:List D->List PyData
 |[]=>[]
 |x::xs=>x.py::lP xs
mutual
def D.bS:D->Nat->Bool
 |.aI,_=>true|.az _,_=>true|.int _,_=>true|.str x,_=>akf x|.t xs,n=>match n with
  |0=>false|k+1=>iB xs k
 |.l xs,n=>match n with
  |0=>false|k+1=>iB xs k
 |.ref _,_=>false|.fn _,_=>false|.ty _,_=>false
def iB:List D->Nat->Bool
 |[],_=>true|x::xs,n=>x.bS n&&iB xs n
end
mutual
def jl:D->D->Bool
 |.aI,b=>match b with|.aI=>true|_=>false
 |.az a,b=>match b with|.az c=>a==c|.int j=>(if a then 1 else 0)==j|_=>false
 |.int i,b=>match b with|.az c=>i==(if c then 1 else 0)|.int j=>i==j|_=>false
 |.str x,b=>match b with|.str y=>x==y|_=>false
 |.t xs,b=>match b with|.t ys=>r0 xs ys|_=>false
 |.l xs,b=>match b with|.l ys=>r0 xs ys|_=>false
 |.ref _,_=>false|.fn _,_=>false|.ty _,_=>false
def r0:List D->List D->Bool
 |[],ys=>match ys with|[]=>true|_=>false
 |x::xs,ys=>match ys with|[]=>false|y::r=>jl x y&&r0 xs r
end
mutual
theorem B9:∀(a b:D)(n m:Nat),a.bS n=true->b.bS m=true->aoV a.py b.py=jl a b
 |.aI,b,n,m,ak,ab=>by cases b<;>first|rfl|(simp[D.bS]at ab)
 |.az _,b,n,m,ak,ab=>by cases b<;>first|rfl|(simp[D.bS]at ab)
 |.int _,b,n,m,ak,ab=>by cases b<;>first|rfl|(simp[D.bS]at ab)
 |.str _,b,n,m,ak,ab=>by cases b<;>first|rfl|(simp[D.bS]at ab)
 |.t xs,b,n,m,ak,ab=>by
  cases b with
  |t ys=>
   cases n with
   |zero=>simp[D.bS]at ak|succ k=>
    cases m with
    |zero=>simp[D.bS]at ab|succ j=>exact B_ xs ys k j ak ab
  |ref _=>simp[D.bS]at ab|fn _=>simp[D.bS]at ab|ty _=>simp[D.bS]at ab|_=>rfl
 |.l xs,b,n,m,ak,ab=>by
  cases b with
  |l ys=>
   cases n with
   |zero=>simp[D.bS]at ak|succ k=>
    cases m with
    |zero=>simp[D.bS]at ab|succ j=>exact B_ xs ys k j ak ab
  |ref _=>simp[D.bS]at ab|fn _=>simp[D.bS]at ab|ty _=>simp[D.bS]at ab|_=>rfl
 |.ref _,b,n,m,ak,ab=>by simp[D.bS]at ak| .fn _,b,n,m,ak,ab=>by simp[D.bS]at ak| .ty _,b,n,m,ak,ab=>by simp[D.bS]at ak
theorem B_:∀(xs ys:List D)(n m:Nat),iB xs n=true->iB ys m=true->PyData.eqvAll (D.py.lP xs) (D.py.lP ys)=r0 xs ys
 |[],ys,n,m,ak,ab=>by cases ys<;>rfl
 |x::xs,ys,n,m,ak,ab=>by
  cases ys with
  |nil=>rfl|cons y r=>
   rw[iB,akE]at ak ab;show(aoV x.py y.py&&PyData.eqvAll (D.py.lP xs) (D.py.lP r))=(jl x y&&r0 xs r);rw[B9 x y n m ak.1 ab.1,B_ xs r n m ak.2 ab.2]
end
mutual
theorem Jv:∀(a:D)(n:Nat),a.bS n=true->a.py.canLay0=true/\a.py.depth<=n
 |.aI,n,h=>⟨rfl,akm _⟩
 |.az _,n,h=>⟨rfl,akm _⟩
 |.int _,n,h=>⟨rfl,akm _⟩
 |.str _,n,h=>⟨h,akm _⟩
 |.t xs,n,h=>by
  cases n with
  |zero=>simp[D.bS]at h|succ k=>obtain⟨bk,b0⟩:=Cy xs k h;exact⟨bk,Nat.succ_le_succ b0⟩
 |.l xs,n,h=>by
  cases n with
  |zero=>simp[D.bS]at h|succ k=>obtain⟨bk,b0⟩:=Cy xs k h;exact⟨bk,Nat.succ_le_succ b0⟩
 |.ref _,n,h=>by simp[D.bS]at h| .fn _,n,h=>by simp[D.bS]at h| .ty _,n,h=>by simp[D.bS]at h
theorem Cy:∀(xs:List D)(n:Nat),iB xs n=true->PyData.canLayAll0 (D.py.lP xs)=true/\PyData.depthAll (D.py.lP xs)<=n
 |[],n,h=>⟨rfl,akm _⟩
 |x::xs,n,h=>by
  rw[iB,akE]at h;obtain⟨a1,a2⟩:=Jv x n h.1;obtain⟨b2,b3⟩:=Cy xs n h.2;exact⟨by show(x.py.canLay0&&PyData.canLayAll0 (D.py.lP xs))=true;rw[a1,b2];rfl,by show max x.py.depth (PyData.depthAll (D.py.lP xs))<=n;omega⟩
end
def yK{a:D}(h:a.bS 64=true):ao7 a.py=true:=by
 obtain⟨ae,ah⟩:=Jv a 64 h;show(a.py.canLay0&&decide (a.py.depth<=64))=true;rw[ae,decide_eq_true ah];rfl
mutual
theorem Rep.py{O:a0}:∀{d:D}{v:V}{n:Nat},d.bS n=true->Rep K mg O H d v->aE.Rep K H d.py v
 |.aI,_,_,_,h=>h|.az _,_,_,_,h=>h|.int _,_,_,_,h=>h|.str _,_,_,_,h=>h|.t _,_,n,g,h=>by
  cases n with
  |zero=>simp[D.bS]at g|succ k=>obtain⟨a,ys,q,l,r⟩:=h;exact⟨a,ys,q,l,bc.py (n:=k) g r⟩
 |.l _,_,n,g,h=>by
  cases n with
  |zero=>simp[D.bS]at g|succ k=>obtain⟨a,ys,q,l,r⟩:=h;exact⟨a,ys,q,l.dI,bc.py (n:=k) g r⟩
 |.ref _,_,_,g,h=>by simp[D.bS]at g| .fn _,_,_,g,h=>by simp[D.bS]at g| .ty _,_,_,g,h=>by simp[D.bS]at g
theorem bc.py{O:a0}:∀{ds:List D}{ys:List V}{n:Nat},iB ds n=true->bc K mg O H ds ys->aE.bc K H (D.py.lP ds) ys
 |[],_,_,_,h=>h|_::_,_,n,g,h=>by
  rw[iB,akE]at g;obtain⟨x,r,q,a,b⟩:=h;exact⟨x,r,q,Rep.py g.1 a,bc.py g.2 b⟩
end
def R.arg:R->D
 |.v d=>d|.fr xs=>.l xs|.cu xs=>.l xs|.mv xs=>.l xs
def R.xV{K:aT}{mg:bo}{O:a0}{H:ax}{r:R}{v:V}{n:Nat}(g:r.arg.bS n=true)(h:eN K mg O H r v):aE.Rep K H r.arg.py v:=by
 have fi:∀xs,r.fi=some xs->(D.l xs).bS n=true->aE.Rep K H (D.l xs).py v:=λxs e g=>by
  obtain⟨a,ys,q,l,bl⟩:=R.nI h e
  cases n with
  |zero=>simp[D.bS]at g|succ k=>exact⟨a,ys,q,l,bc.py (n:=k) g bl⟩
 cases r with
 |v d=>exact Rep.py g h|fr xs=>exact fi xs rfl g|cu xs=>exact fi xs rfl g|mv xs=>exact fi xs rfl g
def oEq(x y:R):M R:=if x.arg.bS 64=true/\y.arg.bS 64=true then pure (.v (.az (jl x.arg y.arg)))else bad
def d8(x y:R):M R:=if x.arg.bS 64=true/\y.arg.bS 64=true then pure (.v (.az (!jl x.arg y.arg)))else bad
section
variable{K:aT}{mg:bo}
def Bh:ew K mg (Ac K false) oEq:=λO Y S au H x y a4 bz bJ S' Q st ag ba h q=>by
 unfold oEq at h
 by_cases c:a4.arg.bS 64=true/\bz.arg.bS 64=true
 .rw[if_pos c]at h
  cases h;refine⟨_,_,R.xV c.1 ag,R.xV c.2 ba,yK c.1,yK c.2,?_⟩;rw[if_neg aj6,B9 _ _ _ _ c.1 c.2];exact q O _ H (Go.refl _ _) st rfl trivial
 .rw[if_neg c]at h;cases h
def uP:ew K mg (Ac K true) d8:=λO Y S au H x y a4 bz bJ S' Q st ag ba h q=>by
 unfold d8 at h
 by_cases c:a4.arg.bS 64=true/\bz.arg.bS 64=true
 .rw[if_pos c]at h
  cases h;refine⟨_,_,R.xV c.1 ag,R.xV c.2 ba,yK c.1,yK c.2,?_⟩;rw[if_pos rfl,B9 _ _ _ _ c.1 c.2];exact q O _ H (Go.refl _ _) st rfl trivial
 .rw[if_neg c]at h;cases h
end
def R.qa:R->Bool
 |.v .aI=>true|_=>false
def kf(x:R):R->M R
 |.v .aI=>pure (.v (.az x.qa))|_=>bad
def lM(x:R):R->M R
 |.v .aI=>pure (.v (.az (!x.qa)))|_=>bad
section
variable{K:aT}{mg:bo}
def KG{O:a0}{r:R}{v:V}(h:eN K mg O H r v):decide (v=.aI)=r.qa:=by
 have no:∀{a:Addr},v=.ref a->decide (v=.aI)=false:=λ{a} e=>by rw[e];exact decide_eq_false (by intro z;cases z)
 cases r with
 |v d=>
  cases d with
  |aI=>exact decide_eq_true h|az _=>rw[show v=_ from h];rfl|int _=>rw[show v=_ from h];rfl|str _=>rw[show v=_ from h];rfl|ty _=>rw[show v=_ from h];rfl|t _=>obtain⟨a,_,e,_⟩:=h;exact no e
  |l _=>obtain⟨a,_,e,_⟩:=h;exact no e
  |ref _=>obtain⟨a,e,_⟩:=h;exact no e
  |fn _=>obtain⟨a,e,_⟩:=h;exact no e
 |fr _=>obtain⟨a,_,e,_⟩:=h;exact no e
 |cu _=>obtain⟨a,_,e,_⟩:=h;exact no e
 |mv _=>obtain⟨a,_,e,_⟩:=h;exact no e
def GD:ew K mg (λx y H Q=>y=.aI/\Q (.az (decide (x=.aI))) H) kf:=λO Y S au H x y a4 bz bJ S' Q st ag ba h q=>by
 unfold kf at h;split at h
 .cases h;exact⟨ba,by rw[KG ag];exact q O _ H (Go.refl _ _) st rfl trivial⟩
 .cases h
def GG:ew K mg (λx y H Q=>y=.aI/\Q (.az (!decide (x=.aI))) H) lM:=λO Y S au H x y a4 bz bJ S' Q st ag ba h q=>by
 unfold lM at h;split at h
 .cases h;exact⟨ba,by rw[KG ag];exact q O _ H (Go.refl _ _) st rfl trivial⟩
 .cases h
end
def D.flat:D->Bool
 |.aI=>true|.az _=>true|.int _=>true|.str _=>true|_=>false
def inD(x:D)(xs:List D):Bool:=xs.any λy=>jl y x
def ke(neg:Bool)(x y:R):M R:=match x,y.seq with
 |.v d,some xs=>if d.flat=true/\xs.all D.flat=true then pure (.v (.az (if neg then !inD d xs else inD d xs)))else bad|_,_=>bad
section
variable{K:aT}{mg:bo}
def Jh{O:a0}{d:D}{v:V}(h:Rep K mg O H d v)(f:d.flat=true):nv v=true:=by
 cases d with
 |aI=>rw[show v=_ from h];rfl|az _=>rw[show v=_ from h];rfl|int _=>rw[show v=_ from h];rfl|str _=>rw[show v=_ from h];rfl|_=>exact absurd (show false=true from f) aj6
def VC{O:a0}{d e:D}{v u:V}(h:Rep K mg O H d v)(h':Rep K mg O H e u)(f:d.flat=true)(ra:e.flat=true):nr v u=jl d e:=by
 cases d with
 |aI=>
  rw[show v=_ from h]
  cases e with
  |aI=>rw[show u=_ from h'];rfl|az _=>rw[show u=_ from h'];rfl|int _=>rw[show u=_ from h'];rfl|str _=>rw[show u=_ from h'];rfl|_=>exact absurd (show false=true from ra) aj6
 |az _=>
  rw[show v=_ from h]
  cases e with
  |aI=>rw[show u=_ from h'];rfl|az _=>rw[show u=_ from h'];rfl|int _=>rw[show u=_ from h'];rfl|str _=>rw[show u=_ from h'];rfl|_=>exact absurd (show false=true from ra) aj6
 |int _=>
  rw[show v=_ from h]
  cases e with
  |aI=>rw[show u=_ from h'];rfl|az _=>rw[show u=_ from h'];rfl|int _=>rw[show u=_ from h'];rfl|str _=>rw[show u=_ from h'];rfl|_=>exact absurd (show false=true from ra) aj6
 |str _=>
  rw[show v=_ from h]
  cases e with
  |aI=>rw[show u=_ from h'];rfl|az _=>rw[show u=_ from h'];rfl|int _=>rw[show u=_ from h'];rfl|str _=>rw[show u=_ from h'];rfl|_=>exact absurd (show false=true from ra) aj6
 |_=>exact absurd (show false=true from f) aj6
theorem Kx{O:a0}{d:D}{v:V}(h:Rep K mg O H d v)(f:d.flat=true):∀{ds:List D}{ys:List V},bc K mg O H ds ys->ds.all D.flat=true->ys.all nv=true/\Df v ys=inD d ds
 |[],ys,r,_=>by cases r;exact⟨rfl,rfl⟩
 |e::ds,ys,r,g=>by
  obtain⟨y,t,rfl,bB,cq⟩:=r;rw[amQ,akE]at g;obtain⟨bk,b0⟩:=Kx h f cq g.2;refine⟨by rw[amQ,Jh bB g.1,bk];rfl,?_⟩;show(y::t).any (λz=>nr z v)=(e::ds).any λz=>jl z d
  rw[alK,alK,VC bB h g.1 f];exact congrArg _ b0
def GB(neg:Bool):ew K mg (MY K neg) (ke neg):=λO Y S au H x y a4 bz bJ S' Q st ag ba h q=>by
 unfold ke at h;split at h
 .rename_i d xs e
  by_cases c:d.flat=true/\xs.all D.flat=true
  .rw[if_pos c]at h
   cases h;obtain⟨a,ys,rfl,l,bl⟩:=R.w6 ba e;obtain⟨f1,f2⟩:=Kx ag c.1 bl c.2;exact⟨a,ys,rfl,l,Jh ag c.1,f1,by rw[f2];exact q O _ H (Go.refl _ _) st rfl trivial⟩
  .rw[if_neg c]at h;cases h
 .cases h
end
inductive gv where
 |bj (Y:aQ)|cJ (r:R)|c_ (Y:aQ)|b5 (Y:aQ)
abbrev aX:=aQ->M gv
def Fix(o:gH):Prop:=(∃xs,o=.t xs)\/∃bx u,o=.ck bx u
structure ei(O ao:a0)(H H':ax):Prop where
 cells:∀b o,H b=some o->(O b=.free\/O b=.out\/Fix o)->(h:o3 o:=by exact trivial)->H' b=some o
 own:∀b,H b≠none->(O b=.free\/O b=.out)->ao b=O b
 has:∀b,H b≠none->H' b≠none
 cK:∀b ps,H b=some (.gd ps)->∃iH,H' b=some (.gd iH)
 bS:TabsOk H->TabsOk H'
 bK:ao.bK=O.bK
def Go.aL{O ao:a0}(g:Go O ao H H'):ei O ao H H':=⟨λb o e _ n=>g.same.at' b o e n,λb h _=>g.own b h,λ_ h=>g.same.some h,g.same.cK,g.same.bS,g.bK⟩
def ei.refl(O:a0)(H:ax):ei O O H H:=(Go.refl O H).aL
def ei.trans{O aJ bq:a0}(a:ei O aJ H H1)(b:ei aJ bq H1 aM):ei O bq H aM:=by
 have OK:∀{b:Addr}{o:gH},H b=some o->H b≠none:=λe z=>by rw[e]at z;cases z
 refine⟨λc o e h n=>?_,λc h f=>?_,λc h=>b.has c (a.has c h),λc ps h=>let⟨p1,av⟩:=a.cK c ps h;b.cK c p1 av,λg=>b.bS (a.bS g),b.bK.trans a.bK⟩
 .have av:=a.cells c o e h n
  rcases h with h|h|h
  .exact b.cells c o av (.inl ((a.own c (OK e) (.inl h)).trans h)) n
  .exact b.cells c o av (.inr (.inl ((a.own c (OK e) (.inr h)).trans h))) n
  .exact b.cells c o av (.inr (.inr h)) n
 .have av:=a.own c h f
  rw[b.own c (a.has c h) (by rw[av];exact f),av]
def eW(Y Y':aQ)(au dg:St):Prop:=(∀(i:Nat)(xs:List D),Y'[i]? = some (Slot.cu xs)->Y[i]? = some (Slot.cu xs)/\dg[i]? = au[i]?)/\
 (∀(i:Nat)(ys:List D),Y'[i]? = some (Slot.er true ys)->(∃xs,Y[i]? = some (Slot.er true xs))/\dg[i]? = au[i]?)
def eW.refl(Y:aQ)(au:St):eW Y Y au au:=⟨λ_ _ h=>⟨h,rfl⟩,λ_ _ h=>⟨⟨_,h⟩,rfl⟩⟩
def eW.trans{v v1 v2:St}(a:eW Y hX v v1)(b:eW hX dQ v1 v2):eW Y dQ v v2:=⟨λi xs h=>⟨(a.1 i xs (b.1 i xs h).1).1,(b.1 i xs h).2.trans (a.1 i xs (b.1 i xs h).1).2⟩,λi ys h=>by
 obtain⟨⟨xs,e⟩,q⟩:=b.2 i ys h;obtain⟨z,hy⟩:=a.2 i xs e;exact⟨z,q.trans hy⟩⟩
def eW.put{Y:aQ}(h0:Y[i]? = some s0)(bI:∀xs,s≠.cu xs)(a':∀xs,s=.er true xs->∃ys,s0=.er true ys):eW Y (Y.set i s) au au:=by
 have fs:i<Y.length:=(aj2.mp h0).1;have key:∀(j:Nat)(t:Slot),(Y.set i s)[j]? = some t->(i=j/\t=s)\/(i≠j/\Y[j]? = some t):=λj t h=>by
  by_cases aR:i=j
  .subst aR
   rw[akX fs]at h;exact .inl ⟨rfl,(akv h).symm⟩
  .rw[akn aR]at h
   exact .inr ⟨aR,h⟩
 refine⟨λj xs h=>?_,λj ys h=>?_⟩
 .rcases key j _ h with⟨_,e⟩|⟨_,e⟩
  .exact absurd e.symm (bI xs)
  .exact⟨e,rfl⟩
 .rcases key j _ h with⟨rfl,e⟩|⟨_,e⟩
  .obtain⟨zs,cA⟩:=a' ys e.symm
   exact⟨⟨zs,cA▸h0⟩,rfl⟩
  .exact⟨⟨_,e⟩,rfl⟩
def A5(K:aT)(mg:bo)(O:a0)(H:ax):R->V->Prop
 |.v d,v=>Rep K mg O H d v|.fr xs,v=>∃a ys,v=.ref a/\H a=some (.l ys)/\(O a=.dx\/∃i,O a=.loc i)/\bc K mg O H xs ys|_,_=>False
def n9(K:aT)(mg:bo)(O:a0)(Y:aQ)(S':cG)(au:St)(H:ax)(Y':aQ)(N:St->ax->Prop):Prop:=
 ∀ao dg H',ei O ao H H'->cN K mg ao Y' S' dg H'->eW Y Y' au dg->N dg H'
def xN(K:aT)(mg:bo)(O:a0)(Y:aQ)(S':cG)(au:St)(H:ax)(a7:gv)(hD:Ends):Prop:=match a7 with
 |.bj Y'=>n9 K mg O Y S' au H Y' hD.bj|.c_ Y'=>n9 K mg O Y S' au H Y' hD.c_|.b5 Y'=>n9 K mg O Y S' au H Y' hD.b5|.cJ r=>∀ao v H',ei O ao H H'->dc ao H'->gi K mg ao H' S'->A5 K mg ao H' r v->hD.cJ v H'
def n9.aL{O aJ:a0}{N:St->ax->Prop}(h:n9 K mg O Y S' au H Y' N)(g:ei O aJ H H1)(k:eW Y hX au xx):n9 K mg aJ hX S' xx H1 Y' N:=
 λao dg H' g' st mH=>h ao dg H' (g.trans g') st (k.trans mH)
def xN.aL{O aJ:a0}(h:xN K mg O Y S' au H a7 hD)(g:ei O aJ H H1)(k:eW Y hX au xx):xN K mg aJ hX S' xx H1 a7 hD:=by
 cases a7 with
 |bj Y'=>exact n9.aL h g k|c_ Y'=>exact n9.aL h g k|b5 Y'=>exact n9.aL h g k|cJ r=>exact λao v H' g' d e r=>h ao v H' (g.trans g') d e r
def kn(K:aT)(mg:bo)(m:aX):g8:=λhD au H=>pK K mg m au H λO Y S' a7=>xN K mg O Y S' au H a7 hD
abbrev F8(X:aS)(st:Stmt)(m:aX):Prop:=iM X st (kn X.K X.mg m)
abbrev su(X:aS)(ud:List Stmt)(m:aX):Prop:=iN X ud (kn X.K X.mg m)
def gW{t t':g8}(h:iM X s t)(i:∀D Y H,t' D Y H->t D Y H):iM X s t':=λzn s Y H D I q=>h zn s Y H D I (i _ _ _ q)
def z9{t t':g8}(h:iN X s t)(i:∀D Y H,t' D Y H->t D Y H):iN X s t':=λzn s Y H D I q=>h zn s Y H D I (i _ _ _ q)
@[simp] def cj(Y:aQ):M gv:=pure (.bj Y)
def uW:aX:=λ_=>bad
@[simp] def b4(a b:aX)(Y:aQ):M gv:=do
 let a7 <-a Y
 match a7 with
 |.bj Y'=>b Y'|a7=>pure a7
@[simp] def bw(m:bg)(Y:aQ):M gv:=do
 let r <-m Y
 match r with
 |.v d=>pure (.cJ (.v d))|.fr xs=>pure (.cJ (.fr xs))|_=>bad
@[simp] def ye(i:Nat)(Y:aQ):M gv:=match Y[i]? with
 |some (.er false xs)=>pure (.cJ (.fr xs))|_=>bad
@[simp] def cP(t:aQ->M Bool)(a b:aX)(Y:aQ):M gv:=do
 let t <-t Y
 if t=true then a Y else b Y
@[simp] def b1(i:Nat)(m:bg)(Y:aQ):M gv:=do
 let r <-m Y
 let d <-r.dat
 pure (.bj (Y.set i (.v d)))
@[simp] def j3(i:Nat)(m:bg)(Y:aQ):M gv:=do
 let r <-m Y
 match r with
 |.fr xs=>pure (.bj (Y.set i (.er false xs)))|_=>bad
section
variable{st:Stmt}{a b:aX}{e:Expr}{m:bg}
theorem Nc{O:a0}{r:R}{v:V}(h:eN K mg O H r v)(aA:(∃d,r=.v d)\/∃xs,r=.fr xs):A5 K mg O H r v:=by
 rcases aA with⟨d,rfl⟩|⟨xs,rfl⟩
 .exact h
 .obtain⟨a,ys,q,l,t,bl⟩:=h;exact⟨a,ys,q,l,.inl t,bl⟩
theorem cN.set{O:a0}{Y:aQ}{au:St}{v:V}(st:cN K mg O Y S au H)(h:jB K mg O H (.loc i) s (some v)):cN K mg O (Y.set i s) S (au.set i (some v)) H:=by
 refine⟨st.cp,by rw[ak7,ak7];exact st.len,λj t e=>?_,st.gF⟩
 by_cases aR:i=j
 .subst aR
  have ar:i<Y.length:=by
   have:=(aj2.mp e).1
   rwa[ak7]at this
  rw[akX ar]at e;cases e;rw[akX (by rw[<-st.len];exact ar)];exact h
 .rw[akn aR]at e
  rw[akn aR];exact st.loc j t e
theorem eW.set{Y:aQ}{au:St}{v:Option V}(aj:∀xs,s≠.cu xs)(bM:∀xs,s≠.er true xs:=by intro xs z;cases z):eW Y (Y.set i s) au (au.set i v):=by
 have key:∀(j:Nat)(t:Slot),(Y.set i s)[j]? = some t->t≠s->Y[j]? = some t/\(au.set i v)[j]? = au[j]?:=λj t h hL=>by
  by_cases aR:i=j
  .subst aR
   have ar:i<Y.length:=by
    have:=(aj2.mp h).1
    rwa[ak7]at this
   rw[akX ar]at h;exact absurd (akv h).symm hL
  .rw[akn aR]at h ⊢
   exact⟨h,rfl⟩
 refine⟨λj xs h=>key j _ h (λz=>aj xs z.symm),λj ys h=>?_⟩;obtain⟨a,b⟩:=key j _ h (λz=>bM ys z.symm);exact⟨⟨ys,a⟩,b⟩
theorem cN.own{K:aT}{mg:bo}{O:a0}{Y:aQ}{S:cG}{au:St}{H:ax}{i:Nat}{a:Addr}{xs:List D}{ys:List V}(st:cN K mg O Y S au H)(bM:O a=.dx)(ar:H a=some (.l ys))(aA:bc K mg O H xs ys) :
  cN K mg (fL O a (.loc i)) (Y.set i (.er false xs)) S (au.set i (some (.ref a))) H:=by
 have ne:∀{b:Addr}{w:Own},O b=w->w≠.dx->fL O a (.loc i) b=w:=λ{b w} h hw=>by
  rw[pk];exact h;rintro rfl;exact hw (h.symm.trans bM)
 have du:m_ O (fL O a (.loc i)):=⟨λb h=>ne h (by intro z;cases z),rfl⟩;have aU:cN K mg (fL O a (.loc i)) Y S au H:=by
  refine⟨⟨λb ab=>?_,st.cp.tabs,st.cp.ct.1,λb m=>ne (st.cp.ct.2 b m) (by intro z;cases z)⟩,st.len,λj s e=>(st.loc j s e).du du (λb h=>ne h (by intro z;cases z)) (λb h=>ne h (by intro z;cases z)),st.gF.all (λ_ _ z=>Rep.du du z) rfl λ_ _ _ l _=>l⟩
  by_cases e:b=a
  .rw[e,ar];intro z;cases z
  .rw[pk e]at ab;exact st.cp.has b ab
 exact aU.set ⟨a,ys,rfl,m1,ar,aA.du du⟩
theorem ei.dx{O:a0}{H:ax}{a:Addr}{w:Own}(bM:O a=.dx):ei O (fL O a w) H H:=by
 refine⟨λb o e _ _=>e,λb h f=>?_,λ_ h=>h,λ_ ps h=>⟨ps,h⟩,id,rfl⟩;rw[pk];rintro rfl;rw[bM]at f;rcases f with z|z<;>cases z
theorem OD{te:TE}(aB:∀Y H Q,fk K mg m Y H Q->te Y H Q):∀D au H,kn K mg (b1 i m) D au H->ue te (lA i) D au H:=by
 rintro D au H ⟨O,Y,S,a7,S',st,h,q⟩;obtain⟨r,S1,ae,h⟩:=M.inv h;obtain⟨d,bh,ah,h⟩:=M.inv h;cases h;refine aB au H _ ⟨O,Y,S,r,S1,st,ae,λaJ v H1 g1 aU bp nn=>?_⟩;obtain⟨bb,rfl⟩:=pV (H₀:=H) bp nn ah;exact q (ck H aJ) _ H1 g1.ck.aL ((aU.ck H).set ⟨v,rfl,bb⟩) (eW.set λxs z=>by cases z)
theorem Mw{te:TE}(aB:∀Y H Q,fk K mg m Y H Q->te Y H Q):∀D au H,kn K mg (j3 i m) D au H->ue te (lA i) D au H:=by
 rintro D au H ⟨O,Y,S,a7,S',st,h,q⟩;obtain⟨r,S1,ae,h⟩:=M.inv h;split at h
 .rename_i xs
  cases h;refine aB au H _ ⟨O,Y,S,_,_,st,ae,λaJ v H1 g1 aU bp nn=>?_⟩;obtain⟨a,ys,rfl,l,t,bl⟩:=bp;exact q _ _ H1 (g1.aL.trans (ei.dx t)) (aU.own t l bl) (eW.set λxs z=>by cases z)
 .cases h
end
@[simp] def Ip(i:Nat)(f:List D->List R->M (R×List D))(ms:c8)(Y:aQ):M (R×aQ):=do
 let rs <-ms Y
 match Y[i]? with
 |some (.er p xs)=>do
  let(r,ys) <-f xs rs
  pure (r,Y.set i (.er p ys))
 |_=>bad
@[simp] def l'(i:Nat)(f:List D->List R->M (R×List D))(ms:c8)(Y:aQ):M gv:=do
 let(_,Y') <-Ip i f ms Y
 pure (.bj Y')
def iL(xs:List D):List R->M (R×List D)
 |[r]=>do
  let d <-r.dat
  hI (xs.length<aj3)
  pure (.v .aI,xs++[d])
 |_=>bad
def xg(xs:List D):List R->M (R×List D)
 |[r]=>match r.own with
  |some ys=>do
   hI (xs.length+ys.length<=aj3)
   pure (.v .aI,xs++ys)
  |none=>bad
 |_=>bad
section
variable{K:aT}{mg:bo}{O:a0}{H:ax}{l:Addr}{zs ws:List V}
mutual
theorem Rep.eh(a':O l≠.free)(ar:H l=some (.l zs)):∀{d:D}{v:V},Rep K mg O H d v->Rep K mg O (upd H l (.l ws)) d v
 |.aI,_,h=>h|.az _,_,h=>h|.int _,_,h=>h|.str _,_,h=>h|.t _,_,h=>by
  obtain⟨a,ys,q,t,r⟩:=h;refine⟨a,ys,q,?_,bc.eh a' ar r⟩;rcases t with(t|⟨o,t⟩)|t
  .exact .inl (.inl (by rw[dj (Eb t ar (by intro z;cases z))];exact t))
  .exact .inl (.inr ⟨o,by rw[dj (Eb t ar (by intro z;cases z))];exact t⟩)
  .exact .inr t
 |.l _,_,h=>by
  obtain⟨a,ys,q,t,r⟩:=h;exact⟨a,ys,q,⟨by rw[dj (by rintro rfl;exact a' t.2)];exact t.1,t.2⟩,bc.eh a' ar r⟩
 |.ref _,_,h=>h|.fn _,_,h=>h|.ty _,_,h=>h
theorem bc.eh(a':O l≠.free)(ar:H l=some (.l zs)):∀{ds:List D}{ys:List V},bc K mg O H ds ys->bc K mg O (upd H l (.l ws)) ds ys
 |[],_,h=>h| _::_,_,h=>by obtain⟨x,r,q,a,b⟩:=h;exact⟨x,r,q,Rep.eh a' ar a,bc.eh a' ar b⟩
end
def h1.eh(a':O l≠.free)(ib:O l≠.out)(h:h1 K O H a ys):h1 K O (upd H l (.l ws)) a ys:=by
 rcases h with⟨h,f⟩|h
 .have ne:a≠l:=by rintro rfl;exact f.elim a' ib
  refine .inl ⟨?_,f⟩;rcases h with h|⟨o,h⟩
  .exact .inl (by rw[dj ne];exact h)
  .exact .inr ⟨o,by rw[dj ne];exact h⟩
 .exact .inr h
def jB.eh(a':O l≠.free)(ib:O l≠.out)(hw:O l≠w)(ar:H l=some (.l zs)):∀{s:Slot}{u:Option V},jB K mg O H w s u->jB K mg O (upd H l (.l ws)) w s u
 |.e,_,_=>trivial| .v _,_,h=>by obtain⟨v,q,r⟩:=h;exact⟨v,q,r.eh a' ar⟩
 |.er _ _,_,h=>by obtain⟨a,ys,q,o,t,r⟩:=h;exact⟨a,ys,q,o,by rw[dj (by rintro rfl;exact hw o)];exact t,r.eh a' ar⟩
 |.cu _,_,h=>by obtain⟨a,ys,q,t,r⟩:=h;exact⟨a,ys,q,t.eh a' ib,r.eh a' ar⟩
def dc.eh(d:dc O H)(ar:H l=some (.l zs)):dc O (upd H l (.l ws)):=⟨λa ak=>by
 by_cases e:a=l
 .rw[e,dy];intro z;cases z
 .rw[dj e];exact d.has a ak,d.tabs.l ar _,d.ct⟩
def ei.eh(a':O l≠.free)(ib:O l≠.out)(ar:H l=some (.l zs)):ei O O H (upd H l (.l ws)):=by
 refine⟨λb o e h _=>?_,λ_ _ _=>rfl,λb h=>?_,λb ps e=>⟨ps,by rw[dj (by rintro rfl;rw[ar]at e;cases e)];exact e⟩,λg=>g.l ar _,rfl⟩
 .rw[dj]
  .exact e
  .rintro rfl
   rcases h with h|h|⟨xs,h⟩|⟨_,_,h⟩
   .exact a' h
   .exact ib h
   .subst h;rw[e]at ar;cases ar
   .subst h;rw[e]at ar;cases ar
 .by_cases e:b=l
  .rw[e,dy];intro z;cases z
  .rw[dj e];exact h
def gi.eh(s:gi K mg O H S)(cL:dc O H)(a':O l≠.free)(ib:O l≠.out)(ar:H l=some (.l zs)):gi K mg O (upd H l (.l ws)) S:=
 s.all (λ_ _ z=>Rep.eh a' ar z) rfl λa h u e _=>by rw[dj (by rintro rfl;exact ib (cL.ct.2 _ h))];exact e
def cN.eh{Y:aQ}{au:St}(st:cN K mg O Y S au H)(aB:Y[i]? = some (.er p xs))(bI:au[i]?.join=some (.ref l))(a':O l=.loc i)(ar:H l=some (.l zs))(aA:bc K mg O H ys ws) :
  cN K mg O (Y.set i (.er p ys)) S au (upd H l (.l ws)):=by
 have ne:∀w:Own,w≠.loc i->O l≠w:=λw hw z=>hw (z.symm.trans a')
 refine⟨st.cp.eh ar,by rw[ak7];exact st.len,λj t e=>?_,st.gF.eh st.cp (ne _ (by intro z;cases z)) (ne _ (by intro z;cases z)) ar⟩
 by_cases aR:i=j
 .subst aR
  have fs:i<Y.length:=(aj2.mp aB).1;rw[akX fs]at e;cases e;exact⟨l,ws,bI,a',dy,aA.eh (ne _ (by intro z;cases z)) ar⟩
 .rw[akn aR]at e
  exact(st.loc j t e).eh (ne _ (by intro z;cases z)) (ne _ (by intro z;cases z)) (ne _ (by intro z;cases z;exact aR rfl)) ar
end
def uz(K:aT)(mg:bo)(r:V->List V->ax->cX->Prop)(f:List D->List R->M (R×List D)):Prop:=
 ∀O H H₀ l xs zs rs vs S S' bJ ys (Q:cX),H l=some (.l zs)->bc K mg O H xs zs->gg K mg O H rs vs->kC H₀ rs vs->(f xs rs).run S=.ok (bJ,ys) S'->
  (∀v ws,S=S'->bc K mg (ck H₀ O) H ys ws->(∃d,bJ=.v d/\Rep K mg (ck H₀ O) H d v)->Q v (upd H l (.l ws)))->r (.ref l) vs H Q
section
variable{K:aT}{mg:bo}
def zy:uz K mg MV iL:=λO H H₀ l xs zs rs vs S S' bJ ys Q ar ag aA aF h q=>by
 unfold iL at h;split at h
 .rename_i r
  obtain⟨v,rfl,bP⟩:=kh aA;obtain⟨d,S1,ae,h⟩:=M.inv h;obtain⟨_,bh,ah,h⟩:=M.inv h;obtain⟨c,rfl⟩:=q2 ah;obtain⟨bb,rfl⟩:=pV (H₀:=H₀) bP aF.1 ae;cases h;exact⟨l,zs,v,rfl,rfl,ar,by rw[ag.len];exact c,q .aI _ rfl ((ag.du (je _ _)).append (.one bb)) ⟨.aI,rfl,rfl⟩⟩
 .cases h
def aah:uz K mg MX xg:=λO H H₀ l xs zs rs vs S S' bJ ys Q ar ag aA aF h q=>by
 unfold xg at h;split at h
 .rename_i r
  obtain⟨v,rfl,bP⟩:=kh aA;split at h
  .rename_i us e
   obtain⟨_,bh,ah,h⟩:=M.inv h;obtain⟨c,rfl⟩:=q2 ah;cases h;obtain⟨b,ws,rfl,cz,cq⟩:=R.EA bP e;exact⟨l,b,zs,ws,rfl,rfl,ar,cz,by rw[ag.len,cq.len];exact c,q .aI _ rfl ((ag.append cq).du (je _ _)) ⟨.aI,rfl,rfl⟩⟩
  .cases h
 .cases h
variable{f:List D->List R->M (R×List D)}{r:V->List V->ax->cX->Prop}{ms:c8}{i:Nat}
def aaC(hf:uz K mg r f){O:a0}{Y Y':aQ}{S S':cG}{au:St}{H:ax}{bJ:R}{Q:cX}(st:cN K mg O Y S au H)(h:(Ip i f ms Y).run S=.ok (bJ,Y') S')
  (q:∀ao v H',ei O ao H H'->cN K mg ao Y' S' au H'->eW Y Y' au au->(∃d,bJ=.v d/\Rep K mg ao H' d v)->Q v H') :
  ∃v,au[i]? = some (some v)/\Az K "list" v H/\nX K mg ms au H λvs aM=>r v vs aM Q:=by
 obtain⟨rs,S1,ae,h⟩:=M.inv h
 cases e:Y[i]? with
 |none=>rw[e]at h;cases h
 |some s=>
  rw[e]at h
  cases s with
  |e=>cases h
  |v _=>cases h
  |cu _=>cases h
  |er p xs=>
   obtain⟨⟨cq,ys⟩,bh,ah,h⟩:=M.inv h;cases h;obtain⟨a,zs,av,aC,c4,fD⟩:=st.loc i _ e;have ev:au[i]? = some (some (.ref a)):=by
    cases w:au[i]? with
    |none=>rw[w]at av;cases av
    |some y=>rw[w]at av;exact congrArg some av
   refine⟨.ref a,ev,.inl ⟨rfl,_,dk.of c4⟩,O,Y,S,rs,S1,st,ae,λaJ vs H1 g1 aU bp nn=>?_⟩;have yt:=g1.same.at' _ _ c4;have aF:H a≠none:=by rw[c4];intro z;cases z
   have Vs:aJ a=.loc i:=(g1.own a aF).trans aC;refine hf aJ H1 H a xs zs rs vs S1 _ _ ys Q yt (fD.go g1) bp nn ah λv ws ay bl aW=>?_
   obtain⟨d,dS,bb⟩:=aW;subst ay;have jk:ck H aJ a=.loc i:=by rw[yG aF];exact Vs
   have no:∀w:Own,w≠.loc i->ck H aJ a≠w:=λw hw z=>hw (z.symm.trans jk)
   refine q (ck H aJ) v _ (g1.ck.aL.trans (ei.eh (no _ (by intro z;cases z)) (no _ (by intro z;cases z)) yt)) ((aU.ck H).eh e (by rw[ev];rfl) jk yt bl) ?_ ⟨d,dS,bb.eh (no _ (by intro z;cases z)) yt⟩;have fs:i<Y.length:=(aj2.mp e).1;exact eW.put e (λxs z=>by cases z) (λ_ z=>by cases z;exact⟨xs,rfl⟩)
end
def xF(cm:iu)(O:a0)(H:ax)(ys:List V):Prop:=∀bq aM,ei O bq H aM->∀i,(i<ys.length->cm.go i aM/\∀x H',cm.px i aM x H'->H'=aM/\ys[i]? = some x)/\(ys.length<=i->cm.stop i aM)
abbrev e':=aQ->M (List D)
def qC(K:aT)(mg:bo)(m:e'):TI:=λau H R=>pK K mg m au H λO Y S' xs=>∀ao H' cm ys,Go O ao H H'->cN K mg ao Y S' au H'->xE cm H' ys->bc K mg ao H' xs ys->R cm H'
def xf(K:aT)(mg:bo)(m:e'):TI:=λau H R=>pK K mg m au H λO Y S' xs=>∀ao H' cm ys,Go O ao H H'->cN K mg ao Y S' au H'->xF cm ao H' ys->bc K mg ao H' xs ys->R cm H'
abbrev F6(X:aS)(b8 iter:Expr)(m:e'):Prop:=kE X b8 iter (qC X.K X.mg m)
abbrev PX(X:aS)(b8 iter:Expr)(m:e'):Prop:=kE X b8 iter (xf X.K X.mg m)
def qv{b8 e:Expr}{t t':TI}(h:kE X b8 e t)(i:∀Y H Q,t' Y H Q->t Y H Q):kE X b8 e t':=λzn s Y H Q I q=>h zn s Y H Q I (i _ _ _ q)
def ei.xa{O ao:a0}(g:ei O ao H H')(h:dD K H a ys):dD K H' a ys:=by
 rcases h with(h|⟨o,h⟩)|h
 .exact .inl (.inl (g.cells _ _ h (.inr (.inr (.inl ⟨_,rfl⟩)))))
 .exact .inl (.inr ⟨o,g.cells _ _ h (.inr (.inr (.inr ⟨_,_,rfl⟩)))⟩)
 .exact .inr h
def ei.LD{O ao:a0}(g:ei O ao H H')(h:h1 K O H a ys):h1 K ao H' a ys:=by
 rcases h with⟨h,f⟩|h
 .refine .inl ⟨?_,by rw[g.own a (fV.some h) f];exact f⟩
  rcases h with h|⟨o,h⟩
  .exact .inl (g.cells _ _ h (f.elim .inl λz=>.inr (.inl z)))
  .exact .inr ⟨o,g.cells _ _ h (f.elim .inl λz=>.inr (.inl z))⟩
 .exact .inr h
@[simp] def iE(m:bg)(Y:aQ):M (List D):=do
 let r <-m Y
 match r with
 |.v (.t xs)=>pure xs|_=>bad
@[simp] def Dd(m:bg)(Y:aQ):M (List D):=do
 let r <-m Y
 match r with
 |.v (.l xs)=>pure xs|.fr xs=>pure xs|.cu xs=>pure xs|_=>bad
@[simp] def j7(m:bg)(Y:aQ):M (List D):=do
 let r <-m Y
 match r.fi with
 |some xs=>pure xs|none=>bad
def nU(lo:Int)(n:Nat):List D:=(akG n).map λi=>D.int (lo+(i:Nat))
@[simp] def rz(m:c8)(Y:aQ):M (List D):=do
 let rs <-m Y
 match rs with
 |[.v (.int j)]=>if -(2 ^ 62)<=j/\j<2 ^ 62 then pure (nU 0 j.toNat)else bad|_=>bad
def ac8{O:a0}(lo:Int)(n:Nat):bc K mg O H (nU lo n) (qx lo n):=by
 unfold nU qx
 induction(akG n)with
 |nil=>rfl|cons a r a6=>exact⟨.int (lo+a),_,rfl,rfl,a6⟩
def Y7{O:a0}(lo:Int)(n:Nat):xF (sy lo n) O H (qx lo n):=λbq aM _ i=>KJ (H:=aM) lo n aM (eG.refl _) i
section
variable{a:Expr}{ms:c8}
def Nh:(∀au H R,xf K mg (rz ms) au H R->De (nX K mg ms) au H R)/\(∀au H R,qC K mg (rz ms) au H R->De (nX K mg ms) au H R):=by
 constructor<;>
 .rintro au H R ⟨O,Y,S,xs,S',st,h,q⟩
  obtain⟨rs,S1,ae,h⟩:=M.inv h;split at h
  .rename_i j
   by_cases c:-(2 ^ 62)<=j/\j<2 ^ 62
   .rw[if_pos c]at h
    cases h;refine⟨O,Y,S,_,_,st,ae,λaJ vs H1 g1 aU bp nn=>?_⟩;obtain⟨v,rfl,bP⟩:=kh bp;cases(show v=.int j from bP);exact⟨j,rfl,c.1,c.2,q aJ H1 (sy 0 j.toNat) (qx 0 j.toNat) g1 aU (by first|exact Y7 _ _|exact KJ _ _) (ac8 _ _)⟩
   .rw[if_neg c]at h;cases h
  .cases h
def Dk{K:aT}{O:a0}{H:ax}{a:Addr}{xs:List V}(h:h1 K O H a xs):xF (l5 K a) O H xs:=λbq aM g i=>Dj (g.LD h).dI aM (eG.refl _) i
def Y9{K:aT}{O:a0}{H:ax}{a:Addr}{xs:List V}(h:dD K H a xs):xF (sA K a) O H xs:=λbq aM g i=>KL (g.xa h) aM (eG.refl _) i
end
def ha(b:D->aX):List D->aX
 |[]=>λY=>pure (.bj Y)
 |d::ds=>λY=>do
  let a7 <-b d Y
  match a7 with
  |.bj Y'=>ha b ds Y'|.b5 Y'=>ha b ds Y'|.c_ Y'=>pure (.bj Y')|.cJ r=>pure (.cJ r)
@[simp] def oa(i:Nat)(it:e')(b:aX)(Y:aQ):M gv:=do
 let ds <-it Y
 ha (λd Y=>b (Y.set i (.v d))) ds Y
def cN.val{O:a0}{Y:aQ}{au:St}{v:V}(st:cN K mg O Y S au H)(h:Rep K mg O H d v):cN K mg O (Y.set i (.v d)) S (au.set i (some v)) H:=st.set ⟨v,rfl,h⟩
def bc.aL{O ao:a0}(g:ei O ao H H'):∀{ds:List D}{ys:List V},bc K mg O H ds ys->bc K mg ao H' ds ys:=by
 have rep:∀(d:D)(v:V),Rep K mg O H d v->Rep K mg ao H' d v:=by
  intro d
  induction d using D.rec (motive_2:=λds=>∀ys,bc K mg O H ds ys->bc K mg ao H' ds ys)with
  |aI=>exact λv h=>h
  |az _=>exact λv h=>h
  |int _=>exact λv h=>h
  |str _=>exact λv h=>h
  |fn _=>exact λv h=>h
  |ty _=>exact λv h=>h
  |ref n=>exact λv ⟨a,q,l⟩=>⟨a,q,by rw[g.bK];exact l⟩
  |t xs a6=>exact λv ⟨a,ys,q,l,r⟩=>⟨a,ys,q,g.xa l,a6 ys r⟩
  |l xs a6=>exact λv ⟨a,ys,q,l,r⟩=>⟨a,ys,q,⟨g.cells _ _ l.1 (.inl l.2),by rw[g.own a (by rw[l.1];intro z;cases z) (.inl l.2)];exact l.2⟩,a6 ys r⟩
  |nil=>assumption|cons x xs vN vO=>
   rename_i zs hz;obtain⟨y,r,q,a,b⟩:=hz;exact⟨y,r,q,vN y a,vO r b⟩
 intro ds
 induction ds with
 |nil=>exact λh=>h
 |cons x xs a6=>rintro ys ⟨y,r,q,a,b⟩;exact⟨y,r,q,rep x y a,a6 b⟩
section
variable{it:e'}{i:Nat}{b:aX}{x:Str}
def bc.get'{O:a0}{ds:List D}{ys:List V}{k:Nat}(h:bc K mg O H ds ys)(e:ds.drop k=d::nk):∃y,ys[k]? = some y/\Rep K mg O H d y/\ds.drop (k+1)=nk:=by
 have av:ds[k]? = some d:=by
  have:=congrArg (·[0]?) e;simpa using this
 obtain⟨y,q,r⟩:=h.get av;refine⟨y,q,r,?_⟩;have:=congrArg (anU 1) e;simpa[amL]using this
theorem Jl{G:ja}{B:aZ.D->aX}(p2:∀O Y S au H d y f bh Q,cN K mg O Y S au H->Rep K mg O H d y->(B d Y).run S=.ok f bh->(∀iq kx,cN K mg O iq S kx H->eW Y iq au kx->(b iq).run S=.ok f bh->Q kx H)->G y au H Q) :
  ∀D au H,kn K mg (λY=>do
   let ds <-it Y
   ha B ds Y) D au H->r_ (xf K mg it) G (kn K mg b) D au H:=by
 rintro D au H ⟨O,Y,S,a7,S',st,h,q⟩;obtain⟨ds,S1,ae,h⟩:=M.inv h;refine⟨O,Y,S,ds,S1,st,ae,λaJ H1 cm ys g1 aU its bl=>?_⟩;refine⟨λk m dg H'=>m=ys.length-k/\k<=ys.length/\∃ao Y' hk,cN K mg ao Y' hk dg H'/\ei aJ ao H1 H'/\eW Y Y' au dg/\(ha B (ds.drop k) Y').run hk=.ok a7 S',
  ⟨_,rfl,akm _,aJ,Y,S1,aU,ei.refl _ _,eW.refl _ _,h⟩,?_⟩
 rintro k m dg H' ⟨rfl,aw,ao,Y',hk,cg,g',kp,h⟩
 cases e:ds.drop k with
 |nil=>
  have ar:ys.length<=k:=by
   have:=congrArg alr e;rw[ak0,akY]at this;rw[bl.len];omega
  rw[e]at h;cases h;exact .inl ⟨(its ao H' g' k).2 ar,q ao dg H' (g1.aL.trans g') cg kp⟩
 |cons d nk=>
  obtain⟨y,fg,bz,cA⟩:=(bc.aL g' bl).get' e;have fs:k<ys.length:=(aj2.mp fg).1;obtain⟨go,m3⟩:=(its ao H' g' k).1 fs;rw[e]at h;obtain⟨f1,bh,ah,h⟩:=M.inv h;refine .inr ⟨go,λhj aM=>∃bq dQ bh,cN K mg bq dQ bh hj aM/\ei aJ bq H1 aM/\eW Y dQ au hj/\(ha B (ds.drop (k+1)) dQ).run bh=.ok a7 S',?_,λx aM jU=>?_⟩
  .rintro hj aM ⟨bq,dQ,bh,a1,a2,eH,hl⟩
   exact⟨_,by omega,rfl,fs,bq,dQ,bh,a1,a2,eH,hl⟩
  .obtain⟨rfl,ex⟩:=m3 x aM jU
   rw[fg]at ex;cases ex;refine p2 _ _ _ _ _ _ _ _ _ _ cg bz ah λiq kx mX bu ab=>?_
   refine⟨ao,iq,hk,f1,bh,mX,ab,?_⟩
   cases f1 with
   |bj dQ=>exact λbq hj aM g2 cV f_=>⟨bq,dQ,bh,cV,g'.trans g2,kp.trans (bu.trans f_),by rw[cA];exact h⟩
   |b5 dQ=>exact λbq hj aM g2 cV f_=>⟨bq,dQ,bh,cV,g'.trans g2,kp.trans (bu.trans f_),by rw[cA];exact h⟩
   |c_ dQ=>cases h;exact λbq hj aM g2 cV f_=>q bq hj aM (g1.aL.trans (g'.trans g2)) cV (kp.trans (bu.trans f_))
   |cJ r=>cases h;exact λbq v aM g2 da aC cq=>q bq v aM (g1.aL.trans (g'.trans g2)) da aC cq
def VT:∀D au H,kn K mg (oa i it b) D au H->r_ (xf K mg it) (lA i) (kn K mg b) D au H:=
 Jl (B:=λd Y=>b (Y.set i (.v d))) λ_ _ _ _ _ _ _ _ _ _ st bz h k=>k _ _ (st.val bz) (eW.set λxs z=>by cases z) h
end
def fX(t:aQ->M Bool)(el:bg)(Y:aQ):List D->M (List D)
 |[]=>pure []|d::ds=>do
  let b <-t (Y.set 0 (.v d))
  if b=true then do
   let r <-el (Y.set 0 (.v d))
   let x <-r.dat
   let xs <-fX t el Y ds
   pure (x::xs)
  else fX t el Y ds
def ym:Option Slot->Slot
 |some (.v d)=>.v d|some (.er _ xs)=>.cu xs|some (.cu xs)=>.cu xs|_=>.e
def iP(n:Nat)(cap:List Nat)(Y:aQ):aQ:=akQ n .e++cap.map λk=>ym Y[k]?
@[simp] def e3(n:Nat)(cap:List Nat)(it:e')(t:aQ->M Bool)(el:bg)(Y:aQ):M R:=do
 let ds <-it Y
 hI (ds.length<aj3)
 let xs <-fX t el (iP n cap Y) ds
 pure (.fr xs)
def gr:aQ->M Bool:=λ_=>pure true
abbrev AV(X:aS)(ifs:List Expr)(t:aQ->M Bool):Prop:=sE X ifs (k5 X.K X.mg t)
def Own.fe:Own->Own
 |.loc _=>.out|.dx=>.out|o=>o
def fe(O:a0):a0:=⟨λb=>(O b).fe,O.bK⟩
def uR(O:a0)(b:Addr):fe O b=(O b).fe:=rfl
def Ic{O:a0}(d:dc O H):jA (fe O):=⟨d.ct.1,λa h=>by rw[uR,d.ct.2 a h];rfl⟩
def pS{O:a0}:fe O b=.free↔O b=.free:=by rw[uR];cases O b<;>simp[Own.fe]
def ng(O:a0)(b:Addr):fe O b=.free\/fe O b=.out:=by rw[uR];cases O b<;>simp[Own.fe]
def lu(O:a0):m_ O (fe O):=⟨λ_ h=>pS.mpr h,rfl⟩
def h1.fe{O:a0}(h:h1 K O H a ys):h1 K (fe O) H a ys:=by
 rcases h with⟨h,f⟩|h
 .refine .inl ⟨h,?_⟩
  rcases f with f|f
  .exact .inl (pS.mpr f)
  .exact .inr (by rw[uR,f];rfl)
 .exact .inr h
def cN.fe{O:a0}(st:cN K mg O Y S au H)(n:Nat)(cap:List Nat):cN K mg (fe O) (iP n cap Y) S (hp n cap au) H:=by
 refine⟨⟨λa ak=>st.cp.has a λz=>ak (pS.mpr z),st.cp.tabs,Ic st.cp⟩,?_,λi s e=>?_,st.gF.all (λ_ _ z=>Rep.du (lu O) z) rfl λ_ _ _ l _=>l⟩
 .unfold iP hp
  rw[aj7,aj7,alb,alb,ajX,ajX]
 .unfold iP at e
  unfold hp
  by_cases aB:i<n
  .rw[akq (by simpa using aB),alT,if_pos aB]at e
   cases e;exact trivial
  .rw[akk (by simpa using aB),alb,aku]at e
   rw[akk (by simpa using aB),alb,aku]
   cases gn:cap[i-n]? with
   |none=>rw[gn]at e;cases e
   |some k=>
    rw[gn]at e;have cA:ym Y[k]? = s:=akv e;show jB K mg _ H _ s (some (au[k]?.join)).join
    cases ay:Y[k]? with
    |none=>rw[ay]at cA;subst cA;exact trivial|some s0=>
     rw[ay]at cA;have l:=st.loc k s0 ay
     cases s0 with
     |e=>subst cA;exact trivial|v d=>subst cA;obtain⟨v,q,r⟩:=l;exact⟨v,q,r.du (lu O)⟩
     |cu xs=>subst cA;obtain⟨a,ys,q,l,r⟩:=l;exact⟨a,ys,q,l.fe,r.du (lu O)⟩
     |er p xs=>subst cA;obtain⟨a,ys,q,o,l,r⟩:=l;exact⟨a,ys,q,.inl ⟨.inl l,.inr (by rw[uR,o];rfl)⟩,r.du (lu O)⟩
def cN.af1{O:a0}{H:ax}(st:cN K mg O Y S au H)(a':O l=.dx)(ar:H l=some (.l zs)):cN K mg O Y S au (upd H l (.l ws)):=by
 have ne:∀w:Own,w≠.dx->O l≠w:=λw hw z=>hw (z.symm.trans a')
 exact⟨st.cp.eh ar,st.len,λj t e=>(st.loc j t e).eh (ne _ (by intro z;cases z)) (ne _ (by intro z;cases z)) (ne _ (by intro z;cases z)) ar,st.gF.eh st.cp (ne _ (by intro z;cases z)) (ne _ (by intro z;cases z)) ar⟩
section
variable{K:aT}{mg:bo}{n:Nat}{cap:List Nat}{it:e'}{t:aQ->M Bool}{el:bg}
def lJ{α:Type}(put:α->Option aQ)(t:aQ->M Bool)(el:bg):List α->M (List D)
 |[]=>pure []|d::ds=>match put d with
  |none=>bad|some Y=>do
   let b <-t Y
   if b=true then do
    let r <-el Y
    let x <-r.dat
    let xs <-lJ put t el ds
    pure (x::xs)
   else lJ put t el ds
omit [aE.a5]in
theorem KW(Y:aQ):∀ds:List D,fX t el Y ds=lJ (λd=>some (Y.set 0 (.v d))) t el ds
 |[]=>rfl| d::ds=>by unfold fX lJ;rw[KW Y ds]
inductive CompI{α:Type}(K:aT)(mg:bo)(n:Nat)(cap:List Nat)(L:Nat->M (List aZ.D))(aJ:a0)(Y:aQ)(S1:cG)(au:St)(H1:ax)(A:Addr)(xs:List aZ.D)(k:Nat)(zs:List V)(H':ax):Prop
 |mk (ao:a0) (acc xr:List aZ.D) (cg:cN K mg ao (iP n cap Y) S1 (hp n cap au) H') (g':Go (fe aJ) ao H1 H') (Ar:ao A=.dx) (d6:H' A=some (.l zs)) (hz:zs.length<=k)
   (jQ:bc K mg ao H' acc zs) (h:(L k).run S1=.ok xr S1) (ex:acc++xr=xs)
def BN{α:Type}{put:α->Option aQ}{items:List α}{aJ:a0}{Y:aQ}{S1 S':cG}{au:St}{H1:ax}{cm:iu}{G:ja}{xs:List aZ.D}{Q:cX}(aU:cN K mg aJ Y S1 au H1)(hlen:items.length<aj3)
  (stop:∀H',eG H1 H'->cm.stop items.length H')
  (step:∀k d nZ ao H',items[k]? = some d->put d=some nZ->Go (fe aJ) ao H1 H'->cN K mg ao (iP n cap Y) S1 (hp n cap au) H'->cm.go k H'/\∀x aM (R:St->ax->Prop),cm.px k H' x aM->
   (∀iq cT,Go ao ao H' cT->cN K mg ao nZ S1 iq cT->m9 (hp n cap au) iq->R iq cT)->G x (hp n cap au) aM R)
  (bN:(lJ put t el items).run S1=.ok xs S') (q:∀ao v H',Go aJ ao H1 H'->cN K mg ao Y S' au H'->eN K mg ao H' (.fr xs) v->jy H1 (.fr xs) v->Q v H') :
  ∀D,H1 D=none->BP cm (hp n cap au) G (k5 K mg t) (fk K mg el) D H1 Q:=by
 intro D kN;obtain rfl:=(lJ put t el items).es _ _ _ bN;have jR:cN K mg (fL (fe aJ) D .dx) (iP n cap Y) S' (hp n cap au) (upd H1 D (.l [])):=(aU.fe n cap).new kN;refine⟨λk m zs H'=>m=items.length-k/\k<=items.length/\CompI (α:=α) K mg n cap (λk=>lJ put t el (items.drop k)) aJ Y S' au H1 D xs k zs H',
  ⟨_,rfl,akm _,_,[],xs,jR,Go.new kN,m1,dy,aj0 _,rfl,bN,rfl⟩,?_⟩
 rintro k m zs H' ⟨rfl,aw,ao,acc,xr,cg,g',Ar,d6,hz,jQ,h,ex⟩
 cases e:items.drop k with
 |nil=>
  obtain rfl:k=items.length:=by
   have:=congrArg alr e;rw[ak0,akY]at this;omega
  rw[e]at h;cases h;rw[ak6]at ex;subst ex;refine .inl ⟨stop H' g'.same,?_⟩
  let sD:a0:=⟨λb=>match H1 b with|none=>ao b|some _=>aJ b,aJ.bK⟩
  have Eo:∀b,H1 b≠none->sD b=aJ b:=λb ab=>by
   show(match H1 b with|none=>ao b|some _=>aJ b)=aJ b
   cases e:H1 b with
   |none=>exact absurd e ab|some _=>rfl
  have En:∀b,H1 b=none->sD b=ao b:=λb ab=>by
   show(match H1 b with|none=>ao b|some _=>aJ b)=ao b;rw[ab]
  have du:m_ ao sD:=⟨λb ab=>by
    by_cases p5:H1 b=none
    .rw[En b p5];exact ab
    .rw[Eo b p5];exact pS.mp ((g'.own b p5).symm.trans ab),g'.bK.symm⟩
  have go:Go aJ sD H1 H':=⟨g'.same,Eo,rfl⟩;have cp:dc sD H':=⟨λb ab=>by
   by_cases p5:H1 b=none
   .rw[En b p5]at ab;exact cg.cp.has b ab
   .exact g'.same.some p5,cg.cp.tabs,aU.cp.ct.1,λb m=>(Eo b (aU.cp.has b (by rw[aU.cp.ct.2 b m];intro z;cases z))).trans (aU.cp.ct.2 b m)⟩
  refine q sD (.ref D) H' go (aU.go go cp) ⟨D,zs,rfl,d6,(En D kN).trans Ar,jQ.du du⟩ λa gm=>?_
  cases gm;exact kN
 |cons d nk=>
  have fs:k<items.length:=by
   have:=congrArg alr e;rw[ak0,akd]at this;omega
  have dS:items[k]? = some d:=by
   have:=congrArg (·[0]?) e;simpa using this
  have cA:items.drop (k+1)=nk:=by
   have:=congrArg (anU 1) e;simpa[amL]using this
  rw[e]at h;unfold lJ at h
  cases cf:put d with
  |none=>rw[cf]at h;cases h
  |some nZ=>
  rw[cf]at h;dsimp only at h;obtain⟨b,bh,ah,h⟩:=M.inv h;obtain rfl:=(t nZ).es _ _ _ ah;obtain⟨go,m3⟩:=step k d nZ ao H' dS cf g' cg;refine .inr ⟨go,λx aM jU=>m3 x aM _ jU λiq cT iR mX yz=>⟨yz,ao,nZ,bh,b,bh,mX,ah,λbq hE g2 cV=>?_⟩⟩;have s9:Go ao bq H' hE:=iR.trans g2
  cases b with
  |false=>
   rw[if_neg aj6]at h;exact oK ⟨items.length-(k+1),by omega,rfl,fs,bq,acc,xr,cg.go s9 cV.cp,g'.trans s9,(s9.own D (by rw[d6];intro z;cases z)).trans Ar,s9.same.at' _ _ d6,by omega,jQ.go s9,by rw[cA];exact h,ex⟩
  |true=>
   rw[if_pos rfl]at h;obtain⟨r,pL,dq,h⟩:=M.inv h;obtain rfl:=(el nZ).es _ _ _ dq;obtain⟨x,sG,ep,h⟩:=M.inv h;obtain rfl:=r.dat.es _ _ _ ep;obtain⟨PK,ah5,eA,h⟩:=M.inv h;cases h;refine oL ⟨bq,_,_,r,_,cV,dq,λeM v lj g3 gZ bp nn=>?_⟩;obtain⟨a4,_⟩:=pV (H₀:=hE) bp nn ep;have n4:Go ao (ck hE eM) H' lj:=s9.trans g3.ck;have yP:lj D=some (.l zs):=n4.same.at' _ _ d6;have Fq:ck hE eM D=.dx:=(n4.own D (by rw[d6];intro z;cases z)).trans Ar;have vn:=g'.trans n4;exact⟨yP,by omega,items.length-(k+1),by omega,rfl,fs,ck hE eM,acc++[x],PK,(cg.go n4 (gZ.ck hE).cp).af1 Fq yP,⟨pn kN vn.same yP _,vn.own,vn.bK⟩,Fq,dy,
    by rw[aj7,amK];omega,((jQ.go n4).append (.one a4)).eh (by rw[Fq];intro z;cases z) yP,by rw[cA];exact eA,by rw[amE];exact ex⟩
def BO(aF:0<n):∀au H Q,fk K mg (e3 n cap it t el) au H Q->uf n cap (qC K mg it) (lA 0) (k5 K mg t) (fk K mg el) au H Q:=by
 rintro au H Q ⟨O,Y,S,r,S',st,h,q⟩;obtain⟨ds,S1,ae,h⟩:=M.inv h;obtain⟨_,bh,ah,h⟩:=M.inv h;obtain⟨hlen,rfl⟩:=q2 ah;obtain⟨xs,h4,bN,h⟩:=M.inv h;cases h;rw[KW]at bN;refine⟨O,Y,S,ds,S1,st,ae,λaJ H1 cm ys g1 aU its bl=>BN aU hlen (λH' s=>(its H' s _).2 (alF bl.len)) (λk d nZ ao H' dS cf g' cg=>?_) bN λao v H' g cg bp nn=>q ao v H' (g1.trans g) cg bp (nn.back g1.same)⟩;cases cf;obtain⟨y,fg,bz⟩:=(bc.go g' (bl.du (lu aJ))).get dS;obtain⟨go,m3⟩:=(its H' g'.same k).1 (aj2.mp fg).1;refine⟨go,λx aM R jU eB=>?_⟩;obtain⟨rfl,ex⟩:=m3 x aM jU;rw[fg]at ex;cases ex;exact eB _ _ (Go.refl _ _) (cg.val bz) ((m9.refl _).set (by cases n with|zero=>exact absurd aF (akI _)|succ j=>rfl))
end
section
variable{X:aS}{scope esc:Scope}{EN N:List Str}{n:Nat}{cap:List Nat}{elt iter:Expr}{ifs:List Expr}{pos d2:Pos}{x:Str}{it:e'}{t:aQ->M Bool}{el:bg}
def Gx{i:Nat}{y:Str}{py mW:Pos}(S:la esc scope EN N n cap)(rj:X.N.Nodup)(lF:X.N[i]? = some y)(ba:X.env.scope.names.lookup y=some .local)(aF:0<n)(aB:F6 X (.Name x d2) iter it)(ag:N[0]? = some x)(iT:∀C aK s H,Loc (cx X scope N C aK s H).env.scope x/\(cx X scope N C aK s H).env.scope.names.lookup x=some .local)
  (bM:∀C aK s H,AV (cx X scope N C aK s H) ifs t) (h_:∀C aK s H,hC (cx X scope N C aK s H) elt el)
  (he:X.env.scope=esc:=by rfl) (hN:X.N=EN:=by rfl) (aD:X.calm=true:=by rfl) (aj:∀x,akN iter X.env x=pure x:=by intro _;rfl)
  (mC:alu (.ListComp elt [⟨.Name x d2,iter,ifs,0⟩] scope pos) (some (.Name y py)) mW.line X.env=pure true:=by rfl) :
  iM X (.Assign [.Name y py] (.ListComp elt [⟨.Name x d2,iter,ifs,0⟩] scope pos) mW) (ue (uf n cap (qC X.K X.mg it) (lA 0) (k5 X.K X.mg t) (fk X.K X.mg el)) (lA i)):=
 acG (wi:=qC X.K X.mg it) (g:=lA 0) (tt:=k5 X.K X.mg t) (te:=fk X.K X.mg el) S rj lF ba aB (λC aK s H=>wL S.dU ag (iT C aK s H).1 (.inr (iT C aK s H).2)) bM h_ he hN aD aj mC
end
abbrev bC:=List D->M R
def uy(K:aT)(mg:bo)(O:a0)(H:ax):D->V->Prop
 |.l xs,v=>∃a ys,v=.ref a/\dk K H a ys/\bc K mg O H xs ys|d,v=>Rep K mg O H d v
def l1(K:aT)(mg:bo)(O:a0)(H:ax):List D->List V->Prop
 |[],ys=>ys=[]|x::xs,ys=>∃y r,ys=y::r/\uy K mg O H x y/\l1 K mg O H xs r
def dr:D->Slot
 |.l xs=>.cu xs|d=>.v d
def Gu{O:a0}{r:R}{v:V}(h:eN K mg O H r v):uy K mg O H r.arg v:=by
 match r,h with
 |.v (.l xs),h=>obtain⟨a,ys,q,l,r⟩:=h;exact⟨a,ys,q,l.dI,r⟩
 |.fr xs,h=>obtain⟨a,ys,q,l,_,r⟩:=h;exact⟨a,ys,q,dk.of l,r⟩
 |.cu xs,h=>obtain⟨a,ys,q,l,r⟩:=h;exact⟨a,ys,q,l.dI,r⟩
 |.mv xs,h=>obtain⟨a,ys,q,l,r⟩:=h;exact⟨a,ys,q,dk.of l,r⟩
 |.v .aI,h=>exact h|.v (.az _),h=>exact h|.v (.int _),h=>exact h|.v (.str _),h=>exact h|.v (.t _),h=>exact h|.v (.ref _),h=>exact h|.v (.fn _),h=>exact h|.v (.ty _),h=>exact h
theorem xX{O:a0}:∀{rs:List R}{vs:List V},gg K mg O H rs vs->l1 K mg O H (rs.map R.arg) vs
 |[],_,h=>h| _::_,_,h=>by obtain⟨y,r,q,a,b⟩:=h;exact⟨y,r,q,Gu a,xX b⟩
theorem l1.len{O:a0}:∀{ds:List D}{vs:List V},l1 K mg O H ds vs->vs.length=ds.length
 |[],_,h=>by cases h;rfl
 |_::_,_,h=>by obtain⟨x,r,rfl,_,b⟩:=h;rw[akd,akd,l1.len b]
theorem l1.get{O:a0}:∀{ds:List D}{xs:List V}{i:Nat}{d:D},l1 K mg O H ds xs->ds[i]? = some d->∃x,xs[i]? = some x/\uy K mg O H d x
 |[],_,_,_,_,e=>by simp at e| _::_,_,0,d,h,e=>by obtain⟨x,r,rfl,a,_⟩:=h;cases(show some _=some d from e);exact⟨x,rfl,a⟩
 |_::ds,_,i+1,d,h,e=>by
  obtain⟨x,r,rfl,_,b⟩:=h;obtain⟨y,av,aC⟩:=l1.get (i:=i) b (by simpa using e);exact⟨y,by simpa using av,aC⟩
def bY(K:aT)(mg:bo)(mf:bC):ed:=λvs H Q _=>∃O ds r S,dc O H/\gi K mg O H S/\l1 K mg O H ds vs/\(mf ds).run S=.ok r S/\∀ao v H',Go O ao H H'->dc ao H'->eN K mg ao H' r v->jy H r v->Q v H'
@[simp] def bt(mf:bC)(ms:c8)(Y:aQ):M R:=do
 let rs <-ms Y
 mf (rs.map R.arg)
section
variable{mf:bC}{ms:c8}
def BG:∀au H Q,fk K mg (bt mf ms) au H Q->As (bY K mg mf) (nX K mg ms) au H Q:=by
 rintro au H Q ⟨O,Y,S,r,S',st,h,q⟩;obtain⟨rs,S1,ae,h⟩:=M.inv h;refine⟨O,Y,S,rs,S1,st,ae,λaJ vs H1 g1 aU bp nn=>?_⟩;obtain rfl:=(mf _).es _ _ _ h;exact⟨aJ,_,r,S',aU.cp,aU.gF,xX bp,h,λao v H' g d bJ dE=>q ao v H' (g1.trans g) (aU.go g d) bJ (dE.back g1.same)⟩
end
def fnOf(n N:Nat)(b:aX):bC:=λds=>if ds.length=n then do
  let a7 <-b (ds.map dr++akQ (N-n) .e)
  match a7 with
  |.cJ (.v d)=>pure (.v d)|.cJ (.fr xs)=>pure (.fr xs)|.bj _=>pure (.v .aI)|_=>bad
 else bad
def aeR{O:a0}{v:V}(h:uy K mg O H d v):jB K mg (fe O) H w (dr d) (some v):=by
 have val:Rep K mg O H d v->jB K mg (fe O) H w (.v d) (some v):=λh=>⟨v,rfl,h.du (lu O)⟩
 match d,h,val with
 |.l xs,h,_=>
  obtain⟨a,ys,rfl,l,r⟩:=h;exact⟨a,ys,rfl,l.imp (λz=>⟨z,ng O a⟩) id,r.du (lu O)⟩
 |.aI,h,val=>exact val h|.az _,h,val=>exact val h|.int _,h,val=>exact val h|.str _,h,val=>exact val h|.t _,h,val=>exact val h|.ref _,h,val=>exact val h|.fn _,h,val=>exact val h|.ty _,h,val=>exact val h
omit [aE.a5]in
theorem yC{n N:Nat}{ds:List D}{r:R}(h:(fnOf n N b ds).run S=.ok r S'):ds.length=n:=by
 unfold fnOf at h
 by_cases c:ds.length=n
 .exact c
 .rw[if_neg c]at h;cases h
def Fl{ps N:List Str}{O:a0}{ds:List D}(cL:dc O H)(eu:gi K mg O H S)(dM:l1 K mg O H ds vs)(ar:ds.length=ps.length):cN K mg (fe O) (ds.map dr++akQ (N.length-ps.length) .e) S (aE.start N vs) H:=by
 have Kg:=dM.len;refine⟨⟨λa ak=>cL.has a λz=>ak (pS.mpr z),cL.tabs,Ic cL⟩,?_,λi s e=>?_,eu.all (λ_ _ z=>Rep.du (lu O) z) rfl λ_ _ _ l _=>l⟩
 .unfold aE.start
  rw[aj7,aj7,ajX,ajX,alb,alb,Kg,ar]
 .by_cases aB:i<ds.length
  .rw[akq (by rw[ajX];exact aB),aku]at e
   cases dS:ds[i]? with
   |none=>rw[dS]at e;cases e
   |some d=>
    rw[dS]at e;cases e;obtain⟨v,ev,bP⟩:=dM.get dS;unfold aE.start;rw[akq (by rw[ajX,Kg];exact aB),aku,ev];exact aeR bP
  .rw[akk (by rw[ajX];omega),alT]at e
   split at e
   .cases e;exact trivial
   .cases e
def Ih{ps N:List Str}(hM:bY K mg (fnOf ps.length N.length c6) vs H Q E):kn K mg c6 { bj:=fun _ H'=>Q .aI H',cJ:=Q } (aE.start N vs) H:=by
 obtain⟨O,ds,r,S,cL,eu,dM,h,q⟩:=hM;have ar:=yC h;unfold fnOf at h;rw[if_pos ar]at h;obtain⟨a7,S1,ae,h⟩:=M.inv h;have r7:=Fl (N:=N) cL eu dM ar;have old:∀b,H b≠none->fe O b=.free\/fe O b=.out:=λb _=>ng O b
 have back:∀{ao:a0}{H':ax},ei (fe O) ao H H'->dc ao H'->∃bq:a0,Go O bq H H'/\dc bq H'/\m_ ao bq/\∀b,(ao b=.dx\/∃i,ao b=.loc i)->H b=none/\bq b=.dx:=λ{ao H'} g d=>by
  refine⟨⟨λb=>match H b with|some _=>O b|none=>(match ao b with|.loc _=>.dx|o=>o),O.bK⟩,⟨⟨λb o e n=>g.cells b o e ((old b (by rw[e];intro z;cases z)).elim .inl λz=>.inr (.inl z)) n,g.cK,g.bS⟩,λb ab=>?_,rfl⟩,⟨λb ab=>?_,d.tabs,cL.ct.1,λb m=>?_⟩,⟨λb ab=>?_,g.bK.symm⟩,λb ab=>?_⟩
  .dsimp only
   cases e:H b with
   |none=>exact absurd e ab|some o=>rfl
  .dsimp only at ab
   cases e:H b with
   |some o=>exact g.has b (by rw[e];intro z;cases z)|none=>
    rw[e]at ab;refine d.has b λz=>ab ?_
    dsimp only;rw[z]
  .dsimp only
   cases e:H b with
   |some o=>exact cL.ct.2 b m| none=>exact absurd e (cL.has b (by rw[cL.ct.2 b m];intro z;cases z))
  .dsimp only
   cases e:H b with
   |some o=>
    dsimp only;have:=(g.own b (by rw[e];intro z;cases z) (ng O b)).symm.trans ab;exact pS.mp this
   |none=>
    dsimp only;rw[ab]
  .have aF:H b=none:=by
    cases e:H b with
    |none=>rfl|some o=>
     exfalso;have bk:=g.own b (by rw[e];intro z;cases z) (ng O b);rcases ng O b with z|z<;>rw[z]at bk<;>rcases ab with w|⟨i,w⟩<;>rw[bk]at w<;>cases w
   refine⟨aF,?_⟩;dsimp only;rw[aF];rcases ab with w|⟨i,w⟩<;>rw[w]
 refine⟨fe O,_,S,a7,S1,r7,ae,?_⟩
 cases a7 with
 |bj Y'=>
  cases h;intro ao dg H' g cg _;obtain⟨bq,g2,da,f2,_⟩:=back g cg.cp;exact q bq .aI H' g2 da rfl trivial
 |c_ Y'=>cases h
 |b5 Y'=>cases h
 |cJ bJ=>
  intro ao v H' g d oj bp;obtain⟨bq,g2,da,f2,dJ⟩:=back g d
  cases bJ with
  |v dd=>cases h;exact q bq v H' g2 da (Rep.du f2 bp) trivial
  |fr xs=>
   cases h;obtain⟨a,ys,rfl,l,t,bl⟩:=bp;obtain⟨aF,bM⟩:=dJ a t;exact q bq _ H' g2 da ⟨a,ys,rfl,l,bM,bl.du f2⟩ λb c5=>by cases c5;exact aF
  |cu xs=>exact akD bp|mv xs=>exact akD bp
def Jk{P:akh}{w:World}{K:aT}{mg:bo}{base:Heap}{x qual:Str}{st:Stmt}{ps N:List Str}{k:Nat}{c6:aX}{f:Addr}{fd:ale}{n nl:Nat}(F:lh K x qual st f fd)(Sc:b9 N ps (bF st))(aF:ps.length=n)(ar:N.length=nl)
  (ab:∀(br:Value)(A:akl)(outer:List Env)(s:ajZ)(H:ax)(E:gy),cF k (A.deeper (ala qual (bF st) s.heap.objs.size f br))->
   su (g_ eE P w K mg base N qual (bF st) f br A outer s H E).gD (fq st) c6):e9 P w K mg base eE (k+1) f fd ps (bY K mg (fnOf n nl c6)):=by
 subst aF ar;exact F.ok Sc (λvs H Q E ⟨O,ds,r,S,cL,eu,dM,h,q⟩=>dM.len.trans (yC h)) λbr A outer s H vs Q E aA hM=>⟨_,ab br A outer s H E aA,Ih hM⟩
def p4{P:akh}{w:World}{K:aT}{mg:bo}{base:Heap}{x:Str}{st:Stmt}{ps N:List Str}{k:Nat}{c6:aX}{n nl:Nat}(cn:cn K mg x st ps)(Sc:b9 N ps (bF st))(aF:ps.length=n)(ar:N.length=nl)
  (ab:∀(f:Addr)(br:Value)(A:akl)(outer:List Env)(s:ajZ)(H:ax)(E:gy),cF k (A.deeper (ala x (bF st) s.heap.objs.size f br))->
   su (g_ eE P w K mg base N x (bF st) f br A outer s H E).gD (fq st) c6):b6 P w K mg base x ps (k+1) (bY K mg (fnOf n nl c6)):=by
 obtain⟨f,fd,F,b,m⟩:=cn.ex;exact⟨f,fd,Jk F Sc aF ar (λbr=>ab f br),b,F.kp,m⟩
omit [aE.a5]in
theorem IW{K:aT}{h:Heap}{mg:bo}{x:Str}{st:Stmt}{f:Addr}{ps:List Str}{df an:Option Addr}{cS:Array (Option Value)}{cZ cC pW pm cd b5:Value}(X:K.In h)(G:h.Ns akw mg)
  (a:anc K akw x=some (some (.ref f))) (l:K.lookup f=some ⟨cZ,df,.func (alL x x (h7 st) (fq st) (bF st) .none cC pW pm an cd b5),cS⟩) (c:anI K cd x=true) (k:alW K (.ref f)=true)
  (ab:∀(cC doc pm:Value)(an:Option Addr)(br b5:Value)(us:List Value),us.length=ps.length->ame (alL x x (h7 st) (fq st) (bF st) .none cC doc pm an br b5) ⟨us,[]⟩=pure (ps.zip us)):cn K mg x st ps:=
 ⟨f,_,yI (st:=st) l c k,(yI (st:=st) l c k).binds ab,anK X G a⟩
abbrev w'(K:aT):ed:=λvs H Q _=>∃(a:Addr)(ns:List Int),vs=[.ref a]/\dk K H a (ns.map V.int)/\ns.length<=63/\TabsOk H/\∀H',Q (.az true) H'
abbrev pA:Nat:=10715086071862673209484250490600018105614048117055336074437503883703510511249361224931983788156958581275946729175531468251871452856923140435984577574698574803934567774824230985421074605062371141877954182153046474983581941267398767559165543946077062914571196477686542167660429831652624386837205668069376
omit [aE.a5]in
theorem H5:pA=2 ^ 1000:=by decide +kernel
omit [aE.a5]in
theorem L_{i:Int}(h:i.natAbs<pA):alh i<=1000:=by
 unfold alh;split
 .exact akm _
 .rename_i hz
  have:i.natAbs.log2<1000:=(Nat.log2_lt (by simpa using hz)).mpr (H5▸h);omega
def n2(i j:Int):Prop:=(-(2 ^ 64)<i/\i<2 ^ 64)\/(-(2 ^ 64)<j/\j<2 ^ 64)\/(i.natAbs<pA/\j.natAbs<pA)
omit [aE.a5]in
theorem n2.ok{i j:Int}(h:n2 i j):IntMulOk i j:=by
 rcases h with h|h|h
 .exact(show xy i j from .inl h).ok
 .exact(show xy i j from .inr h).ok
 .have ae:=L_ h.1
  have ah:=L_ h.2;have ab:aoT (alh i+alh j)=false:=by
   unfold aoT;refine decide_eq_false ?_;have:(2000:Int)<=((bitsLine:Nat):Int):=by decide
   omega
  unfold IntMulOk;rw[ab];simp
instance (i j:Int):Decidable (n2 i j):=by unfold n2;exact inferInstance
def abt:en X (alV .Mult) (kg n2 λi j=>.int (i*j)):=tZ λ_ _ _ _ _ _ _ aD q=>PyProof.Rows.mul_int q aD.ok
abbrev wx:=o9 n2 (· * ·)
def QP{X:aS}:ew X.K X.mg (kg n2 λi j=>.int (i*j)) wx:=sP λ_ _ h=>h
def n1(_ j:Int):Prop:=0<j/\j.natAbs<pA
instance (i j:Int):Decidable (n1 i j):=by unfold n1;exact inferInstance
def abn:en X (alV .FloorDiv) (kg n1 λi j=>.int (i / j)):=tZ λi j _ _ _ _ _ aD q=>by
 have ae:(0:Int)<j:=aD.1;have ah:j.natAbs<pA:=aD.2;refine PyProof.Rows.floordiv_int (by omega) (by rw[an4 i (by omega)];exact q) (.inl (PyProof.noPylong_of_log2 ?_));have:j.natAbs.log2<1000:=(Nat.log2_lt (by omega)).mpr (H5▸ah);omega
abbrev gq:=o9 n1 (· / ·)
def QL{X:aS}:ew X.K X.mg (kg n1 λi j=>.int (i / j)) gq:=sP λ_ _ h=>h
def oBits:R->M R
 |.v (.int i)=>pure (.v (.int (alh i:Nat)))|_=>bad
structure F5(mg:bo):Prop where
 len:mg "len"=none
 range:mg "range"=none
 isinstance:mg "isinstance"=none
 max:mg "max"=none
 min:mg "min"=none
 any:mg "any"=none
 all:mg "all"=none
 Kz:mg "int"=none
 S6:mg "bool"=none
 Lx:mg "list"=none
 tuple':mg "tuple"=none
 ae2:mg "str"=none
 abs:mg "abs"=none
 sorted:mg "sorted"=none
 sum:mg "sum"=none
 zip:mg "zip"=none
 enumerate:mg "enumerate"=none
 reversed:mg "reversed"=none
 ajK:mg "set"=none
omit [aE.a5]in
theorem S7:akJ "abs"=some (.builtin "abs"):=by decide +kernel
omit [aE.a5]in
theorem Ta:akJ "min"=some (.builtin "min"):=by decide +kernel
end aZ
namespace aZ
open PySem PySem.Spec aE
@[simp] theorem ais{p:Prop}[Decidable p]:hI p=if p then pure ()else bad:=rfl
@[simp] theorem aid:aa d Y=pure (.v d):=rfl
@[simp] theorem ai9:R.lT (.v (.az b))=pure b:=rfl
@[simp] theorem aic{g:Int->Int->Int}{i j:Int}:rV g (.v (.int i)) (.v (.int j))=pure (.v (.int (g i j))):=rfl
@[simp] theorem aib{C:Int->Int->Prop}[∀i j,Decidable (C i j)]{g:Int->Int->Int}{i j:Int}:o9 C g (.v (.int i)) (.v (.int j))=if C i j then pure (.v (.int (g i j)))else bad:=rfl
@[simp] theorem aia{g:Int->Int->Bool}{i j:Int}:rU g (.v (.int i)) (.v (.int j))=pure (.v (.az (g i j))):=rfl
@[simp] theorem aip{i:Int}:oBits (.v (.int i))=pure (.v (.int (alh i:Nat))):=rfl
@[simp] theorem aiS:ai Y=pure []:=rfl
@[simp] theorem aiy:R.dat (.v d)=pure d:=rfl
@[simp] theorem aiv:R.dat (.fr xs)=pure (.l xs):=rfl
@[simp] theorem aix:kJ []=pure []:=rfl
@[simp] theorem aiw{r:R}:kJ (r::rs)=(do
  let d <-r.dat
  let ds <-kJ rs
  pure (d::ds)):=rfl
@[simp] theorem aiP:R.fi (.fr xs)=some xs:=rfl
@[simp] theorem aiQ:R.fi (.cu xs)=some xs:=rfl
@[simp] theorem aiZ:R.seq (.v (.t xs))=some xs:=rfl
@[simp] theorem aiY:R.seq (.fr xs)=some xs:=rfl
@[simp] theorem ai0:R.seq (.cu xs)=some xs:=rfl
@[simp] theorem aiX:R.own (.v (.l xs))=some xs:=rfl
@[simp] theorem aiW:R.own (.fr xs)=some xs:=rfl
@[simp] theorem aik:R.arg (.v d)=d:=rfl
@[simp] theorem aij:R.arg (.fr xs)=.l xs:=rfl
@[simp] theorem aiN{x:R}:fh [x]=match x.seq with
  |some xs=>pure (.v (.int (xs.length:Nat)))|none=>bad:=rfl
@[simp] theorem aiK{i:Int}:R.kind (.v (.int i))=some "int":=rfl
@[simp] theorem aiL:R.kind (.v (.str x))=some "str":=rfl
@[simp] theorem aiM:R.kind (.v (.t xs))=some "tuple":=rfl
@[simp] theorem aiC{x:R}:hJ [x,.v (.ty n)]=match x.kind with
  |some t=>if n∈["int","bool","tuple","list","str"]then pure (.v (.az (iW t n)))else bad|none=>bad:=rfl
@[simp] theorem aiD{t n:String}:iW t n=(t==n||(t == "bool"&&n == "int")):=rfl
@[simp] theorem aie{i:Int}:va [.v (.int i)]=pure (.v (.int (if i<0 then -i else i))):=rfl
@[simp] theorem aih{x:R}:VI [x]=match x.fi.bind lx with
  |some bs=>pure (.v (.az (bs.any id)))|none=>bad:=rfl
@[simp] theorem aif{x:R}:rb [x]=match x.fi.bind lx with
  |some bs=>pure (.v (.az (bs.all id)))|none=>bad:=rfl
theorem Bz{α:Type}(p:α->Bool):∀xs:List α,lx (xs.map λx=>D.az (p x))=some (xs.map p)
 |[]=>rfl| x::xs=>by rw[aj8,aj8,lx,Bz p xs];rfl
@[simp] theorem aja{x:R}:mi [x]=match x.seq with
  |some xs=>pure (.v (.t xs))|none=>bad:=rfl
@[simp] theorem aiI{i:Int}:aO (.v (.t xs)) (.v (.int i))=match eo xs i with
   |some d=>pure (.v d)|none=>bad:=rfl
@[simp] theorem aiH{i:Int}:aO (.fr xs) (.v (.int i))=match eo xs i with
   |some d=>pure (.v d)|none=>bad:=rfl
@[simp] theorem aiJ{i:Int}:aO (.cu xs) (.v (.int i))=match eo xs i with
   |some d=>pure (.v d)|none=>bad:=rfl
def pR{α:Type}{xs:List α}(k:Nat){v:α}(h:xs[k]? = some v):eo xs (k:Int)=some v:=QB h
@[simp] theorem ail{α:Type}{x:α}{xs:List α}:eo (x::xs) 0=some x:=pR 0 rfl
@[simp] theorem aim{α:Type}{x y:α}{xs:List α}:eo (x::y::xs) 1=some y:=pR 1 rfl
@[simp] theorem ain{α:Type}{x y z:α}{xs:List α}:eo (x::y::z::xs) 2=some z:=pR 2 rfl
@[simp] theorem aio{α:Type}{x y z w:α}{xs:List α}:eo (x::y::z::w::xs) 3=some w:=pR 3 rfl
@[simp] theorem aii{r:R}:iL xs [r]=(do
  let d <-r.dat
  hI (xs.length<aj3)
  pure (.v .aI,xs++[d])):=rfl
@[simp] theorem aiA{r:R}:xg xs [r]=match r.own with
  |some ys=>do
   hI (xs.length+ys.length<=aj3)
   pure (.v .aI,xs++ys)
  |none=>bad:=rfl
@[simp] theorem aiT:BC Y=pure none:=rfl
@[simp] theorem ait{cap:List Nat}:iP n cap Y=akQ n .e++cap.map λk=>ym Y[k]?:=rfl
@[simp] theorem aiu:ym (some (.v d))=.v d:=rfl
@[simp] theorem ajb:gr Y=pure true:=rfl
@[simp] theorem aiB{x:R}:kf x (.v .aI)=pure (.v (.az x.qa)):=rfl
@[simp] theorem aiU{x:R}:lM x (.v .aI)=pure (.v (.az (!x.qa))):=rfl
@[simp] theorem aiE:R.qa (.v .aI)=true:=rfl
@[simp] theorem aiG:R.qa (.v (.t xs))=false:=rfl
@[simp] theorem aiF:R.qa (.v (.str x))=false:=rfl
@[simp] theorem aiz{i j:Int}:oEq (.v (.int i)) (.v (.int j))=pure (.v (.az (i==j))):=rfl
@[simp] theorem aiR{i j:Int}:d8 (.v (.int i)) (.v (.int j))=pure (.v (.az (!(i==j)))):=rfl
def sW{x y:R}(ag:x.arg.bS 64=true)(ba:y.arg.bS 64=true):oEq x y=pure (.v (.az (jl x.arg y.arg))):=if_pos ⟨ag,ba⟩
def B2{x y:R}(ag:x.arg.bS 64=true)(ba:y.arg.bS 64=true):d8 x y=pure (.v (.az (!jl x.arg y.arg))):=if_pos ⟨ag,ba⟩
@[simp] theorem ai5:dr (.l xs)=.cu xs:=rfl
@[simp] theorem ai4{i:Int}:dr (.int i)=.v (.int i):=rfl
@[simp] theorem ai8:dr (.t xs)=.v (.t xs):=rfl
@[simp] theorem ai7:dr (.str x)=.v (.str x):=rfl
@[simp] theorem ai6:dr .aI=.v .aI:=rfl
@[simp] theorem yu{n N:Nat}{ds:List D}:fnOf n N b ds=if ds.length=n then(do
  let a7 <-b (ds.map dr++akQ (N-n) .e)
  match a7 with
  |.cJ (.v d)=>pure (.v d)|.cJ (.fr xs)=>pure (.fr xs)|.bj _=>pure (.v .aI)| _=>bad)else bad:=rfl
theorem Jc{b:D->aX}(I:Nat->aQ->Prop):∀(ds:List D)(k:Nat)(Y:aQ),I k Y->(∀i d Y,ds[i]? = some d->I (k+i) Y->∃Y',(b d Y=pure (.bj Y')\/b d Y=pure (.b5 Y'))/\I (k+i+1) Y')->
  ∃Y',ha b ds Y=pure (.bj Y')/\I (k+ds.length) Y'
 |[],k,Y,h0,_=>⟨Y,rfl,h0⟩
 |d::ds,k,Y,h0,step=>by
  obtain⟨hX,e,ae⟩:=step 0 d Y rfl h0;obtain⟨dQ,aC,ah⟩:=Jc I ds (k+1) hX ae λi d' Y' hd nA=>by
   have:=step (i+1) d' Y' (by simpa using hd) (by rw[show k+(i+1)=k+1+i by omega];exact nA);rw[show k+(i+1)+1=k+1+i+1 by omega]at this;exact this
  refine⟨dQ,?_,by rw[akd,show k+(ds.length+1)=k+1+ds.length by omega];exact ah⟩;show(b d Y >>= _)=_;rcases e with e|e<;>rw[e]<;>exact aC
def vh{b:D->aX}{ds:List D}(I:Nat->aQ->Prop)(h0:I 0 Y)(step:∀i d Y,ds[i]? = some d->I i Y->∃Y',(b d Y=pure (.bj Y')\/b d Y=pure (.b5 Y'))/\I (i+1) Y') :
  ∃Y',ha b ds Y=pure (.bj Y')/\I ds.length Y':=by
 obtain⟨Y',e,h⟩:=Jc I ds 0 Y h0 λi d Y hd nA=>by
  rw[aow]at nA ⊢;exact step i d Y hd nA
 exact⟨Y',e,by rw[aow]at h;exact h⟩
def QD{ns:List Int}{k:Nat}(h:k<ns.length):eo (ns.map D.int) (k:Int)=some (.int (ns.getD k 0)):=by
 refine pR k ?_;rw[aku,akF h];simp[aky,h]
def mod_lt{a b:Int}(h:0<b):0<=a % b/\a % b<b:=⟨aoL _ (by omega),anV _ h⟩
def aae{i:Int}(ae:-(10 ^ 200)<i)(ah:i<10 ^ 200):i.natAbs<pA:=by
 unfold pA;omega
def jd{i j:Int}(ae:0<j)(ah:j<10 ^ 200):n1 i j:=⟨ae,aae (by omega) ah⟩
end aZ
namespace aZ
open PySem PySem.Spec aE
variable[aE.a5]
def kj:List Nat->List D->aQ->aQ
 |i::is,d::ds,Y=>kj is ds (Y.set i (.v d))|_,_,Y=>Y
def jK:List Nat->pO
 |[]=>Jt|i::is=>Js (lA i) (jK is)
@[simp] def ob(is:List Nat)(m:bg)(Y:aQ):M gv:=do
 let r <-m Y
 match r with
 |.v (.t ds)=>if ds.length=is.length then pure (.bj (kj is ds Y))else bad|_=>bad
theorem AA{O:a0}:∀{is:List Nat}{ds:List D}{xs:List V}{Y:aQ}{au:St}{Q:St->ax->Prop},cN K mg O Y S au H->bc K mg O H ds xs->ds.length=is.length->
  (∀dg,cN K mg O (kj is ds Y) S dg H->eW Y (kj is ds Y) au dg->Q dg H)->jK is xs au H Q
 |[],[],xs,Y,au,Q,st,bl,ar,q=>⟨bl,q au st (eW.refl _ _)⟩
 |[],_::_,xs,Y,au,Q,st,bl,ar,q=>by cases ar
 |_::_,[],xs,Y,au,Q,st,bl,ar,q=>by cases ar
 |i::is,d::ds,xs,Y,au,Q,st,bl,ar,q=>by
  obtain⟨y,r,e,bz,bp⟩:=bl;refine⟨y,r,e,?_⟩;exact AA (is:=is) (st.val bz) bp (by simpa using ar) λdg cg k=>q dg cg (eW.trans (eW.set λxs z=>by cases z) k)
section
variable{X:aS}{is:List Nat}{e:Expr}{ay:List Expr}{k:Nat}{it:e'}{b:aX}
def wN{i:Nat}{x:Str}{p:Pos}(hN:X.N.Nodup)(aB:X.N[i]? = some x)(ag:Loc X.env.scope x)(h:l7 X ay (jK is))(aj:(akp (.Name x p::ay) X.env).map (·.2)=amr (.Name x p) X.env::(akp ay X.env).map (·.2):=by rfl)
  (hf:X.fn x=true\/X.env.scope.names.lookup x=some .local:=by first|exact .inl rfl|exact .inr rfl|assumption):l7 X (.Name x p::ay) (jK (i::is)):=acs (wL hN aB ag hf) h aj
def EJ:l7 X [] (jK []):=acu
def yb(is:List Nat)(it:e')(b:aX):aX:=λY=>do
 let ds <-it Y
 ha (λd Y=>match d with
  |.t ay=>if ay.length=is.length then b (kj is ay Y)else bad| _=>bad) ds Y
theorem VQ:∀D au H,kn K mg (yb is it b) D au H->r_ (xf K mg it) (rh K is.length (jK is)) (kn K mg b) D au H:=
 Jl (B:=fun d Y=>match d with
  |.t ay=>if ay.length=is.length then b (kj is ay Y)else bad| _=>bad) λO Y S au H d y f bh Q st bz h k=>by
  cases d with
  |t ay=>
   by_cases c:ay.length=is.length
   .dsimp only at h
    rw[if_pos c]at h;obtain⟨a,zs,e,t,jQ⟩:=bz;exact⟨a,zs,e,t,by rw[jQ.len,c],AA st jQ c λkx mX bu=>k _ _ mX bu h⟩
   .dsimp only at h
    rw[if_neg c]at h;cases h
  |_=>cases h
end
omit [aE.a5]in
@[simp] theorem ai1{is:List Nat}{Y:aQ}:kj (i::is) (d::ds) Y=kj is ds (Y.set i (.v d)):=rfl
omit [aE.a5]in
@[simp] theorem ai2:kj [] ds Y=Y:=by cases ds<;>rfl
end aZ
namespace aE
open PySem PySem.Spec PyProof.Rows
variable[aE.a5]
omit [aE.a5]in
theorem MK(ns:List Int):∀k,k<=ns.length->preSum (λi=>ns.getD i 0) k=(ns.take k).sum
 |0,_=>by rw[anJ];rfl|k+1,h=>by
  have aw:k<ns.length:=by omega
  rw[aoe,akF aw,List.sum_append];show preSum _ k+_=_;rw[MK ns k (by omega)];simp[aky,aw]
def Tu{X:aS}(aD:X.calm=true):ir X (.builtin "sum") (λxs H Q=>∃(l:Addr)(ns:List Int),xs=[.ref l]/\dk X.K H l (ns.map V.int)/\Q (.int ns.sum) H):=by
 intro zn s Y H xs us Q I bP h;obtain⟨l,ns,rfl,cI,q⟩:=h;obtain⟨u,rfl,bB⟩:=vals1 bP;cases bB;obtain⟨its,qy,p,hz⟩:=I.list cI;have fs:l<s.heap.objs.size:=by obtain⟨o,n,e,_⟩:=p;exact ake e
 have aF:its.toArray.size=ns.length:=by
  have ah:=qy.length;rw[ajX]at ah;simp[ah]
 have bI:∀(i:Nat)(v:Value),its.toArray[i]? = some v->∃t,v=anm (ns.getD i 0) t:=λi v bI=>by
  have mD:its[i]? = some v:=by simpa using bI
  have aB:i<ns.length:=by
   have ae:=(aj2.mp mD).1;have ah:=qy.length;rw[ajX]at ah;omega
  obtain⟨u,cy,d9⟩:=qy.get (i:=i) (x:=.int ns[i]) (by rw[aku,akF aB];rfl);rw[mD]at cy;cases cy;obtain⟨t,rfl⟩:=d9;exact⟨t,by rw[aky,akF aB];rfl⟩
 refine call_sum_walkG (alQ p.isList ?_);refine⟨s.heap.objs.size,_,_,_,_,_,λi=>ns.getD i 0,rfl,aoW (A:=X.A.in1) (show X.A.in1.handled=none from I.ok.hd aD) s.heap.objs.size l (akj fs) its.toArray,⟨⟨_,akb _ rfl,rfl,rfl⟩,p.isList.at λo e=>ajW _ e⟩,λb ab=>?_,bI,λh' tk t' k=>?_⟩
 .show b<(s.heap.push _).objs.size
  rw[amd];rcases aj5.mp ab with rfl|ab
  .exact aor _
  .rw[akg.mp ab];exact am8 fs
 rw[aF,MK ns _ (aj0 _),ank];exact⟨.int _,H,I.kept (h':=h') (t':=tk) λb o e=>k b o (by intro z;rw[akg.mp z]at e;exact absurd (ake e) (akI _)) (ajW _ e),⟨_,rfl⟩,q⟩
end aE
namespace aZ
open PySem PySem.Spec aE
variable[aE.a5]
omit [aE.a5]in
theorem Tc:akJ "sum"=some (.builtin "sum"):=by decide +kernel
def nums:List D->Option (List Int)
 |[]=>some []|.int b::r=>(nums r).map (b::·)|_=>none
def s7:List R->M R
 |[x]=>match x.fi.bind nums with
  |some bs=>pure (.v (.int bs.sum))|none=>bad
 |_=>bad
section
variable{K:aT}{mg:bo}
theorem tR{O:a0}:∀{ds:List D}{ys:List V}{bs:List Int},bc K mg O H ds ys->nums ds=some bs->ys=bs.map V.int
 |[],ys,bs,h,e=>by cases e;exact h
 |d::ds,ys,bs,h,e=>by
  cases d with
  |int b=>
   have e:(nums ds).map (b::·)=some bs:=e;obtain⟨cs,av,rfl⟩:=amC.mp e;obtain⟨y,r,rfl,ae,ah⟩:=h;rw[tR ah av,show y=.int b from ae];rfl
  |_=>exact absurd (show(none:Option (List Int))=some bs from e) (by intro z;cases z)
def Zn:i5 K mg (λxs H Q=>∃(l:Addr)(bs:List Int),xs=[.ref l]/\dk K H l (bs.map V.int)/\Q (.int bs.sum) H) s7:=λO Y S au H vs rs bJ S' Q st aA h q=>by
 unfold s7 at h;split at h
 .rename_i x
  obtain⟨v,rfl,ag⟩:=kh aA;split at h
  .rename_i xs e
   cases h;obtain⟨zs,av,aC⟩:=aoE.mp e;obtain⟨a,ys,rfl,l,bl⟩:=R.nI ag av;rw[tR bl aC]at l;exact⟨a,xs,rfl,l,q O _ H (Go.refl _ _) st rfl trivial⟩
  .cases h
 .cases h
end
omit [aE.a5]in
theorem Ef{α:Type}(p:α->Int):∀xs:List α,nums (xs.map λx=>D.int (p x))=some (xs.map p)
 |[]=>rfl| x::xs=>by rw[aj8,aj8,nums,Ef p xs];rfl
end aZ
namespace aZ
open PySem PySem.Spec aE
section
variable[aE.a5](X:aS)
structure a_(e:Expr)(m:bg):Prop where
 un:hC X e m
structure fB(e:Expr)(m:aQ->M Bool):Prop where
 un:F9 X e m
structure lp(e:Expr)(m:aQ->M Bool):Prop where
 un:xB X e m
structure gK(e:List Expr)(m:c8):Prop where
 un:AU X e m
structure sJ(e:Option Expr)(m:pG):Prop where
 un:PY X e m
structure fa(e:Stmt)(m:aX):Prop where
 un:F8 X e m
structure fm(e:List Stmt)(m:aX):Prop where
 un:su X e m
structure pQ(b8 e:Expr)(m:e'):Prop where
 un:F6 X b8 e m
structure uK(b8 e:Expr)(m:e'):Prop where
 un:PX X b8 e m
structure pP(e:List Expr)(m:aQ->M Bool):Prop where
 un:AV X e m
end
section
variable[aE.a5]
variable{X:aS}{a e:Expr}{pos:Pos}
theorem eL(i:Nat)(hN:X.N[i]? = some x:=by rfl)(bI:qY X.env.scope x:=by first|exact alU rfl|exact akU (.inl rfl)|exact akU (akU rfl))(hd:(x==("__debug__":Str))=false:=by decide)(gA:(x==("__classdict__":Str))=false:=by decide):a_ X (.Name x pos) (J i):=⟨eg (z6 hN bI hd gA) λau H Q aW=>by
 obtain⟨O,Y,S,r,S',st,h,q⟩:=aW;unfold J at h
 cases e:Y[i]? with
 |none=>rw[e]at h;cases h
 |some s=>
  rw[e]at h;have l:=st.loc i s e;have get:∀{v:V},au[i]?.join=some v->au[i]? = some (some v):=λ{v} z=>by
   cases w:au[i]? with
   |none=>rw[w]at z;cases z
   |some y=>rw[w]at z;exact congrArg some z
  cases s with
  |v d=>
   obtain⟨v,av,aC⟩:=l;cases h;exact⟨v,get av,q O v H (Go.refl _ _) st aC trivial⟩
  |er p xs=>
   obtain⟨a,ys,av,aC,c4,fD⟩:=l;cases h;exact⟨_,get av,q O _ H (Go.refl _ _) st ⟨a,ys,rfl,c4,fD⟩ trivial⟩
  |cu xs=>
   obtain⟨a,ys,av,aC,fD⟩:=l;cases h;exact⟨_,get av,q O _ H (Go.refl _ _) st ⟨a,ys,rfl,aC,fD⟩ trivial⟩
  |e=>cases h⟩
end
section
variable[aE.a5]
variable{X:aS}{e:Expr}{ay:List Expr}{m:bg}{ms:c8}
def fZ(ak:a_ X e m)(aA:gK X ay ms)(aj:ajY (e::ay) X.env=(false,eval e X.env)::ajY ay X.env:=by rfl):gK X (e::ay) (U m ms):=⟨z5 (z4 ak.un aA.un aj) λau H Q aW=>by
 obtain⟨O,Y,S,r,S',st,h,q⟩:=aW;obtain⟨x,S1,ae,h⟩:=M.inv h;obtain⟨xs,bh,ah,h⟩:=M.inv h;cases h;refine⟨O,Y,S,x,S1,st,ae,λaJ gf H1 g1 aU a4 bj=>?_⟩;refine⟨aJ,Y,S1,xs,_,aU,ah,λbq vs aM g2 cV rs ns=>?_⟩;exact q bq (gf::vs) aM (g1.trans g2) cV ⟨gf,vs,rfl,a4.go g2,rs⟩ ⟨bj,ns.back g1.same⟩⟩
end
section
variable[aE.a5]
variable{X:aS}{pos:Pos}
def hi{i j pos}:a_ X (.Constant (.int i) j pos) (aa (.int i)):=⟨u0 ab9 λ_ _=>rfl⟩
end
section
variable[aE.a5]
variable{X:aS}
def k7 :gK X [] ai:=⟨z5 EE λau H Q aW=>by
 obtain⟨O,Y,S,r,S',st,h,q⟩:=aW;cases h;exact q O [] H (Go.refl _ _) st rfl trivial⟩
end
section
variable[aE.a5]
variable{X:aS}{a b:Expr}{cR c6:bg}{pos:Pos}
def lW{r:fU}(a':en X (alV op) r)(hf:ew X.K X.mg r f)(ak:a_ X a cR)(ab:a_ X b c6):a_ X (.BinOp a op b pos) (af f cR c6):=⟨eg (acj a' ak.un ab.un) (uT hf)⟩
end
section
variable[aE.a5]
variable{X:aS}{st:Stmt}{rest:List Stmt}{a b:aX}
def qJ(ae:fa X st a)(ah:fm X rest b):fm X (st::rest) (b4 a b):=⟨z9 (MN ae.un ah.un) λD au H aW=>by
 obtain⟨O,Y,S,a7,S',st,h,q⟩:=aW;obtain⟨f1,S1,ae,h⟩:=M.inv h;refine⟨O,Y,S,f1,S1,st,ae,?_⟩
 cases f1 with
 |bj hX=>exact λaJ xx H1 g1 aU gS=>⟨aJ,hX,S1,a7,S',aU,h,q.aL g1 gS⟩
 |cJ r=>cases h;exact q
 |c_ hX=>cases h;exact q
 |b5 hX=>cases h;exact q⟩
end
section
variable[aE.a5]
variable{X:aS}{st:Stmt}{a:aX}
def si(h:fa X st a):fm X [st] a:=⟨MO h.un⟩
end
section
variable[aE.a5]
variable{X:aS}{a b:Expr}{cR c6:bg}{pos:Pos}
def ip{r:fU}(a':m' X r)(hf:ew X.K X.mg r f)(ak:a_ X a cR)(ab:a_ X b c6)(aj:Gl b:=by exact λ_ _=>rfl):a_ X (.Subscript a b pos) (af f cR c6):=⟨eg (aca a' ak.un ab.un aj) (uT hf)⟩
end
section
variable[aE.a5]
variable{X:aS}{st:Stmt}{pos:Pos}{e:Expr}{m:bg}
theorem uo(he:a_ X e m):fa X (.Return (some e) pos) (bw m):=⟨gW (EM he.un) λD au H aW=>by
 obtain⟨O,Y,S,a7,S',st,h,q⟩:=aW;obtain⟨r,S1,ae,h⟩:=M.inv h;refine⟨O,Y,S,r,S1,st,ae,λaJ v H1 g1 aU bp nn=>?_⟩
 cases r with
 |v d=>cases h;exact q aJ v H1 g1.aL aU.cp aU.gF bp
 |fr xs=>cases h;exact q aJ v H1 g1.aL aU.cp aU.gF (Nc bp (.inr ⟨_,rfl⟩))
 |cu xs=>cases h
 |mv xs=>cases h⟩
end
section
variable[aE.a5]
variable{X:aS}{ay:List Expr}{ms:c8}{pos:Pos}
def qI{lX}(h:gK X ay ms):a_ X (.Tuple ay lX pos) (bG ms):=⟨eg (EI h.un) λau H Q aW=>by
 obtain⟨O,Y,S,r,S',st,h,q⟩:=aW;obtain⟨rs,S1,ae,h⟩:=M.inv h;obtain⟨ds,bh,ah,h⟩:=M.inv h;obtain⟨_,h4,bN,h⟩:=M.inv h;obtain⟨ar,rfl⟩:=q2 bN;cases h;refine⟨O,Y,S,rs,S1,st,ae,λaJ vs H1 g1 aU bp nn=>?_⟩;obtain⟨bl,rfl⟩:=yn (H₀:=H) bp nn ah;refine⟨ak8 (eQ (by rw[bl.len];exact ar)),λp aH=>?_⟩;exact q (ck H aJ) _ _ (g1.ck.trans (Go.fu aH)) ((aU.ck H).fu aH) ⟨p,vs,rfl,dD.of dy,bl.go (Go.fu aH)⟩ trivial⟩
end
section
variable[aE.a5]
variable{X:aS}{pos:Pos}{e:Expr}{m:bg}
variable{i:Nat}{x:Str}{pos':Pos}
def FO(hN:X.N.Nodup)(aB:X.N[i]? = some x)(ag:Loc X.env.scope x)(he:a_ X e m)(aj:alu e (some (.Name x pos')) pos.line X.env=pure false:=by rfl)(hf:X.fn x=true\/X.env.scope.names.lookup x=some .local:=by first|exact .inl rfl|exact .inr rfl|assumption):fa X (.Assign [.Name x pos'] e pos) (b1 i m):=⟨gW (EO hN aB ag he.un aj hf) (OD λ_ _ _ h=>h)⟩
end
section
variable[aE.a5]
variable{X:aS}{x:Str}{ps:List Str}{k:Nat}{mf:bC}{p pos:Pos}{e:Expr}{ay:List Expr}{ms:c8}
def agh(h:b6 X.prog X.w X.K X.mg X.base x ps k (bY X.K X.mg mf))(aA:cF k X.A)(aV:eF X x)(ak:gK X (e::ay) ms)(eC:(x==("__debug__":Str))=false:=by decide)(he:ajY (e::ay) X.env=(false,eval e X.env)::ajY ay X.env:=by rfl)(eU:(akr pos (ajY ay X.env)).any (·.1)=false:=by rfl):a_ X (.Call (.Name x p) (e::ay) [] pos) (bt mf ms):=⟨eg (EH h aA aV ak.un eC he eU) BG⟩
end
section
variable[aE.a5]
variable{X:aS}{x:Str}{ps:List Str}{k:Nat}{mf:bC}{p pos:Pos}
def agi(h:b6 X.prog X.w X.K X.mg X.base x ps k (bY X.K X.mg mf))(aA:cF k X.A)(aV:eF X x)(eC:(x==("__debug__":Str))=false:=by decide):a_ X (.Call (.Name x p) [] [] pos) (bt mf ai):=⟨eg (ab7 h aA aV eC) λau H Q h=>by
  obtain⟨O,Y,S,rs,S1,st,ae,q⟩:=BG au H Q h;cases ae;exact q O [] H (Go.refl _ _) st rfl trivial⟩
end
section
variable[aE.a5]
variable{X:aS}{e:Expr}{ay:List Expr}{ms:c8}{pos p:Pos}{x:Str}{id:String}{r:List V->ax->cX->Prop}{f:List R->M R}
def lV(aD:ir X (.builtin id) r)(hf:i5 X.K X.mg r f)(aV:eF X x)(hm:X.mg x=none)(bI:akJ x=some (.builtin id))(ak:gK X (e::ay) ms)(aF:x≠"__name__":=by decide)(eC:(x==("__debug__":Str))=false:=by decide)(he:ajY (e::ay) X.env=(false,eval e X.env)::ajY ay X.env:=by rfl)(eU:(akr pos (ajY ay X.env)).any (·.1)=false:=by rfl):a_ X (.Call (.Name x p) (e::ay) [] pos) (b_ f ms):=⟨eg (abY aD aV hm bI ak.un aF eC he eU) (Io hf)⟩
end
section
variable[aE.a5]
variable{X:aS}{st:Stmt}{pos:Pos}{a b:aX}
theorem FN{t:aQ->M Bool}(aD:fB X c t)(ak:fm X A a)(ab:fm X B b):fa X (.If c A B pos) (cP t a b):=⟨gW (MM aD.un ak.un ab.un) λD au H aW=>by
 obtain⟨O,Y,S,a7,S',st,h,q⟩:=aW;obtain⟨t,S1,ae,h⟩:=M.inv h;refine⟨O,Y,S,t,S1,st,ae,λaJ H1 g1 aU=>?_⟩
 cases t with
 |false=>
  rw[if_neg aj6]at h;exact oK ⟨aJ,Y,S1,a7,S',aU,h,q.aL g1.aL (eW.refl _ _)⟩
 |true=>
  rw[if_pos rfl]at h;exact oL ⟨aJ,Y,S1,a7,S',aU,h,q.aL g1.aL (eW.refl _ _)⟩⟩
end
section
variable[aE.a5]
variable{X:aS}{st:Stmt}
theorem FP :fm X [] cj:=⟨z9 acJ λD au H aW=>by obtain⟨O,Y,S,a7,S',st,h,q⟩:=aW;cases h;exact q O au H (ei.refl _ _) st (eW.refl _ _)⟩
end
section
variable[aE.a5]
variable{X:aS}{a b:Expr}{cR c6:bg}{pos:Pos}
def jv{r:fU}(a':en X (akK op) r)(hf:ew X.K X.mg r f)(ak:a_ X a cR)(ab:a_ X b c6)(hm:alS op b=false:=by exact i0 _):fB X (.Compare a [op] [b] pos) (a3 (af f cR c6)):=⟨r2 (acL a' ak.un ab.un hm) λau H Q h=>O2 (uT hf) au H Q (Fs au H Q h)⟩
end
section
variable[aE.a5]
variable{X:aS}{a:Expr}{cR:bg}{pos:Pos}
def agV(ak:a_ X a cR)(he:∀whole,isTrue a X.env whole=(do let v <-whole;amG a.pos;alP [v] (truthy v)):=by intro _;rfl):fB X a (a3 cR):=⟨r2 (MQ ak.un he) λau H Q h=>Fs au H Q h⟩
end
section
variable[aE.a5]
variable{X:aS}{e:Expr}
def sg{v:V}(h:bQ X e (pg v))(r:∀O H,Rep X.K X.mg O H d v):a_ X e (aa d):=⟨u0 h r⟩
end
section
variable[aE.a5]
variable{X:aS}{ay:List Expr}{ms:c8}{pos:Pos}
def agp(h:gK X ay ms):a_ X (.List ay pos) (dh ms):=⟨eg (acb h.un) λau H Q aW=>by
 obtain⟨O,Y,S,r,S',st,h,q⟩:=aW;obtain⟨rs,S1,ae,h⟩:=M.inv h;obtain⟨ds,bh,ah,h⟩:=M.inv h;obtain⟨_,h4,bN,h⟩:=M.inv h;obtain⟨ar,rfl⟩:=q2 bN;cases h;refine⟨O,Y,S,rs,S1,st,ae,λaJ vs H1 g1 aU bp nn=>?_⟩;obtain⟨bl,rfl⟩:=yn (H₀:=H) bp nn ah;refine⟨ak8 (eQ (by rw[bl.len];exact ar)),λp aH=>?_⟩;refine q (fL (ck H aJ) p .dx) _ _ (g1.ck.trans (Go.new aH)) ((aU.ck H).new aH) ⟨p,vs,rfl,dy,m1,bl.go (Go.new aH)⟩ λa gm=>?_
 cases gm;exact g1.same.free aH⟩
end
section
variable[aE.a5]
variable{X:aS}{b:Expr}{pos:Pos}
def agg{b j pos}:a_ X (.Constant (.bool b) j pos) (aa (.az b)):=⟨u0 abU λ_ _=>rfl⟩
end
section
variable[aE.a5]
variable{X:aS}{a:Expr}{bT:aQ->M Bool}{pos:Pos}
def agU(ak:fB X a bT):fB X (.UnaryOp .Not a pos) (fw bT):=⟨r2 (MP ak.un) λau H Q aW=>by
 obtain⟨O,Y,S,r,S',st,h,q⟩:=aW;obtain⟨t,S1,ae,h⟩:=M.inv h;cases h;exact⟨O,Y,S,t,_,st,ae,λaJ H1 g1 aU=>q aJ H1 g1 aU⟩⟩
end
section
variable[aE.a5]
variable{X:aS}{a b:Expr}{bT cK:aQ->M Bool}{pos:Pos}
variable{rest:List Expr}
def agY(ak:fB X a bT)(ab:lp X (.BoolOp .Or (b::rest) pos) cK):lp X (.BoolOp .Or (a::b::rest) pos) (hh bT cK):=⟨ES (MS ak.un ab.un) λau H Q aW=>by
 obtain⟨O,Y,S,r,S',st,h,q⟩:=aW;obtain⟨t,S1,ae,h⟩:=M.inv h;refine⟨O,Y,S,t,S1,st,ae,λaJ H1 g1 aU=>?_⟩
 cases t with
 |true=>
  rw[if_pos rfl]at h;cases h;exact oL (q aJ H1 g1 aU)
 |false=>
  rw[if_neg aj6]at h;exact oK ⟨aJ,Y,S1,r,S',aU,h,λao H' g cg=>q ao H' (g1.trans g) cg⟩⟩
end
section
variable[aE.a5]
variable{X:aS}{pos:Pos}
def agA{x j pos}:a_ X (.Constant (.str x) j pos) (aa (.str x)):=⟨u0 ME λ_ _=>rfl⟩
end
section
variable[aE.a5]
variable{X:aS}{pos:Pos}
def agu{j pos}:a_ X (.Constant .none j pos) (aa .aI):=⟨u0 acg λ_ _=>rfl⟩
end
section
variable[aE.a5]
variable{X:aS}{a b:Expr}{cR c6:bg}{pos:Pos}
def qH{r:fU}(a':en X (akK op) r)(hf:ew X.K X.mg r f)(ak:a_ X a cR)(ab:a_ X b c6)(hm:alS op b=false):a_ X (.Compare a [op] [b] pos) (af f cR c6):=⟨eg (ab1 a' ak.un ab.un hm) (uT hf)⟩
end
section
variable[aE.a5]
variable{X:aS}{iter:Expr}{it:e'}{i:Nat}{b:aX}{body:List Stmt}{pos d2:Pos}{x:Str}
def agM(aH:anQ (model X.prog X.w) X.A X.env X.dV)(aD:X.calm=true)(aB:uK X (.Name x d2) iter it)(hN:X.N.Nodup)(ag:X.N[i]? = some x)(ar:Loc X.env.scope x)(ab:fm X body b)(aj:∀x,akN iter X.env x=pure x:=by intro _;rfl)(hf:X.fn x=true\/X.env.scope.names.lookup x=some .local:=by first|exact .inl rfl|exact .inr rfl|assumption):fa X (.For (.Name x d2) iter body [] pos) (oa i it b):=⟨gW (z8 aH aD aB.un (wL hN ag ar hf) ab.un aj) VT⟩
end
section
variable[aE.a5]
variable{X:aS}{a b:Expr}{cR c6:bg}{pos:Pos}
variable{rest:List Expr}
def agd(ak:a_ X a cR)(ab:a_ X (.BoolOp .And (b::rest) pos) c6):a_ X (.BoolOp .And (a::b::rest) pos) (j1 cR c6):=⟨eg (abT ak.un ab.un) λau H Q aW=>by
 obtain⟨O,Y,S,r,S',st,h,q⟩:=aW;obtain⟨x,S1,ae,h⟩:=M.inv h;obtain⟨t,bh,ah,h⟩:=M.inv h;obtain⟨rfl,rfl⟩:=uh ah;refine⟨O,Y,S,_,_,st,ae,λaJ gf H1 g1 aU a4 bj=>⟨t,a4,?_⟩⟩
 cases t with
 |false=>
  rw[if_neg aj6]at h;cases h;exact oK (q aJ _ H1 g1 aU rfl trivial)
 |true=>
  rw[if_pos rfl]at h;exact oL ⟨aJ,Y,_,r,S',aU,h,λao v H' g cg bp nn=>q ao v H' (g1.trans g) cg bp (nn.back g1.same)⟩⟩
end
section
variable[aE.a5]
variable{X:aS}{a b:Expr}{cR c6:bg}{pos:Pos}
variable{rest:List Expr}
def agx(ak:a_ X a cR)(ab:a_ X (.BoolOp .Or (b::rest) pos) c6):a_ X (.BoolOp .Or (a::b::rest) pos) (uX cR c6):=⟨eg (ack ak.un ab.un) λau H Q aW=>by
 obtain⟨O,Y,S,r,S',st,h,q⟩:=aW;obtain⟨x,S1,ae,h⟩:=M.inv h;obtain⟨t,bh,ah,h⟩:=M.inv h;obtain⟨rfl,rfl⟩:=uh ah;refine⟨O,Y,S,_,_,st,ae,λaJ gf H1 g1 aU a4 bj=>⟨t,a4,?_⟩⟩
 cases t with
 |true=>
  rw[if_pos rfl]at h;cases h;exact oL (q aJ _ H1 g1 aU rfl trivial)
 |false=>
  rw[if_neg aj6]at h;exact oK ⟨aJ,Y,_,r,S',aU,h,λao v H' g cg bp nn=>q ao v H' (g1.trans g) cg bp (nn.back g1.same)⟩⟩
end
section
variable[aE.a5]
variable{X:aS}{a:Expr}{bT:aQ->M Bool}{pos:Pos}
def agZ(ak:fB X a bT):lp X (.BoolOp .Or [a] pos) bT:=⟨MT ak.un⟩
end
section
variable[aE.a5]
variable{X:aS}{a b:Expr}{bT cK:aQ->M Bool}{pos:Pos}
variable{rest:List Expr}
def agW(ak:fB X a bT)(ab:lp X (.BoolOp .And (b::rest) pos) cK):lp X (.BoolOp .And (a::b::rest) pos) (jr bT cK):=⟨ES (acO ak.un ab.un) λau H Q aW=>by
 obtain⟨O,Y,S,r,S',st,h,q⟩:=aW;obtain⟨t,S1,ae,h⟩:=M.inv h;refine⟨O,Y,S,t,S1,st,ae,λaJ H1 g1 aU=>?_⟩
 cases t with
 |false=>
  rw[if_neg aj6]at h;cases h;exact oK (q aJ H1 g1 aU)
 |true=>
  rw[if_pos rfl]at h;exact oL ⟨aJ,Y,S1,r,S',aU,h,λao H' g cg=>q ao H' (g1.trans g) cg⟩⟩
end
section
variable[aE.a5]
variable{X:aS}{e:Expr}{m:bg}
def agK(he:a_ X e m):sJ X (some e) (sT m):=⟨λzn s au H Q I aW=>by
 obtain⟨O,Y,S,r,S',st,h,q⟩:=aW;obtain⟨x,S1,ae,h⟩:=M.inv h;split at h
 .rename_i i
  cases h;exact acA he.un zn s au H Q I ⟨O,Y,S,_,_,st,ae,λaJ v H1 g1 aU bp _=>⟨i,bp,q aJ H1 g1 aU⟩⟩
 .cases h⟩
end
section
variable[aE.a5]
variable{X:aS}
def agJ :sJ X none BC:=⟨λzn s au H Q I aW=>by
 obtain⟨O,Y,S,r,S',st,h,q⟩:=aW;cases h;exact acz zn s au H Q I (q O H (Go.refl _ _) st)⟩
end
section
variable[aE.a5]
variable{X:aS}{e:Expr}{m:bg}{lo aB:Option Expr}{kW wc:pG}{pos dv:Pos}
def agy(he:a_ X e m)(ar:sJ X lo kW)(cy:sJ X aB wc):a_ X (.Subscript e (.Slice lo aB none dv) pos) (yf m kW wc):=⟨eg (MD (aeN.or OH) he.un ar.un cy.un) λau H Q aW=>by
 obtain⟨O,Y,S,r,S',st,h,q⟩:=aW;obtain⟨x,S1,ae,ak⟩:=M.inv h;clear h;obtain⟨l,bh,ah,ab⟩:=M.inv ak;clear ak;obtain⟨u,h4,bN,h⟩:=M.inv ab;clear ab;refine⟨O,Y,S,x,S1,st,ae,λaJ gf H1 g1 aU a4 bj=>?_⟩;refine⟨aJ,Y,S1,l,bh,aU,ah,λbq aM g2 cV=>?_⟩;refine⟨bq,Y,bh,u,h4,cV,bN,λeM cT g3 gZ=>?_⟩;have g:=(g1.trans g2).trans g3;have Ae:=a4.go (g2.trans g3);unfold Mm at h;split at h
 .rename_i xs
  by_cases c:dZ.cU xs.length 0 l=0/\dZ.cU xs.length xs.length u=xs.length
  .rw[if_pos c]at h;cases h
  .rw[if_neg c]at h
   cases h;obtain⟨a,ys,rfl,cb,bl⟩:=Ae;exact .inr ⟨a,ys,rfl,cb,by rw[bl.len];exact c,λp aH=>q eM _ _ (g.trans (Go.fu aH)) (gZ.fu aH) ⟨p,_,rfl,dD.of dy,(bl.cut l u).go (Go.fu aH)⟩ trivial⟩
 .split at h
  .rename_i xs av
   cases h;obtain⟨a,ys,rfl,cb,bl⟩:=R.nI Ae av;refine .inl ⟨a,ys,rfl,cb,λp aH=>q (fL eM p .dx) _ _ (g.trans (Go.new aH)) (gZ.new aH) ⟨p,_,rfl,dy,m1,(bl.cut l u).go (Go.new aH)⟩ λb c5=>?_⟩;cases c5;exact g.same.free aH
  .cases h⟩
end
section
variable[aE.a5]
variable{X:aS}{a:Expr}{cR:bg}{pos:Pos}
def agw{op}(h:a_ X a cR):a_ X (.BoolOp op [a] pos) cR:=⟨aci h.un⟩
end
section
variable[aE.a5]
variable{X:aS}{scope esc:Scope}{EN N:List Str}{n:Nat}{cap:List Nat}{elt iter:Expr}{ifs:List Expr}{pos d2:Pos}{x:Str}{it:e'}{t:aQ->M Bool}{el:bg}
def agk(S:la esc scope EN N n cap)(aF:0<n)(aB:pQ X (.Name x d2) iter it)(ag:N[0]? = some x)(iT:∀C aK s H,Loc (cx X scope N C aK s H).env.scope x/\(cx X scope N C aK s H).env.scope.names.lookup x=some .local)(bM:∀C aK s H,pP (cx X scope N C aK s H) ifs t)(h_:∀C aK s H,a_ (cx X scope N C aK s H) elt el)(he:X.env.scope=esc:=by rfl)(hN:X.N=EN:=by rfl)(aD:X.calm=true:=by rfl)(aj:∀x,akN iter X.env x=pure x:=by intro _;rfl):a_ X (.ListComp elt [⟨.Name x d2,iter,ifs,0⟩] scope pos) (e3 n cap it t el):=⟨eg (EG (wi:=qC X.K X.mg it) (g:=lA 0) (tt:=k5 X.K X.mg t) (te:=fk X.K X.mg el) S aB.un (λC aK s H=>wL S.dU ag (iT C aK s H).1 (.inr (iT C aK s H).2)) (λC aK s H=>(bM C aK s H).un) (λC aK s H=>(h_ C aK s H).un) he hN aD aj) (BO aF)⟩
end
section
variable[aE.a5]
variable{X:aS}{x:Str}{i:Nat}{p apos dp pos:Pos}{e:Expr}{ay:List Expr}{ms:c8}{name:Str}{id:String}{f:List D->List R->M (R×List D)}{r:V->List V->ax->cX->Prop}
def AG(slot:PySem.Slot "list" name id)(rx:typeOf (.builtin id)=pure (.type "method_descriptor"))(hm:xJ X id r)(hf:uz X.K X.mg r f)(ak:gK X (e::ay) ms)(hN:X.N[i]? = some x)(bI:qY X.env.scope x)(hd:(x==("__debug__":Str))=false:=by decide)(gA:(x==("__classdict__":Str))=false:=by decide)(ox:alJ (.Name x p) name X.env (eval (.Name x p) X.env)=eval (.Name x p) X.env:=by rfl) (vC:((akr dp (ajY (e::ay) X.env)).all (λx=>!x.1)&&(alN dp (alm [] X.env)).all (λx=>x.1.isSome)
&&decide ((e::ay).length+([]:List am7).length+(if([]:List am7).isEmpty then 0 else 1)<30))=true:=by rfl) (oF:(apos.endLine==dp.line)=true:=by rfl) (aj:ajY (e::ay) X.env=(false,eval e X.env)::ajY ay X.env:=by rfl) (iU:(akr dp (ajY ay X.env)).any (·.1)=false:=by rfl) (mC:alu (.Call (.Attribute (.Name x p) name apos) (e::ay) [] dp) none pos.line X.env=pure false:=by rfl):fa X (.Expr (.Call (.Attribute (.Name x p) name apos) (e::ay) [] dp) pos) (l' i f ms):=⟨gW (EL (Mz aoF slot rx hm (z6 hN bI hd gA) ak.un ox vC oF aj iU) mC) λD au H aW=>by
  obtain⟨O,Y,S,a7,S',st,h,q⟩:=aW;obtain⟨⟨cq,dQ⟩,S1,ae,h⟩:=M.inv h;cases h;exact aaC hf st ae λao v H' g cg k _=>q ao au H' g cg k⟩
end
section
variable[aE.a5]
variable{X:aS}{a:Expr}{bT:aQ->M Bool}{pos:Pos}
def agX(ak:fB X a bT):lp X (.BoolOp .And [a] pos) bT:=⟨acP ak.un⟩
end
section
variable[aE.a5]
variable{X:aS}{b8 l:Expr}{m:bg}{a:Expr}
theorem agD(ar:a_ X l m):uK X b8 l (Dd m):=⟨qv (EK ar.un) λau H R aW=>by
 obtain⟨O,Y,S,xs,S',st,h,q⟩:=aW;obtain⟨r,S1,ae,h⟩:=M.inv h;refine⟨O,Y,S,r,S1,st,ae,λaJ v H1 g1 aU bp nn=>?_⟩;split at h
 .cases h
  obtain⟨a,ys,rfl,ls,bl⟩:=bp;exact⟨a,rfl,⟨ys,ls.dI⟩,q aJ H1 (l5 X.K a) ys g1 aU (Dk (.inl ⟨.inl ls.1,.inl ls.2⟩)) bl⟩
 .cases h
  obtain⟨a,ys,rfl,ls,t,bl⟩:=bp;exact⟨a,rfl,⟨ys,dk.of ls⟩,q (ck H aJ) H1 (l5 X.K a) ys g1.ck (aU.ck H) (Dk (.inl ⟨.inl ls,.inl (yH (nn a rfl) t)⟩)) (bl.du (je _ _))⟩
 .cases h
  obtain⟨a,ys,rfl,ls,bl⟩:=bp;exact⟨a,rfl,⟨ys,ls.dI⟩,q aJ H1 (l5 X.K a) ys g1 aU (Dk ls) bl⟩
 .cases h⟩
end
section
variable[aE.a5]
def agt(ak:a_ X a cR):a_ X (.UnaryOp .USub a pos) (bL wy cR):=⟨eg (acn afZ ak.un) λau H Q aW=>by
 obtain⟨O,Y,S,r,S',st,h,q⟩:=aW;obtain⟨x,S1,ae,h⟩:=M.inv h;unfold wy at h;split at h
 .rename_i i
  cases h;exact⟨O,Y,S,_,_,st,ae,λaJ gf H1 g1 aU a4 bj=>⟨i,a4,q aJ _ H1 g1 aU rfl trivial⟩⟩
 .cases h⟩
end
section
variable[aE.a5]
variable{X:aS}{pos:Pos}{e:Expr}{m:bg}
variable{i:Nat}{x:Str}{pos':Pos}
def agQ(hN:X.N.Nodup)(aB:X.N[i]? = some x)(ag:Loc X.env.scope x)(he:a_ X e m)(aj:alu e (some (.Name x pos')) pos.line X.env=pure false:=by rfl)(hf:X.fn x=true\/X.env.scope.names.lookup x=some .local:=by first|exact .inl rfl|exact .inr rfl|assumption):fa X (.Assign [.Name x pos'] e pos) (j3 i m):=⟨gW (EO hN aB ag he.un aj hf) (Mw λ_ _ _ h=>h)⟩
end
section
variable[aE.a5]
def agG:pP X [] gr:=⟨λzn s Y H Q I aW=>by
 obtain⟨O,Y',S,b,S',st,h,q⟩:=aW;cases h;exact acp zn s Y H Q I (q O H (Go.refl _ _) st)⟩
end
section
variable[aE.a5]
variable{X:aS}{a:Expr}{cR:bg}{pos:Pos}
def agv(ak:a_ X a cR):a_ X (.UnaryOp .Not a pos) (yd cR):=⟨eg (ach ak.un) λau H Q aW=>by
 obtain⟨O,Y,S,r,S',st,h,q⟩:=aW;obtain⟨x,S1,ae,h⟩:=M.inv h;obtain⟨t,bh,ah,h⟩:=M.inv h;obtain⟨rfl,rfl⟩:=uh ah;cases h;exact⟨O,Y,S,_,_,st,ae,λaJ gf H1 g1 aU a4 bj=>⟨t,a4,q aJ _ H1 g1 aU rfl trivial⟩⟩⟩
end
section
variable[aE.a5]
variable{X:aS}{e:Expr}{ay:List Expr}{ms:c8}{pos p:Pos}{x:Str}{T:String}{r:List V->ax->cX->Prop}{f:List R->M R}
def xk(aD:ir X (.type T) r)(hf:i5 X.K X.mg r f)(aV:eF X x)(hm:X.mg x=none)(bI:akJ x=some (.type T))(ak:gK X (e::ay) ms)(aF:x≠"__name__":=by decide)(eC:(x==("__debug__":Str))=false:=by decide)(he:ajY (e::ay) X.env=(false,eval e X.env)::ajY ay X.env:=by rfl)(eU:(akr pos (ajY ay X.env)).any (·.1)=false:=by rfl):a_ X (.Call (.Name x p) (e::ay) [] pos) (b_ f ms):=⟨eg (abZ aD aV hm bI ak.un aF eC he eU) (Io hf)⟩
end
section
variable[aE.a5]
def FJ{t:aQ->M Bool}(h:fB X c t):pP X [c] t:=⟨acq h.un⟩
end
section
variable[aE.a5]
variable{X:aS}{b8:Expr}{a:Expr}{ms:c8}{pos p:Pos}
def agE(aV:eF X "range")(hm:X.mg "range"=none)(ak:gK X [a] ms)(aj:ajY [a] X.env=[(false,eval a X.env)]:=by rfl):uK X b8 (.Call (.Name "range" p) [a] [] pos) (rz ms):=⟨qv (MG aV hm ak.un aj) Nh.1⟩
end
section
variable[aE.a5]
variable{X:aS}{a b c:Expr}{cR c6 hb:bg}{pos:Pos}
def agT{r bJ:fU}(a':en X (akK op) r)(hf:ew X.K X.mg r f)(ib:en X (akK tY) bJ)(aV:ew X.K X.mg bJ g)(ak:a_ X a cR)(ab:a_ X b c6)(aD:a_ X c hb)(hm:lastMarks [op,tY] [b,c]=false:=by with_unfolding_all rfl):fB X (.Compare a [op,tY] [b,c] pos) (a3 (j0 f g cR c6 hb)):=⟨r2 (acK a' ib ak.un ab.un aD.un hm) λau H Q h=>O2 (Td hf aV) au H Q (Fs au H Q h)⟩
end
section
variable[aE.a5]
variable{X:aS}{b8 l:Expr}{m:bg}{a:Expr}
theorem FI(ar:a_ X l m):pQ X b8 l (iE m):=⟨qv (MH ar.un) λau H R aW=>by
 obtain⟨O,Y,S,xs,S',st,h,q⟩:=aW;obtain⟨r,S1,ae,h⟩:=M.inv h;split at h
 .rename_i zs
  cases h;refine⟨O,Y,S,_,_,st,ae,λaJ v H1 g1 aU bp nn=>?_⟩;obtain⟨a,ys,rfl,ls,bl⟩:=bp;exact⟨a,rfl,⟨ys,ls⟩,q aJ H1 (sA X.K a) ys g1 aU (KL ls) bl⟩
 .cases h⟩
end
section
variable[aE.a5]
variable{X:aS}{b8 l:Expr}{m:bg}{e a:Expr}
theorem af7(ar:a_ X l m):pQ X b8 l (j7 m):=⟨qv (EK ar.un) λau H xP aW=>by
 obtain⟨O,Y,S,xs,S',st,h,q⟩:=aW;obtain⟨r,S1,ae,h⟩:=M.inv h
 cases e:r.fi with
 |none=>rw[e]at h;cases h
 |some zs=>
  rw[e]at h;cases h;refine⟨O,Y,S,r,_,st,ae,λaJ v H1 g1 aU bp nn=>?_⟩;obtain⟨a,ys,rfl,ls,bl⟩:=R.nI bp e;exact⟨a,rfl,⟨ys,ls⟩,q aJ H1 (l5 X.K a) ys g1 aU (Dj ls) bl⟩⟩
end
section
variable[aE.a5]
variable{X:aS}{b8 l:Expr}{m:bg}{a:Expr}
theorem agF(ar:a_ X l m):uK X b8 l (iE m):=⟨qv (MH ar.un) λau H R aW=>by
 obtain⟨O,Y,S,xs,S',st,h,q⟩:=aW;obtain⟨r,S1,ae,h⟩:=M.inv h;split at h
 .rename_i zs
  cases h;refine⟨O,Y,S,_,_,st,ae,λaJ v H1 g1 aU bp nn=>?_⟩;obtain⟨a,ys,rfl,ls,bl⟩:=bp;exact⟨a,rfl,⟨ys,ls⟩,q aJ H1 (sA X.K a) ys g1 aU (Y9 ls) bl⟩
 .cases h⟩
end
section
variable[aE.a5]
variable{X:aS}{b8:Expr}{a:Expr}{ms:c8}{pos p:Pos}
def af8(aV:eF X "range")(hm:X.mg "range"=none)(ak:gK X [a] ms)(aj:ajY [a] X.env=[(false,eval a X.env)]:=by rfl):pQ X b8 (.Call (.Name "range" p) [a] [] pos) (rz ms):=⟨qv (MG aV hm ak.un aj) Nh.2⟩
end
section
variable[aE.a5]
variable{X:aS}{st:Stmt}{pos:Pos}{a:aX}{e:Expr}
theorem agR(i:Nat)(hN:X.N[i]? = some x:=by rfl)(bI:qY X.env.scope x:=by first|exact alU rfl|exact akU (.inl rfl)|exact akU (akU rfl))(hd:(x==("__debug__":Str))=false:=by decide)(gA:(x==("__classdict__":Str))=false:=by decide):fa X (.Return (some (.Name x p)) pos) (ye i):=⟨gW (EM (z6 hN bI hd gA)) λD au H aW=>by
 obtain⟨O,Y,S,a7,S',st,h,q⟩:=aW;unfold ye at h
 cases e:Y[i]? with
 |none=>rw[e]at h;cases h
 |some s=>
  rw[e]at h;have l:=st.loc i s e
  cases s with
  |er p xs=>
   obtain⟨a,ys,av,aC,c4,fD⟩:=l
   cases p with
   |true=>cases h
   |false=>
   cases h;refine⟨.ref a,?_,q O _ H (ei.refl _ _) st.cp st.gF ⟨a,ys,rfl,c4,.inr ⟨i,aC⟩,fD⟩⟩
   cases w:au[i]? with
   |none=>rw[w]at av;cases av
   |some y=>rw[w]at av;exact congrArg some av
  |v d=>cases h
  |cu d=>cases h
  |e=>cases h⟩
end
section
variable[aE.a5]
variable{X:aS}{pos d2:Pos}{is:List Nat}{e:Expr}{m:bg}{ay:List Expr}{k:Nat}
def agS(aD:X.calm=true)(aV:l7 X ay (jK is))(he:a_ X e m)(aF:(akp ay X.env).length=is.length:=by rfl)(f9:(akp ay X.env).findIdx? (·.1)=none:=by rfl)(aj:swapsWithSole [.Tuple ay k d2] e pos.line X.env=pure false:=by rfl)(hw:swappedStores [.Tuple ay k d2] e X.env=pure none:=by rfl)(ae:(akp [.Tuple ay k d2] X.env).map (·.2)=[amr (.Tuple ay k d2) X.env]:=by rfl):fa X (.Assign [.Tuple ay k d2] e pos) (ob is m):=⟨gW (acF he.un (wM aD aV aF f9) aj hw ae) λD au H aW=>by
 obtain⟨O,Y,S,a7,S',st,h,q⟩:=aW;obtain⟨r,S1,ae,h⟩:=M.inv h;split at h
 .rename_i ds
  by_cases c:ds.length=is.length
  .rw[if_pos c]at h
   cases h;refine⟨O,Y,S,_,_,st,ae,λaJ v H1 g1 aU bp nn=>?_⟩;obtain⟨a,ys,rfl,t,bl⟩:=bp;refine⟨a,ys,rfl,t,by rw[bl.len,c],AA aU bl c λdg cg k=>q aJ dg H1 g1.aL cg k⟩
  .rw[if_neg c]at h;cases h
 .cases h⟩
end
section
variable[aE.a5]
variable{X:aS}{pos d2:Pos}{is:List Nat}{ay:List Expr}{k:Nat}{iter:Expr}{it:e'}{body:List Stmt}{b:aX}
def agN(aH:anQ (model X.prog X.w) X.A X.env X.dV)(aD:X.calm=true)(aB:uK X (.Tuple ay k d2) iter it)(aV:l7 X ay (jK is))(ab:fm X body b)(aF:(akp ay X.env).length=is.length:=by rfl)(f9:(akp ay X.env).findIdx? (·.1)=none:=by rfl)(aj:∀x,akN iter X.env x=pure x:=by intro _;rfl):fa X (.For (.Tuple ay k d2) iter body [] pos) (yb is it b):=⟨gW (z8 aH aD aB.un (wM aD aV aF f9) ab.un aj) VQ⟩
end
section
variable[aE.a5]
variable{X:aS}{a:Expr}{cR:bg}{apos dp:Pos}
def agf(ak:a_ X a cR)(ox:alJ a "bit_length" X.env (eval a X.env)=eval a X.env:=by rfl)(oF:(apos.endLine==dp.line)=true:=by rfl):a_ X (.Call (.Attribute a "bit_length" apos) [] [] dp) (bL oBits cR):=⟨eg (abV PySem.F.plainAttrs_int PySem.F.slot_int_bit_length PySem.F.type_int_bit_length aaz ak.un ox oF) λau H Q aW=>by
  obtain⟨O,Y,S,r,S',st,h,q⟩:=aW;obtain⟨x,S1,ae,h⟩:=M.inv h;unfold oBits at h;split at h
  .rename_i i
   cases h;refine⟨O,Y,S,_,_,st,ae,λaJ gf H1 g1 aU a4 bj=>?_⟩;cases(show gf=.int i from a4);exact⟨rfl,i,rfl,rfl,q aJ _ H1 g1 aU rfl trivial⟩
  .cases h⟩
end
section
variable[aE.a5]
variable{X:aS}{st:Stmt}
def agP :fa X st uW:=⟨gW acI λD au H aW=>by obtain⟨O,Y,S,a7,S',st,h,q⟩:=aW;cases h⟩
end
section
variable[aE.a5]
variable{X:aS}{a:Expr}{bT:aQ->M Bool}
def lp.b5(h:lp X a bT):fB X a bT:=⟨xB.b5 h.un⟩
end
section
variable[aE.a5]
variable{X:aS}{scope esc:Scope}{EN N:List Str}{n:Nat}{cap:List Nat}{elt iter:Expr}{ifs:List Expr}{pos d2:Pos}{x:Str}{it:e'}{t:aQ->M Bool}{el:bg}
def FL{py mW:Pos}(S:la esc scope EN N n cap)(rj:X.N.Nodup)(lF:X.N[i]? = some y)(ba:X.env.scope.names.lookup y=some .local)(aF:0<n)(aB:pQ X (.Name x d2) iter it)(ag:N[0]? = some x)(iT:∀C aK s H,Loc (cx X scope N C aK s H).env.scope x/\(cx X scope N C aK s H).env.scope.names.lookup x=some .local)(bM:∀C aK s H,pP (cx X scope N C aK s H) ifs t)(h_:∀C aK s H,a_ (cx X scope N C aK s H) elt el)(he:X.env.scope=esc:=by rfl)(hN:X.N=EN:=by rfl)(aD:X.calm=true:=by rfl)(aj:∀x,akN iter X.env x=pure x:=by intro _;rfl)(mC:alu (.ListComp elt [⟨.Name x d2,iter,ifs,0⟩] scope pos) (some (.Name y py)) mW.line X.env=pure true:=by rfl):fa X (.Assign [.Name y py] (.ListComp elt [⟨.Name x d2,iter,ifs,0⟩] scope pos) mW) (j3 i (e3 n cap it t el)):=⟨gW (Gx S rj lF ba aF aB.un ag iT (λC aK s H=>(bM C aK s H).un) (λC aK s H=>(h_ C aK s H).un) he hN aD aj mC) (Mw (BO aF))⟩
end
section
variable[aE.a5]
variable{X:aS}{scope esc:Scope}{EN N:List Str}{n:Nat}{cap:List Nat}{elt iter:Expr}{ifs:List Expr}{pos d2:Pos}{x:Str}{it:e'}{t:aQ->M Bool}{el:bg}
def agL{py mW:Pos}(S:la esc scope EN N n cap)(rj:X.N.Nodup)(lF:X.N[i]? = some y)(ba:X.env.scope.names.lookup y=some .local)(aF:0<n)(aB:pQ X (.Name x d2) iter it)(ag:N[0]? = some x)(iT:∀C aK s H,Loc (cx X scope N C aK s H).env.scope x/\(cx X scope N C aK s H).env.scope.names.lookup x=some .local)(bM:∀C aK s H,pP (cx X scope N C aK s H) ifs t)(h_:∀C aK s H,a_ (cx X scope N C aK s H) elt el)(he:X.env.scope=esc:=by rfl)(hN:X.N=EN:=by rfl)(aD:X.calm=true:=by rfl)(aj:∀x,akN iter X.env x=pure x:=by intro _;rfl)(mC:alu (.ListComp elt [⟨.Name x d2,iter,ifs,0⟩] scope pos) (some (.Name y py)) mW.line X.env=pure true:=by rfl):fa X (.Assign [.Name y py] (.ListComp elt [⟨.Name x d2,iter,ifs,0⟩] scope pos) mW) (b1 i (e3 n cap it t el)):=⟨gW (Gx S rj lF ba aF aB.un ag iT (λC aK s H=>(bM C aK s H).un) (λC aK s H=>(h_ C aK s H).un) he hN aD aj mC) (OD (BO aF))⟩
end
def Jy:M cG:=⟨λS=>.ok S S,λ_ _ _ h=>by cases h;rfl⟩
def gc:R->M gI
 |.v (.ref n)=>do
  let S <-Jy
  match S[n]? with
  |some o=>pure o|none=>bad
 |_=>bad
def Mn{r:R}{S S':cG}(h:(gc r).run S=.ok o S'):∃n,r=.v (.ref n)/\S[n]? = some o/\S=S':=by
 unfold gc at h;split at h
 .rename_i n
  obtain⟨T,S1,ae,h⟩:=M.inv h;cases ae
  cases e:S[n]? with
  |none=>rw[e]at h;cases h
  |some o'=>rw[e]at h;cases h;exact⟨n,rfl,e,rfl⟩
 .cases h
def qd:D->Option Key
 |.int i=>some (.inl i)|.str x=>some (.inr x)|_=>none
def iI{κ α:Type}[DecidableEq κ](k:κ)(a:α):List (κ×α)->List (κ×α)
 |[]=>[(k,a)]
 |(g,x)::r=>if g=k then(g,a)::r else(g,x)::iI k a r
theorem MR{v:V}:∀aY:List (Str×V),ik f v aY=iI f v aY
 |[]=>rfl| (g,x)::r=>by unfold ik iI;rw[MR r]
section
variable{κ:Type}[DecidableEq κ]
def iQ(aq:List (κ×D))(k:κ):Option D:=(aq.find? λkv=>decide (kv.1=k)).map (·.2)
def gz(aq:List (κ×D))(k:κ)(d:D):List (κ×D):=
 if(aq.any λkv=>decide (kv.1=k))=true then aq.map (λkv=>if kv.1=k then(kv.1,d)else kv)else aq++[(k,d)]
variable[aE.a5]{K:aT}{mg:bo}{O:a0}{H:ax}
def d4.cons{p:κ×D}{aq:List (κ×D)}{dC:List (κ×V)}(h:d4 K mg O H (p::aq) dC):∃q r,dC=q::r/\p.1=q.1/\Rep K mg O H p.2 q.2/\d4 K mg O H aq r:=by
 obtain⟨ae,ah⟩:=h
 cases dC with
 |nil=>cases ae
 |cons q r=>
  rw[aj8,aj8]at ae ah;injection ae with ae CE
  obtain⟨y,t,e,a,b⟩:=ah;injection e with av aC
  subst av aC;exact⟨q,r,rfl,ae,a,CE,b⟩
def d4.mk'{r:List (κ×V)}(ae:p.1=q.1)(ah:Rep K mg O H p.2 q.2)(h:d4 K mg O H aq r):d4 K mg O H (p::aq) (q::r):=
 ⟨by rw[aj8,aj8,ae,h.1],q.2,_,rfl,ah,h.2⟩
def d4.wk(h:d4 K mg O H [] dC):dC=[]:=List.map_eq_nil_iff.mp h.1.symm
def d4.len{aq:List (κ×D)}{dC:List (κ×V)}(h:d4 K mg O H aq dC):dC.length=aq.length:=by
 have:=congrArg alr h.1;rw[ajX,ajX]at this;exact this.symm
theorem d4.val(k:κ):∀{aq:List (κ×D)}{dC:List (κ×V)},d4 K mg O H aq dC->match iQ aq k with
  |some d=>∃v,jT dC k=some v/\Rep K mg O H d v|none=>jT dC k=none
 |[],dC,h=>by obtain rfl:=h.wk;exact rfl
 |p::aq,dC,h=>by
  obtain⟨q,r,rfl,av,aC,h'⟩:=h.cons;unfold iQ jT
  by_cases aw:p.1=k
  .rw[ak3 (by simpa using aw),ak3 (by rw[<-av];simpa using aw)]
   exact⟨q.2,rfl,aC⟩
  .rw[akS (by simpa using aw),akS (by rw[<-av];simpa using aw)]
   exact d4.val k h'
theorem d4.any(k:κ):∀{aq:List (κ×D)}{dC:List (κ×V)},d4 K mg O H aq dC->(dC.any λkv=>decide (kv.1=k))=aq.any λkv=>decide (kv.1=k)
 |[],dC,h=>by obtain rfl:=h.wk;rfl
 |p::aq,dC,h=>by
  obtain⟨q,r,rfl,av,aC,h'⟩:=h.cons;rw[alK,alK,d4.any k h',av]
def d4.put(k:κ){v:V}(hd:Rep K mg O H d v)(h:d4 K mg O H aq dC):d4 K mg O H (gz aq k d) (putK dC k v):=by
 unfold gz putK;rw[d4.any k h];split
 .rename_i mq
  clear mq
  induction aq generalizing dC with
  |nil=>obtain rfl:=h.wk;exact⟨rfl,rfl⟩
  |cons p aq a6=>
   obtain⟨q,r,rfl,av,aC,h'⟩:=h.cons;rw[aj8,aj8]
   by_cases aw:p.1=k
   .rw[if_pos aw,if_pos (av▸aw)];exact d4.mk' av hd (a6 h')
   .rw[if_neg aw,if_neg (av▸aw)];exact d4.mk' av aC (a6 h')
 .exact⟨by rw[akO,akO,h.1];rfl,by rw[akO,akO];exact h.2.append (.one hd)⟩
theorem d4.iI(k:κ){v:V}(hd:Rep K mg O H d v):∀{aq:List (κ×D)}{dC:List (κ×V)},d4 K mg O H aq dC->d4 K mg O H (aZ.iI k d aq) (aZ.iI k v dC)
 |[],dC,h=>by obtain rfl:=h.wk;exact⟨rfl,_,_,rfl,hd,rfl⟩
 |p::aq,dC,h=>by
  obtain⟨q,r,rfl,av,aC,h'⟩:=h.cons;obtain⟨p1,dv⟩:=p;obtain⟨bk,b0⟩:=q;cases(show p1=bk from av);unfold aZ.iI;split
  .exact d4.mk' rfl hd h'
  .exact d4.mk' rfl aC (d4.iI k hd h')
theorem d4.lookup:∀{aq:List (Str×D)}{dC:List (Str×V)},d4 K mg O H aq dC->aq.lookup f=some d->∃v,dC.lookup f=some v/\Rep K mg O H d v
 |[],dC,h,e=>by cases e
 |p::aq,dC,h,e=>by
  obtain⟨q,r,rfl,av,aC,h'⟩:=h.cons;obtain⟨p1,dv⟩:=p;obtain⟨bk,b0⟩:=q;cases(show p1=bk from av);rw[akM]at e ⊢
  cases c5:f==p1 with
  |true=>rw[c5]at e;cases e;exact⟨b0,rfl,aC⟩
  |false=>rw[c5]at e;exact d4.lookup h' e
end
variable[aE.a5]
section
variable{K:aT}{mg:bo}{O:a0}{Y:aQ}{S S':cG}{au:St}{H:ax}{r:R}{v:V}{o:gI}
def zX(st:cN K mg O Y S au H)(aA:eN K mg O H r v)(h:(gc r).run S=.ok o S'):∃a,v=.ref a/\a∈O.bK/\nf K mg O H a o:=by
 obtain⟨n,rfl,e,rfl⟩:=Mn h;obtain⟨a,bl,hg⟩:=st.gF n o e;obtain⟨b,c5,mS⟩:=aA;rw[bl]at mS;cases mS;exact⟨a,c5,akL bl,hg⟩
def Dy{v:V}{k:Key}(h:Rep K mg O H d v)(e:qd d=some k):v=cC k:=by
 cases d<;>cases e<;>exact h
end
structure pB(K:aT)(mg:bo)(c:Str)(aY:List Str):Prop where
 ex:∃C,mg c=some (.ref C)/\i7 K C/\(W.makesIn K C=true/\alW K (.ref C)=true)/\∀f∈aY,qT K C f
def cD(c f:Str)(r:R):M R:=do
 let o <-gc r
 match o with
 |.bx c' aY=>if c'=c then(match aY.lookup f with
  |some d=>pure (.v d)| none=>bad)else bad
 |_=>bad
def dH(r k:R):M R:=do
 let o <-gc r
 match o,k with
 |.cH aq,.v kd=>match qd kd with
  |some key=>match iQ aq key with
   |some d=>pure (.v d)|none=>bad
  |none=>bad
 |_,_=>bad
def rC:List R->Option (List Key)
 |[]=>some []|.v d::rs=>match qd d,rC rs with
  |some k,some bu=>some (k::bu)|_,_=>none
 |_::_=>none
def yg(m:bg)(ms:c8)(nO:bg):bg:=λY=>do
 let x <-m Y
 let rs <-ms Y
 let z <-nO Y
 let o <-gc x
 match o,rC rs,z with
 |.eI aq,some k,.v qN=>if rs.length<=1000 then pure (.v ((iQ aq k).getD qN))else bad|_,_,_=>bad
def gN(m:bg):bg:=λY=>do
 let x <-m Y
 let o <-gc x
 match o with
 |.l xs=>pure (.mv xs)|_=>bad
theorem Dz{O:a0}:∀{rs:List R}{vs:List V}{bu:List Key},rC rs=some bu->gg K mg O H rs vs->vs=bu.map cC
 |[],vs,bu,e,h=>by cases e;exact h
 |r::rs,vs,bu,e,h=>by
  obtain⟨v,FH,rfl,ae,ah⟩:=h
  cases r with
  |v d=>
   unfold rC at e;split at e
   .rename_i k ajt av aC
    cases e;rw[aj8,Dz aC ah,Dy (show Rep K mg O H d v from ae) av]
   .cases e
  |_=>cases e
def QM:ew K mg (fun x y H Q=>∃a v,x=.ref a/\lb H a y (some v)/\Q v H) dH:=fun O Y S au H x y a4 bz bJ S' Q st ag ba h q=>by
 obtain⟨o,S1,ae,h'⟩:=M.inv h;clear h;have h:=h';clear h';obtain⟨a,rfl,_,hg⟩:=zX st ag ae;obtain rfl:=(gc a4).es _ _ _ ae;split at h
 .rename_i aq kd
  split at h
  .rename_i key fE
   have bP:=hg;obtain⟨dC,l,il⟩:=hg;have sf:=il.val key
   cases dS:iQ aq key with
   |none=>rw[dS]at h;cases h
   |some d=>
    rw[dS]at h sf;cases h;obtain⟨v,av,aC⟩:=sf;refine⟨a,v,rfl,?_,q O v H (Go.refl _ _) st aC trivial⟩;rw[Dy (show Rep K mg O H kd y from ba) fE,<-av];exact lb.k l
  .cases h
 .cases h
section
variable{X:aS}{e o i f:Expr}{ay:List Expr}{m mo cv nO:bg}{ms:c8}{pos apos dp vT:Pos}{c a:Str}{ns:List Str}
theorem age(T:pB X.K X.mg c ns)(hf:a∈ns)(he:a_ X e m)(ab:alJ e a X.env (eval e X.env)=eval e X.env:=by rfl):a_ X (.Attribute e a pos) (bL (cD c a) m):=⟨eg (ab6 he.un ab) λau H Q aW=>by
 obtain⟨O,Y,S,r,S',st,h,q⟩:=aW;obtain⟨x,S1,ae,h0⟩:=M.inv h;clear h;refine⟨O,Y,S,x,S1,st,ae,λaJ gf H1 g1 aU a4 bj=>?_⟩;obtain⟨o,bh,ah,h'⟩:=M.inv h0;clear h0;have h:=h';clear h';obtain⟨b,rfl,_,hg⟩:=zX aU a4 ah;obtain rfl:=(gc x).es _ _ _ ah;split at h
 .rename_i c' aY
  split at h
  .rename_i aD
   subst aD
   cases el:aY.lookup a with
   |none=>rw[el]at h;cases h
   |some d=>
    rw[el]at h;cases h;obtain⟨C,b7,jJ,d6,ci,il⟩:=hg;obtain⟨l2,av,aC,_,fD⟩:=T.ex;cases av.symm.trans ci.1;obtain⟨v,ev,bP⟩:=il.lookup el;exact⟨b,C,b7,jJ,v,rfl,d6,aC,fD a hf,ev,q aJ v H1 g1 aU bP trivial⟩
  .cases h
 .cases h⟩
def agn(cy:X.A.units+64<cLine)(a':a_ X o mo)(aB:a_ X i cv)(aj:uG i:=by intro _ _;rfl):a_ X (.Subscript o i pos) (af dH mo cv):=⟨eg (ab2 (by omega) a'.un aB.un aj) (uT QM)⟩
theorem agC{lX}(cy:X.A.units+64<cLine)(he:a_ X o m)(aw:gK X ay ms)(hf:a_ X f nO)(ah:M2 X o "get" apos (.Tuple ay lX vT) f dp:=by exact⟨rfl,rfl,rfl,rfl⟩):a_ X (.Call (.Attribute o "get" apos) [.Tuple ay lX vT,f] [] dp) (yg m ms nO):=
 ⟨eg (ab3 (by omega) he.un (EI aw.un) hf.un ah) λau H Q aW=>by
  obtain⟨O,Y,S,r,S',st,h,q⟩:=aW;obtain⟨x,S1,ae,ak⟩:=M.inv h;clear h;obtain⟨rs,bh,ah,ab⟩:=M.inv ak;clear ak;obtain⟨z,h4,bN,aD⟩:=M.inv ab;clear ab;obtain⟨o,pL,dq,h⟩:=M.inv aD;clear aD;obtain rfl:=(m Y).es _ _ _ ae;obtain rfl:=(ms Y).es _ _ _ ah;obtain rfl:=(nO Y).es _ _ _ bN;obtain rfl:=(gc x).es _ _ _ dq;split at h
  .rename_i aq k qN fE
   by_cases c:rs.length<=1000
   .rw[if_pos c]at h
    cases h;refine⟨O,Y,_,x,_,st,ae,λaJ gf H1 g1 aU a4 bj=>?_⟩;obtain⟨a,rfl,_,xs,l,jm⟩:=zX aU a4 dq;refine⟨a,rfl,.inr ⟨xs,.inl l⟩,aJ,Y,_,rs,_,aU,ah,λbq vs aM g2 cV bp nn=>?_⟩;have ev:=Dz fE bp;refine⟨ak8 (eQ (by rw[gg.len bp];exact c)),λp aH=>?_⟩;refine⟨bq,Y,_,_,_,cV.fu aH,bN,λeM ajO cT g3 gZ jQ Eg=>?_⟩;have g:=g2.trans ((Go.fu aH).trans g3);refine⟨_,lb.t (k:=k) (g.same.at' _ _ l) (by rw[<-ev];exact g3.same.at' _ _ dy),?_⟩;have sf:=(show d4 X.K X.mg eM cT aq xs from⟨jm.1,jm.2.go g⟩).val k;refine q eM _ cT (g1.trans g) gZ ?_ trivial;show Rep _ _ _ _ ((iQ aq k).getD qN) _
    cases dS:iQ aq k with
    |none=>rw[dS]at sf;rw[sf];exact jQ|some d=>rw[dS]at sf;obtain⟨v,av,aC⟩:=sf;rw[av];exact aC
   .rw[if_neg c]at h;cases h
  .cases h⟩
def Z'{au:St}{H:ax}{Q:cX}{O:a0}{Y:aQ}{S S1 S':cG}{x r:R}{g:List D->R}(st:cN X.K X.mg O Y S au H)(ae:(m Y).run S=.ok x S1)
  (h:(do let o <-gc x;match o with|.l xs=>pure (g xs)|_=>bad:M R).run S1=.ok r S') (q:xM X.K X.mg O Y S' au H r Q)
  (aV:∀ao H' xs a ys,ao a=.out->H' a=some (.l ys)->bc X.K X.mg ao H' xs ys->eN X.K X.mg ao H' (g xs) (.ref a)/\jy H (g xs) (.ref a)):fk X.K X.mg m au H Q:=by
 obtain⟨o,bh,ah,h'⟩:=M.inv h;clear h;have h:=h';clear h';refine⟨O,Y,S,x,S1,st,ae,λaJ gf H1 g1 aU a4 bj=>?_⟩;obtain⟨a,rfl,cR,hg⟩:=zX aU a4 ah;obtain rfl:=(gc x).es _ _ _ ah;split at h
 .cases h
  obtain⟨ys,l,bl⟩:=hg;obtain⟨e8,eb⟩:=aV aJ H1 _ a ys (aU.cp.ct.2 a cR) l bl;exact q aJ _ H1 g1 aU e8 eb
 .cases h
theorem ago(he:a_ X e m):a_ X e (gN m):=⟨eg he.un λau H Q aW=>by
 obtain⟨O,Y,S,r,S',st,h,q⟩:=aW;obtain⟨x,S1,ae,h⟩:=M.inv h;exact Z' st ae h q λao H' xs a ys _ l bl=>⟨⟨a,ys,rfl,l,bl⟩,trivial⟩⟩
end
end aZ
namespace aZ
open PySem PySem.Spec aE
structure N(α:Type):Type where
 run:cG->Out α
def N.jZ{α β:Type}(m:N α)(f:α->N β):N β:=⟨λS=>match m.run S with
 |.ok a S'=>(f a).run S'|.exc c S'=>.exc c S'| .bad=>.bad⟩
instance:Monad N where
 pure a:=⟨λS=>.ok a S⟩
 bind:=N.jZ
def N.inv{α β:Type}{m:N α}{f:α->N β}{S S':cG}{b:β}(h:(m >>= f).run S=.ok b S'):∃a S1,m.run S=.ok a S1/\(f a).run S1=.ok b S':=by
 have h:(N.jZ m f).run S=.ok b S':=h;unfold N.jZ at h;dsimp only at h
 cases e:m.run S with
 |ok a S1=>rw[e]at h;exact⟨a,S1,rfl,h⟩|exc c S1=>rw[e]at h;cases h
 |bad=>rw[e]at h;cases h
def gU{α:Type}:N α:=⟨λ_=>.bad⟩
def M.up{α:Type}(m:M α):N α:=⟨m.run⟩
def vl:N cG:=⟨λS=>.ok S S⟩
def putN(S:cG):N Unit:=⟨λ_=>.ok () S⟩
abbrev eX:=aQ->N R
abbrev hF:=aQ->N (List R)
abbrev bf:=aQ->N gv
abbrev fb:=List D->N R
variable[aE.a5]
structure fz(O ao:a0)(H H':ax):Prop where
 cells:∀b o,H b=some o->(b∉O.bK\/Fix o)->(h:o3 o:=by exact trivial)->H' b=some o
 own:∀b,H b≠none->ao b=O b
 has:∀b,H b≠none->H' b≠none
 cK:∀b ps,H b=some (.gd ps)->∃iH,H' b=some (.gd iH)
 bS:TabsOk H->TabsOk H'
 bK:O.bK <+: ao.bK
 new:∀b∈ao.bK,b∈O.bK\/H b=none
structure g7(O ao:a0)(H H':ax):Prop where
 cells:∀b o,H b=some o->(((O b=.free\/O b=.out)/\b∉O.bK)\/Fix o)->(h:o3 o:=by exact trivial)->H' b=some o
 own:∀b,H b≠none->(O b=.free\/O b=.out)->ao b=O b
 has:∀b,H b≠none->H' b≠none
 cK:∀b ps,H b=some (.gd ps)->∃iH,H' b=some (.gd iH)
 bS:TabsOk H->TabsOk H'
 bK:O.bK <+: ao.bK
 new:∀b∈ao.bK,b∈O.bK\/H b=none
structure dz(O ao:a0)(H H':ax):Prop where
 cells:∀b o,H b=some o->((O b=.free/\b∉O.bK/\∃ys,o=.l ys)\/Fix o)->(h:o3 o:=by exact trivial)->H' b=some o
 own:∀b ys,H b=some (.l ys)->O b=.free->ao b=.free
 bK:O.bK <+: ao.bK
section
variable{K:aT}{mg:bo}{O aJ bq ao:a0}{H H1 aM H':ax}{S S':cG}{Y Y':aQ}{au dg:St}
omit [aE.a5]in
theorem jq(e:H b=some o):H b≠none:=λz=>by rw[e]at z;cases z
def Go.dY(g:Go O ao H H'):fz O ao H H':=⟨λb o e _ n=>g.same.at' b o e n,g.own,λ_ h=>g.same.some h,g.same.cK,g.same.bS,by rw[g.bK];exact aox _,λb h=>.inl (by rw[<-g.bK];exact h)⟩
def ei.eJ(g:ei O ao H H'):g7 O ao H H':=⟨λb o e h n=>g.cells b o e (h.elim (λz=>z.1.elim .inl λz=>.inr (.inl z)) λz=>.inr (.inr z)) n,g.own,g.has,g.cK,g.bS,by rw[g.bK];exact aox _,λb h=>.inl (by rw[<-g.bK];exact h)⟩
def fz.eJ(g:fz O ao H H'):g7 O ao H H':=⟨λb o e h n=>g.cells b o e (h.imp (·.2) id) n,λb h _=>g.own b h,g.has,g.cK,g.bS,g.bK,g.new⟩
def fz.trans(a:fz O aJ H H1)(b:fz aJ bq H1 aM):fz O bq H aM:=
  ⟨λc o e h n=>b.cells c o (a.cells c o e h n) (h.imp (λz m=>(a.new c m).elim z (jq e)) id) n,λc h=>(b.own c (a.has c h)).trans (a.own c h),λc h=>b.has c (a.has c h),λc ps h=>let⟨p1,av⟩:=a.cK c ps h;b.cK c p1 av,λg=>b.bS (a.bS g),
   a.bK.trans b.bK,λc m=>(b.new c m).elim (a.new c) λz=>.inr (by cases e:H c with|none=>rfl|some o=>exact absurd z (a.has c (jq e)))⟩
def g7.trans(a:g7 O aJ H H1)(b:g7 aJ bq H1 aM):g7 O bq H aM:=
  ⟨λc o e h n=>b.cells c o (a.cells c o e h n) (h.imp (λz=>⟨by rw[a.own c (jq e) z.1];exact z.1,λm=>(a.new c m).elim z.2 (jq e)⟩) id) n,
   λc h f=>(b.own c (a.has c h) (by rw[a.own c h f];exact f)).trans (a.own c h f),λc h=>b.has c (a.has c h),λc ps h=>let⟨p1,av⟩:=a.cK c ps h;b.cK c p1 av,λg=>b.bS (a.bS g),
   a.bK.trans b.bK,λc m=>(b.new c m).elim (a.new c) λz=>.inr (by cases e:H c with|none=>rfl|some o=>exact absurd z (a.has c (jq e)))⟩
def g7.jf(g:g7 O ao H H'):dz O ao H H':=⟨λb o e h n=>g.cells b o e (h.imp (λz=>⟨.inl z.1,z.2.1⟩) id) n,λb ys e f=>(g.own b (jq e) (.inl f)).trans f,g.bK⟩
def dz.xa(g:dz O ao H H')(h:dD K H a ys):dD K H' a ys:=by
 rcases h with(h|⟨o,h⟩)|h
 .exact .inl (.inl (g.cells _ _ h (.inr (.inl ⟨_,rfl⟩))))
 .exact .inl (.inr ⟨o,g.cells _ _ h (.inr (.inr ⟨_,_,rfl⟩))⟩)
 .exact .inr h
omit [aE.a5]in
theorem jA.no(r:jA O)(h:O a=w)(hw:w≠.out):a∉O.bK:=λm=>hw (h.symm.trans (r.2 a m))
mutual
theorem Rep.jf(g:dz O ao H H')(ct:jA O):∀{d:D}{v:V},Rep K mg O H d v->Rep K mg ao H' d v
 |.aI,_,h=>h|.az _,_,h=>h|.int _,_,h=>h|.str _,_,h=>h| .t _,_,h=>by obtain⟨a,ys,q,l,r⟩:=h;exact⟨a,ys,q,g.xa l,bc.jf g ct r⟩
 |.l _,_,h=>by obtain⟨a,ys,q,l,r⟩:=h;exact⟨a,ys,q,⟨g.cells _ _ l.1 (.inl ⟨l.2,ct.no l.2 (by intro z;cases z),_,rfl⟩),g.own a _ l.1 l.2⟩,bc.jf g ct r⟩
 |.ref _,_,h=>by
  obtain⟨a,q,l⟩:=h;obtain⟨t,e⟩:=g.bK;exact⟨a,q,by rw[<-e,akq (aj2.mp l).1];exact l⟩
 |.fn _,_,h=>h|.ty _,_,h=>h
theorem bc.jf(g:dz O ao H H')(ct:jA O):∀{ds:List D}{ys:List V},bc K mg O H ds ys->bc K mg ao H' ds ys
 |[],_,h=>h| _::_,_,h=>by obtain⟨x,r,q,a,b⟩:=h;exact⟨x,r,q,Rep.jf g ct a,bc.jf g ct b⟩
end
def bc.eJ(g:g7 O ao H H')(ct:jA O)(h:bc K mg O H ds ys):bc K mg ao H' ds ys:=h.jf g.jf ct
def Rep.dY(g:fz O ao H H')(ct:jA O){v:V}(h:Rep K mg O H d v):Rep K mg ao H' d v:=h.jf g.eJ.jf ct
def bc.dY(g:fz O ao H H')(ct:jA O)(h:bc K mg O H ds ys):bc K mg ao H' ds ys:=h.eJ g.eJ ct
def R.jR:R->Bool
 |.v _=>true|.fr _=>true|_=>false
def eN.dY(g:fz O ao H H')(ct:jA O){r:R}{v:V}(aj:r.jR=true)(h:eN K mg O H r v):eN K mg ao H' r v:=by
 cases r with
 |v d=>exact Rep.dY g ct h| fr xs=>obtain⟨a,ys,q,l,o,r⟩:=h;exact⟨a,ys,q,g.cells _ _ l (.inl (ct.no o (by intro z;cases z))),(g.own a (jq l)).trans o,r.dY g ct⟩
 |cu xs=>cases aj
 |mv xs=>cases aj
def jy.dY(g:fz O ao H H'):∀{r:R}{v:V},jy H' r v->jy H r v
 |.v _,_,_=>trivial|.cu _,_,_=>trivial|.mv _,_,_=>trivial|.fr _,_,h=>λa e=>by
  cases av:H a with
  |none=>rfl|some o=>exact absurd (h a e) (g.has a (jq av))
def l6(K:aT)(O:a0)(H:ax)(a:Addr)(ys:List V):Prop:=(fV H a (.l ys)/\(O a=.free\/O a=.out)/\a∉O.bK)\/A0 K a ys
structure ez(K:aT)(mg:bo)(O:a0)(Y:aQ)(S:cG)(au:St)(H:ax):Prop where
 s3:cN K mg O Y S au H
 full:O.bK.length=S.length
 uk:∀(i:Nat)(xs:List D),Y[i]? = some (.cu xs)->∃a ys,au[i]?.join=some (.ref a)/\l6 K O H a ys/\bc K mg O H xs ys
def l6.eJ(g:g7 O ao H H')(h:l6 K O H a ys):l6 K ao H' a ys:=by
 rcases h with⟨h,f,m⟩|h
 .have aF:H a≠none:=fV.some h
  refine .inl ⟨?_,by rw[g.own a aF f];exact f,λz=>(g.new a z).elim m aF⟩;rcases h with h|⟨o,h⟩
  .exact .inl (g.cells _ _ h (.inl ⟨f,m⟩))
  .exact .inr ⟨o,g.cells _ _ h (.inl ⟨f,m⟩)⟩
 .exact .inr h
def l6.v(h:l6 K O H a ys):h1 K O H a ys:=h.imp (λz=>⟨z.1,z.2.1⟩) id
def ez.go(s:ez K mg O Y S au H)(g:Go O ao H H')(d:dc ao H'):ez K mg ao Y S au H':=
 ⟨s.s3.go g d,by rw[g.bK];exact s.full,λi xs e=>by obtain⟨a,ys,av,l,r⟩:=s.uk i xs e;exact⟨a,ys,av,l.eJ g.aL.eJ,r.go g⟩⟩
def ez.aL(s:ez K mg O Y S au H)(g:ei O ao H H')(k:eW Y Y' au dg)(t:cN K mg ao Y' S dg H'):ez K mg ao Y' S dg H':=
 ⟨t,by rw[g.bK];exact s.full,λi xs e=>by
  obtain⟨d5,ev⟩:=k.1 i xs e;obtain⟨a,ys,av,l,r⟩:=s.uk i xs d5;exact⟨a,ys,by rw[ev];exact av,l.eJ g.eJ,bc.aL g r⟩⟩
def ez.dY(s:ez K mg O Y S au H)(g:fz O ao H H')(d:dc ao H')(eu:gi K mg ao H' S')(a7:ao.bK.length=S'.length):ez K mg ao Y S' au H':=by
 have ct:=s.s3.cp.ct;have cu:∀(i:Nat)(xs:List D),Y[i]? = some (.cu xs)->∃a ys,au[i]?.join=some (.ref a)/\l6 K ao H' a ys/\bc K mg ao H' xs ys:=λi xs e=>by
  obtain⟨a,ys,av,l,r⟩:=s.uk i xs e;exact⟨a,ys,av,l.eJ g.eJ,r.dY g ct⟩
 refine⟨⟨d,s.s3.len,λi t e=>?_,eu⟩,a7,cu⟩;have l:=s.s3.loc i t e
 cases t with
 |e=>exact trivial|v d=>obtain⟨v,q,r⟩:=l;exact⟨v,q,r.dY g ct⟩
 |er p xs=>obtain⟨a,ys,q,o,l,r⟩:=l;exact⟨a,ys,q,(g.own a (jq l)).trans o,g.cells _ _ l (.inl (ct.no o (by intro z;cases z))),r.dY g ct⟩
 |cu xs=>obtain⟨a,ys,av,l,r⟩:=cu i xs e;exact⟨a,ys,av,l.v,r⟩
end
inductive sF{α:Type}(K:aT)(mg:bo)(m:aQ->N α)(au:St)(H:ax)(P:a0->aQ->cG->α->Prop):Prop
 |mk (O:a0) (Y:aQ) (S:cG) (x:α) (S':cG) (st:ez K mg O Y S au H) (h:(m Y).run S=.ok x S') (q:P O Y S' x):sF K mg m au H P
def AL(K:aT)(mg:bo)(m:eX):TE:=λau H Q=>sF K mg m au H λO Y S' r=>∀ao v H',fz O ao H H'->ez K mg ao Y S' au H'->eN K mg ao H' r v->jy H r v->Q v H'
def PM(K:aT)(mg:bo)(m:aQ->N Bool):TT:=λau H Q=>sF K mg m au H λO Y S' b=>∀ao H',fz O ao H H'->ez K mg ao Y S' au H'->Q b H'
def AK(K:aT)(mg:bo)(m:hF):gj:=λau H Q=>sF K mg m au H λO Y S' rs=>∀ao vs H',fz O ao H H'->ez K mg ao Y S' au H'->gg K mg ao H' rs vs->kC H rs vs->Q vs H'
def uJ(K:aT)(mg:bo)(O:a0)(S':cG)(H:ax)(a7:gv)(hD:Ends):Prop:=match a7 with
 |.bj Y'=>∀ao dg H',g7 O ao H H'->ez K mg ao Y' S' dg H'->hD.bj dg H'|.c_ Y'=>∀ao dg H',g7 O ao H H'->ez K mg ao Y' S' dg H'->hD.c_ dg H'|.b5 Y'=>∀ao dg H',g7 O ao H H'->ez K mg ao Y' S' dg H'->hD.b5 dg H'|.cJ r=>∀ao v H',g7 O ao H H'->dc ao H'->gi K mg ao H' S'->ao.bK.length=S'.length->A5 K mg ao H' r v->hD.cJ v H'
def uJ.eJ{O aJ:a0}(h:uJ K mg O S' H a7 hD)(g:g7 O aJ H H1):uJ K mg aJ S' H1 a7 hD:=by
 cases a7 with
 |bj Y'=>exact λao dg H' g'=>h ao dg H' (g.trans g')
 |c_ Y'=>exact λao dg H' g'=>h ao dg H' (g.trans g')
 |b5 Y'=>exact λao dg H' g'=>h ao dg H' (g.trans g')
 |cJ r=>exact λao v H' g'=>h ao v H' (g.trans g')
def so(K:aT)(mg:bo)(m:bf):g8:=λhD au H=>sF K mg m au H λO _ S' a7=>uJ K mg O S' H a7 hD
section
variable(X:aS)
structure fo(e:Expr)(m:eX):Prop where
 un:bQ X e (AL X.K X.mg m)
structure kH(e:Expr)(m:aQ->N Bool):Prop where
 un:iO X e (PM X.K X.mg m)
structure sL(e:Expr)(m:aQ->N Bool):Prop where
 un:ll X e (PM X.K X.mg m)
structure n_(ay:List Expr)(m:hF):Prop where
 un:fM X ay (AK X.K X.mg m)
structure gL(st:Stmt)(m:bf):Prop where
 un:iM X st (so X.K X.mg m)
structure jY(ud:List Stmt)(m:bf):Prop where
 un:iN X ud (so X.K X.mg m)
end
def c1(m:bg):eX:=λY=>(m Y).up
def fy(m:aQ->M Bool):aQ->N Bool:=λY=>(m Y).up
def gs(m:c8):hF:=λY=>(m Y).up
def bR(m:aX):bf:=λY=>(m Y).up
section
variable{X:aS}{e:Expr}{ay:List Expr}{m:bg}{t:aQ->M Bool}{ms:c8}{b:aX}{st:Stmt}{ud:List Stmt}
theorem ahk(h:a_ X e m):fo X e (c1 m):=⟨eg h.un λau H Q aW=>by
 obtain⟨O,Y,S,r,S',st,h,q⟩:=aW;obtain rfl:=(m Y).es _ _ _ h;exact⟨O,Y,S',r,S',st.s3,h,λaJ v H1 g1 aU bp nn=>q aJ v H1 g1.dY (st.go g1 aU.cp) bp nn⟩⟩
theorem ahB(h:fB X e t):kH X e (fy t):=⟨r2 h.un λau H Q aW=>by
 obtain⟨O,Y,S,r,S',st,h,q⟩:=aW;obtain rfl:=(t Y).es _ _ _ h;exact⟨O,Y,S',r,S',st.s3,h,λaJ H1 g1 aU=>q aJ H1 g1.dY (st.go g1 aU.cp)⟩⟩
theorem aha(h:gK X ay ms):n_ X ay (gs ms):=⟨z5 h.un λau H Q aW=>by
 obtain⟨O,Y,S,r,S',st,h,q⟩:=aW;obtain rfl:=(ms Y).es _ _ _ h;exact⟨O,Y,S',r,S',st.s3,h,λaJ v H1 g1 aU bp nn=>q aJ v H1 g1.dY (st.go g1 aU.cp) bp nn⟩⟩
theorem PL:∀D au H,so K mg (bR b) D au H->kn K mg b D au H:=by
 rintro D au H ⟨O,Y,S,a7,S',st,h,q⟩;obtain rfl:=(b Y).es _ _ _ h;refine⟨O,Y,S',a7,S',st.s3,h,?_⟩
 cases a7 with
 |bj Y'=>exact λao dg H' g t k=>q ao dg H' g.eJ (st.aL g k t)
 |c_ Y'=>exact λao dg H' g t k=>q ao dg H' g.eJ (st.aL g k t)
 |b5 Y'=>exact λao dg H' g t k=>q ao dg H' g.eJ (st.aL g k t)
 |cJ r=>exact λao v H' g d eu bp=>q ao v H' g.eJ d eu (by rw[g.bK];exact st.full) bp
def ahv(h:fa X st b):gL X st (bR b):=⟨gW h.un PL⟩
def PQ(h:fm X ud b):jY X ud (bR b):=⟨z9 h.un PL⟩
end
end aZ
namespace aZ
open PySem PySem.Spec aE
def bE(a b:bf):bf:=λY=>do
 let a7 <-a Y
 match a7 with
 |.bj Y'=>b Y'|a7=>pure a7
def eT(t:aQ->N Bool)(a b:bf):bf:=λY=>do
 let t <-t Y
 if t=true then a Y else b Y
def ks(i:Nat)(m:eX):bf:=λY=>do
 let r <-m Y
 let d <-r.dat.up
 pure (.bj (Y.set i (.v d)))
def k9(m:eX):bf:=λY=>do
 let r <-m Y
 match r with
 |.v d=>pure (.cJ (.v d))|.fr xs=>pure (.cJ (.fr xs))|_=>gU
def lZ(m:eX):bf:=λY=>do
 let _ <-m Y
 pure (.bj Y)
variable[aE.a5]
section
variable{K:aT}{mg:bo}{O pH:a0}{H H₀:ax}{S:cG}{Y:aQ}{au:St}
def ez.ck(s:ez K mg O Y S au H)(H₀:ax):ez K mg (ck H₀ O) Y S au H:=⟨s.s3.ck H₀,s.full,λi xs e=>by
 obtain⟨a,ys,av,l,r⟩:=s.uk i xs e;refine⟨a,ys,av,l.imp (λz=>⟨z.1,?_,z.2.2⟩) id,r.du (je _ _)⟩;rcases z.2.1 with f|f
 .exact .inl ((je H₀ O).fr a f)
 .exact .inr (by rw[rg (by rw[f];intro z;cases z)];exact f)⟩
def fz.ck(g:fz pH O H₀ H):fz pH (ck H₀ O) H₀ H:=⟨λb o e h n=>g.cells b o e h n,λb ab=>(yG ab).trans (g.own b ab),g.has,g.cK,g.bS,g.bK,g.new⟩
def ez.set{v:V}(st:ez K mg O Y S au H)(aj:∀xs,s≠.cu xs)(h:jB K mg O H (.loc i) s (some v)):ez K mg O (Y.set i s) S (au.set i (some v)) H:=⟨st.s3.set h,st.full,λj xs e=>by
 by_cases aR:i=j
 .subst aR
  rw[akX (by have:=(aj2.mp e).1;rwa[ak7]at this)]at e;exact absurd (akv e) (aj xs)
 .rw[akn aR]at e
  rw[akn aR];exact st.uk j xs e⟩
end
section
variable{X:aS}{st:Stmt}{rest A B:List Stmt}{pos pos':Pos}{a b:bf}{e c:Expr}{m:eX}{t:aQ->N Bool}{i:Nat}{x:Str}
def ahz(h:gL X st a):jY X [st] a:=⟨MO h.un⟩
def ahy(ae:gL X st a)(ah:jY X rest b):jY X (st::rest) (bE a b):=⟨z9 (MN ae.un ah.un) λD au H aW=>by
 obtain⟨O,Y,S,a7,S',st,h,q⟩:=aW;obtain⟨f1,S1,ae,h⟩:=N.inv h;refine⟨O,Y,S,f1,S1,st,ae,?_⟩
 cases f1 with
 |bj hX=>exact λaJ xx H1 g1 aU=>⟨aJ,hX,S1,a7,S',aU,h,q.eJ g1⟩
 |cJ r=>cases h;exact q
 |c_ hX=>cases h;exact q
 |b5 hX=>cases h;exact q⟩
theorem aht(aD:kH X c t)(ak:jY X A a)(ab:jY X B b):gL X (.If c A B pos) (eT t a b):=⟨gW (MM aD.un ak.un ab.un) λD au H aW=>by
 obtain⟨O,Y,S,a7,S',st,h,q⟩:=aW;obtain⟨t,S1,ae,h⟩:=N.inv h;refine⟨O,Y,S,t,S1,st,ae,λaJ H1 g1 aU=>?_⟩
 cases t with
 |false=>
  rw[if_neg aj6]at h;exact oK ⟨aJ,Y,S1,a7,S',aU,h,q.eJ g1.eJ⟩
 |true=>
  rw[if_pos rfl]at h;exact oL ⟨aJ,Y,S1,a7,S',aU,h,q.eJ g1.eJ⟩⟩
theorem ahw(he:fo X e m):gL X (.Return (some e) pos) (k9 m):=⟨gW (EM he.un) λD au H aW=>by
 obtain⟨O,Y,S,a7,S',st,h,q⟩:=aW;obtain⟨r,S1,ae,h⟩:=N.inv h;refine⟨O,Y,S,r,S1,st,ae,λaJ v H1 g1 aU bp nn=>?_⟩
 cases r with
 |v d=>cases h;exact q aJ v H1 g1.eJ aU.s3.cp aU.s3.gF aU.full bp
 |fr xs=>cases h;exact q aJ v H1 g1.eJ aU.s3.cp aU.s3.gF aU.full (Nc bp (.inr ⟨_,rfl⟩))
 |cu xs=>cases h
 |mv xs=>cases h⟩
theorem ahq(he:fo X e m)(aj:alu e none pos.line X.env=pure false:=by rfl):gL X (.Expr e pos) (lZ m):=⟨gW (EL he.un aj) λD au H aW=>by
 obtain⟨O,Y,S,a7,S',st,h,q⟩:=aW;obtain⟨r,S1,ae,h⟩:=N.inv h;cases h;exact⟨O,Y,S,r,_,st,ae,λaJ v H1 g1 aU bp nn=>q aJ au H1 g1.eJ aU⟩⟩
theorem ahx(hN:X.N.Nodup)(aB:X.N[i]? = some x)(ag:Loc X.env.scope x)(he:fo X e m)(aj:alu e (some (.Name x pos')) pos.line X.env=pure false:=by rfl)(hf:X.fn x=true\/X.env.scope.names.lookup x=some .local:=by first|exact .inl rfl|exact .inr rfl|assumption) :
  gL X (.Assign [.Name x pos'] e pos) (ks i m):=⟨gW (EO hN aB ag he.un aj hf) λD au H aW=>by
 obtain⟨O,Y,S,a7,S',st,h,q⟩:=aW;obtain⟨r,S1,ae,h⟩:=N.inv h;obtain⟨d,bh,ah,h⟩:=N.inv h;cases h;refine⟨O,Y,S,r,S1,st,ae,λaJ v H1 g1 aU bp nn=>?_⟩;obtain⟨bb,rfl⟩:=pV (H₀:=H) bp nn ah;exact q (ck H aJ) _ H1 g1.ck.eJ ((aU.ck H).set (λxs z=>by cases z) ⟨v,rfl,bb⟩)⟩
end
def Gh(cm:iu)(O:a0)(H:ax)(ys:List V):Prop:=∀bq aM,g7 O bq H aM->∀i,(i<ys.length->cm.go i aM/\∀x H',cm.px i aM x H'->H'=aM/\ys[i]? = some x)/\(ys.length<=i->cm.stop i aM)
def Pk(K:aT)(mg:bo)(m:e'):TI:=λau H R=>sF K mg (λY=>(m Y).up) au H λO Y S' xs=>∀ao H' cm ys,Go O ao H H'->ez K mg ao Y S' au H'->Gh cm ao H' ys->bc K mg ao H' xs ys->R cm H'
structure Gn(X:aS)(b8 e:Expr)(m:e'):Prop where
 un:kE X b8 e (Pk X.K X.mg m)
def ry(m:bg):e':=λY=>do
 let r <-m Y
 match r with
 |.v (.l xs)=>pure xs|.fr xs=>pure xs|_=>bad
def k8(b:D->bf):List D->bf
 |[]=>λY=>pure (.bj Y)
 |d::ds=>λY=>do
  let a7 <-b d Y
  match a7 with
  |.bj Y'=>k8 b ds Y'|.b5 Y'=>k8 b ds Y'|.c_ Y'=>pure (.bj Y')|.cJ r=>pure (.cJ r)
def PD(B:D->bf)(it:e'):bf:=λY=>do
 let ds <-(it Y).up
 k8 B ds Y
abbrev sj(i:Nat)(it:e')(b:bf):bf:=PD (λd Y=>b (Y.set i (.v d))) it
section
variable{X:aS}{b8 l iter:Expr}{m:bg}{a:Expr}{pos d2:Pos}{it:e'}{bd:bf}{body:List Stmt}{i:Nat}{x:Str}
theorem l6.KN{K:aT}{O:a0}{H:ax}{a:Addr}{xs:List V}(h:l6 K O H a xs):Gh (l5 K a) O H xs:=λbq aM g i=>Dj (h.eJ g).v.dI aM (eG.refl _) i
theorem ahm(ar:a_ X l m):Gn X b8 l (ry m):=⟨qv (EK ar.un) λau H R aW=>by
 obtain⟨O,Y,S,xs,S',st,h,q⟩:=aW;obtain rfl:=(ry m Y).es _ _ _ h;obtain⟨r,S1,ae,h⟩:=M.inv h;obtain rfl:=(m Y).es _ _ _ ae;refine⟨O,Y,S1,r,S1,st.s3,ae,λaJ v H1 g1 aU bp nn=>?_⟩;have Ai:=st.go g1 aU.cp;split at h
 .cases h
  obtain⟨a,ys,rfl,ls,bl⟩:=bp;exact⟨a,rfl,⟨ys,ls.dI⟩,q aJ H1 (l5 X.K a) ys g1 Ai (l6.KN (.inl ⟨.inl ls.1,.inl ls.2,aU.cp.ct.no ls.2 (by intro z;cases z)⟩)) bl⟩
 .cases h
  obtain⟨a,ys,rfl,ls,t,bl⟩:=bp;exact⟨a,rfl,⟨ys,dk.of ls⟩,q (ck H aJ) H1 (l5 X.K a) ys g1.ck (Ai.ck H) (l6.KN (.inl ⟨.inl ls,.inl (yH (nn a rfl) t),aU.cp.ct.no t (by intro z;cases z)⟩)) (bl.du (je _ _))⟩
 .cases h⟩
theorem aac{K:aT}{mg:bo}{cm:iu}{G:ja}{B:aZ.D->bf}{items:List aZ.D}{aJ:a0}{Y:aQ}{S1 S':cG}{au:St}{H1:ax}{a7:gv}{hD:Ends}(aU:ez K mg aJ Y S1 au H1)(stop:∀ao H',g7 aJ ao H1 H'->cm.stop items.length H')
  (step:∀k d ao H' Y' hk dg f bh,items[k]? = some d->g7 aJ ao H1 H'->ez K mg ao Y' hk dg H'->(B d Y').run hk=.ok f bh->cm.go k H'/\∀x aM (R:St->ax->Prop),cm.px k H' x aM->
   (∀iq kx cT,g7 ao ao H' cT->ez K mg ao iq hk kx cT->(bd iq).run hk=.ok f bh->R kx cT)->G x dg aM R)
  (h:(k8 B items Y).run S1=.ok a7 S') (q:uJ K mg aJ S' H1 a7 hD):r_ (λ_ _ R=>R cm H1) G (so K mg bd) hD au H1:=by
 refine⟨λk m dg H'=>m=items.length-k/\k<=items.length/\∃ao Y' hk,ez K mg ao Y' hk dg H'/\g7 aJ ao H1 H'/\(k8 B (items.drop k) Y').run hk=.ok a7 S',
  ⟨_,rfl,akm _,aJ,Y,S1,aU,(ei.refl _ _).eJ,h⟩,?_⟩
 rintro k m dg H' ⟨rfl,aw,ao,Y',hk,cg,g',h⟩
 cases e:items.drop k with
 |nil=>
  obtain rfl:k=items.length:=by
   have:=congrArg alr e;rw[ak0,akY]at this;omega
  rw[e]at h;cases h;exact .inl ⟨stop ao H' g',q ao dg H' g' cg⟩
 |cons d nk=>
  have fs:k<items.length:=by
   have:=congrArg alr e;rw[ak0,akd]at this;omega
  have dS:items[k]? = some d:=by
   have:=congrArg (·[0]?) e;simpa using this
  have cA:items.drop (k+1)=nk:=by
   have:=congrArg (anU 1) e;simpa[amL]using this
  rw[e]at h;obtain⟨f1,bh,ah,h⟩:=N.inv h;obtain⟨go,m3⟩:=step k d ao H' Y' hk dg f1 bh dS g' cg ah;refine .inr ⟨go,λhj aM=>∃bq dQ bh,ez K mg bq dQ bh hj aM/\g7 aJ bq H1 aM/\(k8 B (items.drop (k+1)) dQ).run bh=.ok a7 S',?_,λx aM jU=>m3 x aM _ jU λiq kx cT iR mX ab=>?_⟩
  .rintro hj aM ⟨bq,dQ,bh,a1,a2,eH⟩
   exact⟨_,by omega,rfl,fs,bq,dQ,bh,a1,a2,eH⟩
  .refine⟨ao,iq,hk,f1,bh,mX,ab,?_⟩
   have g3:=g'.trans iR
   cases f1 with
   |bj dQ=>exact λbq hj aM g2 cV=>⟨bq,dQ,bh,cV,g3.trans g2,by rw[cA];exact h⟩
   |b5 dQ=>exact λbq hj aM g2 cV=>⟨bq,dQ,bh,cV,g3.trans g2,by rw[cA];exact h⟩
   |c_ dQ=>cases h;exact λbq hj aM g2 cV=>q bq hj aM (g3.trans g2) cV
   |cJ r=>cases h;exact λbq v aM g2 da aC f2 cq=>q bq v aM (g3.trans g2) da aC f2 cq
theorem VR{G:ja}{B:aZ.D->bf}(p2:∀O Y S au H d y f bh Q,ez K mg O Y S au H->Rep K mg O H d y->(B d Y).run S=.ok f bh->(∀iq kx,ez K mg O iq S kx H->(bd iq).run S=.ok f bh->Q kx H)->G y au H Q) :
  ∀D au H,so K mg (PD B it) D au H->r_ (Pk K mg it) G (so K mg bd) D au H:=by
 rintro D au H ⟨O,Y,S,a7,S',st,h,q⟩;obtain⟨ds,S1,ae,h⟩:=N.inv h;refine⟨O,Y,S,ds,S1,st,ae,λaJ H1 cm ys g1 aU its bl=>aac aU (λao H' g=>(its ao H' g _).2 (alF bl.len)) (λk d ao H' Y' hk dg f bh dS g' cg ah=>?_) h (q.eJ g1.aL.eJ)⟩;obtain⟨y,fg,bz⟩:=(bl.eJ g' aU.s3.cp.ct).get dS;obtain⟨go,m3⟩:=(its ao H' g' k).1 (aj2.mp fg).1;refine⟨go,λx aM R jU eB=>?_⟩;obtain⟨rfl,ex⟩:=m3 x aM jU;rw[fg]at ex;cases ex;exact p2 _ _ _ _ _ _ _ _ _ _ cg bz ah λiq kx mX ab=>eB _ _ _ (ei.refl _ _).eJ mX ab
def ahs(aH:anQ (model X.prog X.w) X.A X.env X.dV)(aD:X.calm=true)(aB:Gn X (.Name x d2) iter it)(hN:X.N.Nodup)(ag:X.N[i]? = some x)(ar:Loc X.env.scope x)(ab:jY X body bd)
  (aj:∀x,akN iter X.env x=pure x:=by intro _;rfl) (hf:X.fn x=true\/X.env.scope.names.lookup x=some .local:=by first|exact .inl rfl|exact .inr rfl|assumption):gL X (.For (.Name x d2) iter body [] pos) (sj i it bd):=
 ⟨gW (z8 aH aD aB.un (wL hN ag ar hf) ab.un aj) (VR λ_ _ _ _ _ _ _ _ _ _ st bz h k=>k _ _ (st.set (s:=.v _) (λxs z=>by cases z) ⟨_,rfl,bz⟩) h)⟩
end
end aZ
namespace aZ
open PySem PySem.Spec aE
def fnX(n N:Nat)(b:bf):fb:=λds=>if ds.length=n then do
  let a7 <-b (ds.map dr++akQ (N-n) .e)
  match a7 with
  |.cJ (.v d)=>pure (.v d)|.cJ (.fr xs)=>pure (.fr xs)|.bj _=>pure (.v .aI)|_=>gU
 else gU
def Co{n N:Nat}{ds:List D}{r:R}(h:(fnX n N b ds).run S=.ok r S'):ds.length=n:=by
 unfold fnX at h
 by_cases c:ds.length=n
 .exact c
 .rw[if_neg c]at h;cases h
def kr:hF:=λ_=>pure []
def i3(m:eX)(ms:hF):hF:=λY=>do
 let x <-m Y
 let xs <-ms Y
 if x.jR=true then pure (x::xs)else gU
def uq(m:eX)(ms:c8):hF:=λY=>do
 let x <-m Y
 let xs <-(ms Y).up
 pure (x::xs)
def lY(mf:fb)(ms:hF):eX:=λY=>do
 let rs <-ms Y
 if rs.all R.jR=true then mf (rs.map R.arg)else gU
def fR(c m:Str)(mf:fb)(mo:bg)(ms:hF):eX:=λY=>do
 let x <-(mo Y).up
 let o <-(gc x).up
 match o with
 |.bx c' aY=>if c'=c/\aY.lookup m=none then(do
  let rs <-ms Y
  if rs.all R.jR=true then mf (x.arg::rs.map R.arg)else gU)else gU
 |_=>gU
def xp(c:Str)(mf:fb)(ms:hF):eX:=λY=>do
 let rs <-ms Y
 if rs.all R.jR=true then(do
  let S <-vl
  putN (S++[.bx c []])
  let r <-mf (.ref S.length::rs.map R.arg)
  match r with
  |.v .aI=>pure (.v (.ref S.length))| _=>gU)else gU
def ur(mf:bC)(ms:hF):eX:=λY=>do
 let rs <-ms Y
 (mf (rs.map R.arg)).up
variable[aE.a5]
def pz(K:aT)(mg:bo)(O:a0)(H:ax):D->V->Prop
 |.l xs,v=>∃a ys,v=.ref a/\((fV H a (.l ys)/\a∉O.bK)\/A0 K a ys)/\bc K mg O H xs ys|d,v=>Rep K mg O H d v
def m6(K:aT)(mg:bo)(O:a0)(H:ax):List D->List V->Prop
 |[],ys=>ys=[]|x::xs,ys=>∃y r,ys=y::r/\pz K mg O H x y/\m6 K mg O H xs r
section
variable{K:aT}{mg:bo}{O:a0}{H:ax}{S:cG}
def pz.rep{v:V}(ct:jA O)(h:Rep K mg O H d v):pz K mg O H d v:=by
 cases d with
 |l xs=>obtain⟨a,ys,e,l,r⟩:=h;exact⟨a,ys,e,.inl ⟨.inl l.1,ct.no l.2 (by intro z;cases z)⟩,r⟩
 |_=>exact h
def Qz{r:R}{v:V}(ct:jA O)(aj:r.jR=true)(h:eN K mg O H r v):pz K mg O H r.arg v:=by
 cases r with
 |v d=>exact pz.rep ct h| fr xs=>obtain⟨a,ys,e,l,t,r⟩:=h;exact⟨a,ys,e,.inl ⟨.inl l,ct.no t (by intro z;cases z)⟩,r⟩
 |cu _=>cases aj
 |mv _=>cases aj
theorem xW(ct:jA O):∀{rs:List R}{vs:List V},rs.all R.jR=true->gg K mg O H rs vs->m6 K mg O H (rs.map R.arg) vs
 |[],_,_,h=>h|_::_,_,aj,h=>by
  rw[amQ,akE]at aj;obtain⟨y,r,q,a,b⟩:=h;exact⟨y,r,q,Qz ct aj.1 a,xW ct aj.2 b⟩
def pz.r{v:V}(h:pz K mg O H d v):uy K mg O H d v:=by
 cases d with
 |l xs=>obtain⟨a,ys,e,l,r⟩:=h;exact⟨a,ys,e,l.imp (·.1) id,r⟩
 |_=>exact h
theorem m6.r:∀{ds:List D}{vs:List V},m6 K mg O H ds vs->l1 K mg O H ds vs
 |[],_,h=>h| _::_,_,h=>by obtain⟨y,r,q,a,b⟩:=h;exact⟨y,r,q,a.r,m6.r b⟩
theorem m6.get:∀{ds:List D}{xs:List V}{i:Nat}{d:D},m6 K mg O H ds xs->ds[i]? = some d->∃x,xs[i]? = some x/\pz K mg O H d x
 |[],_,_,_,_,e=>by simp at e| _::_,_,0,d,h,e=>by obtain⟨x,r,rfl,a,_⟩:=h;cases(show some _=some d from e);exact⟨x,rfl,a⟩
 |_::ds,_,i+1,d,h,e=>by
  obtain⟨x,r,rfl,_,b⟩:=h;obtain⟨y,av,aC⟩:=m6.get (i:=i) b (by simpa using e);exact⟨y,by simpa using av,aC⟩
def dP(K:aT)(mg:bo)(mf:fb):ed:=λvs H Q _=>∃O ds r S S',dc O H/\gi K mg O H S/\O.bK.length=S.length/\m6 K mg O H ds vs/\(mf ds).run S=.ok r S'/\
 ∀ao v H',fz O ao H H'->dc ao H'->gi K mg ao H' S'->ao.bK.length=S'.length->eN K mg ao H' r v->jy H r v->Q v H'
def ae1{ps N:List Str}{ds:List D}(cL:dc O H)(eu:gi K mg O H S)(a7:O.bK.length=S.length)(dM:m6 K mg O H ds vs)(ar:ds.length=ps.length):ez K mg (fe O) (ds.map dr++akQ (N.length-ps.length) .e) S (aE.start N vs) H:=by
 refine⟨Fl cL eu dM.r ar,a7,λi xs e=>?_⟩
 by_cases aB:i<ds.length
 .rw[akq (by rw[ajX];exact aB),aku]at e
  cases dS:ds[i]? with
  |none=>rw[dS]at e;cases e
  |some d=>
   rw[dS]at e;obtain⟨v,ev,bP⟩:=dM.get dS
   cases d with
   |l zs=>
    cases e;obtain⟨a,ys,rfl,l,r⟩:=bP;refine⟨a,ys,?_,l.imp (λz=>⟨z.1,ng O a,z.2⟩) id,r.du (lu O)⟩;unfold aE.start;rw[akq (by rw[ajX];exact(aj2.mp ev).1),aku,ev];rfl
   |_=>cases e
 .rw[akk (by rw[ajX];omega),alT]at e
  split at e
  .cases e
  .cases e
theorem Ig{ps N:List Str}(hM:dP K mg (fnX ps.length N.length c6) vs H Q E):so K mg c6 { bj:=λ_ H'=>Q .aI H',cJ:=Q } (aE.start N vs) H:=by
 obtain⟨O,ds,r,S,S',cL,eu,Cs,dM,h,q⟩:=hM;have ar:=Co h;unfold fnX at h;rw[if_pos ar]at h;obtain⟨a7,S1,ae,h⟩:=aZ.N.inv h;have r7:=ae1 (N:=N) cL eu Cs dM ar;have back:∀{ao:a0}{H':ax},g7 (fe O) ao H H'->dc ao H'->∃bq:a0,fz O bq H H'/\dc bq H'/\m_ ao bq/\∀b,(ao b=.dx\/∃i,ao b=.loc i)->H b=none/\bq b=.dx:=λ{ao H'} g d=>by
  have rT:∀b,H b≠none->(match H b with|some _=>O b|none=>(match ao b with|.loc _=>.dx|o=>o))=O b:=λb ab=>by
   cases e:H b with
   |none=>exact absurd e ab|some o=>rfl
  have qp:∀b,H b=none->(match H b with|some _=>O b|none=>(match ao b with|.loc _=>.dx|o=>o))=(match ao b with|.loc _=>Own.dx|o=>o):=λb ab=>by rw[ab]
  refine⟨⟨λb=>match H b with|some _=>O b|none=>(match ao b with|.loc _=>.dx|o=>o),ao.bK⟩,⟨λb o e h n=>g.cells b o e (h.imp (λz=>⟨ng O b,z⟩) id) n,rT,g.has,g.cK,g.bS,g.bK,g.new⟩,⟨λb ab=>?_,d.tabs,d.ct.1,λb m=>?_⟩,⟨λb ab=>?_,rfl⟩,λb ab=>?_⟩
  .cases e:H b with
   |some o=>exact g.has b (jq e)|none=>
    refine d.has b λz=>ab ?_
    refine(qp b e).trans ?_;rw[z]
  .rcases g.new b m with z|z
   .exact(rT b (cL.has b (by rw[cL.ct.2 b z];intro z;cases z))).trans (cL.ct.2 b z)
   .refine(qp b z).trans ?_
    rw[d.ct.2 b m]
  .cases e:H b with
   |some o=>exact(rT b (jq e)).trans (pS.mp ((g.own b (jq e) (ng O b)).symm.trans ab))|none=>
    refine(qp b e).trans ?_;rw[ab]
  .have aF:H b=none:=by
    cases e:H b with
    |none=>rfl|some o=>
     exfalso;have bk:=g.own b (jq e) (ng O b);rcases ng O b with z|z<;>rw[z]at bk<;>rcases ab with w|⟨i,w⟩<;>rw[bk]at w<;>cases w
   refine⟨aF,(qp b aF).trans ?_⟩;rcases ab with w|⟨i,w⟩<;>rw[w]
 refine⟨fe O,_,S,a7,S1,r7,ae,?_⟩
 cases a7 with
 |bj Y'=>
  cases h;intro ao dg H' g cg;obtain⟨bq,g2,da,f2,_⟩:=back g cg.s3.cp;exact q bq .aI H' g2 da (cg.s3.gF.all (λ_ _ z=>Rep.du f2 z) f2.bK λ_ _ _ l _=>l) (by rw[f2.bK];exact cg.full) rfl trivial
 |c_ Y'=>cases h
 |b5 Y'=>cases h
 |cJ bJ=>
  intro ao v H' g d aeS VV bp;obtain⟨bq,g2,da,f2,dJ⟩:=back g d;have w_:=aeS.all (λ_ _ z=>Rep.du f2 z) f2.bK λ_ _ _ l _=>l
  have Jp:bq.bK.length=S1.length:=by rw[f2.bK];exact VV
  cases bJ with
  |v dd=>cases h;exact q bq v H' g2 da w_ Jp (Rep.du f2 bp) trivial
  |fr xs=>
   cases h;obtain⟨a,ys,rfl,l,t,bl⟩:=bp;obtain⟨aF,bM⟩:=dJ a t;exact q bq _ H' g2 da w_ Jp ⟨a,ys,rfl,l,bM,bl.du f2⟩ λb c5=>by cases c5;exact aF
  |cu xs=>exact akD bp|mv xs=>exact akD bp
end
structure gu(K:aT)(mg:bo)(c m qual:Str)(st:Stmt)(ps:List Str):Prop where
 ex:∃C f fd,mg c=some (.ref C)/\i7 K C/\Meth K C m f/\lh K m qual st f fd/\Binds K fd ps []
structure dK(P:akh)(w:World)(K:aT)(mg:bo)(base:Heap)(c m:Str)(ps:List Str)(k:Nat)(sp:ed):Prop where
 ex:∃C f fd,mg c=some (.ref C)/\i7 K C/\Meth K C m f/\e9 P w K mg base eE k f fd ps sp/\Binds K fd ps []
section
variable{P:akh}{w:World}{K:aT}{mg:bo}{base:Heap}{x c m qual:Str}{st:Stmt}{ps N:List Str}{k:Nat}{c6:bf}{n nl:Nat}{f:Addr}{fd:ale}
def Cp(F:lh K x qual st f fd)(Sc:b9 N ps (bF st))(aF:ps.length=n)(ar:N.length=nl)
  (ab:∀(br:Value)(A:akl)(outer:List Env)(s:ajZ)(H:ax)(E:gy),cF k (A.deeper (ala qual (bF st) s.heap.objs.size f br))->
   jY (g_ eE P w K mg base N qual (bF st) f br A outer s H E).gD (fq st) c6):e9 P w K mg base eE (k+1) f fd ps (dP K mg (fnX n nl c6)):=by
 subst aF ar;exact F.ok Sc (λvs H Q E ⟨O,ds,r,S,S',cL,eu,Cs,dM,h,q⟩=>dM.r.len.trans (Co h)) λbr A outer s H vs Q E aA hM=>⟨_,(ab br A outer s H E aA).un,Ig hM⟩
theorem vv(cn:cn K mg x st ps)(Sc:b9 N ps (bF st))(aF:ps.length=n)(ar:N.length=nl)
  (ab:∀(f:Addr)(br:Value)(A:akl)(outer:List Env)(s:ajZ)(H:ax)(E:gy),cF k (A.deeper (ala x (bF st) s.heap.objs.size f br))->
   jY (g_ eE P w K mg base N x (bF st) f br A outer s H E).gD (fq st) c6):b6 P w K mg base x ps (k+1) (dP K mg (fnX n nl c6)):=by
 obtain⟨f,fd,F,b,m⟩:=cn.ex;exact⟨f,fd,Cp F Sc aF ar (λbr=>ab f br),b,F.kp,m⟩
theorem ow(cn:gu K mg c m qual st ps)(Sc:b9 N ps (bF st))(aF:ps.length=n)(ar:N.length=nl)
  (ab:∀(f:Addr)(br:Value)(A:akl)(outer:List Env)(s:ajZ)(H:ax)(E:gy),cF k (A.deeper (ala qual (bF st) s.heap.objs.size f br))->
   jY (g_ eE P w K mg base N qual (bF st) f br A outer s H E).gD (fq st) c6):dK P w K mg base c m ps (k+1) (dP K mg (fnX n nl c6)):=by
 obtain⟨C,f,fd,hb,cl,me,F,b⟩:=cn.ex;exact⟨C,f,fd,hb,cl,me,Cp F Sc aF ar (λbr=>ab f br),b⟩
theorem p3{c6:aX}(cn:gu K mg c m qual st ps)(Sc:b9 N ps (bF st))(aF:ps.length=n)(ar:N.length=nl)
  (ab:∀(f:Addr)(br:Value)(A:akl)(outer:List Env)(s:ajZ)(H:ax)(E:gy),cF k (A.deeper (ala qual (bF st) s.heap.objs.size f br))->
   su (g_ eE P w K mg base N qual (bF st) f br A outer s H E).gD (fq st) c6):dK P w K mg base c m ps (k+1) (bY K mg (fnOf n nl c6)):=by
 obtain⟨C,f,fd,hb,cl,me,F,b⟩:=cn.ex;exact⟨C,f,fd,hb,cl,me,Jk F Sc aF ar (λbr=>ab f br),b⟩
end
section
variable{X:aS}{x:Str}{ps:List Str}{k:Nat}{mf:fb}{mR:bC}{p pos:Pos}{e:Expr}{ay:List Expr}{ms:hF}{pm:c8}{PJ:eX}
theorem kC.dY{O ao:a0}(g:fz O ao H H'):∀{rs:List R}{vs:List V},kC H' rs vs->kC H rs vs
 |[],_,_=>trivial|_::_,[],_=>trivial|_::_,_::_,h=>⟨h.1.dY g,kC.dY g h.2⟩
theorem ag9(ak:fo X e PJ)(aA:gK X ay pm)(aj:ajY (e::ay) X.env=(false,eval e X.env)::ajY ay X.env:=by rfl):n_ X (e::ay) (uq PJ pm):=⟨z5 (z4 ak.un aA.un aj) λau H Q aW=>by
 obtain⟨O,Y,S,r,S',st,h,q⟩:=aW;obtain⟨x,S1,ae,h⟩:=N.inv h;obtain⟨xs,bh,ah,h⟩:=N.inv h;cases h;obtain rfl:=(pm Y).es _ _ _ ah;refine⟨O,Y,S,x,_,st,ae,λaJ gf H1 g1 aU a4 bj=>?_⟩;exact⟨aJ,Y,_,xs,_,aU.s3,ah,λbq vs aM g2 cV rs ns=>q bq (gf::vs) aM (g1.trans g2.dY) (aU.go g2 cV.cp) ⟨gf,vs,rfl,a4.go g2,rs⟩ ⟨bj,ns.dY g1⟩⟩⟩
def Tf:∀au H Q,AL K mg (lY mf ms) au H Q->As (dP K mg mf) (AK K mg ms) au H Q:=by
 rintro au H Q ⟨O,Y,S,r,S',st,h,q⟩;obtain⟨rs,S1,ae,h⟩:=N.inv h;split at h
 .rename_i f9
  refine⟨O,Y,S,rs,S1,st,ae,λaJ vs H1 g1 aU bp nn=>?_⟩;exact⟨aJ,_,r,S1,S',aU.s3.cp,aU.s3.gF,aU.full,xW aU.s3.cp.ct f9 bp,h,λao v H' g d eu a7 bJ dE=>q ao v H' (g1.trans g) (aU.dY g d eu a7) bJ (dE.dY g1)⟩
 .cases h
def ahd(h:b6 X.prog X.w X.K X.mg X.base x ps k (dP X.K X.mg mf))(aA:cF k X.A)(aV:eF X x)(ak:n_ X (e::ay) ms)(eC:(x==("__debug__":Str))=false:=by decide)
  (he:ajY (e::ay) X.env=(false,eval e X.env)::ajY ay X.env:=by rfl) (eU:(akr pos (ajY ay X.env)).any (·.1)=false:=by rfl):fo X (.Call (.Name x p) (e::ay) [] pos) (lY mf ms):=
 ⟨eg (EH h aA aV ak.un eC he eU) Tf⟩
def ahl(h:b6 X.prog X.w X.K X.mg X.base x ps k (bY X.K X.mg mR))(aA:cF k X.A)(aV:eF X x)(ak:n_ X (e::ay) ms)(eC:(x==("__debug__":Str))=false:=by decide)
  (he:ajY (e::ay) X.env=(false,eval e X.env)::ajY ay X.env:=by rfl) (eU:(akr pos (ajY ay X.env)).any (·.1)=false:=by rfl):fo X (.Call (.Name x p) (e::ay) [] pos) (ur mR ms):=
 ⟨eg (EH h aA aV ak.un eC he eU) λau H Q aW=>by
  obtain⟨O,Y,S,r,S',st,h,q⟩:=aW;obtain⟨rs,S1,ae,h⟩:=N.inv h;refine⟨O,Y,S,rs,S1,st,ae,λaJ vs H1 g1 aU bp nn=>?_⟩;obtain rfl:=(mR _).es _ _ _ h;exact⟨aJ,_,r,S',aU.s3.cp,aU.s3.gF,xX bp,h,λao v H' g d bJ dE=>q ao v H' (g1.trans g.dY) (aU.go g d) bJ (dE.dY g1)⟩⟩
end
end aZ
namespace aZ
open PySem PySem.Spec aE
def fp(c m:Str)(mf:bC)(mo:bg)(ms:c8):bg:=λY=>do
 let x <-mo Y
 let o <-gc x
 match o with
 |.bx c' aY=>if c'=c/\aY.lookup m=none then(do
  let rs <-ms Y
  mf (x.arg::rs.map R.arg))else bad
 |_=>bad
def Af(x:R)(o:gI):N Unit:=match x with
 |.v (.ref n)=>⟨λS=>.ok () (S.set n o)⟩
 |_=>gU
def eS(c f:Str)(mo:bg)(mv:eX):bf:=λY=>do
 let r <-mv Y
 let d <-r.dat.up
 let x <-(mo Y).up
 let o <-(gc x).up
 match o with
 |.bx c' aY=>if c'=c/\aY.length<1000 then(do
  Af x (.bx c (iI f d aY))
  pure (.bj Y))else gU
 |_=>gU
def jw(mo mk:bg)(mv:eX):bf:=λY=>do
 let r <-mv Y
 let d <-r.dat.up
 let x <-(mo Y).up
 let k <-(mk Y).up
 let o <-(gc x).up
 match o,k with
 | .cH aq,.v kd=>(match qd kd with
  |some key=>if aq.length<1000 then(do
   Af x (.cH (gz aq key d))
   pure (.bj Y))else gU
  |none=>gU)
 |_,_=>gU
def xo(mo:bg)(ms:c8)(mv:eX):bf:=λY=>do
 let r <-mv Y
 let d <-r.dat.up
 let x <-(mo Y).up
 let rs <-(ms Y).up
 let o <-(gc x).up
 match o,rC rs with
 |.eI aq,some k=>(if rs.length<=1000/\aq.length<1000 then(do
  Af x (.eI (gz aq k d))
  pure (.bj Y))else gU)
 |_,_=>gU
def qK(f:List D->List R->M (R×List D))(mo:bg)(ms:c8):bf:=λY=>do
 let x <-(mo Y).up
 let rs <-(ms Y).up
 let o <-(gc x).up
 match o with
 |.l xs=>do
  let p <-(f xs rs).up
  Af x (.l p.2)
  pure (.bj Y)
 |_=>gU
def kq(m:eX):eX:=λY=>do
 let r <-m Y
 match r with
 |.fr xs=>do
  let S <-vl
  putN (S++[.l xs])
  pure (.v (.ref S.length))
 |_=>gU
variable[aE.a5]
def hu(O:a0)(p:Addr):a0:=⟨λb=>if b=p then .out else O b,O.bK++[p]⟩
section
variable{K:aT}{mg:bo}{O ao:a0}{H H':ax}{S S':cG}{Y:aQ}{au:St}{p a:Addr}{o:gI}{n:Nat}{u u':gH}
omit [aE.a5]in
theorem o6(h:b≠p):hu O p b=O b:=if_neg h
omit [aE.a5]in
theorem aaP:hu O p p=.out:=if_pos rfl
theorem Me(cL:dc O H)(aH:p∉O.bK):jA (hu O p):=⟨amF.mpr ⟨cL.ct.1,by simp,λx ag y ba=>by rintro rfl;rw[akg.mp ba]at ag;exact aH ag⟩,λa m=>by
 by_cases e:a=p
 .rw[e];exact aaP
 .rw[o6 e];exact cL.ct.2 a ((akx.mp m).elim id λz=>absurd (akg.mp z) e)⟩
def dc.Ee(cL:dc O H)(aH:H p=none):p∉O.bK:=λm=>cL.has p (by rw[cL.ct.2 p m];intro z;cases z) aH
theorem alloc(cL:dc O H)(eu:gi K mg O H S)(a7:O.bK.length=S.length)(aH:H p=none)(hU:eG H H')(d6:H' p≠none)(bx:(∀d v,Rep K mg O H d v->Rep K mg (hu O p) H' d v)->nf K mg (hu O p) H' p o) :
  fz O (hu O p) H H'/\dc (hu O p) H'/\gi K mg (hu O p) H' (S++[o])/\(hu O p).bK.length=(S++[o]).length:=by
 have g:fz O (hu O p) H H':=⟨λb o e _ n=>hU.at' b o e n,λb ab=>o6 (by rintro rfl;exact ab aH),λ_ h=>hU.some h,hU.cK,hU.bS,anW _ _,λb m=>(akx.mp m).imp id λz=>by rw[akg.mp z];exact aH⟩;have f:∀d v,Rep K mg O H d v->Rep K mg (hu O p) H' d v:=λ_ _ z=>Rep.dY g cL.ct z
 refine⟨g,⟨λb ab=>?_,hU.bS cL.tabs,Me cL (cL.Ee aH)⟩,λn o' e=>?_,by rw[aj7,<-a7];exact aj7⟩
 .by_cases e:b=p
  .rw[e];exact d6
  .rw[o6 e]at ab;exact hU.some (cL.has b ab)
 .by_cases aF:n<S.length
  .rw[akq aF]at e
   obtain⟨a,ae,ah⟩:=eu n o' e;exact⟨a,by show(O.bK++[p])[n]? = _;rw[akq (by rw[a7];exact aF)];exact ae,ah.all f λu l n=>hU.at' _ _ l n⟩
  .rw[akk (by omega)]at e
   obtain rfl:n=S.length:=by
    have:=(aj2.mp e).1;simp at this;omega
   rw[alX]at e;cases e;exact⟨p,by show(O.bK++[p])[S.length]? = _;rw[<-a7,akk (aj0 _),alX];rfl,bx f⟩
def ez.write(st:ez K mg O Y S au H)(aF:O.bK[n]? = some a)(cy:H a=some u)(kc:¬Fix u)(ae:∀ps,u≠.gd ps)(ah:∀q,u≠.ext (q1 a q))(bx:(∀d v,Rep K mg O H d v->Rep K mg O (upd H a u') d v)->nf K mg O (upd H a u') a o) :
  fz O O H (upd H a u')/\ez K mg O Y (S.set n o) au (upd H a u'):=by
 have cR:=akL aF;have bS:TabsOk H->TabsOk (upd H a u'):=λt=>t.put u' (λps z=>ae ps (akv (cy.symm.trans z))) (λq z=>ah q (akv (cy.symm.trans z)))
 have has:∀b,H b≠none->upd H a u' b≠none:=λb ab=>by
  by_cases e:b=a
  .rw[e,dy];intro z;cases z
  .rw[dj e];exact ab
 have g:fz O O H (upd H a u'):=by
  refine⟨λb o e h _=>?_,λ_ _=>rfl,has,λb ps e=>⟨ps,?_⟩,bS,aox _,λ_ m=>.inl m⟩
  .rw[dj]
   .exact e
   .rintro rfl
    rcases h with h|h
    .exact h cR
    .rw[cy]at e;cases e;exact kc h
  .rw[dj]
   .exact e
   .rintro rfl;rw[cy]at e;cases e;exact ae _ rfl
 have f:∀d v,Rep K mg O H d v->Rep K mg O (upd H a u') d v:=λ_ _ z=>Rep.dY g st.s3.cp.ct z
 refine⟨g,st.dY g ⟨λb ab=>has b (st.s3.cp.has b ab),bS st.s3.cp.tabs,st.s3.cp.ct⟩ (λk o' e=>?_) (by rw[ak7];exact st.full)⟩
 by_cases aw:n=k
 .subst aw
  rw[akX (by have:=(aj2.mp e).1;rwa[ak7]at this)]at e;cases e;exact⟨a,aF,bx f⟩
 .rw[akn aw]at e
  obtain⟨b,av,aC⟩:=st.s3.gF k o' e;refine⟨b,av,aC.all f λu l _=>?_⟩;rw[dj]
  .exact l
  .rintro rfl
   obtain⟨bk,b0⟩:=aj2.mp av;obtain⟨gX,t8⟩:=aj2.mp aF;exact aw ((List.getElem_inj st.s3.cp.ct.1).mp (t8.trans b0.symm))
theorem gg.dY(g:fz O ao H H')(ct:jA O):∀{rs:List R}{vs:List V},rs.all R.jR=true->gg K mg O H rs vs->gg K mg ao H' rs vs
 |[],_,_,h=>h|_::_,_,aj,h=>by
  rw[amQ,akE]at aj;obtain⟨y,r,q,a,b⟩:=h;exact⟨y,r,q,a.dY g ct aj.1,gg.dY g ct aj.2 b⟩
def tU{r:R}{v:V}(st:cN K mg O Y S au H)(aA:eN K mg O H r v)(h:(gc r).run S=.ok o S'):∃n a,r=.v (.ref n)/\v=.ref a/\O.bK[n]? = some a/\S[n]? = some o/\nf K mg O H a o:=by
 obtain⟨n,rfl,e,rfl⟩:=Mn h;obtain⟨a,bl,hg⟩:=st.gF n o e;obtain⟨b,c5,mS⟩:=aA;rw[bl]at mS;cases mS;exact⟨n,a,rfl,c5,bl,e,hg⟩
theorem d4.DX:∀{aq:List (Str×D)}{dC:List (Str×V)},d4 K mg O H aq dC->aq.lookup f=none->dC.lookup f=none
 |[],dC,h,e=>by obtain rfl:=h.wk;rfl
 |p::aq,dC,h,e=>by
  obtain⟨q,r,rfl,av,aC,h'⟩:=h.cons;obtain⟨p1,dv⟩:=p;obtain⟨bk,b0⟩:=q;cases(show p1=bk from av);rw[akM]at e ⊢
  cases c5:f==p1 with
  |true=>rw[c5]at e;cases e
  |false=>rw[c5]at e;exact d4.DX h' e
end
def Au(mg:bo)(c m:Str)(sp:ed)(bT:TE)(t:gj):TE:=λY H Q=>bT Y H λx H1=>∃a C b7 aY,x=.ref a/\mg c=some (.ref C)/\H1 a=some (.ins C b7 aY)/\aY.lookup m=none/\t Y H1 λvs aM=>sp (x::vs) aM Q i8
def A9(t:TE):Prop:=∀Y H Q fT,(∀v H',Q v H'->fT v H')->t Y H Q->t Y H fT
def uj:A9 (fk K mg m):=λau H Q fT i ⟨O,Y,S,x,S',st,h,q⟩=>⟨O,Y,S,x,S',st,h,λao v H' g s p n=>i _ _ (q ao v H' g s p n)⟩
section
variable{X:aS}{c m:Str}{ps:List Str}{k:Nat}{sp:ed}{o e:Expr}{ay:List Expr}{bT:TE}{t:gj}{apos pos:Pos}{mf:fb}{mR:bC}{mo:bg}{pm:c8}{ms:hF}
def MB{pl:Sem Bool}(h:dK X.prog X.w X.K X.mg X.base c m ps k sp)(aA:cF k X.A)(up:A9 bT)(he:bQ X o bT)(ak:fM X (e::ay) t)
  (f9:ajY (e::ay) X.env=(false,eval e X.env)::ajY ay X.env:=by rfl) (eU:(akr pos (ajY ay X.env)).any (·.1)=false:=by rfl)
  (bM:eval (.Call (.Attribute o m apos) (e::ay) [] pos) X.env=(do
   let ea <-eval o X.env
   amG apos.atName
   let(f,first) <-alP [ea] (amb ea m pl)
   amP pos f first (akr pos (ajY (e::ay) X.env)) (alN pos (alm [] X.env))):=by rfl) :
  bQ X (.Call (.Attribute o m apos) (e::ay) [] pos) (Au X.mg c m sp bT t):=by
 obtain⟨C,f,fd,hb,cl,me,F,b⟩:=h.ex;refine eg (ace (dvs:=[]) (ds:=[]) he cl me F aA b .nil t5 ak f9 eU bM) λY H Q a8=>up _ _ _ _ (λv H1 z=>?_) a8
 obtain⟨a,l2,b7,aY,ev,qm,d6,ar,z⟩:=z;rw[hb]at qm;cases qm;refine⟨a,b7,aY,ev,d6,ar,?_⟩;simpa only[ak6]using z
def MC{pl:Sem Bool}(h:dK X.prog X.w X.K X.mg X.base c m ps k sp)(aA:cF k X.A)(up:A9 bT)(he:bQ X o bT)
  (bM:eval (.Call (.Attribute o m apos) [] [] pos) X.env=(do
   let ea <-eval o X.env
   amG apos.atName
   let(f,first) <-alP [ea] (amb ea m pl)
   amP pos f first (akr pos (ajY [] X.env)) (alN pos (alm [] X.env))):=by rfl) :
  bQ X (.Call (.Attribute o m apos) [] [] pos) (Au X.mg c m sp bT xb):=by
 obtain⟨C,f,fd,hb,cl,me,F,b⟩:=h.ex;refine eg (acf (dvs:=[]) (ds:=[]) he cl me F aA b .nil t5 bM) λY H Q a8=>up _ _ _ _ (λv H1 z=>?_) a8
 obtain⟨a,l2,b7,aY,ev,qm,d6,ar,z⟩:=z;rw[hb]at qm;cases qm;exact⟨a,b7,aY,ev,d6,ar,z⟩
def L4:∀au H Q,fk K mg (fp c m mR mo pm) au H Q->Au mg c m (bY K mg mR) (fk K mg mo) (nX K mg pm) au H Q:=by
 rintro au H Q ⟨O,Y,S,r,S',st,h,q⟩;obtain⟨x,S1,ae,h0⟩:=M.inv h;clear h;refine⟨O,Y,S,x,S1,st,ae,λaJ gf H1 g1 aU a4 bj=>?_⟩;obtain⟨bx,bh,ah,h⟩:=M.inv h0;clear h0;obtain⟨n,a,rfl,rfl,bl,ac7,hg⟩:=tU aU a4 ah;obtain rfl:=(gc (.v (.ref n))).es _ _ _ ah;split at h
 .rename_i c' aY
  split at h
  .rename_i aD
   obtain⟨rfl,hm⟩:=aD;obtain⟨rs,h4,bN,h⟩:=M.inv h;obtain⟨C,b7,jJ,d6,ci,il⟩:=hg;refine⟨a,C,b7,jJ,rfl,ci.1,d6,il.DX hm,aJ,Y,_,rs,h4,aU,bN,λbq vs aM g2 cV bp nn=>?_⟩;obtain rfl:=(mR _).es _ _ _ h;exact⟨bq,.ref n::rs.map R.arg,r,S',cV.cp,cV.gF,⟨_,_,rfl,Gu (eN.go g2 a4),xX bp⟩,h,λao v H' g d bJ dE=>q ao v H' ((g1.trans g2).trans g) (cV.go g d) bJ (dE.back (g1.trans g2).same)⟩
  .cases h
 .cases h
def agr{pl:Sem Bool}(h:dK X.prog X.w X.K X.mg X.base c m ps k (bY X.K X.mg mR))(aA:cF k X.A)(he:a_ X o mo)(ak:gK X (e::ay) pm)
  (f9:ajY (e::ay) X.env=(false,eval e X.env)::ajY ay X.env:=by rfl) (eU:(akr pos (ajY ay X.env)).any (·.1)=false:=by rfl)
  (bM:eval (.Call (.Attribute o m apos) (e::ay) [] pos) X.env=(do
   let ea <-eval o X.env
   amG apos.atName
   let(f,first) <-alP [ea] (amb ea m pl)
   amP pos f first (akr pos (ajY (e::ay) X.env)) (alN pos (alm [] X.env))):=by rfl):a_ X (.Call (.Attribute o m apos) (e::ay) [] pos) (fp c m mR mo pm):=
 ⟨eg (MB h aA uj he.un ak.un f9 eU bM) L4⟩
def ags{pl:Sem Bool}(h:dK X.prog X.w X.K X.mg X.base c m ps k (bY X.K X.mg mR))(aA:cF k X.A)(he:a_ X o mo)
  (bM:eval (.Call (.Attribute o m apos) [] [] pos) X.env=(do
   let ea <-eval o X.env
   amG apos.atName
   let(f,first) <-alP [ea] (amb ea m pl)
   amP pos f first (akr pos (ajY [] X.env)) (alN pos (alm [] X.env))):=by rfl):a_ X (.Call (.Attribute o m apos) [] [] pos) (fp c m mR mo ai):=
 ⟨eg (MC h aA uj he.un bM) λau H Q a8=>uj _ _ _ _ (λv H1 z=>by
  obtain⟨a,C,b7,aY,av,aC,c4,fD,O,Y,S,rs,S1,st,ae,q⟩:=z;cases ae;exact⟨a,C,b7,aY,av,aC,c4,fD,q O [] H1 (Go.refl _ _) st rfl trivial⟩) (L4 _ _ _ a8)⟩
def L3:∀au H Q,AL K mg (fR c m mf mo ms) au H Q->Au mg c m (dP K mg mf) (fk K mg mo) (AK K mg ms) au H Q:=by
 rintro au H Q ⟨O,Y,S,r,S',st,h,q⟩;obtain⟨x,S1,ae,h0⟩:=N.inv h;clear h;obtain rfl:=(mo Y).es _ _ _ ae;refine⟨O,Y,S1,x,S1,st.s3,ae,λaJ gf H1 g1 aU a4 bj=>?_⟩;have ae5:=st.go g1 aU.cp;obtain⟨bx,bh,ah,h⟩:=N.inv h0;clear h0;obtain⟨n,a,rfl,rfl,bl,ac7,hg⟩:=tU aU a4 ah;obtain rfl:=(gc (.v (.ref n))).es _ _ _ ah;split at h
 .rename_i c' aY
  split at h
  .rename_i aD
   obtain⟨rfl,hm⟩:=aD;obtain⟨rs,h4,bN,h⟩:=N.inv h;obtain⟨C,b7,jJ,d6,ci,il⟩:=hg;split at h
   .rename_i f9
    refine⟨a,C,b7,jJ,rfl,ci.1,d6,il.DX hm,aJ,Y,_,rs,h4,ae5,bN,λbq vs aM g2 cV bp nn=>?_⟩;have Jq:=g1.dY.trans g2;exact⟨bq,.ref n::rs.map R.arg,r,h4,S',cV.s3.cp,cV.s3.gF,cV.full,⟨_,_,rfl,Rep.dY g2 aU.cp.ct a4,xW cV.s3.cp.ct f9 bp⟩,h,λao v H' g d eu a7 bJ dE=>q ao v H' (Jq.trans g) (cV.dY g d eu a7) bJ (dE.dY Jq)⟩
   .cases h
  .cases h
 .cases h
def ahh{pl:Sem Bool}(h:dK X.prog X.w X.K X.mg X.base c m ps k (dP X.K X.mg mf))(aA:cF k X.A)(he:a_ X o mo)(ak:n_ X (e::ay) ms)
  (f9:ajY (e::ay) X.env=(false,eval e X.env)::ajY ay X.env:=by rfl) (eU:(akr pos (ajY ay X.env)).any (·.1)=false:=by rfl)
  (bM:eval (.Call (.Attribute o m apos) (e::ay) [] pos) X.env=(do
   let ea <-eval o X.env
   amG apos.atName
   let(f,first) <-alP [ea] (amb ea m pl)
   amP pos f first (akr pos (ajY (e::ay) X.env)) (alN pos (alm [] X.env))):=by rfl):fo X (.Call (.Attribute o m apos) (e::ay) [] pos) (fR c m mf mo ms):=
 ⟨eg (MB h aA uj he.un ak.un f9 eU bM) L3⟩
def ahi{pl:Sem Bool}(h:dK X.prog X.w X.K X.mg X.base c m ps k (dP X.K X.mg mf))(aA:cF k X.A)(he:a_ X o mo)
  (bM:eval (.Call (.Attribute o m apos) [] [] pos) X.env=(do
   let ea <-eval o X.env
   amG apos.atName
   let(f,first) <-alP [ea] (amb ea m pl)
   amP pos f first (akr pos (ajY [] X.env)) (alN pos (alm [] X.env))):=by rfl):fo X (.Call (.Attribute o m apos) [] [] pos) (fR c m mf mo kr):=
 ⟨eg (MC h aA uj he.un bM) λau H Q a8=>uj _ _ _ _ (λv H1 z=>by
  obtain⟨a,C,b7,aY,av,aC,c4,fD,O,Y,S,rs,S1,st,ae,q⟩:=z;cases ae;exact⟨a,C,b7,aY,av,aC,c4,fD,q O [] H1 (Go.refl _ _).dY st rfl trivial⟩) (L3 _ _ _ a8)⟩
theorem ahg{aY:List Str}{p:Pos}(T:pB X.K X.mg c aY)(h:dK X.prog X.w X.K X.mg X.base c "__init__" ps k (dP X.K X.mg mf))(aA:cF (k+1) X.A)(aV:eF X c)(ak:n_ X (e::ay) ms)(eC:(c==("__debug__":Str))=false:=by decide)
  (he:ajY (e::ay) X.env=(false,eval e X.env)::ajY ay X.env:=by rfl) (eU:(akr pos (ajY ay X.env)).any (·.1)=false:=by rfl):fo X (.Call (.Name c p) (e::ay) [] pos) (xp c mf ms):=by
 obtain⟨C,f,fd,hb,cl,me,F,b⟩:=h.ex;obtain⟨l2,qm,_,⟨mk,kp⟩,_⟩:=T.ex;rw[hb]at qm;cases qm;refine⟨eg (acd (dvs:=[]) (ds:=[]) ⟨mk,me.at_,me.fn,kp⟩ F aA aV hb b .nil t5 ak.un eC he eU) λau H Q aW=>?_⟩;obtain⟨O,Y,S,r,S',st,h,q⟩:=aW;obtain⟨rs,S1,ae,h0⟩:=N.inv h;clear h;refine⟨O,Y,S,rs,S1,st,ae,λaJ vs H1 g1 aU bp nn a b7 ak XU aaG=>?_⟩;split at h0
 .rename_i f9
  obtain⟨Qg,bh,ah,ab⟩:=N.inv h0;clear h0;cases ah;obtain⟨_,h4,bN,aD⟩:=N.inv ab;clear ab;cases bN;obtain⟨cq,pL,dq,h⟩:=N.inv aD;clear aD;have hU:eG H1 (upd (upd H1 b7 (.own a)) a (.ins C b7 [])):=(r5 XU _).trans (r5 (by rw[dj (amT aaG)];exact ak) _);obtain⟨g2,da,w_,Jg⟩:=alloc (o:=.bx c []) aU.s3.cp aU.s3.gF aU.full ak hU (by rw[dy];intro z;cases z) λ_=>⟨C,b7,[],dy,⟨hb,cl⟩,rfl,rfl⟩
  rw[ak6];have C6:(hu aJ a).bK[S1.length]? = some a:=by show(aJ.bK++[a])[S1.length]? = _;rw[<-aU.full,akk (aj0 _),alX];rfl
  have vn:=g1.trans g2;refine⟨hu aJ a,.ref S1.length::rs.map R.arg,cq,_,pL,da,w_,Jg,⟨_,_,rfl,⟨a,rfl,C6⟩,?_⟩,dq,λao v H' g d eu a7 bJ dE=>?_⟩
  .exact xW da.ct f9 (gg.dY g2 aU.s3.cp.ct f9 bp)
  .split at h
   .cases h
    refine⟨bJ,q ao _ H' (vn.trans g) ((aU.dY g2 da w_ Jg).dY g d eu a7) ⟨a,rfl,?_⟩ trivial⟩;obtain⟨t,e⟩:=g.bK;rw[<-e,akq (aj2.mp C6).1];exact C6
   .cases h
 .cases h0
end
end aZ
namespace aZ
open PySem PySem.Spec aE PyProof.Rows
@[reducible] def y_:aoX where
 α:=Int
 blt a b:=decide (a<b)
 irrefl a:=by simp
 trans a b c ae ah:=by simp only[decide_eq_true_eq]at *;omega
 negTrans a b c h:=by simp only[decide_eq_true_eq]at *;omega
 total a b ae ah:=by simp only[decide_eq_false_iff_not]at *;omega
 keyOf v:=match v with|.int i _=>some i|_=>none
 dflt:=0
def YX:y_.OneLt:=by
 intro prog w A E s x y a b Q ak ab h;cases x<;>simp only[y_,reduceCtorEq,ao8]at ak
 cases y<;>simp only[y_,reduceCtorEq,ao8]at ab
 cases ak;cases ab;exact oneLt_int h
structure fS where
 κ:aoX
 kd:κ.α->D
 un:D->Option κ.α
structure fS.Ok(Z:fS):Prop where
 one:Z.κ.OneLt
 sd:∀d a,Z.un d=some a->d=Z.kd a
 key:∀(a:Z.κ.α)(K:aT)(mg:bo)(O:a0)(H:ax)(v:V)(u:Value),Rep K mg O H (Z.kd a) v->RelV v u->Z.κ.keyOf u=some a
 kind:∀(qF qG:Value)(vs:List Value),(∀v∈qF::qG::vs,∃a,Z.κ.keyOf v=some a)->keyKind' (qF::qG::vs).toArray=pure oneType'
@[reducible] def fI:fS where
 κ:=y_
 kd:=D.int
 un d:=match d with|.int i=>some i|_=>none
@[reducible] def ie:fS where
 κ:=aoY
 kd:=λl=>D.str ⟨l.toArray⟩
 un d:=match d with|.str x=>some x.cps.toList|_=>none
def K8:fI.Ok where
 one:=YX
 sd:=λd a h=>by cases d<;>first|(cases h;rfl)|cases h
 key:=λa K mg O H v u h r=>by
  cases(show v=.int a from h);obtain⟨t,rfl⟩:=r;rfl
 kind:=λqF qG vs h=>by
  refine keyKind_ints (ns:=(qF::qG::vs).map numOf) (intsAre_map _ λv bI=>?_);obtain⟨a,ak⟩:=h v bI;cases v<;>first|(cases ak;exact⟨_,_,rfl⟩)|cases ak
def K9:ie.Ok where
 one:=strKind_oneLt
 sd:=λd a h=>by cases d<;>first|(cases h;rfl)|cases h
 key:=λa K mg O H v u h r=>by
  cases(show v=.str ⟨a.toArray⟩from h);obtain⟨t,rfl⟩:=r;rfl
 kind:=λqF qG vs h=>by
  have key:∀(l:List Value),(∀v∈l,∃a,aoY.keyOf v=some a)->∃ss,StrsAre l ss:=λl=>by
   induction l with
   |nil=>exact λ_=>⟨[],.nil⟩
   |cons v l a6=>
    intro h;obtain⟨ss,aj⟩:=a6 λw hw=>h w (aj4 _ hw)
    obtain⟨a,ak⟩:=h v aj9;cases v<;>first|exact⟨_::ss,.cons _ _ aj⟩|cases ak
  obtain⟨ss,aj⟩:=key _ h;exact keyKind_strs aj
section
variable{β:Type}
def tl(blt:β->β->Bool)(p:β×D):List (β×D)->List (β×D)
 |[]=>[p]
 |q::r=>if blt q.1 p.1 then q::tl blt p r else p::q::r
def hA(blt:β->β->Bool):List (β×D)->List (β×D)
 |[]=>[]
 |p::r=>tl blt p (hA blt r)
theorem Dg(blt:β->β->Bool)(p:β×D):∀l,(tl blt p l).Perm (p::l)
 |[]=>.refl _|q::r=>by
  unfold tl;split
  .exact((Dg blt p r).cons q).trans (.swap p q r)
  .exact .refl _
theorem Ah(blt:β->β->Bool):∀l,(hA blt l).Perm l
 |[]=>.refl _|p::r=>(Dg blt p _).trans ((Ah blt r).cons p)
end
theorem Ky(O:alC)(p:O.α×D):∀l:List (O.α×D),l.Pairwise (λa b=>O.blt a.1 b.1=true)->(∀q∈l,q.1≠p.1)->(tl O.blt p l).Pairwise (λa b=>O.blt a.1 b.1=true)
 |[],_,_=>List.pairwise_singleton _ _|q::r,h,aF=>by
  rw[alY]at h;unfold tl
  cases e:O.blt q.1 p.1 with
  |true=>
   rw[if_pos rfl,alY];refine⟨λx ag=>?_,Ky O p r h.2 λx ag=>aF x (aj4 _ ag)⟩;rcases aj5.mp ((Dg O.blt p r).mem_iff.mp ag)with rfl|ag
   .exact e
   .exact h.1 x ag
  |false=>
   rw[if_neg aj6,alY,alY];have Kk:O.blt p.1 q.1=true:=by
    cases aC:O.blt p.1 q.1 with
    |true=>rfl|false=>exact absurd (O.total _ _ e aC) (aF q aj9)
   refine⟨λx ag=>?_,h.1,h.2⟩;rcases aj5.mp ag with rfl|ag
   .exact Kk
   .exact O.trans _ _ _ Kk (h.1 x ag)
theorem Fe(O:alC):∀l:List (O.α×D),(l.map (·.1)).Nodup->(hA O.blt l).Pairwise (λa b=>O.blt a.1 b.1=true)
 |[],_=>.nil|p::r,h=>by
  rw[aj8,akT]at h;refine Ky O p _ (Fe O r h.2) λq a8 e=>h.1 ?_
  rw[<-e];exact alD ((Ah O.blt r).mem_iff.mp a8)
theorem Ng{F2:Type}{lt:F2->F2->Prop}(KD:∀a,¬lt a a)(k4:∀a b c,lt a b->lt b c->lt a c):∀{qg l₂:List F2},qg.Perm l₂->qg.Pairwise lt->l₂.Pairwise lt->qg=l₂
 |[],l₂,p,_,_=>(List.nil_perm.mp p).symm|a::qg,[],p,_,_=>(List.nil_perm.mp p.symm)
 |a::qg,b::l₂,p,ae,ah=>by
  rw[alY]at ae ah;have e:a=b:=by
   rcases aj5.mp (p.mem_iff.mp aj9)with h|h
   .exact h
   .rcases aj5.mp (p.mem_iff.mpr aj9)with h'|h'
    .exact h'.symm
    .exact(KD _ (k4 _ _ _ (ae.1 b h') (ah.1 a h))).elim
  subst e;rw[Ng KD k4 (List.Perm.cons_inv p) ae.2 ah.2]
def Fg(O:alC){l ps:List (O.α×D)}(aF:(l.map (·.1)).Nodup)(aH:ps.Perm l)(aj:ps.Pairwise (λa b=>O.blt a.1 b.1=true)):ps=hA O.blt l:=
 Ng (lt:=λa b=>O.blt a.1 b.1=true) (λa=>by rw[O.irrefl];exact aj6) (λa b c=>O.trans _ _ _) (aH.trans (Ah O.blt l).symm) aj (Fe O l aF)
def ae4(O:alC){ps:List (O.α×D)}(aF:(ps.map (·.1)).Nodup)(h:ps.Pairwise (λa b=>O.blt b.1 a.1=false)):ps.Pairwise (λa b=>O.blt a.1 b.1=true):=by
 induction ps with
 |nil=>exact .nil|cons p r a6=>
  rw[aj8,akT]at aF;rw[alY]at h ⊢;refine⟨λq a8=>?_,a6 aF.2 h.2⟩
  cases e:O.blt p.1 q.1 with
  |true=>rfl| false=>exact absurd (alD (f:=λx:O.α×D=>x.1) a8) (by rw[<-O.total _ _ e (h.1 q a8)];exact aF.1)
end aZ
namespace aZ
open PySem PySem.Spec aE PyProof.Rows
variable[aE.a5]
def n6(X:aS)(k:Nat)(f:Addr)(G:ax->Prop)(mf:bC):Prop:=
 (∀H H',eG H H'->G H->G H')/\(∀H p zs o,H p=some (.l zs)->G H->G (upd H p o))/\∀(A:akl)(s:ajZ)(H:ax)(u:Value)(v:V)(Q:cX),cF k A->lg X.prog X.w X.K X.mg X.base A X.stack s H->G H->RelV v u->bY X.K X.mg mf [v] H Q i8->
  amI (model X.prog X.w) A (.call (.ref f) ⟨[u],[]⟩) (F7 eE X.stack X.prog X.w H s Q i8) s
def lstP(a:Addr)(e:Nat):Heap->Prop:=λh=>h.get? a=some (akC "list" #[] e)
structure qR(X:aS)(zn:c2)(Y:aE.St)(G:ax->Prop)(O:a0)(H:ax)(a dO:Addr)(av:Nat)(bu:List D)(aP:ajZ):Prop where
 ex:∃ao H' ys,Inv X zn Y H' aP/\Go O ao H H'/\dc ao H'/\G H'/\H' a=some (.ext (lstP a av))/\H' dO=some (.l ys)/\bc X.K X.mg ao H' bu ys/\ao dO=.dx
 na:a∉O.bK
section
variable{X:aS}{zn:c2}{Y:aE.St}{H:ax}{s:ajZ}{G:ax->Prop}{mf:bC}{f a dO:Addr}{k:Nat}{O:a0}{av:Nat}
def aad{h:Heap}(e:h.get? a=some (akC "list" #[] av)):gx prog w H h a (.ext (lstP a av)):=
 ⟨e,⟨_,e⟩,λae ah p q=>q _ p⟩
def Jb{H':ax}(I:Inv X zn Y H' aP)(ak:H' a=some (.ext (lstP a av)))(q:Str):H' a≠some (.ext (q1 a q)):=λz=>by
 obtain⟨p,_⟩:=I.bO a _ ak;obtain⟨dv,_⟩:=I.bO a _ z;obtain⟨c,o,vs,t,av,aC,c4,_⟩:=dv;cases av;have p:aP.heap.get? a=_:=p;rw[p]at aC;cases aC;cases c4
def ZI{bu:List D}{v:V}(fF:n6 X k f G mf)(aA:cF k X.A.in1.in1)(mx:H a=none)(mz:H dO=none)(ov:dO≠a)(bb:Rep X.K X.mg O H d v)(d9:RelV v u)(hd:(mf [d]).run []=.ok (.v jj) [])(th:bu.length<64)(S:qR X zn Y G O H a dO av bu aP) :
  wpAny (model X.prog X.w) X.A.in1.in1 (call (.ref f) [u]) (λu' s2=>∃(ao:a0)(H':ax)(ys:List V)(fx:V),Inv X zn Y H' s2/\Go O ao H H'/\dc ao H'/\G H'/\H' a=some (.ext (lstP a av))/\H' dO=some (.l ys)/\bc X.K X.mg ao H' bu ys/\Rep X.K X.mg ao H' jj fx/\RelV fx u'/\ao dO=.dx) (λ_ _=>False) aP:=by
 obtain⟨aJ,H1,ys,a9,g1,gk,pE,ak,aw,bl,pa⟩:=S.ex;refine wpAny_call (amf (fF.2.2 X.A.in1.in1 aP H1 u v (λfx H'=>∃ao,Go aJ ao H1 H'/\dc ao H'/\Rep X.K X.mg ao H' jj fx) aA a9.u9.in1.in1 pE d9 ?_) λr s2 a8=>?_)
 .refine⟨aJ,[d],.v jj,[],gk,gi.nil,⟨v,[],rfl,?_,rfl⟩,hd,λao fx H' g cL bp _=>⟨ao,g,cL,bp⟩⟩
  have EX:=bb.go g1;cases d<;>first|exact EX|exact akD EX|skip
  obtain⟨x,zs,q,l,r⟩:=EX;exact⟨x,zs,q,l.dI,r⟩
 .cases r with
  |error e=>exact akD a8|ok a7=>
   cases a7 with
   |ret u'=>
    obtain⟨fx,aM,bU,bP,bq,g2,da,cq⟩:=a9.after a8;exact⟨bq,aM,ys,fx,bU,g1.trans g2,da,fF.1 _ _ g2.same pE,g2.same.at' _ _ ak,g2.same.at' _ _ aw,bl.go g2,cq,bP,(g2.own dO (by rw[aw];intro z;cases z)).trans pa⟩
   |next=>exact akD a8
   |brk=>exact akD a8|cont=>exact akD a8
def aeW{Z:fS}(j5:Z.Ok){ds:List D}{cY:List Z.κ.α}{xs:List V}{us:List Value}{P:Fin->ajZ->Prop}{E:cB}(fF:n6 X k f G mf)(aA:cF k X.A.in1.in1)(mx:H a=none)(mz:H dO=none)(ov:dO≠a)
  (bl:bc X.K X.mg O H ds xs) (bP:Vals xs us) (th:∀(i:Nat)(d:D),ds[i]? = some d->∃κ,cY[i]? = some κ/\(mf [d]).run []=.ok (.v (Z.kd κ)) []) (hlen:cY.length=ds.length) (jg:ds.length<64) (S:qR X zn Y G O H a dO av [] s)
  (fin:∀(aP:ajZ)(keys:Array Value),qR X zn Y G O H a dO av (cY.map Z.kd) aP->keys.toList.map Z.κ.keyOf=cY.map some->wpAny (model X.prog X.w) X.A.in1.in1 (ksk_end a false us.toArray av (.ref dO) keys) P E aP) :
  wpAny (model X.prog X.w) X.A.in1.in1 (ksk_rest a (.ref f) false us.toArray av (.ref dO)) P E s:=by
 have aag:=bl.len;have vW:=bP.length;unfold ksk_rest;refine ajV (anA ?_)
 first
  |rw[List.forIn_toArray]
  |(rw[<-Array.forIn_toList];simp only[List.toList_toArray])
  |rw[<-Array.forIn_toList]
 refine ajV (ksk_fold (λi aP=>qR X zn Y G O H a dO av ((cY.take i).map Z.kd) aP) us 0 s (by rw[anJ];exact S) ?step ?done)
 case step=>
  intro j u aP cy S';simp only[aow]at S' ⊢;have aR:j<us.length:=(aj2.mp cy).1;obtain⟨v,bI,d9⟩:∃v,xs[j]? = some v/\RelV v u:=by
   have bI:xs[j]? = some xs[j]:=akF (by omega);obtain⟨u',tj,r⟩:=bP.get bI;rw[cy]at tj;cases tj;exact⟨_,bI,r⟩
  obtain⟨d,hd,bb⟩:=bl.Jz bI;obtain⟨κ,YJ,hm⟩:=th j d hd;have hz:((cY.take j).map Z.kd).length<64:=by rw[ajX,amg];omega
  refine ajV (wpAny_attempt (akH (ZI fF aA mx mz ov bb d9 hm hz S') (λu' s2 he=>?_) λ_ _ dt=>dt.elim));obtain⟨bq,aM,ys,fx,bU,g2,da,AX,nB,kP,t_,ac6,E5,qt⟩:=he
  try dsimp only
  obtain⟨hsz,its,n,vals,gQ⟩:=bU.bO dO _ kP;have Yh:its.length=(cY.take j).length:=by rw[<-vals.length,t_.len,ajX]
  have ajj:its.length<64:=by rw[Yh,amg];omega
  have s1:=ali s2.heap dO (akz (·.push u'));obtain⟨af,hK⟩:∃af,(s2.heap.update dO (akz (·.push u'))).get? dO=some (akC "list" (its.toArray.push u') af):=⟨_,al4 gQ (·.push u')⟩;refine ajV (amq gQ rfl ?_ (by rw[aka,ako];omega) (alg (alF (Array.size_push ..)) (by rw[aka,ako];omega)));refine aj1 ⟨rfl,⟨⟨bq,upd aM dO (.l (ys++[fx])),ys++[fx],?_,⟨pn mz g2.same kP _,g2.own,g2.bK⟩,da.eh kP,fF.2.1 _ _ _ _ kP AX,by rw[dj ov.symm];exact nB,dy,?_,qt⟩,S'.na⟩⟩
  .refine bU.write (x:=dO) (e:=dO) (t':=s2.toks) (by rw[kP];trivial) (.inl rfl) (λb o ab e=>(s1.2 b ab).trans e) ⟨_,hK⟩ ⟨?_,its++[u'],af,vals.append (.cons E5 .nil),?_⟩
   .rw[aj7,vals.length];rw[ako];simp;omega
   .rw[hK];simp[akC]
  .have fE:cY.take (j+1)=cY.take j++[κ]:=by rw[aoe,YJ];rfl
   rw[fE,akO];exact(t_.append (.one ac6)).eh (by rw[qt];intro z;cases z) kP
 case done=>
  intro aP S';have c4:cY.take (0+us.length)=cY:=ane (by omega);rw[c4]at S';obtain⟨bq,aM,ys,bU,g2,da,AX,nB,kP,t_,qt⟩:=id S'.ex;obtain⟨hsz,its,n,vals,gQ⟩:=bU.bO dO _ kP;refine ajV (listItems_at gQ rfl ?_);refine fin aP its.toArray S' ?_;have key:∀(cY:List Z.κ.α)(ys:List V)(its:List Value),bc X.K X.mg bq aM (cY.map Z.kd) ys->Vals ys its->its.map Z.κ.keyOf=cY.map some:=by
   intro cY
   induction cY with
   |nil=>intro ys its h r;cases h;cases r;rfl
   |cons κ cY a6=>
    intro ys its h r;obtain⟨y,t,rfl,ae,ah⟩:=h
    cases r with
    |cons bB cq=>
     rw[aj8,aj8,a6 _ _ ah cq,j5.key κ _ _ _ _ _ _ ae bB]
  exact key _ _ _ t_ vals
end
end aZ
namespace aZ
open PySem PySem.Spec aE PyProof.Rows
def aco{α β:Type}(f:α->β):∀{L M:List β},L.Perm M->∀{Q:List α},M=Q.map f->∃fT:List α,fT.Perm Q/\L=fT.map f:=by
 intro L M h
 induction h with
 |nil=>
  intro Q e
  cases Q with
  |nil=>exact⟨[],.refl _,rfl⟩|cons q Q=>cases e
 |cons x _ a6=>
  intro Q e
  cases Q with
  |nil=>cases e
  |cons q Q=>
   rw[aj8]at e;injection e with av aC
   obtain⟨fT,p,c4⟩:=a6 aC;exact⟨q::fT,p.cons q,by rw[av,c4];rfl⟩
 |swap x y l=>
  intro Q e
  cases Q with
  |nil=>cases e
  |cons q Q=>
   cases Q with
   |nil=>rw[aj8]at e;injection e with _ aC;cases aC
   |cons r Q=>
    rw[aj8,aj8]at e;injection e with av aC
    injection aC with aC c4
    exact⟨r::q::Q,.swap _ _ _,by rw[av,aC,c4];rfl⟩
 |trans _ _ vN vO=>
  intro Q e;obtain⟨ah4,p1,av⟩:=vO e;obtain⟨Qe,dv,aC⟩:=vN av;exact⟨Qe,dv.trans p1,aC⟩
variable[aE.a5]
abbrev xO(Z:fS):=(Value×Value)×(Z.κ.α×(D×V))
section
variable{K:aT}{mg:bo}{O:a0}{H:ax}{Z:fS}
def acY{ds:List D}:∀{xs:List V}{us keys:List Value}{cY:List Z.κ.α},bc K mg O H ds xs->Vals xs us->keys.map Z.κ.keyOf=cY.map some->cY.length=ds.length->
  ∃Q:List (xO Z),Q.map (·.1)=keys.zip us/\Q.map (λq=>(q.2.1,q.2.2.1))=cY.zip ds/\∀q∈Q,Z.κ.keyOf q.1.1=some q.2.1/\Rep K mg O H q.2.2.1 q.2.2.2/\RelV q.2.2.2 q.1.2:=by
 induction ds with
 |nil=>
  intro xs us keys cY h r e l;cases h;cases r;rw[aoG.mp l]at e ⊢;have:keys=[]:=by cases keys with|nil=>rfl|cons=>cases e
  subst this;exact⟨[],rfl,rfl,λ_ h=>(nomatch h)⟩
 |cons d ds a6=>
  intro xs us keys cY h r e l;obtain⟨x,t,rfl,ae,ah⟩:=h
  cases r with
  |@cons _ u _ us bB cq=>
   cases cY with
   |nil=>cases l
   |cons κ cY=>
    cases keys with
    |nil=>cases e
    |cons kv keys=>
     rw[aj8,aj8]at e;injection e with av aC
     obtain⟨Q,bk,b0,gX⟩:=a6 ah cq aC (by simpa using l);refine⟨((kv,u),(κ,(d,x)))::Q,?_,?_,λq a8=>?_⟩
     .rw[aj8,bk];rfl
     .rw[aj8,b0];rfl
     .rcases aj5.mp a8 with rfl|a8
      .exact⟨av,ae,bB⟩
      .exact gX q a8
theorem M_{α:Type}(f:α->D)(g:α->V):∀l:List α,(∀q∈l,Rep K mg O H (f q) (g q))->bc K mg O H (l.map f) (l.map g)
 |[],_=>rfl|q::l,h=>⟨_,_,rfl,h q aj9,M_ f g l λx ag=>h x (aj4 _ ag)⟩
omit [aE.a5]in
theorem Px{α:Type}(f:α->V)(g:α->Value):∀l:List α,(∀q∈l,RelV (f q) (g q))->Vals (l.map f) (l.map g)
 |[],_=>.nil|q::l,h=>.cons (h q aj9) (Px f g l λx ag=>h x (aj4 _ ag))
def sorted_out{ds:List D}{xs:List V}{us:List Value}{keys:Array Value}{cY:List Z.κ.α}(bl:bc K mg O H ds xs)(bP:Vals xs us)(aw:keys.toList.map Z.κ.keyOf=cY.map some)(ar:cY.length=ds.length)(aF:cY.Nodup)
  {dM:Array Keyed}(aH:dM.Perm (keys.zip us.toArray)) (aj:SortedToK Z.κ dM dM.size) :
  ∃ys,Vals ys (dM.map (·.2)).toList/\ys.length=ds.length/\bc K mg O H ((hA Z.κ.blt (cY.zip ds)).map (·.2)) ys:=by
 obtain⟨Q,bk,b0,gX⟩:=acY bl bP aw ar;have YA:dM.toList.Perm (Q.map (·.1)):=by
  rw[bk,<-ksk_zip];exact Array.perm_iff_toList_perm.mp aH
 obtain⟨fT,qu,cA⟩:=aco (λq:xO Z=>q.1) YA rfl;have ET:∀q∈fT,Z.κ.keyOf q.1.1=some q.2.1/\Rep K mg O H q.2.2.1 q.2.2.2/\RelV q.2.2.2 q.1.2:=λq a8=>gX q (qu.mem_iff.mp a8)
 have AM:(cY.zip ds).map (·.1)=cY:=by rw[anl];omega
 have perm:(fT.map λq=>(q.2.1,q.2.2.1)).Perm (cY.zip ds):=by rw[<-b0];exact qu.map _
 have dU:((fT.map λq:xO Z=>(q.2.1,q.2.2.1)).map (·.1)).Nodup:=by
  have:=perm.map (λp:Z.κ.α×D=>p.1);rw[AM]at this;exact this.nodup_iff.mpr aF
 have Fi:(fT.map λq:xO Z=>(q.2.1,q.2.2.1)).Pairwise (λa b=>Z.κ.blt b.1 a.1=false):=by
  rw[aof,aoj];intro i j aB aR rp;have Lj:dM.toList.length=fT.length:=by rw[cA,ajX]
  have lF:i<dM.size:=by rw[akR]at Lj;omega
  have Ke:j<dM.size:=by rw[akR]at Lj;omega
  have:=aj i j (ak8 rp) Ke;have at':∀(m:Nat)(hm:m<fT.length)(C0:m<dM.size),KK Z.κ dM m=fT[m].2.1:=λm hm C0=>by
   have av:dM[m]? = some fT[m].1:=by
    have:dM.toList[m]? = some fT[m].1:=by rw[cA,aku,akF hm];rfl
    rwa[aoU]at this
   unfold KK;rw[av];show(Z.κ.keyOf fT[m].1.1).getD Z.κ.dflt=_;rw[(ET _ (aov hm)).1];rfl
  rw[at' i aB lF,at' j aR Ke]at this;exact this
 have one:=Fg Z.κ.toKeyOrd (by rw[AM];exact aF) perm (ae4 Z.κ.toKeyOrd dU Fi);refine⟨fT.map λq=>q.2.2.2,?_,?_,?_⟩
 .have:(dM.map (·.2)).toList=fT.map λq=>q.1.2:=by
   rw[Array.toList_map,cA,amM];rfl
  rw[this];exact Px _ _ _ λq a8=>(ET q a8).2.2
 .rw[ajX,qu.length_eq]
  have:=congrArg alr b0;rw[ajX,anB,ar,Nat.min_self]at this;exact this
 .rw[<-one,amM]
  exact M_ _ _ _ λq a8=>(ET q a8).2.1
end
section
variable{X:aS}{zn:c2}{Y:aE.St}{H:ax}{s:ajZ}{G:ax->Prop}{a dO:Addr}{O:a0}{av:Nat}{Z:fS}{ds:List D}{cY:List Z.κ.α}{xs:List V}{us:List Value}{E:cB}{keys:Array Value}
def A6(X:aS)(zn:c2)(Y:aE.St)(O:a0)(H:ax)(a:Addr)(out:List D)(aP:ajZ):Prop:=
 ∃ao H' ys,Inv X zn Y H' aP/\Go O ao H H'/\dc ao H'/\H' a=some (.l ys)/\ao a=.dx/\bc X.K X.mg ao H' out ys
def OM{A:akl}{st:SortSt}(mx:H a=none)(mz:H dO=none)(ov:dO≠a)(bl:bc X.K X.mg O H ds xs)(bP:Vals xs us)(aw:keys.toList.map Z.κ.keyOf=cY.map some)(ar:cY.length=ds.length)(aF:cY.Nodup)(jg:ds.length<64)
  (S:qR X zn Y G O H a dO av (cY.map Z.kd) s) (aH:(arrOf st).Perm (keys.zip us.toArray)) (aj:SortedToK Z.κ (arrOf st) (arrOf st).size) (Ya:failedOf st=none) :
  wpAny (model X.prog X.w) A (ksk_tail a false av (.ref dO) st) (λr aP=>r=.done (.ret .none)/\A6 X zn Y O H a ((hA Z.κ.blt (cY.zip ds)).map (·.2)) aP) E s:=by
 obtain⟨bq,aM,ajT,bU,g2,da,AX,nB,kP,t_,qt⟩:=S.ex;obtain⟨_,its,n,vals,gQ⟩:=bU.bO dO _ kP;have Yd:s.heap.get? a=some (akC "list" #[] av):=(bU.bO a _ nB).1;obtain⟨zs,AR,AM,ux⟩:=sorted_out bl bP aw ar aF aH aj;have hsz:(arrOf st).size=ds.length:=by
  have ae:=AR.length;have ah:((arrOf st).map (·.2)).toList.length=(arrOf st).size:=by rw[akR,Array.size_map]
  omega
 have ajq:its.length=ds.length:=by rw[<-vals.length,t_.len,ajX,ar]
 have s1:=ali s.heap dO (akz λ_=>(#[]:Array Value));obtain⟨bL,J0⟩:∃bL,(s.heap.update dO (akz λ_=>(#[]:Array Value))).get? dO=some (akC "list" #[] bL):=⟨_,al4 gQ λ_=>#[]⟩;have D':(s.heap.update dO (akz λ_=>(#[]:Array Value))).get? a=some (akC "list" #[] av):=(s1.2 a ov.symm).trans Yd;have dF:Inv X zn Y (upd aM dO (.l [])) { s with heap:=s.heap.update dO (akz λ_=>(#[]:Array Value)) }:=
  bU.write (x:=dO) (e:=dO) (t':=s.toks) (by rw[kP];trivial) (.inl rfl) (λb o ab e=>(s1.2 b ab).trans e) ⟨_,J0⟩ ⟨akm _,[],bL,.nil,J0⟩
 have s2:=ali (s.heap.update dO (akz λ_=>(#[]:Array Value))) a (akz λ_=>(arrOf st).map (·.2));obtain⟨af,hK⟩:∃af,((s.heap.update dO (akz λ_=>(#[]:Array Value))).update a (akz λ_=>(arrOf st).map (·.2))).get? a=some (akC "list" ((arrOf st).map (·.2)) af):=⟨_,al4 D' λ_=>(arrOf st).map (·.2)⟩;have rl:upd aM dO (.l []) a=some (.ext (lstP a av)):=by rw[dj ov.symm];exact nB
 unfold ksk_tail
 try dsimp only
 simp only[amv,if_false];refine ajV (amq gQ rfl ?_ (by rw[aka,ako];omega) (akm _));refine ajV (alG ?_);refine ajV (anN D' rfl ?_);refine ajV (amq D' rfl ?_ (akm _) (alg (alF (Array.size_map ..)) (by rw[hsz,ako];omega)));rw[Ya];simp only[bne_self_eq_false,amv,if_false];have same:eG H (upd (upd aM dO (.l [])) a (.l zs)):=by
  have lU:=pn mz g2.same kP (.l []);refine⟨λb o e n=>by rw[dj (kb e mx)];exact lU.at' b o e n,λb ps e=>by rw[dj (kb e mx)];exact lU.cK b ps e,λg=>?_⟩;exact(lU.bS g).put _ (λps=>by rw[rl];intro z;cases z) (Jb dF rl)
 have go:Go O (fL bq a .dx) H (upd (upd aM dO (.l [])) a (.l zs)):=⟨same,λb ab=>by
  rw[pk (by rintro rfl;exact ab mx)];exact g2.own b ab,g2.bK⟩
 refine aj1 ⟨rfl,fL bq a .dx,_,zs,?_,go,⟨λb ab=>?_,?_,da.ct.1,λb m=>by rw[pk (by rintro rfl;exact S.na (g2.bK▸m))];exact da.ct.2 b m⟩,dy,m1,ux.go go⟩
 .refine dF.write (x:=a) (e:=a) (t':=s.toks) (by rw[rl];trivial) (.inl rfl) (λb o ab e=>(s2.2 b ab).trans e) ⟨_,hK⟩ ⟨?_,_,af,AR,?_⟩
  .rw[AM,ako];omega
  .rw[hK,Array.toArray_toList]
 .by_cases e:b=a
  .rw[e,dy];intro z;cases z
  .rw[dj e]
   rw[pk e]at ab
   by_cases cA:b=dO
   .rw[cA,dy];intro z;cases z
   .rw[dj cA];exact da.has b ab
 .exact(da.tabs.l kP _).put _ (λps=>by rw[rl];intro z;cases z) (Jb dF rl)
def aeV{A:akl}(j5:Z.Ok)(mx:H a=none)(mz:H dO=none)(ov:dO≠a)(bl:bc X.K X.mg O H ds xs)(bP:Vals xs us)(aw:keys.toList.map Z.κ.keyOf=cY.map some)(ar:cY.length=ds.length)(aF:cY.Nodup)(jg:ds.length<64)
    (S:qR X zn Y G O H a dO av (cY.map Z.kd) s) :
    wpAny (model X.prog X.w) A (ksk_end a false us.toArray av (.ref dO) keys) (λr aP=>r=.done (.ret .none)/\A6 X zn Y O H a ((hA Z.κ.blt (cY.zip ds)).map (·.2)) aP) E s:=by
  have vW:us.length=ds.length:=by rw[<-bP.length,bl.len]
  have lk:keys.size=ds.length:=by
    have:=congrArg alr aw;rw[ajX,ajX,akR]at this;omega
  have C':(keys.zip us.toArray).size=ds.length:=by rw[Array.size_zip,lk,aka,vW,Nat.min_self]
  have yY:∀v∈keys.toList,∃κ,Z.κ.keyOf v=some κ:=λv bI=>by
    have:Z.κ.keyOf v∈cY.map some:=by rw[<-aw];exact alD bI
    obtain⟨κ,_,e⟩:=akV.mp this;exact⟨κ,e.symm⟩
  unfold ksk_end
  try dsimp only
  simp only[amv,if_false]
  by_cases ah:us.toArray.size<2
  · rw[if_pos ah,if_pos ah]
    refine ajV (aj1 ?_);rw[StateT.run_pure];refine ajV (aj1 ?_)
    try dsimp only
    refine OM (st:=SortSt.mk' general' (keys.zip us.toArray) #[] 7 none) mx mz ov bl bP aw ar aF jg S (Array.Perm.refl _) ?_ rfl;intro i j rp aR;have Yi:j<(keys.zip us.toArray).size:=aR;rw[C']at Yi;rw[aka]at ah;have:i=j:=by omega
    subst this;exact PyProof.Rows.KeyOrd.kle_refl _
  · rw[if_neg ah,if_neg ah]
    rw[aka]at ah;have YH:2<=(keys.zip us.toArray).size:=by
      have bN:2<=us.length:=Nat.le_of_not_lt ah;rw[C'];omega
    have eV:keyKind' keys=pure oneType':=by
      cases e:keys.toList with
      |nil=>
               have ep:keys.size=0:=by rw[<-akR,e];rfl
               omega
      |cons qF r=>
        cases r with
        |nil=>
                 have ep:keys.size=1:=by rw[<-akR,e];rfl
                 omega
        |cons qG r=>
          have fE:keys=(qF::qG::r).toArray:=by rw[<-e,Array.toArray_toList]
          rw[fE];exact j5.kind qF qG r λv bI=>yY v (by rw[e];exact bI)
    rw[eV];refine ajV (aj1 ?_);refine ajV (akH (wpS_sortRunsK (κ:=Z.κ) j5.one (a₀:=keys.zip us.toArray) (st:=SortSt.mk' oneType' (keys.zip us.toArray) #[] 7 none)
      (Q:=λ_ cg=>(arrOf cg).Perm (keys.zip us.toArray)/\failedOf cg=none/\SortedToK Z.κ (arrOf cg) (keys.zip us.toArray).size)
      (λp aH=>?_) ⟨Array.Perm.refl _,rfl,rfl,rfl⟩ YH (by rw[C'];exact jg) λcg a1 a2 eH=>⟨a1,a2,eH⟩) ?_ λ_ _ e=>e)
    · rw[ksk_zip]at aH
      exact yY _ (amW aH).1
    rintro⟨⟨⟩,cg⟩ aP ⟨rfl,aH,hf,aj⟩
    try dsimp only
    exact OM mx mz ov bl bP aw ar aF jg S aH (by rw[aH.size_eq];exact aj) hf
end
end aZ
namespace aZ
open PySem PySem.Spec aE PyProof.Rows
variable[aE.a5]
section
variable{X:aS}{zn:c2}{Y:aE.St}{H:ax}{s:ajZ}{G:ax->Prop}{mf:bC}{f l:Addr}{k:Nat}{O:a0}{Z:fS}{ds:List D}{cY:List Z.κ.α}{xs:List V}{E:cB}
def aeU(j5:Z.Ok)(I:Inv X zn Y H s)(cL:dc O H)(bl:bc X.K X.mg O H ds xs)(cI:dk X.K H l xs)(fF:n6 X k f G mf)(vi:G H)(aA:cF (k+2) X.A)
  (th:∀(i:Nat)(d:D),ds[i]? = some d->∃κ,cY[i]? = some κ/\(mf [d]).run []=.ok (.v (Z.kd κ)) []) (hlen:cY.length=ds.length) (aF:cY.Nodup) (jg:ds.length<64) :
  wpAny (model X.prog X.w) X.A (call (.builtin "sorted") [.ref l] [(aki "key",.ref f)]) (λu aP=>∃a,u=.ref a/\H a=none/\A6 X zn Y O H a ((hA Z.κ.blt (cY.zip ds)).map (·.2)) aP) E s:=by
 obtain⟨us,bP,pl,_⟩:=I.list cI;have ar:s.heap.IsList l us.toArray:=pl.isList;have vW:us.length=ds.length:=by rw[<-bP.length,bl.len]
 have rd:H (s.heap.objs.size+1)=none:=I.bO.fresh (Nat.le_succ _);refine call_function_entry_kw kind_sorted plain_sorted entry_sorted (ksk_s1 _ _) ?_;unfold anL.«sorted»;refine ajV (m:=checkCount "sorted" 1 1 _) (aj1 ?_);refine ajV (collect_list ar ?_ (by rw[ako];omega));refine ajV (amS ?_ (by rw[ako];omega));have hsz:((s.heap.push (akC "list" #[] 0)).update s.heap.objs.size (akz (·++us.toArray))).objs.size=s.heap.objs.size+1:=by
  rw[aoy,aok]
 have mB:(((s.heap.push (akC "list" #[] 0)).update s.heap.objs.size (akz (·++us.toArray))).push (akC "list" us.toArray 0)).get? (s.heap.objs.size+1)=some (akC "list" us.toArray 0):=by
  rw[<-hsz];exact akb _ rfl
 have keep:∀b o,s.heap.get? b=some o->(((s.heap.push (akC "list" #[] 0)).update s.heap.objs.size (akz (·++us.toArray))).push (akC "list" us.toArray 0)).get? b=some o:=λb o q=>by
  have fs:b<s.heap.objs.size:=ake q;rw[al9 _ _ _ (by rw[hsz];exact akj (am8 fs)),Heap.get?_update_ne _ _ _ _ (akj fs),al9 _ _ _ (akj fs)];exact q
 have a9:Inv X zn Y (upd H (s.heap.objs.size+1) (.l xs)) { s with heap:=((s.heap.push (akC "list" #[] 0)).update s.heap.objs.size (akz (·++us.toArray))).push (akC "list" us.toArray 0) }:=
  I.laid (t':=s.toks) keep (Nat.le_succ _) ⟨by rw[bl.len,ako];omega,us,0,bP,mB⟩
 have V_:Go O O H (upd H (s.heap.objs.size+1) (.l xs)):=Go.fu rd;have ah9:dc O (upd H (s.heap.objs.size+1) (.l xs)):=cL.same V_.same;show wpAny _ _ _ _ _ { s with heap:=((s.heap.push (akC "list" #[] 0)).update s.heap.objs.size (akz (·++us.toArray))).push (akC "list" us.toArray 0) };rw[hsz];refine ajV (alj (wpAny_call_entry_kw slot_list_sort ⟨_,mB,rfl⟩ entry_list_sort ?body (ksk_l1 _ _)))
 case body=>
  show wpAny (model X.prog X.w) X.A.in1.in1 (anL.«list.sort» ⟨[.ref (s.heap.objs.size+1)],[(aki "key",.ref f)]⟩) _ _ _;rw[ksk_t1];generalize tc:s.heap.objs.size+1=a at *;generalize((s.heap.push (akC "list" #[] 0)).update s.heap.objs.size (akz (·++us.toArray))).push (akC "list" us.toArray 0)=ae at *;have s1:=ali ae a (akz λ_=>(#[]:Array Value));obtain⟨av,C2⟩:∃av,(ae.update a (akz λ_=>(#[]:Array Value))).get? a=some (akC "list" #[] av):=⟨_,al4 mB λ_=>#[]⟩;have bU:Inv X zn Y (upd (upd H a (.l xs)) a (.ext (lstP a av))) { s with heap:=ae.update a (akz λ_=>(#[]:Array Value)) }:=
   a9.write (x:=a) (e:=a) (t':=s.toks) (by rw[dy];trivial) (.inl rfl) (λb o ab e=>(s1.2 b ab).trans e) ⟨_,C2⟩ (aad C2)
  rw[af2]at bU;unfold ksk_tree;refine ajV (listItems_at mB rfl ?_);refine ajV (amq mB rfl ?_ (by rw[aka,ako];omega) (akm _));refine ajV (anN C2 rfl ?_);refine ajV (wpAny_newTuple ?_ (by show us.length<=_;rw[ako];omega));refine ajV (amS ?_ (akm _));refine alj ?_;have dF:Inv X zn Y (upd H a (.ext (lstP a av))) { s with heap:=(ae.update a (akz λ_=>(#[]:Array Value))).push (akC "tuple" us.toArray 0) }:=
   bU.kept (t':=s.toks) λb o e=>ajW _ e
  generalize aji:(ae.update a (akz λ_=>(#[]:Array Value))).push (akC "tuple" us.toArray 0)=ah at *;have s8:upd H a (.ext (lstP a av)) ah.objs.size=none:=dF.bO.fresh (aj0 _);have zR:ah.objs.size≠a:=by
   intro z;rw[z,dy]at s8;cases s8
  have mz:H ah.objs.size=none:=by rw[dj zR]at s8;exact s8
  have i_:Inv X zn Y (upd (upd H a (.ext (lstP a av))) ah.objs.size (.l [])) { s with heap:=ah.push (akC "list" #[] 0) }:=
   dF.laid (t':=s.toks) (λb o e=>ajW _ e) (aj0 _) ⟨akm _,[],0,.nil,akb _ rfl⟩
  have JD:Go O (fL O ah.objs.size .dx) H (upd (upd H a (.ext (lstP a av))) ah.objs.size (.l [])):=(Go.fu rd).trans (Go.new s8);have Vj:dc (fL O ah.objs.size .dx) (upd (upd H a (.ext (lstP a av))) ah.objs.size (.l [])):=(cL.same (Go.fu (O:=O) rd).same).new s8;have Qf:qR X zn Y G O H a ah.objs.size av [] { s with heap:=ah.push (akC "list" #[] 0) }:=
   ⟨⟨fL O ah.objs.size .dx,_,[],i_,JD,Vj,fF.1 _ _ JD.same vi,by rw[dj zR.symm];exact dy,dy,rfl,m1⟩,λm=>cL.has a (by rw[cL.ct.2 a m];intro z;cases z) rd⟩
  refine akH (aeW (E:=E) j5 fF (aA.in1.in1) rd mz zR bl bP th hlen jg Qf λaP keys S' Yk=>aeV j5 rd mz zR bl bP Yk hlen aF jg S') (λr aP a8=>?_) λ_ _ e=>e
  obtain⟨rfl,a8⟩:=a8;exact⟨_,rfl,aj1 ⟨_,rfl,a,rfl,rd,a8⟩⟩
end
structure nd(K:aT)(c P:Addr)(q:Str):Prop where
 hd:∀h,K.In h->W.CodeHd h c P
 cw:a5.cw P
 t9:a5.t9 P=q
structure ky(base:Heap)(mg:bo):Prop where
 ex:∃bm o,mg (aki "__builtins__")=some (aks bm)/\bm≠aog/\bm≠akw/\base.get? bm=some o/\o.cls=am5 "module"/\o.dict=some aog/\o.data=Data.plain
def El(f:Addr)(bx:Obj):Heap->Prop:=λh=>h.get? f=some bx
def nc(f c:Addr)(q:Str)(bx:Obj):ax->Prop:=λH=>H f=some (.ext (El f bx))/\H c=some (.ext (q1 c q))
def nc.mono(H H':ax)(s:eG H H')(g:nc f c q bx H):nc f c q bx H':=⟨s.at' _ _ g.1,s.at' _ _ g.2⟩
def nc.upd(H:ax)(p:Addr)(zs:List V)(o:gH)(h:H p=some (.l zs))(g:nc f c q bx H):nc f c q bx (upd H p o):=
 ⟨by rw[dj (by rintro rfl;have:=g.1;rw[h]at this;cases this)];exact g.1,by rw[dj (by rintro rfl;have:=g.2;rw[h]at this;cases this)];exact g.2⟩
def VM{K:aT}{mg:bo}{N ps:List Str}{m:bg}{vs:List V}{H:ax}{Q:cX}(h:bY K mg (fnOf ps.length N.length (bw m)) vs H Q i8):fk K mg m (aE.start N vs) H Q:=by
 obtain⟨O,ds,r,S,cL,eu,dM,h,q⟩:=h;have ar:=yC h;unfold fnOf at h;rw[if_pos ar]at h;obtain⟨a7,S1,ae,h⟩:=M.inv h;have r7:=Fl (N:=N) cL eu dM ar;obtain⟨iJ,bh,ah,bN⟩:=M.inv ae;refine⟨fe O,_,S,iJ,bh,r7,ah,λao v H' g cg bp nn=>?_⟩
 let bq:a0:=⟨λb=>match H b with|some _=>O b|none=>ao b,O.bK⟩
 have rT:∀b,H b≠none->bq b=O b:=λb ab=>by
  show(match H b with|some _=>O b|none=>ao b)=O b
  cases e:H b with
  |none=>exact absurd e ab|some o=>rfl
 have qp:∀b,H b=none->bq b=ao b:=λb ab=>by
  show(match H b with|some _=>O b|none=>ao b)=ao b;rw[ab]
 have du:m_ ao bq:=⟨λb ab=>by
  by_cases aF:H b=none
  .rw[qp b aF];exact ab
  .rw[rT b aF];exact pS.mp ((g.own b aF).symm.trans ab),g.bK.symm⟩
 have go:Go O bq H H':=⟨g.same,λb ab=>rT b ab,rfl⟩;have cp:dc bq H':=⟨λb ab=>by
  by_cases aF:H b=none
  .rw[qp b aF]at ab;exact cg.cp.has b ab
  .exact g.same.some aF,cg.cp.tabs,cL.ct.1,λb m=>(rT b (cL.has b (by rw[cL.ct.2 b m];intro z;cases z))).trans (cL.ct.2 b m)⟩
 cases iJ with
 |v d=>
  cases bN;cases h;exact q bq v H' go cp (Rep.du du bp) trivial
 |fr zs=>
  cases bN;cases h;obtain⟨a,ys,rfl,l,t,bl⟩:=bp;have aF:=nn a rfl;exact q bq _ H' go cp ⟨a,ys,rfl,l,(qp a aF).trans t,bl.du du⟩ nn
 |cu zs=>cases bN
 |mv zs=>cases bN
section
variable{X:aS}{k:Nat}{f c:Addr}{name q:Str}{params:am1}{body:Expr}{scope:Scope}{pm g9:Value}{N ps:List Str}{m:bg}
theorem Li{p1:Str}(Sc:b9 N [p1] scope)(mu:∀(u:Value),ame (W.kla_fn name q params body scope [] pm (.ref c) g9) ⟨[u],[]⟩=pure [(p1,u)])
  (ab:∀(A:akl)(s:ajZ)(H:ax),cF k (A.deeper (amJ q scope s.heap.objs.size f (.ref c)))->hC (g_ eE X.prog X.w X.K X.mg X.base N q scope f (.ref c) A X.stack s H i8).gD body m) :
  n6 X (k+1) f (nc f c q (W.kla_obj name q params body scope [] pm c g9)) (fnOf 1 N.length (bw m)):=by
 refine⟨nc.mono,nc.upd,λA s H u v Q aA d5 g d9 hM=>?_⟩;obtain⟨g1,_⟩:=d5.bO f _ g.1;obtain⟨g2,_⟩:=d5.bO c _ g.2;have lim:s.heap.NoLimit:=d5.mod.nolimit.keeps λb o e=>(d5.bs b o e).1
 have CZ:∀y∈[p1].zip [u],scope.names.lookup y.1=some .local\/(scope.names.lookup y.1=some .cell/\((cellsFrom (s.heap.objs.size+1) scope.names []).lookup y.1).isSome=true):=λaW ba=>by
  obtain⟨n,v⟩:=aW;rcases Sc.par n (amW ba).1 with q|q
  .exact .inl q
  .exact .inr ⟨q,aot _ _ _ (.inl q)⟩
 refine W.kla_callFunE aA.depth g1 rfl Sc.co Sc.gen rfl g2 ?_;rw[mu];refine aj1 ?_;refine wpAny_newFunctionEnv_cells Sc.kind CZ λenv he s1 x=>?_
 subst he;refine⟨lim.keeps x.toInCall.keep,W.kla_codeExpr ?_⟩;have I:Inv (g_ eE X.prog X.w X.K X.mg X.base N q scope f (.ref c) A X.stack s H i8) [] (aE.start N [v]) H s1:=KC Sc aA.hd d5 rfl (.cons d9 .nil) x;refine akH ((bQ.gD (ab A s H (aA.deeper _))) [] s1 (aE.start N [v]) H _ I (VM (ps:=[p1]) hM)) (λu' aP aj=>?_) λe aP aj=>aj
 obtain⟨fx,H',cm,bP,hy⟩:=aj;exact⟨fx,H',cm.os,cm.bare,cm.base,cm.bO,bP,hy⟩
end
end aZ
namespace aZ
open PySem PySem.Spec aE PyProof.Rows
theorem O6{a b:Int}:∀l:List Value,aoJ l->aoJ (l++[al8 a,al8 b,c])
 |[],_=>trivial|.int _ _::.int _ _::_::rest,h=>O6 rest h
theorem Gq{pos pos':Pos}:∀l:List Value,aoJ l->anp pos' (l++[al8 pos.line,al8 pos.col,c])=some iz->anp pos' l=some iz\/iz=c
 |[],_,h=>by
  right;have h:(if((pos.line:Int)==pos'.line&&(pos.col:Int)==pos'.col)=true then some c else none)=some iz:=h;split at h
  .cases h;rfl
  .cases h
 |.int a _::.int b _::d::rest,t,h=>by
  have h:(if(a==pos'.line&&b==pos'.col)=true then some d else anp pos' (rest++[al8 pos.line,al8 pos.col,c]))=some iz:=h;show(if(a==pos'.line&&b==pos'.col)=true then some d else anp pos' rest)=some iz\/_;split at h
  .rename_i aD;rw[if_pos aD];exact .inl h
  .rename_i aD;rw[if_neg aD];exact Gq rest t h
variable[aE.a5]
section
variable{X:aS}{zn:c2}{Y:aE.St}{H:ax}{s:ajZ}{O:a0}{c P:Addr}{q:Str}{params:am1}{body:Expr}{scope:Scope}{pos:Pos}
def Lh(I:Inv X zn Y H s)(cL:dc O H)(L:nd X.K c P q)(B:ky X.base X.mg)(nD:X.env.code=.ref c)(a8:X.env.qual++aki "<lambda>"=q)(oy:aol params X.env=([],[]))(jM:amu scope X.env=pure []) :
  wpAny (model X.prog X.w) X.A (eval (.Lambda params body scope pos) X.env) (λu aP=>∃(f c':Addr)(pm g9:Value)(H':ax),u=.ref f/\Inv X zn Y H' aP/\Go O O H H'/\dc O H'/\nc f c' q (W.kla_obj (aki "<lambda>") q params body scope [] pm c' g9) H') X.dV s:=by
 obtain⟨ps,ej,k4,BM⟩:=cL.tabs P L.cw;rw[L.t9]at BM;have Ju:s.heap.get? P=some (W.tabObj ps):=I.bO P _ ej;have H0:∀b o,X.base.get? b=some o->b≠P:=λb o e z=>by
  subst z;have:=(I.bs b o e).2;rw[ej]at this;cases this
 have p2:s.heap.Ns akw X.mg:=I.mod.glob.keeps I.c_;have Yc:akw≠P:=by
  obtain⟨o,ay,cf,e,_⟩:=I.mod.glob;exact H0 _ _ e
 have ot:s.heap.BuiltinsAt X.mg P:=by
  obtain⟨bm,o,b2,b3,gM,hH,jE⟩:=B.ex;exact⟨bm,o,b2,b3,gM,H0 _ _ hH,I.c_ _ _ hH,jE⟩
 have C:=L.hd _ I.e6;refine W.kla_eval oy ?_;rw[a8]
 cases gn:anp pos ps.toList with
 |some iz=>
  obtain⟨c',rfl,yS⟩:=BM pos iz gn;refine W.kla_makeFunctionHit jM I.ok.glob p2 nD C Ju k4 gn ot λg9 h' tk aw hsz=>?_
  have aF:H h'.objs.size=none:=I.bO.fresh hsz;have go:Go O O H (upd H h'.objs.size (.ext (El h'.objs.size (W.kla_obj (aki "<lambda>") q params body scope [] ((X.mg (aki "__name__")).getD .none) c' g9)))):=Go.fu aF;refine⟨h'.objs.size,c',_,g9,_,rfl,I.laid (t':=tk) (λb o e=>ajW _ (aw b o e)) hsz ?_,go,cL.same go.same,dy,go.same.at' _ _ yS⟩;exact⟨akb _ rfl,⟨_,akb _ rfl⟩,λae ah p r=>r _ p⟩
 |none=>
  refine W.kla_makeFunction jM I.ok.glob p2 nD C Ju k4 gn Yc ot λc' g9 h' tk ag Kc fs C5 Ko=>?_
  have Ki:H c'=none:=I.bO.fresh Kc;have aaL:c'≠P:=(kb ej Ki).symm
  let iH:=ps++#[al8 pos.line,al8 pos.col,.ref c']
  let H1:=upd (upd H P (.gd iH)) c' (.ext (q1 c' q))
  have lr:∀{b:Addr},b≠P->b≠c'->H1 b=H b:=λae ah=>by show upd _ _ _ _=_;rw[dj ah,dj ae]
  have xZ:H1 P=some (.gd iH):=by show upd _ _ _ _=_;rw[dj aaL.symm];exact dy
  have Bg:H1 c'=some (.ext (q1 c' q)):=dy;have aaO:∀{b:Addr}{o:Obj},s.heap.get? b=some o->b≠c':=λe=>akj (akB (ake e) Kc)
  have nP:∀{b:Addr}{o:gH},H b=some o->b≠c':=λe=>kb e Ki
  have un:gJ X.aY [] H H1 s.heap h':=by
   refine⟨λb o e n _ _=>ag b o (by rintro rfl;rw[ej]at n;cases n) e,λb o e n _ _=>⟨o.slots,ag b o (by rintro rfl;rw[ej]at n;cases n) e⟩,
    λb o e n _=>by rw[lr (by rintro rfl;rw[ej]at n;cases n) (aaO e)];exact n,λb o e _=>?_,λb xs e=>?_,λb o u e=>?_,λb zs e=>?_⟩
   .by_cases ab:b=P
    .rw[ab];exact⟨_,Ko⟩
    .exact⟨o,ag b o ab e⟩
   .rw[lr (by rintro rfl;rw[ej]at e;cases e) (nP e)];exact e
   .rw[lr (by rintro rfl;rw[ej]at e;cases e) (nP e)];exact e
   .by_cases ab:b=P
    .subst ab
     rw[ej]at e;cases e;exact⟨_,xZ⟩
    .exact⟨#[],by rw[lr ab (nP e),e];simp⟩
  have bO:e_ X.prog X.w H1 h':=λb u e=>by
   by_cases ae:b=c'
   .subst ae
    rw[Bg]at e;cases e;obtain⟨af,cZ,vs,t,e8,eb,l0,m4⟩:=C5;cases e8;exact⟨⟨_,cZ,vs,t,rfl,eb,l0,m4⟩,⟨_,eb⟩,λae ah aW r=>by obtain⟨j0,aa3,af3,t3,sq,sr,PN,PO⟩:=aW;cases sq;exact⟨_,aa3,af3,t3,rfl,r _ sr,PN,PO⟩⟩
   .by_cases ah:b=P
    .subst ah
     rw[xZ]at e;cases e;exact Ko
    .rw[lr ah ae]at e
     refine(I.bO b u e).r9 (λd o hd VA=>ag d o (λz=>?_) VA) (λd dS=>?_) λd xs dS=>?_
     .rcases hd with rfl|hd
      .exact ah z
      .rw[z,ej]at hd;cases hd
     .rw[lr (by rintro rfl;rw[ej]at dS;cases dS) (nP dS)];exact dS
     .rw[lr (by rintro rfl;rw[ej]at dS;cases dS) (nP dS)];exact dS
  have a9:Inv X zn Y H1 { s with heap:=h',toks:=tk }:=I.un (t':=tk) un bO;have aF:H1 h'.objs.size=none:=bO.fresh (aj0 _);have adB:eG H H1:=by
   refine⟨λb o e n=>by rw[lr (by rintro rfl;rw[ej]at e;cases e;exact n) (nP e)];exact e,λb zs e=>?_,λg kD Wu=>?_⟩
   .by_cases ab:b=P
    .exact⟨iH,by rw[ab];exact xZ⟩
    .exact⟨zs,by rw[lr ab (nP e)];exact e⟩
   .obtain⟨zs,av,aC,c4⟩:=g kD Wu
    by_cases ab:kD=P
    .subst ab
     refine⟨iH,xZ,?_,λpos' iz td=>?_⟩
     .show aoJ (ps++#[al8 pos.line,al8 pos.col,.ref c']).toList
      rw[Array.toList_append];exact O6 _ k4
     .have td:anp pos' (ps++#[al8 pos.line,al8 pos.col,.ref c']).toList=some iz:=td
      rw[Array.toList_append]at td;rw[L.t9];rcases Gq _ k4 td with h|h
      .obtain⟨af,rfl,ah⟩:=BM pos' iz h
       exact⟨af,rfl,by rw[lr (by rintro rfl;rw[ej]at ah;cases ah) (nP ah)];exact ah⟩
      .exact⟨c',h,Bg⟩
    .refine⟨zs,by rw[lr ab (nP av)];exact av,aC,λpos' iz td=>?_⟩
     obtain⟨af,ae,ah⟩:=c4 pos' iz td;exact⟨af,ae,by rw[lr (by rintro rfl;rw[ej]at ah;cases ah) (nP ah)];exact ah⟩
  have go:Go O O H (upd H1 h'.objs.size (.ext (El h'.objs.size (W.kla_obj (aki "<lambda>") q params body scope [] ((X.mg (aki "__name__")).getD .none) c' g9)))):=(⟨adB,λ_ _=>rfl,rfl⟩:Go O O H H1).trans (Go.fu aF);refine⟨h'.objs.size,c',_,g9,_,rfl,a9.laid (t':=tk) (λb o e=>ajW _ e) (aj0 _) ?_,go,cL.same go.same,dy,(r5 aF _).at' _ _ Bg⟩;exact⟨akb _ rfl,⟨_,akb _ rfl⟩,λae ah p r=>r _ p⟩
end
end aZ
namespace aZ
open PySem PySem.Spec aE PyProof.Rows
def BA:akJ "sorted"=some (.builtin "sorted"):=by decide +kernel
def zi(Z:fS)(mf:bC)(d:D):Option Z.κ.α:=match(mf [d]).run []with
 |.ok (.v x) []=>Z.un x|_=>none
def keysOf(Z:fS)(mf:bC):List D->Option (List Z.κ.α)
 |[]=>some []|d::ds=>match zi Z mf d,keysOf Z mf ds with
  |some a,some as=>some (a::as)|_,_=>none
def jD{α:Type}(blt:α->α->Bool):List α->Bool
 |[]=>true|a::r=>r.all (λb=>blt a b||blt b a)&&jD blt r
def s6(Z:fS)(mf:bC)(x:R):M R:=match x.fi with
 |some ds=>match keysOf Z mf ds with
  |some cY=>if jD Z.κ.blt cY=true/\ds.length<64 then pure (.fr ((hA Z.κ.blt (cY.zip ds)).map (·.2)))else bad|none=>bad
 |none=>bad
@[simp] def q0(Z:fS)(mf:bC)(cR:bg)(Y:aQ):M R:=do
 let x <-cR Y
 s6 Z mf x
theorem K5{Z:fS}{mf:bC}(sd:∀d a,Z.un d=some a->d=Z.kd a):∀{ds:List D}{cY:List Z.κ.α},keysOf Z mf ds=some cY->cY.length=ds.length/\∀(i:Nat)(d:D),ds[i]? = some d->∃κ,cY[i]? = some κ/\(mf [d]).run []=.ok (.v (Z.kd κ)) []
 |[],cY,h=>by cases h;exact⟨rfl,λi d h=>by simp at h⟩
 |d::ds,cY,h=>by
  unfold keysOf at h;split at h
  .rename_i a as ae ah
   cases h;obtain⟨l,r⟩:=K5 sd ah;refine⟨by rw[akd,akd,l],λi e he=>?_⟩
   cases i with
   |zero=>
    cases(show some d=some e from he);refine⟨a,rfl,?_⟩;unfold zi at ae;split at ae
    .rename_i x ag
     rw[ag,sd x a ae]
    .cases ae
   |succ i=>
    obtain⟨κ,av,aC⟩:=r i e (by simpa using he);exact⟨κ,by simpa using av,aC⟩
  .cases h
theorem Bc(Q:alC):∀{l:List Q.α},jD Q.blt l=true->l.Nodup
 |[],_=>.nil|a::r,h=>by
  unfold jD at h;rw[akE,ak9]at h;rw[akT];refine⟨λhm=>?_,Bc Q h.2⟩;have:=h.1 a hm;rw[Q.irrefl]at this;cases this
variable[aE.a5]
section
variable{X:aS}{k:Nat}{e:Expr}{cR:bg}{Z:fS}{p pos kp:Pos}{jj:Expr}{mf:bC}{G:Addr->ax->Prop}
def TC(j5:Z.Ok)(aV:eF X "sorted")(hm:X.mg "sorted"=none)(aA:cF (k+2) X.A)(ak:hC X e cR)
  (dA:∀(zn:c2)(s:ajZ)(Y:aE.St)(O:a0)(H:ax),Inv X zn Y H s->dc O H->
   wpAny (model X.prog X.w) X.A (eval jj X.env) (λu aP=>∃(f:Addr)(H':ax)(G:ax->Prop),u=.ref f/\Inv X zn Y H' aP/\Go O O H H'/\dc O H'/\G H'/\n6 X k f G mf) X.dV s)
  (he:akr pos (ajY [e] X.env)=(false,eval e X.env)::akr pos (ajY [] X.env):=by rfl)
  (aj:ajY [e] X.env=(false,eval e X.env)::ajY [] X.env:=by rfl)
  (iU:(akr pos (ajY [e] X.env)).any (·.1)=false:=by rfl) :
  hC X (.Call (.Name "sorted" p) [e] [⟨some (aki "key"),jj,kp⟩] pos) (q0 Z mf cR):=by
 rintro zn s Y H Q I ⟨O,xw,S,r,S',st,h,q⟩;obtain⟨x,S1,ae,h⟩:=M.inv h;obtain⟨ds,cY,oA,Yj,Wz,jg,rfl,rfl⟩:∃ds cY,x.fi=some ds/\keysOf Z mf ds=some cY/\jD Z.κ.blt cY=true/\ds.length<64/\r=.fr ((hA Z.κ.blt (cY.zip ds)).map (·.2))/\S1=S':=by
  unfold s6 at h;split at h
  .rename_i ds av
   split at h
   .rename_i cY aC
    by_cases c:jD Z.κ.blt cY=true/\ds.length<64
    .rw[if_pos c]at h
     cases h;exact⟨ds,cY,av,aC,c.1,c.2,rfl,rfl⟩
    .rw[if_neg c]at h;cases h
   .cases h
  .cases h
 obtain⟨hlen,th⟩:=K5 j5.sd Yj;refine alw (rE I aV hm BA ?_);refine callWith_kw ?_ he iU rfl rfl;refine bV ((z4 ak EE aj) pos zn s Y H (λvs H1=>∃v aJ,vs=[v]/\Go O aJ H H1/\cN X.K X.mg aJ xw S1 Y H1/\eN X.K X.mg aJ H1 x v) I ⟨O,xw,S,x,S1,st,ae,λaJ v H1 g1 aU bp nn=>⟨v,aJ,rfl,g1,aU,bp⟩⟩) λus s1 aW=>?_
 obtain⟨vs,H1,a9,bB,v,aJ,ev,g1,aU,bp⟩:=aW;subst ev;obtain⟨l,ys,rfl,ar,bl⟩:=R.nI bp oA;obtain⟨u,rfl,d9⟩:=vals1 bB;cases d9;refine wpAny_evalAll_cons (ajV (bV (dA zn s1 Y aJ H1 a9 aU.cp) λu s2 aw=>ajV (an8 (aj1 ?_))));obtain⟨f,aM,G,rfl,bU,g2,da,Cv,fF⟩:=aw;refine wpAny_evalAll_nil ?_;show wpAny _ _ (call (.builtin "sorted") [.ref l] [(aki "key",.ref f)]) _ _ _;refine bV (aeU j5 bU da (bl.go g2) (g2.same.seq ar) fF Cv aA th hlen (Bc Z.κ.toKeyOrd Wz) jg) λu s3 aW=>?_
 obtain⟨a,jI,mx,eM,cT,zs,dF,g3,ni,rl,nR,ac3⟩:=aW;subst jI;refine⟨.ref a,cT,dF,rfl,q eM _ cT (g1.trans (g2.trans g3)) (aU.go (g2.trans g3) ni) ⟨a,zs,rfl,rl,nR,ac3⟩ λb c5=>?_⟩;cases c5;exact(g1.trans g2).same.free mx
def TF{c P:Addr}{q p1:Str}{params:am1}{body:Expr}{scope:Scope}{rG:Pos}{N:List Str}{m:bg}(j5:Z.Ok)(aV:eF X "sorted")(hm:X.mg "sorted"=none)(aA:cF (k+3) X.A)(L:nd X.K c P q)(B:ky X.base X.mg)(nD:X.env.code=.ref c)
  (a8:X.env.qual++aki "<lambda>"=q) (Sc:b9 N [p1] scope)
  (mu:∀(c:Addr)(pm g9 u:Value),ame (W.kla_fn (aki "<lambda>") q params body scope [] pm (.ref c) g9) ⟨[u],[]⟩=pure [(p1,u)])
  (ab:∀(f c:Addr)(A:akl)(s:ajZ)(H:ax),cF k (A.deeper (amJ q scope s.heap.objs.size f (.ref c)))->hC (g_ eE X.prog X.w X.K X.mg X.base N q scope f (.ref c) A X.stack s H i8).gD body m)
  (ak:hC X e cR) (oy:aol params X.env=([],[]):=by rfl) (jM:amu scope X.env=pure []:=by rfl)
  (he:akr pos (ajY [e] X.env)=(false,eval e X.env)::akr pos (ajY [] X.env):=by rfl)
  (aj:ajY [e] X.env=(false,eval e X.env)::ajY [] X.env:=by rfl)
  (iU:(akr pos (ajY [e] X.env)).any (·.1)=false:=by rfl) :
  hC X (.Call (.Name "sorted" p) [e] [⟨some (aki "key"),.Lambda params body scope rG,kp⟩] pos) (q0 Z (fnOf 1 N.length (bw m)) cR):=
 TC (k:=k+1) j5 aV hm aA ak (λzn s Y O H I cL=>bV (Lh I cL L B nD a8 oy jM) λu aP ⟨f,c',pm,g9,H',jI,hZ,g',d',n4⟩=>
  ⟨f,H',_,jI,hZ,g',d',n4,Li Sc (mu c' pm g9) (ab f c')⟩) he aj iU
end
def CK{P:akh}{w:World}{K:aT}{mg:bo}{base:Heap}{x:Str}{st:Stmt}{ps N:List Str}{k:Nat}{c6:aX}{n nl:Nat}{c:Addr}(cn:cn K mg x st ps)(aD:∀(f:Addr)(cZ:Value)(df:Option Addr)(cC doc pm:Value)(an:Option Addr)(br b5:Value)(fv:Array (Option Value)),mg x=some (.ref f)->K.lookup f=some ⟨cZ,df,.func (alL x x (h7 st) (fq st) (bF st) .none cC doc pm an br b5),fv⟩->br=.ref c)
  (Sc:b9 N ps (bF st)) (aF:ps.length=n) (ar:N.length=nl)
  (ab:∀(f:Addr)(A:akl)(outer:List Env)(s:ajZ)(H:ax)(E:gy),cF k (A.deeper (ala x (bF st) s.heap.objs.size f (.ref c)))->
   su (g_ eE P w K mg base N x (bF st) f (.ref c) A outer s H E).gD (fq st) c6):b6 P w K mg base x ps (k+1) (bY K mg (fnOf n nl c6)):=by
 obtain⟨f,fd,F,b,m⟩:=cn.ex;refine⟨f,fd,?_,b,F.kp,m⟩;obtain⟨cZ,df,cC,doc,pm,an,br,b5,fv,rfl,lk,gA⟩:=F.ex;have e:=aD f cZ df cC doc pm an br b5 fv m lk;subst e;subst aF ar;refine Cq lk gA Sc (λvs H Q E ⟨O,ds,r,S',cL,eu,dM,h,q⟩=>dM.len.trans (yC h)) λA outer s H vs Q E aA hM=>⟨_,(ab f A outer s H E aA).gD,Ih hM⟩
end aZ
namespace aE
open PySem PySem.Spec PyProof.Rows
def nH(r:Int->Int->Bool)(z:Nat->Nat->Bool):List Int->List Int->Bool
 |x::xs,y::ys=>if x=y then nH r z xs ys else r x y|xs,ys=>z xs.length ys.length
def rF(r:Int->Int->Bool)(z:Nat->Nat->Bool)(x y:Int)(xs ys:List Int):nH r z (x::xs) (y::ys)=if x=y then nH r z xs ys else r x y:=rfl
def DU(r:Int->Int->Bool)(z:Nat->Nat->Bool)(ys:List Int):nH r z [] ys=z 0 ys.length:=by cases ys<;>rfl
def DV(r:Int->Int->Bool)(z:Nat->Nat->Bool)(xs:List Int):nH r z xs []=z xs.length 0:=by cases xs<;>rfl
abbrev lexLt:List Int->List Int->Bool:=nH (λi j=>decide (i<j)) (λi j=>decide (i<j))
section
open PySem.SeqAt
open PySem.AutoSeq1 (wpAny_loadPart')
open PySem.MeetsSeq PySem.MeetsSeq2 PySem.MeetsSeq3
def afQ(l b:Addr)(items e5:Array Value)(n dW:Nat)(dd mc:Option Addr)(cS mV:Array (Option Value))(ns ms:List Int)(aB:alk items.toList ns)(aR:alk e5.toList ms) :
  Meets (anL.«tuple.__lt__» ⟨[.ref l,.ref b],[]⟩)
   (λ_ R s=>s.heap.get? l=some { cls:=.type "tuple",dict:=dd,data:=.seq items n,slots:=cS }/\s.heap.get? b=some { cls:=.type "tuple",dict:=mc,data:=.seq e5 dW,slots:=mV }/\
    R (.ok (.ret (.bool (lexLt ns ms)))) s):=
 .of_wp λprog w A R s h=>by
  obtain⟨aH,g,d,tk,os⟩:=s;obtain⟨ar,ab,h⟩:=h;have f2:=am3;have e8:items.size=ns.length:=by rw[<-aB.length];simp
  have eb:e5.size=ms.length:=by rw[<-aR.length];simp
  wp_walk using wpAny_loadPart' ar,wpAny_loadPart' ab,aoz _ (λrest b aP=>b.1=none/\aP=⟨aH,g,d,tk,os⟩/\∃(vs ws:List Value)(hP hO:List Int),rest=vs.zip ws/\
   alk vs hP/\alk ws hO/\hP.length+e5.size=hO.length+items.size/\R (.ok (.ret (.bool (lexLt hP hO)))) ⟨aH,g,d,tk,os⟩) _
  case turn=>
   rintro⟨y,x⟩ rest b aP ⟨mr,rfl,vs,ws,hP,hO,hz,mE,mF,hlen,eB⟩
   cases mE with
   |nil=>rw[am9]at hz;cases hz
   |cons a t vJ=>
    cases mF with
    |nil=>rw[anY]at hz;cases hz
    |cons c u vK=>
     rw[alx]at hz;injection hz with vL vG
     injection vL with ba ag
     subst ba ag;unfold lexLt at eB;rw[rF]at eB;simp only[akd]at hlen;obtain⟨e,he,p6⟩:=dZ.B8 A.in1 ⟨aH,g,d,tk,os⟩ a t c u;refine ajV (he prog w _ _ ?_)
     cases e with
     |true=>
      rw[if_pos (p6.mp rfl)]at eB
      wp_walk
      exact⟨rfl,rfl,_,_,_,_,vG,vJ,vK,by omega,eB⟩
     |false=>
      rw[if_neg (λq=>absurd (p6.mpr q) aj6)]at eB;have rv:∀(E:cB)(Q:cB),Q (.bool (decide (a<c))) ⟨aH,g,d,tk,os⟩->wpAny (model prog w) A.in1 (anf .Lt (.int a t) (.int c u)) Q E ⟨aH,g,d,tk,os⟩:=λE Q h=>(PyProof.Rows.lt_int h:wpAny (model prog w) A.in1 (akK .Lt (.int a t) (.int c u)) Q E _)
      wp_walk using rv
      exact⟨_,rfl,by simpa using eB⟩
  case fin=>
   rintro⟨b2,b3⟩ aP ⟨mr,rfl,vs,ws,hP,hO,hz,mE,mF,hlen,eB⟩;simp only at mr;subst mr;have bI:lexLt hP hO=decide (items.size<e5.size):=by
    cases mE with
    |nil=>
     unfold lexLt;rw[DU];simp only[akY]at hlen;exact decide_eq_decide.mpr (by omega)
    |cons a t bI=>
     cases mF with
     |nil=>
      unfold lexLt;rw[DV];simp only[akY]at hlen;exact decide_eq_decide.mpr (by omega)
     |cons c u hw=>
      rw[alx]at hz;cases hz
   rw[bI]at eB
   wp_walk
   exact⟨_,rfl,by simpa[amn]using eB⟩
  case h=>
   exact⟨rfl,rfl,items.toList,e5.toList,ns,ms,rfl,aB,aR,by omega,h⟩
end
def aaf{prog:akh}{w:World}{A:akl}{E:cB}{s:ajZ}{l b:Addr}{items e5:Array Value}{ns ms:List Int}{Q:cB}(ar:IsTup s.heap l items)(ab:IsTup s.heap b e5)(aB:alk items.toList ns)(aR:alk e5.toList ms)
  (cy:A.units<cLine) (h:Q (.bool (lexLt ns ms)) s):wpAny (model prog w) A (akK .Lt (.ref l) (.ref b)) Q E s:=by
 obtain⟨⟨cls,dd,data,cS⟩,a',aD,n,hd⟩:=id ar;obtain⟨⟨ID,mc,data2,mV⟩,p8,hK,dW,hd2⟩:=id ab;simp only at aD hd hK hd2;subst aD hd hK hd2;exact ang (op:=.Lt) ⟨_,a',rfl⟩ ⟨_,p8,rfl⟩ PySem.F.slot_tuple_lt PySem.F.entry_tuple_lt (PySem.F.args_tuple_lt_2 _ _) (afQ l b items e5 n dW dd mc cS mV ns ms aB aR)
  ⟨a',p8,show amO (lexLt ns ms)≠anC/\Q (.bool (lexLt ns ms)) s from⟨(λx=>nomatch x),h⟩⟩ cy
def ajE(cy:X.A.units+64<cLine):en X (akK .Lt) (λx y H Q=>∃a b ns ms,x=.ref a/\y=.ref b/\dD X.K H a (ns.map V.int)/\dD X.K H b (ms.map V.int)/\Q (.az (lexLt ns ms)) H):=by
 intro zn s Y H x y v u Q I a4 bz h;obtain⟨a,b,ns,ms,rfl,rfl,ak,ab,q⟩:=h;cases a4;cases bz;obtain⟨its,bB,p1,_⟩:=I.tuple ak;obtain⟨lI,cq,dv,_⟩:=I.tuple ab;exact aaf p1 dv (intsAre_of bB) (intsAre_of cq) (by omega) ⟨.az (lexLt ns ms),H,I,rfl,q⟩
abbrev gT:List Int->List Int->Bool:=nH (λi j=>decide (j<i)) (λi j=>decide (j<i))
section
open PySem.SeqAt
open PySem.AutoSeq1 (wpAny_loadPart')
open PySem.MeetsSeq PySem.MeetsSeq2 PySem.MeetsSeq3
def afP(l b:Addr)(items e5:Array Value)(n dW:Nat)(dd mc:Option Addr)(cS mV:Array (Option Value))(ns ms:List Int)(aB:alk items.toList ns)(aR:alk e5.toList ms) :
  Meets (anL.«tuple.__gt__» ⟨[.ref l,.ref b],[]⟩)
   (λ_ R s=>s.heap.get? l=some { cls:=.type "tuple",dict:=dd,data:=.seq items n,slots:=cS }/\s.heap.get? b=some { cls:=.type "tuple",dict:=mc,data:=.seq e5 dW,slots:=mV }/\
    R (.ok (.ret (.bool (gT ns ms)))) s):=
 .of_wp λprog w A R s h=>by
  obtain⟨aH,g,d,tk,os⟩:=s;obtain⟨ar,ab,h⟩:=h;have f2:=am3;have e8:items.size=ns.length:=by rw[<-aB.length];simp
  have eb:e5.size=ms.length:=by rw[<-aR.length];simp
  wp_walk using wpAny_loadPart' ar,wpAny_loadPart' ab,aoz _ (λrest b aP=>b.1=none/\aP=⟨aH,g,d,tk,os⟩/\∃(vs ws:List Value)(hP hO:List Int),rest=vs.zip ws/\
   alk vs hP/\alk ws hO/\hP.length+e5.size=hO.length+items.size/\R (.ok (.ret (.bool (gT hP hO)))) ⟨aH,g,d,tk,os⟩) _
  case turn=>
   rintro⟨y,x⟩ rest b aP ⟨mr,rfl,vs,ws,hP,hO,hz,mE,mF,hlen,eB⟩
   cases mE with
   |nil=>rw[am9]at hz;cases hz
   |cons a t vJ=>
    cases mF with
    |nil=>rw[anY]at hz;cases hz
    |cons c u vK=>
     rw[alx]at hz;injection hz with vL vG
     injection vL with ba ag
     subst ba ag;unfold gT at eB;rw[rF]at eB;simp only[akd]at hlen;obtain⟨e,he,p6⟩:=dZ.B8 A.in1 ⟨aH,g,d,tk,os⟩ a t c u;refine ajV (he prog w _ _ ?_)
     cases e with
     |true=>
      rw[if_pos (p6.mp rfl)]at eB
      wp_walk
      exact⟨rfl,rfl,_,_,_,_,vG,vJ,vK,by omega,eB⟩
     |false=>
      rw[if_neg (λq=>absurd (p6.mpr q) aj6)]at eB;have rv:∀(E:cB)(Q:cB),Q (.bool (decide (c<a))) ⟨aH,g,d,tk,os⟩->wpAny (model prog w) A.in1 (anf .Gt (.int a t) (.int c u)) Q E ⟨aH,g,d,tk,os⟩:=λE Q h=>(ao1 h:wpAny (model prog w) A.in1 (akK .Gt (.int a t) (.int c u)) Q E _)
      wp_walk using rv
      exact⟨_,rfl,by simpa using eB⟩
  case fin=>
   rintro⟨b2,b3⟩ aP ⟨mr,rfl,vs,ws,hP,hO,hz,mE,mF,hlen,eB⟩;simp only at mr;subst mr;have bI:gT hP hO=decide (e5.size<items.size):=by
    cases mE with
    |nil=>
     unfold gT;rw[DU];simp only[akY]at hlen;exact decide_eq_decide.mpr (by omega)
    |cons a t bI=>
     cases mF with
     |nil=>
      unfold gT;rw[DV];simp only[akY]at hlen;exact decide_eq_decide.mpr (by omega)
     |cons c u hw=>
      rw[alx]at hz;cases hz
   rw[bI]at eB
   wp_walk
   exact⟨_,rfl,by simpa[amn]using eB⟩
  case h=>
   exact⟨rfl,rfl,items.toList,e5.toList,ns,ms,rfl,aB,aR,by omega,h⟩
end
def JH{prog:akh}{w:World}{A:akl}{E:cB}{s:ajZ}{l b:Addr}{items e5:Array Value}{ns ms:List Int}{Q:cB}(ar:IsTup s.heap l items)(ab:IsTup s.heap b e5)(aB:alk items.toList ns)(aR:alk e5.toList ms)
  (cy:A.units<cLine) (h:Q (.bool (gT ns ms)) s):wpAny (model prog w) A (akK .Gt (.ref l) (.ref b)) Q E s:=by
 obtain⟨⟨cls,dd,data,cS⟩,a',aD,n,hd⟩:=id ar;obtain⟨⟨ID,mc,data2,mV⟩,p8,hK,dW,hd2⟩:=id ab;simp only at aD hd hK hd2;subst aD hd hK hd2;exact ang (op:=.Gt) ⟨_,a',rfl⟩ ⟨_,p8,rfl⟩ PySem.F.slot_tuple_gt PySem.F.entry_tuple_gt (PySem.F.args_tuple_gt_2 _ _) (afP l b items e5 n dW dd mc cS mV ns ms aB aR)
  ⟨a',p8,show amO (gT ns ms)≠anC/\Q (.bool (gT ns ms)) s from⟨(λx=>nomatch x),h⟩⟩ cy
def abq(cy:X.A.units+64<cLine):en X (akK .Gt) (λx y H Q=>∃a b ns ms,x=.ref a/\y=.ref b/\dD X.K H a (ns.map V.int)/\dD X.K H b (ms.map V.int)/\Q (.az (gT ns ms)) H):=by
 intro zn s Y H x y v u Q I a4 bz h;obtain⟨a,b,ns,ms,rfl,rfl,ak,ab,q⟩:=h;cases a4;cases bz;obtain⟨its,bB,p1,_⟩:=I.tuple ak;obtain⟨lI,cq,dv,_⟩:=I.tuple ab;exact JH p1 dv (intsAre_of bB) (intsAre_of cq) (by omega) ⟨.az (gT ns ms),H,I,rfl,q⟩
abbrev iX:List Int->List Int->Bool:=nH (λi j=>decide (j<=i)) (λi j=>decide (j<=i))
section
open PySem.SeqAt
open PySem.AutoSeq1 (wpAny_loadPart')
open PySem.MeetsSeq PySem.MeetsSeq2 PySem.MeetsSeq3
def afO(l b:Addr)(items e5:Array Value)(n dW:Nat)(dd mc:Option Addr)(cS mV:Array (Option Value))(ns ms:List Int)(aB:alk items.toList ns)(aR:alk e5.toList ms) :
  Meets (anL.«tuple.__ge__» ⟨[.ref l,.ref b],[]⟩)
   (λ_ R s=>s.heap.get? l=some { cls:=.type "tuple",dict:=dd,data:=.seq items n,slots:=cS }/\s.heap.get? b=some { cls:=.type "tuple",dict:=mc,data:=.seq e5 dW,slots:=mV }/\
    R (.ok (.ret (.bool (iX ns ms)))) s):=
 .of_wp λprog w A R s h=>by
  obtain⟨aH,g,d,tk,os⟩:=s;obtain⟨ar,ab,h⟩:=h;have f2:=am3;have e8:items.size=ns.length:=by rw[<-aB.length];simp
  have eb:e5.size=ms.length:=by rw[<-aR.length];simp
  wp_walk using wpAny_loadPart' ar,wpAny_loadPart' ab,aoz _ (λrest b aP=>b.1=none/\aP=⟨aH,g,d,tk,os⟩/\∃(vs ws:List Value)(hP hO:List Int),rest=vs.zip ws/\
   alk vs hP/\alk ws hO/\hP.length+e5.size=hO.length+items.size/\R (.ok (.ret (.bool (iX hP hO)))) ⟨aH,g,d,tk,os⟩) _
  case turn=>
   rintro⟨y,x⟩ rest b aP ⟨mr,rfl,vs,ws,hP,hO,hz,mE,mF,hlen,eB⟩
   cases mE with
   |nil=>rw[am9]at hz;cases hz
   |cons a t vJ=>
    cases mF with
    |nil=>rw[anY]at hz;cases hz
    |cons c u vK=>
     rw[alx]at hz;injection hz with vL vG
     injection vL with ba ag
     subst ba ag;unfold iX at eB;rw[rF]at eB;simp only[akd]at hlen;obtain⟨e,he,p6⟩:=dZ.B8 A.in1 ⟨aH,g,d,tk,os⟩ a t c u;refine ajV (he prog w _ _ ?_)
     cases e with
     |true=>
      rw[if_pos (p6.mp rfl)]at eB
      wp_walk
      exact⟨rfl,rfl,_,_,_,_,vG,vJ,vK,by omega,eB⟩
     |false=>
      rw[if_neg (λq=>absurd (p6.mpr q) aj6)]at eB;have rv:∀(E:cB)(Q:cB),Q (.bool (decide (c<=a))) ⟨aH,g,d,tk,os⟩->wpAny (model prog w) A.in1 (anf .GtE (.int a t) (.int c u)) Q E ⟨aH,g,d,tk,os⟩:=λE Q h=>(PyProof.Rows.ge_int h:wpAny (model prog w) A.in1 (akK .GtE (.int a t) (.int c u)) Q E _)
      wp_walk using rv
      exact⟨_,rfl,by simpa using eB⟩
  case fin=>
   rintro⟨b2,b3⟩ aP ⟨mr,rfl,vs,ws,hP,hO,hz,mE,mF,hlen,eB⟩;simp only at mr;subst mr;have bI:iX hP hO=decide (e5.size<=items.size):=by
    cases mE with
    |nil=>
     unfold iX;rw[DU];simp only[akY]at hlen;exact decide_eq_decide.mpr (by omega)
    |cons a t bI=>
     cases mF with
     |nil=>
      unfold iX;rw[DV];simp only[akY]at hlen;exact decide_eq_decide.mpr (by omega)
     |cons c u hw=>
      rw[alx]at hz;cases hz
   rw[bI]at eB
   wp_walk
   exact⟨_,rfl,by simpa[amn]using eB⟩
  case h=>
   exact⟨rfl,rfl,items.toList,e5.toList,ns,ms,rfl,aB,aR,by omega,h⟩
end
def V0{prog:akh}{w:World}{A:akl}{E:cB}{s:ajZ}{l b:Addr}{items e5:Array Value}{ns ms:List Int}{Q:cB}(ar:IsTup s.heap l items)(ab:IsTup s.heap b e5)(aB:alk items.toList ns)(aR:alk e5.toList ms)
  (cy:A.units<cLine) (h:Q (.bool (iX ns ms)) s):wpAny (model prog w) A (akK .GtE (.ref l) (.ref b)) Q E s:=by
 obtain⟨⟨cls,dd,data,cS⟩,a',aD,n,hd⟩:=id ar;obtain⟨⟨ID,mc,data2,mV⟩,p8,hK,dW,hd2⟩:=id ab;simp only at aD hd hK hd2;subst aD hd hK hd2;exact ang (op:=.GtE) ⟨_,a',rfl⟩ ⟨_,p8,rfl⟩ PySem.F.slot_tuple_ge PySem.F.entry_tuple_ge (PySem.F.args_tuple_ge_2 _ _) (afO l b items e5 n dW dd mc cS mV ns ms aB aR)
  ⟨a',p8,show amO (iX ns ms)≠anC/\Q (.bool (iX ns ms)) s from⟨(λx=>nomatch x),h⟩⟩ cy
def abo(cy:X.A.units+64<cLine):en X (akK .GtE) (λx y H Q=>∃a b ns ms,x=.ref a/\y=.ref b/\dD X.K H a (ns.map V.int)/\dD X.K H b (ms.map V.int)/\Q (.az (iX ns ms)) H):=by
 intro zn s Y H x y v u Q I a4 bz h;obtain⟨a,b,ns,ms,rfl,rfl,ak,ab,q⟩:=h;cases a4;cases bz;obtain⟨its,bB,p1,_⟩:=I.tuple ak;obtain⟨lI,cq,dv,_⟩:=I.tuple ab;exact V0 p1 dv (intsAre_of bB) (intsAre_of cq) (by omega) ⟨.az (iX ns ms),H,I,rfl,q⟩
end aE
namespace aZ
open PySem PySem.Spec aE
def o7(g:List Int->List Int->Bool):R->R->M R
 |.v (.t xs),.v (.t ys)=>match nums xs,nums ys with
  |some ns,some ms=>pure (.v (.az (g ns ms)))|_,_=>bad
 |_,_=>bad
variable[aE.a5]
def Gz{g:List Int->List Int->Bool}:ew K mg (λx y H Q=>∃a b ns ms,x=.ref a/\y=.ref b/\dD K H a (ns.map V.int)/\dD K H b (ms.map V.int)/\Q (.az (g ns ms)) H) (o7 g):=λO Y S au H x y a4 bz bJ S' Q st ag ba h q=>by
 unfold o7 at h;split at h
 .rename_i xs ys
  split at h
  .rename_i ns ms av aC
   cases h;obtain⟨a,as,rfl,zr,bl⟩:=ag;obtain⟨b,bs,rfl,Lo,mS⟩:=ba;rw[tR bl av]at zr;rw[tR mS aC]at Lo;exact⟨a,b,ns,ms,rfl,rfl,zr,Lo,q O _ H (Go.refl _ _) st rfl trivial⟩
  .cases h
 .cases h
end aZ
namespace aZ
open PySem PySem.Spec aE PyProof.Rows
def qe(x:Str):Str:=x++aki ".<locals>."++aki "<lambda>"
def oJ(K:aT)(P:Addr)(x:Str):Bool:=match W.tabIn K x with
 |some (_,kD)=>kD==P|none=>false
abbrev ug(K:aT)(ln:List Str):a5:=⟨λP=>∃x∈ln,∃c,W.tabIn K x=some (c,P),λP=>match ln.find? (oJ K P)with
 |some x=>qe x| none=>""⟩
def acX{K:aT}{ln:List Str}{x:Str}{c P:Addr}(ag:x∈ln)(bM:W.tabIn K x=some (c,P))(inj:∀y∈ln,oJ K P y=true->y=x):(ug K ln).t9 P=qe x:=by
 show(match ln.find? (oJ K P)with|some x=>qe x|none=>"")=_;have YF:oJ K P x=true:=by unfold oJ;rw[bM];exact beq_self_eq_true P
 cases e:ln.find? (oJ K P)with
 |none=>exact absurd YF (anZ.mp e x ag)|some y=>
  dsimp only;rw[inj y (aom e) (List.find?_some e)]
def sa{K:aT}{x:Str}{f c P:Addr}{cZ zY:Value}{df Em:Option Addr}{fd:ale}{cS w8:Array (Option Value)}{vs:Array Value}(a:anc K akw x=some (some (.ref f)))(l:K.lookup f=some ⟨cZ,df,.func fd,cS⟩)(aD:fd.code=.ref c)
  (d:K.lookup c=some ⟨zY,Em,.fields vs,w8⟩) (e:vs[11]? = some (.ref P)):W.tabIn K x=some (c,P):=by
 unfold W.tabIn;rw[a];simp only[l,aD,d,e]
def XR{K:aT}{c P:Addr}{df:Option Addr}{cS:Array (Option Value)}{vs:Array Value}{file:Str}{Aw b8 tt:Tok}{flags text:Int}{y8:Bool}(d:K.lookup c=some ⟨.type "code",df,.fields vs,cS⟩)(sV:vs[11]? = some (.ref P))(Cc:vs.getD 11 .none=.ref P)
  (Cd:vs.getD 18 .none=.str file Aw) (Ce:vs.getD 7 .none=.int flags b8) (Cf:vs.getD 9 .none=.bool y8) (Cb:vs.getD 10 .none=.int text tt) (ne:c≠P):∀h,K.In h->W.CodeHd h c P:=λh X=>
 ⟨_,vs,file,Aw,flags,b8,y8,text,tt,X _ _ d,rfl,rfl,sV,Cc,Cd,Ce,Cf,Cb,ne⟩
def TN{K:aT}{st:Stmt}{Je:ale}(X:K.In h)(G:h.Ns akw mg)(a:anc K akw x=some (some (.ref VX)))(l:K.lookup VX=some ⟨ajB,ajD,.func Je,ajL⟩)(aD:Je.code=.ref c) :
  ∀(f:Addr)(cZ:Value)(df:Option Addr)(cC doc pm:Value)(an:Option Addr)(br b5:Value)(fv:Array (Option Value)),mg x=some (.ref f)->K.lookup f=some ⟨cZ,df,.func (alL x x (h7 st) (fq st) (bF st) .none cC doc pm an br b5),fv⟩->br=.ref c:=by
 intro f cZ df cC doc pm an br b5 fv hm ar;have e:=anK X G a;rw[hm]at e;cases e;rw[l]at ar;cases ar;exact aD
def Qu{l:W.OpenLaw}{w:World}{K:aT}{mg:bo}{ef:Addr}{k:Nat}{st:Stmt}[aE.a5](X':mg "law"=some (.ref ef))(P0:cn K mg "law" st ["script"])
  (ab:∀(cC doc pm:Value)(an:Option Addr)(br b5 v:Value),ame (alL "law" "law" (h7 st) (fq st) (bF st) .none cC doc pm an br b5) ⟨[v],[]⟩=pure [(("script":Str),v)])
  (ok:∀(base:Heap),ky base mg->∀(f:Addr)(fd:ale),lh K "law" "law" st f fd->e9 l.prog w K mg base eE k f fd ["script"] (w' K)) :
  ∃fd:ale,(∀(s:ajZ)(v:Value),BindsTo s fd ⟨[v],[]⟩ [("script",v)])/\∀base:Heap,K.In base->base.Ns akw mg->ky base mg->e9 l.prog w K mg base eE k ef fd ["script"] (w' K):=by
 obtain⟨f,fd,F,b,m⟩:=P0.ex;have e:aks ef=aks f:=akv (X'.symm.trans m);cases e;refine⟨fd,λs v=>?_,λbase _ _ bm=>ok base bm ef fd F⟩;obtain⟨cZ,df,cC,doc,pm,an,br,b5,fv,rfl,lk,gA⟩:=F.ex;exact .of_eq (ab cC doc pm an br b5 v)
def ZZ{P:akh}{w:World}{K:aT}{mg c6:bo}{k:Nat}{ef a:Addr}{fd:ale}{dw:ajZ}{vs:List Value}{ns:List Int}[aE.a5]
  (dA:K.In dw.heap) (yZ:dw.heap.Ns akw mg) (ab:dw.heap.Ns aog c6) (XM:∀x:Str,x≠"__name__"->c6 x=akJ x) (Yn:dw.heap.NoLimit) (aV:dw.gens=#[])
  (ak:dw.heap.get? a=some { cls:=.type "list",data:=.seq vs.toArray }) (aB:alk vs ns) (ar:ns.length<=63) (aA:cF k aop)
  (CM:ky dw.heap mg) (F:∀base:Heap,K.In base->base.Ns akw mg->ky base mg->e9 P w K mg base eE k ef fd ["script"] (w' K)) (mu:∀(s:ajZ)(u:Value),BindsTo s fd ⟨[u],[]⟩ [("script",u)])
  (fG:∀p,a5.cw p->dw.heap.get? p=some (W.tabObj #[])/\isCodeTable dw.heap p/\K.lookup p=none) :
  amI (model P w) aop (.call (.ref ef) ⟨[.ref a],[]⟩) (λr aP=>r=.ok (.ret (.bool true))/\OldK dw.heap aP.heap/\aP.os=dw.os/\ano aP.gens) dw:=by
 have bP:=Pw aB;have Z7:=aB.length;have Kf:ns.length<=aj3:=by rw[ako];omega
 have aaF:¬a5.cw a:=λz=>by have:=(fG a z).1;rw[ak]at this;cases this
 have core:∀H:ax,(∀b,H b=none\/(∃o xs,H b=some (.ck o (.l xs)))\/(a5.cw b/\H b=some (.gd #[])))->dk K H a (ns.map V.int)->TabsOk H->e_ P w H dw.heap->(∀b,H b≠none->b=a\/a5.cw b)->(∀b,H b≠none->K.lookup b=none)->
   amI (model P w) aop (.call (.ref ef) ⟨[.ref a],[]⟩) (λr aP=>r=.ok (.ret (.bool true))/\OldK dw.heap aP.heap/\aP.os=dw.os/\ano aP.gens) dw:=by
  intro H Wt cI Ww bO tc ht;have wo:∀{b:Addr}{o:Obj}{ay:Array anq}{cf:Nat},dw.heap.get? b=some o->o.data=.dict ay cf->H b=none:=λ{b o ay cf} e d=>by
   cases q:H b with
   |none=>rfl|some u=>
    rcases tc b (by rw[q];simp)with cA|cA
    .subst cA
     rw[ak]at e;cases e;cases d
    .rw[(fG b cA).1]at e;cases e
     cases d
  have zU:∀{b:Addr}{m:bo},dw.heap.Ns b m->(oC dw.heap H).Ns b m:=λ{b m} ⟨o,ay,cf,e,d,r⟩=>⟨o,ay,cf,CX e (wo e d),d,r⟩
  have JN:K.In (oC dw.heap H):=λb o e=>CX (dA b o e) (by
   cases q:H b with
   |none=>rfl| some u=>rw[ht b (by rw[q];simp)]at e;cases e)
  have Ws:Mod K mg (oC dw.heap H):=⟨JN,zU yZ,⟨c6,zU ab,XM⟩,let⟨hb,ae,ah⟩:=Yn;⟨hb,zU ae,ah⟩⟩;have d5:lg P w K mg (oC dw.heap H) aop [] dw H:=⟨rfl,Ws,λb o e=>aa4 e,alF (Yf _ _),trivial,λb ab=>absurd (show b∈([]:List Addr)from ab) (by simp),bO,.of_eq aV⟩;have Wn:ky (oC dw.heap H) mg:=by
   obtain⟨bm,o,b2,b3,gM,hH,jE,uN,uO⟩:=CM.ex;refine⟨bm,o,b2,b3,gM,CX hH ?_,jE,uN,uO⟩
   cases q:H bm with
   |none=>rfl|some u=>
    rcases tc bm (by rw[q];simp)with cA|cA
    .subst cA
     rw[ak]at hH;cases hH;cases uO
    .rw[(fG bm cA).1]at hH;cases hH
     cases uO
  refine amf ((F _ JN (zU yZ) Wn).run aop [] dw H ⟨[.ref a],[]⟩ [.ref a] [.ref a] (λv _=>v=.az true) i8 aA d5 (mu dw (.ref a)) (.cons rfl .nil) ⟨a,ns,rfl,cI,ar,Ww,λ_=>rfl⟩) λr aP h=>?_
  cases r with
  |error e=>exact akD h|ok a7=>
   cases a7 with
   |next=>exact akD h
   |brk=>exact akD h|cont=>exact akD h|ret u=>
    obtain⟨v,H',os,bare,un,Kj,bJ,q⟩:=h;have hy:v=.az true:=q;subst hy;obtain rfl:u=amO true:=bJ;have each:∀b o,dw.heap.get? b=some o->asItWas dw.heap aP.heap b o/\∃o',aP.heap.get? b=some o':=λb o e=>by
     rcases Wt b with z|⟨bx,xs,z⟩|⟨t,z⟩
     .have:=un.keep b o e z (by intro w;exact absurd (show b∈([]:List Addr)from w) (by simp)) (by simp)
      exact⟨.inl this,o,this⟩
     .have eb:=un.oq b bx _ z
      obtain⟨av,_⟩:=bO b _ z;obtain⟨aC,_⟩:=Kj b _ eb;rw[e]at av;cases av;exact⟨.inl aC,_,aC⟩
     .obtain⟨more,eb⟩:=un.ph b #[] z
      have aC:aP.heap.get? b=_:=Kj b _ eb;rw[(fG b t).1]at e;cases e;exact⟨.inr (.inl ⟨(fG b t).2.1,rfl,#[],more,rfl,aC⟩),_,aC⟩
    exact⟨rfl,⟨λb o e=>(each b o e).1,λb o e=>(each b o e).2⟩,os,bare⟩
 classical
 have O4:∀(H:ax),(∀p,a5.cw p->H p=some (.gd #[]))->TabsOk H:=λH h p aH=>⟨#[],h p aH,trivial,λpos iz z=>by cases z⟩
 cases aw:K.lookup a with
 |some o=>
  have e:=dA a o aw;rw[ak]at e;cases e;refine core (λb=>if a5.cw b then some (.gd #[])else none) (λb=>?_) (.inr ⟨_,vs.toArray,_,aw,rfl,rfl,rfl,by rw[aka,Z7];exact Kf,by simpa using bP⟩) (O4 _ λp aH=>if_pos aH) (λb u z=>?_) (λb z=>?_) λb z=>?_
  .by_cases t:a5.cw b
   .exact .inr (.inr ⟨t,if_pos t⟩)
   .exact .inl (if_neg t)
  .by_cases t:a5.cw b
   .have k':=(if_pos t).symm.trans z
    cases k';exact(fG b t).1
   .have k':=(if_neg t).symm.trans z
    cases k'
  .by_cases t:a5.cw b
   .exact .inr t
   .exact absurd (if_neg t) z
  .by_cases t:a5.cw b
   .exact(fG b t).2.2
   .exact absurd (if_neg t) z
 |none=>
  refine core (λb=>if b=a then some (.ck { cls:=.type "list",data:=.seq vs.toArray } (.l (ns.map V.int)))else if a5.cw b then some (.gd #[])else none) (λb=>?_) (.inl (.inr ⟨{ cls:=.type "list",data:=.seq vs.toArray },if_pos rfl⟩)) (O4 _ λp aH=>?_) (λb u z=>?_) (λb z=>?_) λb z=>?_
  .by_cases ab:b=a
   .exact .inr (.inl ⟨_,_,if_pos ab⟩)
   .by_cases t:a5.cw b
    .exact .inr (.inr ⟨t,by rw[if_neg ab,if_pos t]⟩)
    .exact .inl (by rw[if_neg ab,if_neg t])
  .rw[if_neg (by rintro rfl;exact aaF aH),if_pos aH]
  .by_cases ab:b=a
   .have k':=(if_pos ab).symm.trans z
    cases k';subst ab;exact⟨ak,by rw[ajX];exact Kf,vs,_,bP,ak⟩
   .try dsimp only at z
    rw[if_neg ab]at z
    by_cases t:a5.cw b
    .rw[if_pos t]at z;cases z
     exact(fG b t).1
    .rw[if_neg t]at z;cases z
  .by_cases ab:b=a
   .exact .inl ab
   .try dsimp only at z
    rw[if_neg ab]at z
    by_cases t:a5.cw b
    .exact .inr t
    .rw[if_neg t]at z;exact absurd rfl z
  .by_cases ab:b=a
   .rw[ab];exact aw
   .try dsimp only at z
    rw[if_neg ab]at z
    by_cases t:a5.cw b
    .exact(fG b t).2.2
    .rw[if_neg t]at z;exact absurd rfl z
def af6{l:W.OpenLaw}{q:akh}{k:Nat}{loose:List Str}{xR:(Str->Option Value)->Heap->Prop}{uL:World->Heap->Prop}{d:DefRec}{K:Params->aT}(ln:List Str)(aF:l.most=some 63)(CQ:d.params.defaults=[])(aA:cF k aop)
  (C5:∀x∈ln,∃d,(recsOf q).find? (λe=>e.name==x)=some d) (Yv:∀p,W.noTabs (K p)=true)
  (ou:∀(w:World)(h:Heap),uL w h->(K w.params).In h)
  (F:∀(w:World)(mg:bo)(ef:Addr)(h:Heap),(K w.params).In h->h.Ns akw mg->mg d.name=some (.ref ef)->
   ∃fd:ale,(∀(s:ajZ)(u:Value),BindsTo s fd ⟨[u],[]⟩ [("script",u)])/\∀base:Heap,(K w.params).In base->base.Ns akw mg->ky base mg->@e9 l.prog w (K w.params) mg base eE k ef fd ["script"] (@w' (ug (K w.params) ln) (K w.params))) :
  W.WalkO q loose xR uL l.row.toRowW d [] (λf vs=>PySem.call f vs):=by
 refine F4.QE aF CQ λw g0 dw mg c6 ef o pm cd doc a vs ns G σ a' hd gA vE C3 hints hlen aV=>?_
 have dA:=ou w _ σ;obtain⟨fd,ab,dt⟩:=F w mg ef _ dA G.T.g vE
 letI:=ug (K w.params) ln
 have CM:ky dw.heap mg:=by
  obtain⟨bm,bx,b2,b3,gM,hH,jE,uN⟩:=G.T.bmain;refine⟨bm,bx,b2,b3,λq=>?_,gM,hH,jE,uN⟩;obtain⟨o,ay,cf,e,hd,_⟩:=G.T.g;rw[q,e]at gM;cases gM;rw[hd]at uN;cases uN
 refine ZZ dA G.T.g G.T.b G.T.builtins G.T.nolimit aV C3 hints hlen aA CM dt ab λp aW=>?_
 obtain⟨x,ag,c,bM⟩:=aW;obtain⟨d,hd⟩:=C5 x ag;obtain⟨ae,ah⟩:=W.tab_of G.T dA hd bM;refine⟨ah,(ae.tab ah).isCodeTable,?_⟩
 cases e:(K w.params).lookup p with
 |none=>rfl|some o=>
  have aC:=dA p o e;rw[ah]at aC;cases aC;have bN:=ak9.mp (Yv w.params) (p,_) (W.mem_of_lookupK e);exact absurd (show false=true from bN) aj6
def DW{K:aT}{h:Heap}{mg:bo}{x:Str}{st:Stmt}{ln:List Str}{f c P:Addr}{cZ zY:Value}{df Em:Option Addr}{fd:ale}{cS w8:Array (Option Value)}{vs:Array Value}{file:Str}{Aw b8 tt:Tok}{flags text:Int}{y8:Bool}(X:K.In h)(G:h.Ns akw mg)(ag:x∈ln)
  (a:anc K akw x=some (some (.ref f))) (l:K.lookup f=some ⟨cZ,df,.func fd,cS⟩) (aD:fd.code=.ref c) (d:K.lookup c=some ⟨zY,Em,.fields vs,w8⟩) (y0:zY=.type "code") (sV:vs[11]? = some (.ref P)) (Cc:vs.getD 11 .none=.ref P)
  (Cd:vs.getD 18 .none=.str file Aw) (Ce:vs.getD 7 .none=.int flags b8) (Cf:vs.getD 9 .none=.bool y8) (Cb:vs.getD 10 .none=.int text tt) (ne:c≠P) (inj:∀y∈ln,oJ K P y=true->y=x) :
  ∃c P,@nd (ug K ln) K c P (qe x)/\∀(f:Addr)(cZ:Value)(df:Option Addr)(cC doc pm:Value)(an:Option Addr)(br b5:Value)(fv:Array (Option Value)),mg x=some (.ref f)->K.lookup f=some ⟨cZ,df,.func (alL x x (h7 st) (fq st) (bF st) .none cC doc pm an br b5),fv⟩->br=.ref c:=by
 subst y0;have bM:=sa a l aD d sV;exact⟨c,P,@nd.mk (ug K ln) K c P (qe x) (XR d sV Cc Cd Ce Cf Cb ne) ⟨x,ag,c,bM⟩ (acX ag bM inj),TN X G a l aD⟩
end aZ
namespace aZ
open PySem PySem.Spec aE PyProof.Rows
variable[aE.a5]
section
variable{X:aS}{k:Nat}{e:Expr}{cR:bg}{Z:fS}{p pos kp:Pos}
def Py{c P:Addr}{q p1:Str}{params:am1}{body:Expr}{scope:Scope}{rG:Pos}{N:List Str}{m:bg}(j5:Z.Ok)(aV:eF X "sorted")(hm:X.mg "sorted"=none)(aA:cF (k+3) X.A)(L:nd X.K c P q)(B:ky X.base X.mg)(nD:X.env.code=.ref c)
  (a8:X.env.qual++aki "<lambda>"=q) (Sc:b9 N [p1] scope)
  (mu:∀(c:Addr)(pm g9 u:Value),ame (W.kla_fn (aki "<lambda>") q params body scope [] pm (.ref c) g9) ⟨[u],[]⟩=pure [(p1,u)])
  (ab:∀(f c:Addr)(A:akl)(s:ajZ)(H:ax),cF k (A.deeper (amJ q scope s.heap.objs.size f (.ref c)))->a_ (g_ eE X.prog X.w X.K X.mg X.base N q scope f (.ref c) A X.stack s H i8).gD body m)
  (ak:a_ X e cR) (oy:aol params X.env=([],[]):=by rfl) (jM:amu scope X.env=pure []:=by rfl)
  (he:akr pos (ajY [e] X.env)=(false,eval e X.env)::akr pos (ajY [] X.env):=by rfl)
  (aj:ajY [e] X.env=(false,eval e X.env)::ajY [] X.env:=by rfl)
  (iU:(akr pos (ajY [e] X.env)).any (·.1)=false:=by rfl) :
  a_ X (.Call (.Name "sorted" p) [e] [⟨some (aki "key"),.Lambda params body scope rG,kp⟩] pos) (q0 Z (fnOf 1 N.length (bw m)) cR):=
 ⟨TF j5 aV hm aA L B nD a8 Sc mu (λf c A s H aA=>(ab f c A s H aA).un) ak.un oy jM he aj iU⟩
end
end aZ
namespace aZ
open PySem PySem.Spec aE PyProof.Rows
structure uB(P:akh)(w:World)(K:aT)(mg:bo)(x:Str)(ps:List (Str×Str)):Prop where
 ex:∃(a:Addr)(ay:Array anq)(n:Nat),mg x=some (.ref a)/\alE a K=some { cls:=.type "dict",data:=.dict ay n }/\KeysOf (anj P w) ay/\
  ∀k fn,ps.lookup k=some fn->∃f,anR akZ ay k=some (.ref f)/\mg fn=some (.ref f)
@[simp] def BE(ps:List (Str×Str))(mk:bg)(Y:aQ):M R:=do
 let k <-mk Y
 match k with
 |.v (.str z)=>match ps.lookup z with
  |some fn=>pure (.v (.fn fn))|none=>bad
 |_=>bad
@[simp] def BB(i:Nat)(aY:List (Str×bC))(ms:c8)(Y:aQ):M R:=match Y[i]? with
 |some (.v (.fn f))=>match aY.lookup f with
  |some mf=>bt mf ms Y|none=>bad
 |_=>bad
def afy(mg:bo)(ps:List (Str×Str))(ty:TE):TE:=λY H Q=>ty Y H λy H1=>∃z fn f,y=.str z/\ps.lookup z=some fn/\mg fn=some (.ref f)/\Q (.ref f) H1
variable[aE.a5]
section
variable{X:aS}{x:Str}{ps:List (Str×Str)}{i:Expr}{pos p:Pos}{ty:TE}{mk:bg}{j k:Nat}{e:Expr}{ay:List Expr}{ms:c8}{pp:List Str}{aY:List (Str×bC)}
omit [aE.a5]in
theorem acm(T:uB X.prog X.w X.K X.mg x ps)(aV:eF X x)(aB:bQ X i ty)(aj:uG i)(eC:(x==("__debug__":Str))=false:=by decide):bQ X (.Subscript (.Name x p) i pos) (afy X.mg ps ty):=by
 intro zn s Y H Q I h;obtain⟨a,ds,n,hm,ar,aw,hf⟩:=T.ex;refine OT aoi.lookup aj (tv I aV hm ?_ eC);refine bV (aB zn s Y H _ I h) λqb s2 aW=>?_
 obtain⟨y,aM,bU,bz,z,fn,f,fg,el,em,b0⟩:=aW;subst fg;obtain⟨t,rfl⟩:=bz;have ak:=bU.e6 a _ ar;obtain⟨ra,av,aC⟩:=hf z fn el;rw[em]at aC;cases aC;refine⟨⟨_,ak,rfl⟩,?_⟩;refine wpAny_getItem_of (knd:=anj X.prog X.w) (k:=z) (f:=anR akZ ds) (v:=.ref f) ?_ ?_ av ?_
 .show(z==z)=true
  simp
 .exact⟨_,ds,n,ak,⟨rfl,rfl,rfl⟩,rfl,aw,λ_=>rfl⟩
 .exact⟨.ref f,aM,bU.tok _,rfl,b0⟩
omit [aE.a5]in
theorem ab0(hN:X.N[j]? = some x)(bI:qY X.env.scope x)(aA:cF k X.A){t:gj}(ak:fM X (e::ay) t)(eC:(x==("__debug__":Str))=false:=by decide)(gA:(x==("__classdict__":Str))=false:=by decide)
  (he:ajY (e::ay) X.env=(false,eval e X.env)::ajY ay X.env:=by rfl) (eU:(akr pos (ajY ay X.env)).any (·.1)=false:=by rfl) :
  bQ X (.Call (.Name x p) (e::ay) [] pos) (λY H Q=>∃(f:Addr)(fd:ale)(sp:ed),Y[j]? = some (some (.ref f))/\e9 X.prog X.w X.K X.mg X.base eE k f fd pp sp/\Binds X.K fd pp []/\alW X.K (.ref f)=true/\t Y H λvs H1=>sp vs H1 Q i8):=by
 rintro zn s Y H Q I ⟨f,fd,sp,ev,F,b,kp,h⟩;refine alw (bV (z6 hN bI eC gA zn s Y H (λv H'=>v=.ref f/\H'=H) I ⟨.ref f,ev,rfl,rfl⟩) λu s1 aW=>?_);obtain⟨v,H1,a9,bB,av,aC⟩:=aW;subst av aC;obtain rfl:u=aks f:=bB;refine aos (h₀:=X.base) I.ok.mod.tr kp (bV (ak pos zn s1 Y H1 _ a9 h) λus s2 ⟨vs,aM,bU,r,q⟩=>⟨bU.e6,?_⟩) he eU;exact w0 (dvs:=[]) (ds:=[]) F aA b .nil t5 bU r (by simpa only[ak6]using q)
def Pz(T:uB X.prog X.w X.K X.mg x ps)(aV:eF X x)(aB:a_ X i mk)(aj:uG i:=by exact λ_ _=>rfl)(eC:(x==("__debug__":Str))=false:=by decide):a_ X (.Subscript (.Name x p) i pos) (BE ps mk):=⟨eg (acm T aV aB.un aj eC) λau H Q aW=>by
 obtain⟨O,Y,S,r,S',st,h,q⟩:=aW;obtain⟨y,S1,ae,h⟩:=M.inv h;split at h
 .rename_i z
  split at h
  .rename_i fn el
   cases h;obtain⟨_,_,_,_,_,_,hall⟩:=T.ex;obtain⟨f,_,em⟩:=hall z fn el;refine⟨O,Y,S,_,_,st,ae,λaJ v H1 g1 aU bp nn=>?_⟩;exact⟨z,fn,f,bp,el,em,q aJ _ H1 g1 aU ⟨f,rfl,em⟩ trivial⟩
  .cases h
 .cases h⟩
def agj(Yb:∀f mf,aY.lookup f=some mf->b6 X.prog X.w X.K X.mg X.base f pp k (bY X.K X.mg mf))(hN:X.N[j]? = some x)(bI:qY X.env.scope x)(aA:cF k X.A)(ak:gK X (e::ay) ms)(eC:(x==("__debug__":Str))=false:=by decide)(gA:(x==("__classdict__":Str))=false:=by decide)
  (he:ajY (e::ay) X.env=(false,eval e X.env)::ajY ay X.env:=by rfl) (eU:(akr pos (ajY ay X.env)).any (·.1)=false:=by rfl):a_ X (.Call (.Name x p) (e::ay) [] pos) (BB j aY ms):=⟨eg (ab0 (pp:=pp) hN bI aA ak.un eC gA he eU) λau H Q aW=>by
  obtain⟨O,Y,S,r,S',st,h,q⟩:=aW;unfold BB at h;split at h
  .rename_i f B4
   split at h
   .rename_i mf el
    obtain⟨ef,fd,F,b,kp,m⟩:=(Yb f mf el).ex;obtain⟨v,ev,a,rfl,em⟩:=st.loc j _ B4;have:a=ef:=by
     rw[m]at em;cases em;rfl
    subst this;have VF:au[j]? = some (some (.ref a)):=by
     cases w:au[j]? with
     |none=>rw[w]at ev;cases ev
     |some y=>rw[w]at ev;exact congrArg some ev
    exact⟨a,fd,_,VF,F,b,kp,BG au H Q ⟨O,Y,S,r,S',st,h,q⟩⟩
   .cases h
  .cases h⟩
end
omit [aE.a5]in
theorem lookup_all{α β:Type}[BEq α][LawfulBEq α]{P:α->β->Prop}:∀{l:List (α×β)},(∀x∈l,P x.1 x.2)->∀a b,l.lookup a=some b->P a b
 |[],_,_,_,h=>by cases h
 |(c,d)::l,aH,a,b,h=>by
  rw[akM]at h;split at h
  .rename_i e
   cases h;rw[eq_of_beq e];exact aH _ aj9
  .exact lookup_all (λx ag=>aH x (aj4 _ ag)) a b h
omit [aE.a5]in
theorem VP{P:akh}{w:World}{K:aT}{h:Heap}{mg:bo}{x:Str}{d:Addr}{ay:Array anq}{n:Nat}{ps:List (Str×Str)}(X:K.In h)(G:h.Ns akw mg)
  (a:anc K akw x=some (some (.ref d))) (l:alE d K=some { cls:=.type "dict",data:=.dict ay n }) (k:∀e∈ay.toList,∃s,akZ s e.key=true/\e.hash=hashStr w s)
  (f:∀p∈ps,∃f,anc K d p.1=some (some (.ref f))/\anc K akw p.2=some (some (.ref f))):uB P w K mg x ps:=by
 refine⟨d,ay,n,anK X G a,l,λe he=>?_,lookup_all (P:=λk fn=>∃f,anR akZ ay k=some (.ref f)/\mg fn=some (.ref f)) λp aH=>?_⟩
 .obtain⟨s,ae,ah⟩:=k e (by simpa using he)
  exact⟨s,ae,ah⟩
 .obtain⟨f,ae,ah⟩:=f p aH
  exact⟨f,W.find_K l ae,anK X G ah⟩
omit [aE.a5]in
theorem tQ{K:aT}{P kD c:Addr}{x y:Str}(bM:W.tabIn K y=some (c,kD))(ne:kD≠P)(h:oJ K P y=true):y=x:=by
 unfold oJ at h;rw[bM]at h;exact absurd (eq_of_beq h) ne
end aZ
namespace aZ
open PySem PySem.W PyProof.Rows
def f5{α:Type}(n:Nat)(lt:Nat->Nat->Bool):KasT α->(α->Prop)->Prop
 |.ret a,Q=>Q a|.ask i j k,Q=>i<n/\j<n/\f5 n lt (k (lt i j)) Q
theorem f5.bind{α β:Type}{n:Nat}{lt:Nat->Nat->Bool}{f:α->KasT β}{Q:β->Prop}:∀{t:KasT α},f5 n lt t (λa=>f5 n lt (f a) Q)->f5 n lt (t.bind f) Q
 |.ret _,h=>h|.ask _ _ k,h=>⟨h.1,h.2.1,f5.bind (t:=k _) h.2.2⟩
theorem f5.imp{α:Type}{n:Nat}{lt:Nat->Nat->Bool}{Q fT:α->Prop}(a8:∀a,Q a->fT a):∀{t:KasT α},f5 n lt t Q->f5 n lt t fT
 |.ret a,h=>a8 a h|.ask _ _ k,h=>⟨h.1,h.2.1,f5.imp a8 (t:=k _) h.2.2⟩
theorem f5.wp{α:Type}{n:Nat}{lt:Nat->Nat->Bool}{cmp:Nat->Nat->(Bool->ajZ->Prop)->ajZ->Prop}{W:ajZ->Prop}(aD:∀i j C s,i<n->j<n->W s->(∀aP,W aP->C (lt i j) aP)->cmp i j C s){G:α->ajZ->Prop} :
  ∀{t:KasT α}{s:ajZ},W s->f5 n lt t (λa=>∀aP,W aP->G a aP)->t.kasWp cmp G s
 |.ret _,s,w,h=>h s w|.ask i j k,s,w,h=>aD i j _ s h.1 h.2.1 w λaP eR=>f5.wp aD (t:=k _) eR h.2.2
structure Ord(n:Nat)(lt:Nat->Nat->Bool):Prop where
 k4:∀i j k,i<n->j<n->k<n->lt i j=true->lt j k=true->lt i k=true
 O5:∀i j,i<n->j<n->i≠j->lt i j=false->lt j i=true
 ah7:∀i j,i<n->j<n->lt i j=true->lt j i=false
structure Row(n:Nat)(p:Array Nat):Prop where
 lR:p.size=n
 lt:∀i,i<n->p.getD i 0<n
 ap:∀i j,i<n->j<n->i≠j->p.getD i 0≠p.getD j 0
 pm:p.toList.Perm (akG n)
def E4{p:Array Nat}(h:p.toList.Perm (akG n)):Row n p:=by
 have lR:p.size=n:=by
  have:=h.length_eq;simpa using this
 have bS:∀i,i<n->p.toList[i]? = some (p.getD i 0):=λi aB=>by
  have:i<p.size:=by omega
  simp[Array.getD,this]
 refine⟨lR,λi aB=>?_,λi j aB aR ne e=>?_,h⟩
 .exact ak4.mp (h.mem_iff.mp (akL (bS i aB)))
 .have dU:p.toList.Nodup:=h.nodup_iff.mpr List.nodup_range
  have av:=bS i aB;rw[e,<-bS j aR]at av;exact ne ((List.getElem?_inj (by simpa using(by omega:i<p.size)) dU).mp av)
def Row.Mo(h:Row n p)(e:q.Perm p):Row n q:=E4 (e.toList.trans h.pm)
abbrev m7(lt:Nat->Nat->Bool)(p:Array Nat)(m:Nat):Prop:=∀i j,i<j->j<m->lt (p.getD i 0) (p.getD j 0)=true
section
variable{n:Nat}{lt:Nat->Nat->Bool}(O:Ord n lt)
include O
theorem Gw{p:Array Nat}(h:Row n p)(hm:m<=n)(Qp:∀i,1<=i->i<m->lt (p.getD (i-1) 0) (p.getD i 0)=true):m7 lt p m:=by
 intro i j rp
 induction j with
 |zero=>omega|succ j a6=>
  intro aR;have a:=Qp (j+1) (by omega) aR;rw[Nat.add_sub_cancel]at a
  by_cases q:i=j
  .subst q;exact a
  .exact O.k4 _ _ _ (h.lt i (by omega)) (h.lt j (by omega)) (h.lt (j+1) (by omega)) (a6 (by omega) (by omega)) a
theorem flip{p:Array Nat}(h:Row n p)(ae:1<=i)(aB:i<n)(e:lt (p.getD i 0) (p.getD (i-1) 0)=false):lt (p.getD (i-1) 0) (p.getD i 0)=true:=
 O.O5 _ _ (h.lt i aB) (h.lt (i-1) (by omega)) (h.ap i (i-1) aB (by omega) (by omega)) e
omit O in
theorem CO{p:Array Nat}(h:Row n p){Q:Nat->Prop}:∀(f m:Nat),1<=m->m+f=n->(∀eD,m<=eD->eD<=n->(∀i,m<=i->i<eD->lt (p.getD i 0) (p.getD (i-1) 0)=false)->(eD=n\/eD<n/\lt (p.getD eD 0) (p.getD (eD-1) 0)=true)->Q eD)->f5 n lt (kas_asc p f m) Q
 | 0,m,ae,e,q=>q m (aj0 _) (by omega) (fun i _ _=>by omega) (.inl (by omega))|f+1,m,ae,e,q=>by
  refine⟨h.lt m (by omega),h.lt (m-1) (by omega),?_⟩
  cases c:lt (p.getD m 0) (p.getD (m-1) 0)with
  |true=>exact q m (aj0 _) (by omega) (λi _ _=>by omega) (.inr ⟨by omega,c⟩)|false=>
   refine CO h f (m+1) (by omega) (by omega) λeD a1 a2 eH hl=>q eD (by omega) a2 (λi b2 b3=>?_) hl
   by_cases z:i=m
   .rw[z];exact c
   .exact eH i (by omega) b3
theorem J3{p:Array Nat}(h:Row n p){Q:Array Nat×Nat×Nat->Prop}:∀(f m:Nat),1<=m->m+f=n->(∀eD,m<=eD->eD<=n->(∀i,m<=i->i<eD->lt (p.getD i 0) (p.getD (i-1) 0)=true)->Q (p,eD,0))->f5 n lt (kas_desc f p m 0) Q
 | 0,m,ae,e,q=>q m (aj0 _) (by omega) (fun i _ _=>by omega)|f+1,m,ae,e,q=>by
  refine⟨h.lt m (by omega),h.lt (m-1) (by omega),?_⟩
  cases c:lt (p.getD m 0) (p.getD (m-1) 0)with
  |true=>
   refine J3 h f (m+1) (by omega) (by omega) λeD a1 a2 eH=>q eD (by omega) a2 λi b2 b3=>?_
   by_cases z:i=m
   .rw[z];exact c
   .exact eH i (by omega) b3
  |false=>
   refine⟨h.lt (m-1) (by omega),h.lt m (by omega),?_⟩;rw[flip O h ae (by omega) c];exact q m (aj0 _) (by omega) (λi _ _=>by omega)
omit O in
theorem Nd{p:Array Nat}(h:Row n p){m:Nat}(hm:m<=n){k:Nat}(aw:k<n):(kas_rev p 0 m).getD k 0=if k<m then p.getD (m-1-k) 0 else p.getD k 0:=by
 have e:=getElem?_mirror_all (xs:=p) (i:=0) (j:=m) (by rw[h.lR];exact hm) k;have bS:∀(q:Array Nat)(i:Nat),q.getD i 0=(q[i]?).getD 0:=λq i=>by simp[an0]
 rw[bS,bS,bS];unfold kas_rev;rw[e]
 by_cases z:k<m
 .rw[if_pos ⟨akm _,z⟩,if_pos z,aow]
 .rw[if_neg (λy=>z y.2),if_neg z]
theorem XQ{Q:Nat×Array Nat->Prop}(h:Row n p)(aF:1<=n)(q:∀m qu,1<=m->m<=n->Row n qu->m7 lt qu m->Q (m,qu)):f5 n lt (kas_count n p) Q:=by
 refine f5.bind (CO h (n-1) 1 (aj0 _) (by omega) λm a1 a2 eH hl=>?_);have as:m7 lt p m:=Gw O h a2 λi b2 b3=>flip O h b2 (by omega) (eH i b2 b3)
 by_cases e:m=n
 .rw[if_pos (by rw[e];exact beq_self_eq_true n)]
  exact q m p a1 a2 h as
 .rw[if_neg (by intro z;exact e (eq_of_beq z))]
  by_cases av:m > 1
  .rw[if_pos av]
   refine⟨h.lt 0 (by omega),h.lt (m-1) (by omega),?_⟩;rw[as 0 (m-1) (by omega) (by omega)];exact q m p a1 a2 h as
  .rw[if_neg av]
   have tx:m=1:=by omega
   subst tx;have gk:lt (p.getD 1 0) (p.getD 0 0)=true:=by
    rcases hl with z|z
    .exact absurd z e
    .exact z.2
   refine f5.bind (J3 O h (n-(1+1)) (1+1) (by omega) (by omega) λm a1 a2 eH=>?_);rw[if_neg (by exact akI 0)];have aA:Row n (kas_rev p 0 m):=h.Mo (mirror_perm _ _ _ _);refine f5.bind (CO aA (n-m) m (by omega) (by omega) λeD b2 b3 gM _=>?_);refine q eD _ (by omega) b3 aA (Gw O aA b3 λi bL af=>?_)
   by_cases z:i<m
   .rw[Nd h a2 (k:=i-1) (by omega),Nd h a2 (k:=i) (by omega),if_pos (by omega),if_pos z,show m-1-(i-1)=m-1-i+1 by omega]
    by_cases y:m-1-i+1=1
    .rw[y,show m-1-i=0 by omega];exact gk
    .have:=eH (m-1-i+1) (by omega) (by omega)
     rwa[Nat.add_sub_cancel]at this
   .exact flip O aA bL (by omega) (gM i (by omega) af)
theorem CP{p:Array Nat}(h:Row n p){k:Nat}(aw:k<n){Q:Nat->Prop}(q:∀l,l<=k->(∀i,i<l->lt (p.getD i 0) (p.getD k 0)=true)->(∀i,l<=i->i<k->lt (p.getD k 0) (p.getD i 0)=true)->Q l)(as:m7 lt p k) :
  ∀(f l r:Nat),r-l<=f->l<=r->r<=k->(∀i,i<l->lt (p.getD i 0) (p.getD k 0)=true)->(∀i,r<=i->i<k->lt (p.getD k 0) (p.getD i 0)=true)->f5 n lt (kas_place p k f l r) Q
 |0,l,r,hf,ae,ah,a,b=>q l (by omega) a λi c d=>b i (by omega) d
 |f+1,l,r,hf,ae,ah,a,b=>by
  unfold kas_place
  by_cases e:l≥r
  .rw[if_pos e];exact q l (by omega) a λi c d=>b i (by omega) d
  .rw[if_neg e]
   have hm:(l+r) / 2<r:=by omega
   have ar:l<=(l+r) / 2:=by omega
   generalize(l+r) / 2=m at hm ar;refine⟨h.lt k aw,h.lt m (by omega),?_⟩
   cases c:lt (p.getD k 0) (p.getD m 0)with
   |true=>
    refine CP h aw q as f l m (by omega) ar (by omega) a λi gk da=>?_
    by_cases z:i=m
    .rw[z];exact c
    .exact O.k4 _ _ _ (h.lt k aw) (h.lt m (by omega)) (h.lt i (by omega)) c (as m i (by omega) da)
   |false=>
    refine CP h aw q as f (m+1) r (by omega) (by omega) ah (λi gk=>?_) b;have c':=O.O5 _ _ (h.lt k aw) (h.lt m (by omega)) (h.ap k m aw (by omega) (by omega)) c
    by_cases z:i=m
    .rw[z];exact c'
    .exact O.k4 _ _ _ (h.lt i (by omega)) (h.lt m (by omega)) (h.lt k aw) (as i m (by omega) (by omega)) c'
theorem J2{Q:Array Nat->Prop}(q:∀p,Row n p->m7 lt p n->Q p):∀(f:Nat)(p:Array Nat)(k:Nat),Row n p->k+f=n->m7 lt p k->f5 n lt (kas_bin f p k) Q
 | 0,p,k,h,e,as=>q p h (by rw[<-e];exact as)|f+1,p,k,h,e,as=>by
  refine f5.bind (CP O h (by omega) (λl ae a b=>?_) as k 0 k (by omega) (akm _) (aj0 _) (λi z=>by omega) λi z y=>by omega);have aA:Row n (bubble p k (k-l)):=h.Mo (bubble_perm _ _ _);have at':∀i,i<n->(bubble p k (k-l)).getD i 0=if i=l then p.getD k 0 else if l<i/\i<=k then p.getD (i-1) 0 else p.getD i 0:=λi aB=>by
   have e:=getElem?_bubble (xs:=p) (src:=k) (by rw[h.lR];omega) (k-l) (by omega) i;have bS:∀(q:Array Nat)(i:Nat),q.getD i 0=(q[i]?).getD 0:=λq i=>by simp[an0]
   rw[bS,bS,bS,bS,e,show k-(k-l)=l by omega]
   by_cases z:i=l
   .rw[if_pos z,if_pos z]
   .rw[if_neg z,if_neg z]
    by_cases y:l<i/\i<=k
    .rw[if_pos y,if_pos y]
    .rw[if_neg y,if_neg y]
  refine J2 q f _ (k+1) aA (by omega) λi j rp aR=>?_
  rw[at' i (by omega),at' j (by omega)]
  by_cases e8:i=l
  .rw[if_pos e8,if_neg (by omega),if_pos (by omega)]
   exact b (j-1) (by omega) (by omega)
  .rw[if_neg e8]
   by_cases eb:l<i/\i<=k
   .rw[if_pos eb,if_neg (by omega),if_pos (by omega)]
    exact as (i-1) (j-1) (by omega) (by omega)
   .rw[if_neg eb]
    by_cases l0:j=l
    .rw[if_pos l0];exact a i (by omega)
    .rw[if_neg l0]
     by_cases m4:l<j/\j<=k
     .rw[if_pos m4]
      by_cases FY:i=j-1
      .exact absurd FY (by omega)
      .exact as i (j-1) (by omega) (by omega)
     .rw[if_neg m4];exact as i j rp (by omega)
theorem XS(aF:1<=n):f5 n lt (kas_sort n) λp=>Row n p/\m7 lt p n:=by
 have h0:Row n (amj (akG n)):=E4 (by simp);refine f5.bind (XQ O h0 aF λm p a1 a2 aA as=>?_);have o2:max m 1=m:=by omega
 show f5 n lt (if m<n then kas_bin (n-max m 1) p (max m 1)else .ret p) _;rw[o2]
 by_cases e:m<n
 .rw[if_pos e]
  exact J2 O (λp h a=>⟨h,a⟩) _ _ _ aA (by omega) as
 .rw[if_neg e]
  have:m=n:=by omega
  subst this;exact⟨aA,as⟩
end
section
variable{prog:akh}{w:World}{A:akl}{E:cB}{s:ajZ}
abbrev jO(h:Heap)(a:Addr)(vs:List Value):Heap:=((h.update a (akz λ_=>#[])).push (akC "tuple" vs.toArray 0)).push (akC "list" #[] 0)
def aau{h:Heap}(ab:b≠a)(e:h.get? b=some o):(jO h a vs).get? b=some o:=
 ajW _ (ajW _ ((aoO _ _ (amT ab)).trans e))
def aeL{vs:List Value}(short:vs.length<2):(arrOf (SortSt.mk' general' (vs.toArray.zip vs.toArray) #[] 7 none)).map (·.2)=amj ((amj (akG vs.length)).toList.map λi=>vs.getD i alf):=by
 show(vs.toArray.zip vs.toArray).map (·.2)=_;rcases vs with _|⟨_,_|⟨_,_⟩⟩
 .simp
 .simp
 .simp only[akd]at short;omega
def aeT{a:Addr}{vs:List Value}{k:Nat}{A4:Fin->ajZ->Prop}{lt:Nat->Nat->Bool}{κ:SortKind}(here:s.heap.get? a=some (akC "list" vs.toArray k))(jg:vs.length<64)(O:Ord vs.length lt)
  (kind:2<=vs.length->∀Q:SortKind->ajZ->Prop,Q κ { s with heap:=jO s.heap a vs }->wpAny (model prog w) A (keyKind' vs.toArray) Q (λ_ _=>False) { s with heap:=jO s.heap a vs })
  (ask:∀(i j:Nat)(C:Bool->ajZ->Prop),i<vs.length->j<vs.length->C (lt i j) { s with heap:=jO s.heap a vs }->kas_ask prog w A κ vs i j C { s with heap:=jO s.heap a vs })
  (fin:∀p:Array Nat,Row vs.length p->m7 lt p vs.length->A4 (.done (.ret .none)) { s with heap:=sortedHeap s.heap a vs (amj (p.toList.map λi=>vs.getD i alf)) }) :
  wpAny (model prog w) A (anL.«list.sort» ⟨[.ref a],[]⟩) A4 E s:=by
 have LG:=ake here;have small:vs.toArray.size<=aj3:=by rw[aka,ako];omega
 obtain⟨cf,emptied⟩:∃cf,(s.heap.update a (akz λ_=>#[])).get? a=some (akC "list" #[] cf):=⟨_,al4 here λ_=>#[]⟩;have mid:(jO s.heap a vs).get? a=some (akC "list" #[] cf):=by
  unfold jO;rw[al9 _ _ _ (by rw[aok,aoy];exact akj (am8 LG)),al9 _ _ _ (by rw[aoy];exact akj LG)];exact emptied
 rw[list_sort_plain];refine ajV (listItems_at here rfl (ajV (amq here rfl ?_ small (akm _))));refine ajV (anN emptied rfl (ajV (wpAny_newTuple ?_ small)));refine ajV (amS (alj ?_) (akm _));show wpAny (model prog w) A _ A4 E { s with heap:=jO s.heap a vs };dsimp only
 by_cases two:vs.toArray.size<2
 .rw[if_pos two,if_pos two]
  have short:vs.length<2:=by rw[aka]at two;exact two
  refine ajV (aj1 ?_);rw[StateT.run_pure];refine ajV (aj1 ?_);dsimp only;have R:Row vs.length (amj (akG vs.length)):=E4 (by simp);have same:=aeL short;rw[same];refine ajV (anN mid rfl (ajV (amq mid rfl ?_ (akm _) (by simp;rw[ako];omega))));simp only[failedOf,bne_self_eq_false,amv,if_false];exact aj1 (fin _ R λi j ae ah=>by omega)
 .rw[if_neg two,if_neg two]
  have Pj:2<=vs.length:=by rw[aka]at two;omega
  refine ajV (akH (kind Pj (λF3 aP=>F3=κ/\aP={ s with heap:=jO s.heap a vs }) ⟨rfl,rfl⟩) (λF3 aP ⟨av,aC⟩=>?_) λ_ _ z=>z.elim);subst av aC;have tree:(kas_sort vs.length).kasWp (kas_ask prog w A F3 vs) (λp aP=>aP={ s with heap:=jO s.heap a vs }/\Row vs.length p/\m7 lt p vs.length) { s with heap:=jO s.heap a vs }:=
   f5.wp (W:=λaP=>aP={ s with heap:=jO s.heap a vs }) (λi j C aP aB aR ws fF=>by subst ws;exact ask i j C aB aR (fF _ rfl)) rfl ((XS O (by omega)).imp λp aH aP ws=>⟨ws,aH⟩)
  refine ajV (akH (kat_run (Q:=λst aP=>∃p:Array Nat,aP={ s with heap:=jO s.heap a vs }/\(arrOf st).map (·.2)=amj (p.toList.map λi=>vs.getD i alf)/\failedOf st=none/\Row vs.length p/\m7 lt p vs.length)
   rfl Pj jg (λp st aP _ aC c4 ⟨fD,lz,oi⟩=>⟨p,fD,kat_snds rfl aC,c4,lz,oi⟩) tree) ?_ λ_ _ e=>e)
  rintro⟨⟨⟩,st⟩ aP ⟨p,rfl,out,ok,R,S⟩;dsimp only;rw[out];refine ajV (anN mid rfl (ajV (amq mid rfl ?_ (akm _) ?_)))
  .rw[ok]
   simp only[bne_self_eq_false,amv,if_false];exact aj1 (fin p R S)
  .rw[aka,ajX,akR,R.lR,ako];omega
end
end aZ
namespace aZ
open PySem PySem.Spec aE
def gh(b:Bool)(h:Heap)(i l:Addr)(k:Nat):Prop:=match b with
 |true=>h.IsTupleIter i l k|false=>h.IsListIter i l k
def i'(b:Bool)(h:Heap)(l:Addr)(xs:Array Value):Prop:=match b with
 |true=>h.IsTuple l xs|false=>h.IsList l xs
def gh.extBut(x:gh b h a l i)(aj:Heap.ExtBut c h h')(vu:a≠c):gh b h' a l i:=by
 cases b with
 |true=>exact Heap.IsTupleIter.extBut x aj vu|false=>exact Heap.IsListIter.extBut x aj vu
def i'.extBut(x:i' b h a xs)(aj:Heap.ExtBut c h h')(vu:a≠c):i' b h' a xs:=by
 cases b with
 |true=>exact Heap.IsTuple.extBut x aj vu|false=>exact Heap.IsList.extBut x aj vu
def gh.obj{h:Heap}(x:gh b h a l i):∃o vs,h.get? a=some o/\o.data=.fields vs:=by
 cases b with
 |true=>obtain⟨o,e,_,d⟩:=x;exact⟨o,_,e,d⟩
 |false=>obtain⟨o,e,_,d⟩:=x;exact⟨o,_,e,d⟩
def gh.at'{h h':Heap}(x:gh b h a l i)(k:∀o,h.get? a=some o->h'.get? a=some o):gh b h' a l i:=by
 cases b with
 |true=>obtain⟨o,e,r⟩:=x;exact⟨o,k o e,r⟩
 |false=>obtain⟨o,e,r⟩:=x;exact⟨o,k o e,r⟩
def i'.obj{h:Heap}(x:i' b h a xs):∃o n,h.get? a=some o/\o.data=.seq xs n:=by
 cases b with
 |true=>obtain⟨o,e,_,n,d⟩:=x;exact⟨o,n,e,d⟩
 |false=>obtain⟨o,e,_,n,d⟩:=x;exact⟨o,n,e,d⟩
section
variable{prog:akh}{w:World}{A:akl}{E:cB}{s:ajZ}
def Ec{b:Bool}{it l:Addr}{i:Nat}{items:Array Value}{x:Value}{Q:cB}(hit:gh b s.heap it l i)(ar:i' b s.heap l items)(ag:items[i]? = some x)
  (iS:∀h',gh b h' it l (i+1)->anu it s.heap h'->Q x { s with heap:=h' }):wpAny (model prog w) A (ak2 (.ref it)) Q E s:=by
 cases b with
 |false=>exact wpAny_nextOf_list_item hit ar ag iS|true=>
  have hit:s.heap.IsTupleIter it l i:=hit;obtain⟨o,a',aD,hd⟩:=id hit;obtain⟨ol,C4,_,nl,vz⟩:=ar;unfold ak2;refine ajV (alB (name:=aki "__next__") hit.typeIs al6 (amh al6 hit.typeIs an1 ?_ (anM _)));show wpAny _ _ (field (.ref it) 0 >>= _) _ _ s;refine ajV (aln a' hd (x:=.ref l) rfl ?_);show wpAny _ _ (if(aks l==alf)=true then _ else _) _ _ s;rw[if_neg (show ¬((aks l==alf)=true)from aj6)];show wpAny _ _ (field (.ref it) 1 >>= _) _ _ s;refine ajV (aln a' hd (x:=.int i 0) rfl ?_);show wpAny _ _ (amw (.ref l) >>= _) _ _ s;refine ajV (ak5 C4 vz ?_);simp only[aob,ag];refine ajV (wpAny_setField a' hd (by simp) (aj1 ⟨x,rfl,aj1 (iS _ ?_ (ali ..))⟩));exact⟨_,Heap.get?_update_self _ a' (Obj.isFreed_of_fields (Obj.data_mapFields hd _)),(Obj.cls_mapFields ..).trans aD,by rw[Obj.data_mapFields hd];simp[al8]⟩
def Mg{b:Bool}{it l:Addr}{i:Nat}{items:Array Value}{Q:cB}(d7:A.handled=none)(hit:gh b s.heap it l i)(ar:i' b s.heap l items)(ag:items[i]? = none)
  (JK:∀h' e,Heap.ExtBut it s.heap h'->(∃o,h'.get? e=some o/\o.cls=.type "StopIteration")->E (.ref e) { s with heap:=h' }):wpAny (model prog w) A (ak2 (.ref it)) Q E s:=by
 cases b with
 |false=>exact wpAny_nextOf_list_end d7 hit ar ag JK|true=>
  have hit:s.heap.IsTupleIter it l i:=hit;obtain⟨o,a',aD,hd⟩:=id hit;obtain⟨ol,C4,_,nl,vz⟩:=ar;unfold ak2;refine ajV (alB (name:=aki "__next__") hit.typeIs al6 (amh al6 hit.typeIs an1 ?_ (anM _)));show wpAny _ _ (field (.ref it) 0 >>= _) _ _ s;refine ajV (aln a' hd (x:=.ref l) rfl ?_);show wpAny _ _ (if(aks l==alf)=true then _ else _) _ _ s;rw[if_neg (show ¬((aks l==alf)=true)from aj6)];show wpAny _ _ (field (.ref it) 1 >>= _) _ _ s;refine ajV (aln a' hd (x:=.int i 0) rfl ?_);show wpAny _ _ (amw (.ref l) >>= _) _ _ s;refine ajV (ak5 C4 vz ?_);simp only[aob,ag];refine ajV (anA (ajV (wpAny_setField a' hd (by simp) ?_)));show wpAny _ _ (newExc (.type "StopIteration") [] >>= _) _ _ _;refine ajV ?_;simp only[newExc,newTuple];refine ajV (alR ?_ (by size_fits));refine ajV (m:=firstArgMember _ _) (wpAny_of_eq (a:=alf) (by first|rfl|(simp only[firstArgMember];rfl)) ?_);refine alR ?_ (by size_fits);simp only[raiseNew];refine ajV (wpAny_handled ?_)
  first|rw[show A.in1.handled=none from d7]|rw[d7]
  refine ajV (aj1 (wpAny_throw ?_));exact JK _ _ (((ali ..).extBut.push _).push _) ⟨_,akb _ rfl,rfl⟩
end
section
variable{prog:akh}{w:World}{A:akl}{E:cB}{s:ajZ}
def ahX{b2 b3:Bool}{z TI dX ft fN cb cz:Addr}{gS f_:Nat}{xs ys:Array Value}{x y a b:Value}{Q:Option Value->ajZ->Prop}(D:ZipApart z TI dX ft fN cb cz)
  (hz:IsZip s.heap z TI dX .none) (kO:amk s.heap TI (.ref ft) (.ref fN)) (lE:amk s.heap dX a b)
  (ae:gh b2 s.heap ft cb gS) (ah:gh b3 s.heap fN cz f_) (lG:i' b2 s.heap cb xs) (ia:i' b3 s.heap cz ys) (ag:xs[gS]? = some x) (ba:ys[f_]? = some y)
  (iS:∀h',IsZip h' z TI dX (al8 s.heap.objs.size)->amk h' dX x y->gh b2 h' ft cb (gS+1)->gh b3 h' fN cz (f_+1)->amk h' s.heap.objs.size x y->
   (∀c o,c≠z->c≠dX->c≠ft->c≠fN->s.heap.get? c=some o->h'.get? c=some o)->Q (some (.ref s.heap.objs.size)) { s with heap:=h' }) :
  wpAny (model prog w) A (ams (.ref z)) Q E s:=by
 have fG:s.TypeIs (.ref z) "zip":=⟨_,hz,rfl⟩;unfold ams;refine ajV (wpAny_attempt (alB (name:=aki "__next__") fG anD (amh anD fG F.entry_zip_next ?_ (F.args_zip_next_1 _))));show wpAny _ _ (field (.ref z) 2 >>= _) _ _ _;refine ajV (aln hz rfl (x:=.bool false) rfl ?_);show wpAny _ _ (field (.ref z) 3 >>= _) _ _ _;refine ajV (aln hz rfl (x:=.ref TI) rfl ?_);refine ajV (ak5 kO rfl ?_);show wpAny _ _ (alz (.ref z) >>= _) _ _ _;refine ajV ?_;unfold alz;refine ajV (aln hz rfl (x:=.none) rfl (aj1 ?_));simp only[if_true];refine ajV (anA ?_);refine ajV (aln hz rfl (x:=.ref dX) rfl ?_);refine ajV (alZ hz (by simp) λkR p' iV=>?_)
 replace p':IsZip kR z TI dX .ellipsis:=p'
 refine ajV ?_;simp only[List.zipIdx_cons,List.zipIdx_nil,aoK,List.forIn_nil];refine ajV (ajV (an9 ?_));show wpAny _ _ (ak2 (.ref ft) >>= _) _ _ _;refine ajV (Ec (ae.extBut iV.extBut D.i1z) (lG.extBut iV.extBut D.l1z) ag λmG JI jN=>aj1 ?_);have vt:amk mG dX a b:=jN.extBut _ _ D.TOi1 (iV.extBut _ _ D.TOz lE);refine ajV (ak5 vt rfl ?_);refine ajV (anE vt λoH yQ j6=>?_)
 replace yQ:amk oH dX x b:=yQ
 refine ajV (alG (aj1 ?_));refine ajV (ajV (an9 ?_));show wpAny _ _ (ak2 (.ref fN) >>= _) _ _ _;refine ajV (Ec (((ah.extBut iV.extBut D.i2z).extBut jN.extBut D.i12.symm).extBut j6.extBut D.TOi2.symm)
  (((ia.extBut iV.extBut D.l2z).extBut jN.extBut D.l2i1).extBut j6.extBut D.l2TO) ba λvM Wj p9=>aj1 ?_)
 have JO:amk vM dX x b:=p9.extBut _ _ D.TOi2 yQ;refine ajV (ak5 JO rfl ?_);refine ajV (anE JO λiD yR p_=>?_)
 replace yR:amk iD dX x y:=yR
 refine ajV (alG (aj1 (aj1 ?_)));refine ajV (ak5 yR rfl ?_);refine ajV (wpAny_newTuple ?_);have hsz:iD.objs.size=s.heap.objs.size:=by rw[p_.1,p9.1,j6.1,jN.1,iV.1]
 have Ks:IsZip iD z TI dX .ellipsis:=p_.extBut _ _ D.TOz.symm (p9.extBut _ _ D.i2z.symm (j6.extBut _ _ D.TOz.symm (jN.extBut _ _ D.i1z.symm p')));have Yl:∀c o,c≠z->c≠dX->c≠ft->c≠fN->s.heap.get? c=some o->iD.get? c=some o:=λc o bL af j0 uU e=>
  p_.extBut _ _ af (p9.extBut _ _ uU (j6.extBut _ _ af (jN.extBut _ _ j0 (iV.extBut _ _ bL e))))
 have Wh:gh b2 iD ft cb (gS+1):=((JI.extBut j6.extBut D.TOi1.symm).extBut p9.extBut D.i12).extBut p_.extBut D.TOi1.symm;have Wk:gh b3 iD fN cz (f_+1):=Wj.extBut p_.extBut D.TOi2.symm;have Kp:z<iD.objs.size:=ake Ks;show wpAny _ _ (am4 (.ref z) (.ref iD.objs.size) >>= _) _ _ _;refine ajV ?_;unfold am4;have YI:IsZip (iD.push { cls:=.type "tuple",data:=.seq #[x,y] }) z TI dX .ellipsis:=ajW _ Ks;refine ajV (alZ YI (by simp) λYL Dc Km=>?_)
 replace Dc:IsZip YL z TI dX (al8 iD.objs.size):=Dc
 refine alZ Dc (by simp) λy6 y5 Kn=>?_
 replace y5:IsZip y6 z TI dX (al8 iD.objs.size):=y5
 have up:∀c o,c≠z->iD.get? c=some o->y6.get? c=some o:=λc o bL e=>Kn.extBut _ _ bL (Km.extBut _ _ bL (ajW _ e))
 have JP:amk y6 iD.objs.size x y:=Kn.extBut _ _ (Nat.ne_of_gt Kp) (Km.extBut _ _ (Nat.ne_of_gt Kp) (akb _ rfl));rw[hsz]at y5 JP;refine aj1 ⟨_,rfl,?_⟩;show wpAny _ _ (pure (some (aks iD.objs.size))) _ _ _;rw[hsz];exact aj1 (iS y6 y5 (up _ _ D.TOz yR) (Wh.at' λo e=>up _ o D.i1z e) (Wk.at' λo e=>up _ o D.i2z e) JP λc o bL af j0 uU e=>up c o bL (Yl c o bL af j0 uU e))
def ahW{b2 b3:Bool}{z TI dX ft fN cb cz:Addr}{gS f_:Nat}{xs ys:Array Value}{a b:Value}{Q:Option Value->ajZ->Prop}(d7:A.handled=none)(D:ZipApart z TI dX ft fN cb cz)
  (hz:IsZip s.heap z TI dX .none) (kO:amk s.heap TI (.ref ft) (.ref fN)) (lE:amk s.heap dX a b)
  (ae:gh b2 s.heap ft cb gS) (ah:gh b3 s.heap fN cz f_) (lG:i' b2 s.heap cb xs) (ia:i' b3 s.heap cz ys) (X9:xs[gS]? = none\/ys[f_]? = none)
  (iS:∀h',(∀c o,c≠z->c≠dX->c≠ft->c≠fN->s.heap.get? c=some o->h'.get? c=some o)->Q none { s with heap:=h' }):wpAny (model prog w) A (ams (.ref z)) Q E s:=by
 have fG:s.TypeIs (.ref z) "zip":=⟨_,hz,rfl⟩;have fin:∀h' e,(∀c o,c≠z->c≠dX->c≠ft->c≠fN->s.heap.get? c=some o->h'.get? c=some o)->(∃o,h'.get? e=some o/\o.cls=.type "StopIteration")->
   wpAny (model prog w) A (do
    if <-isInstance (.ref e) (.type "StopIteration")then pure none else throw (.ref e)) Q E { s with heap:=h' }:=λh' e aw aW=>by
  obtain⟨o,a',aD⟩:=aW;refine ajV (wpAny_isInstance (T:="StopIteration") (b:=true) ⟨o,a',aD⟩ isSubtype_stop ?_);exact aj1 (iS _ aw)
 unfold ams;refine ajV (wpAny_attempt (alB (name:=aki "__next__") fG anD (amh anD fG F.entry_zip_next ?_ (F.args_zip_next_1 _))));show wpAny _ _ (field (.ref z) 2 >>= _) _ _ _;refine ajV (aln hz rfl (x:=.bool false) rfl ?_);show wpAny _ _ (field (.ref z) 3 >>= _) _ _ _;refine ajV (aln hz rfl (x:=.ref TI) rfl ?_);refine ajV (ak5 kO rfl ?_);show wpAny _ _ (alz (.ref z) >>= _) _ _ _;refine ajV ?_;unfold alz;refine ajV (aln hz rfl (x:=.none) rfl (aj1 ?_));simp only[if_true];refine ajV (anA ?_);refine ajV (aln hz rfl (x:=.ref dX) rfl ?_);refine ajV (alZ hz (by simp) λkR p' iV=>?_)
 replace p':IsZip kR z TI dX .ellipsis:=p'
 refine ajV ?_;simp only[List.zipIdx_cons,List.zipIdx_nil,aoK,List.forIn_nil];refine ajV (ajV (an9 ?_));show wpAny _ _ (ak2 (.ref ft) >>= _) _ _ _
 cases ag:xs[gS]? with
 |none=>
  refine ajV (Mg d7 (ae.extBut iV.extBut D.i1z) (lG.extBut iV.extBut D.l1z) ag λmG e jN he=>?_);obtain⟨wA,rt,vx⟩:=he;have Kq:IsZip mG z TI dX .ellipsis:=jN _ _ D.i1z.symm p';have CT:e≠z:=λx=>by subst x;rw[Kq]at rt;cases rt;simp at vx
  exact alZ Kq (by simp) λoH _ j6=>fin oH e (λc o bL _ j0 _ x=>j6.extBut _ _ bL (jN _ _ j0 (iV.extBut _ _ bL x))) ⟨wA,j6.extBut _ _ CT rt,vx⟩
 |some x=>
  have ba:ys[f_]? = none:=by rcases X9 with h|h;rw[ag]at h;cases h;exact h
  refine ajV (Ec (ae.extBut iV.extBut D.i1z) (lG.extBut iV.extBut D.l1z) ag λmG JI jN=>aj1 ?_);have vt:amk mG dX a b:=jN.extBut _ _ D.TOi1 (iV.extBut _ _ D.TOz lE);refine ajV (ak5 vt rfl ?_);refine ajV (anE vt λoH yQ j6=>?_);refine ajV (alG (aj1 ?_));refine ajV (ajV (an9 ?_));show wpAny _ _ (ak2 (.ref fN) >>= _) _ _ _;refine ajV (Mg d7 (((ah.extBut iV.extBut D.i2z).extBut jN.extBut D.i12.symm).extBut j6.extBut D.TOi2.symm)
   (((ia.extBut iV.extBut D.l2z).extBut jN.extBut D.l2i1).extBut j6.extBut D.l2TO) ba λvM e p9 he=>?_)
  obtain⟨wA,rt,vx⟩:=he;have Kr:IsZip vM z TI dX .ellipsis:=p9 _ _ D.i2z.symm (j6.extBut _ _ D.TOz.symm (jN.extBut _ _ D.i1z.symm p'));have CT:e≠z:=λx=>by subst x;rw[Kr]at rt;cases rt;simp at vx
  exact alZ Kr (by simp) λiD _ p_=>fin iD e (λc o bL af j0 uU x=>p_.extBut _ _ bL (p9 _ _ uU (j6.extBut _ _ af (jN.extBut _ _ j0 (iV.extBut _ _ bL x))))) ⟨wA,p_.extBut _ _ CT rt,vx⟩
end
section
variable{X:aS}{zn:c2}{Y:St}{H:ax}{s:ajZ}{h':Heap}
def Inv.Ph{t':Nat}{ch:List Addr}(I:Inv X zn Y H s)(k:∀b o,b∉ch->s.heap.get? b=some o->h'.get? b=some o)(hf:∀b∈ch,gw X zn H b):Inv X zn Y H { s with heap:=h',toks:=t' }:=by
 have wm:∀b u,H b=some u->b∉ch:=λb u e z=>by rw[(hf b z).1]at e;cases e
 refine I.step (g':=s.gens) (d':=s.drawn) (ch:=ch) (λb ab=>?_) (λb o _ _ aD e _=>k b o aD e) (λb o _ _ aD e _=>⟨o.slots,k b o aD e⟩) (λ_ _ _ _ n=>n)
  (λb o aD e=>⟨o,k b o aD e⟩) (λ_ _ e=>e) (λ_ _ _ e=>e) (λb ps e=>⟨#[],by rw[e];simp⟩) (λm hm=>?_) (λb u e=>?_) I.bare
 .obtain⟨_,f1,_,gO,f4,gP⟩:=hf b ab
  exact⟨gO,f1,f4,gP⟩
 .obtain⟨o,ay,cf,a',r⟩:=hm
  exact⟨o,ay,cf,k _ o (λz=>(hf _ z).2.1 rfl) a',r⟩
 .refine(I.bO b u e).r9 (λc v aD q=>k c v ?_ q) (λ_ q=>q) λ_ _ q=>q
  rcases aD with z|z
  .rw[z];exact wm b u e
  .exact wm c _ z
end
def h5(b:Bool)(K:aT)(H:ax)(a:Addr)(xs:List V):Prop:=match b with
 |true=>dD K H a xs|false=>dk K H a xs
def Inv.dI{s:ajZ}(I:Inv X zn Y H s)(h:h5 b X.K H a xs):∃its:List Value,Vals xs its/\i' b s.heap a its.toArray:=by
 cases b with
 |true=>obtain⟨its,r,p,_⟩:=I.tuple h;exact⟨its,r,p⟩
 |false=>obtain⟨its,r,p,_⟩:=I.list h;exact⟨its,r,p.isList⟩
def Inv.OO(I:Inv X zn Y H s)(h:h5 b X.K H a xs)(h':h5 b X.K H a ys):xs=ys:=by
 cases b with
 |true=>exact I.Pf h h'|false=>exact I.Ly h h'
def Gi(K:aT)(b2 b3:Bool)(cb cz:Addr):iu:=
  ⟨λi H=>(∃xs x,h5 b2 K H cb xs/\xs[i]? = some x)/\∃ys y,h5 b3 K H cz ys/\ys[i]? = some y,
   λi H x H'=>∃u v T,x=.ref T/\H T=none/\H'=upd H T (.t [u,v])/\(∀xs,h5 b2 K H cb xs->xs[i]? = some u)/\∀ys,h5 b3 K H cz ys->ys[i]? = some v,
   λi H=>∃xs ys,h5 b2 K H cb xs/\h5 b3 K H cz ys/\(xs.length<=i\/ys.length<=i)⟩
def afV{eV:Nat}(b2 b3:Bool){z TI dX ft fN cb cz:Addr}(D:ZipApart z TI dX ft fN cb cz):Turn P w K (.Tuple elts eV d2) (Gi K b2 b3 cb cz) [z,TI,dX,ft,fN] z
  (λi h=>IsZip h z TI dX .none/\amk h TI (.ref ft) (.ref fN)/\(∃a b,amk h dX a b)/\gh b2 h ft cb i/\gh b3 h fN cz i) where
 mem:=by simp
 obj:=λi h st b ab=>by
  obtain⟨hz,kO,⟨x,y,lE⟩,ae,ah⟩:=st;rcases aj5.mp ab with rfl|ab
  .exact⟨_,hz,λv z=>by cases z⟩
  rcases aj5.mp ab with rfl|ab
  .exact⟨_,kO,λv z=>by cases z⟩
  rcases aj5.mp ab with rfl|ab
  .exact⟨_,lE,λv z=>by cases z⟩
  rcases aj5.mp ab with rfl|ab
  .obtain⟨o,vs,e,d⟩:=ae.obj;exact⟨o,e,λv z=>by rw[d]at z;cases z⟩
  rcases aj5.mp ab with rfl|ab
  .obtain⟨o,vs,e,d⟩:=ah.obj;exact⟨o,e,λv z=>by rw[d]at z;cases z⟩
  cases ab
 keep:=λi h h' ⟨hz,kO,⟨x,y,lE⟩,ae,ah⟩ k=>⟨k z (by simp) _ hz,k TI (by simp) _ kO,⟨x,y,k dX (by simp) _ lE⟩,ae.at' λo e=>k ft (by simp) o e,ah.at' λo e=>k fN (by simp) o e⟩
 item:=by
  rintro X ej hw ht aD i zn s Y H E I hf ⟨hz,kO,⟨xT,ho,lE⟩,ae,ah⟩ ⟨⟨xs,x,a8,ag⟩,⟨ys,y,aA,ba⟩⟩;subst ej hw ht;obtain⟨its,bP,p⟩:=Inv.dI I a8;obtain⟨KP,jn,q⟩:=Inv.dI I aA;obtain⟨u,cy,d9⟩:=bP.get ag;obtain⟨v,bI,adf⟩:=jn.get ba;have X_:∀b∈[z,dX,ft,fN],b∈[z,TI,dX,ft,fN]:=λb ab=>by simp at ab ⊢;rcases ab with h|h|h|h<;>simp[h]
  refine ahX D hz kO lE ae ah p q (x:=u) (y:=v) (by simpa using cy) (by simpa using bI) λh' a1 a2 eH hl jC aw=>⟨_,rfl,wpAny_letOwnedTupleGo_zip a1 λWf YG vH=>?_⟩
  have aF:=I.bO.fresh (aj0 s.heap.objs.size);have zx:=ake hz;have zw:=ake lE;have rH:ft<s.heap.objs.size:=by obtain⟨_,_,e,_⟩:=ae.obj;exact ake e
  have rI:fN<s.heap.objs.size:=by obtain⟨_,_,e,_⟩:=ah.obj;exact ake e
  have ia:Vals [x,y] [u,v]:=.cons d9 (.cons adf .nil);have a9:Inv X zn Y (upd H s.heap.objs.size (.t [x,y])) { s with heap:=s.heap.push { cls:=.type "tuple",data:=.seq #[u,v] } }:=
   I.laid (t':=s.toks) (λb u e=>ajW _ e) (aj0 _) ⟨by rw[ako];show 2<=_;decide,[u,v],ia,⟨_,akb _ rfl,rfl,_,rfl⟩⟩
  have bU:Inv X zn Y (upd H s.heap.objs.size (.t [x,y])) { s with heap:=Wf }:=by
   refine Inv.Ph (s:={ s with heap:=s.heap.push { cls:=.type "tuple",data:=.seq #[u,v] } }) (ch:=[z,dX,ft,fN]) (t':=s.toks) a9 (λb o ab e=>?_) λb ab=>?_
   .have Eg:b≠z:=λq=>ab (by simp[q])
    refine vH.extBut _ _ Eg ?_;rcases Heap.get?_push_cases e with⟨rfl,rfl⟩|e
    .exact jC
    .exact aw b o Eg (λq=>ab (by simp[q])) (λq=>ab (by simp[q])) (λq=>ab (by simp[q])) e
   .obtain⟨f0,f⟩:=hf b (X_ b ab)
    refine⟨?_,f⟩;rw[dj]
    .exact f0
    .rintro rfl
     simp at ab;rcases ab with h|h|h|h
     .rw[<-h]at zx;exact akI _ zx
     .rw[<-h]at zw;exact akI _ zw
     .rw[<-h]at rH;exact akI _ rH
     .rw[<-h]at rI;exact akI _ rI
  refine⟨.ref s.heap.objs.size,_,bU,rfl,⟨x,y,_,rfl,aF,rfl,λxr h'=>by rw[Inv.OO I h' a8];exact ag,λahn h'=>by rw[Inv.OO I h' aA];exact ba⟩,
   ⟨YG,vH.extBut _ _ D.TIz (aw _ _ D.TIz D.TITO D.TIi1 D.TIi2 kO),⟨_,_,vH.extBut _ _ D.TOz a2⟩,eH.extBut vH.extBut D.i1z,hl.extBut vH.extBut D.i2z⟩,λb ab=>?_⟩
  rw[dj]
  .exact(hf b ab).1
  .rintro rfl
   have ltI:=ake kO;simp at ab;rcases ab with h|h|h|h|h
   .rw[<-h]at zx;exact akI _ zx
   .rw[<-h]at ltI;exact akI _ ltI
   .rw[<-h]at zw;exact akI _ zw
   .rw[<-h]at rH;exact akI _ rH
   .rw[<-h]at rI;exact akI _ rI
 done:=by
  rintro X ej hw ht aD i zn s Y H E I hf ⟨hz,kO,⟨xT,ho,lE⟩,ae,ah⟩ ⟨xs,ys,a8,aA,ar⟩;subst ej hw ht;obtain⟨its,bP,p⟩:=Inv.dI I a8;obtain⟨KP,jn,q⟩:=Inv.dI I aA;have av:=bP.length;have aC:=jn.length;refine ahW (I.ok.hd aD) D hz kO lE ae ah p q ?_ λh' aw=>⟨rfl,?_⟩
  .rcases ar with ar|ar
   .exact .inl (by simp;omega)
   .exact .inr (by simp;omega)
  .refine Inv.Ph (ch:=[z,dX,ft,fN]) (t':=s.toks) I (λb o ab e=>aw b o (λq=>ab (by simp[q])) (λq=>ab (by simp[q])) (λq=>ab (by simp[q])) (λq=>ab (by simp[q])) e) λb ab=>hf b ?_
   simp at ab ⊢;rcases ab with h|h|h|h<;>simp[h]
 self:=λ_ _ _ _ _ ⟨hz,_⟩ h=>wpAny_pyIter_zip hz h
def za(b:Bool)(l:Addr):Obj:=match b with
 |true=>{ cls:=.type "tuple_iterator",data:=.fields #[.ref l,.int 0 0] }
 |false=>{ cls:=.type "list_iterator",data:=.fields #[.ref l,.int 0 0] }
abbrev AN(b2:Bool)(h:Heap)(cb:Addr):Heap:=h.push (za b2 cb)
abbrev AO(b2 b3:Bool)(h:Heap)(cb cz:Addr):Heap:=(AN b2 h cb).push (za b3 cz)
abbrev AP(b2 b3:Bool)(h:Heap)(cb cz:Addr):Heap:=(AO b2 b3 h cb cz).push { cls:=.type "tuple",data:=.seq #[.ref h.objs.size,.ref (AN b2 h cb).objs.size] }
abbrev AQ(b2 b3:Bool)(h:Heap)(cb cz:Addr):Heap:=(AP b2 b3 h cb cz).push { cls:=.type "tuple",data:=.seq #[.none,.none] }
abbrev uw(b2 b3:Bool)(h:Heap)(cb cz:Addr):Heap:=(AQ b2 b3 h cb cz).push { cls:=.type "zip",data:=.fields #[.none,.bool false,.bool false,.ref (AO b2 b3 h cb cz).objs.size,.ref (AP b2 b3 h cb cz).objs.size] }
def aar(b2 b3:Bool)(cb cz:Addr)(xs ys:Array Value) :
  Meets (anL.«zip.__new__» ⟨[.type "zip",.ref cb,.ref cz],[]⟩) (λ_ R s=>i' b2 s.heap cb xs/\i' b3 s.heap cz ys/\
   R (.ok (.ret (.ref (AQ b2 b3 s.heap cb cz).objs.size))) { s with heap:=uw b2 b3 s.heap cb cz }):=by
 cases b2 with
 |false=>
  cases b3 with
  |false=>exact meets_zip_new cb cz xs ys|true=>
   refine .of_wp λprog w A R s h=>?_
   obtain⟨aH,g,d,tk,os⟩:=s;obtain⟨lG,ia,h⟩:=h;have Kl:=sub_zip;have vq:Heap.IsList (anh ⟨aH,g,d,tk,os⟩) cb xs:=lG;have vr:aoA (anh ⟨aH.push { cls:=.type "list_iterator",data:=.fields #[.ref cb,.int 0 0] },g,d,tk,os⟩) cz ys:=ao9 ia _
   wp_walk using alQ vq,amt vr
   exact⟨_,rfl,h⟩
 |true=>
  cases b3 with
  |false=>
   refine .of_wp λprog w A R s h=>?_
   obtain⟨aH,g,d,tk,os⟩:=s;obtain⟨lG,ia,h⟩:=h;have Kl:=sub_zip;have vq:aoA (anh ⟨aH,g,d,tk,os⟩) cb xs:=lG;have vr:Heap.IsList (anh ⟨aH.push { cls:=.type "tuple_iterator",data:=.fields #[.ref cb,.int 0 0] },g,d,tk,os⟩) cz ys:=Heap.IsList.push ia _
   wp_walk using amt vq,alQ vr
   exact⟨_,rfl,h⟩
  |true=>
   refine .of_wp λprog w A R s h=>?_
   obtain⟨aH,g,d,tk,os⟩:=s;obtain⟨lG,ia,h⟩:=h;have Kl:=sub_zip;have vq:aoA (anh ⟨aH,g,d,tk,os⟩) cb xs:=lG;have vr:aoA (anh ⟨aH.push { cls:=.type "tuple_iterator",data:=.fields #[.ref cb,.int 0 0] },g,d,tk,os⟩) cz ys:=ao9 ia _
   wp_walk using amt vq,amt vr
   exact⟨_,rfl,h⟩
def gh.new{h:Heap}(e:h.get? a=some (za b l)):gh b h a l 0:=by
 cases b with
 |true=>exact⟨_,e,rfl,rfl⟩|false=>exact⟨_,e,rfl,rfl⟩
section
variable{prog:akh}{w:World}{A:akl}{E:cB}{s:ajZ}
def Tv{b2 b3:Bool}{cb cz:Addr}{xs ys:Array Value}{Q:cB}(lG:i' b2 s.heap cb xs)(ia:i' b3 s.heap cz ys)
  (h:∀h',IsZip h' (s.heap.objs.size+4) (s.heap.objs.size+2) (s.heap.objs.size+3) .none->amk h' (s.heap.objs.size+2) (.ref s.heap.objs.size) (.ref (s.heap.objs.size+1))->
   amk h' (s.heap.objs.size+3) .none .none->gh b2 h' s.heap.objs.size cb 0->gh b3 h' (s.heap.objs.size+1) cz 0->
   (∀c o,s.heap.get? c=some o->h'.get? c=some o)->Q (.ref (s.heap.objs.size+4)) { s with heap:=h' }) :
  wpAny (model prog w) A (call (.type "zip") [.ref cb,.ref cz]) Q E s:=by
 refine callType_new F.called_zip (by decide) (F.typeCall_zip_2 _ _) (F.newCall_zip_2 _ _) (λobj=>F.args_object_init_3 obj _ _) F.entry_zip_new (aar b2 b3 cb cz xs ys) ⟨lG,ia,?_⟩;have e8:(AN b2 s.heap cb).objs.size=s.heap.objs.size+1:=amd ..;have eb:(AO b2 b3 s.heap cb cz).objs.size=s.heap.objs.size+2:=by rw[amd,e8]
 have l0:(AP b2 b3 s.heap cb cz).objs.size=s.heap.objs.size+3:=by rw[amd,eb]
 have m4:(AQ b2 b3 s.heap cb cz).objs.size=s.heap.objs.size+4:=by rw[amd,l0]
 have f1:∀b l,(za b l).isFreed=false:=λb l=>by cases b<;>rfl
 have Cu:(uw b2 b3 s.heap cb cz).get? (AQ b2 b3 s.heap cb cz).objs.size=some _:=akb _ rfl;have nz:(uw b2 b3 s.heap cb cz).get? (AP b2 b3 s.heap cb cz).objs.size=some _:=ajW _ (akb _ rfl);have g3:(uw b2 b3 s.heap cb cz).get? (AO b2 b3 s.heap cb cz).objs.size=some _:=ajW _ (ajW _ (akb _ rfl));have g2:(uw b2 b3 s.heap cb cz).get? (AN b2 s.heap cb).objs.size=some _:=ajW _ (ajW _ (ajW _ (akb _ (f1 _ _))));have g1:(uw b2 b3 s.heap cb cz).get? s.heap.objs.size=some _:=ajW _ (ajW _ (ajW _ (ajW _ (akb _ (f1 _ _)))));show _/\_;rw[eb,l0,m4]at Cu;rw[e8,eb]at g3;rw[l0]at nz;rw[e8]at g2;rw[m4];exact⟨⟨_,Cu,rfl⟩,h _ Cu g3 nz (.new g1) (.new g2) λc o x=>
  ajW _ (ajW _ (ajW _ (ajW _ (ajW _ x))))⟩
end
def y7(K:aT)(bT:gj):TI:=λY H R=>bT Y H λvs H1=>∃b2 b3 cb cz,vs=[.ref cb,.ref cz]/\(∃xs,h5 b2 K H1 cb xs)/\(∃ys,h5 b3 K H1 cz ys)/\R (Gi K b2 b3 cb cz) H1
def MI{X:aS}{elts:List Expr}{eV:Nat}{d2:Pos}{p pos:Pos}(aV:eF X "zip")(hm:X.mg "zip"=none)(ak:fM X [a,b] bT)(aj:ajY [a,b] X.env=[(false,eval a X.env),(false,eval b X.env)]:=by rfl)(kQ:ajY [b] X.env=[(false,eval b X.env)]:=by rfl) :
  kE X (.Tuple elts eV d2) (.Call (.Name "zip" p) [a,b] [] pos) (y7 X.K bT):=by
 intro zn s Y H R I h;refine PyProof.Rows.Call_ (rE I aV hm PyProof.Rows.boot_zip (amN (bV (ak pos zn s Y H _ I h) λus s1 ⟨vs,H1,a9,bB,bk⟩=>?_) (by rw[aj,kQ]) (by rw[kQ];rfl)));obtain⟨b2,b3,cb,cz,e,⟨xs,ag⟩,⟨ys,ba⟩,q⟩:=bk;subst e
 cases bB with
 |cons r bp=>
  cases bp with
  |cons bJ bp=>
   cases bp;cases r;cases bJ;obtain⟨its,bP,p1⟩:=Inv.dI a9 ag;obtain⟨KP,jn,dv⟩:=Inv.dI a9 ba;have rH:cb<s1.heap.objs.size:=by obtain⟨_,_,e,_⟩:=p1.obj;exact ake e
   have rI:cz<s1.heap.objs.size:=by obtain⟨_,_,e,_⟩:=dv.obj;exact ake e
   refine Tv p1 dv λh' a1 a2 eH hl jC aw=>?_
   refine wpAny_pyIter_zip (s:={ s1 with heap:=h' }) a1 ?_;have D:ZipApart (s1.heap.objs.size+4) (s1.heap.objs.size+2) (s1.heap.objs.size+3) s1.heap.objs.size (s1.heap.objs.size+1) cb cz:=by
    have up:∀{l:Addr}(k:Nat),l<s1.heap.objs.size->l≠s1.heap.objs.size+k:=λk h=>akj (akB h (akW _ _))
    have rD:cb≠s1.heap.objs.size:=akj rH;have La:cz≠s1.heap.objs.size:=akj rI;have lU:=λk=>up k rH
    have hW:=λk=>up k rI
    generalize s1.heap.objs.size=n at rD La lU hW ⊢;constructor<;>first|exact lU 4|exact lU 3|exact rD|exact lU 1|exact hW 4|exact hW 3|exact La|exact hW 1|(show(_:Nat)≠_;omega)
   refine⟨s1.heap.objs.size+4,[s1.heap.objs.size+4,s1.heap.objs.size+2,s1.heap.objs.size+3,s1.heap.objs.size,s1.heap.objs.size+1],_,_,H1,rfl,a9.kept (t':=s1.toks) aw,afV b2 b3 D,⟨a1,a2,⟨_,_,eH⟩,hl,jC⟩,λc aD=>?_,q⟩;have le:s1.heap.objs.size<=c:=by
    simp at aD;rcases aD with rfl|rfl|rfl|rfl|rfl
    .exact akW _ _
    .exact akW _ _
    .exact akW _ _
    .exact aj0 _
    .exact akW _ _
   exact a9.pY le (a9.bO.fresh le)
end aZ
namespace aZ
open PySem PySem.Spec aE
variable[aE.a5]
def R.walk:R->Option (List D)
 |.v (.t xs)=>some xs|.v (.l xs)=>some xs|.fr xs=>some xs|.cu xs=>some xs|_=>none
def i4(xs ys:List D):List D:=(xs.zip ys).map λp=>.t [p.1,p.2]
def pN(b:Bool)(K:aT)(O:a0)(H:ax)(a:Addr)(ys:List V):Prop:=match b with
 |true=>dD K H a ys|false=>h1 K O H a ys
def pN.dI{O:a0}(h:pN b K O H a ys):h5 b K H a ys:=by
 cases b with
 |true=>exact h|false=>exact h1.dI h
def pN.aL{O ao:a0}(g:ei O ao H H')(h:pN b K O H a ys):pN b K ao H' a ys:=by
 cases b with
 |true=>exact g.xa h|false=>exact g.LD h
def AD{O:a0}{r:R}{v:V}(h:eN K mg O H r v)(n:jy H₀ r v)(e:r.walk=some xs):∃b a ys,v=.ref a/\pN b K (ck H₀ O) H a ys/\bc K mg (ck H₀ O) H xs ys:=by
 unfold R.walk at e;split at e
 .cases e;obtain⟨a,ys,q,l,r⟩:=h;exact⟨true,a,ys,q,l,r.du (je _ _)⟩
 .cases e
  obtain⟨a,ys,q,l,r⟩:=h;exact⟨false,a,ys,q,.inl ⟨.inl l.1,.inl ((je H₀ O).fr a l.2)⟩,r.du (je _ _)⟩
 .cases e
  obtain⟨a,ys,rfl,l,t,r⟩:=h;exact⟨false,a,ys,rfl,.inl ⟨.inl l,.inl (yH (n a rfl) t)⟩,r.du (je _ _)⟩
 .cases e
  obtain⟨a,ys,q,l,r⟩:=h;refine⟨false,a,ys,q,?_,r.du (je _ _)⟩;rcases l with⟨l,f⟩|l
  .refine .inl ⟨l,?_⟩
   rcases f with f|f
   .exact .inl ((je H₀ O).fr a f)
   .exact .inr (by rw[rg (by rw[f];intro z;cases z)];exact f)
  .exact .inr l
 .cases e
def qD(is:List Nat)(b:aX):D->aX:=λd Y=>match d with
 |.t ay=>if ay.length=is.length then b (kj is ay Y)else bad|_=>bad
def uv:List R->Option (List D)
 |[x,y]=>match x.walk,y.walk with
  |some xs,some ys=>some (i4 xs ys)|_,_=>none
 |_=>none
def sS(is:List Nat)(ms:c8)(b:aX):aX:=λY=>do
 let rs <-ms Y
 match uv rs with
 |some ds=>ha (qD is b) ds Y|none=>bad
def ahV(h:uv rs=some ds):∃x y xs ys,rs=[x,y]/\x.walk=some xs/\y.walk=some ys/\ds=i4 xs ys:=by
 unfold uv at h;split at h
 .rename_i x y
  split at h
  .rename_i xs ys av aC
   cases h;exact⟨x,y,xs,ys,rfl,av,aC,rfl⟩
  .cases h
 .cases h
def F1{xs ys:List D}{k:Nat}{d:D}{ds:List D}(e:(i4 xs ys).drop k=d::ds):∃x y,xs[k]? = some x/\ys[k]? = some y/\d=.t [x,y]/\(i4 xs ys).drop (k+1)=ds:=by
 have av:(i4 xs ys)[k]? = some d:=by
  have:=congrArg (·[0]?) e;simpa using this
 unfold i4 at av;rw[aku]at av
 cases mh:(xs.zip ys)[k]? with
 |none=>rw[mh]at av;cases av
 |some p=>
  rw[mh]at av;cases av;obtain⟨a,b⟩:=amY.mp mh;refine⟨p.1,p.2,a,b,rfl,?_⟩;have:=congrArg (anU 1) e;simpa[amL]using this
def ahT{xs ys:List D}{k:Nat}(e:(i4 xs ys).drop k=[]):xs.length<=k\/ys.length<=k:=by
 have:=congrArg alr e;unfold i4 at this;simp only[ak0,ajX,anB,akY]at this;omega
def VS{is:List Nat}:∀D au H,kn K mg (sS is ms b) D au H->r_ (y7 K (nX K mg ms)) (rh K is.length (jK is)) (kn K mg b) D au H:=by
 rintro D au H ⟨O,Y,S,a7,S',st,h,q⟩;obtain⟨rs,S1,ae,h⟩:=M.inv h
 cases mh:uv rs with
 |none=>rw[mh]at h;cases h
 |some ds=>
  .rw[mh]at h
   obtain⟨x,y,xs,ys,rfl,ex,fg,rfl⟩:=ahV mh;refine⟨O,Y,S,_,S1,st,ae,λaJ vs H1 g1 aU bp nn=>?_⟩;obtain⟨v1,bB,rfl,a4,v2,cq,rfl,bz,re⟩:=bp;cases re;obtain⟨b2,cb,us,rfl,s1,a1⟩:=AD (H₀:=H) a4 nn.1 ex;obtain⟨b3,cz,ws,rfl,s2,a2⟩:=AD (H₀:=H) bz nn.2.1 fg;have Ai:=aU.ck H;refine⟨b2,b3,cb,cz,rfl,⟨us,s1.dI⟩,⟨ws,s2.dI⟩,?_⟩;refine⟨λk m dg H'=>m=(i4 xs ys).length-k/\∃ao Y' hk,cN K mg ao Y' hk dg H'/\ei (ck H aJ) ao H1 H'/\eW Y Y' au dg/\(ha (qD is b) ((i4 xs ys).drop k) Y').run hk=.ok a7 S',⟨_,rfl,_,Y,S1,Ai,ei.refl _ _,eW.refl _ _,h⟩,?_⟩;rintro k m dg H' ⟨rfl,ao,Y',hk,cg,g',kp,h⟩;have E7:=pN.aL g' s1;have E8:=pN.aL g' s2
   cases e:(i4 xs ys).drop k with
   |nil=>
    rw[e]at h;cases h;refine .inl ⟨⟨us,ws,E7.dI,E8.dI,?_⟩,q ao dg H' (g1.ck.aL.trans g') cg kp⟩;rw[a1.len,a2.len];exact ahT e
   |cons d nk=>
    obtain⟨b7,I5,av,aC,rfl,cA⟩:=F1 e;obtain⟨u,jI,d9⟩:=(bc.aL g' a1).get av;obtain⟨v,ev,bP⟩:=(bc.aL g' a2).get aC;have fs:k<(i4 xs ys).length:=by
     have:=congrArg alr e;rw[ak0,akd]at this;omega
    rw[e]at h;obtain⟨f1,bh,ah,h⟩:=M.inv h;unfold qD at ah;dsimp only at ah
    by_cases c:[b7,I5].length=is.length
    .rw[if_pos c]at ah
     refine .inr ⟨⟨⟨us,u,E7.dI,jI⟩,⟨ws,v,E8.dI,ev⟩⟩,λhj aM=>∃bq dQ bh,cN K mg bq dQ bh hj aM/\ei (ck H aJ) bq H1 aM/\eW Y dQ au hj/\(ha (qD is b) ((i4 xs ys).drop (k+1)) dQ).run bh=.ok a7 S',?_,λx aM jU=>?_⟩
     .rintro hj aM ⟨bq,dQ,bh,e8,eb,l0,m4⟩
      exact⟨_,by omega,rfl,bq,dQ,bh,e8,eb,l0,m4⟩
     .obtain⟨u',fx,T,rfl,fG,rfl,tj,mD⟩:=jU
      have wR:=tj us E7.dI;rw[jI]at wR;cases wR;have wU:=mD ws E8.dI;rw[ev]at wU;cases wU;have iR:Go ao ao H' (upd H' T (.t [u,v])):=Go.fu fG;refine⟨T,[u,v],rfl,dD.of dy,by rw[<-c];rfl,AA (ds:=[b7,I5]) (cg.fu fG) ⟨u,[v],rfl,d9.go iR,v,[],rfl,bP.go iR,rfl⟩ c λkx mX bu=>?_⟩;refine⟨ao,_,hk,f1,bh,mX,ah,?_⟩
      cases f1 with
      |bj dQ=>exact λbq hj aM g2 cV f_=>⟨bq,dQ,bh,cV,g'.trans (iR.aL.trans g2),kp.trans (bu.trans f_),by rw[cA];exact h⟩
      |b5 dQ=>exact λbq hj aM g2 cV f_=>⟨bq,dQ,bh,cV,g'.trans (iR.aL.trans g2),kp.trans (bu.trans f_),by rw[cA];exact h⟩
      |c_ dQ=>cases h;exact λbq hj aM g2 cV f_=>q bq hj aM (g1.ck.aL.trans (g'.trans (iR.aL.trans g2))) cV (kp.trans (bu.trans f_))
      |cJ r=>cases h;exact λbq v aM g2 da aC cq=>q bq v aM (g1.ck.aL.trans (g'.trans (iR.aL.trans g2))) da aC cq
    .rw[if_neg c]at ah;cases ah
def TU{X:aS}{pos d2:Pos}{is:List Nat}{ay:List Expr}{k:Nat}{p dp:Pos}{a e2:Expr}{ms:c8}{body:List Stmt}{b:aX}(aH:anQ (model X.prog X.w) X.A X.env X.dV)(aD:X.calm=true)(ro:eF X "zip")(hm:X.mg "zip"=none)(ak:AU X [a,e2] ms)(aV:l7 X ay (jK is))(ab:su X body b)
  (aF:(akp ay X.env).length=is.length:=by rfl) (f9:(akp ay X.env).findIdx? (·.1)=none:=by rfl)
  (aj:∀x,akN (.Call (.Name "zip" p) [a,e2] [] dp) X.env x=pure x:=by intro _;rfl) (oG:ajY [a,e2] X.env=[(false,eval a X.env),(false,eval e2 X.env)]:=by rfl) (kQ:ajY [e2] X.env=[(false,eval e2 X.env)]:=by rfl) :
  F8 X (.For (.Tuple ay k d2) (.Call (.Name "zip" p) [a,e2] [] dp) body [] pos) (sS is ms b):=
 gW (z8 aH aD (MI ro hm ak oG kQ) (wM aD aV aF f9) ab aj) VS
section
variable{X:aS}
abbrev tp:List String:=["int","bool","tuple","list","str"]
def M0(K:aT):List V->ax->cX->Prop:=λxs H Q=>∃x a e7 dW t,xs=[x,.ref a]/\dD K H a [.ty e7,.ty dW]/\l8 K H x t/\e7∈tp/\dW∈tp/\Q (.az (iW t e7||iW t dW)) H
omit [aE.a5]in
theorem Tn(kt:uE X.K):ir X (.builtin "isinstance") (M0 X.K):=by
 intro zn s Y H xs us Q I bP h;obtain⟨x,a,e7,dW,t,rfl,dI,ty,Ys,ti,q⟩:=h;obtain⟨u,eR,rfl,bB,cq⟩:=vals2 bP;cases(show eR=aks a from cq);obtain⟨its,E5,⟨o,a',aD,n,hd⟩,_⟩:=I.tuple dI;obtain⟨lU,hW,rfl,bk,b0⟩:=vals2 E5;cases(show lU=am5 e7 from bk);cases(show hW=am5 dW from b0);obtain⟨cZ,df,ajC,fv⟩:=o;cases aD;cases hd;have e:W.kitAny X.K (.type t) [.type e7,.type dW]=some (iW t e7||iW t dW):=by
  have av:W.kitOne X.K (.type t) (.type e7)=some (iW t e7):=kt.ans t ty.mem e7 Ys;have aC:W.kitOne X.K (.type t) (.type dW)=some (iW t dW):=kt.ans t ty.mem dW ti;unfold W.kitAny;rw[av]
  cases iW t e7 with
  |true=>rfl|false=>
   show W.kitAny X.K (.type t) [.type dW]=_;unfold W.kitAny;rw[aC];cases iW t dW<;>rfl
 have fin:∀tk,gG X zn Y Q (.bool (iW t e7||iW t dW)) { s with toks:=tk }:=λtk=>⟨.az _,H,I.tok tk,rfl,q⟩
 cases ty with
 |aI=>cases(show u=alf from bB);exact an2 W.kitx_none I.e6 alp a' e (λz=>nomatch z) fin
 |az y=>cases(show u=amO y from bB);exact an2 W.kitx_bool I.e6 alp a' e (λz=>nomatch z) fin
 |int i=>obtain⟨t,q⟩:=(show ∃t,u=anm i t from bB);cases q;exact an2 W.kitx_int I.e6 alp a' e (λz=>nomatch z) fin
 |str y=>obtain⟨t,q⟩:=(show ∃t,u=anO y t from bB);cases q;exact an2 W.kitx_str I.e6 alp a' e (λz=>nomatch z) fin
 |@l a xs gm=>
  cases(show u=aks a from bB);obtain⟨its,_,⟨o,dE,ae,ah,_⟩,_⟩:=I.list gm;exact an2 W.kitx_list I.e6 ⟨o,ae,ah⟩ a' e (λz=>nomatch z) fin
 |@t a xs gm=>
  cases(show u=aks a from bB);obtain⟨its,_,⟨o,ae,ah,_⟩,_⟩:=I.tuple gm;exact an2 W.kitx_tuple I.e6 ⟨o,ae,ah⟩ a' e (λz=>nomatch z) fin
end
def vc:List R->M R
 |[x,.v (.t [.ty e7,.ty dW])]=>match x.kind with
  |some t=>if e7∈tp/\dW∈tp then pure (.v (.az (iW t e7||iW t dW)))else bad|none=>bad
 |_=>bad
def Zi:i5 K mg (M0 K) vc:=fun O Y S au H vs rs bJ S' Q st aA h q=>by
 unfold vc at h;split at h
 .rename_i x e7 dW
  obtain⟨v,u,rfl,ag,ba⟩:=E0 aA;obtain⟨a,ys,rfl,dI,sq,bB,rfl,av,sr,cq,rfl,aC,c4⟩:=ba;cases c4;cases(show sq=.ty e7 from av);cases(show sr=.ty dW from aC);split at h
  .rename_i t e
   by_cases aF:e7∈tp/\dW∈tp
   .rw[if_pos aF]at h
    cases h;exact⟨v,a,e7,dW,t,rfl,dI,R.K7 ag e,aF.1,aF.2,q O _ H (Go.refl _ _) st rfl trivial⟩
   .rw[if_neg aF]at h;cases h
  .cases h
 .cases h
end aZ
namespace aZ
open PySem PySem.Spec aE PyProof.Rows
variable[aE.a5]
def rA(t:aQ->M Bool)(el:bg)(Y:aQ):List (D×D)->M (List D)
 |[]=>pure []|d::ds=>do
  let b <-t ((Y.set 0 (.v d.1)).set 1 (.v d.2))
  if b=true then do
   let r <-el ((Y.set 0 (.v d.1)).set 1 (.v d.2))
   let x <-r.dat
   let xs <-rA t el Y ds
   pure (x::xs)
  else rA t el Y ds
def xt:List R->Option (List (D×D))
 |[x,y]=>match x.walk,y.walk with
  |some xs,some ys=>some (xs.zip ys)|_,_=>none
 |_=>none
@[simp] def uV(cap:List Nat)(ms:c8)(t:aQ->M Bool)(el:bg)(Y:aQ):M R:=do
 let rs <-ms Y
 match xt rs with
 |some ds=>do
  hI (ds.length<aj3)
  let xs <-rA t el (iP 2 cap Y) ds
  pure (.fr xs)
 |none=>bad
def ahU(h:xt rs=some ds):∃x y xs ys,rs=[x,y]/\x.walk=some xs/\y.walk=some ys/\ds=xs.zip ys:=by
 unfold xt at h;split at h
 .rename_i x y
  split at h
  .rename_i xs ys av aC
   cases h;exact⟨x,y,xs,ys,rfl,av,aC,rfl⟩
  .cases h
 .cases h
def h5.same{b:Bool}{K:aT}{H H':ax}(s:eG H H'){a:Addr}{ys:List V}(h:h5 b K H a ys):h5 b K H' a ys:=by
 cases b with
 |true=>exact s.w5 h|false=>exact s.seq h
omit [aE.a5]in
theorem KU{t:aQ->M Bool}(Y:aQ):∀ds,rA t el Y ds=lJ (λd=>some ((Y.set 0 (.v d.1)).set 1 (.v d.2))) t el ds
 |[]=>rfl| d::ds=>by unfold rA lJ;rw[KU Y ds]
def TP{K:aT}{mg:bo}{cap:List Nat}{ms:c8}{t:aQ->M Bool}{el:bg}:∀au H Q,fk K mg (uV cap ms t el) au H Q->uf 2 cap (y7 K (nX K mg ms)) (rh K 2 (jK [0,1])) (k5 K mg t) (fk K mg el) au H Q:=by
 rintro au H Q ⟨O,Y,S,r,S',st,h,q⟩;obtain⟨rs,S1,ae,h⟩:=M.inv h
 cases mh:xt rs with
 |none=>rw[mh]at h;cases h
 |some ds=>
  rw[mh]at h;obtain⟨_,bh,ah,h⟩:=M.inv h;obtain⟨hlen,rfl⟩:=q2 ah;obtain⟨xs,h4,bN,h⟩:=M.inv h;cases h;obtain⟨x,y,ajR,PK,rfl,ex,fg,rfl⟩:=ahU mh;rw[KU]at bN;refine⟨O,Y,S,_,S1,st,ae,λaJ vs H1 g1 aU bp nn=>?_⟩;obtain⟨v1,bB,rfl,a4,v2,cq,rfl,bz,re⟩:=bp;cases re;obtain⟨b2,cb,us,rfl,s1,a1⟩:=AD (H₀:=H) a4 nn.1 ex;obtain⟨b3,cz,ws,rfl,s2,a2⟩:=AD (H₀:=H) bz nn.2.1 fg;refine⟨b2,b3,cb,cz,rfl,⟨us,s1.dI⟩,⟨ws,s2.dI⟩,BN (aU.ck H) hlen (λH' s=>⟨us,ws,h5.same s s1.dI,h5.same s s2.dI,?_⟩) (λk d nZ ao H' dS cf g' cg=>?_) bN λao v H' g cg bp nn=>q ao v H' (g1.ck.trans g) cg bp (nn.back g1.same)⟩
  .rw[anB,a1.len,a2.len];omega
  .cases cf
   obtain⟨av,aC⟩:=amY.mp dS;obtain⟨u,jI,d9⟩:=(bc.go g' (a1.du (lu _))).get av;obtain⟨v,ev,bP⟩:=(bc.go g' (a2.du (lu _))).get aC;have bk:=h5.same g'.same s1.dI;have b0:=h5.same g'.same s2.dI;refine⟨⟨⟨us,u,bk,jI⟩,⟨ws,v,b0,ev⟩⟩,λx aM R jU eB=>?_⟩;obtain⟨u',fx,T,rfl,fG,rfl,tj,mD⟩:=jU;have wR:=tj us bk;rw[jI]at wR;cases wR;have wU:=mD ws b0;rw[ev]at wU;cases wU;have iR:Go ao ao H' (upd H' T (.t [u,v])):=Go.fu fG;exact⟨T,[u,v],rfl,dD.of dy,rfl,u,[v],rfl,v,[],rfl,rfl,eB _ _ iR (((cg.fu fG).val (d9.go iR)).val (bP.go iR)) (((m9.refl _).set rfl).set rfl)⟩
section
variable{X:aS}{scope esc:Scope}{EN N:List Str}{cap:List Nat}{elt a e2:Expr}{ifs:List Expr}{pos d2 p dp p1 dv:Pos}{x y:Str}{t:aQ->M Bool}{el:bg}{ms:c8}{k:Nat}
def Tz(S:la esc scope EN N 2 cap)(ro:eF X "zip")(hm:X.mg "zip"=none)(ak:AU X [a,e2] ms)(ag:N[0]? = some x)(ba:N[1]? = some y)
  (iT:∀C aK s H,Loc (cx X scope N C aK s H).env.scope x/\(cx X scope N C aK s H).env.scope.names.lookup x=some .local) (rr:∀C aK s H,Loc (cx X scope N C aK s H).env.scope y/\(cx X scope N C aK s H).env.scope.names.lookup y=some .local)
  (bM:∀C aK s H,AV (cx X scope N C aK s H) ifs t) (h_:∀C aK s H,hC (cx X scope N C aK s H) elt el)
  (he:X.env.scope=esc:=by rfl) (hN:X.N=EN:=by rfl) (aD:X.calm=true:=by rfl) (aj:∀x,akN (.Call (.Name "zip" p) [a,e2] [] dp) X.env x=pure x:=by intro _;rfl)
  (oG:ajY [a,e2] X.env=[(false,eval a X.env),(false,eval e2 X.env)]:=by rfl) (kQ:ajY [e2] X.env=[(false,eval e2 X.env)]:=by rfl)
  (mA:∀C aK s H,(akp [.Name x p1,.Name y dv] (cx X scope N C aK s H).env).length=2/\(akp [.Name x p1,.Name y dv] (cx X scope N C aK s H).env).findIdx? (·.1)=none/\
   (akp [.Name x p1,.Name y dv] (cx X scope N C aK s H).env).map (·.2)=amr (.Name x p1) (cx X scope N C aK s H).env::(akp [.Name y dv] (cx X scope N C aK s H).env).map (·.2)/\
   (akp [.Name y dv] (cx X scope N C aK s H).env).map (·.2)=amr (.Name y dv) (cx X scope N C aK s H).env::(akp [] (cx X scope N C aK s H).env).map (·.2):=by intros;exact⟨rfl,rfl,rfl,rfl⟩) :
  hC X (.ListComp elt [⟨.Tuple [.Name x p1,.Name y dv] k d2,.Call (.Name "zip" p) [a,e2] [] dp,ifs,0⟩] scope pos) (uV cap ms t el):=
 eg (EG (wi:=y7 X.K (nX X.K X.mg ms)) (g:=rh X.K 2 (jK [0,1])) (tt:=k5 X.K X.mg t) (te:=fk X.K X.mg el) S (MI ro hm ak oG kQ)
  (λC aK s H=>wM aD (wN S.dU ag (iT C aK s H).1 (wN S.dU ba (rr C aK s H).1 EJ (mA C aK s H).2.2.2 (.inr (rr C aK s H).2)) (mA C aK s H).2.2.1 (.inr (iT C aK s H).2)) (mA C aK s H).1 (mA C aK s H).2.1) bM h_ he hN aD aj) TP
end
end aZ
namespace aZ
open PySem PySem.Spec aE PyProof.Rows
def S_:akJ "max"=some (.builtin "max"):=by decide +kernel
def kmk_max_key(a v:Value):argsOk "max" ⟨[a],[(aki "key",v)]⟩:=by unfold argsOk;kernel_rfl
def mK(mf:bC)(d:D):Option (List Int):=match(mf [d]).run []with
 |.ok (.v (.t bu)) []=>nums bu|_=>none
def j'(mf:bC)(b:D)(f':List Int):List D->Option D
 |[]=>some b|d::ds=>match mK mf d with
  |some kd=>if gT kd f'=true then j' mf d kd ds else j' mf b f' ds|none=>none
def wb(mf:bC):List D->Option D
 |d::ds=>match mK mf d with
  |some k=>j' mf d k ds|none=>none
 |[]=>none
def yy(mf:bC)(x:R):M R:=match x.fi with
 |some ds=>match wb mf ds with
  |some r=>if ds.length<64 then pure (.v r)else bad|none=>bad
 |none=>bad
@[simp] def yc(mf:bC)(cR:bg)(Y:aQ):M R:=do
 let x <-cR Y
 yy mf x
def K2{mf:bC}{k:List Int}(h:mK mf d=some k):∃bu,(mf [d]).run []=.ok (.v (.t bu)) []/\nums bu=some k:=by
 unfold mK at h;split at h
 .rename_i bu e;exact⟨bu,e,h⟩
 .cases h
variable[aE.a5]
section
variable{X:aS}{zn:c2}{Y:aE.St}{H:ax}{s:ajZ}{G:ax->Prop}{mf:bC}{f S it l:Addr}{k:Nat}{O:a0}
def next_item{xs:List V}{v:V}{E:cB}{A:akl}(I:Inv X zn Y H1 s)(cI:dk X.K H1 l xs)(bI:xs[j]? = some v)(aK:gw X zn H1 it)(hit:s.heap.IsListIter it l j)(d7:A.handled=none) :
  wpAny (model X.prog X.w) A (ams (.ref it)) (λr s1=>∃u,r=some u/\RelV v u/\Inv X zn Y H1 s1/\s1.heap.IsListIter it l (j+1)) E s:=by
 obtain⟨us,bP,pl,_⟩:=I.list cI;have ar:s.heap.IsList l us.toArray:=pl.isList;have hL:l≠it:=by
  rintro rfl;obtain⟨o,e,c,_⟩:=hit;obtain⟨o',cA,c',_⟩:=ar;rw[e]at cA;cases cA;rw[c]at c';injection c' with z;exact absurd z (by decide)
 obtain⟨u,cy,d9⟩:=bP.get bI;have W:=aoW (prog:=X.prog) (w:=X.w) (A:=A) d7 it l hL us.toArray;refine W.item j s _ _ (by have:=(aj2.mp cy).1;simpa using this) ⟨hit,ar⟩ λu' h' Ft ej YE oE=>?_
 have e:some u'=some u:=by rw[<-cy];simpa using ej.symm
 cases e;obtain⟨f0,f1,f2,gO,f4,gP⟩:=aK;exact⟨u,rfl,d9,I.turned (t':=Ft) (λb o ab e=>oE b o (by simpa using ab) e) f0 f1 gO f4 gP,YE.1⟩
def Mf{xs:List V}{E:cB}{A:akl}(I:Inv X zn Y H1 s)(cI:dk X.K H1 l xs)(bI:j=xs.length)(aK:gw X zn H1 it)(hit:s.heap.IsListIter it l j)(d7:A.handled=none) :
  wpAny (model X.prog X.w) A (ams (.ref it)) (λr s1=>r=none/\Inv X zn Y H1 s1) E s:=by
 obtain⟨us,bP,pl,_⟩:=I.list cI;have ar:s.heap.IsList l us.toArray:=pl.isList;have hL:l≠it:=by
  rintro rfl;obtain⟨o,e,c,_⟩:=hit;obtain⟨o',cA,c',_⟩:=ar;rw[e]at cA;cases cA;rw[c]at c';injection c' with z;exact absurd z (by decide)
 have W:=aoW (prog:=X.prog) (w:=X.w) (A:=A) d7 it l hL us.toArray;have B4:j=us.toArray.size:=by rw[aka,bI,bP.length]
 rw[B4]at hit;refine W.done s _ _ ⟨hit,ar⟩ λh' Ft oE=>?_
 obtain⟨f0,f1,f2,gO,f4,gP⟩:=aK;exact⟨rfl,I.turned (t':=Ft) (λb o ab e=>oE b o (by simpa using ab) e) f0 f1 gO f4 gP⟩
def K4{aJ:a0}{v:V}{A:akl}(fF:n6 X k f G mf)(aA:cF k A.in1)(d5:lg X.prog X.w X.K X.mg X.base A.in1 X.stack s H1)(I:Inv X zn Y H1 s)(gk:dc aJ H1)(pE:G H1)(bb:Rep X.K X.mg aJ H1 d v)(d9:RelV v u)(hd:(mf [d]).run []=.ok (.v jj) [])(aK:gw X zn H1 it)(hit:s.heap.IsListIter it l j) :
  wpAny (model X.prog X.w) A.in1 (call (.ref f) [u]) (λu' s2=>∃(bq:a0)(aM:ax)(fx:V),Inv X zn Y aM s2/\Go aJ bq H1 aM/\dc bq aM/\G aM/\Rep X.K X.mg bq aM jj fx/\RelV fx u'/\gw X zn aM it/\s2.heap.IsListIter it l j) (λ_ _=>False) s:=by
 obtain⟨wB,yw,ci,yp⟩:=hit;have P':Inv X (zn++r1 [it] s.heap) Y H1 s:=I.pinned (λb ab=>by rw[akg.mp ab];exact aK) λb ab=>by
  rw[akg.mp ab];exact⟨wB,yw,λv z=>by rw[yp]at z;cases z⟩
 refine wpAny_call (amf (fF.2.2 A.in1 s H1 u v (λfx H'=>∃ao,Go aJ ao H1 H'/\dc ao H'/\Rep X.K X.mg ao H' jj fx) aA d5 pE d9 ?_) λr s2 a8=>?_)
 .refine⟨aJ,[d],.v jj,[],gk,gi.nil,⟨v,[],rfl,?_,rfl⟩,hd,λao fx H' g cL bp _=>⟨ao,g,cL,bp⟩⟩
  cases d<;>first|exact bb|exact akD bb|skip
  obtain⟨x,zs,q,l,r⟩:=bb;exact⟨x,zs,q,l.dI,r⟩
 .cases r with
  |error e=>exact akD a8|ok a7=>
   cases a7 with
   |ret u'=>
    obtain⟨fx,aM,bU,bP,bq,g2,da,cq⟩:=P'.after a8;have pin:=bU.pin (it,wB) (akP _ (akP _ (by unfold r1;simp[yw])));exact⟨bq,aM,fx,bU.xh,g2,da,fF.1 _ _ g2.same pE,cq,bP,⟨pin.2.1,aK.2⟩,⟨wB,pin.1,ci,yp⟩⟩
   |next=>exact akD a8
   |brk=>exact akD a8|cont=>exact akD a8
structure PV(X:aS)(zn:c2)(Y:aE.St)(G:ax->Prop)(O:a0)(H:ax)(S it l:Addr)(j:Nat)(d:D)(f':List Int)(aP:ajZ):Prop where
 ex:∃ao H' v kv,Inv X zn Y H' aP/\Go O ao H H'/\dc ao H'/\G H'/\H' S=some (.l [v,kv])/\Rep X.K X.mg ao H' d v/\Rep X.K X.mg ao H' (.t (f'.map D.int)) kv/\ao S=.dx/\gw X zn H' it/\aP.heap.IsListIter it l j
def xI(X:aS)(zn:c2)(Y:aE.St)(O:a0)(H:ax)(res:D)(u:Value)(aP:ajZ):Prop:=
 ∃ao H' v,Inv X zn Y H' aP/\Go O ao H H'/\dc ao H'/\Rep X.K X.mg ao H' res v/\RelV v u
def M'{K:aT}{mg:bo}{O:a0}{H:ax}{bu:List D}{f':List Int}{v:V}(r:Rep K mg O H (.t bu) v)(e:nums bu=some f'):Rep K mg O H (.t (f'.map D.int)) v:=by
 obtain⟨a,ys,rfl,dI,bl⟩:=r;have:=tR bl e;subst this;exact⟨a,_,rfl,dI,M9 f'⟩
def Na{K:aT}{mg:bo}{O:a0}{H:ax}{f':List Int}{v:V}(r:Rep K mg O H (.t (f'.map D.int)) v):∃a,v=.ref a/\dD K H a (f'.map V.int):=by
 obtain⟨a,ys,rfl,dI,bl⟩:=r;have:∀(f':List Int)(ys:List V),bc K mg O H (f'.map D.int) ys->ys=f'.map V.int:=by
  intro f'
  induction f' with
  |nil=>intro ys h;exact h|cons a t a6=>
   intro ys h;obtain⟨y,r,rfl,ae,ah⟩:=h;rw[show y=V.int a from ae,a6 _ ah];rfl
 rw[this f' ys bl]at dI;exact⟨a,rfl,dI⟩
def vals2{v kv:V}(h:Vals [v,kv] its):∃u kT,its=[u,kT]/\RelV v u/\RelV kv kT:=by
 cases h with
 |cons bB cq=>cases cq with
  |cons pb nT=>cases nT;exact⟨_,_,rfl,bB,pb⟩
def x8{H1:ax}{its:List Value}{v kv:V}(I:Inv X zn Y H1 s)(cI:H1 S=some (.l zs))(gQ:s.heap.get? S=some (akC "list" its.toArray sQ))(bP:RelV v u)(jm:RelV kv kT) :
  Inv X zn Y (upd H1 S (.l [v,kv])) { s with heap:=s.heap.update S (akz λ_=>#[u,kT]) }:=by
 have s1:=ali s.heap S (akz λ_=>#[u,kT]);obtain⟨af,hK⟩:∃af,(s.heap.update S (akz λ_=>#[u,kT])).get? S=some (akC "list" #[u,kT] af):=⟨_,al4 gQ λ_=>#[u,kT]⟩;refine I.write (x:=S) (e:=S) (t':=s.toks) (by rw[cI];trivial) (.inl rfl) (λb o ab e=>(s1.2 b ab).trans e) ⟨_,hK⟩ ⟨by rw[ako];simp,[u,kT],af,.cons bP (.cons jm .nil),hK⟩
def H2{H1:ax}{its:List Value}(I:Inv X zn Y H1 s)(cI:H1 S=some (.l zs))(gQ:s.heap.get? S=some (akC "list" its.toArray sQ)) :
  Inv X zn Y (upd H1 S (.l [])) { s with heap:=s.heap.update S (akz λ_=>#[]) }:=by
 have s1:=ali s.heap S (akz λ_=>(#[]:Array Value));obtain⟨af,hK⟩:∃af,(s.heap.update S (akz λ_=>(#[]:Array Value))).get? S=some (akC "list" #[] af):=⟨_,al4 gQ λ_=>#[]⟩;refine I.write (x:=S) (e:=S) (t':=s.toks) (by rw[cI];trivial) (.inl rfl) (λb o ab e=>(s1.2 b ab).trans e) ⟨_,hK⟩ ⟨akm _,[],af,.nil,hK⟩
def zb{h:Heap}(hL:S≠it)(hit:h.IsListIter it l j):(h.update S g).IsListIter it l j:=by
 obtain⟨wB,yw,ci,yp⟩:=hit;exact⟨wB,((ali h S g).2 it hL.symm).trans yw,ci,yp⟩
def yE(hL:S≠it)(aK:gw X zn H1 it):gw X zn (upd H1 S o) it:=⟨by rw[dj hL.symm];exact aK.1,aK.2⟩
def aaq{res:D}(fF:n6 X k f G mf)(aA:cF (k+1) X.A)(vF:H S=none)(jL:S≠it)(bl:bc X.K X.mg O H ds xs)(ar:dk X.K H l xs) :
  ∀(r:List D)(j:Nat)(d:D)(f':List Int)(aP:ajZ),ds.drop j=r->PV X zn Y G O H S it l j d f' aP->j<=ds.length->j' mf d f' r=some res->
   amI (model X.prog X.w) X.A (.builtin "max.loop" ⟨[.ref it,.ref f,.ref S],[]⟩) (λr aP=>∃u,r=.ok (.ret u)/\xI X zn Y O H res u aP) aP:=by
 have my:(toString "max"++toString ".loop":String)="max.loop":=by decide
 have d7:X.A.in1.handled=none:=aA.in1.hd;have aag:=bl.len;intro r
 induction r with
 |nil=>
  intro j d f' aP oz B aR aV;cases aV;obtain⟨aJ,H1,v,kv,a9,g1,gk,pE,cI,bb,jm,pa,aK,hit⟩:=B.ex;obtain⟨hsz,its,n,vals,gQ⟩:=a9.bO S _ cI;obtain⟨u,kT,rfl,d9,wW⟩:=vals2 vals;have oD:j=xs.length:=by
   have:=congrArg alr oz;rw[ak0,akY]at this;omega
  refine amx alH ?_;rw[alO akA _];show wpAny _ X.A.in1 (amw (.ref S) >>= _) _ _ _;refine ajV (ak5 gQ rfl ?_);show wpAny _ X.A.in1 (tryCatch (ams (.ref it)) _ >>= _) _ _ _;refine ajV (alA (akH (Mf (E:=λ_ _=>False) a9 (g1.same.seq ar) oD aK hit d7) (λr s1 a8=>?_) λ_ _ dt=>dt.elim));obtain⟨rfl,bU⟩:=a8;obtain⟨_,lI,dW,FG,vD⟩:=bU.bO S _ cI;show wpAny _ X.A.in1 (updateSeq S (λ_=>#[]) >>= _) _ _ _;refine ajV ?_;refine amy vD rfl (hz:=by rw[aka,<-FG.length,ako];simp) (ajV (alG (aj1 ?_)));exact⟨u,rfl,aJ,_,v,H2 bU cI vD,⟨pn vF g1.same cI _,g1.own,g1.bK⟩,gk.eh cI,bb.eh (by rw[pa];intro z;cases z) cI,d9⟩
 |cons da r a6=>
  intro j d f' aP oz B aR aV;unfold j' at aV
  cases fE:mK mf da with
  |none=>rw[fE]at aV;cases aV
  |some kd=>
   rw[fE]at aV
   replace aV:(if gT kd f'=true then j' mf da kd r else j' mf d f' r)=some res:=aV
   obtain⟨bu,hm,aF⟩:=K2 fE;obtain⟨aJ,H1,v,kv,a9,g1,gk,pE,cI,bb,jm,pa,aK,hit⟩:=B.ex;obtain⟨hsz,its,n,vals,gQ⟩:=a9.bO S _ cI;obtain⟨u,kT,rfl,d9,wW⟩:=vals2 vals;have hd2:ds[j]? = some da:=by
    have:=congrArg (·[0]?) oz;simpa using this
   have vA:ds.drop (j+1)=r:=by
    have:=congrArg (anU 1) oz;simpa[amL]using this
   have oD:j+1<=ds.length:=(aj2.mp hd2).1;obtain⟨v2,C8,wV⟩:=bl.get hd2;refine amx alH ?_;rw[alO akA _];show wpAny _ X.A.in1 (amw (.ref S) >>= _) _ _ _;refine ajV (ak5 gQ rfl ?_);show wpAny _ X.A.in1 (tryCatch (ams (.ref it)) _ >>= _) _ _ _;refine ajV (alA (akH (next_item (E:=λ_ _=>False) a9 (g1.same.seq ar) C8 aK hit d7) (λr s1 a8=>?_) λ_ _ dt=>dt.elim));obtain⟨hW,rfl,mT,bU,p7⟩:=a8;show wpAny _ X.A.in1 (tryCatch (alP [hW] (call (.ref f) [hW])) _ >>= _) _ _ _;refine ajV (alA (alj (akH (K4 fF aA.in1 bU.u9.in1 bU gk pE (wV.go g1) mT hm aK p7) (λPo s3 a8=>?_) λ_ _ dt=>dt.elim)));obtain⟨eM,cT,K',dF,g3,ni,xD,E2,E3,yD,yX⟩:=a8;have jh:=g3.same.at' _ _ cI;have nR:eM S=.dx:=(g3.own S (by rw[cI];intro z;cases z)).trans pa;obtain⟨_,Dl,kX,vals3,mw⟩:=dF.bO S _ jh;have Ad:=M' E2 aF;obtain⟨eH,rfl,aeZ⟩:=Na Ad;obtain⟨a1,rfl,aeY⟩:=Na (jm.go g3);cases E3;cases wW;obtain⟨t3,YM,EB,_⟩:=dF.tuple aeZ;obtain⟨t1,ft,p1,_⟩:=dF.tuple aeY;show wpAny _ X.A.in1 (tryCatch (alP [hW,.ref eH] (anf .Gt (.ref eH) (.ref a1) >>= _)) _ >>= _) _ _ _;refine ajV (alA (alj (ajV ((JH EB p1 (intsAre_of YM) (intsAre_of ft) aA.in1.af0 ?_)))));refine ajV (alj (alc ?_));refine ajV (alG (aj1 ?_))
   by_cases ab:gT kd f'=true
   .rw[if_pos ab]at aV
    simp only[ab,if_true];refine ajV ?_;refine amy mw rfl (hz:=by rw[aka,<-vals3.length,ako];simp) (ajV (alG ?_));rw[my];refine aj1 ⟨al7 akA _,a6 (j+1) da kd _ vA ?_ oD aV⟩;exact⟨eM,_,v2,.ref eH,x8 (v:=v2) (kv:=.ref eH) dF jh mw mT (show RelV (.ref eH) (.ref eH)from rfl),⟨pn vF (g1.trans g3).same jh _,(g1.trans g3).own,(g1.trans g3).bK⟩,ni.eh jh,fF.2.1 _ _ _ _ jh xD,dy,(wV.go (g1.trans g3)).eh (by rw[nR];intro z;cases z) jh,Ad.eh (by rw[nR];intro z;cases z) jh,nR,yE jL yD,zb jL yX⟩
   .rw[if_neg ab]at aV
    simp only[ab,if_false];refine ajV (alG ?_);rw[my];refine aj1 ⟨al7 akA _,a6 (j+1) d f' _ vA ?_ oD aV⟩;exact⟨eM,cT,v,.ref a1,dF,g1.trans g3,ni,xD,jh,bb.go g3,jm.go g3,nR,yD,yX⟩
theorem aap{E:cB}(I:Inv X zn Y H s)(cL:dc O H)(bl:bc X.K X.mg O H ds xs)(ar:dk X.K H l xs)(fF:n6 X k f G mf)(vi:G H)(aA:cF (k+1) X.A)(hm:wb mf ds=some res) :
  wpAny (model X.prog X.w) X.A (call (.builtin "max") [.ref l] [(aki "key",.ref f)]) (xI X zn Y O H res) E s:=by
 have my:(toString "max"++toString ".loop":String)="max.loop":=by decide
 have d7:X.A.in1.handled=none:=aA.in1.hd
 cases ds with
 |nil=>cases hm
 |cons d ds=>
  replace hm:(match mK mf d with|some k=>j' mf d k ds|none=>none)=some res:=hm
  cases fE:mK mf d with
  |none=>rw[fE]at hm;cases hm
  |some kd=>
   rw[fE]at hm;obtain⟨bu,aw,aF⟩:=K2 fE;obtain⟨us,bP,pl,_⟩:=I.list ar;have fH:s.heap.IsList l us.toArray:=pl.isList;refine kmk_tree PySem.F.kind_max PySem.F.plain_max PySem.F.entry_max (kmk_max_key _ _) ?_;show wpAny _ X.A.in1 (al0 "max" ["key","default"] 0 ⟨[],[(aki "key",.ref f)]⟩ >>= _) _ _ s;refine ajV (wpAny_of_eq (show al0 "max" ["key","default"] 0 ⟨[],[(aki "key",.ref f)]⟩=pure [some (.ref f),none]from rfl) ?_);refine ajV (aj1 ?_);refine ajV (alQ fH ?_);refine ajV (amS ?_ (akm _));rw[my];have a9:Inv X zn Y H { s with heap:=s.heap.push { cls:=.type "list_iterator",data:=.fields #[.ref l,.int 0 0] } }:=I.kept (t':=s.toks) λb o e=>ajW _ e
   have nA:(s.heap.push { cls:=.type "list_iterator",data:=.fields #[.ref l,.int 0 0] }).get? s.heap.objs.size=some { cls:=.type "list_iterator",data:=.fields #[.ref l,.int 0 0] }:=akb _ rfl;have hsz:(s.heap.push { cls:=.type "list_iterator",data:=.fields #[.ref l,.int 0 0] }).objs.size=s.heap.objs.size+1:=aok ..;generalize Ye:s.heap.push { cls:=.type "list_iterator",data:=.fields #[.ref l,.int 0 0] }=ae at *;have oo:H ae.objs.size=none:=a9.bO.fresh (aj0 _);have jL:ae.objs.size≠s.heap.objs.size:=by rw[hsz];omega
   have bU:Inv X zn Y (upd H ae.objs.size (.l [])) { s with heap:=ae.push (akC "list" #[] 0) }:=
    a9.laid (t':=s.toks) (λb o e=>ajW _ e) (aj0 _) ⟨akm _,[],0,.nil,akb _ rfl⟩
   have aK:gw X zn (upd H ae.objs.size (.l [])) s.heap.objs.size:=I.pY (aj0 _) (by rw[dj jL.symm];exact I.bO.fresh (aj0 _));have hit:(ae.push (akC "list" #[] 0)).IsListIter s.heap.objs.size l 0:=⟨_,ajW _ nA,rfl,rfl⟩;have go2:Go O (fL O ae.objs.size .dx) H (upd H ae.objs.size (.l [])):=Go.new oo;have BV:dc (fL O ae.objs.size .dx) (upd H ae.objs.size (.l [])):=cL.new oo;have qt:fL O ae.objs.size .dx ae.objs.size=.dx:=m1;have rk:upd H ae.objs.size (.l []) ae.objs.size=some (.l []):=dy;have gQ:(ae.push (akC "list" #[] 0)).get? ae.objs.size=some (akC "list" #[] 0):=akb _ rfl;refine aj1 ⟨al7 akA _,?_⟩;generalize ae.push (akC "list" #[] 0)=ah at *;generalize ae.objs.size=S at *;generalize s.heap.objs.size=it at *;generalize fL O S .dx=bq at *;generalize upd H S (.l [])=aM at *;obtain⟨v,bI,bb⟩:=bl.get (i:=0) (d:=d) rfl;refine amx alH ?_;rw[alO akA _];show wpAny _ X.A.in1 (amw (.ref S) >>= _) _ _ _;refine ajV (ak5 gQ rfl ?_);show wpAny _ X.A.in1 (tryCatch (ams (.ref it)) _ >>= _) _ _ _;refine ajV (alA (akH (next_item (E:=λ_ _=>False) bU (go2.same.seq ar) bI aK hit d7) (λr s1 a8=>?_) λ_ _ dt=>dt.elim));obtain⟨hW,rfl,mT,dF,p7⟩:=a8;show wpAny _ X.A.in1 (tryCatch (alP [hW] (call (.ref f) [hW])) _ >>= _) _ _ _;refine ajV (alA (alj (akH (K4 fF aA.in1 dF.u9.in1 dF BV (fF.1 _ _ go2.same vi) (bb.go go2) mT aw aK p7) (λPo s3 a8=>?_) λ_ _ dt=>dt.elim)));obtain⟨eM,cT,K',i_,g3,ni,xD,E2,E3,yD,yX⟩:=a8;have jh:=g3.same.at' _ _ rk;have nR:eM S=.dx:=(g3.own S (by rw[rk];intro z;cases z)).trans qt;obtain⟨_,Dl,kX,vals3,mw⟩:=i_.bO S _ jh;have Ad:=M' E2 aF;show wpAny _ X.A.in1 (updateSeq S (λ_=>#[hW,Po]) >>= _) _ _ _;refine ajV ?_;refine amy mw rfl (hz:=by rw[aka,<-vals3.length,ako];simp) ?_;rw[my];refine aj1 ⟨al7 akA _,amf (aaq (zn:=zn) (Y:=Y) fF aA oo jL bl ar ds 1 d kd _ rfl ?_ (by simp) hm) λr aP a8=>?_⟩
   .exact⟨eM,_,v,K',x8 i_ jh mw mT E3,⟨pn oo (go2.trans g3).same jh _,(go2.trans g3).own,(go2.trans g3).bK⟩,ni.eh jh,fF.2.1 _ _ _ _ jh xD,dy,(bb.go (go2.trans g3)).eh (by rw[nR];intro z;cases z) jh,Ad.eh (by rw[nR];intro z;cases z) jh,nR,yE jL yD,zb jL yX⟩
   .obtain⟨u,rfl,a8⟩:=a8
    exact a8
end
section
variable{X:aS}{k:Nat}{e:Expr}{cR:bg}{p pos kp:Pos}{jj:Expr}{mf:bC}{G:Addr->ax->Prop}
def TA(aV:eF X "max")(hm:X.mg "max"=none)(aA:cF (k+1) X.A)(ak:hC X e cR)
  (dA:∀(zn:c2)(s:ajZ)(Y:aE.St)(O:a0)(H:ax),Inv X zn Y H s->dc O H->
   wpAny (model X.prog X.w) X.A (eval jj X.env) (λu aP=>∃(f:Addr)(H':ax)(G:ax->Prop),u=.ref f/\Inv X zn Y H' aP/\Go O O H H'/\dc O H'/\G H'/\n6 X k f G mf) X.dV s)
  (he:akr pos (ajY [e] X.env)=(false,eval e X.env)::akr pos (ajY [] X.env):=by rfl)
  (aj:ajY [e] X.env=(false,eval e X.env)::ajY [] X.env:=by rfl)
  (iU:(akr pos (ajY [e] X.env)).any (·.1)=false:=by rfl) :
  hC X (.Call (.Name "max" p) [e] [⟨some (aki "key"),jj,kp⟩] pos) (yc mf cR):=by
 rintro zn s Y H Q I ⟨O,xw,S,r,S',st,h,q⟩;obtain⟨x,S1,ae,h⟩:=M.inv h;obtain⟨ds,res,oA,Yq,jg,rfl,rfl⟩:∃ds res,x.fi=some ds/\wb mf ds=some res/\ds.length<64/\r=.v res/\S1=S':=by
  unfold yy at h;split at h
  .rename_i ds av
   split at h
   .rename_i res aC
    by_cases c:ds.length<64
    .rw[if_pos c]at h
     cases h;exact⟨ds,res,av,aC,c,rfl,rfl⟩
    .rw[if_neg c]at h;cases h
   .cases h
  .cases h
 refine alw (rE I aV hm S_ ?_);refine callWith_kw ?_ he iU rfl rfl;refine bV ((z4 ak EE aj) pos zn s Y H (λvs H1=>∃v aJ,vs=[v]/\Go O aJ H H1/\cN X.K X.mg aJ xw S1 Y H1/\eN X.K X.mg aJ H1 x v) I ⟨O,xw,S,x,S1,st,ae,λaJ v H1 g1 aU bp nn=>⟨v,aJ,rfl,g1,aU,bp⟩⟩) λus s1 aW=>?_
 obtain⟨vs,H1,a9,bB,v,aJ,ev,g1,aU,bp⟩:=aW;subst ev;obtain⟨l,ys,rfl,ar,bl⟩:=R.nI bp oA;obtain⟨u,rfl,d9⟩:=vals1 bB;cases d9;refine wpAny_evalAll_cons (ajV (bV (dA zn s1 Y aJ H1 a9 aU.cp) λu s2 aw=>ajV (an8 (aj1 ?_))));obtain⟨f,aM,G,rfl,bU,g2,da,Cv,fF⟩:=aw;refine wpAny_evalAll_nil ?_;show wpAny _ _ (call (.builtin "max") [.ref l] [(aki "key",.ref f)]) _ _ _;refine bV (aap bU da (bl.go g2) (g2.same.seq ar) fF Cv aA Yq) λu s3 aW=>?_
 obtain⟨eM,cT,v,dF,g3,ni,EY,E6⟩:=aW;exact⟨v,cT,dF,E6,q eM _ cT (g1.trans (g2.trans g3)) (aU.go (g2.trans g3) ni) EY trivial⟩
def TB{c P:Addr}{q p1:Str}{params:am1}{body:Expr}{scope:Scope}{rG:Pos}{N:List Str}{m:bg}(aV:eF X "max")(hm:X.mg "max"=none)(aA:cF (k+3) X.A)(L:nd X.K c P q)(B:ky X.base X.mg)(nD:X.env.code=.ref c)
  (a8:X.env.qual++aki "<lambda>"=q) (Sc:b9 N [p1] scope)
  (mu:∀(c:Addr)(pm g9 u:Value),ame (W.kla_fn (aki "<lambda>") q params body scope [] pm (.ref c) g9) ⟨[u],[]⟩=pure [(p1,u)])
  (ab:∀(f c:Addr)(A:akl)(s:ajZ)(H:ax),cF k (A.deeper (amJ q scope s.heap.objs.size f (.ref c)))->hC (g_ eE X.prog X.w X.K X.mg X.base N q scope f (.ref c) A X.stack s H i8).gD body m)
  (ak:hC X e cR) (oy:aol params X.env=([],[]):=by rfl) (jM:amu scope X.env=pure []:=by rfl)
  (he:akr pos (ajY [e] X.env)=(false,eval e X.env)::akr pos (ajY [] X.env):=by rfl)
  (aj:ajY [e] X.env=(false,eval e X.env)::ajY [] X.env:=by rfl)
  (iU:(akr pos (ajY [e] X.env)).any (·.1)=false:=by rfl) :
  hC X (.Call (.Name "max" p) [e] [⟨some (aki "key"),.Lambda params body scope rG,kp⟩] pos) (yc (fnOf 1 N.length (bw m)) cR):=
 TA (k:=k+1) aV hm (aA.mono (by omega)) ak (λzn s Y O H I cL=>bV (Lh I cL L B nD a8 oy jM) λu aP ⟨f,c',pm,g9,H',jI,hZ,g',d',n4⟩=>
  ⟨f,H',_,jI,hZ,g',d',n4,Li Sc (mu c' pm g9) (ab f c')⟩) he aj iU
end
end aZ
namespace aZ
open PySem PySem.Spec aE PyProof.Rows
variable[aE.a5]
section
variable{X:aS}{scope esc:Scope}{EN N:List Str}{cap:List Nat}{elt a e2:Expr}{ifs:List Expr}{pos d2 p dp p1 dv:Pos}{x y:Str}{t:aQ->M Bool}{el:bg}{ms:c8}{k:Nat}
def agm(S:la esc scope EN N 2 cap)(ro:eF X "zip")(hm:X.mg "zip"=none)(ak:gK X [a,e2] ms)(ag:N[0]? = some x)(ba:N[1]? = some y)
  (iT:∀C aK s H,Loc (cx X scope N C aK s H).env.scope x/\(cx X scope N C aK s H).env.scope.names.lookup x=some .local) (rr:∀C aK s H,Loc (cx X scope N C aK s H).env.scope y/\(cx X scope N C aK s H).env.scope.names.lookup y=some .local)
  (bM:∀C aK s H,pP (cx X scope N C aK s H) ifs t) (h_:∀C aK s H,a_ (cx X scope N C aK s H) elt el)
  (he:X.env.scope=esc:=by rfl) (hN:X.N=EN:=by rfl) (aD:X.calm=true:=by rfl) (aj:∀x,akN (.Call (.Name "zip" p) [a,e2] [] dp) X.env x=pure x:=by intro _;rfl)
  (oG:ajY [a,e2] X.env=[(false,eval a X.env),(false,eval e2 X.env)]:=by rfl) (kQ:ajY [e2] X.env=[(false,eval e2 X.env)]:=by rfl)
  (mA:∀C aK s H,(akp [.Name x p1,.Name y dv] (cx X scope N C aK s H).env).length=2/\(akp [.Name x p1,.Name y dv] (cx X scope N C aK s H).env).findIdx? (·.1)=none/\
   (akp [.Name x p1,.Name y dv] (cx X scope N C aK s H).env).map (·.2)=amr (.Name x p1) (cx X scope N C aK s H).env::(akp [.Name y dv] (cx X scope N C aK s H).env).map (·.2)/\
   (akp [.Name y dv] (cx X scope N C aK s H).env).map (·.2)=amr (.Name y dv) (cx X scope N C aK s H).env::(akp [] (cx X scope N C aK s H).env).map (·.2):=by intros;exact⟨rfl,rfl,rfl,rfl⟩) :
  a_ X (.ListComp elt [⟨.Tuple [.Name x p1,.Name y dv] k d2,.Call (.Name "zip" p) [a,e2] [] dp,ifs,0⟩] scope pos) (uV cap ms t el):=
 ⟨Tz S ro hm ak.un ag ba iT rr (λC aK s H=>(bM C aK s H).un) (λC aK s H=>(h_ C aK s H).un) he hN aD aj oG kQ mA⟩
end
def agO{X:aS}{pos d2:Pos}{is:List Nat}{ay:List Expr}{k:Nat}{p dp:Pos}{a e2:Expr}{ms:c8}{body:List Stmt}{b:aX}(aH:anQ (model X.prog X.w) X.A X.env X.dV)(aD:X.calm=true)(ro:eF X "zip")(hm:X.mg "zip"=none)(ak:gK X [a,e2] ms)(aV:l7 X ay (jK is))(ab:fm X body b)
  (aF:(akp ay X.env).length=is.length:=by rfl) (f9:(akp ay X.env).findIdx? (·.1)=none:=by rfl)
  (aj:∀x,akN (.Call (.Name "zip" p) [a,e2] [] dp) X.env x=pure x:=by intro _;rfl) (oG:ajY [a,e2] X.env=[(false,eval a X.env),(false,eval e2 X.env)]:=by rfl) (kQ:ajY [e2] X.env=[(false,eval e2 X.env)]:=by rfl) :
  fa X (.For (.Tuple ay k d2) (.Call (.Name "zip" p) [a,e2] [] dp) body [] pos) (sS is ms b):=⟨TU aH aD ro hm ak.un aV ab.un aF f9 aj oG kQ⟩
section
variable{X:aS}{k:Nat}{e:Expr}{cR:bg}{p pos kp:Pos}
def agq{c P:Addr}{q p1:Str}{params:am1}{body:Expr}{scope:Scope}{rG:Pos}{N:List Str}{m:bg}(aV:eF X "max")(hm:X.mg "max"=none)(aA:cF (k+3) X.A)(L:nd X.K c P q)(B:ky X.base X.mg)(nD:X.env.code=.ref c)
  (a8:X.env.qual++aki "<lambda>"=q) (Sc:b9 N [p1] scope)
  (mu:∀(c:Addr)(pm g9 u:Value),ame (W.kla_fn (aki "<lambda>") q params body scope [] pm (.ref c) g9) ⟨[u],[]⟩=pure [(p1,u)])
  (ab:∀(f c:Addr)(A:akl)(s:ajZ)(H:ax),cF k (A.deeper (amJ q scope s.heap.objs.size f (.ref c)))->a_ (g_ eE X.prog X.w X.K X.mg X.base N q scope f (.ref c) A X.stack s H i8).gD body m)
  (ak:a_ X e cR) (oy:aol params X.env=([],[]):=by rfl) (jM:amu scope X.env=pure []:=by rfl)
  (he:akr pos (ajY [e] X.env)=(false,eval e X.env)::akr pos (ajY [] X.env):=by rfl)
  (aj:ajY [e] X.env=(false,eval e X.env)::ajY [] X.env:=by rfl)
  (iU:(akr pos (ajY [e] X.env)).any (·.1)=false:=by rfl) :
  a_ X (.Call (.Name "max" p) [e] [⟨some (aki "key"),.Lambda params body scope rG,kp⟩] pos) (yc (fnOf 1 N.length (bw m)) cR):=
 ⟨TB aV hm aA L B nD a8 Sc mu (λf c A s H aA=>(ab f c A s H aA).un) ak.un oy jM he aj iU⟩
end
omit [aE.a5]in
section
open dZ
variable{prog:akh}{w:World}{A:akl}{E:cB}{s:ajZ}
omit [aE.a5]in
theorem V2{t cS:Addr}{items:Array Value}{g4 g5:Value}{lo aB:Option Int}{Q:cB}(bM:IsTup s.heap t items)(aj:s.heap.IsSliceOf cS g4 g5 .none)(pl:anw g4 lo)(pu:anw g5 aB)
  (hw:cU items.size 0 lo=0/\cU items.size items.size aB=items.size)
  (h:Q (.ref t) s):wpAny (model prog w) A (am6 (.ref t) (.ref cS)) Q E s:=by
 obtain⟨os,ru,yU,oA⟩:=id aj;have CI:s.TypeIs (.ref cS) "slice":=⟨os,ru,yU⟩;unfold am6
 try with_reducible refine alj ?_
 first|refine ajV (aj1 ?_)|skip
 refine ajV (wpAny_sequenceKey bM.typeIs (by decide) ?_);refine ajV (alB (name:=aki "__getitem__") bM.typeIs ald
  (amh ald bM.typeIs entry_tuple_getitem ?_ (args_tuple_getitem _ _)))
 show wpAny _ _ (an6 (.ref t) >>= _) _ _ s;refine ajV (tupleItemsOf_ bM ?_);refine ajV (wpAny_typeOf CI ?_);rw[if_pos (by decide)];refine ajV (OI aj pl pu ?_);rw[hw.1,hw.2];show wpAny _ _ (if((((0:Nat):Int))==0&&(1:Int)==1&&(items.size-0)==items.size)=true then _ else _) _ _ s;rw[if_pos (by simp)];refine ajV (m:=Builtin.Tuple.tupleIsExact _) (ajV (wpAny_typeOf bM.typeIs (aj1 ?_)));rw[if_pos (by decide)];refine ajV (anA ?_)
 first
  |exact ajV (aj1 (aj1 ⟨_,rfl,aj1 h⟩))
  |exact ajV (aj1 ⟨_,rfl,aj1 h⟩)
  |exact aj1 ⟨_,rfl,aj1 h⟩
omit [aE.a5]in
omit [aE.a5]in
omit [aE.a5]in
end
def ac2(K:aT):V->Option Int->Option Int->ax->cX->Prop:=λx lo aB H Q=>∃a xs,x=.ref a/\dD K H a xs/\(dZ.cU xs.length 0 lo=0/\dZ.cU xs.length xs.length aB=xs.length)/\Q (.ref a) H
omit [aE.a5]in
theorem aeO:pM X (ac2 X.K):=by
 intro zn s Y H x v g4 g5 lo aB cS Q I a4 aj pl pu h;obtain⟨a,xs,rfl,ag,hw,q⟩:=h;cases a4;obtain⟨its,r,bM,hz⟩:=I.tuple ag;have hlen:its.toArray.size=xs.length:=by rw[aka];exact r.length.symm
 refine⟨"tuple",_,ald.lookup,bM.typeIs,?_⟩;exact V2 bM aj pl pu (by rw[hlen];exact hw) ⟨.ref a,H,I,rfl,q⟩
def Ek(x:R)(lo aB:Option Int):M R:=
 match x with
 |.v (.t xs)=>pure (.v (.t (cutD xs lo aB)))|_=>bad
@[simp] def BD(a:bg)(lo aB:pG)(Y:aQ):M R:=do
 let x <-a Y
 let l <-lo Y
 let h <-aB Y
 Ek x l h
def TV{α:Type}{xs:List α}{lo aB:Option Int}(h:dZ.cU xs.length 0 lo=0/\dZ.cU xs.length xs.length aB=xs.length):cutD xs lo aB=xs:=by
 unfold cutD;rw[h.1,h.2,List.drop_zero,Nat.sub_zero,ane (aj0 _)]
section
variable{X:aS}{e st:Expr}{m:bg}{lo aB:Option Expr}{kW wc:pG}{pos dv p:Pos}
theorem agz(he:a_ X e m)(ar:sJ X lo kW)(cy:sJ X aB wc):a_ X (.Subscript e (.Slice lo aB none dv) pos) (BD m kW wc):=⟨eg (MD (aeO.or OH) he.un ar.un cy.un) λau H Q aW=>by
 obtain⟨O,Y,S,r,S',st,h,q⟩:=aW;obtain⟨x,S1,ae,ak⟩:=M.inv h;clear h;obtain⟨l,bh,ah,ab⟩:=M.inv ak;clear ak;obtain⟨u,h4,bN,h⟩:=M.inv ab;clear ab;refine⟨O,Y,S,x,S1,st,ae,λaJ gf H1 g1 aU a4 bj=>?_⟩;refine⟨aJ,Y,S1,l,bh,aU,ah,λbq aM g2 cV=>?_⟩;refine⟨bq,Y,bh,u,h4,cV,bN,λeM cT g3 gZ=>?_⟩;have g:=(g1.trans g2).trans g3;have Ae:=a4.go (g2.trans g3);unfold Ek at h;split at h
 .rename_i xs
  cases h;obtain⟨a,ys,rfl,cb,bl⟩:=Ae
  by_cases c:dZ.cU xs.length 0 l=0/\dZ.cU xs.length xs.length u=xs.length
  .refine .inl ⟨a,ys,rfl,cb,by rw[bl.len];exact c,?_⟩
   rw[TV c]at q;exact q eM _ _ g gZ ⟨a,ys,rfl,cb,bl⟩ trivial
  .exact .inr ⟨a,ys,rfl,cb,by rw[bl.len];exact c,λp aH=>q eM _ _ (g.trans (Go.fu aH)) (gZ.fu aH) ⟨p,_,rfl,dD.of dy,(bl.cut l u).go (Go.fu aH)⟩ trivial⟩
 .cases h⟩
end
omit [aE.a5]in
@[simp] theorem ai3{l h:Option Int}:Ek (.v (.t xs)) l h=pure (.v (.t (cutD xs l h))):=rfl
end aZ
namespace aZ
open PySem PySem.Spec aE
def qM(m:eX):aQ->N Bool:=λY=>do
 let r <-m Y
 r.lT.up
def qL(a:aQ->N Bool):aQ->N Bool:=λY=>do
 let t <-a Y
 pure (!t)
def uu(a b:aQ->N Bool):aQ->N Bool:=λY=>do
 let t <-a Y
 if t=true then pure true else b Y
variable[aE.a5]
section
variable{X:aS}{o e i f value a b:Expr}{ay rest:List Expr}{c:Str}{ns:List Str}{mo mk:bg}{ms:c8}{mv PI:eX}{bT cK:aQ->N Bool}{pos pos' apos dp vT:Pos}{g:List D->List R->M (R×List D)}{r:V->List V->ax->cX->Prop}{name:Str}{id:String}
theorem aho(T:pB X.K X.mg c ns){f:Str}(hf:f∈ns)(a':a_ X o mo)(bI:fo X value mv)(aj:alu value (some (.Attribute o f pos')) pos.line X.env=pure false:=by rfl):gL X (.Assign [.Attribute o f pos'] value pos) (eS c f mo mv):=⟨gW (acH a'.un bI.un aj) λD au H aW=>by
 obtain⟨O,Y,S,a7,S',st,h,q⟩:=aW;obtain⟨r,S1,ae,ak⟩:=N.inv h;clear h;obtain⟨d,bh,ah,ab⟩:=N.inv ak;clear ak;obtain⟨x,h4,bN,aD⟩:=N.inv ab;clear ab;obtain⟨bx,pL,dq,h⟩:=N.inv aD;clear aD;refine⟨O,Y,S,r,S1,st,ae,λaJ v H1 g1 aU bp nn=>?_⟩;obtain⟨bb,rfl⟩:=pV (H₀:=H) bp nn ah;obtain rfl:=(mo Y).es _ _ _ bN;refine⟨ck H aJ,Y,_,x,_,(aU.ck H).s3,bN,λbq gf aM g2 cV a4 bj=>?_⟩;have Fo:=(aU.ck H).go g2 cV.cp;obtain⟨n,b,rfl,rfl,aF,sn,hg⟩:=tU cV a4 dq;obtain rfl:=(gc (.v (.ref n))).es _ _ _ dq;split at h
 .rename_i c' aY
  split at h
  .rename_i rn
   obtain⟨rfl,CF⟩:=rn;cases h;obtain⟨C,b7,jJ,d6,ci,il⟩:=hg;obtain⟨l2,av,aC,_,fD⟩:=T.ex;cases av.symm.trans ci.1;refine⟨b,C,b7,jJ,rfl,d6,aC,fD f hf,by rw[il.len];exact CF,?_⟩;obtain⟨fl,js⟩:=Fo.write (u':=.ins C b7 (ik f v jJ)) (o:=.bx c' (iI f d aY)) aF d6 (by rintro(⟨_,z⟩|⟨_,_,z⟩)<;>cases z) (by intro _ z;cases z) (by intro _ z;cases z) λk=>
    ⟨C,b7,_,dy,ci,(MR (f:=f) (v:=v) jJ).symm▸d4.iI f (k _ _ (Rep.go g2 bb)) ⟨il.1,il.2.imp k⟩⟩
   exact q bq au _ ((g1.ck.trans g2.dY).trans fl).eJ js
  .cases h
 .cases h⟩
theorem ahp(cy:X.A.units+64<cLine)(a':a_ X o mo)(aw:a_ X i mk)(bI:fo X value mv)(aj:alu value (some (.Subscript o i pos')) pos.line X.env=pure false:=by rfl):gL X (.Assign [.Subscript o i pos'] value pos) (jw mo mk mv):=⟨gW (ML (by omega) a'.un aw.un bI.un aj) λD au H aW=>by
 obtain⟨O,Y,S,a7,S',st,h,q⟩:=aW;obtain⟨r,S1,ae,ak⟩:=N.inv h;clear h;obtain⟨d,bh,ah,ab⟩:=N.inv ak;clear ak;obtain⟨x,h4,bN,aD⟩:=N.inv ab;clear ab;obtain⟨y,sG,ep,hd⟩:=N.inv aD;clear aD;obtain⟨bx,pL,dq,h⟩:=N.inv hd;clear hd;refine⟨O,Y,S,r,S1,st,ae,λaJ v H1 g1 aU bp nn=>?_⟩;obtain⟨bb,rfl⟩:=pV (H₀:=H) bp nn ah;obtain rfl:=(mo Y).es _ _ _ bN;obtain rfl:=(mk Y).es _ _ _ ep;refine⟨ck H aJ,Y,_,x,_,(aU.ck H).s3,bN,λbq gf aM g2 cV a4 bj=>?_⟩;refine⟨bq,Y,_,y,_,cV,ep,λeM um cT g3 gZ bz Ml=>?_⟩;have vj:=g2.trans g3;have ae6:=(aU.ck H).go vj gZ.cp;obtain⟨n,b,rfl,rfl,aF,sn,hg⟩:=tU gZ (a4.go g3) dq;obtain rfl:=(gc (.v (.ref n))).es _ _ _ dq;split at h
 .rename_i aq kd
  split at h
  .rename_i key fE
   split at h
   .rename_i CF
    cases h;obtain⟨dC,d6,il⟩:=hg;obtain rfl:=Dy (show Rep X.K X.mg eM cT kd um from bz) fE;refine⟨b,_,rfl,pC.k (k:=key) d6 (by rw[il.len];exact eQ (ak8 CF)),?_⟩;obtain⟨fl,js⟩:=ae6.write (u':=.ff (putK dC key v)) (o:=.cH (gz aq key d)) aF d6 (by rintro(⟨_,z⟩|⟨_,_,z⟩)<;>cases z) (by intro _ z;cases z) (by intro _ z;cases z) λk=>
     ⟨_,dy,d4.put key (k _ _ (Rep.go vj bb)) ⟨il.1,il.2.imp k⟩⟩
    exact q eM au _ ((g1.ck.trans vj.dY).trans fl).eJ js
   .cases h
  .cases h
 .cases h⟩
theorem ahr{lX}(cy:X.A.units+64<cLine)(a':a_ X o mo)(aw:gK X ay ms)(bI:fo X value mv)(aj:alu value (some (.Subscript o (.Tuple ay lX vT) pos')) pos.line X.env=pure false:=by rfl):gL X (.Assign [.Subscript o (.Tuple ay lX vT) pos'] value pos) (xo mo ms mv):=⟨gW (ML (by omega) a'.un (EI aw.un) bI.un aj) λD au H aW=>by
 obtain⟨O,Y,S,a7,S',st,h,q⟩:=aW;obtain⟨r,S1,ae,ak⟩:=N.inv h;clear h;obtain⟨d,bh,ah,ab⟩:=N.inv ak;clear ak;obtain⟨x,h4,bN,aD⟩:=N.inv ab;clear ab;obtain⟨rs,sG,ep,hd⟩:=N.inv aD;clear aD;obtain⟨bx,pL,dq,h⟩:=N.inv hd;clear hd;refine⟨O,Y,S,r,S1,st,ae,λaJ v H1 g1 aU bp nn=>?_⟩;obtain⟨bb,rfl⟩:=pV (H₀:=H) bp nn ah;obtain rfl:=(mo Y).es _ _ _ bN;obtain rfl:=(ms Y).es _ _ _ ep;refine⟨ck H aJ,Y,_,x,_,(aU.ck H).s3,bN,λbq gf aM g2 cV a4 bj=>?_⟩;refine⟨bq,Y,_,rs,_,cV,ep,λeM vs cT g3 gZ jm Mh=>?_⟩;have vj:=g2.trans g3;obtain⟨n,b,rfl,rfl,aF,sn,hg⟩:=tU gZ (a4.go g3) dq;obtain rfl:=(gc (.v (.ref n))).es _ _ _ dq;split at h
 .rename_i aq key fE
  split at h
  .rename_i rn
   cases h;have ev:=Dz fE jm;refine⟨ak8 (eQ (by rw[gg.len jm];exact rn.1)),λp aH=>?_⟩;have nz:=vj.trans (Go.fu (O:=eM) (u:=.t vs) aH);have ae7:=(aU.ck H).go nz (gZ.fu (u:=.t vs) aH).cp;obtain⟨dC,d6,il⟩:=hg;have JM:upd cT p (.t vs) b=some (.hq dC):=by rw[dj (kb d6 aH)];exact d6
   have Nf:d4 X.K X.mg eM (upd cT p (.t vs)) aq dC:=⟨il.1,il.2.go (Go.fu aH)⟩;refine⟨b,_,rfl,pC.t (k:=key) JM (by rw[<-ev];exact dy) (by rw[il.len];exact eQ (ak8 rn.2)),?_⟩;obtain⟨fl,js⟩:=ae7.write (u':=.hq (putK dC key v)) (o:=.eI (gz aq key d)) aF JM (by rintro(⟨_,z⟩|⟨_,_,z⟩)<;>cases z) (by intro _ z;cases z) (by intro _ z;cases z) λk=>
    ⟨_,dy,d4.put key (k _ _ (Rep.go nz bb)) ⟨Nf.1,Nf.2.imp k⟩⟩
   exact q eM au _ ((g1.ck.trans nz.dY).trans fl).eJ js
  .cases h
 .cases h⟩
theorem ahu(slot:PySem.Slot "list" name id)(rx:typeOf (.builtin id)=pure (.type "method_descriptor"))(hm:xJ X id r)(hf:uz X.K X.mg r g)(a':a_ X o mo)(ak:gK X (e::ay) ms)
  (ox:alJ o name X.env (eval o X.env)=eval o X.env:=by rfl)
  (vC:((akr dp (ajY (e::ay) X.env)).all (λx=>!x.1)&&(alN dp (alm [] X.env)).all (λx=>x.1.isSome)
&&decide ((e::ay).length+([]:List am7).length+(if([]:List am7).isEmpty then 0 else 1)<30))=true:=by rfl)
  (oF:(apos.endLine==dp.line)=true:=by rfl) (aj:ajY (e::ay) X.env=(false,eval e X.env)::ajY ay X.env:=by rfl) (iU:(akr dp (ajY ay X.env)).any (·.1)=false:=by rfl)
  (mC:alu (.Call (.Attribute o name apos) (e::ay) [] dp) none pos.line X.env=pure false:=by rfl):gL X (.Expr (.Call (.Attribute o name apos) (e::ay) [] dp) pos) (qK g mo ms):=
 ⟨gW (EL (Mz aoF slot rx hm a'.un ak.un ox vC oF aj iU) mC) λD au H aW=>by
  obtain⟨O,Y,S,a7,S',st,h,q⟩:=aW;obtain⟨x,S1,ae,ak⟩:=N.inv h;clear h;obtain⟨rs,bh,ah,ab⟩:=N.inv ak;clear ak;obtain⟨bx,pL,dq,h⟩:=N.inv ab;clear ab;obtain rfl:=(mo Y).es _ _ _ ae;obtain rfl:=(ms Y).es _ _ _ ah;refine⟨O,Y,_,x,_,st.s3,ae,λaJ gf H1 g1 aU a4 bj=>?_⟩;obtain⟨n,b,rfl,rfl,aF,sn,hg⟩:=tU aU a4 dq;obtain rfl:=(gc (.v (.ref n))).es _ _ _ dq;split at h
  .rename_i xs
   obtain⟨⟨cq,ys⟩,sG,ep,h⟩:=N.inv h;cases h;obtain⟨zs,d6,bl⟩:=hg;refine⟨.inl ⟨rfl,_,dk.of d6⟩,aJ,Y,_,rs,_,aU,ah,λbq vs aM g2 cV bp nn=>?_⟩;have ti:bq.bK[n]? = some b:=by rw[g2.bK];exact aF
   have JL:=g2.same.at' _ _ d6;refine hf bq aM H1 b xs zs rs vs _ _ _ ys _ JL (bl.go g2) bp nn ep λv ws ay rw _=>?_
   subst ay;have Fo:=(st.go (g1.trans g2) cV.cp).ck H1;obtain⟨fl,js⟩:=Fo.write (u':=.l ws) (o:=.l ys) ti JL (by rintro(⟨_,z⟩|⟨_,_,z⟩)<;>cases z) (by intro _ z;cases z) (by intro _ z;cases z) λk=>⟨_,dy,rw.imp k⟩
   exact q _ au _ ((g1.trans g2.ck).dY.trans fl).eJ js
  .cases h⟩
theorem ahC(ak:fo X a PI)(he:∀whole,isTrue a X.env whole=(do let v <-whole;amG a.pos;alP [v] (truthy v)):=by intro _;rfl):kH X a (qM PI):=⟨r2 (MQ ak.un he) λau H Q aW=>by
 obtain⟨O,Y,S,t,S',st,h,q⟩:=aW;obtain⟨x,S1,ae,h⟩:=N.inv h;obtain⟨rfl,rfl⟩:=uh h;exact⟨O,Y,S,_,_,st,ae,λao v H' g cg bp _=>⟨t,bp,q ao H' g cg⟩⟩⟩
theorem ahA(ak:kH X a bT):kH X (.UnaryOp .Not a pos) (qL bT):=⟨r2 (MP ak.un) λau H Q aW=>by
 obtain⟨O,Y,S,r,S',st,h,q⟩:=aW;obtain⟨t,S1,ae,h⟩:=N.inv h;cases h;exact⟨O,Y,S,t,_,st,ae,λaJ H1 g1 aU=>q aJ H1 g1 aU⟩⟩
def ahE(ak:kH X a bT):sL X (.BoolOp .Or [a] pos) bT:=⟨MT ak.un⟩
theorem ahD(ak:kH X a bT)(ab:sL X (.BoolOp .Or (b::rest) pos) cK):sL X (.BoolOp .Or (a::b::rest) pos) (uu bT cK):=⟨ES (MS ak.un ab.un) λau H Q aW=>by
 obtain⟨O,Y,S,r,S',st,h,q⟩:=aW;obtain⟨t,S1,ae,h⟩:=N.inv h;refine⟨O,Y,S,t,S1,st,ae,λaJ H1 g1 aU=>?_⟩
 cases t with
 |true=>
  rw[if_pos rfl]at h;cases h;exact oL (q aJ H1 g1 aU)
 |false=>
  rw[if_neg aj6]at h;exact oK ⟨aJ,Y,S1,r,S',aU,h,λao H' g cg=>q ao H' (g1.trans g) cg⟩⟩
def sL.t(h:sL X a bT):kH X a bT:=⟨h.un.pt⟩
end
def ZX{P:akh}{w:World}{K:aT}{mg:bo}{base:Heap}{f:Addr}{fd:ale}{k:Nat}{mf:fb}(F:e9 P w K mg base eE k f fd ["script"] (dP K mg mf))
  (h:∀ns:List Int,ns.length<=63->∃S',(mf [.l (ns.map D.int)]).run []=.ok (.v (.az true)) S'):e9 P w K mg base eE k f fd ["script"] (w' K):=by
 refine F.imp λvs H Q E aW=>?_
 obtain⟨a,ns,e,cI,aF,cK,q⟩:=aW;subst e;obtain⟨S',h'⟩:=h ns aF;refine⟨⟨λ_=>.free,[]⟩,[.l (ns.map D.int)],_,[],S',⟨λa ak=>absurd rfl ak,cK,aly,λa m=>by cases m⟩,gi.nil,rfl,⟨_,_,rfl,⟨a,_,rfl,cI.imp (λz=>⟨z,by simp⟩) id,M9 ns⟩,rfl⟩,h',λao v H' _ _ _ _ bp _=>?_⟩;cases(show v=.az true from bp);exact q H'
end aZ
namespace aZ
open PySem PySem.Spec aE
def AH(bu:List Key)(ms:hF):eX:=λY=>do
 let rs <-ms Y
 let ds <-(kJ rs).up
 if ds.length=bu.length then(do
  let S <-vl
  putN (S++[.cH (bu.zip ds)])
  pure (.v (.ref S.length)))else gU
def xn(o:gI):eX:=λ_=>do
 let S <-vl
 putN (S++[o])
 pure (.v (.ref S.length))
theorem L2:∀{bu:List Key}{vs:List V}{aq:List (Key×V)},bu.Nodup->bu.length=vs.length->(∀k∈bu,∀p∈aq,p.1≠k)->qn aq (bu.zip vs)=aq++bu.zip vs
 |[],vs,aq,_,_,_=>by
  show aq=aq++_;rw[am9,ak6]
 | _::_,[],_,_,h,_=>by simp at h|k::bu,v::vs,aq,dU,ar,aF=>by
  have av:putK aq k v=aq++[(k,v)]:=by
   unfold putK;rw[if_neg];rw[aoB];rintro⟨p,aH,e⟩;exact aF k (aj9 ..) p aH (by simpa using e)
  show qn (putK aq k v) (bu.zip vs)=_;rw[av,L2 (akT.mp dU).2 (by simpa using ar),amE]
  .rfl
  .intro mH oE p aH
   rcases akx.mp aH with aH|aH
   .exact aF mH (aj4 _ oE) p aH
   .rw[akg]at aH
    subst aH;rintro rfl;exact(akT.mp dU).1 oE
variable[aE.a5]
section
variable{K:aT}{mg:bo}{O:a0}{H H':ax}{S:cG}{Y:aQ}{au:St}{p:Addr}{o:gI}
def ez.adopt(st:ez K mg O Y S au H)(np:p∉O.bK)(nl:∀i,O p≠.loc i)(same:∀b,b≠p->H' b=H b)(aH:H' p≠none)(kp:H' p=H p\/∀u,H p=some u->¬Fix u/\∀ys,u≠.l ys)(lv:O p=.free\/O p=.out->∀u,H p=some u->(∀ys,u≠.l ys)/\¬Fix u)(bS:TabsOk H->TabsOk H')
  (bx:(∀d v,Rep K mg O H d v->Rep K mg (hu O p) H' d v)->nf K mg (hu O p) H' p o):ez K mg (hu O p) Y (S++[o]) au H'/\(hu O p).bK[S.length]? = some p:=by
 have cL:=st.s3.cp;have aA:(hu O p).bK[S.length]? = some p:=by show(O.bK++[p])[S.length]? = _;rw[<-st.full,akk (aj0 _),alX];rfl
 have jf:dz O (hu O p) H H':=⟨λb u e h _=>by
  by_cases c5:b=p
  .subst c5
   rcases kp with kp|kp
   .rw[kp];exact e
   .obtain⟨gS,f_⟩:=kp u e
    exact h.elim (λz=>absurd z.2.2.choose_spec (f_ _)) λz=>absurd z gS
  .rw[same b c5];exact e,λb ys e f=>by
   rw[o6 (by rintro rfl;exact(lv (.inl f) _ e).1 ys rfl)];exact f,anW _ _⟩
 have f:∀d v,Rep K mg O H d v->Rep K mg (hu O p) H' d v:=λ_ _ z=>Rep.jf jf cL.ct z
 have bb:∀{b:Addr}{ws:List V},fV H b (.l ws)->(O b=.free\/O b=.out)->b≠p:=λ{b ws} h hf=>by
  rintro rfl;rcases h with h|⟨x,h⟩
  .exact(lv hf _ h).1 ws rfl
  .exact(lv hf _ h).2 (.inr ⟨_,_,rfl⟩)
 have wV:∀{b:Addr}{ws:List V},b≠p->fV H b (.l ws)->fV H' b (.l ws):=λ{b ws} nb h=>by unfold fV;rw[same b nb];exact h
 refine⟨⟨⟨⟨λb ab=>?_,bS cL.tabs,Me cL np⟩,st.s3.len,λi s e=>?_,λn o' e=>?_⟩,?_,λi zs e=>?_⟩,aA⟩
 .by_cases c5:b=p
  .rw[c5];exact aH
  .rw[o6 c5]at ab;rw[same b c5];exact cL.has b ab
 .have lo:=st.s3.loc i s e
  cases s with
  |e=>exact trivial|v d=>obtain⟨v,q,r⟩:=lo;exact⟨v,q,f _ _ r⟩
  |er qu zs=>
         obtain⟨b,ws,q,hv,cz,r⟩:=lo;have nb:b≠p:=by rintro rfl;exact nl i hv
         exact⟨b,ws,q,(o6 nb).trans hv,by rw[same b nb];exact cz,r.imp f⟩
  |cu zs=>obtain⟨b,ws,q,cz,r⟩:=lo;exact⟨b,ws,q,cz.imp (λz=>⟨wV (bb z.1 z.2) z.1,by rw[o6 (bb z.1 z.2)];exact z.2⟩) id,r.imp f⟩
 .by_cases aF:n<S.length
  .rw[akq aF]at e
   obtain⟨b,av,aC⟩:=st.s3.gF n o' e;have nb:b≠p:=by rintro rfl;exact np (akL av)
   exact⟨b,by show(O.bK++[p])[n]? = _;rw[akq (by rw[st.full];exact aF)];exact av,aC.all f λ_ l _=>by rw[same b nb];exact l⟩
  .rw[akk (by omega)]at e
   obtain rfl:n=S.length:=by
    have:=(aj2.mp e).1;simp at this;omega
   rw[alX]at e;cases e;exact⟨p,aA,bx f⟩
 .show(O.bK++[p]).length=_
  rw[aj7,aj7,st.full];rfl
 .obtain⟨b,ws,q,cz,r⟩:=st.uk i zs e
  exact⟨b,ws,q,cz.imp (λz=>⟨wV (bb z.1 z.2.1) z.1,by rw[o6 (bb z.1 z.2.1)];exact z.2.1,λm=>(akx.mp m).elim z.2.2 λw=>bb z.1 z.2.1 (akg.mp w)⟩) id,r.imp f⟩
theorem fz.adopt{pH:a0}{H₀:ax}(g:fz pH O H₀ H)(h0:H₀ p=none)(same:∀b,b≠p->H' b=H b)(bS:TabsOk H->TabsOk H'):fz pH (hu O p) H₀ H':=by
 have nb:∀{b:Addr},H₀ b≠none->b≠p:=λh=>by rintro rfl;exact h h0
 exact⟨λb o e h n=>by rw[same b (nb (jq e))];exact g.cells b o e h n,λb ab=>(o6 (nb ab)).trans (g.own b ab),λb ab=>by rw[same b (nb ab)];exact g.has b ab,
  λb ps e=>by rw[same b (nb (jq e))];exact g.cK b ps e,λt=>bS (g.bS t),g.bK.trans (anW _ _),λb m=>(akx.mp m).elim (g.new b) λz=>.inr (by rw[akg.mp z];exact h0)⟩
end
section
variable{X:aS}{e:Expr}{m:eX}{ms:hF}{pos:Pos}
def ahj(he:fo X e m):fo X e (kq m):=⟨eg he.un λau H Q aW=>by
 obtain⟨O,Y,S,r,S',st,h,q⟩:=aW;obtain⟨x,S1,ae,h0⟩:=N.inv h;clear h;refine⟨O,Y,S,x,S1,st,ae,λaJ v H1 g1 aU bp nn=>?_⟩;split at h0
 .rename_i xs
  obtain⟨Qg,bh,ah,h⟩:=N.inv h0;clear h0;cases ah;cases h;obtain⟨a,ys,rfl,l,t,bl⟩:=bp;obtain⟨s1,aA⟩:=aU.adopt (H':=H1) (p:=a) (o:=.l xs) (aU.s3.cp.ct.no t (by intro z;cases z)) (λi z=>by rw[t]at z;cases z) (λ_ _=>rfl) (jq l) (.inl rfl) (λz=>by rw[t]at z;rcases z with z|z<;>cases z) id λf=>⟨ys,l,bl.imp f⟩
  exact q _ _ H1 (g1.adopt (nn a rfl) (λ_ _=>rfl) id) s1 ⟨a,rfl,aA⟩ trivial
 .cases h0⟩
structure xS(X:aS)(pos:Pos)(keys:List (Option Expr))(values:List Expr)(bu:List Key)(ms:hF):Prop where
 ex:∃km,uI X pos keys values km/\∀au H (Q:List (V×V)->ax->Prop),AK X.K X.mg ms au H (λvs H'=>Q ((bu.zip vs).map λkv=>(cC kv.1,kv.2)) H')->xd km au H Q
def ahc:xS X pos [] [] [] kr:=⟨[],acE,λau H Q aW=>by
 obtain⟨O,Y,S,r,S',st,h,q⟩:=aW;cases h;exact q O [] H (Go.refl _ _).dY st rfl trivial⟩
def ahb{key:Str}{i:Nat}{eY:Pos}{v:Expr}(bI:fo X v m)(aA:xS X pos keys values bu ms) :
  xS X pos (some (.Constant (.str key) i eY)::keys) (v::values) (.inr key::bu) (i3 m ms):=by
 obtain⟨km,ae,ah⟩:=aA.ex;refine⟨_,acD ME bI.un ae,λau H Q ⟨O,Y,S,r,S',st,h,q⟩=>?_⟩;obtain⟨x,S1,av,ak⟩:=N.inv h;clear h;obtain⟨xs,bh,aC,h⟩:=N.inv ak;clear ak;split at h
 .rename_i f9
  cases h;show AL _ _ _ au H λy aM=>xd km au aM λps cT=>Q ((V.str key,y)::ps) cT
  refine⟨O,Y,S,x,S1,st,av,λaJ y H1 g1 aU a4 bj=>ah _ _ _ ?_⟩;exact⟨aJ,Y,S1,xs,_,aU,aC,λbq vs aM g2 cV rs ns=>q bq (y::vs) aM (g1.trans g2) cV ⟨y,vs,rfl,a4.dY g2 aU.s3.cp.ct f9,rs⟩ ⟨bj,ns.dY g1⟩⟩
 .cases h
theorem ahe{keys:List (Option Expr)}{values:List Expr}{bu:List Key}(h:xS X pos keys values bu ms)(hall:keys.all (·.isSome)=true:=by rfl)(ar:keys.length=values.length:=by rfl)(h0:keys≠[]:=by simp)(CG:keys.length<=15:=by decide)
  (aw:bu.Nodup/\bu.length<=15:=by decide +kernel):fo X (.Dict keys values pos) (AH bu ms):=by
 obtain⟨km,ae,ah⟩:=h.ex;refine⟨eg (ab4 ae hall ar h0 CG) λau H Q ⟨O,Y,S,t,S',st,h,q⟩ a ak=>ah _ _ _ ?_⟩;obtain⟨rs,S1,av,ab⟩:=N.inv h;clear h;obtain⟨ds,bh,aC,h⟩:=N.inv ab;clear ab;obtain rfl:=(kJ rs).es _ _ _ aC;have iR:Go O O H (upd H a (.ff [])):=Go.fu ak;refine⟨O,Y,S,rs,bh,st.go iR (st.s3.fu ak).cp,av,λbq vs aM g2 cV bp nn=>?_⟩;obtain⟨bb,_⟩:=yn (H₀:=upd H a (.ff [])) bp nn aC;have nB:aM a=some (.ff []):=g2.cells _ _ dy (.inl (st.s3.cp.Ee ak));have aaE:a∉bq.bK:=λm=>(g2.new a m).elim (st.s3.cp.Ee ak) (by rw[dy];intro z;cases z)
 split at h
 .rename_i hlen
  cases h;have ia:bu.length=vs.length:=by rw[bb.len,hlen]
  have hm:qn [] (bu.zip vs)=bu.zip vs:=L2 aw.1 ia (λ_ _ p aH=>by cases aH);refine⟨nB,bu.zip vs,rfl,by rw[anB];omega,?_⟩;rw[hm];have gZ:=cV.ck (upd H a (.ff []));have zW:ck (upd H a (.ff [])) bq a=.free:=by rw[yG (by rw[dy];intro z;cases z),g2.own a (by rw[dy];intro z;cases z)];exact st.s3.cp.free ak
  have bS:TabsOk aM->TabsOk (upd aM a (.ff (bu.zip vs))):=λt=>t.put _ (λps=>by rw[nB];intro z;cases z) (λq=>by rw[nB];intro z;cases z)
  have hU:∀b,b≠a->upd aM a (.ff (bu.zip vs)) b=aM b:=λb nb=>dj nb
  have fJ:∀u,aM a=some u->¬Fix u/\∀ys,u≠.l ys:=λu e=>by rw[nB]at e;cases e;exact⟨(by rintro(⟨_,z⟩|⟨_,_,z⟩)<;>cases z),λ_ z=>by cases z⟩
  obtain⟨s1,aA⟩:=gZ.adopt (H':=upd aM a (.ff (bu.zip vs))) (p:=a) (o:=.cH (bu.zip ds)) aaE (λi z=>by rw[zW]at z;cases z) hU (by rw[dy];intro z;cases z) (.inr fJ) (λ_ u e=>⟨(fJ u e).2,(fJ u e).1⟩) bS λf=>
   ⟨bu.zip vs,dy,by
    rw[anl (alF hlen.symm),anl (alF ia)],by
    rw[List.map_snd_zip (alF hlen),List.map_snd_zip (alF ia.symm)];exact bb.imp f⟩
  exact q _ _ _ ((iR.dY.trans g2.ck).adopt ak hU bS) s1 ⟨a,rfl,aA⟩ trivial
 .cases h
def Vg(aH:∀{O:a0}{H:ax}{p:Addr},nf X.K X.mg O (upd H p u) p o)(he:bQ X e λY H Q=>∀p,H p=none->Q (.ref p) (upd H p u)):fo X e (xn o):=⟨eg he λau H Q aW p aF=>by
 obtain⟨O,Y,S,r,S',st,h,q⟩:=aW;cases h;obtain⟨g,d,eu,a7⟩:=alloc (o:=o) st.s3.cp st.s3.gF st.full aF (r5 aF u) (by rw[dy];intro z;cases z) λ_=>aH
 refine q _ _ _ g (st.dY g d eu a7) ⟨p,rfl,?_⟩ trivial;show(O.bK++[p])[S.length]? = _;rw[<-st.full,akk (aj0 _),alX];rfl⟩
def ahf:fo X (.Dict [] [] pos) (xn (.eI [])):=Vg ⟨[],dy,rfl,rfl⟩ ab5
end
end aZ
namespace aZ
open PySem PySem.Spec aE
variable[aE.a5]
structure AW(K:aT)(x qual:Str)(st:Stmt)(f:Addr)(fd:ale):Prop where
 ex:∃(cZ:Value)(df:Option Addr)(q6 cC doc pm:Value)(an:Option Addr)(br b5:Value)(fv:Array (Option Value)),
  fd=alL x qual (h7 st) (fq st) (bF st) q6 cC doc pm an br b5/\K.lookup f=some ⟨cZ,df,.func fd,fv⟩/\anI K br qual=true
 kp:alW K (.ref f)=true
def AW.ok{P:akh}{w:World}{K:aT}{mg:bo}{base:Heap}{x qual:Str}{st:Stmt}{f:Addr}{fd:ale}{N ps:List Str}{k:Nat}{sp:ed}(F:AW K x qual st f fd)(S:b9 N ps (bF st))(len:∀vs H Q E,sp vs H Q E->vs.length=ps.length)
  (vw:∀(br:Value)(A:akl)(outer:List Env)(s:ajZ)(H:ax)(vs:List V)(Q:cX)(E:gy),cF k (A.deeper (ala qual (bF st) s.heap.objs.size f br))->sp vs H Q E->
   ∃t,iN (g_ eE P w K mg base N qual (bF st) f br A outer s H E).gD (fq st) t/\t { bj:=λ_ H'=>Q .aI H',cJ:=Q } (start N vs) H):e9 P w K mg base eE (k+1) f fd ps sp:=by
 obtain⟨cZ,df,q6,cC,doc,pm,an,br,b5,fv,rfl,lk,gA⟩:=F.ex;refine Cq lk gA S len λA outer s H vs Q E aA hM=>?_
 obtain⟨t,h,q⟩:=vw br A outer s H vs Q E aA hM;exact⟨t,h.gD,q⟩
structure xC(K:aT)(mg:bo)(c m qual:Str)(st:Stmt)(ps:List Str):Prop where
 ex:∃C f fd,mg c=some (.ref C)/\i7 K C/\Meth K C m f/\AW K m qual st f fd/\Binds K fd ps []/\Binds K fd ps [.none]
structure AY(P:akh)(w:World)(K:aT)(mg:bo)(base:Heap)(c m:Str)(ps:List Str)(k:Nat)(sp:ed):Prop where
 all:dK P w K mg base c m ps k sp
 ex:∃C f fd,mg c=some (.ref C)/\i7 K C/\Meth K C m f/\e9 P w K mg base eE k f fd ps sp/\Binds K fd ps [.none]
def WA{P:akh}{w:World}{K:aT}{mg:bo}{base:Heap}{c m qual:Str}{st:Stmt}{ps N:List Str}{k:Nat}{c6:bf}{n nl:Nat}(cn:xC K mg c m qual st ps)(Sc:b9 N ps (bF st))(aF:ps.length=n)(ar:N.length=nl)
  (ab:∀(f:Addr)(br:Value)(A:akl)(outer:List Env)(s:ajZ)(H:ax)(E:gy),cF k (A.deeper (ala qual (bF st) s.heap.objs.size f br))->
   jY (g_ eE P w K mg base N qual (bF st) f br A outer s H E).gD (fq st) c6):AY P w K mg base c m ps (k+1) (dP K mg (fnX n nl c6)):=by
 obtain⟨C,f,fd,hb,cl,me,F,ho,b⟩:=cn.ex;subst aF ar;have ok:=F.ok (P:=P) (w:=w) (mg:=mg) (base:=base) (sp:=dP K mg (fnX ps.length N.length c6)) Sc (λvs H Q E ⟨O,ds,r,S,S',cL,eu,Cs,dM,h,q⟩=>dM.r.len.trans (Co h)) λbr A outer s H vs Q E aA hM=>⟨_,(ab f br A outer s H E aA).un,Ig hM⟩
 exact⟨⟨C,f,fd,hb,cl,me,ok,ho⟩,⟨C,f,fd,hb,cl,me,ok,b⟩⟩
omit [aE.a5]in
theorem TK{K:aT}{h:Heap}{mg:bo}{c:Str}{C:Addr}{aY:List Str}(X:K.In h)(G:h.Ns akw mg)(a:anc K akw c=some (some (.ref C)))
  (wK:aoh K C Str.empty=true) (hd:aoM K C=true) (po:W.plainOver K C=true) (pe:al5 K (.ref C) "__setattr__"=some (some (.builtin "object.__setattr__"))) (mk:W.makesIn K C=true) (Dx:alW K (.ref C)=true)
  (na:∀f∈aY,al5 K (.ref C) f=some none):pB K mg c aY:=⟨C,anK X G a,⟨wK,hd,po,pe⟩,⟨mk,Dx⟩,na⟩
omit [aE.a5]in
theorem Ve{K:aT}{h:Heap}{mg:bo}{c m qual:Str}{C f:Addr}{aY ps:List Str}{st:Stmt}{df an:Option Addr}{cS:Array (Option Value)}{cZ cC pW pm cd b5:Value}(X:K.In h)(G:h.Ns akw mg)(T:pB K mg c aY)(a:anc K akw c=some (some (.ref C)))
  (e:al5 K (.ref C) m=some (some (.ref f))) (i:W.isFn K (.ref f)=true) (l:K.lookup f=some ⟨cZ,df,.func (alL m qual (h7 st) (fq st) (bF st) .none cC pW pm an cd b5),cS⟩) (yh:anI K cd qual=true) (k:alW K (.ref f)=true)
  (ab:∀(cC doc pm:Value)(an:Option Addr)(br b5:Value)(us:List Value),us.length=ps.length->ame (alL m qual (h7 st) (fq st) (bF st) .none cC doc pm an br b5) ⟨us,[]⟩=pure (ps.zip us)):gu K mg c m qual st ps:=by
 obtain⟨l2,ae,ah,_⟩:=T.ex;have bN:=anK X G a;rw[ae]at bN;cases bN;exact⟨_,f,_,ae,ah,⟨e,i,k⟩,yI (st:=st) l yh k,(yI (st:=st) l yh k).binds ab⟩
omit [aE.a5]in
theorem Vf{K:aT}{h:Heap}{mg:bo}{c m qual:Str}{C f T:Addr}{aY ps:List Str}{st:Stmt}{df an afH:Option Addr}{cS afM:Array (Option Value)}{cZ cC pW pm cd b5 afG:Value}{j fK:Nat}(X:K.In h)(G:h.Ns akw mg)(Qi:pB K mg c aY)(a:anc K akw c=some (some (.ref C)))
  (e:al5 K (.ref C) m=some (some (.ref f))) (i:W.isFn K (.ref f)=true) (l:K.lookup f=some ⟨cZ,df,.func (alL m qual (h7 st) (fq st) (bF st) (.ref T) cC pW pm an cd b5),cS⟩) (t:K.lookup T=some ⟨afG,afH,.seq #[.none] fK,afM⟩) (yh:anI K cd qual=true) (k:alW K (.ref f)=true) (aR:ps.length=j+1)
  (ab:∀(cC doc pm:Value)(an:Option Addr)(br b5:Value)(us:List Value),us.length=j+1->∃eV,ame (alL m qual (h7 st) (fq st) (bF st) (.ref T) cC doc pm an br b5) ⟨us,[]⟩=amw (.ref T) >>= eV/\eV (some #[.none])=pure (ps.zip us))
  (p5:∀(cC doc pm:Value)(an:Option Addr)(br b5:Value)(us:List Value),us.length=j->∃eV,ame (alL m qual (h7 st) (fq st) (bF st) (.ref T) cC doc pm an br b5) ⟨us,[]⟩=amw (.ref T) >>= eV/\eV (some #[.none])=pure (ps.zip (us++[.none]))):xC K mg c m qual st ps:=by
 obtain⟨l2,ae,ah,_⟩:=Qi.ex;have bN:=anK X G a;rw[ae]at bN;cases bN;refine⟨_,f,_,ae,ah,⟨e,i,k⟩,⟨⟨cZ,df,_,cC,pW,pm,an,cd,b5,cS,rfl,l,yh⟩,k⟩,λs us A_ ar=>?_,λs us A_ ar=>?_⟩
 .rw[ak6]at ar ⊢
  obtain⟨eV,av,aC⟩:=ab cC pW pm an cd b5 us (ar.trans aR);exact ao2 rfl (A_ _ _ t) rfl av aC
 .rw[aj7,aR]at ar
  obtain⟨eV,av,aC⟩:=p5 cC pW pm an cd b5 us (by simpa using ar);exact ao2 rfl (A_ _ _ t) rfl av aC
def gu.none{k:Nat}{sp:ed}(D:gu K mg c m qual st ps)(no:∀vs H Q E,¬sp vs H Q E):dK P w K mg base c m ps k sp:=by
 obtain⟨C,f,fd,a,b,d,F,e⟩:=D.ex;exact⟨C,f,fd,a,b,d,⟨λvs H Q E h=>absurd h (no vs H Q E),λA outer s H args us vs Q E _ _ _ _ h=>absurd h (no vs H Q E)⟩,e⟩
end aZ
namespace aZ
open PySem PySem.Spec aE PyProof.Rows
section
variable{X:aS}
def ch(c:Nat):Str:=⟨#[c]⟩
def sz(z:Str):iu:=⟨λi _=>i<z.cps.size,λi H x H'=>H'=H/\∃c,z.cps[i]? = some c/\x=.str (ch c),λi _=>z.cps.size<=i⟩
theorem Pg{P:akh}{w:World}{K:aT}{b8:Expr}(z:Str)(t:Tok)(it:Addr):Turn P w K b8 (sz z) [it] it (λi h=>(h.IsStrIter it "str_ascii_iterator" z t i)\/h.IsStrIter it "str_iterator" z t i) where
 mem:=by simp
 obj:=λi h st b ab=>by
  have e:b=it:=by simpa using ab
  subst e;rcases st with⟨o,e,c,d⟩|⟨o,e,c,d⟩<;>exact⟨o,e,λv z=>by rw[d]at z;cases z⟩
 keep:=λi h h' st k=>by
  rcases st with⟨o,e,c,d⟩|⟨o,e,c,d⟩
  .exact .inl ⟨o,k it (by simp) o e,c,d⟩
  .exact .inr ⟨o,k it (by simp) o e,c,d⟩
 item:=by
  intro X ej hw ht aD i zn s Y H E I hf st aV;subst ej hw ht;have aV:i<z.cps.size:=aV;obtain⟨f0,f1,f2,gO,f4,gP⟩:=hf it (by simp);have ag:z.cps[i]? = some z.cps[i]:=by simp[aV]
  rcases st with st|st
  .refine wpAny_pyNext_ascii_item st ag λh' cg k1=>?_
   have a9:Inv X zn Y H { s with heap:=h',toks:=s.toks+1 }:=I.turned (t':=s.toks+1) (λb o ab e=>(k1.2 b ab).trans e) f0 f1 gO f4 gP;obtain⟨o,e,c,d⟩:=id cg;exact⟨_,rfl,vo (s:={ s with heap:=h',toks:=s.toks+1 }) e c d (by decide) ⟨.str (ch z.cps[i]),H,a9,⟨_,rfl⟩,⟨rfl,_,ag,rfl⟩,.inl cg,λb ab=>(hf b ab).1⟩⟩
  .refine wpAny_pyNext_wide_item st ag λh' cg k1=>?_
   have a9:Inv X zn Y H { s with heap:=h',toks:=s.toks+1 }:=I.turned (t':=s.toks+1) (λb o ab e=>(k1.2 b ab).trans e) f0 f1 gO f4 gP;obtain⟨o,e,c,d⟩:=id cg;exact⟨_,rfl,vo (s:={ s with heap:=h',toks:=s.toks+1 }) e c d (by decide) ⟨.str (ch z.cps[i]),H,a9,⟨_,rfl⟩,⟨rfl,_,ag,rfl⟩,.inr cg,λb ab=>(hf b ab).1⟩⟩
 done:=by
  intro X ej hw ht aD i zn s Y H E I hf st aV;subst ej hw ht;have aV:z.cps.size<=i:=aV;obtain⟨f0,f1,f2,gO,f4,gP⟩:=hf it (by simp);have ag:z.cps[i]? = none:=by simp[aV]
  rcases st with st|st
  .exact wpAny_pyNext_ascii_end (I.ok.hd aD) st ag λh' c5=>⟨rfl,I.turned (t':=s.toks) (λb o ab e=>c5 b o ab e) f0 f1 gO f4 gP⟩
  .exact wpAny_pyNext_wide_end (I.ok.hd aD) st ag λh' c5=>⟨rfl,I.turned (t':=s.toks) (λb o ab e=>c5 b o ab e) f0 f1 gO f4 gP⟩
 self:=λ_ _ _ _ _ st h=>by
  rcases st with st|st
  .exact wpAny_pyIter_striter_ascii st h
  .exact wpAny_pyIter_striter_wide st h
def acv{b8 l:Expr}(ar:bQ X l kk):kE X b8 l (λY H R=>kk Y H λx H1=>∃z,x=.str z/\R (sz z) H1):=by
 intro zn s Y H R I h;refine bV (ar zn s Y H _ I h) λv s1 aW=>?_
 obtain⟨x,H1,a9,bB,bk⟩:=aW;obtain⟨z,e,q⟩:=bk;subst e;obtain⟨t,rfl⟩:=bB;have fin:∀b∈[s1.heap.objs.size],gw X zn H1 b:=λb ab=>by
  have e:b=s1.heap.objs.size:=by simpa using ab
  subst e;exact a9.pY (aj0 _) (a9.bO.fresh (aj0 _))
 cases ak:z.cps.all (· < 128)with
 |true=>
  refine wpAny_pyIter_ascii ak ?_;exact⟨s1.heap.objs.size,[s1.heap.objs.size],_,_,H1,rfl,a9.kept (t':=s1.toks) λb o e=>ajW _ e,Pg z t _,.inl ⟨_,akb _ rfl,rfl,rfl⟩,fin,q⟩
 |false=>
  refine wpAny_pyIter_wide ak ?_;exact⟨s1.heap.objs.size,[s1.heap.objs.size],_,_,H1,rfl,a9.kept (t':=s1.toks) λb o e=>ajW _ e,Pg z t _,.inr ⟨_,akb _ rfl,rfl,rfl⟩,fin,q⟩
end
def yi(z:Str):List D:=z.cps.toList.map λc=>D.str (ch c)
def od(z:Str):List V:=z.cps.toList.map λc=>V.str (ch c)
def Y8(z:Str)(H:ax)(i:Nat):(i<(od z).length->(sz z).go i H/\∀x H',(sz z).px i H x H'->H'=H/\(od z)[i]? = some x)/\((od z).length<=i->(sz z).stop i H):=by
 have ar:(od z).length=z.cps.size:=by unfold od;rw[ajX,akR]
 rw[ar];refine⟨λaB=>⟨aB,λx H' ⟨e,c,ae,ah⟩=>⟨e,?_⟩⟩,λaB=>aB⟩;subst ah;unfold od;rw[aku,aoU,ae];rfl
variable[aE.a5]
def TG{K:aT}{mg:bo}{O:a0}{H:ax}(z:Str):bc K mg O H (yi z) (od z):=by
 unfold yi od
 induction z.cps.toList with
 |nil=>rfl|cons c r a6=>exact⟨_,_,rfl,rfl,a6⟩
@[simp] def Kt(m:bg)(Y:aQ):M (List D):=do
 let r <-m Y
 match r with
 |.v (.str z)=>pure (yi z)|_=>bad
section
variable{X:aS}{b8 l:Expr}{m:bg}
def af9(ar:a_ X l m):pQ X b8 l (Kt m):=⟨qv (acv ar.un) λau H R aW=>by
 obtain⟨O,Y,S,xs,S',st,h,q⟩:=aW;obtain⟨r,S1,ae,h⟩:=M.inv h;split at h
 .rename_i z
  cases h;refine⟨O,Y,S,_,_,st,ae,λaJ v H1 g1 aU bp nn=>⟨z,bp,?_⟩⟩;exact q aJ H1 (sz z) (od z) g1 aU (λaM _ i=>Y8 z aM i) (TG z)
 .cases h⟩
end
section
variable{K:aT}{mg:bo}
def ui(i j:Str):Bool:=!(amo j i 0 j.length 1).isEmpty
def rW(neg:Bool):R->R->M R
 |.v (.str i),.v (.str j)=>pure (.v (.az (neg ^^ ui i j)))|_,_=>bad
def GC:ew K mg (λx y H Q=>∃i j,x=.str i/\y=.str j/\Q (.az (!(amo j i 0 j.length 1).isEmpty)) H) (rW false):=λO Y S au H x y a4 bz bJ S' Q st ag ba h q=>by
 unfold rW at h;split at h
 .rename_i i j
  cases h;refine⟨i,j,ag,ba,?_⟩;have:(!(amo j i 0 j.length 1).isEmpty)=(false ^^ ui i j):=by unfold ui;simp
  rw[this];exact q O _ H (Go.refl _ _) st rfl trivial
 .cases h
end
end aZ
namespace aZ
open PySem PySem.Spec aE PyProof.Rows
def xH(K:aT)(mg:bo)[aE.a5](d:D)(u:Value):Prop:=∃v,RelV v u/\∀O H,Rep K mg O H d v
structure KTab(P:akh)(w:World)(K:aT)(mg:bo)[aE.a5](x:Str)(ps:List (Str×D)):Prop where
 ex:∃(a:Addr)(ay:Array anq)(n:Nat),(mg x=some (.ref a)/\(a==alI)=false)/\alE a K=some { cls:=.type "dict",data:=.dict ay n }/\KeysOf (anj P w) ay/\
  ∀k,match ps.lookup k with
   |some d=>∃u,anR akZ ay k=some u/\xH K mg d u|none=>anR akZ ay k=none
variable[aE.a5]
def AZ(K:aT)(mg:bo):List (Str×D)->List anq->Prop
 |[],ay=>ay=[]|p::ps,ay=>∃e r,ay=e::r/\(∃t,e.key=.str p.1 t)/\xH K mg p.2 e.val/\AZ K mg ps r
theorem KZ{K:aT}{mg:bo}{k:Str}:∀{ps:List (Str×D)}{ay:List anq},AZ K mg ps ay->match ps.lookup k with
   |some d=>∃u,(ay.find? λe=>akZ k e.key).map (·.val)=some u/\xH K mg d u|none=>(ay.find? λe=>akZ k e.key).map (·.val)=none
 |[],ay,h=>by cases h;rfl
 |p::ps,ay,h=>by
  obtain⟨e,r,rfl,⟨t,fE⟩,ZQ,aA⟩:=h;have a6:=KZ (k:=k) aA;obtain⟨t6,My⟩:=p;rw[akM,al2,fE]
  by_cases c:k=t6
  .subst c
   have av:(k==k)=true:=by simp
   have aC:akZ k (.str k t)=true:=by show(k==k)=true;simp
   rw[av,aC];exact⟨_,rfl,ZQ⟩
  .have av:(k==t6)=false:=by simpa using c
   have aC:akZ k (.str t6 t)=false:=by
    show(t6==k)=false;simp only[beq_eq_false_iff_ne,ne_eq];exact λz=>c z.symm
   rw[av,aC];exact a6
def ZR{P:akh}{w:World}{K:aT}{h:Heap}{mg:bo}{x:Str}{d:Addr}{ay:Array anq}{n:Nat}{ps:List (Str×D)}(X:K.In h)(G:h.Ns akw mg)
  (a:anc K akw x=some (some (.ref d))) (aj:(d==alI)=false) (l:alE d K=some { cls:=.type "dict",data:=.dict ay n }) (k:∀e∈ay.toList,∃s,akZ s e.key=true/\e.hash=hashStr w s)
  (f:AZ K mg ps ay.toList):KTab P w K mg x ps:=by
 refine⟨d,ay,n,⟨anK X G a,aj⟩,l,λe he=>?_,λk=>?_⟩
 .obtain⟨s,ae,ah⟩:=k e (by simpa using he)
  exact⟨s,ae,ah⟩
 .have z:=KZ (k:=k) f
  have:∀k:Str,anR akZ ay k=(ay.toList.find? λe=>akZ k e.key).map (·.val):=λk=>by
   unfold anR;obtain⟨l⟩:=ay;rw[List.find?_toArray]
  rw[this];exact z
def A2:List Str->List Value->Prop
 |[],us=>us=[]|x::xs,us=>∃t r,us=.str x t::r/\A2 xs r
theorem K_:∀{xs:List Str}{us:List Value},A2 xs us->Vals (xs.map V.str) us
 |[],us,h=>by cases h;exact .nil
 |x::xs,us,h=>by obtain⟨t,r,rfl,q⟩:=h;exact .cons ⟨t,rfl⟩ (K_ q)
def oT{K:aT}{mg:bo}{xs:List Str}{a:Addr}{its:Array Value}{n:Nat}{df:Option Addr}{fv:Array (Option Value)}(l:alE a K=some ⟨.type "tuple",df,.seq its n,fv⟩)(hz:its.size<=aj3)(h:A2 xs its.toList) :
  xH K mg (.t (xs.map D.str)) (.ref a):=by
 refine⟨.ref a,rfl,λO H=>⟨a,xs.map V.str,rfl,.inr ⟨_,its,n,l,rfl,rfl,hz,K_ h⟩,?_⟩⟩
 induction xs with
 |nil=>rfl| cons x r a6=>exact⟨_,_,rfl,rfl,by
   clear a6 h
   induction r with
   |nil=>rfl| cons y q a6=>exact⟨_,_,rfl,rfl,a6⟩⟩
def ah8(neg:Bool)(ps:List (Str×D))(mk:bg):bg:=λY=>do
 let k <-mk Y
 match k with
 |.v (.str z)=>pure (.v (.az (neg ^^ (ps.lookup z).isSome)))|_=>bad
section
omit [aE.a5]
@[simp] theorem aiV:rW b (.v (.str i)) (.v (.str j))=pure (.v (.az (b ^^ ui i j))):=rfl
end
end aZ
namespace aZ
open PySem PySem.Spec aE PyProof.Rows
variable[aE.a5]
@[simp] def BF(ps:List (Str×D))(mk:bg)(Y:aQ):M R:=do
 let k <-mk Y
 match k with
 |.v (.str z)=>pure (.v ((ps.lookup z).getD .aI))|_=>bad
section
variable{X:aS}{x:Str}{ps:List (Str×D)}{e:Expr}{p apos dp:Pos}{mk:bg}
def agB(T:KTab X.prog X.w X.K X.mg x ps)(aV:eF X x)(he:a_ X e mk)(m:h2 X (.Name x p) "get" apos e dp:=by exact⟨rfl,rfl,rfl,rfl⟩)(eC:(x==("__debug__":Str))=false:=by decide) :
  a_ X (.Call (.Attribute (.Name x p) "get" apos) [e] [] dp) (BF ps mk):=⟨by
 rintro zn s Y H Q I ⟨O,Y',S,r,S',st,h,q⟩;obtain⟨y,S1,ae,h⟩:=M.inv h;split at h
 .rename_i z
  cases h;obtain⟨a,ay,n,⟨hm,YD⟩,ar,aw,hf⟩:=T.ex;refine wpAny_Call_method m.base m.Ci m.line aoD al3 aoS (tv I aV hm ?_ eC);have ak:=I.e6 a _ ar;refine⟨⟨_,ak,rfl⟩,λb e=>by cases e;exact⟨_,ak,rfl⟩,?_⟩;rw[m.trees];refine amB rfl (anx (am0 (bV (he.un zn s Y H (λv H1=>v=.str z/\∃aJ,Go O aJ H H1/\cN X.K X.mg aJ Y' S' Y H1) I ⟨O,Y',S,_,_,st,ae,λaJ v H1 g1 aU bp nn=>⟨bp,aJ,g1,aU⟩⟩) λqb s2 ⟨y,aM,bU,bz,fg,aJ,g1,aU⟩=>aoa ?_)));subst fg;obtain⟨t,rfl⟩:=bz;have ak:=bU.e6 a _ ar;have mo:s2.heap.MapOf (anj X.prog X.w) a (anR akZ ay):=⟨_,ay,n,ak,⟨rfl,rfl,rfl⟩,rfl,aw,λ_=>rfl⟩;refine call_meetsIn al3 mo.typeIs anb (PySem.F.args_dict_get_2 _ _) (meets_dict_get (anj X.prog X.w) a (k:=z) ?_ YD) ⟨_,mo,?_⟩
  .show(z==z)=true
   simp
  .have:=hf z
   cases av:ps.lookup z with
   |none=>
    rw[av]at this q;rw[this];exact⟨.aI,aM,bU.tok _,rfl,q aJ _ aM g1 aU rfl trivial⟩
   |some d=>
    rw[av]at this q;obtain⟨u,aC,v,bP,wZ⟩:=this;rw[aC];exact⟨v,aM,bU.tok _,bP,q aJ _ aM g1 aU (wZ aJ aM) trivial⟩
 .cases h⟩
end
end aZ
namespace aZ
open PySem PySem.Spec aE PyProof.Rows PySem.W
section
variable{prog:akh}{w:World}{A:akl}{s:ajZ}{E:cB}
def VE{v:Value}{Q:Bool->ajZ->Prop}(h:Q true s):wpAny (model prog w) A (eqBool v v) Q E s:=by
 unfold eqBool
 try with_reducible refine alj ?_
 show wpAny _ _ (if(v==v)=true then _ else _) Q E s;rw[if_pos (beq_self_eq_true v)];exact ajV (anA (aj1 h))
theorem KY{Q:Bool->ajZ->Prop}(h:Q fin s):∀(l:List Value)(i:Nat),KatLex prog w A b fin Q (l.zip l) i s
 |[],_=>kat_nil h|_::l,i=>kat_cons (VE (kat_yes (KY h l (i+1))))
end
variable[aE.a5]
end aZ
namespace aZ
open PySem PySem.Spec aE
section
variable{P:List Value->Prop}
def Pr(h:P []):∀us:List Value,us.length=0->P us:=λus e=>by rw[List.eq_nil_of_length_eq_zero e];exact h
def se(h:∀a,∀us:List Value,us.length=n->P (a::us)):∀us:List Value,us.length=n+1->P us:=λus e=>by
 cases us with
 |nil=>cases e
 |cons a r=>exact h a r (Nat.succ.inj e)
def xi(h:∀a,P [a]):∀us:List Value,us.length=1->P us:=se λa=>Pr (h a)
def AB(h:∀a b,P [a,b]):∀us:List Value,us.length=2->P us:=se λa=>xi (h a)
def Fz(h:∀a b c,P [a,b,c]):∀us:List Value,us.length=3->P us:=se λa=>AB (h a)
def FA(h:∀a b c d,P [a,b,c,d]):∀us:List Value,us.length=4->P us:=se λa=>Fz (h a)
def FC(h:∀a b c d e,P [a,b,c,d,e]):∀us:List Value,us.length=5->P us:=se λa=>FA (h a)
def FD(h:∀a b c d e f,P [a,b,c,d,e,f]):∀us:List Value,us.length=6->P us:=se λa=>FC (h a)
def Pt(h:∀a b c d e f g,P [a,b,c,d,e,f,g]):∀us:List Value,us.length=7->P us:=se λa=>FD (h a)
end
end aZ
namespace aZ
open PySem PySem.Spec aE PyProof.Rows PySem.W
def wY(Z:fS):D->Option Z.κ.α
 |.t (d::_)=>Z.un d|_=>none
def pd(Z:fS):List D->Option (List Z.κ.α)
 |[]=>some []|d::ds=>match wY Z d,pd Z ds with
  |some p,some ps=>some (p::ps)|_,_=>none
def pF(Z:fS)(h:Heap)(p:Z.κ.α)(a:Addr):Prop:=∃(o:Obj)(v:Value)(m:Nat)(r:List Value),h.get? a=some o/\o.cls=.type "tuple"/\o.data=.seq (amj (v::r)) m/\Z.κ.keyOf v=some p
def pF.kept{h h':Heap}(x:pF Z h p a)(k:∀b o,h.get? b=some o->h'.get? b=some o):pF Z h' p a:=by
 obtain⟨o,v,m,r,ae,ah,bN,dq⟩:=x;exact⟨o,v,m,r,k _ _ ae,ah,bN,dq⟩
structure KF(Z:fS):Prop where
 ok:Z.Ok
 ne:∀(prog:akh)(w:World)(A:akl)(E:cB)(s:ajZ)(v u:Value)(a b:Z.κ.α){Q:Bool->ajZ->Prop},Z.κ.keyOf v=some a->Z.κ.keyOf u=some b->a≠b->Q false s->wpAny (model prog w) A (eqBool v u) Q E s
 ty:∃T:Value,(T==T)=true/\(T != am5 "tuple")=true/\∀(prog:akh)(w:World)(h:Heap)(v:Value)(a:Z.κ.α),Z.κ.keyOf v=some a->Looks (model prog w) h (typeOf v) T
def ZJ:KF fI where
 ok:=K8
 ne:=λprog w A E s v u a b Q ak ab hL h=>by
  cases v<;>first|cases ak|skip
  cases u<;>first|cases ab|skip
  refine(intKind prog w).eqBool (a:=a) (b:=b) (by show(a==a)=true;simp) (by show(b==b)=true;simp) ?_;rw[decide_eq_false hL];exact h
 ty:=⟨.type "int",by decide,by decide,λprog w h v a ak=>by
  cases v<;>first|cases ak|skip
  exact .now⟩
def ZK:KF ie where
 ok:=K9
 ne:=λprog w A E s v u a b Q ak ab hL h=>by
  cases v<;>first|cases ak|skip
  cases u<;>first|cases ab|skip
  rename_i x t y t';refine wpAny_eqBool_str ?_;rw[decide_eq_false (λz=>hL (by rw[z]))];exact h
 ty:=⟨.type "str",by decide,by decide,λprog w h v a ak=>by
  cases v<;>first|cases ak|skip
  exact .now⟩
def Qy{Z:fS}:∀{ps:List Z.κ.α},jD Z.κ.blt ps=true->ps.Nodup:=Bc Z.κ.toKeyOrd
section
variable{prog:akh}{w:World}{A:akl}{s:ajZ}{E:cB}{Z:fS}
def adg{C:Bool->ajZ->Prop}(F:KF Z)(aH:pF Z s.heap p a)(a8:pF Z s.heap q b)(hL:p≠q\/a=b/\p=q)(h:C (Z.κ.blt p q) s):wpAny (model prog w) A (keyLt' (tuples' true) (.ref a) (.ref b)) C E s:=by
 rcases hL with hL|⟨rfl,rfl⟩
 .obtain⟨o,v,m,r,ae,ah,bN,gS⟩:=aH
  obtain⟨o',fx,eD,bJ,CE,ajf,Wl,KQ⟩:=a8;refine kat_lt ae bN CE Wl ?_;show KatLex prog w A true _ C ((v,fx)::r.zip bJ) 0 s;exact kat_cons (F.ne prog w A _ s v fx p q gS KQ hL (kat_no (F.ok.one prog w A _ s v fx p q gS KQ h)))
 .obtain⟨o,v,m,r,ae,ah,bN,gS⟩:=aH
  refine kat_lt ae bN ae bN (KY ?_ _ 0);rw[decide_eq_false (akI _)];rw[Z.κ.irrefl]at h;exact h
end
theorem Nj:∀{ps:List Z.κ.α}{as:List Addr},as.length=ps.length->(∀(i:Nat)(p:Z.κ.α)(a:Addr),ps[i]? = some p->as[i]? = some a->pF Z h p a)->∃aY:List Value,KatTups h (as.map aks) aY/\aY.length=as.length/\∀v∈aY,∃a,Z.κ.keyOf v=some a
 |[],[],_,_=>⟨[],.nil,rfl,λ_ h=>nomatch h⟩
 |p::ps,a::as,ar,ag=>by
  obtain⟨aY,ae,ah,bN⟩:=Nj (ps:=ps) (as:=as) (Nat.succ.inj ar) λi q b av aC=>ag (i+1) q b (by simpa using av) (by simpa using aC)
  obtain⟨o,v0,m,r,av,aC,c4,fD⟩:=ag 0 p a rfl rfl;refine⟨v0::aY,.cons av aC c4 rfl ae,by rw[akd,ah];rfl,λv bI=>?_⟩;rcases aj5.mp bI with rfl|bI
  .exact⟨_,fD⟩
  .exact bN v bI
def xQ(Z:fS)(K:aT)(mg:bo)(O:a0)(H:ax)(p:Z.κ.α)(a:Addr):Prop:=∃z ux,dD K H a (z::ux)/\Rep K mg O H (Z.kd p) z
section
variable[aE.a5]{X:aS}{zn:c2}{Y:aE.St}{H:ax}{s:ajZ}{A:akl}{E:cB}{O:a0}{Q:cX}{Z:fS}
def xQ.is(F:KF Z)(I:Inv X zn Y H s)(h:xQ Z X.K X.mg O H p b):pF Z s.heap p b:=by
 obtain⟨z,ux,ae,ah⟩:=h;obtain⟨its,r,⟨o,av,aC,n,c4⟩,_⟩:=I.tuple ae
 cases r with
 |cons bB r=>exact⟨o,_,n,_,av,aC,c4,F.ok.key p _ _ _ _ _ _ ah bB⟩
theorem Nl{K:aT}{mg:bo}(F:Z.Ok):∀{ds:List D}{ps:List Z.κ.α}{ys:List V},pd Z ds=some ps->bc K mg O H ds ys->∃as:List Addr,ys=as.map V.ref/\as.length=ps.length/\ds.length=ps.length/\∀(i:Nat)(p:Z.κ.α)(a:Addr),ps[i]? = some p->as[i]? = some a->xQ Z K mg O H p a
 |[],ps,ys,h,r=>by cases h;cases(show ys=[]from r);exact⟨[],rfl,rfl,rfl,λi p a e=>by simp at e⟩
 |d::ds,ps,ys,h,r=>by
  unfold pd at h;split at h
  .rename_i p iH av aC
   cases h;obtain⟨y,ahn,rfl,bB,cq⟩:=r;obtain⟨as,rfl,ae,ah,bN⟩:=Nl F aC cq;unfold wY at av;split at av
   .rename_i q5 rest
    obtain⟨a,zs,rfl,dI,e8,ah0,rfl,bk,gX⟩:=bB;rw[F.sd _ _ av]at bk;refine⟨a::as,rfl,by simp[ae],by simp[ah],λk p b av aC=>?_⟩
    cases k with
    |zero=>simp at av aC;subst av aC;exact⟨e8,ah0,dI,bk⟩| succ k=>exact bN k p b (by simpa using av) (by simpa using aC)
   .cases av
  .cases h
def aeX(F:KF Z)(I:Inv X zn Y H s){ps:List Z.κ.α}{as:List Addr}{ds:List D}(ar:as.length=ps.length)(hd:ds.length=ps.length)(wZ:bc X.K X.mg O H ds (as.map V.ref))(rows:∀(i:Nat)(p:Z.κ.α)(a:Addr),ps[i]? = some p->as[i]? = some a->xQ Z X.K X.mg O H p a)(dU:ps.Nodup)(jg:ps.length<64){us:List Value}(jI:us=as.map aks)
  (q:∀l zs,H l=none->bc X.K X.mg O H ((hA Z.κ.blt (ps.zip ds)).map (·.2)) zs->Q (.ref l) (upd H l (.l zs))) :
  wpAny (model X.prog X.w) A (do
   let l <-newList us
   let _ <-alP [l] (call (.builtin "list.sort") [l] [])
   ret l) (λfin aP=>∃v,fin=Fin.done (.ret v)/\gG X zn Y Q v aP) E s:=by
 have vW:us.length=ps.length:=by rw[jI,ajX,ar]
 have Di:∀(i:Nat)(p:Z.κ.α)(a:Addr),ps[i]? = some p->as[i]? = some a->pF Z s.heap p a:=λi p a av aC=>(rows i p a av aC).is F I
 let eY:Z.κ.α:=Z.κ.dflt
 have s_:∀i,i<us.length->ps[i]? = some (ps.getD i eY)/\as[i]? = some (as.getD i 0)/\ds[i]? = some (ds.getD i .aI)/\us.getD i alf=.ref (as.getD i 0):=λi aB=>by
  have ae:i<ps.length:=by omega
  have ah:i<as.length:=by omega
  have bN:i<ds.length:=by omega
  refine⟨by simp[aky,ae],by simp[aky,ah],by simp[aky,bN],?_⟩;rw[jI];simp[aky,ah]
 refine ajV (amS ?_ (by rw[ako];omega));have mB:(s.heap.push (akC "list" us.toArray 0)).get? s.heap.objs.size=some (akC "list" us.toArray 0):=akb _ rfl;have fr:H s.heap.objs.size=none:=I.bO.fresh (aj0 _);show wpAny _ _ _ _ _ { s with heap:=s.heap.push (akC "list" us.toArray 0) };have kept:∀b o,s.heap.get? b=some o->(jO (s.heap.push (akC "list" us.toArray 0)) s.heap.objs.size us).get? b=some o:=λb o e=>aau (akj (ake e)) (ajW _ e)
 refine ajV (alj (wpAny_call_entry_kw slot_list_sort ⟨_,mB,rfl⟩ entry_list_sort ?body (args_list_sort _)));have inj:∀i j,i<us.length->j<us.length->i≠j->ps.getD i eY≠ps.getD j eY:=λi j aB aR ne e=>by
  have av:=(s_ i aB).1;have aC:=(s_ j aR).1;rw[e,<-aC]at av;exact ne ((List.getElem?_inj (by omega) dU).mp av)
 refine aeT (κ:=tuples' true) (lt:=λi j=>Z.κ.blt (ps.getD i eY) (ps.getD j eY)) (k:=0) mB (by omega) ?ord (λah Q iS=>?kind) (λi j C aB aR fF=>?ask) λp R S=>?fin
 case ord=>
  refine⟨λi j k _ _ _ ae ah=>Z.κ.trans _ _ _ ae ah,λi j aB aR ne ae=>?_,λi j aB aR ae=>?_⟩
  .cases c:Z.κ.blt (ps.getD j eY) (ps.getD i eY)with
   |true=>rfl|false=>exact absurd (Z.κ.total _ _ ae c) (inj i j aB aR ne)
  .cases c:Z.κ.blt (ps.getD j eY) (ps.getD i eY)with
   |false=>rfl|true=>
    have:=Z.κ.trans _ _ _ ae c;rw[Z.κ.irrefl]at this;cases this
 case kind=>
  obtain⟨aY,gS,f_,zd⟩:=Nj (Z:=Z) (h:=jO (s.heap.push (akC "list" us.toArray 0)) s.heap.objs.size us) (ps:=ps) (as:=as) ar λi p a av aC=>(Di i p a av aC).kept kept
  rw[<-jI]at gS;obtain⟨T,t1,dJ,t3⟩:=F.ty;have f0:0<aY.length:=by omega
  refine kat_kind (T:=T) gS f0 (λv bI=>by obtain⟨a,ak⟩:=zd v bI;exact t3 X.prog X.w _ v a ak) t1 ?_;rw[dJ];exact iS
 case ask=>
  unfold kas_ask;obtain⟨av,aC,_,fD⟩:=s_ i aB;obtain⟨f1,f2,_,f4⟩:=s_ j aR;rw[fD,f4];refine adg F ((Di _ _ _ av aC).kept kept) ((Di _ _ _ f1 f2).kept kept) ?_ fF
  by_cases Kv:i=j
  .subst Kv;exact .inr ⟨rfl,rfl⟩
  .exact .inl (inj i j aB aR Kv)
 case fin=>
  have wX:ps.zip ds=(akG us.length).map λi=>(ps.getD i eY,ds.getD i .aI):=by
   refine List.ext_getElem (by simp[vW,hd]) λi ae ah=>?_
   have a1:i<ps.length:=by simp at ae;omega
   have a2:i<ds.length:=by omega
   simp[aky,a1,a2]
  have aaK:((ps.zip ds).map (·.1)).Nodup:=by
   rw[anl (by omega)];exact dU
  have Fi:(hA Z.κ.blt (ps.zip ds)).map (·.2)=p.toList.map λi=>ds.getD i .aI:=by
   have one:p.toList.map (λi=>(ps.getD i eY,ds.getD i .aI))=hA Z.κ.blt (ps.zip ds):=by
    refine Fg Z.κ.toKeyOrd ?_ ?_ ?_
    .exact aaK
    .rw[wX];exact R.pm.map _
    .rw[aof,aoj]
     intro i j aB aR rp;have hsz:p.toList.length=us.length:=by rw[akR,R.lR]
     have:=S i j rp (by omega);have V7:p.getD i 0=p.toList[i]:=by
      have:i<p.size:=by simpa using aB
      simp[Array.getD,this]
     have V8:p.getD j 0=p.toList[j]:=by
      have:j<p.size:=by simpa using aR
      simp[Array.getD,this]
     rw[V7,V8]at this;exact this
   rw[<-one,amM];rfl
  have ux:bc X.K X.mg O H (p.toList.map λi=>ds.getD i .aI) (p.toList.map λi=>V.ref (as.getD i 0)):=by
   have:∀l:List Nat,(∀i∈l,i<us.length)->bc X.K X.mg O H (l.map λi=>ds.getD i .aI) (l.map λi=>V.ref (as.getD i 0)):=by
    intro l
    induction l with
    |nil=>intro _;rfl|cons i l a6=>
     intro ar;obtain⟨_,g2,g3,_⟩:=s_ i (ar i aj9);obtain⟨u,av,aC⟩:=wZ.get g3;rw[aku,g2]at av;cases av;exact⟨_,_,rfl,aC,a6 λk aw=>ar k (aj4 _ aw)⟩
   exact this _ λi aB=>ak4.mp (R.pm.mem_iff.mp aB)
  have AR:Vals (p.toList.map λi=>V.ref (as.getD i 0)) (p.toList.map λi=>us.getD i alf):=by
   have:∀l:List Nat,(∀i∈l,i<us.length)->Vals (l.map λi=>V.ref (as.getD i 0)) (l.map λi=>us.getD i alf):=by
    intro l
    induction l with
    |nil=>intro _;exact .nil| cons i l a6=>intro ar;exact .cons (by show RelV (V.ref _) (us.getD i alf);rw[(s_ i (ar i aj9)).2.2.2];rfl) (a6 λk aw=>ar k (aj4 _ aw))
   exact this _ λi aB=>ak4.mp (R.pm.mem_iff.mp aB)
  obtain⟨e,he⟩:=sortedHeap_at (out:=amj (p.toList.map λi=>us.getD i alf)) mB;refine⟨_,rfl,aj1 ⟨_,rfl,.ref s.heap.objs.size,upd H s.heap.objs.size (.l (p.toList.map λi=>V.ref (as.getD i 0))),?_,rfl,q _ _ fr (by rw[Fi];exact ux)⟩⟩;refine I.laid (t':=s.toks) (λb o c5=>?_) (aj0 _) ⟨?_,_,e,AR,?_⟩
  .have fs:=ake c5
   rw[sortedHeap_old (akj fs) (by rw[aok];exact am8 fs),al9 _ _ _ (akj fs)];exact c5
  .rw[ajX,akR,R.lR,ako];omega
  .rw[he]
end
variable[aE.a5]
def nt(Z:fS):List R->M R
 |[x]=>match x.fi with
  |some ds=>match pd Z ds with
   |some ps=>if jD Z.κ.blt ps=true/\ps.length<64 then pure (.fr ((hA Z.κ.blt (ps.zip ds)).map (·.2)))else bad|none=>bad
  |none=>bad
 |_=>bad
def Iq{X:aS}(aD:X.calm=true)(F:KF Z):ir X (.builtin "sorted") (fun xs H Q=>∃(p:Addr)(ys:List V)(O:a0)(ds:List D)(ps:List Z.κ.α),xs=[.ref p]/\dk X.K H p ys/\bc X.K X.mg O H ds ys/\pd Z ds=some ps/\jD Z.κ.blt ps=true/\ps.length<64/\
  ∀l zs,H l=none->bc X.K X.mg O H ((hA Z.κ.blt (ps.zip ds)).map (·.2)) zs->Q (.ref l) (upd H l (.l zs))):=by
 rintro zn s Y H xs us Q I bP ⟨p,ys,O,ds,ps,ex,cI,bl,wZ,aF,jg,q⟩;subst ex;obtain⟨u,rfl,bB⟩:=vals1 bP;cases bB;obtain⟨as,rfl,ar,hd,rows⟩:=Nl (Z:=Z) F.ok wZ bl;refine call_function_entry_kw kind_sorted plain_sorted entry_sorted (args_sorted1 _) ?_;unfold anL.«sorted»;refine ajV (m:=checkCount "sorted" 1 1 _) (aj1 ?_);obtain⟨vs,qy,pl,_⟩:=I.list cI;have ev:vs=as.map aks:=by
  have:∀{as:List Addr}{vs:List Value},Vals (as.map V.ref) vs->vs=as.map aks:=by
   intro as
   induction as with
   |nil=>intro vs h;cases h;rfl
   |cons a as a6=>intro vs h;cases h with
    |cons ae ah=>cases ae;rw[a6 ah];rfl
  exact this qy
 have lv:vs.length=ps.length:=by rw[ev,ajX,ar]
 refine ajV (collect_list pl.isList ?_ (by rw[ako];omega));refine aeX F (I.kept (t':=s.toks) λb o e=>?_) ar hd bl rows (Qy aF) jg ev q;have fs:=ake e;rw[Heap.get?_update_ne _ _ _ _ (akj fs),al9 _ _ _ (akj fs)];exact e
def KX{Z:fS}{K:aT}{mg:bo}:i5 K mg (fun xs H Q=>∃(p:Addr)(ys:List V)(O:a0)(ds:List D)(ps:List Z.κ.α),xs=[.ref p]/\dk K H p ys/\bc K mg O H ds ys/\pd Z ds=some ps/\jD Z.κ.blt ps=true/\ps.length<64/\
  ∀l zs,H l=none->bc K mg O H ((hA Z.κ.blt (ps.zip ds)).map (·.2)) zs->Q (.ref l) (upd H l (.l zs))) (nt Z):=λO Y S au H vs rs bJ S' Q st aA h q=>by
 unfold nt at h;split at h
 .rename_i x
  obtain⟨v,rfl,ag⟩:=kh aA;split at h
  .rename_i ds e
   split at h
   .rename_i ps aC
    by_cases c:jD Z.κ.blt ps=true/\ps.length<64
    .rw[if_pos c]at h
     cases h;obtain⟨a,ys,rfl,l,bl⟩:=R.nI ag e;refine⟨a,ys,O,ds,ps,rfl,l,bl,aC,c.1,c.2,λp zs aH jQ=>?_⟩;refine q (fL O p .dx) _ _ (Go.new aH) (st.new aH) ⟨p,zs,rfl,dy,m1,jQ.go (Go.new aH)⟩ λb c5=>?_
     cases c5;exact aH
    .rw[if_neg c]at h;cases h
   .cases h
  .cases h
 .cases h
omit [aE.a5]in
theorem Vv{x:R}:nt Z [x]=match x.fi with
  |some ds=>match pd Z ds with
   |some ps=>if jD Z.κ.blt ps=true/\ps.length<64 then pure (.fr ((hA Z.κ.blt (ps.zip ds)).map (·.2)))else bad|none=>bad
  |none=>bad:=rfl
end aZ
namespace aZ
open PySem PySem.Spec aE PyProof.Rows
def iY(b:Int):List Int->Int
 |[]=>b|x::xs=>if b<x then iY x xs else iY b xs
def vf:List R->M R
 |[x]=>match x.fi with
  |some ds=>match nums ds with
   |some (b::bs)=>pure (.v (.int (iY b bs)))|_=>bad
  |none=>bad
 |_=>bad
variable[aE.a5]
section
variable{X:aS}{zn:c2}{Y:aE.St}{H:ax}{s:ajZ}{S it l:Addr}{O:a0}
def M8{i:Int}(h:RelV (.int i) u):∃t,u=.int i t:=h
structure PU(X:aS)(zn:c2)(Y:aE.St)(O:a0)(H:ax)(S it l:Addr)(j:Nat)(b:Int)(aP:ajZ):Prop where
 ex:∃ao H',Inv X zn Y H' aP/\Go O ao H H'/\dc ao H'/\H' S=some (.l [.int b,.int b])/\ao S=.dx/\gw X zn H' it/\aP.heap.IsListIter it l j
theorem aao{ns:List Int}{res:Int}(jM:X.A.in1.handled=none)(vF:H S=none)(jL:S≠it)(ar:dk X.K H l (ns.map V.int)) :
  ∀(r:List Int)(j:Nat)(b:Int)(aP:ajZ),ns.drop j=r->PU X zn Y O H S it l j b aP->j<=ns.length->iY b r=res->
   amI (model X.prog X.w) X.A (.builtin "max.loop" ⟨[.ref it,.none,.ref S],[]⟩) (λr aP=>∃u,r=.ok (.ret u)/\xI X zn Y O H (.int res) u aP) aP:=by
 have my:(toString "max"++toString ".loop":String)="max.loop":=by decide
 have d7:=jM;intro r
 induction r with
 |nil=>
  intro j b aP oz B aR aV;have aV:b=res:=aV;subst aV;obtain⟨aJ,H1,a9,g1,gk,cI,pa,aK,hit⟩:=B.ex;obtain⟨hsz,its,n,vals,gQ⟩:=a9.bO S _ cI;obtain⟨u,kT,rfl,d9,wW⟩:=vals2 vals;have oD:j=(ns.map V.int).length:=by
   have:=congrArg alr oz;rw[ak0,akY]at this;rw[ajX];omega
  refine amx alH ?_;rw[alO akA _];show wpAny _ X.A.in1 (amw (.ref S) >>= _) _ _ _;refine ajV (ak5 gQ rfl ?_);show wpAny _ X.A.in1 (tryCatch (ams (.ref it)) _ >>= _) _ _ _;refine ajV (alA (akH (Mf (E:=λ_ _=>False) a9 (g1.same.seq ar) oD aK hit d7) (λr s1 a8=>?_) λ_ _ dt=>dt.elim));obtain⟨rfl,bU⟩:=a8;obtain⟨_,lI,dW,FG,vD⟩:=bU.bO S _ cI;show wpAny _ X.A.in1 (updateSeq S (λ_=>#[]) >>= _) _ _ _;refine ajV ?_;refine amy vD rfl (hz:=by rw[aka,<-FG.length,ako];simp) (ajV (alG (aj1 ?_)));exact⟨u,rfl,aJ,_,.int b,H2 bU cI vD,⟨pn vF g1.same cI _,g1.own,g1.bK⟩,gk.eh cI,rfl,d9⟩
 |cons da r a6=>
  intro j b aP oz B aR aV
  replace aV:(if b<da then iY da r else iY b r)=res:=aV
  obtain⟨aJ,H1,a9,g1,gk,cI,pa,aK,hit⟩:=B.ex;obtain⟨hsz,its,n,vals,gQ⟩:=a9.bO S _ cI;obtain⟨u,kT,rfl,d9,wW⟩:=vals2 vals;have hd2:ns[j]? = some da:=by
   have:=congrArg (·[0]?) oz;simpa using this
  have C8:(ns.map V.int)[j]? = some (.int da):=by rw[aku,hd2];rfl
  have vA:ns.drop (j+1)=r:=by
   have:=congrArg (anU 1) oz;simpa[amL]using this
  have oD:j+1<=ns.length:=(aj2.mp hd2).1;refine amx alH ?_;rw[alO akA _];show wpAny _ X.A.in1 (amw (.ref S) >>= _) _ _ _;refine ajV (ak5 gQ rfl ?_);show wpAny _ X.A.in1 (tryCatch (ams (.ref it)) _ >>= _) _ _ _;refine ajV (alA (akH (next_item (E:=λ_ _=>False) a9 (g1.same.seq ar) C8 aK hit d7) (λr s1 a8=>?_) λ_ _ dt=>dt.elim));obtain⟨hW,rfl,mT,bU,p7⟩:=a8;obtain⟨_,Dl,kX,vals3,mw⟩:=bU.bO S _ cI;have Nm:=mT;obtain⟨dJ,rfl⟩:=M8 mT;obtain⟨cK,rfl⟩:=M8 wW;show wpAny _ X.A.in1 (tryCatch (alP [.int da dJ,.int da dJ] (anf .Gt (.int da dJ) (.int b cK) >>= _)) _ >>= _) _ _ _;have rv:∀(s:ajZ)(E:cB)(Q:cB),Q (.bool (decide (b<da))) s->wpAny (model X.prog X.w) X.A.in1 (anf .Gt (.int da dJ) (.int b cK)) Q E s:=λs E Q h=>(ao1 h:wpAny (model X.prog X.w) X.A.in1 (akK .Gt (.int da dJ) (.int b cK)) Q E s)
  refine ajV (alA (alj (ajV (rv _ _ _ ?_))));refine ajV (alj (alc ?_));refine ajV (alG (aj1 ?_))
  by_cases ab:b<da
  .rw[if_pos ab]at aV
   simp only[ab,decide_true,if_true];refine ajV ?_;refine amy mw rfl (hz:=by rw[aka,<-vals3.length,ako];simp) (ajV (alG ?_));rw[my];refine aj1 ⟨al7 akA _,a6 (j+1) da _ vA ?_ oD aV⟩;exact⟨aJ,_,x8 (v:=.int da) (kv:=.int da) bU cI mw Nm Nm,⟨pn vF g1.same cI _,g1.own,g1.bK⟩,gk.eh cI,dy,pa,yE jL aK,zb jL p7⟩
  .rw[if_neg ab]at aV
   simp only[ab,decide_false,if_false];refine ajV (alG ?_);rw[my];refine aj1 ⟨al7 akA _,a6 (j+1) b _ vA ?_ oD aV⟩;exact⟨aJ,H1,bU,g1,gk,cI,pa,aK,p7⟩
theorem aan{b:Int}{bs:List Int}{E:cB}(I:Inv X zn Y H s)(cL:dc O H)(ar:dk X.K H l ((b::bs).map V.int))(jM:X.A.in1.handled=none) :
  wpAny (model X.prog X.w) X.A (call (.builtin "max") [.ref l]) (xI X zn Y O H (.int (iY b bs))) E s:=by
 have my:(toString "max"++toString ".loop":String)="max.loop":=by decide
 have d7:=jM;obtain⟨us,bP,pl,_⟩:=I.list ar;have fH:s.heap.IsList l us.toArray:=pl.isList;refine call_function_tree PySem.F.kind_max PySem.F.plain_max PySem.F.entry_max (PySem.F.args_max1 _) ?_;show wpAny _ X.A.in1 (al0 "max" ["key","default"] 0 ⟨[],[]⟩ >>= _) _ _ s;refine ajV (wpAny_of_eq (show al0 "max" ["key","default"] 0 ⟨[],[]⟩=pure [none,none]from rfl) ?_);refine ajV (aj1 ?_);refine ajV (alQ fH ?_);refine ajV (amS ?_ (akm _));rw[my];have a9:Inv X zn Y H { s with heap:=s.heap.push { cls:=.type "list_iterator",data:=.fields #[.ref l,.int 0 0] } }:=I.kept (t':=s.toks) λb o e=>ajW _ e
 have nA:(s.heap.push { cls:=.type "list_iterator",data:=.fields #[.ref l,.int 0 0] }).get? s.heap.objs.size=some { cls:=.type "list_iterator",data:=.fields #[.ref l,.int 0 0] }:=akb _ rfl;have hsz:(s.heap.push { cls:=.type "list_iterator",data:=.fields #[.ref l,.int 0 0] }).objs.size=s.heap.objs.size+1:=aok ..;generalize Ye:s.heap.push { cls:=.type "list_iterator",data:=.fields #[.ref l,.int 0 0] }=ae at *;have oo:H ae.objs.size=none:=a9.bO.fresh (aj0 _);have jL:ae.objs.size≠s.heap.objs.size:=by rw[hsz];omega
 have bU:Inv X zn Y (upd H ae.objs.size (.l [])) { s with heap:=ae.push (akC "list" #[] 0) }:=
  a9.laid (t':=s.toks) (λb o e=>ajW _ e) (aj0 _) ⟨akm _,[],0,.nil,akb _ rfl⟩
 have aK:gw X zn (upd H ae.objs.size (.l [])) s.heap.objs.size:=I.pY (aj0 _) (by rw[dj jL.symm];exact I.bO.fresh (aj0 _));have hit:(ae.push (akC "list" #[] 0)).IsListIter s.heap.objs.size l 0:=⟨_,ajW _ nA,rfl,rfl⟩;have go2:Go O (fL O ae.objs.size .dx) H (upd H ae.objs.size (.l [])):=Go.new oo;have BV:dc (fL O ae.objs.size .dx) (upd H ae.objs.size (.l [])):=cL.new oo;have qt:fL O ae.objs.size .dx ae.objs.size=.dx:=m1;have rk:upd H ae.objs.size (.l []) ae.objs.size=some (.l []):=dy;have gQ:(ae.push (akC "list" #[] 0)).get? ae.objs.size=some (akC "list" #[] 0):=akb _ rfl;refine aj1 ⟨al7 akA _,?_⟩;generalize ae.push (akC "list" #[] 0)=ah at *;generalize ae.objs.size=S at *;generalize s.heap.objs.size=it at *;generalize fL O S .dx=bq at *;generalize upd H S (.l [])=aM at *;refine amx alH ?_;rw[alO akA _];show wpAny _ X.A.in1 (amw (.ref S) >>= _) _ _ _;refine ajV (ak5 gQ rfl ?_);show wpAny _ X.A.in1 (tryCatch (ams (.ref it)) _ >>= _) _ _ _;refine ajV (alA (akH (next_item (E:=λ_ _=>False) (v:=.int b) bU (go2.same.seq ar) rfl aK hit d7) (λr s1 a8=>?_) λ_ _ dt=>dt.elim));obtain⟨hW,rfl,mT,dF,p7⟩:=a8;obtain⟨_,Dl,kX,vals3,mw⟩:=dF.bO S _ rk;show wpAny _ X.A.in1 (updateSeq S (λ_=>#[hW,hW]) >>= _) _ _ _;refine ajV ?_;refine amy mw rfl (hz:=by rw[aka,<-vals3.length,ako];simp) ?_;rw[my];refine aj1 ⟨al7 akA _,amf (aao (zn:=zn) (Y:=Y) (O:=O) jM oo jL ar bs 1 b _ rfl ?_ (by simp) rfl) λr aP a8=>?_⟩
 .exact⟨bq,_,x8 dF rk mw mT mT,⟨pn oo go2.same rk _,go2.own,go2.bK⟩,BV.eh rk,dy,qt,yE jL aK,zb jL p7⟩
 .obtain⟨u,rfl,a8⟩:=a8
  exact a8
theorem Ts(aD:X.calm=true):ir X (.builtin "max") (λxs H Q=>∃(l:Addr)(b:Int)(bs:List Int)(O:a0),xs=[.ref l]/\dk X.K H l ((b::bs).map V.int)/\dc O H/\
  ∀ao H' v,Go O ao H H'->dc ao H'->Rep X.K X.mg ao H' (.int (iY b bs)) v->Q v H'):=by
 rintro zn s Y H xs us Q I bP ⟨l,b,bs,O,ex,ar,cL,q⟩;subst ex;obtain⟨u,rfl,bB⟩:=vals1 bP;cases bB;refine bV (aan I cL ar (show X.A.in1.handled=none from I.ok.hd aD)) λu s3 aW=>?_
 obtain⟨eM,cT,v,dF,g3,ni,EY,E6⟩:=aW;exact⟨v,cT,dF,E6,q eM cT v g3 ni EY⟩
end
def Zm{K:aT}{mg:bo}:i5 K mg (fun xs H Q=>∃(l:Addr)(b:Int)(bs:List Int)(O:a0),xs=[.ref l]/\dk K H l ((b::bs).map V.int)/\dc O H/\
  ∀ao H' v,Go O ao H H'->dc ao H'->Rep K mg ao H' (.int (iY b bs)) v->Q v H') vf:=λO Y S au H vs rs bJ S' Q st aA h q=>by
 unfold vf at h;split at h
 .rename_i x
  obtain⟨v,rfl,ag⟩:=kh aA;split at h
  .rename_i ds e
   split at h
   .rename_i b bs aC
    cases h;obtain⟨a,ys,rfl,l,bl⟩:=R.nI ag e;have:=tR bl aC;subst this;exact⟨a,b,bs,O,rfl,l,st.cp,λao H' v g d r=>q ao v H' g (st.go g d) r trivial⟩
   .cases h
  .cases h
 .cases h
end aZ
namespace aZ
open PySem PySem.Spec aE
variable[aE.a5]
def oO(t:aQ->M Bool)(el:bg)(Y:aQ):List D->M (List D)
 |[]=>pure []|.t [gk,da]::ds=>do
  let b <-t ((Y.set 0 (.v gk)).set 1 (.v da))
  if b=true then do
   let r <-el ((Y.set 0 (.v gk)).set 1 (.v da))
   let x <-r.dat
   let xs <-oO t el Y ds
   pure (x::xs)
  else oO t el Y ds
 |_=>bad
def sR(cap:List Nat)(it:e')(t:aQ->M Bool)(el:bg):bg:=λY=>do
 let ds <-it Y
 hI (ds.length<aj3)
 let xs <-oO t el (iP 2 cap Y) ds
 pure (.fr xs)
section
variable{K:aT}{mg:bo}{cap:List Nat}{it:e'}{t:aQ->M Bool}{el:bg}
def ER(Y:aQ):D->Option aQ
 |.t [gk,da]=>some ((Y.set 0 (.v gk)).set 1 (.v da))|_=>none
omit [aE.a5]in
theorem KV(Y:aQ):∀ds,oO t el Y ds=lJ (ER Y) t el ds
 |[]=>rfl|d::ds=>by
  cases d with
  |t xs=>
   match xs with
   |[a,b]=>simp only[oO,lJ,ER,KV Y ds]|[]=>rfl|[_]=>rfl|_::_::_::_=>rfl
  |_=>rfl
def TO:∀au H Q,fk K mg (sR cap it t el) au H Q->uf 2 cap (qC K mg it) (rh K 2 (jK [0,1])) (k5 K mg t) (fk K mg el) au H Q:=by
 rintro au H Q ⟨O,Y,S,r,S',st,h,q⟩;obtain⟨ds,S1,ae,h⟩:=M.inv h;obtain⟨_,bh,ah,h⟩:=M.inv h;obtain⟨hlen,rfl⟩:=q2 ah;obtain⟨xs,h4,bN,h⟩:=M.inv h;cases h;rw[KV]at bN;refine⟨O,Y,S,ds,S1,st,ae,λaJ H1 cm ys g1 aU its bl=>BN aU hlen (λH' s=>(its H' s _).2 (alF bl.len)) (λk d nZ ao H' dS cf g' cg=>?_) bN λao v H' g cg bp nn=>q ao v H' (g1.trans g) cg bp (nn.back g1.same)⟩;obtain⟨y,fg,bz⟩:=(bc.go g' (bl.du (lu aJ))).get dS;obtain⟨go,m3⟩:=(its H' g'.same k).1 (aj2.mp fg).1;refine⟨go,λx aM R jU eB=>?_⟩;obtain⟨rfl,ex⟩:=m3 x aM jU;rw[fg]at ex;cases ex;unfold ER at cf;split at cf
 .cases cf
  obtain⟨a,xu,gm,dI,fl,bB,rfl,adh,js,cq,rfl,adi,rfl⟩:=bz;exact⟨a,[fl,js],gm,dI,rfl,fl,[js],rfl,js,[],rfl,rfl,eB _ _ (Go.refl _ _) ((cg.val adh).val adi) (((m9.refl _).set rfl).set rfl)⟩
 .cases cf
end
section
variable{X:aS}{scope esc:Scope}{EN N:List Str}{cap:List Nat}{elt iter:Expr}{ifs:List Expr}{pos d2 p1 dv:Pos}{x y:Str}{it:e'}{t:aQ->M Bool}{el:bg}{k:Nat}
def agl(S:la esc scope EN N 2 cap)(aB:pQ X (.Tuple [.Name x p1,.Name y dv] k d2) iter it)(ag:N[0]? = some x)(ba:N[1]? = some y)
  (iT:∀C aK s H,Loc (cx X scope N C aK s H).env.scope x/\(cx X scope N C aK s H).env.scope.names.lookup x=some .local) (rr:∀C aK s H,Loc (cx X scope N C aK s H).env.scope y/\(cx X scope N C aK s H).env.scope.names.lookup y=some .local)
  (bM:∀C aK s H,pP (cx X scope N C aK s H) ifs t) (h_:∀C aK s H,a_ (cx X scope N C aK s H) elt el)
  (he:X.env.scope=esc:=by rfl) (hN:X.N=EN:=by rfl) (aD:X.calm=true:=by rfl) (aj:∀x,akN iter X.env x=pure x:=by intro _;rfl)
  (mA:∀C aK s H,(akp [.Name x p1,.Name y dv] (cx X scope N C aK s H).env).length=2/\(akp [.Name x p1,.Name y dv] (cx X scope N C aK s H).env).findIdx? (·.1)=none/\
   (akp [.Name x p1,.Name y dv] (cx X scope N C aK s H).env).map (·.2)=amr (.Name x p1) (cx X scope N C aK s H).env::(akp [.Name y dv] (cx X scope N C aK s H).env).map (·.2)/\
   (akp [.Name y dv] (cx X scope N C aK s H).env).map (·.2)=amr (.Name y dv) (cx X scope N C aK s H).env::(akp [] (cx X scope N C aK s H).env).map (·.2):=by intros;exact⟨rfl,rfl,rfl,rfl⟩) :
  a_ X (.ListComp elt [⟨.Tuple [.Name x p1,.Name y dv] k d2,iter,ifs,0⟩] scope pos) (sR cap it t el):=
 ⟨eg (EG (wi:=qC X.K X.mg it) (g:=rh X.K 2 (jK [0,1])) (tt:=k5 X.K X.mg t) (te:=fk X.K X.mg el) S aB.un (λC aK s H=>wM aD (wN S.dU ag (iT C aK s H).1 (wN S.dU ba (rr C aK s H).1 EJ (mA C aK s H).2.2.2 (.inr (rr C aK s H).2)) (mA C aK s H).2.2.1 (.inr (iT C aK s H).2)) (mA C aK s H).1 (mA C aK s H).2.1) (λC aK s H=>(bM C aK s H).un) (λC aK s H=>(h_ C aK s H).un) he hN aD aj) TO⟩
end
end aZ
namespace aZ
open PySem PySem.Spec aE
def Ji(N P:List Str)(sc:Scope):Bool:=decide (sc.kind=.function)&&!sc.isCoroutine&&!sc.isGenerator&&decide N.Nodup&&decide (N.take P.length=P)
&&P.all (λx=>decide (sc.names.lookup x=some .local)||decide (sc.names.lookup x=some .cell))&&sc.names.all λy=>decide (y.2≠.free)
def cM{N P:List Str}(h:Ji N P sc=true):b9 N P sc:=by
 simp only[Ji,akE,Bool.not_eq_true',decide_eq_true_eq,ak9,Bool.or_eq_true]at h;exact⟨h.1.1.1.1.1.1,h.1.1.1.1.1.2,h.1.1.1.1.2,h.1.1.1.2,h.1.1.2,h.1.2,h.2⟩
def IJ(EN xs:List Str)(cap:List Nat):List Str:=xs++cap.filterMap λk=>EN[k]?
def IK(esc scope:Scope)(EN N:List Str)(n:Nat)(cap:List Nat):Bool:=decide (scope.kind=.function)&&scope.names.all (λy=>decide (y.2≠.cell))&&scope.names.all (λy=>decide (y.2=.local->scope.names.lookup y.1=some .local))
&&scope.names.all (λy=>decide (y.2=.free->esc.names.lookup y.1=some .cell\/esc.names.lookup y.1=some .free))&&decide N.Nodup&&decide (N.length=n+cap.length)
&&(akG cap.length).all λj=>decide (N[n+j]? = EN[cap.getD j 0]?)&&(match N[n+j]? with|some x=>decide (scope.names.lookup x=some .free)|none=>true)
def u1{EN xs:List Str}(h:IK esc scope EN (IJ EN xs cap) xs.length cap=true):la esc scope EN (IJ EN xs cap) xs.length cap:=by
 simp only[IK,akE,decide_eq_true_eq,ak9]at h;obtain⟨⟨⟨⟨⟨⟨ae,ah⟩,bN⟩,dq⟩,ep⟩,eA⟩,Wm⟩:=h;refine⟨ae,ah,bN,dq,ep,eA,λj aR=>?_⟩;obtain⟨a,b⟩:=Wm j (ak4.mpr aR);refine⟨a,λx ag=>?_⟩;rw[ag]at b;exact of_decide_eq_true b
def o4{N:List Str}(h:decide N.Nodup=true):N.Nodup:=of_decide_eq_true h
def tO{p:Nat->Prop}(h0:p 0)(ae:∀n,p (n+1)):∀n,p n:=λn=>by cases n with|zero=>exact h0|succ n=>exact ae n
variable[aE.a5]
def dt{P:akh}{w:World}{K:aT}{mg:bo}{base:Heap}{x:Str}{st:Stmt}{ps N:List Str}{k:Nat}{m:bC}{b:aX}(d:cn K mg x st ps)(sc:b9 N ps (bF st))(hm:m=fnOf ps.length N.length b)
  (ab:∀(f:Addr)(br:Value)(A:akl)(outer:List Env)(s:ajZ)(H:ax)(E:gy),cF k (A.deeper (ala x (bF st) s.heap.objs.size f br))->
   fm (g_ eE P w K mg base N x (bF st) f br A outer s H E).gD (fq st) b):b6 P w K mg base x ps (k+1) (bY K mg m):=by
 subst hm;exact p4 d sc rfl rfl λf br A outer s H E aA=>(ab f br A outer s H E aA).un
end aZ
set_option maxHeartbeats 8000000
namespace fA
open PySem PySem.Spec aE aZ
def top(i:Nat):Stmt:=PySem.Challenge.pw_oneslate_k37_late_bell_twice.main.body.getD i (.Pass ⟨0,0,0,0⟩)
abbrev NY:Stmt:=top 1
def aec:b9 o0 o0 (bF NY):=cM (by kernel_rfl)
abbrev NS:Stmt:=top 2
def ad6:b9 zzz2 zzz2 (bF NS):=cM (by kernel_rfl)
abbrev Oj:Stmt:=top 3
def aeA:b9 ["keepers","mask","keeper"] ["keepers"] (bF Oj):=cM (by kernel_rfl)
abbrev NZ:Stmt:=top 4
def aed:b9 ["mask"] ["mask"] (bF NZ):=cM (by kernel_rfl)
abbrev ua:Stmt:=top 7
def Oz:b9 ["grants","opening","grant"] zzz1 (bF ua):=cM (by kernel_rfl)
abbrev NH:Stmt:=top 8
def adV:b9 v6 v6 (bF NH):=cM (by kernel_rfl)
abbrev NR:Stmt:=top 9
def ad5:b9 v6 v6 (bF NR):=cM (by kernel_rfl)
abbrev Oq:Stmt:=top 24
def aeE:b9 ["rule","keepers","part"] v4 (bF Oq):=cM (by kernel_rfl)
abbrev Oo:Stmt:=top 26
def aeD:b9 v4 v4 (bF Oo):=cM (by kernel_rfl)
abbrev NP:Stmt:=top 27
def ad3:b9 zzz3 zzz3 (bF NP):=cM (by kernel_rfl)
abbrev adA:Stmt:=top 33
abbrev Ol:Stmt:=top 34
def aeB:b9 P3 P3 (bF Ol):=cM (by kernel_rfl)
abbrev Om:Stmt:=top 35
def aeC:b9 P3 P3 (bF Om):=cM (by kernel_rfl)
abbrev NU:Stmt:=top 40
def ad8:b9 o0 o0 (bF NU):=cM (by kernel_rfl)
abbrev NV:Stmt:=top 41
def ad9:b9 o0 o0 (bF NV):=cM (by kernel_rfl)
abbrev adz:Stmt:=top 42
abbrev NQ:Stmt:=top 43
def ad4:b9 ["word"] ["word"] (bF NQ):=cM (by kernel_rfl)
abbrev NW:Stmt:=top 44
def aea:b9 zzz4 zzz4 (bF NW):=cM (by kernel_rfl)
abbrev NT:Stmt:=top 45
def ad7:b9 ["thing","form"] o0 (bF NT):=cM (by kernel_rfl)
abbrev NJ:Stmt:=top 47
def adX:b9 [] [] (bF NJ):=cM (by kernel_rfl)
abbrev Ou:Stmt:=top 49
def aeG:b9 u8 u8 (bF Ou):=cM (by kernel_rfl)
abbrev NX:Stmt:=top 50
def aeb:b9 u8 u8 (bF NX):=cM (by kernel_rfl)
abbrev NK:Stmt:=top 51
def adY:b9 ["slate","name","cell"] ["slate","name"] (bF NK):=cM (by kernel_rfl)
abbrev r3:Stmt:=top 52
def OA:b9 ["slate","name","n","cells"] ["slate","name","n"] (bF r3):=cM (by kernel_rfl)
abbrev NN:Stmt:=top 53
def ad1:b9 ["slate","asker","doing"] ["slate","asker"] (bF NN):=cM (by kernel_rfl)
abbrev r4:Stmt:=top 54
def OB:b9 ["slate","asker","number","answer","doings"] ["slate","asker","number","answer"] (bF r4):=cM (by kernel_rfl)
abbrev NM:Stmt:=top 59
def ad0:b9 T0 T0 (bF NM):=cM (by kernel_rfl)
abbrev NL:Stmt:=top 60
def adZ:b9 ["slate","asker","deed","total"] T0 (bF NL):=cM (by kernel_rfl)
abbrev adx:Stmt:=top 61
abbrev ady:Stmt:=top 64
abbrev adv:Stmt:=top 65
abbrev adt:Stmt:=top 66
abbrev adw:Stmt:=top 67
abbrev adu:Stmt:=top 68
abbrev ads:Stmt:=top 69
abbrev Ot:Stmt:=top 71
def aeF:b9 ["slate","asker","deed","doer"] T0 (bF Ot):=cM (by kernel_rfl)
abbrev NO:Stmt:=top 72
def ad2:b9 ["slate","asker","number","deed","made"] zzy6 (bF NO):=cM (by kernel_rfl)
abbrev NI:Stmt:=top 74
def adW:b9 zzz5 zzz5 (bF NI):=cM (by kernel_rfl)
abbrev Ov:Stmt:=top 75
def aeH:b9 zzz6 zzz6 (bF Ov):=cM (by kernel_rfl)
abbrev Nn:Stmt:=inClass (top 77) 0
def adD:b9 zzz7 zzz7 (bF Nn):=cM (by kernel_rfl)
abbrev E':Stmt:=inClass (top 77) 1
def adF:b9 zzz8 zzz8 (bF E'):=cM (by kernel_rfl)
abbrev Nq:Stmt:=inClass (top 77) 2
def adG:b9 x0 x0 (bF Nq):=cM (by kernel_rfl)
abbrev Nv:Stmt:=inClass (top 77) 3
def adK:b9 W1 W1 (bF Nv):=cM (by kernel_rfl)
abbrev NB:Stmt:=inClass (top 77) 4
def adQ:b9 x0 x0 (bF NB):=cM (by kernel_rfl)
abbrev NA:Stmt:=inClass (top 77) 5
def adP:b9 x0 x0 (bF NA):=cM (by kernel_rfl)
abbrev NG:Stmt:=inClass (top 77) 6
def adU:b9 x0 x0 (bF NG):=cM (by kernel_rfl)
abbrev NF:Stmt:=inClass (top 77) 7
def adT:b9 x0 x0 (bF NF):=cM (by kernel_rfl)
abbrev NC:Stmt:=inClass (top 77) 8
def adR:b9 x0 x0 (bF NC):=cM (by kernel_rfl)
abbrev Nz:Stmt:=inClass (top 77) 9
def adO:b9 x0 x0 (bF Nz):=cM (by kernel_rfl)
abbrev Ny:Stmt:=inClass (top 77) 10
def adN:b9 W1 W1 (bF Ny):=cM (by kernel_rfl)
abbrev Np:Stmt:=inClass (top 77) 11
def adE:b9 x0 x0 (bF Np):=cM (by kernel_rfl)
abbrev Nw:Stmt:=inClass (top 77) 12
def adL:b9 W1 W1 (bF Nw):=cM (by kernel_rfl)
abbrev Nu:Stmt:=inClass (top 77) 13
def adJ:b9 ["self","pair","load"] ["self","pair"] (bF Nu):=cM (by kernel_rfl)
abbrev ND:Stmt:=inClass (top 77) 14
def adS:b9 zzz9 zzz9 (bF ND):=cM (by kernel_rfl)
abbrev Nx:Stmt:=inClass (top 77) 15
def adM:b9 ["self","letter","shut"] W1 (bF Nx):=cM (by kernel_rfl)
abbrev Nr:Stmt:=inClass (top 77) 16
def adH:b9 ["self","slate","doing"] x0 (bF Nr):=cM (by kernel_rfl)
abbrev adq:Stmt:=inClass (top 77) 17
abbrev adp:Stmt:=inClass (top 77) 18
abbrev Nt:Stmt:=inClass (top 77) 19
def adI:b9 zzy0 zzy0 (bF Nt):=cM (by kernel_rfl)
abbrev N2:Stmt:=top 79
def aeh:b9 zzy1 zzy1 (bF N2):=cM (by kernel_rfl)
abbrev Og:Stmt:=top 80
def aex:b9 ["found","due","one","other"] ["found","due"] (bF Og):=cM (by kernel_rfl)
abbrev Oi:Stmt:=top 81
def aez:b9 zzy2 zzy2 (bF Oi):=cM (by kernel_rfl)
abbrev N9:Stmt:=top 82
def aeo:b9 ["cell","three","rows","columns","some","asking","keeping"] ["cell"] (bF N9):=cM (by kernel_rfl)
abbrev Od:Stmt:=top 83
def aeu:b9 ["rule","found","part"] v4 (bF Od):=cM (by kernel_rfl)
abbrev Ob:Stmt:=top 84
def aes:b9 ["hall","there"] P3 (bF Ob):=cM (by kernel_rfl)
abbrev N7:Stmt:=top 85
def aem:b9 zzy3 zzy3 (bF N7):=cM (by kernel_rfl)
abbrev Oc:Stmt:=top 86
def aet:b9 ["cell","size","at","name","k"] ["cell"] (bF Oc):=cM (by kernel_rfl)
abbrev N4:Stmt:=top 87
def aej:b9 ["cell","seed","number"] ["cell","seed"] (bF N4):=cM (by kernel_rfl)
abbrev N5:Stmt:=top 88
def aek:b9 ["slate","me","number","deed","cells","doings","lease","shut","later","answer","have","now","rest"] zzy7 (bF N5):=cM (by kernel_rfl)
abbrev Oe:Stmt:=top 89
def aev:b9 zzy4 zzy4 (bF Oe):=cM (by kernel_rfl)
abbrev N_:Stmt:=top 90
def aep:b9 ["books","letter","word","asker","keeper","epoch","stamp","load","promised","kept","slate"] ["books","letter"] (bF N_):=cM (by kernel_rfl)
abbrev N0:Stmt:=top 91
def aef:b9 zzy5 zzy5 (bF N0):=cM (by kernel_rfl)
abbrev N1:Stmt:=top 92
def aeg:b9 ["grants","opening","best","slate","keeper","kept","told"] zzz1 (bF N1):=cM (by kernel_rfl)
abbrev Oh:Stmt:=top 93
def aey:b9 ["me","place","stamp","number","deed","grants","best","slate","load"] zzy8 (bF Oh):=cM (by kernel_rfl)
abbrev N8:Stmt:=top 94
def aen:b9 ["books","place","ghost","number","deed","cell","members","top","asked","told","grants","ask","answer","tell"] zzy9 (bF N8):=cM (by kernel_rfl)
abbrev Oa:Stmt:=top 95
def aer:b9 ["one"] ["one"] (bF Oa):=cM (by kernel_rfl)
abbrev N3:Stmt:=top 96
def aei:b9 f8 f8 (bF N3):=cM (by kernel_rfl)
abbrev N':Stmt:=top 97
def aeq:b9 ["one","world","answer","before","counts","letters","rule","goes"] f8 (bF N'):=cM (by kernel_rfl)
abbrev Of:Stmt:=top 98
def aew:b9 ["one","world","cell","seed","before","deed","letters"] zzz0 (bF Of):=cM (by kernel_rfl)
abbrev N6:Stmt:=top 99
def ael:b9 ["one","world","cell","seed","more","ghost","deed","some","letter","answer"] zzz0 (bF N6):=cM (by kernel_rfl)
abbrev w2:Stmt:=top 100
def aee:b9 ["script","me","seed","hall","place","world","one","cell"] ["script"] (bF w2):=cM (by kernel_rfl)
abbrev zV:List Str:=["me","epoch","hall","opening","over_known","greatest_round","last_stamp","wishes","deed","standing","last_outcome","grants","kept_mask","told_slate"]
abbrev ts:List (Str×D):=[("put",.t [(.str "name"),(.str "number")]),("add",.t [(.str "name"),(.str "number")]),("swap",.t [(.str "name"),(.str "number"),(.str "number")]),("take",.t [(.str "fence")]),("renew",.t [(.str "fence")]),("free",.t [(.str "fence")]),("sure",.t [(.str "fence"),(.str "name"),(.str "number")]),("move",.t [(.str "hall")]),("end",.t [])]
abbrev r':List (Str×Str):=[("put","do_put"),("add","do_add"),("swap","do_swap"),("take","do_take"),("renew","do_renew"),("free","do_free"),("sure","do_sure"),("move","do_move"),("end","do_end")]
structure Txt[aE.a5](P:akh)(w:World)(K:aT)(mg:bo)(base:Heap):Prop where
 UM:cn K mg "is_whole" NY o0
 UC:cn K mg "has_keeper" NS zzz2
 U6:cn K mg "mask_of" Oj ["keepers"]
 UN:cn K mg "keepers_of" NZ ["mask"]
 UD:cn K mg "highest" ua zzz1
 Uj:cn K mg "all_alike" NH v6
 UB:cn K mg "granters" NR v6
 IV:cn K mg "namings" Oq v4
 U9:cn K mg "named" Oo v4
 IP:cn K mg "fills" NP zzz3
 UH:cn K mg "is_hall" adA o0
 U7:cn K mg "members_mask" Ol P3
 U8:cn K mg "members_of" Om P3
 UI:cn K mg "is_name" NU o0
 UJ:cn K mg "is_number" NV o0
 UG:cn K mg "is_fence" adz o0
 Uy:cn K mg "form_of" NQ ["word"]
 UK:cn K mg "is_part" NW zzz4
 UE:cn K mg "is_deed" NT o0
 Ul:cn K mg "blank" NJ []
 Va:cn K mg "shut_of" Ou u8
 UL:cn K mg "is_shut" NX u8
 Um:cn K mg "cell_of" NK ["slate","name"]
 Vc:cn K mg "with_cell" r3 ["slate","name","n"]
 Uw:cn K mg "doing_of" NN ["slate","asker"]
 Vd:cn K mg "with_doing" r4 ["slate","asker","number","answer"]
 Ur:cn K mg "do_put" NM T0
 Un:cn K mg "do_add" NL T0
 Uu:cn K mg "do_swap" adx T0
 Uv:cn K mg "do_take" ady T0
 Us:cn K mg "do_renew" adv T0
 Up:cn K mg "do_free" adt T0
 Ut:cn K mg "do_sure" adw T0
 Uq:cn K mg "do_move" adu T0
 Uo:cn K mg "do_end" ads T0
 U_:cn K mg "outcome_of" Ot T0
 Ux:cn K mg "done_on" NO zzy6
 Uk:cn K mg "ask_letter" NI zzz5
 Vb:cn K mg "tell_letter" Ov zzz6
 T1:gu K mg "Asker" "__init__" "Asker.__init__" Nn zzz7
 BQ:xC K mg "Asker" "begin" "Asker.begin" E' zzz8
 T3:gu K mg "Asker" "bell" "Asker.bell" Nq x0
 T8:gu K mg "Asker" "hear" "Asker.hear" Nv W1
 Ud:gu K mg "Asker" "outcome" "Asker.outcome" NB x0
 Uc:gu K mg "Asker" "number" "Asker.number" NA x0
 Ui:gu K mg "Asker" "stand" "Asker.stand" NG x0
 Uh:gu K mg "Asker" "stamp" "Asker.stamp" NF x0
 Ue:gu K mg "Asker" "place" "Asker.place" NC x0
 Ua:gu K mg "Asker" "knows_over" "Asker.knows_over" Nz x0
 T':gu K mg "Asker" "is_for_now" "Asker.is_for_now" Ny W1
 T2:gu K mg "Asker" "ask_members" "Asker.ask_members" Np x0
 T9:gu K mg "Asker" "hear_grant" "Asker.hear_grant" Nw W1
 T6:gu K mg "Asker" "go_on" "Asker.go_on" Nu ["self","pair"]
 Ug:gu K mg "Asker" "sees_at_once" "Asker.sees_at_once" ND zzz9
 T_:gu K mg "Asker" "hear_kept" "Asker.hear_kept" Nx W1
 T4:gu K mg "Asker" "end_where_told" "Asker.end_where_told" Nr x0
 Ub:gu K mg "Asker" "learn_over" "Asker.learn_over" adq x0
 T7:gu K mg "Asker" "go_over" "Asker.go_over" adp ["self","hall"]
 T5:gu K mg "Asker" "end_wish" "Asker.end_wish" Nt zzy0
 UQ:cn K mg "_law_cell_at" N2 zzy1
 IT:cn K mg "_law_same" Og ["found","due"]
 IU:cn K mg "_law_turned" Oi zzy2
 UX:cn K mg "_law_hall" N9 ["cell"]
 IS:cn K mg "_law_named" Od v4
 U1:cn K mg "_law_members" Ob P3
 IQ:cn K mg "_law_filled" N7 zzy3
 U2:cn K mg "_law_name" Oc ["cell"]
 US:cn K mg "_law_deed" N4 ["cell","seed"]
 UT:cn K mg "_law_done" N5 zzy7
 U3:cn K mg "_law_page" Oe zzy4
 UY:cn K mg "_law_heard" N_ ["books","letter"]
 UO:cn K mg "_law_asks" N0 zzy5
 UP:cn K mg "_law_best" N1 zzz1
 U5:cn K mg "_law_tells" Oh zzy8
 UW:cn K mg "_law_ghost" N8 zzy9
 U0:cn K mg "_law_look" Oa ["one"]
 UR:cn K mg "_law_counts" N3 f8
 UZ:cn K mg "_law_hears" N' f8
 U4:cn K mg "_law_rung" Of zzz0
 UU:cn K mg "_law_event" N6 zzz0
 BR:cn K mg "law" w2 ["script"]
 oc:pB K mg "Asker" zV
 Cx:∃u,mg "SMALL_LETTERS"=some u/\RelV (.str "abcdefghijklmnopqrstuvwxyz") u
 Cw:∃u,mg "MOST_LETTERS"=some u/\RelV (.int 8) u
 Av:uB P w K mg "DOERS" r'
 Dq:KTab P w K mg "FORMS" ts
 DE:∃c pJ,nd K c pJ (qe "highest")/\∀(f:Addr)(cZ:Value)(df:Option Addr)(cC doc pm:Value)(an:Option Addr)(br b5:Value)(fv:Array (Option Value)),mg "highest"=some (.ref f)->K.lookup f=some ⟨cZ,df,.func (alL "highest" "highest" (h7 ua) (fq ua) (bF ua) .none cC doc pm an br b5),fv⟩->br=.ref c
 DK:∃c pJ,nd K c pJ (qe "with_cell")/\∀(f:Addr)(cZ:Value)(df:Option Addr)(cC doc pm:Value)(an:Option Addr)(br b5:Value)(fv:Array (Option Value)),mg "with_cell"=some (.ref f)->K.lookup f=some ⟨cZ,df,.func (alL "with_cell" "with_cell" (h7 r3) (fq r3) (bF r3) .none cC doc pm an br b5),fv⟩->br=.ref c
 DL:∃c pJ,nd K c pJ (qe "with_doing")/\∀(f:Addr)(cZ:Value)(df:Option Addr)(cC doc pm:Value)(an:Option Addr)(br b5:Value)(fv:Array (Option Value)),mg "with_doing"=some (.ref f)->K.lookup f=some ⟨cZ,df,.func (alL "with_doing" "with_doing" (h7 r4) (fq r4) (bF r4) .none cC doc pm an br b5),fv⟩->br=.ref c
 bm:ky base mg
 B:F5 mg
 kt:uE K
section
variable[aE.a5]{P:akh}{w:World}{K:aT}{mg:bo}{base:Heap}
def RJ:aX:=
  (bw (j1 (b_ hJ (U (J 0) (U (aa (.ty "int")) ai))) (yd (b_ hJ (U (J 0) (U (aa (.ty "bool")) ai))))))
def tG:bC:=fnOf 1 1 RJ
def G8:aX:=
  (bw (af oEq (af Eh (af Ej (J 0) (J 1)) (aa (.int 1))) (aa (.int 1))))
def qi:bC:=fnOf 2 2 G8
def DI:aX:=
  (b1 1 (af tS (J 1) (af Ei (aa (.int 1)) (J 2))))
def HO:aX:=
  (bw (J 1))
def HN:aX:=
  b4 (oa 2 (Dd (J 0)) DI) HO
def HM:aX:=
  b4 (b1 1 (aa (.int 0))) HN
def tK:bC:=fnOf 1 3 HM
def Hi:aX:=
  (bw (e3 1 [0] (rz (U (bL oBits (J 0)) ai)) (a3 (bt qi (U (J 1) (U (J 0) ai)))) (J 0)))
def zH:bC:=fnOf 1 1 Hi
def G_:aX:=
  (bw (bG (U (af aO (J 2) (aa (.int 1))) (U (af aO (J 2) (aa (.int 2))) ai))))
def G9:aX:=
  b4 (cP (a3 (af oEq (af aO (J 2) (aa (.int 1))) (bG (U (aa (.int 0)) (U (aa (.int 0)) ai))))) (bw (bG (U (af aO (J 2) (aa (.int 1))) (U (J 1) ai)))) cj) G_
def Bq:aX:=
  b4 (b1 2 (yc (fnOf 1 1 (bw (af aO (J 0) (aa (.int 1))))) (J 0))) G9
def zE:bC:=fnOf 2 3 Bq
def W8(T:Txt P w K mg base):b6 P w K mg base "highest" ["grants","opening"] 4 (bY K mg zE):=by
 show b6 P w K mg base _ _ _ (bY K mg (fnOf 2 3 Bq));obtain⟨c,pJ,L,aD⟩:=T.DE;refine CK (k:=3) T.UD aD Oz rfl rfl λf A outer s H E aA=>?_
 have cy:=aA.units;refine fm.un ?_;refine qJ ?_ (qJ ?_ (si ?_))
 .exact(FO (i:=2) Oz.dU rfl (.inl rfl) (agq (k:=0) (N:=["one"]) (p1:="one") rfl T.B.max (aA.mono (by omega)) L T.bm rfl rfl ⟨rfl,rfl,rfl,by decide +kernel,rfl,by decide +kernel,by decide +kernel⟩ (λ_ _ _ _=>rfl) (λ_ _ _ _ _ _=>(ip ic h6 (eL 0) hi)) (eL 0)))
 .exact(FN (jv (Ex cy) Bh (ip ic h6 (eL 2) hi) (qI (fZ hi (fZ hi k7)))) (si (uo (qI (fZ (ip ic h6 (eL 2) hi) (fZ (eL 1) k7))))) FP)
 .exact(uo (qI (fZ (ip ic h6 (eL 2) hi) (fZ (ip ic h6 (eL 2) hi) k7))))
def RE:aX:=
  (bw (b_ rb (U (e3 1 [0] (j7 (J 0)) gr (af oEq (af aO (J 0) (aa (.int 1))) (af aO (af aO (J 1) (aa (.int 0))) (aa (.int 1))))) ai)))
def zD:bC:=fnOf 1 1 RE
def G7:aX:=
  (bw (bt tK (U (e3 1 [] (j7 (J 0)) gr (af aO (J 0) (aa (.int 0)))) ai)))
def oW:bC:=fnOf 1 1 G7
def DJ(self:bC):aX:=
  (l' 1 xg (U (bt self (U (J 2) ai)) ai))
def HU(self:bC):aX:=
  (ye 1)
def HT(self:bC):aX:=
  b4 (oa 2 (iE (af aO (J 0) (aa (.int 1)))) (DJ self)) (HU self)
def HS(self:bC):aX:=
  b4 (j3 1 (dh ai)) (HT self)
def x5(self:bC):aX:=
  b4 (cP (a3 (bt tG (U (J 0) ai))) (bw (dh (U (J 0) ai))) cj) (HS self)
def ql:Nat->bC
 |0=>λ_=>bad
 |n+1=>fnOf 1 3 (x5 (ql n))
def HR:aX:=
  (bw (bt tK (U (bt (ql 12) (U (J 0) ai)) ai)))
def v_:bC:=fnOf 1 1 HR
def G5(self:bC):aX:=
  (bw (af o8 (b_ fh (U (e3 1 [1] (iE (af aO (J 0) (aa (.int 1)))) (a3 (bt self (U (J 0) (U (J 1) ai)))) (J 0)) ai)) (af aO (J 0) (aa (.int 0)))))
def x1(self:bC):aX:=
  b4 (cP (a3 (bt tG (U (J 0) ai))) (bw (bt qi (U (J 1) (U (J 0) ai)))) cj) (G5 self)
def j_:Nat->bC
 |0=>λ_=>bad
 |n+1=>fnOf 2 2 (x1 (j_ n))
def LX:bC:=λ_=>bad
def W'(T:Txt P w K mg base):b6 P w K mg base "is_hall" ["thing"] 1 (bY K mg LX):=T.UH.none (by rintro vs H Q E ⟨O,ds,r,S,_,_,_,h,_⟩;cases h)
def HP:aX:=
  (bw (af tS (bt v_ (U (af aO (J 0) (aa (.int 0))) ai)) (bt v_ (U (af aO (J 0) (aa (.int 1))) ai))))
def zL:bC:=fnOf 1 1 HP
def HQ:aX:=
  (bw (bt zH (U (bt zL (U (J 0) ai)) ai)))
def mO:bC:=fnOf 1 1 HQ
def He:aX:=
  (bw (b_ rb (U (e3 1 [] (Kt (J 0)) gr (af (rW false) (J 0) (aa (.str "abcdefghijklmnopqrstuvwxyz")))) ai)))
def Hd:aX:=
  b4 (cP (hh (fw (a3 (b_ hJ (U (J 0) (U (aa (.ty "str")) ai))))) (fw (a3 (j0 oLe oLe (aa (.int 1)) (b_ vd (U (J 0) ai)) (aa (.int 8)))))) (bw (aa (.az false))) cj) He
def zF:bC:=fnOf 1 1 Hd
def Hf:aX:=
  (bw (j1 (bt tG (U (J 0) ai)) (af oLt (b_ va (U (J 0) ai)) (af kZ (aa (.int 10)) (aa (.int 60))))))
def zG:bC:=fnOf 1 1 Hf
def LW:bC:=λ_=>bad
def W_(T:Txt P w K mg base):b6 P w K mg base "is_fence" ["thing"] 1 (bY K mg LW):=T.UG.none (by rintro vs H Q E ⟨O,ds,r,S,_,_,_,h,_⟩;cases h)
def G6:aX:=
  (bw (BF ts (J 0)))
def DZ:bC:=fnOf 1 1 G6
def RI:aX:=
  (bw (bt LX (U (J 1) ai)))
def RH:aX:=
  b4 (cP (a3 (af oEq (J 0) (aa (.str "fence")))) (bw (bt LW (U (J 1) ai))) cj) RI
def Hg:aX:=
  b4 (cP (a3 (af oEq (J 0) (aa (.str "number")))) (bw (bt zG (U (J 1) ai))) cj) RH
def Br:aX:=
  b4 (cP (a3 (af oEq (J 0) (aa (.str "name")))) (bw (bt zF (U (J 1) ai))) cj) Hg
def rM:bC:=fnOf 2 2 Br
def Hc:aX:=
  (bw (b_ rb (U (uV [] (U (J 1) (U (BD (J 0) (sT (aa (.int 1))) BC) ai)) gr (bt rM (U (J 0) (U (J 1) ai)))) ai)))
def Hb:aX:=
  b4 (cP (hh (a3 (af kf (J 1) (aa (.aI)))) (a3 (af d8 (b_ fh (U (J 0) ai)) (af hx (b_ fh (U (J 1) ai)) (aa (.int 1)))))) (bw (aa (.az false))) cj) Hc
def Ha:aX:=
  b4 (b1 1 (bt DZ (U (af aO (J 0) (aa (.int 0))) ai))) Hb
def G':aX:=
  b4 (cP (hh (fw (a3 (b_ hJ (U (J 0) (U (aa (.ty "tuple")) ai))))) (hh (a3 (af oEq (b_ fh (U (J 0) ai)) (aa (.int 0)))) (fw (a3 (b_ hJ (U (af aO (J 0) (aa (.int 0))) (U (aa (.ty "str")) ai))))))) (bw (aa (.az false))) cj) Ha
def v7:bC:=fnOf 1 2 G'
def RG:aX:=
  (bw (bG (U (bG ai) (U (bG ai) (U (bG (U (aa (.int 0)) (U (aa (.aI)) ai))) (U (aa (.aI)) ai))))))
def LN:bC:=fnOf 0 0 RG
def HV:aX:=
  (bw (af aO (J 0) (aa (.int 3))))
def rO:bC:=fnOf 1 1 HV
def Hh:aX:=
  (bw (af lM (bt rO (U (J 0) ai)) (aa (.aI))))
def qj:bC:=fnOf 1 1 Hh
def zo:aX:=
  (cP (a3 (af oEq (af aO (J 2) (aa (.int 0))) (J 1))) (bw (af aO (J 2) (aa (.int 1)))) cj)
def GZ:aX:=
  (bw (aa (.int 0)))
def GY:aX:=
  b4 (oa 2 (iE (af aO (J 0) (aa (.int 0)))) zo) GZ
def vZ:bC:=fnOf 2 3 GY
def HX:aX:=
  (bw (bG (U (b_ mi (U (q0 ie (fnOf 1 1 (bw (af aO (J 0) (aa (.int 0))))) (J 3)) ai)) (U (af aO (J 0) (aa (.int 1))) (U (af aO (J 0) (aa (.int 2))) (U (af aO (J 0) (aa (.int 3))) ai))))))
def HW:aX:=
  b4 (cP (a3 (af d8 (J 2) (aa (.int 0)))) (l' 3 iL (U (bG (U (J 1) (U (J 2) ai))) ai)) cj) HX
def Bv:aX:=
  b4 (j3 3 (e3 1 [1] (iE (af aO (J 0) (aa (.int 0)))) (a3 (af d8 (af aO (J 0) (aa (.int 0))) (J 1))) (J 0))) HW
def v':bC:=fnOf 3 4 Bv
def XJ(T:Txt P w K mg base):b6 P w K mg base "with_cell" ["slate","name","n"] 4 (bY K mg v'):=by
 show b6 P w K mg base _ _ _ (bY K mg (fnOf 3 4 Bv));obtain⟨c,pJ,L,aD⟩:=T.DK;refine CK (k:=3) T.Vc aD OA rfl rfl λf A outer s H E aA=>?_
 have cy:=aA.units;refine fm.un ?_;refine qJ ?_ (qJ ?_ (si ?_))
 .exact(FL (i:=3) (esc:=(bF r3)) (EN:=["slate","name","n","cells"]) (N:=["cell","name"]) (n:=1) (cap:=[1]) ⟨rfl,by decide +kernel,by decide +kernel,by decide +kernel,by decide +kernel,rfl,by decide +kernel⟩ OA.dU rfl rfl (by decide) (FI (ip ic h6 (eL 0) hi)) rfl (λ_ _ _ _=>⟨alU rfl,rfl⟩) (λ_ _ _ _=>(FJ (jv (wG cy) uP (ip ic h6 (eL 0) hi) (eL 1)))) (λ_ _ _ _=>(eL 0)))
 .exact(FN (jv (wG cy) uP (eL 2) hi) (si (AG (i:=3) aml amm wd zy (fZ (qI (fZ (eL 1) (fZ (eL 2) k7))) k7) rfl (.inl rfl))) FP)
 .exact(uo (qI (fZ (xk BH Dp rfl T.B.tuple' x' (fZ (Py (k:=0) (N:=["cell"]) (p1:="cell") K9 rfl T.B.sorted (aA.mono (by omega)) L T.bm rfl rfl ⟨rfl,rfl,rfl,by decide +kernel,rfl,by decide +kernel,by decide +kernel⟩ (λ_ _ _ _=>rfl) (λ_ _ _ _ _ _=>(ip ic h6 (eL 0) hi)) (eL 3)) k7)) (fZ (ip ic h6 (eL 0) hi) (fZ (ip ic h6 (eL 0) hi) (fZ (ip ic h6 (eL 0) hi) k7))))))
def zp:aX:=
  (cP (a3 (af oEq (af aO (J 2) (aa (.int 0))) (J 1))) (bw (J 2)) cj)
def G4:aX:=
  (bw (bG (U (J 1) (U (aa (.int 0)) (U (aa (.aI)) ai)))))
def G3:aX:=
  b4 (oa 2 (iE (af aO (J 0) (aa (.int 1)))) zp) G4
def rL:bC:=fnOf 2 3 G3
def HZ:aX:=
  (bw (bG (U (af aO (J 0) (aa (.int 0))) (U (b_ mi (U (q0 fI (fnOf 1 1 (bw (af aO (J 0) (aa (.int 0))))) (J 4)) ai)) (U (af aO (J 0) (aa (.int 2))) (U (af aO (J 0) (aa (.int 3))) ai))))))
def HY:aX:=
  b4 (l' 4 iL (U (bG (U (J 1) (U (J 2) (U (J 3) ai)))) ai)) HZ
def Bw:aX:=
  b4 (j3 4 (e3 1 [1] (iE (af aO (J 0) (aa (.int 1)))) (a3 (af d8 (af aO (J 0) (aa (.int 0))) (J 1))) (J 0))) HY
def zM:bC:=fnOf 4 5 Bw
def XK(T:Txt P w K mg base):b6 P w K mg base "with_doing" ["slate","asker","number","answer"] 4 (bY K mg zM):=by
 show b6 P w K mg base _ _ _ (bY K mg (fnOf 4 5 Bw));obtain⟨c,pJ,L,aD⟩:=T.DL;refine CK (k:=3) T.Vd aD OB rfl rfl λf A outer s H E aA=>?_
 have cy:=aA.units;refine fm.un ?_;refine qJ ?_ (qJ ?_ (si ?_))
 .exact(FL (i:=4) (esc:=(bF r4)) (EN:=["slate","asker","number","answer","doings"]) (N:=["doing","asker"]) (n:=1) (cap:=[1]) ⟨rfl,by decide +kernel,by decide +kernel,by decide +kernel,by decide +kernel,rfl,by decide +kernel⟩ OB.dU rfl rfl (by decide) (FI (ip ic h6 (eL 0) hi)) rfl (λ_ _ _ _=>⟨alU rfl,rfl⟩) (λ_ _ _ _=>(FJ (jv (wG cy) uP (ip ic h6 (eL 0) hi) (eL 1)))) (λ_ _ _ _=>(eL 0)))
 .exact(AG (i:=4) aml amm wd zy (fZ (qI (fZ (eL 1) (fZ (eL 2) (fZ (eL 3) k7)))) k7) rfl (.inl rfl))
 .exact(uo (qI (fZ (ip ic h6 (eL 0) hi) (fZ (xk BH Dp rfl T.B.tuple' x' (fZ (Py (k:=0) (N:=["doing"]) (p1:="doing") K8 rfl T.B.sorted (aA.mono (by omega)) L T.bm rfl rfl ⟨rfl,rfl,rfl,by decide +kernel,rfl,by decide +kernel,by decide +kernel⟩ (λ_ _ _ _=>rfl) (λ_ _ _ _ _ _=>(ip ic h6 (eL 0) hi)) (eL 4)) k7)) (fZ (ip ic h6 (eL 0) hi) (fZ (ip ic h6 (eL 0) hi) k7))))))
def G2:aX:=
  (bw (bG (U (bt v' (U (J 0) (U (af aO (J 2) (aa (.int 1))) (U (af aO (J 2) (aa (.int 2))) ai)))) (U (bt vZ (U (J 0) (U (af aO (J 2) (aa (.int 1))) ai))) ai))))
def v5:bC:=fnOf 3 3 G2
def G1:aX:=
  (bw (bG (U (bt v' (U (J 0) (U (af aO (J 2) (aa (.int 1))) (U (J 3) ai)))) (U (J 3) ai))))
def G0:aX:=
  b4 (b1 3 (af hx (bt vZ (U (J 0) (U (af aO (J 2) (aa (.int 1))) ai))) (af aO (J 2) (aa (.int 2))))) G1
def v3:bC:=fnOf 3 4 G0
def LU:bC:=λ_=>bad
def JY(T:Txt P w K mg base):b6 P w K mg base "do_swap" ["slate","asker","deed"] 1 (bY K mg LU):=T.Uu.none (by rintro vs H Q E ⟨O,ds,r,S,_,_,_,h,_⟩;cases h)
def LV:bC:=λ_=>bad
def JZ(T:Txt P w K mg base):b6 P w K mg base "do_take" ["slate","asker","deed"] 1 (bY K mg LV):=T.Uv.none (by rintro vs H Q E ⟨O,ds,r,S,_,_,_,h,_⟩;cases h)
def LR:bC:=λ_=>bad
def JW(T:Txt P w K mg base):b6 P w K mg base "do_renew" ["slate","asker","deed"] 1 (bY K mg LR):=T.Us.none (by rintro vs H Q E ⟨O,ds,r,S,_,_,_,h,_⟩;cases h)
def LP:bC:=λ_=>bad
def JT(T:Txt P w K mg base):b6 P w K mg base "do_free" ["slate","asker","deed"] 1 (bY K mg LP):=T.Up.none (by rintro vs H Q E ⟨O,ds,r,S,_,_,_,h,_⟩;cases h)
def LS:bC:=λ_=>bad
def JX(T:Txt P w K mg base):b6 P w K mg base "do_sure" ["slate","asker","deed"] 1 (bY K mg LS):=T.Ut.none (by rintro vs H Q E ⟨O,ds,r,S,_,_,_,h,_⟩;cases h)
def LQ:bC:=λ_=>bad
def JU(T:Txt P w K mg base):b6 P w K mg base "do_move" ["slate","asker","deed"] 1 (bY K mg LQ):=T.Uq.none (by rintro vs H Q E ⟨O,ds,r,S,_,_,_,h,_⟩;cases h)
def LO:bC:=λ_=>bad
def JS(T:Txt P w K mg base):b6 P w K mg base "do_end" ["slate","asker","deed"] 1 (bY K mg LO):=T.Uo.none (by rintro vs H Q E ⟨O,ds,r,S,_,_,_,h,_⟩;cases h)
abbrev vg:List (Str×bC):=[("do_put",v5),("do_add",v3),("do_swap",LU),("do_take",LV),("do_renew",LR),("do_free",LP),("do_sure",LS),("do_move",LQ),("do_end",LO)]
def Bu:aX:=
  (bw (BB 3 vg (U (J 0) (U (J 1) (U (J 2) ai)))))
def x6:aX:=
  b4 (b1 3 (BE r' (af aO (J 2) (aa (.int 0))))) Bu
def nM:bC:=fnOf 3 4 x6
def Bp:aX:=
  (bw (bt zM (U (af aO (J 4) (aa (.int 0))) (U (J 1) (U (J 2) (U (af aO (J 4) (aa (.int 1))) ai))))))
def Bo:aX:=
  b4 (b1 4 (bt nM (U (J 0) (U (J 1) (U (J 3) ai))))) Bp
def Bn:aX:=
  b4 (cP (hh (a3 (af kf (J 3) (aa (.aI)))) (hh (a3 (bt qj (U (J 0) ai))) (a3 (af o8 (af aO (bt rL (U (J 0) (U (J 1) ai))) (aa (.int 1))) (J 2))))) (bw (J 0)) cj) Bo
def mN:bC:=fnOf 4 5 Bn
def RF:aX:=
  (bw (bG (U (aa (.str "ask")) (U (J 0) (U (J 1) (U (J 2) (U (J 3) (U (bG ai) ai))))))))
def LM:bC:=fnOf 4 4 RF
def SS:aX:=
  (bw (bG (U (aa (.str "tell")) (U (J 0) (U (J 1) (U (J 2) (U (J 3) (U (J 4) ai))))))))
def LY:bC:=fnOf 5 5 SS
def QY:bf:=
  (eS "Asker" "told_slate" (J 0) (c1 (aa (.aI))))
def QX:bf:=
  bE (eS "Asker" "kept_mask" (J 0) (c1 (aa (.int 0)))) QY
def QW:bf:=
  bE (eS "Asker" "grants" (J 0) (kq (c1 (dh ai)))) QX
def QV:bf:=
  bE (eS "Asker" "last_outcome" (J 0) (c1 (aa (.aI)))) QW
def Q6:bf:=
  bE (eS "Asker" "standing" (J 0) (c1 (aa (.str "calm")))) QV
def Q5:bf:=
  bE (eS "Asker" "deed" (J 0) (c1 (aa (.aI)))) Q6
def Q4:bf:=
  bE (eS "Asker" "wishes" (J 0) (c1 (aa (.int 0)))) Q5
def Q3:bf:=
  bE (eS "Asker" "last_stamp" (J 0) (c1 (bG (U (aa (.int 0)) (U (aa (.int 0)) ai))))) Q4
def Q2:bf:=
  bE (eS "Asker" "greatest_round" (J 0) (c1 (aa (.int 0)))) Q3
def Q1:bf:=
  bE (eS "Asker" "over_known" (J 0) (c1 (aa (.az false)))) Q2
def Q0:bf:=
  bE (eS "Asker" "opening" (J 0) (c1 (bt LN ai))) Q1
def QZ:bf:=
  bE (eS "Asker" "hall" (J 0) (c1 (J 2))) Q0
def QU:bf:=
  bE (eS "Asker" "epoch" (J 0) (c1 (aa (.int 0)))) QZ
def Bj:bf:=
  bE (eS "Asker" "me" (J 0) (c1 (J 1))) QU
def zz:fb:=fnX 3 3 Bj
def Q_:bf:=
  (bR (bw (e3 1 [0] (j7 (bt mO (U (bL (cD "Asker" "hall") (J 0)) ai))) gr (bt LM (U (bL (cD "Asker" "me") (J 1)) (U (J 0) (U (bL (cD "Asker" "epoch") (J 1)) (U (bL (cD "Asker" "last_stamp") (J 1)) ai))))))))
def Q9:bf:=
  bE (eS "Asker" "grants" (J 0) (kq (c1 (dh ai)))) Q_
def Q8:bf:=
  bE (eS "Asker" "standing" (J 0) (c1 (aa (.str "asking")))) Q9
def Q7:bf:=
  bE (eS "Asker" "last_stamp" (J 0) (c1 (bG (U (bL (cD "Asker" "greatest_round") (J 0)) (U (bL (cD "Asker" "me") (J 0)) ai))))) Q8
def GH:bf:=
  bE (eS "Asker" "greatest_round" (J 0) (c1 (af hx (bL (cD "Asker" "greatest_round") (J 0)) (aa (.int 1))))) Q7
def zA:fb:=fnX 1 1 GH
def Rf:bf:=
  (k9 (fR "Asker" "ask_members" zA (J 0) kr))
def Rd:bf:=
  bE (eS "Asker" "last_outcome" (J 0) (c1 (aa (.aI)))) Rf
def Rc:bf:=
  bE (eS "Asker" "deed" (J 0) (c1 (J 1))) Rd
def Rb:bf:=
  bE (eS "Asker" "wishes" (J 0) (c1 (af hx (bL (cD "Asker" "wishes") (J 0)) (aa (.int 1))))) Rc
def Ra:bf:=
  bE (bR (cP (a3 (af d8 (bL (cD "Asker" "standing") (J 0)) (aa (.str "calm")))) uW cj)) Rb
def Q':bf:=
  bE (bR (cP (a3 (bL (cD "Asker" "over_known") (J 0))) uW cj)) Ra
def Bk:bf:=
  bE (bR (cP (jr (a3 (af lM (J 1) (aa (.aI)))) (fw (a3 (bt v7 (U (J 1) ai))))) uW cj)) Q'
def tB:fb:=fnX 2 2 Bk
def Rg:bf:=
  (k9 (fR "Asker" "ask_members" zA (J 0) kr))
def GI:bf:=
  bE (bR (cP (a3 (af oEq (bL (cD "Asker" "standing") (J 0)) (aa (.str "calm")))) (bw (dh ai)) cj)) Rg
def qh:fb:=fnX 1 1 GI
def RC:aX:=
  (bw (af (ke false) (af aO (J 1) (aa (.int 1))) (bt mO (U (bL (cD "Asker" "hall") (J 0)) ai))))
def GP:aX:=
  b4 (cP (hh (a3 (af d8 (af aO (J 1) (aa (.int 3))) (bL (cD "Asker" "epoch") (J 0)))) (a3 (af d8 (af aO (J 1) (aa (.int 4))) (bL (cD "Asker" "last_stamp") (J 0))))) (bw (aa (.az false))) cj) RC
def zB:bC:=fnOf 2 2 GP
def RD:aX:=
  (bw (bt (j_ 12) (U (af aO (bL (cD "Asker" "hall") (J 0)) (aa (.int 1))) (U (bt oW (U (gN (bL (cD "Asker" "grants") (J 0))) ai)) ai))))
def GV:aX:=
  b4 (cP (hh (a3 (bt qj (U (J 1) ai))) (fw (a3 (bt zD (U (gN (bL (cD "Asker" "grants") (J 0))) ai))))) (bw (aa (.az false))) cj) RD
def DY:bC:=fnOf 2 2 GV
def Ri:bf:=
  (eS "Asker" "last_outcome" (J 0) (c1 (J 1)))
def Bl:bf:=
  bE (eS "Asker" "standing" (J 0) (c1 (aa (.str "calm")))) Ri
def tD:fb:=fnX 2 2 Bl
def Rn:bf:=
  (bR (bw (e3 1 [0,2] (j7 (bt mO (U (bL (cD "Asker" "hall") (J 0)) ai))) gr (bt LY (U (bL (cD "Asker" "me") (J 1)) (U (J 0) (U (bL (cD "Asker" "epoch") (J 1)) (U (bL (cD "Asker" "last_stamp") (J 1)) (U (J 2) ai)))))))))
def Rm:bf:=
  bE (bR (b1 2 (bG (U (af aO (J 1) (aa (.int 0))) (U (bL (cD "Asker" "wishes") (J 0)) (U (bL (cD "Asker" "deed") (J 0)) (U (bL (cD "Asker" "told_slate") (J 0)) ai))))))) Rn
def Rl:bf:=
  bE (eS "Asker" "told_slate" (J 0) (c1 (bt mN (U (af aO (J 1) (aa (.int 1))) (U (bL (cD "Asker" "me") (J 0)) (U (bL (cD "Asker" "wishes") (J 0)) (U (bL (cD "Asker" "deed") (J 0)) ai))))))) Rm
def Rk:bf:=
  bE (eS "Asker" "kept_mask" (J 0) (c1 (aa (.int 0)))) Rl
def Rj:bf:=
  bE (eS "Asker" "standing" (J 0) (c1 (aa (.str "telling")))) Rk
def GK:bf:=
  bE (eT (fy (jr (a3 (af kf (bL (cD "Asker" "deed") (J 0)) (aa (.aI)))) (a3 (fp "Asker" "sees_at_once" DY (J 0) (U (af aO (J 1) (aa (.int 1))) ai))))) (bE (lZ (fR "Asker" "end_wish" tD (J 0) (gs (U (bG (U (aa (.str "saw")) (U (bG (U (bL (cD "Asker" "epoch") (J 0)) (U (af aO (J 1) (aa (.int 0))) (U (af aO (J 1) (aa (.int 1))) ai)))) ai))) ai))))
  (bR (bw (dh ai)))) (bR cj)) Rj
def rK:fb:=fnX 2 3 GK
def Rw:bf:=
  (k9 (fR "Asker" "go_on" rK (J 0) (gs (U (bt zE (U (gN (bL (cD "Asker" "grants") (J 0))) (U (bL (cD "Asker" "opening") (J 0)) ai))) ai))))
def Rv:bf:=
  bE (bR (cP (fw (a3 (bt (j_ 12) (U (af aO (bL (cD "Asker" "hall") (J 0)) (aa (.int 0))) (U (bt oW (U (gN (bL (cD "Asker" "grants") (J 0))) ai)) ai))))) (bw (dh ai)) cj)) Rw
def Ru:bf:=
  bE (qK iL (bL (cD "Asker" "grants") (J 0)) (U (bG (U (af aO (J 1) (aa (.int 1))) (U (af aO (af aO (J 1) (aa (.int 5))) (aa (.int 0))) (U (af aO (af aO (J 1) (aa (.int 5))) (aa (.int 1))) ai)))) ai)) Rv
def GN:bf:=
  bE (bR (cP (a3 (bt qi (U (bt oW (U (gN (bL (cD "Asker" "grants") (J 0))) ai)) (U (af aO (J 1) (aa (.int 1))) ai)))) (bw (dh ai)) cj)) Ru
def tE:fb:=fnX 2 2 GN
def Rh:bf:=
  (eT (fy (a3 (af lM (bL (cD "Asker" "deed") (J 0)) (aa (.aI))))) (bE (bR (b1 2 (bt rL (U (J 1) (U (bL (cD "Asker" "me") (J 0)) ai)))))
  (eT (fy (a3 (af oEq (af aO (J 2) (aa (.int 1))) (bL (cD "Asker" "wishes") (J 0))))) (lZ (fR "Asker" "end_wish" tD (J 0) (gs (U (bG (U (aa (.str "did")) (U (af aO (J 2) (aa (.int 2))) ai))) ai)))) (bR cj))) (eT (fy (fw (a3 (bt qj (U (J 1) ai))))) (lZ (fR "Asker" "end_wish" tD (J 0) (gs (U (bG (U (aa (.str "saw")) (U (bG (U (bL (cD "Asker" "epoch") (J 0)) (U (bL (cD "Asker" "last_stamp") (J 0)) (U (J 1) ai)))) ai))) ai)))) (eT (fy (a3 (af oEq (bt rO (U (J 1) ai)) (aa (.str "over"))))) (lZ (fR "Asker" "end_wish" tD (J 0) (gs (U (bG (U (aa (.str "saw")) (U (bG (U (bL (cD "Asker" "epoch") (J 0)) (U (aa (.aI)) (U (J 1) ai)))) ai))) ai)))) (bR cj))))
def GJ:bf:=
  bE (bR (b1 1 (bL (cD "Asker" "told_slate") (J 0)))) Rh
def tC:fb:=fnX 1 3 GJ
def LJ:fb:=λ_=>gU
def WQ(T:Txt P w K mg base):dK P w K mg base "Asker" "learn_over" ["self"] 1 (dP K mg LJ):=T.Ub.none (by rintro vs H Q E ⟨O,ds,r,S,S',_,_,_,_,h,_⟩;cases h)
def LH:fb:=λ_=>gU
def WJ(T:Txt P w K mg base):dK P w K mg base "Asker" "go_over" ["self","hall"] 1 (dP K mg LH):=T.T7.none (by rintro vs H Q E ⟨O,ds,r,S,S',_,_,_,_,h,_⟩;cases h)
def RB:bf:=
  (k9 (fR "Asker" "go_over" LH (J 0) (gs (U (J 2) ai))))
def RA:bf:=
  bE (eT (fy (a3 (af oEq (J 2) (aa (.str "over"))))) (bE (lZ (fR "Asker" "learn_over" LJ (J 0) kr))
  (bR (bw (dh ai)))) (bR cj)) RB
def Rz:bf:=
  bE (bR (cP (a3 (af kf (J 2) (aa (.aI)))) (bw (dh ai)) cj)) RA
def Ry:bf:=
  bE (bR (b1 2 (bt rO (U (bL (cD "Asker" "told_slate") (J 0)) ai)))) Rz
def Rx:bf:=
  bE (lZ (fR "Asker" "end_where_told" tC (J 0) kr)) Ry
def GO:bf:=
  bE (bR (cP (fw (a3 (bt (j_ 12) (U (af aO (bL (cD "Asker" "hall") (J 0)) (aa (.int 1))) (U (bL (cD "Asker" "kept_mask") (J 0)) ai))))) (bw (dh ai)) cj)) Rx
def Bm:bf:=
  bE (eS "Asker" "kept_mask" (J 0) (c1 (af tS (bL (cD "Asker" "kept_mask") (J 0)) (bt tK (U (dh (U (af aO (J 1) (aa (.int 1))) ai)) ai))))) GO
def vY:fb:=fnX 2 3 Bm
def Rt:bf:=
  (bR (bw (dh ai)))
def Rr:bf:=
  bE (eT (fy (jr (a3 (af oEq (af aO (J 1) (aa (.int 0))) (aa (.str "kept")))) (a3 (af oEq (bL (cD "Asker" "standing") (J 0)) (aa (.str "telling")))))) (k9 (fR "Asker" "hear_kept" vY (J 0) (gs (U (J 1) ai)))) (bR cj)) Rt
def Rq:bf:=
  bE (eT (fy (jr (a3 (af oEq (af aO (J 1) (aa (.int 0))) (aa (.str "grant")))) (a3 (af oEq (bL (cD "Asker" "standing") (J 0)) (aa (.str "asking")))))) (k9 (fR "Asker" "hear_grant" tE (J 0) (gs (U (J 1) ai)))) (bR cj)) Rr
def Rp:bf:=
  bE (bR (cP (fw (a3 (fp "Asker" "is_for_now" zB (J 0) (U (J 1) ai)))) (bw (dh ai)) cj)) Rq
def Ro:bf:=
  bE (eT (fy (a3 (af oEq (af aO (J 1) (aa (.int 0))) (aa (.str "late"))))) (bE (eS "Asker" "greatest_round" (J 0) (c1 (b_ Cg (U (bL (cD "Asker" "greatest_round") (J 0)) (U (af aO (af aO (af aO (J 1) (aa (.int 5))) (aa (.int 0))) (aa (.int 0))) ai)))))
  (bR (bw (dh ai)))) (bR cj)) Rp
def GL:bf:=
  bE (bR (cP (a3 (af d8 (af aO (J 1) (aa (.int 2))) (bL (cD "Asker" "me") (J 0)))) (bw (dh ai)) cj)) Ro
def mM:fb:=fnX 2 2 GL
def GS:aX:=
  (bw (bL (cD "Asker" "last_outcome") (J 0)))
def LK:bC:=fnOf 1 1 GS
def GR:aX:=
  (bw (bL (cD "Asker" "wishes") (J 0)))
def zC:bC:=fnOf 1 1 GR
def GX:aX:=
  (bw (bL (cD "Asker" "standing") (J 0)))
def nJ:bC:=fnOf 1 1 GX
def GW:aX:=
  (bw (bL (cD "Asker" "last_stamp") (J 0)))
def tF:bC:=fnOf 1 1 GW
def GU:aX:=
  (bw (bG (U (bL (cD "Asker" "epoch") (J 0)) (U (bL (cD "Asker" "hall") (J 0)) (U (bL (cD "Asker" "opening") (J 0)) ai)))))
def LL:bC:=fnOf 1 1 GU
def GQ:aX:=
  (bw (bL (cD "Asker" "over_known") (J 0)))
def LI:bC:=fnOf 1 1 GQ
def Hm:aX:=
  (bw (aa (.int 0)))
def Hl:aX:=
  b4 (cP (a3 (af oLt (J 1) (b_ fh (U (J 0) ai)))) (bw (af aO (J 0) (J 1))) cj) Hm
def oX:bC:=fnOf 2 2 Hl
def DH(self:bC):aX:=
  (cP (fw (a3 (bt self (U (J 2) (U (J 3) ai))))) (bw (aa (.az false))) cj)
def SP(self:bC):aX:=
  (bw (j1 (b_ hJ (U (J 0) (U (aa (.ty "str")) ai))) (af oEq (J 0) (J 1))))
def SO(self:bC):aX:=
  b4 (cP (a3 (b_ hJ (U (J 1) (U (aa (.ty "int")) ai)))) (bw (j1 (b_ hJ (U (J 0) (U (aa (.ty "int")) ai))) (j1 (yd (b_ hJ (U (J 0) (U (aa (.ty "bool")) ai)))) (af oEq (J 0) (J 1))))) cj) (SP self)
def SN(self:bC):aX:=
  b4 (cP (a3 (b_ hJ (U (J 1) (U (aa (.ty "bool")) ai)))) (bw (j1 (b_ hJ (U (J 0) (U (aa (.ty "bool")) ai))) (af oEq (J 0) (J 1)))) cj) (SO self)
def SM(self:bC):aX:=
  b4 (cP (a3 (af kf (J 1) (aa (.aI)))) (bw (af kf (J 0) (aa (.aI)))) cj) (SN self)
def HJ(self:bC):aX:=
  b4 (cP (a3 (b_ vc (U (J 1) (U (bG (U (aa (.ty "tuple")) (U (aa (.ty "list")) ai))) ai)))) (b4 (cP (hh (fw (a3 (b_ vc (U (J 0) (U (bG (U (aa (.ty "tuple")) (U (aa (.ty "list")) ai))) ai))))) (a3 (af d8 (b_ hJ (U (J 0) (U (aa (.ty "tuple")) ai))) (b_ hJ (U (J 1) (U (aa (.ty "tuple")) ai)))))) (bw (aa (.az false))) cj)
  (b4 (cP (a3 (af d8 (b_ fh (U (J 0) ai)) (b_ fh (U (J 1) ai)))) (bw (aa (.az false))) cj)
  (b4 (sS [2,3] (U (J 0) (U (J 1) ai)) (DH self))
  (bw (aa (.az true)))))) cj) (SM self)
def gb:Nat->bC
 |0=>λ_=>bad
 |n+1=>fnOf 2 4 (HJ (gb n))
def HL(self:bC):aX:=
  (bw (bG (U (af aO (J 0) (aa (.int 0))) (U (b_ mi (U (e3 1 [1] (iE (af aO (J 0) (aa (.int 1)))) gr (bt self (U (J 0) (U (J 1) ai)))) ai)) ai))))
def x4(self:bC):aX:=
  b4 (cP (fw (a3 (b_ hJ (U (J 0) (U (aa (.ty "tuple")) ai))))) (bw (af oMod (af hx (J 0) (J 1)) (aa (.int 6)))) cj) (HL self)
def nL:Nat->bC
 |0=>λ_=>bad
 |n+1=>fnOf 2 2 (x4 (nL n))
def Hu:aX:=
  (bw (bG (U (bt (nL 6) (U (J 5) (U (af oMod (af gq (J 0) (aa (.int 10))) (aa (.int 6))) ai))) (U (bt (nL 6) (U (J 6) (U (af oMod (af gq (J 0) (aa (.int 10))) (aa (.int 6))) ai))) ai))))
def x2:aX:=
  b4 (ob [5,6] (af aO (J 4) (af oMod (J 0) (aa (.int 10))))) Hu
def Sm:aX:=
  b4 (b1 4 (af ih (J 4) (dh (U (bG (U (bG (U (aa (.int 2)) (U (bG (U (aa (.int 0)) (U (bG (U (aa (.int 1)) (U (bG (U (aa (.int 1)) (U (aa (.int 2)) ai))) ai))) ai))) ai))) (U (bG (U (aa (.int 1)) (U (bG (U (aa (.int 0)) (U (bG (U (aa (.int 2)) (U (bG (U (aa (.int 1)) (U (aa (.int 2)) ai))) ai))) ai))) ai))) ai))) ai)))) x2
def Sl:aX:=
  b4 (b1 4 (af ih (J 4) (dh (U (bG (U (bG (U (aa (.int 2)) (U (bG (U (aa (.int 0)) (U (aa (.int 0)) (U (aa (.int 1)) (U (aa (.int 2)) ai))))) ai))) (U (bG (U (aa (.int 3)) (U (bG (U (aa (.int 0)) (U (aa (.int 0)) (U (aa (.int 1)) (U (aa (.int 2)) ai))))) ai))) ai))) (U (bG (U (bG (U (aa (.int 2)) (U (bG (U (aa (.int 0)) (U (aa (.int 1)) ai))) ai))) (U (bG (U (aa (.int 1)) (U (bG (U (aa (.int 0)) (U (aa (.int 1)) ai))) ai))) ai))) ai))))) Sm
def Sk:aX:=
  b4 (b1 4 (af ih (J 4) (dh (U (bG (U (J 2) (U (J 3) ai))) (U (bG (U (J 3) (U (J 2) ai))) (U (bG (U (bG (U (aa (.int 3)) (U (bG (U (aa (.int 0)) (U (aa (.int 1)) (U (aa (.int 2)) (U (aa (.int 3)) (U (aa (.int 4)) ai)))))) ai))) (U (bG (U (aa (.int 3)) (U (bG (U (aa (.int 4)) (U (aa (.int 3)) (U (aa (.int 2)) (U (aa (.int 1)) (U (aa (.int 0)) ai)))))) ai))) ai))) ai)))))) Sl
def Sj:aX:=
  b4 (b1 4 (dh (U (bG (U (J 1) (U (J 1) ai))) (U (bG (U (aa (.int 0)) (U (aa (.int 0)) ai))) (U (bG (U (bG (U (aa (.int 1)) (U (bG (U (aa (.int 0)) (U (aa (.int 1)) (U (aa (.int 2)) ai)))) ai))) (U (bG (U (aa (.int 3)) (U (bG (U (aa (.int 0)) (U (aa (.int 1)) (U (aa (.int 2)) ai)))) ai))) ai))) (U (bG (U (bG (U (aa (.int 3)) (U (bG (U (aa (.int 0)) (U (aa (.int 1)) (U (aa (.int 2)) ai)))) ai))) (U (bG (U (aa (.int 1)) (U (bG (U (aa (.int 0)) (U (aa (.int 1)) (U (aa (.int 2)) ai)))) ai))) ai))) ai)))))) Sk
def Si:aX:=
  b4 (b1 3 (bG (U (aa (.int 2)) (U (bG (U (bG (U (aa (.int 1)) (U (bG (U (aa (.int 0)) (U (aa (.int 1)) ai))) ai))) (U (bG (U (aa (.int 1)) (U (bG (U (aa (.int 2)) (U (aa (.int 3)) ai))) ai))) ai))) ai)))) Sj
def Sh:aX:=
  b4 (b1 2 (bG (U (aa (.int 1)) (U (bG (U (bG (U (aa (.int 2)) (U (bG (U (aa (.int 0)) (U (aa (.int 1)) ai))) ai))) (U (bG (U (aa (.int 2)) (U (bG (U (aa (.int 2)) (U (aa (.int 3)) ai))) ai))) ai))) ai)))) Si
def Bt:aX:=
  b4 (b1 1 (bG (U (aa (.int 2)) (U (bG (U (aa (.int 0)) (U (aa (.int 1)) (U (aa (.int 2)) ai)))) ai)))) Sh
def v9:bC:=fnOf 1 7 Bt
def DG(self:bC):aX:=
  (b1 1 (af ih (J 1) (bt self (U (J 2) ai))))
def HH(self:bC):aX:=
  (bw (J 1))
def HG(self:bC):aX:=
  b4 (oa 2 (iE (af aO (J 0) (aa (.int 1)))) (DG self)) (HH self)
def HF(self:bC):aX:=
  b4 (b1 1 (dh ai)) (HG self)
def x3(self:bC):aX:=
  b4 (cP (fw (a3 (b_ hJ (U (J 0) (U (aa (.ty "tuple")) ai))))) (bw (dh (U (J 0) ai))) cj) (HF self)
def oZ:Nat->bC
 |0=>λ_=>bad
 |n+1=>fnOf 1 3 (x3 (oZ n))
def Hz:aX:=
  (bw (e3 1 [1] (rz (U (aa (.int 6)) ai)) (a3 (af (ke false) (J 0) (J 1))) (J 0)))
def Hy:aX:=
  b4 (b1 1 (af ih (bt (oZ 6) (U (af aO (J 0) (aa (.int 0))) ai)) (bt (oZ 6) (U (af aO (J 0) (aa (.int 1))) ai)))) Hz
def tH:bC:=fnOf 1 2 Hy
def Sa(self:bC):aX:=
  (bw (af o8 (b_ fh (U (e3 1 [1] (iE (af aO (J 0) (aa (.int 1)))) (a3 (bt self (U (J 0) (U (J 1) ai)))) (J 0)) ai)) (af aO (J 0) (aa (.int 0)))))
def Hs(self:bC):aX:=
  b4 (cP (fw (a3 (b_ hJ (U (J 0) (U (aa (.ty "tuple")) ai))))) (bw (af (ke false) (J 0) (J 1))) cj) (Sa self)
def nK:Nat->bC
 |0=>λ_=>bad
 |n+1=>fnOf 2 2 (Hs (nK n))
def zq:aX:=
  (cP (a3 (af oEq (J 4) (J 2))) (b1 3 (af tT (J 3) (af aO (aa (.str "abcdefghijklmnopqrstuvwxyz")) (af oMod (af gq (J 0) (aa (.int 64))) (aa (.int 26)))))) (b1 3 (af tT (J 3) (aa (.str "m")))))
def HE:aX:=
  (bw (J 3))
def HD:aX:=
  b4 (oa 4 (rz (U (J 1) ai)) zq) HE
def HC:aX:=
  b4 (b1 3 (aa (.str ""))) HD
def HB:aX:=
  b4 (b1 2 (af oMod (af gq (J 0) (aa (.int 8))) (J 1))) HC
def HA:aX:=
  b4 (b1 1 (af hx (aa (.int 1)) (af oMod (J 0) (aa (.int 8))))) HB
def tI:bC:=fnOf 1 5 HA
def Ho:aX:=
  (bw (bG (U (af aO (dh (U (aa (.str "put")) (U (aa (.str "add")) (U (aa (.str "add")) ai)))) (af oMod (J 0) (aa (.int 3)))) (U (bt tI (U (af hx (J 1) (af wx (aa (.int 64)) (af oMod (af gq (J 0) (aa (.int 6))) (aa (.int 3))))) ai)) (U (J 2) ai)))))
def Hn:aX:=
  b4 (cP (a3 (af oEq (af oMod (J 0) (aa (.int 5))) (aa (.int 0)))) (b1 2 (af wz (aa (.int 0)) (J 2))) cj) Ho
def RZ:aX:=
  b4 (b1 2 (af oMod (af gq (J 0) (aa (.int 6))) (af kZ (aa (.int 10)) (aa (.int 40))))) Hn
def qk:bC:=fnOf 2 3 RZ
def R5:aX:=
  (bw (bG (U (J 4) (U (J 5) (U (J 6) (U (J 7) ai))))))
def R4:aX:=
  b4 (b1 5 (b_ mi (U (b_ (nt fI) (U (af ih (e3 1 [1] (iE (J 5)) (a3 (af d8 (af aO (J 0) (aa (.int 0))) (J 1))) (J 0)) (dh (U (bG (U (J 1) (U (J 2) (U (J 9) ai)))) ai))) ai)) ai))) R5
def R3:aX:=
  b4 (cP (a3 (af oEq (af aO (J 3) (aa (.int 0))) (aa (.str "move")))) (b1 7 (af aO (J 3) (aa (.int 1)))) (cP (a3 (af oEq (af aO (J 3) (aa (.int 0))) (aa (.str "end")))) (b1 7 (aa (.str "over"))) (b4 (b1 10 (b_ s7 (U (sR [3] (iE (J 4)) (a3 (af oEq (J 0) (af aO (J 2) (aa (.int 1))))) (J 1)) ai)))
  (b4 (b1 11 (af aO (J 3) (aa (.int 2))))
  (b4 (b1 9 (J 10))
  (b4 (cP (a3 (af oEq (af aO (J 3) (aa (.int 0))) (aa (.str "add")))) (b4 (b1 11 (af hx (J 10) (af aO (J 3) (aa (.int 2)))))
  (b1 9 (J 11))) cj)
  (b4 (j3 12 (e3 1 [3] (iE (J 4)) (a3 (af d8 (af aO (J 0) (aa (.int 0))) (af aO (J 1) (aa (.int 1))))) (J 0)))
  (b4 (cP (a3 (af d8 (J 11) (aa (.int 0)))) (l' 12 iL (U (bG (U (af aO (J 3) (aa (.int 1))) (U (J 11) ai))) ai)) cj)
  (b1 4 (b_ mi (U (b_ (nt ie) (U (J 12) ai)) ai))))))))))) R4
def R2:aX:=
  b4 (b1 9 (aa (.int 1))) R3
def R1:aX:=
  b4 (cP (hh (a3 (af kf (J 3) (aa (.aI)))) (hh (a3 (af lM (J 7) (aa (.aI)))) (a3 (af kY (b_ fh (U (J 8) ai)) (aa (.int 0)))))) (bw (J 0)) cj) R2
def R0:aX:=
  b4 (b1 8 (e3 1 [1,2] (iE (J 5)) (jr (a3 (af oEq (af aO (J 0) (aa (.int 0))) (J 1))) (a3 (af o8 (af aO (J 0) (aa (.int 1))) (J 2)))) (J 0))) R1
def Hp:aX:=
  b4 (ob [4,5,6,7] (J 0)) R0
def v8:bC:=fnOf 4 13 Hp
def SF:aX:=
  (bw (yg (J 0) (U (J 1) (U (J 2) ai)) (bG (U (bG (U (aa (.int 0)) (U (aa (.int 0)) ai))) (U (bG (U (aa (.int 0)) (U (aa (.int 0)) ai))) (U (aa (.aI)) ai))))))
def tJ:bC:=fnOf 3 3 SF
def Sq:bf:=
  (bR (bw (bG (U (aa (.str "late")) (U (J 4) (U (J 3) (U (J 5) (U (J 6) (U (bG (U (J 8) ai)) ai)))))))))
def Sp:bf:=
  bE (eT (fy (jr (a3 (af oEq (J 2) (aa (.str "tell")))) (a3 (af (o7 iX) (J 6) (J 8))))) (bE (xo (J 0) (U (J 4) (U (J 5) ai)) (c1 (bG (U (J 6) (U (J 6) (U (af aO (J 7) (aa (.int 3))) ai))))))
  (bR (bw (bG (U (aa (.str "kept")) (U (J 4) (U (J 3) (U (J 5) (U (J 6) (U (bG ai) ai)))))))))) (bR cj)) Sq
def So:bf:=
  bE (eT (fy (jr (a3 (af oEq (J 2) (aa (.str "ask")))) (a3 (af (o7 gT) (J 6) (J 8))))) (bE (xo (J 0) (U (J 4) (U (J 5) ai)) (c1 (bG (U (J 6) (U (J 9) (U (J 10) ai))))))
  (bR (bw (bG (U (aa (.str "grant")) (U (J 4) (U (J 3) (U (J 5) (U (J 6) (U (bG (U (J 9) (U (J 10) ai))) ai)))))))))) (bR cj)) Sp
def Sn:bf:=
  bE (bR (ob [8,9,10] (bt tJ (U (J 0) (U (J 4) (U (J 5) ai)))))) So
def Hv:bf:=
  bE (bR (ob [2,3,4,5,6,7] (J 1))) Sn
def oY:fb:=fnX 2 11 Hv
def RS:aX:=
  (bw (e3 1 [0,1,2] (j7 (bt tH (U (af aO (J 1) (aa (.int 1))) ai))) gr (bG (U (aa (.str "ask")) (U (J 1) (U (J 0) (U (af aO (J 2) (aa (.int 0))) (U (J 3) (U (bG ai) ai)))))))))
def zI:bC:=fnOf 3 3 RS
def DF:aX:=
  (cP (a3 (af (o7 gT) (J 5) (J 2))) (b4 (b1 2 (J 5))
  (b1 3 (J 6))) cj)
def RV:aX:=
  (bw (bG (U (J 2) (U (J 3) ai))))
def RU:aX:=
  b4 (yb [4,5,6] (Dd (J 0)) DF) RV
def RT:aX:=
  b4 (b1 3 (J 1)) RU
def Hk:aX:=
  b4 (b1 2 (bG (U (aa (.int 0)) (U (aa (.int 0)) ai)))) RT
def D1:bC:=fnOf 2 7 Hk
def SR:aX:=
  (bw (e3 1 [0,1,2,8] (j7 (bt tH (U (af aO (J 1) (aa (.int 1))) ai))) gr (bG (U (aa (.str "tell")) (U (J 1) (U (J 0) (U (af aO (J 2) (aa (.int 0))) (U (J 3) (U (J 4) ai)))))))))
def SQ:aX:=
  b4 (b1 8 (bG (U (J 6) (U (J 3) (U (J 4) (U (bt v8 (U (J 7) (U (J 0) (U (J 3) (U (J 4) ai))))) ai)))))) SR
def HK:aX:=
  b4 (ob [6,7] (bt D1 (U (J 5) (U (af aO (J 1) (aa (.int 2))) ai)))) SQ
def D4:bC:=fnOf 6 9 HK
def Le:bf:=
  (eT (fy (a3 (af oEq (af oMod (af gq (J 8) (af aO (dh (U (aa (.int 1)) (U (aa (.int 2)) (U (aa (.int 4)) (U (aa (.int 8)) (U (aa (.int 16)) (U (aa (.int 32)) ai))))))) (af aO (J 11) (aa (.int 2))))) (aa (.int 2))) (aa (.int 1))))) (bE (ks 12 (lY oY (gs (U (J 0) (U (J 11) ai)))))
  (bR (l' 10 iL (U (bG (U (af aO (J 11) (aa (.int 2))) (U (af aO (af aO (J 12) (aa (.int 5))) (aa (.int 0))) (U (af aO (af aO (J 12) (aa (.int 5))) (aa (.int 1))) ai)))) ai)))) (bR cj))
def Lf:bf:=
  (eT (fy (a3 (af oEq (af oMod (af gq (J 9) (af aO (dh (U (aa (.int 1)) (U (aa (.int 2)) (U (aa (.int 4)) (U (aa (.int 8)) (U (aa (.int 16)) (U (aa (.int 32)) ai))))))) (af aO (J 13) (aa (.int 2))))) (aa (.int 2))) (aa (.int 1))))) (lZ (lY oY (gs (U (J 0) (U (J 13) ai))))) (bR cj))
def Ht:bf:=
  (eT (fy (a3 (bt (nK 6) (U (af aO (af aO (J 1) (aa (.int 1))) (aa (.int 0))) (U (e3 1 [] (j7 (J 10)) gr (af aO (J 0) (aa (.int 0)))) ai))))) (sj 13 (ry (bt D4 (U (J 2) (U (J 1) (U (bG (U (J 7) (U (J 2) ai))) (U (J 3) (U (J 4) (U (J 10) ai)))))))) Lf) (bR cj))
def Sg:bf:=
  bE (sj 11 (ry (bt zI (U (J 2) (U (J 1) (U (bG (U (J 7) (U (J 2) ai))) ai))))) Le) Ht
def Sf:bf:=
  bE (bR (j3 10 (dh ai))) Sg
def Se:bf:=
  bE (bR (b1 9 (af aO (dh (U (aa (.int 63)) (U (af oMod (af gq (J 5) (aa (.int 384))) (aa (.int 64))) ai))) (af oMod (af gq (J 5) (aa (.int 3))) (aa (.int 2)))))) Sf
def Sd:bf:=
  bE (bR (b1 8 (af aO (dh (U (aa (.int 63)) (U (aa (.int 63)) (U (af oMod (af gq (J 5) (aa (.int 6))) (aa (.int 64))) ai)))) (af oMod (J 5) (aa (.int 3)))))) Se
def Sb:bf:=
  bE (bR (b1 7 (af hx (aa (.int 1)) (b_ vf (U (e3 1 [0,1] (j7 (J 6)) gr (af aO (af aO (bt tJ (U (J 1) (U (J 0) (U (af aO (J 2) (aa (.int 0))) ai)))) (aa (.int 0))) (aa (.int 0)))) ai))))) Sd
def Bs:bf:=
  bE (bR (b1 6 (bt tH (U (af aO (J 1) (aa (.int 1))) ai)))) Sb
def zK:fb:=fnX 6 14 Bs
def SE:aX:=
  (bw (dh (U (fp "Asker" "stand" nJ (J 0) ai) (U (fp "Asker" "outcome" LK (J 0) ai) (U (fp "Asker" "number" zC (J 0) ai) (U (fp "Asker" "stamp" tF (J 0) ai) (U (fp "Asker" "place" LL (J 0) ai) (U (fp "Asker" "knows_over" LI (J 0) ai) ai))))))))
def lK:bC:=fnOf 1 1 SE
def RY:aX:=
  (bw (j1 (af oEq (af aO (J 2) (aa (.int 0))) (aa (.str "kept"))) (af oEq (fp "Asker" "stand" nJ (J 0) ai) (aa (.str "telling")))))
def RX:aX:=
  b4 (cP (a3 (af oEq (af aO (J 2) (aa (.int 0))) (aa (.str "grant")))) (bw (af oEq (fp "Asker" "stand" nJ (J 0) ai) (aa (.str "asking")))) cj) RY
def RW:aX:=
  b4 (cP (hh (a3 (af d8 (af aO (J 2) (aa (.int 4))) (fp "Asker" "stamp" tF (J 0) ai))) (a3 (af (ke false) (af aO (J 2) (aa (.int 1))) (gN (af dH (J 1) (aa (.str "heard"))))))) (bw (aa (.az false))) cj) RX
def D2:bC:=fnOf 3 3 RW
def Sv:bf:=
  (bR (bw (uX (af oEq (b_ fh (U (J 5) ai)) (aa (.int 0))) (af oEq (af aO (J 2) (aa (.int 0))) (aa (.str "grant"))))))
def Su:bf:=
  bE (eT (fy (a3 (af kY (b_ fh (U (J 5) ai)) (aa (.int 0))))) (bE (jw (J 1) (aa (.str "mine")) (c1 (af ih (af dH (J 1) (aa (.str "mine"))) (J 5))))
  (jw (J 1) (aa (.str "fresh")) (c1 (J 5)))) (bR cj)) Sv
def Ss:bf:=
  bE (jw (J 1) (aa (.str "heard")) (kq (c1 (dh ai)))) Su
def Hx:bf:=
  bE (bR (cP (fw (a3 (J 7))) (bw (j1 (bt (gb 14) (U (J 5) (U (dh ai) ai))) (bt (gb 14) (U (bt lK (U (J 0) ai)) (U (J 3) ai))))) cj)) Ss
def SD:bf:=
  bE (bR (cP (hh (a3 (af d8 (J 7) (af d8 (fp "Asker" "stand" nJ (J 0) ai) (af aO (J 3) (aa (.int 0)))))) (fw (a3 (bt (gb 14) (U (dh (U (fp "Asker" "stamp" tF (J 0) ai) (U (fp "Asker" "number" zC (J 0) ai) ai))) (U (dh (U (af aO (J 3) (aa (.int 3))) (U (af aO (J 3) (aa (.int 2))) ai))) ai)))))) (bw (aa (.az false))) cj)) Hx
def SA:bf:=
  bE (bR (b1 7 (bt (nK 6) (U (J 6) (U (gN (af dH (J 1) (aa (.str "heard")))) ai))))) SD
def Sz:bf:=
  bE (bR (b1 6 (af aO (af aO (af dH (J 1) (aa (.str "place"))) (aa (.int 1))) (b_ vb (U (af oEq (af aO (J 2) (aa (.int 0))) (aa (.str "kept"))) ai))))) SA
def Sy:bf:=
  bE (qK iL (af dH (J 1) (aa (.str "heard"))) (U (af aO (J 2) (aa (.int 1))) ai)) Sz
def sN:bf:=
  bE (bR (cP (fw (a3 (J 4))) (bw (j1 (bt (gb 14) (U (J 5) (U (dh ai) ai))) (bt (gb 14) (U (bt lK (U (J 0) ai)) (U (J 3) ai))))) cj)) Sy
def Sx:bf:=
  bE (ks 5 (fR "Asker" "hear" mM (J 0) (gs (U (J 2) ai)))) sN
def Sw:bf:=
  bE (eT (fy (a3 (af oEq (af aO (J 2) (aa (.int 0))) (aa (.str "late"))))) (jw (J 1) (aa (.str "top")) (c1 (b_ Cg (U (af dH (J 1) (aa (.str "top"))) (U (af aO (af aO (af aO (J 2) (aa (.int 5))) (aa (.int 0))) (aa (.int 0))) ai))))) (bR cj)) Sx
def Sr:bf:=
  bE (bR (b1 4 (bt D2 (U (J 0) (U (J 1) (U (J 2) ai)))))) Sw
def Hw:bf:=
  bE (bR (b1 3 (bt lK (U (J 0) ai)))) Sr
def rN:fb:=fnX 3 8 Hw
def SK:bf:=
  (bR (bw (bt (gb 14) (U (J 6) (U (bt zI (U (af dH (J 1) (aa (.str "me"))) (U (af dH (J 1) (aa (.str "place"))) (U (bG (U (af dH (J 1) (aa (.str "top"))) (U (af dH (J 1) (aa (.str "me"))) ai))) ai)))) ai)))))
def SJ:bf:=
  bE (jw (J 1) (aa (.str "mine")) (c1 (af ih (af dH (J 1) (aa (.str "mine"))) (J 6)))) SK
def SI:bf:=
  bE (jw (J 1) (aa (.str "fresh")) (c1 (J 6))) SJ
def SH:bf:=
  bE (jw (J 1) (aa (.str "heard")) (kq (c1 (dh ai)))) SI
def SG:bf:=
  bE (jw (J 1) (aa (.str "top")) (c1 (af hx (af dH (J 1) (aa (.str "top"))) (aa (.int 1))))) SH
def HI:bf:=
  bE (eT (fy (a3 (af oEq (fp "Asker" "stand" nJ (J 0) ai) (aa (.str "calm"))))) (bE (bR (b1 4 (bt lK (U (J 0) ai))))
  (bE (eT (uu (qL (qM (ur (gb 14) (uq (fR "Asker" "bell" qh (J 0) kr) (U (dh ai) ai))))) (fy (fw (a3 (bt (gb 14) (U (bt lK (U (J 0) ai)) (U (J 4) ai))))))) (bR (bw (aa (.az false)))) (bR cj))
  (bE (bR (b1 5 (aa (.aI))))
  (bE (bR (cP (a3 (af kY (af oMod (J 2) (aa (.int 4))) (aa (.int 0)))) (b1 5 (bt qk (U (af oMod (af gq (J 2) (aa (.int 4))) (af kZ (aa (.int 10)) (aa (.int 50)))) (U (J 3) ai)))) cj))
  (ks 6 (fR "Asker" "begin" tB (J 0) (gs (U (J 5) ai)))))))) (ks 6 (fR "Asker" "bell" qh (J 0) kr))) SG
def D3:fb:=fnX 4 7 HI
def Ld:bf:=
  (bE (ks 9 (lY oY (gs (U (af dH (J 1) (aa (.str "books"))) (U (J 8) ai)))))
  (bE (qK iL (af dH (J 1) (aa (.str "answers"))) (U (J 9) ai))
  (eT (qL (qM (lY rN (gs (U (J 0) (U (J 1) (U (J 9) ai))))))) (bR (bw (aa (.az false)))) (bR cj))))
def R':bf:=
  (bR (bw (aa (.az true))))
def R_:bf:=
  bE (sj 8 (ry (J 7)) Ld) R'
def R9:bf:=
  bE (bR (cP (a3 (af oEq (af oMod (J 2) (aa (.int 6))) (aa (.int 3)))) (b1 7 (dh (U (af aO (af dH (J 1) (aa (.str "mine"))) (af wz (bL wy (aa (.int 1))) (af oMod (J 4) (b_ Jd (U (aa (.int 8)) (U (b_ fh (U (af dH (J 1) (aa (.str "mine"))) ai)) ai)))))) ai))) cj)) R_
def R8:bf:=
  bE (bR (b1 7 (b_ ve (U (af dH (J 1) (aa (.str "fresh"))) ai)))) R9
def R7:bf:=
  bE (eT (fy (jr (a3 (af oEq (af oMod (J 2) (aa (.int 6))) (aa (.int 2)))) (a3 (af kY (b_ fh (U (gN (af dH (J 1) (aa (.str "answers")))) ai)) (aa (.int 0)))))) (k9 (lY rN (gs (U (J 0) (U (J 1) (U (af aO (gN (af dH (J 1) (aa (.str "answers")))) (af oMod (J 4) (b_ fh (U (gN (af dH (J 1) (aa (.str "answers")))) ai)))) ai)))))) (bR cj)) R8
def R6:bf:=
  bE (eT (fy (hh (a3 (af oEq (af oMod (J 2) (aa (.int 6))) (aa (.int 1)))) (a3 (af oEq (b_ fh (U (af dH (J 1) (aa (.str "mine"))) ai)) (aa (.int 0)))))) (k9 (lY D3 (gs (U (J 0) (U (J 1) (U (J 4) (U (J 3) ai))))))) (bR cj)) R7
def Hr:bf:=
  bE (eT (fy (a3 (af oEq (af oMod (J 2) (aa (.int 6))) (aa (.int 0))))) (bE (jw (J 1) (aa (.str "turn")) (c1 (af hx (af dH (J 1) (aa (.str "turn"))) (aa (.int 1)))))
  (bE (bR (b1 5 (af oMod (af hx (af hx (af dH (J 1) (aa (.str "me"))) (aa (.int 1))) (af oMod (J 4) (aa (.int 5)))) (aa (.int 6)))))
  (bE (bR (b1 6 (bt qk (U (af oMod (af gq (J 4) (aa (.int 5))) (af kZ (aa (.int 10)) (aa (.int 45)))) (U (J 3) ai)))))
  (bE (lZ (lY zK (gs (U (af dH (J 1) (aa (.str "books"))) (U (af dH (J 1) (aa (.str "place"))) (U (J 5) (U (af dH (J 1) (aa (.str "turn"))) (U (J 6) (U (af gq (J 4) (aa (.int 5))) ai)))))))))
  (bR (bw (aa (.az true)))))))) (bR cj)) R6
def Hq:bf:=
  bE (bR (b1 4 (af gq (J 2) (aa (.int 6))))) Hr
def zJ:fb:=fnX 4 10 Hq
def Lc:bf:=
  (eT (qL (qM (lY zJ (gs (U (J 6) (U (J 5) (U (af oMod (J 7) (af kZ (aa (.int 10)) (aa (.int 60)))) (U (J 2) ai)))))))) (bR (bw (aa (.az false)))) (bR cj))
def RR:bf:=
  (bR (bw (aa (.az true))))
def RQ:bf:=
  bE (sj 7 (ry (yf (J 0) (sT (aa (.int 3))) (sT (aa (.int 43))))) Lc) RR
def RP:bf:=
  bE (ks 6 (xp "Asker" zz (gs (U (J 1) (U (J 3) ai))))) RQ
def RO:bf:=
  bE (jw (J 5) (aa (.str "answers")) (kq (c1 (dh ai)))) RP
def RN:bf:=
  bE (ks 5 (AH [.inr "me",.inr "place",.inr "books",.inr "turn",.inr "top",.inr "heard",.inr "mine",.inr "fresh"] (i3 (c1 (J 1)) (i3 (c1 (J 4)) (i3 (xn (.eI [])) (i3 (c1 (aa (.int 0))) (i3 (c1 (aa (.int 0))) (i3 (kq (c1 (dh ai))) (i3 (c1 (dh ai)) (i3 (c1 (dh ai)) kr)))))))))) RO
def RM:bf:=
  bE (bR (b1 4 (bG (U (aa (.int 0)) (U (J 3) (U (bG (U (bG ai) (U (bG ai) (U (bG (U (aa (.int 0)) (U (aa (.aI)) ai))) (U (aa (.aI)) ai))))) ai)))))) RN
def RL:bf:=
  bE (bR (b1 3 (bt v9 (U (af oMod (bt oX (U (J 0) (U (aa (.int 0)) ai))) (aa (.int 600))) ai)))) RM
def RK:bf:=
  bE (bR (b1 2 (af oMod (bt oX (U (J 0) (U (aa (.int 2)) ai))) (aa (.int 512))))) RL
def Hj:bf:=
  bE (bR (b1 1 (af oMod (bt oX (U (J 0) (U (aa (.int 1)) ai))) (aa (.int 6))))) RK
def D0:fb:=fnX 1 8 Hj
structure P4(P:akh)(w:World)(K:aT)(mg:bo)(base:Heap)(j:Nat):Prop where
 Xe:1<=j->b6 P w K mg base "is_whole" o0 1 (bY K mg tG)
 W7:1<=j->b6 P w K mg base "has_keeper" zzz2 1 (bY K mg qi)
 XB:1<=j->b6 P w K mg base "mask_of" ["keepers"] 1 (bY K mg tK)
 Xf:2<=j->b6 P w K mg base "keepers_of" ["mask"] 2 (bY K mg zH)
 WX:1<=j->b6 P w K mg base "all_alike" v6 1 (bY K mg zD)
 W6:2<=j->b6 P w K mg base "granters" v6 2 (bY K mg oW)
 XF:∀n,n+2<=j->b6 P w K mg base "namings" v4 (n+2) (bY K mg (ql n))
 XE:15<=j->b6 P w K mg base "named" v4 15 (bY K mg v_)
 W4:∀n,n+2<=j->b6 P w K mg base "fills" zzz3 (n+2) (bY K mg (j_ n))
 XC:16<=j->b6 P w K mg base "members_mask" P3 16 (bY K mg zL)
 XD:17<=j->b6 P w K mg base "members_of" P3 17 (bY K mg mO)
 Xa:1<=j->b6 P w K mg base "is_name" o0 1 (bY K mg zF)
 Xb:2<=j->b6 P w K mg base "is_number" o0 2 (bY K mg zG)
 W5:1<=j->b6 P w K mg base "form_of" ["word"] 1 (bY K mg DZ)
 Xc:3<=j->b6 P w K mg base "is_part" zzz4 3 (bY K mg rM)
 W9:4<=j->b6 P w K mg base "is_deed" o0 4 (bY K mg v7)
 WZ:1<=j->b6 P w K mg base "blank" [] 1 (bY K mg LN)
 XH:1<=j->b6 P w K mg base "shut_of" u8 1 (bY K mg rO)
 Xd:2<=j->b6 P w K mg base "is_shut" u8 2 (bY K mg qj)
 W0:1<=j->b6 P w K mg base "cell_of" ["slate","name"] 1 (bY K mg vZ)
 W2:1<=j->b6 P w K mg base "doing_of" ["slate","asker"] 1 (bY K mg rL)
 JV:5<=j->b6 P w K mg base "do_put" T0 5 (bY K mg v5)
 JR:5<=j->b6 P w K mg base "do_add" T0 5 (bY K mg v3)
 XG:6<=j->b6 P w K mg base "outcome_of" T0 6 (bY K mg nM)
 W3:7<=j->b6 P w K mg base "done_on" zzy6 7 (bY K mg mN)
 WY:1<=j->b6 P w K mg base "ask_letter" zzz5 1 (bY K mg LM)
 XI:1<=j->b6 P w K mg base "tell_letter" zzz6 1 (bY K mg LY)
 WB:2<=j->dK P w K mg base "Asker" "__init__" zzz7 2 (dP K mg zz)
 WC:18<=j->dK P w K mg base "Asker" "ask_members" x0 18 (dP K mg zA)
 WD:19<=j->AY P w K mg base "Asker" "begin" zzz8 19 (dP K mg tB)
 WE:19<=j->dK P w K mg base "Asker" "bell" x0 19 (dP K mg qh)
 WN:18<=j->dK P w K mg base "Asker" "is_for_now" W1 18 (bY K mg zB)
 WU:15<=j->dK P w K mg base "Asker" "sees_at_once" zzz9 15 (bY K mg DY)
 WH:1<=j->dK P w K mg base "Asker" "end_wish" zzy0 1 (dP K mg tD)
 WI:18<=j->dK P w K mg base "Asker" "go_on" ["self","pair"] 18 (dP K mg rK)
 WL:19<=j->dK P w K mg base "Asker" "hear_grant" W1 19 (dP K mg tE)
 WG:3<=j->dK P w K mg base "Asker" "end_where_told" x0 3 (dP K mg tC)
 WM:15<=j->dK P w K mg base "Asker" "hear_kept" W1 15 (dP K mg vY)
 WK:20<=j->dK P w K mg base "Asker" "hear" W1 20 (dP K mg mM)
 WS:1<=j->dK P w K mg base "Asker" "outcome" x0 1 (bY K mg LK)
 WR:1<=j->dK P w K mg base "Asker" "number" x0 1 (bY K mg zC)
 WW:1<=j->dK P w K mg base "Asker" "stand" x0 1 (bY K mg nJ)
 WV:1<=j->dK P w K mg base "Asker" "stamp" x0 1 (bY K mg tF)
 WT:1<=j->dK P w K mg base "Asker" "place" x0 1 (bY K mg LL)
 WO:1<=j->dK P w K mg base "Asker" "knows_over" x0 1 (bY K mg LI)
 Xi:1<=j->b6 P w K mg base "_law_cell_at" zzy1 1 (bY K mg oX)
 Xy:∀n,n+1<=j->b6 P w K mg base "_law_same" ["found","due"] (n+1) (bY K mg (gb n))
 XA:∀n,n+1<=j->b6 P w K mg base "_law_turned" zzy2 (n+1) (bY K mg (nL n))
 Xp:8<=j->b6 P w K mg base "_law_hall" ["cell"] 8 (bY K mg v9)
 Xv:∀n,n+1<=j->b6 P w K mg base "_law_named" v4 (n+1) (bY K mg (oZ n))
 Xt:8<=j->b6 P w K mg base "_law_members" P3 8 (bY K mg tH)
 Xn:∀n,n+1<=j->b6 P w K mg base "_law_filled" zzy3 (n+1) (bY K mg (nK n))
 Xu:1<=j->b6 P w K mg base "_law_name" ["cell"] 1 (bY K mg tI)
 Xk:2<=j->b6 P w K mg base "_law_deed" ["cell","seed"] 2 (bY K mg qk)
 Xl:1<=j->b6 P w K mg base "_law_done" zzy7 1 (bY K mg v8)
 Xw:1<=j->b6 P w K mg base "_law_page" zzy4 1 (bY K mg tJ)
 Xq:2<=j->b6 P w K mg base "_law_heard" ["books","letter"] 2 (dP K mg oY)
 Xg:9<=j->b6 P w K mg base "_law_asks" zzy5 9 (bY K mg zI)
 Xh:1<=j->b6 P w K mg base "_law_best" zzz1 1 (bY K mg D1)
 Xz:9<=j->b6 P w K mg base "_law_tells" zzy8 9 (bY K mg D4)
 Xo:10<=j->b6 P w K mg base "_law_ghost" zzy9 10 (dP K mg zK)
 Xs:2<=j->b6 P w K mg base "_law_look" ["one"] 2 (bY K mg lK)
 Xj:2<=j->b6 P w K mg base "_law_counts" f8 2 (bY K mg D2)
 Xr:21<=j->b6 P w K mg base "_law_hears" f8 21 (dP K mg rN)
 Xx:20<=j->b6 P w K mg base "_law_rung" zzz0 20 (dP K mg D3)
 Xm:22<=j->b6 P w K mg base "_law_event" zzz0 22 (dP K mg zJ)
 Eu {f:Addr}{fd:ale}(F:lh K "law" "law" w2 f fd):23<=j->e9 P w K mg base eE 23 f fd ["script"] (dP K mg D0)
theorem aj(T:Txt P w K mg base):∀j,P4 P w K mg base j
 |0=>by constructor<;>intros<;>omega
 |j+1=>by
  have a6:=aj T j;refine⟨λaR=>dt T.UM aec rfl ?_,
   λaR=>dt T.UC ad6 rfl ?_,
   λaR=>dt T.U6 aeA rfl ?_,
   λaR=>dt T.UN aed rfl ?_,
   λaR=>dt T.Uj adV rfl ?_,
   λaR=>dt T.UB ad5 rfl ?_,
   tO (λ_=>T.IV.none (by rintro vs H Q E ⟨O,ds,r,S',_,_,_,h,_⟩;cases h)) λn aR=>(p4 (k:=n+2) T.IV aeE rfl rfl λf br A outer s H E aA=>fm.un ?_:b6 P w K mg base _ _ _ (bY K mg (fnOf 1 3 (x5 (ql n))))).mono (by omega),
   λaR=>dt T.U9 aeD rfl ?_,
   tO (λ_=>T.IP.none (by rintro vs H Q E ⟨O,ds,r,S',_,_,_,h,_⟩;cases h)) λn aR=>(p4 (k:=n+2) T.IP ad3 rfl rfl λf br A outer s H E aA=>fm.un ?_:b6 P w K mg base _ _ _ (bY K mg (fnOf 2 2 (x1 (j_ n))))).mono (by omega),
   λaR=>dt T.U7 aeB rfl ?_,
   λaR=>dt T.U8 aeC rfl ?_,
   λaR=>dt T.UI ad8 rfl ?_,
   λaR=>dt T.UJ ad9 rfl ?_,
   λaR=>dt T.Uy ad4 rfl ?_,
   λaR=>dt T.UK aea rfl ?_,
   λaR=>dt T.UE ad7 rfl ?_,
   λaR=>dt T.Ul adX rfl ?_,
   λaR=>dt T.Va aeG rfl ?_,
   λaR=>dt T.UL aeb rfl ?_,
   λaR=>dt T.Um adY rfl ?_,
   λaR=>dt T.Uw ad1 rfl ?_,
   λaR=>dt T.Ur ad0 rfl ?_,
   λaR=>dt T.Un adZ rfl ?_,
   λaR=>(p4 (k:=5) T.U_ aeF rfl rfl λf br A outer s H E aA=>fm.un (@qJ _ _ _ _ _ _ ((FO (i:=3) (o4 (by kernel_rfl)) rfl (.inl rfl) (Pz T.Av rfl (ip ic h6 (eL 2) hi)))) (@si _ _ _ _ ((uo (agj (k:=5) (pp:=["slate","asker","deed"]) (lookup_all (by simp only[alq];exact⟨(a6.JV (by omega)).mono (by omega),(a6.JR (by omega)).mono (by omega),(JY T).mono (by omega),(JZ T).mono (by omega),(JW T).mono (by omega),(JT T).mono (by omega),(JX T).mono (by omega),(JU T).mono (by omega),(JS T).mono (by omega),λ_ h=>nomatch h⟩)) rfl (.inl rfl) (aA.mono (by omega)) (fZ (eL 0) (fZ (eL 1) (fZ (eL 2) k7)))))))):b6 P w K mg base _ _ _ (bY K mg (fnOf 3 4 x6))),
   λaR=>dt T.Ux ad2 rfl ?_,
   λaR=>dt T.Uk adW rfl ?_,
   λaR=>dt T.Vb aeH rfl ?_,
   λaR=>(ow (k:=1) T.T1 adD rfl rfl λf br A outer s H E aA=>?_:dK P w K mg base _ _ _ _ (dP K mg (fnX 3 3 Bj))),
   λaR=>(ow (k:=17) T.T2 adE rfl rfl λf br A outer s H E aA=>?_:dK P w K mg base _ _ _ _ (dP K mg (fnX 1 1 GH))),
   λaR=>(WA (k:=18) T.BQ adF rfl rfl λf br A outer s H E aA=>?_:AY P w K mg base _ _ _ _ (dP K mg (fnX 2 2 Bk))),
   λaR=>(ow (k:=18) T.T3 adG rfl rfl λf br A outer s H E aA=>?_:dK P w K mg base _ _ _ _ (dP K mg (fnX 1 1 GI))),
   λaR=>(p3 (k:=17) T.T' adN rfl rfl λf br A outer s H E aA=>fm.un ?_:dK P w K mg base _ _ _ _ (bY K mg (fnOf 2 2 GP))),
   λaR=>(p3 (k:=14) T.Ug adS rfl rfl λf br A outer s H E aA=>fm.un ?_:dK P w K mg base _ _ _ _ (bY K mg (fnOf 2 2 GV))),
   λaR=>(ow (k:=0) T.T5 adI rfl rfl λf br A outer s H E aA=>?_:dK P w K mg base _ _ _ _ (dP K mg (fnX 2 2 Bl))),
   λaR=>(ow (k:=17) T.T6 adJ rfl rfl λf br A outer s H E aA=>?_:dK P w K mg base _ _ _ _ (dP K mg (fnX 2 3 GK))),
   λaR=>(ow (k:=18) T.T9 adL rfl rfl λf br A outer s H E aA=>?_:dK P w K mg base _ _ _ _ (dP K mg (fnX 2 2 GN))),
   λaR=>(ow (k:=2) T.T4 adH rfl rfl λf br A outer s H E aA=>?_:dK P w K mg base _ _ _ _ (dP K mg (fnX 1 3 GJ))),
   λaR=>(ow (k:=14) T.T_ adM rfl rfl λf br A outer s H E aA=>?_:dK P w K mg base _ _ _ _ (dP K mg (fnX 2 3 Bm))),
   λaR=>(ow (k:=19) T.T8 adK rfl rfl λf br A outer s H E aA=>?_:dK P w K mg base _ _ _ _ (dP K mg (fnX 2 2 GL))),
   λaR=>(p3 (k:=0) T.Ud adQ rfl rfl λf br A outer s H E aA=>fm.un ?_:dK P w K mg base _ _ _ _ (bY K mg (fnOf 1 1 GS))),
   λaR=>(p3 (k:=0) T.Uc adP rfl rfl λf br A outer s H E aA=>fm.un ?_:dK P w K mg base _ _ _ _ (bY K mg (fnOf 1 1 GR))),
   λaR=>(p3 (k:=0) T.Ui adU rfl rfl λf br A outer s H E aA=>fm.un ?_:dK P w K mg base _ _ _ _ (bY K mg (fnOf 1 1 GX))),
   λaR=>(p3 (k:=0) T.Uh adT rfl rfl λf br A outer s H E aA=>fm.un ?_:dK P w K mg base _ _ _ _ (bY K mg (fnOf 1 1 GW))),
   λaR=>(p3 (k:=0) T.Ue adR rfl rfl λf br A outer s H E aA=>fm.un ?_:dK P w K mg base _ _ _ _ (bY K mg (fnOf 1 1 GU))),
   λaR=>(p3 (k:=0) T.Ua adO rfl rfl λf br A outer s H E aA=>fm.un ?_:dK P w K mg base _ _ _ _ (bY K mg (fnOf 1 1 GQ))),
   λaR=>dt T.UQ aeh rfl ?_,
   tO (λ_=>T.IT.none (by rintro vs H Q E ⟨O,ds,r,S',_,_,_,h,_⟩;cases h)) λn aR=>(p4 (k:=n+1) T.IT aex rfl rfl λf br A outer s H E aA=>fm.un ?_:b6 P w K mg base _ _ _ (bY K mg (fnOf 2 4 (HJ (gb n))))).mono (by omega),
   tO (λ_=>T.IU.none (by rintro vs H Q E ⟨O,ds,r,S',_,_,_,h,_⟩;cases h)) λn aR=>(p4 (k:=n+1) T.IU aez rfl rfl λf br A outer s H E aA=>fm.un ?_:b6 P w K mg base _ _ _ (bY K mg (fnOf 2 2 (x4 (nL n))))).mono (by omega),
   λaR=>dt T.UX aeo rfl ?_,
   tO (λ_=>T.IS.none (by rintro vs H Q E ⟨O,ds,r,S',_,_,_,h,_⟩;cases h)) λn aR=>(p4 (k:=n+1) T.IS aeu rfl rfl λf br A outer s H E aA=>fm.un ?_:b6 P w K mg base _ _ _ (bY K mg (fnOf 1 3 (x3 (oZ n))))).mono (by omega),
   λaR=>dt T.U1 aes rfl ?_,
   tO (λ_=>T.IQ.none (by rintro vs H Q E ⟨O,ds,r,S',_,_,_,h,_⟩;cases h)) λn aR=>(p4 (k:=n+1) T.IQ aem rfl rfl λf br A outer s H E aA=>fm.un ?_:b6 P w K mg base _ _ _ (bY K mg (fnOf 2 2 (Hs (nK n))))).mono (by omega),
   λaR=>dt T.U2 aet rfl ?_,
   λaR=>dt T.US aej rfl ?_,
   λaR=>dt T.UT aek rfl ?_,
   λaR=>dt T.U3 aev rfl ?_,
   λaR=>(vv (k:=1) T.UY aep rfl rfl λf br A outer s H E aA=>?_:b6 P w K mg base _ _ _ (dP K mg (fnX 2 11 Hv))),
   λaR=>dt T.UO aef rfl ?_,
   λaR=>dt T.UP aeg rfl ?_,
   λaR=>dt T.U5 aey rfl ?_,
   λaR=>(vv (k:=9) T.UW aen rfl rfl λf br A outer s H E aA=>?_:b6 P w K mg base _ _ _ (dP K mg (fnX 6 14 Bs))),
   λaR=>dt T.U0 aer rfl ?_,
   λaR=>dt T.UR aei rfl ?_,
   λaR=>(vv (k:=20) T.UZ aeq rfl rfl λf br A outer s H E aA=>?_:b6 P w K mg base _ _ _ (dP K mg (fnX 3 8 Hw))),
   λaR=>(vv (k:=19) T.U4 aew rfl rfl λf br A outer s H E aA=>?_:b6 P w K mg base _ _ _ (dP K mg (fnX 4 7 HI))),
   λaR=>(vv (k:=21) T.UU ael rfl rfl λf br A outer s H E aA=>?_:b6 P w K mg base _ _ _ (dP K mg (fnX 4 10 Hq))),
   λF aR=>(Cp (k:=22) F aee rfl rfl λbr A outer s H E aA=>?_:e9 P w K mg base eE _ _ _ _ (dP K mg (fnX 1 8 Hj)))⟩
  all_goals try intro f br A outer s H E aA
  all_goals repeat' first
   |((with_reducible show a_ _ _ _);first
    |(with_reducible show a_ _ _ (J _));exact eL _
    |(with_reducible show a_ _ (.BoolOp _ [_] _) _);refine agw ?_
    |(with_reducible show a_ _ _ (af aO _ _));refine ip ic h6 ?_ ?_ (λ_ _=>rfl)
    |(with_reducible show a_ _ _ (bG _));refine qI ?_
    |(with_reducible show a_ _ _ (bt _ ai));refine' agi ?_ ?_ rfl
    |(with_reducible show a_ _ _ (bt _ _));refine' agh ?_ ?_ rfl ?_
    |(with_reducible show a_ _ _ (aa (.int _)));first|exact hi|exact sg (MA rfl T.Cw) λ_ _=>rfl
    |(with_reducible show a_ _ _ (aa .aI));exact agu
    |(with_reducible show a_ _ _ (aa (.az _)));exact agg
    |(with_reducible show a_ _ _ (aa (.ty "tuple")));exact sg (wJ (v:=.ty "tuple") rfl T.B.tuple' x' rfl) λ_ _=>rfl
    |(with_reducible show a_ _ _ (aa (.ty "bool")));exact sg (wJ (v:=.ty "bool") rfl T.B.S6 S9 rfl) λ_ _=>rfl
    |(with_reducible show a_ _ _ (aa (.ty "str")));exact sg (wJ (v:=.ty "str") rfl T.B.ae2 Tb rfl) λ_ _=>rfl
    |(with_reducible show a_ _ _ (aa (.ty "int")));exact sg (wJ (v:=.ty "int") rfl T.B.Kz Ii rfl) λ_ _=>rfl
    |(with_reducible show a_ _ _ (aa (.ty "list")));exact sg (wJ (v:=.ty "list") rfl T.B.Lx Il rfl) λ_ _=>rfl
    |(with_reducible show a_ _ _ (aa (.str _)));first|exact agA|exact sg (MA rfl T.Cx) λ_ _=>rfl
    |(with_reducible show a_ _ _ (af hx _ _));refine lW abj QG ?_ ?_
    |(with_reducible show a_ _ _ (af oMod _ _));refine lW abr QO ?_ ?_
    |(with_reducible show a_ _ _ (af gq _ _));refine lW abn QL ?_ ?_
    |(with_reducible show a_ _ _ (af ih _ _));refine lW abm QJ ?_ ?_
    |(with_reducible show a_ _ _ (af tT _ _));refine lW abk QK ?_ ?_
    |(with_reducible show a_ _ _ (af kZ _ _));refine lW abv QQ ?_ ?_
    |(with_reducible show a_ _ _ (af wz _ _));refine lW aby QT ?_ ?_
    |(with_reducible show a_ _ _ (af wx _ _));refine lW abt QP ?_ ?_
    |(with_reducible show a_ _ _ (af Eh _ _));refine lW abl QH ?_ ?_
    |(with_reducible show a_ _ _ (af tS _ _));refine lW abu QI ?_ ?_
    |(with_reducible show a_ _ _ (af Ei _ _));refine lW abw QR ?_ ?_
    |(with_reducible show a_ _ _ (af Ej _ _));refine lW abx QS ?_ ?_
    |(with_reducible show a_ _ _ (af oEq _ _));refine qH (Ex aA.units) Bh ?_ ?_ (i0 _)
    |(with_reducible show a_ _ _ (af kf _ _));refine qH Mt GD ?_ ?_ (i0 _)
    |(with_reducible show a_ _ _ (af lM _ _));refine qH Mv GG ?_ ?_ (i0 _)
    |(with_reducible show a_ _ _ (af o8 _ _));refine qH Mq GA ?_ ?_ (i0 _)
    |(with_reducible show a_ _ _ (af oLt _ _));refine qH Mu GF ?_ ?_ (i0 _)
    |(with_reducible show a_ _ _ (af (ke false) _ _));refine qH Mr (GB false) ?_ ?_ rfl
    |(with_reducible show a_ _ _ (af (rW false) _ _));refine qH Ms GC ?_ ?_ rfl
    |(with_reducible show a_ _ _ (b_ fh _));refine lV To Zj rfl T.B.len Ik ?_
    |(with_reducible show a_ _ _ (b_ hJ _));refine lV (Tj T.kt) Zh rfl T.B.isinstance Ij ?_
    |(with_reducible show a_ _ _ (b_ vc _));refine lV (Tn T.kt) Zi rfl T.B.isinstance Ij ?_
    |(with_reducible show a_ _ _ (b_ rb _));refine lV (Th rfl) Zf rfl T.B.all S8 ?_
    |(with_reducible show a_ _ _ (b_ (sZ _) _));refine lV (Tr rfl) KR rfl T.B.max Im ?_
    |(with_reducible show a_ _ _ (b_ vf _));refine lV (Ts rfl) Zm rfl T.B.max Im ?_
    |(with_reducible show a_ _ _ (b_ (nt fI) _));refine lV (Iq rfl ZJ) KX rfl T.B.sorted BA ?_
    |(with_reducible show a_ _ _ (b_ (nt ie) _));refine lV (Iq rfl ZK) KX rfl T.B.sorted BA ?_
    |(with_reducible show a_ _ _ (b_ s7 _));refine lV (Tu rfl) Zn rfl T.B.sum Tc ?_
    |(with_reducible show a_ _ _ (b_ va _));refine lV Tg Ze rfl T.B.abs S7 ?_
    |(with_reducible show a_ _ _ (b_ vd _));refine lV Tp Zk rfl T.B.len Ik ?_
    |(with_reducible show a_ _ _ (b_ vb _));refine xk Ti Zg rfl T.B.Kz Ii ?_
    |(with_reducible show a_ _ _ (b_ mi _));refine xk BH Dp rfl T.B.tuple' x' ?_
    |(with_reducible show a_ _ _ (dh _));refine agp ?_
    |(with_reducible show a_ _ _ (j1 _ _));refine agd ?_ ?_
    |(with_reducible show a_ _ _ (yd _));refine agv ?_
    |(with_reducible show a_ _ _ (bL oBits _));refine agf ?_
    |(with_reducible show a_ _ _ (e3 _ _ _ _ _));refine agk (u1 (xs:=[_]) (by kernel_rfl)) (by decide) ?_ rfl (λ_ _ _ _=>⟨alU rfl,rfl⟩) (λ_ _ _ _=>?_) (λ_ _ _ _=>?_) (he:=rfl) (hN:=rfl)
    |(with_reducible show a_ _ _ (sR _ _ _ _));refine agl (u1 (xs:=[_,_]) (by kernel_rfl)) ?_ rfl rfl (λ_ _ _ _=>⟨alU rfl,rfl⟩) (λ_ _ _ _=>⟨alU rfl,rfl⟩) (λ_ _ _ _=>?_) (λ_ _ _ _=>?_) (he:=rfl) (hN:=rfl)
    |(with_reducible show a_ _ _ (uV _ _ _ _));refine agm (u1 (xs:=[_,_]) (by kernel_rfl)) rfl T.B.zip ?_ rfl rfl (λ_ _ _ _=>⟨alU rfl,rfl⟩) (λ_ _ _ _=>⟨alU rfl,rfl⟩) (λ_ _ _ _=>?_) (λ_ _ _ _=>?_) (he:=rfl) (hN:=rfl)
    |(with_reducible show a_ _ _ (yf _ _ _));refine agy ?_ ?_ ?_
    |(with_reducible show a_ _ _ (BD _ _ _));refine agz ?_ ?_ ?_
    |(with_reducible show a_ _ _ (BE _ _));refine Pz T.Av rfl ?_
    |(with_reducible show a_ _ _ (BF _ _));refine agB T.Dq rfl ?_
    |(with_reducible show a_ _ _ (yg _ _ _));refine agC aA.units ?_ ?_ ?_
    |(with_reducible show a_ _ _ (af d8 _ _));refine qH (wG aA.units) uP ?_ ?_ (i0 _)
    |(with_reducible show a_ _ _ (uX _ _));refine agx ?_ ?_
    |(with_reducible show a_ _ _ (bL wy _));refine agt ?_
    |(with_reducible show a_ _ _ (b_ (sZ _) _));refine lV (Tt rfl) KR rfl T.B.min Ta ?_
    |(with_reducible show a_ _ _ (b_ ve _));refine xk Tq Zl rfl T.B.Lx Il ?_
    |(with_reducible show a_ _ _ (bL (cD _ _) _));refine age T.oc (by simp[zV]) ?_
    |(with_reducible show a_ _ _ (af dH _ _));refine agn aA.units ?_ ?_
    |(with_reducible show a_ _ _ (gN _));refine ago ?_
    |(with_reducible show a_ _ _ (fp _ _ _ _ ai));refine' ags ?_ ?_ ?_
    |(with_reducible show a_ _ _ (fp _ _ _ _ _));refine' agr ?_ ?_ ?_ ?_)
   |((with_reducible show gK _ _ _);first
    |(with_reducible show gK _ _ (ai));exact k7
    |(with_reducible show gK _ _ (U _ _));refine fZ ?_ ?_)
   |((with_reducible show fa _ _ _);first
    |(show fa _ _ (bw _));refine uo ?_
    |(show fa _ _ (b1 _ (e3 _ _ _ _ _)));refine agL (u1 (xs:=[_]) (by kernel_rfl)) (o4 (by kernel_rfl)) rfl rfl (by decide) ?_ rfl (λ_ _ _ _=>⟨alU rfl,rfl⟩) (λ_ _ _ _=>?_) (λ_ _ _ _=>?_) (he:=rfl) (hN:=rfl)
    |(show fa _ _ (b1 _ _));refine FO (o4 (by kernel_rfl)) rfl (by first|exact alU rfl|exact akU rfl|exact akU (.inl rfl)|exact akU (akU rfl)) ?_
    |(show fa _ _ (cP _ _ _));refine FN ?_ ?_ ?_
    |(show fa _ _ (j3 _ (e3 _ _ _ _ _)));refine FL (u1 (xs:=[_]) (by kernel_rfl)) (o4 (by kernel_rfl)) rfl rfl (by decide) ?_ rfl (λ_ _ _ _=>⟨alU rfl,rfl⟩) (λ_ _ _ _=>?_) (λ_ _ _ _=>?_) (he:=rfl) (hN:=rfl)
    |(show fa _ _ (j3 _ _));refine agQ (o4 (by kernel_rfl)) rfl (by first|exact alU rfl|exact akU rfl|exact akU (.inl rfl)|exact akU (akU rfl)) ?_
    |(show fa _ _ (oa _ _ _));refine agM anF rfl ?_ (o4 (by kernel_rfl)) rfl (by first|exact alU rfl|exact akU rfl|exact akU (.inl rfl)|exact akU (akU rfl)) ?_
    |(show fa _ _ (yb _ _ _));refine agN anF rfl ?_ ?_ ?_
    |(show fa _ _ (sS _ _ _));refine agO anF rfl rfl T.B.zip ?_ ?_ ?_
    |(show fa _ _ (ob _ _));refine agS rfl ?_ ?_
    |(show fa _ _ (l' _ iL _));refine AG aml amm wd zy ?_ rfl (by first|exact alU rfl|exact akU rfl|exact akU (.inl rfl)|exact akU (akU rfl))
    |(show fa _ _ (l' _ xg _));refine AG PySem.F.slot_list_extend PySem.F.type_list_extend aaA aah ?_ rfl (by first|exact alU rfl|exact akU rfl|exact akU (.inl rfl)|exact akU (akU rfl))
    |(show fa _ _ (ye _));exact agR _
    |(show fa _ _ (uW));exact agP)
   |((with_reducible show fB _ _ _);first
    |(with_reducible show fB _ _ (a3 (af oEq _ _)));refine jv (Ex aA.units) Bh ?_ ?_ (i0 _)
    |(with_reducible show fB _ _ (a3 (af d8 _ _)));refine jv (wG aA.units) uP ?_ ?_ (i0 _)
    |(with_reducible show fB _ _ (a3 (af kf _ _)));refine jv Mt GD ?_ ?_ (i0 _)
    |(with_reducible show fB _ _ (a3 (af lM _ _)));refine jv Mv GG ?_ ?_ (i0 _)
    |(with_reducible show fB _ _ (a3 (af o8 _ _)));refine jv Mq GA ?_ ?_ (i0 _)
    |(with_reducible show fB _ _ (a3 (af kY _ _)));refine jv abp QN ?_ ?_ (i0 _)
    |(with_reducible show fB _ _ (a3 (af oLt _ _)));refine jv Mu GF ?_ ?_ (i0 _)
    |(with_reducible show fB _ _ (a3 (af oLe _ _)));refine jv Ey Bi ?_ ?_ (i0 _)
    |(with_reducible show fB _ _ (a3 (af (o7 gT) _ _)));refine jv (abq aA.units) Gz ?_ ?_ (i0 _)
    |(with_reducible show fB _ _ (a3 (af (o7 iX) _ _)));refine jv (abo aA.units) Gz ?_ ?_ (i0 _)
    |(with_reducible show fB _ _ (a3 (af (ke false) _ _)));refine jv Mr (GB false) ?_ ?_ rfl
    |(with_reducible show fB _ _ (a3 (af (rW false) _ _)));refine jv Ms GC ?_ ?_ rfl
    |(with_reducible show fB _ _ (a3 (j0 _ _ _ _ _)));refine agT Ey Bi Ey Bi ?_ ?_ ?_
    |(with_reducible show fB _ _ (a3 _));refine agV ?_
    |(with_reducible show fB _ _ (fw _));refine agU ?_
    |refine lp.b5 ?_)
   |((with_reducible show lp _ _ _);first
    |(with_reducible show lp _ _ (hh _ _));refine agY ?_ ?_
    |(with_reducible show lp _ _ (jr _ _));refine agW ?_ ?_
    |first|refine agZ ?_|refine agX ?_)
   |((with_reducible show fo _ _ _);first
    |(with_reducible show fo _ _ (c1 _));refine ahk ?_
    |(with_reducible show fo _ _ (ur _ _));refine' ahl ?_ ?_ rfl ?_
    |(with_reducible show fo _ _ (kq _));refine ahj ?_
    |(with_reducible show fo _ _ (fR _ _ _ _ kr));refine' ahi ?_ ?_ ?_
    |(with_reducible show fo _ _ (fR _ _ _ _ _));refine' ahh ?_ ?_ ?_ ?_
    |(with_reducible show fo _ _ (lY _ _));refine' ahd ?_ ?_ rfl ?_
    |(with_reducible show fo _ _ (xp _ _ _));refine' ahg T.oc ?_ ?_ rfl ?_
    |(with_reducible show fo _ _ (AH _ _));refine ahe ?_
    |(with_reducible show fo _ _ (xn _));exact ahf)
   |((with_reducible show kH _ _ _);first
    |(with_reducible show kH _ _ (fy _));refine ahB ?_
    |(with_reducible show kH _ _ (qM _));refine ahC ?_
    |(with_reducible show kH _ _ (qL _));refine ahA ?_
    |(with_reducible show kH _ _ (uu _ _));refine sL.t (ahD ?_ (ahE ?_)))
   |((with_reducible show n_ _ _ _);first
    |(with_reducible show n_ _ _ (gs _));refine aha ?_
    |(with_reducible show n_ _ _ (uq _ _));refine ag9 ?_ ?_)
   |((with_reducible show gL _ _ _);first
    |(show gL _ _ (bR _));refine ahv ?_
    |(show gL _ _ (ks _ _));refine ahx (o4 (by kernel_rfl)) rfl (by first|exact alU rfl|exact akU rfl|exact akU (.inl rfl)|exact akU (akU rfl)) ?_
    |(show gL _ _ (eT _ _ _));refine aht ?_ ?_ ?_
    |(show gL _ _ (k9 _));refine ahw ?_
    |(show gL _ _ (lZ _));refine ahq ?_
    |(show gL _ _ (eS _ _ _ _));refine aho T.oc (by simp[zV]) ?_ ?_
    |(show gL _ _ (jw _ _ _));refine ahp aA.units ?_ ?_ ?_
    |(show gL _ _ (xo _ _ _));refine ahr aA.units ?_ ?_ ?_
    |(show gL _ _ (qK iL _ _));refine ahu aml amm wd zy ?_ ?_
    |(show gL _ _ (sj _ _ _));refine ahs anF rfl ?_ (o4 (by kernel_rfl)) rfl (by first|exact alU rfl|exact akU rfl|exact akU (.inl rfl)|exact akU (akU rfl)) ?_)
   |((with_reducible show fm _ _ _);first|exact FP|refine si ?_|refine qJ ?_ ?_)
   |((with_reducible show jY _ _ _);first|((show jY _ _ (bE _ _));refine ahy ?_ ?_)|((with_reducible show jY _ [] _);refine PQ ?_)|refine ahz ?_|refine PQ ?_)
   |((with_reducible show pP _ _ _);first|exact agG|refine FJ ?_)
   |((with_reducible show cF _ _);exact aA.mono (by omega))
   |((with_reducible show b6 _ _ _ _ _ _ _ _ _);first|exact(a6.Xe (by omega))|exact(a6.W7 (by omega))|exact(a6.XB (by omega))|exact(a6.Xf (by omega))|exact W8 T|exact(a6.WX (by omega))|exact(a6.W6 (by omega))|exact a6.XF _ (by omega)|exact(a6.XE (by omega))|exact a6.W4 _ (by omega)|exact W' T|exact(a6.XC (by omega))|exact(a6.XD (by omega))|exact(a6.Xa (by omega))|exact(a6.Xb (by omega))|exact W_ T|exact(a6.W5 (by omega))|exact(a6.Xc (by omega))|exact(a6.W9 (by omega))|exact(a6.WZ (by omega))|exact(a6.XH (by omega))|exact(a6.Xd (by omega))|exact(a6.W0 (by omega))|exact XJ T|exact(a6.W2 (by omega))|exact XK T|exact(a6.JV (by omega))|exact(a6.JR (by omega))|exact JY T|exact JZ T|exact JW T|exact JT T|exact JX T|exact JU T|exact JS T|exact(a6.XG (by omega))|exact(a6.W3 (by omega))|exact(a6.WY (by omega))|exact(a6.XI (by omega))|exact(a6.Xi (by omega))|exact a6.Xy _ (by omega)|exact a6.XA _ (by omega)|exact(a6.Xp (by omega))|exact a6.Xv _ (by omega)|exact(a6.Xt (by omega))|exact a6.Xn _ (by omega)|exact(a6.Xu (by omega))|exact(a6.Xk (by omega))|exact(a6.Xl (by omega))|exact(a6.Xw (by omega))|exact(a6.Xq (by omega))|exact(a6.Xg (by omega))|exact(a6.Xh (by omega))|exact(a6.Xz (by omega))|exact(a6.Xo (by omega))|exact(a6.Xs (by omega))|exact(a6.Xj (by omega))|exact(a6.Xr (by omega))|exact(a6.Xx (by omega))|exact(a6.Xm (by omega)))
   |((with_reducible show dK _ _ _ _ _ _ _ _ _ _);first|exact(a6.WB (by omega))|exact(a6.WC (by omega))|exact(a6.WD (by omega)).all|exact(a6.WE (by omega))|exact(a6.WN (by omega))|exact(a6.WU (by omega))|exact(a6.WH (by omega))|exact(a6.WI (by omega))|exact(a6.WL (by omega))|exact(a6.WG (by omega))|exact WQ T|exact WJ T|exact(a6.WM (by omega))|exact(a6.WK (by omega))|exact(a6.WS (by omega))|exact(a6.WR (by omega))|exact(a6.WW (by omega))|exact(a6.WV (by omega))|exact(a6.WT (by omega))|exact(a6.WO (by omega)))
   |(first|exact EJ|refine wN (o4 (by kernel_rfl)) rfl (by first|exact alU rfl|exact akU rfl|exact akU (.inl rfl)|exact akU (akU rfl)) ?_|refine af7 ?_|refine FI ?_|refine af8 rfl T.B.range ?_|refine af9 ?_|refine agD ?_|refine agF ?_|refine agE rfl T.B.range ?_|refine ahm ?_|exact agJ|refine agK ?_|exact ahc|refine ahb ?_ ?_)
def Eu(T:Txt P w K mg base)(F:lh K "law" "law" w2 f fd):e9 P w K mg base eE 23 f fd ["script"] (dP K mg D0):=(aj T 23).Eu F (aj0 _)
end
end fA
set_option maxHeartbeats 1000000
namespace aZ
open PySem PySem.Spec aE
@[simp] theorem aiq{x y:R}:ih x y=match x.own,y.own with
 |some xs,some ys=>if xs.length+ys.length<=aj3 then pure (.fr (xs++ys))else bad|_,_=>bad:=rfl
@[simp] theorem ajJ{i j:Int}(ae:0<j)(ah:j<10 ^ 200):n1 i j:=jd ae ah
def Be{α:Type}{xs:List α}{i:Int}{v:α}(h:eo xs i=some v):v∈xs:=by
 obtain⟨j,_,e,_⟩:=xY h;exact akL e
def Bf{α:Type}{xs:List α}{i:Int}(h0:0<=i)(ae:i<xs.length):∃v,eo xs i=some v:=by
 have ar:i.toNat<xs.length:=by omega
 refine⟨xs[i.toNat],?_⟩;have:=pR (xs:=xs) i.toNat (v:=xs[i.toNat]) (by simp[ar])
 rwa[Int.toNat_of_nonneg h0]at this
end aZ
namespace kB
inductive aN where
 |kp (k:Nat)
 |ch (k:Nat) (ps:List aN)
mutual
def aN.names:aN->List Nat
 |.kp k=>[k]
 |.ch _ ps=>aN.d_ ps
def aN.d_:List aN->List Nat
 |[]=>[]
 |r::rs=>r.names++aN.d_ rs
end
mutual
def aN.deep:aN->Nat
 |.kp _=>0|.ch _ ps=>aN.md ps+1
def aN.md:List aN->Nat
 |[]=>0|r::rs=>max r.deep (aN.md rs)
end
mutual
def aN.wf:aN->Prop
 |.kp k=>k<6|.ch k ps=>1<=k/\k<=ps.length/\ps.length<=6/\aN.ju ps
def aN.ju:List aN->Prop
 |[]=>True|r::rs=>r.wf/\aN.ju rs
end
mutual
def aN.fills(p:Nat->Bool):aN->Bool
 |.kp k=>p k|.ch k ps=>decide (k<=aN.cnt p ps)
def aN.cnt(p:Nat->Bool):List aN->Nat
 |[]=>0|r::rs=>(if r.fills p then 1 else 0)+aN.cnt p rs
end
theorem xl:∀{ps:List aN},aN.ju ps↔∀r∈ps,r.wf
 |[]=>by simp[aN.ju]| r::rs=>by simp[aN.ju,xl]
theorem q7:∀{ps:List aN}{n:Nat},aN.md ps<n->∀r∈ps,r.deep<n
 |r::rs,n,h,x,ag=>by
  simp only[aN.md]at h;rcases aj5.mp ag with rfl|ag
  .omega
  .exact q7 (ps:=rs) (by omega) x ag
theorem yl(p:Nat->Bool):∀ps:List aN,(ps.filter (aN.fills p)).length=aN.cnt p ps
 |[]=>rfl|r::rs=>by
  rw[List.filter_cons];simp only[aN.cnt]
  cases h:r.fills p with
  |true=>simp[yl p rs];omega|false=>simp[yl p rs]
mutual
theorem Ck:∀r:aN,r.wf->r.fills (λ_=>false)=false
 |.kp _,_=>by simp[aN.fills]|.ch k ps,h=>by
  simp only[aN.wf]at h;simp only[aN.fills,cnt_none ps h.2.2.2];exact decide_eq_false (by omega)
theorem cnt_none:∀ps:List aN,aN.ju ps->aN.cnt (λ_=>false) ps=0
 |[],_=>rfl|r::rs,h=>by
  simp only[aN.ju]at h;simp only[aN.cnt,Ck r h.1,cnt_none rs h.2];rfl
end
mutual
theorem tN:∀r:aN,r.wf->∀k∈r.names,k<6
 |.kp k,h,x,ag=>by simp only[aN.names,akg]at ag;simp only[aN.wf]at h;omega| .ch k ps,h,x,ag=>by simp only[aN.wf]at h;exact L7 ps h.2.2.2 x (by simpa only[aN.names]using ag)
theorem L7:∀ps:List aN,aN.ju ps->∀k∈aN.d_ ps,k<6
 |[],_,x,ag=>by simp[aN.d_]at ag|r::rs,h,x,ag=>by
  simp only[aN.ju]at h;simp only[aN.d_,akx]at ag;rcases ag with ag|ag
  .exact tN r h.1 x ag
  .exact L7 rs h.2 x ag
end
theorem wh:∀ps gY:List aN,aN.d_ (ps++gY)=aN.d_ ps++aN.d_ gY
 |[],_=>rfl|r::rs,gY=>by
  show r.names++aN.d_ (rs++gY)=(r.names++aN.d_ rs)++aN.d_ gY;rw[wh rs gY,amE]
end kB
namespace aZ
open PySem PySem.Spec aE kB
mutual
def enc:aN->D
 |.kp k=>.int (k:Nat)|.ch k ps=>.t [.int (k:Nat),.t (encL ps)]
def encL:List aN->List D
 |[]=>[]
 |r::rs=>enc r::encL rs
end
theorem I6:∀ps:List aN,encL ps=ps.map enc
 |[]=>rfl| r::rs=>by rw[aj8,<-I6 rs];rfl
def pX(k:Nat)(ps:List aN):enc (.ch k ps)=.t [.int (k:Nat),.t (ps.map enc)]:=by rw[<-I6];rfl
def q_(k:Nat):enc (.kp k)=.int (k:Nat):=rfl
@[simp] theorem Fc(r:aN):dr (enc r)=.v (enc r):=by cases r<;>rfl
def TY{α:Type}(xs:List α)(k:Nat):cutD xs (some (k:Int)) none=xs.drop k:=by
 unfold cutD;rw[dZ.E_,dZ.ado]
 by_cases h:k<=xs.length
 .rw[Nat.min_eq_left h]
  exact ane (by rw[ak0];omega)
 .rw[Nat.min_eq_right (by omega),aoP (aj0 _),aoP (by omega),ao0]
end aZ
namespace h2
def fC(m k:Nat):Bool:=m / 2 ^ k % 2==1
def zh(m:Nat):List Nat:=(akG (if m==0 then 0 else m.log2+1)).filter (fC m)
def sM(b:Bool)(n:Nat):Nat:=if b then n else 0
def tL(ho b2 b3 gM hH jE:Bool):Nat:=sM ho 1+sM b2 2+sM b3 4+sM gM 8+sM hH 16+sM jE 32
def nN(p:Nat->Bool):Nat:=tL (p 0) (p 1) (p 2) (p 3) (p 4) (p 5)
def aay(p:Nat->Bool)(k:Nat)(aw:k<6):nN p ||| 2 ^ k=nN λj=>p j||j==k:=by
 have all:∀ho b2 b3 gM hH jE:Bool,∀k:Fin 6,tL ho b2 b3 gM hH jE ||| 2 ^ k.val=tL (ho||0==k.val) (b2||1==k.val) (b3||2==k.val) (gM||3==k.val) (hH||4==k.val) (jE||5==k.val):=by decide +kernel
 exact all (p 0) (p 1) (p 2) (p 3) (p 4) (p 5) ⟨k,aw⟩
def L5(p:Nat->Bool)(k:Nat)(aw:k<6):(nN p / 2 ^ k % 2==1)=p k:=by
 have all:∀ho b2 b3 gM hH jE:Bool,∀k:Fin 6,(tL ho b2 b3 gM hH jE / 2 ^ k.val % 2==1)=[ho,b2,b3,gM,hH,jE].getD k.val false:=by decide +kernel
 have e:=all (p 0) (p 1) (p 2) (p 3) (p 4) (p 5) ⟨k,aw⟩;rw[show nN p=tL (p 0) (p 1) (p 2) (p 3) (p 4) (p 5)from rfl,e];have:k=0\/k=1\/k=2\/k=3\/k=4\/k=5:=by omega
 rcases this with rfl|rfl|rfl|rfl|rfl|rfl<;>rfl
def aax(p:Nat->Bool):nN p<64:=by
 have all:∀ho b2 b3 gM hH jE:Bool,tL ho b2 b3 gM hH jE<64:=by decide +kernel
 exact all _ _ _ _ _ _
def bits(m:Nat):Nat:=if m==0 then 0 else m.log2+1
def maskOf(ns:List Nat):Nat:=ns.foldl (λm k=>m ||| 2 ^ k) 0
theorem L0:∀(ns:List Nat)(p:Nat->Bool),(∀n∈ns,n<6)->ns.foldl (λm k=>m ||| 2 ^ k) (nN p)=nN λj=>p j||ns.contains j
 |[],p,_=>by simp|n::r,p,h=>by
  rw[List.foldl_cons,aay p n (h n aj9),L0 r _ λx ag=>h x (aj4 _ ag)]
  congr 1
  funext j
  rw[List.contains_cons,Bool.or_assoc]
def zN(ns:List Nat)(h:∀n∈ns,n<6):maskOf ns=nN λj=>ns.contains j:=by
 have e:=L0 ns (λ_=>false) h;have z:nN (λ_=>false)=0:=rfl;rw[z]at e;show ns.foldl (λm k=>m ||| 2 ^ k) 0=_;rw[e];simp
end h2
namespace n7
open h2 kB
mutual
theorem Jf{p q:Nat->Bool}:∀r:aN,(∀k∈r.names,p k=q k)->r.fills p=r.fills q
 |.kp k,h=>by simp only[aN.fills];exact h k (by simp[aN.names])| .ch k ps,h=>by simp only[aN.fills];rw[IF ps λk aw=>h k (by simpa[aN.names]using aw)]
theorem IF{p q:Nat->Bool}:∀ps:List aN,(∀k∈aN.d_ ps,p k=q k)->aN.cnt p ps=aN.cnt q ps
 |[],_=>rfl|r::rs,h=>by
  simp only[aN.cnt];rw[Jf r λk aw=>h k (by simp[aN.d_,aw]),IF rs λk aw=>h k (by simp[aN.d_,aw])]
end
end n7
namespace aZ
open PySem PySem.Spec aE h2 kB n7
def bH(k:Nat):D:=.int (k:Int)
def lL(k:Nat):bH k=.int (k:Int):=rfl
def Qw(x:Int):amH x 1=x % 2:=W.kbt_mask x 1
def Ez(a b:Nat):ani (a:Int) (b:Int)=((a ||| b:Nat):Int):=by
 have ae:decide (0<=als (a:Int))=false:=decide_eq_false (by unfold als;omega);have ah:decide (0<=als (b:Int))=false:=decide_eq_false (by unfold als;omega);have av:(als (als (a:Int))).toNat=a:=by unfold als;omega
 have aC:(als (als (b:Int))).toNat=b:=by unfold als;omega
 unfold ani amH;rw[ae,ah];dsimp only;rw[av,aC];unfold als;omega
def YW(m:Nat):alh (m:Int)=h2.bits m:=by
 unfold alh h2.bits;rw[Int.natAbs_natCast]
 by_cases h:m=0
 .subst h;rfl
 .have h':(m:Int)≠0:=by omega
  rw[beq_eq_false_iff_ne.mpr h,beq_eq_false_iff_ne.mpr h']
def bits_le(m:Nat)(h:m<64):h2.bits m<=6:=by
 have all:∀m:_root_.Fin 64,h2.bits m.val<=6:=by decide +kernel
 exact all ⟨m,h⟩
def Zw(m:Nat):zh m=(akG (h2.bits m)).filter (fC m):=rfl
def wa(bu:List Nat)(k:Nat):h2.maskOf (bu++[k])=h2.maskOf bu ||| 2 ^ k:=by
 unfold h2.maskOf;rw[List.foldl_append];rfl
def take_snoc{α:Type}{l:List α}{i:Nat}{x:α}(h:l[i]? = some x):l.take (i+1)=l.take i++[x]:=by
 rw[aoe,h];rfl
def D6{α β:Type}{f:α->β}{l:List α}{i:Nat}{y:β}(h:(l.map f)[i]? = some y):∃x,l[i]? = some x/\y=f x:=by
 rw[aku]at h
 cases e:l[i]? with
 |none=>rw[e]at h;cases h
 |some x=>rw[e]at h;exact⟨x,rfl,(akv h).symm⟩
def S4(m k:Nat):(amH ((m:Int) / 2 ^ k) 1==1)=fC m k:=by
 rw[Qw];unfold fC;have av:((m:Int) / 2 ^ k) % 2=((m / 2 ^ k % 2:Nat):Int):=by
  rw[Int.natCast_emod,Int.natCast_ediv,Int.natCast_pow];rfl
 rw[av,alo,beq_iff_eq,beq_iff_eq];omega
def Ni(n:Nat):nU 0 n=(akG n).map bH:=by
 unfold nU;refine List.map_congr_left λi _=>?_
 show D.int (0+(i:Int))=.int (i:Int);rw[Int.zero_add]
def YQ(k:Nat)(bu:List Nat):inD (bH k) (bu.map bH)=bu.contains k:=by
 unfold inD;rw[List.any_map,List.contains_eq_any_beq]
 congr 1
 funext j
 show jl (.int (j:Int)) (.int (k:Int))=(k==j);rw[alo,beq_iff_eq];simp[jl];omega
theorem mb{α:Type}{t:aQ->M Bool}{el:bg}{Y:aQ}(f:α->D)(p:α->Bool)(g:α->D):∀xs:List α,(∀x∈xs,t (Y.set 0 (.v (f x)))=pure (p x))->(∀x∈xs,p x=true->(el (Y.set 0 (.v (f x))) >>= R.dat)=pure (g x))->
  fX t el Y (xs.map f)=pure ((xs.filter p).map g)
 |[],_,_=>rfl|x::xs,ae,ah=>by
  have a6:=mb f p g xs (λx ag=>ae x (aj4 _ ag)) λx ag=>ah x (aj4 _ ag)
  rw[aj8];unfold fX;rw[ae x aj9,pure_bind]
  cases e:p x with
  |false=>rw[if_neg aj6,a6,List.filter_cons_of_neg (by rw[e];exact aj6)]|true=>
   have h:=ah x aj9 e;rw[if_pos rfl,<-bind_assoc,h,pure_bind,a6,pure_bind,List.filter_cons_of_pos e];rfl
def q4{α:Type}{el:bg}{Y:aQ}(f:α->D)(g:α->D)(xs:List α)(h:∀x∈xs,(el (Y.set 0 (.v (f x))) >>= R.dat)=pure (g x)):fX gr el Y (xs.map f)=pure (xs.map g):=by
 have:=mb (t:=gr) (el:=el) (Y:=Y) f (λ_=>true) g xs (λ_ _=>rfl) λx ag _=>h x ag
 rw[this]
 congr 2
 exact List.filter_eq_self.mpr λ_ _=>rfl
theorem Cr{α:Type}{b:D->aX}(f:α->D)(p:α->Bool)(v:α->R)(I:aQ->Prop):∀(xs:List α)(Y:aQ),I Y->
  (∀x Y,x∈xs->I Y->(p x=true->b (f x) Y=pure (.cJ (v x)))/\(p x=false->∃Y',b (f x) Y=pure (.bj Y')/\I Y'))->
  (∀x,xs.find? p=some x->ha b (xs.map f) Y=pure (.cJ (v x)))/\(xs.find? p=none->∃Y',ha b (xs.map f) Y=pure (.bj Y')/\I Y')
 |[],Y,h0,_=>⟨λx h=>(nomatch h),λ_=>⟨Y,rfl,h0⟩⟩
 |x::xs,Y,h0,step=>by
  obtain⟨s1,s2⟩:=step x Y aj9 h0
  cases e:p x with
  |true=>
   rw[ak3 e];refine⟨λy h=>?_,λh=>(nomatch h)⟩;cases h;show(b (f x) Y >>= _)=_;rw[s1 e];rfl
  |false=>
   obtain⟨hX,av,ae⟩:=s2 e;have a6:=Cr f p v I xs hX ae λy Y ba=>step y Y (aj4 _ ba)
   rw[akS (by rw[e];exact aj6)];have u:ha b ((x::xs).map f) Y=ha b (xs.map f) hX:=by
    show(b (f x) Y >>= _)=_;rw[av];rfl
   rw[u];exact a6
end aZ
namespace aZ
open PySem PySem.Spec aE
mutual
def D.AE:D->Bool
 |.t xs=>decide (xs.length<=1000)&&pq xs|.l xs=>decide (xs.length<=1000)&&pq xs|.ref _=>true|.fn _=>true|.ty _=>true|.aI=>true|.az _=>true|.int _=>true|.str _=>true
def pq:List D->Bool
 |[]=>true|x::xs=>x.AE&&pq xs
end
theorem AF:∀{xs:List D},pq xs=true↔∀x∈xs,x.AE=true
 |[]=>by simp[pq]| x::xs=>by simp[pq,AF]
theorem yJ:∀{xs:List D}{n:Nat},iB xs n=true↔∀x∈xs,x.bS n=true
 |[],_=>by simp[iB]| x::xs,n=>by simp[iB,yJ]
def Ok(n:Nat)(d:D):Prop:=d.bS n=true/\d.AE=true
def rZ:Ok n .aI:=⟨rfl,rfl⟩
def abc:Ok n (.az b):=⟨rfl,rfl⟩
def ij{i:Int}:Ok n (.int i):=⟨rfl,rfl⟩
def tX(h:akf x=true):Ok n (.str x):=⟨h,rfl⟩
def o_{xs:List D}(ar:xs.length<=1000)(h:∀x∈xs,Ok n x):Ok (n+1) (.t xs):=
 ⟨yJ.mpr λx ag=>(h x ag).1,by show(decide (xs.length<=1000)&&pq xs)=true;rw[decide_eq_true ar,AF.mpr λx ag=>(h x ag).2];rfl⟩
def VZ:∀{d:D}{n m:Nat},n<=m->d.bS n=true->d.bS m=true:=by
 intro d
 induction d using D.rec (motive_2:=λds=>∀n m,n<=m->iB ds n=true->iB ds m=true)with
 |aI=>exact λ_ h=>h
 |az _=>exact λ_ h=>h
 |int _=>exact λ_ h=>h
 |str _=>exact λ_ h=>h
 |fn _=>exact λ_ h=>h
 |ty _=>exact λ_ h=>h
 |ref _=>exact λ_ h=>h
 |t xs a6=>
  intro n m hm h
  cases n with
  |zero=>cases h
  |succ n=>
   cases m with
   |zero=>omega| succ m=>exact a6 n m (by omega) h
 |l xs a6=>
  intro n m hm h
  cases n with
  |zero=>cases h
  |succ n=>
   cases m with
   |zero=>omega| succ m=>exact a6 n m (by omega) h
 |nil=>rfl|cons x xs vN vO=>
  rename_i n m hm h;have h:(x.bS n&&iB xs n)=true:=h;rw[akE]at h;show(x.bS m&&iB xs m)=true;rw[vN hm h.1,vO n m hm h.2];rfl
def qs(h:Ok n d)(hm:n<=m):Ok m d:=⟨VZ hm h.1,h.2⟩
def qq(ae:Ok n a)(ah:Ok n b):Ok (n+1) (.t [a,b]):=o_ (by simp) (by simp only[alq];exact⟨ae,ah,λ_ h=>nomatch h⟩)
def Ep(ae:Ok n a)(ah:Ok n b)(bN:Ok n c):Ok (n+1) (.t [a,b,c]):=o_ (by simp) (by simp only[alq];exact⟨ae,ah,bN,λ_ h=>nomatch h⟩)
def aa8(ae:Ok n a)(ah:Ok n b)(bN:Ok n c)(dq:Ok n d):Ok (n+1) (.t [a,b,c,d]):=o_ (by simp) (by simp only[alq];exact⟨ae,ah,bN,dq,λ_ h=>nomatch h⟩)
def aa9(ae:Ok n a)(ah:Ok n b)(bN:Ok n c)(dq:Ok n d)(ep:Ok n e)(eA:Ok n f):Ok (n+1) (.t [a,b,c,d,e,f]):=o_ (by simp) (by simp only[alq];exact⟨ae,ah,bN,dq,ep,eA,λ_ h=>nomatch h⟩)
def aa6:Ok (n+1) (.t []):=o_ (by simp) λ_ h=>nomatch h
@[simp] theorem aiO{z:Str}:vd [.v (.str z)]=if z.length<=aj3 then pure (.v (.int (z.length:Nat)))else bad:=rfl
@[simp] theorem air{x y:Str}:tT (.v (.str x)) (.v (.str y))=if x.length+y.length<=aj3 then pure (.v (.str (x++y)))else bad:=rfl
def VD(b:Bool):oEq (.v (.az b)) (.v (.az b))=pure (.v (.az true)):=by rw[sW rfl rfl];simp[jl]
def eq_str(h:akf x=true):oEq (.v (.str x)) (.v (.str x))=pure (.v (.az true)):=by rw[sW (x:=.v (.str x)) (y:=.v (.str x)) h h];simp[jl]
structure Qd where
 e:Int
 p1:Int
 dv:Int
 gS:Int
 f_:Int
 cS:D
def cV(a b:Int):D:=.t [.int a,.int b]
def lN(g:Qd):D:=.t [.int g.e,cV g.p1 g.dv,cV g.gS g.f_,g.cS]
end aZ
namespace aZ
open PySem PySem.Spec aE PyProof.Rows
section
variable{Q:alC}[DecidableEq Q.α]
def kF(Q:alC)(l:List (Q.α×D)):Prop:=l.Pairwise λa b=>Q.blt a.1 b.1=true
def kF.nodup{l:List (Q.α×D)}(h:kF Q l):(l.map (·.1)).Nodup:=by
 rw[List.nodup_iff_pairwise_ne,aof];refine List.Pairwise.imp (λ{a b} h e=>?_) h;rw[e,Q.irrefl]at h;cases h
def hr(l:List (Q.α×D))(a:Q.α):List (Q.α×D):=l.filter λq=>!decide (q.1=a)
def i1(l:List (Q.α×D))(p:Q.α×D):List (Q.α×D):=hr l p.1++[p]
def k0(l:List (Q.α×D))(p:Q.α×D):List (Q.α×D):=hA Q.blt (i1 l p)
def e4(l:List (Q.α×D))(a:Q.α):Option D:=(l.find? λq=>decide (q.1=a)).map (·.2)
def BY{l:List (Q.α×D)}(a:Q.α)(h:(l.map (·.1)).Nodup):((hr l a).map (·.1)).Nodup:=h.sublist (List.filter_sublist.map _)
def sU{l:List (Q.α×D)}{a:Q.α}{x:Q.α×D}:x∈hr l a↔x∈l/\x.1≠a:=by
 unfold hr;rw[al1];simp
def yq(l:List (Q.α×D))(a:Q.α):(hr l a).length<=l.length:=anr _ _
def wQ{l:List (Q.α×D)}(p:Q.α×D)(h:(l.map (·.1)).Nodup):((i1 l p).map (·.1)).Nodup:=by
 unfold i1;rw[akO,amF];refine⟨BY _ h,by simp,λa ak b ab=>?_⟩;obtain⟨x,ag,rfl⟩:=akV.mp ak;rw[show b=p.1 by simpa using ab];exact(sU.mp ag).2
def wO{l:List (Q.α×D)}{p x:Q.α×D}:x∈i1 l p↔(x∈l/\x.1≠p.1)\/x=p:=by
 unfold i1;rw[akx,sU,akg]
def z_(l:List (Q.α×D))(p:Q.α×D):(i1 l p).length<=l.length+1:=by
 unfold i1;rw[aj7,amK];have:=yq l p.1;omega
def EP{l:List (Q.α×D)}(p:Q.α×D)(h:(l.map (·.1)).Nodup):kF Q (k0 l p):=Fe Q _ (wQ p h)
def t7{l:List (Q.α×D)}{p x:Q.α×D}:x∈k0 l p↔(x∈l/\x.1≠p.1)\/x=p:=by
 unfold k0;rw[(Ah _ _).mem_iff,wO]
def VL{l:List (Q.α×D)}(aF:(l.map (·.1)).Nodup)(ag:x∈l):l.find? (λq=>decide (q.1=x.1))=some x:=by
 induction l with
 |nil=>cases ag
 |cons y l a6=>
  rw[aj8,akT]at aF;rcases aj5.mp ag with rfl|ag
  .rw[ak3 (by simp)]
  .have hL:¬y.1=x.1:=λh=>aF.1 (by rw[h];exact alD ag)
   rw[akS (by simpa using hL)];exact a6 aF.2 ag
def Cz{l:List (Q.α×D)}(aF:(l.map (·.1)).Nodup)(ag:x∈l):e4 l x.1=some x.2:=by
 unfold e4;rw[VL aF ag];rfl
def vm{l:List (Q.α×D)}{a:Q.α}{d:D}(h:e4 l a=some d):(a,d)∈l:=by
 unfold e4 at h;obtain⟨x,ag,rfl⟩:=amC.mp h;have ae:=aom ag;have ah:x.1=a:=by have:=List.find?_some ag;simpa using this
 rw[<-ah];exact ae
def Jx{l:List (Q.α×D)}(aF:(l.map (·.1)).Nodup):e4 l a=some d↔(a,d)∈l:=⟨vm,λh=>Cz aF h⟩
def V3{l tu:List (Q.α×D)}(aF:(tu.map (·.1)).Nodup)(h:∀d,(a,d)∈tu↔o=some d):e4 tu a=o:=by
 cases o with
 |some d=>exact(Jx aF).mpr ((h d).mpr rfl)|none=>
  cases e:e4 tu a with
  |none=>rfl|some d=>exact((h d).mp (vm e)).symm
def V4{l:List (Q.α×D)}(p:Q.α×D)(aF:(l.map (·.1)).Nodup)(a:Q.α):e4 (k0 l p) a=if a=p.1 then some p.2 else e4 l a:=
 V3 (l:=l) (EP p aF).nodup fun d=>by
  rw[t7]
  by_cases e:a=p.1
  .rw[if_pos e]
   constructor
   .rintro(⟨_,h⟩|h)
    .exact absurd e h
    .rw[<-h]
   .intro h
    refine .inr ?_;cases p;cases h;rw[e]
  .rw[if_neg e,Jx aF]
   constructor
   .rintro(⟨h,_⟩|h)
    .exact h
    .rw[<-h]at e;exact absurd rfl e
   .exact λh=>.inl ⟨h,e⟩
def BZ(b:Q.α)(h:kF Q l):kF Q (hr l b):=List.Pairwise.sublist List.filter_sublist h
def OL(h:kF Q l):hA Q.blt l=l:=(Fg Q h.nodup (.refl _) h).symm
def Gr(h:l.Nodup):jD Q.blt l=true:=by
 induction l with
 |nil=>rfl|cons a r a6=>
  rw[akT]at h;unfold jD;rw[a6 h.2,Bool.and_true,ak9];intro b ab
  cases av:Q.blt a b with
  |true=>rfl|false=>
   cases aC:Q.blt b a with
   |true=>rfl|false=>exact absurd (Q.total a b av aC▸ab) h.1
end
section
variable{Z:fS}[DecidableEq Z.κ.α]
theorem K6(y4:∀a,Z.un (Z.kd a)=some a){mf:bC}:∀{l:List (Z.κ.α×D)},(∀x∈l,mf [x.2]=pure (.v (Z.kd x.1)))->keysOf Z mf (l.map (·.2))=some (l.map (·.1))
 |[],_=>rfl|x::l,h=>by
  have e:zi Z mf x.2=some x.1:=by
   unfold zi;rw[h x aj9];exact y4 x.1
  rw[aj8,aj8];unfold keysOf;rw[e,K6 y4 λy ba=>h y (aj4 _ ba)]
theorem zip_rows{α β:Type}:∀l:List (α×β),(l.map (·.1)).zip (l.map (·.2))=l
 |[]=>rfl| x::l=>by rw[aj8,aj8,alx,zip_rows l]
def Fh(y4:∀a,Z.un (Z.kd a)=some a){mf:bC}{l:List (Z.κ.α×D)}(h:∀x∈l,mf [x.2]=pure (.v (Z.kd x.1))){r:R}(ag:r.fi=some (l.map (·.2)))(aF:(l.map (·.1)).Nodup)(ar:l.length<64) :
  s6 Z mf r=pure (.fr ((hA Z.κ.blt l).map (·.2))):=by
 unfold s6;rw[ag];dsimp only;rw[K6 y4 h];dsimp only;rw[if_pos ⟨Gr (Q:=Z.κ.toKeyOrd) aF,by rw[ajX];exact ar⟩,zip_rows]
end
end aZ
namespace aZ
open PySem PySem.Spec aE
abbrev d3:=ie.κ.toKeyOrd
def cE(a:List Nat):Str:=⟨a.toArray⟩
abbrev cd(s:Str):List Nat:=s.cps.toList
def Iu(a:List Nat):cd (cE a)=a:=rfl
def Pp(a:List Nat):ie.un (ie.kd a)=some a:=rfl
def Zv(a:List Nat):ie.kd a=.str (cE a):=rfl
def Pm:cE a=cE b↔a=b:=⟨λh=>by rw[<-Iu a,h,Iu],λh=>by rw[h]⟩
def I9(ak:akf (cE a)=true)(ab:akf (cE b)=true):oEq (.v (.str (cE a))) (.v (.str (cE b)))=pure (.v (.az (decide (a=b)))):=by
 rw[sW (x:=.v (.str (cE a))) (y:=.v (.str (cE b))) ak ab];show pure (R.v (D.az (cE a==cE b)))=_
 congr 3
 rw[alo,beq_iff_eq,decide_eq_true_eq,Pm]
def Md(ak:akf (cE a)=true)(ab:akf (cE b)=true):d8 (.v (.str (cE a))) (.v (.str (cE b)))=pure (.v (.az (!decide (a=b)))):=by
 rw[B2 (x:=.v (.str (cE a))) (y:=.v (.str (cE b))) ak ab];show pure (R.v (D.az (!(cE a==cE b))))=_
 congr 4
 rw[alo,beq_iff_eq,decide_eq_true_eq,Pm]
def kG(a:List Nat):Prop:=akf (cE a)=true/\1<=a.length/\a.length<=8
def ae3:akf (cE a)=true↔∀c∈a,c<0x110000:=by
 unfold akf cE;rw[List.all_toArray,ak9];simp
def Fy(a:List Nat):(cE a).length=a.length:=by
 show a.toArray.size=_;simp
def Pl(a b:List Nat):cE a++cE b=cE (a++b):=by
 show(⟨a.toArray++b.toArray⟩:Str)=_;unfold cE;simp
def aaM:(("add":Str) == "put")=false:=by decide +kernel
def aaN:(("do_add":Str) == "do_put")=false:=by decide +kernel
end aZ
namespace fA
open PySem PySem.Spec aE aZ
def pD(x:Int×D):Prop:=∃n z:D,x.2=.t [.int x.1,n,z]
def pD.gR{x:Int×D}(h:pD x):aO (.v x.2) (.v (.int 0))=pure (.v (.int x.1)):=by
 obtain⟨n,z,e⟩:=h;rw[e];simp
def pD.slot{x:Int×D}(h:pD x):dr x.2=.v x.2:=by
 obtain⟨n,z,e⟩:=h;rw[e];rfl
def BW{l:List (Int×D)}(h:∀x∈l,pD x)(c le c0:D)(a:Int):rL [.t [c,.t (l.map (·.2)),le,c0],.int a]=pure (.v ((e4 (Q:=fI.κ.toKeyOrd) l a).getD (.t [.int a,.int 0,.aI]))):=by
 have L:=Cr (b:=λd Y=>zp (Y.set 2 (.v d))) (λx:Int×D=>x.2) (λx=>decide (x.1=a)) (λx=>.v x.2) (λY=>∃s2,Y=[.v (.t [c,.t (l.map (·.2)),le,c0]),.v (.int a),s2]) l [.v (.t [c,.t (l.map (·.2)),le,c0]),.v (.int a),.e] ⟨_,rfl⟩
  (λx Y ag ⟨s2,ay⟩=>by
   subst ay;have gR:=(h x ag).gR;refine⟨λq=>?_,λq=>⟨[.v (.t [c,.t (l.map (·.2)),le,c0]),.v (.int a),.v x.2],?_,_,rfl⟩⟩
   .have q:x.1=a:=of_decide_eq_true q
    simp only[zp];simp[gR,q]
   .have q:¬x.1=a:=of_decide_eq_false q
    simp only[zp];simp[gR,q])
 simp only[rL,G3,G4];unfold e4
 cases e:l.find? (λx=>decide (x.1=a))with
 |some x=>
  have:=L.1 x e;simp[this]
 |none=>
  obtain⟨Y',cA,s2,rfl⟩:=L.2 e;simp[cA]
def Lg{x:Int×D}(h:pD x):fnOf 1 1 (bw (af aO (J 0) (aa (.int 0)))) [x.2]=pure (.v (.int x.1)):=by
 have:=h.gR;simp[h.slot,this]
def agH{l:List (Int×D)}(h:∀x∈l,pD x)(aF:(l.map (·.1)).Nodup)(ar:l.length<63)(c le c0:D)(a:Int)(n z:D)(aj:dr n=.v n)(hz:dr z=.v z) :
  zM [.t [c,.t (l.map (·.2)),le,c0],.int a,n,z]=pure (.v (.t [c,.t ((k0 (Q:=fI.κ.toKeyOrd) l (a,.t [.int a,n,z])).map (·.2)),le,c0])):=by
 have bL:fX (a3 (af d8 (af aO (J 0) (aa (.int 0))) (J 1))) (J 0) [.e,.v (.int a)] (l.map (·.2))=pure ((hr (Q:=fI.κ.toKeyOrd) l a).map (·.2)):=
  mb (λx:Int×D=>x.2) (λx=>!decide (x.1=a)) (λx=>x.2) l (λx ag=>by
   have gR:=(h x ag).gR;simp[gR];rfl) λx _ _=>by simp
 have e8:l.length<aj3:=eQ (by omega);have dl:=yq (Q:=fI.κ.toKeyOrd) l a;have eb:(hr (Q:=fI.κ.toKeyOrd) l a).length<aj3:=eQ (by omega);have eu:=Fh (Z:=fI) (λ_=>rfl) (mf:=fnOf 1 1 (bw (af aO (J 0) (aa (.int 0))))) (l:=i1 (Q:=fI.κ.toKeyOrd) l (a,.t [.int a,n,z])) (λx ag=>by
  rcases(wO (Q:=fI.κ.toKeyOrd)).mp ag with⟨ag,_⟩|rfl
  .exact Lg (h x ag)
  .exact Lg ⟨n,z,rfl⟩) (r:=.mv ((hr (Q:=fI.κ.toKeyOrd) l a).map (·.2)++[.t [.int a,n,z]])) (by
   show some _=some _;unfold i1;rw[akO];rfl) (wQ _ aF) (by have:=z_ (Q:=fI.κ.toKeyOrd) l (a,.t [.int a,n,z]);omega)
 have yv:∀(cR:bg)(Y:aQ)(mf:bC),q0 fI mf cR Y=(do let x <-cR Y;s6 fI mf x):=λ_ _ _=>rfl
 simp only[zM,Bw,HY,HZ];unfold k0;simp[aj,hz,bL,e8,eb,eu,yv]
abbrev qW:=List (List Nat×D)
def jx(x:List Nat×D):Prop:=kG x.1/\∃n:Int,n≠0/\x.2=.t [.str (cE x.1),.int n]
def jx.gR(h:jx x):aO (.v x.2) (.v (.int 0))=pure (.v (.str (cE x.1))):=by
 obtain⟨_,n,_,e⟩:=h;rw[e];simp
def jx.slot(h:jx x):dr x.2=.v x.2:=by
 obtain⟨_,n,_,e⟩:=h;rw[e];rfl
def ma:Option D->Int
 |some (.t [_,.int n])=>n|_=>0
def Iw{l:qW}(h:∀x∈l,jx x)(d le c0:D)(ak:kG a):vZ [.t [.t (l.map (·.2)),d,le,c0],.str (cE a)]=pure (.v (.int (ma (e4 (Q:=d3) l a)))):=by
 have L:=Cr (b:=λd Y=>zo (Y.set 2 (.v d))) (λx:List Nat×D=>x.2) (λx=>decide (x.1=a)) (λx=>.v (.int (ma (some x.2)))) (λY=>∃s2,Y=[.v (.t [.t (l.map (·.2)),d,le,c0]),.v (.str (cE a)),s2]) l [.v (.t [.t (l.map (·.2)),d,le,c0]),.v (.str (cE a)),.e] ⟨_,rfl⟩
  (λx Y ag ⟨s2,ay⟩=>by
   subst ay;have gR:=(h x ag).gR;have eq:=I9 (h x ag).1.1 ak.1;obtain⟨_,n,_,e⟩:=h x ag;refine⟨λq=>?_,λq=>⟨[.v (.t [.t (l.map (·.2)),d,le,c0]),.v (.str (cE a)),.v x.2],?_,_,rfl⟩⟩
   .rw[q]at eq
    simp only[zo];rw[e]at gR ⊢;simp[gR,eq,ma]
   .rw[q]at eq
    simp only[zo];simp[gR,eq])
 simp only[vZ,GY,GZ];unfold e4
 cases e:l.find? (λx=>decide (x.1=a))with
 |some x=>
  have:=L.1 x e;simp[this]
 |none=>
  obtain⟨Y',cA,s2,rfl⟩:=L.2 e;simp[cA,ma]
def DM(h:jx x):fnOf 1 1 (bw (af aO (J 0) (aa (.int 0)))) [x.2]=pure (.v (ie.kd x.1)):=by
 have:=h.gR;rw[Zv];simp[h.slot,this]
def jt(l:qW)(a:List Nat)(n:Int):qW:=if n=0 then hr (Q:=d3) l a else k0 (Q:=d3) l (a,.t [.str (cE a),.int n])
def aga(h:kF d3 l)(a:List Nat)(n:Int):kF d3 (jt l a n):=by
 unfold jt;split
 .exact BZ a h
 .exact EP _ h.nodup
def agb(h:∀x∈l,jx x)(ak:kG a)(n:Int):∀x∈jt l a n,jx x:=λx ag=>by
 unfold jt at ag;split at ag
 .exact h x ((sU (Q:=d3)).mp ag).1
 .rename_i q
  rcases(t7 (Q:=d3)).mp ag with⟨ag,_⟩|rfl
  .exact h x ag
  .exact⟨ak,n,q,rfl⟩
def PB{l:qW}(h:∀x∈l,jx x)(aA:kF d3 l)(ar:l.length<63)(d le c0:D)(ak:kG a)(n:Int) :
  v' [.t [.t (l.map (·.2)),d,le,c0],.str (cE a),.int n]=pure (.v (.t [.t ((jt l a n).map (·.2)),d,le,c0])):=by
 have bL:fX (a3 (af d8 (af aO (J 0) (aa (.int 0))) (J 1))) (J 0) [.e,.v (.str (cE a))] (l.map (·.2))=pure ((hr (Q:=d3) l a).map (·.2)):=
  mb (λx:List Nat×D=>x.2) (λx=>!decide (x.1=a)) (λx=>x.2) l (λx ag=>by
   have gR:=(h x ag).gR;have ne:=Md (h x ag).1.1 ak.1;simp[gR,ne]) λx _ _=>by simp
 have e8:l.length<aj3:=eQ (by omega);have dl:=yq (Q:=d3) l a;have eb:(hr (Q:=d3) l a).length<aj3:=eQ (by omega);have yv:∀(cR:bg)(Y:aQ)(mf:bC),q0 ie mf cR Y=(do let x <-cR Y;s6 ie mf x):=λ_ _ _=>rfl
 simp only[v',Bv,HW,HX];unfold jt
 by_cases q:n=0
 .have eu:=Fh (Z:=ie) Pp (mf:=fnOf 1 1 (bw (af aO (J 0) (aa (.int 0))))) (l:=hr (Q:=d3) l a) (λx ag=>DM (h x ((sU (Q:=d3)).mp ag).1)) (r:=.mv ((hr (Q:=d3) l a).map (·.2))) rfl (BY a aA.nodup) (by omega)
  rw[OL (Q:=d3) (BZ a aA)]at eu;rw[if_pos q];simp[q,bL,e8,eb,eu,yv]
 .have eu:=Fh (Z:=ie) Pp (mf:=fnOf 1 1 (bw (af aO (J 0) (aa (.int 0))))) (l:=i1 (Q:=d3) l (a,.t [.str (cE a),.int n])) (λx ag=>by
   rcases(wO (Q:=d3)).mp ag with⟨ag,_⟩|rfl
   .exact DM (h x ag)
   .exact DM ⟨ak,n,q,rfl⟩) (r:=.mv ((hr (Q:=d3) l a).map (·.2)++[.t [.str (cE a),.int n]])) (by
    show some _=some _;unfold i1;rw[akO];rfl) (wQ _ aA.nodup) (by have:=z_ (Q:=d3) l (a,.t [.str (cE a),.int n]);omega)
  rw[if_neg q];unfold k0;simp[q,bL,e8,eb,eu,yv]
def Gy(x:D)(ds:List D):eo (x::ds) 0=some x:=pR 0 rfl
def afD:r'.lookup ("put":Str)=some ("do_put":Str):=by
 unfold r';simp only[akM,beq_self_eq_true]
def VO:vg.lookup ("do_put":Str)=some v5:=by
 unfold vg;simp only[akM,beq_self_eq_true]
def abH{s a r:D}(aj:dr s=.v s)(ak:dr a=.v a)(h:v5 [s,a,.t (.str "put"::ds)]=pure (.v r)):nM [s,a,.t (.str "put"::ds)]=pure (.v r):=by
 simp only[nM,x6,Bu];simp[aj,ak,Gy,afD,VO,h]
def afC:r'.lookup ("add":Str)=some ("do_add":Str):=by
 unfold r';simp only[akM,beq_self_eq_true,aaM]
def VN:vg.lookup ("do_add":Str)=some v3:=by
 unfold vg;simp only[akM,beq_self_eq_true,aaN]
def abC{s a r:D}(aj:dr s=.v s)(ak:dr a=.v a)(h:v3 [s,a,.t (.str "add"::ds)]=pure (.v r)):nM [s,a,.t (.str "add"::ds)]=pure (.v r):=by
 simp only[nM,x6,Bu];simp[aj,ak,Gy,afC,VN,h]
section
variable{l:qW}(h:∀x∈l,jx x)(aA:kF d3 l)(ar:l.length<63)(d le c0:D){a:List Nat}(ak:kG a)(n i:Int)
include h aA ar ak
theorem abK:nM [.t [.t (l.map (·.2)),d,le,c0],.int i,.t [.str "put",.str (cE a),.int n]]=pure (.v (.t [.t [.t ((jt l a n).map (·.2)),d,le,c0],.int (ma (e4 (Q:=d3) l a))])):=
 abH rfl rfl (by
  have av:=PB h aA ar d le c0 ak n;have aC:=Iw h d le c0 ak;simp[v5,G2,av,aC])
theorem abJ:nM [.t [.t (l.map (·.2)),d,le,c0],.int i,.t [.str "add",.str (cE a),.int n]]=pure (.v (.t [.t [.t ((jt l a (ma (e4 (Q:=d3) l a)+n)).map (·.2)),d,le,c0],.int (ma (e4 (Q:=d3) l a)+n)])):=
 abC rfl rfl (by
  have av:=PB h aA ar d le c0 ak (ma (e4 (Q:=d3) l a)+n);have aC:=Iw h d le c0 ak;simp[v3,G0,G1,av,aC])
end
def qU(x:Int×D):Prop:=∃(n:Int)(z:D),x.2=.t [.int x.1,.int n,z]
def qU.yo{x:Int×D}(h:qU x):pD x:=by obtain⟨n,z,e⟩:=h;exact⟨_,_,e⟩
def qo:Option D->Int
 |some (.t [_,.int n,_])=>n|_=>0
def Ll{l:List (Int×D)}(h:∀x∈l,qU x)(a:Int):aO (.v ((e4 (Q:=fI.κ.toKeyOrd) l a).getD (.t [.int a,.int 0,.aI]))) (.v (.int 1))=pure (.v (.int (qo (e4 (Q:=fI.κ.toKeyOrd) l a)))):=by
 cases q:e4 (Q:=fI.κ.toKeyOrd) l a with
 |none=>simp[qo]|some d=>
  obtain⟨n,z,e⟩:=h _ (vm q);have e:d=.t [.int a,.int n,z]:=e;subst e;simp[qo]
def y'(c d le c0:D):qj [.t [c,d,le,c0]]=(do lM (.v c0) (.v .aI)):=by
 simp[qj,Hh,rO,HV]
section
variable{l:List (Int×D)}(h:∀x∈l,qU x)(c le c0:D)(a n:Int)
include h
theorem I3(ds:D)(hd:dr ds=.v ds)(q:ds=.aI\/(∃xs,ds=.t xs)/\(c0=.str "over"\/(∃zs,c0=.t zs)\/c0=.aI/\n<=qo (e4 (Q:=fI.κ.toKeyOrd) l a))) :
  mN [.t [c,.t (l.map (·.2)),le,c0],.int a,.int n,ds]=pure (.v (.t [c,.t (l.map (·.2)),le,c0])):=by
 have av:=BW (λx ag=>(h x ag).yo) c le c0 a;have aC:=Ll h a;simp only[mN,Bn,Bo,Bp];rcases q with rfl|⟨⟨xs,rfl⟩,rfl|⟨zs,rfl⟩|⟨rfl,q⟩⟩
 .simp
 .simp[y']
 .simp[y']
 .simp[y',av,aC,q]
theorem Vm(xs:List D)(q:qo (e4 (Q:=fI.κ.toKeyOrd) l a)<n)(ar:l.length<63)(aF:(l.map (·.1)).Nodup){c' le' sh' v:D}
  (a':nM [.t [c,.t (l.map (·.2)),le,.aI],.int a,.t xs]=pure (.v (.t [.t [c',.t (l.map (·.2)),le',sh'],v]))) (bI:dr v=.v v) :
  mN [.t [c,.t (l.map (·.2)),le,.aI],.int a,.int n,.t xs]=pure (.v (.t [c',.t ((k0 (Q:=fI.κ.toKeyOrd) l (a,.t [.int a,.int n,v])).map (·.2)),le',sh'])):=by
 have av:=BW (λx ag=>(h x ag).yo) c le .aI a;have aC:=Ll h a;have c4:=agH (λx ag=>(h x ag).yo) aF ar c' le' sh' a (.int n) v rfl bI;have hy:¬n<=qo (e4 (Q:=fI.κ.toKeyOrd) l a):=by omega
 simp only[mN,Bn,Bo,Bp];simp[y',av,aC,hy,a',c4]
end
def aa1{l:List (Int×D)}(h:∀x∈l,qU x)(a n:Int)(v:D):∀x∈k0 (Q:=fI.κ.toKeyOrd) l (a,.t [.int a,.int n,v]),qU x:=λx ag=>by
 rcases(t7 (Q:=fI.κ.toKeyOrd)).mp ag with⟨ag,_⟩|rfl
 .exact h x ag
 .exact⟨n,v,rfl⟩
end fA
namespace fA
open PySem PySem.Spec aE aZ kB
def Good(r:aN):Prop:=r.wf/\r.deep<=4/\r.names.length<=12
end fA
namespace fA
open PySem PySem.Spec aE aZ kB h2 n7
def FK(i:Int):tG [.int i]=pure (.v (.az true)):=by kernel_rfl
def PA(xs:List D):tG [.t xs]=pure (.v (.az false)):=by kernel_rfl
def CJ(m k:Nat):qi [bH m,bH k]=pure (.v (.az (fC m k))):=by
 have e:=S4 m k;simp only[qi,G8,lL];simp[e]
def D7(bu:List Nat)(h:∀k∈bu,k<=1000):tK [.l (bu.map bH)]=pure (.v (bH (maskOf bu))):=by
 obtain⟨Y',e,s2,rfl⟩:=vh (b:=λd Y=>DI (Y.set 2 (.v d))) (ds:=bu.map bH) (Y:=[.cu (bu.map bH),.v (.int 0),.e])
  (λi Y=>∃s2,Y=[.cu (bu.map bH),.v (bH (maskOf (bu.take i))),s2]) ⟨_,rfl⟩ (λi d Y hd ⟨s2,ay⟩=>by
   subst ay;obtain⟨k,aw,rfl⟩:=D6 hd;have oE:=h k (akL aw);refine⟨_,.inl (?_:_=pure (gv.bj [.cu (bu.map bH),.v (bH (maskOf (bu.take (i+1)))),.v (bH k)])),_,rfl⟩;rw[take_snoc aw,wa,lL (_ ||| _),<-Ez];have gS:(k:Int)<=1000000:=by omega
   simp only[DI,lL];simp[gS])
 rw[ajX,ank]at e;simp only[tK,HM,HN,HO];simp[e]
def Zz(h:m<64):zH [bH m]=pure (.fr ((zh m).map bH)):=by
 have ab:=bits_le m h;have c:fX (a3 (bt qi (U (J 1) (U (J 0) ai)))) (J 0) [.e,.v (bH m)] ((akG (bits m)).map bH)=pure (((akG (bits m)).filter (fC m)).map bH):=
  mb bH (fC m) bH _ (λk _=>by simp[CJ]) λk _ _=>by simp
 have bB:-4611686018427387904<=((bits m:Nat):Int)/\((bits m:Nat):Int)<4611686018427387904:=by omega
 have z:bits m<aj3:=eQ (by omega);rw[Zw];simp only[zH,Hi];simp only[lL m]at c ⊢;simp[YW,bB,Ni,z,c]
theorem L9:∀(n:Nat)(r:aN),r.deep<n->r.names.length<=1000->ql n [enc r]=pure (.fr (r.names.map bH))
 |0,r,h,_=>absurd h (amz _)|n+1,.kp k,h,_=>by
  simp only[ql,x5,q_,aN.names];simp[FK,lL]
 |n+1,.ch k ps,h,ar=>by
  simp only[aN.deep]at h;simp only[aN.names]at ar ⊢;have dl:=q7 (ps:=ps) (n:=n) (by omega);rw[pX];obtain⟨Y',e,s2,rfl⟩:=vh (b:=λd Y=>DJ (ql n) (Y.set 2 (.v d))) (ds:=ps.map enc) (Y:=[.v (.t [.int (k:Nat),.t (ps.map enc)]),.er false [],.e])
   (λi Y=>∃s2,Y=[.v (.t [.int (k:Nat),.t (ps.map enc)]),.er false ((aN.d_ (ps.take i)).map bH),s2]) ⟨_,rfl⟩ (λi d Y hd ⟨s2,ay⟩=>by
    subst ay;obtain⟨r,aA,rfl⟩:=D6 hd;have hm:=akL aA;refine⟨_,.inl (?_:_=pure (gv.bj [.v (.t [.int (k:Nat),.t (ps.map enc)]),.er false ((aN.d_ (ps.take (i+1))).map bH),.v (enc r)])),_,rfl⟩;have bM:=take_snoc aA;have le:(aN.d_ (ps.take (i+1))).length<=1000:=by
     have:aN.d_ ps=aN.d_ (ps.take (i+1))++aN.d_ (ps.drop (i+1)):=by rw[<-wh,List.take_append_drop]
     rw[this,aj7]at ar;omega
    rw[bM,wh]at le ⊢;rw[show aN.d_ [r]=r.names from ak6 _]at le ⊢;rw[aj7]at le;have a6:=L9 n r (dl r hm) (by omega);have z:(aN.d_ (ps.take i)).length+r.names.length<=aj3:=ak8 (eQ (by omega));simp only[DJ];simp[a6,z])
  rw[ajX,ank]at e;simp only[ql,x5,HS,HT,HU];simp[PA,e]
def named_eq{r:aN}(hw:r.wf)(hd:r.deep<12)(ar:r.names.length<=1000):v_ [enc r]=pure (.v (bH (maskOf r.names))):=by
 have ae:=L9 12 r hd ar;have ah:=D7 r.names λk aw=>by have:=tN r hw k aw;omega
 simp only[v_,HR];simp[ae,ah]
theorem Cj(m:Nat):∀(n:Nat)(r:aN),r.deep<n->r.wf->j_ n [enc r,bH m]=pure (.v (.az (r.fills (fC m))))
 |0,r,h,_=>absurd h (amz _)|n+1,.kp k,h,hw=>by
  have aw:=CJ m k;simp only[j_,x1,q_,aN.fills];simp only[lL]at aw ⊢;simp[FK,aw]
 |n+1,.ch k ps,h,hw=>by
  simp only[aN.deep]at h;simp only[aN.wf]at hw;have dl:=q7 (ps:=ps) (n:=n) (by omega);have wl:=xl.mp hw.2.2.2;rw[pX];have c:fX (a3 (bt (j_ n) (U (J 0) (U (J 1) ai)))) (J 0) [.e,.v (bH m)] (ps.map enc)=pure ((ps.filter (aN.fills (fC m))).map enc):=
   mb enc (aN.fills (fC m)) enc ps (λr aA=>by simp[Cj m n r (dl r aA) (wl r aA)]) λr _ _=>by simp
  have z:ps.length<aj3:=eQ (by omega);have e:decide (((k:Nat):Int)<=(aN.cnt (fC m) ps:Nat))=decide (k<=aN.cnt (fC m) ps):=decide_eq_decide.mpr (by omega);simp only[j_,x1,G5,aN.fills];simp only[lL m]at c ⊢;simp[PA,c,z,yl,e]
end fA
namespace n7
open h2 kB
def sX(a k:aN):Nat:=maskOf a.names ||| maskOf k.names
def aam(xs:List Nat):∀ys:List Nat,maskOf (xs++ys)=maskOf xs ||| maskOf ys:=by
 intro ys;have:∀n,∀ys:List Nat,ys.length=n->maskOf (xs++ys)=maskOf xs ||| maskOf ys:=by
  intro n
  induction n with
  |zero=>intro ys h;rw[aoG.mp h,ak6];exact(Nat.or_zero _).symm|succ n a6=>
   intro ys h;rcases List.eq_nil_or_concat ys with rfl|⟨l,k,rfl⟩
   .cases h
   .rw[List.concat_eq_append]at h ⊢
    rw[aj7,amK]at h;rw[<-amE,aZ.wa,a6 l (by omega),aZ.wa,Nat.or_assoc]
 exact this _ _ rfl
def I'{a k:aN}(ak:a.wf)(aw:k.wf):sX a k=nN λj=>(a.names++k.names).contains j:=by
 unfold sX;rw[<-aam,zN];intro n aF;rcases akx.mp aF with h|h
 .exact tN a ak n h
 .exact tN k aw n h
def Ja{a k:aN}(ak:a.wf)(aw:k.wf):sX a k<64:=by rw[I' ak aw];exact aax _
end n7
namespace fA
open PySem PySem.Spec aE aZ kB h2 n7
def dT(a k:aN):D:=.t [enc a,enc k]
def aat{a k:aN}(ak:Good a)(aw:Good k):zL [dT a k]=pure (.v (bH (sX a k))):=by
 have ae:=named_eq (r:=a) ak.1 (by have:=ak.2.1;omega) (by have:=ak.2.2;omega);have ah:=named_eq (r:=k) aw.1 (by have:=aw.2.1;omega) (by have:=aw.2.2;omega);unfold dT;simp only[zL,HP];simp only[lL]at ae ah ⊢;simp[ae,ah,Ez,sX]
def y9(j:Nat)(bu:List Nat):ke false (.v (bH j)) (.v (.l (bu.map bH)))=pure (.v (.az (bu.contains j))):=by
 have ef:(bu.map bH).all D.flat=true:=by rw[List.all_map];exact ak9.mpr λ_ _=>rfl
 show(if(bH j).flat=true/\(bu.map bH).all D.flat=true then pure (R.v (D.az (if false=true then !inD (bH j) (bu.map bH)else inD (bH j) (bu.map bH))))else bad)=_;rw[if_pos ⟨rfl,ef⟩,if_neg aj6,YQ]
def Zy:∀m:Nat,m<64->zh m=(akG 6).filter (fC m):=by decide +kernel
def Zx{a k:aN}(ak:a.wf)(aw:k.wf):zh (sX a k)=(akG 6).filter λj=>(a.names++k.names).contains j:=by
 rw[Zy _ (Ja ak aw),I' ak aw];exact List.filter_congr λj aR=>L5 _ j (ak4.mp aR)
def zP{a k:aN}(ak:Good a)(aw:Good k):mO [dT a k]=pure (.fr (((akG 6).filter λj=>(a.names++k.names).contains j).map bH)):=by
 have m:=aat ak aw;have e:=Zz (Ja ak.1 aw.1);rw[Zx ak.1 aw.1]at e;have c0:dr (dT a k)=.v (dT a k):=rfl;simp only[mO,HQ];simp[c0,m,e]
def dG(a k:aN):List Nat:=(akG 6).filter λj=>(a.names++k.names).contains j
end fA
namespace fA
open PySem PySem.Spec aE aZ h2 kB n7
abbrev c3:=Int×Int
abbrev bW(s:c3):D:=.t [.int s.1,.int s.2]
structure dz where
 k:Nat
 s:c3
 w:D
abbrev c7(g:dz):D:=.t [bH g.k,bW g.s,g.w]
def We(ps:List dz)(h:∀p∈ps,p.k<6)(ar:ps.length<=1000):oW [.l (ps.map c7)]=pure (.v (bH (maskOf (ps.map (·.k))))):=by
 have c:fX gr (af aO (J 0) (aa (.int 0))) [.e] (ps.map c7)=pure (ps.map (bH∘λp=>p.k)):=q4 c7 _ ps λp _=>by simp[c7]
 have z:ps.length<aj3:=eQ (by omega);have m:=D7 (ps.map (·.k)) (λk aw=>by obtain⟨p,aH,rfl⟩:=akV.mp aw;have:=h p aH;omega);rw[amM]at m;simp only[oW,G7];simp[c,z,m]
def I8(s t:c3):oEq (.v (bW s)) (.v (bW t))=pure (.v (.az (decide (s=t)))):=by
 rw[sW (x:=.v (bW s)) (y:=.v (bW t)) rfl rfl]
 congr 3
 obtain⟨a,b⟩:=s;obtain⟨c,d⟩:=t;rw[alo];simp[jl,R.arg,r0]
def Mc(s t:c3):d8 (.v (bW s)) (.v (bW t))=pure (.v (.az (!decide (s=t)))):=by
 rw[B2 (x:=.v (bW s)) (y:=.v (bW t)) rfl rfl]
 congr 4
 obtain⟨a,b⟩:=s;obtain⟨c,d⟩:=t;rw[alo];simp[jl,R.arg,r0]
def fc(s t:c3):Bool:=decide (t.1<s.1)||decide (s.1=t.1)&&decide (t.2<s.2)
def Lw(s t:c3):gT [s.1,s.2] [t.1,t.2]=fc s t:=by
 unfold gT fc;rw[rF,rF]
 by_cases bk:s.1=t.1
 .rw[if_pos bk,bk]
  by_cases b0:s.2=t.2
  .rw[if_pos b0,b0]
   simp[nH]
  .rw[if_neg b0];simp
 .rw[if_neg bk]
  simp[bk]
def we(b p:dz):dz:=if fc p.s b.s=true then p else b
def ly(p:dz)(ps:List dz):dz:=ps.foldl we p
abbrev j9:bC:=fnOf 1 1 (bw (af aO (J 0) (aa (.int 1))))
def K3(p:dz):mK j9 (c7 p)=some [p.s.1,p.s.2]:=by
 have e:j9 [c7 p]=pure (.v (bW p.s)):=by simp[j9,c7]
 unfold mK;rw[e];rfl
theorem D8:∀(ps:List dz)(b:dz),j' j9 (c7 b) [b.s.1,b.s.2] (ps.map c7)=some (c7 (ly b ps))
 |[],b=>rfl|p::ps,b=>by
  rw[aj8];unfold ly;rw[List.foldl_cons];show(match mK j9 (c7 p)with|some kd=>if gT kd [b.s.1,b.s.2]=true then j' j9 (c7 p) kd (ps.map c7)else j' j9 (c7 b) [b.s.1,b.s.2] (ps.map c7)|none=>none)=_;rw[K3];show(if gT [p.s.1,p.s.2] [b.s.1,b.s.2]=true then j' j9 (c7 p) [p.s.1,p.s.2] (ps.map c7)else j' j9 (c7 b) [b.s.1,b.s.2] (ps.map c7))=_;rw[Lw];unfold we
  by_cases q:fc p.s b.s=true
  .rw[if_pos q,if_pos q];exact D8 ps p
  .rw[if_neg q,if_neg q];exact D8 ps b
def oB(op:D)(g:dz):D:=.t [bW g.s,if g.s=(0,0)then op else g.w]
def Yg(p:dz)(ps:List dz)(op:D)(a':dr op=.v op)(ar:(p::ps).length<64):zE [.l ((p::ps).map c7),op]=pure (.v (oB op (ly p ps))):=by
 have c5:wb j9 ((p::ps).map c7)=some (c7 (ly p ps)):=by
  rw[aj8];show(match mK j9 (c7 p)with|some k=>j' j9 (c7 p) k (ps.map c7)|none=>none)=_;rw[K3];exact D8 ps p
 generalize ly p ps=b at *;generalize p::ps=gY at *;have d5:=I8 b.s (0,0);have z:(gY.map c7).length<64:=by rw[ajX];exact ar
 have em:yy j9 (.cu (gY.map c7))=pure (.v (c7 b)):=by
  unfold yy;show(match wb j9 (gY.map c7)with|some r=>if(gY.map c7).length<64 then(pure (R.v r):M R)else bad|none=>bad)=_;rw[c5];dsimp only;rw[if_pos z]
 unfold oB;simp only[zE,Bq,G9,G_]
 by_cases q:b.s=(0,0)
 .rw[q]at d5
  simp at d5;simp[a',em,c7,q,d5]
 .simp[q]at d5
  simp[a',em,c7,q,d5]
end fA
namespace fA
open PySem PySem.Spec aE aZ
def j4{n N:Nat}{b:aX}{ds:List D}(h:ds.length=n)(e:b (ds.map dr++akQ (N-n) .e)=pure (.cJ (.v d))):fnOf n N b ds=pure (.v d):=by
 rw[yu,if_pos h,e];rfl
def eK{a b:aX}(e:a Y=pure (.bj Y')):b4 a b Y=b Y':=by rw[b4,e];rfl
def r6{a b:aX}{r:R}(e:a Y=pure (.cJ r)):b4 a b Y=pure (.cJ r):=by rw[b4,e];rfl
def lH{t:aQ->M Bool}{a b:aX}(e:t Y=pure true):cP t a b Y=a Y:=by rw[cP,e];rfl
def oI{t:aQ->M Bool}{a b:aX}(e:t Y=pure false):cP t a b Y=b Y:=by rw[cP,e];rfl
def t2{a b:aQ->M Bool}(h:a Y=pure false):hh a b Y=b Y:=by show(a Y >>= _)=_;rw[h];rfl
def zT{a:aQ->M Bool}(h:a Y=pure true):fw a Y=pure false:=by show(a Y >>= _)=_;rw[h];rfl
def aaY{a:aQ->M Bool}(h:a Y=pure false):fw a Y=pure true:=by show(a Y >>= _)=_;rw[h];rfl
def dB{m:bg}(h:m Y=pure (.v (.az b))):a3 m Y=pure b:=by show(m Y >>= _)=_;rw[h];rfl
def Qx{a b:aQ->M Bool}(h:a Y=pure true):jr a b Y=b Y:=by show(a Y >>= _)=_;rw[h];rfl
def Qv{a b:aQ->M Bool}(h:a Y=pure false):jr a b Y=pure false:=by show(a Y >>= _)=_;rw[h];rfl
def bZ{f:R->R->M R}{a b:bg}{r:M R}(e:f x y=r)(av:a Y=pure x)(aC:b Y=pure y):af f a b Y=r:=by
 show(a Y >>= _)=_;rw[av];show(b Y >>= _)=_;rw[aC];exact e
def fj{m:bg}{Y:aQ}(e:m Y=pure (.v d)):b1 i m Y=pure (.bj (Y.set i (.v d))):=by show(m Y >>= _)=_;rw[e];rfl
def jP{m:bg}(e:m Y=pure (.v d)):bw m Y=pure (.cJ (.v d)):=by show(m Y >>= _)=_;rw[e];rfl
def Gs{ms:c8}{Y:aQ}{xs:List D}(h:Y[i]? = some (.er p xs))(e:ms Y=pure [.v d])(z:xs.length<aj3):l' i iL ms Y=pure (.bj (Y.set i (.er p (xs++[d])))):=by
 simp[h,e,z]
def call_of{mf:bC}{ms:c8}{rs:List R}{r:M R}(av:ms Y=pure rs)(e:mf (rs.map R.arg)=r):bt mf ms Y=r:=by show(ms Y >>= _)=_;rw[av];exact e
def j2{f:List R->M R}{ms:c8}{r:M R}(e:f rs=r)(av:ms Y=pure rs):b_ f ms Y=r:=by show(ms Y >>= _)=_;rw[av];exact e
def cons_of{m:bg}{ms:c8}(e:m Y=pure x)(av:ms Y=pure xs):U m ms Y=pure (x::xs):=by show(m Y >>= _)=_;rw[e];show(ms Y >>= _)=_;rw[av];rfl
def ub{m:bg}{Y:aQ}{r:R}(e:m Y=pure r)(h:r.dat=pure d):b1 i m Y=pure (.bj (Y.set i (.v d))):=by show(m Y >>= _)=_;rw[e];show(r.dat >>= _)=_;rw[h];rfl
def Tx{xs ys:List D}(h:xs.length+ys.length<=aj3):ih (.fr xs) (.fr ys)=pure (.fr (xs++ys)):=if_pos h
def abL{Y:aQ}:j3 i (dh ai) Y=pure (.bj (Y.set i (.er false []))):=rfl
def Pe{a b c:bg}(av:a Y=pure (.v x))(aC:b Y=pure (.v y))(c4:c Y=pure (.v z)):bG (U a (U b (U c ai))) Y=pure (.v (.t [x,y,z])):=by
 show(U a (U b (U c ai)) Y >>= _)=_;rw[cons_of av (cons_of aC (cons_of c4 rfl))];rfl
def afN{a b:bg}(av:a Y=pure (.v x))(aC:b Y=pure (.v y)):bG (U a (U b ai)) Y=pure (.v (.t [x,y])):=by
 show(U a (U b ai) Y >>= _)=_;rw[cons_of av (cons_of aC rfl)];rfl
def nj{a b:Int}(h:n1 a b):gq (.v (.int a)) (.v (.int b))=pure (.v (.int (a / b))):=if_pos h
def pT{it:e'}{t:aQ->M Bool}{ds xs:List D}(av:it Y=pure ds)(z:ds.length<aj3)(e:fX t el (iP n cap Y) ds=pure xs):e3 n cap it t el Y=pure (.fr xs):=by
 show(it Y >>= _)=_;rw[av];show(hI (ds.length<aj3) >>= _)=_;unfold hI;rw[if_pos z];show(fX t el (iP n cap Y) ds >>= _)=_;rw[e];rfl
def BU(e:m=pure (.v d)):(m >>= R.dat)=pure d:=by rw[e];rfl
def Jj{n N:Nat}{b:aX}{ds xs:List D}(h:ds.length=n)(e:b (ds.map dr++akQ (N-n) .e)=pure (.cJ (.fr xs))):fnOf n N b ds=pure (.fr xs):=by
 rw[yu,if_pos h,e];rfl
def hc{a b:Int}(h:0<b):oMod (.v (.int a)) (.v (.int b))=pure (.v (.int (a % b))):=if_pos h
def nq{a b:Int}:oEq (.v (.int a)) (.v (.int b))=pure (.v (.az (decide (a=b)))):=rfl
def BI{xs ys:List D}(h:xs.length+ys.length<=aj3):ih (.v (.l xs)) (.fr ys)=pure (.fr (xs++ys)):=if_pos h
def Y_{i:Int}{v:D}(e:eo xs i=some v):aO (.v (.l xs)) (.v (.int i))=pure (.v v):=by
 show(match eo xs i with|some d=>pure (R.v d)|none=>bad)=_;rw[e]
def KO{i:Int}{v:D}(e:eo xs i=some v):aO (.fr xs) (.v (.int i))=pure (.v v):=by
 show(match eo xs i with|some d=>pure (R.v d)|none=>bad)=_;rw[e]
def tw{ms:c8}{ds:List D}(e:ms Y=pure rs)(h:kJ rs=pure ds)(z:ds.length<=1000):dh ms Y=pure (.fr ds):=by
 show(ms Y >>= _)=_;rw[e];show(kJ rs >>= _)=_;rw[h];show(hI (ds.length<=1000) >>= _)=_;unfold hI;rw[if_pos z];rfl
def aaB{a b:Int}(h:n2 a b):wx (.v (.int a)) (.v (.int b))=pure (.v (.int (a*b))):=if_pos h
def z7{a b n:Int}(h:0<=b/\b<=1000000/\a.natAbs<2 ^ 64)(e:a ^ b.toNat=n):kZ (.v (.int a)) (.v (.int b))=pure (.v (.int n)):=by rw[<-e];exact if_pos h
def Pq{is:List Nat}{m:bg}{ds:List D}(e:m Y=pure (.v (.t ds)))(h:ds.length=is.length):ob is m Y=pure (.bj (kj is ds Y)):=by
 show(m Y >>= _)=_;rw[e];exact if_pos h
def Kw{m:bg}(e:m Y=pure (.fr xs)):j7 m Y=pure xs:=by show(m Y >>= _)=_;rw[e];rfl
def aG{α:Type}(S:cG)(m:M α)(a:α):Prop:=m.run S=.ok a S
def bA{α:Type}(S:cG)(m:N α)(a:α)(S':cG):Prop:=m.run S=.ok a S'
section
variable{α β:Type}{S S1 bh:cG}{Y Y':aQ}
def aG.of(h:m=pure a):aG S m a:=by rw[h];rfl
theorem aG.bind{f:α->M β}(h:aG S m a)(ah:aG S (f a) b):aG S (m >>= f) b:=by
 show(match m.run S with|.ok a S1=>(f a).run S1|.exc c S1=>.exc c S1|.bad=>.bad)=_;rw[show m.run S=.ok a S from h];exact ah
def bA.bind{f:α->N β}(h:bA S m a S1)(ah:bA S1 (f a) b bh):bA S (m >>= f) b bh:=by
 show(match m.run S with|.ok a S1=>(f a).run S1|.exc c S1=>.exc c S1|.bad=>.bad)=_;rw[show m.run S=.ok a S1 from h];exact ah
def aG.to{m:M α}(h:aG S m a):bA S m.up a S:=h
def Ds{p:Prop}[Decidable p](h:p):aG S (hI p) ():=.of (if_pos h)
def b'{f:R->R->M R}{a b:bg}{x y r:R}(e:f x y=pure r)(ae:aG S (a Y) x)(ah:aG S (b Y) y):aG S (af f a b Y) r:=ae.bind (ah.bind (.of e))
def de:aG S (ai Y) []:=.of rfl
def bD{m:bg}{ms:c8}(h:aG S (m Y) x)(ae:aG S (ms Y) xs):aG S (U m ms Y) (x::xs):=h.bind (ae.bind (.of rfl))
def eP{mf:bC}{ms:c8}{rs:List R}{r:R}(h:aG S (ms Y) rs)(e:aG S (mf (rs.map R.arg)) r):aG S (bt mf ms Y) r:=h.bind e
def mI{f:List R->M R}{ms:c8}{r:R}(e:f rs=pure r)(h:aG S (ms Y) rs):aG S (b_ f ms Y) r:=h.bind (.of e)
def oR{ms:c8}{ds:List D}(h:aG S (ms Y) rs)(e:kJ rs=pure ds)(z:ds.length<=1000):aG S (bG ms Y) (.v (.t ds)):=h.bind ((aG.of e).bind ((Ds z).bind (.of rfl)))
def cQ{m:bg}(h:aG S (m Y) (.v (.az b))):aG S (a3 m Y) b:=h.bind (.of rfl)
def Dw{a b:aQ->M Bool}(h:aG S (a Y) true):aG S (hh a b Y) true:=h.bind (.of rfl)
def oQ{a b:aQ->M Bool}(h:aG S (a Y) false)(ah:aG S (b Y) x):aG S (hh a b Y) x:=h.bind ah
def kS{a b:aQ->M Bool}(h:aG S (a Y) true)(ah:aG S (b Y) x):aG S (jr a b Y) x:=h.bind ah
def oP{a b:aQ->M Bool}(h:aG S (a Y) false):aG S (jr a b Y) false:=h.bind (.of rfl)
def j8{a:aQ->M Bool}(h:aG S (a Y) x):aG S (fw a Y) (!x):=h.bind (.of rfl)
def ze{it:e'}{t:aQ->M Bool}{ds xs:List D}(h:aG S (it Y) ds)(z:ds.length<aj3)(e:aG S (fX t el (iP n cap Y) ds) xs):aG S (e3 n cap it t el Y) (.fr xs):=h.bind ((Ds z).bind (e.bind (.of rfl)))
theorem vQ{α:Type}{el:bg}(g:α->D)(f:α->D):∀as:List α,(∀a∈as,aG S (el (Y.set 0 (.v (g a)))) (.v (f a)))->aG S (fX gr el Y (as.map g)) (as.map f)
 |[],_=>.of rfl|a::as,h=>(aG.of (S:=S) (m:=(pure true:M Bool)) rfl).bind ((h a (aj9 ..)).bind ((aG.of (m:=R.dat (.v (f a))) rfl).bind ((vQ g f as λx ag=>h x (aj4 _ ag)).bind (.of rfl))))
def Dt{m:bg}{r:R}(h:aG S (m Y) r)(e:r.fi=some ds):aG S (j7 m Y) ds:=h.bind (by rw[e];exact .of rfl)
def Du{m:bg}(h:aG S (m Y) (.fr xs)):aG S (ry m Y) xs:=h.bind (.of rfl)
def iF{m:bg}{r:R}(h:aG S (m Y) r)(e:r.dat=pure d):aG S (b1 i m Y) (.bj (Y.set i (.v d))):=h.bind ((aG.of e).bind (.of rfl))
def ji{m:bg}(h:aG S (m Y) (.v d)):aG S (bw m Y) (.cJ (.v d)):=h.bind (.of rfl)
def zg{m:bg}(h:aG S (m Y) (.fr xs)):aG S (bw m Y) (.cJ (.fr xs)):=h.bind (.of rfl)
def nF{t:aQ->M Bool}{a b:aX}(h:aG S (t Y) true)(ah:aG S (a Y) a7):aG S (cP t a b Y) a7:=h.bind ah
def rB{t:aQ->M Bool}{a b:aX}(h:aG S (t Y) false)(ah:aG S (b Y) a7):aG S (cP t a b Y) a7:=h.bind ah
def vS{a b:aX}(h:aG S (a Y) (.bj Y'))(ah:aG S (b Y') a7):aG S (b4 a b Y) a7:=h.bind ah
def tn{a b:aX}{r:R}(h:aG S (a Y) (.cJ r)):aG S (b4 a b Y) (.cJ r):=h.bind (.of rfl)
def qc{is:List Nat}{m:bg}{ds:List D}(h:aG S (m Y) (.v (.t ds)))(e:ds.length=is.length):aG S (ob is m Y) (.bj (kj is ds Y)):=h.bind (.of (if_pos e))
def tm{n N:Nat}{b:aX}{ds:List D}(h:ds.length=n)(e:aG S (b (ds.map dr++akQ (N-n) .e)) (.cJ (.v d))):aG S (fnOf n N b ds) (.v d):=by
 rw[yu,if_pos h];exact e.bind (.of rfl)
def nG(h:S[i]? = some o):aG S (gc (.v (.ref i))) o:=(show aG S Jy S from rfl).bind (by rw[h];exact .of rfl)
def Zs{a b:bg}{k:Key}(h:S[i]? = some (.cH aq))(ae:aG S (a Y) (.v (.ref i)))(ah:aG S (b Y) (.v kd))(aw:qd kd=some k)(e:iQ aq k=some d):aG S (af dH a b Y) (.v d):=ae.bind (ah.bind ((nG h).bind (by show aG S (match qd kd with|some key=>_|none=>_) _;rw[aw];show aG S (match iQ aq k with|some d=>_|none=>_) _;rw[e];exact .of rfl)))
def zf{m:bg}(h:S[i]? = some (.l xs))(ae:aG S (m Y) (.v (.ref i))):aG S (gN m Y) (.mv xs):=ae.bind ((nG h).bind (.of rfl))
def vR{mf:bC}{mo:bg}{ms:c8}{aY:List (Str×D)}{rs:List R}{r:R}(h:S[i]? = some (.bx c aY))(ae:aG S (mo Y) (.v (.ref i)))(aF:aY.lookup m=none)(ah:aG S (ms Y) rs)(e:aG S (mf (.ref i::rs.map R.arg)) r):aG S (fp c m mf mo ms Y) r:=ae.bind ((nG h).bind (by show aG S (if c=c/\aY.lookup m=none then _ else _) _;rw[if_pos ⟨rfl,aF⟩];exact ah.bind e))
def Zo{m:bg}{aY:List (Str×D)}(h:S[i]? = some (.bx c aY))(ae:aG S (m Y) (.v (.ref i)))(e:aY.lookup f=some d):aG S (bL (cD c f) m Y) (.v d):=ae.bind ((nG h).bind (by show aG S (if c=c then _ else _) _;rw[if_pos rfl,e];exact .of rfl))
def Zu{m nO:bg}{ms:c8}{rs:List R}{k:List Key}(h:S[i]? = some (.eI aq))(ae:aG S (m Y) (.v (.ref i)))(ah:aG S (ms Y) rs)(bN:aG S (nO Y) (.v qN))(aw:rC rs=some k)(ar:rs.length<=1000):aG S (yg m ms nO Y) (.v ((iQ aq k).getD qN)):=ae.bind (ah.bind (bN.bind ((nG h).bind (by rw[aw];exact .of (if_pos ar)))))
def cW{a b:bf}(h:bA S (a Y) (.bj Y') S1)(ah:bA S1 (b Y') a7 bh):bA S (bE a b Y) a7 bh:=h.bind ah
def pw{a b:bf}{r:R}(h:bA S (a Y) (.cJ r) S1):bA S (bE a b Y) (.cJ r) S1:=h.bind rfl
def ku{t:aQ->N Bool}{a b:bf}(h:bA S (t Y) true S1)(ah:bA S1 (a Y) a7 bh):bA S (eT t a b Y) a7 bh:=h.bind ah
def nY{t:aQ->N Bool}{a b:bf}(h:bA S (t Y) false S1)(ah:bA S1 (b Y) a7 bh):bA S (eT t a b Y) a7 bh:=h.bind ah
def k_{t:aQ->N Bool}{a b:bf}(h:bA S (t Y) false S1)(ah:bA S1 (b Y) a7 bh):bA S (bE (eT t a (bR cj)) b Y) a7 bh:=cW (nY h rfl) ah
def xq{t:aQ->M Bool}{b:bf}(h:aG S (t Y) false)(ah:bA S (b Y) a7 bh):bA S (bE (bR (cP t a cj)) b Y) a7 bh:=cW (rB h (.of rfl)).to ah
def PH{m:eX}(h:bA S (m Y) (.v d) S1):bA S (k9 m Y) (.cJ (.v d)) S1:=h.bind rfl
def ag6{m:eX}(h:bA S (m Y) (.fr xs) S1):bA S (k9 m Y) (.cJ (.fr xs)) S1:=h.bind rfl
def AI{m:eX}{r:R}(h:bA S (m Y) r S1):bA S (lZ m Y) (.bj Y) S1:=h.bind rfl
def sm{m:eX}{r:R}(h:bA S (m Y) r S1)(e:r.dat=pure d):bA S (ks i m Y) (.bj (Y.set i (.v d))) S1:=h.bind ((aG.of e).to.bind rfl)
def x_call{mf:fb}{ms:c8}{rs:List R}{r:R}(h:aG S (ms Y) rs)(aj:rs.all R.jR=true)(e:bA S (mf (rs.map R.arg)) r S1):bA S (lY mf (gs ms) Y) r S1:=(aG.to h).bind (by rw[if_pos aj];exact e)
def sl{mf:fb}{mo:bg}{ms:hF}{aY:List (Str×D)}{rs:List R}{r:R}(h:S[i]? = some (.bx c aY))(ae:aG S (mo Y) (.v (.ref i)))(aF:aY.lookup m=none)(ah:bA S (ms Y) rs S)(aj:rs.all R.jR=true)(e:bA S (mf (.ref i::rs.map R.arg)) r S1):bA S (fR c m mf mo ms Y) r S1:=ae.to.bind ((nG h).to.bind (by show bA S (if c=c/\aY.lookup m=none then _ else _) _ _;rw[if_pos ⟨rfl,aF⟩];exact ah.bind (by rw[if_pos aj];exact e)))
def ag4{mf:fb}{ms:c8}{rs:List R}(h:aG S (ms Y) rs)(aj:rs.all R.jR=true)(e:bA (S++[.bx c []]) (mf (.ref S.length::rs.map R.arg)) (.v .aI) S1):bA S (xp c mf (gs ms) Y) (.v (.ref S.length)) S1:=(aG.to h).bind (by
 rw[if_pos aj];exact bA.bind (m:=vl) (a:=S) (S1:=S) rfl (bA.bind (m:=putN _) (a:=()) (S1:=S++[gI.bx c []]) rfl (bA.bind e rfl)))
def pv{n N:Nat}{b:bf}{ds:List D}(h:ds.length=n)(e:bA S (b (ds.map dr++akQ (N-n) .e)) (.cJ (.v d)) S1):bA S (fnX n N b ds) (.v d) S1:=by
 unfold fnX;rw[if_pos h];exact e.bind rfl
def ag3{n N:Nat}{b:bf}{ds xs:List D}(h:ds.length=n)(e:bA S (b (ds.map dr++akQ (N-n) .e)) (.cJ (.fr xs)) S1):bA S (fnX n N b ds) (.fr xs) S1:=by
 unfold fnX;rw[if_pos h];exact e.bind rfl
def FT{n N:Nat}{b:bf}{ds:List D}(h:ds.length=n)(e:bA S (b (ds.map dr++akQ (N-n) .e)) (.bj Y') S1):bA S (fnX n N b ds) (.v .aI) S1:=by
 unfold fnX;rw[if_pos h];exact e.bind rfl
def x_at{mo:bg}{mv:eX}{aY:List (Str×D)}{r:R}(bI:bA S (mv Y) r S1)(e:r.dat=pure d)(ae:aG S1 (mo Y) (.v (.ref i)))(h:S1[i]? = some (.bx c aY))(ar:aY.length<1000):bA S (eS c f mo mv Y) (.bj Y) (S1.set i (.bx c (iI f d aY))):=bI.bind ((aG.of e).to.bind (ae.to.bind ((nG h).to.bind (by
 show bA S1 (if c=c/\aY.length<1000 then _ else _) _ _;rw[if_pos ⟨rfl,ar⟩];rfl))))
def PF{mo mk:bg}{mv:eX}{aq:List (Key×D)}{r:R}{k:Key}(bI:bA S (mv Y) r S1)(e:r.dat=pure d)(ae:aG S1 (mo Y) (.v (.ref i)))(ah:aG S1 (mk Y) (.v kd))(h:S1[i]? = some (.cH aq))(aw:qd kd=some k)(ar:aq.length<1000):bA S (jw mo mk mv Y) (.bj Y) (S1.set i (.cH (gz aq k d))):=bI.bind ((aG.of e).to.bind (ae.to.bind (ah.to.bind ((nG h).to.bind (by
 show bA S1 (match qd kd with|some key=>_|none=>_) _ _;rw[aw];show bA S1 (if aq.length<1000 then _ else _) _ _;rw[if_pos ar];rfl)))))
def PG{mo:bg}{ms:c8}{mv:eX}{aq:List (List Key×D)}{r:R}{rs:List R}{k:List Key}(bI:bA S (mv Y) r S1)(e:r.dat=pure d)(ae:aG S1 (mo Y) (.v (.ref i)))(ah:aG S1 (ms Y) rs)(h:S1[i]? = some (.eI aq))(aw:rC rs=some k)(ar:rs.length<=1000/\aq.length<1000):bA S (xo mo ms mv Y) (.bj Y) (S1.set i (.eI (gz aq k d))):=bI.bind ((aG.of e).to.bind (ae.to.bind (ah.to.bind ((nG h).to.bind (by
 rw[aw];show bA S1 (if rs.length<=1000/\aq.length<1000 then _ else _) _ _;rw[if_pos ar];rfl)))))
def FR{mo:bg}{ms:c8}{xs:List D}(ae:aG S (mo Y) (.v (.ref i)))(ah:aG S (ms Y) [.v d])(h:S[i]? = some (.l xs))(z:xs.length<aj3):bA S (qK iL mo ms Y) (.bj Y) (S.set i (.l (xs++[d]))):=ae.to.bind (ah.to.bind ((nG h).to.bind ((aG.to (a:=(R.v .aI,xs++[d])) (.of (by show(hI (xs.length<aj3) >>= _)=_;rw[Iz z];rfl))).bind rfl)))
def FU:bA S (kq (c1 (dh ai)) Y) (.v (.ref S.length)) (S++[.l []]):=rfl
def AJ{it:e'}(h:aG S (it Y) ds)(e:bA S (k8 (λd Y=>b (Y.set i (.v d))) ds Y) a7 S1):bA S (sj i it b Y) a7 S1:=(aG.to h).bind e
def sk{b:D->bf}(h:bA S (b d Y) (.bj Y') S1)(ah:bA S1 (k8 b ds Y') a7 bh):bA S (k8 b (d::ds) Y) a7 bh:=h.bind ah
def FV{a:aQ->N Bool}(h:bA S (a Y) x S1):bA S (qL a Y) (!x) S1:=h.bind rfl
def FQ{m:eX}(h:bA S (m Y) (.v (.az b)) S1):bA S (qM m Y) b S1:=h.bind rfl
def Fr(W:List Nat)(S S':cG):Prop:=∀j o,j∉W->S[j]? = some o->S'[j]? = some o
def Fr.set(h:i∈W):Fr W S (S.set i o):=λj o' aR e=>by
 rw[akn (λq:i=j=>aR (q▸h))];exact e
def Fr.app:Fr W S (S++l):=λj o _ e=>by
 rw[akq (aj2.mp e).1];exact e
def Fr.refl:Fr W S S:=λ_ _ _ e=>e
def Fr.trans(h:Fr W S S1)(ah:Fr W S1 bh):Fr W S bh:=λj o aR e=>ah j o aR (h j o aR e)
def get_set(h:S[i]? = some o):(S.set i o')[i]? = some o':=by
 rw[akX (aj2.mp h).1]
def JA:(S++[o])[S.length]? = some o:=by rw[akk (aj0 _),alX];rfl
def set_same(h:S[i]? = some o):S.set i o=S:=by
 obtain⟨ar,e⟩:=aj2.mp h;rw[<-e,List.set_getElem_self]
end
end fA
namespace fA
open PySem PySem.Spec aE aZ kB h2 n7
structure bX where
 me:Int
 cf:Int
 h:D
 op:D
 ea:Bool
 bb:Int
 st:c3
 wi:Int
 dd:D
 cc:Str
 cZ:D
 aL:List dz
 dm:Nat
 di:D
def bX.aY(a:bX)(g:Nat):List (Str×D):=[("me",.int a.me),("epoch",.int a.cf),("hall",a.h),("opening",a.op),("over_known",.az a.ea),("greatest_round",.int a.bb),("last_stamp",bW a.st),("wishes",.int a.wi),("deed",a.dd),("standing",.str a.cc),("last_outcome",a.cZ),("grants",.ref g),("kept_mask",bH a.dm),("told_slate",a.di)]
def hG(me cf:Int)(s:c3)(k:Nat):D:=.t [.str "ask",.int me,bH k,.int cf,bW s,.t []]
def jS(me cf:Int)(s:c3)(l:D)(k:Nat):D:=.t [.str "tell",.int me,bH k,.int cf,bW s,l]
def jF:D:=.t [.t [],.t [],.t [.int 0,.aI],.aI]
def zS(me:Int)(h:D):bX:=⟨me,0,h,jF,false,0,(0,0),0,.aI,"calm",.aI,[],0,.aI⟩
structure ec(S:cG)(i g:Nat)(a:bX):Prop where
 bx:S[i]? = some (.bx "Asker" (a.aY g))
 ls:S[g]? = some (.l (a.aL.map c7))
structure ed(S S':cG)(i g g':Nat)(b:bX):Prop where
 at':ec S' i g' b
 fr:Fr [i,g] S S'
 nw:g'=g\/S.length<=g'
 len:S.length<=S'.length
def e1(S:cG)(i g:Nat)(m:N gv)(a7:gv)(c:bX):Prop:=∃S' g',bA S m a7 S'/\ed S S' i g g' c
def bX.Do(a:bX)(mf:fb)(ds ys:List D)(b:bX):Prop:=∀(S:cG)(i g:Nat),ec S i g a->∃S' g',bA S (mf (.ref i::ds)) (.fr ys) S'/\ed S S' i g g' b
section
variable{S S1 bh:cG}{Y Y':aQ}{i g g1 g2 k:Nat}{a b c:bX}{f:Str}{d:D}{mv:bg}{r:R}{bd:bf}{a7:gv}
def rJ(h:S[i]? = some o):i<S.length:=(aj2.mp h).1
def ec.ne(h:ec S i g a):i≠g:=λe=>by have:=h.bx;rw[e,h.ls]at this;cases this
def ed.refl(h:ec S i g a):ed S S i g g a:=⟨h,.refl,.inl rfl,aj0 _⟩
def ed.trans(h:ed S S1 i g g1 b)(ah:ed S1 bh i g1 g2 c):ed S bh i g g2 c:=by
 refine⟨ah.at',λj o aR e=>ah.fr j o ?_ (h.fr j o aR e),?_,alg h.len ah.len⟩
 .have:=rJ e
  simp only[aj5,ak1,or_false,not_or]at aR ⊢;rcases h.nw with q|q
  .rw[q];exact aR
  .exact⟨aR.1,by omega⟩
 .rcases ah.nw with q|q
  .rw[q];exact h.nw
  .exact .inr (alg h.len q)
def cO(h:ec S i g a)(aw:J k Y=pure (.v (.ref i)))(e:(a.aY g).lookup f=some d):aG S (bL (cD "Asker" f) (J k) Y) (.v d):=Zo h.bx (.of aw) e
def DC:(a.aY g).length<1000:=by show 14<1000;omega
theorem iC(h:ec S i g a)(b:bX)(aw:J k Y=pure (.v (.ref i)))(ev:aG S (mv Y) r)(kK:r.dat=pure d)(e:iI f d (a.aY g)=b.aY g)(f7:b.aL=a.aL)(q:∀S1,ec S1 i g b->e1 S1 i g (bd Y) a7 c):e1 S i g (bE (eS "Asker" f (J k) (c1 mv)) bd Y) a7 c:=by
 have ae:ec (S.set i (.bx "Asker" (iI f d (a.aY g)))) i g b:=⟨by rw[get_set h.bx,e],by rw[akn h.ne,f7];exact h.ls⟩;obtain⟨bh,g2,t,s⟩:=q _ ae;exact⟨bh,g2,cW (x_at ev.to kK (.of aw) h.bx DC) t,ed.trans ⟨ae,.set (by simp),.inl rfl,by rw[ak7];exact aj0 _⟩ s⟩
theorem Wa(h:ec S i g a)(b:bX)(aw:J k Y=pure (.v (.ref i)))(e:∀n,iI ("grants":Str) (D.ref n) (a.aY g)=b.aY n)(c5:b.aL=[])(q:∀S1 g1,ec S1 i g1 b->e1 S1 i g1 (bd Y) a7 c):e1 S i g (bE (eS "Asker" "grants" (J k) (kq (c1 (dh ai)))) bd Y) a7 c:=by
 have h0:(S++[gI.l []])[i]? = some (.bx "Asker" (a.aY g)):=Fr.app (W:=[]) _ _ (ak1) h.bx;have ae:ec ((S++[gI.l []]).set i (.bx "Asker" (iI ("grants":Str) (D.ref S.length) (a.aY g)))) i S.length b:=⟨by rw[get_set h0,e],by rw[akn (akj (rJ h.bx)),JA,c5];rfl⟩;obtain⟨bh,g2,t,s⟩:=q _ _ ae;exact⟨bh,g2,cW (x_at FU rfl (.of aw) h0 DC) t,ed.trans ⟨ae,Fr.app.trans (.set (by simp)),.inr (aj0 _),by rw[ak7,aj7];omega⟩ s⟩
theorem JE{ms:c8}(h:ec S i g a)(b:bX)(aw:J k Y=pure (.v (.ref i)))(ev:aG S (ms Y) [.v (c7 x)])(e:b.aY g=a.aY g)(f7:b.aL=a.aL++[x])(z:a.aL.length<1000)(q:∀S1,ec S1 i g b->e1 S1 i g (bd Y) a7 c):e1 S i g (bE (qK iL (bL (cD "Asker" "grants") (J k)) ms) bd Y) a7 c:=by
 have ae:ec (S.set g (.l (a.aL.map c7++[c7 x]))) i g b:=⟨by rw[akn h.ne.symm,e];exact h.bx,by rw[get_set h.ls,f7,akO];rfl⟩;obtain⟨bh,g2,t,s⟩:=q _ ae;exact⟨bh,g2,cW (FR (cO h aw rfl) ev h.ls (by rw[ajX];exact eQ (by omega))) t,ed.trans ⟨ae,.set (by simp),.inl rfl,by rw[ak7];exact aj0 _⟩ s⟩
def Ba(h:ec S i g a)(aw:J k Y=pure (.v (.ref i))):aG S (gN (bL (cD "Asker" "grants") (J k)) Y) (.mv (a.aL.map c7)):=zf h.ls (cO h aw rfl)
def ri{m:aX}(h:ec S i g a)(e:aG S (m Y) a7):e1 S i g (bR m Y) a7 a:=⟨S,g,e,.refl h⟩
theorem hs{t:aQ->M Bool}(e:aG S (t Y) false)(q:e1 S i g (bd Y) a7 c):e1 S i g (bE (bR (cP t m cj)) bd Y) a7 c:=by
 obtain⟨bh,g2,t,s⟩:=q;exact⟨bh,g2,xq e t,s⟩
theorem lB{t:aQ->M Bool}(e:aG S (t Y) false)(q:e1 S i g (bd Y) a7 c):e1 S i g (bE (eT (fy t) m (bR cj)) bd Y) a7 c:=by
 obtain⟨bh,g2,t,s⟩:=q;exact⟨bh,g2,k_ e t,s⟩
def tb{t:aQ->M Bool}{m:aX}{r:R}(h:ec S i g a)(e:aG S (t Y) true)(aC:aG S (m Y) (.cJ r)):e1 S i g (bE (bR (cP t m cj)) bd Y) (.cJ r) a:=⟨S,g,pw (nF e aC).to,.refl h⟩
theorem yO{t:aQ->M Bool}{m:bf}{r:R}(e:aG S (t Y) true)(q:e1 S i g (m Y) (.cJ r) c):e1 S i g (bE (eT (fy t) m (bR cj)) bd Y) (.cJ r) c:=by
 obtain⟨bh,g2,t,s⟩:=q;exact⟨bh,g2,pw (ku e t),s⟩
theorem ta{m:aX}(e:aG S (m Y) (.bj Y'))(q:e1 S i g (bd Y') a7 c):e1 S i g (bE (bR m) bd Y) a7 c:=by
 obtain⟨bh,g2,t,s⟩:=q;exact⟨bh,g2,cW (aG.to e) t,s⟩
theorem s'{ms:hF}{rs:List R}(h:ec S i g a)(q:a.Do mf (rs.map R.arg) ys c)(aw:J k Y=pure (.v (.ref i)))(aF:(a.aY g).lookup m=none)(ah:bA S (ms Y) rs S)(aj:rs.all R.jR=true):e1 S i g (k9 (fR "Asker" m mf (J k) ms) Y) (.cJ (.fr ys)) c:=by
 obtain⟨bh,g2,t,s⟩:=q _ _ _ h;exact⟨bh,g2,ag6 (sl h.bx (.of aw) aF ah aj t),s⟩
theorem h8{n N:Nat}{bd:bf}{ds ys:List D}(h:ds.length+1=n)(q:∀S i g,ec S i g a->e1 S i g (bd (.v (.ref i)::ds.map dr++akQ (N-n) .e)) (.cJ (.fr ys)) c):a.Do (fnX n N bd) ds ys c:=λS i g d7=>by
 obtain⟨bh,g2,t,s⟩:=q S i g d7;exact⟨bh,g2,ag3 h t,s⟩
end
def bX.asks(a:bX):bX:={ a with bb:=a.bb+1,st:=(a.bb+1,a.me),cc:="asking",aL:=[] }
def Bd{a:bX}{ms:List Nat}(hm:mO [a.h]=pure (.fr (ms.map bH)))(ar:ms.length<=6) :
  a.Do zA [] (ms.map (hG a.me a.cf (a.bb+1,a.me))) a.asks:=h8 rfl λS i g h=>
 iC h { a with bb:=a.bb+1 } rfl (b' rfl (cO h rfl rfl) (.of rfl)) rfl rfl rfl λS h=>
 iC h { a with bb:=a.bb+1,st:=(a.bb+1,a.me) } rfl (oR (bD (cO h rfl rfl) (bD (cO h rfl rfl) de)) rfl (akc rfl)) rfl rfl rfl λS h=>
 iC h { a with bb:=a.bb+1,st:=(a.bb+1,a.me),cc:="asking" } rfl (.of rfl) rfl rfl rfl λS h=>
 Wa h a.asks rfl (λ_=>rfl) rfl λS g h=>
 ri h (zg (ze (Dt (eP (bD (cO h rfl rfl) de) (.of hm)) rfl) (by rw[ajX];exact eQ (by omega))
  (vQ bH (hG a.me a.cf (a.bb+1,a.me)) ms λk _=>eP (bD (cO h rfl rfl) (bD (.of rfl) (bD (cO h rfl rfl) (bD (cO h rfl rfl) de)))) (.of rfl))))
def PE{S:cG}{mv:bg}{aY:List (Str×D)}{bd:bf}(h:S[i]? = some (.bx c aY))(ev:mv Y=pure (.v d))(aw:J 0 Y=pure (.v (.ref i)))(ar:aY.length<1000)(q:bA (S.set i (.bx c (iI f d aY))) (bd Y) a7 bh):bA S (bE (eS c f (J 0) (c1 mv)) bd Y) a7 bh:=cW (x_at (aG.of ev).to rfl (.of aw) h ar) q
def rD{n:Nat}(h:n.ble 999=true):n<1000:=Nat.lt_succ_of_le (akc h)
def YV(S:cG)(me:Int)(h:D)(d7:dr h=.v h):∃S',bA (S++[.bx "Asker" []]) (zz [.ref S.length,.int me,h]) (.v .aI) S'/\ec S' S.length (S.length+1) (zS me h)/\S'.length=S.length+2/\Fr [] S S':=by
 have ne:S.length+1≠S.length:=by omega
 have ap:∀{o o':gI},(S++[o])++[o']=S++[o,o']:=λ{o o'}=>by rw[amE];rfl
 have st:∀{o o':gI}{l:cG},(S++o::l).set S.length o'=S++o'::l:=λ{o o' l}=>by rw[List.set_append_right _ _ (aj0 _),alX];rfl
 have gt:∀{o:gI}{l:cG},(S++o::l)[S.length]? = some o:=λ{o l}=>by rw[akk (aj0 _),alX];rfl
 refine⟨S++[.bx "Asker" ((zS me h).aY (S.length+1)),.l []],FT (Y':=[.v (.ref S.length),.v (.int me),.v h]) rfl ?_,⟨gt,?_⟩,by rw[aj7];rfl,.app⟩
 .show bA _ (Bj [.v (.ref S.length),.v (.int me),dr h]) _ _
  rw[d7]
  repeat' (refine PE gt (by rfl) rfl (rD rfl) ?_;rw[st])
  refine cW (x_at FU rfl (.of rfl) (by rw[ap];exact gt) (rD rfl)) ?_;rw[ap,st,aj7];refine PE gt (by rfl) rfl (rD rfl) ?_;rw[st];have:=x_at (S:=S++[gI.bx "Asker" [("me",D.int me),("epoch",.int 0),("hall",h),("opening",jF),("over_known",.az false),("greatest_round",.int 0),("last_stamp",bW (0,0)),("wishes",.int 0),("deed",.aI),("standing",.str "calm"),("last_outcome",.aI),("grants",.ref (S.length+1)),("kept_mask",bH 0)],.l []]) (f:="told_slate") (mv:=c1 (aa .aI)) (Y:=[.v (.ref S.length),.v (.int me),.v h]) (mo:=J 0) (i:=S.length) (d:=.aI) (r:=.v .aI) rfl rfl (.of rfl) gt (rD rfl);rw[st]at this;exact this
 .rw[akk (by omega),Nat.add_sub_cancel_left];rfl
def fY(ag:akf x=true)(ba:akf y=true):oEq (.v (.str x)) (.v (.str y))=pure (.v (.az (x==y))):=sW (x:=.v (.str x)) (y:=.v (.str y)) ag ba
def OP(ag:akf x=true)(ba:akf y=true):d8 (.v (.str x)) (.v (.str y))=pure (.v (.az (!(x==y)))):=B2 (x:=.v (.str x)) (y:=.v (.str y)) ag ba
def qr:akf "calm"=true:=by decide +kernel
def nQ:akf "asking"=true:=by decide +kernel
def mP:akf "telling"=true:=by decide +kernel
def rY:akf "late"=true:=by decide +kernel
def bX.qX(a:bX):Prop:=a.cc="calm"\/a.cc="asking"\/a.cc="telling"
def uc{a:bX}(h:a.qX):akf a.cc=true:=by rcases h with h|h|h<;>rw[h]<;>decide +kernel
def calm_eq{a:bX}(h:a.qX):oEq (.v (.str a.cc)) (.v (.str "calm"))=pure (.v (.az (a.cc == "calm"))):=fY (uc h) qr
def Ir{a:bX}(h:a.qX):d8 (.v (.str a.cc)) (.v (.str "calm"))=pure (.v (.az (!(a.cc == "calm")))):=OP (uc h) qr
structure n5(h:D)(ms:List Nat)(ef iA:Nat->Bool):Prop where
 mem:mO [h]=pure (.fr (ms.map bH))
 len:ms.length<=6
 lt:∀k∈ms,k<6
 ne:ms≠[]
 ex:∃x y,h=.t [x,y]/\dr x=.v x/\dr y=.v y/\(∀m:Nat,j_ 12 [x,bH m]=pure (.v (.az (ef m))))/\∀m:Nat,j_ 12 [y,bH m]=pure (.v (.az (iA m)))
def bX.tells(a:bX)(t:D):bX:={ a with cc:="telling",dm:=0,di:=t }
def Y6(d:D):kf (.v d) (.v .aI)=pure (.v (.az (match d with|.aI=>true|_=>false))):=by cases d<;>rfl
def Wd{a:bX}{ms:List Nat}{s:c3}{w:D}(hm:mO [a.h]=pure (.fr (ms.map bH)))(ar:ms.length<=6)(hd:a.dd≠.aI){t:D}
  (dS:mN [w,.int a.me,.int a.wi,a.dd]=pure (.v t)) :
  a.Do rK [.t [bW s,w]] (ms.map (jS a.me a.cf a.st (.t [bW s,.int a.wi,a.dd,t]))) (a.tells t):=h8 rfl λS i g h=>
 lB (oP (cQ (b' (by rw[Y6];revert hd;cases a.dd<;>first|exact λ_=>rfl|exact λh=>absurd rfl h) (cO (d:=a.dd) h rfl rfl) (.of rfl))))<|
 iC h { a with cc:="telling" } rfl (.of rfl) rfl rfl rfl λS h=>
 iC h { a with cc:="telling",dm:=0 } rfl (.of rfl) rfl rfl rfl λS h=>
 iC h (a.tells t) rfl (eP (bD (.of rfl) (bD (cO h rfl rfl) (bD (cO h rfl rfl) (bD (cO h rfl rfl) de)))) (.of dS)) rfl rfl rfl λS h=>
 ta (iF (oR (bD (.of rfl) (bD (cO h rfl rfl) (bD (cO h rfl rfl) (bD (cO h rfl rfl) de)))) rfl (akc rfl)) rfl)<|
 ri h (zg (ze (Dt (eP (bD (cO h rfl rfl) de) (.of hm)) rfl) (by rw[ajX];exact eQ (by omega))
  (vQ bH (jS a.me a.cf a.st (.t [bW s,.int a.wi,a.dd,t])) ms λk _=>eP (bD (cO h rfl rfl) (bD (.of rfl) (bD (cO h rfl rfl) (bD (cO h rfl rfl) (bD (.of rfl) de))))) (.of rfl))))
def lC(k:Nat)(a e:Int)(s kp:c3)(w:D):D:=.t [.str "grant",bH k,.int a,.int e,bW s,.t [bW kp,w]]
def mJ(k:Nat)(a e:Int)(s:c3):D:=.t [.str "kept",bH k,.int a,.int e,bW s,.t []]
def DN(k:Nat)(a e:Int)(s p:c3):D:=.t [.str "late",bH k,.int a,.int e,bW s,.t [bW p]]
def bX.got(a:bX)(k:Nat)(kp:c3)(w:D):bX:={ a with aL:=a.aL++[⟨k,kp,w⟩] }
section
variable{a:bX}{ms:List Nat}{ef iA:Nat->Bool}(H:n5 a.h ms ef iA){k:Nat}{me e:Int}{s kp:c3}{w:D}(aV:∀g∈a.aL,g.k<6)(ar:a.aL.length<60)(aw:k<6)
def CD{a:bX}{i g:Nat}(h:ec S i g a)(aV:∀g∈a.aL,g.k<6)(ar:a.aL.length<=1000)(Y:aQ):aG S (bt oW (U (gN (bL (cD "Asker" "grants") (J 0))) ai) (.v (.ref i)::Y)) (.v (bH (maskOf (a.aL.map (·.k))))):=
 eP (bD (Ba h rfl) de) (.of (We a.aL aV ar))
include aV ar
theorem CY(h:ec S i g a):aG S (a3 (bt qi (U (bt oW (U (gN (bL (cD "Asker" "grants") (J 0))) ai)) (U (af aO (J 1) (aa (.int 1))) ai))) [.v (.ref i),.v (lC k me e s kp w)]) (fC (maskOf (a.aL.map (·.k))) k):=
 cQ (eP (bD (CD h aV (by omega) _) (bD (.of rfl) de)) (.of (CJ _ k)))
theorem XZ(q:fC (maskOf (a.aL.map (·.k))) k=true):a.Do tE [lC k me e s kp w] [] a:=h8 rfl λS i g h=>
 tb h (by have:=CY (k:=k) (me:=me) (e:=e) (s:=s) (kp:=kp) (w:=w) aV ar h;rw[q]at this;exact this) (.of rfl)
include H aw
theorem JG(h:ec S i g (a.got k kp w)):aG S (fw (a3 (bt (j_ 12) (U (af aO (bL (cD "Asker" "hall") (J 0)) (aa (.int 0))) (U (bt oW (U (gN (bL (cD "Asker" "grants") (J 0))) ai)) ai)))) [.v (.ref i),.v (lC k me e s kp w)]) (!ef (maskOf ((a.got k kp w).aL.map (·.k)))):=by
 obtain⟨x,y,jH,_,_,f1,_⟩:=H.ex;have g3:=CD h (λg h=>by
  rcases akx.mp h with h|h
  .exact aV g h
  .rw[akg.mp h];exact aw) (by show(a.aL++[_]).length<=1000;rw[aj7];show _+1<=_;omega) [.v (lC k me e s kp w)]
 exact j8 (cQ (eP (bD (b' (x:=.v (.t [x,y])) (r:=.v x) rfl (cO h rfl (by show some a.h=_;rw[jH])) (.of rfl)) (bD g3 de)) (.of (f1 _))))
theorem XW(q:fC (maskOf (a.aL.map (·.k))) k=false)(b0:ef (maskOf ((a.got k kp w).aL.map (·.k)))=false):a.Do tE [lC k me e s kp w] [] (a.got k kp w):=h8 rfl λS i g h=>
 hs (by have:=CY (k:=k) (me:=me) (e:=e) (s:=s) (kp:=kp) (w:=w) aV ar h;rw[q]at this;exact this)<|
 JE h (a.got k kp w) rfl (bD (x:=.v (c7 ⟨k,kp,w⟩)) (.of rfl) de) rfl rfl (by omega) λS h=>
 tb h (by have:=JG (me:=me) (e:=e) (s:=s) H aV ar aw h;rw[b0]at this;exact this) (.of rfl)
theorem XY{σ:List D}{t:bX}{p:dz}{ps:List dz}(f7:(a.got k kp w).aL=p::ps)(Yz:dr a.op=.v a.op)(q:fC (maskOf (a.aL.map (·.k))) k=false)(b0:ef (maskOf ((a.got k kp w).aL.map (·.k)))=true)
  (go:(a.got k kp w).Do rK [oB a.op (ly p ps)] σ t):a.Do tE [lC k me e s kp w] σ t:=by
 have aB:=Yg p ps a.op Yz (by rw[<-f7];show(a.aL++[_]).length<64;rw[aj7];show _+1 < _;omega);rw[<-f7]at aB;exact h8 rfl λS i g h=>
  hs (by have:=CY (k:=k) (me:=me) (e:=e) (s:=s) (kp:=kp) (w:=w) aV ar h;rw[q]at this;exact this)<|
  JE h (a.got k kp w) rfl (bD (x:=.v (c7 ⟨k,kp,w⟩)) (.of rfl) de) rfl rfl (by omega) λS h=>
  hs (by have:=JG (me:=me) (e:=e) (s:=s) H aV ar aw h;rw[b0]at this;exact this)<|
  s' (rs:=[.v (oB a.op (ly p ps))]) h go rfl rfl (aG.to (bD (eP (bD (Ba h rfl) (bD (cO h rfl rfl) de)) (.of aB)) de)) rfl
end
def wt:D->Bool
 |.aI=>true|_=>false
def aaX(d:D):lM (.v d) (.v .aI)=pure (.v (.az (!wt d))):=by cases d<;>rfl
def YS(j:Nat)(bu:List Nat):ke false (.v (bH j)) (.fr (bu.map bH))=pure (.v (.az (bu.contains j))):=y9 j bu
def rR{a b:Int}:d8 (.v (.int a)) (.v (.int b))=pure (.v (.az (!decide (a=b)))):=rfl
def bX.now(a:bX)(ms:List Nat)(k:Nat)(e:Int)(s:c3):Bool:=decide (e=a.cf)&&decide (s=a.st)&&ms.contains k
def Y4{a:bX}(h:ec S i g a)(H:n5 a.h ms ef iA)(w ld:D)(k:Nat)(b e:Int)(s:c3):aG S (zB [.ref i,.t [w,bH k,.int b,.int e,bW s,ld]]) (.v (.az (a.now ms k e s))):=by
 refine tm rfl ?_;have t1:aG S (a3 (af d8 (af aO (J 1) (aa (.int 3))) (bL (cD "Asker" "epoch") (J 0))) [.v (.ref i),.v (.t [w,bH k,.int b,.int e,bW s,ld])]) (!decide (e=a.cf)):=cQ (b' rR (.of rfl) (cO h rfl rfl));have dJ:aG S (a3 (af d8 (af aO (J 1) (aa (.int 4))) (bL (cD "Asker" "last_stamp") (J 0))) [.v (.ref i),.v (.t [w,bH k,.int b,.int e,bW s,ld])]) (!decide (s=a.st)):=cQ (b' (Mc s a.st) (.of rfl) (cO h rfl rfl));unfold bX.now;generalize decide (e=a.cf)=lX at *;generalize decide (s=a.st)=PC at *
 cases lX with
 |false=>exact tn (nF (Dw t1) (.of rfl))|true=>
  cases PC with
  |false=>exact tn (nF (oQ t1 dJ) (.of rfl))|true=>exact vS (rB (oQ t1 dJ) (.of rfl)) (ji (b' (YS k ms) (.of rfl) (eP (bD (cO h rfl rfl) de) (.of H.mem))))
def rX:akf "grant"=true:=by decide +kernel
def abf:akf "kept"=true:=by decide +kernel
def Lz:oEq (.v (.str "late")) (.v (.str "late"))=pure (.v (.az true)):=by rw[fY rY rY,beq_self_eq_true]
def yN:oEq (.v (.str "grant")) (.v (.str "late"))=pure (.v (.az false)):=by rw[fY rX rY];rfl
def yL:oEq (.v (.str "grant")) (.v (.str "grant"))=pure (.v (.az true)):=by rw[fY rX rX,beq_self_eq_true]
def JB:oEq (.v (.str "grant")) (.v (.str "kept"))=pure (.v (.az false)):=by rw[fY rX abf];rfl
def bX.oV(a:bX)(r:Int):bX:={ a with bb:=if r > a.bb then r else a.bb }
section
variable{a:bX}{ms:List Nat}{ef iA:Nat->Bool}{S:cG}{i g:Nat}(H:n5 a.h ms ef iA){k:Nat}{e:Int}{s kp:c3}{w:D}
def t4(h:ec S i g a)(x ld:D)(k:Nat)(e:Int)(s:c3):aG S (a3 (af d8 (af aO (J 1) (aa (.int 2))) (bL (cD "Asker" "me") (J 0))) [.v (.ref i),.v (.t [x,bH k,.int a.me,.int e,bW s,ld])]) false:=
 cQ (b' (rR.trans (by rw[decide_eq_true rfl];rfl)) (.of rfl) (cO (d:=.int a.me) h rfl rfl))
theorem X2(p:c3):a.Do mM [DN k a.me e s p] [] (a.oV p.1):=h8 rfl λS i g h=>
 hs (t4 h (.str "late") (.t [bW p]) k e s)<|yO (cQ (b' Lz (.of rfl) (.of rfl)))<|
 iC h (a.oV p.1) rfl (mI (r:=.v (.int (a.oV p.1).bb)) rfl (bD (cO h rfl rfl) (bD (.of rfl) de))) rfl rfl rfl λS h=>ri h (.of rfl)
include H
theorem wu(h:ec S i g a)(x ld:D)(k:Nat)(b e:Int)(s:c3):aG S (fw (a3 (fp "Asker" "is_for_now" zB (J 0) (U (J 1) ai))) [.v (.ref i),.v (.t [x,bH k,.int b,.int e,bW s,ld])]) (!a.now ms k e s):=
 j8 (cQ (vR h.bx (.of rfl) rfl (bD (.of rfl) de) (Y4 h H x ld k b e s)))
theorem J9(x ld:D)(ag:oEq (.v x) (.v (.str "late"))=pure (.v (.az false)))(q:a.now ms k e s=false):a.Do mM [.t [x,bH k,.int a.me,.int e,bW s,ld]] [] a:=h8 rfl λS i g h=>
 hs (t4 h x ld k e s)<|lB (cQ (b' ag (.of rfl) (.of rfl)))<|tb h (by have:=wu H h x ld k a.me e s;rw[q]at this;exact this) (.of rfl)
variable(aj:a.qX)
include aj
theorem CR(q:a.now ms k e s=true)(c:a.cc="asking"){t:bX}(g:a.Do tE [lC k a.me e s kp w] σ t):a.Do mM [lC k a.me e s kp w] σ t:=h8 rfl λS i j h=>
 hs (t4 h (.str "grant") (.t [bW kp,w]) k e s)<|lB (cQ (b' yN (.of rfl) (.of rfl)))<|
 hs (by have:=wu H h (.str "grant") (.t [bW kp,w]) k a.me e s;rw[q]at this;exact this)<|
 yO (kS (cQ (b' yL (.of rfl) (.of rfl))) (cQ (b' (by rw[fY (uc aj) nQ,c,beq_self_eq_true]) (cO h rfl rfl) (.of rfl))))<|
 s' (rs:=[.v (lC k a.me e s kp w)]) h g rfl rfl (aG.to (.of rfl)) rfl
theorem XX(q:a.now ms k e s=true)(c:a.cc≠"asking"):a.Do mM [lC k a.me e s kp w] [] a:=h8 rfl λS i j h=>
 hs (t4 h (.str "grant") (.t [bW kp,w]) k e s)<|lB (cQ (b' yN (.of rfl) (.of rfl)))<|
 hs (by have:=wu H h (.str "grant") (.t [bW kp,w]) k a.me e s;rw[q]at this;exact this)<|
 lB (kS (cQ (b' yL (.of rfl) (.of rfl))) (cQ (b' (by rw[fY (uc aj) nQ,show(a.cc == "asking")=false by simpa using c]) (cO h rfl rfl) (.of rfl))))<|
 lB (oP (cQ (b' JB (.of rfl) (.of rfl))))<|ri h (.of rfl)
end
section
variable{a:bX}{ms:List Nat}(hm:mO [a.h]=pure (.fr (ms.map bH)))(ar:ms.length<=6)
include hm ar
theorem SY(aj:a.qX)(c:a.cc≠"calm"):a.Do qh [] (ms.map (hG a.me a.cf (a.bb+1,a.me))) a.asks:=h8 rfl λS i g h=>
 hs (cQ (b' (by rw[calm_eq aj,show(a.cc == "calm")=false by simpa using c]) (cO h rfl rfl) (.of rfl)))<|s' (rs:=[]) h (Bd hm ar) rfl rfl rfl rfl
def bX.sO(a:bX)(d:D):bX:={ a with wi:=a.wi+1,dd:=d,cZ:=.aI }
theorem SV(aj:a.cc="calm")(a':a.ea=false)(hd:dr d=.v d)(nn:lM (.v d) (.v .aI)=pure (.v (.az true)))(a8:v7 [d]=pure (.v (.az true))):a.Do tB [d] (ms.map (hG a.me a.cf (a.bb+1,a.me))) (a.sO d).asks:=h8 rfl λS i g h=>by
 show e1 S i g (Bk [.v (.ref i),dr d]) _ _;rw[hd];exact hs (kS (cQ (b' nn (.of rfl) (.of rfl))) (j8 (cQ (eP (bD (x:=.v d) (.of rfl) de) (.of a8)))))<|
  hs (cQ (cO h rfl (by show some (D.az a.ea)=_;rw[a'])))<|
  hs (cQ (b' (by rw[Ir (a:=a) (.inl aj),aj,beq_self_eq_true];rfl) (cO h rfl rfl) (.of rfl)))<|
  iC h { a with wi:=a.wi+1 } rfl (b' rfl (cO h rfl rfl) (.of rfl)) rfl rfl rfl λS h=>
  iC h { a with wi:=a.wi+1,dd:=d } rfl (.of rfl) rfl rfl rfl λS h=>
  iC h (a.sO d) rfl (.of rfl) rfl rfl rfl λS h=>
  s' (rs:=[]) h (Bd (a:=a.sO d) hm ar) rfl rfl rfl rfl
end
abbrev jz:=fI.κ.toKeyOrd
structure c9 where
 cs:qW
 ds:List (Int×D)
 f:Int
 t:D
 c0:D
def c9.D(s:c9):aZ.D:=.t [.t (s.cs.map (·.2)),.t (s.ds.map (·.2)),.t [.int s.f,s.t],s.c0]
inductive g6 where
 |put (a:List Nat) (n:Int)|add (a:List Nat) (n:Int)
def g6.D:g6->aZ.D
 |.put a n=>.t [.str "put",.str (cE a),.int n]|.add a n=>.t [.str "add",.str (cE a),.int n]
def ko:Option g6->aZ.D
 |none=>.aI|some d=>d.D
def c9.cell(s:c9)(a:List Nat):Int:=ma (e4 (Q:=d3) s.cs a)
def c9.put(s:c9)(a:List Nat)(n:Int):c9:={ s with cs:=jt s.cs a n }
def mQ(s:c9)(i:Int):g6->c9×aZ.D
 |.put a n=>(s.put a n,.int (s.cell a))
 |.add a n=>(s.put a (s.cell a+n),.int (s.cell a+n))
structure fW(G:aZ.D->Prop)(W:List (List Nat))(s:c9):Prop where
 row:∀x∈s.cs,jx x
 rise:kF d3 s.cs
 nm:∀x∈s.cs,x.1∈W
 num:∀x∈s.ds,qU x
 oh:kF jz s.ds
 dR:∀x∈s.ds,0<=x.1/\x.1<6
 fK:s.t=.aI\/∃i:Int,s.t=.int i
 c0:s.c0=.aI\/s.c0=.str "over"\/(∃xs,s.c0=.t xs)/\G s.c0
 u5:∀x∈s.ds,aZ.Ok 2 x.2
def n3(G:aZ.D->Prop)(W:List (List Nat)):g6->Prop
 |.put a _=>kG a/\a∈W|.add a _=>kG a/\a∈W
def aeM{z:Int}(h0:0<=z)(eA:z<6):z∈([0,1,2,3,4,5]:List Int):=by
 have e:z=0\/z=1\/z=2\/z=3\/z=4\/z=5:=by omega
 rcases e with e|e|e|e|e|e<;>rw[e]<;>simp
section
variable{G:aZ.D->Prop}{W:List (List Nat)}{s:c9}(h:fW G W s)
include h
theorem fW.cl:s.cs.length<=W.length:=by
 have:=anG (l₂:=W) h.rise.nodup λx ag=>by
  obtain⟨y,ba,rfl⟩:=akV.mp ag;exact h.nm y ba
 rwa[ajX]at this
theorem fW.dl:s.ds.length<=6:=by
 have:=anG (l₂:=([0,1,2,3,4,5]:List Int)) h.oh.nodup λx ag=>by
  obtain⟨y,ba,rfl⟩:=akV.mp ag;exact aeM (h.dR y ba).1 (h.dR y ba).2
 rw[ajX]at this;exact this
theorem fW.b8:s.t.bS 63=true:=by rcases h.fK with e|⟨i,e⟩<;>rw[e]<;>rfl
theorem abF(eO:W.length<63)(i:Int)(hd:n3 G W d):nM [s.D,.int i,d.D]=pure (.v (.t [(mQ s i d).1.D,(mQ s i d).2])):=by
 have ar:s.cs.length<63:=by have:=h.cl;omega
 have b8:=h.b8;obtain⟨cs,ds,f,t,c0⟩:=s
 cases d with
 |put a n=>exact abK h.row h.rise ar _ _ _ hd.1 n i|add a n=>exact abJ h.row h.rise ar _ _ _ hd.1 n i
end
def c9.last(s:c9)(i:Int):Int:=qo (e4 (Q:=jz) s.ds i)
def h9(s:c9)(i n:Int):Option g6->c9
 |none=>s|some d=>if(wt s.c0)=true/\s.last i<n then{ (mQ s i d).1 with ds:=k0 (Q:=jz) s.ds (i,.t [.int i,.int n,(mQ s i d).2]) }else s
def abE(s:c9)(i:Int)(d:g6):(mQ s i d).1.ds=s.ds:=by
 cases d<;>rfl
section
variable{G:aZ.D->Prop}{W:List (List Nat)}{s:c9}(h:fW G W s)
include h
theorem abI(i:Int)(d:g6):dr (mQ s i d).2=.v (mQ s i d).2:=by
 cases d<;>rfl
theorem I0(eO:W.length<63)(i n:Int)(hd:∀x,d=some x->n3 G W x):mN [s.D,.int i,.int n,ko d]=pure (.v (h9 s i n d).D):=by
 cases d with
 |none=>exact I3 h.num _ _ _ i n .aI rfl (.inl rfl)|some d=>
  have hd:=hd d rfl;unfold h9;dsimp only;have eI:∃xs,d.D=.t xs:=by cases d<;>exact⟨_,rfl⟩
  obtain⟨xs,eI⟩:=eI
  by_cases c:(wt s.c0)=true/\s.last i<n
  .rw[if_pos c]
   have d5:=abF h eO i hd;have df:=abE s i d;have os:=abI h i d;have y2:s.c0=.aI:=by
    rcases h.c0 with e|e|⟨⟨xs,e⟩,_⟩
    .exact e
    .rw[e]at c;cases c.1
    .rw[e]at c;cases c.1
   have vz:=h.dl;have Yt:=h.oh.nodup;have Yw:=h.num;generalize mQ s i d=o at *;obtain⟨⟨TS,nk,ra,t',sh'⟩,v⟩:=o;obtain⟨cs,ds,f,t,c0⟩:=s;dsimp only at df os y2 d5 vz ⊢;subst df y2;show mN [_,_,_,d.D]=_;unfold c9.D at d5 ⊢;dsimp only at d5 ⊢;rw[eI]at d5 ⊢;have av:=Vm Yw (.t (cs.map (·.2))) (.t [.int f,t]) i n xs c.2 (show nk.length<63 by omega) Yt (c':=.t (TS.map (·.2))) (le':=.t [.int ra,t']) (sh':=sh') (v:=v);exact av d5 os
  .rw[if_neg c]
   show mN [_,_,_,d.D]=_;rw[eI];refine I3 h.num _ _ _ i n (.t xs) rfl (.inr ⟨⟨_,rfl⟩,?_⟩);rcases h.c0 with e|e|⟨⟨zs,e⟩,_⟩
   .refine .inr (.inr ⟨e,?_⟩)
    rw[e]at c;have:¬s.last i<n:=λz=>c ⟨rfl,z⟩
    unfold c9.last at this;omega
   .exact .inl e
   .exact .inr (.inl ⟨zs,e⟩)
end
section
variable{G:aZ.D->Prop}{W:List (List Nat)}{s:c9}(h:fW G W s)
include h
theorem fW.put(ak:kG a)(hw:a∈W)(n:Int):fW G W (s.put a n) where
 row:=agb h.row ak n
 rise:=aga h.rise a n
 nm:=λx ag=>by
  have ag:x∈jt s.cs a n:=ag;unfold jt at ag;split at ag
  .exact h.nm x ((sU (Q:=d3)).mp ag).1
  .rcases(t7 (Q:=d3)).mp ag with⟨ag,_⟩|rfl
   .exact h.nm x ag
   .exact hw
 num:=h.num
 oh:=h.oh
 dR:=h.dR
 fK:=h.fK
 c0:=h.c0
 u5:=h.u5
theorem abG(i:Int)(hd:n3 G W d):fW G W (mQ s i d).1:=by
 cases d with
 |put a n=>exact h.put hd.1 hd.2 n|add a n=>exact h.put hd.1 hd.2 _
theorem abD(i:Int)(d:g6):aZ.Ok 1 (mQ s i d).2:=by
 cases d<;>exact ij
theorem I1{i:Int}(h0:0<=i)(eA:i<6)(n:Int)(hd:∀x,d=some x->n3 G W x):fW G W (h9 s i n d):=by
 cases d with
 |none=>exact h|some d=>
  have o:=abG h i (hd d rfl);unfold h9;dsimp only;split
  .refine⟨o.row,o.rise,o.nm,?_,?_,?_,o.fK,o.c0,?_⟩
   .exact aa1 h.num i n _
   .exact EP _ h.oh.nodup
   .intro x ag
    rcases(t7 (Q:=jz)).mp ag with⟨ag,_⟩|rfl
    .exact h.dR x ag
    .exact⟨h0,eA⟩
   .intro x ag
    rcases(t7 (Q:=jz)).mp ag with⟨ag,_⟩|rfl
    .exact h.u5 x ag
    .exact Ep ij ij (abD h i d)
  .exact h
theorem fW.ok(eO:W.length<=1000)(p2:∀z,G z->aZ.Ok 9 z):aZ.Ok 10 s.D:=by
 have aD:=h.cl;have hd:=h.dl;refine aa8 (n:=9) (qs (n:=3) (o_ (n:=2) (by rw[ajX];omega) λx ag=>?_) (by decide)) (qs (n:=3) (o_ (n:=2) (by rw[ajX];omega) λx ag=>?_) (by decide)) (qs (n:=1) (qq ij ?_) (by decide)) ?_
 .obtain⟨y,ba,rfl⟩:=akV.mp ag
  obtain⟨w,n,_,e⟩:=h.row y ba;rw[e];exact qs (n:=1) (qq (tX w.1) ij) (by decide)
 .obtain⟨y,ba,rfl⟩:=akV.mp ag
  exact h.u5 y ba
 .rcases h.fK with e|⟨i,e⟩
  .rw[e];exact rZ
  .rw[e];exact ij
 .rcases h.c0 with e|e|⟨_,g⟩
  .rw[e];exact rZ
  .rw[e];exact tX (by decide +kernel)
  .exact p2 _ g
end
abbrev eV(k:Nat):List Key:=[.inl (k:Nat),.inl 0]
def lN(pr kp:c3)(w:D):D:=.t [bW pr,bW kp,w]
def iG(aq:List (List Key×D))(k:Nat):D:=(iQ aq (eV k)).getD (lN (0,0) (0,0) .aI)
def Z3{S:cG}(h:S[i]? = some (.eI aq))(k:Nat):aG S (tJ [.ref i,bH k,.int 0]) (.v (iG aq k)):=
 tm rfl (ji (Zu h (.of rfl) (.of rfl) (.of rfl) rfl (akc rfl)))
def cmp_gt(s t:c3):o7 gT (.v (bW s)) (.v (bW t))=pure (.v (.az (fc s t))):=by
 show pure (R.v (.az (gT [s.1,s.2] [t.1,t.2])))=_;rw[Lw]
def Z9(s t:c3):iX [s.1,s.2] [t.1,t.2] = !fc t s:=by
 unfold iX fc;rw[rF,rF]
 by_cases bk:s.1=t.1
 .rw[if_pos bk,bk]
  by_cases b0:s.2=t.2
  .rw[if_pos b0,b0]
   simp[nH]
  .rw[if_neg b0,alo];simp
 .rw[if_neg bk,alo]
  simp;omega
def IE(s t:c3):o7 iX (.v (bW s)) (.v (bW t))=pure (.v (.az (!fc t s))):=by
 show pure (R.v (.az (iX [s.1,s.2] [t.1,t.2])))=_;rw[Z9]
def wC:akf "ask"=true:=by decide +kernel
def z0:akf "tell"=true:=by decide +kernel
def Gp:oEq (.v (.str "ask")) (.v (.str "ask"))=pure (.v (.az true)):=by rw[fY wC wC,beq_self_eq_true]
def QC:oEq (.v (.str "ask")) (.v (.str "tell"))=pure (.v (.az false)):=by rw[fY wC z0];rfl
def O3:oEq (.v (.str "tell")) (.v (.str "ask"))=pure (.v (.az false)):=by rw[fY z0 wC];rfl
def Pd:oEq (.v (.str "tell")) (.v (.str "tell"))=pure (.v (.az true)):=by rw[fY z0 z0,beq_self_eq_true]
section
variable{aq:List (List Key×D)}{k:Nat}{me:Int}{s pr kp:c3}{w:D}(aH:iG aq k=lN pr kp w)
include aH
variable{S:cG}{i:Nat}(aB:S[i]? = some (.eI aq))
include aB
theorem wI{av aC c4:bg}(h0:c4 Y=pure (.v (.ref i)))(ae:av Y=pure (.v (bH k)))(ah:aC Y=pure (.v (.int 0))):aG S (bt tJ (U c4 (U av (U aC ai))) Y) (.v (lN pr kp w)):=
 eP (bD (.of h0) (bD (.of ae) (bD (.of ah) de))) (aH▸Z3 aB k)
theorem J_(hz:aq.length<1000)(iy:fc s pr=true):bA S (oY [.ref i,hG me 0 s k]) (.v (lC k me 0 s kp w)) (S.set i (.eI (gz aq (eV k) (lN s kp w)))):=
 pv rfl (cW (aG.to (qc (.of rfl) rfl)) (cW (aG.to (qc (wI aH aB rfl rfl rfl) rfl)) (pw (ku (aG.to (kS (cQ (b' Gp (.of rfl) (.of rfl))) (cQ (b' ((cmp_gt s pr).trans (by rw[iy])) (.of rfl) (.of rfl))))) (cW (PG (k:=eV k) rfl rfl (.of rfl) (.of rfl) aB rfl ⟨akc rfl,hz⟩) rfl)))))
theorem X4(iy:fc s pr=false):bA S (oY [.ref i,hG me 0 s k]) (.v (DN k me 0 s pr)) S:=
 pv rfl (cW (aG.to (qc (.of rfl) rfl)) (cW (aG.to (qc (wI aH aB rfl rfl rfl) rfl)) (k_ (aG.to (kS (cQ (b' Gp (.of rfl) (.of rfl))) (cQ (b' ((cmp_gt s pr).trans (by rw[iy])) (.of rfl) (.of rfl))))) (k_ (aG.to (oP (cQ (b' QC (.of rfl) (.of rfl))))) rfl))))
variable{b n dd t:D}
theorem J'(hz:aq.length<1000)(iy:fc pr s=false):bA S (oY [.ref i,jS me 0 s (.t [b,n,dd,t]) k]) (.v (mJ k me 0 s)) (S.set i (.eI (gz aq (eV k) (lN s s t)))):=
 pv rfl (cW (aG.to (qc (.of rfl) rfl)) (cW (aG.to (qc (wI aH aB rfl rfl rfl) rfl)) (k_ (aG.to (oP (cQ (b' O3 (.of rfl) (.of rfl))))) (pw (ku (aG.to (kS (cQ (b' Pd (.of rfl) (.of rfl))) (cQ (b' ((IE s pr).trans (by rw[iy];rfl)) (.of rfl) (.of rfl))))) (cW (PG (k:=eV k) rfl rfl (.of rfl) (.of rfl) aB rfl ⟨akc rfl,hz⟩) rfl))))))
theorem Ka(iy:fc pr s=true):bA S (oY [.ref i,jS me 0 s (.t [b,n,dd,t]) k]) (.v (DN k me 0 s pr)) S:=
 pv rfl (cW (aG.to (qc (.of rfl) rfl)) (cW (aG.to (qc (wI aH aB rfl rfl rfl) rfl)) (k_ (aG.to (oP (cQ (b' O3 (.of rfl) (.of rfl))))) (k_ (aG.to (kS (cQ (b' Pd (.of rfl) (.of rfl))) (cQ (b' ((IE s pr).trans (by rw[iy];rfl)) (.of rfl) (.of rfl))))) rfl))))
end
def I4(aq:List (List Key×D))(k:List Key)(d:D):(gz aq k d).length<=aq.length+1:=by
 unfold gz;split
 .rw[ajX];omega
 .rw[aj7];exact aj0 _
def Vq{k j:List Key}(h:j≠k)(d:D):∀aq:List (List Key×D),iQ (gz aq k d) j=iQ aq j:=by
 intro aq;unfold gz iQ;split
 .rename_i mq
  clear mq
  induction aq with
  |nil=>rfl|cons p aq a6=>
   rw[aj8]
   by_cases c:p.1=k
   .rw[if_pos c,akS (by simpa using λz=>h (z.symm.trans c)),akS (by simpa using λz=>h (z.symm.trans c))]
    exact a6
   .rw[if_neg c]
    by_cases af:p.1=j
    .rw[ak3 (by simpa using af),ak3 (by simpa using af)]
    .rw[akS (by simpa using af),akS (by simpa using af)]
     exact a6
 .rw[List.find?_append]
  cases e:aq.find? λkv=>decide (kv.1=j)with
  |none=>rw[akS (by simpa using amT h)];rfl|some x=>rfl
def ZN{j k:Nat}(h:j≠k):eV j≠eV k:=λz=>h (by injection z with z;injection z with z;omega)
def MF{j k:Nat}(h:j≠k)(aq:List (List Key×D))(d:D):iG (gz aq (eV k) d) j=iG aq j:=by unfold iG;rw[Vq (ZN h)]
end fA
namespace fA
open PySem PySem.Spec aE aZ
def F1{xs:List D}{i:Nat}{d:D}(h:(i4 xs xs)[i]? = some d):∃x,xs[i]? = some x/\d=.t [x,x]:=by
 unfold i4 at h;rw[aku]at h
 cases e:(xs.zip xs)[i]? with
 |none=>rw[e]at h;cases h
 |some p=>
  rw[e]at h;cases h;obtain⟨a,b⟩:=amY.mp e;rw[a]at b;exact⟨p.1,a,by show D.t [p.1,p.2]=_;rw[<-akv b]⟩
def jo{t:aQ->M Bool}{a b:aX}(e:t Y=pure false):b4 (cP t a cj) b Y=b Y:=eK (oI e)
def xU{a b:bg}{r:M R}(e:a Y=pure (.v (.az true)))(aC:b Y=r):j1 a b Y=r:=by show(a Y >>= _)=_;rw[e];exact aC
def Oy(n:Nat):gb (n+1) [.aI,.aI]=pure (.v (.az true)):=j4 rfl ((jo (dB rfl)).trans (r6 ((lH (dB rfl)).trans (jP rfl))))
def Ow(n:Nat)(b:Bool):gb (n+1) [.az b,.az b]=pure (.v (.az true)):=j4 rfl ((jo (dB rfl)).trans ((jo (dB rfl)).trans (r6 ((lH (dB rfl)).trans (jP (xU rfl (bZ (VD b) rfl rfl)))))))
def same_int(n:Nat)(i:Int):gb (n+1) [.int i,.int i]=pure (.v (.az true)):=j4 rfl ((jo (dB rfl)).trans ((jo (dB rfl)).trans ((jo (dB rfl)).trans (r6 ((lH (dB rfl)).trans (jP (xU rfl (xU rfl (bZ (nq.trans (by rw[decide_eq_true rfl])) rfl rfl)))))))))
def same_str(n:Nat)(h:akf x=true):gb (n+1) [.str x,.str x]=pure (.v (.az true)):=j4 rfl ((jo (dB rfl)).trans ((jo (dB rfl)).trans ((jo (dB rfl)).trans ((jo (dB rfl)).trans (jP (xU rfl (bZ (eq_str h) rfl rfl)))))))
def Ma(b:Bool):d8 (.v (.az b)) (.v (.az b))=pure (.v (.az false)):=by cases b<;>rfl
def Jm{is:List Nat}{ms:c8}(av:ms Y=pure rs)(hz:uv rs=some ds)(e:ha (qD is b) ds Y=pure (.bj Y')):sS is ms b Y=pure (.bj Y'):=by
 show(ms Y >>= _)=_;rw[av];show(match uv rs with|some ds=>ha (qD is b) ds Y|none=>bad)=_;rw[hz];exact e
def Ox(n:Nat)(s:Slot)(h:∀x∈xs,gb n [x,x]=pure (.v (.az true))):∃Y',ha (qD [2,3] (DH (gb n))) (i4 xs xs) [s,s,.e,.e]=pure (.bj Y'):=by
 obtain⟨Y',e,s2,s3,rfl⟩:=vh (b:=qD [2,3] (DH (gb n))) (ds:=i4 xs xs) (Y:=[s,s,.e,.e])
  (λi Y=>∃s2 s3,Y=[s,s,s2,s3]) ⟨_,_,rfl⟩ (λi d Y ag ⟨s2,s3,ay⟩=>by
   subst ay;obtain⟨x,C_,rfl⟩:=F1 ag;exact⟨_,.inl (oI (Y:=[s,s,.v x,.v x]) (zT (dB (call_of (rs:=[.v x,.v x]) rfl (h x (akL C_)))))),_,_,rfl⟩)
 exact⟨_,e⟩
def same_refl:∀(n:Nat)(d:D),Ok n d->gb (n+1) [d,d]=pure (.v (.az true)):=by
 intro n
 induction n with
 |zero=>
  intro d h
  cases d with
  |aI=>exact Oy 0|az b=>exact Ow 0 b|int i=>exact same_int 0 i|str x=>exact same_str 0 h.1| _=>exact absurd h.1 (by intro z;cases z)
 |succ n a6=>
  intro d h;have parts:∀xs:List D,iB xs n=true->(decide (xs.length<=1000)&&pq xs)=true->(∀x∈xs,gb (n+1) [x,x]=pure (.v (.az true))):=λxs ae ah=>by
   rw[akE]at ah;exact λx ag=>a6 x ⟨yJ.mp ae x ag,AF.mp ah.2 x ag⟩
  cases d with
  |aI=>exact Oy _|az b=>exact Ow _ b|int i=>exact same_int _ i|str x=>exact same_str _ h.1|t xs=>
   obtain⟨Y',S⟩:=Ox (n+1) (.v (.t xs)) (parts xs h.1 h.2);exact j4 rfl (r6 ((lH (dB rfl)).trans ((jo ((t2 (zT (dB rfl))).trans (dB (bZ (Ma true) rfl rfl)))).trans ((jo (dB (bZ (rR.trans (by rw[decide_eq_true rfl];rfl)) rfl rfl))).trans ((eK (Jm (cons_of rfl rfl) rfl S)).trans (jP rfl))))))
  |l xs=>
   obtain⟨Y',S⟩:=Ox (n+1) (.cu xs) (parts xs h.1 h.2);exact j4 rfl (r6 ((lH (dB rfl)).trans ((jo ((t2 (zT (dB rfl))).trans (dB (bZ (Ma false) rfl rfl)))).trans ((jo (dB (bZ (rR.trans (by rw[decide_eq_true rfl];rfl)) rfl rfl))).trans ((eK (Jm (cons_of rfl rfl) rfl S)).trans (jP rfl))))))
  |_=>exact absurd h.1 (by intro z;cases z)
def BJ(ns:List Int)(k:Nat):oX [.l (ns.map D.int),.int (k:Nat)]=pure (.v (.int (ns.getD k 0))):=by
 simp only[oX,Hl,Hm]
 by_cases h:k<ns.length
 .simp[h,QD h]
 .simp[h]
end fA
namespace kB
mutual
def hV(s:Nat):aN->aN
 |.kp k=>.kp ((k+s) % 6)|.ch k ps=>.ch k (kl s ps)
def kl(s:Nat):List aN->List aN
 |[]=>[]
 |r::rs=>hV s r::kl s rs
end
theorem Fx(s:Nat):∀ps:List aN,kl s ps=ps.map (hV s)
 |[]=>rfl| r::rs=>by rw[aj8,<-Fx s rs];rfl
def afK(s k:Nat)(ps:List aN):hV s (.ch k ps)=.ch k (ps.map (hV s)):=by rw[<-Fx];rfl
def afJ(s:Nat)(ps:List aN):(kl s ps).length=ps.length:=by rw[Fx,ajX]
mutual
theorem O_(s:Nat):∀r:aN,(hV s r).deep=r.deep
 |.kp _=>rfl| .ch k ps=>by show aN.md (kl s ps)+1=aN.md ps+1;rw[O7 s ps]
theorem O7(s:Nat):∀ps:List aN,aN.md (kl s ps)=aN.md ps
 |[]=>rfl| r::rs=>by show max (hV s r).deep (aN.md (kl s rs))=max r.deep (aN.md rs);rw[O_ s r,O7 s rs]
end
mutual
theorem Pa(s:Nat):∀r:aN,(hV s r).names.length=r.names.length
 |.kp _=>rfl| .ch k ps=>by show(aN.d_ (kl s ps)).length=(aN.d_ ps).length;rw[O8 s ps]
theorem O8(s:Nat):∀ps:List aN,(aN.d_ (kl s ps)).length=(aN.d_ ps).length
 |[]=>rfl| r::rs=>by show((hV s r).names++aN.d_ (kl s rs)).length=(r.names++aN.d_ rs).length;rw[aj7,aj7,Pa s r,O8 s rs]
end
mutual
theorem Pb(s:Nat):∀r:aN,r.wf->(hV s r).wf
 |.kp k,_=>Nat.mod_lt _ (by decide)|.ch k ps,h=>by
  have h':1<=k/\k<=ps.length/\ps.length<=6/\aN.ju ps:=h;show 1<=k/\k<=(kl s ps).length/\(kl s ps).length<=6/\aN.ju (kl s ps);rw[afJ];exact⟨h'.1,h'.2.1,h'.2.2.1,O9 s ps h'.2.2.2⟩
theorem O9(s:Nat):∀ps:List aN,aN.ju ps->aN.ju (kl s ps)
 |[],_=>trivial|r::rs,h=>⟨Pb s r h.1,O9 s rs h.2⟩
end
end kB
namespace fA
open PySem PySem.Spec aE aZ kB h2 n7
theorem DR:∀(n:Nat)(r:aN),r.deep<n->r.names.length<=1000->∃o,oZ n [enc r]=pure o/\o.own=some (r.names.map bH)
 |0,r,h,_=>absurd h (amz _)|n+1,.kp k,h,_=>by
  refine⟨.fr [bH k],?_,rfl⟩;simp only[oZ,x3,q_];simp[lL]
 |n+1,.ch k ps,h,ar=>by
  simp only[aN.deep]at h;simp only[aN.names]at ar ⊢;have dl:=q7 (ps:=ps) (n:=n) (by omega);refine⟨.v (.l ((aN.d_ ps).map bH)),?_,rfl⟩;rw[pX];obtain⟨Y',e,s2,rfl⟩:=vh (b:=λd Y=>DG (oZ n) (Y.set 2 (.v d))) (ds:=ps.map enc) (Y:=[.v (.t [.int (k:Nat),.t (ps.map enc)]),.v (.l []),.e])
   (λi Y=>∃s2,Y=[.v (.t [.int (k:Nat),.t (ps.map enc)]),.v (.l ((aN.d_ (ps.take i)).map bH)),s2]) ⟨_,rfl⟩ (λi d Y hd ⟨s2,ay⟩=>by
    subst ay;obtain⟨r,aA,rfl⟩:=D6 hd;have hm:=akL aA;refine⟨_,.inl (?_:_=pure (gv.bj [.v (.t [.int (k:Nat),.t (ps.map enc)]),.v (.l ((aN.d_ (ps.take (i+1))).map bH)),.v (enc r)])),_,rfl⟩;have bM:=take_snoc aA;have le:(aN.d_ (ps.take (i+1))).length<=1000:=by
     have:aN.d_ ps=aN.d_ (ps.take (i+1))++aN.d_ (ps.drop (i+1)):=by rw[<-wh,List.take_append_drop]
     rw[this,aj7]at ar;omega
    rw[bM,wh]at le ⊢;rw[show aN.d_ [r]=r.names from ak6 _]at le ⊢;rw[aj7]at le;obtain⟨o,a6,a'⟩:=DR n r (dl r hm) (by omega);have z:(aN.d_ (ps.take i)).length+r.names.length<=aj3:=ak8 (eQ (by omega));simp only[DG];simp[a6,a',z])
  rw[ajX,ank]at e;simp only[oZ,x3,HF,HG,HH];simp[e]
def DP{a k:aN}(ak:Good a)(aw:Good k):tH [dT a k]=pure (.fr ((dG a k).map bH)):=by
 obtain⟨hv,av,ae⟩:=DR 6 a (by have:=ak.2.1;omega) (by have:=ak.2.2;omega);obtain⟨jk,aC,ah⟩:=DR 6 k (by have:=aw.2.1;omega) (by have:=aw.2.2;omega);have z:a.names.length+k.names.length<=aj3:=ak8 (eQ (by have:=ak.2.2;have:=aw.2.2;omega));have FZ:6<aj3:=eQ (by decide);have b5:ih hv jk=pure (.fr ((a.names++k.names).map bH)):=by
  unfold ih;rw[ae,ah];simp[z]
 have c:fX (a3 (af (ke false) (J 0) (J 1))) (J 0) [.e,.v (.l ((a.names++k.names).map bH))] ((akG 6).map bH)=pure ((dG a k).map bH):=
  mb bH (λj=>(a.names++k.names).contains j) bH _ (λj _=>by
   have q:=y9 j (a.names++k.names);generalize(a.names++k.names).map bH=L at q ⊢;generalize(a.names++k.names).contains j=B at q ⊢;simp[q]) λj _ _=>by simp
 unfold dT;simp only[tH,Hy,Hz];generalize(a.names++k.names).map bH=L at b5 c;generalize ih=ah2 at b5 ⊢;simp[av,aC,b5,Ni,FZ,c]
theorem DS(s:Nat):∀(n:Nat)(r:aN),r.deep<n->r.wf->nL n [enc r,.int (s:Nat)]=pure (.v (enc (hV s r)))
 |0,r,h,_=>absurd h (amz _)|n+1,.kp k,h,hw=>by
  simp only[nL,x4,q_,hV];simp
 |n+1,.ch k ps,h,hw=>by
  simp only[aN.deep]at h;simp only[aN.wf]at hw;have dl:=q7 (ps:=ps) (n:=n) (by omega);have wl:=xl.mp hw.2.2.2;rw[pX];have c:fX gr (bt (nL n) (U (J 0) (U (J 1) ai))) [.e,.v (.int (s:Nat))] (ps.map enc)=pure (ps.map (enc∘hV s)):=
   q4 enc _ ps (λr aA=>by simp[DS s n r (dl r aA) (wl r aA)])
  have z:ps.length<aj3:=eQ (by omega);rw[afK,pX,amM];generalize ps.map (enc∘hV s)=σ at c ⊢;simp only[nL,x4,HL];generalize nL n=F at c ⊢;have xu:(ps.map enc).length<aj3:=by rw[ajX];exact z
  generalize ps.map enc=Z at c xu ⊢;simp[c,xu]
def O'{r:aN}(h:Good r):Good (hV s r):=⟨Pb s r h.1,by rw[O_];exact h.2.1,by rw[Pa];exact h.2.2⟩
def sb:aN:=.ch 2 [.kp 0,.kp 1,.kp 2]
def rws:aN:=.ch 1 [.ch 2 [.kp 0,.kp 1],.ch 2 [.kp 2,.kp 3]]
def cols:aN:=.ch 2 [.ch 1 [.kp 0,.kp 1],.ch 1 [.kp 2,.kp 3]]
def fH:List (aN×aN):=[(sb,sb),(.kp 0,.kp 0),(.ch 1 [.kp 0,.kp 1,.kp 2],.ch 3 [.kp 0,.kp 1,.kp 2]),(.ch 3 [.kp 0,.kp 1,.kp 2],.ch 1 [.kp 0,.kp 1,.kp 2]),
 (rws,cols),(cols,rws),(.ch 3 [.kp 0,.kp 1,.kp 2,.kp 3,.kp 4],.ch 3 [.kp 4,.kp 3,.kp 2,.kp 1,.kp 0]),
 (.ch 2 [.kp 0,.kp 0,.kp 1,.kp 2],.ch 3 [.kp 0,.kp 0,.kp 1,.kp 2]),(.ch 2 [.kp 0,.kp 1],.ch 1 [.kp 0,.kp 1]),
 (.ch 2 [.kp 0,.ch 1 [.kp 1,.kp 2]],.ch 1 [.kp 0,.ch 2 [.kp 1,.kp 2]])]
def gE(p:aN×aN):D:=dT p.1 p.2
def Yp:∀p∈fH,Good p.1/\Good p.2:=by
 simp only[fH,alq,sb,rws,cols,Good];simp[aN.wf,aN.ju,aN.deep,aN.md,aN.names,aN.d_]
def Wx(c:Int):Bt [.v (.int c),.e,.e,.e,.e,.e,.e]=x2 [.v (.int c),.v (enc sb),.v (enc rws),.v (enc cols),.v (.l (fH.map gE)),.e,.e]:=by
 have z:∀{xs ys:List D},xs.length+ys.length<=10->xs.length+ys.length<=aj3:=λh=>ak8 (eQ (by omega))
 have e:fH.map gE=(fH.take 4).map gE++((fH.drop 4).take 3).map gE++((fH.drop 7).take 2).map gE++(fH.drop 9).map gE:=rfl;rw[e];exact(eK (fj (d:=enc sb) rfl)).trans ((eK (fj (d:=enc rws) rfl)).trans ((eK (fj (d:=enc cols) rfl)).trans ((eK (ub (r:=.fr ((fH.take 4).map gE)) (d:=.l ((fH.take 4).map gE)) rfl rfl)).trans ((eK (ub (bZ (BI (xs:=(fH.take 4).map gE) (ys:=((fH.drop 4).take 3).map gE) (z (akc rfl))) rfl rfl) rfl)).trans ((eK (ub (bZ (BI (xs:=(fH.take 4).map gE++((fH.drop 4).take 3).map gE) (ys:=((fH.drop 7).take 2).map gE) (z (akc rfl))) rfl rfl) rfl)).trans (eK (ub (bZ (BI (xs:=(fH.take 4).map gE++((fH.drop 4).take 3).map gE++((fH.drop 7).take 2).map gE) (ys:=(fH.drop 9).map gE) (z (akc rfl))) rfl rfl) rfl)))))))
def Z2(c:Int):∃a k,v9 [.int c]=pure (.v (dT a k))/\Good a/\Good k:=by
 have aje:=mod_lt (a:=c) (b:=10) (by decide);have eA:=mod_lt (a:=c / 10) (b:=6) (by decide);obtain⟨i,aB,ar⟩:∃i:Nat,c % 10=(i:Nat)/\i<10:=⟨(c % 10).toNat,by omega,by omega⟩;obtain⟨s,aj⟩:∃s:Nat,c / 10 % 6=(s:Nat):=⟨(c / 10 % 6).toNat,by omega⟩;obtain⟨p,aH⟩:∃p,fH[i]? = some p:=⟨_,akF (show i<fH.length from ar)⟩;obtain⟨ga,mm⟩:=Yp p (akL aH);refine⟨hV s p.1,hV s p.2,?_,O' ga,O' mm⟩;have t1:=DS s 6 p.1 (by have:=ga.2.1;omega) ga.1;have dJ:=DS s 6 p.2 (by have:=mm.2.1;omega) mm.1;have gR:aO (.v (.l (fH.map gE))) (.v (.int (i:Nat)))=pure (.v (gE p)):=by
  show(match eo (fH.map gE) (i:Int)with|some v=>pure (R.v v)|none=>bad)=_;rw[pR (v:=gE p) i (by rw[aku,aH];rfl)]
 have uO:x2 [.v (.int c),.v (enc sb),.v (enc rws),.v (enc cols),.v (.l (fH.map gE)),.e,.e]=pure (.cJ (.v (dT (hV s p.1) (hV s p.2)))):=by
  simp only[x2,Hu];generalize fH.map gE=L at gR ⊢;generalize enc sb=lX;generalize enc rws=PC;generalize enc cols=ajP;unfold gE dT at gR;unfold dT;have lU:dr (enc p.1)=.v (enc p.1):=by cases p.1<;>rfl
  have hW:dr (enc p.2)=.v (enc p.2):=by cases p.2<;>rfl
  generalize enc p.1=sq at *;generalize enc p.2=sr at *;generalize enc (hV s p.1)=PN at *;generalize enc (hV s p.2)=PO at *;simp[aB,aj,gR,t1,dJ,lU,hW]
 have pre:=Wx c;rw[uO]at pre;simp only[v9];generalize Bt=B at pre ⊢;simp[pre]
def TH(l:List Nat):yi (cE l)=l.map λc=>D.str (ch c):=rfl
def Ag(h:n<=1000):n<=aj3:=by rw[ako];omega
def kU(c:Nat):Bool:=decide (97<=c/\c<=122)
def A':("abcdefghijklmnopqrstuvwxyz":Str).cps.toList=(akG 26).map λk=>97+k:=by decide +kernel
def YR(c:Nat):ui (ch c) "abcdefghijklmnopqrstuvwxyz"=kU c:=by
 unfold ui;rw[show ch c=⟨#[c]⟩from rfl,StrLaws.found_one,A'];unfold kU;rw[alo,decide_eq_true_eq,decide_eq_true_eq];simp only[akV,ak4];constructor
 .rintro⟨k,aw,rfl⟩;omega
 .intro h;exact⟨c-97,by omega,by omega⟩
def aaH(l:List Nat):fX gr (af (rW false) (J 0) (aa (.str "abcdefghijklmnopqrstuvwxyz"))) [.e] (l.map λc=>D.str (ch c))=pure (l.map λc=>D.az (kU c)):=
 q4 (λc=>D.str (ch c)) (λc=>D.az (kU c)) l λc _=>by simp[YR]
structure qS(l:List Nat):Prop where
 p1:1<=l.length
 z3:l.length<=8
 al:l.all kU=true
def qS.ok(h:qS l):akf (cE l)=true:=ae3.mpr λc aD=>by
 have:=ak9.mp h.al c aD;simp[kU]at this;omega
def Y5(h:qS l):zF [.str (cE l)]=pure (.v (.az true)):=by
 have aj:l.length<=aj3:=Ag (by have:=h.z3;omega);have gp:l.length<aj3:=by rw[ako];have:=h.z3;omega
 have ab:lx (l.map λc=>D.az (kU c))=some (l.map kU):=Bz kU _;have aD:=aaH l;have hall:(l.map kU).all id=true:=by rw[List.all_map];exact h.al
 have Wg:(1:Int)<=(l.length:Int):=by have:=h.p1;omega
 have Wi:(l.length:Int)<=8:=by have:=h.z3;omega
 simp only[zF,Hd,He];simp[Fy,aj,Wg,Wi,TH,aD,ab,hall,gp]
def Qm{i:Int}(h0:0<=i)(h:i<26):∃c,aO (.v (.str "abcdefghijklmnopqrstuvwxyz")) (.v (.int i))=pure (.v (.str (cE [c])))/\kU c=true:=by
 obtain⟨c,e⟩:=Bf (xs:=("abcdefghijklmnopqrstuvwxyz":Str).cps.toList) (i:=i) h0 (by rw[A'];simpa using h);refine⟨c,?_,?_⟩
 .show(match eo ("abcdefghijklmnopqrstuvwxyz":Str).cps.toList i with
   |some c=>if("abcdefghijklmnopqrstuvwxyz":Str).length<=aj3 then(pure (R.v (.str ⟨#[c]⟩)):M R)else bad| none=>bad)=_
  rw[e];dsimp only;rw[if_pos (Ag (by decide +kernel))];rfl
 .have:=Be e
  rw[A']at this;obtain⟨k,aw,rfl⟩:=akV.mp this;have:=ak4.mp aw;simp[kU];omega
def aai:("m":Str)=cE [109]:=by decide +kernel
def Vw:("":Str)=cE []:=by decide +kernel
def DQ(c:Int):∃a,tI [.int c]=pure (.v (.str (cE a)))/\qS a:=by
 have ajh:=mod_lt (a:=c) (b:=8) (by decide);obtain⟨z,hz,ajp⟩:∃z:Nat,1+c % 8=(z:Nat)/\1<=z/\z<=8:=⟨(1+c % 8).toNat,by omega,by omega,by omega⟩;have JJ:=mod_lt (a:=c / 64) (b:=26) (by decide);obtain⟨x,av,ag⟩:=Qm JJ.1 JJ.2;have ahZ:0<z:=by omega
 obtain⟨Y',e,a,s4,rfl,a',ar⟩:=vh (b:=λd Y=>zq (Y.set 4 (.v d))) (ds:=nU 0 z) (Y:=[.v (.int c),.v (.int (z:Nat)),.v (.int (c / 8 % (z:Nat))),.v (.str (cE [])),.e])
  (λi Y=>∃(a:List Nat)(s4:Slot),Y=[.v (.int c),.v (.int (z:Nat)),.v (.int (c / 8 % (z:Nat))),.v (.str (cE a)),s4]/\a.all kU=true/\a.length=i)
  ⟨[],_,rfl,rfl,rfl⟩ (λi d Y hd ⟨a,s4,ay,a',ar⟩=>by
   subst ay;have aB:i<z:=by
    have:=(aj2.mp hd).1
    rwa[show(nU 0 z).length=z by simp[nU]]at this
   obtain⟨j,rfl⟩:∃j:Int,d=.int j:=by
    have:=akL hd;simp only[nU]at this;obtain⟨j,_,rfl⟩:=akV.mp this;exact⟨_,rfl⟩
   have eb:a.length+1<=aj3:=Ag (by omega)
   by_cases q:j=c / 8 % (z:Nat)
   .refine⟨_,.inl (?_:_=pure (gv.bj [.v (.int c),.v (.int (z:Nat)),.v (.int (c / 8 % (z:Nat))),.v (.str (cE (a++[x]))),.v (.int j)])),_,_,rfl,by rw[List.all_append,a'];simpa using ag,by rw[aj7,ar];rfl⟩
    simp only[zq];simp[q,av,Fy,Pl,eb]
   .refine⟨_,.inl (?_:_=pure (gv.bj [.v (.int c),.v (.int (z:Nat)),.v (.int (c / 8 % (z:Nat))),.v (.str (cE (a++[109]))),.v (.int j)])),_,_,rfl,by rw[List.all_append,a'];decide,by rw[aj7,ar];rfl⟩
    simp only[zq,aai];simp[q,Fy,Pl,eb])
 have ar:a.length=z:=by rw[ar];simp[nU]
 refine⟨a,?_,⟨by omega,by omega,a'⟩⟩;have e8:(z:Int)<4611686018427387904:=by omega
 simp only[tI,HA,HB,HC,HD,HE,Vw];simp[hz,ahZ,e,e8]
def oj(ag:akf x=true)(ba:akf y=true):oEq (.v (.str x)) (.v (.str y))=pure (.v (.az (x==y))):=sW (x:=.v (.str x)) (y:=.v (.str y)) ag ba
def Es:akf "name"=true:=by decide +kernel
def Et:akf "number"=true:=by decide +kernel
def abR(h:qS l):rM [.str "name",.str (cE l)]=pure (.v (.az true)):=by
 have f:=Y5 h;have q:=oj Es Es;rw[show(("name":Str) == "name")=true by simp]at q;simp only[rM,Br];generalize cE l=x at f ⊢;simp[q,f]
def aa0{n:Int}(h:-(10 ^ 60)<n/\n<10 ^ 60):zG [.int n]=pure (.v (.az true)):=by
 have w:=FK n;have e:decide ((if n<0 then -n else n)<1000000000000000000000000000000000000000000000000000000000000)=true:=by
  rw[decide_eq_true_eq];have ae:=h.1;have ah:=h.2;split<;>omega
 simp only[zG,Hf];rw[<-e];simp[w]
def abS{n:Int}(h:-(10 ^ 60)<n/\n<10 ^ 60):rM [.str "number",.int n]=pure (.v (.az true)):=by
 have f:=aa0 h;have q:=oj Et Es;rw[show(("number":Str) == "name")=false by decide +kernel]at q;have b0:=oj Et Et;rw[show(("number":Str) == "number")=true by simp]at b0;simp only[rM,Br,Hg];simp[q,b0,f]
def VU:ts.lookup ("put":Str)=some (.t [.str "name",.str "number"]):=rfl
def Jn:ts.lookup ("add":Str)=some (.t [.str "name",.str "number"]):=rfl
def TX(x:D)(ps:List D):cutD (x::ps) (some 1) none=ps:=TY (x::ps) 1
structure F'(d:D):Prop where
 ex:∃(w:Str)(l:List Nat)(n:Int),d=.t [.str w,.str (cE l),.int n]/\ts.lookup w=some (.t [.str "name",.str "number"])/\qS l/\(-(10 ^ 60)<n/\n<10 ^ 60)
def Y3(h:F' d):v7 [d]=pure (.v (.az true)):=by
 obtain⟨w,l,n,rfl,a7,ar,aF⟩:=h.ex;have p1:=abR ar;have dv:=abS aF;have xu:2<aj3:=by rw[ako];omega
 generalize cE l=x at p1 ⊢;have ZO:rA gr (bt rM (U (J 0) (U (J 1) ai))) [.e,.e] [(.str "name",.str x),(.str "number",.int n)]=pure [.az true,.az true]:=by
  simp[rA,p1,dv]
 simp only[v7,G',Ha,Hb,Hc,DZ,G6];simp[a7,TX,ZO,lx,xu,xt,R.walk]
mutual
theorem L8:∀r:aN,r.wf->r.names≠[]
 |.kp k,_=>λh=>nomatch h
 |.ch k ps,h=>by
  have h':1<=k/\k<=ps.length/\ps.length<=6/\aN.ju ps:=h;show aN.d_ ps≠[];exact aaI ps h'.2.2.2 (by omega)
theorem aaI:∀ps:List aN,aN.ju ps->0<ps.length->aN.d_ ps≠[]
 |[],_,h=>absurd h (akI _)|r::rs,h,_=>by
  show r.names++aN.d_ rs≠[];exact λe=>L8 r h.1 (List.append_eq_nil_iff.mp e).1
end
def o1(a k:aN):(dG a k).length<=6:=by
 have:=anr (λj=>(a.names++k.names).contains j) (akG 6);simpa[dG]using this
def L1{a k:aN}(ak:Good a):0<(dG a k).length:=by
 obtain⟨x,ag⟩:=List.exists_mem_of_ne_nil _ (L8 a ak.1);refine aoQ (a:=x) ?_;unfold dG;rw[al1,ak4];exact⟨tN a ak.1 x ag,alM.mpr (ant _ ag)⟩
def zZ{xs:List D}(ar:xs.length<=1000)(h:∀x∈xs,Ok n x):Ok (n+1) (.l xs):=
 have q:=o_ ar h
 ⟨q.1,q.2⟩
theorem Er:∀(m:Nat)(r:aN),r.deep<m->r.wf->Ok (2*m) (enc r)
 |0,r,h,_=>absurd h (amz _)| m+1,.kp k,_,_=>by rw[q_];exact ij|m+1,.ch k ps,h,hw=>by
  simp only[aN.deep]at h;simp only[aN.wf]at hw;have dl:=q7 (ps:=ps) (n:=m) (by omega);have wl:=xl.mp hw.2.2.2;rw[pX];exact qq (n:=2*m+1) ij (o_ (by rw[ajX];omega) λp aH=>by
   obtain⟨r,aA,rfl⟩:=akV.mp aH;exact Er m r (dl r aA) (wl r aA))
def abe{a k:aN}(ak:Good a)(aw:Good k):Ok 11 (dT a k):=
 qq (Er 5 a (by have:=ak.2.1;omega) ak.1) (Er 5 k (by have:=aw.2.1;omega) aw.1)
theorem Nk:∀{l:List (Z.κ.α×D)},(∀x∈l,wY Z x.2=some x.1)->pd Z (l.map (·.2))=some (l.map (·.1))
 |[],_=>rfl|x::l,h=>by
  rw[aj8,aj8];unfold pd;rw[h x aj9,Nk λy ba=>h y (aj4 _ ba)]
theorem PR{α β:Type}:∀l:List (α×β),(l.map (·.1)).zip (l.map (·.2))=l
 |[]=>rfl| x::l=>by rw[aj8,aj8,alx,PR l]
def Ff[DecidableEq Z.κ.α]{l:List (Z.κ.α×D)}(h:∀x∈l,wY Z x.2=some x.1){r:R}(ag:r.fi=some (l.map (·.2)))(aF:(l.map (·.1)).Nodup)(ar:l.length<64):nt Z [r]=pure (.fr ((hA Z.κ.blt l).map (·.2))):=by
 rw[Vv,ag];dsimp only;rw[Nk h];show(if jD Z.κ.blt (l.map (·.1))=true/\(l.map (·.1)).length<64 then _ else _)=_;rw[if_pos ⟨Gr (Q:=Z.κ.toKeyOrd) aF,by rw[ajX];exact ar⟩,PR]
theorem CL(ak:kG a)(hd:aO (.v dd) (.v (.int 1))=pure (.v (.str (cE a)))):∀{cs:qW},(∀x∈cs,jx x)->(cs.map (·.1)).Nodup->∃L:List Int,oO (a3 (af oEq (J 0) (af aO (J 2) (aa (.int 1))))) (J 1) [.e,.e,.v dd] (cs.map (·.2))=pure (L.map D.int)/\L.sum=ma (e4 (Q:=d3) cs a)
 |[],_,_=>⟨[],rfl,rfl⟩
 |x::cs,h,aF=>by
  obtain⟨ag0,n,hL,ex⟩:=h x aj9;rw[aj8,akT]at aF;obtain⟨L,e,s⟩:=CL ak hd (cs:=cs) (λy ba=>h y (aj4 _ ba)) aF.2;have t:a3 (af oEq (J 0) (af aO (J 2) (aa (.int 1)))) [.v (.str (cE x.1)),.v (.int n),.v dd]=pure (decide (x.1=a)):=dB (bZ (I9 ag0.1 ak.1) rfl (bZ hd rfl rfl));rw[aj8,ex];unfold e4
  by_cases c:x.1=a
  .rw[decide_eq_true c]at t
   have Qa:L.sum=0:=by
    rw[s];have:e4 (Q:=d3) cs a=none:=by
     unfold e4;rw[anZ.mpr λy ba z=>aF.1 (akV.mpr ⟨y,ba,(of_decide_eq_true z).trans c.symm⟩)];rfl
    rw[this];rfl
   refine⟨n::L,?_,?_⟩
   .show(a3 (af oEq (J 0) (af aO (J 2) (aa (.int 1)))) [.v (.str (cE x.1)),.v (.int n),.v dd] >>= _)=_
    rw[t];show(oO _ _ _ _ >>= _)=_;rw[e];rfl
   .rw[ak3 (by simpa using c),List.sum_cons,Qa]
    show n+0=ma (some x.2);rw[ex,Int.add_zero];rfl
  .rw[decide_eq_false c]at t
   refine⟨L,?_,?_⟩
   .show(a3 (af oEq (J 0) (af aO (J 2) (aa (.int 1)))) [.v (.str (cE x.1)),.v (.int n),.v dd] >>= _)=_
    rw[t];exact e
   .rw[akS (by simpa using c)]
    exact s
def OU{L:List Int}:s7 [.fr (L.map D.int)]=pure (.v (.int L.sum)):=by
 show(match nums (L.map D.int)with|some bs=>pure (R.v (.int bs.sum))|none=>bad)=_;rw[Ef (λi=>i),List.map_id']
def IG{it:e'}{t:aQ->M Bool}{ds xs:List D}(av:it Y=pure ds)(z:ds.length<aj3)(e:oO t el (iP 2 cap Y) ds=pure xs):sR cap it t el Y=pure (.fr xs):=by
 show(it Y >>= _)=_;rw[av];show(hI (ds.length<aj3) >>= _)=_;rw[Iz z];show(oO t el (iP 2 cap Y) ds >>= _)=_;rw[e];rfl
def abM{m:bg}{Y:aQ}(e:m Y=pure (.fr xs)):j3 i m Y=pure (.bj (Y.set i (.er false xs))):=by show(m Y >>= _)=_;rw[e];rfl
def ldI:aX:=(b4 (b1 10 (b_ s7 (U (sR [3] (iE (J 4)) (a3 (af oEq (J 0) (af aO (J 2) (aa (.int 1))))) (J 1)) ai)))
  (b4 (b1 11 (af aO (J 3) (aa (.int 2))))
  (b4 (b1 9 (J 10))
  (b4 (cP (a3 (af oEq (af aO (J 3) (aa (.int 0))) (aa (.str "add")))) (b4 (b1 11 (af hx (J 10) (af aO (J 3) (aa (.int 2)))))
  (b1 9 (J 11))) cj)
  (b4 (j3 12 (e3 1 [3] (iE (J 4)) (a3 (af d8 (af aO (J 0) (aa (.int 0))) (af aO (J 1) (aa (.int 1))))) (J 0)))
  (b4 (cP (a3 (af d8 (J 11) (aa (.int 0)))) (l' 12 iL (U (bG (U (af aO (J 3) (aa (.int 1))) (U (J 11) ai))) ai)) cj)
  (b1 4 (b_ mi (U (b_ (nt ie) (U (J 12) ai)) ai)))))))))
def o5(s:c9):g6->Int×Int
 |.put a n=>(n,s.cell a)
 |.add a n=>(s.cell a+n,s.cell a+n)
def tP:g6->List Nat
 |.put a _=>a|.add a _=>a
def fM(d:g6):Prop:=(∃a n,d=.put a n)\/∃a n,d=.add a n
def acU:oEq (.v (.str "put")) (.v (.str "add"))=pure (.v (.az false)):=by rw[fY (by decide +kernel) (by decide +kernel)];rfl
def acR:oEq (.v (.str "add")) (.v (.str "add"))=pure (.v (.az true)):=by rw[fY (by decide +kernel) (by decide +kernel),beq_self_eq_true]
def acW:oEq (.v (.str "put")) (.v (.str "move"))=pure (.v (.az false)):=by rw[fY (by decide +kernel) (by decide +kernel)];rfl
def acT:oEq (.v (.str "add")) (.v (.str "move"))=pure (.v (.az false)):=by rw[fY (by decide +kernel) (by decide +kernel)];rfl
def acV:oEq (.v (.str "put")) (.v (.str "end"))=pure (.v (.az false)):=by rw[fY (by decide +kernel) (by decide +kernel)];rfl
def acS:oEq (.v (.str "add")) (.v (.str "end"))=pure (.v (.az false)):=by rw[fY (by decide +kernel) (by decide +kernel)];rfl
section
variable{s:c9}(row:∀x∈s.cs,jx x)(rise:kF d3 s.cs)(ar:s.cs.length<60)
include row rise ar
theorem Lp(ak:kG a)(hd:aO (.v dd) (.v (.int 1))=pure (.v (.str (cE a))))(w:Int)(s0 s1 s2 s5 et d1 hS i2 nV ki:Slot) :
  b4 (j3 12 (e3 1 [3] (iE (J 4)) (a3 (af d8 (af aO (J 0) (aa (.int 0))) (af aO (J 1) (aa (.int 1))))) (J 0)))
  (b4 (cP (a3 (af d8 (J 11) (aa (.int 0)))) (l' 12 iL (U (bG (U (af aO (J 3) (aa (.int 1))) (U (J 11) ai))) ai)) cj)
  (b1 4 (b_ mi (U (b_ (nt ie) (U (J 12) ai)) ai)))) [s0,s1,s2,.v dd,.v (.t (s.cs.map (·.2))),s5,et,d1,hS,i2,nV,.v (.int w),ki]=pure (.bj [s0,s1,s2,.v dd,.v (.t ((jt s.cs a w).map (·.2))),s5,et,d1,hS,i2,nV,.v (.int w),.er false ((if w=0 then hr (Q:=d3) s.cs a else i1 (Q:=d3) s.cs (a,.t [.str (cE a),.int w])).map (·.2))]):=by
 have bL:fX (a3 (af d8 (af aO (J 0) (aa (.int 0))) (af aO (J 1) (aa (.int 1))))) (J 0) [.e,.v dd] (s.cs.map (·.2))=pure ((hr (Q:=d3) s.cs a).map (·.2)):=
  mb (λx:List Nat×D=>x.2) (λx=>!decide (x.1=a)) (λx=>x.2) s.cs (λx ag=>dB (bZ (Md (row x ag).1.1 ak.1) (bZ (row x ag).gR rfl rfl) (bZ hd rfl rfl))) λx _ _=>BU rfl
 have jm:∀x:List Nat×D,jx x->wY ie x.2=some x.1:=λx ag=>by obtain⟨_,m,_,e⟩:=ag;rw[e];rfl
 have cL:∀x∈hr (Q:=d3) s.cs a,jx x:=λx ag=>row x ((sU (Q:=d3)).mp ag).1
 have dl:(hr (Q:=d3) s.cs a).length<=s.cs.length:=anr _ _;refine(eK (abM (pT rfl (by rw[ajX];exact eQ (by omega)) bL))).trans ?_
 by_cases c:w=0
 .refine(eK (oI (dB (bZ (rR.trans (by rw[decide_eq_true c];rfl)) rfl rfl)))).trans ?_
  refine(fj (j2 rfl (cons_of (j2 (Ff (Z:=ie) (l:=hr (Q:=d3) s.cs a) (λx ag=>jm x (cL x ag)) rfl (BY _ rise.nodup) (by omega)) rfl) rfl))).trans ?_;unfold jt;rw[if_pos c,if_pos c,OL (Q:=d3) (BZ a rise)];rfl
 .refine(eK ((lH (dB (bZ (rR.trans (by rw[decide_eq_false c];rfl)) rfl rfl))).trans (Gs rfl (cons_of (afN (bZ hd rfl rfl) rfl) rfl) (by rw[ajX];exact eQ (by omega))))).trans ?_
  refine(fj (j2 rfl (cons_of (j2 (Ff (Z:=ie) (l:=i1 (Q:=d3) s.cs (a,.t [.str (cE a),.int w])) (λx ag=>?_) (by show some _=some _;unfold i1;rw[akO];rfl) (wQ _ rise.nodup) (by have:=z_ (Q:=d3) s.cs (a,.t [.str (cE a),.int w]);omega)) rfl) rfl))).trans ?_
  .rcases(wO (Q:=d3)).mp ag with⟨ag,_⟩|rfl
   .exact jm x (row x ag)
   .rfl
  .unfold jt
   rw[if_neg c,if_neg c];unfold k0 i1;rw[akO];rfl
theorem Z6(fO:fM d)(ak:kG (tP d))(s0 s1 s2 s5 et d1 hS i2 nV mU ki:Slot):∃lS,ldI [s0,s1,s2,.v d.D,.v (.t (s.cs.map (·.2))),s5,et,d1,hS,i2,nV,mU,ki]=pure (.bj [s0,s1,s2,.v d.D,.v (.t ((jt s.cs (tP d) (o5 s d).1).map (·.2))),s5,et,d1,hS,.v (.int (o5 s d).2),.v (.int (s.cell (tP d))),.v (.int (o5 s d).1),lS]):=by
 have z:(s.cs.map (·.2)).length<aj3:=by rw[ajX];exact eQ (by omega)
 rcases fO with⟨a,m,rfl⟩|⟨a,m,rfl⟩
 .obtain⟨L,e,hU⟩:=CL (a:=a) ak (dd:=(g6.put a m).D) rfl row rise.nodup
  have hU:L.sum=s.cell a:=hU;refine⟨_,(eK (fj (j2 (OU.trans (by rw[hU];rfl)) (cons_of (IG rfl z e) rfl)))).trans ((eK (fj rfl)).trans ((eK (fj rfl)).trans ((eK (oI (dB (bZ acU rfl rfl)))).trans (Lp row rise ar ak rfl m _ _ _ _ _ _ _ _ _ _))))⟩
 .obtain⟨L,e,hU⟩:=CL (a:=a) ak (dd:=(g6.add a m).D) rfl row rise.nodup
  have hU:L.sum=s.cell a:=hU;refine⟨_,(eK (fj (j2 (OU.trans (by rw[hU];rfl)) (cons_of (IG rfl z e) rfl)))).trans ((eK (fj rfl)).trans ((eK (fj rfl)).trans ((eK ((lH (dB (bZ acR rfl rfl))).trans ((eK (fj rfl)).trans (fj rfl)))).trans (Lp row rise ar ak rfl (s.cell a+m) _ _ _ _ _ _ _ _ _ _))))⟩
end
def qf(i n:Int)(x:Int×D):Bool:=decide (x.1=i)&&decide (n<=qo (some x.2))
def Jw{a b:Int}:o8 (.v (.int a)) (.v (.int b))=pure (.v (.az (decide (a≥b)))):=rfl
def vp{a b:Int}:kY (.v (.int a)) (.v (.int b))=pure (.v (.az (decide (a > b)))):=rfl
def Lq(xs:List D):fh [.v (.l xs)]=pure (.v (.int (xs.length:Nat))):=rfl
section
variable{G:aZ.D->Prop}{W:List (List Nat)}{s:c9}(h:fW G W s)
include h
theorem ZW(i n:Int):fX (jr (a3 (af oEq (af aO (J 0) (aa (.int 0))) (J 1))) (a3 (af o8 (af aO (J 0) (aa (.int 1))) (J 2)))) (J 0) [.e,.v (.int i),.v (.int n)] (s.ds.map (·.2))=pure ((s.ds.filter (qf i n)).map (·.2)):=
 mb (λx:Int×D=>x.2) (qf i n) (λx=>x.2) s.ds (λx ag=>by
  obtain⟨m,z,e⟩:=h.num x ag;unfold qf;rw[e]
  by_cases c:x.1=i
  .rw[decide_eq_true c]
   exact(Qx (dB (bZ (nq.trans (by rw[decide_eq_true c])) (bZ rfl rfl rfl) rfl))).trans (dB (bZ Jw (bZ rfl rfl rfl) rfl))
  .rw[decide_eq_false c]
   exact Qv (dB (bZ (nq.trans (by rw[decide_eq_false c])) (bZ rfl rfl rfl) rfl))) λx _ _=>BU rfl
theorem ZV{i n:Int}(aF:1<=n):decide ((((s.ds.filter (qf i n)).map (·.2)).length:Int) > 0)=decide (n<=s.last i):=by
 rw[ajX,show ∀m:Nat,decide ((m:Int) > 0)=decide (m > 0)from λm=>by simp]
 by_cases c:n<=s.last i
 .rw[decide_eq_true c]
  unfold c9.last at c
  cases q:e4 (Q:=jz) s.ds i with
  |none=>rw[q]at c;have c:n<=0:=c;omega|some d=>
   rw[q]at c;have m:(i,d)∈s.ds.filter (qf i n):=al1.mpr ⟨vm q,by unfold qf;rw[decide_eq_true c];simp⟩;exact decide_eq_true (aoQ m)
 .rw[decide_eq_false c]
  refine decide_eq_false λz=>c ?_
  obtain⟨x,ag⟩:=List.exists_mem_of_length_pos z;obtain⟨ag,q⟩:=al1.mp ag;unfold qf at q;obtain⟨bk,b0⟩:=Bool.and_eq_true_iff.mp q;have bk:=of_decide_eq_true bk;unfold c9.last;rw[<-bk,Cz h.oh.nodup ag];exact of_decide_eq_true b0
theorem Vn(i:Int):fX (a3 (af d8 (af aO (J 0) (aa (.int 0))) (J 1))) (J 0) [.e,.v (.int i)] (s.ds.map (·.2))=pure ((hr (Q:=jz) s.ds i).map (·.2)):=
 mb (λx:Int×D=>x.2) (λx=>!decide (x.1=i)) (λx=>x.2) s.ds (λx ag=>by
  obtain⟨m,z,e⟩:=h.num x ag;rw[e];exact dB (bZ rR (bZ rfl rfl rfl) rfl)) λx _ _=>BU rfl
theorem Z0(aj:s.c0=.aI)(eO:W.length<59)(i:Int){n:Int}(aF:1<=n)(fO:fM d)(hd:n3 G W d):v8 [s.D,.int i,.int n,d.D]=pure (.v (h9 s i n (some d)).D):=by
 have cS:dr d.D=.v d.D:=by rcases fO with⟨a,m,rfl⟩|⟨a,m,rfl⟩<;>rfl
 have xj:kG (tP d):=by rcases fO with⟨a,m,rfl⟩|⟨a,m,rfl⟩<;>exact hd.1
 have nn:kf (.v d.D) (.v .aI)=pure (.v (.az false)):=by rcases fO with⟨a,m,rfl⟩|⟨a,m,rfl⟩<;>rfl
 have wA:mQ s i d=(s.put (tP d) (o5 s d).1,.int (o5 s d).2):=by rcases fO with⟨a,m,rfl⟩|⟨a,m,rfl⟩<;>rfl
 obtain⟨w,hB,agI,agc⟩:∃w:Str,aO (.v d.D) (.v (.int 0))=pure (.v (.str w))/\oEq (.v (.str w)) (.v (.str "move"))=pure (.v (.az false))/\oEq (.v (.str w)) (.v (.str "end"))=pure (.v (.az false)):=by
  rcases fO with⟨a,m,rfl⟩|⟨a,m,rfl⟩
  .exact⟨_,rfl,acW,acV⟩
  .exact⟨_,rfl,acT,acS⟩
 have dl:=h.dl;have cl:s.cs.length<60:=by have:=h.cl;omega
 have qN:(s.ds.map (·.2)).length<aj3:=by rw[ajX];exact eQ (by omega)
 have mL:=ZV h (i:=i) aF;refine j4 rfl ?_;show Hp [.v s.D,.v (.int i),.v (.int n),dr d.D,.e,.e,.e,.e,.e,.e,.e,.e,.e]=_;rw[cS];refine(eK (Pq (ds:=[.t (s.cs.map (·.2)),.t (s.ds.map (·.2)),.t [.int s.f,s.t],s.c0]) rfl rfl)).trans ?_;rw[aj];refine(eK (ub (pT rfl qN (ZW h i n)) rfl)).trans ?_;unfold h9;dsimp only
 by_cases c:n<=s.last i
 .rw[decide_eq_true c]at mL
  rw[if_neg λz=>absurd z.2 (Int.not_lt.mpr c)];exact r6 ((lH ((t2 (dB (bZ nn rfl rfl))).trans ((t2 (dB rfl)).trans (dB (bZ (vp.trans (by rw[mL])) (j2 (Lq _) rfl) rfl))))).trans (jP rfl))
 .rw[decide_eq_false c]at mL
  rw[if_pos ⟨by rw[aj];rfl,Int.not_le.mp c⟩];refine(eK (oI ((t2 (dB (bZ nn rfl rfl))).trans ((t2 (dB rfl)).trans (dB (bZ (vp.trans (by rw[mL])) (j2 (Lq _) rfl) rfl)))))).trans ?_;refine(eK (fj rfl)).trans ?_;obtain⟨lS,YP⟩:=Z6 h.row h.rise cl fO xj (.v s.D) (.v (.int i)) (.v (.int n)) (.v (.t (s.ds.map (·.2)))) (.v (.t [.int s.f,s.t])) (.v .aI) (.v (.l ((s.ds.filter (qf i n)).map (·.2)))) (.v (.int 1)) .e .e .e;refine(eK ((oI (dB (bZ agI (bZ hB rfl rfl) rfl))).trans ((oI (dB (bZ agc (bZ hB rfl rfl) rfl))).trans YP))).trans ?_;rw[wA];refine(eK (fj (j2 rfl (cons_of (j2 (Ff (Z:=fI) (l:=i1 (Q:=jz) s.ds (i,.t [.int i,.int n,.int (o5 s d).2])) (λx ag=>?_) (by show some _=some _;unfold i1;rw[akO];rfl) (wQ _ h.oh.nodup) (by have:=z_ (Q:=jz) s.ds (i,.t [.int i,.int n,.int (o5 s d).2]);omega)) (cons_of (bZ (Tx ?_) (pT rfl qN (Vn h i)) rfl) rfl)) rfl)))).trans ?_
  .rcases(wO (Q:=jz)).mp ag with⟨ag,_⟩|rfl
   .obtain⟨m,z,e⟩:=h.num x ag
    rw[e];rfl
   .rfl
  .have:=yq (Q:=jz) s.ds i
   refine Ag ?_;rw[ajX];show _+1<=1000;omega
  .refine Eq.trans (jP (d:=.t [.t ((jt s.cs (tP d) (o5 s d).1).map (·.2)),.t ((k0 (Q:=jz) s.ds (i,.t [.int i,.int n,.int (o5 s d).2])).map (·.2)),.t [.int s.f,s.t],.aI]) rfl) ?_
   rw[<-aj];rfl
end
def VJ{b:D->aX}(h:b d Y=pure (.bj Y')):ha b (d::ds) Y=ha b ds Y':=by
 show(b d Y >>= _)=_;rw[h];rfl
def Nb{m:bg}(e:m Y=pure (.fr xs)):bw m Y=pure (.cJ (.fr xs)):=by show(m Y >>= _)=_;rw[e];rfl
def eZ(a k:aN):D:=.t [.int 0,dT a k,jF]
section
variable{a k:aN}(ak:Good a)(aw:Good k)
include ak aw
theorem Lm(me:Int)(s:c3):zI [.int me,eZ a k,bW s]=pure (.fr ((dG a k).map (hG me 0 s))):=
 Jj rfl (Nb (pT (Kw (call_of rfl (DP ak aw))) (by rw[ajX];have:=o1 a k;exact eQ (by omega)) (q4 bH (hG me 0 s) (dG a k) λ_ _=>rfl)))
end
def dN(b:c3×D)(g:dz):c3×D:=if fc g.s b.1=true then(g.s,g.w)else b
theorem H3{B:D->aX}(ot:∀g Y,B (c7 g) Y=DF (kj [4,5,6] [bH g.k,bW g.s,g.w] Y))(s0 s1:Slot):∀(aL:List dz)(b:c3×D)(s4 s5 et:Slot),∃Am An Ao,ha B (aL.map c7) [s0,s1,.v (bW b.1),.v b.2,s4,s5,et]=pure (.bj [s0,s1,.v (bW (aL.foldl dN b).1),.v (aL.foldl dN b).2,Am,An,Ao])
 |[],b,s4,s5,et=>⟨s4,s5,et,rfl⟩
 |g::aL,b,s4,s5,et=>by
  obtain⟨Am,An,Ao,e⟩:=H3 ot s0 s1 aL (dN b g) (.v (bH g.k)) (.v (bW g.s)) (.v g.w);refine⟨Am,An,Ao,(VJ (Y':=[s0,s1,.v (bW (dN b g).1),.v (dN b g).2,.v (bH g.k),.v (bW g.s),.v g.w]) ((ot g _).trans ?_)).trans e⟩;unfold dN
  by_cases c:fc g.s b.1=true
  .rw[if_pos c]
   exact(lH (dB (bZ ((cmp_gt g.s b.1).trans (by rw[c])) rfl rfl))).trans ((eK (fj rfl)).trans (fj rfl))
  .rw[if_neg c]
   exact oI (dB (bZ ((cmp_gt g.s b.1).trans (by rw[Bool.eq_false_iff.mpr c])) rfl rfl))
def ZY(aL:List dz)(a':dr op=.v op):D1 [.l (aL.map c7),op]=pure (.v (.t [bW (aL.foldl dN ((0,0),op)).1,(aL.foldl dN ((0,0),op)).2])):=by
 obtain⟨Am,An,Ao,e⟩:=H3 (B:=λd Y=>match d with
  |.t ay=>if ay.length=[4,5,6].length then DF (kj [4,5,6] ay Y)else bad| _=>bad) (λ_ _=>rfl) (.cu (aL.map c7)) (.v op) aL ((0,0),op) .e .e .e
 refine j4 rfl ?_;show Hk [.cu (aL.map c7),dr op,.e,.e,.e,.e,.e]=_;rw[a'];exact(eK (fj rfl)).trans ((eK (fj rfl)).trans ((eK e).trans (jP rfl)))
section
variable{a k:aN}(ak:Good a)(aw:Good k)
include ak aw
theorem Z4(me:Int)(s:c3)(n:Int)(hd:dr d=.v d){aL:List dz}(hw:v8 [(aL.foldl dN ((0,0),jF)).2,.int me,.int n,d]=pure (.v w)) :
  D4 [.int me,eZ a k,bW s,.int n,d,.l (aL.map c7)]=pure (.fr ((dG a k).map (jS me 0 s (.t [bW (aL.foldl dN ((0,0),jF)).1,.int n,d,w])))):=by
 refine Jj rfl ?_;show HK [.v (.int me),.v (eZ a k),.v (bW s),.v (.int n),dr d,.cu (aL.map c7),.e,.e,.e]=_;rw[hd];exact(eK (Pq (call_of rfl (ZY aL rfl)) rfl)).trans ((eK (fj (by
  show(U _ _ _ >>= _)=_;rw[cons_of rfl (cons_of rfl (cons_of rfl (cons_of (call_of rfl hw) rfl)))];rfl))).trans (Nb (pT (Kw (call_of (rs:=[.v (dT a k)]) rfl (DP ak aw))) (by rw[ajX];have:=o1 a k;exact eQ (by omega)) (q4 bH (jS me 0 s (.t [bW (aL.foldl dN ((0,0),jF)).1,.int n,d,w])) (dG a k) λ_ _=>rfl))))
end
def iv(P:c9->Prop)(W:List (List Nat))(s:c3)(w:D):Prop:=(s=(0,0)/\w=.aI)\/(1<=s.1/\∃t:c9,w=t.D/\fW (λ_=>False) W t/\P t)
theorem x7{P:c9->Prop}:∀(ps:List dz)(b:dz)(c:c3×D),(∀g∈ps,iv P W g.s g.w)->(b.s=(0,0)\/1<=b.s.1)->c.1=b.s->c.2=(if b.s=(0,0)then op else b.w)->oB op (ly b ps)=.t [bW (ps.foldl dN c).1,(ps.foldl dN c).2]
 |[],b,c,_,_,ae,ah=>by
  show D.t [bW b.s,if b.s=(0,0)then op else b.w]=.t [bW c.1,c.2];rw[ae,ah]
 |g::ps,b,c,aV,ab,ae,ah=>by
  have aw:=aV g aj9;show oB op (ly (we b g) ps)=.t [bW (ps.foldl dN (dN c g)).1,(ps.foldl dN (dN c g)).2];have VY:g.s=(0,0)\/1<=g.s.1:=aw.elim (λz=>.inl z.1) λz=>.inr z.1
  by_cases q:fc g.s b.s=true
  .have ne:g.s≠(0,0):=λz=>by
    rw[z]at q;rcases ab with ab|ab
    .rw[ab]at q;cases q
    .unfold fc at q
     simp at q;omega
   have av:we b g=g:=if_pos q;have aC:dN c g=(g.s,g.w):=by unfold dN;rw[ae,if_pos q]
   rw[av,aC];exact x7 ps g _ (λx ag=>aV x (aj4 _ ag)) VY rfl (if_neg ne).symm
  .have av:we b g=b:=if_neg q
   have aC:dN c g=c:=by unfold dN;rw[ae,if_neg q]
   rw[av,aC];exact x7 ps b c (λx ag=>aV x (aj4 _ ag)) ab ae ah
theorem Bx{P:c9->Prop}:∀(aL:List dz)(c:c3×D),(∀g∈aL,iv P W g.s g.w)->(c.1=(0,0)\/1<=c.1.1)->(∃t:c9,c.2=t.D/\fW (λ_=>False) W t/\P t)->∃t:c9,(aL.foldl dN c).2=t.D/\fW (λ_=>False) W t/\P t
 |[],_,_,_,h=>h|g::aL,c,aV,h0,h=>by
  show ∃t:c9,(aL.foldl dN (dN c g)).2=t.D/\_;unfold dN
  by_cases q:fc g.s c.1=true
  .rw[if_pos q]
   rcases aV g aj9 with⟨z,_⟩|⟨z,bM⟩
   .rw[z]at q
    rcases h0 with h0|h0
    .rw[h0]at q;cases q
    .unfold fc at q
     simp at q;omega
   .exact Bx aL _ (λx ag=>aV x (aj4 _ ag)) (.inr z) bM
  .rw[if_neg q]
   exact Bx aL c (λx ag=>aV x (aj4 _ ag)) h0 h
def uQ:c9:=⟨[],[],0,.aI,.aI⟩
def Ib(W:List (List Nat)):fW (λ_=>False) W uQ:=⟨λ_ h=>(nomatch h),aoc,λ_ h=>(nomatch h),λ_ h=>(nomatch h),aoc,λ_ h=>(nomatch h),.inl rfl,.inl rfl,λ_ h=>(nomatch h)⟩
def H4{P:c9->Prop}{aL:List dz}(h0:P uQ)(aV:∀g∈aL,iv P W g.s g.w):∃t:c9,(aL.foldl dN ((0,0),jF)).2=t.D/\fW (λ_=>False) W t/\P t:=
 Bx aL _ aV (.inl rfl) ⟨uQ,rfl,Ib W,h0⟩
def S0{P:c9->Prop}(aV:∀g∈p::ps,iv P W g.s g.w)(op:D):oB op (ly p ps)=.t [bW ((p::ps).foldl dN ((0,0),op)).1,((p::ps).foldl dN ((0,0),op)).2]:=by
 rcases aV p aj9 with⟨z,_⟩|⟨z,_⟩
 .have e:dN ((0,0),op) p=((0,0),op):=by unfold dN;rw[z];exact if_neg (show ¬fc (0,0) (0,0)=true by decide)
  show _=D.t [bW (ps.foldl dN (dN _ p)).1,(ps.foldl dN (dN _ p)).2];rw[e];exact x7 ps p _ (λx ag=>aV x (aj4 _ ag)) (.inl z) z.symm (if_pos z).symm
 .have a1:fc p.s (0,0)=true:=by unfold fc;simp;omega
  have ne:p.s≠(0,0):=λq=>by rw[q]at z;exact absurd z (by decide)
  have e:dN ((0,0),op) p=(p.s,p.w):=by unfold dN;exact if_pos a1
  show _=D.t [bW (ps.foldl dN (dN _ p)).1,(ps.foldl dN (dN _ p)).2];rw[e];exact x7 ps p _ (λx ag=>aV x (aj4 _ ag)) (.inr z) rfl (if_neg ne).symm
def Z8(xs:List D):fh [.fr xs]=pure (.v (.int (xs.length:Nat))):=rfl
def YU(j:Nat)(bu:List Nat):ke false (.v (bH j)) (.cu (bu.map bH))=pure (.v (.az (bu.contains j))):=y9 j bu
theorem DO(bu:List Nat):∀(n:Nat)(r:aN),r.deep<n->r.wf->nK n [enc r,.l (bu.map bH)]=pure (.v (.az (r.fills λj=>bu.contains j)))
 |0,r,h,_=>absurd h (amz _)|n+1,.kp k,h,hw=>by
  rw[q_];exact j4 rfl (r6 ((lH (aaY (dB rfl))).trans (jP (bZ (YU k bu) rfl rfl))))
 |n+1,.ch k ps,h,hw=>by
  simp only[aN.deep]at h;simp only[aN.wf]at hw;have dl:=q7 (ps:=ps) (n:=n) (by omega);have wl:=xl.mp hw.2.2.2;rw[pX];have c:fX (a3 (bt (nK n) (U (J 0) (U (J 1) ai)))) (J 0) [.e,.cu (bu.map bH)] (ps.map enc)=pure ((ps.filter (aN.fills λj=>bu.contains j)).map enc):=
   mb enc (aN.fills λj=>bu.contains j) enc ps (λr aA=>dB (call_of rfl (DO bu n r (dl r aA) (wl r aA)))) λr _ _=>rfl
  have z:(ps.map enc).length<aj3:=by rw[ajX];exact eQ (by omega)
  have e:decide ((((ps.filter (aN.fills λj=>bu.contains j)).map enc).length:Int)≥(k:Nat))=(aN.ch k ps).fills λj=>bu.contains j:=by
   rw[ajX,yl];exact decide_eq_decide.mpr (by omega)
  exact j4 rfl ((jo (zT (dB rfl))).trans (jP (bZ (Jw.trans (by rw[e])) (j2 (Z8 _) (cons_of (pT rfl z c) rfl)) (bZ rfl rfl rfl))))
def Vr(k:List Key)(d:D):∀aq:List (List Key×D),iQ (gz aq k d) k=some d:=by
 intro aq;unfold gz iQ;split
 .rename_i mq
  induction aq with
  |nil=>cases mq
  |cons p aq a6=>
   rw[aj8]
   by_cases c:p.1=k
   .rw[if_pos c,ak3 (by simpa using c)];rfl
   .rw[if_neg c,akS (by simpa using c)]
    refine a6 ?_;rw[alK]at mq;simpa[c]using mq
 .rename_i mq
  rw[List.find?_append,anZ.mpr λx ag z=>mq (aoB.mpr ⟨x,ag,z⟩),ak3 (by simp)];rfl
def acr(k:Nat)(aq:List (List Key×D))(d:D):iG (gz aq (eV k) d) k=d:=by unfold iG;rw[Vr];rfl
def sI(aq:List (List Key×D)):Prop:=∃bu:List Nat,aq.map (·.1)=bu.map eV/\bu.Nodup/\∀k∈bu,k<6
def sI.len{aq:List (List Key×D)}(h:sI aq):aq.length<=6:=by
 obtain⟨bu,e,dU,eA⟩:=h;have l:=congrArg alr e;rw[ajX,ajX]at l;have:=dU.length_le_of_subset (l₂:=akG 6) λk aw=>ak4.mpr (eA k aw)
 rw[aod]at this;omega
def sI.put(h:sI aq){k:Nat}(Dn:k<6)(d:D):sI (gz aq (eV k) d):=by
 obtain⟨bu,e,dU,eA⟩:=h;unfold gz;split
 .refine⟨bu,?_,dU,eA⟩
  rw[<-e,amM];refine List.map_congr_left λp _=>?_
  show(if p.1=eV k then(p.1,d)else p).1=p.1;split<;>rfl
 .rename_i mq
  refine⟨bu++[k],by rw[akO,akO,e];rfl,?_,λx ag=>?_⟩
  .refine amF.mpr ⟨dU,akT.mpr ⟨ak1,aly⟩,λx ag y ba=>?_⟩
   rw[akg.mp ba];rintro rfl;have:eV x∈aq.map (·.1):=e▸alD ag;obtain⟨p,aH,cf⟩:=akV.mp this;exact mq (aoB.mpr ⟨p,aH,by simpa using cf⟩)
  .rcases akx.mp ag with ag|ag
   .exact eA x ag
   .rw[akg.mp ag];exact Dn
def i6(P:c9->Prop)(W:List (List Nat))(aq:List (List Key×D)):Prop:=(∀k:Nat,∃pr kp w,iG aq k=lN pr kp w/\0<=pr.1/\iv P W kp w)/\sI aq
def i6.nil(P:c9->Prop)(W:List (List Nat)):i6 P W []:=⟨λ_=>⟨(0,0),(0,0),.aI,rfl,amD _,.inl ⟨rfl,rfl⟩⟩,[],rfl,aly,λ_ h=>(nomatch h)⟩
def i6.put{P:c9->Prop}(h:i6 P W aq)(k:Nat)(Dn:k<6)(h0:0<=pr.1)(aw:iv P W kp w):i6 P W (gz aq (eV k) (lN pr kp w)):=by
 refine⟨λj=>?_,h.2.put Dn _⟩
 by_cases c:j=k
 .rw[c,acr];exact⟨pr,kp,w,rfl,h0,aw⟩
 .rw[MF c];exact h.1 j
def nS:D->Int
 |.t [.t [.int r,_],_,_]=>r|_=>0
theorem D9:∀(l:List Int)(b:Int),b<=iY b l/\∀x∈l,x<=iY b l
 |[],b=>⟨amD _,λ_ h=>(nomatch h)⟩
 |y::l,b=>by
  unfold iY
  by_cases c:b<y
  .rw[if_pos c]
   have:=D9 l y;exact⟨by omega,λx ag=>by rcases aj5.mp ag with rfl|ag;exact this.1;exact this.2 x ag⟩
  .rw[if_neg c]
   have:=D9 l b;exact⟨this.1,λx ag=>by rcases aj5.mp ag with rfl|ag;omega;exact this.2 x ag⟩
def acC{k:Nat}(aw:k<6):∃p:Int,n1 0 p/\aO (.fr [.int 1,.int 2,.int 4,.int 8,.int 16,.int 32]) (.v (bH k))=pure (.v (.int p)):=by
 rcases(by omega:k=0\/k=1\/k=2\/k=3\/k=4\/k=5)with rfl|rfl|rfl|rfl|rfl|rfl
 .exact⟨1,jd (by decide) (by decide),rfl⟩
 .exact⟨2,jd (by decide) (by decide),rfl⟩
 .exact⟨4,jd (by decide) (by decide),rfl⟩
 .exact⟨8,jd (by decide) (by decide),rfl⟩
 .exact⟨16,jd (by decide) (by decide),rfl⟩
 .exact⟨32,jd (by decide) (by decide),rfl⟩
def Ia{i j k:Nat}{A:Int}(bI:J i Y=pure (.v (.int A)))(aw:k<6)(ag:af aO (J j) (aa (.int 2)) Y=pure (.v (bH k))) :
  ∃b,a3 (af oEq (af oMod (af gq (J i) (af aO (dh (U (aa (.int 1)) (U (aa (.int 2)) (U (aa (.int 4)) (U (aa (.int 8)) (U (aa (.int 16)) (U (aa (.int 32)) ai))))))) (af aO (J j) (aa (.int 2))))) (aa (.int 2))) (aa (.int 1))) Y=pure b:=by
 obtain⟨p,aH,e⟩:=acC aw;exact⟨_,dB (bZ nq (bZ (hc (by decide)) (bZ (nj (a:=A) (b:=p) aH) bI (bZ e (tw rfl rfl (akc rfl)) ag)) rfl) rfl)⟩
def KA{xs:List Int}{i:Int}(h0:0<=i)(ae:i<xs.length):∃A:Int,aO (.fr (xs.map D.int)) (.v (.int i))=pure (.v (.int A)):=by
 obtain⟨v,e⟩:=Bf (xs:=xs.map D.int) h0 (by rw[ajX];exact ae);obtain⟨A,_,rfl⟩:=akV.mp (Be e);exact⟨A,KO e⟩
section
variable{P:c9->Prop}{W:List (List Nat)}{top g A:Int}(ae:1<=top)(bn:Nat)(s1 s2 s3 s4 s5 et d1 i2 qz:Slot)
include ae
theorem CB:∀(ms:List Nat)(aq:List (List Key×D))(aL:List dz)(mU ki:Slot)(S:cG),S[bn]? = some (.eI aq)->ms.Nodup->(∀k∈ms,k<6)->i6 P W aq->(∀k∈ms,nS (iG aq k)<top)->(∀x∈aL,iv P W x.s x.w)->aq.length+ms.length<1000->aL.length+ms.length<1000->
  ∃(d0:List (List Key×D))(p0:List dz)(pf lS:Slot),bA S (k8 (λd Y=>Le (Y.set 11 (.v d))) (ms.map (hG g 0 (top,g))) [.v (.ref bn),s1,s2,s3,s4,s5,et,d1,.v (.int A),i2,.er false (aL.map c7),mU,ki,qz]) (.bj [.v (.ref bn),s1,s2,s3,s4,s5,et,d1,.v (.int A),i2,.er false (p0.map c7),pf,lS,qz]) (S.set bn (.eI d0))/\i6 P W d0/\(∀x∈p0,iv P W x.s x.w)/\d0.length<=aq.length+ms.length/\p0.length<=aL.length+ms.length
 |[],aq,aL,mU,ki,S,cI,_,_,ab,_,aV,_,_=>⟨aq,aL,mU,ki,by rw[set_same cI];rfl,ab,aV,aj0 _,aj0 _⟩
 |k::ms,aq,aL,mU,ki,S,cI,dU,eA,ab,bM,aV,cb,cz=>by
  rw[akd]at cb cz;obtain⟨Mh,dU⟩:=akT.mp dU;obtain⟨pr,kp,w,aH,eY,aw⟩:=ab.1 k;have pt:=bM k aj9;rw[aH]at pt;have pt:pr.1<top:=pt;have iy:fc (top,g) pr=true:=by unfold fc;simp;omega
  obtain⟨b,c5⟩:=Ia (i:=8) (j:=11) (A:=A) (Y:=[.v (.ref bn),s1,s2,s3,s4,s5,et,d1,.v (.int A),i2,.er false (aL.map c7),.v (hG g 0 (top,g) k),ki,qz]) rfl (eA k aj9) rfl
  cases b with
  |false=>
   obtain⟨d0,p0,pf,lS,e,bB,cq,pb,nT⟩:=CB ms aq aL (.v (hG g 0 (top,g) k)) ki S cI dU (λx ag=>eA x (aj4 _ ag)) ab (λx ag=>bM x (aj4 _ ag)) aV (by omega) (by omega);exact⟨d0,p0,pf,lS,sk (nY (aG.of c5).to rfl) e,bB,cq,by rw[akd];omega,by rw[akd];omega⟩
  |true=>
   have dl:=I4 aq (eV k) (lN (top,g) kp w);obtain⟨d0,p0,pf,lS,e,bB,cq,pb,nT⟩:=CB ms (gz aq (eV k) (lN (top,g) kp w)) (aL++[⟨k,kp,w⟩]) (.v (hG g 0 (top,g) k)) (.v (lC k g 0 (top,g) kp w)) _ (get_set cI) dU (λx ag=>eA x (aj4 _ ag)) (ab.put k (eA k aj9) (by show 0<=top;omega) aw) (λx ag=>by rw[MF (show x≠k from λz=>Mh (z▸ag))];exact bM x (aj4 _ ag)) (λx ag=>by
    rcases akx.mp ag with ag|ag
    .exact aV x ag
    .rw[akg.mp ag];exact aw) (by omega) (by rw[aj7];show aL.length+1+_ < _;omega)
   rw[aj7]at nT;have nT:p0.length<=aL.length+1+ms.length:=nT;rw[akO,List.set_set]at e;exact⟨d0,p0,pf,lS,sk (ku (aG.of c5).to (cW (sm (x_call (.of rfl) rfl (J_ aH cI (by omega) iy)) rfl) (aG.of (Gs rfl (cons_of (Pe (bZ rfl rfl rfl) (bZ rfl (bZ rfl rfl rfl) rfl) (bZ rfl (bZ rfl rfl rfl) rfl)) rfl) (by rw[ajX];exact eQ (by omega)))).to)) e,bB,cq,by rw[akd];omega,by rw[akd];omega⟩
end
section
variable{P:c9->Prop}{W:List (List Nat)}{top g A:Int}(ae:1<=top){b n dd w:D}(hw:iv P W (top,g) w)(bn:Nat)(s1 s2 s3 s4 s5 et d1 hS nV mU ki:Slot)
include ae hw
theorem yM:∀(ms:List Nat)(aq:List (List Key×D))(qz:Slot)(S:cG),S[bn]? = some (.eI aq)->(∀k∈ms,k<6)->i6 P W aq->aq.length+ms.length<1000->
  ∃(d0:List (List Key×D))(qB:Slot),bA S (k8 (λd Y=>Lf (Y.set 13 (.v d))) (ms.map (jS g 0 (top,g) (.t [b,n,dd,w]))) [.v (.ref bn),s1,s2,s3,s4,s5,et,d1,hS,.v (.int A),nV,mU,ki,qz]) (.bj [.v (.ref bn),s1,s2,s3,s4,s5,et,d1,hS,.v (.int A),nV,mU,ki,qB]) (S.set bn (.eI d0))/\i6 P W d0/\d0.length<=aq.length+ms.length
 |[],aq,qz,S,cI,_,ab,_=>⟨aq,qz,by rw[set_same cI];rfl,ab,aj0 _⟩
 |k::ms,aq,qz,S,cI,eA,ab,cb=>by
  rw[akd]at cb;obtain⟨pr,kp,hB,aH,eY,aw⟩:=ab.1 k;have mn:∀x∈ms,x<6:=λx ag=>eA x (aj4 _ ag)
  obtain⟨q,c5⟩:=Ia (i:=9) (j:=13) (A:=A) (Y:=[.v (.ref bn),s1,s2,s3,s4,s5,et,d1,hS,.v (.int A),nV,mU,ki,.v (jS g 0 (top,g) (.t [b,n,dd,w]) k)]) rfl (eA k aj9) rfl
  cases q with
  |false=>
   obtain⟨d0,qB,e,bB,cq⟩:=yM ms aq (.v (jS g 0 (top,g) (.t [b,n,dd,w]) k)) S cI mn ab (by omega);exact⟨d0,qB,sk (nY (aG.of c5).to rfl) e,bB,by rw[akd];omega⟩
  |true=>
   cases iy:fc pr (top,g)with
   |true=>
    obtain⟨d0,qB,e,bB,cq⟩:=yM ms aq (.v (jS g 0 (top,g) (.t [b,n,dd,w]) k)) S cI mn ab (by omega);exact⟨d0,qB,sk (ku (aG.of c5).to (AI (x_call (.of rfl) rfl (Ka aH cI iy)))) e,bB,by rw[akd];omega⟩
   |false=>
    have dl:=I4 aq (eV k) (lN (top,g) (top,g) w);obtain⟨d0,qB,e,bB,cq⟩:=yM ms (gz aq (eV k) (lN (top,g) (top,g) w)) (.v (jS g 0 (top,g) (.t [b,n,dd,w]) k)) _ (get_set cI) mn (ab.put k (eA k aj9) (by show 0<=top;omega) hw) (by omega);rw[List.set_set]at e;exact⟨d0,qB,sk (ku (aG.of c5).to (AI (x_call (.of rfl) rfl (J' aH cI (by omega) iy)))) e,bB,by rw[akd];omega⟩
end
def rP{a k:aN}(h:j∈dG a k):j<6:=ak4.mp (al1.mp h).1
def aas(a k:aN):(dG a k).Nodup:=List.nodup_range.filter _
def I2{s:c9}(aj:s.c0=.aI)(i n:Int)(fO:fM d):(h9 s i n (some d)).c0=.aI:=by
 unfold h9;dsimp only;split
 .rcases fO with⟨a,m,rfl⟩|⟨a,m,rfl⟩<;>exact aj
 .exact aj
def VK(ak:Good a){aL:List dz}(ar:aL.length<1000){tx tA:bg}{r:R}(ae:tx Y=pure (.v (enc a)))(ah:tA Y=pure r)(aA:r.fi=some (aL.map c7)) :
  a3 (bt (nK 6) (U tx (U (e3 1 [] (j7 tA) gr (af aO (J 0) (aa (.int 0)))) ai))) Y=pure (a.fills λj=>(aL.map (·.k)).contains j):=by
 have a7:=DO (aL.map (·.k)) 6 a (by have:=ak.2.1;omega) ak.1;have ahS:(aL.map c7).length<aj3:=by rw[ajX];exact eQ (by omega)
 have mm:fX gr (af aO (J 0) (aa (.int 0))) (iP 1 [] Y) (aL.map c7)=pure ((aL.map (·.k)).map bH):=(q4 (Y:=iP 1 [] Y) c7 (λx=>bH x.k) aL λx _=>rfl).trans (by rw[amM];rfl);have aC:j7 tA Y=pure (aL.map c7):=by show(tA Y >>= _)=_;rw[ah];show(match r.fi with|some xs=>pure xs|none=>bad)=_;rw[aA]
 exact dB (call_of (cons_of ae (cons_of (pT aC ahS mm) rfl)) a7)
section
variable{a k:aN}(ak:Good a)(aw:Good k){P:c9->Prop}{W:List (List Nat)}
include ak aw
theorem Z1(eO:W.length<59){aq:List (List Key×D)}{S:cG}(cI:S[bn]? = some (.eI aq))(ab:i6 P W aq)(hz:aq.length+12<1000){g:Int}(vi:0<=g)(vk:g<6){n:Int}(aF:1<=n)(fO:fM d)(hd:n3 (λ_=>False) W d)(c:Int)(eY:P uQ)(lO:∀t,P t->t.c0=.aI)(My:∀t,fW (λ_=>False) W t->P t->P (h9 t g n (some d))) :
  ∃d0,bA S (zK [.ref bn,eZ a k,.int g,.int n,d.D,.int c]) (.v .aI) (S.set bn (.eI d0))/\i6 P W d0/\d0.length<=aq.length+12:=by
 have cS:dr d.D=.v d.D:=by rcases fO with⟨a,m,rfl⟩|⟨a,m,rfl⟩<;>rfl
 have kV:=o1 a k;have qO:((dG a k).map bH).length<aj3:=by rw[ajX];exact eQ (by omega)
 have abQ:aG S (fX gr (af aO (af aO (bt tJ (U (J 1) (U (J 0) (U (af aO (J 2) (aa (.int 0))) ai)))) (aa (.int 0))) (aa (.int 0))) [.e,.v (.ref bn),.v (eZ a k)] ((dG a k).map bH)) ((dG a k).map λj=>.int (nS (iG aq j))):=
  vQ bH (λj=>.int (nS (iG aq j))) (dG a k) λj _=>by
   obtain⟨pr,kp,w,aH,_⟩:=ab.1 j;rw[aH];exact b' (x:=.v (bW pr)) rfl (b' rfl (wI aH cI rfl rfl rfl) (.of rfl)) (.of rfl)
 obtain⟨b,bs,B1⟩:∃b bs,((dG a k).map λj=>nS (iG aq j))=b::bs:=by
  cases e:(dG a k).map λj=>nS (iG aq j)with
  |nil=>have:=L1 (k:=k) ak;rw[List.map_eq_nil_iff.mp e]at this;cases this
  |cons b bs=>exact⟨b,bs,rfl⟩
 have nO:vf [.fr ((dG a k).map λj=>.int (nS (iG aq j)))]=pure (.v (.int (iY b bs))):=by
  show(match nums ((dG a k).map λj=>D.int (nS (iG aq j)))with|some (b::bs)=>pure (R.v (.int (iY b bs)))|_=>bad)=_;rw[Ef,B1]
 have kW:=D9 bs b;have all:∀j∈dG a k,nS (iG aq j)<=iY b bs:=λj aR=>by
  have:nS (iG aq j)∈b::bs:=B1▸akV.mpr ⟨j,aR,rfl⟩;rcases aj5.mp this with e|h
  .rw[e];exact kW.1
  .exact kW.2 _ h
 have ho:0<=b:=by
  have:b∈((dG a k).map λj=>nS (iG aq j)):=B1▸aj9;obtain⟨j,_,e⟩:=akV.mp this;obtain⟨pr,kp,w,aH,ajF,_⟩:=ab.1 j;rw[aH]at e;have e:pr.1=b:=e;omega
 have ae:1<=1+iY b bs:=by omega
 generalize bM:iY b bs=m at *;obtain⟨A,jG⟩:=KA (xs:=[63,63,c / 6 % 64]) (i:=c % 3) (aoL _ (by decide)) (anV _ (by decide));obtain⟨B,Vu⟩:=KA (xs:=[63,c / 384 % 64]) (i:=c / 3 % 2) (aoL _ (by decide)) (anV _ (by decide));obtain⟨oU,aL,pf,lS,av,b2,aV,cb,zu⟩:=CB (W:=W) (g:=g) (A:=A) ae bn (.v (eZ a k)) (.v (.int g)) (.v (.int n)) (.v d.D) (.v (.int c)) (.v (.l ((dG a k).map bH))) (.v (.int (1+m))) (.v (.int B)) .e (dG a k) aq [] .e .e S cI (aas a k) (λ_ h=>rP h) ab (λj aR=>by have:=all j aR;omega) (λ_ h=>(nomatch h)) (by omega) (by show 0+_ < _;omega);have zu:aL.length<=0+(dG a k).length:=zu;obtain⟨t,q',tok,Pc⟩:=H4 (W:=W) eY aV;have XT:v8 [(aL.foldl dN ((0,0),jF)).2,.int g,.int n,d.D]=pure (.v (h9 t g n (some d)).D):=by rw[q'];exact Z0 tok (lO t Pc) eO g aF fO hd
 have ZP:iv P W (1+m,g) (h9 t g n (some d)).D:=.inr ⟨ae,_,rfl,I1 tok vi vk n λx ag=>by cases ag;exact hd,My t tok Pc⟩;have CH:=get_set (o':=.eI oU) cI;obtain⟨ZS,qB,aC,b3,cz⟩:=yM (W:=W) (g:=g) (A:=B) (b:=bW (aL.foldl dN ((0,0),jF)).1) (n:=.int n) (dd:=d.D) ae ZP bn (.v (eZ a k)) (.v (.int g)) (.v (.int n)) (.v d.D) (.v (.int c)) (.v (.l ((dG a k).map bH))) (.v (.int (1+m))) (.v (.int A)) (.er false (aL.map c7)) pf lS (dG a k) oU .e _ CH (λ_ h=>rP h) b2 (by omega);rw[List.set_set]at aC;have yT:a3 (bt (nK 6) (U (af aO (af aO (J 1) (aa (.int 1))) (aa (.int 0))) (U (e3 1 [] (j7 (J 10)) gr (af aO (J 0) (aa (.int 0)))) ai))) [.v (.ref bn),.v (eZ a k),.v (.int g),.v (.int n),.v d.D,.v (.int c),.v (.l ((dG a k).map bH)),.v (.int (1+m)),.v (.int A),.v (.int B),.er false (aL.map c7),pf,lS,.e]=pure (a.fills λj=>(aL.map (·.k)).contains j):=
  VK ak (by omega) rfl rfl rfl
 have pre:∀{Y':aQ}{S':cG},bA (S.set bn (.eI oU)) (Ht [.v (.ref bn),.v (eZ a k),.v (.int g),.v (.int n),.v d.D,.v (.int c),.v (.l ((dG a k).map bH)),.v (.int (1+m)),.v (.int A),.v (.int B),.er false (aL.map c7),pf,lS,.e]) (.bj Y') S'->bA S (zK [.ref bn,eZ a k,.int g,.int n,d.D,.int c]) (.v .aI) S':=λ{Y' S'} q=>FT (Y':=Y') rfl (by
  show bA S (Bs [.v (.ref bn),.v (eZ a k),.v (.int g),.v (.int n),dr d.D,.v (.int c),.e,.e,.e,.e,.e,.e,.e,.e]) _ _;rw[cS];exact cW (aG.of (ub (call_of rfl (DP ak aw)) rfl)).to<|
   cW (aG.to (iF (b' (r:=.v (.int (1+m))) rfl (.of rfl) (mI nO (bD (ze (.of rfl) qO abQ) de))) rfl))<|
   cW (aG.of (fj (bZ jG (tw (cons_of rfl (cons_of rfl (cons_of (bZ (hc (by decide)) (bZ (nj (jd (by decide) (by decide))) rfl rfl) rfl) rfl))) rfl (akc rfl)) (bZ (hc (by decide)) rfl rfl)))).to<|
   cW (aG.of (fj (bZ Vu (tw (cons_of rfl (cons_of (bZ (hc (by decide)) (bZ (nj (jd (by decide) (by decide))) rfl rfl) rfl) rfl)) rfl (akc rfl)) (bZ (hc (by decide)) (bZ (nj (jd (by decide) (by decide))) rfl rfl) rfl)))).to<|
   cW (aG.of abL).to<|cW (AJ (Du (.of (call_of rfl (Lm ak aw g (1+m,g))))) av) q)
 cases q:a.fills λj=>(aL.map (·.k)).contains j with
 |false=>
  rw[q]at yT;exact⟨oU,pre (nY (aG.of yT).to rfl),b2,by omega⟩
 |true=>
  rw[q]at yT;exact⟨ZS,pre (ku (aG.of yT).to (AJ (Du (.of (call_of rfl (Z4 ak aw g (1+m,g) n cS XT)))) aC)),b3,by omega⟩
end
def or_eq(m n:Nat):tS (.v (bH m)) (.v (bH n))=pure (.v (bH (m ||| n))):=by
 rw[lL,lL,lL,<-Ez];rfl
def bX.kept(a:bX)(k:Nat):bX:={ a with dm:=a.dm ||| maskOf [k] }
def bX.ends(a:bX)(o:D):bX:={ a with cc:="calm",cZ:=o }
def bX.qQ(a:bX)(mf:fb)(ds:List D)(b:bX):Prop:=∀(S:cG)(i g:Nat),ec S i g a->∃S' g',bA S (mf (.ref i::ds)) (.v .aI) S'/\ed S S' i g g' b
section
variable{S S1 bh:cG}{Y Y':aQ}{i g k:Nat}{a b c:bX}{f:Str}{d:D}{mv:bg}{r:R}{bd:bf}{a7:gv}
def acM(h:ec S i g a)(b:bX)(aw:J k Y=pure (.v (.ref i)))(ev:aG S (mv Y) r)(kK:r.dat=pure d)(e:iI f d (a.aY g)=b.aY g)(f7:b.aL=a.aL):e1 S i g (eS "Asker" f (J k) (c1 mv) Y) (.bj Y) b:=
 ⟨_,g,x_at ev.to kK (.of aw) h.bx DC,⟨by rw[get_set h.bx,e],by rw[akn h.ne,f7];exact h.ls⟩,.set (by simp),.inl rfl,by rw[ak7];exact aj0 _⟩
theorem CC{t:aQ->M Bool}{m n:bf}(e:aG S (t Y) true)(q:e1 S i g (m Y) a7 c):e1 S i g (eT (fy t) m n Y) a7 c:=by
 obtain⟨bh,g2,t,s⟩:=q;exact⟨bh,g2,ku (aG.to e) t,s⟩
theorem V'{t:aQ->M Bool}{m n:bf}(e:aG S (t Y) false)(q:e1 S i g (n Y) a7 c):e1 S i g (eT (fy t) m n Y) a7 c:=by
 obtain⟨bh,g2,t,s⟩:=q;exact⟨bh,g2,nY (aG.to e) t,s⟩
theorem yr{ms:hF}{rs:List R}(h:ec S i g a)(q:a.qQ mf (rs.map R.arg) c)(aw:J k Y=pure (.v (.ref i)))(aF:(a.aY g).lookup m=none)(ah:bA S (ms Y) rs S)(aj:rs.all R.jR=true):e1 S i g (lZ (fR "Asker" m mf (J k) ms) Y) (.bj Y) c:=by
 obtain⟨bh,g2,t,s⟩:=q _ _ _ h;exact⟨bh,g2,AI (sl h.bx (.of aw) aF ah aj t),s⟩
theorem JF{m:bf}(q:e1 S i g (m Y) (.bj Y') b)(p:∀S1 g1,ec S1 i g1 b->e1 S1 i g1 (bd Y') a7 c):e1 S i g (bE m bd Y) a7 c:=by
 obtain⟨S1,g1,t1,s1⟩:=q;obtain⟨bh,g2,dJ,s2⟩:=p S1 g1 s1.at';exact⟨bh,g2,cW t1 dJ,s1.trans s2⟩
theorem BX{n N:Nat}{bd:bf}{ds:List D}(h:ds.length+1=n)(q:∀S i g,ec S i g a->∃Y',e1 S i g (bd (.v (.ref i)::ds.map dr++akQ (N-n) .e)) (.bj Y') c):a.qQ (fnX n N bd) ds c:=λS i g d7=>by
 obtain⟨Y',bh,g2,t,s⟩:=q S i g d7;exact⟨bh,g2,FT h t,s⟩
end
def B6{a:bX}(a':dr o=.v o):a.qQ tD [o] (a.ends o):=BX rfl λS i g h=>by
 show ∃Y',e1 S i g (Bl [.v (.ref i),dr o]) (.bj Y') _;rw[a'];exact⟨_,iC h { a with cc:="calm" } rfl (.of rfl) rfl rfl rfl λS h=>acM h (a.ends o) rfl (.of rfl) rfl rfl rfl⟩
def Vy{a:bX}{x ans:D}(hd:a.dd≠.aI)(bM:dr a.di=.v a.di)(dS:rL [a.di,.int a.me]=pure (.v (.t [x,.int a.wi,ans]))):a.qQ tC [] (a.ends (.t [.str "did",ans])):=BX rfl λS i g h=>
 ⟨[.v (.ref i),.v a.di,.v (.t [x,.int a.wi,ans])],ta (Y':=[.v (.ref i),.v a.di,.e]) (iF (r:=.v a.di) (cO h rfl rfl) rfl)<|
  CC (cQ (b' (by rw[aaX];revert hd;cases a.dd<;>first|exact λ_=>rfl|exact λh=>absurd rfl h) (cO (d:=a.dd) h rfl rfl) (.of rfl)))<|
  ta (iF (r:=.v (.t [x,.int a.wi,ans])) (eP (rs:=[.v a.di,.v (.int a.me)]) (bD (.of rfl) (bD (cO h rfl rfl) de)) (.of dS)) rfl)<|
  CC (cQ (b' (nq.trans (by rw[decide_eq_true rfl])) (.of rfl) (cO (d:=.int a.wi) h rfl rfl)))<|
  yr (rs:=[.v (.t [.str "did",ans])]) h (B6 rfl) rfl rfl (aG.to (.of rfl)) rfl⟩
section
variable{a:bX}{ms:List Nat}{ef iA:Nat->Bool}(H:n5 a.h ms ef iA){k:Nat}{me e:Int}{s:c3}(aw:k<6)
include H aw
theorem K0(h:ec S i g (a.kept k)):aG S (fw (a3 (bt (j_ 12) (U (af aO (bL (cD "Asker" "hall") (J 0)) (aa (.int 1))) (U (bL (cD "Asker" "kept_mask") (J 0)) ai)))) [.v (.ref i),.v (mJ k me e s),s2]) (!iA (a.kept k).dm):=by
 obtain⟨x,y,jH,_,_,_,f2⟩:=H.ex;exact j8 (cQ (eP (bD (b' (x:=.v (.t [x,y])) (r:=.v y) rfl (cO h rfl (by show some a.h=_;rw[jH])) (.of rfl)) (bD (cO h rfl rfl) de)) (.of (f2 _))))
theorem K1(h:ec S i g a)(p:∀S1,ec S1 i g (a.kept k)->e1 S1 i g (GO [.v (.ref i),.v (mJ k me e s),.e]) a7 c):e1 S i g (Bm [.v (.ref i),.v (mJ k me e s),.e]) a7 c:=
 iC h (a.kept k) rfl (b' (or_eq a.dm (maskOf [k])) (cO h rfl rfl) (eP (rs:=[.fr [bH k]]) (.of (cons_of (tw (cons_of (bZ rfl rfl rfl) rfl) rfl (akc rfl)) rfl)) (.of (D7 [k] λj aR=>by rw[akg.mp aR];omega)))) rfl rfl rfl p
theorem J8(q:iA (a.kept k).dm=false):a.Do vY [mJ k me e s] [] (a.kept k):=h8 rfl λS i g h=>
 K1 H aw h λS h=>tb h (by have:=K0 (me:=me) (e:=e) (s:=s) (s2:=.e) H aw h;rw[q]at this;exact this) (.of rfl)
theorem X0{c:bX}(q:iA (a.kept k).dm=true)(B5:(a.kept k).qQ tC [] c)(aj:rO [c.di]=pure (.v .aI)):a.Do vY [mJ k me e s] [] c:=h8 rfl λS i g h=>
 K1 H aw h λS h=>hs (by have:=K0 (me:=me) (e:=e) (s:=s) (s2:=.e) H aw h;rw[q]at this;exact this)<|
 JF (Y':=[.v (.ref i),.v (mJ k me e s),.e]) (yr (rs:=[]) h B5 rfl rfl rfl rfl) λS g h=>
 ta (iF (r:=.v .aI) (eP (bD (cO h rfl rfl) de) (.of aj)) rfl)<|tb h (cQ (.of rfl)) (.of rfl)
end
def tV:akf "kept"=true:=by decide +kernel
def zl:oEq (.v (.str "kept")) (.v (.str "late"))=pure (.v (.az false)):=by rw[fY tV rY];rfl
def DB:oEq (.v (.str "kept")) (.v (.str "grant"))=pure (.v (.az false)):=by rw[fY tV rX];rfl
def zk:oEq (.v (.str "kept")) (.v (.str "kept"))=pure (.v (.az true)):=by rw[fY tV tV,beq_self_eq_true]
section
variable{a:bX}{ms:List Nat}{ef iA:Nat->Bool}(H:n5 a.h ms ef iA)(aj:a.qX){k:Nat}{e:Int}{s:c3}
include H aj
theorem CS(q:a.now ms k e s=true)(c:a.cc="telling"){t:bX}(g:a.Do vY [mJ k a.me e s] σ t):a.Do mM [mJ k a.me e s] σ t:=h8 rfl λS i j h=>
 hs (t4 h (.str "kept") (.t []) k e s)<|lB (cQ (b' zl (.of rfl) (.of rfl)))<|
 hs (by have:=wu H h (.str "kept") (.t []) k a.me e s;rw[q]at this;exact this)<|
 lB (oP (cQ (b' DB (.of rfl) (.of rfl))))<|
 yO (kS (cQ (b' zk (.of rfl) (.of rfl))) (cQ (b' (by rw[fY (uc aj) mP,c,beq_self_eq_true]) (cO h rfl rfl) (.of rfl))))<|
 s' (rs:=[.v (mJ k a.me e s)]) h g rfl rfl (aG.to (.of rfl)) rfl
theorem X1(q:a.now ms k e s=true)(c:a.cc≠"telling"):a.Do mM [mJ k a.me e s] [] a:=h8 rfl λS i j h=>
 hs (t4 h (.str "kept") (.t []) k e s)<|lB (cQ (b' zl (.of rfl) (.of rfl)))<|
 hs (by have:=wu H h (.str "kept") (.t []) k a.me e s;rw[q]at this;exact this)<|
 lB (oP (cQ (b' DB (.of rfl) (.of rfl))))<|
 lB (kS (cQ (b' zk (.of rfl) (.of rfl))) (cQ (b' (by rw[fY (uc aj) mP,show(a.cc == "telling")=false by simpa using c]) (cO h rfl rfl) (.of rfl))))<|
 ri h (.of rfl)
end
structure e0 where
 me:Int
 pl:D
 fP:Int
 cw:Int
 h:Nat
 cv:List D
 fr:List D
 a:Nat
def e0.L(n:e0)(b:Nat):List (Key×D):=[(.inr "me",.int n.me),(.inr "place",n.pl),(.inr "books",.ref b),(.inr "turn",.int n.fP),(.inr "top",.int n.cw),(.inr "heard",.ref n.h),(.inr "mine",.l n.cv),(.inr "fresh",.l n.fr),(.inr "answers",.ref n.a)]
abbrev jX:=List (List Key×D)
structure dn(S:cG)(i g w b:Nat)(A:bX)(n:e0)(aj:List Nat)(as:List D)(aq:jX):Prop where
 dR:ec S i g A
 cH:S[w]? = some (.cH (n.L b))
 c_:S[b]? = some (.eI aq)
 aA:S[n.h]? = some (.l (aj.map bH))
 dM:S[n.a]? = some (.l as)
 e7:g≠n.h
 dW:g≠n.a
 kX:n.h≠n.a
section
variable{S S1:cG}{Y:aQ}{i g w b g1 k:Nat}{A A1:bX}{n:e0}{aj:List Nat}{as:List D}{aq:jX}{f:Str}{d:D}{mv:bg}{x:R}
def rS{x y:Nat}(ae:S[x]? = some o)(ah:S[y]? = some o')(n:o≠o'):x≠y:=λe=>n (by rw[e,ah]at ae;exact(akv ae).symm)
def hT{x y:Nat}(ae:S[x]? = some o)(ah:S[y]? = some o')(n:o≠o'):(S.set x jk)[y]? = some o':=by rw[akn (rS ae ah n)];exact ah
def w7{x y:Nat}(h:x≠y)(ah:S[y]? = some o'):(S.set x jk)[y]? = some o':=by rw[akn h];exact ah
def dn.put(h:dn S i g w b A n aj as aq)(dE:e0)(av:dE.h=n.h)(aC:dE.a=n.a):dn (S.set w (.cH (dE.L b))) i g w b A dE aj as aq:=
 ⟨⟨hT h.cH h.dR.bx (λz=>nomatch z),hT h.cH h.dR.ls (λz=>nomatch z)⟩,get_set h.cH,hT h.cH h.c_ (λz=>nomatch z),by rw[av];exact hT h.cH h.aA (λz=>nomatch z),by rw[aC];exact hT h.cH h.dM (λz=>nomatch z),by rw[av];exact h.e7,by rw[aC];exact h.dW,by rw[av,aC];exact h.kX⟩
def dn.EF(h:dn S i g w b A n aj as aq)(d0:jX):dn (S.set b (.eI d0)) i g w b A n aj as d0:=
 ⟨⟨hT h.c_ h.dR.bx (λz=>nomatch z),hT h.c_ h.dR.ls (λz=>nomatch z)⟩,hT h.c_ h.cH (λz=>nomatch z),get_set h.c_,hT h.c_ h.aA (λz=>nomatch z),hT h.c_ h.dM (λz=>nomatch z),h.e7,h.dW,h.kX⟩
def dn.step(h:dn S i g w b A n aj as aq)(s:ed S S1 i g g1 A1):dn S1 i g1 w b A1 n aj as aq:=by
 have:=s.nw;have:=rJ h.aA;have:=rJ h.dM;have:=h.e7;have:=h.dW;exact⟨s.at',s.fr _ _ (by simp[rS h.cH h.dR.bx (λz=>nomatch z),rS h.cH h.dR.ls (λz=>nomatch z)]) h.cH,s.fr _ _ (by simp[rS h.c_ h.dR.bx (λz=>nomatch z),rS h.c_ h.dR.ls (λz=>nomatch z)]) h.c_,s.fr _ _ (by simp[rS h.aA h.dR.bx (λz=>nomatch z),h.e7.symm]) h.aA,s.fr _ _ (by simp[rS h.dM h.dR.bx (λz=>nomatch z),h.dW.symm]) h.dM,by omega,by omega,h.kX⟩
def dn.mark(h:dn S i g w b A n aj as aq)(y:Nat):dn (S.set n.h (.l (aj.map bH++[bH y]))) i g w b A n (aj++[y]) as aq:=
 ⟨⟨hT h.aA h.dR.bx (λz=>nomatch z),w7 h.e7.symm h.dR.ls⟩,hT h.aA h.cH (λz=>nomatch z),hT h.aA h.c_ (λz=>nomatch z),by rw[get_set h.aA,akO];rfl,w7 h.kX h.dM,h.e7,h.dW,h.kX⟩
def dn.ans(h:dn S i g w b A n aj as aq)(y:D):dn (S.set n.a (.l (as++[y]))) i g w b A n aj (as++[y]) aq:=
 ⟨⟨hT h.dM h.dR.bx (λz=>nomatch z),w7 h.dW.symm h.dR.ls⟩,hT h.dM h.cH (λz=>nomatch z),hT h.dM h.c_ (λz=>nomatch z),w7 h.kX.symm h.aA,get_set h.dM,h.e7,h.dW,h.kX⟩
def dn.anew(h:dn S i g w b A n aj as aq):dn ((S++[gI.l []]).set w (.cH (e0.L { n with h:=S.length } b))) i g w b A { n with h:=S.length } [] as aq:=by
 have ap:∀{j:Nat}{o':gI},S[j]? = some o'->(S++[gI.l []])[j]? = some o':=λz=>Fr.app (W:=[]) _ _ (ak1) z
 have zu:=rJ h.dR.ls;have zr:=rJ h.dM;have lw:=rJ h.cH;exact⟨⟨hT (ap h.cH) (ap h.dR.bx) (λz=>nomatch z),hT (ap h.cH) (ap h.dR.ls) (λz=>nomatch z)⟩,get_set (ap h.cH),hT (ap h.cH) (ap h.c_) (λz=>nomatch z),w7 (by show w≠S.length;omega) JA,hT (ap h.cH) (ap h.dM) (λz=>nomatch z),by show g≠S.length;omega,h.dW,by show S.length≠n.a;omega⟩
def gC(h:dn S i g w b A n aj as aq)(aw:J k Y=pure (.v (.ref w)))(e:iQ (n.L b) (.inr f)=some d):aG S (af dH (J k) (aa (.str f)) Y) (.v d):=Zs h.cH (.of aw) (.of rfl) rfl e
def rQ(h:dn S i g w b A n aj as aq)(dE:e0)(aw:J k Y=pure (.v (.ref w)))(ev:aG S (mv Y) x)(kK:x.dat=pure d)(e:gz (n.L b) (.inr f) d=dE.L b):bA S (jw (J k) (aa (.str f)) (c1 mv) Y) (.bj Y) (S.set w (.cH (dE.L b))):=by
 have:=PF (k:=.inr f) (kd:=.str f) (mk:=aa (.str f)) (mo:=J k) (mv:=c1 mv) (Y:=Y) ev.to kK (.of aw) (.of rfl) h.cH rfl (show(n.L b).length<1000 from akc rfl);rw[e]at this;exact this
theorem L6(h:dn S i g w b A n aj as aq)(aw:J k Y=pure (.v (.ref w))):bA S (jw (J k) (aa (.str "heard")) (kq (c1 (dh ai))) Y) (.bj Y) ((S++[gI.l []]).set w (.cH (e0.L { n with h:=S.length } b))):=
 PF (k:=.inr "heard") (kd:=.str "heard") (mk:=aa (.str "heard")) (mo:=J k) (Y:=Y) (mv:=kq (c1 (dh ai))) (FU (S:=S)) rfl (.of aw) (.of rfl) (Fr.app (W:=[]) _ _ (ak1) h.cH) rfl (show(n.L b).length<1000 from akc rfl)
def Dv{ms:c8}{ds:List D}(h:aG S (ms Y) rs)(e:kJ rs=pure ds)(z:ds.length<=1000):aG S (dh ms Y) (.fr ds):=h.bind ((aG.of e).bind ((Ds z).bind (.of rfl)))
def Dr{a b:bg}{r:R}(h:aG S (a Y) (.v (.az true)))(ah:aG S (b Y) r):aG S (j1 a b Y) r:=h.bind ((aG.of (m:=R.lT (.v (.az true))) (a:=true) rfl).bind ah)
def Zp{a b:bg}(h:aG S (a Y) (.v (.az false))):aG S (j1 a b Y) (.v (.az false)):=h.bind ((aG.of (m:=R.lT (.v (.az false))) (a:=false) rfl).bind (.of rfl))
def Zt{n N:Nat}{b:aX}{ds xs:List D}(h:ds.length=n)(e:aG S (b (ds.map dr++akQ (N-n) .e)) (.cJ (.fr xs))):aG S (fnOf n N b ds) (.fr xs):=by
 rw[yu,if_pos h];exact e.bind (.of rfl)
def lq{k:Nat}{v:D}(h:ec S i g A)(h0:J k Y=pure (.v (.ref i)))(ae:(A.aY g).lookup m=none)(ah:(A.aY g).lookup f=some v)(e:bd=bw (bL (cD "Asker" f) (J 0))):aG S (fp "Asker" m (fnOf 1 1 bd) (J k) ai Y) (.v v):=vR h.bx (.of h0) ae de (tm rfl (by rw[e];exact ji (cO h rfl ah)))
def gB(A:bX):List D:=[.str A.cc,A.cZ,.int A.wi,bW A.st,.t [.int A.cf,A.h,A.op],.az A.ea]
def zv(h:ec S i g A):aG S (lK [.ref i]) (.fr (gB A)):=
 Zt rfl (zg (Dv (rs:=[.v (.str A.cc),.v A.cZ,.v (.int A.wi),.v (bW A.st),.v (.t [.int A.cf,A.h,A.op]),.v (.az A.ea)]) (bD (lq h rfl rfl rfl rfl) (bD (lq h rfl rfl rfl rfl) (bD (lq h rfl rfl rfl rfl) (bD (lq h rfl rfl rfl rfl) (bD (vR h.bx (.of rfl) rfl de (tm rfl (ji (oR (bD (cO h rfl rfl) (bD (cO h rfl rfl) (bD (cO h rfl rfl) de))) rfl (akc rfl))))) (bD (lq h rfl rfl rfl rfl) de)))))) rfl (akc rfl)))
structure Std(A:bX):Prop where
 hv:akf A.cc=true
 jk:Ok 12 A.cZ
 zW:Ok 12 (.t [.int A.cf,A.h,A.op])
theorem abg(s:Std A):Ok 13 (.l (gB A)):=zZ (n:=12) (akc rfl) λx ag=>by
 simp only[gB,aj5,ak1,or_false]at ag;rcases ag with rfl|rfl|rfl|rfl|rfl|rfl
 .exact tX s.hv
 .exact s.jk
 .exact ij
 .exact qs (n:=1) (qq ij ij) (by decide)
 .exact s.zW
 .exact abc
def Fb(h:ec S i g A)(s:Std A)(ou:Ok 13 (.l σ))(h0:J 0 Y=pure (.v (.ref i)))(bN:J c Y=pure (.v (.l (gB A)))):aG S (bt (gb 14) (U (bt lK (U (J 0) ai)) (U (J c) ai)) Y) (.v (.az true)):=
 eP (rs:=[.fr (gB A),.v (.l (gB A))]) (bD (eP (rs:=[.v (.ref i)]) (bD (.of h0) de) (zv h)) (bD (.of bN) de)) (.of (same_refl 13 _ (abg s)))
end
def h3(me fJ:Int)(t:c9):Prop:=t.c0=.aI/\t.last me<=fJ
def h3.mono{me fJ Mk:Int}{t:c9}(h:h3 me fJ t)(ar:fJ<=Mk):h3 me Mk t:=⟨h.1,by have:=h.2;omega⟩
def Mx{me fJ:Int}(h:0<=fJ):h3 me fJ uQ:=⟨rfl,h⟩
def iv.mono{P kD:c9->Prop}(h:iv P W s w)(aH:∀t,P t->kD t):iv kD W s w:=h.imp id λ⟨a,t,e,o,p⟩=>⟨a,t,e,o,aH t p⟩
def i6.mono{P kD:c9->Prop}(h:i6 P W aq)(aH:∀t,P t->kD t):i6 kD W aq:=⟨λk=>by
 obtain⟨pr,kp,w,e,h0,aw⟩:=h.1 k;exact⟨pr,kp,w,e,h0,aw.mono aH⟩,h.2⟩
section
variable{G:D->Prop}{W:List (List Nat)}{t:c9}(ok:fW G W t){me fJ:Int}{d:g6}(fO:fM d)
include ok
theorem Lk(i n j:Int):(h9 t i n (some d)).last j=if(wt t.c0=true/\t.last i<n)/\j=i then n else t.last j:=by
 unfold h9;dsimp only
 by_cases c:wt t.c0=true/\t.last i<n
 .rw[if_pos c]
  unfold c9.last;rw[V4 (Q:=jz) _ ok.oh.nodup]
  by_cases e:j=i
  .rw[if_pos e,if_pos ⟨c,e⟩];rfl
  .rw[if_neg e,if_neg (λz=>e z.2)]
 .rw[if_neg c,if_neg λz=>c z.1]
include fO
theorem abP{g:Int}(aV:g≠me)(n:Int)(h:h3 me fJ t):h3 me fJ (h9 t g n (some d)):=
 ⟨I2 h.1 g n fO,by rw[Lk ok,if_neg λz=>aV z.2.symm];exact h.2⟩
theorem abO(h:h3 me fJ t):h3 me fJ (h9 t me fJ (some d))/\(h9 t me fJ (some d)).last me=fJ:=by
 have e:(h9 t me fJ (some d)).last me=fJ:=by
  rw[Lk ok,h.1]
  by_cases c:t.last me<fJ
  .rw[if_pos ⟨⟨rfl,c⟩,rfl⟩]
  .rw[if_neg λz=>c z.1.2];have:=h.2;omega
 exact⟨⟨I2 h.1 me fJ fO,by rw[e];exact amD _⟩,e⟩
end
def ZU{G:D->Prop}{t:c9}(ok:fW G W t){me fJ:Int}(ae:1<=fJ)(h:t.last me=fJ):∃z,(me,.t [.int me,.int fJ,z])∈t.ds:=by
 unfold c9.last at h
 cases e:e4 (Q:=jz) t.ds me with
 |none=>rw[e]at h;have h:(0:Int)=fJ:=h;omega|some d=>
  have hm:=vm e;obtain⟨n,z,aC⟩:=ok.num _ hm;have aC:d=.t [.int me,.int n,z]:=aC;rw[e,aC]at h;have h:n=fJ:=h;rw[aC,h]at hm;exact⟨z,hm⟩
def Vl{G:D->Prop}{t:c9}(ok:fW G W t){me:Int}(h:(me,d)∈t.ds):rL [t.D,.int me]=pure (.v d):=by
 have e:=BW (λx ag=>(ok.num x ag).yo) (.t (t.cs.map (·.2))) (.t [.int t.f,t.t]) t.c0 me;have aV:e4 (Q:=fI.κ.toKeyOrd) t.ds me=some d:=Cz (Q:=jz) ok.oh.nodup h;rw[aV]at e;exact e
def Qr(ps:List dz)(eY:dz)(ar:(eY::ps).length<=1000):zD [.l ((eY::ps).map c7)]=pure (.v (.az ((eY::ps).all λp=>decide (p.s=eY.s)))):=by
 have c:fX gr (af oEq (af aO (J 0) (aa (.int 1))) (af aO (af aO (J 1) (aa (.int 0))) (aa (.int 1)))) [.e,.cu ((eY::ps).map c7)] ((eY::ps).map c7)=pure ((eY::ps).map λp=>D.az (decide (p.s=eY.s))):=
  q4 c7 _ _ λp _=>by
   have e:=I8 p.s eY.s;simp[c7,e]
 have z:((eY::ps).map c7).length<aj3:=by rw[ajX];exact eQ (by omega)
 have b:=Bz (λp:dz=>decide (p.s=eY.s)) (eY::ps);exact j4 rfl (jP (j2 (by show(match lx _ with|some bs=>_|none=>_)=_;rw[b];show pure (R.v (.az ((List.map _ _).all id)))=_;rw[List.all_map];rfl) (cons_of (pT (ds:=(eY::ps).map c7) rfl z c) rfl)))
def OG{t:c9}(h:t.c0=.aI):rO [t.D]=pure (.v .aI):=by
 refine j4 rfl (jP ?_);unfold c9.D;rw[h];exact bZ rfl rfl rfl
def KH{t:c9}(h:t.c0=.aI):qj [t.D]=pure (.v (.az false)):=j4 rfl (jP (bZ (x:=.v .aI) rfl (call_of (rs:=[.v t.D]) rfl (OG h)) rfl))
section
variable{a:bX}{ms:List Nat}{ef iA:Nat->Bool}(H:n5 a.h ms ef iA){p:dz}{ps:List dz}(f7:a.aL=p::ps)(aV:∀g∈a.aL,g.k<6)(ar:a.aL.length<=1000){t:c9}(aj:t.c0=.aI){s:c3}
include H f7 aV ar aj
theorem OC{i g:Nat}(h:ec S i g a):aG S (DY [.ref i,t.D]) (.v (.az ((a.aL.all λg=>decide (g.s=p.s))&&iA (maskOf (a.aL.map (·.k)))))):=by
 obtain⟨x,y,jH,ag,ba,_,f2⟩:=H.ex;have g2:=Qr ps p (by rw[<-f7];exact ar);rw[<-f7]at g2;have al:aG S (a3 (bt zD (U (gN (bL (cD "Asker" "grants") (J 0))) ai)) [.v (.ref i),.v t.D]) (a.aL.all λg=>decide (g.s=p.s)):=cQ (eP (bD (Ba h rfl) de) (.of g2));refine tm rfl ?_;generalize(a.aL.all λg=>decide (g.s=p.s))=b3 at *;have OF:aG S (a3 (bt qj (U (J 1) ai)) [.v (.ref i),.v t.D]) false:=.of (dB (call_of (rs:=[.v t.D]) rfl (KH aj)))
 cases b3 with
 |false=>exact tn (nF (oQ OF (j8 al)) (ji (.of rfl)))| true=>exact vS (rB (oQ OF (j8 al)) (.of rfl)) (ji (eP (bD (b' (x:=.v (.t [x,y])) (r:=.v y) rfl (cO h rfl (by show some a.h=_;rw[jH])) (.of rfl)) (bD (CD h aV ar _) de)) (.of (f2 _))))
variable(hd:a.dd=.aI)
include hd
theorem Wc(q:((a.aL.all λg=>decide (g.s=p.s))&&iA (maskOf (a.aL.map (·.k))))=true):a.Do rK [.t [bW s,t.D]] [] (a.ends (.t [.str "saw",.t [.int a.cf,bW s,t.D]])):=h8 rfl λS i g h=>by
 have w4:=OC H f7 aV ar aj h;rw[q]at w4;exact yO (kS (cQ (b' rfl (cO (d:=.aI) h rfl (by rw[<-hd];rfl)) (.of rfl))) (cQ (vR h.bx (.of rfl) rfl (bD (x:=.v t.D) (.of rfl) de) w4)))<|
  JF (yr (rs:=[.v (.t [.str "saw",.t [.int a.cf,bW s,t.D]])]) h (B6 rfl) rfl rfl (aG.to (bD (oR (bD (.of rfl) (bD (oR (bD (cO h rfl rfl) (bD (.of rfl) (bD (.of rfl) de))) rfl (akc rfl)) de)) rfl (akc rfl)) de)) rfl) λS g h=>ri h (.of rfl)
theorem Wb(q:((a.aL.all λg=>decide (g.s=p.s))&&iA (maskOf (a.aL.map (·.k))))=false)(dS:mN [t.D,.int a.me,.int a.wi,.aI]=pure (.v t.D)):a.Do rK [.t [bW s,t.D]] (ms.map (jS a.me a.cf a.st (.t [bW s,.int a.wi,.aI,t.D]))) (a.tells t.D):=h8 rfl λS i g h=>by
 have w4:=OC H f7 aV ar aj h;have hm:=H.mem;have ig:=H.len;rw[q]at w4;exact lB (kS (cQ (b' rfl (cO (d:=.aI) h rfl (by rw[<-hd];rfl)) (.of rfl))) (cQ (vR h.bx (.of rfl) rfl (bD (x:=.v t.D) (.of rfl) de) w4)))<|
  iC h { a with cc:="telling" } rfl (.of rfl) rfl rfl rfl λS h=>
  iC h { a with cc:="telling",dm:=0 } rfl (.of rfl) rfl rfl rfl λS h=>
  iC h (a.tells t.D) rfl (eP (rs:=[.v t.D,.v (.int a.me),.v (.int a.wi),.v .aI]) (bD (.of rfl) (bD (cO h rfl rfl) (bD (cO h rfl rfl) (bD (cO h rfl (by show some a.dd=_;rw[hd])) de)))) (.of dS)) rfl rfl rfl λS h=>
  ta (iF (r:=.v (.t [bW s,.int a.wi,.aI,t.D])) (oR (bD (.of rfl) (bD (cO h rfl rfl) (bD (cO (d:=.aI) h rfl (by show some a.dd=_;rw[hd])) (bD (cO h rfl rfl) de)))) rfl (akc rfl)) rfl)<|
  ri h (zg (ze (Dt (eP (bD (cO h rfl rfl) de) (.of hm)) rfl) (by rw[ajX];exact eQ (by omega))
   (vQ bH (jS a.me a.cf a.st (.t [bW s,.int a.wi,.aI,t.D])) ms λk _=>eP (bD (cO h rfl rfl) (bD (.of rfl) (bD (cO h rfl rfl) (bD (cO h rfl rfl) (bD (.of rfl) de))))) (.of rfl))))
end
def Vz{a:bX}{t:c9}(hd:a.dd=.aI)(q':a.di=t.D)(aj:t.c0=.aI):a.qQ tC [] (a.ends (.t [.str "saw",.t [.int a.cf,bW a.st,t.D]])):=BX rfl λS i g h=>
 ⟨[.v (.ref i),.v t.D,.e],ta (Y':=[.v (.ref i),.v t.D,.e]) (iF (r:=.v t.D) (cO h rfl (by rw[<-q'];rfl)) rfl)<|
  V' (cQ (b' rfl (cO (d:=.aI) h rfl (by rw[<-hd];rfl)) (.of rfl)))<|
  CC (j8 (cQ (eP (rs:=[.v t.D]) (.of rfl) (.of (KH aj)))))<|
  yr (rs:=[.v (.t [.str "saw",.t [.int a.cf,bW a.st,t.D]])]) h (B6 rfl) rfl rfl (aG.to (bD (oR (bD (.of rfl) (bD (oR (bD (cO h rfl rfl) (bD (cO h rfl rfl) (bD (.of rfl) de))) rfl (akc rfl)) de)) rfl (akc rfl)) de)) rfl⟩
section
variable{a:bX}{ms:List Nat}(hm:mO [a.h]=pure (.fr (ms.map bH)))(ar:ms.length<=6)
include hm ar
theorem SW(aj:a.cc="calm")(a':a.ea=false):a.Do tB [.aI] (ms.map (hG a.me a.cf (a.bb+1,a.me))) (a.sO .aI).asks:=h8 rfl λS i g h=>
 hs (oP (cQ (b' rfl (.of rfl) (.of rfl))))<|
  hs (cQ (cO h rfl (by show some (D.az a.ea)=_;rw[a'])))<|
  hs (cQ (b' (by rw[Ir (a:=a) (.inl aj),aj,beq_self_eq_true];rfl) (cO h rfl rfl) (.of rfl)))<|
  iC h { a with wi:=a.wi+1 } rfl (b' rfl (cO h rfl rfl) (.of rfl)) rfl rfl rfl λS h=>
  iC h { a with wi:=a.wi+1,dd:=.aI } rfl (.of rfl) rfl rfl rfl λS h=>
  iC h (a.sO .aI) rfl (.of rfl) rfl rfl rfl λS h=>
  s' (rs:=[]) h (Bd (a:=a.sO .aI) hm ar) rfl rfl rfl rfl
end
def hn(me:Int)(h:D)(bb:Int)(st:c3)(wi:Int)(dd:D)(cc:Str)(cZ:D)(aL:List dz)(dm:Nat)(di:D):bX:=⟨me,0,h,jF,false,bb,st,wi,dd,cc,cZ,aL,dm,di⟩
def Fc(r:aN):dr (enc r)=.v (enc r):=by cases r;rw[q_];rfl;rw[pX];rfl
def JQ{a k:aN}(ak:Good a)(aw:Good k):n5 (dT a k) (dG a k) (λm=>a.fills (fC m)) (λm=>k.fills (fC m)) where
 mem:=zP ak aw
 len:=o1 a k
 lt:=λ_ h=>rP h
 ne:=λz=>by have:=L1 (k:=k) ak;rw[z]at this;cases this
 ex:=⟨enc a,enc k,rfl,Fc a,Fc k,λm=>Cj m 12 a (by have:=ak.2.1;omega) ak.1,λm=>Cj m 12 k (by have:=aw.2.1;omega) aw.1⟩
def H_{bu:List Nat}(aw:∀k∈bu,k<6)(aR:j<6):fC (maskOf bu) j=bu.contains j:=by
 rw[zN bu aw];exact L5 _ j aR
def yA{a:aN}(ak:a.wf){bu:List Nat}(aw:∀k∈bu,k<6):a.fills (fC (maskOf bu))=a.fills λi=>bu.contains i:=Jf a λi aB=>H_ aw (tN a ak i aB)
def nu(k:aN)(ms:List Nat):Bool:=k.fills λi=>ms.contains i
def Qo(s:c3):fc s s=false:=by unfold fc;simp
def zt(xs:List D):fh [.v (.l xs)]=pure (.v (.int (xs.length:Nat))):=rfl
def Z_:oEq (.v (.str "late")) (.v (.str "grant"))=pure (.v (.az false)):=by rw[fY rY rX];rfl
def aaa:oEq (.v (.str "late")) (.v (.str "kept"))=pure (.v (.az false)):=by rw[fY rY tV];rfl
def n'(aL:List dz):c3×D:=aL.foldl dN ((0,0),jF)
def adC(s:c3)(t:c9):D:=.t [.str "saw",.t [.int 0,bW s,t.D]]
def Ew(s:c3)(h:1<=n):Ok n (bW s):=qs (n:=1) (qq ij ij) h
def abh:akf "saw"=true:=by decide +kernel
def Mp{W:List (List Nat)}{t:c9}(s:c3)(h:fW (λ_=>False) W t)(eO:W.length<59):Ok 12 (adC s t):=qq (n:=11) (tX abh) (Ep (n:=10) ij (Ew s (by decide)) (fW.ok h (by omega) λz hz=>hz.elim))
def wD{a k:aN}(ak:Good a)(aw:Good k):Ok 12 (eZ a k):=Ep (n:=11) ij (abe ak aw) (qs (n:=10) (fW.ok (Ib []) (by decide) λz hz=>hz.elim) (by decide))
def tW:Ok 13 (.l []):=zZ (n:=12) (akm _) λ_ h=>(nomatch h)
theorem fold_same:∀(ps:List dz)(c:c3×D),c.1=s->(∀g∈ps,g.s=s)->(ps.foldl dN c).1=s
 |[],_,h,_=>h|g::ps,c,h,aH=>by
  refine fold_same ps (dN c g) ?_ λx ag=>aH x (aj4 _ ag)
  unfold dN;rw[h,aH g aj9,Qo,if_neg aj6,h]
def Qt{P:c9->Prop}{p:dz}(aV:∀g∈p::ps,iv P W g.s g.w):((p::ps).all λg=>decide (g.s=p.s))=(p::ps).all λg=>decide (g.s=(n' (p::ps)).1):=by
 rw[alo,ak9,ak9];simp only[decide_eq_true_eq];constructor
 .intro h
  have:(n' (p::ps)).1=p.s:=by
   refine fold_same ps (dN ((0,0),jF) p) ?_ λg aV=>h g (aj4 _ aV)
   unfold dN;rcases aV p aj9 with⟨z,_⟩|⟨z,_⟩
   .rw[z];exact if_neg (show ¬fc (0,0) (0,0)=true by decide)▸rfl
   .rw[if_pos (show fc p.s (0,0)=true by unfold fc;simp;omega)]
  rw[this];exact h
 .intro h g aV
  rw[h g aV,h p aj9]
def ee(x:Str)(j:Nat)(me:Int)(s:c3)(ld:D):D:=.t [.str x,bH j,.int me,.int 0,bW s,ld]
abbrev sv(i w:Nat)(an:D)(s3 s4 s5 et d1:Slot):aQ:=[.v (.ref i),.v (.ref w),.v an,s3,s4,s5,et,d1]
def kI(A:bX)(aj:List Nat)(x:Str)(j:Nat)(s:c3):Bool:=decide (s=A.st)&&(!aj.contains j&&if x="grant" then A.cc == "asking" else x == "kept"&&A.cc == "telling")
def YT(j:Nat)(bu:List Nat):ke false (.v (bH j)) (.mv (bu.map bH))=pure (.v (.az (bu.contains j))):=y9 j bu
section
variable{S:cG}{i g w b:Nat}{A A1:bX}{n:e0}{aj:List Nat}{as:List D}{aq:jX}{x:Str}{j:Nat}{me:Int}{s:c3}{ld:D}
def II(h:dn S i g w b A n aj as aq)(eu:akf A.cc=true)(ag:x="grant"\/x="kept"\/x="late"):aG S (D2 [.ref i,.ref w,ee x j me s ld]) (.v (.az (kI A aj x j s))):=by
 have ajQ:akf x=true:=by rcases ag with rfl|rfl|rfl;exact rX;exact tV;exact rY
 have t1:aG S (a3 (af d8 (af aO (J 2) (aa (.int 4))) (fp "Asker" "stamp" tF (J 0) ai)) [.v (.ref i),.v (.ref w),.v (ee x j me s ld)]) (!decide (s=A.st)):=cQ (b' (Mc s A.st) (.of rfl) (lq (v:=bW A.st) h.dR rfl rfl rfl rfl));have dJ:aG S (a3 (af (ke false) (af aO (J 2) (aa (.int 1))) (gN (af dH (J 1) (aa (.str "heard"))))) [.v (.ref i),.v (.ref w),.v (ee x j me s ld)]) (aj.contains j):=cQ (b' (YT j aj) (.of rfl) (zf h.aA (gC h rfl rfl)));have cc:∀{y:Str}{Y:aQ},akf y=true->J 0 Y=pure (.v (.ref i))->aG S (af oEq (fp "Asker" "stand" nJ (J 0) ai) (aa (.str y)) Y) (.v (.az (A.cc==y))):=λo e=>b' (fY eu o) (lq (v:=.str A.cc) h.dR e rfl rfl rfl) (.of rfl)
 refine tm rfl ?_;unfold kI
 by_cases e:s=A.st
 .rw[decide_eq_true e]at t1 ⊢
  cases c:aj.contains j with
  |true=>rw[c]at dJ;exact tn (nF (oQ t1 dJ) (ji (.of rfl)))|false=>
   rw[c]at dJ;refine vS (rB (oQ t1 dJ) (.of rfl)) ?_;rcases ag with rfl|rfl|rfl
   .exact tn (nF (cQ (b' yL (.of rfl) (.of rfl))) (ji (cc nQ rfl)))
   .exact vS (rB (cQ (b' DB (.of rfl) (.of rfl))) (.of rfl)) (ji (Dr (b' zk (.of rfl) (.of rfl)) (cc mP rfl)))
   .exact vS (rB (cQ (b' Z_ (.of rfl) (.of rfl))) (.of rfl)) (ji (Zp (b' aaa (.of rfl) (.of rfl))))
 .rw[decide_eq_false e]at t1 ⊢
  exact tn (nF (Dw t1) (ji (.of rfl)))
def vB{Z:cG->Prop}(h:dn S i g w b A n aj as aq)(eu:akf A.cc=true)(ag:x="grant"\/x="kept")(gn:kI A aj x j s=c)(p:A.Do mM [ee x j me s ld] σ A1)(bj:∀S1 g1,dn S1 i g1 w b A1 n aj as aq->∃S',bA S1 (sN (sv i w (ee x j me s ld) (.v (.l (gB A))) (.v (.az c)) (.v (.l σ)) .e .e)) (.cJ (.v (.az true))) S'/\Z S'):∃S',bA S (rN [.ref i,.ref w,ee x j me s ld]) (.v (.az true)) S'/\Z S':=by
 obtain⟨S1,g1,t1,s1⟩:=p _ _ _ h.dR;obtain⟨S',dJ,z⟩:=bj S1 g1 (h.step s1);have uZ:=II (x:=x) (j:=j) (me:=me) (s:=s) (ld:=ld) h eu (ag.elim .inl λz=>.inr (.inl z));rw[gn]at uZ;have nl:oEq (.v (.str x)) (.v (.str "late"))=pure (.v (.az false)):=by rcases ag with rfl|rfl;exact yN;exact zl
 exact⟨S',pv rfl (cW (Y':=sv i w (ee x j me s ld) (.v (.l (gB A))) .e .e .e .e) (aG.to (iF (eP (rs:=[.v (.ref i)]) (.of rfl) (zv h.dR)) rfl)) (cW (aG.to (iF (eP (rs:=[.v (.ref i),.v (.ref w),.v (ee x j me s ld)]) (.of rfl) uZ) rfl)) (k_ (aG.to (cQ (b' nl (.of rfl) (.of rfl)))) (cW (sm (sl h.dR.bx (.of rfl) rfl (rs:=[.v (ee x j me s ld)]) (aG.to (.of rfl)) rfl t1) rfl) dJ)))),z⟩
theorem J6(h:dn S i g w b A1 n aj as aq)(st:Std A1)(el:gB A1=gB A)(an:D):bA S (sN (sv i w an (.v (.l (gB A))) (.v (.az false)) (.v (.l [])) .e .e)) (.cJ (.v (.az true))) S:=
 pw (aG.to (nF (j8 (x:=false) (.of rfl)) (ji (Dr (eP (rs:=[.v (.l []),.fr []]) (.of rfl) (.of (same_refl 13 _ tW))) (Fb (σ:=[]) h.dR st tW rfl (by rw[<-el];rfl))))))
end
def uA(W:List (List Nat))(d:Option g6):Prop:=∀x,d=some x->fM x/\n3 (λ_=>False) W x
inductive n8(a k:aN)(W:List (List Nat))(me:Int)(aj:List Nat):bX->Prop
 |ask (bb:Int) (st:c3) (wi:Int) (d:Option g6) (aL:List dz) (dm:Nat) (di:D) (fl:1<=wi) (s0:1<=st.1) (cH:uA W d) (jH:aj=aL.map (·.k)) (mm:∀x∈aL,iv (h3 me wi) W x.s x.w):n8 a k W me aj (hn me (dT a k) bb st wi (ko d) "asking" .aI aL dm di)
 |tell (bb:Int) (st:c3) (wi:Int) (d:Option g6) (aL:List dz) (T:c9) (fl:1<=wi) (s0:1<=st.1) (cH:uA W d) (tok:fW (λ_=>False) W T) (cw:h3 me wi T) (row:∀x,d=some x->∃z,(me,.t [.int me,.int wi,z])∈T.ds) (kc:nu k aj=false):n8 a k W me aj (hn me (dT a k) bb st wi (ko d) "telling" .aI aL (maskOf aj) T.D)
 |calm (bb:Int) (st:c3) (wi:Int) (dd cZ:D) (aL:List dz) (dm:Nat) (di:D) (ok:Ok 12 cZ):n8 a k W me aj (hn me (dT a k) bb st wi dd "calm" cZ aL dm di)
inductive n0(a k:aN)(W:List (List Nat))(me wi:Int):D->Prop
 |grant (j:Nat) (s kp:c3) (w:D) (aR:j∈dG a k) (aw:iv (h3 me wi) W kp w):n0 a k W me wi (ee "grant" j me s (.t [bW kp,w]))
 |kept (j:Nat) (s:c3) (aR:j∈dG a k):n0 a k W me wi (ee "kept" j me s (.t []))
 |late (j:Nat) (s p:c3):n0 a k W me wi (ee "late" j me s (.t [bW p]))
inductive kA(a k:aN)(W:List (List Nat))(me wi:Int):D->Prop
 |ask (j:Nat) (s:c3) (aR:j∈dG a k) (s0:1<=s.1):kA a k W me wi (hG me 0 s j)
 |tell (j:Nat) (s:c3) (ho tM q5:D) (T:c9) (aR:j∈dG a k) (s0:1<=s.1) (tok:fW (λ_=>False) W T) (cw:h3 me wi T):kA a k W me wi (jS me 0 s (.t [ho,tM,q5,T.D]) j)
structure ix(a k:aN)(W:List (List Nat))(me:Int)(A:bX)(n:e0)(aj:List Nat)(as:List D)(aq:jX):Prop where
 pl:n.pl=eZ a k
 nm:n.me=me
 fP:0<=n.fP
 cw:n.cw=A.bb
 iJ:0<=A.bb
 hB:0<=A.wi
 c_:i6 (h3 me A.wi) W aq
 eA:∀j∈aj,j<6
 dU:aj.Nodup
 gV:n8 a k W me aj A
 as:∀x∈as,n0 a k W me A.wi x
 cv:∀l∈n.cv,kA a k W me A.wi l
 fr:∀l∈n.fr,kA a k W me A.wi l
 a7:n.fr.length<=6
section
variable{a k:aN}(ak:Good a)(aw:Good k){W:List (List Nat)}{me:Int}{A:bX}{n:e0}{aj:List Nat}{as:List D}{aq:jX}
include ak aw
theorem n8.Fm(h:n8 a k W me aj A):Std A:=by
 cases h with
 |ask=>exact⟨nQ,rZ,wD ak aw⟩|tell=>exact⟨mP,rZ,wD ak aw⟩|calm _ _ _ _ _ _ _ _ ok=>exact⟨qr,ok,wD ak aw⟩
omit ak aw in
theorem n8.eqs(h:n8 a k W me aj A):A.me=me/\A.cf=0/\A.h=dT a k/\A.qX:=by
 cases h with
 |ask=>exact⟨rfl,rfl,rfl,.inr (.inl rfl)⟩|tell=>exact⟨rfl,rfl,rfl,.inr (.inr rfl)⟩|calm=>exact⟨rfl,rfl,rfl,.inl rfl⟩
variable(Z:ix a k W me A n aj as aq)
include Z
theorem ix.ig:aj.length<=6:=by
 have:=Z.dU.length_le_of_subset (l₂:=akG 6) λk aw=>ak4.mpr (Z.eA k aw)
 rw[aod]at this;exact this
theorem X7(j:Nat)(s p:c3)(h:dn S i g w b A n aj as aq):∃S' f3 dE g',bA S (rN [.ref i,.ref w,ee "late" j me s (.t [bW p])]) (.v (.az true)) S'/\dn S' i g' w b f3 dE aj as aq/\ix a k W me f3 dE aj as aq/\f3.wi=A.wi/\dE.cv=n.cv:=by
 have lQ:=Z.gV.Fm ak aw;have em:=Z.gV.eqs.1;have w3:Std (A.oV p.1):=⟨lQ.hv,lQ.jk,lQ.zW⟩;have uZ:=II (x:="late") (j:=j) (me:=me) (s:=s) (ld:=.t [bW p]) h lQ.hv (.inr (.inr rfl));have gn:kI A aj "late" j s=false:=by unfold kI;rw[if_neg (by decide),show(("late":Str) == "kept")=false by decide,Bool.false_and,aoR,aoR]
 rw[gn]at uZ;have ar:=X2 (a:=A) (k:=j) (e:=0) (s:=s) p;rw[em]at ar;have Fw:=rQ (k:=1) (Y:=sv i w (ee "late" j me s (.t [bW p])) (.v (.l (gB A))) (.v (.az false)) .e .e .e) (f:="top") (mv:=b_ Cg (U (af dH (J 1) (aa (.str "top"))) (U (af aO (af aO (af aO (J 2) (aa (.int 5))) (aa (.int 0))) (aa (.int 0))) ai))) (x:=.v (.int (A.oV p.1).bb)) h { n with cw:=(A.oV p.1).bb } rfl (mI (rs:=[.v (.int A.bb),.v (.int p.1)]) rfl (bD (gC h rfl (by rw[<-Z.cw];rfl)) (bD (.of rfl) de))) rfl rfl;have ae:=h.put { n with cw:=(A.oV p.1).bb } rfl rfl;obtain⟨bh,g2,dJ,s2⟩:=ar _ _ _ ae.dR;have ah:=ae.step s2;refine⟨bh,A.oV p.1,{ n with cw:=(A.oV p.1).bb },g2,pv rfl (cW (Y':=sv i w (ee "late" j me s (.t [bW p])) (.v (.l (gB A))) .e .e .e .e) (aG.to (iF (eP (rs:=[.v (.ref i)]) (.of rfl) (zv h.dR)) rfl)) (cW (aG.to (iF (eP (rs:=[.v (.ref i),.v (.ref w),.v (ee "late" j me s (.t [bW p]))]) (.of rfl) uZ) rfl)) (cW (ku (aG.to (cQ (b' Lz (.of rfl) (.of rfl)))) Fw) (cW (sm (sl ae.dR.bx (.of rfl) rfl (rs:=[.v (ee "late" j me s (.t [bW p]))]) (aG.to (.of rfl)) rfl dJ) rfl) (J6 (A:=A) ah w3 rfl _))))),ah,?_,rfl,rfl⟩;have iJ:=Z.iJ;refine⟨Z.pl,Z.nm,Z.fP,rfl,?_,Z.hB,Z.c_,Z.eA,Z.dU,?_,Z.as,Z.cv,Z.fr,Z.a7⟩
 .show 0<=if p.1 > A.bb then p.1 else A.bb
  split<;>omega
 .obtain gV:=Z.gV
  cases gV with
  |ask bb st wi d aL dm di fl s0 cH jH mm=>exact .ask _ st wi d aL dm di fl s0 cH jH mm|tell bb st wi d aL T fl s0 cH tok cw row kc=>exact .tell _ st wi d aL T fl s0 cH tok cw row kc|calm bb st wi dd cZ aL dm di ok=>exact .calm _ st wi dd cZ aL dm di ok
theorem X8{x:Str}(ag:x="grant"\/x="kept")(gn:kI A aj x j s=false)(p:A.Do mM [ee x j me s ld] [] A)(h:dn S i g w b A n aj as aq):∃S' g',bA S (rN [.ref i,.ref w,ee x j me s ld]) (.v (.az true)) S'/\dn S' i g' w b A n aj as aq:=by
 have lQ:=Z.gV.Fm ak aw;obtain⟨S',t,g',fQ⟩:=vB (Z:=λS'=>∃g',dn S' i g' w b A n aj as aq) h lQ.hv ag gn p λS1 g1 ae=>⟨S1,J6 ae lQ rfl _,g1,ae⟩
 exact⟨S',g',t,fQ⟩
end
def Zr{a b:bg}(h:aG S (a Y) (.v (.az true))):aG S (uX a b Y) (.v (.az true)):=h.bind ((aG.of (m:=R.lT (.v (.az true))) (a:=true) rfl).bind (.of rfl))
def Zq{a b:bg}{r:R}(h:aG S (a Y) (.v (.az false)))(ah:aG S (b Y) r):aG S (uX a b Y) r:=h.bind ((aG.of (m:=R.lT (.v (.az false))) (a:=false) rfl).bind ah)
abbrev i9(i w:Nat)(X:D)(A:bX)(σ:List D)(et d1:Slot):aQ:=sv i w X (.v (.l (gB A))) (.v (.az true)) (.v (.l σ)) et d1
def hR(a k:aN)(x:Str):aN:=if x="kept" then k else a
section
variable{a k:aN}(ak:Good a)(aw:Good k){me:Int}{A A1:bX}{n:e0}{aj:List Nat}{as:List D}{aq:jX}{x:Str}{j:Nat}{s:c3}{ld:D}{σ:List D}(ag:x="grant"\/x="kept")(pl:n.pl=eZ a k)(ig:aj.length<=6)(av:A1.st=A.st)(aC:A1.wi=A.wi)(hv:akf A1.cc=true)(jk:akf A.cc=true){S:cG}{i g w b:Nat}(h:dn S i g w b A1 n aj as aq)
include ak aw ag pl ig av aC hv jk h
theorem J7(u7:nu (hR a k x) (aj++[j])=c)(ay:(A1.cc==A.cc) = !c)(z:bA (S.set n.h (.l (aj.map bH++[bH j]))) (Hx (i9 i w (ee x j me s ld) A σ (.v (enc (hR a k x))) (.v (.az c)))) (.cJ (.v (.az true))) S'):bA S (sN (i9 i w (ee x j me s ld) A σ .e .e)) (.cJ (.v (.az true))) S':=by
 have ae:=h.mark j;generalize CH:S.set n.h (.l (aj.map bH++[bH j]))=S1 at *;have jf:Good (hR a k x):=by unfold hR;split<;>assumption
 have a7:=DO (aj++[j]) 6 (hR a k x) (by have:=jf.2.1;omega) jf.1;have Vx:(aN.fills (λi=>(aj++[j]).contains i) (hR a k x))=c:=u7;rw[Vx]at a7;have s5:bA S (qK iL (af dH (J 1) (aa (.str "heard"))) (U (af aO (J 2) (aa (.int 1))) ai) (i9 i w (ee x j me s ld) A σ .e .e)) (.bj (i9 i w (ee x j me s ld) A σ .e .e)) S1:=by rw[<-CH];exact FR (gC h rfl rfl) (bD (.of rfl) de) h.aA (by rw[ajX];exact eQ (by omega))
 have et:bA S1 (bR (b1 6 (af aO (af aO (af dH (J 1) (aa (.str "place"))) (aa (.int 1))) (b_ vb (U (af oEq (af aO (J 2) (aa (.int 0))) (aa (.str "kept"))) ai)))) (i9 i w (ee x j me s ld) A σ .e .e)) (.bj (i9 i w (ee x j me s ld) A σ (.v (enc (hR a k x))) .e)) S1:=by
  have aH:∀{Y:aQ},J 1 Y=pure (.v (.ref w))->aG S1 (af aO (af dH (J 1) (aa (.str "place"))) (aa (.int 1)) Y) (.v (dT a k)):=λe=>b' (x:=.v (eZ a k)) rfl (gC ae e (by rw[<-pl];rfl)) (.of rfl)
  rcases ag with rfl|rfl
  .exact aG.to (iF (r:=.v (enc a)) (b' (y:=.v (.int 0)) rfl (aH rfl) (mI (rs:=[.v (.az false)]) rfl (bD (b' JB (.of rfl) (.of rfl)) de))) rfl)
  .exact aG.to (iF (r:=.v (enc k)) (b' (y:=.v (.int 1)) rfl (aH rfl) (mI (rs:=[.v (.az true)]) rfl (bD (b' zk (.of rfl) (.of rfl)) de))) rfl)
 have d1:bA S1 (bR (b1 7 (bt (nK 6) (U (J 6) (U (gN (af dH (J 1) (aa (.str "heard")))) ai)))) (i9 i w (ee x j me s ld) A σ (.v (enc (hR a k x))) .e)) (.bj (i9 i w (ee x j me s ld) A σ (.v (enc (hR a k x))) (.v (.az c)))) S1:=aG.to (iF (r:=.v (.az c)) (eP (rs:=[.v (enc (hR a k x)),.mv ((aj++[j]).map bH)]) (bD (.of rfl) (bD (zf ae.aA (gC ae rfl rfl)) de)) (.of a7)) rfl);have aa7:Ok 13 (.l [bW A.st,.int A.wi]):=zZ (n:=12) (akc rfl) λx ag=>by
  simp only[aj5,ak1,or_false]at ag;rcases ag with rfl|rfl
  .exact Ew _ (by decide)
  .exact ij
 have Ap:aG S1 (hh (a3 (af d8 (J 7) (af d8 (fp "Asker" "stand" nJ (J 0) ai) (af aO (J 3) (aa (.int 0)))))) (fw (a3 (bt (gb 14) (U (dh (U (fp "Asker" "stamp" tF (J 0) ai) (U (fp "Asker" "number" zC (J 0) ai) ai))) (U (dh (U (af aO (J 3) (aa (.int 3))) (U (af aO (J 3) (aa (.int 2))) ai))) ai))))) (i9 i w (ee x j me s ld) A σ (.v (enc (hR a k x))) (.v (.az c)))) false:=
  oQ (cQ (b' (y:=.v (.az (!(A1.cc==A.cc)))) (by rw[ay];cases c<;>rfl) (.of rfl) (b' (y:=.v (.str A.cc)) (OP hv jk) (lq (v:=.str A1.cc) ae.dR rfl rfl rfl rfl) (.of rfl)))) (j8 (x:=true) (cQ (eP (rs:=[.fr [bW A.st,.int A.wi],.fr [bW A.st,.int A.wi]]) (bD (Dv (rs:=[.v (bW A.st),.v (.int A.wi)]) (bD (lq ae.dR rfl rfl (by rw[<-av];rfl) rfl) (bD (lq ae.dR rfl rfl (by rw[<-aC];rfl) rfl) de)) rfl (akc rfl)) (bD (.of (tw (rs:=[.v (bW A.st),.v (.int A.wi)]) rfl rfl (akc rfl))) de)) (.of (same_refl 13 _ aa7)))))
 exact xq (j8 (x:=true) (.of rfl)) (cW s5 (cW et (cW d1 (xq Ap z))))
end
def Fd(h:n<=100000):n<aj3:=Nat.lt_of_le_of_lt h (by decide)
def rf(f:List D):List D->List D
 |[]=>f|y::ys=>y::ys
section
variable{a k:aN}(ak:Good a)(aw:Good k){me:Int}{A A1:bX}{n:e0}{aj:List Nat}{as:List D}{aq:jX}{x:Str}{j:Nat}{s:c3}{ld:D}{σ:List D}(ag:x="grant"\/x="kept")(pl:n.pl=eZ a k)(ig:aj.length<=6)(av:A1.st=A.st)(aC:A1.wi=A.wi)(hv:akf A1.cc=true)(jk:akf A.cc=true){S:cG}{i g w b:Nat}(h:dn S i g w b A1 n aj as aq)
include ak aw ag pl ig av aC hv jk h
theorem J5(u7:nu (hR a k x) (aj++[j])=false)(ay:A1.cc=A.cc)(el:gB A1=gB A)(lQ:Std A1):∃S',bA S (sN (i9 i w (ee x j me s ld) A [] .e .e)) (.cJ (.v (.az true))) S'/\dn S' i g w b A1 n (aj++[j]) as aq:=
 ⟨_,J7 ak aw ag pl ig av aC hv jk h u7 (by rw[ay,beq_self_eq_true];rfl) (pw (aG.to (nF (j8 (x:=false) (.of rfl)) (ji (Dr (eP (rs:=[.v (.l []),.fr []]) (.of rfl) (.of (same_refl 13 _ tW))) (Fb (σ:=[]) (h.mark j).dR lQ tW rfl (by rw[el];rfl))))))),h.mark j⟩
theorem J4(u7:nu (hR a k x) (aj++[j])=true)(ay:(A1.cc==A.cc)=false)(ou:σ=[]\/x="grant")(z:n.cv.length+σ.length<=100000):∃S' h',bA S (sN (i9 i w (ee x j me s ld) A σ .e .e)) (.cJ (.v (.az true))) S'/\dn S' i g w b A1 { n with h:=h',cv:=n.cv++σ,fr:=rf n.fr σ } [] as aq:=by
 have ae:=h.mark j;have p:=λS'=>J7 (σ:=σ) (me:=me) (s:=s) (ld:=ld) ak aw ag pl ig av aC hv jk h u7 ay (S':=S')
 generalize S.set n.h (.l (aj.map bH++[bH j]))=S1 at *;have e7:=L6 (k:=1) (Y:=i9 i w (ee x j me s ld) A σ (.v (enc (hR a k x))) (.v (.az true))) ae rfl;have ah:=ae.anew;generalize(S1++[gI.l []]).set w (.cH (e0.L { n with h:=S1.length } b))=bh at *
 cases σ with
 |nil=>
  refine⟨bh,S1.length,p _ (xq (j8 (x:=true) (.of rfl)) (cW e7 (cW (nY (aG.to (.of rfl)) rfl) (aG.to (ji (Zr (.of rfl))))))),?_⟩;have:({ n with h:=S1.length,cv:=n.cv++[],fr:=rf n.fr [] }:e0)={ n with h:=S1.length }:=by rw[ak6];rfl
  rw[this];exact ah
 |cons y ys=>
  have C_:x="grant":=ou.resolve_left λz=>by cases z
  subst C_;generalize fG:y::ys=T at *;have ajv:0<T.length:=by rw[<-fG];exact Nat.succ_pos _
  have p1:=rQ (k:=1) (Y:=i9 i w (ee "grant" j me s ld) A T (.v (enc (hR a k "grant"))) (.v (.az true))) (f:="mine") (mv:=af ih (af dH (J 1) (aa (.str "mine"))) (J 5)) (x:=.fr (n.cv++T)) ah { n with h:=S1.length,cv:=n.cv++T } rfl (b' (x:=.v (.l n.cv)) (y:=.v (.l T)) (if_pos (ak8 (Fd z))) (gC ah rfl rfl) (.of rfl)) rfl rfl;have bN:=ah.put { n with h:=S1.length,cv:=n.cv++T } rfl rfl;have dv:=rQ (k:=1) (Y:=i9 i w (ee "grant" j me s ld) A T (.v (enc (hR a k "grant"))) (.v (.az true))) (f:="fresh") (mv:=J 5) (x:=.v (.l T)) bN { n with h:=S1.length,cv:=n.cv++T,fr:=T } rfl (.of rfl) rfl rfl;have dq:=bN.put { n with h:=S1.length,cv:=n.cv++T,fr:=T } rfl rfl;have b8:a3 (af kY (b_ fh (U (J 5) ai)) (aa (.int 0))) (i9 i w (ee "grant" j me s ld) A T (.v (enc (hR a k "grant"))) (.v (.az true)))=pure true:=dB (bZ (vp.trans (by rw[decide_eq_true (show((T.length:Nat):Int) > 0 by omega)])) (j2 (zt _) rfl) rfl);have te:aG ((bh.set w (.cH (e0.L { n with h:=S1.length,cv:=n.cv++T } b))).set w (.cH (e0.L { n with h:=S1.length,cv:=n.cv++T,fr:=T } b))) (af oEq (b_ fh (U (J 5) ai)) (aa (.int 0)) (i9 i w (ee "grant" j me s ld) A T (.v (enc (hR a k "grant"))) (.v (.az true)))) (.v (.az false)):=.of (bZ (nq.trans (by rw[decide_eq_false (show ¬((T.length:Nat):Int)=0 by omega)])) (j2 (zt _) rfl) rfl);refine⟨_,S1.length,p _ (xq (j8 (x:=true) (.of rfl)) (cW e7 (cW (ku (aG.to (.of b8)) (cW p1 dv)) (aG.to (ji (Zq te (b' yL (.of rfl) (.of rfl)))))))),?_⟩;have:rf n.fr T=T:=by rw[<-fG];rfl
  rw[this];exact dq
end
def abz(hm:∀i∈ms,i<6)(h:j∈ms):maskOf ms ||| maskOf [j]=maskOf ms:=by
 have av:maskOf ms ||| maskOf [j]=maskOf (ms++[j]):=by rw[wa];show _ ||| (0 ||| 2 ^ j)=_;rw[Nat.zero_or]
 have C0:∀i∈ms++[j],i<6:=λi aB=>by
  rcases akx.mp aB with aB|aB
  .exact hm i aB
  .rw[akg.mp aB];exact hm j h
 rw[av,zN _ C0,zN _ hm]
 congr 1
 funext i
 rw[List.contains_eq_mem,List.contains_eq_mem,decide_eq_decide,akx,akg];exact⟨λz=>z.elim id λz=>z▸h,.inl⟩
def abA(ms:List Nat)(j:Nat):maskOf ms ||| maskOf [j]=maskOf (ms++[j]):=by rw[wa];show _ ||| (0 ||| 2 ^ j)=_;rw[Nat.zero_or]
def abi(h:Ok (n+1) (.t xs)):∀x∈xs,Ok n x:=λx ag=>
 ⟨yJ.mp h.1 x ag,by have:=h.2;rw[show D.AE (.t xs)=(decide (xs.length<=1000)&&pq xs)from rfl,akE]at this;exact AF.mp this.2 x ag⟩
def abd:akf "did"=true:=by decide +kernel
abbrev iK(a k:aN)(me bb:Int)(st:c3)(wi:Int)(d:Option g6)(aL:List dz)(aj:List Nat)(T:c9):bX:=hn me (dT a k) bb st wi (ko d) "telling" .aI aL (maskOf aj) T.D
abbrev jc(a k:aN)(me bb:Int)(st:c3)(wi:Int)(d:Option g6)(aL:List dz)(dm:Nat)(di:D):bX:=hn me (dT a k) bb st wi (ko d) "asking" .aI aL dm di
def yk(A:bX)(aj:List Nat)(j:Nat)(s:c3):kI A aj "kept" j s=(decide (s=A.st)&&(!aj.contains j&&(A.cc == "telling"))):=by unfold kI;rw[if_neg (by decide),beq_self_eq_true,Bool.true_and]
def yj(A:bX)(aj:List Nat)(j:Nat)(s:c3):kI A aj "grant" j s=(decide (s=A.st)&&(!aj.contains j&&(A.cc == "asking"))):=by unfold kI;rw[if_pos rfl]
def w9{x y:Str}(h:x≠y):(x==y)=false:=by simpa using h
section
variable{a k:aN}(ak:Good a)(aw:Good k){W:List (List Nat)}(eO:W.length<59){me:Int}{A:bX}{n:e0}{aj:List Nat}{as:List D}{aq:jX}
def uC(a k:aN)(W:List (List Nat))(me:Int)(i w b:Nat)(as:List D)(aq:jX)(n:e0)(A:bX)(S:cG)(ans:D):Prop:=∃S' f3 dE gp g',bA S (rN [.ref i,.ref w,ans]) (.v (.az true)) S'/\dn S' i g' w b f3 dE gp as aq/\ix a k W me f3 dE gp as aq/\f3.wi=A.wi/\dE.cv.length<=n.cv.length+6
variable(Z:ix a k W me A n aj as aq)
include ak aw eO Z
theorem tf{x:Str}(ag:x="grant"\/x="kept")(gn:kI A aj x j s=false)(p:A.Do mM [ee x j me s ld] [] A)(h:dn S i g w b A n aj as aq):uC a k W me i w b as aq n A S (ee x j me s ld):=by
 obtain⟨S',g',t,fQ⟩:=X8 ak aw Z ag gn p h;exact⟨S',A,n,aj,g',t,fQ,Z,rfl,akW _ _⟩
theorem X6(aR:j∈dG a k)(s:c3)(qO:n.cv.length<90000)(h:dn S i g w b A n aj as aq):uC a k W me i w b as aq n A S (ee "kept" j me s (.t [])):=by
 have H:=JQ ak aw;have oN:=rP aR;have ig:=Z.ig ak aw;have Dm:(dG a k).contains j=true:=alM.mpr aR;obtain⟨em,B3,jH,cc⟩:=Z.gV.eqs;have H':n5 A.h (dG a k) (λm=>a.fills (fC m)) (λm=>k.fills (fC m)):=by rw[jH];exact H
 by_cases ay:s=A.st
 ·have nw:A.now (dG a k) j 0 s=true:=by unfold bX.now;rw[Dm,B3,ay];simp
  by_cases b5:A.cc="telling"
  ·have gV:=Z.gV
   have ah6:=Z
   cases gV with
   | ask=>exact absurd b5 (by show ¬("asking":Str)="telling";decide)| calm=>exact absurd b5 (by show ¬("calm":Str)="telling";decide)|tell bb st wi d aL T fl s0 cH tok cw row kc=>
    have Ca:st=s:=ay.symm;subst Ca
    cases aD:aj.contains j with
    |true=>
     have fE:(iK a k me bb st wi d aL aj T).kept j=iK a k me bb st wi d aL aj T:=by unfold bX.kept iK hn;rw[abz Z.eA (alM.mp aD)]
     have nx:k.fills (fC (maskOf aj))=false:=(yA aw.1 Z.eA).trans kc;have p:=CS H' cc nw rfl (J8 (a:=iK a k me bb st wi d aL aj T) (me:=me) (e:=0) (s:=st) H' oN (by rw[fE];exact nx));rw[fE]at p;exact tf ak aw eO Z (.inr rfl) (by rw[yk,aD];simp) p h
    |false=>
     have Ed:j∉aj:=λz=>by rw[alM.mpr z]at aD;cases aD
     have mn:∀x∈aj++[j],x<6:=λx ag=>by
      rcases akx.mp ag with ag|ag
      .exact Z.eA x ag
      .rw[akg.mp ag];exact oN
     have Ea:(aj++[j]).Nodup:=amF.mpr ⟨Z.dU,akT.mpr ⟨ak1,aly⟩,λx ag y ba=>by rw[akg.mp ba];rintro rfl;exact Ed ag⟩;have fE:(iK a k me bb st wi d aL aj T).kept j=iK a k me bb st wi d aL (aj++[j]) T:=by unfold bX.kept iK hn;rw[<-abA]
     have nx:k.fills (fC (maskOf (aj++[j])))=nu k (aj++[j]):=yA aw.1 mn;have gn:kI (iK a k me bb st wi d aL aj T) aj "kept" j st=true:=by rw[yk,aD];simp[iK,hn]
     have kK:hR a k "kept"=k:=if_pos rfl
     cases c:nu k (aj++[j])with
     |false=>
      rw[c]at nx;have p:=CS H' cc nw rfl (J8 (a:=iK a k me bb st wi d aL aj T) (me:=me) (e:=0) (s:=st) H' oN (by rw[fE];exact nx));rw[fE]at p;have w3:Std (iK a k me bb st wi d aL (aj++[j]) T):=⟨mP,rZ,wD ak aw⟩;obtain⟨S',t,g',fQ⟩:=vB (Z:=λS'=>∃g',dn S' i g' w b (iK a k me bb st wi d aL (aj++[j]) T) n (aj++[j]) as aq) h mP (.inr rfl) gn p λS1 g1 ae=>by
       obtain⟨S',t,fQ⟩:=J5 (A1:=iK a k me bb st wi d aL (aj++[j]) T) (x:="kept") (me:=me) (s:=st) (ld:=.t []) (A:=iK a k me bb st wi d aL aj T) ak aw (.inr rfl) Z.pl ig rfl rfl mP mP ae (by rw[kK];exact c) rfl rfl w3;exact⟨S',t,g1,fQ⟩
      exact⟨S',_,n,aj++[j],g',t,fQ,⟨Z.pl,Z.nm,Z.fP,Z.cw,Z.iJ,Z.hB,Z.c_,mn,Ea,.tell bb st wi d aL T fl s0 cH tok cw row c,Z.as,Z.cv,Z.fr,Z.a7⟩,rfl,akW _ _⟩
     |true=>
      rw[c]at nx;obtain⟨cZ,ok,B5⟩:∃cZ,Ok 12 cZ/\(iK a k me bb st wi d aL (aj++[j]) T).qQ tC [] ((iK a k me bb st wi d aL (aj++[j]) T).ends cZ):=by
       cases d with
       |none=>exact⟨_,Mp st tok eO,Vz (a:=hn me (dT a k) bb st wi .aI "telling" .aI aL (maskOf (aj++[j])) T.D) rfl rfl cw.1⟩|some x=>
        obtain⟨z,hz⟩:=row x rfl;have ahY:Ok 1 z:=abi (tok.u5 _ hz) z (by simp);exact⟨.t [.str "did",z],qs (n:=2) (qq (tX abd) ahY) (by decide),Vy (a:=hn me (dT a k) bb st wi x.D "telling" .aI aL (maskOf (aj++[j])) T.D) (x:=.int me) (ans:=z) (by cases x<;>exact λz=>by cases z) rfl (Vl tok hz)⟩
      have p:=CS H' cc nw rfl (X0 (a:=iK a k me bb st wi d aL aj T) (me:=me) (e:=0) (s:=st) H' oN (by rw[fE];exact nx) (by rw[fE];exact B5) (OG cw.1));obtain⟨S',t,g',h',fQ⟩:=vB (Z:=λS'=>∃g' h',dn S' i g' w b (hn me (dT a k) bb st wi (ko d) "calm" cZ aL (maskOf (aj++[j])) T.D) { n with h:=h',cv:=n.cv++[],fr:=rf n.fr [] } [] as aq) h mP (.inr rfl) gn p λS1 g1 ae=>by
       obtain⟨S',h',t,fQ⟩:=J4 (A1:=hn me (dT a k) bb st wi (ko d) "calm" cZ aL (maskOf (aj++[j])) T.D) (x:="kept") (me:=me) (s:=st) (ld:=.t []) (σ:=[]) (A:=iK a k me bb st wi d aL aj T) ak aw (.inr rfl) Z.pl ig rfl rfl qr mP ae (by rw[kK];exact c) (w9 (show("calm":Str)≠"telling" by decide)) (.inl rfl) (by show _+0<=_;omega);exact⟨S',t,g1,h',fQ⟩
      rw[ak6]at fQ;exact⟨S',_,_,[],g',t,fQ,⟨Z.pl,Z.nm,Z.fP,Z.cw,Z.iJ,Z.hB,Z.c_,λ_ h=>(nomatch h),aly,.calm bb st wi _ cZ aL _ _ ok,Z.as,Z.cv,Z.fr,Z.a7⟩,rfl,akW _ _⟩
  .have p:=X1 (k:=j) H' cc nw b5
   rw[em]at p;exact tf ak aw eO Z (.inr rfl) (by rw[yk,w9 b5];simp) p h
 .have nw:A.now (dG a k) j 0 s=false:=by unfold bX.now;rw[decide_eq_false (show ¬s=A.st from ay)];simp
  have p:=J9 (a:=A) (k:=j) (e:=0) (s:=s) H' (.str "kept") (.t []) zl nw;rw[em]at p;exact tf ak aw eO Z (.inr rfl) (by rw[yk,decide_eq_false ay];rfl) p h
end
section
variable{a k:aN}(ak:Good a)(aw:Good k){W:List (List Nat)}(eO:W.length<59){me:Int}(m0:0<=me)(kV:me<6){A:bX}{n:e0}{aj:List Nat}{as:List D}{aq:jX}(Z:ix a k W me A n aj as aq)
include ak aw eO Z m0 kV
theorem X5(aR:j∈dG a k)(s:c3){v:D}(rq:iv (h3 me A.wi) W kp v)(qO:n.cv.length<90000)(h:dn S i g w b A n aj as aq):uC a k W me i w b as aq n A S (ee "grant" j me s (.t [bW kp,v])):=by
 have H:=JQ ak aw;have oN:=rP aR;have ig:=Z.ig ak aw;have Dm:(dG a k).contains j=true:=alM.mpr aR;obtain⟨em,B3,jH,cc⟩:=Z.gV.eqs;have H':n5 A.h (dG a k) (λm=>a.fills (fC m)) (λm=>k.fills (fC m)):=by rw[jH];exact H
 by_cases ay:s=A.st
 ·have nw:A.now (dG a k) j 0 s=true:=by unfold bX.now;rw[Dm,B3,ay];simp
  by_cases b5:A.cc="asking"
  ·have gV:=Z.gV
   cases gV with
   | tell=>exact absurd b5 (by show ¬("telling":Str)="asking";decide)| calm=>exact absurd b5 (by show ¬("calm":Str)="asking";decide)|ask bb st wi d aL dm di fl s0 cH q8 mm=>
    have Ca:st=s:=ay.symm;subst Ca;have vk:∀x∈aL,x.k<6:=λx ag=>Z.eA x.k (by rw[q8];exact alD ag)
    have zu:aL.length<=6:=by rw[q8,ajX]at ig;exact ig
    have bm:=H_ Z.eA oN;rw[q8]at bm
    cases aD:aj.contains j with
    |true=>
     rw[q8]at aD;rw[aD]at bm;have p:=CR H' cc nw rfl (XZ (a:=jc a k me bb st wi d aL dm di) (me:=me) (e:=0) (s:=st) (kp:=kp) (w:=v) vk (by show aL.length<60;omega) bm);exact tf ak aw eO Z (.inl rfl) (by rw[yj,q8,aD];simp) p h
    |false=>
     have Ed:j∉aj:=λz=>by rw[alM.mpr z]at aD;cases aD
     have mn:∀x∈aj++[j],x<6:=λx ag=>by
      rcases akx.mp ag with ag|ag
      .exact Z.eA x ag
      .rw[akg.mp ag];exact oN
     have Ea:(aj++[j]).Nodup:=amF.mpr ⟨Z.dU,akT.mpr ⟨ak1,aly⟩,λx ag y ba=>by rw[akg.mp ba];rintro rfl;exact Ed ag⟩;have gn:kI (jc a k me bb st wi d aL dm di) aj "grant" j st=true:=by rw[yj,aD];simp[jc,hn]
     rw[q8]at aD;rw[aD]at bm;have kK:hR a k "grant"=a:=if_neg (by decide);have q9:aj++[j]=(aL++[dz.mk j kp v]).map (·.k):=by rw[akO,q8];rfl
     have nx:a.fills (fC (maskOf (aj++[j])))=nu a (aj++[j]):=yA ak.1 mn;have Cn:k.fills (fC (maskOf (aj++[j])))=nu k (aj++[j]):=yA aw.1 mn;rw[q9]at nx Cn;have yW:∀x∈aL++[dz.mk j kp v],iv (h3 me wi) W x.s x.w:=λx ag=>by
      rcases akx.mp ag with ag|ag
      .exact mm x ag
      .rw[akg.mp ag];exact rq
     have Jr:∀x∈aL++[dz.mk j kp v],x.k<6:=λx ag=>mn x.k (by rw[q9];exact alD ag)
     generalize u6:aL++[dz.mk j kp v]=G at *;have f7:((jc a k me bb st wi d aL dm di).got j kp v).aL=G:=by rw[<-u6];rfl
     cases f:nu a (aj++[j])with
     |false=>
      have p:=CR H' cc nw rfl (XW (a:=jc a k me bb st wi d aL dm di) (me:=me) (e:=0) (s:=st) (kp:=kp) (w:=v) H' vk (by show aL.length<60;omega) oN bm (by rw[f7,nx,<-q9];exact f));have w3:Std ((jc a k me bb st wi d aL dm di).got j kp v):=⟨nQ,rZ,wD ak aw⟩;obtain⟨S',t,g',fQ⟩:=vB (Z:=λS'=>∃g',dn S' i g' w b ((jc a k me bb st wi d aL dm di).got j kp v) n (aj++[j]) as aq) h nQ (.inl rfl) gn p λS1 g1 ae=>by
       obtain⟨S',t,fQ⟩:=J5 (A1:=(jc a k me bb st wi d aL dm di).got j kp v) (x:="grant") (me:=me) (s:=st) (ld:=.t [bW kp,v]) (A:=jc a k me bb st wi d aL dm di) ak aw (.inl rfl) Z.pl ig rfl rfl nQ nQ ae (by rw[kK];exact f) rfl rfl w3;exact⟨S',t,g1,fQ⟩
      exact⟨S',_,n,aj++[j],g',t,fQ,⟨Z.pl,Z.nm,Z.fP,Z.cw,Z.iJ,Z.hB,Z.c_,mn,Ea,.ask bb st wi d (aL++[dz.mk j kp v]) dm di fl s0 cH (by rw[u6];exact q9) (by rw[u6];exact yW),Z.as,Z.cv,Z.fr,Z.a7⟩,rfl,akW _ _⟩
     |true=>
      obtain⟨t,q',tok,cw⟩:=H4 (P:=h3 me wi) (Mx (by omega)) yW;have q':(n' G).2=t.D:=q';obtain⟨wH,iH,cf⟩:∃p ps,G=p::ps:=by rw[<-u6];cases aL with|nil=>exact⟨_,_,rfl⟩|cons p ps=>exact⟨_,_,rfl⟩
      have aB:=S0 (W:=W) (p:=wH) (ps:=iH) (by rw[<-cf];exact yW) jF;rw[<-cf]at aB;have aB:oB jF (ly wH iH)=.t [bW (n' G).1,t.D]:=by rw[<-q'];exact aB
      have Lb:G.length<=1000:=by rw[<-u6,aj7];show _+1<=_;omega
      have fin:∀{σ A1},((jc a k me bb st wi d aL dm di).got j kp v).Do rK [.t [bW (n' G).1,t.D]] σ A1->A1.st=st->A1.wi=wi->A1.bb=bb->(A1.cc="calm"\/A1.cc="telling")->σ.length<=6->(∀l∈σ,kA a k W me wi l)->n8 a k W me [] A1->uC a k W me i w b as aq n (jc a k me bb st wi d aL dm di) S (ee "grant" j me st (.t [bW kp,v])):=λ{σ A1} go bk b0 gX t8 EU z' gV=>by
       have p:=CR H' cc nw rfl (XY (a:=jc a k me bb st wi d aL dm di) (me:=me) (e:=0) (s:=st) (kp:=kp) (w:=v) H' vk (by show aL.length<60;omega) oN (f7.trans cf) rfl bm (by rw[f7,nx,<-q9];exact f) (by show bX.Do _ _ [oB jF (ly wH iH)] _ _;rw[aB];exact go));have hv:akf A1.cc=true:=by rcases t8 with e|e<;>rw[e];exact qr;exact mP
       have sn:(A1.cc==(jc a k me bb st wi d aL dm di).cc)=false:=by rcases t8 with e|e<;>rw[e]<;>exact w9 (by show ¬_=("asking":Str);decide)
       obtain⟨S',t,g',h',fQ⟩:=vB (Z:=λS'=>∃g' h',dn S' i g' w b A1 { n with h:=h',cv:=n.cv++σ,fr:=rf n.fr σ } [] as aq) h nQ (.inl rfl) gn p λS1 g1 ae=>by
        obtain⟨S',h',t,fQ⟩:=J4 (x:="grant") (me:=me) (s:=st) (ld:=.t [bW kp,v]) (σ:=σ) (A:=jc a k me bb st wi d aL dm di) ak aw (.inl rfl) Z.pl ig bk b0 hv nQ ae (by rw[kK];exact f) sn (.inr rfl) (by omega);exact⟨S',t,g1,h',fQ⟩
       refine⟨S',A1,_,[],g',t,fQ,⟨Z.pl,Z.nm,Z.fP,Z.cw.trans gX.symm,by rw[gX];exact Z.iJ,by rw[b0];exact Z.hB,by rw[b0];exact Z.c_,λ_ h=>(nomatch h),aly,gV,λx ag=>by rw[b0];exact Z.as x ag,λl ar=>?_,λl ar=>?_,?_⟩,b0,by show(n.cv++σ).length<=_;rw[aj7];omega⟩
       .rw[b0]
        rcases akx.mp ar with ar|ar
        .exact Z.cv l ar
        .exact z' l ar
       .rw[b0]
        cases σ with
        |nil=>exact Z.fr l ar|cons y ys=>exact z' l ar
       .cases σ with
        |nil=>exact Z.a7|cons y ys=>exact EU
      have tells:∀(T:c9)(dd:D),fW (λ_=>False) W T->h3 me wi T->∀l∈(dG a k).map (jS me 0 st (.t [bW (n' G).1,.int wi,dd,T.D])),kA a k W me wi l:=λT dd o p l ar=>by
       obtain⟨x,ag,rfl⟩:=akV.mp ar;exact .tell x st _ _ _ T ag s0 o p
      have vX:=o1 a k
      cases d with
      |some x=>
       obtain⟨fO,hd⟩:=cH x rfl;have IZ:∀y,some x=some y->n3 (λ_=>False) W y:=λy ba=>by cases ba;exact hd
       have da:=I0 tok (by omega) me wi IZ;have Vk:x.D≠.aI:=by rcases fO with⟨a,m,rfl⟩|⟨a,m,rfl⟩<;>exact λz=>by cases z
       have Fu:=I1 tok m0 kV wi IZ;have EC:=abO tok fO cw;have go:=Wd (a:=(hn me (dT a k) bb st wi x.D "asking" .aI aL dm di).got j kp v) (ms:=dG a k) (s:=(n' G).1) (w:=t.D) H.mem H.len Vk (t:=(h9 t me wi (some x)).D) da;exact fin go rfl rfl rfl (.inr rfl) (by rw[ajX];exact vX) (tells _ _ Fu EC.1) (.tell bb st wi (some x) _ (h9 t me wi (some x)) fl s0 cH Fu EC.1 (λy _=>ZU Fu fl EC.2) (Ck k aw.1))
      |none=>
       have al:=Qt (p:=wH) (ps:=iH) (W:=W) (P:=h3 me wi) (by rw[<-cf];exact yW);rw[<-cf]at al
       cases c:((G.all λg=>decide (g.s=wH.s))&&nu k (aj++[j]))with
       |true=>
        have go:=Wc (a:=(jc a k me bb st wi none aL dm di).got j kp v) (s:=(n' G).1) H (f7.trans cf) (by rw[f7];exact Jr) (by rw[f7];exact Lb) cw.1 rfl (by rw[f7,Cn,<-q9];exact c);exact fin go rfl rfl rfl (.inl rfl) (akm _) (λ_ h=>(nomatch h)) (.calm bb st wi .aI _ _ dm di (Mp _ tok eO))
       |false=>
        have go:=Wb (a:=(jc a k me bb st wi none aL dm di).got j kp v) (s:=(n' G).1) H (f7.trans cf) (by rw[f7];exact Jr) (by rw[f7];exact Lb) cw.1 rfl (by rw[f7,Cn,<-q9];exact c) (I0 tok (by omega) me wi (d:=none) λx ag=>by cases ag);exact fin go rfl rfl rfl (.inr rfl) (by rw[ajX];exact vX) (tells _ _ tok cw) (.tell bb st wi none _ t fl s0 cH tok cw (λy ba=>by cases ba) (Ck k aw.1))
  .have p:=XX (k:=j) (kp:=kp) (w:=v) H' cc nw b5
   rw[em]at p;exact tf ak aw eO Z (.inl rfl) (by rw[yj,w9 b5];simp) p h
 .have nw:A.now (dG a k) j 0 s=false:=by unfold bX.now;rw[decide_eq_false (show ¬s=A.st from ay)];simp
  have p:=J9 (a:=A) (k:=j) (e:=0) (s:=s) H' (.str "grant") (.t [bW kp,v]) yN nw;rw[em]at p;exact tf ak aw eO Z (.inl rfl) (by rw[yj,decide_eq_false ay];rfl) p h
theorem Kb{ans:D}(an:n0 a k W me A.wi ans)(qO:n.cv.length<90000)(h:dn S i g w b A n aj as aq):uC a k W me i w b as aq n A S ans:=by
 cases an with
 |grant j s kp v aR rq=>exact X5 ak aw eO m0 kV Z aR s rq qO h|kept j s aR=>exact X6 ak aw eO Z aR s qO h|late j s p=>
  obtain⟨S',f3,dE,g',t,fQ,F0,av,aC⟩:=X7 ak aw Z j s p h;exact⟨S',f3,dE,aj,g',t,fQ,F0,av,by rw[aC];exact akW _ _⟩
end
def xK(s:Int)(W:List (List Nat)):Prop:=∀j:Int,0<=j->j<3->∃a∈W,tI [.int (s+64*j)]=pure (.v (.str (cE a)))/\qS a
def aaQ(s:Int):∃W:List (List Nat),W.length<59/\xK s W:=by
 obtain⟨xT,d5,h0⟩:=DQ (s+64*0);obtain⟨a1,av,ae⟩:=DQ (s+64*1);obtain⟨a2,aC,ah⟩:=DQ (s+64*2);refine⟨[xT,a1,a2],akc rfl,λj ajr ajs=>?_⟩;rcases(by omega:j=0\/j=1\/j=2)with rfl|rfl|rfl
 .exact⟨xT,by simp,d5,h0⟩
 .exact⟨a1,by simp,av,ae⟩
 .exact⟨a2,by simp,aC,ah⟩
def Ln{s:Int}(eO:xK s W)(c:Int):∃d:g6,qk [.int c,.int s]=pure (.v d.D)/\fM d/\n3 (λ_=>False) W d/\F' d.D:=by
 have bN:=mod_lt (a:=c / 6) (b:=3) (by decide);have ajg:=mod_lt (a:=c / 6) (b:=10 ^ 40) (by decide);obtain⟨l,DD,av,ar⟩:=eO (c / 6 % 3) bN.1 bN.2;have TL:n2 64 (c / 6 % 3):=.inl ⟨by decide,by decide⟩;have xj:kG l:=⟨ar.ok,ar.p1,ar.z3⟩;have acN:af kZ (aa (.int 10)) (aa (.int 40)) [.v (.int c),.v (.int s),.e]=pure (.v (.int (10 ^ 40))):=bZ (z7 ⟨by decide,by decide,by decide⟩ rfl) rfl rfl;have nm:∀x:Slot,bt tI (U (af hx (J 1) (af wx (aa (.int 64)) (af oMod (af gq (J 0) (aa (.int 6))) (aa (.int 3))))) ai) [.v (.int c),.v (.int s),x]=pure (.v (.str (cE l))):=λx=>call_of (rs:=[.v (.int (s+64*(c / 6 % 3)))]) (cons_of (bZ rfl rfl (bZ (aaB TL) rfl (bZ (hc (by decide)) (bZ (nj (jd (by decide) (by decide))) rfl rfl) rfl))) rfl) av
 have cV:b1 2 (af oMod (af gq (J 0) (aa (.int 6))) (af kZ (aa (.int 10)) (aa (.int 40)))) [.v (.int c),.v (.int s),.e]=pure (.bj [.v (.int c),.v (.int s),.v (.int (c / 6 % 10 ^ 40))]):=fj (bZ (hc (by decide)) (bZ (nj (jd (by decide) (by decide))) rfl rfl) acN);generalize c / 6 % 10 ^ 40=X at *;obtain⟨n,aF,aC⟩:∃n:Int,(-(10 ^ 60)<n/\n<10 ^ 60)/\Hn [.v (.int c),.v (.int s),.v (.int X)]=Ho [.v (.int c),.v (.int s),.v (.int n)]:=by
  by_cases q:c % 5=0
  .exact⟨0-X,by omega,eK ((lH (dB (bZ (nq.trans (by rw[decide_eq_true q])) (bZ (hc (by decide)) rfl rfl) rfl))).trans (fj rfl))⟩
  .exact⟨X,by omega,jo (dB (bZ (nq.trans (by rw[decide_eq_false q])) (bZ (hc (by decide)) rfl rfl) rfl))⟩
 have c4:∀w:Str,eo [D.str "put",.str "add",.str "add"] (c % 3)=some (.str w)->qk [.int c,.int s]=pure (.v (.t [.str w,.str (cE l),.int n])):=λw sY=>
  j4 rfl ((eK cV).trans (aC.trans (jP (Pe (bZ (KO sY) (tw rfl rfl (akc rfl)) (bZ (hc (by decide)) rfl rfl)) (nm _) rfl))))
 have j0:=mod_lt (a:=c) (b:=3) (by decide);rcases(by omega:c % 3=0\/c % 3=1\/c % 3=2)with h|h|h
 .exact⟨.put l n,c4 "put" (by rw[h];rfl),.inl ⟨l,n,rfl⟩,⟨xj,DD⟩,⟨"put",l,n,rfl,VU,ar,aF⟩⟩
 .exact⟨.add l n,c4 "add" (by rw[h];rfl),.inr ⟨l,n,rfl⟩,⟨xj,DD⟩,⟨"add",l,n,rfl,Jn,ar,aF⟩⟩
 .exact⟨.add l n,c4 "add" (by rw[h];rfl),.inr ⟨l,n,rfl⟩,⟨xj,DD⟩,⟨"add",l,n,rfl,Jn,ar,aF⟩⟩
def abb(me:Int)(st:c3){ms:List Nat}(ar:ms.length<=6):Ok 13 (.l (ms.map (hG me 0 st))):=
 zZ (n:=12) (by rw[ajX];omega) λx ag=>by
  obtain⟨j,_,rfl⟩:=akV.mp ag;exact aa9 (n:=11) (tX wC) ij ij ij (Ew st (by decide)) aa6
section
variable{S S1 bh:cG}{Y:aQ}
def ag5{a b:aQ->N Bool}(h:bA S (a Y) false S1)(ah:bA S1 (b Y) x bh):bA S (uu a b Y) x bh:=h.bind ah
def x_pure{mf:bC}{ms:hF}{rs:List R}{r:R}(h:bA S (ms Y) rs S1)(e:aG S1 (mf (rs.map R.arg)) r):bA S (ur mf ms Y) r S1:=h.bind e.to
def ag2{m:eX}{ms:c8}(h:bA S (m Y) x S1)(e:aG S1 (ms Y) xs):bA S (uq m ms Y) (x::xs) S1:=h.bind (e.to.bind rfl)
end
def SX{a:bX}(c:a.cc="calm"):a.Do qh [] [] a:=h8 rfl λS i g h=>
 tb h (cQ (b' (by rw[calm_eq (.inl c),c,beq_self_eq_true]) (cO h rfl rfl) (.of rfl))) (.of rfl)
def n0.mono{a k:aN}{me wi xm:Int}(h:wi<=xm)(z:n0 a k W me wi x):n0 a k W me xm x:=by
 cases z with
 |grant j s kp w aR aw=>exact .grant j s kp w aR (aw.mono λt p=>p.mono h)|kept j s aR=>exact .kept j s aR|late j s p=>exact .late j s p
def kA.mono{a k:aN}{me wi xm:Int}(h:wi<=xm)(z:kA a k W me wi x):kA a k W me xm x:=by
 cases z with
 |ask j s aR s0=>exact .ask j s aR s0|tell j s ho tM q5 T aR s0 tok cw=>exact .tell j s ho tM q5 T aR s0 tok (cw.mono h)
abbrev hY(i w:Nat)(c seed:Int)(s4 s5 et:Slot):aQ:=[.v (.ref i),.v (.ref w),.v (.int c),.v (.int seed),s4,s5,et]
abbrev E1:bf:=eT (fy (a3 (af oEq (fp "Asker" "stand" nJ (J 0) ai) (aa (.str "calm"))))) (bE (bR (b1 4 (bt lK (U (J 0) ai))))
  (bE (eT (uu (qL (qM (ur (gb 14) (uq (fR "Asker" "bell" qh (J 0) kr) (U (dh ai) ai))))) (fy (fw (a3 (bt (gb 14) (U (bt lK (U (J 0) ai)) (U (J 4) ai))))))) (bR (bw (aa (.az false)))) (bR cj))
  (bE (bR (b1 5 (aa (.aI))))
  (bE (bR (cP (a3 (af kY (af oMod (J 2) (aa (.int 4))) (aa (.int 0)))) (b1 5 (bt qk (U (af oMod (af gq (J 2) (aa (.int 4))) (af kZ (aa (.int 10)) (aa (.int 50)))) (U (J 3) ai)))) cj))
  (ks 6 (fR "Asker" "begin" tB (J 0) (gs (U (J 5) ai)))))))) (ks 6 (fR "Asker" "bell" qh (J 0) kr))
section
variable{a k:aN}(ak:Good a)(aw:Good k){W:List (List Nat)}{me seed:Int}(cI:xK seed W){A:bX}{n:e0}{aj:List Nat}{as:List D}{aq:jX}(Z:ix a k W me A n aj as aq)
include ak aw cI Z
theorem adb(h:dn S i g w b A n aj as aq)(c:Int):∃wi d dm di g1 S1 s4 s5,A.wi<=wi/\1<=wi/\uA W d/\bA S (E1 (hY i w c seed .e .e .e)) (.bj (hY i w c seed s4 s5 (.v (.l ((dG a k).map (hG me 0 (A.bb+1,me))))))) S1/\dn S1 i g1 w b (hn me (dT a k) (A.bb+1) (A.bb+1,me) wi (ko d) "asking" .aI [] dm di) n aj as aq:=by
 have lQ:=Z.gV.Fm ak aw;have hB:=Z.hB;have go:∀{bb st wi dd cc aL dm di},A=hn me (dT a k) bb st wi dd cc .aI aL dm di->(cc="asking"\/cc="telling")->∃g1 S1,bA S (E1 (hY i w c seed .e .e .e)) (.bj (hY i w c seed .e .e (.v (.l ((dG a k).map (hG me 0 (bb+1,me))))))) S1/\dn S1 i g1 w b (hn me (dT a k) (bb+1) (bb+1,me) wi dd "asking" .aI [] dm di) n aj as aq:=λ{bb st wi dd cc aL dm di} jG OE=>by
  subst jG;have sn:cc≠"calm":=by rcases OE with rfl|rfl<;>decide
  have hv:akf cc=true:=lQ.hv;obtain⟨S1,g1,t1,s1⟩:=SY (a:=hn me (dT a k) bb st wi dd cc .aI aL dm di) (zP ak aw) (o1 a k) (.inr OE) sn _ _ _ h.dR;exact⟨g1,S1,nY (aG.to (cQ (b' (by rw[fY hv qr,w9 sn]) (lq (v:=.str cc) h.dR rfl rfl rfl rfl) (.of rfl)))) (sm (sl h.dR.bx (.of rfl) rfl (rs:=[]) rfl rfl t1) rfl),h.step s1⟩
 have gV:=Z.gV
 cases gV with
 |ask bb st wi d aL dm di fl s0 cH jH mm=>
  obtain⟨g1,S1,t,fQ⟩:=go rfl (.inl rfl);exact⟨wi,d,dm,di,g1,S1,_,_,amD _,fl,cH,t,fQ⟩
 |tell bb st wi d aL T fl s0 cH tok cw row kc=>
  obtain⟨g1,S1,t,fQ⟩:=go rfl (.inr rfl);exact⟨wi,d,_,_,g1,S1,_,_,amD _,fl,cH,t,fQ⟩
 |calm bb st wi dd cZ aL dm di ok=>
  have hB:0<=wi:=hB;generalize jG:hn me (dT a k) bb st wi dd "calm" cZ aL dm di=A at *;have oj:A.cc="calm":=by rw[<-jG];rfl
  obtain⟨S1,g1,t1,s1⟩:=SX oj _ _ _ h.dR;have ae:=h.step s1;have Fw:aG S (a3 (af oEq (fp "Asker" "stand" nJ (J 0) ai) (aa (.str "calm"))) (hY i w c seed .e .e .e)) true:=cQ (b' (by rw[oj,fY qr qr,beq_self_eq_true]) (lq (v:=.str A.cc) h.dR rfl rfl rfl rfl) (.of rfl));have s4:bA S (bR (b1 4 (bt lK (U (J 0) ai))) (hY i w c seed .e .e .e)) (.bj (hY i w c seed (.v (.l (gB A))) .e .e)) S:=aG.to (iF (eP (rs:=[.v (.ref i)]) (.of rfl) (zv h.dR)) rfl);have s5:bA S (eT (uu (qL (qM (ur (gb 14) (uq (fR "Asker" "bell" qh (J 0) kr) (U (dh ai) ai))))) (fy (fw (a3 (bt (gb 14) (U (bt lK (U (J 0) ai)) (U (J 4) ai))))))) (bR (bw (aa (.az false)))) (bR cj) (hY i w c seed (.v (.l (gB A))) .e .e)) (.bj (hY i w c seed (.v (.l (gB A))) .e .e)) S1:=
   nY (ag5 (FV (x:=true) (FQ (x_pure (rs:=[.fr [],.fr []]) (ag2 (sl h.dR.bx (.of rfl) (by rw[<-jG];rfl) (rs:=[]) rfl rfl t1) (.of rfl)) (.of (same_refl 13 _ tW))))) (aG.to (j8 (x:=true) (cQ (Fb (σ:=[]) ae.dR lQ tW rfl rfl))))) rfl
  have b8:a3 (af kY (af oMod (J 2) (aa (.int 4))) (aa (.int 0))) (hY i w c seed (.v (.l (gB A))) (.v .aI) .e)=pure (decide (c % 4 > 0)):=dB (bZ vp (bZ (hc (by decide)) rfl rfl) rfl);have rest:∀(d:Option g6){bh g2},uA W d->bA S1 (bR (cP (a3 (af kY (af oMod (J 2) (aa (.int 4))) (aa (.int 0)))) (b1 5 (bt qk (U (af oMod (af gq (J 2) (aa (.int 4))) (af kZ (aa (.int 10)) (aa (.int 50)))) (U (J 3) ai)))) cj) (hY i w c seed (.v (.l (gB A))) (.v .aI) .e)) (.bj (hY i w c seed (.v (.l (gB A))) (.v (ko d)) .e)) S1->bA S1 (tB [.ref i,ko d]) (.fr ((dG a k).map (hG me 0 (bb+1,me)))) bh->ed S1 bh i g1 g2 (hn me (dT a k) (bb+1) (bb+1,me) (wi+1) (ko d) "asking" .aI [] dm di)->∃wi d dm di g1 S1 s4 s5,A.wi<=wi/\1<=wi/\uA W d/\bA S (E1 (hY i w c seed .e .e .e)) (.bj (hY i w c seed s4 s5 (.v (.l ((dG a k).map (hG me 0 (A.bb+1,me))))))) S1/\dn S1 i g1 w b (hn me (dT a k) (A.bb+1) (A.bb+1,me) wi (ko d) "asking" .aI [] dm di) n aj as aq:=λd {bh g2} cH dJ t3 s3=>by
   have kK:A.bb=bb:=by rw[<-jG];rfl
   rw[kK];exact⟨wi+1,d,dm,di,g2,bh,.v (.l (gB A)),.v (ko d),by rw[<-jG];show wi<=wi+1;omega,by omega,cH,ku Fw.to (cW s4 (cW s5 (cW (Y':=hY i w c seed (.v (.l (gB A))) (.v .aI) .e) (aG.to (.of rfl)) (cW dJ (sm (sl ae.dR.bx (.of rfl) (by rw[<-jG];rfl) (rs:=[.v (ko d)]) (aG.to (.of rfl)) rfl t3) rfl))))),ae.step s3⟩
  by_cases IM:c % 4 > 0
  .rw[decide_eq_true IM]at b8
   obtain⟨d,dS,fO,hd,og⟩:=Ln cI (c / 4 % 10 ^ 50);have cS:dr d.D=.v d.D:=by rcases fO with⟨a,m,rfl⟩|⟨a,m,rfl⟩<;>rfl
   have S2:=SV (a:=A) (by rw[<-jG];exact zP ak aw) (o1 a k) oj (by rw[<-jG];rfl) cS (by rcases fO with⟨a,m,rfl⟩|⟨a,m,rfl⟩<;>rfl) (Y3 og);obtain⟨bh,g2,dJ,s2⟩:=S2 _ _ _ ae.dR;rw[<-jG]at dJ s2;exact rest (some d) (λx ag=>by cases ag;exact⟨fO,hd⟩) (aG.to (.of ((lH b8).trans (fj (call_of (rs:=[.v (.int (c / 4 % 10 ^ 50)),.v (.int seed)]) (cons_of (bZ (hc (by decide)) (bZ (nj (jd (by decide) (by decide))) rfl rfl) (bZ (z7 ⟨by decide,by decide,by decide⟩ rfl) rfl rfl)) rfl) dS))))) dJ s2
  .rw[decide_eq_false IM]at b8
   obtain⟨bh,g2,dJ,s2⟩:=SW (a:=A) (by rw[<-jG];exact zP ak aw) (o1 a k) oj (by rw[<-jG];rfl) _ _ _ ae.dR;rw[<-jG]at dJ s2;exact rest none (λx ag=>by cases ag) (aG.to (.of (oI b8))) dJ s2
theorem ade(h:dn S i g w b A n aj as aq)(qO:n.cv.length<90000)(c:Int):∃S' f3 dE gp g',bA S (D3 [.ref i,.ref w,.int c,.int seed]) (.v (.az true)) S'/\dn S' i g' w b f3 dE gp as aq/\ix a k W me f3 dE gp as aq/\dE.cv.length<=n.cv.length+6:=by
 obtain⟨wi,d,dm,di,g1,S1,s4,s5,wl,fl,cH,t1,ae⟩:=adb ak aw cI Z h c;have iJ:=Z.iJ;have vX:=o1 a k;have cw:=Z.cw;generalize ou:(dG a k).map (hG me 0 (A.bb+1,me))=σ at *;have ZT:σ.length<=6:=by rw[<-ou,ajX];exact vX
 have p1:=rQ (k:=1) (Y:=hY i w c seed s4 s5 (.v (.l σ))) (f:="top") (mv:=af hx (af dH (J 1) (aa (.str "top"))) (aa (.int 1))) (x:=.v (.int (n.cw+1))) ae { n with cw:=n.cw+1 } rfl (b' (x:=.v (.int n.cw)) rfl (gC ae rfl rfl) (.of rfl)) rfl rfl;have ah:=ae.put { n with cw:=n.cw+1 } rfl rfl;have dv:=L6 (k:=1) (Y:=hY i w c seed s4 s5 (.v (.l σ))) ah rfl;have bN:=ah.anew;generalize(S1.set w (.cH (e0.L { n with cw:=n.cw+1 } b))).length=L at *;generalize((S1.set w (.cH (e0.L { n with cw:=n.cw+1 } b)))++[gI.l []]).set w (.cH (e0.L { n with cw:=n.cw+1,h:=L } b))=cN at *;have EB:=rQ (k:=1) (Y:=hY i w c seed s4 s5 (.v (.l σ))) (f:="fresh") (mv:=J 6) (x:=.v (.l σ)) bN { n with cw:=n.cw+1,h:=L,fr:=σ } rfl (.of rfl) rfl rfl;have dq:=bN.put { n with cw:=n.cw+1,h:=L,fr:=σ } rfl rfl;have abN:=rQ (k:=1) (Y:=hY i w c seed s4 s5 (.v (.l σ))) (f:="mine") (mv:=af ih (af dH (J 1) (aa (.str "mine"))) (J 6)) (x:=.fr (n.cv++σ)) dq { n with cw:=n.cw+1,h:=L,fr:=σ,cv:=n.cv++σ } rfl (b' (x:=.v (.l n.cv)) (y:=.v (.l σ)) (if_pos (ak8 (Fd (by omega)))) (gC dq rfl rfl) (.of rfl)) rfl rfl;have ep:=dq.put { n with cw:=n.cw+1,h:=L,fr:=σ,cv:=n.cv++σ } rfl rfl;have Gv:=Lm ak aw me (A.bb+1,me);rw[ou]at Gv;have aba:Ok 13 (.l σ):=by rw[<-ou];exact abb me _ vX
 have lt:∀l∈σ,kA a k W me wi l:=λl ar=>by
  rw[<-ou]at ar;obtain⟨x,ag,rfl⟩:=akV.mp ar;exact .ask x _ ag (by show 1<=A.bb+1;omega)
 refine⟨_,_,{ n with cw:=n.cw+1,h:=L,fr:=σ,cv:=n.cv++σ },[],g1,pv rfl (cW t1 (cW p1 (cW dv (cW EB (cW abN (aG.to (ji (eP (rs:=[.v (.l σ),.fr σ]) (bD (.of rfl) (bD (eP (rs:=[.v (.int me),.v (eZ a k),.v (bW (A.bb+1,me))]) (bD (gC ep rfl (by rw[<-Z.nm];rfl)) (bD (gC ep rfl (by rw[<-Z.pl];rfl)) (bD (oR (rs:=[.v (.int (A.bb+1)),.v (.int me)]) (bD (gC ep rfl (by rw[<-cw];rfl)) (bD (gC ep rfl (by rw[<-Z.nm];rfl)) de)) rfl (akc rfl)) de))) (.of Gv)) de)) (.of (same_refl 13 _ aba)))))))))),ep,⟨Z.pl,Z.nm,Z.fP,by show n.cw+1=A.bb+1;rw[cw],by show 0<=A.bb+1;omega,by show 0<=wi;omega,Z.c_.mono λt p=>p.mono wl,λ_ h=>(nomatch h),aly,.ask _ _ wi d [] dm di fl (by show 1<=A.bb+1;omega) cH rfl λ_ h=>(nomatch h),λx ag=>(Z.as x ag).mono wl,λl ar=>?_,lt,ZT⟩,by show(n.cv++σ).length<=_;rw[aj7];omega⟩;rcases akx.mp ar with ar|ar
 .exact(Z.cv l ar).mono wl
 .exact lt l ar
end
def afR{ls:List D}(aH:0<ls.length)(x:Int):∃l,eo ls (x % (ls.length:Nat))=some l/\l∈ls:=by
 have m:=mod_lt (a:=x) (b:=(ls.length:Nat)) (by omega);obtain⟨v,e⟩:=Bf (xs:=ls) m.1 m.2;exact⟨v,e,Be e⟩
def SU{ls:List D}{i:Int}(h0:i<0)(ae:-(ls.length:Int)<=i):∃l,eo ls i=some l/\l∈ls:=by
 have:∃j,oM ls.length i=some j/\j<ls.length:=by
  unfold oM;rw[if_neg (by omega)];exact⟨_,if_pos (by omega),by omega⟩
 obtain⟨j,e,ar⟩:=this;refine⟨ls[j],?_,aov ar⟩;unfold eo;rw[e];exact akF ar
def σ'{i:Int}{v:D}(e:eo xs i=some v):aO (.mv xs) (.v (.int i))=pure (.v v):=by
 show(match eo xs i with|some d=>pure (R.v d)|none=>bad)=_;rw[e]
def Lr(xs:List D):fh [.mv xs]=pure (.v (.int (xs.length:Nat))):=rfl
abbrev l3(i w:Nat)(c seed m:Int)(s5 et d1 hS i2:Slot):aQ:=[.v (.ref i),.v (.ref w),.v (.int c),.v (.int seed),.v (.int m),s5,et,d1,hS,i2]
section
variable{a k:aN}(ak:Good a)(aw:Good k){W:List (List Nat)}(eO:W.length<59){me seed:Int}(m0:0<=me)(kV:me<6)
include ak aw eO m0 kV
theorem X3{A:bX}{aj:List Nat}(Z:ix a k W me A n aj as aq)(ar:kA a k W me A.wi l)(h:dn S i g w b A n aj as aq):∃ans d0 S',bA S (oY [.ref b,l]) (.v ans) S'/\n0 a k W me A.wi ans/\dn S' i g w b A n aj as d0/\ix a k W me A n aj as d0:=by
 have ig:=Z.c_.2.len;have up:∀{d0},i6 (h3 me A.wi) W d0->ix a k W me A n aj as d0:=λc_=>⟨Z.pl,Z.nm,Z.fP,Z.cw,Z.iJ,Z.hB,c_,Z.eA,Z.dU,Z.gV,Z.as,Z.cv,Z.fr,Z.a7⟩
 cases ar with
 |ask j s aR s0=>
  obtain⟨pr,kp,v,aH,eY,rq⟩:=Z.c_.1 j
  cases iy:fc s pr with
  |false=>exact⟨_,aq,S,X4 (me:=me) aH h.c_ iy,.late j s pr,h,Z⟩| true=>exact⟨_,_,_,J_ (me:=me) aH h.c_ (by omega) iy,.grant j s kp v aR rq,h.EF _,up (Z.c_.put j (rP aR) (by omega) rq)⟩
 |tell j s ho tM q5 T aR s0 tok cw=>
  obtain⟨pr,kp,v,aH,eY,rq⟩:=Z.c_.1 j
  cases iy:fc pr s with
  |true=>exact⟨_,aq,S,Ka (me:=me) (b:=ho) (n:=tM) (dd:=q5) (t:=T.D) aH h.c_ iy,.late j s pr,h,Z⟩| false=>exact⟨_,_,_,J' (me:=me) (b:=ho) (n:=tM) (dd:=q5) (t:=T.D) aH h.c_ (by omega) iy,.kept j s aR,h.EF _,up (Z.c_.put j (rP aR) (by omega) (.inr ⟨s0,T,rfl,tok,cw⟩))⟩
theorem Lv{c m:Int}(s5 et d1:Slot):∀(ls:List D)(A:bX)(n:e0)(aj:List Nat)(as:List D)(aq:jX)(hS i2:Slot)(S:cG)(g:Nat),ix a k W me A n aj as aq->dn S i g w b A n aj as aq->(∀l∈ls,kA a k W me A.wi l)->as.length+ls.length<90000->n.cv.length+6*ls.length<90000->
  ∃f3 dE gp l9 d0 adj adk S' g',bA S (k8 (λd Y=>Ld (Y.set 8 (.v d))) ls (l3 i w c seed m s5 et d1 hS i2)) (.bj (l3 i w c seed m s5 et d1 adj adk)) S'/\ix a k W me f3 dE gp l9 d0/\dn S' i g' w b f3 dE gp l9 d0/\l9.length<=as.length+ls.length/\dE.cv.length<=n.cv.length+6*ls.length
 |[],A,n,aj,as,aq,hS,i2,S,g,Z,h,_,_,_=>⟨A,n,aj,as,aq,hS,i2,S,g,rfl,Z,h,aj0 _,aj0 _⟩
 |l::ls,A,n,aj,as,aq,hS,i2,S,g,Z,h,ar,e8,eb=>by
  rw[akd]at e8 eb;obtain⟨ans,oU,S1,t1,an,ae,jb⟩:=X3 ak aw eO m0 kV Z (ar l aj9) h;have ah:=ae.ans ans;have Qj:ix a k W me A n aj (as++[ans]) oU:=⟨jb.pl,jb.nm,jb.fP,jb.cw,jb.iJ,jb.hB,jb.c_,jb.eA,jb.dU,jb.gV,λx ag=>by
   rcases akx.mp ag with ag|ag
   .exact jb.as x ag
   .rw[akg.mp ag];exact an,jb.cv,jb.fr,jb.a7⟩
  obtain⟨cN,PS,kX,vI,g3,t3,bN,Qk,c4,aju⟩:=Kb ak aw eO m0 kV Qj an (by omega) ah;have zr:(as++[ans]).length=as.length+1:=by rw[aj7];rfl
  obtain⟨f3,dE,gp,l9,d0,Ap,OX,S',g',t,qZ,h',sq,sr⟩:=Lv s5 et d1 ls PS kX vI (as++[ans]) oU (.v l) (.v ans) cN g3 Qk bN (λx ag=>by rw[c4];exact ar x (aj4 _ ag)) (by omega) (by omega);refine⟨f3,dE,gp,l9,d0,Ap,OX,S',g',sk (cW (Y':=l3 i w c seed m s5 et d1 (.v l) (.v ans)) (sm (x_call (rs:=[.v (.ref b),.v l]) (bD (gC h rfl rfl) (.of rfl)) rfl t1) rfl) (cW (FR (gC ae rfl rfl) (bD (.of rfl) de) ae.dM (Fd (by omega))) (nY (FV (x:=true) (FQ (x_call (rs:=[.v (.ref i),.v (.ref w),.v ans]) (.of rfl) rfl t3))) rfl))) t,qZ,h',by rw[akd];omega,by rw[akd];omega⟩
end
abbrev l4(i w:Nat)(c seed:Int):aQ:=l3 i w c seed (c / 6) .e .e .e .e .e
section
variable{a k:aN}(ak:Good a)(aw:Good k){W:List (List Nat)}(eO:W.length<59){me seed:Int}(m0:0<=me)(kV:me<6)(cI:xK seed W)
include ak aw eO m0 kV cI
theorem VG{n:e0}{aj:List Nat}{as:List D}(Z:ix a k W me A n aj as aq)(ajU:as.length<80000)(qO:n.cv.length<80000)(h:dn S i g w b A n aj as aq)(c:Int):∃S' f3 dE gp l9 d0 g',bA S (zJ [.ref i,.ref w,.int c,.int seed]) (.v (.az true)) S'/\dn S' i g' w b f3 dE gp l9 d0/\ix a k W me f3 dE gp l9 d0/\l9.length<=as.length+6/\dE.cv.length<=n.cv.length+36:=by
 have r7:bA S (bR (b1 4 (af gq (J 2) (aa (.int 6)))) [.v (.ref i),.v (.ref w),.v (.int c),.v (.int seed),.e,.e,.e,.e,.e,.e]) (.bj (l4 i w c seed)) S:=aG.to (.of (fj (bZ (nj (jd (by decide) (by decide))) rfl rfl)));have mZ:∀(x:Int)(d1:Slot),a3 (af oEq (af oMod (J 2) (aa (.int 6))) (aa (.int x))) (l3 i w c seed (c / 6) .e .e d1 .e .e)=pure (decide (c % 6=x)):=λx _=>dB (bZ nq (bZ (hc (by decide)) rfl rfl) rfl)
 have pre:∀{S' r},bA S (Hr (l4 i w c seed)) (.cJ (.v r)) S'->bA S (zJ [.ref i,.ref w,.int c,.int seed]) (.v r) S':=λz=>pv rfl (cW r7 z)
 have t0:=mZ 0 .e
 by_cases sQ:c % 6=0
 .rw[decide_eq_true sQ]at t0
  have JC:=mod_lt (a:=me+1+c / 6 % 5) (b:=6) (by decide);have ig:=Z.c_.2.len;have fP:=Z.fP;have ajw:=mod_lt (a:=c / 6) (b:=5) (by decide);have V9:(me+1+c / 6 % 5) % 6≠me:=by omega
  obtain⟨d',dS,ED,vy,_⟩:=Ln cI (c / 6 / 5 % 10 ^ 45);have cS:dr d'.D=.v d'.D:=by rcases ED with⟨a,m,rfl⟩|⟨a,m,rfl⟩<;>rfl
  have p1:=rQ (k:=1) (Y:=l4 i w c seed) (f:="turn") (mv:=af hx (af dH (J 1) (aa (.str "turn"))) (aa (.int 1))) (x:=.v (.int (n.fP+1))) h { n with fP:=n.fP+1 } rfl (b' (x:=.v (.int n.fP)) rfl (gC h rfl rfl) (.of rfl)) rfl rfl;have ae:=h.put { n with fP:=n.fP+1 } rfl rfl;have qA:aG (S.set w (.cH (e0.L { n with fP:=n.fP+1 } b))) (b1 5 (af oMod (af hx (af hx (af dH (J 1) (aa (.str "me"))) (aa (.int 1))) (af oMod (J 4) (aa (.int 5)))) (aa (.int 6))) (l4 i w c seed)) (.bj (l3 i w c seed (c / 6) (.v (.int ((me+1+c / 6 % 5) % 6))) .e .e .e .e)):=
   iF (r:=.v (.int ((me+1+c / 6 % 5) % 6))) (b' (hc (by decide)) (b' (x:=.v (.int (me+1))) rfl (b' (x:=.v (.int me)) rfl (gC ae rfl (by rw[<-Z.nm];rfl)) (.of rfl)) (.of (bZ (hc (by decide)) rfl rfl))) (.of rfl)) rfl
  have ae0:aG (S.set w (.cH (e0.L { n with fP:=n.fP+1 } b))) (b1 6 (bt qk (U (af oMod (af gq (J 4) (aa (.int 5))) (af kZ (aa (.int 10)) (aa (.int 45)))) (U (J 3) ai))) (l3 i w c seed (c / 6) (.v (.int ((me+1+c / 6 % 5) % 6))) .e .e .e .e)) (.bj (l3 i w c seed (c / 6) (.v (.int ((me+1+c / 6 % 5) % 6))) (.v d'.D) .e .e .e)):=
   .of (fj (call_of (rs:=[.v (.int (c / 6 / 5 % 10 ^ 45)),.v (.int seed)]) (cons_of (bZ (hc (by decide)) (bZ (nj (jd (by decide) (by decide))) rfl rfl) (bZ (z7 ⟨by decide,by decide,by decide⟩ rfl) rfl rfl)) rfl) dS))
  obtain⟨d0,e,ab,_⟩:=Z1 ak aw eO ae.c_ Z.c_ (by omega) JC.1 JC.2 (n:=n.fP+1) (by omega) ED vy (c / 6 / 5) (Mx Z.hB) (λt p=>p.1) (λt ok p=>abP ok ED V9 _ p);refine⟨_,A,{ n with fP:=n.fP+1 },aj,as,d0,g,pre (pw (ku (aG.to (.of t0)) (cW p1 (cW qA.to (cW ae0.to (cW (AI (x_call (rs:=[.v (.ref b),.v (eZ a k),.v (.int ((me+1+c / 6 % 5) % 6)),.v (.int (n.fP+1)),.v d'.D,.v (.int (c / 6 / 5))]) ?_ rfl e)) rfl)))))),ae.EF d0,⟨Z.pl,Z.nm,by show 0<=n.fP+1;omega,Z.cw,Z.iJ,Z.hB,ab,Z.eA,Z.dU,Z.gV,Z.as,Z.cv,Z.fr,Z.a7⟩,akW _ _,akW _ _⟩;exact bD (gC ae rfl rfl) (bD (gC ae rfl (by rw[<-Z.pl];rfl)) (bD (.of rfl) (bD (gC ae rfl rfl) (bD (.of rfl) (bD (.of (bZ (nj (jd (by decide) (by decide))) rfl rfl)) de)))))
 .rw[decide_eq_false sQ]at t0
  have kW:aG S (a3 (af oEq (b_ fh (U (af dH (J 1) (aa (.str "mine"))) ai)) (aa (.int 0))) (l4 i w c seed)) (decide (((n.cv.length:Nat):Int)=0)):=cQ (b' nq (mI (zt _) (bD (gC h rfl rfl) de)) (.of rfl));have t1:=mZ 1 .e
  by_cases bk:c % 6=1\/n.cv.length=0
  .have tt:aG S (hh (a3 (af oEq (af oMod (J 2) (aa (.int 6))) (aa (.int 1)))) (a3 (af oEq (b_ fh (U (af dH (J 1) (aa (.str "mine"))) ai)) (aa (.int 0)))) (l4 i w c seed)) true:=by
    by_cases e:c % 6=1
    .rw[decide_eq_true e]at t1;exact Dw (.of t1)
    .rw[decide_eq_false e]at t1
     rw[decide_eq_true (show((n.cv.length:Nat):Int)=0 by have:=bk.resolve_left e;omega)]at kW;exact oQ (.of t1) kW
   obtain⟨S',f3,dE,gp,g',t,h',qZ,tu⟩:=ade ak aw cI Z h (by omega) (c / 6);exact⟨S',f3,dE,gp,as,aq,g',pre (k_ (aG.to (.of t0)) (pw (ku tt.to (PH (x_call (rs:=[.v (.ref i),.v (.ref w),.v (.int (c / 6)),.v (.int seed)]) (.of rfl) rfl t))))),h',qZ,akW _ _,by omega⟩
  .have ne1:¬c % 6=1:=λz=>bk (.inl z)
   have ajz:n.cv.length≠0:=λz=>bk (.inr z)
   rw[decide_eq_false ne1]at t1;rw[decide_eq_false (show ¬((n.cv.length:Nat):Int)=0 by omega)]at kW;have tt:aG S (hh (a3 (af oEq (af oMod (J 2) (aa (.int 6))) (aa (.int 1)))) (a3 (af oEq (b_ fh (U (af dH (J 1) (aa (.str "mine"))) ai)) (aa (.int 0)))) (l4 i w c seed)) false:=oQ (.of t1) kW;have al:aG S (gN (af dH (J 1) (aa (.str "answers"))) (l4 i w c seed)) (.mv as):=zf h.dM (gC h rfl rfl);have dJ:=mZ 2 .e;have zm:aG S (a3 (af kY (b_ fh (U (gN (af dH (J 1) (aa (.str "answers")))) ai)) (aa (.int 0))) (l4 i w c seed)) (decide (((as.length:Nat):Int) > 0)):=cQ (b' vp (mI (Lr _) (bD al de)) (.of rfl))
   by_cases uS:c % 6=2/\0<as.length
   .rw[decide_eq_true uS.1]at dJ
    rw[decide_eq_true (show((as.length:Nat):Int) > 0 by omega)]at zm;obtain⟨x,ex,ag⟩:=afR uS.2 (c / 6);obtain⟨S',f3,dE,gp,g',t,h',qZ,_,tu⟩:=Kb ak aw eO m0 kV Z (Z.as x ag) (by omega) h;exact⟨S',f3,dE,gp,as,aq,g',pre (k_ (aG.to (.of t0)) (k_ tt.to (pw (ku (aG.to (kS (.of dJ) zm)) (PH (x_call (rs:=[.v (.ref i),.v (.ref w),.v x]) (bD (.of rfl) (bD (.of rfl) (bD (b' (σ' ex) al (b' (hc (by omega)) (.of rfl) (mI (Lr _) (bD al de)))) de))) rfl t)))))),h',qZ,akW _ _,by omega⟩
   .have bT:aG S (jr (a3 (af oEq (af oMod (J 2) (aa (.int 6))) (aa (.int 2)))) (a3 (af kY (b_ fh (U (gN (af dH (J 1) (aa (.str "answers")))) ai)) (aa (.int 0)))) (l4 i w c seed)) false:=by
     by_cases e:c % 6=2
     .rw[decide_eq_true e]at dJ
      rw[decide_eq_false (show ¬((as.length:Nat):Int) > 0 by have:¬0<as.length:=λz=>uS ⟨e,z⟩;omega)]at zm;exact kS (.of dJ) zm
     .rw[decide_eq_false e]at dJ;exact oP (.of dJ)
    have d1:bA S (bR (b1 7 (b_ ve (U (af dH (J 1) (aa (.str "fresh"))) ai))) (l4 i w c seed)) (.bj (l3 i w c seed (c / 6) .e .e (.v (.l n.fr)) .e .e)) S:=aG.to (iF (r:=.fr n.fr) (mI rfl (bD (gC h rfl rfl) de)) rfl);obtain⟨ls,ar,mL,hS⟩:∃ls:List D,(∀l∈ls,kA a k W me A.wi l)/\ls.length<=6/\bA S (bR (cP (a3 (af oEq (af oMod (J 2) (aa (.int 6))) (aa (.int 3)))) (b1 7 (dh (U (af aO (af dH (J 1) (aa (.str "mine"))) (af wz (bL wy (aa (.int 1))) (af oMod (J 4) (b_ Jd (U (aa (.int 8)) (U (b_ fh (U (af dH (J 1) (aa (.str "mine"))) ai)) ai)))))) ai))) cj) (l3 i w c seed (c / 6) .e .e (.v (.l n.fr)) .e .e)) (.bj (l3 i w c seed (c / 6) .e .e (.v (.l ls)) .e .e)) S:=by
     have t3:=mZ 3 (.v (.l n.fr))
     by_cases e:c % 6=3
     .rw[decide_eq_true e]at t3
      have mp:0<(if((n.cv.length:Nat):Int)<8 then((n.cv.length:Nat):Int)else 8):=by split<;>omega
      have o2:=mod_lt (a:=c / 6) mp;have ajy:c / 6 % (if((n.cv.length:Nat):Int)<8 then((n.cv.length:Nat):Int)else 8)<((n.cv.length:Nat):Int):=by have:=o2.2;split at this<;>split<;>omega
      obtain⟨x,ex,ag⟩:=SU (ls:=n.cv) (i:=-1-c / 6 % (if((n.cv.length:Nat):Int)<8 then((n.cv.length:Nat):Int)else 8)) (by omega) (by omega);refine⟨[x],λl ar=>by rw[akg.mp ar];exact Z.cv x ag,akc rfl,aG.to (nF (.of t3) (iF (r:=.fr [x]) (Dv (rs:=[.v x]) (bD (b' (Y_ ex) (gC h rfl rfl) (b' (x:=.v (.int (-1))) rfl (.of rfl) (b' (hc mp) (.of rfl) (mI (rs:=[.v (.int 8),.v (.int ((n.cv.length:Nat):Int))]) rfl (bD (.of rfl) (bD (mI (zt _) (bD (gC h rfl rfl) de)) de)))))) de) rfl (akc rfl)) rfl))⟩
     .rw[decide_eq_false e]at t3
      exact⟨n.fr,Z.fr,Z.a7,aG.to (rB (.of t3) (.of rfl))⟩
    obtain⟨f3,dE,gp,l9,d0,Ap,OX,S',g',t,qZ,h',sq,sr⟩:=Lv ak aw eO m0 kV (seed:=seed) (c:=c) (m:=c / 6) .e .e (.v (.l ls)) ls A n aj as aq .e .e S g Z h ar (by omega) (by omega);exact⟨S',f3,dE,gp,l9,d0,g',pre (k_ (aG.to (.of t0)) (k_ tt.to (k_ bT.to (cW d1 (cW hS (cW (AJ (.of rfl) t) rfl)))))),h',qZ,by omega,by omega⟩
theorem I_(s0 s1 s3 s4:Slot):∀(cs:List Int)(d1:Slot)(A:bX)(n:e0)(aj:List Nat)(as:List D)(aq:jX)(S:cG)(g:Nat),dn S i g w b A n aj as aq->ix a k W me A n aj as aq->as.length+6*cs.length<80000->n.cv.length+36*cs.length<80000->∃E9 S',bA S (k8 (λd Y=>Lc (Y.set 7 (.v d))) (cs.map D.int) [s0,s1,.v (.int seed),s3,s4,.v (.ref w),.v (.ref i),d1]) (.bj [s0,s1,.v (.int seed),s3,s4,.v (.ref w),.v (.ref i),E9]) S'
 |[],d1,A,n,aj,as,aq,S,g,h,Z,_,_=>⟨d1,S,rfl⟩
 |x::cs,d1,A,n,aj,as,aq,S,g,h,Z,e8,eb=>by
  rw[akd]at e8 eb;obtain⟨S1,A1,e7,oG,QA,oU,g1,t1,ae,jb,sq,sr⟩:=VG ak aw eO m0 kV cI Z (by omega) (by omega) h (x % 10 ^ 60);obtain⟨E9,bh,dJ⟩:=I_ s0 s1 s3 s4 cs (.v (.int x)) A1 e7 oG QA oU S1 g1 ae jb (by omega) (by omega);exact⟨E9,bh,sk (nY (FV (x:=true) (FQ (x_call (rs:=[.v (.ref i),.v (.ref w),.v (.int (x % 10 ^ 60)),.v (.int seed)]) (.of (cons_of rfl (cons_of rfl (cons_of (bZ (hc (by decide)) rfl (bZ (z7 ⟨by decide,by decide,by decide⟩ rfl) rfl rfl)) (cons_of rfl rfl))))) rfl t1))) rfl) dJ⟩
end
def TZ(ns:List Int)(a b:Nat):∃ms:List Int,cutD (ns.map D.int) (some (a:Int)) (some (b:Int))=ms.map D.int/\ms.length<=b-a:=by
 unfold cutD;rw[dZ.E_,dZ.E_,<-List.map_drop,<-List.map_take];refine⟨_,rfl,?_⟩;rw[amg,ak0];simp only[ajX];omega
def Z5(ns:List Int)(aF:ns.length<=63):∃S',(D0 [.l (ns.map D.int)]).run []=.ok (.v (.az true)) S':=by
 obtain⟨a,k,jH,ak,aw⟩:=Z2 (ns.getD 0 0 % 600);have Kh:=mod_lt (a:=ns.getD 1 0) (b:=6) (by decide);obtain⟨W,eO,cI⟩:=aaQ (ns.getD 2 0 % 512);obtain⟨cs,gn,cl⟩:=TZ ns 3 43;have sQ:=BJ ns 0;have bL:=BJ ns 1;have uS:=BJ ns 2;have av:b1 1 (af oMod (bt oX (U (J 0) (U (aa (.int 1)) ai))) (aa (.int 6))) [.cu (ns.map D.int),.e,.e,.e,.e,.e,.e,.e]=pure (.bj [.cu (ns.map D.int),.v (.int (ns.getD 1 0 % 6)),.e,.e,.e,.e,.e,.e]):=
  fj (bZ (hc (by decide)) (call_of (rs:=[.cu (ns.map D.int),.v (.int 1)]) rfl bL) rfl)
 have aC:∀t1:Slot,b1 2 (af oMod (bt oX (U (J 0) (U (aa (.int 2)) ai))) (aa (.int 512))) [.cu (ns.map D.int),t1,.e,.e,.e,.e,.e,.e]=pure (.bj [.cu (ns.map D.int),t1,.v (.int (ns.getD 2 0 % 512)),.e,.e,.e,.e,.e]):=λ_=>
  fj (bZ (hc (by decide)) (call_of (rs:=[.cu (ns.map D.int),.v (.int 2)]) rfl uS) rfl)
 have c4:∀t1 dJ:Slot,b1 3 (bt v9 (U (af oMod (bt oX (U (J 0) (U (aa (.int 0)) ai))) (aa (.int 600))) ai)) [.cu (ns.map D.int),t1,dJ,.e,.e,.e,.e,.e]=pure (.bj [.cu (ns.map D.int),t1,dJ,.v (dT a k),.e,.e,.e,.e]):=λ_ _=>
  fj (call_of (rs:=[.v (.int (ns.getD 0 0 % 600))]) (cons_of (bZ (hc (by decide)) (call_of (rs:=[.cu (ns.map D.int),.v (.int 0)]) rfl sQ) rfl) rfl) jH)
 generalize ns.getD 1 0 % 6=me at *;generalize ns.getD 2 0 % 512=seed at *;obtain⟨S1,t1,ae,_,f1⟩:=YV [.eI [],.l [],.cH (e0.L ⟨me,eZ a k,0,0,1,[],[],3⟩ 0),.l []] me (dT a k) rfl;have h0:dn S1 4 5 2 0 (zS me (dT a k)) ⟨me,eZ a k,0,0,1,[],[],3⟩ [] [] []:=⟨ae,f1 2 _ ak1 rfl,f1 0 _ ak1 rfl,f1 1 _ ak1 rfl,f1 3 _ ak1 rfl,by show(5:Nat)≠1;decide,by show(5:Nat)≠3;decide,by show(1:Nat)≠3;decide⟩;have FX:ix a k W me (zS me (dT a k)) ⟨me,eZ a k,0,0,1,[],[],3⟩ [] [] []:=⟨rfl,rfl,amD _,rfl,amD _,amD _,.nil _ _,λ_ h=>(nomatch h),aly,.calm 0 (0,0) 0 .aI .aI [] 0 .aI rZ,λ_ h=>(nomatch h),λ_ h=>(nomatch h),λ_ h=>(nomatch h),akm _⟩;obtain⟨d1,S',el⟩:=I_ ak aw eO Kh.1 Kh.2 cI (.cu (ns.map D.int)) (.v (.int me)) (.v (dT a k)) (.v (eZ a k)) cs .e _ _ _ _ _ _ _ h0 FX (by show 0+_ < _;omega) (by show 0+_ < _;omega);rw[<-gn]at el;have lz:bA [] (ks 5 (AH [.inr "me",.inr "place",.inr "books",.inr "turn",.inr "top",.inr "heard",.inr "mine",.inr "fresh"] (i3 (c1 (J 1)) (i3 (c1 (J 4)) (i3 (xn (.eI [])) (i3 (c1 (aa (.int 0))) (i3 (c1 (aa (.int 0))) (i3 (kq (c1 (dh ai))) (i3 (c1 (dh ai)) (i3 (c1 (dh ai)) kr))))))))) [.cu (ns.map D.int),.v (.int me),.v (.int seed),.v (dT a k),.v (eZ a k),.e,.e,.e]) (.bj [.cu (ns.map D.int),.v (.int me),.v (.int seed),.v (dT a k),.v (eZ a k),.v (.ref 2),.e,.e]) [.eI [],.l [],.cH [(.inr "me",.int me),(.inr "place",eZ a k),(.inr "books",.ref 0),(.inr "turn",.int 0),(.inr "top",.int 0),(.inr "heard",.ref 1),(.inr "mine",.l []),(.inr "fresh",.l [])]]:=rfl;have oi:bA [.eI [],.l [],.cH [(.inr "me",.int me),(.inr "place",eZ a k),(.inr "books",.ref 0),(.inr "turn",.int 0),(.inr "top",.int 0),(.inr "heard",.ref 1),(.inr "mine",.l []),(.inr "fresh",.l [])]] (jw (J 5) (aa (.str "answers")) (kq (c1 (dh ai))) [.cu (ns.map D.int),.v (.int me),.v (.int seed),.v (dT a k),.v (eZ a k),.v (.ref 2),.e,.e]) (.bj [.cu (ns.map D.int),.v (.int me),.v (.int seed),.v (dT a k),.v (eZ a k),.v (.ref 2),.e,.e]) [.eI [],.l [],.cH (e0.L ⟨me,eZ a k,0,0,1,[],[],3⟩ 0),.l []]:=rfl;have Vt:bA [.eI [],.l [],.cH (e0.L ⟨me,eZ a k,0,0,1,[],[],3⟩ 0),.l []] (ks 6 (xp "Asker" zz (gs (U (J 1) (U (J 3) ai)))) [.cu (ns.map D.int),.v (.int me),.v (.int seed),.v (dT a k),.v (eZ a k),.v (.ref 2),.e,.e]) (.bj [.cu (ns.map D.int),.v (.int me),.v (.int seed),.v (dT a k),.v (eZ a k),.v (.ref 2),.v (.ref 4),.e]) S1:=sm (ag4 (rs:=[.v (.int me),.v (dT a k)]) (.of rfl) rfl t1) rfl;refine⟨S',pv rfl ?_⟩;exact cW (aG.of av).to<|cW (aG.of (aC _)).to<|cW (aG.of (c4 _ _)).to<|cW (aG.of (fj (d:=eZ a k) rfl)).to<|cW lz<|cW oi<|cW Vt<|
  cW (AJ (Du (.of (show yf (J 0) (sT (aa (.int 3))) (sT (aa (.int 43))) _=pure (.fr (cutD (ns.map D.int) (some 3) (some 43)))from rfl))) el) rfl
end fA
namespace PySem.W.Fast
noncomputable def zp:=PySem.Challenge.pw_oneslate_k37_late_bell_twice
noncomputable def zq:=zp.main.body
noncomputable def tw8651634212512068611:=(zq.drop 0).take 11
theorem te8651634212512068611:tw8651634212512068611=tw8651634212512068611:=rfl
noncomputable def tw17578277162625256455:=(zq.drop 48).take 14
theorem te17578277162625256455:tw17578277162625256455=tw17578277162625256455:=rfl
noncomputable def tw9495508747417760776:=(zq.drop 91).take 10
theorem te9495508747417760776:tw9495508747417760776=tw9495508747417760776:=rfl
noncomputable def tw17058282447270460489:=(zq.drop 24).take 15
theorem te17058282447270460489:tw17058282447270460489=tw17058282447270460489:=rfl
noncomputable def tw3248739960569904491:=(zq.drop 11).take 2
theorem te3248739960569904491:tw3248739960569904491=tw3248739960569904491:=rfl
noncomputable def tw258998432557289580:=(zq.drop 62).take 8
theorem te258998432557289580:tw258998432557289580=tw258998432557289580:=rfl
noncomputable def tw8937382813961418190:=(zq.drop 39).take 9
theorem te8937382813961418190:tw8937382813961418190=tw8937382813961418190:=rfl
noncomputable def tw16000456746332107343:=(zq.drop 13).take 1
theorem te16000456746332107343:tw16000456746332107343=tw16000456746332107343:=rfl
noncomputable def tw3770907611719247762:=(zq.drop 70).take 7
theorem te3770907611719247762:tw3770907611719247762=tw3770907611719247762:=rfl
noncomputable def tw3518960540153385494:=(zq.drop 78).take 13
theorem te3518960540153385494:tw3518960540153385494=tw3518960540153385494:=rfl
noncomputable def tw14058302891661941308:=(zq.drop 77).take 1
theorem te14058302891661941308:tw14058302891661941308=tw14058302891661941308:=rfl
noncomputable def tw11904964499308754207:=(zq.drop 14).take 10
theorem te11904964499308754207:tw11904964499308754207=tw11904964499308754207:=rfl
noncomputable def tw389843227005481919:PySem.Program:={zp with main:={zp.main with body:=([1,2,3,4,5,7,8,9,11,12,13,14,16,17,18,19,20,21,22,23,24,25,26,27,28,29,31,32,33,34,35,37,38,39,40,41,42,43,44,45,47,48,49,50,51,52,53,54,55,56,57,59,60,61,62,63,64,65,66,67,68,69,70,71,72,74,75,77,79,80,81,82,83,84,85,86,87,88,89,90,91,92,93,94,95,96,97,98,99,100]:List Nat).filterMap fun i=>zp.main.body[i]?}}
theorem te389843227005481919:tw389843227005481919=tw389843227005481919:=rfl
def te1639347146306884510:=0
def te3563559303623965875:=0
def te10398740535329379785:=0
def te705574780918149787:=0
def te7390351267129405802:=0
def te1025234596376053705:=0
def te8660597623686292277:=0
def te14564720293748363509:=0
def te13493089697335811571:=0
def te6905857574069850467:=0
def te4523212874299813164:=0
def te8604441903847925384:=0
def te14422355231673387397:=0
def te3462336539699596068:=0
def te16785945258875108510:=0
def te15610913228417277147:=0
def te6103905648987046009:=0
def te15378181308293686913:=0
def te163005616419686745:=0
def te13609498086167447012:=0
def te360210058470113525:=0
def te13836495931717504015:=0
def te1335365276213782918:=0
def te12133638551010335482:=0
def te16356025143468001896:=0
def te8515359348065860094:=0
def te3764027038326136810:=0
def te7072153413004486348:=0
def te9125357071586765135:=0
def te14553555895113785694:=0
def te16339564989126925341:=0
def te4791553470735968911:=0
def te1470933820461151006:=0
def te17977651442317105875:=0
def te14564553848240425411:=0
def te2711234805985949245:=0
def te17737940793252121796:=0
def te9679063897379717815:=0
def te13529187681030451635:=0
def te7582695222891538223:=0
def te1063057712707903294:=0
def te16100422813667258865:=0
def te14355040086832587589:=0
def te3802023775728063782:=0
def te12432386774763222575:=0
def te11102299678382624074:=0
def te5711411709907392168:=0
def te298896202465969059:=0
def te9591913617555964328:=0
def te6277942789057067435:=0
def te9012829181565078992:=0
def te12998393546472676107:=0
def te14542328427412329378:=0
def te7858620444553217454:=0
def te14357528205533389072:=0
def te8059628105036893413:=0
def te5532272435693506579:=0
def te6178160309360178871:=0
def te17237751295507807917:=0
def te3650425010195869056:=0
def te6369134247028671673:=0
def te7970410021703765688:=0
def te11246316664096371080:=0
def te3392232600809210642:=0
def te8955220740714690987:=0
def te4885227076270722383:=0
def te16598457925981133986:=0
def te7157771236373214337:=0
def te17238518756943552748:=0
def te42544204731357932:=0
def te15253117551887914652:=0
def te14577490463540264303:=0
def te6563615493503422511:=0
def te17745986127716756702:=0
def te750082237424995949:=0
def te6187656414285993722:=0
def te2066746140158887653:=0
def te11925401287490345032:=0
def te12164635170150035364:=0
def te17301981538854157929:=0
def te14253995935911181894:=0
def te7592419425728279677:=0
def te3248752969926845873:=0
def te3402634530753234214:=0
def te4650256171837024089:=0
def te14812493273988172447:=0
def te9215054446937949528:=0
def te279049179849355115:=0
def te11118215217856611883:=0
def te17315982922798979456:=0
def te5778051084803338006:=0
def te2016220016712316313:=0
def te13186760780770942005:=0
def te11274821293410467069:=0
def te9485495294304271739:=0
def te11651095648360366047:=0
def te11986295163913361131:=0
def te3444738023842867338:=0
def te18283603750663738230:=0
def te5267545876505435429:=0
def te18403607184513453504:=0
def te9272117350866229530:=0
def te10068566458967115092:=0
def te14871990254194868481:=0
def te222858862134625543:=0
def te12818823350626032717:=0
def te9647564168561978640:=0
def te10648730246213018587:=0
def te7278532465544410735:=0
def te18246129617500006697:=0
def te1562303278372784922:=0
def te13903246253064409193:=0
end PySem.W.Fast
open PySem PySem.W PyProof.Rows
set_option maxHeartbeats 0 in
theorem PySem.Challenge.cw_oneslate_k37_late_bell_twice_holds : PySem.Challenge.rw_oneslate_k37_late_bell_twice.Holds := by
 w_on;o_law;k_head;(case hw=>w_witness2)
 k_fill
 refine aZ.af6 (l:=PySem.Challenge.rw_oneslate_k37_late_bell_twice) (k:=23) ["highest","with_cell","with_doing"] rfl rfl ⟨rfl,by decide,by decide⟩ ?ahR ?ahQ (λw h σ=>PySem.W.km_in_of σ) ?F
 case ahR=>
  intro x ag
  rcases aj5.mp ag with rfl|ag
  .exact⟨_,rfl⟩
  rcases aj5.mp ag with rfl|ag
  .exact⟨_,rfl⟩
  rcases aj5.mp ag with rfl|ag
  .exact⟨_,rfl⟩
  cases ag
 case ahQ=>exact λp=>by kernel_rfl
 case F=>
  intro w mg ef h dA G vE
  have oc:aZ.pB (aE.jW dA) mg "Asker" fA.zV:=by
   dsimp only[aE.jW]
   refine' aZ.TK dA G ?a ?wK ?hd ?po ?pe ?mk ?Dx ?na
   (case a=>k_is);(case wK=>k_is);(case hd=>k_is);(case po=>k_is);(case pe=>k_is);(case mk=>k_is);(case Dx=>k_is)
   case na=>
    simp only[alq]
    refine⟨by k_is,by k_is,by k_is,by k_is,by k_is,by k_is,by k_is,by k_is,by k_is,by k_is,by k_is,by k_is,by k_is,by k_is,λ_ h=>nomatch h⟩
  have BQ:aZ.xC (aE.jW dA) mg "Asker" "begin" "Asker.begin" fA.E' ["self","deed"]:=by
   dsimp only[aE.jW]at oc ⊢
   refine' aZ.Vf dA G oc ?a ?f ?i ?l ?t ?c ?k rfl (λ_ _ _ _ _ _=>aZ.AB λ_ _=>⟨_,rfl,rfl⟩) (λ_ _ _ _ _ _=>aZ.xi λ_=>⟨_,rfl,rfl⟩)
   (case a=>k_is);(case f=>k_is);(case i=>k_is);(case l=>k_is);(case t=>k_is);(case c=>k_is);(case k=>k_is)
  have BR:aE.cn (aE.jW dA) mg "law" fA.w2 ["script"]:=by
   dsimp only[aE.jW]
   refine' aZ.IW dA G ?a ?l ?c ?k (λ_ _ _ _ _ _=>aZ.xi λ_=>rfl)
   (case a=>k_is);(case l=>k_is);(case c=>k_is);(case k=>k_is)
  have Cx:∃u,mg "SMALL_LETTERS"=some u/\aE.RelV (.str "abcdefghijklmnopqrstuvwxyz") u:=by
   refine' ⟨_,PySem.W.mg_of dA G ?a,?b⟩
   (case a=>k_is);(case b=>exact⟨_,rfl⟩)
  have Cw:∃u,mg "MOST_LETTERS"=some u/\aE.RelV (.int 8) u:=by
   refine' ⟨_,PySem.W.mg_of dA G ?a,?b⟩
   (case a=>k_is);(case b=>exact⟨_,rfl⟩)
  letI:aE.a5:=aZ.ug (aE.jW dA) ["highest","with_cell","with_doing"]
  have Dq:aZ.KTab PySem.Challenge.rw_oneslate_k37_late_bell_twice.prog w (aE.jW dA) mg "FORMS" fA.ts:=by
   dsimp only[aE.jW]
   refine' aZ.ZR dA G ?a ?s ?l ?k ?f
   (case a=>k_is);(case s=>decide);(case l=>k_is)
   case k=>
    intro e he
    rcases aj5.mp he with rfl|he
    .exact⟨"put",rfl,rfl⟩
    rcases aj5.mp he with rfl|he
    .exact⟨"add",rfl,rfl⟩
    rcases aj5.mp he with rfl|he
    .exact⟨"swap",rfl,rfl⟩
    rcases aj5.mp he with rfl|he
    .exact⟨"take",rfl,rfl⟩
    rcases aj5.mp he with rfl|he
    .exact⟨"renew",rfl,rfl⟩
    rcases aj5.mp he with rfl|he
    .exact⟨"free",rfl,rfl⟩
    rcases aj5.mp he with rfl|he
    .exact⟨"sure",rfl,rfl⟩
    rcases aj5.mp he with rfl|he
    .exact⟨"move",rfl,rfl⟩
    rcases aj5.mp he with rfl|he
    .exact⟨"end",rfl,rfl⟩
    cases he
   case f=>exact⟨_,_,rfl,⟨_,rfl⟩,(aZ.oT (xs:=["name","number"]) (by k_is) (by decide +kernel) (by exact⟨_,_,rfl,⟨_,_,rfl,rfl⟩⟩)),⟨_,_,rfl,⟨_,rfl⟩,(aZ.oT (xs:=["name","number"]) (by k_is) (by decide +kernel) (by exact⟨_,_,rfl,⟨_,_,rfl,rfl⟩⟩)),⟨_,_,rfl,⟨_,rfl⟩,(aZ.oT (xs:=["name","number","number"]) (by k_is) (by decide +kernel) (by exact⟨_,_,rfl,⟨_,_,rfl,⟨_,_,rfl,rfl⟩⟩⟩)),⟨_,_,rfl,⟨_,rfl⟩,(aZ.oT (xs:=["fence"]) (by k_is) (by decide +kernel) (by exact⟨_,_,rfl,rfl⟩)),⟨_,_,rfl,⟨_,rfl⟩,(aZ.oT (xs:=["fence"]) (by k_is) (by decide +kernel) (by exact⟨_,_,rfl,rfl⟩)),⟨_,_,rfl,⟨_,rfl⟩,(aZ.oT (xs:=["fence"]) (by k_is) (by decide +kernel) (by exact⟨_,_,rfl,rfl⟩)),⟨_,_,rfl,⟨_,rfl⟩,(aZ.oT (xs:=["fence","name","number"]) (by k_is) (by decide +kernel) (by exact⟨_,_,rfl,⟨_,_,rfl,⟨_,_,rfl,rfl⟩⟩⟩)),⟨_,_,rfl,⟨_,rfl⟩,(aZ.oT (xs:=["hall"]) (by k_is) (by decide +kernel) (by exact⟨_,_,rfl,rfl⟩)),⟨_,_,rfl,⟨_,rfl⟩,(aZ.oT (xs:=[]) (by k_is) (by decide +kernel) (by exact rfl)),rfl⟩⟩⟩⟩⟩⟩⟩⟩⟩
  have Av:aZ.uB PySem.Challenge.rw_oneslate_k37_late_bell_twice.prog w (aE.jW dA) mg "DOERS" fA.r':=by
   dsimp only[aE.jW]
   refine' aZ.VP dA G ?a ?l ?k ?f
   (case a=>k_is);(case l=>k_is)
   case k=>
    intro e he
    rcases aj5.mp he with rfl|he
    .exact⟨"put",rfl,rfl⟩
    rcases aj5.mp he with rfl|he
    .exact⟨"add",rfl,rfl⟩
    rcases aj5.mp he with rfl|he
    .exact⟨"swap",rfl,rfl⟩
    rcases aj5.mp he with rfl|he
    .exact⟨"take",rfl,rfl⟩
    rcases aj5.mp he with rfl|he
    .exact⟨"renew",rfl,rfl⟩
    rcases aj5.mp he with rfl|he
    .exact⟨"free",rfl,rfl⟩
    rcases aj5.mp he with rfl|he
    .exact⟨"sure",rfl,rfl⟩
    rcases aj5.mp he with rfl|he
    .exact⟨"move",rfl,rfl⟩
    rcases aj5.mp he with rfl|he
    .exact⟨"end",rfl,rfl⟩
    cases he
   case f=>
    simp only[alq]
    refine⟨⟨_,by k_is,by k_is⟩,⟨_,by k_is,by k_is⟩,⟨_,by k_is,by k_is⟩,⟨_,by k_is,by k_is⟩,⟨_,by k_is,by k_is⟩,⟨_,by k_is,by k_is⟩,⟨_,by k_is,by k_is⟩,⟨_,by k_is,by k_is⟩,⟨_,by k_is,by k_is⟩,λ_ h=>nomatch h⟩
  have DE:=by
   refine' aZ.DW (x:="highest") (st:=fA.ua) (ln:=["highest","with_cell","with_doing"]) dA G ?o2 ?uM ?mL ?d7 ?dd ?wF ?av ?aC ?c4 ?fD ?lz ?oi ?nn ?ii
   (case o2=>decide);(case uM=>k_is);(case mL=>k_is);(case d7=>exact rfl);(case dd=>k_is);(case wF=>exact rfl);(case av=>exact rfl);(case aC=>exact rfl);(case c4=>exact rfl);(case fD=>exact rfl);(case lz=>exact rfl);(case oi=>exact rfl);(case nn=>decide)
   case ii=>
    intro y ba bM
    rcases aj5.mp ba with rfl|ba
    .rfl
    rcases aj5.mp ba with rfl|ba
    .refine' aZ.tQ ?bk ?b0 bM
     case bk=>
      refine' aZ.sa ?a1 ?a2 ?eH ?q7 ?jC
      (case a1=>k_is);(case a2=>k_is);(case eH=>exact rfl);(case q7=>k_is);(case jC=>exact rfl)
     case b0=>decide
    rcases aj5.mp ba with rfl|ba
    .refine' aZ.tQ ?bk ?b0 bM
     case bk=>
      refine' aZ.sa ?a1 ?a2 ?eH ?q7 ?jC
      (case a1=>k_is);(case a2=>k_is);(case eH=>exact rfl);(case q7=>k_is);(case jC=>exact rfl)
     case b0=>decide
    cases ba
  have DK:=by
   refine' aZ.DW (x:="with_cell") (st:=fA.r3) (ln:=["highest","with_cell","with_doing"]) dA G ?o2 ?uM ?mL ?d7 ?dd ?wF ?av ?aC ?c4 ?fD ?lz ?oi ?nn ?ii
   (case o2=>decide);(case uM=>k_is);(case mL=>k_is);(case d7=>exact rfl);(case dd=>k_is);(case wF=>exact rfl);(case av=>exact rfl);(case aC=>exact rfl);(case c4=>exact rfl);(case fD=>exact rfl);(case lz=>exact rfl);(case oi=>exact rfl);(case nn=>decide)
   case ii=>
    intro y ba bM
    rcases aj5.mp ba with rfl|ba
    .refine' aZ.tQ ?bk ?b0 bM
     case bk=>
      refine' aZ.sa ?a1 ?a2 ?eH ?q7 ?jC
      (case a1=>k_is);(case a2=>k_is);(case eH=>exact rfl);(case q7=>k_is);(case jC=>exact rfl)
     case b0=>decide
    rcases aj5.mp ba with rfl|ba
    .rfl
    rcases aj5.mp ba with rfl|ba
    .refine' aZ.tQ ?bk ?b0 bM
     case bk=>
      refine' aZ.sa ?a1 ?a2 ?eH ?q7 ?jC
      (case a1=>k_is);(case a2=>k_is);(case eH=>exact rfl);(case q7=>k_is);(case jC=>exact rfl)
     case b0=>decide
    cases ba
  have DL:=by
   refine' aZ.DW (x:="with_doing") (st:=fA.r4) (ln:=["highest","with_cell","with_doing"]) dA G ?o2 ?uM ?mL ?d7 ?dd ?wF ?av ?aC ?c4 ?fD ?lz ?oi ?nn ?ii
   (case o2=>decide);(case uM=>k_is);(case mL=>k_is);(case d7=>exact rfl);(case dd=>k_is);(case wF=>exact rfl);(case av=>exact rfl);(case aC=>exact rfl);(case c4=>exact rfl);(case fD=>exact rfl);(case lz=>exact rfl);(case oi=>exact rfl);(case nn=>decide)
   case ii=>
    intro y ba bM
    rcases aj5.mp ba with rfl|ba
    .refine' aZ.tQ ?bk ?b0 bM
     case bk=>
      refine' aZ.sa ?a1 ?a2 ?eH ?q7 ?jC
      (case a1=>k_is);(case a2=>k_is);(case eH=>exact rfl);(case q7=>k_is);(case jC=>exact rfl)
     case b0=>decide
    rcases aj5.mp ba with rfl|ba
    .refine' aZ.tQ ?bk ?b0 bM
     case bk=>
      refine' aZ.sa ?a1 ?a2 ?eH ?q7 ?jC
      (case a1=>k_is);(case a2=>k_is);(case eH=>exact rfl);(case q7=>k_is);(case jC=>exact rfl)
     case b0=>decide
    rcases aj5.mp ba with rfl|ba
    .rfl
    cases ba
  have kt:aE.uE (aE.jW dA):=aE.ZM _
  have PW:aZ.F5 mg:=by
   refine' ⟨akt dA G ?FX,akt dA G ?e8,akt dA G ?eb,akt dA G ?l0,akt dA G ?m4,akt dA G ?FY,akt dA G ?FZ,akt dA G ?F0,akt dA G ?ahO,akt dA G ?ahP,akt dA G ?ahF,akt dA G ?ahG,akt dA G ?ahH,akt dA G ?ahI,akt dA G ?ahJ,akt dA G ?ahK,akt dA G ?ahL,akt dA G ?ahM,akt dA G ?ahN⟩
   (case FX=>k_is);(case e8=>k_is);(case eb=>k_is);(case l0=>k_is);(case m4=>k_is);(case FY=>k_is);(case FZ=>k_is);(case F0=>k_is);(case ahO=>k_is);(case ahP=>k_is);(case ahF=>k_is);(case ahG=>k_is);(case ahH=>k_is);(case ahI=>k_is);(case ahJ=>k_is);(case ahK=>k_is);(case ahL=>k_is);(case ahM=>k_is);(case ahN=>k_is)
  refine aZ.Qu vE BR (λ_ _ _ _ _ _ _=>rfl) (λbase S5 f fd F=>aZ.ZX (fA.Eu ⟨?_,?_,?_,?_,?_,?_,?_,?_,?_,?_,?_,?_,?_,?_,?_,?_,?_,?_,?_,?_,?_,?_,?_,?_,?_,?_,?_,?_,?_,?_,?_,?_,?_,?_,?_,?_,?_,?_,?_,?_,BQ,?_,?_,?_,?_,?_,?_,?_,?_,?_,?_,?_,?_,?_,?_,?_,?_,?_,?_,?_,?_,?_,?_,?_,?_,?_,?_,?_,?_,?_,?_,?_,?_,?_,?_,?_,?_,?_,?_,?_,BR,oc,Cx,Cw,Av,Dq,DE,DK,DL,S5,PW,kt⟩ F) fA.Z5)
  all_goals first
  |((try dsimp only[aE.jW]);refine' aZ.IW dA G ?a ?l ?c ?k (λ_ _ _ _ _ _=>by first|exact aZ.Pr rfl|exact aZ.xi λ_=>rfl|exact aZ.AB λ_ _=>rfl|exact aZ.Fz λ_ _ _=>rfl|exact aZ.FA λ_ _ _ _=>rfl|exact aZ.FC λ_ _ _ _ _=>rfl|exact aZ.FD λ_ _ _ _ _ _=>rfl|exact aZ.Pt λ_ _ _ _ _ _ _=>rfl);(case a=>k_is);(case l=>k_is);(case c=>k_is);(case k=>k_is))
  |(dsimp only[aE.jW]at oc ⊢;refine' aZ.Ve dA G oc ?a ?f ?i ?l ?c ?k (λ_ _ _ _ _ _=>by first|exact aZ.xi λ_=>rfl|exact aZ.AB λ_ _=>rfl|exact aZ.Fz λ_ _ _=>rfl|exact aZ.FA λ_ _ _ _=>rfl|exact aZ.FC λ_ _ _ _ _=>rfl|exact aZ.FD λ_ _ _ _ _ _=>rfl|exact aZ.Pt λ_ _ _ _ _ _ _=>rfl);(case a=>k_is);(case f=>k_is);(case i=>k_is);(case l=>k_is);(case c=>k_is);(case k=>k_is))
