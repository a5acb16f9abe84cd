import PyProof.Rows.All
import Wide.All
import OpenK.AllK
import Wide.FinOn
import Lean
import PyProof.EqAt
import PyProof.EqKinds
import PyProof.TupleCall
import KE.KSortTup
import PyProof.ZipIter
import KE.KMinKey
import KE.KRevSl
import KE.KSortedM
import PyProof.Rows.EnumRows
import PyProof.EnumStmt
import PyProof.StationsW
import PyProof.ExcClass3
import PyProof.RulesTry
import OpenK.KOwn
import KE.KIntText
import KE.KTryMore
import PyProof.ExcAttrAll.ValueError
import PyProof.RulesDel
import PyProof.Rows.StrNews
import PyProof.CallStr
import PyProof.Rows.StrNews2
import PySem.Challenge.RW_oneslate_k84_texts_refused
import PyProof.StrLawsChain
import PyProof.StrLawsTight
import PyProof.Rows.StrItems
import PyProof.StrLawsFirst
import KE.IntTextText
set_option Elab.async false
set_option linter.all false
set_option maxRecDepth 100000
set_option bootstrap.genMatcherCode false
open Array renaming getElem?_eq_some_iff->aid,length_toList->aiv,getElem?_toList->alG
open Bool renaming false_ne_true->ahd,and_eq_true->ahn,eq_iff_iff->aif,eq_false_iff->akY
open False renaming elim->aie
open ForInStep renaming yield->ajm
open Int renaming fdiv_eq_ediv_of_nonneg->akP,toNat_natCast->akW
open List renaming length_append->ag3,length_map->ag4,mem_cons->aha,mem_cons_self->ahb,mem_cons_of_mem->ahc,getElem?_eq_some_iff->ahe,map_cons->ahi,length_cons->ahj,size_toArray->ahk,append_nil->ahl,length_singleton->ahm,mem_append_right->ahp,getElem?_set_self->ahr,append_assoc->aht,replicate->ahu,forall_mem_cons->ahw,length_drop->ahz,getElem?_map->ahA,getElem?_set_ne->ahD,getElem?_append_left->ahF,all_eq_true->ahH,mem_append->ahI,mem_singleton->ahJ,mem_of_getElem?->ahO,map_append->ahP,length_replicate->ahR,range->ahU,mem_range->ah0,lookup_cons->ah1,length_set->ah3,getElem?_append_right->ah4,take_of_length_le->ah7,length_take->ah9,getD_eq_getElem?_getD->aic,getElem?_eq_getElem->aim,cons_append->aio,length_nil->aiy,mem_map->aiC,mem_append_left->aiE,getElem?_replicate->aiG,any_eq_true->aiK,find?_cons->aiM,any_cons->aiN,length_eq_zero_iff->aiQ,not_mem_nil->aiT,mem_filter->aiX,nil_append->ai0,length->ai5,drop_drop->ai8,map_map->ajf,all_cons->ajh,nodup_cons->ajk,forIn_cons->ajl,take_length->ajF,mem_of_mem_drop->ajG,filterMap_cons->ajJ,map_congr_left->ajL,find?_eq_none->ajW,drop_zero->aj0,find?_cons_of_pos->aka,find?_cons_of_neg->akb,eq_nil_or_concat->akj,concat_eq_append->akk,length_zip->akn,mem_of_mem_take->aks,eq_nil_of_length_eq_zero->akt,zip_cons_cons->akI,length_range->akX,flatten_cons->ak0,take_add_one->ak1,mem_of_find?_eq_some->ak4,map_nil->alh,getElem_mem->ali,set_set->aln,filter_cons_of_neg->als,filter_cons_of_pos->alu,of_mem_zip->alx,foldl_cons->alz,lookup->alB,drop_eq_nil_of_le->alE,drop_of_length_le->alF,take_nil->alP
open Nat renaming le_refl->ahg,lt_of_lt_of_le->ahv,zero_le->ahC,ne_of_lt->ahE,le_trans->ahL,le_of_lt->ahM,not_lt_zero->ahV,lt_irrefl->ahW,not_succ_le_zero->ai4,succ_le_succ->ajd,min_eq_left->ajo,le_of_succ_le_succ->ajr,toDigits->ajy,le_of_ble_eq_true->ajz,le_add_right->ajC,min_eq_right->ajD,pow_le_pow_right->ajE,not_lt->aj1,lt_of_succ_lt_succ->akd,zero_add->akm,mul_le_mul_right->akr,le_of_succ_le->ak2,ne_of_gt->alb,lt_succ_self->alj,add_sub_cancel_left->alw,max_assoc->alQ
open Ne renaming symm->aiD
open Option renaming bind_eq_some_iff->aj3,map_eq_some_iff->aj8,isNone_iff_eq_none->ak5,isSome_iff_exists->alf
open Option.some renaming inj->ahx
open Or renaming inl->aiz,inr->ajv
open PyProof.Rows renaming slot_tuple_getitem->aia,AllBare->ajt,callWith_type1->ajA,envOfC->ajK,envOfC->akE,split_le->alM
open PySem renaming wpAny_bind->ag2,sizeLine->ag5,starEach->ag6,Shared->ag9,wpAny_pure->ahh,Program->ahq,compareOp->ahB,bootBuiltins->ahK,backTo->ahN,wpAny_field->ahQ,assignEach->ahS,Around->ahX,sizeLine_eq->ahY,wpAny_mono->ahZ,swapsWith->ah6,behindInMarks->ah8,wpAny_truthy_bool->aik,foldedSetIterable->ail,rawInt->aip,attributeBase->aiq,mainGlobals->air,wpAny_newObj_type->aiu,binaryOp->aiw,mem_of_lookup->aix,wpAny_callSpecial?_slot->aiH,sysModules->aiI,FuncData->aiJ,wpAny_seqItems->aiS,wpAny_Call_Name_kw->aiU,wpAny_setField_rec->aiW,wpAny_passesOwn->aiY,sliceBounds->ai6,Keyword->ai7,wpAny_setField->ai9,wpAny_call_entry->ajb,IsPair->aje,codeAny->ajg,wpAny_execs_nil->aji,wpAny_pyIter_tuple->ajj,noteFrame->ajn,NameKind->ajp,wpAny_pyIter_list->ajs,keywordEach->ajI,letOwnedTupleGo->ajO,tupleKind_room_in1->ajU,getItem->ajX,typeIs_str->ajY,call_meets->ajZ,Paired->aj4,assign->aj5,IsPart->aj7,wpAny_onRaise->akf,PassesOwn->akh,Slot->akl,wpAny_updateSeq_pair->akp,JoinOk->akq,backToKw->aku,callerA->akv,intText?->akz,tupleKind->akC,lastMarks->akD,typeOf->akG,DictEntry->akH,strKind->akT,BindsTo->ak7,leaving->ak8,valueAt->ak9,wpAny_execs_cons->ala,codeAny_mono->alc,noFill_tuple_add->alg,setFlight->aly,subscripted->alA,passOn->alY
open PySem.Builtin renaming bitNot->ait,bitAnd->aiR,bitOr->ake
open PySem.Builtin.Int renaming intBits->aii,intTooBig->alI
open PySem.Builtin.List renaming listTooLong->ajT
open PySem.Builtin.Slice renaming slicePlaces->ai2,sliceAdjust->ajP,sliceApplied->akQ
open PySem.Builtin.SmallTypes renaming nextOf->ah5,ownedTupleIsFree->aiF,ownedTupleHandOut->ajV
open PySem.Builtin.Str renaming occurrences->ain,strSliceIndices->aiV,strKind->ajM,tooLong->ajN,occurrences->akB
open PySem.Builtin.Tuple renaming tupleExact->ajc,tupleItemsOf->akR,tupleHashOf->ak3
open PySem.Calls renaming callWith_builtin->ajq,evalArgs_plain->ajB,spliced_cons->ajR,Name_function_global->akO,spliced_nil->akV
open PySem.EntryCells renaming newEntry->alS
open PySem.F renaming slot_list_append->aiA,type_list_append->aiB,slot_dict_get->aiZ,slot_tuple_iterator_next->ai1,args_tuple_add_2->ajS,entry_tuple_add->aj2,slot_tuple_add->aj6,entry_dict_get->aj9,slot_zip_next->ako,args_tuple_iterator_next_1->akw,entry_tuple_iterator_next->akJ,args_str_split_2->akK,slot_str_startswith->akL,type_str_startswith->akM,entry_str_split->akZ,slot_str_split->alo,args_dict_get_3->alp,plainAttrs_dict->alq,plainAttrs_list->alr,attr_ValueError->alv,slot_str_split->alC,type_str_split->alD,type_dict_get->alH,slot_str_join->alJ,type_str_join->alK
open PySem.Heap renaming get?_push_of_some->ag8,lt_size->ahf,get?_push_size->aho,get?_update_other->ais,SameBut->aju,get?_update_self->ajw,size_push->akx,IsTuple->alk,size_update->alm
open PySem.Heap.IsTuple renaming push->alZ
open PySem.Heap.SameBut renaming update->alR
open PySem.NameKind renaming free->ajH,cell->akS
open PySem.NumText renaming digitsVal->akN
open PySem.Obj renaming data_mapFields->aiL,mapFields->aiO,isFreed_of_fields->ajx
open PySem.Paired renaming length->alO
open PySem.PassesOwn renaming never->aih
open PySem.PyData renaming strOk->ag7,eqv->alN
open PySem.SeqAt renaming shaped->alX
open PySem.SeqAt.EqAt renaming int_str->alV,str_int->alW
open PySem.Shared renaming heap->akc
open PySem.Str renaming ofString->ah2,join->akA
open PySem.StrLaws renaming occBody->ajQ,glued_eq_join->alL
open PySem.Txt renaming split->aij,partition->aiP,startswith->aja,join->aky
open PySem.Value renaming ref->ahy,none->ahT,isStrOf->aib,builtin->akU,int->alT,str->alU
open PySem.W renaming mg_none_of->ahs,mg_of->ahG,kia_one->aki,fnOf->akF,keepIn->ald,callWith_K->ale
open Sum renaming inr->akg,inl->ak6
open True renaming intro->ai3
abbrev a4:=PySem.W.Frag
abbrev br:=PySem.Str->Option PySem.Value
abbrev dc:=PySem.Value->PySem.Shared->Prop
abbrev c8:=List (PySem.Addr×PySem.Obj)
namespace ak
open PySem PySem.Spec PyProof.Rows
noncomputable abbrev Key:=Sum Int Str
noncomputable def sA:Key->Value->Bool
 |.inl k,v=>Value.isInt k v|.inr x,v=>aib x v
noncomputable def Wh(w:World):Key->Int
 |.inl k=>hashInt k|.inr x=>hashStr w x
theorem n0:∀{k:Key}{v:Value},sA k v=true->(∃i t,k=ak6 i/\v=alT i t)\/(∃x t,k=akg x/\v=alU x t)
 |.inl i,v,h=>by
  obtain⟨t,e⟩:=Value.isInt_shape (k:=i) (v:=v) h;exact .inl ⟨i,t,rfl,e⟩
 |.inr x,v,h=>by
  obtain⟨t,e⟩:=Value.isStrOf_shape (x:=x) (v:=v) h;exact .inr ⟨x,t,rfl,e⟩
theorem Wi(i:Int)(t:Tok):sA (.inl i) (.int i t)=true:=by simp[sA,Value.isInt]
theorem Wj(x:Str)(t:Tok):sA (.inr x) (.str x t)=true:=by simp[sA,aib]
theorem Wk(a b:Int):decide ((ak6 a:Key)=ak6 b)=(a==b):=by
 by_cases e:a=b
 ·subst e;simp
 ·have h:¬(ak6 a:Key)=ak6 b:=fun q=>e (Sum.inl.inj q)
  rw[decide_eq_false h];exact(beq_eq_false_iff_ne.mpr e).symm
theorem Wn(a b:Str):decide ((akg a:Key)=akg b)=decide (a=b):=by
 by_cases e:a=b
 ·subst e;simp
 ·have h:¬(akg a:Key)=akg b:=fun q=>e (Sum.inr.inj q)
  rw[decide_eq_false h,decide_eq_false e]
theorem Wl(a:Int)(b:Str):decide ((ak6 a:Key)=akg b)=false:=decide_eq_false (fun q=>nomatch q)
theorem Wm(a:Str)(b:Int):decide ((akg a:Key)=ak6 b)=false:=decide_eq_false (fun q=>nomatch q)
noncomputable def iF(prog:ahq)(w:World):KeyKind prog w Key where
 is:=sA
 hash:=Wh w
 inj:=fun v a b ax U=>by
  rcases n0 ax with⟨i,t,rfl,rfl⟩ | ⟨x,t,rfl,rfl⟩
  ·rcases n0 U with⟨j,u,rfl,e⟩ | ⟨y,u,rfl,e⟩
   ·injection e with aH _;rw[aH]
   ·exact nomatch e
  ·rcases n0 U with⟨j,u,rfl,e⟩ | ⟨y,u,rfl,e⟩
   ·exact nomatch e
   ·injection e with aH _;rw[aH]
 byValue:=fun k v h=>by
  rcases n0 h with⟨i,t,rfl,rfl⟩ | ⟨x,t,rfl,rfl⟩<;>rfl
 pyHash:=fun bF h=>by
  rcases n0 bF with⟨i,t,rfl,rfl⟩ | ⟨x,t,rfl,rfl⟩
  ·exact wpAny_pyHash_int h
  ·exact wpAny_pyHash_str h
 eqBool:=fun a_ bF h=>by
  rcases n0 a_ with⟨i,t,rfl,rfl⟩ | ⟨x,t,rfl,rfl⟩
  ·rcases n0 bF with⟨j,u,rfl,rfl⟩ | ⟨y,u,rfl,rfl⟩
   ·rw[Wk]at h;exact wpAny_eqBool_int h
   ·rw[Wl]at h;exact alV i t y u _ _ _ _ h
  ·rcases n0 bF with⟨j,u,rfl,rfl⟩ | ⟨y,u,rfl,rfl⟩
   ·rw[Wm]at h;exact alW x t j u _ _ _ _ h
   ·rw[Wn]at h;exact wpAny_eqBool_str h
 «strs»:=fun k x t v h=>by
  rcases n0 h with⟨i,u,rfl,e⟩ | ⟨y,u,rfl,e⟩
  ·exact nomatch e
  ·injection e with aH _
   subst aH;cases v<;>rfl
theorem Xs(prog:ahq)(w:World)(i:Int)(t:Tok):(iF prog w).is (.inl i) (.int i t)=true:=Wi i t
theorem Xt(prog:ahq)(w:World)(x:Str)(t:Tok):(iF prog w).is (.inr x) (.str x t)=true:=Wj x t
inductive V where
 |ba | aB (b:Bool) | int (i:Int) | str (x:Str) | Bl (b:Array UInt8) | CF (b:UInt64) | ref (a:Addr) | ty (n:String)
 deriving DecidableEq
noncomputable def RelV:V->Value->Prop
 |.ba,u=>u=ahT|.aB b,u=>u=Value.bool b|.int i,u=>∃t,u=alT i t|.str x,u=>∃t,u=alU x t|.Bl b,u=>∃t,u=Value.bytes b t|.CF b,u=>∃t,u=Value.float b t|.ref a,u=>u=ahy a|.ty n,u=>u=Value.type n
noncomputable abbrev Vals:List V->List Value->Prop:=aj4 RelV
theorem Vals.length{xs:List V}{us:List Value}(r:Vals xs us):xs.length=us.length:=alO r
theorem Vals.get:∀{xs:List V}{us:List Value}{i:Nat}{x:V},Vals xs us->xs[i]? = some x->∃u,us[i]? = some u/\RelV x u
 | _,_,_,_,.nil,e=>by simp at e| _,_,0,_,.cons r _,e=>by simp at e;subst e;exact⟨_,rfl,r⟩|_,_,i+1,x,.cons _ t,e=>by
  obtain⟨u,aj,h2⟩:=Vals.get (i:=i) (x:=x) t (by simpa using e);exact⟨u,by simpa using aj,h2⟩
theorem Vals.append:∀{xs ys:List V}{us ws:List Value},Vals xs us->Vals ys ws->Vals (xs++ys) (us++ws)
 |_,_,_,_,.nil,s=>s|_,_,_,_,.cons r t,s=>.cons r (Vals.append t s)
theorem Vals.take:∀{xs:List V}{us:List Value}(n:Nat),Vals xs us->Vals (xs.take n) (us.take n)
 |_,_,0,_=>.nil|_,_,_+1,.nil=>.nil|_,_,n+1,.cons r t=>.cons r (Vals.take n t)
theorem Vals.drop:∀{xs:List V}{us:List Value}(n:Nat),Vals xs us->Vals (xs.drop n) (us.drop n)
 |_,_,0,r=>r|_,_,_+1,.nil=>.nil|_,_,n+1,.cons _ t=>Vals.drop n t
noncomputable def kQ:Option V->Option Value->Prop
 |some v,some u=>RelV v u|none,none=>True|_,_=>False
noncomputable def fA{fk:Type}:List (fk×V)->List (fk×Value)->Prop:=aj4 fun(p:fk×V) (q:fk×Value)=>p.1=q.1/\RelV p.2 q.2
noncomputable def d5:Key->V
 |.inl i=>.int i|.inr x=>.str x
inductive eW where
 |lst (xs:List V)
 |tup (xs:List V)
 |d2 (aK:List (Key×V)) | kk (aK:List (List Key×V))
 |set (S:Int->Bool) (n:Nat)
 |ins (C jG:Addr) (fs:List (Str×V))
 |own (x:Addr)
 |z1 (fs:List (Str×V))
 |met (f x:Addr)
 |zb (lo aC:Int)
 |cH (o:Obj) (u:eW)
 |ho (ps:Array Value)
 |ext (ox:Heap->Prop)
noncomputable abbrev aI:=Addr->Option eW
noncomputable def upd(H:aI)(a:Addr)(o:eW):aI:=fun b=>if b=a then some o else H b
theorem eb:upd H a o a=some o:=by unfold upd;rw[if_pos rfl]
theorem cP{H:aI}(h:b≠a):upd H a o b=H b:=by unfold upd;rw[if_neg h]
theorem m6{H:aI}(h:H a=some o)(h':H b=some u)(d:o≠u):a≠b:=by
 intro e;subst e;rw[h]at h';exact d (ahx h')
theorem l2{H:aI}(h:H a=some o)(h':H b=none):a≠b:=by
 intro e;subst e;rw[h]at h';cases h'
section
variable(P:ahq)(w:World)
noncomputable def gg(H:aI)(h:Heap)(a:Addr):eW->Prop
 |.lst xs=>xs.length<=ag5/\∃(its:List Value)(n:Nat),Vals xs its/\h.get? a=some { cls:=.type "list",data:=.seq its.toArray n }|.tup xs=>xs.length<=ag5/\∃its:List Value,Vals xs its/\IsTup h a its.toArray|.d2 aK=>aK.length<=ag5/\(a==aiI)=false/\∃ar,fA aK ar/\h.DictOf (iF P w) a ar|.kk aK=>aK.length<=ag5/\(a==aiI)=false/\∃xs:List (List Key×Addr×Value),
   aj4 (fun(p:List Key×V) (q:List Key×Addr×Value)=>p.1=q.1/\H q.2.1=some (.tup (p.1.map d5))/\RelV p.2 q.2.2) aK xs/\
   ∃o aE ei,h.get? a=some o/\o.ExactDict/\o.data=.dict aE ei/\aE.toList=xs.map (entryOfKey (akC (iF P w)))/\(xs.map (·.1)).Nodup
 |.set S n=>h.SetOf (intKind P w) a S n|.ins C jG fs=>H jG=some (.own a)/\fs.length<=1000/\jG≠a/\h.get? a=some (W.instObj C jG)/\
   ∃mX,h.Ns1 jG mX/\(∀f,kQ (fs.lookup f) (mX f))/\Within mX (fs.map (·.1))
 |.own _=>∃o,h.get? a=some o|.z1 fs=>∃mX,h.Ns1 a mX/\∀f,kQ (fs.lookup f) (mX f)|.zb lo aC=>∃t u v,h.get? a=some { cls:=.type "range",data:=.fields #[.int lo t,.int aC u,.int 1 v] }|.cH o u=>h.get? a=some o/\gg H h a u|.ho ps=>h.get? a=some { cls:=.none,data:=.fields ps }|.met f x=>h.get? a=some (W.methodObj (.ref f) (.ref x))|.ext ox=>ox h/\(∃o,h.get? a=some o)/\∀aj h2:Heap,ox aj->(∀o,aj.get? a=some o->h2.get? a=some o)->ox h2
def eC(H:aI)(h:Heap):Prop:=∀a o,H a=some o->gg P w H h a o
end
section
variable{P:ahq}{w:World}{H aa:aI}{h h':Heap}{a:Addr}{o:eW}
theorem gg.lt(x:gg P w H h a o):a<h.objs.size:=by
 cases o with
 |lst xs=>obtain⟨_,_,_,_,e⟩:=x;exact ahf e
 |tup xs=>obtain⟨_,_,_,p⟩:=x;exact p.lt
 |d2 aK=>obtain⟨_,_,_,_,o,_,_,e,_⟩:=x;exact ahf e
 |kk aK=>obtain⟨_,_,_,_,o,_,_,e,_⟩:=x;exact ahf e
 |set S n=>obtain⟨o,_,_,_,e,_⟩:=x;exact ahf e
 |ins C jG fs=>obtain⟨_,_,_,e,_⟩:=x;exact ahf e
 |own y=>obtain⟨_,e⟩:=x;exact ahf e
 |z1 fs=>obtain⟨_,⟨_,_,_,e,_⟩,_⟩:=x;exact ahf e
 |zb lo aC=>obtain⟨_,_,_,e⟩:=x;exact ahf e
 |cH cL u=>obtain⟨e,_⟩:=x;exact ahf e
 |ho ps=>exact ahf (show h.get? a=some _ from x)|met f y=>exact ahf (show h.get? a=some _ from x)|ext ox=>obtain⟨_,⟨_,e⟩,_⟩:=x;exact ahf e
theorem aj4.Ea{α β:Type}{F G:α->β->Prop}:∀{Le:List α}{Lf:List β},aj4 F Le Lf->(∀a b,F a b->G a b)->aj4 G Le Lf
 |_,_,.nil,_=>.nil|_,_,.cons r t,f=>.cons (f _ _ r) (aj4.Ea t f)
theorem gg.nd(x:gg P w H h a o)(k:∀b u,(b=a\/H b=some (.own a))->h.get? b=some u->h'.get? b=some u)
  (aM:∀b,H b=some (.own a)->aa b=some (.own a)) (bG:∀b xs,H b=some (.tup xs)->aa b=some (.tup xs)):gg P w aa h' a o:=by
 induction o with
 |lst xs=>obtain⟨z,its,n,r,e⟩:=x;exact⟨z,its,n,r,k _ _ (.inl rfl) e⟩
 |tup xs=>obtain⟨z,its,r,cL,e,c⟩:=x;exact⟨z,its,r,cL,k _ _ (.inl rfl) e,c⟩
 |d2 aK=>obtain⟨z,y,ar,r,cL,aE,ei,e,c⟩:=x;exact⟨z,y,ar,r,cL,aE,ei,k _ _ (.inl rfl) e,c⟩
 |kk aK=>
  obtain⟨z,y,xs,r,cL,aE,ei,e,c⟩:=x;exact⟨z,y,xs,aj4.Ea r fun p q z=>⟨z.1,bG _ _ z.2.1,z.2.2⟩,cL,aE,ei,k _ _ (.inl rfl) e,c⟩
 |set S n=>obtain⟨cL,aE,ei,t,e,c⟩:=x;exact⟨cL,aE,ei,t,k _ _ (.inl rfl) e,c⟩
 |ins C jG fs=>
  obtain⟨d,z,ne,e,mX,⟨hO,aE,ei,aT,c⟩,r⟩:=x;exact⟨aM _ d,z,ne,k _ _ (.inl rfl) e,mX,⟨hO,aE,ei,k _ _ (.inr d) aT,c⟩,r⟩
 |own y=>obtain⟨cL,e⟩:=x;exact⟨cL,k _ _ (.inl rfl) e⟩
 |z1 fs=>obtain⟨mX,⟨hO,aE,ei,e,c⟩,r⟩:=x;exact⟨mX,⟨hO,aE,ei,k _ _ (.inl rfl) e,c⟩,r⟩
 |zb lo aC=>obtain⟨t,u,v,e⟩:=x;exact⟨t,u,v,k _ _ (.inl rfl) e⟩
 |cH cL u bk=>obtain⟨e,q⟩:=x;exact⟨k _ _ (.inl rfl) e,bk q⟩
 |ho ps=>
  have e:h.get? a=some { cls:=.none,data:=.fields ps }:=x;show h'.get? a=some { cls:=.none,data:=.fields ps };exact k a _ (.inl rfl) e
 |met f y=>
  have e:h.get? a=some (W.methodObj (.ref f) (.ref y)):=x;show h'.get? a=some (W.methodObj (.ref f) (.ref y));exact k a _ (.inl rfl) e
 |ext ox=>obtain⟨p,⟨o,e⟩,st⟩:=x;exact⟨st _ _ p fun o q=>k _ _ (.inl rfl) q,⟨o,k _ _ (.inl rfl) e⟩,st⟩
theorem eC.lt(x:eC P w H h)(e:H a=some o):a<h.objs.size:=(x a o e).lt
theorem eC.fresh(x:eC P w H h)(e:h.objs.size<=a):H a=none:=by
 cases q:H a with
 |none=>rfl|some u=>exact absurd (ahv (x.lt q) e) (ahW _)
theorem eC.kept(x:eC P w H h)(k:∀b u,h.get? b=some u->h'.get? b=some u):eC P w H h':=fun a o e=>
 (x a o e).nd (fun b u _ q=>k b u q) (fun _ q=>q) fun _ _ q=>q
theorem eC.laid(x:eC P w H h)(k:∀b u,h.get? b=some u->h'.get? b=some u)(aP:h.objs.size<=a)(new:gg P w (upd H a o) h' a o):eC P w (upd H a o) h':=fun b u e=>by
 have aR:=x.fresh aP
 by_cases U:b=a
 ·subst U;rw[eb]at e;cases e;exact new
 ·rw[cP U]at e
  exact(x b u e).nd (fun c v _ q=>k c v q) (fun c q=>by rw[cP (l2 q aR)];exact q) fun c xs q=>by rw[cP (l2 q aR)];exact q
end
def ed(H:aI)(a:Addr)(u:eW):Prop:=H a=some u\/∃o,H a=some (.cH o u)
theorem ed.ok(r:ed H a u)(x:eC P w H h):gg P w H h a u:=by
 rcases r with r | ⟨o,r⟩
 ·exact x a u r
 ·obtain⟨_,q⟩:=x a _ r
  exact q
noncomputable def tO:Option eW->Prop
 |some (.lst _)=>True|some (.d2 _)=>True|some (.kk _)=>True|some (.set _ _)=>True|some (.ins _ _ _)=>True|some (.ext _)=>True|_=>False
section
variable{P:ahq}{w:World}{H:aI}{h h':Heap}{x e:Addr}{c_:eW}
theorem eC.write(ok:eC P w H h)(jS:tO (H x))(he:e=x\/H e=some (.own x))(k:∀b u,b≠e->h.get? b=some u->h'.get? b=some u)(sj:∃u,h'.get? e=some u)
  (new:gg P w (upd H x c_) h' x c_):eC P w (upd H x c_) h':=fun b u q=>by
 have LR:∀c y,H c=some (.own y)->c≠x:=fun c y r z=>by subst z;rw[r]at jS;exact jS
 have Yd:∀c xs,H c=some (.tup xs)->c≠x:=fun c xs r z=>by subst z;rw[r]at jS;exact jS
 by_cases U:b=x
 ·subst U;rw[eb]at q;cases q;exact new
 ·rw[cP U]at q
  by_cases lU:b=e
  ·have gu:H b=some (.own x):=by
    rcases he with z | z
    ·exact absurd (lU.trans z) U
    ·rw[lU];exact z
   rw[q]at gu;cases gu;obtain⟨v,bF⟩:=sj;exact⟨v,by rw[lU];exact bF⟩
  ·refine(ok b u q).nd (fun c v aA r=>k c v ?_ r) (fun c r=>by rw[cP (LR c b r)];exact r) fun c xs r=>by rw[cP (Yd c xs r)];exact r
   rcases aA with rfl | aA
   ·exact lU
   ·rintro rfl
    rcases he with z | z
    ·exact LR c b aA z
    ·rw[aA]at z;cases z;exact U rfl
end
structure fC(fs ex:List Addr)(H aa:aI)(h h':Heap):Prop where
 keep:∀b o,h.get? b=some o->H b=none->b∉fs->b∉ex->h'.get? b=some o
 slot:∀b o,h.get? b=some o->H b=none->b∈fs->b∉ex->∃c6,h'.get? b=some { o with slots:=c6 }
 free:∀b o,h.get? b=some o->H b=none->b∉ex->aa b=none
 there:∀b o,h.get? b=some o->b∉ex->∃c_,h'.get? b=some c_
 lC:∀b xs,H b=some (.tup xs)->aa b=some (.tup xs)
 kn:∀b o u,H b=some (.cH o u)->aa b=some (.cH o u)
 lA:∀b ps,H b=some (.ho ps)->∃more,aa b=some (.ho (ps++more))
section
variable{fs ex:List Addr}{H H1:aI}{h aj h':Heap}{a x e:Addr}{o:eW}
theorem fC.any(u:fC fs ex H H1 h aj)(q:h.get? b=some cL)(n:H b=none)(av:b∉ex):∃c6,aj.get? b=some { cL with slots:=c6 }:=by
 by_cases U:b∈fs
 ·exact u.slot b cL q n U av
 ·exact⟨cL.slots,u.keep b cL q n U av⟩
theorem fC.kept(k:∀b u,h.get? b=some u->h'.get? b=some u):fC fs ex H H h h':=
 ⟨fun b cL q _ _ _=>k b cL q,fun b cL q _ _ _=>⟨cL.slots,k b cL q⟩,fun _ _ _ n _=>n,fun b cL q _=>⟨cL,k b cL q⟩,fun _ _ q=>q,fun _ _ _ q=>q,fun _ ps q=>⟨#[],by rw[q];simp⟩⟩
theorem fC.refl:fC fs ex H H h h:=fC.kept fun _ _ q=>q
theorem fC.laid(k:∀b u,h.get? b=some u->h'.get? b=some u)(aP:h.objs.size<=a)(aR:H a=none):fC fs ex H (upd H a o) h h' where
 keep:=fun b u q _ _ _=>k b u q
 slot:=fun b u q _ _ _=>⟨u.slots,k b u q⟩
 free:=fun b u q n _=>by rw[cP (ahE (ahv (ahf q) aP))];exact n
 there:=fun b u q _=>⟨u,k b u q⟩
 lC:=fun b xs q=>by rw[cP (l2 q aR)];exact q
 kn:=fun b u xs q=>by rw[cP (l2 q aR)];exact q
 lA:=fun b ps q=>⟨#[],by rw[cP (l2 q aR),q];simp⟩
theorem fC.write(jS:tO (H x))(he:e=x\/H e=some (.own x))(k:∀b u,b≠e->h.get? b=some u->h'.get? b=some u)(sj:∃u,h'.get? e=some u):fC fs ex H (upd H x o) h h':=by
 have av:∀b,H b=none->b≠x:=fun b n z=>by subst z;rw[n]at jS;exact jS
 have U:∀b,H b=none->b≠e:=fun b n z=>by
  subst z;rcases he with r | r
  ·exact av b n r
  ·rw[n]at r;cases r
 have hm:∀b u,H b=some u->¬tO (some u)->b≠x:=fun b u q nm z=>by subst z;rw[q]at jS;exact nm jS
 refine⟨fun b u q n _ _=>k b u (U b n) q,fun b u q n _ _=>⟨u.slots,k b u (U b n) q⟩,fun b u q n _=>by rw[cP (av b n)];exact n,fun b u q _=>?_,
  fun b xs q=>by rw[cP (hm b _ q fun z=>z)];exact q,fun b u xs q=>by rw[cP (hm b _ q fun z=>z)];exact q,fun b ps q=>⟨#[],by rw[cP (hm b _ q fun z=>z),q];simp⟩⟩
 by_cases lU:b=e
 ·subst lU;exact sj
 ·exact⟨u,k b u lU q⟩
end
noncomputable def zN(h:Heap)(H:aI):List Addr:=(ahU h.objs.size).filter fun a=>(H a).isSome
noncomputable def nW(h:Heap)(H:aI):Heap:=W.hideAll h (zN h H)
theorem U0(h:Heap)(H:aI):(nW h H).objs.size=h.objs.size:=W.hideAll_size _ _
theorem UZ{h:Heap}{H:aI}(e:h.get? b=some o)(n:H b=none):(nW h H).get? b=some o:=
 W.hideAll_get _ e fun hm=>by
  have q:(H b).isSome=true:=(aiX.mp hm).2;rw[n]at q;simp at q
theorem Yn{h:Heap}{H:aI}(e:(nW h H).get? b=some o):h.get? b=some o/\H b=none:=by
 have bE:h.get? b=some o:=W.of_hideAll (zN h H) e;refine⟨bE,?_⟩
 cases q:H b with
 |none=>rfl|some x=>
  have hm:b∈zN h H:=aiX.mpr ⟨ah0.mpr (ahf bE),by simp[q]⟩;have z:(nW h H).get? b=none:=W.hideAll_none (zN h H) hm;rw[z]at e;cases e
noncomputable def PG(g h:Heap)(L:Addr):List (Addr×Obj):=(ahU h.objs.size).filterMap fun a=>if a=L\/(g.get? a).isSome=true then none else(h.get? a).map fun o=>(a,o)
noncomputable def rest(g h:Heap)(L d:Addr):List (Addr×Obj):=(PG g h L).filter fun p=>decide (p.1≠d)
structure Mod(K:a4)(I:br)(base:Heap):Prop where
 qL:K.In base
 glob:base.Ns air I
 blt:∃cw,base.Ns builtinsNs cw/\∀x:Str,x≠"__name__"->cw x=ahK x
 nolimit:base.NoLimit
structure aS where
 prog:ahq
 w:World
 K:a4
 I:Str->Option Value
 base:Heap
 A:ahX
 N:List Str
 gv:ag9
 H₀:aI
 env:Env
 outer:List Env
 stack:List Env
 ex:List Addr
 fn:Str->Bool
 calm:Bool
 m_:List (Addr×Obj)
 c2:Value->ag9->Prop
noncomputable def ez(l:List Env):List Addr:=l.filterMap (·.frame)
noncomputable abbrev aS.fs(X:aS):List Addr:=ez X.outer
def gT(sc:Scope)(x:Str):Prop:=sc.names.lookup x=some .local\/sc.names.lookup x=some .cell\/sc.names.lookup x=some .free
def Loc(sc:Scope)(x:Str):Prop:=sc.names.lookup x=some .local\/sc.names.lookup x=some .cell
def Look(env:Env)(h:Heap)(m:br)(x:Str)(u:Value):Prop:=
 (env.kindOf x=some .local/\m x=some u)\/((env.kindOf x=some .cell\/env.kindOf x=some .free)/\∃c,env.cells.lookup x=some c/\h.IsCell c (some u))
structure aS.Ok(X:aS):Prop where
 mod:Mod X.K X.I X.base
 kind:X.env.scope.kind=.function
 glob:X.env.globals=air
 blt:X.env.builtins=builtinsNs
 above:X.gv.heap.objs.size<=X.env.locals
 inj:∀x y c,X.env.cells.lookup x=some c->X.env.cells.lookup y=some c->x=y
 has:∀x,(X.env.kindOf x=some .cell\/X.env.kindOf x=some .free)->∃c,X.env.cells.lookup x=some c
 oR:∀x c,X.fn x=true->X.env.cells.lookup x=some c->X.gv.heap.objs.size<=c
 hd:X.calm=true->X.A.handled=none
 frames:X.A.frames=some X.stack
 pR:X.stack=X.outer\/(X.stack=X.env::X.outer/\X.env.frame=some X.env.locals)
 nM:∀b∈X.ex,b≠X.env.locals/\∀x c,X.env.cells.lookup x=some c->c≠b
 bs:∀b o,X.base.get? b=some o->X.gv.heap.get? b=some o/\X.H₀ b=none
 kU:X.base.objs.size<=X.gv.heap.objs.size
 pH:∀b o,X.base.get? b=some o->b∉X.ex
 nN:∀b∈X.ex,b∉X.fs
 jJ:X.gv.heap.FunFrames X.base X.outer
 nS:∀b∈X.fs,X.H₀ b=none
structure Inv(X:aS)(ae:c8)(σ:List (Option V))(H:aI)(s:ag9):Prop where
 ok:X.Ok
 os:s.os=X.gv.os
 bare:ajt s.gens
 base:fC X.fs X.ex X.H₀ H X.gv.heap s.heap
 loc:∃m,s.heap.Ns X.env.locals m/\∀(i:Nat)(x:Str)(v:V),X.N[i]? = some x->σ[i]? = some (some v)->gT X.env.scope x->∃u,RelV v u/\Look X.env s.heap m x u
 cell:∀x c,X.env.cells.lookup x=some c->∃v,s.heap.IsCell c v
 free:H X.env.locals=none
 iA:∀x c,X.env.cells.lookup x=some c->H c=none
 pin:∀p∈X.m_++ae,s.heap.get? p.1=some p.2/\H p.1=none/\p.1≠X.env.locals/\p.1∉X.fs/\∀v,p.2.data≠.cell v
 bp:eC X.prog X.w H s.heap
 len:σ.length=X.N.length
section
variable{X:aS}{ae:c8}{σ:List (Option V)}{H aa:aI}{s:ag9}{h':Heap}
theorem aS.Ok.X3(ok:X.Ok)(e:X.base.get? b=some o):b∉X.fs:=fun U=>by
 have:=(ok.jJ.mem U).1;rw[e]at this;cases this
theorem Inv.bs(J:Inv X ae σ H s):∀b o,X.base.get? b=some o->s.heap.get? b=some o/\H b=none:=fun b o e=>
 ⟨J.base.keep b o (J.ok.bs b o e).1 (J.ok.bs b o e).2 (J.ok.X3 e) (J.ok.pH b o e),J.base.free b o (J.ok.bs b o e).1 (J.ok.bs b o e).2 (J.ok.pH b o e)⟩
theorem Inv.fM(J:Inv X ae σ H s):∀b o,X.base.get? b=some o->s.heap.get? b=some o:=fun b o e=>(J.bs b o e).1
theorem Inv.mod(J:Inv X ae σ H s):Mod X.K X.I X.base:=J.ok.mod
theorem Inv.gO(J:Inv X ae σ H s):X.K.In s.heap:=J.ok.mod.qL.keeps J.fM
theorem Inv.fr(J:Inv X ae σ H s):∃m,Fr X.base X.env.locals s.heap m:=
 let⟨m,aR,_⟩:=J.loc
 ⟨m,aR,J.fM,ahL J.ok.kU J.ok.above⟩
theorem Inv.lt(J:Inv X ae σ H s):X.env.locals<s.heap.objs.size:=let⟨_,aR,_⟩:=J.loc;aR.lt
theorem Inv.tq(J:Inv X ae σ H s):X.gv.heap.objs.size<=s.heap.objs.size:=ahL J.ok.above (ahM J.lt)
theorem Inv.X5(J:Inv X ae σ H s)(h:s.heap.objs.size<=a):a∉X.fs:=fun U=>by
 obtain⟨_,o,aM,_⟩:=J.ok.jJ.mem U;exact absurd (ahv (ahf aM) (ahL J.tq h)) (ahW _)
theorem Inv.lQ(J:Inv X ae σ H s):∀x c,X.env.cells.lookup x=some c->c≠X.env.locals:=fun x c e z=>by
 obtain⟨v,o,aM,hd⟩:=J.cell x c e;obtain⟨m,⟨c_,aE,ei,ef,UN,_⟩,_⟩:=J.loc;rw[z,ef]at aM;cases aM;rw[UN]at hd;cases hd
theorem Inv.jJ(J:Inv X ae σ H s):s.heap.FunFrames X.base X.outer:=by
 have all:∀(l:List Env),(∀b∈ez l,b∈X.fs)->X.gv.heap.FunFrames X.base l->s.heap.FunFrames X.base l:=by
  intro l
  induction l with
  |nil=>intro _ _;trivial|cons env r bk=>
   intro aQ ao;obtain⟨aL,⟨L,o,hf,aR,aM,hd⟩,ay⟩:=ao;have k9:L∈X.fs:=aQ L (by unfold ez;rw[ajJ,hf];exact ahb);obtain⟨c6,e⟩:=J.base.slot L o aM (J.ok.nS L k9) k9 fun z=>J.ok.nN L z k9
   exact⟨aL,⟨L,_,hf,aR,e,hd⟩,bk (fun b U=>aQ b (by unfold ez;rw[ajJ,hf];exact ahc _ U)) ay⟩
 exact all X.outer (fun _ U=>U) J.ok.jJ
theorem Inv.stack(J:Inv X ae σ H s):s.heap.FunFrames X.base X.stack:=by
 rcases J.ok.pR with e | ⟨e,hf⟩
 ·rw[e];exact J.jJ
 ·rw[e]
  obtain⟨m,aR,_⟩:=J.loc;refine .cons (by rw[J.ok.kind];decide) hf aR ?_ J.jJ;exact Heap.get?_none_of_le (ahL J.ok.kU J.ok.above)
theorem Inv.F2(J:Inv X ae σ H s):∀b∈ez X.stack,b∈X.env.locals::X.fs:=fun b U=>by
 rcases J.ok.pR with e | ⟨e,hf⟩
 ·rw[e]at U;exact ahc _ U
 ·rw[e]at U
  unfold ez at U;rw[ajJ,hf]at U;exact U
theorem Inv.zD(J:Inv X ae σ H s):∀b∈ez X.stack,H b=none:=fun b U=>by
 rcases aha.mp (J.F2 b U)with e | U
 ·rw[e];exact J.free
 ·obtain⟨_,o,aM,_⟩:=J.ok.jJ.mem U
  exact J.base.free b o aM (J.ok.nS b U) fun z=>J.ok.nN b z U
theorem Inv.step{g':Array GenState}{t':Nat}{d':Drawn}{ch:List Addr}(J:Inv X ae σ H s)
  (mR:∀b∈ch,(b∈X.ex\/X.gv.heap.objs.size<=b)/\b≠X.env.locals/\(∀x c,X.env.cells.lookup x=some c->c≠b)/\∀p∈X.m_++ae,p.1≠b)
  (keep:∀b o,b≠X.env.locals->b∉X.fs->b∉ch->s.heap.get? b=some o->H b=none->h'.get? b=some o)
  (slot:∀b o,b≠X.env.locals->b∈X.fs->b∉ch->s.heap.get? b=some o->H b=none->∃c6,h'.get? b=some { o with slots:=c6 }) (free:∀b o,b∉ch->s.heap.get? b=some o->H b=none->aa b=none)
  (there:∀b o,b∉ch->s.heap.get? b=some o->∃c_,h'.get? b=some c_)
  (lC:∀b xs,H b=some (.tup xs)->aa b=some (.tup xs)) (kn:∀b o u,H b=some (.cH o u)->aa b=some (.cH o u)) (lA:∀b ps,H b=some (.ho ps)->∃more,aa b=some (.ho (ps++more)))
  (ns:∀m,s.heap.Ns X.env.locals m->h'.Ns X.env.locals m) (bp:eC X.prog X.w aa h') (a':ajt g') :
  Inv X ae σ aa { s with heap:=h',gens:=g',drawn:=d',toks:=t' }:=by
 have LJ:∀b o,X.gv.heap.get? b=some o->b≠X.env.locals:=fun b o e=>ahE (ahv (ahf e) J.ok.above)
 have yR:∀b o,X.gv.heap.get? b=some o->b∉X.ex->b∉ch:=fun b o e av U=>by
  rcases(mR b U).1 with z | z
  ·exact av z
  ·exact absurd (ahv (ahf e) z) (ahW _)
 have cellK:∀x c,X.env.cells.lookup x=some c->∀v,s.heap.IsCell c v->h'.IsCell c v:=fun x c e v ⟨o,aM,hd⟩=>by
  have vf:c∉ch:=fun z=>(mR c z).2.2.1 x c e rfl
  by_cases aA:c∈X.fs
  ·obtain⟨c6,q⟩:=slot c o (J.lQ x c e) aA vf aM (J.iA x c e)
   exact⟨_,q,hd⟩
  ·exact⟨o,keep c o (J.lQ x c e) aA vf aM (J.iA x c e),hd⟩
 refine⟨J.ok,J.os,a',⟨fun b o e n U av=>?_,fun b o e n U av=>?_,fun b o e n av=>?_,fun b o e av=>?_,fun b xs e=>lC b xs (J.base.lC b xs e),fun b o xs e=>kn b o xs (J.base.kn b o xs e),fun b ps e=>?_⟩,?_,fun x c e=>?_,?_,fun x c e=>?_,fun p aP=>?_,bp,J.len⟩
 ·exact keep b o (LJ b o e) U (yR b o e av) (J.base.keep b o e n U av) (J.base.free b o e n av)
 ·obtain⟨c6,aH⟩:=J.base.slot b o e n U av
  obtain⟨vK,aT⟩:=slot b _ (LJ b o e) U (yR b o e av) aH (J.base.free b o e n av);exact⟨vK,aT⟩
 ·obtain⟨c_,aH⟩:=J.base.there b o e av
  exact free b c_ (yR b o e av) aH (J.base.free b o e n av)
 ·obtain⟨c_,aH⟩:=J.base.there b o e av
  exact there b c_ (yR b o e av) aH
 ·obtain⟨Lg,aH⟩:=J.base.lA b ps e
  obtain⟨Xf,aT⟩:=lA b _ aH;exact⟨Lg++Xf,by rw[aT,Array.append_assoc]⟩
 ·obtain⟨m,aR,ao⟩:=J.loc
  refine⟨m,ns m aR,fun i x v aH aT dt=>?_⟩;obtain⟨u,r,l⟩:=ao i x v aH aT dt;refine⟨u,r,?_⟩;rcases l with l | ⟨k,c,e,z⟩
  ·exact .inl l
  ·exact .inr ⟨k,c,e,cellK x c e _ z⟩
 ·obtain⟨v,z⟩:=J.cell x c e
  exact⟨v,cellK x c e v z⟩
 ·obtain⟨m,⟨o,_,_,aM,_⟩,_⟩:=J.loc
  exact free _ o (fun z=>(mR _ z).2.1 rfl) aM J.free
 ·obtain⟨v,o,aM,hd⟩:=J.cell x c e
  exact free c o (fun z=>(mR c z).2.2.1 x c e rfl) aM (J.iA x c e)
 ·obtain⟨e,n,ne,l3,d⟩:=J.pin p aP
  have vf:p.1∉ch:=fun z=>(mR p.1 z).2.2.2 p aP rfl
  exact⟨keep p.1 p.2 ne l3 vf e n,free p.1 p.2 vf e n,ne,l3,d⟩
theorem Inv.un{t':Nat}(J:Inv X ae σ H s)(u:fC X.fs [] H aa s.heap h')(bp:eC X.prog X.w aa h'):Inv X ae σ aa { s with heap:=h',toks:=t' }:=by
 obtain⟨m,⟨o,aE,ei,aM,r⟩,_⟩:=id J.loc;obtain⟨c6,k9⟩:=u.any aM J.free (by simp);exact J.step (g':=s.gens) (d':=s.drawn) (ch:=[]) (fun _ z=>nomatch z) (fun b o _ U _ e n=>u.keep b o e n U (by simp)) (fun b o _ U _ e n=>u.slot b o e n U (by simp)) (fun b o _ e n=>u.free b o e n (by simp)) (fun b o _ e=>u.there b o e (by simp)) u.lC u.kn u.lA (fun ft hm=>by
  obtain⟨c_,Cx,Cr,ef,bq⟩:=hm;rw[aM]at ef;cases ef;exact⟨_,Cx,Cr,k9,bq⟩) bp J.bare
theorem Inv.call{g':Array GenState}{t':Nat}{d':Drawn}{ch:List Addr}(J:Inv X ae σ H s)(u:fC (ez X.stack) ch H aa s.heap h')(bp:eC X.prog X.w aa h')(a':ajt g')
  (mR:∀b∈ch,(b∈X.ex\/X.gv.heap.objs.size<=b)/\b≠X.env.locals/\(∀x c,X.env.cells.lookup x=some c->c≠b)/\∀p∈X.m_++ae,p.1≠b) :
  Inv X ae σ aa { s with heap:=h',gens:=g',drawn:=d',toks:=t' }:=by
 obtain⟨m,⟨o,aE,ei,aM,r⟩,_⟩:=id J.loc;obtain⟨c6,k9⟩:=u.any aM J.free fun z=>(mR _ z).2.1 rfl
 exact J.step (ch:=ch) mR (fun b o k9 U aA e n=>u.keep b o e n (fun z=>(aha.mp (J.F2 b z)).elim k9 U) aA) (fun b o _ _ aA e n=>u.any e n aA) (fun b o aA e n=>u.free b o e n aA) (fun b o aA e=>u.there b o e aA) u.lC u.kn u.lA (fun ft hm=>by
  obtain⟨c_,Cx,Cr,ef,bq⟩:=hm;rw[aM]at ef;cases ef;exact⟨_,Cx,Cr,k9,bq⟩) bp a'
theorem Inv.turned{t':Nat}{it:Addr}(J:Inv X ae σ H s)(k:∀b o,b≠it->s.heap.get? b=some o->h'.get? b=some o)(aR:H it=none)(k9:it≠X.env.locals)
  (aj:it∈X.ex\/X.gv.heap.objs.size<=it) (h2:∀x c,X.env.cells.lookup x=some c->c≠it) (bz:∀p∈X.m_++ae,p.1≠it):Inv X ae σ H { s with heap:=h',toks:=t' }:=by
 have vh:∀b u,H b=some u->b≠it:=fun b u e z=>by rw[z,aR]at e;cases e
 refine J.step (g':=s.gens) (d':=s.drawn) (ch:=[it]) (fun b U=>?_) (fun b o _ _ aA e _=>k b o (fun z=>aA (by simp[z])) e) (fun b o _ _ aA e _=>⟨o.slots,k b o (fun z=>aA (by simp[z])) e⟩) (fun _ _ _ _ n=>n)
  (fun b o aA e=>⟨o,k b o (fun z=>aA (by simp[z])) e⟩) (fun _ _ e=>e) (fun _ _ _ e=>e) (fun b ps e=>⟨#[],by rw[e];simp⟩) (fun m hm=>?_) (fun b u e=>?_) J.bare
 ·have e:b=it:=by simpa using U
  subst e;exact⟨aj,k9,h2,bz⟩
 ·obtain⟨o,aE,ei,aM,r⟩:=hm
  exact⟨o,aE,ei,k _ o (aiD k9) aM,r⟩
 ·refine(J.bp b u e).nd (fun c v aA q=>k c v ?_ q) (fun _ q=>q) fun _ _ q=>q
  rcases aA with z | z
  ·rw[z];exact vh b u e
  ·exact vh c _ z
theorem Inv.tok(J:Inv X ae σ H s)(t:Nat):Inv X ae σ H { s with toks:=t }:=J.un (h':=s.heap) (t':=t) fC.refl J.bp
theorem Inv.kept{t':Nat}(J:Inv X ae σ H s)(k:∀b u,s.heap.get? b=some u->h'.get? b=some u):Inv X ae σ H { s with heap:=h',toks:=t' }:=J.un (fC.kept k) (J.bp.kept k)
theorem Inv.laid{t':Nat}(J:Inv X ae σ H s)(k:∀b u,s.heap.get? b=some u->h'.get? b=some u)(aP:s.heap.objs.size<=a)(new:gg X.prog X.w (upd H a o) h' a o) :
  Inv X ae σ (upd H a o) { s with heap:=h',toks:=t' }:=J.un (fC.laid k aP (J.bp.fresh aP)) (J.bp.laid k aP new)
theorem Inv.write{x e:Addr}{o:eW}{t':Nat}(J:Inv X ae σ H s)(jS:tO (H x))(he:e=x\/H e=some (.own x))(k:∀b u,b≠e->s.heap.get? b=some u->h'.get? b=some u)(sj:∃u,h'.get? e=some u)
  (new:gg X.prog X.w (upd H x o) h' x o):Inv X ae σ (upd H x o) { s with heap:=h',toks:=t' }:=J.un (fC.write jS he k sj) (J.bp.write jS he k sj new)
theorem Inv.weak{σ':List (Option V)}(J:Inv X ae σ H s)(ao:σ'.length=σ.length)(w:∀(i:Nat) v,σ'[i]? = some (some v)->σ[i]? = some (some v)):Inv X ae σ' H s:=
 ⟨J.ok,J.os,J.bare,J.base,let⟨m,aR,nX⟩:=J.loc;⟨m,aR,fun i x v aH aT dt=>nX i x v aH (w i v aT) dt⟩,J.cell,J.free,J.iA,J.pin,J.bp,ao.trans J.len⟩
theorem Inv.ME(J:Inv X ae σ H s)(h:∀p∈Zi,s.heap.get? p.1=some p.2/\H p.1=none/\p.1≠X.env.locals/\p.1∉X.fs/\∀v,p.2.data≠.cell v):Inv X Zi σ H s:=
 ⟨J.ok,J.os,J.bare,J.base,J.loc,J.cell,J.free,J.iA,fun p aP=>(ahI.mp aP).elim (fun z=>J.pin p (aiE _ z)) (h p),J.bp,J.len⟩
theorem Es{N:List Str}(bY:N.Nodup){i j:Nat}{x:Str}(a:N[i]? = some x)(b:N[j]? = some x):i=j:=by
 obtain⟨aj,aH⟩:=ahe.mp a;obtain⟨h2,aT⟩:=ahe.mp b;exact(List.getElem_inj bY).mp (aH.trans aT.symm)
theorem abd{M:Model}{A:ahX}{E:dc}{i:Nat}{x:Str}{v:V}{u:Value}{Q:Unit->ag9->Prop}(J:Inv X ae σ H s)(bY:X.N.Nodup)(aC:X.N[i]? = some x)(av:Loc X.env.scope x)(r:RelV v u)
  (h:∀s',Inv X ae (σ.set i (some v)) H s'->(∃a,aju a s.heap s'.heap/\(a=X.env.locals\/X.env.cells.lookup x=some a))->Q () s') (hf:X.fn x=true\/X.env.scope.names.lookup x=some .local:=by first | exact .inl rfl | exact .inr rfl | assumption):wpAny M A (storeName X.env x u) Q E s:=by
 obtain⟨m,aR,ao⟩:=id J.loc;have UM:(X.env.scope.kind==.class||(X.env.scope.kind==.module&&X.env.locals != X.env.globals))=false:=by rw[J.ok.kind];rfl
 have o6:i<σ.length:=by rw[J.len];exact(ahe.mp aC).1
 have lQ:=J.lQ;have tracked:∀{a:Addr}{h':Heap},(∃o,s.heap.get? a=some o/\H a=none)->aju a s.heap h'->eC X.prog X.w H h':=fun{a h'} ax aQ b cL e=>by
  obtain⟨_,_,yb⟩:=ax;refine(J.bp b cL e).nd (fun c dz aA q=>(aQ.2 c ?_).trans q) (fun _ q=>q) fun _ _ q=>q
  rintro rfl;rcases aA with rfl | aA
  ·rw[yb]at e;cases e
  ·rw[yb]at aA;cases aA
 rcases av with aL | aL
 ·refine wpAny_storeName_local aL aR (fun h' uS aQ=>?_) UM
  obtain⟨EA,_,_,ye,_⟩:=id aR;refine h _ ⟨J.ok,J.os,J.bare,⟨fun b o e n U av=>?_,fun b o e n U av=>?_,J.base.free,fun b o e av=>?_,J.base.lC,J.base.kn,J.base.lA⟩,⟨_,uS,fun j y rl aH aT dt=>?_⟩,fun y c e=>?_,J.free,J.iA,fun p aP=>?_,tracked ⟨EA,ye,J.free⟩ aQ,by simpa using J.len⟩ ⟨_,aQ,.inl rfl⟩
  ·exact(aQ.2 b (ahE (ahv (ahf e) J.ok.above))).trans (J.base.keep b o e n U av)
  ·obtain⟨c6,aH⟩:=J.base.slot b o e n U av
   exact⟨c6,(aQ.2 b (ahE (ahv (ahf e) J.ok.above))).trans aH⟩
  ·obtain⟨c_,aH⟩:=J.base.there b o e av
   exact⟨c_,(aQ.2 b (ahE (ahv (ahf e) J.ok.above))).trans aH⟩
  ·by_cases bV:j=i
   ·subst bV
    rw[aC]at aH;cases aH;rw[ahr o6]at aT;cases aT;exact⟨u,r,.inl ⟨aL,by simp⟩⟩
   ·rw[ahD (aiD bV)]at aT
    obtain⟨hs,bq,q⟩:=ao j y rl aH aT dt;refine⟨hs,bq,?_⟩;rcases q with⟨k,e⟩ | ⟨k,c,e,z⟩
    ·refine .inl ⟨k,?_⟩
     have:y≠x:=fun e=>bV (Es bY aH (e▸aC))
     simp[this,e]
    ·exact .inr ⟨k,c,e,z.sameBut aQ (lQ y c e)⟩
  ·obtain⟨dz,z⟩:=J.cell y c e
   exact⟨dz,z.sameBut aQ (lQ y c e)⟩
  ·obtain⟨e,n,ne,l3,d⟩:=J.pin p aP
   exact⟨(aQ.2 p.1 ne).trans e,n,ne,l3,d⟩
 ·have qB:X.fn x=true:=by
   rcases hf with z | z
   ·exact z
   ·rw[z]at aL;cases aL
  obtain⟨c,aA⟩:=J.ok.has x (.inl aL);obtain⟨dz,z⟩:=J.cell x c aA;refine wpAny_storeName_cell J.ok.kind aL aA z (fun h' JR aQ=>?_);obtain⟨iI,yf,Vg⟩:=id z;refine h { s with heap:=h' } ⟨J.ok,J.os,J.bare,⟨fun b o e n U av=>?_,fun b o e n U av=>?_,J.base.free,fun b o e av=>?_,J.base.lC,J.base.kn,J.base.lA⟩,⟨m,aR.sameBut aQ (aiD (lQ x c aA)),fun j y rl aH aT dt=>?_⟩,fun y gi e=>?_,J.free,J.iA,fun p aP=>?_,tracked ⟨iI,yf,J.iA x c aA⟩ aQ,by simpa using J.len⟩ ⟨c,aQ,.inr aA⟩
  ·exact(aQ.2 b (ahE (ahv (ahf e) (J.ok.oR x c qB aA)))).trans (J.base.keep b o e n U av)
  ·obtain⟨c6,aH⟩:=J.base.slot b o e n U av
   exact⟨c6,(aQ.2 b (ahE (ahv (ahf e) (J.ok.oR x c qB aA)))).trans aH⟩
  ·obtain⟨c_,aH⟩:=J.base.there b o e av
   exact⟨c_,(aQ.2 b (ahE (ahv (ahf e) (J.ok.oR x c qB aA)))).trans aH⟩
  ·by_cases bV:j=i
   ·subst bV
    rw[aC]at aH;cases aH;rw[ahr o6]at aT;cases aT;exact⟨u,r,.inr ⟨.inl aL,c,aA,JR⟩⟩
   ·rw[ahD (aiD bV)]at aT
    obtain⟨hs,bq,q⟩:=ao j y rl aH aT dt;refine⟨hs,bq,?_⟩;rcases q with q | ⟨k,gi,e,jy⟩
    ·exact .inl q
    ·refine .inr ⟨k,gi,e,jy.sameBut aQ ?_⟩
     rintro rfl;exact bV (Es bY aH (J.ok.inj _ _ _ e aA▸aC))
  ·by_cases x_:gi=c
   ·subst x_;exact⟨_,JR⟩
   ·obtain⟨zT,e'⟩:=J.cell y gi e
    exact⟨zT,e'.sameBut aQ x_⟩
  ·obtain⟨e,n,ne,l3,d⟩:=J.pin p aP
   refine⟨(aQ.2 p.1 ?_).trans e,n,ne,l3,d⟩;intro q;rw[q,yf]at e;have gu:iI=p.2:=ahx e;exact d dz (by rw[<-gu];exact Vg)
theorem zE{M:Model}{A:ahX}{E:dc}{i:Nat}{x:Str}{v:V}{u:Value}{Q:Unit->ag9->Prop}(J:Inv X ae σ H s)(bY:X.N.Nodup)(aC:X.N[i]? = some x)(av:Loc X.env.scope x)(r:RelV v u)
  (h:∀s',Inv X ae (σ.set i (some v)) H s'->Q () s') (hf:X.fn x=true\/X.env.scope.names.lookup x=some .local:=by first | exact .inl rfl | exact .inr rfl | assumption):wpAny M A (storeName X.env x u) Q E s:=
 abd J bY aC av r (fun s' gS _=>h s' gS) hf
theorem Inv.oS{s':ag9}{ch:List Addr}(J:Inv X ae σ H s)(aM:s'.os=s.os)(u:fC (ez X.stack) ch H aa s.heap s'.heap)(bp:eC X.prog X.w aa s'.heap)(a':ajt s'.gens)
  (mR:∀b∈ch,(b∈X.ex\/X.gv.heap.objs.size<=b)/\b≠X.env.locals/\(∀x c,X.env.cells.lookup x=some c->c≠b)/\∀p∈X.m_++ae,p.1≠b):Inv X ae σ aa s':=by
 obtain⟨h',g',d',t',c_⟩:=s';have e:c_=s.os:=aM;subst e;exact J.call (g':=g') (t':=t') (d':=d') u bp a' mR
end
noncomputable abbrev dH:=Value->Option Addr->aI->Prop
noncomputable abbrev St:=List (Option V)
noncomputable abbrev cY:=V->aI->Prop
noncomputable abbrev TE:=St->aI->cY->Prop
noncomputable abbrev TT:=St->aI->(Bool->aI->Prop)->Prop
noncomputable abbrev f3:=St->aI->(List V->aI->Prop)->Prop
structure Ends where
 a8:St->aI->Prop
 cA:cY
 fM:St->aI->Prop:=fun _ _=>False
 c3:St->aI->Prop:=fun _ _=>False
noncomputable abbrev f5:=Ends->St->aI->Prop
def gA(X:aS)(ae:c8)(σ:St)(Q:cY)(u:Value)(s':ag9):Prop:=∃v aa,Inv X ae σ aa s'/\RelV v u/\Q v aa
def Av(X:aS)(ae:c8)(σ:St)(Q:Bool->aI->Prop)(b:Bool)(s':ag9):Prop:=∃aa,Inv X ae σ aa s'/\Q b aa
def O6(X:aS)(ae:c8)(σ:St)(Q:List V->aI->Prop)(us:List Value)(s':ag9):Prop:=∃ar aa,Inv X ae σ aa s'/\Vals ar us/\Q ar aa
def rI(X:aS)(ae:c8)(D:Ends)(f:Flow)(s':ag9):Prop:=
 match f with
 |.next=>∃σ' aa,Inv X ae σ' aa s'/\D.a8 σ' aa|.brk=>∃σ' aa,Inv X ae σ' aa s'/\D.fM σ' aa|.cont=>∃σ' aa,Inv X ae σ' aa s'/\D.c3 σ' aa|.ret u=>∃v σ' aa,Inv X ae σ' aa s'/\RelV v u/\D.cA v aa
def b3(X:aS)(e:Expr)(t:TE):Prop:=
 ∀(ae:c8)(s:ag9)(σ:St)(H:aI)(Q:cY),Inv X ae σ H s->t σ H Q->wpAny (model X.prog X.w) X.A (eval e X.env) (gA X ae σ Q) X.c2 s
def hZ(X:aS)(e:Expr)(t:TT):Prop:=
 ∀(ae:c8)(s:ag9)(σ:St)(H:aI)(Q:Bool->aI->Prop),Inv X ae σ H s->t σ H Q->wpAny (model X.prog X.w) X.A (isTrue e X.env (eval e X.env)) (Av X ae σ Q) X.c2 s
def lM(X:aS)(e:Expr)(t:TT):Prop:=
 ∀(whole:Sem Value)(ae:c8)(s:ag9)(σ:St)(H:aI)(Q:Bool->aI->Prop),Inv X ae σ H s->t σ H Q->wpAny (model X.prog X.w) X.A (isTrue e X.env whole) (Av X ae σ Q) X.c2 s
theorem lM.pt(h:lM X e t):hZ X e t:=h _
def g_(X:aS)(aE:List Expr)(t:f3):Prop:=
 ∀(pos:Pos)(ae:c8)(s:ag9)(σ:St)(H:aI)(Q:List V->aI->Prop),Inv X ae σ H s->t σ H Q->wpAny (model X.prog X.w) X.A (spliced (ahN pos (ag6 aE X.env))) (O6 X ae σ Q) X.c2 s
def jf(X:aS)(st:Stmt)(t:f5):Prop:=
 ∀(ae:c8)(s:ag9)(σ:St)(H:aI)(D:Ends),Inv X ae σ H s->t D σ H->wpAny (model X.prog X.w) X.A (exec st X.env) (rI X ae D) X.c2 s
def hA(X:aS)(st:List Stmt)(t:f5):Prop:=
 ∀(ae:c8)(s:ag9)(σ:St)(H:aI)(D:Ends),Inv X ae σ H s->t D σ H->wpAny (model X.prog X.w) X.A (execs st X.env) (rI X ae D) X.c2 s
theorem b0{α:Type}{t:Sem α}{Q Aq:α->ag9->Prop}{M:Model}{A:ahX}{E:dc}{s:ag9}(h:wpAny M A t Q E s)(jm:∀a s,Q a s->Aq a s):wpAny M A t Aq E s:=ahZ h jm fun _ _ x=>x
section
variable{X:aS}
theorem bin{a b:Expr}{ta cJ:TE}(ax:b3 X a ta)(U:b3 X b cJ){ae:c8}{s:ag9}{σ:St}{H:aI}{R:V->V->aI->Prop}(J:Inv X ae σ H s)(h:ta σ H fun x H1=>cJ σ H1 fun y aZ=>R x y aZ)
  {α:Type}{Q:α->ag9->Prop}{f:Value->Value->Sem α}
  (hf:∀v u s2 x y aZ,Inv X ae σ aZ s2->RelV x v->RelV y u->R x y aZ->wpAny (model X.prog X.w) X.A (f v u) Q X.c2 s2) :
  wpAny (model X.prog X.w) X.A (eval a X.env) (fun v df=>wpAny (model X.prog X.w) X.A (eval b X.env) (fun u i6=>wpAny (model X.prog X.w) X.A (f v u) Q X.c2 i6) X.c2 df) X.c2 s:=by
 refine b0 (ax ae s σ H _ J h) fun v s1 ⟨x,H1,bc,bK,bh⟩=>?_
 refine b0 (U ae s1 σ H1 _ bc bh) fun u s2 ⟨y,aZ,cZ,cn,cM⟩=>?_
 exact hf v u s2 x y aZ cZ bK cn cM
noncomputable def abO(i:Nat):TE:=fun σ H Q=>∃v,σ[i]? = some (some v)/\Q v H
noncomputable def nf(v:V):TE:=fun _ H Q=>Q v H
theorem lx(bY:X.N[i]? = some x)(bF:gT X.env.scope x)(hd:(x==("__debug__":Str))=false:=by decide)(dN:(x==("__classdict__":Str))=false:=by decide):b3 X (.Name x pos) (abO i):=by
 intro ae s σ H Q J h;obtain⟨v,e,h⟩:=h;obtain⟨m,aR,ao⟩:=J.loc;obtain⟨u,r,l⟩:=ao i x v bY e bF;have fin:gA X ae σ Q u s:=⟨v,H,J,r,h⟩;rcases l with⟨aL,hm⟩ | ⟨aL,c,aA,JS⟩
 ·exact wpAny_Name (wpAny_loadName_local J.ok.kind aL aR hm fin) hd
 ·rcases aL with aL | aL
  ·exact wpAny_Name (wpAny_loadName_cell J.ok.kind aL aA JS fin) hd
  ·exact wpAny_Name (wpAny_loadName_free J.ok.kind aL aA JS fin dN) hd
theorem Y6{i j pos}:b3 X (.Constant (.int i) j pos) (nf (.int i)):=fun _ _ _ H _ J h=>wpAny_Constant_int ⟨.int i,H,J.tok _,⟨_,rfl⟩,h⟩
theorem YY{b j pos}:b3 X (.Constant (.bool b) j pos) (nf (.aB b)):=fun _ _ _ H _ J h=>Constant_bool ⟨.aB b,H,J,rfl,h⟩
theorem Y8{j pos}:b3 X (.Constant .none j pos) (nf .ba):=fun _ _ _ H _ J h=>Constant_none ⟨.ba,H,J,rfl,h⟩
theorem Mu{x j pos}:b3 X (.Constant (.str x) j pos) (nf (.str x)):=fun _ _ _ H _ J h=>Calls.Constant_str ⟨.str x,H,J.tok _,⟨_,rfl⟩,h⟩
def dC(X:aS)(x:Str):Prop:=X.env.kindOf x=some .globalImplicit
theorem sD{E:dc}{ae:c8}{s:ag9}{σ:St}{H:aI}{x:Str}{u:Value}{pos:Pos}{Q:dc}(J:Inv X ae σ H s)(a':dC X x)(hm:X.I x=some u)(h:Q u s)
  (hd:(x==("__debug__":Str))=false:=by decide):wpAny (model X.prog X.w) X.A (eval (.Name x pos) X.env) Q E s:=
 akO J.ok.kind a' (Calls.loadGlobal_global (by rw[J.ok.glob];exact J.mod.glob.keeps J.fM) hm h) hd
theorem u6{E:dc}{ae:c8}{s:ag9}{σ:St}{H:aI}{x:Str}{u:Value}{pos:Pos}{Q:dc}(J:Inv X ae σ H s)(a':dC X x)(hm:X.I x=none)(bF:ahK x=some u)(h:Q u s)
  (aR:x≠"__name__":=by decide) (hd:(x==("__debug__":Str))=false:=by decide):wpAny (model X.prog X.w) X.A (eval (.Name x pos) X.env) Q E s:=by
 obtain⟨cw,aj,h2⟩:=J.mod.blt;exact akO J.ok.kind a' (Calls.loadGlobal_builtin (by rw[J.ok.glob];exact J.mod.glob.keeps J.fM) hm (by rw[J.ok.blt];exact aj.keeps J.fM) ((h2 x aR).trans bF) h) hd
theorem Ms(a':dC X x)(hm:X.I x=some u)(r:RelV v u)(hd:(x==("__debug__":Str))=false:=by decide):b3 X (.Name x pos) (nf v):=
 fun _ _ _ H _ J h=>sD J a' hm ⟨v,H,J,r,h⟩ hd
theorem hR(a':dC X x)(hm:X.I x=none)(bF:ahK x=some u)(r:RelV v u)(aR:x≠"__name__":=by decide)(hd:(x==("__debug__":Str))=false:=by decide):b3 X (.Name x pos) (nf v):=
 fun _ _ _ H _ J h=>u6 J a' hm bF ⟨v,H,J,r,h⟩ aR hd
variable{a b:Expr}{ta cJ:TE}{pos:Pos}
def GJ(X:aS)(op:CmpOp)(a b:Expr)(t:TE):Prop:=
 ∀(ae:c8)(s:ag9)(σ:St)(H:aI)(Q:cY),Inv X ae σ H s->t σ H Q->
  wpAny (model X.prog X.w) X.A (eval a X.env) (fun v df=>wpAny (model X.prog X.w) X.A (eval b X.env) (fun u i6=>wpAny (model X.prog X.w) X.A (ahB op v u) (gA X ae σ Q) X.c2 i6) X.c2 df) X.c2 s
theorem X2(b:Expr)(h:op≠.In)(h2:op≠.NotIn):ah8 op b=false:=by
 have aH:(op==CmpOp.In)=false:=by cases op<;>first | rfl | exact absurd rfl h
 have aT:(op==CmpOp.NotIn)=false:=by cases op<;>first | rfl | exact absurd rfl h2
 cases b<;>simp[ah8,aH,aT]
noncomputable def N0(t:TE):TT:=fun σ H Q=>t σ H fun x H1=>∃c,x=.aB c/\Q c H1
theorem Zz(h:GJ X op a b t)(aj:ah8 op b=false:=by first | exact X2 _ (by decide) (by decide) | rfl):hZ X (.Compare a [op] [b] pos) (N0 t):=by
 intro ae s σ H Q J hw;refine wpAny_isTrue_Compare1 (b0 (h ae s σ H _ J hw) fun v s1 aj=>b0 aj fun u s2 h2=>b0 h2 fun c s3 ⟨x,H1,bc,bK,bh⟩=>?_) aj;obtain⟨d,rfl,q⟩:=bh;cases bK;exact aik ⟨H1,bc,q⟩
theorem ZD{e:Expr}(h:b3 X e t)(he:∀whole,isTrue e X.env whole=(do let v <-whole;standAt e.pos;holding [v] (truthy v)):=by intro _;rfl):hZ X e (N0 t):=by
 intro ae s σ H Q J hw;refine isTrue_plain (b0 (h ae s σ H _ J hw) fun v s1 ⟨x,H1,bc,bK,bh⟩=>?_) (he _);obtain⟨d,rfl,q⟩:=bh;cases bK;exact aik ⟨H1,bc,q⟩
variable{lz zG:TT}{rest:List Expr}
noncomputable def abk(t u:TT):TT:=fun σ H Q=>t σ H fun c H1=>if c=true then u σ H1 Q else Q false H1
noncomputable def abF(t u:TT):TT:=fun σ H Q=>t σ H fun c H1=>if c=true then Q true H1 else u σ H1 Q
noncomputable def abD(t:TT):TT:=fun σ H Q=>t σ H fun c H1=>Q (!c) H1
theorem ZL(ax:hZ X a lz):lM X (.BoolOp .And [a] pos) lz:=by
 intro rq ae s σ H Q J h;refine isTrue_and (b0 (ax ae s σ H Q J h) fun c s1 e=>?_)
 cases c with
 |true=>exact isTrue_and_nil e|false=>exact e
theorem ZN(ax:hZ X a lz):lM X (.BoolOp .Or [a] pos) lz:=by
 intro rq ae s σ H Q J h;refine isTrue_or (b0 (ax ae s σ H Q J h) fun c s1 e=>?_)
 cases c with
 |false=>exact isTrue_or_nil e|true=>exact e
theorem ZK(ax:hZ X a lz)(U:lM X (.BoolOp .And (b::rest) pos) zG):lM X (.BoolOp .And (a::b::rest) pos) (abk lz zG):=by
 intro rq ae s σ H Q J h;refine isTrue_and (b0 (ax ae s σ H _ J h) fun c s1 ⟨H1,bc,bh⟩=>?_)
 cases c with
 |true=>exact U rq ae s1 σ H1 Q bc bh|false=>exact⟨H1,bc,bh⟩
theorem ZM(ax:hZ X a lz)(U:lM X (.BoolOp .Or (b::rest) pos) zG):lM X (.BoolOp .Or (a::b::rest) pos) (abF lz zG):=by
 intro rq ae s σ H Q J h;refine isTrue_or (b0 (ax ae s σ H _ J h) fun c s1 ⟨H1,bc,bh⟩=>?_)
 cases c with
 |true=>exact⟨H1,bc,bh⟩|false=>exact U rq ae s1 σ H1 Q bc bh
theorem ZC(ax:hZ X a lz):hZ X (.UnaryOp .Not a pos) (abD lz):=by
 intro ae s σ H Q J h;exact isTrue_not (ax ae s σ H (fun c H1=>Q (!c) H1) J h)
noncomputable def abl(ta cJ:TE):TE:=fun σ H Q=>ta σ H fun x H1=>∃c,x=.aB c/\if c=true then cJ σ H1 Q else Q (.aB false) H1
noncomputable def abG(ta cJ:TE):TE:=fun σ H Q=>ta σ H fun x H1=>∃c,x=.aB c/\if c=true then Q (.aB true) H1 else cJ σ H1 Q
noncomputable def abE(ta:TE):TE:=fun σ H Q=>ta σ H fun x H1=>∃c,x=.aB c/\Q (.aB (!c)) H1
theorem Y_{op}(h:b3 X a t):b3 X (.BoolOp op [a] pos) t:=fun ae s σ H Q J hw=>BoolOp_one (h ae s σ H Q J hw)
theorem YX(ax:b3 X a ta)(U:b3 X (.BoolOp .And (b::rest) pos) cJ):b3 X (.BoolOp .And (a::b::rest) pos) (abl ta cJ):=by
 intro ae s σ H Q J h;refine BoolOp_and (b0 (ax ae s σ H _ J h) fun v s1 ⟨x,H1,bc,bK,bh⟩=>?_);obtain⟨c,rfl,bh⟩:=bh;cases bK;refine aik ?_
 cases c with
 |true=>exact U ae s1 σ H1 Q bc bh|false=>exact⟨.aB false,H1,bc,rfl,bh⟩
theorem Y'(ax:b3 X a ta)(U:b3 X (.BoolOp .Or (b::rest) pos) cJ):b3 X (.BoolOp .Or (a::b::rest) pos) (abG ta cJ):=by
 intro ae s σ H Q J h;refine BoolOp_or (b0 (ax ae s σ H _ J h) fun v s1 ⟨x,H1,bc,bK,bh⟩=>?_);obtain⟨c,rfl,bh⟩:=bh;cases bK;refine aik ?_
 cases c with
 |false=>exact U ae s1 σ H1 Q bc bh|true=>exact⟨.aB true,H1,bc,rfl,bh⟩
theorem Y9(ax:b3 X a ta):b3 X (.UnaryOp .Not a pos) (abE ta):=by
 intro ae s σ H Q J h;refine UnaryOp_ (b0 (ax ae s σ H _ J h) fun v s1 ⟨x,H1,bc,bK,bh⟩=>?_);obtain⟨c,rfl,bh⟩:=bh;cases bK;exact not_of (aik ⟨.aB (!c),H1,bc,rfl,bh⟩)
noncomputable def abu(t:TT)(ta cJ:TE):TE:=fun σ H Q=>t σ H fun c H1=>if c=true then ta σ H1 Q else cJ σ H1 Q
theorem Y5(aA:hZ X c lz)(ax:b3 X a ta)(U:b3 X b cJ):b3 X (.IfExp c a b pos) (abu lz ta cJ):=by
 intro ae s σ H Q J h;refine wpAny_IfExp (b0 (aA ae s σ H _ J h) fun d s1 ⟨H1,bc,bh⟩=>?_)
 cases d with
 |true=>exact ax ae s1 σ H1 Q bc bh|false=>exact U ae s1 σ H1 Q bc bh
end
def dD(K:a4)(H:aI)(a:Addr)(xs:List V):Prop:=
 ed H a (.lst xs)\/
  ∃(o:Obj)(its:Array Value)(n:Nat),K.lookup a=some o/\o.cls=.type "list"/\o.dict=none/\o.data=.seq its n/\its.size<=ag5/\Vals xs its.toList
def dG(K:a4)(H:aI)(a:Addr)(xs:List V):Prop:=
 ed H a (.tup xs)\/
  ∃(o:Obj)(its:Array Value)(n:Nat),K.lookup a=some o/\o.cls=.type "tuple"/\o.data=.seq its n/\its.size<=ag5/\Vals xs its.toList
noncomputable def PD:Value->Option V
 |.none=>some .ba|.bool b=>some (.aB b)|.int i _=>some (.int i)|.str x _=>some (.str x)|.bytes b _=>some (.Bl b)|.float b _=>some (.CF b)|.ref a=>some (.ref a)|.type n=>some (.ty n)|_=>none
theorem RelV.abs(r:RelV x u):PD u=some x:=by
 cases x with
 |ba=>cases r;rfl
 |aB _=>cases r;rfl
 |int _=>obtain⟨t,rfl⟩:=r;rfl
 |str _=>obtain⟨t,rfl⟩:=r;rfl
 |Bl _=>obtain⟨t,rfl⟩:=r;rfl
 |CF _=>obtain⟨t,rfl⟩:=r;rfl
 |ref _=>cases r;rfl
 |ty _=>cases r;rfl
theorem RelV.inj(r:RelV x u)(q:RelV y u):x=y:=ahx (r.abs.symm.trans q.abs)
theorem Vals.inj:∀{xs ys:List V}{us:List Value},Vals xs us->Vals ys us->xs=ys
 |_,_,_,.nil,.nil=>rfl| _,_,_,.cons r t,.cons bq t'=>by rw[r.inj bq,Vals.inj t t']
section
variable{X:aS}{ae:c8}{σ:St}{H:aI}{s:ag9}{a:Addr}{xs ys:List V}
theorem dD.of{K:a4}(h:H a=some (.lst xs)):dD K H a xs:=.inl (.inl h)
theorem dG.of{K:a4}(h:H a=some (.tup xs)):dG K H a xs:=.inl (.inl h)
theorem Inv.list(J:Inv X ae σ H s)(h:dD X.K H a xs):∃its:List Value,Vals xs its/\PlainL s.heap a its.toArray/\xs.length<=ag5:=by
 rcases h with h | ⟨o,its,n,aL,aA,hd,aQ,aX,r⟩
 ·obtain⟨z,its,n,r,e⟩:=h.ok J.bp
  exact⟨its,r,⟨_,n,e,rfl,rfl,rfl⟩,z⟩
 ·refine⟨its.toList,r,⟨o,n,J.gO a o aL,aA,hd,by simpa using aQ⟩,?_⟩
  have e:=r.length;simp only[aiv]at e;omega
theorem Inv.tuple(J:Inv X ae σ H s)(h:dG X.K H a xs):∃its:List Value,Vals xs its/\IsTup s.heap a its.toArray/\xs.length<=ag5:=by
 rcases h with h | ⟨o,its,n,aL,aA,aQ,aX,r⟩
 ·obtain⟨z,its,r,p⟩:=h.ok J.bp
  exact⟨its,r,p,z⟩
 ·refine⟨its.toList,r,⟨o,J.gO a o aL,aA,n,by simpa using aQ⟩,?_⟩
  have e:=r.length;simp only[aiv]at e;omega
theorem Inv.K2(J:Inv X ae σ H s)(h:dD X.K H a xs)(h':dD X.K H a ys):xs=ys:=by
 obtain⟨its,r,⟨o,n,e,_,_,d⟩,_⟩:=J.list h;obtain⟨its',bq,⟨c_,pE,bE,_,_,d'⟩,_⟩:=J.list h';rw[e]at bE;cases bE;rw[d]at d';injection d' with xt _
 have:its=its':=by simpa using congrArg Array.toList xt
 subst this;exact r.inj bq
theorem Inv.N9(J:Inv X ae σ H s)(h:dG X.K H a xs)(h':dG X.K H a ys):xs=ys:=by
 obtain⟨its,r,⟨o,e,_,n,d⟩,_⟩:=J.tuple h;obtain⟨its',bq,⟨c_,bE,_,pE,d'⟩,_⟩:=J.tuple h';rw[e]at bE;cases bE;rw[d]at d';injection d' with xt _
 have:its=its':=by simpa using congrArg Array.toList xt
 subst this;exact r.inj bq
end
noncomputable abbrev aS.wish(X:aS)(E:dc):aS:={ X with c2:=E }
noncomputable abbrev aS.qX(X:aS):aS:=X.wish fun _ _=>False
theorem aS.Ok.wish{X:aS}(ok:X.Ok)(E:dc):(X.wish E).Ok:=
 ⟨ok.mod,ok.kind,ok.glob,ok.blt,ok.above,ok.inj,ok.has,ok.oR,ok.hd,ok.frames,ok.pR,ok.nM,ok.bs,ok.kU,ok.pH,ok.nN,ok.jJ,ok.nS⟩
theorem aS.Ok.pV{X:aS}(ok:(X.wish E).Ok):X.Ok:=
 ⟨ok.mod,ok.kind,ok.glob,ok.blt,ok.above,ok.inj,ok.has,ok.oR,ok.hd,ok.frames,ok.pR,ok.nM,ok.bs,ok.kU,ok.pH,ok.nN,ok.jJ,ok.nS⟩
section
variable{X:aS}{ae:c8}{σ:St}{H:aI}{s:ag9}{E:dc}
theorem Inv.wish(J:Inv X ae σ H s)(E:dc):Inv (X.wish E) ae σ H s:=⟨J.ok.wish E,J.os,J.bare,J.base,J.loc,J.cell,J.free,J.iA,J.pin,J.bp,J.len⟩
theorem Inv.pV(J:Inv (X.wish E) ae σ H s):Inv X ae σ H s:=⟨J.ok.pV,J.os,J.bare,J.base,J.loc,J.cell,J.free,J.iA,J.pin,J.bp,J.len⟩
theorem rI.pV{D:Ends}(h:rI (X.wish E) ae D f s'):rI X ae D f s':=by
 cases f with
 |next=>obtain⟨σ',aa,J,q⟩:=h;exact⟨σ',aa,J.pV,q⟩
 |brk=>obtain⟨σ',aa,J,q⟩:=h;exact⟨σ',aa,J.pV,q⟩
 |cont=>obtain⟨σ',aa,J,q⟩:=h;exact⟨σ',aa,J.pV,q⟩
 |ret u=>obtain⟨v,σ',aa,J,r,q⟩:=h;exact⟨v,σ',aa,J.pV,r,q⟩
theorem hA.qX{st:List Stmt}{t:f5}(h:hA X.qX st t):hA X st t:=fun ae s σ H D J hw=>
 ahZ (h ae s σ H D (J.wish _) hw) (fun _ _ q=>q.pV) fun _ _ z=>aie z
end
section
variable{X:aS}{st:Stmt}{rest:List Stmt}{t u:f5}{e:Expr}{te:TE}{pos:Pos}
noncomputable def N4:f5:=fun D σ H=>D.a8 σ H
noncomputable def abJ(t u:f5):f5:=fun D σ H=>t { D with a8:=u D } σ H
theorem EP:hA X [] N4:=fun _ _ σ H _ J h=>aji ⟨σ,H,J,h⟩
theorem y8(aj:jf X st t)(h2:hA X rest u):hA X (st::rest) (abJ t u):=by
 intro ae s σ H D J h;refine ala (b0 (aj ae s σ H { D with a8:=u D } J h) fun f s1 q=>?_)
 cases f with
 |next=>
  obtain⟨σ',aa,gS,q⟩:=q;exact h2 ae s1 σ' aa D gS q
 |ret v=>exact q|brk=>exact q|cont=>exact q
theorem MI(aj:jf X st t):hA X [st] t:=by
 intro ae s σ H D J h;refine ala (b0 (aj ae s σ H D J h) fun f s1 q=>?_)
 cases f with
 |next=>exact aji q
 |ret v=>exact q|brk=>exact q|cont=>exact q
theorem Zw:jf X (.Pass pos) N4:=fun _ _ σ H _ J h=>wpAny_Pass ⟨σ,H,J,h⟩
theorem Inv.quiet(J:Inv X ae σ H s):interactive X.env=false:=by simp[interactive,J.ok.kind]
noncomputable def abt(te:TE):f5:=fun D σ H=>te σ H fun _ H1=>D.a8 σ H1
theorem MF(he:b3 X e te)(aQ:ah6 e none pos.line X.env=pure false:=by rfl):jf X (.Expr e pos) (abt te):=by
 intro ae s σ H D J h;exact wpAny_Expr_any (b0 (he ae s σ H _ J h) fun v s1 ⟨x,H1,bc,bK,bh⟩=>⟨σ,H1,bc,bh⟩) J.quiet aQ
noncomputable def abI(te:TE):f5:=fun D σ H=>te σ H D.cA
theorem y7(he:b3 X e te):jf X (.Return (some e) pos) (abI te):=by
 intro ae s σ H D J h;exact wpAny_Return_some (b0 (he ae s σ H _ J h) fun v s1 ⟨x,H1,bc,bK,bh⟩=>⟨x,σ,H1,bc,bK,bh⟩)
noncomputable def abv(c:TT)(t u:f5):f5:=fun D σ H=>c σ H fun b H1=>if b=true then t D σ H1 else u D σ H1
theorem MG(aA:hZ X c j0)(ax:hA X a t)(U:hA X b u):jf X (.If c a b pos) (abv j0 t u):=by
 intro ae s σ H D J h;refine wpAny_If (b0 (aA ae s σ H _ J h) fun d s1 ⟨H1,bc,bh⟩=>?_)
 cases d with
 |true=>exact ax ae s1 σ H1 D bc bh|false=>exact U ae s1 σ H1 D bc bh
end
noncomputable abbrev kc:=V->St->aI->(St->aI->Prop)->Prop
noncomputable abbrev oH:=List V->St->aI->(St->aI->Prop)->Prop
def oG(X:aS)(target:Expr)(t:kc):Prop:=
 ∀(ae:c8)(s:ag9)(σ:St)(H:aI)(v:V)(u:Value)(Q:St->aI->Prop),Inv X ae σ H s->RelV v u->t v σ H Q->
  wpAny (model X.prog X.w) X.A (aj5 target X.env u) (fun _ s'=>∃σ' aa,Inv X ae σ' aa s'/\Q σ' aa) X.c2 s
def p8(X:aS)(cc:List Expr)(t:oH):Prop:=
 ∀(ae:c8)(s:ag9)(σ:St)(H:aI)(ar:List V)(us:List Value)(Q:St->aI->Prop),Inv X ae σ H s->Vals ar us->t ar σ H Q->
  wpAny (model X.prog X.w) X.A (assignInOrder ((ahS cc X.env).map (·.2)) us) (fun _ s'=>∃σ' aa,Inv X ae σ' aa s'/\Q σ' aa) X.c2 s
section
variable{X:aS}{pos:Pos}
noncomputable def o3(i:Nat):kc:=fun v σ H Q=>Q (σ.set i (some v)) H
theorem EO(bY:X.N.Nodup)(aC:X.N[i]? = some x)(av:Loc X.env.scope x)(hf:X.fn x=true\/X.env.scope.names.lookup x=some .local:=by first | exact .inl rfl | exact .inr rfl | assumption):oG X (.Name x pos) (o3 i):=by
 intro ae s σ H v u Q J r h;exact wpAny_assign_Name (zE J bY aC av r (fun s' gS=>⟨_,H,gS,h⟩) hf)
noncomputable def Ju:oH:=fun ar σ H Q=>ar=[]/\Q σ H
noncomputable def Jt(t:kc)(u:oH):oH:=fun ar σ H Q=>∃v r,ar=v::r/\t v σ H fun σ' aa=>u r σ' aa Q
theorem Zd:p8 X [] Ju:=by
 intro ae s σ H ar us Q J r h;obtain⟨e,h⟩:=h;subst e;cases r;exact assignInOrder_nil ⟨σ,H,J,h⟩
theorem Zc{e:Expr}{aE:List Expr}{t:kc}{u:oH}(aj:oG X e t)(h2:p8 X aE u)
  (aQ:(ahS (e::aE) X.env).map (·.2)=aj5 e X.env::(ahS aE X.env).map (·.2):=by rfl):p8 X (e::aE) (Jt t u):=by
 intro ae s σ H ar us Q J r h;obtain⟨v,Om,aH,h⟩:=h;subst aH
 cases r with
 |cons r bD=>
  rw[aQ];refine assignInOrder_cons (b0 (aj ae s σ H _ _ _ J r h) fun _ s1 ⟨fl,H1,bc,bh⟩=>?_);exact h2 ae s1 fl H1 _ _ Q bc bD bh
noncomputable def uy(K:a4)(n:Nat)(t:oH):kc:=fun v σ H Q=>∃a xs,v=.ref a/\dG K H a xs/\xs.length=n/\t xs σ H Q
theorem Mx{aE:List Expr}{k:Nat}{t:oH}{n:Nat}(aA:X.calm=true)(h:p8 X aE t)
  (aR:(ahS aE X.env).length=n:=by rfl) (Dv:(ahS aE X.env).findIdx? (·.1)=none:=by rfl):oG X (.Tuple aE k pos) (uy X.K n t):=by
 intro ae s σ H v u Q J r hw;obtain⟨a,xs,aH,bf,ao,hw⟩:=hw;subst aH;cases r;obtain⟨its,bZ,bG,aX⟩:=J.tuple bf;refine assign_Tuple_tuple (J.ok.hd aA) bG (by simp[aR,<-ao,bZ.length]) Dv fun h' av=>?_
 have bc:Inv X ae σ H { s with heap:=h' }:=J.kept (t':=s.toks) fun b o e=>av b o (ahE (ahf e)) e
 exact h ae _ σ H xs _ Q bc (by simpa using bZ) hw
noncomputable def F5(te:TE)(g:kc):f5:=fun D σ H=>te σ H fun x H1=>g x σ H1 D.a8
theorem pM(bY:X.N.Nodup)(aC:X.N[i]? = some x)(av:Loc X.env.scope x)(he:b3 X e te)(aQ:ah6 e (some (.Name x pos')) pos.line X.env=pure false:=by rfl)(hf:X.fn x=true\/X.env.scope.names.lookup x=some .local:=by first | exact .inl rfl | exact .inr rfl | assumption) :
  jf X (.Assign [.Name x pos'] e pos) (F5 te (o3 i)):=by
 intro ae s σ H D J h;refine wpAny_Assign_Name (b0 (he ae s σ H _ J h) fun v s1 ⟨y,H1,bc,bK,bh⟩=>?_) aQ;exact zE bc bY aC av bK (fun s2 cZ=>⟨_,H1,cZ,bh⟩) hf
end
section
variable{X:aS}{pos:Pos}
noncomputable def N5(c:TT)(cJ:f5):f5:=fun D σ H=>∃W:Nat->St->aI->Prop,(∃m,W m σ H)/\∀m σ H,W m σ H->
 c σ H fun b H1=>if b=true then ∃N:St->aI->Prop,(∀σ' aa,N σ' aa->∃ft,ft<m/\W ft σ' aa)/\cJ { D with a8:=N,c3:=N,fM:=D.a8 } σ H1 else D.a8 σ H1
theorem MH(aP:akh (model X.prog X.w) X.A X.env X.c2)(aA:hZ X c j0)(U:hA X body cJ):jf X (.While c body [] pos) (N5 j0 cJ):=by
 intro ae s σ H D J h;obtain⟨W,⟨m0,rm⟩,turn⟩:=h;refine wpAny_While (codeAny_whileLoop (fun n s'=>∃σ' aa,Inv X ae σ' aa s'/\W n σ' aa) ?_ m0 ⟨σ,H,J,rm⟩);rintro n s1 ⟨fl,H1,bc,Gi⟩;refine aiY aP (b0 (aA ae s1 fl H1 _ bc (turn n fl H1 Gi)) fun b s2 ⟨aZ,cZ,cM⟩=>?_)
 cases b with
 |true=>
  obtain⟨N,bY,cM⟩:=cM;rw[if_pos rfl];refine aiY aP (b0 (U ae s2 fl aZ _ cZ cM) fun f s3 e2=>?_)
  cases f with
  |next=>
   obtain⟨ml,cX,ec,Eh⟩:=e2;obtain⟨ft,hm,v7⟩:=bY ml cX Eh;exact⟨ft,hm,ml,cX,ec,v7⟩
  |cont=>
   obtain⟨ml,cX,ec,Eh⟩:=e2;obtain⟨ft,hm,v7⟩:=bY ml cX Eh;exact⟨ft,hm,ml,cX,ec,v7⟩
  |brk=>exact e2|ret v=>exact e2
 |false=>
  rw[if_neg ahd];exact aji ⟨fl,aZ,cZ,cM⟩
end
structure iP where
 go:Nat->aI->Prop
 tA:Nat->aI->V->aI->Prop
 stop:Nat->aI->Prop
def fY(X:aS)(ae:c8)(H:aI)(b:Addr):Prop:=
 H b=none/\b≠X.env.locals/\b∉X.fs/\(b∈X.ex\/X.gv.heap.objs.size<=b)/\(∀x c,X.env.cells.lookup x=some c->c≠b)/\∀p∈X.m_++ae,p.1≠b
theorem Inv.o2{H aa:aI}{s:ag9}(J:Inv X ae σ H s)(U:s.heap.objs.size<=b)(aR:aa b=none):fY X ae aa b:=by
 refine⟨aR,alb (ahv J.lt U),J.X5 U,.inr (ahL J.tq U),fun x c e z=>?_,fun p aP z=>?_⟩
 ·obtain⟨v,q⟩:=J.cell x c e
  exact absurd (ahv q.lt (by rw[z];exact U)) (ahW _)
 ·exact absurd (ahv (ahf (J.pin p aP).1) (by rw[z];exact U)) (ahW _)
structure Turn(P:ahq)(w:World)(K:a4)(cV:Expr)(b1:iP)(aW:List Addr)(it:Addr)(fx:Nat->Heap->Prop):Prop where
 mem:it∈aW
 obj:∀i h,fx i h->∀b∈aW,∃o,h.get? b=some o/\∀v,o.data≠.cell v
 keep:∀i h h',fx i h->(∀b∈aW,∀o,h.get? b=some o->h'.get? b=some o)->fx i h'
 item:∀(X:aS),X.prog=P->X.w=w->X.K=K->X.calm=true->∀(i:Nat)(ae:c8)(s:ag9)(σ:St)(H:aI)(E:dc),Inv X ae σ H s->(∀b∈aW,fY X ae H b)->fx i s.heap->b1.go i H->
  wpAny (model P w) X.A (pyNext (.ref it)) (fun r s1=>∃u,r=some u/\
   wpAny (model P w) X.A (ajO cV (.ref it) u) (fun _ s2=>∃x aa,Inv X ae σ aa s2/\RelV x u/\b1.tA i H x aa/\fx (i+1) s2.heap/\∀b∈aW,aa b=none) E s1) E s
 done:∀(X:aS),X.prog=P->X.w=w->X.K=K->X.calm=true->∀(i:Nat)(ae:c8)(s:ag9)(σ:St)(H:aI)(E:dc),Inv X ae σ H s->(∀b∈aW,fY X ae H b)->fx i s.heap->b1.stop i H->
  wpAny (model P w) X.A (pyNext (.ref it)) (fun r s1=>r=none/\Inv X ae σ H s1) E s
 self:∀(A:ahX)(i:Nat)(s:ag9)(Q:dc)(E:dc),fx i s.heap->Q (.ref it) s->wpAny (model P w) A (pyIter (.ref it)) Q E s
noncomputable abbrev TI:=St->aI->(iP->aI->Prop)->Prop
def GL(X:aS)(ae:c8)(σ:St)(cV:Expr)(R:iP->aI->Prop)(yp:Value)(s2:ag9):Prop:=
 ∃(it:Addr)(aW:List Addr)(fx:Nat->Heap->Prop)(b1:iP)(aa:aI),yp=.ref it/\Inv X ae σ aa s2/\Turn X.prog X.w X.K cV b1 aW it fx/\fx 0 s2.heap/\(∀b∈aW,fY X ae aa b)/\R b1 aa
def kP(X:aS)(cV iter:Expr)(wi:TI):Prop:=
 ∀(ae:c8)(s:ag9)(σ:St)(H:aI)(R:iP->aI->Prop),Inv X ae σ H s->wi σ H R->
  wpAny (model X.prog X.w) X.A (eval iter X.env) (fun v s1=>wpAny (model X.prog X.w) X.A (pyIter v) (GL X ae σ cV R) X.c2 s1) X.c2 s
theorem uB{M:Model}{A:ahX}{E:dc}{s:ag9}{cV:Expr}{it:Addr}{u:Value}{o:Obj}{n:String}{ar:Array Value}{Q:Unit->ag9->Prop}(aM:s.heap.get? it=some o)(aA:o.cls=.type n)(hd:o.data=.fields ar)
    (aR:["enumerate","zip","dict_itemiterator","dict_reverseitemiterator","odict_iterator","itertools.zip_longest","itertools.pairwise"].contains n=false) (jm:Q () s):wpAny M A (ajO cV (.ref it) u) Q E s:=by
  unfold ajO;cases cV<;>first
    |exact ahh jm
    | (cases u<;>first
        |exact ahh jm
        | (refine ag2 (wpAny_load aM ?_)
           rw[aA,hd];show wpAny M A (if(["enumerate","zip","dict_itemiterator","dict_reverseitemiterator","odict_iterator","itertools.zip_longest","itertools.pairwise"].contains n&&ar[0]? == some (aip _))=true then _ else _) Q E s;rw[if_neg (by intro h;rw[aR,Bool.false_and]at h;cases h)];exact ahh jm))
noncomputable def oD(K:a4)(a:Addr):iP:=
 ⟨fun i H=>∃xs x,dD K H a xs/\xs[i]? = some x,fun i H x aa=>aa=H/\∀xs,dD K H a xs->xs[i]? = some x,fun i H=>∃xs,dD K H a xs/\xs.length<=i⟩
noncomputable def rE(K:a4)(a:Addr):iP:=
 ⟨fun i H=>∃xs x,dG K H a xs/\xs[i]? = some x,fun i H x aa=>aa=H/\∀xs,dG K H a xs->xs[i]? = some x,fun i H=>∃xs,dG K H a xs/\xs.length<=i⟩
noncomputable def rC(lo:Int)(n:Nat):iP:=⟨fun i _=>i<n,fun i H x aa=>aa=H/\x=.int (lo+i),fun i _=>n<=i⟩
theorem abV{P:ahq}{w:World}{K:a4}{cV:Expr}(a it:Addr):Turn P w K cV (oD K a) [it] it (fun i h=>h.IsListIter it a i) where
 mem:=by simp
 obj:=fun i h st b U=>by
  have e:b=it:=by simpa using U
  subst e;obtain⟨o,e,c,d⟩:=st;exact⟨o,e,fun v z=>by rw[d]at z;cases z⟩
 keep:=fun i h h' st k=>st.at fun o e=>k it (by simp) o e
 item:=by
  intro X fP hw f' aA i ae s σ H E J hf st a';subst fP hw f';obtain⟨xs,x,bf,av⟩:=a';obtain⟨its,bZ,p,aX⟩:=J.list bf;obtain⟨u,a_,iL⟩:=bZ.get av;obtain⟨f0,f1,f2,hc,f4,hG⟩:=hf it (by simp);refine wpAny_pyNext_list_item st p.isList (x:=u) (by simpa using a_) fun h' b2 i5=>?_
  have bc:Inv X ae σ H { s with heap:=h' }:=J.turned (t':=s.toks) (fun b o U e=>(i5.2 b U).trans e) f0 f1 hc f4 hG;obtain⟨o,e,c,d⟩:=id b2;exact⟨u,rfl,uB (s:={ s with heap:=h' }) e c d (by decide) ⟨x,H,bc,iL,⟨rfl,fun ys bo=>by rw[J.K2 bo bf];exact av⟩,b2,fun b U=>(hf b U).1⟩⟩
 done:=by
  intro X fP hw f' aA i ae s σ H E J hf st a';subst fP hw f';obtain⟨xs,bf,av⟩:=a';obtain⟨its,bZ,p,aX⟩:=J.list bf;obtain⟨f0,f1,f2,hc,f4,hG⟩:=hf it (by simp);have ao:=bZ.length;exact wpAny_pyNext_list_end (J.ok.hd aA) st p.isList (by simp;omega) fun h' dS=>⟨rfl,J.turned (t':=s.toks) (fun b o U e=>dS b o U e) f0 f1 hc f4 hG⟩
 self:=fun _ _ _ _ _ st h=>wpAny_pyIter_listiter st h
theorem abX{P:ahq}{w:World}{K:a4}{cV:Expr}(a it:Addr):Turn P w K cV (rE K a) [it] it (fun i h=>h.IsTupleIter it a i) where
 mem:=by simp
 obj:=fun i h st b U=>by
  have e:b=it:=by simpa using U
  subst e;obtain⟨o,e,c,d⟩:=st;exact⟨o,e,fun v z=>by rw[d]at z;cases z⟩
 keep:=fun i h h' st k=>st.at fun o e=>k it (by simp) o e
 item:=by
  intro X fP hw f' aA i ae s σ H E J hf st a';subst fP hw f';obtain⟨xs,x,bf,av⟩:=a';obtain⟨its,bZ,p,aX⟩:=J.tuple bf;obtain⟨u,a_,iL⟩:=bZ.get av;obtain⟨f0,f1,f2,hc,f4,hG⟩:=hf it (by simp);refine wpAny_pyNext_tuple_item st (show s.heap.IsTuple a its.toArray from p) (x:=u) (by simpa using a_) fun h' b2 i5=>?_
  have bc:Inv X ae σ H { s with heap:=h' }:=J.turned (t':=s.toks) (fun b o U e=>(i5.2 b U).trans e) f0 f1 hc f4 hG;obtain⟨o,e,c,d⟩:=id b2;exact⟨u,rfl,uB (s:={ s with heap:=h' }) e c d (by decide) ⟨x,H,bc,iL,⟨rfl,fun ys bo=>by rw[J.N9 bo bf];exact av⟩,b2,fun b U=>(hf b U).1⟩⟩
 done:=by
  intro X fP hw f' aA i ae s σ H E J hf st a';subst fP hw f';obtain⟨xs,bf,av⟩:=a';obtain⟨its,bZ,p,aX⟩:=J.tuple bf;obtain⟨f0,f1,f2,hc,f4,hG⟩:=hf it (by simp);have ao:=bZ.length;exact wpAny_pyNext_tuple_end (J.ok.hd aA) st (show s.heap.IsTuple a its.toArray from p) (by simp;omega) fun h' dS=>⟨rfl,J.turned (t':=s.toks) (fun b o U e=>dS b o U e) f0 f1 hc f4 hG⟩
 self:=fun _ _ _ _ _ st h=>wpAny_pyIter_tupleiter st h
theorem abW{P:ahq}{w:World}{K:a4}{cV:Expr}(it:Addr)(lo:Int)(n:Nat):Turn P w K cV (rC lo n) [it] it (fun i h=>IsRangeIter h it (lo+(i:Nat)*1) ((n:Int)-(i:Nat)) 1) where
 mem:=by simp
 obj:=fun i h st b U=>by
  have e:b=it:=by simpa using U
  subst e;exact⟨_,st,fun v z=>by
   have jy:Data.fields _=Data.cell v:=z;cases jy⟩
 keep:=fun i h h' st k=>k it (by simp) _ st
 item:=by
  intro X fP hw f' aA i ae s σ H E J hf st a';subst fP hw f';obtain⟨f0,f1,f2,hc,f4,hG⟩:=hf it (by simp);have W:=Walks.range (prog:=X.prog) (w:=X.w) (J.ok.hd aA) it lo 1 n;refine W.item i s _ _ a' st fun v h' tk bF b2 n1=>?_
  obtain⟨t,rfl⟩:=bF;have bc:Inv X ae σ H { s with heap:=h',toks:=tk }:=J.turned (fun b o U e=>n1 b o (by simpa using U) e) f0 f1 hc f4 hG;refine⟨_,rfl,uB (s:={ s with heap:=h',toks:=tk }) (n:="range_iterator") b2 rfl rfl (by decide) ⟨.int (lo+i),H,bc,⟨t,?_⟩,⟨rfl,rfl⟩,b2,fun b U=>(hf b U).1⟩⟩;rw[Int.mul_one]
 done:=by
  intro X fP hw f' aA i ae s σ H E J hf st a';subst fP hw f';obtain⟨f0,f1,f2,hc,f4,hG⟩:=hf it (by simp);exact wpAny_pyNext_range_end (J.ok.hd aA) st (by have:n<=i:=a';omega) fun h' dS=>⟨rfl,J.turned (t':=s.toks) (fun b o U e=>dS b o U e) f0 f1 hc f4 hG⟩
 self:=fun _ _ _ _ _ st h=>wpAny_pyIter_rangeiter st h
section
variable{X:aS}{cV:Expr}
noncomputable def VB(K:a4)(gw:TE):TI:=fun σ H R=>gw σ H fun x H1=>∃a,x=.ref a/\(∃xs,dD K H1 a xs)/\R (oD K a) H1
noncomputable def VC(K:a4)(gw:TE):TI:=fun σ H R=>gw σ H fun x H1=>∃a,x=.ref a/\(∃xs,dG K H1 a xs)/\R (rE K a) H1
theorem Mz(ao:b3 X l gw):kP X cV l (VB X.K gw):=by
 intro ae s σ H R J h;refine b0 (ao ae s σ H _ J h) fun v s1 ⟨x,H1,bc,bK,bh⟩=>?_
 obtain⟨a,e,⟨xs,bf⟩,q⟩:=bh;subst e;cases bK;obtain⟨its,bZ,p,aX⟩:=bc.list bf;refine ajs p.isList ?_;refine⟨s1.heap.objs.size,[s1.heap.objs.size],_,_,H1,rfl,bc.kept (t':=s1.toks) fun b o e=>ag8 _ e,abV a _,⟨_,aho _ rfl,rfl,rfl⟩,fun b U=>?_,q⟩;have e:b=s1.heap.objs.size:=by simpa using U
 subst e;exact bc.o2 (ahg _) (bc.bp.fresh (ahg _))
theorem MB(ao:b3 X l gw):kP X cV l (VC X.K gw):=by
 intro ae s σ H R J h;refine b0 (ao ae s σ H _ J h) fun v s1 ⟨x,H1,bc,bK,bh⟩=>?_
 obtain⟨a,e,⟨xs,bf⟩,q⟩:=bh;subst e;cases bK;obtain⟨its,bZ,p,aX⟩:=bc.tuple bf;refine ajj (show s1.heap.IsTuple a its.toArray from p) ?_;refine⟨s1.heap.objs.size,[s1.heap.objs.size],_,_,H1,rfl,bc.kept (t':=s1.toks) fun b o e=>ag8 _ e,abX a _,⟨_,aho _ rfl,rfl,rfl⟩,fun b U=>?_,q⟩;have e:b=s1.heap.objs.size:=by simpa using U
 subst e;exact bc.o2 (ahg _) (bc.bp.fresh (ahg _))
theorem Z9{ae:c8}{σ:St}{H:aI}{s:ag9}{R:iP->aI->Prop}{E:dc}{lo aC:Int}{t u v:Tok}{tk:Nat}(J:Inv X ae σ H s)(aj:-(2 ^ 62)<=lo)(h2:lo<2 ^ 62)(bz:-(2 ^ 62)<=aC)(c0:aC<2 ^ 62)
  (q:R (rC lo (aC-lo).toNat) H):wpAny (model X.prog X.w) X.A (pyIter (.ref s.heap.objs.size)) (GL X ae σ cV R) E { s with heap:=s.heap.push { cls:=.type "range",data:=.fields #[.int lo t,.int aC u,.int 1 v] },toks:=tk }:=by
 refine wpAny_pyIter_range (IsRange.new ..) (small_one aj h2 bz c0) ?_;have bc:Inv X ae σ H { s with heap:=s.heap.push { cls:=.type "range",data:=.fields #[.int lo t,.int aC u,.int 1 v] },toks:=tk }:=J.kept fun b o e=>ag8 _ e
 refine⟨(s.heap.push { cls:=.type "range",data:=.fields #[.int lo t,.int aC u,.int 1 v] }).objs.size,[(s.heap.push { cls:=.type "range",data:=.fields #[.int lo t,.int aC u,.int 1 v] }).objs.size],_,_,H,rfl,
  bc.kept (t':=tk) fun b o e=>ag8 _ e,abW _ lo (aC-lo).toNat,?_,fun b U=>?_,q⟩
 ·have aH:lo+((0:Nat):Int)*1=lo:=by simp
  have aT:(((aC-lo).toNat:Nat):Int)-((0:Nat):Int)=Builtin.Range.rangeSize lo aC 1:=by rw[rangeSize_one];split<;>omega
  show IsRangeIter _ _ (lo+((0:Nat):Int)*1) ((((aC-lo).toNat:Nat):Int)-((0:Nat):Int)) 1;rw[aH,aT];exact aho _ rfl
 ·have e:b=(s.heap.push { cls:=.type "range",data:=.fields #[.int lo t,.int aC u,.int 1 v] }).objs.size:=by simpa using U
  subst e;exact bc.o2 (ahg _) (bc.bp.fresh (ahg _))
noncomputable def DE(ta:f3):TI:=fun σ H R=>ta σ H fun ar H1=>∃j:Int,ar=[.int j]/\-(2 ^ 62)<=j/\j<2 ^ 62/\R (rC 0 j.toNat) H1
theorem MA(a':dC X "range")(hm:X.I "range"=none)(ax:g_ X [a] ta)(aQ:ag6 [a] X.env=[(false,eval a X.env)]:=by rfl):kP X cV (.Call (.Name "range" p) [a] [] pos) (DE ta):=by
 intro ae s σ H R J h;refine Call_ (u6 J a' hm boot_range (ajA (b0 (ax pos ae s σ H _ J h) fun us s1 ⟨ar,H1,bc,bK,bh⟩=>?_) aQ rfl));obtain⟨j,e,bh,cM,q⟩:=bh;subst e
 cases bK with
 |cons r bD=>
  cases bD;obtain⟨t,rfl⟩:=r;exact call_range_1 (Z9 bc (by omega) (by omega) bh cM (by simpa using q))
noncomputable def F8(wi:TI)(g:kc)(cJ:f5):f5:=fun D σ H=>wi σ H fun b1 H1=>∃W:Nat->Nat->St->aI->Prop,(∃m,W 0 m σ H1)/\∀i m σ H,W i m σ H->
 (b1.stop i H/\D.a8 σ H)\/(b1.go i H/\∃N:St->aI->Prop,(∀σ' aa,N σ' aa->∃ft,ft<m/\W (i+1) ft σ' aa)/\∀x aa,b1.tA i H x aa->g x σ aa fun dA aZ=>cJ { D with a8:=N,c3:=N,fM:=D.a8 } dA aZ)
noncomputable def tf(aW:List Addr)(h:Heap):List (Addr×Obj):=aW.filterMap fun b=>(h.get? b).map fun o=>(b,o)
theorem sR{h:Heap}(U:b∈aW)(e:h.get? b=some o):(b,o)∈tf aW h:=List.mem_filterMap.mpr ⟨b,U,by rw[e];rfl⟩
theorem Yo{h:Heap}(aP:p∈tf aW h):p.1∈aW/\h.get? p.1=some p.2:=by
 obtain⟨b,U,e⟩:=List.mem_filterMap.mp aP
 cases q:h.get? b with
 |none=>rw[q]at e;cases e
 |some o=>
  rw[q]at e;have bE:(b,o)=p:=ahx e;subst bE;exact⟨U,q⟩
theorem Inv.pinned{s:ag9}(J:Inv X ae σ H s)(hf:∀b∈aW,fY X ae H b)(aM:∀b∈aW,∃o,s.heap.get? b=some o/\∀v,o.data≠.cell v):Inv X (ae++tf aW s.heap) σ H s:=
 J.ME fun p aP=>(ahI.mp aP).elim (fun z=>J.pin p (ahp _ z)) fun z=>by
  obtain⟨U,e⟩:=Yo z;obtain⟨f0,f1,f2,_⟩:=hf p.1 U;obtain⟨o,bE,d⟩:=aM p.1 U;rw[e]at bE;cases bE;exact⟨e,f0,f1,f2,d⟩
theorem Inv.v5(J:Inv X (ae++dp) σ H s):Inv X ae σ H s:=J.ME fun p aP=>J.pin p (ahp _ (aiE _ aP))
theorem Zv{iter:Expr}{body:List Stmt}{wi:TI}{g:kc}{cJ:f5}{pos:Pos}(aP:akh (model X.prog X.w) X.A X.env X.c2)(aA:X.calm=true)(aC:kP X cV iter wi)(a':oG X cV g)(U:hA X body cJ)
  (aQ:∀x,ail iter X.env x=pure x:=by intro _;rfl):jf X (.For cV iter body [] pos) (F8 wi g cJ):=by
 intro ae s σ H D J h;refine wpAny_For (b0 (aC ae s σ H _ J h) fun v s1 aj=>b0 aj fun yp s2 h2=>?_) aQ;obtain⟨it,aW,fx,b1,aZ,e,cZ,T,cW,f2,W,⟨m0,rm⟩,turn⟩:=h2;subst e;have l_:∀{aa:aI},(∀b∈aW,aa b=none)->∀b∈aW,fY X ae aa b:=fun aR b U=>⟨aR b U,(f2 b U).2⟩
 refine codeAny_forLoop_any (fun n s'=>∃i σ' aa,Inv X ae σ' aa s'/\fx i s'.heap/\(∀b∈aW,aa b=none)/\W i n σ' aa) ?_ m0 ⟨0,σ,aZ,cZ,cW,fun b U=>(f2 b U).1,rm⟩;rintro n s3 ⟨i,ml,cX,ec,e_,Jp,v7⟩;rcases turn i n ml cX v7 with⟨stop,ti⟩ | ⟨go,N,bY,step⟩
 ·refine aiY aP (b0 (T.done X rfl rfl rfl aA i ae s3 ml cX X.c2 ec (l_ Jp) e_ stop) fun r s4 ⟨ay,jc⟩=>?_)
  subst ay;exact aji ⟨ml,cX,jc,ti⟩
 ·refine aiY aP (b0 (T.item X rfl rfl rfl aA i ae s3 ml cX X.c2 ec (l_ Jp) e_ go) fun r s4 ⟨u,ay,c0⟩=>?_)
  subst ay;refine aiY aP (b0 c0 fun _ s5 ⟨x,jA,nu,ES,acY,oi,qs⟩=>?_);have Pk:=nu.pinned (l_ qs) (T.obj _ _ oi);refine aiY aP (b0 (a' _ s5 ml jA x u _ Pk ES (step x jA acY)) fun _ fu ⟨ado,Pg,nv,ZR⟩=>?_);refine aiY aP (b0 (U _ fu ado Pg _ nv ZR) fun f fv pN=>?_);have again:∀{mm:St}{ir:aI},Inv X (ae++tf aW s5.heap) mm ir fv->N mm ir->∃m,m<n/\∃i σ' aa,Inv X ae σ' aa fv/\fx i fv.heap/\(∀b∈aW,aa b=none)/\W i m σ' aa:=fun{mm ir} jd ve=>by
   obtain⟨ft,hm,ab6⟩:=bY mm ir ve;refine⟨ft,hm,i+1,mm,ir,jd.v5,T.keep _ _ _ oi fun b U o e=>(jd.pin (b,o) (ahp _ (ahp _ (sR U e)))).1,fun b U=>?_,ab6⟩;obtain⟨o,e,d⟩:=T.obj _ _ oi b U;exact(jd.pin (b,o) (ahp _ (ahp _ (sR U e)))).2.1
  cases f with
  |next=>obtain⟨mm,ir,jd,ve⟩:=pN;exact again jd ve
  |cont=>obtain⟨mm,ir,jd,ve⟩:=pN;exact again jd ve
  |brk=>obtain⟨mm,ir,jd,pN⟩:=pN;exact⟨mm,ir,jd.v5,pN⟩
  |ret v=>obtain⟨acV,mm,ir,jd,vA,pN⟩:=pN;exact⟨acV,mm,ir,jd.v5,vA,pN⟩
end
noncomputable abbrev gE:=V->V->aI->cY->Prop
def dv(X:aS)(f:Value->Value->Sem Value)(r:gE):Prop:=
 ∀(ae:c8)(s:ag9)(σ:St)(H:aI)(x y:V)(v u:Value)(Q:cY),Inv X ae σ H s->RelV x v->RelV y u->r x y H Q->
  wpAny (model X.prog X.w) X.A (f v u) (gA X ae σ Q) X.c2 s
def Aw(X:aS)(f:Value->Sem Value)(r:V->aI->cY->Prop):Prop:=
 ∀(ae:c8)(s:ag9)(σ:St)(H:aI)(x:V)(v:Value)(Q:cY),Inv X ae σ H s->RelV x v->r x H Q->
  wpAny (model X.prog X.w) X.A (f v) (gA X ae σ Q) X.c2 s
def g7(X:aS)(f:Value)(r:List V->aI->cY->Prop):Prop:=
 ∀(ae:c8)(s:ag9)(σ:St)(H:aI)(xs:List V)(us:List Value)(Q:cY),Inv X ae σ H s->Vals xs us->r xs H Q->
  wpAny (model X.prog X.w) X.A (call f us) (gA X ae σ Q) X.c2 s
noncomputable def vR(r:gE)(ta cJ:TE):TE:=fun σ H Q=>ta σ H fun x H1=>cJ σ H1 fun y aZ=>r x y aZ Q
noncomputable def abN(r:V->aI->cY->Prop)(ta:TE):TE:=fun σ H Q=>ta σ H fun x H1=>r x H1 Q
noncomputable def jW(C:Int->Int->Prop)(g:Int->Int->V):gE:=fun x y H Q=>∃i j,x=.int i/\y=.int j/\C i j/\Q (g i j) H
noncomputable def hn(g:Int->Int->V):gE:=fun x y H Q=>∃i j,x=.int i/\y=.int j/\Q (g i j) H
noncomputable def M1(g:Int->V):V->aI->cY->Prop:=fun x H Q=>∃i,x=.int i/\Q (g i) H
section
variable{X:aS}{a b:Expr}{ta cJ:TE}{pos:Pos}
theorem Bi(ax:b3 X a ta)(U:b3 X b cJ){ae:c8}{s:ag9}{σ:St}{H:aI}{R:V->V->aI->Prop}(J:Inv X ae σ H s)
  (h:ta σ H fun x H1=>cJ σ H1 fun y aZ=>R x y aZ) {Q:dc}{f:Value->Value->Sem Value}
  (hf:∀v u s2 x y aZ,Inv X ae σ aZ s2->RelV x v->RelV y u->R x y aZ->wpAny (model X.prog X.w) X.A (f v u) Q X.c2 s2) :
  wpAny (model X.prog X.w) X.A (eval a X.env) (fun v df=>wpAny (model X.prog X.w) X.A (eval b X.env) (fun u i6=>wpAny (model X.prog X.w) X.A (f v u) Q X.c2 i6) X.c2 df) X.c2 s:=by
 refine b0 (ax ae s σ H _ J h) fun v s1 ⟨x,H1,bc,bK,bh⟩=>?_
 refine b0 (U ae s1 σ H1 _ bc bh) fun u s2 ⟨y,aZ,cZ,cn,cM⟩=>?_
 exact hf v u s2 x y aZ cZ bK cn cM
theorem EI(aM:dv X (aiw op) r)(ax:b3 X a ta)(U:b3 X b cJ):b3 X (.BinOp a op b pos) (vR r ta cJ):=by
 intro ae s σ H Q J h;exact wpAny_BinOp (Bi ax U J h fun v u s2 x y aZ cZ a0 bx q=>aM ae s2 σ aZ x y v u Q cZ a0 bx q)
theorem Mv{r:V->aI->cY->Prop}(aM:Aw X (unaryOp op) r)(ax:b3 X a ta):b3 X (.UnaryOp op a pos) (abN r ta):=by
 intro ae s σ H Q J h;exact UnaryOp_ (b0 (ax ae s σ H _ J h) fun v s1 ⟨x,H1,bc,bK,bh⟩=>aM ae s1 σ H1 x v Q bc bK bh)
theorem s6{f:Value->Value->Sem Value}{C:Int->Int->Prop}{g:Int->Int->Int}
  (rule:∀(i j:Int)(t u:Tok)(s:ag9)(Q:dc)(E:dc),C i j->Q (.int (g i j) s.toks) { s with toks:=s.toks+1 }->wpAny (model X.prog X.w) X.A (f (.int i t) (.int j u)) Q E s) :
  dv X f (jW C fun i j=>.int (g i j)):=by
 intro ae s σ H x y v u Q J a0 bx h;obtain⟨i,j,rfl,rfl,aA,q⟩:=h;obtain⟨t,rfl⟩:=a0;obtain⟨t',rfl⟩:=bx;exact rule i j t t' s _ _ aA ⟨.int (g i j),H,J.tok _,⟨_,rfl⟩,q⟩
theorem y1{f:Value->Value->Sem Value}{g:Int->Int->Int}
  (rule:∀(i j:Int)(t u:Tok)(s:ag9)(Q:dc)(E:dc),Q (.int (g i j) s.toks) { s with toks:=s.toks+1 }->wpAny (model X.prog X.w) X.A (f (.int i t) (.int j u)) Q E s) :
  dv X f (hn fun i j=>.int (g i j)):=by
 intro ae s σ H x y v u Q J a0 bx h;obtain⟨i,j,rfl,rfl,q⟩:=h;obtain⟨t,rfl⟩:=a0;obtain⟨t',rfl⟩:=bx;exact rule i j t t' s _ _ ⟨.int (g i j),H,J.tok _,⟨_,rfl⟩,q⟩
theorem y0{f:Value->Value->Sem Value}{g:Int->Int->Bool}
  (rule:∀(i j:Int)(t u:Tok)(s:ag9)(Q:dc)(E:dc),Q (.bool (g i j)) s->wpAny (model X.prog X.w) X.A (f (.int i t) (.int j u)) Q E s) :
  dv X f (hn fun i j=>.aB (g i j)):=by
 intro ae s σ H x y v u Q J a0 bx h;obtain⟨i,j,rfl,rfl,q⟩:=h;obtain⟨t,rfl⟩:=a0;obtain⟨t',rfl⟩:=bx;exact rule i j t t' s _ _ ⟨.aB (g i j),H,J,rfl,q⟩
def wt(i j:Int):Prop:=0<=j/\j<=1000000/\i.natAbs<2 ^ 64
def wq(i j:Int):Prop:=(-(2 ^ 64)<i/\i<2 ^ 64)\/(-(2 ^ 64)<j/\j<2 ^ 64)
theorem wq.ok{i j:Int}(h:wq i j):IntMulOk i j:=by
 rcases h with⟨aj,h2⟩ | ⟨aj,h2⟩
 ·exact .of_left (intBits_le_64 aj h2)
 ·exact .of_right (intBits_le_64 aj h2)
theorem ab0(k:Nat):(0:Int)<=2 ^ k:=by
 rw[two_pow_cast];exact Int.natCast_nonneg _
theorem fV:dv X (aiw .Add) (hn fun i j=>.int (i+j)):=y1 fun _ _ _ _ _ _ _ q=>add_int q
theorem s9:dv X (aiw .Sub) (hn fun i j=>.int (i-j)):=y1 fun _ _ _ _ _ _ _ q=>sub_int q
theorem eI:dv X (aiw .Mod) (jW (fun _ j=>0<j) fun i j=>.int (i % j)):=s6 fun i j _ _ _ _ _ aA q=>by
 have aj:(0:Int)<j:=aA;exact mod_int' (by omega) (by rw[Int.fmod_eq_emod_of_nonneg i (by omega)];exact q)
theorem s8:dv X (aiw .Pow) (jW wt fun i j=>.int (i ^ j.toNat)):=s6 fun _ _ _ _ _ _ _ aA q=>pow_int_small aA.1 aA.2.1 aA.2.2 q
theorem YE:dv X (aiw .LShift) (jW wt fun i j=>.int (i*2 ^ j.toNat)):=s6 fun _ _ _ _ _ _ _ aA q=>lshift_int_small aA.1 aA.2.1 aA.2.2 q
theorem YF:dv X (aiw .RShift) (jW (fun _ j=>0<=j) fun i j=>.int (i / 2 ^ j.toNat)):=s6 fun i j _ _ _ _ _ aA q=>
 rshift_int aA (by rw[akP i (ab0 _)];exact q)
theorem L_:dv X (aiw .BitAnd) (hn fun i j=>.int (aiR i j)):=y1 fun _ _ _ _ _ _ _ q=>and_int q
theorem YD:dv X (aiw .BitOr) (hn fun i j=>.int (ake i j)):=y1 fun _ _ _ _ _ _ _ q=>or_int q
theorem ab4{f:Value->Sem Value}{g:Int->Int}
  (rule:∀(i:Int)(t:Tok)(s:ag9)(Q:dc)(E:dc),Q (.int (g i) s.toks) { s with toks:=s.toks+1 }->wpAny (model X.prog X.w) X.A (f (.int i t)) Q E s) :
  Aw X f (M1 fun i=>.int (g i)):=by
 intro ae s σ H x v Q J a0 h;obtain⟨i,rfl,q⟩:=h;obtain⟨t,rfl⟩:=a0;exact rule i t s _ _ ⟨.int (g i),H,J.tok _,⟨_,rfl⟩,q⟩
theorem Of:Aw X (unaryOp .USub) (M1 fun i=>.int (-i)):=ab4 fun _ _ _ _ _ q=>neg_int q
end
section
variable{X:aS}{a b c:Expr}{ta cJ j0:TE}{pos:Pos}
theorem xY{Q:cY}{k hj:Bool}(J:Inv X ae σ H s)(q:Q (.aB k) H)(e:k=hj):gA X ae σ Q (.bool hj) s:=by
 subst e;exact⟨.aB k,H,J,rfl,q⟩
theorem EE:dv X (ahB .Lt) (hn fun i j=>.aB (decide (i<j))):=y0 fun _ _ _ _ _ _ _ q=>lt_int q
theorem hP:dv X (ahB .LtE) (hn fun i j=>.aB (decide (i<=j))):=y0 fun _ _ _ _ _ _ _ q=>le_int q
theorem y3:dv X (ahB .Gt) (hn fun i j=>.aB (decide (j<i))):=y0 fun _ _ _ _ _ _ _ q=>gt_int q
theorem y2:dv X (ahB .GtE) (hn fun i j=>.aB (decide (j<=i))):=y0 fun _ _ _ _ _ _ _ q=>ge_int q
theorem YB:dv X (ahB .In) (fun x y H Q=>∃i j,x=.str i/\y=.str j/\Q (.aB (!(ain j i 0 j.length 1).isEmpty)) H):=by
 intro ae s σ H x y v u Q J a0 bx h;obtain⟨i,j,rfl,rfl,q⟩:=h;obtain⟨t,rfl⟩:=a0;obtain⟨t',rfl⟩:=bx;exact in_str (xY J q rfl)
theorem s7:dv X (ahB .Is) (fun x y H Q=>y=.ba/\Q (.aB (decide (x=.ba))) H):=by
 intro ae s σ H x y v u Q J a0 bx h;obtain⟨rfl,q⟩:=h;cases bx;refine is_none_gen (xY J q ?_);cases x<;>first
  |(cases a0;rfl)
  |(obtain⟨t,rfl⟩:=a0;rfl)
theorem Mb:dv X (ahB .IsNot) (fun x y H Q=>y=.ba/\Q (.aB (!decide (x=.ba))) H):=by
 intro ae s σ H x y v u Q J a0 bx h;obtain⟨rfl,q⟩:=h;cases bx;refine isnot_none_gen (xY J q ?_);cases x<;>first
  |(cases a0;rfl)
  |(obtain⟨t,rfl⟩:=a0;rfl)
theorem YC:dv X (ahB .NotIn) (fun x y H Q=>∃i j,x=.str i/\y=.str j/\Q (.aB (!(!(ain j i 0 j.length 1).isEmpty))) H):=by
 intro ae s σ H x y v u Q J a0 bx h;obtain⟨i,j,rfl,rfl,q⟩:=h;obtain⟨t,rfl⟩:=a0;obtain⟨t',rfl⟩:=bx;exact notIn_str (xY J q rfl)
theorem iG(b:Expr)(h:op≠.In:=by decide)(h2:op≠.NotIn:=by decide):ah8 op b=false:=by
 have aH:(op==CmpOp.In)=false:=by cases op<;>first | rfl | exact absurd rfl h
 have aT:(op==CmpOp.NotIn)=false:=by cases op<;>first | rfl | exact absurd rfl h2
 cases b<;>simp[ah8,aH,aT]
theorem Y0(aM:dv X (ahB op) r)(ax:b3 X a ta)(U:b3 X b cJ)(hm:ah8 op b=false):b3 X (.Compare a [op] [b] pos) (vR r ta cJ):=by
 intro ae s σ H Q J h;exact wpAny_Compare1 (Bi ax U J h fun v u s2 x y aZ cZ a0 bx q=>aM ae s2 σ aZ x y v u Q cZ a0 bx q) hm
noncomputable def vT(t:TE):TT:=fun σ H Q=>t σ H fun x aa=>∃k,x=.aB k/\Q k aa
theorem ZA(aM:dv X (ahB op) r)(ax:b3 X a ta)(U:b3 X b cJ)(hm:ah8 op b=false):hZ X (.Compare a [op] [b] pos) (vT (vR r ta cJ)):=by
 intro ae s σ H Q J h;refine wpAny_isTrue_Compare1 (b0 (ax ae s σ H _ J h) fun v s1 ⟨x,H1,bc,bK,bh⟩=>b0 (U ae s1 σ H1 _ bc bh) fun u s2 ⟨y,aZ,cZ,cn,cM⟩=>
  b0 (aM ae s2 σ aZ x y v u _ cZ bK cn cM) fun c s3 ⟨z,cX,ec,q',k,e,e2⟩=>?_) hm
 subst e;cases q';exact aik ⟨cX,ec,e2⟩
noncomputable def F7(r bq:gE)(ta cJ j0:TE):TE:=fun σ H Q=>ta σ H fun x H1=>cJ σ H1 fun y aZ=>r x y aZ fun z cX=>∃k,z=.aB k/\
 (if k=true then j0 σ cX fun dz fa=>bq y dz fa Q else Q (.aB false) cX)
theorem YZ{op gZ:CmpOp}{r bq:gE}(aM:dv X (ahB op) r)(ef:dv X (ahB gZ) bq)(ax:b3 X a ta)(U:b3 X b cJ)(aA:b3 X c j0)
  (hm:akD [op,gZ] [b,c]=false:=by with_unfolding_all rfl):b3 X (.Compare a [op,gZ] [b,c] pos) (F7 r bq ta cJ j0):=by
 intro ae s σ H Q J h;refine Compare_chain (b0 (ax ae s σ H _ J h) fun v s1 ⟨x,H1,bc,bK,bh⟩=>chain_link (b0 (U ae s1 σ H1 _ bc bh) fun u s2 ⟨y,aZ,cZ,cn,cM⟩=>
  b0 (aM ae s2 σ aZ x y v u _ cZ bK cn cM) fun d s3 ⟨z,cX,ec,q',k,e,e2⟩=>?_)) hm
 subst e;cases q';refine aik ?_
 cases k with
 |false=>exact ite_ff ⟨.aB false,cX,ec,rfl,e2⟩|true=>exact ite_tt (chain_last (b0 (aA ae s3 σ cX _ ec e2) fun dz s4 ⟨jy,fa,jc,vz,th⟩=>ef ae s4 σ fa y jy u dz Q jc cn vz th))
theorem Zy{op gZ:CmpOp}{r bq:gE}(aM:dv X (ahB op) r)(ef:dv X (ahB gZ) bq)(ax:b3 X a ta)(U:b3 X b cJ)(aA:b3 X c j0)
  (hm:akD [op,gZ] [b,c]=false:=by with_unfolding_all rfl):hZ X (.Compare a [op,gZ] [b,c] pos) (vT (F7 r bq ta cJ j0)):=by
 intro ae s σ H Q J h;refine isTrue_chain (b0 (ax ae s σ H _ J h) fun v s1 ⟨x,H1,bc,bK,bh⟩=>test_link (b0 (U ae s1 σ H1 _ bc bh) fun u s2 ⟨y,aZ,cZ,cn,cM⟩=>
  b0 (aM ae s2 σ aZ x y v u _ cZ bK cn cM) fun d s3 ⟨z,cX,ec,q',k,e,e2⟩=>?_)) hm
 subst e;cases q';refine aik ?_
 cases k with
 |false=>
  obtain⟨hj,bE,gu⟩:=e2;cases bE;exact ite_ff ⟨cX,ec,gu⟩
 |true=>
  refine ite_tt (test_last (b0 (aA ae s3 σ cX _ ec e2) fun dz s4 ⟨jy,fa,jc,vz,th⟩=>b0 (ef ae s4 σ fa y jy u dz _ jc cn vz th) fun d' s5 ⟨e',jA,nu,ES,k2,aT,ZQ⟩=>?_));subst aT;cases ES;exact aik ⟨jA,nu,ZQ⟩
theorem u9:(ag5:Nat)<2 ^ 63:=by rw[ahY];decide
theorem kC:dv X (aiw .Add) (fun x y H Q=>∃i j,x=.str i/\y=.str j/\i.length+j.length<=ag5/\Q (.str (i++j)) H):=by
 intro ae s σ H x y v u Q J a0 bx h;obtain⟨i,j,rfl,rfl,aX,q⟩:=h;obtain⟨t,rfl⟩:=a0;obtain⟨t',rfl⟩:=bx;exact add_str (fun t' tk=>⟨.str (i++j),H,J.tok _,⟨_,rfl⟩,q⟩) aX
theorem vals1(r:Vals [x] us):∃u,us=[u]/\RelV x u:=by
 cases r with
 |cons bK cn=>cases cn;exact⟨_,rfl,bK⟩
theorem vals2(r:Vals [x,y] us):∃u dz,us=[u,dz]/\RelV x u/\RelV y dz:=by
 cases r with
 |cons bK cn=>
  cases cn with
  |cons q' vz=>cases vz;exact⟨_,_,rfl,bK,q'⟩
theorem Ie:g7 X (.builtin "abs") (fun xs H Q=>∃i,xs=[.int i]/\Q (.int (if i<0 then -i else i)) H):=by
 intro ae s σ H xs us Q J r h;obtain⟨i,rfl,q⟩:=h;obtain⟨u,rfl,t,rfl⟩:=vals1 r;exact call_abs_int fun u tk=>⟨.int (if i<0 then -i else i),H,J.tok _,⟨_,rfl⟩,q⟩
theorem Ig(aA:X.calm=true):g7 X (.builtin "max") (fun xs H Q=>∃i j,xs=[.int i,.int j]/\Q (.int (if j > i then j else i)) H):=by
 intro ae s σ H xs us Q J r h;obtain⟨i,j,rfl,q⟩:=h;obtain⟨u,dz,rfl,⟨t,rfl⟩,⟨t',rfl⟩⟩:=vals2 r;refine max_two_ints (J.ok.hd aA) fun h' tk k=>⟨_,H,J.kept k,?_,q⟩
 by_cases bV:j > i
 ·rw[if_pos bV,if_pos bV];exact⟨_,rfl⟩
 ·rw[if_neg bV,if_neg bV];exact⟨_,rfl⟩
theorem Bn:g7 X (.type "str") (fun xs H Q=>∃i,xs=[.int i]/\i.natAbs.log2<1920/\Q (.str (toString i)) H):=by
 intro ae s σ H xs us Q J r h;obtain⟨i,rfl,aX,q⟩:=h;obtain⟨u,rfl,t,rfl⟩:=vals1 r;exact P.str_of_int aX ⟨.str _,H,J.tok _,⟨_,rfl⟩,q⟩
end
theorem kQ.some_of(r:kQ (some v) o):∃u,o=some u/\RelV v u:=by
 cases o with
 |none=>exact(show False from r).elim|some u=>exact⟨u,rfl,r⟩
structure O_(K:a4)(C:Addr):Prop where
 agO:W.plainGet K C Str.empty=true
 hd:W.hasDictIn K C=true
 po:W.plainOver K C=true
 zw:W.findIn K (.ref C) "__setattr__"=some (some (.builtin "object.__setattr__"))
structure eh(k:Nat)(A:ahX):Prop where
 hd:A.handled=none
 Cg:A.depth+3*k+5<recursionLimit
 un:A.units+16*k+200<cLine
theorem eh.mono{j k:Nat}(r:eh k A)(h:j<=k):eh j A:=⟨r.hd,by have:=r.Cg;omega,by have:=r.un;omega⟩
theorem eh.deeper{k:Nat}{A:ahX}(r:eh (k+1) A)(env:Env):eh k (A.deeper env):=
 ⟨r.hd,by have:=r.Cg;show A.depth+1+3*k+5 < _;omega,by have:=r.un;show A.units+3+16*k+200 < _;omega⟩
theorem eh.depth{k:Nat}{A:ahX}(r:eh k A):A.depth<recursionLimit:=by have:=r.Cg;omega
theorem eh.units{k:Nat}{A:ahX}(r:eh k A):A.units+64<cLine:=by have:=r.un;omega
noncomputable def abB:f3:=fun _ H Q=>Q [] H
noncomputable def abp(ta:TE)(fi:f3):f3:=fun σ H Q=>ta σ H fun x H1=>fi σ H1 fun xs aZ=>Q (x::xs) aZ
section
variable{X:aS}{e:Expr}{aE:List Expr}{te:TE}{t:f3}{pos:Pos}
theorem q7:g_ X [] abB:=fun _ _ _ _ H Q J h=>akV ⟨[],H,J,.nil,h⟩
theorem m8(ax:b3 X e te)(ay:g_ X aE t)(aQ:ag6 (e::aE) X.env=(false,eval e X.env)::ag6 aE X.env:=by rfl):g_ X (e::aE) (abp te t):=by
 intro pos ae s σ H Q J h;rw[aQ];show wpAny _ _ (spliced ((false,eval e X.env)::ahN pos (ag6 aE X.env))) _ _ s;refine ajR (b0 (ax ae s σ H _ J h) fun u s1 ⟨x,H1,bc,bK,bh⟩=>?_);exact b0 (ay pos ae s1 σ H1 _ bc bh) fun us s2 ⟨xs,aZ,cZ,cn,cM⟩=>⟨x::xs,aZ,cZ,.cons bK cn,cM⟩
noncomputable def abM(t:f3):TE:=fun σ H Q=>t σ H fun xs H1=>xs.length<=ag5/\∀p,H1 p=none->Q (.ref p) (upd H1 p (.tup xs))
noncomputable def abA(t:f3):TE:=fun σ H Q=>t σ H fun xs H1=>xs.length<=ag5/\∀p,H1 p=none->Q (.ref p) (upd H1 p (.lst xs))
theorem EL{wc}(h:g_ X aE t):b3 X (.Tuple aE wc pos) (abM t):=by
 intro ae s σ H Q J bf;refine wpAny_Tuple_spliced (b0 (h pos ae s σ H _ J bf) fun us s1 ⟨xs,H1,bc,r,z,q⟩=>⟨by rw[<-r.length];exact z,?_⟩);have hf:H1 s1.heap.objs.size=none:=bc.bp.fresh (ahg _);refine⟨.ref s1.heap.objs.size,upd H1 s1.heap.objs.size (.tup xs),bc.laid (t':=s1.toks) (fun b u e=>ag8 _ e) (ahg _) ?_,rfl,q _ hf⟩;exact⟨z,us,r,⟨_,aho _ rfl,rfl,_,rfl⟩⟩
theorem EH(h:g_ X aE t):b3 X (.List aE pos) (abA t):=by
 intro ae s σ H Q J bf;refine wpAny_List_spliced (b0 (h pos ae s σ H _ J bf) fun us s1 ⟨xs,H1,bc,r,z,q⟩=>⟨by rw[<-r.length];exact z,?_⟩);have hf:H1 s1.heap.objs.size=none:=bc.bp.fresh (ahg _);refine⟨.ref s1.heap.objs.size,upd H1 s1.heap.objs.size (.lst xs),bc.laid (t':=s1.toks) (fun b u e=>ag8 _ e) (ahg _) ?_,rfl,q _ hf⟩;exact⟨z,us,0,r,aho _ rfl⟩
end
noncomputable abbrev gG:=List V->aI->cY->dH->Prop
noncomputable abbrev j9:=List Env->aI->ag9->dH->Value->ag9->Prop
structure wu(P:ahq)(w:World)(K:a4)(I:br)(base:Heap)(A:ahX)(outer:List Env)(s:ag9)(H:aI):Prop where
 frames:A.frames=some outer
 mod:Mod K I base
 bs:∀b o,base.get? b=some o->s.heap.get? b=some o/\H b=none
 kU:base.objs.size<=s.heap.objs.size
 jJ:s.heap.FunFrames base outer
 nS:∀b∈ez outer,H b=none
 bp:eC P w H s.heap
 bare:ajt s.gens
def cg(outer:List Env)(P:ahq)(w:World)(H:aI)(s:ag9)(Q:cY)(u:Value)(s':ag9):Prop:=
 ∃v aa,s'.os=s.os/\ajt s'.gens/\fC (ez outer) [] H aa s.heap s'.heap/\eC P w aa s'.heap/\RelV v u/\Q v aa
def O8(CX:j9)(outer:List Env)(P:ahq)(w:World)(H:aI)(s:ag9)(Q:cY)(E:dH)(r:Result)(s':ag9):Prop:=
 match r with
 |.ok (.ret u)=>cg outer P w H s Q u s'|.ok _=>False|.error e=>CX outer H s E e s'
structure gB(P:ahq)(w:World)(K:a4)(I:br)(base:Heap)(CX:j9)(k:Nat)(f:Addr)(fd:aiJ)(ps:List Str)(sp:gG):Prop where
 len:∀ar H Q E,sp ar H Q E->ar.length=ps.length
 run:∀(A:ahX)(outer:List Env)(s:ag9)(H:aI)(args:Args)(us:List Value)(ar:List V)(Q:cY)(E:dH),eh k A->wu P w K I base A outer s H->ak7 s fd args (ps.zip us)->Vals ar us->sp ar H Q E->
  ajg (model P w) A (.call (.ref f) args) (O8 CX outer P w H s Q E) s
theorem gB.mono{P:ahq}{w:World}{K:a4}{I:br}{base:Heap}{CX:j9}{j k:Nat}{f:Addr}{fd:aiJ}{ps:List Str}{sp:gG}(F:gB P w K I base CX j f fd ps sp)(h:j<=k) :
  gB P w K I base CX k f fd ps sp:=⟨F.len,fun A outer s H args us ar Q E ay=>F.run A outer s H args us ar Q E (ay.mono h)⟩
theorem gB.imp{P:ahq}{w:World}{K:a4}{I:br}{base:Heap}{CX:j9}{k:Nat}{f:Addr}{fd:aiJ}{ps:List Str}{sp NN:gG}(F:gB P w K I base CX k f fd ps sp)
  (h:∀ar H Q E,NN ar H Q E->sp ar H Q E):gB P w K I base CX k f fd ps NN:=
 ⟨fun ar H Q E q=>F.len ar H Q E (h _ _ _ _ q),fun A outer s H args us ar Q E ay he U bF aQ=>F.run A outer s H args us ar Q E ay he U bF (h _ _ _ _ aQ)⟩
section
variable{X:aS}{ae:c8}{σ:St}{H:aI}{s s':ag9}
theorem Inv.I9(J:Inv X ae σ H s):wu X.prog X.w X.K X.I X.base X.A X.stack s H:=
 ⟨J.ok.frames,J.ok.mod,J.bs,ahL J.ok.kU J.tq,J.stack,J.zD,J.bp,J.bare⟩
theorem Inv.after(J:Inv X ae σ H s)(h:cg X.stack X.prog X.w H s Q u s'):gA X ae σ Q u s':=by
 obtain⟨v,aa,os,bare,un,bp,r,q⟩:=h;obtain⟨gn,g,d,t,YH⟩:=s';obtain rfl:YH=s.os:=os;exact⟨v,aa,J.call (h':=gn) (g':=g) (d':=d) (t':=t) (ch:=[]) un bp bare (fun b z=>absurd z (by simp)),r,q⟩
end
noncomputable def abo(sp:gG)(dvs:List V)(E:dH)(t:f3):TE:=fun σ H Q=>t σ H fun ar H1=>sp (ar++dvs) H1 Q E
def Binds(K:a4)(fd:aiJ)(ps:List Str)(ds:List Value):Prop:=
 ∀(s:ag9)(us:List Value),K.In s.heap->(us++ds).length=ps.length->ak7 s fd ⟨us,[]⟩ (ps.zip (us++ds))
theorem Binds.all{K:a4}{fd:aiJ}{ps:List Str}(h:∀us:List Value,us.length=ps.length->bindArgs fd ⟨us,[]⟩=pure (ps.zip us)):Binds K fd ps []:=fun s us _ ao=>by
 rw[ahl]at ao ⊢;exact .of_eq (h us ao)
def Passes(CX:j9)(X:aS)(E:dH):Prop:=∀(ae:c8)(σ:St)(H:aI)(s:ag9)(e:Value)(s':ag9),Inv X ae σ H s->CX X.stack H s E e s'->X.c2 e s'
section
variable{X:aS}{CX:j9}{k:Nat}{f:Addr}{fd:aiJ}{ps:List Str}{sp:gG}{dvs:List V}{ds:List Value}{E:dH}{x:Str}{p pos:Pos}{e:Expr}{aE:List Expr}{t:f3}
theorem E5{ae:c8}{σ:St}{H:aI}{s:ag9}{Q:cY}{us:List Value}{ar:List V}(F:gB X.prog X.w X.K X.I X.base CX k f fd ps sp)(ay:eh k X.A)(U:Binds X.K fd ps ds)(hd:Vals dvs ds)(av:Passes CX X E)
  (J:Inv X ae σ H s) (r:Vals ar us) (h:sp (ar++dvs) H Q E):wpAny (model X.prog X.w) X.A (call (.ref f) us) (gA X ae σ Q) X.c2 s:=by
 have cn:Vals (ar++dvs) (us++ds):=r.append hd;have ao:(us++ds).length=ps.length:=by rw[<-cn.length];exact F.len _ _ _ _ h
 refine wpAny_call (alc (F.run X.A X.stack s H ⟨us,[]⟩ (us++ds) (ar++dvs) Q E ay J.I9 (U s us J.gO ao) cn h) fun r s' bf=>?_)
 cases r with
 |error e=>exact av ae σ H s e s' J bf|ok bO=>
  cases bO with
  |ret u=>exact J.after bf|next=>exact aie bf
  |brk=>exact aie bf|cont=>exact aie bf
theorem Mo(F:gB X.prog X.w X.K X.I X.base CX k f fd ps sp)(ay:eh k X.A)(a':dC X x)(hm:X.I x=some (.ref f))(aL:ald X.K (.ref f)=true)(U:Binds X.K fd ps ds)(hd:Vals dvs ds)(av:Passes CX X E)
  (ax:g_ X (e::aE) t) (da:(x==("__debug__":Str))=false:=by decide) (he:ag6 (e::aE) X.env=(false,eval e X.env)::ag6 aE X.env:=by rfl) (du:(ahN pos (ag6 aE X.env)).any (·.1)=false:=by rfl) :
  b3 X (.Call (.Name x p) (e::aE) [] pos) (abo sp dvs E t):=by
 intro ae s σ H Q J h;refine aiU (sD J a' hm ?_ da);refine ale (h₀:=X.base) J.ok.mod.qL aL (b0 (ax pos ae s σ H _ J h) fun us s1 ⟨ar,H1,bc,r,q⟩=>⟨bc.gO,?_⟩) he du;exact E5 F ay U hd av bc r q
end
structure c5(N P:List Str)(sc:Scope):Prop where
 kind:sc.kind=.function:=by rfl
 co:sc.isCoroutine=false:=by rfl
 gen:sc.isGenerator=false:=by rfl
 bW:N.Nodup:=by decide +kernel
 pre:N.take P.length=P:=by rfl
 par:∀x∈P,sc.names.lookup x=some .local\/sc.names.lookup x=some .cell:=by decide +kernel
 X4:∀y∈sc.names,y.2≠.free:=by decide +kernel
theorem HW{kindOf:Str->Option ajp}{x:Str}:∀{binds:List (Str×Value)}{m:br},(∀v,(x,v)∉binds)->bindL kindOf binds m x=m x
 |[],_,_=>rfl|(n,v)::r,m,h=>by
  unfold bindL;rw[HW fun w hw=>h w (ahc _ hw)];split
  ·have:x≠n:=by rintro rfl;exact h v ahb
   simp[this]
  ·rfl
theorem HU{kindOf:Str->Option ajp}{x:Str}:∀{binds:List (Str×Value)}{m:br},(∀v,(x,v)∉binds)->bindC kindOf binds m x=m x
 |[],_,_=>rfl|(n,v)::r,m,h=>by
  unfold bindC;rw[HU fun w hw=>h w (ahc _ hw)];split
  ·rfl
  ·have:x≠n:=by rintro rfl;exact h v ahb
   simp[this]
theorem HV{kindOf:Str->Option ajp}:∀{P:List Str}{ar:List Value}{i:Nat}{m:br},P.Nodup->P[i]? = some x->ar[i]? = some v->kindOf x=some .local->
  bindL kindOf (P.zip ar) m x=some v
 | [],_,_,_,_,h,_,_=>by simp at h| _::_,[],_,_,_,_,h,_=>by simp at h|p::P,w::ar,0,m,bW,aj,h2,aL=>by
  simp at aj h2;subst aj;subst h2;show bindL kindOf ((p,w)::P.zip ar) m p=_;unfold bindL;rw[HW fun v bF=>(ajk.mp bW).1 (alx bF).1,if_pos aL];simp
 |p::P,w::ar,i+1,m,bW,aj,h2,aL=>by
  show bindL kindOf ((p,w)::P.zip ar) m x=_;unfold bindL;exact HV (i:=i) (ajk.mp bW).2 (by simpa using aj) (by simpa using h2) aL
theorem HT{kindOf:Str->Option ajp}:∀{P:List Str}{ar:List Value}{i:Nat}{m:br},P.Nodup->P[i]? = some x->ar[i]? = some v->kindOf x≠some .local->
  bindC kindOf (P.zip ar) m x=some v
 | [],_,_,_,_,h,_,_=>by simp at h| _::_,[],_,_,_,_,h,_=>by simp at h|p::P,w::ar,0,m,bW,aj,h2,aL=>by
  simp at aj h2;subst aj;subst h2;show bindC kindOf ((p,w)::P.zip ar) m p=_;unfold bindC;rw[HU fun v bF=>(ajk.mp bW).1 (alx bF).1,if_neg aL];simp
 |p::P,w::ar,i+1,m,bW,aj,h2,aL=>by
  show bindC kindOf ((p,w)::P.zip ar) m x=_;unfold bindC;exact HT (i:=i) (ajk.mp bW).2 (by simpa using aj) (by simpa using h2) aL
noncomputable def start(N:List Str)(ar:List V):St:=ar.map some++ahu (N.length-ar.length) none
noncomputable def gJ(CX:j9)(P:ahq)(w:World)(K:a4)(I:br)(base:Heap)(N:List Str)(qual:Str)(scope:Scope)(f:Addr)(cd:Value)(A:ahX)(outer:List Env)(s:ag9)(H:aI)(E:dH):aS where
 prog:=P
 w:=w
 K:=K
 I:=I
 base:=base
 A:=A.deeper (akE qual scope s.heap.objs.size f cd)
 N:=N
 gv:=s
 H₀:=H
 env:=akE qual scope s.heap.objs.size f cd
 outer:=outer
 stack:=akE qual scope s.heap.objs.size f cd::outer
 ex:=[]
 calm:=true
 fn:=fun _=>true
 m_:=[]
 c2:=fun e s'=>wpAny (model P w) (A.deeper (akE qual scope s.heap.objs.size f cd)) (ak8 (akE qual scope s.heap.objs.size f cd) e) (fun _ E6=>CX outer H s E e E6) (fun bE E6=>CX outer H s E bE E6) s'
theorem Ik{sc:Scope}(h:sc.names.lookup x=some .cell):∃c,(cellsFrom n sc.names []).lookup x=some c:=by
 have q:=W.cellsFrom_some sc.names n [] (.inl h);exact alf.mp q
theorem VL{CX:j9}{P:ahq}{w:World}{K:a4}{I:br}{base:Heap}{N ps:List Str}{qual:Str}{scope:Scope}{f:Addr}{cd:Value}{A:ahX}{outer:List Env}{s s1:ag9}{H:aI}{E:dH}{us:List Value}{ar:List V}
  (S:c5 N ps scope) (hd:A.handled=none) (ep:wu P w K I base A outer s H) (ao:ar.length=ps.length) (r:Vals ar us)
  (x:InCallC s s.heap.objs.size (bindL (akE qual scope s.heap.objs.size f cd).kindOf (ps.zip us) fun _=>none) (cellsFrom (s.heap.objs.size+1) scope.names []) (bindC (akE qual scope s.heap.objs.size f cd).kindOf (ps.zip us) fun _=>none) s1) :
  Inv (gJ CX P w K I base N qual scope f cd A outer s H E) [] (start N ar) H s1:=by
 have du:ps.length<=N.length:=by have:=congrArg ai5 S.pre;rw[ah9]at this;omega
 obtain⟨aj,tk,rfl,aL⟩:=x.done;have vi:∀b:Addr,b∉(gJ CX P w K I base N qual scope f cd A outer s H E).ex:=fun b z=>absurd (show b∈([]:List Addr)from z) (by simp)
 refine⟨⟨ep.mod,S.kind,rfl,rfl,ahg _,fun y z c aj h2=>?_,fun y bo=>?_,fun y c _ h=>?_,fun _=>hd,Around.frames_deeper ep.frames,.inr ⟨rfl,rfl⟩,fun b z=>absurd z (vi b),ep.bs,ep.kU,fun b _ _=>vi b,fun b z=>absurd z (vi b),ep.jJ,ep.nS⟩,
  rfl,ep.bare,fC.kept aL,⟨_,x.toInCall.ns,fun i y v aj h2 bz=>?_⟩,fun y c h=>⟨_,x.cell y c h⟩,ep.bp.fresh (ahg _),fun y c h=>?_,fun p aP=>absurd (show p∈([]:c8)from aP) (by simp),ep.bp.kept aL,?_⟩
 ·exact name_of_addr x.apart (aix aj) (aix h2)
 ·have bo:scope.names.lookup y=some .cell\/scope.names.lookup y=some .free:=bo
  rcases bo with bo | bo
  ·exact Ik bo
  ·exact absurd rfl (S.X4 _ (aix bo))
 ·exact ahM (x.above y c (aix h))
 ·have aC:i<ar.length:=by
   unfold start at h2
   by_cases aC:i<ar.length
   ·exact aC
   ·rw[ah4 (by simpa using aC)]at h2
    rw[aiG]at h2;split at h2<;>cases h2
  have ax:ar[i]? = some v:=by
   unfold start at h2;rw[ahF (by simpa using aC),ahA]at h2
   cases e:ar[i]? with
   |none=>rw[e]at h2;cases h2
   |some a=>rw[e]at h2;cases h2;rfl
  obtain⟨u,a_,bZ⟩:=r.get ax;have aP:ps[i]? = some y:=by
   rw[<-S.pre,List.getElem?_take_of_lt (by omega)];exact aj
  have LI:ps.Nodup:=by rw[<-S.pre];exact S.bW.sublist (List.take_sublist _ _)
  refine⟨u,bZ,?_⟩;rcases S.par y (ahO aP)with k | k
  ·exact .inl ⟨k,HV LI aP a_ k⟩
  ·obtain⟨c,e⟩:=Ik (n:=s.heap.objs.size+1) k
   refine .inr ⟨.inl k,c,e,?_⟩;have q:=x.cell y c e;rw[HT LI aP a_ (by show scope.names.lookup y≠_;rw[k];decide)]at q;exact q
 ·exact ep.bp.fresh (ahM (x.above y c (aix h)))
 ·unfold start
  show _=N.length;rw[ag3,ag4,ahR];omega
theorem Jl{CX:j9}{P:ahq}{w:World}{K:a4}{I:br}{base:Heap}{k:Nat}{f:Addr}{name qual:Str}{params:Arguments}{body:List Stmt}{scope:Scope}{xu d5 doc pm bU c3 iI:Value}{an hO:Option Addr}
  {kD:Array (Option Value)}{N ps:List Str}{sp:gG}(lk:K.lookup f=some ⟨iI,hO,.func (akF name qual params body scope xu d5 doc pm an bU c3),kD⟩) (dN:W.codeIn K bU qual=true) (S:c5 N ps scope)
  (len:∀ar H Q E,sp ar H Q E->ar.length=ps.length)
  (Dj:∀(A:ahX)(outer:List Env)(s:ag9)(H:aI)(ar:List V)(Q:cY)(E:dH),eh k (A.deeper (akE qual scope s.heap.objs.size f bU))->sp ar H Q E->
   ∃t,hA (gJ CX P w K I base N qual scope f bU A outer s H E) body t/\t { a8:=fun _ aa=>Q .ba aa,cA:=Q } (start N ar) H) :
  gB P w K I base CX (k+1) f (akF name qual params body scope xu d5 doc pm an bU c3) ps sp:=by
 refine⟨len,fun A outer s H args us ar Q E ay ep U r hM=>?_⟩;have ao:=len _ _ _ _ hM;have a5:K.In s.heap:=ep.mod.qL.keeps fun b o e=>(ep.bs b o e).1
 have lim:s.heap.NoLimit:=ep.mod.nolimit.keeps fun b o e=>(ep.bs b o e).1
 have U5:∀y∈ps.zip us,scope.names.lookup y.1=some .local\/(scope.names.lookup y.1=some .cell/\((cellsFrom (s.heap.objs.size+1) scope.names []).lookup y.1).isSome=true):=fun⟨n,v⟩ bo=>by
  rcases S.par n (alx bo).1 with q | q
  ·exact .inl q
  ·exact .inr ⟨q,W.cellsFrom_some _ _ _ (.inl q)⟩
 refine codeAny_call_function ay.depth (a5 _ _ lk) rfl S.co S.gen rfl (W.codeRec_of a5 dN) (U _ _ _ _ ?_);refine wpAny_newFunctionEnv_cells S.kind U5 fun env he s1 x=>?_
 subst he;refine⟨lim.keeps x.toInCall.keep,codeAny_func ?_⟩;obtain⟨t,bG,bf⟩:=Dj A outer s H ar Q E (ay.deeper _) hM;have J:Inv (gJ CX P w K I base N qual scope f bU A outer s H E) [] (start N ar) H s1:=VL S ay.hd ep ao r x;refine ahZ (bG [] s1 (start N ar) H _ J bf) (fun bO s' aQ=>?_) fun e s' aQ=>aQ
 have fin:∀{σ':St}{aa:aI}{v:V}{u:Value},Inv (gJ CX P w K I base N qual scope f bU A outer s H E) [] σ' aa s'->RelV v u->Q v aa->cg outer P w H s Q u s':=
  fun{σ' aa v u} b1 bZ q=>⟨v,aa,b1.os,b1.bare,b1.base,b1.bp,bZ,q⟩
 cases bO with
 |ret u=>
  obtain⟨v,σ',aa,b1,bZ,q⟩:=aQ;exact fin b1 bZ q
 |next=>
  obtain⟨σ',aa,b1,q⟩:=aQ;exact fin (v:=V.ba) (u:=ahT) b1 rfl q
 |brk=>
  obtain⟨_,_,_,q⟩:=aQ;exact aie q
 |cont=>
  obtain⟨_,_,_,q⟩:=aQ;exact aie q
section
variable{X:aS}{x:Str}{p pos:Pos}{e:Expr}{aE:List Expr}{t:f3}{id T:String}{r:List V->aI->cY->Prop}
noncomputable def F6(r:List V->aI->cY->Prop)(t:f3):TE:=fun σ H Q=>t σ H fun ar H1=>r ar H1 Q
theorem EG(aA:g7 X (.builtin id) r)(a':dC X x)(hm:X.I x=none)(bF:ahK x=some (.builtin id))(ax:g_ X (e::aE) t)(aR:x≠"__name__":=by decide)(da:(x==("__debug__":Str))=false:=by decide)
  (he:ag6 (e::aE) X.env=(false,eval e X.env)::ag6 aE X.env:=by rfl) (du:(ahN pos (ag6 aE X.env)).any (·.1)=false:=by rfl):b3 X (.Call (.Name x p) (e::aE) [] pos) (F6 r t):=by
 intro ae s σ H Q J h;refine aiU (u6 J a' hm bF ?_ aR da);exact PyProof.Rows.callWith_builtin1 (b0 (ax pos ae s σ H _ J h) fun us s1 ⟨ar,H1,bc,bK,bh⟩=>aA ae s1 σ H1 ar us Q bc bK bh) he du
theorem Mp(aA:g7 X (.type T) r)(a':dC X x)(hm:X.I x=none)(bF:ahK x=some (.type T))(ax:g_ X (e::aE) t)(aR:x≠"__name__":=by decide)(da:(x==("__debug__":Str))=false:=by decide)
  (he:ag6 (e::aE) X.env=(false,eval e X.env)::ag6 aE X.env:=by rfl) (du:(ahN pos (ag6 aE X.env)).any (·.1)=false:=by rfl):b3 X (.Call (.Name x p) (e::aE) [] pos) (F6 r t):=by
 intro ae s σ H Q J h;refine aiU (u6 J a' hm bF ?_ aR da);exact ajA (b0 (ax pos ae s σ H _ J h) fun us s1 ⟨ar,H1,bc,bK,bh⟩=>aA ae s1 σ H1 ar us Q bc bK bh) he du
end
end ak
namespace cS
open PySem PyProof.Rows
section
variable{prog:ahq}{w:World}{A:ahX}{E:dc}{s:ag9}
theorem Q3{t b:Addr}{ar ws:List Value}{Q:dc}(bG:IsTup s.heap t ar.toArray)(U:IsTup s.heap b ws.toArray)(bF:ar≠[])
  (aj:ws=[]->Q (.ref t) s) (h2:ws≠[]->Q (.ref s.heap.objs.size) { s with heap:=s.heap.push { cls:=.type "tuple",data:=.seq (ar++ws).toArray } })
  (hsz:ar.length+ws.length<=ag5):wpAny (model prog w) A (aiw .Add (.ref t) (.ref b)) Q E s:=by
 obtain⟨⟨cls,dd,data,c6⟩,aM,aA,n,hd⟩:=id bG;obtain⟨⟨RU,xO,data2,nc⟩,qE,qx,lr,hd2⟩:=id U;simp only at aA hd qx hd2;subst aA hd qx hd2;have e:ar.toArray++ws.toArray=(ar++ws).toArray:=by simp
 by_cases hw:ws=[]
 ·exact concat_meets ⟨_,aM,rfl⟩ ⟨_,qE,rfl⟩ alg seq_tuple_add aj6 aj2 (ajS _ _)
   (tuple_addW1 t b ar.toArray ws.toArray n lr dd xO c6 nc (by simpa using bF) (by simp[hw])) ⟨aM,qE,aj hw⟩
 ·refine concat_meets ⟨_,aM,rfl⟩ ⟨_,qE,rfl⟩ alg seq_tuple_add aj6 aj2 (ajS _ _)
   (tuple_addW2 t b ar.toArray ws.toArray n lr dd xO c6 nc (by simpa using bF) (by simpa using hw) (by rw[ahk,ahk];exact hsz)) ⟨aM,qE,?_⟩
  rw[e];exact h2 hw
noncomputable def ct(n d:Nat):Option Int->Nat
 |none=>d|some v=>if v<0 then(v+(n:Int)).toNat else min v.toNat n
theorem zf(n d:Nat):ct n d none=d:=rfl
theorem pQ(n d k:Nat):ct n d (some (k:Int))=min k n:=by
 show(if(k:Int)<0 then((k:Int)+(n:Int)).toNat else min (k:Int).toNat n)=min k n;rw[if_neg (by omega),akW]
theorem aav(n d:Nat)(hd:d<=n)(o:Option Int):ct n d o<=n:=by
 cases o with
 |none=>exact hd|some v=>
  show(if v<0 then(v+(n:Int)).toNat else min v.toNat n)<=n
  by_cases bF:v<0
  ·rw[if_pos bF];omega
  ·rw[if_neg bF];exact Nat.min_le_right _ _
theorem Ip(v:Int)(n d:Nat):(if v<0 then max (v+(n:Int)) 0 else min v (n:Int))=((ct n d (some v):Nat):Int):=by
 show(if v<0 then max (v+(n:Int)) 0 else min v (n:Int))=(((if v<0 then(v+(n:Int)).toNat else min v.toNat n):Nat):Int)
 by_cases bF:v<0
 ·simp only[if_pos bF];omega
 ·simp only[if_neg bF];omega
theorem PF(lo aC:Option Int)(n:Nat):ajP lo aC 1 (n:Int)=(((ct n 0 lo:Nat):Int),((ct n n aC:Nat):Int)):=by
 have aj:¬((1:Int)<0):=by omega
 unfold ajP;simp only[aj,if_false];refine Prod.ext ?_ ?_
 ·cases lo with
  |none=>rfl|some v=>exact Ip v n 0
 ·cases aC with
  |none=>rfl|some v=>exact Ip v n n
theorem Zn(i j:Nat):ai2 (i:Int) (j:Int) 1=j-i:=by
 unfold ai2;have aj:(1:Int) > 0:=by omega
 simp only[aj,if_true,Int.ediv_one];split<;>omega
theorem NJ{o:Option Int}{Q:Option Int->ag9->Prop}(p:aj7 v o)(h:Q o s):wpAny (model prog w) A (Builtin.Slice.slicePartIndex v) Q E s:=by
 cases p with
 |none=>exact slicePart_none h|int i t=>exact slicePart_int h
theorem NI{c6:Addr}{gd gf:Value}{lo aC:Option Int}{n:Nat}{Q:Int×Int×Nat->ag9->Prop}(aQ:s.heap.IsSliceOf c6 gd gf .none)(dp:aj7 gd lo)(pu:aj7 gf aC)
  (h:Q (((ct n 0 lo:Nat):Int),1,ct n n aC-ct n 0 lo) s):wpAny (model prog w) A (akQ (.ref c6) (pure (n:Int))) Q E s:=by
 obtain⟨os,qG,x',qA⟩:=id aQ;unfold akQ Builtin.Slice.sliceFields;refine ag2 (ag2 (ahQ qG qA (x:=gd) rfl (ag2 (ahQ qG qA (x:=gf) rfl (ag2 (ahQ qG qA (x:=.none) rfl (ahh ?_)))))));refine ag2 (slicePart_none ?_);show wpAny _ _ (if((1:Int)==0)=true then _ else _) _ _ s;rw[if_neg (by decide)];refine ag2 (NJ dp (ag2 (NJ pu (ag2 (ahh ?_)))));show wpAny _ _ (match ajP lo aC 1 (n:Int)with | (lo,aC)=>pure (lo,(1:Int),ai2 lo aC 1)) _ _ s;rw[PF lo aC n];show wpAny _ _ (pure (((ct n 0 lo:Nat):Int),(1:Int),ai2 ((ct n 0 lo:Nat):Int) ((ct n n aC:Nat):Int) 1)) _ _ s;rw[Zn];exact ahh h
theorem Zf(xs:Array Value)(i k:Nat):((ahU k).filterMap fun(m:Nat)=>xs[((i:Int)+(m:Int)*1).toNat]?).toArray=((xs.toList.drop i).take k).toArray:=by
 have e:(fun(m:Nat)=>xs[((i:Int)+(m:Int)*1).toNat]?)=fun m=>xs[i+m]?:=by
  funext m
  have:((i:Int)+(m:Int)*1).toNat=i+m:=by omega
  rw[this]
 rw[e];have:=pick_run xs i k;rw[List.filterMap_map]at this;have aT:((fun x=>xs[x]?)∘fun x=>i+x)=fun m=>xs[i+m]?:=rfl
 rw[aT]at this;rw[this]
theorem TP{t c6:Addr}{items:Array Value}{gd gf:Value}{lo aC:Option Int}{Q:dc}(bG:IsTup s.heap t items)(aQ:s.heap.IsSliceOf c6 gd gf .none)(dp:aj7 gd lo)(pu:aj7 gf aC)
  (hw:¬(ct items.size 0 lo=0/\ct items.size items.size aC=items.size))
  (h:Q (.ref s.heap.objs.size) { s with heap:=s.heap.push { cls:=.type "tuple",data:=.seq ((items.toList.drop (ct items.size 0 lo)).take (ct items.size items.size aC-ct items.size 0 lo)).toArray } })
  (hsz:items.size<=ag5):wpAny (model prog w) A (ajX (.ref t) (.ref c6)) Q E s:=by
 have yi:sizeOk (.seq ((items.toList.drop (ct items.size 0 lo)).take (ct items.size items.size aC-ct items.size 0 lo)).toArray):=by
  show((items.toList.drop (ct items.size 0 lo)).take (ct items.size items.size aC-ct items.size 0 lo)).toArray.size<=ag5;rw[ahk,ah9,ahz,aiv];omega
 have bV:ct items.size items.size aC<=items.size:=aav _ _ (ahg _) aC;obtain⟨os,qG,x',qA⟩:=id aQ;have C4:s.TypeIs (.ref c6) "slice":=⟨os,qG,x'⟩;unfold ajX
 try with_reducible refine wpAny_holding ?_
 first | refine ag2 (ahh ?_) | skip
 refine ag2 (wpAny_sequenceKey bG.typeIs (by decide) ?_);refine ag2 (aiH (name:=ah2 "__getitem__") bG.typeIs aia
  (ajb aia bG.typeIs entry_tuple_getitem ?_ (args_tuple_getitem _ _)))
 show wpAny _ _ (akR (.ref t) >>= _) _ _ s;refine ag2 (tupleItemsOf_ bG ?_);refine ag2 (wpAny_typeOf C4 ?_);rw[if_pos (by decide)];refine ag2 (NI aQ dp pu ?_);have Vb:¬((((ct items.size 0 lo:Nat):Int)==0&&(1:Int)==1&&(ct items.size items.size aC-ct items.size 0 lo)==items.size)=true):=by
  intro q;rw[ahn,ahn]at q;have bh:((ct items.size 0 lo:Nat):Int)=0:=eq_of_beq q.1.1;have cM:ct items.size items.size aC-ct items.size 0 lo=items.size:=eq_of_beq q.2;exact hw ⟨by omega,by omega⟩
 show wpAny _ _ (if(((ct items.size 0 lo:Nat):Int)==0&&(1:Int)==1&&(ct items.size items.size aC-ct items.size 0 lo)==items.size)=true then _ else _) _ _ s;rw[if_neg Vb,Zf]
 first
  |exact ag2 (m:=ajc _) (aiu (ahh ⟨_,rfl,ahh h⟩) yi)
  |exact ag2 (m:=ajc _) (aiu (ag2 (ahh (ahh ⟨_,rfl,ahh h⟩))) yi)
  |exact ag2 (ag2 (m:=ajc _) (aiu (ahh (ahh ⟨_,rfl,ahh h⟩)) yi))
  |exact ag2 (ag2 (m:=ajc _) (aiu (ahh ⟨_,rfl,ahh h⟩) yi))
end
end cS
namespace ak
open PySem PySem.Spec PyProof.Rows
noncomputable abbrev dR:=St->aI->(Option Int->aI->Prop)->Prop
def tP(X:aS)(e:Option Expr)(t:dR):Prop:=
 ∀(ae:c8)(s:ag9)(σ:St)(H:aI)(Q:Option Int->aI->Prop),Inv X ae σ H s->t σ H Q->
  wpAny (model X.prog X.w) X.A (evalPart e X.env) (fun u s'=>∃o aa,Inv X ae σ aa s'/\aj7 u o/\Q o aa) X.c2 s
noncomputable def abC:dR:=fun _ H Q=>Q none H
noncomputable def abH(t:TE):dR:=fun σ H Q=>t σ H fun x H1=>∃i,x=.int i/\Q (some i) H1
section
variable{X:aS}{e:Expr}{te:TE}{lo aC:Option Expr}{gw zL:dR}{pos cR:Pos}
theorem Zo:tP X none abC:=by
 intro ae s σ H Q J h;rw[evalPart_none];exact ahh ⟨none,H,J,.none,h⟩
theorem Zp(h:b3 X e te):tP X (some e) (abH te):=by
 intro ae s σ H Q J hw;rw[evalPart_some];refine b0 (h ae s σ H _ J hw) fun u s1 ⟨x,H1,bc,bK,bh⟩=>?_
 obtain⟨i,rfl,q⟩:=bh;obtain⟨t,rfl⟩:=bK;exact⟨some i,H1,bc,.int i t,q⟩
def nD(X:aS)(r:V->Option Int->Option Int->aI->cY->Prop):Prop:=
 ∀(ae:c8)(s:ag9)(σ:St)(H:aI)(x:V)(v gd gf:Value)(lo aC:Option Int)(c6:Addr)(Q:cY),Inv X ae σ H s->RelV x v->s.heap.IsSliceOf c6 gd gf .none->aj7 gd lo->aj7 gf aC->r x lo aC H Q->
  ∃T id,typeLookup (.type T) "__getitem__"=pure (some (.builtin id))/\s.TypeIs v T/\wpAny (model X.prog X.w) X.A (ajX v (.ref c6)) (gA X ae σ Q) X.c2 s
theorem nD.or{r bq:V->Option Int->Option Int->aI->cY->Prop}(h:nD X r)(h':nD X bq):nD X (fun x lo aC H Q=>r x lo aC H Q\/bq x lo aC H Q):=by
 intro ae s σ H x v gd gf lo aC c6 Q J a0 aQ dp pu q;rcases q with q | q
 ·exact h ae s σ H x v gd gf lo aC c6 Q J a0 aQ dp pu q
 ·exact h' ae s σ H x v gd gf lo aC c6 Q J a0 aQ dp pu q
noncomputable def abK(r:V->Option Int->Option Int->aI->cY->Prop)(te:TE)(gw zL:dR):TE:=fun σ H Q=>te σ H fun x H1=>gw σ H1 fun l aZ=>zL σ aZ fun u cX=>r x l u cX Q
theorem EJ{r:V->Option Int->Option Int->aI->cY->Prop}(ay:nD X r)(he:b3 X e te)(ao:tP X lo gw)(a_:tP X aC zL):b3 X (.Subscript e (.Slice lo aC none cR) pos) (abK r te gw zL):=by
 intro ae s σ H Q J h;refine Subscript_ (b0 (he ae s σ H _ J h) fun v s1 ⟨x,H1,bc,bK,bh⟩=>?_);refine wpAny_Slice (b0 (ao ae s1 σ H1 _ bc bh) fun gd s2 ⟨l,aZ,cZ,dp,cM⟩=>b0 (a_ ae s2 σ aZ _ cZ cM) fun gf s3 ⟨u,cX,ec,pu,e2⟩=>?_);rw[evalPart_none];refine ahh ?_;have jc:Inv X ae σ cX { s3 with heap:=s3.heap.push { cls:=.type "slice",data:=.fields #[gd,gf,.none] } }:=ec.kept (t':=s3.toks) fun b cL q=>ag8 _ q
 obtain⟨T,id,dn,bG,a'⟩:=ay ae { s3 with heap:=s3.heap.push { cls:=.type "slice",data:=.fields #[gd,gf,.none] } } σ cX x v gd gf l u s3.heap.objs.size Q jc bK (Heap.IsSliceOf.new ..) dp pu e2;show wpAny (model X.prog X.w) X.A (subscriptTail e (.Slice lo aC none cR) v (.ref s3.heap.objs.size)) (gA X ae σ Q) X.c2 { s3 with heap:=s3.heap.push { cls:=.type "slice",data:=.fields #[gd,gf,.none] } };exact tail_any (ops:=[.ref s3.heap.objs.size,v]) bG dn a' (by with_unfolding_all rfl)
noncomputable def oU(xs:List V)(lo aC:Option Int):List V:=(xs.drop (cS.ct xs.length 0 lo)).take (cS.ct xs.length xs.length aC-cS.ct xs.length 0 lo)
theorem IA(xs:List V)(lo aC:Option Int):(oU xs lo aC).length<=xs.length:=by
 unfold oU;rw[ah9,ahz];omega
noncomputable def Z3(K:a4):V->Option Int->Option Int->aI->cY->Prop:=fun x lo aC H Q=>∃a xs,x=.ref a/\dG K H a xs/\
 ¬(cS.ct xs.length 0 lo=0/\cS.ct xs.length xs.length aC=xs.length)/\∀p,H p=none->Q (.ref p) (upd H p (.tup (oU xs lo aC)))
theorem NH:nD X (Z3 X.K):=by
 intro ae s σ H x v gd gf lo aC c6 Q J a0 aQ dp pu h;obtain⟨a,xs,rfl,av,hw,q⟩:=h;cases a0;obtain⟨its,r,bG,aX⟩:=J.tuple av;have hlen:its.toArray.size=xs.length:=by rw[ahk];exact r.length.symm
 refine⟨"tuple",_,aia.lookup,bG.typeIs,?_⟩;refine cS.TP bG aQ dp pu (by rw[hlen];exact hw) ?_ (by rw[hlen];exact aX);rw[hlen];refine⟨.ref s.heap.objs.size,_,J.laid (t':=s.toks) (o:=.tup (oU xs lo aC)) (fun b cL q=>ag8 _ q) (ahg _) ?_,rfl,q _ (J.bp.fresh (ahg _))⟩;exact⟨ahL (IA xs lo aC) aX,_,(r.drop (cS.ct xs.length 0 lo)).take (cS.ct xs.length xs.length aC-cS.ct xs.length 0 lo),IsTup.new _ _⟩
noncomputable def ZZ(K:a4):gE:=fun x y H Q=>∃a b xs ys,x=.ref a/\y=.ref b/\dG K H a xs/\dG K H b ys/\xs≠[]/\xs.length+ys.length<=ag5/\
 (ys=[]->Q (.ref a) H)/\(ys≠[]->∀p,H p=none->Q (.ref p) (upd H p (.tup (xs++ys))))
theorem Vals.Em(r:Vals xs us):us=[]↔xs=[]:=by
 cases r with
 |nil=>simp|cons _ _=>simp
theorem Yz:dv X (aiw .Add) (ZZ X.K):=by
 intro ae s σ H x y v u Q J a0 bx h;obtain⟨a,b,xs,ys,rfl,rfl,ax,U,av,aX,bh,cM⟩:=h;cases a0;cases bx;obtain⟨its,bK,dy,_⟩:=J.tuple ax;obtain⟨mV,cn,cR,_⟩:=J.tuple U;refine cS.Q3 dy cR (fun z=>av (bK.Em.mp z)) (fun z=>⟨.ref a,H,J,rfl,bh (cn.Em.mp z)⟩) (fun z=>?_) (by rw[<-bK.length,<-cn.length];exact aX);refine⟨.ref s.heap.objs.size,_,J.laid (t':=s.toks) (o:=.tup (xs++ys)) (fun b cL q=>ag8 _ q) (ahg _) ?_,rfl,cM (fun w=>z (cn.Em.mpr w)) _ (J.bp.fresh (ahg _))⟩;exact⟨by rw[ag3];exact aX,_,bK.append cn,IsTup.new _ _⟩
end
noncomputable def nY(n:Nat)(i:Int):Option Nat:=if 0<=i then(if i<n then some i.toNat else none)else if -(n:Int)<=i then some (i+n).toNat else none
noncomputable def d7{α:Type}(xs:List α)(i:Int):Option α:=(nY xs.length i).bind fun j=>xs[j]?
theorem V1{i:Int}(h:nY n i=some j):seqIndex? i n=some j/\j<n/\-(n:Int)<=i/\i<n:=by
 unfold nY at h
 by_cases h0:0<=i
 ·rw[if_pos h0]at h
  by_cases aj:i<n
  ·rw[if_pos aj]at h
   have e:i.toNat=j:=ahx h;exact⟨by rw[seqIndex_of h0 aj,e],by omega,by omega,aj⟩
  ·rw[if_neg aj]at h;cases h
 ·rw[if_neg h0]at h
  by_cases aj:-(n:Int)<=i
  ·rw[if_pos aj]at h
   have e:(i+n).toNat=j:=ahx h;exact⟨by rw[seqIndex_neg (by omega) aj,e],by omega,aj,by omega⟩
  ·rw[if_neg aj]at h;cases h
theorem wZ{α:Type}{xs:List α}{i:Int}{v:α}(h:d7 xs i=some v):∃j,seqIndex? i xs.length=some j/\xs[j]? = some v/\j<xs.length/\-(xs.length:Int)<=i/\i<xs.length:=by
 unfold d7 at h
 cases e:nY xs.length i with
 |none=>rw[e]at h;cases h
 |some j=>
  rw[e]at h;obtain⟨aj,h2,bz,c0⟩:=V1 e;exact⟨j,aj,h,h2,bz,c0⟩
theorem PM{α:Type}{xs:List α}{j:Nat}{v:α}(h:xs[j]? = some v):d7 xs (j:Int)=some v:=by
 have bV:j<xs.length:=(ahe.mp h).1;have e:nY xs.length (j:Int)=some j:=by
  unfold nY;rw[if_pos (by omega),if_pos (by omega)];simp
 unfold d7;rw[e];exact h
theorem GU{α:Type}(xs:List α)(v:α):d7 (xs++[v]) (-1)=some v:=by
 have ao:(xs++[v]).length=xs.length+1:=by simp
 have e:nY (xs++[v]).length (-1)=some xs.length:=by
  unfold nY;rw[ao,if_neg (by decide),if_pos (by omega)]
  congr 1
  omega
 unfold d7;rw[e];show(xs++[v])[xs.length]? = some v;simp
def Ao(b:Expr):Prop:=∀o i,alA b false o i=operate [o,i] (ajX o i)
def lJ(X:aS)(r:gE):Prop:=
 ∀(value slice:Expr)(ae:c8)(s:ag9)(σ:St)(H:aI)(x y:V)(v u:Value)(Q:cY),Inv X ae σ H s->RelV x v->RelV y u->r x y H Q->
  alA slice false v u=operate [v,u] (ajX v u)->wpAny (model X.prog X.w) X.A (subscriptTail value slice v u) (gA X ae σ Q) X.c2 s
def nA(X:aS)(id:String)(r:V->List V->aI->cY->Prop):Prop:=
 ∀(ae:c8)(s:ag9)(σ:St)(H:aI)(x:V)(xs:List V)(v:Value)(us:List Value)(Q:cY),Inv X ae σ H s->RelV x v->Vals xs us->r x xs H Q->
  wpAny (model X.prog X.w) X.A (call (.builtin id) (v::us)) (gA X ae σ Q) X.c2 s
section
variable{X:aS}{a b:Expr}{ta cJ:TE}{pos:Pos}
theorem lJ.or{r bq:gE}(h:lJ X r)(h':lJ X bq):lJ X (fun x y H Q=>r x y H Q\/bq x y H Q):=by
 intro value slice ae s σ H x y v u Q J a0 bx q aQ;rcases q with q | q
 ·exact h value slice ae s σ H x y v u Q J a0 bx q aQ
 ·exact h' value slice ae s σ H x y v u Q J a0 bx q aQ
theorem Y7(ay:lJ X r)(ax:b3 X a ta)(U:b3 X b cJ)(aQ:Ao b):b3 X (.Subscript a b pos) (vR r ta cJ):=by
 intro ae s σ H Q J h;exact Subscript_ (Bi ax U J h fun v u s2 x y aZ cZ a0 bx q=>ay a b ae s2 σ aZ x y v u Q cZ a0 bx q (aQ _ _))
noncomputable def MX(K:a4):gE:=fun x y H Q=>∃p xs i v,x=.ref p/\y=.int i/\dD K H p xs/\d7 xs i=some v/\Q v H
noncomputable def MZ(K:a4):gE:=fun x y H Q=>∃p xs i v,x=.ref p/\y=.int i/\dG K H p xs/\d7 xs i=some v/\Q v H
noncomputable def MY:gE:=fun x y H Q=>∃z i c,x=.str z/\y=.int i/\z.length<=ag5/\d7 z.cps.toList i=some c/\Q (.str ⟨#[c]⟩) H
theorem V2:lJ X (MX X.K):=by
 intro value slice ae s σ H x y v u Q J a0 bx h aQ;obtain⟨p,xs,i,z,rfl,rfl,bf,he,q⟩:=h;cases a0;obtain⟨t,rfl⟩:=bx;obtain⟨its,r,dp,aX⟩:=J.list bf;obtain⟨j,aj,h2,bz,c0,gm⟩:=wZ he;obtain⟨w,xV,i3⟩:=r.get h2;have ao:=r.length;have aR:=u9;have fin:gA X ae σ Q w s:=⟨z,H,J,i3,q⟩
 by_cases h0:0<=i
 ·have bV:i.toNat=j:=by
   rw[seqIndex_of h0 gm]at aj;exact ahx aj
  exact item_listR dp.isList h0 (by omega) (by rw[bV];simpa using xV) fin aQ
 ·have bV:(i+(its.toArray.size:Int)).toNat=j:=by
   rw[seqIndex_neg (by omega) c0]at aj;rw[ahk,<-ao];exact ahx aj
  exact subscriptTail_builtinR (x:=w) dp.isList.typeIs slot_list_getitem.lookup
   (wpAny_getItem_list_neg (Q:=fun r s'=>r=w/\gA X ae σ Q r s') dp.isList (by omega) (by rw[ahk]<;>omega) (by omega) (by rw[bV];simpa using xV) ⟨rfl,fin⟩) aQ
theorem V4:lJ X (MZ X.K):=by
 intro value slice ae s σ H x y v u Q J a0 bx h aQ;obtain⟨p,xs,i,z,rfl,rfl,bf,he,q⟩:=h;cases a0;obtain⟨t,rfl⟩:=bx;obtain⟨its,r,dp,aX⟩:=J.tuple bf;obtain⟨j,aj,h2,bz,c0,gm⟩:=wZ he;obtain⟨w,xV,i3⟩:=r.get h2;have ao:=r.length;have aR:=u9;have fin:gA X ae σ Q w s:=⟨z,H,J,i3,q⟩;exact subscriptTail_builtinR (x:=w) dp.typeIs slot_tuple_getitem.lookup
  (getItem_tuple (j:=j) (Q:=fun r s'=>r=w/\gA X ae σ Q r s') dp (by omega) (by omega) (by rw[ahk,<-ao];exact aj) (by simpa using xV) ⟨rfl,fin⟩) aQ
theorem V3:lJ X MY:=by
 intro value slice ae s σ H x y v u Q J a0 bx h aQ;obtain⟨z,i,c,rfl,rfl,aX,he,q⟩:=h;obtain⟨t,rfl⟩:=a0;obtain⟨t',rfl⟩:=bx;obtain⟨j,aj,h2,bz,c0,gm⟩:=wZ he;have ao:z.cps.toList.length=z.length:=by simp[Str.length]
 rw[ao]at aj c0 gm;have aR:=u9;exact tail_any (ajY s z t) slot_str_getitem.lookup (getItem_str (c:=c) (by
  have aH:decide (i < -(2 ^ 63:Int))=false:=decide_eq_false (by omega);have aT:decide (i≥2 ^ 63)=false:=decide_eq_false (by omega);rw[aH,aT,Bool.or_false]) (by rw[aj];simpa using h2) ⟨.str ⟨#[c]⟩,H,J.tok _,⟨_,rfl⟩,q⟩) aQ
noncomputable def MW(K:a4):gE:=fun x y H Q=>MX K x y H Q\/MZ K x y H Q\/MY x y H Q
theorem cD:lJ X (MW X.K):=V2.or (V4.or V3)
theorem NK(lo aC:Option Int)(n:Nat):(ai6 lo aC none n).1=((cS.ct n 0 lo:Nat):Int)/\(ai6 lo aC none n).2.1=((cS.ct n n aC:Nat):Int)/\(ai6 lo aC none n).2.2=1:=by
 refine⟨?_,?_,rfl⟩
 ·cases lo with
  |none=>simp[ai6,cS.ct]|some i=>
   simp only[ai6,cS.ct,Option.getD_none,show(1:Int) > 0 by decide,if_true]
   by_cases h:i<0
   ·simp only[h,if_true]<;>omega
   ·simp only[h,if_false]<;>omega
 ·cases aC with
  |none=>simp[ai6,cS.ct]|some i=>
   simp only[ai6,cS.ct,Option.getD_none,show(1:Int) > 0 by decide,if_true]
   by_cases h:i<0
   ·simp only[h,if_true]<;>omega
   ·simp only[h,if_false]<;>omega
theorem aa5(its:List Value)(lo aC:Option Int):slicePick its.toArray lo aC none=((its.drop (cS.ct its.length 0 lo)).take (cS.ct its.length its.length aC-cS.ct its.length 0 lo)).toArray:=by
 obtain⟨aj,h2,bz⟩:=NK lo aC its.toArray.size;unfold slicePick;rw[aj,h2,bz];simp only[sliceRange_one,pick_run,ahk]<;>rfl
noncomputable def Z2(K:a4):V->Option Int->Option Int->aI->cY->Prop:=fun x lo aC H Q=>∃a xs,x=.ref a/\dD K H a xs/\∀p,H p=none->Q (.ref p) (upd H p (.lst (oU xs lo aC)))
theorem aa2:nD X (Z2 X.K):=by
 intro ae s σ H x v gd gf lo aC c6 Q J a0 aQ dp pu h;obtain⟨a,xs,rfl,av,q⟩:=h;cases a0;obtain⟨its,r,bG,aX⟩:=J.list av;have hlen:=r.length;refine⟨"list",_,slot_list_getitem.lookup,bG.isList.typeIs,?_⟩;refine wpAny_getItem_list_slice bG.isList aQ dp pu .none (by simp) ?_ (by rw[ahk]<;>omega);rw[aa5,<-hlen];refine⟨.ref s.heap.objs.size,_,J.laid (t':=s.toks) (o:=.lst (oU xs lo aC)) (fun b cL q=>ag8 _ q) (ahg _) ?_,rfl,q _ (J.bp.fresh (ahg _))⟩;exact⟨ahL (IA xs lo aC) aX,_,0,(r.drop (cS.ct xs.length 0 lo)).take (cS.ct xs.length xs.length aC-cS.ct xs.length 0 lo),aho _ rfl⟩
noncomputable def mL:V->Bool
 |.ba=>true|.aB _=>true|.int _=>true|.str _=>true|_=>false
noncomputable def mI:V->V->Bool
 |.ba,.ba=>true|.aB a,.aB b=>a==b|.aB a,.int b=>(if a then 1 else 0)==b|.int a,.aB b=>a==(if b then 1 else 0)|.int a,.int b=>a==b|.str a,.str b=>a==b|_,_=>false
theorem Tb(bx:RelV y u)(a0:RelV x v)(TN:mL y=true)(mO:mL x=true):SeqAt.EqAt A s u v (mI y x):=by
 cases y with
 |ba=>
  cases bx
  cases x with
  |ba=>cases a0;exact SeqAt.EqAt.same _
  |aB b=>cases a0;exact SeqAt.EqAt.none_bool b
  |int b=>obtain⟨t,rfl⟩:=a0;exact SeqAt.EqAt.none_int b t
  |str b=>obtain⟨t,rfl⟩:=a0;exact SeqAt.EqAt.none_str b t
  |_=>exact absurd (show false=true from mO) ahd
 |aB a=>
  cases bx
  cases x with
  |ba=>cases a0;exact SeqAt.EqAt.bool_none a
  |aB b=>cases a0;exact SeqAt.EqAt.bool_bool a b
  |int b=>obtain⟨t,rfl⟩:=a0;exact SeqAt.EqAt.bool_int a b t
  |str b=>obtain⟨t,rfl⟩:=a0;exact SeqAt.EqAt.bool_str a b t
  |_=>exact absurd (show false=true from mO) ahd
 |int a=>
  obtain⟨t',rfl⟩:=bx
  cases x with
  |ba=>cases a0;exact SeqAt.EqAt.int_none a t'
  |aB b=>cases a0;exact SeqAt.EqAt.int_bool a t' b
  |int b=>obtain⟨t,rfl⟩:=a0;exact SeqAt.EqAt.int_int a t' b t
  |str b=>obtain⟨t,rfl⟩:=a0;exact alV a t' b t
  |_=>exact absurd (show false=true from mO) ahd
 |str a=>
  obtain⟨t',rfl⟩:=bx
  cases x with
  |ba=>cases a0;exact SeqAt.EqAt.str_none a t'
  |aB b=>cases a0;exact SeqAt.EqAt.str_bool a t' b
  |int b=>obtain⟨t,rfl⟩:=a0;exact alW a t' b t
  |str b=>obtain⟨t,rfl⟩:=a0;exact SeqAt.EqAt.str_str a t' b t
  |_=>exact absurd (show false=true from mO) ahd
 |_=>exact absurd (show false=true from TN) ahd
noncomputable def nL(x:V)(u:Value):Bool:=match u with
 |.none=>mI .ba x|.bool b=>mI (.aB b) x|.int i _=>mI (.int i) x|.str z _=>mI (.str z) x|_=>false
theorem I_(r:RelV y u)(f:mL y=true):nL x u=mI y x:=by
 cases y with
 |ba=>cases r;rfl
 |aB b=>cases r;rfl
 |int i=>obtain⟨t,rfl⟩:=r;rfl
 |str z=>obtain⟨t,rfl⟩:=r;rfl
 |_=>exact absurd (show false=true from f) ahd
theorem AB:∀{xs:List V}{us:List Value},Vals xs us->xs.all mL=true->us.any (nL x)=xs.any fun y=>mI y x
 |_,_,.nil,_=>rfl|y::xs,u::us,.cons r t,f=>by
  rw[ajh,ahn]at f;rw[aiN,aiN,I_ r f.1,AB t f.2]
theorem Ed(a0:RelV x v)(mO:mL x=true):∀{xs:List V}{us:List Value},Vals xs us->xs.all mL=true->∀u∈us,SeqAt.EqAt A s u v (nL x u)
 | _,_,.nil,_=>fun u a_=>by cases a_
 |y::xs,u::us,.cons r t,f=>fun hs a_=>by
  rw[ajh,ahn]at f;rcases aha.mp a_ with rfl | a_
  ·rw[I_ r f.1];exact Tb r a0 f.1 mO
  ·exact Ed a0 mO t f.2 hs a_
noncomputable def DG(x:V)(xs:List V):Bool:=xs.any fun y=>mI y x
noncomputable def MU(K:a4)(neg:Bool):gE:=fun x y H Q=>∃p xs,y=.ref p/\(dD K H p xs\/dG K H p xs)/\mL x=true/\xs.all mL=true/\Q (.aB (if neg then !DG x xs else DG x xs)) H
theorem YA:dv X (ahB .In) (MU X.K false):=by
 intro ae s σ H x y v u Q J a0 bx h;obtain⟨p,xs,rfl,bf,mO,fs,q⟩:=h;cases bx;rcases bf with bf | bf
 ·obtain⟨its,r,dp,aX⟩:=J.list bf
  refine SeqAt.in_listAt (nL x) dp.isList (fun w hw=>Ed a0 mO r fs w (by simpa using hw)) ⟨.aB _,H,J,rfl,?_⟩;rw[show its.toArray.any (nL x)=its.any (nL x)by simp,AB r fs];exact q
 ·obtain⟨its,r,dp,aX⟩:=J.tuple bf
  refine SeqAt.in_tupleAt (nL x) dp (fun w hw=>Ed a0 mO r fs w (by simpa using hw)) ⟨.aB _,H,J,rfl,?_⟩;rw[show its.toArray.any (nL x)=its.any (nL x)by simp,AB r fs];exact q
theorem fp:g7 X (.builtin "len") (fun xs H Q=>∃p ys,xs=[.ref p]/\(dD X.K H p ys\/dG X.K H p ys)/\Q (.int ys.length) H):=by
 intro ae s σ H xs us Q J r h;obtain⟨p,ys,rfl,bf,q⟩:=h;obtain⟨u,rfl,a0⟩:=vals1 r;cases a0;have aR:=u9;rcases bf with bf | bf
 ·obtain⟨its,bq,dp,aX⟩:=J.list bf
  have hlen:=bq.length;exact Calls.call_len_list dp.isList (by simp only[ahk]<;>omega) ⟨.int ys.length,H,J.tok _,⟨s.toks+1,by rw[ahk,hlen]⟩,q⟩
 ·obtain⟨its,bq,dp,aX⟩:=J.tuple bf
  have hlen:=bq.length;exact len_tuple dp (by simp only[ahk]<;>omega) ⟨.int ys.length,H,J.tok _,⟨s.toks+1,by rw[ahk,hlen]⟩,q⟩
theorem r1:g7 X (.builtin "len") (fun xs H Q=>∃z,xs=[.str z]/\z.length<=ag5/\Q (.int z.length) H):=by
 intro ae s σ H xs us Q J r h;obtain⟨z,rfl,aX,q⟩:=h;obtain⟨u,rfl,t,rfl⟩:=vals1 r;have aR:=u9;exact len_str (by omega) ⟨.int z.length,H,J.tok _,⟨_,rfl⟩,q⟩
theorem xl:g7 X (.type "tuple") (fun xs H Q=>∃p ys,xs=[.ref p]/\((dD X.K H p ys/\∀l,H l=none->Q (.ref l) (upd H l (.tup ys)))\/(dG X.K H p ys/\Q (.ref p) H))):=by
 intro ae s σ H xs us Q J r h;obtain⟨p,ys,rfl,h⟩:=h;obtain⟨u,rfl,a0⟩:=vals1 r;cases a0;rcases h with⟨bf,q⟩ | ⟨bf,q⟩
 ·obtain⟨its,bq,dp,aX⟩:=J.list bf
  have hlen:=bq.length;refine call_tuple_list dp.isList (fun h' cv=>?_) (by simp only[ahk]<;>omega);have bc:Inv X ae σ H { s with heap:=h' }:=J.kept (t':=s.toks) cv;have cZ:Inv X ae σ (upd H h'.objs.size (.tup ys)) { s with heap:=h'.push { cls:=.type "tuple",data:=.seq its.toArray } }:=
   bc.laid (t':=s.toks) (fun b o e=>ag8 _ e) (ahg _) (show gg X.prog X.w _ _ _ (.tup ys)from⟨aX,its,bq,IsTup.new _ _⟩)
  exact⟨.ref h'.objs.size,_,cZ,rfl,q _ (bc.bp.fresh (ahg _))⟩
 ·obtain⟨its,bq,dp,aX⟩:=J.tuple bf
  exact call_tuple_same dp ⟨.ref p,H,J,rfl,q⟩
def zP(K:a4)(T:String)(x:V)(H:aI):Prop:=match x with
 |.str _=>T="str"|.int _=>T="int"|.ref p=>(T="list"/\∃xs,dD K H p xs)\/(T="tuple"/\∃o,K.lookup p=some o/\o.cls=.type "tuple"/\o.dict=none)\/
   (T="dict"/\((∃aK,H p=some (.d2 aK))\/∃aK,H p=some (.kk aK)))\/(T="set"/\∃S n,H p=some (.set S n))
 |_=>False
theorem Oe(J:Inv X ae σ H s)(r:RelV x v)(ty:zP X.K T x H) :
  s.TypeIs v T/\∀a,v=.ref a->∃cL,s.heap.get? a=some cL/\cL.dict=none:=by
 cases x with
 |str z=>
  obtain⟨t,rfl⟩:=r;cases(show T="str" from ty);exact⟨ajY s z t,fun _ e=>nomatch e⟩
 |int i=>
  obtain⟨t,rfl⟩:=r;cases(show T="int" from ty);exact⟨typeIs_int s i t,fun _ e=>nomatch e⟩
 |ref p=>
  cases r;rcases ty with⟨rfl,xs,bf⟩ | ⟨rfl,o,aL,aA,hd⟩ | ⟨rfl,aL⟩ | ⟨rfl,S,n,aL⟩
  ·obtain⟨its,_,dp,_⟩:=J.list bf
   refine⟨dp.isList.typeIs,fun a e=>?_⟩;cases e;obtain⟨o,n,e,c,hd,_⟩:=dp;exact⟨o,e,hd⟩
  ·refine⟨⟨o,J.gO p o aL,aA⟩,fun a e=>?_⟩
   cases e;exact⟨o,J.gO _ o aL,hd⟩
  ·have z:∃o,s.heap.get? p=some o/\o.ExactDict:=by
    rcases aL with⟨aK,aL⟩ | ⟨aK,aL⟩
    ·obtain⟨_,_,_,_,o,_,_,e,ex,_⟩:=J.bp p _ aL
     exact⟨o,e,ex⟩
    ·obtain⟨_,_,_,_,o,_,_,e,ex,_⟩:=J.bp p _ aL
     exact⟨o,e,ex⟩
   obtain⟨o,e,ex⟩:=z;refine⟨⟨o,e,ex.1⟩,fun a aT=>?_⟩;cases aT;exact⟨o,e,ex.2.1⟩
  ·obtain⟨o,_,_,_,e,ex,_⟩:=J.bp p _ aL
   refine⟨⟨o,e,ex.1⟩,fun a aT=>?_⟩;cases aT;exact⟨o,e,ex.2.1⟩
 |_=>exact aie ty
noncomputable def abn(K:a4)(T:String)(r:V->List V->aI->cY->Prop)(to:TE):TE:=fun σ H Q=>to σ H fun x H1=>zP K T x H1/\r x [] H1 Q
noncomputable def abm(K:a4)(T:String)(r:V->List V->aI->cY->Prop)(to:TE)(t:f3):TE:=fun σ H Q=>to σ H fun x H1=>zP K T x H1/\t σ H1 fun xs aZ=>r x xs aZ Q
variable{o e:Expr}{aE:List Expr}{to:TE}{t:f3}{name:Str}{apos cu:Pos}{T id:String}{r:V->List V->aI->cY->Prop}
theorem Mn(tc:PlainAttrs T)(slot:Slot T name id)(jq:akG (.builtin id)=pure (.type "method_descriptor"))(hm:nA X id r)(aM:b3 X o to)
  (hK:aiq o name X.env (eval o X.env)=eval o X.env:=by rfl) (hL:(apos.endLine==cu.line)=true:=by rfl):b3 X (.Call (.Attribute o name apos) [] [] cu) (abn X.K T r to):=by
 intro ae s σ H Q J h;refine wpAny_Call_method0_late hK hL (b0 (aM ae s σ H _ J h) fun v s1 ⟨x,H1,bc,bK,ty,bh⟩=>?_);obtain⟨aj,h2⟩:=Oe bc bK ty;exact⟨T,id,tc,slot,jq,aj,h2,ajq rfl (PySem.evalArgs_none (hm ae s1 σ H1 x [] v [] Q bc bK .nil bh))⟩
theorem Mm(tc:PlainAttrs T)(slot:Slot T name id)(jq:akG (.builtin id)=pure (.type "method_descriptor"))(hm:nA X id r)(aM:b3 X o to)(ax:g_ X (e::aE) t)
  (hK:aiq o name X.env (eval o X.env)=eval o X.env:=by rfl)
  (nV:((ahN cu (ag6 (e::aE) X.env)).all (fun x=>!x.1)&&(aku cu (ajI [] X.env)).all (fun x=>x.1.isSome)
&&decide ((e::aE).length+([]:List ai7).length+(if([]:List ai7).isEmpty then 0 else 1)<30))=true:=by rfl)
  (hL:(apos.endLine==cu.line)=true:=by rfl) (aQ:ag6 (e::aE) X.env=(false,eval e X.env)::ag6 aE X.env:=by rfl) (ku:(ahN cu (ag6 aE X.env)).any (·.1)=false:=by rfl) :
  b3 X (.Call (.Attribute o name apos) (e::aE) [] cu) (abm X.K T r to t):=by
 intro ae s σ H Q J h;refine wpAny_Call_method_late hK nV hL rfl (b0 (aM ae s σ H _ J h) fun v s1 ⟨x,H1,bc,bK,ty,bh⟩=>?_);obtain⟨aj,h2⟩:=Oe bc bK ty;refine⟨T,id,tc,slot,jq,aj,h2,?_⟩;have mP:=ax cu ae s1 σ H1 _ bc bh;rw[aQ]at mP ⊢;refine ajq (by show(false||(ahN cu (ag6 aE X.env)).any (·.1))=false;rw[ku]<;>rfl) (ajB ?_);exact b0 mP fun us s2 ⟨ar,aZ,cZ,cn,cM⟩=>hm ae s2 σ aZ x ar v us Q cZ bK cn cM
end
def p7(X:aS)(id:String)(r:V->List V->aI->cY->Prop):Prop:=
 ∀(ae:c8)(s:ag9)(σ:St)(H:aI)(x:V)(xs:List V)(v:Value)(us:List Value)(Q:cY),Inv X ae σ H s->RelV x v->Vals xs us->r x xs H Q->
  wpAny (model X.prog X.w) X.A (call (.builtin id) (v::us)) (gA X ae σ Q) X.c2 s
theorem Vals.one:∀{x:V}{us:List Value},Vals [x] us->∃u,us=[u]/\RelV x u
 |_,_,.cons r .nil=>⟨_,rfl,r⟩
theorem Vals.zero:∀{us:List Value},Vals [] us->us=[]
 |_,.nil=>rfl
theorem Vals.dropLast{xs:List V}{us:List Value}(h:Vals xs us):Vals xs.dropLast us.dropLast:=by
 induction h with
 |nil=>exact .nil|cons r t bk=>
  cases t with
  |nil=>exact .nil|cons q t'=>exact .cons r bk
theorem Td{α:Type}(l:List α):l.eraseIdx (l.length-1)=l.dropLast:=by
 induction l with
 |nil=>rfl|cons a r bk=>
  cases r with
  |nil=>rfl|cons b r=>
   have e:(a::b::r).length-1=((b::r).length-1)+1:=by
    have aj:(a::b::r).length=r.length+2:=rfl;have h2:(b::r).length=r.length+1:=rfl;omega
   rw[e,List.eraseIdx_cons_succ,bk]
   all_goals rfl
section
variable{X:aS}{ae:c8}{σ:St}{H:aI}{s:ag9}{l:Addr}{xs ys:List V}
theorem Inv.D5{its its':List Value}{n:Nat}{f:Array Value->Array Value}{t':Nat}(J:Inv X ae σ H s)(dT:H l=some (.lst xs))
  (e:s.heap.get? l=some { cls:=.type "list",data:=.seq its.toArray n }) (hf:f its.toArray=its'.toArray) (bF:Vals ys its') (aX:ys.length<=ag5) :
  Inv X ae σ (upd H l (.lst ys)) { s with heap:=s.heap.update l (Obj.mapSeq f),toks:=t' }:=by
 have q:=IsL.update e f;rw[hf]at q;refine J.write (x:=l) (e:=l) (by rw[dT];exact trivial) (.inl rfl) (fun f7 u U a_=>(ais s.heap (Obj.mapSeq f) (aiD U)).trans a_) ⟨_,q⟩ ?_;exact⟨aX,its',_,bF,q⟩
theorem Inv.yA{t':Nat}(J:Inv X ae σ H s)(bF:Vals ys its)(aX:ys.length<=ag5) :
  Inv X ae σ (upd H s.heap.objs.size (.lst ys)) { s with heap:=s.heap.push { cls:=.type "list",data:=.seq its.toArray },toks:=t' }:=
 J.laid (fun _ _ q=>ag8 _ q) (ahg _) ⟨aX,its,0,bF,aho _ rfl⟩
theorem Inv.fresh(J:Inv X ae σ H s):H s.heap.objs.size=none:=J.bp.fresh (ahg _)
theorem Inv.sF(J:Inv X ae σ H s)(dT:H l=some (.lst xs)):xs.length<=ag5/\∃(its:List Value)(n:Nat),Vals xs its/\xs.length=its.length/\s.heap.get? l=some { cls:=.type "list",data:=.seq its.toArray n }:=by
 obtain⟨z,its,n,r,e⟩:=J.bp l _ dT;exact⟨z,its,n,r,r.length,e⟩
theorem X6(h:n<=ag5):ajT n=false:=by
 unfold ajT;exact decide_eq_false (by omega)
end
section
variable{X:aS}
noncomputable def MQ:V->List V->aI->cY->Prop:=fun x ar H Q=>∃l xs y,x=.ref l/\ar=[y]/\H l=some (.lst xs)/\xs.length<ag5/\Q .ba (upd H l (.lst (xs++[y])))
theorem pC:p7 X "list.append" MQ:=by
 intro ae s σ H x ar v us Q J a0 bZ h;obtain⟨l,xs,y,rfl,rfl,dT,aX,q⟩:=h;cases a0;obtain⟨u,rfl,iL⟩:=bZ.one;obtain⟨z,its,n,r,ao,e⟩:=J.sF dT;refine ajZ F.slot_list_append ⟨_,e,rfl⟩ F.entry_list_append (F.args_list_append_2 _ _) (PySem.list_append l its.toArray n u (by rw[ahk];omega)) ⟨e,?_⟩;refine⟨.ba,_,J.D5 (its':=its++[u]) dT e (by simp) (r.append (.cons iL .nil)) ?_,rfl,q⟩;rw[ag3,ahm];omega
noncomputable def MT:V->List V->aI->cY->Prop:=fun x ar H Q=>∃l b xs zs,x=.ref l/\ar=[.ref b]/\H l=some (.lst xs)/\H b=some (.lst zs)/\xs.length+zs.length<=ag5/\Q .ba (upd H l (.lst (xs++zs)))
theorem XC:p7 X "list.extend" MT:=by
 intro ae s σ H x ar v us Q J a0 bZ h;obtain⟨l,b,xs,zs,rfl,rfl,dT,qv,aX,q⟩:=h;cases a0;obtain⟨u,rfl,iL⟩:=bZ.one;cases iL;obtain⟨z,its,n,r,ao,e⟩:=J.sF dT;obtain⟨e',mV,lr,cn,h7,aT⟩:=J.sF qv;have hsz:its.toArray.size+mV.toArray.size<=ag5:=by rw[ahk,ahk];omega
 have U9:¬(!its.toArray.isEmpty&&ajT (its.toArray.size+mV.toArray.size))=true:=by
  rw[X6 hsz,Bool.and_false];exact ahd
 refine ajZ F.slot_list_extend ⟨_,e,rfl⟩ F.entry_list_extend (F.args_list_extend_2 _ _)
  (AutoSeq1.list_extend_list_list_0 l its.toArray n b mV.toArray lr U9 (by rw[ahk];omega) (by omega)) ⟨e,aT,?_⟩
 refine⟨.ba,_,J.D5 (its':=its++mV) dT e (by simp) (r.append cn) ?_,rfl,q⟩;rw[ag3];omega
noncomputable def M0:V->List V->aI->cY->Prop:=fun x ar H Q=>∃l xs y,x=.ref l/\ar=[]/\H l=some (.lst xs)/\xs[xs.length-1]? = some y/\Q y (upd H l (.lst xs.dropLast))
theorem XE:p7 X "list.pop" M0:=by
 intro ae s σ H x ar v us Q J a0 bZ h;obtain⟨l,xs,y,rfl,rfl,dT,bo,q⟩:=h;cases a0;have Vq:=bZ.zero;subst Vq;obtain⟨z,its,n,r,ao,e⟩:=J.sF dT;obtain⟨u,a_,iL⟩:=r.get bo;have Vv:its.toArray[its.toArray.size-1]? = some u:=by
  show its.toArray[its.length-1]? = some u;rw[<-alG,<-ao];exact a_
 refine ajZ F.slot_list_pop ⟨_,e,rfl⟩ F.entry_list_pop (F.args_list_pop_1 _) (MeetsSeq.list_pop_last l its.toArray n u Vv (by rw[ahk];omega)) ⟨e,?_⟩;refine⟨y,_,J.D5 (its':=its.dropLast) dT e ?_ r.dropLast ?_,iL,q⟩
 ·show its.toArray.eraseIdxIfInBounds (its.toArray.size-1)=its.dropLast.toArray
  rw[ahk,List.eraseIdxIfInBounds_toArray,Td]
 ·rw[List.length_dropLast]
  omega
noncomputable def MR:gE:=fun x y H Q=>∃l b xs zs,x=.ref l/\y=.ref b/\H l=some (.lst xs)/\H b=some (.lst zs)/\xs.length+zs.length<=ag5/\∀p,H p=none->Q (.ref p) (upd H p (.lst (xs++zs)))
theorem l6:dv X (aiw .Add) MR:=by
 intro ae s σ H x y v u Q J a0 bx h;obtain⟨l,b,xs,zs,rfl,rfl,dT,qv,aX,q⟩:=h;cases a0;cases bx;obtain⟨z,its,n,r,ao,e⟩:=J.sF dT;obtain⟨e',mV,lr,cn,h7,aT⟩:=J.sF qv;refine P.add_list e aT ?_ (by rw[ahk,ahk];omega);have f_:its.toArray++mV.toArray=(its++mV).toArray:=by simp
 rw[f_];exact⟨.ref _,_,J.yA (t':=s.toks) (r.append cn) (by rw[ag3];omega),rfl,q _ J.fresh⟩
end
end ak
namespace GC
open PySem PySem.W PySem.Calls PyProof.Rows
theorem VJ:∀(ns:List Int)(ar:List Value),WellAll P h ar (ns.map WData.int)->IntsAre ar ns:=by
 intro ns
 induction ns with
 |nil=>
  intro ar w;rw[alh]at w;cases w;exact .nil
 |cons n ns bk=>
  intro ar w;rw[ahi]at w
  cases w with
  |cons a b=>
   cases a;exact .cons _ _ (bk _ b)
theorem aaY{l:OpenLaw}{n:Nat}(aR:l.most=some n){P:Params}{h:Heap}{args:List WData}{vals:List Value}
  (yh:l.row.toRowW.claim.pre args=true) (Dz:WellAll P h vals args) :
  ∃a ar ns,vals=[ahy a]/\args=[WData.list (ns.map WData.int)]/\h.get? a=some { cls:=.type "list",data:=.seq ar.toArray }/\IntsAre ar ns/\ns.length<=n:=by
 have Vm:WShape.hasAll [] args [.list .int]=true:=(pre_splitW yh).1;have aA:l.pre.holds [] { args:=args }=true:=(pre_splitW yh).2;obtain⟨d,r,rfl,aj,h2⟩:=hasAllW_cons Vm;obtain rfl:=hasAllW_nil h2;obtain⟨xs,rfl,bz⟩:=hasW_list aj;obtain⟨ns,rfl⟩:=items_int bz;have hlen:ns.length<=n:=by
  unfold OpenLaw.pre at aA;have c0:(WTm.not (.lt (.lit (.int (n:Int))) (.len (.arg 0)))).holds [] { args:=[.list (ns.map .int)] }=true:=by
   have c0:=(holds_andW aA).1;rw[aR]at c0;exact c0
  have gm:=condW_of c0 (w_not (w_lt w_lit (w_len_list (w_arg rfl))));rw[ag4]at gm;refine Nat.le_of_not_lt fun q=>?_
  have gu:(n:Int)<((ns.length:Nat):Int):=by omega
  first
   |(rw[decide_eq_true gu]at gm;exact absurd gm (by decide))
   |(simp at gm;omega)
 cases Dz with
 |cons Gi zT=>
  cases zT
  cases Gi with
  |list aM hall=>exact⟨_,_,ns,rfl,rfl,aM,VJ ns _ hall,hlen⟩
theorem Zr(l:OpenLaw)(args:List WData):l.row.toRowW.claim.post args (.bool true) args=true:=
 postW_of (r:=l.row.toRowW) (X:=(true==true))
  (show WShape.has [] (.bool true) .bool=true by first | rfl | decide | simp[WShape.has,WShape.arms,WShape.armsAll])
  (show(WTm.eq .res (.lit (.bool true))).value [] { args:=args,res:=some (.bool true),after:=args }=some (.bool (true==true))from w_eq_bool (w_res rfl) w_lit) rfl
theorem PO{l:OpenLaw}{n:Nat}{q:ahq}{loose:List Str}{rJ:(Str->Option Value)->Heap->Prop}{oK:World->Heap->Prop}{d:DefRec}
  (aR:l.most=some n) (qz:d.params.defaults=[])
  (call:∀(w:World)(gv df:ag9)(I cw:br)(fN:Addr)(o:Obj)(pm cd doc:Value)(a:Addr)(ar:List Value)(ns:List Int),
   Ground q loose [] rJ w gv I cw df.heap->oK w df.heap->
   df.heap.get? fN=some o->o.data=.func (docDef d.name d.params d.body d.scope pm cd doc)->df.heap.CodeRec cd d.name->I d.name=some (.ref fN)->
   df.heap.get? a=some { cls:=.type "list",data:=.seq ar.toArray }->IntsAre ar ns->ns.length<=n->df.gens=#[]->
   ajg (model l.prog w) akv (.call (.ref fN) ⟨[.ref a],[]⟩) (fun r s'=>r=.ok (.ret (.bool true))/\OldK df.heap s'.heap/\s'.os=df.os/\ajt s'.gens) df) :
  WalkO q loose rJ oK l.row.toRowW d [] (fun f ar=>PySem.call f ar):=by
 intro w gv df I cw G Y fN o pm cd doc xu d5 aM hd dN e0 uR a' args vals as yh agw agB Dz agx;obtain rfl:xu=.none:=Dflts.none e0 qz;obtain rfl:d5=.none:=Dflts.noKw e0;obtain⟨a,ar,ns,rfl,rfl,Dr,hints,hlen⟩:=aaY aR yh Dz;refine enter_call (alc (call w gv df I cw fN o pm cd doc a ar ns G Y aM (fd_plain hd) dN uR Dr hints hlen a') fun r s' bf=>?_);obtain⟨rfl,h2,bz,c0⟩:=bf;exact⟨.inl ⟨.bool true,.bool true,[],rfl,fun _=>rfl,.bool true,Zr l _,fun _=>⟨List.Pairwise.nil,fun _ hm=>(nomatch hm)⟩⟩,h2,bz,c0⟩
end GC
namespace ak
open PySem PySem.Spec PyProof.Rows
theorem Oj:∀{ar:List Value}{ns:List Int},IntsAre ar ns->Vals (ns.map V.int) ar
 |_,_,.nil=>.nil|_,_,.cons n t h=>.cons ⟨t,rfl⟩ (Oj h)
def An(H:aI):Prop:=∀b,H b=none\/∃o xs,H b=some (.cH o (.lst xs))
theorem WE{P:ahq}{w:World}{K:a4}{I cw:br}{CX:j9}{k:Nat}{fN a:Addr}{fd:aiJ}{x:Str}{sp:gG}{df:ag9}{ar:List Value}{ns:List Int}
  (a5:K.In df.heap) (yd:df.heap.Ns air I) (U:df.heap.Ns builtinsNs cw) (UE:∀x:Str,x≠"__name__"->cw x=ahK x) (U8:df.heap.NoLimit) (a':df.gens=#[])
  (ax:df.heap.get? a=some { cls:=.type "list",data:=.seq ar.toArray }) (aC:IntsAre ar ns) (ao:ns.length<=ag5) (ay:eh k akv)
  (F:∀base:Heap,K.In base->base.Ns air I->gB P w K I base CX k fN fd [x] sp) (UH:∀(s:ag9)(u:Value),ak7 s fd ⟨[u],[]⟩ [(x,u)])
  (hM:∀H:aI,An H->dD K H a (ns.map V.int)->sp [.ref a] H (fun v _=>v=.aB true) fun _ _ _=>False)
  (CY:∀H e s',CX [] H df (fun _ _ _=>False) e s'->False) :
  ajg (model P w) akv (.call (.ref fN) ⟨[.ref a],[]⟩) (fun r s'=>r=.ok (.ret (.bool true))/\OldK df.heap s'.heap/\s'.os=df.os/\ajt s'.gens) df:=by
 have bZ:=Oj aC;have WU:=aC.length;have core:∀H:aI,An H->dD K H a (ns.map V.int)->eC P w H df.heap->(∀b,H b≠none->b=a)->(H a≠none->K.lookup a=none)->
   ajg (model P w) akv (.call (.ref fN) ⟨[.ref a],[]⟩) (fun r s'=>r=.ok (.ret (.bool true))/\OldK df.heap s'.heap/\s'.os=df.os/\ajt s'.gens) df:=by
  intro H x5 lT bp mP f';have HO:∀{b:Addr}{o:Obj},df.heap.get? b=some o->H b=none->(nW df.heap H).get? b=some o:=fun e n=>UZ e n
  have vi:∀{b:Addr}{o:Obj}{aE:Array akH}{ei:Nat},df.heap.get? b=some o->o.data=.dict aE ei->H b=none:=fun{b o aE ei} e d=>by
   cases q:H b with
   |none=>rfl|some u=>
    have bE:b=a:=mP b (by rw[q];simp);subst bE;rw[ax]at e;cases e;have d':Data.seq ar.toArray _=Data.dict aE ei:=d;cases d'
  have yT:∀{b:Addr}{m:br},df.heap.Ns b m->(nW df.heap H).Ns b m:=fun{b m} ⟨o,aE,ei,e,d,r⟩=>⟨o,aE,ei,HO e (vi e d),d,r⟩
  have Jy:K.In (nW df.heap H):=fun b o e=>HO (a5 b o e) (by
   cases q:H b with
   |none=>rfl|some u=>
    have bE:b=a:=mP b (by rw[q];simp);subst bE;rw[f' (by rw[q];simp)]at e;cases e)
  have C1:Mod K I (nW df.heap H):=⟨Jy,yT yd,⟨cw,yT U,UE⟩,let⟨d8,aj,h2⟩:=U8;⟨d8,yT aj,h2⟩⟩;have ep:wu P w K I (nW df.heap H) akv [] df H:=⟨rfl,C1,fun b o e=>Yn e,Nat.le_of_eq (U0 _ _),trivial,fun b U=>absurd (show b∈([]:List Addr)from U) (by simp),bp,.of_eq a'⟩;refine alc ((F _ Jy (yT yd)).run akv [] df H ⟨[.ref a],[]⟩ [.ref a] [.ref a] _ _ ay ep (UH df (.ref a)) (.cons rfl .nil) (hM H x5 lT)) fun r s' h=>?_
  cases r with
  |error e=>exact(CY H e s' h).elim|ok bO=>
   cases bO with
   |next=>exact aie h
   |brk=>exact aie h|cont=>exact aie h|ret u=>
    obtain⟨v,aa,os,bare,un,Vh,bq,q⟩:=h;have gu:v=.aB true:=q;subst gu;obtain rfl:u=Value.bool true:=bq;refine⟨rfl,OldK.of_keep fun b o e=>?_,os,bare⟩
    cases q:H b with
    | none=>exact un.keep b o e q (by intro z;exact absurd (show b∈([]:List Addr)from z) (by simp)) (by simp)|some u=>
     rcases x5 b with z | ⟨cL,xs,z⟩
     ·rw[q]at z;cases z
     ·have e':=un.kn b cL _ z
      obtain⟨aH,_⟩:=bp b _ z;obtain⟨aT,_⟩:=Vh b _ e';rw[e]at aH;cases aH;exact aT
 cases aL:K.lookup a with
 |some o=>
  have e:=a5 a o aL;rw[ax]at e;cases e;refine core (fun _=>none) (fun _=>.inl rfl) (.inr ⟨_,ar.toArray,_,aL,rfl,rfl,rfl,by rw[ahk,WU];exact ao,by simpa using bZ⟩) (fun b u z=>by have jy:(none:Option eW)=some u:=z;cases jy) (fun b z=>absurd rfl z) fun z=>absurd rfl z
 |none=>
  refine core (fun b=>if b=a then some (.cH { cls:=.type "list",data:=.seq ar.toArray } (.lst (ns.map V.int)))else none) (fun b=>?_) (.inl (.inr ⟨{ cls:=.type "list",data:=.seq ar.toArray },if_pos rfl⟩)) (fun b u z=>?_) (fun b z=>?_) fun _=>aL
  ·by_cases U:b=a
   ·exact .inr ⟨_,_,if_pos U⟩
   ·exact .inl (if_neg U)
  ·by_cases U:b=a
   ·have jy:=(if_pos U).symm.trans z
    cases jy;subst U;exact⟨ax,by rw[ag4];exact ao,ar,_,bZ,ax⟩
   ·have jy:=(if_neg U).symm.trans z
    cases jy
  ·by_cases U:b=a
   ·exact U
   ·exact absurd (if_neg U) z
noncomputable abbrev bC{K:a4}{h:Heap}(_:K.In h):a4:=K
theorem ab8{l:W.OpenLaw}{n k:Nat}{q:ahq}{loose:List Str}{rJ:(Str->Option Value)->Heap->Prop}{oK:World->Heap->Prop}{d:DefRec}{K:Params->a4}{CX:World->j9}{sp:World->gG}{x:Str}
  (aR:l.most=some n) (Dq:n<=ag5) (qz:d.params.defaults=[]) (ay:eh k akv)
  (C5:∀(w:World)(h:Heap),oK w h->(K w.params).In h)
  (F:∀(w:World)(I:br)(fN:Addr)(h:Heap),(K w.params).In h->h.Ns air I->I d.name=some (.ref fN)->
   ∃fd:aiJ,(∀(s:ag9)(u:Value),ak7 s fd ⟨[u],[]⟩ [(x,u)])/\
    ∀base:Heap,(K w.params).In base->base.Ns air I->gB l.prog w (K w.params) I base (CX w) k fN fd [x] (sp w))
  (hM:∀(w:World)(H:aI)(a:Addr)(ns:List Int),ns.length<=n->An H->dD (K w.params) H a (ns.map V.int)->sp w [.ref a] H (fun v _=>v=.aB true) fun _ _ _=>False)
  (CY:∀(w:World)(H:aI)(s:ag9)(e:Value)(s':ag9),CX w [] H s (fun _ _ _=>False) e s'->False) :
  W.WalkO q loose rJ oK l.row.toRowW d [] (fun f ar=>PySem.call f ar):=by
 refine GC.PO aR qz fun w gv df I cw fN o pm cd doc a ar ns G Y aM hd dN uR Dr hints hlen a'=>?_
 have a5:=C5 w _ Y;obtain⟨fd,U,T5⟩:=F w I fN _ a5 G.T.g uR;exact WE a5 G.T.g G.T.b G.T.builtins G.T.nolimit a' Dr hints (ahL hlen Dq) ay T5 U (fun H x5 lT=>hM w H a ns hlen x5 lT) fun H e s'=>CY w H df e s'
noncomputable def qk(s:Stmt):Arguments:=match s with
 |.FunctionDef _ a _ _ _ _ _ _ _ _=>a|_=>{ posonlyargs:=[],args:=[],vararg:=none,kwonlyargs:=[],kw_defaults:=[],kwarg:=none,defaults:=[] }
noncomputable def kZ(s:Stmt):List Stmt:=match s with
 |.FunctionDef _ _ b _ _ _ _ _ _ _=>b|_=>[]
noncomputable def b_(s:Stmt):Scope:=match s with
 |.FunctionDef _ _ _ _ _ _ sc _ _ _=>sc|_=>{ kind:=.function,names:=[],isGenerator:=false,isCoroutine:=false }
noncomputable abbrev iN:j9:=fun _ _ _ _ _ _=>False
noncomputable abbrev tH:dH:=fun _ _ _=>False
theorem Ml:Passes iN X tH:=fun _ _ _ _ _ _ _ h=>h.elim
structure nt(K:a4)(x qual:Str)(st:Stmt)(f:Addr)(fd:aiJ):Prop where
 ex:∃(iI:Value)(hO:Option Addr)(d5 doc pm:Value)(an:Option Addr)(bU c3:Value)(kD:Array (Option Value)),
  fd=akF x qual (qk st) (kZ st) (b_ st) .none d5 doc pm an bU c3/\K.lookup f=some ⟨iI,hO,.func fd,kD⟩/\W.codeIn K bU qual=true
 cv:ald K (.ref f)=true
section
variable{P:ahq}{w:World}{K:a4}{I:br}{base:Heap}
theorem nt.ok{x qual:Str}{st:Stmt}{f:Addr}{fd:aiJ}{N ps:List Str}{k:Nat}{sp:gG}(F:nt K x qual st f fd)(S:c5 N ps (b_ st))(len:∀ar H Q E,sp ar H Q E->ar.length=ps.length)
  (Dj:∀(bU:Value)(A:ahX)(outer:List Env)(s:ag9)(H:aI)(ar:List V)(Q:cY)(E:dH),eh k (A.deeper (akE qual (b_ st) s.heap.objs.size f bU))->sp ar H Q E->
   ∃t,hA (gJ iN P w K I base N qual (b_ st) f bU A outer s H E).qX (kZ st) t/\t { a8:=fun _ aa=>Q .ba aa,cA:=Q } (start N ar) H):gB P w K I base iN (k+1) f fd ps sp:=by
 obtain⟨iI,hO,d5,doc,pm,an,bU,c3,kD,rfl,lk,dN⟩:=F.ex;refine Jl lk dN S len fun A outer s H ar Q E ay hM=>?_
 obtain⟨t,h,q⟩:=Dj bU A outer s H ar Q E ay hM;exact⟨t,h.qX,q⟩
theorem nt.binds{x qual:Str}{st:Stmt}{f:Addr}{fd:aiJ}{ps:List Str}(F:nt K x qual st f fd)
  (h:∀(d5 doc pm:Value)(an:Option Addr)(bU c3:Value)(us:List Value),us.length=ps.length->bindArgs (akF x qual (qk st) (kZ st) (b_ st) .none d5 doc pm an bU c3) ⟨us,[]⟩=pure (ps.zip us)):Binds K fd ps []:=by
 obtain⟨iI,hO,d5,doc,pm,an,bU,c3,kD,rfl,lk,dN⟩:=F.ex;exact .all (h d5 doc pm an bU c3)
theorem Js{x qual:Str}{st:Stmt}{f:Addr}{iI:Value}{hO an:Option Addr}{kD:Array (Option Value)}{d5 doc pm bU c3:Value}(l:K.lookup f=some ⟨iI,hO,.func (akF x qual (qk st) (kZ st) (b_ st) .none d5 doc pm an bU c3),kD⟩)
  (c:W.codeIn K bU qual=true) (k:ald K (.ref f)=true):nt K x qual st f (akF x qual (qk st) (kZ st) (b_ st) .none d5 doc pm an bU c3):=⟨⟨iI,hO,d5,doc,pm,an,bU,c3,kD,rfl,l,c⟩,k⟩
end
theorem eJ(h:n<=1000):n<ag5:=Nat.lt_of_le_of_lt h (by decide)
theorem lj{A B:Prop}(h:B):if false=true then A else B:=by
 rw[if_neg ahd];exact h
theorem ky{A B:Prop}(h:A):if true=true then A else B:=by
 rw[if_pos rfl];exact h
end ak
set_option maxHeartbeats 4000000
namespace ak
open PySem PySem.Spec PyProof.Rows
section
variable{fk:Type}[DecidableEq fk]
noncomputable def j3(aK:List (fk×V))(k:fk):Option V:=(aK.find? fun dk=>decide (dk.1=k)).map (·.2)
noncomputable def putK(aK:List (fk×V))(k:fk)(v:V):List (fk×V):=
 if(aK.any fun dk=>decide (dk.1=k))=true then aK.map (fun dk=>if dk.1=k then(dk.1,v)else dk)else aK++[(k,v)]
theorem Gg{k:fk}(e:p.1=k):j3 (p::r) k=some p.2:=by simp[j3,aiM,e]
theorem Gf{k:fk}(e:¬p.1=k):j3 (p::r) k=j3 r k:=by simp[j3,aiM,e]
theorem Oi(k:fk):∀aK:List (fk×V),(aK.any fun dk=>decide (dk.1=k))=(j3 aK k).isSome
 |[]=>rfl|p::r=>by
  rw[aiN]
  by_cases e:p.1=k
  ·simp only[Gg e,decide_eq_true e,Bool.true_or,Option.isSome_some]
  ·rw[Gf e,decide_eq_false e,Bool.false_or];exact Oi k r
theorem D2(aK:List (fk×V))(k:fk)(v:V):(putK aK k v).length<=aK.length+1:=by
 unfold putK;split
 ·rw[ag4];omega
 ·rw[ag3,ahj,aiy];omega
theorem kQ.DJ{o:Option V}{u:Option Value}(r:kQ o u):o.isSome=u.isSome:=by
 cases o with
 |none=>cases u with
  |none=>rfl|some _=>exact(show False from r).elim
 |some _=>cases u with
  |none=>exact(show False from r).elim|some _=>rfl
theorem kQ.getD{o:Option V}{u:Option Value}(r:kQ o u)(e3:RelV d d'):RelV (o.getD d) (u.getD d'):=by
 cases o with
 |none=>cases u with
  |none=>exact e3|some _=>exact(show False from r).elim
 |some _=>cases u with
  |none=>exact(show False from r).elim|some _=>exact r
theorem fA.val{aK:List (fk×V)}(r:fA aK ar)(k:fk):kQ (j3 aK k) (ak9 ar k):=by
 unfold fA at r
 induction r with
 |nil=>exact ai3|@cons p q ps c1 h t bk=>
  obtain⟨aj,h2⟩:=h
  by_cases e:p.1=k
  ·have bE:q.1=k:=aj.symm.trans e
   have b:ak9 (q::c1) k=some q.2:=by simp[ak9,aiM,bE]
   rw[Gg e,b];exact h2
  ·have bE:¬q.1=k:=fun z=>e (aj.trans z)
   have b:ak9 (q::c1) k=ak9 c1 k:=by simp[ak9,aiM,bE]
   rw[Gf e,b];exact bk
theorem fA.any{aK:List (fk×V)}{ar:List (fk×Value)}(r:fA aK ar)(k:fk):(aK.any fun dk=>decide (dk.1=k))=ar.any fun dk=>decide (dk.1=k):=by
 unfold fA at r
 induction r with
 |nil=>rfl|cons h t bk=>rw[aiN,aiN,bk,h.1]
theorem fA.EZ{aK:List (fk×V)}(r:fA aK ar)(k:fk)(bx:RelV y u) :
  fA (aK.map fun dk=>if dk.1=k then(dk.1,y)else dk) (ar.map fun dk=>if dk.1=k then(dk.1,u)else dk):=by
 unfold fA at r ⊢
 induction r with
 |nil=>exact .nil|@cons p q ps c1 h t bk=>
  rw[ahi,ahi];refine .cons ?_ bk;obtain⟨aj,h2⟩:=h
  by_cases e:p.1=k
  ·rw[if_pos e,if_pos (aj.symm.trans e)];exact⟨aj,bx⟩
  ·rw[if_neg e,if_neg (fun z=>e (aj.trans z))];exact⟨aj,h2⟩
theorem fA.put{aK:List (fk×V)}(r:fA aK ar)(k:fk)(bx:RelV y u):fA (putK aK k y) (stored ar k u):=by
 unfold putK stored;rw[r.any k]
 by_cases e:(ar.any fun dk=>decide (dk.1=k))=true
 ·rw[if_pos e,if_pos e];exact r.EZ k bx
 ·rw[if_neg e,if_neg e];exact Paired.snoc r ⟨rfl,bx⟩
theorem fA.length{aK:List (fk×V)}{ar:List (fk×Value)}(r:fA aK ar):aK.length=ar.length:=alO r
end
theorem sz{k:Key}(r:RelV (d5 k) u):(iF P w).is k u=true:=by
 cases k with
 |inl i=>obtain⟨t,e⟩:=(show ∃t,u=alT i t from r);subst e;exact Xs P w i t
 |inr x=>obtain⟨t,e⟩:=(show ∃t,u=alU x t from r);subst e;exact Xt P w x t
theorem Kk:∀{bw:List Key}{us:List Value},Vals (bw.map d5) us->ItemsAre (iF P w) bw us
 | [],_,r=>by rw[alh]at r;cases r;exact .nil
 |k::bw,_,r=>by
  rw[ahi]at r
  cases r with
  |cons h t=>exact .cons (sz h) (Kk t)
noncomputable abbrev KT(H:aI):List (List Key×V)->List (List Key×Addr×Value)->Prop:=aj4 fun p q=>p.1=q.1/\H q.2.1=some (.tup (p.1.map d5))/\RelV p.2 q.2.2
theorem KT.val{aK:List (List Key×V)}(r:KT H aK xs)(k:List Key):kQ (j3 aK k) ((atKey xs k).map (·.2)):=by
 induction r with
 |nil=>exact ai3|@cons p q ps c1 h t bk=>
  obtain⟨aj,_,h2⟩:=h
  by_cases e:p.1=k
  ·have bE:q.1=k:=aj.symm.trans e
   have b:atKey (q::c1) k=some q.2:=by simp[atKey,aiM,bE]
   rw[Gg e,b];exact h2
  ·have bE:¬q.1=k:=fun z=>e (aj.trans z)
   have b:atKey (q::c1) k=atKey c1 k:=by simp[atKey,aiM,bE]
   rw[Gf e,b];exact bk
theorem KT.EZ{aK:List (List Key×V)}(r:KT H aK xs)(k:List Key)(bx:RelV y u) :
  KT H (aK.map fun dk=>if dk.1=k then(dk.1,y)else dk) (xs.map (putAt k u)):=by
 induction r with
 |nil=>exact .nil|@cons p q ps c1 h t bk=>
  rw[ahi,ahi];refine .cons ?_ bk;obtain⟨aj,h2,bz⟩:=h;unfold putAt
  by_cases e:p.1=k
  ·rw[if_pos e,if_pos (aj.symm.trans e)];exact⟨aj,h2,bx⟩
  ·rw[if_neg e,if_neg (fun z=>e (aj.trans z))];exact⟨aj,h2,bz⟩
theorem KT.put{H:aI}{aK:List (List Key×V)}(r:KT H aK xs)(k:List Key)(U:H b=some (.tup (k.map d5)))(bx:RelV y u) :
  KT H (putK aK k y) (storedH xs k b u):=by
 have e:(aK.any fun dk=>decide (dk.1=k))=(atKey xs k).isSome:=by
  rw[Oi,(r.val k).DJ,Option.isSome_map]
 unfold putK storedH;rw[e]
 by_cases q:(atKey xs k).isSome=true
 ·rw[if_pos q,if_pos q];exact r.EZ k bx
 ·rw[if_neg q,if_neg q];exact Paired.snoc r ⟨rfl,U,bx⟩
theorem KT.keeps{H aa:aI}{aK:List (List Key×V)}(r:KT H aK xs)(bG:∀b ys,H b=some (.tup ys)->aa b=some (.tup ys)):KT aa aK xs:=
 aj4.Ea r fun _ _ z=>⟨z.1,bG _ _ z.2.1,z.2.2⟩
section
variable{P:ahq}{w:World}{H:aI}{h:Heap}{a:Addr}
theorem M6(ok:eC P w H h)(e:ed H a u):gg P w H h a u:=e.ok ok
theorem r5{aK:List (Key×V)}(ok:eC P w H h)(e:ed H a (.d2 aK)):aK.length<=ag5/\(a==aiI)=false/\∃ar,fA aK ar/\h.DictOf (iF P w) a ar:=
 show gg P w H h a (.d2 aK)from M6 ok e
theorem IP{aK:List (Key×V)}(ok:eC P w H h)(e:H a=some (.d2 aK)):aK.length<=ag5/\(a==aiI)=false/\∃ar,fA aK ar/\h.DictOf (iF P w) a ar:=r5 ok (.inl e)
theorem u5{bw:List Key}(ok:eC P w H h)(e:H a=some (.tup (bw.map d5))):(akC (iF P w)).is h bw a:=by
 obtain⟨_,its,r,o,aj,h2,n,bz⟩:=(show gg P w H h a (.tup (bw.map d5))from ok a _ e);exact⟨o,its.toArray,n,aj,h2,bz,by simpa using Kk r⟩
theorem r6{aK:List (List Key×V)}(ok:eC P w H h)(e:ed H a (.kk aK)):aK.length<=ag5/\(a==aiI)=false/\
  ∃xs,KT H aK xs/\h.DictOfH (akC (iF P w)) a xs:=by
 obtain⟨z,y,xs,r,o,aE,ei,aj,h2,bz,c0,gm⟩:=(show gg P w H h a (.kk aK)from M6 ok e);refine⟨z,y,xs,r,o,aE,ei,aj,h2,bz,c0,fun x av=>?_,gm⟩;have all:∀{l:List (List Key×V)}{m:List (List Key×Addr×Value)},KT H l m->∀x∈m,(akC (iF P w)).is h x.1 x.2.1:=by
  intro l m q
  induction q with
  |nil=>intro x av;exact nomatch av
  |@cons p q ps c1 bf t bk=>
   intro x av;rcases aha.mp av with e | av
   ·subst e
    exact u5 ok (by rw[<-bf.1];exact bf.2.1)
   ·exact bk x av
 exact all r x av
theorem S0{aK:List (List Key×V)}(ok:eC P w H h)(e:H a=some (.kk aK)):aK.length<=ag5/\(a==aiI)=false/\
  ∃xs,KT H aK xs/\h.DictOfH (akC (iF P w)) a xs:=r6 ok (.inl e)
end
def oB(H:aI)(a:Addr)(y:V)(r:Option V):Prop:=
 (∃aK k,ed H a (.d2 aK)/\y=d5 k/\r=j3 aK k)\/∃aK k b,ed H a (.kk aK)/\y=.ref b/\H b=some (.tup (k.map d5))/\r=j3 aK k
def tF(H:aI)(a:Addr)(y v:V)(aa:aI):Prop:=
 (∃aK k,H a=some (.d2 aK)/\y=d5 k/\aK.length<ag5/\aa=upd H a (.d2 (putK aK k v)))\/
 ∃aK k b,H a=some (.kk aK)/\y=.ref b/\H b=some (.tup (k.map d5))/\aK.length<ag5/\aa=upd H a (.kk (putK aK k v))
theorem tF.k{H:aI}{aK:List (Key×V)}{k:Key}(e:H a=some (.d2 aK))(ao:aK.length<ag5):tF H a (d5 k) v (upd H a (.d2 (putK aK k v))):=.inl ⟨aK,k,e,rfl,ao,rfl⟩
section
variable{X:aS}{ae:c8}{σ:St}{H:aI}{s:ag9}{a:Addr}{y v:V}{u r:Value}{o:Option V}{A:ahX}{E:dc}
theorem Inv.big(J:Inv X ae σ H s):aiI<s.heap.objs.size:=by
 have h:air<s.heap.objs.size:=(J.mod.glob.keeps J.fM).lt;exact Nat.lt_trans (by decide) h
theorem SD{Q:dc}(a_:A.units+1<cLine)(J:Inv X ae σ H s)(g:oB H a y (some v))(bx:RelV y u)(h:∀dz s',Inv X ae σ H s'->RelV v dz->Q dz s') :
  wpAny (model X.prog X.w) A (ajX (.ref a) u) Q E s:=by
 rcases g with⟨aK,k,e,d_,l⟩ | ⟨aK,k,b,e,d_,dS,l⟩
 ·subst d_
  obtain⟨z,hd,ar,rel,dd⟩:=r5 J.bp e;obtain⟨dz,hw,i3⟩:=kQ.some_of (v:=v) (o:=ak9 ar k) (by rw[l];exact rel.val k);exact wpAny_getItem_of (sz bx) dd.mapOf hw (h dz _ (J.tok _) i3)
 ·subst d_
  cases(show u=ahy b from bx);obtain⟨z,hd,xs,rel,dd⟩:=r6 J.bp e;obtain⟨dz,hw,i3⟩:=kQ.some_of (v:=v) (o:=(atKey xs k).map (·.2)) (by rw[l];exact rel.val k);obtain⟨p,aP,yg⟩:=aj8.mp hw;refine wpAny_getItem_heap (ajU a_) (u5 J.bp dS) dd aP ?_;rw[yg];exact h dz _ (J.tok _) i3
theorem SE{Q:dc}(a_:A.units+1<cLine)(J:Inv X ae σ H s)(g:oB H a y o)(bx:RelV y u)(h:∀s',Inv X ae σ H s'->Q (.bool (!o.isSome)) s') :
  wpAny (model X.prog X.w) A (ahB .NotIn u (.ref a)) Q E s:=by
 rcases g with⟨aK,k,e,d_,l⟩ | ⟨aK,k,b,e,d_,dS,l⟩
 ·subst d_
  obtain⟨z,hd,ar,rel,dd⟩:=r5 J.bp e;refine wpAny_notIn_of (sz bx) hd dd.mapOf ?_;rw[<-(rel.val k).DJ,<-l];exact h _ (J.tok _)
 ·subst d_
  cases(show u=ahy b from bx);obtain⟨z,hd,xs,rel,dd⟩:=r6 J.bp e;refine wpAny_notIn_heap (ajU a_) (u5 J.bp dS) hd dd ?_;have q:=(rel.val k).DJ;rw[Option.isSome_map]at q;rw[<-q,<-l];exact h _ (J.tok _)
theorem Ca{h':Heap}{t':Nat}(J:Inv X ae σ H s)(jS:tO (H a))(aQ:aju a s.heap h')(he:∃q,h'.get? a=some q)(new:gg X.prog X.w (upd H a cL) h' a cL) :
  Inv X ae σ (upd H a cL) { s with heap:=h',toks:=t' }:=
 J.write (x:=a) (e:=a) jS (.inl rfl) (fun b q U z=>(aQ.2 b U).trans z) he new
theorem IM{aa:aI}{aK:List (Key×V)}(z:aK.length<=ag5)(hd:(a==aiI)=false)(rel:fA aK ar)(dd:h'.DictOf (iF P w) a ar) :
  gg P w aa h' a (.d2 aK):=⟨z,hd,ar,rel,dd⟩
theorem SF{Q:Unit->ag9->Prop}(a_:A.units+1<cLine)(J:Inv X ae σ H s)(g:tF H a y v aa)(bx:RelV y u)(bZ:RelV v r)(h:∀s',Inv X ae σ aa s'->Q () s') :
  wpAny (model X.prog X.w) A (setItem (.ref a) u r) Q E s:=by
 rcases g with⟨aK,k,e,d_,l,uk⟩ | ⟨aK,k,b,e,d_,dS,l,uk⟩
 ·subst d_ uk
  obtain⟨z,hd,ar,rel,dd⟩:=IP J.bp e;have aX:ar.length<=ag5:=by rw[<-rel.length];exact z
  have ao:(putK aK k v).length<=ag5:=by have:=D2 aK k v;omega
  refine wpAny_setItem_pairs (hsz:=aX) (sz bx) dd fun h' qj aQ=>h _ ?_
  have he:∃q,h'.get? a=some q:=let⟨q,_,_,bf,_⟩:=qj;⟨q,bf⟩
  exact Ca J (by rw[e];exact ai3) aQ he (IM ao hd (rel.put k bZ) qj)
 ·subst d_ uk
  cases(show u=ahy b from bx);obtain⟨z,hd,xs,rel,dd⟩:=S0 J.bp e;have aX:xs.length<=ag5:=by rw[<-alO rel];exact z
  have ao:(putK aK k v).length<=ag5:=by have:=D2 aK k v;omega
  refine wpAny_setItem_heap (hsz:=aX) (ajU a_) (u5 J.bp dS) dd fun h' qj aQ=>h _ ?_
  obtain⟨q,aE,ei,bf,h2,bz,c0,_,gm⟩:=qj;refine Ca J (by rw[e];exact ai3) aQ ⟨q,bf⟩ ⟨ao,hd,_,(rel.put k dS bZ).keeps fun c ys jH=>?_,q,aE,ei,bf,h2,bz,c0,gm⟩;rw[cP (m6 jH e (fun z=>nomatch z))];exact jH
end
def wG(i:Expr):Prop:=∀s_ lY,alA i false s_ lY=operate [s_,lY] (ajX s_ lY)
theorem abg{prog:ahq}{w:World}{A:ahX}{E:dc}{s:ag9}{env:Env}{value slice:Expr}{pos:Pos}{T id:String}{Q:dc}
  (ao:typeLookup (.type T) "__getitem__"=pure (some (.builtin id))) (aQ:wG slice)
  (h:wpAny (model prog w) A (eval value env) (fun o df=>wpAny (model prog w) A (eval slice env) (fun i i6=>i6.TypeIs o T/\wpAny (model prog w) A (ajX o i) Q E i6) E df) E s) :
  wpAny (model prog w) A (eval (.Subscript value slice pos) env) Q E s:=by
 refine Subscript_ (ahZ h (fun o df eA=>ahZ eA (fun i i6 kv=>?_) fun _ _ x=>x) fun _ _ x=>x);obtain⟨dn,kv⟩:=kv;unfold subscriptTail;refine ag2 ?_;rw[getitemInPython_of_ne dn.not_modules];refine ag2 (wpAny_specialOf dn ao ?_);have fin:wpAny (model prog w) A (alA slice false o i) (fun r gc=>wpAny (model prog w) A (letTemporaryGo value o r >>= fun _=>pure r) Q E gc) E i6:=by
  rw[aQ o i];exact wpAny_operating (ahZ kv (fun r gc lg=>ag2 (wpAny_letTemporaryGo (ahh lg))) fun _ _ x=>x)
 first
  |exact ahh (ag2 fin)
  |exact ag2 (ahh (ag2 fin))
  |exact ag2 fin
theorem SO(J:Inv X ae σ H s)(g:oB H a y o):s.TypeIs (.ref a) "dict":=by
 rcases g with⟨aK,k,e,_,_⟩ | ⟨aK,k,b,e,_,_,_⟩
 ·obtain⟨_,_,ar,_,dd⟩:=r5 J.bp e
  exact dd.typeIs
 ·obtain⟨_,_,xs,_,dd⟩:=r6 J.bp e
  exact dd.typeIs
noncomputable def N1(hp ty:TE):TE:=fun σ H Q=>hp σ H fun x H1=>ty σ H1 fun y aZ=>∃a v,x=.ref a/\oB aZ a y (some v)/\Q v aZ
noncomputable def N2(ty hp:TE):TE:=fun σ H Q=>ty σ H fun y H1=>hp σ H1 fun x aZ=>∃a o,x=.ref a/\oB aZ a y o/\Q (.aB (!o.isSome)) aZ
noncomputable def aau(hp ty pS:TE):f5:=fun D σ H=>pS σ H fun v H1=>hp σ H1 fun x aZ=>ty σ aZ fun y cX=>∃a fa,x=.ref a/\tF cX a y v fa/\D.a8 σ fa
section
variable{X:aS}{o i value:Expr}{pos pos':Pos}{hp ty pS:TE}
theorem Y2(a_:X.A.units+1<cLine)(aM:b3 X o hp)(aC:b3 X i ty)(aQ:wG i):b3 X (.Subscript o i pos) (N1 hp ty):=by
 intro ae s σ H Q J h;refine abg PySem.F.slot_dict_getitem.lookup aQ (b0 (aM ae s σ H _ J h) fun u s1 ⟨x,H1,bc,a0,bh⟩=>b0 (aC ae s1 σ H1 _ bc bh) fun lY s2 ⟨y,aZ,cZ,bx,a,v,ex,g,cM⟩=>?_);subst ex;obtain rfl:u=ahy a:=a0;exact⟨SO cZ g,SD a_ cZ g bx fun dz s3 ec i3=>⟨v,aZ,ec,i3,cM⟩⟩
theorem YW(a_:X.A.units+1<cLine)(aC:b3 X i ty)(aM:b3 X o hp):GJ X .NotIn i o (N2 ty hp):=by
 intro ae s σ H Q J h;refine b0 (aC ae s σ H _ J h) fun lY s1 ⟨y,H1,bc,bx,bh⟩=>b0 (aM ae s1 σ H1 _ bc bh) fun u s2 ⟨x,aZ,cZ,a0,a,s_,ex,g,cM⟩=>?_
 subst ex;obtain rfl:u=ahy a:=a0;exact SE a_ cZ g bx fun s3 ec=>⟨.aB (!s_.isSome),aZ,ec,rfl,cM⟩
theorem Zu(a_:X.A.units+1<cLine)(aM:b3 X o hp)(aC:b3 X i ty)(bF:b3 X value pS)(aQ:ah6 value (some (.Subscript o i pos')) pos.line X.env=pure false) :
  jf X (.Assign [.Subscript o i pos'] value pos) (aau hp ty pS):=by
 intro ae s σ H D J h;refine wpAny_Assign_Subscript (b0 (bF ae s σ H _ J h) fun r s1 ⟨v,H1,bc,bZ,bh⟩=>b0 (aM ae s1 σ H1 _ bc bh) fun u s2 ⟨x,aZ,cZ,a0,cM⟩=>b0 (aC ae s2 σ aZ _ cZ cM) fun lY s3 ⟨y,cX,ec,bx,a,fa,ex,g,e2⟩=>?_) aQ;subst ex;obtain rfl:u=ahy a:=a0;exact SF a_ ec g bx bZ fun s4 jc=>⟨σ,fa,jc,e2⟩
end
theorem SS(h:Heap)(U:aiI<h.objs.size):gg P w H (h.push { cls:=.type "dict",data:=.dict #[] }) h.objs.size (.d2 []):=
 ⟨ahC _,beq_eq_false_iff_ne.mpr (aiD (ahE U)),[],.nil,Heap.DictOf.new h⟩
noncomputable def vS:List (TE×TE)->St->aI->(List (V×V)->aI->Prop)->Prop
 |[],_,H,Q=>Q [] H|(tk,pS)::r,σ,H,Q=>tk σ H fun x H1=>pS σ H1 fun y aZ=>vS r σ aZ fun ps cX=>Q ((x,y)::ps) cX
noncomputable abbrev GR:List (V×V)->List (Value×Value)->Prop:=aj4 fun p q=>RelV p.1 q.1/\RelV p.2 q.2
def tQ(X:aS)(pos:Pos)(keys:List (Option Expr))(values:List Expr)(j1:List (TE×TE)):Prop:=
 ∀(ae:c8)(s:ag9)(σ:St)(H:aI)(Q:List (V×V)->aI->Prop),Inv X ae σ H s->vS j1 σ H Q->
  wpAny (model X.prog X.w) X.A (evalPairs (pairTrees keys values X.env pos)) (fun ar s'=>∃ps aa,Inv X ae σ aa s'/\GR ps ar/\Q ps aa) X.c2 s
theorem Zt:tQ X pos [] [] []:=fun ae s σ H Q J h=>pairTrees_nil_walk ⟨[],H,J,.nil,h⟩
theorem Zs{k v:Expr}(aL:b3 X k tk)(bF:b3 X v pS)(ay:tQ X pos bw ar j1) :
  tQ X pos (some k::bw) (v::ar) ((tk,pS)::j1):=fun ae s σ H Q J h=>
 pairTrees_cons_walk (b0 (aL ae s σ H _ J h) fun u s1 ⟨x,H1,bc,a0,bh⟩=>b0 (bF ae s1 σ H1 _ bc bh) fun zT s2 ⟨y,aZ,cZ,bx,cM⟩=>
  b0 (ay ae s2 σ aZ _ cZ cM) fun ws s3 ⟨ps,cX,ec,rel,e2⟩=>⟨(x,y)::ps,cX,ec,.cons ⟨a0,bx⟩ rel,e2⟩)
noncomputable def pB(aK more:List (Key×V)):List (Key×V):=more.foldl (fun acc dk=>putK acc dk.1 dk.2) aK
theorem fA.merge:∀{more:List (Key×V)}{rs:List (Key×Value)}{aK:List (Key×V)}{ar:List (Key×Value)},fA more rs->fA aK ar->fA (pB aK more) (merged ar rs):=by
 intro more rs aK ar r;unfold fA at r
 induction r generalizing aK ar with
 |nil=>intro q;exact q|@cons p q ps c1 h t bk=>
  intro q_;have e:fA (putK aK p.1 p.2) (stored ar q.1 q.2):=by
   have:=q_.put p.1 h.2;rw[<-h.1];exact this
  exact bk e
theorem K1:∀(more aK:List (Key×V)),(pB aK more).length<=aK.length+more.length
 | [],aK=>by show aK.length<=aK.length+0;omega|p::r,aK=>by
  have aj:=K1 r (putK aK p.1 p.2);have h2:=D2 aK p.1 p.2;show(pB (putK aK p.1 p.2) r).length<=_;rw[ahj];omega
theorem Ih:∀{aK:List (Key×V)}{ws:List (Value×Value)},GR (aK.map fun dk=>(d5 dk.1,dk.2)) ws->∃rs,Carries (iF P w) ws rs/\fA aK rs
 | [],_,r=>by rw[alh]at r;cases r;exact⟨[],ai3,.nil⟩
 |p::aK,_,r=>by
  rw[ahi]at r
  cases r with
  |@cons a b as bs h t=>
   obtain⟨rs,c,q⟩:=Ih (P:=P) (w:=w) t;obtain⟨cx,cG⟩:=b;exact⟨(p.1,cG)::rs,⟨sz h.1,rfl,c⟩,.cons ⟨rfl,h.2⟩ q⟩
noncomputable def abr(j1:List (TE×TE)):TE:=fun σ H Q=>∀p,H p=none->vS j1 σ (upd H p (.d2 [])) fun ps aZ=>aZ p=some (.d2 [])/\∃aK:List (Key×V),ps=aK.map (fun dk=>(d5 dk.1,dk.2))/\aK.length<=15/\Q (.ref p) (upd aZ p (.d2 (pB [] aK)))
theorem Y4{X:aS}{pos:Pos}{keys:List (Option Expr)}{values:List Expr}{j1:List (TE×TE)}(h:tQ X pos keys values j1)(hall:keys.all (·.isSome)=true)(ao:keys.length=values.length)(h0:keys≠[])
  (uD:keys.length<=15):b3 X (.Dict keys values pos) (abr j1):=by
 intro ae s σ H Q J q;have aR:=J.bp.fresh (ahg s.heap.objs.size);have bc:=J.laid (a:=s.heap.objs.size) (o:=.d2 []) (h':=s.heap.push { cls:=.type "dict",data:=.dict #[] }) (t':=s.toks) (fun _ _ q=>ag8 _ q) (ahg _) (SS s.heap J.big);refine wpAny_Dict_walk (knd:=iF X.prog X.w) hall ao h0 uD (b0 (h ae _ σ _ _ bc (q _ aR)) fun ws s2 ⟨ps,aZ,cZ,rel,e,aK,ei,lk,cM⟩=>?_);subst ei;obtain⟨rs,c,pO⟩:=Ih (P:=X.prog) (w:=X.w) rel;obtain⟨z,hd,agX,q_,dd⟩:=IP cZ.bp e;cases q_;refine⟨rs,c,dd,fun h' qj aQ=>⟨.ref s.heap.objs.size,_,?_,rfl,cM⟩⟩;have aX:(pB [] aK).length<=ag5:=by
  have aj:=K1 aK [];rw[aiy]at aj;rw[ahY];omega
 have he:∃q,h'.get? s.heap.objs.size=some q:=let⟨q,_,_,bf,_⟩:=qj;⟨q,bf⟩
 exact Ca cZ (by rw[e];exact ai3) aQ he (IM aX hd (pO.merge .nil) qj)
structure fB(X:aS)(o:Expr)(m:Str)(apos:Pos)(e:Expr)(cu:Pos):Prop where
 base:aiq o m X.env (eval o X.env)=eval o X.env
 CC:((ahN cu (ag6 [e] X.env)).all (fun x=>!x.1)&&(aku cu (ajI [] X.env)).all (fun x=>x.1.isSome)
&&decide (([e]:List Expr).length+([]:List ai7).length+(if([]:List ai7).isEmpty then 0 else 1)<30))=true
 line:(apos.endLine==cu.line)=true
 trees:ahN cu (ag6 [e] X.env)=[(false,eval e X.env)]
structure M2(X:aS)(o:Expr)(m:Str)(apos:Pos)(e f:Expr)(cu:Pos):Prop where
 base:aiq o m X.env (eval o X.env)=eval o X.env
 CC:((ahN cu (ag6 [e,f] X.env)).all (fun x=>!x.1)&&(aku cu (ajI [] X.env)).all (fun x=>x.1.isSome)
&&decide (([e,f]:List Expr).length+([]:List ai7).length+(if([]:List ai7).isEmpty then 0 else 1)<30))=true
 line:(apos.endLine==cu.line)=true
 trees:ahN cu (ag6 [e,f] X.env)=[(false,eval e X.env),(false,eval f X.env)]
def Af(H:aI)(a:Addr):Prop:=(∃aK,ed H a (.d2 aK))\/∃aK,ed H a (.kk aK)
theorem VQ(J:Inv X ae σ H s)(d:Af H a) :
  s.TypeIs (.ref a) "dict"/\(∀b,ahy a=.ref b->∃cL,s.heap.get? b=some cL/\cL.dict=none)/\(a==aiI)=false:=by
 rcases d with⟨aK,e⟩ | ⟨aK,e⟩
 ·obtain⟨_,hd,ar,_,dd⟩:=r5 J.bp e
  refine⟨dd.typeIs,fun b q=>?_,hd⟩;cases q;obtain⟨cL,_,_,aj,h2,_⟩:=dd;exact⟨cL,aj,h2.2.1⟩
 ·obtain⟨_,hd,xs,_,dd⟩:=r6 J.bp e
  refine⟨dd.typeIs,fun b q=>?_,hd⟩;cases q;obtain⟨cL,_,_,aj,h2,_⟩:=dd;exact⟨cL,aj,h2.2.1⟩
section
variable{X:aS}{ae:c8}{σ:St}{H:aI}{s:ag9}{a:Addr}{y d:V}{u r:Value}{o:Option V}{A:ahX}{E:dc}
theorem SA{Q:dc}(a_:A.units+1<cLine)(J:Inv X ae σ H s)(g:oB H a y o)(bx:RelV y u)(e3:RelV d r)(h:∀dz s',Inv X ae σ H s'->RelV (o.getD d) dz->Q dz s') :
  wpAny (model X.prog X.w) A (call (.builtin "dict.get") [.ref a,u,r]) Q E s:=by
 rcases g with⟨aK,k,e,d_,l⟩ | ⟨aK,k,b,e,d_,dS,l⟩
 ·subst d_
  obtain⟨z,hd,ar,rel,dd⟩:=r5 J.bp e;refine call_meetsIn aiZ dd.typeIs aj9 (alp _ _ _) (meets_dict_get_default (iF X.prog X.w) a (sz bx) hd r) ⟨_,dd.mapOf,h _ _ (J.tok _) ?_⟩;rw[l];exact(rel.val k).getD e3
 ·subst d_
  cases(show u=ahy b from bx);obtain⟨z,hd,xs,rel,dd⟩:=r6 J.bp e;refine call_meetsIn aiZ dd.typeIs aj9 (alp _ _ _) (meetsH_dict_get_default (akC (iF X.prog X.w)) a b hd r) ⟨ajU a_,k,xs,u5 J.bp dS,dd,h _ _ (J.tok _) ?_⟩;rw[l];exact(rel.val k).getD e3
end
noncomputable def abq(hp ty af:TE):TE:=fun σ H Q=>hp σ H fun x H1=>∃a,x=.ref a/\Af H1 a/\ty σ H1 fun y aZ=>af σ aZ fun z cX=>∃o,oB cX a y o/\Q (o.getD z) cX
section
variable{X:aS}{o e f:Expr}{apos cu:Pos}{hp ty af:TE}
theorem Y3(a_:X.A.units+1<cLine)(aM:b3 X o hp)(he:b3 X e ty)(hf:b3 X f af)(m:M2 X o "get" apos e f cu):b3 X (.Call (.Attribute o "get" apos) [e,f] [] cu) (abq hp ty af):=by
 intro ae s σ H Q J h;refine wpAny_Call_method m.base m.CC m.line alq aiZ alH (b0 (aM ae s σ H _ J h) fun u s1 ⟨x,H1,bc,a0,a,ex,d,bh⟩=>?_);subst ex;obtain rfl:u=ahy a:=a0;obtain⟨t1,en,_⟩:=VQ bc d;refine⟨t1,en,?_⟩;rw[m.trees];refine ajq rfl (ajB (ajR (b0 (he ae s1 σ H1 _ bc bh) fun lY s2 ⟨y,aZ,cZ,bx,cM⟩=>
  ajR (b0 (hf ae s2 σ aZ _ cZ cM) fun ags s3 ⟨z,cX,ec,hT,s_,g,e2⟩=>akV ?_))))
 exact SA a_ ec g bx hT fun dz s4 jc i3=>⟨_,cX,jc,i3,e2⟩
end
class a7 where
 kI:Addr->Prop
 ZW:Addr->Str
noncomputable def h_:eW->Prop
 |.ho _=>False|_=>True
noncomputable def xm(c:Addr)(q:Str):Heap->Prop:=fun h=>h.CodeRec (.ref c) q
def PA[a7](H:aI)(P:Addr):Prop:=∃ps:Array Value,H P=some (.ho ps)/\TriplesOk ps.toList/\∀pos xr,codeAmong pos ps.toList=some xr->∃c,xr=.ref c/\H c=some (.ext (xm c (a7.ZW P)))
def TabsOk[a7](H:aI):Prop:=∀P,a7.kI P->PA H P
structure dw[a7](H aa:aI):Prop where
 at':∀b o,H b=some o->(h:h_ o:=by exact trivial)->aa b=some o
 cJ:∀b ps,H b=some (.ho ps)->∃de,aa b=some (.ho de)
 cI:TabsOk H->TabsOk aa
variable[a7]
theorem LB(o:eW):h_ o\/∃ps,o=.ho ps:=by cases o<;>first | exact .inl trivial | exact .inr ⟨_,rfl⟩
theorem dw.refl(H:aI):dw H H:=⟨fun _ _ h _=>h,fun _ ps h=>⟨ps,h⟩,id⟩
theorem dw.trans(a:dw H H1)(b:dw H1 aZ):dw H aZ:=
 ⟨fun c o h n=>b.at' c o (a.at' c o h n) n,fun c ps h=>let⟨dy,aH⟩:=a.cJ c ps h;b.cJ c dy aH,fun g=>b.cI (a.cI g)⟩
theorem dw.some{H aa:aI}(s:dw H aa)(h:H b≠none):aa b≠none:=by
 cases e:H b with
 |none=>exact absurd e h|some o=>
  rcases LB o with n | ⟨ps,rfl⟩
  ·rw[s.at' b o e n];intro z;cases z
  ·obtain⟨p,q⟩:=s.cJ b ps e;rw[q];intro z;cases z
theorem dw.free{H aa:aI}(e:dw H aa)(h:aa l=Option.none):H l=Option.none:=by
 cases q:H l with
 |none=>rfl| some o=>exact absurd h (e.some (by rw[q];intro z;cases z))
theorem dw.seq{K:a4}{H aa:aI}{a:Addr}{xs:List V}(e:dw H aa)(h:dD K H a xs):dD K aa a xs:=by
 rcases h with(h | ⟨o,h⟩) | h
 ·exact .inl (.inl (e.at' _ _ h))
 ·exact .inl (.inr ⟨o,e.at' _ _ h⟩)
 ·exact .inr h
theorem TabsOk.put{H:aI}(g:TabsOk H)(o:eW)(aj:∀ps,H p≠some (.ho ps))(h2:∀q,H p≠some (.ext (xm p q))):TabsOk (upd H p o):=fun P fP=>by
 obtain⟨ps,e,t,c⟩:=g P fP;refine⟨ps,by rw[cP (by rintro rfl;exact aj _ e)];exact e,t,fun pos xr aA=>?_⟩;obtain⟨gi,aH,aT⟩:=c pos xr aA;exact⟨gi,aH,by rw[cP (by rintro rfl;exact h2 _ aT)];exact aT⟩
theorem TabsOk.new{H:aI}(g:TabsOk H)(h:H p=none)(o:eW):TabsOk (upd H p o):=g.put o (fun ps=>by rw[h];intro z;cases z) (fun ox=>by rw[h];intro z;cases z)
theorem TabsOk.lst{H:aI}{p:Addr}{zs:List V}(g:TabsOk H)(h:H p=some (.lst zs))(o:eW):TabsOk (upd H p o):=g.put o (fun ps=>by rw[h];intro z;cases z) (fun ox=>by rw[h];intro z;cases z)
theorem i4{H:aI}(h:H p=none)(o:eW):dw H (upd H p o):=
 ⟨fun b u q _=>by rw[cP (l2 q h)];exact q,fun b ps q=>⟨ps,by rw[cP (l2 q h)];exact q⟩,fun g=>g.new h o⟩
theorem Gd{H1 H:aI}{D:Addr}(e0:H1 D=none)(s:dw H1 H)(ao:H D=some (.lst zs))(o:eW):dw H1 (upd H D o):=
 ⟨fun b u q n=>by rw[cP (l2 q e0)];exact s.at' b u q n,fun b ps q=>by rw[cP (l2 q e0)];exact s.cJ b ps q,fun g=>(s.cI g).lst ao o⟩
end ak
namespace ak
open PySem
noncomputable def nJ(env:Env):List (Str×ajp)->List (Str×Addr)->List (Str×Addr)
 |[],acc=>acc|(n,k)::r,acc=>if(k==ajH)=true then nJ env r ((n,(env.cells.lookup n).getD 0)::acc)else nJ env r acc
noncomputable abbrev kX(scope:Scope)(env:Env):List (Str×Addr):=nJ env scope.names []
theorem Iq{scope:Scope}{env:Env}(h:∀y∈scope.names,y.2=.free->∃c,env.cells.lookup y.1=some c):closureFor scope env=pure (kX scope env):=by
 unfold closureFor kX;generalize scope.names=ns at h;generalize([]:List (Str×Addr))=acc;show(forIn ns acc _ >>= _)=_
 induction ns generalizing acc with
 |nil=>rfl|cons y r bk=>
  obtain⟨n,k⟩:=y;rw[ajl];have J9:=fun acc=>bk (fun y bo=>h y (ahc _ bo)) acc
  by_cases aL:(k==ajH)=true
  ·have uQ:k=.free:=by simpa using aL
   obtain⟨c,aA⟩:=h (n,k) ahb uQ;have aH:cellOf env n=pure c:=by unfold cellOf;rw[aA]
   simp only[aL,if_true,aH,pure_bind,nJ,aA,Option.getD_some];exact J9 _
  ·simp only[aL,nJ]
   exact J9 _
theorem Bs{env:Env}:∀{ns:List (Str×ajp)}{acc:List (Str×Addr)}{p:Str×Addr},p∈nJ env ns acc->p∈acc\/∃k,(p.1,k)∈ns/\k=ajH/\p.2=(env.cells.lookup p.1).getD 0
 |[],_,_,h=>.inl h|(n,k)::r,acc,p,h=>by
  unfold nJ at h;split at h
  ·rename_i aL
   rcases Bs h with h | ⟨hj,a,b⟩
   ·rcases aha.mp h with rfl | h
    ·exact .inr ⟨k,ahb,by simpa using aL,rfl⟩
    ·exact .inl h
   ·exact .inr ⟨hj,ahc _ a,b⟩
  ·rcases Bs h with h | ⟨hj,a,b⟩
   ·exact .inl h
   ·exact .inr ⟨hj,ahc _ a,b⟩
theorem Br:∀{ns:List (Str×ajp)}{acc:List (Str×Addr)}{y:Str},((y,ajH)∈ns\/∃c,(y,c)∈acc)->∃c,(y,c)∈nJ env ns acc
 |[],_,_,h=>by
  rcases h with h | h
  ·cases h
  ·exact h
 |(n,k)::r,acc,y,h=>by
  unfold nJ;split
  ·refine Br ?_
   rcases h with h | ⟨c,h⟩
   ·rcases aha.mp h with e | h
    ·cases e;exact .inr ⟨_,ahb⟩
    ·exact .inl h
   ·exact .inr ⟨c,ahc _ h⟩
  ·rename_i aL
   refine Br ?_;rcases h with h | h
   ·rcases aha.mp h with e | h
    ·cases e;exact absurd rfl aL
    ·exact .inl h
   ·exact .inr h
theorem K6{α:Type}{y:Str}{c:α}:∀{l:List (Str×α)},(y,c)∈l->∃gi,l.lookup y=some gi
 |(n,k)::r,h=>by
  by_cases e:(y==n)=true
  ·exact⟨k,by rw[ah1,e]⟩
  ·have bE:(y==n)=false:=by simpa using e
   rcases aha.mp h with z | z
   ·cases z;simp at e
   ·obtain⟨gi,q⟩:=K6 z
    exact⟨gi,by rw[ah1,bE];exact q⟩
theorem RQ{scope:Scope}{env:Env}(h:∀y∈scope.names,y.2=.free->∃c,env.cells.lookup y.1=some c)(e:(kX scope env).lookup y=some c):env.cells.lookup y=some c:=by
 rcases Bs (aix e)with z | ⟨k,a,b,d⟩
 ·cases z
 ·obtain⟨gi,q⟩:=h _ a b
  have d':c=(env.cells.lookup y).getD 0:=d;have gu:env.cells.lookup y=some gi:=q;rw[gu]at d' ⊢;exact congrArg some d'.symm
theorem Io{scope:Scope}(h:scope.names.lookup y=some .free):∃c,(kX scope env).lookup y=some c:=by
 obtain⟨c,q⟩:=Br (env:=env) (acc:=[]) (.inl (aix h));exact K6 q
theorem Li{g:Str×ajp->Str×ajp}{y:Str}(aj:∀p,(g p).1=p.1)(h2:∀p,p.2≠.cell->(g p).2=.cell\/(g p).2=.free->p.2=.free) :
  ∀{ns:List (Str×ajp)},(∀z∈ns,z.2≠akS)->((ns.map g).lookup y=some .cell\/(ns.map g).lookup y=some .free)->ns.lookup y=some .free
 | [],_,h=>by simp at h|p::r,aA,h=>by
  rw[ahi]at h;have bk:=Li (g:=g) (y:=y) aj h2 (ns:=r) fun z aX=>aA z (ahc _ aX)
  have XU:=aA p ahb;have bh:=aj p;have cM:=h2 p XU;generalize g p=q at h bh cM;obtain⟨ti,y9⟩:=q;obtain⟨n,k⟩:=p;have bh:ti=n:=bh;subst bh;have cM:y9=.cell\/y9=.free->k=.free:=cM;rw[ah1]at h ⊢
  cases e:(y==ti)with
  |true=>
   rw[e]at h;have h':some y9=some akS\/some y9=some ajH:=h;exact congrArg some (cM (h'.imp ahx ahx))
  |false=>
   rw[e]at h;exact bk h
theorem aab{scope:Scope}(aA:∀z∈scope.names,z.2≠akS)(h:(relabel scope env).names.lookup y=some .cell\/(relabel scope env).names.lookup y=some .free):scope.names.lookup y=some .free:=by
 refine Li (fun p=>?_) (fun p aP q=>?_) aA h
 ·obtain⟨n,k⟩:=p
  dsimp only;split<;>rfl
 ·obtain⟨n,k⟩:=p
  dsimp only at q aP ⊢;split at q
  ·rename_i aL
   have:=(ahn _ _▸(ahn _ _▸aL).1).1;simpa using this
  ·exact q.elim (fun z=>absurd z aP) id
end ak
namespace ak
open PySem PySem.Spec PyProof.Rows
noncomputable def cz(X:aS)(scope:Scope)(N:List Str)(C:Addr)(aW:List Addr)(s:ag9)(H:aI):aS where
 prog:=X.prog
 w:=X.w
 K:=X.K
 I:=X.I
 base:=X.base
 A:=X.A
 N:=N
 gv:=s
 H₀:=H
 env:=compEnvC scope (kX scope X.env) C X.env
 outer:=X.stack
 stack:=X.stack
 ex:=aW
 fn:=fun _=>false
 calm:=X.calm
 m_:=[]
 c2:=fun _ _=>False
structure mr(esc scope:Scope)(EN N:List Str)(n:Nat)(cap:List Nat):Prop where
 kind:scope.kind=.function
 cell:∀y∈scope.names,y.2≠.cell
 loc:∀y∈scope.names,y.2=.local->scope.names.lookup y.1=some .local
 free:∀y∈scope.names,y.2=.free->esc.names.lookup y.1=some .cell\/esc.names.lookup y.1=some .free
 bW:N.Nodup
 len:N.length=n+cap.length
 Q0:∀j<cap.length,N[n+j]? = EN[cap.getD j 0]?/\∀x,N[n+j]? = some x->scope.names.lookup x=some .free
noncomputable def eG(n:Nat)(cap:List Nat)(σ:St):St:=ahu n none++cap.map fun k=>(σ[k]?).join
theorem R5{cap:List Nat}:(eG n cap σ).length=n+cap.length:=by
 unfold eG;rw[ag3,ahR,ag4]
theorem R4{cap:List Nat}{σ:St}(h:(eG n cap σ)[i]? = some (some v)):∃j,i=n+j/\j<cap.length/\σ[cap.getD j 0]? = some (some v):=by
 unfold eG at h
 by_cases aC:i<n
 ·rw[ahF (by simpa using aC),aiG,if_pos aC]at h
  cases h
 ·rw[ah4 (by simpa using aC),ahR,ahA]at h
  cases e:cap[i-n]? with
  |none=>rw[e]at h;cases h
  |some k=>
   rw[e]at h;have ao:i-n<cap.length:=(ahe.mp e).1;refine⟨i-n,by omega,ao,?_⟩;have h':(σ[k]?).join=some v:=ahx h;rw[aic,e,Option.getD_some]
   cases q:σ[k]? with
   |none=>rw[q]at h';cases h'
   |some z=>rw[q]at h';exact congrArg some h'
section
variable{X:aS}{scope esc:Scope}{EN N:List Str}{n:Nat}{cap:List Nat}{ae:c8}{σ:St}{H:aI}{s:ag9}{aW:List Addr}
theorem Kb{h':Heap}{tk:Nat}{m:br}(S:mr esc scope EN N n cap)(he:X.env.scope=esc)(bY:X.N=EN)(J:Inv X ae σ H s)(hf:∀b∈aW,fY X ae H b)(aM:∀b∈aW,∃o,s.heap.get? b=some o)
  (yd:h'.Ns s.heap.objs.size m) (k:∀b o,s.heap.get? b=some o->h'.get? b=some o) :
  Inv (cz X scope N s.heap.objs.size aW s H) [] (eG n cap σ) H { s with heap:=h',toks:=tk }:=by
 have yb:∀y∈scope.names,y.2=.free->∃c,X.env.cells.lookup y.1=some c:=fun y bo aL=>by
  refine J.ok.has y.1 ?_;show X.env.scope.names.lookup y.1=_\/X.env.scope.names.lookup y.1=_;rw[he];exact S.free y bo aL
 have up:∀{y:Str}{c:Addr},(kX scope X.env).lookup y=some c->X.env.cells.lookup y=some c:=fun{y c} e=>RQ yb e
 have Wo:∀y,(cz X scope N s.heap.objs.size aW s H).env.kindOf y=some .cell\/(cz X scope N s.heap.objs.size aW s H).env.kindOf y=some .free->scope.names.lookup y=some .free:=fun y h=>aab S.cell h
 have cellK:∀c v,s.heap.IsCell c v->h'.IsCell c v:=fun c v ⟨o,e,d⟩=>⟨o,k c o e,d⟩
 refine⟨⟨J.ok.mod,S.kind,J.ok.glob,J.ok.blt,ahg _,fun x y c aj h2=>J.ok.inj x y c (up aj) (up h2),fun y bo=>Io (Wo y bo),fun _ _ z=>absurd z ahd,J.ok.hd,J.ok.frames,.inl rfl,fun b U=>⟨?_,fun x c e=>(hf b U).2.2.2.2.1 x c (up e)⟩,J.bs,ahL J.ok.kU J.tq,fun b o e U=>?_,fun b U aX=>?_,J.stack,J.zD⟩,
  rfl,J.bare,fC.kept k,⟨m,yd,fun i x v aH aT dt=>?_⟩,fun x c e=>?_,J.bp.fresh (ahg _),fun x c e=>J.iA x c (up e),fun p aP=>absurd (show p∈([]:c8)from aP) (by simp),J.bp.kept k,?_⟩
 ·obtain⟨o,e⟩:=aM b U
  exact ahE (ahf e)
 ·rcases(hf b U).2.2.2.1 with z | z
  ·exact J.ok.pH b o e z
  ·exact absurd (ahv (ahf e) (ahL J.ok.kU z)) (ahW _)
 ·rcases aha.mp (J.F2 b aX)with z | z
  ·exact(hf b U).2.1 z
  ·exact(hf b U).2.2.1 z
 ·obtain⟨j,rfl,bV,gY⟩:=R4 aT
  obtain⟨cy,au⟩:=S.Q0 j bV;have aH:N[n+j]? = some x:=aH;have jM:=au x aH;rw[aH,<-bY]at cy;obtain⟨c,aA⟩:=Io (env:=X.env) jM;obtain⟨m0,agA,ao⟩:=J.loc;have KL:X.env.scope.names.lookup x=some .cell\/X.env.scope.names.lookup x=some .free:=by
   rw[he];exact S.free (x,.free) (aix jM) rfl
  obtain⟨u,r,l⟩:=ao _ x v cy.symm gY (KL.elim (fun z=>.inr (.inl z)) fun z=>.inr (.inr z));refine⟨u,r,.inr ⟨?_,c,aA,?_⟩⟩
  ·rcases dt with z | z | z
   ·exfalso
    have jy:(relabel scope X.env).names.lookup x=some .local:=z;have aX:∀ns:List (Str×ajp),ns.lookup x=some .free->(ns.map fun(n,k)=>if(k==ajH&&X.env.scope.kind==.function&&X.env.kindOf n==some .cell)then(n,akS)else(n,k)).lookup x≠some .local:=by
     intro ns
     induction ns with
     |nil=>intro h;simp at h|cons p r bk=>
      obtain⟨m_,tg⟩:=p;intro h;rw[ahi];rw[ah1]at h
      cases q:(x==m_)with
      |true=>
       rw[q]at h;have h':tg=.free:=ahx h;subst h';dsimp only;split
       ·rw[ah1,q];intro w;cases w
       ·rw[ah1,q];intro w;cases w
      |false=>
       rw[q]at h;dsimp only;split
       ·rw[ah1,q];exact bk h
       ·rw[ah1,q];exact bk h
    exact aX _ jM jy
   ·exact .inl z
   ·exact .inr z
  ·rcases l with⟨q,_⟩ | ⟨_,gi,I3,z⟩
   ·exfalso
    have gu:X.env.scope.names.lookup x=some .local:=q;rcases KL with w | w<;>rw[w]at gu<;>cases gu
   ·rw[up aA]at I3
    cases I3;exact cellK c _ z
 ·obtain⟨v,z⟩:=J.cell x c (up e)
  exact⟨v,cellK c v z⟩
 ·show(eG n cap σ).length=N.length
  rw[R5,S.len]
theorem DI(J:Inv X ae σ H s)(hf:∀b∈aW,fY X ae H b)(b1:Inv (cz X scope N C aW s H) Zj σ' aa s'):Inv X ae σ aa s':=
 J.oS b1.os b1.base b1.bp b1.bare fun b U=>⟨(hf b U).2.2.2.1,(hf b U).2.1,(hf b U).2.2.2.2.1,(hf b U).2.2.2.2.2⟩
end
section
variable{X:aS}
def p9(X:aS)(ifs:List Expr)(t:TT):Prop:=
 ∀(ae:c8)(s:ag9)(σ:St)(H:aI)(Q:Bool->aI->Prop),Inv X ae σ H s->t σ H Q->
  wpAny (model X.prog X.w) X.A (forIn ifs true fun c r=>if r=true then do let ok <-isTrue c X.env (eval c X.env);pure (ajm ok)else pure (ajm r)) (Av X ae σ Q) X.c2 s
noncomputable def abL:TT:=fun _ H Q=>Q true H
theorem Za:p9 X [] abL:=fun _ _ _ H _ J h=>wpAny_tests_nil ⟨H,J,h⟩
theorem Zb(h:hZ X c t):p9 X [c] t:=fun ae s σ H Q J bf=>wpAny_tests_one (h ae s σ H Q J bf)
end
section
variable{prog:ahq}{w:World}{A:ahX}{R:Result->ag9->Prop}{s:ag9}
theorem RX{elt target iter:Expr}{ifs:List Expr}{scope:Scope}{pos:Pos}{it acc:Value}{env:Env}(J:Nat->ag9->Prop)
  (turn:∀n s,J n s->wpAny (model prog w) A (pyNext it) (fun r df=>match r with
   |none=>R (.ok .next) df| some v=>wpAny (model prog w) A (ajO target it v) (fun _ vO=>wpAny (model prog w) A (aj5 target env v) (fun _ i6=>
     wpAny (model prog w) A (forIn ifs true fun c r=>if r=true then do let ok <-isTrue c env (eval c env);pure (ajm ok)else pure (ajm r)) (fun ok gc=>
      if ok=true then wpAny (model prog w) A (eval elt env) (fun x oj=>
       wpAny (model prog w) A (call (.builtin "list.append") [acc,x]) (fun _ vP=>∃m,m<n/\J m vP) (fun _ _=>False) oj) (fun _ _=>False) gc
      else ∃m,m<n/\J m gc) (fun _ _=>False) i6) (fun _ _=>False) vO) (fun _ _=>False) df) (fun _ _=>False) s)
  (n:Nat) (h:J n s) :
  ajg (model prog w) A (.compLoop (.ListComp elt [⟨target,iter,ifs,0⟩] scope pos) 0 it acc env) R s:=by
 refine codeAny_loop rfl J (fun n s mQ=>?_) n h;show wpAny _ A ((compTurn (.ListComp elt [⟨target,iter,ifs,0⟩] scope pos) 0 it acc env).onRaise (fun x=>do ajn x env;theTreesLotGoes x)) _ _ s;refine wpAny_noted ?_;rw[compTurn_list];refine ag2 (wpAny_standAt (ag2 (ahZ (turn n s mQ) (fun r df eA=>?_) fun _ _ h'=>h'.elim)))
 cases r with
 |none=>exact ahh eA|some v=>
  refine ag2 (ahZ eA (fun _ vO DD=>?_) fun _ _ h'=>h'.elim);refine ag2 (ahZ DD (fun _ i6 kv=>ag2 (ahZ kv (fun ok gc lg=>?_) fun _ _ h'=>h'.elim)) fun _ _ h'=>h'.elim)
  cases ok with
  |false=>exact ahh ⟨rfl,lg⟩|true=>
   exact ag2 (ag2 (ahZ lg (fun x oj qJ=>ag2 (ahZ qJ (fun _ vP hi=>ahh (ahh ⟨rfl,hi⟩)) fun _ _ h'=>h'.elim)) fun _ _ h'=>h'.elim))
end
def lI(σ dA:St):Prop:=σ.length=dA.length/\∀(i:Nat) v,σ[i]? = some (some v)->dA[i]? = some (some v)
theorem lI.refl(σ:St):lI σ σ:=⟨rfl,fun _ _ h=>h⟩
theorem lI.set{σ dA:St}(h:lI σ dA)(aR:σ[i]? = some none):lI σ (dA.set i (some x)):=by
 refine⟨by rw[ah3];exact h.1,fun j v e=>?_⟩
 by_cases bV:i=j
 ·subst bV;rw[aR]at e;cases e
 ·rw[ahD bV];exact h.2 j v e
def Bu(b1:iP)(σ':St)(g:kc)(tt:TT)(te:TE)(D:Addr)(H1:aI)(Q:cY):Prop:=
  ∃W:Nat->Nat->List V->aI->Prop,(∃m,W 0 m [] (upd H1 D (.lst [])))/\∀i m ys H,W i m ys H->
   ((b1.stop i H/\Q (.ref D) H)\/(b1.go i H/\∀x aa,b1.tA i H x aa->g x σ' aa fun dA aZ=>lI σ' dA/\tt dA aZ fun b cX=>
       if b=true then te dA cX fun y fa=>fa D=some (.lst ys)/\ys.length<ag5/\∃ft,ft<m/\W (i+1) ft (ys++[y]) (upd fa D (.lst (ys++[y])))else ∃ft,ft<m/\W (i+1) ft ys cX))
noncomputable def vQ(n:Nat)(cap:List Nat)(wi:TI)(g:kc)(tt:TT)(te:TE):TE:=fun σ H Q=>wi σ H fun b1 H1=>∀D,H1 D=none->Bu b1 (eG n cap σ) g tt te D H1 Q
section
variable{X:aS}{scope esc:Scope}{EN N:List Str}{n:Nat}{cap:List Nat}{ae:c8}{σ:St}{s:ag9}{elt cV iter:Expr}{ifs:List Expr}{pos:Pos}{g:kc}{tt:TT}{te:TE}
theorem R2{E:dc}{H:aI}{b1:iP}{aW:List Addr}{it:Addr}{fx:Nat->Heap->Prop}{Q:cY}{nC:Value->Addr->Result->ag9->Prop}(S:mr esc scope EN N n cap)(he:X.env.scope=esc)(bY:X.N=EN)(aA:X.calm=true)
  (a':∀C aW s H,oG (cz X scope N C aW s H) cV g) (bG:∀C aW s H,p9 (cz X scope N C aW s H) ifs tt) (iC:∀C aW s H,b3 (cz X scope N C aW s H) elt te)
  (J:Inv X ae σ H s) (T:Turn X.prog X.w X.K cV b1 aW it fx) (st:fx 0 s.heap) (hf:∀b∈aW,fY X ae H b) (bf:∀D,H D=none->Bu b1 (eG n cap σ) g tt te D H Q)
  (C3:∀D C aa s' m,Inv X ae σ aa s'->fY X ae aa C->s'.heap.Ns C m->Q (.ref D) aa->nC (.ref D) C (.ok .next) s') :
  wpAny (model X.prog X.w) X.A (newList []) (fun acc gc=>wpAny (model X.prog X.w) X.A (newFunctionEnv scope X.env.globals (kX scope X.env) [] X.env.qual none .none (some X.env)) (fun kj oj=>
   ajg (model X.prog X.w) X.A (.compStart (.ListComp elt [⟨cV,iter,ifs,0⟩] scope pos) 0 (.ref it) acc { kj with scope:=relabel scope X.env }) (nC acc kj.locals) oj) E gc) E s:=by
 refine aiu (wpAny_newFunctionEnv S.cell (by intro y bo;simp at bo) (fun eA qD qI=>?_) S.kind);have ec:=J.yA (t':=s.toks) (ys:=[]) (its:=[]) .nil (ahC _);have e0:H s.heap.objs.size=none:=J.fresh;obtain⟨W,⟨m0,rm⟩,turn⟩:=bf _ e0;generalize qH:({ s with heap:=s.heap.push { cls:=.type "list",data:=.seq ([]:List Value).toArray },toks:=s.toks }:ag9)=s3 at ec;have k3:∀b o,s.heap.get? b=some o->s3.heap.get? b=some o:=fun b o e=>by rw[<-qH];exact ag8 _ e
 have Vk:({ s with heap:=s.heap.push { cls:=.type "list",data:=.seq ([]:List Value).toArray } }:ag9)=s3:=qH;have gn:s.heap.push { cls:=.type "list",data:=.seq ([]:List Value).toArray }=s3.heap:=by rw[<-qH]
 dsimp only at qD qI ⊢
 try rw[gn]at qD
 try rw[gn]at qI
 have o5:∀b∈aW,fY X ae (upd H s.heap.objs.size (.lst [])) b:=fun b U=>by
  refine⟨?_,(hf b U).2⟩;obtain⟨o,e,_⟩:=T.obj _ _ st b U;rw[cP (ahE (ahf e))];exact(hf b U).1
 have nZ:∀b o,s3.heap.get? b=some o->eA.get? b=some o:=fun b o e=>qI.extBut b o (ahE (ahf e)) (ag8 _ e)
 have cL:∀b∈aW,∃o,s3.heap.get? b=some o:=fun b U=>by
  obtain⟨o,e,_⟩:=T.obj _ _ st b U;exact⟨o,k3 b o e⟩
 have jc:=Kb (tk:=s3.toks) S he bY ec o5 cL qD nZ;have oh:fx 0 eA:=T.keep _ _ _ st fun b _ o e=>nZ b o (k3 b o e)
 have x4:s3.heap.objs.size<=s3.heap.objs.size:=ahg _;have loop:∀gc:ag9,gc.heap=eA->Inv (cz X scope N s3.heap.objs.size aW s3 (upd H s.heap.objs.size (.lst []))) [] (eG n cap σ) (upd H s.heap.objs.size (.lst [])) gc->
   ajg (model X.prog X.w) X.A (.compLoop (.ListComp elt [⟨cV,iter,ifs,0⟩] scope pos) 0 (.ref it) (.ref s.heap.objs.size) (compEnvC scope (kX scope X.env) s3.heap.objs.size X.env)) (nC (.ref s.heap.objs.size) s3.heap.objs.size) gc:=by
  intro gc Cy nx;have l_:∀{aa:aI},(∀b∈aW,aa b=none)->∀b∈aW,fY (cz X scope N s3.heap.objs.size aW s3 (upd H s.heap.objs.size (.lst []))) [] aa b:=fun{aa} aR b U=>
   ⟨aR b U,(nx.ok.nM b U).1,nx.ok.nN b U,.inl U,(nx.ok.nM b U).2,fun p aP=>absurd (show p∈([]:c8)from aP) (by simp)⟩
  refine RX (fun k s'=>∃i ys aa,Inv (cz X scope N s3.heap.objs.size aW s3 (upd H s.heap.objs.size (.lst []))) [] (eG n cap σ) aa s'/\fx i s'.heap/\(∀b∈aW,aa b=none)/\W i k ys aa) ?_ m0
   ⟨0,[],_,nx,by rw[Cy];exact oh,fun b U=>(o5 b U).1,rm⟩
  rintro k s5 ⟨i,ys,jA,nu,oi,qs,zU⟩;rcases turn i k ys jA zU with⟨stop,q⟩ | ⟨go,step⟩
  ·refine b0 (T.done (cz X scope N s3.heap.objs.size aW s3 (upd H s.heap.objs.size (.lst []))) rfl rfl rfl aA i [] s5 _ jA _ nu (l_ qs) oi stop) fun r fu ⟨ay,nv⟩=>?_
   subst ay;obtain⟨m,aR,_⟩:=nv.loc;exact C3 _ _ jA fu m (DI ec o5 nv) (ec.o2 x4 nv.free) aR q
  ·refine b0 (T.item (cz X scope N s3.heap.objs.size aW s3 (upd H s.heap.objs.size (.lst []))) rfl rfl rfl aA i [] s5 _ jA (fun _ _=>False) nu (l_ qs) oi go) fun r fu ⟨u,ay,eO⟩=>?_
   subst ay;refine b0 eO fun _ fv ⟨x,ir,jd,vA,Gw,rh,CG⟩=>?_
   have Ad:=jd.pinned (l_ CG) (T.obj _ _ rh);refine b0 (a' _ _ _ _ _ fv _ ir x u _ Ad vA (step x ir Gw)) fun _ jw ⟨ow,Ab,oC,nQ,l8⟩=>?_
   refine b0 (bG _ _ _ _ _ jw ow Ab _ oC l8) fun b m' ⟨tK,p4,vw⟩=>?_
   have back:∀{aa:aI}{s':ag9},Inv (cz X scope N s3.heap.objs.size aW s3 (upd H s.heap.objs.size (.lst []))) ([]++tf aW fv.heap) ow aa s'->
     Inv (cz X scope N s3.heap.objs.size aW s3 (upd H s.heap.objs.size (.lst []))) [] (eG n cap σ) aa s'/\fx (i+1) s'.heap/\∀b∈aW,aa b=none:=fun{aa s'} gS=>by
    refine⟨gS.v5.weak nQ.1 nQ.2,T.keep _ _ _ rh fun b U o e=>(gS.pin (b,o) (ahp _ (ahp _ (sR U e)))).1,fun b U=>?_⟩;obtain⟨o,e,d⟩:=T.obj _ _ rh b U;exact(gS.pin (b,o) (ahp _ (ahp _ (sR U e)))).2.1
   cases b with
   |false=>
    obtain⟨ft,hm,dz⟩:=vw;obtain⟨cx,cG,ix⟩:=back p4;exact⟨ft,hm,i+1,ys,tK,cx,cG,ix,dz⟩
   |true=>
    refine b0 (iC _ _ _ _ _ m' ow tK _ p4 vw) fun v hU ⟨y,tJ,tL,ER,CZ,aX,ft,hm,dz⟩=>?_
    refine b0 (pC _ hU ow tJ (.ref s.heap.objs.size) [y] (.ref s.heap.objs.size) [v] (fun z aa=>z=.ba/\aa=upd tJ s.heap.objs.size (.lst (ys++[y]))) tL rfl (.cons ER .nil) ⟨_,ys,y,rfl,rfl,CZ,aX,rfl,rfl⟩) fun z Nq ⟨acX,Pf,Ac,_,_,Ck⟩=>?_
    subst Ck;obtain⟨cx,cG,ix⟩:=back Ac;exact⟨ft,hm,i+1,ys++[y],_,cx,cG,ix,dz⟩
 have tM:Inv (cz X scope N s3.heap.objs.size aW s3 (upd H s.heap.objs.size (.lst []))) [] (eG n cap σ) (upd H s.heap.objs.size (.lst [])) { heap:=eA,gens:=s3.gens,drawn:=s3.drawn,toks:=s3.toks+([]:List (Str×Value)).length,os:=s3.os }:=jc;exact codeAny_compStart_list (loop _ rfl tM) (T.self _ 0 _ _ _ oh (loop _ rfl tM))
theorem Mq(S:mr esc scope EN N n cap){wi:TI}(aC:kP X cV iter wi)(a':∀C aW s H,oG (cz X scope N C aW s H) cV g)(bG:∀C aW s H,p9 (cz X scope N C aW s H) ifs tt)(iC:∀C aW s H,b3 (cz X scope N C aW s H) elt te)
  (he:X.env.scope=esc:=by rfl) (bY:X.N=EN:=by rfl) (aA:X.calm=true:=by rfl) (aQ:∀x,ail iter X.env x=pure x:=by intro _;rfl):b3 X (.ListComp elt [⟨cV,iter,ifs,0⟩] scope pos) (vQ n cap wi g tt te):=by
 intro ae s σ H Q J h;rw[eval_ListComp];have Dk:closureFor scope X.env=pure (kX scope X.env):=Iq fun y bo aL=>J.ok.has y.1 (by
  show X.env.scope.names.lookup y.1=_\/X.env.scope.names.lookup y.1=_;rw[he];exact S.free y bo aL)
 refine wpAny_comprehension_free (use:=none) rfl aQ Dk S.kind S.loc (b0 (aC ae s σ H _ J h) fun v s1 aj=>b0 aj fun yp s2 h2=>?_);obtain⟨it,aW,fx,b1,aZ,e,cZ,T,cW,f2,bf⟩:=h2;subst e;refine R2 S he bY aA a' bG iC cZ T cW f2 bf fun D C aa s' m gS fE aR q=>?_
 exact⟨m,aR,fun h' mU=>⟨.ref D,aa,gS.turned (t':=s'.toks) (fun b o U e=>mU.extBut b o U e) fE.1 fE.2.1 fE.2.2.2.1 fE.2.2.2.2.1 fE.2.2.2.2.2,rfl,q⟩⟩
end
structure bM(P:ahq)(w:World)(K:a4)(I:br)(base:Heap)(x:Str)(ps:List Str)(k:Nat)(sp:gG):Prop where
 ex:∃f fd,gB P w K I base iN k f fd ps sp/\Binds K fd ps []/\ald K (.ref f)=true/\I x=some (.ref f)
structure bB(K:a4)(I:br)(x:Str)(st:Stmt)(ps:List Str):Prop where
 ex:∃f fd,nt K x x st f fd/\Binds K fd ps []/\I x=some (.ref f)
section
variable{P:ahq}{w:World}{K:a4}{I:br}{base:Heap}{x:Str}{ps:List Str}{k:Nat}{sp:gG}
theorem bM.mono(h:bM P w K I base x ps k sp)(bV:k<=j):bM P w K I base x ps j sp:=by
 obtain⟨f,fd,a,b⟩:=h.ex;exact⟨f,fd,a.mono bV,b⟩
end
section
variable{X:aS}{x:Str}{ps:List Str}{k:Nat}{sp:gG}{p pos:Pos}{e:Expr}{aE:List Expr}{t:f3}
noncomputable def N3(sp:gG)(t:f3):TE:=fun σ H Q=>t σ H fun ar H1=>sp ar H1 Q tH
theorem Mr(h:bM X.prog X.w X.K X.I X.base x ps k sp)(ay:eh k X.A)(a':dC X x)(ax:g_ X (e::aE) t)(da:(x==("__debug__":Str))=false:=by decide)
  (he:ag6 (e::aE) X.env=(false,eval e X.env)::ag6 aE X.env:=by rfl) (du:(ahN pos (ag6 aE X.env)).any (·.1)=false:=by rfl):b3 X (.Call (.Name x p) (e::aE) [] pos) (N3 sp t):=by
 obtain⟨f,fd,F,b,cv,m⟩:=h.ex;intro ae s σ H Q J bf;refine Mo (dvs:=[]) (ds:=[]) F ay a' m cv b .nil Ml ax da he du ae s σ H Q J ?_;have mT:t σ H fun ar H1=>sp ar H1 Q tH:=bf
 show t σ H fun ar H1=>sp (ar++[]) H1 Q tH
 simpa only[ahl]using mT
end
structure wA(K:a4):Prop where
 PJ:∀t∈["NoneType","bool","int","str","list","tuple"],∀c∈["int","bool","tuple","list","str"],W.kitOne K (.type t) (.type c)=some (t==c||(t == "bool"&&c == "int"))
inductive mv(K:a4)(H:aI):V->String->Prop where
 |ba:mv K H .ba "NoneType"
 |aB (x:Bool):mv K H (.aB x) "bool"
 |int (i:Int):mv K H (.int i) "int"
 |str (x:Str):mv K H (.str x) "str"
 |lst {a:Addr}{xs:List V}(e:dD K H a xs):mv K H (.ref a) "list"
 |tup {a:Addr}{xs:List V}(e:dG K H a xs):mv K H (.ref a) "tuple"
noncomputable abbrev ab3:List String:=["NoneType","bool","int","str","list","tuple"]
theorem mv.mem{K:a4}{H:aI}{x:V}{t:String}(h:mv K H x t):t∈ab3:=by
 cases h<;>decide
section
variable{X:aS}
noncomputable def u2(t n:String):Bool:=t==n||(t == "bool"&&n == "int")
noncomputable def MV(K:a4):List V->aI->cY->Prop:=fun xs H Q=>∃x n t,xs=[x,.ty n]/\mv K H x t/\n∈["int","bool","tuple","list","str"]/\Q (.aB (u2 t n)) H
theorem h4(kt:wA X.K):g7 X (.builtin "isinstance") (MV X.K):=by
 intro ae s σ H xs us Q J bZ h;obtain⟨x,n,t,rfl,ty,aR,q⟩:=h;obtain⟨u,dz,rfl,bK,cn⟩:=vals2 bZ;cases(show dz=Value.type n from cn);have e:=kt.PJ t ty.mem n aR;have fin:∀tk,gA X ae σ Q (.bool (u2 t n)) { s with toks:=tk }:=fun tk=>⟨.aB _,H,J.tok tk,rfl,q⟩
 cases ty with
 |ba=>cases(show u=ahT from bK);exact aki W.kitx_none J.gO ai3 e (fun z=>nomatch z) fin
 |aB y=>cases(show u=Value.bool y from bK);exact aki W.kitx_bool J.gO ai3 e (fun z=>nomatch z) fin
 |int i=>obtain⟨t,q⟩:=(show ∃t,u=alT i t from bK);cases q;exact aki W.kitx_int J.gO ai3 e (fun z=>nomatch z) fin
 |str y=>obtain⟨t,q⟩:=(show ∃t,u=alU y t from bK);cases q;exact aki W.kitx_str J.gO ai3 e (fun z=>nomatch z) fin
 |@lst a xs f_=>
  cases(show u=ahy a from bK);obtain⟨its,_,⟨o,pE,aj,h2,_⟩,_⟩:=J.list f_;exact aki W.kitx_list J.gO ⟨o,aj,h2⟩ e (fun z=>nomatch z) fin
 |@tup a xs f_=>
  cases(show u=ahy a from bK);obtain⟨its,_,⟨o,aj,h2,_⟩,_⟩:=J.tuple f_;exact aki W.kitx_tuple J.gO ⟨o,aj,h2⟩ e (fun z=>nomatch z) fin
theorem XB:nA X "int.bit_length" (fun x xs H Q=>∃i,x=.int i/\xs=[]/\Q (.int (aii i:Nat)) H):=by
 intro ae s σ H x xs v us Q J a0 bZ h;obtain⟨i,rfl,rfl,q⟩:=h;obtain⟨t,rfl⟩:=a0;cases bZ;exact call_int_bit_length ⟨.int _,H,J.tok _,⟨_,rfl⟩,q⟩
end
mutual
noncomputable def Rep(K:a4)(H:aI):PyData->V->Prop
 |.none,v=>v=.ba|.bool b,v=>v=.aB b|.int i,v=>v=.int i|.str x,v=>v=.str x|.list ds,v=>∃a xs,v=.ref a/\dD K H a xs/\bu K H ds xs|.tuple ds,v=>∃a xs,v=.ref a/\dG K H a xs/\bu K H ds xs|.dict _,_=>False
noncomputable def bu(K:a4)(H:aI):List PyData->List V->Prop
 |[],xs=>xs=[]|d::ds,xs=>∃x r,xs=x::r/\Rep K H d x/\bu K H ds r
end
theorem dw.vI[a7]{K:a4}{H aa:aI}{a:Addr}{xs:List V}(e:dw H aa)(h:dG K H a xs):dG K aa a xs:=by
 rcases h with(h | ⟨o,h⟩) | h
 ·exact .inl (.inl (e.at' _ _ h))
 ·exact .inl (.inr ⟨o,e.at' _ _ h⟩)
 ·exact .inr h
section
variable{X:aS}{ae:c8}{σ:St}{H:aI}{s:ag9}
mutual
theorem Rep.reads(J:Inv X ae σ H s):∀{d:PyData}{v:V}{u:Value},Rep X.K H d v->RelV v u->∃as,Reads s.heap u d as
 | .none,_,_,h,r=>by cases h;cases r;exact⟨_,.none⟩
 | .bool _,_,_,h,r=>by cases h;cases r;exact⟨_,.bool _⟩
 | .int _,_,_,h,r=>by cases h;obtain⟨t,rfl⟩:=r;exact⟨_,.int _ _⟩
 | .str _,_,_,h,r=>by cases h;obtain⟨t,rfl⟩:=r;exact⟨_,.str _ _⟩
 |.list _,_,_,h,r=>by
  obtain⟨a,xs,rfl,l,q⟩:=h;cases r;obtain⟨its,bZ,⟨o,n,e,c,_,d⟩,_⟩:=J.list l;obtain⟨as,z⟩:=bu.reads J q bZ;exact⟨_,.list e c d (by simpa using z)⟩
 |.tuple _,_,_,h,r=>by
  obtain⟨a,xs,rfl,l,q⟩:=h;cases r;obtain⟨its,bZ,⟨o,e,c,n,d⟩,_⟩:=J.tuple l;obtain⟨as,z⟩:=bu.reads J q bZ;exact⟨_,.tuple e c d (by simpa using z)⟩
 |.dict _,_,_,h,_=>h.elim
theorem bu.reads(J:Inv X ae σ H s):∀{ds:List PyData}{xs:List V}{us:List Value},bu X.K H ds xs->Vals xs us->∃as,ReadsAll s.heap us ds as
 | [],_,_,h,r=>by cases h;cases r;exact⟨_,.nil⟩
 |_::_,_,_,h,r=>by
  obtain⟨x,t,rfl,a,b⟩:=h
  cases r with
  |cons bK cn=>
   obtain⟨as,kL⟩:=Rep.reads J a bK;obtain⟨bs,e'⟩:=bu.reads J b cn;exact⟨_,.cons kL e'⟩
end
end
section
variable{X:aS}
noncomputable def y'(K:a4)(neg:Bool):gE:=fun x y H Q=>∃d e,Rep K H d x/\Rep K H e y/\alX d=true/\alX e=true/\Q (.aB (if neg then !alN d e else alN d e)) H
theorem eU(a_:X.A.units+64<cLine):dv X (ahB .Eq) (y' X.K false):=by
 intro ae s σ H x y v u Q J a0 bx h;obtain⟨d,e,a,b,zw,i5,q⟩:=h;obtain⟨as,ck⟩:=a.reads J a0;obtain⟨bs,iJ⟩:=b.reads J bx;exact eq_dataH ck iJ zw i5 a_ ⟨.aB _,H,J,rfl,q⟩
theorem lu(a_:X.A.units+64<cLine):dv X (ahB .NotEq) (y' X.K true):=by
 intro ae s σ H x y v u Q J a0 bx h;obtain⟨d,e,a,b,zw,i5,q⟩:=h;obtain⟨as,ck⟩:=a.reads J a0;obtain⟨bs,iJ⟩:=b.reads J bx;exact ne_dataH ck iJ zw i5 a_ ⟨.aB _,H,J,rfl,q⟩
end
theorem EY{K:a4}{H:aI}:∀ns:List Int,bu K H (ns.map PyData.int) (ns.map V.int)
 |[]=>rfl|n::r=>⟨.int n,r.map V.int,rfl,rfl,EY r⟩
theorem eE:ahK "len"=some (.builtin "len"):=by decide +kernel
theorem ha:ahK "isinstance"=some (.builtin "isinstance"):=by decide +kernel
theorem H_:ahK "max"=some (.builtin "max"):=by decide +kernel
theorem QM:ahK "any"=some (.builtin "any"):=by decide +kernel
theorem xf:ahK "all"=some (.builtin "all"):=by decide +kernel
theorem Bk:ahK "int"=some (.type "int"):=by decide +kernel
theorem H9:ahK "bool"=some (.type "bool"):=by decide +kernel
theorem jk:ahK "tuple"=some (.type "tuple"):=by decide +kernel
theorem rV:ahK "str"=some (.type "str"):=by decide +kernel
variable[a7]
def wy(b1:iP)(H1:aI)(xs:List V):Prop:=∀H,dw H1 H->∀i,(i<xs.length->b1.go i H/\∀x aa,b1.tA i H x aa->aa=H/\xs[i]? = some x)/\(xs.length<=i->b1.stop i H)
theorem Kl{K:a4}{H:aI}{a:Addr}{xs:List V}(h:dD K H a xs):wy (oD K a) H xs:=fun aa s i=>
 ⟨fun aC=>⟨⟨xs,xs[i],s.seq h,by simp[aC]⟩,fun x iq y=>⟨y.1,y.2 xs (s.seq h)⟩⟩,fun aC=>⟨xs,s.seq h,aC⟩⟩
theorem Kn{K:a4}{H:aI}{a:Addr}{xs:List V}(h:dG K H a xs):wy (rE K a) H xs:=fun aa s i=>
 ⟨fun aC=>⟨⟨xs,xs[i],s.vI h,by simp[aC]⟩,fun x iq y=>⟨y.1,y.2 xs (s.vI h)⟩⟩,fun aC=>⟨xs,s.vI h,aC⟩⟩
noncomputable def pP(lo:Int)(n:Nat):List V:=(ahU n).map fun i=>V.int (lo+(i:Nat))
theorem Km(lo:Int)(n:Nat):wy (rC lo n) H (pP lo n):=fun aa s i=>by
 have ao:(pP lo n).length=n:=by unfold pP;rw[ag4,akX]
 refine⟨fun aC=>⟨by rw[ao]at aC;exact aC,fun x iq y=>⟨y.1,?_⟩⟩,fun aC=>by rw[ao]at aC;exact aC⟩;rw[ao]at aC;rw[y.2];unfold pP;rw[ahA,List.getElem?_range aC];rfl
end ak
namespace ak
open PySem PySem.Spec PyProof.Rows
theorem bB.none{P:ahq}{w:World}{K:a4}{I:br}{base:Heap}{x:Str}{st:Stmt}{ps:List Str}{k:Nat}{sp:gG}(D:bB K I x st ps)(no:∀ar H Q E,¬sp ar H Q E):bM P w K I base x ps k sp:=by
 obtain⟨f,fd,F,b,m⟩:=D.ex;exact⟨f,fd,⟨fun ar H Q E h=>absurd h (no ar H Q E),fun A outer s H args us ar Q E _ _ _ _ h=>absurd h (no ar H Q E)⟩,b,F.cv,m⟩
theorem Wu(K:a4):wA K:=⟨by
 intro t bG c aA;simp only[aha,List.mem_nil_iff,or_false]at bG aA;rcases bG with rfl | rfl | rfl | rfl | rfl | rfl<;>rcases aA with rfl | rfl | rfl | rfl | rfl<;>kernel_rfl⟩
theorem range_any(bs:List Bool):(ahU bs.length).any (fun i=>bs.getD i false)=bs.any id:=by
 rw[aif,aiK,aiK];constructor
 ·rintro⟨i,aC,h⟩
  have uP:=ah0.mp aC;refine⟨bs[i],ali uP,?_⟩;rw[aic,aim uP]at h;exact h
 ·rintro⟨b,U,h⟩
  obtain⟨i,aC,rfl⟩:=List.getElem_of_mem U;refine⟨i,ah0.mpr aC,?_⟩;rw[aic,aim aC];exact h
theorem range_all(bs:List Bool):(ahU bs.length).all (fun i=>bs.getD i false)=bs.all id:=by
 rw[aif,ahH,ahH];constructor
 ·intro h b U
  obtain⟨i,aC,rfl⟩:=List.getElem_of_mem U;have:=h i (ah0.mpr aC);rw[aic,aim aC]at this;exact this
 ·intro h i aC
  have uP:=ah0.mp aC;rw[aic,aim uP];exact h _ (ali uP)
section
variable{X:aS}{K:a4}
theorem N7{bs:List Bool}{its:List Value}(bZ:Vals (bs.map V.aB) its):TruthOf prog w A (fun i v=>its.toArray[i]? = some v) (fun i=>bs.getD i false):=by
 intro i v s Q E bF bf;have sm:its[i]? = some v:=by simpa using bF
 have aC:i<bs.length:=by
  have aj:=(ahe.mp sm).1;have h2:=bZ.length;rw[ag4]at h2;omega
 obtain⟨u,a_,iL⟩:=bZ.get (i:=i) (x:=.aB bs[i]) (by rw[ahA,aim aC];rfl);rw[sm]at a_;cases a_;cases iL;have mT:Q (bs.getD i false) s:=bf;rw[aic,aim aC]at mT;exact aik mT
theorem QT(aA:X.calm=true):g7 X (.builtin "any") (fun xs H Q=>∃(l:Addr)(bs:List Bool),xs=[.ref l]/\dD X.K H l (bs.map V.aB)/\Q (.aB (bs.any id)) H):=by
 intro ae s σ H xs us Q J bZ h;obtain⟨l,bs,rfl,lT,q⟩:=h;obtain⟨u,rfl,bK⟩:=vals1 bZ;cases bK;obtain⟨its,vE,p,aX⟩:=J.list lT;have er:l<s.heap.objs.size:=by obtain⟨o,n,e,_⟩:=p;exact ahf e
 refine call_any_walk (ajs p.isList ?_);refine⟨s.heap.objs.size,_,_,_,_,_,fun i=>bs.getD i false,rfl,Walks.list (A:=X.A.in1) (show X.A.in1.handled=none from J.ok.hd aA) s.heap.objs.size l (ahE er) its.toArray,⟨⟨_,aho _ rfl,rfl,rfl⟩,p.isList.at fun o e=>ag8 _ e⟩,N7 vE,fun h' tk k=>?_⟩;have aR:its.toArray.size=bs.length:=by
  have h2:=vE.length;rw[ag4]at h2;simp[h2]
 rw[aR,range_any];exact⟨.aB _,H,J.kept (h':=h') (t':=tk) fun b o e=>k b o (by intro z;rw[ahJ.mp z]at e;exact absurd (ahf e) (ahW _)) (ag8 _ e),rfl,q⟩
theorem xk(aA:X.calm=true):g7 X (.builtin "all") (fun xs H Q=>∃(l:Addr)(bs:List Bool),xs=[.ref l]/\dD X.K H l (bs.map V.aB)/\Q (.aB (bs.all id)) H):=by
 intro ae s σ H xs us Q J bZ h;obtain⟨l,bs,rfl,lT,q⟩:=h;obtain⟨u,rfl,bK⟩:=vals1 bZ;cases bK;obtain⟨its,vE,p,aX⟩:=J.list lT;have er:l<s.heap.objs.size:=by obtain⟨o,n,e,_⟩:=p;exact ahf e
 refine call_all_walk (ajs p.isList ?_);refine⟨s.heap.objs.size,_,_,_,_,_,fun i=>bs.getD i false,rfl,Walks.list (A:=X.A.in1) (show X.A.in1.handled=none from J.ok.hd aA) s.heap.objs.size l (ahE er) its.toArray,⟨⟨_,aho _ rfl,rfl,rfl⟩,p.isList.at fun o e=>ag8 _ e⟩,N7 vE,fun h' tk k=>?_⟩;have aR:its.toArray.size=bs.length:=by
  have h2:=vE.length;rw[ag4]at h2;simp[h2]
 rw[aR,range_all];exact⟨.aB _,H,J.kept (h':=h') (t':=tk) fun b o e=>k b o (by intro z;rw[ahJ.mp z]at e;exact absurd (ahf e) (ahW _)) (ag8 _ e),rfl,q⟩
end
section
variable{X:aS}
theorem od(a':dC X x)(h:∃u,X.I x=some u/\RelV v u)(hd:(x==("__debug__":Str))=false:=by decide):b3 X (.Name x pos) (nf v):=by
 obtain⟨u,hm,r⟩:=h;exact Ms a' hm r hd
variable[a7]
noncomputable def MS(K:a4):gE:=fun x y H Q=>∃a b xs ys,x=.ref a/\y=.ref b/\dG K H a xs/\dG K H b ys/\xs.length+ys.length<=ag5/\∀t aa,dw H aa->dG K aa t (xs++ys)->Q (.ref t) aa
theorem L':dv X (aiw .Add) (MS X.K):=by
 intro ae s σ H x y v u Q J a0 bx h;obtain⟨a,b,xs,ys,rfl,rfl,ax,U,aX,q⟩:=h
 by_cases av:xs=[]
 ·subst av
  cases a0;cases bx;obtain⟨its,bK,dy,_⟩:=J.tuple ax;obtain⟨mV,cn,cR,_⟩:=J.tuple U;cases bK;obtain⟨⟨cls,dd,data,c6⟩,aM,aA,n,hd⟩:=id dy;obtain⟨⟨RU,xO,data2,nc⟩,qE,qx,lr,hd2⟩:=id cR;simp only at aA hd qx hd2;subst aA hd qx hd2;exact concat_meets ⟨_,aM,rfl⟩ ⟨_,qE,rfl⟩ alg seq_tuple_add aj6 aj2 (ajS _ _)
   (tuple_addW0 a b _ mV.toArray n lr dd xO c6 nc rfl) ⟨aM,qE,⟨.ref b,H,J,rfl,q b H (dw.refl _) U⟩⟩
 ·refine Yz ae s σ H (.ref a) (.ref b) v u Q J a0 bx ⟨a,b,xs,ys,rfl,rfl,ax,U,av,aX,fun bo=>?_,fun _ p aP=>q p _ (i4 aP _) (dG.of eb)⟩
  refine q a H (dw.refl _) ?_;rw[bo,ahl];exact ax
end
end ak
set_option maxHeartbeats 1000000
namespace aN
open PySem PySem.Spec ak
variable[ak.a7]
inductive D where
 |ba | aB (b:Bool) | int (i:Int) | str (x:Str) | tup (xs:List D) | lst (xs:List D) | dX (bw:List Key) (ar:List D) | fn (f:Str) | ty (n:String)
noncomputable abbrev jB:=Int×Int×Int
inductive h3 where
 |lf (d:D) | ls (cc:List h3) | mE (bw:List Key) (cc:List h3) | cL (c:Str) (ns:List Str) (cc:List h3) | any | kI (cc:List h3)
inductive nE where
 |own | par | view
 deriving DecidableEq
inductive Slot where
 |emp | val (d:D) | b5 (p:Bool) (xs:List D) | cp (xs:List D) | gj (aK:List (Key×D)) | i8 (aK:List (Key×D)) | kE (aK:List (jB×D)) | j4 (aK:List (jB×D)) | fi (m:nE) (t:h3)
noncomputable abbrev a9:=List Slot
structure Pr where
 cls:Str
 fs:List (Str×Slot)
noncomputable abbrev e7:=List Pr
inductive Out(α:Type) where
 |ok (a:α) (S:e7) | exc (c:Str) (S:e7) | bad
structure M(α:Type):Type where
 run:e7->Out α
noncomputable def M.mz{α β:Type}(m:M α)(f:α->M β):M β:=⟨fun S=>match m.run S with
 |.ok a aJ=>(f a).run aJ|.exc c aJ=>.exc c aJ| .bad=>.bad⟩
noncomputable instance:Monad M where
 pure a:=⟨fun S=>.ok a S⟩
 bind:=M.mz
omit [ak.a7]in
theorem M.ext{α:Type}{x y:M α}(h:∀S,x.run S=y.run S):x=y:=by
 cases x;cases y;congr;funext S;exact h S
omit [ak.a7]in
theorem M.QF{α β:Type}(m:M α)(f:α->M β):(m >>= f)=M.mz m f:=rfl
noncomputable instance:LawfulMonad M:=LawfulMonad.mk'
 (id_map:=fun x=>M.ext fun S=>by show(M.mz x (fun a=>pure (id a))).run S=x.run S;unfold M.mz;dsimp only;cases x.run S<;>rfl)
 (pure_bind:=fun x f=>rfl)
 (bind_assoc:=fun x f g=>M.ext fun S=>by show(M.mz (M.mz x f) g).run S=(M.mz x (fun a=>M.mz (f a) g)).run S;unfold M.mz;dsimp only;cases x.run S<;>rfl)
 (bind_pure_comp:=fun f x=>rfl)
noncomputable def bad{α:Type}:M α:=⟨fun _=>.bad⟩
omit [ak.a7]in
theorem M.inv{α β:Type}{m:M α}{f:α->M β}{S aJ:e7}{b:β}(h:(m >>= f).run S=.ok b aJ):∃a a6,m.run S=.ok a a6/\(f a).run a6=.ok b aJ:=by
 rw[M.QF]at h;unfold M.mz at h;dsimp only at h
 cases e:m.run S with
 |ok a a6=>rw[e]at h;exact⟨a,a6,rfl,h⟩|exc c a6=>rw[e]at h;cases h
 |bad=>rw[e]at h;cases h
noncomputable def eS(p:Prop)[Decidable p]:M Unit:=if p then pure ()else bad
omit [ak.a7]in
theorem mD{p:Prop}[Decidable p](h:(eS p).run S=.ok u aJ):p/\S=aJ:=by
 unfold eS at h
 by_cases aP:p
 ·rw[if_pos aP]at h;cases h;exact⟨aP,rfl⟩
 ·rw[if_neg aP]at h;cases h
inductive R where
 |v (d:D) | fr (xs:List D) | cp (xs:List D) | ej (xs:List D) | eY (aK:List (Key×D))
noncomputable abbrev bj:=a9->M R
inductive Own where
 |free | out | eK | loc (i:Nat) | fi (i:Nat) (p:List Nat)
 deriving DecidableEq
noncomputable def Own.at:Own->List Nat->Own
 |.loc i,p=>.fi i p|w,_=>w
noncomputable def nE.b5:nE->Own->Own
 |.view,_=>.out|_,w=>w
noncomputable abbrev b9:=Addr->Own
def Ai(K:a4)(a:Addr)(xs:List V):Prop:=
 ∃(o:Obj)(its:Array Value)(n:Nat),K.lookup a=some o/\o.cls=.type "list"/\o.dict=none/\o.data=.seq its n/\its.size<=ag5/\Vals xs its.toList
def rF(_:a4)(O:b9)(H:aI)(a:Addr)(ys:List V):Prop:=H a=some (.lst ys)/\O a=.free
mutual
noncomputable def Rep(K:a4)(I:br)(O:b9)(H:aI):D->V->Prop
 |.ba,v=>v=.ba|.aB b,v=>v=.aB b|.int i,v=>v=.int i|.str x,v=>v=.str x|.tup xs,v=>∃a ys,v=.ref a/\dG K H a ys/\bu K I O H xs ys|.lst xs,v=>∃a ys,v=.ref a/\rF K O H a ys/\bu K I O H xs ys|.dX _ _,_=>False|.fn f,v=>∃a,v=.ref a/\I f=some (.ref a)|.ty n,v=>v=.ty n
noncomputable def bu(K:a4)(I:br)(O:b9)(H:aI):List D->List V->Prop
 |[],ys=>ys=[]|x::xs,ys=>∃y r,ys=y::r/\Rep K I O H x y/\bu K I O H xs r
end
structure Go(O aD:b9)(H aa:aI):Prop where
 same:dw H aa
 own:∀b,H b≠none->aD b=O b
theorem Go.refl(O:b9)(H:aI):Go O O H H:=⟨dw.refl _,fun _ _=>rfl⟩
theorem Go.trans(a:Go O aY H H1)(b:Go aY bt H1 aZ):Go O bt H aZ:=
 ⟨a.same.trans b.same,fun c h=>(b.own c (a.same.some h)).trans (a.own c h)⟩
theorem ed.same(s:dw H aa)(h:ed H a u)(n:h_ u:=by exact trivial):ed aa a u:=by
 rcases h with h | ⟨o,h⟩
 ·exact .inl (s.at' _ _ h n)
 ·exact .inr ⟨o,s.at' _ _ h⟩
omit [ak.a7]in
theorem ed.some{H:aI}(h:ed H a u):H a≠none:=by
 rcases h with h | ⟨o,h⟩<;>rw[h]<;>intro z<;>cases z
theorem rF.e5(h:rF K O H a ys):dD K H a ys:=dD.of h.1
def hY(K:a4)(O:b9)(H:aI)(a:Addr)(ys:List V):Prop:=(ed H a (.lst ys)/\(O a=.free\/O a=.out))\/Ai K a ys
theorem hY.e5(h:hY K O H a ys):dD K H a ys:=h.elim (fun z=>.inl z.1) .inr
theorem hY.go(g:Go O aD H aa)(h:hY K O H a ys):hY K aD aa a ys:=by
 rcases h with⟨l,f⟩ | l
 ·exact .inl ⟨ed.same g.same l,by rw[g.own a (ed.some l)];exact f⟩
 ·exact .inr l
theorem rF.go(g:Go O aD H aa)(h:rF K O H a ys):rF K aD aa a ys:=by
 exact⟨g.same.at' _ _ h.1,(g.own a (by rw[h.1];intro z;cases z)).trans h.2⟩
section
variable{K:a4}{I:br}{O aD:b9}{H aa:aI}
mutual
theorem Rep.go(g:Go O aD H aa):∀{d:D}{v:V},Rep K I O H d v->Rep K I aD aa d v
 |.ba,_,h=>h|.aB _,_,h=>h|.int _,_,h=>h|.str _,_,h=>h| .tup _,_,h=>by obtain⟨a,ys,q,l,r⟩:=h;exact⟨a,ys,q,g.same.vI l,bu.go g r⟩
 | .lst _,_,h=>by obtain⟨a,ys,q,l,r⟩:=h;exact⟨a,ys,q,l.go g,bu.go g r⟩
 |.dX _ _,_,h=>h|.fn _,_,h=>h|.ty _,_,h=>h
theorem bu.go(g:Go O aD H aa):∀{ds:List D}{ys:List V},bu K I O H ds ys->bu K I aD aa ds ys
 |[],_,h=>h| _::_,_,h=>by obtain⟨x,r,q,a,b⟩:=h;exact⟨x,r,q,Rep.go g a,bu.go g b⟩
end
structure iO(O aD:b9):Prop where
 fr:∀a,O a=.free->aD a=.free
mutual
theorem Rep.cK(g:iO O aD):∀{d:D}{v:V},Rep K I O H d v->Rep K I aD H d v
 |.ba,_,h=>h|.aB _,_,h=>h|.int _,_,h=>h|.str _,_,h=>h| .tup _,_,h=>by obtain⟨a,ys,q,l,r⟩:=h;exact⟨a,ys,q,l,bu.cK g r⟩
 | .lst _,_,h=>by obtain⟨a,ys,q,l,r⟩:=h;exact⟨a,ys,q,⟨l.1,g.fr _ l.2⟩,bu.cK g r⟩
 |.dX _ _,_,h=>h|.fn _,_,h=>h|.ty _,_,h=>h
theorem bu.cK(g:iO O aD):∀{ds:List D}{ys:List V},bu K I O H ds ys->bu K I aD H ds ys
 |[],_,h=>h| _::_,_,h=>by obtain⟨x,r,q,a,b⟩:=h;exact⟨x,r,q,Rep.cK g a,bu.cK g b⟩
end
theorem bu.len:∀{ds:List D}{xs:List V},bu K I O H ds xs->xs.length=ds.length
 | [],_,h=>by cases h;rfl
 | _::_,_,h=>by obtain⟨x,r,rfl,_,b⟩:=h;rw[ahj,ahj,bu.len b]
theorem bu.get:∀{ds:List D}{xs:List V}{i:Nat}{d:D},bu K I O H ds xs->ds[i]? = some d->∃x,xs[i]? = some x/\Rep K I O H d x
 | [],_,_,_,_,e=>by simp at e| _::_,_,0,d,h,e=>by obtain⟨x,r,rfl,a,_⟩:=h;cases(show some _=some d from e);exact⟨x,rfl,a⟩
 |_::ds,_,i+1,d,h,e=>by
  obtain⟨x,r,rfl,_,b⟩:=h;obtain⟨y,aH,aT⟩:=bu.get (i:=i) b (by simpa using e);exact⟨y,by simpa using aH,aT⟩
theorem bu.append:∀{ds aE:List D}{xs ys:List V},bu K I O H ds xs->bu K I O H aE ys->bu K I O H (ds++aE) (xs++ys)
 | [],_,_,_,h,q=>by cases h;exact q
 | _::_,_,_,_,h,q=>by obtain⟨x,r,rfl,a,b⟩:=h;exact⟨x,_,rfl,a,bu.append b q⟩
theorem bu.one(h:Rep K I O H d x):bu K I O H [d] [x]:=⟨x,[],rfl,h,rfl⟩
theorem bu.take:∀{ds:List D}{xs:List V}(n:Nat),bu K I O H ds xs->bu K I O H (ds.take n) (xs.take n)
 | [],_,_,h=>by cases h;rw[alP,alP];rfl
 | _::_,_,0,_=>by rw[List.take_zero,List.take_zero];rfl| _::_,_,n+1,h=>by obtain⟨x,r,rfl,a,b⟩:=h;exact⟨x,_,rfl,a,bu.take n b⟩
theorem bu.drop:∀{ds:List D}{xs:List V}(n:Nat),bu K I O H ds xs->bu K I O H (ds.drop n) (xs.drop n)
 | [],_,_,h=>by cases h;rw[List.drop_nil,List.drop_nil];rfl
 |_::_,_,0,h=>h| _::_,_,n+1,h=>by obtain⟨x,r,rfl,a,b⟩:=h;exact bu.drop n b
theorem bu.dropLast:∀{ds:List D}{xs:List V},bu K I O H ds xs->bu K I O H ds.dropLast xs.dropLast:=fun{ds xs} h=>by
 rw[List.dropLast_eq_take,List.dropLast_eq_take,h.len];exact h.take _
theorem EY(ns:List Int):bu K I O H (ns.map D.int) (ns.map V.int):=by
 induction ns with
 |nil=>rfl|cons n r bk=>exact⟨.int n,_,rfl,rfl,bk⟩
def eP(K:a4)(I:br)(O:b9)(H:aI)(aK:List (Key×D))(c9:List (Key×V)):Prop:=aK.map (·.1)=c9.map (·.1)/\bu K I O H (aK.map (·.2)) (c9.map (·.2))
theorem eP.go(g:Go O aD H aa){aK:List (Key×D)}(h:eP K I O H aK c9):eP K I aD aa aK c9:=⟨h.1,h.2.go g⟩
theorem eP.cK(g:iO O aD){aK:List (Key×D)}(h:eP K I O H aK c9):eP K I aD H aK c9:=⟨h.1,h.2.cK g⟩
noncomputable def Zk(p:jB):D:=.tup [.int p.1,.tup [.int p.2.1,.int p.2.2]]
noncomputable def Zm(p:jB):Int:=reduceHash (ak3 [hashInt p.1,reduceHash (ak3 [hashInt p.2.1,hashInt p.2.2])])
noncomputable def Zl(x:jB×Addr×Value):akH:=⟨Zm x.1,.ref x.2.1,x.2.2⟩
noncomputable abbrev GK(a:Addr)(xs:List (jB×Addr×Value)):eW:=.ext fun h=>∃o aE ei,h.get? a=some o/\o.ExactDict/\o.data=.dict aE ei/\aE.toList=xs.map Zl
def GN(a:Addr)(xs:List (jB×Addr×Value)):Prop:=(a==aiI)=false/\(xs.map (·.1)).Nodup
noncomputable def kb(K:a4)(I:br)(O:b9)(H:aI):List (jB×D)->List (jB×Addr×Value)->Prop
 |[],xs=>xs=[]|p::aK,xs=>∃x r,xs=x::r/\p.1=x.1/\Rep K I O H (Zk p.1) (.ref x.2.1)/\(∃v,Rep K I O H p.2 v/\RelV v x.2.2)/\kb K I O H aK r
theorem kb.all(f:∀d v,Rep K I O H d v->Rep K I aD aa d v):∀{aK:List (jB×D)}{xs:List (jB×Addr×Value)},kb K I O H aK xs->kb K I aD aa aK xs
 |[],_,h=>h|_::_,_,h=>by
  obtain⟨x,r,e,aH,aj,⟨v,h2,bz⟩,c0⟩:=h;exact⟨x,r,e,aH,f _ _ aj,⟨v,f _ _ h2,bz⟩,kb.all f c0⟩
theorem kb.go(g:Go O aD H aa){aK:List (jB×D)}(h:kb K I O H aK xs):kb K I aD aa aK xs:=h.all fun _ _ z=>Rep.go g z
theorem kb.cK(g:iO O aD){aK:List (jB×D)}(h:kb K I O H aK xs):kb K I aD H aK xs:=h.all fun _ _ z=>Rep.cK g z
noncomputable def fZ(K:a4)(I:br)(O:b9)(H:aI):R->V->Prop
 |.v d,v=>Rep K I O H d v|.fr xs,v=>∃a ys,v=.ref a/\H a=some (.lst ys)/\O a=.eK/\bu K I O H xs ys|.cp xs,v=>∃a ys,v=.ref a/\hY K O H a ys/\bu K I O H xs ys|.ej xs,v=>∃a ys,v=.ref a/\H a=some (.lst ys)/\bu K I O H xs ys|.eY aK,v=>∃a c9,v=.ref a/\ed H a (.d2 c9)/\eP K I O H aK c9
theorem fZ.go(g:Go O aD H aa):∀{r:R}{v:V},fZ K I O H r v->fZ K I aD aa r v
 |.v _,_,h=>Rep.go g h| .fr _,_,h=>by obtain⟨a,ys,q,l,o,r⟩:=h;exact⟨a,ys,q,g.same.at' _ _ l,(g.own a (by rw[l];intro z;cases z)).trans o,r.go g⟩
 | .cp _,_,h=>by obtain⟨a,ys,q,l,r⟩:=h;exact⟨a,ys,q,l.go g,r.go g⟩
 | .ej _,_,h=>by obtain⟨a,ys,q,l,r⟩:=h;exact⟨a,ys,q,g.same.at' _ _ l,r.go g⟩
 | .eY _,_,h=>by obtain⟨a,ys,q,l,r⟩:=h;exact⟨a,ys,q,ed.same g.same l,r.go g⟩
def O'(K:a4)(I:br)(c:Str)(C:Addr):Prop:=I c=some (.ref C)/\O_ K C
mutual
noncomputable def jh(K:a4)(I:br)(O:b9)(H:aI)(w:Own):List Nat->h3->V->Prop
 |_,.lf d,v=>Rep K I O H d v|p,.ls cc,v=>∃a ys,v=.ref a/\O a=w.at p/\H a=some (.lst ys)/\eQ K I O H w p 0 cc ys|p,.mE bw cc,v=>∃a ys,v=.ref a/\O a=w.at p/\H a=some (.d2 (bw.zip ys))/\(bw.length=ys.length/\bw.Nodup)/\eQ K I O H w p 0 cc ys|p,.cL c ns cc,v=>∃a C jG ys,v=.ref a/\O a=w.at p/\H a=some (.ins C jG (ns.zip ys))/\(ns.length=ys.length/\ns.Nodup/\O' K I c C)/\eQ K I O H w p 0 cc ys|_,.any,_=>True|p,.kI cc,v=>∃a ys,v=.ref a/\O a=w.at p/\H a=some (.tup ys)/\eQ K I O H w p 0 cc ys
noncomputable def eQ(K:a4)(I:br)(O:b9)(H:aI)(w:Own):List Nat->Nat->List h3->List V->Prop
 |_,_,[],ys=>ys=[]|p,n,t::cc,ys=>∃y r,ys=y::r/\jh K I O H w (p++[n]) t y/\eQ K I O H w p (n+1) cc r
end
mutual
theorem jh.all{aD:b9}{aa:aI}{w:Own}(f:∀d v,Rep K I O H d v->Rep K I aD aa d v)(g:∀(a:Addr)(u:eW)(p:List Nat),O a=w.at p->H a=some u->h_ u->aD a=w.at p/\aa a=some u):∀(t:h3){p:List Nat}{v:V},jh K I O H w p t v->jh K I aD aa w p t v
 |.lf _,_,_,h=>f _ _ h|.ls cc,_,_,h=>by
  obtain⟨a,ys,e,o,l,r⟩:=h;obtain⟨c_,js⟩:=g _ _ _ o l trivial;exact⟨a,ys,e,c_,js,eQ.all f g cc r⟩
 |.mE _ cc,_,_,h=>by
  obtain⟨a,ys,e,o,l,q,r⟩:=h;obtain⟨c_,js⟩:=g _ _ _ o l trivial;exact⟨a,ys,e,c_,js,q,eQ.all f g cc r⟩
 |.cL _ _ cc,_,_,h=>by
  obtain⟨a,C,jG,ys,e,o,l,q,r⟩:=h;obtain⟨c_,js⟩:=g _ _ _ o l trivial;exact⟨a,C,jG,ys,e,c_,js,q,eQ.all f g cc r⟩
 |.any,_,_,_=>trivial|.kI cc,_,_,h=>by
  obtain⟨a,ys,e,o,l,r⟩:=h;obtain⟨c_,js⟩:=g _ _ _ o l trivial;exact⟨a,ys,e,c_,js,eQ.all f g cc r⟩
theorem eQ.all{aD:b9}{aa:aI}{w:Own}(f:∀d v,Rep K I O H d v->Rep K I aD aa d v)(g:∀(a:Addr)(u:eW)(p:List Nat),O a=w.at p->H a=some u->h_ u->aD a=w.at p/\aa a=some u):∀(cc:List h3){p:List Nat}{n:Nat}{ys:List V},eQ K I O H w p n cc ys->eQ K I aD aa w p n cc ys
 |[],_,_,_,h=>h|t::cc,_,_,_,h=>by
  obtain⟨y,r,e,a,b⟩:=h;exact⟨y,r,e,jh.all f g t a,eQ.all f g cc b⟩
end
theorem jh.go(g:Go O aD H aa)(h:jh K I O H w p t v):jh K I aD aa w p t v:=
 h.all (fun _ _ z=>Rep.go g z) fun a u _ o l n=>⟨(g.own a (by rw[l];intro z;cases z)).trans o,g.same.at' _ _ l n⟩
noncomputable def gF(K:a4)(I:br)(O:b9)(H:aI)(w:Own):Slot->Option V->Prop
 |.emp,_=>True|.val d,u=>∃v,u=some v/\Rep K I O H d v|.b5 _ xs,u=>∃a ys,u=some (.ref a)/\O a=w/\H a=some (.lst ys)/\bu K I O H xs ys|.cp xs,u=>∃a ys,u=some (.ref a)/\hY K O H a ys/\bu K I O H xs ys|.gj aK,u=>∃a c9,u=some (.ref a)/\O a=w/\H a=some (.d2 c9)/\eP K I O H aK c9|.i8 aK,u=>∃a c9,u=some (.ref a)/\(ed H a (.d2 c9)/\(O a=.free\/O a=.out))/\eP K I O H aK c9|.kE aK,u=>∃a xs,u=some (.ref a)/\O a=w/\H a=some (GK a xs)/\GN a xs/\kb K I O H aK xs|.j4 aK,u=>∃a xs,u=some (.ref a)/\(ed H a (GK a xs)/\(O a=.free\/O a=.out))/\GN a xs/\kb K I O H aK xs|.fi m t,u=>∃v,u=some v/\jh K I O H (m.b5 w) [] t v
theorem gF.go(g:Go O aD H aa):∀{s:Slot}{u:Option V},gF K I O H w s u->gF K I aD aa w s u
 |.emp,_,_=>trivial| .val _,_,h=>by obtain⟨v,q,r⟩:=h;exact⟨v,q,r.go g⟩
 | .b5 _ _,_,h=>by obtain⟨a,ys,q,o,l,r⟩:=h;exact⟨a,ys,q,(g.own a (by rw[l];intro z;cases z)).trans o,g.same.at' _ _ l,r.go g⟩
 |.cp _,_,h=>by
  obtain⟨a,ys,q,l,r⟩:=h;exact⟨a,ys,q,l.go g,r.go g⟩
 | .gj _,_,h=>by obtain⟨a,ys,q,o,l,r⟩:=h;exact⟨a,ys,q,(g.own a (by rw[l];intro z;cases z)).trans o,g.same.at' _ _ l,r.go g⟩
 | .i8 _,_,h=>by obtain⟨a,ys,q,l,r⟩:=h;exact⟨a,ys,q,⟨ed.same g.same l.1,by rw[g.own a (ed.some l.1)];exact l.2⟩,r.go g⟩
 | .kE _,_,h=>by obtain⟨a,ys,q,o,l,r⟩:=h;exact⟨a,ys,q,(g.own a (by rw[l];intro z;cases z)).trans o,g.same.at' _ _ l,r.1,r.2.go g⟩
 | .j4 _,_,h=>by obtain⟨a,ys,q,l,r⟩:=h;exact⟨a,ys,q,⟨ed.same g.same l.1,by rw[g.own a (ed.some l.1)];exact l.2⟩,r.1,r.2.go g⟩
 | .fi _ _,_,h=>by obtain⟨v,q,r⟩:=h;exact⟨v,q,r.go g⟩
end
theorem nE.ne{m:nE}{w:Own}(aM:o≠.out)(bG:∀p,o≠w.at p):∀p,o≠(m.b5 w).at p:=fun p=>by
 cases m with
 |view=>exact aM|own=>exact bG p|par=>exact bG p
structure dP(O:b9)(H:aI):Prop where
 has:∀a,O a≠.free->H a≠none
 tabs:TabsOk H
structure cj(K:a4)(I:br)(O:b9)(σ:a9)(S:e7)(az:St)(H:aI):Prop where
 dh:dP O H
 len:σ.length=az.length
 loc:∀i s,σ[i]? = some s->gF K I O H (.loc i) s (az[i]?.join)
 emp:S=[]
theorem cj.go(h:cj K I O σ S az H)(g:Go O aD H aa)(d:dP aD aa):cj K I aD σ S az aa:=
 ⟨d,h.len,fun i s e=>(h.loc i s e).go g,h.emp⟩
noncomputable def g5(O:b9)(a:Addr)(o:Own):b9:=fun b=>if b=a then o else O b
omit [ak.a7]in
theorem om:g5 O a o a=o:=if_pos rfl
omit [ak.a7]in
theorem mg{O:b9}(h:b≠a):g5 O a o b=O b:=if_neg h
section
variable{K:a4}{I:br}{O:b9}{σ:a9}{S:e7}{az:St}{H:aI}{p:Addr}{u:eW}{o:Own}
theorem Go.new(aP:H p=none):Go O (g5 O p o) H (upd H p u):=
 ⟨i4 aP u,fun b U=>mg (by rintro rfl;exact U aP)⟩
theorem Go.fT(aP:H p=none):Go O O H (upd H p u):=⟨i4 aP u,fun _ _=>rfl⟩
theorem dP.new(d:dP O H)(aP:H p=none):dP (g5 O p o) (upd H p u):=⟨fun a ax=>by
 by_cases e:a=p
 ·subst e;rw[eb];intro z;cases z
 ·rw[cP e];rw[mg e]at ax;exact d.has a ax,d.tabs.new aP u⟩
theorem dP.same(d:dP O H)(s:dw H aa):dP O aa:=⟨fun a ax=>s.some (d.has a ax),s.cI d.tabs⟩
theorem dP.free(d:dP O H)(aP:H p=none):O p=.free:=by
 cases e:O p with
 |free=>rfl| _=>exact absurd aP (d.has p (by rw[e];intro z;cases z))
theorem cj.new(h:cj K I O σ S az H)(aP:H p=none):cj K I (g5 O p o) σ S az (upd H p u):=h.go (Go.new aP) (h.dh.new aP)
theorem cj.fT(h:cj K I O σ S az H)(aP:H p=none):cj K I O σ S az (upd H p u):=h.go (Go.fT aP) (h.dh.same (i4 aP u))
end
noncomputable def oE(H:aI):R->V->Prop
 |.fr _,v=>∀a,v=.ref a->H a=none|_,_=>True
theorem oE.back(s:dw H H1):∀{r:R}{v:V},oE H1 r v->oE H r v
 |.v _,_,_=>trivial|.cp _,_,_=>trivial|.ej _,_,_=>trivial|.eY _,_,_=>trivial|.fr _,_,h=>fun a e=>s.free (h a e)
noncomputable def oF(H:aI):List R->List V->Prop
 |r::rs,v::ar=>oE H r v/\oF H rs ar|_,_=>True
theorem oF.back(s:dw H H1):∀{rs:List R}{ar:List V},oF H1 rs ar->oF H rs ar
 |[],_,_=>trivial|_::_,[],_=>trivial|_::_,_::_,h=>⟨h.1.back s,oF.back s h.2⟩
def p_(K:a4)(I:br)(O:b9)(σ:a9)(aJ:e7)(az:St)(H:aI)(r:R)(Q:cY):Prop:=
 ∀aD v aa,Go O aD H aa->cj K I aD σ aJ az aa->fZ K I aD aa r v->oE H r v->Q v aa
noncomputable def fw(K:a4)(I:br)(m:bj):TE:=fun az H Q=>∃O σ S r aJ,cj K I O σ S az H/\(m σ).run S=.ok r aJ/\p_ K I O σ aJ az H r Q
noncomputable def mc(K:a4)(I:br)(m:a9->M Bool):TT:=fun az H Q=>∃O σ S b aJ,cj K I O σ S az H/\(m σ).run S=.ok b aJ/\∀aD aa,Go O aD H aa->cj K I aD σ aJ az aa->Q b aa
abbrev cg(X:aS)(e:Expr)(m:bj):Prop:=b3 X e (fw X.K X.I m)
abbrev hx(X:aS)(e:Expr)(m:a9->M Bool):Prop:=hZ X e (mc X.K X.I m)
abbrev mq(X:aS)(e:Expr)(m:a9->M Bool):Prop:=lM X e (mc X.K X.I m)
noncomputable def h1(K:a4)(I:br)(O:b9)(H:aI):List R->List V->Prop
 |[],ys=>ys=[]|x::xs,ys=>∃y r,ys=y::r/\fZ K I O H x y/\h1 K I O H xs r
theorem h1.go(g:Go O aD H aa):∀{rs:List R}{ys:List V},h1 K I O H rs ys->h1 K I aD aa rs ys
 |[],_,h=>h| _::_,_,h=>by obtain⟨x,r,q,a,b⟩:=h;exact⟨x,r,q,a.go g,h1.go g b⟩
theorem h1.len:∀{rs:List R}{ys:List V},h1 K I O H rs ys->ys.length=rs.length
 | [],_,h=>by cases h;rfl
 | _::_,_,h=>by obtain⟨x,r,rfl,_,b⟩:=h;rw[ahj,ahj,h1.len b]
noncomputable abbrev cQ:=a9->M (List R)
noncomputable def ng(K:a4)(I:br)(m:cQ):f3:=fun az H Q=>∃O σ S rs aJ,cj K I O σ S az H/\(m σ).run S=.ok rs aJ/\∀aD ar aa,Go O aD H aa->cj K I aD σ aJ az aa->h1 K I aD aa rs ar->oF H rs ar->Q ar aa
abbrev jb(X:aS)(aE:List Expr)(m:cQ):Prop:=g_ X aE (ng X.K X.I m)
theorem et{t t':TE}(h:b3 X e t)(i:∀σ H Q,t' σ H Q->t σ H Q):b3 X e t':=fun ae s σ H Q J q=>h ae s σ H Q J (i _ _ _ q)
theorem vv{t t':TT}(h:hZ X e t)(i:∀σ H Q,t' σ H Q->t σ H Q):hZ X e t':=fun ae s σ H Q J q=>h ae s σ H Q J (i _ _ _ q)
theorem MN{t t':TT}(h:lM X e t)(i:∀σ H Q,t' σ H Q->t σ H Q):lM X e t':=fun rq ae s σ H Q J q=>h rq ae s σ H Q J (i _ _ _ q)
theorem td{t t':f3}(h:g_ X aE t)(i:∀σ H Q,t' σ H Q->t σ H Q):g_ X aE t':=fun pos ae s σ H Q J q=>h pos ae s σ H Q J (i _ _ _ q)
noncomputable def ag(i:Nat):bj:=fun σ=>match σ[i]? with
 |some (.val d)=>pure (.v d)|some (.b5 _ xs)=>pure (.ej xs)|some (.cp xs)=>pure (.cp xs)|some (.gj aK)=>pure (.eY aK)|some (.i8 aK)=>pure (.eY aK)|_=>bad
noncomputable def ai(d:D):bj:=fun _=>pure (.v d)
section
variable{X:aS}{a b c e:Expr}{cO cw d8 m:bj}{ta cJ:a9->M Bool}{pos:Pos}
theorem RF(i:Nat){x:Str}{pos:Pos}(bY:X.N[i]? = some x:=by rfl)(bF:gT X.env.scope x:=by first | exact aiz rfl | exact ajv (.inl rfl) | exact ajv (ajv rfl))(hd:(x==("__debug__":Str))=false:=by decide)
  (dN:(x==("__classdict__":Str))=false:=by decide):cg X (.Name x pos) (ag i):=et (lx bY bF hd dN)<|by
 rintro az H Q ⟨O,σ,S,r,aJ,st,h,q⟩;unfold ag at h
 cases e:σ[i]? with
 |none=>rw[e]at h;cases h
 |some s=>
  rw[e]at h;have l:=st.loc i s e;have get:∀{v:V},az[i]?.join=some v->az[i]? = some (some v):=fun{v} z=>by
   cases w:az[i]? with
   |none=>rw[w]at z;cases z
   |some y=>rw[w]at z;exact congrArg some z
  cases s with
  |val d=>
   obtain⟨v,aH,aT⟩:=l;cases h;exact⟨v,get aH,q O v H (Go.refl _ _) st aT trivial⟩
  |b5 p xs=>
   obtain⟨a,ys,aH,aT,dt,gY⟩:=l;cases h;exact⟨_,get aH,q O _ H (Go.refl _ _) st ⟨a,ys,rfl,dt,gY⟩ trivial⟩
  |cp xs=>
   obtain⟨a,ys,aH,aT,gY⟩:=l;cases h;exact⟨_,get aH,q O _ H (Go.refl _ _) st ⟨a,ys,rfl,aT,gY⟩ trivial⟩
  |emp=>cases h
  |kE k=>cases h
  |j4 k=>cases h
  |fi _ _=>cases h
  |gj k=>
   obtain⟨a,ys,aH,aT,dt,gY⟩:=l;cases h;exact⟨_,get aH,q O _ H (Go.refl _ _) st ⟨a,ys,rfl,.inl dt,gY⟩ trivial⟩
  |i8 k=>
   obtain⟨a,ys,aH,aT,gY⟩:=l;cases h;exact⟨_,get aH,q O _ H (Go.refl _ _) st ⟨a,ys,rfl,aT.1,gY⟩ trivial⟩
theorem r2(h:b3 X e (nf v))(r:∀O H,Rep X.K X.I O H d v):cg X e (ai d):=et h<|by
 rintro az H Q ⟨O,σ,S,bq,aJ,st,h,q⟩;cases h;exact q O v H (Go.refl _ _) st (r O H) trivial
theorem Rn{i j pos}:cg X (.Constant (.int i) j pos) (ai (.int i)):=r2 Y6 fun _ _=>rfl
theorem Rc{b j pos}:cg X (.Constant (.bool b) j pos) (ai (.aB b)):=r2 YY fun _ _=>rfl
theorem Rr{j pos}:cg X (.Constant .none j pos) (ai .ba):=r2 Y8 fun _ _=>rfl
theorem RA{x j pos}:cg X (.Constant (.str x) j pos) (ai (.str x)):=r2 Mu fun _ _=>rfl
noncomputable def au(f:R->R->M R)(a b:bj):bj:=fun σ=>do
 let x <-a σ
 let y <-b σ
 f x y
def dB(K:a4)(I:br)(r:gE)(f:R->R->M R):Prop:=
 ∀O σ S az H x y a0 bx bq aJ (Q:cY),cj K I O σ S az H->fZ K I O H a0 x->fZ K I O H bx y->(f a0 bx).run S=.ok bq aJ->p_ K I O σ aJ az H bq Q->r x y H Q
theorem xg(hf:dB K I r f):∀az H Q,fw K I (au f cO cw) az H Q->vR r (fw K I cO) (fw K I cw) az H Q:=by
 rintro az H Q ⟨O,σ,S,bq,aJ,st,h,q⟩;obtain⟨x,a6,aj,h⟩:=M.inv h;obtain⟨y,bS,h2,h⟩:=M.inv h;refine⟨O,σ,S,x,a6,st,aj,fun aY fy H1 g1 a3 a0 a8=>?_⟩;refine⟨aY,σ,a6,y,bS,a3,h2,fun bt tu aZ g2 cW bx sU=>?_⟩;exact hf bt σ bS az aZ fy tu x y bq aJ Q cW (a0.go g2) bx h fun aD v aa g b2 bD nn=>q aD v aa ((g1.trans g2).trans g) b2 bD (nn.back (g1.trans g2).same)
theorem Rv(aM:dv X (aiw op) r)(hf:dB X.K X.I r f)(ax:cg X a cO)(U:cg X b cw):cg X (.BinOp a op b pos) (au f cO cw):=et (EI aM ax U) (xg hf)
theorem Ri(aM:dv X (ahB op) r)(hf:dB X.K X.I r f)(ax:cg X a cO)(U:cg X b cw)(hm:ah8 op b=false):cg X (.Compare a [op] [b] pos) (au f cO cw):=et (Y0 aM ax U hm) (xg hf)
theorem Ro(aM:lJ X r)(hf:dB X.K X.I r f)(ax:cg X a cO)(U:cg X b cw)(aQ:Ao b):cg X (.Subscript a b pos) (au f cO cw):=et (Y7 aM ax U aQ) (xg hf)
noncomputable def R.lB:R->M Bool
 |.v (.aB b)=>pure b|_=>bad
noncomputable def bb(m:bj):a9->M Bool:=fun σ=>do
 let x <-m σ
 x.lB
omit [ak.a7]in
theorem vV{r:R}{b:Bool}{S aJ:e7}(h:r.lB.run S=.ok b aJ):r=.v (.aB b)/\S=aJ:=by
 cases r with
 |v d=>cases d<;>cases h<;>exact⟨rfl,rfl⟩
 |fr _=>cases h
 |cp _=>cases h
 |ej _=>cases h
 |eY _=>cases h
theorem zI:∀az H Q,mc K I (bb m) az H Q->vT (fw K I m) az H Q:=by
 rintro az H Q ⟨O,σ,S,t,aJ,st,h,q⟩;obtain⟨x,a6,aj,h⟩:=M.inv h;obtain⟨rfl,rfl⟩:=vV h;exact⟨O,σ,S,_,_,st,aj,fun aD v aa g b2 bD _=>⟨t,bD,q aD aa g b2⟩⟩
theorem F9{t t':TE}(i:∀σ H Q,t' σ H Q->t σ H Q):∀σ H Q,vT t' σ H Q->vT t σ H Q:=fun σ H Q q=>i _ _ _ q
theorem Sl(aM:dv X (ahB op) r)(hf:dB X.K X.I r f)(ax:cg X a cO)(U:cg X b cw)(hm:ah8 op b=false):hx X (.Compare a [op] [b] pos) (bb (au f cO cw)):=
 vv (ZA aM ax U hm) fun az H Q h=>F9 (xg hf) az H Q (zI az H Q h)
noncomputable def d1(f g:R->R->M R)(a b c:bj):bj:=fun σ=>do
 let x <-a σ
 let y <-b σ
 let z <-f x y
 let t <-z.lB
 if t=true then do
  let w <-c σ
  g y w
 else pure (.v (.aB false))
theorem H'(hf:dB K I r f)(a':dB K I bq g):∀az H Q,fw K I (d1 f g cO cw d8) az H Q->F7 r bq (fw K I cO) (fw K I cw) (fw K I d8) az H Q:=by
 rintro az H Q ⟨O,σ,S,bq,aJ,st,h,q⟩;obtain⟨x,a6,aj,h⟩:=M.inv h;obtain⟨y,bS,h2,h⟩:=M.inv h;obtain⟨z,hB,bz,h⟩:=M.inv h;obtain⟨t,kR,c0,h⟩:=M.inv h;obtain⟨rfl,rfl⟩:=vV c0;refine⟨O,σ,S,x,a6,st,aj,fun aY fy H1 g1 a3 a0 a8=>?_⟩;refine⟨aY,σ,a6,y,bS,a3,h2,fun bt tu aZ g2 cW bx sU=>?_⟩;refine hf bt σ bS az aZ fy tu x y _ _ _ cW (a0.go g2) bx bz fun fm pW cX g3 e_ bD _=>⟨t,bD,?_⟩
 have CI:=(g1.trans g2).trans g3
 cases t with
 |false=>
  rw[if_neg ahd]at h;cases h;exact lj (q fm _ cX CI e_ rfl trivial)
 |true=>
  rw[if_pos rfl]at h;obtain⟨w,tS,gm,h⟩:=M.inv h;refine ky ⟨fm,σ,_,w,tS,e_,gm,fun Pq cp fa sh oh rw nw=>?_⟩;exact a' Pq σ tS az fa tu cp y w _ aJ Q oh (bx.go (g3.trans sh)) rw h fun aD v aa g b2 bD nn=>q aD v aa ((CI.trans sh).trans g) b2 bD (nn.back (CI.trans sh).same)
theorem Rh{op gZ:CmpOp}{r bq:gE}{f g:R->R->M R}(aM:dv X (ahB op) r)(hf:dB X.K X.I r f)(ef:dv X (ahB gZ) bq)(a':dB X.K X.I bq g)(ax:cg X a cO)(U:cg X b cw)(aA:cg X c d8)
  (hm:akD [op,gZ] [b,c]=false:=by with_unfolding_all rfl):cg X (.Compare a [op,gZ] [b,c] pos) (d1 f g cO cw d8):=et (YZ aM ef ax U aA hm) (H' hf a')
theorem Sk{op gZ:CmpOp}{r bq:gE}{f g:R->R->M R}(aM:dv X (ahB op) r)(hf:dB X.K X.I r f)(ef:dv X (ahB gZ) bq)(a':dB X.K X.I bq g)(ax:cg X a cO)(U:cg X b cw)(aA:cg X c d8)
  (hm:akD [op,gZ] [b,c]=false:=by with_unfolding_all rfl):hx X (.Compare a [op,gZ] [b,c] pos) (bb (d1 f g cO cw d8)):=
 vv (Zy aM ef ax U aA hm) fun az H Q h=>F9 (H' hf a') az H Q (zI az H Q h)
noncomputable def kV(a b:bj):bj:=fun σ=>do
 let x <-a σ
 let t <-x.lB
 if t=true then b σ else pure (.v (.aB false))
noncomputable def t9(a b:bj):bj:=fun σ=>do
 let x <-a σ
 let t <-x.lB
 if t=true then pure (.v (.aB true))else b σ
noncomputable def rY(a:bj):bj:=fun σ=>do
 let x <-a σ
 let t <-x.lB
 pure (.v (.aB (!t)))
noncomputable def i7(a b:a9->M Bool):a9->M Bool:=fun σ=>do
 let t <-a σ
 if t=true then b σ else pure false
noncomputable def fh(a b:a9->M Bool):a9->M Bool:=fun σ=>do
 let t <-a σ
 if t=true then pure true else b σ
noncomputable def d9(a:a9->M Bool):a9->M Bool:=fun σ=>do
 let t <-a σ
 pure (!t)
noncomputable def qe(t:a9->M Bool)(a b:bj):bj:=fun σ=>do
 let t <-t σ
 if t=true then a σ else b σ
variable{rest:List Expr}
theorem Ru{op}(h:cg X a cO):cg X (.BoolOp op [a] pos) cO:=Y_ h
theorem Ra(ax:cg X a cO)(U:cg X (.BoolOp .And (b::rest) pos) cw):cg X (.BoolOp .And (a::b::rest) pos) (kV cO cw):=et (YX ax U)<|by
 rintro az H Q ⟨O,σ,S,r,aJ,st,h,q⟩;obtain⟨x,a6,aj,h⟩:=M.inv h;obtain⟨t,bS,h2,h⟩:=M.inv h;obtain⟨rfl,rfl⟩:=vV h2;refine⟨O,σ,S,_,_,st,aj,fun aY fy H1 g1 a3 a0 a8=>⟨t,a0,?_⟩⟩
 cases t with
 |false=>
  rw[if_neg ahd]at h;cases h;exact lj (q aY _ H1 g1 a3 rfl trivial)
 |true=>
  rw[if_pos rfl]at h;exact ky ⟨aY,σ,_,r,aJ,a3,h,fun aD v aa g b2 bD nn=>q aD v aa (g1.trans g) b2 bD (nn.back g1.same)⟩
theorem Rw(ax:cg X a cO)(U:cg X (.BoolOp .Or (b::rest) pos) cw):cg X (.BoolOp .Or (a::b::rest) pos) (t9 cO cw):=et (Y' ax U)<|by
 rintro az H Q ⟨O,σ,S,r,aJ,st,h,q⟩;obtain⟨x,a6,aj,h⟩:=M.inv h;obtain⟨t,bS,h2,h⟩:=M.inv h;obtain⟨rfl,rfl⟩:=vV h2;refine⟨O,σ,S,_,_,st,aj,fun aY fy H1 g1 a3 a0 a8=>⟨t,a0,?_⟩⟩
 cases t with
 |true=>
  rw[if_pos rfl]at h;cases h;exact ky (q aY _ H1 g1 a3 rfl trivial)
 |false=>
  rw[if_neg ahd]at h;exact lj ⟨aY,σ,_,r,aJ,a3,h,fun aD v aa g b2 bD nn=>q aD v aa (g1.trans g) b2 bD (nn.back g1.same)⟩
theorem Rt(ax:cg X a cO):cg X (.UnaryOp .Not a pos) (rY cO):=et (Y9 ax)<|by
 rintro az H Q ⟨O,σ,S,r,aJ,st,h,q⟩;obtain⟨x,a6,aj,h⟩:=M.inv h;obtain⟨t,bS,h2,h⟩:=M.inv h;obtain⟨rfl,rfl⟩:=vV h2;cases h;exact⟨O,σ,S,_,_,st,aj,fun aY fy H1 g1 a3 a0 a8=>⟨t,a0,q aY _ H1 g1 a3 rfl trivial⟩⟩
theorem Rm(bG:hx X c ta)(ax:cg X a cO)(U:cg X b cw):cg X (.IfExp c a b pos) (qe ta cO cw):=et (Y5 bG ax U)<|by
 rintro az H Q ⟨O,σ,S,r,aJ,st,h,q⟩;obtain⟨t,a6,aj,h⟩:=M.inv h;refine⟨O,σ,S,t,a6,st,aj,fun aY H1 g1 a3=>?_⟩
 cases t with
 |false=>
  rw[if_neg ahd]at h;exact lj ⟨aY,σ,_,r,aJ,a3,h,fun aD v aa g b2 bD nn=>q aD v aa (g1.trans g) b2 bD (nn.back g1.same)⟩
 |true=>
  rw[if_pos rfl]at h;exact ky ⟨aY,σ,_,r,aJ,a3,h,fun aD v aa g b2 bD nn=>q aD v aa (g1.trans g) b2 bD (nn.back g1.same)⟩
theorem So(ax:cg X a cO)(he:∀whole,isTrue a X.env whole=(do let v <-whole;standAt a.pos;holding [v] (truthy v)):=by intro _;rfl):hx X a (bb cO):=vv (ZD ax he) fun az H Q h=>zI az H Q h
theorem cw_and1(ax:hx X a ta):mq X (.BoolOp .And [a] pos) ta:=ZL ax
theorem cw_or1(ax:hx X a ta):mq X (.BoolOp .Or [a] pos) ta:=ZN ax
theorem cw_and(ax:hx X a ta)(U:mq X (.BoolOp .And (b::rest) pos) cJ):mq X (.BoolOp .And (a::b::rest) pos) (i7 ta cJ):=MN (ZK ax U)<|by
 rintro az H Q ⟨O,σ,S,r,aJ,st,h,q⟩;obtain⟨t,a6,aj,h⟩:=M.inv h;refine⟨O,σ,S,t,a6,st,aj,fun aY H1 g1 a3=>?_⟩
 cases t with
 |false=>
  rw[if_neg ahd]at h;cases h;exact lj (q aY H1 g1 a3)
 |true=>
  rw[if_pos rfl]at h;exact ky ⟨aY,σ,a6,r,aJ,a3,h,fun aD aa g b2=>q aD aa (g1.trans g) b2⟩
theorem cw_or(ax:hx X a ta)(U:mq X (.BoolOp .Or (b::rest) pos) cJ):mq X (.BoolOp .Or (a::b::rest) pos) (fh ta cJ):=MN (ZM ax U)<|by
 rintro az H Q ⟨O,σ,S,r,aJ,st,h,q⟩;obtain⟨t,a6,aj,h⟩:=M.inv h;refine⟨O,σ,S,t,a6,st,aj,fun aY H1 g1 a3=>?_⟩
 cases t with
 |true=>
  rw[if_pos rfl]at h;cases h;exact ky (q aY H1 g1 a3)
 |false=>
  rw[if_neg ahd]at h;exact lj ⟨aY,σ,a6,r,aJ,a3,h,fun aD aa g b2=>q aD aa (g1.trans g) b2⟩
theorem mq.c3(h:mq X a ta):hx X a ta:=h.pt
theorem Sn(ax:hx X a ta):hx X (.UnaryOp .Not a pos) (d9 ta):=vv (ZC ax)<|by
 rintro az H Q ⟨O,σ,S,r,aJ,st,h,q⟩;obtain⟨t,a6,aj,h⟩:=M.inv h;cases h;exact⟨O,σ,S,t,_,st,aj,fun aY H1 g1 a3=>q aY H1 g1 a3⟩
end
noncomputable def q2(g:Int->Int->Int):R->R->M R
 |.v (.int i),.v (.int j)=>pure (.v (.int (g i j)))|_,_=>bad
noncomputable def n_(C:Int->Int->Prop)[∀i j,Decidable (C i j)](g:Int->Int->Int):R->R->M R
 |.v (.int i),.v (.int j)=>if C i j then pure (.v (.int (g i j)))else bad|_,_=>bad
noncomputable def qZ(g:Int->Int->Bool):R->R->M R
 |.v (.int i),.v (.int j)=>pure (.v (.aB (g i j)))|_,_=>bad
section
variable{K:a4}{I:br}
theorem xd{g:Int->Int->Int}:dB K I (hn fun i j=>.int (g i j)) (q2 g):=fun O σ S az H x y a0 bx bq aJ Q st av bo h q=>by
 unfold q2 at h;split at h
 ·rename_i i j
  cases h;exact⟨i,j,av,bo,q O _ H (Go.refl _ _) st rfl trivial⟩
 ·cases h
theorem rT{C:Int->Int->Prop}{nj:Int->Int->Prop}[∀i j,Decidable (nj i j)]{g:Int->Int->Int}(uE:∀i j,nj i j->C i j):dB K I (jW C fun i j=>.int (g i j)) (n_ nj g):=fun O σ S az H x y a0 bx bq aJ Q st av bo h q=>by
 unfold n_ at h;split at h
 ·rename_i i j
  by_cases c:nj i j
  ·rw[if_pos c]at h
   cases h;exact⟨i,j,av,bo,uE i j c,q O _ H (Go.refl _ _) st rfl trivial⟩
  ·rw[if_neg c]at h;cases h
 ·cases h
theorem xc{g:Int->Int->Bool}:dB K I (hn fun i j=>.aB (g i j)) (qZ g):=fun O σ S az H x y a0 bx bq aJ Q st av bo h q=>by
 unfold qZ at h;split at h
 ·rename_i i j
  cases h;exact⟨i,j,av,bo,q O _ H (Go.refl _ _) st rfl trivial⟩
 ·cases h
end
noncomputable abbrev es:=q2 (· + ·)
noncomputable abbrev ob:=q2 (· - ·)
noncomputable abbrev oMod:=n_ (fun _ j=>0<j) (· % ·)
noncomputable abbrev oa:=n_ (fun i j=>0<=j/\j<=1000000/\i.natAbs<2 ^ 64) (fun i j=>i ^ j.toNat)
noncomputable abbrev L2:=n_ (fun i j=>0<=j/\j<=1000000/\i.natAbs<2 ^ 64) (fun i j=>i*2 ^ j.toNat)
noncomputable abbrev L3:=n_ (fun _ j=>0<=j) (fun i j=>i / 2 ^ j.toNat)
noncomputable abbrev Ey:=q2 aiR
noncomputable abbrev L1:=q2 ake
noncomputable abbrev oLt:=qZ fun i j=>decide (i<j)
noncomputable abbrev oLe:=qZ fun i j=>decide (i<=j)
noncomputable abbrev n9:=qZ fun i j=>decide (j<i)
noncomputable abbrev q1:=qZ fun i j=>decide (j<=i)
section
variable{X:aS}
theorem fL:dB X.K X.I (hn fun i j=>.int (i+j)) es:=xd
theorem rP:dB X.K X.I (hn fun i j=>.int (i-j)) ob:=xd
theorem eD:dB X.K X.I (jW (fun _ j=>0<j) fun i j=>.int (i % j)) oMod:=rT fun _ _ h=>h
theorem rO:dB X.K X.I (jW wt fun i j=>.int (i ^ j.toNat)) oa:=rT fun _ _ h=>h
theorem PU:dB X.K X.I (jW wt fun i j=>.int (i*2 ^ j.toNat)) L2:=rT fun _ _ h=>h
theorem PV:dB X.K X.I (jW (fun _ j=>0<=j) fun i j=>.int (i / 2 ^ j.toNat)) L3:=rT fun _ _ h=>h
theorem GV:dB X.K X.I (hn fun i j=>.int (aiR i j)) Ey:=xd
theorem PQ:dB X.K X.I (hn fun i j=>.int (ake i j)) L1:=xd
theorem AF:dB X.K X.I (hn fun i j=>.aB (decide (i<j))) oLt:=xc
theorem hE:dB X.K X.I (hn fun i j=>.aB (decide (i<=j))) oLe:=xc
theorem w1:dB X.K X.I (hn fun i j=>.aB (decide (j<i))) n9:=xc
theorem w0:dB X.K X.I (hn fun i j=>.aB (decide (j<=i))) q1:=xc
end
noncomputable def cy(f:R->M R)(a:bj):bj:=fun σ=>do
 let x <-a σ
 f x
noncomputable def i1:R->M R
 |.v (.int i)=>pure (.v (.int (-i)))|_=>bad
theorem Rq(ax:cg X a cO):cg X (.UnaryOp .USub a pos) (cy i1 cO):=et (Mv Of ax)<|by
 rintro az H Q ⟨O,σ,S,r,aJ,st,h,q⟩;obtain⟨x,a6,aj,h⟩:=M.inv h;unfold i1 at h;split at h
 ·rename_i i
  cases h;exact⟨O,σ,S,_,_,st,aj,fun aY fy H1 g1 a3 a0 a8=>⟨i,a0,q aY _ H1 g1 a3 rfl trivial⟩⟩
 ·cases h
noncomputable def R.gb:R->Option (List D)
 |.v (.lst xs)=>some xs|.fr xs=>some xs|.cp xs=>some xs|.ej xs=>some xs|_=>none
noncomputable def R.F_:R->Option (List D)
 |.v (.tup xs)=>some xs|_=>none
noncomputable def R.seq(r:R):Option (List D):=r.gb<|> r.F_
theorem R.qP{K:a4}{I:br}{O:b9}{H:aI}{r:R}{v:V}{xs:List D}(h:fZ K I O H r v)(e:r.gb=some xs):∃a ys,v=.ref a/\dD K H a ys/\bu K I O H xs ys:=by
 unfold R.gb at e;split at e
 ·cases e;obtain⟨a,ys,q,l,r⟩:=h;exact⟨a,ys,q,l.e5,r⟩
 ·cases e;obtain⟨a,ys,q,l,_,r⟩:=h;exact⟨a,ys,q,dD.of l,r⟩
 ·cases e;obtain⟨a,ys,q,l,r⟩:=h;exact⟨a,ys,q,l.e5,r⟩
 ·cases e;obtain⟨a,ys,q,l,r⟩:=h;exact⟨a,ys,q,dD.of l,r⟩
 ·cases e
theorem R.abT{K:a4}{I:br}{O:b9}{H:aI}{r:R}{v:V}{xs:List D}(h:fZ K I O H r v)(e:r.F_=some xs):∃a ys,v=.ref a/\dG K H a ys/\bu K I O H xs ys:=by
 unfold R.F_ at e;split at e
 ·cases e;exact h
 ·cases e
theorem R.zB{K:a4}{I:br}{O:b9}{H:aI}{r:R}{v:V}{xs:List D}(h:fZ K I O H r v)(e:r.seq=some xs):∃a ys,v=.ref a/\(dD K H a ys\/dG K H a ys)/\bu K I O H xs ys:=by
 unfold R.seq at e
 cases aH:r.gb with
 |some zs=>rw[aH]at e;cases e;obtain⟨a,ys,q,l,r⟩:=R.qP h aH;exact⟨a,ys,q,.inl l,r⟩
 |none=>rw[aH]at e;obtain⟨a,ys,q,l,r⟩:=R.abT h e;exact⟨a,ys,q,.inr l,r⟩
theorem bu.d7{i:Int}(h:bu K I O H ds xs)(e:d7 ds i=some d):∃x,ak.d7 xs i=some x/\Rep K I O H d x:=by
 unfold ak.d7 at e ⊢;rw[h.len]
 cases q:nY ds.length i with
 |none=>rw[q]at e;cases e
 |some j=>rw[q]at e;exact h.get e
noncomputable def bJ:R->R->M R
 |.v (.str z),.v (.int i)=>match d7 z.cps.toList i with
  |some c=>if z.length<=ag5 then pure (.v (.str ⟨#[c]⟩))else bad|none=>bad
 |x,.v (.int i)=>match x.seq with
  |some xs=>match d7 xs i with
   |some d=>pure (.v d)|none=>bad
  |none=>bad
 |_,_=>bad
theorem cB:dB K I (MW K) bJ:=fun O σ S az H x y a0 bx bq aJ Q st av bo h q=>by
 unfold bJ at h;split at h
 ·rename_i z i
  split at h
  ·rename_i c aT
   by_cases aX:z.length<=ag5
   ·rw[if_pos aX]at h
    cases h;exact .inr (.inr ⟨z,i,c,av,bo,aX,aT,q O _ H (Go.refl _ _) st rfl trivial⟩)
   ·rw[if_neg aX]at h;cases h
  ·cases h
 ·rename_i i _
  split at h
  ·rename_i xs e
   split at h
   ·rename_i d aT
    cases h;obtain⟨a,ys,rfl,l,ck⟩:=R.zB av e;obtain⟨z,dt,hT⟩:=bu.d7 ck aT;have jm:=q O z H (Go.refl _ _) st hT trivial;rcases l with l | l
    ·exact .inl ⟨a,ys,i,z,rfl,bo,l,dt,jm⟩
    ·exact .inr (.inl ⟨a,ys,i,z,rfl,bo,l,dt,jm⟩)
   ·cases h
  ·cases h
 ·cases h
noncomputable def aG:cQ:=fun _=>pure []
noncomputable def ah(m:bj)(ms:cQ):cQ:=fun σ=>do
 let x <-m σ
 let xs <-ms σ
 pure (x::xs)
section
variable{X:aS}{e:Expr}{aE:List Expr}{m:bj}{ms:cQ}
theorem QS:jb X [] aG:=td q7<|by
 rintro az H Q ⟨O,σ,S,r,aJ,st,h,q⟩;cases h;exact q O [] H (Go.refl _ _) st rfl trivial
theorem QR(ax:cg X e m)(ay:jb X aE ms)(aQ:ag6 (e::aE) X.env=(false,eval e X.env)::ag6 aE X.env:=by rfl):jb X (e::aE) (ah m ms):=td (m8 ax ay aQ)<|by
 rintro az H Q ⟨O,σ,S,r,aJ,st,h,q⟩;obtain⟨x,a6,aj,h⟩:=M.inv h;obtain⟨xs,bS,h2,h⟩:=M.inv h;cases h;refine⟨O,σ,S,x,a6,st,aj,fun aY fy H1 g1 a3 a0 a8=>?_⟩;refine⟨aY,σ,a6,xs,_,a3,h2,fun bt ar aZ g2 cW rs ns=>?_⟩;exact q bt (fy::ar) aZ (g1.trans g2) cW ⟨fy,ar,rfl,a0.go g2,rs⟩ ⟨a8,ns.back g1.same⟩
end
noncomputable def R.dat:R->M D
 |.v d=>pure d|.fr xs=>pure (.lst xs)|_=>bad
noncomputable def lR:List R->M (List D)
 |[]=>pure []|r::rs=>do
  let d <-r.dat
  let ds <-lR rs
  pure (d::ds)
noncomputable def cH(H₀:aI)(O:b9):b9:=fun b=>match H₀ b,O b with
 |none,.eK=>.free|_,o=>o
theorem Jq{H₀:aI}{O:b9}(h:H₀ b≠none):cH H₀ O b=O b:=by
 unfold cH
 cases e:H₀ b with
 |none=>exact absurd e h|some o=>cases O b<;>rfl
theorem CH{H₀:aI}{O:b9}(h:H₀ b=none)(t:O b=.eK):cH H₀ O b=.free:=by unfold cH;rw[h,t]
theorem sb{O:b9}(t:O b≠.eK):cH H₀ O b=O b:=by
 unfold cH;cases e:H₀ b<;>cases aT:O b<;>first | rfl | exact absurd aT t
theorem jI(H₀:aI)(O:b9):iO O (cH H₀ O):=⟨fun a h=>by rw[sb (by rw[h];intro z;cases z),h]⟩
theorem gF.cK{O aD:b9}{w:Own}(g:iO O aD)(aM:∀a,O a=.out->aD a=.out)(hw:∀a,O a=w->aD a=w)(bG:∀a p,O a=w.at p->aD a=w.at p):∀{s:Slot}{u:Option V},gF K I O H w s u->gF K I aD H w s u
 |.emp,_,_=>trivial| .val _,_,h=>by obtain⟨v,q,r⟩:=h;exact⟨v,q,r.cK g⟩
 | .b5 _ _,_,h=>by obtain⟨a,ys,q,o,l,r⟩:=h;exact⟨a,ys,q,hw a o,l,r.cK g⟩
 |.cp _,_,h=>by
  obtain⟨a,ys,q,l,r⟩:=h;refine⟨a,ys,q,l.imp (fun z=>⟨z.1,z.2.imp (g.fr a) (aM a)⟩) id,r.cK g⟩
 | .gj _,_,h=>by obtain⟨a,ys,q,o,l,r⟩:=h;exact⟨a,ys,q,hw a o,l,r.cK g⟩
 | .i8 _,_,h=>by obtain⟨a,ys,q,l,r⟩:=h;exact⟨a,ys,q,⟨l.1,l.2.imp (g.fr a) (aM a)⟩,r.cK g⟩
 | .kE _,_,h=>by obtain⟨a,ys,q,o,l,r⟩:=h;exact⟨a,ys,q,hw a o,l,r.1,r.2.cK g⟩
 | .j4 _,_,h=>by obtain⟨a,ys,q,l,r⟩:=h;exact⟨a,ys,q,⟨l.1,l.2.imp (g.fr a) (aM a)⟩,r.1,r.2.cK g⟩
 |.fi m _,_,h=>by
  obtain⟨v,q,r⟩:=h;refine⟨v,q,r.all (fun _ _ z=>Rep.cK g z) fun a _ p o l _=>⟨?_,l⟩⟩
  cases m with
  |view=>exact aM a o|own=>exact bG a p o|par=>exact bG a p o
section
variable{K:a4}{I:br}{O:b9}{σ:a9}{S:e7}{az:St}{H H₀:aI}
theorem cj.cH(h:cj K I O σ S az H)(H₀:aI):cj K I (cH H₀ O) σ S az H:=
  ⟨⟨fun a ax=>h.dh.has a fun z=>ax (by rw[sb (by rw[z];intro w;cases w),z]),h.dh.tabs⟩,h.len,
   fun i s e=>(h.loc i s e).cK (jI _ _) (fun a z=>by rw[sb (by rw[z];intro w;cases w),z]) (fun a z=>by rw[sb (by rw[z];intro w;cases w),z]) (fun a p z=>by rw[sb (by rw[z];intro w;cases w),z]),h.emp⟩
theorem Go.cH(g:Go Pt O H₀ H):Go Pt (cH H₀ O) H₀ H:=⟨g.same,fun b U=>(Jq U).trans (g.own b U)⟩
theorem nK{r:R}(ay:fZ K I O H r v)(aR:oE H₀ r v)(h:r.dat.run S=.ok d aJ):Rep K I (aN.cH H₀ O) H d v/\S=aJ:=by
 cases r with
 |v d'=>cases h;exact⟨Rep.cK (jI _ _) ay,rfl⟩
 |fr xs=>
  cases h;obtain⟨a,ys,rfl,l,t,ck⟩:=ay;exact⟨⟨a,ys,rfl,⟨l,CH (aR a rfl) t⟩,bu.cK (jI _ _) ck⟩,rfl⟩
 |cp xs=>cases h
 |ej xs=>cases h
 |eY _=>cases h
theorem Cb:∀{rs:List R}{ar:List V}{ds:List D}{S aJ:e7},h1 K I O H rs ar->oF H₀ rs ar->(lR rs).run S=.ok ds aJ->bu K I (aN.cH H₀ O) H ds ar/\S=aJ
 | [],ar,ds,S,aJ,ay,_,h=>by cases h;exact⟨ay,rfl⟩
 |r::rs,ar,ds,S,aJ,ay,aR,h=>by
  obtain⟨d,a6,aj,h⟩:=M.inv h;obtain⟨mG,bS,h2,h⟩:=M.inv h;cases h;obtain⟨v,Om,rfl,bK,cn⟩:=ay;obtain⟨bh,rfl⟩:=nK (H₀:=H₀) bK aR.1 aj;obtain⟨cM,rfl⟩:=Cb cn aR.2 h2;exact⟨⟨v,Om,rfl,bh,cM⟩,rfl⟩
end
noncomputable def eF(ms:cQ):bj:=fun σ=>do
 let rs <-ms σ
 let ds <-lR rs
 eS (ds.length<=1000)
 pure (.v (.tup ds))
noncomputable def dM(ms:cQ):bj:=fun σ=>do
 let rs <-ms σ
 let ds <-lR rs
 eS (ds.length<=1000)
 pure (.fr ds)
section
variable{X:aS}{aE:List Expr}{ms:cQ}{pos:Pos}
theorem RE{wc}(h:jb X aE ms):cg X (.Tuple aE wc pos) (eF ms):=et (EL h)<|by
 rintro az H Q ⟨O,σ,S,r,aJ,st,h,q⟩;obtain⟨rs,a6,aj,h⟩:=M.inv h;obtain⟨ds,bS,h2,h⟩:=M.inv h;obtain⟨_,hB,bz,h⟩:=M.inv h;obtain⟨ao,rfl⟩:=mD bz;cases h;refine⟨O,σ,S,rs,a6,st,aj,fun aY ar H1 g1 a3 bD nn=>?_⟩;obtain⟨ck,rfl⟩:=Cb (H₀:=H) bD nn h2;refine⟨ahM (eJ (by rw[ck.len];exact ao)),fun p aP=>?_⟩;exact q (cH H aY) _ _ (g1.cH.trans (Go.fT aP)) ((a3.cH H).fT aP) ⟨p,ar,rfl,dG.of eb,ck.go (Go.fT aP)⟩ trivial
theorem Rp(h:jb X aE ms):cg X (.List aE pos) (dM ms):=et (EH h)<|by
 rintro az H Q ⟨O,σ,S,r,aJ,st,h,q⟩;obtain⟨rs,a6,aj,h⟩:=M.inv h;obtain⟨ds,bS,h2,h⟩:=M.inv h;obtain⟨_,hB,bz,h⟩:=M.inv h;obtain⟨ao,rfl⟩:=mD bz;cases h;refine⟨O,σ,S,rs,a6,st,aj,fun aY ar H1 g1 a3 bD nn=>?_⟩;obtain⟨ck,rfl⟩:=Cb (H₀:=H) bD nn h2;refine⟨ahM (eJ (by rw[ck.len];exact ao)),fun p aP=>?_⟩;refine q (g5 (cH H aY) p .eK) _ _ (g1.cH.trans (Go.new aP)) ((a3.cH H).new aP) ⟨p,ar,rfl,eb,om,ck.go (Go.new aP)⟩ fun a f_=>?_
 cases f_;exact g1.same.free aP
end
noncomputable def cb(f:List R->M R)(ms:cQ):bj:=fun σ=>do
 let rs <-ms σ
 f rs
def ip(K:a4)(I:br)(r:List V->aI->cY->Prop)(f:List R->M R):Prop:=
 ∀O σ S az H xs rs bq aJ (Q:cY),cj K I O σ S az H->h1 K I O H rs xs->(f rs).run S=.ok bq aJ->p_ K I O σ aJ az H bq Q->r xs H Q
section
variable{X:aS}{e:Expr}{aE:List Expr}{ms:cQ}{pos p:Pos}{x:Str}{id T:String}{r:List V->aI->cY->Prop}{f:List R->M R}
theorem Ia(hf:ip K I r f):∀az H Q,fw K I (cb f ms) az H Q->F6 r (ng K I ms) az H Q:=by
 rintro az H Q ⟨O,σ,S,bq,aJ,st,h,q⟩;obtain⟨rs,a6,aj,h⟩:=M.inv h;refine⟨O,σ,S,rs,a6,st,aj,fun aY ar H1 g1 a3 bD nn=>?_⟩;exact hf aY σ a6 az H1 ar rs bq aJ Q a3 bD h fun aD v aa g b2 E4 Ep=>q aD v aa (g1.trans g) b2 E4 (Ep.back g1.same)
theorem Rf(aA:g7 X (.builtin id) r)(hf:ip X.K X.I r f)(a':dC X x)(hm:X.I x=none)(bF:ahK x=some (.builtin id))(ax:jb X (e::aE) ms)(aR:x≠"__name__":=by decide)(da:(x==("__debug__":Str))=false:=by decide)
  (he:ag6 (e::aE) X.env=(false,eval e X.env)::ag6 aE X.env:=by rfl) (du:(ahN pos (ag6 aE X.env)).any (·.1)=false:=by rfl):cg X (.Call (.Name x p) (e::aE) [] pos) (cb f ms):=
 et (EG aA a' hm bF ax aR da he du) (Ia hf)
theorem Rg(aA:g7 X (.type T) r)(hf:ip X.K X.I r f)(a':dC X x)(hm:X.I x=none)(bF:ahK x=some (.type T))(ax:jb X (e::aE) ms)(aR:x≠"__name__":=by decide)(da:(x==("__debug__":Str))=false:=by decide)
  (he:ag6 (e::aE) X.env=(false,eval e X.env)::ag6 aE X.env:=by rfl) (du:(ahN pos (ag6 aE X.env)).any (·.1)=false:=by rfl):cg X (.Call (.Name x p) (e::aE) [] pos) (cb f ms):=
 et (Mp aA a' hm bF ax aR da he du) (Ia hf)
end
noncomputable def d3:List R->M R
 |[x]=>match x.seq with
  |some xs=>pure (.v (.int (xs.length:Nat)))|none=>bad
 |_=>bad
noncomputable def k6:List R->M R
 |[.v (.str z)]=>if z.length<=ag5 then pure (.v (.int (z.length:Nat)))else bad|_=>bad
noncomputable def R.kind:R->Option String
 |.v .ba=>some "NoneType"|.v (.aB _)=>some "bool"|.v (.int _)=>some "int"|.v (.str _)=>some "str"|.v (.tup _)=>some "tuple"|.v (.lst _)=>some "list"|.fr _=>some "list"|.cp _=>some "list"|.ej _=>some "list"|_=>none
noncomputable def gk:List R->M R
 |[x,.v (.ty n)]=>match x.kind with
  |some t=>if n∈["int","bool","tuple","list","str"]then pure (.v (.aB (u2 t n)))else bad|none=>bad
 |_=>bad
noncomputable def xW(g:Int->Int->Int):List R->M R
 |[.v (.int i),.v (.int j)]=>pure (.v (.int (g i j)))|_=>bad
noncomputable abbrev Jb:=xW fun i j=>if j > i then j else i
noncomputable def qq:List R->M R
 |[.v (.int i)]=>pure (.v (.int (if i<0 then -i else i)))|_=>bad
noncomputable def kf:List D->Option (List Bool)
 |[]=>some []|.aB b::r=>(kf r).map (b::·)|_=>none
noncomputable def xX:List R->M R
 |[x]=>match x.gb.bind kf with
  |some bs=>pure (.v (.aB (bs.any id)))|none=>bad
 |_=>bad
noncomputable def nO:List R->M R
 |[x]=>match x.gb.bind kf with
  |some bs=>pure (.v (.aB (bs.all id)))|none=>bad
 |_=>bad
noncomputable def nP:List R->M R
 |[x]=>match x.seq with
  |some xs=>pure (.v (.tup xs))|none=>bad
 |_=>bad
section
variable{K:a4}{I:br}
theorem iK(h:h1 K I O H [r] ar):∃v,ar=[v]/\fZ K I O H r v:=by
 obtain⟨v,bq,rfl,a,b⟩:=h;cases b;exact⟨v,rfl,a⟩
theorem M9(h:h1 K I O H [r,s] ar):∃v u,ar=[v,u]/\fZ K I O H r v/\fZ K I O H s u:=by
 obtain⟨v,bq,rfl,a,b⟩:=h;obtain⟨u,agP,rfl,c,d⟩:=b;cases d;exact⟨v,u,rfl,a,c⟩
theorem fq:ip K I (fun xs H Q=>∃p ys,xs=[.ref p]/\(dD K H p ys\/dG K H p ys)/\Q (.int ys.length) H) d3:=fun O σ S az H ar rs bq aJ Q st ay h q=>by
 unfold d3 at h;split at h
 ·rename_i x
  obtain⟨v,rfl,av⟩:=iK ay;split at h
  ·rename_i xs e
   cases h;obtain⟨a,ys,rfl,l,ck⟩:=R.zB av e;exact⟨a,ys,rfl,l,by rw[ck.len];exact q O _ H (Go.refl _ _) st rfl trivial⟩
  ·cases h
 ·cases h
theorem sy:ip K I (fun xs H Q=>∃z,xs=[.str z]/\z.length<=ag5/\Q (.int z.length) H) k6:=fun O σ S az H ar rs bq aJ Q st ay h q=>by
 unfold k6 at h;split at h
 ·rename_i z
  obtain⟨v,rfl,av⟩:=iK ay;cases(show v=.str z from av)
  by_cases aX:z.length<=ag5
  ·rw[if_pos aX]at h
   cases h;exact⟨z,rfl,aX,q O _ H (Go.refl _ _) st rfl trivial⟩
  ·rw[if_neg aX]at h;cases h
 ·cases h
theorem R.Wt{O:b9}{H:aI}{r:R}{v:V}{t:String}(h:fZ K I O H r v)(e:r.kind=some t):mv K H v t:=by
 unfold R.kind at e;split at e
 ·cases e;cases h;exact .ba
 ·cases e;cases h;exact .aB _
 ·cases e;cases h;exact .int _
 ·cases e;cases h;exact .str _
 ·cases e;obtain⟨a,ys,rfl,l,_⟩:=h;exact .tup l
 ·cases e;obtain⟨a,ys,rfl,l,_⟩:=h;exact .lst l.e5
 ·cases e;obtain⟨a,ys,rfl,l,_⟩:=h;exact .lst (dD.of l)
 ·cases e;obtain⟨a,ys,rfl,l,_⟩:=h;exact .lst l.e5
 ·cases e;obtain⟨a,ys,rfl,l,_⟩:=h;exact .lst (dD.of l)
 ·cases e
theorem h8:ip K I (MV K) gk:=fun O σ S az H ar rs bq aJ Q st ay h q=>by
 unfold gk at h;split at h
 ·rename_i x n
  obtain⟨v,u,rfl,av,bo⟩:=M9 ay;cases(show u=.ty n from bo);split at h
  ·rename_i t e
   by_cases aR:n∈["int","bool","tuple","list","str"]
   ·rw[if_pos aR]at h
    cases h;exact⟨v,n,t,rfl,R.Wt av e,aR,q O _ H (Go.refl _ _) st rfl trivial⟩
   ·rw[if_neg aR]at h;cases h
  ·cases h
 ·cases h
theorem Kv{g:Int->Int->Int}:ip K I (fun xs H Q=>∃i j,xs=[.int i,.int j]/\Q (.int (g i j)) H) (xW g):=fun O σ S az H ar rs bq aJ Q st ay h q=>by
 unfold xW at h;split at h
 ·rename_i i j
  obtain⟨v,u,rfl,av,bo⟩:=M9 ay;cases(show v=.int i from av);cases(show u=.int j from bo);cases h;exact⟨i,j,rfl,q O _ H (Go.refl _ _) st rfl trivial⟩
 ·cases h
theorem Kw:ip K I (fun xs H Q=>∃i,xs=[.int i]/\Q (.int (if i<0 then -i else i)) H) qq:=fun O σ S az H ar rs bq aJ Q st ay h q=>by
 unfold qq at h;split at h
 ·rename_i i
  obtain⟨v,rfl,av⟩:=iK ay;cases(show v=.int i from av);cases h;exact⟨i,rfl,q O _ H (Go.refl _ _) st rfl trivial⟩
 ·cases h
theorem Bj:∀{ds:List D}{ys:List V}{bs:List Bool},bu K I O H ds ys->kf ds=some bs->ys=bs.map V.aB
 | [],ys,bs,h,e=>by cases e;exact h
 |d::ds,ys,bs,h,e=>by
  cases d with
  |aB b=>
   have e:(kf ds).map (b::·)=some bs:=e;obtain⟨cs,aH,rfl⟩:=aj8.mp e;obtain⟨y,r,rfl,aj,h2⟩:=h;rw[Bj h2 aH,show y=.aB b from aj];rfl
  | _=>exact absurd (show(none:Option (List Bool))=some bs from e) (by intro z;cases z)
theorem Wc:ip K I (fun xs H Q=>∃(l:Addr)(bs:List Bool),xs=[.ref l]/\dD K H l (bs.map V.aB)/\Q (.aB (bs.any id)) H) xX:=fun O σ S az H ar rs bq aJ Q st ay h q=>by
 unfold xX at h;split at h
 ·rename_i x
  obtain⟨v,rfl,av⟩:=iK ay;split at h
  ·rename_i xs e
   cases h;obtain⟨zs,aH,aT⟩:=aj3.mp e;obtain⟨a,ys,rfl,l,ck⟩:=R.qP av aH;rw[Bj ck aT]at l;exact⟨a,xs,rfl,l,q O _ H (Go.refl _ _) st rfl trivial⟩
  ·cases h
 ·cases h
theorem yq:ip K I (fun xs H Q=>∃(l:Addr)(bs:List Bool),xs=[.ref l]/\dD K H l (bs.map V.aB)/\Q (.aB (bs.all id)) H) nO:=fun O σ S az H ar rs bq aJ Q st ay h q=>by
 unfold nO at h;split at h
 ·rename_i x
  obtain⟨v,rfl,av⟩:=iK ay;split at h
  ·rename_i xs e
   cases h;obtain⟨zs,aH,aT⟩:=aj3.mp e;obtain⟨a,ys,rfl,l,ck⟩:=R.qP av aH;rw[Bj ck aT]at l;exact⟨a,xs,rfl,l,q O _ H (Go.refl _ _) st rfl trivial⟩
  ·cases h
 ·cases h
theorem yr:ip K I (fun xs H Q=>∃p ys,xs=[.ref p]/\((dD K H p ys/\∀l,H l=none->Q (.ref l) (upd H l (.tup ys)))\/(dG K H p ys/\Q (.ref p) H))) nP:=fun O σ S az H ar rs bq aJ Q st ay h q=>by
 unfold nP at h;split at h
 ·rename_i x
  obtain⟨v,rfl,av⟩:=iK ay;split at h
  ·rename_i xs e
   cases h;obtain⟨a,ys,rfl,l,ck⟩:=R.zB av e;refine⟨a,ys,rfl,?_⟩;rcases l with l | l
   ·exact .inl ⟨l,fun p aP=>q O _ _ (Go.fT aP) (st.fT aP) ⟨p,ys,rfl,dG.of eb,ck.go (Go.fT aP)⟩ trivial⟩
   ·exact .inr ⟨l,q O _ _ (Go.refl _ _) st ⟨a,ys,rfl,l,ck⟩ trivial⟩
  ·cases h
 ·cases h
end
noncomputable def cutD{α:Type}(xs:List α)(lo aC:Option Int):List α:=(xs.drop (cS.ct xs.length 0 lo)).take (cS.ct xs.length xs.length aC-cS.ct xs.length 0 lo)
theorem bu.cut(h:bu K I O H ds xs)(lo aC:Option Int):bu K I O H (cutD ds lo aC) (oU xs lo aC):=by
 unfold cutD oU;rw[h.len];exact(h.drop _).take _
noncomputable abbrev iu:=a9->M (Option Int)
noncomputable def abS(K:a4)(I:br)(m:iu):dR:=fun az H Q=>∃O σ S b aJ,cj K I O σ S az H/\(m σ).run S=.ok b aJ/\∀aD aa,Go O aD H aa->cj K I aD σ aJ az aa->Q b aa
abbrev nk(X:aS)(e:Option Expr)(m:iu):Prop:=tP X e (abS X.K X.I m)
noncomputable def gI:iu:=fun _=>pure none
noncomputable def eX(m:bj):iu:=fun σ=>do
 let r <-m σ
 match r with
 |.v (.int i)=>pure (some i)|_=>bad
noncomputable def pI(x:R)(lo aC:Option Int):M R:=
 match x with
 |.v (.tup xs)=>if cS.ct xs.length 0 lo=0/\cS.ct xs.length xs.length aC=xs.length then bad else pure (.v (.tup (cutD xs lo aC)))|_=>match x.gb with
  |some xs=>pure (.fr (cutD xs lo aC))|none=>bad
noncomputable def oP(a:bj)(lo aC:iu):bj:=fun σ=>do
 let x <-a σ
 let l <-lo σ
 let h <-aC σ
 pI x l h
section
variable{X:aS}{e:Expr}{m:bj}{lo aC:Option Expr}{hk i0:iu}{pos cR:Pos}
theorem RV:nk X none gI:=by
 rintro ae s az H Q J ⟨O,σ,S,r,aJ,st,h,q⟩;cases h;exact Zo ae s az H Q J (q O H (Go.refl _ _) st)
theorem RW(he:cg X e m):nk X (some e) (eX m):=by
 rintro ae s az H Q J ⟨O,σ,S,r,aJ,st,h,q⟩;obtain⟨x,a6,aj,h⟩:=M.inv h;split at h
 ·rename_i i
  cases h;exact Zp he ae s az H Q J ⟨O,σ,S,_,_,st,aj,fun aY v H1 g1 a3 bD _=>⟨i,bD,q aY H1 g1 a3⟩⟩
 ·cases h
theorem Rx(he:cg X e m)(ao:nk X lo hk)(a_:nk X aC i0):cg X (.Subscript e (.Slice lo aC none cR) pos) (oP m hk i0):=et (EJ (aa2.or NH) he ao a_)<|by
 rintro az H Q ⟨O,σ,S,r,aJ,st,h,q⟩;obtain⟨x,a6,aj,ax⟩:=M.inv h;clear h;obtain⟨l,bS,h2,U⟩:=M.inv ax;clear ax;obtain⟨u,hB,bz,h⟩:=M.inv U;clear U;refine⟨O,σ,S,x,a6,st,aj,fun aY fy H1 g1 a3 a0 a8=>?_⟩;refine⟨aY,σ,a6,l,bS,a3,h2,fun bt aZ g2 cW=>?_⟩;refine⟨bt,σ,bS,u,hB,cW,bz,fun fm cX g3 e_=>?_⟩;have g:=(g1.trans g2).trans g3;have zd:=a0.go (g2.trans g3);unfold pI at h;split at h
 ·rename_i xs
  by_cases c:cS.ct xs.length 0 l=0/\cS.ct xs.length xs.length u=xs.length
  ·rw[if_pos c]at h;cases h
  ·rw[if_neg c]at h
   cases h;obtain⟨a,ys,rfl,bP,ck⟩:=zd;exact .inr ⟨a,ys,rfl,bP,by rw[ck.len];exact c,fun p aP=>q fm _ _ (g.trans (Go.fT aP)) (e_.fT aP) ⟨p,_,rfl,dG.of eb,(ck.cut l u).go (Go.fT aP)⟩ trivial⟩
 ·split at h
  ·rename_i xs aH
   cases h;obtain⟨a,ys,rfl,bP,ck⟩:=R.qP zd aH;refine .inl ⟨a,ys,rfl,bP,fun p aP=>q (g5 fm p .eK) _ _ (g.trans (Go.new aP)) (e_.new aP) ⟨p,_,rfl,eb,om,(ck.cut l u).go (Go.new aP)⟩ fun b dS=>?_⟩;cases dS;exact g.same.free aP
  ·cases h
end
noncomputable def R.own:R->Option (List D)
 |.v (.lst xs)=>some xs|.fr xs=>some xs|.ej xs=>some xs|_=>none
noncomputable def iH(x y:R):M R:=match x.own,y.own with
 |some xs,some ys=>if xs.length+ys.length<=ag5 then pure (.fr (xs++ys))else bad|_,_=>bad
noncomputable def sW:R->R->M R
 |.v (.tup xs),.v (.tup ys)=>if xs.length+ys.length<=ag5 then pure (.v (.tup (xs++ys)))else bad|_,_=>bad
noncomputable def hl:R->R->M R
 |.v (.str x),.v (.str y)=>if x.length+y.length<=ag5 then pure (.v (.str (x++y)))else bad|_,_=>bad
theorem R.EF{K:a4}{I:br}{O:b9}{H:aI}{r:R}{v:V}{xs:List D}(h:fZ K I O H r v)(e:r.own=some xs):∃a ys,v=.ref a/\H a=some (.lst ys)/\bu K I O H xs ys:=by
 unfold R.own at e;split at e
 ·cases e;obtain⟨a,ys,q,l,r⟩:=h;exact⟨a,ys,q,l.1,r⟩
 ·cases e;obtain⟨a,ys,q,l,_,r⟩:=h;exact⟨a,ys,q,l,r⟩
 ·cases e;obtain⟨a,ys,q,l,r⟩:=h;exact⟨a,ys,q,l,r⟩
 ·cases e
section
variable{K:a4}{I:br}
theorem my:dB K I MR iH:=fun O σ S az H x y a0 bx bq aJ Q st av bo h q=>by
 unfold iH at h
 cases aH:a0.own with
 |none=>rw[aH]at h;cases h
 |some xs=>
  cases aT:bx.own with
  |none=>rw[aH,aT]at h;cases h
  |some ys=>
   rw[aH,aT]at h;dsimp only at h
   by_cases ao:xs.length+ys.length<=ag5
   ·rw[if_pos ao]at h
    cases h;obtain⟨a,us,rfl,bP,bK⟩:=R.EF av aH;obtain⟨b,ws,rfl,cE,cn⟩:=R.EF bo aT;refine⟨a,b,us,ws,rfl,rfl,bP,cE,by rw[bK.len,cn.len];exact ao,fun p aP=>q (g5 O p .eK) _ _ (Go.new aP) (st.new aP) ⟨p,_,rfl,eb,om,(bK.append cn).go (Go.new aP)⟩ fun b dS=>?_⟩;cases dS;exact aP
   ·rw[if_neg ao]at h;cases h
theorem GW:dB K I (MS K) sW:=fun O σ S az H x y a0 bx bq aJ Q st av bo h q=>by
 unfold sW at h;split at h
 ·rename_i xs ys
  by_cases ao:xs.length+ys.length<=ag5
  ·rw[if_pos ao]at h
   cases h;obtain⟨a,us,rfl,bP,bK⟩:=av;obtain⟨b,ws,rfl,cE,cn⟩:=bo;refine⟨a,b,us,ws,rfl,rfl,bP,cE,by rw[bK.len,cn.len];exact ao,fun t aa s l=>?_⟩;have g:Go O O H aa:=⟨s,fun _ _=>rfl⟩;exact q O _ aa g (st.go g (st.dh.same s)) ⟨t,_,rfl,l,(bK.append cn).go g⟩ trivial
  ·rw[if_neg ao]at h;cases h
 ·cases h
theorem ke:dB K I (fun x y H Q=>∃i j,x=.str i/\y=.str j/\i.length+j.length<=ag5/\Q (.str (i++j)) H) hl:=fun O σ S az H x y a0 bx bq aJ Q st av bo h q=>by
 unfold hl at h;split at h
 ·rename_i i j
  by_cases ao:i.length+j.length<=ag5
  ·rw[if_pos ao]at h
   cases h;exact⟨i,j,av,bo,ao,q O _ H (Go.refl _ _) st rfl trivial⟩
  ·rw[if_neg ao]at h;cases h
 ·cases h
end
noncomputable def D.py:D->PyData
 |.ba=>.none|.aB b=>.bool b|.int i=>.int i|.str x=>.str x|.tup xs=>.tuple (ly xs)|.lst xs=>.list (ly xs)|.dX _ _=>.none|.fn _=>.none|.ty _=>.none
where ly:List D->List PyData
 |[]=>[]
 |x::xs=>x.py::ly xs
mutual
noncomputable def D.cI:D->Nat->Bool
 |.ba,_=>true|.aB _,_=>true|.int _,_=>true|.str x,_=>ag7 x|.tup xs,n=>match n with
  |0=>false|k+1=>hH xs k
 |.lst xs,n=>match n with
  |0=>false|k+1=>hH xs k
 |.dX _ _,_=>false|.fn _,_=>false|.ty _,_=>false
noncomputable def hH:List D->Nat->Bool
 |[],_=>true|x::xs,n=>x.cI n&&hH xs n
end
mutual
noncomputable def hS:D->D->Bool
 |.ba,b=>match b with | .ba=>true | _=>false
 |.aB a,b=>match b with | .aB c=>a==c | .int j=>(if a then 1 else 0)==j | _=>false
 |.int i,b=>match b with | .aB c=>i==(if c then 1 else 0) | .int j=>i==j | _=>false
 |.str x,b=>match b with | .str y=>x==y | _=>false
 |.tup xs,b=>match b with | .tup ys=>l7 xs ys | _=>false
 |.lst xs,b=>match b with | .lst ys=>l7 xs ys | _=>false
 |.dX _ _,_=>false|.fn _,_=>false|.ty _,_=>false
noncomputable def l7:List D->List D->Bool
 |[],ys=>match ys with | []=>true | _=>false
 |x::xs,ys=>match ys with | []=>false | y::r=>hS x y&&l7 xs r
end
mutual
theorem Cu:∀(a b:D)(n m:Nat),a.cI n=true->b.cI m=true->alN a.py b.py=hS a b
 | .ba,b,n,m,ax,U=>by cases b<;>first | rfl | (simp[D.cI]at U)
 | .aB _,b,n,m,ax,U=>by cases b<;>first | rfl | (simp[D.cI]at U)
 | .int _,b,n,m,ax,U=>by cases b<;>first | rfl | (simp[D.cI]at U)
 | .str _,b,n,m,ax,U=>by cases b<;>first | rfl | (simp[D.cI]at U)
 |.tup xs,b,n,m,ax,U=>by
  cases b with
  |tup ys=>
   cases n with
   |zero=>simp[D.cI]at ax|succ k=>
    cases m with
    |zero=>simp[D.cI]at U|succ j=>exact Cv xs ys k j ax U
  |dX _ _=>simp[D.cI]at U|fn _=>simp[D.cI]at U|ty _=>simp[D.cI]at U|_=>rfl
 |.lst xs,b,n,m,ax,U=>by
  cases b with
  |lst ys=>
   cases n with
   |zero=>simp[D.cI]at ax|succ k=>
    cases m with
    |zero=>simp[D.cI]at U|succ j=>exact Cv xs ys k j ax U
  |dX _ _=>simp[D.cI]at U|fn _=>simp[D.cI]at U|ty _=>simp[D.cI]at U|_=>rfl
 | .dX _ _,b,n,m,ax,U=>by simp[D.cI]at ax| .fn _,b,n,m,ax,U=>by simp[D.cI]at ax| .ty _,b,n,m,ax,U=>by simp[D.cI]at ax
theorem Cv:∀(xs ys:List D)(n m:Nat),hH xs n=true->hH ys m=true->PyData.eqvAll (D.py.ly xs) (D.py.ly ys)=l7 xs ys
 | [],ys,n,m,ax,U=>by cases ys<;>rfl
 |x::xs,ys,n,m,ax,U=>by
  cases ys with
  |nil=>rfl|cons y r=>
   rw[hH,ahn]at ax U;show(alN x.py y.py&&PyData.eqvAll (D.py.ly xs) (D.py.ly r))=(hS x y&&l7 xs r);rw[Cu x y n m ax.1 U.1,Cv xs r n m ax.2 U.2]
end
mutual
theorem Jv:∀(a:D)(n:Nat),a.cI n=true->a.py.canLay0=true/\a.py.depth<=n
 |.ba,n,h=>⟨rfl,ahC _⟩
 |.aB _,n,h=>⟨rfl,ahC _⟩
 |.int _,n,h=>⟨rfl,ahC _⟩
 |.str _,n,h=>⟨h,ahC _⟩
 |.tup xs,n,h=>by
  cases n with
  |zero=>simp[D.cI]at h|succ k=>obtain⟨bh,cM⟩:=CS xs k h;exact⟨bh,ajd cM⟩
 |.lst xs,n,h=>by
  cases n with
  |zero=>simp[D.cI]at h|succ k=>obtain⟨bh,cM⟩:=CS xs k h;exact⟨bh,ajd cM⟩
 | .dX _ _,n,h=>by simp[D.cI]at h| .fn _,n,h=>by simp[D.cI]at h| .ty _,n,h=>by simp[D.cI]at h
theorem CS:∀(xs:List D)(n:Nat),hH xs n=true->PyData.canLayAll0 (D.py.ly xs)=true/\PyData.depthAll (D.py.ly xs)<=n
 |[],n,h=>⟨rfl,ahC _⟩
 |x::xs,n,h=>by
  rw[hH,ahn]at h;obtain⟨a1,a2⟩:=Jv x n h.1;obtain⟨cx,cG⟩:=CS xs n h.2;exact⟨by show(x.py.canLay0&&PyData.canLayAll0 (D.py.ly xs))=true;rw[a1,cx];rfl,by show max x.py.depth (PyData.depthAll (D.py.ly xs))<=n;omega⟩
end
theorem x3{a:D}(h:a.cI 64=true):alX a.py=true:=by
 obtain⟨aj,h2⟩:=Jv a 64 h;show(a.py.canLay0&&decide (a.py.depth<=64))=true;rw[aj,decide_eq_true h2];rfl
mutual
theorem Rep.py:∀{d:D}{v:V}{n:Nat},d.cI n=true->Rep K I O H d v->ak.Rep K H d.py v
 |.ba,_,_,_,h=>h|.aB _,_,_,_,h=>h|.int _,_,_,_,h=>h|.str _,_,_,_,h=>h|.tup _,_,n,g,h=>by
  cases n with
  |zero=>simp[D.cI]at g|succ k=>obtain⟨a,ys,q,l,r⟩:=h;exact⟨a,ys,q,l,bu.py (n:=k) g r⟩
 |.lst _,_,n,g,h=>by
  cases n with
  |zero=>simp[D.cI]at g|succ k=>obtain⟨a,ys,q,l,r⟩:=h;exact⟨a,ys,q,l.e5,bu.py (n:=k) g r⟩
 | .dX _ _,_,_,g,h=>by simp[D.cI]at g| .fn _,_,_,g,h=>by simp[D.cI]at g| .ty _,_,_,g,h=>by simp[D.cI]at g
theorem bu.py:∀{ds:List D}{ys:List V}{n:Nat},hH ds n=true->bu K I O H ds ys->ak.bu K H (D.py.ly ds) ys
 |[],_,_,_,h=>h|_::_,_,n,g,h=>by
  rw[hH,ahn]at g;obtain⟨x,r,q,a,b⟩:=h;exact⟨x,r,q,Rep.py g.1 a,bu.py g.2 b⟩
end
noncomputable def R.arg:R->D
 |.v d=>d|.fr xs=>.lst xs|.cp xs=>.lst xs|.ej xs=>.lst xs|.eY aK=>.dX (aK.map (·.1)) (aK.map (·.2))
theorem R.wY{K:a4}{I:br}{O:b9}{H:aI}{r:R}{v:V}{n:Nat}(g:r.arg.cI n=true)(h:fZ K I O H r v):ak.Rep K H r.arg.py v:=by
 have gb:∀xs,r.gb=some xs->(D.lst xs).cI n=true->ak.Rep K H (D.lst xs).py v:=fun xs e g=>by
  obtain⟨a,ys,q,l,ck⟩:=R.qP h e
  cases n with
  |zero=>simp[D.cI]at g|succ k=>exact⟨a,ys,q,l,bu.py (n:=k) g ck⟩
 cases r with
 |v d=>exact Rep.py g h|fr xs=>exact gb xs rfl g|cp xs=>exact gb xs rfl g|ej xs=>exact gb xs rfl g|eY aK=>simp[R.arg,D.cI]at g
noncomputable def oEq(x y:R):M R:=if x.arg.cI 64=true/\y.arg.cI 64=true then pure (.v (.aB (hS x.arg y.arg)))else bad
noncomputable def eT(x y:R):M R:=if x.arg.cI 64=true/\y.arg.cI 64=true then pure (.v (.aB (!hS x.arg y.arg)))else bad
section
variable{K:a4}{I:br}
theorem eR:dB K I (y' K false) oEq:=fun O σ S az H x y a0 bx bq aJ Q st av bo h q=>by
 unfold oEq at h
 by_cases c:a0.arg.cI 64=true/\bx.arg.cI 64=true
 ·rw[if_pos c]at h
  cases h;refine⟨_,_,R.wY c.1 av,R.wY c.2 bo,x3 c.1,x3 c.2,?_⟩;rw[if_neg ahd,Cu _ _ _ _ c.1 c.2];exact q O _ H (Go.refl _ _) st rfl trivial
 ·rw[if_neg c]at h;cases h
theorem kT:dB K I (y' K true) eT:=fun O σ S az H x y a0 bx bq aJ Q st av bo h q=>by
 unfold eT at h
 by_cases c:a0.arg.cI 64=true/\bx.arg.cI 64=true
 ·rw[if_pos c]at h
  cases h;refine⟨_,_,R.wY c.1 av,R.wY c.2 bo,x3 c.1,x3 c.2,?_⟩;rw[if_pos rfl,Cu _ _ _ _ c.1 c.2];exact q O _ H (Go.refl _ _) st rfl trivial
 ·rw[if_neg c]at h;cases h
end
noncomputable def R.kx:R->Bool
 |.v .ba=>true|_=>false
noncomputable def n'(x:R):R->M R
 |.v .ba=>pure (.v (.aB x.kx))|_=>bad
noncomputable def vl(x:R):R->M R
 |.v .ba=>pure (.v (.aB (!x.kx)))|_=>bad
section
variable{K:a4}{I:br}
theorem Kg{r:R}(h:fZ K I O H r v):decide (v=.ba)=r.kx:=by
 have no:∀{a:Addr},v=.ref a->decide (v=.ba)=false:=fun{a} e=>by rw[e];exact decide_eq_false (by intro z;cases z)
 cases r with
 |v d=>
  cases d with
  |ba=>exact decide_eq_true h|aB _=>rw[show v=_ from h];rfl|int _=>rw[show v=_ from h];rfl|str _=>rw[show v=_ from h];rfl|ty _=>rw[show v=_ from h];rfl|tup _=>obtain⟨a,_,e,_⟩:=h;exact no e
  |lst _=>obtain⟨a,_,e,_⟩:=h;exact no e
  |dX _ _=>exact aie h|fn _=>obtain⟨a,e,_⟩:=h;exact no e
 |fr _=>obtain⟨a,_,e,_⟩:=h;exact no e
 |cp _=>obtain⟨a,_,e,_⟩:=h;exact no e
 |ej _=>obtain⟨a,_,e,_⟩:=h;exact no e
 |eY _=>obtain⟨a,_,e,_⟩:=h;exact no e
theorem rN:dB K I (fun x y H Q=>y=.ba/\Q (.aB (decide (x=.ba))) H) n':=fun O σ S az H x y a0 bx bq aJ Q st av bo h q=>by
 unfold n' at h;split at h
 ·cases h;exact⟨bo,by rw[Kg av];exact q O _ H (Go.refl _ _) st rfl trivial⟩
 ·cases h
theorem GY:dB K I (fun x y H Q=>y=.ba/\Q (.aB (!decide (x=.ba))) H) vl:=fun O σ S az H x y a0 bx bq aJ Q st av bo h q=>by
 unfold vl at h;split at h
 ·cases h;exact⟨bo,by rw[Kg av];exact q O _ H (Go.refl _ _) st rfl trivial⟩
 ·cases h
end
noncomputable def D.flat:D->Bool
 |.ba=>true|.aB _=>true|.int _=>true|.str _=>true|_=>false
noncomputable def inD(x:D)(xs:List D):Bool:=xs.any fun y=>hS y x
noncomputable def vk(neg:Bool)(x y:R):M R:=match x,y.seq with
 |.v d,some xs=>if d.flat=true/\xs.all D.flat=true then pure (.v (.aB (if neg then !inD d xs else inD d xs)))else bad|_,_=>bad
section
variable{K:a4}{I:br}
theorem Jg{d:D}(h:Rep K I O H d v)(f:d.flat=true):mL v=true:=by
 cases d with
 |ba=>rw[show v=_ from h];rfl|aB _=>rw[show v=_ from h];rfl|int _=>rw[show v=_ from h];rfl|str _=>rw[show v=_ from h];rfl|_=>exact absurd (show false=true from f) ahd
theorem Tc{d e:D}(h:Rep K I O H d v)(h':Rep K I O H e u)(f:d.flat=true)(sa:e.flat=true):mI v u=hS d e:=by
 cases d with
 |ba=>
  rw[show v=_ from h]
  cases e with
  |ba=>rw[show u=_ from h'];rfl|aB _=>rw[show u=_ from h'];rfl|int _=>rw[show u=_ from h'];rfl|str _=>rw[show u=_ from h'];rfl|_=>exact absurd (show false=true from sa) ahd
 |aB _=>
  rw[show v=_ from h]
  cases e with
  |ba=>rw[show u=_ from h'];rfl|aB _=>rw[show u=_ from h'];rfl|int _=>rw[show u=_ from h'];rfl|str _=>rw[show u=_ from h'];rfl|_=>exact absurd (show false=true from sa) ahd
 |int _=>
  rw[show v=_ from h]
  cases e with
  |ba=>rw[show u=_ from h'];rfl|aB _=>rw[show u=_ from h'];rfl|int _=>rw[show u=_ from h'];rfl|str _=>rw[show u=_ from h'];rfl|_=>exact absurd (show false=true from sa) ahd
 |str _=>
  rw[show v=_ from h]
  cases e with
  |ba=>rw[show u=_ from h'];rfl|aB _=>rw[show u=_ from h'];rfl|int _=>rw[show u=_ from h'];rfl|str _=>rw[show u=_ from h'];rfl|_=>exact absurd (show false=true from sa) ahd
 |_=>exact absurd (show false=true from f) ahd
theorem J_{d:D}(h:Rep K I O H d v)(f:d.flat=true):∀{ds:List D}{ys:List V},bu K I O H ds ys->ds.all D.flat=true->ys.all mL=true/\DG v ys=inD d ds
 | [],ys,r,_=>by cases r;exact⟨rfl,rfl⟩
 |e::ds,ys,r,g=>by
  obtain⟨y,t,rfl,bK,cn⟩:=r;rw[ajh,ahn]at g;obtain⟨bh,cM⟩:=J_ h f cn g.2;refine⟨by rw[ajh,Jg bK g.1,bh];rfl,?_⟩;show(y::t).any (fun z=>mI z v)=(e::ds).any fun z=>hS z d
  rw[aiN,aiN,Tc bK h g.1 f];exact congrArg _ cM
theorem PR(neg:Bool):dB K I (MU K neg) (vk neg):=fun O σ S az H x y a0 bx bq aJ Q st av bo h q=>by
 unfold vk at h;split at h
 ·rename_i d xs e
  by_cases c:d.flat=true/\xs.all D.flat=true
  ·rw[if_pos c]at h
   cases h;obtain⟨a,ys,rfl,l,ck⟩:=R.zB bo e;obtain⟨f1,f2⟩:=J_ av c.1 ck c.2;exact⟨a,ys,rfl,l,Jg av c.1,f1,by rw[f2];exact q O _ H (Go.refl _ _) st rfl trivial⟩
  ·rw[if_neg c]at h;cases h
 ·cases h
end
inductive nr where
 |a8 (σ:a9) | cA (r:R) | fM (σ:a9) | c3 (σ:a9)
noncomputable abbrev aV:=a9->M nr
def Fix(o:eW):Prop:=(∃xs,o=.tup xs)\/∃cL u,o=.cH cL u
structure dJ(O aD:b9)(H aa:aI):Prop where
 cells:∀b o,H b=some o->(O b=.free\/O b=.out\/Fix o)->(h:h_ o:=by exact trivial)->aa b=some o
 own:∀b,H b≠none->(O b=.free\/O b=.out)->aD b=O b
 has:∀b,H b≠none->aa b≠none
 cJ:∀b ps,H b=some (.ho ps)->∃de,aa b=some (.ho de)
 cI:TabsOk H->TabsOk aa
theorem Go.dj(g:Go O aD H aa):dJ O aD H aa:=⟨fun b o e _ n=>g.same.at' b o e n,fun b h _=>g.own b h,fun _ h=>g.same.some h,g.same.cJ,g.same.cI⟩
theorem dJ.refl(O:b9)(H:aI):dJ O O H H:=(Go.refl O H).dj
theorem dJ.trans(a:dJ O aY H H1)(b:dJ aY bt H1 aZ):dJ O bt H aZ:=by
 have NM:∀{b:Addr}{o:eW},H b=some o->H b≠none:=fun e z=>by rw[e]at z;cases z
 refine⟨fun c o e h n=>?_,fun c h f=>?_,fun c h=>b.has c (a.has c h),fun c ps h=>let⟨dy,aH⟩:=a.cJ c ps h;b.cJ c dy aH,fun g=>b.cI (a.cI g)⟩
 ·have aH:=a.cells c o e h n
  rcases h with h | h | h
  ·exact b.cells c o aH (.inl ((a.own c (NM e) (.inl h)).trans h)) n
  ·exact b.cells c o aH (.inr (.inl ((a.own c (NM e) (.inr h)).trans h))) n
  ·exact b.cells c o aH (.inr (.inr h)) n
 ·have aH:=a.own c h f
  rw[b.own c (a.has c h) (by rw[aH];exact f),aH]
def dQ(σ σ':a9)(az fz:St):Prop:=(∀(i:Nat)(xs:List D),σ'[i]? = some (Slot.cp xs)->σ[i]? = some (Slot.cp xs)/\fz[i]? = az[i]?)/\
 (∀(i:Nat)(ys:List D),σ'[i]? = some (Slot.b5 true ys)->(∃xs,σ[i]? = some (Slot.b5 true xs))/\fz[i]? = az[i]?)/\
 ∀(i:Nat)(m:nE)(t:h3),σ'[i]? = some (Slot.fi m t)->m≠.own->(∃t0,σ[i]? = some (Slot.fi m t0)/\(m=.view->t0=t))/\fz[i]? = az[i]?
theorem dQ.refl(σ:a9)(az:St):dQ σ σ az az:=⟨fun _ _ h=>⟨h,rfl⟩,fun _ _ h=>⟨⟨_,h⟩,rfl⟩,fun _ _ _ h _=>⟨⟨_,h,fun _=>rfl⟩,rfl⟩⟩
theorem dQ.trans(a:dQ σ fl v v1)(b:dQ fl dA v1 v2):dQ σ dA v v2:=⟨fun i xs h=>⟨(a.1 i xs (b.1 i xs h).1).1,(b.1 i xs h).2.trans (a.1 i xs (b.1 i xs h).1).2⟩,fun i ys h=>by
 obtain⟨⟨xs,e⟩,q⟩:=b.2.1 i ys h;obtain⟨z,gu⟩:=a.2.1 i xs e;exact⟨z,q.trans gu⟩,fun i m t h hm=>by
 obtain⟨⟨t1,e,f⟩,q⟩:=b.2.2 i m t h hm;obtain⟨⟨t0,bE,sa⟩,gu⟩:=a.2.2 i m t1 e hm;exact⟨⟨t0,bE,fun z=>(sa z).trans (f z)⟩,q.trans gu⟩⟩
theorem dQ.put{σ:a9}(h0:σ[i]? = some s0)(bF:∀xs,s≠.cp xs)(aM:∀xs,s=.b5 true xs->∃ys,s0=.b5 true ys)(bG:∀m t,s=.fi m t->m≠.own->m≠.view/\∃t0,s0=.fi m t0):dQ σ (σ.set i s) az az:=by
 have er:i<σ.length:=(ahe.mp h0).1;have key:∀(j:Nat)(t:Slot),(σ.set i s)[j]? = some t->(i=j/\t=s)\/(i≠j/\σ[j]? = some t):=fun j t h=>by
  by_cases bV:i=j
  ·subst bV
   rw[ahr er]at h;exact .inl ⟨rfl,(ahx h).symm⟩
  ·rw[ahD bV]at h
   exact .inr ⟨bV,h⟩
 refine⟨fun j xs h=>?_,fun j ys h=>?_,fun j m t h hm=>?_⟩
 ·rcases key j _ h with⟨_,e⟩ | ⟨_,e⟩
  ·exact absurd e.symm (bF xs)
  ·exact⟨e,rfl⟩
 ·rcases key j _ h with⟨rfl,e⟩ | ⟨_,e⟩
  ·obtain⟨zs,bE⟩:=aM ys e.symm
   exact⟨⟨zs,bE▸h0⟩,rfl⟩
  ·exact⟨⟨_,e⟩,rfl⟩
 ·rcases key j _ h with⟨rfl,e⟩ | ⟨_,e⟩
  ·obtain⟨Eu,t0,bE⟩:=bG m t e.symm hm
   exact⟨⟨t0,bE▸h0,fun z=>absurd z Eu⟩,rfl⟩
  ·exact⟨⟨_,e,fun _=>rfl⟩,rfl⟩
noncomputable def GO(K:a4)(I:br)(O:b9)(H:aI):R->V->Prop
 |.v d,v=>Rep K I O H d v|.fr xs,v=>∃a ys,v=.ref a/\H a=some (.lst ys)/\(O a=.eK\/∃i,O a=.loc i)/\bu K I O H xs ys|_,_=>False
def lN(K:a4)(I:br)(O:b9)(σ:a9)(aJ:e7)(az:St)(H:aI)(σ':a9)(N:St->aI->Prop):Prop:=
 ∀aD fz aa,dJ O aD H aa->cj K I aD σ' aJ fz aa->dQ σ σ' az fz->N fz aa
def wJ(K:a4)(I:br)(O:b9)(σ:a9)(aJ:e7)(az:St)(H:aI)(bO:nr)(gR:Ends):Prop:=match bO with
 |.a8 σ'=>lN K I O σ aJ az H σ' gR.a8|.fM σ'=>lN K I O σ aJ az H σ' gR.fM|.c3 σ'=>lN K I O σ aJ az H σ' gR.c3|.cA r=>∀aD v aa,dJ O aD H aa->dP aD aa->aJ=[]->GO K I aD aa r v->gR.cA v aa
theorem lN.dj{N:St->aI->Prop}(h:lN K I O σ aJ az H σ' N)(g:dJ O aY H H1)(k:dQ σ fl az p3):lN K I aY fl aJ p3 H1 σ' N:=
 fun aD fz aa g' st hj=>h aD fz aa (g.trans g') st (k.trans hj)
theorem wJ.dj(h:wJ K I O σ aJ az H bO gR)(g:dJ O aY H H1)(k:dQ σ fl az p3):wJ K I aY fl aJ p3 H1 bO gR:=by
 cases bO with
 |a8 σ'=>exact lN.dj h g k|fM σ'=>exact lN.dj h g k|c3 σ'=>exact lN.dj h g k|cA r=>exact fun aD v aa g' d e r=>h aD v aa (g.trans g') d e r
noncomputable def mb(K:a4)(I:br)(m:aV):f5:=fun gR az H=>∃O σ S bO aJ,cj K I O σ S az H/\(m σ).run S=.ok bO aJ/\wJ K I O σ aJ az H bO gR
abbrev iM(X:aS)(st:Stmt)(m:aV):Prop:=jf X st (mb X.K X.I m)
abbrev kM(X:aS)(F3:List Stmt)(m:aV):Prop:=hA X F3 (mb X.K X.I m)
theorem g4{t t':f5}(h:jf X s t)(i:∀D σ H,t' D σ H->t D σ H):jf X s t':=fun ae s σ H D J q=>h ae s σ H D J (i _ _ _ q)
theorem q9{t t':f5}(h:hA X s t)(i:∀D σ H,t' D σ H->t D σ H):hA X s t':=fun ae s σ H D J q=>h ae s σ H D J (i _ _ _ q)
noncomputable def dI:aV:=fun σ=>pure (.a8 σ)
noncomputable def bL(a b:aV):aV:=fun σ=>do
 let bO <-a σ
 match bO with
 |.a8 σ'=>b σ'|bO=>pure bO
noncomputable def b6(m:bj):aV:=fun σ=>do
 let r <-m σ
 match r with
 |.v d=>pure (.cA (.v d))|.fr xs=>pure (.cA (.fr xs))|_=>bad
noncomputable def t_(i:Nat):aV:=fun σ=>match σ[i]? with
 |some (.b5 false xs)=>pure (.cA (.fr xs))|_=>bad
noncomputable def dr(t:a9->M Bool)(a b:aV):aV:=fun σ=>do
 let t <-t σ
 if t=true then a σ else b σ
noncomputable def cT(i:Nat)(m:bj):aV:=fun σ=>do
 let r <-m σ
 let d <-r.dat
 pure (.a8 (σ.set i (.val d)))
noncomputable def mC(i:Nat)(m:bj):aV:=fun σ=>do
 let r <-m σ
 match r with
 |.fr xs=>pure (.a8 (σ.set i (.b5 false xs)))|_=>bad
section
variable{X:aS}{st:Stmt}{rest:List Stmt}{pos:Pos}{a b:aV}{e:Expr}{m:bj}
theorem adD:iM X (.Pass pos) dI:=g4 Zw fun D az H ⟨O,σ,S,bO,aJ,st,h,q⟩=>by cases h;exact q O az H (dJ.refl _ _) st (dQ.refl _ _)
theorem Si:kM X [] dI:=q9 EP fun D az H ⟨O,σ,S,bO,aJ,st,h,q⟩=>by cases h;exact q O az H (dJ.refl _ _) st (dQ.refl _ _)
theorem Sj(h:iM X st a):kM X [st] a:=MI h
theorem Sh(aj:iM X st a)(h2:kM X rest b):kM X (st::rest) (bL a b):=q9 (y8 aj h2)<|by
 rintro D az H ⟨O,σ,S,bO,aJ,st,h,q⟩;obtain⟨f1,a6,aj,h⟩:=M.inv h;refine⟨O,σ,S,f1,a6,st,aj,?_⟩
 cases f1 with
 |a8 fl=>exact fun aY p3 H1 g1 a3 k1=>⟨aY,fl,a6,bO,aJ,a3,h,q.dj g1 k1⟩
 |cA r=>cases h;exact q
 |fM fl=>cases h;exact q
 |c3 fl=>cases h;exact q
theorem aac(h:fZ K I O H r v)(ay:(∃d,r=.v d)\/∃xs,r=.fr xs):GO K I O H r v:=by
 rcases ay with⟨d,rfl⟩ | ⟨xs,rfl⟩
 ·exact h
 ·obtain⟨a,ys,q,l,t,ck⟩:=h;exact⟨a,ys,q,l,.inl t,ck⟩
theorem Sd(he:cg X e m):iM X (.Return (some e) pos) (b6 m):=g4 (y7 he)<|by
 rintro D az H ⟨O,σ,S,bO,aJ,st,h,q⟩;obtain⟨r,a6,aj,h⟩:=M.inv h;refine⟨O,σ,S,r,a6,st,aj,fun aY v H1 g1 a3 bD nn=>?_⟩
 cases r with
 |v d=>cases h;exact q aY v H1 g1.dj a3.dh a3.emp bD
 |fr xs=>cases h;exact q aY v H1 g1.dj a3.dh a3.emp (aac bD (.inr ⟨_,rfl⟩))
 |cp xs=>cases h
 |ej xs=>cases h
 |eY _=>cases h
theorem Se(i:Nat){x:Str}{p:Pos}(bY:X.N[i]? = some x:=by rfl)(bF:gT X.env.scope x:=by first | exact aiz rfl | exact ajv (.inl rfl) | exact ajv (ajv rfl))(hd:(x==("__debug__":Str))=false:=by decide)
  (dN:(x==("__classdict__":Str))=false:=by decide):iM X (.Return (some (.Name x p)) pos) (t_ i):=g4 (y7 (lx bY bF hd dN))<|by
 rintro D az H ⟨O,σ,S,bO,aJ,st,h,q⟩;unfold t_ at h
 cases e:σ[i]? with
 |none=>rw[e]at h;cases h
 |some s=>
  rw[e]at h;have l:=st.loc i s e
  cases s with
  |b5 p xs=>
   obtain⟨a,ys,aH,aT,dt,gY⟩:=l
   cases p with
   |true=>cases h
   |false=>
   cases h;refine⟨.ref a,?_,q O _ H (dJ.refl _ _) st.dh st.emp ⟨a,ys,rfl,dt,.inr ⟨i,aT⟩,gY⟩⟩
   cases w:az[i]? with
   |none=>rw[w]at aH;cases aH
   |some y=>rw[w]at aH;exact congrArg some aH
  |val d=>cases h
  |cp d=>cases h
  |emp=>cases h
  |gj d=>cases h
  |i8 d=>cases h
  |kE d=>cases h
  |j4 d=>cases h
  |fi _ _=>cases h
theorem R9(aA:hx X c t)(ax:kM X A a)(U:kM X B b):iM X (.If c A B pos) (dr t a b):=g4 (MG aA ax U)<|by
 rintro D az H ⟨O,σ,S,bO,aJ,st,h,q⟩;obtain⟨t,a6,aj,h⟩:=M.inv h;refine⟨O,σ,S,t,a6,st,aj,fun aY H1 g1 a3=>?_⟩
 cases t with
 |false=>
  rw[if_neg ahd]at h;exact lj ⟨aY,σ,a6,bO,aJ,a3,h,q.dj g1.dj (dQ.refl _ _)⟩
 |true=>
  rw[if_pos rfl]at h;exact ky ⟨aY,σ,a6,bO,aJ,a3,h,q.dj g1.dj (dQ.refl _ _)⟩
theorem cj.set{σ:a9}{az:St}(st:cj K I O σ S az H)(h:gF K I O H (.loc i) s (some v)):cj K I O (σ.set i s) S (az.set i (some v)) H:=by
 refine⟨st.dh,by rw[ah3,ah3];exact st.len,fun j t e=>?_,st.emp⟩
 by_cases bV:i=j
 ·subst bV
  have ao:i<σ.length:=by
   have:=(ahe.mp e).1
   rwa[ah3]at this
  rw[ahr ao]at e;cases e;rw[ahr (by rw[<-st.len];exact ao)];exact h
 ·rw[ahD bV]at e
  rw[ahD bV];exact st.loc j t e
theorem dQ.set{σ:a9}{az:St}(aQ:∀xs,s≠.cp xs)(bG:∀xs,s≠.b5 true xs:=by intro xs z;cases z)(a_:∀m t,s=.fi m t->m=.own:=by intro m t z;cases z):dQ σ (σ.set i s) az (az.set i v):=by
 have key:∀(j:Nat)(t:Slot),(σ.set i s)[j]? = some t->t≠s->σ[j]? = some t/\(az.set i v)[j]? = az[j]?:=fun j t h ks=>by
  by_cases bV:i=j
  ·subst bV
   have ao:i<σ.length:=by
    have:=(ahe.mp h).1
    rwa[ah3]at this
   rw[ahr ao]at h;exact absurd (ahx h).symm ks
  ·rw[ahD bV]at h ⊢
   exact⟨h,rfl⟩
 refine⟨fun j xs h=>key j _ h (fun z=>aQ xs z.symm),fun j ys h=>?_,fun j m t h hm=>?_⟩
 ·obtain⟨a,b⟩:=key j _ h (fun z=>bG ys z.symm)
  exact⟨⟨ys,a⟩,b⟩
 ·obtain⟨a,b⟩:=key j _ h (fun z=>hm (a_ m t z.symm))
  exact⟨⟨t,a,fun _=>rfl⟩,b⟩
theorem cj.own{K:a4}{I:br}{O:b9}{σ:a9}{S:e7}{az:St}{H:aI}{i:Nat}{a:Addr}{xs:List D}{ys:List V}(st:cj K I O σ S az H)(bG:O a=.eK)(ao:H a=some (.lst ys))(ay:bu K I O H xs ys) :
  cj K I (g5 O a (.loc i)) (σ.set i (.b5 false xs)) S (az.set i (some (.ref a))) H:=by
 have ne:∀{b:Addr}{w:Own},O b=w->w≠.eK->g5 O a (.loc i) b=w:=fun{b w} h hw=>by
  rw[mg];exact h;rintro rfl;exact hw (h.symm.trans bG)
 have cK:iO O (g5 O a (.loc i)):=⟨fun b h=>ne h (by intro z;cases z)⟩;have a3:cj K I (g5 O a (.loc i)) σ S az H:=by
  refine⟨⟨fun b U=>?_,st.dh.tabs⟩,st.len,fun j s e=>(st.loc j s e).cK cK (fun b h=>ne h (by intro z;cases z)) (fun b h=>ne h (by intro z;cases z)) (fun b p h=>ne h (by intro z;cases z)),st.emp⟩
  by_cases e:b=a
  ·rw[e,ao];intro z;cases z
  ·rw[mg e]at U;exact st.dh.has b U
 exact a3.set ⟨a,ys,rfl,om,ao,ay.cK cK⟩
theorem dJ.eK{O:b9}{H:aI}{a:Addr}{w:Own}(bG:O a=.eK):dJ O (g5 O a w) H H:=by
 refine⟨fun b o e _ _=>e,fun b h f=>?_,fun _ h=>h,fun _ ps h=>⟨ps,h⟩,id⟩;rw[mg];rintro rfl;rw[bG]at f;rcases f with z | z<;>cases z
theorem aaZ{te:TE}(aC:∀σ H Q,fw K I m σ H Q->te σ H Q):∀D az H,mb K I (cT i m) D az H->F5 te (o3 i) D az H:=by
 rintro D az H ⟨O,σ,S,bO,aJ,st,h,q⟩;obtain⟨r,a6,aj,h⟩:=M.inv h;obtain⟨d,bS,h2,h⟩:=M.inv h;cases h;refine aC az H _ ⟨O,σ,S,r,a6,st,aj,fun aY v H1 g1 a3 bD nn=>?_⟩;obtain⟨e3,rfl⟩:=nK (H₀:=H) bD nn h2;exact q (cH H aY) _ H1 g1.cH.dj ((a3.cH H).set ⟨v,rfl,e3⟩) (dQ.set fun xs z=>by cases z)
theorem YM{te:TE}(aC:∀σ H Q,fw K I m σ H Q->te σ H Q):∀D az H,mb K I (mC i m) D az H->F5 te (o3 i) D az H:=by
 rintro D az H ⟨O,σ,S,bO,aJ,st,h,q⟩;obtain⟨r,a6,aj,h⟩:=M.inv h;split at h
 ·rename_i xs
  cases h;refine aC az H _ ⟨O,σ,S,_,_,st,aj,fun aY v H1 g1 a3 bD nn=>?_⟩;obtain⟨a,ys,rfl,l,t,ck⟩:=bD;exact q _ _ H1 (g1.dj.trans (dJ.eK t)) (a3.own t l ck) (dQ.set fun xs z=>by cases z)
 ·cases h
variable{i:Nat}{x:Str}{pos':Pos}
theorem Sf(bY:X.N.Nodup)(aC:X.N[i]? = some x)(av:Loc X.env.scope x)(he:cg X e m)(aQ:ah6 e (some (.Name x pos')) pos.line X.env=pure false:=by rfl)(hf:X.fn x=true\/X.env.scope.names.lookup x=some .local:=by first | exact .inl rfl | exact .inr rfl | assumption) :
  iM X (.Assign [.Name x pos'] e pos) (cT i m):=g4 (pM bY aC av he aQ hf) (aaZ fun _ _ _ h=>h)
theorem Sb(bY:X.N.Nodup)(aC:X.N[i]? = some x)(av:Loc X.env.scope x)(he:cg X e m)(aQ:ah6 e (some (.Name x pos')) pos.line X.env=pure false:=by rfl)(hf:X.fn x=true\/X.env.scope.names.lookup x=some .local:=by first | exact .inl rfl | exact .inr rfl | assumption) :
  iM X (.Assign [.Name x pos'] e pos) (mC i m):=g4 (pM bY aC av he aQ hf) (YM fun _ _ _ h=>h)
end
noncomputable def rX(i:Nat)(f:List D->List R->M (R×List D))(ms:cQ):a9->M (R×a9):=fun σ=>do
 let rs <-ms σ
 match σ[i]? with
 |some (.b5 p xs)=>do
  let(r,ys) <-f xs rs
  pure (r,σ.set i (.b5 p ys))
 |_=>bad
noncomputable def kh(i:Nat)(f:List D->List R->M (R×List D))(ms:cQ):aV:=fun σ=>do
 let(_,σ') <-rX i f ms σ
 pure (.a8 σ')
noncomputable def t8(j i:Nat)(f:List D->List R->M (R×List D))(ms:cQ):aV:=fun σ=>do
 let(r,σ') <-rX i f ms σ
 let d <-r.dat
 pure (.a8 (σ'.set j (.val d)))
noncomputable def mf(xs:List D):List R->M (R×List D)
 |[r]=>do
  let d <-r.dat
  eS (xs.length<ag5)
  pure (.v .ba,xs++[d])
 |_=>bad
noncomputable def vZ(xs:List D):List R->M (R×List D)
 |[r]=>match r.own with
  |some ys=>do
   eS (xs.length+ys.length<=ag5)
   pure (.v .ba,xs++ys)
  |none=>bad
 |_=>bad
noncomputable def v3(xs:List D):List R->M (R×List D)
 |[]=>match xs[xs.length-1]? with
  |some d=>pure (.v d,xs.dropLast)|none=>bad
 |_=>bad
section
variable{K:a4}{I:br}{O:b9}{H:aI}{l:Addr}{zs ws:List V}
mutual
theorem Rep.e6(aM:O l≠.free)(ao:H l=some (.lst zs)):∀{d:D}{v:V},Rep K I O H d v->Rep K I O (upd H l (.lst ws)) d v
 |.ba,_,h=>h|.aB _,_,h=>h|.int _,_,h=>h|.str _,_,h=>h|.tup _,_,h=>by
  obtain⟨a,ys,q,t,r⟩:=h;refine⟨a,ys,q,?_,bu.e6 aM ao r⟩;rcases t with(t | ⟨o,t⟩) | t
  ·exact .inl (.inl (by rw[cP (m6 t ao (by intro z;cases z))];exact t))
  ·exact .inl (.inr ⟨o,by rw[cP (m6 t ao (by intro z;cases z))];exact t⟩)
  ·exact .inr t
 |.lst _,_,h=>by
  obtain⟨a,ys,q,t,r⟩:=h;exact⟨a,ys,q,⟨by rw[cP (by rintro rfl;exact aM t.2)];exact t.1,t.2⟩,bu.e6 aM ao r⟩
 |.dX _ _,_,h=>h|.fn _,_,h=>h|.ty _,_,h=>h
theorem bu.e6(aM:O l≠.free)(ao:H l=some (.lst zs)):∀{ds:List D}{ys:List V},bu K I O H ds ys->bu K I O (upd H l (.lst ws)) ds ys
 |[],_,h=>h| _::_,_,h=>by obtain⟨x,r,q,a,b⟩:=h;exact⟨x,r,q,Rep.e6 aM ao a,bu.e6 aM ao b⟩
end
theorem hY.e6(aM:O l≠.free)(ef:O l≠.out)(h:hY K O H a ys):hY K O (upd H l (.lst ws)) a ys:=by
 rcases h with⟨h,f⟩ | h
 ·have ne:a≠l:=by rintro rfl;exact f.elim aM ef
  refine .inl ⟨?_,f⟩;rcases h with h | ⟨o,h⟩
  ·exact .inl (by rw[cP ne];exact h)
  ·exact .inr ⟨o,by rw[cP ne];exact h⟩
 ·exact .inr h
theorem gF.e6{w:Own}(aM:O l≠.free)(ef:O l≠.out)(hw:O l≠w)(bG:∀p,O l≠w.at p)(ao:H l=some (.lst zs)):∀{s:Slot}{u:Option V},gF K I O H w s u->gF K I O (upd H l (.lst ws)) w s u
 |.emp,_,_=>trivial| .val _,_,h=>by obtain⟨v,q,r⟩:=h;exact⟨v,q,r.e6 aM ao⟩
 | .b5 _ _,_,h=>by obtain⟨a,ys,q,o,t,r⟩:=h;exact⟨a,ys,q,o,by rw[cP (by rintro rfl;exact hw o)];exact t,r.e6 aM ao⟩
 | .cp _,_,h=>by obtain⟨a,ys,q,t,r⟩:=h;exact⟨a,ys,q,t.e6 aM ef,r.e6 aM ao⟩
 | .gj _,_,h=>by obtain⟨a,ys,q,o,t,r⟩:=h;exact⟨a,ys,q,o,by rw[cP (by rintro rfl;rw[ao]at t;cases t)];exact t,r.1,r.2.e6 aM ao⟩
 |.i8 _,_,h=>by
  obtain⟨a,ys,q,t,r⟩:=h;refine⟨a,ys,q,⟨?_,t.2⟩,r.1,r.2.e6 aM ao⟩;rcases t.1 with t | ⟨o,t⟩
  ·exact .inl (by rw[cP (by rintro rfl;rw[ao]at t;cases t)];exact t)
  ·exact .inr ⟨o,by rw[cP (by rintro rfl;rw[ao]at t;cases t)];exact t⟩
 | .kE _,_,h=>by obtain⟨a,ys,q,o,t,r⟩:=h;exact⟨a,ys,q,o,by rw[cP (by rintro rfl;rw[ao]at t;cases t)];exact t,r.1,r.2.all fun _ _ z=>Rep.e6 aM ao z⟩
 |.j4 _,_,h=>by
  obtain⟨a,ys,q,t,r⟩:=h;refine⟨a,ys,q,⟨?_,t.2⟩,r.1,r.2.all fun _ _ z=>Rep.e6 aM ao z⟩;rcases t.1 with t | ⟨o,t⟩
  ·exact .inl (by rw[cP (by rintro rfl;rw[ao]at t;cases t)];exact t)
  ·exact .inr ⟨o,by rw[cP (by rintro rfl;rw[ao]at t;cases t)];exact t⟩
 | .fi _ _,_,h=>by obtain⟨v,q,r⟩:=h;exact⟨v,q,r.all (fun _ _ z=>Rep.e6 aM ao z) fun a _ p o t _=>⟨o,by rw[cP (by rintro rfl;exact nE.ne ef bG p o)];exact t⟩⟩
theorem dP.e6(d:dP O H)(ao:H l=some (.lst zs)):dP O (upd H l (.lst ws)):=⟨fun a ax=>by
 by_cases e:a=l
 ·rw[e,eb];intro z;cases z
 ·rw[cP e];exact d.has a ax,d.tabs.lst ao _⟩
theorem dJ.e6(aM:O l≠.free)(ef:O l≠.out)(ao:H l=some (.lst zs)):dJ O O H (upd H l (.lst ws)):=by
 refine⟨fun b o e h _=>?_,fun _ _ _=>rfl,fun b h=>?_,fun b ps e=>⟨ps,by rw[cP (by rintro rfl;rw[ao]at e;cases e)];exact e⟩,fun g=>g.lst ao _⟩
 ·rw[cP]
  ·exact e
  ·rintro rfl
   rcases h with h | h | ⟨xs,h⟩ | ⟨_,_,h⟩
   ·exact aM h
   ·exact ef h
   ·subst h;rw[e]at ao;cases ao
   ·subst h;rw[e]at ao;cases ao
 ·by_cases e:b=l
  ·rw[e,eb];intro z;cases z
  ·rw[cP e];exact h
theorem cj.e6{σ:a9}{az:St}(st:cj K I O σ S az H)(aC:σ[i]? = some (.b5 p xs))(bF:az[i]?.join=some (.ref l))(aM:O l=.loc i)(ao:H l=some (.lst zs))(ay:bu K I O H ys ws) :
  cj K I O (σ.set i (.b5 p ys)) S az (upd H l (.lst ws)):=by
 have ne:∀w:Own,w≠.loc i->O l≠w:=fun w hw z=>hw (z.symm.trans aM)
 refine⟨st.dh.e6 ao,by rw[ah3];exact st.len,fun j t e=>?_,st.emp⟩
 by_cases bV:i=j
 ·subst bV
  have er:i<σ.length:=(ahe.mp aC).1;rw[ahr er]at e;cases e;exact⟨l,ws,bF,aM,eb,ay.e6 (ne _ (by intro z;cases z)) ao⟩
 ·rw[ahD bV]at e
  exact(st.loc j t e).e6 (ne _ (by intro z;cases z)) (ne _ (by intro z;cases z)) (ne _ (by intro z;cases z;exact bV rfl)) (fun p=>ne _ (by intro z;cases z)) ao
end
def oz(K:a4)(I:br)(r:V->List V->aI->cY->Prop)(f:List D->List R->M (R×List D)):Prop:=
 ∀O H H₀ l xs zs rs ar S aJ bq ys (Q:cY),H l=some (.lst zs)->bu K I O H xs zs->h1 K I O H rs ar->oF H₀ rs ar->(f xs rs).run S=.ok (bq,ys) aJ->
  (∀v ws,S=aJ->bu K I (cH H₀ O) H ys ws->(∃d,bq=.v d/\Rep K I (cH H₀ O) H d v)->Q v (upd H l (.lst ws)))->r (.ref l) ar H Q
section
variable{K:a4}{I:br}
theorem sH:oz K I MQ mf:=fun O H H₀ l xs zs rs ar S aJ bq ys Q ao av ay aR h q=>by
 unfold mf at h;split at h
 ·rename_i r
  obtain⟨v,rfl,bZ⟩:=iK ay;obtain⟨d,a6,aj,h⟩:=M.inv h;obtain⟨_,bS,h2,h⟩:=M.inv h;obtain⟨c,rfl⟩:=mD h2;obtain⟨e3,rfl⟩:=nK (H₀:=H₀) bZ aR.1 aj;cases h;exact⟨l,zs,v,rfl,rfl,ao,by rw[av.len];exact c,q .ba _ rfl ((av.cK (jI _ _)).append (.one e3)) ⟨.ba,rfl,rfl⟩⟩
 ·cases h
theorem Xh:oz K I MT vZ:=fun O H H₀ l xs zs rs ar S aJ bq ys Q ao av ay aR h q=>by
 unfold vZ at h;split at h
 ·rename_i r
  obtain⟨v,rfl,bZ⟩:=iK ay;split at h
  ·rename_i us e
   obtain⟨_,bS,h2,h⟩:=M.inv h;obtain⟨c,rfl⟩:=mD h2;cases h;obtain⟨b,ws,rfl,cE,cn⟩:=R.EF bZ e;exact⟨l,b,zs,ws,rfl,rfl,ao,cE,by rw[av.len,cn.len];exact c,q .ba _ rfl ((av.append cn).cK (jI _ _)) ⟨.ba,rfl,rfl⟩⟩
  ·cases h
 ·cases h
theorem Xi:oz K I M0 v3:=fun O H H₀ l xs zs rs ar S aJ bq ys Q ao av ay aR h q=>by
 match rs,ay,aR,h with
 |[],ay,aR,h=>
  cases ay;unfold v3 at h
  cases e:xs[xs.length-1]? with
  |none=>rw[e]at h;cases h
  |some d=>
   rw[e]at h;cases h;obtain⟨y,aH,aT⟩:=av.get e;exact⟨l,zs,y,rfl,rfl,ao,by rw[av.len];exact aH,q y _ rfl (av.dropLast.cK (jI _ _)) ⟨d,rfl,aT.cK (jI _ _)⟩⟩
 |_::_,ay,aR,h=>cases h
variable{f:List D->List R->M (R×List D)}{r:V->List V->aI->cY->Prop}{ms:cQ}{i:Nat}
theorem Lz(hf:oz K I r f){O:b9}{σ σ':a9}{S aJ:e7}{az:St}{H:aI}{bq:R}{Q:cY}(st:cj K I O σ S az H)(h:(rX i f ms σ).run S=.ok (bq,σ') aJ)
  (q:∀aD v aa,dJ O aD H aa->cj K I aD σ' aJ az aa->dQ σ σ' az az->(∃d,bq=.v d/\Rep K I aD aa d v)->Q v aa) :
  ∃v,az[i]? = some (some v)/\zP K "list" v H/\ng K I ms az H fun ar aZ=>r v ar aZ Q:=by
 obtain⟨rs,a6,aj,h⟩:=M.inv h
 cases e:σ[i]? with
 |none=>rw[e]at h;cases h
 |some s=>
  rw[e]at h
  cases s with
  |emp=>cases h
  |val _=>cases h
  |cp _=>cases h
  |gj _=>cases h
  |i8 _=>cases h
  |kE _=>cases h
  |j4 _=>cases h
  |fi _ _=>cases h
  |b5 p xs=>
   obtain⟨⟨cn,ys⟩,bS,h2,h⟩:=M.inv h;cases h;obtain⟨a,zs,aH,aT,dt,gY⟩:=st.loc i _ e;have ev:az[i]? = some (some (.ref a)):=by
    cases w:az[i]? with
    |none=>rw[w]at aH;cases aH
    |some y=>rw[w]at aH;exact congrArg some aH
   refine⟨.ref a,ev,.inl ⟨rfl,_,dD.of dt⟩,O,σ,S,rs,a6,st,aj,fun aY ar H1 g1 a3 bD nn=>?_⟩;have jl:=g1.same.at' _ _ dt;have aR:H a≠none:=by rw[dt];intro z;cases z
   have lS:aY a=.loc i:=(g1.own a aR).trans aT;refine hf aY H1 H a xs zs rs ar a6 _ _ ys Q jl (gY.go g1) bD nn h2 fun v ws aE ck ⟨d,eZ,e3⟩=>?_
   subst aE;have n8:cH H aY a=.loc i:=by rw[Jq aR];exact lS
   have no:∀w:Own,w≠.loc i->cH H aY a≠w:=fun w hw z=>hw (z.symm.trans n8)
   refine q (cH H aY) v _ (g1.cH.dj.trans (dJ.e6 (no _ (by intro z;cases z)) (no _ (by intro z;cases z)) jl)) ((a3.cH H).e6 e (by rw[ev];rfl) n8 jl ck) ?_ ⟨d,eZ,e3.e6 (no _ (by intro z;cases z)) jl⟩;have er:i<σ.length:=(ahe.mp e).1;exact dQ.put e (fun xs z=>by cases z) (fun _ z=>by cases z;exact⟨xs,rfl⟩) (fun _ _ z=>by cases z)
end
section
variable{X:aS}{x:Str}{i j:Nat}{p apos cu pos pos':Pos}{e:Expr}{aE:List Expr}{ms:cQ}{name y:Str}{id:String}{f:List D->List R->M (R×List D)}{r:V->List V->aI->cY->Prop}
theorem R'(slot:akl "list" name id)(jq:akG (.builtin id)=pure (.type "method_descriptor"))(hm:p7 X id r)(hf:oz X.K X.I r f)(ax:jb X (e::aE) ms)(bY:X.N[i]? = some x)(bF:gT X.env.scope x)
  (hd:(x==("__debug__":Str))=false:=by decide) (dN:(x==("__classdict__":Str))=false:=by decide)
  (hK:aiq (.Name x p) name X.env (eval (.Name x p) X.env)=eval (.Name x p) X.env:=by rfl)
  (nV:((ahN cu (ag6 (e::aE) X.env)).all (fun x=>!x.1)&&(aku cu (ajI [] X.env)).all (fun x=>x.1.isSome)
&&decide ((e::aE).length+([]:List ai7).length+(if([]:List ai7).isEmpty then 0 else 1)<30))=true:=by rfl)
  (hL:(apos.endLine==cu.line)=true:=by rfl) (aQ:ag6 (e::aE) X.env=(false,eval e X.env)::ag6 aE X.env:=by rfl) (ku:(ahN cu (ag6 aE X.env)).any (·.1)=false:=by rfl)
  (uV:ah6 (.Call (.Attribute (.Name x p) name apos) (e::aE) [] cu) none pos.line X.env=pure false:=by rfl) :
  iM X (.Expr (.Call (.Attribute (.Name x p) name apos) (e::aE) [] cu) pos) (kh i f ms):=
 g4 (MF (Mm alr slot jq hm (lx bY bF hd dN) ax hK nV hL aQ ku) uV) fun D az H ⟨O,σ,S,bO,aJ,st,h,q⟩=>by
  obtain⟨⟨cn,dA⟩,a6,aj,h⟩:=M.inv h;cases h;exact Lz hf st aj fun aD v aa g b2 k _=>q aD az aa g b2 k
theorem Sa(slot:akl "list" name id)(jq:akG (.builtin id)=pure (.type "method_descriptor"))(hm:p7 X id r)(hf:oz X.K X.I r f)(bY:X.N[i]? = some x)(bF:gT X.env.scope x)
  (C2:X.N.Nodup) (bV:X.N[j]? = some y) (bo:Loc X.env.scope y)
  (hd:(x==("__debug__":Str))=false:=by decide) (dN:(x==("__classdict__":Str))=false:=by decide)
  (hK:aiq (.Name x p) name X.env (eval (.Name x p) X.env)=eval (.Name x p) X.env:=by rfl) (hL:(apos.endLine==cu.line)=true:=by rfl)
  (aQ:ah6 (.Call (.Attribute (.Name x p) name apos) [] [] cu) (some (.Name y pos')) pos.line X.env=pure false:=by rfl) (qB:X.fn y=true\/X.env.scope.names.lookup y=some .local:=by first | exact .inl rfl | exact .inr rfl | assumption) :
  iM X (.Assign [.Name y pos'] (.Call (.Attribute (.Name x p) name apos) [] [] cu) pos) (t8 j i f aG):=
 g4 (pM C2 bV bo (Mn alr slot jq hm (lx bY bF hd dN) hK hL) aQ qB) fun D az H ⟨O,σ,S,bO,aJ,st,h,q⟩=>by
  obtain⟨⟨cn,dA⟩,a6,aj,h⟩:=M.inv h;obtain⟨d,bS,h2,h⟩:=M.inv h;cases h;obtain⟨v,aH,aT,nB,ag0,adx,rs,ady,rg,h0,k0⟩:=Lz (r:=r) (Q:=fun v aa=>D.a8 (az.set j (some v)) aa) hf st aj fun aD v aa g b2 k ⟨d',eZ,e3⟩=>by
   subst eZ;cases h2;exact q aD _ aa g (b2.set ⟨v,rfl,e3⟩) (k.trans (dQ.set fun xs z=>by cases z))
  cases h0;exact⟨v,aH,aT,k0 nB [] H (Go.refl _ _) rg rfl trivial⟩
end
def wz(b1:iP)(O:b9)(H:aI)(ys:List V):Prop:=∀bt aZ,dJ O bt H aZ->∀i,(i<ys.length->b1.go i aZ/\∀x aa,b1.tA i aZ x aa->aa=aZ/\ys[i]? = some x)/\(ys.length<=i->b1.stop i aZ)
noncomputable abbrev g9:=a9->M (List D)
noncomputable def zH(K:a4)(I:br)(m:g9):TI:=fun az H R=>∃O σ S xs aJ,cj K I O σ S az H/\(m σ).run S=.ok xs aJ/\∀aD aa b1 ys,Go O aD H aa->cj K I aD σ aJ az aa->wy b1 aa ys->bu K I aD aa xs ys->R b1 aa
noncomputable def zK(K:a4)(I:br)(m:g9):TI:=fun az H R=>∃O σ S xs aJ,cj K I O σ S az H/\(m σ).run S=.ok xs aJ/\∀aD aa b1 ys,Go O aD H aa->cj K I aD σ aJ az aa->wz b1 aD aa ys->bu K I aD aa xs ys->R b1 aa
abbrev rA(X:aS)(cV iter:Expr)(m:g9):Prop:=kP X cV iter (zH X.K X.I m)
abbrev tD(X:aS)(cV iter:Expr)(m:g9):Prop:=kP X cV iter (zK X.K X.I m)
theorem q8{t t':TI}(h:kP X cV e t)(i:∀σ H Q,t' σ H Q->t σ H Q):kP X cV e t':=fun ae s σ H Q J q=>h ae s σ H Q J (i _ _ _ q)
theorem dJ.NO(g:dJ O aD H aa)(h:dG K H a ys):dG K aa a ys:=by
 rcases h with(h | ⟨o,h⟩) | h
 ·exact .inl (.inl (g.cells _ _ h (.inr (.inr (.inl ⟨_,rfl⟩)))))
 ·exact .inl (.inr ⟨o,g.cells _ _ h (.inr (.inr (.inr ⟨_,_,rfl⟩)))⟩)
 ·exact .inr h
theorem dJ.Xd(g:dJ O aD H aa)(h:hY K O H a ys):hY K aD aa a ys:=by
 rcases h with⟨h,f⟩ | h
 ·refine .inl ⟨?_,by rw[g.own a (ed.some h) f];exact f⟩
  rcases h with h | ⟨o,h⟩
  ·exact .inl (g.cells _ _ h (f.elim .inl fun z=>.inr (.inl z)))
  ·exact .inr ⟨o,g.cells _ _ h (f.elim .inl fun z=>.inr (.inl z))⟩
 ·exact .inr h
noncomputable def jP(m:bj):g9:=fun σ=>do
 let r <-m σ
 match r with
 |.v (.tup xs)=>pure xs|_=>bad
noncomputable def pb(m:bj):g9:=fun σ=>do
 let r <-m σ
 match r with
 |.v (.lst xs)=>pure xs|.fr xs=>pure xs|.cp xs=>pure xs|_=>bad
noncomputable def qK(m:bj):g9:=fun σ=>do
 let r <-m σ
 match r.gb with
 |some xs=>pure xs|none=>bad
noncomputable def l9(lo:Int)(n:Nat):List D:=(ahU n).map fun i=>D.int (lo+(i:Nat))
omit [ak.a7]in
theorem zc(lo:Int)(n:Nat):(l9 lo n).length=n:=by unfold l9;rw[ag4,akX]
noncomputable def lh(m:cQ):g9:=fun σ=>do
 let rs <-m σ
 match rs with
 |[.v (.int j)]=>if -(2 ^ 62)<=j/\j<2 ^ 62 then pure (l9 0 j.toNat)else bad|_=>bad
theorem aak(lo:Int)(n:Nat):bu K I O H (l9 lo n) (pP lo n):=by
 unfold l9 pP
 induction(ahU n)with
 |nil=>rfl|cons a r bk=>exact⟨.int (lo+a),_,rfl,rfl,bk⟩
theorem VX(lo:Int)(n:Nat):wz (rC lo n) O H (pP lo n):=fun bt aZ _ i=>Km (H:=aZ) lo n aZ (dw.refl _) i
section
variable{X:aS}{cV l:Expr}{m:bj}{e a:Expr}{ms:cQ}{pos p:Pos}
theorem Ng:(∀az H R,zK K I (lh ms) az H R->DE (ng K I ms) az H R)/\(∀az H R,zH K I (lh ms) az H R->DE (ng K I ms) az H R):=by
 constructor<;>
 ·rintro az H R ⟨O,σ,S,xs,aJ,st,h,q⟩
  obtain⟨rs,a6,aj,h⟩:=M.inv h;split at h
  ·rename_i j
   by_cases c:-(2 ^ 62)<=j/\j<2 ^ 62
   ·rw[if_pos c]at h
    cases h;refine⟨O,σ,S,_,_,st,aj,fun aY ar H1 g1 a3 bD nn=>?_⟩;obtain⟨v,rfl,bZ⟩:=iK bD;cases(show v=.int j from bZ);exact⟨j,rfl,c.1,c.2,q aY H1 (rC 0 j.toNat) (pP 0 j.toNat) g1 a3 (by first | exact VX _ _ | exact Km _ _) (aak _ _)⟩
   ·rw[if_neg c]at h;cases h
  ·cases h
theorem RI(a':dC X "range")(hm:X.I "range"=none)(ax:jb X [a] ms)(aQ:ag6 [a] X.env=[(false,eval a X.env)]:=by rfl):tD X cV (.Call (.Name "range" p) [a] [] pos) (lh ms):=q8 (MA a' hm ax aQ) Ng.1
theorem Q6(a':dC X "range")(hm:X.I "range"=none)(ax:jb X [a] ms)(aQ:ag6 [a] X.env=[(false,eval a X.env)]:=by rfl):rA X cV (.Call (.Name "range" p) [a] [] pos) (lh ms):=q8 (MA a' hm ax aQ) Ng.2
theorem Q5(ao:cg X l m):rA X cV l (qK m):=q8 (Mz ao)<|by
 rintro az H nC ⟨O,σ,S,xs,aJ,st,h,q⟩;obtain⟨r,a6,aj,h⟩:=M.inv h
 cases e:r.gb with
 |none=>rw[e]at h;cases h
 |some zs=>
  rw[e]at h;cases h;refine⟨O,σ,S,r,_,st,aj,fun aY v H1 g1 a3 bD nn=>?_⟩;obtain⟨a,ys,rfl,ls,ck⟩:=R.qP bD e;exact⟨a,rfl,⟨ys,ls⟩,q aY H1 (oD X.K a) ys g1 a3 (Kl ls) ck⟩
theorem DL{K:a4}{O:b9}{H:aI}{a:Addr}{xs:List V}(h:hY K O H a xs):wz (oD K a) O H xs:=fun bt aZ g i=>Kl (g.Xd h).e5 aZ (dw.refl _) i
theorem RH(ao:cg X l m):tD X cV l (pb m):=q8 (Mz ao)<|by
 rintro az H R ⟨O,σ,S,xs,aJ,st,h,q⟩;obtain⟨r,a6,aj,h⟩:=M.inv h;refine⟨O,σ,S,r,a6,st,aj,fun aY v H1 g1 a3 bD nn=>?_⟩;split at h
 ·cases h
  obtain⟨a,ys,rfl,ls,ck⟩:=bD;exact⟨a,rfl,⟨ys,ls.e5⟩,q aY H1 (oD X.K a) ys g1 a3 (DL (.inl ⟨.inl ls.1,.inl ls.2⟩)) ck⟩
 ·cases h
  obtain⟨a,ys,rfl,ls,t,ck⟩:=bD;exact⟨a,rfl,⟨ys,dD.of ls⟩,q (cH H aY) H1 (oD X.K a) ys g1.cH (a3.cH H) (DL (.inl ⟨.inl ls,.inl (CH (nn a rfl) t)⟩)) (ck.cK (jI _ _))⟩
 ·cases h
  obtain⟨a,ys,rfl,ls,ck⟩:=bD;exact⟨a,rfl,⟨ys,ls.e5⟩,q aY H1 (oD X.K a) ys g1 a3 (DL ls) ck⟩
 ·cases h
theorem Q8(ao:cg X l m):rA X cV l (jP m):=q8 (MB ao)<|by
 rintro az H R ⟨O,σ,S,xs,aJ,st,h,q⟩;obtain⟨r,a6,aj,h⟩:=M.inv h;split at h
 ·rename_i zs
  cases h;refine⟨O,σ,S,_,_,st,aj,fun aY v H1 g1 a3 bD nn=>?_⟩;obtain⟨a,ys,rfl,ls,ck⟩:=bD;exact⟨a,rfl,⟨ys,ls⟩,q aY H1 (rE X.K a) ys g1 a3 (Kn ls) ck⟩
 ·cases h
theorem VZ{K:a4}{O:b9}{H:aI}{a:Addr}{xs:List V}(h:dG K H a xs):wz (rE K a) O H xs:=fun bt aZ g i=>Kn (g.NO h) aZ (dw.refl _) i
theorem RJ(ao:cg X l m):tD X cV l (jP m):=q8 (MB ao)<|by
 rintro az H R ⟨O,σ,S,xs,aJ,st,h,q⟩;obtain⟨r,a6,aj,h⟩:=M.inv h;split at h
 ·rename_i zs
  cases h;refine⟨O,σ,S,_,_,st,aj,fun aY v H1 g1 a3 bD nn=>?_⟩;obtain⟨a,ys,rfl,ls,ck⟩:=bD;exact⟨a,rfl,⟨ys,ls⟩,q aY H1 (rE X.K a) ys g1 a3 (VZ ls) ck⟩
 ·cases h
end
noncomputable def iW(b:D->aV):List D->aV
 |[]=>fun σ=>pure (.a8 σ)
 |d::ds=>fun σ=>do
  let bO <-b d σ
  match bO with
  |.a8 σ'=>iW b ds σ'|.c3 σ'=>iW b ds σ'|.fM σ'=>pure (.a8 σ')|.cA r=>pure (.cA r)
noncomputable def iT(i:Nat)(it:g9)(b:aV):aV:=fun σ=>do
 let ds <-it σ
 iW (fun d σ=>b (σ.set i (.val d))) ds σ
noncomputable def rn(c:a9->M Bool)(b:aV):Nat->aV
 |0=>fun _=>bad
 |n+1=>fun σ=>do
  let t <-c σ
  if t=true then do
   let bO <-b σ
   match bO with
   |.a8 σ'=>rn c b n σ'|.c3 σ'=>rn c b n σ'|.fM σ'=>pure (.a8 σ')|.cA r=>pure (.cA r)
  else pure (.a8 σ)
@[irreducible] noncomputable def mh:Nat:=2 ^ 24
noncomputable def ub(c:a9->M Bool)(b:aV):aV:=rn c b mh
theorem cj.val{σ:a9}{az:St}(st:cj K I O σ S az H)(h:Rep K I O H d v):cj K I O (σ.set i (.val d)) S (az.set i (some v)) H:=st.set ⟨v,rfl,h⟩
theorem bu.dj(g:dJ O aD H aa):∀{ds:List D}{ys:List V},bu K I O H ds ys->bu K I aD aa ds ys:=by
 have rep:∀(d:D)(v:V),Rep K I O H d v->Rep K I aD aa d v:=by
  intro d
  induction d using D.rec (motive_2:=fun ds=>∀ys,bu K I O H ds ys->bu K I aD aa ds ys)with
  |ba=>exact fun v h=>h
  |aB _=>exact fun v h=>h
  |int _=>exact fun v h=>h
  |str _=>exact fun v h=>h
  |fn _=>exact fun v h=>h
  |ty _=>exact fun v h=>h
  |dX l _ _=>exact fun v h=>h
  |tup xs bk=>exact fun v ⟨a,ys,q,l,r⟩=>⟨a,ys,q,g.NO l,bk ys r⟩
  | lst xs bk=>exact fun v ⟨a,ys,q,l,r⟩=>⟨a,ys,q,⟨g.cells _ _ l.1 (.inl l.2),by rw[g.own a (by rw[l.1];intro z;cases z) (.inl l.2)];exact l.2⟩,bk ys r⟩
  |nil=>assumption|cons x xs uY uZ=>
   rename_i zs aX;obtain⟨y,r,q,a,b⟩:=aX;exact⟨y,r,q,uY y a,uZ r b⟩
 intro ds
 induction ds with
 |nil=>exact fun h=>h
 |cons x xs bk=>rintro ys ⟨y,r,q,a,b⟩;exact⟨y,r,q,rep x y a,bk b⟩
section
variable{X:aS}{iter:Expr}{it:g9}{i:Nat}{b:aV}{body:List Stmt}{pos hq:Pos}{x:Str}{c:Expr}{t:a9->M Bool}
theorem bu.get'{ds:List D}{ys:List V}{k:Nat}(h:bu K I O H ds ys)(e:ds.drop k=d::mG):∃y,ys[k]? = some y/\Rep K I O H d y/\ds.drop (k+1)=mG:=by
 have aH:ds[k]? = some d:=by
  have:=congrArg (·[0]?) e;simpa using this
 obtain⟨y,q,r⟩:=h.get aH;refine⟨y,q,r,?_⟩;have:=congrArg (List.drop 1) e;simpa[ai8]using this
theorem TC{G:kc}{B:aN.D->aV}(T6:∀O σ S az H d y f bS Q,cj K I O σ S az H->Rep K I O H d y->(B d σ).run S=.ok f bS->(∀wm z_,cj K I O wm S z_ H->dQ σ wm az z_->(b wm).run S=.ok f bS->Q z_ H)->G y az H Q) :
  ∀D az H,mb K I (fun σ=>do
   let ds <-it σ
   iW B ds σ) D az H->F8 (zK K I it) G (mb K I b) D az H:=by
 rintro D az H ⟨O,σ,S,bO,aJ,st,h,q⟩;obtain⟨ds,a6,aj,h⟩:=M.inv h;refine⟨O,σ,S,ds,a6,st,aj,fun aY H1 b1 ys g1 a3 its ck=>?_⟩;refine⟨fun k m fz aa=>m=ys.length-k/\k<=ys.length/\∃aD σ' ee,cj K I aD σ' ee fz aa/\dJ aY aD H1 aa/\dQ σ σ' az fz/\(iW B (ds.drop k) σ').run ee=.ok bO aJ,
  ⟨_,rfl,ahC _,aY,σ,a6,a3,dJ.refl _ _,dQ.refl _ _,h⟩,?_⟩
 rintro k m fz aa ⟨rfl,aL,aD,σ',ee,b2,g',cv,h⟩
 cases e:ds.drop k with
 |nil=>
  have ao:ys.length<=k:=by
   have:=congrArg ai5 e;rw[ahz,aiy]at this;rw[ck.len];omega
  rw[e]at h;cases h;exact .inl ⟨(its aD aa g' k).2 ao,q aD fz aa (g1.dj.trans g') b2 cv⟩
 |cons d mG=>
  obtain⟨y,d_,bx,bE⟩:=(bu.dj g' ck).get' e;have er:k<ys.length:=(ahe.mp d_).1;obtain⟨go,Gz⟩:=(its aD aa g' k).1 er;rw[e]at h;obtain⟨f1,bS,h2,h⟩:=M.inv h;refine .inr ⟨go,fun hv aZ=>∃bt dA bS,cj K I bt dA bS hv aZ/\dJ aY bt H1 aZ/\dQ σ dA az hv/\(iW B (ds.drop (k+1)) dA).run bS=.ok bO aJ,?_,fun x aZ ry=>?_⟩
  ·rintro hv aZ ⟨bt,dA,bS,a1,a2,qc,rK⟩
   exact⟨_,by omega,rfl,er,bt,dA,bS,a1,a2,qc,rK⟩
  ·obtain⟨rfl,ex⟩:=Gz x aZ ry
   rw[d_]at ex;cases ex;refine T6 _ _ _ _ _ _ _ _ _ _ b2 bx h2 fun wm z_ vN bw U=>?_
   refine⟨aD,wm,ee,f1,bS,vN,U,?_⟩
   cases f1 with
   | a8 dA=>exact fun bt hv aZ g2 cW k2=>⟨bt,dA,bS,cW,g'.trans g2,cv.trans (bw.trans k2),by rw[bE];exact h⟩
   | c3 dA=>exact fun bt hv aZ g2 cW k2=>⟨bt,dA,bS,cW,g'.trans g2,cv.trans (bw.trans k2),by rw[bE];exact h⟩
   |fM dA=>cases h;exact fun bt hv aZ g2 cW k2=>q bt hv aZ (g1.dj.trans (g'.trans g2)) cW (cv.trans (bw.trans k2))
   |cA r=>cases h;exact fun bt v aZ g2 gK aT cn=>q bt v aZ (g1.dj.trans (g'.trans g2)) gK aT cn
theorem TF:∀D az H,mb K I (iT i it b) D az H->F8 (zK K I it) (o3 i) (mb K I b) D az H:=
 TC (B:=fun d σ=>b (σ.set i (.val d))) fun _ _ _ _ _ _ _ _ _ _ st bx h k=>k _ _ (st.val bx) (dQ.set fun xs z=>by cases z) h
theorem R8(aP:akh (model X.prog X.w) X.A X.env X.c2)(aA:X.calm=true)(aC:tD X (.Name x hq) iter it)(bY:X.N.Nodup)(av:X.N[i]? = some x)(ao:Loc X.env.scope x)(U:kM X body b)
  (aQ:∀x,ail iter X.env x=pure x:=by intro _;rfl) (hf:X.fn x=true\/X.env.scope.names.lookup x=some .local:=by first | exact .inl rfl | exact .inr rfl | assumption):iM X (.For (.Name x hq) iter body [] pos) (iT i it b):=
 g4 (Zv aP aA aC (EO bY av ao hf) U aQ) TF
theorem acp:∀D az H,mb K I (ub t b) D az H->N5 (mc K I t) (mb K I b) D az H:=by
 rintro D az H ⟨O,σ,S,bO,aJ,st,h,q⟩;refine⟨fun m fz aa=>∃aD σ' ee,cj K I aD σ' ee fz aa/\dJ O aD H aa/\dQ σ σ' az fz/\(rn t b m σ').run ee=.ok bO aJ,⟨mh,O,σ,S,st,dJ.refl _ _,dQ.refl _ _,h⟩,?_⟩;rintro m fz aa ⟨aD,σ',ee,b2,g',cv,h⟩
 cases m with
 |zero=>cases h
 |succ n=>
  obtain⟨tt,a6,aj,h⟩:=M.inv h;refine⟨aD,σ',ee,tt,a6,b2,aj,fun aY H1 g1 a3=>?_⟩
  cases tt with
  |false=>
   rw[if_neg ahd]at h;cases h;exact lj (q aY fz H1 (g'.trans g1.dj) a3 cv)
  |true=>
   rw[if_pos rfl]at h;obtain⟨f1,bS,h2,h⟩:=M.inv h;refine ky ⟨fun hv aZ=>∃bt dA bS,cj K I bt dA bS hv aZ/\dJ O bt H aZ/\dQ σ dA az hv/\(rn t b n dA).run bS=.ok bO aJ,?_,aY,σ',a6,f1,bS,a3,h2,?_⟩
   ·rintro hv aZ ⟨bt,dA,bS,a⟩
    exact⟨n,alj _,bt,dA,bS,a⟩
   ·cases f1 with
    |a8 dA=>exact fun bt hv aZ g2 cW k2=>⟨bt,dA,bS,cW,g'.trans (g1.dj.trans g2),cv.trans k2,h⟩
    |c3 dA=>exact fun bt hv aZ g2 cW k2=>⟨bt,dA,bS,cW,g'.trans (g1.dj.trans g2),cv.trans k2,h⟩
    |fM dA=>cases h;exact fun bt hv aZ g2 cW k2=>q bt hv aZ (g'.trans (g1.dj.trans g2)) cW (cv.trans k2)
    |cA r=>cases h;exact fun bt v aZ g2 gK aT cn=>q bt v aZ (g'.trans (g1.dj.trans g2)) gK aT cn
theorem Sg(aP:akh (model X.prog X.w) X.A X.env X.c2)(aA:hx X c t)(U:kM X body b):iM X (.While c body [] pos) (ub t b):=g4 (MH aP aA U) acp
end
noncomputable def fR(t:a9->M Bool)(el:bj)(σ:a9):List D->M (List D)
 |[]=>pure []|d::ds=>do
  let b <-t (σ.set 0 (.val d))
  if b=true then do
   let r <-el (σ.set 0 (.val d))
   let x <-r.dat
   let xs <-fR t el σ ds
   pure (x::xs)
  else fR t el σ ds
noncomputable def qh:Option Slot->Slot
 |some (.val d)=>.val d|some (.b5 _ xs)=>.cp xs|some (.cp xs)=>.cp xs|some (.gj aK)=>.i8 aK|some (.i8 aK)=>.i8 aK|some (.kE aK)=>.j4 aK|some (.j4 aK)=>.j4 aK|_=>.emp
noncomputable def f9(n:Nat)(cap:List Nat)(σ:a9):a9:=ahu n .emp++cap.map fun k=>qh σ[k]?
noncomputable def hF(n:Nat)(cap:List Nat)(it:g9)(t:a9->M Bool)(el:bj):bj:=fun σ=>do
 let ds <-it σ
 eS (ds.length<ag5)
 let xs <-fR t el (f9 n cap σ) ds
 pure (.fr xs)
noncomputable def fF:a9->M Bool:=fun _=>pure true
abbrev tC(X:aS)(ifs:List Expr)(t:a9->M Bool):Prop:=p9 X ifs (mc X.K X.I t)
theorem Il:tC X [] fF:=by
 rintro ae s σ H Q J ⟨O,σ',S,b,aJ,st,h,q⟩;cases h;exact Za ae s σ H Q J (q O H (Go.refl _ _) st)
theorem RK(h:hx X c t):tC X [c] t:=Zb h
noncomputable def Own.dK:Own->Own
 |.loc _=>.out|.fi _ _=>.out|.eK=>.out|o=>o
noncomputable def dK(O:b9):b9:=fun b=>(O b).dK
theorem jj:dK O b=.free↔O b=.free:=by unfold dK;cases O b<;>simp[Own.dK]
theorem jE(O:b9)(b:Addr):dK O b=.free\/dK O b=.out:=by unfold dK;cases O b<;>simp[Own.dK]
theorem ji(O:b9):iO O (dK O):=⟨fun _ h=>jj.mpr h⟩
theorem hY.dK(h:hY K O H a ys):hY K (dK O) H a ys:=by
 rcases h with⟨h,f⟩ | h
 ·refine .inl ⟨h,?_⟩
  rcases f with f | f
  ·exact .inl (jj.mpr f)
  ·exact .inr (by unfold aN.dK;rw[f];rfl)
 ·exact .inr h
theorem cj.dK(st:cj K I O σ S az H)(n:Nat)(cap:List Nat):cj K I (dK O) (f9 n cap σ) S (eG n cap az) H:=by
 refine⟨⟨fun a ax=>st.dh.has a fun z=>ax (jj.mpr z),st.dh.tabs⟩,?_,fun i s e=>?_,st.emp⟩
 ·unfold f9 eG
  rw[ag3,ag3,ahR,ahR,ag4,ag4]
 ·unfold f9 at e
  unfold eG
  by_cases aC:i<n
  ·rw[ahF (by simpa using aC),aiG,if_pos aC]at e
   cases e;exact trivial
  ·rw[ah4 (by simpa using aC),ahR,ahA]at e
   rw[ah4 (by simpa using aC),ahR,ahA]
   cases jH:cap[i-n]? with
   |none=>rw[jH]at e;cases e
   |some k=>
    rw[jH]at e;have bE:qh σ[k]? = s:=ahx e;show gF K I _ H _ s (some (az[k]?.join)).join
    cases aE:σ[k]? with
    |none=>rw[aE]at bE;subst bE;exact trivial|some s0=>
     rw[aE]at bE;have l:=st.loc k s0 aE
     cases s0 with
     |emp=>subst bE;exact trivial| gj _=>subst bE;obtain⟨a,ys,q,o,l,r⟩:=l;exact⟨a,ys,q,⟨.inl l,.inr (by unfold aN.dK;rw[o];rfl)⟩,r.cK (ji O)⟩
     | kE _=>subst bE;obtain⟨a,ys,q,o,l,r⟩:=l;exact⟨a,ys,q,⟨.inl l,.inr (by unfold aN.dK;rw[o];rfl)⟩,r.1,r.2.cK (ji O)⟩
     | j4 _=>subst bE;obtain⟨a,ys,q,l,r⟩:=l;exact⟨a,ys,q,⟨l.1,l.2.elim (fun f=>.inl (jj.mpr f)) fun f=>.inr (by unfold aN.dK;rw[f];rfl)⟩,r.1,r.2.cK (ji O)⟩
     |fi _ _=>subst bE;exact trivial| i8 _=>subst bE;obtain⟨a,ys,q,l,r⟩:=l;exact⟨a,ys,q,⟨l.1,l.2.elim (fun f=>.inl (jj.mpr f)) fun f=>.inr (by unfold aN.dK;rw[f];rfl)⟩,r.cK (ji O)⟩
     |val d=>subst bE;obtain⟨v,q,r⟩:=l;exact⟨v,q,r.cK (ji O)⟩
     |cp xs=>subst bE;obtain⟨a,ys,q,l,r⟩:=l;exact⟨a,ys,q,l.dK,r.cK (ji O)⟩
     | b5 p xs=>subst bE;obtain⟨a,ys,q,o,l,r⟩:=l;exact⟨a,ys,q,.inl ⟨.inl l,.inr (by unfold aN.dK;rw[o];rfl)⟩,r.cK (ji O)⟩
theorem cj.Gb{O:b9}{H:aI}(st:cj K I O σ S az H)(aM:O l=.eK)(ao:H l=some (.lst zs)):cj K I O σ S az (upd H l (.lst ws)):=by
 have ne:∀w:Own,w≠.eK->O l≠w:=fun w hw z=>hw (z.symm.trans aM)
 exact⟨st.dh.e6 ao,st.len,fun j t e=>(st.loc j t e).e6 (ne _ (by intro z;cases z)) (ne _ (by intro z;cases z)) (ne _ (by intro z;cases z)) (fun p=>ne _ (by intro z;cases z)) ao,st.emp⟩
section
variable{K:a4}{I:br}{n:Nat}{cap:List Nat}{it:g9}{t:a9->M Bool}{el:bj}
inductive CompI(K:a4)(I:br)(n:Nat)(cap:List Nat)(t:a9->M Bool)(el:bj)(aY:b9)(σ:a9)(aJ:e7)(az:St)(H1:aI)(A:Addr)(ds xs:List aN.D)(k:Nat)(zs:List V)(aa:aI):Prop
 |mk (aD:b9) (ee:e7) (acc kK:List aN.D) (b2:cj K I aD (f9 n cap σ) ee (eG n cap az) aa) (s':dw H1 aa) (hQ:∀b,H1 b≠none->aD b=dK aY b) (kH:aD A=.eK) (dT:aa A=some (.lst zs)) (aX:zs.length<=k)
   (hT:bu K I aD aa acc zs) (h:(fR t el (f9 n cap σ) (ds.drop k)).run ee=.ok kK aJ) (ex:acc++kK=xs)
theorem R1(aR:0<n):∀az H Q,fw K I (hF n cap it t el) az H Q->vQ n cap (zH K I it) (o3 0) (mc K I t) (fw K I el) az H Q:=by
 rintro az H Q ⟨O,σ,S,r,aJ,st,h,q⟩;obtain⟨ds,a6,aj,h⟩:=M.inv h;obtain⟨_,bS,h2,h⟩:=M.inv h;obtain⟨hlen,rfl⟩:=mD h2;obtain⟨xs,hB,bz,h⟩:=M.inv h;cases h;refine⟨O,σ,S,ds,a6,st,aj,fun aY H1 b1 ys g1 a3 its ck=>fun D e0=>?_⟩;have vM:cj K I (g5 (dK aY) D .eK) (f9 n cap σ) a6 (eG n cap az) (upd H1 D (.lst [])):=(a3.dK n cap).new e0;refine⟨fun k m zs aa=>m=ys.length-k/\k<=ys.length/\CompI K I n cap t el aY σ aJ az H1 D ds xs k zs aa,
  ⟨_,rfl,ahC _,_,a6,[],xs,vM,i4 e0 _,fun b U=>mg (by rintro rfl;exact U e0),om,eb,ahg _,rfl,bz,rfl⟩,?_⟩
 rintro k m zs aa ⟨rfl,aL,aD,ee,acc,kK,b2,s',hQ,kH,dT,aX,hT,h,ex⟩
 cases e:ds.drop k with
 |nil=>
  have ao:ys.length<=k:=by
   have:=congrArg ai5 e;rw[ahz,aiy]at this;rw[ck.len];omega
  rw[e]at h;cases h;rw[ahl]at ex;subst ex;refine .inl ⟨(its aa s' k).2 ao,?_⟩
  let gD:b9:=fun b=>match H1 b with | none=>aD b | some _=>aY b
  have pJ:∀b,H1 b≠none->gD b=aY b:=fun b U=>by
   show(match H1 b with | none=>aD b | some _=>aY b)=aY b
   cases e:H1 b with
   |none=>exact absurd e U|some _=>rfl
  have jU:∀b,H1 b=none->gD b=aD b:=fun b U=>by
   show(match H1 b with | none=>aD b | some _=>aY b)=aD b;rw[U]
  have cK:iO aD gD:=⟨fun b U=>by
    by_cases hg:H1 b=none
    ·rw[jU b hg];exact U
    ·rw[pJ b hg];exact jj.mp ((hQ b hg).symm.trans U)⟩
  have go:Go aY gD H1 aa:=⟨s',pJ⟩;have dh:dP gD aa:=⟨fun b U=>by
   by_cases hg:H1 b=none
   ·rw[jU b hg]at U;exact b2.dh.has b U
   ·exact s'.some hg,b2.dh.tabs⟩
  have cm:a6=aJ:=a3.emp.trans b2.emp.symm;subst cm;refine q gD (.ref D) aa (g1.trans go) (a3.go go dh) ⟨D,zs,rfl,dT,(jU D e0).trans kH,hT.cK cK⟩ fun a f_=>?_
  cases f_;exact g1.same.free e0
 |cons d mG=>
  have Z6:bu K I aD aa ds ys:=(ck.cK (ji aY)).go ⟨s',hQ⟩;obtain⟨y,d_,bx,bE⟩:=Z6.get' e;have er:k<ys.length:=(ahe.mp d_).1;obtain⟨go,Gz⟩:=(its aa s' k).1 er;rw[e]at h;obtain⟨b,bS,h2,h⟩:=M.inv h;refine .inr ⟨go,fun x aZ ry=>?_⟩;obtain⟨uk,km⟩:=Gz x aZ ry;have S4:=uk.symm;subst S4;rw[d_]at km;cases km;have h0:(eG n cap az)[0]? = some none:=by
   cases n with
   |zero=>exact absurd aR (ahW _)|succ j=>rfl
  refine⟨(lI.refl _).set h0,aD,_,ee,b,bS,b2.val bx,h2,fun bt cX g2 cW=>?_⟩
  cases b with
  |false=>
   rw[if_neg ahd]at h;refine lj ⟨ys.length-(k+1),by omega,rfl,er,bt,bS,acc,kK,?_,s'.trans g2.same,fun b U=>(g2.own b (s'.some U)).trans (hQ b U),(g2.own D (by rw[dT];intro z;cases z)).trans kH,g2.same.at' _ _ dT,by omega,hT.go g2,by rw[bE];exact h,ex⟩;have cm:ee=bS:=b2.emp.trans cW.emp.symm;exact cm▸b2.go g2 cW.dh
  |true=>
   rw[if_pos rfl]at h;obtain⟨r,kR,c0,h⟩:=M.inv h;obtain⟨x,tS,gm,h⟩:=M.inv h;obtain⟨il,GP,eO,h⟩:=M.inv h;cases h;refine ky ⟨bt,_,bS,r,kR,cW,c0,fun fm v fa g3 e_ bD nn=>?_⟩;obtain⟨a0,rfl⟩:=nK (H₀:=cX) bD nn gm;have G:Go aD (cH cX fm) aa fa:=g2.trans g3.cH;have jK:fa D=some (.lst zs):=G.same.at' _ _ dT;have ma:cH cX fm D=.eK:=(G.own D (by rw[dT];intro z;cases z)).trans kH;have cm:ee=kR:=b2.emp.trans e_.emp.symm;refine⟨jK,by rw[ck.len]at er;omega,ys.length-(k+1),by omega,rfl,er,cH cX fm,kR,acc++[x],il,?_,Gd e0 (s'.trans G.same) jK _,fun b U=>(G.own b (s'.some U)).trans (hQ b U),ma,eb,
    by rw[ag3,ahm];omega,((hT.go G).append (.one a0)).e6 (by rw[ma];intro z;cases z) jK,by rw[bE];exact eO,by rw[aht];exact ex⟩
   exact cm▸(b2.go G (e_.cH cX).dh).Gb ma jK
end
section
variable{X:aS}{scope esc:Scope}{EN N:List Str}{n:Nat}{cap:List Nat}{elt iter:Expr}{ifs:List Expr}{pos hq:Pos}{x:Str}{it:g9}{t:a9->M Bool}{el:bj}
theorem Rj(S:mr esc scope EN N n cap)(aR:0<n)(aC:rA X (.Name x hq) iter it)(av:N[0]? = some x)(lb:∀C aW s H,Loc (cz X scope N C aW s H).env.scope x/\(cz X scope N C aW s H).env.scope.names.lookup x=some .local)
  (bG:∀C aW s H,tC (cz X scope N C aW s H) ifs t) (iC:∀C aW s H,cg (cz X scope N C aW s H) elt el)
  (he:X.env.scope=esc:=by rfl) (bY:X.N=EN:=by rfl) (aA:X.calm=true:=by rfl) (aQ:∀x,ail iter X.env x=pure x:=by intro _;rfl):cg X (.ListComp elt [⟨.Name x hq,iter,ifs,0⟩] scope pos) (hF n cap it t el):=
 et (Mq (wi:=zH X.K X.I it) (g:=o3 0) (tt:=mc X.K X.I t) (te:=fw X.K X.I el) S aC (fun C aW s H=>EO S.bW av (lb C aW s H).1 (.inr (lb C aW s H).2)) bG iC he bY aA aQ) (R1 aR)
end
noncomputable abbrev b8:=List D->M R
noncomputable def wo(K:a4)(I:br)(O:b9)(H:aI):D->V->Prop
 |.lst xs,v=>∃a ys,v=.ref a/\dD K H a ys/\bu K I O H xs ys|.dX bw ar,v=>∃a c9,v=.ref a/\ed H a (.d2 c9)/\eP K I O H (bw.zip ar) c9|d,v=>Rep K I O H d v
noncomputable def lG(K:a4)(I:br)(O:b9)(H:aI):List D->List V->Prop
 |[],ys=>ys=[]|x::xs,ys=>∃y r,ys=y::r/\wo K I O H x y/\lG K I O H xs r
theorem O3{α β:Type}:∀l:List (α×β),(l.map (·.1)).zip (l.map (·.2))=l
 |[]=>rfl| x::l=>by rw[ahi,ahi,akI,O3 l]
noncomputable def e9:D->Slot
 |.lst xs=>.cp xs|.dX bw ar=>.i8 (bw.zip ar)|d=>.val d
theorem PL{r:R}(h:fZ K I O H r v):wo K I O H r.arg v:=by
 match r,h with
 |.v (.lst xs),h=>obtain⟨a,ys,q,l,r⟩:=h;exact⟨a,ys,q,l.e5,r⟩
 |.fr xs,h=>obtain⟨a,ys,q,l,_,r⟩:=h;exact⟨a,ys,q,dD.of l,r⟩
 |.cp xs,h=>obtain⟨a,ys,q,l,r⟩:=h;exact⟨a,ys,q,l.e5,r⟩
 |.ej xs,h=>obtain⟨a,ys,q,l,r⟩:=h;exact⟨a,ys,q,dD.of l,r⟩
 |.v .ba,h=>exact h|.v (.aB _),h=>exact h|.v (.int _),h=>exact h|.v (.str _),h=>exact h|.v (.tup _),h=>exact h|.v (.dX _ _),h=>exact aie h| .eY aK,h=>obtain⟨a,c9,q,l,r⟩:=h;exact⟨a,c9,q,l,by rw[O3];exact r⟩
 |.v (.fn _),h=>exact h|.v (.ty _),h=>exact h
theorem lP:∀{rs:List R}{ar:List V},h1 K I O H rs ar->lG K I O H (rs.map R.arg) ar
 |[],_,h=>h| _::_,_,h=>by obtain⟨y,r,q,a,b⟩:=h;exact⟨y,r,q,PL a,lP b⟩
theorem lG.len:∀{ds:List D}{ar:List V},lG K I O H ds ar->ar.length=ds.length
 | [],_,h=>by cases h;rfl
 | _::_,_,h=>by obtain⟨x,r,rfl,_,b⟩:=h;rw[ahj,ahj,lG.len b]
theorem lG.get:∀{ds:List D}{xs:List V}{i:Nat}{d:D},lG K I O H ds xs->ds[i]? = some d->∃x,xs[i]? = some x/\wo K I O H d x
 | [],_,_,_,_,e=>by simp at e| _::_,_,0,d,h,e=>by obtain⟨x,r,rfl,a,_⟩:=h;cases(show some _=some d from e);exact⟨x,rfl,a⟩
 |_::ds,_,i+1,d,h,e=>by
  obtain⟨x,r,rfl,_,b⟩:=h;obtain⟨y,aH,aT⟩:=lG.get (i:=i) b (by simpa using e);exact⟨y,by simpa using aH,aT⟩
noncomputable def bQ(K:a4)(I:br)(bg:b8):gG:=fun ar H Q _=>∃O ds r aJ,dP O H/\lG K I O H ds ar/\(bg ds).run []=.ok r aJ/\∀aD v aa,Go O aD H aa->dP aD aa->aJ=[]->fZ K I aD aa r v->oE H r v->Q v aa
noncomputable def b4(bg:b8)(ms:cQ):bj:=fun σ=>do
 let rs <-ms σ
 bg (rs.map R.arg)
section
variable{X:aS}{x:Str}{ps:List Str}{k:Nat}{bg:b8}{p pos:Pos}{e:Expr}{aE:List Expr}{ms:cQ}
theorem QX:∀az H Q,fw K I (b4 bg ms) az H Q->N3 (bQ K I bg) (ng K I ms) az H Q:=by
 rintro az H Q ⟨O,σ,S,r,aJ,st,h,q⟩;obtain⟨rs,a6,aj,h⟩:=M.inv h;refine⟨O,σ,S,rs,a6,st,aj,fun aY ar H1 g1 a3 bD nn=>?_⟩;have cm:=a3.emp;subst cm;refine⟨aY,_,r,aJ,a3.dh,lP bD,h,fun aD v aa g d e bq pE=>q aD v aa (g1.trans g) ?_ bq (pE.back g1.same)⟩;subst e;exact a3.go g d
theorem Rd(h:bM X.prog X.w X.K X.I X.base x ps k (bQ X.K X.I bg))(ay:eh k X.A)(a':dC X x)(ax:jb X (e::aE) ms)(da:(x==("__debug__":Str))=false:=by decide)
  (he:ag6 (e::aE) X.env=(false,eval e X.env)::ag6 aE X.env:=by rfl) (du:(ahN pos (ag6 aE X.env)).any (·.1)=false:=by rfl):cg X (.Call (.Name x p) (e::aE) [] pos) (b4 bg ms):=
 et (Mr h ay a' ax da he du) QX
end
noncomputable def fnOf(n N:Nat)(b:aV):b8:=fun ds=>if ds.length=n then do
  let bO <-b (ds.map e9++ahu (N-n) .emp)
  match bO with
  |.cA (.v d)=>pure (.v d)|.cA (.fr xs)=>pure (.fr xs)|.a8 _=>pure (.v .ba)|_=>bad
 else bad
theorem NL(h:wo K I O H d v):gF K I (dK O) H w (e9 d) (some v):=by
 have val:Rep K I O H d v->gF K I (dK O) H w (.val d) (some v):=fun h=>⟨v,rfl,h.cK (ji O)⟩
 match d,h,val with
 |.lst xs,h,_=>
  obtain⟨a,ys,rfl,l,r⟩:=h;exact⟨a,ys,rfl,l.imp (fun z=>⟨z,jE O a⟩) id,r.cK (ji O)⟩
 |.ba,h,val=>exact val h|.aB _,h,val=>exact val h|.int _,h,val=>exact val h|.str _,h,val=>exact val h|.tup _,h,val=>exact val h|.dX bw ar,h,_=>obtain⟨a,c9,rfl,l,r⟩:=h;exact⟨a,c9,rfl,⟨l,jE O a⟩,r.cK (ji O)⟩
 |.fn _,h,val=>exact val h|.ty _,h,val=>exact val h
omit [ak.a7]in
theorem Ji{ds:List D}(h:(fnOf n N b ds).run S=.ok r aJ):ds.length=n:=by
 unfold fnOf at h
 by_cases c:ds.length=n
 ·exact c
 ·rw[if_neg c]at h;cases h
theorem QK{ps N:List Str}(hM:bQ K I (fnOf ps.length N.length cw) ar H Q E):mb K I cw { a8:=fun _ aa=>Q .ba aa,cA:=Q } (ak.start N ar) H:=by
 obtain⟨O,ds,r,aJ,gW,jD,h,q⟩:=hM;have ao:=Ji h;have o8:=jD.len;unfold fnOf at h;rw[if_pos ao]at h;obtain⟨bO,a6,aj,h⟩:=M.inv h;have rg:cj K I (dK O) (ds.map e9++ahu (N.length-ps.length) .emp) [] (ak.start N ar) H:=by
  refine⟨⟨fun a ax=>gW.has a fun z=>ax (jj.mpr z),gW.tabs⟩,?_,fun i s e=>?_,rfl⟩
  ·unfold ak.start
   rw[ag3,ag3,ag4,ag4,ahR,ahR,o8,ao]
  ·by_cases aC:i<ds.length
   ·rw[ahF (by rw[ag4];exact aC),ahA]at e
    cases eZ:ds[i]? with
    |none=>rw[eZ]at e;cases e
    |some d=>
     rw[eZ]at e;cases e;obtain⟨v,ev,bZ⟩:=jD.get eZ;unfold ak.start;rw[ahF (by rw[ag4,o8];exact aC),ahA,ev];exact NL bZ
   ·rw[ah4 (by rw[ag4];omega),aiG]at e
    split at e
    ·cases e;exact trivial
    ·cases e
 have old:∀b,H b≠none->dK O b=.free\/dK O b=.out:=fun b _=>jE O b
 have back:∀{aD:b9}{aa:aI},dJ (dK O) aD H aa->dP aD aa->∃bt:b9,Go O bt H aa/\dP bt aa/\iO aD bt/\∀b,(aD b=.eK\/∃i,aD b=.loc i)->H b=none/\bt b=.eK:=fun{aD aa} g d=>by
  refine⟨fun b=>match H b with | some _=>O b | none=>(match aD b with | .loc _=>.eK | o=>o),⟨⟨fun b o e n=>g.cells b o e ((old b (by rw[e];intro z;cases z)).elim .inl fun z=>.inr (.inl z)) n,g.cJ,g.cI⟩,fun b U=>?_⟩,⟨fun b U=>?_,d.tabs⟩,⟨fun b U=>?_⟩,fun b U=>?_⟩
  ·cases e:H b with
   |none=>exact absurd e U|some o=>rfl
  ·cases e:H b with
   | some o=>exact g.has b (by rw[e];intro z;cases z)|none=>
    rw[e]at U;refine d.has b fun z=>U ?_
    dsimp only;rw[z]
  ·cases e:H b with
   |some o=>
    dsimp only;have:=(g.own b (by rw[e];intro z;cases z) (jE O b)).symm.trans U;exact jj.mp this
   |none=>
    dsimp only;rw[U]
  ·have aR:H b=none:=by
    cases e:H b with
    |none=>rfl|some o=>
     exfalso;have bh:=g.own b (by rw[e];intro z;cases z) (jE O b);rcases jE O b with z | z<;>rw[z]at bh<;>rcases U with w | ⟨i,w⟩<;>rw[bh]at w<;>cases w
   refine⟨aR,?_⟩;dsimp only;rw[aR];rcases U with w | ⟨i,w⟩<;>rw[w]
 refine⟨dK O,_,[],bO,a6,rg,aj,?_⟩
 cases bO with
 |a8 σ'=>
  cases h;intro aD fz aa g b2 _;obtain⟨bt,g2,gK,f2,_⟩:=back g b2.dh;exact q bt .ba aa g2 gK b2.emp rfl trivial
 |fM σ'=>cases h
 |c3 σ'=>cases h
 |cA bq=>
  intro aD v aa g d cm bD;obtain⟨bt,g2,gK,f2,en⟩:=back g d
  cases bq with
  |v dd=>cases h;exact q bt v aa g2 gK cm (Rep.cK f2 bD) trivial
  |fr xs=>
   cases h;obtain⟨a,ys,rfl,l,t,ck⟩:=bD;obtain⟨aR,bG⟩:=en a t;exact q bt _ aa g2 gK cm ⟨a,ys,rfl,l,bG,ck.cK f2⟩ fun b dS=>by cases dS;exact aR
  |cp xs=>exact aie bD|ej xs=>exact aie bD|eY _=>exact aie bD
theorem Jm{P:ahq}{w:World}{K:a4}{I:br}{base:Heap}{x qual:Str}{st:Stmt}{ps N:List Str}{k:Nat}{cw:aV}{f:Addr}{fd:aiJ}{n nl:Nat}(F:nt K x qual st f fd)(Sc:c5 N ps (b_ st))(aR:ps.length=n)(ao:N.length=nl)
  (U:∀(bU:Value)(A:ahX)(outer:List Env)(s:ag9)(H:aI)(E:dH),eh k (A.deeper (ajK qual (b_ st) s.heap.objs.size f bU))->
   kM (gJ iN P w K I base N qual (b_ st) f bU A outer s H E).qX (kZ st) cw):gB P w K I base iN (k+1) f fd ps (bQ K I (fnOf n nl cw)):=by
 subst aR ao;exact F.ok Sc (fun ar H Q E ⟨O,ds,r,aJ,gW,jD,h,q⟩=>jD.len.trans (Ji h)) fun bU A outer s H ar Q E ay hM=>⟨_,U bU A outer s H E ay,QK hM⟩
theorem dW{P:ahq}{w:World}{K:a4}{I:br}{base:Heap}{x:Str}{st:Stmt}{ps N:List Str}{k:Nat}{cw:aV}{n nl:Nat}(bB:bB K I x st ps)(Sc:c5 N ps (b_ st))(aR:ps.length=n)(ao:N.length=nl)
  (U:∀(f:Addr)(bU:Value)(A:ahX)(outer:List Env)(s:ag9)(H:aI)(E:dH),eh k (A.deeper (ajK x (b_ st) s.heap.objs.size f bU))->
   kM (gJ iN P w K I base N x (b_ st) f bU A outer s H E).qX (kZ st) cw):bM P w K I base x ps (k+1) (bQ K I (fnOf n nl cw)):=by
 obtain⟨f,fd,F,b,m⟩:=bB.ex;exact⟨f,fd,Jm F Sc aR ao (fun bU=>U f bU),b,F.cv,m⟩
theorem WL{P:ahq}{w:World}{K:a4}{I:br}{base:Heap}{f:Addr}{fd:aiJ}{k:Nat}{bg:b8}(F:gB P w K I base iN k f fd ["script"] (bQ K I bg))
  (h:∀ns:List Int,ns.length<=63->∃aJ,(bg [.lst (ns.map D.int)]).run []=.ok (.v (.aB true)) aJ) :
  gB P w K I base iN k f fd ["script"] (fun ar H Q _=>∃(a:Addr)(ns:List Int),ar=[.ref a]/\dD K H a (ns.map V.int)/\ns.length<=63/\TabsOk H/\∀aa,Q (.aB true) aa):=by
 refine F.imp fun ar H Q E ⟨a,ns,e,lT,aR,cJ,q⟩=>?_
 subst e;obtain⟨aJ,h'⟩:=h ns aR;refine⟨fun _=>.free,[.lst (ns.map D.int)],_,aJ,⟨fun a ax=>absurd rfl ax,cJ⟩,⟨_,_,rfl,⟨a,_,rfl,lT,EY ns⟩,rfl⟩,h',fun aD v aa _ _ _ bD _=>?_⟩;cases(show v=.aB true from bD);exact q aa
omit [ak.a7]in
theorem dg{K:a4}{h:Heap}{I:br}{x:Str}{st:Stmt}{f:Addr}{ps:List Str}{hO an:Option Addr}{c6:Array (Option Value)}{iI d5 mE pm cd c3:Value}(X:K.In h)(G:h.Ns air I)
  (a:W.nsIn K air x=some (some (.ref f))) (l:K.lookup f=some ⟨iI,hO,.func (akF x x (qk st) (kZ st) (b_ st) .none d5 mE pm an cd c3),c6⟩) (c:W.codeIn K cd x=true) (k:ald K (.ref f)=true)
  (U:∀(d5 doc pm:Value)(an:Option Addr)(bU c3:Value)(us:List Value),us.length=ps.length->bindArgs (akF x x (qk st) (kZ st) (b_ st) .none d5 doc pm an bU c3) ⟨us,[]⟩=pure (ps.zip us)):bB K I x st ps:=
 ⟨f,_,Js (st:=st) l c k,(Js (st:=st) l c k).binds U,W.mg_of X G a⟩
noncomputable abbrev F0(K:a4):gG:=fun ar H Q _=>∃(a:Addr)(ns:List Int),ar=[.ref a]/\dD K H a (ns.map V.int)/\ns.length<=63/\TabsOk H/\∀aa,Q (.aB true) aa
theorem all_mk{l:W.OpenLaw}{w:World}{K:a4}{I:br}{fN:Addr}{k:Nat}{st:Stmt}{bg:b8}(ya:I "law"=some (.ref fN))(Pc:bB K I "law" st ["script"])
  (U:∀(d5 doc pm:Value)(an:Option Addr)(bU c3 v:Value),bindArgs (akF "law" "law" (qk st) (kZ st) (b_ st) .none d5 doc pm an bU c3) ⟨[v],[]⟩=pure [(("script":Str),v)])
  (bG:∀ns:List Int,ns.length<=63->∃aJ,(bg [.lst (ns.map D.int)]).run []=.ok (.v (.aB true)) aJ)
  (ok:∀(base:Heap)(f:Addr)(fd:aiJ),nt K "law" "law" st f fd->gB l.prog w K I base iN k f fd ["script"] (bQ K I bg)) :
  ∃fd:aiJ,(∀(s:ag9)(v:Value),ak7 s fd ⟨[v],[]⟩ [("script",v)])/\∀base:Heap,K.In base->base.Ns air I->gB l.prog w K I base iN k fN fd ["script"] (F0 K):=by
 obtain⟨f,fd,F,b,m⟩:=Pc.ex;have e:ahy fN=ahy f:=ahx (ya.symm.trans m);cases e;refine⟨fd,fun s v=>?_,fun base _ _=>WL (ok base fN fd F) bG⟩;obtain⟨iI,hO,d5,doc,pm,an,bU,c3,kD,rfl,lk,dN⟩:=F.ex;exact .of_eq (U d5 doc pm an bU c3 v)
theorem walk{l:W.OpenLaw}{q:ahq}{k:Nat}{loose:List Str}{rJ:(Str->Option Value)->Heap->Prop}{oK:World->Heap->Prop}{d:DefRec}{K:Params->a4}(aR:l.most=some 63)(qz:d.params.defaults=[])(ay:eh k akv)(dn:∀P,¬a7.kI P)
  (C5:∀(w:World)(h:Heap),oK w h->(K w.params).In h)
  (F:∀(w:World)(I:br)(fN:Addr)(h:Heap),(K w.params).In h->h.Ns air I->I d.name=some (.ref fN)->
   ∃fd:aiJ,(∀(s:ag9)(u:Value),ak7 s fd ⟨[u],[]⟩ [("script",u)])/\∀base:Heap,(K w.params).In base->base.Ns air I->gB l.prog w (K w.params) I base iN k fN fd ["script"] (F0 (K w.params))) :
  W.WalkO q loose rJ oK l.row.toRowW d [] (fun f ar=>PySem.call f ar):=
 ak.ab8 (n:=63) (k:=k) (x:="script") (CX:=fun _=>iN) (sp:=fun w=>F0 (K w.params)) aR (by decide) qz ay C5 F (fun _ _ a ns ao _ lT=>⟨a,ns,rfl,lT,ao,fun P fP=>(dn P fP).elim,fun _=>rfl⟩) fun _ _ _ _ _ z=>z
noncomputable abbrev oy:Nat:=10715086071862673209484250490600018105614048117055336074437503883703510511249361224931983788156958581275946729175531468251871452856923140435984577574698574803934567774824230985421074605062371141877954182153046474983581941267398767559165543946077062914571196477686542167660429831652624386837205668069376
omit [ak.a7]in
theorem HS:oy=2 ^ 1000:=by decide +kernel
omit [ak.a7]in
theorem LH{i:Int}(h:i.natAbs<oy):aii i<=1000:=by
 unfold aii;split
 ·exact ahC _
 ·rename_i aX
  have:i.natAbs.log2<1000:=(Nat.log2_lt (by simpa using aX)).mpr (HS▸h);omega
def mn(i j:Int):Prop:=(-(2 ^ 64)<i/\i<2 ^ 64)\/(-(2 ^ 64)<j/\j<2 ^ 64)\/(i.natAbs<oy/\j.natAbs<oy)
omit [ak.a7]in
theorem mn.ok{i j:Int}(h:mn i j):IntMulOk i j:=by
 rcases h with h | h | h
 ·exact(show wq i j from .inl h).ok
 ·exact(show wq i j from .inr h).ok
 ·have aj:=LH h.1
  have h2:=LH h.2;have U:alI (aii i+aii j)=false:=by
   unfold alI;refine decide_eq_false ?_;have:(2000:Int)<=((bitsLine:Nat):Int):=by decide
   omega
  unfold IntMulOk;rw[U];simp
noncomputable instance (i j:Int):Decidable (mn i j):=by unfold mn;exact inferInstance
theorem Ma:dv X (aiw .Mult) (jW mn fun i j=>.int (i*j)):=s6 fun _ _ _ _ _ _ _ aA q=>PyProof.Rows.mul_int q aA.ok
noncomputable abbrev yU:=n_ mn (· * ·)
theorem GX{X:aS}:dB X.K X.I (jW mn fun i j=>.int (i*j)) yU:=rT fun _ _ h=>h
def jz(_ j:Int):Prop:=0<j/\j.natAbs<oy
noncomputable instance (i j:Int):Decidable (jz i j):=by unfold jz;exact inferInstance
theorem i2:dv X (aiw .FloorDiv) (jW jz fun i j=>.int (i / j)):=s6 fun i j _ _ _ _ _ aA q=>by
 have aj:(0:Int)<j:=aA.1;have h2:j.natAbs<oy:=aA.2;refine PyProof.Rows.floordiv_int (by omega) (by rw[akP i (by omega)];exact q) (.inl (PyProof.noPylong_of_log2 ?_));have:j.natAbs.log2<1000:=(Nat.log2_lt (by omega)).mpr (HS▸h2);omega
noncomputable abbrev gs:=n_ jz (· / ·)
theorem iS{X:aS}:dB X.K X.I (jW jz fun i j=>.int (i / j)) gs:=rT fun _ _ h=>h
noncomputable def oBits:R->M R
 |.v (.int i)=>pure (.v (.int (aii i:Nat)))|_=>bad
section
variable{X:aS}{a:Expr}{cO:bj}{apos cu:Pos}
theorem Rb(ax:cg X a cO)(hK:aiq a "bit_length" X.env (eval a X.env)=eval a X.env:=by rfl)(hL:(apos.endLine==cu.line)=true:=by rfl):cg X (.Call (.Attribute a "bit_length" apos) [] [] cu) (cy oBits cO):=
 et (Mn PySem.F.plainAttrs_int PySem.F.slot_int_bit_length PySem.F.type_int_bit_length XB ax hK hL) fun az H Q ⟨O,σ,S,r,aJ,st,h,q⟩=>by
  obtain⟨x,a6,aj,h⟩:=M.inv h;unfold oBits at h;split at h
  ·rename_i i
   cases h;refine⟨O,σ,S,_,_,st,aj,fun aY fy H1 g1 a3 a0 a8=>?_⟩;cases(show fy=.int i from a0);exact⟨rfl,i,rfl,rfl,q aY _ H1 g1 a3 rfl trivial⟩
  ·cases h
end
structure GD(I:br):Prop where
 len:I "len"=none
 range:I "range"=none
 isinstance:I "isinstance"=none
 max:I "max"=none
 min:I "min"=none
 any:I "any"=none
 all:I "all"=none
 DH:I "int"=none
 H7:I "bool"=none
 agG:I "list"=none
 tuple':I "tuple"=none
 tp:I "str"=none
 abs:I "abs"=none
 sorted:I "sorted"=none
 sum:I "sum"=none
 zip:I "zip"=none
 enumerate:I "enumerate"=none
 reversed:I "reversed"=none
 agU:I "set"=none
omit [ak.a7]in
theorem H8:ahK "abs"=some (.builtin "abs"):=by decide +kernel
end aN
namespace aN
open PySem PySem.Spec ak
@[simp] theorem adW{α β:Type}(f:α->M β):(bad >>= f)=bad:=rfl
@[simp] theorem aec{p:Prop}[Decidable p]:eS p=if p then pure ()else bad:=rfl
@[simp] theorem I6:ag i σ=match σ[i]? with
 |some (.val d)=>pure (.v d)|some (.b5 _ xs)=>pure (.ej xs)|some (.cp xs)=>pure (.cp xs)|some (.gj aK)=>pure (.eY aK)|some (.i8 aK)=>pure (.eY aK)|_=>bad:=rfl
@[simp] theorem S7:ai d σ=pure (.v d):=rfl
@[simp] theorem S6:au f a b σ=(do let x <-a σ;let y <-b σ;f x y):=rfl
@[simp] theorem adE:cy f a σ=(do let x <-a σ;f x):=rfl
@[simp] theorem af5:R.lB (.v (.aB b))=pure b:=rfl
@[simp] theorem S8:bb m σ=(do let x <-m σ;x.lB):=rfl
@[simp] theorem adG:d1 f g a b c σ=(do
 let x <-a σ
 let y <-b σ
 let z <-f x y
 let t <-z.lB
 if t=true then do
  let w <-c σ
  g y w
 else pure (.v (.aB false))):=rfl
@[simp] theorem adM:kV a b σ=(do
 let x <-a σ
 let t <-x.lB
 if t=true then b σ else pure (.v (.aB false))):=rfl
@[simp] theorem afx:t9 a b σ=(do
 let x <-a σ
 let t <-x.lB
 if t=true then pure (.v (.aB true))else b σ):=rfl
@[simp] theorem aft:rY a σ=(do
 let x <-a σ
 let t <-x.lB
 pure (.v (.aB (!t)))):=rfl
@[simp] theorem adN:i7 a b σ=(do
 let t <-a σ
 if t=true then b σ else pure false):=rfl
@[simp] theorem afy:fh a b σ=(do
 let t <-a σ
 if t=true then pure true else b σ):=rfl
@[simp] theorem afu:d9 a σ=(do
 let t <-a σ
 pure (!t)):=rfl
@[simp] theorem aeI:qe t a b σ=(do
 let t <-t σ
 if t=true then a σ else b σ):=rfl
@[simp] theorem adJ{g:Int->Int->Int}{i j:Int}:q2 g (.v (.int i)) (.v (.int j))=pure (.v (.int (g i j))):=rfl
@[simp] theorem adI{C:Int->Int->Prop}[∀i j,Decidable (C i j)]{g:Int->Int->Int}{i j:Int}:n_ C g (.v (.int i)) (.v (.int j))=if C i j then pure (.v (.int (g i j)))else bad:=rfl
@[simp] theorem adH{g:Int->Int->Bool}{i j:Int}:qZ g (.v (.int i)) (.v (.int j))=pure (.v (.aB (g i j))):=rfl
@[simp] theorem afm{i:Int}:i1 (.v (.int i))=pure (.v (.int (-i))):=rfl
@[simp] theorem adX{i:Int}:oBits (.v (.int i))=pure (.v (.int (aii i:Nat))):=rfl
@[simp] theorem afo:aG σ=pure []:=rfl
@[simp] theorem aef:ah m ms σ=(do
 let x <-m σ
 let xs <-ms σ
 pure (x::xs)):=rfl
@[simp] theorem aeo:R.dat (.v d)=pure d:=rfl
@[simp] theorem ael:R.dat (.fr xs)=pure (.lst xs):=rfl
@[simp] theorem aen:lR []=pure []:=rfl
@[simp] theorem aem:lR (r::rs)=(do
  let d <-r.dat
  let ds <-lR rs
  pure (d::ds)):=rfl
@[simp] theorem af7:eF ms σ=(do
 let rs <-ms σ
 let ds <-lR rs
 eS (ds.length<=1000)
 pure (.v (.tup ds))):=rfl
@[simp] theorem afi:dM ms σ=(do
 let rs <-ms σ
 let ds <-lR rs
 eS (ds.length<=1000)
 pure (.fr ds)):=rfl
@[simp] theorem adY:cb f ms σ=(do
 let rs <-ms σ
 f rs):=rfl
@[simp] theorem afg:R.gb (.v (.lst xs))=some xs:=rfl
@[simp] theorem afe:R.gb (.fr xs)=some xs:=rfl
@[simp] theorem afh:R.gb (.cp xs)=some xs:=rfl
@[simp] theorem aff:R.gb (.ej xs)=some xs:=rfl
@[simp] theorem afL:R.seq (.v (.lst xs))=some xs:=rfl
@[simp] theorem afK:R.seq (.v (.tup xs))=some xs:=rfl
@[simp] theorem afI:R.seq (.fr xs)=some xs:=rfl
@[simp] theorem afM:R.seq (.cp xs)=some xs:=rfl
@[simp] theorem afJ:R.seq (.ej xs)=some xs:=rfl
@[simp] theorem afC:R.own (.v (.lst xs))=some xs:=rfl
@[simp] theorem afA:R.own (.fr xs)=some xs:=rfl
@[simp] theorem afB:R.own (.ej xs)=some xs:=rfl
@[simp] theorem adS:R.arg (.v d)=d:=rfl
@[simp] theorem adQ:R.arg (.fr xs)=.lst xs:=rfl
@[simp] theorem adT:R.arg (.cp xs)=.lst xs:=rfl
@[simp] theorem adR:R.arg (.ej xs)=.lst xs:=rfl
@[simp] theorem afc{x:R}:d3 [x]=match x.seq with
  |some xs=>pure (.v (.int (xs.length:Nat)))|none=>bad:=rfl
@[simp] theorem ae8:R.kind (.v .ba)=some "NoneType":=rfl
@[simp] theorem ae1:R.kind (.v (.aB b))=some "bool":=rfl
@[simp] theorem ae5{i:Int}:R.kind (.v (.int i))=some "int":=rfl
@[simp] theorem ae9:R.kind (.v (.str x))=some "str":=rfl
@[simp] theorem afa:R.kind (.v (.tup xs))=some "tuple":=rfl
@[simp] theorem ae6:R.kind (.v (.lst xs))=some "list":=rfl
@[simp] theorem ae4:R.kind (.fr xs)=some "list":=rfl
@[simp] theorem afb:R.kind (.cp xs)=some "list":=rfl
@[simp] theorem ae7:R.kind (.ej xs)=some "list":=rfl
@[simp] theorem aeM{x:R}:gk [x,.v (.ty n)]=match x.kind with
  |some t=>if n∈["int","bool","tuple","list","str"]then pure (.v (.aB (u2 t n)))else bad|none=>bad:=rfl
@[simp] theorem aeN:u2 t n=(t==n||(t == "bool"&&n == "int")):=rfl
@[simp] theorem adF{g:Int->Int->Int}{i j:Int}:xW g [.v (.int i),.v (.int j)]=pure (.v (.int (g i j))):=rfl
@[simp] theorem adK{i:Int}:qq [.v (.int i)]=pure (.v (.int (if i<0 then -i else i))):=rfl
@[simp] theorem adO{x:R}:xX [x]=match x.gb.bind kf with
  |some bs=>pure (.v (.aB (bs.any id)))|none=>bad:=rfl
@[simp] theorem adL{x:R}:nO [x]=match x.gb.bind kf with
  |some bs=>pure (.v (.aB (bs.all id)))|none=>bad:=rfl
theorem xe{α:Type}(p:α->Bool):∀xs:List α,kf (xs.map fun x=>D.aB (p x))=some (xs.map p)
 |[]=>rfl| x::xs=>by rw[ahi,ahi,kf,xe p xs];rfl
@[simp] theorem af8{x:R}:nP [x]=match x.seq with
  |some xs=>pure (.v (.tup xs))|none=>bad:=rfl
@[simp] theorem aeZ{i:Int}:bJ (.v (.tup xs)) (.v (.int i))=match d7 xs i with
   |some d=>pure (.v d)|none=>bad:=rfl
@[simp] theorem aeX{i:Int}:bJ (.v (.lst xs)) (.v (.int i))=match d7 xs i with
   |some d=>pure (.v d)|none=>bad:=rfl
@[simp] theorem aeW{i:Int}:bJ (.fr xs) (.v (.int i))=match d7 xs i with
   |some d=>pure (.v d)|none=>bad:=rfl
@[simp] theorem ae0{i:Int}:bJ (.cp xs) (.v (.int i))=match d7 xs i with
   |some d=>pure (.v d)|none=>bad:=rfl
@[simp] theorem aeY{i:Int}:bJ (.ej xs) (.v (.int i))=match d7 xs i with
   |some d=>pure (.v d)|none=>bad:=rfl
theorem tX{α:Type}{xs:List α}(k:Nat){v:α}(h:xs[k]? = some v):d7 xs (k:Int)=some v:=PM h
@[simp] theorem adU{α:Type}{x:α}{xs:List α}:d7 (x::xs) 0=some x:=tX 0 rfl
@[simp] theorem adV{α:Type}{x y:α}{xs:List α}:d7 (x::y::xs) 1=some y:=tX 1 rfl
@[simp] theorem ad6:b4 bg ms σ=(do
 let rs <-ms σ
 bg (rs.map R.arg)):=rfl
@[simp] theorem afE:dI σ=pure (.a8 σ):=rfl
@[simp] theorem I5:bL a b σ=(do
 let bO <-a σ
 match bO with
 |.a8 σ'=>b σ'| bO=>pure bO):=rfl
@[simp] theorem afG:b6 m σ=(do
 let r <-m σ
 match r with
 |.v d=>pure (.cA (.v d))|.fr xs=>pure (.cA (.fr xs))| _=>bad):=rfl
@[simp] theorem afH:t_ i σ=match σ[i]? with
 |some (.b5 false xs)=>pure (.cA (.fr xs))|_=>bad:=rfl
@[simp] theorem Cn:dr t a b σ=(do
 let t <-t σ
 if t=true then a σ else b σ):=rfl
@[simp] theorem afN:cT i m σ=(do
 let r <-m σ
 let d <-r.dat
 pure (.a8 (σ.set i (.val d)))):=rfl
@[simp] theorem afz:mC i m σ=(do
 let r <-m σ
 match r with
 |.fr xs=>pure (.a8 (σ.set i (.b5 false xs)))| _=>bad):=rfl
@[simp] theorem afj:rX i f ms σ=(do
 let rs <-ms σ
 match σ[i]? with
 |some (.b5 p xs)=>do
  let(r,ys) <-f xs rs
  pure (r,σ.set i (.b5 p ys))
 | _=>bad):=rfl
@[simp] theorem afk:kh i f ms σ=(do
 let(_,σ') <-rX i f ms σ
 pure (.a8 σ')):=rfl
@[simp] theorem afl:t8 j i f ms σ=(do
 let(r,σ') <-rX i f ms σ
 let d <-r.dat
 pure (.a8 (σ'.set j (.val d)))):=rfl
@[simp] theorem adP:mf xs [r]=(do
  let d <-r.dat
  eS (xs.length<ag5)
  pure (.v .ba,xs++[d])):=rfl
@[simp] theorem aeu{r:R}:vZ xs [r]=match r.own with
  |some ys=>do
   eS (xs.length+ys.length<=ag5)
   pure (.v .ba,xs++ys)
  |none=>bad:=rfl
@[simp] theorem aeC:iT i it b σ=(do
 let ds <-it σ
 iW (fun d σ=>b (σ.set i (.val d))) ds σ):=rfl
@[simp] theorem aeH:jP m σ=(do
 let r <-m σ
 match r with
 |.v (.tup xs)=>pure xs| _=>bad):=rfl
@[simp] theorem aeD:pb m σ=(do
 let r <-m σ
 match r with
 |.v (.lst xs)=>pure xs|.fr xs=>pure xs|.cp xs=>pure xs| _=>bad):=rfl
@[simp] theorem aeE:qK m σ=(do
 let r <-m σ
 match r.gb with
 |some xs=>pure xs| none=>bad):=rfl
@[simp] theorem aeF:lh m σ=(do
 let rs <-m σ
 match rs with
 |[.v (.int j)]=>if -(2 ^ 62)<=j/\j<2 ^ 62 then pure (l9 0 j.toNat)else bad| _=>bad):=rfl
@[simp] theorem afO:oP a lo aC σ=(do
 let x <-a σ
 let l <-lo σ
 let h <-aC σ
 pI x l h):=rfl
@[simp] theorem afs:gI σ=pure none:=rfl
@[simp] theorem afD:eX m σ=(do
 let r <-m σ
 match r with
 |.v (.int i)=>pure (some i)| _=>bad):=rfl
@[simp] theorem afS{l h:Option Int}:pI (.fr xs) l h=pure (.fr (cutD xs l h)):=rfl
@[simp] theorem af4{l h:Option Int}:pI (.cp xs) l h=pure (.fr (cutD xs l h)):=rfl
@[simp] theorem afU{l h:Option Int}:pI (.ej xs) l h=pure (.fr (cutD xs l h)):=rfl
@[simp] theorem afT{l h:Option Int}:pI (.v (.lst xs)) l h=pure (.fr (cutD xs l h)):=rfl
@[simp] theorem af3{xs:List D}{l h:Option Int}:pI (.v (.tup xs)) l h=if cS.ct xs.length 0 l=0/\cS.ct xs.length xs.length h=xs.length then bad else pure (.v (.tup (cutD xs l h))):=rfl
@[simp] theorem aed:hF n cap it t el σ=(do
 let ds <-it σ
 eS (ds.length<ag5)
 let xs <-fR t el (f9 n cap σ) ds
 pure (.fr xs)):=rfl
@[simp] theorem aeg{cap:List Nat}:f9 n cap σ=ahu n .emp++cap.map fun k=>qh σ[k]?:=rfl
@[simp] theorem aej:qh (some (.val d))=.val d:=rfl
@[simp] theorem aeh:qh (some (.b5 p xs))=.cp xs:=rfl
@[simp] theorem aek:qh (some (.cp xs))=.cp xs:=rfl
@[simp] theorem agq:fF σ=pure true:=rfl
@[simp] theorem aeL{x:R}:n' x (.v .ba)=pure (.v (.aB x.kx)):=rfl
@[simp] theorem afv{x:R}:vl x (.v .ba)=pure (.v (.aB (!x.kx))):=rfl
@[simp] theorem aeO:R.kx (.v .ba)=true:=rfl
@[simp] theorem aeR{i:Int}:R.kx (.v (.int i))=false:=rfl
@[simp] theorem aeU:R.kx (.v (.tup xs))=false:=rfl
@[simp] theorem aeQ:R.kx (.fr xs)=false:=rfl
@[simp] theorem aeT:R.kx (.v (.str x))=false:=rfl
@[simp] theorem aet{i j:Int}:oEq (.v (.int i)) (.v (.int j))=pure (.v (.aB (i==j))):=rfl
@[simp] theorem afn{i j:Int}:eT (.v (.int i)) (.v (.int j))=pure (.v (.aB (!(i==j)))):=rfl
theorem xS{x y:R}(av:x.arg.cI 64=true)(bo:y.arg.cI 64=true):oEq x y=pure (.v (.aB (hS x.arg y.arg))):=if_pos ⟨av,bo⟩
theorem ql{x y:R}(av:x.arg.cI 64=true)(bo:y.arg.cI 64=true):eT x y=pure (.v (.aB (!hS x.arg y.arg))):=if_pos ⟨av,bo⟩
@[simp] theorem afY:e9 (.lst xs)=.cp xs:=rfl
@[simp] theorem afX{i:Int}:e9 (.int i)=.val (.int i):=rfl
@[simp] theorem af1:e9 (.tup xs)=.val (.tup xs):=rfl
@[simp] theorem af0:e9 (.str x)=.val (.str x):=rfl
@[simp] theorem afZ:e9 .ba=.val .ba:=rfl
@[simp] theorem afV:e9 (.aB b)=.val (.aB b):=rfl
@[simp] theorem I4{n N:Nat}{ds:List D}:fnOf n N b ds=if ds.length=n then(do
  let bO <-b (ds.map e9++ahu (N-n) .emp)
  match bO with
  |.cA (.v d)=>pure (.v d)|.cA (.fr xs)=>pure (.fr xs)|.a8 _=>pure (.v .ba)| _=>bad)else bad:=rfl
theorem Ja{b:D->aV}(J:Nat->a9->Prop):∀(ds:List D)(k:Nat)(σ:a9),J k σ->(∀i d σ,ds[i]? = some d->J (k+i) σ->∃σ',(b d σ=pure (.a8 σ')\/b d σ=pure (.c3 σ'))/\J (k+i+1) σ')->
  ∃σ',iW b ds σ=pure (.a8 σ')/\J (k+ds.length) σ'
 |[],k,σ,h0,_=>⟨σ,rfl,h0⟩
 |d::ds,k,σ,h0,step=>by
  obtain⟨fl,e,aj⟩:=step 0 d σ rfl h0;obtain⟨dA,aT,h2⟩:=Ja J ds (k+1) fl aj fun i d' σ' hd mQ=>by
   have:=step (i+1) d' σ' (by simpa using hd) (by rw[show k+(i+1)=k+1+i by omega];exact mQ);rw[show k+(i+1)+1=k+1+i+1 by omega]at this;exact this
  refine⟨dA,?_,by rw[ahj,show k+(ds.length+1)=k+1+ds.length by omega];exact h2⟩;show(b d σ >>= _)=_;rcases e with e | e<;>rw[e]<;>exact aT
theorem o1{b:D->aV}{ds:List D}(J:Nat->a9->Prop)(h0:J 0 σ)(step:∀i d σ,ds[i]? = some d->J i σ->∃σ',(b d σ=pure (.a8 σ')\/b d σ=pure (.c3 σ'))/\J (i+1) σ') :
  ∃σ',iW b ds σ=pure (.a8 σ')/\J ds.length σ':=by
 obtain⟨σ',e,h⟩:=Ja J ds 0 σ h0 fun i d σ hd mQ=>by
  rw[akm]at mQ ⊢;exact step i d σ hd mQ
 exact⟨σ',e,by rw[akm]at h;exact h⟩
theorem Iw{t:a9->M Bool}{el:bj}{σ:a9}(p:D->Bool)(g:D->D):∀ds:List D,(∀d∈ds,t (σ.set 0 (.val d))=pure (p d))->(∀d∈ds,p d=true->(el (σ.set 0 (.val d)) >>= R.dat)=pure (g d))->
  fR t el σ ds=pure ((ds.filter p).map g)
 |[],_,_=>rfl|d::ds,aj,h2=>by
  have bk:=Iw p g ds (fun x av=>aj x (ahc _ av)) fun x av=>h2 x (ahc _ av)
  unfold fR;rw[aj d ahb,pure_bind]
  cases e:p d with
  | false=>rw[if_neg ahd,bk,als (by rw[e];exact ahd)]|true=>
   have h:=h2 d ahb e;rw[if_pos rfl,<-bind_assoc,h,pure_bind,bk,pure_bind,alu e];rfl
theorem PN{ns:List Int}{k:Nat}(h:k<ns.length):d7 (ns.map D.int) (k:Int)=some (.int (ns.getD k 0)):=by
 refine tX k ?_;rw[ahA,aim h];simp[aic,h]
theorem mod_lt{a b:Int}(h:0<b):0<=a % b/\a % b<b:=⟨Int.emod_nonneg _ (by omega),Int.emod_lt_of_pos _ h⟩
theorem Xe{i:Int}(aj:-(10 ^ 200)<i)(h2:i<10 ^ 200):i.natAbs<oy:=by
 unfold oy;omega
theorem k4{i j:Int}(aj:0<j)(h2:j<10 ^ 200):jz i j:=⟨aj,Xe (by omega) h2⟩
end aN
namespace aN
open PySem PySem.Spec ak
variable[ak.a7]
structure tI(a:Addr)(O aD:b9)(H aa:aI):Prop where
 cells:∀b o,b≠a->H b=some o->(h:h_ o:=by exact trivial)->aa b=some o
 cJ:∀b ps,H b=some (.ho ps)->∃de,aa b=some (.ho de)
 cI:TabsOk H->TabsOk aa
 own:∀b,b≠a->H b≠none->aD b=O b
 YJ:aD a=O a
section
variable{K:a4}{I:br}{O aD:b9}{H aa:aI}{a:Addr}{zs:List V}
mutual
theorem Rep.iB(g:tI a O aD H aa)(aM:O a≠.free)(ao:H a=some (.lst zs)):∀{d:D}{v:V},Rep K I O H d v->Rep K I aD aa d v
 |.ba,_,h=>h|.aB _,_,h=>h|.int _,_,h=>h|.str _,_,h=>h|.tup _,_,h=>by
  obtain⟨b,ys,q,t,r⟩:=h;refine⟨b,ys,q,?_,bu.iB g aM ao r⟩;rcases t with(t | ⟨o,t⟩) | t
  ·exact .inl (.inl (g.cells _ _ (m6 t ao (by intro z;cases z)) t))
  ·exact .inl (.inr ⟨o,g.cells _ _ (m6 t ao (by intro z;cases z)) t⟩)
  ·exact .inr t
 |.lst _,_,h=>by
  obtain⟨b,ys,q,t,r⟩:=h;have nb:b≠a:=by rintro rfl;exact aM t.2
  exact⟨b,ys,q,⟨g.cells _ _ nb t.1,(g.own b nb (by rw[t.1];intro z;cases z)).trans t.2⟩,bu.iB g aM ao r⟩
 |.dX _ _,_,h=>h|.fn _,_,h=>h|.ty _,_,h=>h
theorem bu.iB(g:tI a O aD H aa)(aM:O a≠.free)(ao:H a=some (.lst zs)):∀{ds:List D}{ys:List V},bu K I O H ds ys->bu K I aD aa ds ys
 |[],_,h=>h| _::_,_,h=>by obtain⟨x,r,q,a,b⟩:=h;exact⟨x,r,q,Rep.iB g aM ao a,bu.iB g aM ao b⟩
end
theorem gF.iB{w:Own}(g:tI a O aD H aa)(aM:O a≠.free)(ef:O a≠.out)(hw:O a≠w)(bG:∀p,O a≠w.at p)(ao:H a=some (.lst zs)):∀{s:Slot}{u:Option V},gF K I O H w s u->gF K I aD aa w s u
 |.emp,_,_=>trivial| .val _,_,h=>by obtain⟨v,q,r⟩:=h;exact⟨v,q,r.iB g aM ao⟩
 |.b5 _ _,_,h=>by
  obtain⟨b,ys,q,o,t,r⟩:=h;have nb:b≠a:=by rintro rfl;exact hw o
  exact⟨b,ys,q,(g.own b nb (by rw[t];intro z;cases z)).trans o,g.cells _ _ nb t,r.iB g aM ao⟩
 |.cp _,_,h=>by
  obtain⟨b,ys,q,t,r⟩:=h;refine⟨b,ys,q,?_,r.iB g aM ao⟩;rcases t with⟨t,f⟩ | t
  ·have nb:b≠a:=by rintro rfl;exact f.elim aM ef
   refine .inl ⟨?_,by rw[g.own b nb (ed.some t)];exact f⟩;rcases t with t | ⟨o,t⟩
   ·exact .inl (g.cells _ _ nb t)
   ·exact .inr ⟨o,g.cells _ _ nb t⟩
  ·exact .inr t
 |.gj _,_,h=>by
  obtain⟨b,ys,q,o,t,r⟩:=h;have nb:b≠a:=by rintro rfl;exact hw o
  exact⟨b,ys,q,(g.own b nb (by rw[t];intro z;cases z)).trans o,g.cells _ _ nb t,r.1,r.2.iB g aM ao⟩
 |.i8 _,_,h=>by
  obtain⟨b,ys,q,⟨t,f⟩,r⟩:=h;have nb:b≠a:=by rintro rfl;exact f.elim aM ef
  refine⟨b,ys,q,⟨?_,by rw[g.own b nb (ed.some t)];exact f⟩,r.1,r.2.iB g aM ao⟩;rcases t with t | ⟨o,t⟩
  ·exact .inl (g.cells _ _ nb t)
  ·exact .inr ⟨o,g.cells _ _ nb t⟩
 |.kE _,_,h=>by
  obtain⟨b,ys,q,o,t,r⟩:=h;have nb:b≠a:=by rintro rfl;exact hw o
  exact⟨b,ys,q,(g.own b nb (by rw[t];intro z;cases z)).trans o,g.cells _ _ nb t,r.1,r.2.all fun _ _ z=>Rep.iB g aM ao z⟩
 |.j4 _,_,h=>by
  obtain⟨b,ys,q,⟨t,f⟩,r⟩:=h;have nb:b≠a:=by rintro rfl;exact f.elim aM ef
  refine⟨b,ys,q,⟨?_,by rw[g.own b nb (ed.some t)];exact f⟩,r.1,r.2.all fun _ _ z=>Rep.iB g aM ao z⟩;rcases t with t | ⟨o,t⟩
  ·exact .inl (g.cells _ _ nb t)
  ·exact .inr ⟨o,g.cells _ _ nb t⟩
 |.fi _ _,_,h=>by
  obtain⟨v,q,r⟩:=h;refine⟨v,q,r.all (fun _ _ z=>Rep.iB g aM ao z) fun b _ p o t n=>?_⟩;have nb:b≠a:=by rintro rfl;exact nE.ne ef bG p o
  exact⟨(g.own b nb (by rw[t];intro z;cases z)).trans o,g.cells _ _ nb t n⟩
end
noncomputable abbrev p6:=List D->M (List D)
noncomputable def u0(σ':a9):M (List D):=match(σ'[(0:Nat)]? : Option Slot)with
 |some (.b5 true ys)=>pure ys|_=>bad
noncomputable def nR(n N:Nat)(b:aV):p6:=fun ds=>match ds with
 |.lst xs::mG=>if mG.length+1=n then do
   let bO <-b (.b5 true xs::mG.map e9++ahu (N-n) .emp)
   match bO with
   |.a8 σ'=>u0 σ'|_=>bad
  else bad
 |_=>bad
noncomputable def vL(K:a4)(I:br)(bg:p6):gG:=fun ar H Q _=>∃O xs ds ys aJ a zs us,ar=.ref a::us/\dP O H/\H a=some (.lst zs)/\(∃i,O a=.loc i)/\bu K I O H xs zs/\lG K I O H ds us/\
 (∀(k:Nat) ws,ds[k]? = some (.lst ws)->∃b mj,us[k]? = some (.ref b)/\bu K I O H ws mj/\((ed H b (.lst mj)/\b≠a)\/Ai K b mj))/\(bg (.lst xs::ds)).run []=.ok ys aJ/\
 ∀aD aa ws,tI a O aD H aa->dP aD aa->aJ=[]->aa a=some (.lst ws)->bu K I aD aa ys ws->Q .ba aa
theorem VP{P:ahq}{w:World}{K:a4}{I:br}{base:Heap}{x:Str}{st:Stmt}{ps N:List Str}{k:Nat}{cw:aV}{n nl:Nat}(bB:bB K I x st ps)(Sc:c5 N ps (b_ st))(aR:ps.length=n)(ao:N.length=nl)
  (U:∀(f:Addr)(bU:Value)(A:ahX)(outer:List Env)(s:ag9)(H:aI)(E:dH),eh k (A.deeper (ajK x (b_ st) s.heap.objs.size f bU))->
   kM (gJ iN P w K I base N x (b_ st) f bU A outer s H E).qX (kZ st) cw):bM P w K I base x ps (k+1) (vL K I (nR n nl cw)):=by
 subst aR ao;obtain⟨f,fd,F,bd,m⟩:=bB.ex;have Jh:∀{xs:List D}{ds:List D}{ys:List D}{S aJ:e7},(nR ps.length N.length cw (.lst xs::ds)).run S=.ok ys aJ->ds.length+1=ps.length:=fun{xs ds ys S aJ} h=>by
  unfold nR at h;dsimp only at h
  by_cases c:ds.length+1=ps.length
  ·exact c
  ·rw[if_neg c]at h;cases h
 refine⟨f,fd,F.ok Sc ?_ ?_,bd,F.cv,m⟩
 ·rintro ar H Q E ⟨O,xs,ds,ys,aJ,a,zs,us,rfl,gW,ao,aM,a0,jD,na,h,q⟩
  rw[ahj,jD.len];exact Jh h
 rintro bU A outer s H ar Q E ay ⟨O,xs,ds,ys,aJ,a,zs,us,rfl,gW,ao,⟨agF,aM⟩,a0,jD,na,h,q⟩;refine⟨_,U f bU A outer s H E ay,?_⟩;have hlen:=Jh h;have o8:=jD.len;unfold nR at h;dsimp only at h;rw[if_pos hlen]at h;obtain⟨bO,a6,aj,h⟩:=M.inv h
 let nB:b9:=fun b=>if b=a then .loc 0 else dK O b
 have Yh:nB a=.loc 0:=if_pos rfl;have qY:∀{b:Addr},b≠a->nB b=dK O b:=fun U=>if_neg U
 have Va:H a≠none:=by rw[ao];intro z;cases z
 have cK:iO O nB:=⟨fun b U=>by
  rw[qY (by rintro rfl;rw[aM]at U;cases U)];exact jj.mpr U⟩
 have rg:cj K I nB (.b5 true xs::ds.map e9++ahu (N.length-ps.length) .emp) [] (ak.start N (.ref a::us)) H:=by
  refine⟨⟨fun b U=>?_,gW.tabs⟩,?_,fun j s e=>?_,rfl⟩
  ·by_cases e:b=a
   ·rw[e];exact Va
   ·rw[qY e]at U;exact gW.has b fun z=>U (jj.mpr z)
  ·unfold ak.start
   simp only[ag3,ahj,ag4,ahR,o8];omega
  ·unfold ak.start
   cases j with
   |zero=>
    cases e;exact⟨a,zs,rfl,Yh,ao,a0.cK cK⟩
   |succ j=>
    have e:(ds.map e9++ahu (N.length-ps.length) Slot.emp)[j]? = some s:=e;show gF K I nB H _ s ((us.map some++ahu (N.length-(V.ref a::us).length) none)[j]?.join)
    by_cases bV:j<ds.length
    ·rw[ahF (by rw[ag4];exact bV),ahA]at e
     cases eZ:ds[j]? with
     |none=>rw[eZ]at e;cases e
     |some d=>
      rw[eZ]at e;cases e;obtain⟨v,ev,bZ⟩:=jD.get eZ;rw[ahF (by rw[ag4,o8];exact bV),ahA,ev];have val:Rep K I O H d v->gF K I nB H (.loc (j+1)) (.val d) (some v):=fun h=>⟨v,rfl,h.cK cK⟩
      cases d with
      |lst ws=>
       obtain⟨b,mj,dS,r,l⟩:=na j ws eZ;rw[ev]at dS;cases dS;exact⟨b,mj,rfl,l.imp (fun z=>⟨z.1,by rw[qY z.2];exact jE O b⟩) id,r.cK cK⟩
      |ba=>exact val bZ|aB _=>exact val bZ|int _=>exact val bZ|str _=>exact val bZ|tup _=>exact val bZ|dX bw ar=>
       obtain⟨b,c9,rfl,l,r⟩:=bZ;exact⟨b,c9,rfl,⟨l,by rw[qY (by rintro rfl;rcases l with l | ⟨o,l⟩<;>rw[ao]at l<;>cases l)];exact jE O b⟩,r.cK cK⟩
      |fn _=>exact val bZ|ty _=>exact val bZ
    ·rw[ah4 (by rw[ag4];omega),aiG]at e
     split at e
     ·cases e;exact trivial
     ·cases e
 refine⟨nB,_,[],bO,a6,rg,aj,?_⟩
 cases bO with
 |fM σ'=>cases h
 |c3 σ'=>cases h
 |cA bq=>cases h
 |a8 σ'=>
  dsimp only at h;intro aD fz aa g b2 cv;unfold u0 at h;split at h
  ·rename_i mj ep
   cases h;obtain⟨_,ev⟩:=cv.2.1 0 ys ep;obtain⟨adz,ws,aH,aT,dt,gY⟩:=b2.loc 0 _ ep;rw[ev]at aH;cases aH;have old:∀b,b≠a->H b≠none->aD b=dK O b:=fun b nb U=>by
    have:=g.own b U (by rw[qY nb];exact jE O b);rw[this,qY nb]
   let bt:b9:=fun b=>if b=a then O a else match H b with | some _=>O b | none=>(match aD b with | .loc _=>.eK | o=>o)
   have Yi:bt a=O a:=if_pos rfl;have L0:∀{b:Addr},b≠a->H b≠none->bt b=O b:=fun{b} nb U=>by
    show(if b=a then O a else _)=O b;rw[if_neg nb]
    cases e:H b with
    |none=>exact absurd e U|some o=>rfl
   have LZ:∀{b:Addr},b≠a->H b=none->bt b=(match aD b with | .loc _=>.eK | o=>o):=fun{b} nb U=>by
    show(if b=a then O a else _)=_;rw[if_neg nb,U]
   have TL:iO aD bt:=⟨fun b U=>by
    have nb:b≠a:=by rintro rfl;rw[aT]at U;cases U
    by_cases aR:H b=none
    ·rw[LZ nb aR,U]
    ·rw[L0 nb aR];exact jj.mp ((old b nb aR).symm.trans U)⟩
   refine q bt aa ws ⟨fun b o nb e n=>g.cells b o e (by rw[qY nb];exact(jE O b).elim .inl fun z=>.inr (.inl z)) n,g.cJ,g.cI,fun b nb U=>L0 nb U,Yi⟩ ⟨fun b U=>?_,b2.dh.tabs⟩ b2.emp dt (gY.cK TL)
   by_cases nb:b=a
   ·rw[nb,dt];intro z;cases z
   ·by_cases aR:H b=none
    ·rw[LZ nb aR]at U
     exact b2.dh.has b fun z=>U (by rw[z])
    ·exact g.has b aR
  ·cases h
noncomputable def R.n6:R->Bool
 |.ej _=>false|_=>true
noncomputable def rW(i:Nat)(bg:p6)(ms:cQ):aV:=fun σ=>do
 let rs <-ms σ
 match σ[i]? with
 | some (.b5 p xs)=>(if rs.all R.n6=true then(do
   let ys <-bg (.lst xs::rs.map R.arg)
   pure (.a8 (σ.set i (.b5 p ys))))else bad)
 |_=>bad
theorem LO{O:b9}(aM:O a=.loc i):∀{rs:List R}{ar:List V},h1 K I O H rs ar->rs.all R.n6=true->∀(k:Nat) ws,(rs.map R.arg)[k]? = some (.lst ws)->
  ∃b mj,ar[k]? = some (.ref b)/\bu K I O H ws mj/\((ed H b (.lst mj)/\b≠a)\/Ai K b mj)
 | [],_,_,_,k,ws,e=>by simp at e|r::rs,ar,h,hm,k,ws,e=>by
  obtain⟨v,t,rfl,aj,h2⟩:=h;rw[ajh,ahn]at hm
  cases k with
  |succ k=>exact LO aM h2 hm.2 k ws e|zero=>
   have e:r.arg=.lst ws:=ahx e
   cases r with
   |v d=>
    cases(show d=.lst ws from e);obtain⟨b,ys,rfl,l,r⟩:=aj;exact⟨b,ys,rfl,r,.inl ⟨.inl l.1,by rintro rfl;rw[l.2]at aM;cases aM⟩⟩
   |fr xs=>
    cases e;obtain⟨b,ys,rfl,l,t,r⟩:=aj;exact⟨b,ys,rfl,r,.inl ⟨.inl l,by rintro rfl;rw[t]at aM;cases aM⟩⟩
   |ej xs=>exact absurd hm.1 ahd|eY _=>cases e
   |cp xs=>
    cases e;obtain⟨b,ys,rfl,l,r⟩:=aj;refine⟨b,ys,rfl,r,l.imp (fun z=>⟨z.1,?_⟩) id⟩;rintro rfl;rcases z.2 with f | f<;>rw[f]at aM<;>cases aM
theorem cj.iB{K:a4}{I:br}{O aD:b9}{H aa:aI}{a:Addr}{zs ws:List V}{σ:a9}{S:e7}{az:St}{i:Nat}{p:Bool}{xs ys:List D}(st:cj K I O σ S az H)(aC:σ[i]? = some (.b5 p xs))(bF:az[i]?.join=some (.ref a))(aM:O a=.loc i)(ao:H a=some (.lst zs))
  (g:tI a O aD H aa) (d:dP aD aa) (hw:aa a=some (.lst ws)) (ay:bu K I aD aa ys ws):cj K I aD (σ.set i (.b5 p ys)) S az aa:=by
 have ne:∀w:Own,w≠.loc i->O a≠w:=fun w hw z=>hw (z.symm.trans aM)
 refine⟨d,by rw[ah3];exact st.len,fun j t e=>?_,st.emp⟩
 by_cases bV:i=j
 ·subst bV
  rw[ahr (ahe.mp aC).1]at e;cases e;exact⟨a,ws,bF,g.YJ.trans aM,hw,ay⟩
 ·rw[ahD bV]at e
  exact(st.loc j t e).iB g (ne _ (by intro z;cases z)) (ne _ (by intro z;cases z)) (ne _ (by intro z;cases z;exact bV rfl)) (fun p=>ne _ (by intro z;cases z)) ao
section
variable{X:aS}{x y:Str}{ps:List Str}{k i:Nat}{bg:p6}{p q pos pos':Pos}{aE:List Expr}{ms:cQ}
theorem R_(h:bM X.prog X.w X.K X.I X.base x ps k (vL X.K X.I bg))(ay:eh k X.A)(a':dC X x)(ax:jb X aE ms)(bY:X.N[i]? = some y)(bF:gT X.env.scope y)
  (hd:(y==("__debug__":Str))=false:=by decide) (dN:(y==("__classdict__":Str))=false:=by decide) (da:(x==("__debug__":Str))=false:=by decide)
  (he:ag6 (.Name y q::aE) X.env=(false,eval (.Name y q) X.env)::ag6 aE X.env:=by rfl) (du:(ahN pos (ag6 aE X.env)).any (·.1)=false:=by rfl)
  (aQ:ah6 (.Call (.Name x p) (.Name y q::aE) [] pos) none pos'.line X.env=pure false:=by rfl):iM X (.Expr (.Call (.Name x p) (.Name y q::aE) [] pos) pos') (rW i bg ms):=
 g4 (MF (Mr h ay a' (m8 (lx bY bF hd dN) ax he) da he du) aQ) fun D az H ⟨O,σ,S,bO,aJ,st,h,q⟩=>by
  obtain⟨rs,a6,aj,h⟩:=M.inv h;split at h
  ·rename_i pp xs e
   by_cases c:rs.all R.n6=true
   ·rw[if_pos c]at h
    obtain⟨ys,bS,h2,h⟩:=M.inv h;cases h;obtain⟨a,zs,aH,aT,dt,gY⟩:=st.loc i _ e;have ev:az[i]? = some (some (.ref a)):=by
     cases w:az[i]? with
     |none=>rw[w]at aH;cases aH
     |some z=>rw[w]at aH;exact congrArg some aH
    refine⟨.ref a,ev,O,σ,S,rs,a6,st,aj,fun aY ar H1 g1 a3 bD nn=>?_⟩;have aR:H a≠none:=by rw[dt];intro z;cases z
    have lS:aY a=.loc i:=(g1.own a aR).trans aT;have jl:=g1.same.at' _ _ dt;have cm:=a3.emp;subst cm;refine⟨aY,xs,_,ys,_,a,zs,ar,rfl,a3.dh,jl,⟨i,lS⟩,gY.go g1,lP bD,LO lS bD c,h2,fun aD aa ws qu d S5 hw Vj=>?_⟩;subst S5;have cW:=a3.iB e aH lS jl qu d hw Vj;refine q aD az aa (g1.dj.trans ⟨fun b o dS U n=>qu.cells b o ?_ dS n,fun b U hf=>qu.own b ?_ U,fun b U=>?_,qu.cJ,qu.cI⟩) cW ?_
    ·rintro rfl
     rcases U with z | z | ⟨_,z⟩ | ⟨_,_,z⟩
     ·rw[lS]at z;cases z
     ·rw[lS]at z;cases z
     ·subst z;rw[dS]at jl;cases jl
     ·subst z;rw[dS]at jl;cases jl
    ·rintro rfl
     rw[lS]at hf;rcases hf with z | z<;>cases z
    ·by_cases dS:b=a
     ·rw[dS,hw];intro z;cases z
     ·cases r8:H1 b with
      |none=>exact absurd r8 U|some o=>
       rcases LB o with n | ⟨ps,rfl⟩
       ·rw[qu.cells b o dS r8 n];intro z;cases z
       ·obtain⟨p,q⟩:=qu.cJ b ps r8;rw[q];intro z;cases z
    ·have er:i<σ.length:=(ahe.mp e).1
     exact dQ.put e (fun xs z=>by cases z) (fun _ z=>by cases z;exact⟨xs,rfl⟩) (fun _ _ z=>by cases z)
   ·rw[if_neg c]at h;cases h
  ·cases h
end
omit [ak.a7]in
@[simp] theorem afq:R.n6 (.v d)=true:=rfl
omit [ak.a7]in
@[simp] theorem afp:R.n6 (.fr xs)=true:=rfl
omit [ak.a7]in
@[simp] theorem afr:R.n6 (.cp xs)=true:=rfl
omit [ak.a7]in
@[simp] theorem aeJ:rW i bg ms σ=(do
 let rs <-ms σ
 match σ[i]? with
 | some (.b5 p xs)=>(if rs.all R.n6=true then(do
   let ys <-bg (.lst xs::rs.map R.arg)
   pure (.a8 (σ.set i (.b5 p ys))))else bad)
 | _=>bad):=rfl
omit [ak.a7]in
@[simp] theorem aeK{σ:a9}:u0 σ=match(σ[(0:Nat)]? : Option Slot)with
 |some (.b5 true ys)=>pure ys|_=>bad:=rfl
omit [ak.a7]in
@[simp] theorem aeB{n N:Nat}{xs ds:List D}:nR n N b (.lst xs::ds)=if ds.length+1=n then(do
   let bO <-b (.b5 true xs::ds.map e9++ahu (N-n) .emp)
   match bO with
   |.a8 σ'=>u0 σ'| _=>bad)else bad:=rfl
omit [ak.a7]in
@[simp] theorem afF{xs:List D}:v3 xs []=match xs[xs.length-1]? with
  |some d=>pure (.v d,xs.dropLast)|none=>bad:=rfl
omit [ak.a7]in
@[simp] theorem ad9{x y:R}:iH x y=match x.own,y.own with
 |some xs,some ys=>if xs.length+ys.length<=ag5 then pure (.fr (xs++ys))else bad|_,_=>bad:=rfl
omit [ak.a7]in
@[simp] theorem aeb{xs ys:List D}:sW (.v (.tup xs)) (.v (.tup ys))=if xs.length+ys.length<=ag5 then pure (.v (.tup (xs++ys)))else bad:=rfl
omit [ak.a7]in
@[simp] theorem agd:ub c b σ=rn c b mh σ:=rfl
omit [ak.a7]in
theorem OG{c:a9->M Bool}{b:aV}(J:a9->Prop)(z9:a9->Nat)(Ap:a9->Prop)(step:∀σ,J σ->(c σ=pure false/\Ap σ)\/(c σ=pure true/\∃σ',(b σ=pure (.a8 σ')\/b σ=pure (.c3 σ'))/\J σ'/\z9 σ' < z9 σ)) :
  ∀(n:Nat)(σ:a9),J σ->z9 σ<n->∃σ',rn c b n σ=pure (.a8 σ')/\Ap σ'
 |0,σ,_,h=>absurd h (ahV _)|n+1,σ,mQ,h=>by
  rcases step σ mQ with⟨e,aP⟩ | ⟨e,fl,aH,T7,hm⟩
  ·refine⟨σ,?_,aP⟩
   show(c σ >>= _)=_;rw[e];rfl
  ·obtain⟨dA,aT,aP⟩:=OG J z9 Ap step n fl T7 (by omega)
   refine⟨dA,?_,aP⟩;show(c σ >>= _)=_;rw[e,pure_bind,if_pos rfl];rcases aH with aH | aH<;>rw[aH,pure_bind]<;>exact aT
omit [ak.a7]in
theorem Gj(h:n<16777216):n<mh:=by unfold mh;omega
omit [ak.a7]in
theorem comp_map{el:bj}{σ:a9}(g:D->D)(ds:List D)(h:∀d∈ds,(el (σ.set 0 (.val d)) >>= R.dat)=pure (g d)):fR fF el σ ds=pure (ds.map g):=by
 have:=Iw (t:=fF) (el:=el) (σ:=σ) (fun _=>true) g ds (fun _ _=>rfl) fun d hd _=>h d hd
 rw[this]
 congr 2
 exact List.filter_eq_self.mpr fun _ _=>rfl
omit [ak.a7]in
@[simp] theorem agS{i j:Int}(aj:0<j)(h2:j<10 ^ 200):jz i j:=k4 aj h2
omit [ak.a7]in
theorem AD{α:Type}{xs:List α}{i:Int}{v:α}(h:d7 xs i=some v):v∈xs:=by
 obtain⟨j,_,e,_⟩:=wZ h;exact ahO e
omit [ak.a7]in
theorem AE{α:Type}{xs:List α}{i:Int}(h0:0<=i)(aj:i<xs.length):∃v,d7 xs i=some v:=by
 have ao:i.toNat<xs.length:=by omega
 refine⟨xs[i.toNat],?_⟩;have:=tX (xs:=xs) i.toNat (v:=xs[i.toNat]) (by simp[ao])
 rwa[Int.toNat_of_nonneg h0]at this
noncomputable def o4:List Nat->oH
 |[]=>Ju|i::is=>Jt (o3 i) (o4 is)
section
variable{X:aS}{is:List Nat}{aE:List Expr}
theorem y6{i:Nat}{x:Str}{p:Pos}(bY:X.N.Nodup)(aC:X.N[i]? = some x)(av:Loc X.env.scope x)(h:p8 X aE (o4 is))(aQ:(ahS (.Name x p::aE) X.env).map (·.2)=aj5 (.Name x p) X.env::(ahS aE X.env).map (·.2):=by rfl)
  (hf:X.fn x=true\/X.env.scope.names.lookup x=some .local:=by first | exact .inl rfl | exact .inr rfl | assumption):p8 X (.Name x p::aE) (o4 (i::is)):=Zc (EO bY aC av hf) h aQ
theorem My:p8 X [] (o4 []):=Zd
end
end aN
namespace aN
open PySem PySem.Spec ak
section
variable[ak.a7](X:aS)
structure cq(e:Expr)(m:bj):Prop where
 un:cg X e m
structure iw(e:Expr)(m:a9->M Bool):Prop where
 un:hx X e m
structure fo(e:Expr)(m:a9->M Bool):Prop where
 un:mq X e m
structure f6(e:List Expr)(m:cQ):Prop where
 un:jb X e m
structure oI(e:Option Expr)(m:iu):Prop where
 un:nk X e m
structure iR(e:Stmt)(m:aV):Prop where
 un:iM X e m
structure di(e:List Stmt)(m:aV):Prop where
 un:kM X e m
structure tU(cV e:Expr)(m:g9):Prop where
 un:rA X cV e m
structure wO(cV e:Expr)(m:g9):Prop where
 un:tD X cV e m
structure wN(e:List Expr)(m:a9->M Bool):Prop where
 un:tC X e m
end
section
variable[ak.a7]
variable{X:aS}{pos:Pos}
theorem aw(i:Nat)(bY:X.N[i]? = some x:=by rfl)(bF:gT X.env.scope x:=by first | exact aiz rfl | exact ajv (.inl rfl) | exact ajv (ajv rfl))(hd:(x==("__debug__":Str))=false:=by decide)(dN:(x==("__classdict__":Str))=false:=by decide):cq X (.Name x pos) (ag i):=⟨RF i bY bF hd dN⟩
end
section
variable[ak.a7]
variable{X:aS}{e:Expr}{aE:List Expr}{m:bj}{ms:cQ}
theorem aq(ax:cq X e m)(ay:f6 X aE ms)(aQ:ag6 (e::aE) X.env=(false,eval e X.env)::ag6 aE X.env:=by rfl):f6 X (e::aE) (ah m ms):=⟨QR ax.un ay.un aQ⟩
end
section
variable[ak.a7]
variable{X:aS}{pos:Pos}
theorem aU{i j pos}:cq X (.Constant (.int i) j pos) (ai (.int i)):=⟨Rn⟩
end
section
variable[ak.a7]
variable{X:aS}
theorem aO :f6 X [] aG:=⟨QS⟩
end
section
variable[ak.a7]
variable{X:aS}{a b:Expr}{cO cw:bj}{pos:Pos}
theorem bH(aM:dv X (aiw op) r)(hf:dB X.K X.I r f)(ax:cq X a cO)(U:cq X b cw):cq X (.BinOp a op b pos) (au f cO cw):=⟨Rv aM hf ax.un U.un⟩
end
section
variable[ak.a7]
variable{X:aS}{st:Stmt}{rest:List Stmt}{a b:aV}
theorem bN(aj:iR X st a)(h2:di X rest b):di X (st::rest) (bL a b):=⟨Sh aj.un h2.un⟩
end
section
variable[ak.a7]
variable{X:aS}{st:Stmt}{a:aV}
theorem bR(h:iR X st a):di X [st] a:=⟨Sj h.un⟩
end
section
variable[ak.a7]
variable{X:aS}{a b:Expr}{cO cw:bj}{pos:Pos}
theorem cF(aM:lJ X r)(hf:dB X.K X.I r f)(ax:cq X a cO)(U:cq X b cw)(aQ:Ao b:=by exact fun _ _=>rfl):cq X (.Subscript a b pos) (au f cO cw):=⟨Ro aM hf ax.un U.un aQ⟩
end
section
variable[ak.a7]
variable{X:aS}{pos:Pos}{e:Expr}{m:bj}
theorem cf(he:cq X e m):iR X (.Return (some e) pos) (b6 m):=⟨Sd he.un⟩
end
section
variable[ak.a7]
variable{X:aS}{aE:List Expr}{ms:cQ}{pos:Pos}
theorem fH{wc}(h:f6 X aE ms):cq X (.Tuple aE wc pos) (eF ms):=⟨RE h.un⟩
end
section
variable[ak.a7]
variable{X:aS}{pos:Pos}{e:Expr}{m:bj}
variable{i:Nat}{x:Str}{pos':Pos}
theorem c7(bY:X.N.Nodup)(aC:X.N[i]? = some x)(av:Loc X.env.scope x)(he:cq X e m)(aQ:ah6 e (some (.Name x pos')) pos.line X.env=pure false:=by rfl)(hf:X.fn x=true\/X.env.scope.names.lookup x=some .local:=by first | exact .inl rfl | exact .inr rfl | assumption):iR X (.Assign [.Name x pos'] e pos) (cT i m):=⟨Sf bY aC av he.un aQ hf⟩
end
section
variable[ak.a7]
variable{X:aS}{x:Str}{ps:List Str}{k:Nat}{bg:b8}{p pos:Pos}{e:Expr}{aE:List Expr}{ms:cQ}
theorem cN(h:bM X.prog X.w X.K X.I X.base x ps k (bQ X.K X.I bg))(ay:eh k X.A)(a':dC X x)(ax:f6 X (e::aE) ms)(da:(x==("__debug__":Str))=false:=by decide)(he:ag6 (e::aE) X.env=(false,eval e X.env)::ag6 aE X.env:=by rfl)(du:(ahN pos (ag6 aE X.env)).any (·.1)=false:=by rfl):cq X (.Call (.Name x p) (e::aE) [] pos) (b4 bg ms):=⟨Rd h ay a' ax.un da he du⟩
end
section
variable[ak.a7]
variable{X:aS}{e:Expr}{aE:List Expr}{ms:cQ}{pos p:Pos}{x:Str}{id:String}{r:List V->aI->cY->Prop}{f:List R->M R}
theorem c'(aA:g7 X (.builtin id) r)(hf:ip X.K X.I r f)(a':dC X x)(hm:X.I x=none)(bF:ahK x=some (.builtin id))(ax:f6 X (e::aE) ms)(aR:x≠"__name__":=by decide)(da:(x==("__debug__":Str))=false:=by decide)(he:ag6 (e::aE) X.env=(false,eval e X.env)::ag6 aE X.env:=by rfl)(du:(ahN pos (ag6 aE X.env)).any (·.1)=false:=by rfl):cq X (.Call (.Name x p) (e::aE) [] pos) (cb f ms):=⟨Rf aA hf a' hm bF ax.un aR da he du⟩
end
section
variable[ak.a7]
variable{X:aS}{pos:Pos}{a b:aV}
theorem dO(aA:iw X c t)(ax:di X A a)(U:di X B b):iR X (.If c A B pos) (dr t a b):=⟨R9 aA.un ax.un U.un⟩
end
section
variable[ak.a7]
variable{X:aS}
theorem dY :di X [] dI:=⟨Si⟩
end
section
variable[ak.a7]
variable{X:aS}{a b:Expr}{cO cw:bj}{pos:Pos}
theorem dq(aM:dv X (ahB op) r)(hf:dB X.K X.I r f)(ax:cq X a cO)(U:cq X b cw)(hm:ah8 op b=false:=by exact iG _):iw X (.Compare a [op] [b] pos) (bb (au f cO cw)):=⟨Sl aM hf ax.un U.un hm⟩
end
section
variable[ak.a7]
variable{X:aS}{a:Expr}{cO:bj}{pos:Pos}
theorem dZ(ax:cq X a cO)(he:∀whole,isTrue a X.env whole=(do let v <-whole;standAt a.pos;holding [v] (truthy v)):=by intro _;rfl):iw X a (bb cO):=⟨So ax.un he⟩
end
section
variable[ak.a7]
variable{X:aS}{e:Expr}
theorem fG(h:b3 X e (nf v))(r:∀O H,Rep X.K X.I O H d v):cq X e (ai d):=⟨r2 h r⟩
end
section
variable[ak.a7]
variable{X:aS}{aE:List Expr}{ms:cQ}{pos:Pos}
theorem eg(h:f6 X aE ms):cq X (.List aE pos) (dM ms):=⟨Rp h.un⟩
end
section
variable[ak.a7]
variable{X:aS}{b:Expr}{pos:Pos}
theorem hu{b j pos}:cq X (.Constant (.bool b) j pos) (ai (.aB b)):=⟨Rc⟩
end
section
variable[ak.a7]
variable{X:aS}{a:Expr}{ta:a9->M Bool}{pos:Pos}
theorem eL(ax:iw X a ta):iw X (.UnaryOp .Not a pos) (d9 ta):=⟨Sn ax.un⟩
end
section
variable[ak.a7]
variable{X:aS}{a b:Expr}{ta cJ:a9->M Bool}{pos:Pos}
variable{rest:List Expr}
theorem g6(ax:iw X a ta)(U:fo X (.BoolOp .Or (b::rest) pos) cJ):fo X (.BoolOp .Or (a::b::rest) pos) (fh ta cJ):=⟨cw_or ax.un U.un⟩
end
section
variable[ak.a7]
variable{X:aS}{pos:Pos}
theorem bl{x j pos}:cq X (.Constant (.str x) j pos) (ai (.str x)):=⟨RA⟩
end
section
variable[ak.a7]
variable{X:aS}{pos:Pos}
theorem i9{j pos}:cq X (.Constant .none j pos) (ai .ba):=⟨Rr⟩
end
section
variable[ak.a7]
variable{X:aS}{a b:Expr}{cO cw:bj}{pos:Pos}
theorem ib(aM:dv X (ahB op) r)(hf:dB X.K X.I r f)(ax:cq X a cO)(U:cq X b cw)(hm:ah8 op b=false):cq X (.Compare a [op] [b] pos) (au f cO cw):=⟨Ri aM hf ax.un U.un hm⟩
end
section
variable[ak.a7]
variable{X:aS}{iter:Expr}{it:g9}{i:Nat}{b:aV}{body:List Stmt}{pos hq:Pos}{x:Str}
theorem mi(aP:akh (model X.prog X.w) X.A X.env X.c2)(aA:X.calm=true)(aC:wO X (.Name x hq) iter it)(bY:X.N.Nodup)(av:X.N[i]? = some x)(ao:Loc X.env.scope x)(U:di X body b)(aQ:∀x,ail iter X.env x=pure x:=by intro _;rfl)(hf:X.fn x=true\/X.env.scope.names.lookup x=some .local:=by first | exact .inl rfl | exact .inr rfl | assumption):iR X (.For (.Name x hq) iter body [] pos) (iT i it b):=⟨R8 aP aA aC.un bY av ao U.un aQ hf⟩
end
section
variable[ak.a7]
variable{X:aS}{a b:Expr}{cO cw:bj}{pos:Pos}
variable{rest:List Expr}
theorem oo(ax:cq X a cO)(U:cq X (.BoolOp .And (b::rest) pos) cw):cq X (.BoolOp .And (a::b::rest) pos) (kV cO cw):=⟨Ra ax.un U.un⟩
end
section
variable[ak.a7]
variable{X:aS}{a b:Expr}{cO cw:bj}{pos:Pos}
variable{rest:List Expr}
theorem aci(ax:cq X a cO)(U:cq X (.BoolOp .Or (b::rest) pos) cw):cq X (.BoolOp .Or (a::b::rest) pos) (t9 cO cw):=⟨Rw ax.un U.un⟩
end
section
variable[ak.a7]
variable{X:aS}{a:Expr}{ta:a9->M Bool}{pos:Pos}
theorem j6(ax:iw X a ta):fo X (.BoolOp .Or [a] pos) ta:=⟨cw_or1 ax.un⟩
end
section
variable[ak.a7]
variable{X:aS}{a b:Expr}{ta cJ:a9->M Bool}{pos:Pos}
variable{rest:List Expr}
theorem ru(ax:iw X a ta)(U:fo X (.BoolOp .And (b::rest) pos) cJ):fo X (.BoolOp .And (a::b::rest) pos) (i7 ta cJ):=⟨cw_and ax.un U.un⟩
end
section
variable[ak.a7]
variable{X:aS}{e:Expr}{m:bj}
theorem ig(he:cq X e m):oI X (some e) (eX m):=⟨RW he.un⟩
end
section
variable[ak.a7]
variable{X:aS}
theorem lE :oI X none gI:=⟨RV⟩
end
section
variable[ak.a7]
variable{X:aS}{e:Expr}{m:bj}{lo aC:Option Expr}{hk i0:iu}{pos cR:Pos}
theorem Gp(he:cq X e m)(ao:oI X lo hk)(a_:oI X aC i0):cq X (.Subscript e (.Slice lo aC none cR) pos) (oP m hk i0):=⟨Rx he.un ao.un a_.un⟩
end
section
variable[ak.a7]
variable{X:aS}{a:Expr}{cO:bj}{pos:Pos}
theorem ot{op}(h:cq X a cO):cq X (.BoolOp op [a] pos) cO:=⟨Ru h.un⟩
end
section
variable[ak.a7]
variable{X:aS}{scope esc:Scope}{EN N:List Str}{n:Nat}{cap:List Nat}{elt iter:Expr}{ifs:List Expr}{pos hq:Pos}{x:Str}{it:g9}{t:a9->M Bool}{el:bj}
theorem kJ(S:mr esc scope EN N n cap)(aR:0<n)(aC:tU X (.Name x hq) iter it)(av:N[0]? = some x)(lb:∀C aW s H,Loc (cz X scope N C aW s H).env.scope x/\(cz X scope N C aW s H).env.scope.names.lookup x=some .local)(bG:∀C aW s H,wN (cz X scope N C aW s H) ifs t)(iC:∀C aW s H,cq (cz X scope N C aW s H) elt el)(he:X.env.scope=esc:=by rfl)(bY:X.N=EN:=by rfl)(aA:X.calm=true:=by rfl)(aQ:∀x,ail iter X.env x=pure x:=by intro _;rfl):cq X (.ListComp elt [⟨.Name x hq,iter,ifs,0⟩] scope pos) (hF n cap it t el):=⟨Rj S aR aC.un av lb (fun C aW s H=>(bG C aW s H).un) (fun C aW s H=>(iC C aW s H).un) he bY aA aQ⟩
end
section
variable[ak.a7]
variable{X:aS}{x:Str}{i:Nat}{p apos cu pos:Pos}{e:Expr}{aE:List Expr}{ms:cQ}{name:Str}{id:String}{f:List D->List R->M (R×List D)}{r:V->List V->aI->cY->Prop}
theorem rt(slot:akl "list" name id)(jq:akG (.builtin id)=pure (.type "method_descriptor"))(hm:p7 X id r)(hf:oz X.K X.I r f)(ax:f6 X (e::aE) ms)(bY:X.N[i]? = some x)(bF:gT X.env.scope x)(hd:(x==("__debug__":Str))=false:=by decide)(dN:(x==("__classdict__":Str))=false:=by decide)(hK:aiq (.Name x p) name X.env (eval (.Name x p) X.env)=eval (.Name x p) X.env:=by rfl) (nV:((ahN cu (ag6 (e::aE) X.env)).all (fun x=>!x.1)&&(aku cu (ajI [] X.env)).all (fun x=>x.1.isSome)
&&decide ((e::aE).length+([]:List ai7).length+(if([]:List ai7).isEmpty then 0 else 1)<30))=true:=by rfl) (hL:(apos.endLine==cu.line)=true:=by rfl) (aQ:ag6 (e::aE) X.env=(false,eval e X.env)::ag6 aE X.env:=by rfl) (ku:(ahN cu (ag6 aE X.env)).any (·.1)=false:=by rfl) (uV:ah6 (.Call (.Attribute (.Name x p) name apos) (e::aE) [] cu) none pos.line X.env=pure false:=by rfl):iR X (.Expr (.Call (.Attribute (.Name x p) name apos) (e::aE) [] cu) pos) (kh i f ms):=⟨R' slot jq hm hf ax.un bY bF hd dN hK nV hL aQ ku uV⟩
end
section
variable[ak.a7]
variable{X:aS}{a:Expr}{ta:a9->M Bool}{pos:Pos}
theorem wa(ax:iw X a ta):fo X (.BoolOp .And [a] pos) ta:=⟨cw_and1 ax.un⟩
end
section
variable[ak.a7]
variable{X:aS}{cV l:Expr}{m:bj}
theorem v9(ao:cq X l m):wO X cV l (pb m):=⟨RH ao.un⟩
end
section
variable[ak.a7]
theorem Gm(ax:cq X a cO):cq X (.UnaryOp .USub a pos) (cy i1 cO):=⟨Rq ax.un⟩
end
section
variable[ak.a7]
variable{X:aS}{pos:Pos}{e:Expr}{m:bj}
variable{i:Nat}{x:Str}{pos':Pos}
theorem v_(bY:X.N.Nodup)(aC:X.N[i]? = some x)(av:Loc X.env.scope x)(he:cq X e m)(aQ:ah6 e (some (.Name x pos')) pos.line X.env=pure false:=by rfl)(hf:X.fn x=true\/X.env.scope.names.lookup x=some .local:=by first | exact .inl rfl | exact .inr rfl | assumption):iR X (.Assign [.Name x pos'] e pos) (mC i m):=⟨Sb bY aC av he.un aQ hf⟩
end
section
variable[ak.a7]
theorem pX:wN X [] fF:=⟨Il⟩
end
section
variable[ak.a7]
variable{X:aS}{a:Expr}{cO:bj}{pos:Pos}
theorem Gn(ax:cq X a cO):cq X (.UnaryOp .Not a pos) (rY cO):=⟨Rt ax.un⟩
end
section
variable[ak.a7]
variable{X:aS}{a b c:Expr}{cO cw:bj}{ta:a9->M Bool}{pos:Pos}
theorem ach(bG:iw X c ta)(ax:cq X a cO)(U:cq X b cw):cq X (.IfExp c a b pos) (qe ta cO cw):=⟨Rm bG.un ax.un U.un⟩
end
section
variable[ak.a7]
variable{X:aS}{e:Expr}{aE:List Expr}{ms:cQ}{pos p:Pos}{x:Str}{T:String}{r:List V->aI->cY->Prop}{f:List R->M R}
theorem ro(aA:g7 X (.type T) r)(hf:ip X.K X.I r f)(a':dC X x)(hm:X.I x=none)(bF:ahK x=some (.type T))(ax:f6 X (e::aE) ms)(aR:x≠"__name__":=by decide)(da:(x==("__debug__":Str))=false:=by decide)(he:ag6 (e::aE) X.env=(false,eval e X.env)::ag6 aE X.env:=by rfl)(du:(ahN pos (ag6 aE X.env)).any (·.1)=false:=by rfl):cq X (.Call (.Name x p) (e::aE) [] pos) (cb f ms):=⟨Rg aA hf a' hm bF ax.un aR da he du⟩
end
section
variable[ak.a7]
theorem tv(h:iw X c t):wN X [c] t:=⟨RK h.un⟩
end
section
variable[ak.a7]
variable{X:aS}{cV:Expr}{a:Expr}{ms:cQ}{pos p:Pos}
theorem Gq(a':dC X "range")(hm:X.I "range"=none)(ax:f6 X [a] ms)(aQ:ag6 [a] X.env=[(false,eval a X.env)]:=by rfl):wO X cV (.Call (.Name "range" p) [a] [] pos) (lh ms):=⟨RI a' hm ax.un aQ⟩
end
section
variable[ak.a7]
variable{X:aS}{a b c:Expr}{cO cw d8:bj}{pos:Pos}
theorem v'(aM:dv X (ahB op) r)(hf:dB X.K X.I r f)(ef:dv X (ahB gZ) bq)(a':dB X.K X.I bq g)(ax:cq X a cO)(U:cq X b cw)(aA:cq X c d8)(hm:akD [op,gZ] [b,c]=false:=by with_unfolding_all rfl):iw X (.Compare a [op,gZ] [b,c] pos) (bb (d1 f g cO cw d8)):=⟨Sk aM hf ef a' ax.un U.un aA.un hm⟩
end
section
variable[ak.a7]
variable{X:aS}{x y:Str}{ps:List Str}{k i:Nat}{bg:p6}{p q pos pos':Pos}{aE:List Expr}{ms:cQ}
theorem OV(h:bM X.prog X.w X.K X.I X.base x ps k (vL X.K X.I bg))(ay:eh k X.A)(a':dC X x)(ax:f6 X aE ms)(bY:X.N[i]? = some y)(bF:gT X.env.scope y)(hd:(y==("__debug__":Str))=false:=by decide)(dN:(y==("__classdict__":Str))=false:=by decide)(da:(x==("__debug__":Str))=false:=by decide)(he:ag6 (.Name y q::aE) X.env=(false,eval (.Name y q) X.env)::ag6 aE X.env:=by rfl)(du:(ahN pos (ag6 aE X.env)).any (·.1)=false:=by rfl)(aQ:ah6 (.Call (.Name x p) (.Name y q::aE) [] pos) none pos'.line X.env=pure false:=by rfl):iR X (.Expr (.Call (.Name x p) (.Name y q::aE) [] pos) pos') (rW i bg ms):=⟨R_ h ay a' ax.un bY bF hd dN da he du aQ⟩
end
section
variable[ak.a7]
variable{X:aS}{cV l:Expr}{m:bj}
theorem v8(ao:cq X l m):tU X cV l (jP m):=⟨Q8 ao.un⟩
end
section
variable[ak.a7]
variable{X:aS}{cV l:Expr}{m:bj}
theorem zW(ao:cq X l m):tU X cV l (qK m):=⟨Q5 ao.un⟩
end
section
variable[ak.a7]
variable{X:aS}{b:aV}{body:List Stmt}{pos:Pos}{c:Expr}{t:a9->M Bool}
theorem acO(aP:akh (model X.prog X.w) X.A X.env X.c2)(aA:iw X c t)(U:di X body b):iR X (.While c body [] pos) (ub t b):=⟨Sg aP aA.un U.un⟩
end
section
variable[ak.a7]
variable{X:aS}{cV l:Expr}{m:bj}
theorem Gr(ao:cq X l m):wO X cV l (jP m):=⟨RJ ao.un⟩
end
section
variable[ak.a7]
variable{X:aS}{cV:Expr}{a:Expr}{ms:cQ}{pos p:Pos}
theorem ab9(a':dC X "range")(hm:X.I "range"=none)(ax:f6 X [a] ms)(aQ:ag6 [a] X.env=[(false,eval a X.env)]:=by rfl):tU X cV (.Call (.Name "range" p) [a] [] pos) (lh ms):=⟨Q6 a' hm ax.un aQ⟩
end
section
variable[ak.a7]
variable{X:aS}{pos:Pos}
theorem acM(i:Nat)(bY:X.N[i]? = some x:=by rfl)(bF:gT X.env.scope x:=by first | exact aiz rfl | exact ajv (.inl rfl) | exact ajv (ajv rfl))(hd:(x==("__debug__":Str))=false:=by decide)(dN:(x==("__classdict__":Str))=false:=by decide):iR X (.Return (some (.Name x p)) pos) (t_ i):=⟨Se i bY bF hd dN⟩
end
section
variable[ak.a7]
variable{X:aS}{x:Str}{i j:Nat}{p apos cu pos pos':Pos}{name y:Str}{id:String}{f:List D->List R->M (R×List D)}{r:V->List V->aI->cY->Prop}
theorem acL(slot:akl "list" name id)(jq:akG (.builtin id)=pure (.type "method_descriptor"))(hm:p7 X id r)(hf:oz X.K X.I r f)(bY:X.N[i]? = some x)(bF:gT X.env.scope x)(C2:X.N.Nodup)(bV:X.N[j]? = some y)(bo:Loc X.env.scope y)(hd:(x==("__debug__":Str))=false:=by decide)(dN:(x==("__classdict__":Str))=false:=by decide)(hK:aiq (.Name x p) name X.env (eval (.Name x p) X.env)=eval (.Name x p) X.env:=by rfl)(hL:(apos.endLine==cu.line)=true:=by rfl)(aQ:ah6 (.Call (.Attribute (.Name x p) name apos) [] [] cu) (some (.Name y pos')) pos.line X.env=pure false:=by rfl)(qB:X.fn y=true\/X.env.scope.names.lookup y=some .local:=by first | exact .inl rfl | exact .inr rfl | assumption):iR X (.Assign [.Name y pos'] (.Call (.Attribute (.Name x p) name apos) [] [] cu) pos) (t8 j i f aG):=⟨Sa slot jq hm hf bY bF C2 bV bo hd dN hK hL aQ qB⟩
end
section
variable[ak.a7]
variable{X:aS}{a b c:Expr}{cO cw d8:bj}{pos:Pos}
theorem OB(aM:dv X (ahB op) r)(hf:dB X.K X.I r f)(ef:dv X (ahB gZ) bq)(a':dB X.K X.I bq g)(ax:cq X a cO)(U:cq X b cw)(aA:cq X c d8)(hm:akD [op,gZ] [b,c]=false:=by with_unfolding_all rfl):cq X (.Compare a [op,gZ] [b,c] pos) (d1 f g cO cw d8):=⟨Rh aM hf ef a' ax.un U.un aA.un hm⟩
end
section
variable[ak.a7]
variable{X:aS}{a:Expr}{cO:bj}{apos cu:Pos}
theorem ace(ax:cq X a cO)(hK:aiq a "bit_length" X.env (eval a X.env)=eval a X.env:=by rfl)(hL:(apos.endLine==cu.line)=true:=by rfl):cq X (.Call (.Attribute a "bit_length" apos) [] [] cu) (cy oBits cO):=⟨Rb ax.un hK hL⟩
end
section
variable[ak.a7]
variable{X:aS}{a:Expr}{ta:a9->M Bool}
theorem fo.c3(h:fo X a ta):iw X a ta:=⟨mq.c3 h.un⟩
end
noncomputable def jr:D->Option Key
 |.int i=>some (.inl i)|.str x=>some (.inr x)|_=>none
noncomputable def h6(aK:List (Key×D))(k:Key):Option D:=(aK.find? fun dk=>decide (dk.1=k)).map (·.2)
noncomputable def iU(aK:List (Key×D))(k:Key)(d:D):List (Key×D):=
 if(aK.any fun dk=>decide (dk.1=k))=true then aK.map (fun dk=>if dk.1=k then(dk.1,d)else dk)else aK++[(k,d)]
noncomputable def Ib(m mk pD:bj):bj:=fun σ=>do
 let x <-m σ
 let k <-mk σ
 let z <-pD σ
 match x,k,z with
 |.eY aK,.v fS,.v wk=>match jr fS with
  |some key=>pure (.v ((h6 aK key).getD wk))|none=>bad
 |_,_,_=>bad
noncomputable def q0:R->R->M R
 |.eY aK,.v fS=>match jr fS with
  |some key=>match h6 aK key with
   |some d=>pure (.v d)|none=>bad
  |none=>bad
 |_,_=>bad
noncomputable def sX(neg:Bool):R->R->M R
 |.v fS,.eY aK=>match jr fS with
  |some key=>pure (.v (.aB (if neg then !(h6 aK key).isSome else(h6 aK key).isSome)))|none=>bad
 |_,_=>bad
noncomputable def nH(i:Nat)(mk ej:bj):aV:=fun σ=>do
 let r <-ej σ
 let d <-r.dat
 let k <-mk σ
 match σ[i]?,k with
 |some (.gj aK),.v fS=>match jr fS with
  |some key=>if aK.length<1000 then pure (.a8 (σ.set i (.gj (iU aK key d))))else bad|none=>bad
 |_,_=>bad
variable[ak.a7]
section
variable{K:a4}{I:br}{O:b9}{H:aI}
theorem KC{k:Key}(h:Rep K I O H d v)(e:jr d=some k):v=d5 k:=by
 cases d<;>cases e<;>exact h
theorem eP.cons{p:Key×D}{aK:List (Key×D)}{c9:List (Key×V)}(h:eP K I O H (p::aK) c9):∃q r,c9=q::r/\p.1=q.1/\Rep K I O H p.2 q.2/\eP K I O H aK r:=by
 obtain⟨aj,h2⟩:=h
 cases c9 with
 |nil=>cases aj
 |cons q r=>
  rw[ahi,ahi]at aj h2;injection aj with aj CV
  obtain⟨y,t,e,a,b⟩:=h2;injection e with aH aT
  subst aH aT;exact⟨q,r,rfl,aj,a,CV,b⟩
theorem eP.mk'{aK:List (Key×D)}(aj:p.1=q.1)(h2:Rep K I O H p.2 q.2)(h:eP K I O H aK r):eP K I O H (p::aK) (q::r):=
 ⟨by rw[ahi,ahi,aj,h.1],q.2,_,rfl,h2,h.2⟩
theorem eP.len{aK:List (Key×D)}{c9:List (Key×V)}(h:eP K I O H aK c9):c9.length=aK.length:=by
 have:=congrArg ai5 h.1;rw[ag4,ag4]at this;exact this.symm
theorem eP.val(k:Key):∀{aK:List (Key×D)}{c9:List (Key×V)},eP K I O H aK c9->match h6 aK k with
  |some d=>∃v,j3 c9 k=some v/\Rep K I O H d v|none=>j3 c9 k=none
 |[],c9,h=>by
  have:c9=[]:=by have:=h.len;exact aiQ.mp this
  subst this;exact rfl
 |p::aK,c9,h=>by
  obtain⟨q,r,rfl,aH,aT,h'⟩:=h.cons;unfold h6 j3
  by_cases aL:p.1=k
  ·rw[aka (by simpa using aL),aka (by rw[<-aH];simpa using aL)]
   exact⟨q.2,rfl,aT⟩
  ·rw[akb (by simpa using aL),akb (by rw[<-aH];simpa using aL)]
   exact eP.val k h'
theorem eP.any(k:Key):∀{aK:List (Key×D)}{c9:List (Key×V)},eP K I O H aK c9->(c9.any fun dk=>decide (dk.1=k))=aK.any fun dk=>decide (dk.1=k)
 |[],c9,h=>by
  have:c9=[]:=aiQ.mp h.len;subst this;rfl
 |p::aK,c9,h=>by
  obtain⟨q,r,rfl,aH,aT,h'⟩:=h.cons;rw[aiN,aiN,eP.any k h',aH]
theorem eP.put(k:Key)(hd:Rep K I O H d v){aK:List (Key×D)}(h:eP K I O H aK c9):eP K I O H (iU aK k d) (putK c9 k v):=by
 unfold iU putK;rw[eP.any k h];split
 ·rename_i Uc
  clear Uc
  induction aK generalizing c9 with
  |nil=>
   have:c9=[]:=aiQ.mp h.len;subst this;exact⟨rfl,rfl⟩
  |cons p aK bk=>
   obtain⟨q,r,rfl,aH,aT,h'⟩:=h.cons;rw[ahi,ahi];refine eP.mk' ?_ ?_ (bk h')
   ·by_cases aL:p.1=k
    ·rw[if_pos aL,if_pos (aH▸aL)];exact aH
    ·rw[if_neg aL,if_neg (aH▸aL)];exact aH
   ·by_cases aL:p.1=k
    ·rw[if_pos aL,if_pos (aH▸aL)];exact hd
    ·rw[if_neg aL,if_neg (aH▸aL)];exact aT
 ·refine⟨?_,?_⟩
  ·rw[ahP,ahP,h.1];rfl
  ·rw[ahP,ahP]
   exact h.2.append (.one hd)
end
section
variable{K:a4}{I:br}{O:b9}{H:aI}{l:Addr}{zs:List (Key×V)}{o:eW}
mutual
theorem Rep.gx(ao:H l=some (.d2 zs)):∀{d:D}{v:V},Rep K I O H d v->Rep K I O (upd H l o) d v
 |.ba,_,h=>h|.aB _,_,h=>h|.int _,_,h=>h|.str _,_,h=>h|.tup _,_,h=>by
  obtain⟨a,ys,q,t,r⟩:=h;refine⟨a,ys,q,?_,bu.gx ao r⟩;rcases t with(t | ⟨o,t⟩) | t
  ·exact .inl (.inl (by rw[cP (m6 t ao (by intro z;cases z))];exact t))
  ·exact .inl (.inr ⟨o,by rw[cP (m6 t ao (by intro z;cases z))];exact t⟩)
  ·exact .inr t
 |.lst _,_,h=>by
  obtain⟨a,ys,q,t,r⟩:=h;exact⟨a,ys,q,⟨by rw[cP (m6 t.1 ao (by intro z;cases z))];exact t.1,t.2⟩,bu.gx ao r⟩
 |.dX _ _,_,h=>h|.fn _,_,h=>h|.ty _,_,h=>h
theorem bu.gx(ao:H l=some (.d2 zs)):∀{ds:List D}{ys:List V},bu K I O H ds ys->bu K I O (upd H l o) ds ys
 |[],_,h=>h| _::_,_,h=>by obtain⟨x,r,q,a,b⟩:=h;exact⟨x,r,q,Rep.gx ao a,bu.gx ao b⟩
end
theorem gF.gx{w:Own}(aM:O l≠.free)(ef:O l≠.out)(hw:O l≠w)(bG:∀p,O l≠w.at p)(ao:H l=some (.d2 zs)):∀{s:Slot}{u:Option V},gF K I O H w s u->gF K I O (upd H l o) w s u
 |.emp,_,_=>trivial| .val _,_,h=>by obtain⟨v,q,r⟩:=h;exact⟨v,q,r.gx ao⟩
 | .b5 _ _,_,h=>by obtain⟨a,ys,q,o,t,r⟩:=h;exact⟨a,ys,q,o,by rw[cP (by rintro rfl;exact hw o)];exact t,r.gx ao⟩
 |.cp _,_,h=>by
  obtain⟨a,ys,q,t,r⟩:=h;refine⟨a,ys,q,?_,r.gx ao⟩;rcases t with⟨t,f⟩ | t
  ·refine .inl ⟨?_,f⟩
   rcases t with t | ⟨cL,t⟩
   ·exact .inl (by rw[cP (m6 t ao (by intro z;cases z))];exact t)
   ·exact .inr ⟨cL,by rw[cP (m6 t ao (by intro z;cases z))];exact t⟩
  ·exact .inr t
 | .gj _,_,h=>by obtain⟨a,ys,q,o,t,r⟩:=h;exact⟨a,ys,q,o,by rw[cP (by rintro rfl;exact hw o)];exact t,r.1,r.2.gx ao⟩
 |.i8 _,_,h=>by
  obtain⟨a,ys,q,⟨t,f⟩,r⟩:=h;have ne:a≠l:=by rintro rfl;exact f.elim aM ef
  refine⟨a,ys,q,⟨?_,f⟩,r.1,r.2.gx ao⟩;rcases t with t | ⟨cL,t⟩
  ·exact .inl (by rw[cP ne];exact t)
  ·exact .inr ⟨cL,by rw[cP ne];exact t⟩
 | .kE _,_,h=>by obtain⟨a,ys,q,o,t,r⟩:=h;exact⟨a,ys,q,o,by rw[cP (by rintro rfl;exact hw o)];exact t,r.1,r.2.all fun _ _ z=>Rep.gx ao z⟩
 |.j4 _,_,h=>by
  obtain⟨a,ys,q,⟨t,f⟩,r⟩:=h;have ne:a≠l:=by rintro rfl;exact f.elim aM ef
  refine⟨a,ys,q,⟨?_,f⟩,r.1,r.2.all fun _ _ z=>Rep.gx ao z⟩;rcases t with t | ⟨cL,t⟩
  ·exact .inl (by rw[cP ne];exact t)
  ·exact .inr ⟨cL,by rw[cP ne];exact t⟩
 | .fi _ _,_,h=>by obtain⟨v,q,r⟩:=h;exact⟨v,q,r.all (fun _ _ z=>Rep.gx ao z) fun a _ p o t _=>⟨o,by rw[cP (by rintro rfl;exact nE.ne ef bG p o)];exact t⟩⟩
theorem TabsOk.dX(g:TabsOk H)(h:H p=some (.d2 zs))(o:eW):TabsOk (upd H p o):=g.put o (fun ps=>by rw[h];intro z;cases z) (fun q=>by rw[h];intro z;cases z)
theorem dP.gx(d:dP O H)(ao:H l=some (.d2 zs)):dP O (upd H l o):=⟨fun a ax=>by
 by_cases e:a=l
 ·rw[e,eb];intro z;cases z
 ·rw[cP e];exact d.has a ax,TabsOk.dX d.tabs ao o⟩
theorem dJ.gx(aM:O l≠.free)(ef:O l≠.out)(ao:H l=some (.d2 zs)):dJ O O H (upd H l o):=by
 refine⟨fun b u e h _=>?_,fun _ _ _=>rfl,fun b h=>?_,fun b ps e=>⟨ps,by rw[cP (by rintro rfl;rw[ao]at e;cases e)];exact e⟩,fun g=>TabsOk.dX g ao _⟩
 ·rw[cP]
  ·exact e
  ·rintro rfl
   rcases h with h | h | ⟨xs,h⟩ | ⟨_,_,h⟩
   ·exact aM h
   ·exact ef h
   ·subst h;rw[e]at ao;cases ao
   ·subst h;rw[e]at ao;cases ao
 ·by_cases e:b=l
  ·rw[e,eb];intro z;cases z
  ·rw[cP e];exact h
theorem cj.gx{σ:a9}{az:ak.St}{aK KJ:List (Key×D)}(st:cj K I O σ S az H)(aC:σ[i]? = some (.gj aK))(bF:az[i]?.join=some (.ref l))(aM:O l=.loc i)(ao:H l=some (.d2 zs))(ay:eP K I O H KJ c9) :
  cj K I O (σ.set i (.gj KJ)) S az (upd H l (.d2 c9)):=by
 have ne:∀w:Own,w≠.loc i->O l≠w:=fun w hw z=>hw (z.symm.trans aM)
 refine⟨st.dh.gx ao,by rw[ah3];exact st.len,fun j t e=>?_,st.emp⟩
 by_cases bV:i=j
 ·subst bV
  have er:i<σ.length:=(ahe.mp aC).1;rw[ahr er]at e;cases e;exact⟨l,c9,bF,aM,eb,ay.1,ay.2.gx ao⟩
 ·rw[ahD bV]at e
  exact(st.loc j t e).gx (ne _ (by intro z;cases z)) (ne _ (by intro z;cases z)) (ne _ (by intro z;cases z;exact bV rfl)) (fun p=>ne _ (by intro z;cases z)) ao
end
section
variable{X:aS}{o i e f value:Expr}{m mk pD ej:bj}{pos pos' apos cu:Pos}{x:Str}{j:Nat}
theorem VR(h:ed H a (.d2 c9)):Af H a:=.inl ⟨c9,h⟩
theorem Ce{aK:List (Key×D)}(ay:eP K I O H aK c9)(h:ed H a (.d2 c9))(aL:Rep K I O H fS y)(e:jr fS=some key):oB H a y (j3 c9 key):=
 .inl ⟨c9,key,h,KC aL e,rfl⟩
theorem adC(a_:X.A.units+64<cLine)(aM:cg X o m)(he:cg X e mk)(hf:cg X f pD)(h2:M2 X o "get" apos e f cu:=by exact⟨rfl,rfl,rfl,rfl⟩):cg X (.Call (.Attribute o "get" apos) [e,f] [] cu) (Ib m mk pD):=
 et (Y3 (by omega) aM he hf h2) fun az H Q ⟨O,σ,S,r,aJ,st,h,q⟩=>by
  obtain⟨x,a6,aj,h⟩:=M.inv h;obtain⟨k,bS,h2,h⟩:=M.inv h;obtain⟨z,hB,bz,h⟩:=M.inv h;split at h
  ·rename_i aK fS wk _ _
   split at h
   ·rename_i key gL
    cases h;refine⟨O,σ,S,_,a6,st,aj,fun aY fy H1 g1 a3 a0 a8=>?_⟩;obtain⟨a,c9,rfl,l,pO⟩:=a0;refine⟨a,rfl,VR l,aY,σ,a6,_,bS,a3,h2,fun bt Gh aZ g2 cW bx sU=>?_⟩;refine⟨bt,σ,bS,_,_,cW,bz,fun fm agY cX g3 e_ hT vj=>?_⟩;have CK:=g2.trans g3;have Nc:=pO.go CK;refine⟨_,Ce Nc (ed.same CK.same l) (Rep.go g3 bx) gL,?_⟩;have lD:=Nc.val key;refine q fm _ cX (g1.trans CK) e_ ?_ trivial;show Rep _ _ _ _ ((h6 aK key).getD wk) _
    cases eZ:h6 aK key with
    |none=>rw[eZ]at lD;rw[lD];exact hT|some d=>rw[eZ]at lD;obtain⟨v,aH,aT⟩:=lD;rw[aH];exact aT
   ·cases h
  ·cases h
theorem SR:∀az H Q,fw K I (au q0 m mk) az H Q->N1 (fw K I m) (fw K I mk) az H Q:=by
 rintro az H Q ⟨O,σ,S,r,aJ,st,h,q⟩;obtain⟨x,a6,aj,h⟩:=M.inv h;obtain⟨k,bS,h2,h⟩:=M.inv h;unfold q0 at h;split at h
 ·rename_i aK fS
  split at h
  ·rename_i key gL
   split at h
   ·rename_i d eZ
    cases h;refine⟨O,σ,S,_,a6,st,aj,fun aY fy H1 g1 a3 a0 a8=>?_⟩;obtain⟨a,c9,rfl,l,pO⟩:=a0;refine⟨aY,σ,a6,_,_,a3,h2,fun bt Gh aZ g2 cW bx sU=>?_⟩;have Nb:=pO.go g2;have lD:=Nb.val key;rw[eZ]at lD;obtain⟨v,aH,aT⟩:=lD;exact⟨a,v,rfl,by rw[<-aH];exact Ce Nb (ed.same g2.same l) bx gL,q bt v aZ (g1.trans g2) cW aT trivial⟩
   ·cases h
  ·cases h
 ·cases h
theorem Rl(a_:X.A.units+64<cLine)(aM:cg X o m)(aC:cg X i mk)(aQ:wG i:=by exact fun _ _=>rfl):cg X (.Subscript o i pos) (au q0 m mk):=et (Y2 (by omega) aM aC aQ) SR
theorem R7(a_:X.A.units+64<cLine)(bY:X.N[j]? = some x)(bF:gT X.env.scope x)(aL:cg X i mk)(Dy:cg X value ej)(aQ:ah6 value (some (.Subscript (.Name x apos) i pos')) pos.line X.env=pure false:=by rfl)
  (hd:(x==("__debug__":Str))=false:=by decide) (dN:(x==("__classdict__":Str))=false:=by decide) :
  iM X (.Assign [.Subscript (.Name x apos) i pos'] value pos) (nH j mk ej):=g4 (Zu (by omega) (lx bY bF hd dN) aL Dy aQ)<|by
 rintro D az H ⟨O,σ,S,bO,aJ,st,h,q⟩;obtain⟨r,a6,aj,h⟩:=M.inv h;obtain⟨d,bS,h2,h⟩:=M.inv h;obtain⟨k,hB,bz,h⟩:=M.inv h;split at h
 ·rename_i aK fS iV
  split at h
  ·rename_i key gL
   by_cases c:aK.length<1000
   ·rw[if_pos c]at h
    cases h;refine⟨O,σ,S,r,a6,st,aj,fun aY v H1 g1 a3 bD nn=>?_⟩;obtain⟨e3,rfl⟩:=nK (H₀:=H) bD nn h2;have kG:=a3.cH H;have l:=kG.loc j _ iV;obtain⟨a,c9,aH,aT,dt,gY⟩:=l;have ev:az[j]? = some (some (.ref a)):=by
     cases w:az[j]? with
     |none=>rw[w]at aH;cases aH
     |some y=>rw[w]at aH;exact congrArg some aH
    refine⟨.ref a,ev,cH H aY,σ,a6,_,_,kG,bz,fun bt Gh aZ g2 cW bx sU=>?_⟩;have jl:=g2.same.at' _ _ dt;have lS:bt a=.loc j:=(g2.own a (by rw[dt];intro z;cases z)).trans aT;have I2:=gY.go g2;refine⟨a,_,rfl,by rw[KC bx gL];exact tF.k jl (by rw[I2.len];exact eJ (ahM c)),?_⟩;have l3:∀w:Own,w≠.loc j->bt a≠w:=fun w hw z=>hw (z.symm.trans lS)
    refine q bt az _ ((g1.cH.trans g2).dj.trans (dJ.gx (l3 _ (by intro z;cases z)) (l3 _ (by intro z;cases z)) jl)) (cW.gx iV aH lS jl (I2.put key (Rep.go g2 e3))) ?_;have er:j<σ.length:=(ahe.mp iV).1;exact dQ.put iV (fun xs z=>by cases z) (fun _ z=>by cases z) (fun _ _ z=>by cases z)
   ·rw[if_neg c]at h;cases h
  ·cases h
 ·cases h
end
end aN
namespace aN
open PySem PySem.Spec ak
variable[ak.a7]
section
variable{X:aS}{o i value:Expr}{m mk ej:bj}{pos pos' apos:Pos}{x:Str}{j:Nat}
theorem OC(a_:X.A.units+64<cLine)(aM:cq X o m)(aC:cq X i mk)(aQ:wG i:=by exact fun _ _=>rfl):cq X (.Subscript o i pos) (au q0 m mk):=⟨Rl a_ aM.un aC.un aQ⟩
theorem tw(a_:X.A.units+64<cLine)(bY:X.N[j]? = some x)(bF:gT X.env.scope x)(aL:cq X i mk)(Dy:cq X value ej)(aQ:ah6 value (some (.Subscript (.Name x apos) i pos')) pos.line X.env=pure false:=by rfl)
  (hd:(x==("__debug__":Str))=false:=by decide) (dN:(x==("__classdict__":Str))=false:=by decide) :
  iR X (.Assign [.Subscript (.Name x apos) i pos'] value pos) (nH j mk ej):=⟨R7 a_ bY bF aL.un Dy.un aQ hd dN⟩
end
end aN
namespace aN
open PySem PySem.Spec ak
@[simp] theorem aep:Ib m mk pD σ=(do
 let x <-m σ
 let k <-mk σ
 let z <-pD σ
 match x,k,z with
 |.eY aK,.v fS,.v wk=>match jr fS with
  |some key=>pure (.v ((h6 aK key).getD wk))|none=>bad
 | _,_,_=>bad):=rfl
@[simp] theorem ae2{i:Int}:jr (.int i)=some (.inl i):=rfl
@[simp] theorem ae3:jr (.str x)=some (.inr x):=rfl
@[simp] theorem aer{aK:List (Key×D)}:q0 (.eY aK) (.v fS)=match jr fS with
  |some key=>match h6 aK key with
   |some d=>pure (.v d)|none=>bad
  |none=>bad:=rfl
@[simp] theorem aeq{aK:List (Key×D)}:sX neg (.v fS) (.eY aK)=match jr fS with
  |some key=>pure (.v (.aB (if neg then !(h6 aK key).isSome else(h6 aK key).isSome)))|none=>bad:=rfl
@[simp] theorem aes:nH i mk ej σ=(do
 let r <-ej σ
 let d <-r.dat
 let k <-mk σ
 match σ[i]?,k with
 |some (.gj aK),.v fS=>match jr fS with
  |some key=>if aK.length<1000 then pure (.a8 (σ.set i (.gj (iU aK key d))))else bad|none=>bad
 | _,_=>bad):=rfl
end aN
namespace aN
open PySem PySem.Spec ak PyProof.Rows
noncomputable def qi(z:Str)(lo aC:Option Int):Str:=⟨(cutD z.cps.toList lo aC).toArray⟩
noncomputable def sY:R->Option Int->Option Int->M R
 |.v (.str z),lo,aC=>if z.length<=ag5 then pure (.v (.str (qi z lo aC)))else bad|_,_,_=>bad
noncomputable def gV(a:bj)(lo aC:iu):bj:=fun σ=>do
 let x <-a σ
 let l <-lo σ
 let h <-aC σ
 sY x l h
theorem part_of{o:Option Int}(h:aj7 v o):∃l:Option (Int×Tok),v=partValue l/\l.map (·.1)=o:=by
 cases h with
 |none=>exact⟨none,rfl,rfl⟩|int i t=>exact⟨some (i,t),rfl,rfl⟩
theorem Nr(n d:Nat)(hd:d<=n)(o:Option Int):cS.ct n d o<=n:=by
 unfold cS.ct
 cases o with
 |none=>exact hd|some i=>simp only[];split<;>omega
theorem Zg(z:Str)(lo aC:Option Int):(aiV lo aC 1 z.length).filterMap (fun x=>z.cps[x]?)=cutD z.cps.toList lo aC/\(aiV lo aC 1 z.length).length=cS.ct z.length z.length aC-cS.ct z.length 0 lo:=by
 obtain⟨aj,h2,bz⟩:=NK lo aC z.length;have e:aiV lo aC 1 z.length=sliceRange (ai6 lo aC none z.length).1 (ai6 lo aC none z.length).2.1 1:=rfl;rw[e,aj,h2,sliceRange_one];refine⟨?_,by rw[ag4,akX]⟩;rw[pick_run];unfold cutD;rw[show z.cps.toList.length=z.length from aiv]
theorem Sr{z:Str}{lo aC:Option Int}(h:cS.ct z.length z.length aC-cS.ct z.length 0 lo=z.length):qi z lo aC=z:=by
 have aj:=Nr z.length 0 (ahC _) lo;have h2:=Nr z.length z.length (ahg _) aC;have z4:z.cps.toList.length=z.length:=aiv;unfold qi cutD;rw[z4];have ax:cS.ct z.length 0 lo=0\/z.length=0:=by omega
 have:(z.cps.toList.drop (cS.ct z.length 0 lo)).take (cS.ct z.length z.length aC-cS.ct z.length 0 lo)=z.cps.toList:=by
  rcases ax with ax | ax
  ·rw[ax,aj0,ah7 (by omega)]
  ·have:z.cps.toList=[]:=akt (by omega)
   rw[this];simp
 rw[this]
theorem Sq(z:Str)(lo aC:Option Int):(qi z lo aC).length<=z.length:=by
 show(cutD z.cps.toList lo aC).toArray.size<=z.cps.size;rw[ahk];unfold cutD;rw[ah9,ahz,aiv];omega
theorem aa3:nD X (fun x lo aC H Q=>∃z,x=.str z/\z.length<=ag5/\Q (.str (qi z lo aC)) H):=by
 intro ae s σ H x v gd gf lo aC c6 Q J a0 aQ dp pu ⟨z,ex,aX,q⟩;subst ex;obtain⟨t,rfl⟩:=a0;obtain⟨l,rfl,el⟩:=part_of dp;obtain⟨u,rfl,qm⟩:=part_of pu;refine⟨"str",_,slot_str_getitem.lookup,ajY s z t,?_⟩;refine wpAny_getItem_str_slice (l:=l) (u:=u) (st:=none) aQ rfl ?_;obtain⟨dy,cR⟩:=Zg z lo aC;have ei:slicePicked z l u none=aiV lo aC 1 z.length:=by
  unfold slicePicked;rw[el,qm];rfl
 unfold sliceMade;rw[ei,cR]
 by_cases c:cS.ct z.length z.length aC-cS.ct z.length 0 lo=z.length
 ·rw[if_pos (by simp[c])]
  rw[Sr c]at q;exact⟨.str z,H,J,⟨t,rfl⟩,q⟩
 ·rw[if_neg (by simp[c])]
  show _<=ag5/\_;rw[dy];refine⟨ahL (Sq z lo aC) aX,.str (qi z lo aC),H,?_,⟨s.toks,rfl⟩,q⟩;exact J.kept (t':=s.toks+1) fun b o e=>e
variable[ak.a7]
section
variable{X:aS}{e:Expr}{m:bj}{lo aC:Option Expr}{hk i0:iu}{pos cR:Pos}
theorem Ry(he:cg X e m)(ao:nk X lo hk)(a_:nk X aC i0):cg X (.Subscript e (.Slice lo aC none cR) pos) (gV m hk i0):=et (EJ aa3 he ao a_)<|by
 rintro az H Q ⟨O,σ,S,r,aJ,st,h,q⟩;obtain⟨x,a6,aj,ax⟩:=M.inv h;clear h;obtain⟨l,bS,h2,U⟩:=M.inv ax;clear ax;obtain⟨u,hB,bz,h⟩:=M.inv U;clear U;refine⟨O,σ,S,x,a6,st,aj,fun aY fy H1 g1 a3 a0 a8=>?_⟩;refine⟨aY,σ,a6,l,bS,a3,h2,fun bt aZ g2 cW=>?_⟩;refine⟨bt,σ,bS,u,hB,cW,bz,fun fm cX g3 e_=>?_⟩;have g:=(g1.trans g2).trans g3;unfold sY at h;split at h
 ·rename_i z
  by_cases c:z.length<=ag5
  ·rw[if_pos c]at h
   cases h;cases(show fy=.str z from a0);exact⟨z,rfl,c,q fm _ cX g e_ rfl trivial⟩
  ·rw[if_neg c]at h;cases h
 ·cases h
theorem nh(he:cq X e m)(ao:oI X lo hk)(a_:oI X aC i0):cq X (.Subscript e (.Slice lo aC none cR) pos) (gV m hk i0):=⟨Ry he.un ao.un a_.un⟩
end
omit [ak.a7]in
@[simp] theorem afP{a:bj}{lo aC:iu}{σ:a9}:gV a lo aC σ=(do
 let x <-a σ
 let l <-lo σ
 let h <-aC σ
 sY x l h):=rfl
omit [ak.a7]in
@[simp] theorem af2{z:Str}{lo aC:Option Int}:sY (.v (.str z)) lo aC=if z.length<=ag5 then pure (.v (.str (qi z lo aC)))else bad:=rfl
end aN
namespace aN
open PySem PySem.Spec ak PyProof.Rows
noncomputable def t6(i:Nat)(fs:List (Str×b8))(ms:cQ):bj:=fun σ=>match σ[i]? with
 |some (.val (.fn f))=>match fs.lookup f with
  |some bg=>b4 bg ms σ|none=>bad
 |_=>bad
variable[ak.a7]
omit [ak.a7]in
theorem lookup_all{α β:Type}[BEq α][LawfulBEq α]{P:α->β->Prop}:∀{l:List (α×β)},(∀x∈l,P x.1 x.2)->∀a b,l.lookup a=some b->P a b
 | [],_,_,_,h=>by cases h
 |(c,d)::l,aP,a,b,h=>by
  rw[ah1]at h;split at h
  ·rename_i e
   cases h;rw[eq_of_beq e];exact aP _ ahb
  ·exact lookup_all (fun x av=>aP x (ahc _ av)) a b h
omit [ak.a7]in
@[simp] theorem ad7{fs:List (Str×b8)}:t6 i fs ms σ=match σ[i]? with
 |some (.val (.fn f))=>match fs.lookup f with
  |some bg=>b4 bg ms σ|none=>bad
 |_=>bad:=rfl
omit [ak.a7]in
@[simp] theorem afW:e9 (.fn f)=.val (.fn f):=rfl
end aN
namespace aN
open PySem PySem.Spec ak PyProof.Rows PySem.W
variable[ak.a7]
section
omit [ak.a7]
@[simp] theorem aei{aK:List (jB×D)}:qh (some (.kE aK))=.j4 aK:=rfl
end
end aN
namespace aN
open PySem PySem.Spec ak
section
variable{P:List Value->Prop}
theorem eu(h:∀a,P [a]):∀us:List Value,us.length=1->P us
 |[_],_=>h _
theorem j2(h:∀a b,P [a,b]):∀us:List Value,us.length=2->P us
 |[_,_],_=>h _ _
theorem zQ(h:∀a b c,P [a,b,c]):∀us:List Value,us.length=3->P us
 |[_,_,_],_=>h _ _ _
theorem Oh(h:∀a b c d,P [a,b,c,d]):∀us:List Value,us.length=4->P us
 |[_,_,_,_],_=>h _ _ _ _
end
end aN
namespace aN
open PySem PySem.Spec ak
variable[ak.a7]
noncomputable def pg(H:aI)(a:Addr)(n:Nat):Option V:=match H a with
 |some (.lst ys)=>ys[n]?|some (.tup ys)=>ys[n]?|some (.d2 aK)=>aK[n]?.map (·.2)|some (.ins _ _ fs)=>fs[n]?.map (·.2)|_=>none
theorem pg.same(s:dw H aa)(h:pg H a n=some y):pg aa a n=some y:=by
 unfold pg at h;split at h
 ·rename_i ys e;unfold pg;rw[s.at' _ _ e];exact h
 ·rename_i ys e;unfold pg;rw[s.at' _ _ e];exact h
 ·rename_i ys e;unfold pg;rw[s.at' _ _ e];exact h
 ·rename_i e;unfold pg;rw[s.at' _ _ e];exact h
 ·cases h
section
variable{K:a4}{I:br}{O aD:b9}{H aa:aI}{w dz:Own}
theorem eQ.len:∀{cc:List h3}{ys:List V}{p:List Nat}{n:Nat},eQ K I O H w p n cc ys->ys.length=cc.length
 | [],_,_,_,h=>by cases h;rfl
 | _::_,_,_,_,h=>by obtain⟨y,r,rfl,_,b⟩:=h;rw[ahj,ahj,eQ.len b]
mutual
theorem jh.oL(f:∀d v,Rep K I O H d v->Rep K I aD aa d v):∀(t:h3){p ia:List Nat}{v:V},(∀(a:Addr)(u:eW)(r:List Nat),O a=w.at (p++r)->H a=some u->h_ u->aD a=dz.at (ia++r)/\aa a=some u)->jh K I O H w p t v->jh K I aD aa dz ia t v
 |.lf _,_,_,_,_,h=>f _ _ h|.ls cc,p,ia,_,g,h=>by
  obtain⟨a,ys,e,o,l,r⟩:=h;obtain⟨c_,js⟩:=g a _ [] (by rw[ahl];exact o) l trivial;exact⟨a,ys,e,by rw[ahl]at c_;exact c_,js,eQ.oL f cc g r⟩
 |.mE _ cc,p,ia,_,g,h=>by
  obtain⟨a,ys,e,o,l,q,r⟩:=h;obtain⟨c_,js⟩:=g a _ [] (by rw[ahl];exact o) l trivial;exact⟨a,ys,e,by rw[ahl]at c_;exact c_,js,q,eQ.oL f cc g r⟩
 |.cL _ _ cc,p,ia,_,g,h=>by
  obtain⟨a,C,jG,ys,e,o,l,q,r⟩:=h;obtain⟨c_,js⟩:=g a _ [] (by rw[ahl];exact o) l trivial;exact⟨a,C,jG,ys,e,by rw[ahl]at c_;exact c_,js,q,eQ.oL f cc g r⟩
 |.any,_,_,_,_,_=>trivial|.kI cc,p,ia,_,g,h=>by
  obtain⟨a,ys,e,o,l,r⟩:=h;obtain⟨c_,js⟩:=g a _ [] (by rw[ahl];exact o) l trivial;exact⟨a,ys,e,by rw[ahl]at c_;exact c_,js,eQ.oL f cc g r⟩
theorem eQ.oL(f:∀d v,Rep K I O H d v->Rep K I aD aa d v):∀(cc:List h3){p ia:List Nat}{n:Nat}{ys:List V},(∀(a:Addr)(u:eW)(r:List Nat),O a=w.at (p++r)->H a=some u->h_ u->aD a=dz.at (ia++r)/\aa a=some u)->eQ K I O H w p n cc ys->eQ K I aD aa dz ia n cc ys
 |[],_,_,_,_,_,h=>h|t::cc,_,_,n,_,g,h=>by
  obtain⟨y,r,e,a,b⟩:=h;refine⟨y,r,e,jh.oL f t (fun a u q o l z=>?_) a,eQ.oL f cc g b⟩;rw[aht]at o ⊢;exact g a u _ o l z
end
theorem eQ.kids(f:∀d v,Rep K I O H d v->Rep K I aD aa d v):∀{cc:List h3}{ys:List V}{p:List Nat}{n:Nat},
  (∀(a:Addr)(u:eW)(j:Nat)(r:List Nat),O a=w.at (p++j::r)->H a=some u->h_ u->aD a=w.at (p++j::r)/\aa a=some u)->eQ K I O H w p n cc ys->eQ K I aD aa w p n cc ys
 |[],_,_,_,_,h=>h|t::cc,_,_,n,g,h=>by
  obtain⟨y,r,e,a,b⟩:=h;refine⟨y,r,e,jh.oL f t (fun a u q o l z=>?_) a,eQ.kids f g b⟩;rw[aht]at o ⊢;exact g a u n q o l z
end
theorem dP.upd{H:aI}(d:dP O H)(dT:H a=some u)(aj:∀ps,u≠.ho ps)(h2:∀q,u≠.ext (xm a q)):dP O (upd H a hs):=⟨fun b U=>by
 by_cases e:b=a
 ·rw[e,eb];intro z;cases z
 ·rw[cP e];exact d.has b U,d.tabs.put hs (fun ps z=>aj ps (ahx (dT.symm.trans z))) (fun q z=>h2 q (ahx (dT.symm.trans z)))⟩
noncomputable abbrev lK:=a9->M h3
noncomputable abbrev nz:=a9->M (List h3)
noncomputable def Oa(K:a4)(I:br)(j:Nat)(p:List Nat)(m:lK):TE:=fun az H Q=>∃O σ S t aJ,cj K I O σ S az H/\(m σ).run S=.ok t aJ/\∀aD v aa,Go O aD H aa->cj K I aD σ aJ az aa->jh K I aD aa (.loc j) p t v->Q v aa
noncomputable def abZ(K:a4)(I:br)(j:Nat)(p:List Nat)(n:Nat)(m:nz):f3:=fun az H Q=>∃O σ S cc aJ,cj K I O σ S az H/\(m σ).run S=.ok cc aJ/\∀aD ar aa,Go O aD H aa->cj K I aD σ aJ az aa->eQ K I aD aa (.loc j) p n cc ar->Q ar aa
abbrev tE(X:aS)(j:Nat)(p:List Nat)(e:Expr)(m:lK):Prop:=b3 X e (Oa X.K X.I j p m)
noncomputable def ts(m:bj):lK:=fun σ=>do
 let r <-m σ
 let d <-r.dat
 pure (.lf d)
noncomputable def zS:nz:=fun _=>pure []
noncomputable def tr(m:lK)(ms:nz):nz:=fun σ=>do
 let t <-m σ
 let cc <-ms σ
 pure (t::cc)
section
variable{H:aI}
theorem aaw{H1 H:aI}(ax:H1 a=none)(s:dw H1 H)(a_:H a=some u)(aj:∀ps,u≠.ho ps)(h2:∀q,u≠.ext (xm a q))(o:eW):dw H1 (upd H a o):=
 ⟨fun b v e n=>by rw[cP (l2 e ax)];exact s.at' b v e n,fun b ps e=>by rw[cP (l2 e ax)];exact s.cJ b ps e,fun g=>(s.cI g).put o (fun ps z=>aj ps (ahx (a_.symm.trans z))) (fun q z=>h2 q (ahx (a_.symm.trans z)))⟩
end
section
variable{X:aS}{e:Expr}{m:bj}{mt:lK}{ms:nz}{pos:Pos}{j:Nat}{p:List Nat}{n:Nat}
theorem Sw(h:cg X e m):tE X j p e (ts m):=et h<|by
 rintro az H Q ⟨O,σ,S,t,aJ,st,h,q⟩;obtain⟨r,a6,aj,h⟩:=M.inv h;obtain⟨d,bS,h2,h⟩:=M.inv h;cases h;refine⟨O,σ,S,r,a6,st,aj,fun aY v H1 g1 a3 bD nn=>?_⟩;obtain⟨e3,rfl⟩:=nK (H₀:=H) bD nn h2;exact q (cH H aY) v H1 g1.cH (a3.cH H) e3
structure oA(X:aS)(pos:Pos)(j:Nat)(p:List Nat)(n:Nat)(keys:List (Option Expr))(values:List Expr)(bw:List Key)(ms:nz):Prop where
 ex:∃j1,tQ X pos keys values j1/\∀az H (Q:List (V×V)->aI->Prop),abZ X.K X.I j p n ms az H (fun ar aa=>Q ((bw.zip ar).map fun dk=>(d5 dk.1,dk.2)) aa)->vS j1 az H Q
theorem Q':oA X pos j p n [] [] [] zS:=⟨[],Zt,fun az H Q ⟨O,σ,S,r,aJ,st,h,q⟩=>by
 cases h;exact q O [] H (Go.refl _ _) st rfl⟩
theorem Q_{key:Str}{i:Nat}{Mg:Pos}(bF:tE X j (p++[n]) v mt)(ay:oA X pos j p (n+1) keys values bw ms) :
  oA X pos j p n (some (.Constant (.str key) i Mg)::keys) (v::values) (.inr key::bw) (tr mt ms):=by
 obtain⟨j1,aj,h2⟩:=ay.ex;refine⟨_,Zs Mu bF aj,fun az H Q ⟨O,σ,S,r,aJ,st,h,q⟩=>?_⟩;obtain⟨t,a6,aH,h⟩:=M.inv h;obtain⟨cc,bS,aT,h⟩:=M.inv h;cases h;show Oa _ _ _ _ _ az H fun y aZ=>vS j1 az aZ fun ps cX=>Q ((V.str key,y)::ps) cX
 refine⟨O,σ,S,t,a6,st,aH,fun aY y H1 g1 a3 fi=>h2 _ _ _ ?_⟩;exact⟨aY,σ,a6,cc,_,a3,aT,fun bt ar aZ g2 cW ta=>q bt (y::ar) aZ (g1.trans g2) cW ⟨y,ar,rfl,fi.go g2,ta⟩⟩
noncomputable def zR(bw:List Key)(ms:nz):lK:=fun σ=>do
 let cc <-ms σ
 eS (cc.length=bw.length)
 pure (.mE bw cc)
theorem Lq:∀{bw:List Key}{ar:List V}{aK:List (Key×V)},bw.Nodup->bw.length=ar.length->(∀k∈bw,∀p∈aK,p.1≠k)->pB aK (bw.zip ar)=aK++bw.zip ar
 |[],ar,aK,_,_,_=>by
  show aK=aK++_;rw[List.zip_nil_left,ahl]
 | _::_,[],_,_,h,_=>by simp at h|k::bw,v::ar,aK,bW,ao,aR=>by
  have aH:putK aK k v=aK++[(k,v)]:=by
   unfold putK;rw[if_neg];rw[aiK];rintro⟨p,aP,e⟩;exact aR k (ahb ..) p aP (by simpa using e)
  show pB (putK aK k v) (bw.zip ar)=_;rw[aH,Lq (ajk.mp bW).2 (by simpa using ao),aht]
  ·rfl
  ·intro hj uQ p aP
   rcases ahI.mp aP with aP | aP
   ·exact aR hj (ahc _ uQ) p aP
   ·rw[ahJ]at aP
    subst aP;rintro rfl;exact(ajk.mp bW).1 uQ
theorem Sv{keys:List (Option Expr)}{values:List Expr}{bw:List Key}(h:oA X pos j p 0 keys values bw ms)(hall:keys.all (·.isSome)=true:=by rfl)(ao:keys.length=values.length:=by rfl)(h0:keys≠[]:=by simp)(uD:keys.length<=15:=by decide)
  (aL:bw.Nodup/\bw.length<=15:=by decide +kernel):tE X j p (.Dict keys values pos) (zR bw ms):=by
 obtain⟨j1,aj,h2⟩:=h.ex;refine et (Y4 aj hall ao h0 uD) fun az H Q ⟨O,σ,S,t,aJ,st,h,q⟩ a ax=>h2 _ _ _ ?_
 obtain⟨cc,a6,aH,h⟩:=M.inv h;obtain⟨_,bS,aT,h⟩:=M.inv h;obtain⟨hlen,rfl⟩:=mD aT;cases h;refine⟨g5 O a (.fi j p),σ,S,cc,_,st.new ax,aH,fun bt ar aZ g2 cW ta=>?_⟩;have x8:aZ a=some (.d2 []):=g2.same.at' _ _ eb;have h7:bw.length=ar.length:=by rw[ta.len,hlen]
 have hm:pB [] (bw.zip ar)=bw.zip ar:=Lq aL.1 h7 (fun _ _ p aP=>by cases aP);refine⟨x8,bw.zip ar,rfl,by rw[akn];omega,?_⟩;rw[hm];have n8:bt a=.fi j p:=(g2.own a (by rw[eb];intro z;cases z)).trans om;have tn:dw H (upd aZ a (.d2 (bw.zip ar))):=aaw ax ((i4 ax _).trans g2.same) x8 (by intro ps z;cases z) (by intro q z;cases z) _;have go:Go O bt H (upd aZ a (.d2 (bw.zip ar))):=⟨tn,fun b U=>by
  have nb:b≠a:=by rintro rfl;exact U ax
  rw[g2.own b (by rw[cP nb];exact U),mg nb]⟩
 have gW:dP bt (upd aZ a (.d2 (bw.zip ar))):=cW.dh.upd x8 (by intro ps z;cases z) (by intro q z;cases z);have e_:=st.go go gW;rw[st.emp,<-cW.emp]at e_;refine q bt _ _ go e_ ⟨a,ar,rfl,n8,eb,⟨h7,aL.1⟩,eQ.kids (fun _ _ z=>Rep.gx x8 z) (fun b u i r cL U _=>⟨cL,?_⟩) ta⟩;rw[cP]
 ·exact U
 ·rintro rfl
  rw[n8]at cL;have:=congrArg ai5 (show p=p++i::r by injection cL);rw[ag3,ahj]at this;omega
end
end aN
namespace aN
open PySem PySem.Spec ak
section
variable[ak.a7](X:aS)
structure wU(j:Nat)(p:List Nat)(e:Expr)(m:lK):Prop where
 un:tE X j p e m
end
section
variable[ak.a7]
variable{X:aS}{e:Expr}{m:bj}{j:Nat}{p:List Nat}
theorem Gu(h:cq X e m):wU X j p e (ts m):=⟨Sw h.un⟩
end
section
variable[ak.a7]
variable{X:aS}{pos:Pos}{j:Nat}{p:List Nat}{n:Nat}
theorem acb :oA X pos j p n [] [] [] zS:=Q'
end
section
variable[ak.a7]
variable{X:aS}{mt:lK}{ms:nz}{pos:Pos}{j:Nat}{p:List Nat}{n:Nat}
theorem Gl(bF:wU X j (p++[n]) v mt)(ay:oA X pos j p (n+1) keys values bw ms):oA X pos j p n (some (.Constant (.str key) i Mg)::keys) (v::values) (.inr key::bw) (tr mt ms):=Q_ bF.un ay
end
section
variable[ak.a7]
variable{X:aS}{ms:nz}{pos:Pos}{j:Nat}{p:List Nat}
theorem acR{keys:List (Option Expr)}{values:List Expr}{bw:List Key}(h:oA X pos j p 0 keys values bw ms)(hall:keys.all (·.isSome)=true:=by rfl)(ao:keys.length=values.length:=by rfl)(h0:keys≠[]:=by simp)(uD:keys.length<=15:=by decide)(aL:bw.Nodup/\bw.length<=15:=by decide +kernel):wU X j p (.Dict keys values pos) (zR bw ms):=⟨Sv h hall ao h0 uD aL⟩
end
@[simp] theorem agb:ts m σ=(do
 let r <-m σ
 let d <-r.dat
 pure (.lf d)):=rfl
@[simp] theorem agc:zS  σ=(pure []):=rfl
@[simp] theorem af9:tr m ms σ=(do
 let t <-m σ
 let cc <-ms σ
 pure (t::cc)):=rfl
@[simp] theorem aga:zR bw ms σ=(do
 let cc <-ms σ
 eS (cc.length=bw.length)
 pure (.mE bw cc)):=rfl
def fK(b:Bool)(h:Heap)(i l:Addr)(k:Nat):Prop:=match b with
 |true=>h.IsTupleIter i l k|false=>h.IsListIter i l k
def iQ(b:Bool)(h:Heap)(l:Addr)(xs:Array Value):Prop:=match b with
 |true=>h.IsTuple l xs|false=>h.IsList l xs
theorem fK.extBut(x:fK b h a l i)(aQ:Heap.ExtBut c h h')(uJ:a≠c):fK b h' a l i:=by
 cases b with
 |true=>exact Heap.IsTupleIter.extBut x aQ uJ|false=>exact Heap.IsListIter.extBut x aQ uJ
theorem iQ.extBut(x:iQ b h a xs)(aQ:Heap.ExtBut c h h')(uJ:a≠c):iQ b h' a xs:=by
 cases b with
 |true=>exact Heap.IsTuple.extBut x aQ uJ|false=>exact Heap.IsList.extBut x aQ uJ
theorem fK.obj{h:Heap}(x:fK b h a l i):∃o ar,h.get? a=some o/\o.data=.fields ar:=by
 cases b with
 |true=>obtain⟨o,e,_,d⟩:=x;exact⟨o,_,e,d⟩
 |false=>obtain⟨o,e,_,d⟩:=x;exact⟨o,_,e,d⟩
theorem fK.at'{h h':Heap}(x:fK b h a l i)(k:∀o,h.get? a=some o->h'.get? a=some o):fK b h' a l i:=by
 cases b with
 |true=>obtain⟨o,e,r⟩:=x;exact⟨o,k o e,r⟩
 |false=>obtain⟨o,e,r⟩:=x;exact⟨o,k o e,r⟩
theorem iQ.obj{h:Heap}(x:iQ b h a xs):∃o n,h.get? a=some o/\o.data=.seq xs n:=by
 cases b with
 |true=>obtain⟨o,e,_,n,d⟩:=x;exact⟨o,n,e,d⟩
 |false=>obtain⟨o,e,_,n,d⟩:=x;exact⟨o,n,e,d⟩
section
variable{prog:ahq}{w:World}{A:ahX}{E:dc}{s:ag9}
theorem El{b:Bool}{it l:Addr}{i:Nat}{items:Array Value}{x:Value}{Q:dc}(hit:fK b s.heap it l i)(ao:iQ b s.heap l items)(av:items[i]? = some x)
  (jm:∀h',fK b h' it l (i+1)->aju it s.heap h'->Q x { s with heap:=h' }):wpAny (model prog w) A (ah5 (.ref it)) Q E s:=by
 cases b with
 |false=>exact wpAny_nextOf_list_item hit ao av jm|true=>
  have hit:s.heap.IsTupleIter it l i:=hit;obtain⟨o,aM,aA,hd⟩:=id hit;obtain⟨ol,Ds,_,nl,Dl⟩:=ao;unfold ah5;refine ag2 (aiH (name:=ah2 "__next__") hit.typeIs ai1 (ajb ai1 hit.typeIs akJ ?_ (akw _)));show wpAny _ _ (field (.ref it) 0 >>= _) _ _ s;refine ag2 (ahQ aM hd (x:=.ref l) rfl ?_);show wpAny _ _ (if(ahy l==ahT)=true then _ else _) _ _ s;rw[if_neg (show ¬((ahy l==ahT)=true)from ahd)];show wpAny _ _ (field (.ref it) 1 >>= _) _ _ s;refine ag2 (ahQ aM hd (x:=.int i 0) rfl ?_);show wpAny _ _ (seqItems? (.ref l) >>= _) _ _ s;refine ag2 (aiS Ds Dl ?_);simp only[akW,av];refine ag2 (ai9 aM hd (by simp) (ahh ⟨x,rfl,ahh (jm _ ?_ (alR ..))⟩));exact⟨_,ajw _ aM (ajx (aiL hd _)),(Obj.cls_mapFields ..).trans aA,by rw[aiL hd];simp[aip]⟩
theorem LL{b:Bool}{it l:Addr}{i:Nat}{items:Array Value}{Q:dc}(gn:A.handled=none)(hit:fK b s.heap it l i)(ao:iQ b s.heap l items)(av:items[i]? = none)
  (k8:∀h' e,Heap.ExtBut it s.heap h'->(∃o,h'.get? e=some o/\o.cls=.type "StopIteration")->E (.ref e) { s with heap:=h' }):wpAny (model prog w) A (ah5 (.ref it)) Q E s:=by
 cases b with
 |false=>exact wpAny_nextOf_list_end gn hit ao av k8|true=>
  have hit:s.heap.IsTupleIter it l i:=hit;obtain⟨o,aM,aA,hd⟩:=id hit;obtain⟨ol,Ds,_,nl,Dl⟩:=ao;unfold ah5;refine ag2 (aiH (name:=ah2 "__next__") hit.typeIs ai1 (ajb ai1 hit.typeIs akJ ?_ (akw _)));show wpAny _ _ (field (.ref it) 0 >>= _) _ _ s;refine ag2 (ahQ aM hd (x:=.ref l) rfl ?_);show wpAny _ _ (if(ahy l==ahT)=true then _ else _) _ _ s;rw[if_neg (show ¬((ahy l==ahT)=true)from ahd)];show wpAny _ _ (field (.ref it) 1 >>= _) _ _ s;refine ag2 (ahQ aM hd (x:=.int i 0) rfl ?_);show wpAny _ _ (seqItems? (.ref l) >>= _) _ _ s;refine ag2 (aiS Ds Dl ?_);simp only[akW,av];refine ag2 (wpAny_rule (ag2 (ai9 aM hd (by simp) ?_)));show wpAny _ _ (newExc (.type "StopIteration") [] >>= _) _ _ _;refine ag2 ?_;simp only[newExc,newTuple];refine ag2 (aiu ?_ (by size_fits));refine ag2 (m:=firstArgMember _ _) (wpAny_of_eq (a:=ahT) (by first | rfl | (simp only[firstArgMember];rfl)) ?_);refine aiu ?_ (by size_fits);simp only[raiseNew];refine ag2 (wpAny_handled ?_)
  first | rw[show A.in1.handled=none from gn] | rw[gn]
  refine ag2 (ahh (wpAny_throw ?_));exact k8 _ _ (((alR ..).extBut.push _).push _) ⟨_,aho _ rfl,rfl⟩
end
section
variable{prog:ahq}{w:World}{A:ahX}{E:dc}{s:ag9}
theorem adn{cx cG:Bool}{z TI dR fc fe bP cE:Addr}{k1 k2:Nat}{xs ys:Array Value}{x y a b:Value}{Q:Option Value->ag9->Prop}(D:ZipApart z TI dR fc fe bP cE)
  (aX:IsZip s.heap z TI dR .none) (kq:aje s.heap TI (.ref fc) (.ref fe)) (k':aje s.heap dR a b)
  (aj:fK cx s.heap fc bP k1) (h2:fK cG s.heap fe cE k2) (iY:iQ cx s.heap bP xs) (h7:iQ cG s.heap cE ys) (av:xs[k1]? = some x) (bo:ys[k2]? = some y)
  (jm:∀h',IsZip h' z TI dR (aip s.heap.objs.size)->aje h' dR x y->fK cx h' fc bP (k1+1)->fK cG h' fe cE (k2+1)->aje h' s.heap.objs.size x y->
   (∀c o,c≠z->c≠dR->c≠fc->c≠fe->s.heap.get? c=some o->h'.get? c=some o)->Q (some (.ref s.heap.objs.size)) { s with heap:=h' }) :
  wpAny (model prog w) A (pyNext (.ref z)) Q E s:=by
 have dn:s.TypeIs (.ref z) "zip":=⟨_,aX,rfl⟩;unfold pyNext;refine ag2 (wpAny_attempt (aiH (name:=ah2 "__next__") dn ako (ajb ako dn F.entry_zip_next ?_ (F.args_zip_next_1 _))));show wpAny _ _ (field (.ref z) 2 >>= _) _ _ _;refine ag2 (ahQ aX rfl (x:=.bool false) rfl ?_);show wpAny _ _ (field (.ref z) 3 >>= _) _ _ _;refine ag2 (ahQ aX rfl (x:=.ref TI) rfl ?_);refine ag2 (aiS kq rfl ?_);show wpAny _ _ (aiF (.ref z) >>= _) _ _ _;refine ag2 ?_;unfold aiF;refine ag2 (ahQ aX rfl (x:=.none) rfl (ahh ?_));simp only[if_true];refine ag2 (wpAny_rule ?_);refine ag2 (ahQ aX rfl (x:=.ref dR) rfl ?_);refine ag2 (aiW aX (by simp) fun eA pa gN=>?_)
 replace pa:IsZip eA z TI dR .ellipsis:=pa
 refine ag2 ?_;simp only[List.zipIdx_cons,List.zipIdx_nil,ajl,List.forIn_nil];refine ag2 (ag2 (akf ?_));show wpAny _ _ (ah5 (.ref fc) >>= _) _ _ _;refine ag2 (El (aj.extBut gN.extBut D.i1z) (iY.extBut gN.extBut D.l1z) av fun kv Jw jo=>ahh ?_);have uI:aje kv dR a b:=jo.extBut _ _ D.TOi1 (gN.extBut _ _ D.TOz k');refine ag2 (aiS uI rfl ?_);refine ag2 (akp uI fun lg x6 jO=>?_)
 replace x6:aje lg dR x b:=x6
 refine ag2 (wpAny_letGo (ahh ?_));refine ag2 (ag2 (akf ?_));show wpAny _ _ (ah5 (.ref fe) >>= _) _ _ _;refine ag2 (El (((h2.extBut gN.extBut D.i2z).extBut jo.extBut D.i12.symm).extBut jO.extBut D.TOi2.symm)
  (((h7.extBut gN.extBut D.l2z).extBut jo.extBut D.l2i1).extBut jO.extBut D.l2TO) bo fun qJ TX o_=>ahh ?_)
 have Jz:aje qJ dR x b:=o_.extBut _ _ D.TOi2 x6;refine ag2 (aiS Jz rfl ?_);refine ag2 (akp Jz fun hi x7 o'=>?_)
 replace x7:aje hi dR x y:=x7
 refine ag2 (wpAny_letGo (ahh (ahh ?_)));refine ag2 (aiS x7 rfl ?_);refine ag2 (wpAny_newTuple ?_);have hsz:hi.objs.size=s.heap.objs.size:=by rw[o'.1,o_.1,jO.1,jo.1,gN.1]
 have J8:IsZip hi z TI dR .ellipsis:=o'.extBut _ _ D.TOz.symm (o_.extBut _ _ D.i2z.symm (jO.extBut _ _ D.TOz.symm (jo.extBut _ _ D.i1z.symm pa)));have U7:∀c o,c≠z->c≠dR->c≠fc->c≠fe->s.heap.get? c=some o->hi.get? c=some o:=fun c o cy au d1 mB e=>
  o'.extBut _ _ au (o_.extBut _ _ mB (jO.extBut _ _ au (jo.extBut _ _ d1 (gN.extBut _ _ cy e))))
 have TV:fK cx hi fc bP (k1+1):=((Jw.extBut jO.extBut D.TOi1.symm).extBut o_.extBut D.i12).extBut o'.extBut D.TOi1.symm;have TY:fK cG hi fe cE (k2+1):=TX.extBut o'.extBut D.TOi2.symm;have J5:z<hi.objs.size:=ahf J8;show wpAny _ _ (ajV (.ref z) (.ref hi.objs.size) >>= _) _ _ _;refine ag2 ?_;unfold ajV;have Vz:IsZip (hi.push { cls:=.type "tuple",data:=.seq #[x,y] }) z TI dR .ellipsis:=ag8 _ J8;refine ag2 (aiW Vz (by simp) fun VA DC J0=>?_)
 replace DC:IsZip VA z TI dR (aip hi.objs.size):=DC
 refine aiW DC (by simp) fun yl yk J1=>?_
 replace yk:IsZip yl z TI dR (aip hi.objs.size):=yk
 have up:∀c o,c≠z->hi.get? c=some o->yl.get? c=some o:=fun c o cy e=>J1.extBut _ _ cy (J0.extBut _ _ cy (ag8 _ e))
 have JA:aje yl hi.objs.size x y:=J1.extBut _ _ (alb J5) (J0.extBut _ _ (alb J5) (aho _ rfl));rw[hsz]at yk JA;refine ahh ⟨_,rfl,?_⟩;show wpAny _ _ (pure (some (ahy hi.objs.size))) _ _ _;rw[hsz];exact ahh (jm yl yk (up _ _ D.TOz x7) (TV.at' fun o e=>up _ o D.i1z e) (TY.at' fun o e=>up _ o D.i2z e) JA fun c o cy au d1 mB e=>up c o cy (U7 c o cy au d1 mB e))
theorem adm{cx cG:Bool}{z TI dR fc fe bP cE:Addr}{k1 k2:Nat}{xs ys:Array Value}{a b:Value}{Q:Option Value->ag9->Prop}(gn:A.handled=none)(D:ZipApart z TI dR fc fe bP cE)
  (aX:IsZip s.heap z TI dR .none) (kq:aje s.heap TI (.ref fc) (.ref fe)) (k':aje s.heap dR a b)
  (aj:fK cx s.heap fc bP k1) (h2:fK cG s.heap fe cE k2) (iY:iQ cx s.heap bP xs) (h7:iQ cG s.heap cE ys) (UR:xs[k1]? = none\/ys[k2]? = none)
  (jm:∀h',(∀c o,c≠z->c≠dR->c≠fc->c≠fe->s.heap.get? c=some o->h'.get? c=some o)->Q none { s with heap:=h' }):wpAny (model prog w) A (pyNext (.ref z)) Q E s:=by
 have dn:s.TypeIs (.ref z) "zip":=⟨_,aX,rfl⟩;have fin:∀h' e,(∀c o,c≠z->c≠dR->c≠fc->c≠fe->s.heap.get? c=some o->h'.get? c=some o)->(∃o,h'.get? e=some o/\o.cls=.type "StopIteration")->
   wpAny (model prog w) A (do
    if <-isInstance (.ref e) (.type "StopIteration")then pure none else throw (.ref e)) Q E { s with heap:=h' }:=fun h' e aL ⟨o,aM,aA⟩=>by
  refine ag2 (wpAny_isInstance (T:="StopIteration") (b:=true) ⟨o,aM,aA⟩ isSubtype_stop ?_);exact ahh (jm _ aL)
 unfold pyNext;refine ag2 (wpAny_attempt (aiH (name:=ah2 "__next__") dn ako (ajb ako dn F.entry_zip_next ?_ (F.args_zip_next_1 _))));show wpAny _ _ (field (.ref z) 2 >>= _) _ _ _;refine ag2 (ahQ aX rfl (x:=.bool false) rfl ?_);show wpAny _ _ (field (.ref z) 3 >>= _) _ _ _;refine ag2 (ahQ aX rfl (x:=.ref TI) rfl ?_);refine ag2 (aiS kq rfl ?_);show wpAny _ _ (aiF (.ref z) >>= _) _ _ _;refine ag2 ?_;unfold aiF;refine ag2 (ahQ aX rfl (x:=.none) rfl (ahh ?_));simp only[if_true];refine ag2 (wpAny_rule ?_);refine ag2 (ahQ aX rfl (x:=.ref dR) rfl ?_);refine ag2 (aiW aX (by simp) fun eA pa gN=>?_)
 replace pa:IsZip eA z TI dR .ellipsis:=pa
 refine ag2 ?_;simp only[List.zipIdx_cons,List.zipIdx_nil,ajl,List.forIn_nil];refine ag2 (ag2 (akf ?_));show wpAny _ _ (ah5 (.ref fc) >>= _) _ _ _
 cases av:xs[k1]? with
 |none=>
  refine ag2 (LL gn (aj.extBut gN.extBut D.i1z) (iY.extBut gN.extBut D.l1z) av fun kv e jo he=>?_);obtain⟨e8,qF,uM⟩:=he;have J6:IsZip kv z TI dR .ellipsis:=jo _ _ D.i1z.symm pa;have Dm:e≠z:=fun x=>by subst x;rw[J6]at qF;cases qF;simp at uM
  exact aiW J6 (by simp) fun lg _ jO=>fin lg e (fun c o cy _ d1 _ x=>jO.extBut _ _ cy (jo _ _ d1 (gN.extBut _ _ cy x))) ⟨e8,jO.extBut _ _ Dm qF,uM⟩
 |some x=>
  have bo:ys[k2]? = none:=by rcases UR with h | h;rw[av]at h;cases h;exact h
  refine ag2 (El (aj.extBut gN.extBut D.i1z) (iY.extBut gN.extBut D.l1z) av fun kv Jw jo=>ahh ?_);have uI:aje kv dR a b:=jo.extBut _ _ D.TOi1 (gN.extBut _ _ D.TOz k');refine ag2 (aiS uI rfl ?_);refine ag2 (akp uI fun lg x6 jO=>?_);refine ag2 (wpAny_letGo (ahh ?_));refine ag2 (ag2 (akf ?_));show wpAny _ _ (ah5 (.ref fe) >>= _) _ _ _;refine ag2 (LL gn (((h2.extBut gN.extBut D.i2z).extBut jo.extBut D.i12.symm).extBut jO.extBut D.TOi2.symm)
   (((h7.extBut gN.extBut D.l2z).extBut jo.extBut D.l2i1).extBut jO.extBut D.l2TO) bo fun qJ e o_ he=>?_)
  obtain⟨e8,qF,uM⟩:=he;have J7:IsZip qJ z TI dR .ellipsis:=o_ _ _ D.i2z.symm (jO.extBut _ _ D.TOz.symm (jo.extBut _ _ D.i1z.symm pa));have Dm:e≠z:=fun x=>by subst x;rw[J7]at qF;cases qF;simp at uM
  exact aiW J7 (by simp) fun hi _ o'=>fin hi e (fun c o cy au d1 mB x=>o'.extBut _ _ cy (o_ _ _ mB (jO.extBut _ _ au (jo.extBut _ _ d1 (gN.extBut _ _ cy x))))) ⟨e8,o'.extBut _ _ Dm qF,uM⟩
end
section
variable{X:aS}{ae:c8}{σ:St}{H:aI}{s:ag9}{h':Heap}
theorem Inv.N'{t':Nat}{ch:List Addr}(J:Inv X ae σ H s)(k:∀b o,b∉ch->s.heap.get? b=some o->h'.get? b=some o)(hf:∀b∈ch,fY X ae H b):Inv X ae σ H { s with heap:=h',toks:=t' }:=by
 have vh:∀b u,H b=some u->b∉ch:=fun b u e z=>by rw[(hf b z).1]at e;cases e
 refine J.step (g':=s.gens) (d':=s.drawn) (ch:=ch) (fun b U=>?_) (fun b o _ _ aA e _=>k b o aA e) (fun b o _ _ aA e _=>⟨o.slots,k b o aA e⟩) (fun _ _ _ _ n=>n)
  (fun b o aA e=>⟨o,k b o aA e⟩) (fun _ _ e=>e) (fun _ _ _ e=>e) (fun b ps e=>⟨#[],by rw[e];simp⟩) (fun m hm=>?_) (fun b u e=>?_) J.bare
 ·obtain⟨_,f1,_,hc,f4,hG⟩:=hf b U
  exact⟨hc,f1,f4,hG⟩
 ·obtain⟨o,aE,ei,aM,r⟩:=hm
  exact⟨o,aE,ei,k _ o (fun z=>(hf _ z).2.1 rfl) aM,r⟩
 ·refine(J.bp b u e).nd (fun c v aA q=>k c v ?_ q) (fun _ q=>q) fun _ _ q=>q
  rcases aA with z | z
  ·rw[z];exact vh b u e
  ·exact vh c _ z
end
def hC(b:Bool)(K:a4)(H:aI)(a:Addr)(xs:List V):Prop:=match b with
 |true=>dG K H a xs|false=>dD K H a xs
theorem Inv.e5{s:ag9}(J:Inv X ae σ H s)(h:hC b X.K H a xs):∃its:List Value,Vals xs its/\iQ b s.heap a its.toArray:=by
 cases b with
 |true=>obtain⟨its,r,p,_⟩:=J.tuple h;exact⟨its,r,p⟩
 |false=>obtain⟨its,r,p,_⟩:=J.list h;exact⟨its,r,p.isList⟩
theorem Inv.NP(J:Inv X ae σ H s)(h:hC b X.K H a xs)(h':hC b X.K H a ys):xs=ys:=by
 cases b with
 |true=>exact J.N9 h h'|false=>exact J.K2 h h'
noncomputable def GG(K:a4)(cx cG:Bool)(bP cE:Addr):iP:=
  ⟨fun i H=>(∃xs x,hC cx K H bP xs/\xs[i]? = some x)/\∃ys y,hC cG K H cE ys/\ys[i]? = some y,
   fun i H x aa=>∃u v T,x=.ref T/\H T=none/\aa=upd H T (.tup [u,v])/\(∀xs,hC cx K H bP xs->xs[i]? = some u)/\∀ys,hC cG K H cE ys->ys[i]? = some v,
   fun i H=>∃xs ys,hC cx K H bP xs/\hC cG K H cE ys/\(xs.length<=i\/ys.length<=i)⟩
theorem abY(cx cG:Bool){z TI dR fc fe bP cE:Addr}(D:ZipApart z TI dR fc fe bP cE):Turn P w K (.Tuple elts n1 hq) (GG K cx cG bP cE) [z,TI,dR,fc,fe] z
  (fun i h=>IsZip h z TI dR .none/\aje h TI (.ref fc) (.ref fe)/\(∃a b,aje h dR a b)/\fK cx h fc bP i/\fK cG h fe cE i) where
 mem:=by simp
 obj:=fun i h st b U=>by
  obtain⟨aX,kq,⟨x,y,k'⟩,aj,h2⟩:=st;rcases aha.mp U with rfl | U
  ·exact⟨_,aX,fun v z=>by cases z⟩
  rcases aha.mp U with rfl | U
  ·exact⟨_,kq,fun v z=>by cases z⟩
  rcases aha.mp U with rfl | U
  ·exact⟨_,k',fun v z=>by cases z⟩
  rcases aha.mp U with rfl | U
  ·obtain⟨o,ar,e,d⟩:=aj.obj;exact⟨o,e,fun v z=>by rw[d]at z;cases z⟩
  rcases aha.mp U with rfl | U
  ·obtain⟨o,ar,e,d⟩:=h2.obj;exact⟨o,e,fun v z=>by rw[d]at z;cases z⟩
  cases U
 keep:=fun i h h' ⟨aX,kq,⟨x,y,k'⟩,aj,h2⟩ k=>⟨k z (by simp) _ aX,k TI (by simp) _ kq,⟨x,y,k dR (by simp) _ k'⟩,aj.at' fun o e=>k fc (by simp) o e,h2.at' fun o e=>k fe (by simp) o e⟩
 item:=by
  intro X fP hw f' aA i ae s σ H E J hf ⟨aX,kq,⟨gU,hD,k'⟩,aj,h2⟩ ⟨⟨xs,x,bf,av⟩,⟨ys,y,ay,bo⟩⟩;subst fP hw f';obtain⟨its,bZ,p⟩:=Inv.e5 J bf;obtain⟨Ku,i3,q⟩:=Inv.e5 J ay;obtain⟨u,a_,iL⟩:=bZ.get av;obtain⟨v,bF,aas⟩:=i3.get bo;have UU:∀b∈[z,dR,fc,fe],b∈[z,TI,dR,fc,fe]:=fun b U=>by simp at U ⊢;rcases U with h | h | h | h<;>simp[h]
  refine adn D aX kq k' aj h2 p q (x:=u) (y:=v) (by simpa using a_) (by simpa using bF) fun h' a1 a2 qc rK wW aL=>⟨_,rfl,wpAny_letOwnedTupleGo_zip a1 fun TU Vx uT=>?_⟩
  have aR:=J.bp.fresh (ahg s.heap.objs.size);have yC:=ahf aX;have yB:=ahf k';have qR:fc<s.heap.objs.size:=by obtain⟨_,_,e,_⟩:=aj.obj;exact ahf e
  have qS:fe<s.heap.objs.size:=by obtain⟨_,_,e,_⟩:=h2.obj;exact ahf e
  have h7:Vals [x,y] [u,v]:=.cons iL (.cons aas .nil);have bc:Inv X ae σ (upd H s.heap.objs.size (.tup [x,y])) { s with heap:=s.heap.push { cls:=.type "tuple",data:=.seq #[u,v] } }:=
   J.laid (t':=s.toks) (fun b u e=>ag8 _ e) (ahg _) ⟨by rw[ahY];show 2<=_;decide,[u,v],h7,⟨_,aho _ rfl,rfl,_,rfl⟩⟩
  have cZ:Inv X ae σ (upd H s.heap.objs.size (.tup [x,y])) { s with heap:=TU }:=by
   refine Inv.N' (s:={ s with heap:=s.heap.push { cls:=.type "tuple",data:=.seq #[u,v] } }) (ch:=[z,dR,fc,fe]) (t':=s.toks) bc (fun b o U e=>?_) fun b U=>?_
   ·have vj:b≠z:=fun q=>U (by simp[q])
    refine uT.extBut _ _ vj ?_;rcases Heap.get?_push_cases e with⟨rfl,rfl⟩ | e
    ·exact wW
    ·exact aL b o vj (fun q=>U (by simp[q])) (fun q=>U (by simp[q])) (fun q=>U (by simp[q])) e
   ·obtain⟨f0,f⟩:=hf b (UU b U)
    refine⟨?_,f⟩;rw[cP]
    ·exact f0
    ·rintro rfl
     simp at U;rcases U with h | h | h | h
     ·rw[<-h]at yC;exact ahW _ yC
     ·rw[<-h]at yB;exact ahW _ yB
     ·rw[<-h]at qR;exact ahW _ qR
     ·rw[<-h]at qS;exact ahW _ qS
  refine⟨.ref s.heap.objs.size,_,cZ,rfl,⟨x,y,_,rfl,aR,rfl,fun kK h'=>by rw[Inv.NP J h' bf];exact av,fun mj h'=>by rw[Inv.NP J h' ay];exact bo⟩,
   ⟨Vx,uT.extBut _ _ D.TIz (aL _ _ D.TIz D.TITO D.TIi1 D.TIi2 kq),⟨_,_,uT.extBut _ _ D.TOz a2⟩,qc.extBut uT.extBut D.i1z,rK.extBut uT.extBut D.i2z⟩,fun b U=>?_⟩
  rw[cP]
  ·exact(hf b U).1
  ·rintro rfl
   have ltI:=ahf kq;simp at U;rcases U with h | h | h | h | h
   ·rw[<-h]at yC;exact ahW _ yC
   ·rw[<-h]at ltI;exact ahW _ ltI
   ·rw[<-h]at yB;exact ahW _ yB
   ·rw[<-h]at qR;exact ahW _ qR
   ·rw[<-h]at qS;exact ahW _ qS
 done:=by
  intro X fP hw f' aA i ae s σ H E J hf ⟨aX,kq,⟨gU,hD,k'⟩,aj,h2⟩ ⟨xs,ys,bf,ay,ao⟩;subst fP hw f';obtain⟨its,bZ,p⟩:=Inv.e5 J bf;obtain⟨Ku,i3,q⟩:=Inv.e5 J ay;have aH:=bZ.length;have aT:=i3.length;refine adm (J.ok.hd aA) D aX kq k' aj h2 p q ?_ fun h' aL=>⟨rfl,?_⟩
  ·rcases ao with ao | ao
   ·exact .inl (by simp;omega)
   ·exact .inr (by simp;omega)
  ·refine Inv.N' (ch:=[z,dR,fc,fe]) (t':=s.toks) J (fun b o U e=>aL b o (fun q=>U (by simp[q])) (fun q=>U (by simp[q])) (fun q=>U (by simp[q])) (fun q=>U (by simp[q])) e) fun b U=>hf b ?_
   simp at U ⊢;rcases U with h | h | h | h<;>simp[h]
 self:=fun _ _ _ _ _ ⟨aX,_⟩ h=>wpAny_pyIter_zip aX h
noncomputable def yo(b:Bool)(l:Addr):Obj:=match b with
 |true=>{ cls:=.type "tuple_iterator",data:=.fields #[.ref l,.int 0 0] }
 |false=>{ cls:=.type "list_iterator",data:=.fields #[.ref l,.int 0 0] }
noncomputable abbrev z5(cx:Bool)(h:Heap)(bP:Addr):Heap:=h.push (yo cx bP)
noncomputable abbrev z6(cx cG:Bool)(h:Heap)(bP cE:Addr):Heap:=(z5 cx h bP).push (yo cG cE)
noncomputable abbrev z7(cx cG:Bool)(h:Heap)(bP cE:Addr):Heap:=(z6 cx cG h bP cE).push { cls:=.type "tuple",data:=.seq #[.ref h.objs.size,.ref (z5 cx h bP).objs.size] }
noncomputable abbrev z8(cx cG:Bool)(h:Heap)(bP cE:Addr):Heap:=(z7 cx cG h bP cE).push { cls:=.type "tuple",data:=.seq #[.none,.none] }
noncomputable abbrev tB(cx cG:Bool)(h:Heap)(bP cE:Addr):Heap:=(z8 cx cG h bP cE).push { cls:=.type "zip",data:=.fields #[.none,.bool false,.bool false,.ref (z6 cx cG h bP cE).objs.size,.ref (z7 cx cG h bP cE).objs.size] }
theorem Xq(cx cG:Bool)(bP cE:Addr)(xs ys:Array Value) :
  Meets (Builtin.«zip.__new__» ⟨[.type "zip",.ref bP,.ref cE],[]⟩) (fun _ R s=>iQ cx s.heap bP xs/\iQ cG s.heap cE ys/\
   R (.ok (.ret (.ref (z8 cx cG s.heap bP cE).objs.size))) { s with heap:=tB cx cG s.heap bP cE }):=by
 cases cx with
 |false=>
  cases cG with
  |false=>exact meets_zip_new bP cE xs ys|true=>
   refine .of_wp fun prog w A R s h=>?_
   obtain⟨aP,g,d,tk,os⟩:=s;obtain⟨iY,h7,h⟩:=h;have JZ:=sub_zip;have uF:Heap.IsList (akc ⟨aP,g,d,tk,os⟩) bP xs:=iY;have uG:alk (akc ⟨aP.push { cls:=.type "list_iterator",data:=.fields #[.ref bP,.int 0 0] },g,d,tk,os⟩) cE ys:=alZ h7 _
   wp_walk using ajs uF,ajj uG
   exact⟨_,rfl,h⟩
 |true=>
  cases cG with
  |false=>
   refine .of_wp fun prog w A R s h=>?_
   obtain⟨aP,g,d,tk,os⟩:=s;obtain⟨iY,h7,h⟩:=h;have JZ:=sub_zip;have uF:alk (akc ⟨aP,g,d,tk,os⟩) bP xs:=iY;have uG:Heap.IsList (akc ⟨aP.push { cls:=.type "tuple_iterator",data:=.fields #[.ref bP,.int 0 0] },g,d,tk,os⟩) cE ys:=Heap.IsList.push h7 _
   wp_walk using ajj uF,ajs uG
   exact⟨_,rfl,h⟩
  |true=>
   refine .of_wp fun prog w A R s h=>?_
   obtain⟨aP,g,d,tk,os⟩:=s;obtain⟨iY,h7,h⟩:=h;have JZ:=sub_zip;have uF:alk (akc ⟨aP,g,d,tk,os⟩) bP xs:=iY;have uG:alk (akc ⟨aP.push { cls:=.type "tuple_iterator",data:=.fields #[.ref bP,.int 0 0] },g,d,tk,os⟩) cE ys:=alZ h7 _
   wp_walk using ajj uF,ajj uG
   exact⟨_,rfl,h⟩
theorem fK.new{h:Heap}(e:h.get? a=some (yo b l)):fK b h a l 0:=by
 cases b with
 |true=>exact⟨_,e,rfl,rfl⟩|false=>exact⟨_,e,rfl,rfl⟩
section
variable{prog:ahq}{w:World}{A:ahX}{E:dc}{s:ag9}
theorem QZ{cx cG:Bool}{bP cE:Addr}{xs ys:Array Value}{Q:dc}(iY:iQ cx s.heap bP xs)(h7:iQ cG s.heap cE ys)
  (h:∀h',IsZip h' (s.heap.objs.size+4) (s.heap.objs.size+2) (s.heap.objs.size+3) .none->aje h' (s.heap.objs.size+2) (.ref s.heap.objs.size) (.ref (s.heap.objs.size+1))->
   aje h' (s.heap.objs.size+3) .none .none->fK cx h' s.heap.objs.size bP 0->fK cG h' (s.heap.objs.size+1) cE 0->
   (∀c o,s.heap.get? c=some o->h'.get? c=some o)->Q (.ref (s.heap.objs.size+4)) { s with heap:=h' }) :
  wpAny (model prog w) A (call (.type "zip") [.ref bP,.ref cE]) Q E s:=by
 refine callType_new F.called_zip (by decide) (F.typeCall_zip_2 _ _) (F.newCall_zip_2 _ _) (fun obj=>F.args_object_init_3 obj _ _) F.entry_zip_new (Xq cx cG bP cE xs ys) ⟨iY,h7,?_⟩;have kL:(z5 cx s.heap bP).objs.size=s.heap.objs.size+1:=akx ..;have e':(z6 cx cG s.heap bP cE).objs.size=s.heap.objs.size+2:=by rw[akx,kL]
 have wh:(z7 cx cG s.heap bP cE).objs.size=s.heap.objs.size+3:=by rw[akx,e']
 have wj:(z8 cx cG s.heap bP cE).objs.size=s.heap.objs.size+4:=by rw[akx,wh]
 have f1:∀b l,(yo b l).isFreed=false:=fun b l=>by cases b<;>rfl
 have CL:(tB cx cG s.heap bP cE).get? (z8 cx cG s.heap bP cE).objs.size=some _:=aho _ rfl;have sh:(tB cx cG s.heap bP cE).get? (z7 cx cG s.heap bP cE).objs.size=some _:=ag8 _ (aho _ rfl);have g3:(tB cx cG s.heap bP cE).get? (z6 cx cG s.heap bP cE).objs.size=some _:=ag8 _ (ag8 _ (aho _ rfl));have g2:(tB cx cG s.heap bP cE).get? (z5 cx s.heap bP).objs.size=some _:=ag8 _ (ag8 _ (ag8 _ (aho _ (f1 _ _))));have g1:(tB cx cG s.heap bP cE).get? s.heap.objs.size=some _:=ag8 _ (ag8 _ (ag8 _ (ag8 _ (aho _ (f1 _ _)))));show _/\_;rw[e',wh,wj]at CL;rw[kL,e']at g3;rw[wh]at sh;rw[kL]at g2;rw[wj];exact⟨⟨_,CL,rfl⟩,h _ CL g3 sh (.new g1) (.new g2) fun c o x=>
  ag8 _ (ag8 _ (ag8 _ (ag8 _ (ag8 _ x))))⟩
end
noncomputable def uX(K:a4)(ta:f3):TI:=fun σ H R=>ta σ H fun ar H1=>∃cx cG bP cE,ar=[.ref bP,.ref cE]/\(∃xs,hC cx K H1 bP xs)/\(∃ys,hC cG K H1 cE ys)/\R (GG K cx cG bP cE) H1
theorem MC{X:aS}{elts:List Expr}{n1:Nat}{hq:Pos}{p pos:Pos}(a':dC X "zip")(hm:X.I "zip"=none)(ax:g_ X [a,b] ta)(aQ:ag6 [a,b] X.env=[(false,eval a X.env),(false,eval b X.env)]:=by rfl)(o9:ag6 [b] X.env=[(false,eval b X.env)]:=by rfl) :
  kP X (.Tuple elts n1 hq) (.Call (.Name "zip" p) [a,b] [] pos) (uX X.K ta):=by
 intro ae s σ H R J h;refine PyProof.Rows.Call_ (u6 J a' hm PyProof.Rows.boot_zip (ajA (b0 (ax pos ae s σ H _ J h) fun us s1 ⟨ar,H1,bc,bK,bh⟩=>?_) (by rw[aQ,o9]) (by rw[o9];rfl)));obtain⟨cx,cG,bP,cE,e,⟨xs,av⟩,⟨ys,bo⟩,q⟩:=bh;subst e
 cases bK with
 |cons r bD=>
  cases bD with
  |cons bq bD=>
   cases bD;cases r;cases bq;obtain⟨its,bZ,dy⟩:=Inv.e5 bc av;obtain⟨Ku,i3,cR⟩:=Inv.e5 bc bo;have qR:bP<s1.heap.objs.size:=by obtain⟨_,_,e,_⟩:=dy.obj;exact ahf e
   have qS:cE<s1.heap.objs.size:=by obtain⟨_,_,e,_⟩:=cR.obj;exact ahf e
   refine QZ dy cR fun h' a1 a2 qc rK wW aL=>?_
   refine wpAny_pyIter_zip (s:={ s1 with heap:=h' }) a1 ?_;have D:ZipApart (s1.heap.objs.size+4) (s1.heap.objs.size+2) (s1.heap.objs.size+3) s1.heap.objs.size (s1.heap.objs.size+1) bP cE:=by
    have up:∀{l:Addr}(k:Nat),l<s1.heap.objs.size->l≠s1.heap.objs.size+k:=fun k h=>ahE (ahv h (ajC _ _))
    have KN:bP≠s1.heap.objs.size:=ahE qR;have KO:cE≠s1.heap.objs.size:=ahE qS;have ht:=fun k=>up k qR
    have hW:=fun k=>up k qS
    generalize s1.heap.objs.size=n at KN KO ht hW ⊢;constructor<;>first | exact ht 4 | exact ht 3 | exact KN | exact ht 1 | exact hW 4 | exact hW 3 | exact KO | exact hW 1 | (show(_:Nat)≠_;omega)
   refine⟨s1.heap.objs.size+4,[s1.heap.objs.size+4,s1.heap.objs.size+2,s1.heap.objs.size+3,s1.heap.objs.size,s1.heap.objs.size+1],_,_,H1,rfl,bc.kept (t':=s1.toks) aL,abY cx cG D,⟨a1,a2,⟨_,_,qc⟩,rK,wW⟩,fun c aA=>?_,q⟩;have le:s1.heap.objs.size<=c:=by
    simp at aA;rcases aA with rfl | rfl | rfl | rfl | rfl
    ·exact ajC _ _
    ·exact ajC _ _
    ·exact ajC _ _
    ·exact ahg _
    ·exact ajC _ _
   exact bc.o2 le (bc.bp.fresh le)
end aN
namespace aN
open PySem PySem.Spec ak
variable[ak.a7]
noncomputable def R.walk:R->Option (List D)
 |.v (.tup xs)=>some xs|.v (.lst xs)=>some xs|.fr xs=>some xs|.cp xs=>some xs|_=>none
def As(b:Bool)(K:a4)(O:b9)(H:aI)(a:Addr)(ys:List V):Prop:=match b with
 |true=>dG K H a ys|false=>hY K O H a ys
theorem As.e5(h:As b K O H a ys):hC b K H a ys:=by
 cases b with
 |true=>exact h|false=>exact hY.e5 h
theorem zV{r:R}(h:fZ K I O H r v)(n:oE H₀ r v)(e:r.walk=some xs):∃b a ys,v=.ref a/\As b K (cH H₀ O) H a ys/\bu K I (cH H₀ O) H xs ys:=by
 unfold R.walk at e;split at e
 ·cases e;obtain⟨a,ys,q,l,r⟩:=h;exact⟨true,a,ys,q,l,r.cK (jI _ _)⟩
 ·cases e
  obtain⟨a,ys,q,l,r⟩:=h;exact⟨false,a,ys,q,.inl ⟨.inl l.1,.inl ((jI H₀ O).fr a l.2)⟩,r.cK (jI _ _)⟩
 ·cases e
  obtain⟨a,ys,rfl,l,t,r⟩:=h;exact⟨false,a,ys,rfl,.inl ⟨.inl l,.inl (CH (n a rfl) t)⟩,r.cK (jI _ _)⟩
 ·cases e
  obtain⟨a,ys,q,l,r⟩:=h;refine⟨false,a,ys,q,?_,r.cK (jI _ _)⟩;rcases l with⟨l,f⟩ | l
  ·refine .inl ⟨l,?_⟩
   rcases f with f | f
   ·exact .inl ((jI H₀ O).fr a f)
   ·exact .inr (by rw[sb (by rw[f];intro z;cases z)];exact f)
  ·exact .inr l
 ·cases e
end aN
namespace aN
open PySem PySem.Spec ak PyProof.Rows
variable[ak.a7]
noncomputable def pf(t:a9->M Bool)(el:bj)(σ:a9):List (D×D)->M (List D)
 |[]=>pure []|d::ds=>do
  let b <-t ((σ.set 0 (.val d.1)).set 1 (.val d.2))
  if b=true then do
   let r <-el ((σ.set 0 (.val d.1)).set 1 (.val d.2))
   let x <-r.dat
   let xs <-pf t el σ ds
   pure (x::xs)
  else pf t el σ ds
noncomputable def ov:List R->Option (List (D×D))
 |[x,y]=>match x.walk,y.walk with
  |some xs,some ys=>some (xs.zip ys)|_,_=>none
 |_=>none
noncomputable def t7(cap:List Nat)(ms:cQ)(t:a9->M Bool)(el:bj):bj:=fun σ=>do
 let rs <-ms σ
 match ov rs with
 |some ds=>do
  eS (ds.length<ag5)
  let xs <-pf t el (f9 2 cap σ) ds
  pure (.fr xs)
 |none=>bad
theorem O2(h:ov rs=some ds):∃x y xs ys,rs=[x,y]/\x.walk=some xs/\y.walk=some ys/\ds=xs.zip ys:=by
 unfold ov at h;split at h
 ·rename_i x y
  split at h
  ·rename_i xs ys aH aT
   cases h;exact⟨x,y,xs,ys,rfl,aH,aT,rfl⟩
  ·cases h
 ·cases h
theorem hC.same{b:Bool}{K:a4}{H aa:aI}(s:dw H aa){a:Addr}{ys:List V}(h:hC b K H a ys):hC b K aa a ys:=by
 cases b with
 |true=>exact s.vI h|false=>exact s.seq h
inductive Pa(K:a4)(I:br)(n:Nat)(cap:List Nat)(loop:Nat->M (List aN.D))(aY:b9)(σ:a9)(aJ:e7)(az:ak.St)(H1:aI)(A:Addr)(xs:List aN.D)(k:Nat)(zs:List V)(aa:aI):Prop
 |mk (aD:b9) (ee:e7) (acc kK:List aN.D) (b2:cj K I aD (f9 n cap σ) ee (eG n cap az) aa) (s':dw H1 aa) (hQ:∀b,H1 b≠none->aD b=dK aY b) (kH:aD A=.eK) (dT:aa A=some (.lst zs)) (aX:zs.length<=k)
   (hT:bu K I aD aa acc zs) (h:(loop k).run ee=.ok kK aJ) (ex:acc++kK=xs)
theorem O1{xs ys:List D}{k:Nat}(e:(xs.zip ys).drop k=d::ds):xs[k]? = some d.1/\ys[k]? = some d.2/\(xs.zip ys).drop (k+1)=ds:=by
 have aH:(xs.zip ys)[k]? = some d:=by
  have:=congrArg (·[0]?) e;simpa using this
 obtain⟨a,b⟩:=List.getElem?_zip_eq_some.mp aH;refine⟨a,b,?_⟩;have:=congrArg (List.drop 1) e;simpa[ai8]using this
theorem R0{K:a4}{I:br}{cap:List Nat}{ms:cQ}{t:a9->M Bool}{el:bj}:∀az H Q,fw K I (t7 cap ms t el) az H Q->vQ 2 cap (uX K (ng K I ms)) (uy K 2 (o4 [0,1])) (mc K I t) (fw K I el) az H Q:=by
 rintro az H Q ⟨O,σ,S,r,aJ,st,h,q⟩;obtain⟨rs,a6,aj,h⟩:=M.inv h
 cases qp:ov rs with
 |none=>rw[qp]at h;cases h
 |some ds=>
  rw[qp]at h;obtain⟨_,bS,h2,h⟩:=M.inv h;obtain⟨hlen,rfl⟩:=mD h2;obtain⟨xs,hB,bz,h⟩:=M.inv h;cases h;obtain⟨x,y,i',il,rfl,ex,d_,rfl⟩:=O2 qp;refine⟨O,σ,S,_,a6,st,aj,fun aY ar H1 g1 a3 bD nn=>?_⟩;obtain⟨v1,bK,rfl,a0,v2,cn,rfl,bx,re⟩:=bD;cases re;obtain⟨cx,bP,us,rfl,s1,a1⟩:=zV (H₀:=H) a0 nn.1 ex;obtain⟨cG,cE,ws,rfl,s2,a2⟩:=zV (H₀:=H) bx nn.2.1 d_;have kG:=a3.cH H;have sg:Go O (cH H aY) H H1:=g1.cH;generalize T9:cH H aY=gh at kG sg s1 s2 a1 a2;refine⟨cx,cG,bP,cE,rfl,⟨us,s1.e5⟩,⟨ws,s2.e5⟩,fun D e0=>?_⟩;have vM:cj K I (g5 (dK gh) D .eK) (f9 2 cap σ) a6 (eG 2 cap az) (upd H1 D (.lst [])):=(kG.dK 2 cap).new e0;refine⟨fun k m zs aa=>m=(i'.zip il).length-k/\k<=(i'.zip il).length/\Pa K I 2 cap (fun k=>pf t el (f9 2 cap σ) ((i'.zip il).drop k)) gh σ aJ az H1 D xs k zs aa,
   ⟨_,rfl,ahC _,_,a6,[],xs,vM,i4 e0 _,fun b U=>mg (by rintro rfl;exact U e0),om,eb,ahg _,rfl,bz,rfl⟩,?_⟩
  rintro k m zs aa ⟨rfl,aL,aD,ee,acc,kK,b2,s',hQ,kH,dT,aX,hT,h,km⟩;have bh:=hC.same s' s1.e5;have cM:=hC.same s' s2.e5;have ET:bu K I aD aa i' us:=(a1.cK (ji gh)).go ⟨s',hQ⟩;have EU:bu K I aD aa il ws:=(a2.cK (ji gh)).go ⟨s',hQ⟩
  cases e:(i'.zip il).drop k with
  |nil=>
   rw[e]at h;cases h;rw[ahl]at km;subst km;refine .inl ⟨⟨us,ws,bh,cM,?_⟩,?_⟩
   ·have:=congrArg ai5 e
    rw[ahz,akn,aiy]at this;rw[a1.len,a2.len];omega
   let gD:b9:=fun b=>match H1 b with | none=>aD b | some _=>gh b
   have pJ:∀b,H1 b≠none->gD b=gh b:=fun b U=>by
    show(match H1 b with | none=>aD b | some _=>gh b)=gh b
    cases e:H1 b with
    |none=>exact absurd e U|some _=>rfl
   have jU:∀b,H1 b=none->gD b=aD b:=fun b U=>by
    show(match H1 b with | none=>aD b | some _=>gh b)=aD b;rw[U]
   have cK:iO aD gD:=⟨fun b U=>by
     by_cases hg:H1 b=none
     ·rw[jU b hg];exact U
     ·rw[pJ b hg];exact jj.mp ((hQ b hg).symm.trans U)⟩
   have go:Go gh gD H1 aa:=⟨s',pJ⟩;have dh:dP gD aa:=⟨fun b U=>by
    by_cases hg:H1 b=none
    ·rw[jU b hg]at U;exact b2.dh.has b U
    ·exact s'.some hg,b2.dh.tabs⟩
   have cm:a6=aJ:=a3.emp.trans b2.emp.symm;subst cm;refine q gD (.ref D) aa (sg.trans go) (kG.go go dh) ⟨D,zs,rfl,dT,(jU D e0).trans kH,hT.cK cK⟩ fun a f_=>?_
   cases f_;exact g1.same.free e0
  |cons d mG=>
   obtain⟨aH,aT,bE⟩:=O1 e;obtain⟨u,qm,iL⟩:=ET.get aH;obtain⟨v,ev,bZ⟩:=EU.get aT;have er:k<(i'.zip il).length:=by
    have:=congrArg ai5 e;rw[ahz,ahj]at this;omega
   rw[e]at h;obtain⟨b,bS,h2,h⟩:=M.inv h;refine .inr ⟨⟨⟨us,u,bh,qm⟩,⟨ws,v,cM,ev⟩⟩,fun x aZ ry=>?_⟩;obtain⟨hs,rl,T,rfl,dn,rfl,Dx,sm⟩:=ry;have vx:=Dx us bh;rw[qm]at vx;cases vx;have vy:=sm ws cM;rw[ev]at vy;cases vy;have ko:Go aD aD aa (upd aa T (.tup [u,v])):=Go.fT dn;have agL:D≠T:=by rintro rfl;rw[dT]at dn;cases dn
   have vN:cj K I aD (((f9 2 cap σ).set 0 (.val d.1)).set 1 (.val d.2)) ee (((eG 2 cap az).set 0 (some u)).set 1 (some v)) (upd aa T (.tup [u,v])):=((b2.fT dn).val (iL.go ko)).val (bZ.go ko);have nQ:lI (eG 2 cap az) (((eG 2 cap az).set 0 (some u)).set 1 (some v)):=((lI.refl _).set rfl).set rfl;refine⟨T,[u,v],rfl,dG.of eb,rfl,u,[v],rfl,v,[],rfl,rfl,nQ,aD,_,ee,b,bS,vN,h2,fun bt cX CJ cW=>?_⟩;have g2:Go aD bt aa cX:=ko.trans CJ
   cases b with
   |false=>
    rw[if_neg ahd]at h;refine lj ⟨(i'.zip il).length-(k+1),by omega,rfl,er,bt,bS,acc,kK,?_,s'.trans g2.same,fun b U=>(g2.own b (s'.some U)).trans (hQ b U),(g2.own D (by rw[dT];intro z;cases z)).trans kH,g2.same.at' _ _ dT,by omega,hT.go g2,by rw[bE];exact h,km⟩;have cm:ee=bS:=b2.emp.trans cW.emp.symm;exact cm▸b2.go g2 cW.dh
   |true=>
    rw[if_pos rfl]at h;obtain⟨r,kR,c0,h⟩:=M.inv h;obtain⟨x,tS,gm,h⟩:=M.inv h;obtain⟨acW,GP,eO,h⟩:=M.inv h;cases h;refine ky ⟨bt,_,bS,r,kR,cW,c0,fun fm v fa g3 e_ bD nn=>?_⟩;obtain⟨a0,rfl⟩:=nK (H₀:=cX) bD nn gm;have G:Go aD (cH cX fm) aa fa:=g2.trans g3.cH;have jK:fa D=some (.lst zs):=G.same.at' _ _ dT;have ma:cH cX fm D=.eK:=(G.own D (by rw[dT];intro z;cases z)).trans kH;have cm:ee=kR:=b2.emp.trans e_.emp.symm;refine⟨jK,by omega,(i'.zip il).length-(k+1),by omega,rfl,er,cH cX fm,kR,acc++[x],acW,?_,Gd e0 (s'.trans G.same) jK _,fun b U=>(G.own b (s'.some U)).trans (hQ b U),ma,eb,
     by rw[ag3,ahm];omega,((hT.go G).append (.one a0)).e6 (by rw[ma];intro z;cases z) jK,by rw[bE];exact eO,by rw[aht];exact km⟩
    exact cm▸(b2.go G (e_.cH cX).dh).Gb ma jK
section
variable{X:aS}{scope esc:Scope}{EN N:List Str}{cap:List Nat}{elt a f7:Expr}{ifs:List Expr}{pos hq p cu dy cR:Pos}{x y:Str}{t:a9->M Bool}{el:bj}{ms:cQ}{k:Nat}
theorem Rk(S:mr esc scope EN N 2 cap)(uO:dC X "zip")(hm:X.I "zip"=none)(ax:jb X [a,f7] ms)(av:N[0]? = some x)(bo:N[1]? = some y)
  (lb:∀C aW s H,Loc (cz X scope N C aW s H).env.scope x/\(cz X scope N C aW s H).env.scope.names.lookup x=some .local) (qC:∀C aW s H,Loc (cz X scope N C aW s H).env.scope y/\(cz X scope N C aW s H).env.scope.names.lookup y=some .local)
  (bG:∀C aW s H,tC (cz X scope N C aW s H) ifs t) (iC:∀C aW s H,cg (cz X scope N C aW s H) elt el)
  (he:X.env.scope=esc:=by rfl) (bY:X.N=EN:=by rfl) (aA:X.calm=true:=by rfl) (aQ:∀x,ail (.Call (.Name "zip" p) [a,f7] [] cu) X.env x=pure x:=by intro _;rfl)
  (uU:ag6 [a,f7] X.env=[(false,eval a X.env),(false,eval f7 X.env)]:=by rfl) (o9:ag6 [f7] X.env=[(false,eval f7 X.env)]:=by rfl)
  (lW:∀C aW s H,(ahS [.Name x dy,.Name y cR] (cz X scope N C aW s H).env).length=2/\(ahS [.Name x dy,.Name y cR] (cz X scope N C aW s H).env).findIdx? (·.1)=none/\
   (ahS [.Name x dy,.Name y cR] (cz X scope N C aW s H).env).map (·.2)=aj5 (.Name x dy) (cz X scope N C aW s H).env::(ahS [.Name y cR] (cz X scope N C aW s H).env).map (·.2)/\
   (ahS [.Name y cR] (cz X scope N C aW s H).env).map (·.2)=aj5 (.Name y cR) (cz X scope N C aW s H).env::(ahS [] (cz X scope N C aW s H).env).map (·.2):=by intros;exact⟨rfl,rfl,rfl,rfl⟩) :
  cg X (.ListComp elt [⟨.Tuple [.Name x dy,.Name y cR] k hq,.Call (.Name "zip" p) [a,f7] [] cu,ifs,0⟩] scope pos) (t7 cap ms t el):=
 et (Mq (wi:=uX X.K (ng X.K X.I ms)) (g:=uy X.K 2 (o4 [0,1])) (tt:=mc X.K X.I t) (te:=fw X.K X.I el) S (MC uO hm ax uU o9)
  (fun C aW s H=>Mx aA (y6 S.bW av (lb C aW s H).1 (y6 S.bW bo (qC C aW s H).1 My (lW C aW s H).2.2.2 (.inr (qC C aW s H).2)) (lW C aW s H).2.2.1 (.inr (lb C aW s H).2)) (lW C aW s H).1 (lW C aW s H).2.1) bG iC he bY aA aQ) R0
end
omit [ak.a7]in
@[simp] theorem aee:t7 cap ms t el σ=(do
 let rs <-ms σ
 match ov rs with
 |some ds=>do
  eS (ds.length<ag5)
  let xs <-pf t el (f9 2 cap σ) ds
  pure (.fr xs)
 | none=>bad):=rfl
section
variable{X:aS}{scope esc:Scope}{EN N:List Str}{cap:List Nat}{elt a f7:Expr}{ifs:List Expr}{pos hq p cu dy cR:Pos}{x y:Str}{t:a9->M Bool}{el:bj}{ms:cQ}{k:Nat}
theorem acg(S:mr esc scope EN N 2 cap)(uO:dC X "zip")(hm:X.I "zip"=none)(ax:f6 X [a,f7] ms)(av:N[0]? = some x)(bo:N[1]? = some y)
  (lb:∀C aW s H,Loc (cz X scope N C aW s H).env.scope x/\(cz X scope N C aW s H).env.scope.names.lookup x=some .local) (qC:∀C aW s H,Loc (cz X scope N C aW s H).env.scope y/\(cz X scope N C aW s H).env.scope.names.lookup y=some .local)
  (bG:∀C aW s H,wN (cz X scope N C aW s H) ifs t) (iC:∀C aW s H,cq (cz X scope N C aW s H) elt el)
  (he:X.env.scope=esc:=by rfl) (bY:X.N=EN:=by rfl) (aA:X.calm=true:=by rfl) (aQ:∀x,ail (.Call (.Name "zip" p) [a,f7] [] cu) X.env x=pure x:=by intro _;rfl)
  (uU:ag6 [a,f7] X.env=[(false,eval a X.env),(false,eval f7 X.env)]:=by rfl) (o9:ag6 [f7] X.env=[(false,eval f7 X.env)]:=by rfl)
  (lW:∀C aW s H,(ahS [.Name x dy,.Name y cR] (cz X scope N C aW s H).env).length=2/\(ahS [.Name x dy,.Name y cR] (cz X scope N C aW s H).env).findIdx? (·.1)=none/\
   (ahS [.Name x dy,.Name y cR] (cz X scope N C aW s H).env).map (·.2)=aj5 (.Name x dy) (cz X scope N C aW s H).env::(ahS [.Name y cR] (cz X scope N C aW s H).env).map (·.2)/\
   (ahS [.Name y cR] (cz X scope N C aW s H).env).map (·.2)=aj5 (.Name y cR) (cz X scope N C aW s H).env::(ahS [] (cz X scope N C aW s H).env).map (·.2):=by intros;exact⟨rfl,rfl,rfl,rfl⟩) :
  cq X (.ListComp elt [⟨.Tuple [.Name x dy,.Name y cR] k hq,.Call (.Name "zip" p) [a,f7] [] cu,ifs,0⟩] scope pos) (t7 cap ms t el):=
 ⟨Rk S uO hm ax.un av bo lb qC (fun C aW s H=>(bG C aW s H).un) (fun C aW s H=>(iC C aW s H).un) he bY aA aQ uU o9 lW⟩
end
section
open cS
variable{prog:ahq}{w:World}{A:ahX}{E:dc}{s:ag9}
omit [ak.a7]in
theorem TQ{t c6:Addr}{items:Array Value}{gd gf:Value}{lo aC:Option Int}{Q:dc}(bG:IsTup s.heap t items)(aQ:s.heap.IsSliceOf c6 gd gf .none)(dp:aj7 gd lo)(pu:aj7 gf aC)
  (hw:ct items.size 0 lo=0/\ct items.size items.size aC=items.size)
  (h:Q (.ref t) s):wpAny (model prog w) A (ajX (.ref t) (.ref c6)) Q E s:=by
 obtain⟨os,qG,x',qA⟩:=id aQ;have C4:s.TypeIs (.ref c6) "slice":=⟨os,qG,x'⟩;unfold ajX
 try with_reducible refine wpAny_holding ?_
 first | refine ag2 (ahh ?_) | skip
 refine ag2 (wpAny_sequenceKey bG.typeIs (by decide) ?_);refine ag2 (aiH (name:=ah2 "__getitem__") bG.typeIs aia
  (ajb aia bG.typeIs entry_tuple_getitem ?_ (args_tuple_getitem _ _)))
 show wpAny _ _ (akR (.ref t) >>= _) _ _ s;refine ag2 (tupleItemsOf_ bG ?_);refine ag2 (wpAny_typeOf C4 ?_);rw[if_pos (by decide)];refine ag2 (NI aQ dp pu ?_);rw[hw.1,hw.2];show wpAny _ _ (if((((0:Nat):Int))==0&&(1:Int)==1&&(items.size-0)==items.size)=true then _ else _) _ _ s;rw[if_pos (by simp)];refine ag2 (m:=Builtin.Tuple.tupleIsExact _) (ag2 (wpAny_typeOf bG.typeIs (ahh ?_)));rw[if_pos (by decide)];refine ag2 (wpAny_rule ?_)
 first
  |exact ag2 (ahh (ahh ⟨_,rfl,ahh h⟩))
  |exact ag2 (ahh ⟨_,rfl,ahh h⟩)
  |exact ahh ⟨_,rfl,ahh h⟩
end
noncomputable def Z4(K:a4):V->Option Int->Option Int->aI->cY->Prop:=fun x lo aC H Q=>∃a xs,x=.ref a/\dG K H a xs/\(cS.ct xs.length 0 lo=0/\cS.ct xs.length xs.length aC=xs.length)/\Q (.ref a) H
omit [ak.a7]in
theorem aa4:nD X (Z4 X.K):=by
 intro ae s σ H x v gd gf lo aC c6 Q J a0 aQ dp pu h;obtain⟨a,xs,rfl,av,hw,q⟩:=h;cases a0;obtain⟨its,r,bG,aX⟩:=J.tuple av;have hlen:its.toArray.size=xs.length:=by rw[ahk];exact r.length.symm
 refine⟨"tuple",_,aia.lookup,bG.typeIs,?_⟩;exact TQ bG aQ dp pu (by rw[hlen];exact hw) ⟨.ref a,H,J,rfl,q⟩
noncomputable def yV(x:R)(lo aC:Option Int):M R:=
 match x with
 |.v (.tup xs)=>pure (.v (.tup (cutD xs lo aC)))|_=>bad
noncomputable def ua(a:bj)(lo aC:iu):bj:=fun σ=>do
 let x <-a σ
 let l <-lo σ
 let h <-aC σ
 yV x l h
theorem Sp{α:Type}{xs:List α}{lo aC:Option Int}(h:cS.ct xs.length 0 lo=0/\cS.ct xs.length xs.length aC=xs.length):cutD xs lo aC=xs:=by
 unfold cutD;rw[h.1,h.2,aj0,Nat.sub_zero,ah7 (ahg _)]
section
variable{X:aS}{e st:Expr}{m:bj}{lo aC:Option Expr}{hk i0:iu}{pos cR:Pos}
theorem Rz(he:cg X e m)(ao:nk X lo hk)(a_:nk X aC i0):cg X (.Subscript e (.Slice lo aC none cR) pos) (ua m hk i0):=et (EJ (aa4.or NH) he ao a_)<|by
 rintro az H Q ⟨O,σ,S,r,aJ,st,h,q⟩;obtain⟨x,a6,aj,ax⟩:=M.inv h;clear h;obtain⟨l,bS,h2,U⟩:=M.inv ax;clear ax;obtain⟨u,hB,bz,h⟩:=M.inv U;clear U;refine⟨O,σ,S,x,a6,st,aj,fun aY fy H1 g1 a3 a0 a8=>?_⟩;refine⟨aY,σ,a6,l,bS,a3,h2,fun bt aZ g2 cW=>?_⟩;refine⟨bt,σ,bS,u,hB,cW,bz,fun fm cX g3 e_=>?_⟩;have g:=(g1.trans g2).trans g3;have zd:=a0.go (g2.trans g3);unfold yV at h;split at h
 ·rename_i xs
  cases h;obtain⟨a,ys,rfl,bP,ck⟩:=zd
  by_cases c:cS.ct xs.length 0 l=0/\cS.ct xs.length xs.length u=xs.length
  ·refine .inl ⟨a,ys,rfl,bP,by rw[ck.len];exact c,?_⟩
   rw[Sp c]at q;exact q fm _ _ g e_ ⟨a,ys,rfl,bP,ck⟩ trivial
  ·exact .inr ⟨a,ys,rfl,bP,by rw[ck.len];exact c,fun p aP=>q fm _ _ (g.trans (Go.fT aP)) (e_.fT aP) ⟨p,_,rfl,dG.of eb,(ck.cut l u).go (Go.fT aP)⟩ trivial⟩
 ·cases h
end
noncomputable def uu:List R->M R
 |[.v (.int i)]=>if i.natAbs.log2<1920 then pure (.v (.str (toString i)))else bad|_=>bad
theorem Kx{K:a4}{I:br}:ip K I (fun xs H Q=>∃i,xs=[.int i]/\i.natAbs.log2<1920/\Q (.str (toString i)) H) uu:=fun O σ S az H ar rs bq aJ Q st ay h q=>by
 unfold uu at h;split at h
 ·rename_i i
  by_cases c:i.natAbs.log2<1920
  ·rw[if_pos c]at h
   cases h;obtain⟨v,rfl,av⟩:=iK ay;exact⟨i,by rw[show v=V.int i from av],c,q O _ H (Go.refl _ _) st rfl trivial⟩
  ·rw[if_neg c]at h;cases h
 ·cases h
section
variable{X:aS}{e:Expr}{m:bj}{lo aC:Option Expr}{hk i0:iu}{pos cR:Pos}
theorem OD(he:cq X e m)(ao:oI X lo hk)(a_:oI X aC i0):cq X (.Subscript e (.Slice lo aC none cR) pos) (ua m hk i0):=⟨Rz he.un ao.un a_.un⟩
end
omit [ak.a7]in
@[simp] theorem afQ{a:bj}{lo aC:iu}{σ:a9}:ua a lo aC σ=(do
 let x <-a σ
 let l <-lo σ
 let h <-aC σ
 yV x l h):=rfl
omit [ak.a7]in
@[simp] theorem afR{l h:Option Int}:yV (.v (.tup xs)) l h=pure (.v (.tup (cutD xs l h))):=rfl
end aN
namespace aN
open PySem PySem.Spec ak
variable[ak.a7]
noncomputable def sG:List h3->Option (List D)
 |[]=>some []|.lf d::cc=>(sG cc).map (d::·)|_::_=>none
omit [ak.a7]in
theorem Ld:∀{cc:List h3}{xs:List D},sG cc=some xs->cc=xs.map .lf
 | [],xs,h=>by cases h;rfl
 |.lf d::cc,xs,h=>by
  unfold sG at h
  cases e:sG cc with
  |none=>rw[e]at h;cases h
  |some ys=>rw[e]at h;cases h;rw[Ld e];rfl
 | .ls _::_,_,h=>by cases h
 | .mE _ _::_,_,h=>by cases h
 | .cL _ _ _::_,_,h=>by cases h
 | .any::_,_,h=>by cases h
 | .kI _::_,_,h=>by cases h
theorem N6:∀{xs:List D}{ys:List V}{n:Nat},eQ K I O H w p n (xs.map .lf) ys->bu K I O H xs ys
 |[],_,_,h=>h| _::_,_,_,h=>by obtain⟨y,r,e,a,b⟩:=h;exact⟨y,r,e,a,N6 b⟩
inductive adu where
 |a8 (σ:a9) | cA (d:D) (σ:a9)
end aN
namespace aN
open PySem PySem.Spec ak PyProof.Rows
def hz(fs xs:List Addr)(h h':Heap):Prop:=∀b o,h.get? b=some o->b∉xs->(b∉fs->h'.get? b=some o)/\∃c6,h'.get? b=some { o with slots:=c6 }
theorem hz.trans{fs xs ys:List Addr}(a:hz fs xs h aj)(b:hz fs ys aj h2):hz fs (xs++ys) h h2:=fun c o e aA=>by
 have vd:c∉xs:=fun z=>aA (aiE _ z)
 have lr:c∉ys:=fun z=>aA (ahp _ z)
 obtain⟨a1,c6,a2⟩:=a c o e vd;refine⟨fun hf=>(b c o (a1 hf) lr).1 hf,?_⟩;obtain⟨_,vK,cG⟩:=b c _ a2 lr;exact⟨vK,cG⟩
theorem hz.mono{fs Jr xs kK:List Addr}(a:hz fs xs h h')(hf:∀b∈fs,b∈Jr)(av:∀b∈xs,b∈kK):hz Jr kK h h':=fun c o e aA=>by
 obtain⟨a1,a2⟩:=a c o e fun z=>aA (av c z)
 exact⟨fun h=>a1 fun z=>h (hf c z),a2⟩
def jg(h:Heap)(e T:Addr)(cls bO:Value):Prop:=∃e8 ar l5 cc,h.get? e=some e8/\e8.cls=cls/\e8.data=.fields ar/\ar[1]? = some (.ref T)/\T≠e/\h.get? T=some l5/\l5.data=.fields cc/\cc[3]? = some bO
theorem jg.there{h:Heap}(x:jg h e T cls bO):∃cL,h.get? e=some cL/\cL.cls=cls:=by
 obtain⟨e8,_,_,_,he,aA,_⟩:=x;exact⟨e8,he,aA⟩
section
variable{M:Model}{A:ahX}{E:dc}{s:ag9}
theorem Cq{base:Heap}{env:Env}{outer:List Env}{L e:Addr}{e8:Obj}{ar:Array Value}{head:Value}{Ua:Bool}{Q:Unit->ag9->Prop}
  (jM:A.frames=some (env::outer)) (ao:s.heap.FunFrames base (env::outer)) (hf:env.frame=some L) (he:s.heap.get? e=some e8) (hd:e8.data=.fields ar) (hsz:1<ar.size)
  (h:∀h' T,hz (ez (env::outer)) [e] s.heap h'->s.heap.objs.size<=T->jg h' e T e8.cls (aip L)->Q () { s with heap:=h' }) :
  wpAny M A (do let a <-frameOf env;let dp <-entryPlaceOf L Ua;let b <-alS head a .none (aip L) .none dp;setField (.ref e) 1 b) Q E s:=by
 have US:e∉(env::outer).filterMap (·.frame):=fun hm=>by
  obtain⟨_,o,aM,lV⟩:=ao.mem hm;rw[he]at aM;injection aM with aM;subst aM;exact lV ar hd
 refine ag2 (wpAny_frameOf_fun jM ao hf fun eA gN=>?_);refine ag2 (wpAny_entryPlaceOf fun dp du=>?_);unfold alS newFields;refine ag2 (aiu ?_ (du.sizeOk5 _ _ _ _ _));have JV:eA.get? e=some e8:=(gN.2.1 e US).trans he;have JW:=ag8 (h:=eA) { cls:=.type "traceback",dict:=none,data:=.fields ([head,.ref L,.none,aip L,.none]++(if dp.isEmpty then ahu 6 ahT else dp)).toArray } JV;refine ai9 JW hd hsz (h _ eA.objs.size ?_ (by rw[gN.1];exact ahg _) ?_)
 ·intro b o U lU
  have lU:b≠e:=fun z=>lU (by simp[z])
  have keep:∀o,eA.get? b=some o->((eA.push { cls:=.type "traceback",dict:=none,data:=.fields ([head,.ref L,.none,aip L,.none]++(if dp.isEmpty then ahu 6 ahT else dp)).toArray }).update e (aiO (·.setIfInBounds 1 (ahy eA.objs.size)))).get? b=some o:=fun o U=>by
   rw[ais _ _ (aiD lU)];exact ag8 _ U
  refine⟨fun lV=>keep o ((gN.2.1 b lV).trans U),?_⟩;obtain⟨c6,aQ⟩:=gN.2.2 b o U;exact⟨c6,keep _ aQ⟩
 ·have iX:eA.objs.size≠e:=alb (ahf JV)
  have JU:=aiL hd (·.setIfInBounds 1 (ahy eA.objs.size));have UT:=ajw (aiO (·.setIfInBounds 1 (ahy eA.objs.size))) JW (ajx JU);have T':=(ais (eA.push { cls:=.type "traceback",dict:=none,data:=.fields ([head,.ref L,.none,aip L,.none]++(if dp.isEmpty then ahu 6 ahT else dp)).toArray })
   (aiO (·.setIfInBounds 1 (ahy eA.objs.size))) (aiD iX)).trans (aho eA rfl)
  exact⟨_,_,_,_,UT,Obj.cls_mapFields _ _,JU,by simp[hsz],iX,T',rfl,by first | (simp;done) | (rcases du with rfl | ⟨_,_,_,_,_,_,_,rfl⟩<;>simp)⟩
theorem X8{base:Heap}{env:Env}{outer:List Env}{L e:Addr}{e8:Obj}{ar:Array Value}{Q:Unit->ag9->Prop}
  (jM:A.frames=some (env::outer)) (ao:s.heap.FunFrames base (env::outer)) (hf:env.frame=some L) (he:s.heap.get? e=some e8) (hd:e8.data=.fields ar) (aj:ar[1]? = some .none)
  (h:∀h' T,hz (ez (env::outer)) [e] s.heap h'->s.heap.objs.size<=T->jg h' e T e8.cls (aip L)->Q () { s with heap:=h' }):wpAny M A (ajn (.ref e) env) Q E s:=by
 unfold ajn;simp only[hf];refine ag2 (ahQ he hd aj ?_);rw[if_neg (by decide)];exact Cq jM ao hf he hd (aid.mp aj).1 h
theorem yS{base:Heap}{env:Env}{outer:List Env}{L e T:Addr}{cls:Value}{Q:Unit->ag9->Prop}
  (jM:A.frames=some (env::outer)) (ao:s.heap.FunFrames base (env::outer)) (hf:env.frame=some L) (bG:jg s.heap e T cls .none)
  (h:∀h' kS,hz (ez (env::outer)) [T,e] s.heap h'->s.heap.objs.size<=kS->jg h' e kS cls (aip L)->Q () { s with heap:=h' }):wpAny M A (ajn (.ref e) env) Q E s:=by
 obtain⟨e8,ar,l5,cc,he,rfl,hd,aj,iX,dn,hh,bz⟩:=bG;unfold ajn;simp only[hf];refine ag2 (ahQ he hd aj ?_);rw[if_pos (show(ahy T != ahT)=true from by simp)];refine ag2 (ahQ dn hh bz ?_);rw[if_neg (show ¬((ahT==aip L)=true)from by simp[aip])];refine ag2 (ai9 dn hh (aid.mp bz).1 ?_);have other:∀b,b≠T->(s.heap.update T (aiO (·.setIfInBounds 3 ahT))).get? b=s.heap.get? b:=fun b U=>ais _ _ (aiD U)
 have Er:∀b o,s.heap.get? b=some o->(∀ar,o.data≠.fields ar)->b≠T:=fun b o U lV q=>by
  rw[q,dn]at U;injection U with U;subst U;exact lV cc hh
 have k0:hz (ez (env::outer)) [T] s.heap (s.heap.update T (aiO (·.setIfInBounds 3 ahT))):=fun b o U hJ=>by
  have hJ:b≠T:=fun z=>hJ (by simp[z])
  exact⟨fun _=>(other b hJ).trans U,o.slots,(other b hJ).trans U⟩
 refine Cq jM (ao.of_keeps fun b o U lV=>⟨o,(other b (Er b o U lV)).trans U,rfl⟩) hf ((other e (aiD iX)).trans he) hd (aid.mp aj).1
  fun h' kS k1 uH t1=>h h' kS (k0.trans k1) (by rw[alm]at uH;exact uH) t1
theorem uw{fs:List Addr}{Q:Unit->ag9->Prop}(bG:jg s.heap e T cls bO)(h:∀h',hz fs [T] s.heap h'->jg h' e T cls .none->Q () { s with heap:=h' }) :
  wpAny M A (aly (.ref e) none) Q E s:=by
 obtain⟨e8,ar,l5,cc,he,aA,hd,aj,iX,dn,hh,bz⟩:=bG;have uW:3<cc.size:=(aid.mp bz).1;have other:∀b,b≠T->(s.heap.update T (aiO (·.setIfInBounds 3 ((none:Option Addr).elim ahT fun f=>aip f)))).get? b=s.heap.get? b:=
  fun b U=>ais _ _ (aiD U)
 unfold aly;refine ag2 (ahQ he hd aj ?_);rw[if_pos (show(ahy T != ahT)=true from by simp)];refine ai9 dn hh uW (h _ (fun b o U hJ=>?_) ?_)
 ·have hJ:b≠T:=fun z=>hJ (by simp[z])
  exact⟨fun _=>(other b hJ).trans U,o.slots,(other b hJ).trans U⟩
 ·exact⟨e8,ar,_,_,(other e (aiD iX)).trans he,aA,hd,aj,iX,ajw _ dn (ajx (aiL hh _)),aiL hh _,by simp[uW]⟩
end
def Pd(h0:Heap)(H:aI)(a:Addr)(cls:Value)(h:Heap):Prop:=∃T,jg h a T cls .none/\(h0.get? a=none/\H a=none)/\h0.get? T=none/\H T=none
noncomputable def gz(P:ahq)(w:World):j9:=fun outer H s E e s'=>∃a cls aa,e=.ref a/\(s'.os=s.os/\ajt s'.gens)/\ak.fC (ez outer) [] H aa s.heap s'.heap/\eC P w aa s'.heap/\Pd s.heap aa a cls s'.heap/\E cls none aa
theorem gg.there{h:Heap}(x:gg P w H h a o):∃cL,h.get? a=some cL:=by
 cases o with
 |lst xs=>obtain⟨_,_,_,_,e⟩:=x;exact⟨_,e⟩
 |tup xs=>obtain⟨_,_,_,cL,e,_⟩:=x;exact⟨_,e⟩
 |d2 aK=>obtain⟨_,_,_,_,o,_,_,e,_⟩:=x;exact⟨_,e⟩
 |kk aK=>obtain⟨_,_,_,_,o,_,_,e,_⟩:=x;exact⟨_,e⟩
 |set S n=>obtain⟨o,_,_,_,e,_⟩:=x;exact⟨_,e⟩
 |ins C jG fs=>obtain⟨_,_,_,e,_⟩:=x;exact⟨_,e⟩
 |own y=>obtain⟨_,e⟩:=x;exact⟨_,e⟩
 |z1 fs=>obtain⟨_,⟨_,_,_,e,_⟩,_⟩:=x;exact⟨_,e⟩
 |zb lo aC=>obtain⟨_,_,_,e⟩:=x;exact⟨_,e⟩
 |cH cL u=>obtain⟨e,_⟩:=x;exact⟨_,e⟩
 |ho ps=>exact⟨_,(show h.get? a=some _ from x)⟩|met f y=>exact⟨_,(show h.get? a=some _ from x)⟩|ext ox=>obtain⟨_,⟨_,e⟩,_⟩:=x;exact⟨_,e⟩
theorem ab5{H:aI}{h:Heap}(ok:eC P w H h)(e:h.get? a=none):H a=none:=by
 cases q:H a with
 |none=>rfl|some o=>obtain⟨cL,bE⟩:=gg.there (ok a o q);rw[e]at bE;cases bE
section
variable{X:aS}{ae:c8}{σ:ak.St}{H H1:aI}{s s1:ag9}{h2:Heap}
theorem ym(J:Inv X ae σ H s)(os:s1.os=s.os)(bare:ajt s1.gens)(un:ak.fC (ez X.stack) [] H H1 s.heap s1.heap)(bp:eC X.prog X.w H1 s1.heap)(av:∀b∈xs,s.heap.get? b=none/\H1 b=none)(k:hz (ez X.stack) xs s1.heap h2) :
  Inv X ae σ H1 { s1 with heap:=h2 }:=by
 have b1:=J.oS (s':=s1) (ch:=[]) os un bp bare (fun b z=>absurd z (by simp));have fr:∀b∈ez X.stack,H1 b=none:=fun b U=>b1.zD b U
 refine J.oS (s':={ s1 with heap:=h2 }) (ch:=[]) os ⟨fun b o e n hf aA=>?_,fun b o e n hf aA=>?_,un.free,fun b o e aA=>?_,un.lC,un.kn,un.lA⟩ (fun b u e=>?_) bare (fun b z=>absurd z (by simp))
 ·exact(k b o (un.keep b o e n hf aA) fun z=>by rw[(av b z).1]at e;cases e).1 hf
 ·obtain⟨c6,aH⟩:=un.slot b o e n hf aA
  obtain⟨_,nc,aT⟩:=k b _ aH fun z=>by rw[(av b z).1]at e;cases e
  exact⟨nc,aT⟩
 ·obtain⟨c_,aH⟩:=un.there b o e aA
  obtain⟨_,nc,aT⟩:=k b _ aH fun z=>by rw[(av b z).1]at e;cases e
  exact⟨_,aT⟩
 ·refine(bp b u e).nd (fun c v aA q=>?_) (fun _ q=>q) fun _ _ q=>q
  have:∃hs,H1 c=some hs:=by
   rcases aA with z | z
   ·rw[z];exact⟨u,e⟩
   ·exact⟨_,z⟩
  obtain⟨hs,bE⟩:=this;exact(k c v q fun z=>by rw[(av c z).2]at bE;cases bE).1 fun z=>by rw[fr c z]at bE;cases bE
end
section
variable{P:ahq}{w:World}{K:a4}{I:br}{base:Heap}{N:List Str}{qual:Str}{scope:Scope}{f:Addr}{cd:Value}{A:ahX}{outer:List Env}{s0:ag9}{j':aI}{E:dH}
structure Lets(X:aS)(E:dH):Prop where
 pass:Passes (gz X.prog X.w) X E
 made:∀(ae:c8)(σ:ak.St)(H:aI)(s:ag9)(h':Heap)(e:Addr)(cls:Value)(args:List Value),Inv X ae σ H s->Heap.MadeExcOf s.heap h' e cls args->E cls none H->X.c2 (.ref e) { s with heap:=h' }
theorem WW:Lets (gJ (gz P w) P w K I base N qual scope f cd A outer s0 j' E) E where
 pass:=by
  rintro ae σ H s e s1 J ⟨a,cls,H1,rfl,⟨os,bare⟩,un,bp,⟨T,t3,⟨na,hy⟩,h_,cS⟩,k8⟩;have b1:=J.oS (s':=s1) (ch:=[]) os un bp bare (fun b z=>absurd z (by simp));show wpAny (model P w) _ (ak8 _ (.ref a)) _ _ s1;unfold ak8;refine ag2 (yS (outer:=outer) b1.ok.frames b1.stack rfl t3 fun aj d0 k1 k_ t1=>?_);refine uw (fs:=ez (gJ (gz P w) P w K I base N qual scope f cd A outer s0 j' E).stack) t1 fun h2 k2 en=>?_
  have kN:H1 d0=none:=b1.bp.fresh k_;have kB:s.heap.get? d0=none:=by
   cases q:s.heap.get? d0 with
   |none=>rfl| some o=>obtain⟨c_,bE⟩:=un.there d0 o q (by simp);exact absurd (ahf bE) (aj1.mpr k_)
  have ka:=ym J os bare un bp (xs:=[T,a]++[d0]) (fun b U=>by
   simp only[aio,ai0,aha,aiT,or_false]at U;rcases U with rfl | rfl | rfl
   ·exact⟨h_,cS⟩
   ·exact⟨na,hy⟩
   ·exact⟨kB,kN⟩) (k1.trans k2)
  have m5:∀b,s.heap.get? b=none->s0.heap.get? b=none:=fun b U=>by
   cases q:s0.heap.get? b with
   |none=>rfl| some o=>obtain⟨c_,bE⟩:=J.base.there b o q (by intro z;exact absurd (show b∈([]:List Addr)from z) (by simp));rw[U]at bE;cases bE
  exact⟨a,cls,H1,rfl,⟨ka.os,ka.bare⟩,ka.base,ka.bp,⟨d0,en,⟨m5 a na,hy⟩,m5 d0 kB,kN⟩,k8⟩
 made:=by
  intro ae σ H s h' e cls args J av k8;have b1:Inv (gJ (gz P w) P w K I base N qual scope f cd A outer s0 j' E) ae σ H { s with heap:=h' }:=J.kept (t':=s.toks) av.keeps;obtain⟨t,he,_,_⟩:=av.there;have hy:H e=none:=ab5 J.bp av.new;show wpAny (model P w) _ (ak8 _ (.ref e)) _ _ _;unfold ak8;refine ag2 (X8 (outer:=outer) b1.ok.frames b1.stack rfl he rfl rfl fun aj d0 k1 k_ t1=>?_);refine uw (fs:=ez (gJ (gz P w) P w K I base N qual scope f cd A outer s0 j' E).stack) t1 fun h2 k2 en=>?_
  have kN:H d0=none:=b1.bp.fresh k_;have kB:s.heap.get? d0=none:=by
   cases q:s.heap.get? d0 with
   |none=>rfl|some o=>exact absurd (ahf (av.keeps _ _ q)) (aj1.mpr k_)
  have ka:=ym J (s1:={ s with heap:=h' }) rfl J.bare (ak.fC.kept av.keeps) b1.bp (xs:=[e]++[d0]) (fun b U=>by
   simp only[aio,ai0,aha,aiT,or_false]at U;rcases U with rfl | rfl
   ·exact⟨av.new,hy⟩
   ·exact⟨kB,kN⟩) (k1.trans k2)
  have m5:∀b,s.heap.get? b=none->s0.heap.get? b=none:=fun b U=>by
   cases q:s0.heap.get? b with
   |none=>rfl| some o=>obtain⟨c_,bE⟩:=J.base.there b o q (by intro z;exact absurd (show b∈([]:List Addr)from z) (by simp));rw[U]at bE;cases bE
  exact⟨e,cls,H,rfl,⟨ka.os,ka.bare⟩,ka.base,ka.bp,⟨d0,en,⟨m5 e av.new,hy⟩,m5 d0 kB,kN⟩,k8⟩
end
theorem YL{K:a4}{h:Heap}{I:br}{x:Str}{C:Addr}{H3:List Value}{newId:String}(X:K.In h)(e:I x=some (.ref C))(q:W.excIn K C H3 newId=true):OwnCls x C H3 newId I h:=by
 refine⟨e,?_⟩;unfold W.excIn at q;split at q
 ·rename_i dd cd c6 aM
  split at q
  ·rename_i nj bm k0 k1 k2 k3 n k5 hm aQ
   simp only[ahn,beq_iff_eq,Bool.not_eq_true']at q;obtain⟨⟨⟨⟨⟨rfl,rfl⟩,JT⟩,bG⟩,bp⟩,yc⟩:=q;obtain⟨nm,bs,mro,ns,ti,hd,sn,sub,ab,col,del⟩:=cd;dsimp only at hm JT bp yc;subst hm JT;have Vn:c6=#[k0,k1,k2,k3,some (.builtin n),k5]:=by
    obtain⟨l⟩:=c6;simp only at aQ;rw[aQ]
   subst Vn;exact⟨bm,ns,nm,ti,bs,hd,sn,sub,ab,col,dd,k0,k1,k2,k3,k5,_,X _ _ aM,.of_isNs (W.isNs_of_in X bp),W.nsMap_none_of_in X bp yc,W.tail_of_in X bG⟩
  ·cases q
 ·cases q
noncomputable abbrev QJ:List Value:=[.type "ValueError",.type "Exception",.type "BaseException",.type "object"]
structure wx(K:a4)(I:br)(x:Str)(C:Addr):Prop where
 at':I x=some (.ref C)
 ok:W.excIn K C QJ "ValueError.__new__"=true
section
variable{X:aS}{x:Str}{C:Addr}{ep:Expr}{rest:List Expr}{t:f3}{np cu pos:Pos}{E:dH}
theorem Zx(V:wx X.K X.I x C)(aA:X.calm=true)(a':dC X x)(L:Lets X E)(ax:g_ X (ep::rest) t)(he:ag6 (ep::rest) X.env=(false,eval ep X.env)::ag6 rest X.env:=by rfl)
  (ku:(ahN cu (ag6 rest X.env)).any (·.1)=false:=by rfl) (da:(x==("__debug__":Str))=false:=by decide) :
  jf X (.Raise (some (.Call (.Name x np) (ep::rest) [] cu)) none pos) (fun _ σ H=>t σ H fun ar H1=>ar.length<=ag5/\E (.ref C) none H1):=by
 intro ae s σ H D J h;obtain⟨gw,N,nm,q,bs,hdct,sn,sub,ab,col,dd,k0,k1,k2,k3,k5,mN,uE,bY,yc,T⟩:=(YL J.ok.mod.qL V.at' V.ok).obj;have B:=PySem.F.excBase_ValueError;refine wpAny_Raise_call_subU (C:=C) (nm:=nm) (q:=q) (N:=N) (bs:=bs) (bm:=gw) (hdct:=hdct) (sn:=sn) (sub:=sub) (ab:=ab) (col:=col) (dd:=dd) (k0:=k0) (k1:=k1) (k2:=k2) (k3:=k3) (k5:=k5)
  B (by decide +kernel) B (mN:=mN) (T.hasType B.hasBase) (J.ok.hd aA) (by rw[he];show(false||(ahN cu (ag6 rest X.env)).any (·.1))=false;rw[ku];rfl) yc (sD J a' V.at' ⟨rfl,?_⟩ da)
 have JB:=ax cu ae s σ H _ J h;rw[he]at JB ⊢;refine ajB (ahZ JB (fun us s1 ⟨ar,H1,bc,r,aX,k8⟩=>?_) fun _ _ y=>y);exact⟨rfl,by rw[<-r.length];exact aX,bc.fM _ _ uE,bY.keeps bc.fM,T.keeps bc.fM,fun h' e hm=>L.made ae σ H1 s1 h' e _ _ bc hm k8⟩
end
end aN
namespace aN
open PySem PySem.Spec ak PyProof.Rows
variable[ak.a7]
inductive Py where
 |ret (d:D) | exc
noncomputable abbrev adw:=List D->M Py
inductive Pe where
 |a8 (σ:a9) | cA (d:D) | ex
noncomputable abbrev Pp:=a9->M Pe
structure eN(P:ahq)(w:World)(K:a4)(I:br)(base:Heap)(x:Str)(ps:List Str)(k:Nat)(sp:gG):Prop where
 ex:∃f fd,gB P w K I base (gz P w) k f fd ps sp/\Binds K fd ps []/\ald K (.ref f)=true/\I x=some (.ref f)
theorem eN.mono{P:ahq}{w:World}{K:a4}{I:br}{base:Heap}{x:Str}{ps:List Str}{k j:Nat}{sp:gG}(h:eN P w K I base x ps k sp)(bV:k<=j):eN P w K I base x ps j sp:=by
 obtain⟨f,fd,F,r⟩:=h.ex;exact⟨f,fd,F.mono bV,r⟩
section
variable{X:aS}{E:dH}{pos p:Pos}{b:Pp}{x:Str}{ps:List Str}{k:Nat}{e:Expr}{aE:List Expr}
theorem vt{sp:gG}{t:f3}(h:eN X.prog X.w X.K X.I X.base x ps k sp)(ay:eh k X.A)(a':dC X x)(L:Passes (gz X.prog X.w) X E)(ax:g_ X (e::aE) t)(da:(x==("__debug__":Str))=false:=by decide)
  (he:ag6 (e::aE) X.env=(false,eval e X.env)::ag6 aE X.env:=by rfl) (du:(ahN pos (ag6 aE X.env)).any (·.1)=false:=by rfl):b3 X (.Call (.Name x p) (e::aE) [] pos) (fun σ H Q=>t σ H fun ar H1=>sp ar H1 Q E):=by
 obtain⟨f,fd,F,b,cv,m⟩:=h.ex;intro ae s σ H Q J bf;refine Mo (dvs:=[]) (ds:=[]) F ay a' m cv b .nil L ax da he du ae s σ H Q J ?_;have mT:t σ H fun ar H1=>sp ar H1 Q E:=bf
 show t σ H fun ar H1=>sp (ar++[]) H1 Q E
 simpa only[ahl]using mT
end
noncomputable abbrev aS.held(X:aS)(a:Addr)(c2:dc):aS:={ X with A:=X.A.mark (some (.ref a)),calm:=false,c2:=c2 }
section
variable{X:aS}{ae:c8}{σ:ak.St}{H:aI}{s:ag9}{a:Addr}{c2:dc}
theorem Kd(J:ak.Inv X ae σ H s):ak.Inv (aS.held X a c2) ae σ H s:=
 ⟨⟨J.ok.mod,J.ok.kind,J.ok.glob,J.ok.blt,J.ok.above,J.ok.inj,J.ok.has,J.ok.oR,fun z=>Bool.noConfusion (show false=true from z),J.ok.frames,J.ok.pR,J.ok.nM,J.ok.bs,J.ok.kU,J.ok.pH,J.ok.nN,J.ok.jJ,J.ok.nS⟩,J.os,J.bare,J.base,J.loc,J.cell,J.free,J.iA,J.pin,J.bp,J.len⟩
theorem VN(ok:X.Ok)(J:ak.Inv (aS.held X a c2) ae σ H s):ak.Inv X ae σ H s:=⟨ok,J.os,J.bare,J.base,J.loc,J.cell,J.free,J.iA,J.pin,J.bp,J.len⟩
end
end aN
namespace aN
open PySem PySem.Spec ak PyProof.Rows
section
variable{X:aS}
theorem Lx:nA X "str.startswith" (fun x xs H Q=>∃y z,x=.str y/\xs=[.str z]/\Q (.aB (aja y z)) H):=by
 intro ae s σ H x xs v us Q J a0 rs ⟨y,z,ex,d_,q⟩;subst ex d_;obtain⟨t,rfl⟩:=a0;obtain⟨u,rfl,t',rfl⟩:=vals1 rs;exact SC.startswith ⟨.aB _,H,J,rfl,q⟩
theorem NV:∀{xs:List Str}{us:List Value},Vals (xs.map V.str) us->∃l:List (Str×Tok),us=strValues l/\l.map (·.1)=xs
 | [],us,h=>by cases h;exact⟨[],rfl,rfl⟩
 |x::xs,us,h=>by
  cases h with
  |cons r bD=>
   obtain⟨t,rfl⟩:=r;obtain⟨l,rfl,e⟩:=NV bD;exact⟨(x,t)::l,rfl,by rw[ahi,e]⟩
theorem Lv:nA X "str.join" (fun x xs H Q=>∃y p zs,x=.str y/\xs=[.ref p]/\dD X.K H p (zs.map V.str)/\akq y zs=true/\Q (.str (aky y zs)) H):=by
 intro ae s σ H x xs v us Q J a0 rs ⟨y,p,zs,ex,d_,ao,bV,q⟩;subst ex d_;obtain⟨t,rfl⟩:=a0;obtain⟨u,rfl,a0⟩:=vals1 rs;cases a0;obtain⟨its,bZ,dp,aX⟩:=J.list ao;obtain⟨l,aH,aT⟩:=NV bZ;subst aH;exact SC.join (l:=l) dp.isList aT bV fun t' k=>⟨.str _,H,J.tok _,⟨_,rfl⟩,q⟩
theorem QU:g7 X (.type "int") (fun xs H Q=>∃x n,xs=[.str x]/\akz x=some n/\x.length<=640/\Q (.int n) H):=by
 intro ae s σ H xs us Q J r ⟨x,n,ex,aR,ao,q⟩;subst ex;obtain⟨u,rfl,t,rfl⟩:=vals1 r;exact W.KIN.call_text aR ao ⟨.int n,H,J.tok _,⟨_,rfl⟩,q⟩
noncomputable def ch(c:Nat):Str:=⟨#[c]⟩
noncomputable def rD(z:Str):iP:=⟨fun i _=>i<z.cps.size,fun i H x aa=>aa=H/\∃c,z.cps[i]? = some c/\x=.str (ch c),fun i _=>z.cps.size<=i⟩
theorem N_{P:ahq}{w:World}{K:a4}{cV:Expr}(z:Str)(t:Tok)(it:Addr):Turn P w K cV (rD z) [it] it (fun i h=>(h.IsStrIter it "str_ascii_iterator" z t i)\/h.IsStrIter it "str_iterator" z t i) where
 mem:=by simp
 obj:=fun i h st b U=>by
  have e:b=it:=by simpa using U
  subst e;rcases st with⟨o,e,c,d⟩ | ⟨o,e,c,d⟩<;>exact⟨o,e,fun v z=>by rw[d]at z;cases z⟩
 keep:=fun i h h' st k=>by
  rcases st with⟨o,e,c,d⟩ | ⟨o,e,c,d⟩
  ·exact .inl ⟨o,k it (by simp) o e,c,d⟩
  ·exact .inr ⟨o,k it (by simp) o e,c,d⟩
 item:=by
  intro X fP hw f' aA i ae s σ H E J hf st a';subst fP hw f';have a':i<z.cps.size:=a';obtain⟨f0,f1,f2,hc,f4,hG⟩:=hf it (by simp);have av:z.cps[i]? = some z.cps[i]:=by simp[a']
  rcases st with st | st
  ·refine wpAny_pyNext_ascii_item st av fun h' b2 i5=>?_
   have bc:Inv X ae σ H { s with heap:=h',toks:=s.toks+1 }:=J.turned (t':=s.toks+1) (fun b o U e=>(i5.2 b U).trans e) f0 f1 hc f4 hG;obtain⟨o,e,c,d⟩:=id b2;exact⟨_,rfl,uB (s:={ s with heap:=h',toks:=s.toks+1 }) e c d (by decide) ⟨.str (ch z.cps[i]),H,bc,⟨_,rfl⟩,⟨rfl,_,av,rfl⟩,.inl b2,fun b U=>(hf b U).1⟩⟩
  ·refine wpAny_pyNext_wide_item st av fun h' b2 i5=>?_
   have bc:Inv X ae σ H { s with heap:=h',toks:=s.toks+1 }:=J.turned (t':=s.toks+1) (fun b o U e=>(i5.2 b U).trans e) f0 f1 hc f4 hG;obtain⟨o,e,c,d⟩:=id b2;exact⟨_,rfl,uB (s:={ s with heap:=h',toks:=s.toks+1 }) e c d (by decide) ⟨.str (ch z.cps[i]),H,bc,⟨_,rfl⟩,⟨rfl,_,av,rfl⟩,.inr b2,fun b U=>(hf b U).1⟩⟩
 done:=by
  intro X fP hw f' aA i ae s σ H E J hf st a';subst fP hw f';have a':z.cps.size<=i:=a';obtain⟨f0,f1,f2,hc,f4,hG⟩:=hf it (by simp);have av:z.cps[i]? = none:=by simp[a']
  rcases st with st | st
  ·exact wpAny_pyNext_ascii_end (J.ok.hd aA) st av fun h' dS=>⟨rfl,J.turned (t':=s.toks) (fun b o U e=>dS b o U e) f0 f1 hc f4 hG⟩
  ·exact wpAny_pyNext_wide_end (J.ok.hd aA) st av fun h' dS=>⟨rfl,J.turned (t':=s.toks) (fun b o U e=>dS b o U e) f0 f1 hc f4 hG⟩
 self:=fun _ _ _ _ _ st h=>by
  rcases st with st | st
  ·exact wpAny_pyIter_striter_ascii st h
  ·exact wpAny_pyIter_striter_wide st h
theorem Ze(ao:b3 X l gw):kP X cV l (fun σ H R=>gw σ H fun x H1=>∃z,x=.str z/\R (rD z) H1):=by
 intro ae s σ H R J h;refine b0 (ao ae s σ H _ J h) fun v s1 ⟨x,H1,bc,bK,bh⟩=>?_
 obtain⟨z,e,q⟩:=bh;subst e;obtain⟨t,rfl⟩:=bK;have fin:∀b∈[s1.heap.objs.size],fY X ae H1 b:=fun b U=>by
  have e:b=s1.heap.objs.size:=by simpa using U
  subst e;exact bc.o2 (ahg _) (bc.bp.fresh (ahg _))
 cases ax:z.cps.all (· < 128)with
 |true=>
  refine wpAny_pyIter_ascii ax ?_;exact⟨s1.heap.objs.size,[s1.heap.objs.size],_,_,H1,rfl,bc.kept (t':=s1.toks) fun b o e=>ag8 _ e,N_ z t _,.inl ⟨_,aho _ rfl,rfl,rfl⟩,fin,q⟩
 |false=>
  refine wpAny_pyIter_wide ax ?_;exact⟨s1.heap.objs.size,[s1.heap.objs.size],_,_,H1,rfl,bc.kept (t':=s1.toks) fun b o e=>ag8 _ e,N_ z t _,.inr ⟨_,aho _ rfl,rfl,rfl⟩,fin,q⟩
end
noncomputable def xn(z:Str):List D:=z.cps.toList.map fun c=>D.str (ch c)
noncomputable def nI(z:Str):List V:=z.cps.toList.map fun c=>V.str (ch c)
theorem VY(z:Str)(H:aI)(i:Nat):(i<(nI z).length->(rD z).go i H/\∀x aa,(rD z).tA i H x aa->aa=H/\(nI z)[i]? = some x)/\((nI z).length<=i->(rD z).stop i H):=by
 have ao:(nI z).length=z.cps.size:=by unfold nI;rw[ag4,aiv]
 rw[ao];refine⟨fun aC=>⟨aC,fun x aa ⟨e,c,aj,h2⟩=>⟨e,?_⟩⟩,fun aC=>aC⟩;subst h2;unfold nI;rw[ahA,alG,aj];rfl
variable[ak.a7]
theorem RL{K:a4}{I:br}{O:b9}{H:aI}(z:Str):bu K I O H (xn z) (nI z):=by
 unfold xn nI
 induction z.cps.toList with
 |nil=>rfl|cons c r bk=>exact⟨_,_,rfl,rfl,bk⟩
noncomputable def pd(m:bj):g9:=fun σ=>do
 let r <-m σ
 match r with
 |.v (.str z)=>pure (xn z)|_=>bad
section
variable{X:aS}{cV l:Expr}{m:bj}
theorem Q7(ao:cg X l m):rA X cV l (pd m):=q8 (Ze ao)<|by
 rintro az H R ⟨O,σ,S,xs,aJ,st,h,q⟩;obtain⟨r,a6,aj,h⟩:=M.inv h;split at h
 ·rename_i z
  cases h;refine⟨O,σ,S,_,_,st,aj,fun aY v H1 g1 a3 bD nn=>⟨z,bD,?_⟩⟩;exact q aY H1 (rD z) (nI z) g1 a3 (fun aZ _ i=>VY z aZ i) (RL z)
 ·cases h
theorem Gk(ao:cq X l m):tU X cV l (pd m):=⟨Q7 ao.un⟩
end
noncomputable def jF(f:R->List R->M R)(a:bj)(ms:cQ):bj:=fun σ=>do
 let x <-a σ
 let rs <-ms σ
 f x rs
def rz(K:a4)(I:br)(r:V->List V->aI->cY->Prop)(f:R->List R->M R):Prop:=
 ∀O σ S az H x xs a0 rs bq aJ (Q:cY),cj K I O σ S az H->fZ K I O H a0 x->h1 K I O H rs xs->(f a0 rs).run S=.ok bq aJ->p_ K I O σ aJ az H bq Q->r x xs H Q
def rG(f:R->List R->M R):Prop:=∀a0 rs S bq aJ,(f a0 rs).run S=.ok bq aJ->∃z,a0=.v (.str z)
section
variable{X:aS}{o e:Expr}{aE:List Expr}{a:bj}{ms:cQ}{name:Str}{apos cu:Pos}{id:String}{r:V->List V->aI->cY->Prop}{f:R->List R->M R}
theorem RB(slot:akl "str" name id)(jq:akG (.builtin id)=pure (.type "method_descriptor"))(hm:nA X id r)(hf:rz X.K X.I r f)(os:rG f)(aM:cg X o a)(ax:jb X (e::aE) ms)
  (hK:aiq o name X.env (eval o X.env)=eval o X.env:=by rfl)
  (nV:((ahN cu (ag6 (e::aE) X.env)).all (fun x=>!x.1)&&(aku cu (ajI [] X.env)).all (fun x=>x.1.isSome)
&&decide ((e::aE).length+([]:List ai7).length+(if([]:List ai7).isEmpty then 0 else 1)<30))=true:=by rfl)
  (hL:(apos.endLine==cu.line)=true:=by rfl) (aQ:ag6 (e::aE) X.env=(false,eval e X.env)::ag6 aE X.env:=by rfl) (ku:(ahN cu (ag6 aE X.env)).any (·.1)=false:=by rfl) :
  cg X (.Call (.Attribute o name apos) (e::aE) [] cu) (jF f a ms):=et (Mm PySem.F.plainAttrs_str slot jq hm aM ax hK nV hL aQ ku)<|by
 rintro az H Q ⟨O,σ,S,bq,aJ,st,h,q⟩;obtain⟨x,a6,aj,h⟩:=M.inv h;obtain⟨rs,bS,h2,h⟩:=M.inv h;refine⟨O,σ,S,x,a6,st,aj,fun aY fy H1 g1 a3 a0 a8=>?_⟩;obtain⟨z,rfl⟩:=os _ _ _ _ _ h;cases(show fy=.str z from a0);refine⟨rfl,aY,σ,a6,rs,bS,a3,h2,fun bt ar aZ g2 cW bD nn=>?_⟩;exact hf bt σ bS az aZ _ ar _ rs bq aJ Q cW (show fZ X.K X.I bt aZ (.v (.str z)) (.str z)from rfl) bD h fun aD v aa g b2 E4 Ep=>q aD v aa ((g1.trans g2).trans g) b2 E4 (Ep.back (g1.trans g2).same)
theorem rp(slot:akl "str" name id)(jq:akG (.builtin id)=pure (.type "method_descriptor"))(hm:nA X id r)(hf:rz X.K X.I r f)(os:rG f)(aM:cq X o a)(ax:f6 X (e::aE) ms)
  (hK:aiq o name X.env (eval o X.env)=eval o X.env:=by rfl)
  (nV:((ahN cu (ag6 (e::aE) X.env)).all (fun x=>!x.1)&&(aku cu (ajI [] X.env)).all (fun x=>x.1.isSome)
&&decide ((e::aE).length+([]:List ai7).length+(if([]:List ai7).isEmpty then 0 else 1)<30))=true:=by rfl)
  (hL:(apos.endLine==cu.line)=true:=by rfl) (aQ:ag6 (e::aE) X.env=(false,eval e X.env)::ag6 aE X.env:=by rfl) (ku:(ahN cu (ag6 aE X.env)).any (·.1)=false:=by rfl) :
  cq X (.Call (.Attribute o name apos) (e::aE) [] cu) (jF f a ms):=⟨RB slot jq hm hf os aM.un ax.un hK nV hL aQ ku⟩
end
noncomputable def mK(x:R)(rs:List R):M R:=match x,rs with
 |.v (.str y),[.v (.str z)]=>pure (.v (.aB (aja y z)))|_,_=>bad
noncomputable def l':List D->Option (List Str)
 |[]=>some []|.str x::ds=>(l' ds).map (x::·)|_::_=>none
noncomputable def oZ(x:R)(rs:List R):M R:=match x,rs with
 |.v (.str y),[l]=>match l.gb.bind l' with
  |some zs=>if akq y zs=true then pure (.v (.str (aky y zs)))else bad|none=>bad
 |_,_=>bad
theorem Me:rG mK:=fun a0 rs S bq aJ h=>by
 unfold mK at h;split at h
 ·exact⟨_,rfl⟩
 ·cases h
theorem Mc:rG oZ:=fun a0 rs S bq aJ h=>by
 unfold oZ at h;split at h
 ·exact⟨_,rfl⟩
 ·cases h
section
variable{K:a4}{I:br}
theorem H6:rz K I (fun x xs H Q=>∃y z,x=.str y/\xs=[.str z]/\Q (.aB (aja y z)) H) mK:=fun O σ S az H x xs a0 rs bq aJ Q st av ay h q=>by
 unfold mK at h;split at h
 ·rename_i y z
  cases h;obtain⟨v,rfl,bF⟩:=iK ay;exact⟨y,z,av,by rw[show v=V.str z from bF],q O _ H (Go.refl _ _) st rfl trivial⟩
 ·cases h
theorem NW:∀{ds:List D}{ys:List V}{zs:List Str},bu K I O H ds ys->l' ds=some zs->ys=zs.map V.str
 | [],ys,zs,h,e=>by cases e;exact h
 |d::ds,ys,zs,h,e=>by
  obtain⟨y,r,rfl,aj,h2⟩:=h
  cases d with
  |str x=>
   have e:(l' ds).map (x::·)=some zs:=e
   cases aH:l' ds with
   |none=>rw[aH]at e;cases e
   |some ws=>
    rw[aH]at e;cases e;rw[NW h2 aH,show y=V.str x from aj];rfl
  |_=>cases e
theorem H4:rz K I (fun x xs H Q=>∃y p zs,x=.str y/\xs=[.ref p]/\dD K H p (zs.map V.str)/\akq y zs=true/\Q (.str (aky y zs)) H) oZ:=fun O σ S az H x xs a0 rs bq aJ Q st av ay h q=>by
 unfold oZ at h;split at h
 ·rename_i y l
  split at h
  ·rename_i zs e
   by_cases c:akq y zs=true
   ·rw[if_pos c]at h
    cases h;obtain⟨v,rfl,bF⟩:=iK ay;obtain⟨ds,aH,aT⟩:=aj3.mp e;obtain⟨a,ys,rfl,bP,ck⟩:=R.qP bF aH;rw[NW ck aT]at bP;exact⟨y,a,zs,av,rfl,bP,c,q O _ H (Go.refl _ _) st rfl trivial⟩
   ·rw[if_neg c]at h;cases h
  ·cases h
 ·cases h
noncomputable def ur:List R->M R
 |[.v (.str x)]=>match akz x with
  |some n=>if x.length<=640 then pure (.v (.int n))else bad|none=>bad
 |_=>bad
theorem We:ip K I (fun xs H Q=>∃x n,xs=[.str x]/\akz x=some n/\x.length<=640/\Q (.int n) H) ur:=fun O σ S az H ar rs bq aJ Q st ay h q=>by
 unfold ur at h;split at h
 ·rename_i x
  split at h
  ·rename_i n Co
   by_cases c:x.length<=640
   ·rw[if_pos c]at h
    cases h;obtain⟨v,rfl,bF⟩:=iK ay;exact⟨x,n,by rw[show v=V.str x from bF],Co,c,q O _ H (Go.refl _ _) st rfl trivial⟩
   ·rw[if_neg c]at h;cases h
  ·cases h
 ·cases h
noncomputable def pT(i j:Str):Bool:=!(ain j i 0 j.length 1).isEmpty
noncomputable def m7(neg:Bool):R->R->M R
 |.v (.str i),.v (.str j)=>pure (.v (.aB (neg ^^ pT i j)))|_,_=>bad
theorem PS:dB K I (fun x y H Q=>∃i j,x=.str i/\y=.str j/\Q (.aB (!(ain j i 0 j.length 1).isEmpty)) H) (m7 false):=fun O σ S az H x y a0 bx bq aJ Q st av bo h q=>by
 unfold m7 at h;split at h
 ·rename_i i j
  cases h;refine⟨i,j,av,bo,?_⟩;have:(!(ain j i 0 j.length 1).isEmpty)=(false ^^ pT i j):=by unfold pT;simp
  rw[this];exact q O _ H (Go.refl _ _) st rfl trivial
 ·cases h
theorem PT:dB K I (fun x y H Q=>∃i j,x=.str i/\y=.str j/\Q (.aB (!(!(ain j i 0 j.length 1).isEmpty))) H) (m7 true):=fun O σ S az H x y a0 bx bq aJ Q st av bo h q=>by
 unfold m7 at h;split at h
 ·rename_i i j
  cases h;refine⟨i,j,av,bo,?_⟩;have:(!(!(ain j i 0 j.length 1).isEmpty))=(true ^^ pT i j):=by unfold pT;simp
  rw[this];exact q O _ H (Go.refl _ _) st rfl trivial
 ·cases h
end
end aN
namespace aN
open PySem PySem.Spec ak PyProof.Rows
def tN(K:a4)(I:br)[ak.a7](d:D)(u:Value):Prop:=∃v,RelV v u/\∀O H,Rep K I O H d v
structure KTab(P:ahq)(w:World)(K:a4)(I:br)[ak.a7](x:Str)(ps:List (Str×D)):Prop where
 ex:∃(a:Addr)(aE:Array akH)(n:Nat),(I x=some (.ref a)/\(a==aiI)=false)/\alB a K=some { cls:=.type "dict",data:=.dict aE n }/\KeysOf (akT P w) aE/\
  ∀k,match ps.lookup k with
   |some d=>∃u,findBy aib aE k=some u/\tN K I d u|none=>findBy aib aE k=none
variable[ak.a7]
noncomputable def Ah(K:a4)(I:br):List (Str×D)->List akH->Prop
 |[],aE=>aE=[]|p::ps,aE=>∃e r,aE=e::r/\(∃t,e.key=.str p.1 t)/\tN K I p.2 e.val/\Ah K I ps r
theorem KA{K:a4}{I:br}{k:Str}:∀{ps:List (Str×D)}{aE:List akH},Ah K I ps aE->match ps.lookup k with
   |some d=>∃u,(aE.find? fun e=>aib k e.key).map (·.val)=some u/\tN K I d u|none=>(aE.find? fun e=>aib k e.key).map (·.val)=none
 | [],aE,h=>by cases h;rfl
 |p::ps,aE,h=>by
  obtain⟨e,r,rfl,⟨t,gL⟩,Wy,ay⟩:=h;have bk:=KA (k:=k) ay;obtain⟨tg,kE⟩:=p;rw[ah1,aiM,gL]
  by_cases c:k=tg
  ·subst c
   have aH:(k==k)=true:=by simp
   have aT:aib k (.str k t)=true:=by show(k==k)=true;simp
   rw[aH,aT];exact⟨_,rfl,Wy⟩
  ·have aH:(k==tg)=false:=by simpa using c
   have aT:aib k (.str tg t)=false:=by
    show(tg==k)=false;simp only[beq_eq_false_iff_ne,ne_eq];exact fun z=>c z.symm
   rw[aH,aT];exact bk
theorem KI{P:ahq}{w:World}{K:a4}{h:Heap}{I:br}{x:Str}{d:Addr}{aE:Array akH}{n:Nat}{ps:List (Str×D)}(X:K.In h)(G:h.Ns air I)
  (a:W.nsIn K air x=some (some (.ref d))) (aQ:(d==aiI)=false) (l:alB d K=some { cls:=.type "dict",data:=.dict aE n }) (k:∀e∈aE.toList,∃s,aib s e.key=true/\e.hash=hashStr w s)
  (f:Ah K I ps aE.toList):KTab P w K I x ps:=by
 refine⟨d,aE,n,⟨W.mg_of X G a,aQ⟩,l,fun e he=>?_,fun k=>?_⟩
 ·obtain⟨s,aj,h2⟩:=k e (by simpa using he)
  exact⟨s,aj,h2⟩
 ·have z:=KA (k:=k) f
  have:∀k:Str,findBy aib aE k=(aE.toList.find? fun e=>aib k e.key).map (·.val):=fun k=>by
   unfold findBy;obtain⟨l⟩:=aE;rw[List.find?_toArray]
  rw[this];exact z
theorem mW{K:a4}{I:br}{i:Int}{t:Tok}:tN K I (.int i) (.int i t):=⟨.int i,⟨t,rfl⟩,fun _ _=>rfl⟩
noncomputable def Aj:List Str->List Value->Prop
 |[],us=>us=[]|x::xs,us=>∃t r,us=.str x t::r/\Aj xs r
theorem KH:∀{xs:List Str}{us:List Value},Aj xs us->Vals (xs.map V.str) us
 | [],us,h=>by cases h;exact .nil
 | x::xs,us,h=>by obtain⟨t,r,rfl,q⟩:=h;exact .cons ⟨t,rfl⟩ (KH q)
theorem n2{K:a4}{I:br}{xs:List Str}{a:Addr}{its:Array Value}{n:Nat}{hO:Option Addr}{kD:Array (Option Value)}(l:alB a K=some ⟨.type "tuple",hO,.seq its n,kD⟩)(aX:its.size<=ag5)(h:Aj xs its.toList) :
  tN K I (.tup (xs.map D.str)) (.ref a):=by
 refine⟨.ref a,rfl,fun O H=>⟨a,xs.map V.str,rfl,.inr ⟨_,its,n,l,rfl,rfl,aX,KH h⟩,?_⟩⟩
 induction xs with
 |nil=>rfl| cons x r bk=>exact⟨_,_,rfl,rfl,by
   clear bk h
   induction r with
   |nil=>rfl| cons y q bk=>exact⟨_,_,rfl,rfl,bk⟩⟩
noncomputable def oQ(neg:Bool)(ps:List (Str×D))(mk:bj):bj:=fun σ=>do
 let k <-mk σ
 match k with
 |.v (.str z)=>pure (.v (.aB (neg ^^ (ps.lookup z).isSome)))|_=>bad
section
variable{X:aS}{x:Str}{ps:List (Str×D)}{i:Expr}{pos p:Pos}{mk:bj}
theorem in_tab(T:KTab X.prog X.w X.K X.I x ps)(a':dC X x)(aC:b3 X i (fw X.K X.I mk))(da:(x==("__debug__":Str))=false){ae:c8}{s:ag9}{σ:ak.St}{H:aI}{Q:cY}(J:ak.Inv X ae σ H s)
  (h:fw X.K X.I (oQ false ps mk) σ H Q) :
  wpAny (model X.prog X.w) X.A (eval i X.env) (fun lY s1=>wpAny (model X.prog X.w) X.A (eval (.Name x p) X.env) (fun u s2=>wpAny (model X.prog X.w) X.A (ahB .In lY u) (gA X ae σ Q) X.c2 s2) X.c2 s1) X.c2 s:=by
 obtain⟨O,σ',S,r,aJ,st,h,q⟩:=h;obtain⟨y,a6,aj,h⟩:=M.inv h;split at h
 ·rename_i z
  cases h;obtain⟨a,aE,n,⟨hm,Du⟩,ao,aL,hf⟩:=T.ex;refine b0 (aC ae s σ H (fun v H1=>v=.str z/\∃aY,Go O aY H H1/\cj X.K X.I aY σ' aJ σ H1) J ⟨O,σ',S,_,_,st,aj,fun aY v H1 g1 a3 bD nn=>⟨bD,aY,g1,a3⟩⟩) fun lY s2 ⟨y,aZ,cZ,bx,d_,aY,g1,a3⟩=>?_
  subst d_;obtain⟨t,rfl⟩:=bx;refine sD cZ a' hm ?_ da;have ax:=cZ.gO a _ ao;refine wpAny_in_of (knd:=akT X.prog X.w) (k:=z) (f:=findBy aib aE) ?_ Du ⟨_,aE,n,ax,⟨rfl,rfl,rfl⟩,rfl,aL,fun _=>rfl⟩ ?_
  ·show(z==z)=true
   simp
  ·have e:(findBy aib aE z).isSome=(false ^^ (ps.lookup z).isSome):=by
    have:=hf z
    cases aH:ps.lookup z with
    |none=>rw[aH]at this;rw[this];rfl|some d=>rw[aH]at this;obtain⟨u,aT,_⟩:=this;rw[aT];rfl
   rw[e];exact⟨.aB _,aZ,cZ.tok _,rfl,q aY _ aZ g1 a3 rfl trivial⟩
 ·cases h
theorem RD(T:KTab X.prog X.w X.K X.I x ps)(a':dC X x)(aC:cg X i mk)(hm:ah8 .In (.Name x p)=false:=by rfl)(da:(x==("__debug__":Str))=false:=by decide) :
  cg X (.Compare i [.In] [.Name x p] pos) (oQ false ps mk):=by
 intro ae s σ H Q J h;exact wpAny_Compare1 (in_tab T a' aC da J h) hm
theorem acj(T:KTab X.prog X.w X.K X.I x ps)(a':dC X x)(aC:cq X i mk)(hm:ah8 .In (.Name x p)=false:=by rfl)(da:(x==("__debug__":Str))=false:=by decide) :
  cq X (.Compare i [.In] [.Name x p] pos) (oQ false ps mk):=⟨RD T a' aC.un hm da⟩
end
section
omit [ak.a7]
@[simp] theorem aeG:pd m σ=(do
 let r <-m σ
 match r with
 |.v (.str z)=>pure (xn z)| _=>bad):=rfl
@[simp] theorem ad2:jF f a ms σ=(do
 let x <-a σ
 let rs <-ms σ
 f x rs):=rfl
@[simp] theorem aeA:mK (.v (.str y)) [.v (.str z)]=pure (.v (.aB (aja y z))):=rfl
@[simp] theorem afw:m7 b (.v (.str i)) (.v (.str j))=pure (.v (.aB (b ^^ pT i j))):=rfl
@[simp] theorem ad4:oQ neg ps mk σ=(do
 let k <-mk σ
 match k with
 |.v (.str z)=>pure (.v (.aB (neg ^^ (ps.lookup z).isSome)))| _=>bad):=rfl
end
end aN
namespace aN
open PySem PySem.Spec ak PyProof.Rows
variable[ak.a7]
noncomputable def xi(j:Nat)(m:lK):aV:=fun σ=>do
 let t <-m σ
 match t with
 | .mE bw cc=>(match sG cc with
  |some ds=>pure (.a8 (σ.set j (.gj (bw.zip ds))))| none=>bad)
 |_=>bad
section
variable{X:aS}{e:Expr}{mt:lK}{pos:Pos}{j:Nat}
theorem R6(bY:X.N.Nodup)(aC:X.N[j]? = some x)(av:Loc X.env.scope x)(he:tE X j [] e mt)(aQ:ah6 e (some (.Name x pos')) pos.line X.env=pure false:=by rfl)(hf:X.fn x=true\/X.env.scope.names.lookup x=some .local:=by first | exact .inl rfl | exact .inr rfl | assumption) :
  iM X (.Assign [.Name x pos'] e pos) (xi j mt):=g4 (pM bY aC av he aQ hf)<|by
 rintro D az H ⟨O,σ,S,bO,aJ,st,h,q⟩;obtain⟨t,a6,aj,h⟩:=M.inv h;split at h
 ·rename_i bw cc
  split at h
  ·rename_i ds el
   cases h;refine⟨O,σ,S,_,_,st,aj,fun aY v H1 g1 a3 fi=>?_⟩;obtain⟨a,ys,rfl,EB,KP,bf,ta⟩:=fi;cases Ld el;have ck:=N6 ta;have EB:aY a=.fi j []:=EB;have ne:∀{b:Addr}{dz:Own},aY b=dz->dz≠.fi j []->g5 aY a (.loc j) b=dz:=fun{b dz} h hw=>by
    rw[mg];exact h;rintro rfl;exact hw (h.symm.trans EB)
   have cK:iO aY (g5 aY a (.loc j)):=⟨fun b h=>ne h (by intro z;cases z)⟩;have WB:H1 a≠none:=by rw[KP];intro z;cases z
   have cW:cj X.K X.I (g5 aY a (.loc j)) (σ.set j (.gj (bw.zip ds))) aJ (az.set j (some (.ref a))) H1:=by
    refine⟨⟨fun b U=>?_,a3.dh.tabs⟩,by rw[ah3,ah3];exact a3.len,fun k s e=>?_,a3.emp⟩
    ·by_cases e:b=a
     ·rw[e];exact WB
     ·rw[mg e]at U;exact a3.dh.has b U
    ·by_cases aL:j=k
     ·subst aL
      have ao:j<σ.length:=by have:=(ahe.mp e).1;simpa using this
      rw[ahr ao]at e;cases e;rw[ahr (by rw[<-a3.len];exact ao)];refine⟨a,bw.zip ys,rfl,om,KP,?_,?_⟩
      ·rw[List.map_fst_zip,List.map_fst_zip]
       ·have:=bf.1;omega
       ·have:=ck.len;have:=bf.1;omega
      ·rw[List.map_snd_zip,List.map_snd_zip]
       ·exact ck.cK cK
       ·have:=bf.1;omega
       ·have:=ck.len;have:=bf.1;omega
     ·rw[ahD aL]at e ⊢
      exact(a3.loc k s e).cK cK (fun b h=>ne h (by intro z;cases z)) (fun b h=>ne h (by intro z;cases z)) (fun b p h=>ne h (by intro z;cases z;exact aL rfl))
   have dj:dJ O (g5 aY a (.loc j)) H H1:=by
    refine⟨fun b o e _ n=>g1.same.at' b o e n,fun b U aM=>?_,fun _ h=>g1.same.some h,g1.same.cJ,g1.same.cI⟩;have e:=g1.own b U;rw[<-e];refine ne rfl ?_;rw[e];rcases aM with z | z<;>rw[z]<;>intro z<;>cases z
   exact q _ _ H1 dj cW (dQ.set fun xs z=>by cases z)
  ·cases h
 ·cases h
end
noncomputable def QO(m mk:bj):bj:=fun σ=>do
 let x <-m σ
 let k <-mk σ
 match x,k with
 |.eY aK,.v fS=>match jr fS with
  |some key=>pure (.v ((h6 aK key).getD .ba))|none=>bad
 |_,_=>bad
noncomputable def rZ(ps:List (Str×D))(mk:bj):bj:=fun σ=>do
 let k <-mk σ
 match k with
 |.v (.str z)=>pure (.v ((ps.lookup z).getD .ba))|_=>bad
section
variable{X:aS}{x:Str}{ps:List (Str×D)}{e:Expr}{p apos cu:Pos}{mk:bj}
theorem RC(T:KTab X.prog X.w X.K X.I x ps)(a':dC X x)(he:cg X e mk)(m:fB X (.Name x p) "get" apos e cu:=by exact⟨rfl,rfl,rfl,rfl⟩)(da:(x==("__debug__":Str))=false:=by decide) :
  cg X (.Call (.Attribute (.Name x p) "get" apos) [e] [] cu) (rZ ps mk):=by
 intro ae s σ H Q J ⟨O,σ',S,r,aJ,st,h,q⟩;obtain⟨y,a6,aj,h⟩:=M.inv h;split at h
 ·rename_i z
  cases h;obtain⟨a,aE,n,⟨hm,Du⟩,ao,aL,hf⟩:=T.ex;refine wpAny_Call_method m.base m.CC m.line alq aiZ alH (sD J a' hm ?_ da);have ax:=J.gO a _ ao;refine⟨⟨_,ax,rfl⟩,fun b e=>by cases e;exact⟨_,ax,rfl⟩,?_⟩;rw[m.trees];refine ajq rfl (ajB (ajR (b0 (he ae s σ H (fun v H1=>v=.str z/\∃aY,Go O aY H H1/\cj X.K X.I aY σ' aJ σ H1) J ⟨O,σ',S,_,_,st,aj,fun aY v H1 g1 a3 bD nn=>⟨bD,aY,g1,a3⟩⟩) fun lY s2 ⟨y,aZ,cZ,bx,d_,aY,g1,a3⟩=>akV ?_)));subst d_;obtain⟨t,rfl⟩:=bx;have ax:=cZ.gO a _ ao;have mo:s2.heap.MapOf (akT X.prog X.w) a (findBy aib aE):=⟨_,aE,n,ax,⟨rfl,rfl,rfl⟩,rfl,aL,fun _=>rfl⟩;refine call_meetsIn aiZ mo.typeIs aj9 (PySem.F.args_dict_get_2 _ _) (meets_dict_get (akT X.prog X.w) a (k:=z) ?_ Du) ⟨_,mo,?_⟩
  ·show(z==z)=true
   simp
  ·have:=hf z
   cases aH:ps.lookup z with
   |none=>
    rw[aH]at this q;rw[this];exact⟨.ba,aZ,cZ.tok _,rfl,q aY _ aZ g1 a3 rfl trivial⟩
   |some d=>
    rw[aH]at this q;obtain⟨u,aT,v,bZ,aal⟩:=this;rw[aT];exact⟨v,aZ,cZ.tok _,bZ,q aY _ aZ g1 a3 (aal aY aZ) trivial⟩
 ·cases h
theorem OE(T:KTab X.prog X.w X.K X.I x ps)(a':dC X x)(he:cq X e mk)(m:fB X (.Name x p) "get" apos e cu:=by exact⟨rfl,rfl,rfl,rfl⟩)(da:(x==("__debug__":Str))=false:=by decide) :
  cq X (.Call (.Attribute (.Name x p) "get" apos) [e] [] cu) (rZ ps mk):=⟨RC T a' he.un m da⟩
end
section
variable{X:aS}{e:Expr}{pos:Pos}{mt:lK}{j:Nat}
theorem acK(bY:X.N.Nodup)(aC:X.N[j]? = some x)(av:Loc X.env.scope x)(he:wU X j [] e mt)(aQ:ah6 e (some (.Name x pos')) pos.line X.env=pure false:=by rfl)(hf:X.fn x=true\/X.env.scope.names.lookup x=some .local:=by first | exact .inl rfl | exact .inr rfl | assumption) :
  iR X (.Assign [.Name x pos'] e pos) (xi j mt):=⟨R6 bY aC av he.un aQ hf⟩
end
section
omit [ak.a7]
@[simp] theorem ad0:xi j m σ=(do
 let t <-m σ
 match t with
 | .mE bw cc=>(match sG cc with
  |some ds=>pure (.a8 (σ.set j (.gj (bw.zip ds))))| none=>bad)
 | _=>bad):=rfl
@[simp] theorem ad1:QO m mk σ=(do
 let x <-m σ
 let k <-mk σ
 match x,k with
 |.eY aK,.v fS=>match jr fS with
  |some key=>pure (.v ((h6 aK key).getD .ba))|none=>bad
 | _,_=>bad):=rfl
@[simp] theorem ad3:rZ ps mk σ=(do
 let k <-mk σ
 match k with
 |.v (.str z)=>pure (.v ((ps.lookup z).getD .ba))| _=>bad):=rfl
end
end aN
namespace aN
open PySem PySem.Spec ak PyProof.Rows
def j_(x C:Addr)(h:Heap):Prop:=∃o,h.get? x=some o/\o.cls=.ref C
structure lH(K:a4)(D:Addr):Prop where
 ga:W.findIn K (.ref D) "__getattribute__"=some (some (.builtin "BaseException.__getattribute__"))
 nT:W.findIn K (.ref D) "__getattr__"=some none
 cw:W.mroIn K D (.type "BaseException")=some true
 c:(W.clsIn K D).isSome=true
 a:W.findIn K (.ref D) "__class__"=some (some (.builtin "object.__class__"))
 n:W.specialIn K (.builtin "object.__class__") "__get__"=some (some (.builtin "getset_descriptor.__get__"))
 t:W.takesIn K (.builtin "object.__class__")=some true
 m:W.mroIn K D (.type "object")=some true
section
open PySem.W PySem.Calls Builtin Builtin.ObjectAttr Builtin.Getset_descriptor
variable{prog:ahq}{w:World}{A:ahX}{E:dc}{s:ag9}{K:Frag}{x C D:Addr}{name:Str}{M:Model}{h:Heap}
theorem j_.type(J:j_ x C h):Looks M h (akG (.ref x)) (.ref C):=by
 obtain⟨o,aj,h2⟩:=J;exact h2▸(Looks.ld aj).andThen .now
theorem W9(X:K.In h)(ax:findIn K (.ref D) name=some (some a))(a':specialIn K a "__get__"=some (some g))(hd:takesIn K a=some true):Looks M h (find (.ref x) (.ref D) name) (.bind g a):=by
 have ny:=looks_findIn (M:=M) X ax;have ak:Looks M h (getOf (some a)) (some g):=looks_specialIn X a';have aN:=looks_takesIn (M:=M) X hd;exact ny.andThen (ak.andThen ((show Looks M h (dataDescriptor? (some a) (some g)) (some (g,a))from aN.andThen .now).andThen (Looks.tag .now)))
theorem RT{R:Result->ag9->Prop}{kI:Value}(X:K.In s.heap)(J:j_ x C s.heap)(hm:mroIn K C (.type "object")=some true)
  (h:R (.ok (.ret (.ref C))) s):ajg (model prog w) A (.call (.builtin "getset_descriptor.__get__") ⟨[.builtin "object.__class__",.ref x,kI],[]⟩) R s:=by
 obtain⟨gn,g,SW,t,os⟩:=s;have wB:=J.type (M:=model prog w);have ny:=looks_mroIn (M:=model prog w) X hm;refine codeAny_call_builtin KF.slot_gs.plain KF.entry_gs (KF.slot_gs.check _ _ _ _ _ _ _ _ KF.type_class (KF.args_gs _ _ _) ?_);unfold Builtin.«getset_descriptor.__get__» descrGet;rw[dga_obj];refine ag2 (ahh ?_);unfold descrGetter descrCheckInstance descrNameAndClass isInstance;simp only[KF.owner_class]
 repeat lk
 refine⟨Code.quiet_builtin _ (by decide +kernel),codeAny_builtin KF.entry_class ?_⟩;unfold Builtin.«object.__class__» shownTypeOf
 repeat lk
 exact h
theorem RS{tk:Tok}{Q:Fin->ag9->Prop}(Z:lH K D)(X:K.In s.heap)(J:j_ x D s.heap)(bf:Q (.done (.ret (.ref D))) s) :
  wpAny (model prog w) A (Builtin.«object.__getattribute__» ⟨[.ref x,.str "__class__" tk],[]⟩) Q E s:=by
 have UK:∀{R:Result->ag9->Prop}{A:ahX},R (.ok (.ret (.ref D))) s->ajg (model prog w) A (.call (.builtin "getset_descriptor.__get__") ⟨[.builtin "object.__class__",.ref x,.ref D],[]⟩) R s:=fun{R A} z=>RT X J Z.m z
 obtain⟨gn,g,d,t,os⟩:=s;have wB:=J.type (M:=model prog w);have ny:=W9 (M:=model prog w) (x:=x) X Z.a Z.n Z.t;have cx:∀{α β:Type}{m:Sem α}{f:α->Sem β}{Q:β->ag9->Prop}{E:dc}{s:ag9}{A:ahX}{M:Model} ,wpAny M A m (fun a s=>wpAny M A (f a) Q E s) E s->wpAny M A (m >>= f) Q E s:=fun h=>ag2 h
 unfold Builtin.«object.__getattribute__»;refine ag2 ?_
 repeat (any_goals (first | assumption | with_reducible refine wB.at ?_ | with_reducible refine ny.at ?_ | wp_step))
 refine UK ?_
 repeat (any_goals (first | assumption | wp_step))
theorem RN{M:Model}{Q:Unit->ag9->Prop}(Z:lH K D)(X:K.In s.heap)(J:j_ x D s.heap)(bf:Q () s):wpAny M A (checkBuiltinCall "BaseException.__getattribute__" ⟨[.ref x,XR],[]⟩) Q E s:=by
 obtain⟨gn,g,d,t,os⟩:=s;have aL:builtinKind "BaseException.__getattribute__"=some .slot:=by decide +kernel
 have Vo:splitId "BaseException.__getattribute__"=some ("BaseException","__getattribute__"):=by decide +kernel
 have ax:=F.args_bexc_ga (.ref x) XR;have wC:Looks M gn (isInstance (.ref x) (.type "BaseException")) true:=(J.type).andThen (looks_mroIn X Z.cw);simp only[checkBuiltinCall,aL,Vo];refine ag2 (wC.at ?_)
 repeat (first | assumption | wp_step)
 try exact bf
theorem RR{Q:dc}(Z:lH K D)(X:K.In s.heap)(J:j_ x D s.heap)(bf:Q (.ref D) s):wpAny (model prog w) A (getAttrBy (.ref x) (.str "__class__" tk) false) Q E s:=by
 have x_:∀{R:Result->ag9->Prop}{A:ahX},R (.ok (.ret (.ref D))) s->ajg (model prog w) A (.call (.builtin "BaseException.__getattribute__") ⟨[.ref x,.str "__class__" tk],[]⟩) R s:=fun{R A} z=>
  codeAny_call_builtin alv.ga.plain F.entry_bexc_ga (RN Z X J (RS Z X J z))
 obtain⟨gn,g,d,t,os⟩:=s;have wB:=J.type (M:=model prog w);have ny:=looks_findIn (M:=model prog w) X Z.ga;have ak:=looks_findIn (M:=model prog w) X Z.nT;have hc:=alv.ga.bind (.ref x);have Vs:(akU "BaseException.__getattribute__" == akU "object.__getattribute__")=false:=by decide +kernel
 have agC:(onTheHeap (ahy D)&&akU "BaseException.__getattribute__" == akU "object.__getattribute__")=false:=by rw[Vs];rfl
 repeat (any_goals (first | assumption | with_reducible refine wB.at ?_ | with_reducible refine ny.at ?_ | with_reducible refine ak.at ?_ | wp_step))
 refine x_ ?_
 repeat (any_goals (first | assumption | wp_step))
theorem Wq{Q:Option Value->ag9->Prop}(Z:lH K D)(X:K.In s.heap)(J:j_ x D s.heap)(h:Q (some (.ref D)) { s with toks:=s.toks+1 }):wpAny (model prog w) A (getAttr? (.ref x) "__class__") Q E s:=by
 obtain⟨gn,g,d,t,os⟩:=s;unfold getAttr? getAttrBy?;refine ag2 (wpAny_mkText ?_);refine ag2 (wpAny_attempt (RR Z (s:=⟨gn,g,d,t+1,os⟩) X J ?_));exact ahh h
theorem KD(Z:lH K D):KitX K (.ref x) (.ref D) (j_ x D) where
 ty:=fun _ _ _ J=>J.type
 it:=fun _ _ X _=>by
  have qy:=Z.c;unfold clsIn at qy;split at qy
  ·rename_i gi d' Q9 vK aM
   intro adp Aq adq s' k q;unfold isType loadHead;exact ag2 (wpAny_loadPart (k _ _ (X _ _ aM)) (ahh q))
  ·cases qy
 ne:=fun h kI dd its n c6 X Vp=>by
  have qy:=Z.c;refine akY.mpr fun q=>?_
  have e:D=kI:=Value.ref.inj (beq_iff_eq.mp q);subst e;unfold clsIn at qy;split at qy
  ·rename_i gi d' Q9 vK aM
   have z:=(X _ _ aM).symm.trans Vp;cases z
  ·cases qy
 ca:=fun X J k=>Wq Z X J k
end
end aN
namespace aN
open PySem PySem.Spec ak PyProof.Rows
variable[ak.a7]
def mu(ie:Nat)(a C:Addr)(σ:ak.St)(H:aI):Prop:=σ[ie]? = some (some (.ref a))/\H a=some (.ext (j_ a C))
theorem mu.same(h:mu ie a C σ H)(s:dw H aa):mu ie a C σ aa:=⟨h.1,s.at' _ _ h.2⟩
theorem mu.set{σ:ak.St}(h:mu ie a C σ H)(ks:ik≠ie):mu ie a C (σ.set ik v) H:=⟨by rw[ahD ks];exact h.1,h.2⟩
inductive dV(I:br):Str->V->Value->Prop where
 |own {x:Str}{B:Addr}(h:I x=some (.ref B)):dV I x (.ref B) (.ref B)
 |blt {x:Str}{n:String}(h:I x=none) (U:ahK x=some (.type n)):dV I x (.ty n) (.type n)
omit [ak.a7]in
theorem dV.det(h:dV I x v u)(r:RelV v hs):hs=u:=by
 cases h with
 |own h=>exact r|blt h U=>exact r
noncomputable def abx(ie:Nat)(a C:Addr)(b:Bool):TE:=fun σ H Q=>mu ie a C σ H/\∀aa,dw H aa->Q (.aB b) aa
noncomputable def abw(ie:Nat)(a C:Addr)(bs:List Bool):f3:=fun σ H Q=>mu ie a C σ H/\∀aa,dw H aa->Q (bs.map V.aB) aa
structure wR(X:aS)(aE:List Expr)(ar:List V)(us:List Value):Prop where
 tc:g_ X aE (fun _ H Q=>Q ar H)
 det:∀its,Vals ar its->its=us
 len:ar.length<=us.length
structure Ax(X:aS)(ie:Nat)(a C:Addr)(e:Expr)(b:Bool):Prop where
 un:b3 X e (abx ie a C b)
structure tV(X:aS)(ie:Nat)(a C:Addr)(aE:List Expr)(bs:List Bool):Prop where
 un:g_ X aE (abw ie a C bs)
section
variable{X:aS}{ie ik:Nat}{a C:Addr}{x n iE:Str}{v:V}{u:Value}{b:Bool}{bs kg rU:List Bool}{p dy cR q5 q6 pos:Pos}{e:Expr}{aE:List Expr}{ar:List V}{us:List Value}{rest:List Stmt}
omit [ak.a7]in
theorem Mt(a':dC X x)(h:dV X.I x v u)(aR:x≠"__name__":=by decide)(hd:(x==("__debug__":Str))=false:=by decide):b3 X (.Name x p) (nf v):=by
 cases h with
 |own h=>exact Ms a' h rfl hd|blt h U=>exact hR a' h U rfl aR hd
omit [ak.a7]in
theorem OQ:wR X [] [] []:=⟨q7,fun its r=>by cases r;rfl,ahg _⟩
omit [ak.a7]in
theorem ni(a':dC X x)(h:dV X.I x v u)(ay:wR X aE ar us)(aQ:ag6 (.Name x p::aE) X.env=(false,eval (.Name x p) X.env)::ag6 aE X.env:=by rfl)(aR:x≠"__name__":=by decide)(hd:(x==("__debug__":Str))=false:=by decide) :
  wR X (.Name x p::aE) (v::ar) (u::us):=
 ⟨m8 (Mt a' h aR hd) ay.tc aQ,fun its r=>by cases r with | cons bK cn=>rw[h.det bK,ay.det _ cn],ajd ay.len⟩
noncomputable def Z0(a C:Addr)(v:V)(b:Bool):List V->aI->cY->Prop:=fun xs H Q=>xs=[.ref a,v]/\H a=some (.ext (j_ a C))/\Q (.aB b) H
omit [ak.a7]in
theorem QV(Z:lH X.K C)(h:dV X.I x v u)(ax:W.kitOne X.K (.ref C) u=some b):g7 X (.builtin "isinstance") (Z0 a C v b):=by
 intro ae s σ H xs us Q J bZ h';obtain⟨rfl,dT,q⟩:=h';obtain⟨ht,hW,rfl,bK,cn⟩:=ak.vals2 bZ;cases(show ht=ahy a from bK);cases h.det cn;exact aki (KD Z) J.gO (J.bp a _ dT).1 ax (fun z=>nomatch z) fun tk=>⟨.aB b,H,J.tok tk,rfl,q⟩
theorem ON(Z:lH X.K C)(h:dV X.I x v u)(ax:W.kitOne X.K (.ref C) u=some b)(hm:X.I "isinstance"=none)(Dn:dC X "isinstance")(aC:X.N[ie]? = some n)(bF:gT X.env.scope n)(a':dC X x)
  (aj:ag6 [.Name n dy,.Name x cR] X.env=(false,eval (.Name n dy) X.env)::ag6 [.Name x cR] X.env:=by rfl) (h2:ag6 [.Name x cR] X.env=(false,eval (.Name x cR) X.env)::ag6 [] X.env:=by rfl)
  (hd:(n==("__debug__":Str))=false:=by decide) (dN:(n==("__classdict__":Str))=false:=by decide) (Vu:x≠"__name__":=by decide) (Vt:(x==("__debug__":Str))=false:=by decide)
  (du:(ahN pos (ag6 [.Name x cR] X.env)).any (·.1)=false:=by rfl):Ax X ie a C (.Call (.Name "isinstance" p) [.Name n dy,.Name x cR] [] pos) b:=
 ⟨et (EG (QV (a:=a) Z h ax) Dn hm ha (m8 (lx aC bF hd dN) (m8 (Mt a' h Vu Vt) q7 h2) aj) (by decide) (by decide) aj du) fun σ H Q ⟨hd,q⟩=>⟨_,hd.1,rfl,hd.2,q H (dw.refl H)⟩⟩
noncomputable def Z1(K:a4)(a C:Addr)(ar:List V)(b:Bool):List V->aI->cY->Prop:=fun xs H Q=>∃p,xs=[.ref a,.ref p]/\dG K H p ar/\H a=some (.ext (j_ a C))/\Q (.aB b) H
omit [ak.a7]in
theorem QW(Z:lH X.K C)(h:∀its,Vals ar its->its=us)(ax:W.kitAny X.K (.ref C) us=some b):g7 X (.builtin "isinstance") (Z1 X.K a C ar b):=by
 intro ae s σ H xs ws Q J bZ h';obtain⟨p,rfl,e5,dT,q⟩:=h';obtain⟨ht,hW,rfl,bK,cn⟩:=ak.vals2 bZ;cases(show ht=ahy a from bK);cases(show hW=ahy p from cn);obtain⟨its,aat,⟨o,aM,aA,n,hd⟩,_⟩:=J.tuple e5;cases h its aat;obtain⟨iI,hO,agM,kD⟩:=o;cases aA;cases hd;exact W.kia_tup (KD Z) J.gO (J.bp a _ dT).1 aM ax (fun z=>nomatch z) fun tk=>⟨.aB b,H,J.tok tk,rfl,q⟩
theorem OO(Z:lH X.K C)(h:wR X aE ar us)(ax:W.kitAny X.K (.ref C) us=some b)(hlen:us.length<=1000)(hm:X.I "isinstance"=none)(Dn:dC X "isinstance")(aC:X.N[ie]? = some n)(bF:gT X.env.scope n){k:Nat}
  (aj:ag6 [.Name n dy,.Tuple aE k cR] X.env=(false,eval (.Name n dy) X.env)::ag6 [.Tuple aE k cR] X.env:=by rfl) (h2:ag6 [.Tuple aE k cR] X.env=(false,eval (.Tuple aE k cR) X.env)::ag6 [] X.env:=by rfl)
  (hd:(n==("__debug__":Str))=false:=by decide) (dN:(n==("__classdict__":Str))=false:=by decide)
  (du:(ahN pos (ag6 [.Tuple aE k cR] X.env)).any (·.1)=false:=by rfl):Ax X ie a C (.Call (.Name "isinstance" p) [.Name n dy,.Tuple aE k cR] [] pos) b:=
 ⟨et (EG (QW (a:=a) Z h.det ax) Dn hm ha (m8 (lx aC bF hd dN) (m8 (EL h.tc) q7 h2) aj) (by decide) (by decide) aj du) fun σ H Q ⟨hd,q⟩=>⟨_,hd.1,ahM (eJ (ahL h.len hlen)),fun p aP=>
  ⟨p,rfl,dG.of eb,(i4 aP _).at' _ _ hd.2,q _ (i4 aP _)⟩⟩⟩
theorem OP:tV X ie a C [] []:=⟨td q7 fun σ H Q ⟨_,q⟩=>q H (dw.refl H)⟩
theorem zY(h:Ax X ie a C e b)(ay:tV X ie a C aE bs)(aQ:ag6 (e::aE) X.env=(false,eval e X.env)::ag6 aE X.env:=by rfl):tV X ie a C (e::aE) (b::bs):=
 ⟨td (m8 h.un ay.un aQ) fun σ H Q ⟨hd,q⟩=>⟨hd,fun H1 s1=>⟨hd.same s1,fun aZ s2=>q aZ (s1.trans s2)⟩⟩⟩
noncomputable def abz(ie ik:Nat)(a C:Addr)(bs:List Bool):f5:=fun gR σ H=>(mu ie a C σ H/\ik<σ.length)/\∀p aa,dw H aa->H p=none->aa p=some (.lst (bs.map V.aB))->gR.a8 (σ.set ik (some (.ref p))) aa
noncomputable def aby(ie ik:Nat)(a C:Addr)(kg bs:List Bool):f5:=fun gR σ H=>mu ie a C σ H/\∃p,σ[ik]? = some (some (.ref p))/\H p=some (.lst (kg.map V.aB))/\∀ia aa,dw H aa->(ia=p\/H ia=none)->aa ia=some (.lst (bs.map V.aB))->gR.a8 (σ.set ik (some (.ref ia))) aa
structure Ay(X:aS)(ie ik:Nat)(a C:Addr)(body:List Stmt)(bs:List Bool):Prop where
 un:hA X body (abz ie ik a C bs)
structure wQ(X:aS)(ie ik:Nat)(a C:Addr)(body:List Stmt)(kg bs:List Bool):Prop where
 un:hA X body (aby ie ik a C kg bs)
theorem acG:wQ X ie ik a C [] bs bs:=⟨q9 EP<|by
 rintro D σ H ⟨hd,p,aP,ao,q⟩;have:=q p H (dw.refl H) (.inl rfl) ao;obtain⟨aj,h2⟩:=ahe.mp aP;have e:σ.set ik (some (.ref p))=σ:=by rw[<-h2];exact List.set_getElem_self aj
 rw[e]at this;exact this⟩
theorem acF(ks:ik≠ie)(bY:X.N.Nodup)(aC:X.N[ik]? = some iE)(av:Loc X.env.scope iE)(bF:gT X.env.scope iE)(h:tV X ie a C aE rU)(ay:wQ X ie ik a C rest (kg++rU) bs)(iY:kg.length+rU.length<=1000)
  (aQ:ah6 (.BinOp (.Name iE dy) .Add (.List aE cR) q5) (some (.Name iE q6)) pos.line X.env=pure false:=by rfl) (hf:X.fn iE=true\/X.env.scope.names.lookup iE=some .local:=by first | exact .inl rfl | exact .inr rfl | assumption)
  (hd:(iE==("__debug__":Str))=false:=by decide) (dN:(iE==("__classdict__":Str))=false:=by decide) :
  wQ X ie ik a C (.Assign [.Name iE q6] (.BinOp (.Name iE dy) .Add (.List aE cR) q5) pos::rest) kg bs:=
 ⟨q9 (y8 (pM bY aC av (EI l6 (lx aC bF hd dN) (EH h.un)) aQ hf) ay.un) fun D σ H ⟨hd,p,aP,ao,q⟩=>by
  refine⟨_,aP,hd,fun H1 s1=>⟨by rw[ag4];exact ahM (eJ (by omega)),fun dy sl=>⟨p,dy,kg.map V.aB,rU.map V.aB,rfl,rfl,(s1.trans (i4 sl _)).at' _ _ ao,eb,by rw[ag4,ag4];exact ahM (eJ iY),fun cR yg=>?_⟩⟩⟩;have bS:dw H (upd (upd H1 dy (.lst (rU.map V.aB))) cR (.lst (kg.map V.aB++rU.map V.aB))):=(s1.trans (i4 sl _)).trans (i4 yg _);have er:ik<σ.length:=(ahe.mp aP).1;refine⟨(hd.same bS).set ks,cR,ahr er,by rw[eb,ahP],fun ia aa s' jN C0=>?_⟩;rw[aln];refine q ia aa (bS.trans s') (.inr ?_) C0;rcases jN with rfl | jN
  ·exact(s1.trans (i4 sl _)).free yg
  ·exact bS.free jN⟩
theorem acE(ks:ik≠ie)(bY:X.N.Nodup)(aC:X.N[ik]? = some iE)(av:Loc X.env.scope iE)(h:tV X ie a C aE kg)(ay:wQ X ie ik a C rest kg bs)(iY:kg.length<=1000)
  (aQ:ah6 (.List aE cR) (some (.Name iE q6)) pos.line X.env=pure false:=by rfl) (hf:X.fn iE=true\/X.env.scope.names.lookup iE=some .local:=by first | exact .inl rfl | exact .inr rfl | assumption) :
  Ay X ie ik a C (.Assign [.Name iE q6] (.List aE cR) pos::rest) bs:=
 ⟨q9 (y8 (pM bY aC av (EH h.un) aQ hf) ay.un) fun D σ H ⟨⟨hd,er⟩,q⟩=>by
  refine⟨hd,fun H1 s1=>⟨by rw[ag4];exact ahM (eJ iY),fun dy sl=>?_⟩⟩;have bS:dw H (upd H1 dy (.lst (kg.map V.aB))):=s1.trans (i4 sl _);refine⟨(hd.same bS).set ks,dy,ahr er,eb,fun ia aa s' jN C0=>?_⟩;rw[aln];refine q ia aa (bS.trans s') ?_ C0;rcases jN with rfl | jN
  ·exact s1.free sl
  ·exact bS.free jN⟩
end
section
variable{X:aS}{ae:c8}{σ:ak.St}{H H1 aa:aI}{s s1 s4:ag9}{a C:Addr}{ie:Nat}{n:Str}
omit [ak.a7]in
theorem VM{o:Obj}(bc:ak.Inv X ae σ H1 s1)(b1:ak.Inv X ae σ aa s4)(na:s1.heap.get? a=none)(hy:aa a=none)(aM:s4.heap.get? a=some o)(aA:o.cls=.ref C):ak.Inv X ae σ (upd aa a (.ext (j_ a C))) s4:=by
 have nb:∀b c_,s1.heap.get? b=some c_->b≠a:=fun b c_ e z=>by rw[z,na]at e;cases e
 obtain⟨m,aR,ao⟩:=b1.loc;obtain⟨Lg,⟨EA,_,_,ye,_⟩,_⟩:=bc.loc;refine⟨b1.ok,b1.os,b1.bare,⟨b1.base.keep,b1.base.slot,fun b c_ e q av=>?_,b1.base.there,fun b xs q=>?_,fun b c_ u q=>?_,fun b ps q=>?_⟩,⟨m,aR,ao⟩,b1.cell,?_,fun x c e=>?_,fun p aP=>?_,fun b u e=>?_,b1.len⟩
 ·obtain⟨n8,aT⟩:=bc.base.there b c_ e av
  rw[cP (nb b n8 aT)];exact b1.base.free b c_ e q av
 ·have z:=b1.base.lC b xs q
  rw[cP (fun e=>by rw[e,hy]at z;cases z)];exact z
 ·have z:=b1.base.kn b c_ u q
  rw[cP (fun e=>by rw[e,hy]at z;cases z)];exact z
 ·obtain⟨more,z⟩:=b1.base.lA b ps q
  exact⟨more,by rw[cP (fun e=>by rw[e,hy]at z;cases z)];exact z⟩
 ·rw[cP (nb _ _ ye)];exact b1.free
 ·obtain⟨w,z⟩:=bc.cell x c e
  obtain⟨iI,yf,_⟩:=z;rw[cP (nb _ _ yf)];exact b1.iA x c e
 ·obtain⟨aH,_⟩:=bc.pin p aP
  obtain⟨bh,cM,e2⟩:=b1.pin p aP;exact⟨bh,by rw[cP (nb _ _ aH)];exact cM,e2⟩
 ·by_cases U:b=a
  ·subst U
   rw[eb]at e;cases e;exact⟨⟨o,aM,aA⟩,⟨o,aM⟩,fun aj h2 ⟨LY,aH,cy⟩ k=>⟨LY,k LY aH,cy⟩⟩
  ·rw[cP U]at e
   exact(b1.bp b u e).nd (fun c v _ q=>q) (fun c q=>by rw[cP (fun z=>by rw[z,hy]at q;cases q)];exact q) fun c xs q=>by rw[cP (fun z=>by rw[z,hy]at q;cases q)];exact q
omit [ak.a7]in
theorem VK{h':Heap}{m:br}{u:Option Value}(J:ak.Inv X ae σ H s)(bY:X.N.Nodup)(aC:X.N[ie]? = some n)(aR:s.heap.Ns X.env.locals m)
  (ao:∀(i:Nat)(x:Str)(v:V),X.N[i]? = some x->σ[i]? = some (some v)->gT X.env.scope x->∃u,RelV v u/\Look X.env s.heap m x u)
  (uS:h'.Ns X.env.locals (fun x=>if x=n then u else m x)) (aQ:aju X.env.locals s.heap h'):ak.Inv X ae (σ.set ie none) H { s with heap:=h' }:=by
 have o6:ie<σ.length:=by rw[J.len];exact(ahe.mp aC).1
 have lQ:=J.lQ;obtain⟨EA,_,_,ye,_⟩:=id aR;refine⟨J.ok,J.os,J.bare,⟨fun b o e n U av=>?_,fun b o e n U av=>?_,J.base.free,fun b o e av=>?_,J.base.lC,J.base.kn,J.base.lA⟩,⟨_,uS,fun j y rl aH aT dt=>?_⟩,fun y c e=>?_,J.free,J.iA,fun p aP=>?_,fun b cL e=>?_,by simpa using J.len⟩
 ·exact(aQ.2 b (ahE (ahv (ahf e) J.ok.above))).trans (J.base.keep b o e n U av)
 ·obtain⟨c6,aH⟩:=J.base.slot b o e n U av
  exact⟨c6,(aQ.2 b (ahE (ahv (ahf e) J.ok.above))).trans aH⟩
 ·obtain⟨c_,aH⟩:=J.base.there b o e av
  exact⟨c_,(aQ.2 b (ahE (ahv (ahf e) J.ok.above))).trans aH⟩
 ·by_cases bV:j=ie
  ·subst bV
   rw[ahr o6]at aT;cases aT
  ·rw[ahD (aiD bV)]at aT
   obtain⟨hs,bq,q⟩:=ao j y rl aH aT dt;refine⟨hs,bq,?_⟩;rcases q with⟨k,e⟩ | ⟨k,c,e,z⟩
   ·refine .inl ⟨k,?_⟩
    have:y≠n:=fun e=>bV (Es bY aH (e▸aC))
    simp[this,e]
   ·exact .inr ⟨k,c,e,z.sameBut aQ (lQ y c e)⟩
 ·obtain⟨dz,z⟩:=J.cell y c e
  exact⟨dz,z.sameBut aQ (lQ y c e)⟩
 ·obtain⟨e,n,ne,l3,d⟩:=J.pin p aP
  exact⟨(aQ.2 p.1 ne).trans e,n,ne,l3,d⟩
 ·refine(J.bp b cL e).nd (fun c dz aA q=>(aQ.2 c ?_).trans q) (fun _ q=>q) fun _ _ q=>q
  rintro rfl;rcases aA with rfl | aA
  ·rw[J.free]at e;cases e
  ·rw[J.free]at aA;cases aA
omit [ak.a7]in
theorem SY{M:Model}{A:ahX}{E:dc}{pos:Pos}{Q:Unit->ag9->Prop}(J:ak.Inv X ae σ H s)(bY:X.N.Nodup)(aC:X.N[ie]? = some n)(aL:X.env.scope.names.lookup n=some .local)
  (h:∀s',ak.Inv X ae (σ.set ie none) H s'->Q () s'):wpAny M A (do bindName X.env n .none;unbindBehindTheSuite X.env n pos) Q E s:=by
 have o6:ie<σ.length:=by rw[J.len];exact(ahe.mp aC).1
 refine ag2 (wpAny_bindName (zE (v:=.ba) J bY aC (.inl aL) rfl (fun s' gS=>?_) (.inr aL)));unfold unbindBehindTheSuite;refine akf ?_;obtain⟨m,aR,ao⟩:=gS.loc;obtain⟨u,r,q⟩:=ao ie n .ba aC (ahr o6) (.inl aL);have JX:X.env.kindOf n=some .local:=aL;have bF:m n=some u:=by
  rcases q with⟨_,q⟩ | ⟨q,_⟩
  ·exact q
  ·rw[JX]at q;rcases q with q | q<;>cases q
 refine wpAny_unbindName_local JX aR bF (by rw[gS.ok.kind];rfl) fun h' hs uS mU=>h _ ?_
 have:=VK gS bY aC aR ao uS mU
 rwa[aln]at this
end
section
variable{X:aS}{C B:Addr}{ea n:Str}{ie ik:Nat}{hD:Stmt}{body:List Stmt}{bs:List Bool}{np aP:Pos}
theorem Q4{ae:c8}{σ:ak.St}{H1:aI}{s1 s2:ag9}{D:Ends}{E:dH}{e:Value}{qa:dc}(U':X.I ea=some (.ref B))(DA:W.exmOne X.K (.ref C) (.ref B)=some true)(aL:X.stack=X.env::X.outer/\X.env.frame=some X.env.locals)(a':dC X ea)(da:(ea==("__debug__":Str))=false)
  (bY:X.N.Nodup) (aC:X.N[ie]? = some n) (ao:X.env.scope.names.lookup n=some .local) (ks:ik≠ie) (Dp:ik<X.N.length) (aQ:∀a c2,Ay (aS.held X a c2) ie ik a C (hD::body) bs) (J:ak.Inv X ae σ H1 s1) (c:gz X.prog X.w X.stack H1 s1 E e s2)
  (k8:∀cls aa,E cls none aa->cls=.ref C/\∀p iq,dw aa iq->aa p=none->iq p=some (.lst (bs.map V.aB))->D.a8 ((σ.set ik (some (.ref p))).set ie none) iq) :
  wpAny (model X.prog X.w) X.A (ajn e X.env) (fun _ s3=>wpAny (model X.prog X.w) X.A (aly e none) (fun _ s4=>wpAny (model X.prog X.w) X.A (handleBy e X.env [.ExceptHandler (some (.Name ea np)) (some n) (hD::body) aP]) (rI X ae D) qa s4) qa s3) qa s2:=by
 obtain⟨a,cls,aa,rfl,⟨os,bare⟩,un,bp,⟨T,t3,⟨na,hy⟩,h_,cS⟩,T3⟩:=c;obtain⟨rfl,Vd⟩:=k8 cls aa T3;have b1:=J.oS (s':=s2) (ch:=[]) os un bp bare (fun b z=>absurd z (by simp));have jM:X.A.frames=some (X.env::X.outer):=by rw[<-aL.1];exact b1.ok.frames
 have UW:s2.heap.FunFrames X.base (X.env::X.outer):=by rw[<-aL.1];exact b1.stack
 refine yS (outer:=X.outer) jM UW aL.2 t3 fun bz d0 k1 k_ t1=>?_
 refine uw (fs:=ez (X.env::X.outer)) t1 fun c0 k2 en=>?_
 have kN:aa d0=none:=b1.bp.fresh k_;have kB:s1.heap.get? d0=none:=by
  cases q:s1.heap.get? d0 with
  |none=>rfl| some o=>obtain⟨c_,bE⟩:=un.there d0 o q (by simp);exact absurd (ahf bE) (aj1.mpr k_)
 have J3:∀b∈([T,a]++[d0])++[d0],s1.heap.get? b=none/\aa b=none:=fun b U=>by
  simp only[aio,ai0,aha,aiT,or_false]at U;rcases U with rfl | rfl | rfl | rfl
  ·exact⟨h_,cS⟩
  ·exact⟨na,hy⟩
  ·exact⟨kB,kN⟩
  ·exact⟨kB,kN⟩
 have sx:=k1.trans k2;have p5:ak.Inv X ae σ aa { s2 with heap:=c0 }:=ym J os bare un bp (xs:=[T,a]++[d0]) (fun b U=>J3 b (aiE _ U)) (by rw[aL.1];exact sx);have T4:j_ a C c0:=en.there;refine wpAny_handleBy_cons (codeAny_handlers_test (sD (X:=aS.held X a qa) (Kd p5) a' U' ?_ da)) (by intro q;cases q);refine(W.exm_one (M:=model X.prog X.w) p5.gO T4.type DA) _ _ _ _ (fun _ _ q=>q) ?_;refine codeAny_handlers_suite_as ?_;refine uw (fs:=ez (X.env::X.outer)) en fun gm k5 abj=>?_
 have GH:ak.Inv X ae σ aa { s2 with heap:=gm }:=ym J os bare un bp (xs:=([T,a]++[d0])++[d0]) J3 (by rw[aL.1];exact sx.trans k5);obtain⟨cL,Ve,Vf⟩:=abj.there;have Pm:=VM (C:=C) J GH na hy Ve Vf;refine zE (v:=.ref a) Pm bY aC (.inl ao) rfl (fun fv Pn=>?_) (.inr ao);have o6:ie<σ.length:=by rw[J.len];exact(ahe.mp aC).1
 refine ahZ ((aQ a _).un ae fv _ _ { a8:=fun σ' iq=>D.a8 (σ'.set ie none) iq,cA:=fun _ _=>False } (Kd Pn) ⟨⟨⟨ahr o6,eb⟩,by rw[ah3,J.len];exact Dp⟩,fun p iq tn aP dT=>?_⟩) (fun f jw q=>?_) fun _ _ z=>z
 ·show D.a8 _ _
  rw[List.set_comm _ _ (aiD ks),aln];have Vi:p≠a:=fun z=>by rw[z,eb]at aP;cases aP
  rw[cP Vi]at aP;exact Vd p iq ((i4 hy _).trans tn) aP dT
 ·cases f with
  |next=>
   obtain⟨σ',iq,oC,l8⟩:=q;exact SY (VN GH.ok oC) bY aC ao fun m' p4=>⟨_,iq,p4,l8⟩
  |brk=>obtain⟨σ',iq,oC,l8⟩:=q;exact l8.elim
  |cont=>obtain⟨σ',iq,oC,l8⟩:=q;exact l8.elim
  |ret u=>obtain⟨v,σ',iq,oC,agQ,l8⟩:=q;exact l8.elim
end
inductive tR where
 |ret (d:D) | exc (c:Str)
noncomputable abbrev dE:=List D->M tR
inductive rB where
 |a8 (σ:a9) | cA (d:D) | ex (c:Str)
noncomputable abbrev dF:=a9->M rB
def wK(K:a4)(I:br)(E:dH)(O:b9)(σ:a9)(aJ:e7)(az:ak.St)(H:aI)(f:rB)(gR:Ends):Prop:=match f with
 |.a8 σ'=>lN K I O σ aJ az H σ' gR.a8|.cA d=>∀aD v aa,dJ O aD H aa->dP aD aa->aJ=[]->Rep K I aD aa d v->gR.cA v aa|.ex c=>∀C aD aa,I c=some (.ref C)->dJ O aD H aa->dP aD aa->aJ=[]->E (.ref C) none aa
theorem wK.dj{K:a4}{I:br}{E:dH}{O aY:b9}{σ fl:a9}{aJ:e7}{az p3:ak.St}{H H1:aI}{f:rB}{gR:Ends}(h:wK K I E O σ aJ az H f gR)(g:dJ O aY H H1)(k:dQ σ fl az p3):wK K I E aY fl aJ p3 H1 f gR:=by
 cases f with
 |a8 σ'=>exact lN.dj h g k|cA d=>exact fun aD v aa g' gW e r=>h aD v aa (g.trans g') gW e r
 |ex c=>exact fun C aD aa m g' gW e=>h C aD aa m (g.trans g') gW e
noncomputable def Ga(K:a4)(I:br)(E:dH)(m:dF):f5:=fun gR az H=>∃O σ S f aJ,cj K I O σ S az H/\(m σ).run S=.ok f aJ/\wK K I E O σ aJ az H f gR
structure mx(X:aS)(E:dH)(st:Stmt)(m:dF):Prop where
 un:jf X st (Ga X.K X.I E m)
structure oJ(X:aS)(E:dH)(F3:List Stmt)(m:dF):Prop where
 un:hA X F3 (Ga X.K X.I E m)
noncomputable def fI(a:aV):dF:=fun σ=>do
 let bO <-a σ
 match bO with
 |.a8 σ'=>pure (.a8 σ')|.cA (.v d)=>pure (.cA d)|_=>bad
noncomputable def fX(t:a9->M Bool)(a b:dF):dF:=fun σ=>do
 let t <-t σ
 if t=true then a σ else b σ
noncomputable def gy:dF:=fun σ=>pure (.a8 σ)
noncomputable def dU(a b:dF):dF:=fun σ=>do
 let f <-a σ
 match f with
 |.a8 σ'=>b σ'|f=>pure f
noncomputable def ja(c:Str)(ms:cQ):dF:=fun σ=>do
 let rs <-ms σ
 eS (rs.length<=1000)
 pure (.ex c)
noncomputable def e4(K:a4)(I:br)(bg:dE):gG:=fun ar H Q E=>∃O ds r aJ,dP O H/\lG K I O H ds ar/\(bg ds).run []=.ok r aJ/\match r with
 |.ret d=>∀aD v aa,Go O aD H aa->dP aD aa->aJ=[]->Rep K I aD aa d v->Q v aa|.exc c=>∀C aD aa,I c=some (.ref C)->Go O aD H aa->dP aD aa->aJ=[]->E (.ref C) none aa
noncomputable def d4(n N:Nat)(b:dF):dE:=fun ds=>if ds.length=n then do
  let bO <-b (ds.map e9++ahu (N-n) .emp)
  match bO with
  |.a8 _=>pure (.ret .ba)|.cA d=>pure (.ret d)|.ex c=>pure (.exc c)
 else bad
theorem Jj{ds:List D}(h:(d4 n N b ds).run S=.ok r aJ):ds.length=n:=by
 unfold d4 at h
 by_cases c:ds.length=n
 ·exact c
 ·rw[if_neg c]at h;cases h
theorem QL{K:a4}{I:br}{ps N:List Str}{cw:dF}{ar:List V}{H:aI}{Q:cY}{E:dH}(hM:e4 K I (d4 ps.length N.length cw) ar H Q E):Ga K I E cw { a8:=fun _ aa=>Q .ba aa,cA:=Q } (ak.start N ar) H:=by
 obtain⟨O,ds,r,aJ,gW,jD,h,q⟩:=hM;have ao:=Jj h;have o8:=jD.len;unfold d4 at h;rw[if_pos ao]at h;obtain⟨bO,a6,aj,h⟩:=M.inv h;have rg:cj K I (dK O) (ds.map e9++ahu (N.length-ps.length) .emp) [] (ak.start N ar) H:=by
  refine⟨⟨fun a ax=>gW.has a fun z=>ax (jj.mpr z),gW.tabs⟩,?_,fun i s e=>?_,rfl⟩
  ·unfold ak.start
   rw[ag3,ag3,ag4,ag4,ahR,ahR,o8,ao]
  ·by_cases aC:i<ds.length
   ·rw[ahF (by rw[ag4];exact aC),ahA]at e
    cases eZ:ds[i]? with
    |none=>rw[eZ]at e;cases e
    |some d=>
     rw[eZ]at e;cases e;obtain⟨v,ev,bZ⟩:=jD.get eZ;unfold ak.start;rw[ahF (by rw[ag4,o8];exact aC),ahA,ev];exact NL bZ
   ·rw[ah4 (by rw[ag4];omega),aiG]at e
    split at e
    ·cases e;exact trivial
    ·cases e
 have old:∀b,H b≠none->dK O b=.free\/dK O b=.out:=fun b _=>jE O b
 have back:∀{aD:b9}{aa:aI},dJ (dK O) aD H aa->dP aD aa->∃bt:b9,Go O bt H aa/\dP bt aa/\iO aD bt/\∀b,(aD b=.eK\/∃i,aD b=.loc i)->H b=none/\bt b=.eK:=fun{aD aa} g d=>by
  refine⟨fun b=>match H b with | some _=>O b | none=>(match aD b with | .loc _=>.eK | o=>o),⟨⟨fun b o e n=>g.cells b o e ((old b (by rw[e];intro z;cases z)).elim .inl fun z=>.inr (.inl z)) n,g.cJ,g.cI⟩,fun b U=>?_⟩,⟨fun b U=>?_,d.tabs⟩,⟨fun b U=>?_⟩,fun b U=>?_⟩
  ·cases e:H b with
   |none=>exact absurd e U|some o=>rfl
  ·cases e:H b with
   | some o=>exact g.has b (by rw[e];intro z;cases z)|none=>
    rw[e]at U;refine d.has b fun z=>U ?_
    dsimp only;rw[z]
  ·cases e:H b with
   |some o=>
    dsimp only;have:=(g.own b (by rw[e];intro z;cases z) (jE O b)).symm.trans U;exact jj.mp this
   |none=>
    dsimp only;rw[U]
  ·have aR:H b=none:=by
    cases e:H b with
    |none=>rfl|some o=>
     exfalso;have bh:=g.own b (by rw[e];intro z;cases z) (jE O b);rcases jE O b with z | z<;>rw[z]at bh<;>rcases U with w | ⟨i,w⟩<;>rw[bh]at w<;>cases w
   refine⟨aR,?_⟩;dsimp only;rw[aR];rcases U with w | ⟨i,w⟩<;>rw[w]
 refine⟨dK O,_,[],bO,a6,rg,aj,?_⟩
 cases bO with
 |a8 σ'=>
  cases h;intro aD fz aa g b2 _;obtain⟨bt,g2,gK,f2,_⟩:=back g b2.dh;exact q bt .ba aa g2 gK b2.emp rfl
 |cA d=>
  cases h;intro aD v aa g gW cm bD;obtain⟨bt,g2,gK,f2,en⟩:=back g gW;exact q bt v aa g2 gK cm (Rep.cK f2 bD)
 |ex c=>
  cases h;intro C aD aa m g gW cm;obtain⟨bt,g2,gK,f2,en⟩:=back g gW;exact q C bt aa m g2 gK cm
theorem nU{P:ahq}{w:World}{K:a4}{I:br}{base:Heap}{x:Str}{st:Stmt}{ps N:List Str}{k:Nat}{cw:dF}{n nl:Nat}(bB:bB K I x st ps)(Sc:c5 N ps (b_ st))(aR:ps.length=n)(ao:N.length=nl)
  (U:∀(f:Addr)(bU:Value)(A:ahX)(outer:List Env)(s:ag9)(H:aI)(E:dH),eh k (A.deeper (ajK x (b_ st) s.heap.objs.size f bU))->Lets (gJ (gz P w) P w K I base N x (b_ st) f bU A outer s H E) E->
   oJ (gJ (gz P w) P w K I base N x (b_ st) f bU A outer s H E) E (kZ st) cw):eN P w K I base x ps (k+1) (e4 K I (d4 n nl cw)):=by
 subst aR ao;obtain⟨f,fd,F,b,m⟩:=bB.ex;refine⟨f,fd,?_,b,F.cv,m⟩;obtain⟨iI,hO,d5,doc,pm,an,bU,c3,kD,rfl,lk,dN⟩:=F.ex;exact Jl lk dN Sc (fun ar H Q E ⟨O,ds,r,aJ,gW,jD,h,q⟩=>jD.len.trans (Jj h)) fun A outer s H ar Q E ay hM=>⟨_,(U f bU A outer s H E ay WW).un,QL hM⟩
section
variable{X:aS}{C B:Addr}{E:dH}{st:Stmt}{rest:List Stmt}{pos p np cu:Pos}{a b:dF}{x:Str}{ps:List Str}{k:Nat}{bg:dE}{ep e:Expr}{aE:List Expr}{ms:cQ}
theorem hX(h:iR X st m):mx X E st (fI m):=⟨g4 h.un<|by
 rintro D az H ⟨O,σ,S,bO,aJ,s3,h,q⟩;obtain⟨f,a6,aj,h⟩:=M.inv h;refine⟨O,σ,S,f,a6,s3,aj,?_⟩
 cases f with
 |a8 σ'=>cases h;exact q
 |fM _=>cases h
 |c3 σ'=>cases h
 |cA r=>
  cases r with
  |v d=>cases h;exact q
  | _=>cases h⟩
theorem ih{c:Expr}{A B:List Stmt}{t:a9->M Bool}(aA:iw X c t)(ax:oJ X E A a)(U:oJ X E B b):mx X E (.If c A B pos) (fX t a b):=⟨g4 (MG aA.un ax.un U.un)<|by
 rintro D az H ⟨O,σ,S,bO,aJ,st,h,q⟩;obtain⟨t,a6,aj,h⟩:=M.inv h;refine⟨O,σ,S,t,a6,st,aj,fun aY H1 g1 a3=>?_⟩
 cases t with
 |false=>
  rw[if_neg ahd]at h;exact lj ⟨aY,σ,a6,bO,aJ,a3,h,q.dj g1.dj (dQ.refl _ _)⟩
 |true=>
  rw[if_pos rfl]at h;exact ky ⟨aY,σ,a6,bO,aJ,a3,h,q.dj g1.dj (dQ.refl _ _)⟩⟩
theorem ij:oJ X E [] gy:=⟨q9 EP fun D az H ⟨O,σ,S,bO,aJ,st,h,q⟩=>by cases h;exact q O az H (dJ.refl _ _) st (dQ.refl _ _)⟩
theorem fj(h:mx X E st a):oJ X E [st] a:=⟨MI h.un⟩
theorem eM(aj:mx X E st a)(h2:oJ X E rest b):oJ X E (st::rest) (dU a b):=⟨q9 (y8 aj.un h2.un)<|by
 rintro D az H ⟨O,σ,S,bO,aJ,st,h,q⟩;obtain⟨f1,a6,aj,h⟩:=M.inv h;refine⟨O,σ,S,f1,a6,st,aj,?_⟩
 cases f1 with
 |a8 fl=>exact fun aY p3 H1 g1 a3 k1=>⟨aY,fl,a6,bO,aJ,a3,h,q.dj g1 k1⟩
 |cA d=>cases h;exact q
 | ex c=>cases h;exact q⟩
theorem lF(V:∃C,wx X.K X.I x C)(aA:X.calm=true)(a':dC X x)(L:Lets X E)(ax:f6 X (ep::aE) ms)(he:ag6 (ep::aE) X.env=(false,eval ep X.env)::ag6 aE X.env:=by rfl)
  (ku:(ahN cu (ag6 aE X.env)).any (·.1)=false:=by rfl) (da:(x==("__debug__":Str))=false:=by decide) :
  mx X E (.Raise (some (.Call (.Name x np) (ep::aE) [] cu)) none pos) (ja x ms):=by
 obtain⟨C,V⟩:=V;refine⟨g4 (Zx V aA a' L ax.un he ku da) fun D az H ⟨O,σ,S,f,aJ,st,h,q⟩=>?_⟩;obtain⟨rs,a6,aj,h⟩:=M.inv h;obtain⟨_,bS,h2,h⟩:=M.inv h;obtain⟨ao,rfl⟩:=mD h2;cases h;exact⟨O,σ,S,rs,_,st,aj,fun aY ar H1 g1 a3 bD nn=>⟨ahM (eJ (by rw[bD.len];exact ao)),q C aY H1 V.at' g1.dj a3.dh a3.emp⟩⟩
noncomputable def qd(bg:dE)(ms:cQ):bj:=fun σ=>do
 let rs <-ms σ
 let r <-bg (rs.map R.arg)
 match r with
 |.ret d=>pure (.v d)|.exc _=>bad
theorem OA(h:eN X.prog X.w X.K X.I X.base x ps k (e4 X.K X.I bg))(ay:eh k X.A)(a':dC X x)(ax:f6 X (e::aE) ms)(da:(x==("__debug__":Str))=false:=by decide)
  (he:ag6 (e::aE) X.env=(false,eval e X.env)::ag6 aE X.env:=by rfl) (du:(ahN pos (ag6 aE X.env)).any (·.1)=false:=by rfl):cq X (.Call (.Name x p) (e::aE) [] pos) (qd bg ms):=
 ⟨et (vt (E:=fun _ _ _=>False) h ay a' (fun ae σ H s e s' J c=>by obtain⟨_,_,_,_,_,_,_,_,z⟩:=c;exact z.elim) ax.un da he du) fun az H Q ⟨O,σ,S,r,aJ,st,gp,q⟩=>by
  obtain⟨rs,a6,aj,gp⟩:=M.inv gp;obtain⟨bq,bS,h2,gp⟩:=M.inv gp;refine⟨O,σ,S,rs,a6,st,aj,fun aY ar H1 g1 a3 bD nn=>?_⟩;have cm:=a3.emp;subst cm;refine⟨aY,_,bq,_,a3.dh,lP bD,h2,?_⟩
  cases bq with
  |ret d=>
   cases gp;exact fun aD v aa g' d' cm bZ=>q aD v aa (g1.trans g') (by subst cm;exact a3.go g' d') bZ trivial
  | exc c=>cases gp⟩
noncomputable def Bm(ie ik:Nat)(bg:dE)(ms:cQ)(bw:List (Str×List Bool)):aV:=fun σ=>do
 let rs <-ms σ
 let r <-bg (rs.map R.arg)
 match r with
 |.ret _=>pure (.a8 σ)|.exc c=>match bw.lookup c with
  |some bs=>pure (.a8 ((σ.set ik (.val (.lst (bs.map D.aB)))).set ie .emp))|none=>bad
structure Po(X:aS)(ea:Str)(ie ik:Nat)(body:List Stmt)(c:Str)(bs:List Bool):Prop where
 ex:∃B,X.I ea=some (.ref B)/\∀C,X.I c=some (.ref C)->W.exmOne X.K (.ref C) (.ref B)=some true/\∀a c2,Ay (aS.held X a c2) ie ik a C body bs
omit [ak.a7]in
theorem M_{K:a4}{I:br}{O:b9}{H:aI}:∀bs:List Bool,bu K I O H (bs.map D.aB) (bs.map V.aB)
 |[]=>rfl|b::bs=>⟨_,_,rfl,rfl,M_ bs⟩
theorem cj.unset{K:a4}{I:br}{O:b9}{σ:a9}{S:e7}{az:ak.St}{H:aI}{i:Nat}(st:cj K I O σ S az H):cj K I O (σ.set i .emp) S (az.set i none) H:=by
 refine⟨st.dh,by rw[ah3,ah3];exact st.len,fun j t e=>?_,st.emp⟩
 by_cases bV:i=j
 ·subst bV
  have ao:i<σ.length:=by
   have:=(ahe.mp e).1
   rwa[ah3]at this
  rw[ahr ao]at e;cases e;exact trivial
 ·rw[ahD bV]at e ⊢
  exact st.loc j t e
end
section
omit [ak.a7]
@[simp] theorem agf:fI a σ=(do
 let bO <-a σ
 match bO with
 |.a8 σ'=>pure (.a8 σ')|.cA (.v d)=>pure (.cA d)| _=>bad):=rfl
@[simp] theorem age:fX t a b σ=(do
 let t <-t σ
 if t=true then a σ else b σ):=rfl
@[simp] theorem agg:gy σ=pure (.a8 σ):=rfl
@[simp] theorem agk:dU a b σ=(do
 let f <-a σ
 match f with
 |.a8 σ'=>b σ'| f=>pure f):=rfl
@[simp] theorem agh:ja c ms σ=(do
 let rs <-ms σ
 eS (rs.length<=1000)
 pure (.ex c)):=rfl
@[simp] theorem adZ:qd bg ms σ=(do
 let rs <-ms σ
 let r <-bg (rs.map R.arg)
 match r with
 |.ret d=>pure (.v d)| .exc _=>bad):=rfl
@[simp] theorem ad5:Bm ie ik bg ms bw σ=(do
 let rs <-ms σ
 let r <-bg (rs.map R.arg)
 match r with
 |.ret _=>pure (.a8 σ)|.exc c=>match bw.lookup c with
  |some bs=>pure (.a8 ((σ.set ik (.val (.lst (bs.map D.aB)))).set ie .emp))| none=>bad):=rfl
end
end aN
namespace aN
open PySem
theorem Wx{P:Str->List Bool->Prop}:∀c bs,([]:List (Str×List Bool)).lookup c=some bs->P c bs:=fun _ _ h=>by cases h
theorem Wv{P:Str->List Bool->Prop}{bw:List (Str×List Bool)}(h:P mA hD)(ay:∀c bs,bw.lookup c=some bs->P c bs):∀c bs,((mA,hD)::bw).lookup c=some bs->P c bs:=fun c bs e=>by
 rw[ah1]at e;split at e
 ·rename_i z
  cases e;cases beq_iff_eq.mp z;exact h
 ·exact ay c bs e
end aN
namespace aN
open PySem PySem.Spec ak PyProof.Rows
variable[ak.a7]
noncomputable def jx(c:a9->M Bool)(b:dF):Nat->dF
 |0=>fun _=>bad
 |n+1=>fun σ=>do
  let t <-c σ
  if t=true then do
   let bO <-b σ
   match bO with
   |.a8 σ'=>jx c b n σ'|.cA r=>pure (.cA r)|.ex x=>pure (.ex x)
  else pure (.a8 σ)
noncomputable def we(c:a9->M Bool)(b:dF):dF:=jx c b mh
noncomputable def p1(i:Nat)(bg:dE)(ms:cQ):dF:=fun σ=>do
 let rs <-ms σ
 let r <-bg (rs.map R.arg)
 match r with
 |.ret d=>pure (.a8 (σ.set i (.val d)))|.exc c=>pure (.ex c)
noncomputable def pZ(bg:dE)(ms:cQ):dF:=fun σ=>do
 let rs <-ms σ
 let r <-bg (rs.map R.arg)
 match r with
 |.ret d=>pure (.cA d)|.exc c=>pure (.ex c)
inductive PB where
 |ok (ds:List D) | ex (c:Str)
noncomputable abbrev lL:=a9->M PB
noncomputable def Gy:lL:=fun _=>pure (.ok [])
noncomputable def rv(bg:dE)(ms:cQ)(m:lL):lL:=fun σ=>do
 let rs <-ms σ
 let r <-bg (rs.map R.arg)
 match r with
 |.exc c=>pure (.ex c)|.ret d=>do
  let q <-m σ
  match q with
  |.ex c=>pure (.ex c)|.ok ds=>pure (.ok (d::ds))
noncomputable def wd(i:Nat)(m:lL):dF:=fun σ=>do
 let q <-m σ
 match q with
 |.ex c=>pure (.ex c)|.ok ds=>do
  eS (ds.length<=1000)
  pure (.a8 (σ.set i (.val (.tup ds))))
noncomputable def abQ(K:a4)(I:br)(E:dH)(m:lL):f3:=fun az H Q=>∃O σ S q aJ,cj K I O σ S az H/\(m σ).run S=.ok q aJ/\match q with
 |.ok ds=>∀aD ar aa,Go O aD H aa->cj K I aD σ aJ az aa->bu K I aD aa ds ar->Q ar aa|.ex c=>∀C aD aa,I c=some (.ref C)->Go O aD H aa->dP aD aa->aJ=[]->E (.ref C) none aa
structure wV(X:aS)(E:dH)(aE:List Expr)(m:lL):Prop where
 un:g_ X aE (abQ X.K X.I E m)
section
variable{X:aS}{E:dH}{st:Stmt}{pos p cR q5:Pos}{a b:dF}{x f:Str}{ps:List Str}{k i:Nat}{bg:dE}{e:Expr}{aE fs:List Expr}{ms:cQ}{m:lL}
theorem acT(aP:akh (model X.prog X.w) X.A X.env X.c2)(aA:iw X c t)(U:oJ X E body b):mx X E (.While c body [] pos) (we t b):=by
 refine⟨g4 (MH aP aA.un U.un) ?_⟩;rintro D az H ⟨O,σ,S,bO,aJ,st,h,q⟩;refine⟨fun m fz aa=>∃aD σ' ee,cj X.K X.I aD σ' ee fz aa/\dJ O aD H aa/\dQ σ σ' az fz/\(jx t b m σ').run ee=.ok bO aJ,⟨mh,O,σ,S,st,dJ.refl _ _,dQ.refl _ _,h⟩,?_⟩;rintro m fz aa ⟨aD,σ',ee,b2,g',cv,h⟩
 cases m with
 |zero=>cases h
 |succ n=>
  obtain⟨tt,a6,aj,h⟩:=M.inv h;refine⟨aD,σ',ee,tt,a6,b2,aj,fun aY H1 g1 a3=>?_⟩
  cases tt with
  |false=>
   rw[if_neg ahd]at h;cases h;exact lj (q aY fz H1 (g'.trans g1.dj) a3 cv)
  |true=>
   rw[if_pos rfl]at h;obtain⟨f1,bS,h2,h⟩:=M.inv h;refine ky ⟨fun hv aZ=>∃bt dA bS,cj X.K X.I bt dA bS hv aZ/\dJ O bt H aZ/\dQ σ dA az hv/\(jx t b n dA).run bS=.ok bO aJ,?_,aY,σ',a6,f1,bS,a3,h2,?_⟩
   ·rintro hv aZ ⟨bt,dA,bS,a⟩
    exact⟨n,alj _,bt,dA,bS,a⟩
   ·cases f1 with
    |a8 dA=>exact fun bt hv aZ g2 cW k2=>⟨bt,dA,bS,cW,g'.trans (g1.dj.trans g2),cv.trans k2,h⟩
    |cA r=>cases h;exact fun bt v aZ g2 gK aT cn=>q bt v aZ (g'.trans (g1.dj.trans g2)) gK aT cn
    |ex c=>cases h;exact fun C bt aZ d8 g2 gK aT=>q C bt aZ d8 (g'.trans (g1.dj.trans g2)) gK aT
theorem Gv(h:eN X.prog X.w X.K X.I X.base f ps k (e4 X.K X.I bg))(ay:eh k X.A)(a':dC X f)(L:Lets X E)(bY:X.N.Nodup)(aC:X.N[i]? = some x)(av:Loc X.env.scope x)(ax:f6 X (e::aE) ms)(da:(f==("__debug__":Str))=false:=by decide)
  (he:ag6 (e::aE) X.env=(false,eval e X.env)::ag6 aE X.env:=by rfl) (du:(ahN pos (ag6 aE X.env)).any (·.1)=false:=by rfl)
  (aQ:ah6 (.Call (.Name f p) (e::aE) [] pos) (some (.Name x cR)) q5.line X.env=pure false:=by rfl) (hf:X.fn x=true\/X.env.scope.names.lookup x=some .local:=by first | exact .inl rfl | exact .inr rfl | assumption) :
  mx X E (.Assign [.Name x cR] (.Call (.Name f p) (e::aE) [] pos) q5) (p1 i bg ms):=
 ⟨g4 (pM bY aC av (vt h ay a' L.pass ax.un da he du) aQ hf) fun D az H ⟨O,σ,S,bO,aJ,st,h,q⟩=>by
  obtain⟨rs,a6,aj,h⟩:=M.inv h;obtain⟨r,bS,h2,h⟩:=M.inv h;refine⟨O,σ,S,rs,a6,st,aj,fun aY ar H1 g1 a3 bD nn=>?_⟩;have cm:=a3.emp;subst cm;refine⟨aY,_,r,_,a3.dh,lP bD,h2,?_⟩
  cases r with
  |ret d=>
   cases h;intro aD v aa g' d' cm bZ;subst cm;exact q aD _ aa (g1.trans g').dj ((a3.go g' d').val bZ) (dQ.set fun xs z=>by cases z)
  | exc c=>cases h;exact fun C aD aa d8 g' d' cm=>q C aD aa d8 (g1.trans g').dj d' cm⟩
theorem wb(h:eN X.prog X.w X.K X.I X.base f ps k (e4 X.K X.I bg))(ay:eh k X.A)(a':dC X f)(L:Lets X E)(ax:f6 X (e::aE) ms)(da:(f==("__debug__":Str))=false:=by decide)
  (he:ag6 (e::aE) X.env=(false,eval e X.env)::ag6 aE X.env:=by rfl) (du:(ahN pos (ag6 aE X.env)).any (·.1)=false:=by rfl):mx X E (.Return (some (.Call (.Name f p) (e::aE) [] pos)) cR) (pZ bg ms):=
 ⟨g4 (y7 (vt h ay a' L.pass ax.un da he du)) fun D az H ⟨O,σ,S,bO,aJ,st,h,q⟩=>by
  obtain⟨rs,a6,aj,h⟩:=M.inv h;obtain⟨r,bS,h2,h⟩:=M.inv h;refine⟨O,σ,S,rs,a6,st,aj,fun aY ar H1 g1 a3 bD nn=>?_⟩;have cm:=a3.emp;subst cm;refine⟨aY,_,r,_,a3.dh,lP bD,h2,?_⟩
  cases r with
  |ret d=>cases h;exact fun aD v aa g' d' cm bZ=>q aD v aa (g1.trans g').dj d' cm bZ
  | exc c=>cases h;exact fun C aD aa d8 g' d' cm=>q C aD aa d8 (g1.trans g').dj d' cm⟩
theorem acU:wV X E [] Gy:=⟨td q7 fun az H Q ⟨O,σ,S,q,aJ,st,h,k⟩=>by cases h;exact k O [] H (Go.refl _ _) st rfl⟩
theorem OX(h:eN X.prog X.w X.K X.I X.base f ps k (e4 X.K X.I bg))(ay:eh k X.A)(a':dC X f)(L:Lets X E)(ax:f6 X (e::aE) ms)(hm:wV X E fs m)(da:(f==("__debug__":Str))=false:=by decide)
  (he:ag6 (e::aE) X.env=(false,eval e X.env)::ag6 aE X.env:=by rfl) (du:(ahN pos (ag6 aE X.env)).any (·.1)=false:=by rfl)
  (aQ:ag6 (.Call (.Name f p) (e::aE) [] pos::fs) X.env=(false,eval (.Call (.Name f p) (e::aE) [] pos) X.env)::ag6 fs X.env:=by rfl):wV X E (.Call (.Name f p) (e::aE) [] pos::fs) (rv bg ms m):=
 ⟨td (m8 (vt h ay a' L.pass ax.un da he du) hm.un aQ) fun az H Q ⟨O,σ,S,q,aJ,st,h,k⟩=>by
  obtain⟨rs,a6,aj,h⟩:=M.inv h;obtain⟨r,bS,h2,h⟩:=M.inv h;refine⟨O,σ,S,rs,a6,st,aj,fun aY ar H1 g1 a3 bD nn=>?_⟩;have cm:=a3.emp;subst cm;refine⟨aY,_,r,_,a3.dh,lP bD,h2,?_⟩
  cases r with
  |exc c=>cases h;exact fun C aD aa d8 g' d' cm=>k C aD aa d8 (g1.trans g') d' cm
  |ret d=>
   obtain⟨cM,hB,bz,h⟩:=M.inv h;intro aD v aa g' d' cm bZ;subst cm;refine⟨aD,σ,[],cM,hB,a3.go g' d',bz,?_⟩
   cases cM with
   |ex c=>cases h;exact fun C bt aZ d8 g2 gK aT=>k C bt aZ d8 ((g1.trans g').trans g2) gK aT
   | ok ds=>cases h;exact fun bt ar aZ g2 cW ck=>k bt (v::ar) aZ ((g1.trans g').trans g2) cW ⟨v,ar,rfl,bZ.go g2,ck⟩⟩
theorem acS(bY:X.N.Nodup)(aC:X.N[i]? = some x)(av:Loc X.env.scope x)(hm:wV X E fs m){n1:Nat}(aQ:ah6 (.Tuple fs n1 p) (some (.Name x cR)) q5.line X.env=pure false:=by rfl)
  (hf:X.fn x=true\/X.env.scope.names.lookup x=some .local:=by first | exact .inl rfl | exact .inr rfl | assumption):mx X E (.Assign [.Name x cR] (.Tuple fs n1 p) q5) (wd i m):=
 ⟨g4 (pM bY aC av (EL hm.un) aQ hf) fun D az H ⟨O,σ,S,bO,aJ,st,h,q⟩=>by
  obtain⟨bh,a6,aj,h⟩:=M.inv h;refine⟨O,σ,S,bh,a6,st,aj,?_⟩
  cases bh with
  |ex c=>cases h;exact fun C aD aa d8 g' d' cm=>q C aD aa d8 g'.dj d' cm
  |ok ds=>
   obtain⟨_,bS,h2,h⟩:=M.inv h;obtain⟨ao,rfl⟩:=mD h2;cases h;intro aD ar aa g' b2 ck;refine⟨ahM (eJ (by rw[ck.len];exact ao)),fun p aP=>?_⟩;exact q aD _ _ (g'.dj.trans (Go.fT aP).dj) ((b2.fT aP).val ⟨p,ar,rfl,dG.of eb,ck.go (Go.fT aP)⟩) (dQ.set fun xs z=>by cases z)⟩
end
theorem IJ{P:ahq}{w:World}{K:a4}{I:br}{base:Heap}{x:Str}{st:Stmt}{ps:List Str}{k:Nat}{sp:gG}(D:bB K I x st ps)(no:∀ar H Q E,¬sp ar H Q E):eN P w K I base x ps k sp:=by
 obtain⟨f,fd,F,b,m⟩:=D.ex;exact⟨f,fd,⟨fun ar H Q E h=>absurd h (no ar H Q E),fun A outer s H args us ar Q E _ _ _ _ h=>absurd h (no ar H Q E)⟩,b,F.cv,m⟩
section
omit [ak.a7]
@[simp] theorem agn:we c b σ=jx c b mh σ:=rfl
@[simp] theorem agl:p1 i bg ms σ=(do
 let rs <-ms σ
 let r <-bg (rs.map R.arg)
 match r with
 |.ret d=>pure (.a8 (σ.set i (.val d)))| .exc c=>pure (.ex c)):=rfl
@[simp] theorem agi:pZ bg ms σ=(do
 let rs <-ms σ
 let r <-bg (rs.map R.arg)
 match r with
 |.ret d=>pure (.cA d)| .exc c=>pure (.ex c)):=rfl
@[simp] theorem agp:Gy σ=pure (.ok []):=rfl
@[simp] theorem ago:rv bg ms m σ=(do
 let rs <-ms σ
 let r <-bg (rs.map R.arg)
 match r with
 |.exc c=>pure (.ex c)|.ret d=>do
  let q <-m σ
  match q with
  |.ex c=>pure (.ex c)| .ok ds=>pure (.ok (d::ds))):=rfl
@[simp] theorem agm:wd i m σ=(do
 let q <-m σ
 match q with
 |.ex c=>pure (.ex c)|.ok ds=>do
  eS (ds.length<=1000)
  pure (.a8 (σ.set i (.val (.tup ds))))):=rfl
end
end aN
namespace aN
open PySem PySem.Spec ak PyProof.Rows
section
variable{X:aS}
theorem Ol:∀l:List (Str×Tok),Vals ((l.map (·.1)).map V.str) (strValues l)
 |[]=>.nil|(x,t)::l=>.cons ⟨t,rfl⟩ (Ol l)
open Builtin Builtin.Str in
theorem Lw:nA X "str.split" (fun x xs H Q=>∃y z,x=.str y/\xs=[.str z]/\(z.length==0)=false/\y.length+2<=ag5/\(aij y z).length<=ag5/\∀p,H p=none->Q (.ref p) (upd H p (.lst ((aij y z).map V.str)))):=by
 intro ae s σ H x xs v us Q J a0 rs ⟨y,z,ex,d_,aX,ao,Dq,q⟩;subst ex d_;obtain⟨t,rfl⟩:=a0;obtain⟨u,rfl,t',rfl⟩:=vals1 rs;have fin:∀(l:List (Str×Tok))(k:Nat),l.map (·.1)=aij y z->gA X ae σ Q (.ref s.heap.objs.size) { s with toks:=k,heap:=s.heap.push { cls:=.type "list",data:=.seq (strValues l).toArray } }:=fun l k e=>by
  have bF:=Ol l;rw[e]at bF;exact⟨.ref _,_,J.yA (t':=k) bF (by rw[ag4];exact Dq),rfl,q _ J.fresh⟩
 have aR:(partsBetween y (akB y z 0 y.length (y.length+1)) z.length).length<=ag5:=by
  have aH:=StrLaws.occ_length_le y z 0 y.length (y.length+1);rw[length_partsBetween];omega
 cases aj:(decide (y.length<z.length)||decide (strKind y<strKind z))
 ·cases hf:(akB y z 0 y.length (y.length+1)).isEmpty
  ·refine ajZ alo (ajY _ _ _) akZ (akK _ _) (meets_str_split_sep y z t t' aj aX hf (by omega) aR) ?_
   show wants _ _ _ { s with toks:=_,heap:=s.heap.push { cls:=.type "list",data:=.seq (strsFrom s.toks (partsBetween y (akB y z 0 y.length (y.length+1)) z.length)).toArray } };rw[strsFrom_eq];exact fin (numbered s.toks _) _ ((numbered_texts _ _).trans ((if_neg (ne_true_of_eq_false aj)).trans (if_neg (ne_true_of_eq_false hf))).symm)
  ·exact ajZ alo (ajY _ _ _) akZ (akK _ _) (meets_str_split_not_found y z t t' aj aX hf)
    (fin [(y,t)] s.toks ((if_neg (ne_true_of_eq_false aj)).trans (if_pos hf)).symm)
 ·exact ajZ alo (ajY _ _ _) akZ (akK _ _) (meets_str_split_cannot_occur y z t t' aj)
   (fin [(y,t)] s.toks (if_pos aj).symm)
end
variable[ak.a7]
noncomputable def k7(x:R)(rs:List R):M R:=match x,rs with
 |.v (.str y),[.v (.str z)]=>if(z.length==0)=false/\y.length+2<=ag5/\(aij y z).length<=ag5 then pure (.v (.lst ((aij y z).map D.str)))else bad|_,_=>bad
omit [ak.a7]in
theorem Md:rG k7:=fun a0 rs S bq aJ h=>by
 unfold k7 at h;split at h
 ·exact⟨_,rfl⟩
 ·cases h
omit [ak.a7]in
theorem E0{K:a4}{I:br}{O:b9}{H:aI}:∀zs:List Str,bu K I O H (zs.map D.str) (zs.map V.str)
 |[]=>rfl|z::zs=>⟨_,_,rfl,rfl,E0 zs⟩
theorem H5{K:a4}{I:br}:rz K I (fun x xs H Q=>∃y z,x=.str y/\xs=[.str z]/\(z.length==0)=false/\y.length+2<=ag5/\(aij y z).length<=ag5/\∀p,H p=none->Q (.ref p) (upd H p (.lst ((aij y z).map V.str)))) k7:=fun O σ S az H x xs a0 rs bq aJ Q st av ay h q=>by
 unfold k7 at h;split at h
 ·rename_i y z
  by_cases c:(z.length==0)=false/\y.length+2<=ag5/\(aij y z).length<=ag5
  ·rw[if_pos c]at h
   cases h;obtain⟨v,rfl,bF⟩:=iK ay;refine⟨y,z,av,by rw[show v=V.str z from bF],c.1,c.2.1,c.2.2,fun p aP=>?_⟩;exact q O _ _ (Go.fT aP) (st.fT aP) ⟨p,_,rfl,⟨eb,st.dh.free aP⟩,E0 _⟩ trivial
  ·rw[if_neg c]at h;cases h
 ·cases h
section
omit [ak.a7]
theorem Cm{y z:Str}(aj:(z.length==0)=false)(h2:y.length+2<=ag5)(bz:(aij y z).length<=ag5):k7 (.v (.str y)) [.v (.str z)]=pure (.v (.lst ((aij y z).map D.str))):=if_pos ⟨aj,h2,bz⟩
end
end aN
namespace aN
open PySem PySem.Spec ak PyProof.Rows
section
variable{X:aS}
theorem QY:g7 X (.type "str") (fun xs H Q=>(∃i,xs=[.int i]/\i.natAbs.log2<1920/\Q (.str (toString i)) H)\/∃x,xs=[.str x]/\Q (.str x) H):=by
 intro ae s σ H xs us Q J r h;rcases h with h | ⟨x,rfl,q⟩
 ·exact Bn ae s σ H xs us Q J r h
 ·obtain⟨u,rfl,t,rfl⟩:=vals1 r
  exact P.str_of_str ⟨.str x,H,J,⟨_,rfl⟩,q⟩
end
variable[ak.a7]
noncomputable def uv:List R->M R
 |[.v (.int i)]=>if i.natAbs.log2<1920 then pure (.v (.str (toString i)))else bad|[.v (.str x)]=>pure (.v (.str x))|_=>bad
theorem Wf{K:a4}{I:br}:ip K I (fun xs H Q=>(∃i,xs=[.int i]/\i.natAbs.log2<1920/\Q (.str (toString i)) H)\/∃x,xs=[.str x]/\Q (.str x) H) uv:=fun O σ S az H ar rs bq aJ Q st ay h q=>by
 unfold uv at h;split at h
 ·rename_i i
  by_cases c:i.natAbs.log2<1920
  ·rw[if_pos c]at h
   cases h;obtain⟨v,rfl,av⟩:=iK ay;exact .inl ⟨i,by rw[show v=V.int i from av],c,q O _ H (Go.refl _ _) st rfl trivial⟩
  ·rw[if_neg c]at h;cases h
 ·rename_i x
  cases h;obtain⟨v,rfl,av⟩:=iK ay;exact .inr ⟨x,by rw[show v=V.str x from av],q O _ H (Go.refl _ _) st rfl trivial⟩
 ·cases h
end aN
namespace aN
open PySem PySem.Spec ak PyProof.Rows
section
variable{X:aS}
noncomputable def kF(y z:Str):List Str:=[(aiP y z).1,(aiP y z).2.1,(aiP y z).2.2]
open Builtin Builtin.Str in
theorem XD:nA X "str.partition" (fun x xs H Q=>∃y z,x=.str y/\xs=[.str z]/\(z.length==0)=false/\y.length<=ag5/\∀p,H p=none->Q (.ref p) (upd H p (.tup ((kF y z).map V.str)))):=by
 intro ae s σ H x xs v us Q J a0 rs ⟨y,z,ex,d_,aX,ao,q⟩;subst ex d_;obtain⟨t,rfl⟩:=a0;obtain⟨u,rfl,t',rfl⟩:=vals1 rs;have fin:∀(ta cJ j0:Tok)(k:Nat),gA X ae σ Q (.ref s.heap.objs.size) { s with toks:=k,heap:=s.heap.push { cls:=.type "tuple",data:=.seq [.str (aiP y z).1 ta,.str (aiP y z).2.1 cJ,.str (aiP y z).2.2 j0].toArray } }:=fun ta cJ j0 k=>
  ⟨.ref _,_,J.laid (t':=k) (o:=.tup ((kF y z).map V.str)) (fun b cL q=>ag8 _ q) (ahg _) ⟨by show 3<=ag5;rw[ahY];omega,_,.cons ⟨ta,rfl⟩ (.cons ⟨cJ,rfl⟩ (.cons ⟨j0,rfl⟩ .nil)),⟨_,aho _ rfl,rfl,_,rfl⟩⟩,rfl,q _ (J.bp.fresh (ahg _))⟩
 refine ajZ F.slot_str_partition (ajY _ _ _) F.entry_str_partition (F.args_str_partition_2 _ _) (meets_str_partition y z t t' aX ao) ?_;have h':=fin;unfold aiP at h';revert h'
 cases akB y z 0 y.length 1 with
 |nil=>intro h';exact h' _ _ _ _|cons i r=>intro h';exact h' _ _ _ _
end
variable[ak.a7]
noncomputable def qr(x:R)(rs:List R):M R:=match x,rs with
 |.v (.str y),[.v (.str z)]=>if(z.length==0)=false/\y.length<=ag5 then pure (.v (.tup ((kF y z).map D.str)))else bad|_,_=>bad
omit [ak.a7]in
theorem YI:rG qr:=fun a0 rs S bq aJ h=>by
 unfold qr at h;split at h
 ·exact⟨_,rfl⟩
 ·cases h
theorem QI{K:a4}{I:br}:rz K I (fun x xs H Q=>∃y z,x=.str y/\xs=[.str z]/\(z.length==0)=false/\y.length<=ag5/\∀p,H p=none->Q (.ref p) (upd H p (.tup ((kF y z).map V.str)))) qr:=fun O σ S az H x xs a0 rs bq aJ Q st av ay h q=>by
 unfold qr at h;split at h
 ·rename_i y z
  by_cases c:(z.length==0)=false/\y.length<=ag5
  ·rw[if_pos c]at h
   cases h;obtain⟨v,rfl,bF⟩:=iK ay;refine⟨y,z,av,by rw[show v=V.str z from bF],c.1,c.2,fun p aP=>?_⟩;exact q O _ _ (Go.fT aP) (st.fT aP) ⟨p,_,rfl,dG.of eb,E0 _⟩ trivial
  ·rw[if_neg c]at h;cases h
 ·cases h
end aN
namespace aN
open PySem PySem.Spec ak PyProof.Rows
section
variable{M:Model}{A:ahX}{E:dc}{s:ag9}
theorem TB{fs:List Addr}{fr:Option Addr}{Q:Unit->ag9->Prop}(bG:jg s.heap e T cls bO)(h:∀h',hz fs [T] s.heap h'->h'.objs.size=s.heap.objs.size->jg h' e T cls (fr.elim .none fun f=>aip f)->Q () { s with heap:=h' }) :
  wpAny M A (aly (.ref e) fr) Q E s:=by
 obtain⟨e8,ar,l5,cc,he,aA,hd,aj,iX,dn,hh,bz⟩:=bG;have uW:3<cc.size:=(aid.mp bz).1;have other:∀b,b≠T->(s.heap.update T (aiO (·.setIfInBounds 3 (fr.elim ahT fun f=>aip f)))).get? b=s.heap.get? b:=
  fun b U=>ais _ _ (aiD U)
 unfold aly;refine ag2 (ahQ he hd aj ?_);rw[if_pos (show(ahy T != ahT)=true from by simp)];refine ai9 dn hh uW (h _ (fun b o U hJ=>?_) (alm ..) ?_)
 ·have hJ:b≠T:=fun z=>hJ (by simp[z])
  exact⟨fun _=>(other b hJ).trans U,o.slots,(other b hJ).trans U⟩
 ·exact⟨e8,ar,_,_,(other e (aiD iX)).trans he,aA,hd,aj,iX,ajw _ dn (ajx (aiL hh _)),aiL hh _,by simp[uW]⟩
theorem X7{base:Heap}{env:Env}{outer:List Env}{L e T:Addr}{cls:Value}{fr:Option Addr}{Q:Unit->ag9->Prop}
  (jM:A.frames=some (env::outer)) (ao:s.heap.FunFrames base (env::outer)) (hf:env.frame=some L) (bG:jg s.heap e T cls (fr.elim .none fun f=>aip f))
  (h:∀h' kS,hz (ez (env::outer)) [T,e] s.heap h'->(kS=T\/s.heap.objs.size<=kS)->jg h' e kS cls (aip L)->Q () { s with heap:=h' }):wpAny M A (ajn (.ref e) env) Q E s:=by
 cases fr with
 |none=>exact yS jM ao hf bG fun h' kS k q t=>h h' kS k (.inr q) t
 |some f=>
  by_cases c:f=L
  ·subst c
   obtain⟨e8,ar,l5,cc,he,aA,hd,aj,iX,dn,hh,bz⟩:=id bG;exact wpAny_noteFrame_inFlight hf he hd aj dn hh bz (h s.heap T (fun b o U _=>⟨fun _=>U,o.slots,U⟩) (.inl rfl) bG)
  ·obtain⟨e8,ar,l5,cc,he,rfl,hd,aj,iX,dn,hh,bz⟩:=bG
   unfold ajn;simp only[hf];refine ag2 (ahQ he hd aj ?_);rw[if_pos (show(ahy T != ahT)=true from by simp)];refine ag2 (ahQ dn hh bz ?_);have ks:¬((((some f).elim ahT fun f=>aip f)==aip L)=true):=fun z=>by
    have z:(aip f==aip L)=true:=z;have z:(Int.ofNat f)=(Int.ofNat L):=by simpa[aip]using z
    exact c (Int.ofNat.inj z)
   rw[if_neg ks];refine ag2 (ai9 dn hh (aid.mp bz).1 ?_);have other:∀b,b≠T->(s.heap.update T (aiO (·.setIfInBounds 3 ahT))).get? b=s.heap.get? b:=fun b U=>ais _ _ (aiD U)
   have Er:∀b o,s.heap.get? b=some o->(∀ar,o.data≠.fields ar)->b≠T:=fun b o U lV q=>by
    rw[q,dn]at U;injection U with U;subst U;exact lV cc hh
   have k0:hz (ez (env::outer)) [T] s.heap (s.heap.update T (aiO (·.setIfInBounds 3 ahT))):=fun b o U hJ=>by
    have hJ:b≠T:=fun z=>hJ (by simp[z])
    exact⟨fun _=>(other b hJ).trans U,o.slots,(other b hJ).trans U⟩
   refine Cq jM (ao.of_keeps fun b o U lV=>⟨o,(other b (Er b o U lV)).trans U,rfl⟩) hf ((other e (aiD iX)).trans he) hd (aid.mp aj).1
    fun h' kS k1 uH t1=>h h' kS (k0.trans k1) (.inr (by rw[alm]at uH;exact uH)) t1
end
section
variable{X:aS}{ae:c8}{σ:ak.St}{H H1:aI}{s s1:ag9}{h2:Heap}
theorem Kc(J:Inv X ae σ H s)(os:s1.os=s.os)(bare:ajt s1.gens)(un:ak.fC (ez X.stack) [] H H1 s.heap s1.heap)(bp:eC X.prog X.w H1 s1.heap)(fE:fY X ae H1 C)(av:∀b∈xs,s.heap.get? b=none/\H1 b=none)(k:hz (ez X.stack) (C::xs) s1.heap h2) :
  Inv X ae σ H1 { s1 with heap:=h2 }:=by
 have b1:=J.oS (s':=s1) (ch:=[]) os un bp bare (fun b z=>absurd z (by simp));have fr:∀b∈ez X.stack,H1 b=none:=fun b U=>b1.zD b U
 have vg:∀{b:Addr}{o:Obj},s.heap.get? b=some o->b∉[C]->b∉C::xs:=fun{b o} e aA z=>by
  rcases aha.mp z with z | z
  ·exact aA (by simp[z])
  ·rw[(av b z).1]at e;cases e
 refine J.oS (s':={ s1 with heap:=h2 }) (ch:=[C]) os ⟨fun b o e n hf aA=>?_,fun b o e n hf aA=>?_,fun b o e n aA=>un.free b o e n (by simp),fun b o e aA=>?_,un.lC,un.kn,un.lA⟩ (fun b u e=>?_) bare (fun b U=>by rw[ahJ.mp U];exact⟨fE.2.2.2.1,fE.2.1,fE.2.2.2.2.1,fE.2.2.2.2.2⟩)
 ·exact(k b o (un.keep b o e n hf (by simp)) (vg e aA)).1 hf
 ·obtain⟨c6,aH⟩:=un.slot b o e n hf (by simp)
  obtain⟨_,nc,aT⟩:=k b _ aH (vg e aA);exact⟨nc,aT⟩
 ·obtain⟨c_,aH⟩:=un.there b o e (by simp)
  obtain⟨_,nc,aT⟩:=k b _ aH (vg e aA);exact⟨_,aT⟩
 ·refine(bp b u e).nd (fun c v aA q=>?_) (fun _ q=>q) fun _ _ q=>q
  have:∃hs,H1 c=some hs:=by
   rcases aA with z | z
   ·rw[z];exact⟨u,e⟩
   ·exact⟨_,z⟩
  obtain⟨hs,bE⟩:=this;refine(k c v q fun z=>?_).1 fun z=>by rw[fr c z]at bE;cases bE
  rcases aha.mp z with z | z
  ·rw[z,fE.1]at bE;cases bE
  ·rw[(av c z).2]at bE;cases bE
theorem fY.X9(J:Inv X ae σ H s)(fE:fY X ae H1 C):C∉ez X.stack:=fun z=>by
 rcases J.ok.pR with e | ⟨e,S'⟩
 ·rw[e]at z;exact fE.2.2.1 z
 ·rw[e]at z
  unfold ez at z;rw[ajJ,S']at z;rcases aha.mp z with z | z
  ·exact fE.2.1 z
  ·exact fE.2.2.1 z
end
structure wD(X:aS)(E:dH):Prop where
 comp:∀(ae:c8)(σ:ak.St)(H:aI)(s:ag9)(e:Value)(s1:ag9)(C:Addr)(m:br)(qa:dc),Inv X ae σ H s->fY X ae H C->s.heap.Ns C m->gz X.prog X.w X.stack H s E e s1->
  wpAny (model X.prog X.w) X.A (ajn e X.env) (fun _ s2=>(∃m,s2.heap.Ns C m)/\∀h',aju C s2.heap h'->∀kj:Env,wpAny (model X.prog X.w) X.A (alY "comprehension.variables-let-go" e kj:Sem Value) (fun _ _=>False) X.c2 { s2 with heap:=h' }) qa s1
section
variable{P:ahq}{w:World}{K:a4}{I:br}{base:Heap}{N:List Str}{qual:Str}{scope:Scope}{f:Addr}{cd:Value}{A:ahX}{outer:List Env}{s0:ag9}{j':aI}{E:dH}
theorem WV:wD (gJ (gz P w) P w K I base N qual scope f cd A outer s0 j' E) E where
 comp:=by
  rintro ae σ H s e s1 C m qa J fE hm ⟨a,cls,H1,rfl,⟨os,bare⟩,un,bp,⟨T,t3,⟨na,hy⟩,h_,cS⟩,k8⟩;have b1:=J.oS (s':=s1) (ch:=[]) os un bp bare (fun b z=>absurd z (by simp));obtain⟨sV,aE,ei,sk,ZY⟩:=hm;have Ei:=fY.X9 J fE;have Ph:H1 C=none:=un.free C sV sk fE.1 (by simp);have I':fY (gJ (gz P w) P w K I base N qual scope f cd A outer s0 j' E) ae H1 C:=⟨Ph,fE.2⟩;have z':s1.heap.get? C=some sV:=un.keep C sV sk fE.1 Ei (by simp);have Aa:C≠a:=fun z=>by rw[z,na]at sk;cases sk
  have hx:C≠T:=fun z=>by rw[z,h_]at sk;cases sk
  refine yS (outer:=outer) b1.ok.frames b1.stack rfl t3 fun aj d0 k1 k_ t1=>⟨⟨m,sV,aE,ei,(k1 C sV z' (by simp[Aa,hx])).1 Ei,ZY⟩,fun h' mU kj=>?_⟩
  have O9:C≠d0:=fun z=>absurd (ahf z') (by rw[z];exact aj1.mpr k_)
  have kN:H1 d0=none:=b1.bp.fresh k_;have kB:s.heap.get? d0=none:=by
   cases q:s.heap.get? d0 with
   |none=>rfl| some o=>obtain⟨c_,bE⟩:=un.there d0 o q (by simp);exact absurd (ahf bE) (aj1.mpr k_)
  have NZ:jg h' a d0 cls (aip (s0.heap.objs.size)):=by
   obtain⟨e8,ar,l5,cc,he,aA,hd,aj,iX,dn,hh,bz⟩:=t1;exact⟨e8,ar,l5,cc,mU.extBut a e8 (aiD Aa) he,aA,hd,aj,iX,mU.extBut d0 l5 (aiD O9) dn,hh,bz⟩
  have Wd:hz (ez (gJ (gz P w) P w K I base N qual scope f cd A outer s0 j' E).stack) [C] aj h':=fun b o e U=>by
   have:=mU.extBut b o (fun z=>U (by simp[z])) e;exact⟨fun _=>this,o.slots,this⟩
  have fresh:∀b∈([T,a]++[d0]++[d0,a]:List Addr),s.heap.get? b=none/\H1 b=none:=fun b U=>by
   simp only[aio,ai0,aha,aiT,or_false]at U;rcases U with rfl | rfl | rfl | rfl | rfl
   ·exact⟨h_,cS⟩
   ·exact⟨na,hy⟩
   ·exact⟨kB,kN⟩
   ·exact⟨kB,kN⟩
   ·exact⟨na,hy⟩
  obtain⟨e8,ar,l5,cc,he,aA,hd,CV,iX,dn,hh,bz⟩:=id NZ;unfold alY;refine ag2 (ahQ he hd CV ?_);rw[if_neg (show ¬((ahy d0==ahT)=true)from by simp)];have go:∀h2,hz (ez (gJ (gz P w) P w K I base N qual scope f cd A outer s0 j' E).stack) [d0] h' h2->h2.objs.size=h'.objs.size->jg h2 a d0 cls (kj.frame.elim .none fun f=>aip f)->(gJ (gz P w) P w K I base N qual scope f cd A outer s0 j' E).c2 (.ref a) { s1 with heap:=h2 }:=fun h2 k2 e' en=>by
   have sx:=(k1.trans Wd).trans k2;have ka:=Kc J os bare un bp I' (xs:=[T,a]++[d0]) (fun b U=>fresh b (aiE _ U)) (h2:=h2) (sx.mono (fun b U=>U) fun b U=>by
    simp only[ahI,aha,aiT,or_false]at U ⊢;rcases U with(((h | h) | h) | h)
    ·exact .inr (.inl (.inl h))
    ·exact .inr (.inl (.inr h))
    ·exact .inl h
    ·exact .inr (.inr h))
   show wpAny (model P w) _ (ak8 _ (.ref a)) _ _ _;unfold ak8;refine ag2 (X7 (outer:=outer) ka.ok.frames ka.stack rfl en fun bz gH k3 qw abi=>?_);refine uw (fs:=ez (gJ (gz P w) P w K I base N qual scope f cd A outer s0 j' E).stack) abi fun c0 nZ rj=>?_
   have Au:s.heap.get? gH=none/\H1 gH=none:=by
    rcases qw with rfl | qw
    ·exact⟨kB,kN⟩
    ·refine⟨?_,ka.bp.fresh qw⟩
     cases q:s.heap.get? gH with
     |none=>rfl|some o=>
      exfalso;obtain⟨c_,bE⟩:=un.there gH o q (by simp)
      by_cases z:gH=C
      ·subst z
       have bP:=ahf ((k1 gH sV z' (by simp[Aa,hx])).1 Ei);have cE:h'.objs.size=aj.objs.size:=mU.1;have qw:h2.objs.size<=gH:=qw;exact absurd bP (aj1.mpr (by show aj.objs.size<=gH;rw[<-cE,<-e'];exact qw))
      ·obtain⟨_,c6,aT⟩:=sx gH _ bE (fun y=>by
        simp only[ahI,aha,aiT,or_false]at y;rcases y with(((h | h) | h) | h)
        ·rw[h]at q;rw[h_]at q;cases q
        ·rw[h]at q;rw[na]at q;cases q
        ·exact z h
        ·rw[h]at q;rw[kB]at q;cases q)
       exact absurd (ahf aT) (aj1.mpr qw)
   have p5:=Kc J os bare un bp I' (xs:=[T,a]++[d0]++[d0,a]++[gH]) (fun b U=>by
    rcases ahI.mp U with U | U
    ·exact fresh b U
    ·rw[ahJ.mp U];exact Au) (h2:=c0) (((sx.trans k3).trans nZ).mono (fun b U=>U) fun b U=>by
    simp only[ahI,aha,aiT,or_false]at U ⊢;rcases U with(((((h | h) | h) | h) | (h | h)) | h)
    ·exact .inr (.inl (.inl (.inl (.inl h))))
    ·exact .inr (.inl (.inl (.inl (.inr h))))
    ·exact .inl h
    ·exact .inr (.inl (.inl (.inr h)))
    ·exact .inr (.inl (.inr (.inl h)))
    ·exact .inr (.inl (.inr (.inr h)))
    ·exact .inr (.inr h))
   have m5:∀b,s.heap.get? b=none->s0.heap.get? b=none:=fun b U=>by
    cases q:s0.heap.get? b with
    |none=>rfl| some o=>obtain⟨c_,bE⟩:=J.base.there b o q (by intro z;exact absurd (show b∈([]:List Addr)from z) (by simp));rw[U]at bE;cases bE
   exact⟨a,cls,H1,rfl,⟨p5.os,p5.bare⟩,p5.base,p5.bp,⟨gH,rj,⟨m5 a na,hy⟩,m5 gH Au.1,Au.2⟩,k8⟩
  exact ag2 (TB (fs:=ez (gJ (gz P w) P w K I base N qual scope f cd A outer s0 j' E).stack) NZ fun h2 k2 e' en=>wpAny_throw (go h2 k2 e' en))
end
end aN
namespace ak
open PySem PySem.Spec PyProof.Rows
noncomputable def r4(X:aS)(EK:dH)(scope:Scope)(N:List Str)(C:Addr)(aW:List Addr)(s:ag9)(H:aI):aS:=
 { cz X scope N C aW s H with c2:=fun e s'=>∃ae σ aa s1,Inv (cz X scope N C aW s H) ae σ aa s1/\aN.gz X.prog X.w X.stack aa s1 EK e s' }
section
variable{X:aS}{EK:dH}{scope:Scope}{N:List Str}{C:Addr}{aW:List Addr}{s:ag9}{H:aI}{ae:c8}{σ:St}{aa:aI}{s':ag9}
theorem VO(J:Inv (cz X scope N C aW s H) ae σ aa s'):Inv (r4 X EK scope N C aW s H) ae σ aa s':=by
 have o:=J.ok;exact⟨⟨o.mod,o.kind,o.glob,o.blt,o.above,o.inj,o.has,o.oR,o.hd,o.frames,o.pR,o.nM,o.bs,o.kU,o.pH,o.nN,o.jJ,o.nS⟩,J.os,J.bare,J.base,J.loc,J.cell,J.free,J.iA,J.pin,J.bp,J.len⟩
theorem Ke(J:Inv (r4 X EK scope N C aW s H) ae σ aa s'):Inv (cz X scope N C aW s H) ae σ aa s':=by
 have o:=J.ok;exact⟨⟨o.mod,o.kind,o.glob,o.blt,o.above,o.inj,o.has,o.oR,o.hd,o.frames,o.pR,o.nM,o.bs,o.kU,o.pH,o.nN,o.jJ,o.nS⟩,J.os,J.bare,J.base,J.loc,J.cell,J.free,J.iA,J.pin,J.bp,J.len⟩
theorem YV:Passes (aN.gz X.prog X.w) (r4 X EK scope N C aW s H) EK:=fun ae σ H s e s' J c=>⟨ae,σ,H,s,Ke J,c⟩
end
section
variable{prog:ahq}{w:World}{A:ahX}{R:Result->ag9->Prop}{s:ag9}
theorem RY{elt target iter:Expr}{ifs:List Expr}{scope:Scope}{pos:Pos}{it acc:Value}{env:Env}(J:Nat->ag9->Prop)
  (turn:∀n s,J n s->wpAny (model prog w) A (pyNext it) (fun r df=>match r with
   |none=>R (.ok .next) df| some v=>wpAny (model prog w) A (ajO target it v) (fun _ vO=>wpAny (model prog w) A (aj5 target env v) (fun _ i6=>
     wpAny (model prog w) A (forIn ifs true fun c r=>if r=true then do let ok <-isTrue c env (eval c env);pure (ajm ok)else pure (ajm r)) (fun ok gc=>
      if ok=true then wpAny (model prog w) A (eval elt env) (fun x oj=>
       wpAny (model prog w) A (call (.builtin "list.append") [acc,x]) (fun _ vP=>∃m,m<n/\J m vP) (fun _ _=>False) oj) (notedBy (model prog w) A env fun x s'=>R (.error x) s') gc
      else ∃m,m<n/\J m gc) (fun _ _=>False) i6) (fun _ _=>False) vO) (fun _ _=>False) df) (fun _ _=>False) s)
  (n:Nat) (h:J n s) :
  ajg (model prog w) A (.compLoop (.ListComp elt [⟨target,iter,ifs,0⟩] scope pos) 0 it acc env) R s:=by
 refine codeAny_loop rfl J (fun n s mQ=>?_) n h;show wpAny _ A ((compTurn (.ListComp elt [⟨target,iter,ifs,0⟩] scope pos) 0 it acc env).onRaise (fun x=>do ajn x env;theTreesLotGoes x)) _ _ s;refine wpAny_noted ?_;rw[compTurn_list];refine ag2 (wpAny_standAt (ag2 (ahZ (turn n s mQ) (fun r df eA=>?_) fun _ _ h'=>h'.elim)))
 cases r with
 |none=>exact ahh eA|some v=>
  refine ag2 (ahZ eA (fun _ vO DD=>?_) fun _ _ h'=>h'.elim);refine ag2 (ahZ DD (fun _ i6 kv=>ag2 (ahZ kv (fun ok gc lg=>?_) fun _ _ h'=>h'.elim)) fun _ _ h'=>h'.elim)
  cases ok with
  |false=>exact ahh ⟨rfl,lg⟩|true=>
   exact ag2 (ag2 (ahZ lg (fun x oj qJ=>ag2 (ahZ qJ (fun _ vP hi=>ahh (ahh ⟨rfl,hi⟩)) fun _ _ h'=>h'.elim)) fun _ _ h'=>h'))
end
section
variable{X:aS}{scope esc:Scope}{EN N:List Str}{n:Nat}{cap:List Nat}{ae:c8}{σ:St}{s:ag9}{elt cV iter:Expr}{ifs:List Expr}{pos:Pos}{g:kc}{tt:TT}{te:TE}
theorem R3{EK:dH}{E:dc}{H:aI}{b1:iP}{aW:List Addr}{it:Addr}{fx:Nat->Heap->Prop}{Q:cY}{nC:Value->Addr->Result->ag9->Prop}(S:mr esc scope EN N n cap)(he:X.env.scope=esc)(bY:X.N=EN)(aA:X.calm=true)
  (a':∀C aW s H,oG (cz X scope N C aW s H) cV g) (bG:∀C aW s H,p9 (cz X scope N C aW s H) ifs tt) (iC:∀C aW s H,b3 (r4 X EK scope N C aW s H) elt te) (Ak:aN.wD X EK)
  (J:Inv X ae σ H s) (T:Turn X.prog X.w X.K cV b1 aW it fx) (st:fx 0 s.heap) (hf:∀b∈aW,fY X ae H b) (bf:∀D,H D=none->Bu b1 (eG n cap σ) g tt te D H Q)
  (C3:∀D C aa s' m,Inv X ae σ aa s'->fY X ae aa C->s'.heap.Ns C m->Q (.ref D) aa->nC (.ref D) C (.ok .next) s')
  (T_:∀D C e s',((∃m,s'.heap.Ns C m)/\∀h',aju C s'.heap h'->∀kj:Env,wpAny (model X.prog X.w) X.A (alY "comprehension.variables-let-go" e kj:Sem Value) (fun _ _=>False) X.c2 { s' with heap:=h' })->nC (.ref D) C (.error e) s') :
  wpAny (model X.prog X.w) X.A (newList []) (fun acc gc=>wpAny (model X.prog X.w) X.A (newFunctionEnv scope X.env.globals (kX scope X.env) [] X.env.qual none .none (some X.env)) (fun kj oj=>
   ajg (model X.prog X.w) X.A (.compStart (.ListComp elt [⟨cV,iter,ifs,0⟩] scope pos) 0 (.ref it) acc { kj with scope:=relabel scope X.env }) (nC acc kj.locals) oj) E gc) E s:=by
 refine aiu (wpAny_newFunctionEnv S.cell (by intro y bo;simp at bo) (fun eA qD qI=>?_) S.kind);have ec:=J.yA (t':=s.toks) (ys:=[]) (its:=[]) .nil (ahC _);have e0:H s.heap.objs.size=none:=J.fresh;obtain⟨W,⟨m0,rm⟩,turn⟩:=bf _ e0;generalize qH:({ s with heap:=s.heap.push { cls:=.type "list",data:=.seq ([]:List Value).toArray },toks:=s.toks }:ag9)=s3 at ec;have k3:∀b o,s.heap.get? b=some o->s3.heap.get? b=some o:=fun b o e=>by rw[<-qH];exact ag8 _ e
 have Vk:({ s with heap:=s.heap.push { cls:=.type "list",data:=.seq ([]:List Value).toArray } }:ag9)=s3:=qH;have gn:s.heap.push { cls:=.type "list",data:=.seq ([]:List Value).toArray }=s3.heap:=by rw[<-qH]
 dsimp only at qD qI ⊢
 try rw[gn]at qD
 try rw[gn]at qI
 have o5:∀b∈aW,fY X ae (upd H s.heap.objs.size (.lst [])) b:=fun b U=>by
  refine⟨?_,(hf b U).2⟩;obtain⟨o,e,_⟩:=T.obj _ _ st b U;rw[cP (ahE (ahf e))];exact(hf b U).1
 have nZ:∀b o,s3.heap.get? b=some o->eA.get? b=some o:=fun b o e=>qI.extBut b o (ahE (ahf e)) (ag8 _ e)
 have cL:∀b∈aW,∃o,s3.heap.get? b=some o:=fun b U=>by
  obtain⟨o,e,_⟩:=T.obj _ _ st b U;exact⟨o,k3 b o e⟩
 have jc:=Kb (tk:=s3.toks) S he bY ec o5 cL qD nZ;have oh:fx 0 eA:=T.keep _ _ _ st fun b _ o e=>nZ b o (k3 b o e)
 have x4:s3.heap.objs.size<=s3.heap.objs.size:=ahg _;have loop:∀gc:ag9,gc.heap=eA->Inv (cz X scope N s3.heap.objs.size aW s3 (upd H s.heap.objs.size (.lst []))) [] (eG n cap σ) (upd H s.heap.objs.size (.lst [])) gc->
   ajg (model X.prog X.w) X.A (.compLoop (.ListComp elt [⟨cV,iter,ifs,0⟩] scope pos) 0 (.ref it) (.ref s.heap.objs.size) (compEnvC scope (kX scope X.env) s3.heap.objs.size X.env)) (nC (.ref s.heap.objs.size) s3.heap.objs.size) gc:=by
  intro gc Cy nx;have l_:∀{aa:aI},(∀b∈aW,aa b=none)->∀b∈aW,fY (cz X scope N s3.heap.objs.size aW s3 (upd H s.heap.objs.size (.lst []))) [] aa b:=fun{aa} aR b U=>
   ⟨aR b U,(nx.ok.nM b U).1,nx.ok.nN b U,.inl U,(nx.ok.nM b U).2,fun p aP=>absurd (show p∈([]:c8)from aP) (by simp)⟩
  refine RY (fun k s'=>∃i ys aa,Inv (cz X scope N s3.heap.objs.size aW s3 (upd H s.heap.objs.size (.lst []))) [] (eG n cap σ) aa s'/\fx i s'.heap/\(∀b∈aW,aa b=none)/\W i k ys aa) ?_ m0
   ⟨0,[],_,nx,by rw[Cy];exact oh,fun b U=>(o5 b U).1,rm⟩
  rintro k s5 ⟨i,ys,jA,nu,oi,qs,zU⟩;rcases turn i k ys jA zU with⟨stop,q⟩ | ⟨go,step⟩
  ·refine b0 (T.done (cz X scope N s3.heap.objs.size aW s3 (upd H s.heap.objs.size (.lst []))) rfl rfl rfl aA i [] s5 _ jA _ nu (l_ qs) oi stop) fun r fu ⟨ay,nv⟩=>?_
   subst ay;obtain⟨m,aR,_⟩:=nv.loc;exact C3 _ _ jA fu m (DI ec o5 nv) (ec.o2 x4 nv.free) aR q
  ·refine b0 (T.item (cz X scope N s3.heap.objs.size aW s3 (upd H s.heap.objs.size (.lst []))) rfl rfl rfl aA i [] s5 _ jA (fun _ _=>False) nu (l_ qs) oi go) fun r fu ⟨u,ay,eO⟩=>?_
   subst ay;refine b0 eO fun _ fv ⟨x,ir,jd,vA,Gw,rh,CG⟩=>?_
   have Ad:=jd.pinned (l_ CG) (T.obj _ _ rh);refine b0 (a' _ _ _ _ _ fv _ ir x u _ Ad vA (step x ir Gw)) fun _ jw ⟨ow,Ab,oC,nQ,l8⟩=>?_
   refine b0 (bG _ _ _ _ _ jw ow Ab _ oC l8) fun b m' ⟨tK,p4,vw⟩=>?_
   have back:∀{aa:aI}{s':ag9},Inv (cz X scope N s3.heap.objs.size aW s3 (upd H s.heap.objs.size (.lst []))) ([]++tf aW fv.heap) ow aa s'->
     Inv (cz X scope N s3.heap.objs.size aW s3 (upd H s.heap.objs.size (.lst []))) [] (eG n cap σ) aa s'/\fx (i+1) s'.heap/\∀b∈aW,aa b=none:=fun{aa s'} gS=>by
    refine⟨gS.v5.weak nQ.1 nQ.2,T.keep _ _ _ rh fun b U o e=>(gS.pin (b,o) (ahp _ (ahp _ (sR U e)))).1,fun b U=>?_⟩;obtain⟨o,e,d⟩:=T.obj _ _ rh b U;exact(gS.pin (b,o) (ahp _ (ahp _ (sR U e)))).2.1
   cases b with
   |false=>
    obtain⟨ft,hm,dz⟩:=vw;obtain⟨cx,cG,ix⟩:=back p4;exact⟨ft,hm,i+1,ys,tK,cx,cG,ix,dz⟩
   |true=>
    refine ahZ (iC _ _ _ _ _ m' ow tK _ (VO (EK:=EK) p4) vw) (fun v hU ⟨y,tJ,tL,ER,CZ,aX,ft,hm,dz⟩=>?_) fun e hU ⟨Zj,ag1,adv,agV,Ae,Bq⟩=>?_
    rotate_left
    ·have Pl:=DI ec o5 Ae
     obtain⟨agK,XX,_⟩:=Ae.loc;exact b0 (Ak.comp _ _ _ _ _ _ _ _ _ Pl (ec.o2 x4 Ae.free) XX Bq) fun _ Nq ZO=>T_ _ _ _ _ ZO
    have tL:=Ke tL;refine b0 (pC _ hU ow tJ (.ref s.heap.objs.size) [y] (.ref s.heap.objs.size) [v] (fun z aa=>z=.ba/\aa=upd tJ s.heap.objs.size (.lst (ys++[y]))) tL rfl (.cons ER .nil) ⟨_,ys,y,rfl,rfl,CZ,aX,rfl,rfl⟩) fun z Nq ⟨acX,Pf,Ac,_,_,Ck⟩=>?_
    subst Ck;obtain⟨cx,cG,ix⟩:=back Ac;exact⟨ft,hm,i+1,ys++[y],_,cx,cG,ix,dz⟩
 have tM:Inv (cz X scope N s3.heap.objs.size aW s3 (upd H s.heap.objs.size (.lst []))) [] (eG n cap σ) (upd H s.heap.objs.size (.lst [])) { heap:=eA,gens:=s3.gens,drawn:=s3.drawn,toks:=s3.toks+([]:List (Str×Value)).length,os:=s3.os }:=jc;exact codeAny_compStart_list (loop _ rfl tM) (T.self _ 0 _ _ _ oh (loop _ rfl tM))
theorem Y1{EK:dH}(S:mr esc scope EN N n cap){wi:TI}(aC:kP X cV iter wi)(a':∀C aW s H,oG (cz X scope N C aW s H) cV g)(bG:∀C aW s H,p9 (cz X scope N C aW s H) ifs tt)(iC:∀C aW s H,b3 (r4 X EK scope N C aW s H) elt te)(Ak:aN.wD X EK)
  (he:X.env.scope=esc:=by rfl) (bY:X.N=EN:=by rfl) (aA:X.calm=true:=by rfl) (aQ:∀x,ail iter X.env x=pure x:=by intro _;rfl):b3 X (.ListComp elt [⟨cV,iter,ifs,0⟩] scope pos) (vQ n cap wi g tt te):=by
 intro ae s σ H Q J h;rw[eval_ListComp];have Dk:closureFor scope X.env=pure (kX scope X.env):=Iq fun y bo aL=>J.ok.has y.1 (by
  show X.env.scope.names.lookup y.1=_\/X.env.scope.names.lookup y.1=_;rw[he];exact S.free y bo aL)
 refine wpAny_comprehension_free (use:=none) rfl aQ Dk S.kind S.loc (b0 (aC ae s σ H _ J h) fun v s1 aj=>b0 aj fun yp s2 h2=>?_);obtain⟨it,aW,fx,b1,aZ,e,cZ,T,cW,f2,bf⟩:=h2;subst e;refine R3 S he bY aA a' bG iC Ak cZ T cW f2 bf (fun D C aa s' m gS fE aR q=>?_) (fun D C e s' h=>?_)
 rotate_left
 ·obtain⟨⟨m,hm⟩,h⟩:=h
  exact⟨m,hm,fun h' aQ kj _=>h h' aQ kj⟩
 exact⟨m,aR,fun h' mU=>⟨.ref D,aa,gS.turned (t':=s'.toks) (fun b o U e=>mU.extBut b o U e) fE.1 fE.2.1 fE.2.2.2.1 fE.2.2.2.2.1 fE.2.2.2.2.2,rfl,q⟩⟩
end
end ak
namespace aN
open PySem PySem.Spec ak PyProof.Rows
variable[ak.a7]
inductive Ar where
 |ok (r:R) | ex (c:Str)
noncomputable abbrev fb:=a9->M Ar
def rH(K:a4)(I:br)(E:dH)(O:b9)(aJ:e7)(H:aI)(c:Str):Prop:=∀C aD aa,I c=some (.ref C)->Go O aD H aa->dP aD aa->aJ=[]->E (.ref C) none aa
def Pw(K:a4)(I:br)(E:dH)(O:b9)(σ:a9)(aJ:e7)(az:ak.St)(H:aI)(q:Ar)(Q:cY):Prop:=match q with
 |.ok r=>p_ K I O σ aJ az H r Q|.ex c=>rH K I E O aJ H c
noncomputable def zJ(K:a4)(I:br)(E:dH)(m:fb):TE:=fun az H Q=>∃O σ S q aJ,cj K I O σ S az H/\(m σ).run S=.ok q aJ/\Pw K I E O σ aJ az H q Q
structure mw(X:aS)(E:dH)(e:Expr)(m:fb):Prop where
 un:b3 X e (zJ X.K X.I E m)
theorem rH.go{K:a4}{I:br}{E:dH}{O aY:b9}{aJ:e7}{H H1:aI}{c:Str}(h:rH K I E O aJ H c)(g:Go O aY H H1):rH K I E aY aJ H1 c:=fun C aD aa d8 g' d e=>h C aD aa d8 (g.trans g') d e
noncomputable def qo(bg:dE)(ms:cQ):fb:=fun σ=>do
 let rs <-ms σ
 let r <-bg (rs.map R.arg)
 match r with
 |.ret d=>pure (.ok (.v d))|.exc c=>pure (.ex c)
noncomputable def r9(f:R->R->M R)(a:bj)(m:fb):fb:=fun σ=>do
 let x <-a σ
 let q <-m σ
 match q with
 |.ok y=>do
  let z <-f x y
  pure (.ok z)
 |.ex c=>pure (.ex c)
noncomputable def qn(f:R->M R)(m:fb):fb:=fun σ=>do
 let q <-m σ
 match q with
 |.ok y=>do
  let z <-f y
  pure (.ok z)
 |.ex c=>pure (.ex c)
inductive iv where
 |ok (xs:List D) | ex (c:Str)
noncomputable def iv.app(acc:List D):iv->iv
 |.ok xs=>.ok (acc++xs)|.ex c=>.ex c
noncomputable def kz(el:fb)(σ:a9):List (D×D)->M iv
 |[]=>pure (.ok [])|d::ds=>do
  let q <-el ((σ.set 0 (.val d.1)).set 1 (.val d.2))
  match q with
  |.ok r=>do
   let x <-r.dat
   let cM <-kz el σ ds
   pure (cM.app [x])
  |.ex c=>pure (.ex c)
noncomputable def r'(cap:List Nat)(ms:cQ)(el:fb):fb:=fun σ=>do
 let rs <-ms σ
 match ov rs with
 |some ds=>do
  eS (ds.length<ag5)
  let q <-kz el (f9 2 cap σ) ds
  match q with
  |.ok xs=>pure (.ok (.fr xs))|.ex c=>pure (.ex c)
 |none=>bad
noncomputable def p0(m:fb):dF:=fun σ=>do
 let q <-m σ
 match q with
 |.ok r=>do
  let d <-r.dat
  pure (.cA d)
 |.ex c=>pure (.ex c)
section
variable{X:aS}{E:dH}{f x:Str}{ps:List Str}{k:Nat}{bg:dE}{p pos cR:Pos}{e a b:Expr}{aE:List Expr}{ms:cQ}{m:fb}{cO:bj}
theorem OF(h:eN X.prog X.w X.K X.I X.base f ps k (e4 X.K X.I bg))(ay:eh k X.A)(a':dC X f)(L:Passes (gz X.prog X.w) X E)(ax:f6 X (e::aE) ms)(da:(f==("__debug__":Str))=false:=by decide)
  (he:ag6 (e::aE) X.env=(false,eval e X.env)::ag6 aE X.env:=by rfl) (du:(ahN pos (ag6 aE X.env)).any (·.1)=false:=by rfl):mw X E (.Call (.Name f p) (e::aE) [] pos) (qo bg ms):=
 ⟨et (vt h ay a' L ax.un da he du) fun az H Q ⟨O,σ,S,jV,aJ,st,h,q⟩=>by
  obtain⟨rs,a6,aj,h⟩:=M.inv h;obtain⟨r,bS,h2,h⟩:=M.inv h;refine⟨O,σ,S,rs,a6,st,aj,fun aY ar H1 g1 a3 bD nn=>?_⟩;have cm:=a3.emp;subst cm;refine⟨aY,_,r,_,a3.dh,lP bD,h2,?_⟩
  cases r with
  | ret d=>cases h;exact fun aD v aa g' d' cm bZ=>q aD v aa (g1.trans g') (by subst cm;exact a3.go g' d') bZ trivial
  | exc c=>cases h;exact fun C aD aa d8 g' d' cm=>q C aD aa d8 (g1.trans g') d' cm⟩
theorem aco{op:Operator}{r:gE}{f:R->R->M R}(aM:dv X (aiw op) r)(hf:dB X.K X.I r f)(ax:cq X a cO)(U:mw X E b m):mw X E (.BinOp a op b pos) (r9 f cO m):=
 ⟨et (EI aM ax.un U.un) fun az H Q ⟨O,σ,S,jV,aJ,st,h,q⟩=>by
  obtain⟨x,a6,aj,h⟩:=M.inv h;obtain⟨bh,bS,h2,h⟩:=M.inv h;refine⟨O,σ,S,x,a6,st,aj,fun aY fy H1 g1 a3 a0 a8=>⟨aY,σ,a6,bh,bS,a3,h2,?_⟩⟩
  cases bh with
  |ex c=>cases h;exact rH.go (K:=X.K) q g1
  |ok y=>
   obtain⟨z,hB,bz,h⟩:=M.inv h;cases h;exact fun bt tu aZ g2 cW bx sU=>hf bt σ bS az aZ fy tu x y z aJ Q cW (a0.go g2) bx bz fun aD v aa g b2 bD nn=>q aD v aa ((g1.trans g2).trans g) b2 bD (nn.back (g1.trans g2).same)⟩
theorem acn(ax:mw X E a m):mw X E (.UnaryOp .USub a pos) (qn i1 m):=
 ⟨et (Mv Of ax.un) fun az H Q ⟨O,σ,S,jV,aJ,st,h,q⟩=>by
  obtain⟨bh,a6,aj,h⟩:=M.inv h;refine⟨O,σ,S,bh,a6,st,aj,?_⟩
  cases bh with
  |ex c=>cases h;exact q
  |ok y=>
   obtain⟨z,hB,bz,h⟩:=M.inv h;cases h;unfold i1 at bz;split at bz
   ·rename_i i
    cases bz;exact fun aY fy H1 g1 a3 a0 a8=>⟨i,a0,q aY _ H1 g1 a3 rfl trivial⟩
   ·cases bz⟩
noncomputable def r_(f:List R->M R)(m:fb):fb:=qn (fun x=>f [x]) m
theorem ack{T:String}{r:List V->aI->cY->Prop}{f:List R->M R}(aA:g7 X (.type T) r)(hf:ip X.K X.I r f)(a':dC X x)(hm:X.I x=none)(bF:ahK x=some (.type T))(ax:mw X E e m)(aR:x≠"__name__":=by decide)(da:(x==("__debug__":Str))=false:=by decide)
  (he:ag6 [e] X.env=(false,eval e X.env)::ag6 [] X.env:=by rfl) (du:(ahN pos (ag6 [] X.env)).any (·.1)=false:=by rfl):mw X E (.Call (.Name x p) [e] [] pos) (r_ f m):=
 ⟨et (Mp aA a' hm bF (m8 ax.un q7 he) aR da he du) fun az H Q ⟨O,σ,S,jV,aJ,st,h,q⟩=>by
  obtain⟨bh,a6,aj,h⟩:=M.inv h;refine⟨O,σ,S,bh,a6,st,aj,?_⟩
  cases bh with
  |ex c=>cases h;exact q
  |ok y=>
   obtain⟨z,hB,bz,h⟩:=M.inv h;cases h;exact fun aY fy H1 g1 a3 a0 a8=>hf aY σ a6 az H1 [fy] [y] z aJ Q a3 ⟨fy,[],rfl,a0,rfl⟩ bz fun aD v aa g b2 bD nn=>q aD v aa (g1.trans g) b2 bD (nn.back g1.same)⟩
theorem OW(ax:mw X E e m):mx X E (.Return (some e) cR) (p0 m):=
 ⟨g4 (y7 ax.un) fun D az H ⟨O,σ,S,bO,aJ,st,h,q⟩=>by
  obtain⟨bh,a6,aj,h⟩:=M.inv h;refine⟨O,σ,S,bh,a6,st,aj,?_⟩
  cases bh with
  |ex c=>cases h;exact fun C aD aa d8 g' d' cm=>q C aD aa d8 g'.dj d' cm
  |ok r=>
   obtain⟨d,bS,h2,h⟩:=M.inv h;cases h;intro aY v H1 g1 a3 bD nn;obtain⟨e3,rfl⟩:=nK (H₀:=H) bD nn h2;have kG:=a3.cH H;exact q (cH H aY) v H1 g1.cH.dj kG.dh kG.emp e3⟩
end
inductive Pb(K:a4)(I:br)(n:Nat)(cap:List Nat)(loop:Nat->M iv)(aY:b9)(σ:a9)(aJ:e7)(az:ak.St)(H1:aI)(A:Addr)(jV:iv)(k:Nat)(zs:List V)(aa:aI):Prop
 |mk (aD:b9) (ee:e7) (acc:List aN.D) (gu:iv) (b2:cj K I aD (f9 n cap σ) ee (eG n cap az) aa) (s':dw H1 aa) (hQ:∀b,H1 b≠none->aD b=dK aY b) (kH:aD A=.eK) (dT:aa A=some (.lst zs)) (aX:zs.length<=k)
   (hT:bu K I aD aa acc zs) (h:(loop k).run ee=.ok gu aJ) (ex:gu.app acc=jV)
noncomputable def vm(H1:aI)(bt gh:b9):b9:=fun b=>match H1 b with
 |none=>bt b|some _=>gh b
def Pu(K:a4)(I:br)(E:dH)(O:b9)(σ:a9)(aJ:e7)(az:ak.St)(H:aI)(q:iv)(Q:cY):Prop:=match q with
 |.ok xs=>p_ K I O σ aJ az H (.fr xs) Q|.ex c=>rH K I E O aJ H c
omit [ak.a7]in
theorem iv.PK:∀{q:iv},(q.app b).app a=q.app (a++b)
 | .ok xs=>by simp[iv.app]|.ex _=>rfl
theorem RZ{K:a4}{I:br}{E:dH}{cap:List Nat}{ms:cQ}{el:fb}:∀az H Q,zJ K I E (r' cap ms el) az H Q->vQ 2 cap (uX K (ng K I ms)) (uy K 2 (o4 [0,1])) (mc K I fF) (zJ K I E el) az H Q:=by
 rintro az H Q ⟨O,σ,S,r,aJ,st,h,q⟩;obtain⟨rs,a6,aj,h⟩:=M.inv h
 cases qp:ov rs with
 |none=>rw[qp]at h;cases h
 |some ds=>
  rw[qp]at h;obtain⟨_,bS,h2,h⟩:=M.inv h;obtain⟨hlen,rfl⟩:=mD h2;obtain⟨jV,hB,bz,h⟩:=M.inv h;have y_:Pu K I E O σ aJ az H jV Q/\aJ=hB:=by
   cases jV with
   |ok xs=>cases h;exact⟨q,rfl⟩
   |ex c=>cases h;exact⟨q,rfl⟩
  clear q h;obtain⟨q,rfl⟩:=y_;obtain⟨x,y,i',il,rfl,ex,d_,rfl⟩:=O2 qp;refine⟨O,σ,S,_,a6,st,aj,fun aY ar H1 g1 a3 bD nn=>?_⟩;obtain⟨v1,bK,rfl,a0,v2,cn,rfl,bx,re⟩:=bD;cases re;obtain⟨cx,bP,us,rfl,s1,a1⟩:=zV (H₀:=H) a0 nn.1 ex;obtain⟨cG,cE,ws,rfl,s2,a2⟩:=zV (H₀:=H) bx nn.2.1 d_;have kG:=a3.cH H;have sg:Go O (cH H aY) H H1:=g1.cH;generalize T9:cH H aY=gh at kG sg s1 s2 a1 a2;refine⟨cx,cG,bP,cE,rfl,⟨us,s1.e5⟩,⟨ws,s2.e5⟩,fun D e0=>?_⟩;have vM:cj K I (g5 (dK gh) D .eK) (f9 2 cap σ) a6 (eG 2 cap az) (upd H1 D (.lst [])):=(kG.dK 2 cap).new e0;refine⟨fun k m zs aa=>m=(i'.zip il).length-k/\k<=(i'.zip il).length/\Pb K I 2 cap (fun k=>kz el (f9 2 cap σ) ((i'.zip il).drop k)) gh σ aJ az H1 D jV k zs aa,
   ⟨_,rfl,ahC _,_,a6,[],jV,vM,i4 e0 _,fun b U=>mg (by rintro rfl;exact U e0),om,eb,ahg _,rfl,bz,by cases jV<;>rfl⟩,?_⟩
  rintro k m zs aa ⟨rfl,aL,aD,ee,acc,gu,b2,s',hQ,kH,dT,aX,hT,h,km⟩;have bh:=hC.same s' s1.e5;have cM:=hC.same s' s2.e5;have ET:bu K I aD aa i' us:=(a1.cK (ji gh)).go ⟨s',hQ⟩;have EU:bu K I aD aa il ws:=(a2.cK (ji gh)).go ⟨s',hQ⟩;have back:∀(bt:b9)(aZ:aI),dw H1 aZ->(∀b,H1 b≠none->bt b=dK gh b)->dP bt aZ->∃gD:b9,(∀b,H1 b=none->gD b=bt b)/\iO bt gD/\Go gh gD H1 aZ/\dP gD aZ:=fun bt aZ s2 YK IQ=>by
   have pJ:∀b,H1 b≠none->vm H1 bt gh b=gh b:=fun b U=>by
    unfold vm
    cases e:H1 b with
    |none=>exact absurd e U|some _=>rfl
   have jU:∀b,H1 b=none->vm H1 bt gh b=bt b:=fun b U=>by
    unfold vm;rw[U]
   refine⟨vm H1 bt gh,jU,⟨fun b U=>?_⟩,⟨s2,pJ⟩,⟨fun b U=>?_,IQ.tabs⟩⟩
   ·by_cases hg:H1 b=none
    ·rw[jU b hg];exact U
    ·rw[pJ b hg];exact jj.mp ((YK b hg).symm.trans U)
   ·by_cases hg:H1 b=none
    ·rw[jU b hg]at U;exact IQ.has b U
    ·exact s2.some hg
  cases e:(i'.zip il).drop k with
  |nil=>
   rw[e]at h;cases h;subst km;refine .inl ⟨⟨us,ws,bh,cM,?_⟩,?_⟩
   ·have:=congrArg ai5 e
    rw[ahz,akn,aiy]at this;rw[a1.len,a2.len];omega
   obtain⟨gD,jU,cK,go,dh⟩:=back aD aa s' hQ b2.dh;have cm:a6=aJ:=a3.emp.trans b2.emp.symm;subst cm;have q:p_ K I O σ a6 az H (.fr (acc++[])) Q:=q;rw[ahl]at q;refine q gD (.ref D) aa (sg.trans go) (kG.go go dh) ⟨D,zs,rfl,dT,(jU D e0).trans kH,hT.cK cK⟩ fun a f_=>?_
   cases f_;exact g1.same.free e0
  |cons d mG=>
   obtain⟨aH,aT,bE⟩:=O1 e;obtain⟨u,qm,iL⟩:=ET.get aH;obtain⟨v,ev,bZ⟩:=EU.get aT;have er:k<(i'.zip il).length:=by
    have:=congrArg ai5 e;rw[ahz,ahj]at this;omega
   rw[e]at h;refine .inr ⟨⟨⟨us,u,bh,qm⟩,⟨ws,v,cM,ev⟩⟩,fun x aZ ry=>?_⟩;obtain⟨hs,rl,T,rfl,dn,rfl,Dx,sm⟩:=ry;have vx:=Dx us bh;rw[qm]at vx;cases vx;have vy:=sm ws cM;rw[ev]at vy;cases vy;have ko:Go aD aD aa (upd aa T (.tup [u,v])):=Go.fT dn;have vN:cj K I aD (((f9 2 cap σ).set 0 (.val d.1)).set 1 (.val d.2)) ee (((eG 2 cap az).set 0 (some u)).set 1 (some v)) (upd aa T (.tup [u,v])):=((b2.fT dn).val (iL.go ko)).val (bZ.go ko);have nQ:lI (eG 2 cap az) (((eG 2 cap az).set 0 (some u)).set 1 (some v)):=((lI.refl _).set rfl).set rfl;refine⟨T,[u,v],rfl,dG.of eb,rfl,u,[v],rfl,v,[],rfl,rfl,nQ,aD,_,ee,true,ee,vN,rfl,fun bt cX CJ cW=>?_⟩;have g2:Go aD bt aa cX:=ko.trans CJ;obtain⟨MO,kR,c0,h⟩:=M.inv h;refine ky ⟨bt,_,ee,MO,kR,cW,c0,?_⟩
   cases MO with
   |ex c=>
    cases h;have km:iv.ex c=jV:=km;subst km;intro C fm fa d8 g3 Sz cm;have G:Go aD fm aa fa:=g2.trans g3;obtain⟨gD,jU,cK,go,dh⟩:=back fm fa (s'.trans G.same) (fun b U=>(G.own b (s'.some U)).trans (hQ b U)) Sz;exact q C gD fa d8 (sg.trans go) dh cm
   |ok r=>
    obtain⟨x,tS,gm,h⟩:=M.inv h;obtain⟨ZP,GP,eO,h⟩:=M.inv h;cases h;intro fm v fa g3 e_ bD nn;obtain⟨a0,rfl⟩:=nK (H₀:=cX) bD nn gm;have G:Go aD (cH cX fm) aa fa:=g2.trans g3.cH;have jK:fa D=some (.lst zs):=G.same.at' _ _ dT;have ma:cH cX fm D=.eK:=(G.own D (by rw[dT];intro z;cases z)).trans kH;have cm:ee=kR:=b2.emp.trans e_.emp.symm;refine⟨jK,by omega,(i'.zip il).length-(k+1),by omega,rfl,er,cH cX fm,kR,acc++[x],ZP,?_,Gd e0 (s'.trans G.same) jK _,fun b U=>(G.own b (s'.some U)).trans (hQ b U),ma,eb,
     by rw[ag3,ahm];omega,((hT.go G).append (.one a0)).e6 (by rw[ma];intro z;cases z) jK,by rw[bE];exact eO,by rw[<-iv.PK];exact km⟩
    exact cm▸(b2.go G (e_.cH cX).dh).Gb ma jK
section
variable{X:aS}{E:dH}{scope esc:Scope}{EN N:List Str}{cap:List Nat}{elt a f7:Expr}{pos hq p cu dy cR:Pos}{x y:Str}{el:fb}{ms:cQ}{k:Nat}
theorem acm(L:wD X E)(S:mr esc scope EN N 2 cap)(uO:dC X "zip")(hm:X.I "zip"=none)(ax:f6 X [a,f7] ms)(av:N[0]? = some x)(bo:N[1]? = some y)
  (lb:∀C aW s H,Loc (cz X scope N C aW s H).env.scope x/\(cz X scope N C aW s H).env.scope.names.lookup x=some .local) (qC:∀C aW s H,Loc (cz X scope N C aW s H).env.scope y/\(cz X scope N C aW s H).env.scope.names.lookup y=some .local)
  (iC:∀C aW s H,mw (r4 X E scope N C aW s H) E elt el)
  (he:X.env.scope=esc:=by rfl) (bY:X.N=EN:=by rfl) (aA:X.calm=true:=by rfl) (aQ:∀x,ail (.Call (.Name "zip" p) [a,f7] [] cu) X.env x=pure x:=by intro _;rfl)
  (uU:ag6 [a,f7] X.env=[(false,eval a X.env),(false,eval f7 X.env)]:=by rfl) (o9:ag6 [f7] X.env=[(false,eval f7 X.env)]:=by rfl)
  (lW:∀C aW s H,(ahS [.Name x dy,.Name y cR] (cz X scope N C aW s H).env).length=2/\(ahS [.Name x dy,.Name y cR] (cz X scope N C aW s H).env).findIdx? (·.1)=none/\
   (ahS [.Name x dy,.Name y cR] (cz X scope N C aW s H).env).map (·.2)=aj5 (.Name x dy) (cz X scope N C aW s H).env::(ahS [.Name y cR] (cz X scope N C aW s H).env).map (·.2)/\
   (ahS [.Name y cR] (cz X scope N C aW s H).env).map (·.2)=aj5 (.Name y cR) (cz X scope N C aW s H).env::(ahS [] (cz X scope N C aW s H).env).map (·.2):=by intros;exact⟨rfl,rfl,rfl,rfl⟩) :
  mw X E (.ListComp elt [⟨.Tuple [.Name x dy,.Name y cR] k hq,.Call (.Name "zip" p) [a,f7] [] cu,[],0⟩] scope pos) (r' cap ms el):=
 ⟨et (Y1 (EK:=E) (wi:=uX X.K (ng X.K X.I ms)) (g:=uy X.K 2 (o4 [0,1])) (tt:=mc X.K X.I fF) (te:=zJ X.K X.I E el) S (MC uO hm ax.un uU o9)
  (fun C aW s H=>Mx aA (y6 S.bW av (lb C aW s H).1 (y6 S.bW bo (qC C aW s H).1 My (lW C aW s H).2.2.2 (.inr (qC C aW s H).2)) (lW C aW s H).2.2.1 (.inr (lb C aW s H).2)) (lW C aW s H).1 (lW C aW s H).2.1) (fun _ _ _ _=>Il) (fun C aW s H=>(iC C aW s H).un) L he bY aA aQ) RZ⟩
end
section
omit [ak.a7]
@[simp] theorem aey:qo bg ms σ=(do
 let rs <-ms σ
 let r <-bg (rs.map R.arg)
 match r with
 |.ret d=>pure (.ok (.v d))| .exc c=>pure (.ex c)):=rfl
@[simp] theorem aew:r9 f a m σ=(do
 let x <-a σ
 let q <-m σ
 match q with
 |.ok y=>do
  let z <-f x y
  pure (.ok z)
 | .ex c=>pure (.ex c)):=rfl
@[simp] theorem aev:qn f m σ=(do
 let q <-m σ
 match q with
 |.ok y=>do
  let z <-f y
  pure (.ok z)
 | .ex c=>pure (.ex c)):=rfl
@[simp] theorem aex:r_ f m=qn (fun x=>f [x]) m:=rfl
@[simp] theorem aez:r' cap ms el σ=(do
 let rs <-ms σ
 match ov rs with
 |some ds=>do
  eS (ds.length<ag5)
  let q <-kz el (f9 2 cap σ) ds
  match q with
  |.ok xs=>pure (.ok (.fr xs))|.ex c=>pure (.ex c)
 | none=>bad):=rfl
@[simp] theorem agj:p0 m σ=(do
 let q <-m σ
 match q with
 |.ok r=>do
  let d <-r.dat
  pure (.cA d)
 | .ex c=>pure (.ex c)):=rfl
end
noncomputable def xj(j ie ik:Nat)(fs:List (Str×dE))(ms:cQ)(bw:List (Str×List Bool)):aV:=fun σ=>match σ[j]? with
 |some (.val (.fn f))=>match fs.lookup f with
  |some bg=>Bm ie ik bg ms bw σ|none=>bad
 |_=>bad
noncomputable def xh(j:Nat)(fs:List (Str×dE))(ms:cQ):bj:=fun σ=>match σ[j]? with
 |some (.val (.fn f))=>match fs.lookup f with
  |some bg=>qd bg ms σ|none=>bad
 |_=>bad
section
variable{X:aS}{C B:Addr}{E:dH}{st:Stmt}{pos p np:Pos}{b:dF}{x:Str}{ps:List Str}{k:Nat}{bg:dE}{e:Expr}{aE:List Expr}{ms:cQ}
theorem oq(d:bB X.K X.I x agT ps)(a':dC X x)(da:(x==("__debug__":Str))=false:=by decide):cq X (.Name x p) (ai (.fn x)):=by
 obtain⟨f,fd,F,b,m⟩:=d.ex;exact⟨r2 (v:=.ref f) (od a' ⟨.ref f,m,rfl⟩ da) fun _ _=>⟨f,rfl,m⟩⟩
theorem acN{j:Nat}{fs:List (Str×dE)}{ea n f:Str}{ie ik:Nat}{bw:List (Str×List Bool)}{hD:Stmt}{body:List Stmt}{q6 aP kI:Pos}(uN:∀g bg,fs.lookup g=some bg->eN X.prog X.w X.K X.I X.base g ps k (e4 X.K X.I bg))(T8:X.N[j]? = some f)(Vr:gT X.env.scope f)(ay:eh k X.A)(UY:dC X ea)(J2:X.c2=fun _ _=>False)(aL:X.stack=X.env::X.outer/\X.env.frame=some X.env.locals)
  (bY:X.N.Nodup) (aC:X.N[ie]? = some n) (ao:X.env.scope.names.lookup n=some .local) (ks:ik≠ie) (Dp:ik<X.N.length) (ax:f6 X (e::aE) ms) (U6:∀c bs,bw.lookup c=some bs->Po X ea ie ik (hD::body) c bs)
  (qz:(f==("__debug__":Str))=false:=by decide) (UJ:(f==("__classdict__":Str))=false:=by decide) (UP:(ea==("__debug__":Str))=false:=by decide)
  (he:ag6 (e::aE) X.env=(false,eval e X.env)::ag6 aE X.env:=by rfl) (du:(ahN pos (ag6 aE X.env)).any (·.1)=false:=by rfl)
  (uV:ah6 (.Call (.Name f p) (e::aE) [] pos) none q6.line X.env=pure false:=by rfl) :
  iR X (.Try [.Expr (.Call (.Name f p) (e::aE) [] pos) q6] [.ExceptHandler (some (.Name ea np)) (some n) (hD::body) aP] [] [] kI) (xj j ie ik fs ms bw):=by
 refine⟨?_⟩;intro ae s az H gR J ⟨O,σ,S,bO,aJ,st,gp,q⟩;unfold xj at gp;split at gp
 rotate_left
 ·cases gp
 rename_i ko iV;split at gp
 rotate_left
 ·cases gp
 rename_i bg el;obtain⟨rs,a6,bK,gp⟩:=M.inv gp;obtain⟨r,bS,cn,gp⟩:=M.inv gp;obtain⟨g,fd,F,b,cv,m⟩:=(uN ko bg el).ex;obtain⟨v0,ev,gU,rfl,em⟩:=st.loc j _ iV;have:gU=g:=by
  rw[m]at em;cases em;rfl
 subst this;have uq:az[j]? = some (some (.ref gU)):=by
  cases w:az[j]? with
  |none=>rw[w]at ev;cases ev
  |some y=>rw[w]at ev;exact congrArg some ev
 refine wpAny_Try_except ?_;refine ala (wpAny_Expr_any ?_ J.quiet uV);refine aiU (ahZ (lx T8 Vr qz UJ ae s az H (fun v aa=>v=.ref gU/\aa=H) J ⟨.ref gU,uq,rfl,rfl⟩) (fun u s0 ⟨v,j',Pj,q_,aH,aT⟩=>?_) fun _ _ z=>by rw[J2]at z;exact z.elim);subst aH;have aT:=aT.symm;subst aT;obtain rfl:u=ahy gU:=q_;clear J;have J:=Pj;refine ale (h₀:=X.base) J.ok.mod.qL cv (ahZ (ax.un pos ae _ az H (fun ar H1=>∃aY,Go O aY H H1/\cj X.K X.I aY σ a6 az H1/\h1 X.K X.I aY H1 rs ar) J ⟨O,σ,S,rs,a6,st,bK,fun aY ar H1 g1 a3 bD nn=>⟨aY,g1,a3,bD⟩⟩) (fun us s1 ⟨ar,H1,bc,bZ,aY,g1,a3,bD⟩=>⟨bc.gO,?_⟩) (fun _ _ z=>by rw[J2]at z;exact z.elim)) he du;have cm:=a3.emp;subst cm;have hM:e4 X.K X.I bg ar H1 (fun v aa=>∃d,(r=.ret d/\bS=[])/\∃aD,Go aY aD H1 aa/\dP aD aa/\Rep X.K X.I aD aa d v) (fun cls _ aa=>∃c C,X.I c=some (.ref C)/\cls=.ref C/\(r=.exc c/\bS=[])/\∃aD,Go aY aD H1 aa/\dP aD aa):=by
  refine⟨aY,_,r,bS,a3.dh,lP bD,cn,?_⟩
  cases r with
  |ret d=>exact fun aD v aa g' d' cm bZ=>⟨d,⟨rfl,cm⟩,aD,g',d',bZ⟩
  |exc c=>exact fun C aD aa d8 g' d' cm=>⟨c,C,d8,rfl,⟨rfl,cm⟩,aD,g',d'⟩
 have nX:us.length=ps.length:=by rw[<-bZ.length];exact F.len _ _ _ _ hM
 have U:ak7 s1 fd ⟨us,[]⟩ (ps.zip us):=by
  have:=b s1 us bc.gO (by rw[ahl];exact nX)
  rwa[ahl]at this
 refine wpAny_call (alc (F.run X.A X.stack s1 H1 ⟨us,[]⟩ us ar _ _ ay bc.I9 U bZ hM) fun res s' bf=>?_)
 cases res with
 |error ev=>
  have mT:gz X.prog X.w X.stack H1 s1 (fun cls _ aa=>∃c C,X.I c=some (.ref C)/\cls=.ref C/\(r=.exc c/\bS=[])/\∃aD,Go aY aD H1 aa/\dP aD aa) ev s':=bf
  cases r with
  |ret d=>obtain⟨_,_,_,_,_,_,_,_,_,_,_,_,⟨z,_⟩,_⟩:=mT;cases z
  |exc c=>
   cases aA:bw.lookup c with
   |none=>dsimp only at gp;rw[aA]at gp;cases gp
   |some bs=>
    dsimp only at gp;rw[aA]at gp;cases gp;obtain⟨B,Xg,n1⟩:=(U6 c bs aA).ex;obtain⟨C,Lh⟩:∃C,X.I c=some (.ref C):=by obtain⟨_,_,_,_,_,_,_,_,gi,nj,d8,_,⟨z,_⟩,_⟩:=mT;cases z;exact⟨nj,d8⟩
    obtain⟨DA,UG⟩:=n1 C Lh;refine Q4 (bs:=bs) Xg DA aL UY UP bY aC ao ks Dp UG bc mT fun cls aa UL=>?_
    obtain⟨gi,nj,d8,rfl,⟨z,rfl⟩,aD,g',d'⟩:=UL;cases z;cases Lh.symm.trans d8;refine⟨rfl,fun p iq tn aP dT=>?_⟩;have cW:=a3.go g' d';have go2:Go aD aD aa iq:=⟨tn,fun _ _=>rfl⟩;have e_:=cW.go go2 (d'.same tn);have oh:=(e_.val (i:=ik) (d:=.lst (bs.map D.aB)) (v:=.ref p) ⟨p,bs.map V.aB,rfl,⟨dT,dP.free d' aP⟩,M_ bs⟩).unset (i:=ie);exact q _ _ _ ((g1.trans (g'.trans go2)).dj) oh ((dQ.set (fun xs z=>by cases z)).trans (dQ.set (fun xs z=>by cases z)))
 |ok TM=>
  cases TM with
  |next=>exact aie bf
  |brk=>exact aie bf|cont=>exact aie bf|ret u=>
   obtain⟨v,aa,cZ,agR,d,⟨rfl,rfl⟩,aD,g',d',e3⟩:=bc.after bf;cases gp;exact aji (aji ⟨_,_,cZ,q aD _ _ (g1.trans g').dj (a3.go g' d') (dQ.refl _ _)⟩)
theorem acf{j:Nat}{fs:List (Str×dE)}(uN:∀g bg,fs.lookup g=some bg->eN X.prog X.w X.K X.I X.base g ps k (e4 X.K X.I bg))(bY:X.N[j]? = some x)(bF:gT X.env.scope x)(ay:eh k X.A)(ax:f6 X (e::aE) ms)(da:(x==("__debug__":Str))=false:=by decide)(dN:(x==("__classdict__":Str))=false:=by decide)
  (he:ag6 (e::aE) X.env=(false,eval e X.env)::ag6 aE X.env:=by rfl) (du:(ahN pos (ag6 aE X.env)).any (·.1)=false:=by rfl):cq X (.Call (.Name x p) (e::aE) [] pos) (xh j fs ms):=by
 refine⟨?_⟩;intro ae s az H Q J ⟨O,σ,S,r,aJ,st,h,q⟩;unfold xh at h;split at h
 rotate_left
 ·cases h
 rename_i ko iV;split at h
 rotate_left
 ·cases h
 rename_i bg el;obtain⟨rs,a6,aj,h⟩:=M.inv h;obtain⟨bq,bS,h2,h⟩:=M.inv h;obtain⟨g,fd,F,b,cv,m⟩:=(uN ko bg el).ex;obtain⟨v0,ev,gU,rfl,em⟩:=st.loc j _ iV;have:gU=g:=by
  rw[m]at em;cases em;rfl
 subst this;have uq:az[j]? = some (some (.ref gU)):=by
  cases w:az[j]? with
  |none=>rw[w]at ev;cases ev
  |some y=>rw[w]at ev;exact congrArg some ev
 refine aiU (b0 (lx bY bF da dN ae s az H (fun v aa=>v=.ref gU/\aa=H) J ⟨.ref gU,uq,rfl,rfl⟩) fun u s1 ⟨v,H1,bc,bK,aH,aT⟩=>?_);subst aH aT;obtain rfl:u=ahy gU:=bK;refine ale (h₀:=X.base) J.ok.mod.qL cv (b0 (ax.un pos ae s1 az H1 (fun ar aZ=>e4 X.K X.I bg ar aZ Q fun _ _ _=>False) bc ⟨O,σ,S,rs,a6,st,aj,fun aY ar aZ g1 a3 bD nn=>?_⟩) fun us s2 ⟨ar,aZ,cZ,r,q⟩=>⟨cZ.gO,?_⟩) he du
 ·have cm:=a3.emp
  subst cm;refine⟨aY,_,bq,_,a3.dh,lP bD,h2,?_⟩
  cases bq with
  |ret d=>
   cases h;exact fun aD v aa g' d' cm bZ=>q aD v aa (g1.trans g') (by subst cm;exact a3.go g' d') bZ trivial
  |exc c=>cases h
 ·exact E5 (E:=fun _ _ _=>False) (dvs:=[]) (ds:=[]) F ay b .nil (fun ae σ H s e s' J c=>by obtain⟨_,_,_,_,_,_,_,_,z⟩:=c;exact z.elim) cZ r (by simpa only[ahl]using q)
theorem Oz{j:Nat}{fs:List (Str×b8)}(uN:∀g bg,fs.lookup g=some bg->∃ps,bM X.prog X.w X.K X.I X.base g ps k (bQ X.K X.I bg))(bY:X.N[j]? = some x)(bF:gT X.env.scope x)(ay:eh k X.A)(ax:f6 X (e::aE) ms)(da:(x==("__debug__":Str))=false:=by decide)(dN:(x==("__classdict__":Str))=false:=by decide)
  (he:ag6 (e::aE) X.env=(false,eval e X.env)::ag6 aE X.env:=by rfl) (du:(ahN pos (ag6 aE X.env)).any (·.1)=false:=by rfl):cq X (.Call (.Name x p) (e::aE) [] pos) (t6 j fs ms):=by
 refine⟨?_⟩;intro ae s az H Q J ⟨O,σ,S,r,aJ,st,h,q⟩;unfold t6 at h;split at h
 rotate_left
 ·cases h
 rename_i ko iV;split at h
 rotate_left
 ·cases h
 rename_i bg el;obtain⟨rs,a6,aj,h2⟩:=M.inv h;obtain⟨ps,gn⟩:=uN ko bg el;obtain⟨g,fd,F,b,cv,m⟩:=gn.ex;obtain⟨v0,ev,gU,rfl,em⟩:=st.loc j _ iV;have:gU=g:=by
  rw[m]at em;cases em;rfl
 subst this;have uq:az[j]? = some (some (.ref gU)):=by
  cases w:az[j]? with
  |none=>rw[w]at ev;cases ev
  |some y=>rw[w]at ev;exact congrArg some ev
 refine aiU (b0 (lx bY bF da dN ae s az H (fun v aa=>v=.ref gU/\aa=H) J ⟨.ref gU,uq,rfl,rfl⟩) fun u s1 ⟨v,H1,bc,bK,aH,aT⟩=>?_);subst aH aT;obtain rfl:u=ahy gU:=bK;refine ale (h₀:=X.base) J.ok.mod.qL cv (b0 (ax.un pos ae s1 az H1 (fun ar aZ=>bQ X.K X.I bg ar aZ Q tH) bc ⟨O,σ,S,rs,a6,st,aj,fun aY ar aZ g1 a3 bD nn=>?_⟩) fun us s2 ⟨ar,aZ,cZ,r,q⟩=>⟨cZ.gO,?_⟩) he du
 ·have cm:=a3.emp
  subst cm;exact⟨aY,_,r,_,a3.dh,lP bD,h2,fun aD v aa g' d' cm bZ Eu=>q aD v aa (g1.trans g') (by subst cm;exact a3.go g' d') bZ (Eu.back g1.same)⟩
 ·exact E5 (dvs:=[]) (ds:=[]) F ay b .nil Ml cZ r (by simpa only[ahl]using q)
end
section
omit [ak.a7]
@[simp] theorem af6{fs:List (Str×dE)}:xj j ie ik fs ms bw σ=match σ[j]? with
 |some (.val (.fn f))=>match fs.lookup f with
  |some bg=>Bm ie ik bg ms bw σ|none=>bad
 |_=>bad:=rfl
@[simp] theorem ad8{fs:List (Str×dE)}:xh j fs ms σ=match σ[j]? with
 |some (.val (.fn f))=>match fs.lookup f with
  |some bg=>qd bg ms σ|none=>bad
 |_=>bad:=rfl
end
section
variable{X:aS}{o i:Expr}{m mk:bj}{pos:Pos}
theorem SU{K:a4}{I:br}:∀az H Q,fw K I (au (sX true) mk m) az H Q->N2 (fw K I mk) (fw K I m) az H Q:=by
 rintro az H Q ⟨O,σ,S,r,aJ,st,h,q⟩;obtain⟨k,a6,aj,h⟩:=M.inv h;obtain⟨x,bS,h2,h⟩:=M.inv h;unfold sX at h;split at h
 ·rename_i fS aK _
  split at h
  ·rename_i key gL
   cases h;refine⟨O,σ,S,_,a6,st,aj,fun aY Gh H1 g1 a3 bx sU=>?_⟩;refine⟨aY,σ,a6,_,_,a3,h2,fun bt fy aZ g2 cW a0 a8=>?_⟩;obtain⟨a,c9,rfl,l,pO⟩:=a0;have lD:=pO.val key;refine⟨a,_,rfl,Ce pO l (Rep.go g2 bx) gL,q bt _ aZ (g1.trans g2) cW ?_ trivial⟩
   cases eZ:h6 aK key with
   |none=>rw[eZ]at lD;rw[lD];exact rfl|some d=>rw[eZ]at lD;obtain⟨v,aH,aT⟩:=lD;rw[aH];exact rfl
  ·cases h
 ·cases h
theorem Sm(a_:X.A.units+64<cLine)(aC:cg X i mk)(aM:cg X o m)(aj:ah8 .NotIn o=false:=by rfl):hx X (.Compare i [.NotIn] [o] pos) (bb (au (sX true) mk m)):=
 vv (Zz (YW (by omega) aC aM) aj) fun az H Q h=>F9 SU az H Q (zI az H Q h)
theorem acP(a_:X.A.units+64<cLine)(aC:cq X i mk)(aM:cq X o m)(aj:ah8 .NotIn o=false:=by rfl):iw X (.Compare i [.NotIn] [o] pos) (bb (au (sX true) mk m)):=⟨Sm a_ aC.un aM.un aj⟩
end
end aN
namespace b'
open PySem PySem.Spec ak aN
noncomputable def top(i:Nat):Stmt:=PySem.Challenge.pw_oneslate_k84_texts_refused.main.body.getD i (.Pass ⟨0,0,0,0⟩)
noncomputable abbrev Fg:Stmt:=top 14
theorem aaH:c5 ["thing"] ["thing"] (b_ Fg):={}
noncomputable abbrev E':Stmt:=top 15
theorem aaz:c5 ["mask","keeper"] ["mask","keeper"] (b_ E'):={}
noncomputable abbrev FD:Stmt:=top 16
theorem zy:c5 ["keepers","mask","keeper"] ["keepers"] (b_ FD):={}
noncomputable abbrev zk:Stmt:=top 17
theorem aaI:c5 ["mask"] ["mask"] (b_ zk):={}
noncomputable abbrev zt:Stmt:=top 18
theorem zz:c5 ["mask","masks","keeper"] ["mask"] (b_ zt):={}
noncomputable abbrev Fd:Stmt:=top 24
theorem aaC:c5 ["thing"] ["thing"] (b_ Fd):={}
noncomputable abbrev Fe:Stmt:=top 25
theorem aaF:c5 ["thing"] ["thing"] (b_ Fe):={}
noncomputable abbrev Fb:Stmt:=top 26
theorem Nw:c5 ["thing","many"] ["thing"] (b_ Fb):={}
noncomputable abbrev zh:Stmt:=top 27
theorem aaA:c5 ["thing","deep"] ["thing","deep"] (b_ zh):={}
noncomputable abbrev FF:Stmt:=top 28
theorem FW:c5 ["rule","keepers","part"] ["rule"] (b_ FF):={}
noncomputable abbrev Ff:Stmt:=top 29
theorem aaG:c5 ["thing"] ["thing"] (b_ Ff):={}
noncomputable abbrev FE:Stmt:=top 30
theorem aaS:c5 ["rule"] ["rule"] (b_ FE):={}
noncomputable abbrev zg:Stmt:=top 31
theorem aax:c5 ["rule","mask"] ["rule","mask"] (b_ zg):={}
noncomputable abbrev zi:Stmt:=top 32
theorem aaD:c5 ["mask","filling"] ["mask","filling"] (b_ zi):={}
noncomputable abbrev vF:Stmt:=top 33
theorem NC:c5 ["rule","filling"] ["rule"] (b_ vF):={}
noncomputable abbrev E9:Stmt:=top 35
theorem Nv:c5 ["mask","others","other"] ["mask","others"] (b_ E9):={}
noncomputable abbrev FG:Stmt:=top 36
theorem zA:c5 ["asking","keeping","others","mask","other"] ["asking","keeping"] (b_ FG):={}
noncomputable abbrev Fc:Stmt:=top 37
theorem aaB:c5 ["thing"] ["thing"] (b_ Fc):={}
noncomputable abbrev zj:Stmt:=top 42
theorem aaE:c5 ["thing"] ["thing"] (b_ zj):={}
noncomputable abbrev E_:Stmt:=top 43
theorem aay:c5 ["word"] ["word"] (b_ E_):={}
noncomputable abbrev FH:Stmt:=top 47
theorem tl:c5 ["text","place","deep","parts","sign","found"] ["text","place","deep"] (b_ FH):={}
noncomputable abbrev FP:Stmt:=top 48
theorem FY:c5 ["text","place","deep","figure","found"] ["text","place","deep"] (b_ FP):={}
noncomputable abbrev FO:Stmt:=top 49
theorem ND:c5 ["text","found"] ["text"] (b_ FO):={}
noncomputable abbrev FJ:Stmt:=top 50
theorem FX:c5 ["text","halves","hall"] ["text"] (b_ FJ):={}
noncomputable abbrev FL:Stmt:=top 51
theorem aaW:c5 ["text"] ["text"] (b_ FL):={}
noncomputable abbrev zu:Stmt:=top 52
theorem aaU:c5 ["text"] ["text"] (b_ zu):={}
noncomputable abbrev FK:Stmt:=top 54
theorem aaV:c5 ["text"] ["text"] (b_ FK):={}
noncomputable abbrev FN:Stmt:=top 55
theorem aaX:c5 ["kind","text"] ["kind","text"] (b_ FN):={}
noncomputable abbrev FI:Stmt:=top 56
theorem aaT:c5 ["form","rest"] ["form","rest"] (b_ FI):={}
noncomputable abbrev zv:Stmt:=top 57
theorem vH:c5 ["text","found","word","form","pieces"] ["text"] (b_ zv):={}
noncomputable abbrev Fj:Stmt:=top 59
theorem aaK:c5 ["script","k"] ["script","k"] (b_ Fj):={}
noncomputable abbrev Fz:Stmt:=top 60
theorem aaR:c5 ["found"] ["found"] (b_ Fz):={}
noncomputable abbrev Fp:Stmt:=top 61
theorem rb:c5 ["stack","most","need","parts","deep","many","one"] ["stack","most","need"] (b_ Fp):={}
noncomputable abbrev Fw:Stmt:=top 62
theorem FR:c5 ["cells","stack","cell"] ["cells"] (b_ Fw):={}
noncomputable abbrev Fi:Stmt:=top 63
theorem aaJ:c5 ["k"] ["k"] (b_ Fi):={}
noncomputable abbrev zo:Stmt:=top 64
theorem aaM:c5 ["rule","mask"] ["rule","mask"] (b_ zo):={}
noncomputable abbrev zm:Stmt:=top 65
theorem aaL:c5 ["rule"] ["rule"] (b_ zm):={}
noncomputable abbrev Fl:Stmt:=top 66
theorem Ny:c5 ["rule","cell","at"] ["rule","cell"] (b_ Fl):={}
noncomputable abbrev Ft:Stmt:=top 67
theorem NB:c5 ["one","other","mask"] ["one","other"] (b_ Ft):={}
noncomputable abbrev Fs:Stmt:=top 68
theorem rd:c5 ["thing","deep","many","part","found"] ["thing"] (b_ Fs):={}
noncomputable abbrev Fo:Stmt:=top 69
theorem Nz:c5 ["thing","found"] ["thing"] (b_ Fo):={}
noncomputable abbrev zr:Stmt:=top 70
theorem aaQ:c5 ["rule"] ["rule"] (b_ zr):={}
noncomputable abbrev Fm:Stmt:=top 71
theorem aaN:c5 ["hall"] ["hall"] (b_ Fm):={}
noncomputable abbrev FC:Stmt:=top 72
theorem FV:c5 ["deed","words","part"] ["deed"] (b_ FC):={}
noncomputable abbrev Fu:Stmt:=top 73
theorem rf:c5 ["cell","size","at","name","k"] ["cell"] (b_ Fu):={}
noncomputable abbrev Fn:Stmt:=top 74
theorem aaO:c5 ["thing"] ["thing"] (b_ Fn):={}
noncomputable abbrev zp:Stmt:=top 75
theorem aaP:c5 ["thing","kind"] ["thing","kind"] (b_ zp):={}
noncomputable abbrev zq:Stmt:=top 76
theorem NA:c5 ["thing","forms"] ["thing"] (b_ zq):={}
noncomputable abbrev Fq:Stmt:=top 77
theorem vG:c5 ["read","text","kinds","e"] ["read","text"] (b_ Fq):={}
noncomputable abbrev Fy:Stmt:=top 78
theorem FU:c5 ["read","judge","shown","text","kinds","found"] ["read","judge","shown","text"] (b_ Fy):={}
noncomputable abbrev FA:Stmt:=top 79
theorem zx:c5 ["cell","name","number","hall","fence","some"] ["cell","name","number","hall"] (b_ FA):={}
noncomputable abbrev Fx:Stmt:=top 80
theorem FT:c5 ["cell","some"] ["cell"] (b_ Fx):={}
noncomputable abbrev Fh:Stmt:=top 81
theorem Nx:c5 ["text","cell","sign","at"] ["text","cell","sign"] (b_ Fh):={}
noncomputable abbrev Fv:Stmt:=top 82
theorem og:c5 ["cell","some"] ["cell"] (b_ Fv):={}
noncomputable abbrev zl:Stmt:=top 83
theorem jX:c5 ["script","rule","other","first","eased","second","number","deed","base","text","k"] ["script"] (b_ zl):={}
noncomputable abbrev qM:List (Str×D):=[("put",.tup [(.str "name"),(.str "number")]),("add",.tup [(.str "name"),(.str "number")]),("swap",.tup [(.str "name"),(.str "number"),(.str "number")]),("take",.tup [(.str "fence")]),("renew",.tup [(.str "fence")]),("free",.tup [(.str "fence")]),("sure",.tup [(.str "fence"),(.str "name"),(.str "number")]),("move",.tup [(.str "hall")]),("end",.tup [])]
noncomputable abbrev h9:List (Str×D):=[("0",.int 0),("1",.int 1),("2",.int 2),("3",.int 3),("4",.int 4),("5",.int 5),("6",.int 6),("7",.int 7),("8",.int 8),("9",.int 9)]
structure Txt[ak.a7](P:ahq)(w:World)(K:a4)(I:br):Prop where
 BK:bB K I "is_whole" Fg ["thing"]
 BC:bB K I "has_keeper" E' ["mask","keeper"]
 B3:bB K I "mask_of" FD ["keepers"]
 BL:bB K I "keepers_of" zk ["mask"]
 B4:bB K I "masks_within" zt ["mask"]
 BF:bB K I "is_keeper" Fd ["thing"]
 BI:bB K I "is_pair" Fe ["thing"]
 BD:bB K I "is_choice" Fb ["thing"]
 xw:bB K I "is_built" zh ["thing","deep"]
 xH:bB K I "namings" FF ["rule"]
 BJ:bB K I "is_rule" Ff ["thing"]
 B5:bB K I "named" FE ["rule"]
 xv:bB K I "fills" zg ["rule","mask"]
 BG:bB K I "is_least" zi ["mask","filling"]
 B2:bB K I "least_masks" vF ["rule"]
 BA:bB K I "first_apart" E9 ["mask","others"]
 B6:bB K I "parting" FG ["asking","keeping"]
 BE:bB K I "is_hall" Fc ["thing"]
 BH:bB K I "is_name" zj ["thing"]
 BB:bB K I "form_of" E_ ["word"]
 xI:bB K I "parts_at" FH ["text","place","deep"]
 xN:bB K I "rule_at" FP ["text","place","deep"]
 xK:bB K I "read_rule" FO ["text"]
 xJ:bB K I "read_hall" FJ ["text"]
 B_:bB K I "read_number" FL ["text"]
 B8:bB K I "read_fence" zu ["text"]
 B9:bB K I "read_name" FK ["text"]
 B':bB K I "read_part" FN ["kind","text"]
 B7:bB K I "pieces_of" FI ["form","rest"]
 xM:bB K I "read_wish" zv ["text"]
 BP:bB K I "_law_cell_at" Fj ["script","k"]
 B0:bB K I "_law_whole" Fz ["found"]
 BR:bB K I "_law_joined" Fp ["stack","most","need"]
 BX:bB K I "_law_rule" Fw ["cells"]
 BO:bB K I "_law_bit" Fi ["k"]
 xA:bB K I "_law_filled" zo ["rule","mask"]
 xx:bB K I "_law_dual" zm ["rule"]
 xy:bB K I "_law_eased" Fl ["rule","cell"]
 BU:bB K I "_law_meet" Ft ["one","other"]
 xF:bB K I "_law_measure" Fs ["thing"]
 xD:bB K I "_law_is_rule" Fo ["thing"]
 uf:bB K I "_law_rule_text" zr ["rule"]
 xB:bB K I "_law_hall_text" Fm ["hall"]
 xG:bB K I "_law_wish_text" FC ["deed"]
 BV:bB K I "_law_name" Fu ["cell"]
 xC:bB K I "_law_is_hall" Fn ["thing"]
 BQ:bB K I "_law_is_part" zp ["thing","kind"]
 xE:bB K I "_law_is_wish" zq ["thing"]
 BS:bB K I "_law_kinds" Fq ["read","text"]
 BZ:bB K I "_law_true" Fy ["read","judge","shown","text"]
 B1:bB K I "_law_wish" FA ["cell","name","number","hall"]
 BY:bB K I "_law_sign" Fx ["cell"]
 BN:bB K I "_law_bent" Fh ["text","cell","sign"]
 BW:bB K I "_law_odd" Fv ["cell"]
 BM:bB K I "law" zl ["script"]
 CM:∃u,I "LAST_KEEPER"=some u/\RelV (.int 5) u
 CQ:∃u,I "MOST_PARTS"=some u/\RelV (.int 6) u
 CP:∃u,I "MOST_NAMED"=some u/\RelV (.int 12) u
 x2:∃u,I "MOST_DEEP"=some u/\RelV (.int 4) u
 CR:∃u,I "SMALL_LETTERS"=some u/\RelV (.str "abcdefghijklmnopqrstuvwxyz") u
 CO:∃u,I "MOST_LETTERS"=some u/\RelV (.int 8) u
 CN:∃u,I "MOST_FIGURES"=some u/\RelV (.int 60) u
 DP:KTab P w K I "FORMS" qM
 yt:KTab P w K I "FIGURES" h9
 j7:∃C,wx K I "NoText" C
 Gx:∃C B,I "NoText"=some (.ref C)/\I "SlateError"=some (.ref B)/\lH K C/\W.exmOne K (.ref C) (.ref B)=some true/\(∃v u,dV I "NoText" v u/\W.kitOne K (.ref C) u=some true)/\(∃v u,dV I "ValueError" v u/\W.kitOne K (.ref C) u=some true)/\(∃v0 md v1 ht v2 hW pW me,dV I "NoRow" v0 md/\dV I "NoRule" v1 ht/\dV I "NoHall" v2 hW/\dV I "NoDeed" pW me/\W.kitAny K (.ref C) [md,ht,hW,me]=some false)/\(∃v0 md v1 ht v2 hW pW me v4 vX Ge vY,dV I "NoAsker" v0 md/\dV I "NoLetter" v1 ht/\dV I "NoTick" v2 hW/\dV I "NoWish" pW me/\dV I "Over" v4 vX/\dV I "Busy" Ge vY/\W.kitAny K (.ref C) [md,ht,hW,me,vX,vY]=some false)
 B:GD I
 kt:wA K
section
variable[ak.a7]{P:ahq}{w:World}{K:a4}{I:br}{base:Heap}
noncomputable def G5:aV:=
  (b6 (kV (cb gk (ah (ag 0) (ah (ai (.ty "int")) aG))) (rY (cb gk (ah (ag 0) (ah (ai (.ty "bool")) aG))))))
noncomputable def mZ:b8:=fnOf 1 1 G5
theorem x9(T:Txt P w K I):bM P w K I base "is_whole" ["thing"] 1 (bQ K I mZ):=by
 show bM P w K I base _ _ _ (bQ K I (fnOf 1 1 G5));refine dW (k:=0) T.BK aaH rfl rfl fun f bU A outer s H E ay=>?_
 refine di.un ?_;refine bR ?_
 ·exact(cf (oo (c' (h4 T.kt) h8 rfl T.B.isinstance ha (aq (aw 0) (aq (fG (hR (v:=.ty "int") rfl T.B.DH Bk rfl) fun _ _=>rfl) aO))) (ot (Gn (c' (h4 T.kt) h8 rfl T.B.isinstance ha (aq (aw 0) (aq (fG (hR (v:=.ty "bool") rfl T.B.H7 H9 rfl) fun _ _=>rfl) aO)))))))
noncomputable def AH:aV:=
  (b6 (au oEq (au Ey (au L3 (ag 0) (ag 1)) (ai (.int 1))) (ai (.int 1))))
noncomputable def sI:b8:=fnOf 2 2 AH
theorem JD(T:Txt P w K I):bM P w K I base "has_keeper" ["mask","keeper"] 1 (bQ K I sI):=by
 show bM P w K I base _ _ _ (bQ K I (fnOf 2 2 AH));refine dW (k:=0) T.BC aaz rfl rfl fun f bU A outer s H E ay=>?_
 have a_:=ay.units;refine di.un ?_;refine bR ?_
 ·exact(cf (ib (eU a_) eR (bH L_ GV (bH YF PV (aw 0) (aw 1)) aU) aU (iG _)))
noncomputable def DW:aV:=
  (cT 1 (au L1 (ag 1) (au L2 (ai (.int 1)) (ag 2))))
noncomputable def HB:aV:=
  (b6 (ag 1))
noncomputable def HA:aV:=
  bL (iT 2 (pb (ag 0)) DW) HB
noncomputable def Bc:aV:=
  bL (cT 1 (ai (.int 0))) HA
noncomputable def m4:b8:=fnOf 1 3 Bc
theorem Dd(T:Txt P w K I):bM P w K I base "mask_of" ["keepers"] 1 (bQ K I m4):=by
 show bM P w K I base _ _ _ (bQ K I (fnOf 1 3 Bc));refine dW (k:=0) T.B3 zy rfl rfl fun f bU A outer s H E ay=>?_
 refine di.un ?_;refine bN ?_ (bN ?_ (bR ?_))
 ·exact(c7 (i:=1) zy.bW rfl (.inl rfl) aU)
 ·exact(mi (i:=2) aih rfl (v9 (aw 0)) zy.bW rfl (.inl rfl) (bR (c7 (i:=1) zy.bW rfl (.inl rfl) (bH YD PQ (aw 1) (bH YE PU aU (aw 2))))))
 ·exact(cf (aw 1))
noncomputable def AN:aV:=
  (b6 (hF 1 [0] (lh (ah (cy oBits (ag 0)) aG)) (bb (b4 sI (ah (ag 1) (ah (ag 0) aG)))) (ag 0)))
noncomputable def va:b8:=fnOf 1 1 AN
theorem JH(T:Txt P w K I):bM P w K I base "keepers_of" ["mask"] 2 (bQ K I va):=by
 show bM P w K I base _ _ _ (bQ K I (fnOf 1 1 AN));refine dW (k:=1) T.BL aaI rfl rfl fun f bU A outer s H E ay=>?_
 refine di.un ?_;refine bR ?_
 ·exact(cf (kJ (esc:=(b_ zk)) (EN:=["mask"]) (N:=["keeper","mask"]) (n:=1) (cap:=[0]) ⟨rfl,by decide +kernel,by decide +kernel,by decide +kernel,by decide +kernel,rfl,by decide +kernel⟩ (by decide) (ab9 rfl T.B.range (aq (ace (aw 0)) aO)) rfl (fun _ _ _ _=>⟨aiz rfl,rfl⟩) (fun _ _ _ _=>(tv (dZ (cN (JD T) (ay.mono (by omega)) rfl (aq (aw 1) (aq (aw 0) aO)))))) (fun _ _ _ _=>(aw 0))))
noncomputable def DX:aV:=
  (cT 1 (au iH (ag 1) (hF 1 [2] (qK (ag 1)) fF (au es (ag 0) (b4 m4 (ah (dM (ah (ag 1) aG)) aG))))))
noncomputable def HD:aV:=
  (b6 (ag 1))
noncomputable def HC:aV:=
  bL (iT 2 (pb (b4 va (ah (ag 0) aG))) DX) HD
noncomputable def Bd:aV:=
  bL (cT 1 (dM (ah (ai (.int 0)) aG))) HC
noncomputable def yG:b8:=fnOf 1 3 Bd
theorem Uw(T:Txt P w K I):bM P w K I base "masks_within" ["mask"] 3 (bQ K I yG):=by
 show bM P w K I base _ _ _ (bQ K I (fnOf 1 3 Bd));refine dW (k:=2) T.B4 zz rfl rfl fun f bU A outer s H E ay=>?_
 refine di.un ?_;refine bN ?_ (bN ?_ (bR ?_))
 ·exact(c7 (i:=1) zz.bW rfl (.inl rfl) (eg (aq aU aO)))
 ·exact(mi (i:=2) aih rfl (v9 (cN (JH T) (ay.mono (by omega)) rfl (aq (aw 0) aO))) zz.bW rfl (ajv rfl) (bR (c7 (i:=1) zz.bW rfl (.inl rfl) (bH l6 my (aw 1) (kJ (esc:=(b_ zt)) (EN:=["mask","masks","keeper"]) (N:=["below","keeper"]) (n:=1) (cap:=[2]) ⟨rfl,by decide +kernel,by decide +kernel,by decide +kernel,by decide +kernel,rfl,by decide +kernel⟩ (by decide) (zW (aw 1)) rfl (fun _ _ _ _=>⟨aiz rfl,rfl⟩) (fun _ _ _ _=>pX) (fun _ _ _ _=>(bH fV fL (aw 0) (cN (Dd T) (ay.mono (by omega)) rfl (aq (eg (aq (aw 1) aO)) aO)))))))))
 ·exact(cf (aw 1))
noncomputable def w4:aV:=
  (b6 (kV (b4 mZ (ah (ag 0) aG)) (d1 oLe oLe (ai (.int 0)) (ag 0) (ai (.int 5)))))
noncomputable def pn:b8:=fnOf 1 1 w4
theorem Uj(T:Txt P w K I):bM P w K I base "is_keeper" ["thing"] 2 (bQ K I pn):=by
 show bM P w K I base _ _ _ (bQ K I (fnOf 1 1 w4));refine dW (k:=1) T.BF aaC rfl rfl fun f bU A outer s H E ay=>?_
 refine di.un ?_;refine bR ?_
 ·exact(cf (oo (cN (x9 T) (ay.mono (by omega)) rfl (aq (aw 0) aO)) (ot (OB hP hE hP hE aU (aw 0) (fG (od rfl T.CM) fun _ _=>rfl)))))
noncomputable def AL:aV:=
  (b6 (kV (cb gk (ah (ag 0) (ah (ai (.ty "tuple")) aG))) (au oEq (cb d3 (ah (ag 0) aG)) (ai (.int 2)))))
noncomputable def sL:b8:=fnOf 1 1 AL
theorem JF(T:Txt P w K I):bM P w K I base "is_pair" ["thing"] 1 (bQ K I sL):=by
 show bM P w K I base _ _ _ (bQ K I (fnOf 1 1 AL));refine dW (k:=0) T.BI aaF rfl rfl fun f bU A outer s H E ay=>?_
 have a_:=ay.units;refine di.un ?_;refine bR ?_
 ·exact(cf (oo (c' (h4 T.kt) h8 rfl T.B.isinstance ha (aq (aw 0) (aq (fG (hR (v:=.ty "tuple") rfl T.B.tuple' jk rfl) fun _ _=>rfl) aO))) (ot (ib (eU a_) eR (c' fp fq rfl T.B.len eE (aq (aw 0) aO)) aU (iG _)))))
noncomputable def G2:aV:=
  (b6 (kV (au oLe (ag 1) (ai (.int 6))) (d1 oLe oLe (ai (.int 1)) (au bJ (ag 0) (ai (.int 0))) (ag 1))))
noncomputable def G1:aV:=
  bL (cT 1 (cb d3 (ah (au bJ (ag 0) (ai (.int 1))) aG))) G2
noncomputable def AI:aV:=
  bL (dr (fh (d9 (bb (b4 sL (ah (ag 0) aG)))) (fh (d9 (bb (b4 mZ (ah (au bJ (ag 0) (ai (.int 0))) aG)))) (d9 (bb (cb gk (ah (au bJ (ag 0) (ai (.int 1))) (ah (ai (.ty "tuple")) aG))))))) (b6 (ai (.aB false))) dI) G1
noncomputable def sJ:b8:=fnOf 1 2 AI
theorem Uh(T:Txt P w K I):bM P w K I base "is_choice" ["thing"] 2 (bQ K I sJ):=by
 show bM P w K I base _ _ _ (bQ K I (fnOf 1 2 AI));refine dW (k:=1) T.BD Nw rfl rfl fun f bU A outer s H E ay=>?_
 refine di.un ?_;refine bN ?_ (bN ?_ (bR ?_))
 ·exact(dO (fo.c3 (g6 (eL (dZ (cN (JF T) (ay.mono (by omega)) rfl (aq (aw 0) aO)))) (g6 (eL (dZ (cN (x9 T) (ay.mono (by omega)) rfl (aq (cF cD cB (aw 0) aU) aO)))) (j6 (eL (dZ (c' (h4 T.kt) h8 rfl T.B.isinstance ha (aq (cF cD cB (aw 0) aU) (aq (fG (hR (v:=.ty "tuple") rfl T.B.tuple' jk rfl) fun _ _=>rfl) aO))))))))) (bR (cf hu)) dY)
 ·exact(c7 (i:=1) Nw.bW rfl (.inl rfl) (c' fp fq rfl T.B.len eE (aq (cF cD cB (aw 0) aU) aO)))
 ·exact(cf (oo (ib hP hE (aw 1) (fG (od rfl T.CQ) fun _ _=>rfl) (iG _)) (ot (OB hP hE hP hE aU (cF cD cB (aw 0) aU) (aw 1)))))
noncomputable def PX(self:b8):aV:=
  (b6 (cb nO (ah (hF 1 [1] (jP (au bJ (ag 0) (ai (.int 1)))) fF (b4 self (ah (ag 0) (ah (au ob (ag 1) (ai (.int 1))) aG)))) aG)))
noncomputable def PW(self:b8):aV:=
  bL (dr (fh (bb (au oEq (ag 1) (ai (.int 0)))) (d9 (bb (b4 sJ (ah (ag 0) aG))))) (b6 (ai (.aB false))) dI) (PX self)
noncomputable def rQ(self:b8):aV:=
  bL (dr (bb (b4 pn (ah (ag 0) aG))) (b6 (ai (.aB true))) dI) (PW self)
noncomputable def qT:Nat->b8
 |0=>fun _=>bad
 |n+1=>fnOf 2 2 (rQ (qT n))
theorem JE(T:Txt P w K I):∀n,bM P w K I base "is_built" ["thing","deep"] (n+3) (bQ K I (qT n))
 | 0=>T.xw.none (by rintro ar H Q E ⟨O,ds,r,aJ,_,_,h,_⟩;cases h)|n+1=>by
  have bk:bM P w K I base "is_built" ["thing","deep"] (n+3) (bQ K I (qT n)):=JE T n;show bM P w K I base _ _ _ (bQ K I (fnOf 2 2 (rQ (qT n))));refine(dW (k:=n+3) T.xw aaA rfl rfl fun f bU A outer s H E ay=>?_).mono (by omega);have a_:=ay.units;refine di.un ?_;refine bN ?_ (bN ?_ (bR ?_))
  ·exact(dO (dZ (cN (Uj T) (ay.mono (by omega)) rfl (aq (aw 0) aO))) (bR (cf hu)) dY)
  ·exact(dO (fo.c3 (g6 (dq (eU a_) eR (aw 1) aU) (j6 (eL (dZ (cN (Uh T) (ay.mono (by omega)) rfl (aq (aw 0) aO))))))) (bR (cf hu)) dY)
  ·exact(cf (c' (xk rfl) yq rfl T.B.all xf (aq (kJ (esc:=(b_ zh)) (EN:=["thing","deep"]) (N:=["part","deep"]) (n:=1) (cap:=[1]) ⟨rfl,by decide +kernel,by decide +kernel,by decide +kernel,by decide +kernel,rfl,by decide +kernel⟩ (by decide) (v8 (cF cD cB (aw 0) aU)) rfl (fun _ _ _ _=>⟨aiz rfl,rfl⟩) (fun _ _ _ _=>pX) (fun _ _ _ _=>(cN bk (ay.mono (by omega)) rfl (aq (aw 0) (aq (bH s9 rP (aw 1) aU) aO))))) aO)))
noncomputable def yy(self:b8):aV:=
  (kh 1 vZ (ah (b4 self (ah (ag 2) aG)) aG))
noncomputable def HG(self:b8):aV:=
  (t_ 1)
noncomputable def HF(self:b8):aV:=
  bL (iT 2 (jP (au bJ (ag 0) (ai (.int 1)))) (yy self)) (HG self)
noncomputable def HE(self:b8):aV:=
  bL (mC 1 (dM aG)) (HF self)
noncomputable def tZ(self:b8):aV:=
  bL (dr (bb (b4 mZ (ah (ag 0) aG))) (b6 (dM (ah (ag 0) aG))) dI) (HE self)
noncomputable def l1:Nat->b8
 |0=>fun _=>bad
 |n+1=>fnOf 1 3 (tZ (l1 n))
theorem De(T:Txt P w K I):∀n,bM P w K I base "namings" ["rule"] (n+2) (bQ K I (l1 n))
 | 0=>T.xH.none (by rintro ar H Q E ⟨O,ds,r,aJ,_,_,h,_⟩;cases h)|n+1=>by
  have bk:bM P w K I base "namings" ["rule"] (n+2) (bQ K I (l1 n)):=De T n;show bM P w K I base _ _ _ (bQ K I (fnOf 1 3 (tZ (l1 n))));refine(dW (k:=n+2) T.xH FW rfl rfl fun f bU A outer s H E ay=>?_).mono (by omega);refine di.un ?_;refine bN ?_ (bN ?_ (bN ?_ (bR ?_)))
  ·exact(dO (dZ (cN (x9 T) (ay.mono (by omega)) rfl (aq (aw 0) aO))) (bR (cf (eg (aq (aw 0) aO)))) dY)
  ·exact(v_ (i:=1) FW.bW rfl (.inl rfl) (eg aO))
  ·exact(mi (i:=2) aih rfl (Gr (cF cD cB (aw 0) aU)) FW.bW rfl (.inl rfl) (bR (rt (i:=1) PySem.F.slot_list_extend PySem.F.type_list_extend XC Xh (aq (cN bk (ay.mono (by omega)) rfl (aq (aw 2) aO)) aO) rfl (.inl rfl))))
  ·exact(acM 1)
noncomputable def AM:aV:=
  (b6 (kV (b4 (qT 12) (ah (ag 0) (ah (ai (.int 4)) aG))) (au oLe (cb d3 (ah (b4 (l1 12) (ah (ag 0) aG)) aG)) (ai (.int 12)))))
noncomputable def pq:b8:=fnOf 1 1 AM
theorem C7(T:Txt P w K I):bM P w K I base "is_rule" ["thing"] 16 (bQ K I pq):=by
 show bM P w K I base _ _ _ (bQ K I (fnOf 1 1 AM));refine dW (k:=15) T.BJ aaG rfl rfl fun f bU A outer s H E ay=>?_
 refine di.un ?_;refine bR ?_
 ·exact(cf (oo (cN (JE T 12) (ay.mono (by omega)) rfl (aq (aw 0) (aq (fG (od rfl T.x2) fun _ _=>rfl) aO))) (ot (ib hP hE (c' fp fq rfl T.B.len eE (aq (cN (De T 12) (ay.mono (by omega)) rfl (aq (aw 0) aO)) aO)) (fG (od rfl T.CP) fun _ _=>rfl) (iG _)))))
noncomputable def Be:aV:=
  (b6 (b4 m4 (ah (b4 (l1 12) (ah (ag 0) aG)) aG)))
noncomputable def yH:b8:=fnOf 1 1 Be
theorem Ux(T:Txt P w K I):bM P w K I base "named" ["rule"] 15 (bQ K I yH):=by
 show bM P w K I base _ _ _ (bQ K I (fnOf 1 1 Be));refine dW (k:=14) T.B5 aaS rfl rfl fun f bU A outer s H E ay=>?_
 refine di.un ?_;refine bR ?_
 ·exact(cf (cN (Dd T) (ay.mono (by omega)) rfl (aq (cN (De T 12) (ay.mono (by omega)) rfl (aq (aw 0) aO)) aO)))
noncomputable def GZ(self:b8):aV:=
  (b6 (au q1 (cb d3 (ah (hF 1 [1] (jP (au bJ (ag 0) (ai (.int 1)))) (bb (b4 self (ah (ag 0) (ah (ag 1) aG)))) (ag 0)) aG)) (au bJ (ag 0) (ai (.int 0)))))
noncomputable def w2(self:b8):aV:=
  bL (dr (bb (b4 mZ (ah (ag 0) aG))) (b6 (b4 sI (ah (ag 1) (ah (ag 0) aG)))) dI) (GZ self)
noncomputable def mY:Nat->b8
 |0=>fun _=>bad
 |n+1=>fnOf 2 2 (w2 (mY n))
theorem JC(T:Txt P w K I):∀n,bM P w K I base "fills" ["rule","mask"] (n+2) (bQ K I (mY n))
 | 0=>T.xv.none (by rintro ar H Q E ⟨O,ds,r,aJ,_,_,h,_⟩;cases h)|n+1=>by
  have bk:bM P w K I base "fills" ["rule","mask"] (n+2) (bQ K I (mY n)):=JC T n;show bM P w K I base _ _ _ (bQ K I (fnOf 2 2 (w2 (mY n))));refine(dW (k:=n+2) T.xv aax rfl rfl fun f bU A outer s H E ay=>?_).mono (by omega);refine di.un ?_;refine bN ?_ (bR ?_)
  ·exact(dO (dZ (cN (x9 T) (ay.mono (by omega)) rfl (aq (aw 0) aO))) (bR (cf (cN (JD T) (ay.mono (by omega)) rfl (aq (aw 1) (aq (aw 0) aO))))) dY)
  ·exact(cf (ib y2 w0 (c' fp fq rfl T.B.len eE (aq (kJ (esc:=(b_ zg)) (EN:=["rule","mask"]) (N:=["part","mask"]) (n:=1) (cap:=[1]) ⟨rfl,by decide +kernel,by decide +kernel,by decide +kernel,by decide +kernel,rfl,by decide +kernel⟩ (by decide) (v8 (cF cD cB (aw 0) aU)) rfl (fun _ _ _ _=>⟨aiz rfl,rfl⟩) (fun _ _ _ _=>(tv (dZ (cN bk (ay.mono (by omega)) rfl (aq (aw 0) (aq (aw 1) aO)))))) (fun _ _ _ _=>(aw 0))) aO)) (cF cD cB (aw 0) aU) (iG _)))
noncomputable def AK:aV:=
  (b6 (rY (cb xX (ah (hF 1 [0,1] (qK (b4 va (ah (ag 0) aG))) fF (au (vk false) (au ob (ag 1) (b4 m4 (ah (dM (ah (ag 0) aG)) aG))) (ag 2))) aG))))
noncomputable def u':b8:=fnOf 2 2 AK
theorem Uk(T:Txt P w K I):bM P w K I base "is_least" ["mask","filling"] 3 (bQ K I u'):=by
 show bM P w K I base _ _ _ (bQ K I (fnOf 2 2 AK));refine dW (k:=2) T.BG aaD rfl rfl fun f bU A outer s H E ay=>?_
 refine di.un ?_;refine bR ?_
 ·exact(cf (Gn (c' (QT rfl) Wc rfl T.B.any QM (aq (kJ (esc:=(b_ zi)) (EN:=["mask","filling"]) (N:=["keeper","mask","filling"]) (n:=1) (cap:=[0,1]) ⟨rfl,by decide +kernel,by decide +kernel,by decide +kernel,by decide +kernel,rfl,by decide +kernel⟩ (by decide) (zW (cN (JH T) (ay.mono (by omega)) rfl (aq (aw 0) aO))) rfl (fun _ _ _ _=>⟨aiz rfl,rfl⟩) (fun _ _ _ _=>pX) (fun _ _ _ _=>(ib YA (PR false) (bH s9 rP (aw 1) (cN (Dd T) (ay.mono (by omega)) rfl (aq (eg (aq (aw 0) aO)) aO))) (aw 2) rfl))) aO))))
noncomputable def Hz:aV:=
  (b6 (hF 1 [1] (qK (ag 1)) (bb (b4 u' (ah (ag 0) (ah (ag 1) aG)))) (ag 0)))
noncomputable def Bb:aV:=
  bL (cT 1 (hF 1 [0] (qK (b4 yG (ah (b4 yH (ah (ag 0) aG)) aG))) (bb (b4 (mY 12) (ah (ag 1) (ah (ag 0) aG)))) (ag 0))) Hz
noncomputable def vc:b8:=fnOf 1 2 Bb
theorem JP(T:Txt P w K I):bM P w K I base "least_masks" ["rule"] 16 (bQ K I vc):=by
 show bM P w K I base _ _ _ (bQ K I (fnOf 1 2 Bb));refine dW (k:=15) T.B2 NC rfl rfl fun f bU A outer s H E ay=>?_
 refine di.un ?_;refine bN ?_ (bR ?_)
 ·exact(c7 (i:=1) NC.bW rfl (ajv rfl) (kJ (esc:=(b_ vF)) (EN:=["rule","filling"]) (N:=["mask","rule"]) (n:=1) (cap:=[0]) ⟨rfl,by decide +kernel,by decide +kernel,by decide +kernel,by decide +kernel,rfl,by decide +kernel⟩ (by decide) (zW (cN (Uw T) (ay.mono (by omega)) rfl (aq (cN (Ux T) (ay.mono (by omega)) rfl (aq (aw 0) aO)) aO))) rfl (fun _ _ _ _=>⟨aiz rfl,rfl⟩) (fun _ _ _ _=>(tv (dZ (cN (JC T 12) (ay.mono (by omega)) rfl (aq (aw 1) (aq (aw 0) aO)))))) (fun _ _ _ _=>(aw 0))))
 ·exact(cf (kJ (esc:=(b_ vF)) (EN:=["rule","filling"]) (N:=["mask","filling"]) (n:=1) (cap:=[1]) ⟨rfl,by decide +kernel,by decide +kernel,by decide +kernel,by decide +kernel,rfl,by decide +kernel⟩ (by decide) (zW (aw 1)) rfl (fun _ _ _ _=>⟨aiz rfl,rfl⟩) (fun _ _ _ _=>(tv (dZ (cN (Uk T) (ay.mono (by omega)) rfl (aq (aw 0) (aq (aw 1) aO)))))) (fun _ _ _ _=>(aw 0))))
noncomputable def yv:aV:=
  (dr (bb (au oEq (au Ey (ag 0) (ag 2)) (ai (.int 0)))) (b6 (ag 2)) dI)
noncomputable def G0:aV:=
  (b6 (ai (.ba)))
noncomputable def AG:aV:=
  bL (iT 2 (pb (ag 1)) yv) G0
noncomputable def u_:b8:=fnOf 2 3 AG
theorem Ue(T:Txt P w K I):bM P w K I base "first_apart" ["mask","others"] 1 (bQ K I u_):=by
 show bM P w K I base _ _ _ (bQ K I (fnOf 2 3 AG));refine dW (k:=0) T.BA Nv rfl rfl fun f bU A outer s H E ay=>?_
 have a_:=ay.units;refine di.un ?_;refine bN ?_ (bR ?_)
 ·exact(mi (i:=2) aih rfl (v9 (aw 1)) Nv.bW rfl (.inl rfl) (bR (dO (dq (eU a_) eR (bH L_ GV (aw 0) (aw 2)) aU) (bR (cf (aw 2))) dY)))
 ·exact(cf i9)
noncomputable def yz:aV:=
  (bL (cT 4 (b4 u_ (ah (ag 3) (ah (ag 2) aG))))
  (dr (bb (au vl (ag 4) (ai (.ba)))) (b6 (eF (ah (ag 3) (ah (ag 4) aG)))) dI))
noncomputable def HI:aV:=
  (b6 (ai (.ba)))
noncomputable def HH:aV:=
  bL (iT 3 (pb (b4 vc (ah (ag 0) aG))) yz) HI
noncomputable def Bf:aV:=
  bL (cT 2 (b4 vc (ah (ag 1) aG))) HH
noncomputable def yI:b8:=fnOf 2 5 Bf
theorem Uy(T:Txt P w K I):bM P w K I base "parting" ["asking","keeping"] 17 (bQ K I yI):=by
 show bM P w K I base _ _ _ (bQ K I (fnOf 2 5 Bf));refine dW (k:=16) T.B6 zA rfl rfl fun f bU A outer s H E ay=>?_
 refine di.un ?_;refine bN ?_ (bN ?_ (bR ?_))
 ·exact(c7 (i:=2) zA.bW rfl (.inl rfl) (cN (JP T) (ay.mono (by omega)) rfl (aq (aw 1) aO)))
 ·exact(mi (i:=3) aih rfl (v9 (cN (JP T) (ay.mono (by omega)) rfl (aq (aw 0) aO))) zA.bW rfl (.inl rfl) (bN (c7 (i:=4) zA.bW rfl (.inl rfl) (cN (Ue T) (ay.mono (by omega)) rfl (aq (aw 3) (aq (aw 2) aO))))
  (bR (dO (dq Mb GY (aw 4) i9) (bR (cf (fH (aq (aw 3) (aq (aw 4) aO))))) dY))))
 ·exact(cf i9)
noncomputable def G3:aV:=
  (b6 (au n' (b4 yI (ah (au bJ (ag 0) (ai (.int 0))) (ah (au bJ (ag 0) (ai (.int 1))) aG))) (ai (.ba))))
noncomputable def AJ:aV:=
  bL (dr (fh (d9 (bb (b4 sL (ah (ag 0) aG)))) (fh (d9 (bb (b4 pq (ah (au bJ (ag 0) (ai (.int 0))) aG)))) (d9 (bb (b4 pq (ah (au bJ (ag 0) (ai (.int 1))) aG)))))) (b6 (ai (.aB false))) dI) G3
noncomputable def pl:b8:=fnOf 1 1 AJ
theorem Ui(T:Txt P w K I):bM P w K I base "is_hall" ["thing"] 18 (bQ K I pl):=by
 show bM P w K I base _ _ _ (bQ K I (fnOf 1 1 AJ));refine dW (k:=17) T.BE aaB rfl rfl fun f bU A outer s H E ay=>?_
 refine di.un ?_;refine bN ?_ (bR ?_)
 ·exact(dO (fo.c3 (g6 (eL (dZ (cN (JF T) (ay.mono (by omega)) rfl (aq (aw 0) aO)))) (g6 (eL (dZ (cN (C7 T) (ay.mono (by omega)) rfl (aq (cF cD cB (aw 0) aU) aO)))) (j6 (eL (dZ (cN (C7 T) (ay.mono (by omega)) rfl (aq (cF cD cB (aw 0) aU) aO)))))))) (bR (cf hu)) dY)
 ·exact(cf (ib s7 rN (cN (Uy T) (ay.mono (by omega)) rfl (aq (cF cD cB (aw 0) aU) (aq (cF cD cB (aw 0) aU) aO))) i9 (iG _)))
noncomputable def PY:aV:=
  (b6 (cb nO (ah (hF 1 [] (pd (ag 0)) fF (au (m7 false) (ag 0) (ai (.str "abcdefghijklmnopqrstuvwxyz")))) aG)))
noncomputable def G4:aV:=
  bL (dr (fh (d9 (bb (cb gk (ah (ag 0) (ah (ai (.ty "str")) aG))))) (d9 (bb (d1 oLe oLe (ai (.int 1)) (cb k6 (ah (ag 0) aG)) (ai (.int 8)))))) (b6 (ai (.aB false))) dI) PY
noncomputable def yD:b8:=fnOf 1 1 G4
theorem Ul(T:Txt P w K I):bM P w K I base "is_name" ["thing"] 1 (bQ K I yD):=by
 show bM P w K I base _ _ _ (bQ K I (fnOf 1 1 G4));refine dW (k:=0) T.BH aaE rfl rfl fun f bU A outer s H E ay=>?_
 refine di.un ?_;refine bN ?_ (bR ?_)
 ·exact(dO (fo.c3 (g6 (eL (dZ (c' (h4 T.kt) h8 rfl T.B.isinstance ha (aq (aw 0) (aq (fG (hR (v:=.ty "str") rfl T.B.tp rV rfl) fun _ _=>rfl) aO))))) (j6 (eL (v' hP hE hP hE aU (c' r1 sy rfl T.B.len eE (aq (aw 0) aO)) (fG (od rfl T.CO) fun _ _=>rfl)))))) (bR (cf hu)) dY)
 ·exact(cf (c' (xk rfl) yq rfl T.B.all xf (aq (kJ (esc:=(b_ zj)) (EN:=["thing"]) (N:=["sign"]) (n:=1) (cap:=[]) ⟨rfl,by decide +kernel,by decide +kernel,by decide +kernel,by decide +kernel,rfl,by decide +kernel⟩ (by decide) (Gk (aw 0)) rfl (fun _ _ _ _=>⟨aiz rfl,rfl⟩) (fun _ _ _ _=>pX) (fun _ _ _ _=>(ib YB PS (aw 0) (fG (od rfl T.CR) fun _ _=>rfl) rfl))) aO)))
noncomputable def w3:aV:=
  (b6 (rZ qM (ag 0)))
noncomputable def pk:b8:=fnOf 1 1 w3
theorem Ug(T:Txt P w K I):bM P w K I base "form_of" ["word"] 1 (bQ K I pk):=by
 show bM P w K I base _ _ _ (bQ K I (fnOf 1 1 w3));refine dW (k:=0) T.BB aay rfl rfl fun f bU A outer s H E ay=>?_
 refine di.un ?_;refine bR ?_
 ·exact(cf (OE T.DP rfl (aw 0)))
noncomputable def oN(self:dE):dF:=
  (dU (fI (cT 3 (rZ h9 (gV (ag 0) (eX (ag 1)) (eX (au es (ag 1) (ai (.int 1))))))))
  (dU (fX (bb (au n' (ag 3) (ai (.ba)))) (ja "NoText" (ah (ai (.str "a rule begins with a figure")) aG)) gy)
  (dU (fX (bb (au eT (gV (ag 0) (eX (au es (ag 1) (ai (.int 1)))) (eX (au es (ag 1) (ai (.int 2))))) (ai (.str "(")))) (fI (b6 (eF (ah (ag 3) (ah (au es (ag 1) (ai (.int 1))) aG))))) gy)
  (dU (fX (bb (au oEq (ag 2) (ai (.int 0)))) (ja "NoText" (ah (ai (.str "the rule is too deep")) aG)) gy)
  (dU (p1 4 self (ah (ag 0) (ah (au es (ag 1) (ai (.int 2))) (ah (au ob (ag 2) (ai (.int 1))) aG))))
  (fI (b6 (eF (ah (eF (ah (ag 3) (ah (au bJ (ag 4) (ai (.int 0))) aG))) (ah (au bJ (ag 4) (ai (.int 1))) aG))))))))))
noncomputable def t2(self:dE):dF:=
  (dU (fI (mC 3 (dM aG)))
  (dU (fI (cT 4 (ai (.str " "))))
  (dU (we (bb (au oEq (ag 4) (ai (.str " ")))) (dU (p1 5 self (ah (ag 0) (ah (ag 1) (ah (ag 2) aG))))
  (dU (fI (kh 3 mf (ah (au bJ (ag 5) (ai (.int 0))) aG)))
  (dU (fI (cT 4 (gV (ag 0) (eX (au bJ (ag 5) (ai (.int 1)))) (eX (au es (au bJ (ag 5) (ai (.int 1))) (ai (.int 1)))))))
  (fI (cT 1 (au es (au bJ (ag 5) (ai (.int 1))) (ai (.int 1)))))))))
  (dU (fX (bb (au eT (ag 4) (ai (.str ")")))) (ja "NoText" (ah (ai (.str "parts stand with one blank between")) aG)) gy)
  (fI (b6 (eF (ah (cb nP (ah (ag 3) aG)) (ah (ag 1) aG)))))))))
mutual
noncomputable def kA:Nat->dE
 |0=>fun _=>bad
 |n+1=>d4 3 5 (oN (sP n))
noncomputable def sP:Nat->dE
 |0=>fun _=>bad
 |n+1=>d4 3 6 (t2 (kA n))
end
theorem JQ(T:Txt P w K I):∀n,eN P w K I base "rule_at" ["text","place","deep"] (n+1) (e4 K I (kA (n)))/\eN P w K I base "parts_at" ["text","place","deep"] (n+1) (e4 K I (sP (n)))
 | 0=>⟨IJ T.xN (by rintro ar H Q E ⟨O,ds,r,aJ,_,_,h,_⟩;cases h),IJ T.xI (by rintro ar H Q E ⟨O,ds,r,aJ,_,_,h,_⟩;cases h)⟩
 |n+1=>by
  obtain⟨uY,uZ⟩:=JQ T n;constructor
  ·show eN P w K I base _ _ _ (e4 K I (d4 3 5 (oN (sP n))))
   have bk:=uZ;refine(nU (k:=n+1) T.xN FY rfl rfl fun f bU A outer s H E ay L=>?_).mono (by omega);have a_:=ay.units;exact(eM (hX (c7 (i:=3) FY.bW rfl (.inl rfl) (OE T.yt rfl (nh (aw 0) (ig (aw 1)) (ig (bH fV fL (aw 1) aU))))))
  (eM (ih (dq s7 rN (aw 3) i9) (fj (lF T.j7 rfl rfl L (aq bl aO))) ij)
  (eM (ih (dq (lu a_) kT (nh (aw 0) (ig (bH fV fL (aw 1) aU)) (ig (bH fV fL (aw 1) aU))) bl) (fj (hX (cf (fH (aq (aw 3) (aq (bH fV fL (aw 1) aU) aO)))))) ij)
  (eM (ih (dq (eU a_) eR (aw 2) aU) (fj (lF T.j7 rfl rfl L (aq bl aO))) ij)
  (eM (Gv (i:=4) bk (ay.mono (by omega)) rfl L FY.bW rfl (.inl rfl) (aq (aw 0) (aq (bH fV fL (aw 1) aU) (aq (bH s9 rP (aw 2) aU) aO))))
  (fj (hX (cf (fH (aq (fH (aq (aw 3) (aq (cF cD cB (aw 4) aU) aO))) (aq (cF cD cB (aw 4) aU) aO)))))))))))
  ·show eN P w K I base _ _ _ (e4 K I (d4 3 6 (t2 (kA n))))
   have bk:=uY;refine(nU (k:=n+1) T.xI tl rfl rfl fun f bU A outer s H E ay L=>?_).mono (by omega);have a_:=ay.units;exact(eM (hX (v_ (i:=3) tl.bW rfl (.inl rfl) (eg aO)))
  (eM (hX (c7 (i:=4) tl.bW rfl (.inl rfl) bl))
  (eM (acT (by exact PassesOwn.leaving) (dq (eU a_) eR (aw 4) bl) (eM (Gv (i:=5) bk (ay.mono (by omega)) rfl L tl.bW rfl (.inl rfl) (aq (aw 0) (aq (aw 1) (aq (aw 2) aO))))
  (eM (hX (rt (i:=3) aiA aiB pC sH (aq (cF cD cB (aw 5) aU) aO) rfl (.inl rfl)))
  (eM (hX (c7 (i:=4) tl.bW rfl (.inl rfl) (nh (aw 0) (ig (cF cD cB (aw 5) aU)) (ig (bH fV fL (cF cD cB (aw 5) aU) aU)))))
  (fj (hX (c7 (i:=1) tl.bW rfl (.inl rfl) (bH fV fL (cF cD cB (aw 5) aU) aU))))))))
  (eM (ih (dq (lu a_) kT (aw 4) bl) (fj (lF T.j7 rfl rfl L (aq bl aO))) ij)
  (fj (hX (cf (fH (aq (ro xl yr rfl T.B.tuple' jk (aq (aw 3) aO)) (aq (aw 1) aO))))))))))
theorem UD(T:Txt P w K I)(n:Nat):eN P w K I base "rule_at" ["text","place","deep"] (n+1) (e4 K I (kA (n))):=(JQ T n).1
noncomputable def Bh:dF:=
  (dU (p1 1 (kA 12) (ah (ag 0) (ah (ai (.int 0)) (ah (ai (.int 4)) aG))))
  (dU (fX (fh (bb (au eT (au bJ (ag 1) (ai (.int 1))) (cb k6 (ah (ag 0) aG)))) (d9 (bb (b4 pq (ah (au bJ (ag 1) (ai (.int 0))) aG))))) (ja "NoText" (ah (ai (.str "the text writes no rule")) aG)) gy)
  (fI (b6 (au bJ (ag 1) (ai (.int 0)))))))
noncomputable def gP:dE:=d4 1 2 Bh
theorem uL(T:Txt P w K I):eN P w K I base "read_rule" ["text"] 17 (e4 K I gP):=by
 show eN P w K I base _ _ _ (e4 K I (d4 1 2 Bh));refine nU (k:=16) T.xK ND rfl rfl fun f bU A outer s H E ay L=>?_
 have a_:=ay.units;exact(eM (Gv (i:=1) (UD T 12) (ay.mono (by omega)) rfl L ND.bW rfl (.inl rfl) (aq (aw 0) (aq aU (aq (fG (od rfl T.x2) fun _ _=>rfl) aO))))
  (eM (ih (fo.c3 (g6 (dq (lu a_) kT (cF cD cB (aw 1) aU) (c' r1 sy rfl T.B.len eE (aq (aw 0) aO))) (j6 (eL (dZ (cN (C7 T) (ay.mono (by omega)) rfl (aq (cF cD cB (aw 1) aU) aO))))))) (fj (lF T.j7 rfl rfl L (aq bl aO))) ij)
  (fj (hX (cf (cF cD cB (aw 1) aU))))))
noncomputable def Bg:dF:=
  (dU (fI (cT 1 (jF k7 (ag 0) (ah (ai (.str " / ")) aG))))
  (dU (fX (bb (au eT (cb d3 (ah (ag 1) aG)) (ai (.int 2)))) (ja "NoText" (ah (ai (.str "a hall is written as two rules")) aG)) gy)
  (dU (wd 2 (rv gP (ah (au bJ (ag 1) (ai (.int 0))) aG) (rv gP (ah (au bJ (ag 1) (ai (.int 1))) aG) Gy)))
  (dU (fX (d9 (bb (b4 pl (ah (ag 2) aG)))) (ja "NoText" (ah (ai (.str "the two rules part")) aG)) gy)
  (fI (b6 (ag 2)))))))
noncomputable def iZ:dE:=d4 1 3 Bg
theorem Dg(T:Txt P w K I):eN P w K I base "read_hall" ["text"] 19 (e4 K I iZ):=by
 show eN P w K I base _ _ _ (e4 K I (d4 1 3 Bg));refine nU (k:=18) T.xJ FX rfl rfl fun f bU A outer s H E ay L=>?_
 have a_:=ay.units;exact(eM (hX (c7 (i:=1) FX.bW rfl (.inl rfl) (rp alC alD Lw H5 Md (aw 0) (aq bl aO))))
  (eM (ih (dq (lu a_) kT (c' fp fq rfl T.B.len eE (aq (aw 1) aO)) aU) (fj (lF T.j7 rfl rfl L (aq bl aO))) ij)
  (eM (acS (i:=2) FX.bW rfl (.inl rfl) (OX (uL T) (ay.mono (by omega)) (by exact rfl) L (aq (cF cD cB (aw 1) aU) aO) (OX (uL T) (ay.mono (by omega)) (by exact rfl) L (aq (cF cD cB (aw 1) aU) aO) acU)))
  (eM (ih (eL (dZ (cN (Ui T) (ay.mono (by omega)) rfl (aq (aw 2) aO)))) (fj (lF T.j7 rfl rfl L (aq bl aO))) ij)
  (fj (hX (cf (aw 2))))))))
noncomputable def HK:dF:=
  (dU (fX (fh (d9 (bb (d1 oLe oLe (ai (.int 1)) (cb k6 (ah (ag 0) aG)) (ai (.int 60))))) (d9 (bb (cb nO (ah (hF 1 [] (pd (ag 0)) fF (oQ false h9 (ag 0))) aG))))) (ja "NoText" (ah (ai (.str "a number is written by one to sixty figures")) aG)) gy)
  (dU (fX (i7 (bb (jF mK (ag 0) (ah (ai (.str "0")) aG))) (bb (au eT (ag 0) (ai (.str "0"))))) (ja "NoText" (ah (ai (.str "no 0 stands ahead")) aG)) gy)
  (fI (b6 (cb ur (ah (ag 0) aG))))))
noncomputable def ll:dE:=d4 1 1 HK
theorem Df(T:Txt P w K I):eN P w K I base "read_fence" ["text"] 1 (e4 K I ll):=by
 show eN P w K I base _ _ _ (e4 K I (d4 1 1 HK));refine nU (k:=0) T.B8 aaU rfl rfl fun f bU A outer s H E ay L=>?_
 have a_:=ay.units;exact(eM (ih (fo.c3 (g6 (eL (v' hP hE hP hE aU (c' r1 sy rfl T.B.len eE (aq (aw 0) aO)) (fG (od rfl T.CN) fun _ _=>rfl))) (j6 (eL (dZ (c' (xk rfl) yq rfl T.B.all xf (aq (kJ (esc:=(b_ zu)) (EN:=["text"]) (N:=["sign"]) (n:=1) (cap:=[]) ⟨rfl,by decide +kernel,by decide +kernel,by decide +kernel,by decide +kernel,rfl,by decide +kernel⟩ (by decide) (Gk (aw 0)) rfl (fun _ _ _ _=>⟨aiz rfl,rfl⟩) (fun _ _ _ _=>pX) (fun _ _ _ _=>(acj T.yt rfl (aw 0)))) aO))))))) (fj (lF T.j7 rfl rfl L (aq bl aO))) ij)
  (eM (ih (fo.c3 (ru (dZ (rp akL akM Lx H6 Me (aw 0) (aq bl aO))) (wa (dq (lu a_) kT (aw 0) bl)))) (fj (lF T.j7 rfl rfl L (aq bl aO))) ij)
  (fj (hX (cf (ro QU We rfl T.B.DH Bk (aq (aw 0) aO)))))))
noncomputable def HM:dF:=
  (dU (fX (d9 (bb (jF mK (ag 0) (ah (ai (.str "-")) aG)))) (pZ ll (ah (ag 0) aG)) gy)
  (dU (fX (bb (au oEq (ag 0) (ai (.str "-0")))) (ja "NoText" (ah (ai (.str "0 is written without a sign")) aG)) gy)
  (p0 (qn i1 (qo ll (ah (gV (ag 0) (eX (ai (.int 1))) gI) aG))))))
noncomputable def lp:dE:=d4 1 1 HM
theorem UB(T:Txt P w K I):eN P w K I base "read_number" ["text"] 2 (e4 K I lp):=by
 show eN P w K I base _ _ _ (e4 K I (d4 1 1 HM));refine nU (k:=1) T.B_ aaW rfl rfl fun f bU A outer s H E ay L=>?_
 have a_:=ay.units;exact(eM (ih (eL (dZ (rp akL akM Lx H6 Me (aw 0) (aq bl aO)))) (fj (wb (Df T) (ay.mono (by omega)) rfl L (aq (aw 0) aO))) ij)
  (eM (ih (dq (eU a_) eR (aw 0) bl) (fj (lF T.j7 rfl rfl L (aq bl aO))) ij)
  (fj (OW (acn (OF (Df T) (ay.mono (by omega)) (by exact rfl) L.pass (aq (nh (aw 0) (ig aU) lE) aO)))))))
noncomputable def HL:dF:=
  (dU (fX (d9 (bb (b4 yD (ah (ag 0) aG)))) (ja "NoText" (ah (ai (.str "a name has one to eight small letters")) aG)) gy)
  (fI (b6 (ag 0))))
noncomputable def yJ:dE:=d4 1 1 HL
theorem UA(T:Txt P w K I):eN P w K I base "read_name" ["text"] 2 (e4 K I yJ):=by
 show eN P w K I base _ _ _ (e4 K I (d4 1 1 HL));refine nU (k:=1) T.B9 aaV rfl rfl fun f bU A outer s H E ay L=>?_
 exact(eM (ih (eL (dZ (cN (Ul T) (ay.mono (by omega)) rfl (aq (aw 0) aO)))) (fj (lF T.j7 rfl rfl L (aq bl aO))) ij)
  (fj (hX (cf (aw 0)))))
noncomputable def HN:dF:=
  (dU (fX (bb (au oEq (ag 0) (ai (.str "name")))) (pZ yJ (ah (ag 1) aG)) gy)
  (dU (fX (bb (au oEq (ag 0) (ai (.str "number")))) (pZ lp (ah (ag 1) aG)) gy)
  (dU (fX (bb (au oEq (ag 0) (ai (.str "fence")))) (pZ ll (ah (ag 1) aG)) gy)
  (pZ iZ (ah (ag 1) aG)))))
noncomputable def n4:dE:=d4 2 2 HN
theorem UC(T:Txt P w K I):eN P w K I base "read_part" ["kind","text"] 20 (e4 K I n4):=by
 show eN P w K I base _ _ _ (e4 K I (d4 2 2 HN));refine nU (k:=19) T.B' aaX rfl rfl fun f bU A outer s H E ay L=>?_
 have a_:=ay.units;exact(eM (ih (dq (eU a_) eR (aw 0) bl) (fj (wb (UA T) (ay.mono (by omega)) rfl L (aq (aw 1) aO))) ij)
  (eM (ih (dq (eU a_) eR (aw 0) bl) (fj (wb (UB T) (ay.mono (by omega)) rfl L (aq (aw 1) aO))) ij)
  (eM (ih (dq (eU a_) eR (aw 0) bl) (fj (wb (Df T) (ay.mono (by omega)) rfl L (aq (aw 1) aO))) ij)
  (fj (wb (Dg T) (ay.mono (by omega)) rfl L (aq (aw 1) aO))))))
noncomputable def HJ:aV:=
  (b6 (jF k7 (ag 1) (ah (ai (.str " ")) aG)))
noncomputable def xb:aV:=
  bL (dr (bb (au oEq (ag 0) (eF (ah (ai (.str "hall")) aG)))) (b6 (dM (ah (ag 1) aG))) dI) HJ
noncomputable def sQ:b8:=fnOf 2 2 xb
theorem Uz(T:Txt P w K I):bM P w K I base "pieces_of" ["form","rest"] 1 (bQ K I sQ):=by
 show bM P w K I base _ _ _ (bQ K I (fnOf 2 2 xb));refine dW (k:=0) T.B7 aaT rfl rfl fun f bU A outer s H E ay=>?_
 have a_:=ay.units;refine di.un ?_;refine bN ?_ (bR ?_)
 ·exact(dO (dq (eU a_) eR (aw 0) (fH (aq bl aO))) (bR (cf (eg (aq (aw 1) aO)))) dY)
 ·exact(cf (rp alC alD Lw H5 Md (aw 1) (aq bl aO)))
noncomputable def rR:dF:=
  (dU (fX (bb (au oEq (ag 0) (ai (.str "glance")))) (fI (b6 (ai (.ba)))) gy)
  (dU (fI (cT 1 (jF qr (ag 0) (ah (ai (.str " ")) aG))))
  (dU (fI (cT 2 (au bJ (ag 1) (ai (.int 0)))))
  (dU (fI (cT 3 (b4 pk (ah (ag 2) aG))))
  (dU (fX (bb (au n' (ag 3) (ai (.ba)))) (ja "NoText" (ah (ai (.str "no wish begins so")) aG)) gy)
  (dU (fI (cT 4 (qe (bb (au oEq (au bJ (ag 1) (ai (.int 1))) (ai (.str " ")))) (b4 sQ (ah (ag 3) (ah (au bJ (ag 1) (ai (.int 2))) aG))) (dM aG))))
  (dU (fX (bb (au eT (cb d3 (ah (ag 4) aG)) (cb d3 (ah (ag 3) aG)))) (ja "NoText" (ah (ai (.str "a wish has just its parts, with one blank between")) aG)) gy)
  (p0 (r_ nP (r9 iH (dM (ah (ag 2) aG)) (r' [] (ah (ag 3) (ah (ag 4) aG)) (qo n4 (ah (ag 0) (ah (ag 1) aG))))))))))))))
noncomputable def ju:dE:=d4 1 5 rR
theorem Dh(T:Txt P w K I):eN P w K I base "read_wish" ["text"] 21 (e4 K I ju):=by
 show eN P w K I base _ _ _ (e4 K I (d4 1 5 rR));refine nU (k:=20) T.xM vH rfl rfl fun f bU A outer s H E ay L=>?_
 have a_:=ay.units;exact(eM (ih (dq (eU a_) eR (aw 0) bl) (fj (hX (cf i9))) ij)
  (eM (hX (c7 (i:=1) vH.bW rfl (.inl rfl) (rp PySem.F.slot_str_partition PySem.F.type_str_partition XD QI YI (aw 0) (aq bl aO))))
  (eM (hX (c7 (i:=2) vH.bW rfl (.inl rfl) (cF cD cB (aw 1) aU)))
  (eM (hX (c7 (i:=3) vH.bW rfl (.inl rfl) (cN (Ug T) (ay.mono (by omega)) rfl (aq (aw 2) aO))))
  (eM (ih (dq s7 rN (aw 3) i9) (fj (lF T.j7 rfl rfl L (aq bl aO))) ij)
  (eM (hX (c7 (i:=4) vH.bW rfl (.inl rfl) (ach (dq (eU a_) eR (cF cD cB (aw 1) aU) bl) (cN (Uz T) (ay.mono (by omega)) rfl (aq (aw 3) (aq (cF cD cB (aw 1) aU) aO))) (eg aO))))
  (eM (ih (dq (lu a_) kT (c' fp fq rfl T.B.len eE (aq (aw 4) aO)) (c' fp fq rfl T.B.len eE (aq (aw 3) aO))) (fj (lF T.j7 rfl rfl L (aq bl aO))) ij)
  (fj (OW (ack xl yr rfl T.B.tuple' jk (aco l6 my (eg (aq (aw 2) aO)) (acm WV (esc:=(b_ zv)) (EN:=["text","found","word","form","pieces"]) (N:=["kind","piece"]) (cap:=[]) ⟨rfl,by decide +kernel,by decide +kernel,by decide +kernel,by decide +kernel,rfl,by decide +kernel⟩ rfl T.B.zip (aq (aw 3) (aq (aw 4) aO)) rfl rfl (fun _ _ _ _=>⟨aiz rfl,rfl⟩) (fun _ _ _ _=>⟨aiz rfl,rfl⟩) (fun _ _ _ _=>(OF (UC T) (ay.mono (by omega)) (by exact rfl) YV (aq (aw 0) (aq (aw 1) aO))))))))))))))))
noncomputable def Hc:aV:=
  (b6 (ai (.int 0)))
noncomputable def AQ:aV:=
  bL (dr (bb (au oLt (ag 1) (cb d3 (ah (ag 0) aG)))) (b6 (au bJ (ag 0) (ag 1))) dI) Hc
noncomputable def m1:b8:=fnOf 2 2 AQ
theorem si(T:Txt P w K I):bM P w K I base "_law_cell_at" ["script","k"] 1 (bQ K I m1):=by
 show bM P w K I base _ _ _ (bQ K I (fnOf 2 2 AQ));refine dW (k:=0) T.BP aaK rfl rfl fun f bU A outer s H E ay=>?_
 refine di.un ?_;refine bN ?_ (bR ?_)
 ·exact(dO (dq EE AF (aw 1) (c' fp fq rfl T.B.len eE (aq (aw 0) aO))) (bR (cf (cF cD cB (aw 0) (aw 1)))) dY)
 ·exact(cf aU)
noncomputable def Ba:aV:=
  (b6 (kV (cb gk (ah (ag 0) (ah (ai (.ty "int")) aG))) (rY (cb gk (ah (ag 0) (ah (ai (.ty "bool")) aG))))))
noncomputable def lZ:b8:=fnOf 1 1 Ba
theorem Dc(T:Txt P w K I):bM P w K I base "_law_whole" ["found"] 1 (bQ K I lZ):=by
 show bM P w K I base _ _ _ (bQ K I (fnOf 1 1 Ba));refine dW (k:=0) T.B0 aaR rfl rfl fun f bU A outer s H E ay=>?_
 refine di.un ?_;refine bR ?_
 ·exact(cf (oo (c' (h4 T.kt) h8 rfl T.B.isinstance ha (aq (aw 0) (aq (fG (hR (v:=.ty "int") rfl T.B.DH Bk rfl) fun _ _=>rfl) aO))) (ot (Gn (c' (h4 T.kt) h8 rfl T.B.isinstance ha (aq (aw 0) (aq (fG (hR (v:=.ty "bool") rfl T.B.H7 H9 rfl) fun _ _=>rfl) aO)))))))
noncomputable def DU:aV:=
  (bL (t8 6 0 v3 aG)
  (bL (kh 3 mf (ah (au bJ (ag 6) (ai (.int 0))) aG))
  (bL (cT 4 (cb Jb (ah (ag 4) (ah (au bJ (ag 6) (ai (.int 1))) aG))))
  (cT 5 (au es (ag 5) (au bJ (ag 6) (ai (.int 2))))))))
noncomputable def AZ:aV:=
  (dr (bb (au n9 (cb d3 (ah (ag 3) aG)) (ai (.int 0)))) (kh 0 mf (ah (eF (ah (eF (ah (au es (ai (.int 1)) (au oMod (ag 2) (cb d3 (ah (ag 3) aG)))) (ah (cb nP (ah (ag 3) aG)) aG))) (ah (au es (ag 4) (ai (.int 1))) (ah (ag 5) aG)))) aG)) dI)
noncomputable def Qo:aV:=
  bL (ub (i7 (bb (au n9 (cb d3 (ah (ag 0) aG)) (ai (.int 0)))) (i7 (bb (au oLt (cb d3 (ah (ag 3) aG)) (ag 1))) (i7 (bb (au oLt (au bJ (au bJ (ag 0) (cy i1 (ai (.int 1)))) (ai (.int 1))) (ai (.int 4)))) (bb (au oLe (au es (ag 5) (au bJ (au bJ (ag 0) (cy i1 (ai (.int 1)))) (ai (.int 2)))) (ai (.int 12))))))) DU) AZ
noncomputable def Qn:aV:=
  bL (cT 5 (ai (.int 0))) Qo
noncomputable def Qm:aV:=
  bL (cT 4 (ai (.int 0))) Qn
noncomputable def AY:aV:=
  bL (mC 3 (dM aG)) Qm
noncomputable def vb:p6:=nR 3 7 AY
theorem JL(T:Txt P w K I):bM P w K I base "_law_joined" ["stack","most","need"] 1 (vL K I vb):=by
 show bM P w K I base _ _ _ (vL K I (nR 3 7 AY));refine VP (k:=0) T.BR rb rfl rfl fun f bU A outer s H E ay=>?_
 refine di.un ?_;refine bN ?_ (bN ?_ (bN ?_ (bN ?_ (bR ?_))))
 ·exact(v_ (i:=3) rb.bW rfl (.inl rfl) (eg aO))
 ·exact(c7 (i:=4) rb.bW rfl (.inl rfl) aU)
 ·exact(c7 (i:=5) rb.bW rfl (.inl rfl) aU)
 ·exact(acO aih (fo.c3 (ru (dq y3 w1 (c' fp fq rfl T.B.len eE (aq (aw 0) aO)) aU) (ru (dq EE AF (c' fp fq rfl T.B.len eE (aq (aw 3) aO)) (aw 1)) (ru (dq EE AF (cF cD cB (cF cD cB (aw 0) (Gm aU)) aU) aU) (wa (dq hP hE (bH fV fL (aw 5) (cF cD cB (cF cD cB (aw 0) (Gm aU)) aU)) aU)))))) (bN (acL PySem.F.slot_list_pop PySem.F.type_list_pop XE Xi rfl (.inl rfl) rb.bW rfl (.inl rfl))
  (bN (rt (i:=3) aiA aiB pC sH (aq (cF cD cB (aw 6) aU) aO) rfl (.inl rfl))
  (bN (c7 (i:=4) rb.bW rfl (.inl rfl) (c' (Ig rfl) Kv rfl T.B.max H_ (aq (aw 4) (aq (cF cD cB (aw 6) aU) aO))))
  (bR (c7 (i:=5) rb.bW rfl (.inl rfl) (bH fV fL (aw 5) (cF cD cB (aw 6) aU))))))))
 ·exact(dO (dq y3 w1 (c' fp fq rfl T.B.len eE (aq (aw 3) aO)) aU) (bR (rt (i:=0) aiA aiB pC sH (aq (fH (aq (fH (aq (bH fV fL aU (bH eI eD (aw 2) (c' fp fq rfl T.B.len eE (aq (aw 3) aO)))) (aq (ro xl yr rfl T.B.tuple' jk (aq (aw 3) aO)) aO))) (aq (bH fV fL (aw 4) aU) (aq (aw 5) aO)))) aO) rfl (.inl rfl))) dY)
noncomputable def yx:aV:=
  (dr (bb (au oEq (au oMod (ag 2) (ai (.int 4))) (ai (.int 0)))) (rW 1 vb (ah (au es (ai (.int 1)) (au oMod (au gs (ag 2) (ai (.int 4))) (ai (.int 6)))) (ah (au oMod (au gs (ag 2) (ai (.int 24))) (ai (.int 60))) aG))) (kh 1 mf (ah (eF (ah (au oMod (au gs (ag 2) (ai (.int 4))) (ai (.int 6))) (ah (ai (.int 0)) (ah (ai (.int 1)) aG)))) aG)))
noncomputable def QA:aV:=
  (b6 (au bJ (au bJ (ag 1) (cy i1 (ai (.int 1)))) (ai (.int 0))))
noncomputable def A9:aV:=
  bL (dr (bb (au oEq (cb d3 (ah (ag 1) aG)) (ai (.int 0)))) (b6 (ai (.int 0))) dI) QA
noncomputable def Ho:aV:=
  bL (dr (bb (au n9 (cb d3 (ah (ag 1) aG)) (ai (.int 1)))) (rW 1 vb (ah (ai (.int 6)) (ah (au oMod (au gs (au bJ (ag 0) (ai (.int 0))) (ai (.int 4))) (ai (.int 60))) aG))) dI) A9
noncomputable def Qz:aV:=
  bL (iT 2 (pb (ag 0)) yx) Ho
noncomputable def A8:aV:=
  bL (mC 1 (dM aG)) Qz
noncomputable def yE:b8:=fnOf 1 3 A8
theorem Ut(T:Txt P w K I):bM P w K I base "_law_rule" ["cells"] 2 (bQ K I yE):=by
 show bM P w K I base _ _ _ (bQ K I (fnOf 1 3 A8));refine dW (k:=1) T.BX FR rfl rfl fun f bU A outer s H E ay=>?_
 have a_:=ay.units;refine di.un ?_;refine bN ?_ (bN ?_ (bN ?_ (bN ?_ (bR ?_))))
 ·exact(v_ (i:=1) FR.bW rfl (.inl rfl) (eg aO))
 ·exact(mi (i:=2) aih rfl (v9 (aw 0)) FR.bW rfl (.inl rfl) (bR (dO (dq (eU a_) eR (bH eI eD (aw 2) aU) aU) (bR (OV (i:=1) (JL T) (ay.mono (by omega)) rfl (aq (bH fV fL aU (bH eI eD (bH i2 iS (aw 2) aU) aU)) (aq (bH eI eD (bH i2 iS (aw 2) aU) aU) aO)) rfl (.inl rfl))) (bR (rt (i:=1) aiA aiB pC sH (aq (fH (aq (bH eI eD (bH i2 iS (aw 2) aU) aU) (aq aU (aq aU aO)))) aO) rfl (.inl rfl))))))
 ·exact(dO (dq y3 w1 (c' fp fq rfl T.B.len eE (aq (aw 1) aO)) aU) (bR (OV (i:=1) (JL T) (ay.mono (by omega)) rfl (aq aU (aq (bH eI eD (bH i2 iS (cF cD cB (aw 0) aU) aU) aU) aO)) rfl (.inl rfl))) dY)
 ·exact(dO (dq (eU a_) eR (c' fp fq rfl T.B.len eE (aq (aw 1) aO)) aU) (bR (cf aU)) dY)
 ·exact(cf (cF cD cB (cF cD cB (aw 1) (Gm aU)) aU))
noncomputable def Hb:aV:=
  (b6 (au bJ (dM (ah (ai (.int 1)) (ah (ai (.int 2)) (ah (ai (.int 4)) (ah (ai (.int 8)) (ah (ai (.int 16)) (ah (ai (.int 32)) aG))))))) (ag 0)))
noncomputable def D8:b8:=fnOf 1 1 Hb
theorem Un(T:Txt P w K I):bM P w K I base "_law_bit" ["k"] 1 (bQ K I D8):=by
 show bM P w K I base _ _ _ (bQ K I (fnOf 1 1 Hb));refine dW (k:=0) T.BO aaJ rfl rfl fun f bU A outer s H E ay=>?_
 refine di.un ?_;refine bR ?_
 ·exact(cf (cF cD cB (eg (aq aU (aq aU (aq aU (aq aU (aq aU (aq aU aO))))))) (aw 0)))
noncomputable def Hd(self:b8):aV:=
  (b6 (au q1 (cb d3 (ah (hF 1 [1] (jP (au bJ (ag 0) (ai (.int 1)))) (bb (b4 self (ah (ag 0) (ah (ag 1) aG)))) (ag 0)) aG)) (au bJ (ag 0) (ai (.int 0)))))
noncomputable def w6(self:b8):aV:=
  bL (dr (d9 (bb (cb gk (ah (ag 0) (ah (ai (.ty "tuple")) aG))))) (b6 (au oEq (au oMod (au gs (ag 1) (b4 D8 (ah (ag 0) aG))) (ai (.int 2))) (ai (.int 1)))) dI) (Hd self)
noncomputable def m2:Nat->b8
 |0=>fun _=>bad
 |n+1=>fnOf 2 2 (w6 (m2 n))
theorem C8(T:Txt P w K I):∀n,bM P w K I base "_law_filled" ["rule","mask"] (n+2) (bQ K I (m2 n))
 | 0=>T.xA.none (by rintro ar H Q E ⟨O,ds,r,aJ,_,_,h,_⟩;cases h)|n+1=>by
  have bk:bM P w K I base "_law_filled" ["rule","mask"] (n+2) (bQ K I (m2 n)):=C8 T n;show bM P w K I base _ _ _ (bQ K I (fnOf 2 2 (w6 (m2 n))));refine(dW (k:=n+2) T.xA aaM rfl rfl fun f bU A outer s H E ay=>?_).mono (by omega);have a_:=ay.units;refine di.un ?_;refine bN ?_ (bR ?_)
  ·exact(dO (eL (dZ (c' (h4 T.kt) h8 rfl T.B.isinstance ha (aq (aw 0) (aq (fG (hR (v:=.ty "tuple") rfl T.B.tuple' jk rfl) fun _ _=>rfl) aO))))) (bR (cf (ib (eU a_) eR (bH eI eD (bH i2 iS (aw 1) (cN (Un T) (ay.mono (by omega)) rfl (aq (aw 0) aO))) aU) aU (iG _)))) dY)
  ·exact(cf (ib y2 w0 (c' fp fq rfl T.B.len eE (aq (kJ (esc:=(b_ zo)) (EN:=["rule","mask"]) (N:=["part","mask"]) (n:=1) (cap:=[1]) ⟨rfl,by decide +kernel,by decide +kernel,by decide +kernel,by decide +kernel,rfl,by decide +kernel⟩ (by decide) (v8 (cF cD cB (aw 0) aU)) rfl (fun _ _ _ _=>⟨aiz rfl,rfl⟩) (fun _ _ _ _=>(tv (dZ (cN bk (ay.mono (by omega)) rfl (aq (aw 0) (aq (aw 1) aO)))))) (fun _ _ _ _=>(aw 0))) aO)) (cF cD cB (aw 0) aU) (iG _)))
noncomputable def P'(self:b8):aV:=
  (b6 (eF (ah (au es (au ob (cb d3 (ah (au bJ (ag 0) (ai (.int 1))) aG)) (au bJ (ag 0) (ai (.int 0)))) (ai (.int 1))) (ah (cb nP (ah (hF 1 [] (jP (au bJ (ag 0) (ai (.int 1)))) fF (b4 self (ah (ag 0) aG))) aG)) aG))))
noncomputable def AR(self:b8):aV:=
  bL (dr (d9 (bb (cb gk (ah (ag 0) (ah (ai (.ty "tuple")) aG))))) (b6 (ag 0)) dI) (P' self)
noncomputable def pv:Nat->b8
 |0=>fun _=>bad
 |n+1=>fnOf 1 1 (AR (pv n))
theorem JI(T:Txt P w K I):∀n,bM P w K I base "_law_dual" ["rule"] (n+1) (bQ K I (pv n))
 | 0=>T.xx.none (by rintro ar H Q E ⟨O,ds,r,aJ,_,_,h,_⟩;cases h)|n+1=>by
  have bk:bM P w K I base "_law_dual" ["rule"] (n+1) (bQ K I (pv n)):=JI T n;show bM P w K I base _ _ _ (bQ K I (fnOf 1 1 (AR (pv n))));refine(dW (k:=n+1) T.xx aaL rfl rfl fun f bU A outer s H E ay=>?_).mono (by omega);refine di.un ?_;refine bN ?_ (bR ?_)
  ·exact(dO (eL (dZ (c' (h4 T.kt) h8 rfl T.B.isinstance ha (aq (aw 0) (aq (fG (hR (v:=.ty "tuple") rfl T.B.tuple' jk rfl) fun _ _=>rfl) aO))))) (bR (cf (aw 0))) dY)
  ·exact(cf (fH (aq (bH fV fL (bH s9 rP (c' fp fq rfl T.B.len eE (aq (cF cD cB (aw 0) aU) aO)) (cF cD cB (aw 0) aU)) aU) (aq (ro xl yr rfl T.B.tuple' jk (aq (kJ (esc:=(b_ zm)) (EN:=["rule"]) (N:=["part"]) (n:=1) (cap:=[]) ⟨rfl,by decide +kernel,by decide +kernel,by decide +kernel,by decide +kernel,rfl,by decide +kernel⟩ (by decide) (v8 (cF cD cB (aw 0) aU)) rfl (fun _ _ _ _=>⟨aiz rfl,rfl⟩) (fun _ _ _ _=>pX) (fun _ _ _ _=>(cN bk (ay.mono (by omega)) rfl (aq (aw 0) aO)))) aO)) aO))))
noncomputable def Qc(self:b8):aV:=
  (b6 (eF (ah (au bJ (ag 0) (ai (.int 0))) (ah (au sW (au sW (oP (au bJ (ag 0) (ai (.int 1))) gI (eX (ag 2))) (eF (ah (b4 self (ah (au bJ (au bJ (ag 0) (ai (.int 1))) (ag 2)) (ah (au gs (ag 1) (ai (.int 12))) aG))) aG))) (oP (au bJ (ag 0) (ai (.int 1))) (eX (au es (ag 2) (ai (.int 1)))) gI)) aG))))
noncomputable def Qb(self:b8):aV:=
  bL (cT 2 (au oMod (au gs (ag 1) (ai (.int 2))) (cb d3 (ah (au bJ (ag 0) (ai (.int 1))) aG)))) (Qc self)
noncomputable def Qa(self:b8):aV:=
  bL (dr (bb (au oEq (au oMod (ag 1) (ai (.int 2))) (ai (.int 0)))) (b6 (eF (ah (au es (ai (.int 1)) (au oMod (au gs (ag 1) (ai (.int 2))) (cb d3 (ah (au bJ (ag 0) (ai (.int 1))) aG)))) (ah (au bJ (ag 0) (ai (.int 1))) aG)))) dI) (Qb self)
noncomputable def w5(self:b8):aV:=
  bL (dr (d9 (bb (cb gk (ah (ag 0) (ah (ai (.ty "tuple")) aG))))) (b6 (ag 0)) dI) (Qa self)
noncomputable def sM:Nat->b8
 |0=>fun _=>bad
 |n+1=>fnOf 2 3 (w5 (sM n))
theorem JJ(T:Txt P w K I):∀n,bM P w K I base "_law_eased" ["rule","cell"] (n+1) (bQ K I (sM n))
 | 0=>T.xy.none (by rintro ar H Q E ⟨O,ds,r,aJ,_,_,h,_⟩;cases h)|n+1=>by
  have bk:bM P w K I base "_law_eased" ["rule","cell"] (n+1) (bQ K I (sM n)):=JJ T n;show bM P w K I base _ _ _ (bQ K I (fnOf 2 3 (w5 (sM n))));refine(dW (k:=n+1) T.xy Ny rfl rfl fun f bU A outer s H E ay=>?_).mono (by omega);have a_:=ay.units;refine di.un ?_;refine bN ?_ (bN ?_ (bN ?_ (bR ?_)))
  ·exact(dO (eL (dZ (c' (h4 T.kt) h8 rfl T.B.isinstance ha (aq (aw 0) (aq (fG (hR (v:=.ty "tuple") rfl T.B.tuple' jk rfl) fun _ _=>rfl) aO))))) (bR (cf (aw 0))) dY)
  ·exact(dO (dq (eU a_) eR (bH eI eD (aw 1) aU) aU) (bR (cf (fH (aq (bH fV fL aU (bH eI eD (bH i2 iS (aw 1) aU) (c' fp fq rfl T.B.len eE (aq (cF cD cB (aw 0) aU) aO)))) (aq (cF cD cB (aw 0) aU) aO))))) dY)
  ·exact(c7 (i:=2) Ny.bW rfl (.inl rfl) (bH eI eD (bH i2 iS (aw 1) aU) (c' fp fq rfl T.B.len eE (aq (cF cD cB (aw 0) aU) aO))))
  ·exact(cf (fH (aq (cF cD cB (aw 0) aU) (aq (bH L' GW (bH L' GW (Gp (cF cD cB (aw 0) aU) lE (ig (aw 2))) (fH (aq (cN bk (ay.mono (by omega)) rfl (aq (cF cD cB (cF cD cB (aw 0) aU) (aw 2)) (aq (bH i2 iS (aw 1) aU) aO))) aO))) (Gp (cF cD cB (aw 0) aU) (ig (bH fV fL (aw 2) aU)) lE)) aO))))
noncomputable def yw:aV:=
  (dr (i7 (bb (b4 (m2 12) (ah (ag 0) (ah (ag 2) aG)))) (bb (b4 (m2 12) (ah (ag 1) (ah (au ob (ai (.int 63)) (ag 2)) aG))))) (b6 (ai (.aB false))) dI)
noncomputable def Hk:aV:=
  (b6 (ai (.aB true)))
noncomputable def A6:aV:=
  bL (iT 2 (lh (ah (ai (.int 64)) aG)) yw) Hk
noncomputable def sO:b8:=fnOf 2 3 A6
theorem JN(T:Txt P w K I):bM P w K I base "_law_meet" ["one","other"] 15 (bQ K I sO):=by
 show bM P w K I base _ _ _ (bQ K I (fnOf 2 3 A6));refine dW (k:=14) T.BU NB rfl rfl fun f bU A outer s H E ay=>?_
 refine di.un ?_;refine bN ?_ (bR ?_)
 ·exact(mi (i:=2) aih rfl (Gq rfl T.B.range (aq aU aO)) NB.bW rfl (.inl rfl) (bR (dO (fo.c3 (ru (dZ (cN (C8 T 12) (ay.mono (by omega)) rfl (aq (aw 0) (aq (aw 2) aO)))) (wa (dZ (cN (C8 T 12) (ay.mono (by omega)) rfl (aq (aw 1) (aq (bH s9 rP aU (aw 2)) aO))))))) (bR (cf hu)) dY)))
 ·exact(cf hu)
noncomputable def qN(self:b8):aV:=
  (bL (cT 4 (b4 self (ah (ag 3) aG)))
  (bL (dr (bb (au n' (ag 4) (ai (.ba)))) (b6 (ai (.ba))) dI)
  (bL (cT 1 (cb Jb (ah (ag 1) (ah (au es (au bJ (ag 4) (ai (.int 0))) (ai (.int 1))) aG))))
  (cT 2 (au es (ag 2) (au bJ (ag 4) (ai (.int 1))))))))
noncomputable def Hj(self:b8):aV:=
  (b6 (eF (ah (ag 1) (ah (ag 2) aG))))
noncomputable def A5(self:b8):aV:=
  bL (iT 3 (jP (au bJ (ag 0) (ai (.int 1)))) (qN self)) (Hj self)
noncomputable def A4(self:b8):aV:=
  bL (cT 2 (ai (.int 0))) (A5 self)
noncomputable def A3(self:b8):aV:=
  bL (cT 1 (ai (.int 1))) (A4 self)
noncomputable def A2(self:b8):aV:=
  bL (dr (fh (d9 (bb (b4 lZ (ah (au bJ (ag 0) (ai (.int 0))) aG)))) (fh (d9 (bb (d1 oLe oLe (ai (.int 1)) (au bJ (ag 0) (ai (.int 0))) (cb d3 (ah (au bJ (ag 0) (ai (.int 1))) aG))))) (bb (au n9 (cb d3 (ah (au bJ (ag 0) (ai (.int 1))) aG)) (ai (.int 6)))))) (b6 (ai (.ba))) dI) (A3 self)
noncomputable def w_(self:b8):aV:=
  bL (dr (fh (d9 (bb (cb gk (ah (ag 0) (ah (ai (.ty "tuple")) aG))))) (fh (bb (au eT (cb d3 (ah (ag 0) aG)) (ai (.int 2)))) (d9 (bb (cb gk (ah (au bJ (ag 0) (ai (.int 1))) (ah (ai (.ty "tuple")) aG))))))) (b6 (ai (.ba))) dI) (A2 self)
noncomputable def w9(self:b8):aV:=
  bL (dr (bb (b4 lZ (ah (ag 0) aG))) (bL (dr (bb (d1 oLe oLe (ai (.int 0)) (ag 0) (ai (.int 5)))) (b6 (eF (ah (ai (.int 0)) (ah (ai (.int 1)) aG)))) dI)
  (b6 (ai (.ba)))) dI) (w_ self)
noncomputable def m3:Nat->b8
 |0=>fun _=>bad
 |n+1=>fnOf 1 5 (w9 (m3 n))
theorem JM(T:Txt P w K I):∀n,bM P w K I base "_law_measure" ["thing"] (n+2) (bQ K I (m3 n))
 | 0=>T.xF.none (by rintro ar H Q E ⟨O,ds,r,aJ,_,_,h,_⟩;cases h)|n+1=>by
  have bk:bM P w K I base "_law_measure" ["thing"] (n+2) (bQ K I (m3 n)):=JM T n;show bM P w K I base _ _ _ (bQ K I (fnOf 1 5 (w9 (m3 n))));refine(dW (k:=n+2) T.xF rd rfl rfl fun f bU A outer s H E ay=>?_).mono (by omega);have a_:=ay.units;refine di.un ?_;refine bN ?_ (bN ?_ (bN ?_ (bN ?_ (bN ?_ (bN ?_ (bR ?_))))))
  ·exact(dO (dZ (cN (Dc T) (ay.mono (by omega)) rfl (aq (aw 0) aO))) (bN (dO (v' hP hE hP hE aU (aw 0) aU) (bR (cf (fH (aq aU (aq aU aO))))) dY)
  (bR (cf i9))) dY)
  ·exact(dO (fo.c3 (g6 (eL (dZ (c' (h4 T.kt) h8 rfl T.B.isinstance ha (aq (aw 0) (aq (fG (hR (v:=.ty "tuple") rfl T.B.tuple' jk rfl) fun _ _=>rfl) aO))))) (g6 (dq (lu a_) kT (c' fp fq rfl T.B.len eE (aq (aw 0) aO)) aU) (j6 (eL (dZ (c' (h4 T.kt) h8 rfl T.B.isinstance ha (aq (cF cD cB (aw 0) aU) (aq (fG (hR (v:=.ty "tuple") rfl T.B.tuple' jk rfl) fun _ _=>rfl) aO))))))))) (bR (cf i9)) dY)
  ·exact(dO (fo.c3 (g6 (eL (dZ (cN (Dc T) (ay.mono (by omega)) rfl (aq (cF cD cB (aw 0) aU) aO)))) (g6 (eL (v' hP hE hP hE aU (cF cD cB (aw 0) aU) (c' fp fq rfl T.B.len eE (aq (cF cD cB (aw 0) aU) aO)))) (j6 (dq y3 w1 (c' fp fq rfl T.B.len eE (aq (cF cD cB (aw 0) aU) aO)) aU))))) (bR (cf i9)) dY)
  ·exact(c7 (i:=1) rd.bW rfl (.inl rfl) aU)
  ·exact(c7 (i:=2) rd.bW rfl (.inl rfl) aU)
  ·exact(mi (i:=3) aih rfl (Gr (cF cD cB (aw 0) aU)) rd.bW rfl (.inl rfl) (bN (c7 (i:=4) rd.bW rfl (.inl rfl) (cN bk (ay.mono (by omega)) rfl (aq (aw 3) aO)))
  (bN (dO (dq s7 rN (aw 4) i9) (bR (cf i9)) dY)
  (bN (c7 (i:=1) rd.bW rfl (.inl rfl) (c' (Ig rfl) Kv rfl T.B.max H_ (aq (aw 1) (aq (bH fV fL (cF cD cB (aw 4) aU) aU) aO))))
  (bR (c7 (i:=2) rd.bW rfl (.inl rfl) (bH fV fL (aw 2) (cF cD cB (aw 4) aU))))))))
  ·exact(cf (fH (aq (aw 1) (aq (aw 2) aO))))
noncomputable def Hg:aV:=
  (b6 (kV (au vl (ag 1) (ai (.ba))) (kV (au oLe (au bJ (ag 1) (ai (.int 0))) (ai (.int 4))) (au oLe (au bJ (ag 1) (ai (.int 1))) (ai (.int 12))))))
noncomputable def AV:aV:=
  bL (cT 1 (b4 (m3 12) (ah (ag 0) aG))) Hg
noncomputable def pz:b8:=fnOf 1 2 AV
theorem C_(T:Txt P w K I):bM P w K I base "_law_is_rule" ["thing"] 15 (bQ K I pz):=by
 show bM P w K I base _ _ _ (bQ K I (fnOf 1 2 AV));refine dW (k:=14) T.xD Nz rfl rfl fun f bU A outer s H E ay=>?_
 refine di.un ?_;refine bN ?_ (bR ?_)
 ·exact(c7 (i:=1) Nz.bW rfl (.inl rfl) (cN (JM T 12) (ay.mono (by omega)) rfl (aq (aw 0) aO)))
 ·exact(cf (oo (ib Mb GY (aw 1) i9 (iG _)) (oo (ib hP hE (cF cD cB (aw 1) aU) aU (iG _)) (ot (ib hP hE (cF cD cB (aw 1) aU) aU (iG _))))))
noncomputable def Hp(self:b8):aV:=
  (b6 (au hl (au hl (au hl (cb uu (ah (au bJ (ag 0) (ai (.int 0))) aG)) (ai (.str "("))) (jF oZ (ai (.str " ")) (ah (hF 1 [] (jP (au bJ (ag 0) (ai (.int 1)))) fF (b4 self (ah (ag 0) aG))) aG))) (ai (.str ")"))))
noncomputable def w'(self:b8):aV:=
  bL (dr (d9 (bb (cb gk (ah (ag 0) (ah (ai (.ty "tuple")) aG))))) (b6 (cb uu (ah (ag 0) aG))) dI) (Hp self)
noncomputable def jQ:Nat->b8
 |0=>fun _=>bad
 |n+1=>fnOf 1 1 (w' (jQ n))
theorem uK(T:Txt P w K I):∀n,bM P w K I base "_law_rule_text" ["rule"] (n+1) (bQ K I (jQ n))
 | 0=>T.uf.none (by rintro ar H Q E ⟨O,ds,r,aJ,_,_,h,_⟩;cases h)|n+1=>by
  have bk:bM P w K I base "_law_rule_text" ["rule"] (n+1) (bQ K I (jQ n)):=uK T n;show bM P w K I base _ _ _ (bQ K I (fnOf 1 1 (w' (jQ n))));refine(dW (k:=n+1) T.uf aaQ rfl rfl fun f bU A outer s H E ay=>?_).mono (by omega);refine di.un ?_;refine bN ?_ (bR ?_)
  ·exact(dO (eL (dZ (c' (h4 T.kt) h8 rfl T.B.isinstance ha (aq (aw 0) (aq (fG (hR (v:=.ty "tuple") rfl T.B.tuple' jk rfl) fun _ _=>rfl) aO))))) (bR (cf (ro Bn Kx rfl T.B.tp rV (aq (aw 0) aO)))) dY)
  ·exact(cf (bH kC ke (bH kC ke (bH kC ke (ro Bn Kx rfl T.B.tp rV (aq (cF cD cB (aw 0) aU) aO)) bl) (rp alJ alK Lv H4 Mc bl (aq (kJ (esc:=(b_ zr)) (EN:=["rule"]) (N:=["part"]) (n:=1) (cap:=[]) ⟨rfl,by decide +kernel,by decide +kernel,by decide +kernel,by decide +kernel,rfl,by decide +kernel⟩ (by decide) (v8 (cF cD cB (aw 0) aU)) rfl (fun _ _ _ _=>⟨aiz rfl,rfl⟩) (fun _ _ _ _=>pX) (fun _ _ _ _=>(cN bk (ay.mono (by omega)) rfl (aq (aw 0) aO)))) aO))) bl))
noncomputable def AS:aV:=
  (b6 (au hl (au hl (b4 (jQ 12) (ah (au bJ (ag 0) (ai (.int 0))) aG)) (ai (.str " / "))) (b4 (jQ 12) (ah (au bJ (ag 0) (ai (.int 1))) aG))))
noncomputable def pw:b8:=fnOf 1 1 AS
theorem C9(T:Txt P w K I):bM P w K I base "_law_hall_text" ["hall"] 14 (bQ K I pw):=by
 show bM P w K I base _ _ _ (bQ K I (fnOf 1 1 AS));refine dW (k:=13) T.xB aaN rfl rfl fun f bU A outer s H E ay=>?_
 refine di.un ?_;refine bR ?_
 ·exact(cf (bH kC ke (bH kC ke (cN (uK T 12) (ay.mono (by omega)) rfl (aq (cF cD cB (aw 0) aU) aO)) bl) (cN (uK T 12) (ay.mono (by omega)) rfl (aq (cF cD cB (aw 0) aU) aO))))
noncomputable def ph:aV:=
  (dr (bb (cb gk (ah (ag 2) (ah (ai (.ty "tuple")) aG)))) (kh 1 mf (ah (b4 pw (ah (ag 2) aG)) aG)) (kh 1 mf (ah (cb uv (ah (ag 2) aG)) aG)))
noncomputable def Hy:aV:=
  (b6 (jF oZ (ai (.str " ")) (ah (ag 1) aG)))
noncomputable def Hx:aV:=
  bL (iT 2 (jP (ua (ag 0) (eX (ai (.int 1))) gI)) ph) Hy
noncomputable def Hw:aV:=
  bL (mC 1 (dM (ah (au bJ (ag 0) (ai (.int 0))) aG))) Hx
noncomputable def tY:aV:=
  bL (dr (bb (au n' (ag 0) (ai (.ba)))) (b6 (ai (.str "glance"))) dI) Hw
noncomputable def l0:b8:=fnOf 1 3 tY
theorem JO(T:Txt P w K I):bM P w K I base "_law_wish_text" ["deed"] 15 (bQ K I l0):=by
 show bM P w K I base _ _ _ (bQ K I (fnOf 1 3 tY));refine dW (k:=14) T.xG FV rfl rfl fun f bU A outer s H E ay=>?_
 refine di.un ?_;refine bN ?_ (bN ?_ (bN ?_ (bR ?_)))
 ·exact(dO (dq s7 rN (aw 0) i9) (bR (cf bl)) dY)
 ·exact(v_ (i:=1) FV.bW rfl (.inl rfl) (eg (aq (cF cD cB (aw 0) aU) aO)))
 ·exact(mi (i:=2) aih rfl (Gr (OD (aw 0) (ig aU) lE)) FV.bW rfl (.inl rfl) (bR (dO (dZ (c' (h4 T.kt) h8 rfl T.B.isinstance ha (aq (aw 2) (aq (fG (hR (v:=.ty "tuple") rfl T.B.tuple' jk rfl) fun _ _=>rfl) aO)))) (bR (rt (i:=1) aiA aiB pC sH (aq (cN (C9 T) (ay.mono (by omega)) rfl (aq (aw 2) aO)) aO) rfl (.inl rfl))) (bR (rt (i:=1) aiA aiB pC sH (aq (ro QY Wf rfl T.B.tp rV (aq (aw 2) aO)) aO) rfl (.inl rfl))))))
 ·exact(cf (rp alJ alK Lv H4 Mc bl (aq (aw 1) aO)))
noncomputable def DV:aV:=
  (dr (bb (au oEq (ag 4) (ag 2))) (cT 3 (au hl (ag 3) (au bJ (ai (.str "abcdefghijklmnopqrstuvwxyz")) (au oMod (au gs (ag 0) (ai (.int 64))) (ai (.int 26)))))) (cT 3 (au hl (ag 3) (ai (.str "m")))))
noncomputable def Qr:aV:=
  (b6 (ag 3))
noncomputable def Qq:aV:=
  bL (iT 4 (lh (ah (ag 1) aG)) DV) Qr
noncomputable def Qp:aV:=
  bL (cT 3 (ai (.str ""))) Qq
noncomputable def Hm:aV:=
  bL (cT 2 (au oMod (au gs (ag 0) (ai (.int 8))) (ag 1))) Qp
noncomputable def Hl:aV:=
  bL (cT 1 (au es (ai (.int 1)) (au oMod (ag 0) (ai (.int 8))))) Hm
noncomputable def D9:b8:=fnOf 1 5 Hl
theorem Ur(T:Txt P w K I):bM P w K I base "_law_name" ["cell"] 1 (bQ K I D9):=by
 show bM P w K I base _ _ _ (bQ K I (fnOf 1 5 Hl));refine dW (k:=0) T.BV rf rfl rfl fun f bU A outer s H E ay=>?_
 have a_:=ay.units;refine di.un ?_;refine bN ?_ (bN ?_ (bN ?_ (bN ?_ (bR ?_))))
 ·exact(c7 (i:=1) rf.bW rfl (.inl rfl) (bH fV fL aU (bH eI eD (aw 0) aU)))
 ·exact(c7 (i:=2) rf.bW rfl (.inl rfl) (bH eI eD (bH i2 iS (aw 0) aU) (aw 1)))
 ·exact(c7 (i:=3) rf.bW rfl (.inl rfl) bl)
 ·exact(mi (i:=4) aih rfl (Gq rfl T.B.range (aq (aw 1) aO)) rf.bW rfl (.inl rfl) (bR (dO (dq (eU a_) eR (aw 4) (aw 2)) (bR (c7 (i:=3) rf.bW rfl (.inl rfl) (bH kC ke (aw 3) (cF cD cB bl (bH eI eD (bH i2 iS (aw 0) aU) aU))))) (bR (c7 (i:=3) rf.bW rfl (.inl rfl) (bH kC ke (aw 3) bl))))))
 ·exact(cf (aw 3))
noncomputable def He:aV:=
  (b6 (b4 sO (ah (au bJ (ag 0) (ai (.int 0))) (ah (au bJ (ag 0) (ai (.int 1))) aG))))
noncomputable def AU:aV:=
  bL (dr (fh (d9 (bb (cb gk (ah (ag 0) (ah (ai (.ty "tuple")) aG))))) (fh (bb (au eT (cb d3 (ah (ag 0) aG)) (ai (.int 2)))) (fh (d9 (bb (b4 pz (ah (au bJ (ag 0) (ai (.int 0))) aG)))) (d9 (bb (b4 pz (ah (au bJ (ag 0) (ai (.int 1))) aG))))))) (b6 (ai (.aB false))) dI) He
noncomputable def qU:b8:=fnOf 1 1 AU
theorem JK(T:Txt P w K I):bM P w K I base "_law_is_hall" ["thing"] 16 (bQ K I qU):=by
 show bM P w K I base _ _ _ (bQ K I (fnOf 1 1 AU));refine dW (k:=15) T.xC aaO rfl rfl fun f bU A outer s H E ay=>?_
 have a_:=ay.units;refine di.un ?_;refine bN ?_ (bR ?_)
 ·exact(dO (fo.c3 (g6 (eL (dZ (c' (h4 T.kt) h8 rfl T.B.isinstance ha (aq (aw 0) (aq (fG (hR (v:=.ty "tuple") rfl T.B.tuple' jk rfl) fun _ _=>rfl) aO))))) (g6 (dq (lu a_) kT (c' fp fq rfl T.B.len eE (aq (aw 0) aO)) aU) (g6 (eL (dZ (cN (C_ T) (ay.mono (by omega)) rfl (aq (cF cD cB (aw 0) aU) aO)))) (j6 (eL (dZ (cN (C_ T) (ay.mono (by omega)) rfl (aq (cF cD cB (aw 0) aU) aO))))))))) (bR (cf hu)) dY)
 ·exact(cf (cN (JN T) (ay.mono (by omega)) rfl (aq (cF cD cB (aw 0) aU) (aq (cF cD cB (aw 0) aU) aO))))
noncomputable def Qf:aV:=
  (b6 (t9 (au oEq (ag 1) (ai (.str "number"))) (au q1 (ag 0) (ai (.int 0)))))
noncomputable def Qe:aV:=
  bL (dr (fh (d9 (bb (b4 lZ (ah (ag 0) aG)))) (bb (au q1 (cb qq (ah (ag 0) aG)) (au oa (ai (.int 10)) (ai (.int 60)))))) (b6 (ai (.aB false))) dI) Qf
noncomputable def Qd:aV:=
  bL (dr (bb (au oEq (ag 1) (ai (.str "name")))) (bL (dr (fh (d9 (bb (cb gk (ah (ag 0) (ah (ai (.ty "str")) aG))))) (d9 (bb (d1 oLe oLe (ai (.int 1)) (cb k6 (ah (ag 0) aG)) (ai (.int 8)))))) (b6 (ai (.aB false))) dI)
  (b6 (au oEq (cb d3 (ah (hF 1 [] (pd (ag 0)) (bb (au (m7 true) (ag 0) (ai (.str "abcdefghijklmnopqrstuvwxyz")))) (ag 0)) aG)) (ai (.int 0))))) dI) Qe
noncomputable def Hf:aV:=
  bL (dr (bb (au oEq (ag 1) (ai (.str "hall")))) (b6 (b4 qU (ah (ag 0) aG))) dI) Qd
noncomputable def px:b8:=fnOf 2 2 Hf
theorem Uo(T:Txt P w K I):bM P w K I base "_law_is_part" ["thing","kind"] 17 (bQ K I px):=by
 show bM P w K I base _ _ _ (bQ K I (fnOf 2 2 Hf));refine dW (k:=16) T.BQ aaP rfl rfl fun f bU A outer s H E ay=>?_
 have a_:=ay.units;refine di.un ?_;refine bN ?_ (bN ?_ (bN ?_ (bR ?_)))
 ·exact(dO (dq (eU a_) eR (aw 1) bl) (bR (cf (cN (JK T) (ay.mono (by omega)) rfl (aq (aw 0) aO)))) dY)
 ·exact(dO (dq (eU a_) eR (aw 1) bl) (bN (dO (fo.c3 (g6 (eL (dZ (c' (h4 T.kt) h8 rfl T.B.isinstance ha (aq (aw 0) (aq (fG (hR (v:=.ty "str") rfl T.B.tp rV rfl) fun _ _=>rfl) aO))))) (j6 (eL (v' hP hE hP hE aU (c' r1 sy rfl T.B.len eE (aq (aw 0) aO)) aU))))) (bR (cf hu)) dY)
  (bR (cf (ib (eU a_) eR (c' fp fq rfl T.B.len eE (aq (kJ (esc:=(b_ zp)) (EN:=["thing","kind"]) (N:=["sign"]) (n:=1) (cap:=[]) ⟨rfl,by decide +kernel,by decide +kernel,by decide +kernel,by decide +kernel,rfl,by decide +kernel⟩ (by decide) (Gk (aw 0)) rfl (fun _ _ _ _=>⟨aiz rfl,rfl⟩) (fun _ _ _ _=>(tv (dq YC PT (aw 0) bl rfl))) (fun _ _ _ _=>(aw 0))) aO)) aU (iG _))))) dY)
 ·exact(dO (fo.c3 (g6 (eL (dZ (cN (Dc T) (ay.mono (by omega)) rfl (aq (aw 0) aO)))) (j6 (dq y2 w0 (c' Ie Kw rfl T.B.abs H8 (aq (aw 0) aO)) (bH s8 rO aU aU))))) (bR (cf hu)) dY)
 ·exact(cf (aci (ib (eU a_) eR (aw 1) bl (iG _)) (ot (ib y2 w0 (aw 0) aU (iG _)))))
noncomputable def Hi:aV:=
  (b6 (cb nO (ah (t7 [] (ah (ua (ag 0) (eX (ai (.int 1))) gI) (ah (au q0 (ag 1) (au bJ (ag 0) (ai (.int 0)))) aG)) fF (b4 px (ah (ag 0) (ah (ag 1) aG)))) aG)))
noncomputable def AX:aV:=
  bL (dr (fh (bb (au (sX true) (au bJ (ag 0) (ai (.int 0))) (ag 1))) (bb (au eT (cb d3 (ah (ag 0) aG)) (au es (ai (.int 1)) (cb d3 (ah (au q0 (ag 1) (au bJ (ag 0) (ai (.int 0)))) aG)))))) (b6 (ai (.aB false))) dI) Hi
noncomputable def Ql:aV:=
  bL (nH 1 (ai (.str "end")) (dM aG)) AX
noncomputable def Qk:aV:=
  bL (nH 1 (ai (.str "move")) (dM (ah (ai (.str "hall")) aG))) Ql
noncomputable def Qj:aV:=
  bL (nH 1 (ai (.str "sure")) (dM (ah (ai (.str "fence")) (ah (ai (.str "name")) (ah (ai (.str "number")) aG))))) Qk
noncomputable def Qi:aV:=
  bL (nH 1 (ai (.str "free")) (dM (ah (ai (.str "fence")) aG))) Qj
noncomputable def Qh:aV:=
  bL (nH 1 (ai (.str "renew")) (dM (ah (ai (.str "fence")) aG))) Qi
noncomputable def Qg:aV:=
  bL (nH 1 (ai (.str "take")) (dM (ah (ai (.str "fence")) aG))) Qh
noncomputable def AW:aV:=
  bL (xi 1 (zR [.inr "put",.inr "add",.inr "swap"] (tr (ts (dM (ah (ai (.str "name")) (ah (ai (.str "number")) aG)))) (tr (ts (dM (ah (ai (.str "name")) (ah (ai (.str "number")) aG)))) (tr (ts (dM (ah (ai (.str "name")) (ah (ai (.str "number")) (ah (ai (.str "number")) aG))))) zS))))) Qg
noncomputable def Hh:aV:=
  bL (dr (fh (d9 (bb (cb gk (ah (ag 0) (ah (ai (.ty "tuple")) aG))))) (fh (bb (au oEq (cb d3 (ah (ag 0) aG)) (ai (.int 0)))) (d9 (bb (cb gk (ah (au bJ (ag 0) (ai (.int 0))) (ah (ai (.ty "str")) aG))))))) (b6 (ai (.aB false))) dI) AW
noncomputable def w7:aV:=
  bL (dr (bb (au n' (ag 0) (ai (.ba)))) (b6 (ai (.aB true))) dI) Hh
noncomputable def pA:b8:=fnOf 1 2 w7
theorem Up(T:Txt P w K I):bM P w K I base "_law_is_wish" ["thing"] 18 (bQ K I pA):=by
 show bM P w K I base _ _ _ (bQ K I (fnOf 1 2 w7));refine dW (k:=17) T.xE NA rfl rfl fun f bU A outer s H E ay=>?_
 have a_:=ay.units;refine di.un ?_;refine bN ?_ (bN ?_ (bN ?_ (bN ?_ (bN ?_ (bN ?_ (bN ?_ (bN ?_ (bN ?_ (bN ?_ (bR ?_))))))))))
 ·exact(dO (dq s7 rN (aw 0) i9) (bR (cf hu)) dY)
 ·exact(dO (fo.c3 (g6 (eL (dZ (c' (h4 T.kt) h8 rfl T.B.isinstance ha (aq (aw 0) (aq (fG (hR (v:=.ty "tuple") rfl T.B.tuple' jk rfl) fun _ _=>rfl) aO))))) (g6 (dq (eU a_) eR (c' fp fq rfl T.B.len eE (aq (aw 0) aO)) aU) (j6 (eL (dZ (c' (h4 T.kt) h8 rfl T.B.isinstance ha (aq (cF cD cB (aw 0) aU) (aq (fG (hR (v:=.ty "str") rfl T.B.tp rV rfl) fun _ _=>rfl) aO))))))))) (bR (cf hu)) dY)
 ·exact(acK (j:=1) NA.bW rfl (.inl rfl) (acR (Gl (Gu (eg (aq bl (aq bl aO)))) (Gl (Gu (eg (aq bl (aq bl aO)))) (Gl (Gu (eg (aq bl (aq bl (aq bl aO))))) acb)))))
 ·exact(tw (j:=1) a_ rfl (.inl rfl) bl (eg (aq bl aO)))
 ·exact(tw (j:=1) a_ rfl (.inl rfl) bl (eg (aq bl aO)))
 ·exact(tw (j:=1) a_ rfl (.inl rfl) bl (eg (aq bl aO)))
 ·exact(tw (j:=1) a_ rfl (.inl rfl) bl (eg (aq bl (aq bl (aq bl aO)))))
 ·exact(tw (j:=1) a_ rfl (.inl rfl) bl (eg (aq bl aO)))
 ·exact(tw (j:=1) a_ rfl (.inl rfl) bl (eg aO))
 ·exact(dO (fo.c3 (g6 (acP a_ (cF cD cB (aw 0) aU) (aw 1)) (j6 (dq (lu a_) kT (c' fp fq rfl T.B.len eE (aq (aw 0) aO)) (bH fV fL aU (c' fp fq rfl T.B.len eE (aq (OC a_ (aw 1) (cF cD cB (aw 0) aU)) aO))))))) (bR (cf hu)) dY)
 ·exact(cf (c' (xk rfl) yq rfl T.B.all xf (aq (acg (esc:=(b_ zq)) (EN:=["thing","forms"]) (N:=["part","kind"]) (cap:=[]) ⟨rfl,by decide +kernel,by decide +kernel,by decide +kernel,by decide +kernel,rfl,by decide +kernel⟩ rfl T.B.zip (aq (OD (aw 0) (ig aU) lE) (aq (OC a_ (aw 1) (cF cD cB (aw 0) aU)) aO)) rfl rfl (fun _ _ _ _=>⟨aiz rfl,rfl⟩) (fun _ _ _ _=>⟨aiz rfl,rfl⟩) (fun _ _ _ _=>pX) (fun _ _ _ _=>(cN (Uo T) (ay.mono (by omega)) rfl (aq (aw 0) (aq (aw 1) aO))))) aO)))
noncomputable abbrev qt:List (Str×dE):=[("read_wish",ju),("read_rule",gP),("read_hall",iZ)]
noncomputable def A1:aV:=
  (b6 (ag 2))
noncomputable def A0:aV:=
  bL (xj 0 3 2 qt (ah (ag 1) aG) [("NoText",[true,true,false,false])]) A1
noncomputable def w8:aV:=
  bL (cT 2 (dM aG)) A0
noncomputable def sN:b8:=fnOf 2 4 w8
theorem Uq(T:Txt P w K I):bM P w K I base "_law_kinds" ["read","text"] 22 (bQ K I sN):=by
 show bM P w K I base _ _ _ (bQ K I (fnOf 2 4 w8));refine dW (k:=21) T.BS vG rfl rfl fun f bU A outer s H E ay=>?_
 refine di.un ?_;refine bN ?_ (bN ?_ (bR ?_))
 ·exact(c7 (i:=2) vG.bW rfl (.inl rfl) (eg aO))
 ·exact(acN (j:=0) (ie:=3) (ik:=2) (k:=21) (lookup_all (by simp only[ahw];exact⟨(Dh T).mono (by omega),(uL T).mono (by omega),(Dg T).mono (by omega),fun _ h=>nomatch h⟩)) rfl (.inl rfl) (ay.mono (by omega)) rfl rfl ⟨rfl,rfl⟩ vG.bW rfl rfl (by decide) (by exact(by decide:2<4)) (aq (aw 1) aO) (Wv (by obtain⟨C,B,uE,qv,Z,av,⟨_,_,m5,gU⟩,⟨_,_,vd,a1⟩,⟨_,_,_,_,_,_,_,_,XG,XH,XI,XJ,a2⟩,⟨_,_,_,_,_,_,_,_,_,_,_,_,XK,XM,XN,XO,XP,XQ,qc⟩⟩:=T.Gx;exact⟨B,qv,fun nj T2=>by cases uE.symm.trans T2;exact⟨av,fun a c2=>(acE (by decide) vG.bW rfl (.inl rfl) (zY (ON Z m5 gU T.B.isinstance (by exact rfl) (by exact rfl) (aiz (by exact rfl)) (by exact rfl)) (zY (ON Z vd a1 T.B.isinstance (by exact rfl) (by exact rfl) (aiz (by exact rfl)) (by exact rfl)) (zY (OO Z (ni (by exact rfl) XG (ni (by exact rfl) XH (ni (by exact rfl) XI (ni (by exact rfl) XJ OQ)))) a2 (by simp) T.B.isinstance (by exact rfl) (by exact rfl) (aiz (by exact rfl))) OP))) (acF (by decide) vG.bW rfl (.inl rfl) (.inl rfl) (zY (OO Z (ni (by exact rfl) XK (ni (by exact rfl) XM (ni (by exact rfl) XN (ni (by exact rfl) XO (ni (by exact rfl) XP (ni (by exact rfl) XQ OQ)))))) qc (by simp) T.B.isinstance (by exact rfl) (by exact rfl) (aiz (by exact rfl))) OP) acG (by decide)) (by decide))⟩⟩) Wx))
 ·exact(cf (aw 2))
noncomputable abbrev se:List (Str×dE):=[("read_wish",ju),("read_rule",gP),("read_hall",iZ)]
noncomputable abbrev sd:List (Str×b8):=[("_law_is_wish",pA),("_law_is_rule",pz),("_law_is_hall",qU)]
noncomputable abbrev sf:List (Str×b8):=[("_law_wish_text",l0),("_law_rule_text",(jQ 12)),("_law_hall_text",pw)]
noncomputable def Hu:aV:=
  (b6 (kV (t6 1 sd (ah (ag 5) aG)) (au oEq (t6 2 sf (ah (ag 5) aG)) (ag 3))))
noncomputable def Ht:aV:=
  bL (cT 5 (xh 0 se (ah (ag 3) aG))) Hu
noncomputable def A':aV:=
  bL (dr (bb (au eT (ag 4) (dM aG))) (b6 (au oEq (ag 4) (dM (ah (ai (.aB true)) (ah (ai (.aB true)) (ah (ai (.aB false)) (ah (ai (.aB false)) aG))))))) dI) Ht
noncomputable def xa:aV:=
  bL (cT 4 (b4 sN (ah (ag 0) (ah (ag 3) aG)))) A'
noncomputable def qV:b8:=fnOf 4 6 xa
theorem C'(T:Txt P w K I):bM P w K I base "_law_true" ["read","judge","shown","text"] 23 (bQ K I qV):=by
 show bM P w K I base _ _ _ (bQ K I (fnOf 4 6 xa));refine dW (k:=22) T.BZ FU rfl rfl fun f bU A outer s H E ay=>?_
 have a_:=ay.units;refine di.un ?_;refine bN ?_ (bN ?_ (bN ?_ (bR ?_)))
 ·exact(c7 (i:=4) FU.bW rfl (.inl rfl) (cN (Uq T) (ay.mono (by omega)) rfl (aq (aw 0) (aq (aw 3) aO))))
 ·exact(dO (dq (lu a_) kT (aw 4) (eg aO)) (bR (cf (ib (eU a_) eR (aw 4) (eg (aq hu (aq hu (aq hu (aq hu aO))))) (iG _)))) dY)
 ·exact(c7 (i:=5) FU.bW rfl (.inl rfl) (acf (k:=21) (lookup_all (by simp only[ahw];exact⟨(Dh T).mono (by omega),(uL T).mono (by omega),(Dg T).mono (by omega),fun _ h=>nomatch h⟩)) rfl (.inl rfl) (ay.mono (by omega)) (aq (aw 3) aO)))
 ·exact(cf (oo (Oz (k:=18) (lookup_all (by simp only[ahw];exact⟨⟨_,(Up T).mono (by omega)⟩,⟨_,(C_ T).mono (by omega)⟩,⟨_,(JK T).mono (by omega)⟩,fun _ h=>nomatch h⟩)) rfl (.inl rfl) (ay.mono (by omega)) (aq (aw 5) aO)) (ot (ib (eU a_) eR (Oz (k:=15) (lookup_all (by simp only[ahw];exact⟨⟨_,(JO T).mono (by omega)⟩,⟨_,(uK T 12).mono (by omega)⟩,⟨_,(C9 T).mono (by omega)⟩,fun _ h=>nomatch h⟩)) rfl (.inl rfl) (ay.mono (by omega)) (aq (aw 5) aO)) (aw 3) (iG _)))))
noncomputable def QD:aV:=
  (b6 (au bJ (ag 5) (au oMod (ag 0) (ai (.int 10)))))
noncomputable def QC:aV:=
  bL (cT 5 (au iH (ag 5) (dM (ah (eF (ah (ai (.str "renew")) (ah (ag 4) aG))) (ah (eF (ah (ai (.str "free")) (ah (ag 4) aG))) (ah (eF (ah (ai (.str "sure")) (ah (ag 4) (ah (ag 1) (ah (ag 2) aG))))) (ah (eF (ah (ai (.str "move")) (ah (ag 3) aG))) (ah (eF (ah (ai (.str "end")) aG)) aG)))))))) QD
noncomputable def QB:aV:=
  bL (cT 5 (dM (ah (ai (.ba)) (ah (eF (ah (ai (.str "put")) (ah (ag 1) (ah (ag 2) aG)))) (ah (eF (ah (ai (.str "add")) (ah (ag 1) (ah (ag 2) aG)))) (ah (eF (ah (ai (.str "swap")) (ah (ag 1) (ah (ag 2) (ah (ag 4) aG))))) (ah (eF (ah (ai (.str "take")) (ah (ag 4) aG))) aG))))))) QC
noncomputable def Hv:aV:=
  bL (cT 4 (cb qq (ah (ag 2) aG))) QB
noncomputable def D':b8:=fnOf 4 6 Hv
theorem Uv(T:Txt P w K I):bM P w K I base "_law_wish" ["cell","name","number","hall"] 1 (bQ K I D'):=by
 show bM P w K I base _ _ _ (bQ K I (fnOf 4 6 Hv));refine dW (k:=0) T.B1 zx rfl rfl fun f bU A outer s H E ay=>?_
 refine di.un ?_;refine bN ?_ (bN ?_ (bN ?_ (bR ?_)))
 ·exact(c7 (i:=4) zx.bW rfl (.inl rfl) (c' Ie Kw rfl T.B.abs H8 (aq (aw 2) aO)))
 ·exact(c7 (i:=5) zx.bW rfl (.inl rfl) (eg (aq i9 (aq (fH (aq bl (aq (aw 1) (aq (aw 2) aO)))) (aq (fH (aq bl (aq (aw 1) (aq (aw 2) aO)))) (aq (fH (aq bl (aq (aw 1) (aq (aw 2) (aq (aw 4) aO))))) (aq (fH (aq bl (aq (aw 4) aO))) aO)))))))
 ·exact(c7 (i:=5) zx.bW rfl (.inl rfl) (bH l6 my (aw 5) (eg (aq (fH (aq bl (aq (aw 4) aO))) (aq (fH (aq bl (aq (aw 4) aO))) (aq (fH (aq bl (aq (aw 4) (aq (aw 1) (aq (aw 2) aO))))) (aq (fH (aq bl (aq (aw 3) aO))) (aq (fH (aq bl aO)) aO))))))))
 ·exact(cf (cF cD cB (aw 5) (bH eI eD (aw 0) aU)))
noncomputable def Hs:aV:=
  (b6 (au bJ (ag 1) (au oMod (au gs (ag 0) (ai (.int 2))) (cb k6 (ah (ag 1) aG)))))
noncomputable def Hr:aV:=
  bL (cT 1 (au hl (ag 1) (ai (.str "abcdefghijklmnopqrstuvwxyz{|}~\n\t")))) Hs
noncomputable def Hq:aV:=
  bL (cT 1 (ai (.str " !\"#$&'()*+,-./0123456789:;<=>?@ABCDEFGHIJKLMNOPQRSTUVWXYZ[\\]^_`"))) Hr
noncomputable def A_:aV:=
  bL (dr (bb (au oEq (au oMod (ag 0) (ai (.int 2))) (ai (.int 0)))) (b6 (au bJ (ai (.str "0123456789 ()/-")) (au oMod (au gs (ag 0) (ai (.int 2))) (ai (.int 15))))) dI) Hq
noncomputable def yF:b8:=fnOf 1 2 A_
theorem Uu(T:Txt P w K I):bM P w K I base "_law_sign" ["cell"] 1 (bQ K I yF):=by
 show bM P w K I base _ _ _ (bQ K I (fnOf 1 2 A_));refine dW (k:=0) T.BY FT rfl rfl fun f bU A outer s H E ay=>?_
 have a_:=ay.units;refine di.un ?_;refine bN ?_ (bN ?_ (bN ?_ (bR ?_)))
 ·exact(dO (dq (eU a_) eR (bH eI eD (aw 0) aU) aU) (bR (cf (cF cD cB bl (bH eI eD (bH i2 iS (aw 0) aU) aU)))) dY)
 ·exact(c7 (i:=1) FT.bW rfl (.inl rfl) bl)
 ·exact(c7 (i:=1) FT.bW rfl (.inl rfl) (bH kC ke (aw 1) bl))
 ·exact(cf (cF cD cB (aw 1) (bH eI eD (bH i2 iS (aw 0) aU) (c' r1 sy rfl T.B.len eE (aq (aw 1) aO)))))
noncomputable def P_:aV:=
  (b6 (au hl (au hl (gV (ag 0) gI (eX (ag 3))) (ag 2)) (gV (ag 0) (eX (au es (ag 3) (ai (.int 1)))) gI)))
noncomputable def P9:aV:=
  bL (dr (bb (au oEq (au oMod (ag 1) (ai (.int 3))) (ai (.int 1)))) (b6 (au hl (gV (ag 0) gI (eX (ag 3))) (gV (ag 0) (eX (au es (ag 3) (ai (.int 1)))) gI))) dI) P_
noncomputable def Ha:aV:=
  bL (dr (bb (au oEq (au oMod (ag 1) (ai (.int 3))) (ai (.int 0)))) (b6 (au hl (au hl (gV (ag 0) gI (eX (ag 3))) (ag 2)) (gV (ag 0) (eX (ag 3)) gI))) dI) P9
noncomputable def AP:aV:=
  bL (cT 3 (au oMod (au gs (ag 1) (ai (.int 3))) (au es (cb k6 (ah (ag 0) aG)) (ai (.int 1))))) Ha
noncomputable def D7:b8:=fnOf 3 4 AP
theorem Um(T:Txt P w K I):bM P w K I base "_law_bent" ["text","cell","sign"] 1 (bQ K I D7):=by
 show bM P w K I base _ _ _ (bQ K I (fnOf 3 4 AP));refine dW (k:=0) T.BN Nx rfl rfl fun f bU A outer s H E ay=>?_
 have a_:=ay.units;refine di.un ?_;refine bN ?_ (bN ?_ (bN ?_ (bR ?_)))
 ·exact(c7 (i:=3) Nx.bW rfl (.inl rfl) (bH eI eD (bH i2 iS (aw 1) aU) (bH fV fL (c' r1 sy rfl T.B.len eE (aq (aw 0) aO)) aU)))
 ·exact(dO (dq (eU a_) eR (bH eI eD (aw 1) aU) aU) (bR (cf (bH kC ke (bH kC ke (nh (aw 0) lE (ig (aw 3))) (aw 2)) (nh (aw 0) (ig (aw 3)) lE)))) dY)
 ·exact(dO (dq (eU a_) eR (bH eI eD (aw 1) aU) aU) (bR (cf (bH kC ke (nh (aw 0) lE (ig (aw 3))) (nh (aw 0) (ig (bH fV fL (aw 3) aU)) lE)))) dY)
 ·exact(cf (bH kC ke (bH kC ke (nh (aw 0) lE (ig (aw 3))) (aw 2)) (nh (aw 0) (ig (bH fV fL (aw 3) aU)) lE)))
noncomputable def A7:aV:=
  (b6 (au bJ (ag 1) (au oMod (ag 0) (cb d3 (ah (ag 1) aG)))))
noncomputable def Qy:aV:=
  bL (cT 1 (au iH (ag 1) (dM (ah (ai (.str "2(6(0 1 2 3 4 5) 6(0 1 2 3 4 5))")) (ah (ai (.str "2(6(0 1 2 3 4 5) 6(0 1 2 3 4 5) 0)")) aG))))) A7
noncomputable def Qx:aV:=
  bL (cT 1 (au iH (ag 1) (dM (ah (ai (.str "1(0 1 2 3 4 5 0)")) (ah (ai (.str "1(1(1(1(1(0)))))")) (ah (ai (.str "0 / 0 / 0")) (ah (ai (.str " / 0")) (ah (ai (.str "1(1(1(1(0))))")) (ah (ai (.str "-1")) (ah (ai (.str "none")) aG)))))))))) Qy
noncomputable def Qw:aV:=
  bL (cT 1 (au iH (ag 1) (dM (ah (ai (.str "1()")) (ah (ai (.str "0(0)")) (ah (ai (.str "2(0)")) (ah (ai (.str "1(0 )")) (ah (ai (.str "1( 0)")) (ah (ai (.str "1(0  1)")) (ah (ai (.str "1(0")) (ah (ai (.str "1(0))")) (ah (ai (.str "7(0 1 2 3 4 5 0)")) aG)))))))))))) Qx
noncomputable def Qv:aV:=
  bL (cT 1 (au iH (ag 1) (dM (ah (ai (.str "move ")) (ah (ai (.str "move 0")) (ah (ai (.str "move 0 / 1")) (ah (ai (.str "move 0/0")) (ah (ai (.str "move 0 /")) (ah (ai (.str "move 0 / 0 ")) (ah (ai (.str "move  0 / 0")) (ah (ai (.str "6")) (ah (ai (.str "10")) aG)))))))))))) Qw
noncomputable def Qu:aV:=
  bL (cT 1 (au iH (ag 1) (dM (ah (ai (.str "take -1")) (ah (ai (.str "take 01")) (ah (ai (.str "take a")) (ah (ai (.str "renew")) (ah (ai (.str "free 1 1")) (ah (ai (.str "sure 1 a")) (ah (ai (.str "sure a 1 1")) (ah (ai (.str "sure -1 a 1")) (ah (ai (.str "move")) aG)))))))))))) Qv
noncomputable def Qt:aV:=
  bL (cT 1 (au iH (ag 1) (dM (ah (ai (.str "put a 01")) (ah (ai (.str "put a +1")) (ah (ai (.str "put a 1_0")) (ah (ai (.str "put a 1\n")) (ah (ai (.str "put\ta 1")) (ah (ai (.str "swap a 1")) (ah (ai (.str "swap a 1 2 3")) (ah (ai (.str "take")) aG))))))))))) Qu
noncomputable def Qs:aV:=
  bL (cT 1 (au iH (ag 1) (dM (ah (ai (.str "put a 1 2")) (ah (ai (.str "put  a 1")) (ah (ai (.str " put a 1")) (ah (ai (.str "put a  1")) (ah (ai (.str "put A 1")) (ah (ai (.str "put 1 a")) (ah (ai (.str "put abcdefghi 1")) (ah (ai (.str "put a -0")) aG))))))))))) Qt
noncomputable def Hn:aV:=
  bL (cT 1 (dM (ah (ai (.str "")) (ah (ai (.str "Glance")) (ah (ai (.str "glance ")) (ah (ai (.str " glance")) (ah (ai (.str "glances")) (ah (ai (.str "end ")) (ah (ai (.str "END")) (ah (ai (.str "end 1")) (ah (ai (.str "put")) (ah (ai (.str "put ")) (ah (ai (.str "put a")) (ah (ai (.str "put a ")) aG)))))))))))))) Qs
noncomputable def D_:b8:=fnOf 1 2 Hn
theorem Us(T:Txt P w K I):bM P w K I base "_law_odd" ["cell"] 1 (bQ K I D_):=by
 show bM P w K I base _ _ _ (bQ K I (fnOf 1 2 Hn));refine dW (k:=0) T.BW og rfl rfl fun f bU A outer s H E ay=>?_
 refine di.un ?_;refine bN ?_ (bN ?_ (bN ?_ (bN ?_ (bN ?_ (bN ?_ (bN ?_ (bN ?_ (bR ?_))))))))
 ·exact(c7 (i:=1) og.bW rfl (.inl rfl) (eg (aq bl (aq bl (aq bl (aq bl (aq bl (aq bl (aq bl (aq bl (aq bl (aq bl (aq bl (aq bl aO))))))))))))))
 ·exact(c7 (i:=1) og.bW rfl (.inl rfl) (bH l6 my (aw 1) (eg (aq bl (aq bl (aq bl (aq bl (aq bl (aq bl (aq bl (aq bl aO)))))))))))
 ·exact(c7 (i:=1) og.bW rfl (.inl rfl) (bH l6 my (aw 1) (eg (aq bl (aq bl (aq bl (aq bl (aq bl (aq bl (aq bl (aq bl aO)))))))))))
 ·exact(c7 (i:=1) og.bW rfl (.inl rfl) (bH l6 my (aw 1) (eg (aq bl (aq bl (aq bl (aq bl (aq bl (aq bl (aq bl (aq bl (aq bl aO))))))))))))
 ·exact(c7 (i:=1) og.bW rfl (.inl rfl) (bH l6 my (aw 1) (eg (aq bl (aq bl (aq bl (aq bl (aq bl (aq bl (aq bl (aq bl (aq bl aO))))))))))))
 ·exact(c7 (i:=1) og.bW rfl (.inl rfl) (bH l6 my (aw 1) (eg (aq bl (aq bl (aq bl (aq bl (aq bl (aq bl (aq bl (aq bl (aq bl aO))))))))))))
 ·exact(c7 (i:=1) og.bW rfl (.inl rfl) (bH l6 my (aw 1) (eg (aq bl (aq bl (aq bl (aq bl (aq bl (aq bl (aq bl aO))))))))))
 ·exact(c7 (i:=1) og.bW rfl (.inl rfl) (bH l6 my (aw 1) (eg (aq bl (aq bl aO)))))
 ·exact(cf (cF cD cB (aw 1) (bH eI eD (aw 0) (c' fp fq rfl T.B.len eE (aq (aw 1) aO)))))
noncomputable def DT:aV:=
  (cT 9 (b4 D7 (ah (ag 9) (ah (au oMod (b4 m1 (ah (ag 0) (ah (au es (ai (.int 4)) (au yU (ai (.int 2)) (ag 10))) aG))) (au oa (ai (.int 10)) (ai (.int 9)))) (ah (b4 yF (ah (b4 m1 (ah (ag 0) (ah (au es (ai (.int 5)) (au yU (ai (.int 2)) (ag 10))) aG))) aG)) aG)))))
noncomputable def P2:aV:=
  (b6 (b4 qV (ah (ai (.fn "read_hall")) (ah (ai (.fn "_law_is_hall")) (ah (ai (.fn "_law_hall_text")) (ah (ag 9) aG))))))
noncomputable def P1:aV:=
  bL (dr (d9 (bb (b4 qV (ah (ai (.fn "read_rule")) (ah (ai (.fn "_law_is_rule")) (ah (ai (.fn "_law_rule_text")) (ah (ag 9) aG))))))) (b6 (ai (.aB false))) dI) P2
noncomputable def G8:aV:=
  bL (dr (d9 (bb (b4 qV (ah (ai (.fn "read_wish")) (ah (ai (.fn "_law_is_wish")) (ah (ai (.fn "_law_wish_text")) (ah (ag 9) aG))))))) (b6 (ai (.aB false))) dI) P1
noncomputable def G7:aV:=
  bL (iT 10 (lh (ah (au oMod (au gs (ag 3) (ai (.int 240))) (ai (.int 4))) aG)) DT) G8
noncomputable def P0:aV:=
  bL (dr (bb (au oEq (au oMod (au gs (ag 3) (ai (.int 30))) (ai (.int 8))) (ai (.int 7)))) (cT 9 (b4 D_ (ah (ag 5) aG))) dI) G7
noncomputable def G6:aV:=
  bL (cT 9 (ag 8)) P0
noncomputable def G':aV:=
  bL (dr (fh (i7 (bb (au oEq (au oMod (ag 3) (ai (.int 3))) (ai (.int 0)))) (bb (au eT (qd ju (ah (ag 8) aG)) (ag 7)))) (i7 (bb (au oEq (au oMod (ag 3) (ai (.int 3))) (ai (.int 1)))) (bb (au eT (qd gP (ah (ag 8) aG)) (ag 1))))) (b6 (ai (.aB false))) dI) G6
noncomputable def P8:aV:=
  bL (cT 8 (au bJ (dM (ah (b4 l0 (ah (ag 7) aG)) (ah (b4 (jQ 12) (ah (ag 1) aG)) (ah (b4 pw (ah (eF (ah (ag 1) (ah (ag 4) aG))) aG)) aG)))) (au oMod (ag 3) (ai (.int 3))))) G'
noncomputable def P7:aV:=
  bL (cT 7 (b4 D' (ah (au gs (ag 3) (ai (.int 3))) (ah (b4 D9 (ah (au oMod (b4 m1 (ah (ag 0) (ah (ai (.int 3)) aG))) (au oa (ai (.int 10)) (ai (.int 6)))) aG)) (ah (ag 6) (ah (eF (ah (ag 1) (ah (ag 2) aG))) aG)))))) P8
noncomputable def P6:aV:=
  bL (cT 6 (au bJ (dM (ah (au oMod (ag 5) (au oa (ai (.int 10)) (ai (.int 60)))) (ah (au ob (ai (.int 0)) (au oMod (ag 5) (au oa (ai (.int 10)) (ai (.int 60))))) (ah (au oMod (ag 5) (ai (.int 10))) aG)))) (au oMod (ag 5) (ai (.int 3))))) P7
noncomputable def G_:aV:=
  bL (cT 5 (b4 m1 (ah (ag 0) (ah (ai (.int 1)) aG)))) P6
noncomputable def G9:aV:=
  bL (dr (bb (b4 sO (ah (ag 1) (ah (ag 4) aG)))) (cT 2 (ag 4)) dI) G_
noncomputable def P5:aV:=
  bL (cT 4 (b4 (sM 12) (ah (ag 2) (ah (au oMod (b4 m1 (ah (ag 0) (ah (ai (.int 2)) aG))) (au oa (ai (.int 10)) (ai (.int 9)))) aG)))) G9
noncomputable def P4:aV:=
  bL (cT 3 (b4 m1 (ah (ag 0) (ah (ai (.int 0)) aG)))) P5
noncomputable def PZ:aV:=
  bL (cT 2 (b4 (pv 12) (ah (ag 1) aG))) P4
noncomputable def AO:aV:=
  bL (cT 1 (b4 yE (ah (oP (ag 0) (eX (ai (.int 4))) gI) aG))) PZ
noncomputable def D6:b8:=fnOf 1 11 AO
theorem Yv(T:Txt P w K I)(F:nt K "law" "law" zl f fd):gB P w K I base iN 24 f fd ["script"] (bQ K I D6):=by
 show gB P w K I base iN _ f fd _ (bQ K I (fnOf 1 11 AO));refine Jm (k:=23) F jX rfl rfl fun bU A outer s H E ay=>?_
 have a_:=ay.units;refine di.un ?_;refine bN ?_ (bN ?_ (bN ?_ (bN ?_ (bN ?_ (bN ?_ (bN ?_ (bN ?_ (bN ?_ (bN ?_ (bN ?_ (bN ?_ (bN ?_ (bN ?_ (bN ?_ (bR ?_)))))))))))))))
 ·exact(c7 (i:=1) jX.bW rfl (.inl rfl) (cN (Ut T) (ay.mono (by omega)) rfl (aq (Gp (aw 0) (ig aU) lE) aO)))
 ·exact(c7 (i:=2) jX.bW rfl (.inl rfl) (cN (JI T 12) (ay.mono (by omega)) rfl (aq (aw 1) aO)))
 ·exact(c7 (i:=3) jX.bW rfl (.inl rfl) (cN (si T) (ay.mono (by omega)) rfl (aq (aw 0) (aq aU aO))))
 ·exact(c7 (i:=4) jX.bW rfl (.inl rfl) (cN (JJ T 12) (ay.mono (by omega)) rfl (aq (aw 2) (aq (bH eI eD (cN (si T) (ay.mono (by omega)) rfl (aq (aw 0) (aq aU aO))) (bH s8 rO aU aU)) aO))))
 ·exact(dO (dZ (cN (JN T) (ay.mono (by omega)) rfl (aq (aw 1) (aq (aw 4) aO)))) (bR (c7 (i:=2) jX.bW rfl (.inl rfl) (aw 4))) dY)
 ·exact(c7 (i:=5) jX.bW rfl (.inl rfl) (cN (si T) (ay.mono (by omega)) rfl (aq (aw 0) (aq aU aO))))
 ·exact(c7 (i:=6) jX.bW rfl (.inl rfl) (cF cD cB (eg (aq (bH eI eD (aw 5) (bH s8 rO aU aU)) (aq (bH s9 rP aU (bH eI eD (aw 5) (bH s8 rO aU aU))) (aq (bH eI eD (aw 5) aU) aO)))) (bH eI eD (aw 5) aU)))
 ·exact(c7 (i:=7) jX.bW rfl (.inl rfl) (cN (Uv T) (ay.mono (by omega)) rfl (aq (bH i2 iS (aw 3) aU) (aq (cN (Ur T) (ay.mono (by omega)) rfl (aq (bH eI eD (cN (si T) (ay.mono (by omega)) rfl (aq (aw 0) (aq aU aO))) (bH s8 rO aU aU)) aO)) (aq (aw 6) (aq (fH (aq (aw 1) (aq (aw 2) aO))) aO))))))
 ·exact(c7 (i:=8) jX.bW rfl (.inl rfl) (cF cD cB (eg (aq (cN (JO T) (ay.mono (by omega)) rfl (aq (aw 7) aO)) (aq (cN (uK T 12) (ay.mono (by omega)) rfl (aq (aw 1) aO)) (aq (cN (C9 T) (ay.mono (by omega)) rfl (aq (fH (aq (aw 1) (aq (aw 4) aO))) aO)) aO)))) (bH eI eD (aw 3) aU)))
 ·exact(dO (fo.c3 (g6 (fo.c3 (ru (dq (eU a_) eR (bH eI eD (aw 3) aU) aU) (wa (dq (lu a_) kT (OA (Dh T) (ay.mono (by omega)) rfl (aq (aw 8) aO)) (aw 7))))) (j6 (fo.c3 (ru (dq (eU a_) eR (bH eI eD (aw 3) aU) aU) (wa (dq (lu a_) kT (OA (uL T) (ay.mono (by omega)) rfl (aq (aw 8) aO)) (aw 1)))))))) (bR (cf hu)) dY)
 ·exact(c7 (i:=9) jX.bW rfl (.inl rfl) (aw 8))
 ·exact(dO (dq (eU a_) eR (bH eI eD (bH i2 iS (aw 3) aU) aU) aU) (bR (c7 (i:=9) jX.bW rfl (.inl rfl) (cN (Us T) (ay.mono (by omega)) rfl (aq (aw 5) aO)))) dY)
 ·exact(mi (i:=10) aih rfl (Gq rfl T.B.range (aq (bH eI eD (bH i2 iS (aw 3) aU) aU) aO)) jX.bW rfl (.inl rfl) (bR (c7 (i:=9) jX.bW rfl (.inl rfl) (cN (Um T) (ay.mono (by omega)) rfl (aq (aw 9) (aq (bH eI eD (cN (si T) (ay.mono (by omega)) rfl (aq (aw 0) (aq (bH fV fL aU (bH Ma GX aU (aw 10))) aO))) (bH s8 rO aU aU)) (aq (cN (Uu T) (ay.mono (by omega)) rfl (aq (cN (si T) (ay.mono (by omega)) rfl (aq (aw 0) (aq (bH fV fL aU (bH Ma GX aU (aw 10))) aO))) aO)) aO)))))))
 ·exact(dO (eL (dZ (cN (C' T) (ay.mono (by omega)) rfl (aq (oq T.xM rfl) (aq (oq T.xE rfl) (aq (oq T.xG rfl) (aq (aw 9) aO))))))) (bR (cf hu)) dY)
 ·exact(dO (eL (dZ (cN (C' T) (ay.mono (by omega)) rfl (aq (oq T.xK rfl) (aq (oq T.xD rfl) (aq (oq T.uf rfl) (aq (aw 9) aO))))))) (bR (cf hu)) dY)
 ·exact(cf (cN (C' T) (ay.mono (by omega)) rfl (aq (oq T.xJ rfl) (aq (oq T.xC rfl) (aq (oq T.xB rfl) (aq (aw 9) aO))))))
end
end b'
namespace g8
inductive aF where
 |cv (k:Nat)
 |ch (k:Nat) (ps:List aF)
mutual
noncomputable def aF.names:aF->List Nat
 |.cv k=>[k]
 |.ch _ ps=>aF.dx ps
noncomputable def aF.dx:List aF->List Nat
 |[]=>[]
 |r::rs=>r.names++aF.dx rs
end
mutual
noncomputable def aF.deep:aF->Nat
 |.cv _=>0|.ch _ ps=>aF.dm ps+1
noncomputable def aF.dm:List aF->Nat
 |[]=>0|r::rs=>max r.deep (aF.dm rs)
end
mutual
noncomputable def aF.wf:aF->Prop
 |.cv k=>k<6|.ch k ps=>1<=k/\k<=ps.length/\ps.length<=6/\aF.ic ps
noncomputable def aF.ic:List aF->Prop
 |[]=>True|r::rs=>r.wf/\aF.ic rs
end
mutual
noncomputable def aF.fills(p:Nat->Bool):aF->Bool
 |.cv k=>p k|.ch k ps=>decide (k<=aF.cnt p ps)
noncomputable def aF.cnt(p:Nat->Bool):List aF->Nat
 |[]=>0|r::rs=>(if r.fills p then 1 else 0)+aF.cnt p rs
end
theorem i_:∀{ps:List aF},aF.ic ps↔∀r∈ps,r.wf
 | []=>by simp[aF.ic]| r::rs=>by simp[aF.ic,i_]
theorem kY:∀{ps:List aF}{n:Nat},aF.dm ps<n->∀r∈ps,r.deep<n
 |r::rs,n,h,x,av=>by
  simp only[aF.dm]at h;rcases aha.mp av with rfl | av
  ·omega
  ·exact kY (ps:=rs) (by omega) x av
theorem Cc:∀{ps:List aF}{n:Nat},(∀r∈ps,r.deep<=n)->aF.dm ps<=n
 |[],_,_=>ahC _|r::rs,n,h=>by
  simp only[aF.dm];have aj:=h r ahb;have h2:=Cc (ps:=rs) fun x av=>h x (ahc _ av)
  omega
theorem xo(p:Nat->Bool):∀ps:List aF,(ps.filter (aF.fills p)).length=aF.cnt p ps
 |[]=>rfl|r::rs=>by
  rw[List.filter_cons];simp only[aF.cnt]
  cases h:r.fills p with
  |true=>simp[xo p rs];omega|false=>simp[xo p rs]
mutual
theorem Je{p q:Nat->Bool}(h:∀k,p k=true->q k=true):∀r:aF,r.fills p=true->r.fills q=true
 | .cv k,e=>by simp only[aF.fills]at e ⊢;exact h k e|.ch k ps,e=>by
  simp only[aF.fills,decide_eq_true_eq]at e ⊢;exact ahL e (Iu h ps)
theorem Iu{p q:Nat->Bool}(h:∀k,p k=true->q k=true):∀ps:List aF,aF.cnt p ps<=aF.cnt q ps
 |[]=>ahg _|r::rs=>by
  simp only[aF.cnt];have aj:=Je h r;have h2:=Iu h rs
  cases e:r.fills p with
  |true=>rw[aj e];simp;omega|false=>simp only[Bool.false_eq_true,if_false];split<;>omega
end
mutual
theorem Jf:∀r:aF,r.wf->r.fills (fun _=>false)=false
 | .cv _,_=>by simp[aF.fills]|.ch k ps,h=>by
  simp only[aF.wf]at h;simp only[aF.fills,cnt_none ps h.2.2.2];exact decide_eq_false (by omega)
theorem cnt_none:∀ps:List aF,aF.ic ps->aF.cnt (fun _=>false) ps=0
 |[],_=>rfl|r::rs,h=>by
  simp only[aF.ic]at h;simp only[aF.cnt,Jf r h.1,cnt_none rs h.2];rfl
end
mutual
theorem qW:∀r:aF,r.wf->∀k∈r.names,k<6
 | .cv k,h,x,av=>by simp only[aF.names,ahJ]at av;simp only[aF.wf]at h;omega| .ch k ps,h,x,av=>by simp only[aF.wf]at h;exact LC ps h.2.2.2 x (by simpa only[aF.names]using av)
theorem LC:∀ps:List aF,aF.ic ps->∀k∈aF.dx ps,k<6
 | [],_,x,av=>by simp[aF.dx]at av|r::rs,h,x,av=>by
  simp only[aF.ic]at h;simp only[aF.dx,ahI]at av;rcases av with av | av
  ·exact qW r h.1 x av
  ·exact LC rs h.2 x av
end
theorem pF:∀ps c1:List aF,aF.dx (ps++c1)=aF.dx ps++aF.dx c1
 |[],_=>rfl|r::rs,c1=>by
  show r.names++aF.dx (rs++c1)=(r.names++aF.dx rs)++aF.dx c1;rw[pF rs c1,aht]
end g8
namespace aN
open PySem PySem.Spec ak g8
mutual
noncomputable def enc:aF->D
 |.cv k=>.int (k:Nat)|.ch k ps=>.tup [.int (k:Nat),.tup (encL ps)]
noncomputable def encL:List aF->List D
 |[]=>[]
 |r::rs=>enc r::encL rs
end
theorem Cp:∀ps:List aF,encL ps=ps.map enc
 |[]=>rfl| r::rs=>by rw[ahi,<-Cp rs];rfl
theorem hb(k:Nat)(ps:List aF):enc (.ch k ps)=.tup [.int (k:Nat),.tup (ps.map enc)]:=by rw[<-Cp];rfl
theorem iz(k:Nat):enc (.cv k)=.int (k:Nat):=rfl
@[simp] theorem agW(r:aF):e9 (enc r)=.val (enc r):=by cases r<;>rfl
mutual
noncomputable def D.ek:D->Bool
 |.tup xs=>jT xs|.lst xs=>jT xs|.dX _ _=>false|.fn _=>false|.ty _=>false|.ba=>true|.aB _=>true|.int _=>true|.str _=>true
noncomputable def jT:List D->Bool
 |[]=>true|x::xs=>x.ek&&jT xs
end
mutual
noncomputable def D.dep:D->Nat
 |.tup xs=>mF xs+1|.lst xs=>mF xs+1|.dX _ _=>0|.fn _=>0|.ty _=>0|.ba=>0|.aB _=>0|.int _=>0|.str _=>0
noncomputable def mF:List D->Nat
 |[]=>0|x::xs=>max x.dep (mF xs)
end
theorem Et:∀{xs:List D},jT xs=true↔∀x∈xs,x.ek=true
 | []=>by simp[jT]| x::xs=>by simp[jT,Et]
theorem IH:∀{xs:List D}{n:Nat},mF xs<n->∀x∈xs,x.dep<n
 |x::xs,n,h,y,bo=>by
  simp only[mF]at h;rcases aha.mp bo with rfl | bo
  ·omega
  ·exact IH (xs:=xs) (by omega) y bo
mutual
theorem n7:∀r:aF,(enc r).ek=true
 |.cv _=>rfl|.ch k ps=>by
  show(true&&((D.tup (encL ps)).ek&&true))=true;rw[show(D.tup (encL ps)).ek=true from LS ps];rfl
theorem LS:∀rs:List aF,jT (encL rs)=true
 |[]=>rfl|r::rs=>by
  show((enc r).ek&&jT (encL rs))=true;rw[n7 r,LS rs];rfl
end
mutual
theorem xP:∀r:aF,(enc r).dep<=2*r.deep
 |.cv _=>ahC _|.ch k ps=>by
  show max 0 (max (mF (encL ps)+1) 0)+1<=2*(aF.dm ps+1);have:=II ps;omega
theorem II:∀rs:List aF,mF (encL rs)<=2*aF.dm rs
 |[]=>ahg _|r::rs=>by
  show max (enc r).dep (mF (encL rs))<=2*max r.deep (aF.dm rs);have:=xP r;have:=II rs;omega
end
noncomputable def D.whole:D->Bool
 |.int _=>true|_=>false
noncomputable def D.gq:D->Bool
 |.int i=>decide (0<=i)&&decide (i<=5)|_=>false
noncomputable def D.fD:D->Option (Int×List D)
 |.tup [.int k,.tup ps]=>if 1<=k/\k<=ps.length/\ps.length<=6 then some (k,ps)else none|_=>none
noncomputable def blt:Nat->D->Bool
 |0,d=>d.gq|n+1,d=>d.gq||match d.fD with
  |some (_,ps)=>ps.all (blt n)|none=>false
mutual
noncomputable def fg:D->Option (Nat×Nat)
 |.int i=>if 0<=i/\i<=5 then some (0,1)else none|.tup xs=>Xw xs|.ba=>none|.aB _=>none|.str _=>none|.lst _=>none|.dX _ _=>none|.fn _=>none|.ty _=>none
noncomputable def Xw:List D->Option (Nat×Nat)
 |[]=>none|k::r=>Xy k r
noncomputable def Xy(k:D):List D->Option (Nat×Nat)
 |[]=>none|y::r=>match k,r with
  |.int i,[]=>Xx i y|_,_=>none
noncomputable def Xx(k:Int):D->Option (Nat×Nat)
 |.tup ps=>if 1<=k/\k<=ps.length/\ps.length<=6 then gr ps 1 0 else none|.int _=>none|.ba=>none|.aB _=>none|.str _=>none|.lst _=>none|.dX _ _=>none|.fn _=>none|.ty _=>none
noncomputable def gr:List D->Nat->Nat->Option (Nat×Nat)
 |[],d,m=>some (d,m)|p::ps,d,m=>match fg p with
  |none=>none|some (a,b)=>gr ps (max d (a+1)) (m+b)
end
theorem yQ(k:Int)(ps:List D):fg (.tup [.int k,.tup ps])=if 1<=k/\k<=ps.length/\ps.length<=6 then gr ps 1 0 else none:=rfl
theorem yN{d:D}{k:Int}(h:d.fD=some (k,ps)):fg d=gr ps 1 0:=by
 unfold D.fD at h;split at h
 ·rename_i hj de
  by_cases c:1<=hj/\hj<=de.length/\de.length<=6
  ·rw[if_pos c]at h
   cases h;rw[yQ,if_pos c]
  ·rw[if_neg c]at h;cases h
 ·cases h
theorem yO{d:D}(h:d.gq=true):fg d=some (0,1):=by
 cases d with
 |int i=>
  simp[D.gq]at h;show(if 0<=i/\i<=5 then some (0,1)else none)=_;rw[if_pos h]
 |_=>exact absurd (show false=true from h) ahd
theorem yP{d:D}(aj:d.gq=false)(h2:d.fD=none):fg d=none:=by
 cases d with
 |int i=>
  simp[D.gq]at aj;show(if 0<=i/\i<=5 then some (0,1)else none)=_;rw[if_neg (by omega)]
 |tup xs=>
  match xs,h2 with
  |[],_=>rfl|[_],_=>rfl|x::y::z::r,_=>cases x<;>rfl
  |[x,y],h2=>
   cases x with
   |int k=>
    cases y with
    |tup ps=>
     rw[yQ]
     by_cases c:1<=k/\k<=ps.length/\ps.length<=6
     ·exfalso
      have h2:(if 1<=k/\k<=ps.length/\ps.length<=6 then some (k,ps)else none)=none:=h2;rw[if_pos c]at h2;cases h2
     ·rw[if_neg c]
    |_=>rfl
   |_=>rfl
 |_=>rfl
theorem yM:∀(ps:List D)(d m:Nat){a b:Nat},gr ps d m=some (a,b)->d<=a
 | [],d,m,a,b,h=>by cases h;exact ahg _
 |p::ps,d,m,a,b,h=>by
  unfold gr at h
  cases e:fg p with
  |none=>rw[e]at h;cases h
  |some x=>
   rw[e]at h;have:=yM ps _ _ h;omega
noncomputable def qO(n:Nat):Option (Nat×Nat)->Bool
 |some (a,_)=>decide (a<=n)|none=>false
theorem KW(n:Nat):∀(ps:List D)(d m:Nat),qO (n+1) (gr ps d m)=(decide (d<=n+1)&&ps.all fun p=>qO n (fg p))
 | [],d,m=>by simp[gr,qO]|p::ps,d,m=>by
  unfold gr;rw[ajh]
  cases e:fg p with
  |none=>simp[qO]|some x=>
   show qO (n+1) (gr ps (max d (x.1+1)) (m+x.2))=_;rw[KW n ps];show _=(decide (d<=n+1)&&(decide (x.1<=n)&&_));rw[<-Bool.and_assoc,<-Bool.decide_and]
   congr 1
   apply decide_eq_decide.mpr;omega
theorem H2:∀(n:Nat)(d:D),blt n d=qO n (fg d)
 |0,d=>by
  show d.gq=_
  cases e:d.gq with
  |true=>rw[yO e];rfl|false=>
   cases aT:d.fD with
   |none=>rw[yP e aT];rfl|some x=>
    rw[yN (k:=x.1) (ps:=x.2) (by rw[aT])]
    cases dt:gr x.2 1 0 with
    |none=>rfl|some y=>
     have:=yM x.2 1 0 (a:=y.1) (b:=y.2) (by rw[dt]);show false=decide (y.1<=0);rw[decide_eq_false (by omega)]
 |n+1,d=>by
  show(d.gq||_)=_
  cases e:d.gq with
  |true=>rw[yO e];rfl|false=>
   cases aT:d.fD with
   |none=>rw[yP e aT];rfl|some x=>
    rw[yN (k:=x.1) (ps:=x.2) (by rw[aT]),KW];show(x.2.all (blt n))=(decide (1<=n+1)&&_);rw[decide_eq_true (by omega),Bool.true_and]
    congr 1
    funext p
    exact H2 n p
noncomputable def fU:Nat->D->List D
 |0,d=>match d with
  |.int i=>[.int i]
  |_=>[]
 |n+1,d=>match d with
  |.int i=>[.int i]
  |d=>match d.fD with
   |some (_,ps)=>(ps.map (fU n)).flatten|none=>[]
theorem Eo:∀(n:Nat)(d:D){a b:Nat},fg d=some (a,b)->a<=n->(fU n d).length=b
 |0,d,a,b,h,aR=>by
  cases e:d.gq with
  |true=>
   rw[yO e]at h;cases h
   cases d with
   |int i=>rfl|_=>exact absurd (show false=true from e) ahd
  |false=>
   cases aT:d.fD with
   |none=>rw[yP e aT]at h;cases h
   |some x=>
    rw[yN (k:=x.1) (ps:=x.2) (by rw[aT])]at h;have:=yM _ _ _ h;omega
 |n+1,d,a,b,h,aR=>by
  cases e:d.gq with
  |true=>
   rw[yO e]at h;cases h
   cases d with
   |int i=>rfl|_=>exact absurd (show false=true from e) ahd
  |false=>
   cases aT:d.fD with
   |none=>rw[yP e aT]at h;cases h
   |some x=>
    rw[yN (k:=x.1) (ps:=x.2) (by rw[aT])]at h;have eZ:fU (n+1) d=(x.2.map (fU n)).flatten:=by
     cases d with
     |int i=>cases aT
     |tup xs=>show(match(D.tup xs).fD with | some (_,ps)=>(ps.map (fU n)).flatten | none=>[])=_;rw[aT]|_=>cases aT
    rw[eZ];have list:∀(ps:List D)(d m:Nat),gr ps d m=some (a,b)->m+((ps.map (fU n)).flatten).length=b:=by
     intro ps
     induction ps with
     |nil=>intro d m h;cases h;rfl
     |cons p ps bk=>
      intro d m h;unfold gr at h
      cases dt:fg p with
      |none=>rw[dt]at h;cases h
      |some y=>
       rw[dt]at h;have aj:=bk _ _ h;have h2:=yM _ _ _ h;have bz:=Eo n p (a:=y.1) (b:=y.2) (by rw[dt]) (by omega);rw[ahi,ak0,ag3];omega
    have:=list x.2 1 0 h;omega
noncomputable def oe(d:D):Bool:=match fg d with
 |some (a,b)=>decide (a<=4)&&decide (b<=12)|none=>false
theorem Nl(d:D):(blt 4 d&&decide ((fU 4 d).length<=12))=oe d:=by
 rw[H2];unfold oe qO
 cases e:fg d with
 |none=>rfl|some x=>
  dsimp only
  by_cases h:x.1<=4
  ·rw[Eo 4 d (a:=x.1) (b:=x.2) (by rw[e]) h]
  ·rw[decide_eq_false h];rfl
theorem En:∀(n:Nat)(d:D),(fU n d).length<=6 ^ n
 | 0,d=>by unfold fU;split<;>simp
 |n+1,d=>by
  unfold fU;split
  ·have:0<6 ^ (n+1):=Nat.pow_pos (by decide)
   simp only[ahm];omega
  ·split
   ·rename_i k ps e
    have ao:ps.length<=6:=by
     rename_i d' _;unfold D.fD at e;split at e
     ·rename_i hj de
      by_cases c:1<=hj/\hj<=de.length/\de.length<=6
      ·rw[if_pos c]at e;cases e;exact c.2.2
      ·rw[if_neg c]at e;cases e
     ·cases e
    have:∀c1:List D,((c1.map (fU n)).flatten).length<=c1.length*6 ^ n:=by
     intro c1
     induction c1 with
     |nil=>simp|cons q c1 bk=>
      rw[ahi,ak0,ag3,ahj,Nat.succ_mul];have:=En n q;omega
    have aj:=this ps;have h2:ps.length*6 ^ n<=6*6 ^ n:=akr _ ao;rw[Nat.pow_succ,Nat.mul_comm (6 ^ n) 6];omega
   ·exact ahC _
mutual
theorem Ef:∀r:aF,r.wf->fg (enc r)=some (r.deep,r.names.length)
 |.cv k,h=>by
  have h:k<6:=h;show(if 0<=((k:Nat):Int)/\((k:Nat):Int)<=5 then some (0,1)else none)=some (0,1);rw[if_pos (by omega)]
 |.ch k ps,h=>by
  have h:1<=k/\k<=ps.length/\ps.length<=6/\aF.ic ps:=h;have ao:(encL ps).length=ps.length:=by rw[Cp,ag4]
  show fg (.tup [.int (k:Nat),.tup (encL ps)])=some (aF.dm ps+1,(aF.dx ps).length);rw[yQ,if_pos (by rw[ao];omega),Lu ps 1 0 (ahg _) h.2.2.2,akm,show max 1 (aF.dm ps+1)=aF.dm ps+1 by omega]
theorem Lu:∀(ps:List aF)(d m:Nat),1<=d->aF.ic ps->gr (encL ps) d m=some (max d (aF.dm ps+1),m+(aF.dx ps).length)
 |[],d,m,hd,_=>by
  show some (d,m)=some (max d (0+1),m+0);rw[show max d (0+1)=d by omega];rfl
 |r::rs,d,m,hd,h=>by
  have h:r.wf/\aF.ic rs:=h;show(match fg (enc r)with | none=>none | some (a,b)=>gr (encL rs) (max d (a+1)) (m+b))=_;rw[Ef r h.1];show gr (encL rs) (max d (r.deep+1)) (m+r.names.length)=some (max d (max r.deep (aF.dm rs)+1),m+(r.names++aF.dx rs).length);rw[Lu rs _ _ (ahL hd (Nat.le_max_left _ _)) h.2,ag3,alQ,Nat.add_assoc,Nat.succ_max_succ]
end
theorem tj{r:aF}(h:r.wf)(hd:r.deep<=4)(aR:r.names.length<=12):oe (enc r)=true:=by
 unfold oe;rw[Ef r h];dsimp only;rw[decide_eq_true hd,decide_eq_true aR];rfl
theorem Bv{α:Type}(xs:List α)(k:Nat):cutD xs (some (k:Int)) none=xs.drop k:=by
 unfold cutD;rw[cS.pQ,cS.zf]
 by_cases h:k<=xs.length
 ·rw[ajo h]
  exact ah7 (by rw[ahz];omega)
 ·rw[ajD (by omega),alE (ahg _),alE (by omega),alP]
theorem Su{α:Type}(xs:List α)(k:Nat):cutD xs none (some (k:Int))=xs.take k:=by
 unfold cutD;rw[cS.pQ,cS.zf,aj0,Nat.sub_zero]
 by_cases h:k<=xs.length
 ·rw[ajo h]
 ·rw[ajD (by omega),ah7 (ahg _),ah7 (by omega)]
end aN
namespace fB
noncomputable def b7(m k:Nat):Bool:=m / 2 ^ k % 2==1
noncomputable def ff(m:Nat):List Nat:=(ahU (if m==0 then 0 else m.log2+1)).filter (b7 m)
noncomputable def rM(b:Bool)(n:Nat):Nat:=if b then n else 0
noncomputable def sS(hD cx cG ix nF nG:Bool):Nat:=rM hD 1+rM cx 2+rM cG 4+rM ix 8+rM nF 16+rM nG 32
noncomputable def lq(p:Nat->Bool):Nat:=sS (p 0) (p 1) (p 2) (p 3) (p 4) (p 5)
theorem Xv(p:Nat->Bool)(k:Nat)(aL:k<6):lq p ||| 2 ^ k=lq fun j=>p j||j==k:=by
 have all:∀hD cx cG ix nF nG:Bool,∀k:Fin 6,sS hD cx cG ix nF nG ||| 2 ^ k.val=sS (hD||0==k.val) (cx||1==k.val) (cG||2==k.val) (ix||3==k.val) (nF||4==k.val) (nG||5==k.val):=by decide +kernel
 exact all (p 0) (p 1) (p 2) (p 3) (p 4) (p 5) ⟨k,aL⟩
theorem Lr(p:Nat->Bool)(k:Nat)(aL:k<6):(lq p / 2 ^ k % 2==1)=p k:=by
 have all:∀hD cx cG ix nF nG:Bool,∀k:Fin 6,(sS hD cx cG ix nF nG / 2 ^ k.val % 2==1)=[hD,cx,cG,ix,nF,nG].getD k.val false:=by decide +kernel
 have e:=all (p 0) (p 1) (p 2) (p 3) (p 4) (p 5) ⟨k,aL⟩;rw[show lq p=sS (p 0) (p 1) (p 2) (p 3) (p 4) (p 5)from rfl,e];have:k=0\/k=1\/k=2\/k=3\/k=4\/k=5:=by omega
 rcases this with rfl | rfl | rfl | rfl | rfl | rfl<;>rfl
theorem Ls(p:Nat->Bool):lq p<64:=by
 have all:∀hD cx cG ix nF nG:Bool,sS hD cx cG ix nF nG<64:=by decide +kernel
 exact all _ _ _ _ _ _
noncomputable def bits(m:Nat):Nat:=if m==0 then 0 else m.log2+1
noncomputable def maskOf(ns:List Nat):Nat:=ns.foldl (fun m k=>m ||| 2 ^ k) 0
theorem Lk:∀(ns:List Nat)(p:Nat->Bool),(∀n∈ns,n<6)->ns.foldl (fun m k=>m ||| 2 ^ k) (lq p)=lq fun j=>p j||ns.contains j
 | [],p,_=>by simp|n::r,p,h=>by
  rw[alz,Xv p n (h n ahb),Lk r _ fun x av=>h x (ahc _ av)]
  congr 1
  funext j
  rw[List.contains_cons,Bool.or_assoc]
theorem Lj(ns:List Nat)(h:∀n∈ns,n<6):maskOf ns=lq fun j=>ns.contains j:=by
 have e:=Lk ns (fun _=>false) h;have z:lq (fun _=>false)=0:=rfl;rw[z]at e;show ns.foldl (fun m k=>m ||| 2 ^ k) 0=_;rw[e];simp
end fB
namespace je
open fB g8
noncomputable def sub(x m:Nat):Bool:=(ahU 6).all fun k=>!b7 x k||b7 m k
noncomputable def within(bw:List Nat):List Nat:=bw.foldl (fun ms k=>ms++ms.map (· + 2 ^ k)) [0]
theorem acD:∀M:Fin 64,within (ff M.val)=(ahU 64).filter fun x=>sub x M.val:=by decide +kernel
noncomputable def filling(r:aF)(M:Nat):List Nat:=(within (ff M)).filter fun m=>r.fills (b7 m)
noncomputable def sv(bO:List Nat)(m:Nat):Bool:=!((ff m).any fun k=>bO.contains (m-2 ^ k))
noncomputable def least(r:aF):List Nat:=(filling r (maskOf r.names)).filter (sv (filling r (maskOf r.names)))
theorem rS{m k:Nat}(hm:m<64)(aL:6<=k):b7 m k=false:=by
 unfold b7;have agv:64<=2 ^ k:=ahL (show 64<=2 ^ 6 by decide) (ajE (by decide) aL);rw[Nat.div_eq_of_lt (by omega)];rfl
theorem ri(av:x<64):sub x m=true↔∀k,b7 x k=true->b7 m k=true:=by
 unfold sub;rw[ahH];constructor
 ·intro h k aL
  by_cases eO:k<6
  ·have:=h k (ah0.mpr eO)
   rw[aL]at this;simpa using this
  ·rw[rS av (by omega)]at aL;cases aL
 ·intro h k _
  cases e:b7 x k with
  |false=>rfl|true=>rw[h k e];rfl
theorem Ee{x k:Nat}(av:x<64):k∈ff x↔k<6/\b7 x k=true:=by
 have all:∀x:Fin 64,ff x.val=(ahU 6).filter (b7 x.val):=by decide +kernel
 rw[all ⟨x,av⟩,aiX,ah0]
theorem IS{x k:Nat}(av:x<64)(aL:k<6)(h:b7 x k=true):x-2 ^ k<x/\∀j,b7 (x-2 ^ k) j=true->b7 x j=true:=by
 have all:∀x:Fin 64,∀k:Fin 6,b7 x.val k.val=true->x.val-2 ^ k.val<x.val/\sub (x.val-2 ^ k.val) x.val=true:=by decide +kernel
 obtain⟨aj,h2⟩:=all ⟨x,av⟩ ⟨k,aL⟩ h;exact⟨aj,(ri (by have:x-2 ^ k<x:=aj;omega)).mp h2⟩
theorem yL{r:aF}{M x:Nat}(C1:M<64):x∈filling r M↔x<64/\sub x M=true/\r.fills (b7 x)=true:=by
 unfold filling;rw[acD ⟨M,C1⟩,aiX,aiX,ah0];constructor
 ·rintro⟨⟨a,b⟩,c⟩;exact⟨a,b,c⟩
 ·rintro⟨a,b,c⟩;exact⟨⟨a,b⟩,c⟩
theorem yK(r:aF)(h:r.wf):maskOf r.names<64:=by
 rw[Lj r.names (qW r h)];exact Ls _
theorem Xk(r:aF)(h:r.wf){k:Nat}(aL:k∈r.names):b7 (maskOf r.names) k=true:=by
 rw[Lj r.names (qW r h)];have:=Lr (fun j=>r.names.contains j) k (qW r h k aL);unfold b7;rw[this];simpa using aL
theorem sE(r:aF)(h:r.wf)(av:x∈least r):x<64/\r.fills (b7 x)=true/\sub x (maskOf r.names)=true:=by
 have:=(aiX.mp av).1;rw[yL (yK r h)]at this;exact⟨this.1,this.2.2,this.2.1⟩
theorem WT(r:aF)(h:r.wf):∀(n x:Nat),x<=n->x<64->sub x (maskOf r.names)=true->r.fills (b7 x)=true->∃y∈least r,∀j,b7 y j=true->b7 x j=true:=by
 intro n
 induction n with
 |zero=>
  intro x av aj h2 bz;have:x=0:=by omega
  subst this;exfalso;have e:b7 0=fun _=>false:=by funext j;unfold b7;rw[Nat.zero_div];rfl
  rw[e,Jf r h]at bz;cases bz
 |succ n bk=>
  intro x av aj h2 bz;have U1:x∈filling r (maskOf r.names):=(yL (yK r h)).mpr ⟨aj,h2,bz⟩
  cases ao:sv (filling r (maskOf r.names)) x with
  |true=>exact⟨x,aiX.mpr ⟨U1,ao⟩,fun _ bV=>bV⟩|false=>
   unfold sv at ao;have nX:((ff x).any fun k=>(filling r (maskOf r.names)).contains (x-2 ^ k))=true:=by simpa using ao
   obtain⟨k,aL,o7⟩:=aiK.mp nX;obtain⟨U3,U4⟩:=(Ee aj).mp aL;obtain⟨xt,gK⟩:=IS aj U3 U4;have U2:x-2 ^ k∈filling r (maskOf r.names):=by simpa using o7
   obtain⟨g1,g2,g3⟩:=(yL (yK r h)).mp U2;obtain⟨y,bo,DB⟩:=bk (x-2 ^ k) (by omega) g1 g2 g3;exact⟨y,bo,fun j bV=>gK j (DB j bV)⟩
mutual
theorem CE{p q:Nat->Bool}:∀r:aF,(∀k∈r.names,p k=q k)->r.fills p=r.fills q
 | .cv k,h=>by simp only[aF.fills];exact h k (by simp[aF.names])| .ch k ps,h=>by simp only[aF.fills];rw[Ir ps fun k aL=>h k (by simpa[aF.names]using aL)]
theorem Ir{p q:Nat->Bool}:∀ps:List aF,(∀k∈aF.dx ps,p k=q k)->aF.cnt p ps=aF.cnt q ps
 |[],_=>rfl|r::rs,h=>by
  simp only[aF.cnt];rw[CE r fun k aL=>h k (by simp[aF.dx,aL]),Ir rs fun k aL=>h k (by simp[aF.dx,aL])]
end
theorem D0(r:aF)(h:r.wf)(hm:m<64):r.fills (b7 m)=(least r).any fun x=>sub x m:=by
 cases e:r.fills (b7 m)with
 |true=>
  symm;rw[aiK];have aP:∀k,k<6->(lq (fun j=>b7 m j&&b7 (maskOf r.names) j) / 2 ^ k % 2==1)=(b7 m k&&b7 (maskOf r.names) k):=fun k aL=>Lr _ k aL
  have er:lq (fun j=>b7 m j&&b7 (maskOf r.names) j)<64:=Ls _;generalize lq (fun j=>b7 m j&&b7 (maskOf r.names) j)=x at aP er;have hf:r.fills (b7 x)=true:=by
   rw[<-e];refine CE r fun k aL=>?_
   show b7 x k=b7 m k;have:=aP k (qW r h k aL);unfold b7 at this ⊢;rw[this];have q:=Xk r h aL;unfold b7 at q;rw[q,Bool.and_true]
  have aQ:sub x (maskOf r.names)=true:=by
   rw[ri er];intro k aL
   by_cases eO:k<6
   ·have:=aP k eO
    unfold b7 at aL;rw[aL]at this;have:=(ahn _ _▸this.symm);exact this.2
   ·rw[rS er (by omega)]at aL;cases aL
  obtain⟨y,bo,DB⟩:=WT r h x x (ahg _) er aQ hf;refine⟨y,bo,?_⟩;rw[ri (sE r h bo).1];intro k aL;have o7:=DB k aL
  by_cases eO:k<6
  ·have:=aP k eO
   unfold b7 at o7;rw[o7]at this;have:=(ahn _ _▸this.symm);exact this.1
  ·rw[rS er (by omega)]at o7;cases o7
 |false=>
  symm;rw[List.any_eq_false];intro x av aQ;obtain⟨aj,h2,_⟩:=sE r h av;have:=Je ((ri aj).mp aQ) r h2;rw[e]at this;cases this
end je
namespace aN
open PySem PySem.Spec ak fB g8 je
noncomputable def bI(k:Nat):D:=.int (k:Int)
theorem gQ(k:Nat):bI k=.int (k:Int):=rfl
theorem PI(x:Int):aiR x 1=x % 2:=W.kbt_mask x 1
theorem YG(a b:Nat):ake (a:Int) (b:Int)=((a ||| b:Nat):Int):=by
 have aj:decide (0<=ait (a:Int))=false:=decide_eq_false (by unfold ait;omega);have h2:decide (0<=ait (b:Int))=false:=decide_eq_false (by unfold ait;omega);have aH:(ait (ait (a:Int))).toNat=a:=by unfold ait;omega
 have aT:(ait (ait (b:Int))).toNat=b:=by unfold ait;omega
 unfold ake aiR;rw[aj,h2];dsimp only;rw[aH,aT];unfold ait;omega
theorem PH(a b:Nat):aiR (a:Int) (b:Int)=((a&&& b:Nat):Int):=by
 have aj:decide (0<=(a:Int))=true:=decide_eq_true (by omega);have h2:decide (0<=(b:Int))=true:=decide_eq_true (by omega);unfold aiR;rw[aj,h2];rfl
theorem VI(m:Nat):aii (m:Int)=fB.bits m:=by
 unfold aii fB.bits;rw[Int.natAbs_natCast]
 by_cases h:m=0
 ·subst h;rfl
 ·have h':(m:Int)≠0:=by omega
  rw[beq_eq_false_iff_ne.mpr h,beq_eq_false_iff_ne.mpr h']
theorem bits_le(m:Nat)(h:m<64):fB.bits m<=6:=by
 have all:∀m:_root_.Fin 64,fB.bits m.val<=6:=by decide +kernel
 exact all ⟨m,h⟩
theorem Wg(m:Nat):ff m=(ahU (fB.bits m)).filter (b7 m):=rfl
theorem DQ(h:m<64):(ff m).length<=6:=by
 have all:∀m:_root_.Fin 64,(ff m.val).length<=6:=by decide +kernel
 exact all ⟨m,h⟩
theorem Xl(bw:List Nat)(k:Nat):fB.maskOf (bw++[k])=fB.maskOf bw ||| 2 ^ k:=by
 unfold fB.maskOf;rw[List.foldl_append];rfl
theorem Ll(k:Nat):fB.maskOf [k]=2 ^ k:=by
 show 0 ||| 2 ^ k=2 ^ k
 exact Nat.zero_or _
theorem OM(bw:List Nat)(k:Nat):within (bw++[k])=within bw++(within bw).map (· + 2 ^ k):=by
 unfold within;rw[List.foldl_append];rfl
theorem OL:∀bw:List Nat,(within bw).length=2 ^ bw.length:=by
 intro bw;rcases h:bw.length with _ | n
 ·rw[aiQ.mp h];rfl
 ·have:∀(n:Nat)(bw:List Nat),bw.length=n->(within bw).length=2 ^ n:=by
   intro n
   induction n with
   |zero=>intro bw h;rw[aiQ.mp h];rfl|succ n bk=>
    intro bw h;rcases akj bw with rfl | ⟨l,k,rfl⟩
    ·cases h
    ·rw[akk]at h ⊢
     rw[ag3,ahm]at h;rw[OM,ag3,ag4,bk l (by omega)];omega
  exact this _ _ h
theorem take_snoc{α:Type}{l:List α}{i:Nat}{x:α}(h:l[i]? = some x):l.take (i+1)=l.take i++[x]:=by
 rw[ak1,h];rfl
theorem Eb{α β:Type}{f:α->β}{l:List α}{i:Nat}{y:β}(h:(l.map f)[i]? = some y):∃x,l[i]? = some x/\y=f x:=by
 rw[ahA]at h
 cases e:l[i]? with
 |none=>rw[e]at h;cases h
 |some x=>rw[e]at h;exact⟨x,rfl,(ahx h).symm⟩
theorem QH(m k:Nat):(aiR ((m:Int) / 2 ^ k) 1==1)=b7 m k:=by
 rw[PI];unfold b7;have aH:((m:Int) / 2 ^ k) % 2=((m / 2 ^ k % 2:Nat):Int):=by
  rw[Int.natCast_emod,Int.natCast_ediv,Int.natCast_pow];rfl
 rw[aH,aif,beq_iff_eq,beq_iff_eq];omega
theorem E3(n:Nat):l9 0 n=(ahU n).map bI:=by
 unfold l9;refine ajL fun i _=>?_
 show D.int (0+(i:Int))=.int (i:Int);rw[Int.zero_add]
theorem VH(k:Nat)(bw:List Nat):inD (bI k) (bw.map bI)=bw.contains k:=by
 unfold inD;rw[List.any_map,List.contains_eq_any_beq]
 congr 1
 funext j
 show hS (.int (j:Int)) (.int (k:Int))=(k==j);rw[aif,beq_iff_eq];simp[hS];omega
theorem oT{α:Type}{t:a9->M Bool}{el:bj}{σ:a9}(f:α->D)(p:α->Bool)(g:α->D):∀xs:List α,(∀x∈xs,t (σ.set 0 (.val (f x)))=pure (p x))->(∀x∈xs,p x=true->(el (σ.set 0 (.val (f x))) >>= R.dat)=pure (g x))->
  fR t el σ (xs.map f)=pure ((xs.filter p).map g)
 |[],_,_=>rfl|x::xs,aj,h2=>by
  have bk:=oT f p g xs (fun x av=>aj x (ahc _ av)) fun x av=>h2 x (ahc _ av)
  rw[ahi];unfold fR;rw[aj x ahb,pure_bind]
  cases e:p x with
  | false=>rw[if_neg ahd,bk,als (by rw[e];exact ahd)]|true=>
   have h:=h2 x ahb e;rw[if_pos rfl,<-bind_assoc,h,pure_bind,bk,pure_bind,alu e];rfl
theorem uc{α:Type}{el:bj}{σ:a9}(f:α->D)(g:α->D)(xs:List α)(h:∀x∈xs,(el (σ.set 0 (.val (f x))) >>= R.dat)=pure (g x)):fR fF el σ (xs.map f)=pure (xs.map g):=by
 have:=oT (t:=fF) (el:=el) (σ:=σ) f (fun _=>true) g xs (fun _ _=>rfl) fun x av _=>h x av
 rw[this]
 congr 2
 exact List.filter_eq_self.mpr fun _ _=>rfl
theorem xZ{α:Type}{b:D->aV}(f:α->D)(p:α->Bool)(v:α->R)(J:a9->Prop):∀(xs:List α)(σ:a9),J σ->
  (∀x σ,x∈xs->J σ->(p x=true->b (f x) σ=pure (.cA (v x)))/\(p x=false->∃σ',b (f x) σ=pure (.a8 σ')/\J σ'))->
  (∀x,xs.find? p=some x->iW b (xs.map f) σ=pure (.cA (v x)))/\(xs.find? p=none->∃σ',iW b (xs.map f) σ=pure (.a8 σ')/\J σ')
 |[],σ,h0,_=>⟨fun x h=>(nomatch h),fun _=>⟨σ,rfl,h0⟩⟩
 |x::xs,σ,h0,step=>by
  obtain⟨s1,s2⟩:=step x σ ahb h0
  cases e:p x with
  |true=>
   rw[aka e];refine⟨fun y h=>?_,fun h=>(nomatch h)⟩;cases h;show(b (f x) σ >>= _)=_;rw[s1 e];rfl
  |false=>
   obtain⟨fl,aH,aj⟩:=s2 e;have bk:=xZ f p v J xs fl aj fun y σ bo=>step y σ (ahc _ bo)
   rw[akb (by rw[e];exact ahd)];have u:iW b ((x::xs).map f) σ=iW b (xs.map f) fl:=by
    show(b (f x) σ >>= _)=_;rw[aH];rfl
   rw[u];exact bk
end aN
namespace je
open fB g8
theorem GS(av:x<64)(bo:y<64):(x&&& y==0)=true↔∀k,b7 x k=true->b7 y k=true->False:=by
 have all:∀x y:Fin 64,(x.val&&& y.val==0)=(ahU 6).all fun k=>!(b7 x.val k&&b7 y.val k):=by decide +kernel
 rw[all ⟨x,av⟩ ⟨y,bo⟩,ahH];constructor
 ·intro h k aj h2
  by_cases eO:k<6
  ·have:=h k (ah0.mpr eO)
   rw[aj,h2]at this;cases this
  ·rw[rS av (by omega)]at aj;cases aj
 ·intro h k _
  cases aH:b7 x k with
  |false=>rfl|true=>
   cases aT:b7 y k with
   |false=>rfl|true=>exact(h k aH aT).elim
theorem Bt{m k:Nat}(hm:m<64)(aL:k<6):b7 (63-m) k = !b7 m k:=by
 have all:∀m:Fin 64,∀k:Fin 6,b7 (63-m.val) k.val = !b7 m.val k.val:=by decide +kernel
 exact all ⟨m,hm⟩ ⟨k,aL⟩
theorem sub_le(av:x<64)(hm:m<64)(h:sub x m=true):x<=m:=by
 have all:∀x m:Fin 64,sub x.val m.val=true->x.val<=m.val:=by decide +kernel
 exact all ⟨x,av⟩ ⟨m,hm⟩ h
noncomputable def kd(x y:Nat):Bool:=x&&& y==0
noncomputable def jn(k:aF)(m:Nat):Bool:=((least k).find? (kd m)).isSome
theorem X1{a k:aF}(ax:a.wf)(aL:k.wf)(hm:m<64)(mP:a.fills (b7 m)=true)(f':k.fills (b7 (63-m))=true):∃x∈least a,x<=m/\jn k x=true:=by
 rw[D0 a ax hm,aiK]at mP;rw[D0 k aL (by omega),aiK]at f';obtain⟨x,av,NY⟩:=mP;obtain⟨y,bo,abh⟩:=f';have yj:=(sE a ax av).1;have J4:=(sE k aL bo).1;refine⟨x,av,sub_le yj hm NY,?_⟩;unfold jn;rw[List.find?_isSome];refine⟨y,bo,?_⟩;unfold kd;rw[GS yj J4];intro j u3 DM;have DN:j<6:=by
  by_cases eO:j<6
  ·exact eO
  ·rw[rS yj (by omega)]at u3;cases u3
 have cx:=(ri yj).mp NY j u3;have cG:=(ri J4).mp abh j DM;rw[Bt hm DN,cx]at cG;cases cG
theorem YQ{a k:aF}(ax:a.wf)(aL:k.wf)(h:(least a).find? (jn k)=none)(hm:m<64):(a.fills (b7 m)&&k.fills (b7 (63-m)))=false:=by
 rw[akY];intro z;rw[ahn]at z;obtain⟨x,av,_,aP⟩:=X1 ax aL hm z.1 z.2;have:=ajW.mp h x av;exact this aP
end je
namespace aN
open PySem PySem.Spec ak
mutual
noncomputable def D.Gs:D->Bool
 |.tup xs=>decide (xs.length<=1000)&&rr xs|.lst xs=>decide (xs.length<=1000)&&rr xs|.dX _ _=>true|.fn _=>true|.ty _=>true|.ba=>true|.aB _=>true|.int _=>true|.str _=>true
noncomputable def rr:List D->Bool
 |[]=>true|x::xs=>x.Gs&&rr xs
end
theorem OK:∀{xs:List D},rr xs=true↔∀x∈xs,x.Gs=true
 | []=>by simp[rr]| x::xs=>by simp[rr,OK]
theorem uA:∀{xs:List D}{n:Nat},hH xs n=true↔∀x∈xs,x.cI n=true
 | [],_=>by simp[hH]| x::xs,n=>by simp[hH,uA]
def Ok(n:Nat)(d:D):Prop:=d.cI n=true/\d.Gs=true
theorem Yx:Ok n .ba:=⟨rfl,rfl⟩
theorem yY{i:Int}:Ok n (.int i):=⟨rfl,rfl⟩
theorem L8(h:ag7 x=true):Ok n (.str x):=⟨h,rfl⟩
theorem vo{xs:List D}(ao:xs.length<=1000)(h:∀x∈xs,Ok n x):Ok (n+1) (.tup xs):=
 ⟨uA.mpr fun x av=>(h x av).1,by show(decide (xs.length<=1000)&&rr xs)=true;rw[decide_eq_true ao,OK.mpr fun x av=>(h x av).2];rfl⟩
theorem TO:∀{d:D}{n m:Nat},n<=m->d.cI n=true->d.cI m=true:=by
 intro d
 induction d using D.rec (motive_2:=fun ds=>∀n m,n<=m->hH ds n=true->hH ds m=true)with
 |ba=>exact fun _ h=>h
 |aB _=>exact fun _ h=>h
 |int _=>exact fun _ h=>h
 |str _=>exact fun _ h=>h
 |fn _=>exact fun _ h=>h
 |ty _=>exact fun _ h=>h
 |dX _ _ _=>exact fun _ h=>h
 |tup xs bk=>
  intro n m hm h
  cases n with
  |zero=>cases h
  |succ n=>
   cases m with
   |zero=>omega| succ m=>exact bk n m (by omega) h
 |lst xs bk=>
  intro n m hm h
  cases n with
  |zero=>cases h
  |succ n=>
   cases m with
   |zero=>omega| succ m=>exact bk n m (by omega) h
 |nil=>rfl|cons x xs uY uZ=>
  rename_i n m hm h;have h:(x.cI n&&hH xs n)=true:=h;rw[ahn]at h;show(x.cI m&&hH xs m)=true;rw[uY hm h.1,uZ n m hm h.2];rfl
theorem Yw(h:Ok n d)(hm:n<=m):Ok m d:=⟨TO hm h.1,h.2⟩
theorem Yp(aj:Ok n a)(h2:Ok n b):Ok (n+1) (.tup [a,b]):=vo (by simp) (by simp only[ahw];exact⟨aj,h2,fun _ h=>nomatch h⟩)
theorem yW:Ok (n+1) (.tup []):=vo (by simp) fun _ h=>nomatch h
theorem pick(P:D->Prop)(xs:List D)(c k:Int)(aL:(xs.length:Int)=k)(h0:0<k)(h:∀x∈xs,P x):∃v,d7 xs (c % k)=some v/\P v:=by
 have hm:=mod_lt (a:=c) h0;obtain⟨v,e⟩:=AE (xs:=xs) (i:=c % k) hm.1 (by rw[aL];exact hm.2);exact⟨v,e,h v (AD e)⟩
@[simp] theorem aeV:R.kx (.cp xs)=false:=rfl
@[simp] theorem aeS:R.kx (.v (.lst xs))=false:=rfl
@[simp] theorem aeP:R.kx (.v (.aB b))=false:=rfl
@[simp] theorem afd{z:Str}:k6 [.v (.str z)]=if z.length<=ag5 then pure (.v (.int (z.length:Nat)))else bad:=rfl
@[simp] theorem aea{x y:Str}:hl (.v (.str x)) (.v (.str y))=if x.length+y.length<=ag5 then pure (.v (.str (x++y)))else bad:=rfl
end aN
namespace b'
open PySem PySem.Spec ak aN
theorem fO{b:aV}{ds:List D}(h:ds.length=n)(e:b (ds.map e9++ahu (N-n) .emp)=pure (.cA (.v d))):fnOf n N b ds=pure (.v d):=by
 rw[I4,if_pos h,e];rfl
theorem cU{a b:aV}(e:a σ=pure (.a8 σ')):bL a b σ=b σ':=by rw[I5,e];rfl
theorem hV{a b:aV}(e:a σ=pure (.cA r)):bL a b σ=pure (.cA r):=by rw[I5,e];rfl
theorem fQ{t:a9->M Bool}{a b:aV}(e:t σ=pure true):dr t a b σ=a σ:=by rw[Cn,e];rfl
theorem eB{t:a9->M Bool}{a b:aV}(e:t σ=pure false):dr t a b σ=b σ:=by rw[Cn,e];rfl
theorem vp{a b:a9->M Bool}(h:a σ=pure true):fh a b σ=pure true:=by show(a σ >>= _)=_;rw[h];rfl
theorem g0{a b:a9->M Bool}(h:a σ=pure false):fh a b σ=b σ:=by show(a σ >>= _)=_;rw[h];rfl
theorem e1{a:a9->M Bool}(h:a σ=pure true):d9 a σ=pure false:=by show(a σ >>= _)=_;rw[h];rfl
theorem l4{a:a9->M Bool}(h:a σ=pure false):d9 a σ=pure true:=by show(a σ >>= _)=_;rw[h];rfl
theorem bT{m:bj}(h:m σ=pure (.v (.aB b))):bb m σ=pure b:=by show(m σ >>= _)=_;rw[h];rfl
theorem rL{a b:a9->M Bool}(h:a σ=pure true):i7 a b σ=b σ:=by show(a σ >>= _)=_;rw[h];rfl
theorem oM{a b:a9->M Bool}(h:a σ=pure false):i7 a b σ=pure false:=by show(a σ >>= _)=_;rw[h];rfl
theorem bX{f:R->R->M R}{a b:bj}(e:f x y=r)(aH:a σ=pure x)(aT:b σ=pure y):au f a b σ=r:=by
 show(a σ >>= _)=_;rw[aH];show(b σ >>= _)=_;rw[aT];exact e
theorem ew{a b:dF}(e:a σ=pure (.a8 σ')):dU a b σ=b σ':=by show(a σ >>= _)=_;rw[e];rfl
theorem p2{a b:dF}(e:a σ=pure (.ex c)):dU a b σ=pure (.ex c):=by show(a σ >>= _)=_;rw[e];rfl
theorem OZ{a b:dF}(e:a σ=pure (.cA d)):dU a b σ=pure (.cA d):=by show(a σ >>= _)=_;rw[e];rfl
theorem fJ{a:aV}(e:a σ=pure (.a8 σ')):fI a σ=pure (.a8 σ'):=by show(a σ >>= _)=_;rw[e];rfl
theorem rx{a:aV}(e:a σ=pure (.cA (.v d))):fI a σ=pure (.cA d):=by show(a σ >>= _)=_;rw[e];rfl
theorem tx{t:a9->M Bool}{a b:dF}(e:t σ=pure true):fX t a b σ=a σ:=by show(t σ >>= _)=_;rw[e];rfl
theorem ac0{t:a9->M Bool}{a b:dF}(e:t σ=pure false):fX t a b σ=b σ:=by show(t σ >>= _)=_;rw[e];rfl
theorem ey{t:a9->M Bool}{a b:dF}(e:t σ=pure false):dU (fX t a gy) b σ=b σ:=ew (ac0 e)
theorem j8{t:a9->M Bool}(e:t σ=pure true):dU (fX t (ja c (ah (ai s) aG)) gy) b σ=pure (.ex c):=p2 ((tx e).trans rfl)
theorem mM{b:dF}{ds:List D}(h:ds.length=n)(e:b (ds.map e9++ahu (N-n) .emp)=pure (.cA d)):d4 n N b ds=pure (.ret d):=by
 unfold d4;rw[if_pos h,e];rfl
theorem gM{b:dF}{ds:List D}(h:ds.length=n)(e:b (ds.map e9++ahu (N-n) .emp)=pure (.ex c)):d4 n N b ds=pure (.exc c):=by
 unfold d4;rw[if_pos h,e];rfl
theorem wg{bg:dE}{ms:cQ}{σ:a9}{rs:List R}(aH:ms σ=pure rs)(e:bg (rs.map R.arg)=pure (.ret d)):p1 i bg ms σ=pure (.a8 (σ.set i (.val d))):=by
 show(ms σ >>= _)=_;rw[aH];show(bg (rs.map R.arg) >>= _)=_;rw[e];rfl
theorem GA{bg:dE}{ms:cQ}{rs:List R}(aH:ms σ=pure rs)(e:bg (rs.map R.arg)=pure (.exc c)):p1 i bg ms σ=pure (.ex c):=by
 show(ms σ >>= _)=_;rw[aH];show(bg (rs.map R.arg) >>= _)=_;rw[e];rfl
theorem ac3{c:a9->M Bool}{b:dF}(e:c σ=pure true)(aH:b σ=pure (.a8 σ')):jx c b (m+1) σ=jx c b m σ':=by
 show(c σ >>= _)=_;rw[e];show(b σ >>= _)=_;rw[aH];rfl
theorem ac2{c:a9->M Bool}{b:dF}(e:c σ=pure true)(aH:b σ=pure (.ex x)):jx c b (m+1) σ=pure (.ex x):=by
 show(c σ >>= _)=_;rw[e];show(b σ >>= _)=_;rw[aH];rfl
theorem ac1{c:a9->M Bool}(e:c σ=pure false):jx c b (m+1) σ=pure (.a8 σ):=by
 show(c σ >>= _)=_;rw[e];rfl
theorem d6{m:bj}{σ:a9}(e:m σ=pure (.v d)):cT i m σ=pure (.a8 (σ.set i (.val d))):=by show(m σ >>= _)=_;rw[e];rfl
theorem jv{m:bj}(e:m σ=pure (.v d)):b6 m σ=pure (.cA (.v d)):=by show(m σ >>= _)=_;rw[e];rfl
theorem vU{ps:List (Str×D)}{mk:bj}(e:mk σ=pure (.v (.str z)))(g:(ps.lookup z).getD .ba=v):rZ ps mk σ=pure (.v v):=by
 show(mk σ >>= _)=_;rw[e,<-g];rfl
theorem wX{ms:cQ}{σ:a9}{xs:List D}(h:σ[i]? = some (.b5 p xs))(e:ms σ=pure [.v d])(z:xs.length<ag5):kh i mf ms σ=pure (.a8 (σ.set i (.b5 p (xs++[d])))):=by
 simp[h,e,z]
theorem aa0{a:bj}{lo aC:iu}{l h:Option Int}(e:sY x l h=r)(aH:a σ=pure x)(aT:lo σ=pure l)(dt:aC σ=pure h):gV a lo aC σ=r:=by
 show(a σ >>= _)=_;rw[aH];show(lo σ >>= _)=_;rw[aT];show(aC σ >>= _)=_;rw[dt];exact e
theorem call_of{bg:b8}{ms:cQ}{rs:List R}(aH:ms σ=pure rs)(e:bg (rs.map R.arg)=r):b4 bg ms σ=r:=by show(ms σ >>= _)=_;rw[aH];exact e
theorem kW{f:List R->M R}{ms:cQ}(e:f rs=r)(aH:ms σ=pure rs):cb f ms σ=r:=by show(ms σ >>= _)=_;rw[aH];exact e
theorem qf{f:R->List R->M R}{a:bj}{ms:cQ}(e:f x rs=r)(aH:a σ=pure x)(aT:ms σ=pure rs):jF f a ms σ=r:=by show(a σ >>= _)=_;rw[aH];show(ms σ >>= _)=_;rw[aT];exact e
theorem cons_of{m:bj}{ms:cQ}(e:m σ=pure x)(aH:ms σ=pure xs):ah m ms σ=pure (x::xs):=by show(m σ >>= _)=_;rw[e];show(ms σ >>= _)=_;rw[aH];rfl
theorem QQ{t:a9->M Bool}{a b:bj}(e:t σ=pure true):qe t a b σ=a σ:=by show(t σ >>= _)=_;rw[e];rfl
theorem QP{t:a9->M Bool}{a b:bj}(e:t σ=pure false):qe t a b σ=b σ:=by show(t σ >>= _)=_;rw[e];rfl
theorem NF{m:lL}(e:m σ=pure (.ex c)):wd i m σ=pure (.ex c):=by show(m σ >>= _)=_;rw[e];rfl
theorem NG{m:lL}{σ:a9}{ds:List D}(e:m σ=pure (.ok ds))(z:ds.length<=1000):wd i m σ=pure (.a8 (σ.set i (.val (.tup ds)))):=by
 show(m σ >>= _)=_;rw[e];show(eS (ds.length<=1000) >>= _)=_;unfold eS;rw[if_pos z];rfl
theorem OY{bg:dE}{ms:cQ}{rs:List R}(aH:ms σ=pure rs)(e:bg (rs.map R.arg)=pure (.exc c)):rv bg ms m σ=pure (.ex c):=by
 show(ms σ >>= _)=_;rw[aH];show(bg (rs.map R.arg) >>= _)=_;rw[e];rfl
theorem acZ{bg:dE}{ms:cQ}{m:lL}{rs:List R}(aH:ms σ=pure rs)(e:bg (rs.map R.arg)=pure (.ret d))(aT:m σ=pure (.ex c)):rv bg ms m σ=pure (.ex c):=by
 show(ms σ >>= _)=_;rw[aH];show(bg (rs.map R.arg) >>= _)=_;rw[e];show(m σ >>= _)=_;rw[aT];rfl
theorem z2{bg:dE}{ms:cQ}{m:lL}{rs:List R}(aH:ms σ=pure rs)(e:bg (rs.map R.arg)=pure (.ret d))(aT:m σ=pure (.ok ds)):rv bg ms m σ=pure (.ok (d::ds)):=by
 show(ms σ >>= _)=_;rw[aH];show(bg (rs.map R.arg) >>= _)=_;rw[e];show(m σ >>= _)=_;rw[aT];rfl
theorem zC{m:bj}{σ:a9}{r:R}(e:m σ=pure r)(h:r.dat=pure d):cT i m σ=pure (.a8 (σ.set i (.val d))):=by show(m σ >>= _)=_;rw[e];show(r.dat >>= _)=_;rw[h];rfl
theorem M'{m:fb}(e:m σ=pure (.ex c)):p0 m σ=pure (.ex c):=by show(m σ >>= _)=_;rw[e];rfl
theorem Na{m:fb}{r:R}(e:m σ=pure (.ok r))(h:r.dat=pure d):p0 m σ=pure (.cA d):=by show(m σ >>= _)=_;rw[e];show(r.dat >>= _)=_;rw[h];rfl
theorem Tj{m:fb}(e:m σ=pure (.ex c)):r_ f m σ=pure (.ex c):=by show(m σ >>= _)=_;rw[e];rfl
theorem Tn{f:List R->M R}{m:fb}(e:m σ=pure (.ok x))(h:f [x]=pure y):r_ f m σ=pure (.ok y):=by show(m σ >>= _)=_;rw[e];show(f [x] >>= _)=_;rw[h];rfl
theorem Th{a:bj}{m:fb}(e:a σ=pure x)(aH:m σ=pure (.ex c)):r9 f a m σ=pure (.ex c):=by show(a σ >>= _)=_;rw[e];show(m σ >>= _)=_;rw[aH];rfl
theorem Ti{f:R->R->M R}{a:bj}{m:fb}(e:a σ=pure x)(aH:m σ=pure (.ok y))(h:f x y=pure z):r9 f a m σ=pure (.ok z):=by show(a σ >>= _)=_;rw[e];show(m σ >>= _)=_;rw[aH];show(f x y >>= _)=_;rw[h];rfl
theorem Q1{xs ys:List D}(h:xs.length+ys.length<=ag5):iH (.fr xs) (.fr ys)=pure (.fr (xs++ys)):=if_pos h
theorem tb{σ:a9}:mC i (dM aG) σ=pure (.a8 (σ.set i (.b5 false []))):=rfl
theorem Jn{b:aV}{ds:List D}(e:b (.b5 true xs::ds.map e9++ahu (N-(ds.length+1)) .emp)=pure (.a8 σ'))(h:u0 σ'=pure ys):nR (ds.length+1) N b (.lst xs::ds)=pure ys:=by
 unfold nR;show(if ds.length+1=ds.length+1 then _ else _)=_;rw[if_pos rfl,e];exact h
theorem Zq{σ:a9}(h:σ[i]? = some (.b5 p (xs++[d]))):t8 j i v3 aG σ=pure (.a8 ((σ.set i (.b5 p xs)).set j (.val d))):=by
 simp[h]
theorem Kf{bg:p6}{ms:cQ}{σ:a9}{rs:List R}(aH:ms σ=pure rs)(h:σ[i]? = some (.b5 p xs))(hm:rs.all R.n6=true)(e:bg (.lst xs::rs.map R.arg)=pure ys):rW i bg ms σ=pure (.a8 (σ.set i (.b5 p ys))):=by
 show(ms σ >>= _)=_;rw[aH];show(match σ[i]? with | some (.b5 p xs)=>_ | _=>_)=_;rw[h];show(if rs.all R.n6=true then _ else _)=_;rw[if_pos hm];show(bg (.lst xs::rs.map R.arg) >>= _)=_;rw[e];rfl
theorem x1{it:g9}{σ σ':a9}(aH:it σ=pure ds)(e:iW (fun d σ=>b (σ.set i (.val d))) ds σ=pure (.a8 σ')):iT i it b σ=pure (.a8 σ'):=by
 show(it σ >>= _)=_;rw[aH];exact e
theorem N8{a b c:bj}(aH:a σ=pure (.v x))(aT:b σ=pure (.v y))(dt:c σ=pure (.v z)):eF (ah a (ah b (ah c aG))) σ=pure (.v (.tup [x,y,z])):=by
 show(ah a (ah b (ah c aG)) σ >>= _)=_;rw[cons_of aH (cons_of aT (cons_of dt rfl))];rfl
theorem F'{a b:bj}(aH:a σ=pure (.v x))(aT:b σ=pure (.v y)):eF (ah a (ah b aG)) σ=pure (.v (.tup [x,y])):=by
 show(ah a (ah b aG) σ >>= _)=_;rw[cons_of aH (cons_of aT rfl)];rfl
theorem abU{a:bj}(aH:a σ=pure (.v x)):eF (ah a aG) σ=pure (.v (.tup [x])):=by
 show(ah a aG σ >>= _)=_;rw[cons_of aH rfl];rfl
theorem Ii{xs ys:List D}(h:xs.length+ys.length<=ag5):sW (.v (.tup xs)) (.v (.tup ys))=pure (.v (.tup (xs++ys))):=if_pos h
theorem oV{a b:Int}(h:jz a b):gs (.v (.int a)) (.v (.int b))=pure (.v (.int (a / b))):=if_pos h
theorem ud{it:g9}{ds xs:List D}(aH:it σ=pure ds)(z:ds.length<ag5)(e:fR t el (f9 n cap σ) ds=pure xs):hF n cap it t el σ=pure (.fr xs):=by
 show(it σ >>= _)=_;rw[aH];show(eS (ds.length<ag5) >>= _)=_;unfold eS;rw[if_pos z];show(fR t el (f9 n cap σ) ds >>= _)=_;rw[e];rfl
theorem SH(e:m=pure (.v d)):(m >>= R.dat)=pure d:=by rw[e];rfl
theorem AA{α:Type}{p:α->Bool}{xs:List α}:nO [.fr (xs.map fun x=>.aB (p x))]=pure (.v (.aB (xs.all p))):=by
 show(match kf (xs.map fun x=>D.aB (p x))with | some bs=>pure (R.v (.aB (bs.all id))) | none=>bad)=_;rw[xe];show pure (R.v (.aB ((xs.map p).all id)))=_;rw[List.all_map];rfl
theorem Te{ms:cQ}{σ:a9}{xs ys:List D}(h:σ[i]? = some (.b5 p xs))(e:ms σ=pure [.fr ys])(z:xs.length+ys.length<=ag5):kh i vZ ms σ=pure (.a8 (σ.set i (.b5 p (xs++ys)))):=by
 simp[h,e,z]
theorem Jk{b:aV}{ds xs:List D}(h:ds.length=n)(e:b (ds.map e9++ahu (N-n) .emp)=pure (.cA (.fr xs))):fnOf n N b ds=pure (.fr xs):=by
 rw[I4,if_pos h,e];rfl
theorem jR{a b:Int}(h:0<b):oMod (.v (.int a)) (.v (.int b))=pure (.v (.int (a % b))):=if_pos h
theorem MP{ms:cQ}(e:ms σ=pure [.v (.int (z:Nat))])(h:z<1000):lh ms σ=pure (l9 0 z):=by
 have kL:(z:Int)<4611686018427387904:=by omega
 simp[e,kL]
theorem Cs{a b:Int}:oEq (.v (.int a)) (.v (.int b))=pure (.v (.aB (decide (a=b)))):=rfl
noncomputable def zM:tR->rB
 |.ret d=>.cA d|.exc c=>.ex c
theorem ux{b:dF}{ds:List D}(h:ds.length=n)(e:b (ds.map e9++ahu (N-n) .emp)=pure (zM y)):d4 n N b ds=pure y:=by
 cases y with
 |ret d=>exact mM h e|exc c=>exact gM h e
theorem z3{a b:dF}(e:a σ=pure (zM y)):dU a b σ=pure (zM y):=by
 cases y with
 |ret d=>exact OZ e|exc c=>exact p2 e
theorem vB{bg:dE}{ms:cQ}{rs:List R}(aH:ms σ=pure rs)(e:bg (rs.map R.arg)=pure y):pZ bg ms σ=pure (zM y):=by
 show(ms σ >>= _)=_;rw[aH];show(bg (rs.map R.arg) >>= _)=_;rw[e];cases y<;>rfl
theorem Ic{bg:dE}{ms:cQ}{rs:List R}(aH:ms σ=pure rs)(e:bg (rs.map R.arg)=pure (.ret d)):qd bg ms σ=pure (.v d):=by
 show(ms σ >>= _)=_;rw[aH];show(bg (rs.map R.arg) >>= _)=_;rw[e];rfl
theorem Tf{m:fb}(e:m σ=pure (.ex c)):qn f m σ=pure (.ex c):=by show(m σ >>= _)=_;rw[e];rfl
theorem Tg{f:R->M R}{m:fb}(e:m σ=pure (.ok x))(h:f x=pure y):qn f m σ=pure (.ok y):=by show(m σ >>= _)=_;rw[e];show(f x >>= _)=_;rw[h];rfl
theorem To{bg:dE}{ms:cQ}{rs:List R}(aH:ms σ=pure rs)(e:bg (rs.map R.arg)=pure (.exc c)):qo bg ms σ=pure (.ex c):=by
 show(ms σ >>= _)=_;rw[aH];show(bg (rs.map R.arg) >>= _)=_;rw[e];rfl
theorem Tp{bg:dE}{ms:cQ}{rs:List R}(aH:ms σ=pure rs)(e:bg (rs.map R.arg)=pure (.ret d)):qo bg ms σ=pure (.ok (.v d)):=by
 show(ms σ >>= _)=_;rw[aH];show(bg (rs.map R.arg) >>= _)=_;rw[e];rfl
theorem Q2{xs ys:List D}(h:xs.length+ys.length<=ag5):iH (.v (.lst xs)) (.fr ys)=pure (.fr (xs++ys)):=if_pos h
theorem V0{i:Int}(e:d7 xs i=some v):bJ (.v (.lst xs)) (.v (.int i))=pure (.v v):=by
 show(match d7 xs i with | some d=>pure (R.v d) | none=>bad)=_;rw[e]
theorem Ko{i:Int}(e:d7 xs i=some v):bJ (.fr xs) (.v (.int i))=pure (.v v):=by
 show(match d7 xs i with | some d=>pure (R.v d) | none=>bad)=_;rw[e]
theorem Lc{ms:cQ}{ds:List D}(e:ms σ=pure rs)(h:lR rs=pure ds)(z:ds.length<=1000):dM ms σ=pure (.fr ds):=by
 show(ms σ >>= _)=_;rw[e];show(lR rs >>= _)=_;rw[h];show(eS (ds.length<=1000) >>= _)=_;unfold eS;rw[if_pos z];rfl
theorem Ly{a b:Int}(h:mn a b):yU (.v (.int a)) (.v (.int b))=pure (.v (.int (a*b))):=if_pos h
theorem vu{a b n:Int}(h:0<=b/\b<=1000000/\a.natAbs<2 ^ 64)(e:a ^ b.toNat=n):oa (.v (.int a)) (.v (.int b))=pure (.v (.int n)):=by rw[<-e];exact if_pos h
theorem QN{f:R->R->M R}{a b:bj}(aH:a σ=pure x)(aT:b σ=pure y)(e:f x y=r):au f a b σ=r:=bX e aH aT
end b'
namespace aN
open PySem PySem.Spec ak
noncomputable def af(a:List Nat):Str:=⟨a.toArray⟩
noncomputable abbrev cd(s:Str):List Nat:=s.cps.toList
theorem pU(s:Str):af (cd s)=s:=by
 unfold af;rw[Array.toArray_toList]
theorem Ij(a:List Nat):cd (af a)=a:=rfl
theorem vW:af a=af b↔a=b:=⟨fun h=>by rw[<-Ij a,h,Ij],fun h=>by rw[h]⟩
theorem oY(ax:ag7 (af a)=true)(U:ag7 (af b)=true):oEq (.v (.str (af a))) (.v (.str (af b)))=pure (.v (.aB (decide (a=b)))):=by
 rw[xS (x:=.v (.str (af a))) (y:=.v (.str (af b))) ax U];show pure (R.v (D.aB (af a==af b)))=_
 congr 3
 rw[aif,beq_iff_eq,decide_eq_true_eq,vW]
theorem Ek(ax:ag7 (af a)=true)(U:ag7 (af b)=true):eT (.v (.str (af a))) (.v (.str (af b)))=pure (.v (.aB (!decide (a=b)))):=by
 rw[ql (x:=.v (.str (af a))) (y:=.v (.str (af b))) ax U];show pure (R.v (D.aB (!(af a==af b))))=_
 congr 4
 rw[aif,beq_iff_eq,decide_eq_true_eq,vW]
theorem eV:ag7 (af a)=true↔∀c∈a,c<0x110000:=by
 unfold ag7 af;rw[List.all_toArray,ahH];simp
theorem hr(a:List Nat):(af a).length=a.length:=by
 show a.toArray.size=_;simp
theorem rk(a b:List Nat):af a++af b=af (a++b):=by
 show(⟨a.toArray++b.toArray⟩:Str)=_;unfold af;simp
theorem Ss{α:Type}(xs:List α)(k:Nat)(h:k<=xs.length):cutD xs none (some (k:Int))=xs.take k:=by
 unfold cutD;rw[cS.pQ,cS.zf,aj0,Nat.sub_zero,ajo h]
theorem Bw{α:Type}(xs:List α)(k:Nat)(h:k<=xs.length):cutD xs (some (k:Int)) none=xs.drop k:=by
 unfold cutD;rw[cS.pQ,cS.zf,ajo h,ah7 (by rw[ahz];omega)]
end aN
namespace g8
mutual
noncomputable def gX:aF->aF
 |.cv k=>.cv k|.ch k ps=>.ch (ps.length-k+1) (iy ps)
noncomputable def iy:List aF->List aF
 |[]=>[]
 |r::rs=>gX r::iy rs
end
theorem Ci:∀ps:List aF,iy ps=ps.map gX
 |[]=>rfl| r::rs=>by rw[ahi,<-Ci rs];rfl
theorem S2(k:Nat)(ps:List aF):gX (.ch k ps)=.ch (ps.length-k+1) (ps.map gX):=by rw[<-Ci];rfl
mutual
theorem IW:∀r:aF,(gX r).deep=r.deep
 |.cv _=>rfl| .ch k ps=>by show aF.dm (iy ps)+1=aF.dm ps+1;rw[IT ps]
theorem IT:∀ps:List aF,aF.dm (iy ps)=aF.dm ps
 |[]=>rfl| r::rs=>by show max (gX r).deep (aF.dm (iy rs))=max r.deep (aF.dm rs);rw[IW r,IT rs]
end
mutual
theorem IY:∀r:aF,(gX r).names=r.names
 |.cv _=>rfl| .ch k ps=>by show aF.dx (iy ps)=aF.dx ps;rw[IU ps]
theorem IU:∀ps:List aF,aF.dx (iy ps)=aF.dx ps
 |[]=>rfl| r::rs=>by show(gX r).names++aF.dx (iy rs)=r.names++aF.dx rs;rw[IY r,IU rs]
end
theorem S1(ps:List aF):(iy ps).length=ps.length:=by rw[Ci,ag4]
mutual
theorem Cj:∀r:aF,r.wf->(gX r).wf
 |.cv _,h=>h|.ch k ps,h=>by
  have h':1<=k/\k<=ps.length/\ps.length<=6/\aF.ic ps:=h;show 1<=ps.length-k+1/\ps.length-k+1<=(iy ps).length/\(iy ps).length<=6/\aF.ic (iy ps);rw[S1];exact⟨by omega,by omega,h'.2.2.1,IV ps h'.2.2.2⟩
theorem IV:∀ps:List aF,aF.ic ps->aF.ic (iy ps)
 |[],_=>trivial|r::rs,h=>⟨Cj r h.1,IV rs h.2⟩
end
theorem ug:∀ps c1:List aF,aF.dm (ps++c1)=max (aF.dm ps) (aF.dm c1)
 | [],c1=>by show aF.dm c1=max 0 (aF.dm c1);omega| r::rs,c1=>by show max r.deep (aF.dm (rs++c1))=max (max r.deep (aF.dm rs)) (aF.dm c1);rw[ug rs c1];exact(alQ _ _ _).symm
end g8
namespace b'
open PySem PySem.Spec ak aN g8
theorem u1{d:D}(h:d.ek=true):mZ [d]=pure (.v (.aB d.whole)):=by
 cases d with
 |dX _ _=>cases h
 |fn _=>cases h
 |ty _=>cases h
 |_=>kernel_rfl
theorem VT{d:D}(h:d.ek=true):pn [d]=pure (.v (.aB d.gq)):=by
 cases d with
 |dX _ _=>cases h
 |fn _=>cases h
 |ty _=>cases h
 |int i=>
  by_cases c:0<=i
  ·simp[-bind_assoc,-bind_pure_comp,pn,w4,u1 h,D.whole,D.gq,c]
  ·simp[-bind_assoc,-bind_pure_comp,pn,w4,u1 h,D.whole,D.gq,c]
 |_=>kernel_rfl
noncomputable def vs:D->Bool
 |.tup xs=>xs.length==2|_=>false
theorem DK{d:D}(h:d.ek=true):sL [d]=pure (.v (.aB (vs d))):=by
 cases d with
 |dX _ _=>cases h
 |fn _=>cases h
 |ty _=>cases h
 |tup xs=>
  have e:(((xs.length:Nat):Int)==2)=(xs.length==2):=by
   rw[aif,beq_iff_eq,beq_iff_eq];omega
  simp[-bind_assoc,-bind_pure_comp,sL,AL,vs,e]
 |_=>kernel_rfl
theorem Bo{xs:List D}(h:xs.length≠2):(D.tup xs).fD=none:=by
 unfold D.fD;split
 ·rename_i k ps e
  cases e;exact absurd rfl h
 ·rfl
theorem tm{d:D}(h:d.ek=true):e9 d=.val d\/∃xs,d=.lst xs:=by
 cases d with
 |lst xs=>exact .inr ⟨xs,rfl⟩|dX _ _=>cases h
 |fn _=>cases h
 |ty _=>cases h
 |_=>exact .inl rfl
theorem RO(k:Int)(ps:List D):G1 [.val (.tup [.int k,.tup ps]),.emp]=pure (.cA (.v (.aB (if 1<=k/\k<=ps.length/\ps.length<=6 then some (k,ps)else none).isSome))):=by
 refine(cU (σ':=[.val (.tup [.int k,.tup ps]),.val (.int ps.length)]) rfl).trans ?_;unfold G2
 by_cases cy:ps.length<=6
 ·have t5:(ps.length:Int)<=6:=by omega
  by_cases au:1<=k
  ·by_cases d1:k<=ps.length
   ·rw[if_pos ⟨au,d1,cy⟩]
    simp[-bind_assoc,-bind_pure_comp,t5,au,d1]
   ·rw[if_neg fun z=>d1 z.2.1]
    simp[-bind_assoc,-bind_pure_comp,t5,au,d1]
  ·rw[if_neg fun z=>au z.1]
   simp[-bind_assoc,-bind_pure_comp,t5,au]
 ·have t5:¬(ps.length:Int)<=6:=by omega
  rw[if_neg fun z=>cy z.2.2];simp[-bind_assoc,-bind_pure_comp,t5]
theorem VS{d:D}(h:d.ek=true):sJ [d]=pure (.v (.aB d.fD.isSome)):=by
 have no:vs d=false->sJ [d]=pure (.v (.aB false)):=fun aP=>by
  have jN:=DK h;rw[aP]at jN;refine fO rfl (hV ((fQ ?_).trans rfl));rcases tm h with e | ⟨xs,rfl⟩
  ·simp[-bind_assoc,-bind_pure_comp,jN,e]
  ·simp[-bind_assoc,-bind_pure_comp,jN]
 cases d with
 |tup xs=>
  match xs,h,no with
  | [],h,no=>rw[no rfl,Bo (by simp)];rfl| [_],h,no=>rw[no rfl,Bo (by simp)];rfl| x::y::z::r,h,no=>rw[no rfl,Bo (by simp)];rfl|[x,y],h,_=>
   have av:x.ek=true:=by simp[D.ek,jT]at h;exact h.1
   have bo:y.ek=true:=by simp[D.ek,jT]at h;exact h.2
   have aP:sL [.tup [x,y]]=pure (.v (.aB true)):=DK h;have hw:=u1 av;refine fO rfl ?_;have off:x.whole=false->(D.tup [x,y]).fD=none->AI [.val (.tup [x,y]),.emp]=pure (.cA (.v (.aB (D.tup [x,y]).fD.isSome))):=fun z e'=>by
    rw[z]at hw;rw[e'];exact hV ((fQ ((g0 (e1 (bT aP))).trans (vp (l4 (bT hw))))).trans rfl)
   cases x with
   |int k=>
    have hw:mZ [.int k]=pure (.v (.aB true)):=hw
    cases y with
    |tup ps=>
     refine(cU (eB ((g0 (e1 (bT aP))).trans ((g0 (e1 (bT hw))).trans rfl)))).trans ?_;exact RO k ps
    |dX _ _=>cases bo
    |fn _=>cases bo
    |ty _=>cases bo
    |_=>exact hV ((fQ ((g0 (e1 (bT aP))).trans ((g0 (e1 (bT hw))).trans rfl))).trans rfl)
   |dX _ _=>cases av
   |fn _=>cases av
   |ty _=>cases av
   |_=>exact off rfl rfl
 |_=>exact no rfl
theorem Bp{d:D}{k:Int}{ps:List D}(h:d.fD=some (k,ps)):d=.tup [.int k,.tup ps]/\1<=k/\k<=ps.length/\ps.length<=6:=by
 unfold D.fD at h;split at h
 ·rename_i hj de
  by_cases c:1<=hj/\hj<=de.length/\de.length<=6
  ·rw[if_pos c]at h;cases h;exact⟨rfl,c⟩
  ·rw[if_neg c]at h;cases h
 ·cases h
theorem LU{k:Int}(h:(D.tup [.int k,.tup ps]).ek=true):∀p∈ps,p.ek=true:=by
 simp[D.ek,jT]at h;exact Et.mp h
theorem aa6{d:D}(h:∀xs,d≠.lst xs)(aR:d.ek=true:=by assumption):e9 d=.val d:=by
 cases d with
 |lst xs=>exact absurd rfl (h xs)|dX _ _=>simp[D.ek]at aR|_=>rfl
theorem r0{bg:b8}{d:D}(h:d.ek=true)(e:bg [d]=r):b4 bg (ah (ag 0) aG) (e9 d::σ)=r:=by
 rcases tm h with q | ⟨xs,rfl⟩
 ·rw[q];exact call_of (rs:=[.v d]) rfl e
 ·exact call_of (rs:=[.cp xs]) rfl e
section
variable{self:b8}{d:D}{n:Nat}(h:d.ek=true)
include h
theorem VG(aL:pn [d]=pure (.v (.aB true))):fnOf 2 2 (rQ self) [d,.int (n:Nat)]=pure (.v (.aB true)):=fO rfl (hV ((fQ (bT (r0 h aL))).trans rfl))
variable(aL:pn [d]=pure (.v (.aB false)))
include aL
theorem VD:fnOf 2 2 (rQ self) [d,.int (0:Nat)]=pure (.v (.aB false)):=fO rfl ((cU (eB (bT (r0 h aL)))).trans (hV ((fQ (vp (bT rfl))).trans rfl)))
theorem VF(aA:sJ [d]=pure (.v (.aB false))):fnOf 2 2 (rQ self) [d,.int (n+1:Nat)]=pure (.v (.aB false)):=fO rfl ((cU (eB (bT (r0 h aL)))).trans (hV ((fQ ((g0 (bT rfl)).trans (l4 (bT (r0 h aA))))).trans rfl)))
end
theorem VE{self:b8}{k:Int}{ps:List D}{p:D->Bool}(h:(D.tup [.int k,.tup ps]).ek=true)(aL:pn [.tup [.int k,.tup ps]]=pure (.v (.aB false)))(aA:sJ [.tup [.int k,.tup ps]]=pure (.v (.aB true)))(z:ps.length<ag5)(bk:∀q∈ps,self [q,.int (n:Nat)]=pure (.v (.aB (p q)))):fnOf 2 2 (rQ self) [.tup [.int k,.tup ps],.int (n+1:Nat)]=pure (.v (.aB (ps.all p))):=by
 have aH:((n+1:Nat):Int)-1=(n:Nat):=by omega
 refine fO rfl ((cU (eB (bT (r0 h aL)))).trans ((cU (eB ((g0 (bT rfl)).trans (e1 (bT (r0 h aA)))))).trans (jv (kW AA (cons_of (ud rfl z (comp_map (fun q=>D.aB (p q)) ps fun q bf=>SH (call_of (rs:=[.v q,.v (.int (((n+1:Nat):Int)-1))]) rfl ?_))) rfl)))));show self [q,.int (((n+1:Nat):Int)-1)]=_;rw[aH];exact bk q bf
theorem Kh:∀(n deep:Nat)(d:D),deep<n->d.ek=true->qT n [d,.int (deep:Nat)]=pure (.v (.aB (blt deep d)))
 |0,deep,d,h,_=>absurd h (ahV _)|n+1,deep,d,h,hd=>by
  have aL:=VT hd;have aA:=VS hd
  cases gL:d.gq with
  |true=>
   rw[gL]at aL;rw[show blt deep d=true by cases deep with | zero=>exact gL | succ m=>show(d.gq||_)=true;rw[gL];rfl];exact VG hd aL
  |false=>
   rw[gL]at aL
   cases deep with
   |zero=>rw[show blt 0 d=false from gL];exact VD hd aL|succ m=>
    have dS:blt (m+1) d=match d.fD with | some (_,ps)=>ps.all (blt m) | none=>false:=by show(d.gq||_)=_;rw[gL];rfl
    cases jH:d.fD with
    |none=>rw[jH]at aA dS;rw[dS];exact VF hd aL aA|some x=>
     rw[jH]at aA dS;obtain⟨rfl,aj,h2,bz⟩:=Bp (k:=x.1) (ps:=x.2) jH;rw[dS];exact VE hd aL aA (eJ (by omega)) fun p aP=>Kh n m p (akd h) (LU hd p aP)
theorem XZ{k:Int}{ps:List D}(h:(D.tup [.int k,.tup ps]).fD=some (k,ps)):fU (n+1) (.tup [.int k,.tup ps])=(ps.map (fU n)).flatten:=by
 show(match(D.tup [.int k,.tup ps]).fD with | some (_,ps)=>(ps.map (fU n)).flatten | none=>[])=_;rw[h]
theorem LN(k:Nat):∀c1:List D,((c1.map (fU k)).flatten).length<=c1.length*6 ^ k
 |[]=>ahC _|q::c1=>by
  rw[ahi,ak0,ag3,ahj,Nat.succ_mul];have:=En k q;have:=LN k c1;omega
theorem X0{k:Nat}{c1:List D}(h:k<=7)(bf:c1.length<=6):((c1.map (fU k)).flatten).length+(fU k d).length<=ag5:=by
 have a1:=LN k c1;have a2:=En k d;have rK:c1.length*6 ^ k<=6*6 ^ k:=akr _ bf;have wW:6 ^ k<=6 ^ 7:=ajE (by decide) h;rw[ahY];omega
inductive GI(k:Nat)(x:D)(ps:List D):Nat->a9->Prop
 |mk (i:Nat) (s:Slot):GI k x ps i [.val x,.b5 false ((ps.take i).map (fU k)).flatten,s]
theorem XY{self:b8}{k:Nat}{c:Int}{ps:List D}(hw:mZ [.tup [.int c,.tup ps]]=pure (.v (.aB false)))(T1:k<=7)(eO:ps.length<=6)(bk:∀p∈ps,self [p]=pure (.fr (fU k p))):fnOf 1 3 (tZ self) [.tup [.int c,.tup ps]]=pure (.fr (ps.map (fU k)).flatten):=by
 obtain⟨σ',e,h⟩:=o1 (b:=fun d σ=>yy self (σ.set 2 (.val d))) (ds:=ps) (σ:=[.val (.tup [.int c,.tup ps]),.b5 false [],.emp]) (GI k (.tup [.int c,.tup ps]) ps) (.mk 0 .emp) (fun i d σ hd h=>by
  cases h with
  |mk s=>
  have hm:=ahO hd;have bG:ps.take (i+1)=ps.take i++[d]:=by rw[ak1,hd];rfl
  refine⟨_,.inl ((Te rfl (cons_of (call_of (rs:=[.v d]) rfl (bk d hm)) rfl) (X0 T1 (by rw[ah9];omega))).trans ?_),.mk (i+1) (.val d)⟩;rw[bG,ahP,List.flatten_append];show _=pure (nr.a8 [_,.b5 false (_++(fU k d++[])),_]);rw[ahl];rfl)
 cases h with
 |mk s=>
 rw[ajF]at e;exact Jk rfl ((cU (eB (bT (call_of (rs:=[.v (.tup [.int c,.tup ps])]) rfl hw)))).trans ((cU (tb (σ:=[.val (.tup [.int c,.tup ps]),.emp,.emp]))).trans ((cU (x1 (it:=jP (au bJ (ag 0) (ai (.int 1)))) rfl e)).trans rfl)))
theorem LG:∀(n k:Nat)(d:D),k<n->k<=8->d.ek=true->blt k d=true->l1 n [d]=pure (.fr (fU k d))
 |0,k,d,h,_,_,_=>absurd h (ahV _)|n+1,k,d,h,CW,hd,U=>by
  cases gL:d.gq with
  |true=>
   cases d with
   |int i=>
    rw[show fU k (.int i)=[.int i]by cases k<;>rfl];exact Jk rfl (hV ((fQ (bT (call_of (rs:=[.v (.int i)]) rfl (u1 hd)))).trans rfl))
   |_=>exact absurd (show false=true from gL) ahd
  |false=>
   cases k with
   |zero=>rw[show blt 0 d=d.gq from rfl,gL]at U;cases U
   |succ k=>
    have dS:blt (k+1) d=match d.fD with | some (_,ps)=>ps.all (blt k) | none=>false:=by show(d.gq||_)=_;rw[gL];rfl
    rw[dS]at U
    cases jH:d.fD with
    |none=>rw[jH]at U;cases U
    |some x=>
     rw[jH]at U;obtain⟨rfl,aj,h2,bz⟩:=Bp (k:=x.1) (ps:=x.2) jH;rw[XZ jH];exact XY (u1 hd) (ajr CW) bz fun p aP=>LG n k p (akd h) (ak2 CW) (LU hd p aP) (ahH.mp U p aP)
theorem yn{d:D}(h:d.ek=true):pq [d]=pure (.v (.aB (oe d))):=by
 rw[<-Nl];have U:qT 12 [d,.int 4]=_:=Kh 12 4 d (by decide) h;simp only[pq,AM]
 cases e:blt 4 d with
 |false=>
  rw[e]at U;rcases tm h with q | ⟨xs,rfl⟩
  ·simp[-bind_assoc,-bind_pure_comp,q,U]
  ·simp[-bind_assoc,-bind_pure_comp,U]
 |true=>
  rw[e]at U;have aR:=LG 12 4 d (by decide) (by decide) h e;have ao:∀xs,d≠.lst xs:=fun xs z=>by subst z;cases e
  have aT:decide (((fU 4 d).length:Int)<=12)=decide ((fU 4 d).length<=12):=decide_eq_decide.mpr (by omega);simp[-bind_assoc,-bind_pure_comp,aa6 ao,U,aR,aT]
noncomputable def encM:Option (Nat×Nat)->D
 |none=>.ba|some (a,b)=>.tup [.int (a:Nat),.int (b:Nat)]
end b'
namespace b'
open PySem PySem.Spec ak aN g8 fB je
theorem OH(i:Int):mZ [.int i]=pure (.v (.aB true)):=by kernel_rfl
theorem OI(xs:List D):mZ [.tup xs]=pure (.v (.aB false)):=by kernel_rfl
theorem JG(m k:Nat):sI [bI m,bI k]=pure (.v (.aB (b7 m k))):=by
 have e:=QH m k;simp only[sI,AH,gQ];simp[-bind_assoc,-bind_pure_comp,e]
theorem Ec(bw:List Nat)(h:∀k∈bw,k<=1000):m4 [.lst (bw.map bI)]=pure (.v (bI (maskOf bw))):=by
 obtain⟨σ',e,s2,rfl⟩:=o1 (b:=fun d σ=>DW (σ.set 2 (.val d))) (ds:=bw.map bI) (σ:=[.cp (bw.map bI),.val (.int 0),.emp])
  (fun i σ=>∃s2,σ=[.cp (bw.map bI),.val (bI (maskOf (bw.take i))),s2]) ⟨_,rfl⟩ (fun i d σ hd ⟨s2,aE⟩=>by
   subst aE;obtain⟨k,aL,rfl⟩:=Eb hd;have uQ:=h k (ahO aL);refine⟨_,.inl (?_:_=pure (nr.a8 [.cp (bw.map bI),.val (bI (maskOf (bw.take (i+1)))),.val (bI k)])),_,rfl⟩;rw[take_snoc aL,Xl,gQ (_ ||| _),<-YG];have k1:(k:Int)<=1000000:=by omega
   simp only[DW,gQ];simp[-bind_assoc,-bind_pure_comp,k1])
 rw[ag4,ajF]at e;simp only[m4,Bc,HA,HB];simp[-bind_assoc,-bind_pure_comp,e]
theorem Kz(h:m<64):va [bI m]=pure (.fr ((ff m).map bI)):=by
 have U:=bits_le m h;have c:fR (bb (b4 sI (ah (ag 1) (ah (ag 0) aG)))) (ag 0) [.emp,.val (bI m)] ((ahU (bits m)).map bI)=pure (((ahU (bits m)).filter (b7 m)).map bI):=
  oT bI (b7 m) bI _ (fun k _=>by simp[-bind_assoc,-bind_pure_comp,JG]) fun k _ _=>by simp
 have bK:-4611686018427387904<=((bits m:Nat):Int)/\((bits m:Nat):Int)<4611686018427387904:=by omega
 have z:bits m<ag5:=eJ (by omega);rw[Wg];simp only[va,AN];simp only[gQ m]at c ⊢;simp[-bind_assoc,-bind_pure_comp,VI,bK,E3,z,c]
theorem Xm(h:m<64):yG [bI m]=pure (.v (.lst ((within (ff m)).map bI))):=by
 have aL:=Kz h;have DR:=DQ h;obtain⟨σ',e,s2,rfl⟩:=o1 (b:=fun d σ=>DX (σ.set 2 (.val d))) (ds:=(ff m).map bI) (σ:=[.val (bI m),.val (.lst [.int 0]),.emp])
  (fun i σ=>∃s2,σ=[.val (bI m),.val (.lst ((within ((ff m).take i)).map bI)),s2]) ⟨_,rfl⟩ (fun i d σ hd ⟨s2,aE⟩=>by
   subst aE;obtain⟨k,aL,rfl⟩:=Eb hd;have pe:k<6:=((Ee h).mp (ahO aL)).1;refine⟨_,.inl (?_:_=pure (nr.a8 [.val (bI m),.val (.lst ((within ((ff m).take (i+1))).map bI)),.val (bI k)])),_,rfl⟩;rw[take_snoc aL,OM,ahP,ajf];have mo:m4 [.lst [bI k]]=pure (.v (bI (2 ^ k))):=by
    have:=Ec [k] (by intro j bV;rw[ahJ.mp bV];omega)
    rwa[Ll]at this
   have wl:=OL ((ff m).take i);have gw:((ff m).take i).length<=6:=by rw[ah9];omega
   have ZJ:2 ^ ((ff m).take i).length<=2 ^ 6:=ajE (by decide) gw;generalize within ((ff m).take i)=ws at wl;have agZ:ws.length<=64:=by rw[wl];exact ZJ
   have c:fR fF (au es (ag 0) (b4 m4 (ah (dM (ah (ag 1) aG)) aG))) [.emp,.val (bI k)] (ws.map bI)=pure (ws.map (bI∘fun x=>x+2 ^ k)):=
    uc bI _ ws fun x _=>by
     simp[-bind_assoc,-bind_pure_comp,mo];rw[gQ x,gQ (2 ^ k)];simp[-bind_assoc,-bind_pure_comp,gQ]
   have kL:ws.length<ag5:=eJ (by omega);have e':ws.length+ws.length<=ag5:=ahM (eJ (by omega));simp only[DX];simp[-bind_assoc,-bind_pure_comp,c,kL,e'])
 rw[ag4,ajF]at e;simp only[yG,Bd,HC,HD];simp only[gQ m]at e aL ⊢;simp[-bind_assoc,-bind_pure_comp,aL,e]
theorem LF:∀(n:Nat)(r:aF),r.deep<n->r.names.length<=1000->l1 n [enc r]=pure (.fr (r.names.map bI))
 |0,r,h,_=>absurd h (ahV _)|n+1,.cv k,h,_=>by
  simp only[l1,tZ,iz,aF.names];simp[-bind_assoc,-bind_pure_comp,OH,gQ]
 |n+1,.ch k ps,h,ao=>by
  simp only[aF.deep]at h;simp only[aF.names]at ao ⊢;have dl:=kY (ps:=ps) (n:=n) (by omega);rw[hb];obtain⟨σ',e,s2,rfl⟩:=o1 (b:=fun d σ=>yy (l1 n) (σ.set 2 (.val d))) (ds:=ps.map enc) (σ:=[.val (.tup [.int (k:Nat),.tup (ps.map enc)]),.b5 false [],.emp])
   (fun i σ=>∃s2,σ=[.val (.tup [.int (k:Nat),.tup (ps.map enc)]),.b5 false ((aF.dx (ps.take i)).map bI),s2]) ⟨_,rfl⟩ (fun i d σ hd ⟨s2,aE⟩=>by
    subst aE;obtain⟨r,ay,rfl⟩:=Eb hd;have hm:=ahO ay;refine⟨_,.inl (?_:_=pure (nr.a8 [.val (.tup [.int (k:Nat),.tup (ps.map enc)]),.b5 false ((aF.dx (ps.take (i+1))).map bI),.val (enc r)])),_,rfl⟩;have bG:=take_snoc ay;have le:(aF.dx (ps.take (i+1))).length<=1000:=by
     have:aF.dx ps=aF.dx (ps.take (i+1))++aF.dx (ps.drop (i+1)):=by rw[<-pF,List.take_append_drop]
     rw[this,ag3]at ao;omega
    rw[bG,pF]at le ⊢;rw[show aF.dx [r]=r.names from ahl _]at le ⊢;rw[ag3]at le;have bk:=LF n r (dl r hm) (by omega);have z:(aF.dx (ps.take i)).length+r.names.length<=ag5:=ahM (eJ (by omega));simp only[yy];simp[-bind_assoc,-bind_pure_comp,bk,z])
  rw[ag4,ajF]at e;simp only[l1,tZ,HE,HF,HG];simp[-bind_assoc,-bind_pure_comp,OI,e]
theorem named_eq{r:aF}(hw:r.wf)(hd:r.deep<12)(ao:r.names.length<=1000):yH [enc r]=pure (.v (bI (maskOf r.names))):=by
 have aj:=LF 12 r hd ao;have h2:=Ec r.names fun k aL=>by have:=qW r hw k aL;omega
 simp only[yH,Be];simp[-bind_assoc,-bind_pure_comp,aj,h2]
theorem Jd(m:Nat):∀(n:Nat)(r:aF),r.deep<n->r.wf->mY n [enc r,bI m]=pure (.v (.aB (r.fills (b7 m))))
 |0,r,h,_=>absurd h (ahV _)|n+1,.cv k,h,hw=>by
  have aL:=JG m k;simp only[mY,w2,iz,aF.fills];simp only[gQ]at aL ⊢;simp[-bind_assoc,-bind_pure_comp,OH,aL]
 |n+1,.ch k ps,h,hw=>by
  simp only[aF.deep]at h;simp only[aF.wf]at hw;have dl:=kY (ps:=ps) (n:=n) (by omega);have wl:=i_.mp hw.2.2.2;rw[hb];have c:fR (bb (b4 (mY n) (ah (ag 0) (ah (ag 1) aG)))) (ag 0) [.emp,.val (bI m)] (ps.map enc)=pure ((ps.filter (aF.fills (b7 m))).map enc):=
   oT enc (aF.fills (b7 m)) enc ps (fun r ay=>by simp[-bind_assoc,-bind_pure_comp,Jd m n r (dl r ay) (wl r ay)]) fun r _ _=>by simp
  have z:ps.length<ag5:=eJ (by omega);have e:decide (((k:Nat):Int)<=(aF.cnt (b7 m) ps:Nat))=decide (k<=aF.cnt (b7 m) ps):=decide_eq_decide.mpr (by omega);simp only[mY,w2,GZ,aF.fills];simp only[gQ m]at c ⊢;simp[-bind_assoc,-bind_pure_comp,OI,c,z,xo,e]
theorem VU(h:m<64)(bO:List Nat):u' [bI m,.lst (bO.map bI)]=pure (.v (.aB (sv bO m))):=by
 have aL:=Kz h;have DR:=DQ h;have fN:(bO.map bI).all D.flat=true:=by rw[List.all_map];exact ahH.mpr fun _ _=>rfl
 have c:fR fF (au (vk false) (au ob (ag 1) (b4 m4 (ah (dM (ah (ag 0) aG)) aG))) (ag 2)) [.emp,.val (bI m),.cp (bO.map bI)] ((ff m).map bI)=pure ((ff m).map fun k=>D.aB (bO.contains (m-2 ^ k))):=
  uc bI _ (ff m) fun k aL=>by
   obtain⟨pe,Ky⟩:=(Ee h).mp aL;have mo:m4 [.lst [bI k]]=pure (.v (bI (2 ^ k))):=by
    have:=Ec [k] (by intro j bV;rw[ahJ.mp bV];omega)
    rwa[Ll]at this
   have SW:=(IS h pe Ky).1;have i5:(m:Int)-((2 ^ k:Nat):Int)=((m-2 ^ k:Nat):Int):=by
    by_cases z:2 ^ k<=m
    ·omega
    ·exfalso
     have all:∀m:_root_.Fin 64,∀k:_root_.Fin 6,b7 m.val k.val=true->2 ^ k.val<=m.val:=by decide +kernel
     exact z (all ⟨m,h⟩ ⟨k,pe⟩ Ky)
   have key:vk false (.v (bI (m-2 ^ k))) (.cp (bO.map bI))=pure (.v (.aB (bO.contains (m-2 ^ k)))):=by
    show(if(bI (m-2 ^ k)).flat=true/\(bO.map bI).all D.flat=true then pure (R.v (D.aB (if false=true then !inD (bI (m-2 ^ k)) (bO.map bI)else inD (bI (m-2 ^ k)) (bO.map bI))))else bad)=_;rw[if_pos ⟨rfl,fN⟩,if_neg ahd,VH]
   have abf:ob (.v (bI m)) (.v (bI (2 ^ k)))=pure (.v (bI (m-2 ^ k))):=by
    show pure (R.v (D.int ((m:Int)-((2 ^ k:Nat):Int))))=_;rw[i5];rfl
   simp[-bind_assoc,-bind_pure_comp,mo,abf,key]
 have z:(ff m).length<ag5:=eJ (by omega);have f_:((ff m).map fun k=>bO.contains (m-2 ^ k)).any id=(ff m).any fun k=>bO.contains (m-2 ^ k):=by rw[List.any_map];rfl
 have bm:=xe (fun k=>bO.contains (m-2 ^ k)) (ff m);unfold sv;rw[<-f_];simp only[u',AK];simp only[gQ m]at c aL ⊢;simp only[List.contains_eq_mem]at c bm ⊢;simp[-bind_assoc,-bind_pure_comp,aL,c,z,bm]
theorem KZ{r:aF}(hw:r.wf)(hd:r.deep<12)(ao:r.names.length<=1000):vc [enc r]=pure (.fr ((least r).map bI)):=by
 have aj:=named_eq hw hd ao;have hk:=yK r hw;have h2:=Xm hk;have wl:(within (ff (maskOf r.names))).length<=64:=by
  rw[OL];have:=DQ hk;show _<=2 ^ 6;exact ajE (by decide) this
 have cy:fR (bb (b4 (mY 12) (ah (ag 1) (ah (ag 0) aG)))) (ag 0) [.emp,.val (enc r)] ((within (ff (maskOf r.names))).map bI)=pure ((filling r (maskOf r.names)).map bI):=
  oT bI (fun m=>r.fills (b7 m)) bI _ (fun m _=>by simp[-bind_assoc,-bind_pure_comp,Jd m 12 r hd hw]) fun m _ _=>by simp
 have TA:∀x∈filling r (maskOf r.names),x<64:=fun x av=>((yL hk).mp av).1
 have agr:(filling r (maskOf r.names)).length<=64:=ahL (List.length_filter_le _ _) wl;have au:fR (bb (b4 u' (ah (ag 0) (ah (ag 1) aG)))) (ag 0) [.emp,.val (.lst ((filling r (maskOf r.names)).map bI))] ((filling r (maskOf r.names)).map bI)=pure ((least r).map bI):=
  oT bI (sv (filling r (maskOf r.names))) bI _ (fun m hm=>by simp[-bind_assoc,-bind_pure_comp,VU (TA m hm)]) fun m _ _=>by simp
 have kL:(within (ff (maskOf r.names))).length<ag5:=eJ (by omega);have e':(filling r (maskOf r.names)).length<ag5:=eJ (by omega);simp only[vc,Bb,Hz];simp[-bind_assoc,-bind_pure_comp,aj,h2,cy,kL,au,e']
end b'
namespace b'
open PySem PySem.Spec ak aN g8
noncomputable def eH(r:aF):D:=.tup [enc r,.int (r.deep:Nat),.int (r.names.length:Nat)]
def Good(r:aF):Prop:=r.wf/\r.deep<=4/\r.names.length<=12
theorem Cd:∀(rs:List aF)(r:aF),aF.dm (rs++[r])=max (aF.dm rs) r.deep
 |[],r=>Nat.max_comm _ _| x::rs,r=>by show max x.deep (aF.dm (rs++[r]))=max (max x.deep (aF.dm rs)) r.deep;rw[Cd rs r];exact(alQ _ _ _).symm
theorem LD(rs:List aF)(r:aF):(aF.dx (rs++[r])).length=(aF.dx rs).length+r.names.length:=by
 rw[pF,ag3];show _+(r.names++[]).length=_;rw[ahl]
noncomputable def iD(most need:Int)(st ps:List aF)(s:Slot):a9:=[.b5 true (st.map eH),.val (.int most),.val (.int need),.b5 false (ps.map enc),.val (.int (aF.dm ps:Nat)),.val (.int ((aF.dx ps).length:Nat)),s]
inductive Ag(most need:Int)(N:Nat):a9->Prop
 |mk (st ps:List aF) (s:Slot) (g1:∀r∈st,Good r) (g2:aF.ic ps) (hd:aF.dm ps<=3) (eO:(ps.length:Int)<=most) (aR:(aF.dx ps).length<=12) (ao:st.length+ps.length=N):Ag most need N (iD most need st ps s)
noncomputable def Kr:a9->M Bool:=i7 (bb (au n9 (cb d3 (ah (ag 0) aG)) (ai (.int 0)))) (i7 (bb (au oLt (cb d3 (ah (ag 3) aG)) (ag 1))) (i7 (bb (au oLt (au bJ (au bJ (ag 0) (cy i1 (ai (.int 1)))) (ai (.int 1))) (ai (.int 4)))) (bb (au oLe (au es (ag 5) (au bJ (au bJ (ag 0) (cy i1 (ai (.int 1)))) (ai (.int 2)))) (ai (.int 12))))))
section
variable{most need:Int}{st ps:List aF}{r:aF}{s:Slot}
theorem Kq:au bJ (ag 0) (cy i1 (ai (.int 1))) (iD most need (st++[r]) ps s)=pure (.v (eH r)):=by
 have bP:d7 (st.map eH++[eH r]) (-1)=some (eH r):=GU _ _;unfold iD;rw[ahP];simp[-bind_assoc,-bind_pure_comp,bP]
theorem V7:Kr (iD most need (st++[r]) ps s)=pure (decide ((ps.length:Int)<most)&&(decide ((r.deep:Int)<4)&&decide (((aF.dx ps).length:Int)+r.names.length<=12))):=by
 have aH:bb (au n9 (cb d3 (ah (ag 0) aG)) (ai (.int 0))) (iD most need (st++[r]) ps s)=pure true:=by
  show pure (decide ((0:Int)<(((st++[r]).map eH).length:Nat)))=_;rw[ag4,ag3,decide_eq_true (by rw[ahm];omega)]
 have aT:bb (au oLt (cb d3 (ah (ag 3) aG)) (ag 1)) (iD most need (st++[r]) ps s)=pure (decide ((ps.length:Int)<most)):=by
  show pure (decide (((ps.map enc).length:Int)<most))=_;rw[ag4]
 have dt:bb (au oLt (au bJ (au bJ (ag 0) (cy i1 (ai (.int 1)))) (ai (.int 1))) (ai (.int 4))) (iD most need (st++[r]) ps s)=pure (decide ((r.deep:Int)<4)):=bT (bX rfl (bX rfl Kq rfl) rfl);have gY:bb (au oLe (au es (ag 5) (au bJ (au bJ (ag 0) (cy i1 (ai (.int 1)))) (ai (.int 2)))) (ai (.int 12))) (iD most need (st++[r]) ps s)=pure (decide (((aF.dx ps).length:Int)+r.names.length<=12)):=bT (bX rfl (bX rfl rfl (bX rfl Kq rfl)) rfl);refine(rL aH).trans ?_;generalize decide ((ps.length:Int)<most)=A at aT;generalize decide ((r.deep:Int)<4)=B at dt
 cases A with
 |false=>exact oM aT|true=>
  refine(rL aT).trans ?_
  cases B with
  |false=>exact oM dt|true=>exact(rL dt).trans gY
theorem V5(aX:ps.length<ag5):DU (iD most need (st++[r]) ps s)=pure (.a8 (iD most need st (ps++[r]) (.val (eH r)))):=by
 have em:(if((r.deep:Nat):Int) > ((aF.dm ps:Nat):Int)then((r.deep:Nat):Int)else((aF.dm ps:Nat):Int))=((max (aF.dm ps) r.deep:Nat):Int):=by split<;>omega
 refine(cU (Zq (xs:=st.map eH) (d:=eH r) (by unfold iD;rw[ahP];rfl))).trans ((cU (wX rfl rfl (by rw[ag4];exact aX))).trans ((cU (d6 rfl)).trans ((d6 rfl).trans ?_)));show pure (nr.a8 [.b5 true (st.map eH),.val (.int most),.val (.int need),.b5 false (ps.map enc++[enc r]),.val (.int (if((r.deep:Nat):Int) > ((aF.dm ps:Nat):Int)then((r.deep:Nat):Int)else((aF.dm ps:Nat):Int))),.val (.int (((aF.dx ps).length+r.names.length:Nat):Int)),.val (eH r)])=_;unfold iD;rw[em,ahP,Cd,LD];rfl
theorem V6(aP:0<ps.length)(bf:1+need % (ps.length:Int)=(q:Nat))(aX:st.length<ag5):AZ (iD most need st ps s)=pure (.a8 ((iD most need st ps s).set 0 (.b5 true ((st++[aF.ch q ps]).map eH)))):=by
 have jN:(0:Int)<(ps.length:Int):=by omega
 have e:eF (ah (au es (ai (.int 1)) (au oMod (ag 2) (cb d3 (ah (ag 3) aG)))) (ah (cb nP (ah (ag 3) aG)) aG)) (iD most need st ps s)=pure (.v (enc (.ch q ps))):=by
  unfold iD;simp[-bind_assoc,-bind_pure_comp,jN,aP,bf,hb]
 rw[ahP];exact(fQ (bT (bX (show n9 (.v (.int ((ps.map enc).length:Nat))) (.v (.int 0))=pure (.v (.aB true))by rw[ag4];exact congrArg (fun b=>pure (R.v (.aB b))) (decide_eq_true jN)) rfl rfl))).trans (wX rfl (cons_of (N8 e rfl rfl) rfl) (by rw[ag4];exact aX))
end
theorem join_eq{st:List aF}{most need:Int}(Dv:∀r∈st,Good r)(ao:st.length<=100)(hm:1<=most)(agz:most<=6) :
  ∃b2:List aF,vb [.lst (st.map eH),.int most,.int need]=pure (b2.map eH)/\(∀r∈b2,Good r)/\b2.length<=st.length:=by
 obtain⟨σ',e,h⟩:=OG (b:=DU) (c:=Kr) (Ag most need st.length) (fun σ=>match σ[(0:Nat)]? with | some (.b5 _ xs)=>xs.length | _=>0) (Ag most need st.length)
  (fun σ h=>by
   cases h with
   |mk a3 ps s g1 g2 hd eO aR hlen=>
   rcases akj a3 with rfl | ⟨cW,r,rfl⟩
   ·exact .inl ⟨oM (bT rfl),.mk [] ps s g1 g2 hd eO aR hlen⟩
   ·rw[akk]at g1 hlen ⊢
    have t:=V7 (most:=most) (need:=need) (st:=cW) (ps:=ps) (r:=r) (s:=s)
    cases U:(decide ((ps.length:Int)<most)&&(decide ((r.deep:Int)<4)&&decide (((aF.dx ps).length:Int)+r.names.length<=12)))with
    |false=>rw[U]at t;exact .inl ⟨t,.mk _ ps s g1 g2 hd eO aR hlen⟩|true=>
     rw[U]at t;rw[ahn,ahn,decide_eq_true_eq,decide_eq_true_eq,decide_eq_true_eq]at U;obtain⟨cy,au,d1⟩:=U;rw[ag3,ahm]at hlen;refine .inr ⟨t,_,.inl (V5 (eJ (by omega))),.mk cW (ps++[r]) _ (fun x av=>g1 x (aiE _ av)) (i_.mpr fun x av=>(ahI.mp av).elim (i_.mp g2 x) fun av=>ahJ.mp av▸(g1 r (ahp _ ahb)).1) (by rw[Cd];omega) (by rw[ag3,ahm];omega) (by rw[LD];omega) (by rw[ag3,ahm];omega),?_⟩;show(cW.map eH).length<((cW++[r]).map eH).length;rw[ag4,ag4,ag3];exact alj _)
  mh (iD most need st [] .emp) (.mk st [] .emp Dv trivial (ahC _) (by show(0:Int)<=most;omega) (ahC _) rfl) (Gj (by show(st.map eH).length < _;rw[ag4];omega))
 have go:AY [.b5 true (st.map eH),.val (.int most),.val (.int need),.emp,.emp,.emp,.emp]=AZ σ':=(cU tb).trans ((cU (d6 rfl)).trans ((cU (d6 rfl)).trans (cU e)))
 cases h with
 |mk a3 ps s g1 g2 hd eO aR hlen=>
 by_cases aX:ps=[]
 ·subst aX
  exact⟨a3,Jn (ds:=[.int most,.int need]) (go.trans ((eB (bT rfl)).trans rfl)) rfl,g1,by omega⟩
 ·have aP:0<ps.length:=List.length_pos_iff.mpr aX
  have hm:=mod_lt (a:=need) (b:=(ps.length:Int)) (by omega);have bf:1+need % (ps.length:Int)=((1+need % (ps.length:Int)).toNat:Nat):=by omega
  refine⟨a3++[.ch (1+need % (ps.length:Int)).toNat ps],Jn (ds:=[.int most,.int need]) (go.trans (V6 aP bf (eJ (by omega)))) rfl,fun x av=>(ahI.mp av).elim (g1 x) fun av=>?_,by rw[ag3,ahm];omega⟩;rw[ahJ.mp av];exact⟨⟨by omega,by omega,by omega,g2⟩,ajd hd,aR⟩
inductive wC(ns:List Int):Nat->a9->Prop
 |mk (i:Nat) (st:List aF) (s:Slot) (g:∀r∈st,Good r) (ao:st.length<=i):wC ns i [.cp (ns.map D.int),.b5 false (st.map eH),s]
section
variable{c:Int}{v s:Slot}{xs ys:List D}{st:List aF}{r:aF}{k:Nat}
theorem Lb:bb (au oEq (au oMod (ag 2) (ai (.int 4))) (ai (.int 0))) [v,s,.val (.int c)]=pure (decide (c % 4=0)):=rfl
theorem La:au oMod (au gs (ag 2) (ai (.int 4))) (ai (.int 6)) [v,s,.val (.int c)]=pure (.v (.int (c / 4 % 6))):=by
 have Bz:jz c 4:=k4 (by decide) (by decide);simp[-bind_assoc,-bind_pure_comp,Bz]
theorem Xc:au oMod (au gs (ag 2) (ai (.int 24))) (ai (.int 60)) [v,s,.val (.int c)]=pure (.v (.int (c / 24 % 60))):=by
 have Sy:jz c 24:=k4 (by decide) (by decide);simp[-bind_assoc,-bind_pure_comp,Sy]
theorem Xb(h:c % 4=0)(iV:vb [.lst xs,.int (1+c / 4 % 6),.int (c / 24 % 60)]=pure ys):yx [v,.b5 false xs,.val (.int c)]=pure (.a8 [v,.b5 false ys,.val (.int c)]):=
 (fQ (Lb.trans (by rw[decide_eq_true h]))).trans (Kf (rs:=[.v (.int (1+c / 4 % 6)),.v (.int (c / 24 % 60))]) (cons_of (bX rfl rfl La) (cons_of Xc rfl)) rfl rfl iV)
theorem W'(h:¬c % 4=0)(aL:c / 4 % 6=(k:Nat))(aX:st.length<ag5):yx [v,.b5 false (st.map eH),.val (.int c)]=pure (.a8 [v,.b5 false ((st++[aF.cv k]).map eH),.val (.int c)]):=by
 rw[ahP];exact(eB (Lb.trans (by rw[decide_eq_false h]))).trans (wX rfl (cons_of (N8 (La.trans (by rw[aL,iz])) rfl rfl) rfl) (by rw[ag4];exact aX))
theorem Xa:A9 [v,.b5 false ((st++[r]).map eH),s]=pure (.cA (.v (enc r))):=by
 have bP:d7 (st.map eH++[eH r]) (-1)=some (eH r):=GU _ _;have e:au bJ (ag 1) (cy i1 (ai (.int 1))) [v,.b5 false ((st++[r]).map eH),s]=pure (.v (eH r)):=by rw[ahP];simp[-bind_assoc,-bind_pure_comp,bP]
 have z:bb (au oEq (cb d3 (ah (ag 1) aG)) (ai (.int 0))) [v,.b5 false ((st++[r]).map eH),s]=pure false:=by
  rw[ahP];show pure (decide (((st.map eH++[eH r]).length:Int)=0))=_;rw[ag3,decide_eq_false (by rw[ahm];omega)]
 exact(cU (eB z)).trans (jv (bX rfl e rfl))
theorem K':∀st:List aF,(∀r∈st,Good r)->∃r:aF,Good r/\A9 [v,.b5 false (st.map eH),s]=pure (.cA (.v (enc r))):=fun st g=>by
 rcases akj st with rfl | ⟨cW,r,rfl⟩
 ·exact⟨.cv 0,⟨by show 0<6;decide,ahC _,by show 1<=12;decide⟩,(hV (fQ (bT rfl))).trans (by rw[iz];rfl)⟩
 ·rw[akk]at g ⊢
  exact⟨r,g r (ahp _ ahb),Xa⟩
end
theorem WM(ns:List Int)(aR:ns.length<=63):∃r:aF,Good r/\yE [.lst (ns.map D.int)]=pure (.v (enc r)):=by
 obtain⟨σ',e,h⟩:=o1 (b:=fun d σ=>yx (σ.set 2 (.val d))) (ds:=ns.map D.int) (σ:=[.cp (ns.map D.int),.b5 false [],.emp]) (wC ns) (.mk 0 [] .emp (fun _ h=>(nomatch h)) (ahg _)) (fun i d σ hd h=>by
   cases h with
   |mk st s g ao=>
   have aC:=(ahe.mp hd).1;rw[ag4]at aC;rw[ahA]at hd;obtain⟨c,_,rfl⟩:=aj8.mp hd;have agJ:=mod_lt (a:=c / 4) (b:=6) (by decide)
   by_cases mB:c % 4=0
   ·obtain⟨b2,iV,g',nX⟩:=join_eq (st:=st) (most:=1+c / 4 % 6) (need:=c / 24 % 60) g (by omega) (by omega) (by omega)
    exact⟨_,.inl (Xb mB iV),.mk _ b2 _ g' (by omega)⟩
   ·exact⟨_,.inl (W' (k:=(c / 4 % 6).toNat) mB (by omega) (eJ (by omega))),.mk _ _ _ (fun x av=>(ahI.mp av).elim (g x) fun av=>by
     rw[ahJ.mp av];exact⟨by show _<6;omega,ahC _,by show 1<=12;decide⟩) (by rw[ag3,ahm];omega)⟩)
 have go:A8 [.cp (ns.map D.int),.emp,.emp]=Ho σ':=(cU tb).trans (cU (x1 rfl e))
 cases h with
 |mk st s g ao=>
 rw[ag4]at ao;have t:bb (au n9 (cb d3 (ah (ag 1) aG)) (ai (.int 1))) [.cp (ns.map D.int),.b5 false (st.map eH),s]=pure (decide ((1:Int)<(st.length:Int))):=by
  show pure (decide ((1:Int)<((st.map eH).length:Int)))=_;rw[ag4]
 by_cases aj:(1:Int)<(st.length:Int)
 ·rw[decide_eq_true aj]at t
  match ns,ao with
  |[],ao=>rw[aiy]at ao;omega|mA::rest,ao=>
   obtain⟨b2,iV,g',nX⟩:=join_eq (st:=st) (most:=6) (need:=mA / 4 % 60) g (by omega) (by omega) (by omega);obtain⟨r,CU,Cw⟩:=K' (v:=.cp ((mA::rest).map D.int)) (s:=s) b2 g';have Bz:jz mA 4:=k4 (by decide) (by decide);exact⟨r,CU,fO rfl (go.trans ((cU ((fQ t).trans (Kf (rs:=[.v (.int 6),.v (.int (mA / 4 % 60))]) (cons_of rfl (cons_of (bX rfl (bX (oV Bz) (by simp) rfl) rfl) rfl)) rfl rfl iV))).trans Cw))⟩
 ·rw[decide_eq_false aj]at t
  obtain⟨r,CU,Cw⟩:=K' (v:=.cp (ns.map D.int)) (s:=s) st g;exact⟨r,CU,fO rfl (go.trans ((cU (eB t)).trans Cw))⟩
end b'
namespace b'
open PySem PySem.Spec ak aN g8 fB je
theorem RG(ns:List Int)(k:Nat):m1 [.lst (ns.map D.int),.int (k:Nat)]=pure (.v (.int (ns.getD k 0))):=by
 simp only[m1,AQ,Hc]
 by_cases h:k<ns.length
 ·simp[-bind_assoc,-bind_pure_comp,h,PN h]
 ·simp[-bind_assoc,-bind_pure_comp,h]
theorem WD:∀{k:Nat},k<6->D8 [bI k]=pure (.v (bI (2 ^ k)))
 |0,_=>rfl|1,_=>rfl|2,_=>rfl|3,_=>rfl|4,_=>rfl|5,_=>rfl| n+6,h=>absurd h (by omega)
theorem SQ{m k:Nat}(h:k<6):gs (.v (bI m)) (.v (bI (2 ^ k)))=pure (.v (bI (m / 2 ^ k))):=by
 have c:jz (m:Int) ((2 ^ k:Nat):Int):=k4 ((show ∀k:Nat,k<6->(0:Int)<((2 ^ k:Nat):Int)by decide) k h) ((show ∀k:Nat,k<6->((2 ^ k:Nat):Int)<10 ^ 200 by decide) k h);show(if jz (m:Int) ((2 ^ k:Nat):Int)then pure (R.v (D.int ((m:Int) / ((2 ^ k:Nat):Int))))else bad)=_;rw[if_pos c];rfl
theorem Xu(x:Nat):(((x:Int) % 2)==1)=(x % 2==1):=by
 rw[aif,beq_iff_eq,beq_iff_eq];omega
theorem DY(m:Nat):∀(n:Nat)(r:aF),r.deep<n->r.wf->m2 n [enc r,bI m]=pure (.v (.aB (r.fills (b7 m))))
 |0,r,h,_=>absurd h (ahV _)|n+1,.cv k,h,hw=>by
  have pe:k<6:=hw;have U:=WD pe;have hd:=SQ (m:=m) pe;have aT:=Xu (m / 2 ^ k);simp only[m2,w6,iz,aF.fills];simp only[gQ k,gQ m]at U hd ⊢;have dt:((((m / 2 ^ k:Nat):Int) % 2)==1)=b7 m k:=aT;simp[-bind_assoc,-bind_pure_comp,U,hd];rw[gQ];simp[-bind_assoc,-bind_pure_comp,-Int.natCast_ediv,dt]
 |n+1,.ch k ps,h,hw=>by
  simp only[aF.deep]at h;simp only[aF.wf]at hw;have dl:=kY (ps:=ps) (n:=n) (by omega);have wl:=i_.mp hw.2.2.2;rw[hb];have c:fR (bb (b4 (m2 n) (ah (ag 0) (ah (ag 1) aG)))) (ag 0) [.emp,.val (bI m)] (ps.map enc)=pure ((ps.filter (aF.fills (b7 m))).map enc):=
   oT enc (aF.fills (b7 m)) enc ps (fun r ay=>by simp[-bind_assoc,-bind_pure_comp,DY m n r (dl r ay) (wl r ay)]) fun r _ _=>by simp
  have z:ps.length<ag5:=eJ (by omega);have e:decide (((k:Nat):Int)<=(aF.cnt (b7 m) ps:Nat))=decide (k<=aF.cnt (b7 m) ps):=decide_eq_decide.mpr (by omega);simp only[m2,w6,Hd,aF.fills];simp only[gQ m]at c ⊢;simp[-bind_assoc,-bind_pure_comp,c,z,xo,e]
theorem KQ:∀(n:Nat)(r:aF),r.deep<n->r.wf->pv n [enc r]=pure (.v (enc (gX r)))
 |0,r,h,_=>absurd h (ahV _)|n+1,.cv k,h,hw=>by
  simp only[pv,AR,iz,gX];simp
 |n+1,.ch k ps,h,hw=>by
  simp only[aF.deep]at h;simp only[aF.wf]at hw;have dl:=kY (ps:=ps) (n:=n) (by omega);have wl:=i_.mp hw.2.2.2;rw[hb];have c:fR fF (b4 (pv n) (ah (ag 0) aG)) [.emp] (ps.map enc)=pure (ps.map (enc∘gX)):=
   uc enc _ ps (fun r ay=>by simp[-bind_assoc,-bind_pure_comp,KQ n r (dl r ay) (wl r ay)])
  have z:ps.length<ag5:=eJ (by omega);have e:((ps.map enc).length:Int)-(k:Int)+1=((ps.length-k+1:Nat):Int):=by rw[ag4];omega
  rw[S2,hb,ajf];exact fO rfl ((cU (eB (e1 (bT rfl)))).trans (jv (F' (bX (show es (.v (.int (((ps.map enc).length:Int)-(k:Int)))) (.v (.int 1))=pure (.v (.int ((ps.length-k+1:Nat):Int)))from congrArg (fun i=>pure (R.v (.int i))) e) rfl rfl) (kW rfl (cons_of (ud rfl (by rw[ag4];exact z) c) rfl)))))
noncomputable def Kp:bj:=au oMod (au gs (ag 1) (ai (.int 2))) (cb d3 (ah (au bJ (ag 0) (ai (.int 1))) aG))
section
variable{self:b8}{k c:Int}{ds as bs:List D}{j:Nat}{x y:D}{s:Slot}
theorem KX(ao:0<ds.length)(bV:c / 2 % (ds.length:Int)=(j:Nat)):Kp [.val (.tup [.int k,.tup ds]),.val (.int c),s]=pure (.v (.int (j:Nat))):=by
 have nX:(0:Int)<(ds.length:Int):=by omega
 unfold Kp;simp[-bind_assoc,-bind_pure_comp,ao,nX,bV]
theorem KY:bb (au oEq (au oMod (ag 1) (ai (.int 2))) (ai (.int 0))) [.val x,.val (.int c),s]=pure (decide (c % 2=0)):=rfl
theorem le_0(aA:c % 2=0)(ao:0<ds.length)(bV:c / 2 % (ds.length:Int)=(j:Nat)):fnOf 2 3 (w5 self) [.tup [.int k,.tup ds],.int c]=pure (.v (.tup [.int (1+j:Nat),.tup ds])):=
 fO rfl ((cU (eB (e1 (bT rfl)))).trans (hV ((fQ (KY.trans (by rw[decide_eq_true aA]))).trans (jv (F' (bX rfl rfl (KX ao bV)) rfl)))))
theorem WS(aA:¬c % 2=0)(ao:0<ds.length)(bV:c / 2 % (ds.length:Int)=(j:Nat))(Di:d7 ds (j:Int)=some x)(um:self [x,.int (c / 12)]=pure (.v y))
  (f_:oP (au bJ (ag 0) (ai (.int 1))) gI (eX (ag 2)) [.val (.tup [.int k,.tup ds]),.val (.int c),.val (.int (j:Nat))]=pure (.v (.tup as))) (dS:oP (au bJ (ag 0) (ai (.int 1))) (eX (au es (ag 2) (ai (.int 1)))) gI [.val (.tup [.int k,.tup ds]),.val (.int c),.val (.int (j:Nat))]=pure (.v (.tup bs))) (z:(as++[y]).length+bs.length<=ag5) :
  fnOf 2 3 (w5 self) [.tup [.int k,.tup ds],.int c]=pure (.v (.tup [.int k,.tup (as++[y]++bs)])):=by
 have Sx:jz c 12:=k4 (by decide) (by decide);have ex:au bJ (au bJ (ag 0) (ai (.int 1))) (ag 2) [.val (.tup [.int k,.tup ds]),.val (.int c),.val (.int (j:Nat))]=pure (.v x):=by simp[-bind_assoc,-bind_pure_comp,Di]
 have GB:as.length+[y].length<=ag5:=by rw[ag3]at z;omega
 exact fO rfl ((cU (eB (e1 (bT rfl)))).trans ((cU (eB (KY.trans (by rw[decide_eq_false aA])))).trans ((cU (d6 (KX ao bV))).trans
  (jv (F' rfl (bX (Ii z) (bX (Ii GB) f_ (abU (call_of (rs:=[.v x,.v (.int (c / 12))]) (cons_of ex (cons_of (bX (oV Sx) rfl rfl) rfl)) um))) dS))))))
end
theorem KR:∀(n:Nat)(r:aF)(c:Int),r.deep<n->r.wf->∃bq:aF,sM n [enc r,.int c]=pure (.v (enc bq))/\bq.wf/\bq.deep=r.deep/\bq.names=r.names
 |0,r,c,h,_=>absurd h (ahV _)| n+1,.cv k,c,h,hw=>⟨.cv k,by rw[iz];exact fO rfl (hV (fQ (l4 (bT rfl)))),hw,rfl,rfl⟩
 |n+1,.ch k de,c,h,hw=>by
  have sq:1<=k/\k<=de.length/\de.length<=6/\aF.ic de:=hw;have ao:0<(de.map enc).length:=by rw[ag4];omega
  have hm:=mod_lt (a:=c / 2) (b:=((de.map enc).length:Int)) (by omega);obtain⟨j,bV⟩:∃j:Nat,c / 2 % ((de.map enc).length:Int)=(j:Nat):=⟨(c / 2 % ((de.map enc).length:Int)).toNat,by omega⟩;have mS:j<de.length:=by rw[ag4]at hm bV;omega
  by_cases au:c % 2=0
  ·exact⟨.ch (1+j) de,by rw[hb,hb];exact le_0 au ao bV,⟨by omega,by omega,sq.2.2⟩,rfl,rfl⟩
  ·have bf:de[j]∈de:=ali mS
   obtain⟨vC,um,wi,SN,vg⟩:=KR n de[j] (c / 12) (kY (akd h) _ bf) (i_.mp sq.2.2.2 _ bf);have Di:d7 (de.map enc) (j:Int)=some (enc de[j]):=tX j (by simp[mS]);have vd:¬(cS.ct de.length 0 none=0/\cS.ct de.length de.length (some (j:Int))=de.length):=by
    rintro⟨_,z⟩;rw[cS.pQ]at z;omega
   have lr:¬(cS.ct de.length 0 (some ((j:Int)+1))=0/\cS.ct de.length de.length none=de.length):=by
    rintro⟨z,_⟩;rw[show((j:Int)+1)=((j+1:Nat):Int)by omega,cS.pQ]at z;omega
   have Bq:cutD (de.map enc) none (some (j:Int))=(de.take j).map enc:=by rw[Su,List.map_take]
   have RP:cutD (de.map enc) (some ((j:Int)+1)) none=(de.drop (j+1)).map enc:=by
    rw[show((j:Int)+1)=((j+1:Nat):Int)by omega,Bv,List.map_drop]
   have sp:de=de.take j++[de[j]]++de.drop (j+1):=by
    rw[aht,List.singleton_append,<-List.drop_eq_getElem_cons mS,List.take_append_drop]
   have len:(de.take j++[vC]++de.drop (j+1)).length=de.length:=by
    rw[ag3,ag3,ah9,ahm,ahz];omega
   refine⟨.ch k (de.take j++[vC]++de.drop (j+1)),?_,?_,?_,?_⟩
   ·have z:((de.take j).map enc++[enc vC]).length+((de.drop (j+1)).map enc).length<=6:=by
     rw[ag3,ag4,ag4,ah9,ahz,ahm];omega
    rw[hb,hb,ahP,ahP];exact WS au ao bV Di um (by simp[vd,Bq]) (by simp[lr,RP]) (ahM (eJ (ahL z (by decide))))
   ·refine⟨sq.1,by rw[len];exact sq.2.1,by rw[len];exact sq.2.2.1,i_.mpr fun x av=>?_⟩
    have wl:=i_.mp sq.2.2.2;rcases ahI.mp av with av | av
    ·rcases ahI.mp av with av | av
     ·exact wl x (aks av)
     ·rw[ahJ.mp av];exact wi
    ·exact wl x (ajG av)
   ·show aF.dm _+1=aF.dm de+1
    conv=>rhs;rw[sp]
    rw[ug,ug,ug,ug];show max (max _ (max vC.deep 0)) _+1=max (max _ (max (de[j]).deep 0)) _+1;rw[SN]
   ·show aF.dx _=aF.dx de
    conv=>rhs;rw[sp]
    rw[pF,pF,pF,pF];show _++(vC.names++[])++_=_++((de[j]).names++[])++_;rw[vg]
noncomputable def xU:Option Nat->D
 |some o=>bI o|none=>.ba
theorem Tz(m:Nat)(os:List Nat):u_ [bI m,.lst (os.map bI)]=pure (.v (xU (os.find? (kd m)))):=by
 have step:∀(o:Nat)(s2:Slot),yv [.val (bI m),.cp (os.map bI),.val (bI o)]=if kd m o=true then pure (.cA (.v (bI o)))else pure (.a8 [.val (bI m),.cp (os.map bI),.val (bI o)]):=fun o s2=>by
  have e:(((m&&& o:Nat):Int)==0)=kd m o:=by
   unfold kd;rw[aif,beq_iff_eq,beq_iff_eq];omega
  have bE:m&&& o=0↔kd m o=true:=by unfold kd;rw[beq_iff_eq]
  simp only[yv,gQ];simp only[Cn,S8,S6,I6,S7];simp[-bind_assoc,-bind_pure_comp,PH,bE]
 have L:=xZ (b:=fun d σ=>yv (σ.set 2 (.val d))) bI (kd m) (fun o=>.v (bI o)) (fun σ=>∃s2,σ=[.val (bI m),.cp (os.map bI),s2]) os [.val (bI m),.cp (os.map bI),.emp] ⟨_,rfl⟩
  (fun o σ _ ⟨s2,aE⟩=>by
   subst aE;refine⟨fun h=>?_,fun h=>⟨[.val (bI m),.cp (os.map bI),.val (bI o)],?_,_,rfl⟩⟩
   ·have:=step o s2
    rw[if_pos h]at this;exact this
   ·have:=step o s2
    rw[if_neg (by rw[h];exact ahd)]at this;exact this)
 simp only[u_,AG,G0];simp only[gQ m]at L ⊢
 cases e:os.find? (kd m)with
 |some o=>
  have:=L.1 o e;simp[-bind_assoc,-bind_pure_comp,this,xU]
 |none=>
  obtain⟨σ',bE,s2,rfl⟩:=L.2 e;simp[-bind_assoc,-bind_pure_comp,bE,xU]
noncomputable def oX(k:aF):Option Nat->D
 |some m=>.tup [bI m,bI (((least k).find? (kd m)).getD 0)]|none=>.ba
theorem YS{a k:aF}(ax:Good a)(aL:Good k):yI [enc a,enc k]=pure (.v (oX k ((least a).find? (jn k)))):=by
 have aj:=KZ (r:=a) ax.1 (by have:=ax.2.1;omega) (by have:=ax.2.2;omega);have h2:=KZ (r:=k) aL.1 (by have:=aL.2.1;omega) (by have:=aL.2.2;omega);have step:∀(m:Nat)(s4:Slot),yz [.val (enc a),.val (enc k),.val (.lst ((least k).map bI)),.val (bI m),s4]=if jn k m=true then pure (.cA (.v (oX k (some m))))else pure (.a8 [.val (enc a),.val (enc k),.val (.lst ((least k).map bI)),.val (bI m),.val .ba]):=fun m s4=>by
  have f:=Tz m (least k);unfold jn;simp only[yz]
  cases e:(least k).find? (kd m)with
  |none=>
   rw[e]at f;simp[-bind_assoc,-bind_pure_comp,f,xU]
  |some o=>
   rw[e]at f;have f:u_ [bI m,.lst ((least k).map bI)]=pure (.v (bI o)):=f;simp only[gQ o]at f;simp[-bind_assoc,-bind_pure_comp,f,oX,e,gQ o]
 have L:=xZ (b:=fun d σ=>yz (σ.set 3 (.val d))) bI (jn k) (fun m=>.v (oX k (some m))) (fun σ=>∃s3 s4,σ=[.val (enc a),.val (enc k),.val (.lst ((least k).map bI)),s3,s4]) (least a) [.val (enc a),.val (enc k),.val (.lst ((least k).map bI)),.emp,.emp] ⟨_,_,rfl⟩
  (fun m σ _ ⟨s3,s4,aE⟩=>by
   subst aE;refine⟨fun h=>?_,fun h=>⟨[.val (enc a),.val (enc k),.val (.lst ((least k).map bI)),.val (bI m),.val .ba],?_,_,_,rfl⟩⟩
   ·have:=step m s4
    rw[if_pos h]at this;exact this
   ·have:=step m s4
    rw[if_neg (by rw[h];exact ahd)]at this;exact this)
 simp only[yI,Bf,HH,HI]
 cases e:(least a).find? (jn k)with
 |some m=>
  have:=L.1 m e;simp[-bind_assoc,-bind_pure_comp,aj,h2,this,oX]
 |none=>
  obtain⟨σ',bE,s3,s4,rfl⟩:=L.2 e;simp[-bind_assoc,-bind_pure_comp,aj,h2,bE,oX]
end b'
namespace je
open fB g8
theorem QG(av:x<64)(h:b7 x j=true):j<6:=by
 by_cases eO:j<6
 ·exact eO
 ·rw[rS av (by omega)]at h;cases h
end je
namespace b'
open PySem PySem.Spec ak aN g8 fB je
theorem ID:∀{ps:List D},(∀p∈ps,∃r:aF,p=enc r/\r.wf/\r.deep<=n)->∃rs:List aF,ps=rs.map enc/\(∀r∈rs,r.wf/\r.deep<=n)
 | [],_=>⟨[],rfl,(fun _ h=>by cases h)⟩
 |p::ps,h=>by
  obtain⟨r,e,aj⟩:=h p ahb;obtain⟨rs,aT,h2⟩:=ID fun q bf=>h q (ahc _ bf)
  refine⟨r::rs,by rw[e,aT];rfl,fun x av=>?_⟩;rcases aha.mp av with rfl | av
  ·exact aj
  ·exact h2 x av
theorem IF{d:D}(h:d.gq=true):∃r:aF,d=enc r/\r.wf/\r.deep=0:=by
 cases d with
 |int i=>
  have h:(decide (0<=i)&&decide (i<=5))=true:=h;rw[ahn,decide_eq_true_eq,decide_eq_true_eq]at h;refine⟨.cv i.toNat,?_,?_,rfl⟩
  ·rw[iz];congr 1;omega
  ·show i.toNat<6;omega
 |_=>cases h
theorem IE:∀(n:Nat)(d:D),blt n d=true->∃r:aF,d=enc r/\r.wf/\r.deep<=n
 | 0,d,h=>by obtain⟨r,e,aj,h2⟩:=IF h;exact⟨r,e,aj,by omega⟩
 |n+1,d,h=>by
  have bf:(d.gq||match d.fD with | some (_,ps)=>ps.all (blt n) | none=>false)=true:=h;rw[Bool.or_eq_true]at bf;rcases bf with bf | bf
  ·obtain⟨r,e,aj,h2⟩:=IF bf;exact⟨r,e,aj,by omega⟩
  ·cases aA:d.fD with
   |none=>rw[aA]at bf;cases bf
   |some cv=>
    obtain⟨k,ps⟩:=cv;rw[aA]at bf;have aX:ps.all (blt n)=true:=bf;clear bf h;obtain⟨rfl,cy,au,d1⟩:=Bp aA;obtain⟨rs,rfl,ay⟩:=ID fun p aP=>IE n p (ahH.mp aX p aP)
    rw[ag4]at au d1;refine⟨.ch k.toNat rs,?_,⟨by omega,by omega,d1,i_.mpr fun r Dt=>(ay r Dt).1⟩,?_⟩
    ·rw[hb];congr 2;show D.int k=D.int _;congr 1;omega
    ·show aF.dm rs+1<=n+1
     have:=Cc (n:=n) fun r Dt=>(ay r Dt).2
     omega
theorem SJ(h:oe d=true):∃r:aF,d=enc r/\Good r:=by
 rw[<-Nl,ahn,decide_eq_true_eq]at h;obtain⟨r,rfl,aj,h2⟩:=IE 4 d h.1;refine⟨r,rfl,aj,h2,?_⟩;have:=Eo 4 (enc r) (Ef r aj) h2;omega
theorem Ki{a k:aF}(ax:Good a)(aL:Good k):pl [.tup [enc a,enc k]]=pure (.v (.aB ((least a).find? (jn k)).isNone)):=by
 have aR:(D.tup [enc a,enc k]).ek=true:=by simp[-bind_assoc,-bind_pure_comp,D.ek,jT,n7]
 have p:=DK aR;have bK:=yn (n7 a);have cn:=yn (n7 k);rw[tj ax.1 ax.2.1 ax.2.2]at bK;rw[tj aL.1 aL.2.1 aL.2.2]at cn;have pt:=YS ax aL;simp only[pl,AJ,G3]
 cases e:(least a).find? (jn k)with
 |none=>rw[e]at pt;simp[-bind_assoc,-bind_pure_comp,p,vs,bK,cn,pt,oX]|some m=>rw[e]at pt;simp[-bind_assoc,-bind_pure_comp,p,vs,bK,cn,pt,oX]
end b'
namespace b'
open PySem PySem.Spec ak aN
@[simp high] theorem m9{α β:Type}(a:α)(f:α->M β):(pure a >>= f)=f a:=rfl
end b'
namespace b'
open PySem PySem.Spec ak aN g8 fB je
mutual
noncomputable def bA:aF->List Nat
 |.cv k=>[48+k]
 |.ch k ps=>(48+k)::40::((c4 ps).drop 1++[41])
noncomputable def c4:List aF->List Nat
 |[]=>[]
 |r::rs=>32::(bA r++c4 rs)
end
theorem zO(r:aF)(rs:List aF):(c4 (r::rs)).drop 1=bA r++c4 rs:=by rw[c4];rfl
theorem FQ:(ah2 " ":Str)=af [32]:=by decide +kernel
theorem Nu:(ah2 "(":Str)=af [40]:=by decide +kernel
theorem Nt:(ah2 ")":Str)=af [41]:=by decide +kernel
theorem Bx{α:Type}(xs:List α)(p q:Nat)(h:p<=q):cutD xs (some (p:Int)) (some (q:Int))=(xs.drop p).take (q-p):=by
 unfold cutD;rw[cS.pQ,cS.pQ]
 by_cases aP:p<=xs.length
 ·rw[ajo aP]
  by_cases bf:q<=xs.length
  ·rw[ajo bf]
  ·rw[ajD (by omega),ah7 (by rw[ahz];omega),ah7 (by rw[ahz];omega)]
 ·rw[ajD (show xs.length<=q by omega),ajD (show xs.length<=p by omega),alF (ahg _),alF (show xs.length<=p by omega)]
  simp
theorem By(pre rest:List Nat)(n:Nat):cutD (pre++rest) (some ((pre.length:Nat):Int)) (some ((pre.length+n:Nat):Int))=rest.take n:=by
 rw[Bx _ _ _ (by omega),List.drop_left,alw]
theorem aa1{a:List Nat}(h:a.length<=1000)(lo aC:Option Int):sY (.v (.str (af a))) lo aC=pure (.v (.str (af (cutD a lo aC)))):=if_pos (by rw[hr];exact ahM (eJ h))
theorem CD:∀{k:Nat},k<10->(alB (af [48+k]) h9).getD D.ba=.int (k:Nat)
 |0,_=>rfl|1,_=>rfl|2,_=>rfl|3,_=>rfl|4,_=>rfl|5,_=>rfl|6,_=>rfl|7,_=>rfl|8,_=>rfl|9,_=>rfl| n+10,h=>absurd h (by omega)
theorem oc(h:c<0x110000):ag7 (af [c])=true:=eV.mpr fun x av=>by rw[ahJ.mp av];exact h
def Am(post:List Nat):Prop:=post.take 1≠[40]/\∀c∈post.take 1,c<0x110000
theorem abR{xs:List Nat}(h:∀c∈xs.take 1,c<0x110000):ag7 (af (xs.take 1))=true:=eV.mpr h
theorem jZ{a:bj}{lo aC:iu}{X t:List Nat}{l h:Option Int}(aX:X.length<=1000)(c:cutD X l h=t)(aH:a σ=pure (.v (.str (af X))))(aT:lo σ=pure l)(dt:aC σ=pure h):gV a lo aC σ=pure (.v (.str (af t))):=
 aa0 (by rw[aa1 aX,c]) aH aT dt
theorem Ej(h:ag7 (af t)=true):eT (.v (.str (af t))) (.v (.str "("))=pure (.v (.aB (!decide (t=[40])))):=by
 rw[show("(":Str)=af [40]from Nu];exact Ek h (oc (by decide))
section
variable{self:dE}{X t en:List Nat}{p d aH:Int}{k:Nat}{ds:List D}(aX:X.length<=1000)(cy:cutD X (some p) (some (p+1))=t)
include aX cy
theorem M5(g:(h9.lookup (af t)).getD D.ba=.ba):d4 3 5 (oN self) [.str (af X),.int p,.int d]=pure (.exc "NoText"):=
 gM rfl ((ew (fJ (d6 (vU (jZ aX cy rfl rfl rfl) g)))).trans (j8 (bT rfl)))
variable(g:(h9.lookup (af t)).getD D.ba=.int (k:Nat))(au:cutD X (some (p+1)) (some (p+2))=en)
include g au
theorem M4(q:eT (.v (.str (af en))) (.v (.str "("))=pure (.v (.aB true))):d4 3 5 (oN self) [.str (af X),.int p,.int d]=pure (.ret (.tup [.int (k:Nat),.int (p+1)])):=
 mM rfl ((ew (fJ (d6 (vU (jZ aX cy rfl rfl rfl) g)))).trans ((ey (bT rfl)).trans (OZ ((tx (bT (bX q (jZ aX au rfl rfl rfl) rfl))).trans (rx rfl)))))
variable(q:eT (.v (.str (af en))) (.v (.str "("))=pure (.v (.aB false)))
include q
theorem Z7:d4 3 5 (oN self) [.str (af X),.int p,.int 0]=pure (.exc "NoText"):=
 gM rfl ((ew (fJ (d6 (vU (jZ aX cy rfl rfl rfl) g)))).trans ((ey (bT rfl)).trans ((ey (bT (bX q (jZ aX au rfl rfl rfl) rfl))).trans (j8 (bT rfl)))))
variable(z:oEq (.v (.int d)) (.v (.int 0))=pure (.v (.aB false)))
include z
theorem Z8(P:self [.str (af X),.int (p+2),.int (d-1)]=pure (.exc "NoText")):d4 3 5 (oN self) [.str (af X),.int p,.int d]=pure (.exc "NoText"):=
 gM rfl ((ew (fJ (d6 (vU (jZ aX cy rfl rfl rfl) g)))).trans ((ey (bT rfl)).trans ((ey (bT (bX q (jZ aX au rfl rfl rfl) rfl))).trans ((ey (bT (bX z rfl rfl))).trans (p2 (GA rfl P))))))
theorem M3(P:self [.str (af X),.int (p+2),.int (d-1)]=pure (.ret (.tup [.tup ds,.int aH]))):d4 3 5 (oN self) [.str (af X),.int p,.int d]=pure (.ret (.tup [.tup [.int (k:Nat),.tup ds],.int aH])):=
 mM rfl ((ew (fJ (d6 (vU (jZ aX cy rfl rfl rfl) g)))).trans ((ey (bT rfl)).trans ((ey (bT (bX q (jZ aX au rfl rfl rfl) rfl))).trans ((ey (bT (bX z rfl rfl))).trans ((ew (wg rfl P)).trans (rx rfl))))))
end
theorem aaq{n k:Nat}{pre post:List Nat}{d:Int}(aL:k<6)(aP:Am post)(aX:(pre++(bA (.cv k)++post)).length<=1000):kA (n+1) [.str (af (pre++(bA (.cv k)++post))),.int (pre.length:Nat),.int d]=pure (.ret (.tup [enc (.cv k),.int ((pre.length+(bA (.cv k)).length:Nat):Int)])):=by
 have cy:cutD (pre++(bA (.cv k)++post)) (some ((pre.length:Nat):Int)) (some ((pre.length:Nat)+1:Int))=[48+k]:=by
  have:=By pre (bA (.cv k)++post) 1;rw[bA]at this ⊢;exact this
 have au:cutD (pre++(bA (.cv k)++post)) (some ((pre.length:Nat)+1:Int)) (some ((pre.length:Nat)+2:Int))=post.take 1:=by
  have:=By (pre++[48+k]) post 1;rw[ag3,aht]at this;rw[bA];exact this
 have q:=Ej (abR aP.2);rw[decide_eq_false aP.1]at q;have l:(bA (.cv k)).length=1:=by rw[bA];rfl
 rw[iz,l];exact M4 aX cy (CD (by omega)) au q
noncomputable def pj:a9->M Bool:=bb (au oEq (ag 4) (ai (.str " ")))
noncomputable def qQ(self:dE):dF:=(dU (p1 5 self (ah (ag 0) (ah (ag 1) (ah (ag 2) aG))))
  (dU (fI (kh 3 mf (ah (au bJ (ag 5) (ai (.int 0))) aG)))
  (dU (fI (cT 4 (gV (ag 0) (eX (au bJ (ag 5) (ai (.int 1)))) (eX (au es (au bJ (ag 5) (ai (.int 1))) (ai (.int 1)))))))
  (fI (cT 1 (au es (au bJ (ag 5) (ai (.int 1))) (ai (.int 1))))))))
def Reads(self:dE)(d:Nat)(X:List Nat)(r:aF):Prop:=∀pre post,Am post->X=pre++(bA r++post)->self [.str (af X),.int (pre.length:Nat),.int (d:Nat)]=pure (.ret (.tup [enc r,.int ((pre.length+(bA r).length:Nat):Int)]))
theorem LP(h:c≠40)(h2:c<0x110000):Am (c::post):=⟨fun z=>h (by simpa using z),fun x av=>by
 have:x=c:=by simpa using av
 rw[this];exact h2⟩
theorem xq{X pre rest:List Nat}(e:X=pre++c::rest):cutD X (some ((pre.length:Nat):Int)) (some ((pre.length:Nat)+1:Int))=[c]:=by
 have:=By pre (c::rest) 1;rw[show(((pre.length+1:Nat)):Int)=(pre.length:Nat)+1 from by omega]at this;rw[e,this];rfl
theorem Ct(h:ag7 (af t)=true):oEq (.v (.str (af t))) (.v (.str " "))=pure (.v (.aB (decide (t=[32])))):=by
 rw[show(" ":Str)=af [32]from FQ];exact oY h (oc (by decide))
theorem LK(h:ag7 (af t)=true):eT (.v (.str (af t))) (.v (.str ")"))=pure (.v (.aB (!decide (t=[41])))):=by
 rw[show(")":Str)=af [41]from Nt];exact Ek h (oc (by decide))
section
variable{self:dE}{X t:List Nat}{p d q m:Nat}{acc:List D}{e:D}{s5:aN.Slot}
theorem D4(aX:X.length<=1000)(h:self [.str (af X),.int (p:Nat),.int (d:Nat)]=pure (.ret (.tup [e,.int (q:Nat)])))(adl:acc.length<ag5)(cy:cutD X (some (q:Int)) (some ((q:Int)+1))=t):jx pj (qQ self) (m+1) [.val (.str (af X)),.val (.int (p:Nat)),.val (.int (d:Nat)),.b5 false acc,.val (.str (af [32])),s5]=jx pj (qQ self) m [.val (.str (af X)),.val (.int ((q+1:Nat):Int)),.val (.int (d:Nat)),.b5 false (acc++[e]),.val (.str (af t)),.val (.tup [e,.int (q:Nat)])]:=
 ac3 (bT (bX (Ct (oc (by decide))) rfl rfl)) ((ew (wg rfl h)).trans ((ew (fJ (wX rfl rfl adl))).trans ((ew (fJ (d6 (jZ aX cy rfl rfl rfl)))).trans (fJ (d6 rfl)))))
theorem W_(h:self [.str (af X),.int (p:Nat),.int (d:Nat)]=pure (.exc "NoText")):jx pj (qQ self) (m+1) [.val (.str (af X)),.val (.int (p:Nat)),.val (.int (d:Nat)),.b5 false acc,.val (.str (af [32])),s5]=pure (.ex "NoText"):=
 ac2 (bT (bX (Ct (oc (by decide))) rfl rfl)) (p2 (GA rfl h))
theorem K_(h:ag7 (af t)=true)(aR:t≠[32]):jx pj b (m+1) [s0,s1,s2,s3,.val (.str (af t)),s5]=pure (.a8 [s0,s1,s2,s3,.val (.str (af t)),s5]):=
 ac1 (bT (bX ((Ct h).trans (by rw[decide_eq_false aR])) rfl rfl))
theorem F1{σ:a9}:cT 4 (ai (.str " ")) σ=pure (.a8 (σ.set 4 (.val (.str (af [32]))))):=by rw[show(" ":Str)=af [32]from FQ];rfl
theorem YN(L:we pj (qQ self) [.val (.str (af X)),.val (.int (p:Nat)),.val (.int (d:Nat)),.b5 false [],.val (.str (af [32])),.emp]=pure (.ex "NoText")):d4 3 6 (t2 self) [.str (af X),.int (p:Nat),.int (d:Nat)]=pure (.exc "NoText"):=
 gM rfl ((ew (fJ tb)).trans ((ew (fJ F1)).trans (p2 L)))
variable{ds:List D}(L:we pj (qQ self) [.val (.str (af X)),.val (.int (p:Nat)),.val (.int (d:Nat)),.b5 false [],.val (.str (af [32])),.emp]=pure (.a8 [.val (.str (af X)),.val (.int (q:Nat)),.val (.int (d:Nat)),.b5 false ds,.val (.str (af t)),s5]))(h:ag7 (af t)=true)
include L h
theorem YO(aR:t≠[41]):d4 3 6 (t2 self) [.str (af X),.int (p:Nat),.int (d:Nat)]=pure (.exc "NoText"):=
 gM rfl ((ew (fJ tb)).trans ((ew (fJ F1)).trans ((ew L).trans (j8 (bT (bX ((LK h).trans (by rw[decide_eq_false aR];rfl)) rfl rfl))))))
theorem Mh(aR:t=[41]):d4 3 6 (t2 self) [.str (af X),.int (p:Nat),.int (d:Nat)]=pure (.ret (.tup [.tup ds,.int (q:Nat)])):=
 mM rfl ((ew (fJ tb)).trans ((ew (fJ F1)).trans ((ew L).trans ((ey (bT (bX ((LK h).trans (by rw[decide_eq_true aR];rfl)) rfl rfl))).trans (rx rfl)))))
end
theorem Mk{X post:List Nat}(aX:X.length<=1000):∀(rs:List aF)(r:aF)(pre:List Nat)(acc:List D)(s5:aN.Slot)(m:Nat),X=pre++(bA r++(c4 rs++41::post))->(∀q∈r::rs,Reads self d X q)->rs.length+2<=m->acc.length+rs.length+1<=1000->
  ∃ze,jx pj (qQ self) m [.val (.str (af X)),.val (.int (pre.length:Nat)),.val (.int (d:Nat)),.b5 false acc,.val (.str (af [32])),s5]=pure (.a8 [.val (.str (af X)),.val (.int ((pre.length+(bA r++c4 rs).length+1:Nat):Int)),.val (.int (d:Nat)),.b5 false (acc++(r::rs).map enc),.val (.str (af [41])),ze])
 |[],r,pre,acc,s5,0,e,jL,hm,ax=>absurd hm (ai4 _)|[],r,pre,acc,s5,1,e,jL,hm,ax=>absurd (ajr hm) (ai4 _)|[],r,pre,acc,s5,m+2,e,jL,hm,ax=>by
  rw[c4,ai0]at e;have aj:=jL r ahb pre (41::post) (LP (by decide) (by decide)) e;have cy:=xq (X:=X) (pre:=pre++bA r) (c:=41) (rest:=post) (by rw[e,aht]);rw[ag3]at cy;rw[c4,ahl];exact⟨_,(D4 aX aj (eJ (ak2 ax)) cy).trans (K_ (oc (by decide)) (by decide))⟩
 |cn::rs,r,pre,acc,s5,0,e,jL,hm,ax=>absurd hm (ai4 _)|cn::rs,r,pre,acc,s5,m+1,e,jL,hm,ax=>by
  rw[c4]at e;have bE:X=(pre++bA r)++(32::(bA cn++(c4 rs++41::post))):=by rw[e,aht,aio,aht]
  have aj:=jL r ahb pre _ (LP (c:=32) (post:=bA cn++(c4 rs++41::post)) (by decide) (by decide)) (by rw[bE,aht]);have cy:=xq bE;have K9:(pre++bA r++[32]).length=pre.length+(bA r).length+1:=by rw[ag3,ag3];rfl
  rw[ag3]at cy;obtain⟨ze,bk⟩:=Mk (post:=post) aX rs cn (pre++bA r++[32]) (acc++[enc r]) (.val (.tup [enc r,.int ((pre.length+(bA r).length:Nat):Int)])) m (by rw[bE,aht (pre++bA r)];rfl) (fun q bf=>jL q (ahc _ bf)) (ajr hm) (by rw[ag3];rw[ahj]at ax;show acc.length+1+_+1<=_;omega);rw[K9]at bk;refine⟨ze,((D4 aX aj (eJ (by omega)) cy).trans bk).trans ?_⟩;have ln:pre.length+(bA r++c4 (cn::rs)).length=pre.length+(bA r).length+1+(bA cn++c4 rs).length:=by rw[c4,ag3,ahj];omega
  rw[ln,aht acc];rfl
theorem YT{rs:List aF}(aX:(pre++(bA r++(c4 rs++41::post))).length<=1000)(ao:rs.length<=6)(jL:∀q∈r::rs,Reads (kA n) d (pre++(bA r++(c4 rs++41::post))) q) :
  sP (n+1) [.str (af (pre++(bA r++(c4 rs++41::post)))),.int (pre.length:Nat),.int (d:Nat)]=pure (.ret (.tup [.tup ((r::rs).map enc),.int ((pre.length+(bA r++c4 rs).length+1:Nat):Int)])):=by
 obtain⟨ze,L⟩:=Mk (post:=post) aX rs r pre [] .emp mh rfl jL (ahM (Gj (by omega))) (by rw[aiy];omega);exact Mh L (oc (by decide)) rfl
theorem Nm:∀(n:Nat)(r:aF)(d:Nat)(X:List Nat),r.wf->2*r.deep<n->r.deep<=d->X.length<=1000->Reads (kA n) d X r
 |0,r,d,X,_,h,_,_=>absurd h (ahV _)|n+1,.cv k,d,X,hw,h,hd,aX=>fun pre post aP e=>by
  subst e;exact aaq hw aP aX
 | 1,.ch k ps,d,X,hw,h,hd,aX=>absurd h (by simp only[aF.deep];omega)|n+2,.ch k ps,d,X,hw,h,hd,aX=>fun pre post aP e=>by
  obtain⟨aj,h2,bz,c0⟩:=hw;simp only[aF.deep]at h hd;obtain⟨r,rs,rfl⟩:∃r rs,ps=r::rs:=by
   cases ps with
   |nil=>simp at h2;omega|cons r rs=>exact⟨r,rs,rfl⟩
  obtain⟨d,rfl⟩:∃d',d=d'+1:=⟨d-1,by omega⟩;have dl:=kY (ps:=r::rs) (n:=aF.dm (r::rs)+1) (by omega);have uo:bA (.ch k (r::rs))=[48+k,40]++(bA r++(c4 rs++[41])):=by rw[bA,zO];simp
  have bE:X=(pre++[48+k,40])++(bA r++(c4 rs++41::post)):=by rw[e,uo];simp
  have P:=YT (n:=n) (d:=d) (r:=r) (rs:=rs) (pre:=pre++[48+k,40]) (post:=post) (by rw[<-bE];exact aX) (by simp at bz;omega) (fun q bf=>by
   have:=dl q bf;exact Nm n q d _ (i_.mp c0 q bf) (by omega) (by omega) (by rw[<-bE];exact aX))
  rw[<-bE]at P;have cy:=xq (X:=X) (pre:=pre) (c:=48+k) (rest:=40::(bA r++(c4 rs++41::post))) (by rw[bE];simp);have au:=xq (X:=X) (pre:=pre++[48+k]) (c:=40) (rest:=bA r++(c4 rs++41::post)) (by rw[bE];simp);have bP:((pre++[48+k]).length:Int)=(pre.length:Int)+1:=by simp
  have cE:((pre++[48+k,40]).length:Int)=(pre.length:Int)+2:=by simp
  rw[bP,show(pre.length:Int)+1+1=(pre.length:Int)+2 by omega]at au;rw[cE]at P;have ln:pre.length+(bA (.ch k (r::rs))).length=(pre++[48+k,40]).length+(bA r++c4 rs).length+1:=by rw[uo,ag3,ag3,ag3,ag3,ag3];show _+(2+(_+(_+1)))=_+2+_+1;omega
  rw[ln,hb];exact M3 aX cy (CD (by rw[ahj]at h2 bz;omega)) au (Ej (oc (by decide))) rfl (by rw[show((d+1:Nat):Int)-1=(d:Nat)by omega];exact P)
end b'
namespace aN
open PySem PySem.Spec ak Builtin Builtin.Str
theorem L5(s sub:Str)(aC limit:Nat):∀(l:List Nat)(st:Array Nat×Nat),(∀i∈l,subAt s sub i=false)->(forIn l st (ajQ s sub aC limit)).run=st
 |[],st,_=>rfl|a::l,st,h=>by
  rw[ajl];unfold ajQ;rw[if_neg (by rw[h a ahb];rintro⟨_,z⟩;cases z)];exact L5 s sub aC limit l st fun i aC=>h i (ahc _ aC)
theorem L4(s sub:Str)(aC limit:Nat)(aP:subAt s sub p=true)(ao:p+sub.length<=aC)(h0:0<limit)(cE:List Nat)(h2:∀i∈cE,subAt s sub i=false):∀(bP:List Nat),(∀i∈bP,subAt s sub i=false)->∀free,free<=p->
  (forIn (bP++p::cE) ((#[]:Array Nat),free) (ajQ s sub aC limit)).run=(#[p],p+sub.length)
 |[],_,free,hf=>by
  rw[ai0,ajl];unfold ajQ;rw[if_pos ⟨⟨⟨h0,hf⟩,ao⟩,aP⟩];exact L5 s sub aC limit cE _ h2
 |a::bP,aj,free,hf=>by
  rw[aio,ajl];unfold ajQ;rw[if_neg (by rw[aj a ahb];rintro⟨_,z⟩;cases z)];exact L4 s sub aC limit aP ao h0 cE h2 bP (fun i aC=>aj i (ahc _ aC)) free hf
theorem NX(X Y:List Nat)(i:Nat):subAt (af X) (af Y) i=((X.drop i).take Y.length==Y):=by
 rw[StrLaws.subAt_eq,hr];rfl
theorem zF(X:List Nat)(i j:Nat):strSub (af X) i j=af ((X.drop i).take (j-i)):=by
 unfold strSub af;simp
theorem Wr(aA:c<256)(hd:d<256)(he:e<256):ajM (af [c,d,e])=1:=by
 unfold ajM af;rw[if_pos];simp[aA,hd,he]
theorem Ws(x:Str):1<=ajM x:=by
 unfold ajM;split
 ·decide
 ·split<;>decide
theorem aa8(mP:47∉A)(qv:47∉B):aij (af (A++(32::47::32::B))) (af [32,47,32])=[af A,af B]:=by
 have no:∀i,i≠A.length->subAt (af (A++(32::47::32::B))) (af [32,47,32]) i=false:=fun i aC=>by
  rw[NX,akY];intro z;have e:((A++(32::47::32::B)).drop i).take 3=[32,47,32]:=beq_iff_eq.mp z;have aH:(A++(32::47::32::B))[i+1]? = some 47:=by
   have:=congrArg (fun l:List Nat=>l[1]?) e;simpa[List.getElem?_take,List.getElem?_drop]using this
  by_cases aj:i+1<A.length
  ·rw[ahF aj]at aH
   exact mP (ahO aH)
  ·rw[ah4 (by omega)]at aH
   obtain⟨k,aL⟩:∃k,i+1-A.length=k:=⟨_,rfl⟩;rw[aL]at aH
   match k,aL,aH with
   |0,_,aH=>simp at aH| 1,aL,_=>exact aC (by omega)|2,_,aH=>simp at aH|k+3,_,aH=>
    simp at aH;exact qv (ahO aH)
 have yes:subAt (af (A++(32::47::32::B))) (af [32,47,32]) A.length=true:=by
  rw[NX];simp
 have hlen:(af (A++(32::47::32::B))).length=A.length+3+B.length:=by rw[hr];simp;omega
 have DS:(af [32,47,32]).length=3:=rfl;have Yl:akB (af (A++(32::47::32::B))) (af [32,47,32]) 0 (af (A++(32::47::32::B))).length ((af (A++(32::47::32::B))).length+1)=[A.length]:=by
  rw[StrLaws.occ_eq];have sp:List.range' 0 ((af (A++(32::47::32::B))).length+1-0)=List.range' 0 A.length++A.length::List.range' (A.length+1) (3+B.length):=by
   rw[hlen,show A.length+3+B.length+1-0=A.length+(1+(3+B.length))by omega,<-List.range'_append_1,akm,<-List.range'_append_1];rfl
  rw[sp,L4 _ _ _ _ yes (by rw[hlen,DS];omega) (by omega) _ (fun i aC=>no i (by have:=List.mem_range'_1.mp aC;omega)) _ (fun i aC=>no i (by have:=List.mem_range'_1.mp aC;omega)) 0 (ahC _)]
 unfold aij;rw[if_neg (by
  rw[hlen,DS,Wr (by decide) (by decide) (by decide)];have:=Ws (af (A++(32::47::32::B)));simp;omega),Yl,if_neg (by simp)]
 unfold partsBetween;rw[hlen,DS];simp only[ahi,alh,akI,List.zip_nil_right,aio,ai0];rw[zF,zF]
 congr 1
 ·simp
 ·congr 1
  simp
end aN
namespace b'
open PySem PySem.Spec ak aN g8 fB je
theorem SP{k:Nat}(h:k<10):(ah2 (toString ((k:Nat):Int)):Str)=af [48+k]:=
 (show ∀k:Nat,k<10->(ah2 (toString ((k:Nat):Int)):Str)=af [48+k]by decide +kernel) k h
theorem IL{k:Nat}(h:k<10):uu [.v (.int (k:Nat))]=pure (.v (.str (af [48+k]))):=by
 have ao:((k:Nat):Int).natAbs.log2<1920:=(show ∀k:Nat,k<10->((k:Nat):Int).natAbs.log2<1920 by decide +kernel) k h;show(if((k:Nat):Int).natAbs.log2<1920 then pure (R.v (D.str (toString ((k:Nat):Int))))else bad)=_;rw[if_pos ao];exact congrArg (fun z=>pure (R.v (D.str z))) (SP h)
theorem Od:∀(ps:List aF)(tG:Nat),(∀p∈ps,1<=p.names.length/\(bA p).length+1<=(4*p.deep+2)*p.names.length/\p.deep<=tG)->ps.length<=(aF.dx ps).length/\(c4 ps).length<=(4*tG+2)*(aF.dx ps).length
 | [],_,_=>⟨ahg _,by rw[c4];exact ahC _⟩
 |p::ps,tG,h=>by
  obtain⟨aj,h2,bz⟩:=h p ahb;obtain⟨fc,fe⟩:=Od ps tG fun q bf=>h q (ahc _ bf)
  have e:aF.dx (p::ps)=p.names++aF.dx ps:=rfl;rw[e,ag3,c4,Nat.mul_add];have m:(4*p.deep+2)*p.names.length<=(4*tG+2)*p.names.length:=akr _ (by omega);simp only[ahj,ag3];omega
theorem K0:∀(n:Nat)(r:aF),r.deep<n->r.wf->1<=r.names.length/\(bA r).length+1<=(4*r.deep+2)*r.names.length
 |0,r,h,_=>absurd h (ahV _)|n+1,.cv k,_,_=>by
  rw[bA];exact⟨ahg 1,ahg 2⟩
 |n+1,.ch k ps,h,hw=>by
  obtain⟨aj,h2,bz,c0⟩:=hw;simp only[aF.deep]at h;have dl:=kY (ps:=ps) (n:=aF.dm ps+1) (by omega);obtain⟨fc,fe⟩:=Od ps (aF.dm ps) fun p aP=>by
   have:=dl p aP;obtain⟨u3,DM⟩:=K0 n p (by omega) (i_.mp c0 p aP);exact⟨u3,DM,by omega⟩
  have e:(aF.ch k ps).names=aF.dx ps:=rfl;have eZ:(aF.ch k ps).deep=aF.dm ps+1:=rfl;rw[e,eZ,bA];have pos:1<=(aF.dx ps).length:=by omega
  refine⟨pos,?_⟩;have m:(4*(aF.dm ps+1)+2)*(aF.dx ps).length=(4*aF.dm ps+2)*(aF.dx ps).length+4*(aF.dx ps).length:=by rw[<-Nat.add_mul];congr 1
  have hd:1<=(c4 ps).length:=by
   cases ps with
   |nil=>simp at h2;omega|cons p ps=>rw[c4];simp
  simp only[ahj,ag3,ahz,aiy];omega
theorem kp(h:Good r):(bA r).length<=300:=by
 obtain⟨_,aj⟩:=K0 5 r (by have:=h.2.1;omega) h.1;have:(4*r.deep+2)*r.names.length<=18*12:=Nat.mul_le_mul (by have:=h.2.1;omega) h.2.2;omega
def nq(xs:List Nat):Prop:=∀c∈xs,c<1000/\c≠47
theorem Iy(ax:nq a)(U:nq b):nq (a++b):=fun c aA=>(ahI.mp aA).elim (ax c) (U c)
theorem ue(h:c<1000/\c≠47)(ax:nq a):nq (c::a):=fun x av=>by
 rcases aha.mp av with rfl | av
 ·exact h
 ·exact ax x av
theorem Oc:∀(ps:List aF),(∀p∈ps,nq (bA p))->nq (c4 ps)
 | [],_=>by rw[c4];exact fun _ h=>by cases h
 |p::ps,h=>by
  rw[c4];exact ue (by decide) (Iy (h p ahb) (Oc ps fun q bf=>h q (ahc _ bf)))
theorem Ob:∀(n:Nat)(r:aF),r.deep<n->r.wf->nq (bA r)
 |0,r,h,_=>absurd h (ahV _)|n+1,.cv k,_,hw=>by
  have hw:k<6:=hw;rw[bA];exact ue (by omega) fun _ h=>by cases h
 |n+1,.ch k ps,h,hw=>by
  obtain⟨aj,h2,bz,c0⟩:=hw;simp only[aF.deep]at h;have dl:=kY (ps:=ps) (n:=aF.dm ps+1) (by omega);have c:=Oc ps fun p aP=>by
   have:=dl p aP;exact Ob n p (by omega) (i_.mp c0 p aP)
  rw[bA];exact ue (by omega) (ue (by decide) (Iy (fun x av=>c x (ajG av)) (ue (by decide) fun _ h=>by cases h)))
theorem uC(h:Good r):nq (bA r):=Ob 5 r (by have:=h.2.1;omega) h.1
theorem Kt:∀(ps:List aF),akA (af [32]) (ps.map fun p=>af (bA p))=af ((c4 ps).drop 1)
 | []=>by rw[c4];rfl| [p]=>by rw[c4,c4];simp[akA]|p::q::ps=>by
  have bk:=Kt (q::ps);rw[zO,c4];show af (bA p)++af [32]++akA (af [32]) ((q::ps).map fun p=>af (bA p))=_;rw[bk,zO,rk,rk];simp
theorem Ks:∀(ps:List aF)(n:Nat),(ps.map fun p=>af (bA p)).foldl (fun a (x:Str)=>a+x.length+1) n=n+(c4 ps).length
 | [],n=>by rw[c4];rfl|p::ps,n=>by
  rw[c4,ahi,alz,Ks ps,hr];simp;omega
theorem NU:∀ps:List aF,l' (ps.map fun p=>D.str (af (bA p)))=some (ps.map fun p=>af (bA p))
 |[]=>rfl|p::ps=>by
  show(l' (ps.map fun p=>D.str (af (bA p)))).map (_::·)=_;rw[NU ps];rfl
theorem V8{ps:List aF}(h:(c4 ps).length<=1000):oZ (.v (.str (af [32]))) [.fr (ps.map fun p=>D.str (af (bA p)))]=pure (.v (.str (af ((c4 ps).drop 1)))):=by
 have bV:akq (af [32]) (ps.map fun p=>af (bA p))=true:=by
  unfold akq;rw[List.foldl_toArray']
  ·have:=Ks ps 0
   show(!ajN ((ps.map fun p=>af (bA p)).foldl (fun a (x:Str)=>a+x.length+1) 0))=true;rw[this];unfold ajN;have:¬(0+(c4 ps).length > ag5):=by have:=eJ h;omega
   rw[decide_eq_false this];rfl
  ·rfl
 show(match(some (ps.map fun p=>D.str (af (bA p)))).bind l' with
  |some zs=>if akq (af [32]) zs=true then pure (R.v (.str (aky (af [32]) zs)))else bad| none=>bad:M R)=_
 rw[Option.bind_some,NU];dsimp only;rw[if_pos bV];unfold aky;rw[alL,Kt]
theorem WH{a k:aF}(ax:Good a)(aL:Good k):sO [enc a,enc k]=pure (.v (.aB ((ahU 64).find? fun m=>a.fills (b7 m)&&k.fills (b7 (63-m))).isNone)):=by
 have L:=xZ (b:=fun d σ=>yw (σ.set 2 (.val d))) bI (fun m=>a.fills (b7 m)&&k.fills (b7 (63-m))) (fun _=>.v (.aB false)) (fun σ=>∃s2,σ=[.val (enc a),.val (enc k),s2]) (ahU 64) [.val (enc a),.val (enc k),.emp] ⟨_,rfl⟩
  (fun m σ hm ⟨s2,aE⟩=>by
   subst aE;have agy:=ah0.mp hm;have f1:=DY m 12 a (by have:=ax.2.1;omega) ax.1;have f2:=DY (63-m) 12 k (by have:=aL.2.1;omega) aL.1;have i5:(63:Int)-(m:Int)=((63-m:Nat):Int):=by omega
   refine⟨fun h=>?_,fun h=>⟨[.val (enc a),.val (enc k),.val (bI m)],?_,_,rfl⟩⟩
   ·rw[ahn]at h
    rw[h.1]at f1;rw[h.2]at f2;simp only[gQ]at f1 f2 ⊢;simp only[yw];simp[-bind_assoc,-bind_pure_comp,f1,i5,f2]
   ·simp only[gQ]at f1 f2 ⊢
    simp only[yw]
    cases aH:a.fills (b7 m)with
    |false=>rw[aH]at f1;simp[-bind_assoc,-bind_pure_comp,f1]|true=>
     rw[aH]at f1 h;have aT:k.fills (b7 (63-m))=false:=h;rw[aT]at f2;simp[-bind_assoc,-bind_pure_comp,f1,i5,f2])
 rw[<-E3]at L;simp only[sO,A6,Hk]
 cases e:(ahU 64).find? (fun m=>a.fills (b7 m)&&k.fills (b7 (63-m)))with
 |some m=>
  have:=L.1 m e;simp[-bind_assoc,-bind_pure_comp,this]
 |none=>
  obtain⟨σ',bE,s2,rfl⟩:=L.2 e;simp[-bind_assoc,-bind_pure_comp,bE]
theorem Lp{a k:aF}(ax:a.wf)(aL:k.wf):((ahU 64).find? fun m=>a.fills (b7 m)&&k.fills (b7 (63-m))).isNone=((least a).find? (jn k)).isNone:=by
 cases e:(least a).find? (jn k)with
 |none=>
  have:(ahU 64).find? (fun m=>a.fills (b7 m)&&k.fills (b7 (63-m)))=none:=ajW.mpr fun m hm=>by
   rw[YQ ax aL e (ah0.mp hm)];decide
  rw[this]
 |some f=>
  have UX:=ak4 e;obtain⟨Cz,Tu,_⟩:=sE a ax UX;have ya:jn k f=true:=List.find?_some e;unfold jn at ya;obtain⟨o,r8⟩:=alf.mp ya;have JY:=ak4 r8;obtain⟨Ew,agN,_⟩:=sE k aL JY;have Ud:kd f o=true:=List.find?_some r8;have o7:k.fills (b7 (63-f))=true:=by
   rw[D0 k aL (by omega),aiK];refine⟨o,JY,(ri Ew).mpr fun j bV=>?_⟩;have DN:=QG Ew bV;rw[Bt Cz DN]
   cases z:b7 f j with
   |false=>rfl|true=>exact((GS Cz Ew).mp Ud j z bV).elim
  cases aT:(ahU 64).find? (fun m=>a.fills (b7 m)&&k.fills (b7 (63-m)))with
  |none=>
   have:=ajW.mp aT f (ah0.mpr Cz);rw[Tu,o7]at this;exact absurd rfl this
  |some m=>rfl
noncomputable def meets(a k:aF):Bool:=((least a).find? (jn k)).isNone
theorem Lo{a k:aF}(ax:Good a)(aL:Good k):sO [enc a,enc k]=pure (.v (.aB (meets a k))):=by
 rw[WH ax aL,Lp ax.1 aL.1];rfl
theorem It(p:Nat->Bool):∀ps:List aF,(∀r∈ps,(gX r).fills p = !(r.fills fun k=>!p k))->aF.cnt p (iy ps)+aF.cnt (fun k=>!p k) ps=ps.length
 |[],_=>rfl|r::ps,h=>by
  have bk:=It p ps fun q bf=>h q (ahc _ bf)
  have aj:=h r ahb;show(if(gX r).fills p then 1 else 0)+aF.cnt p (iy ps)+((if r.fills (fun k=>!p k)then 1 else 0)+aF.cnt (fun k=>!p k) ps)=ps.length+1;rw[aj];cases r.fills (fun k=>!p k)<;>simp<;>omega
theorem IX(p:Nat->Bool):∀(n:Nat)(r:aF),r.deep<n->r.wf->(gX r).fills p = !(r.fills fun k=>!p k)
 |0,r,h,_=>absurd h (ahV _)|n+1,.cv k,_,_=>by
  show p k = !(!p k);rw[Bool.not_not]
 |n+1,.ch k ps,h,hw=>by
  obtain⟨aj,h2,bz,c0⟩:=hw;simp only[aF.deep]at h;have dl:=kY (ps:=ps) (n:=aF.dm ps+1) (by omega);have c:=It p ps fun r ay=>by
   have:=dl r ay;exact IX p n r (by omega) (i_.mp c0 r ay)
  show decide (ps.length-k+1<=aF.cnt p (iy ps)) = !decide (k<=aF.cnt (fun k=>!p k) ps)
  by_cases z:k<=aF.cnt (fun k=>!p k) ps
  ·rw[decide_eq_true z,decide_eq_false (by omega)];rfl
  ·rw[decide_eq_false z,decide_eq_true (by omega)];rfl
theorem Xp(ax:Good a):meets a (gX a)=true:=by
 have:=Lp ax.1 (Cj a ax.1);unfold meets;rw[<-this,ak5];refine ajW.mpr fun m hm=>?_
 have hm:=ah0.mp hm;rw[IX _ 5 a (by have:=ax.2.1;omega) ax.1,CE (p:=fun k=>!b7 (63-m) k) (q:=b7 m) a fun k aL=>by
  rw[Bt hm (qW a ax.1 k aL),Bool.not_not]]
 cases a.fills (b7 m)<;>simp
theorem TS(ga:Good a):Good (gX a):=⟨Cj a ga.1,by rw[IW];exact ga.2.1,by rw[IY];exact ga.2.2⟩
theorem yX:∀(m:Nat)(r:aF),r.deep<m->r.wf->∀n,2*r.deep<=n->Ok n (enc r)
 |0,r,h,_,_,_=>absurd h (ahV _)| m+1,.cv k,_,_,n,_=>by rw[iz];exact yY|m+1,.ch k ps,h,hw,n,aR=>by
  obtain⟨aj,h2,bz,c0⟩:=hw;simp only[aF.deep]at h aR;have dl:=kY (ps:=ps) (n:=aF.dm ps+1) (by omega);rw[hb];obtain⟨pE,rfl⟩:∃pE,n=pE+2:=⟨n-2,by omega⟩;refine vo (by simp) fun x av=>?_
  rcases aha.mp av with rfl | av
  ·exact yY
  ·rw[ahJ.mp av]
   refine vo (by rw[ag4];omega) fun p aP=>?_
   obtain⟨q,bf,rfl⟩:=aiC.mp aP;have:=dl q bf;exact yX m q (by omega) (i_.mp c0 q bf) pE (by omega)
theorem ki{a b:List Nat}(h:a.length+b.length<=1000):hl (.v (.str (af a))) (.v (.str (af b)))=pure (.v (.str (af (a++b)))):=by
 show(if(af a).length+(af b).length<=ag5 then pure (R.v (D.str (af a++af b)))else bad)=_;rw[hr,hr,if_pos (ahM (eJ h)),rk]
theorem SX(xs:List Nat):(xs.drop 1).length<=xs.length:=by rw[ahz];omega
theorem ab2:∀{r:aF}{k:Nat}{ps:List aF},r=.ch k ps->(bA r).length<=300->(c4 ps).length<=300:=fun{r k ps} e h=>by
 subst e;rw[bA]at h;simp at h;omega
theorem YP(ay:r∈ps):(bA r).length<=(c4 ps).length:=by
 induction ps with
 |nil=>cases ay
 |cons p ps bk=>
  rw[c4];simp only[ahj,ag3];rcases aha.mp ay with rfl | ay
  ·omega
  ·have:=bk ay;omega
theorem vD:∀(n:Nat)(r:aF),r.deep<n->r.wf->(bA r).length<=300->jQ n [enc r]=pure (.v (.str (af (bA r))))
 |0,r,h,_,_=>absurd h (ahV _)|n+1,.cv k,_,hw,_=>by
  have hw:k<6:=hw;have d:=IL (k:=k) (by omega);rw[iz,bA];simp only[jQ,w'];simp[-bind_assoc,-bind_pure_comp,d]
 |n+1,.ch k ps,h,hw,ao=>by
  have aQ:=ab2 rfl ao;obtain⟨aj,h2,bz,c0⟩:=hw;simp only[aF.deep]at h;have dl:=kY (ps:=ps) (n:=aF.dm ps+1) (by omega);have c:fR fF (b4 (jQ n) (ah (ag 0) aG)) [.emp] (ps.map enc)=pure (ps.map fun p=>D.str (af (bA p))):=uc enc _ ps fun r ay=>by
   have:=dl r ay;have:=vD n r (by omega) (i_.mp c0 r ay) (ahL (YP ay) aQ);simp[-bind_assoc,-bind_pure_comp,this]
  have d:=IL (k:=k) (by omega);have j:=V8 (ps:=ps) (by omega);have z:ps.length<ag5:=eJ (by omega);have I0:=SX (c4 ps);have k1:=ki (a:=[48+k]) (b:=[40]) (by simp);have k2:=ki (a:=[48+k]++[40]) (b:=(c4 ps).drop 1) (by simp at I0 ⊢;omega);have k3:=ki (a:=[48+k]++[40]++(c4 ps).drop 1) (b:=[41]) (by simp at I0 ⊢;omega);have e:bA (.ch k ps)=[48+k]++[40]++(c4 ps).drop 1++[41]:=by rw[bA];simp
  rw[hb,e];generalize(c4 ps).drop 1=gw at j k2 k3 ⊢;generalize(ps.map fun p=>D.str (af (bA p)))=ds at c j;simp only[jQ,w',Hp];simp[-bind_assoc,-bind_pure_comp,c,z,FQ,Nu,Nt,j,d];simp at k1 k2 k3;simp[-bind_assoc,-bind_pure_comp,k1,k2,k3]
theorem ra:(ah2 " / ":Str)=af [32,47,32]:=by decide +kernel
theorem EW(h:Good r):gP [.str (af (bA r))]=pure (.ret (enc r)):=by
 have ao:=kp h;have wL:=Nm 12 r 4 (bA r) h.1 (by have:=h.2.1;omega) h.2.1 (by omega) [] [] ⟨by decide,fun _ z=>by cases z⟩ (by simp);have wL:kA 12 [.str (af (bA r)),.int 0,.int 4]=pure (.ret (.tup [enc r,.int (((bA r).length:Nat):Int)])):=by simpa using wL
 have lX:=yn (n7 r);rw[tj h.1 h.2.1 h.2.2]at lX;have gw:=hr (bA r);have z4:(bA r).length<=ag5:=ahM (eJ (by omega));have y_:eT (.v (.int (((bA r).length:Nat):Int))) (.v (.int (((bA r).length:Nat):Int)))=pure (.v (.aB false)):=by rw[ql rfl rfl];show pure (R.v (D.aB (!(_==_))))=_;simp
 generalize bA r=X at wL gw z4 y_;simp only[gP,d4,Bh];simp[-bind_assoc,-bind_pure_comp,wL,lX,gw,z4,y_]
noncomputable def hI(a k:aF):List Nat:=bA a++(32::47::32::bA k)
theorem C6{a k:aF}(ax:Good a)(aL:Good k):(hI a k).length<=700:=by
 have:=kp ax;have:=kp aL;simp[hI];omega
theorem adB{a k:aF}(ax:Good a)(aL:Good k):(hl (.v (.str (af (bA a)))) (.v (.str (af [32,47,32]))) >>= fun x=>hl x (.v (.str (af (bA k)))))=pure (.v (.str (af (hI a k)))):=by
 have:=kp ax;have:=kp aL;rw[ki (by simp;omega),pure_bind,ki (by simp;omega)];simp[-bind_assoc,-bind_pure_comp,hI]
theorem Dw{a k:aF}(ax:Good a)(aL:Good k):pw [.tup [enc a,enc k]]=pure (.v (.str (af (hI a k)))):=by
 have t1:=vD 12 a (by have:=ax.2.1;omega) ax.1 (kp ax);have en:=vD 12 k (by have:=aL.2.1;omega) aL.1 (kp aL);have c:=ki (a:=bA a) (b:=[32,47,32]) (by have:=kp ax;simp;omega);have au:=ki (a:=bA a++[32,47,32]) (b:=bA k) (by have:=kp ax;have:=kp aL;simp;omega);have e:bA a++[32,47,32]++bA k=hI a k:=by simp[-bind_assoc,-bind_pure_comp,hI]
 rw[e]at au;simp only[pw,AS];simp[-bind_assoc,-bind_pure_comp,t1,en,ra,c,au]
theorem Z_{a k:aF}(ax:Good a)(aL:Good k):iZ [.str (af (hI a k))]=pure (if meets a k=true then .ret (.tup [enc a,enc k])else .exc "NoText"):=by
 have sp:aij (af (hI a k)) (af [32,47,32])=[af (bA a),af (bA k)]:=aa8 (fun z=>(uC ax 47 z).2 rfl) (fun z=>(uC aL 47 z).2 rfl);have fs:k7 (.v (.str (af (hI a k)))) [.v (.str (af [32,47,32]))]=pure (.v (.lst [.str (af (bA a)),.str (af (bA k))])):=by
  rw[Cm rfl (by rw[hr];exact ahM (eJ (by have:=C6 ax aL;omega))) (by rw[sp];exact ahM (eJ (by simp))),sp];rfl
 have bK:=EW ax;have cn:=EW aL;have bk:=Ki ax aL;have bk:pl [.tup [enc a,enc k]]=pure (.v (.aB (meets a k))):=bk;generalize hI a k=X at fs;generalize bA a=A at fs bK;generalize bA k=B at fs cn;simp only[iZ,d4,Bg]
 cases e:meets a k with
 |true=>rw[e]at bk;simp[-bind_assoc,-bind_pure_comp,ra,fs,bK,cn,bk]|false=>rw[e]at bk;simp[-bind_assoc,-bind_pure_comp,ra,fs,bK,cn,bk]
theorem L9{a k:aF}(ax:Good a)(aL:Good k):ag7 (af (hI a k))=true:=eV.mpr fun c aA=>by
 unfold hI at aA;rcases ahI.mp aA with aA | aA
 ·have:=(uC ax c aA).1;omega
 ·simp only[aha]at aA
  rcases aA with rfl | rfl | rfl | aA
  ·decide
  ·decide
  ·decide
  ·have:=(uC aL c aA).1;omega
theorem Yy(ax:Good a):ag7 (af (bA a))=true:=eV.mpr fun c aA=>by have:=(uC ax c aA).1;omega
end b'
namespace b'
open PySem PySem.Spec ak aN PySem.NumText
noncomputable def h5(c:Nat):Bool:=decide (48<=c/\c<=57)
theorem Im(c:Nat):ch c=af [c]:=rfl
theorem RM(a b:Nat):(ch a==ch b)=decide (a=b):=by
 rw[aif,beq_iff_eq,decide_eq_true_eq,Im,Im,vW];simp
theorem Jc(c:Nat):(h9.lookup (ch c)).isSome=h5 c:=by
 cases h:h5 c with
 |true=>
  have h:48<=c/\c<=57:=of_decide_eq_true h;have:=(show ∀k,k<10->(h9.lookup (ch (48+k))).isSome=true by decide +kernel) (c-48) (by omega)
  rwa[Nat.add_sub_cancel' h.1]at this
 |false=>
  have h:¬(48<=c/\c<=57):=of_decide_eq_false h;have:h9.lookup (ch c)=none:=List.lookup_eq_none_iff.mpr fun p aP=>by
   obtain⟨k,aL,e⟩:=(show ∀p∈h9.map (·.1),∃k,k<10/\p=ch (48+k)by decide +kernel) p.1 (List.mem_map_of_mem aP);rw[e,bne,RM,decide_eq_false (by omega)];rfl
  rw[this];rfl
noncomputable def mH(l:List Nat):Option Nat:=if 1<=l.length/\l.length<=60/\l.all h5=true/\¬(l.head? = some 48/\1<l.length)then some (akN l)else none
theorem NR(l:List Nat)(c:Nat):aja (af l) (ch c)=decide (l.head? = some c):=by
 unfold aja
 cases l with
 |nil=>rfl|cons a l=>
  rw[aif,ahn,decide_eq_true_eq,decide_eq_true_eq];unfold Builtin.Str.subAt;have e:(af (a::l)).cps.extract 0 (0+(ch c).length)=#[a]:=by
   show(a::l).toArray.extract 0 (0+1)=#[a];simp
  rw[e,beq_iff_eq];constructor
  ·intro ⟨_,h⟩
   have:#[a]=#[c]:=h;simp at this;rw[this];rfl
  ·intro h
   cases h;refine⟨?_,rfl⟩;rw[hr];show 0+1<=l.length+1;omega
theorem adA(p:Nat->Bool)(l:List Nat):kf ((l.map fun c=>D.str (ch c)).map fun d=>match d with | .str z=>D.aB (p (z.cps.getD 0 0)) | _=>.ba)=some (l.map p):=by
 induction l with
 |nil=>rfl|cons c r bk=>
  rw[ahi,ahi,ahi];show(kf _).map _=_;rw[bk];rfl
theorem Tt(l:List Nat):fR fF (oQ false h9 (ag 0)) [.emp] (l.map fun c=>D.str (ch c))=pure (l.map fun c=>D.aB (h5 c)):=by
 have:=comp_map (el:=oQ false h9 (ag 0)) (σ:=[.emp]) (fun d=>match d with | .str z=>D.aB ((h9.lookup z).isSome) | _=>.ba) (l.map fun c=>D.str (ch c)) (fun d hd=>by
  obtain⟨c,_,rfl⟩:=aiC.mp hd;simp)
 rw[this,ajf]
 congr 1
 refine ajL fun c _=>?_
 show D.aB _=_;rw[Jc]
theorem O0:("0":Str)=af [48]:=by decide +kernel
theorem Xr:("-":Str)=af [45]:=by decide +kernel
theorem XF:("-0":Str)=af [45,48]:=by decide +kernel
theorem Yr:ag7 (af [48])=true:=by decide +kernel
theorem Yq:ag7 (af [45,48])=true:=by decide +kernel
theorem jY(h:n<=1000):n<=ag5:=by rw[ahY];omega
theorem Ta{l:List Nat}(aj:1<=l.length)(h2:l.length<=60)(bz:l.all h5=true):ur [.v (.str (af l))]=pure (.v (.int ((akN l:Nat):Int))):=by
 have um:akz (af l)=some ((akN l:Nat):Int):=intText_digits (x:=af l) (fun c aA=>of_decide_eq_true (ahH.mp bz c aA)) (fun z=>by rw[show l=[]from z]at aj;exact absurd aj (by decide)) (by rw[hr];omega);unfold ur;simp only[um];rw[if_pos (by rw[hr];omega)]
section
variable{l:List Nat}
theorem u7(ao:l.length<=1000):k6 [.v (.str (af l))]=pure (.v (.int (l.length:Nat))):=if_pos (jY ao)
theorem D1(J:Int)(ao:l.length<=1000):bb (d1 oLe oLe (ai (.int 1)) (cb k6 (ah (ag 0) aG)) (ai (.int J))) (.val (.str (af l))::σ)=pure (decide (1<=(l.length:Int)/\(l.length:Int)<=J)):=by
 have e:cb k6 (ah (ag 0) aG) (.val (.str (af l))::σ)=pure (.v (.int (l.length:Nat))):=kW (u7 ao) rfl;generalize(l.length:Int)=n at e;simp only[bb,d1,e]
 by_cases h:1<=n
 ·by_cases h2:n<=J
  ·simp[-bind_assoc,-bind_pure_comp,h,h2]
  ·simp[-bind_assoc,-bind_pure_comp,h,h2]
 ·simp[-bind_assoc,-bind_pure_comp,h]
theorem DF:pd (ag 0) (.val (.str (af l))::σ)=pure (l.map fun c=>D.str (ch c)):=rfl
theorem Tq(ao:l.length<=1000):bb (cb nO (ah (hF 1 [] (pd (ag 0)) fF (oQ false h9 (ag 0))) aG)) [.val (.str (af l))]=pure (l.all h5):=
 bT (kW AA (cons_of (ud DF (by rw[ag4,ahY];omega) (Tt l)) rfl))
theorem Tr(aj:1<=l.length)(aM:ag7 (af l)=true):i7 (bb (jF mK (ag 0) (ah (ai (.str "0")) aG))) (bb (au eT (ag 0) (ai (.str "0")))) [.val (.str (af l))]=pure (decide (l.head? = some 48/\1<l.length)):=by
 have s0:bb (jF mK (ag 0) (ah (ai (.str "0")) aG)) [.val (.str (af l))]=pure (decide (l.head? = some 48)):=by rw[O0,<-NR l 48];rfl
 by_cases c0:l.head? = some 48
 ·rw[decide_eq_true c0]at s0
  refine(rL s0).trans ?_;have s1:bb (au eT (ag 0) (ai (.str "0"))) [.val (.str (af l))]=pure (!decide (l=[48])):=by rw[O0];exact bT (bX (Ek aM Yr) rfl rfl)
  rw[s1]
  congr 1
  match l,aj,c0 with
  |[_],_,rfl=>rfl|_::b::r,_,rfl=>rw[decide_eq_false (fun h=>nomatch h),decide_eq_true ⟨rfl,Nat.succ_lt_succ (Nat.succ_pos _)⟩];rfl
 ·rw[decide_eq_false c0]at s0
  rw[oM s0,decide_eq_false fun q=>c0 q.1]
end
theorem M7(l:List Nat)(ao:l.length<=1000)(aM:ag7 (af l)=true):ll [.str (af l)]=pure (match mH l with | some n=>.ret (.int (n:Nat)) | none=>.exc "NoText"):=by
 have t1:=D1 (σ:=[]) 60 ao;have en:=Tq ao
 by_cases aj:1<=l.length/\l.length<=60
 ·rw[decide_eq_true (by omega)]at t1
  have t3:=Tr aj.1 aM
  cases bz:l.all h5 with
  |false=>
   rw[bz]at en;rw[show mH l=none from if_neg fun q=>by rw[bz]at q;exact nomatch q.2.2.1];exact gM rfl (j8 ((g0 (e1 t1)).trans (l4 en)))
  |true=>
   rw[bz]at en
   by_cases c0:l.head? = some 48/\1<l.length
   ·rw[decide_eq_true c0]at t3
    rw[show mH l=none from if_neg fun q=>q.2.2.2 c0];exact gM rfl ((ey ((g0 (e1 t1)).trans (e1 en))).trans (j8 t3))
   ·rw[decide_eq_false c0]at t3
    rw[show mH l=some (akN l)from if_pos ⟨aj.1,aj.2,bz,c0⟩];exact mM rfl ((ey ((g0 (e1 t1)).trans (e1 en))).trans ((ey t3).trans (rx (jv (kW (Ta aj.1 aj.2 bz) rfl)))))
 ·rw[decide_eq_false (by omega)]at t1
  rw[show mH l=none from if_neg fun q=>aj ⟨q.1,q.2.1⟩];exact gM rfl (j8 (vp (l4 t1)))
noncomputable def eo(n:Nat):List Nat:=(ajy 10 n).map Char.toNat
theorem LX(n:Nat):(ah2 (toString ((n:Nat):Int)):Str)=af (eo n):=by
 rw[Str.ofString_eq_toList];have e:(toString ((n:Nat):Int)).toList=ajy 10 n:=by
  show(Nat.repr n).toList=_;simp[Nat.repr]
 rw[e];rfl
theorem uj:∀d:Nat,d<10->eo d=[48+d]:=by decide
theorem IK(h:¬m<10):eo m=eo (m / 10)++eo (m % 10):=by
 have hm:m % 10<10:=Nat.mod_lt m (by decide);have t:ajy 10 (m / 10)++ajy 10 (m % 10)=ajy 10 (10*(m / 10)+m % 10):=Nat.toDigits_append_toDigits (by decide) (by omega) hm;rw[Nat.div_add_mod]at t;unfold eo;rw[<-t,ahP]
theorem xQ(m:Nat):(eo m).all h5=true:=by
 induction m using Nat.strongRecOn with
 |_ m bk=>
  by_cases h:m<10
  ·rw[uj m h]
   simp[h5];omega
  ·rw[IK h,List.all_append,bk (m / 10) (by omega),uj (m % 10) (Nat.mod_lt m (by decide))]
   simp[h5];omega
theorem xR(m:Nat)(h0:0<m):∃c r,eo m=c::r/\49<=c:=by
 induction m using Nat.strongRecOn with
 |_ m bk=>
  by_cases h:m<10
  ·exact⟨48+m,[],uj m h,by omega⟩
  ·obtain⟨c,r,e,aA⟩:=bk (m / 10) (by omega) (by omega)
   exact⟨c,r++eo (m % 10),by rw[IK h,e];rfl,aA⟩
theorem uh(h:n<10 ^ 60):1<=(eo n).length/\(eo n).length<=60:=by
 have:=PyProof.Rows.toString_length_le (v:=((n:Nat):Int)) (k:=60) (by omega) (by decide) (by exact_mod_cast h);rw[LX,hr]at this;refine⟨?_,this⟩
 by_cases z:n=0
 ·subst z;decide
 ·obtain⟨c,r,e,_⟩:=xR n (by omega)
  rw[e];simp
theorem SK(h:n<10 ^ 60):mH (eo n)=some n:=by
 obtain⟨bP,cE⟩:=uh h;unfold mH;have vj:¬((eo n).head? = some 48/\1<(eo n).length):=fun⟨bh,cM⟩=>by
  by_cases z:n=0
  ·subst z
   rw[uj 0 (by decide)]at cM;simp at cM
  ·obtain⟨c,r,e,aA⟩:=xR n (by omega)
   rw[e]at bh;simp at bh;omega
 rw[if_pos ⟨bP,cE,xQ n,vj⟩];exact congrArg some (W.KIN.val_back n)
theorem ui(n:Nat):ag7 (af (eo n))=true:=eV.mpr fun c aA=>by
 have:=ahH.mp (xQ n) c aA;simp[h5]at this;omega
theorem CB(h:n<10 ^ 60):ll [.str (af (eo n))]=pure (.ret (.int (n:Nat))):=by
 rw[M7 _ (by have:=(uh h).2;omega) (ui n),SK h]
end b'
namespace aN
open PySem PySem.Spec ak Builtin Builtin.Str
noncomputable def cC:List (List Nat)->List Nat
 |[]=>[]
 |l::ls=>32::(l++cC ls)
theorem DO:∀(l:List Nat)(ls:List (List Nat)),akA (af [32]) ((l::ls).map af)=af (l++cC ls)
 | l,[]=>by simp[cC,akA]|l,m::ls=>by
  have bk:=DO m ls;show af l++af [32]++akA (af [32]) ((m::ls).map af)=_;rw[bk,rk,rk];simp[cC]
theorem IC:∀{A B X Y:List Nat},32∉A->32∉B->A++32::X=B++32::Y->A=B/\X=Y
 | [],[],X,Y,_,_,e=>by simpa using e|[],b::B,X,Y,_,U,e=>by
  simp at e;exact absurd (by rw[<-e.1];exact ahb) U
 |a::A,[],X,Y,ax,_,e=>by
  simp at e;exact absurd (by rw[e.1];exact ahb) ax
 |a::A,b::B,X,Y,ax,U,e=>by
  simp at e;obtain⟨aH,aT⟩:=e;obtain⟨bh,cM⟩:=IC (fun z=>ax (ahc _ z)) (fun z=>U (ahc _ z)) aT;exact⟨by rw[aH,bh],cM⟩
theorem Og:∀{ls ms:List (List Nat)}{l m:List Nat},(∀x∈l::ls,32∉x)->(∀x∈m::ms,32∉x)->l++cC ls=m++cC ms->l::ls=m::ms
 | [],[],l,m,_,_,e=>by simpa[cC]using e|[],y::ms,l,m,aj,_,e=>by
  exfalso;rw[show l++cC []=l by simp[cC]]at e;refine aj l ahb ?_;rw[e];simp[cC]
 |x::ls,[],l,m,_,h2,e=>by
  exfalso;rw[show m++cC []=m by simp[cC]]at e;refine h2 m ahb ?_;rw[<-e];simp[cC]
 |x::ls,y::ms,l,m,aj,h2,e=>by
  obtain⟨bh,cM⟩:=IC (aj l ahb) (h2 m ahb) e;rw[bh,Og (fun z aX=>aj z (ahc _ aX)) (fun z aX=>h2 z (ahc _ aX)) cM]
theorem aa7(h:∀x∈l::ls,32∉x):aij (af (l++cC ls)) (af [32])=(l::ls).map af:=by
 have j:=StrLaws.join_split (af (l++cC ls)) (af [32]);have f:=StrLaws.split_free (af (l++cC ls)) 32;have p:=PyProof.Rows.split_pos (af (l++cC ls)) (af [32]);have f:∀p∈aij (af (l++cC ls)) (af [32]),32∉p.cps.toList:=f;generalize aij (af (l++cC ls)) (af [32])=ps at j f p
 match ps,p with
 |q::c1,_=>
  have e:q::c1=(cd q::c1.map cd).map af:=by
   rw[ahi,ajf,pU]
   congr 1
   have hm:c1.map (af∘cd)=c1.map _root_.id:=ajL fun a _=>pU a
   rw[hm,List.map_id]
  rw[e,DO]at j;have u:=Og (fun x av=>by
   rcases aha.mp av with rfl | av
   ·exact f q ahb
   ·obtain⟨y,bo,rfl⟩:=aiC.mp av
    exact f y (ahc _ bo)) h (vW.mp j)
  rw[e,u]
theorem Mi(h:32∉A):kF (af (A++32::X)) (af [32])=[af A,af [32],af X]:=by
 have tW:∀i,StrLaws.At (af (A++32::X)) (af [32]) (af (A++32::X)).length i↔(A++32::X)[i]? = some 32:=fun i=>StrLaws.subAt_one (af (A++32::X)) 32 i
 unfold kF aiP;rcases StrLaws.occ_head (af (A++32::X)) (af [32]) 1 (ahg 1)with⟨h0,aR⟩ | ⟨i,r,h0,aC,aR⟩
 ·exact absurd ((tW A.length).mpr (by simp)) (aR A.length)
 ·rw[h0]
  dsimp only;have aC:=(tW i).mp aC;have le:¬i<A.length:=fun z=>by
   rw[ahF z]at aC;exact h (ahO aC)
  have ge:¬A.length<i:=fun z=>aR A.length z ((tW A.length).mpr (by simp))
  have e:i=A.length:=by omega
  subst e;rw[zF,zF];have bP:(af [32]).length=1:=rfl;rw[bP,hr];simp;rw[ah7 (by omega)]
theorem Mj(h:32∉A):kF (af A) (af [32])=[af A,af [],af []]:=by
 have tW:∀i,StrLaws.At (af A) (af [32]) (af A).length i↔A[i]? = some 32:=fun i=>StrLaws.subAt_one (af A) 32 i
 unfold kF aiP;rcases StrLaws.occ_head (af A) (af [32]) 1 (ahg 1)with⟨h0,aR⟩ | ⟨i,r,h0,aC,aR⟩
 ·rw[h0]
  rfl
 ·exact absurd (ahO ((tW i).mp aC)) h
theorem HX:∀(ls:List (List Nat))(n:Nat),(ls.map af).foldl (fun a (x:Str)=>a+x.length+1) n=n+(cC ls).length
 |[],n=>rfl|l::ls,n=>by
  rw[ahi,alz,HX ls,hr];simp[cC];omega
theorem NT:∀ls:List (List Nat),l' (ls.map fun l=>D.str (af l))=some (ls.map af)
 |[]=>rfl|l::ls=>by
  show(l' (ls.map fun l=>D.str (af l))).map (_::·)=_;rw[NT ls];rfl
theorem V9{l:List Nat}{r:R}(ay:r.gb=some ((l::ls).map fun l=>D.str (af l)))(h:l.length+(cC ls).length<=900):oZ (.v (.str (af [32]))) [r]=pure (.v (.str (af (l++cC ls)))):=by
 have bV:akq (af [32]) ((l::ls).map af)=true:=by
  unfold akq;rw[List.foldl_toArray']
  ·have:=HX (l::ls) 0
   show(!ajN (((l::ls).map af).foldl (fun a (x:Str)=>a+x.length+1) 0))=true;rw[this];unfold ajN;have:¬(0+(cC (l::ls)).length > ag5):=by rw[ahY];simp[cC];omega
   rw[decide_eq_false this];rfl
  ·rfl
 show(match r.gb.bind l' with
  |some zs=>if akq (af [32]) zs=true then pure (R.v (.str (aky (af [32]) zs)))else bad| none=>bad:M R)=_
 rw[ay,Option.bind_some,NT];dsimp only;rw[if_pos bV];unfold aky;rw[alL,DO]
end aN
namespace b'
open PySem PySem.Spec ak aN g8 fB je
def wM(self:dE)(d:Nat)(X:List Nat)(p:Nat):Prop:=
 self [.str (af X),.int (p:Nat),.int (d:Nat)]=pure (.exc "NoText")\/∃r post,X.drop p=bA r++post/\r.deep<=d/\self [.str (af X),.int (p:Nat),.int (d:Nat)]=pure (.ret (.tup [enc r,.int ((p+(bA r).length:Nat):Int)]))
theorem ab1(r:aF):1<=(bA r).length:=by
 cases r with
 |cv k=>rw[bA];exact ahg 1|ch k ps=>rw[bA];simp
theorem Iz{X:List Nat}:cutD X (some ((p:Nat):Int)) (some (((p:Nat):Int)+1))=(X.drop p).take 1:=by
 have:=Bx X p (p+1) (by omega);rw[show(((p+1:Nat)):Int)=(p:Nat)+1 from by omega,alw]at this;exact this
theorem xp{X:List Nat}:cutD X (some (((p:Nat):Int)+1)) (some (((p:Nat):Int)+2))=(X.drop (p+1)).take 1:=by
 have:=Bx X (p+1) (p+2) (by omega);rw[show(((p+1:Nat)):Int)=(p:Nat)+1 from by omega,show(((p+2:Nat)):Int)=(p:Nat)+2 from by omega,show p+2-(p+1)=1 by omega]at this;exact this
theorem yZ{X:List Nat}(h:ag7 (af X)=true)(p:Nat):ag7 (af ((X.drop p).take 1))=true:=eV.mpr fun c aA=>eV.mp h c (ajG (aks aA))
theorem drop_cons{Z:List Nat}(h:Z.take 1=[c]):Z=c::Z.drop 1:=by
 cases Z with
 |nil=>simp at h|cons a Z=>simp at h;rw[h];rfl
inductive wF(X:List Nat)(p d:Nat)(acc:List D)(y:M rB):Prop
 |no (h:y=pure (.ex "NoText"))
 |got (r:aF) (rs:List aF) (q:Nat) (s5:aN.Slot) (e:X.drop p=bA r++(c4 rs++X.drop q)) (bz:∀x∈r::rs,x.deep<=d) (c0:q=p+(bA r++c4 rs).length) (eO:acc.length+rs.length<=1001) (h:y=pure (.a8 [.val (.str (af X)),.val (.int ((q+1:Nat):Int)),.val (.int (d:Nat)),.b5 false (acc++(r::rs).map enc),.val (.str (af ((X.drop q).take 1))),s5]))
theorem wF.cons{X:List Nat}{p d q:Nat}{acc:List D}{y:M rB}{r:aF}(hd:r.deep<=d)(e:X.drop p=bA r++X.drop q)(bf:q=p+(bA r).length)(TZ:(X.drop q).take 1=[32])(h:wF X (q+1) d (acc++[enc r]) y):wF X p d acc y:=by
 cases h with
 |no h=>exact .no h|got cn rs cM s5 aT bz c0 eO h=>
  rw[ag3]at eO;refine .got r (cn::rs) cM s5 ?_ ?_ ?_ ?_ ?_
  ·rw[e,drop_cons TZ,ai8,aT,c4,aio,aht]
  ·exact fun x av=>(aha.mp av).elim (fun z=>z▸hd) (bz x)
  ·rw[c0,bf,c4,ag3,ag3,ahj,ag3];omega
  ·have:acc.length+1+rs.length<=1001:=eO
   rw[ahj];omega
  ·rw[h,aht];rfl
theorem K7{X:List Nat}(aX:X.length<=1000)(bp:ag7 (af X)=true)(jL:∀p,wM self d X p):∀(k p:Nat)(acc:List D)(s5:aN.Slot)(m:Nat),X.length-p<=k->k+2<=m->acc.length+k<=1001->
  wF X p d acc (jx pj (qQ self) m [.val (.str (af X)),.val (.int (p:Nat)),.val (.int (d:Nat)),.b5 false acc,.val (.str (af [32])),s5])
 |k,p,acc,s5,0,aL,hm,ax=>absurd hm (ai4 _)|k,p,acc,s5,1,aL,hm,ax=>absurd (ajr hm) (ai4 _)|k,p,acc,s5,m+2,aL,hm,ax=>by
  rcases jL p with h | ⟨r,post,e,hd,h⟩
  ·exact .no (W_ h)
  ·have K9:=ab1 r
   have hlen:X.length-p=(bA r).length+post.length:=by rw[<-ahz,e,ag3]
   have SV:X.drop (p+(bA r).length)=post:=by rw[<-ai8,e,List.drop_left]
   have bE:X.drop p=bA r++X.drop (p+(bA r).length):=by rw[SV];exact e
   rw[D4 aX h (by rw[ahY];omega) Iz]
   by_cases aQ:(X.drop (p+(bA r).length)).take 1=[32]
   ·rw[aQ]
    exact .cons hd bE rfl aQ (K7 aX bp jL (k-1) _ _ _ (m+1) (by omega) (by omega) (by rw[ag3,ahm];omega))
   ·refine .got r [] _ _ (by rw[c4];exact bE) (fun x av=>ahJ.mp av▸hd) (by rw[c4,ahl]) (by rw[aiy];omega) (K_ (yZ bp _) aQ)
theorem YU{X:List Nat}(aX:X.length<=1000)(bp:ag7 (af X)=true)(jL:∀p,wM (kA n) d X p)(p:Nat) :
  sP (n+1) [.str (af X),.int (p:Nat),.int (d:Nat)]=pure (.exc "NoText")\/∃r rs post,X.drop p=bA r++(c4 rs++41::post)/\(∀x∈r::rs,x.deep<=d)/\sP (n+1) [.str (af X),.int (p:Nat),.int (d:Nat)]=pure (.ret (.tup [.tup ((r::rs).map enc),.int ((p+(bA r++c4 rs).length+1:Nat):Int)])):=by
 cases K7 aX bp jL 1000 p [] .emp mh (by omega) (ahM (Gj (by omega))) (by decide)with
 |no L=>exact .inl (YN L)|got r rs q s5 e bz c0 eO L=>
  by_cases aA:(X.drop q).take 1=[41]
  ·refine .inr ⟨r,rs,X.drop (q+1),by rw[e,drop_cons aA,ai8],bz,?_⟩
   rw[<-c0];exact Mh L (yZ bp _) aA
  ·exact .inl (YO L (yZ bp _) aA)
theorem Tw(h:h5 c=false):(h9.lookup (af [c])).getD D.ba=.ba:=by
 have:=Jc c;rw[h,show ch c=af [c]from rfl]at this;rw[Option.isSome_eq_false_iff,ak5]at this;rw[this];rfl
theorem Tv:(h9.lookup (af [])).getD D.ba=.ba:=rfl
theorem Tx(h:h5 c=true):∃k,k<10/\c=48+k/\(h9.lookup (af [c])).getD D.ba=.int (k:Nat):=by
 simp[h5]at h;exact⟨c-48,by omega,by omega,by have:=CD (k:=c-48) (by omega);rwa[show 48+(c-48)=c by omega]at this⟩
theorem Nn{mp:dE}{X:List Nat}(aX:X.length<=1000)(bp:ag7 (af X)=true)(p:Nat)(fP:∀d',d=d'+1->mp [.str (af X),.int ((p+2:Nat):Int),.int (d':Nat)]=pure (.exc "NoText")\/∃r rs post,X.drop (p+2)=bA r++(c4 rs++41::post)/\(∀x∈r::rs,x.deep<=d')/\mp [.str (af X),.int ((p+2:Nat):Int),.int (d':Nat)]=pure (.ret (.tup [.tup ((r::rs).map enc),.int ((p+2+(bA r++c4 rs).length+1:Nat):Int)]))):wM (d4 3 5 (oN mp)) d X p:=by
 have cy:=Iz (X:=X) (p:=p)
 cases kr:X.drop p with
 | nil=>exact .inl (M5 aX cy (by rw[kr];exact Tv))|cons c rest=>
  rw[kr]at cy
  cases hd:h5 c with
  |false=>exact .inl (M5 aX cy (Tw hd))|true=>
   obtain⟨k,aL,rfl,g⟩:=Tx hd;have ay:X.drop (p+1)=rest:=by rw[<-ai8,kr];rfl
   have q:=Ej (yZ bp (p+1))
   by_cases aM:(X.drop (p+1)).take 1=[40]
   ·rw[decide_eq_true aM]at q
    cases d with
    |zero=>exact .inl (Z7 aX cy g xp q)|succ d=>
     have dd:((d+1:Nat):Int)-1=(d:Nat):=by omega
     rcases fP d rfl with P | ⟨r,rs,post,e,UQ,P⟩
     ·exact .inl (Z8 aX cy g xp q rfl (by rw[dd];exact P))
     ·have uo:bA (.ch k (r::rs))=(48+k)::40::(bA r++(c4 rs++[41])):=by rw[bA,zO,aht]
      refine .inr ⟨.ch k (r::rs),post,?_,ajd (Cc UQ),?_⟩
      ·rw[kr,<-ay,drop_cons aM,ai8,e,uo,aio,aio,aht,aht];rfl
      ·rw[show p+(bA (.ch k (r::rs))).length=p+2+(bA r++c4 rs).length+1 by rw[uo,ahj,ahj,<-aht,ag3,ahm];omega,hb]
       exact M3 aX cy g xp q rfl (by rw[dd];exact P)
   ·rw[decide_eq_false aM]at q
    refine .inr ⟨.cv k,rest,by rw[kr,bA];rfl,ahC _,?_⟩;rw[iz,show(bA (.cv k)).length=1 by rw[bA];rfl];exact M4 aX cy g xp q
theorem Np:∀(n d:Nat),2*d<n->∀X:List Nat,X.length<=1000->ag7 (af X)=true->∀p,wM (kA n) d X p
 |0,d,h,_,_,_,_=>absurd h (ahV _)| 1,d,h,X,aX,bp,p=>Nn aX bp p fun d' e=>by omega
 | n+2,d,h,X,aX,bp,p=>Nn aX bp p fun d' e=>YU aX bp (fun p=>Np n d' (by omega) X aX bp p) (p+2)
mutual
theorem I8:∀{a b:aF},enc a=enc b->a=b
 | .cv k,.cv j,h=>by rw[iz,iz]at h;injection h with h;congr 1;omega
 | .cv k,.ch j ps,h=>by rw[iz,hb]at h;cases h
 | .ch k ps,.cv j,h=>by rw[iz,hb]at h;cases h
 |.ch k ps,.ch j c1,h=>by
  rw[hb,hb]at h;injection h with h
  injection h with aj h2
  injection h2 with h2 _
  injection aj with aj
  injection h2 with h2
  rw[I7 h2]
  congr 1;omega
theorem I7:∀{ps c1:List aF},ps.map enc=c1.map enc->ps=c1
 |[],[],_=>rfl| [],_::_,h=>by cases h
 | _::_,[],h=>by cases h
 |p::ps,q::c1,h=>by
  rw[ahi,ahi]at h;injection h with aj h2
  rw[I8 aj,I7 h2]
end
theorem su:eT (.v (.int (a:Nat))) (.v (.int (b:Nat)))=pure (.v (.aB (!decide (a=b)))):=by
 rw[ql rfl rfl];show pure (R.v (D.aB (!decide ((a:Int)=(b:Int)))))=_;rw[decide_eq_decide.mpr Int.ofNat_inj]
section
variable{X:List Nat}{e:D}{y:Nat}
theorem aan(h:kA 12 [.str (af X),.int 0,.int 4]=pure (.exc "NoText")):gP [.str (af X)]=pure (.exc "NoText"):=gM rfl (p2 (GA rfl h))
variable(aX:X.length<=1000)(h:kA 12 [.str (af X),.int 0,.int 4]=pure (.ret (.tup [e,.int (y:Nat)])))
include aX h
theorem aao(aR:y≠X.length):gP [.str (af X)]=pure (.exc "NoText"):=
 gM rfl ((ew (wg rfl h)).trans (j8 (vp (bT (bX (su.trans (by rw[decide_eq_false aR];rfl)) rfl (kW (u7 aX) rfl))))))
variable(aR:y=X.length)
include aR
theorem aam(lX:pq [e]=pure (.v (.aB false))):gP [.str (af X)]=pure (.exc "NoText"):=
 gM rfl ((ew (wg rfl h)).trans (j8 ((g0 (bT (bX (su.trans (by rw[decide_eq_true aR];rfl)) rfl (kW (u7 aX) rfl)))).trans (l4 (bT (call_of (rs:=[.v e]) rfl lX))))))
theorem aap(lX:pq [e]=pure (.v (.aB true))):gP [.str (af X)]=pure (.ret e):=
 mM rfl ((ew (wg rfl h)).trans ((ey ((g0 (bT (bX (su.trans (by rw[decide_eq_true aR];rfl)) rfl (kW (u7 aX) rfl)))).trans (e1 (bT (call_of (rs:=[.v e]) rfl lX))))).trans (rx rfl)))
end
theorem EX{X:List Nat}(aX:X.length<=1000)(bp:ag7 (af X)=true):gP [.str (af X)]=pure (.exc "NoText")\/∃r,Good r/\X=bA r/\gP [.str (af X)]=pure (.ret (enc r)):=by
 rcases Np 12 4 (by decide) X aX bp 0 with h | ⟨r,post,e,hd,h⟩
 ·exact .inl (aan h)
 ·rw[aj0]at e
  rw[akm]at h
  by_cases ao:(bA r).length=X.length
  ·have oW:X=bA r:=by
    rw[e,ag3]at ao;rw[e,akt (show post.length=0 by omega),ahl]
   have lX:=yn (n7 r)
   cases ay:oe (enc r)with
   |true=>
    rw[ay]at lX;obtain⟨bq,bE,g⟩:=SJ ay;exact .inr ⟨r,I8 bE▸g,oW,aap aX h ao lX⟩
   |false=>
    rw[ay]at lX;exact .inl (aam aX h ao lX)
  ·exact .inl (aao aX h ao)
theorem V_(A B S:Str):akA S [A,B]=A++S++B:=rfl
section
variable{X:Str}{ps:List D}{A B:Str}{a k:D}
theorem aaf(fs:k7 (.v (.str X)) [.v (.str " / ")]=pure (.v (.lst ps)))(aR:ps.length≠2):iZ [.str X]=pure (.exc "NoText"):=
 gM rfl ((ew (fJ (d6 (qf fs rfl rfl)))).trans (j8 (bT (bX (su.trans (by rw[decide_eq_false aR];rfl)) rfl rfl))))
variable(fs:k7 (.v (.str X)) [.v (.str " / ")]=pure (.v (.lst [.str A,.str B])))
include fs
theorem aad(ck:gP [.str A]=pure (.exc "NoText")):iZ [.str X]=pure (.exc "NoText"):=
 gM rfl ((ew (fJ (d6 (qf fs rfl rfl)))).trans ((ey (bT rfl)).trans (p2 (NF (OY rfl ck)))))
variable(ck:gP [.str A]=pure (.ret a))
include ck
theorem aae(iJ:gP [.str B]=pure (.exc "NoText")):iZ [.str X]=pure (.exc "NoText"):=
 gM rfl ((ew (fJ (d6 (qf fs rfl rfl)))).trans ((ey (bT rfl)).trans (p2 (NF (acZ rfl ck (OY rfl iJ))))))
variable(iJ:gP [.str B]=pure (.ret k))
include iJ
theorem aag(bk:pl [.tup [a,k]]=pure (.v (.aB false))):iZ [.str X]=pure (.exc "NoText"):=
 gM rfl ((ew (fJ (d6 (qf fs rfl rfl)))).trans ((ey (bT rfl)).trans ((ew (NG (z2 rfl ck (z2 rfl iJ rfl)) (ajz rfl))).trans (j8 (l4 (bT (call_of rfl bk)))))))
theorem aah(bk:pl [.tup [a,k]]=pure (.v (.aB true))):iZ [.str X]=pure (.ret (.tup [a,k])):=
 mM rfl ((ew (fJ (d6 (qf fs rfl rfl)))).trans ((ey (bT rfl)).trans ((ew (NG (z2 rfl ck (z2 rfl iJ rfl)) (ajz rfl))).trans ((ey (e1 (bT (call_of rfl bk)))).trans (rx rfl)))))
end
theorem M8{X:List Nat}(aX:X.length<=1000)(bp:ag7 (af X)=true):iZ [.str (af X)]=pure (.exc "NoText")\/∃a k,(Good a/\Good k/\meets a k=true)/\X=hI a k/\iZ [.str (af X)]=pure (.ret (.tup [enc a,enc k])):=by
 have b1:=StrLaws.join_split (af X) (af [32,47,32]);have W:=alM (af X) (af [32,47,32]);rw[hr]at W;have fs:k7 (.v (.str (af X))) [.v (.str (af [32,47,32]))]=pure (.v (.lst ((aij (af X) (af [32,47,32])).map D.str))):=Cm rfl (by rw[hr,ahY];omega) (by rw[ahY];omega);rw[<-ra]at fs;rw[<-ra]at b1;rw[<-ra]at W;generalize aij (af X) " / "=ps at b1 W fs
 by_cases ao:ps.length=2
 ·match ps,ao with
  |[A,B],_=>
  rw[ra,V_,<-pU A,<-pU B,rk,rk]at b1;have oW:X=cd A++(32::47::32::cd B):=by
   rw[<-vW.mp b1,aht];rfl
  have agH:X.length=(cd A).length+((cd B).length+3):=by rw[oW,ag3];rfl
  have ck:=EX (X:=cd A) (by omega) (eV.mpr fun c aA=>eV.mp bp c (by rw[oW];exact aiE _ aA));have iJ:=EX (X:=cd B) (by omega) (eV.mpr fun c aA=>eV.mp bp c (by rw[oW];exact ahp _ (.tail _ (.tail _ (.tail _ aA)))));rw[pU]at ck iJ;rcases ck with ck | ⟨a,ga,f_,ck⟩
  ·exact .inl (aad fs ck)
  ·rcases iJ with iJ | ⟨k,nT,dS,iJ⟩
   ·exact .inl (aae fs ck iJ)
   ·have bk:pl [.tup [enc a,enc k]]=pure (.v (.aB (meets a k))):=Ki ga nT
    cases hm:meets a k with
    |true=>
     rw[hm]at bk;exact .inr ⟨a,k,⟨ga,nT,hm⟩,by rw[oW,f_,dS];rfl,aah fs ck iJ bk⟩
    |false=>
     rw[hm]at bk;exact .inl (aag fs ck iJ bk)
 ·exact .inl (aaf fs (by rw[ag4];exact ao))
end b'
namespace b'
open PySem PySem.Spec ak aN PySem.NumText
theorem SM(n:Nat):∃c r,eo n=c::r/\48<=c/\c<=57:=by
 by_cases z:n=0
 ·subst z;exact⟨48,[],uj 0 (by decide),by decide,by decide⟩
 ·obtain⟨c,r,e,aA⟩:=xR n (by omega)
  have:=ahH.mp (xQ n) c (by rw[e];exact ahb);simp[h5]at this;exact⟨c,r,e,by omega,by omega⟩
theorem XW(h:0<n):(ah2 (toString (-((n:Nat):Int))):Str)=af (45::eo n):=by
 rw[Str.ofString_eq_toList];obtain⟨m,rfl⟩:∃m,n=m+1:=⟨n-1,by omega⟩;have e:(toString (-(((m+1:Nat)):Int))).toList='-'::ajy 10 (m+1):=by
  show(Int.repr (Int.negSucc m)).toList=_;simp[Int.repr,Nat.repr]
 rw[e];rfl
section
variable{l r:List Nat}{y:tR}{n:Int}
theorem za(h:decide (l.head? = some 45)=b):jF mK (ag 0) (ah (ai (.str "-")) aG) [.val (.str (af l))]=pure (.v (.aB b)):=by
 show pure (R.v (.aB (aja (af l) "-")))=_;rw[Xr,<-h,<-NR];rfl
theorem E2(h:¬l.head? = some 45)(f:ll [.str (af l)]=pure y):lp [.str (af l)]=pure y:=
 ux rfl (z3 ((tx (l4 (bT (za (decide_eq_false h))))).trans (vB (rs:=[.v (.str (af l))]) rfl f)))
theorem E1(aM:ag7 (af l)=true)(h:decide (l=[45,48])=b):oEq (.v (.str (af l))) (.v (.str "-0"))=pure (.v (.aB b)):=by rw[XF,oY aM Yq,h]
theorem aaj(aM:ag7 (af l)=true)(h:l=[45,48]):lp [.str (af l)]=pure (.exc "NoText"):=
 gM rfl ((ey (e1 (bT (za (decide_eq_true (by rw[h];rfl)))))).trans (j8 (bT (bX (E1 aM (decide_eq_true h)) rfl rfl))))
theorem Nd(ao:(45::r).length<=1000):gV (ag 0) (eX (ai (.int 1))) gI [.val (.str (af (45::r)))]=pure (.v (.str (af r))):=
 jZ ao (Bw (45::r) 1 (ajd (ahC _))) rfl rfl rfl
variable(ao:(45::r).length<=1000)(aM:ag7 (af (45::r))=true)(h:¬45::r=[45,48])
include ao aM h
theorem aai(f:ll [.str (af r)]=pure (.exc "NoText")):lp [.str (af (45::r))]=pure (.exc "NoText"):=
 gM rfl ((ey (e1 (bT (za rfl)))).trans ((ey (bT (bX (E1 aM (decide_eq_false h)) rfl rfl))).trans (M' (Tf (To (cons_of (Nd ao) rfl) f)))))
theorem Nf(f:ll [.str (af r)]=pure (.ret (.int n))):lp [.str (af (45::r))]=pure (.ret (.int (-n))):=
 mM rfl ((ey (e1 (bT (za rfl)))).trans ((ey (bT (bX (E1 aM (decide_eq_false h)) rfl rfl))).trans (Na (Tg (Tp (cons_of (Nd ao) rfl) f) rfl) rfl)))
end
theorem Yg(h:n<10 ^ 60):lp [.str (af (eo n))]=pure (.ret (.int (n:Nat))):=by
 obtain⟨c,r,e,aj,h2⟩:=SM n;refine E2 (fun z=>?_) (CB h);rw[e]at z;cases z;omega
theorem Yf(h0:0<n)(h:n<10 ^ 60):lp [.str (af (45::eo n))]=pure (.ret (.int (-((n:Nat):Int)))):=by
 refine Nf (by have:=(uh h).2;rw[ahj];omega) (eV.mpr fun c aA=>?_) (fun z=>?_) (CB h)
 ·rcases aha.mp aA with rfl | aA
  ·decide
  ·exact eV.mp (ui n) c aA
 ·obtain⟨c,r,e,aA⟩:=xR n h0
  rw[e]at z;cases z;omega
end b'
namespace b'
open PySem PySem.Spec ak aN g8 fB je PySem.NumText
noncomputable def jt(c:Nat):Bool:=decide (97<=c/\c<=122)
theorem Az:("abcdefghijklmnopqrstuvwxyz":Str).cps.toList=(ahU 26).map fun k=>97+k:=by decide +kernel
theorem J'(c:Nat):pT (ch c) "abcdefghijklmnopqrstuvwxyz"=jt c:=by
 unfold pT;rw[show ch c=⟨#[c]⟩from rfl,StrLaws.found_one,Az];unfold jt;rw[aif,decide_eq_true_eq,decide_eq_true_eq];simp only[aiC,ah0];constructor
 ·rintro⟨k,aL,rfl⟩;omega
 ·intro h;exact⟨c-97,by omega,by omega⟩
theorem XS(l:List Nat):fR fF (au (m7 false) (ag 0) (ai (.str "abcdefghijklmnopqrstuvwxyz"))) [.emp] (l.map fun c=>D.str (ch c))=pure (l.map fun c=>D.aB (jt c)):=
 uc (fun c=>D.str (ch c)) (fun c=>D.aB (jt c)) l fun c _=>by simp[-bind_assoc,-bind_pure_comp,-m9,J']
structure kO(l:List Nat):Prop where
 dy:1<=l.length
 vq:l.length<=8
 al:l.all jt=true
theorem kO.ok(h:kO l):ag7 (af l)=true:=eV.mpr fun c aA=>by
 have:=ahH.mp h.al c aA;simp[jt]at this;omega
theorem kO.nb(h:kO l):32∉l:=fun aA=>by
 have:=ahH.mp h.al 32 aA;simp[jt]at this
noncomputable def pG(l:List Nat):Bool:=decide (1<=l.length/\l.length<=8)&&l.all jt
theorem LM:pG l=true↔kO l:=by
 unfold pG;rw[ahn,decide_eq_true_eq];exact⟨fun⟨⟨a,b⟩,c⟩=>⟨a,b,c⟩,fun h=>⟨⟨h.dy,h.vq⟩,h.al⟩⟩
theorem Kj{l:List Nat}(ao:l.length<=1000):yD [.str (af l)]=pure (.v (.aB (pG l))):=by
 have t:=D1 (σ:=[]) 8 ao
 by_cases h:1<=l.length/\l.length<=8
 ·rw[decide_eq_true (by omega)]at t
  rw[show pG l=l.all jt by unfold pG;rw[decide_eq_true h,Bool.true_and]];exact fO rfl ((cU (eB ((g0 (e1 (bT rfl))).trans (e1 t)))).trans (jv (kW AA (cons_of (ud DF (by rw[ag4,ahY];omega) (XS l)) rfl))))
 ·rw[decide_eq_false (by omega)]at t
  rw[show pG l=false by unfold pG;rw[decide_eq_false h,Bool.false_and]];exact fO rfl (hV ((fQ ((g0 (e1 (bT rfl))).trans (l4 t))).trans rfl))
theorem VV(h:kO l):yD [.str (af l)]=pure (.v (.aB true)):=by rw[Kj (by have:=h.vq;omega),LM.mpr h]
theorem Z'(h:kO l):yJ [.str (af l)]=pure (.ret (.str (af l))):=mM rfl ((ey (e1 (bT (call_of (rs:=[.v (.str (af l))]) rfl (VV h))))).trans (rx rfl))
theorem PC{i:Int}(h0:0<=i)(h:i<26):∃c,bJ (.v (.str "abcdefghijklmnopqrstuvwxyz")) (.v (.int i))=pure (.v (.str (af [c])))/\jt c=true:=by
 obtain⟨c,e⟩:=AE (xs:=("abcdefghijklmnopqrstuvwxyz":Str).cps.toList) (i:=i) h0 (by rw[Az];simpa using h);refine⟨c,?_,?_⟩
 ·show(match d7 ("abcdefghijklmnopqrstuvwxyz":Str).cps.toList i with
   |some c=>if("abcdefghijklmnopqrstuvwxyz":Str).length<=ag5 then(pure (R.v (.str ⟨#[c]⟩)):M R)else bad| none=>bad)=_
  rw[e];dsimp only;rw[if_pos (jY (by decide +kernel))];rfl
 ·have:=AD e
  rw[Az]at this;obtain⟨k,aL,rfl⟩:=aiC.mp this;have:=ah0.mp aL;simp[-m9,jt];omega
theorem Xj:("m":Str)=af [109]:=by decide +kernel
theorem S9:("":Str)=af []:=by decide +kernel
inductive Al(c z p:Int):Nat->a9->Prop
 |mk (a:List Nat) (s:Slot) (h:a.all jt=true):Al c z p a.length [.val (.int c),.val (.int z),.val (.int p),.val (.str (af a)),s]
theorem W8{c z p j:Int}{a:List Nat}(ao:a.length<=8):∃y,jt y=true/\DV [.val (.int c),.val (.int z),.val (.int p),.val (.str (af a)),.val (.int j)]=pure (.a8 [.val (.int c),.val (.int z),.val (.int p),.val (.str (af (a++[y]))),.val (.int j)]):=by
 have Jx:=mod_lt (a:=c / 64) (b:=26) (by decide);obtain⟨x,aH,av⟩:=PC Jx.1 Jx.2;have e':a.length+1<=1000:=by omega
 by_cases q:j=p
 ·exact⟨x,av,(fQ (bT (bX (Cs.trans (by rw[decide_eq_true q])) rfl rfl))).trans (d6 (bX (ki (b:=[x]) e') rfl (bX aH rfl (bX (jR (by decide)) (bX (oV (k4 (by decide) (by decide))) rfl rfl) rfl))))⟩
 ·refine⟨109,rfl,(eB (bT (bX (Cs.trans (by rw[decide_eq_false q])) rfl rfl))).trans ?_⟩
  rw[Xj];exact d6 (bX (ki (b:=[109]) e') rfl rfl)
theorem WJ(c:Int):∃a,D9 [.int c]=pure (.v (.str (af a)))/\kO a:=by
 have CW:=mod_lt (a:=c) (b:=8) (by decide);obtain⟨z,aX,agD⟩:∃z:Nat,1+c % 8=(z:Nat)/\1<=z/\z<=8:=⟨(1+c % 8).toNat,by omega,by omega,by omega⟩;obtain⟨σ',e,h⟩:=o1 (b:=fun d σ=>DV (σ.set 4 (.val d))) (ds:=l9 0 z) (σ:=[.val (.int c),.val (.int (z:Nat)),.val (.int (c / 8 % (z:Nat))),.val (.str (af [])),.emp]) (Al c z (c / 8 % (z:Nat))) (.mk [] .emp rfl) (fun i d σ hd h=>by
   cases h with
   |mk a s aM=>
   have aC:=(ahe.mp hd).1;rw[zc]at aC;obtain⟨j,_,rfl⟩:=aiC.mp (ahO hd);obtain⟨y,bo,d_⟩:=W8 (c:=c) (z:=z) (p:=c / 8 % (z:Nat)) (j:=0+(j:Nat)) (a:=a) (by omega);refine⟨_,.inl d_,?_⟩;have:=Al.mk (c:=c) (z:=z) (p:=c / 8 % (z:Nat)) (a++[y]) (.val (.int (0+(j:Nat)))) (by rw[List.all_append,aM,ajh,bo];rfl);rw[ag3]at this;exact this)
 rw[zc]at h;generalize agE:z=O5 at h
 cases h with
 |mk a s aM=>
 refine⟨a,fO rfl ((cU (d6 (bX rfl rfl (bX (jR (by decide)) rfl rfl)))).trans ?_),⟨by omega,by omega,aM⟩⟩;show Hm [.val (.int c),.val (.int (1+c % 8)),.emp,.emp,.emp]=_;rw[aX];refine(cU (d6 (bX (jR (b:=(z:Nat)) (by omega)) (bX (oV (k4 (by decide) (by decide))) rfl rfl) rfl))).trans ((cU ?_).trans ((cU (x1 (MP rfl (by omega)) e)).trans rfl));rw[S9];rfl
def gC(n:Int):Prop:=-(10 ^ 60)<n/\n<10 ^ 60
noncomputable def ea(n:Int):List Nat:=if n<0 then 45::eo n.natAbs else eo n.natAbs
theorem Yc(n:Int):(ah2 (toString n):Str)=af (ea n):=by
 unfold ea
 by_cases h:n<0
 ·rw[if_pos h,<-XW (n:=n.natAbs) (by omega)]
  congr 2;omega
 ·rw[if_neg h,<-LX n.natAbs]
  congr 2;omega
theorem Yb{n:Int}(h:gC n):lp [.str (af (ea n))]=pure (.ret (.int n)):=by
 have:=h.1;have:=h.2;unfold ea
 by_cases c:n<0
 ·rw[if_pos c,Yf (n:=n.natAbs) (by omega) (by omega)]
  congr 3;omega
 ·rw[if_neg c,Yg (n:=n.natAbs) (by omega)]
  congr 3;omega
theorem X_{n:Int}(h:gC n):(ea n).length<=61:=by
 have:=h.1;have:=h.2;have:=(uh (n:=n.natAbs) (by omega)).2;unfold ea;split
 ·simp;omega
 ·omega
theorem Ya(n:Int):ag7 (af (ea n))=true:=by
 unfold ea;split
 ·refine eV.mpr fun c aA=>?_
  rcases aha.mp aA with rfl | aA
  ·decide
  ·exact eV.mp (ui _) c aA
 ·exact ui _
theorem Cf(n:Nat):32∉eo n:=fun aA=>by
 have:=ahH.mp (xQ n) 32 aA;simp[h5]at this
theorem X'(n:Int):32∉ea n:=by
 unfold ea;split
 ·intro aA
  rcases aha.mp aA with h | aA
  ·cases h
  ·exact Cf _ aA
 ·exact Cf _
theorem LV(n:Nat):ea (n:Int)=eo n:=by
 unfold ea;rw[if_neg (by omega)];rfl
theorem abe{n:Int}(h:gC n):uv [.v (.int n)]=pure (.v (.str (af (ea n)))):=by
 have WX:n.natAbs.log2<1920:=by
  by_cases z:n.natAbs=0
  ·rw[z];decide
  ·rw[Nat.log2_lt z]
   have:=h.1;have:=h.2;exact Nat.lt_trans (show n.natAbs<10 ^ 60 by omega) (by decide)
 show(if n.natAbs.log2<1920 then pure (R.v (.str (toString n)))else bad:M R)=_;rw[if_pos WX];show(pure (R.v (D.str (ah2 (toString n)))):M R)=_;rw[Yc]
theorem pK:ag7 "name"=true:=by decide +kernel
theorem pL:ag7 "number"=true:=by decide +kernel
theorem q3:ag7 "fence"=true:=by decide +kernel
theorem q4:ag7 "hall"=true:=by decide +kernel
theorem cm(av:ag7 x=true)(bo:ag7 y=true)(h:(x==y)=b):oEq (.v (.str x)) (.v (.str y))=pure (.v (.aB b)):=by rw[<-h];exact xS (x:=.v (.str x)) (y:=.v (.str y)) av bo
theorem k1:(("number":Str) == "name")=false:=by decide +kernel
theorem k2:(("fence":Str) == "name")=false:=by decide +kernel
theorem k3:(("fence":Str) == "number")=false:=by decide +kernel
theorem nZ:(("hall":Str) == "name")=false:=by decide +kernel
theorem k5:(("hall":Str) == "number")=false:=by decide +kernel
theorem pe:(("hall":Str) == "fence")=false:=by decide +kernel
theorem V':(("name":Str) == "hall")=false:=by decide +kernel
theorem Wa:(("number":Str) == "hall")=false:=by decide +kernel
theorem Wb:(("fence":Str) == "hall")=false:=by decide +kernel
theorem F4(h:n<10):n<ag5:=by rw[ahY];omega
noncomputable def knd(c:Nat):Str:=if c=97 then "name" else if c=110 then "number" else if c=102 then "fence" else "hall"
def p'(s:List Nat):Prop:=∀c∈s,c=97\/c=110\/c=102\/c=104
structure lO(c:Nat)(l:List Nat)(d:D):Prop where
 e3:n4 [.str (knd c),.str (af l)]=pure (.ret d)
 u4:px [d,.str (knd c)]=pure (.v (.aB true))
 lw:∀(s0:Slot)(xs:List D),xs.length<10->ph [s0,.b5 false xs,.val d]=pure (.a8 [s0,.b5 false (xs++[.str (af l)]),.val d])
 ED:Ok 12 d
 nl:∀xs,d≠.lst xs
theorem r7(av:ag7 x=true):oEq (.v (.str x)) (.v (.str x))=pure (.v (.aB true)):=cm av av (beq_self_eq_true x)
section
variable{x:Str}{y:tR}
theorem Nj(r:yJ [.str x]=pure y):n4 [.str "name",.str x]=pure y:=
 ux rfl (z3 ((tx (bT (bX (r7 pK) rfl rfl))).trans (vB (rs:=[.v (.str x)]) rfl r)))
theorem Nk(r:lp [.str x]=pure y):n4 [.str "number",.str x]=pure y:=
 ux rfl ((ey (bT (bX (cm pL pK k1) rfl rfl))).trans (z3 ((tx (bT (bX (r7 pL) rfl rfl))).trans (vB (rs:=[.v (.str x)]) rfl r))))
theorem Nh(r:ll [.str x]=pure y):n4 [.str "fence",.str x]=pure y:=
 ux rfl ((ey (bT (bX (cm q3 pK k2) rfl rfl))).trans ((ey (bT (bX (cm q3 pL k3) rfl rfl))).trans (z3 ((tx (bT (bX (r7 q3) rfl rfl))).trans (vB (rs:=[.v (.str x)]) rfl r)))))
theorem Ni(r:iZ [.str x]=pure y):n4 [.str "hall",.str x]=pure y:=
 ux rfl ((ey (bT (bX (cm q4 pK nZ) rfl rfl))).trans ((ey (bT (bX (cm q4 pL k5) rfl rfl))).trans ((ey (bT (bX (cm q4 q3 pe) rfl rfl))).trans (vB (rs:=[.v (.str x)]) rfl r))))
end
theorem WI(l:List Nat)(h:l.all jt=true):fR (bb (au (m7 true) (ag 0) (ai (.str "abcdefghijklmnopqrstuvwxyz")))) (ag 0) [.emp] (l.map fun c=>D.str (ch c))=pure []:=by
 have:=oT (t:=bb (au (m7 true) (ag 0) (ai (.str "abcdefghijklmnopqrstuvwxyz")))) (el:=ag 0) (σ:=[.emp]) (fun c=>D.str (ch c)) (fun c=>!jt c) (fun c=>D.str (ch c)) l (fun c _=>by simp[-bind_assoc,-bind_pure_comp,J']) (fun c _ _=>by simp);rw[this,List.filter_eq_nil_iff.mpr fun c aA=>by rw[ahH.mp h c aA];decide];rfl
theorem acQ{xs:List D}(av:xs.length<10):ph [s0,.b5 false xs,.val (.str x)]=pure (.a8 [s0,.b5 false (xs++[.str x]),.val (.str x)]):=by
 have:=F4 av;simp only[ph];simp[-bind_assoc,-bind_pure_comp,uv,this]
theorem XT(h:kO l):px [.str (af l),.str "name"]=pure (.v (.aB true)):=by
 have dy:=h.dy;have vq:=h.vq;have t:=D1 (l:=l) (σ:=[.val (.str "name")]) 8 (by omega);rw[decide_eq_true (by omega)]at t;exact fO rfl ((cU (eB (bT (bX (cm pK q4 V') rfl rfl)))).trans (hV ((fQ (bT (bX (r7 pK) rfl rfl))).trans ((cU (eB ((g0 (e1 (bT rfl))).trans (e1 t)))).trans (jv (bX rfl (kW rfl (cons_of (ud DF (by rw[ag4,ahY];omega) (WI l h.al)) rfl)) rfl))))))
theorem ML(h:kO l):lO 97 l (.str (af l)):=⟨Nj (Z' h),XT h,fun s0 xs av=>acQ av,L8 h.ok,fun xs z=>nomatch z⟩
theorem WQ(n:Int):lZ [.int n]=pure (.v (.aB true)):=by simp only[lZ,Ba];simp
theorem PE{n:Int}(h:gC n)(s:Slot):bb (au q1 (cb qq (ah (ag 0) aG)) (au oa (ai (.int 10)) (ai (.int 60)))) [.val (.int n),s]=pure false:=by
 have ab:¬(1000000000000000000000000000000000000000000000000000000000000:Int)<=(if n<0 then -n else n):=by
  have:=h.1;have:=h.2;split<;>omega
 simp[-bind_assoc,-bind_pure_comp,ab]
theorem Ka{n:Int}(h:gC n)(bh:oEq (.v (.str x)) (.v (.str "hall"))=pure (.v (.aB false)))(cM:oEq (.v (.str x)) (.v (.str "name"))=pure (.v (.aB false)))(e2:t9 (au oEq (ag 1) (ai (.str "number"))) (au q1 (ag 0) (ai (.int 0))) [.val (.int n),.val (.str x)]=pure (.v (.aB b))):px [.int n,.str x]=pure (.v (.aB b)):=
 fO rfl ((cU (eB (bT (bX bh rfl rfl)))).trans ((cU (eB (bT (bX cM rfl rfl)))).trans ((cU (eB ((g0 (e1 (bT (call_of (rs:=[.v (.int n)]) rfl (WQ n))))).trans (PE h _)))).trans (jv e2))))
theorem Ye{n:Int}(h:gC n):px [.int n,.str (knd 110)]=pure (.v (.aB true)):=by
 have e2:=r7 pL;exact Ka (x:="number") h (cm pL q4 Wa) (cm pL pK k1) (by simp[e2])
theorem Ts(h:n<10 ^ 60):px [.int (n:Nat),.str (knd 102)]=pure (.v (.aB true)):=by
 have e2:=cm q3 pL k3;have p:(0:Int)<=((n:Nat):Int):=by omega
 exact Ka (x:="fence") (by unfold gC;omega) (cm q3 q4 Wb) (cm q3 pK k2) (by simp[e2,p])
theorem LW{n:Int}(h:gC n)(s0:Slot)(xs:List D)(av:xs.length<10):ph [s0,.b5 false xs,.val (.int n)]=pure (.a8 [s0,.b5 false (xs++[.str (af (ea n))]),.val (.int n)]):=by
 have st:=abe h;have:=F4 av;generalize af (ea n)=x at st;simp only[ph];simp[-bind_assoc,-bind_pure_comp,st,this]
theorem MM{n:Int}(h:gC n):lO 110 (ea n) (.int n):=⟨Nk (Yb h),Ye h,LW h,yY,fun xs z=>nomatch z⟩
theorem MJ(h:n<10 ^ 60):lO 102 (eo n) (.int (n:Nat)):=by
 have l:=LW (n:=(n:Nat)) (by unfold gC;omega);rw[LV]at l;exact⟨Nh (CB h),Ts h,l,yY,fun xs z=>nomatch z⟩
theorem Yu{a k:aF}(ax:Good a)(aL:Good k):Ok 12 (.tup [enc a,enc k]):=Yp (yX 5 a (by have:=ax.2.1;omega) ax.1 11 (by have:=ax.2.1;omega)) (yX 5 k (by have:=aL.2.1;omega) aL.1 11 (by have:=aL.2.1;omega))
end b'
namespace b'
open PySem PySem.Spec ak aN g8
theorem KV{d:D}(h:d.ek=true):lZ [d]=pure (.v (.aB d.whole)):=by
 cases d with
 |dX _ _=>cases h
 |fn _=>cases h
 |ty _=>cases h
 |_=>kernel_rfl
theorem Xn(a b:Nat):(if((b:Nat):Int) > ((a:Nat):Int)then((b:Nat):Int)else((a:Nat):Int))=((max a b:Nat):Int):=by split<;>omega
theorem Ln{self:b8}{t:D}:∀(ps:List D)(d m:Nat)(s3 s4:Slot),(∀p∈ps,self [p]=pure (.v (encM (fg p))))->
  (gr ps d m=none->iW (fun x σ=>qN self (σ.set 3 (.val x))) ps [.val t,.val (.int (d:Nat)),.val (.int (m:Nat)),s3,s4]=pure (.cA (.v .ba)))/\
  (∀a b,gr ps d m=some (a,b)->∃E7 E8,iW (fun x σ=>qN self (σ.set 3 (.val x))) ps [.val t,.val (.int (d:Nat)),.val (.int (m:Nat)),s3,s4]=pure (.a8 [.val t,.val (.int (a:Nat)),.val (.int (b:Nat)),E7,E8]))
 | [],d,m,s3,s4,_=>⟨fun h=>(nomatch h),fun a b h=>by cases h;exact⟨s3,s4,rfl⟩⟩
 |p::ps,d,m,s3,s4,aQ=>by
  have aP:=aQ p ahb
  cases e:fg p with
  |none=>
   rw[e]at aP;refine⟨fun _=>?_,fun a b h=>by unfold gr at h;rw[e]at h;cases h⟩;show(qN self _ >>= _)=_;simp only[qN];simp[-bind_assoc,-bind_pure_comp,aP,encM]
  |some x=>
   rw[e]at aP;have em:gr (p::ps) d m=gr ps (max d (x.1+1)) (m+x.2):=by rw[gr,e]
   have bk:=fun s3 s4=>Ln (t:=t) ps (max d (x.1+1)) (m+x.2) s3 s4 fun q bf=>aQ q (ahc _ bf)
   have pD:=Xn d (x.1+1);have step:∀Q:nr->M nr,((fun x σ=>qN self (List.set σ 3 (.val x))) p [.val t,.val (.int (d:Nat)),.val (.int (m:Nat)),s3,s4] >>= Q)=Q (.a8 [.val t,.val (.int ((max d (x.1+1):Nat):Int)),.val (.int ((m+x.2:Nat):Int)),.val p,.val (encM (some x))]):=fun Q=>by
    simp only[qN];have LA:=pD;simp at LA;simp[-bind_assoc,-bind_pure_comp,aP,encM,LA]
   rw[em];refine⟨fun h=>?_,fun a b h=>?_⟩
   ·show(_ >>= _)=_
    rw[step];exact(bk _ _).1 h
   ·obtain⟨E7,E8,bE⟩:=(bk (.val p) (.val (encM (some x)))).2 a b h
    refine⟨E7,E8,?_⟩;show(_ >>= _)=_;rw[step];exact bE
theorem Xz(aX:∀ps,z≠.tup ps):fg (.tup [x,z])=none:=by
 cases x<;>cases z<;>first | rfl | exact absurd rfl (aX _)
theorem Eg(aQ:ag 0 [s,.emp,.emp,.emp,.emp]=r)(ay:r=pure (.v d)\/∃xs,r=pure (.cp xs)/\d=.lst xs)(hw:lZ [d]=pure (.v (.aB false))):w9 self [s,.emp,.emp,.emp,.emp]=w_ self [s,.emp,.emp,.emp,.emp]:=by
 refine cU (eB ?_);rcases ay with rfl | ⟨xs,rfl,rfl⟩<;>simp[-bind_assoc,-bind_pure_comp,-I6,aQ,hw]
theorem sT(h:(fh (d9 (bb (cb gk (ah (ag 0) (ah (ai (.ty "tuple")) aG))))) (fh (bb (au eT (cb d3 (ah (ag 0) aG)) (ai (.int 2)))) (d9 (bb (cb gk (ah (au bJ (ag 0) (ai (.int 1))) (ah (ai (.ty "tuple")) aG))))))) [s,.emp,.emp,.emp,.emp]=pure true):w_ self [s,.emp,.emp,.emp,.emp]=pure (.cA (.v .ba)):=hV (fQ h)
theorem XA(x:D)(ps:List D):w_ self [.val (.tup [x,.tup ps]),.emp,.emp,.emp,.emp]=A2 self [.val (.tup [x,.tup ps]),.emp,.emp,.emp,.emp]:=cU (eB rfl)
theorem Lm:∀(n:Nat)(d:D),d.dep<n->d.ek=true->m3 n [d]=pure (.v (encM (fg d)))
 |0,d,h,_=>absurd h (ahV _)|n+1,d,h,hd=>by
  have hw:=KV hd;show fnOf 1 5 (w9 (m3 n)) [d]=_;refine fO rfl ?_
  cases d with
  |dX _ _=>cases hd
  |fn _=>cases hd
  |ty _=>cases hd
  |int i=>
   have hw:lZ [.int i]=pure (.v (.aB true)):=hw;refine hV ((fQ (bT hw)).trans ?_)
   ·by_cases cy:0<=i
    ·by_cases au:i<=5
     ·simp[-bind_assoc,-bind_pure_comp,cy,au,fg,encM]
     ·simp[-bind_assoc,-bind_pure_comp,cy,au,fg,encM]
    ·simp[-bind_assoc,-bind_pure_comp,cy,fg,encM]
  |tup xs=>
   have hw:lZ [.tup xs]=pure (.v (.aB false)):=hw;refine(Eg rfl (.inl rfl) hw).trans ?_
   match xs,hd,h with
   |[],hd,h=>exact sT rfl|[x],hd,h=>
    have e:fg (.tup [x])=none:=by cases x<;>rfl
    rw[e];exact sT rfl
   |x::y::z::r,hd,h=>
    have e:fg (.tup (x::y::z::r))=none:=by cases x<;>rfl
    have c:¬((r.length:Nat):Int)+1+1+1=2:=by omega
    rw[e];exact sT (by simp[c])
   |[x,y],hd,h=>
    have av:x.ek=true:=by simp[D.ek,jT]at hd;exact hd.1
    have bo:y.ek=true:=by simp[D.ek,jT]at hd;exact hd.2
    have sr:=KV av
    cases y with
    |dX _ _=>cases bo
    |fn _=>cases bo
    |ty _=>cases bo
    |tup ps=>
     refine(XA x ps).trans ?_;have off:x.whole=false->fg (.tup [x,.tup ps])=none->A2 (m3 n) [.val (.tup [x,.tup ps]),.emp,.emp,.emp,.emp]=pure (.cA (.v (encM (fg (.tup [x,.tup ps]))))):=fun z e'=>by
      rw[z]at sr;rw[e'];exact hV (fQ (vp (l4 (bT sr))))
     cases x with
     |dX _ _=>cases av
     |fn _=>cases av
     |ty _=>cases av
     |int k=>
      have sr:lZ [.int k]=pure (.v (.aB true)):=sr;rw[yQ];have UO:∀p∈ps,p.dep<n:=by
       have:mF ps<n:=by
        simp[D.dep,mF]at h;omega
       exact IH this
      by_cases c:1<=k/\k<=ps.length/\ps.length<=6
      ·rw[if_pos c]
       have d1:¬(6:Int)<((ps.length:Nat):Int):=by omega
       have L:=Ln (self:=m3 n) (t:=.tup [.int k,.tup ps]) ps 1 0 .emp .emp fun p aP=>Lm n p (UO p aP) (Et.mp (by simpa[D.ek]using bo) p aP)
       refine(cU (eB ?_)).trans ?_
       ·refine(g0 (e1 (bT sr))).trans ?_
        simp[-bind_assoc,-bind_pure_comp,c.1,c.2.1,d1]
       generalize m3 n=self at *
       cases e:gr ps 1 0 with
       |none=>
        have ny:=L.1 e;simp at ny;simp[-bind_assoc,-bind_pure_comp,A3,A4,A5,ny,encM]
       |some x=>
        obtain⟨s3,s4,ak⟩:=L.2 x.1 x.2 (by rw[e]);simp at ak;simp[-bind_assoc,-bind_pure_comp,A3,A4,A5,Hj,ak,encM]
      ·rw[if_neg c]
       refine hV (fQ ((g0 (e1 (bT sr))).trans ?_))
       by_cases cy:1<=k
       ·by_cases au:k<=ps.length
        ·have d1:(6:Int)<((ps.length:Nat):Int):=by omega
         simp[-bind_assoc,-bind_pure_comp,cy,au,d1]
        ·simp[-bind_assoc,-bind_pure_comp,cy,au]
       ·simp[-bind_assoc,-bind_pure_comp,cy]
     |_=>exact off rfl rfl
    |_=>
     rw[Xz (by intro ps z;cases z)];exact sT rfl
  |lst xs=>exact(Eg rfl (.inr ⟨xs,rfl,rfl⟩) hw).trans (sT rfl)|_=>exact(Eg rfl (.inl rfl) hw).trans (sT rfl)
theorem DZ{d:D}(h:d.ek=true)(hd:d.dep<12):pz [d]=pure (.v (.aB (oe d))):=by
 have hm:=Lm 12 d hd h;simp only[pz,AV,Hg];unfold oe
 cases e:fg d with
 |none=>
  rw[e]at hm;rcases tm h with q | ⟨xs,rfl⟩
  ·simp[-bind_assoc,-bind_pure_comp,q,hm,encM]
  ·simp[-bind_assoc,-bind_pure_comp,hm,encM]
 |some x=>
  rw[e]at hm;have I1:decide (((x.2:Nat):Int)<=12)=decide (x.2<=12):=decide_eq_decide.mpr (by omega)
  by_cases c:x.1<=4
  ·have gi:((x.1:Nat):Int)<=4:=by omega
   rcases tm h with q | ⟨xs,rfl⟩
   ·simp[-bind_assoc,-bind_pure_comp,q,hm,encM,c,gi,I1]
   ·simp[-bind_assoc,-bind_pure_comp,hm,encM,c,gi,I1]
  ·have gi:¬((x.1:Nat):Int)<=4:=by omega
   rcases tm h with q | ⟨xs,rfl⟩
   ·simp[-bind_assoc,-bind_pure_comp,q,hm,encM,c,gi]
   ·simp[-bind_assoc,-bind_pure_comp,hm,encM,c,gi]
end b'
namespace b'
open PySem PySem.Spec ak aN g8 fB je PySem.NumText
theorem S3(h:mH l=some n):l=eo n/\n<10 ^ 60:=by
 unfold mH at h;split at h
 ·rename_i c
  obtain⟨cy,au,d1,mB⟩:=c;cases h;have ad:AllDigits l:=fun c aA=>by
   have:=ahH.mp d1 c aA;simpa[h5]using this
  have hp:=toDigits_digitsVal (l.length-1) l (by omega) ad (by
   cases l with
   |nil=>simp at cy|cons a r=>
    cases r with
    |nil=>exact .inl rfl|cons b r=>
     refine .inr ⟨a,b::r,rfl,?_⟩;have ax:=ad a ahb;have:a≠48:=fun z=>mB ⟨by rw[z];rfl,by simp⟩
     omega)
  have e:eo (akN l)=l:=by
   unfold eo;rw[hp,ajf];have:l.map (Char.toNat∘Char.ofNat)=l.map id:=ajL fun c aA=>by
    have aA:=ad c aA;exact(show ∀c:Nat,c<58->(Char.toNat∘Char.ofNat) c=id c by decide) c (by omega)
   rw[this,List.map_id]
  refine⟨e.symm,?_⟩;have hlen:(ajy 10 (akN l)).length<=60:=by rw[hp,ag4];exact au
  exact(Nat.length_toDigits_le_iff (by decide) (by decide)).mp hlen
 ·cases h
theorem EV{l:List Nat}(ao:l.length<=1000)(aM:ag7 (af l)=true):ll [.str (af l)]=pure (.exc "NoText")\/∃n,n<10 ^ 60/\l=eo n/\ll [.str (af l)]=pure (.ret (.int (n:Nat))):=by
 have e:=M7 l ao aM
 cases h:mH l with
 |none=>rw[h]at e;exact .inl e|some n=>rw[h]at e;obtain⟨a,b⟩:=S3 h;exact .inr ⟨n,b,a,e⟩
theorem aaa{l:List Nat}(ao:l.length<=1000)(aM:ag7 (af l)=true):lp [.str (af l)]=pure (.exc "NoText")\/∃n,gC n/\l=ea n/\lp [.str (af l)]=pure (.ret (.int n)):=by
 by_cases h:l.head? = some 45
 ·by_cases h0:l=[45,48]
  ·exact .inl (aaj aM h0)
  ·match l,h with
   |_::r,rfl=>
   rcases EV (l:=r) (ak2 ao) (eV.mpr fun c aA=>eV.mp aM c (ahc _ aA))with f | ⟨n,aR,e,f⟩
   ·exact .inl (aai ao aM h0 f)
   ·have np:n≠0:=fun z=>h0 (by rw[e,z];decide)
    refine .inr ⟨-((n:Nat):Int),by unfold gC;omega,?_,Nf ao aM h0 f⟩;unfold ea;rw[if_pos (by omega),show(-((n:Nat):Int)).natAbs=n by omega,<-e]
 ·rcases EV ao aM with f | ⟨n,aR,e,f⟩
  ·exact .inl (E2 h f)
  ·exact .inr ⟨(n:Nat),by unfold gC;omega,by rw[LV];exact e,E2 h f⟩
theorem KS{a k:aF}(ax:Good a)(aL:Good k)(hm:meets a k=true):qU [.tup [enc a,enc k]]=pure (.v (.aB true)):=by
 have bK:=DZ (n7 a) (by have:=xP a;have:=ax.2.1;omega);have cn:=DZ (n7 k) (by have:=xP k;have:=aL.2.1;omega);rw[tj ax.1 ax.2.1 ax.2.2]at bK;rw[tj aL.1 aL.2.1 aL.2.2]at cn;have mt:=Lo ax aL;rw[hm]at mt;simp only[qU,AU,He];simp[-bind_assoc,-bind_pure_comp,bK,cn,mt]
theorem MK{a k:aF}(ax:Good a)(aL:Good k)(hm:meets a k=true):lO 104 (hI a k) (.tup [enc a,enc k]):=by
 have r:=Z_ ax aL;rw[if_pos hm]at r;have lt:=Dw ax aL;refine⟨Ni r,fO rfl (hV ((fQ (bT (bX (r7 q4) rfl rfl))).trans (jv (call_of (rs:=[.v (.tup [enc a,enc k])]) rfl (KS ax aL hm))))),fun s0 xs av=>?_,Yu ax aL,fun xs z=>nomatch z⟩;have:=F4 av;generalize af (hI a k)=x at lt;simp only[ph];simp[-bind_assoc,-bind_pure_comp,lt,this]
theorem YR(aA:c=97\/c=110\/c=102\/c=104){l:List Nat}(ao:l.length<=1000)(aM:ag7 (af l)=true):n4 [.str (knd c),.str (af l)]=pure (.exc "NoText")\/∃d,lO c l d:=by
 rcases aA with rfl | rfl | rfl | rfl
 ·have ea:=Kj ao
  cases h:pG l with
  |true=>exact .inr ⟨_,ML (LM.mp h)⟩|false=>
   rw[h]at ea;exact .inl (Nj (gM rfl (j8 (l4 (bT (call_of (rs:=[.v (.str (af l))]) rfl ea))))))
 ·rcases aaa ao aM with r | ⟨n,aR,e,_⟩
  ·exact .inl (Nk r)
  ·exact .inr ⟨_,by rw[e];exact MM aR⟩
 ·rcases EV ao aM with r | ⟨n,aR,e,_⟩
  ·exact .inl (Nh r)
  ·exact .inr ⟨_,by rw[e];exact MJ aR⟩
 ·rcases M8 ao aM with r | ⟨a,k,⟨ga,nT,CT⟩,e,_⟩
  ·exact .inl (Ni r)
  ·exact .inr ⟨_,by rw[e];exact MK ga nT CT⟩
noncomputable def fW:List (Str×List Nat):=[("put",[97,110]),("add",[97,110]),("swap",[97,110,110]),("take",[102]),("renew",[102]),("free",[102]),("sure",[102,97,110]),("move",[104]),("end",[])]
theorem TJ:qM=fW.map fun p=>(p.1,D.tup (p.2.map fun c=>D.str (knd c))):=rfl
theorem K5{α β:Type}(f:α->β)(w:Str):∀L:List (Str×α),(L.map fun p=>(p.1,f p.2)).lookup w=(L.lookup w).map f
 |[]=>rfl|p::L=>by
  rw[ahi,ah1,ah1]
  cases w==p.1 with
  |true=>rfl|false=>exact K5 f w L
theorem Jo(w:Str):qM.lookup w=(fW.lookup w).map fun s=>D.tup (s.map fun c=>D.str (knd c)):=by
 rw[TJ,K5 (fun s:List Nat=>D.tup (s.map fun c=>D.str (knd c)))]
theorem vJ{s:List Nat}(h:fW.lookup w=some s):p' s/\s.length<=3:=by
 have:=lookup_all (P:=fun _ s=>p' s/\s.length<=3) (l:=fW) (by
  unfold fW p';simp only[ahw];refine⟨⟨?_,?_⟩,⟨?_,?_⟩,⟨?_,?_⟩,⟨?_,?_⟩,⟨?_,?_⟩,⟨?_,?_⟩,⟨?_,?_⟩,⟨?_,?_⟩,⟨?_,?_⟩,fun _ h=>nomatch h⟩<;>simp) w s h
 exact this
noncomputable def hN(s:List Nat):List D:=s.map fun c=>D.str (knd c)
theorem TH(h:fW.lookup w=some s):pk [.str w]=pure (.v (.tup (hN s))):=by
 have:=Jo w;rw[h]at this;have this:qM.lookup w=some (.tup (hN s)):=this;simp only[pk,w3];simp[-bind_assoc,-bind_pure_comp,this]
theorem TG(h:fW.lookup w=none):pk [.str w]=pure (.v .ba):=by
 have:=Jo w;rw[h]at this;have this:qM.lookup w=none:=this;simp only[pk,w3];simp[-bind_assoc,-bind_pure_comp,this]
theorem oO:(" ":Str)=af [32]:=by decide +kernel
theorem uz:("glance":Str)=af [103,108,97,110,99,101]:=by decide +kernel
theorem sZ:ag7 (af [103,108,97,110,99,101])=true:=by decide +kernel
theorem EC:ag7 (af [32])=true:=by decide +kernel
theorem Yt:ag7 (af [])=true:=by decide +kernel
theorem xT{y z:Str}{l:List Str}(aj:(z.length==0)=false)(h2:y.length<=ag5)(bz:kF y z=l):qr (.v (.str y)) [.v (.str z)]=pure (.v (.tup (l.map D.str))):=by
 rw[<-bz];exact if_pos ⟨aj,h2⟩
theorem ZS{s:List Nat}(h:p' s)(bz:s.length<=3):oEq (.v (.tup (hN s))) (.v (.tup [.str "hall"]))=pure (.v (.aB (decide (s=[104])))):=by
 have g:∀s:List Nat,p' s->hH (hN s) 63=true:=fun s h=>uA.mpr fun x av=>by
  obtain⟨c,aA,rfl⟩:=aiC.mp av;rcases h c aA with rfl | rfl | rfl | rfl<;>decide +kernel
 have e:=xS (x:=.v (.tup (hN s))) (y:=.v (.tup [.str "hall"])) (g s h) (by decide +kernel);rw[e]
 congr 2
 show D.aB (hS (.tup (hN s)) (.tup [.str "hall"]))=_
 congr 1
 match s,h,bz with
 |[],_,_=>rfl|[c],h,_=>rcases h c ahb with rfl | rfl | rfl | rfl<;>decide +kernel
 |[a,b],_,_=>
  show l7 _ _=_;simp[-bind_assoc,-bind_pure_comp,hN,l7]
 |[a,b,c],_,_=>
  show l7 _ _=_;simp[-bind_assoc,-bind_pure_comp,hN,l7]
def wI(s:List Nat)(ls:List (List Nat)):Prop:=(s=[104]/\ls.length=1)\/(s≠[104]/\∀l∈ls,32∉l)
noncomputable def n3(ls:List (List Nat)):List D:=ls.map fun l=>D.str (af l)
theorem Zh{s:List Nat}(aQ:p' s)(bz:s.length<=3)(aP:wI s (l::ls))(ao:(l++cC ls).length<=1000):∃r,sQ [.tup (hN s),.str (af (l++cC ls))]=pure r/\(r=.v (.lst (n3 (l::ls)))\/r=.fr (n3 (l::ls))):=by
 have q:=ZS aQ bz;rcases aP with⟨e,aj⟩ | ⟨e,aj⟩
 ·rw[decide_eq_true e]at q
  have aR:ls=[]:=by simpa using aj
  subst aR;refine⟨_,?_,.inr rfl⟩;have ep:l++cC []=l:=by simp[-bind_assoc,-bind_pure_comp,cC]
  rw[ep];show _=pure (R.fr [D.str (af l)]);generalize af l=x;simp only[sQ,xb];simp[-bind_assoc,-bind_pure_comp,q]
 ·rw[decide_eq_false e]at q
  have sp:=aa7 aj;have fs:k7 (.v (.str (af (l++cC ls)))) [.v (.str (af [32]))]=pure (.v (.lst (n3 (l::ls)))):=by
   have z:(aij (af (l++cC ls)) (af [32])).length<=ag5:=by
    have:=alM (af (l++cC ls)) (af [32]);rw[hr]at this;rw[ahY];omega
   rw[Cm rfl (by rw[hr,ahY];omega) z,sp,ajf];rfl
  refine⟨_,?_,.inl rfl⟩;generalize af (l++cC ls)=x at fs;simp only[sQ,xb,HJ,oO];simp[-bind_assoc,-bind_pure_comp,q,fs]
noncomputable def kl:fb:=qo n4 (ah (ag 0) (ah (ag 1) aG))
noncomputable def ab7(w:List Nat):iv->tR
 |.ok ds=>.ret (.tup (.str (af w)::ds))|.ex c=>.exc c
noncomputable def acH:bj:=qe (bb (au oEq (au bJ (ag 1) (ai (.int 1))) (ai (.str " ")))) (b4 sQ (ah (ag 3) (ah (au bJ (ag 1) (ai (.int 2))) aG))) (dM aG)
noncomputable def ZX:iv->Ar
 |.ok xs=>.ok (.fr xs)|.ex c=>.ex c
noncomputable def OR:fb:=r_ nP (r9 iH (dM (ah (ag 2) aG)) (r' [] (ah (ag 3) (ah (ag 4) aG)) kl))
noncomputable def z0:dF:=dU (fX (bb (au eT (cb d3 (ah (ag 4) aG)) (cb d3 (ah (ag 3) aG)))) (ja "NoText" (ah (ai (.str "a wish has just its parts, with one blank between")) aG)) gy) (p0 OR)
section
variable{X W a b:Str}{bw c1:List D}{q:iv}(n5:oEq (.v (.str X)) (.v (.str "glance"))=pure (.v (.aB false)))(aW:qr (.v (.str X)) [.v (.str " ")]=pure (.v (.tup [.str W,.str a,.str b])))
section
include n5 aW
theorem OU(f:pk [.str W]=pure (.v .ba)):ju [.str X]=pure (.exc "NoText"):=
 gM rfl ((ey (bT (bX n5 rfl rfl))).trans ((ew (fJ (d6 (qf aW rfl rfl)))).trans ((ew (fJ (d6 rfl))).trans ((ew (fJ (d6 (call_of rfl f)))).trans (j8 (bT rfl))))))
theorem OT(f:pk [.str W]=pure (.v (.tup bw)))(st:cT 4 acH [.val (.str X),.val (.tup [.str W,.str a,.str b]),.val (.str W),.val (.tup bw),.emp]=pure (.a8 [.val (.str X),.val (.tup [.str W,.str a,.str b]),.val (.str W),.val (.tup bw),.val (.lst c1)])) :
  rR ([D.str X].map e9++ahu (5-1) .emp)=z0 [.val (.str X),.val (.tup [.str W,.str a,.str b]),.val (.str W),.val (.tup bw),.val (.lst c1)]:=
 (ey (bT (bX n5 rfl rfl))).trans ((ew (fJ (d6 (qf aW rfl rfl)))).trans ((ew (fJ (d6 rfl))).trans ((ew (fJ (d6 (call_of rfl f)))).trans ((ey (bT rfl)).trans (ew (fJ st))))))
end
theorem acI(aR:c1.length≠bw.length):z0 [s0,s1,s2,.val (.tup bw),.val (.lst c1)]=pure (.ex "NoText"):=
 j8 (bT (bX (su.trans (by rw[decide_eq_false aR];rfl)) rfl rfl))
theorem OS(aR:c1.length=bw.length)(e:p0 OR [s0,s1,s2,.val (.tup bw),.val (.lst c1)]=r):z0 [s0,s1,s2,.val (.tup bw),.val (.lst c1)]=r:=
 (ey (bT (bX (su.trans (by rw[decide_eq_true aR];rfl)) rfl rfl))).trans e
variable{s0 s1:aN.Slot}(O4:(bw.zip c1).length<ag5)
include O4
theorem acJ(bf:kz kl [.emp,.emp] (bw.zip c1)=pure q):r' [] (ah (ag 3) (ah (ag 4) aG)) kl [s0,s1,.val (.str W),.val (.tup bw),.val (.lst c1)]=pure (ZX q):=by
 show(eS _ >>= _)=_;unfold eS;rw[if_pos O4];show(kz kl _ (bw.zip c1) >>= _)=_;rw[show f9 2 [] _=[Slot.emp,.emp]from rfl,bf];cases q<;>rfl
end
section
variable{w s:List Nat}{ls:List (List Nat)}(j5:32∉w)(kr:(w++cC ls).length<=1000)(aM:ag7 (af (w++cC ls))=true)(ou:w++cC ls≠[103,108,97,110,99,101])
section
include aM ou
theorem LQ:oEq (.v (.str (af (w++cC ls)))) (.v (.str "glance"))=pure (.v (.aB false)):=by rw[uz,oY aM sZ,decide_eq_false ou]
end
include j5 kr aM ou
theorem acB(lk:fW.lookup (af w)=none):ju [.str (af (w++cC ls))]=pure (.exc "NoText"):=by
 have c6:(af (w++cC ls)).length<=ag5:=by rw[hr];exact jY kr
 have n5:=LQ aM ou;have f:=TG lk
 cases ls with
 |nil=>
  have pp:kF (af (w++cC [])) " "=[af w,af [],af []]:=by rw[oO,show w++cC []=w from ahl w];exact Mj j5
  exact OU n5 (xT (by decide) c6 pp) f
 |cons l ls=>
  have pp:kF (af (w++cC (l::ls))) " "=[af w,af [32],af (l++cC ls)]:=by rw[oO];exact Mi j5
  exact OU n5 (xT (by decide) c6 pp) f
theorem zX(lk:fW.lookup (af w)=some s)(aP:ls≠[]->wI s ls)(qA:∀ds,q=.ok ds->ds.length<=100)(bf:ls.length=s.length->kz kl [.emp,.emp] ((hN s).zip (n3 ls))=pure q):ju [.str (af (w++cC ls))]=pure (if ls.length=s.length then ab7 w q else .exc "NoText"):=by
 obtain⟨aQ,bz⟩:=vJ lk;have c6:(af (w++cC ls)).length<=ag5:=by rw[hr];exact jY kr
 have n5:=LQ aM ou;have f:=TH lk;have K3:(hN s).length=s.length:=ag4 ..;have K4:(n3 ls).length=ls.length:=ag4 ..;obtain⟨a,b,go⟩:∃a b,rR ([D.str (af (w++cC ls))].map e9++ahu (5-1) .emp)=z0 [.val (.str (af (w++cC ls))),.val (.tup [.str (af w),.str a,.str b]),.val (.str (af w)),.val (.tup (hN s)),.val (.lst (n3 ls))]:=by
  cases ls with
  |nil=>
   have pp:kF (af (w++cC [])) " "=[af w,af [],af []]:=by rw[oO,show w++cC []=w from ahl w];exact Mj j5
   exact⟨_,_,OT n5 (xT (by decide) c6 pp) f (zC ((QP (bT (bX (show oEq (.v (.str (af []))) (.v (.str " "))=_ by rw[oO];exact oY Yt EC) rfl rfl))).trans rfl) rfl)⟩
  |cons l ls=>
   have pp:kF (af (w++cC (l::ls))) " "=[af w,af [32],af (l++cC ls)]:=by rw[oO];exact Mi j5
   obtain⟨r,aH,aT⟩:=Zh aQ bz (aP (by simp)) (by simp[cC]at kr ⊢;omega);exact⟨_,_,OT n5 (xT (by decide) c6 pp) f (zC ((QQ (bT (bX (show oEq (.v (.str (af [32]))) (.v (.str " "))=_ by rw[oO];exact oY EC EC) rfl rfl))).trans (call_of rfl aH)) (by rcases aT with rfl | rfl<;>rfl))⟩
 by_cases ao:ls.length=s.length
 ·rw[if_pos ao]
  have aR:(n3 ls).length=(hN s).length:=by rw[K4,K3,ao]
  have z:=acJ (s0:=.val (.str (af (w++cC ls)))) (s1:=.val (.tup [.str (af w),.str a,.str b])) (W:=af w) (by rw[akn,ahY];omega) (bf ao)
  cases q with
  |ex c=>exact gM rfl (go.trans (OS aR (M' (Tj (Th rfl z)))))| ok ds=>exact mM rfl (go.trans (OS aR (Na (Tn (Ti rfl z (Q1 (by have:=qA ds rfl;rw[ahY,ahm];omega))) rfl) rfl)))
 ·rw[if_neg ao]
  exact gM rfl (go.trans (acI (by rw[K4,K3];exact ao)))
end
theorem IG:∀X:List Nat,∃w,32∉w/\(X=w\/∃Z,X=w++32::Z)
 | []=>⟨[],by simp,.inl rfl⟩
 |a::X=>by
  by_cases h:a=32
  ·exact⟨[],by simp,.inr ⟨X,by rw[h];rfl⟩⟩
  ·obtain⟨w,aj,h2⟩:=IG X
   refine⟨a::w,?_,?_⟩
   ·intro z
    rcases aha.mp z with z | z
    ·exact h z.symm
    ·exact aj z
   ·rcases h2 with rfl | ⟨Z,rfl⟩
    ·exact .inl rfl
    ·exact .inr ⟨Z,rfl⟩
theorem MD:∀Z:List Nat,∃l ls,Z=l++cC ls/\∀x∈l::ls,32∉x
 | []=>⟨[],[],rfl,by simp⟩
 |a::Z=>by
  obtain⟨l,ls,e,h⟩:=MD Z
  by_cases ax:a=32
  ·refine⟨[],l::ls,by rw[e,ax];simp[cC],fun x av=>?_⟩
   rcases aha.mp av with rfl | av
   ·simp
   ·exact h x av
  ·refine⟨a::l,ls,by rw[e];rfl,fun x av=>?_⟩
   rcases aha.mp av with rfl | av
   ·intro z
    rcases aha.mp z with z | z
    ·exact ax z.symm
    ·exact h l ahb z
   ·exact h x (ahc _ av)
noncomputable abbrev gH:=Nat×List Nat×D
def Px(s:List Nat)(ls:List (List Nat))(ds:List D):Prop:=∃T:List gH,T.map (·.1)=s/\T.map (fun t=>t.2.1)=ls/\T.map (fun t=>t.2.2)=ds/\∀t∈T,lO t.1 t.2.1 t.2.2
theorem KG{el:fb}{σ:a9}{q:iv}(h:el ((σ.set 0 (.val d.1)).set 1 (.val d.2))=pure (.ok (.v x)))(bf:kz el σ ds=pure q):kz el σ (d::ds)=pure (q.app [x]):=by
 show(el _ >>= _)=_;rw[h,pure_bind];show((pure x:M D) >>= _)=_;rw[pure_bind];show(kz el σ ds >>= _)=_;rw[bf,pure_bind]
theorem Ww{el:fb}{σ:a9}(h:el ((σ.set 0 (.val d.1)).set 1 (.val d.2))=pure (.ex c)):kz el σ (d::ds)=pure (.ex c):=by
 show(el _ >>= _)=_;rw[h,pure_bind]
theorem D3:∀(T:List gH),(∀t∈T,lO t.1 t.2.1 t.2.2)->kz kl [.emp,.emp] ((hN (T.map (·.1))).zip (n3 (T.map fun t=>t.2.1)))=pure (.ok (T.map fun t=>t.2.2))
 |[],_=>rfl|t::T,h=>by
  have bk:=D3 T fun x av=>h x (ahc _ av)
  have p:=h t ahb;have e:kl (([Slot.emp,.emp].set 0 (.val (.str (knd t.1)))).set 1 (.val (.str (af t.2.1))))=pure (.ok (.v t.2.2)):=by
   have r:=p.e3;unfold kl;generalize af t.2.1=x at r;generalize knd t.1=y at r;simp[-bind_assoc,-bind_pure_comp,-m9,r]
  exact KG (d:=(.str (knd t.1),.str (af t.2.1))) e bk
theorem K8:∀(s:List Nat)(ls:List (List Nat)),p' s->(∀l∈ls,l.length<=1000/\ag7 (af l)=true)->ls.length=s.length->kz kl [.emp,.emp] ((hN s).zip (n3 ls))=pure (.ex "NoText")\/∃ds,Px s ls ds
 | [],[],_,_,_=>.inr ⟨[],[],rfl,rfl,rfl,by simp⟩| [],_::_,_,_,h=>by simp at h| _::_,[],_,_,h=>by simp at h|c::s,l::ls,aQ,ao,h=>by
  obtain⟨aj,h2⟩:=ao l ahb;rcases YR (aQ c ahb) aj h2 with r | ⟨d,p⟩
  ·refine .inl ?_
   have e:kl (([Slot.emp,.emp].set 0 (.val (.str (knd c)))).set 1 (.val (.str (af l))))=pure (.ex "NoText"):=by
    unfold kl;generalize af l=x at r;generalize knd c=y at r;simp[-bind_assoc,-bind_pure_comp,-m9,r]
   exact Ww (d:=(.str (knd c),.str (af l))) e
  ·have e:kl (([Slot.emp,.emp].set 0 (.val (.str (knd c)))).set 1 (.val (.str (af l))))=pure (.ok (.v d)):=by
    have r:=p.e3;unfold kl;generalize af l=x at r;generalize knd c=y at r;simp[-bind_assoc,-bind_pure_comp,-m9,r]
   rcases K8 s ls (fun x av=>aQ x (ahc _ av)) (fun x av=>ao x (ahc _ av)) (by simpa using h)with bk | ⟨ds,T,t1,en,t3,rj⟩
   ·refine .inl ?_
    exact KG (d:=(.str (knd c),.str (af l))) e bk
   ·refine .inr ⟨d::ds,(c,l,d)::T,by rw[ahi,t1],by rw[ahi,en],by rw[ahi,t3],fun t bG=>?_⟩
    rcases aha.mp bG with rfl | bG
    ·exact p
    ·exact rj t bG
noncomputable def mJ(s:List Nat):D:=.lst (hN s)
noncomputable def CA:List (Key×D):=fW.map fun p=>(.inr p.1,mJ p.2)
theorem IZ(w:Str):∀L:List (Str×List Nat),h6 (L.map fun p=>(.inr p.1,mJ p.2)) (.inr w)=(L.lookup w).map mJ
 |[]=>rfl|p::L=>by
  have bk:=IZ w L;unfold h6 at bk ⊢;rw[ahi,aiM,ah1]
  by_cases c:w=p.1
  ·subst c
   rw[show(p.1==p.1)=true by simp,show decide ((akg p.1:Key)=.inr p.1)=true by simp];rfl
  ·rw[show(w==p.1)=false by simpa using c,show decide ((akg p.1:Key)=.inr w)=false by simpa using fun z=>c z.symm]
   exact bk
noncomputable abbrev aK(n:Nat):List (Key×D):=(fW.take n).map fun p=>(.inr p.1,mJ p.2)
theorem put3:iU (aK 3) (.inr "take") (mJ [102])=aK 4:=by unfold iU;rw[if_neg (by decide +kernel)];rfl
theorem ZE:iU (aK 4) (.inr "renew") (mJ [102])=aK 5:=by unfold iU;rw[if_neg (by decide +kernel)];rfl
theorem ZF:iU (aK 5) (.inr "free") (mJ [102])=aK 6:=by unfold iU;rw[if_neg (by decide +kernel)];rfl
theorem ZG:iU (aK 6) (.inr "sure") (mJ [102,97,110])=aK 7:=by unfold iU;rw[if_neg (by decide +kernel)];rfl
theorem ZH:iU (aK 7) (.inr "move") (mJ [104])=aK 8:=by unfold iU;rw[if_neg (by decide +kernel)];rfl
theorem ZI:iU (aK 8) (.inr "end") (mJ [])=CA:=by unfold iU;rw[if_neg (by decide +kernel)];rfl
theorem TK(s0:Slot):AW [s0,.emp]=AX [s0,.gj CA]:=by
 rw[<-ZI,<-ZH,<-ZG,<-ZF,<-ZE,<-put3];rfl
theorem Iv{α:Type}{el:bj}{σ:a9}(f1 f2 g:α->D):∀xs:List α,(∀x∈xs,(el ((σ.set 0 (.val (f1 x))).set 1 (.val (f2 x))) >>= R.dat)=pure (g x))->pf fF el σ ((xs.map f1).zip (xs.map f2))=pure (xs.map g)
 |[],_=>rfl|x::xs,h=>by
  have bk:=Iv f1 f2 g xs fun y bo=>h y (ahc _ bo)
  have h0:=h x ahb;rw[ahi,ahi,akI];unfold pf;show(pure true >>= _)=_;rw[pure_bind,if_pos rfl,<-bind_assoc,h0,pure_bind,bk,pure_bind];rfl
theorem IB(x:D)(ps:List D):cutD (x::ps) (some 1) none=ps:=by
 have:=Bw (x::ps) 1 (by simp);simpa using this
theorem VW{T:List gH}(lk:fW.lookup w=some (T.map (·.1)))(dn:∀t∈T,lO t.1 t.2.1 t.2.2):pA [.tup (.str w::T.map fun t=>t.2.2)]=pure (.v (.aB true)):=by
 obtain⟨_,bz⟩:=vJ lk;rw[ag4]at bz;have eY:=IZ w fW;rw[lk]at eY;have eY:h6 CA (.inr w)=some (.lst (hN (T.map (·.1)))):=eY;have aW:=TK (.val (.tup (.str w::T.map fun t=>t.2.2)));have DR:pf fF (b4 px (ah (ag 0) (ah (ag 1) aG))) [.emp,.emp] ((T.map fun t=>t.2.2).zip (T.map fun t=>D.str (knd t.1)))=pure (T.map fun _=>.aB true):=
  Iv (fun t:gH=>t.2.2) (fun t=>D.str (knd t.1)) (fun _=>.aB true) T fun t bG=>by
   have p:=dn t bG;have e:=p.u4;have nl:=p.nl;obtain⟨a,l,d⟩:=t;dsimp only at e nl ⊢;generalize knd a=x at e;simp[-bind_assoc,-bind_pure_comp,-m9,e]
 have aB:kf (T.map fun _=>D.aB true)=some (T.map fun _=>true):=xe (fun _=>true) T;have al:(T.map fun _:gH=>true).all id=true:=by rw[List.all_map];simp
 have gL:hN (T.map (·.1))=T.map fun t=>D.str (knd t.1):=by unfold hN;rw[ajf];rfl
 have O5:T.length<ag5:=by rw[ahY];omega
 have ne:¬((T.length:Int)+1=0):=by omega
 have nn:eT (.v (.int ((T.length:Int)+1))) (.v (.int (1+(T.length:Int))))=pure (.v (.aB false)):=by
  rw[show(1+(T.length:Int))=(T.length:Int)+1 by omega,ql rfl rfl];simp[-bind_assoc,-bind_pure_comp,-m9,hS]
 rw[gL]at eY;simp only[pA,w7,Hh];generalize AW=B at aW;simp only[AX,Hi]at aW;simp[-bind_assoc,-bind_pure_comp,-m9,ne,aW,jr,eY,nn,IB,DR,O5,aB,al,ov,R.walk]
theorem KU{w:List Nat}{T:List gH}(bz:T.length<=3)(dn:∀t∈T,lO t.1 t.2.1 t.2.2)(ln:w.length+(cC (T.map fun t=>t.2.1)).length<=900):l0 [.tup (.str (af w)::T.map fun t=>t.2.2)]=pure (.v (.str (af (w++cC (T.map fun t=>t.2.1))))):=by
 obtain⟨σ',e,s2,rfl⟩:=o1 (b:=fun d σ=>ph (σ.set 2 (.val d))) (ds:=T.map fun t=>t.2.2) (σ:=[.val (.tup (.str (af w)::T.map fun t=>t.2.2)),.b5 false [.str (af w)],.emp])
  (fun i σ=>∃s2,σ=[.val (.tup (.str (af w)::T.map fun t=>t.2.2)),.b5 false (.str (af w)::(T.take i).map fun t=>.str (af t.2.1)),s2]) ⟨.emp,by simp⟩ (fun i d σ hd ⟨s2,aE⟩=>by
   subst aE;rw[ahA]at hd
   cases bG:T[i]? with
   |none=>rw[bG]at hd;cases hd
   |some t=>
    rw[bG]at hd;cases hd;have p:=dn t (ahO bG);have aC:=(ahe.mp bG).1;have q:=p.lw (.val (.tup (.str (af w)::T.map fun t=>t.2.2))) (.str (af w)::(T.take i).map fun t=>.str (af t.2.1)) (by simp;omega);refine⟨_,.inl q,.val t.2.2,?_⟩;rw[ak1,bG];simp)
 rw[ag4,ajF]at e;have ne':¬((T.length:Int)+1=0):=by omega
 have j:=V9 (l:=w) (ls:=T.map fun t=>t.2.1) (r:=.ej (.str (af w)::T.map fun t=>.str (af t.2.1))) (by rw[ahi,ajf];rfl) ln;generalize af (w++cC (T.map fun t=>t.2.1))=X at j;generalize af w=W at e j;simp only[l0,tY,Hw,Hx,Hy,oO];simp[-bind_assoc,-bind_pure_comp,IB,ne',e,j]
def tT(e3:dE)(u4 FZ:b8)(X:List Nat):Prop:=e3 [.str (af X)]=pure (.exc "NoText")\/∃d,e3 [.str (af X)]=pure (.ret d)/\u4 [d]=pure (.v (.aB true))/\FZ [d]=pure (.v (.str (af X)))/\∀xs,d≠.lst xs
theorem TR:tT ju pA l0 [103,108,97,110,99,101]:=by
 refine .inr ⟨.ba,?_,?_,?_,fun xs z=>by cases z⟩
 ·have q:oEq (.v (.str (af [103,108,97,110,99,101]))) (.v (.str (af [103,108,97,110,99,101])))=pure (.v (.aB true)):=by rw[oY sZ sZ];simp
  simp only[ju,d4,rR,uz];generalize af [103,108,97,110,99,101]=X at q;simp[-bind_assoc,-bind_pure_comp,q]
 ·simp only[pA,w7];simp
 ·simp only[l0,tY,uz];simp
theorem H0:∀{ls:List (List Nat)}{l:List Nat},l∈ls->(∀c∈l,c∈cC ls)/\l.length<=(cC ls).length
 |x::ls,l,h=>by
  rcases aha.mp h with rfl | h
  ·exact⟨fun c aA=>by simp[cC,aA],by simp[cC];omega⟩
  ·obtain⟨a,b⟩:=H0 h
   exact⟨fun c aA=>by simp[cC,a c aA],by simp[cC];omega⟩
theorem acC{X:List Nat}(aX:X.length<=900)(aM:ag7 (af X)=true):tT ju pA l0 X:=by
 by_cases a':X=[103,108,97,110,99,101]
 ·rw[a'];exact TR
 obtain⟨w,j5,hw⟩:=IG X
 cases aL:fW.lookup (af w)with
 |none=>
  obtain⟨ls,e⟩:∃ls,X=w++cC ls:=by
   rcases hw with e | ⟨Z,e⟩
   ·exact⟨[],by rw[e];simp[-bind_assoc,-bind_pure_comp,cC]⟩
   ·exact⟨[Z],by rw[e];simp[-bind_assoc,-bind_pure_comp,cC]⟩
  rw[e]at a' aM aX ⊢;exact .inl (acB j5 (by omega) aM a' aL)
 |some s=>
  obtain⟨aQ,bz⟩:=vJ aL;obtain⟨ls,e,aP⟩:∃ls,X=w++cC ls/\(ls≠[]->wI s ls):=by
   rcases hw with e | ⟨Z,e⟩
   ·exact⟨[],by rw[e];simp[-bind_assoc,-bind_pure_comp,cC],fun z=>absurd rfl z⟩
   ·by_cases c0:s=[104]
    ·exact⟨[Z],by rw[e];simp[-bind_assoc,-bind_pure_comp,cC],fun _=>.inl ⟨c0,rfl⟩⟩
    ·obtain⟨l,ls,aT,h⟩:=MD Z
     exact⟨l::ls,by rw[e,aT];simp[-bind_assoc,-bind_pure_comp,cC],fun _=>.inr ⟨c0,h⟩⟩
  subst e;have Vw:=aX;rw[ag3]at Vw;have U_:∀l∈ls,l.length<=1000/\ag7 (af l)=true:=fun l ao=>by
   obtain⟨a,b⟩:=H0 ao;exact⟨by omega,eV.mpr fun c aA=>eV.mp aM c (ahp _ (a c aA))⟩
  by_cases ao:ls.length=s.length
  ·rcases K8 s ls aQ U_ ao with L | ⟨ds,T,t1,en,t3,rj⟩
   ·have R:=zX j5 (by omega) aM a' aL aP (q:=.ex "NoText") (fun ds z=>by cases z) fun _=>L
    rw[if_pos ao]at R;exact .inl R
   ·have L:=D3 T rj
    rw[t1,en,t3]at L;have gw:T.length=s.length:=by rw[<-t1,ag4]
    have R:=zX j5 (by omega) aM a' aL aP (q:=.ok ds) (fun mG z=>by cases z;rw[<-t3,ag4];omega) fun _=>L
    rw[if_pos ao]at R;refine .inr ⟨_,R,?_,?_,fun xs z=>by cases z⟩
    ·rw[<-t3]
     exact VW (by rw[t1];exact aL) rj
    ·rw[<-t3,<-en]
     exact KU (by omega) rj (by rw[en];omega)
  ·have R:=zX j5 (by omega) aM a' aL aP (q:=.ex "NoText") (fun ds z=>by cases z) fun z=>absurd z ao
   rw[if_neg ao]at R;exact .inl R
theorem aar{X:List Nat}(aX:X.length<=900)(aM:ag7 (af X)=true):tT gP pz (jQ 12) X:=by
 rcases EX (X:=X) (by omega) aM with h | ⟨r,g,e,h⟩
 ·exact .inl h
 ·have j:=DZ (n7 r) (by have:=xP r;have:=g.2.1;omega)
  rw[tj g.1 g.2.1 g.2.2]at j;have t:=vD 12 r (by have:=g.2.1;omega) g.1 (kp g);refine .inr ⟨_,h,j,by rw[e];exact t,fun xs z=>?_⟩
  cases r with
  |cv k=>rw[iz]at z;cases z
  |ch k ps=>rw[hb]at z;cases z
theorem Ub{X:List Nat}(aX:X.length<=900)(aM:ag7 (af X)=true):tT iZ qU pw X:=by
 rcases M8 (X:=X) (by omega) aM with h | ⟨a,k,⟨ga,nT,CT⟩,e,h⟩
 ·exact .inl h
 ·exact .inr ⟨_,h,KS ga nT CT,by rw[e];exact Dw ga nT,fun xs z=>by cases z⟩
theorem ZT:eT (.v (.lst [.aB true,.aB true,.aB false,.aB false])) (.fr [])=pure (.v (.aB true)):=by
 rw[ql (by decide +kernel) (by decide +kernel)];exact congrArg (fun b=>pure (R.v (D.aB b))) (by decide +kernel)
theorem ZU:eT (.v (.lst [])) (.fr [])=pure (.v (.aB false)):=by
 rw[ql (by decide +kernel) (by decide +kernel)];exact congrArg (fun b=>pure (R.v (D.aB b))) (by decide +kernel)
theorem ZV:oEq (.v (.lst [.aB true,.aB true,.aB false,.aB false])) (.fr [.aB true,.aB true,.aB false,.aB false])=pure (.v (.aB true)):=by
 rw[xS (by decide +kernel) (by decide +kernel)];exact congrArg (fun b=>pure (R.v (D.aB b))) (by decide +kernel)
theorem true_eq(hf:se.lookup f=some e3)(bV:sd.lookup j=some u4)(aQ:sf.lookup s=some FZ)(bp:ag7 (af X)=true)(T:tT e3 u4 FZ X):qV [.fn f,.fn j,.fn s,.str (af X)]=pure (.v (.aB true)):=by
 have la:qt.lookup f=some e3:=hf;have bh:=ZT;have cM:=ZU;have e2:=ZV;have th:oEq (.v (.str (af X))) (.v (.str (af X)))=pure (.v (.aB true)):=by rw[oY bp bp];simp
 generalize qt=GF at la;rcases T with h | ⟨d,h,aj,h2,nl⟩
 ·have k:sN [.fn f,.str (af X)]=pure (.v (.lst [.aB true,.aB true,.aB false,.aB false])):=by
   generalize af X=x at h;simp only[sN,w8,A0,A1];have la:qt.lookup f=some e3:=hf;generalize qt=GF at la;simp[-bind_assoc,-bind_pure_comp,la,h]
  generalize af X=x at h k;simp only[qV,xa,A'];simp[-bind_assoc,-bind_pure_comp,k,bh,e2]
 ·have k:sN [.fn f,.str (af X)]=pure (.v (.lst [])):=by
   generalize af X=x at h;simp only[sN,w8,A0,A1];have la:qt.lookup f=some e3:=hf;generalize qt=GF at la;simp[-bind_assoc,-bind_pure_comp,la,h]
  generalize af X=x at h k h2 th;simp only[qV,xa,A',Ht,Hu];generalize se=adt at hf;generalize sd=ads at bV;generalize sf=FS at aQ;simp[-bind_assoc,-bind_pure_comp,k,cM,hf,bV,aQ,h,aj,h2,th]
structure jC(d:D):Prop where
 ex:∃X,ag7 (af X)=true/\X.length<=800/\l0 [d]=pure (.v (.str (af X)))/\ju [.str (af X)]=pure (.ret d)
 ok:Ok 13 d
 nl:∀xs,d≠.lst xs
theorem HZ:∀{ls:List (List Nat)},(∀l∈ls,ag7 (af l)=true)->∀c∈cC ls,c<0x110000
 | [],_,c,h=>by simp[cC]at h|l::ls,h,c,aA=>by
  simp only[cC,aha,ahI]at aA;rcases aA with rfl | aA | aA
  ·decide
  ·exact eV.mp (h l ahb) c aA
  ·exact HZ (fun x av=>h x (ahc _ av)) c aA
theorem OJ{w:List Nat}{T:List gH}(aL:fW.lookup (af w)=some (T.map (·.1)))(j5:32∉w)(zZ:ag7 (af w)=true)(ou:w.head?≠some 103)(wl:w≠[])(dn:∀t∈T,lO t.1 t.2.1 t.2.2)(aP:wI (T.map (·.1)) (T.map fun t=>t.2.1))(ol:∀t∈T,ag7 (af t.2.1)=true)(ln:w.length+(cC (T.map fun t=>t.2.1)).length<=800):jC (.tup (.str (af w)::T.map fun t=>t.2.2)):=by
 obtain⟨aQ,bz⟩:=vJ aL;rw[ag4]at bz;have aM:ag7 (af (w++cC (T.map fun t=>t.2.1)))=true:=eV.mpr fun c aA=>by
  rcases ahI.mp aA with aA | aA
  ·exact eV.mp zZ c aA
  ·exact HZ (fun l ao=>by obtain⟨t,bG,rfl⟩:=aiC.mp ao;exact ol t bG) c aA
 have a':w++cC (T.map fun t=>t.2.1)≠[103,108,97,110,99,101]:=fun z=>by
  cases w with
  |nil=>exact wl rfl| cons a w=>simp at z;exact ou (by rw[z.1];rfl)
 have L:=D3 T dn;have R:=zX j5 (by rw[ag3];omega) aM a' aL (fun _=>aP) (q:=.ok (T.map fun t=>t.2.2)) (fun ds z=>by cases z;rw[ag4];omega) fun _=>L
 rw[if_pos (by rw[ag4,ag4])]at R;refine⟨⟨_,aM,by rw[ag3];omega,KU bz dn (by omega),R⟩,?_,fun xs z=>by cases z⟩;refine vo (by simp;omega) fun x av=>?_
 rcases aha.mp av with rfl | av
 ·exact L8 zZ
 ·obtain⟨t,bG,rfl⟩:=aiC.mp av
  exact(dn t bG).ED
theorem acv:jC .ba:=by
 refine⟨⟨[103,108,97,110,99,101],sZ,by decide,?_,?_⟩,Yx,fun xs z=>by cases z⟩
 ·simp only[l0,tY,uz];simp
 ·have q:oEq (.v (.str (af [103,108,97,110,99,101]))) (.v (.str (af [103,108,97,110,99,101])))=pure (.v (.aB true)):=by rw[oY sZ sZ];simp
  simp only[ju,d4,rR,uz];generalize af [103,108,97,110,99,101]=X at q;simp[-bind_assoc,-bind_pure_comp,q]
theorem Ou:("put":Str)=af [112,117,116]:=by decide +kernel
theorem w_add:("add":Str)=af [97,100,100]:=by decide +kernel
theorem Ox:("swap":Str)=af [115,119,97,112]:=by decide +kernel
theorem Oy:("take":Str)=af [116,97,107,101]:=by decide +kernel
theorem Ov:("renew":Str)=af [114,101,110,101,119]:=by decide +kernel
theorem Oq:("free":Str)=af [102,114,101,101]:=by decide +kernel
theorem Ow:("sure":Str)=af [115,117,114,101]:=by decide +kernel
theorem Ot:("move":Str)=af [109,111,118,101]:=by decide +kernel
theorem Oo:("end":Str)=af [101,110,100]:=by decide +kernel
structure wH(t:gH):Prop where
 p:lO t.1 t.2.1 t.2.2
 nb:32∉t.2.1
 ol:ag7 (af t.2.1)=true
 le:t.2.1.length<=61
theorem HY:∀{ls:List (List Nat)},(∀l∈ls,l.length<=61)->(cC ls).length<=62*ls.length
 | [],_=>by simp[cC]|l::ls,h=>by
  have:=h l ahb;have:=HY fun x av=>h x (ahc _ av)
  simp[cC];omega
theorem pY{w:List Nat}{T:List gH}(aL:fW.lookup (af w)=some (T.map (·.1)))(j5:32∉w)(zZ:ag7 (af w)=true)(ou:w.head?≠some 103)(wl:w≠[])(zU:w.length<=5)(dn:∀t∈T,wH t)(ne:T.map (·.1)≠[104]):jC (.tup (.str (af w)::T.map fun t=>t.2.2)):=by
 obtain⟨aQ,bz⟩:=vJ aL;have aB:=HY (ls:=T.map fun t=>t.2.1) fun l ao=>by obtain⟨y,bo,rfl⟩:=aiC.mp ao;exact(dn y bo).le
 rw[ag4]at aB bz;exact OJ aL j5 zZ ou wl (fun t bG=>(dn t bG).p) (.inr ⟨ne,fun l ao=>by obtain⟨y,bo,rfl⟩:=aiC.mp ao;exact(dn y bo).nb⟩) (fun t bG=>(dn t bG).ol) (by omega)
section
variable{l:List Nat}{n o:Int}{f:Nat}(ao:kO l)(aR:gC n)(aM:gC o)(hf:f<10 ^ 60)
include ao in
theorem y5:wH (97,l,.str (af l)):=⟨ML ao,ao.nb,ao.ok,by have:=ao.vq;show l.length<=61;omega⟩
include aR in
theorem vr:wH (110,ea n,.int n):=⟨MM aR,X' n,Ya n,X_ aR⟩
include hf in
theorem y4:wH (102,eo f,.int (f:Nat)):=⟨MJ hf,Cf f,ui f,by have:=(uh hf).2;show(eo f).length<=61;omega⟩
include ao aR in
theorem acw:jC (.tup [.str "put",.str (af l),.int n]):=by
 rw[Ou];refine pY (T:=[(97,l,.str (af l)),(110,ea n,.int n)]) (by rw[<-Ou];exact(by decide +kernel:fW.lookup ("put":Str)=some [97,110])) (by decide) (by decide +kernel) (by decide) (by decide) (by decide) ?_ (by simp);simp only[ahw];exact⟨y5 ao,vr aR,fun _ h=>nomatch h⟩
include ao aR in
theorem acq:jC (.tup [.str "add",.str (af l),.int n]):=by
 rw[w_add];refine pY (T:=[(97,l,.str (af l)),(110,ea n,.int n)]) (by rw[<-w_add];exact(by decide +kernel:fW.lookup ("add":Str)=some [97,110])) (by decide) (by decide +kernel) (by decide) (by decide) (by decide) ?_ (by simp);simp only[ahw];exact⟨y5 ao,vr aR,fun _ h=>nomatch h⟩
include ao aR aM in
theorem acz:jC (.tup [.str "swap",.str (af l),.int n,.int o]):=by
 rw[Ox];refine pY (T:=[(97,l,.str (af l)),(110,ea n,.int n),(110,ea o,.int o)]) (by rw[<-Ox];exact(by decide +kernel:fW.lookup ("swap":Str)=some [97,110,110])) (by decide) (by decide +kernel) (by decide) (by decide) (by decide) ?_ (by simp);simp only[ahw];exact⟨y5 ao,vr aR,vr aM,fun _ h=>nomatch h⟩
include hf in
theorem acA:jC (.tup [.str "take",.int (f:Nat)]):=by
 rw[Oy];refine pY (T:=[(102,eo f,.int (f:Nat))]) (by rw[<-Oy];exact(by decide +kernel:fW.lookup ("take":Str)=some [102])) (by decide) (by decide +kernel) (by decide) (by decide) (by decide) ?_ (by simp);simp only[ahw];exact⟨y4 hf,fun _ h=>nomatch h⟩
include hf in
theorem acx:jC (.tup [.str "renew",.int (f:Nat)]):=by
 rw[Ov];refine pY (T:=[(102,eo f,.int (f:Nat))]) (by rw[<-Ov];exact(by decide +kernel:fW.lookup ("renew":Str)=some [102])) (by decide) (by decide +kernel) (by decide) (by decide) (by decide) ?_ (by simp);simp only[ahw];exact⟨y4 hf,fun _ h=>nomatch h⟩
include hf in
theorem acs:jC (.tup [.str "free",.int (f:Nat)]):=by
 rw[Oq];refine pY (T:=[(102,eo f,.int (f:Nat))]) (by rw[<-Oq];exact(by decide +kernel:fW.lookup ("free":Str)=some [102])) (by decide) (by decide +kernel) (by decide) (by decide) (by decide) ?_ (by simp);simp only[ahw];exact⟨y4 hf,fun _ h=>nomatch h⟩
include ao aR hf in
theorem acy:jC (.tup [.str "sure",.int (f:Nat),.str (af l),.int n]):=by
 rw[Ow];refine pY (T:=[(102,eo f,.int (f:Nat)),(97,l,.str (af l)),(110,ea n,.int n)]) (by rw[<-Ow];exact(by decide +kernel:fW.lookup ("sure":Str)=some [102,97,110])) (by decide) (by decide +kernel) (by decide) (by decide) (by decide) ?_ (by simp);simp only[ahw];exact⟨y4 hf,y5 ao,vr aR,fun _ h=>nomatch h⟩
end
theorem acr:jC (.tup [.str "end"]):=by
 rw[Oo];exact pY (T:=[]) (by rw[<-Oo];exact(by decide +kernel:fW.lookup ("end":Str)=some [])) (by decide) (by decide +kernel) (by decide) (by decide) (by decide) (fun _ h=>nomatch h) (by simp)
theorem acu{a k:aF}(ax:Good a)(aL:Good k)(hm:meets a k=true):jC (.tup [.str "move",.tup [enc a,enc k]]):=by
 rw[Ot];have ao:=C6 ax aL;refine OJ (w:=[109,111,118,101]) (T:=[(104,hI a k,.tup [enc a,enc k])]) (by rw[<-Ot];exact(by decide +kernel:fW.lookup ("move":Str)=some [104])) (by decide) (by decide +kernel) (by decide) (by decide) ?_ (.inl ⟨rfl,rfl⟩) ?_ (by simp[cC];omega)
 ·simp only[ahw];exact⟨MK ax aL hm,fun _ h=>nomatch h⟩
 ·simp only[ahw];exact⟨L9 ax aL,fun _ h=>nomatch h⟩
theorem WR{a k:aF}(ax:Good a)(aL:Good k)(hm:meets a k=true)(ao:kO l){n:Int}(aR:gC n)(c:Int):∃d,D' [.int c,.str (af l),.int n,.tup [enc a,enc k]]=pure (.v d)/\jC d:=by
 have la:n.natAbs<10 ^ 60:=by have:=aR.1;have:=aR.2;omega
 have a_:gC ((n.natAbs:Nat):Int):=by unfold gC;omega
 have ab:(if n<0 then -n else n)=((n.natAbs:Nat):Int):=by split<;>omega
 have tq:(5:Nat)+5<=ag5:=jY (by omega);obtain⟨v,e,bF⟩:=pick jC [.ba,.tup [.str "put",.str (af l),.int n],.tup [.str "add",.str (af l),.int n],.tup [.str "swap",.str (af l),.int n,.int (n.natAbs:Nat)],.tup [.str "take",.int (n.natAbs:Nat)],.tup [.str "renew",.int (n.natAbs:Nat)],.tup [.str "free",.int (n.natAbs:Nat)],.tup [.str "sure",.int (n.natAbs:Nat),.str (af l),.int n],.tup [.str "move",.tup [enc a,enc k]],.tup [.str "end"]] c 10 rfl (by decide) (by
  simp only[ahw];exact⟨acv,acw ao aR,acq ao aR,acz ao aR a_,acA la,acx la,acs la,acy ao aR la,acu ax aL hm,acr,fun _ h=>nomatch h⟩)
 exact⟨v,fO rfl ((cU (d6 (σ:=[.val (.int c),.val (.str (af l)),.val (.int n),.val (.tup [enc a,enc k]),.emp,.emp]) (kW (show qq [.v (.int n)]=pure (.v (.int (n.natAbs:Nat)))from congrArg (fun i=>pure (R.v (.int i))) ab) rfl))).trans ((cU (zC rfl rfl)).trans ((cU (zC (QN rfl rfl (Q2 (by exact tq))) rfl)).trans (jv (bX (V0 e) rfl rfl))))),bF⟩
theorem vn(ax:ag7 (af A)=true)(U:ag7 (af B)=true):ag7 (af (A++B))=true:=eV.mpr fun c aA=>by
 rcases ahI.mp aA with aA | aA
 ·exact eV.mp ax c aA
 ·exact eV.mp U c aA
theorem NS{z:Str}(aX:z.length<=1000)(aM:ag7 z=true){i:Int}(h0:0<=i)(h:i<(z.length:Int)):∃c,bJ (.v (.str z)) (.v (.int i))=pure (.v (.str (af [c])))/\c<0x110000:=by
 obtain⟨c,e⟩:=AE (xs:=z.cps.toList) (i:=i) h0 (by rw[aiv];exact h);rw[<-pU z]at aM;refine⟨c,?_,eV.mp aM c (AD e)⟩;show(match d7 z.cps.toList i with
  |some c=>if z.length<=ag5 then(pure (R.v (.str ⟨#[c]⟩)):M R)else bad| none=>bad)=_
 rw[e];dsimp only;rw[if_pos (jY aX)];rfl
theorem WN(c:Int):∃x,yF [.int c]=pure (.v (.str (af [x])))/\x<0x110000:=by
 simp only[yF,A_,Hq,Hr,Hs]
 by_cases h:c % 2=0
 ·have hm:=mod_lt (a:=c / 2) (b:=15) (by decide)
  obtain⟨x,e,av⟩:=NS (z:="0123456789 ()/-") (by decide +kernel) (by decide +kernel) hm.1 (by rw[show(("0123456789 ()/-":Str).length:Int)=15 by decide +kernel];exact hm.2);exact⟨x,by simp[-bind_assoc,-bind_pure_comp,h,e],av⟩
 ·have yu:(" !\"#$&'()*+,-./0123456789:;<=>?@ABCDEFGHIJKLMNOPQRSTUVWXYZ[\\]^_`"++"abcdefghijklmnopqrstuvwxyz{|}~\n\t":Str).length=96:=by decide +kernel
  have bP:(" !\"#$&'()*+,-./0123456789:;<=>?@ABCDEFGHIJKLMNOPQRSTUVWXYZ[\\]^_`":Str).length+("abcdefghijklmnopqrstuvwxyz{|}~\n\t":Str).length<=ag5:=by rw[ahY];decide +kernel
  have yW:ag7 (" !\"#$&'()*+,-./0123456789:;<=>?@ABCDEFGHIJKLMNOPQRSTUVWXYZ[\\]^_`"++"abcdefghijklmnopqrstuvwxyz{|}~\n\t":Str)=true:=by decide +kernel
  generalize(ah2 " !\"#$&'()*+,-./0123456789:;<=>?@ABCDEFGHIJKLMNOPQRSTUVWXYZ[\\]^_`")=A at yu bP yW ⊢;generalize(ah2 "abcdefghijklmnopqrstuvwxyz{|}~\n\t")=B at yu bP yW ⊢;have hm:=mod_lt (a:=c / 2) (b:=96) (by decide);obtain⟨x,e,av⟩:=NS (z:=A++B) (by omega) yW hm.1 (by rw[yu];exact hm.2);have adk:96<=ag5:=by rw[ahY];omega
  exact⟨x,by simp[-bind_assoc,-bind_pure_comp,h,bP,yu,adk,e],av⟩
section
variable{X:List Nat}{j x:Nat}{a b:Slot}(ao:X.length<=900)(bV:j<=X.length)
include ao bV
theorem HP:gV (ag 0) gI (eX (ag 3)) [.val (.str (af X)),a,b,.val (.int (j:Nat))]=pure (.v (.str (af (X.take j)))):=jZ (ahL ao (by decide)) (Ss X j bV) rfl rfl rfl
theorem QE:gV (ag 0) (eX (ag 3)) gI [.val (.str (af X)),a,b,.val (.int (j:Nat))]=pure (.v (.str (af (X.drop j)))):=jZ (ahL ao (by decide)) (Bw X j bV) rfl rfl rfl
theorem HQ:gV (ag 0) (eX (au es (ag 3) (ai (.int 1)))) gI [.val (.str (af X)),a,b,.val (.int (j:Nat))]=pure (.v (.str (af (X.drop (j+1))))):=jZ (ahL ao (by decide)) (Bv X (j+1)) rfl rfl rfl
theorem HR:au hl (gV (ag 0) gI (eX (ag 3))) (ag 2) [.val (.str (af X)),a,.val (.str (af [x])),.val (.int (j:Nat))]=pure (.v (.str (af (X.take j++[x])))):=bX (ki (by rw[ah9,ahm];omega)) (HP ao bV) rfl
end
theorem t4{c k:Int}:bb (au oEq (au oMod (ag 1) (ai (.int 3))) (ai (.int k))) [.val (.str (af X)),.val (.int c),.val x,.val j]=pure (decide (c % 3=k)):=rfl
theorem WC{X:List Nat}{k:Nat}(aL:k<=850)(kr:X.length<=k/\ag7 (af X)=true)(c:Int)(av:x<0x110000):∃Y,D7 [.str (af X),.int c,.str (af [x])]=pure (.v (.str (af Y)))/\Y.length<=k+1/\ag7 (af Y)=true:=by
 have Mf:ag7 (af [x])=true:=oc av;have ao:X.length<=900:=by omega
 have aP:(0:Int)<(X.length:Int)+1:=by omega
 have hm:=mod_lt (a:=c / 3) aP;obtain⟨j,bV⟩:∃j:Nat,c / 3 % ((X.length:Int)+1)=(j:Nat):=⟨(c / 3 % ((X.length:Int)+1)).toNat,by omega⟩;have mS:j<=X.length:=by omega
 have Ex:ag7 (af (X.take j))=true:=eV.mpr fun c aA=>eV.mp kr.2 c (aks aA)
 have Ez:∀i,ag7 (af (X.drop i))=true:=fun i=>eV.mpr fun c aA=>eV.mp kr.2 c (ajG aA)
 have ln:(X.take j++[x]).length=j+1:=by rw[ag3,ah9,ahm];omega
 have sC:∀i,(X.drop i).length=X.length-i:=fun i=>ahz
 have go:AP [.val (.str (af X)),.val (.int c),.val (.str (af [x])),.emp]=Ha [.val (.str (af X)),.val (.int c),.val (.str (af [x])),.val (.int (j:Nat))]:=
  cU (d6 (bX ((jR aP).trans (by rw[bV])) (bX (oV (k4 (by decide) (by decide))) rfl rfl) (bX rfl (kW (u7 (by omega)) rfl) rfl)))
 by_cases h0:c % 3=0
 ·exact⟨X.take j++[x]++X.drop j,fO rfl (go.trans (hV ((fQ (t4.trans (by rw[decide_eq_true h0]))).trans (jv (bX (ki (by rw[ln,sC];omega)) (HR ao mS) (QE ao mS)))))),by rw[ag3,ln,sC];omega,vn (vn Ex Mf) (Ez j)⟩
 ·by_cases aj:c % 3=1
  ·exact⟨X.take j++X.drop (j+1),fO rfl (go.trans ((cU (eB (t4.trans (by rw[decide_eq_false h0])))).trans (hV ((fQ (t4.trans (by rw[decide_eq_true aj]))).trans (jv (bX (ki (by rw[ah9,sC];omega)) (HP ao mS) (HQ ao mS))))))),by rw[ag3,ah9,sC];omega,vn Ex (Ez _)⟩
  ·exact⟨X.take j++[x]++X.drop (j+1),fO rfl (go.trans ((cU (eB (t4.trans (by rw[decide_eq_false h0])))).trans ((cU (eB (t4.trans (by rw[decide_eq_false aj])))).trans (jv (bX (ki (by rw[ln,sC];omega)) (HR ao mS) (HQ ao mS)))))),by rw[ag3,ln,sC];omega,vn (vn Ex Mf) (Ez _)⟩
end b'
namespace aN
open PySem PySem.Spec ak
mutual
theorem Mw:∀{d:D}{n:Nat},d.cI n=true->hS d d=true
 |.ba,_,_=>rfl| .aB _,_,_=>by simp[hS]| .int _,_,_=>by simp[hS]| .str _,_,_=>by simp[hS]|.tup xs,n,h=>by
  cases n with
  |zero=>cases h
  |succ k=>exact EM (xs:=xs) (n:=k) h
 |.lst xs,n,h=>by
  cases n with
  |zero=>cases h
  |succ k=>exact EM (xs:=xs) (n:=k) h
 | .dX _ _,_,h=>by cases h
 | .fn _,_,h=>by cases h
 | .ty _,_,h=>by cases h
theorem EM:∀{xs:List D}{n:Nat},hH xs n=true->l7 xs xs=true
 |[],_,_=>rfl|x::xs,n,h=>by
  have h:=uA.mp h;unfold l7;rw[ahn];exact⟨Mw (h x ahb),EM (uA.mpr fun y bo=>h y (ahc _ bo))⟩
end
end aN
namespace b'
open PySem PySem.Spec ak aN g8 fB je PySem.NumText
noncomputable def L6:List D:=[.str "",.str "Glance",.str "glance ",.str " glance",.str "glances",.str "end ",.str "END",.str "end 1",.str "put",.str "put ",.str "put a",.str "put a ",
  .str "put a 1 2",.str "put  a 1",.str " put a 1",.str "put a  1",.str "put A 1",.str "put 1 a",.str "put abcdefghi 1",.str "put a -0",
  .str "put a 01",.str "put a +1",.str "put a 1_0",.str "put a 1\n",.str "put\ta 1",.str "swap a 1",.str "swap a 1 2 3",.str "take",
  .str "take -1",.str "take 01",.str "take a",.str "renew",.str "free 1 1",.str "sure 1 a",.str "sure a 1 1",.str "sure -1 a 1",.str "move",
  .str "move ",.str "move 0",.str "move 0 / 1",.str "move 0/0",.str "move 0 /",.str "move 0 / 0 ",.str "move  0 / 0",.str "6",.str "10",
  .str "1()",.str "0(0)",.str "2(0)",.str "1(0 )",.str "1( 0)",.str "1(0  1)",.str "1(0",.str "1(0))",.str "7(0 1 2 3 4 5 0)",
  .str "1(0 1 2 3 4 5 0)",.str "1(1(1(1(1(0)))))",.str "0 / 0 / 0",.str " / 0",.str "1(1(1(1(0))))",.str "-1",.str "none",
  .str "2(6(0 1 2 3 4 5) 6(0 1 2 3 4 5))",.str "2(6(0 1 2 3 4 5) 6(0 1 2 3 4 5) 0)"]
noncomputable def L7:D->Bool
 |.str s=>decide (s.length<=800)&&ag7 s|_=>false
theorem Ys(h:L7 d=true):∃X,d=.str (af X)/\X.length<=800/\ag7 (af X)=true:=by
 cases d with
 |str s=>
  have h:(decide (s.length<=800)&&ag7 s)=true:=h;rw[ahn,decide_eq_true_eq]at h;exact⟨cd s,by rw[pU],h.1,by rw[pU];exact h.2⟩
 |_=>cases h
theorem qg{e:bj}{L M:List D}(he:e [.val c,.val (.lst L)]=pure (.fr M))(aX:L.length+M.length<=ag5):cT 1 (au iH (ag 1) e) [.val c,.val (.lst L)]=pure (.a8 [.val c,.val (.lst (L++M))]):=by
 simp[-bind_assoc,-bind_pure_comp,-m9,he,aX]
theorem Ym{c:Int}{L:List D}(e:d7 L (c % 64)=some v)(ao:L.length=64):A7 [.val (.int c),.val (.lst L)]=pure (.cA (.v v)):=by
 have z:64<=ag5:=jY (by omega);unfold A7;simp[-bind_assoc,-bind_pure_comp,-m9,ao,z,e]
theorem WK(c:Int):∃X,D_ [.int c]=pure (.v (.str (af X)))/\X.length<=800/\ag7 (af X)=true:=by
 obtain⟨v,e,X,rfl,aj,h2⟩:=pick (fun d=>∃X,d=.str (af X)/\X.length<=800/\ag7 (af X)=true) L6 c 64 rfl (by decide) fun d hd=>Ys (ahH.mp (show L6.all L7=true by decide +kernel) d hd)
 refine⟨X,fO rfl ?_,aj,h2⟩;refine(cU (σ':=[.val (.int c),.val (.lst _)]) rfl).trans ?_;refine(cU (qg (c:=.int c) rfl (jY (by decide)))).trans ?_;refine(cU (qg (c:=.int c) rfl (jY (by decide)))).trans ?_;refine(cU (qg (c:=.int c) rfl (jY (by decide)))).trans ?_;refine(cU (qg (c:=.int c) rfl (jY (by decide)))).trans ?_;refine(cU (qg (c:=.int c) rfl (jY (by decide)))).trans ?_;refine(cU (qg (c:=.int c) rfl (jY (by decide)))).trans ?_;refine(cU (qg (c:=.int c) rfl (jY (by decide)))).trans ?_;exact Ym e rfl
theorem W5:se.lookup ("read_wish":Str)=some ju:=rfl
theorem W6:sd.lookup ("_law_is_wish":Str)=some pA:=rfl
theorem W7:sf.lookup ("_law_wish_text":Str)=some l0:=rfl
theorem W2:se.lookup ("read_rule":Str)=some gP:=rfl
theorem W3:sd.lookup ("_law_is_rule":Str)=some pz:=rfl
theorem W4:sf.lookup ("_law_rule_text":Str)=some (jQ 12):=rfl
theorem WY:se.lookup ("read_hall":Str)=some iZ:=rfl
theorem WZ:sd.lookup ("_law_is_hall":Str)=some qU:=rfl
theorem W0:sf.lookup ("_law_hall_text":Str)=some pw:=rfl
theorem aba{X:List Nat}(aX:X.length<=900)(aM:ag7 (af X)=true)(s0 s1 s2 s3 s4 s5 fu fv jw hU:Slot):G8 [s0,s1,s2,s3,s4,s5,fu,fv,jw,.val (.str (af X)),hU]=pure (.cA (.v (.aB true))):=by
 have t1:=true_eq W5 W6 W7 aM (acC aX aM);have en:=true_eq W2 W3 W4 aM (aar aX aM);have t3:=true_eq WY WZ W0 aM (Ub aX aM);exact(cU (eB (e1 (bT (call_of (rs:=[.v (.fn "read_wish"),.v (.fn "_law_is_wish"),.v (.fn "_law_wish_text"),.v (.str (af X))]) rfl t1))))).trans ((cU (eB (e1 (bT (call_of (rs:=[.v (.fn "read_rule"),.v (.fn "_law_is_rule"),.v (.fn "_law_rule_text"),.v (.str (af X))]) rfl en))))).trans (jv (call_of (rs:=[.v (.fn "read_hall"),.v (.fn "_law_is_hall"),.v (.fn "_law_hall_text"),.v (.str (af X))]) rfl t3)))
inductive GQ(pre:List Slot)(i:Nat):a9->Prop
 |mk (Y:List Nat) (s:Slot) (ao:Y.length<=800+i) (bo:ag7 (af Y)=true):GQ pre i (pre++[.val (.str (af Y)),s])
theorem r3{ns:List Int}{i:bj}(k:Nat)(ep:ag 0 σ=pure (.cp (ns.map D.int)))(e:i σ=pure (.v (.int (k:Nat)))):b4 m1 (ah (ag 0) (ah i aG)) σ=pure (.v (.int (ns.getD k 0))):=
 call_of (rs:=[.cp (ns.map D.int),.v (.int (k:Nat))]) (cons_of ep (cons_of e rfl)) (RG ns k)
theorem abc{ns:List Int}{Y:List Nat}(aC:i<=40)(bV:j<4)(ao:Y.length<=800+i)(bo:ag7 (af Y)=true)(s1 s2 s3 s4 s5 fu fv jw:Slot):∃qb,(qb.length<=800+(i+1)/\ag7 (af qb)=true)/\DT [.cp (ns.map D.int),s1,s2,s3,s4,s5,fu,fv,jw,.val (.str (af Y)),.val (.int (j:Nat))]=pure (.a8 [.cp (ns.map D.int),s1,s2,s3,s4,s5,fu,fv,jw,.val (.str (af qb)),.val (.int (j:Nat))]):=by
 have cw:mn 2 (j:Int):=(show ∀j:Nat,j<4->mn 2 (j:Int)by decide) j bV;obtain⟨x,aH,av⟩:=WN (ns.getD (5+2*j) 0);obtain⟨qb,aT,n8⟩:=WC (k:=800+i) (by omega) ⟨ao,bo⟩ (ns.getD (4+2*j) 0 % 1000000000) av;exact⟨qb,n8,d6 (call_of (rs:=[.v (.str (af Y)),.v (.int (ns.getD (4+2*j) 0 % 1000000000)),.v (.str (af [x]))]) (cons_of rfl (cons_of (bX (jR (by decide)) (r3 (4+2*j) rfl (bX rfl rfl (bX (Ly cw) rfl rfl))) (bX (vu (by decide) rfl) rfl rfl)) (cons_of (call_of (rs:=[.v (.int (ns.getD (5+2*j) 0))]) (cons_of (r3 (5+2*j) rfl (bX rfl rfl (bX (Ly cw) rfl rfl))) rfl) aH) rfl))) aT)⟩
theorem NQ{ns:List Int}{c:Int}{X:List Nat}(aX:X.length<=800)(aM:ag7 (af X)=true)(s1 s2 s4 s5 fu fv jw hU:Slot):G7 [.cp (ns.map D.int),s1,s2,.val (.int c),s4,s5,fu,fv,jw,.val (.str (af X)),hU]=pure (.cA (.v (.aB true))):=by
 have hm:=mod_lt (a:=c / 240) (b:=4) (by decide);obtain⟨z,Vy⟩:∃z:Nat,c / 240 % 4=(z:Nat):=⟨(c / 240 % 4).toNat,by omega⟩;have wj:z<4:=by omega
 obtain⟨σ',e,h⟩:=o1 (b:=fun d σ=>DT (σ.set 10 (.val d))) (ds:=l9 0 z) (σ:=[.cp (ns.map D.int),s1,s2,.val (.int c),s4,s5,fu,fv,jw,.val (.str (af X)),hU]) (GQ [.cp (ns.map D.int),s1,s2,.val (.int c),s4,s5,fu,fv,jw]) (.mk X hU aX aM) (fun i d σ hd h=>by
   cases h with
   |mk Y s ao bo=>
   have aC:=(ahe.mp hd).1;rw[zc]at aC;rw[E3]at hd;obtain⟨j,bV,rfl⟩:=aiC.mp (ahO hd);have bV:=ah0.mp bV;obtain⟨qb,o,e⟩:=abc (ns:=ns) (j:=j) (i:=i) (by omega) (by omega) ao bo s1 s2 (.val (.int c)) s4 s5 fu fv jw;exact⟨_,.inl e,.mk qb _ o.1 o.2⟩)
 rw[zc]at h
 cases h with
 |mk Y s ao bo=>
 exact(cU (x1 (MP (cons_of ((bX (jR (by decide)) (bX (oV (k4 (by decide) (by decide))) rfl rfl) rfl).trans (by rw[Vy])) rfl) (by omega)) e)).trans (aba (by omega) bo (.cp (ns.map D.int)) s1 s2 (.val (.int c)) s4 s5 fu fv jw s)
theorem aa9{ns:List Int}{c sc:Int}{X:List Nat}(aX:X.length<=800)(aM:ag7 (af X)=true)(s1 s2 s4 fu fv m' hU:Slot):G6 [.cp (ns.map D.int),s1,s2,.val (.int c),s4,.val (.int sc),fu,fv,.val (.str (af X)),m',hU]=pure (.cA (.v (.aB true))):=by
 obtain⟨Y,e,ao,bo⟩:=WK sc;have d0:=NQ (ns:=ns) (c:=c) aX aM s1 s2 s4 (.val (.int sc)) fu fv (.val (.str (af X))) hU;have Pz:=NQ (ns:=ns) (c:=c) ao bo s1 s2 s4 (.val (.int sc)) fu fv (.val (.str (af X))) hU;have t:bb (au oEq (au oMod (au gs (ag 3) (ai (.int 30))) (ai (.int 8))) (ai (.int 7))) [.cp (ns.map D.int),s1,s2,.val (.int c),s4,.val (.int sc),fu,fv,.val (.str (af X)),.val (.str (af X)),hU]=pure (decide (c / 30 % 8=7)):=bT (bX Cs (bX (jR (by decide)) (bX (oV (k4 (by decide) (by decide))) rfl rfl) rfl) rfl);refine(cU (d6 rfl)).trans ?_
 by_cases h:c / 30 % 8=7
 ·rw[decide_eq_true h]at t
  exact(cU ((fQ t).trans (d6 (call_of (rs:=[.v (.int sc)]) rfl e)))).trans Pz
 ·rw[decide_eq_false h]at t
  exact(cU (eB t)).trans d0
theorem ne_self(h:Ok n d)(aR:n<=64):eT (.v d) (.v d)=pure (.v (.aB false)):=by
 have g:d.cI 64=true:=(Yw h aR).1;rw[ql (x:=.v d) (y:=.v d) g g];show pure (R.v (D.aB (!hS d d)))=_;rw[Mw g];rfl
theorem abb{ns:List Int}{c sc:Int}{X:List Nat}(ga:Good a)(aX:X.length<=800)(aM:ag7 (af X)=true)(hd:Ok 13 d)(nl:∀xs,d≠.lst xs)(h0:c % 3=0->ju [.str (af X)]=pure (.ret d))(aj:c % 3=1->gP [.str (af X)]=pure (.ret (enc a)))(s2 s4 fu m' hU:Slot) :
  G' [.cp (ns.map D.int),.val (enc a),s2,.val (.int c),s4,.val (.int sc),fu,.val d,.val (.str (af X)),m',hU]=pure (.cA (.v (.aB true))):=by
 have T:=aa9 (ns:=ns) (c:=c) (sc:=sc) aX aM (.val (enc a)) s2 s4 fu (.val d) m' hU;have jV:=ne_self hd (by decide);have bh:=ne_self (yX 5 a (by have:=ga.2.1;omega) ga.1 13 (by have:=ga.2.1;omega)) (by decide);have t:∀k:Int,bb (au oEq (au oMod (ag 3) (ai (.int 3))) (ai (.int k))) [.cp (ns.map D.int),.val (enc a),s2,.val (.int c),s4,.val (.int sc),fu,.val d,.val (.str (af X)),m',hU]=pure (decide (c % 3=k)):=fun k=>rfl
 have t0:=t 0;have t1:=t 1
 by_cases mA:c % 3=0
 ·rw[decide_eq_true mA]at t0
  rw[decide_eq_false (by omega)]at t1;exact(cU (eB ((g0 ((rL t0).trans (bT (bX jV (Ic (rs:=[.v (.str (af X))]) rfl (h0 mA)) rfl)))).trans (oM t1)))).trans T
 ·rw[decide_eq_false mA]at t0
  by_cases cy:c % 3=1
  ·rw[decide_eq_true cy]at t1
   exact(cU (eB ((g0 (oM t0)).trans ((rL t1).trans (bT (bX bh (Ic (rs:=[.v (.str (af X))]) rfl (aj cy)) rfl)))))).trans T
  ·rw[decide_eq_false cy]at t1
   exact(cU (eB ((g0 (oM t0)).trans (oM t1)))).trans T
theorem WG(ns:List Int)(aR:ns.length<=63):D6 [.lst (ns.map D.int)]=pure (.v (.aB true)):=by
 obtain⟨a,ga,f_⟩:=WM (ns.drop 4) (by rw[ahz];omega);rw[List.map_drop,<-Bv]at f_;have f_:yE [.lst (cutD (ns.map D.int) (some 4) none)]=_:=f_;have SG:=KQ 12 a (by have:=ga.2.1;omega) ga.1;have cI:=TS ga;have Xo:=Xp ga;generalize aA:ns.getD 0 0=c;generalize Vl:ns.getD 1 0=sc;generalize qx:ns.getD 2 0=au;generalize UI:ns.getD 3 0=d1;obtain⟨e,S_,acd,SI,ne⟩:=KR 12 (gX a) (au % 1000000000) (by have:=cI.2.1;omega) cI.1;have ge:Good e:=⟨acd,by rw[SI];exact cI.2.1,by rw[ne];exact cI.2.2⟩;have mt:=Lo ga ge;obtain⟨l,el,ao⟩:=WJ (d1 % 1000000);have agu:=mod_lt (a:=sc) (b:=1000000000000000000000000000000000000000000000000000000000000) (by decide);have agt:=mod_lt (a:=sc) (b:=10) (by decide);obtain⟨v,Co,n,rfl,Vc⟩:=pick (fun d=>∃n,d=.int n/\gC n) [.int (sc % 1000000000000000000000000000000000000000000000000000000000000),.int (0-sc % 1000000000000000000000000000000000000000000000000000000000000),.int (sc % 10)] sc 3 rfl (by decide) (by
  simp only[ahw];exact⟨⟨_,rfl,by unfold gC;omega⟩,⟨_,rfl,by unfold gC;omega⟩,⟨_,rfl,by unfold gC;omega⟩,fun _ h=>nomatch h⟩)
 have cA:=vD 12 a (by have:=ga.2.1;omega) ga.1 (kp ga);have bG:=Dw ga ge;have bD:=EW ga;have agI:=mod_lt (a:=c) (b:=3) (by decide);have fin:∀(o:aF),Good o->meets a o=true->G_ [.cp (ns.map D.int),.val (enc a),.val (enc o),.val (.int c),.val (enc e),.emp,.emp,.emp,.emp,.emp,.emp]=pure (.cA (.v (.aB true))):=fun o go mo=>by
  obtain⟨d,eZ,aca⟩:=WR ga go mo ao Vc (c / 3);obtain⟨⟨W,Yj,Wz,abP,Z5⟩,ED,nl⟩:=aca;obtain⟨X,oW,Yk,WA,q_,bK⟩:∃X,d7 [D.str (af W),D.str (af (bA a)),D.str (af (hI a e))] (c % 3)=some (D.str (af X))/\ag7 (af X)=true/\X.length<=800/\(c % 3=0->ju [.str (af X)]=pure (.ret d))/\(c % 3=1->gP [.str (af X)]=pure (.ret (enc a))):=by
   have bz:c % 3=0\/c % 3=1\/c % 3=2:=by omega
   rcases bz with h | h | h
   ·exact⟨W,by rw[h];rfl,Yj,Wz,fun _=>Z5,fun z=>by omega⟩
   ·exact⟨bA a,by rw[h];rfl,Yy ga,by have:=kp ga;omega,fun z=>by omega,fun _=>bD⟩
   ·exact⟨hI a e,by rw[h];rfl,L9 ga ge,by have:=C6 ga ge;omega,fun z=>by omega,fun z=>by omega⟩
  have T:=abb (ns:=ns) (c:=c) (sc:=sc) ga WA Yk ED nl q_ bK (.val (enc o)) (.val (enc e)) (.val (.int n)) .emp .emp;refine(cU (d6 (r3 1 rfl rfl))).trans ?_;rw[Vl];refine(cU (d6 (bX (Ko Co) (Lc (rs:=[.v (.int (sc % 1000000000000000000000000000000000000000000000000000000000000)),.v (.int (0-sc % 1000000000000000000000000000000000000000000000000000000000000)),.v (.int (sc % 10))]) (cons_of (bX (jR (by decide)) rfl (bX (vu (by decide) rfl) rfl rfl)) (cons_of (bX rfl rfl (bX (jR (by decide)) rfl (bX (vu (by decide) rfl) rfl rfl))) (cons_of (bX (jR (by decide)) rfl rfl) rfl))) rfl (ajz rfl)) (bX (jR (by decide)) rfl rfl)))).trans ?_;refine(cU (d6 (call_of (rs:=[.v (.int (c / 3)),.v (.str (af l)),.v (.int n),.v (.tup [enc a,enc o])]) (cons_of (bX (oV (k4 (by decide) (by decide))) rfl rfl) (cons_of (call_of (rs:=[.v (.int (d1 % 1000000))]) (cons_of (bX (jR (by decide)) ((r3 3 rfl rfl).trans (by rw[UI])) (bX (vu (by decide) rfl) rfl rfl)) rfl) el) (cons_of rfl (cons_of rfl rfl)))) eZ))).trans ?_;exact(cU (d6 (bX (Ko oW) (Lc (cons_of (call_of (rs:=[.v d]) rfl abP) (cons_of (call_of (rs:=[.v (enc a)]) rfl cA) (cons_of (call_of (rs:=[.v (.tup [enc a,enc e])]) rfl bG) rfl))) rfl (ajz rfl)) (bX (jR (by decide)) rfl rfl)))).trans T
 have go:AO [.cp (ns.map D.int),.emp,.emp,.emp,.emp,.emp,.emp,.emp,.emp,.emp,.emp]=G9 [.cp (ns.map D.int),.val (enc a),.val (enc (gX a)),.val (.int c),.val (enc e),.emp,.emp,.emp,.emp,.emp,.emp]:=by
  refine(cU (d6 (call_of (rs:=[.fr (cutD (ns.map D.int) (some 4) none)]) (cons_of rfl rfl) f_))).trans ((cU (d6 (call_of (rs:=[.v (enc a)]) rfl SG))).trans ((cU (d6 ((r3 0 rfl rfl).trans (by rw[aA])))).trans ?_));exact cU (d6 (call_of (rs:=[.v (enc (gX a)),.v (.int (au % 1000000000))]) (cons_of rfl (cons_of (bX (jR (by decide)) ((r3 2 rfl rfl).trans (by rw[qx])) (bX (vu (by decide) rfl) rfl rfl)) rfl)) S_))
 refine fO rfl (go.trans ?_)
 cases hm:meets a e with
 |true=>
  rw[hm]at mt;exact(cU ((fQ (bT (call_of (rs:=[.v (enc a),.v (enc e)]) rfl mt))).trans (d6 rfl))).trans (fin e ge hm)
 |false=>
  rw[hm]at mt;exact(cU (eB (bT (call_of (rs:=[.v (enc a),.v (enc e)]) rfl mt)))).trans (fin (gX a) cI Xo)
theorem WO(ns:List Int)(aR:ns.length<=63):∃aJ,(D6 [.lst (ns.map D.int)]).run []=.ok (.v (.aB true)) aJ:=⟨[],by rw[WG ns aR];rfl⟩
end b'
namespace PySem.W.Fast
def te8495517468171653896:=0
def te6246067442314178740:=0
def te1408765268136043744:=0
def te12024487750072036124:=0
def te9647582705983376459:=0
def te8083083250576703105:=0
def te1273660531172191967:=0
def te837887200518965236:=0
def te13386657516772013422:=0
def te1014743843538449327:=0
def te18042250821994546221:=0
def te1994873919347505561:=0
def te11099507882855289161:=0
def te763756846893235782:=0
def te16243744090536591919:=0
def te14512362247888570949:=0
def te16935116846113681199:=0
def te17026714637030131784:=0
def te12326989144088139181:=0
def te836004199751732607:=0
def te754331164286666106:=0
def te8314897891764854940:=0
def te17875314160821553135:=0
def te5132785322186922824:=0
def te278500241446419313:=0
def te6500782832980895343:=0
def te12802629813605275393:=0
def te14749144807787417472:=0
def te16601174765601080612:=0
def te17707056523456933525:=0
def te6460889005130735858:=0
def te3219029172669730792:=0
def te11592575403544514360:=0
def te10527974236518039659:=0
def te15401059922577803288:=0
def te15964634321385702506:=0
def te15015884656336899335:=0
def te6849154386309598948:=0
def te7556998940898412043:=0
def te3448043874467445458:=0
def te479275133595543836:=0
def te17055699081159521105:=0
def te3819649883111680328:=0
def te14262529289236362153:=0
def te8027676115796616332:=0
def te11356947262960488625:=0
def te5565864631921515466:=0
def te942938189702128105:=0
def te4841289886587951931:=0
def te2112660931831607090:=0
def te13802194457741326193:=0
def te16544333835628483172:=0
def te5525407899588991849:=0
def te1547691512422462026:=0
def te9920511195786210982:=0
def te17347821798006219363:=0
def te3919840088255045348:=0
def te6585687991328158908:=0
def te15846467517936506252:=0
def te6545965033643285592:=0
def te5454542883440677369:=0
def te13090322703802266604:=0
def te4089338402867619910:=0
def te13107578300228253194:=0
def te15622217743952661409:=0
def te8450747006843283016:=0
def te15764022425703092250:=0
def te12704312195036830350:=0
def te17988333354382352185:=0
def te15561403212645261547:=0
def te13219538505981261622:=0
def te14806138553315116703:=0
def te11472224058465380658:=0
def te5016572093551425303:=0
def te6389411304571237891:=0
def te13543783827084759125:=0
def te17011115935483496434:=0
def te15851833025807805813:=0
def te648512777644937656:=0
def te10595945731573815221:=0
def te661326093341107304:=0
def te17396177957111546879:=0
def te101218375392394099:=0
def te3260299542265562954:=0
def te12683801722300505546:=0
def te2609377726151345964:=0
def te14619658176479885948:=0
def te15674280239503946901:=0
def te16046694782291204673:=0
def te11456636701500701077:=0
def te112672970942300842:=0
def te14431298282600441714:=0
def te17047377141426613098:=0
def te10873504000449319527:=0
def te4324920689913967920:=0
def te6673444930620160273:=0
def te12844398397349785620:=0
def te2440692851244869718:=0
def te10857450604514375623:=0
def te14417283644700845471:=0
def te941527696581322027:=0
def te2590557957170294030:=0
def te6700754328966776110:=0
def te5970288607510293504:=0
def te3996129821061288126:=0
def te17609164252338643893:=0
def te8164961836010770435:=0
def te906677962757408259:=0
def te9944035710621869411:=0
def te13727901396997207365:=0
def te9291250708083116489:=0
def te11828702178400186680:=0
def te827589971942561195:=0
def te4391145292899961664:=0
def te16846526792461050904:=0
def te3364445199010510198:=0
def te7504456482911702328:=0
def te10591502341669901770:=0
def te86546224788555452:=0
def te10229921325150854671:=0
def te11551767374156173909:=0
def te1779106975317398822:=0
def te10782335904086144074:=0
def te13007838171509562153:=0
def te13165276089682374818:=0
def te6319109213115578814:=0
def te9750310072191399922:=0
def te6382501024641081006:=0
def te13359729474363138368:=0
def te2804072953449804180:=0
def te6013412697675940254:=0
def te3201704152760339112:=0
def te10678140348232593640:=0
def te10307351927619530921:=0
def te3516827412597637267:=0
def te7614390730688019855:=0
def te7074851499324037512:=0
def te4349602313271114037:=0
def te1046004275365834096:=0
def te1992335334047720591:=0
def te10128497913593694491:=0
def te11603237639834733301:=0
def te1887894482724235348:=0
def te14603427829801193146:=0
def te7508625617110883373:=0
def te12463320747915069591:=0
def te7135238545264550505:=0
def te5109137262797981171:=0
def te4524067349510675191:=0
def te7857783872471445966:=0
def te11641858364396001042:=0
def te10205171400194388524:=0
def te14534149463234991928:=0
def te13589399233188936369:=0
def te1237800729929770627:=0
def te4503932284482167767:=0
def te12632864421345965719:=0
def te13228418039978440297:=0
def te8304168979835126765:=0
def te1912826935834049255:=0
def te2398702238049926122:=0
def te6151899618279111232:=0
def te17722942424020266464:=0
def te11768070598655532847:=0
def te10359543431673629840:=0
def te3329541611599119699:=0
def te17163431473061662928:=0
def te8443811264868487222:=0
def te16623231507921016225:=0
def te13221784130008272836:=0
def te15292345714062159131:=0
def te13367629009056232704:=0
def te14055769193787719562:=0
def te4492901297458006453:=0
def te5995703905594720845:=0
def te5640857508349347892:=0
def te17109176532869517465:=0
def te9774839474176707256:=0
def te5007193633060530187:=0
def te9625660939290350447:=0
def te6944719121693972488:=0
def te11567889851738482800:=0
def te12192020306578298165:=0
def te9217276387264676395:=0
def te14862939059127748783:=0
def te7951270156623262482:=0
def te11846247068348221347:=0
def te10740641653413261305:=0
def te15564139429249564872:=0
def te10643163863522037033:=0
def te14919315697125920578:=0
def te14898723298747202757:=0
def te14896628927742842327:=0
def te17317643031095898880:=0
def te11902674360393922847:=0
def te3742265179928158169:=0
def te10743111984564620842:=0
def te5377219557659133688:=0
def te7923310097910427153:=0
def te11260450972209674030:=0
def te15350572493219497557:=0
def te12744034304342569995:=0
def te17323805458260188430:=0
def te1919301907261056973:=0
def te10578446273295559127:=0
def te14820439215678514332:=0
def te4579367784038578380:=0
def te416214689330039327:=0
def te11810793605846839983:=0
def te17652302495122517132:=0
def te5250702357428667261:=0
def te14564858306469734606:=0
def te2619218498400984576:=0
def te7311983510023366567:=0
def te8766038836866342767:=0
def te9521019025313920336:=0
def te15660890570845071220:=0
def te8552211027782613862:=0
def te14042780258687179467:=0
def te4325282195456433089:=0
def te4638146608975776468:=0
def te9286701650360581889:=0
def te989225839460569481:=0
def te15104016929074307502:=0
def te6224469663244778762:=0
def te9652162993489727169:=0
def te5235586549057090280:=0
def te10444017249525365148:=0
def te16079594632506740305:=0
def te15165671178060142041:=0
def te6291988218854788022:=0
def te1332036899036321058:=0
def te14810519783817930971:=0
def te16299401942842193716:=0
def te11454655099460389100:=0
def te929290880984631590:=0
def te18427816019442790982:=0
def te9128355260533609033:=0
def te4651905714298622789:=0
def te3167822587274853469:=0
def te9027541129896828361:=0
def te7153620928304489917:=0
def te2942009497379311051:=0
def te13911512380238352610:=0
def te13605273277294833558:=0
def te6805211119836540240:=0
def te10174417464188229552:=0
def te13915639280134976422:=0
def te17621850788408591577:=0
def te14361582143122278778:=0
def te14038616460697068558:=0
def te11788425999771344170:=0
def te11851385215911520693:=0
def te3172110572355512102:=0
def te1697364629808445145:=0
def te17285824093320690024:=0
def te17769812013747554685:=0
def te14142506274512811052:=0
def te12189770421686740441:=0
def te14419034191984583978:=0
def te1068800992418656959:=0
def te1723282446394948754:=0
def te5177292301909662444:=0
def te8054119812987751539:=0
def te161443178611177673:=0
def te17984915060124636881:=0
def te7183211657526108346:=0
def te4957147444982589245:=0
def te5551958275605205415:=0
def te53409403259394916:=0
def te12377999574185670825:=0
def te11844767872666843495:=0
def te15159827624144191898:=0
def te11249227996138272920:=0
def te3298066532297313691:=0
def te16043075944749819220:=0
def te15049600090912345936:=0
def te17404441344480825556:=0
def te7352821723484037814:=0
def te7615461841717542856:=0
def te1697144263272605494:=0
def te13143231512467351748:=0
def te12575612157087450769:=0
def te9360234870604672552:=0
def te17252406436497198778:=0
def te7170967273569931769:=0
def te3727821113723651252:=0
def te3873390784687594433:=0
def te1888028877234093568:=0
def te1350855700107738434:=0
def te2748721733525996698:=0
def te16285284123273754989:=0
def te18004227706062410804:=0
def te14599030277642936735:=0
def te6596470835042284565:=0
def te12129585643523561985:=0
def te7212582592738868412:=0
def te7748402741623227953:=0
def te10524792159642249882:=0
def te7960951356295154294:=0
def te7486419881654569456:=0
def te7535111205010131950:=0
def te3543023517477898253:=0
def te12337091616247631687:=0
def te8461170758742027167:=0
def te6910341009144210589:=0
def te1762895554041203215:=0
def te13615188969066317685:=0
def te13689291132789572833:=0
def te5591331324725863339:=0
def te6308250527819484902:=0
def te11098448861189647443:=0
def te14264289208718980085:=0
def te13201116974959818050:=0
def te4754638684966950725:=0
def te7790022346977687761:=0
def te3300218748790319994:=0
def te12733197730148898624:=0
def te17731427341862225588:=0
def te16691916524834670082:=0
def te14972764514666929342:=0
def te15141256229585455457:=0
def te7792774706188239064:=0
def te4685334508353451787:=0
def te10431441087627223130:=0
def te17138224217786707837:=0
def te17715493620298063827:=0
def te43266373680268737:=0
def te14270125284442080429:=0
def te690870016978239046:=0
def te15152441238270631740:=0
def te7545610404001106886:=0
def te7868200259991624565:=0
def te8409557697462271847:=0
def te9692909879051520932:=0
def te5079871771811304287:=0
def te2691644651483780146:=0
def te957792381249470838:=0
def te10513983498095736317:=0
def te9017832236333711769:=0
def te13706393340708084075:=0
def te7990703090917758330:=0
def te260381858246825504:=0
def te5552354021146752646:=0
def te15409699888032465790:=0
def te12134499228121425415:=0
def te1109344922089597651:=0
def te10797838047874527031:=0
def te5812074693666685193:=0
def te6217829231977971351:=0
def te12525368722319479205:=0
def te16592132661409567325:=0
def te17981283281928487505:=0
def te4338973110704030778:=0
def te16828749661999643821:=0
def te18216162999162299677:=0
def te14718491434480224526:=0
def te2644614959524970656:=0
def te10430678818014750388:=0
def te12539781541205077646:=0
def te6075049934981261929:=0
def te12609341203088578312:=0
def te13301050441185624270:=0
def te8871189501594927332:=0
def te15330335272575340105:=0
def te11555892338219485700:=0
def te7066869993613631517:=0
def te6675393497358939892:=0
def te12274362116520286959:=0
def te17008686919374759039:=0
def te16876303838526819330:=0
def te5339265623763968272:=0
def te7196769178200522578:=0
def te10940943386285446447:=0
def te17331688640527927323:=0
def te565920596570677460:=0
def te1249692203734196272:=0
def te4429334782100301663:=0
def te11981373235453851348:=0
def te12432129834358096260:=0
def te16224157449009931542:=0
def te9420745077139054564:=0
def te2216333650734156159:=0
def te12805369221355301193:=0
def te17328119373428137189:=0
def te16825285409076423905:=0
def te6811136771965627822:=0
def te5105497080690877576:=0
def te18155775256906918945:=0
def te12007961040631332784:=0
def te11257447291187239139:=0
def te5488237209809031417:=0
def te9513727171964101571:=0
def te7724808880954073860:=0
def te15189111435714278234:=0
def te4816992693755930166:=0
def te17252503526397337766:=0
def te3666689870696234939:=0
def te5681432320700807030:=0
def te11170303988406257835:=0
def te11653745042398870405:=0
def te17652318319463333662:=0
def te10466781876821625905:=0
def te13361501881002739009:=0
def te2827488618641619246:=0
def te6451047099107929621:=0
def te7712192782458985092:=0
def te4564538447139087761:=0
def te5283973566388306096:=0
def te3063255159626866763:=0
def te2754240494166029475:=0
def te16923849996391037883:=0
def te11862621812678436484:=0
def te15781334080577304099:=0
def te6666753726272354111:=0
def te3632066338376283166:=0
def te7092129878541767188:=0
def te13428153423202190658:=0
def te15913144678284963277:=0
def te8492021514383921547:=0
def te3786846627779500698:=0
def te3182884442696228312:=0
def te10905230623761471952:=0
def te3536567136132266550:=0
def te14247094811144475010:=0
def te11367689953300764292:=0
def te12736230327865987728:=0
def te16016236401683452606:=0
def te2673354086854081364:=0
def te2167028528173924235:=0
def te11913244947353253923:=0
end PySem.W.Fast
open PySem PySem.W PyProof.Rows
set_option maxHeartbeats 0 in
theorem PySem.Challenge.cw_oneslate_k84_texts_refused_holds : PySem.Challenge.rw_oneslate_k84_texts_refused.Holds := by
 w_on;o_law;k_head;(case hw=>w_witness2)
 k_fill
 letI:ak.a7:=⟨fun _=>False,fun _=>""⟩
 refine aN.walk (l:=PySem.Challenge.rw_oneslate_k84_texts_refused) (k:=24) rfl rfl ⟨rfl,by decide,by decide⟩ (fun _ h=>h) (fun w h Y=>PySem.W.kIn_of Y) ?F
 case F=>
  intro w I fN h a5 G uR
  have BK:ak.bB (ak.bC a5) I "is_whole" b'.Fg ["thing"]:=by
   dsimp only[ak.bC]
   refine' aN.dg a5 G ?a ?l ?c ?k (fun _ _ _ _ _ _=>aN.eu fun _=>rfl)
   (case a=>k_is);(case l=>k_is);(case c=>k_is);(case k=>k_is)
  have BC:ak.bB (ak.bC a5) I "has_keeper" b'.E' ["mask","keeper"]:=by
   dsimp only[ak.bC]
   refine' aN.dg a5 G ?a ?l ?c ?k (fun _ _ _ _ _ _=>aN.j2 fun _ _=>rfl)
   (case a=>k_is);(case l=>k_is);(case c=>k_is);(case k=>k_is)
  have B3:ak.bB (ak.bC a5) I "mask_of" b'.FD ["keepers"]:=by
   dsimp only[ak.bC]
   refine' aN.dg a5 G ?a ?l ?c ?k (fun _ _ _ _ _ _=>aN.eu fun _=>rfl)
   (case a=>k_is);(case l=>k_is);(case c=>k_is);(case k=>k_is)
  have BL:ak.bB (ak.bC a5) I "keepers_of" b'.zk ["mask"]:=by
   dsimp only[ak.bC]
   refine' aN.dg a5 G ?a ?l ?c ?k (fun _ _ _ _ _ _=>aN.eu fun _=>rfl)
   (case a=>k_is);(case l=>k_is);(case c=>k_is);(case k=>k_is)
  have B4:ak.bB (ak.bC a5) I "masks_within" b'.zt ["mask"]:=by
   dsimp only[ak.bC]
   refine' aN.dg a5 G ?a ?l ?c ?k (fun _ _ _ _ _ _=>aN.eu fun _=>rfl)
   (case a=>k_is);(case l=>k_is);(case c=>k_is);(case k=>k_is)
  have BF:ak.bB (ak.bC a5) I "is_keeper" b'.Fd ["thing"]:=by
   dsimp only[ak.bC]
   refine' aN.dg a5 G ?a ?l ?c ?k (fun _ _ _ _ _ _=>aN.eu fun _=>rfl)
   (case a=>k_is);(case l=>k_is);(case c=>k_is);(case k=>k_is)
  have BI:ak.bB (ak.bC a5) I "is_pair" b'.Fe ["thing"]:=by
   dsimp only[ak.bC]
   refine' aN.dg a5 G ?a ?l ?c ?k (fun _ _ _ _ _ _=>aN.eu fun _=>rfl)
   (case a=>k_is);(case l=>k_is);(case c=>k_is);(case k=>k_is)
  have BD:ak.bB (ak.bC a5) I "is_choice" b'.Fb ["thing"]:=by
   dsimp only[ak.bC]
   refine' aN.dg a5 G ?a ?l ?c ?k (fun _ _ _ _ _ _=>aN.eu fun _=>rfl)
   (case a=>k_is);(case l=>k_is);(case c=>k_is);(case k=>k_is)
  have xw:ak.bB (ak.bC a5) I "is_built" b'.zh ["thing","deep"]:=by
   dsimp only[ak.bC]
   refine' aN.dg a5 G ?a ?l ?c ?k (fun _ _ _ _ _ _=>aN.j2 fun _ _=>rfl)
   (case a=>k_is);(case l=>k_is);(case c=>k_is);(case k=>k_is)
  have xH:ak.bB (ak.bC a5) I "namings" b'.FF ["rule"]:=by
   dsimp only[ak.bC]
   refine' aN.dg a5 G ?a ?l ?c ?k (fun _ _ _ _ _ _=>aN.eu fun _=>rfl)
   (case a=>k_is);(case l=>k_is);(case c=>k_is);(case k=>k_is)
  have BJ:ak.bB (ak.bC a5) I "is_rule" b'.Ff ["thing"]:=by
   dsimp only[ak.bC]
   refine' aN.dg a5 G ?a ?l ?c ?k (fun _ _ _ _ _ _=>aN.eu fun _=>rfl)
   (case a=>k_is);(case l=>k_is);(case c=>k_is);(case k=>k_is)
  have B5:ak.bB (ak.bC a5) I "named" b'.FE ["rule"]:=by
   dsimp only[ak.bC]
   refine' aN.dg a5 G ?a ?l ?c ?k (fun _ _ _ _ _ _=>aN.eu fun _=>rfl)
   (case a=>k_is);(case l=>k_is);(case c=>k_is);(case k=>k_is)
  have xv:ak.bB (ak.bC a5) I "fills" b'.zg ["rule","mask"]:=by
   dsimp only[ak.bC]
   refine' aN.dg a5 G ?a ?l ?c ?k (fun _ _ _ _ _ _=>aN.j2 fun _ _=>rfl)
   (case a=>k_is);(case l=>k_is);(case c=>k_is);(case k=>k_is)
  have BG:ak.bB (ak.bC a5) I "is_least" b'.zi ["mask","filling"]:=by
   dsimp only[ak.bC]
   refine' aN.dg a5 G ?a ?l ?c ?k (fun _ _ _ _ _ _=>aN.j2 fun _ _=>rfl)
   (case a=>k_is);(case l=>k_is);(case c=>k_is);(case k=>k_is)
  have B2:ak.bB (ak.bC a5) I "least_masks" b'.vF ["rule"]:=by
   dsimp only[ak.bC]
   refine' aN.dg a5 G ?a ?l ?c ?k (fun _ _ _ _ _ _=>aN.eu fun _=>rfl)
   (case a=>k_is);(case l=>k_is);(case c=>k_is);(case k=>k_is)
  have BA:ak.bB (ak.bC a5) I "first_apart" b'.E9 ["mask","others"]:=by
   dsimp only[ak.bC]
   refine' aN.dg a5 G ?a ?l ?c ?k (fun _ _ _ _ _ _=>aN.j2 fun _ _=>rfl)
   (case a=>k_is);(case l=>k_is);(case c=>k_is);(case k=>k_is)
  have B6:ak.bB (ak.bC a5) I "parting" b'.FG ["asking","keeping"]:=by
   dsimp only[ak.bC]
   refine' aN.dg a5 G ?a ?l ?c ?k (fun _ _ _ _ _ _=>aN.j2 fun _ _=>rfl)
   (case a=>k_is);(case l=>k_is);(case c=>k_is);(case k=>k_is)
  have BE:ak.bB (ak.bC a5) I "is_hall" b'.Fc ["thing"]:=by
   dsimp only[ak.bC]
   refine' aN.dg a5 G ?a ?l ?c ?k (fun _ _ _ _ _ _=>aN.eu fun _=>rfl)
   (case a=>k_is);(case l=>k_is);(case c=>k_is);(case k=>k_is)
  have BH:ak.bB (ak.bC a5) I "is_name" b'.zj ["thing"]:=by
   dsimp only[ak.bC]
   refine' aN.dg a5 G ?a ?l ?c ?k (fun _ _ _ _ _ _=>aN.eu fun _=>rfl)
   (case a=>k_is);(case l=>k_is);(case c=>k_is);(case k=>k_is)
  have BB:ak.bB (ak.bC a5) I "form_of" b'.E_ ["word"]:=by
   dsimp only[ak.bC]
   refine' aN.dg a5 G ?a ?l ?c ?k (fun _ _ _ _ _ _=>aN.eu fun _=>rfl)
   (case a=>k_is);(case l=>k_is);(case c=>k_is);(case k=>k_is)
  have xI:ak.bB (ak.bC a5) I "parts_at" b'.FH ["text","place","deep"]:=by
   dsimp only[ak.bC]
   refine' aN.dg a5 G ?a ?l ?c ?k (fun _ _ _ _ _ _=>aN.zQ fun _ _ _=>rfl)
   (case a=>k_is);(case l=>k_is);(case c=>k_is);(case k=>k_is)
  have xN:ak.bB (ak.bC a5) I "rule_at" b'.FP ["text","place","deep"]:=by
   dsimp only[ak.bC]
   refine' aN.dg a5 G ?a ?l ?c ?k (fun _ _ _ _ _ _=>aN.zQ fun _ _ _=>rfl)
   (case a=>k_is);(case l=>k_is);(case c=>k_is);(case k=>k_is)
  have xK:ak.bB (ak.bC a5) I "read_rule" b'.FO ["text"]:=by
   dsimp only[ak.bC]
   refine' aN.dg a5 G ?a ?l ?c ?k (fun _ _ _ _ _ _=>aN.eu fun _=>rfl)
   (case a=>k_is);(case l=>k_is);(case c=>k_is);(case k=>k_is)
  have xJ:ak.bB (ak.bC a5) I "read_hall" b'.FJ ["text"]:=by
   dsimp only[ak.bC]
   refine' aN.dg a5 G ?a ?l ?c ?k (fun _ _ _ _ _ _=>aN.eu fun _=>rfl)
   (case a=>k_is);(case l=>k_is);(case c=>k_is);(case k=>k_is)
  have B_:ak.bB (ak.bC a5) I "read_number" b'.FL ["text"]:=by
   dsimp only[ak.bC]
   refine' aN.dg a5 G ?a ?l ?c ?k (fun _ _ _ _ _ _=>aN.eu fun _=>rfl)
   (case a=>k_is);(case l=>k_is);(case c=>k_is);(case k=>k_is)
  have B8:ak.bB (ak.bC a5) I "read_fence" b'.zu ["text"]:=by
   dsimp only[ak.bC]
   refine' aN.dg a5 G ?a ?l ?c ?k (fun _ _ _ _ _ _=>aN.eu fun _=>rfl)
   (case a=>k_is);(case l=>k_is);(case c=>k_is);(case k=>k_is)
  have B9:ak.bB (ak.bC a5) I "read_name" b'.FK ["text"]:=by
   dsimp only[ak.bC]
   refine' aN.dg a5 G ?a ?l ?c ?k (fun _ _ _ _ _ _=>aN.eu fun _=>rfl)
   (case a=>k_is);(case l=>k_is);(case c=>k_is);(case k=>k_is)
  have B':ak.bB (ak.bC a5) I "read_part" b'.FN ["kind","text"]:=by
   dsimp only[ak.bC]
   refine' aN.dg a5 G ?a ?l ?c ?k (fun _ _ _ _ _ _=>aN.j2 fun _ _=>rfl)
   (case a=>k_is);(case l=>k_is);(case c=>k_is);(case k=>k_is)
  have B7:ak.bB (ak.bC a5) I "pieces_of" b'.FI ["form","rest"]:=by
   dsimp only[ak.bC]
   refine' aN.dg a5 G ?a ?l ?c ?k (fun _ _ _ _ _ _=>aN.j2 fun _ _=>rfl)
   (case a=>k_is);(case l=>k_is);(case c=>k_is);(case k=>k_is)
  have xM:ak.bB (ak.bC a5) I "read_wish" b'.zv ["text"]:=by
   dsimp only[ak.bC]
   refine' aN.dg a5 G ?a ?l ?c ?k (fun _ _ _ _ _ _=>aN.eu fun _=>rfl)
   (case a=>k_is);(case l=>k_is);(case c=>k_is);(case k=>k_is)
  have BP:ak.bB (ak.bC a5) I "_law_cell_at" b'.Fj ["script","k"]:=by
   dsimp only[ak.bC]
   refine' aN.dg a5 G ?a ?l ?c ?k (fun _ _ _ _ _ _=>aN.j2 fun _ _=>rfl)
   (case a=>k_is);(case l=>k_is);(case c=>k_is);(case k=>k_is)
  have B0:ak.bB (ak.bC a5) I "_law_whole" b'.Fz ["found"]:=by
   dsimp only[ak.bC]
   refine' aN.dg a5 G ?a ?l ?c ?k (fun _ _ _ _ _ _=>aN.eu fun _=>rfl)
   (case a=>k_is);(case l=>k_is);(case c=>k_is);(case k=>k_is)
  have BR:ak.bB (ak.bC a5) I "_law_joined" b'.Fp ["stack","most","need"]:=by
   dsimp only[ak.bC]
   refine' aN.dg a5 G ?a ?l ?c ?k (fun _ _ _ _ _ _=>aN.zQ fun _ _ _=>rfl)
   (case a=>k_is);(case l=>k_is);(case c=>k_is);(case k=>k_is)
  have BX:ak.bB (ak.bC a5) I "_law_rule" b'.Fw ["cells"]:=by
   dsimp only[ak.bC]
   refine' aN.dg a5 G ?a ?l ?c ?k (fun _ _ _ _ _ _=>aN.eu fun _=>rfl)
   (case a=>k_is);(case l=>k_is);(case c=>k_is);(case k=>k_is)
  have BO:ak.bB (ak.bC a5) I "_law_bit" b'.Fi ["k"]:=by
   dsimp only[ak.bC]
   refine' aN.dg a5 G ?a ?l ?c ?k (fun _ _ _ _ _ _=>aN.eu fun _=>rfl)
   (case a=>k_is);(case l=>k_is);(case c=>k_is);(case k=>k_is)
  have xA:ak.bB (ak.bC a5) I "_law_filled" b'.zo ["rule","mask"]:=by
   dsimp only[ak.bC]
   refine' aN.dg a5 G ?a ?l ?c ?k (fun _ _ _ _ _ _=>aN.j2 fun _ _=>rfl)
   (case a=>k_is);(case l=>k_is);(case c=>k_is);(case k=>k_is)
  have xx:ak.bB (ak.bC a5) I "_law_dual" b'.zm ["rule"]:=by
   dsimp only[ak.bC]
   refine' aN.dg a5 G ?a ?l ?c ?k (fun _ _ _ _ _ _=>aN.eu fun _=>rfl)
   (case a=>k_is);(case l=>k_is);(case c=>k_is);(case k=>k_is)
  have xy:ak.bB (ak.bC a5) I "_law_eased" b'.Fl ["rule","cell"]:=by
   dsimp only[ak.bC]
   refine' aN.dg a5 G ?a ?l ?c ?k (fun _ _ _ _ _ _=>aN.j2 fun _ _=>rfl)
   (case a=>k_is);(case l=>k_is);(case c=>k_is);(case k=>k_is)
  have BU:ak.bB (ak.bC a5) I "_law_meet" b'.Ft ["one","other"]:=by
   dsimp only[ak.bC]
   refine' aN.dg a5 G ?a ?l ?c ?k (fun _ _ _ _ _ _=>aN.j2 fun _ _=>rfl)
   (case a=>k_is);(case l=>k_is);(case c=>k_is);(case k=>k_is)
  have xF:ak.bB (ak.bC a5) I "_law_measure" b'.Fs ["thing"]:=by
   dsimp only[ak.bC]
   refine' aN.dg a5 G ?a ?l ?c ?k (fun _ _ _ _ _ _=>aN.eu fun _=>rfl)
   (case a=>k_is);(case l=>k_is);(case c=>k_is);(case k=>k_is)
  have xD:ak.bB (ak.bC a5) I "_law_is_rule" b'.Fo ["thing"]:=by
   dsimp only[ak.bC]
   refine' aN.dg a5 G ?a ?l ?c ?k (fun _ _ _ _ _ _=>aN.eu fun _=>rfl)
   (case a=>k_is);(case l=>k_is);(case c=>k_is);(case k=>k_is)
  have uf:ak.bB (ak.bC a5) I "_law_rule_text" b'.zr ["rule"]:=by
   dsimp only[ak.bC]
   refine' aN.dg a5 G ?a ?l ?c ?k (fun _ _ _ _ _ _=>aN.eu fun _=>rfl)
   (case a=>k_is);(case l=>k_is);(case c=>k_is);(case k=>k_is)
  have xB:ak.bB (ak.bC a5) I "_law_hall_text" b'.Fm ["hall"]:=by
   dsimp only[ak.bC]
   refine' aN.dg a5 G ?a ?l ?c ?k (fun _ _ _ _ _ _=>aN.eu fun _=>rfl)
   (case a=>k_is);(case l=>k_is);(case c=>k_is);(case k=>k_is)
  have xG:ak.bB (ak.bC a5) I "_law_wish_text" b'.FC ["deed"]:=by
   dsimp only[ak.bC]
   refine' aN.dg a5 G ?a ?l ?c ?k (fun _ _ _ _ _ _=>aN.eu fun _=>rfl)
   (case a=>k_is);(case l=>k_is);(case c=>k_is);(case k=>k_is)
  have BV:ak.bB (ak.bC a5) I "_law_name" b'.Fu ["cell"]:=by
   dsimp only[ak.bC]
   refine' aN.dg a5 G ?a ?l ?c ?k (fun _ _ _ _ _ _=>aN.eu fun _=>rfl)
   (case a=>k_is);(case l=>k_is);(case c=>k_is);(case k=>k_is)
  have xC:ak.bB (ak.bC a5) I "_law_is_hall" b'.Fn ["thing"]:=by
   dsimp only[ak.bC]
   refine' aN.dg a5 G ?a ?l ?c ?k (fun _ _ _ _ _ _=>aN.eu fun _=>rfl)
   (case a=>k_is);(case l=>k_is);(case c=>k_is);(case k=>k_is)
  have BQ:ak.bB (ak.bC a5) I "_law_is_part" b'.zp ["thing","kind"]:=by
   dsimp only[ak.bC]
   refine' aN.dg a5 G ?a ?l ?c ?k (fun _ _ _ _ _ _=>aN.j2 fun _ _=>rfl)
   (case a=>k_is);(case l=>k_is);(case c=>k_is);(case k=>k_is)
  have xE:ak.bB (ak.bC a5) I "_law_is_wish" b'.zq ["thing"]:=by
   dsimp only[ak.bC]
   refine' aN.dg a5 G ?a ?l ?c ?k (fun _ _ _ _ _ _=>aN.eu fun _=>rfl)
   (case a=>k_is);(case l=>k_is);(case c=>k_is);(case k=>k_is)
  have BS:ak.bB (ak.bC a5) I "_law_kinds" b'.Fq ["read","text"]:=by
   dsimp only[ak.bC]
   refine' aN.dg a5 G ?a ?l ?c ?k (fun _ _ _ _ _ _=>aN.j2 fun _ _=>rfl)
   (case a=>k_is);(case l=>k_is);(case c=>k_is);(case k=>k_is)
  have BZ:ak.bB (ak.bC a5) I "_law_true" b'.Fy ["read","judge","shown","text"]:=by
   dsimp only[ak.bC]
   refine' aN.dg a5 G ?a ?l ?c ?k (fun _ _ _ _ _ _=>aN.Oh fun _ _ _ _=>rfl)
   (case a=>k_is);(case l=>k_is);(case c=>k_is);(case k=>k_is)
  have B1:ak.bB (ak.bC a5) I "_law_wish" b'.FA ["cell","name","number","hall"]:=by
   dsimp only[ak.bC]
   refine' aN.dg a5 G ?a ?l ?c ?k (fun _ _ _ _ _ _=>aN.Oh fun _ _ _ _=>rfl)
   (case a=>k_is);(case l=>k_is);(case c=>k_is);(case k=>k_is)
  have BY:ak.bB (ak.bC a5) I "_law_sign" b'.Fx ["cell"]:=by
   dsimp only[ak.bC]
   refine' aN.dg a5 G ?a ?l ?c ?k (fun _ _ _ _ _ _=>aN.eu fun _=>rfl)
   (case a=>k_is);(case l=>k_is);(case c=>k_is);(case k=>k_is)
  have BN:ak.bB (ak.bC a5) I "_law_bent" b'.Fh ["text","cell","sign"]:=by
   dsimp only[ak.bC]
   refine' aN.dg a5 G ?a ?l ?c ?k (fun _ _ _ _ _ _=>aN.zQ fun _ _ _=>rfl)
   (case a=>k_is);(case l=>k_is);(case c=>k_is);(case k=>k_is)
  have BW:ak.bB (ak.bC a5) I "_law_odd" b'.Fv ["cell"]:=by
   dsimp only[ak.bC]
   refine' aN.dg a5 G ?a ?l ?c ?k (fun _ _ _ _ _ _=>aN.eu fun _=>rfl)
   (case a=>k_is);(case l=>k_is);(case c=>k_is);(case k=>k_is)
  have BM:ak.bB (ak.bC a5) I "law" b'.zl ["script"]:=by
   dsimp only[ak.bC]
   refine' aN.dg a5 G ?a ?l ?c ?k (fun _ _ _ _ _ _=>aN.eu fun _=>rfl)
   (case a=>k_is);(case l=>k_is);(case c=>k_is);(case k=>k_is)
  have CM:∃u,I "LAST_KEEPER"=some u/\ak.RelV (.int 5) u:=by
   refine' ⟨_,ahG a5 G ?a,?b⟩
   (case a=>k_is);(case b=>exact⟨_,rfl⟩)
  have CQ:∃u,I "MOST_PARTS"=some u/\ak.RelV (.int 6) u:=by
   refine' ⟨_,ahG a5 G ?a,?b⟩
   (case a=>k_is);(case b=>exact⟨_,rfl⟩)
  have CP:∃u,I "MOST_NAMED"=some u/\ak.RelV (.int 12) u:=by
   refine' ⟨_,ahG a5 G ?a,?b⟩
   (case a=>k_is);(case b=>exact⟨_,rfl⟩)
  have x2:∃u,I "MOST_DEEP"=some u/\ak.RelV (.int 4) u:=by
   refine' ⟨_,ahG a5 G ?a,?b⟩
   (case a=>k_is);(case b=>exact⟨_,rfl⟩)
  have CR:∃u,I "SMALL_LETTERS"=some u/\ak.RelV (.str "abcdefghijklmnopqrstuvwxyz") u:=by
   refine' ⟨_,ahG a5 G ?a,?b⟩
   (case a=>k_is);(case b=>exact⟨_,rfl⟩)
  have CO:∃u,I "MOST_LETTERS"=some u/\ak.RelV (.int 8) u:=by
   refine' ⟨_,ahG a5 G ?a,?b⟩
   (case a=>k_is);(case b=>exact⟨_,rfl⟩)
  have CN:∃u,I "MOST_FIGURES"=some u/\ak.RelV (.int 60) u:=by
   refine' ⟨_,ahG a5 G ?a,?b⟩
   (case a=>k_is);(case b=>exact⟨_,rfl⟩)
  have DP:aN.KTab PySem.Challenge.rw_oneslate_k84_texts_refused.prog w (ak.bC a5) I "FORMS" b'.qM:=by
   dsimp only[ak.bC]
   refine' aN.KI a5 G ?a ?s ?l ?k ?f
   (case a=>k_is);(case s=>decide);(case l=>k_is)
   case k=>
    intro e he
    rcases aha.mp he with rfl | he
    ·exact⟨"put",rfl,rfl⟩
    rcases aha.mp he with rfl | he
    ·exact⟨"add",rfl,rfl⟩
    rcases aha.mp he with rfl | he
    ·exact⟨"swap",rfl,rfl⟩
    rcases aha.mp he with rfl | he
    ·exact⟨"take",rfl,rfl⟩
    rcases aha.mp he with rfl | he
    ·exact⟨"renew",rfl,rfl⟩
    rcases aha.mp he with rfl | he
    ·exact⟨"free",rfl,rfl⟩
    rcases aha.mp he with rfl | he
    ·exact⟨"sure",rfl,rfl⟩
    rcases aha.mp he with rfl | he
    ·exact⟨"move",rfl,rfl⟩
    rcases aha.mp he with rfl | he
    ·exact⟨"end",rfl,rfl⟩
    cases he
   case f=>exact⟨_,_,rfl,⟨_,rfl⟩,(aN.n2 (xs:=["name","number"]) (by k_is) (by decide +kernel) (by exact⟨_,_,rfl,⟨_,_,rfl,rfl⟩⟩)),⟨_,_,rfl,⟨_,rfl⟩,(aN.n2 (xs:=["name","number"]) (by k_is) (by decide +kernel) (by exact⟨_,_,rfl,⟨_,_,rfl,rfl⟩⟩)),⟨_,_,rfl,⟨_,rfl⟩,(aN.n2 (xs:=["name","number","number"]) (by k_is) (by decide +kernel) (by exact⟨_,_,rfl,⟨_,_,rfl,⟨_,_,rfl,rfl⟩⟩⟩)),⟨_,_,rfl,⟨_,rfl⟩,(aN.n2 (xs:=["fence"]) (by k_is) (by decide +kernel) (by exact⟨_,_,rfl,rfl⟩)),⟨_,_,rfl,⟨_,rfl⟩,(aN.n2 (xs:=["fence"]) (by k_is) (by decide +kernel) (by exact⟨_,_,rfl,rfl⟩)),⟨_,_,rfl,⟨_,rfl⟩,(aN.n2 (xs:=["fence"]) (by k_is) (by decide +kernel) (by exact⟨_,_,rfl,rfl⟩)),⟨_,_,rfl,⟨_,rfl⟩,(aN.n2 (xs:=["fence","name","number"]) (by k_is) (by decide +kernel) (by exact⟨_,_,rfl,⟨_,_,rfl,⟨_,_,rfl,rfl⟩⟩⟩)),⟨_,_,rfl,⟨_,rfl⟩,(aN.n2 (xs:=["hall"]) (by k_is) (by decide +kernel) (by exact⟨_,_,rfl,rfl⟩)),⟨_,_,rfl,⟨_,rfl⟩,(aN.n2 (xs:=[]) (by k_is) (by decide +kernel) (by exact rfl)),rfl⟩⟩⟩⟩⟩⟩⟩⟩⟩
  have yt:aN.KTab PySem.Challenge.rw_oneslate_k84_texts_refused.prog w (ak.bC a5) I "FIGURES" b'.h9:=by
   dsimp only[ak.bC]
   refine' aN.KI a5 G ?a ?s ?l ?k ?f
   (case a=>k_is);(case s=>decide);(case l=>k_is)
   case k=>
    intro e he
    rcases aha.mp he with rfl | he
    ·exact⟨"0",rfl,rfl⟩
    rcases aha.mp he with rfl | he
    ·exact⟨"1",rfl,rfl⟩
    rcases aha.mp he with rfl | he
    ·exact⟨"2",rfl,rfl⟩
    rcases aha.mp he with rfl | he
    ·exact⟨"3",rfl,rfl⟩
    rcases aha.mp he with rfl | he
    ·exact⟨"4",rfl,rfl⟩
    rcases aha.mp he with rfl | he
    ·exact⟨"5",rfl,rfl⟩
    rcases aha.mp he with rfl | he
    ·exact⟨"6",rfl,rfl⟩
    rcases aha.mp he with rfl | he
    ·exact⟨"7",rfl,rfl⟩
    rcases aha.mp he with rfl | he
    ·exact⟨"8",rfl,rfl⟩
    rcases aha.mp he with rfl | he
    ·exact⟨"9",rfl,rfl⟩
    cases he
   case f=>exact⟨_,_,rfl,⟨_,rfl⟩,aN.mW,⟨_,_,rfl,⟨_,rfl⟩,aN.mW,⟨_,_,rfl,⟨_,rfl⟩,aN.mW,⟨_,_,rfl,⟨_,rfl⟩,aN.mW,⟨_,_,rfl,⟨_,rfl⟩,aN.mW,⟨_,_,rfl,⟨_,rfl⟩,aN.mW,⟨_,_,rfl,⟨_,rfl⟩,aN.mW,⟨_,_,rfl,⟨_,rfl⟩,aN.mW,⟨_,_,rfl,⟨_,rfl⟩,aN.mW,⟨_,_,rfl,⟨_,rfl⟩,aN.mW,rfl⟩⟩⟩⟩⟩⟩⟩⟩⟩⟩
  have j7:∃C,aN.wx (ak.bC a5) I "NoText" C:=by
   dsimp only[ak.bC]
   refine' ⟨_,ahG a5 G ?a,?b⟩
   (case a=>k_is);(case b=>kernel_rfl)
  have Gx:∃C B,I "NoText"=some (.ref C)/\I "SlateError"=some (.ref B)/\aN.lH (ak.bC a5) C/\PySem.W.exmOne (ak.bC a5) (.ref C) (.ref B)=some true/\(∃v u,aN.dV I "NoText" v u/\PySem.W.kitOne (ak.bC a5) (.ref C) u=some true)/\(∃v u,aN.dV I "ValueError" v u/\PySem.W.kitOne (ak.bC a5) (.ref C) u=some true)/\(∃v0 md v1 ht v2 hW pW me,aN.dV I "NoRow" v0 md/\aN.dV I "NoRule" v1 ht/\aN.dV I "NoHall" v2 hW/\aN.dV I "NoDeed" pW me/\PySem.W.kitAny (ak.bC a5) (.ref C) [md,ht,hW,me]=some false)/\(∃v0 md v1 ht v2 hW pW me v4 vX Ge vY,aN.dV I "NoAsker" v0 md/\aN.dV I "NoLetter" v1 ht/\aN.dV I "NoTick" v2 hW/\aN.dV I "NoWish" pW me/\aN.dV I "Over" v4 vX/\aN.dV I "Busy" Ge vY/\PySem.W.kitAny (ak.bC a5) (.ref C) [md,ht,hW,me,vX,vY]=some false):=by
   dsimp only[ak.bC]
   exact⟨_,_,ahG a5 G (by k_is),ahG a5 G (by k_is),⟨by kernel_rfl,by kernel_rfl,by kernel_rfl,by kernel_rfl,by kernel_rfl,by kernel_rfl,by kernel_rfl,by kernel_rfl⟩,by kernel_rfl,⟨_,_,aN.dV.own (ahG a5 G (by k_is)),by kernel_rfl⟩,⟨_,_,aN.dV.blt (n:="ValueError") (ahs a5 G (by k_is)) (by decide +kernel),by kernel_rfl⟩,⟨_,_,_,_,_,_,_,_,aN.dV.own (ahG a5 G (by k_is)),aN.dV.own (ahG a5 G (by k_is)),aN.dV.own (ahG a5 G (by k_is)),aN.dV.own (ahG a5 G (by k_is)),by kernel_rfl⟩,⟨_,_,_,_,_,_,_,_,_,_,_,_,aN.dV.own (ahG a5 G (by k_is)),aN.dV.own (ahG a5 G (by k_is)),aN.dV.own (ahG a5 G (by k_is)),aN.dV.own (ahG a5 G (by k_is)),aN.dV.own (ahG a5 G (by k_is)),aN.dV.own (ahG a5 G (by k_is)),by kernel_rfl⟩⟩
  have kt:ak.wA (ak.bC a5):=ak.Wu _
  have O7:aN.GD I:=by
   refine' ⟨ahs a5 G ?GB,ahs a5 G ?kL,ahs a5 G ?e',ahs a5 G ?wh,ahs a5 G ?wj,ahs a5 G ?adf,ahs a5 G ?adg,ahs a5 G ?adh,ahs a5 G ?adi,ahs a5 G ?adj,ahs a5 G ?ac4,ahs a5 G ?ac5,ahs a5 G ?ac6,ahs a5 G ?ac7,ahs a5 G ?ac8,ahs a5 G ?ac9,ahs a5 G ?ada,ahs a5 G ?adb,ahs a5 G ?ade⟩
   (case GB=>k_is);(case kL=>k_is);(case e'=>k_is);(case wh=>k_is);(case wj=>k_is);(case adf=>k_is);(case adg=>k_is);(case adh=>k_is);(case adi=>k_is);(case adj=>k_is);(case ac4=>k_is);(case ac5=>k_is);(case ac6=>k_is);(case ac7=>k_is);(case ac8=>k_is);(case ac9=>k_is);(case ada=>k_is);(case adb=>k_is);(case ade=>k_is)
  exact aN.all_mk uR BM (fun _ _ _ _ _ _ _=>rfl) b'.WO (fun base f fd F=>b'.Yv ⟨BK,BC,B3,BL,B4,BF,BI,BD,xw,xH,BJ,B5,xv,BG,B2,BA,B6,BE,BH,BB,xI,xN,xK,xJ,B_,B8,B9,B',B7,xM,BP,B0,BR,BX,BO,xA,xx,xy,BU,xF,xD,uf,xB,xG,BV,xC,BQ,xE,BS,BZ,B1,BY,BN,BW,BM,CM,CQ,CP,x2,CR,CO,CN,DP,yt,j7,Gx,O7,kt⟩ F)
