import PyProof.Rows.All
import Wide.All
import OpenK.AllK
import Wide.FinOn
import Lean
import PyProof.EqAt
import PyProof.EqKinds
import PyProof.TupleCall
import KE.KSortTup
import PyProof.ZipIter
import KE.KMinKey
import KE.KRevSl
import PyProof.Rows.EnumRows
import PyProof.EnumStmt
import PyProof.ListRange
import KE.KIntText
import PySem.Challenge.RW_oneslate_k45_whole_record_closed
set_option Elab.async false
set_option tactic.hygienic false
set_option linter.all false
set_option maxRecDepth 100000
set_option bootstrap.genMatcherCode false
set_option compiler.extract_closed false
open Array renaming length_toList->am0,forIn_toList->aot,getElem?_toList->apu,toArray_toList->apB,toList->aqX
open Bool renaming false_ne_true->amm,and_eq_true->amI,eq_iff_iff->an1,false_eq_true->apW,eq_false_iff->aqa,or_eq_true->aqE
open False renaming elim->amV
open ForInStep renaming yield->apz
open Int renaming le_refl->anR,fdiv_eq_ediv_of_nonneg->ap2,toNat_natCast->ap9
open List renaming getElem?_eq_some_iff->nu,length_append->amf,length_map->amh,getElem?_set_ne->amk,size_toArray->amn,mem_singleton->amo,mem_cons_of_mem->amr,getElem?_append_right->ams,map_cons->amt,mem_cons_self->amu,mem_cons->amw,getElem?_set_self->amx,lookup_cons->amy,getElem?_append_left->amA,getElem?_eq_getElem->amB,mem_of_getElem?->amD,getElem?_map->amE,mem_append->amF,mem_map->amG,range->amJ,length_cons->amL,length_set->amQ,replicate->amU,all_eq_true->amX,mem_append_right->amZ,forall_mem_cons->am3,not_mem_nil->am4,mem_range->am5,append_nil->am8,length_replicate->am9,mem_append_left->anb,nodup_cons->ane,getD_eq_getElem?_getD->ang,length_take->anj,length_drop->ank,length_singleton->anl,length_nil->ans,map_append->ant,take_of_length_le->anw,length_range->anz,mem_filter->anB,mem_of_find?_eq_some->anC,getElem?_replicate->anI,length_eq_zero_iff->anJ,lookup->anN,find?_cons_of_pos->anO,find?_cons_of_neg->anP,getElem_mem->anT,pairwise_cons->anV,length->anZ,map_map->an3,append_assoc->an5,getElem?_range->an7,prefix_refl->an9,length_filter_le->aod,mem_or_eq_of_mem_set->aoi,mem_map_of_mem->aop,find?_some->aov,nodup_append->aoA,pairwise_map->aoB,getElem?_toArray->aoG,filter_cons->aoM,all_cons->aoQ,any_cons->aoR,nodup_iff_pairwise_ne->aoS,map_congr_left->aoV,of_mem_zip->aoW,prefix_append->ao6,zip_cons_cons->ao7,nodup_nil->apa,take_add_one->apd,filter_eq_nil_iff->apl,mem_iff_getElem?->apw,all_append->apG,eq_nil_of_length_eq_zero->apI,filterMap_cons->apJ,filter_sublist->apK,drop_zero->apN,countP_eq_length_filter->apP,find?_eq_none->apX,take_sublist->ap8,any_eq_true->aqn,take_length->aqw,eq_of_mem_replicate->aqx,filter_cons_of_pos->aqz,find?_cons->aqD,drop_eq_nil_of_le->aqK,take_nil->aqT
open List.Nodup renaming length_le_of_subset->anE
open List.Pairwise renaming imp->aq1
open List.cons renaming injEq->apH
open Nat renaming le_refl->amj,ne_of_lt->amM,le_trans->amN,lt_of_lt_of_le->amP,zero_le->amT,le_of_ble_eq_true->am6,lt_irrefl->am7,not_lt_zero->anD,le_of_lt->anM,sub_self->anQ,zero_add->an2,lt_succ_self->aoH,succ_le_succ->aoJ,le_add_right->aoL,min_eq_left->aoZ,le_of_eq->ao3,pow_le_pow_right->apF,le_succ->apQ
open Ne renaming symm->an4
open Option renaming map_eq_some_iff->aoa,bind_eq_some_iff->apb,isSome_iff_exists->aql,map_eq_none_iff->aqJ
open Option.some renaming inj->amH
open Or renaming inr->anh,inl->aoo
open Prod renaming ext->apq
open PyProof.Rows renaming envOfC->anf,slot_tuple_getitem->ano,seqObj->anv,callWith_type1->anK,KeyOrd->anL,IntsAre->aol,get?_update_seq->aou,envOfC->ao4,AllBare->aps,listUpdate_at->ap4,KeyKind->aqQ,strKind->aqR
open PySem renaming wpAny_bind->mN,Shared->amg,sizeLine->ami,wpAny_pure->aml,Program->amC,Around->amK,mainGlobals->amR,sizeLine_eq->amS,compareOp->amW,bootBuiltins->am1,starEach->am2,wpAny_mono->anc,wpAny_truthy_bool->anm,FuncData->anp,assignEach->anu,mem_of_lookup->anA,wpAny_Call_Name_kw->anF,wpAny_holding->anG,attributeBase->anS,swapsWith->anU,wpAny_seqItems->anW,binaryOp->an0,wpAny_passesOwn->aoc,wpAny_pyIter_list->aof,sysModules->aog,wpAny_field->aoj,sliceBounds->aok,wpAny_call_entry->aom,wpAny_callSpecial?_slot->aor,wpAny_pyIter_tuple->aos,wpAny_setField_rec->aow,NameKind->aoy,holding->aoC,backTo->aoD,codeAny_mono->aoF,bindArgs->aoI,wpAny_forIn_list->aoK,rawInt->aoN,behindInMarks->aoO,codeAny->aoT,wpAny_letGo->aoU,wpAny_specialOf->aoY,assign->ao2,DictEntry->ao5,Keyword->ao9,wpAny_newObj_type->apc,keywordEach->apf,IsPart->apg,richCompare_meets_room->apj,strKind->apo,wpAny_isInstance->apr,getItem->apt,isSubtype_tuple_tuple->apv,wpAny_execs_nil->apx,letOwnedTupleGo->apy,wpAny_rule->apA,wpAny_updateSeq->apC,wpAny_tryCatch->apO,PassesOwn->apR,Arguments->apT,codeAmong->apU,IsPair->apY,wpAny_tupleItemsOf->apZ,wpAny_standAt->ap1,plainId_quiet->ap6,builtinsNs->aqb,closureFor->aqd,callerA->aqh,Builtin->aqi,backToKw->aqj,TriplesOk->aqC,subscripted->aqG
open PySem.AutoSeq1 renaming sub_tuple_tuple->aqo,wpAny_loadPart'->aqq
open PySem.BindsTo renaming of_defaults->aqU
open PySem.Builtin renaming bitNot->anx,bitAnd->anH,bitOr->apm
open PySem.Builtin.Int renaming intBits->anq
open PySem.Builtin.List renaming listTooLong->aon
open PySem.Builtin.Slice renaming slicePlaces->aoh,sliceAdjust->aoX,sliceApplied->ap3
open PySem.Builtin.Str renaming strSliceIndices->aob,occurrences->aoq
open PySem.Builtin.Tuple renaming tupleHashOf->anY,tupleItemsOf->aoP
open PySem.Calls renaming callWith_builtin->aph,spliced_cons->apS,Name_function_global->ap0,spliced_nil->ap7
open PySem.F renaming plain_max_loop->aoz,slot_tuple_hash->ape,slot_tuple_eq->apD,slot_tuple_iterator_next->ap5,slot_dict_getitem->aqe,slot_list_append->aqs,type_list_append->aqt,slot_list_extend->aqu,type_list_extend->aqv,plainAttrs_list->aqy,entry_max_loop->aqI,slot_dict_get->aqL
open PySem.Heap renaming get?_push_of_some->B1,get?_push_size->amq,lt_size->amv,size_push->aoE,SameBut->ao1,IsTuple->aqp,get?_update_other->aqH
open PySem.Heap.IsTuple renaming push->aq0
open PySem.Heap.SameBut renaming update->anr
open PySem.NameKind renaming free->apn,cell->aqS
open PySem.Obj renaming mapSeq->amO
open PySem.PassesOwn renaming never->apE
open PySem.PyData renaming strOk->amz,eqv->aqO
open PySem.SeqAt renaming shaped->aqZ
open PySem.SeqAt.EqAt renaming int_str->aqV,str_int->aqW,int_int->aqY
open PySem.Shared renaming heap->apk
open PySem.Str renaming ofString->amY
open PySem.Txt renaming find->aqr
open PySem.Value renaming ref->ana,isStrOf->ani,int->aqA,str->aqB,bool->aqM,type->aqN
open PySem.W renaming fnOf->an6,keepIn->an8,findIn->aoe,emptyDict->aox,instObj->ao0,nsIn->api,codeIn->apL,mg_of->apM,kia_one->apV,plainGet->aqc,callWith_K->aqk,cellsFrom_some->aqm,hasDictIn->aqF
open PySem.Walks renaming list->aqP
open Subtype renaming ext->aq2
open Sum renaming inl->aqf,inr->aqg
open True renaming intro->ao8
abbrev v0:List PySem.Str:=["self"]
abbrev o0:List PySem.Str:=["thing"]
abbrev T0:List PySem.Str:=["slate","asker","deed"]
abbrev W1:List PySem.Str:=["self","asker"]
abbrev M2:List PySem.Str:=["slate"]
abbrev P3:List PySem.Str:=["self","letter"]
abbrev v4:List PySem.Str:=["slate","fence","tenant"]
abbrev v6:List PySem.Str:=["book","letter"]
abbrev u8:List PySem.Str:=["asker","keeper","epoch","stamp","load"]
abbrev aN:=PySem.W.Frag
abbrev bf:=PySem.Str->Option PySem.Value
abbrev dv:=PySem.Value->PySem.Shared->Prop
abbrev c4:=List (PySem.Addr×PySem.Obj)
noncomputable section
def a4{p:Prop}:(¬p->False)->p:=Classical.byContradiction
namespace aC
open PySem PySem.Spec PyProof.Rows
abbrev Key:=Sum Int Str
def tW:Key->Value->Bool
 |.inl k,v=>Value.isInt k v|.inr x,v=>ani x v
def Ew(w:World):Key->Int
 |.inl k=>hashInt k|.inr x=>hashStr w x
def oZ:∀{k:Key}{v:Value},tW k v=true->(∃i t,k=aqf i/\v=aqA i t)\/(∃x t,k=aqg x/\v=aqB x t)
 |.inl i,v,h=>by
  obtain⟨t,e⟩:=Value.isInt_shape (k:=i) (v:=v) h;exact .inl ⟨i,t,rfl,e⟩
 |.inr x,v,h=>by
  obtain⟨t,e⟩:=Value.isStrOf_shape (x:=x) (v:=v) h;exact .inr ⟨x,t,rfl,e⟩
def aaI(i:Int)(t:Tok):tW (.inl i) (.int i t)=true:=by simp[tW,Value.isInt]
def aaJ(x:Str)(t:Tok):tW (.inr x) (.str x t)=true:=by simp[tW,ani]
def aaK(a b:Int):decide ((aqf a:Key)=aqf b)=(a==b):=by
 by_cases e:a=b
 .subst e;simp
 .have h:¬(aqf a:Key)=aqf b:=λq=>e (Sum.inl.inj q)
  rw[decide_eq_false h];exact(beq_eq_false_iff_ne.mpr e).symm
def aaN(a b:Str):decide ((aqg a:Key)=aqg b)=decide (a=b):=by
 by_cases e:a=b
 .simp
 .have h:¬(aqg a:Key)=aqg b:=λq=>e (Sum.inr.inj q)
  rw[decide_eq_false h,decide_eq_false e]
def aaL(a:Int)(b:Str):decide ((aqf a:Key)=aqg b)=false:=decide_eq_false (λq=>nomatch q)
def aaM(a:Str)(b:Int):decide ((aqg a:Key)=aqf b)=false:=decide_eq_false (λq=>nomatch q)
noncomputable def h1(prog:amC)(w:World):KeyKind prog w Key where
 is:=tW
 hash:=Ew w
 inj:=λv a b f d=>by
  rcases oZ f with⟨i,t,rfl,rfl⟩|⟨x,t,rfl,rfl⟩
  .rcases oZ d with⟨j,u,rfl,e⟩|⟨y,u,rfl,e⟩
   .injection e with ao _;rw[ao]
   .exact nomatch e
  .rcases oZ d with⟨j,u,rfl,e⟩|⟨y,u,rfl,e⟩
   .exact nomatch e
   .injection e with ao _;rw[ao]
 byValue:=λk v h=>by
  rcases oZ h with⟨i,t,rfl,rfl⟩|⟨x,t,rfl,rfl⟩<;>rfl
 pyHash:=λc h=>by
  rcases oZ c with⟨i,t,rfl,rfl⟩|⟨x,t,rfl,rfl⟩
  .exact wpAny_pyHash_int h
  .exact wpAny_pyHash_str h
 eqBool:=λg c h=>by
  rcases oZ g with⟨i,t,rfl,rfl⟩|⟨x,t,rfl,rfl⟩
  .rcases oZ c with⟨j,u,rfl,rfl⟩|⟨y,u,rfl,rfl⟩
   .rw[aaK]at h;exact wpAny_eqBool_int h
   .rw[aaL]at h;exact aqV i t y u _ _ _ _ h
  .rcases oZ c with⟨j,u,rfl,rfl⟩|⟨y,u,rfl,rfl⟩
   .rw[aaM]at h;exact aqW x t j u _ _ _ _ h
   .rw[aaN]at h;exact wpAny_eqBool_str h
 «strs»:=λk x t v h=>by
  rcases oZ h with⟨i,u,rfl,e⟩|⟨y,u,rfl,e⟩
  .exact nomatch e
  .injection e with ao _
   subst ao;cases v<;>rfl
def abX(prog:amC)(w:World)(i:Int)(t:Tok):(h1 prog w).is (.inl i) (.int i t)=true:=aaI i t
def abY(prog:amC)(w:World)(x:Str)(t:Tok):(h1 prog w).is (.inr x) (.str x t)=true:=aaJ x t
inductive V where
 |aP|ay (b:Bool)|int (i:Int)|str (x:Str)|yC (b:Array UInt8)|yZ (b:UInt64)|ref (a:Addr)|ty (n:String)
 deriving DecidableEq
def RelV:V->Value->Prop
 |.aP,u=>u=Value.none|.ay b,u=>u=aqM b|.int i,u=>∃t,u=aqA i t|.str x,u=>∃t,u=aqB x t|.yC b,u=>∃t,u=Value.bytes b t|.yZ b,u=>∃t,u=Value.float b t|.ref a,u=>u=ana a|.ty n,u=>u=aqN n
abbrev Vals:List V->List Value->Prop:=Paired RelV
def Vals.length{xs:List V}{us:List Value}(r:Vals xs us):xs.length=us.length:=Paired.length r
theorem Vals.get:∀{xs:List V}{us:List Value}{i:Nat}{x:V},Vals xs us->xs[i]? = some x->∃u,us[i]? = some u/\RelV x u
 |_,_,_,_,.nil,e=>by simp at e| _,_,0,_,.cons r _,e=>by simp at e;subst e;exact⟨_,rfl,r⟩|_,_,i+1,x,.cons _ t,e=>by
  obtain⟨u,a,b⟩:=Vals.get t e;exact⟨u,by simpa using a,b⟩
theorem Vals.set(r:RelV x u):∀{xs:List V}{us:List Value}(i:Nat),Vals xs us->Vals (xs.set i x) (us.set i u)
 |_,_,_,.nil=>.nil|_,_,0,.cons _ t=>.cons r t|_,_,i+1,.cons q t=>.cons q (Vals.set r i t)
theorem Vals.append:∀{xs b:List V}{us a:List Value},Vals xs us->Vals b a->Vals (xs++b) (us++a)
 |_,_,_,_,.nil,s=>s|_,_,_,_,.cons r t,s=>.cons r (Vals.append t s)
theorem Vals.take:∀{xs:List V}{us:List Value}(n:Nat),Vals xs us->Vals (xs.take n) (us.take n)
 |_,_,0,_=>.nil|_,_,_+1,.nil=>.nil|_,_,n+1,.cons r t=>.cons r (Vals.take n t)
theorem Vals.drop:∀{xs:List V}{us:List Value}(n:Nat),Vals xs us->Vals (xs.drop n) (us.drop n)
 |_,_,0,r=>r|_,_,_+1,.nil=>.nil|_,_,n+1,.cons _ t=>Vals.drop n t
def nj:Option V->Option Value->Prop
 |some v,some u=>RelV v u|none,none=>True|_,_=>False
def Sk{κ:Type}:List (κ×V)->List (κ×Value)->Prop:=Paired λ(p:κ×V) (q:κ×Value)=>p.1=q.1/\RelV p.2 q.2
def dn:Key->V
 |.inl i=>.int i|.inr x=>.str x
inductive eY where
 |l (xs:List V)
 |t (xs:List V)
 |ti (bG:List (Key×V))|gx (bG:List (List Key×V))
 |set (S:Int->Bool) (n:Nat)
 |ins (C cB:Addr) (fs:List (Str×V))
 |own (x:Addr)
 |GU (fs:List (Str×V))
 |met (f x:Addr)
 |F9 (lo hi:Int)
 |cL (o:Obj) (u:eY)
 |gp (ps:Array Value)
 |ext (qX:Heap->Prop)
abbrev ax:=Addr->Option eY
def upd(H:ax)(a:Addr)(o:eY):ax:=λb=>if b=a then some o else H b
def d2{o:eY}:upd H a o a=some o:=by unfold upd;rw[if_pos rfl]
def c6{H:ax}{o:eY}(h:b≠a):upd H a o b=H b:=by unfold upd;rw[if_neg h]
def ahY{o u:eY}:upd (upd H a o) a u=upd H a u:=by
 funext b;unfold upd;split<;>rfl
def O5{H:ax}{o u:eY}(h:H a=some o)(h':H b=some u)(d:o≠u):a≠b:=by
 intro e;subst e;rw[h]at h';exact d (amH h')
def kY{H:ax}{o:eY}(h:H a=some o)(h':H b=none):a≠b:=by
 intro e;subst e;rw[h]at h';cases h'
section
variable(P:amC)(w:World)
def h_(H:ax)(h:Heap)(a:Addr):eY->Prop
 |.l xs=>xs.length<=ami/\∃(b:List Value)(n:Nat),Vals xs b/\h.get? a=some { cls:=.type "list",data:=.seq b.toArray n }|.t xs=>xs.length<=ami/\∃b:List Value,Vals xs b/\IsTup h a b.toArray|.ti d=>d.length<=ami/\(a==aog)=false/\∃vs,Sk d vs/\h.DictOf (h1 P w) a vs|.gx d=>d.length<=ami/\(a==aog)=false/\∃xs:List (List Key×Addr×Value),
   Paired (λ(p:List Key×V) (q:List Key×Addr×Value)=>p.1=q.1/\H q.2.1=some (.t (p.1.map dn))/\RelV p.2 q.2.2) d xs/\
   ∃o i bj,h.get? a=some o/\o.ExactDict/\o.data=.dict i bj/\i.toList=xs.map (entryOfKey (tupleKind (h1 P w)))/\(xs.map (·.1)).Nodup
 |.set S n=>h.SetOf (intKind P w) a S n|.ins C e fs=>H e=some (.own a)/\fs.length<=1000/\e≠a/\h.get? a=some (ao0 C e)/\
   ∃c,h.Ns1 e c/\(∀f,nj (fs.lookup f) (c f))/\Within c (fs.map (·.1))
 |.own _=>∃o,h.get? a=some o|.GU fs=>∃c,h.Ns1 a c/\∀f,nj (fs.lookup f) (c f)|.F9 lo hi=>∃t u v,h.get? a=some { cls:=.type "range",data:=.fields #[.int lo t,.int hi u,.int 1 v] }|.cL o u=>h.get? a=some o/\h_ H h a u|.gp ps=>h.get? a=some { cls:=.none,data:=.fields ps }|.met f x=>h.get? a=some (W.methodObj (.ref f) (.ref x))|.ext g=>g h/\(∃o,h.get? a=some o)/\∀j k:Heap,g j->(∀o,j.get? a=some o->k.get? a=some o)->g k
def gs(H:ax)(h:Heap):Prop:=∀a o,H a=some o->h_ P w H h a o
end
section
variable{P:amC}{w:World}{H H':ax}{h h':Heap}{a:Addr}{o:eY}
def h_.lt(x:h_ P w H h a o):a<h.objs.size:=by
 cases o with
 |l xs=>obtain⟨_,_,_,_,e⟩:=x;exact amv e
 |t xs=>obtain⟨_,_,_,p⟩:=x;exact p.lt
 |ti b=>obtain⟨_,_,_,_,o,_,_,e,_⟩:=x;exact amv e
 |gx b=>obtain⟨_,_,_,_,o,_,_,e,_⟩:=x;exact amv e
 |set S n=>obtain⟨o,_,_,_,e,_⟩:=x;exact amv e
 |ins C c fs=>obtain⟨_,_,_,e,_⟩:=x;exact amv e
 |own y=>obtain⟨_,e⟩:=x;exact amv e
 |GU fs=>obtain⟨_,⟨_,_,_,e,_⟩,_⟩:=x;exact amv e
 |F9 lo hi=>obtain⟨_,_,_,e⟩:=x;exact amv e
 |cL a' u=>obtain⟨e,_⟩:=x;exact amv e
 |gp ps=>exact amv (show h.get? a=some _ from x)|met f y=>exact amv (show h.get? a=some _ from x)|ext d=>obtain⟨_,⟨_,e⟩,_⟩:=x;exact amv e
theorem Paired.OJ{α d:Type}{F G:α->d->Prop}:∀{c:List α}{l₂:List d},Paired F c l₂->(∀a b,F a b->G a b)->Paired G c l₂
 |_,_,.nil,_=>.nil|_,_,.cons r t,f=>.cons (f _ _ r) (Paired.OJ t f)
def h_.i7(x:h_ P w H h a o)(k:∀b u,(b=a\/H b=some (.own a))->h.get? b=some u->h'.get? b=some u)
  (s:∀b,H b=some (.own a)->H' b=some (.own a)) (B:∀b xs,H b=some (.t xs)->H' b=some (.t xs)):h_ P w H' h' a o:=by
 induction o with
 |l xs=>obtain⟨z,i,n,r,e⟩:=x;exact⟨z,i,n,r,k _ _ (.inl rfl) e⟩
 |t xs=>obtain⟨z,i,r,a',e,c⟩:=x;exact⟨z,i,r,a',k _ _ (.inl rfl) e,c⟩
 |ti D=>obtain⟨z,y,vs,r,a',g,bj,e,c⟩:=x;exact⟨z,y,vs,r,a',g,bj,k _ _ (.inl rfl) e,c⟩
 |gx D=>
  obtain⟨z,y,xs,r,a',g,bj,e,c⟩:=x;exact⟨z,y,xs,Paired.OJ r λp q z=>⟨z.1,B _ _ z.2.1,z.2.2⟩,a',g,bj,k _ _ (.inl rfl) e,c⟩
 |set S n=>obtain⟨a',g,bj,t,e,c⟩:=x;exact⟨a',g,bj,t,k _ _ (.inl rfl) e,c⟩
 |ins C E fs=>
  obtain⟨d,z,ne,e,j,⟨m,g,bj,aA,c⟩,r⟩:=x;exact⟨s _ d,z,ne,k _ _ (.inl rfl) e,j,⟨m,g,bj,k _ _ (.inr d) aA,c⟩,r⟩
 |own y=>obtain⟨a',e⟩:=x;exact⟨a',k _ _ (.inl rfl) e⟩
 |GU fs=>obtain⟨j,⟨m,g,bj,e,c⟩,r⟩:=x;exact⟨j,⟨m,g,bj,k _ _ (.inl rfl) e,c⟩,r⟩
 |F9 lo hi=>obtain⟨t,u,v,e⟩:=x;exact⟨t,u,v,k _ _ (.inl rfl) e⟩
 |cL a' u A=>obtain⟨e,q⟩:=x;exact⟨k _ _ (.inl rfl) e,A q⟩
 |gp ps=>
  have e:=x;exact k a _ (.inl rfl) e
 |met f y=>
  have e:=x;exact k a _ (.inl rfl) e
 |ext F=>obtain⟨p,⟨o,e⟩,st⟩:=x;exact⟨st _ _ p λo q=>k _ _ (.inl rfl) q,⟨o,k _ _ (.inl rfl) e⟩,st⟩
def gs.lt(x:gs P w H h)(e:H a=some o):a<h.objs.size:=(x a o e).lt
def gs.fresh(x:gs P w H h)(e:h.objs.size<=a):H a=none:=by
 cases q:H a with
 |none=>rfl|some u=>exact absurd (amP (x.lt q) e) (am7 _)
theorem gs.kept(x:gs P w H h)(k:∀b u,h.get? b=some u->h'.get? b=some u):gs P w H h':=λa o e=>
 (x a o e).i7 (λb u _ q=>k b u q) (λ_ q=>q) λ_ _ q=>q
def gs.laid(x:gs P w H h)(k:∀b u,h.get? b=some u->h'.get? b=some u)(g:h.objs.size<=a)(new:h_ P w (upd H a o) h' a o):gs P w (upd H a o) h':=λb u e=>by
 have d:=x.fresh g
 by_cases f:b=a
 .subst f;rw[d2]at e;cases e;exact new
 .rw[c6 f]at e
  exact(x b u e).i7 (λc v _ q=>k c v q) (λc q=>by rw[c6 (kY q d)];exact q) λc xs q=>by rw[c6 (kY q d)];exact q
end
def hK(H:ax)(a:Addr)(u:eY):Prop:=H a=some u\/∃o,H a=some (.cL o u)
def hK.ok(r:hK H a u)(x:gs P w H h):h_ P w H h a u:=by
 rcases r with r|⟨o,r⟩
 .exact x a u r
 .obtain⟨_,q⟩:=x a _ r
  exact q
def vy:Option eY->Prop
 |some (.l _)=>True|some (.ti _)=>True|some (.gx _)=>True|some (.set _ _)=>True|some (.ins _ _ _)=>True|some (.ext _)=>True|_=>False
section
variable{P:amC}{w:World}{H:ax}{h h':Heap}{x e:Addr}{dq:eY}
def gs.write(ok:gs P w H h)(f:vy (H x))(he:e=x\/H e=some (.own x))(k:∀b u,b≠e->h.get? b=some u->h'.get? b=some u)(n:∃u,h'.get? e=some u)
  (new:h_ P w (upd H x dq) h' x dq):gs P w (upd H x dq) h':=λb u q=>by
 have j:∀c y,H c=some (.own y)->c≠x:=λc y r z=>by subst z;rw[r]at f;exact f
 have i:∀c xs,H c=some (.t xs)->c≠x:=λc xs r z=>by subst z;rw[r]at f;exact f
 by_cases a:b=x
 .subst a;rw[d2]at q;cases q;exact new
 .rw[c6 a]at q
  by_cases g:b=e
  .have l:H b=some (.own x):=by
    rcases he with z|z
    .exact absurd (g.trans z) a
    .rw[g];exact z
   rw[q]at l;cases l;obtain⟨v,m⟩:=n;exact⟨v,by rw[g];exact m⟩
  .refine(ok b u q).i7 (λc v d r=>k c v ?_ r) (λc r=>by rw[c6 (j c b r)];exact r) λc xs r=>by rw[c6 (i c xs r)];exact r
   rcases d with rfl|d
   .exact g
   .rintro rfl
    rcases he with z|z
    .exact j c b d z
    .rw[d]at z;cases z;exact a rfl
end
structure gS(fs ex:List Addr)(H H':ax)(h h':Heap):Prop where
 keep:∀b o,h.get? b=some o->H b=none->b∉fs->b∉ex->h'.get? b=some o
 slot:∀b o,h.get? b=some o->H b=none->b∈fs->b∉ex->∃a3,h'.get? b=some { o with slots:=a3 }
 free:∀b o,h.get? b=some o->H b=none->b∉ex->H' b=none
 there:∀b o,h.get? b=some o->b∉ex->∃dq,h'.get? b=some dq
 qO:∀b xs,H b=some (.t xs)->H' b=some (.t xs)
 oL:∀b o u,H b=some (.cL o u)->H' b=some (.cL o u)
 pD:∀b ps,H b=some (.gp ps)->∃more,H' b=some (.gp (ps++more))
section
variable{fs ex:List Addr}{H H1:ax}{h ae h':Heap}{a x e:Addr}{o:eY}
def gS.any(u:gS fs ex H H1 h ae)(q:h.get? b=some a')(n:H b=none)(d:b∉ex):∃a3,ae.get? b=some { a' with slots:=a3 }:=by
 by_cases c:b∈fs
 .exact u.slot b a' q n c d
 .exact⟨a'.slots,u.keep b a' q n c d⟩
def gS.kept(k:∀b u,h.get? b=some u->h'.get? b=some u):gS fs ex H H h h':=
 ⟨λb a' q _ _ _=>k b a' q,λb a' q _ _ _=>⟨a'.slots,k b a' q⟩,λ_ _ _ n _=>n,λb a' q _=>⟨a',k b a' q⟩,λ_ _ q=>q,λ_ _ _ q=>q,λ_ ps q=>⟨#[],by rw[q];simp⟩⟩
def gS.refl:gS fs ex H H h h:=gS.kept λ_ _ q=>q
def gS.laid(k:∀b u,h.get? b=some u->h'.get? b=some u)(d:h.objs.size<=a)(c:H a=none):gS fs ex H (upd H a o) h h' where
 keep:=λb u q _ _ _=>k b u q
 slot:=λb u q _ _ _=>⟨u.slots,k b u q⟩
 free:=λb u q n _=>by rw[c6 (amM (amP (amv q) d))];exact n
 there:=λb u q _=>⟨u,k b u q⟩
 qO:=λb xs q=>by rw[c6 (kY q c)];exact q
 oL:=λb u xs q=>by rw[c6 (kY q c)];exact q
 pD:=λb ps q=>⟨#[],by rw[c6 (kY q c),q];simp⟩
def gS.write(c:vy (H x))(he:e=x\/H e=some (.own x))(k:∀b u,b≠e->h.get? b=some u->h'.get? b=some u)(j:∃u,h'.get? e=some u):gS fs ex H (upd H x o) h h':=by
 have g:∀b,H b=none->b≠x:=λb n z=>by subst z;rw[n]at c;exact c
 have f:∀b,H b=none->b≠e:=λb n z=>by
  subst z;rcases he with r|r
  .exact g b n r
  .rw[n]at r;cases r
 have d:∀b u,H b=some u->¬vy (some u)->b≠x:=λb u q nm z=>by subst z;rw[q]at c;exact nm c
 refine⟨λb u q n _ _=>k b u (f b n) q,λb u q n _ _=>⟨u.slots,k b u (f b n) q⟩,λb u q n _=>by rw[c6 (g b n)];exact n,λb u q _=>?_,
  λb xs q=>by rw[c6 (d b _ q λz=>z)];exact q,λb u xs q=>by rw[c6 (d b _ q λz=>z)];exact q,λb ps q=>⟨#[],by rw[c6 (d b _ q λz=>z),q];simp⟩⟩
 by_cases i:b=e
 .subst i;exact j
 .exact⟨u,k b u i q⟩
end
def AW(h:Heap)(H:ax):List Addr:=(amJ h.objs.size).filter λa=>(H a).isSome
def oT(h:Heap)(H:ax):Heap:=W.hideAll h (AW h H)
def Y8(h:Heap)(H:ax):(oT h H).objs.size=h.objs.size:=W.hideAll_size _ _
def DQ{h:Heap}{H:ax}{o:Obj}(e:h.get? b=some o)(n:H b=none):(oT h H).get? b=some o:=
 W.hideAll_get _ e λa=>by
  have q:(H b).isSome=true:=(anB.mp a).2;rw[n]at q;simp at q
def ad1{h:Heap}{H:ax}{o:Obj}(e:(oT h H).get? b=some o):h.get? b=some o/\H b=none:=by
 have a:h.get? b=some o:=W.of_hideAll (AW h H) e;refine⟨a,?_⟩
 cases q:H b with
 |none=>rfl|some x=>
  have c:b∈AW h H:=anB.mpr ⟨am5.mpr (amv a),by simp[q]⟩;have z:(oT h H).get? b=none:=W.hideAll_none (AW h H) c;rw[z]at e;cases e
def SD(g h:Heap)(L:Addr):List (Addr×Obj):=(amJ h.objs.size).filterMap λa=>if a=L\/(g.get? a).isSome=true then none else(h.get? a).map λo=>(a,o)
def rest(g h:Heap)(L d:Addr):List (Addr×Obj):=(SD g h L).filter λp=>decide (p.1≠d)
structure Mod(K:aN)(mg:bf)(base:Heap):Prop where
 tX:K.In base
 glob:base.Ns amR mg
 blt:∃cJ,base.Ns aqb cJ/\∀x:Str,x≠"__name__"->cJ x=am1 x
 nolimit:base.NoLimit
structure aT where
 prog:amC
 w:World
 K:aN
 mg:Str->Option Value
 base:Heap
 A:amK
 N:List Str
 gY:amg
 H₀:ax
 env:Env
 outer:List Env
 stack:List Env
 ex:List Addr
 fn:Str->Bool
 calm:Bool
 n3:List (Addr×Obj)
 ej:Value->amg->Prop
abbrev p5(X:aT)(pl:Sem Bool)(o:Expr)(m:Str)(a:Pos)(b:List Expr)(pos:Pos):Prop:=eval (.Call (.Attribute o m a) b [] pos) X.env=(do
   let b6 <-eval o X.env
   standAt a.atName
   let(f,first) <-aoC [b6] (getMethod b6 m pl)
   callWith pos f first (aoD pos (am2 b X.env)) (aqj pos (apf [] X.env)))
abbrev gg(X:aT)(e:Expr)(a:List Expr):Prop:=am2 (e::a) X.env=(false,eval e X.env)::am2 a X.env
abbrev gT(X:aT)(p:Pos)(a:List Expr):Prop:=(aoD p (am2 a X.env)).any (·.1)=false
abbrev BQ(X:aT)(p:Pos)(e:Expr):Prop:=aoD p (am2 [e] X.env)=(false,eval e X.env)::aoD p (am2 [] X.env)
abbrev fV(x:Str):Prop:=(x==("__debug__":Str))=false
abbrev lB(X:aT)(e:Expr):Prop:=∀x,foldedSetIterable e X.env x=pure x
def mu(l:List Env):List Addr:=l.filterMap (·.frame)
abbrev aT.fs(X:aT):List Addr:=mu X.outer
def q_(a:Scope)(x:Str):Prop:=a.names.lookup x=some .local\/a.names.lookup x=some .cell\/a.names.lookup x=some .free
def Loc(a:Scope)(x:Str):Prop:=a.names.lookup x=some .local\/a.names.lookup x=some .cell
def Look(env:Env)(h:Heap)(m:bf)(x:Str)(u:Value):Prop:=
 (env.kindOf x=some .local/\m x=some u)\/((env.kindOf x=some .cell\/env.kindOf x=some .free)/\∃c,env.cells.lookup x=some c/\h.IsCell c (some u))
structure aT.Ok(X:aT):Prop where
 mod:Mod X.K X.mg X.base
 kind:X.env.scope.kind=.function
 glob:X.env.globals=amR
 blt:X.env.builtins=aqb
 above:X.gY.heap.objs.size<=X.env.locals
 inj:∀x y c,X.env.cells.lookup x=some c->X.env.cells.lookup y=some c->x=y
 has:∀x,(X.env.kindOf x=some .cell\/X.env.kindOf x=some .free)->∃c,X.env.cells.lookup x=some c
 vR:∀x c,X.fn x=true->X.env.cells.lookup x=some c->X.gY.heap.objs.size<=c
 hd:X.calm=true->X.A.handled=none
 frames:X.A.frames=some X.stack
 AI:X.stack=X.outer\/(X.stack=X.env::X.outer/\X.env.frame=some X.env.locals)
 yW:∀b∈X.ex,b≠X.env.locals/\∀x c,X.env.cells.lookup x=some c->c≠b
 bs:∀b o,X.base.get? b=some o->X.gY.heap.get? b=some o/\X.H₀ b=none
 ml:X.base.objs.size<=X.gY.heap.objs.size
 xl:∀b o,X.base.get? b=some o->b∉X.ex
 v3:∀b∈X.ex,b∉X.fs
 kF:X.gY.heap.FunFrames X.base X.outer
 qk:∀b∈X.fs,X.H₀ b=none
structure Inv(X:aT)(af:c4)(U:List (Option V))(H:ax)(s:amg):Prop where
 ok:X.Ok
 os:s.os=X.gY.os
 bare:aps s.gens
 base:gS X.fs X.ex X.H₀ H X.gY.heap s.heap
 loc:∃m,s.heap.Ns X.env.locals m/\∀(i:Nat)(x:Str)(v:V),X.N[i]? = some x->U[i]? = some (some v)->q_ X.env.scope x->∃u,RelV v u/\Look X.env s.heap m x u
 cell:∀x c,X.env.cells.lookup x=some c->∃v,s.heap.IsCell c v
 free:H X.env.locals=none
 mr:∀x c,X.env.cells.lookup x=some c->H c=none
 pin:∀p∈X.n3++af,s.heap.get? p.1=some p.2/\H p.1=none/\p.1≠X.env.locals/\p.1∉X.fs/\∀v,p.2.data≠.cell v
 ct:gs X.prog X.w H s.heap
 len:U.length=X.N.length
section
variable{X:aT}{af:c4}{U:List (Option V)}{H H':ax}{s:amg}{h':Heap}
def aT.Ok.adP(ok:X.Ok){o:Obj}(e:X.base.get? b=some o):b∉X.fs:=λa=>by
 have:=(ok.kF.mem a).1;rw[e]at this;cases this
def Inv.bs(I:Inv X af U H s):∀b o,X.base.get? b=some o->s.heap.get? b=some o/\H b=none:=λb o e=>
 ⟨I.base.keep b o (I.ok.bs b o e).1 (I.ok.bs b o e).2 (I.ok.adP e) (I.ok.xl b o e),I.base.free b o (I.ok.bs b o e).1 (I.ok.bs b o e).2 (I.ok.xl b o e)⟩
def Inv.bk(I:Inv X af U H s):∀b o,X.base.get? b=some o->s.heap.get? b=some o:=λb o e=>(I.bs b o e).1
def Inv.mod(I:Inv X af U H s):Mod X.K X.mg X.base:=I.ok.mod
def Inv.gj(I:Inv X af U H s):X.K.In s.heap:=I.ok.mod.tX.keeps I.bk
def Inv.fr(I:Inv X af U H s):∃m,Fr X.base X.env.locals s.heap m:=
 let⟨m,C,_⟩:=I.loc
 ⟨m,C,I.bk,amN I.ok.ml I.ok.above⟩
def Inv.lt(I:Inv X af U H s):X.env.locals<s.heap.objs.size:=let⟨_,C,_⟩:=I.loc;C.lt
def Inv.pz(I:Inv X af U H s):X.gY.heap.objs.size<=s.heap.objs.size:=amN I.ok.above (anM I.lt)
def Inv.adR(I:Inv X af U H s)(h:s.heap.objs.size<=a):a∉X.fs:=λc=>by
 obtain⟨_,o,b,_⟩:=I.ok.kF.mem c;exact absurd (amP (amv b) (amN I.pz h)) (am7 _)
def Inv.rp(I:Inv X af U H s):∀x c,X.env.cells.lookup x=some c->c≠X.env.locals:=λx c e z=>by
 obtain⟨v,o,a,hd⟩:=I.cell x c e;obtain⟨m,⟨g,f,bj,d,b,_⟩,_⟩:=I.loc;rw[z,d]at a;cases a;rw[b]at hd;cases hd
def Inv.kF(I:Inv X af U H s):s.heap.FunFrames X.base X.outer:=by
 have all:∀(l:List Env),(∀b∈mu l,b∈X.fs)->X.gY.heap.FunFrames X.base l->s.heap.FunFrames X.base l:=by
  intro l
  induction l with
  |nil=>intro _ _;trivial|cons env r i=>
   intro aw hl;obtain⟨j,⟨L,o,d,g,h,hd⟩,f⟩:=hl;have c:=aw L (by unfold mu;rw[apJ,d];exact amu);obtain⟨a3,e⟩:=I.base.slot L o h (I.ok.qk L c) c λz=>I.ok.v3 L z c
   exact⟨j,⟨L,_,d,g,e,hd⟩,i (λb a=>aw b (by unfold mu;rw[apJ,d];exact amr _ a)) f⟩
 exact all X.outer (λ_ a=>a) I.ok.kF
def Inv.stack(I:Inv X af U H s):s.heap.FunFrames X.base X.stack:=by
 rcases I.ok.AI with e|⟨e,hf⟩
 .rw[e];exact I.kF
 .rw[e]
  obtain⟨m,a,_⟩:=I.loc;refine .cons (by rw[I.ok.kind];decide) hf a ?_ I.kF;exact Heap.get?_none_of_le (amN I.ok.ml I.ok.above)
def Inv.Gm(I:Inv X af U H s):∀b∈mu X.stack,b∈X.env.locals::X.fs:=λb a=>by
 rcases I.ok.AI with e|⟨e,hf⟩
 .rw[e]at a;exact amr _ a
 .rw[e]at a
  unfold mu at a;rw[apJ,hf]at a;exact a
def Inv.QU(I:Inv X af U H s):∀b∈mu X.stack,H b=none:=λb a=>by
 rcases amw.mp (I.Gm b a)with e|a
 .rw[e];exact I.free
 .obtain⟨_,o,c,_⟩:=I.ok.kF.mem a
  exact I.base.free b o c (I.ok.qk b a) λz=>I.ok.v3 b z a
def Inv.step{g':Array GenState}{t':Nat}{d':Drawn}{ch:List Addr}(I:Inv X af U H s)
  (y:∀b∈ch,(b∈X.ex\/X.gY.heap.objs.size<=b)/\b≠X.env.locals/\(∀x c,X.env.cells.lookup x=some c->c≠b)/\∀p∈X.n3++af,p.1≠b)
  (keep:∀b o,b≠X.env.locals->b∉X.fs->b∉ch->s.heap.get? b=some o->H b=none->h'.get? b=some o)
  (slot:∀b o,b≠X.env.locals->b∈X.fs->b∉ch->s.heap.get? b=some o->H b=none->∃a3,h'.get? b=some { o with slots:=a3 }) (free:∀b o,b∉ch->s.heap.get? b=some o->H b=none->H' b=none)
  (there:∀b o,b∉ch->s.heap.get? b=some o->∃j,h'.get? b=some j)
  (qO:∀b xs,H b=some (.t xs)->H' b=some (.t xs)) (oL:∀b o u,H b=some (.cL o u)->H' b=some (.cL o u)) (pD:∀b ps,H b=some (.gp ps)->∃A,H' b=some (.gp (ps++A)))
  (ns:∀m,s.heap.Ns X.env.locals m->h'.Ns X.env.locals m) (ct:gs X.prog X.w H' h') (M:aps g') :
  Inv X af U H' { s with heap:=h',gens:=g',drawn:=d',toks:=t' }:=by
 have E:∀b o,X.gY.heap.get? b=some o->b≠X.env.locals:=λb o e=>amM (amP (amv e) I.ok.above)
 have D:∀b o,X.gY.heap.get? b=some o->b∉X.ex->b∉ch:=λb o e a g=>by
  rcases(y b g).1 with z|z
  .exact a z
  .exact absurd (amP (amv e) z) (am7 _)
 have f:∀x c,X.env.cells.lookup x=some c->∀v,s.heap.IsCell c v->h'.IsCell c v:=λx c e v N=>by
  obtain⟨o,h,hd⟩:=N;have B:=λz=>(y c z).2.2.1 x c e rfl
  by_cases G:c∈X.fs
  .obtain⟨a3,q⟩:=slot c o (I.rp x c e) G B h (I.mr x c e)
   exact⟨_,q,hd⟩
  .exact⟨o,keep c o (I.rp x c e) G B h (I.mr x c e),hd⟩
 refine⟨I.ok,I.os,M,⟨λb o e n g a=>?_,λb o e n g a=>?_,λb o e n a=>?_,λb o e a=>?_,λb xs e=>qO b xs (I.base.qO b xs e),λb o xs e=>oL b o xs (I.base.oL b o xs e),λb ps e=>?_⟩,?_,λx c e=>?_,?_,λx c e=>?_,λp F=>?_,ct,I.len⟩
 .exact keep b o (E b o e) g (D b o e a) (I.base.keep b o e n g a) (I.base.free b o e n a)
 .obtain⟨a3,ao⟩:=I.base.slot b o e n g a
  obtain⟨O,aA⟩:=slot b _ (E b o e) g (D b o e a) ao (I.base.free b o e n a);exact⟨O,aA⟩
 .obtain⟨j,ao⟩:=I.base.there b o e a
  exact free b j (D b o e a) ao (I.base.free b o e n a)
 .obtain⟨j,ao⟩:=I.base.there b o e a
  exact there b j (D b o e a) ao
 .obtain⟨P,ao⟩:=I.base.pD b ps e
  obtain⟨K,aA⟩:=pD b _ ao;exact⟨P++K,by rw[aA,Array.append_assoc]⟩
 .obtain⟨m,L,hl⟩:=I.loc
  refine⟨m,ns m L,λi x v ao aA bK=>?_⟩;obtain⟨u,r,l⟩:=hl i x v ao aA bK;refine⟨u,r,?_⟩;rcases l with l|⟨k,c,e,z⟩
  .exact .inl l
  .exact .inr ⟨k,c,e,f x c e _ z⟩
 .obtain⟨v,z⟩:=I.cell x c e
  exact⟨v,f x c e v z⟩
 .obtain⟨m,⟨o,_,_,h,_⟩,_⟩:=I.loc
  exact free _ o (λz=>(y _ z).2.1 rfl) h I.free
 .obtain⟨v,o,h,hd⟩:=I.cell x c e
  exact free c o (λz=>(y c z).2.2.1 x c e rfl) h (I.mr x c e)
 .obtain⟨e,n,ne,J,d⟩:=I.pin p F
  have B:=λz=>(y p.1 z).2.2.2 p F rfl
  exact⟨keep p.1 p.2 ne J B e n,free p.1 p.2 B e n,ne,J,d⟩
def Inv.un{t':Nat}(I:Inv X af U H s)(u:gS X.fs [] H H' s.heap h')(ct:gs X.prog X.w H' h'):Inv X af U H' { s with heap:=h',toks:=t' }:=by
 obtain⟨m,⟨o,k,bj,c,r⟩,_⟩:=id I.loc;obtain⟨a3,i⟩:=u.any c I.free (by simp);exact I.step (g':=s.gens) (d':=s.drawn) (ch:=[]) (λ_ z=>nomatch z) (λb o _ a _ e n=>u.keep b o e n a (by simp)) (λb o _ a _ e n=>u.slot b o e n a (by simp)) (λb o _ e n=>u.free b o e n (by simp)) (λb o _ e=>u.there b o e (by simp)) u.qO u.oL u.pD (λp j=>by
  obtain⟨l,g,f,d,h⟩:=j;rw[c]at d;cases d;exact⟨_,g,f,i,h⟩) ct I.bare
def Inv.call{g':Array GenState}{t':Nat}{d':Drawn}{ch:List Addr}(I:Inv X af U H s)(u:gS (mu X.stack) ch H H' s.heap h')(ct:gs X.prog X.w H' h')(k:aps g')
  (h:∀b∈ch,(b∈X.ex\/X.gY.heap.objs.size<=b)/\b≠X.env.locals/\(∀x c,X.env.cells.lookup x=some c->c≠b)/\∀p∈X.n3++af,p.1≠b) :
  Inv X af U H' { s with heap:=h',gens:=g',drawn:=d',toks:=t' }:=by
 obtain⟨m,⟨o,y,bj,f,r⟩,_⟩:=id I.loc;obtain⟨a3,d⟩:=u.any f I.free λz=>(h _ z).2.1 rfl
 exact I.step (ch:=ch) h (λb o d l a e n=>u.keep b o e n (λz=>(amw.mp (I.Gm b z)).elim d l) a) (λb o _ _ a e n=>u.any e n a) (λb o a e n=>u.free b o e n a) (λb o a e=>u.there b o e a) u.qO u.oL u.pD (λB t=>by
  obtain⟨A,j,i,g,q⟩:=t;rw[f]at g;cases g;exact⟨_,j,i,d,q⟩) ct k
def Inv.turned{t':Nat}{a:Addr}(I:Inv X af U H s)(k:∀b o,b≠a->s.heap.get? b=some o->h'.get? b=some o)(i:H a=none)(f:a≠X.env.locals)
  (t:a∈X.ex\/X.gY.heap.objs.size<=a) (w:∀x c,X.env.cells.lookup x=some c->c≠a) (y:∀p∈X.n3++af,p.1≠a):Inv X af U H { s with heap:=h',toks:=t' }:=by
 have g:∀b u,H b=some u->b≠a:=λb u e z=>by rw[z,i]at e;cases e
 refine I.step (ch:=[a]) (λb l=>?_) (λb o _ _ d e _=>k b o (λz=>d (by simp[z])) e) (λb o _ _ d e _=>⟨o.slots,k b o (λz=>d (by simp[z])) e⟩) (λ_ _ _ _ n=>n)
  (λb o d e=>⟨o,k b o (λz=>d (by simp[z])) e⟩) (λ_ _ e=>e) (λ_ _ _ e=>e) (λb ps e=>⟨#[],by rw[e];simp⟩) (λm A=>?_) (λb u e=>?_) I.bare
 .have e:b=a:=by simpa using l
  subst e;exact⟨t,f,w,y⟩
 .obtain⟨o,h,bj,j,r⟩:=A
  exact⟨o,h,bj,k _ o (an4 f) j,r⟩
 .refine(I.ct b u e).i7 (λc v d q=>k c v ?_ q) (λ_ q=>q) λ_ _ q=>q
  rcases d with z|z
  .rw[z];exact g b u e
  .exact g c _ z
def Inv.tok(I:Inv X af U H s)(t:Nat):Inv X af U H { s with toks:=t }:=I.un gS.refl I.ct
def Inv.kept{t':Nat}(I:Inv X af U H s)(k:∀b u,s.heap.get? b=some u->h'.get? b=some u):Inv X af U H { s with heap:=h',toks:=t' }:=I.un (gS.kept k) (I.ct.kept k)
def Inv.laid{o:eY}{t':Nat}(I:Inv X af U H s)(k:∀b u,s.heap.get? b=some u->h'.get? b=some u)(c:s.heap.objs.size<=a)(new:h_ X.prog X.w (upd H a o) h' a o) :
  Inv X af U (upd H a o) { s with heap:=h',toks:=t' }:=I.un (gS.laid k c (I.ct.fresh c)) (I.ct.laid k c new)
def Inv.write{x e:Addr}{o:eY}{t':Nat}(I:Inv X af U H s)(a:vy (H x))(he:e=x\/H e=some (.own x))(k:∀b u,b≠e->s.heap.get? b=some u->h'.get? b=some u)(c:∃u,h'.get? e=some u)
  (new:h_ X.prog X.w (upd H x o) h' x o):Inv X af U (upd H x o) { s with heap:=h',toks:=t' }:=I.un (gS.write a he k c) (I.ct.write a he k c new)
def Inv.weak{U':List (Option V)}(I:Inv X af U H s)(hl:U'.length=U.length)(w:∀(i:Nat) v,U'[i]? = some (some v)->U[i]? = some (some v)):Inv X af U' H s:=
 ⟨I.ok,I.os,I.bare,I.base,let⟨m,C,zi⟩:=I.loc;⟨m,C,λi x v ao aA bK=>zi i x v ao (w i v aA) bK⟩,I.cell,I.free,I.mr,I.pin,I.ct,hl.trans I.len⟩
def Inv.PS(I:Inv X af U H s)(h:∀p∈C,s.heap.get? p.1=some p.2/\H p.1=none/\p.1≠X.env.locals/\p.1∉X.fs/\∀v,p.2.data≠.cell v):Inv X C U H s:=
 ⟨I.ok,I.os,I.bare,I.base,I.loc,I.cell,I.free,I.mr,λp a=>(amF.mp a).elim (λz=>I.pin p (anb _ z)) (h p),I.ct,I.len⟩
def O8{N:List Str}(hN:N.Nodup){i j:Nat}{x:Str}(a:N[i]? = some x)(b:N[j]? = some x):i=j:=by
 obtain⟨c,ao⟩:=nu.mp a;obtain⟨d,aA⟩:=nu.mp b;exact(List.getElem_inj hN).mp (ao.trans aA.symm)
theorem QW{M:Model}{A:amK}{E:dv}{i:Nat}{x:Str}{v:V}{u:Value}{Q:Unit->amg->Prop}(I:Inv X af U H s)(hN:X.N.Nodup)(hi:X.N[i]? = some x)(l:Loc X.env.scope x)(r:RelV v u)
  (h:∀S,Inv X af (U.set i (some v)) H S->(∃a,ao1 a s.heap S.heap/\(a=X.env.locals\/X.env.cells.lookup x=some a))->Q () S) (hf:X.fn x=true\/X.env.scope.names.lookup x=some .local:=by first|exact .inl rfl|exact .inr rfl|assumption):wpAny M A (storeName X.env x u) Q E s:=by
 obtain⟨m,G,hl⟩:=id I.loc;have YK:(X.env.scope.kind==.class||(X.env.scope.kind==.module&&X.env.locals != X.env.globals))=false:=by rw[I.ok.kind];rfl
 have T:i<U.length:=by rw[I.len];exact(nu.mp hi).1
 have rp:=I.rp;have f:∀{a:Addr}{h':Heap},(∃o,s.heap.get? a=some o/\H a=none)->ao1 a s.heap h'->gs X.prog X.w H h':=λ{a h'} au aw b a' e=>by
  obtain⟨_,_,Z⟩:=au;refine(I.ct b a' e).i7 (λc D g q=>(aw.2 c ?_).trans q) (λ_ q=>q) λ_ _ q=>q
  rintro rfl;rcases g with rfl|g
  .rw[Z]at e;cases e
  .rw[Z]at g;cases g
 rcases l with C|C
 .refine wpAny_storeName_local C G (λh' DV aw=>?_) YK
  obtain⟨K,_,_,rP,_⟩:=id G;refine h _ ⟨I.ok,I.os,I.bare,⟨λb o e n t l=>?_,λb o e n t l=>?_,I.base.free,λb o e l=>?_,I.base.qO,I.base.oL,I.base.pD⟩,⟨_,DV,λj y P ao aA bK=>?_⟩,λy c e=>?_,I.free,I.mr,λp J=>?_,f ⟨K,rP,I.free⟩ aw,by simpa using I.len⟩ ⟨_,aw,.inl rfl⟩
  .exact(aw.2 b (amM (amP (amv e) I.ok.above))).trans (I.base.keep b o e n t l)
  .obtain⟨a3,ao⟩:=I.base.slot b o e n t l
   exact⟨a3,(aw.2 b (amM (amP (amv e) I.ok.above))).trans ao⟩
  .obtain⟨O,ao⟩:=I.base.there b o e l
   exact⟨O,(aw.2 b (amM (amP (amv e) I.ok.above))).trans ao⟩
  .by_cases B:j=i
   .subst B
    rw[hi]at ao;cases ao;rw[amx T]at aA;cases aA;exact⟨u,r,.inl ⟨C,by simp⟩⟩
   .rw[amk (an4 B)]at aA
    obtain⟨u',L,q⟩:=hl j y P ao aA bK;refine⟨u',L,?_⟩;rcases q with⟨k,e⟩|⟨k,c,e,z⟩
    .refine .inl ⟨k,?_⟩
     have:y≠x:=λe=>B (O8 hN ao (e▸hi))
     simp[this,e]
    .exact .inr ⟨k,c,e,z.sameBut aw (rp y c e)⟩
  .obtain⟨D,z⟩:=I.cell y c e
   exact⟨D,z.sameBut aw (rp y c e)⟩
  .obtain⟨e,n,ne,R,d⟩:=I.pin p J
   exact⟨(aw.2 p.1 ne).trans e,n,ne,R,d⟩
 .have F:X.fn x=true:=by
   rcases hf with z|z
   .exact z
   .rw[z]at C;cases C
  obtain⟨c,g⟩:=I.ok.has x (.inl C);obtain⟨D,z⟩:=I.cell x c g;refine wpAny_storeName_cell I.ok.kind C g z (λh' Y aw=>?_);obtain⟨dK,zm,Zl⟩:=id z;refine h { s with heap:=h' } ⟨I.ok,I.os,I.bare,⟨λb o e n t l=>?_,λb o e n t l=>?_,I.base.free,λb o e l=>?_,I.base.qO,I.base.oL,I.base.pD⟩,⟨m,G.sameBut aw (an4 (rp x c g)),λj y P ao aA bK=>?_⟩,λy c' e=>?_,I.free,I.mr,λp J=>?_,f ⟨dK,zm,I.mr x c g⟩ aw,by simpa using I.len⟩ ⟨c,aw,.inr g⟩
  .exact(aw.2 b (amM (amP (amv e) (I.ok.vR x c F g)))).trans (I.base.keep b o e n t l)
  .obtain⟨a3,ao⟩:=I.base.slot b o e n t l
   exact⟨a3,(aw.2 b (amM (amP (amv e) (I.ok.vR x c F g)))).trans ao⟩
  .obtain⟨O,ao⟩:=I.base.there b o e l
   exact⟨O,(aw.2 b (amM (amP (amv e) (I.ok.vR x c F g)))).trans ao⟩
  .by_cases B:j=i
   .subst B
    rw[hi]at ao;cases ao;rw[amx T]at aA;cases aA;exact⟨u,r,.inr ⟨.inl C,c,g,Y⟩⟩
   .rw[amk (an4 B)]at aA
    obtain⟨u',L,q⟩:=hl j y P ao aA bK;refine⟨u',L,?_⟩;rcases q with q|⟨k,c',e,l3⟩
    .exact .inl q
    .refine .inr ⟨k,c',e,l3.sameBut aw ?_⟩
     rintro rfl;exact B (O8 hN ao (I.ok.inj _ _ _ e g▸hi))
  .by_cases W:c'=c
   .subst W;exact⟨_,Y⟩
   .obtain⟨jj,dF⟩:=I.cell y c' e
    exact⟨jj,dF.sameBut aw W⟩
  .obtain⟨e,n,ne,R,d⟩:=I.pin p J
   refine⟨(aw.2 p.1 ?_).trans e,n,ne,R,d⟩;intro q;rw[q,zm]at e;exact d D (by rw[<-(amH e)];exact Zl)
def QV{M:Model}{A:amK}{E:dv}{i:Nat}{x:Str}{v:V}{u:Value}{Q:Unit->amg->Prop}(I:Inv X af U H s)(hN:X.N.Nodup)(hi:X.N[i]? = some x)(b:Loc X.env.scope x)(r:RelV v u)
  (h:∀a,Inv X af (U.set i (some v)) H a->Q () a) (d:X.fn x=true\/X.env.scope.names.lookup x=some .local:=by first|exact .inl rfl|exact .inr rfl|assumption):wpAny M A (storeName X.env x u) Q E s:=
 QW I hN hi b r (λa c _=>h a c) d
theorem Inv.Uz{a:amg}{ch:List Addr}(I:Inv X af U H s)(e:a.os=s.os)(u:gS (mu X.stack) ch H H' s.heap a.heap)(ct:gs X.prog X.w H' a.heap)(d:aps a.gens)
  (f:∀b∈ch,(b∈X.ex\/X.gY.heap.objs.size<=b)/\b≠X.env.locals/\(∀x c,X.env.cells.lookup x=some c->c≠b)/\∀p∈X.n3++af,p.1≠b):Inv X af U H' a:=by
 obtain⟨h',g',d',t',g⟩:=a;subst e;exact I.call u ct d f
end
abbrev gu:=Value->Option Addr->ax->Prop
abbrev St:=List (Option V)
abbrev cY:=V->ax->Prop
abbrev TE:=St->ax->cY->Prop
abbrev TT:=St->ax->(Bool->ax->Prop)->Prop
abbrev gf:=St->ax->(List V->ax->Prop)->Prop
structure Ends where
 bt:St->ax->Prop
 cx:cY
 bk:St->ax->Prop:=λ_ _=>False
 cF:St->ax->Prop:=λ_ _=>False
abbrev gR:=Ends->St->ax->Prop
def i9(X:aT)(b:c4)(U:St)(Q:cY)(u:Value)(c:amg):Prop:=∃v a,Inv X b U a c/\RelV v u/\Q v a
def BJ(X:aT)(c:c4)(U:St)(Q:Bool->ax->Prop)(b:Bool)(d:amg):Prop:=∃a,Inv X c U a d/\Q b a
def R0(X:aT)(b:c4)(U:St)(Q:List V->ax->Prop)(us:List Value)(c:amg):Prop:=∃vs a,Inv X b U a c/\Vals vs us/\Q vs a
def vD(X:aT)(b:c4)(D:Ends)(f:Flow)(c:amg):Prop:=
 match f with
 |.next=>∃U' a,Inv X b U' a c/\D.bt U' a|.brk=>∃U' a,Inv X b U' a c/\D.bk U' a|.cont=>∃U' a,Inv X b U' a c/\D.cF U' a|.ret u=>∃v U' a,Inv X b U' a c/\RelV v u/\D.cx v a
def b3(X:aT)(e:Expr)(t:TE):Prop:=
 ∀(a:c4)(s:amg)(U:St)(H:ax)(Q:cY),Inv X a U H s->t U H Q->wpAny (model X.prog X.w) X.A (eval e X.env) (i9 X a U Q) X.ej s
def iO(X:aT)(e:Expr)(t:TT):Prop:=
 ∀(a:c4)(s:amg)(U:St)(H:ax)(Q:Bool->ax->Prop),Inv X a U H s->t U H Q->wpAny (model X.prog X.w) X.A (isTrue e X.env (eval e X.env)) (BJ X a U Q) X.ej s
def mc(X:aT)(e:Expr)(t:TT):Prop:=
 ∀(a:Sem Value)(b:c4)(s:amg)(U:St)(H:ax)(Q:Bool->ax->Prop),Inv X b U H s->t U H Q->wpAny (model X.prog X.w) X.A (isTrue e X.env a) (BJ X b U Q) X.ej s
def mc.pt(h:mc X e t):iO X e t:=h _
def ho(X:aT)(b:List Expr)(t:gf):Prop:=
 ∀(pos:Pos)(a:c4)(s:amg)(U:St)(H:ax)(Q:List V->ax->Prop),Inv X a U H s->t U H Q->wpAny (model X.prog X.w) X.A (spliced (aoD pos (am2 b X.env))) (R0 X a U Q) X.ej s
def iN(X:aT)(st:Stmt)(t:gR):Prop:=
 ∀(a:c4)(s:amg)(U:St)(H:ax)(D:Ends),Inv X a U H s->t D U H->wpAny (model X.prog X.w) X.A (exec st X.env) (vD X a D) X.ej s
def iB(X:aT)(st:List Stmt)(t:gR):Prop:=
 ∀(a:c4)(s:amg)(U:St)(H:ax)(D:Ends),Inv X a U H s->t D U H->wpAny (model X.prog X.w) X.A (execs st X.env) (vD X a D) X.ej s
def cc{α:Type}{t:Sem α}{Q b:α->amg->Prop}{M:Model}{A:amK}{E:dv}{s:amg}(h:wpAny M A t Q E s)(c:∀a s,Q a s->b a s):wpAny M A t b E s:=anc h c λ_ _ x=>x
section
variable{X:aT}
def ahp(i:Nat):TE:=λU H Q=>∃v,U[i]? = some (some v)/\Q v H
def pB(v:V):TE:=λ_ H Q=>Q v H
def Ar(hN:X.N[i]? = some x)(d:q_ X.env.scope x)(hd:fV x:=by decide)(f:(x==("__classdict__":Str))=false:=by decide):b3 X (.Name x pos) (ahp i):=by
 intro b s U H Q I h;obtain⟨v,e,h⟩:=h;obtain⟨m,a,hl⟩:=I.loc;obtain⟨u,r,l⟩:=hl i x v hN e d;have fin:i9 X b U Q u s:=⟨v,H,I,r,h⟩;rcases l with⟨C,hm⟩|⟨C,c,hc,MU⟩
 .exact wpAny_Name (wpAny_loadName_local I.ok.kind C a hm fin) hd
 .rcases C with C|C
  .exact wpAny_Name (wpAny_loadName_cell I.ok.kind C hc MU fin) hd
  .exact wpAny_Name (wpAny_loadName_free I.ok.kind C hc MU fin f) hd
def ae4{i j pos}:b3 X (.Constant (.int i) j pos) (pB (.int i)):=λ_ _ _ H _ I h=>wpAny_Constant_int ⟨.int i,H,I.tok _,⟨_,rfl⟩,h⟩
def aeR{b j pos}:b3 X (.Constant (.bool b) j pos) (pB (.ay b)):=λ_ _ _ H _ I h=>Constant_bool ⟨.ay b,H,I,rfl,h⟩
def afc{j pos}:b3 X (.Constant .none j pos) (pB .aP):=λ_ _ _ H _ I h=>Constant_none ⟨.aP,H,I,rfl,h⟩
def afg{x j pos}:b3 X (.Constant (.str x) j pos) (pB (.str x)):=λ_ _ _ H _ I h=>Calls.Constant_str ⟨.str x,H,I.tok _,⟨_,rfl⟩,h⟩
def eW(X:aT)(x:Str):Prop:=X.env.kindOf x=some .globalImplicit
def tY{E:dv}{b:c4}{s:amg}{U:St}{H:ax}{x:Str}{u:Value}{pos:Pos}{Q:dv}(I:Inv X b U H s)(a:eW X x)(c:X.mg x=some u)(h:Q u s)
  (hd:fV x:=by decide):wpAny (model X.prog X.w) X.A (eval (.Name x pos) X.env) Q E s:=
 ap0 I.ok.kind a (Calls.loadGlobal_global (by rw[I.ok.glob];exact I.mod.glob.keeps I.bk) c h) hd
def qu{E:dv}{d:c4}{s:amg}{U:St}{H:ax}{x:Str}{u:Value}{pos:Pos}{Q:dv}(I:Inv X d U H s)(b:eW X x)(g:X.mg x=none)(f:am1 x=some u)(h:Q u s)
  (a:x≠"__name__":=by decide) (hd:fV x:=by decide):wpAny (model X.prog X.w) X.A (eval (.Name x pos) X.env) Q E s:=by
 obtain⟨i,c,e⟩:=I.mod.blt;exact ap0 I.ok.kind b (Calls.loadGlobal_builtin (by rw[I.ok.glob];exact I.mod.glob.keeps I.bk) g (by rw[I.ok.blt];exact c.keeps I.bk) ((e x a).trans f) h) hd
def ae3{v:V}(a:eW X x)(b:X.mg x=some u)(r:RelV v u)(hd:fV x:=by decide):b3 X (.Name x pos) (pB v):=
 λ_ _ _ H _ I h=>tY I a b ⟨v,H,I,r,h⟩ hd
def xw{v:V}(b:eW X x)(d:X.mg x=none)(c:am1 x=some u)(r:RelV v u)(a:x≠"__name__":=by decide)(hd:fV x:=by decide):b3 X (.Name x pos) (pB v):=
 λ_ _ _ H _ I h=>qu I b d c ⟨v,H,I,r,h⟩ a hd
variable{a b:Expr}{cg cE:TE}{pos:Pos}
def ag3(t:TE):TT:=λU H Q=>t U H λx d=>∃c,x=.ay c/\Q c d
def afL{e:Expr}(h:b3 X e t)(he:∀c,isTrue e X.env c=(do let v <-c;standAt e.pos;aoC [v] (truthy v)):=by intro _;rfl):iO X e (ag3 t):=by
 intro g s U H Q I hw;refine isTrue_plain (cc (h g s U H _ I hw) λv k ⟨x,f,j,i,bE⟩=>?_) (he _);obtain⟨d,rfl,q⟩:=bE;cases i;exact anm ⟨f,j,q⟩
variable{n7 AK:TT}{rest:List Expr}
def ag1(t u:TT):TT:=λU H Q=>t U H λc d=>if c=true then u U d Q else Q false d
def ahh(t u:TT):TT:=λU H Q=>t U H λc d=>if c=true then Q true d else u U d Q
def ahf(t:TT):TT:=λU H Q=>t U H λc d=>Q (!c) d
def afP(f:iO X a n7):mc X (.BoolOp .And [a] pos) n7:=by
 intro i d s U H Q I h;refine isTrue_and (cc (f d s U H Q I h) λc g e=>?_)
 cases c with
 |true=>exact isTrue_and_nil e|false=>exact e
def afR(f:iO X a n7):mc X (.BoolOp .Or [a] pos) n7:=by
 intro i d s U H Q I h;refine isTrue_or (cc (f d s U H Q I h) λc g e=>?_)
 cases c with
 |false=>exact isTrue_or_nil e|true=>exact e
def afO(j:iO X a n7)(i:mc X (.BoolOp .And (b::rest) pos) AK):mc X (.BoolOp .And (a::b::rest) pos) (ag1 n7 AK):=by
 intro l e s U H Q I h;refine isTrue_and (cc (j e s U H _ I h) λc k g=>?_);obtain⟨d,f,bE⟩:=g
 cases c with
 |true=>exact i l e k U d Q f bE|false=>exact⟨d,f,bE⟩
def afQ(j:iO X a n7)(i:mc X (.BoolOp .Or (b::rest) pos) AK):mc X (.BoolOp .Or (a::b::rest) pos) (ahh n7 AK):=by
 intro l e s U H Q I h;refine isTrue_or (cc (j e s U H _ I h) λc k g=>?_);obtain⟨d,f,bE⟩:=g
 cases c with
 |true=>exact⟨d,f,bE⟩|false=>exact i l e k U d Q f bE
def afK(f:iO X a n7):iO X (.UnaryOp .Not a pos) (ahf n7):=by
 intro e s U H Q I h;exact isTrue_not (f e s U H (λc d=>Q (!c) d) I h)
def ag2(cg cE:TE):TE:=λU H Q=>cg U H λx d=>∃c,x=.ay c/\if c=true then cE U d Q else Q (.ay false) d
def ahi(cg cE:TE):TE:=λU H Q=>cg U H λx d=>∃c,x=.ay c/\if c=true then Q (.ay true) d else cE U d Q
def ahg(cg:TE):TE:=λU H Q=>cg U H λx d=>∃c,x=.ay c/\Q (.ay (!c)) d
def afe{op}(h:b3 X a t):b3 X (.BoolOp op [a] pos) t:=λc s U H Q I hw=>BoolOp_one (h c s U H Q I hw)
def aeQ(j:b3 X a cg)(i:b3 X (.BoolOp .And (b::rest) pos) cE):b3 X (.BoolOp .And (a::b::rest) pos) (ag2 cg cE):=by
 intro e s U H Q I h;refine BoolOp_and (cc (j e s U H _ I h) λv l g=>?_);obtain⟨x,d,f,k,bE⟩:=g;obtain⟨c,rfl,bE⟩:=bE;cases k;refine anm ?_
 cases c with
 |true=>exact i e l U d Q f bE|false=>exact⟨.ay false,d,f,rfl,bE⟩
def aff(j:b3 X a cg)(i:b3 X (.BoolOp .Or (b::rest) pos) cE):b3 X (.BoolOp .Or (a::b::rest) pos) (ahi cg cE):=by
 intro e s U H Q I h;refine BoolOp_or (cc (j e s U H _ I h) λv l g=>?_);obtain⟨x,d,f,k,bE⟩:=g;obtain⟨c,rfl,bE⟩:=bE;cases k;refine anm ?_
 cases c with
 |false=>exact i e l U d Q f bE|true=>exact⟨.ay true,d,f,rfl,bE⟩
def afd(g:b3 X a cg):b3 X (.UnaryOp .Not a pos) (ahg cg):=by
 intro f s U H Q I h;refine UnaryOp_ (cc (g f s U H _ I h) λv k e=>?_);obtain⟨x,d,j,i,bE⟩:=e;obtain⟨c,rfl,bE⟩:=bE;cases i;exact not_of (anm ⟨.ay (!c),d,j,rfl,bE⟩)
end
def du(K:aN)(H:ax)(a:Addr)(xs:List V):Prop:=
 hK H a (.l xs)\/
  ∃(o:Obj)(b:Array Value)(n:Nat),K.lookup a=some o/\o.cls=.type "list"/\o.dict=none/\o.data=.seq b n/\b.size<=ami/\Vals xs b.toList
def dC(K:aN)(H:ax)(a:Addr)(xs:List V):Prop:=
 hK H a (.t xs)\/
  ∃(o:Obj)(b:Array Value)(n:Nat),K.lookup a=some o/\o.cls=.type "tuple"/\o.data=.seq b n/\b.size<=ami/\Vals xs b.toList
noncomputable def Su:Value->Option V
 |.none=>some .aP|.bool b=>some (.ay b)|.int i _=>some (.int i)|.str x _=>some (.str x)|.bytes b _=>some (.yC b)|.float b _=>some (.yZ b)|.ref a=>some (.ref a)|.type n=>some (.ty n)|_=>none
def RelV.abs(r:RelV x u):Su u=some x:=by
 cases x with
 |aP=>cases r;rfl
 |ay _=>cases r;rfl
 |int _=>obtain⟨t,rfl⟩:=r;rfl
 |str _=>obtain⟨t,rfl⟩:=r;rfl
 |yC _=>obtain⟨t,rfl⟩:=r;rfl
 |yZ _=>obtain⟨t,rfl⟩:=r;rfl
 |ref _=>cases r;rfl
 |ty _=>cases r;rfl
def RelV.inj(r:RelV x u)(q:RelV y u):x=y:=amH (r.abs.symm.trans q.abs)
theorem Vals.inj:∀{xs a:List V}{us:List Value},Vals xs us->Vals a us->xs=a
 |_,_,_,.nil,.nil=>rfl| _,_,_,.cons r t,.cons C t'=>by rw[r.inj C,Vals.inj t t']
section
variable{X:aT}{af:c4}{U:St}{H:ax}{s:amg}{a:Addr}{xs ys:List V}
def du.of{K:aN}(h:H a=some (.l xs)):du K H a xs:=.inl (.inl h)
def dC.of{K:aN}(h:H a=some (.t xs)):dC K H a xs:=.inl (.inl h)
def Inv.list(I:Inv X af U H s)(h:du X.K H a xs):∃b:List Value,Vals xs b/\PlainL s.heap a b.toArray/\xs.length<=ami:=by
 rcases h with h|⟨o,b,n,C,hc,hd,aw,hz,r⟩
 .obtain⟨z,b,n,r,e⟩:=h.ok I.ct
  exact⟨b,r,⟨_,n,e,rfl,rfl,rfl⟩,z⟩
 .refine⟨b.toList,r,⟨o,n,I.gj a o C,hc,hd,by simpa using aw⟩,?_⟩
  have e:=r.length;simp only[am0]at e;omega
def Inv.tuple(I:Inv X af U H s)(h:dC X.K H a xs):∃b:List Value,Vals xs b/\IsTup s.heap a b.toArray/\xs.length<=ami:=by
 rcases h with h|⟨o,b,n,C,hc,aw,hz,r⟩
 .obtain⟨z,b,r,p⟩:=h.ok I.ct
  exact⟨b,r,p,z⟩
 .refine⟨b.toList,r,⟨o,I.gj a o C,hc,n,by simpa using aw⟩,?_⟩
  have e:=r.length;simp only[am0]at e;omega
def Inv.Ov(I:Inv X af U H s)(h:du X.K H a xs)(h':du X.K H a ys):xs=ys:=by
 obtain⟨b,r,⟨o,n,e,_,_,d⟩,_⟩:=I.list h;obtain⟨its',f,⟨g,i,c,_,_,d'⟩,_⟩:=I.list h';rw[e]at c;cases c;rw[d]at d';injection d' with C _
 have:b=its':=by simpa using congrArg aqX C
 subst this;exact r.inj f
def Inv.Q_(I:Inv X af U H s)(h:dC X.K H a xs)(h':dC X.K H a ys):xs=ys:=by
 obtain⟨b,r,⟨o,e,_,n,d⟩,_⟩:=I.tuple h;obtain⟨its',f,⟨g,c,_,i,d'⟩,_⟩:=I.tuple h';rw[e]at c;cases c;rw[d]at d';injection d' with C _
 have:b=its':=by simpa using congrArg aqX C
 subst this;exact r.inj f
end
abbrev aT.m3(X:aT)(E:dv):aT:={ X with ej:=E }
abbrev aT.gW(X:aT):aT:=X.m3 λ_ _=>False
def aT.Ok.m3{X:aT}(ok:X.Ok)(E:dv):(X.m3 E).Ok:=
 ⟨ok.mod,ok.kind,ok.glob,ok.blt,ok.above,ok.inj,ok.has,ok.vR,ok.hd,ok.frames,ok.AI,ok.yW,ok.bs,ok.ml,ok.xl,ok.v3,ok.kF,ok.qk⟩
def aT.Ok.pG{X:aT}(ok:(X.m3 E).Ok):X.Ok:=
 ⟨ok.mod,ok.kind,ok.glob,ok.blt,ok.above,ok.inj,ok.has,ok.vR,ok.hd,ok.frames,ok.AI,ok.yW,ok.bs,ok.ml,ok.xl,ok.v3,ok.kF,ok.qk⟩
section
variable{X:aT}{af:c4}{U:St}{H:ax}{s:amg}{E:dv}
def Inv.m3(I:Inv X af U H s)(E:dv):Inv (X.m3 E) af U H s:=⟨I.ok.m3 E,I.os,I.bare,I.base,I.loc,I.cell,I.free,I.mr,I.pin,I.ct,I.len⟩
def Inv.pG(I:Inv (X.m3 E) af U H s):Inv X af U H s:=⟨I.ok.pG,I.os,I.bare,I.base,I.loc,I.cell,I.free,I.mr,I.pin,I.ct,I.len⟩
def vD.pG{D:Ends}(h:vD (X.m3 E) af D f s'):vD X af D f s':=by
 cases f with
 |next=>obtain⟨U',a,I,q⟩:=h;exact⟨U',a,I.pG,q⟩
 |brk=>obtain⟨U',a,I,q⟩:=h;exact⟨U',a,I.pG,q⟩
 |cont=>obtain⟨U',a,I,q⟩:=h;exact⟨U',a,I.pG,q⟩
 |ret u=>obtain⟨v,U',a,I,r,q⟩:=h;exact⟨v,U',a,I.pG,r,q⟩
theorem b3.gW(h:b3 X.gW e t):b3 X e t:=λaf s U H Q I hw=>
 anc (h af s U H Q (I.m3 _) hw) (λ_ _ ⟨v,a,b,r,q⟩=>⟨v,a,b.pG,r,q⟩) λ_ _ z=>amV z
theorem iB.gW{st:List Stmt}{t:gR}(h:iB X.gW st t):iB X st t:=λaf s U H D I hw=>
 anc (h af s U H D (I.m3 _) hw) (λ_ _ q=>q.pG) λ_ _ z=>amV z
end
section
variable{X:aT}{st:Stmt}{rest:List Stmt}{t u:gR}{e:Expr}{te:TE}{pos:Pos}
def ahd:gR:=λD U H=>D.bt U H
def ahl(t u:gR):gR:=λD U H=>t { D with bt:=u D } U H
def afE:iB X [] ahd:=λ_ _ U H _ I h=>apx ⟨U,H,I,h⟩
def PX(c:iN X st t)(d:iB X rest u):iB X (st::rest) (ahl t u):=by
 intro a s U H D I h;refine wpAny_execs_cons (cc (c a s U H { D with bt:=u D } I h) λf i q=>?_)
 cases f with
 |next=>
  obtain⟨U',b,g,q⟩:=q;exact d a i U' b D g q
 |ret v=>exact q|brk=>exact q|cont=>exact q
def PY(a:iN X st t):iB X [st] t:=by
 intro b s U H D I h;refine wpAny_execs_cons (cc (a b s U H D I h) λf c q=>?_)
 cases f with
 |next=>exact apx q
 |ret v=>exact q|brk=>exact q|cont=>exact q
def Inv.quiet{s:amg}(I:Inv X C U H s):interactive X.env=false:=by simp[interactive,I.ok.kind]
def ag7(te:TE):gR:=λD U H=>te U H λ_ a=>D.bt U a
def FQ(he:b3 X e te)(aw:anU e none pos.line X.env=pure false:=by rfl):iN X (.Expr e pos) (ag7 te):=by
 intro b s U H D I h;exact wpAny_Expr_any (cc (he b s U H _ I h) λv f ⟨x,a,c,d,bE⟩=>⟨U,a,c,bE⟩) I.quiet aw
def ahk(te:TE):gR:=λD U H=>te U H D.cx
def FR(he:b3 X e te):iN X (.Return (some e) pos) (ahk te):=by
 intro b s U H D I h;exact wpAny_Return_some (cc (he b s U H _ I h) λv f ⟨x,a,d,c,bE⟩=>⟨x,U,a,d,c,bE⟩)
def ag9(c:TT)(t u:gR):gR:=λD U H=>c U H λb a=>if b=true then t D U a else u D U a
def PV(n:iO X c C)(m:iB X a t)(l:iB X b u):iN X (.If c a b pos) (ag9 C t u):=by
 intro f s U H D I h;refine wpAny_If (cc (n f s U H _ I h) λd j k=>?_);obtain⟨g,i,bE⟩:=k
 cases d with
 |true=>exact m f j U g D i bE|false=>exact l f j U g D i bE
def ahc:gR:=λ_ _ _=>False
def afD:iN X st ahc:=λ_ _ _ _ _ _ h=>h.elim
end
abbrev iP:=V->St->ax->(St->ax->Prop)->Prop
abbrev p2:=List V->St->ax->(St->ax->Prop)->Prop
def oo(X:aT)(a:Expr)(t:iP):Prop:=
 ∀(c:c4)(s:amg)(U:St)(H:ax)(v:V)(u:Value)(Q:St->ax->Prop),Inv X c U H s->RelV v u->t v U H Q->
  wpAny (model X.prog X.w) X.A (ao2 a X.env u) (λ_ d=>∃U' b,Inv X c U' b d/\Q U' b) X.ej s
def q8(X:aT)(ts:List Expr)(t:p2):Prop:=
 ∀(b:c4)(s:amg)(U:St)(H:ax)(vs:List V)(us:List Value)(Q:St->ax->Prop),Inv X b U H s->Vals vs us->t vs U H Q->
  wpAny (model X.prog X.w) X.A (assignInOrder ((anu ts X.env).map (·.2)) us) (λ_ c=>∃U' a,Inv X b U' a c/\Q U' a) X.ej s
abbrev BK:=V->V->V->ax->(ax->Prop)->Prop
def BF(X:aT)(t:BK):Prop:=
 ∀(b:c4)(s:amg)(U:St)(H:ax)(o i v:V)(b6 c u:Value)(Q:ax->Prop),Inv X b U H s->RelV o b6->RelV i c->RelV v u->t o i v H Q->
  wpAny (model X.prog X.w) X.A (setItem b6 c u) (λ_ d=>∃a,Inv X b U a d/\Q a) X.ej s
section
variable{X:aT}{pos:Pos}
def mw(i:Nat):iP:=λv U H Q=>Q (U.set i (some v)) H
def uO(hN:X.N.Nodup)(hi:X.N[i]? = some x)(a:Loc X.env.scope x)(c:X.fn x=true\/X.env.scope.names.lookup x=some .local:=by first|exact .inl rfl|exact .inr rfl|assumption):oo X (.Name x pos) (mw i):=by
 intro d s U H v u Q I r h;exact wpAny_assign_Name (QV I hN hi a r (λe b=>⟨_,H,b,h⟩) c)
def Mq:p2:=λvs U H Q=>vs=[]/\Q U H
def Mo(t:iP)(u:p2):p2:=λvs U H Q=>∃v r,vs=v::r/\t v U H λU' a=>u r U' a Q
def afp:q8 X [] Mq:=by
 intro a s U H vs us Q I r h;obtain⟨e,h⟩:=h;subst e;exact assignInOrder_nil ⟨U,H,I,h⟩
def afn{e:Expr}{a:List Expr}{t:iP}{u:p2}(g:oo X e t)(i:q8 X a u)
  (aw:(anu (e::a) X.env).map (·.2)=ao2 e X.env::(anu a X.env).map (·.2):=by rfl):q8 X (e::a) (Mo t u):=by
 intro c s U H vs us Q I r h;refine a4 λb=>?_
 obtain⟨v,n,ao,h⟩:=h;subst ao
 cases r with
 |cons r j=>
  refine b ?_;rw[aw];refine assignInOrder_cons (cc (g c s U H _ _ _ I r h) λ_ m f=>?_);refine a4 λb=>?_
  obtain⟨l,d,k,bE⟩:=f;exact b (i c m l d _ _ Q k j bE)
def Dp(K:aN)(n:Nat)(t:p2):iP:=λv U H Q=>∃a xs,v=.ref a/\dC K H a xs/\xs.length=n/\t xs U H Q
def afm{c:List Expr}{k:Nat}{t:p2}{n:Nat}(p:X.calm=true)(h:q8 X c t)
  (f:(anu c X.env).length=n:=by rfl) (m:(anu c X.env).findIdx? (·.1)=none:=by rfl):oo X (.Tuple c k pos) (Dp X.K n t):=by
 intro i s U H v u Q I r hw;obtain⟨a,xs,ao,g,hl,hw⟩:=hw;subst ao;cases r;obtain⟨q,d,l,hz⟩:=I.tuple g;refine assign_Tuple_tuple (I.ok.hd p) l (by simp[f,<-hl,d.length]) m λh' j=>?_
 exact h i _ U H xs _ Q (I.kept (t':=s.toks) λb o e=>j b o (amM (amv e)) e) d hw
def Wb(to a:TE)(t:BK):iP:=λv U H Q=>to U H λo b=>a U b λi c=>t o i v c λd=>Q U d
def PM{o i:Expr}{to e:TE}{t:BK}(j:b3 X o to)(hi:b3 X i e)(aw:BF X t)
  (k:∀v,ao2 (.Subscript o i pos) X.env v=(do
   let b6 <-aoC [v] (eval o X.env)
   let c <-aoC [v,b6] (eval i X.env)
   standAt pos
   aoC [v,b6,c] (setItem b6 c v)
   release [v,b6,c] []):=by intro _;rfl):oo X (.Subscript o i pos) (Wb to e t):=by
 intro d s U H v u Q I r h;rw[k];refine mN (anG (cc (j d s U H _ I h) λb6 A a=>?_));refine a4 λb=>?_
 obtain⟨x,f,n,m,bE⟩:=a;refine b ?_;refine mN (anG (cc (hi d A U f _ n bE) λc s2 a=>?_));refine a4 λb=>?_
 obtain⟨y,g,q,l,bZ⟩:=a;refine b ?_;refine mN (ap1 (mN (anG (cc (aw d s2 U g x y v b6 c u _ q m l r bZ) λ_ s3 a=>?_))));refine a4 λb=>?_
 obtain⟨p,w,z⟩:=a;exact b (wpAny_release ⟨U,p,w,z⟩)
def u2(b:TE)(g:iP):gR:=λD U H=>b U H λx a=>g x U a D.bt
def PT{cA e:Expr}{b:TE}{g:iP}(he:b3 X e b)(d:oo X cA g)(aw:swapsWithSole [cA] e pos.line X.env=pure false:=by rfl)(hw:swappedStores [cA] e X.env=pure none:=by rfl)
  (f:(anu [cA] X.env).map (·.2)=[ao2 cA X.env]:=by rfl):iN X (.Assign [cA] e pos) (u2 b g):=by
 intro a s U H D I h;refine wpAny_Assign_stores (cc (he a s U H _ I h) λv k ⟨x,c,j,i,bE⟩=>?_) aw hw;rw[f];exact cc (d a k U c x v _ j i bE) λ_ s2 q=>q
def FT(hN:X.N.Nodup)(hi:X.N[i]? = some x)(c:Loc X.env.scope x)(he:b3 X e te)(aw:anU e (some (.Name x pos')) pos.line X.env=pure false:=by rfl)(j:X.fn x=true\/X.env.scope.names.lookup x=some .local:=by first|exact .inl rfl|exact .inr rfl|assumption) :
  iN X (.Assign [.Name x pos'] e pos) (u2 te (mw i)):=by
 intro b s U H D I h;refine wpAny_Assign_Name (cc (he b s U H _ I h) λv k ⟨y,a,f,d,bE⟩=>?_) aw;exact QV f hN hi c d (λs2 g=>⟨_,a,g,bE⟩) j
end
section
variable{X:aT}{pos:Pos}
noncomputable def Gs(c:TT)(cE:gR):gR:=λD U H=>∃W:Nat->St->ax->Prop,(∃m,W m U H)/\∀m U H,W m U H->
 c U H λb d=>if b=true then ∃N:St->ax->Prop,(∀U' a,N U' a->∃e,e<m/\W e U' a)/\cE { D with bt:=N,cF:=N,bk:=D.bt } U d else D.bt U d
def PW(u:apR (model X.prog X.w) X.A X.env X.ej)(E:iO X c C)(z:iB X body cE):iN X (.While c body [] pos) (Gs C cE):=by
 intro j s U H D I h;refine a4 λa=>?_
 obtain⟨W,⟨G,L⟩,turn⟩:=h;refine a ?_;refine wpAny_While (codeAny_whileLoop (λn J=>∃U' q,Inv X j U' q J/\W n U' q) ?_ G ⟨U,H,I,L⟩);rintro n K ⟨i,r,B,F⟩;refine aoc u (cc (E j K i r _ B (turn n i r F)) λb s2 y=>?_);refine a4 λa=>?_
 obtain⟨t,x,bZ⟩:=y
 cases b with
 |true=>
  obtain⟨N,hN,bZ⟩:=bZ;refine a ?_;rw[if_pos rfl];refine aoc u (cc (z j s2 i t _ x bZ) λf s3 g=>?_);refine a4 λa=>?_
  cases f with
  |next=>
   obtain⟨e,d,k,o⟩:=g;obtain⟨l,m,p⟩:=hN e d o;exact a ⟨l,m,e,d,k,p⟩
  |cont=>
   obtain⟨e,d,k,o⟩:=g;obtain⟨l,m,p⟩:=hN e d o;exact a ⟨l,m,e,d,k,p⟩
  |brk=>exact a (g)|ret v=>exact a (g)
 |false=>
  refine a ?_;rw[if_neg amm];exact apx ⟨i,t,x,bZ⟩
end
structure iy where
 go:Nat->ax->Prop
 pO:Nat->ax->V->ax->Prop
 stop:Nat->ax->Prop
def hk(X:aT)(a:c4)(H:ax)(b:Addr):Prop:=
 H b=none/\b≠X.env.locals/\b∉X.fs/\(b∈X.ex\/X.gY.heap.objs.size<=b)/\(∀x c,X.env.cells.lookup x=some c->c≠b)/\∀p∈X.n3++a,p.1≠b
def Inv.rC{H d:ax}{s:amg}(I:Inv X C U H s)(a:s.heap.objs.size<=b)(f:d b=none):hk X C d b:=by
 refine⟨f,Nat.ne_of_gt (amP I.lt a),I.adR a,.inr (amN I.pz a),λx c e z=>?_,λp g z=>?_⟩
 .obtain⟨v,q⟩:=I.cell x c e
  exact absurd (amP q.lt (by rw[z];exact a)) (am7 _)
 .exact absurd (amP (amv (I.pin p g).1) (by rw[z];exact a)) (am7 _)
structure Turn(P:amC)(w:World)(K:aN)(cA:Expr)(cw:iy)(bc:List Addr)(it:Addr)(dN:Nat->Heap->Prop):Prop where
 mem:it∈bc
 obj:∀i h,dN i h->∀b∈bc,∃o,h.get? b=some o/\∀v,o.data≠.cell v
 keep:∀i h h',dN i h->(∀b∈bc,∀o,h.get? b=some o->h'.get? b=some o)->dN i h'
 item:∀(X:aT),X.prog=P->X.w=w->X.K=K->X.calm=true->∀(i:Nat)(af:c4)(s:amg)(U:St)(H:ax)(E:dv),Inv X af U H s->(∀b∈bc,hk X af H b)->dN i s.heap->cw.go i H->
  wpAny (model P w) X.A (pyNext (.ref it)) (λr s1=>∃u,r=some u/\
   wpAny (model P w) X.A (apy cA (.ref it) u) (λ_ s2=>∃x H',Inv X af U H' s2/\RelV x u/\cw.pO i H x H'/\dN (i+1) s2.heap/\∀b∈bc,H' b=none) E s1) E s
 done:∀(X:aT),X.prog=P->X.w=w->X.K=K->X.calm=true->∀(i:Nat)(af:c4)(s:amg)(U:St)(H:ax)(E:dv),Inv X af U H s->(∀b∈bc,hk X af H b)->dN i s.heap->cw.stop i H->
  wpAny (model P w) X.A (pyNext (.ref it)) (λr s1=>r=none/\Inv X af U H s1) E s
 self:∀(A:amK)(i:Nat)(s:amg)(Q:dv)(E:dv),dN i s.heap->Q (.ref it) s->wpAny (model P w) A (pyIter (.ref it)) Q E s
abbrev TI:=St->ax->(iy->ax->Prop)->Prop
def Hk(X:aT)(c:c4)(U:St)(cA:Expr)(R:iy->ax->Prop)(g:Value)(s2:amg):Prop:=
 ∃(f:Addr)(d:List Addr)(dN:Nat->Heap->Prop)(e:iy)(a:ax),g=.ref f/\Inv X c U a s2/\Turn X.prog X.w X.K cA e d f dN/\dN 0 s2.heap/\(∀b∈d,hk X c a b)/\R e a
def kx(X:aT)(cA a:Expr)(wi:TI):Prop:=
 ∀(b:c4)(s:amg)(U:St)(H:ax)(R:iy->ax->Prop),Inv X b U H s->wi U H R->
  wpAny (model X.prog X.w) X.A (eval a X.env) (λv c=>wpAny (model X.prog X.w) X.A (pyIter v) (Hk X b U cA R) X.ej c) X.ej s
def wc{M:Model}{A:amK}{E:dv}{s:amg}{cA:Expr}{a:Addr}{u:Value}{o:Obj}{n:String}{vs:Array Value}{Q:Unit->amg->Prop}(d:s.heap.get? a=some o)(e:o.cls=.type n)(hd:o.data=.fields vs)
    (c:["enumerate","zip","dict_itemiterator","dict_reverseitemiterator","odict_iterator","itertools.zip_longest","itertools.pairwise"].contains n=false) (b:Q () s):wpAny M A (apy cA (.ref a) u) Q E s:=by
  unfold apy;cases cA<;>(cases u<;>first
        |exact aml b
        | (refine mN (wpAny_load d ?_)
           rw[e,hd];show wpAny M A (if(["enumerate","zip","dict_itemiterator","dict_reverseitemiterator","odict_iterator","itertools.zip_longest","itertools.pairwise"].contains n&&vs[0]? == some (aoN _))=true then _ else _) Q E s;rw[if_neg (by intro h;rw[c,Bool.false_and]at h;cases h)];exact aml b))
def l_(K:aN)(a:Addr):iy:=
 ⟨λi H=>∃xs x,du K H a xs/\xs[i]? = some x,λi H x b=>b=H/\∀xs,du K H a xs->xs[i]? = some x,λi H=>∃xs,du K H a xs/\xs.length<=i⟩
def sR(K:aN)(a:Addr):iy:=
 ⟨λi H=>∃xs x,dC K H a xs/\xs[i]? = some x,λi H x b=>b=H/\∀xs,dC K H a xs->xs[i]? = some x,λi H=>∃xs,dC K H a xs/\xs.length<=i⟩
def pW(lo:Int)(n:Nat):iy:=⟨λi _=>i<n,λi H x a=>a=H/\x=.int (lo+i),λi _=>n<=i⟩
def ahN{P:amC}{w:World}{K:aN}{cA:Expr}(a j:Addr):Turn P w K cA (l_ K a) [j] j (λi h=>h.IsListIter j a i) where
 mem:=by simp
 obj:=λi h st b f=>by
  have e:b=j:=by simpa using f
  subst e;refine a4 λg=>?_
  obtain⟨o,e,c,d⟩:=st;exact g ⟨o,e,λv z=>by rw[d]at z;cases z⟩
 keep:=λi h h' st k=>st.at λo e=>k j (by simp) o e
 item:=by
  intro X t hw G N i L s U H E I m st n;subst t hw G;refine a4 λg=>?_
  obtain⟨xs,x,l,q⟩:=n;obtain⟨J,r,p,hz⟩:=I.list l;obtain⟨u,S,T⟩:=r.get q;obtain⟨y,A,V,F,B,D⟩:=m j (by simp);refine g ?_;refine wpAny_pyNext_list_item st p.isList (x:=u) (by simpa using S) λh' M W=>?_
  have Q:Inv X L U H { s with heap:=h' }:=I.turned (t':=s.toks) (λb o f e=>(W.2 b f).trans e) y A F B D;refine a4 λg=>?_
  obtain⟨o,e,c,d⟩:=id M;exact g ⟨u,rfl,wc (s:={ s with heap:=h' }) e c d (by decide) ⟨x,H,Q,T,⟨rfl,λY O=>by rw[I.Ov O l];exact q⟩,M,λb f=>(m b f).1⟩⟩
 done:=by
  intro X t hw G N i L s U H E I m st n;subst t hw G;refine a4 λg=>?_
  obtain⟨xs,l,q⟩:=n;obtain⟨J,r,p,hz⟩:=I.list l;obtain⟨y,A,V,F,B,D⟩:=m j (by simp);have hl:=r.length;exact g (wpAny_pyNext_list_end (I.ok.hd N) st p.isList (by simp;omega) λh' R=>⟨rfl,I.turned (t':=s.toks) (λb o f e=>R b o f e) y A F B D⟩)
 self:=λ_ _ _ _ _ st h=>wpAny_pyIter_listiter st h
def ahP{P:amC}{w:World}{K:aN}{cA:Expr}(a j:Addr):Turn P w K cA (sR K a) [j] j (λi h=>h.IsTupleIter j a i) where
 mem:=by simp
 obj:=λi h st b f=>by
  have e:b=j:=by simpa using f
  subst e;refine a4 λg=>?_
  obtain⟨o,e,c,d⟩:=st;exact g ⟨o,e,λv z=>by rw[d]at z;cases z⟩
 keep:=λi h h' st k=>st.at λo e=>k j (by simp) o e
 item:=by
  intro X y hw J N i L s U H E I n st q;subst y hw J;refine a4 λg=>?_
  obtain⟨xs,x,m,r⟩:=q;obtain⟨l,t,p,hz⟩:=I.tuple m;obtain⟨u,S,T⟩:=t.get r;obtain⟨A,B,V,G,D,F⟩:=n j (by simp);refine g ?_;refine wpAny_pyNext_tuple_item st (show s.heap.IsTuple a l.toArray from p) (x:=u) (by simpa using S) λh' M W=>?_
  have Q:Inv X L U H { s with heap:=h' }:=I.turned (t':=s.toks) (λb o f e=>(W.2 b f).trans e) A B G D F;refine a4 λg=>?_
  obtain⟨o,e,c,d⟩:=id M;exact g ⟨u,rfl,wc (s:={ s with heap:=h' }) e c d (by decide) ⟨x,H,Q,T,⟨rfl,λY O=>by rw[I.Q_ O m];exact r⟩,M,λb f=>(n b f).1⟩⟩
 done:=by
  intro X y hw J N i L s U H E I n st q;subst y hw J;refine a4 λg=>?_
  obtain⟨xs,m,r⟩:=q;obtain⟨l,t,p,hz⟩:=I.tuple m;obtain⟨A,B,V,G,D,F⟩:=n j (by simp);have hl:=t.length;exact g (wpAny_pyNext_tuple_end (I.ok.hd N) st (show s.heap.IsTuple a l.toArray from p) (by simp;omega) λh' R=>⟨rfl,I.turned (t':=s.toks) (λb o f e=>R b o f e) A B G D F⟩)
 self:=λ_ _ _ _ _ st h=>wpAny_pyIter_tupleiter st h
def ahO{P:amC}{w:World}{K:aN}{cA:Expr}(a:Addr)(lo:Int)(n:Nat):Turn P w K cA (pW lo n) [a] a (λi h=>IsRangeIter h a (lo+(i:Nat)*1) ((n:Int)-(i:Nat)) 1) where
 mem:=by simp
 obj:=λi h st b c=>by
  have e:b=a:=by simpa using c
  subst e;exact⟨_,st,λv z=>by
   cases z⟩
 keep:=λi h h' st k=>k a (by simp) _ st
 item:=by
  intro X y hw A r i u s U H E I d st f;subst y hw A;refine a4 λg=>?_
  obtain⟨j,l,G,q,m,p⟩:=d a (by simp);refine g ?_;refine(Walks.range (w:=X.w) (I.ok.hd r) a lo 1 n).item i s _ _ f st λv h' tk B x J=>?_
  obtain⟨t,rfl⟩:=B;have D:Inv X u U H { s with heap:=h',toks:=tk }:=I.turned (λb o c e=>J b o (by simpa using c) e) j l q m p;refine⟨_,rfl,wc x rfl rfl (by decide) ⟨.int (lo+i),H,D,⟨t,?_⟩,⟨rfl,rfl⟩,x,λb c=>(d b c).1⟩⟩;rw[Int.mul_one]
 done:=by
  intro X y hw A r i u s U H E I d st f;refine a4 λg=>?_
  obtain⟨j,l,G,q,m,p⟩:=d a (by simp);exact g (wpAny_pyNext_range_end (I.ok.hd r) st (by have:n<=i:=f;omega) λh' F=>⟨rfl,I.turned (λb o c e=>F b o c e) j l q m p⟩)
 self:=λ_ _ _ _ _ st h=>wpAny_pyIter_rangeiter st h
section
variable{X:aT}{cA:Expr}
def ZR(K:aN)(fO:TE):TI:=λU H R=>fO U H λx b=>∃a,x=.ref a/\(∃xs,du K b a xs)/\R (l_ K a) b
def ZS(K:aN)(fO:TE):TI:=λU H R=>fO U H λx b=>∃a,x=.ref a/\(∃xs,dC K b a xs)/\R (sR K a) b
def FP(hl:b3 X l fO):kx X cA l (ZR X.K fO):=by
 intro k s U H R I h;refine cc (hl k s U H _ I h) λv d g=>?_
 obtain⟨x,f,c,m,bE⟩:=g;obtain⟨a,e,⟨xs,i⟩,q⟩:=bE;subst e;cases m;obtain⟨n,r,p,hz⟩:=c.list i;refine aof p.isList<|⟨d.heap.objs.size,[d.heap.objs.size],_,_,f,rfl,c.kept λb o e=>B1 _ e,ahN a _,⟨_,amq _ rfl,rfl,rfl⟩,λb j=>?_,q⟩
 have e:b=d.heap.objs.size:=by simpa using j
 subst e;exact c.rC (amj _) (c.ct.fresh (amj _))
def PR(hl:b3 X l fO):kx X cA l (ZS X.K fO):=by
 intro m s U H R I h;refine cc (hl m s U H _ I h) λv d i=>?_
 obtain⟨x,g,c,n,bE⟩:=i;obtain⟨a,e,⟨xs,j⟩,q⟩:=bE;subst e;cases n;obtain⟨f,r,p,hz⟩:=c.tuple j;refine aos (show d.heap.IsTuple a f.toArray from p)<|⟨d.heap.objs.size,[d.heap.objs.size],_,_,g,rfl,c.kept λb o e=>B1 _ e,ahP a _,⟨_,amq _ rfl,rfl,rfl⟩,λb k=>?_,q⟩
 have e:b=d.heap.objs.size:=by simpa using k
 subst e;exact c.rC (amj _) (c.ct.fresh (amj _))
def af2{a:c4}{U:St}{H:ax}{s:amg}{R:iy->ax->Prop}{E:dv}{lo hi:Int}{t u v:Tok}{tk:Nat}(I:Inv X a U H s)(f:-(2 ^ 62)<=lo)(g:lo<2 ^ 62)(h:-(2 ^ 62)<=hi)(i:hi<2 ^ 62)
  (q:R (pW lo (hi-lo).toNat) H):wpAny (model X.prog X.w) X.A (pyIter (.ref s.heap.objs.size)) (Hk X a U cA R) E { s with heap:=s.heap.push { cls:=.type "range",data:=.fields #[.int lo t,.int hi u,.int 1 v] },toks:=tk }:=by
 refine wpAny_pyIter_range (IsRange.new ..) (small_one f g h i) ?_;have c:Inv X a U H { s with heap:=s.heap.push { cls:=.type "range",data:=.fields #[.int lo t,.int hi u,.int 1 v] },toks:=tk }:=I.kept λb o e=>B1 _ e
 refine⟨(s.heap.push { cls:=.type "range",data:=.fields #[.int lo t,.int hi u,.int 1 v] }).objs.size,[(s.heap.push { cls:=.type "range",data:=.fields #[.int lo t,.int hi u,.int 1 v] }).objs.size],_,_,H,rfl,
  c.kept λb o e=>B1 _ e,ahO _ lo (hi-lo).toNat,?_,λb d=>?_,q⟩
 .have ao:lo+((0:Nat):Int)*1=lo:=by simp
  have aA:(((hi-lo).toNat:Nat):Int)-((0:Nat):Int)=Builtin.Range.rangeSize lo hi 1:=by rw[rangeSize_one];split<;>omega
  rw[ao,aA];exact amq _ rfl
 .have e:b=(s.heap.push { cls:=.type "range",data:=.fields #[.int lo t,.int hi u,.int 1 v] }).objs.size:=by simpa using d
  subst e;exact c.rC (amj _) (c.ct.fresh (amj _))
def Ed(b:gf):TI:=λU H R=>b U H λvs a=>∃j:Int,vs=[.int j]/\-(2 ^ 62)<=j/\j<2 ^ 62/\R (pW 0 j.toNat) a
def PQ(b:eW X "range")(k:X.mg "range"=none)(d:ho X [a] C)(aw:am2 [a] X.env=[(false,eval a X.env)]:=by rfl):kx X cA (.Call (.Name "range" p) [a] [] pos) (Ed C):=by
 intro c s U H R I h;refine Call_ (qu I b k boot_range (anK (cc (d pos c s U H _ I h) λus m ⟨vs,l,i,g,bE⟩=>?_) aw rfl));obtain⟨j,e,bE,bZ,q⟩:=bE;subst e
 cases g with
 |cons r f=>
  cases f;obtain⟨t,rfl⟩:=r;exact call_range_1 (af2 i (by omega) (by omega) bE bZ (by simpa using q))
noncomputable def xQ(wi:TI)(g:iP)(cE:gR):gR:=λD U H=>wi U H λb d=>∃W:Nat->Nat->St->ax->Prop,(∃m,W 0 m U d)/\∀i m U H,W i m U H->
 (b.stop i H/\D.bt U H)\/(b.go i H/\∃N:St->ax->Prop,(∀U' a,N U' a->∃c,c<m/\W (i+1) c U' a)/\∀x a,b.pO i H x a->g x U a λf e=>cE { D with bt:=N,cF:=N,bk:=D.bt } f e)
def uP(a:List Addr)(h:Heap):List (Addr×Obj):=a.filterMap λb=>(h.get? b).map λo=>(b,o)
def z5{h:Heap}{o:Obj}(a:b∈C)(e:h.get? b=some o):(b,o)∈uP C h:=List.mem_filterMap.mpr ⟨b,a,by rw[e];rfl⟩
def ad2{h:Heap}(a:p∈uP C h):p.1∈C/\h.get? p.1=some p.2:=by
 obtain⟨b,c,e⟩:=List.mem_filterMap.mp a
 cases q:h.get? b with
 |none=>rw[q]at e;cases e
 |some o=>
  rw[q]at e;have d:=amH e;subst d;exact⟨c,q⟩
def Inv.pinned{s:amg}(I:Inv X C U H s)(l:∀b∈bc,hk X C H b)(g:∀b∈bc,∃o,s.heap.get? b=some o/\∀v,o.data≠.cell v):Inv X (C++uP bc s.heap) U H s:=
 I.PS λp f=>(amF.mp f).elim (λz=>I.pin p (amZ _ z)) λz=>by
  refine a4 λh=>?_
  obtain⟨a,e⟩:=ad2 z;obtain⟨i,j,k,_⟩:=l p.1 a;obtain⟨o,c,d⟩:=g p.1 a;rw[e]at c;cases c;exact h ⟨e,i,j,k,d⟩
def Inv.xY{s:amg}(I:Inv X (C++pl) U H s):Inv X C U H s:=I.PS λp a=>I.pin p (amZ _ (anb _ a))
def PU{k:Expr}{body:List Stmt}{wi:TI}{g:iP}{cE:gR}{pos:Pos}(E:apR (model X.prog X.w) X.A X.env X.ej)(hc:X.calm=true)(hi:kx X cA k wi)(aM:oo X cA g)(c:iB X body cE)
  (aw:lB X k:=by intro _;rfl):iN X (.For cA k body [] pos) (xQ wi g cE):=by
 intro B s U H D I h;refine wpAny_For (cc (hi B s U H _ I h) λv s1 ae=>cc ae λzw s2 ag=>?_) aw;refine a4 λa=>?_
 obtain⟨it,F,dN,cw,aK,e,ck,T,bQ,Z,W,⟨m0,x1⟩,turn⟩:=ag;subst e;have R:∀{t:ax},(∀b∈F,t b=none)->∀b∈F,hk X B t b:=λaF b c=>⟨aF b c,(Z b c).2⟩
 refine a ?_;refine codeAny_forLoop_any (λn s'=>∃i U' t,Inv X B U' t s'/\dN i s'.heap/\(∀b∈F,t b=none)/\W i n U' t) ?_ m0 ⟨0,U,aK,ck,bQ,λb c=>(Z b c).1,x1⟩;rintro n s3 ⟨i,G,K,Y,C,V,x2⟩;refine a4 λa=>?_
 rcases turn i n G K x2 with⟨stop,k4⟩|⟨go,N,hN,step⟩
 .refine a ?_
  refine aoc E (cc (T.done X rfl rfl rfl hc i B s3 G K X.ej Y (R V) C stop) λr s4 z=>?_);obtain⟨L,oh⟩:=z;subst L;exact apx ⟨G,K,oh,k4⟩
 .refine a ?_
  refine aoc E (cc (T.item X rfl rfl rfl hc i B s3 G K X.ej Y (R V) C go) λr s4 z=>?_);refine a4 λa=>?_
  obtain⟨u,L,bX⟩:=z;subst L;refine a ?_;refine aoc E (cc bX λ_ s5 z=>?_);refine a4 λa=>?_
  obtain⟨x,ko,sP,F2,Bh,S,y2⟩:=z;refine a ?_;refine aoc E (cc (aM _ s5 G ko x u _ (sP.pinned (R y2) (T.obj _ _ S)) F2 (step x ko Bh)) λ_ s6 z=>?_);refine a4 λa=>?_
  obtain⟨P,Sa,vt,uR⟩:=z;refine a ?_;refine aoc E (cc (c _ s6 P Sa _ vt uR) λf Q y=>?_);have j:∀{q:St}{l:ax},Inv X (B++uP F s5.heap) q l Q->N q l->∃m,m<n/\∃i U' t,Inv X B U' t Q/\dN i Q.heap/\(∀b∈F,t b=none)/\W i m U' t:=λ{q l} p J=>by
   refine a4 λa=>?_
   obtain⟨fm,hm,M⟩:=hN q l J;refine a ⟨fm,hm,i+1,q,l,p.xY,T.keep _ _ _ S λb c o e=>(p.pin (b,o) (amZ _ (amZ _ (z5 c e)))).1,λb c=>?_,M⟩;refine a4 λa=>?_
   obtain⟨o,e,d⟩:=T.obj _ _ S b c;exact a ((p.pin (b,o) (amZ _ (amZ _ (z5 c e)))).2.1)
  refine a4 λa=>?_
  cases f with
  |next=>refine a ?_;obtain⟨q,l,p,J⟩:=y;exact j p J
  |cont=>refine a ?_;obtain⟨q,l,p,J⟩:=y;exact j p J
  |brk=>refine a ?_;obtain⟨q,l,p,y⟩:=y;exact⟨q,l,p.xY,y⟩
  |ret v=>refine a ?_;obtain⟨O,q,l,p,F3,y⟩:=y;exact⟨O,q,l,p.xY,F3,y⟩
end
abbrev ff:=V->V->ax->cY->Prop
def dX(X:aT)(f:Value->Value->Sem Value)(r:ff):Prop:=
 ∀(a:c4)(s:amg)(U:St)(H:ax)(x y:V)(v u:Value)(Q:cY),Inv X a U H s->RelV x v->RelV y u->r x y H Q->
  wpAny (model X.prog X.w) X.A (f v u) (i9 X a U Q) X.ej s
def jT(X:aT)(f:Value)(r:List V->ax->cY->Prop):Prop:=
 ∀(a:c4)(s:amg)(U:St)(H:ax)(xs:List V)(us:List Value)(Q:cY),Inv X a U H s->Vals xs us->r xs H Q->
  wpAny (model X.prog X.w) X.A (call f us) (i9 X a U Q) X.ej s
def sC(r:ff)(c cE:TE):TE:=λU H Q=>c U H λx a=>cE U a λy b=>r x y b Q
def ke(C:Int->Int->Prop)(g:Int->Int->V):ff:=λx y H Q=>∃i j,x=.int i/\y=.int j/\C i j/\Q (g i j) H
def h4(g:Int->Int->V):ff:=λx y H Q=>∃i j,x=.int i/\y=.int j/\Q (g i j) H
section
variable{X:aT}{a b:Expr}{cg cE:TE}{pos:Pos}
def Ct(j:b3 X a cg)(i:b3 X b cE){d:c4}{s:amg}{U:St}{H:ax}{R:V->V->ax->Prop}(I:Inv X d U H s)
  (h:cg U H λx e=>cE U e λy c=>R x y c) {Q:dv}{f:Value->Value->Sem Value}
  (p:∀v u s2 x y c,Inv X d U c s2->RelV x v->RelV y u->R x y c->wpAny (model X.prog X.w) X.A (f v u) Q X.ej s2) :
  wpAny (model X.prog X.w) X.A (eval a X.env) (λv o=>wpAny (model X.prog X.w) X.A (eval b X.env) (λu q=>wpAny (model X.prog X.w) X.A (f v u) Q X.ej q) X.ej o) X.ej s:=by
 refine cc (j d s U H _ I h) λv r g=>?_
 obtain⟨x,e,m,l,bE⟩:=g;refine cc (i d r U e _ m bE) λu s2 g=>?_
 obtain⟨y,c,n,k,bZ⟩:=g;exact p v u s2 x y c n l k bZ
def PK{op:Operator}{r:ff}(e:dX X (an0 op) r)(i:b3 X a cg)(f:b3 X b cE):b3 X (.BinOp a op b pos) (sC r cg cE):=by
 intro g s U H Q I h;exact wpAny_BinOp (Ct i f I h λv u s2 x y d k c j q=>e g s2 U d x y v u Q k c j q)
def uK{f:Value->Value->Sem Value}{C:Int->Int->Prop}{g:Int->Int->Int}
  (c:∀(i j:Int)(t u:Tok)(s:amg)(Q:dv)(E:dv),C i j->Q (.int (g i j) s.toks) { s with toks:=s.toks+1 }->wpAny (model X.prog X.w) X.A (f (.int i t) (.int j u)) Q E s) :
  dX X f (ke C λi j=>.int (g i j)):=by
 intro l s U H x y v u Q I d e h;obtain⟨i,j,rfl,rfl,k,q⟩:=h;obtain⟨t,rfl⟩:=d;obtain⟨t',rfl⟩:=e;exact c i j t t' s _ _ k ⟨.int (g i j),H,I.tok _,⟨_,rfl⟩,q⟩
def Ao{f:Value->Value->Sem Value}{g:Int->Int->Int}
  (c:∀(i j:Int)(t u:Tok)(s:amg)(Q:dv)(E:dv),Q (.int (g i j) s.toks) { s with toks:=s.toks+1 }->wpAny (model X.prog X.w) X.A (f (.int i t) (.int j u)) Q E s) :
  dX X f (h4 λi j=>.int (g i j)):=by
 intro k s U H x y v u Q I d e h;obtain⟨i,j,rfl,rfl,q⟩:=h;obtain⟨t,rfl⟩:=d;obtain⟨t',rfl⟩:=e;exact c i j t t' s _ _ ⟨.int (g i j),H,I.tok _,⟨_,rfl⟩,q⟩
def An{f:Value->Value->Sem Value}{g:Int->Int->Bool}
  (c:∀(i j:Int)(t u:Tok)(s:amg)(Q:dv)(E:dv),Q (.bool (g i j)) s->wpAny (model X.prog X.w) X.A (f (.int i t) (.int j u)) Q E s) :
  dX X f (h4 λi j=>.ay (g i j)):=by
 intro k s U H x y v u Q I d e h;obtain⟨i,j,rfl,rfl,q⟩:=h;obtain⟨t,rfl⟩:=d;obtain⟨t',rfl⟩:=e;exact c i j t t' s _ _ ⟨.ay (g i j),H,I,rfl,q⟩
def x9(i j:Int):Prop:=0<=j/\j<=1000000/\i.natAbs<2 ^ 64
def x8(i j:Int):Prop:=(-(2 ^ 64)<i/\i<2 ^ 64)\/(-(2 ^ 64)<j/\j<2 ^ 64)
def x8.ok{i j:Int}(h:x8 i j):IntMulOk i j:=by
 rcases h with⟨C,I⟩|⟨C,I⟩
 .exact .of_left (intBits_le_64 C I)
 .exact .of_right (intBits_le_64 C I)
def ahR(k:Nat):(0:Int)<=2 ^ k:=Int.natCast_nonneg _
def Pl:dX X (an0 .Add) (h4 λi j=>.int (i+j)):=Ao λ_ _ _ _ _ _ _ q=>add_int q
def aef:dX X (an0 .Sub) (h4 λi j=>.int (i-j)):=Ao λ_ _ _ _ _ _ _ q=>sub_int q
def ad9:dX X (an0 .Mod) (ke (λ_ j=>0<j) λi j=>.int (i % j)):=uK λi j _ _ _ _ _ c q=>by
 exact mod_int' (by omega) (by rw[Int.fmod_eq_emod_of_nonneg i (by omega)];exact q)
def aec:dX X (an0 .Pow) (ke x9 λi j=>.int (i ^ j.toNat)):=uK λ_ _ _ _ _ _ _ c q=>pow_int_small c.1 c.2.1 c.2.2 q
def aed:dX X (an0 .LShift) (ke x9 λi j=>.int (i*2 ^ j.toNat)):=uK λ_ _ _ _ _ _ _ c q=>lshift_int_small c.1 c.2.1 c.2.2 q
def aee:dX X (an0 .RShift) (ke (λ_ j=>0<=j) λi j=>.int (i / 2 ^ j.toNat)):=uK λi j _ _ _ _ _ c q=>
 rshift_int c (by rw[ap2 i (ahR _)];exact q)
def ad5:dX X (an0 .BitAnd) (h4 λi j=>.int (anH i j)):=Ao λ_ _ _ _ _ _ _ q=>and_int q
def aeb:dX X (an0 .BitOr) (h4 λi j=>.int (apm i j)):=Ao λ_ _ _ _ _ _ _ q=>or_int q
end
section
variable{X:aT}{a b c:Expr}{cg cE n8:TE}{pos:Pos}
def De{s:amg}{Q:cY}(I:Inv X C U H s)(q:Q (.ay k) H)(e:k=gB):i9 X C U Q (.bool gB) s:=by
 subst e;exact⟨.ay k,H,I,rfl,q⟩
def FE:dX X (amW .Lt) (h4 λi j=>.ay (decide (i<j))):=An λ_ _ _ _ _ _ _ q=>lt_int q
def sl:dX X (amW .LtE) (h4 λi j=>.ay (decide (i<=j))):=An λ_ _ _ _ _ _ _ q=>le_int q
def ad7:dX X (amW .Gt) (h4 λi j=>.ay (decide (j<i))):=An λ_ _ _ _ _ _ _ q=>gt_int q
def Pp:dX X (amW .GtE) (h4 λi j=>.ay (decide (j<=i))):=An λ_ _ _ _ _ _ _ q=>ge_int q
def Pt:dX X (amW .In) (λx y H Q=>∃i j,x=.str i/\y=.str j/\Q (.ay (!(aoq j i 0 j.length 1).isEmpty)) H):=by
 intro f s U H x y v u Q I d e h;obtain⟨i,j,rfl,rfl,q⟩:=h;obtain⟨t,rfl⟩:=d;obtain⟨t',rfl⟩:=e;exact in_str (De I q rfl)
def Pu:dX X (amW .Is) (λx y H Q=>y=.aP/\Q (.ay (decide (x=.aP))) H):=by
 intro f s U H x y v u Q I d e h;obtain⟨rfl,q⟩:=h;cases e;refine is_none_gen (De I q ?_);cases x<;>(obtain⟨t,rfl⟩:=d;rfl)
def Pz:dX X (amW .IsNot) (λx y H Q=>y=.aP/\Q (.ay (!decide (x=.aP))) H):=by
 intro f s U H x y v u Q I d e h;obtain⟨rfl,q⟩:=h;cases e;refine isnot_none_gen (De I q ?_);cases x<;>(obtain⟨t,rfl⟩:=d;rfl)
def ij(b:Expr){op:CmpOp}(h:op≠.In:=by decide)(d:op≠.NotIn:=by decide):aoO op b=false:=by
 have ao:(op==CmpOp.In)=false:=by cases op<;>first|rfl|exact absurd rfl h
 have aA:(op==CmpOp.NotIn)=false:=by cases op<;>first|rfl|exact absurd rfl d
 cases b<;>simp[aoO,ao,aA]
def aeZ{op:CmpOp}{r:ff}(f:dX X (amW op) r)(j:b3 X a cg)(g:b3 X b cE)(m:aoO op b=false):b3 X (.Compare a [op] [b] pos) (sC r cg cE):=by
 intro i s U H Q I h;exact wpAny_Compare1 (Ct j g I h λv u s2 x y e l d k q=>f i s2 U e x y v u Q l d k q) m
def xS(t:TE):TT:=λU H Q=>t U H λx d=>∃k,x=.ay k/\Q k d
theorem afG{op:CmpOp}{r:ff}(i:dX X (amW op) r)(l:b3 X a cg)(j:b3 X b cE)(B:aoO op b=false):iO X (.Compare a [op] [b] pos) (xS (sC r cg cE)):=by
 intro d s U H Q I h;refine wpAny_isTrue_Compare1 (cc (l d s U H _ I h) λv D ⟨x,f,o,n,bE⟩=>cc (j d D U f _ o bE) λu s2 ⟨y,g,q,m,bZ⟩=>
  cc (i d s2 U g x y v u _ q n m bZ) λc s3 ⟨z,p,t,A,k,e,w⟩=>?_) B
 subst e;cases A;exact anm ⟨p,t,w⟩
def Gq(r g:ff)(cg cE n8:TE):TE:=λU H Q=>cg U H λx e=>cE U e λy f=>r x y f λz d=>∃k,z=.ay k/\
 (if k=true then n8 U d λh i=>g y h i Q else Q (.ay false) d)
def aeY{op g:CmpOp}{r j:ff}(q:dX X (amW op) r)(F:dX X (amW g) j)(w:b3 X a cg)(t:b3 X b cE)(J:b3 X c n8)
  (K:lastMarks [op,g] [b,c]=false:=by with_unfolding_all rfl):b3 X (.Compare a [op,g] [b,c] pos) (Gq r j cg cE n8):=by
 intro f s U H Q I h;refine Compare_chain (cc (w f s U H _ I h) λv P ⟨x,o,B,A,bE⟩=>chain_link (cc (t f P U o _ B bE) λu s2 ⟨y,p,D,i,bZ⟩=>
  cc (q f s2 U p x y v u _ D A i bZ) λd s3 ⟨z,l,m,G,k,e,n⟩=>?_)) K
 subst e;cases G;refine anm ?_
 cases k with
 |false=>exact ite_ff ⟨.ay false,l,m,rfl,n⟩|true=>exact ite_tt (chain_last (cc (J f s3 U l _ m n) λE R ⟨N,M,O,S,L⟩=>F f R U M y N u E Q O i S L))
def afF{op g:CmpOp}{r j:ff}(w:dX X (amW op) r)(L:dX X (amW g) j)(D:b3 X a cg)(B:b3 X b cE)(O:b3 X c n8)
  (P:lastMarks [op,g] [b,c]=false:=by with_unfolding_all rfl):iO X (.Compare a [op,g] [b,c] pos) (xS (Gq r j cg cE n8)):=by
 intro f s U H Q I h;refine isTrue_chain (cc (D f s U H _ I h) λv Y ⟨x,q,G,F,bE⟩=>test_link (cc (B f Y U q _ G bE) λu s2 ⟨y,t,J,i,bZ⟩=>
  cc (w f s2 U t x y v u _ J F i bZ) λd s3 ⟨z,l,m,N,k,e,n⟩=>?_)) P
 subst e;cases N;refine anm ?_
 cases k with
 |false=>
  obtain⟨gB,E,M⟩:=n;cases E;exact ite_ff ⟨l,m,M⟩
 |true=>
  refine ite_tt (test_last (cc (O f s3 U l _ m n) λK Z ⟨V,S,W,sq,R⟩=>cc (L f Z U S y V u K _ W i sq R) λd' s5 A=>?_));obtain⟨dF,T,C,p,k2,aA,o⟩:=A;subst aA;cases p;exact anm ⟨T,C,o⟩
def tZ:(ami:Nat)<2 ^ 63:=by decide
def ad4:dX X (an0 .Add) (λx y H Q=>∃i j,x=.str i/\y=.str j/\i.length+j.length<=ami/\Q (.str (i++j)) H):=by
 intro f s U H x y v u Q I d e h;obtain⟨i,j,rfl,rfl,hz,q⟩:=h;obtain⟨t,rfl⟩:=d;obtain⟨t',rfl⟩:=e;exact add_str (λt' tk=>⟨.str (i++j),H,I.tok _,⟨_,rfl⟩,q⟩) hz
def vals1(r:Vals [x] us):∃u,us=[u]/\RelV x u:=by
 cases r with
 |cons e d=>cases d;exact⟨_,rfl,e⟩
def vals2(r:Vals [x,y] us):∃u d,us=[u,d]/\RelV x u/\RelV y d:=by
 cases r with
 |cons f e=>
  cases e with
  |cons g h=>cases h;exact⟨_,_,rfl,f,g⟩
def UB:jT X (.builtin "abs") (λxs H Q=>∃i,xs=[.int i]/\Q (.int (if i<0 then -i else i)) H):=by
 intro d s U H xs us Q I r h;obtain⟨i,rfl,q⟩:=h;obtain⟨u,rfl,t,rfl⟩:=vals1 r;exact call_abs_int λu tk=>⟨.int (if i<0 then -i else i),H,I.tok _,⟨_,rfl⟩,q⟩
def UK(e:X.calm=true):jT X (.builtin "max") (λxs H Q=>∃i j,xs=[.int i,.int j]/\Q (.int (if j > i then j else i)) H):=by
 intro f s U H xs us Q I r h;obtain⟨i,j,rfl,q⟩:=h;obtain⟨u,g,rfl,⟨t,rfl⟩,⟨t',rfl⟩⟩:=vals2 r;refine max_two_ints (I.ok.hd e) λh' tk k=>⟨_,H,I.kept k,?_,q⟩
 by_cases d:j > i
 .rw[if_pos d,if_pos d];exact⟨_,rfl⟩
 .rw[if_neg d,if_neg d];exact⟨_,rfl⟩
def UE:jT X (.type "int") (λxs H Q=>(∃i,xs=[.int i]/\Q (.int i) H)\/∃k,xs=[.ay k]/\Q (.int (if k then 1 else 0)) H):=by
 intro e s U H xs us Q I r h;rcases h with⟨i,rfl,q⟩|⟨k,rfl,q⟩
 .obtain⟨u,rfl,t,rfl⟩:=vals1 r
  exact call_int_int ⟨.int i,H,I,⟨_,rfl⟩,q⟩
 .obtain⟨u,rfl,d⟩:=vals1 r
  cases d;exact call_int_bool ⟨.int (if k then 1 else 0),H,I.tok _,⟨_,rfl⟩,q⟩
end
structure q6(h:Heap)(x cB C:Addr)(es:bf):Prop where
 obj:h.get? x=some (ao0 C cB)
 ns:h.Ns1 cB es
 ne:cB≠x
set_option tactic.hygienic true in
def abv{h:Heap}{c:bf}(n:h.Ns1 C c):∃d,h.get? C=some d/\∀name,W.lookIn name d=some (c name):=by
 obtain⟨o,b,bj,g,hd,i,_,j⟩:=n;refine⟨o,g,λname=>?_⟩;have e:=j name;unfold nsFind findBy at e;rw[<-Array.find?_toList]at e;unfold W.lookIn;rw[hd];dsimp only;split
 .rename_i y q
  rw[q]at e;exact congrArg some e
 .rename_i q
  rw[q]at e;have a:b.toList.any (·.refKey)=false:=by
   rw[List.any_eq_false];intro y f;obtain⟨z,t,l⟩:=i y (Array.mem_toList_iff.mp f);simp[DictEntry.refKey,l]
  have k:¬b.toList.any (·.refKey)=true:=by rw[a];exact amm
  rw[if_neg k];exact congrArg some e
def q6.look{b:bf}(I:q6 h x cB C b):∃a,W.InstAt h x (ao0 C cB) C (some a)/\∀name,W.lookIn name a=some (b name):=
 let⟨a,U,hl⟩:=abv I.ns
 ⟨a,⟨I.obj,rfl,rfl,U⟩,hl⟩
section
variable{prog:amC}{w:World}{A:amK}{E:dv}{s:amg}{K:aN}{x cB C f:Addr}{es:bf}{name:Str}{v:Value}
def get_map{a:Bool}{Q:dv}(X:K.In s.heap)(I:q6 s.heap x cB C es)(b:aqc K C name=true)(hh:aqF K C=true)
  (c:aoe K (.ref C) name=some none) (d:es name=some v) (g:W.handedIn v=true) (h:Q v { s with toks:=s.toks+1 }) :
  wpAny (model prog w) A (getAttr (.ref x) name a) Q E s:=by
 obtain⟨i,e,hl⟩:=I.look;exact W.get_value X e (W.plainGet_of b).1 (W.findObj_own hh c rfl (by rw[hl,d])) g h
def Wq{pl:Sem Bool}{Q:Value×List Value->amg->Prop}(X:K.In s.heap)(I:q6 s.heap x cB C es)(a:aqc K C name=true)
  (e:aoe K (.ref C) name=some (some (.ref f))) (c:W.isFn K (.ref f)=true) (b:es name=none) (h:Q (.ref f,[.ref x]) s) :
  wpAny (model prog w) A (getMethod (.ref x) name pl) Q E s:=by
 obtain⟨g,d,hl⟩:=I.look;exact W.method_fn X d (W.plainGet_of a).1 (W.plainGet_of a).2 e (beq_iff_eq.mp c) (by show(W.lookIn name g).map (·.isSome)=some false;rw[hl,b];rfl) h
def ags{ns:List Str}{Q:Unit->amg->Prop}(X:K.In s.heap)(I:q6 s.heap x cB C es)
  (aw:aoe K (.ref C) "__setattr__"=some (some (.builtin "object.__setattr__"))) (l:W.plainOver K C=true) (p:W.takerIn K C name=some none) (hh:aqF K C=true)
  (hw:Within es ns) (hsz:ns.length<=ami)
  (h:∀h',q6 h' x cB C (λy=>if y=name then some v else es y)->ao1 cB s.heap h'->Q () { s with heap:=h',toks:=s.toks+2 }) :
  wpAny (model prog w) A (setAttr (.ref x) name v) Q E s:=by
 refine a4 λa=>?_
 obtain⟨r,c,hl⟩:=I.look;refine a ?_;refine W.set_plain X c aw (W.osa_open X c l p λb=>?_);refine a4 λa=>?_
 obtain⟨cd,q,g⟩:=W.any_some hh;refine a ?_;refine mN (aml (mN (mN (wpAny_loadPart I.obj (mN (W.Looks.here (W.looks_clsIn X q) ?_))))));rw[g];refine aml (mN (aml (mN ?_)));refine wpAny_nsSet1 I.ns λh' e d=>?_
 refine a4 λa=>?_
 obtain⟨m,o,n,k,j,i⟩:=e.count (Within.cons name v hw);refine a ?_;refine mN (wpAny_lookBehind k (by rw[j];exact pastItsLine_dict (amN i (by rw[amL];omega))) ?_);exact aml (h _ ⟨(d.2 _ (an4 I.ne)).trans I.obj,e,I.ne⟩ d)
def abM{R:Result->amg->Prop}{vs:List Value}{a:List (Str×Value)}(X:K.In s.heap)(c:W.makesIn K C=true)
  (hi:aoe K (.ref C) "__init__"=some (some (.ref f))) (b:W.typeIn K (.ref f)=some (.type "function"))
  (h:aoT (model prog w) (A.under (.builtin "type.__call__" ⟨.ref C::vs,a⟩)) (.call (.ref f) ⟨.ref (s.heap.objs.size+1)::vs,a⟩) (W.InitBack (s.heap.objs.size+1) R)
   { s with heap:=(s.heap.push aox).push (ao0 C s.heap.objs.size) }) :
  aoT (model prog w) A (.call (.ref C) ⟨vs,a⟩) R s:=W.make_core (W.makes_of X c) (W.looks_findIn X hi) (λself=>W.bind_fn X self b) (.inl rfl) h
end
def iI(f:Str)(v:V):List (Str×V)->List (Str×V)
 |[]=>[(f,v)]
 |(g,x)::r=>if g=f then(g,v)::r else(g,x)::iI f v r
theorem Oy(f g:Str)(v:V):∀fs:List (Str×V),(iI f v fs).lookup g=if g=f then some v else fs.lookup g
 |[]=>by
  show anN g [(f,v)]=_
  by_cases h:g=f
  .have a:(g==f)=true:=beq_iff_eq.mpr h
   simp only[anN,a,if_pos h]
  .have a:(g==f)=false:=beq_eq_false_iff_ne.mpr h
   simp only[anN,a,if_neg h]
 |(k,x)::r=>by
  have c:=Oy f g v r;rw[show iI f v ((k,x)::r)=(if k=f then(k,v)::r else(k,x)::iI f v r)from rfl]
  by_cases b:k=f
  .rw[if_pos b]
   by_cases h:g=k
   .have a:(g==k)=true:=beq_iff_eq.mpr h
    simp only[anN,a,if_pos (h.trans b)]
   .have a:(g==k)=false:=beq_eq_false_iff_ne.mpr h
    simp only[anN,a,if_neg (λe:g=f=>h (e.trans b.symm))]
  .rw[if_neg b]
   by_cases h:g=k
   .have a:(g==k)=true:=beq_iff_eq.mpr h
    simp only[anN,a,if_neg (λe:g=f=>b (h.symm.trans e))]
   .have a:(g==k)=false:=beq_eq_false_iff_ne.mpr h
    simp only[anN,a];exact c
theorem Ez(f:Str)(v:V):∀fs:List (Str×V),f∈(iI f v fs).map (·.1)/\∀g,g∈fs.map (·.1)->g∈(iI f v fs).map (·.1)
 |[]=>⟨by simp[iI],λg h=>by simp at h⟩
 |(k,x)::r=>by
  obtain⟨b,c⟩:=Ez f v r;rw[show iI f v ((k,x)::r)=(if k=f then(k,v)::r else(k,x)::iI f v r)from rfl]
  by_cases a:k=f
  .rw[if_pos a]
   subst a;exact⟨by simp,λg h=>by simpa using h⟩
  .rw[if_neg a]
   refine⟨?_,λg h=>?_⟩
   .rw[amt]
    exact amr _ b
   .rw[amt]at h ⊢
    rcases amw.mp h with e|e
    .exact amw.mpr (.inl e)
    .exact amr _ (c g e)
theorem Ot(f:Str)(v:V):∀fs:List (Str×V),(iI f v fs).length<=fs.length+1
 |[]=>by simp[iI]|(k,x)::r=>by
  have b:=Ot f v r;rw[show iI f v ((k,x)::r)=(if k=f then(k,v)::r else(k,x)::iI f v r)from rfl]
  by_cases a:k=f
  .rw[if_pos a,amL,amL];omega
  .rw[if_neg a,amL,amL];omega
def nj.some_of{v:V}{o:Option Value}(r:nj (some v) o):∃u,o=some u/\RelV v u:=by
 cases o with
 |none=>exact(show False from r).elim|some u=>exact⟨u,rfl,r⟩
def nj.none_of{o:Option Value}(r:nj none o):o=none:=by
 cases o with
 |none=>rfl|some u=>exact(show False from r).elim
def W3{v:V}(r:RelV v u):W.handedIn u=true:=by
 cases v with
 |aP=>cases(show u=Value.none from r);rfl
 |ay b=>cases(show u=aqM b from r);rfl
 |int i=>obtain⟨t,e⟩:=(show ∃t,u=aqA i t from r);cases e;rfl
 |str x=>obtain⟨t,e⟩:=(show ∃t,u=aqB x t from r);cases e;rfl
 |yC b=>obtain⟨t,e⟩:=(show ∃t,u=Value.bytes b t from r);cases e;rfl
 |yZ b=>obtain⟨t,e⟩:=(show ∃t,u=Value.float b t from r);cases e;rfl
 |ref a=>cases(show u=ana a from r);rfl
 |ty n=>cases(show u=aqN n from r);rfl
section
variable{P:amC}{w:World}{H:ax}{h:Heap}{a C cB:Addr}{fs:List (Str×V)}
def Eg(ct:gs P w H h)(e:H a=some (.ins C cB fs)):∃b,q6 h a cB C b/\(∀f,nj (fs.lookup f) (b f))/\Within b (fs.map (·.1))/\fs.length<=1000/\H cB=some (.own a):=by
 obtain⟨d,z,ne,a',b,n,r,q⟩:=(show h_ P w H h a (.ins C cB fs)from ct a _ e);exact⟨b,⟨a',n,ne⟩,r,q,z,d⟩
end
structure jm(K:aN)(C:Addr):Prop where
 e4:aqc K C Str.empty=true
 hd:aqF K C=true
 po:W.plainOver K C=true
 i6:aoe K (.ref C) "__setattr__"=some (some (.builtin "object.__setattr__"))
def jm.get{K:aN}{C:Addr}(c:jm K C)(f:Str):aqc K C f=true:=c.e4
def q4(K:aN)(C:Addr)(f:Str):Prop:=aoe K (.ref C) f=some none
def q4.ahz{K:aN}{C:Addr}{f:Str}(n:q4 K C f):W.takerIn K C f=some none:=by
 unfold W.takerIn;rw[show aoe K (.ref C) f=some none from n];rfl
structure Meth(K:aN)(C:Addr)(m:Str)(f:Addr):Prop where
 at_:aoe K (.ref C) m=some (some (.ref f))
 fn:W.isFn K (.ref f)=true
 kp:an8 K (.ref f)=true
section
variable{X:aT}{af:c4}{U:St}{H:ax}{s:amg}{a C cB:Addr}{fs:List (Str×V)}{f:Str}{v:V}{A:amK}{E:dv}
def Wr{b:Bool}{Q:dv}(I:Inv X af U H s)(e:H a=some (.ins C cB fs))(c:jm X.K C)(n:q4 X.K C f)(l:fs.lookup f=some v)
  (h:∀u g,Inv X af U H g->RelV v u->Q u g):wpAny (model X.prog X.w) A (getAttr (.ref a) f b) Q E s:=by
 obtain⟨j,O,r,_,_,_⟩:=Eg I.ct e;obtain⟨u,i,d⟩:=nj.some_of (v:=v) (o:=j f) (by rw[<-l];exact r f);exact get_map I.gj O (c.get f) c.hd n i (W3 d) (h u _ (I.tok _) d)
def Mw{m:Str}{g:Addr}{pl:Sem Bool}{Q:Value×List Value->amg->Prop}(I:Inv X af U H s)(e:H a=some (.ins C cB fs))(c:jm X.K C)(k:Meth X.K C m g)(l:fs.lookup m=none)
  (h:Q (.ref g,[.ref a]) s):wpAny (model X.prog X.w) A (getMethod (.ref a) m pl) Q E s:=by
 obtain⟨d,O,r,_,_,_⟩:=Eg I.ct e;have b:=nj.none_of (by rw[<-l];exact r m);exact Wq I.gj O (c.get m) k.at_ k.fn b h
def agv{y:V}{u:Value}{Q:Unit->amg->Prop}(I:Inv X af U H s)(e:H a=some (.ins C cB fs))(c:jm X.K C)(n:q4 X.K C f)(hl:fs.length<1000)(p:RelV y u)
  (h:∀k,Inv X af U (upd H a (.ins C cB (iI f y fs))) k->Q () k):wpAny (model X.prog X.w) A (setAttr (.ref a) f u) Q E s:=by
 obtain⟨j,O,r,wi,_,i⟩:=Eg I.ct e;have hz:(fs.map (·.1)).length<=ami:=by rw[amh,amS];omega
 refine ags I.gj O c.i6 c.po n.ahz c.hd wi hz λh' d t=>h _ ?_
 have hd:∃o,h'.get? cB=some o:=let⟨o,_,_,bD,_⟩:=d.ns;⟨o,bD⟩
 refine I.write (by rw[e];exact ao8) (.inr i) (λb q m z=>(t.2 b m).trans z) hd ?_;refine⟨by rw[c6 O.ne];exact i,?_,O.ne,d.obj,_,d.ns,λg=>?_,λg l=>?_⟩
 .have:=Ot f y fs;omega
 .show nj ((iI f y fs).lookup g) (if g=f then some u else j g)
  rw[Oy]
  by_cases q:g=f
  .rw[if_pos q,if_pos q];exact p
  .rw[if_neg q,if_neg q];exact r g
 .by_cases q:g=f
  .rw[q];exact(Ez f y fs).1
  .refine(Ez f y fs).2 g (wi g λz=>l ?_)
   show(if g=f then some u else j g)=none;rw[if_neg q];exact z
def Inv.made(I:Inv X af U H s):Inv X af U (upd (upd H s.heap.objs.size (.own (s.heap.objs.size+1))) (s.heap.objs.size+1) (.ins C s.heap.objs.size []))
  { s with heap:=(s.heap.push aox).push (ao0 C s.heap.objs.size) }:=by
 have ao:(s.heap.push aox).get? s.heap.objs.size=some aox:=amq s.heap rfl;have aA:((s.heap.push aox).push (ao0 C s.heap.objs.size)).get? (s.heap.objs.size+1)=some (ao0 C s.heap.objs.size):=by
  have:=amq (s.heap.push aox) (o:=ao0 C s.heap.objs.size) rfl
  rwa[aoE]at this
 have bK:(s.heap.push aox).Ns s.heap.objs.size (λ_=>none):=⟨aox,#[],_,ao,rfl,(λe he=>absurd he (by simp)),λ_=>rfl⟩;refine(I.laid (o:=.own (s.heap.objs.size+1)) (t':=s.toks) (λb u q=>B1 _ q) (amj _) ⟨_,ao⟩).laid (λb u q=>B1 _ q) (ao3 (aoE _ _)) ?_;have ne:s.heap.objs.size≠s.heap.objs.size+1:=amM (aoH _);refine⟨by rw[c6 ne,d2],amT _,ne,aA,λ_=>none,(Heap.Ns1.of_empty bK).at λo q=>B1 _ q,λ_=>ao8,λy c=>absurd rfl c⟩
def SU{prog:amC}{w:World}{env:Env}{e:Expr}{f:Str}{pos:Pos}{s:amg}{Q:dv}(b:anS e f env (eval e env)=eval e env)
  (h:wpAny (model prog w) A (eval e env) (λo c=>wpAny (model prog w) A (getAttr o f true) Q E c) E s):wpAny (model prog w) A (eval (.Attribute e f pos) env) Q E s:=
 Attribute_any_ h (by rw[arm_eval_Attribute,b])
end
def ag8(K:aN)(d:TE)(f:Str):TE:=λU H Q=>d U H λx b=>∃a C c fs v,x=.ref a/\b a=some (.ins C c fs)/\jm K C/\q4 K C f/\fs.lookup f=some v/\Q v b
def agm(K:aN)(g d:TE)(f:Str):gR:=λD U H=>d U H λy e=>g U e λx b=>∃a C c fs,x=.ref a/\b a=some (.ins C c fs)/\jm K C/\q4 K C f/\fs.length<1000/\
 D.bt U (upd b a (.ins C c (iI f y fs)))
section
variable{X:aT}{o e value:Expr}{f:Str}{pos pos':Pos}{cg AY:TE}
def ae0(he:b3 X e cg)(i:anS e f X.env (eval e X.env)=eval e X.env):b3 X (.Attribute e f pos) (ag8 X.K cg f):=by
 intro j s U H Q I h;refine SU i (cc (he j s U H _ I h) λu y g=>?_);refine a4 λk=>?_
 obtain⟨x,b,m,d,a,C,w,fs,v,ex,p,c,n,l,q⟩:=g;subst ex;obtain rfl:=d;exact k (Wr m p c n l λu' s2 r t=>⟨v,b,r,t,q⟩)
def afC(i:b3 X o cg)(j:b3 X value AY)(aw:anU value (some (.Attribute o f pos')) pos.line X.env=pure false):iN X (.Assign [.Attribute o f pos'] value pos) (agm X.K cg AY f):=by
 intro b s U H D I h;refine plainObj_wpAny_Assign_Attribute (cc (j b s U H _ I h) λu w ⟨y,d,m,k,q⟩=>cc (i b w U d _ m q) λb6 s2 ⟨x,z,r,g,a,C,A,fs,ex,p,c,n,l,bZ⟩=>?_) aw;subst ex;obtain rfl:=g;exact agv r p c n l k λs3 t=>⟨U,_,t,bZ⟩
end
structure cO(k:Nat)(A:amK):Prop where
 hd:A.handled=none
 vW:A.depth+3*k+5<recursionLimit
 un:A.units+16*k+200<cLine
def cO.mono(r:cO k A)(h:j<=k):cO j A:=⟨r.hd,by have:=r.vW;omega,by have:=r.un;omega⟩
def cO.deeper{A:amK}(r:cO (k+1) A)(env:Env):cO k (A.deeper env):=
 ⟨r.hd,by have:=r.vW;show A.depth+1+3*k+5 < _;omega,by have:=r.un;show A.units+3+16*k+200 < _;omega⟩
def cO.in1{A:amK}(r:cO (k+1) A):cO k A.in1:=
 ⟨r.hd,by have:=r.vW;show A.depth+3*k+5 < _;omega,by have:=r.un;show A.units+1+16*k+200 < _;omega⟩
def abL{A:amK}:(A.under (.builtin "type.__call__" ⟨.ref C::us,kw⟩)).depth=A.depth+1:=by
 rfl
def abN{A:amK}:(A.under (.builtin "type.__call__" ⟨.ref C::us,kw⟩)).units=A.units+1:=by
 rfl
def cO.make{A:amK}(r:cO (k+1) A)(C:Addr)(us:List Value)(a:List (Str×Value)):cO k (A.under (.builtin "type.__call__" ⟨.ref C::us,a⟩)):=
 ⟨r.hd,by have:=r.vW;rw[abL];omega,by have:=r.un;rw[abN];omega⟩
def cO.depth{A:amK}(r:cO k A):A.depth<recursionLimit:=by have:=r.vW;omega
def cO.units{A:amK}(r:cO k A):A.units+64<cLine:=by have:=r.un;omega
def cO.ahX{A:amK}(r:cO k A):A.units<cLine:=by have:=r.un;omega
def xR:gf:=λ_ H Q=>Q [] H
def ag6(c:TE)(d:gf):gf:=λU H Q=>c U H λx a=>d U a λxs b=>Q (x::xs) b
section
variable{X:aT}{e:Expr}{aD:List Expr}{te:TE}{t:gf}{pos:Pos}
def PC:ho X [] xR:=λ_ _ _ _ H Q I h=>ap7 ⟨[],H,I,.nil,h⟩
theorem FJ(g:b3 X e te)(c:ho X aD t)(aw:gg X e aD:=by rfl):ho X (e::aD) (ag6 te t):=by
 intro pos a s U H Q I h;rw[aw];show wpAny _ _ (spliced ((false,eval e X.env)::aoD pos (am2 aD X.env))) _ _ s;refine apS (cc (g a s U H _ I h) λu m f=>?_);obtain⟨x,b,k,j,bE⟩:=f;exact cc (c pos a m U b _ k bE) λus s2 ⟨xs,d,l,i,bZ⟩=>⟨x::xs,d,l,.cons j i,bZ⟩
def aho(t:gf):TE:=λU H Q=>t U H λxs a=>xs.length<=ami/\∀p,a p=none->Q (.ref p) (upd a p (.t xs))
def aha(t:gf):TE:=λU H Q=>t U H λxs a=>xs.length<=ami/\∀p,a p=none->Q (.ref p) (upd a p (.l xs))
theorem afi{C}(h:ho X aD t):b3 X (.Tuple aD C pos) (aho t):=by
 intro g s U H Q I f;refine wpAny_Tuple_spliced (cc (h pos g s U H _ I f) λus c ⟨xs,d,a,r,z,q⟩=>⟨by rw[<-r.length];exact z,?_⟩);refine⟨.ref c.heap.objs.size,upd d c.heap.objs.size (.t xs),a.laid (λb u e=>B1 _ e) (amj _) ?_,rfl,q _ (a.ct.fresh (amj _))⟩;exact⟨z,us,r,⟨_,amq _ rfl,rfl,_,rfl⟩⟩
theorem ae7(h:ho X aD t):b3 X (.List aD pos) (aha t):=by
 intro g s U H Q I f;refine wpAny_List_spliced (cc (h pos g s U H _ I f) λus c ⟨xs,d,a,r,z,q⟩=>⟨by rw[<-r.length];exact z,?_⟩);refine⟨.ref c.heap.objs.size,upd d c.heap.objs.size (.l xs),a.laid (λb u e=>B1 _ e) (amj _) ?_,rfl,q _ (a.ct.fresh (amj _))⟩;exact⟨z,us,0,r,amq _ rfl⟩
end
abbrev ez:=List V->ax->cY->gu->Prop
abbrev m':=List Env->ax->amg->gu->Value->amg->Prop
structure lh(P:amC)(w:World)(K:aN)(mg:bf)(base:Heap)(A:amK)(outer:List Env)(s:amg)(H:ax):Prop where
 frames:A.frames=some outer
 mod:Mod K mg base
 bs:∀b o,base.get? b=some o->s.heap.get? b=some o/\H b=none
 ml:base.objs.size<=s.heap.objs.size
 kF:s.heap.FunFrames base outer
 qk:∀b∈mu outer,H b=none
 ct:gs P w H s.heap
 bare:aps s.gens
def jl(outer:List Env)(P:amC)(w:World)(H:ax)(s:amg)(Q:cY)(u:Value)(a:amg):Prop:=
 ∃v b,a.os=s.os/\aps a.gens/\gS (mu outer) [] H b s.heap a.heap/\gs P w b a.heap/\RelV v u/\Q v b
def G7(b:m')(outer:List Env)(P:amC)(w:World)(H:ax)(s:amg)(Q:cY)(E:gu)(r:Result)(a:amg):Prop:=
 match r with
 |.ok (.ret u)=>jl outer P w H s Q u a|.ok _=>False|.error e=>b outer H s E e a
structure fc(P:amC)(w:World)(K:aN)(mg:bf)(base:Heap)(CX:m')(k:Nat)(f:Addr)(fd:anp)(ps:List Str)(sp:ez):Prop where
 len:∀vs H Q E,sp vs H Q E->vs.length=ps.length
 run:∀(A:amK)(outer:List Env)(s:amg)(H:ax)(args:Args)(us:List Value)(vs:List V)(Q:cY)(E:gu),cO k A->lh P w K mg base A outer s H->BindsTo s fd args (ps.zip us)->Vals vs us->sp vs H Q E->
  aoT (model P w) A (.call (.ref f) args) (G7 CX outer P w H s Q E) s
def fc.mono{P:amC}{w:World}{K:aN}{mg:bf}{base:Heap}{a:m'}{j k:Nat}{f:Addr}{b:anp}{ps:List Str}{sp:ez}(F:fc P w K mg base a j f b ps sp)(h:j<=k) :
  fc P w K mg base a k f b ps sp:=⟨F.len,λA outer s H args us vs Q E c=>F.run A outer s H args us vs Q E (c.mono h)⟩
def fc.imp{P:amC}{w:World}{K:aN}{mg:bf}{base:Heap}{a:m'}{k:Nat}{f:Addr}{c:anp}{ps:List Str}{sp b:ez}(F:fc P w K mg base a k f c ps sp)
  (h:∀vs H Q E,b vs H Q E->sp vs H Q E):fc P w K mg base a k f c ps b:=
 ⟨λvs H Q E q=>F.len vs H Q E (h _ _ _ _ q),λA outer s H args us vs Q E d he e g aw=>F.run A outer s H args us vs Q E d he e g (h _ _ _ _ aw)⟩
def lh.make{P:amC}{w:World}{K:aN}{mg:bf}{base:Heap}{A:amK}{outer:List Env}{s:amg}{H:ax}(e:lh P w K mg base A outer s H)(C:Addr)(us:List Value)(a:List (Str×Value)) :
  lh P w K mg base (A.under (.builtin "type.__call__" ⟨.ref C::us,a⟩)) outer s H:=⟨by(simpa[Around.under,Code.envs,Code.isFrame,pushEnvs]using e.frames),e.mod,e.bs,e.ml,e.kF,e.qk,e.ct,e.bare ⟩
def lh.in1{P:amC}{w:World}{K:aN}{mg:bf}{base:Heap}{A:amK}{outer:List Env}{s:amg}{H:ax}(e:lh P w K mg base A outer s H) :
  lh P w K mg base A.in1 outer s H:=⟨e.frames,e.mod,e.bs,e.ml,e.kF,e.qk,e.ct,e.bare⟩
section
variable{X:aT}{af:c4}{U:St}{H:ax}{s s':amg}
def Inv.yV(I:Inv X af U H s):lh X.prog X.w X.K X.mg X.base X.A X.stack s H:=
 ⟨I.ok.frames,I.ok.mod,I.bs,amN I.ok.ml I.pz,I.stack,I.QU,I.ct,I.bare⟩
def Inv.after(I:Inv X af U H s)(h:jl X.stack X.prog X.w H s Q u s'):i9 X af U Q u s':=by
 obtain⟨v,a,os,bare,un,ct,r,q⟩:=h;obtain⟨hh,g,d,t,c⟩:=s';obtain rfl:=os;exact⟨v,a,I.call un ct bare (λb z=>absurd z (by simp)),r,q⟩
end
def Q1(sp:ez)(a:List V)(E:gu)(t:gf):TE:=λU H Q=>t U H λvs b=>sp (vs++a) b Q E
def Q2(C:Addr)(m:Str)(sp:ez)(b:List V)(E:gu)(f:TE)(t:gf):TE:=λU H Q=>f U H λx c=>∃a e fs,x=.ref a/\c a=some (.ins C e fs)/\fs.lookup m=none/\
 t U c λvs d=>sp (x::(vs++b)) d Q E
def ahb(C:Addr)(sp:ez)(c:List V)(E:gu)(t:gf):TE:=λU H Q=>t U H λvs b=>∀x a,b x=none->b a=none->a≠x->
 sp (.ref x::(vs++c)) (upd (upd b a (.own x)) x (.ins C a [])) (λv d=>v=.aP/\Q (.ref x) d) E
def Binds(K:aN)(a:anp)(ps:List Str)(ds:List Value):Prop:=
 ∀(s:amg)(us:List Value),K.In s.heap->(us++ds).length=ps.length->BindsTo s a ⟨us,[]⟩ (ps.zip (us++ds))
def Binds.all{K:aN}{a:anp}{ps:List Str}(h:∀us:List Value,us.length=ps.length->aoI a ⟨us,[]⟩=pure (ps.zip us)):Binds K a ps []:=λs us _ hl=>by
 rw[am8]at hl ⊢;exact .of_eq (h us hl)
def Passes(b:m')(X:aT)(E:gu):Prop:=∀(c:c4)(U:St)(H:ax)(s:amg)(e:Value)(a:amg),Inv X c U H s->b X.stack H s E e a->X.ej e a
section
variable{X:aT}{CX:m'}{k:Nat}{f C:Addr}{fd:anp}{ps:List Str}{sp:ez}{dvs:List V}{ds:List Value}{E:gu}{x m:Str}{p pos apos:Pos}{e o:Expr}{aD:List Expr}{cg:TE}{t:gf}
theorem xE{b:c4}{U:St}{H:ax}{s:amg}{Q:cY}{us:List Value}{vs:List V}(F:fc X.prog X.w X.K X.mg X.base CX k f fd ps sp)(d:cO k X.A)(i:Binds X.K fd ps ds)(hd:Vals dvs ds)(j:Passes CX X E)
  (I:Inv X b U H s) (r:Vals vs us) (h:sp (vs++dvs) H Q E):wpAny (model X.prog X.w) X.A (call (.ref f) us) (i9 X b U Q) X.ej s:=by
 have c:Vals (vs++dvs) (us++ds):=r.append hd;have hl:(us++ds).length=ps.length:=by rw[<-c.length];exact F.len _ _ _ _ h
 refine wpAny_call (aoF (F.run X.A X.stack s H ⟨us,[]⟩ (us++ds) (vs++dvs) Q E d I.yV (i s us I.gj hl) c h) λr l a=>?_)
 cases r with
 |error e=>exact j b U H s e l I a|ok g=>
  cases g with
  |ret u=>exact I.after a|next=>exact amV a
  |brk=>exact amV a|cont=>exact amV a
def aeT(F:fc X.prog X.w X.K X.mg X.base CX k f fd ps sp)(b:cO k X.A)(c:eW X x)(y:X.mg x=some (.ref f))(l:an8 X.K (.ref f)=true)(d:Binds X.K fd ps ds)(hd:Vals dvs ds)(i:Passes CX X E)
  (j:ho X (e::aD) t) (u:fV x:=by decide) (he:gg X e aD:=by rfl) (n:gT X pos aD:=by rfl) :
  b3 X (.Call (.Name x p) (e::aD) [] pos) (Q1 sp dvs E t):=by
 intro g s U H Q I h;refine anF (tY I c y ?_ u);refine aqk I.ok.mod.tX l (cc (j pos g s U H _ I h) λus B ⟨vs,z,a,r,q⟩=>⟨a.gj,?_⟩) he n;exact xE F b d hd i a r q
def aeU(F:fc X.prog X.w X.K X.mg X.base CX k f fd ps sp)(a:cO k X.A)(b:eW X x)(j:X.mg x=some (.ref f))(g:an8 X.K (.ref f)=true)(c:Binds X.K fd ps ds)(hd:Vals dvs ds)(d:Passes CX X E)
  (i:fV x:=by decide):b3 X (.Call (.Name x p) [] [] pos) (Q1 sp dvs E xR):=by
 intro l s U H Q I h;refine anF (tY I b j ?_ i);exact W.callWith_K0 I.gj g (xE F a c hd d I .nil h)
theorem ae9{pl:Sem Bool}(he:b3 X o cg)(c:jm X.K C)(i:Meth X.K C m f)(F:fc X.prog X.w X.K X.mg X.base CX k f fd ps sp)(y:cO k X.A)(z:Binds X.K fd ps ds)(hd:Vals dvs ds)(B:Passes CX X E)(D:ho X (e::aD) t)
  (M:gg X e aD:=by rfl) (L:gT X pos aD:=by rfl)
  (G:p5 X pl o m apos (e::aD) pos:=by rfl) :
  b3 X (.Call (.Attribute o m apos) (e::aD) [] pos) (Q2 C m sp dvs E cg t):=by
 intro b s U H Q I h;refine W.methodCall_KW (cc (he b s U H _ I h) λu N ⟨x,j,d,n,a,P,fs,ex,J,l,q⟩=>?_) G;subst ex;obtain rfl:=n;refine Mw d J c i l<|aqk I.ok.mod.tX i.kp (cc (D pos b N U j _ d q) λus s2 ⟨vs,O,g,r,bZ⟩=>⟨g.gj,?_⟩) M L
 exact xE (vs:=.ref a::vs) F y z hd B g (.cons rfl r) bZ
theorem afa{pl:Sem Bool}(he:b3 X o cg)(c:jm X.K C)(d:Meth X.K C m f)(F:fc X.prog X.w X.K X.mg X.base CX k f fd ps sp)(i:cO k X.A)(j:Binds X.K fd ps ds)(hd:Vals dvs ds)(r:Passes CX X E)
  (y:p5 X pl o m apos [] pos:=by rfl) :
  b3 X (.Call (.Attribute o m apos) [] [] pos) (Q2 C m sp dvs E cg xR):=by
 intro n s U H Q I h;refine W.methodCall_KW (pl:=pl) (cc (he n s U H _ I h) λu G ⟨x,B,b,g,a,D,fs,ex,z,l,q⟩=>?_) y;subst ex;obtain rfl:u=ana a:=g;refine Mw b z c d l ?_;exact W.callWith_K0 (first:=[.ref a]) b.gj d.kp (xE (us:=[.ref a]) (vs:=[.ref a]) F i j hd r b (.cons rfl .nil) q)
structure Hi(K:aN)(C f:Addr):Prop where
 makes:W.makesIn K C=true
 init:aoe K (.ref C) "__init__"=some (some (.ref f))
 fn:W.isFn K (.ref f)=true
 kp:an8 K (.ref C)=true
theorem agh{d:c4}{U:St}{H:ax}{s:amg}{Q:cY}{us:List Value}{vs:List V}(M:Hi X.K C f)(F:fc X.prog X.w X.K X.mg X.base CX k f fd ps sp)(l:cO (k+1) X.A)(y:Binds X.K fd ps ds)(hd:Vals dvs ds)
  (z:Passes CX X E) (I:Inv X d U H s) (r:Vals vs us)
  (h:∀x b,H x=none->H b=none->b≠x->sp (.ref x::(vs++dvs)) (upd (upd H b (.own x)) x (.ins C b [])) (λv q=>v=.aP/\Q (.ref x) q) E) :
  wpAny (model X.prog X.w) X.A (call (.ref C) us) (i9 X d U Q) X.ej s:=by
 have g:=h (s.heap.objs.size+1) s.heap.objs.size (I.ct.fresh (apQ _)) (I.ct.fresh (amj _)) (amM (aoH _));have c:=Inv.made (C:=C) I;have i:Vals (V.ref (s.heap.objs.size+1)::(vs++dvs)) (ana (s.heap.objs.size+1)::(us++ds)):=.cons rfl (r.append hd);have hl:(ana (s.heap.objs.size+1)::us++ds).length=ps.length:=by
  have e:=i.length;rw[F.len _ _ _ _ g]at e;exact e.symm
 refine wpAny_call (abM I.gj M.makes M.init (beq_iff_eq.mp M.fn) (aoF (F.run _ X.stack _ _ ⟨ana (s.heap.objs.size+1)::us,[]⟩ (ana (s.heap.objs.size+1)::(us++ds)) _ _ E (l.make C us [])
  (c.yV.make C us []) (y _ (ana (s.heap.objs.size+1)::us) c.gj hl) i g) λr L a=>?_))
 cases r with
 |error e=>exact z d U _ _ e L c a|ok n=>
  cases n with
  |ret u=>
   obtain⟨v,j,D,B,J,G⟩:=c.after a;subst J;exact⟨B,⟨V.ref (s.heap.objs.size+1),j,D,rfl,G⟩⟩
  |next=>exact amV a
  |brk=>exact amV a|cont=>exact amV a
def ae8(M:Hi X.K C f)(F:fc X.prog X.w X.K X.mg X.base CX k f fd ps sp)(b:cO (k+1) X.A)(c:eW X x)(u:X.mg x=some (.ref C))(d:Binds X.K fd ps ds)(hd:Vals dvs ds)(i:Passes CX X E)
  (j:ho X (e::aD) t) (n:fV x:=by decide) (he:gg X e aD:=by rfl) (l:gT X pos aD:=by rfl) :
  b3 X (.Call (.Name x p) (e::aD) [] pos) (ahb C sp dvs E t):=by
 intro g s U H Q I h;refine anF (tY I c u ?_ n);refine aqk I.ok.mod.tX M.kp (cc (j pos g s U H _ I h) λus z ⟨vs,y,a,r,q⟩=>⟨a.gj,?_⟩) he l;exact agh M F b d hd i a r q
end
structure hI(N P:List Str)(sc:Scope):Prop where
 kind:sc.kind=.function:=by rfl
 co:sc.isCoroutine=false:=by rfl
 gen:sc.isGenerator=false:=by rfl
 gC:N.Nodup:=by decide +kernel
 pre:N.take P.length=P:=by rfl
 par:∀x∈P,sc.names.lookup x=some .local\/sc.names.lookup x=some .cell:=by decide +kernel
 adQ:∀y∈sc.names,y.2≠.free:=by decide +kernel
theorem Jz{kindOf:Str->Option aoy}{x:Str}:∀{binds:List (Str×Value)}{m:bf},(∀v,(x,v)∉binds)->bindL kindOf binds m x=m x
 |[],_,_=>rfl|(n,v)::r,m,h=>by
  unfold bindL;rw[Jz λw hw=>h w (amr _ hw)];split
  .have:x≠n:=by rintro rfl;exact h v amu
   simp[this]
  .rfl
theorem Jx{kindOf:Str->Option aoy}{x:Str}:∀{binds:List (Str×Value)}{m:bf},(∀v,(x,v)∉binds)->bindC kindOf binds m x=m x
 |[],_,_=>rfl|(n,v)::r,m,h=>by
  unfold bindC;rw[Jx λw hw=>h w (amr _ hw)];split
  .rfl
  .have:x≠n:=by rintro rfl;exact h v amu
   simp[this]
theorem Jy{kindOf:Str->Option aoy}{v:Value}:∀{P:List Str}{vs:List Value}{i:Nat}{m:bf},P.Nodup->P[i]? = some x->vs[i]? = some v->kindOf x=some .local->
  bindL kindOf (P.zip vs) m x=some v
 |[],_,_,_,_,h,_,_=>by simp at h| _::_,[],_,_,_,_,h,_=>by simp at h|p::P,w::vs,0,m,gC,C,I,U=>by
  simp at C I;subst C;subst I;show bindL kindOf ((p,w)::P.zip vs) m p=_;unfold bindL;rw[Jz λv a=>(ane.mp gC).1 (aoW a).1,if_pos U];simp
 |p::P,w::vs,i+1,m,gC,C,I,U=>by
  unfold bindL;exact Jy (ane.mp gC).2 C I U
theorem Jw{kindOf:Str->Option aoy}{v:Value}:∀{P:List Str}{vs:List Value}{i:Nat}{m:bf},P.Nodup->P[i]? = some x->vs[i]? = some v->kindOf x≠some .local->
  bindC kindOf (P.zip vs) m x=some v
 |[],_,_,_,_,h,_,_=>by simp at h| _::_,[],_,_,_,_,h,_=>by simp at h|p::P,w::vs,0,m,gC,C,I,U=>by
  simp at C I;subst C;subst I;show bindC kindOf ((p,w)::P.zip vs) m p=_;unfold bindC;rw[Jx λv a=>(ane.mp gC).1 (aoW a).1,if_neg U];simp
 |p::P,w::vs,i+1,m,gC,C,I,U=>by
  show bindC kindOf ((p,w)::P.zip vs) m x=_;unfold bindC;exact Jw (i:=i) (ane.mp gC).2 (by simpa using C) (by simpa using I) U
def start(N:List Str)(vs:List V):St:=vs.map some++amU (N.length-vs.length) none
noncomputable def hr(b:m')(P:amC)(w:World)(K:aN)(mg:bf)(base:Heap)(N:List Str)(qual:Str)(scope:Scope)(f:Addr)(cd:Value)(A:amK)(outer:List Env)(s:amg)(H:ax)(E:gu):aT where
 prog:=P
 w:=w
 K:=K
 mg:=mg
 base:=base
 A:=A.deeper (ao4 qual scope s.heap.objs.size f cd)
 N:=N
 gY:=s
 H₀:=H
 env:=ao4 qual scope s.heap.objs.size f cd
 outer:=outer
 stack:=ao4 qual scope s.heap.objs.size f cd::outer
 ex:=[]
 calm:=true
 fn:=λ_=>true
 n3:=[]
 ej:=λe d=>wpAny (model P w) (A.deeper (ao4 qual scope s.heap.objs.size f cd)) (leaving (ao4 qual scope s.heap.objs.size f cd) e) (λ_ a=>b outer H s E e a) (λc a=>b outer H s E c a) d
def JO{a:Scope}(h:a.names.lookup x=some .cell):∃c,(cellsFrom n a.names []).lookup x=some c:=aql.mp (aqm a.names n [] (.inl h))
def NF{n:m'}{P:amC}{w:World}{K:aN}{mg:bf}{base:Heap}{N ps:List Str}{qual:Str}{scope:Scope}{f:Addr}{cd:Value}{A:amK}{outer:List Env}{s D:amg}{H:ax}{E:gu}{us:List Value}{vs:List V}
  (S:hI N ps scope) (hd:A.handled=none) (dZ:lh P w K mg base A outer s H) (hl:vs.length=ps.length) (r:Vals vs us)
  (x:InCallC s s.heap.objs.size (bindL (ao4 qual scope s.heap.objs.size f cd).kindOf (ps.zip us) λ_=>none) (cellsFrom (s.heap.objs.size+1) scope.names []) (bindC (ao4 qual scope s.heap.objs.size f cd).kindOf (ps.zip us) λ_=>none) D) :
  Inv (hr n P w K mg base N qual scope f cd A outer s H E) [] (start N vs) H D:=by
 have L:ps.length<=N.length:=by have:=congrArg anZ S.pre;rw[anj]at this;omega
 obtain⟨l,tk,rfl,t⟩:=x.done;have m:∀b:Addr,b∉(hr n P w K mg base N qual scope f cd A outer s H E).ex:=λb z=>absurd (show b∈([]:List Addr)from z) (by simp)
 refine⟨⟨dZ.mod,S.kind,rfl,rfl,amj _,λy z c l d=>?_,λy g=>?_,λy c _ h=>?_,λ_=>hd,Around.frames_deeper dZ.frames,.inr ⟨rfl,rfl⟩,λb z=>absurd z (m b),dZ.bs,dZ.ml,λb _ _=>m b,λb z=>absurd z (m b),dZ.kF,dZ.qk⟩,
  rfl,dZ.bare,gS.kept t,⟨_,x.toInCall.ns,λi y v l d J=>?_⟩,λy c h=>⟨_,x.cell y c h⟩,dZ.ct.fresh (amj _),λy c h=>?_,λp j=>absurd (show p∈([]:c4)from j) (by simp),dZ.ct.kept t,?_⟩
 .exact name_of_addr x.apart (anA l) (anA d)
 .have g:=g
  rcases g with g|g
  .exact JO g
  .exact absurd rfl (S.adQ _ (anA g))
 .exact anM (x.above y c (anA h))
 .have hi:i<vs.length:=by
   unfold start at d
   by_cases hi:i<vs.length
   .exact hi
   .rw[ams (by simpa using hi)]at d
    rw[anI]at d;split at d<;>cases d
  have F:vs[i]? = some v:=by
   unfold start at d;rw[amA (by simpa using hi),amE]at d
   cases e:vs[i]? with
   |none=>rw[e]at d;cases d
   |some a=>rw[e]at d;cases d;rfl
  obtain⟨u,B,G⟩:=r.get F;have j:ps[i]? = some y:=by
   rw[<-S.pre,List.getElem?_take_of_lt (by omega)];exact l
  have o:ps.Nodup:=by rw[<-S.pre];exact S.gC.sublist (ap8 _ _)
  refine⟨u,G,?_⟩;rcases S.par y (amD j)with k|k
  .exact .inl ⟨k,Jy o j B k⟩
  .obtain⟨c,e⟩:=JO k
   refine .inr ⟨.inl k,c,e,?_⟩;have q:=x.cell y c e;rw[Jw o j B (by show scope.names.lookup y≠_;rw[k];decide)]at q;exact q
 .exact dZ.ct.fresh (anM (x.above y c (anA h)))
 .unfold start
  show _=N.length;rw[amf,amh,am9];omega
def Di{h:m'}{P:amC}{w:World}{K:aN}{mg:bf}{base:Heap}{k:Nat}{f:Addr}{name qual:Str}{params:apT}{body:List Stmt}{scope:Scope}{B dn g z d cF dK:Value}{an Z:Option Addr}
  {X:Array (Option Value)}{N ps:List Str}{sp:ez}(Y:K.lookup f=some ⟨dK,Z,.func (an6 name qual params body scope B dn g z an d cF),X⟩) (T:apL K d qual=true) (S:hI N ps scope)
  (len:∀vs H Q E,sp vs H Q E->vs.length=ps.length)
  (C:∀(A:amK)(outer:List Env)(s:amg)(H:ax)(vs:List V)(Q:cY)(E:gu),cO k (A.deeper (ao4 qual scope s.heap.objs.size f d))->sp vs H Q E->
   ∃t,iB (hr h P w K mg base N qual scope f d A outer s H E) body t/\t { bt:=λ_ a=>Q .aP a,cx:=Q } (start N vs) H) :
  fc P w K mg base h (k+1) f (an6 name qual params body scope B dn g z an d cF) ps sp:=by
 refine⟨len,λA outer s H args us vs Q E i dZ O r p=>?_⟩;have m:=dZ.mod.tX.keeps λb o e=>(dZ.bs b o e).1
 have F:∀y∈ps.zip us,scope.names.lookup y.1=some .local\/(scope.names.lookup y.1=some .cell/\((cellsFrom (s.heap.objs.size+1) scope.names []).lookup y.1).isSome=true):=λL G=>by
  obtain⟨n,v⟩:=L;rcases S.par n (aoW G).1 with q|q
  .exact .inl q
  .exact .inr ⟨q,aqm _ _ _ (.inl q)⟩
 refine codeAny_call_function i.depth (m _ _ Y) rfl S.co S.gen rfl (W.codeRec_of m T) (O _ _ _ _ ?_);refine wpAny_newFunctionEnv_cells S.kind F λenv he D x=>?_
 subst he;refine⟨(dZ.mod.nolimit.keeps λb o e=>(dZ.bs b o e).1).keeps x.toInCall.keep,codeAny_func ?_⟩;obtain⟨t,R,M⟩:=C A outer s H vs Q E (i.deeper _) p;have I:Inv (hr h P w K mg base N qual scope f d A outer s H E) [] (start N vs) H D:=NF S i.hd dZ (len _ _ _ _ p) r x;refine anc (R [] D (start N vs) H _ I M) (λJ l aw=>?_) λe l aw=>aw
 have fin:∀{U':St}{a:ax}{v:V}{u:Value},Inv (hr h P w K mg base N qual scope f d A outer s H E) [] U' a l->RelV v u->Q v a->jl outer P w H s Q u l:=
  λ{U' a v u} c j q=>⟨v,a,c.os,c.bare,c.base,c.ct,j,q⟩
 cases J with
 |ret u=>
  obtain⟨v,U',a,c,j,q⟩:=aw;exact fin c j q
 |next=>
  obtain⟨U',a,c,q⟩:=aw;exact fin (v:=V.aP) c rfl q
 |brk=>
  obtain⟨_,_,_,q⟩:=aw;exact amV q
 |cont=>
  obtain⟨_,_,_,q⟩:=aw;exact amV q
section
variable{X:aT}{x:Str}{p pos:Pos}{e:Expr}{aD:List Expr}{t:gf}{id T:String}{r:List V->ax->cY->Prop}
def Gp(r:List V->ax->cY->Prop)(t:gf):TE:=λU H Q=>t U H λvs a=>r vs a Q
def aeV(m:jT X (.builtin id) r)(d:eW X x)(n:X.mg x=none)(g:am1 x=some (.builtin id))(f:ho X (e::aD) t)(c:x≠"__name__":=by decide)(l:fV x:=by decide)
  (he:gg X e aD:=by rfl) (k:gT X pos aD:=by rfl):b3 X (.Call (.Name x p) (e::aD) [] pos) (Gp r t):=by
 intro a s U H Q I h;refine anF (qu I d n g ?_ c l);exact PyProof.Rows.callWith_builtin1 (cc (f pos a s U H _ I h) λus o ⟨vs,b,j,i,bE⟩=>m a o U b vs us Q j i bE) he k
def aeW(m:jT X (.type T) r)(d:eW X x)(n:X.mg x=none)(g:am1 x=some (.type T))(f:ho X (e::aD) t)(c:x≠"__name__":=by decide)(l:fV x:=by decide)
  (he:gg X e aD:=by rfl) (k:gT X pos aD:=by rfl):b3 X (.Call (.Name x p) (e::aD) [] pos) (Gp r t):=by
 intro a s U H Q I h;refine anF (qu I d n g ?_ c l);exact anK (cc (f pos a s U H _ I h) λus o ⟨vs,b,j,i,bE⟩=>m a o U b vs us Q j i bE) he k
end
end aC
namespace dg
open PySem PyProof.Rows
def Vy(A:amK)(s:amg)(a:Int)(t:Tok)(c:Int)(u:Tok):∃e,SeqAt.EqAt A s (.int a t) (.int c u) e/\(e=true↔a=c):=
 ⟨(a==c),aqY a t c u,by simp⟩
section
variable{prog:amC}{w:World}{A:amK}{E:dv}{s:amg}
def cD(n d:Nat):Option Int->Nat
 |none=>d|some v=>if v<0 then(v+(n:Int)).toNat else min v.toNat n
def AD(n d:Nat):cD n d none=d:=rfl
def AB(n d k:Nat):cD n d (some (k:Int))=min k n:=by
 show(if(k:Int)<0 then((k:Int)+(n:Int)).toNat else min (k:Int).toNat n)=min k n;rw[if_neg (by omega),ap9]
def agn(n d:Nat)(hd:d<=n)(o:Option Int):cD n d o<=n:=by
 cases o with
 |none=>exact hd|some v=>
  show(if v<0 then(v+(n:Int)).toNat else min v.toNat n)<=n
  by_cases a:v<0
  .rw[if_pos a];omega
  .rw[if_neg a];exact Nat.min_le_right _ _
def JS(v:Int)(n d:Nat):(if v<0 then max (v+(n:Int)) 0 else min v (n:Int))=((cD n d (some v):Nat):Int):=by
 show(if v<0 then max (v+(n:Int)) 0 else min v (n:Int))=(((if v<0 then(v+(n:Int)).toNat else min v.toNat n):Nat):Int)
 by_cases a:v<0
 .simp only[if_pos a];omega
 .simp only[if_neg a];omega
def Sx(lo hi:Option Int)(n:Nat):aoX lo hi 1 (n:Int)=(((cD n 0 lo:Nat):Int),((cD n n hi:Nat):Int)):=by
 have a:¬((1:Int)<0):=by omega
 unfold aoX;refine apq ?_ ?_
 .cases lo with
  |none=>rfl|some v=>exact JS v n 0
 .cases hi with
  |none=>rfl|some v=>exact JS v n n
def afw(i j:Nat):aoh (i:Int) (j:Int) 1=j-i:=by
 unfold aoh;have a:(1:Int) > 0:=by omega
 simp only[a,if_true,Int.ediv_one];split<;>omega
def QN{v:Value}{o:Option Int}{Q:Option Int->amg->Prop}(p:apg v o)(h:Q o s):wpAny (model prog w) A (Builtin.Slice.slicePartIndex v) Q E s:=by
 cases p with
 |none=>exact slicePart_none h|int i t=>exact slicePart_int h
def QM{a3:Addr}{a b:Value}{lo hi:Option Int}{n:Nat}{Q:Int×Int×Nat->amg->Prop}(aw:s.heap.IsSliceOf a3 a b .none)(pl:apg a lo)(e:apg b hi)
  (h:Q (((cD n 0 lo:Nat):Int),1,cD n n hi-cD n 0 lo) s):wpAny (model prog w) A (ap3 (.ref a3) (pure (n:Int))) Q E s:=by
 obtain⟨os,d,f,c⟩:=id aw;unfold ap3 Builtin.Slice.sliceFields;refine mN (mN (aoj d c (x:=a) rfl (mN (aoj d c (x:=b) rfl (mN (aoj d c (x:=.none) rfl (aml ?_)))))));refine mN (slicePart_none ?_);show wpAny _ _ (if((1:Int)==0)=true then _ else _) _ _ s;rw[if_neg (by decide)];refine mN (QN pl (mN (QN e (mN (aml ?_)))));show wpAny _ _ (match aoX lo hi 1 (n:Int)with|(lo,hi)=>pure (lo,(1:Int),aoh lo hi 1)) _ _ s;rw[Sx lo hi n];show wpAny _ _ (pure (((cD n 0 lo:Nat):Int),(1:Int),aoh ((cD n 0 lo:Nat):Int) ((cD n n hi:Nat):Int) 1)) _ _ s;rw[afw];exact aml h
def afs(xs:Array Value)(i k:Nat):((amJ k).filterMap λ(m:Nat)=>xs[((i:Int)+(m:Int)*1).toNat]?).toArray=((xs.toList.drop i).take k).toArray:=by
 have e:(λ(m:Nat)=>xs[((i:Int)+(m:Int)*1).toNat]?)=λm=>xs[i+m]?:=by
  funext m
  have:((i:Int)+(m:Int)*1).toNat=i+m:=by omega
  rw[this]
 rw[e];have:=pick_run xs i k;rw[List.filterMap_map]at this;have aA:((λx=>xs[x]?)∘λx=>i+x)=λm=>xs[i+m]?:=rfl
 rw[aA]at this;rw[this]
def Wk{t a3:Addr}{a:Array Value}{c d:Value}{lo hi:Option Int}{Q:dv}(b:IsTup s.heap t a)(aw:s.heap.IsSliceOf a3 c d .none)(pl:apg c lo)(i:apg d hi)
  (hw:¬(cD a.size 0 lo=0/\cD a.size a.size hi=a.size))
  (h:Q (.ref s.heap.objs.size) { s with heap:=s.heap.push { cls:=.type "tuple",data:=.seq ((a.toList.drop (cD a.size 0 lo)).take (cD a.size a.size hi-cD a.size 0 lo)).toArray } })
  (hsz:a.size<=ami):wpAny (model prog w) A (apt (.ref t) (.ref a3)) Q E s:=by
 have f:sizeOk (.seq ((a.toList.drop (cD a.size 0 lo)).take (cD a.size a.size hi-cD a.size 0 lo)).toArray):=by
  show((a.toList.drop (cD a.size 0 lo)).take (cD a.size a.size hi-cD a.size 0 lo)).toArray.size<=ami;rw[amn,anj,ank,am0];omega
 have l:cD a.size a.size hi<=a.size:=agn _ _ (amj _) hi;obtain⟨os,j,k,n⟩:=id aw;have e:s.TypeIs (.ref a3) "slice":=⟨os,j,k⟩;unfold apt
 try with_reducible refine anG ?_
 skip
 refine mN (wpAny_sequenceKey b.typeIs (by decide) ?_);refine mN (aor (name:=amY "__getitem__") b.typeIs ano
  (aom ano b.typeIs entry_tuple_getitem ?_ (args_tuple_getitem _ _)))
 show wpAny _ _ (aoP (.ref t) >>= _) _ _ s;refine mN (tupleItemsOf_ b ?_);refine mN (wpAny_typeOf e ?_);rw[if_pos (by decide)];refine mN (QM aw pl i ?_);have g:¬((((cD a.size 0 lo:Nat):Int)==0&&(1:Int)==1&&(cD a.size a.size hi-cD a.size 0 lo)==a.size)=true):=by
  intro q;rw[amI,amI]at q;have bE:((cD a.size 0 lo:Nat):Int)=0:=eq_of_beq q.1.1;have bZ:cD a.size a.size hi-cD a.size 0 lo=a.size:=eq_of_beq q.2;exact hw ⟨by omega,by omega⟩
 show wpAny _ _ (if(((cD a.size 0 lo:Nat):Int)==0&&(1:Int)==1&&(cD a.size a.size hi-cD a.size 0 lo)==a.size)=true then _ else _) _ _ s;rw[if_neg g,afs];exact mN (m:=Builtin.Tuple.tupleExact _) (apc (aml ⟨_,rfl,aml h⟩) f)
end
end dg
namespace aC
open PySem PySem.Spec PyProof.Rows
abbrev fF:=St->ax->(Option Int->ax->Prop)->Prop
def vA(X:aT)(e:Option Expr)(t:fF):Prop:=
 ∀(b:c4)(s:amg)(U:St)(H:ax)(Q:Option Int->ax->Prop),Inv X b U H s->t U H Q->
  wpAny (model X.prog X.w) X.A (evalPart e X.env) (λu c=>∃o a,Inv X b U a c/\apg u o/\Q o a) X.ej s
def ahe:fF:=λ_ H Q=>Q none H
def ahj(t:TE):fF:=λU H Q=>t U H λx a=>∃i,x=.int i/\Q (some i) a
def intsAre_of{ns:List Int}:∀{us:List Value},Vals (ns.map V.int) us->aol us ns:=by
 induction ns with
 |nil=>intro us r;cases r;exact .nil
 |cons n ns a=>
  intro us r
  cases r with
  |cons c b=>
   obtain⟨t,e⟩:=c;subst e;exact .cons n t (a b)
section
variable{X:aT}{e:Expr}{te:TE}{lo hi:Option Expr}{fO AR:fF}{pos cz:Pos}
def afx:vA X none ahe:=by
 intro a s U H Q I h;rw[evalPart_none];exact aml ⟨none,H,I,.none,h⟩
def afy(h:b3 X e te):vA X (some e) (ahj te):=by
 intro c s U H Q I hw;rw[evalPart_some];refine cc (h c s U H _ I hw) λu g b=>?_
 obtain⟨x,a,f,d,bE⟩:=b;obtain⟨i,rfl,q⟩:=bE;obtain⟨t,rfl⟩:=d;exact⟨some i,a,f,.int i t,q⟩
def ov(X:aT)(r:V->Option Int->Option Int->ax->cY->Prop):Prop:=
 ∀(a:c4)(s:amg)(U:St)(H:ax)(x:V)(v b c:Value)(lo hi:Option Int)(a3:Addr)(Q:cY),Inv X a U H s->RelV x v->s.heap.IsSliceOf a3 b c .none->apg b lo->apg c hi->r x lo hi H Q->
  ∃T id,typeLookup (.type T) "__getitem__"=pure (some (.builtin id))/\s.TypeIs v T/\wpAny (model X.prog X.w) X.A (apt v (.ref a3)) (i9 X a U Q) X.ej s
def ov.or{r c:V->Option Int->Option Int->ax->cY->Prop}(h:ov X r)(h':ov X c):ov X (λx lo hi H Q=>r x lo hi H Q\/c x lo hi H Q):=by
 intro b s U H x v d f lo hi a3 Q I a aw pl g q;rcases q with q|q
 .exact h b s U H x v d f lo hi a3 Q I a aw pl g q
 .exact h' b s U H x v d f lo hi a3 Q I a aw pl g q
def ahm(r:V->Option Int->Option Int->ax->cY->Prop)(te:TE)(fO AR:fF):TE:=λU H Q=>te U H λx a=>fO U a λl b=>AR U b λu c=>r x l u c Q
def FN{r:V->Option Int->Option Int->ax->cY->Prop}(k:ov X r)(he:b3 X e te)(hl:vA X lo fO)(y:vA X hi AR):b3 X (.Subscript e (.Slice lo hi none cz) pos) (ahm r te fO AR):=by
 intro a s U H Q I h;refine Subscript_ (cc (he a s U H _ I h) λv F d=>?_);refine a4 λc=>?_
 obtain⟨x,j,t,p,bE⟩:=d;refine c ?_;refine wpAny_Slice (cc (hl a F U j _ t bE) λf s2 ⟨l,m,w,pl,bZ⟩=>cc (y a s2 U m _ w bZ) λg s3 d=>?_);refine a4 λc=>?_
 obtain⟨u,i,z,E,A⟩:=d;refine c ?_;refine aml ?_;have D:Inv X a U i { s3 with heap:=s3.heap.push { cls:=.type "slice",data:=.fields #[f,g,.none] } }:=z.kept λb a' q=>B1 _ q
 refine a4 λc=>?_
 obtain⟨T,id,B,o,n⟩:=k a { s3 with heap:=s3.heap.push { cls:=.type "slice",data:=.fields #[f,g,.none] } } U i x v f g l u s3.heap.objs.size Q D p (Heap.IsSliceOf.new ..) pl E A;exact c (tail_any o B n (by with_unfolding_all rfl))
def th(xs:List V)(lo hi:Option Int):List V:=(xs.drop (dg.cD xs.length 0 lo)).take (dg.cD xs.length xs.length hi-dg.cD xs.length 0 lo)
def J1(xs:List V)(lo hi:Option Int):(th xs lo hi).length<=xs.length:=by
 unfold th;rw[anj,ank];omega
def afZ(K:aN):V->Option Int->Option Int->ax->cY->Prop:=λx lo hi H Q=>∃a xs,x=.ref a/\dC K H a xs/\
 ¬(dg.cD xs.length 0 lo=0/\dg.cD xs.length xs.length hi=xs.length)/\∀p,H p=none->Q (.ref p) (upd H p (.t (th xs lo hi)))
theorem QL:ov X (afZ X.K):=by
 intro k s U H x v l m lo hi a3 Q I g aw pl j h;obtain⟨a,xs,rfl,i,hw,q⟩:=h;cases g;obtain⟨d,r,f,hz⟩:=I.tuple i;have c:d.toArray.size=xs.length:=by exact r.length.symm
 refine⟨"tuple",_,ano.lookup,f.typeIs,?_⟩;refine dg.Wk f aw pl j (by rw[c];exact hw) ?_ (by rw[c];exact hz);rw[c];refine⟨.ref s.heap.objs.size,_,I.laid (λb a' q=>B1 _ q) (amj _) ?_,rfl,q _ (I.ct.fresh (amj _))⟩;exact⟨amN (J1 xs lo hi) hz,_,(r.drop (dg.cD xs.length 0 lo)).take (dg.cD xs.length xs.length hi-dg.cD xs.length 0 lo),IsTup.new _ _⟩
end
def oX(n:Nat)(i:Int):Option Nat:=if 0<=i then(if i<n then some i.toNat else none)else if -(n:Int)<=i then some (i+n).toNat else none
def d7{α:Type}(xs:List α)(i:Int):Option α:=(oX xs.length i).bind λj=>xs[j]?
def NL{i:Int}(h:oX n i=some j):seqIndex? i n=some j/\j<n/\-(n:Int)<=i/\i<n:=by
 unfold oX at h
 by_cases b:0<=i
 .rw[if_pos b]at h
  by_cases a:i<n
  .rw[if_pos a]at h
   have e:i.toNat=j:=amH h;exact⟨by rw[seqIndex_of b a,e],by omega,by omega,a⟩
  .rw[if_neg a]at h;cases h
 .rw[if_neg b]at h
  by_cases a:-(n:Int)<=i
  .rw[if_pos a]at h
   have e:(i+n).toNat=j:=amH h;exact⟨by rw[seqIndex_neg (by omega) a,e],by omega,a,by omega⟩
  .rw[if_neg a]at h;cases h
def yu{α:Type}{xs:List α}{i:Int}{v:α}(h:d7 xs i=some v):∃j,seqIndex? i xs.length=some j/\xs[j]? = some v/\j<xs.length/\-(xs.length:Int)<=i/\i<xs.length:=by
 unfold d7 at h
 cases e:oX xs.length i with
 |none=>rw[e]at h;cases h
 |some j=>
  rw[e]at h;obtain⟨a,b,c,d⟩:=NL e;exact⟨j,a,h,b,c,d⟩
def HC{α:Type}{xs:List α}{j:Nat}{v:α}(h:xs[j]? = some v):d7 xs (j:Int)=some v:=by
 have a:=(nu.mp h).1;have e:oX xs.length (j:Int)=some j:=by
  unfold oX;rw[if_pos (by omega),if_pos (by omega)];simp
 unfold d7;rw[e];exact h
def Hl(b:Expr):Prop:=∀o i,aqG b false o i=operate [o,i] (apt o i)
def nh(X:aT)(r:ff):Prop:=
 ∀(value a:Expr)(b:c4)(s:amg)(U:St)(H:ax)(x y:V)(v u:Value)(Q:cY),Inv X b U H s->RelV x v->RelV y u->r x y H Q->
  aqG a false v u=operate [v,u] (apt v u)->wpAny (model X.prog X.w) X.A (subscriptTail value a v u) (i9 X b U Q) X.ej s
def vx(X:aT)(id:String)(r:V->List V->ax->cY->Prop):Prop:=
 ∀(a:c4)(s:amg)(U:St)(H:ax)(x:V)(xs:List V)(v:Value)(us:List Value)(Q:cY),Inv X a U H s->RelV x v->Vals xs us->r x xs H Q->
  wpAny (model X.prog X.w) X.A (call (.builtin id) (v::us)) (i9 X a U Q) X.ej s
section
variable{X:aT}{a b:Expr}{cg cE:TE}{pos:Pos}
def nh.or{r g:ff}(h:nh X r)(h':nh X g):nh X (λx y H Q=>r x y H Q\/g x y H Q):=by
 intro value c e s U H x y v u Q I d f q aw;rcases q with q|q
 .exact h value c e s U H x y v u Q I d f q aw
 .exact h' value c e s U H x y v u Q I d f q aw
def ae5{r:ff}(d:nh X r)(i:b3 X a cg)(f:b3 X b cE)(aw:Hl b):b3 X (.Subscript a b pos) (sC r cg cE):=by
 intro g s U H Q I h;exact Subscript_ (Ct i f I h λv u s2 x y e k c j q=>d a b g s2 U e x y v u Q k c j q (aw _ _))
def Qj(K:aN):ff:=λx y H Q=>∃p xs i v,x=.ref p/\y=.int i/\du K H p xs/\d7 xs i=some v/\Q v H
def Ql(K:aN):ff:=λx y H Q=>∃p xs i v,x=.ref p/\y=.int i/\dC K H p xs/\d7 xs i=some v/\Q v H
def Qk:ff:=λx y H Q=>∃z i c,x=.str z/\y=.int i/\z.length<=ami/\d7 z.cps.toList i=some c/\Q (.str ⟨#[c]⟩) H
def aac:nh X (Qj X.K):=by
 intro value f o s U H x y v u Q I m B h aw;refine a4 λg=>?_
 obtain⟨p,xs,i,z,rfl,rfl,n,he,q⟩:=h;cases m;obtain⟨t,rfl⟩:=B;obtain⟨e,r,pl,hz⟩:=I.list n;obtain⟨j,c,A,J,D,E⟩:=yu he;obtain⟨w,k,F⟩:=r.get A;have hl:=r.length;have G:=tZ;have fin:i9 X o U Q w s:=⟨z,H,I,F,q⟩
 by_cases l:0<=i
 .have d:i.toNat=j:=by
   rw[seqIndex_of l E]at c;exact amH c
  exact g (item_listR pl.isList l (by omega) (by rw[d];simpa using k) fin aw)
 .have d:(i+(e.toArray.size:Int)).toNat=j:=by
   rw[seqIndex_neg (by omega) D]at c;rw[amn,<-hl];exact amH c
  refine g ?_;exact subscriptTail_builtinR pl.isList.typeIs slot_list_getitem.lookup
   (wpAny_getItem_list_neg pl.isList (by omega) (by rw[amn]<;>omega) (by omega) (by rw[d];simpa using k) ⟨rfl,fin⟩) aw
def aae:nh X (Ql X.K):=by
 intro value c g s U H x y v u Q I d l h aw;obtain⟨p,xs,i,z,rfl,rfl,e,he,q⟩:=h;cases d;obtain⟨t,rfl⟩:=l;obtain⟨n,r,pl,hz⟩:=I.tuple e;obtain⟨j,f,k,B,D,E⟩:=yu he;obtain⟨w,m,o⟩:=r.get k;have A:=tZ;have fin:i9 X g U Q w s:=⟨z,H,I,o,q⟩;exact subscriptTail_builtinR pl.typeIs slot_tuple_getitem.lookup
  (getItem_tuple pl (by omega) (by omega) (by rw[amn,<-r.length];exact f) (by simpa using m) ⟨rfl,fin⟩) aw
def aad:nh X Qk:=by
 intro value d o s U H x y v u Q I f k h aw;obtain⟨z,i,c,rfl,rfl,hz,he,q⟩:=h;obtain⟨t,rfl⟩:=f;obtain⟨t',rfl⟩:=k;obtain⟨j,e,g,p,l,m⟩:=yu he;have hl:z.cps.toList.length=z.length:=by simp[Str.length]
 rw[hl]at e l m;have n:=tZ;exact tail_any (typeIs_str s z t) slot_str_getitem.lookup (getItem_str (by
  have ao:decide (i < -(2 ^ 63:Int))=false:=decide_eq_false (by omega);have aA:decide (i≥2 ^ 63)=false:=decide_eq_false (by omega);rw[ao,aA,Bool.or_false]) (by rw[e];simpa using g) ⟨.str ⟨#[c]⟩,H,I.tok _,⟨_,rfl⟩,q⟩) aw
def Qi(K:aN):ff:=λx y H Q=>Qj K x y H Q\/Ql K x y H Q\/Qk x y H Q
def NM:nh X (Qi X.K):=aac.or (aae.or aad)
def abP(c:List Value)(n j:Nat)(u:Value):amO (·.setIfInBounds j u) { cls:=.type "list",data:=.seq c.toArray n }={ cls:=.type "list",data:=.seq (c.set j u).toArray n }:=by
 simp[amO]
noncomputable def Inv.l{d:c4}{U:St}{H:ax}{s:amg}{p:Addr}{xs:List V}(I:Inv X d U H s)(h:H p=some (.l xs)) :
  ∃(c:List Value)(n:Nat),Vals xs c/\s.heap.get? p=some { cls:=.type "list",data:=.seq c.toArray n }/\xs.length<=ami:=by
 obtain⟨z,c,n,r,e⟩:=I.ct p _ h;exact⟨c,n,r,e,z⟩
theorem Inv.abA{i:c4}{U:St}{H:ax}{s:amg}{p:Addr}{xs g:List V}{c its':List Value}{n d:Nat}{f:Obj->Obj}(I:Inv X i U H s)(h:H p=some (.l xs))
  (k:s.heap.get? p=some { cls:=.type "list",data:=.seq c.toArray n }) (j:f { cls:=.type "list",data:=.seq c.toArray n }={ cls:=.type "list",data:=.seq its'.toArray d }) (r:Vals g its') (hz:g.length<=ami) (t:Nat) :
  Inv X i U (upd H p (.l g)) { s with heap:=s.heap.update p f,toks:=t }:=by
 have e:(s.heap.update p f).get? p=some { cls:=.type "list",data:=.seq its'.toArray d }:=by
  rw[Heap.get?_update_self f k (by rw[j]<;>rfl),j]
 refine I.write (x:=p) (e:=p) (by rw[h];trivial) (.inl rfl) (λb u m q=>(aqH _ _ (an4 m)).trans q) ⟨_,e⟩ ?_;exact⟨hz,its',d,r,e⟩
def afX:V->V->V->ax->(ax->Prop)->Prop:=λo i v H Q=>∃p xs k j,o=.ref p/\i=.int k/\H p=some (.l xs)/\oX xs.length k=some j/\Q (upd H p (.l (xs.set j v)))
def set_list:BF X afX:=by
 intro B s U H o i v b6 K u Q I F A D h;refine a4 λm=>?_
 obtain⟨p,xs,k,j,rfl,rfl,g,E,q⟩:=h;cases F;obtain⟨t,rfl⟩:=A;obtain⟨c,n,r,e,hz⟩:=I.l g;obtain⟨d,J,w,x⟩:=NL E;have hl:=r.length;have G:=tZ;have y:Inv X B U (upd H p (.l (xs.set j v))) { s with heap:=s.heap.update p (amO (·.setIfInBounds j u)) }:=
  I.abA g e (abP c n j u) (r.set D j) (by rw[amQ];exact hz) s.toks
 by_cases z:0<=k
 .have f:k.toNat=j:=by
   rw[seqIndex_of z x]at d;exact amH d
  exact m (W.ki_setAt e z (by omega) (by rw[amn,<-hl];exact x) (by rw[f];exact⟨_,y,q⟩))
 .have f:(k+(c.toArray.size:Int)).toNat=j:=by
   rw[seqIndex_neg (by omega) w]at d;rw[amn,<-hl];exact amH d
  exact m (W.ki_setBack e (by omega) (by rw[amn,<-hl];exact w) (by omega) (by rw[f];exact⟨_,y,q⟩))
def QO(lo hi:Option Int)(n:Nat):(aok lo hi none n).1=((dg.cD n 0 lo:Nat):Int)/\(aok lo hi none n).2.1=((dg.cD n n hi:Nat):Int)/\(aok lo hi none n).2.2=1:=by
 refine⟨?_,?_,rfl⟩
 .cases lo with
  |none=>simp[aok,dg.cD]|some i=>
   simp only[aok,dg.cD,Option.getD_none,show(1:Int) > 0 by decide,if_true]
   by_cases h:i<0
   .simp only[h,if_true]<;>omega
   .simp only[h,if_false]<;>omega
 .cases hi with
  |none=>simp[aok,dg.cD]|some i=>
   simp only[aok,dg.cD,Option.getD_none,show(1:Int) > 0 by decide,if_true]
   by_cases h:i<0
   .simp only[h,if_true]<;>omega
   .simp only[h,if_false]<;>omega
def agC(c:List Value)(lo hi:Option Int):slicePick c.toArray lo hi none=((c.drop (dg.cD c.length 0 lo)).take (dg.cD c.length c.length hi-dg.cD c.length 0 lo)).toArray:=by
 obtain⟨d,e,f⟩:=QO lo hi c.toArray.size;unfold slicePick;rw[d,e,f];simp only[sliceRange_one,pick_run]<;>rfl
def afY(K:aN):V->Option Int->Option Int->ax->cY->Prop:=λx lo hi H Q=>∃a xs,x=.ref a/\du K H a xs/\∀p,H p=none->Q (.ref p) (upd H p (.l (th xs lo hi)))
theorem agz:ov X (afY X.K):=by
 intro j s U H x v k l lo hi a3 Q I e aw pl i h;obtain⟨a,xs,rfl,f,q⟩:=h;cases e;obtain⟨g,r,d,hz⟩:=I.list f;have c:=r.length;refine⟨"list",_,slot_list_getitem.lookup,d.isList.typeIs,?_⟩;refine wpAny_getItem_list_slice d.isList aw pl i .none (by simp) ?_ (by rw[amn]<;>omega);rw[agC,<-c];refine⟨.ref s.heap.objs.size,_,I.laid (λb a' q=>B1 _ q) (amj _) ?_,rfl,q _ (I.ct.fresh (amj _))⟩;exact⟨amN (J1 xs lo hi) hz,_,0,(r.drop (dg.cD xs.length 0 lo)).take (dg.cD xs.length xs.length hi-dg.cD xs.length 0 lo),amq _ rfl⟩
def nG:V->Bool
 |.aP=>true|.ay _=>true|.int _=>true|.str _=>true|_=>false
def nE:V->V->Bool
 |.aP,.aP=>true|.ay a,.ay b=>a==b|.ay a,.int b=>(if a then 1 else 0)==b|.int a,.ay b=>a==(if b then 1 else 0)|.int a,.int b=>a==b|.str a,.str b=>a==b|_,_=>false
theorem Vx{s:amg}{u v:Value}(d:RelV y u)(c:RelV x v)(f:nG y=true)(e:nG x=true):SeqAt.EqAt A s u v (nE y x):=by
 cases y with
 |aP=>
  cases d
  cases x with
  |aP=>cases c;exact SeqAt.EqAt.same _
  |ay b=>cases c;exact SeqAt.EqAt.none_bool b
  |int b=>obtain⟨t,rfl⟩:=c;exact SeqAt.EqAt.none_int b t
  |str b=>obtain⟨t,rfl⟩:=c;exact SeqAt.EqAt.none_str b t
  |_=>exact absurd (show false=true from e) amm
 |ay a=>
  cases d
  cases x with
  |aP=>cases c;exact SeqAt.EqAt.bool_none a
  |ay b=>cases c;exact SeqAt.EqAt.bool_bool a b
  |int b=>obtain⟨t,rfl⟩:=c;exact SeqAt.EqAt.bool_int a b t
  |str b=>obtain⟨t,rfl⟩:=c;exact SeqAt.EqAt.bool_str a b t
  |_=>exact absurd (show false=true from e) amm
 |int a=>
  obtain⟨t',rfl⟩:=d
  cases x with
  |aP=>cases c;exact SeqAt.EqAt.int_none a t'
  |ay b=>cases c;exact SeqAt.EqAt.int_bool a t' b
  |int b=>obtain⟨t,rfl⟩:=c;exact aqY a t' b t
  |str b=>obtain⟨t,rfl⟩:=c;exact aqV a t' b t
  |_=>exact absurd (show false=true from e) amm
 |str a=>
  obtain⟨t',rfl⟩:=d
  cases x with
  |aP=>cases c;exact SeqAt.EqAt.str_none a t'
  |ay b=>cases c;exact SeqAt.EqAt.str_bool a t' b
  |int b=>obtain⟨t,rfl⟩:=c;exact aqW a t' b t
  |str b=>obtain⟨t,rfl⟩:=c;exact SeqAt.EqAt.str_str a t' b t
  |_=>exact absurd (show false=true from e) amm
 |_=>exact absurd (show false=true from f) amm
def oJ(x:V)(u:Value):Bool:=match u with
 |.none=>nE .aP x|.bool b=>nE (.ay b) x|.int i _=>nE (.int i) x|.str z _=>nE (.str z) x|_=>false
theorem L8(r:RelV y u)(f:nG y=true):oJ x u=nE y x:=by
 cases y with
 |aP=>cases r;rfl
 |ay b=>cases r;rfl
 |int i=>obtain⟨t,rfl⟩:=r;rfl
 |str z=>obtain⟨t,rfl⟩:=r;rfl
 |_=>exact absurd (show false=true from f) amm
theorem BX:∀{xs:List V}{us:List Value},Vals xs us->xs.all nG=true->us.any (oJ x)=xs.any λy=>nE y x
 |_,_,.nil,_=>rfl|y::xs,u::us,.cons r t,f=>by
  rw[aoQ,amI]at f;rw[aoR,aoR,L8 r f.1,BX t f.2]
theorem E_{s:amg}{v:Value}(d:RelV x v)(e:nG x=true):∀{xs:List V}{us:List Value},Vals xs us->xs.all nG=true->∀u∈us,SeqAt.EqAt A s u v (oJ x u)
 |_,_,.nil,_=>λu c=>by cases c
 |y::xs,u::us,.cons r t,f=>λu' c=>by
  rw[aoQ,amI]at f;rcases amw.mp c with rfl|c
  .rw[L8 r f.1];exact Vx r d f.1 e
  .exact E_ d e t f.2 u' c
def Ee(x:V)(xs:List V):Bool:=xs.any λy=>nE y x
def Qg(K:aN)(neg:Bool):ff:=λx y H Q=>∃p xs,y=.ref p/\(du K H p xs\/dC K H p xs)/\nG x=true/\xs.all nG=true/\Q (.ay (if neg then !Ee x xs else Ee x xs)) H
def Pr:dX X (amW .In) (Qg X.K false):=by
 intro i s U H x y v u Q I e g h;obtain⟨p,xs,rfl,d,f,fs,q⟩:=h;cases g;rcases d with d|d
 .obtain⟨c,r,pl,hz⟩:=I.list d
  refine SeqAt.in_listAt (oJ x) pl.isList (λw hw=>E_ e f r fs w (by simpa using hw)) ⟨.ay _,H,I,rfl,?_⟩;rw[show c.toArray.any (oJ x)=c.any (oJ x)by simp,BX r fs];exact q
 .obtain⟨c,r,pl,hz⟩:=I.tuple d
  refine SeqAt.in_tupleAt (oJ x) pl (λw hw=>E_ e f r fs w (by simpa using hw)) ⟨.ay _,H,I,rfl,?_⟩;rw[show c.toArray.any (oJ x)=c.any (oJ x)by simp,BX r fs];exact q
def UH:jT X (.builtin "len") (λxs H Q=>∃p d,xs=[.ref p]/\(du X.K H p d\/dC X.K H p d)/\Q (.int d.length) H):=by
 intro k s U H xs us Q I r h;obtain⟨p,d,rfl,e,q⟩:=h;obtain⟨u,rfl,i⟩:=vals1 r;cases i;have j:=tZ;rcases e with e|e
 .obtain⟨g,f,pl,hz⟩:=I.list e
  have c:=f.length;exact Calls.call_len_list pl.isList (by simp only[amn]<;>omega) ⟨.int d.length,H,I.tok _,⟨s.toks+1,by rw[amn,c]⟩,q⟩
 .obtain⟨g,f,pl,hz⟩:=I.tuple e
  have c:=f.length;exact len_tuple pl (by simp only[amn]<;>omega) ⟨.int d.length,H,I.tok _,⟨s.toks+1,by rw[amn,c]⟩,q⟩
def UI:jT X (.builtin "len") (λxs H Q=>∃z,xs=[.str z]/\z.length<=ami/\Q (.int z.length) H):=by
 intro d s U H xs us Q I r h;obtain⟨z,rfl,hz,q⟩:=h;obtain⟨u,rfl,t,rfl⟩:=vals1 r;have c:=tZ;exact len_str (by omega) ⟨.int z.length,H,I.tok _,⟨_,rfl⟩,q⟩
theorem UJ:jT X (.type "list") (λxs H Q=>∃p f,xs=[.ref p]/\(du X.K H p f\/dC X.K H p f)/\∀l,H l=none->Q (.ref l) (upd H l (.l f))):=by
 intro x s U H xs us Q I r h;obtain⟨p,f,rfl,g,q⟩:=h;obtain⟨u,rfl,t⟩:=vals1 r;cases t;have fin:∀(c:List Value),Vals f c->f.length<=ami->∀(h':Heap)(c':Nat),(∀b m,s.heap.get? b=some m->h'.get? b=some m)->
   h'.get? s.heap.objs.size=some { cls:=.type "list",dict:=none,data:=.seq c.toArray c',slots:=#[] }->i9 X x U Q (.ref s.heap.objs.size) { s with heap:=h' }:=λc d hz h' c' kp e=>
  ⟨.ref s.heap.objs.size,_,I.laid (t':=s.toks) kp (amj _) (show h_ X.prog X.w _ h' _ (.l f)from⟨hz,c,c',d,e⟩),rfl,q _ (I.ct.fresh (amj _))⟩
 rcases g with g|g
 .obtain⟨c,d,pl,hz⟩:=I.list g
  have i:=d.length;obtain⟨o,j,k,n,hd⟩:=pl.isList;exact call_list_seq p (.inl rfl) j k hd (λh' c' kp e=>fin c d hz h' c' kp e) (by simp only[amn]<;>omega)
 .obtain⟨c,d,pl,hz⟩:=I.tuple g
  have i:=d.length;obtain⟨o,j,k,n,hd⟩:=pl;exact call_list_seq p (.inr rfl) j k hd (λh' c' kp e=>fin c d hz h' c' kp e) (by simp only[amn]<;>omega)
theorem UL:jT X (.type "tuple") (λxs H Q=>∃p d,xs=[.ref p]/\((du X.K H p d/\∀l,H l=none->Q (.ref l) (upd H l (.t d)))\/(dC X.K H p d/\Q (.ref p) H))):=by
 intro m s U H xs us Q I r h;obtain⟨p,d,rfl,h⟩:=h;obtain⟨u,rfl,j⟩:=vals1 r;cases j;rcases h with⟨C,q⟩|⟨C,q⟩
 .obtain⟨c,f,pl,hz⟩:=I.list C
  have i:=f.length;refine call_tuple_list pl.isList (λh' kp=>?_) (by simp only[amn]<;>omega);have g:=I.kept (t':=s.toks) kp;have k:=
   g.laid (t':=s.toks) (λb o e=>B1 _ e) (amj _) (show h_ X.prog X.w _ _ _ (.t d)from⟨hz,c,f,IsTup.new _ _⟩)
  exact⟨.ref h'.objs.size,_,k,rfl,q _ (g.ct.fresh (amj _))⟩
 .obtain⟨c,f,pl,hz⟩:=I.tuple C
  exact call_tuple_same pl ⟨.ref p,H,I,rfl,q⟩
def AZ(K:aN)(T:String)(x:V)(H:ax):Prop:=match x with
 |.str _=>T="str"|.int _=>T="int"|.ref p=>(T="list"/\∃xs,du K H p xs)\/(T="tuple"/\∃o,K.lookup p=some o/\o.cls=.type "tuple"/\o.dict=none)\/
   (T="dict"/\((∃c,H p=some (.ti c))\/∃c,H p=some (.gx c)))\/(T="set"/\∃S n,H p=some (.set S n))
 |_=>False
def Rc{s:amg}{v:Value}(I:Inv X af U H s)(r:RelV x v)(ty:AZ X.K T x H) :
  s.TypeIs v T/\∀a,v=.ref a->∃a',s.heap.get? a=some a'/\a'.dict=none:=by
 refine a4 λd=>?_
 cases x with
 |str z=>
  obtain⟨t,rfl⟩:=r;cases(show T="str" from ty);exact d ⟨typeIs_str s z t,λ_ e=>nomatch e⟩
 |int i=>
  obtain⟨t,rfl⟩:=r;cases(show T="int" from ty);exact d ⟨typeIs_int s i t,λ_ e=>nomatch e⟩
 |ref p=>
  cases r;rcases ty with⟨rfl,xs,a_⟩|⟨rfl,o,C,hc,hd⟩|⟨rfl,C⟩|⟨rfl,S,n,C⟩
  .obtain⟨f,_,pl,_⟩:=I.list a_
   refine d ⟨pl.isList.typeIs,λa e=>?_⟩;cases e;refine a4 λd=>?_
   obtain⟨o,n,e,c,hd,_⟩:=pl;exact d ⟨o,e,hd⟩
  .refine d ⟨⟨o,I.gj p o C,hc⟩,λa e=>?_⟩
   cases e;exact⟨o,I.gj _ o C,hd⟩
  .have z:∃o,s.heap.get? p=some o/\o.ExactDict:=by
    refine a4 λd=>?_
    rcases C with⟨bG,C⟩|⟨bG,C⟩
    .obtain⟨_,_,_,_,o,_,_,e,ex,_⟩:=I.ct p _ C
     exact d ⟨o,e,ex⟩
    .obtain⟨_,_,_,_,o,_,_,e,ex,_⟩:=I.ct p _ C
     exact d ⟨o,e,ex⟩
   obtain⟨o,e,ex⟩:=z;refine d ⟨⟨o,e,ex.1⟩,λa aA=>?_⟩;cases aA;exact⟨o,e,ex.2.1⟩
  .obtain⟨o,_,_,_,e,ex,_⟩:=I.ct p _ C
   refine d ⟨⟨o,e,ex.1⟩,λa aA=>?_⟩;cases aA;exact⟨o,e,ex.2.1⟩
 |_=>exact d (amV ty)
def ag5(K:aN)(T:String)(r:V->List V->ax->cY->Prop)(to:TE):TE:=λU H Q=>to U H λx c=>AZ K T x c/\r x [] c Q
def ag4(K:aN)(T:String)(r:V->List V->ax->cY->Prop)(to:TE)(t:gf):TE:=λU H Q=>to U H λx c=>AZ K T x c/\t U c λxs d=>r x xs d Q
variable{o e:Expr}{aD:List Expr}{to:TE}{t:gf}{name:Str}{apos dT:Pos}{T id:String}{r:V->List V->ax->cY->Prop}
def aeS(g:PlainAttrs T)(slot:Slot T name id)(u:typeOf (.builtin id)=pure (.type "method_descriptor"))(n:vx X id r)(j:b3 X o to)
  (p:anS o name X.env (eval o X.env)=eval o X.env:=by rfl) (q:(apos.endLine==dT.line)=true:=by rfl):b3 X (.Call (.Attribute o name apos) [] [] dT) (ag5 X.K T r to):=by
 intro c s U H Q I h;refine wpAny_Call_method0_late p q (cc (j c s U H _ I h) λv w k=>?_);obtain⟨x,i,f,d,ty,bE⟩:=k;obtain⟨l,m⟩:=Rc f d ty;exact⟨T,id,g,slot,u,l,m,aph rfl (PySem.evalArgs_none (n c w U i x [] v [] Q f d .nil bE))⟩
def FK(i:PlainAttrs T)(slot:Slot T name id)(D:typeOf (.builtin id)=pure (.type "method_descriptor"))(y:vx X id r)(l:b3 X o to)(q:ho X (e::aD) t)
  (A:anS o name X.env (eval o X.env)=eval o X.env:=by rfl)
  (E:((aoD dT (am2 (e::aD) X.env)).all (λx=>!x.1)&&(aqj dT (apf [] X.env)).all (λx=>x.1.isSome)
&&decide ((e::aD).length+([]:List ao9).length+(if([]:List ao9).isEmpty then 0 else 1)<30))=true:=by rfl)
  (B:(apos.endLine==dT.line)=true:=by rfl) (aw:gg X e aD:=by rfl) (z:gT X dT aD:=by rfl) :
  b3 X (.Call (.Attribute o name apos) (e::aD) [] dT) (ag4 X.K T r to t):=by
 intro c s U H Q I h;refine wpAny_Call_method_late A E B rfl (cc (l c s U H _ I h) λv F m=>?_);obtain⟨x,j,f,d,ty,bE⟩:=m;obtain⟨n,p⟩:=Rc f d ty;refine⟨T,id,i,slot,D,n,p,?_⟩;have g:=q dT c F U j _ f bE;rw[aw]at g ⊢;refine aph (by show(false||(aoD dT (am2 aD X.env)).any (·.1))=false;rw[z]<;>rfl) (Calls.evalArgs_plain ?_);exact cc g λus s2 ⟨vs,k,w,u,bZ⟩=>y c s2 U k x vs v us Q w d u bZ
end
def vw(X:aT)(id:String)(r:V->List V->ax->cY->Prop):Prop:=
 ∀(a:c4)(s:amg)(U:St)(H:ax)(x:V)(xs:List V)(v:Value)(us:List Value)(Q:cY),Inv X a U H s->RelV x v->Vals xs us->r x xs H Q->
  wpAny (model X.prog X.w) X.A (call (.builtin id) (v::us)) (i9 X a U Q) X.ej s
def Vals.one:∀{x:V}{us:List Value},Vals [x] us->∃u,us=[u]/\RelV x u
 |_,_,.cons r .nil=>⟨_,rfl,r⟩
section
variable{X:aT}{af:c4}{U:St}{H:ax}{s:amg}{l:Addr}{xs ys:List V}
def Inv.EP{a its':List Value}{n:Nat}{f:Array Value->Array Value}{t':Nat}(I:Inv X af U H s)(g:H l=some (.l xs))
  (e:s.heap.get? l=some { cls:=.type "list",data:=.seq a.toArray n }) (h:f a.toArray=its'.toArray) (c:Vals ys its') (hz:ys.length<=ami) :
  Inv X af U (upd H l (.l ys)) { s with heap:=s.heap.update l (amO f),toks:=t' }:=by
 have q:=IsL.update e f;rw[h]at q;refine I.write (by rw[g];exact trivial) (.inl rfl) (λi u b d=>(aqH s.heap (amO f) (an4 b)).trans d) ⟨_,q⟩ ?_;exact⟨hz,its',_,c,q⟩
def Inv.Ow{t':Nat}(I:Inv X af U H s)(a:Vals ys its)(hz:ys.length<=ami) :
  Inv X af U (upd H s.heap.objs.size (.l ys)) { s with heap:=s.heap.push { cls:=.type "list",data:=.seq its.toArray },toks:=t' }:=
 I.laid (λ_ _ q=>B1 _ q) (amj _) ⟨hz,its,0,a,amq _ rfl⟩
def Inv.fresh(I:Inv X af U H s):H s.heap.objs.size=none:=I.ct.fresh (amj _)
def Inv.t2(I:Inv X af U H s)(b:H l=some (.l xs)):xs.length<=ami/\∃(a:List Value)(n:Nat),Vals xs a/\xs.length=a.length/\s.heap.get? l=some { cls:=.type "list",data:=.seq a.toArray n }:=by
 obtain⟨z,a,n,r,e⟩:=I.ct l _ b;exact⟨z,a,n,r,r.length,e⟩
def O9(h:n<=ami):aon n=false:=decide_eq_false (by omega)
end
section
variable{X:aT}
def Qc:V->List V->ax->cY->Prop:=λx vs H Q=>∃l xs y,x=.ref l/\vs=[y]/\H l=some (.l xs)/\xs.length<ami/\Q .aP (upd H l (.l (xs++[y])))
def E':vw X "list.append" Qc:=by
 intro g s U H x vs v us Q I c d h;obtain⟨l,xs,y,rfl,rfl,b,hz,q⟩:=h;cases c;obtain⟨u,rfl,f⟩:=d.one;obtain⟨z,a,n,r,hl,e⟩:=I.t2 b;refine call_meets F.slot_list_append ⟨_,e,rfl⟩ F.entry_list_append (F.args_list_append_2 _ _) (PySem.list_append l a.toArray n u (by rw[amn];omega)) ⟨e,?_⟩;refine⟨.aP,_,I.EP b e (by simp) (r.append (.cons f .nil)) ?_,rfl,q⟩;rw[amf,anl];omega
def Qf:V->List V->ax->cY->Prop:=λx vs H Q=>∃l b xs a,x=.ref l/\vs=[.ref b]/\H l=some (.l xs)/\H b=some (.l a)/\xs.length+a.length<=ami/\Q .aP (upd H l (.l (xs++a)))
def ab2:vw X "list.extend" Qf:=by
 intro p s U H x vs v us Q I g j h;obtain⟨l,b,xs,y,rfl,rfl,d,o,hz,q⟩:=h;cases g;obtain⟨u,rfl,k⟩:=j.one;cases k;obtain⟨z,a,n,r,hl,e⟩:=I.t2 d;obtain⟨t,c,m,i,w,aA⟩:=I.t2 o;have hsz:a.toArray.size+c.toArray.size<=ami:=by rw[amn,amn];omega
 have f:¬(!a.toArray.isEmpty&&aon (a.toArray.size+c.toArray.size))=true:=by
  rw[O9 hsz,Bool.and_false];exact amm
 refine call_meets F.slot_list_extend ⟨_,e,rfl⟩ F.entry_list_extend (F.args_list_extend_2 _ _)
  (AutoSeq1.list_extend_list_list_0 l a.toArray n b c.toArray m f (by omega) (by omega)) ⟨e,aA,?_⟩
 refine⟨.aP,_,I.EP d e (by simp) (r.append i) ?_,rfl,q⟩;rw[amf];omega
def Qd:ff:=λx y H Q=>∃l b xs a,x=.ref l/\y=.ref b/\H l=some (.l xs)/\H b=some (.l a)/\xs.length+a.length<=ami/\∀p,H p=none->Q (.ref p) (upd H p (.l (xs++a)))
def Pn:dX X (an0 .Add) Qd:=by
 intro m s U H x y v u Q I d g h;obtain⟨l,b,xs,w,rfl,rfl,j,k,hz,q⟩:=h;cases d;cases g;obtain⟨z,a,n,r,hl,e⟩:=I.t2 j;obtain⟨o,c,p,f,t,aA⟩:=I.t2 k;refine P.add_list e aA ?_ (by rw[amn,amn];omega);have i:a.toArray++c.toArray=(a++c).toArray:=by simp
 rw[i];exact⟨.ref _,_,I.Ow (r.append f) (by rw[amf];omega),rfl,q _ I.fresh⟩
end
end aC
namespace G0
open PySem PySem.W PySem.Calls PyProof.Rows
def Z0:∀(ns:List Int)(vs:List Value),WellAll P h vs (ns.map WData.int)->aol vs ns:=by
 intro ns
 induction ns with
 |nil=>
  intro vs w;rw[List.map_nil]at w;cases w;exact .nil
 |cons n ns c=>
  intro vs w;rw[amt]at w
  cases w with
  |cons a b=>
   cases a;exact .cons _ _ (c _ b)
def agq{l:OpenLaw}{n:Nat}(m:l.most=some n){P:Params}{h:Heap}{args:List WData}{b:List Value}
  (j:l.row.toRowW.claim.pre args=true) (k:WellAll P h b args) :
  ∃a vs ns,b=[ana a]/\args=[WData.list (ns.map WData.int)]/\h.get? a=some { cls:=.type "list",data:=.seq vs.toArray }/\aol vs ns/\ns.length<=n:=by
 have x:WShape.hasAll [] args [.list .int]=true:=(pre_splitW j).1;have i:l.pre.holds [] { args:=args }=true:=(pre_splitW j).2;obtain⟨d,r,rfl,p,s⟩:=hasAllW_cons x;obtain rfl:=hasAllW_nil s;obtain⟨xs,rfl,t⟩:=hasW_list p;obtain⟨ns,rfl⟩:=items_int t;have e:ns.length<=n:=by
  unfold OpenLaw.pre at i;have f:(WTm.not (.lt (.lit (.int (n:Int))) (.len (.arg 0)))).holds [] { args:=[.list (ns.map .int)] }=true:=by
   have f:=(holds_andW i).1;rw[m]at f;exact f
  have g:=condW_of f (w_not (w_lt w_lit (w_len_list (w_arg rfl))));rw[amh]at g;refine Nat.le_of_not_lt λq=>?_
  have y:(n:Int)<((ns.length:Nat):Int):=by omega
  (simp at g;omega)
 cases k with
 |cons u w=>
  cases w
  cases u with
  |list o c=>exact⟨_,_,ns,rfl,rfl,o,Z0 ns _ c,e⟩
def afz(l:OpenLaw)(args:List WData):l.row.toRowW.claim.post args (.bool true) args=true:=
 postW_of (r:=l.row.toRowW) (X:=(true==true))
  (show WShape.has [] (.bool true) .bool=true by rfl)
  (show(WTm.eq .res (.lit (.bool true))).value [] { args:=args,res:=some (.bool true),after:=args }=some (.bool (true==true))from w_eq_bool (w_res rfl) w_lit) rfl
def SS{l:OpenLaw}{n:Nat}{q:amC}{c:List Str}{t:(Str->Option Value)->Heap->Prop}{p:World->Heap->Prop}{d:DefRec}
  (z:l.most=some n) (x:d.params.defaults=[])
  (call:∀(w:World)(gY b:amg)(mg j:bf)(fa:Addr)(o:Obj)(k cd e:Value)(a:Addr)(vs:List Value)(ns:List Int),
   Ground q c [] t w gY mg j b.heap->p w b.heap->
   b.heap.get? fa=some o->o.data=.func (docDef d.name d.params d.body d.scope k cd e)->b.heap.CodeRec cd d.name->mg d.name=some (.ref fa)->
   b.heap.get? a=some { cls:=.type "list",data:=.seq vs.toArray }->aol vs ns->ns.length<=n->b.gens=#[]->
   aoT (model l.prog w) aqh (.call (.ref fa) ⟨[.ref a],[]⟩) (λr i=>r=.ok (.ret (.bool true))/\OldK b.heap i.heap/\i.os=b.os/\aps i.gens) b) :
  WalkO q c t p l.row.toRowW d [] (λf vs=>PySem.call f vs):=by
 intro w gY b mg j G Y fa o k cd e O dn B hd M m P A args s as Q F J u H;obtain rfl:O=.none:=Dflts.none m x;obtain rfl:dn=.none:=Dflts.noKw m;obtain⟨a,vs,ns,rfl,rfl,y,g,h⟩:=agq z Q u;refine enter_call (aoF (call w gY b mg j fa o k cd e a vs ns G Y B (fd_plain hd) M P y g h A) λr i D=>?_);obtain⟨rfl,E,K,L⟩:=D;exact⟨.inl ⟨.bool true,.bool true,[],rfl,λ_=>rfl,.bool true,afz l _,λ_=>⟨List.Pairwise.nil,λ_ N=>(nomatch N)⟩⟩,E,K,L⟩
end G0
namespace aC
open PySem PySem.Spec PyProof.Rows
theorem Rh:∀{vs:List Value}{ns:List Int},aol vs ns->Vals (ns.map V.int) vs
 |_,_,.nil=>.nil|_,_,.cons n t h=>.cons ⟨t,rfl⟩ (Rh h)
abbrev iL{K:aN}{h:Heap}(_:K.In h):aN:=K
def inClass(s:Stmt)(j:Nat):Stmt:=match s with
 |.ClassDef _ _ _ body _ _ _ _ _ _ _=>body.getD j (.Pass ⟨0,0,0,0⟩)|_=>.Pass ⟨0,0,0,0⟩
def iS(s:Stmt):apT:=match s with
 |.FunctionDef _ a _ _ _ _ _ _ _ _=>a|_=>{ posonlyargs:=[],args:=[],vararg:=none,kwonlyargs:=[],kw_defaults:=[],kwarg:=none,defaults:=[] }
def fH(s:Stmt):List Stmt:=match s with
 |.FunctionDef _ _ b _ _ _ _ _ _ _=>b|_=>[]
def dr(s:Stmt):Scope:=match s with
 |.FunctionDef _ _ _ _ _ _ a _ _ _=>a|_=>{ kind:=.function,names:=[],isGenerator:=false,isCoroutine:=false }
abbrev eR:m':=λ_ _ _ _ _ _=>False
abbrev jU:gu:=λ_ _ _=>False
def uN:Passes eR X jU:=λ_ _ _ _ _ _ _ h=>h.elim
structure lj(K:aN)(x qual:Str)(st:Stmt)(f:Addr)(fd:anp):Prop where
 ex:∃(dK:Value)(od:Option Addr)(dn doc pm:Value)(an:Option Addr)(bV cF:Value)(gn:Array (Option Value)),
  fd=an6 x qual (iS st) (fH st) (dr st) .none dn doc pm an bV cF/\K.lookup f=some ⟨dK,od,.func fd,gn⟩/\apL K bV qual=true
 kp:an8 K (.ref f)=true
section
variable{P:amC}{w:World}{K:aN}{mg:bf}{base:Heap}
def lj.ok{x qual:Str}{st:Stmt}{f:Addr}{b:anp}{N ps:List Str}{k:Nat}{sp:ez}(F:lj K x qual st f b)(S:hI N ps (dr st))(len:∀vs H Q E,sp vs H Q E->vs.length=ps.length)
  (l:∀(a:Value)(A:amK)(outer:List Env)(s:amg)(H:ax)(vs:List V)(Q:cY)(E:gu),cO k (A.deeper (ao4 qual (dr st) s.heap.objs.size f a))->sp vs H Q E->
   ∃t,iB (hr eR P w K mg base N qual (dr st) f a A outer s H E).gW (fH st) t/\t { bt:=λ_ c=>Q .aP c,cx:=Q } (start N vs) H):fc P w K mg base eR (k+1) f b ps sp:=by
 obtain⟨dK,n,dn,e,o,an,a,cF,m,rfl,j,g⟩:=F.ex;refine Di j g S len λA outer s H vs Q E d i=>?_
 obtain⟨t,h,q⟩:=l a A outer s H vs Q E d i;exact⟨t,h.gW,q⟩
def lj.binds{x qual:Str}{st:Stmt}{f:Addr}{d:anp}{ps:List Str}(F:lj K x qual st f d)
  (h:∀(dn a c:Value)(an:Option Addr)(b cF:Value)(us:List Value),us.length=ps.length->aoI (an6 x qual (iS st) (fH st) (dr st) .none dn a c an b cF) ⟨us,[]⟩=pure (ps.zip us)):Binds K d ps []:=by
 obtain⟨dK,j,dn,a,c,an,b,cF,g,rfl,i,e⟩:=F.ex;exact .all (h dn a c an b cF)
def y4{x qual:Str}{st:Stmt}{f:Addr}{dK:Value}{g an:Option Addr}{e:Array (Option Value)}{dn a d b cF:Value}(l:K.lookup f=some ⟨dK,g,.func (an6 x qual (iS st) (fH st) (dr st) .none dn a d an b cF),e⟩)
  (c:apL K b qual=true) (k:an8 K (.ref f)=true):lj K x qual st f (an6 x qual (iS st) (fH st) (dr st) .none dn a d an b cF):=⟨⟨dK,g,dn,a,d,an,b,cF,e,rfl,l,c⟩,k⟩
end
def gD(h:n<=1000):n<ami:=Nat.lt_of_le_of_lt h (by decide)
def nS{A B:Prop}(h:B):if false=true then A else B:=h
def nT{A B:Prop}(h:A):if true=true then A else B:=h
end aC
set_option maxHeartbeats 4000000
namespace aC
open PySem PySem.Spec PyProof.Rows
section
variable{κ:Type}[DecidableEq κ]
def GB(a:List (κ×V))(k:κ):Option V:=(a.find? λb=>decide (b.1=k)).map (·.2)
end
def aau(r:RelV (dn k) u):(h1 P w).is k u=true:=by
 cases k with
 |inl i=>obtain⟨t,e⟩:=(show ∃t,u=aqA i t from r);subst e;exact abX P w i t
 |inr x=>obtain⟨t,e⟩:=(show ∃t,u=aqB x t from r);subst e;exact abY P w x t
theorem Ei:∀{a:List Key}{us:List Value},Vals (a.map dn) us->ItemsAre (h1 P w) a us
 |[],_,r=>by cases r;exact .nil
 |k::a,_,r=>by
  cases r with
  |cons h t=>exact .cons (aau h) (Ei t)
section
variable{X:aT}{af:c4}{U:St}{H:ax}{s:amg}{a:Addr}
def Inv.big(I:Inv X af U H s):aog<s.heap.objs.size:=by
 exact Nat.lt_trans (by decide) ((I.mod.glob.keeps I.bk).lt)
def Va{h':Heap}{t':Nat}(I:Inv X af U H s)(d:vy (H a))(aw:ao1 a s.heap h')(he:∃q,h'.get? a=some q)(new:h_ X.prog X.w (upd H a a') h' a a') :
  Inv X af U (upd H a a') { s with heap:=h',toks:=t' }:=
 I.write d (.inl rfl) (λb q c z=>(aw.2 b c).trans z) he new
end
def vz(i:Expr):Prop:=∀b6 a,aqG i false b6 a=operate [b6,a] (apt b6 a)
def QX{prog:amC}{w:World}{A:amK}{E:dv}{s:amg}{env:Env}{value a:Expr}{pos:Pos}{T id:String}{Q:dv}
  (hl:typeLookup (.type T) "__getitem__"=pure (some (.builtin id))) (aw:vz a)
  (h:wpAny (model prog w) A (eval value env) (λo d=>wpAny (model prog w) A (eval a env) (λi b=>b.TypeIs o T/\wpAny (model prog w) A (apt o i) Q E b) E d) E s) :
  wpAny (model prog w) A (eval (.Subscript value a pos) env) Q E s:=by
 refine Subscript_ (anc h (λo d g=>anc g (λi b c=>?_) λ_ _ x=>x) λ_ _ x=>x);obtain⟨f,c⟩:=c;refine mN<|mN (aoY f hl ?_)
 have fin:wpAny (model prog w) A (aqG a false o i) (λr e=>wpAny (model prog w) A (letTemporaryGo value o r >>= λ_=>pure r) Q E e) E b:=by
  rw[aw o i];exact wpAny_operating (anc c (λr e j=>mN (wpAny_letTemporaryGo (aml j))) λ_ _ x=>x)
 first
  |exact aml (mN fin)
  |exact mN (aml (mN fin))
  |exact mN fin
structure gI(X:aT)(o:Expr)(m:Str)(apos:Pos)(e:Expr)(dT:Pos):Prop where
 base:anS o m X.env (eval o X.env)=eval o X.env
 VL:((aoD dT (am2 [e] X.env)).all (λx=>!x.1)&&(aqj dT (apf [] X.env)).all (λx=>x.1.isSome)
&&decide (([e]:List Expr).length+([]:List ao9).length+(if([]:List ao9).isEmpty then 0 else 1)<30))=true
 line:(apos.endLine==dT.line)=true
 trees:aoD dT (am2 [e] X.env)=[(false,eval e X.env)]
class aY where
 ir:Addr->Prop
 uS:Addr->Str
 wl:World
def o_:eY->Prop
 |.gp _=>False|_=>True
def p8(c:Addr)(q:Str):Heap->Prop:=λh=>h.CodeRec (.ref c) q
def Sr[aY](H:ax)(P:Addr):Prop:=∃ps:Array Value,H P=some (.gp ps)/\aqC ps.toList/\∀pos a,apU pos ps.toList=some a->∃c,a=.ref c/\H c=some (.ext (p8 c (aY.uS P)))
def TabsOk[aY](H:ax):Prop:=∀P,aY.ir P->Sr H P
structure eF[aY](H H':ax):Prop where
 at':∀b o,H b=some o->(h:o_ o:=by exact trivial)->H' b=some o
 cE:∀b ps,H b=some (.gp ps)->∃lU,H' b=some (.gp lU)
 bW:TabsOk H->TabsOk H'
variable[aY]
def acb(o:eY):o_ o\/∃ps,o=.gp ps:=by cases o<;>first|exact .inl trivial|exact .inr ⟨_,rfl⟩
def eF.refl(H:ax):eF H H:=⟨λ_ _ h _=>h,λ_ ps h=>⟨ps,h⟩,id⟩
def eF.trans(a:eF H H1)(b:eF H1 C):eF H C:=
 ⟨λc o h n=>b.at' c o (a.at' c o h n) n,λc ps h=>let⟨p1,ao⟩:=a.cE c ps h;b.cE c p1 ao,λg=>b.bW (a.bW g)⟩
def eF.some{H a:ax}(s:eF H a)(h:H b≠none):a b≠none:=by
 cases e:H b with
 |none=>exact absurd e h|some o=>
  rcases acb o with n|⟨ps,rfl⟩
  .rw[s.at' b o e n];intro z;cases z
  .obtain⟨p,q⟩:=s.cE b ps e;rw[q];intro z;cases z
def eF.free{H a:ax}(e:eF H a)(h:a l=Option.none):H l=Option.none:=by
 cases q:H l with
 |none=>rfl| some o=>exact absurd h (e.some (by rw[q];intro z;cases z))
def eF.seq{K:aN}{H b:ax}{a:Addr}{xs:List V}(e:eF H b)(h:du K H a xs):du K b a xs:=by
 rcases h with(h|⟨o,h⟩)|h
 .exact .inl (.inl (e.at' _ _ h))
 .exact .inl (.inr ⟨o,e.at' _ _ h⟩)
 .exact .inr h
def TabsOk.put{H:ax}(g:TabsOk H)(o:eY)(a:∀ps,H p≠some (.gp ps))(b:∀q,H p≠some (.ext (p8 p q))):TabsOk (upd H p o):=λP d=>by
 obtain⟨ps,e,t,c⟩:=g P d;refine⟨ps,by rw[c6 (by rintro rfl;exact a _ e)];exact e,t,λpos h f=>?_⟩;obtain⟨c',ao,aA⟩:=c pos h f;exact⟨c',ao,by rw[c6 (by rintro rfl;exact b _ aA)];exact aA⟩
def TabsOk.new{H:ax}(g:TabsOk H)(h:H p=none)(o:eY):TabsOk (upd H p o):=g.put o (λps=>by rw[h];intro z;cases z) (λa=>by rw[h];intro z;cases z)
def TabsOk.l{H:ax}{p:Addr}{a:List V}(g:TabsOk H)(h:H p=some (.l a))(o:eY):TabsOk (upd H p o):=g.put o (λps=>by rw[h];intro z;cases z) (λb=>by rw[h];intro z;cases z)
def sv{H:ax}(h:H p=none)(o:eY):eF H (upd H p o):=
 ⟨λb u q _=>by rw[c6 (kY q h)];exact q,λb ps q=>⟨ps,by rw[c6 (kY q h)];exact q⟩,λg=>g.new h o⟩
def xZ{a H:ax}{D:Addr}(c:a D=none)(s:eF a H)(hl:H D=some (.l zs))(o:eY):eF a (upd H D o):=
 ⟨λb u q n=>by rw[c6 (kY q c)];exact s.at' b u q n,λb ps q=>by rw[c6 (kY q c)];exact s.cE b ps q,λg=>(s.bW g).l hl o⟩
end aC
namespace aC
open PySem
def oF(env:Env):List (Str×aoy)->List (Str×Addr)->List (Str×Addr)
 |[],acc=>acc|(n,k)::r,acc=>if(k==apn)=true then oF env r ((n,(env.cells.lookup n).getD 0)::acc)else oF env r acc
abbrev p9(scope:Scope)(env:Env):List (Str×Addr):=oF env scope.names []
def JT{scope:Scope}{env:Env}(h:∀y∈scope.names,y.2=.free->∃c,env.cells.lookup y.1=some c):aqd scope env=pure (p9 scope env):=by
 unfold aqd p9;generalize scope.names=ns at h;generalize([]:List (Str×Addr))=a;show(forIn ns a _ >>= _)=_
 induction ns generalizing a with
 |nil=>rfl|cons y r g=>
  obtain⟨n,k⟩:=y;rw[List.forIn_cons];have d:=λa=>g (λy f=>h y (amr _ f)) a
  by_cases b:(k==apn)=true
  .have i:k=.free:=by simpa using b
   obtain⟨c,e⟩:=h (n,k) amu i;have ao:cellOf env n=pure c:=by unfold cellOf;rw[e]
   simp only[b,ao,oF,e];exact d _
  .simp only[b,oF]
   exact d _
theorem CK{env:Env}:∀{ns:List (Str×aoy)}{acc:List (Str×Addr)}{p:Str×Addr},p∈oF env ns acc->p∈acc\/∃k,(p.1,k)∈ns/\k=apn/\p.2=(env.cells.lookup p.1).getD 0
 |[],_,_,h=>.inl h|(n,k)::r,acc,p,h=>by
  unfold oF at h;split at h
  .rename_i c
   rcases CK h with h|⟨C,a,b⟩
   .rcases amw.mp h with rfl|h
    .exact .inr ⟨k,amu,by simpa using c,rfl⟩
    .exact .inl h
   .exact .inr ⟨C,amr _ a,b⟩
  .rcases CK h with h|⟨C,a,b⟩
   .exact .inl h
   .exact .inr ⟨C,amr _ a,b⟩
theorem CJ:∀{ns:List (Str×aoy)}{acc:List (Str×Addr)}{y:Str},((y,apn)∈ns\/∃c,(y,c)∈acc)->∃c,(y,c)∈oF env ns acc
 |[],_,_,h=>by
  rcases h with h|h
  .cases h
  .exact h
 |(n,k)::r,acc,y,h=>by
  unfold oF;split
  .refine CJ ?_
   rcases h with h|⟨c,h⟩
   .rcases amw.mp h with e|h
    .cases e;exact .inr ⟨_,amu⟩
    .exact .inl h
   .exact .inr ⟨c,amr _ h⟩
  .rename_i a
   refine CJ ?_;rcases h with h|h
   .rcases amw.mp h with e|h
    .cases e;exact absurd rfl a
    .exact .inl h
   .exact .inr h
theorem Ox{α:Type}{y:Str}{c:α}:∀{l:List (Str×α)},(y,c)∈l->∃c',l.lookup y=some c'
 |(n,k)::r,h=>by
  by_cases e:(y==n)=true
  .exact⟨k,by rw[amy,e]⟩
  .have a:(y==n)=false:=by simpa using e
   rcases amw.mp h with z|z
   .cases z;simp at e
   .obtain⟨c',q⟩:=Ox z
    exact⟨c',by rw[amy,a];exact q⟩
def UU{scope:Scope}{env:Env}(h:∀y∈scope.names,y.2=.free->∃c,env.cells.lookup y.1=some c)(e:(p9 scope env).lookup y=some c):env.cells.lookup y=some c:=by
 rcases CK (anA e)with z|⟨k,a,b,d⟩
 .cases z
 .obtain⟨c',q⟩:=h _ a b
  have d':=d;rw[q]at d' ⊢;exact congrArg some d'.symm
def JR{scope:Scope}(h:scope.names.lookup y=some .free):∃c,(p9 scope env).lookup y=some c:=by
 obtain⟨c,q⟩:=CJ (.inl (anA h));exact Ox q
theorem OK{g:Str×aoy->Str×aoy}{y:Str}(a:∀p,(g p).1=p.1)(b:∀p,p.2≠.cell->(g p).2=.cell\/(g p).2=.free->p.2=.free) :
  ∀{ns:List (Str×aoy)},(∀z∈ns,z.2≠aqS)->((ns.map g).lookup y=some .cell\/(ns.map g).lookup y=some .free)->ns.lookup y=some .free
 | [],_,h=>by simp at h|p::r,hc,h=>by
  rw[amt]at h;have bE:=a p;have bZ:=b p (hc p amu);generalize g p=q at h bE bZ;obtain⟨k4,c⟩:=q;obtain⟨n,k⟩:=p;subst bE;rw[amy]at h ⊢
  cases e:(y==k4)with
  |true=>
   rw[e]at h;exact congrArg some (bZ (h.imp amH amH))
  |false=>
   rw[e]at h;exact(OK a b λz hz=>hc z (amr _ hz)) h
def af4{scope:Scope}(c:∀z∈scope.names,z.2≠aqS)(h:(relabel scope env).names.lookup y=some .cell\/(relabel scope env).names.lookup y=some .free):scope.names.lookup y=some .free:=by
 refine OK (λp=>?_) (λp a q=>?_) c h
 .obtain⟨n,k⟩:=p
  dsimp only;split<;>rfl
 .obtain⟨n,k⟩:=p
  dsimp only at q a ⊢;split at q
  .rename_i b
   have:=(amI _ _▸(amI _ _▸b).1).1;simpa using this
  .exact q.elim (λz=>absurd z a) id
end aC
namespace aC
open PySem PySem.Spec PyProof.Rows
noncomputable def d9(X:aT)(scope:Scope)(N:List Str)(C:Addr)(a:List Addr)(s:amg)(H:ax):aT where
 prog:=X.prog
 w:=X.w
 K:=X.K
 mg:=X.mg
 base:=X.base
 A:=X.A
 N:=N
 gY:=s
 H₀:=H
 env:=compEnvC scope (p9 scope X.env) C X.env
 outer:=X.stack
 stack:=X.stack
 ex:=a
 fn:=λ_=>false
 calm:=X.calm
 n3:=[]
 ej:=λ_ _=>False
abbrev ox(X:aT)(scope:Scope)(N:List Str)(x:Str):Prop:=∀C a s H,Loc (d9 X scope N C a s H).env.scope x/\(d9 X scope N C a s H).env.scope.names.lookup x=some .local
abbrev Ho(X:aT)(scope:Scope)(N:List Str)(x:Str)(p1:Pos)(y:Str)(cz:Pos):Prop:=∀C a s H,(anu [.Name x p1,.Name y cz] (d9 X scope N C a s H).env).length=2/\(anu [.Name x p1,.Name y cz] (d9 X scope N C a s H).env).findIdx? (·.1)=none/\(anu [.Name x p1,.Name y cz] (d9 X scope N C a s H).env).map (·.2)=ao2 (.Name x p1) (d9 X scope N C a s H).env::(anu [.Name y cz] (d9 X scope N C a s H).env).map (·.2)/\(anu [.Name y cz] (d9 X scope N C a s H).env).map (·.2)=ao2 (.Name y cz) (d9 X scope N C a s H).env::(anu [] (d9 X scope N C a s H).env).map (·.2)
structure lg(esc scope:Scope)(EN N:List Str)(n:Nat)(cap:List Nat):Prop where
 kind:scope.kind=.function
 cell:∀y∈scope.names,y.2≠.cell
 loc:∀y∈scope.names,y.2=.local->scope.names.lookup y.1=some .local
 free:∀y∈scope.names,y.2=.free->esc.names.lookup y.1=some .cell\/esc.names.lookup y.1=some .free
 gC:N.Nodup
 len:N.length=n+cap.length
 UN:∀j<cap.length,N[n+j]? = EN[cap.getD j 0]?/\∀x,N[n+j]? = some x->scope.names.lookup x=some .free
def gw(n:Nat)(a:List Nat)(U:St):St:=amU n none++a.map λk=>(U[k]?).join
def U1{a:List Nat}:(gw n a U).length=n+a.length:=by
 unfold gw;rw[amf,am9,amh]
def U0{a:List Nat}{U:St}{v:V}(h:(gw n a U)[i]? = some (some v)):∃j,i=n+j/\j<a.length/\U[a.getD j 0]? = some (some v):=by
 unfold gw at h
 by_cases hi:i<n
 .rw[amA (by simpa using hi),anI,if_pos hi]at h
  cases h
 .rw[ams (by simpa using hi),am9,amE]at h
  cases e:a[i-n]? with
  |none=>rw[e]at h;cases h
  |some k=>
   rw[e]at h;refine⟨i-n,by omega,((nu.mp e).1),?_⟩;have h':(U[k]?).join=some v:=amH h;rw[ang,e,Option.getD_some]
   cases q:U[k]? with
   |none=>rw[q]at h';cases h'
   |some z=>rw[q]at h';exact congrArg some h'
section
variable{X:aT}{scope esc:Scope}{EN N:List Str}{n:Nat}{cap:List Nat}{af:c4}{U:St}{H:ax}{s:amg}{bc:List Addr}
def Z3{h':Heap}{tk:Nat}{m:bf}(S:lg esc scope EN N n cap)(he:X.env.scope=esc)(hN:X.N=EN)(I:Inv X af U H s)(t:∀b∈bc,hk X af H b)(L:∀b∈bc,∃o,s.heap.get? b=some o)
  (V:h'.Ns s.heap.objs.size m) (k:∀b o,s.heap.get? b=some o->h'.get? b=some o) :
  Inv (d9 X scope N s.heap.objs.size bc s H) [] (gw n cap U) H { s with heap:=h',toks:=tk }:=by
 have T:∀y∈scope.names,y.2=.free->∃c,X.env.cells.lookup y.1=some c:=λy B Q=>by
  refine I.ok.has y.1 ?_;show X.env.scope.names.lookup y.1=_\/X.env.scope.names.lookup y.1=_;rw[he];exact S.free y B Q
 have up:∀{y:Str}{c:Addr},(p9 scope X.env).lookup y=some c->X.env.cells.lookup y=some c:=λ{y c} e=>UU T e
 have D:∀y,(d9 X scope N s.heap.objs.size bc s H).env.kindOf y=some .cell\/(d9 X scope N s.heap.objs.size bc s H).env.kindOf y=some .free->scope.names.lookup y=some .free:=λy h=>af4 S.cell h
 have f:∀c v,s.heap.IsCell c v->h'.IsCell c v:=λc v ⟨o,e,d⟩=>⟨o,k c o e,d⟩
 refine⟨⟨I.ok.mod,S.kind,I.ok.glob,I.ok.blt,amj _,λx y c M O=>I.ok.inj x y c (up M) (up O),λy B=>JR (D y B),λ_ _ z=>absurd z amm,I.ok.hd,I.ok.frames,.inl rfl,λb g=>⟨?_,λx c e=>(t b g).2.2.2.2.1 x c (up e)⟩,I.bs,amN I.ok.ml I.pz,λb o e g=>?_,λb g hz=>?_,I.stack,I.QU⟩,
  rfl,I.bare,gS.kept k,⟨m,V,λi x v ao aA bK=>?_⟩,λx c e=>?_,I.ct.fresh (amj _),λx c e=>I.mr x c (up e),λp K=>absurd (show p∈([]:c4)from K) (by simp),I.ct.kept k,?_⟩
 .obtain⟨o,e⟩:=L b g
  exact amM (amv e)
 .refine a4 λa=>?_
  rcases(t b g).2.2.2.1 with z|z
  .exact a (I.ok.xl b o e z)
  .exact a (absurd (amP (amv e) (amN I.ok.ml z)) (am7 _))
 .refine a4 λa=>?_
  rcases amw.mp (I.Gm b hz)with z|z
  .exact a ((t b g).2.1 z)
  .exact a ((t b g).2.2.1 z)
 .refine a4 λa=>?_
  obtain⟨j,rfl,R,cR⟩:=U0 aA;obtain⟨bh,ak⟩:=S.UN j R;have ao:N[n+j]? = some x:=ao;have A:=ak x ao;rw[ao,<-hN]at bh;obtain⟨c,G⟩:=JR A;obtain⟨W,P,hl⟩:=I.loc;have J:X.env.scope.names.lookup x=some .cell\/X.env.scope.names.lookup x=some .free:=by
   rw[he];exact S.free (x,.free) (anA A) rfl
  obtain⟨u,r,l⟩:=hl _ x v bh.symm cR (J.elim (λz=>.inr (.inl z)) λz=>.inr (.inr z));refine a ⟨u,r,.inr ⟨?_,c,G,?_⟩⟩
  .refine a4 λa=>?_
   rcases bK with z|z|z
   .refine a ?_
    exfalso;have hz:∀ns:List (Str×aoy),ns.lookup x=some .free->(ns.map λ(n,k)=>if(k==apn&&X.env.scope.kind==.function&&X.env.kindOf n==some .cell)then(n,aqS)else(n,k)).lookup x≠some .local:=by
     intro ns
     induction ns with
     |nil=>intro h;simp at h|cons p r E=>
      obtain⟨n3,Y⟩:=p;intro h;rw[amt];rw[amy]at h
      cases q:(x==n3)with
      |true=>
       rw[q]at h;have h':=amH h;subst h';dsimp only;split
       .rw[amy,q];intro w;cases w
       .rw[amy,q];intro w;cases w
      |false=>
       rw[q]at h;dsimp only;split
       .rw[amy,q];exact E h
       .rw[amy,q];exact E h
    exact hz _ A z
   .exact a (.inl z)
   .exact a (.inr z)
  .refine a4 λa=>?_
   rcases l with⟨q,_⟩|⟨_,c',da,z⟩
   .refine a ?_
    exfalso;have F:X.env.scope.names.lookup x=some .local:=q;rcases J with w|w<;>rw[w]at F<;>cases F
   .rw[up G]at da
    cases da;exact a (f c _ z)
 .obtain⟨v,z⟩:=I.cell x c (up e)
  exact⟨v,f c v z⟩
 .show(gw n cap U).length=N.length
  rw[U1,S.len]
def Z1{N:List Str}(I:Inv X af U H s)(d:∀b∈bc,hk X af H b)(c:Inv (d9 X scope N C bc s H) al2 U' H' s'):Inv X af U H' s':=
 I.Uz c.os c.base c.ct c.bare λb a=>⟨(d b a).2.2.2.1,(d b a).2.1,(d b a).2.2.2.2.1,(d b a).2.2.2.2.2⟩
end
section
variable{X:aT}
def sU(X:aT)(a:List Expr)(t:TT):Prop:=
 ∀(b:c4)(s:amg)(U:St)(H:ax)(Q:Bool->ax->Prop),Inv X b U H s->t U H Q->
  wpAny (model X.prog X.w) X.A (forIn a true λc r=>if r=true then do let ok <-isTrue c X.env (eval c X.env);pure (apz ok)else pure (apz r)) (BJ X b U Q) X.ej s
def Gr:TT:=λ_ H Q=>Q true H
def PL:sU X [] Gr:=λ_ _ _ H _ I h=>wpAny_tests_nil ⟨H,I,h⟩
def afk(h:iO X c t):sU X [c] t:=λb s U H Q I a=>wpAny_tests_one (h b s U H Q I a)
end
section
variable{prog:amC}{w:World}{A:amK}{R:Result->amg->Prop}{s:amg}
def UW{d a f:Expr}{e:List Expr}{scope:Scope}{pos:Pos}{i b:Value}{env:Env}(I:Nat->amg->Prop)
  (turn:∀n s,I n s->wpAny (model prog w) A (pyNext i) (λr g=>match r with
   |none=>R (.ok .next) g| some v=>wpAny (model prog w) A (apy a i v) (λ_ o=>wpAny (model prog w) A (ao2 a env v) (λ_ p=>
     wpAny (model prog w) A (forIn e true λc r=>if r=true then do let ok <-isTrue c env (eval c env);pure (apz ok)else pure (apz r)) (λok j=>
      if ok=true then wpAny (model prog w) A (eval d env) (λx k=>
       wpAny (model prog w) A (call (.builtin "list.append") [b,x]) (λ_ l=>∃m,m<n/\I m l) (λ_ _=>False) k) (λ_ _=>False) j
      else ∃m,m<n/\I m j) (λ_ _=>False) p) (λ_ _=>False) o) (λ_ _=>False) g) (λ_ _=>False) s)
  (n:Nat) (h:I n s) :
  aoT (model prog w) A (.compLoop (.ListComp d [⟨a,f,e,0⟩] scope pos) 0 i b env) R s:=by
 refine codeAny_loop rfl I (λn s z=>?_) n h;refine wpAny_noted<|mN (ap1 (mN (anc (turn n s z) (λr g q=>?_) λ_ _ h'=>h'.elim)))
 cases r with
 |none=>exact aml q|some v=>
  refine mN (anc q (λ_ o y=>?_) λ_ _ h'=>h'.elim);refine mN (anc y (λ_ p D=>mN (anc D (λok j t=>?_) λ_ _ h'=>h'.elim)) λ_ _ h'=>h'.elim)
  cases ok with
  |false=>exact aml ⟨rfl,t⟩|true=>
   exact mN (mN (anc t (λx k u=>mN (anc u (λ_ l B=>aml (aml ⟨rfl,B⟩)) λ_ _ h'=>h'.elim)) λ_ _ h'=>h'.elim))
end
def nf(U a:St):Prop:=U.length=a.length/\∀(i:Nat) v,U[i]? = some (some v)->a[i]? = some (some v)
def nf.refl(U:St):nf U U:=⟨rfl,λ_ _ h=>h⟩
def nf.set{U b:St}(h:nf U b)(c:U[i]? = some none):nf U (b.set i (some x)):=by
 refine⟨by rw[amQ];exact h.1,λj v e=>?_⟩
 by_cases a:i=j
 .subst a;rw[c]at e;cases e
 .rw[amk a];exact h.2 j v e
def CO(e:iy)(U':St)(g:iP)(tt:TT)(o:TE)(D:Addr)(k:ax)(Q:cY):Prop:=
  ∃W:Nat->Nat->List V->ax->Prop,(∃m,W 0 m [] (upd k D (.l [])))/\∀i m a H,W i m a H->
   ((e.stop i H/\Q (.ref D) H)\/(e.go i H/\∀x f,e.pO i H x f->g x U' f λd n=>nf U' d/\tt d n λb h=>
       if b=true then o d h λy j=>j D=some (.l a)/\a.length<ami/\∃c,c<m/\W (i+1) c (a++[y]) (upd j D (.l (a++[y])))else ∃c,c<m/\W (i+1) c a h))
def u3(n:Nat)(a:List Nat)(wi:TI)(g:iP)(tt:TT)(d:TE):TE:=λU H Q=>wi U H λc b=>∀D,b D=none->CO c (gw n a U) g tt d D b Q
section
variable{X:aT}{scope esc:Scope}{EN N:List Str}{n:Nat}{cap:List Nat}{af:c4}{U:St}{s:amg}{elt cA iter:Expr}{ifs:List Expr}{pos:Pos}{g:iP}{tt:TT}{te:TE}
def JY{E:dv}{H:ax}{cw:iy}{a:List Addr}{it:Addr}{dN:Nat->Heap->Prop}{Q:cY}{yl:Value->Addr->Result->amg->Prop}(S:lg esc scope EN N n cap)(he:X.env.scope=esc)(hN:X.N=EN)(hc:X.calm=true)
  (aM:∀C a s H,oo (d9 X scope N C a s H) cA g) (bC:∀C a s H,sU (d9 X scope N C a s H) ifs tt) (ig:∀C a s H,b3 (d9 X scope N C a s H) elt te)
  (I:Inv X af U H s) (T:Turn X.prog X.w X.K cA cw a it dN) (st:dN 0 s.heap) (hf:∀b∈a,hk X af H b) (a_:∀D,H D=none->CO cw (gw n cap U) g tt te D H Q)
  (WX:∀D C c h m,Inv X af U c h->hk X af c C->h.heap.Ns C m->Q (.ref D) c->yl (.ref D) C (.ok .next) h) :
  wpAny (model X.prog X.w) X.A (newList []) (λF B=>wpAny (model X.prog X.w) X.A (newFunctionEnv scope X.env.globals (p9 scope X.env) [] X.env.qual none .none (some X.env)) (λJP AJ=>
   aoT (model X.prog X.w) X.A (.compStart (.ListComp elt [⟨cA,iter,ifs,0⟩] scope pos) 0 (.ref it) F { JP with scope:=relabel scope X.env }) (yl F JP.locals) AJ) E B) E s:=by
 refine apc (wpAny_newFunctionEnv S.cell (by intro y a0;simp at a0) (λrT Nb Nh=>?_) S.kind);have J:=I.Ow (t':=s.toks) .nil (amT _);obtain⟨W,⟨m0,x1⟩,turn⟩:=a_ _ I.fresh;generalize rS:({ s with heap:=s.heap.push { cls:=.type "list",data:=.seq ([]:List Value).toArray },toks:=s.toks }:amg)=s3 at J;have k3:∀b o,s.heap.get? b=some o->s3.heap.get? b=some o:=λb o e=>by rw[<-rS];exact B1 _ e
 have hh:s.heap.push { cls:=.type "list",data:=.seq ([]:List Value).toArray }=s3.heap:=by rw[<-rS]
 try rw[hh]at Nb
 try rw[hh]at Nh
 have O:∀b∈a,hk X af (upd H s.heap.objs.size (.l [])) b:=λb f=>by
  refine⟨?_,(hf b f).2⟩;obtain⟨o,e,_⟩:=T.obj _ _ st b f;rw[c6 (amM (amv e))];exact(hf b f).1
 have tS:=λb o e=>Nh.extBut b o (amM (amv e)) (B1 _ e)
 have a':∀b∈a,∃o,s3.heap.get? b=some o:=λb f=>by
  obtain⟨o,e,_⟩:=T.obj _ _ st b f;exact⟨o,k3 b o e⟩
 have uZ:=T.keep _ _ _ st λb _ o e=>tS b o (k3 b o e)
 have WR:s3.heap.objs.size<=s3.heap.objs.size:=amj _;have j:∀B:amg,B.heap=rT->Inv (d9 X scope N s3.heap.objs.size a s3 (upd H s.heap.objs.size (.l []))) [] (gw n cap U) (upd H s.heap.objs.size (.l [])) B->
   aoT (model X.prog X.w) X.A (.compLoop (.ListComp elt [⟨cA,iter,ifs,0⟩] scope pos) 0 (.ref it) (.ref s.heap.objs.size) (compEnvC scope (p9 scope X.env) s3.heap.objs.size X.env)) (yl (.ref s.heap.objs.size) s3.heap.objs.size) B:=by
  intro B VI M;have sx:∀{c:ax},(∀b∈a,c b=none)->∀b∈a,hk (d9 X scope N s3.heap.objs.size a s3 (upd H s.heap.objs.size (.l []))) [] c b:=λ{c} V b f=>
   ⟨V b f,(M.ok.yW b f).1,M.ok.v3 b f,.inl f,(M.ok.yW b f).2,λp aO=>absurd (show p∈([]:c4)from aO) (by simp)⟩
  refine UW (λk h=>∃i t c,Inv (d9 X scope N s3.heap.objs.size a s3 (upd H s.heap.objs.size (.l []))) [] (gw n cap U) c h/\dN i h.heap/\(∀b∈a,c b=none)/\W i k t c) ?_ m0
   ⟨0,[],_,M,by rw[VI];exact uZ,λb f=>(O b f).1,x1⟩
  rintro k s5 ⟨i,t,L,sP,u0,y2,ah2⟩;rcases turn i k t L ah2 with⟨stop,q⟩|⟨go,step⟩
  .refine cc (T.done (d9 X scope N s3.heap.objs.size a s3 (upd H s.heap.objs.size (.l []))) rfl rfl rfl hc i [] s5 _ L _ sP (sx y2) u0 stop) λr s6 ⟨R,vt⟩=>?_
   subst R;obtain⟨m,V,_⟩:=vt.loc;exact WX _ _ L s6 m (Z1 J O vt) (J.rC WR vt.free) V q
  .refine cc (T.item (d9 X scope N s3.heap.objs.size a s3 (upd H s.heap.objs.size (.l []))) rfl rfl rfl hc i [] s5 _ L (λ_ _=>False) sP (sx y2) u0 go) λr s6 ⟨u,R,hv⟩=>?_
   subst R;refine cc hv λ_ s7 ⟨x,jW,kr,F3,Bi,P,V7⟩=>?_
   refine cc (aM _ _ _ _ _ s7 _ jW x u _ (kr.pinned (sx V7) (T.obj _ _ P)) F3 (step x jW Bi)) λ_ s8 ⟨G,Sb,Si,yX,Y⟩=>?_
   refine cc (bC _ _ _ _ _ s8 G Sb _ Si Y) λb s9 ⟨Ha,Hd,P9⟩=>?_
   have back:∀{c:ax}{h:amg},Inv (d9 X scope N s3.heap.objs.size a s3 (upd H s.heap.objs.size (.l []))) ([]++uP a s7.heap) G c h->
     Inv (d9 X scope N s3.heap.objs.size a s3 (upd H s.heap.objs.size (.l []))) [] (gw n cap U) c h/\dN (i+1) h.heap/\∀b∈a,c b=none:=λ{c h} gc=>by
    refine⟨gc.xY.weak yX.1 yX.2,T.keep _ _ _ P λb f o e=>(gc.pin (b,o) (amZ _ (amZ _ (z5 f e)))).1,λb f=>?_⟩;obtain⟨o,e,d⟩:=T.obj _ _ P b f;exact(gc.pin (b,o) (amZ _ (amZ _ (z5 f e)))).2.1
   cases b with
   |false=>
    obtain⟨fm,hm,eg⟩:=P9;obtain⟨cI,cK,hq⟩:=back Hd;exact⟨fm,hm,i+1,t,Ha,cI,cK,hq,eg⟩
   |true=>
    refine cc (ig _ _ _ _ _ s9 G Ha _ Hd P9) λv i5 ⟨y,G',Sg,Z,WT,hz,fm,hm,eg⟩=>?_
    refine cc (E' _ i5 G G' (.ref s.heap.objs.size) [y] (.ref s.heap.objs.size) [v] (λz c=>z=.aP/\c=upd G' s.heap.objs.size (.l (t++[y]))) Sg rfl (.cons Z .nil) ⟨_,t,y,rfl,rfl,WT,hz,rfl,rfl⟩) λz hD ⟨GV,ajH,Sh,_,_,tm⟩=>?_
    subst tm;obtain⟨cI,cK,hq⟩:=back Sh;exact⟨fm,hm,i+1,t++[y],_,cI,cK,hq,eg⟩
 have Hc:=(Z3 (tk:=s3.toks) S he hN J O a' Nb tS);exact codeAny_compStart_list (j _ rfl Hc) (T.self _ 0 _ _ _ uZ (j _ rfl Hc))
theorem FL(S:lg esc scope EN N n cap){wi:TI}(hi:kx X cA iter wi)(k:∀C a s H,oo (d9 X scope N C a s H) cA g)(x:∀C a s H,sU (d9 X scope N C a s H) ifs tt)(F:∀C a s H,b3 (d9 X scope N C a s H) elt te)
  (he:X.env.scope=esc:=by rfl) (hN:X.N=EN:=by rfl) (E:X.calm=true:=by rfl) (aw:lB X iter:=by intro _;rfl):b3 X (.ListComp elt [⟨cA,iter,ifs,0⟩] scope pos) (u3 n cap wi g tt te):=by
 intro af s U H Q I h;have d:=JT λy i w=>I.ok.has y.1 (by
  show X.env.scope.names.lookup y.1=_\/X.env.scope.names.lookup y.1=_;rw[he];exact S.free y i w)
 refine wpAny_comprehension_free rfl aw d S.kind S.loc (cc (hi af s U H _ I h) λv O r=>cc r λP s2 t=>?_);refine a4 λu=>?_
 obtain⟨L,a,dN,K,J,e,z,T,bQ,A,l⟩:=t;subst e;refine u ?_;refine JY S he hN E k x F z T bQ A l λD C f M m B c j q=>?_
 exact⟨m,j,λh' G=>⟨.ref D,f,B.turned (λb o p e=>G.extBut b o p e) c.1 c.2.1 c.2.2.2.1 c.2.2.2.2.1 c.2.2.2.2.2,rfl,q⟩⟩
theorem afB{i:Nat}{y:Str}{py l:Pos}(S:lg esc scope EN N n cap){wi:TI}(rI:X.N.Nodup)(W:X.N[i]? = some y)(j:X.env.scope.names.lookup y=some .local)(hi:kx X cA iter wi)(E:∀C f s H,oo (d9 X scope N C f s H) cA g)(M:∀C f s H,sU (d9 X scope N C f s H) ifs tt)(V:∀C f s H,b3 (d9 X scope N C f s H) elt te)
  (he:X.env.scope=esc:=by rfl) (hN:X.N=EN:=by rfl) (R:X.calm=true:=by rfl) (aw:lB X iter:=by intro _;rfl)
  (Y:anU (.ListComp elt [⟨cA,iter,ifs,0⟩] scope pos) (some (.Name y py)) l.line X.env=pure true:=by rfl) :
  iN X (.Assign [.Name y py] (.ListComp elt [⟨cA,iter,ifs,0⟩] scope pos) l) (u2 (u3 n cap wi g tt te) (mw i)):=by
 intro af s U H D I h;have p:=JT λy j L=>I.ok.has y.1 (by
  show X.env.scope.names.lookup y.1=_\/X.env.scope.names.lookup y.1=_;rw[he];exact S.free y j L)
 rw[exec_Assign_Name_used _ _ _ _ Y];refine mN (ap1 (mN ?_));refine mN (anc (wpAny_comprehension_free rfl aw p S.kind S.loc
  (cc (hi af s U H _ I h) λv s1 G=>cc G λzw s2 J=>?_)) (λ_ s' k=>aml (aml k)) λ_ _ e=>e)
 refine a4 λd=>?_
 obtain⟨it,f,dN,cw,aK,e,O,T,bQ,P,k⟩:=J;subst e;refine d ?_;refine JY S he hN R E M V O T bQ P k λt C r s' m Q c B q=>?_
 refine wpAny_assign_Name (QW (v:=.ref t) Q rI W (.inl j) rfl (λAA u ch=>?_) (.inr j));refine a4 λd=>?_
 obtain⟨a,A,K⟩:=ch;have x:C≠a:=by
  refine a4 λd=>?_
  rcases K with z|z
  .refine d ?_
   rw[z];exact c.2.1
  .exact d (λw=>c.2.2.2.2.1 y a z w.symm)
 refine d ⟨m,B.sameBut A x,λh' Z=>?_⟩;exact⟨_,r,u.turned (λb o F e=>Z.extBut b o F e) c.1 c.2.1 c.2.2.2.1 c.2.2.2.2.1 c.2.2.2.2.2,q⟩
end
def cH(p:V->V->ax->cY->Prop):ez:=λvs H Q _=>∃a b,vs=[a,b]/\p a b H Q
structure g8(P:amC)(w:World)(K:aN)(mg:bf)(base:Heap)(x:Str)(ps:List Str)(k:Nat)(sp:ez):Prop where
 ex:∃f fd,fc P w K mg base eR k f fd ps sp/\Binds K fd ps []/\an8 K (.ref f)=true/\mg x=some (.ref f)
structure g6(K:aN)(mg:bf)(x:Str)(st:Stmt)(ps:List Str):Prop where
 ex:∃f fd,lj K x x st f fd/\Binds K fd ps []/\mg x=some (.ref f)
section
variable{P:amC}{w:World}{K:aN}{mg:bf}{base:Heap}{x:Str}{ps:List Str}{k:Nat}{sp:ez}
def g8.mono(h:g8 P w K mg base x ps k sp)(c:k<=j):g8 P w K mg base x ps j sp:=by
 obtain⟨f,d,a,b⟩:=h.ex;exact⟨f,d,a.mono c,b⟩
end
section
variable{X:aT}{x:Str}{ps:List Str}{k:Nat}{sp:ez}{p pos:Pos}{e:Expr}{aD:List Expr}{t:gf}
def AL(sp:ez)(t:gf):TE:=λU H Q=>t U H λvs a=>sp vs a Q jU
def PH(h:g8 X.prog X.w X.K X.mg X.base x ps k sp)(c:cO k X.A)(d:eW X x)(j:ho X (e::aD) t)(n:fV x:=by decide)
  (he:gg X e aD:=by rfl) (l:gT X pos aD:=by rfl):b3 X (.Call (.Name x p) (e::aD) [] pos) (AL sp t):=by
 obtain⟨f,q,F,b,kp,m⟩:=h.ex;intro i s U H Q I g;refine aeT F c d m kp b .nil uN j n he l i s U H Q I ?_;have o:t U H λvs a=>sp vs a Q jU:=g
 show t U H λvs a=>sp (vs++[]) a Q jU
 simpa only[am8]using o
def ae1(h:g8 X.prog X.w X.K X.mg X.base x ps k sp)(a:cO k X.A)(c:eW X x)(i:fV x:=by decide):b3 X (.Call (.Name x p) [] [] pos) (AL sp xR):=by
 obtain⟨f,j,F,b,kp,m⟩:=h.ex;intro g s U H Q I d;exact aeU F a c m kp b .nil uN i g s U H Q I d
end
structure yi(K:aN):Prop where
 cP:∀t∈["NoneType","bool","int","str","list","tuple"],∀c∈["int","bool","tuple","list","str"],W.kitOne K (.type t) (.type c)=some (t==c||(t == "bool"&&c == "int"))
inductive nr(K:aN)(H:ax):V->String->Prop where
 |aP:nr K H .aP "NoneType"
 |ay (x:Bool):nr K H (.ay x) "bool"
 |int (i:Int):nr K H (.int i) "int"
 |str (x:Str):nr K H (.str x) "str"
 |l {a:Addr}{xs:List V}(e:du K H a xs):nr K H (.ref a) "list"
 |t {a:Addr}{xs:List V}(e:dC K H a xs):nr K H (.ref a) "tuple"
abbrev ahU:List String:=["NoneType","bool","int","str","list","tuple"]
def nr.mem{K:aN}{H:ax}{x:V}{t:String}(h:nr K H x t):t∈ahU:=by
 cases h<;>decide
section
variable{X:aT}
def wD(t n:String):Bool:=t==n||(t == "bool"&&n == "int")
def Qh(K:aN):List V->ax->cY->Prop:=λxs H Q=>∃x n t,xs=[x,.ty n]/\nr K H x t/\n∈["int","bool","tuple","list","str"]/\Q (.ay (wD t n)) H
def UG(kt:yi X.K):jT X (.builtin "isinstance") (Qh X.K):=by
 intro k s U H xs us Q I p h;obtain⟨x,n,t,rfl,ty,j,q⟩:=h;obtain⟨u,r,rfl,b,m⟩:=vals2 p;cases(show r=aqN n from m);have e:=kt.cP t ty.mem n j;have fin:∀tk,i9 X k U Q (.bool (wD t n)) { s with toks:=tk }:=λtk=>⟨.ay _,H,I.tok tk,rfl,q⟩
 cases ty with
 |aP=>cases(show u=Value.none from b);exact apV W.kitx_none I.gj ao8 e (λz=>nomatch z) fin
 |ay y=>cases(show u=aqM y from b);exact apV W.kitx_bool I.gj ao8 e (λz=>nomatch z) fin
 |int i=>obtain⟨t,q⟩:=(show ∃t,u=aqA i t from b);cases q;exact apV W.kitx_int I.gj ao8 e (λz=>nomatch z) fin
 |str y=>obtain⟨t,q⟩:=(show ∃t,u=aqB y t from b);cases q;exact apV W.kitx_str I.gj ao8 e (λz=>nomatch z) fin
 |@l a xs f=>
  cases(show u=ana a from b);obtain⟨g,_,⟨o,w,c,d,_⟩,_⟩:=I.list f;exact apV W.kitx_list I.gj ⟨o,c,d⟩ e (λz=>nomatch z) fin
 |@t a xs f=>
  cases(show u=ana a from b);obtain⟨g,_,⟨o,c,d,_⟩,_⟩:=I.tuple f;exact apV W.kitx_tuple I.gj ⟨o,c,d⟩ e (λz=>nomatch z) fin
def ab0:vx X "int.bit_length" (λx xs H Q=>∃i,x=.int i/\xs=[]/\Q (.int (anq i:Nat)) H):=by
 intro c s U H x xs v us Q I a b h;obtain⟨i,rfl,rfl,q⟩:=h;obtain⟨t,rfl⟩:=a;cases b;exact call_int_bit_length ⟨.int _,H,I.tok _,⟨_,rfl⟩,q⟩
end
mutual
def Rep(K:aN)(H:ax):PyData->V->Prop
 |.none,v=>v=.aP|.bool b,v=>v=.ay b|.int i,v=>v=.int i|.str x,v=>v=.str x|.list ds,v=>∃a xs,v=.ref a/\du K H a xs/\bg K H ds xs|.tuple ds,v=>∃a xs,v=.ref a/\dC K H a xs/\bg K H ds xs|.dict _,_=>False
def bg(K:aN)(H:ax):List PyData->List V->Prop
 |[],xs=>xs=[]|d::ds,xs=>∃x r,xs=x::r/\Rep K H d x/\bg K H ds r
end
def eF.xH[aY]{K:aN}{H b:ax}{a:Addr}{xs:List V}(e:eF H b)(h:dC K H a xs):dC K b a xs:=by
 rcases h with(h|⟨o,h⟩)|h
 .exact .inl (.inl (e.at' _ _ h))
 .exact .inl (.inr ⟨o,e.at' _ _ h⟩)
 .exact .inr h
section
variable{X:aT}{af:c4}{U:St}{H:ax}{s:amg}
mutual
theorem Rep.reads(I:Inv X af U H s):∀{d:PyData}{v:V}{u:Value},Rep X.K H d v->RelV v u->∃as,Reads s.heap u d as
 |.none,_,_,h,r=>by cases h;cases r;exact⟨_,.none⟩
 |.bool _,_,_,h,r=>by cases h;cases r;exact⟨_,.bool _⟩
 |.int _,_,_,h,r=>by cases h;obtain⟨t,rfl⟩:=r;exact⟨_,.int _ _⟩
 |.str _,_,_,h,r=>by cases h;obtain⟨t,rfl⟩:=r;exact⟨_,.str _ _⟩
 |.list _,_,_,h,r=>by
  obtain⟨a,xs,rfl,l,q⟩:=h;cases r;obtain⟨f,b,⟨o,n,e,c,_,d⟩,_⟩:=I.list l;obtain⟨as,z⟩:=bg.reads I q b;exact⟨_,.list e c d (by simpa using z)⟩
 |.tuple _,_,_,h,r=>by
  obtain⟨a,xs,rfl,l,q⟩:=h;cases r;obtain⟨f,b,⟨o,e,c,n,d⟩,_⟩:=I.tuple l;obtain⟨as,z⟩:=bg.reads I q b;exact⟨_,.tuple e c d (by simpa using z)⟩
 |.dict _,_,_,h,_=>h.elim
theorem bg.reads(I:Inv X af U H s):∀{ds:List PyData}{xs:List V}{us:List Value},bg X.K H ds xs->Vals xs us->∃as,ReadsAll s.heap us ds as
 |[],_,_,h,r=>by cases h;cases r;exact⟨_,.nil⟩
 |_::_,_,_,h,r=>by
  obtain⟨x,t,rfl,a,b⟩:=h
  cases r with
  |cons d c=>
   obtain⟨as,f⟩:=Rep.reads I a d;obtain⟨bs,e⟩:=bg.reads I b c;exact⟨_,.cons f e⟩
end
end
section
variable{X:aT}
def Ay(K:aN)(neg:Bool):ff:=λx y H Q=>∃d e,Rep K H d x/\Rep K H e y/\aqZ d=true/\aqZ e=true/\Q (.ay (if neg then !aqO d e else aqO d e)) H
def Po(g:X.A.units+64<cLine):dX X (amW .Eq) (Ay X.K false):=by
 intro l s U H x y v u Q I c f h;obtain⟨d,e,a,b,i6,i,q⟩:=h;obtain⟨as,k⟩:=a.reads I c;obtain⟨bs,j⟩:=b.reads I f;exact eq_dataH k j i6 i g ⟨.ay _,H,I,rfl,q⟩
def Px(g:X.A.units+64<cLine):dX X (amW .NotEq) (Ay X.K true):=by
 intro l s U H x y v u Q I c f h;obtain⟨d,e,a,b,i6,i,q⟩:=h;obtain⟨as,k⟩:=a.reads I c;obtain⟨bs,j⟩:=b.reads I f;exact ne_dataH k j i6 i g ⟨.ay _,H,I,rfl,q⟩
end
def JG:am1 "len"=some (.builtin "len"):=by decide +kernel
def Ur:am1 "isinstance"=some (.builtin "isinstance"):=by decide +kernel
def Us:am1 "max"=some (.builtin "max"):=by decide +kernel
def Up:am1 "any"=some (.builtin "any"):=by decide +kernel
def Uo:am1 "all"=some (.builtin "all"):=by decide +kernel
def JF:am1 "int"=some (.type "int"):=by decide +kernel
def Uq:am1 "bool"=some (.type "bool"):=by decide +kernel
def Cy:am1 "list"=some (.type "list"):=by decide +kernel
def JH:am1 "tuple"=some (.type "tuple"):=by decide +kernel
def Uv:am1 "str"=some (.type "str"):=by decide +kernel
variable[aY]
def ye(a:iy)(c:ax)(xs:List V):Prop:=∀H,eF c H->∀i,(i<xs.length->a.go i H/\∀x b,a.pO i H x b->b=H/\xs[i]? = some x)/\(xs.length<=i->a.stop i H)
def Ej{K:aN}{H:ax}{a:Addr}{xs:List V}(h:du K H a xs):ye (l_ K a) H xs:=λc s i=>
 ⟨λhi=>⟨⟨xs,xs[i],s.seq h,by simp⟩,λx b y=>⟨y.1,y.2 xs (s.seq h)⟩⟩,λhi=>⟨xs,s.seq h,hi⟩⟩
def NJ{K:aN}{H:ax}{a:Addr}{xs:List V}(h:dC K H a xs):ye (sR K a) H xs:=λc s i=>
 ⟨λhi=>⟨⟨xs,xs[i],s.xH h,by simp⟩,λx b y=>⟨y.1,y.2 xs (s.xH h)⟩⟩,λhi=>⟨xs,s.xH h,hi⟩⟩
def n4(lo:Int)(n:Nat):List V:=(amJ n).map λi=>V.int (lo+(i:Nat))
def El(lo:Int)(n:Nat):ye (pW lo n) H (n4 lo n):=λb s i=>by
 have hl:(n4 lo n).length=n:=by unfold n4;rw[amh,anz]
 refine⟨λhi=>⟨by rw[hl]at hi;exact hi,λx a y=>⟨y.1,?_⟩⟩,λhi=>by rw[hl]at hi;exact hi⟩;rw[hl]at hi;rw[y.2];unfold n4;rw[amE,an7 hi];rfl
end aC
namespace aC
open PySem PySem.Spec PyProof.Rows
def g6.none{P:amC}{w:World}{K:aN}{mg:bf}{base:Heap}{x:Str}{st:Stmt}{ps:List Str}{k:Nat}{sp:ez}(D:g6 K mg x st ps)(no:∀vs H Q E,¬sp vs H Q E):g8 P w K mg base x ps k sp:=by
 obtain⟨f,a,F,b,m⟩:=D.ex;exact⟨f,a,⟨λvs H Q E h=>absurd h (no vs H Q E),λA outer s H args us vs Q E _ _ _ _ h=>absurd h (no vs H Q E)⟩,b,F.kp,m⟩
def aaS(K:aN):yi K:=⟨by
 intro t a c b;simp only[amw,List.mem_nil_iff,or_false]at a b;rcases a with rfl|rfl|rfl|rfl|rfl|rfl<;>rcases b with rfl|rfl|rfl|rfl|rfl<;>kernel_rfl⟩
def range_any(bs:List Bool):(amJ bs.length).any (λi=>bs.getD i false)=bs.any id:=by
 rw[an1,aqn,aqn];constructor
 .rintro⟨i,hi,h⟩
  have a:=am5.mp hi;refine⟨bs[i],anT a,?_⟩;rw[ang,amB a]at h;exact h
 .rintro⟨b,c,h⟩
  obtain⟨i,hi,rfl⟩:=List.getElem_of_mem c;refine⟨i,am5.mpr hi,?_⟩;rw[ang,amB hi];exact h
def range_all(bs:List Bool):(amJ bs.length).all (λi=>bs.getD i false)=bs.all id:=by
 rw[an1,amX,amX];constructor
 .intro h b c
  obtain⟨i,hi,rfl⟩:=List.getElem_of_mem c;have:=h i (am5.mpr hi);rw[ang,amB hi]at this;exact this
 .intro h i hi
  have a:=am5.mp hi;rw[ang,amB a];exact h _ (anT a)
section
variable{X:aT}{K:aN}
def Q9{bs:List Bool}{a:List Value}(b:Vals (bs.map V.ay) a):TruthOf prog w A (λi v=>a.toArray[i]? = some v) (λi=>bs.getD i false):=by
 intro i v s Q E h f;have e:a[i]? = some v:=by simpa using h
 have hi:i<bs.length:=by
  have k:=(nu.mp e).1;have g:=b.length;rw[amh]at g;omega
 obtain⟨u,c,j⟩:=b.get (by rw[amE,amB hi];rfl);rw[e]at c;cases c;cases j;have d:Q (bs.getD i false) s:=f;rw[ang,amB hi]at d;exact anm d
def UD(t:X.calm=true):jT X (.builtin "any") (λxs H Q=>∃(l:Addr)(bs:List Bool),xs=[.ref l]/\du X.K H l (bs.map V.ay)/\Q (.ay (bs.any id)) H):=by
 intro w s U H xs us Q I j h;obtain⟨l,bs,rfl,m,q⟩:=h;obtain⟨u,rfl,g⟩:=vals1 j;cases g;obtain⟨a,d,p,hz⟩:=I.list m;have r:l<s.heap.objs.size:=by obtain⟨o,n,e,_⟩:=p;exact amv e
 refine call_any_walk (aof p.isList ?_);refine⟨s.heap.objs.size,_,_,_,_,_,λi=>bs.getD i false,rfl,aqP (A:=X.A.in1) (show X.A.in1.handled=none from I.ok.hd t) s.heap.objs.size l (amM r) a.toArray,⟨⟨_,amq _ rfl,rfl,rfl⟩,p.isList.at λo e=>B1 _ e⟩,Q9 d,λh' tk k=>?_⟩;have f:a.toArray.size=bs.length:=by
  have c:=d.length;rw[amh]at c;simp[c]
 rw[f,range_any];exact⟨.ay _,H,I.kept (h':=h') (t':=tk) λb o e=>k b o (by intro z;rw[amo.mp z]at e;exact absurd (amv e) (am7 _)) (B1 _ e),rfl,q⟩
def UC(t:X.calm=true):jT X (.builtin "all") (λxs H Q=>∃(l:Addr)(bs:List Bool),xs=[.ref l]/\du X.K H l (bs.map V.ay)/\Q (.ay (bs.all id)) H):=by
 intro w s U H xs us Q I j h;obtain⟨l,bs,rfl,m,q⟩:=h;obtain⟨u,rfl,g⟩:=vals1 j;cases g;obtain⟨a,d,p,hz⟩:=I.list m;have r:l<s.heap.objs.size:=by obtain⟨o,n,e,_⟩:=p;exact amv e
 refine call_all_walk (aof p.isList ?_);refine⟨s.heap.objs.size,_,_,_,_,_,λi=>bs.getD i false,rfl,aqP (show X.A.in1.handled=none from I.ok.hd t) s.heap.objs.size l (amM r) a.toArray,⟨⟨_,amq _ rfl,rfl,rfl⟩,p.isList.at λo e=>B1 _ e⟩,Q9 d,λh' tk k=>?_⟩;have f:a.toArray.size=bs.length:=by
  have c:=d.length;rw[amh]at c;simp[c]
 rw[f,range_all];exact⟨.ay _,H,I.kept λb o e=>k b o (by intro z;rw[amo.mp z]at e;exact absurd (amv e) (am7 _)) (B1 _ e),rfl,q⟩
end
section
variable{X:aT}
def qK{v:V}(a:eW X x)(h:∃u,X.mg x=some u/\RelV v u)(hd:fV x:=by decide):b3 X (.Name x pos) (pB v):=by
 obtain⟨u,b,r⟩:=h;exact ae3 a b r hd
variable[aY]
end
end aC
set_option maxHeartbeats 1000000
namespace az
open PySem PySem.Spec aC
variable[aC.aY]
inductive D where
 |aP|ay (b:Bool)|int (i:Int)|str (x:Str)|t (xs:List D)|l (xs:List D)|ref (n:Nat)|fn (f:Str)|ty (n:String)
inductive Slot where
 |e|v (d:D)|dM (p:Bool) (xs:List D)|cj (xs:List D)
abbrev aL:=List Slot
inductive dR where
 |l (xs:List D)|LS (bG:List (Key×D))|ru (bG:List (List Key×D))|a' (c:Str) (fs:List (Str×D))|dU (n:Nat) (bG:List ((List Key×List Key)×D))
abbrev bL:=List dR
inductive Out(α:Type) where
 |ok (a:α) (S:bL)|exc (c:Str) (S:bL)|bad
structure M(α:Type):Type where
 run:bL->Out α
 eH:∀S a aq,run S=.ok a aq->aq=S
noncomputable def M.hP{α g:Type}(m:M α)(f:α->M g):M g:=⟨λS=>match m.run S with
 |.ok a d=>(f a).run d|.exc c d=>.exc c d|.bad=>.bad,λS b d h=>by
  cases e:m.run S with
  |ok a S1=>rw[e]at h;exact((f a).eH _ _ _ h).trans (m.eH _ _ _ e)|exc c S1=>rw[e]at h;cases h
  |bad=>rw[e]at h;cases h⟩
noncomputable instance:Monad M where
 pure a:=⟨λS=>.ok a S,λ_ _ _ h=>by cases h;rfl⟩
 bind:=M.hP
omit [aC.aY]in
theorem M.ext{α:Type}{x y:M α}(h:∀S,x.run S=y.run S):x=y:=by
 cases x with|mk f p=>cases y with|mk g q=>obtain rfl:=funext h;rfl
omit [aC.aY]in
theorem M.T8{α a:Type}(m:M α)(f:α->M a):(m >>= f)=M.hP m f:=rfl
instance:LawfulMonad M:=LawfulMonad.mk'
 (id_map:=λx=>M.ext λS=>by show(M.hP x (λa=>pure (id a))).run S=x.run S;unfold M.hP;dsimp only;cases x.run S<;>rfl)
 (pure_bind:=λx f=>rfl)
 (bind_assoc:=λx f g=>M.ext λS=>by show(M.hP (M.hP x f) g).run S=(M.hP x (λa=>M.hP (f a) g)).run S;unfold M.hP;dsimp only;cases x.run S<;>rfl)
 (bind_pure_comp:=λf x=>rfl)
def bad{α:Type}:M α:=⟨λ_=>.bad,λ_ _ _ h=>by cases h⟩
omit [aC.aY]in
theorem M.inv{α g:Type}{m:M α}{f:α->M g}{S d:bL}{b:g}(h:(m >>= f).run S=.ok b d):∃a S1,m.run S=.ok a S1/\(f a).run S1=.ok b d:=by
 rw[M.T8]at h;unfold M.hP at h;dsimp only at h
 cases e:m.run S with
 |ok a S1=>rw[e]at h;exact⟨a,S1,rfl,h⟩|exc c S1=>rw[e]at h;cases h
 |bad=>rw[e]at h;cases h
def hR(p:Prop)[Decidable p]:M Unit:=if p then pure ()else bad
omit [aC.aY]in
theorem JQ{p:Prop}[Decidable p](h:p):hR p=pure ():=if_pos h
omit [aC.aY]in
theorem ro{p:Prop}[Decidable p]{S b:bL}(h:(hR p).run S=.ok u b):p/\S=b:=by
 unfold hR at h
 by_cases a:p
 .rw[if_pos a]at h;cases h;exact⟨a,rfl⟩
 .rw[if_neg a]at h;cases h
inductive R where
 |v (d:D)|fr (xs:List D)|cj (xs:List D)|mv (xs:List D)
abbrev bp:=aL->M R
inductive Own where
 |free|out|dV|loc (i:Nat)
 deriving DecidableEq
structure a7 where
 own:Addr->Own
 bP:List Addr
instance:CoeFun a7 (λ_=>Addr->Own):=⟨a7.own⟩
def BB(K:aN)(a:Addr)(xs:List V):Prop:=
 ∃(o:Obj)(b:Array Value)(n:Nat),K.lookup a=some o/\o.cls=.type "list"/\o.dict=none/\o.data=.seq b n/\b.size<=ami/\Vals xs b.toList
def sS(_:aN)(O:a7)(H:ax)(a:Addr)(b:List V):Prop:=H a=some (.l b)/\O a=.free
mutual
def Rep(K:aN)(mg:bf)(O:a7)(H:ax):D->V->Prop
 |.aP,v=>v=.aP|.ay b,v=>v=.ay b|.int i,v=>v=.int i|.str x,v=>v=.str x|.t xs,v=>∃a c,v=.ref a/\dC K H a c/\bg K mg O H xs c|.l xs,v=>∃a c,v=.ref a/\sS K O H a c/\bg K mg O H xs c|.ref n,v=>∃a,v=.ref a/\O.bP[n]? = some a|.fn f,v=>∃a,v=.ref a/\mg f=some (.ref a)|.ty n,v=>v=.ty n
def bg(K:aN)(mg:bf)(O:a7)(H:ax):List D->List V->Prop
 |[],ys=>ys=[]|x::xs,ys=>∃y r,ys=y::r/\Rep K mg O H x y/\bg K mg O H xs r
end
structure Go(O ai:a7)(H H':ax):Prop where
 same:eF H H'
 own:∀b,H b≠none->ai b=O b
 bP:ai.bP=O.bP
def Go.refl(O:a7)(H:ax):Go O O H H:=⟨eF.refl _,λ_ _=>rfl,rfl⟩
def Go.trans{O d e:a7}(a:Go O d H H1)(b:Go d e H1 C):Go O e H C:=
 ⟨a.same.trans b.same,λc h=>(b.own c (a.same.some h)).trans (a.own c h),b.bP.trans a.bP⟩
def hK.same(s:eF H H')(h:hK H a u)(n:o_ u:=by exact trivial):hK H' a u:=by
 rcases h with h|⟨o,h⟩
 .exact .inl (s.at' _ _ h n)
 .exact .inr ⟨o,s.at' _ _ h⟩
omit [aC.aY]in
theorem hK.some{H:ax}(h:hK H a u):H a≠none:=by
 rcases h with h|⟨o,h⟩<;>rw[h]<;>intro z<;>cases z
def sS.cT{O:a7}(h:sS K O H a ys):du K H a ys:=du.of h.1
def h9(K:aN)(O:a7)(H:ax)(a:Addr)(b:List V):Prop:=(hK H a (.l b)/\(O a=.free\/O a=.out))\/BB K a b
def h9.cT{O:a7}(h:h9 K O H a ys):du K H a ys:=h.elim (λz=>.inl z.1) .inr
def h9.go{O b:a7}(g:Go O b H H')(h:h9 K O H a ys):h9 K b H' a ys:=by
 rcases h with⟨l,f⟩|l
 .exact .inl ⟨hK.same g.same l,by rw[g.own a (hK.some l)];exact f⟩
 .exact .inr l
def sS.go{O b:a7}(g:Go O b H H')(h:sS K O H a ys):sS K b H' a ys:=⟨g.same.at' _ _ h.1,(g.own a (by rw[h.1];intro z;cases z)).trans h.2⟩
section
variable{K:aN}{mg:bf}{O ai:a7}{H H':ax}
mutual
theorem Rep.go(g:Go O ai H H'):∀{d:D}{v:V},Rep K mg O H d v->Rep K mg ai H' d v
 |.aP,_,h=>h|.ay _,_,h=>h|.int _,_,h=>h|.str _,_,h=>h| .t _,_,h=>by obtain⟨a,b,q,l,r⟩:=h;exact⟨a,b,q,g.same.xH l,bg.go g r⟩
 |.l _,_,h=>by obtain⟨a,b,q,l,r⟩:=h;exact⟨a,b,q,l.go g,bg.go g r⟩
 |.ref _,_,h=>by obtain⟨a,q,l⟩:=h;exact⟨a,q,by rw[g.bP];exact l⟩
 |.fn _,_,h=>h|.ty _,_,h=>h
theorem bg.go(g:Go O ai H H'):∀{ds:List D}{c:List V},bg K mg O H ds c->bg K mg ai H' ds c
 |[],_,h=>h| _::_,_,h=>by obtain⟨x,r,q,a,b⟩:=h;exact⟨x,r,q,Rep.go g a,bg.go g b⟩
end
structure l9(O ai:a7):Prop where
 fr:∀a,O a=.free->ai a=.free
 bP:ai.bP=O.bP
mutual
theorem Rep.de(g:l9 O C):∀{d:D}{v:V},Rep K mg O H d v->Rep K mg C H d v
 |.aP,_,h=>h|.ay _,_,h=>h|.int _,_,h=>h|.str _,_,h=>h| .t _,_,h=>by obtain⟨a,b,q,l,r⟩:=h;exact⟨a,b,q,l,bg.de g r⟩
 |.l _,_,h=>by obtain⟨a,b,q,l,r⟩:=h;exact⟨a,b,q,⟨l.1,g.fr _ l.2⟩,bg.de g r⟩
 |.ref _,_,h=>by obtain⟨a,q,l⟩:=h;exact⟨a,q,by rw[g.bP];exact l⟩
 |.fn _,_,h=>h|.ty _,_,h=>h
theorem bg.de(g:l9 O C):∀{ds:List D}{c:List V},bg K mg O H ds c->bg K mg C H ds c
 |[],_,h=>h| _::_,_,h=>by obtain⟨x,r,q,a,b⟩:=h;exact⟨x,r,q,Rep.de g a,bg.de g b⟩
end
theorem bg.len:∀{ds:List D}{xs:List V},bg K mg O H ds xs->xs.length=ds.length
 |[],_,h=>by cases h;rfl
 |_::_,_,h=>by obtain⟨x,r,rfl,_,b⟩:=h;rw[amL,amL,bg.len b]
theorem bg.get:∀{ds:List D}{xs:List V}{i:Nat}{d:D},bg K mg O H ds xs->ds[i]? = some d->∃x,xs[i]? = some x/\Rep K mg O H d x
 |[],_,_,_,_,e=>by simp at e| _::_,_,0,d,h,e=>by obtain⟨x,r,rfl,a,_⟩:=h;cases(show some _=some d from e);exact⟨x,rfl,a⟩
 |_::ds,_,i+1,d,h,e=>by
  obtain⟨x,r,rfl,_,b⟩:=h;obtain⟨y,ao,aA⟩:=bg.get b e;exact⟨y,by simpa using ao,aA⟩
theorem bg.Mv:∀{ds:List D}{xs:List V}{i:Nat}{x:V},bg K mg O H ds xs->xs[i]? = some x->∃d,ds[i]? = some d/\Rep K mg O H d x
 |[],_,_,_,h,e=>by cases h;simp at e
 |_::_,_,0,x,h,e=>by obtain⟨y,r,rfl,a,_⟩:=h;cases(show some _=some x from e);exact⟨_,rfl,a⟩
 |_::ds,_,i+1,d,h,e=>by
  obtain⟨x,r,rfl,_,b⟩:=h;obtain⟨y,ao,aA⟩:=bg.Mv b e;exact⟨y,by simpa using ao,aA⟩
theorem bg.append:∀{ds c:List D}{xs d:List V},bg K mg O H ds xs->bg K mg O H c d->bg K mg O H (ds++c) (xs++d)
 |[],_,_,_,h,q=>by cases h;exact q
 |_::_,_,_,_,h,q=>by obtain⟨x,r,rfl,a,b⟩:=h;exact⟨x,_,rfl,a,bg.append b q⟩
def bg.one(h:Rep K mg O H d x):bg K mg O H [d] [x]:=⟨x,[],rfl,h,rfl⟩
theorem bg.take:∀{ds:List D}{xs:List V}(n:Nat),bg K mg O H ds xs->bg K mg O H (ds.take n) (xs.take n)
 |[],_,_,h=>by cases h;rw[aqT,aqT];rfl
 |_::_,_,0,_=>by rfl| _::_,_,n+1,h=>by obtain⟨x,r,rfl,a,b⟩:=h;exact⟨x,_,rfl,a,bg.take n b⟩
theorem bg.drop:∀{ds:List D}{xs:List V}(n:Nat),bg K mg O H ds xs->bg K mg O H (ds.drop n) (xs.drop n)
 |[],_,_,h=>by cases h;rw[List.drop_nil,List.drop_nil];rfl
 |_::_,_,0,h=>h| _::_,_,n+1,h=>by obtain⟨x,r,rfl,a,b⟩:=h;exact bg.drop n b
theorem bg.set(hd:Rep K mg O H d x):∀{ds:List D}{xs:List V}(n:Nat),bg K mg O H ds xs->bg K mg O H (ds.set n d) (xs.set n x)
 |[],_,_,h=>by cases h;exact rfl
 |_::_,_,0,h=>by obtain⟨y,r,rfl,a,b⟩:=h;exact⟨x,r,rfl,hd,b⟩
 |_::_,_,n+1,h=>by obtain⟨y,r,rfl,a,b⟩:=h;exact⟨y,_,rfl,a,bg.set hd n b⟩
def Qn(ns:List Int):bg K mg O H (ns.map D.int) (ns.map V.int):=by
 induction ns with
 |nil=>rfl|cons n r a=>exact⟨.int n,_,rfl,rfl,a⟩
def fE{κ:Type}(K:aN)(mg:bf)(O:a7)(H:ax)(a:List (κ×D))(b:List (κ×V)):Prop:=a.map (·.1)=b.map (·.1)/\bg K mg O H (a.map (·.2)) (b.map (·.2))
def en(K:aN)(mg:bf)(O:a7)(H:ax):R->V->Prop
 |.v d,v=>Rep K mg O H d v|.fr xs,v=>∃a b,v=.ref a/\H a=some (.l b)/\O a=.dV/\bg K mg O H xs b|.cj xs,v=>∃a b,v=.ref a/\h9 K O H a b/\bg K mg O H xs b|.mv xs,v=>∃a b,v=.ref a/\H a=some (.l b)/\bg K mg O H xs b
def en.go(g:Go O C H H'):∀{r:R}{v:V},en K mg O H r v->en K mg C H' r v
 |.v _,_,h=>Rep.go g h| .fr _,_,h=>by obtain⟨a,b,q,l,o,r⟩:=h;exact⟨a,b,q,g.same.at' _ _ l,(g.own a (by rw[l];intro z;cases z)).trans o,r.go g⟩
 |.cj _,_,h=>by obtain⟨a,b,q,l,r⟩:=h;exact⟨a,b,q,l.go g,r.go g⟩
 |.mv _,_,h=>by obtain⟨a,b,q,l,r⟩:=h;exact⟨a,b,q,g.same.at' _ _ l,r.go g⟩
theorem bg.imp{c:a7}(f:∀d v,Rep K mg O H d v->Rep K mg c H' d v):∀{ds:List D}{e:List V},bg K mg O H ds e->bg K mg c H' ds e
 |[],_,h=>h| _::_,_,h=>by obtain⟨x,r,q,a,b⟩:=h;exact⟨x,r,q,f _ _ a,bg.imp f b⟩
def R8(K:aN)(mg:bf)(c:Str)(C:Addr):Prop:=mg c=some (.ref C)/\jm K C
def js(K:aN)(mg:bf)(O:a7)(H:ax)(w:Own):Slot->Option V->Prop
 |.e,_=>True|.v d,u=>∃v,u=some v/\Rep K mg O H d v|.dM _ xs,u=>∃a b,u=some (.ref a)/\O a=w/\H a=some (.l b)/\bg K mg O H xs b|.cj xs,u=>∃a b,u=some (.ref a)/\h9 K O H a b/\bg K mg O H xs b
def js.go(g:Go O C H H'):∀{s:Slot}{u:Option V},js K mg O H w s u->js K mg C H' w s u
 |.e,_,_=>trivial| .v _,_,h=>by obtain⟨v,q,r⟩:=h;exact⟨v,q,r.go g⟩
 |.dM _ _,_,h=>by obtain⟨a,b,q,o,l,r⟩:=h;exact⟨a,b,q,(g.own a (by rw[l];intro z;cases z)).trans o,g.same.at' _ _ l,r.go g⟩
 |.cj _,_,h=>by
  obtain⟨a,b,q,l,r⟩:=h;exact⟨a,b,q,l.go g,r.go g⟩
end
def jr(O:a7):Prop:=O.bP.Nodup/\∀a∈O.bP,O a=.out
structure dh(O:a7)(H:ax):Prop where
 has:∀a,O a≠.free->H a≠none
 tabs:TabsOk H
 rh:jr O
abbrev hJ(n:Nat):={p:List Key×List Key // p.1.length=n}
def adJ(w:World)(p:List Key×List Key):Int:=reduceHash (anY (p.1.map (Ew w)++[reduceHash (anY (p.2.map (Ew w)))]))
def Fj(w:World){n:Nat}(x:hJ n×Addr×Value):ao5:=⟨adJ w x.1.1,.ref x.2.1,x.2.2⟩
def lr(n:Nat)(a:Addr)(xs:List (hJ n×Addr×Value)):eY:=.ext λh=>∃o b bj,h.get? a=some o/\o.ExactDict/\o.data=.dict b bj/\b.toList=xs.map (Fj aC.aY.wl)
def wF:Key->D
 |.inl i=>.int i|.inr x=>.str x
def uz(p:List Key×List Key):D:=.t (p.1.map wF++[.t (p.2.map wF)])
def e6(K:aN)(mg:bf)(O:a7)(H:ax){n:Nat}:List ((List Key×List Key)×D)->List (hJ n×Addr×Value)->Prop
 |[],xs=>xs=[]|p::C,xs=>∃y r,xs=y::r/\p.1=y.1.1/\Rep K mg O H (uz p.1) (.ref y.2.1)/\(∃v,Rep K mg O H p.2 v/\RelV v y.2.2)/\e6 K mg O H C r
theorem e6.imp{O g:a7}(f:∀d v,Rep K mg O H d v->Rep K mg g H' d v):∀{C:List ((List Key×List Key)×D)}{xs:List (hJ n×Addr×Value)},e6 K mg O H C xs->e6 K mg g H' C xs
 |[],_,h=>h| _::_,_,h=>by obtain⟨y,r,q,e,a,⟨v,b,c⟩,d⟩:=h;exact⟨y,r,q,e,f _ _ a,⟨v,f _ _ b,c⟩,e6.imp f d⟩
def om(K:aN)(mg:bf)(O:a7)(H:ax)(a:Addr):dR->Prop
 |.l xs=>∃f,H a=some (.l f)/\bg K mg O H xs f|.LS b=>∃d,H a=some (.ti d)/\fE K mg O H b d|.ru b=>∃d,H a=some (.gx d)/\fE K mg O H b d|.a' c fs=>∃C g e,H a=some (.ins C g e)/\R8 K mg c C/\fE K mg O H fs e|.dU n b=>∃xs:List (hJ n×Addr×Value),H a=some (lr n a xs)/\((a==aog)=false/\(xs.map (·.1)).Nodup)/\e6 K mg O H b xs
def fT(K:aN)(mg:bf)(O:a7)(H:ax)(S:bL):Prop:=∀(n:Nat)(o:dR),S[n]? = some o->∃a,O.bP[n]? = some a/\om K mg O H a o
def om.all{O j:a7}{H i:ax}(f:∀d v,Rep K mg O H d v->Rep K mg j i d v)(g:∀u,H a=some u->o_ u->i a=some u):∀{o:dR},om K mg O H a o->om K mg j i a o
 |.l _,h=>by obtain⟨b,l,r⟩:=h;exact⟨b,g _ l trivial,r.imp f⟩
 |.LS _,h=>by obtain⟨b,l,e,r⟩:=h;exact⟨b,g _ l trivial,e,r.imp f⟩
 |.ru _,h=>by obtain⟨b,l,e,r⟩:=h;exact⟨b,g _ l trivial,e,r.imp f⟩
 |.a' _ _,h=>by obtain⟨C,k,m,l,c,e,r⟩:=h;exact⟨C,k,m,g _ l trivial,c,e,r.imp f⟩
 |.dU _ _,h=>by obtain⟨xs,l,c,r⟩:=h;exact⟨xs,g _ l trivial,c,r.imp f⟩
def fT.all{O c:a7}{H b:ax}{S:bL}(s:fT K mg O H S)(f:∀d v,Rep K mg O H d v->Rep K mg c b d v)(e:c.bP=O.bP)(g:∀a∈O.bP,∀u,H a=some u->o_ u->b a=some u):fT K mg c b S:=λn o h=>by
 obtain⟨a,i,j⟩:=s n o h;exact⟨a,by rw[e];exact i,j.all f (g a (amD i))⟩
def fT.go{O b:a7}{S:bL}(s:fT K mg O H S)(g:Go O b H H'):fT K mg b H' S:=
 s.all (λ_ _ z=>Rep.go g z) g.bP λa _ u l n=>g.same.at' _ _ l n
def fT.nil{O:a7}:fT K mg O H []:=λn o h=>by cases n<;>cases h
structure cS(K:aN)(mg:bf)(O:a7)(U:aL)(S:bL)(ar:St)(H:ax):Prop where
 cy:dh O H
 len:U.length=ar.length
 loc:∀i s,U[i]? = some s->js K mg O H (.loc i) s (ar[i]?.join)
 gF:fT K mg O H S
def cS.go{O a:a7}{S:bL}(h:cS K mg O U S C H)(g:Go O a H H')(d:dh a H'):cS K mg a U S C H':=
 ⟨d,h.len,λi s e=>(h.loc i s e).go g,h.gF.go g⟩
def gZ(O:a7)(a:Addr)(o:Own):a7:=⟨λb=>if b=a then o else O b,O.bP⟩
omit [aC.aY]in
theorem m2{O:a7}{o:Own}:gZ O a o a=o:=if_pos rfl
omit [aC.aY]in
theorem pH{O:a7}{o:Own}(h:b≠a):gZ O a o b=O b:=if_neg h
section
variable{K:aN}{mg:bf}{O:a7}{U:aL}{S:bL}{ar:St}{H:ax}{p:Addr}{u:eY}{o:Own}
def Go.new(a:H p=none):Go O (gZ O p o) H (upd H p u):=
 ⟨sv a u,λb c=>pH (by rintro rfl;exact c a),rfl⟩
def Go.h2(a:H p=none):Go O O H (upd H p u):=⟨sv a u,λ_ _=>rfl,rfl⟩
def dh.new(d:dh O H)(b:H p=none):dh (gZ O p o) (upd H p u):=⟨λa c=>by
 by_cases e:a=p
 .subst e;rw[d2];intro z;cases z
 .rw[c6 e];rw[pH e]at c;exact d.has a c,d.tabs.new b u,d.rh.1,λa h=>by rw[pH (by rintro rfl;exact d.has _ (by rw[d.rh.2 _ h];intro z;cases z) b)];exact d.rh.2 a h⟩
def dh.same(d:dh O H)(s:eF H H'):dh O H':=⟨λa b=>s.some (d.has a b),s.bW d.tabs,d.rh⟩
def cS.new(h:cS K mg O U S ar H)(a:H p=none):cS K mg (gZ O p o) U S ar (upd H p u):=h.go (Go.new a) (h.cy.new a)
def cS.h2(h:cS K mg O U S ar H)(a:H p=none):cS K mg O U S ar (upd H p u):=h.go (Go.h2 a) (h.cy.same (sv a u))
end
def iA(H:ax):R->V->Prop
 |.fr _,v=>∀a,v=.ref a->H a=none|_,_=>True
def iA.back(s:eF H H1):∀{r:R}{v:V},iA H1 r v->iA H r v
 |.v _,_,_=>trivial|.cj _,_,_=>trivial|.mv _,_,_=>trivial|.fr _,_,h=>λa e=>s.free (h a e)
def ku(H:ax):List R->List V->Prop
 |r::rs,v::vs=>iA H r v/\ku H rs vs|_,_=>True
theorem ku.back(s:eF H H1):∀{rs:List R}{vs:List V},ku H1 rs vs->ku H rs vs
 |[],_,_=>trivial|_::_,[],_=>trivial|_::_,_::_,h=>⟨h.1.back s,ku.back s h.2⟩
def vB(K:aN)(mg:bf)(O:a7)(U:aL)(c:bL)(d:St)(H:ax)(r:R)(Q:cY):Prop:=
 ∀b v a,Go O b H a->cS K mg b U c d a->en K mg b a r v->iA H r v->Q v a
inductive p0{α:Type}(K:aN)(mg:bf)(m:aL->M α)(ar:St)(H:ax)(P:a7->aL->bL->α->Prop):Prop
 |mk (O:a7) (U:aL) (S:bL) (x:α) (aq:bL) (st:cS K mg O U S ar H) (h:(m U).run S=.ok x aq) (q:P O U aq x):p0 K mg m ar H P
def gG(K:aN)(mg:bf)(m:bp):TE:=λa H Q=>p0 K mg m a H λO U b r=>vB K mg O U b a H r Q
def pE(K:aN)(mg:bf)(m:aL->M Bool):TT:=λd H Q=>p0 K mg m d H λO U e b=>∀c a,Go O c H a->cS K mg c U e d a->Q b a
abbrev jl(X:aT)(e:Expr)(m:bp):Prop:=b3 X e (gG X.K X.mg m)
abbrev G8(X:aT)(e:Expr)(m:aL->M Bool):Prop:=iO X e (pE X.K X.mg m)
abbrev x_(X:aT)(e:Expr)(m:aL->M Bool):Prop:=mc X e (pE X.K X.mg m)
def ja(K:aN)(mg:bf)(O:a7)(H:ax):List R->List V->Prop
 |[],ys=>ys=[]|x::xs,ys=>∃y r,ys=y::r/\en K mg O H x y/\ja K mg O H xs r
abbrev c3:=aL->M (List R)
def qN(K:aN)(mg:bf)(m:c3):gf:=λc H Q=>p0 K mg m c H λO U d rs=>∀b vs a,Go O b H a->cS K mg b U d c a->ja K mg b a rs vs->ku H rs vs->Q vs a
abbrev G5(X:aT)(a:List Expr)(m:c3):Prop:=ho X a (qN X.K X.mg m)
def ef{t t':TE}(h:b3 X e t)(i:∀U H Q,t' U H Q->t U H Q):b3 X e t':=λa s U H Q I q=>h a s U H Q I (i _ _ _ q)
def xA{t t':TT}(h:iO X e t)(i:∀U H Q,t' U H Q->t U H Q):iO X e t':=λa s U H Q I q=>h a s U H Q I (i _ _ _ q)
def P8{t t':TT}(h:mc X e t)(i:∀U H Q,t' U H Q->t U H Q):mc X e t':=λb a s U H Q I q=>h b a s U H Q I (i _ _ _ q)
def Aq{t t':gf}(h:ho X C t)(i:∀U H Q,t' U H Q->t U H Q):ho X C t':=λpos a s U H Q I q=>h pos a s U H Q I (i _ _ _ q)
@[simp] def J(i:Nat)(U:aL):M R:=match U[i]? with
 |some (.v d)=>pure (.v d)|some (.dM _ xs)=>pure (.mv xs)|some (.cj xs)=>pure (.cj xs)|_=>bad
def bb(d:D):bp:=λ_=>pure (.v d)
section
variable{X:aT}{a b c e:Expr}{ma cJ et m:bp}{cg:aL->M Bool}
def vS{v:V}(h:b3 X e (pB v))(r:∀O H,Rep X.K X.mg O H d v):jl X e (bb d):=ef h λi H Q f=>by
 obtain⟨O,U,S,j,g,st,h,q⟩:=f;cases h;exact q O v H (Go.refl _ _) st (r O H) trivial
@[simp] def ak(f:R->R->M R)(a b:bp)(U:aL):M R:=do
 let x <-a U
 let y <-b U
 f x y
def d3(K:aN)(mg:bf)(r:ff)(f:R->R->M R):Prop:=
 ∀O U S ar H x y C bU bw I (Q:cY),cS K mg O U S ar H->en K mg O H C x->en K mg O H bU y->(f C bU).run S=.ok bw I->vB K mg O U I ar H bw Q->r x y H Q
def vM{r:ff}(J:d3 K mg r f):∀d H Q,gG K mg (ak f ma cJ) d H Q->sC r (gG K mg ma) (gG K mg cJ) d H Q:=by
 rintro d H Q ⟨O,U,S,E,z,st,h,q⟩;obtain⟨x,S1,t,h⟩:=M.inv h;obtain⟨y,j,u,h⟩:=M.inv h;refine⟨O,U,S,x,S1,st,t,λo G N k s n bt=>?_⟩;refine⟨o,U,S1,y,j,s,u,λD L p i bQ B P=>?_⟩;exact J D U j d p G L x y E z Q bQ (n.go i) B h λw v l g F A nn=>q w v l ((k.trans i).trans g) F A (nn.back (k.trans i).same)
def R.sD:R->M Bool
 |.v (.ay b)=>pure b|_=>bad
@[simp] def aR(m:bp)(U:aL):M Bool:=do
 let x <-m U
 x.sD
omit [aC.aY]in
theorem xU{r:R}{b:Bool}{S f:bL}(h:r.sD.run S=.ok b f):r=.v (.ay b)/\S=f:=by
 cases r with
 |v d=>cases d<;>cases h<;>exact⟨rfl,rfl⟩
 |fr _=>cases h
 |cj _=>cases h
 |mv _=>cases h
def Gv:∀d H Q,pE K mg (aR m) d H Q->xS (gG K mg m) d H Q:=by
 rintro d H Q ⟨O,U,S,t,n,st,h,q⟩;obtain⟨x,S1,i,h⟩:=M.inv h;obtain⟨rfl,rfl⟩:=xU h;exact⟨O,U,S,_,_,st,i,λj v f g l k _=>⟨t,k,q j f g l⟩⟩
def Q3{t t':TE}(i:∀U H Q,t' U H Q->t U H Q):∀U H Q,xS t' U H Q->xS t U H Q:=λU H Q q=>i _ _ _ q
@[simp] def e0(f g:R->R->M R)(a b c:bp)(U:aL):M R:=do
 let x <-a U
 let y <-b U
 let z <-f x y
 let t <-z.sD
 if t=true then do
  let w <-c U
  g y w
 else pure (.v (.ay false))
def JJ{r l:ff}(hf:d3 K mg r f)(P:d3 K mg l g):∀d H Q,gG K mg (e0 f g ma cJ et) d H Q->Gq r l (gG K mg ma) (gG K mg cJ) (gG K mg et) d H Q:=by
 rintro d H Q ⟨O,U,S,l,Z,st,h,q⟩;refine a4 λi=>?_
 obtain⟨x,S1,T,h⟩:=M.inv h;obtain⟨y,o,V,h⟩:=M.inv h;obtain⟨z,hL,C,h⟩:=M.inv h;obtain⟨t,nk,I,h⟩:=M.inv h;obtain⟨rfl,rfl⟩:=xU I;refine i ⟨O,U,S,x,S1,st,T,λL fC H1 g1 R J bt=>?_⟩;refine⟨L,U,S1,y,o,R,V,λbl D N u bQ p mT=>?_⟩;refine hf bl U o d N fC D x y _ _ _ bQ (J.go u) p C λs Y c8 A B k _=>⟨t,k,?_⟩
 have j:=(g1.trans u).trans A;refine a4 λi=>?_
 cases t with
 |false=>
  cases h;exact i (nS (q s _ c8 j B rfl trivial))
 |true=>
  obtain⟨w,E,d1,h⟩:=M.inv h;refine i ?_;refine nT ⟨s,U,_,w,E,B,d1,λG cj kn n uZ rw nw=>?_⟩;exact P G U E d kn D cj y w _ Z Q uZ (p.go (A.trans n)) rw h λW v F g cp k nn=>q W v F ((j.trans n).trans g) cp k (nn.back (j.trans n).same)
@[simp] def jw(a b:bp)(U:aL):M R:=do
 let x <-a U
 let t <-x.sD
 if t=true then b U else pure (.v (.ay false))
@[simp] def p7(a b:bp)(U:aL):M R:=do
 let x <-a U
 let t <-x.sD
 if t=true then pure (.v (.ay true))else b U
@[simp] def vP(a:bp)(U:aL):M R:=do
 let x <-a U
 let t <-x.sD
 pure (.v (.ay (!t)))
@[simp] def hE(a b:aL->M Bool)(U:aL):M Bool:=do
 let t <-a U
 if t=true then b U else pure false
@[simp] def fA(a b:aL->M Bool)(U:aL):M Bool:=do
 let t <-a U
 if t=true then pure true else b U
@[simp] def eE(a:aL->M Bool)(U:aL):M Bool:=do
 let t <-a U
 pure (!t)
def x_.cF(h:x_ X a cg):G8 X a cg:=h.pt
end
def sh(g:Int->Int->Int):R->R->M R
 |.v (.int i),.v (.int j)=>pure (.v (.int (g i j)))|_,_=>bad
def pd(C:Int->Int->Prop)[∀i j,Decidable (C i j)](g:Int->Int->Int):R->R->M R
 |.v (.int i),.v (.int j)=>if C i j then pure (.v (.int (g i j)))else bad|_,_=>bad
def sf(g:Int->Int->Bool):R->R->M R
 |.v (.int i),.v (.int j)=>pure (.v (.ay (g i j)))|_,_=>bad
section
variable{K:aN}{mg:bf}
set_option tactic.hygienic true in
def yA{g:Int->Int->Int}:d3 K mg (h4 λi j=>.int (g i j)) (sh g):=λO U S e H x y c f k d Q st b a h q=>by
 unfold sh at h;split at h
 .rename_i i j
  cases h;exact⟨i,j,b,a,q O _ H (Go.refl _ _) st rfl trivial⟩
 .cases h
def td{C:Int->Int->Prop}{a:Int->Int->Prop}[∀i j,Decidable (a i j)]{g:Int->Int->Int}(e:∀i j,a i j->C i j):d3 K mg (ke C λi j=>.int (g i j)) (pd a g):=λO U S l H x y f m n k Q st d b h q=>by
 unfold pd at h;split at h
 .rename_i i j
  by_cases c:a i j
  .rw[if_pos c]at h
   cases h;exact⟨i,j,d,b,e i j c,q O _ H (Go.refl _ _) st rfl trivial⟩
  .rw[if_neg c]at h;cases h
 .cases h
set_option tactic.hygienic true in
def yz{g:Int->Int->Bool}:d3 K mg (h4 λi j=>.ay (g i j)) (sf g):=λO U S e H x y c f k d Q st b a h q=>by
 unfold sf at h;split at h
 .rename_i i j
  cases h;exact⟨i,j,b,a,q O _ H (Go.refl _ _) st rfl trivial⟩
 .cases h
end
abbrev eh:=sh (· + ·)
abbrev pg:=sh (· - ·)
abbrev oMod:=pd (λ_ j=>0<j) (· % ·)
abbrev pe:=pd (λi j=>0<=j/\j<=1000000/\i.natAbs<2 ^ 64) (λi j=>i ^ j.toNat)
abbrev Fs:=pd (λi j=>0<=j/\j<=1000000/\i.natAbs<2 ^ 64) (λi j=>i*2 ^ j.toNat)
abbrev xo:=pd (λ_ j=>0<=j) (λi j=>i / 2 ^ j.toNat)
abbrev uC:=sh anH
abbrev uD:=sh apm
abbrev oLt:=sf λi j=>decide (i<j)
abbrev oLe:=sf λi j=>decide (i<=j)
abbrev pb:=sf λi j=>decide (j<i)
abbrev uF:=sf λi j=>decide (j<=i)
section
variable{X:aT}
def HD:d3 X.K X.mg (h4 λi j=>.int (i+j)) eh:=yA
def S8:d3 X.K X.mg (h4 λi j=>.int (i-j)) pg:=yA
def S3:d3 X.K X.mg (ke (λ_ j=>0<j) λi j=>.int (i % j)) oMod:=td λ_ _ h=>h
def S5:d3 X.K X.mg (ke x9 λi j=>.int (i ^ j.toNat)) pe:=td λ_ _ h=>h
def S6:d3 X.K X.mg (ke x9 λi j=>.int (i*2 ^ j.toNat)) Fs:=td λ_ _ h=>h
def S7:d3 X.K X.mg (ke (λ_ j=>0<=j) λi j=>.int (i / 2 ^ j.toNat)) xo:=td λ_ _ h=>h
def SV:d3 X.K X.mg (h4 λi j=>.int (anH i j)) uC:=yA
def SW:d3 X.K X.mg (h4 λi j=>.int (apm i j)) uD:=yA
def B6:d3 X.K X.mg (h4 λi j=>.ay (decide (i<j))) oLt:=yz
def ri:d3 X.K X.mg (h4 λi j=>.ay (decide (i<=j))) oLe:=yz
def S0:d3 X.K X.mg (h4 λi j=>.ay (decide (j<i))) pb:=yz
def HG:d3 X.K X.mg (h4 λi j=>.ay (decide (j<=i))) uF:=yz
end
@[simp] def bh(f:R->M R)(a:bp)(U:aL):M R:=do
 let x <-a U
 f x
def R.fL:R->Option (List D)
 |.v (.l xs)=>some xs|.fr xs=>some xs|.cj xs=>some xs|.mv xs=>some xs|_=>none
def R.Gw:R->Option (List D)
 |.v (.t xs)=>some xs|_=>none
def R.seq(r:R):Option (List D):=r.fL<|> r.Gw
def R.qv{K:aN}{mg:bf}{O:a7}{H:ax}{r:R}{v:V}{xs:List D}(h:en K mg O H r v)(e:r.fL=some xs):∃a b,v=.ref a/\du K H a b/\bg K mg O H xs b:=by
 unfold R.fL at e;split at e
 .cases e;obtain⟨a,b,q,l,r⟩:=h;exact⟨a,b,q,l.cT,r⟩
 .cases e;obtain⟨a,b,q,l,_,r⟩:=h;exact⟨a,b,q,du.of l,r⟩
 .cases e;obtain⟨a,b,q,l,r⟩:=h;exact⟨a,b,q,l.cT,r⟩
 .cases e;obtain⟨a,b,q,l,r⟩:=h;exact⟨a,b,q,du.of l,r⟩
 .cases e
def R.ahL{K:aN}{mg:bf}{O:a7}{H:ax}{r:R}{v:V}{xs:List D}(h:en K mg O H r v)(e:r.Gw=some xs):∃a b,v=.ref a/\dC K H a b/\bg K mg O H xs b:=by
 unfold R.Gw at e;split at e
 .cases e;exact h
 .cases e
def R.xI{K:aN}{mg:bf}{O:a7}{H:ax}{r:R}{v:V}{xs:List D}(h:en K mg O H r v)(e:r.seq=some xs):∃a b,v=.ref a/\(du K H a b\/dC K H a b)/\bg K mg O H xs b:=by
 unfold R.seq at e
 cases ao:r.fL with
 |some c=>rw[ao]at e;cases e;obtain⟨a,b,q,l,r⟩:=R.qv h ao;exact⟨a,b,q,.inl l,r⟩
 |none=>rw[ao]at e;obtain⟨a,b,q,l,r⟩:=R.ahL h e;exact⟨a,b,q,.inr l,r⟩
def bg.d7{O:a7}{i:Int}(h:bg K mg O H ds xs)(e:d7 ds i=some d):∃x,aC.d7 xs i=some x/\Rep K mg O H d x:=by
 unfold aC.d7 at e ⊢;rw[h.len]
 cases q:oX ds.length i with
 |none=>rw[q]at e;cases e
 |some j=>rw[q]at e;exact h.get e
noncomputable def eC:R->R->M R
 |.v (.str z),.v (.int i)=>match d7 z.cps.toList i with
  |some c=>if z.length<=ami then pure (.v (.str ⟨#[c]⟩))else bad|none=>bad
 |x,.v (.int i)=>match x.seq with
  |some xs=>match d7 xs i with
   |some d=>pure (.v d)|none=>bad
  |none=>bad
 |_,_=>bad
set_option tactic.hygienic true in
def HL:d3 K mg (Qi K) eC:=fun O U S ar H x y a8 bU bw aq Q st I C h q=>by
 unfold eC at h;split at h
 .rename_i z i
  split at h
  .rename_i c aA
   by_cases hz:z.length<=ami
   .rw[if_pos hz]at h
    cases h;exact .inr (.inr ⟨z,i,c,I,C,hz,aA,q O _ H (Go.refl _ _) st rfl trivial⟩)
   .rw[if_neg hz]at h;cases h
  .cases h
 .rename_i i _
  split at h
  .rename_i xs e
   split at h
   .rename_i d aA
    cases h;obtain⟨a,f,rfl,l,j⟩:=R.xI I e;obtain⟨z,bK,g⟩:=bg.d7 j aA;have b:=q O z H (Go.refl _ _) st g trivial;rcases l with l|l
    .exact .inl ⟨a,f,i,z,rfl,C,l,bK,b⟩
    .exact .inr (.inl ⟨a,f,i,z,rfl,C,l,bK,b⟩)
   .cases h
  .cases h
 .cases h
def cQ:c3:=λ_=>pure []
@[simp] def di(m:bp)(ms:c3)(U:aL):M (List R):=do
 let x <-m U
 let xs <-ms U
 pure (x::xs)
def R.dat:R->M D
 |.v d=>pure d|.fr xs=>pure (.l xs)|_=>bad
def nC:List R->M (List D)
 |[]=>pure []|r::rs=>do
  let d <-r.dat
  let ds <-nC rs
  pure (d::ds)
def cL(H₀:ax)(O:a7):a7:=⟨λb=>match H₀ b,O b with
 |none,.dV=>.free| _,o=>o,O.bP⟩
def Dk{H₀:ax}{O:a7}(h:H₀ b≠none):cL H₀ O b=O b:=by
 show(match H₀ b,O b with|none,.dV=>.free|_,o=>o)=O b
 cases e:H₀ b with
 |none=>exact absurd e h|some o=>cases O b<;>rfl
def y3{H₀:ax}{O:a7}(h:H₀ b=none)(t:O b=.dV):cL H₀ O b=.free:=by show(match H₀ b,O b with|none,.dV=>.free|_,o=>o)=Own.free;rw[h,t]
def rD{O:a7}(t:O b≠.dV):cL H₀ O b=O b:=by
 show(match H₀ b,O b with|none,.dV=>.free|_,o=>o)=O b;cases e:H₀ b<;>cases aA:O b<;>first|rfl|exact absurd aA t
def iV(H₀:ax)(O:a7):l9 O (cL H₀ O):=⟨λa h=>by rw[rD (by rw[h];intro z;cases z),h],rfl⟩
def js.de{O b:a7}(g:l9 O b)(d:∀a,O a=.out->b a=.out)(hw:∀a,O a=w->b a=w):∀{s:Slot}{u:Option V},js K mg O H w s u->js K mg b H w s u
 |.e,_,_=>trivial| .v _,_,h=>by obtain⟨v,q,r⟩:=h;exact⟨v,q,r.de g⟩
 |.dM _ _,_,h=>by obtain⟨a,c,q,o,l,r⟩:=h;exact⟨a,c,q,hw a o,l,r.de g⟩
 |.cj _,_,h=>by
  obtain⟨a,c,q,l,r⟩:=h;refine⟨a,c,q,l.imp (λz=>⟨z.1,z.2.imp (g.fr a) (d a)⟩) id,r.de g⟩
section
variable{K:aN}{mg:bf}{O:a7}{U:aL}{S:bL}{ar:St}{H H₀:ax}
def cS.cL(h:cS K mg O U S ar H)(H₀:ax):cS K mg (cL H₀ O) U S ar H:=
  ⟨⟨λa b=>h.cy.has a λz=>b (by rw[rD (by rw[z];intro w;cases w),z]),h.cy.tabs,h.cy.rh.1,λa m=>by rw[rD (by rw[h.cy.rh.2 a m];intro w;cases w)];exact h.cy.rh.2 a m⟩,h.len,
   λi s e=>(h.loc i s e).de (iV _ _) (λa z=>by rw[rD (by rw[z];intro w;cases w),z]) (λa z=>by rw[rD (by rw[z];intro w;cases w),z]),h.gF.all (λ_ _ z=>Rep.de (iV _ _) z) rfl λ_ _ _ l _=>l⟩
def Go.cL{c:a7}(g:Go c O H₀ H):Go c (cL H₀ O) H₀ H:=⟨g.same,λb a=>(Dk a).trans (g.own b a),g.bP⟩
def qb{r:R}{v:V}(b:en K mg O H r v)(c:iA H₀ r v)(h:r.dat.run S=.ok d C):Rep K mg (az.cL H₀ O) H d v/\S=C:=by
 cases r with
 |v d'=>cases h;exact⟨Rep.de (iV _ _) b,rfl⟩
 |fr xs=>
  cases h;obtain⟨a,f,rfl,l,t,e⟩:=b;exact⟨⟨a,f,rfl,⟨l,y3 (c a rfl) t⟩,bg.de (iV _ _) e⟩,rfl⟩
 |cj xs=>cases h
 |mv xs=>cases h
theorem CT:∀{rs:List R}{vs:List V}{ds:List D}{S a:bL},ja K mg O H rs vs->ku H₀ rs vs->(nC rs).run S=.ok ds a->bg K mg (az.cL H₀ O) H ds vs/\S=a
 |[],vs,ds,S,a,C,_,h=>by cases h;exact⟨C,rfl⟩
 |r::rs,vs,ds,S,a,C,I,h=>by
  obtain⟨d,S1,c,h⟩:=M.inv h;obtain⟨j,i,e,h⟩:=M.inv h;cases h;obtain⟨v,b,rfl,g,f⟩:=C;obtain⟨bE,rfl⟩:=qb g I.1 c;obtain⟨bZ,rfl⟩:=CT f I.2 e;exact⟨⟨v,b,rfl,bE,bZ⟩,rfl⟩
end
@[simp] def bM(ms:c3)(U:aL):M R:=do
 let rs <-ms U
 let ds <-nC rs
 hR (ds.length<=1000)
 pure (.v (.t ds))
@[simp] def eL(ms:c3)(U:aL):M R:=do
 let rs <-ms U
 let ds <-nC rs
 hR (ds.length<=1000)
 pure (.fr ds)
@[simp] def dm(f:List R->M R)(ms:c3)(U:aL):M R:=do
 let rs <-ms U
 f rs
def kl(K:aN)(mg:bf)(r:List V->ax->cY->Prop)(f:List R->M R):Prop:=
 ∀O U S I H xs rs bw C (Q:cY),cS K mg O U S I H->ja K mg O H rs xs->(f rs).run S=.ok bw C->vB K mg O U C I H bw Q->r xs H Q
section
variable{ms:c3}{r:List V->ax->cY->Prop}{f:List R->M R}
def JK(t:kl K mg r f):∀a H Q,gG K mg (dm f ms) a H Q->Gp r (qN K mg ms) a H Q:=by
 rintro a H Q ⟨O,U,S,p,n,st,h,q⟩;obtain⟨rs,S1,l,h⟩:=M.inv h;refine⟨O,U,S,rs,S1,st,l,λj vs i b k o nn=>?_⟩;exact t j U S1 a i vs rs p n Q k o h λm v e g s c d=>q m v e (b.trans g) s c (d.back b.same)
end
def hu:List R->M R
 |[x]=>match x.seq with
  |some xs=>pure (.v (.int (xs.length:Nat)))|none=>bad
 |_=>bad
def nF:List R->M R
 |[.v (.str z)]=>if z.length<=ami then pure (.v (.int (z.length:Nat)))else bad|_=>bad
noncomputable def R.kind:R->Option String
 |.v .aP=>some "NoneType"|.v (.ay _)=>some "bool"|.v (.int _)=>some "int"|.v (.str _)=>some "str"|.v (.t _)=>some "tuple"|.v (.l _)=>some "list"|.fr _=>some "list"|.cj _=>some "list"|.mv _=>some "list"|_=>none
def mn:List R->M R
 |[x,.v (.ty n)]=>match x.kind with
  |some t=>if n∈["int","bool","tuple","list","str"]then pure (.v (.ay (wD t n)))else bad|none=>bad
 |_=>bad
def v7(g:Int->Int->Int):List R->M R
 |[.v (.int i),.v (.int j)]=>pure (.v (.int (g i j)))|_=>bad
abbrev VJ:=v7 λi j=>if j > i then j else i
def v8:List R->M R
 |[.v (.int i)]=>pure (.v (.int (if i<0 then -i else i)))|_=>bad
def ny:List D->Option (List Bool)
 |[]=>some []|.ay b::r=>(ny r).map (b::·)|_=>none
def v9:List R->M R
 |[x]=>match x.fL.bind ny with
  |some bs=>pure (.v (.ay (bs.any id)))|none=>bad
 |_=>bad
def oK:List R->M R
 |[x]=>match x.fL.bind ny with
  |some bs=>pure (.v (.ay (bs.all id)))|none=>bad
 |_=>bad
def tw:List R->M R
 |[.v (.int i)]=>pure (.v (.int i))|[.v (.ay b)]=>pure (.v (.int (if b then 1 else 0)))|_=>bad
def v_:List R->M R
 |[x]=>match x.seq with
  |some xs=>pure (.fr xs)|none=>bad
 |_=>bad
def qi:List R->M R
 |[x]=>match x.seq with
  |some xs=>pure (.v (.t xs))|none=>bad
 |_=>bad
section
variable{K:aN}{mg:bf}
def jM{O:a7}{r:R}(h:ja K mg O H [r] vs):∃v,vs=[v]/\en K mg O H r v:=by
 obtain⟨v,c,rfl,a,b⟩:=h;cases b;exact⟨v,rfl,a⟩
def Qr{O:a7}{r s:R}(h:ja K mg O H [r,s] vs):∃v u,vs=[v,u]/\en K mg O H r v/\en K mg O H s u:=by
 obtain⟨v,f,rfl,a,b⟩:=h;obtain⟨u,e,rfl,c,d⟩:=b;cases d;exact⟨v,u,rfl,a,c⟩
def aao:kl K mg (λxs H Q=>∃p b,xs=[.ref p]/\(du K H p b\/dC K H p b)/\Q (.int b.length) H) hu:=λO U S i H vs rs j g Q st c h q=>by
 unfold hu at h;split at h
 .rename_i x
  obtain⟨v,rfl,d⟩:=jM c;split at h
  .rename_i xs e
   cases h;obtain⟨a,b,rfl,l,f⟩:=R.xI d e;exact⟨a,b,rfl,l,by rw[f.len];exact q O _ H (Go.refl _ _) st rfl trivial⟩
  .cases h
 .cases h
def aap:kl K mg (λxs H Q=>∃z,xs=[.str z]/\z.length<=ami/\Q (.int z.length) H) nF:=λO U S d H vs rs e c Q st a h q=>by
 unfold nF at h;split at h
 .rename_i z
  obtain⟨v,rfl,b⟩:=jM a;cases(show v=.str z from b)
  by_cases hz:z.length<=ami
  .rw[if_pos hz]at h
   cases h;exact⟨z,rfl,hz,q O _ H (Go.refl _ _) st rfl trivial⟩
  .rw[if_neg hz]at h;cases h
 .cases h
def R.aaR{O:a7}{H:ax}{r:R}{v:V}{t:String}(h:en K mg O H r v)(e:r.kind=some t):nr K H v t:=by
 unfold R.kind at e;split at e
 .cases e;cases h;exact .aP
 .cases e;cases h;exact .ay _
 .cases e;cases h;exact .int _
 .cases e;cases h;exact .str _
 .cases e;obtain⟨a,b,rfl,l,_⟩:=h;exact .t l
 .cases e;obtain⟨a,b,rfl,l,_⟩:=h;exact .l l.cT
 .cases e;obtain⟨a,b,rfl,l,_⟩:=h;exact .l (du.of l)
 .cases e;obtain⟨a,b,rfl,l,_⟩:=h;exact .l l.cT
 .cases e;obtain⟨a,b,rfl,l,_⟩:=h;exact .l (du.of l)
 .cases e
set_option tactic.hygienic true in
def aan:kl K mg (Qh K) mn:=fun O U S ar H vs rs bw I Q st C h q=>by
 unfold mn at h;split at h
 .rename_i x n
  obtain⟨v,u,rfl,c,b⟩:=Qr C;cases(show u=.ty n from b);split at h
  .rename_i t e
   by_cases a:n∈["int","bool","tuple","list","str"]
   .rw[if_pos a]at h
    cases h;exact⟨v,n,t,rfl,R.aaR c e,a,q O _ H (Go.refl _ _) st rfl trivial⟩
   .rw[if_neg a]at h;cases h
  .cases h
 .cases h
set_option tactic.hygienic true in
def aai{g:Int->Int->Int}:kl K mg (λxs H Q=>∃i j,xs=[.int i,.int j]/\Q (.int (g i j)) H) (v7 g):=λO U S e H vs rs f d Q st b h q=>by
 unfold v7 at h;split at h
 .rename_i i j
  obtain⟨v,u,rfl,c,a⟩:=Qr b;cases(show v=.int i from c);cases(show u=.int j from a);cases h;exact⟨i,j,rfl,q O _ H (Go.refl _ _) st rfl trivial⟩
 .cases h
def aaj:kl K mg (λxs H Q=>∃i,xs=[.int i]/\Q (.int (if i<0 then -i else i)) H) v8:=λO U S d H vs rs e c Q st a h q=>by
 unfold v8 at h;split at h
 .rename_i i
  obtain⟨v,rfl,b⟩:=jM a;cases(show v=.int i from b);cases h;exact⟨i,rfl,q O _ H (Go.refl _ _) st rfl trivial⟩
 .cases h
theorem Cv{O:a7}:∀{ds:List D}{a:List V}{bs:List Bool},bg K mg O H ds a->ny ds=some bs->a=bs.map V.ay
 |[],a,bs,h,e=>by cases e;exact h
 |d::ds,a,bs,h,e=>by
  cases d with
  |ay b=>
   obtain⟨cs,ao,rfl⟩:=aoa.mp e;obtain⟨y,r,rfl,c,f⟩:=h;rw[Cv f ao,show y=.ay b from c];rfl
  |_=>exact absurd (show(none:Option (List Bool))=some bs from e) (by intro z;cases z)
set_option tactic.hygienic true in
def aal:kl K mg (λxs H Q=>∃(l:Addr)(bs:List Bool),xs=[.ref l]/\du K H l (bs.map V.ay)/\Q (.ay (bs.any id)) H) v9:=λO U S g H vs rs i f Q st b h q=>by
 unfold v9 at h;split at h
 .rename_i x
  obtain⟨v,rfl,c⟩:=jM b;split at h
  .rename_i xs e
   cases h;obtain⟨k,ao,aA⟩:=apb.mp e;obtain⟨a,j,rfl,l,d⟩:=R.qv c ao;rw[Cv d aA]at l;exact⟨a,xs,rfl,l,q O _ H (Go.refl _ _) st rfl trivial⟩
  .cases h
 .cases h
set_option tactic.hygienic true in
def aak:kl K mg (λxs H Q=>∃(l:Addr)(bs:List Bool),xs=[.ref l]/\du K H l (bs.map V.ay)/\Q (.ay (bs.all id)) H) oK:=λO U S i H vs rs j g Q st b h q=>by
 unfold oK at h;refine a4 λd=>?_
 split at h
 .rename_i x
  obtain⟨v,rfl,c⟩:=jM b;split at h
  .rename_i xs e
   cases h;obtain⟨m,ao,aA⟩:=apb.mp e;obtain⟨a,k,rfl,l,f⟩:=R.qv c ao;rw[Cv f aA]at l;exact d ⟨a,xs,rfl,l,q O _ H (Go.refl _ _) st rfl trivial⟩
  .cases h
 .cases h
def aam:kl K mg (λxs H Q=>(∃i,xs=[.int i]/\Q (.int i) H)\/∃k,xs=[.ay k]/\Q (.int (if k then 1 else 0)) H) tw:=λO U S f H vs rs g e Q st c h q=>by
 unfold tw at h;refine a4 λd=>?_
 split at h
 .rename_i i
  obtain⟨v,rfl,a⟩:=jM c;cases(show v=.int i from a);cases h;exact d (.inl ⟨i,rfl,q O _ H (Go.refl _ _) st rfl trivial⟩)
 .rename_i b
  obtain⟨v,rfl,a⟩:=jM c;cases(show v=.ay b from a);cases h;exact d (.inr ⟨b,rfl,q O _ H (Go.refl _ _) st rfl trivial⟩)
 .cases h
def aaq:kl K mg (λxs H Q=>∃p c,xs=[.ref p]/\(du K H p c\/dC K H p c)/\∀l,H l=none->Q (.ref l) (upd H l (.l c))) v_:=λO U S n H vs rs o m Q st f h q=>by
 unfold v_ at h;refine a4 λi=>?_
 split at h
 .rename_i x
  obtain⟨v,rfl,g⟩:=jM f;split at h
  .rename_i xs e
   cases h;obtain⟨a,c,rfl,l,k⟩:=R.xI g e;refine i ⟨a,c,rfl,l,λp d=>q (gZ O p .dV) _ _ (Go.new d) (st.new d) ⟨p,c,rfl,d2,m2,k.go (Go.new d)⟩ λb j=>?_⟩;cases j;exact d
  .cases h
 .cases h
def aat:kl K mg (λxs H Q=>∃p b,xs=[.ref p]/\((du K H p b/\∀l,H l=none->Q (.ref l) (upd H l (.t b)))\/(dC K H p b/\Q (.ref p) H))) qi:=λO U S k H vs rs m j Q st g h q=>by
 unfold qi at h;refine a4 λc=>?_
 split at h
 .rename_i x
  obtain⟨v,rfl,i⟩:=jM g;split at h
  .rename_i xs e
   cases h;obtain⟨a,b,rfl,l,f⟩:=R.xI i e;refine c ⟨a,b,rfl,?_⟩;refine a4 λc=>?_
   rcases l with l|l
   .exact c (.inl ⟨l,λp d=>q O _ _ (Go.h2 d) (st.h2 d) ⟨p,b,rfl,dC.of d2,f.go (Go.h2 d)⟩ trivial⟩)
   .exact c (.inr ⟨l,q O _ _ (Go.refl _ _) st ⟨a,b,rfl,l,f⟩ trivial⟩)
  .cases h
 .cases h
end
def cutD{α:Type}(xs:List α)(lo hi:Option Int):List α:=(xs.drop (dg.cD xs.length 0 lo)).take (dg.cD xs.length xs.length hi-dg.cD xs.length 0 lo)
def bg.cut{O:a7}(h:bg K mg O H ds xs)(lo hi:Option Int):bg K mg O H (cutD ds lo hi) (th xs lo hi):=by
 unfold cutD th;rw[h.len];exact(h.drop _).take _
abbrev mb:=aL->M (Option Int)
def ahE(K:aN)(mg:bf)(m:mb):fF:=λd H Q=>p0 K mg m d H λO U e b=>∀c a,Go O c H a->cS K mg c U e d a->Q b a
abbrev R6(X:aT)(e:Option Expr)(m:mb):Prop:=vA X e (ahE X.K X.mg m)
def iD:mb:=λ_=>pure none
@[simp] def iQ(m:bp)(U:aL):M (Option Int):=do
 let r <-m U
 match r with
 |.v (.int i)=>pure (some i)|_=>bad
noncomputable def pf(x:R)(lo hi:Option Int):M R:=
 match x with
 |.v (.t xs)=>if dg.cD xs.length 0 lo=0/\dg.cD xs.length xs.length hi=xs.length then bad else pure (.v (.t (cutD xs lo hi)))|_=>match x.fL with
  |some xs=>pure (.fr (cutD xs lo hi))|none=>bad
@[simp] def nA(a:bp)(lo hi:mb)(U:aL):M R:=do
 let x <-a U
 let l <-lo U
 let h <-hi U
 pf x l h
def R.own:R->Option (List D)
 |.v (.l xs)=>some xs|.fr xs=>some xs|.mv xs=>some xs|_=>none
def uE(x y:R):M R:=match x.own,y.own with
 |some xs,some ys=>if xs.length+ys.length<=ami then pure (.fr (xs++ys))else bad|_,_=>bad
def pa:R->R->M R
 |.v (.str x),.v (.str y)=>if x.length+y.length<=ami then pure (.v (.str (x++y)))else bad|_,_=>bad
def R.FG{K:aN}{mg:bf}{O:a7}{H:ax}{r:R}{v:V}{xs:List D}(h:en K mg O H r v)(e:r.own=some xs):∃a b,v=.ref a/\H a=some (.l b)/\bg K mg O H xs b:=by
 unfold R.own at e;split at e
 .cases e;obtain⟨a,b,q,l,r⟩:=h;exact⟨a,b,q,l.1,r⟩
 .cases e;obtain⟨a,b,q,l,_,r⟩:=h;exact⟨a,b,q,l,r⟩
 .cases e;obtain⟨a,b,q,l,r⟩:=h;exact⟨a,b,q,l,r⟩
 .cases e
section
variable{K:aN}{mg:bf}
def HE:d3 K mg Qd uE:=fun O U S ar H x y I bU bw aq Q st ah C h q=>by
 unfold uE at h
 cases ao:I.own with
 |none=>rw[ao]at h;cases h
 |some xs=>
  cases aA:bU.own with
  |none=>rw[ao,aA]at h;cases h
  |some k=>
   rw[ao,aA]at h;dsimp only at h
   by_cases hl:xs.length+k.length<=ami
   .rw[if_pos hl]at h
    cases h;obtain⟨a,us,rfl,f,e⟩:=R.FG ah ao;obtain⟨b,j,rfl,g,d⟩:=R.FG C aA;refine⟨a,b,us,j,rfl,rfl,f,g,by rw[e.len,d.len];exact hl,λp c=>q (gZ O p .dV) _ _ (Go.new c) (st.new c) ⟨p,_,rfl,d2,m2,(e.append d).go (Go.new c)⟩ λb i=>?_⟩;cases i;exact c
   .rw[if_neg hl]at h;cases h
set_option tactic.hygienic true in
def SX:d3 K mg (λx y H Q=>∃i j,x=.str i/\y=.str j/\i.length+j.length<=ami/\Q (.str (i++j)) H) pa:=λO U S e H x y c f g d Q st b a h q=>by
 unfold pa at h;split at h
 .rename_i i j
  by_cases hl:i.length+j.length<=ami
  .rw[if_pos hl]at h
   cases h;exact⟨i,j,b,a,hl,q O _ H (Go.refl _ _) st rfl trivial⟩
  .rw[if_neg hl]at h;cases h
 .cases h
end
noncomputable def D.py:D->PyData
 |.aP=>.none|.ay b=>.bool b|.int i=>.int i|.str x=>.str x|.t xs=>.tuple (lV xs)|.l xs=>.list (lV xs)|.ref _=>.none|.fn _=>.none|.ty _=>.none
where lV:List D->List PyData
 |[]=>[]
 |x::xs=>x.py::lV xs
mutual
def D.bW:D->Nat->Bool
 |.aP,_=>true|.ay _,_=>true|.int _,_=>true|.str x,_=>amz x|.t xs,n=>match n with
  |0=>false|k+1=>hS xs k
 |.l xs,n=>match n with
  |0=>false|k+1=>hS xs k
 |.ref _,_=>false|.fn _,_=>false|.ty _,_=>false
def hS:List D->Nat->Bool
 |[],_=>true|x::xs,n=>x.bW n&&hS xs n
end
mutual
def eb:D->D->Bool
 |.aP,b=>match b with|.aP=>true|_=>false
 |.ay a,b=>match b with|.ay c=>a==c|.int j=>(if a then 1 else 0)==j|_=>false
 |.int i,b=>match b with|.ay c=>i==(if c then 1 else 0)|.int j=>i==j|_=>false
 |.str x,b=>match b with|.str y=>x==y|_=>false
 |.t xs,b=>match b with|.t d=>mW xs d|_=>false
 |.l xs,b=>match b with|.l d=>mW xs d|_=>false
 |.ref _,_=>false|.fn _,_=>false|.ty _,_=>false
def mW:List D->List D->Bool
 |[],ys=>match ys with|[]=>true|_=>false
 |x::xs,ys=>match ys with|[]=>false|y::r=>eb x y&&mW xs r
end
mutual
theorem C5:∀(a b:D)(n m:Nat),a.bW n=true->b.bW m=true->aqO a.py b.py=eb a b
 |.aP,b,n,m,I,C=>by cases b<;>first|rfl|(simp[D.bW]at C)
 |.ay _,b,n,m,I,C=>by cases b<;>first|rfl|(simp[D.bW]at C)
 |.int _,b,n,m,I,C=>by cases b<;>first|rfl|(simp[D.bW]at C)
 |.str _,b,n,m,I,C=>by cases b<;>first|rfl|(simp[D.bW]at C)
 |.t xs,b,n,m,I,C=>by
  cases b with
  |t c=>
   cases n with
   |zero=>simp[D.bW]at I|succ k=>
    cases m with
    |zero=>simp[D.bW]at C|succ j=>exact C6 xs c k j I C
  |ref _=>simp[D.bW]at C|fn _=>simp[D.bW]at C|ty _=>simp[D.bW]at C|_=>rfl
 |.l xs,b,n,m,I,C=>by
  cases b with
  |l c=>
   cases n with
   |zero=>simp[D.bW]at I|succ k=>
    cases m with
    |zero=>simp[D.bW]at C|succ j=>exact C6 xs c k j I C
  |ref _=>simp[D.bW]at C|fn _=>simp[D.bW]at C|ty _=>simp[D.bW]at C|_=>rfl
 |.ref _,b,n,m,I,C=>by simp[D.bW]at I| .fn _,b,n,m,I,C=>by simp[D.bW]at I| .ty _,b,n,m,I,C=>by simp[D.bW]at I
theorem C6:∀(xs a:List D)(n m:Nat),hS xs n=true->hS a m=true->PyData.eqvAll (D.py.lV xs) (D.py.lV a)=mW xs a
 |[],a,n,m,I,C=>by cases a<;>rfl
 |x::xs,a,n,m,I,C=>by
  cases a with
  |nil=>rfl|cons y r=>
   rw[hS,amI]at I C;show(aqO x.py y.py&&PyData.eqvAll (D.py.lV xs) (D.py.lV r))=(eb x y&&mW xs r);rw[C5 x y n m I.1 C.1,C6 xs r n m I.2 C.2]
end
mutual
theorem Ms:∀(a:D)(n:Nat),a.bW n=true->a.py.canLay0=true/\a.py.depth<=n
 |.aP,n,h=>⟨rfl,amT _⟩
 |.ay _,n,h=>⟨rfl,amT _⟩
 |.int _,n,h=>⟨rfl,amT _⟩
 |.str _,n,h=>⟨h,amT _⟩
 |.t xs,n,h=>by
  cases n with
  |zero=>simp[D.bW]at h|succ k=>obtain⟨bE,bZ⟩:=Ds xs k h;exact⟨bE,aoJ bZ⟩
 |.l xs,n,h=>by
  cases n with
  |zero=>simp[D.bW]at h|succ k=>obtain⟨bE,bZ⟩:=Ds xs k h;exact⟨bE,aoJ bZ⟩
 |.ref _,n,h=>by simp[D.bW]at h| .fn _,n,h=>by simp[D.bW]at h| .ty _,n,h=>by simp[D.bW]at h
theorem Ds:∀(xs:List D)(n:Nat),hS xs n=true->PyData.canLayAll0 (D.py.lV xs)=true/\PyData.depthAll (D.py.lV xs)<=n
 |[],n,h=>⟨rfl,amT _⟩
 |x::xs,n,h=>by
  rw[hS,amI]at h;obtain⟨a1,a2⟩:=Ms x n h.1;obtain⟨a,b⟩:=Ds xs n h.2;exact⟨by show(x.py.canLay0&&PyData.canLayAll0 (D.py.lV xs))=true;rw[a1,a];rfl,by show max x.py.depth (PyData.depthAll (D.py.lV xs))<=n;omega⟩
end
def y8{a:D}(h:a.bW 64=true):aqZ a.py=true:=by
 obtain⟨b,c⟩:=Ms a 64 h;show(a.py.canLay0&&decide (a.py.depth<=64))=true;rw[b,decide_eq_true c];rfl
mutual
theorem Rep.py{O:a7}:∀{d:D}{v:V}{n:Nat},d.bW n=true->Rep K mg O H d v->aC.Rep K H d.py v
 |.aP,_,_,_,h=>h|.ay _,_,_,_,h=>h|.int _,_,_,_,h=>h|.str _,_,_,_,h=>h|.t _,_,n,g,h=>by
  cases n with
  |zero=>simp[D.bW]at g|succ k=>obtain⟨a,b,q,l,r⟩:=h;exact⟨a,b,q,l,bg.py (n:=k) g r⟩
 |.l _,_,n,g,h=>by
  cases n with
  |zero=>simp[D.bW]at g|succ k=>obtain⟨a,b,q,l,r⟩:=h;exact⟨a,b,q,l.cT,bg.py (n:=k) g r⟩
 |.ref _,_,_,g,h=>by simp[D.bW]at g| .fn _,_,_,g,h=>by simp[D.bW]at g| .ty _,_,_,g,h=>by simp[D.bW]at g
theorem bg.py{O:a7}:∀{ds:List D}{c:List V}{n:Nat},hS ds n=true->bg K mg O H ds c->aC.bg K H (D.py.lV ds) c
 |[],_,_,_,h=>h|_::_,_,n,g,h=>by
  rw[hS,amI]at g;obtain⟨x,r,q,a,b⟩:=h;exact⟨x,r,q,Rep.py g.1 a,bg.py g.2 b⟩
end
def R.arg:R->D
 |.v d=>d|.fr xs=>.l xs|.cj xs=>.l xs|.mv xs=>.l xs
def R.yr{K:aN}{mg:bf}{O:a7}{H:ax}{r:R}{v:V}{n:Nat}(g:r.arg.bW n=true)(h:en K mg O H r v):aC.Rep K H r.arg.py v:=by
 have fL:∀xs,r.fL=some xs->(D.l xs).bW n=true->aC.Rep K H (D.l xs).py v:=λxs e g=>by
  obtain⟨a,c,q,l,b⟩:=R.qv h e
  cases n with
  |zero=>simp[D.bW]at g|succ k=>exact⟨a,c,q,l,bg.py g b⟩
 cases r with
 |v d=>exact Rep.py g h|fr xs=>exact fL xs rfl g|cj xs=>exact fL xs rfl g|mv xs=>exact fL xs rfl g
def oEq(x y:R):M R:=if x.arg.bW 64=true/\y.arg.bW 64=true then pure (.v (.ay (eb x.arg y.arg)))else bad
def ea(x y:R):M R:=if x.arg.bW 64=true/\y.arg.bW 64=true then pure (.v (.ay (!eb x.arg y.arg)))else bad
section
variable{K:aN}{mg:bf}
def HF:d3 K mg (Ay K false) oEq:=λO U S g H x y b e i f Q st d a h q=>by
 unfold oEq at h
 by_cases c:b.arg.bW 64=true/\e.arg.bW 64=true
 .rw[if_pos c]at h
  cases h;refine⟨_,_,R.yr c.1 d,R.yr c.2 a,y8 c.1,y8 c.2,?_⟩;rw[if_neg amm,C5 _ _ _ _ c.1 c.2];exact q O _ H (Go.refl _ _) st rfl trivial
 .rw[if_neg c]at h;cases h
def HM:d3 K mg (Ay K true) ea:=λO U S g H x y b e i f Q st d a h q=>by
 unfold ea at h
 by_cases c:b.arg.bW 64=true/\e.arg.bW 64=true
 .rw[if_pos c]at h
  cases h;refine⟨_,_,R.yr c.1 d,R.yr c.2 a,y8 c.1,y8 c.2,?_⟩;rw[if_pos rfl,C5 _ _ _ _ c.1 c.2];exact q O _ H (Go.refl _ _) st rfl trivial
 .rw[if_neg c]at h;cases h
end
def R.kP:R->Bool
 |.v .aP=>true|_=>false
def kZ(x:R):R->M R
 |.v .aP=>pure (.v (.ay x.kP))|_=>bad
def i3(x:R):R->M R
 |.v .aP=>pure (.v (.ay (!x.kP)))|_=>bad
section
variable{K:aN}{mg:bf}
def NH{O:a7}{r:R}{v:V}(h:en K mg O H r v):decide (v=.aP)=r.kP:=by
 have no:∀{a:Addr},v=.ref a->decide (v=.aP)=false:=λ{a} e=>by rw[e];exact decide_eq_false (by intro z;cases z)
 cases r with
 |v d=>
  cases d with
  |aP=>exact decide_eq_true h|ay _=>rw[show v=_ from h];rfl|int _=>rw[show v=_ from h];rfl|str _=>rw[show v=_ from h];rfl|ty _=>rw[show v=_ from h];rfl|t _=>obtain⟨a,_,e,_⟩:=h;exact no e
  |l _=>obtain⟨a,_,e,_⟩:=h;exact no e
  |ref _=>obtain⟨a,e,_⟩:=h;exact no e
  |fn _=>obtain⟨a,e,_⟩:=h;exact no e
 |fr _=>obtain⟨a,_,e,_⟩:=h;exact no e
 |cj _=>obtain⟨a,_,e,_⟩:=h;exact no e
 |mv _=>obtain⟨a,_,e,_⟩:=h;exact no e
def HK:d3 K mg (λx y H Q=>y=.aP/\Q (.ay (decide (x=.aP))) H) kZ:=λO U S e H x y c f g d Q st b a h q=>by
 unfold kZ at h;split at h
 .cases h;exact⟨a,by rw[NH b];exact q O _ H (Go.refl _ _) st rfl trivial⟩
 .cases h
def HO:d3 K mg (λx y H Q=>y=.aP/\Q (.ay (!decide (x=.aP))) H) i3:=λO U S e H x y c f g d Q st b a h q=>by
 unfold i3 at h;split at h
 .cases h;exact⟨a,by rw[NH b];exact q O _ H (Go.refl _ _) st rfl trivial⟩
 .cases h
end
def D.flat:D->Bool
 |.aP=>true|.ay _=>true|.int _=>true|.str _=>true|_=>false
def inD(x:D)(xs:List D):Bool:=xs.any λy=>eb y x
def lT(neg:Bool)(x y:R):M R:=match x,y.seq with
 |.v d,some xs=>if d.flat=true/\xs.all D.flat=true then pure (.v (.ay (if neg then !inD d xs else inD d xs)))else bad|_,_=>bad
section
variable{K:aN}{mg:bf}
def Mh{O:a7}{d:D}{v:V}(h:Rep K mg O H d v)(f:d.flat=true):nG v=true:=by
 cases d with
 |aP=>rw[show v=_ from h];rfl|ay _=>rw[show v=_ from h];rfl|int _=>rw[show v=_ from h];rfl|str _=>rw[show v=_ from h];rfl|_=>exact absurd (show false=true from f) amm
def Vz{O:a7}{d e:D}{v u:V}(h:Rep K mg O H d v)(h':Rep K mg O H e u)(f:d.flat=true)(a:e.flat=true):nE v u=eb d e:=by
 cases d with
 |aP=>
  rw[show v=_ from h]
  cases e with
  |aP=>rw[show u=_ from h'];rfl|ay _=>rw[show u=_ from h'];rfl|int _=>rw[show u=_ from h'];rfl|str _=>rw[show u=_ from h'];rfl|_=>exact absurd (show false=true from a) amm
 |ay _=>
  rw[show v=_ from h]
  cases e with
  |aP=>rw[show u=_ from h'];rfl|ay _=>rw[show u=_ from h'];rfl|int _=>rw[show u=_ from h'];rfl|str _=>rw[show u=_ from h'];rfl|_=>exact absurd (show false=true from a) amm
 |int _=>
  rw[show v=_ from h]
  cases e with
  |aP=>rw[show u=_ from h'];rfl|ay _=>rw[show u=_ from h'];rfl|int _=>rw[show u=_ from h'];rfl|str _=>rw[show u=_ from h'];rfl|_=>exact absurd (show false=true from a) amm
 |str _=>
  rw[show v=_ from h]
  cases e with
  |aP=>rw[show u=_ from h'];rfl|ay _=>rw[show u=_ from h'];rfl|int _=>rw[show u=_ from h'];rfl|str _=>rw[show u=_ from h'];rfl|_=>exact absurd (show false=true from a) amm
 |_=>exact absurd (show false=true from f) amm
theorem NB{O:a7}{d:D}{v:V}(h:Rep K mg O H d v)(f:d.flat=true):∀{ds:List D}{a:List V},bg K mg O H ds a->ds.all D.flat=true->a.all nG=true/\Ee v a=inD d ds
 |[],a,r,_=>by cases r;exact⟨rfl,rfl⟩
 |e::ds,a,r,g=>by
  obtain⟨y,t,rfl,b,c⟩:=r;rw[aoQ,amI]at g;obtain⟨bE,bZ⟩:=NB h f c g.2;refine⟨by rw[aoQ,Mh b g.1,bE];rfl,?_⟩;show(y::t).any (λz=>nE z v)=(e::ds).any λz=>eb z d
  rw[aoR,aoR,Vz b h g.1 f];exact congrArg _ bZ
set_option tactic.hygienic true in
def HH(neg:Bool):d3 K mg (Qg K neg) (lT neg):=λO U S o H x y m p r n Q st b f h q=>by
 unfold lT at h;split at h
 .rename_i d xs e
  by_cases c:d.flat=true/\xs.all D.flat=true
  .rw[if_pos c]at h
   cases h;obtain⟨a,k,rfl,l,j⟩:=R.xI f e;obtain⟨g,i⟩:=NB b c.1 j c.2;exact⟨a,k,rfl,l,Mh b c.1,g,by rw[i];exact q O _ H (Go.refl _ _) st rfl trivial⟩
  .rw[if_neg c]at h;cases h
 .cases h
end
inductive fZ where
 |bt (U:aL)|cx (r:R)|bk (U:aL)|cF (U:aL)
abbrev aW:=aL->M fZ
def Fix(o:eY):Prop:=(∃xs,o=.t xs)\/∃a' u,o=.cL a' u
structure ek(O ai:a7)(H H':ax):Prop where
 cells:∀b o,H b=some o->(O b=.free\/O b=.out\/Fix o)->(h:o_ o:=by exact trivial)->H' b=some o
 own:∀b,H b≠none->(O b=.free\/O b=.out)->ai b=O b
 has:∀b,H b≠none->H' b≠none
 cE:∀b ps,H b=some (.gp ps)->∃lU,H' b=some (.gp lU)
 bW:TabsOk H->TabsOk H'
 bP:ai.bP=O.bP
def Go.bR{O a:a7}(g:Go O a H H'):ek O a H H':=⟨λb o e _ n=>g.same.at' b o e n,λb h _=>g.own b h,λ_ h=>g.same.some h,g.same.cE,g.same.bW,g.bP⟩
def ek.refl(O:a7)(H:ax):ek O O H H:=(Go.refl O H).bR
def ek.trans{O i j:a7}(a:ek O i H H1)(b:ek i j H1 C):ek O j H C:=by
 have d:∀{b:Addr}{o:eY},H b=some o->H b≠none:=λe z=>by rw[e]at z;cases z
 refine⟨λc o e h n=>?_,λc h f=>?_,λc h=>b.has c (a.has c h),λc ps h=>let⟨p1,ao⟩:=a.cE c ps h;b.cE c p1 ao,λg=>b.bW (a.bW g),b.bP.trans a.bP⟩
 .have ao:=a.cells c o e h n
  rcases h with h|h|h
  .exact b.cells c o ao (.inl ((a.own c (d e) (.inl h)).trans h)) n
  .exact b.cells c o ao (.inr (.inl ((a.own c (d e) (.inr h)).trans h))) n
  .exact b.cells c o ao (.inr (.inr h)) n
 .have ao:=a.own c h f
  rw[b.own c (a.has c h) (by rw[ao];exact f),ao]
def fD(U U':aL)(a b:St):Prop:=(∀(i:Nat)(xs:List D),U'[i]? = some (Slot.cj xs)->U[i]? = some (Slot.cj xs)/\b[i]? = a[i]?)/\
 (∀(i:Nat)(c:List D),U'[i]? = some (Slot.dM true c)->(∃xs,U[i]? = some (Slot.dM true xs))/\b[i]? = a[i]?)
def fD.refl(U:aL)(a:St):fD U U a a:=⟨λ_ _ h=>⟨h,rfl⟩,λ_ _ h=>⟨⟨_,h⟩,rfl⟩⟩
def fD.trans{v c d:St}(a:fD U I v c)(b:fD I C c d):fD U C v d:=⟨λi xs h=>⟨(a.1 i xs (b.1 i xs h).1).1,(b.1 i xs h).2.trans (a.1 i xs (b.1 i xs h).1).2⟩,λi g h=>by
 obtain⟨⟨xs,e⟩,q⟩:=b.2 i g h;obtain⟨z,f⟩:=a.2 i xs e;exact⟨z,q.trans f⟩⟩
def fD.put{U:aL}{s d:Slot}(c:U[i]? = some d)(g:∀xs,s≠.cj xs)(f:∀xs,s=.dM true xs->∃b,d=.dM true b):fD U (U.set i s) C C:=by
 have key:∀(j:Nat)(t:Slot),(U.set i s)[j]? = some t->(i=j/\t=s)\/(i≠j/\U[j]? = some t):=λj t h=>by
  by_cases a:i=j
  .subst a
   rw[amx ((nu.mp c).1)]at h;exact .inl ⟨rfl,(amH h).symm⟩
  .rw[amk a]at h
   exact .inr ⟨a,h⟩
 refine⟨λj xs h=>?_,λj b h=>?_⟩
 .rcases key j _ h with⟨_,e⟩|⟨_,e⟩
  .exact absurd e.symm (g xs)
  .exact⟨e,rfl⟩
 .rcases key j _ h with⟨rfl,e⟩|⟨_,e⟩
  .obtain⟨l,k⟩:=f b e.symm
   exact⟨⟨l,k▸c⟩,rfl⟩
  .exact⟨⟨_,e⟩,rfl⟩
def BG(K:aN)(mg:bf)(O:a7)(H:ax):R->V->Prop
 |.v d,v=>Rep K mg O H d v|.fr xs,v=>∃a b,v=.ref a/\H a=some (.l b)/\(O a=.dV\/∃i,O a=.loc i)/\bg K mg O H xs b|_,_=>False
def oq(K:aN)(mg:bf)(O:a7)(U:aL)(d:bL)(e:St)(H:ax)(U':aL)(N:St->ax->Prop):Prop:=
 ∀c b a,ek O c H a->cS K mg c U' d b a->fD U U' e b->N b a
def yj(K:aN)(mg:bf)(O:a7)(U:aL)(c:bL)(e:St)(H:ax)(f:fZ)(d:Ends):Prop:=match f with
 |.bt U'=>oq K mg O U c e H U' d.bt|.bk U'=>oq K mg O U c e H U' d.bk|.cF U'=>oq K mg O U c e H U' d.cF|.cx r=>∀b v a,ek O b H a->dh b a->fT K mg b a c->BG K mg b a r v->d.cx v a
def oq.bR{O a:a7}{N:St->ax->Prop}(h:oq K mg O U C I H U' N)(g:ek O a H H1)(k:fD U ft I x7):oq K mg a ft C x7 H1 U' N:=
 λc d b g' st e=>h c d b (g.trans g') st (k.trans e)
def yj.bR{O a:a7}(h:yj K mg O U I ar H C hH)(g:ek O a H H1)(k:fD U ft ar x7):yj K mg a ft I x7 H1 C hH:=by
 cases C with
 |bt U'=>exact oq.bR h g k|bk U'=>exact oq.bR h g k|cF U'=>exact oq.bR h g k|cx r=>exact λc v b g' d e r=>h c v b (g.trans g') d e r
def k8(K:aN)(mg:bf)(m:aW):gR:=λd a H=>p0 K mg m a H λO U c b=>yj K mg O U c a H b d
abbrev R7(X:aT)(st:Stmt)(m:aW):Prop:=iN X st (k8 X.K X.mg m)
abbrev vp(X:aT)(a:List Stmt)(m:aW):Prop:=iB X a (k8 X.K X.mg m)
def hb{s:Stmt}{t t':gR}(h:iN X s t)(i:∀D U H,t' D U H->t D U H):iN X s t':=λa s U H D I q=>h a s U H D I (i _ _ _ q)
def Au{s:List Stmt}{t t':gR}(h:iB X s t)(i:∀D U H,t' D U H->t D U H):iB X s t':=λa s U H D I q=>h a s U H D I (i _ _ _ q)
@[simp] def b0(U:aL):M fZ:=pure (.bt U)
def oB:aW:=λ_=>bad
@[simp] def bS(a b:aW)(U:aL):M fZ:=do
 let c <-a U
 match c with
 |.bt U'=>b U'|c=>pure c
@[simp] def a9(m:bp)(U:aL):M fZ:=do
 let r <-m U
 match r with
 |.v d=>pure (.cx (.v d))|.fr xs=>pure (.cx (.fr xs))|_=>bad
@[simp] def yF(i:Nat)(U:aL):M fZ:=match U[i]? with
 |some (.dM false xs)=>pure (.cx (.fr xs))|_=>bad
@[simp] def cq(t:aL->M Bool)(a b:aW)(U:aL):M fZ:=do
 let t <-t U
 if t=true then a U else b U
@[simp] def b9(i:Nat)(m:bp)(U:aL):M fZ:=do
 let r <-m U
 let d <-r.dat
 pure (.bt (U.set i (.v d)))
@[simp] def nz(i:Nat)(m:bp)(U:aL):M fZ:=do
 let r <-m U
 match r with
 |.fr xs=>pure (.bt (U.set i (.dM false xs)))|_=>bad
section
variable{st:Stmt}{a b:aW}{e:Expr}{m:bp}
theorem Qs{O:a7}{r:R}{v:V}(h:en K mg O H r v)(c:(∃d,r=.v d)\/∃xs,r=.fr xs):BG K mg O H r v:=by
 rcases c with⟨d,rfl⟩|⟨xs,rfl⟩
 .exact h
 .obtain⟨a,g,q,l,t,f⟩:=h;exact⟨a,g,q,l,.inl t,f⟩
theorem cS.set{O:a7}{U:aL}{S:bL}{d:St}{s:Slot}{v:V}(st:cS K mg O U S d H)(h:js K mg O H (.loc i) s (some v)):cS K mg O (U.set i s) S (d.set i (some v)) H:=by
 refine⟨st.cy,by rw[amQ,amQ];exact st.len,λj t e=>?_,st.gF⟩
 by_cases c:i=j
 .subst c
  have hl:i<U.length:=by
   have:=(nu.mp e).1
   rwa[amQ]at this
  rw[amx hl]at e;cases e;rw[amx (by rw[<-st.len];exact hl)];exact h
 .rw[amk c]at e
  rw[amk c];exact st.loc j t e
theorem fD.set{U:aL}{c:St}{s:Slot}{v:Option V}(aw:∀xs,s≠.cj xs)(g:∀xs,s≠.dM true xs:=by intro xs z;cases z):fD U (U.set i s) c (c.set i v):=by
 have key:∀(j:Nat)(t:Slot),(U.set i s)[j]? = some t->t≠s->U[j]? = some t/\(c.set i v)[j]? = c[j]?:=λj t h k=>by
  by_cases d:i=j
  .subst d
   have hl:i<U.length:=by
    have:=(nu.mp h).1
    rwa[amQ]at this
   rw[amx hl]at h;exact absurd (amH h).symm k
  .rw[amk d]at h ⊢
   exact⟨h,rfl⟩
 refine⟨λj xs h=>key j _ h (λz=>aw xs z.symm),λj f h=>?_⟩;obtain⟨a,b⟩:=key j _ h (λz=>g f z.symm);exact⟨⟨f,a⟩,b⟩
theorem cS.own{K:aN}{mg:bf}{O:a7}{U:aL}{S:bL}{c:St}{H:ax}{i:Nat}{a:Addr}{xs:List D}{d:List V}(st:cS K mg O U S c H)(n:O a=.dV)(hl:H a=some (.l d))(g:bg K mg O H xs d) :
  cS K mg (gZ O a (.loc i)) (U.set i (.dM false xs)) S (c.set i (some (.ref a))) H:=by
 have ne:∀{b:Addr}{w:Own},O b=w->w≠.dV->gZ O a (.loc i) b=w:=λ{b w} h hw=>by
  rw[pH];exact h;rintro rfl;exact hw (h.symm.trans n)
 have de:l9 O (gZ O a (.loc i)):=⟨λb h=>ne h (by intro z;cases z),rfl⟩;have k:cS K mg (gZ O a (.loc i)) U S c H:=by
  refine⟨⟨λb f=>?_,st.cy.tabs,st.cy.rh.1,λb m=>ne (st.cy.rh.2 b m) (by intro z;cases z)⟩,st.len,λj s e=>(st.loc j s e).de de (λb h=>ne h (by intro z;cases z)) (λb h=>ne h (by intro z;cases z)),st.gF.all (λ_ _ z=>Rep.de de z) rfl λ_ _ _ l _=>l⟩
  by_cases e:b=a
  .rw[e,hl];intro z;cases z
  .rw[pH e]at f;exact st.cy.has b f
 exact k.set ⟨a,d,rfl,m2,hl,g.de de⟩
theorem ek.dV{O:a7}{H:ax}{a:Addr}{w:Own}(c:O a=.dV):ek O (gZ O a w) H H:=by
 refine⟨λb o e _ _=>e,λb h f=>?_,λ_ h=>h,λ_ ps h=>⟨ps,h⟩,id,rfl⟩;rw[pH];rintro rfl;rw[c]at f;rcases f with z|z<;>cases z
theorem QK{f:TE}(hi:∀U H Q,gG K mg m U H Q->f U H Q):∀D c H,k8 K mg (b9 i m) D c H->u2 f (mw i) D c H:=by
 rintro D c H ⟨O,U,S,s,u,st,h,q⟩;obtain⟨r,S1,l,h⟩:=M.inv h;obtain⟨d,t,n,h⟩:=M.inv h;cases h;refine hi c H _ ⟨O,U,S,r,S1,st,l,λj v g p k o nn=>?_⟩;obtain⟨cb,rfl⟩:=qb o nn n;exact q (cL H j) _ g p.cL.bR ((k.cL H).set ⟨v,rfl,cb⟩) (fD.set λxs z=>by cases z)
theorem PB{d:TE}(hi:∀U H Q,gG K mg m U H Q->d U H Q):∀D c H,k8 K mg (nz i m) D c H->u2 d (mw i) D c H:=by
 rintro D c H ⟨O,U,S,s,u,st,h,q⟩;obtain⟨r,S1,j,h⟩:=M.inv h;split at h
 .rename_i xs
  cases h;refine hi c H _ ⟨O,U,S,_,_,st,j,λp v f n g k nn=>?_⟩;obtain⟨a,w,rfl,l,t,o⟩:=k;exact q _ _ f (n.bR.trans (ek.dV t)) (g.own t l o) (fD.set λxs z=>by cases z)
 .cases h
end
@[simp] def JL(i:Nat)(f:List D->List R->M (R×List D))(ms:c3)(U:aL):M (R×aL):=do
 let rs <-ms U
 match U[i]? with
 |some (.dM p xs)=>do
  let(r,ys) <-f xs rs
  pure (r,U.set i (.dM p ys))
 |_=>bad
@[simp] def rm(i:Nat)(f:List D->List R->M (R×List D))(ms:c3)(U:aL):M fZ:=do
 let(_,U') <-JL i f ms U
 pure (.bt U')
def k9(xs:List D):List R->M (R×List D)
 |[r]=>do
  let d <-r.dat
  hR (xs.length<ami)
  pure (.v .aP,xs++[d])
 |_=>bad
def xX(xs:List D):List R->M (R×List D)
 |[r]=>match r.own with
  |some a=>do
   hR (xs.length+a.length<=ami)
   pure (.v .aP,xs++a)
  |none=>bad
 |_=>bad
section
variable{K:aN}{mg:bf}{O:a7}{H:ax}{l:Addr}{zs ws:List V}
mutual
theorem Rep.eQ(b:O l≠.free)(hl:H l=some (.l zs)):∀{d:D}{v:V},Rep K mg O H d v->Rep K mg O (upd H l (.l ws)) d v
 |.aP,_,h=>h|.ay _,_,h=>h|.int _,_,h=>h|.str _,_,h=>h|.t _,_,h=>by
  obtain⟨a,c,q,t,r⟩:=h;refine⟨a,c,q,?_,bg.eQ b hl r⟩;rcases t with(t|⟨o,t⟩)|t
  .exact .inl (.inl (by rw[c6 (O5 t hl (by intro z;cases z))];exact t))
  .exact .inl (.inr ⟨o,by rw[c6 (O5 t hl (by intro z;cases z))];exact t⟩)
  .exact .inr t
 |.l _,_,h=>by
  obtain⟨a,c,q,t,r⟩:=h;exact⟨a,c,q,⟨by rw[c6 (by rintro rfl;exact b t.2)];exact t.1,t.2⟩,bg.eQ b hl r⟩
 |.ref _,_,h=>h|.fn _,_,h=>h|.ty _,_,h=>h
theorem bg.eQ(c:O l≠.free)(hl:H l=some (.l zs)):∀{ds:List D}{d:List V},bg K mg O H ds d->bg K mg O (upd H l (.l ws)) ds d
 |[],_,h=>h| _::_,_,h=>by obtain⟨x,r,q,a,b⟩:=h;exact⟨x,r,q,Rep.eQ c hl a,bg.eQ c hl b⟩
end
def h9.eQ(b:O l≠.free)(c:O l≠.out)(h:h9 K O H a ys):h9 K O (upd H l (.l ws)) a ys:=by
 rcases h with⟨h,f⟩|h
 .have ne:a≠l:=by rintro rfl;exact f.elim b c
  refine .inl ⟨?_,f⟩;rcases h with h|⟨o,h⟩
  .exact .inl (by rw[c6 ne];exact h)
  .exact .inr ⟨o,by rw[c6 ne];exact h⟩
 .exact .inr h
def js.eQ(b:O l≠.free)(d:O l≠.out)(hw:O l≠w)(hl:H l=some (.l zs)):∀{s:Slot}{u:Option V},js K mg O H w s u->js K mg O (upd H l (.l ws)) w s u
 |.e,_,_=>trivial| .v _,_,h=>by obtain⟨v,q,r⟩:=h;exact⟨v,q,r.eQ b hl⟩
 |.dM _ _,_,h=>by obtain⟨a,c,q,o,t,r⟩:=h;exact⟨a,c,q,o,by rw[c6 (by rintro rfl;exact hw o)];exact t,r.eQ b hl⟩
 |.cj _,_,h=>by obtain⟨a,c,q,t,r⟩:=h;exact⟨a,c,q,t.eQ b d,r.eQ b hl⟩
def dh.eQ(d:dh O H)(hl:H l=some (.l zs)):dh O (upd H l (.l ws)):=⟨λa b=>by
 by_cases e:a=l
 .rw[e,d2];intro z;cases z
 .rw[c6 e];exact d.has a b,d.tabs.l hl _,d.rh⟩
def ek.eQ(a:O l≠.free)(c:O l≠.out)(hl:H l=some (.l zs)):ek O O H (upd H l (.l ws)):=by
 refine⟨λb o e h _=>?_,λ_ _ _=>rfl,λb h=>?_,λb ps e=>⟨ps,by rw[c6 (by rintro rfl;rw[hl]at e;cases e)];exact e⟩,λg=>g.l hl _,rfl⟩
 .rw[c6]
  .exact e
  .rintro rfl
   rcases h with h|h|⟨xs,h⟩|⟨_,_,h⟩
   .exact a h
   .exact c h
   .subst h;rw[e]at hl;cases hl
   .subst h;rw[e]at hl;cases hl
 .by_cases e:b=l
  .rw[e,d2];intro z;cases z
  .rw[c6 e];exact h
def fT.eQ{S:bL}(s:fT K mg O H S)(c:dh O H)(b:O l≠.free)(d:O l≠.out)(hl:H l=some (.l zs)):fT K mg O (upd H l (.l ws)) S:=
 s.all (λ_ _ z=>Rep.eQ b hl z) rfl λa h u e _=>by rw[c6 (by rintro rfl;exact d (c.rh.2 _ h))];exact e
def cS.eQ{U:aL}{S:bL}{a:St}(st:cS K mg O U S a H)(hi:U[i]? = some (.dM p xs))(f:a[i]?.join=some (.ref l))(c:O l=.loc i)(hl:H l=some (.l zs))(d:bg K mg O H ys ws) :
  cS K mg O (U.set i (.dM p ys)) S a (upd H l (.l ws)):=by
 have ne:∀w:Own,w≠.loc i->O l≠w:=λw hw z=>hw (z.symm.trans c)
 refine⟨st.cy.eQ hl,by rw[amQ];exact st.len,λj t e=>?_,st.gF.eQ st.cy (ne _ (by intro z;cases z)) (ne _ (by intro z;cases z)) hl⟩
 by_cases b:i=j
 .subst b
  have g:i<U.length:=(nu.mp hi).1;rw[amx g]at e;cases e;exact⟨l,ws,f,c,d2,d.eQ (ne _ (by intro z;cases z)) hl⟩
 .rw[amk b]at e
  exact(st.loc j t e).eQ (ne _ (by intro z;cases z)) (ne _ (by intro z;cases z)) (ne _ (by intro z;cases z;exact b rfl)) hl
end
def sN(K:aN)(mg:bf)(r:V->List V->ax->cY->Prop)(f:List D->List R->M (R×List D)):Prop:=
 ∀O H H₀ l xs zs rs vs S C I ys (Q:cY),H l=some (.l zs)->bg K mg O H xs zs->ja K mg O H rs vs->ku H₀ rs vs->(f xs rs).run S=.ok (I,ys) C->
  (∀v a,S=C->bg K mg (cL H₀ O) H ys a->(∃d,I=.v d/\Rep K mg (cL H₀ O) H d v)->Q v (upd H l (.l a)))->r (.ref l) vs H Q
section
variable{K:aN}{mg:bf}
def OC:sN K mg Qc k9:=λO H H₀ l xs j rs vs S m n o Q hl a b e h q=>by
 unfold k9 at h;split at h
 .rename_i r
  obtain⟨v,rfl,i⟩:=jM b;obtain⟨d,S1,f,h⟩:=M.inv h;obtain⟨_,k,g,h⟩:=M.inv h;obtain⟨c,rfl⟩:=ro g;obtain⟨cb,rfl⟩:=qb (H₀:=H₀) i e.1 f;cases h;exact⟨l,j,v,rfl,rfl,hl,by rw[a.len];exact c,q .aP _ rfl ((a.de (iV _ _)).append (.one cb)) ⟨.aP,rfl,rfl⟩⟩
 .cases h
set_option tactic.hygienic true in
def abJ:sN K mg Qf xX:=λO H H₀ l xs m rs vs S p s t Q hl a f n h q=>by
 unfold xX at h;split at h
 .rename_i r
  obtain⟨v,rfl,i⟩:=jM f;split at h
  .rename_i us e
   obtain⟨_,o,g,h⟩:=M.inv h;obtain⟨c,rfl⟩:=ro g;cases h;obtain⟨b,k,rfl,j,d⟩:=R.FG i e;exact⟨l,b,m,k,rfl,rfl,hl,j,by rw[a.len,d.len];exact c,q .aP _ rfl ((a.append d).de (iV _ _)) ⟨.aP,rfl,rfl⟩⟩
  .cases h
 .cases h
variable{f:List D->List R->M (R×List D)}{r:V->List V->ax->cY->Prop}{ms:c3}{i:Nat}
def ab5(T:sN K mg r f){O:a7}{U U':aL}{S t:bL}{b:St}{H:ax}{u:R}{Q:cY}(st:cS K mg O U S b H)(h:(JL i f ms U).run S=.ok (u,U') t)
  (q:∀m v g,ek O m H g->cS K mg m U' t b g->fD U U' b b->(∃d,u=.v d/\Rep K mg m g d v)->Q v g) :
  ∃v,b[i]? = some (some v)/\AZ K "list" v H/\qN K mg ms b H λvs E=>r v vs E Q:=by
 refine a4 λj=>?_
 obtain⟨rs,S1,J,h⟩:=M.inv h
 cases e:U[i]? with
 |none=>refine j ?_;rw[e]at h;cases h
 |some s=>
  rw[e]at h
  cases s with
  |e=>cases h
  |v _=>cases h
  |cj _=>cases h
  |dM p xs=>
   obtain⟨⟨Z,W⟩,Y,L,h⟩:=M.inv h;cases h;obtain⟨a,X,ao,aA,bK,cR⟩:=st.loc i _ e;have x:b[i]? = some (some (.ref a)):=by
    cases w:b[i]? with
    |none=>rw[w]at ao;cases ao
    |some y=>rw[w]at ao;exact congrArg some ao
   refine j ⟨.ref a,x,.inl ⟨rfl,_,du.of bK⟩,O,U,S,rs,S1,st,J,λc vs B k F N nn=>?_⟩;have l:=k.same.at' _ _ bK;have o:H a≠none:=by rw[bK];intro z;cases z
   have A:c a=.loc i:=(k.own a o).trans aA;refine T c B H a xs X rs vs S1 _ _ W Q l (cR.go k) N nn L λv C D V G=>?_
   refine a4 λj=>?_
   obtain⟨d,P,cb⟩:=G;subst D;have n:cL H c a=.loc i:=by rw[Dk o];exact A
   have no:∀w:Own,w≠.loc i->cL H c a≠w:=λw hw z=>hw (z.symm.trans n)
   refine j ?_;refine q (cL H c) v _ (k.cL.bR.trans (ek.eQ (no _ (by intro z;cases z)) (no _ (by intro z;cases z)) l)) ((F.cL H).eQ e (by rw[x];rfl) n l V) ?_ ⟨d,P,cb.eQ (no _ (by intro z;cases z)) l⟩;exact fD.put e (λxs z=>by cases z) (λ_ z=>by cases z;exact⟨xs,rfl⟩)
end
def yf(b:iy)(O:a7)(H:ax)(c:List V):Prop:=∀e a,ek O e H a->∀i,(i<c.length->b.go i a/\∀x d,b.pO i a x d->d=a/\c[i]? = some x)/\(c.length<=i->b.stop i a)
abbrev fS:=aL->M (List D)
def AO(K:aN)(mg:bf)(m:fS):TI:=λc H R=>p0 K mg m c H λO U f xs=>∀b a d e,Go O b H a->cS K mg b U f c a->ye d a e->bg K mg b a xs e->R d a
def AQ(K:aN)(mg:bf)(m:fS):TI:=λc H R=>p0 K mg m c H λO U f xs=>∀b a d e,Go O b H a->cS K mg b U f c a->yf d b a e->bg K mg b a xs e->R d a
abbrev G6(X:aT)(cA a:Expr)(m:fS):Prop:=kx X cA a (AO X.K X.mg m)
abbrev R5(X:aT)(cA a:Expr)(m:fS):Prop:=kx X cA a (AQ X.K X.mg m)
def qL{cA e:Expr}{t t':TI}(h:kx X cA e t)(i:∀U H Q,t' U H Q->t U H Q):kx X cA e t':=λa s U H Q I q=>h a s U H Q I (i _ _ _ q)
def ek.AH{O b:a7}(g:ek O b H H')(h:dC K H a ys):dC K H' a ys:=by
 rcases h with(h|⟨o,h⟩)|h
 .exact .inl (.inl (g.cells _ _ h (.inr (.inr (.inl ⟨_,rfl⟩)))))
 .exact .inl (.inr ⟨o,g.cells _ _ h (.inr (.inr (.inr ⟨_,_,rfl⟩)))⟩)
 .exact .inr h
def ek.aby{O b:a7}(g:ek O b H H')(h:h9 K O H a ys):h9 K b H' a ys:=by
 rcases h with⟨h,f⟩|h
 .refine .inl ⟨?_,by rw[g.own a (hK.some h) f];exact f⟩
  rcases h with h|⟨o,h⟩
  .exact .inl (g.cells _ _ h (f.elim .inl λz=>.inr (.inl z)))
  .exact .inr ⟨o,g.cells _ _ h (f.elim .inl λz=>.inr (.inl z))⟩
 .exact .inr h
@[simp] def mH(m:bp)(U:aL):M (List D):=do
 let r <-m U
 match r with
 |.v (.t xs)=>pure xs|_=>bad
@[simp] def wz(m:bp)(U:aL):M (List D):=do
 let r <-m U
 match r with
 |.v (.l xs)=>pure xs|.fr xs=>pure xs|.cj xs=>pure xs|_=>bad
@[simp] def nR(m:bp)(U:aL):M (List D):=do
 let r <-m U
 match r.fL with
 |some xs=>pure xs|none=>bad
def fM(lo:Int)(n:Nat):List D:=(amJ n).map λi=>D.int (lo+(i:Nat))
omit [aC.aY]in
theorem su(lo:Int)(n:Nat):(fM lo n).length=n:=by unfold fM;rw[amh,anz]
@[simp] def jH(m:c3)(U:aL):M (List D):=do
 let rs <-m U
 match rs with
 |[.v (.int j)]=>if -(2 ^ 62)<=j/\j<2 ^ 62 then pure (fM 0 j.toNat)else bad|_=>bad
def Qz{O:a7}(lo:Int)(n:Nat):bg K mg O H (fM lo n) (n4 lo n):=by
 unfold fM n4
 induction(amJ n)with
 |nil=>rfl|cons a r b=>exact⟨.int (lo+a),_,rfl,rfl,b⟩
def Z8{O:a7}(lo:Int)(n:Nat):yf (pW lo n) O H (n4 lo n):=λb a _ i=>El lo n a (eF.refl _) i
section
variable{a:Expr}{ms:c3}
set_option tactic.hygienic true in
def aga:(∀b H R,AQ K mg (jH ms) b H R->Ed (qN K mg ms) b H R)/\(∀b H R,AO K mg (jH ms) b H R->Ed (qN K mg ms) b H R):=by
 constructor<;>
 .rintro b H R ⟨O,U,S,xs,m,st,h,q⟩
  obtain⟨rs,S1,g,h⟩:=M.inv h;split at h
  .rename_i j
   by_cases c:-(2 ^ 62)<=j/\j<2 ^ 62
   .rw[if_pos c]at h
    cases h;refine⟨O,U,S,_,_,st,g,λe vs d l f i nn=>?_⟩;obtain⟨v,rfl,k⟩:=jM i;cases(show v=.int j from k);exact⟨j,rfl,c.1,c.2,q e d (pW 0 j.toNat) (n4 0 j.toNat) l f (by first|exact Z8 _ _|exact El _ _) (Qz _ _)⟩
   .rw[if_neg c]at h;cases h
  .cases h
def Ek{K:aN}{O:a7}{H:ax}{a:Addr}{xs:List V}(h:h9 K O H a xs):yf (l_ K a) O H xs:=λc b g i=>Ej (g.aby h).cT b (eF.refl _) i
def aaa{K:aN}{O:a7}{H:ax}{a:Addr}{xs:List V}(h:dC K H a xs):yf (sR K a) O H xs:=λc b g i=>NJ (g.AH h) b (eF.refl _) i
end
def kE(b:D->aW):List D->aW
 |[]=>λU=>pure (.bt U)
 |d::ds=>λU=>do
  let a <-b d U
  match a with
  |.bt U'=>kE b ds U'|.cF U'=>kE b ds U'|.bk U'=>pure (.bt U')|.cx r=>pure (.cx r)
@[simp] def lF(i:Nat)(a:fS)(b:aW)(U:aL):M fZ:=do
 let ds <-a U
 kE (λd U=>b (U.set i (.v d))) ds U
noncomputable def sI(c:aL->M Bool)(b:aW):Nat->aW
 |0=>λ_=>bad
 |n+1=>λU=>do
  let t <-c U
  if t=true then do
   let a <-b U
   match a with
   |.bt U'=>sI c b n U'|.cF U'=>sI c b n U'|.bk U'=>pure (.bt U')|.cx r=>pure (.cx r)
  else pure (.bt U)
@[irreducible] def pJ:Nat:=2 ^ 24
def vQ(c:aL->M Bool)(b:aW):aW:=sI c b pJ
def cS.val{O:a7}{U:aL}{S:bL}{a:St}{v:V}(st:cS K mg O U S a H)(h:Rep K mg O H d v):cS K mg O (U.set i (.v d)) S (a.set i (some v)) H:=st.set ⟨v,rfl,h⟩
set_option tactic.hygienic true in
def bg.bR{O f:a7}(g:ek O f H H'):∀{ds:List D}{c:List V},bg K mg O H ds c->bg K mg f H' ds c:=by
 have rep:∀(d:D)(v:V),Rep K mg O H d v->Rep K mg f H' d v:=by
  intro d
  induction d using D.rec (motive_2:=λds=>∀c,bg K mg O H ds c->bg K mg f H' ds c)with
  |aP=>exact λv h=>h
  |ay _=>exact λv h=>h
  |int _=>exact λv h=>h
  |str _=>exact λv h=>h
  |fn _=>exact λv h=>h
  |ty _=>exact λv h=>h
  |ref n=>exact λv ⟨a,q,l⟩=>⟨a,q,by rw[g.bP];exact l⟩
  |t xs e=>exact λv ⟨a,c,q,l,r⟩=>⟨a,c,q,g.AH l,e c r⟩
  |l xs e=>exact λv ⟨a,c,q,l,r⟩=>⟨a,c,q,⟨g.cells _ _ l.1 (.inl l.2),by rw[g.own a (by rw[l.1];intro z;cases z) (.inl l.2)];exact l.2⟩,e c r⟩
  |nil=>assumption|cons x xs i j=>
   rename_i k hz;obtain⟨y,r,q,a,b⟩:=hz;exact⟨y,r,q,i y a,j r b⟩
 intro ds
 induction ds with
 |nil=>exact λh=>h
 |cons x xs e=>rintro c ⟨y,r,q,a,b⟩;exact⟨y,r,q,rep x y a,e b⟩
section
variable{it:fS}{i:Nat}{b:aW}{x:Str}{t:aL->M Bool}
def bg.get'{O:a7}{ds:List D}{a:List V}(h:bg K mg O H ds a)(e:ds.drop k=d::C):∃y,a[k]? = some y/\Rep K mg O H d y/\ds.drop (k+1)=C:=by
 have ao:ds[k]? = some d:=by
  have:=congrArg (·[0]?) e;simpa using this
 obtain⟨y,q,r⟩:=h.get ao;refine⟨y,q,r,?_⟩;simpa using congrArg (List.drop 1) e
theorem V2{G:iP}{B:az.D->aW}(kH:∀O U S l H d y f g Q,cS K mg O U S l H->Rep K mg O H d y->(B d U).run S=.ok f g->(∀w E,cS K mg O w S E H->fD U w l E->(b w).run S=.ok f g->Q E H)->G y l H Q) :
  ∀D l H,k8 K mg (λU=>do
   let ds <-it U
   kE B ds U) D l H->xQ (AQ K mg it) G (k8 K mg b) D l H:=by
 rintro D l H ⟨O,U,S,R,T,st,h,q⟩;obtain⟨ds,S1,ae,h⟩:=M.inv h;refine⟨O,U,S,ds,S1,st,ae,λF P cw N L I u C=>?_⟩;refine⟨λk m z s=>m=N.length-k/\k<=N.length/\∃n U' A,cS K mg n U' A z s/\ek F n P s/\fD U U' l z/\(kE B (ds.drop k) U').run A=.ok R T,
  ⟨_,rfl,amT _,F,U,S1,I,ek.refl _ _,fD.refl _ _,h⟩,?_⟩
 rintro k m z s ⟨rfl,av,n,U',A,W,g',kp,h⟩
 cases e:ds.drop k with
 |nil=>
  have hl:N.length<=k:=by
   have:=congrArg anZ e;rw[ank,ans]at this;rw[C.len];omega
  rw[e]at h;cases h;exact .inl ⟨(u n s g' k).2 hl,q n z s (L.bR.trans g') W kp⟩
 |cons d kA=>
  obtain⟨y,X,bU,V⟩:=(bg.bR g' C).get' e;have Z:=(nu.mp X).1;obtain⟨go,m6⟩:=(u n s g' k).1 Z;rw[e]at h;obtain⟨Y,g,ag,h⟩:=M.inv h;refine .inr ⟨go,λo c=>∃a j g,cS K mg a j g o c/\ek F a P c/\fD U j l o/\(kE B (ds.drop (k+1)) j).run g=.ok R T,?_,λx c la=>?_⟩
  .rintro o c ⟨a,j,g,a1,a2,gv,hp⟩
   exact⟨_,by omega,rfl,Z,a,j,g,a1,a2,gv,hp⟩
  .obtain⟨rfl,ex⟩:=m6 x c la
   rw[X]at ex;cases ex;refine kH _ _ _ _ _ _ _ _ _ _ W bU ag λw E sy J aa=>?_
   refine⟨n,w,A,Y,g,sy,aa,?_⟩
   cases Y with
   |bt j=>exact λa o c p bQ k2=>⟨a,j,g,bQ,g'.trans p,kp.trans (J.trans k2),by rw[V];exact h⟩
   |cF j=>exact λa o c p bQ k2=>⟨a,j,g,bQ,g'.trans p,kp.trans (J.trans k2),by rw[V];exact h⟩
   |bk j=>cases h;exact λa o c p bQ k2=>q a o c (L.bR.trans (g'.trans p)) bQ (kp.trans (J.trans k2))
   |cx r=>cases h;exact λa v c p dz aA b1=>q a v c (L.bR.trans (g'.trans p)) dz aA b1
def V5:∀D a H,k8 K mg (lF i it b) D a H->xQ (AQ K mg it) (mw i) (k8 K mg b) D a H:=
 V2 λ_ _ _ _ _ _ _ _ _ _ st c h k=>k _ _ (st.val c) (fD.set λxs z=>by cases z) h
def aiJ:∀D k H,k8 K mg (vQ t b) D k H->Gs (pE K mg t) (k8 K mg b) D k H:=by
 rintro D k H ⟨O,U,S,y,A,st,h,q⟩;refine⟨λm p u=>∃o U' s,cS K mg o U' s p u/\ek O o H u/\fD U U' k p/\(sI t b m U').run s=.ok y A,⟨pJ,O,U,S,st,ek.refl _ _,fD.refl _ _,h⟩,?_⟩;rintro m p u ⟨o,U',s,L,g',kp,h⟩
 cases m with
 |zero=>cases h
 |succ n=>
  obtain⟨tt,S1,F,h⟩:=M.inv h;refine⟨o,U',s,tt,S1,L,F,λw E l z=>?_⟩
  cases tt with
  |false=>
   rw[if_neg amm]at h;cases h;exact nS (q w p E (g'.trans l.bR) z kp)
  |true=>
   rw[if_pos rfl]at h;obtain⟨B,f,G,h⟩:=M.inv h;refine nT ⟨λg e=>∃c d f,cS K mg c d f g e/\ek O c H e/\fD U d k g/\(sI t b n d).run f=.ok y A,?_,w,U',S1,B,f,z,G,?_⟩
   .rintro g e ⟨c,d,f,a⟩
    exact⟨n,aoH _,c,d,f,a⟩
   .cases B with
    |bt d=>exact λc g e j bQ k2=>⟨c,d,f,bQ,g'.trans (l.bR.trans j),kp.trans k2,h⟩
    |cF d=>exact λc g e j bQ k2=>⟨c,d,f,bQ,g'.trans (l.bR.trans j),kp.trans k2,h⟩
    |bk d=>cases h;exact λc g e j bQ k2=>q c g e (g'.trans (l.bR.trans j)) bQ (kp.trans k2)
    |cx r=>cases h;exact λc v e j N aA J=>q c v e (g'.trans (l.bR.trans j)) N aA J
end
noncomputable def gP(t:aL->M Bool)(el:bp)(U:aL):List D->M (List D)
 |[]=>pure []|d::ds=>do
  let b <-t (U.set 0 (.v d))
  if b=true then do
   let r <-el (U.set 0 (.v d))
   let x <-r.dat
   let xs <-gP t el U ds
   pure (x::xs)
  else gP t el U ds
def rr:Option Slot->Slot
 |some (.v d)=>.v d|some (.dM _ xs)=>.cj xs|some (.cj xs)=>.cj xs|_=>.e
def iE(n:Nat)(a:List Nat)(U:aL):aL:=amU n .e++a.map λk=>rr U[k]?
@[simp] def fG(n:Nat)(a:List Nat)(b:fS)(t:aL->M Bool)(el:bp)(U:aL):M R:=do
 let ds <-b U
 hR (ds.length<ami)
 let xs <-gP t el (iE n a U) ds
 pure (.fr xs)
def gb:aL->M Bool:=λ_=>pure true
abbrev Br(X:aT)(a:List Expr)(t:aL->M Bool):Prop:=sU X a (pE X.K X.mg t)
def Own.dS:Own->Own
 |.loc _=>.out|.dV=>.out|o=>o
def dS(O:a7):a7:=⟨λb=>(O b).dS,O.bP⟩
def vL(O:a7)(b:Addr):dS O b=(O b).dS:=rfl
def JB{O:a7}(d:dh O H):jr (dS O):=⟨d.rh.1,λa h=>by rw[vL,d.rh.2 a h];rfl⟩
def oA{O:a7}:dS O b=.free↔O b=.free:=by rw[vL];cases O b<;>simp[Own.dS]
def lE(O:a7)(b:Addr):dS O b=.free\/dS O b=.out:=by rw[vL];cases O b<;>simp[Own.dS]
def j2(O:a7):l9 O (dS O):=⟨λ_ h=>oA.mpr h,rfl⟩
def h9.dS{O:a7}(h:h9 K O H a ys):h9 K (dS O) H a ys:=by
 rcases h with⟨h,f⟩|h
 .refine .inl ⟨h,?_⟩
  rcases f with f|f
  .exact .inl (oA.mpr f)
  .exact .inr (by rw[vL,f];rfl)
 .exact .inr h
def cS.dS{O:a7}{S:bL}(st:cS K mg O U S ar H)(n:Nat)(c:List Nat):cS K mg (dS O) (iE n c U) S (gw n c ar) H:=by
 refine⟨⟨λa h=>st.cy.has a λz=>h (oA.mpr z),st.cy.tabs,JB st.cy⟩,?_,λi s e=>?_,st.gF.all (λ_ _ z=>Rep.de (j2 O) z) rfl λ_ _ _ l _=>l⟩
 .unfold iE gw
  rw[amf,amf,am9,am9,amh,amh]
 .unfold iE at e
  unfold gw
  by_cases hi:i<n
  .rw[amA (by simpa using hi),anI,if_pos hi]at e
   cases e;exact trivial
  .rw[ams (by simpa using hi),am9,amE]at e
   rw[ams (by simpa using hi),am9,amE]
   cases I:c[i-n]? with
   |none=>rw[I]at e;cases e
   |some k=>
    rw[I]at e;have b:rr U[k]? = s:=amH e
    cases C:U[k]? with
    |none=>rw[C]at b;subst b;exact trivial|some g=>
     rw[C]at b;have l:=st.loc k g C
     cases g with
     |e=>subst b;exact trivial|v d=>subst b;obtain⟨v,q,r⟩:=l;exact⟨v,q,r.de (j2 O)⟩
     |cj xs=>subst b;obtain⟨a,f,q,l,r⟩:=l;exact⟨a,f,q,l.dS,r.de (j2 O)⟩
     |dM p xs=>subst b;obtain⟨a,f,q,o,l,r⟩:=l;exact⟨a,f,q,.inl ⟨.inl l,.inr (by rw[vL,o];rfl)⟩,r.de (j2 O)⟩
def cS.va{O:a7}{H:ax}{S:bL}(st:cS K mg O U S C H)(a:O l=.dV)(hl:H l=some (.l zs)):cS K mg O U S C (upd H l (.l ws)):=by
 have ne:∀w:Own,w≠.dV->O l≠w:=λw hw z=>hw (z.symm.trans a)
 exact⟨st.cy.eQ hl,st.len,λj t e=>(st.loc j t e).eQ (ne _ (by intro z;cases z)) (ne _ (by intro z;cases z)) (ne _ (by intro z;cases z)) hl,st.gF.eQ st.cy (ne _ (by intro z;cases z)) (ne _ (by intro z;cases z)) hl⟩
section
variable{K:aN}{mg:bf}{n:Nat}{cap:List Nat}{it:fS}{t:aL->M Bool}{el:bp}
noncomputable def nU{α:Type}(put:α->Option aL)(t:aL->M Bool)(el:bp):List α->M (List D)
 |[]=>pure []|d::ds=>match put d with
  |none=>bad|some U=>do
   let b <-t U
   if b=true then do
    let r <-el U
    let x <-r.dat
    let xs <-nU put t el ds
    pure (x::xs)
   else nU put t el ds
omit [aC.aY]in
theorem NS(U:aL):∀ds:List D,gP t el U ds=nU (λd=>some (U.set 0 (.v d))) t el ds
 |[]=>rfl| d::ds=>by unfold gP nU;rw[NS U ds]
inductive CompI{α:Type}(K:aN)(mg:bf)(n:Nat)(cap:List Nat)(L:Nat->M (List az.D))(aG:a7)(U:aL)(S1:bL)(ar:St)(H1:ax)(A:Addr)(xs:List az.D)(k:Nat)(zs:List V)(H':ax):Prop
 |mk (ai:a7) (acc kk:List az.D) (cp:cS K mg ai (iE n cap U) S1 (gw n cap ar) H') (g':Go (dS aG) ai H1 H') (pC:ai A=.dV) (dD:H' A=some (.l zs)) (hz:zs.length<=k)
   (kg:bg K mg ai H' acc zs) (h:(L k).run S1=.ok kk S1) (ex:acc++kk=xs)
def JX{α:Type}{put:α->Option aL}{c:List α}{j:a7}{U:aL}{S1 N:bL}{p:St}{g:ax}{P:iy}{G:iP}{xs:List az.D}{Q:cY}(u:cS K mg j U S1 p g)(hlen:c.length<ami)
  (stop:∀f,eF g f->P.stop c.length f)
  (step:∀k d s i f,c[k]? = some d->put d=some s->Go (dS j) i g f->cS K mg i (iE n cap U) S1 (gw n cap p) f->P.go k f/\∀x L (R:St->ax->Prop),P.pO k f x L->
   (∀S O,Go i i f O->cS K mg i s S1 S O->nf (gw n cap p) S->R S O)->G x (gw n cap p) L R)
  (bA:(nU put t el c).run S1=.ok xs N) (q:∀i v f,Go j i g f->cS K mg i U N p f->en K mg i f (.fr xs) v->iA g (.fr xs) v->Q v f) :
  ∀D,g D=none->CO P (gw n cap p) G (pE K mg t) (gG K mg el) D g Q:=by
 intro D H;obtain rfl:=(nU put t el c).eH _ _ _ bA;have h5:cS K mg (gZ (dS j) D .dV) (iE n cap U) N (gw n cap p) (upd g D (.l [])):=(u.dS n cap).new H;refine⟨λk m I f=>m=c.length-k/\k<=c.length/\CompI (α:=α) K mg n cap (λk=>nU put t el (c.drop k)) j U N p g D xs k I f,
  ⟨_,rfl,amT _,_,[],xs,h5,Go.new H,m2,d2,amj _,rfl,bA,rfl⟩,?_⟩
 rintro k m I f ⟨rfl,av,i,B,kk,E,g',Z,F,hz,Y,h,ex⟩
 cases e:c.drop k with
 |nil=>
  obtain rfl:k=c.length:=by
   have:=congrArg anZ e;rw[ank,ans]at this;omega
  rw[e]at h;cases h;rw[am8]at ex;subst ex;refine .inl ⟨stop f g'.same,?_⟩
  let y:a7:=⟨λb=>match g b with|none=>i b|some _=>j b,j.bP⟩
  have W:∀b,g b≠none->y b=j b:=λb o=>by
   show(match g b with|none=>i b|some _=>j b)=j b
   cases e:g b with
   |none=>exact absurd e o|some _=>rfl
  have V:∀b,g b=none->y b=i b:=λb o=>by
   show(match g b with|none=>i b|some _=>j b)=i b;rw[o]
  have de:l9 i y:=⟨λb o=>by
    by_cases w:g b=none
    .rw[V b w];exact o
    .rw[W b w];exact oA.mp ((g'.own b w).symm.trans o),g'.bP.symm⟩
  have go:Go j y g f:=⟨g'.same,W,rfl⟩;have cy:dh y f:=⟨λb o=>by
   by_cases w:g b=none
   .rw[V b w]at o;exact E.cy.has b o
   .exact g'.same.some w,E.cy.tabs,u.cy.rh.1,λb m=>(W b (u.cy.has b (by rw[u.cy.rh.2 b m];intro z;cases z))).trans (u.cy.rh.2 b m)⟩
  refine q y (.ref D) f go (u.go go cy) ⟨D,I,rfl,F,(V D H).trans Z,Y.de de⟩ λa cM=>?_
  cases cM;exact H
 |cons d kA=>
  have gO:k<c.length:=by
   have:=congrArg anZ e;rw[ank,amL]at this;omega
  have eM:c[k]? = some d:=by
   have:=congrArg (·[0]?) e;simpa using this
  have bD:c.drop (k+1)=kA:=by
   simpa using congrArg (List.drop 1) e
  rw[e]at h;unfold nU at h
  cases bj:put d with
  |none=>rw[bj]at h;cases h
  |some s=>
  rw[bj]at h;obtain⟨b,aQ,ag,h⟩:=M.inv h;obtain rfl:=(t s).eH _ _ _ ag;obtain⟨go,m6⟩:=step k d s i f eM bj g' E;refine .inr ⟨go,λx L la=>m6 x L _ la λS O rF sy yX=>⟨yX,i,s,aQ,b,aQ,sy,ag,λbl kn g2 bQ=>?_⟩⟩;have A:=rF.trans g2
  cases b with
  |false=>
   exact nS ⟨c.length-(k+1),by omega,rfl,gO,bl,B,kk,E.go A bQ.cy,g'.trans A,(A.own D (by rw[F];intro z;cases z)).trans Z,A.same.at' _ _ F,by omega,Y.go A,by rw[bD];exact h,ex⟩
  |true=>
   obtain⟨r,nk,bX,h⟩:=M.inv h;obtain rfl:=(el s).eH _ _ _ bX;obtain⟨x,sY,d1,h⟩:=M.inv h;obtain rfl:=r.dat.eH _ _ _ d1;obtain⟨Bg,Sp,hv,h⟩:=M.inv h;cases h;refine nT ⟨bl,_,_,r,_,bQ,bX,λfu v ko g3 gE bF nn=>?_⟩;obtain⟨a8,_⟩:=qb bF nn d1;have J:=A.trans g3.cL;have T:=J.same.at' _ _ F;have C:=(J.own D (by rw[F];intro z;cases z)).trans Z;have X:=g'.trans J;exact⟨T,by omega,c.length-(k+1),by omega,rfl,gO,cL kn fu,B++[x],Bg,(E.go J (gE.cL kn).cy).va C T,⟨xZ H X.same T _,X.own,X.bP⟩,C,d2,
    by rw[amf,anl];omega,((Y.go J).append (.one a8)).eQ (by rw[C];intro z;cases z) T,by rw[bD];exact hv,by rw[an5];exact ex⟩
def CN(u:0<n):∀e H Q,gG K mg (fG n cap it t el) e H Q->u3 n cap (AO K mg it) (mw 0) (pE K mg t) (gG K mg el) e H Q:=by
 rintro e H Q ⟨O,U,S,r,V,st,h,q⟩;obtain⟨ds,S1,B,h⟩:=M.inv h;obtain⟨_,T,D,h⟩:=M.inv h;obtain⟨b,rfl⟩:=ro D;obtain⟨xs,X,l,h⟩:=M.inv h;cases h;rw[NS]at l;refine⟨O,U,S,ds,S1,st,B,λw P W Z o A c p=>JX A b (λa s=>(c a s _).2 (ao3 p.len)) (λk d Y i a G bj g' f=>?_) l λi v a g f E nn=>q i v a (o.trans g) f E (nn.back o.same)⟩;cases bj;obtain⟨y,m,F⟩:=(bg.go g' (p.de (j2 w))).get G;obtain⟨go,N⟩:=(c a g'.same k).1 (nu.mp m).1;refine⟨go,λx z R L J=>?_⟩;obtain⟨rfl,ex⟩:=N x z L;rw[m]at ex;cases ex;exact J _ _ (Go.refl _ _) (f.val F) ((nf.refl _).set (by cases n with|zero=>exact absurd u (am7 _)|succ j=>rfl))
end
section
variable{X:aT}{scope esc:Scope}{EN N:List Str}{n:Nat}{cap:List Nat}{elt iter:Expr}{ifs:List Expr}{pos fB:Pos}{x:Str}{it:fS}{t:aL->M Bool}{el:bp}
def Hy{i:Nat}{y:Str}{py c:Pos}(S:lg esc scope EN N n cap)(l:X.N.Nodup)(j:X.N[i]? = some y)(d:X.env.scope.names.lookup y=some .local)(m:0<n)(hi:G6 X (.Name x fB) iter it)(e:N[0]? = some x)(b:ox X scope N x)
  (f:∀C a s H,Br (d9 X scope N C a s H) ifs t) (h:∀C a s H,jl (d9 X scope N C a s H) elt el)
  (he:X.env.scope=esc:=by rfl) (hN:X.N=EN:=by rfl) (g:X.calm=true:=by rfl) (aw:lB X iter:=by intro _;rfl)
  (k:anU (.ListComp elt [⟨.Name x fB,iter,ifs,0⟩] scope pos) (some (.Name y py)) c.line X.env=pure true:=by rfl) :
  iN X (.Assign [.Name y py] (.ListComp elt [⟨.Name x fB,iter,ifs,0⟩] scope pos) c) (u2 (u3 n cap (AO X.K X.mg it) (mw 0) (pE X.K X.mg t) (gG X.K X.mg el)) (mw i)):=
 afB S l j d hi (λC a s H=>uO S.gC e (b C a s H).1 (.inr (b C a s H).2)) f h he hN g aw k
end
abbrev bz:=List D->M R
def vm(K:aN)(mg:bf)(O:a7)(H:ax):D->V->Prop
 |.l xs,v=>∃a b,v=.ref a/\du K H a b/\bg K mg O H xs b|d,v=>Rep K mg O H d v
def l5(K:aN)(mg:bf)(O:a7)(H:ax):List D->List V->Prop
 |[],ys=>ys=[]|x::xs,ys=>∃y r,ys=y::r/\vm K mg O H x y/\l5 K mg O H xs r
def cf:D->Slot
 |.l xs=>.cj xs|d=>.v d
def Hx{O:a7}{r:R}{v:V}(h:en K mg O H r v):vm K mg O H r.arg v:=by
 match r,h with
 |.v (.l xs),h=>obtain⟨a,b,q,l,r⟩:=h;exact⟨a,b,q,l.cT,r⟩
 |.fr xs,h=>obtain⟨a,b,q,l,_,r⟩:=h;exact⟨a,b,q,du.of l,r⟩
 |.cj xs,h=>obtain⟨a,b,q,l,r⟩:=h;exact⟨a,b,q,l.cT,r⟩
 |.mv xs,h=>obtain⟨a,b,q,l,r⟩:=h;exact⟨a,b,q,du.of l,r⟩
 |.v .aP,h=>exact h|.v (.ay _),h=>exact h|.v (.int _),h=>exact h|.v (.str _),h=>exact h|.v (.t _),h=>exact h|.v (.ref _),h=>exact h|.v (.fn _),h=>exact h|.v (.ty _),h=>exact h
theorem BY{O:a7}:∀{rs:List R}{vs:List V},ja K mg O H rs vs->l5 K mg O H (rs.map R.arg) vs
 |[],_,h=>h| _::_,_,h=>by obtain⟨y,r,q,a,b⟩:=h;exact⟨y,r,q,Hx a,BY b⟩
theorem l5.len{O:a7}:∀{ds:List D}{vs:List V},l5 K mg O H ds vs->vs.length=ds.length
 |[],_,h=>by cases h;rfl
 |_::_,_,h=>by obtain⟨x,r,rfl,_,b⟩:=h;rw[amL,amL,l5.len b]
theorem l5.get{O:a7}:∀{ds:List D}{xs:List V}{i:Nat}{d:D},l5 K mg O H ds xs->ds[i]? = some d->∃x,xs[i]? = some x/\vm K mg O H d x
 |[],_,_,_,_,e=>by simp at e| _::_,_,0,d,h,e=>by obtain⟨x,r,rfl,a,_⟩:=h;cases(show some _=some d from e);exact⟨x,rfl,a⟩
 |_::ds,_,i+1,d,h,e=>by
  obtain⟨x,r,rfl,_,b⟩:=h;obtain⟨y,ao,aA⟩:=l5.get b e;exact⟨y,by simpa using ao,aA⟩
def hg(K:aN)(mg:bf)(mf:bz):ez:=λvs H Q _=>∃O ds r S,dh O H/\fT K mg O H S/\l5 K mg O H ds vs/\(mf ds).run S=.ok r S/\∀b v a,Go O b H a->dh b a->en K mg b a r v->iA H r v->Q v a
@[simp] def bo(mf:bz)(ms:c3)(U:aL):M R:=do
 let rs <-ms U
 mf (rs.map R.arg)
section
variable{mf:bz}{ms:c3}
def CG:∀b H Q,gG K mg (bo mf ms) b H Q->AL (hg K mg mf) (qN K mg ms) b H Q:=by
 rintro b H Q ⟨O,U,S,r,k,st,h,q⟩;obtain⟨rs,S1,i,h⟩:=M.inv h;refine⟨O,U,S,rs,S1,st,i,λf vs o c a l nn=>?_⟩;obtain rfl:=(mf _).eH _ _ _ h;exact⟨f,_,r,k,a.cy,a.gF,BY l,h,λj v e g d m n=>q j v e (c.trans g) (a.go g d) m (n.back c.same)⟩
end
noncomputable def fnOf(n N:Nat)(b:aW):bz:=λds=>if ds.length=n then do
  let a <-b (ds.map cf++amU (N-n) .e)
  match a with
  |.cx (.v d)=>pure (.v d)|.cx (.fr xs)=>pure (.fr xs)|.bt _=>pure (.v .aP)|_=>bad
 else bad
def agD{O:a7}{v:V}(h:vm K mg O H d v):js K mg (dS O) H w (cf d) (some v):=by
 have val:Rep K mg O H d v->js K mg (dS O) H w (.v d) (some v):=λh=>⟨v,rfl,h.de (j2 O)⟩
 match d,h,val with
 |.l xs,h,_=>
  obtain⟨a,b,rfl,l,r⟩:=h;exact⟨a,b,rfl,l.imp (λz=>⟨z,lE O a⟩) id,r.de (j2 O)⟩
 |.aP,h,val=>exact val h|.ay _,h,val=>exact val h|.int _,h,val=>exact val h|.str _,h,val=>exact val h|.t _,h,val=>exact val h|.ref _,h,val=>exact val h|.fn _,h,val=>exact val h|.ty _,h,val=>exact val h
omit [aC.aY]in
theorem y0{n N:Nat}{ds:List D}{S a:bL}{r:R}(h:(fnOf n N b ds).run S=.ok r a):ds.length=n:=by
 unfold fnOf at h
 by_cases c:ds.length=n
 .exact c
 .rw[if_neg c]at h;cases h
def agO{f:D->Slot}{ps N:List Str}{O:a7}{S:bL}{ds:List D}{vs:List V}(b:dh O H)(dJ:fT K mg O H S)(c:vs.length=ds.length)(hl:ds.length=ps.length)(aw:∀(i:Nat) d,ds[i]? = some d->∃v,vs[i]? = some v/\∀w,js K mg (dS O) H w (f d) (some v)):cS K mg (dS O) (ds.map f++amU (N.length-ps.length) .e) S (aC.start N vs) H:=by
 refine⟨⟨λa g=>b.has a λz=>g (oA.mpr z),b.tabs,JB b⟩,?_,λi s e=>?_,dJ.all (λ_ _ z=>Rep.de (j2 O) z) rfl λ_ _ _ l _=>l⟩
 .unfold aC.start
  rw[amf,amf,amh,amh,am9,am9,c,hl]
 .by_cases hi:i<ds.length
  .rw[amA (by rw[amh];exact hi),amE]at e
   cases C:ds[i]? with
   |none=>rw[C]at e;cases e
   |some d=>
    rw[C]at e;cases e;obtain⟨v,j,h⟩:=aw i d C;unfold aC.start;rw[amA (by rw[amh,c];exact hi),amE,j];exact h _
  .rw[ams (by rw[amh];omega),anI]at e
   split at e
   .cases e;exact trivial
   .cases e
def Gl{ps N:List Str}{O:a7}{S:bL}{ds:List D}(b:dh O H)(dJ:fT K mg O H S)(a:l5 K mg O H ds vs)(hl:ds.length=ps.length):cS K mg (dS O) (ds.map cf++amU (N.length-ps.length) .e) S (aC.start N vs) H:=
 agO b dJ a.len hl λ_ _ e=>(a.get e).imp λ_ h=>⟨h.1,λ_=>agD h.2⟩
def Bt:fZ->R->Prop
 |.bt _,r=>r=.v .aP|.cx (.v d),r=>r=.v d|.cx (.fr xs),r=>r=.fr xs|_,_=>False
def Ue{B:aW}{Q:cY}{O:a7}{S S1:bL}{r:R}(u:dh O H)(D:cS K mg (dS O) U S I H)(E:(B U).run S=.ok C S1)(h:Bt C r)(q:∀f v c,Go O f H c->dh f c->en K mg f c r v->iA H r v->Q v c):k8 K mg B { bt:=fun _ c=>Q .aP c,cx:=Q } I H:=by
 have old:∀b,H b≠none->dS O b=.free\/dS O b=.out:=λb _=>lE O b
 have back:∀{f:a7}{c:ax},ek (dS O) f H c->dh f c->∃k:a7,Go O k H c/\dh k c/\l9 f k/\∀b,(f b=.dV\/∃i,f b=.loc i)->H b=none/\k b=.dV:=λ{f c} g d=>by
  refine⟨⟨λb=>match H b with|some _=>O b|none=>(match f b with|.loc _=>.dV|o=>o),O.bP⟩,⟨⟨λb o e n=>g.cells b o e ((old b (by rw[e];intro z;cases z)).elim .inl λz=>.inr (.inl z)) n,g.cE,g.bW⟩,λb j=>?_,rfl⟩,⟨λb j=>?_,d.tabs,u.rh.1,λb m=>?_⟩,⟨λb j=>?_,g.bP.symm⟩,λb j=>?_⟩
  .dsimp only
   cases e:H b with
   |none=>exact absurd e j|some o=>rfl
  .dsimp only at j
   cases e:H b with
   |some o=>exact g.has b (by rw[e];intro z;cases z)|none=>
    rw[e]at j;refine d.has b λz=>j ?_
    dsimp only;rw[z]
  .dsimp only
   cases e:H b with
   |some o=>exact u.rh.2 b m| none=>exact absurd e (u.has b (by rw[u.rh.2 b m];intro z;cases z))
  .dsimp only
   cases e:H b with
   |some o=>
    dsimp only;have:=(g.own b (by rw[e];intro z;cases z) (lE O b)).symm.trans j;exact oA.mp this
   |none=>
    dsimp only;rw[j]
  .have p:H b=none:=by
    cases e:H b with
    |none=>rfl|some o=>
     exfalso;have bE:=g.own b (by rw[e];intro z;cases z) (lE O b);rcases lE O b with z|z<;>rw[z]at bE<;>rcases j with w|⟨i,w⟩<;>rw[bE]at w<;>cases w
   refine⟨p,?_⟩;dsimp only;rw[p];rcases j with w|⟨i,w⟩<;>rw[w]
 refine⟨dS O,_,S,C,S1,D,E,?_⟩
 cases C with
 |bt U'=>
  cases h;intro f V c g M _;obtain⟨k,y,x,A,_⟩:=back g M.cy;exact q k .aP c y x rfl trivial
 |bk U'=>cases h
 |cF U'=>cases h
 |cx J=>
  intro f v c g d F s;obtain⟨k,y,x,A,N⟩:=back g d
  cases J with
  |v dd=>cases h;exact q k v c y x (Rep.de A s) trivial
  |fr xs=>
   cases h;obtain⟨a,T,rfl,l,t,P⟩:=s;obtain⟨p,G⟩:=N a t;exact q k _ c y x ⟨a,T,rfl,l,G,P.de A⟩ λb L=>by cases L;exact p
  |cj xs=>exact amV s|mv xs=>exact amV s
def JD{ps N:List Str}(i:hg K mg (fnOf ps.length N.length C) vs H Q E):k8 K mg C { bt:=λ_ b=>Q .aP b,cx:=Q } (aC.start N vs) H:=by
 refine a4 λe=>?_
 obtain⟨O,ds,r,S,a,dJ,g,h,q⟩:=i;have hl:=y0 h;unfold fnOf at h;rw[if_pos hl]at h;obtain⟨c,S1,d,h⟩:=M.inv h;exact e (Ue a (Gl a dJ g hl) d (by cases c with|cx f=>cases f<;>cases h<;>exact rfl|_=>cases h<;>exact rfl) q)
def Mj{P:amC}{w:World}{K:aN}{mg:bf}{base:Heap}{x qual:Str}{st:Stmt}{ps N:List Str}{k:Nat}{b:aW}{f:Addr}{c:anp}{n nl:Nat}(F:lj K x qual st f c)(d:hI N ps (dr st))(g:ps.length=n)(hl:N.length=nl)
  (i:∀(a:Value)(A:amK)(outer:List Env)(s:amg)(H:ax)(E:gu),cO k (A.deeper (anf qual (dr st) s.heap.objs.size f a))->
   vp (hr eR P w K mg base N qual (dr st) f a A outer s H E).gW (fH st) b):fc P w K mg base eR (k+1) f c ps (hg K mg (fnOf n nl b)):=by
 subst g hl;exact F.ok d (λvs H Q E ⟨O,ds,r,S,m,dJ,j,h,q⟩=>j.len.trans (y0 h)) λa A outer s H vs Q E e l=>⟨_,i a A outer s H E e,JD l⟩
def zc{P:amC}{w:World}{K:aN}{mg:bf}{base:Heap}{x:Str}{st:Stmt}{ps N:List Str}{k:Nat}{c:aW}{n nl:Nat}(g6:g6 K mg x st ps)(d:hI N ps (dr st))(e:ps.length=n)(hl:N.length=nl)
  (g:∀(f:Addr)(a:Value)(A:amK)(outer:List Env)(s:amg)(H:ax)(E:gu),cO k (A.deeper (anf x (dr st) s.heap.objs.size f a))->
   vp (hr eR P w K mg base N x (dr st) f a A outer s H E).gW (fH st) c):g8 P w K mg base x ps (k+1) (hg K mg (fnOf n nl c)):=by
 obtain⟨f,h,F,b,m⟩:=g6.ex;exact⟨f,h,Mj F d e hl (λa=>g f a),b,F.kp,m⟩
omit [aC.aY]in
theorem LP{K:aN}{h:Heap}{mg:bf}{x:Str}{st:Stmt}{f:Addr}{ps:List Str}{i an:Option Addr}{a3:Array (Option Value)}{dK dn j d cd cF:Value}(X:K.In h)(G:h.Ns amR mg)
  (a:api K amR x=some (some (.ref f))) (l:K.lookup f=some ⟨dK,i,.func (an6 x x (iS st) (fH st) (dr st) .none dn j d an cd cF),a3⟩) (c:apL K cd x=true) (k:an8 K (.ref f)=true)
  (e:∀(dn b d:Value)(an:Option Addr)(g cF:Value)(us:List Value),us.length=ps.length->aoI (an6 x x (iS st) (fH st) (dr st) .none dn b d an g cF) ⟨us,[]⟩=pure (ps.zip us)):g6 K mg x st ps:=
 ⟨f,_,y4 (st:=st) l c k,(y4 (st:=st) l c k).binds e,apM X G a⟩
abbrev xP(K:aN):ez:=λvs H Q _=>∃(a:Addr)(ns:List Int),vs=[.ref a]/\du K H a (ns.map V.int)/\ns.length<=63/\TabsOk H/\∀b,Q (.ay true) b
noncomputable abbrev qZ:Nat:=10715086071862673209484250490600018105614048117055336074437503883703510511249361224931983788156958581275946729175531468251871452856923140435984577574698574803934567774824230985421074605062371141877954182153046474983581941267398767559165543946077062914571196477686542167660429831652624386837205668069376
omit [aC.aY]in
theorem Jv:qZ=2 ^ 1000:=by decide +kernel
omit [aC.aY]in
theorem O1{i:Int}(h:i.natAbs<qZ):anq i<=1000:=by
 unfold anq;split
 .exact amT _
 .rename_i hz
  have:=(Nat.log2_lt (by simpa using hz)).mpr (Jv▸h);omega
def iK(i j:Int):Prop:=(-(2 ^ 64)<i/\i<2 ^ 64)\/(-(2 ^ 64)<j/\j<2 ^ 64)\/(i.natAbs<qZ/\j.natAbs<qZ)
omit [aC.aY]in
theorem iK.ok{i j:Int}(h:iK i j):IntMulOk i j:=by
 rcases h with h|h|h
 .exact(show x8 i j from .inl h).ok
 .exact(show x8 i j from .inr h).ok
 .have b:=O1 h.1
  have c:=O1 h.2;have a:Builtin.Int.intTooBig (anq i+anq j)=false:=by
   refine decide_eq_false ?_;have:(2000:Int)<=((bitsLine:Nat):Int):=by decide
   omega
  unfold IntMulOk;rw[a];simp
instance (i j:Int):Decidable (iK i j):=by unfold iK;exact inferInstance
def aea:dX X (an0 .Mult) (ke iK λi j=>.int (i*j)):=uK λ_ _ _ _ _ _ _ a q=>PyProof.Rows.mul_int q a.ok
abbrev n2:=pd iK (· * ·)
def S4{X:aT}:d3 X.K X.mg (ke iK λi j=>.int (i*j)) n2:=td λ_ _ h=>h
def pT(_ j:Int):Prop:=0<j/\j.natAbs<qZ
instance (i j:Int):Decidable (pT i j):=by unfold pT;exact inferInstance
def ad6:dX X (an0 .FloorDiv) (ke pT λi j=>.int (i / j)):=uK λi j _ _ _ _ _ a q=>by
 have b:=a.1;refine PyProof.Rows.floordiv_int (by omega) (by rw[ap2 i (by omega)];exact q) (.inl (PyProof.noPylong_of_log2 ?_));have:=(Nat.log2_lt (by omega)).mpr (Jv▸a.2);omega
abbrev e3:=pd pT (· / ·)
def SY{X:aT}:d3 X.K X.mg (ke pT λi j=>.int (i / j)) e3:=td λ_ _ h=>h
def oBits:R->M R
 |.v (.int i)=>pure (.v (.int (anq i:Nat)))|_=>bad
structure G3(mg:bf):Prop where
 len:mg "len"=none
 range:mg "range"=none
 isinstance:mg "isinstance"=none
 max:mg "max"=none
 min:mg "min"=none
 any:mg "any"=none
 all:mg "all"=none
 ND:mg "int"=none
 Ug:mg "bool"=none
 EM:mg "list"=none
 tuple':mg "tuple"=none
 agS:mg "str"=none
 abs:mg "abs"=none
 sorted:mg "sorted"=none
 sum:mg "sum"=none
 zip:mg "zip"=none
 enumerate:mg "enumerate"=none
 reversed:mg "reversed"=none
 al7:mg "set"=none
omit [aC.aY]in
theorem Un:am1 "abs"=some (.builtin "abs"):=by decide +kernel
end az
namespace az
open PySem PySem.Spec aC
@[simp] theorem aj6{α a:Type}(f:α->M a):(bad >>= f)=bad:=rfl
@[simp] theorem aka{p:Prop}[Decidable p]:hR p=if p then pure ()else bad:=rfl
@[simp] theorem ajS:bb d U=pure (.v d):=rfl
@[simp] theorem alo:R.sD (.v (.ay b))=pure b:=rfl
@[simp] theorem ajR{g:Int->Int->Int}{i j:Int}:sh g (.v (.int i)) (.v (.int j))=pure (.v (.int (g i j))):=rfl
@[simp] theorem ajQ{C:Int->Int->Prop}[∀i j,Decidable (C i j)]{g:Int->Int->Int}{i j:Int}:pd C g (.v (.int i)) (.v (.int j))=if C i j then pure (.v (.int (g i j)))else bad:=rfl
@[simp] theorem ajP{g:Int->Int->Bool}{i j:Int}:sf g (.v (.int i)) (.v (.int j))=pure (.v (.ay (g i j))):=rfl
@[simp] theorem aj7{i:Int}:oBits (.v (.int i))=pure (.v (.int (anq i:Nat))):=rfl
@[simp] theorem akX:cQ U=pure []:=rfl
@[simp] theorem akj:R.dat (.v d)=pure d:=rfl
@[simp] theorem akg:R.dat (.fr xs)=pure (.l xs):=rfl
@[simp] theorem aki:nC []=pure []:=rfl
@[simp] theorem akh{r:R}:nC (r::rs)=(do
  let d <-r.dat
  let ds <-nC rs
  pure (d::ds)):=rfl
@[simp] theorem akT:R.fL (.v (.l xs))=some xs:=rfl
@[simp] theorem akQ:R.fL (.fr xs)=some xs:=rfl
@[simp] theorem akU:R.fL (.cj xs)=some xs:=rfl
@[simp] theorem akR:R.fL (.mv xs)=some xs:=rfl
@[simp] theorem ak7:R.seq (.v (.l xs))=some xs:=rfl
@[simp] theorem ak6:R.seq (.v (.t xs))=some xs:=rfl
@[simp] theorem ak4:R.seq (.fr xs)=some xs:=rfl
@[simp] theorem ak8:R.seq (.cj xs)=some xs:=rfl
@[simp] theorem ak5:R.seq (.mv xs)=some xs:=rfl
@[simp] theorem ak3:R.own (.v (.l xs))=some xs:=rfl
@[simp] theorem ak1:R.own (.fr xs)=some xs:=rfl
@[simp] theorem ak2:R.own (.mv xs)=some xs:=rfl
@[simp] theorem ajZ:R.arg (.v d)=d:=rfl
@[simp] theorem ajX:R.arg (.fr xs)=.l xs:=rfl
@[simp] theorem aj0:R.arg (.cj xs)=.l xs:=rfl
@[simp] theorem ajY:R.arg (.mv xs)=.l xs:=rfl
@[simp] theorem akO{x:R}:hu [x]=match x.seq with
  |some xs=>pure (.v (.int (xs.length:Nat)))|none=>bad:=rfl
@[simp] theorem akK:R.kind (.v .aP)=some "NoneType":=rfl
@[simp] theorem akF:R.kind (.v (.ay b))=some "bool":=rfl
@[simp] theorem akH{i:Int}:R.kind (.v (.int i))=some "int":=rfl
@[simp] theorem akL:R.kind (.v (.str x))=some "str":=rfl
@[simp] theorem akM:R.kind (.v (.t xs))=some "tuple":=rfl
@[simp] theorem akI:R.kind (.v (.l xs))=some "list":=rfl
@[simp] theorem akG:R.kind (.fr xs)=some "list":=rfl
@[simp] theorem akN:R.kind (.cj xs)=some "list":=rfl
@[simp] theorem akJ:R.kind (.mv xs)=some "list":=rfl
@[simp] theorem akq{x:R}:mn [x,.v (.ty n)]=match x.kind with
  |some t=>if n∈["int","bool","tuple","list","str"]then pure (.v (.ay (wD t n)))else bad|none=>bad:=rfl
@[simp] theorem akr:wD t n=(t==n||(t == "bool"&&n == "int")):=rfl
@[simp] theorem ajO{g:Int->Int->Int}{i j:Int}:v7 g [.v (.int i),.v (.int j)]=pure (.v (.int (g i j))):=rfl
@[simp] theorem ajT{i:Int}:v8 [.v (.int i)]=pure (.v (.int (if i<0 then -i else i))):=rfl
@[simp] theorem ajV{x:R}:v9 [x]=match x.fL.bind ny with
  |some bs=>pure (.v (.ay (bs.any id)))|none=>bad:=rfl
@[simp] theorem ajU{x:R}:oK [x]=match x.fL.bind ny with
  |some bs=>pure (.v (.ay (bs.all id)))|none=>bad:=rfl
theorem yB{α:Type}(p:α->Bool):∀xs:List α,ny (xs.map λx=>D.ay (p x))=some (xs.map p)
 |[]=>rfl| x::xs=>by rw[amt,amt,ny,yB p xs];rfl
@[simp] theorem ako{i:Int}:tw [.v (.int i)]=pure (.v (.int i)):=rfl
@[simp] theorem akn:tw [.v (.ay b)]=pure (.v (.int (if b then 1 else 0))):=rfl
@[simp] theorem akS{x:R}:v_ [x]=match x.seq with
  |some xs=>pure (.fr xs)|none=>bad:=rfl
@[simp] theorem alp{x:R}:qi [x]=match x.seq with
  |some xs=>pure (.v (.t xs))|none=>bad:=rfl
def SQ{α:Type}{xs:List α}{k:Nat}(h:k<xs.length):d7 xs (k:Int)=some xs[k]:=HC (by simp[h])
@[simp] theorem akD{i:Int}:eC (.v (.t xs)) (.v (.int i))=match d7 xs i with
   |some d=>pure (.v d)|none=>bad:=rfl
@[simp] theorem akB{i:Int}:eC (.v (.l xs)) (.v (.int i))=match d7 xs i with
   |some d=>pure (.v d)|none=>bad:=rfl
@[simp] theorem akA{i:Int}:eC (.fr xs) (.v (.int i))=match d7 xs i with
   |some d=>pure (.v d)|none=>bad:=rfl
@[simp] theorem akE{i:Int}:eC (.cj xs) (.v (.int i))=match d7 xs i with
   |some d=>pure (.v d)|none=>bad:=rfl
@[simp] theorem akC{i:Int}:eC (.mv xs) (.v (.int i))=match d7 xs i with
   |some d=>pure (.v d)|none=>bad:=rfl
def lD{α:Type}{xs:List α}(k:Nat){v:α}(h:xs[k]? = some v):d7 xs (k:Int)=some v:=HC h
@[simp] theorem aj1{α:Type}{x:α}{xs:List α}:d7 (x::xs) 0=some x:=lD 0 rfl
@[simp] theorem aj2{α:Type}{x y:α}{xs:List α}:d7 (x::y::xs) 1=some y:=lD 1 rfl
@[simp] theorem aj3{α:Type}{x y z:α}{xs:List α}:d7 (x::y::z::xs) 2=some z:=lD 2 rfl
@[simp] theorem aj4{α:Type}{x y z w:α}{xs:List α}:d7 (x::y::z::w::xs) 3=some w:=lD 3 rfl
@[simp] theorem aj5{α:Type}{x y z w v:α}{xs:List α}:d7 (x::y::z::w::v::xs) 4=some v:=lD 4 rfl
@[simp] theorem ajW{r:R}:k9 xs [r]=(do
  let d <-r.dat
  hR (xs.length<ami)
  pure (.v .aP,xs++[d])):=rfl
@[simp] theorem akl{r:R}:xX xs [r]=match r.own with
  |some a=>do
   hR (xs.length+a.length<=ami)
   pure (.v .aP,xs++a)
  |none=>bad:=rfl
@[simp] theorem akY:iD U=pure none:=rfl
@[simp] theorem ala{l h:Option Int}:pf (.fr xs) l h=pure (.fr (cutD xs l h)):=rfl
@[simp] theorem alm{l h:Option Int}:pf (.cj xs) l h=pure (.fr (cutD xs l h)):=rfl
@[simp] theorem alc{l h:Option Int}:pf (.mv xs) l h=pure (.fr (cutD xs l h)):=rfl
@[simp] theorem alb{l h:Option Int}:pf (.v (.l xs)) l h=pure (.fr (cutD xs l h)):=rfl
@[simp] theorem L0{xs:List D}{l h:Option Int}:pf (.v (.t xs)) l h=if dg.cD xs.length 0 l=0/\dg.cD xs.length xs.length h=xs.length then bad else pure (.v (.t (cutD xs l h))):=rfl
@[simp] theorem akc{a:List Nat}:iE n a U=amU n .e++a.map λk=>rr U[k]?:=rfl
@[simp] theorem ake:rr (some (.v d))=.v d:=rfl
@[simp] theorem akd:rr (some (.dM p xs))=.cj xs:=rfl
@[simp] theorem akf:rr (some (.cj xs))=.cj xs:=rfl
@[simp] theorem alr:gb U=pure true:=rfl
@[simp] theorem akp{x:R}:kZ x (.v .aP)=pure (.v (.ay x.kP)):=rfl
@[simp] theorem akZ{x:R}:i3 x (.v .aP)=pure (.v (.ay (!x.kP))):=rfl
@[simp] theorem aks:R.kP (.v .aP)=true:=rfl
@[simp] theorem akv{i:Int}:R.kP (.v (.int i))=false:=rfl
@[simp] theorem aky:R.kP (.v (.t xs))=false:=rfl
@[simp] theorem aku:R.kP (.fr xs)=false:=rfl
@[simp] theorem akx:R.kP (.v (.str x))=false:=rfl
@[simp] theorem akk{i j:Int}:oEq (.v (.int i)) (.v (.int j))=pure (.v (.ay (i==j))):=rfl
@[simp] theorem akW{i j:Int}:ea (.v (.int i)) (.v (.int j))=pure (.v (.ay (!(i==j)))):=rfl
def nD{x y:R}(b:x.arg.bW 64=true)(a:y.arg.bW 64=true):oEq x y=pure (.v (.ay (eb x.arg y.arg))):=if_pos ⟨b,a⟩
def rx{x y:R}(b:x.arg.bW 64=true)(a:y.arg.bW 64=true):ea x y=pure (.v (.ay (!eb x.arg y.arg))):=if_pos ⟨b,a⟩
@[simp] theorem alg:cf (.l xs)=.cj xs:=rfl
@[simp] theorem alf{i:Int}:cf (.int i)=.v (.int i):=rfl
@[simp] theorem alj:cf (.t xs)=.v (.t xs):=rfl
@[simp] theorem ali:cf (.str x)=.v (.str x):=rfl
@[simp] theorem alh:cf .aP=.v .aP:=rfl
@[simp] theorem ald:cf (.ay b)=.v (.ay b):=rfl
@[simp] theorem yQ{n N:Nat}{ds:List D}:fnOf n N b ds=if ds.length=n then(do
  let a <-b (ds.map cf++amU (N-n) .e)
  match a with
  |.cx (.v d)=>pure (.v d)|.cx (.fr xs)=>pure (.fr xs)|.bt _=>pure (.v .aP)| _=>bad)else bad:=rfl
theorem Md{b:D->aW}(I:Nat->aL->Prop):∀(ds:List D)(k:Nat)(U:aL),I k U->(∀i d U,ds[i]? = some d->I (k+i) U->∃U',(b d U=pure (.bt U')\/b d U=pure (.cF U'))/\I (k+i+1) U')->
  ∃U',kE b ds U=pure (.bt U')/\I (k+ds.length) U'
 |[],k,U,h0,_=>⟨U,rfl,h0⟩
 |d::ds,k,U,h0,step=>by
  obtain⟨g,e,a⟩:=step 0 d U rfl h0;obtain⟨f,aA,c⟩:=Md I ds (k+1) g a λi d' U' hd h=>by
   have:=step (i+1) d' U' hd (by rw[show k+(i+1)=k+1+i by omega];exact h);rw[show k+(i+1)+1=k+1+i+1 by omega]at this;exact this
  refine⟨f,?_,by rw[amL,show k+(ds.length+1)=k+1+ds.length by omega];exact c⟩;show(b d U >>= _)=_;rcases e with e|e<;>rw[e]<;>exact aA
def y1{b:D->aW}{ds:List D}(I:Nat->aL->Prop)(c:I 0 U)(step:∀i d U,ds[i]? = some d->I i U->∃U',(b d U=pure (.bt U')\/b d U=pure (.cF U'))/\I (i+1) U') :
  ∃U',kE b ds U=pure (.bt U')/\I ds.length U':=by
 obtain⟨U',e,h⟩:=Md I ds 0 U c λi d U hd a=>by
  rw[an2]at a ⊢;exact step i d U hd a
 exact⟨U',e,by rw[an2]at h;exact h⟩
def Qx{lo:Int}(h:(fM lo n)[i]? = some d):i<n/\d=.int (lo+(i:Nat)):=by
 have hi:i<n:=by
  have:=(nu.mp h).1
  rwa[su]at this
 unfold fM at h;rw[amE,an7 hi]at h;cases h;exact⟨hi,rfl⟩
def SR{ns:List Int}(h:k<ns.length):d7 (ns.map D.int) (k:Int)=some (.int (ns.getD k 0)):=by
 refine lD k ?_;rw[amE,amB h];simp[ang,h]
def mod_lt{a b:Int}(h:0<b):0<=a % b/\a % b<b:=⟨Int.emod_nonneg _ (by omega),Int.emod_lt_of_pos _ h⟩
def abC{i:Int}(a:-(10 ^ 200)<i)(b:i<10 ^ 200):i.natAbs<qZ:=by
 unfold qZ;omega
def Fb{i j:Int}(a:-(2 ^ 64)<i)(b:i<2 ^ 64):iK i j:=.inl ⟨a,b⟩
def CU{i j:Int}(a:0<j)(b:j<10 ^ 200):pT i j:=⟨a,abC (by omega) b⟩
end az
namespace az
open PySem PySem.Spec aC
variable[aC.aY]
def tE:List Nat->p2
 |[]=>Mq|i::is=>Mo (mw i) (tE is)
section
variable{X:aT}{is:List Nat}{aD:List Expr}
def PO{i:Nat}{x:Str}{p:Pos}(hN:X.N.Nodup)(hi:X.N[i]? = some x)(a:Loc X.env.scope x)(h:q8 X aD (tE is))(aw:(anu (.Name x p::aD) X.env).map (·.2)=ao2 (.Name x p) X.env::(anu aD X.env).map (·.2):=by rfl)
  (b:X.fn x=true\/X.env.scope.names.lookup x=some .local:=by first|exact .inl rfl|exact .inr rfl|assumption):q8 X (.Name x p::aD) (tE (i::is)):=afn (uO hN hi a b) h aw
def afo:q8 X [] (tE []):=afp
end
def nums:List D->Option (List Int)
 |[]=>some []|.int b::r=>(nums r).map (b::·)|_=>none
section
variable{K:aN}{mg:bf}
theorem Ag{O:a7}:∀{ds:List D}{a:List V}{bs:List Int},bg K mg O H ds a->nums ds=some bs->a=bs.map V.int
 |[],a,bs,h,e=>by cases e;exact h
 |d::ds,a,bs,h,e=>by
  cases d with
  |int b=>
   obtain⟨cs,ao,rfl⟩:=aoa.mp e;obtain⟨y,r,rfl,c,f⟩:=h;rw[Ag f ao,show y=.int b from c];rfl
  |_=>exact absurd (show(none:Option (List Int))=some bs from e) (by intro z;cases z)
end
end az
namespace az
open PySem PySem.Spec aC
section
variable[aC.aY](X:aT)
structure ba(e:Expr)(m:bp):Prop where
 un:jl X e m
structure fh(e:Expr)(m:aL->M Bool):Prop where
 un:G8 X e m
structure lz(e:Expr)(m:aL->M Bool):Prop where
 un:x_ X e m
structure g9(e:List Expr)(m:c3):Prop where
 un:G5 X e m
structure p3(e:Option Expr)(m:mb):Prop where
 un:R6 X e m
structure f3(e:Stmt)(m:aW):Prop where
 un:R7 X e m
structure jb(e:List Stmt)(m:aW):Prop where
 un:vp X e m
structure rb(cA e:Expr)(m:fS):Prop where
 un:G6 X cA e m
structure BO(cA e:Expr)(m:fS):Prop where
 un:R5 X cA e m
structure q'(e:List Expr)(m:aL->M Bool):Prop where
 un:Br X e m
end
section
variable[aC.aY]
variable{X:aT}{a e:Expr}{pos:Pos}
theorem x3(i:Nat)(hN:X.N[i]? = some x:=by rfl)(g:q_ X.env.scope x:=by first|exact aoo rfl|exact anh (.inl rfl)|exact anh (anh rfl))(hd:fV x:=by decide)(j:(x==("__classdict__":Str))=false:=by decide):ba X (.Name x pos) (J i):=⟨ef (Ar hN g hd j) λb H Q f=>by
 obtain⟨O,U,S,r,k,st,h,q⟩:=f;unfold J at h
 cases e:U[i]? with
 |none=>rw[e]at h;cases h
 |some s=>
  rw[e]at h;have l:=st.loc i s e;have get:∀{v:V},b[i]?.join=some v->b[i]? = some (some v):=λ{v} z=>by
   cases w:b[i]? with
   |none=>rw[w]at z;cases z
   |some y=>rw[w]at z;exact congrArg some z
  cases s with
  |v d=>
   obtain⟨v,ao,aA⟩:=l;cases h;exact⟨v,get ao,q O v H (Go.refl _ _) st aA trivial⟩
  |dM p xs=>
   obtain⟨a,c,ao,aA,bK,cR⟩:=l;cases h;exact⟨_,get ao,q O _ H (Go.refl _ _) st ⟨a,c,rfl,bK,cR⟩ trivial⟩
  |cj xs=>
   obtain⟨a,c,ao,aA,cR⟩:=l;cases h;exact⟨_,get ao,q O _ H (Go.refl _ _) st ⟨a,c,rfl,aA,cR⟩ trivial⟩
  |e=>cases h⟩
end
section
variable[aC.aY]
variable{X:aT}{e:Expr}{aD:List Expr}{m:bp}{ms:c3}
def A5(o:ba X e m)(f:g9 X aD ms)(aw:gg X e aD:=by rfl):g9 X (e::aD) (di m ms):=⟨Aq (FJ o.un f.un aw) λw H Q k=>by
 obtain⟨O,U,S,r,u,st,h,q⟩:=k;obtain⟨x,S1,l,h⟩:=M.inv h;obtain⟨xs,t,n,h⟩:=M.inv h;cases h;refine⟨O,U,S,x,S1,st,l,λg a s b j d bt=>?_⟩;refine⟨g,U,S1,xs,_,j,n,λp vs i c bQ rs ns=>?_⟩;exact q p (a::vs) i (b.trans c) bQ ⟨a,vs,rfl,d.go c,rs⟩ ⟨bt,ns.back b.same⟩⟩
end
section
variable[aC.aY]
variable{X:aT}{pos:Pos}
def Rq{i j pos}:ba X (.Constant (.int i) j pos) (bb (.int i)):=⟨vS ae4 λ_ _=>rfl⟩
end
section
variable[aC.aY]
variable{X:aT}
def Rn :g9 X [] cQ:=⟨Aq PC λc H Q a=>by
 obtain⟨O,U,S,r,b,st,h,q⟩:=a;cases h;exact q O [] H (Go.refl _ _) st rfl trivial⟩
end
section
variable[aC.aY]
variable{X:aT}{a b:Expr}{ma cJ:bp}{pos:Pos}
def lZ{op:Operator}{r:ff}(c:dX X (an0 op) r)(g:d3 X.K X.mg r f)(e:ba X a ma)(d:ba X b cJ):ba X (.BinOp a op b pos) (ak f ma cJ):=⟨ef (PK c e.un d.un) (vM g)⟩
end
section
variable[aC.aY]
variable{X:aT}{st:Stmt}{rest:List Stmt}{a b:aW}
def RD(c:f3 X st a)(k:jb X rest b):jb X (st::rest) (bS a b):=⟨Au (PX c.un k.un) λD o H j=>by
 obtain⟨O,U,S,g,l,st,h,q⟩:=j;obtain⟨e,S1,c,h⟩:=M.inv h;refine⟨O,U,S,e,S1,st,c,?_⟩
 cases e with
 |bt d=>exact λf p n m i k1=>⟨f,d,S1,g,l,i,h,q.bR m k1⟩
 |cx r=>cases h;exact q
 |bk d=>cases h;exact q
 |cF d=>cases h;exact q⟩
end
section
variable[aC.aY]
variable{X:aT}{st:Stmt}{a:aW}
def RE(h:f3 X st a):jb X [st] a:=⟨PY h.un⟩
end
section
variable[aC.aY]
variable{X:aT}{a b:Expr}{ma cJ:bp}{pos:Pos}
def Rr{r:ff}(c:nh X r)(g:d3 X.K X.mg r f)(e:ba X a ma)(d:ba X b cJ)(aw:Hl b:=by exact λ_ _=>rfl):ba X (.Subscript a b pos) (ak f ma cJ):=⟨ef (ae5 c e.un d.un aw) (vM g)⟩
end
section
variable[aC.aY]
variable{X:aT}{st:Stmt}{pos:Pos}{e:Expr}{m:bp}
theorem RB(he:ba X e m):f3 X (.Return (some e) pos) (a9 m):=⟨hb (FR he.un) λD n H i=>by
 obtain⟨O,U,S,k,l,st,h,q⟩:=i;obtain⟨r,S1,j,h⟩:=M.inv h;refine⟨O,U,S,r,S1,st,j,λc v b g a f nn=>?_⟩
 cases r with
 |v d=>cases h;exact q c v b g.bR a.cy a.gF f
 |fr xs=>cases h;exact q c v b g.bR a.cy a.gF (Qs f (.inr ⟨_,rfl⟩))
 |cj xs=>cases h
 |mv xs=>cases h⟩
end
section
variable[aC.aY]
variable{X:aT}{aD:List Expr}{ms:c3}{pos:Pos}
def aiD{C}(h:g9 X aD ms):ba X (.Tuple aD C pos) (bM ms):=⟨ef (afi h.un) λo H Q e=>by
 obtain⟨O,U,S,r,n,st,h,q⟩:=e;obtain⟨rs,S1,f,h⟩:=M.inv h;obtain⟨ds,m,g,h⟩:=M.inv h;obtain⟨_,s,i,h⟩:=M.inv h;obtain⟨hl,rfl⟩:=ro i;cases h;refine⟨O,U,S,rs,S1,st,f,λc vs l k d j nn=>?_⟩;obtain⟨b,rfl⟩:=CT j nn g;refine⟨anM (gD (by rw[b.len];exact hl)),λp a=>?_⟩;exact q (cL H c) _ _ (k.cL.trans (Go.h2 a)) ((d.cL H).h2 a) ⟨p,vs,rfl,dC.of d2,b.go (Go.h2 a)⟩ trivial⟩
end
section
variable[aC.aY]
variable{X:aT}{pos:Pos}{e:Expr}{m:bp}
variable{i:Nat}{x:Str}{pos':Pos}
def RC(hN:X.N.Nodup)(hi:X.N[i]? = some x)(a:Loc X.env.scope x)(he:ba X e m)(aw:anU e (some (.Name x pos')) pos.line X.env=pure false:=by rfl)(b:X.fn x=true\/X.env.scope.names.lookup x=some .local:=by first|exact .inl rfl|exact .inr rfl|assumption):f3 X (.Assign [.Name x pos'] e pos) (b9 i m):=⟨hb (FT hN hi a he.un aw b) (QK λ_ _ _ h=>h)⟩
end
section
variable[aC.aY]
variable{X:aT}{x:Str}{ps:List Str}{k:Nat}{mf:bz}{p pos:Pos}{e:Expr}{aD:List Expr}{ms:c3}
def aih(h:g8 X.prog X.w X.K X.mg X.base x ps k (hg X.K X.mg mf))(a:cO k X.A)(b:eW X x)(c:g9 X (e::aD) ms)(f:fV x:=by decide)(he:gg X e aD:=by rfl)(d:gT X pos aD:=by rfl):ba X (.Call (.Name x p) (e::aD) [] pos) (bo mf ms):=⟨ef (PH h a b c.un f he d) CG⟩
end
section
variable[aC.aY]
variable{X:aT}{x:Str}{ps:List Str}{k:Nat}{mf:bz}{p pos:Pos}
def aii(h:g8 X.prog X.w X.K X.mg X.base x ps k (hg X.K X.mg mf))(a:cO k X.A)(b:eW X x)(e:fV x:=by decide):ba X (.Call (.Name x p) [] [] pos) (bo mf cQ):=⟨ef (ae1 h a b e) λd H Q h=>by
  obtain⟨O,U,S,rs,S1,st,c,q⟩:=CG d H Q h;cases c;exact q O [] H (Go.refl _ _) st rfl trivial⟩
end
section
variable[aC.aY]
variable{X:aT}{e:Expr}{aD:List Expr}{ms:c3}{pos p:Pos}{x:Str}{id:String}{r:List V->ax->cY->Prop}{f:List R->M R}
def sJ(i:jT X (.builtin id) r)(j:kl X.K X.mg r f)(b:eW X x)(k:X.mg x=none)(d:am1 x=some (.builtin id))(c:g9 X (e::aD) ms)(a:x≠"__name__":=by decide)(h:fV x:=by decide)(he:gg X e aD:=by rfl)(g:gT X pos aD:=by rfl):ba X (.Call (.Name x p) (e::aD) [] pos) (dm f ms):=⟨ef (aeV i b k d c.un a h he g) (JK j)⟩
end
section
variable[aC.aY]
variable{X:aT}{st:Stmt}{pos:Pos}{a b:aW}
theorem aiS{A B:List Stmt}(n:fh X c t)(m:jb X A a)(k:jb X B b):f3 X (.If c A B pos) (cq t a b):=⟨hb (PV n.un m.un k.un) λD p H j=>by
 obtain⟨O,U,S,e,g,st,h,q⟩:=j;obtain⟨t,S1,l,h⟩:=M.inv h;refine⟨O,U,S,t,S1,st,l,λd o i f=>?_⟩
 cases t with
 |false=>
  exact nS ⟨d,U,S1,e,g,f,h,q.bR i.bR (fD.refl _ _)⟩
 |true=>
  exact nT ⟨d,U,S1,e,g,f,h,q.bR i.bR (fD.refl _ _)⟩⟩
end
section
variable[aC.aY]
variable{X:aT}{st:Stmt}
theorem aiX :jb X [] b0:=⟨Au afE λD b H a=>by obtain⟨O,U,S,c,d,st,h,q⟩:=a;cases h;exact q O b H (ek.refl _ _) st (fD.refl _ _)⟩
end
section
variable[aC.aY]
variable{X:aT}{a b:Expr}{ma cJ:bp}{pos:Pos}
def kj{op:CmpOp}{r:ff}(d:dX X (amW op) r)(i:d3 X.K X.mg r f)(g:ba X a ma)(e:ba X b cJ)(j:aoO op b=false:=by exact ij _):fh X (.Compare a [op] [b] pos) (aR (ak f ma cJ)):=⟨xA (afG d g.un e.un j) λc H Q h=>Q3 (vM i) c H Q (Gv c H Q h)⟩
end
section
variable[aC.aY]
variable{X:aT}{a:Expr}{ma:bp}{pos:Pos}
def aiZ(d:ba X a ma)(he:∀b,isTrue a X.env b=(do let v <-b;standAt a.pos;aoC [v] (truthy v)):=by intro _;rfl):fh X a (aR ma):=⟨xA (afL d.un he) λc H Q h=>Gv c H Q h⟩
end
section
variable[aC.aY]
variable{X:aT}{e:Expr}
def k'{v:V}(h:b3 X e (pB v))(r:∀O H,Rep X.K X.mg O H d v):ba X e (bb d):=⟨vS h r⟩
end
section
variable[aC.aY]
variable{X:aT}{aD:List Expr}{ms:c3}{pos:Pos}
def aiq(h:g9 X aD ms):ba X (.List aD pos) (eL ms):=⟨ef (ae7 h.un) λt H Q g=>by
 obtain⟨O,U,S,r,s,st,h,q⟩:=g;obtain⟨rs,S1,i,h⟩:=M.inv h;obtain⟨ds,o,j,h⟩:=M.inv h;obtain⟨_,u,k,h⟩:=M.inv h;obtain⟨hl,rfl⟩:=ro k;cases h;refine⟨O,U,S,rs,S1,st,i,λe vs n c f l nn=>?_⟩;obtain⟨d,rfl⟩:=CT l nn j;refine⟨anM (gD (by rw[d.len];exact hl)),λp b=>?_⟩;refine q (gZ (cL H e) p .dV) _ _ (c.cL.trans (Go.new b)) ((f.cL H).new b) ⟨p,vs,rfl,d2,m2,d.go (Go.new b)⟩ λa m=>?_
 cases m;exact c.same.free b⟩
end
section
variable[aC.aY]
variable{X:aT}{b:Expr}{pos:Pos}
def aif{b j pos}:ba X (.Constant (.bool b) j pos) (bb (.ay b)):=⟨vS aeR λ_ _=>rfl⟩
end
section
variable[aC.aY]
variable{X:aT}{a:Expr}{cg:aL->M Bool}{pos:Pos}
def aiY(g:fh X a cg):fh X (.UnaryOp .Not a pos) (eE cg):=⟨xA (afK g.un) λk H Q e=>by
 obtain⟨O,U,S,r,j,st,h,q⟩:=e;obtain⟨t,S1,f,h⟩:=M.inv h;cases h;exact⟨O,U,S,t,_,st,f,λc b i d=>q c b i d⟩⟩
end
section
variable[aC.aY]
variable{X:aT}{a b:Expr}{cg cE:aL->M Bool}{pos:Pos}
variable{rest:List Expr}
def ai2(o:fh X a cg)(k:lz X (.BoolOp .Or (b::rest) pos) cE):lz X (.BoolOp .Or (a::b::rest) pos) (fA cg cE):=⟨P8 (afQ o.un k.un) λs H Q j=>by
 obtain⟨O,U,S,r,n,st,h,q⟩:=j;obtain⟨t,S1,l,h⟩:=M.inv h;refine⟨O,U,S,t,S1,st,l,λc i e d=>?_⟩
 cases t with
 |true=>
  cases h;exact nT (q c i e d)
 |false=>
  exact nS ⟨c,U,S1,r,n,d,h,λm f g p=>q m f (e.trans g) p⟩⟩
end
section
variable[aC.aY]
variable{X:aT}{pos:Pos}
def aiA{x j pos}:ba X (.Constant (.str x) j pos) (bb (.str x)):=⟨vS afg λ_ _=>rfl⟩
end
section
variable[aC.aY]
variable{X:aT}{pos:Pos}
def ait{j pos}:ba X (.Constant .none j pos) (bb .aP):=⟨vS afc λ_ _=>rfl⟩
end
section
variable[aC.aY]
variable{X:aT}{a b:Expr}{ma cJ:bp}{pos:Pos}
def lY{op:CmpOp}{r:ff}(c:dX X (amW op) r)(g:d3 X.K X.mg r f)(e:ba X a ma)(d:ba X b cJ)(h:aoO op b=false):ba X (.Compare a [op] [b] pos) (ak f ma cJ):=⟨ef (aeZ c e.un d.un h) (vM g)⟩
end
section
variable[aC.aY]
variable{X:aT}{iter:Expr}{it:fS}{i:Nat}{b:aW}{body:List Stmt}{pos fB:Pos}{x:Str}
def aiR(a:apR (model X.prog X.w) X.A X.env X.ej)(e:X.calm=true)(hi:BO X (.Name x fB) iter it)(hN:X.N.Nodup)(d:X.N[i]? = some x)(hl:Loc X.env.scope x)(c:jb X body b)(aw:lB X iter:=by intro _;rfl)(f:X.fn x=true\/X.env.scope.names.lookup x=some .local:=by first|exact .inl rfl|exact .inr rfl|assumption):f3 X (.For (.Name x fB) iter body [] pos) (lF i it b):=⟨hb (PU a e hi.un (uO hN d hl f) c.un aw) V5⟩
end
section
variable[aC.aY]
variable{X:aT}{a b:Expr}{ma cJ:bp}{pos:Pos}
variable{rest:List Expr}
def aid(s:ba X a ma)(l:ba X (.BoolOp .And (b::rest) pos) cJ):ba X (.BoolOp .And (a::b::rest) pos) (jw ma cJ):=⟨ef (aeQ s.un l.un) λz H Q k=>by
 obtain⟨O,U,S,r,p,st,h,q⟩:=k;obtain⟨x,S1,m,h⟩:=M.inv h;obtain⟨t,y,n,h⟩:=M.inv h;obtain⟨rfl,rfl⟩:=xU n;refine⟨O,U,S,_,_,st,m,λd A i c e j bt=>⟨t,j,?_⟩⟩
 cases t with
 |false=>
  cases h;exact nS (q d _ i c e rfl trivial)
 |true=>
  exact nT ⟨d,U,_,r,p,e,h,λo v f g w u nn=>q o v f (c.trans g) w u (nn.back c.same)⟩⟩
end
section
variable[aC.aY]
variable{X:aT}{a b:Expr}{ma cJ:bp}{pos:Pos}
variable{rest:List Expr}
def aiw(s:ba X a ma)(l:ba X (.BoolOp .Or (b::rest) pos) cJ):ba X (.BoolOp .Or (a::b::rest) pos) (p7 ma cJ):=⟨ef (aff s.un l.un) λz H Q k=>by
 obtain⟨O,U,S,r,p,st,h,q⟩:=k;obtain⟨x,S1,m,h⟩:=M.inv h;obtain⟨t,y,n,h⟩:=M.inv h;obtain⟨rfl,rfl⟩:=xU n;refine⟨O,U,S,_,_,st,m,λd A i c e j bt=>⟨t,j,?_⟩⟩
 cases t with
 |true=>
  rw[if_pos rfl]at h;cases h;exact nT (q d _ i c e rfl trivial)
 |false=>
  rw[if_neg amm]at h;exact nS ⟨d,U,_,r,p,e,h,λo v f g w u nn=>q o v f (c.trans g) w u (nn.back c.same)⟩⟩
end
section
variable[aC.aY]
variable{X:aT}{a:Expr}{cg:aL->M Bool}{pos:Pos}
def ai3(b:fh X a cg):lz X (.BoolOp .Or [a] pos) cg:=⟨afR b.un⟩
end
section
variable[aC.aY]
variable{X:aT}{a b:Expr}{cg cE:aL->M Bool}{pos:Pos}
variable{rest:List Expr}
def ai0(o:fh X a cg)(k:lz X (.BoolOp .And (b::rest) pos) cE):lz X (.BoolOp .And (a::b::rest) pos) (hE cg cE):=⟨P8 (afO o.un k.un) λs H Q j=>by
 obtain⟨O,U,S,r,n,st,h,q⟩:=j;obtain⟨t,S1,l,h⟩:=M.inv h;refine⟨O,U,S,t,S1,st,l,λc i e d=>?_⟩
 cases t with
 |false=>
  cases h;exact nS (q c i e d)
 |true=>
  exact nT ⟨c,U,S1,r,n,d,h,λm f g p=>q m f (e.trans g) p⟩⟩
end
section
variable[aC.aY]
variable{X:aT}{e:Expr}{m:bp}
set_option tactic.hygienic true in
def aiO(he:ba X e m):p3 X (some e) (iQ m):=⟨λg s k H Q I d=>by
 refine a4 λj=>?_
 obtain⟨O,U,S,r,o,st,h,q⟩:=d;obtain⟨x,S1,f,h⟩:=M.inv h;split at h
 .rename_i i
  cases h;exact j (afy he.un g s k H Q I ⟨O,U,S,_,_,st,f,λb v a n c l _=>⟨i,l,q b a n c⟩⟩)
 .cases h⟩
end
section
variable[aC.aY]
variable{X:aT}
def aiN :p3 X none iD:=⟨λb s c H Q I a=>by
 obtain⟨O,U,S,r,d,st,h,q⟩:=a;cases h;exact afx b s c H Q I (q O H (Go.refl _ _) st)⟩
end
section
variable[aC.aY]
variable{X:aT}{e:Expr}{m:bp}{lo hi:Option Expr}{lQ mh:mb}{pos cz:Pos}
def aix(he:ba X e m)(hl:p3 X lo lQ)(P:p3 X hi mh):ba X (.Subscript e (.Slice lo hi none cz) pos) (nA m lQ mh):=⟨ef (FN (agz.or QL) he.un hl.un P.un) λC H Q D=>by
 refine a4 λf=>?_
 obtain⟨O,U,S,r,Z,st,h,q⟩:=D;obtain⟨x,S1,F,J⟩:=M.inv h;obtain⟨l,o,G,E⟩:=M.inv J;obtain⟨u,V,K,h⟩:=M.inv E;refine f ⟨O,U,S,x,S1,st,F,λA fC W T B z bt=>?_⟩;refine⟨A,U,S1,l,o,B,G,λL Y t bQ=>?_⟩;refine⟨L,U,o,u,V,bQ,K,λs I w y=>?_⟩;have g:=(T.trans t).trans w;have n:=z.go (t.trans w);unfold pf at h;refine a4 λf=>?_
 split at h
 .rename_i xs
  by_cases c:dg.cD xs.length 0 l=0/\dg.cD xs.length xs.length u=xs.length
  .rw[if_pos c]at h;cases h
  .rw[if_neg c]at h
   cases h;obtain⟨a,k,rfl,j,i⟩:=n;exact f (.inr ⟨a,k,rfl,j,by rw[i.len];exact c,λp d=>q s _ _ (g.trans (Go.h2 d)) (y.h2 d) ⟨p,_,rfl,dC.of d2,(i.cut l u).go (Go.h2 d)⟩ trivial⟩)
 .split at h
  .rename_i xs ao
   cases h;obtain⟨a,k,rfl,j,i⟩:=R.qv n ao;refine f ?_;refine .inl ⟨a,k,rfl,j,λp d=>q (gZ s p .dV) _ _ (g.trans (Go.new d)) (y.new d) ⟨p,_,rfl,d2,m2,(i.cut l u).go (Go.new d)⟩ λb N=>?_⟩;cases N;exact g.same.free d
  .cases h⟩
end
section
variable[aC.aY]
variable{X:aT}{a:Expr}{ma:bp}{pos:Pos}
def aiv{op}(h:ba X a ma):ba X (.BoolOp op [a] pos) ma:=⟨afe h.un⟩
end
section
variable[aC.aY]
variable{X:aT}{scope esc:Scope}{EN N:List Str}{n:Nat}{cap:List Nat}{elt iter:Expr}{ifs:List Expr}{pos fB:Pos}{x:Str}{it:fS}{t:aL->M Bool}{el:bp}
def ail(S:lg esc scope EN N n cap)(c:0<n)(hi:rb X (.Name x fB) iter it)(d:N[0]? = some x)(b:ox X scope N x)(e:∀C a s H,q' (d9 X scope N C a s H) ifs t)(g:∀C a s H,ba (d9 X scope N C a s H) elt el)(he:X.env.scope=esc:=by rfl)(hN:X.N=EN:=by rfl)(f:X.calm=true:=by rfl)(aw:lB X iter:=by intro _;rfl):ba X (.ListComp elt [⟨.Name x fB,iter,ifs,0⟩] scope pos) (fG n cap it t el):=⟨ef (FL S hi.un (λC a s H=>uO S.gC d (b C a s H).1 (.inr (b C a s H).2)) (λC a s H=>(e C a s H).un) (λC a s H=>(g C a s H).un) he hN f aw) (CN c)⟩
end
section
variable[aC.aY]
variable{X:aT}{x:Str}{i:Nat}{p apos dT pos:Pos}{e:Expr}{aD:List Expr}{ms:c3}{name:Str}{id:String}{f:List D->List R->M (R×List D)}{r:V->List V->ax->cY->Prop}
def RA(slot:PySem.Slot "list" name id)(A:typeOf (.builtin id)=pure (.type "method_descriptor"))(t:vw X id r)(s:sN X.K X.mg r f)(l:g9 X (e::aD) ms)(hN:X.N[i]? = some x)(m:q_ X.env.scope x)(hd:fV x:=by decide)(o:(x==("__classdict__":Str))=false:=by decide)(y:anS (.Name x p) name X.env (eval (.Name x p) X.env)=eval (.Name x p) X.env:=by rfl) (B:((aoD dT (am2 (e::aD) X.env)).all (λx=>!x.1)&&(aqj dT (apf [] X.env)).all (λx=>x.1.isSome)
&&decide ((e::aD).length+([]:List ao9).length+(if([]:List ao9).isEmpty then 0 else 1)<30))=true:=by rfl) (z:(apos.endLine==dT.line)=true:=by rfl) (aw:gg X e aD:=by rfl) (u:gT X dT aD:=by rfl) (w:anU (.Call (.Attribute (.Name x p) name apos) (e::aD) [] dT) none pos.line X.env=pure false:=by rfl):f3 X (.Expr (.Call (.Attribute (.Name x p) name apos) (e::aD) [] dT) pos) (rm i f ms):=⟨hb (FQ (FK aqy slot A t (Ar hN m hd o) l.un y B z aw u) w) λD j H b=>by
  obtain⟨O,U,S,E,F,st,h,q⟩:=b;obtain⟨⟨G,J⟩,S1,c,h⟩:=M.inv h;cases h;exact ab5 s st c λd v a g n k _=>q d j a g n k⟩
end
section
variable[aC.aY]
variable{X:aT}{a:Expr}{cg:aL->M Bool}{pos:Pos}
def ai1(b:fh X a cg):lz X (.BoolOp .And [a] pos) cg:=⟨afP b.un⟩
end
section
variable[aC.aY]
variable{X:aT}{cA l:Expr}{m:bp}{a:Expr}
theorem aiE(hl:ba X l m):BO X cA l (wz m):=⟨qL (FP hl.un) λp H R k=>by
 refine a4 λc=>?_
 obtain⟨O,U,S,xs,o,st,h,q⟩:=k;obtain⟨r,S1,n,h⟩:=M.inv h;refine c ⟨O,U,S,r,S1,st,n,λf v e j g i nn=>?_⟩;refine a4 λc=>?_
 split at h
 .cases h
  obtain⟨a,b,rfl,ls,d⟩:=i;exact c ⟨a,rfl,⟨b,ls.cT⟩,q f e (l_ X.K a) b j g (Ek (.inl ⟨.inl ls.1,.inl ls.2⟩)) d⟩
 .cases h
  obtain⟨a,b,rfl,ls,t,d⟩:=i;exact c ⟨a,rfl,⟨b,du.of ls⟩,q (cL H f) e (l_ X.K a) b j.cL (g.cL H) (Ek (.inl ⟨.inl ls,.inl (y3 (nn a rfl) t)⟩)) (d.de (iV _ _))⟩
 .cases h
  obtain⟨a,b,rfl,ls,d⟩:=i;exact c ⟨a,rfl,⟨b,ls.cT⟩,q f e (l_ X.K a) b j g (Ek ls) d⟩
 .cases h⟩
end
section
variable[aC.aY]
variable{X:aT}{pos:Pos}{e:Expr}{m:bp}
variable{i:Nat}{x:Str}{pos':Pos}
def aiU(hN:X.N.Nodup)(hi:X.N[i]? = some x)(a:Loc X.env.scope x)(he:ba X e m)(aw:anU e (some (.Name x pos')) pos.line X.env=pure false:=by rfl)(b:X.fn x=true\/X.env.scope.names.lookup x=some .local:=by first|exact .inl rfl|exact .inr rfl|assumption):f3 X (.Assign [.Name x pos'] e pos) (nz i m):=⟨hb (FT hN hi a he.un aw b) (PB λ_ _ _ h=>h)⟩
end
section
variable[aC.aY]
def aiG:q' X [] gb:=⟨λc s U H Q I a=>by
 obtain⟨O,U',S,b,d,st,h,q⟩:=a;cases h;exact PL c s U H Q I (q O H (Go.refl _ _) st)⟩
end
section
variable[aC.aY]
variable{X:aT}{a:Expr}{ma:bp}{pos:Pos}
def aiu(j:ba X a ma):ba X (.UnaryOp .Not a pos) (vP ma):=⟨ef (afd j.un) λn H Q f=>by
 obtain⟨O,U,S,r,m,st,h,q⟩:=f;obtain⟨x,S1,g,h⟩:=M.inv h;obtain⟨t,l,i,h⟩:=M.inv h;obtain⟨rfl,rfl⟩:=xU i;cases h;exact⟨O,U,S,_,_,st,g,λd o b k e c bt=>⟨t,c,q d _ b k e rfl trivial⟩⟩⟩
end
section
variable[aC.aY]
variable{X:aT}{e:Expr}{aD:List Expr}{ms:c3}{pos p:Pos}{x:Str}{T:String}{r:List V->ax->cY->Prop}{f:List R->M R}
def GC(i:jT X (.type T) r)(j:kl X.K X.mg r f)(b:eW X x)(k:X.mg x=none)(d:am1 x=some (.type T))(c:g9 X (e::aD) ms)(a:x≠"__name__":=by decide)(h:fV x:=by decide)(he:gg X e aD:=by rfl)(g:gT X pos aD:=by rfl):ba X (.Call (.Name x p) (e::aD) [] pos) (dm f ms):=⟨ef (aeW i b k d c.un a h he g) (JK j)⟩
end
section
variable[aC.aY]
def aiH(h:fh X c t):q' X [c] t:=⟨afk h.un⟩
end
section
variable[aC.aY]
variable{X:aT}{a b c:Expr}{ma cJ et:bp}{pos:Pos}
def RF{op d:CmpOp}{r i:ff}(k:dX X (amW op) r)(p:d3 X.K X.mg r f)(n:dX X (amW d) i)(j:d3 X.K X.mg i g)(m:ba X a ma)(l:ba X b cJ)(o:ba X c et)(q:lastMarks [op,d] [b,c]=false:=by with_unfolding_all rfl):fh X (.Compare a [op,d] [b,c] pos) (aR (e0 f g ma cJ et)):=⟨xA (afF k n m.un l.un o.un q) λe H Q h=>Q3 (JJ p j) e H Q (Gv e H Q h)⟩
end
section
variable[aC.aY]
variable{X:aT}{cA l:Expr}{m:bp}{a:Expr}
theorem aia(hl:ba X l m):rb X cA l (mH m):=⟨qL (PR hl.un) λo H R f=>by
 obtain⟨O,U,S,xs,n,st,h,q⟩:=f;obtain⟨r,S1,g,h⟩:=M.inv h;split at h
 .rename_i p
  cases h;refine⟨O,U,S,_,_,st,g,λd v c j e i nn=>?_⟩;obtain⟨a,b,rfl,ls,k⟩:=i;exact⟨a,rfl,⟨b,ls⟩,q d c (sR X.K a) b j e (NJ ls) k⟩
 .cases h⟩
end
section
variable[aC.aY]
variable{X:aT}{cA l:Expr}{m:bp}{e a:Expr}
theorem ah7(hl:ba X l m):rb X cA l (nR m):=⟨qL (FP hl.un) λp H s g=>by
 obtain⟨O,U,S,xs,o,st,h,q⟩:=g;obtain⟨r,S1,i,h⟩:=M.inv h
 cases e:r.fL with
 |none=>rw[e]at h;cases h
 |some t=>
  rw[e]at h;cases h;refine⟨O,U,S,r,_,st,i,λd v c k f j nn=>?_⟩;obtain⟨a,b,rfl,ls,n⟩:=R.qv j e;exact⟨a,rfl,⟨b,ls⟩,q d c (l_ X.K a) b k f (Ej ls) n⟩⟩
end
section
variable[aC.aY]
variable{X:aT}{b:aW}{body:List Stmt}{pos:Pos}{c:Expr}{t:aL->M Bool}
def aiW(a:apR (model X.prog X.w) X.A X.env X.ej)(e:fh X c t)(d:jb X body b):f3 X (.While c body [] pos) (vQ t b):=⟨hb (PW a e.un d.un) aiJ⟩
end
section
variable[aC.aY]
variable{X:aT}{cA l:Expr}{m:bp}{a:Expr}
theorem aiF(hl:ba X l m):BO X cA l (mH m):=⟨qL (PR hl.un) λo H R f=>by
 obtain⟨O,U,S,xs,n,st,h,q⟩:=f;obtain⟨r,S1,g,h⟩:=M.inv h;split at h
 .rename_i p
  cases h;refine⟨O,U,S,_,_,st,g,λd v c j e i nn=>?_⟩;obtain⟨a,b,rfl,ls,k⟩:=i;exact⟨a,rfl,⟨b,ls⟩,q d c (sR X.K a) b j e (aaa ls) k⟩
 .cases h⟩
end
section
variable[aC.aY]
variable{X:aT}{cA:Expr}{a:Expr}{ms:c3}{pos p:Pos}
def ah8(b:eW X "range")(d:X.mg "range"=none)(c:g9 X [a] ms)(aw:am2 [a] X.env=[(false,eval a X.env)]:=by rfl):rb X cA (.Call (.Name "range" p) [a] [] pos) (jH ms):=⟨qL (PQ b d c.un aw) aga.2⟩
end
section
variable[aC.aY]
variable{X:aT}{st:Stmt}{pos:Pos}{a:aW}{e:Expr}
theorem aiV(i:Nat)(hN:X.N[i]? = some x:=by rfl)(f:q_ X.env.scope x:=by first|exact aoo rfl|exact anh (.inl rfl)|exact anh (anh rfl))(hd:fV x:=by decide)(g:(x==("__classdict__":Str))=false:=by decide):f3 X (.Return (some (.Name x p)) pos) (yF i):=⟨hb (FR (Ar hN f hd g)) λD c H b=>by
 obtain⟨O,U,S,k,m,st,h,q⟩:=b;unfold yF at h
 cases e:U[i]? with
 |none=>rw[e]at h;cases h
 |some s=>
  rw[e]at h;have l:=st.loc i s e
  cases s with
  |dM p xs=>
   obtain⟨a,j,ao,aA,bK,cR⟩:=l
   cases p with
   |true=>cases h
   |false=>
   cases h;refine⟨.ref a,?_,q O _ H (ek.refl _ _) st.cy st.gF ⟨a,j,rfl,bK,.inr ⟨i,aA⟩,cR⟩⟩
   cases w:c[i]? with
   |none=>rw[w]at ao;cases ao
   |some y=>rw[w]at ao;exact congrArg some ao
  |v d=>cases h
  |cj d=>cases h
  |e=>cases h⟩
end
section
variable[aC.aY]
variable{X:aT}{a b c:Expr}{ma cJ et:bp}{pos:Pos}
def aik{op d:CmpOp}{r e:ff}(i:dX X (amW op) r)(n:d3 X.K X.mg r f)(l:dX X (amW d) e)(h:d3 X.K X.mg e g)(k:ba X a ma)(j:ba X b cJ)(m:ba X c et)(o:lastMarks [op,d] [b,c]=false:=by with_unfolding_all rfl):ba X (.Compare a [op,d] [b,c] pos) (e0 f g ma cJ et):=⟨ef (aeY i l k.un j.un m.un o) (JJ n h)⟩
end
section
variable[aC.aY]
variable{X:aT}{a:Expr}{ma:bp}{apos dT:Pos}
set_option tactic.hygienic true in
def aie(k:ba X a ma)(n:anS a "bit_length" X.env (eval a X.env)=eval a X.env:=by rfl)(o:(apos.endLine==dT.line)=true:=by rfl):ba X (.Call (.Attribute a "bit_length" apos) [] [] dT) (bh oBits ma):=⟨ef (aeS PySem.F.plainAttrs_int PySem.F.slot_int_bit_length PySem.F.type_int_bit_length ab0 k.un n o) λs H Q f=>by
  refine a4 λj=>?_
  obtain⟨O,U,S,r,p,st,h,q⟩:=f;obtain⟨x,S1,g,h⟩:=M.inv h;unfold oBits at h;split at h
  .rename_i i
   cases h;refine j ⟨O,U,S,_,_,st,g,λd l b m e c bt=>?_⟩;cases(show l=.int i from c);exact⟨rfl,i,rfl,rfl,q d _ b m e rfl trivial⟩
  .cases h⟩
end
section
variable[aC.aY]
variable{X:aT}{st:Stmt}
def aiT :f3 X st oB:=⟨hb afD λD d H a=>by obtain⟨O,U,S,b,c,st,h,q⟩:=a;cases h⟩
end
section
variable[aC.aY]
variable{X:aT}{a:Expr}{cg:aL->M Bool}
def lz.cF(h:lz X a cg):fh X a cg:=⟨x_.cF h.un⟩
end
section
variable[aC.aY]
variable{X:aT}{scope esc:Scope}{EN N:List Str}{n:Nat}{cap:List Nat}{elt iter:Expr}{ifs:List Expr}{pos fB:Pos}{x:Str}{it:fS}{t:aL->M Bool}{el:bp}
def aiP{py c:Pos}(S:lg esc scope EN N n cap)(m:X.N.Nodup)(k:X.N[i]? = some y)(d:X.env.scope.names.lookup y=some .local)(b:0<n)(hi:rb X (.Name x fB) iter it)(e:N[0]? = some x)(h:ox X scope N x)(f:∀C a s H,q' (d9 X scope N C a s H) ifs t)(j:∀C a s H,ba (d9 X scope N C a s H) elt el)(he:X.env.scope=esc:=by rfl)(hN:X.N=EN:=by rfl)(g:X.calm=true:=by rfl)(aw:lB X iter:=by intro _;rfl)(l:anU (.ListComp elt [⟨.Name x fB,iter,ifs,0⟩] scope pos) (some (.Name y py)) c.line X.env=pure true:=by rfl):f3 X (.Assign [.Name y py] (.ListComp elt [⟨.Name x fB,iter,ifs,0⟩] scope pos) c) (nz i (fG n cap it t el)):=⟨hb (Hy S m k d b hi.un e h (λC a s H=>(f C a s H).un) (λC a s H=>(j C a s H).un) he hN g aw l) (PB (CN b))⟩
end
section
variable[aC.aY]
variable{X:aT}{scope esc:Scope}{EN N:List Str}{n:Nat}{cap:List Nat}{elt iter:Expr}{ifs:List Expr}{pos fB:Pos}{x:Str}{it:fS}{t:aL->M Bool}{el:bp}
def aiQ{py c:Pos}(S:lg esc scope EN N n cap)(m:X.N.Nodup)(k:X.N[i]? = some y)(d:X.env.scope.names.lookup y=some .local)(b:0<n)(hi:rb X (.Name x fB) iter it)(e:N[0]? = some x)(h:ox X scope N x)(f:∀C a s H,q' (d9 X scope N C a s H) ifs t)(j:∀C a s H,ba (d9 X scope N C a s H) elt el)(he:X.env.scope=esc:=by rfl)(hN:X.N=EN:=by rfl)(g:X.calm=true:=by rfl)(aw:lB X iter:=by intro _;rfl)(l:anU (.ListComp elt [⟨.Name x fB,iter,ifs,0⟩] scope pos) (some (.Name y py)) c.line X.env=pure true:=by rfl):f3 X (.Assign [.Name y py] (.ListComp elt [⟨.Name x fB,iter,ifs,0⟩] scope pos) c) (b9 i (fG n cap it t el)):=⟨hb (Hy S m k d b hi.un e h (λC a s H=>(f C a s H).un) (λC a s H=>(j C a s H).un) he hN g aw l) (QK (CN b))⟩
end
def Mu:M bL:=⟨λS=>.ok S S,λ_ _ _ h=>by cases h;rfl⟩
def f_:R->M dR
 |.v (.ref n)=>do
  let S <-Mu
  match S[n]? with
  |some o=>pure o|none=>bad
 |_=>bad
set_option tactic.hygienic true in
def Pe{r:R}{o:dR}{S a:bL}(h:(f_ r).run S=.ok o a):∃n,r=.v (.ref n)/\S[n]? = some o/\S=a:=by
 unfold f_ at h;split at h
 .rename_i n
  obtain⟨T,S1,b,h⟩:=M.inv h;cases b
  cases e:S[n]? with
  |none=>rw[e]at h;cases h
  |some c=>rw[e]at h;cases h;exact⟨n,rfl,e,rfl⟩
 .cases h
def N5:D->Option Key
 |.int i=>some (.inl i)|.str x=>some (.inr x)|_=>none
def il{κ α:Type}[DecidableEq κ](k:κ)(a:α):List (κ×α)->List (κ×α)
 |[]=>[(k,a)]
 |(g,x)::r=>if g=k then(g,a)::r else(g,x)::il k a r
theorem P0{v:V}:∀fs:List (Str×V),iI f v fs=il f v fs
 |[]=>rfl| (g,x)::r=>by unfold iI il;rw[P0 r]
section
variable{κ:Type}[DecidableEq κ]
def LY(a:List (κ×D))(k:κ):Option D:=(a.find? λb=>decide (b.1=k)).map (·.2)
variable[aC.aY]{K:aN}{mg:bf}{O:a7}{H:ax}
def fE.cons{p:κ×D}{f:List (κ×D)}{d:List (κ×V)}(h:fE K mg O H (p::f) d):∃q r,d=q::r/\p.1=q.1/\Rep K mg O H p.2 q.2/\fE K mg O H f r:=by
 refine a4 λi=>?_
 obtain⟨c,g⟩:=h
 cases d with
 |nil=>cases c
 |cons q r=>
  injection c with c C
  obtain⟨y,t,e,a,b⟩:=g;injection e with ao aA
  subst ao aA;exact i ⟨q,r,rfl,c,a,C,b⟩
def fE.mk'{r:List (κ×V)}(a:p.1=q.1)(b:Rep K mg O H p.2 q.2)(h:fE K mg O H C r):fE K mg O H (p::C) (q::r):=
 ⟨by rw[amt,amt,a,h.1],q.2,_,rfl,b,h.2⟩
def fE.Fi(h:fE K mg O H [] C):C=[]:=List.map_eq_nil_iff.mp h.1.symm
def fE.len{a:List (κ×D)}{b:List (κ×V)}(h:fE K mg O H a b):b.length=a.length:=by
 have:=congrArg anZ h.1;rw[amh,amh]at this;exact this.symm
theorem fE.val(k:κ):∀{I:List (κ×D)}{C:List (κ×V)},fE K mg O H I C->match LY I k with
  |some d=>∃v,GB C k=some v/\Rep K mg O H d v|none=>GB C k=none
 |[],C,h=>by obtain rfl:=h.Fi;exact rfl
 |p::I,C,h=>by
  obtain⟨q,r,rfl,ao,aA,h'⟩:=h.cons;unfold LY GB
  by_cases a:p.1=k
  .rw[anO (by simpa using a),anO (by rw[<-ao];simpa using a)]
   exact⟨q.2,rfl,aA⟩
  .rw[anP (by simpa using a),anP (by rw[<-ao];simpa using a)]
   exact fE.val k h'
theorem fE.il(k:κ){v:V}(hd:Rep K mg O H d v):∀{I:List (κ×D)}{C:List (κ×V)},fE K mg O H I C->fE K mg O H (az.il k d I) (az.il k v C)
 |[],C,h=>by obtain rfl:=h.Fi;exact⟨rfl,_,_,rfl,hd,rfl⟩
 |p::I,C,h=>by
  obtain⟨q,r,rfl,ao,aA,h'⟩:=h.cons;obtain⟨p1,cz⟩:=p;obtain⟨bE,bZ⟩:=q;cases(show p1=bE from ao);unfold az.il;split
  .exact fE.mk' rfl hd h'
  .exact fE.mk' rfl aA (fE.il k hd h')
theorem fE.lookup:∀{I:List (Str×D)}{C:List (Str×V)},fE K mg O H I C->I.lookup f=some d->∃v,C.lookup f=some v/\Rep K mg O H d v
 |[],C,h,e=>by cases e
 |p::I,C,h,e=>by
  obtain⟨q,r,rfl,ao,aA,h'⟩:=h.cons;obtain⟨p1,cz⟩:=p;obtain⟨bE,bZ⟩:=q;cases(show p1=bE from ao);rw[amy]at e ⊢
  cases U:f==p1 with
  |true=>rw[U]at e;cases e;exact⟨bZ,rfl,aA⟩
  |false=>rw[U]at e;exact fE.lookup h' e
end
variable[aC.aY]
section
variable{K:aN}{mg:bf}{O:a7}{U:aL}{S aq:bL}{ar:St}{H:ax}{r:R}{v:V}{o:dR}
def xp(st:cS K mg O U S ar H)(f:en K mg O H r v)(h:(f_ r).run S=.ok o aq):∃a,v=.ref a/\a∈O.bP/\om K mg O H a o:=by
 obtain⟨n,rfl,e,rfl⟩:=Pe h;obtain⟨a,d,i⟩:=st.gF n o e;obtain⟨b,g,c⟩:=f;rw[d]at c;cases c;exact⟨a,g,amD d,i⟩
end
structure nc(K:aN)(mg:bf)(c:Str)(fs:List Str):Prop where
 ex:∃C,mg c=some (.ref C)/\jm K C/\(W.makesIn K C=true/\an8 K (.ref C)=true)/\∀f∈fs,q4 K C f
def b8(c f:Str)(r:R):M R:=do
 let o <-f_ r
 match o with
 |.a' c' fs=>if c'=c then(match fs.lookup f with
  |some d=>pure (.v d)| none=>bad)else bad
 |_=>bad
def hQ(m:bp):bp:=λU=>do
 let x <-m U
 let o <-f_ x
 match o with
 |.l xs=>pure (.mv xs)|_=>bad
section
variable{X:aT}{e o:Expr}{m:bp}{pos:Pos}{c a:Str}{ns:List Str}
theorem Rp(T:nc X.K X.mg c ns)(F:a∈ns)(he:ba X e m)(p:anS e a X.env (eval e X.env)=eval e X.env:=by rfl):ba X (.Attribute e a pos) (bh (b8 c a) m):=⟨ef (ae0 he.un p) λP H Q n=>by
 refine a4 λf=>?_
 obtain⟨O,U,S,r,N,st,h,q⟩:=n;obtain⟨x,S1,s,D⟩:=M.inv h;clear h;refine f ⟨O,U,S,x,S1,st,s,λl R j B g k bt=>?_⟩;refine a4 λf=>?_
 obtain⟨o,L,i,h'⟩:=M.inv D;have h:=h';obtain⟨b,rfl,_,A⟩:=xp g k i;obtain rfl:=(f_ x).eH _ _ _ i;split at h
 .rename_i c' fs
  split at h
  .rename_i E
   subst E
   cases el:fs.lookup a with
   |none=>refine f ?_;rw[el]at h;cases h
   |some d=>
    rw[el]at h;cases h;obtain⟨C,u,G,y,w,J⟩:=A;obtain⟨V,ao,aA,_,cR⟩:=T.ex;cases ao.symm.trans w.1;obtain⟨v,z,t⟩:=J.lookup el;exact f ⟨b,C,u,G,v,rfl,y,aA,cR a F,z,q l v j B g t trivial⟩
  .cases h
 .cases h⟩
def abt{j:St}{H:ax}{Q:cY}{O:a7}{U:aL}{S S1 s:bL}{x r:R}{g:List D->R}(st:cS X.K X.mg O U S j H)(w:(m U).run S=.ok x S1)
  (h:(do let o <-f_ x;match o with|.l xs=>pure (g xs)|_=>bad:M R).run S1=.ok r s) (q:vB X.K X.mg O U s j H r Q)
  (u:∀i d xs a b,i a=.out->d a=some (.l b)->bg X.K X.mg i d xs b->en X.K X.mg i d (g xs) (.ref a)/\iA H (g xs) (.ref a)):gG X.K X.mg m j H Q:=by
 obtain⟨o,F,p,h'⟩:=M.inv h;clear h;have h:=h';refine⟨O,U,S,x,S1,st,w,λn G k B f t bt=>?_⟩;obtain⟨a,rfl,ma,A⟩:=xp f t p;obtain rfl:=(f_ x).eH _ _ _ p;split at h
 .cases h
  obtain⟨b,l,E⟩:=A;obtain⟨z,y⟩:=u n k _ a b (f.cy.rh.2 a ma) l E;exact q n _ k B f z y
 .cases h
theorem aip(he:ba X e m):ba X e (hQ m):=⟨ef he.un λn H Q b=>by
 obtain⟨O,U,S,r,k,st,h,q⟩:=b;obtain⟨x,S1,d,h⟩:=M.inv h;exact abt st d h q λj i xs a g _ l f=>⟨⟨a,g,rfl,l,f⟩,trivial⟩⟩
end
end az
namespace az
open PySem PySem.Spec aC
structure N(α:Type):Type where
 run:bL->Out α
def N.hP{α d:Type}(m:N α)(f:α->N d):N d:=⟨λS=>match m.run S with
 |.ok a b=>(f a).run b|.exc c b=>.exc c b| .bad=>.bad⟩
noncomputable instance:Monad N where
 pure a:=⟨λS=>.ok a S⟩
 bind:=N.hP
def N.inv{α g:Type}{m:N α}{f:α->N g}{S d:bL}{b:g}(h:(m >>= f).run S=.ok b d):∃a S1,m.run S=.ok a S1/\(f a).run S1=.ok b d:=by
 have h:(N.hP m f).run S=.ok b d:=h;unfold N.hP at h;dsimp only at h
 cases e:m.run S with
 |ok a S1=>rw[e]at h;exact⟨a,S1,rfl,h⟩|exc c S1=>rw[e]at h;cases h
 |bad=>rw[e]at h;cases h
def gm{α:Type}:N α:=⟨λ_=>.bad⟩
def M.up{α:Type}(m:M α):N α:=⟨m.run⟩
def y9:N bL:=⟨λS=>.ok S S⟩
def putN(S:bL):N Unit:=⟨λ_=>.ok () S⟩
abbrev eo:=aL->N R
abbrev j0:=aL->N (List R)
abbrev b7:=aL->N fZ
abbrev d6:=List D->N R
variable[aC.aY]
structure ey(O ai:a7)(H H':ax):Prop where
 cells:∀b o,H b=some o->(b∉O.bP\/Fix o)->(h:o_ o:=by exact trivial)->H' b=some o
 own:∀b,H b≠none->ai b=O b
 has:∀b,H b≠none->H' b≠none
 cE:∀b ps,H b=some (.gp ps)->∃lU,H' b=some (.gp lU)
 bW:TabsOk H->TabsOk H'
 bP:O.bP <+: ai.bP
 new:∀b∈ai.bP,b∈O.bP\/H b=none
structure gH(O ai:a7)(H H':ax):Prop where
 cells:∀b o,H b=some o->(((O b=.free\/O b=.out)/\b∉O.bP)\/Fix o)->(h:o_ o:=by exact trivial)->H' b=some o
 own:∀b,H b≠none->(O b=.free\/O b=.out)->ai b=O b
 has:∀b,H b≠none->H' b≠none
 cE:∀b ps,H b=some (.gp ps)->∃lU,H' b=some (.gp lU)
 bW:TabsOk H->TabsOk H'
 bP:O.bP <+: ai.bP
 new:∀b∈ai.bP,b∈O.bP\/H b=none
structure ec(O ai:a7)(H H':ax):Prop where
 cells:∀b o,H b=some o->((O b=.free/\b∉O.bP/\∃ys,o=.l ys)\/Fix o)->(h:o_ o:=by exact trivial)->H' b=some o
 own:∀b ys,H b=some (.l ys)->O b=.free->ai b=.free
 bP:O.bP <+: ai.bP
section
variable{K:aN}{mg:bf}{O aG bl ai:a7}{H H1 aK H':ax}{S aq:bL}{U U':aL}{ar dk:St}
omit [aC.aY]in
theorem ip{o:eY}(e:H b=some o):H b≠none:=λz=>by rw[e]at z;cases z
def Go.dH(g:Go O ai H H'):ey O ai H H':=⟨λb o e _ n=>g.same.at' b o e n,g.own,λ_ h=>g.same.some h,g.same.cE,g.same.bW,by rw[g.bP];exact an9 _,λb h=>.inl (by rw[<-g.bP];exact h)⟩
def ek.ee(g:ek O ai H H'):gH O ai H H':=⟨λb o e h n=>g.cells b o e (h.elim (λz=>z.1.elim .inl λz=>.inr (.inl z)) λz=>.inr (.inr z)) n,g.own,g.has,g.cE,g.bW,by rw[g.bP];exact an9 _,λb h=>.inl (by rw[<-g.bP];exact h)⟩
def ey.ee(g:ey O ai H H'):gH O ai H H':=⟨λb o e h n=>g.cells b o e (h.imp (·.2) id) n,λb h _=>g.own b h,g.has,g.cE,g.bW,g.bP,g.new⟩
def ey.trans(a:ey O aG H H1)(b:ey aG bl H1 aK):ey O bl H aK:=
  ⟨λc o e h n=>b.cells c o (a.cells c o e h n) (h.imp (λz m=>(a.new c m).elim z (ip e)) id) n,λc h=>(b.own c (a.has c h)).trans (a.own c h),λc h=>b.has c (a.has c h),λc ps h=>let⟨p1,ao⟩:=a.cE c ps h;b.cE c p1 ao,λg=>b.bW (a.bW g),
   a.bP.trans b.bP,λc m=>(b.new c m).elim (a.new c) λz=>.inr (by cases e:H c with|none=>rfl|some o=>exact absurd z (a.has c (ip e)))⟩
def gH.trans(a:gH O aG H H1)(b:gH aG bl H1 aK):gH O bl H aK:=
  ⟨λc o e h n=>b.cells c o (a.cells c o e h n) (h.imp (λz=>⟨by rw[a.own c (ip e) z.1];exact z.1,λm=>(a.new c m).elim z.2 (ip e)⟩) id) n,
   λc h f=>(b.own c (a.has c h) (by rw[a.own c h f];exact f)).trans (a.own c h f),λc h=>b.has c (a.has c h),λc ps h=>let⟨p1,ao⟩:=a.cE c ps h;b.cE c p1 ao,λg=>b.bW (a.bW g),
   a.bP.trans b.bP,λc m=>(b.new c m).elim (a.new c) λz=>.inr (by cases e:H c with|none=>rfl|some o=>exact absurd z (a.has c (ip e)))⟩
def gH.jC(g:gH O ai H H'):ec O ai H H':=⟨λb o e h n=>g.cells b o e (h.imp (λz=>⟨.inl z.1,z.2.1⟩) id) n,λb a e f=>(g.own b (ip e) (.inl f)).trans f,g.bP⟩
def ec.AH(g:ec O ai H H')(h:dC K H a ys):dC K H' a ys:=by
 rcases h with(h|⟨o,h⟩)|h
 .exact .inl (.inl (g.cells _ _ h (.inr (.inl ⟨_,rfl⟩))))
 .exact .inl (.inr ⟨o,g.cells _ _ h (.inr (.inr ⟨_,_,rfl⟩))⟩)
 .exact .inr h
omit [aC.aY]in
theorem jr.no(r:jr O)(h:O a=w)(hw:w≠.out):a∉O.bP:=λm=>hw (h.symm.trans (r.2 a m))
mutual
theorem Rep.jC(g:ec O ai H H')(rh:jr O):∀{d:D}{v:V},Rep K mg O H d v->Rep K mg ai H' d v
 |.aP,_,h=>h|.ay _,_,h=>h|.int _,_,h=>h|.str _,_,h=>h| .t _,_,h=>by obtain⟨a,b,q,l,r⟩:=h;exact⟨a,b,q,g.AH l,bg.jC g rh r⟩
 |.l _,_,h=>by obtain⟨a,b,q,l,r⟩:=h;exact⟨a,b,q,⟨g.cells _ _ l.1 (.inl ⟨l.2,rh.no l.2 (by intro z;cases z),_,rfl⟩),g.own a _ l.1 l.2⟩,bg.jC g rh r⟩
 |.ref _,_,h=>by
  obtain⟨a,q,l⟩:=h;obtain⟨t,e⟩:=g.bP;exact⟨a,q,by rw[<-e,amA (nu.mp l).1];exact l⟩
 |.fn _,_,h=>h|.ty _,_,h=>h
theorem bg.jC(g:ec O ai H H')(rh:jr O):∀{ds:List D}{c:List V},bg K mg O H ds c->bg K mg ai H' ds c
 |[],_,h=>h| _::_,_,h=>by obtain⟨x,r,q,a,b⟩:=h;exact⟨x,r,q,Rep.jC g rh a,bg.jC g rh b⟩
end
def bg.ee(g:gH O C H H')(rh:jr O)(h:bg K mg O H ds ys):bg K mg C H' ds ys:=h.jC g.jC rh
def Rep.dH(g:ey O C H H')(rh:jr O){v:V}(h:Rep K mg O H d v):Rep K mg C H' d v:=h.jC g.ee.jC rh
def bg.dH(g:ey O C H H')(rh:jr O)(h:bg K mg O H ds ys):bg K mg C H' ds ys:=h.ee g.ee rh
def R.h5:R->Bool
 |.v _=>true|.fr _=>true|_=>false
def en.dH(g:ey O C H H')(rh:jr O){r:R}{v:V}(aw:r.h5=true)(h:en K mg O H r v):en K mg C H' r v:=by
 cases r with
 |v d=>exact Rep.dH g rh h| fr xs=>obtain⟨a,b,q,l,o,r⟩:=h;exact⟨a,b,q,g.cells _ _ l (.inl (rh.no o (by intro z;cases z))),(g.own a (ip l)).trans o,r.dH g rh⟩
 |cj xs=>cases aw
 |mv xs=>cases aw
def iA.dH(g:ey O C H H'):∀{r:R}{v:V},iA H' r v->iA H r v
 |.v _,_,_=>trivial|.cj _,_,_=>trivial|.mv _,_,_=>trivial|.fr _,_,h=>λa e=>by
  cases ao:H a with
  |none=>rfl|some o=>exact absurd (h a e) (g.has a (ip ao))
def l'(K:aN)(O:a7)(H:ax)(a:Addr)(b:List V):Prop:=(hK H a (.l b)/\(O a=.free\/O a=.out)/\a∉O.bP)\/BB K a b
structure dB(K:aN)(mg:bf)(O:a7)(U:aL)(S:bL)(ar:St)(H:ax):Prop where
 s3:cS K mg O U S ar H
 full:O.bP.length=S.length
 qS:∀(i:Nat)(xs:List D),U[i]? = some (.cj xs)->∃a ys,ar[i]?.join=some (.ref a)/\l' K O H a ys/\bg K mg O H xs ys
def l'.ee(g:gH O C H H')(h:l' K O H a ys):l' K C H' a ys:=by
 rcases h with⟨h,f,m⟩|h
 .have b:=hK.some h
  refine .inl ⟨?_,by rw[g.own a b f];exact f,λz=>(g.new a z).elim m b⟩;rcases h with h|⟨o,h⟩
  .exact .inl (g.cells _ _ h (.inl ⟨f,m⟩))
  .exact .inr ⟨o,g.cells _ _ h (.inl ⟨f,m⟩)⟩
 .exact .inr h
def l'.v(h:l' K O H a ys):h9 K O H a ys:=h.imp (λz=>⟨z.1,z.2.1⟩) id
def dB.go(s:dB K mg O U S I H)(g:Go O C H H')(d:dh C H'):dB K mg C U S I H':=
 ⟨s.s3.go g d,by rw[g.bP];exact s.full,λi xs e=>by obtain⟨a,b,ao,l,r⟩:=s.qS i xs e;exact⟨a,b,ao,l.ee g.bR.ee,r.go g⟩⟩
def dB.bR(s:dB K mg O U S ar H)(g:ek O C H H')(k:fD U U' ar I)(t:cS K mg C U' S I H'):dB K mg C U' S I H':=
 ⟨t,by rw[g.bP];exact s.full,λi xs e=>by
  obtain⟨dZ,b⟩:=k.1 i xs e;obtain⟨a,c,ao,l,r⟩:=s.qS i xs dZ;exact⟨a,c,by rw[b];exact ao,l.ee g.ee,bg.bR g r⟩⟩
def dB.dH(s:dB K mg O U S ar H)(g:ey O C H H')(d:dh C H')(dJ:fT K mg C H' I)(c:C.bP.length=I.length):dB K mg C U I ar H':=by
 have rh:=s.s3.cy.rh;have cj:∀(i:Nat)(xs:List D),U[i]? = some (.cj xs)->∃a b,ar[i]?.join=some (.ref a)/\l' K C H' a b/\bg K mg C H' xs b:=λi xs e=>by
  obtain⟨a,b,ao,l,r⟩:=s.qS i xs e;exact⟨a,b,ao,l.ee g.ee,r.dH g rh⟩
 refine⟨⟨d,s.s3.len,λi t e=>?_,dJ⟩,c,cj⟩;have l:=s.s3.loc i t e
 cases t with
 |e=>exact trivial|v d=>obtain⟨v,q,r⟩:=l;exact⟨v,q,r.dH g rh⟩
 |dM p xs=>obtain⟨a,b,q,o,l,r⟩:=l;exact⟨a,b,q,(g.own a (ip l)).trans o,g.cells _ _ l (.inl (rh.no o (by intro z;cases z))),r.dH g rh⟩
 |cj xs=>obtain⟨a,b,ao,l,r⟩:=cj i xs e;exact⟨a,b,ao,l.v,r⟩
end
inductive sW{α:Type}(K:aN)(mg:bf)(m:aL->N α)(ar:St)(H:ax)(P:a7->aL->bL->α->Prop):Prop
 |mk (O:a7) (U:aL) (S:bL) (x:α) (aq:bL) (st:dB K mg O U S ar H) (h:(m U).run S=.ok x aq) (q:P O U aq x):sW K mg m ar H P
def qW(K:aN)(mg:bf)(m:eo):TE:=λc H Q=>sW K mg m c H λO U d r=>∀b v a,ey O b H a->dB K mg b U d c a->en K mg b a r v->iA H r v->Q v a
def RM(K:aN)(mg:bf)(m:aL->N Bool):TT:=λd H Q=>sW K mg m d H λO U e b=>∀c a,ey O c H a->dB K mg c U e d a->Q b a
def GS(K:aN)(mg:bf)(m:j0):gf:=λc H Q=>sW K mg m c H λO U d rs=>∀b vs a,ey O b H a->dB K mg b U d c a->ja K mg b a rs vs->ku H rs vs->Q vs a
def vC(K:aN)(mg:bf)(O:a7)(d:bL)(H:ax)(f:fZ)(e:Ends):Prop:=match f with
 |.bt U'=>∀b c a,gH O b H a->dB K mg b U' d c a->e.bt c a|.bk U'=>∀b c a,gH O b H a->dB K mg b U' d c a->e.bk c a|.cF U'=>∀b c a,gH O b H a->dB K mg b U' d c a->e.cF c a|.cx r=>∀b v a,gH O b H a->dh b a->fT K mg b a d->b.bP.length=d.length->BG K mg b a r v->e.cx v a
def vC.ee{O d:a7}(h:vC K mg O I H C U)(g:gH O d H H1):vC K mg d I H1 C U:=by
 cases C with
 |bt U'=>exact λb c a g'=>h b c a (g.trans g')
 |bk U'=>exact λb c a g'=>h b c a (g.trans g')
 |cF U'=>exact λb c a g'=>h b c a (g.trans g')
 |cx r=>exact λb v a g'=>h b v a (g.trans g')
def ob(K:aN)(mg:bf)(m:b7):gR:=λd c H=>sW K mg m c H λO _ b a=>vC K mg O b H a d
section
variable(X:aT)
structure e7(e:Expr)(m:eo):Prop where
 un:b3 X e (qW X.K X.mg m)
structure vH(e:Expr)(m:aL->N Bool):Prop where
 un:iO X e (RM X.K X.mg m)
structure p4(aD:List Expr)(m:j0):Prop where
 un:ho X aD (GS X.K X.mg m)
structure f5(st:Stmt)(m:b7):Prop where
 un:iN X st (ob X.K X.mg m)
structure iC(u1:List Stmt)(m:b7):Prop where
 un:iB X u1 (ob X.K X.mg m)
end
def dt(m:bp):eo:=λU=>(m U).up
def fY(m:aL->M Bool):aL->N Bool:=λU=>(m U).up
def e5(m:c3):j0:=λU=>(m U).up
def b'(m:aW):b7:=λU=>(m U).up
section
variable{X:aT}{e:Expr}{aD:List Expr}{m:bp}{t:aL->M Bool}{ms:c3}{b:aW}{st:Stmt}{u1:List Stmt}
theorem ajm(h:ba X e m):e7 X e (dt m):=⟨ef h.un λk H Q i=>by
 obtain⟨O,U,S,r,a,st,h,q⟩:=i;obtain rfl:=(m U).eH _ _ _ h;exact⟨O,U,a,r,a,st.s3,h,λf v d c g j nn=>q f v d c.dH (st.go c g.cy) j nn⟩⟩
theorem ajA(h:fh X e t):vH X e (fY t):=⟨xA h.un λj H Q i=>by
 obtain⟨O,U,S,r,a,st,h,q⟩:=i;obtain rfl:=(t U).eH _ _ _ h;exact⟨O,U,a,r,a,st.s3,h,λf d c g=>q f d c.dH (st.go c g.cy)⟩⟩
theorem ajf(h:g9 X aD ms):p4 X aD (e5 ms):=⟨Aq h.un λk H Q i=>by
 obtain⟨O,U,S,r,a,st,h,q⟩:=i;obtain rfl:=(ms U).eH _ _ _ h;exact⟨O,U,a,r,a,st.s3,h,λf v d c g j nn=>q f v d c.dH (st.go c g.cy) j nn⟩⟩
theorem RL:∀D i H,ob K mg (b' b) D i H->k8 K mg b D i H:=by
 rintro D i H ⟨O,U,S,j,l,st,h,q⟩;obtain rfl:=(b U).eH _ _ _ h;refine⟨O,U,l,j,l,st.s3,h,?_⟩
 cases j with
 |bt U'=>exact λc f a g t k=>q c f a g.ee (st.bR g k t)
 |bk U'=>exact λc f a g t k=>q c f a g.ee (st.bR g k t)
 |cF U'=>exact λc f a g t k=>q c f a g.ee (st.bR g k t)
 |cx r=>exact λc v a g d dJ n=>q c v a g.ee d dJ (by rw[g.bP];exact st.full) n
def aju(h:f3 X st b):f5 X st (b' b):=⟨hb h.un RL⟩
def RT(h:jb X u1 b):iC X u1 (b' b):=⟨Au h.un RL⟩
end
end az
namespace az
open PySem PySem.Spec aC
def bJ(a b:b7):b7:=λU=>do
 let c <-a U
 match c with
 |.bt U'=>b U'|c=>pure c
def fP(t:aL->N Bool)(a b:b7):b7:=λU=>do
 let t <-t U
 if t=true then a U else b U
def l1(i:Nat)(m:eo):b7:=λU=>do
 let r <-m U
 let d <-r.dat.up
 pure (.bt (U.set i (.v d)))
def i8(m:eo):b7:=λU=>do
 let r <-m U
 match r with
 |.v d=>pure (.cx (.v d))|.fr xs=>pure (.cx (.fr xs))|_=>gm
def jk(m:eo):b7:=λU=>do
 let _ <-m U
 pure (.bt U)
variable[aC.aY]
section
variable{K:aN}{mg:bf}{O pY:a7}{H H₀:ax}{S:bL}{U:aL}{ar:St}
def dB.cL(s:dB K mg O U S ar H)(H₀:ax):dB K mg (cL H₀ O) U S ar H:=⟨s.s3.cL H₀,s.full,λi xs e=>by
 obtain⟨a,b,ao,l,r⟩:=s.qS i xs e;refine⟨a,b,ao,l.imp (λz=>⟨z.1,?_,z.2.2⟩) id,r.de (iV _ _)⟩;rcases z.2.1 with f|f
 .exact .inl ((iV H₀ O).fr a f)
 .exact .inr (by rw[rD (by rw[f];intro z;cases z)];exact f)⟩
def ey.cL(g:ey pY O H₀ H):ey pY (cL H₀ O) H₀ H:=⟨λb o e h n=>g.cells b o e h n,λb a=>(Dk a).trans (g.own b a),g.has,g.cE,g.bW,g.bP,g.new⟩
def dB.set{s:Slot}{v:V}(st:dB K mg O U S ar H)(aw:∀xs,s≠.cj xs)(h:js K mg O H (.loc i) s (some v)):dB K mg O (U.set i s) S (ar.set i (some v)) H:=⟨st.s3.set h,st.full,λj xs e=>by
 by_cases a:i=j
 .subst a
  rw[amx (by have:=(nu.mp e).1;rwa[amQ]at this)]at e;exact absurd (amH e) (aw xs)
 .rw[amk a]at e
  rw[amk a];exact st.qS j xs e⟩
end
section
variable{X:aT}{st:Stmt}{rest A B:List Stmt}{pos pos':Pos}{a b:b7}{e c:Expr}{m:eo}{t:aL->N Bool}{i:Nat}{x:Str}
def ajz(h:f5 X st a):iC X [st] a:=⟨PY h.un⟩
def ajy(d:f5 X st a)(o:iC X rest b):iC X (st::rest) (bJ a b):=⟨Au (PX d.un o.un) λD w H n=>by
 obtain⟨O,U,S,k,p,st,h,q⟩:=n;obtain⟨g,S1,d,h⟩:=N.inv h;refine⟨O,U,S,g,S1,st,d,?_⟩
 cases g with
 |bt f=>exact λj y u s l=>⟨j,f,S1,k,p,l,h,q.ee s⟩
 |cx r=>cases h;exact q
 |bk f=>cases h;exact q
 |cF f=>cases h;exact q⟩
theorem ajs(r:vH X c t)(p:iC X A a)(n:iC X B b):f5 X (.If c A B pos) (fP t a b):=⟨hb (PV r.un p.un n.un) λD u H l=>by
 obtain⟨O,U,S,f,j,st,h,q⟩:=l;obtain⟨t,S1,o,h⟩:=N.inv h;refine⟨O,U,S,t,S1,st,o,λd s k g=>?_⟩
 cases t with
 |false=>
  exact nS ⟨d,U,S1,f,j,g,h,q.ee k.ee⟩
 |true=>
  exact nT ⟨d,U,S1,f,j,g,h,q.ee k.ee⟩⟩
theorem ajv(he:e7 X e m):f5 X (.Return (some e) pos) (i8 m):=⟨hb (FR he.un) λD u H n=>by
 obtain⟨O,U,S,p,s,st,h,q⟩:=n;obtain⟨r,S1,o,h⟩:=N.inv h;refine⟨O,U,S,r,S1,st,o,λj v g l f k nn=>?_⟩
 cases r with
 |v d=>cases h;exact q j v g l.ee f.s3.cy f.s3.gF f.full k
 |fr xs=>cases h;exact q j v g l.ee f.s3.cy f.s3.gF f.full (Qs k (.inr ⟨_,rfl⟩))
 |cj xs=>cases h
 |mv xs=>cases h⟩
theorem ajq(he:e7 X e m)(aw:anU e none pos.line X.env=pure false:=by rfl):f5 X (.Expr e pos) (jk m):=⟨hb (FQ he.un aw) λD l H j=>by
 obtain⟨O,U,S,o,p,st,h,q⟩:=j;obtain⟨r,S1,k,h⟩:=N.inv h;cases h;exact⟨O,U,S,r,_,st,k,λf v d n g s nn=>q f l d n.ee g⟩⟩
theorem ajw(hN:X.N.Nodup)(hi:X.N[i]? = some x)(o:Loc X.env.scope x)(he:e7 X e m)(aw:anU e (some (.Name x pos')) pos.line X.env=pure false:=by rfl)(u:X.fn x=true\/X.env.scope.names.lookup x=some .local:=by first|exact .inl rfl|exact .inr rfl|assumption) :
  f5 X (.Assign [.Name x pos'] e pos) (l1 i m):=⟨hb (FT hN hi o he.un aw u) λD F H k=>by
 obtain⟨O,U,S,w,E,st,h,q⟩:=k;obtain⟨r,S1,l,h⟩:=N.inv h;obtain⟨d,y,n,h⟩:=N.inv h;cases h;refine⟨O,U,S,r,S1,st,l,λg v f s j p nn=>?_⟩;obtain⟨cb,rfl⟩:=qb p nn n;exact q (cL H g) _ f s.cL.ee ((j.cL H).set (λxs z=>by cases z) ⟨v,rfl,cb⟩)⟩
end
def Bz(b:iy)(O:a7)(H:ax)(c:List V):Prop:=∀e a,gH O e H a->∀i,(i<c.length->b.go i a/\∀x d,b.pO i a x d->d=a/\c[i]? = some x)/\(c.length<=i->b.stop i a)
def Gy(K:aN)(mg:bf)(m:fS):TI:=λc H R=>sW K mg (λU=>(m U).up) c H λO U f xs=>∀b a d e,Go O b H a->dB K mg b U f c a->Bz d b a e->bg K mg b a xs e->R d a
structure yo(X:aT)(cA e:Expr)(m:fS):Prop where
 un:kx X cA e (Gy X.K X.mg m)
def Ec(m:bp):fS:=λU=>do
 let r <-m U
 match r with
 |.v (.l xs)=>pure xs|.fr xs=>pure xs|_=>bad
def m4(b:D->b7):List D->b7
 |[]=>λU=>pure (.bt U)
 |d::ds=>λU=>do
  let a <-b d U
  match a with
  |.bt U'=>m4 b ds U'|.cF U'=>m4 b ds U'|.bk U'=>pure (.bt U')|.cx r=>pure (.cx r)
def RG(B:D->b7)(a:fS):b7:=λU=>do
 let ds <-(a U).up
 m4 B ds U
abbrev vf(i:Nat)(a:fS)(b:b7):b7:=RG (λd U=>b (U.set i (.v d))) a
section
variable{X:aT}{cA l iter:Expr}{m:bp}{a:Expr}{ms:c3}{pos p fB:Pos}{it:fS}{bd:b7}{body:List Stmt}{i:Nat}{x:Str}
theorem l'.NK{K:aN}{O:a7}{H:ax}{a:Addr}{xs:List V}(h:l' K O H a xs):Bz (l_ K a) O H xs:=λc b g i=>Ej (h.ee g).v.cT b (eF.refl _) i
theorem ajn(hl:ba X l m):yo X cA l (Ec m):=⟨qL (FP hl.un) λw H R s=>by
 refine a4 λc=>?_
 obtain⟨O,U,S,xs,u,st,h,q⟩:=s;obtain rfl:=(Ec m U).eH _ _ _ h;obtain⟨r,S1,n,h⟩:=M.inv h;obtain rfl:=(m U).eH _ _ _ n;refine c ⟨O,U,S1,r,S1,st.s3,n,λk v g e d o nn=>?_⟩;have j:=st.go e d.cy;refine a4 λc=>?_
 split at h
 .cases h
  obtain⟨a,b,rfl,ls,f⟩:=o;exact c ⟨a,rfl,⟨b,ls.cT⟩,q k g (l_ X.K a) b e j (l'.NK (.inl ⟨.inl ls.1,.inl ls.2,d.cy.rh.no ls.2 (by intro z;cases z)⟩)) f⟩
 .cases h
  obtain⟨a,b,rfl,ls,t,f⟩:=o;exact c ⟨a,rfl,⟨b,du.of ls⟩,q (cL H k) g (l_ X.K a) b e.cL (j.cL H) (l'.NK (.inl ⟨.inl ls,.inl (y3 (nn a rfl) t),d.cy.rh.no t (by intro z;cases z)⟩)) (f.de (iV _ _))⟩
 .cases h⟩
theorem Z9{O:a7}(lo:Int)(n:Nat):Bz (pW lo n) O H (n4 lo n):=λc b _ i=>El lo n b (eF.refl _) i
set_option tactic.hygienic true in
def ajo(g:eW X "range")(t:X.mg "range"=none)(o:g9 X [a] ms)(aw:am2 [a] X.env=[(false,eval a X.env)]:=by rfl):yo X cA (.Call (.Name "range" p) [a] [] pos) (jH ms):=⟨qL (PQ g t o.un aw) λw H R n=>by
 obtain⟨O,U,S,xs,u,st,h,q⟩:=n;obtain rfl:=(jH ms U).eH _ _ _ h;obtain⟨rs,S1,b,h⟩:=M.inv h;obtain rfl:=(ms U).eH _ _ _ b;split at h
 .rename_i j
  by_cases c:-(2 ^ 62)<=j/\j<2 ^ 62
  .rw[if_pos c]at h
   cases h;refine⟨O,U,S1,_,S1,st.s3,b,λf vs e d k r nn=>?_⟩;obtain⟨v,rfl,s⟩:=jM r;cases(show v=.int j from s);exact⟨j,rfl,c.1,c.2,q f e (pW 0 j.toNat) (n4 0 j.toNat) d (st.go d k.cy) (Z9 _ _) (Qz _ _)⟩
  .rw[if_neg c]at h;cases h
 .cases h⟩
theorem abw{K:aN}{mg:bf}{J:iy}{G:iP}{B:az.D->b7}{b:List az.D}{w:a7}{U:aL}{S1 F:bL}{Q:St}{u:ax}{E:fZ}{V:Ends}(W:dB K mg w U S1 Q u)(stop:∀g c,gH w g u c->J.stop b.length c)
  (step:∀k d g c U' s y f n,b[k]? = some d->gH w g u c->dB K mg g U' s y c->(B d U').run s=.ok f n->J.go k c/\∀x j (R:St->ax->Prop),J.pO k c x j->
   (∀M P H,gH g g c H->dB K mg g M s P H->(bd M).run s=.ok f n->R P H)->G x y j R)
  (h:(m4 B b U).run S1=.ok E F) (q:vC K mg w F u E V):xQ (λ_ _ R=>R J u) G (ob K mg bd) V Q u:=by
 refine⟨λk m y c=>m=b.length-k/\k<=b.length/\∃g U' s,dB K mg g U' s y c/\gH w g u c/\(m4 B (b.drop k) U').run s=.ok E F,
  ⟨_,rfl,amT _,w,U,S1,W,(ek.refl _ _).ee,h⟩,?_⟩
 rintro k m y c ⟨rfl,av,g,U',s,T,g',h⟩
 cases e:b.drop k with
 |nil=>
  obtain rfl:k=b.length:=by
   have:=congrArg anZ e;rw[ank,ans]at this;omega
  rw[e]at h;cases h;exact .inl ⟨stop g c g',q g y c g' T⟩
 |cons d kA=>
  have gO:k<b.length:=by
   have:=congrArg anZ e;rw[ank,amL]at this;omega
  have eM:b[k]? = some d:=by
   have:=congrArg (·[0]?) e;simpa using this
  have S:b.drop (k+1)=kA:=by
   simpa using congrArg (List.drop 1) e
  rw[e]at h;obtain⟨O,n,Z,h⟩:=N.inv h;obtain⟨go,m6⟩:=step k d g c U' s y O n eM g' T Z;refine .inr ⟨go,λA j=>∃o t n,dB K mg o t n A j/\gH w o u j/\(m4 B (b.drop (k+1)) t).run n=.ok E F,?_,λx j la=>m6 x j _ la λM P H rF sy Y=>?_⟩
  .rintro A j ⟨o,t,n,a1,a2,gv⟩
   exact⟨_,by omega,rfl,gO,o,t,n,a1,a2,gv⟩
  .refine⟨g,M,s,O,n,sy,Y,?_⟩
   have L:=g'.trans rF
   cases O with
   |bt t=>exact λo A j z bQ=>⟨o,t,n,bQ,L.trans z,by rw[S];exact h⟩
   |cF t=>exact λo A j z bQ=>⟨o,t,n,bQ,L.trans z,by rw[S];exact h⟩
   |bk t=>cases h;exact λo A j z bQ=>q o A j (L.trans z) bQ
   |cx r=>cases h;exact λo v j z I aA f2 C=>q o v j (L.trans z) I aA f2 C
theorem V3{G:iP}{B:az.D->b7}(T:∀O U S b H d y f j Q,dB K mg O U S b H->Rep K mg O H d y->(B d U).run S=.ok f j->(∀o r,dB K mg O o S r H->(bd o).run S=.ok f j->Q r H)->G y b H Q) :
  ∀D b H,ob K mg (RG B it) D b H->xQ (Gy K mg it) G (ob K mg bd) D b H:=by
 rintro D b H ⟨O,U,S,I,aq,st,h,q⟩;obtain⟨ds,S1,A,h⟩:=N.inv h;refine⟨O,U,S,ds,S1,st,A,λC Z cw ys M s c u=>abw s (λn e g=>(c n e g _).2 (ao3 u.len)) (λk d n e U' fg dk f j L g' J E=>?_) h (q.ee M.bR.ee)⟩;obtain⟨y,t,F⟩:=(u.ee g' s.s3.cy.rh).get L;obtain⟨go,W⟩:=(c n e g' k).1 (nu.mp t).1;refine⟨go,λx w R V P=>?_⟩;obtain⟨rfl,ex⟩:=W x w V;rw[t]at ex;cases ex;exact T _ _ _ _ _ _ _ _ _ _ J F E λo r Y z=>P _ _ _ (ek.refl _ _).ee Y z
def ajr(b:apR (model X.prog X.w) X.A X.env X.ej)(f:X.calm=true)(hi:yo X (.Name x fB) iter it)(hN:X.N.Nodup)(d:X.N[i]? = some x)(hl:Loc X.env.scope x)(c:iC X body bd)
  (aw:lB X iter:=by intro _;rfl) (g:X.fn x=true\/X.env.scope.names.lookup x=some .local:=by first|exact .inl rfl|exact .inr rfl|assumption):f5 X (.For (.Name x fB) iter body [] pos) (vf i it bd):=
 ⟨hb (PU b f hi.un (uO hN d hl g) c.un aw) (V3 λ_ _ _ _ _ _ _ _ _ _ st e h k=>k _ _ (st.set (s:=.v _) (λxs z=>by cases z) ⟨_,rfl,e⟩) h)⟩
end
end az
namespace az
open PySem PySem.Spec aC
noncomputable def fnX(n N:Nat)(b:b7):d6:=λds=>if ds.length=n then do
  let a <-b (ds.map cf++amU (N-n) .e)
  match a with
  |.cx (.v d)=>pure (.v d)|.cx (.fr xs)=>pure (.fr xs)|.bt _=>pure (.v .aP)|_=>gm
 else gm
def Df{n N:Nat}{ds:List D}{S a:bL}{r:R}(h:(fnX n N b ds).run S=.ok r a):ds.length=n:=by
 unfold fnX at h
 by_cases c:ds.length=n
 .exact c
 .rw[if_neg c]at h;cases h
def qU:j0:=λ_=>pure []
def vd(m:eo)(ms:c3):j0:=λU=>do
 let x <-m U
 let xs <-(ms U).up
 pure (x::xs)
def pM(mf:d6)(ms:j0):eo:=λU=>do
 let rs <-ms U
 if rs.all R.h5=true then mf (rs.map R.arg)else gm
noncomputable def eJ(c m:Str)(mf:d6)(mo:bp)(ms:j0):eo:=λU=>do
 let x <-(mo U).up
 let o <-(f_ x).up
 match o with
 |.a' c' fs=>if c'=c/\fs.lookup m=none then(do
  let rs <-ms U
  if rs.all R.h5=true then mf (x.arg::rs.map R.arg)else gm)else gm
 |_=>gm
noncomputable def pN(c:Str)(mf:d6)(ms:j0):eo:=λU=>do
 let rs <-ms U
 if rs.all R.h5=true then(do
  let S <-y9
  putN (S++[.a' c []])
  let r <-mf (.ref S.length::rs.map R.arg)
  match r with
  |.v .aP=>pure (.v (.ref S.length))| _=>gm)else gm
def g5(f:R->R->M R)(a b:eo):eo:=λU=>do
 let x <-a U
 let y <-b U
 if x.h5=true then(f x y).up else gm
variable[aC.aY]
def pR(K:aN)(mg:bf)(O:a7)(H:ax):D->V->Prop
 |.l xs,v=>∃a b,v=.ref a/\((hK H a (.l b)/\a∉O.bP)\/BB K a b)/\bg K mg O H xs b|d,v=>Rep K mg O H d v
def m_(K:aN)(mg:bf)(O:a7)(H:ax):List D->List V->Prop
 |[],ys=>ys=[]|x::xs,ys=>∃y r,ys=y::r/\pR K mg O H x y/\m_ K mg O H xs r
section
variable{K:aN}{mg:bf}{O:a7}{H:ax}{S:bL}
def pR.rep{v:V}(rh:jr O)(h:Rep K mg O H d v):pR K mg O H d v:=by
 cases d with
 |l xs=>obtain⟨a,b,e,l,r⟩:=h;exact⟨a,b,e,.inl ⟨.inl l.1,rh.no l.2 (by intro z;cases z)⟩,r⟩
 |_=>exact h
def SM{r:R}{v:V}(rh:jr O)(aw:r.h5=true)(h:en K mg O H r v):pR K mg O H r.arg v:=by
 cases r with
 |v d=>exact pR.rep rh h| fr xs=>obtain⟨a,b,e,l,t,r⟩:=h;exact⟨a,b,e,.inl ⟨.inl l,rh.no t (by intro z;cases z)⟩,r⟩
 |cj _=>cases aw
 |mv _=>cases aw
theorem yt(rh:jr O):∀{rs:List R}{vs:List V},rs.all R.h5=true->ja K mg O H rs vs->m_ K mg O H (rs.map R.arg) vs
 |[],_,_,h=>h|_::_,_,aw,h=>by
  rw[aoQ,amI]at aw;obtain⟨y,r,q,a,b⟩:=h;exact⟨y,r,q,SM rh aw.1 a,yt rh aw.2 b⟩
def pR.r{v:V}(h:pR K mg O H d v):vm K mg O H d v:=by
 cases d with
 |l xs=>obtain⟨a,b,e,l,r⟩:=h;exact⟨a,b,e,l.imp (·.1) id,r⟩
 |_=>exact h
theorem m_.r:∀{ds:List D}{vs:List V},m_ K mg O H ds vs->l5 K mg O H ds vs
 |[],_,h=>h| _::_,_,h=>by obtain⟨y,r,q,a,b⟩:=h;exact⟨y,r,q,a.r,m_.r b⟩
theorem m_.get:∀{ds:List D}{xs:List V}{i:Nat}{d:D},m_ K mg O H ds xs->ds[i]? = some d->∃x,xs[i]? = some x/\pR K mg O H d x
 |[],_,_,_,_,e=>by simp at e| _::_,_,0,d,h,e=>by obtain⟨x,r,rfl,a,_⟩:=h;cases(show some _=some d from e);exact⟨x,rfl,a⟩
 |_::ds,_,i+1,d,h,e=>by
  obtain⟨x,r,rfl,_,b⟩:=h;obtain⟨y,ao,aA⟩:=m_.get b e;exact⟨y,by simpa using ao,aA⟩
noncomputable def iq(K:aN)(mg:bf)(mf:d6):ez:=λvs H Q _=>∃O ds r S c,dh O H/\fT K mg O H S/\O.bP.length=S.length/\m_ K mg O H ds vs/\(mf ds).run S=.ok r c/\
 ∀b v a,ey O b H a->dh b a->fT K mg b a c->b.bP.length=c.length->en K mg b a r v->iA H r v->Q v a
def agP{ps N:List Str}{ds:List D}(j:dh O H)(dJ:fT K mg O H S)(g:O.bP.length=S.length)(c:m_ K mg O H ds vs)(hl:ds.length=ps.length):dB K mg (dS O) (ds.map cf++amU (N.length-ps.length) .e) S (aC.start N vs) H:=by
 refine⟨Gl j dJ c.r hl,g,λi xs e=>?_⟩;refine a4 λb=>?_
 by_cases hi:i<ds.length
 .rw[amA (by rw[amh];exact hi),amE]at e
  cases C:ds[i]? with
  |none=>refine b ?_;rw[C]at e;cases e
  |some d=>
   rw[C]at e;obtain⟨v,f,h⟩:=c.get C
   cases d with
   |l m=>
    cases e;obtain⟨a,k,rfl,l,r⟩:=h;refine b ⟨a,k,?_,l.imp (λz=>⟨z.1,lE O a,z.2⟩) id,r.de (j2 O)⟩;unfold aC.start;rw[amA (by rw[amh];exact(nu.mp f).1),amE,f];rfl
   |_=>cases e
 .rw[ams (by rw[amh];omega),anI]at e
  split at e
  .cases e
  .cases e
def Ud{J:b7}{Q:cY}{S1:bL}{r:R}(D:dh O H)(M:dB K mg (dS O) U S I H)(P:(J U).run S=.ok C S1)(h:Bt C r)(q:∀c v f,ey O c H f->dh c f->fT K mg c f S1->c.bP.length=S1.length->en K mg c f r v->iA H r v->Q v f):ob K mg J { bt:=fun _ f=>Q .aP f,cx:=Q } I H:=by
 have back:∀{c:a7}{f:ax},gH (dS O) c H f->dh c f->∃k:a7,ey O k H f/\dh k f/\l9 c k/\∀b,(c b=.dV\/∃i,c b=.loc i)->H b=none/\k b=.dV:=λ{c f} g d=>by
  have F:∀b,H b≠none->(match H b with|some _=>O b|none=>(match c b with|.loc _=>.dV|o=>o))=O b:=λb j=>by
   cases e:H b with
   |none=>exact absurd e j|some o=>rfl
  have A:∀b,H b=none->(match H b with|some _=>O b|none=>(match c b with|.loc _=>.dV|o=>o))=(match c b with|.loc _=>Own.dV|o=>o):=λb j=>by rw[j]
  refine⟨⟨λb=>match H b with|some _=>O b|none=>(match c b with|.loc _=>.dV|o=>o),c.bP⟩,⟨λb o e h n=>g.cells b o e (h.imp (λz=>⟨lE O b,z⟩) id) n,F,g.has,g.cE,g.bW,g.bP,g.new⟩,⟨λb j=>?_,d.tabs,d.rh.1,λb m=>?_⟩,⟨λb j=>?_,rfl⟩,λb j=>?_⟩
  .cases e:H b with
   |some o=>exact g.has b (ip e)|none=>
    refine d.has b λz=>j ?_
    refine(A b e).trans ?_;rw[z]
  .rcases g.new b m with z|z
   .exact(F b (D.has b (by rw[D.rh.2 b z];intro z;cases z))).trans (D.rh.2 b z)
   .refine(A b z).trans ?_
    rw[d.rh.2 b m]
  .cases e:H b with
   |some o=>exact(F b (ip e)).trans (oA.mp ((g.own b (ip e) (lE O b)).symm.trans j))|none=>
    refine(A b e).trans ?_;rw[j]
  .have s:H b=none:=by
    cases e:H b with
    |none=>rfl|some o=>
     exfalso;have bE:=g.own b (ip e) (lE O b);rcases lE O b with z|z<;>rw[z]at bE<;>rcases j with w|⟨i,w⟩<;>rw[bE]at w<;>cases w
   refine⟨s,(A b s).trans ?_⟩;rcases j with w|⟨i,w⟩<;>rw[w]
 refine⟨dS O,_,S,C,S1,M,P,?_⟩
 cases C with
 |bt U'=>
  cases h;intro c dk f g E;obtain⟨k,y,x,p,_⟩:=back g E.s3.cy;exact q k .aP f y x (E.s3.gF.all (λ_ _ z=>Rep.de p z) p.bP λ_ _ _ l _=>l) (by rw[p.bP];exact E.full) rfl trivial
 |bk U'=>cases h
 |cF U'=>cases h
 |cx V=>
  intro c v f g d B N u;obtain⟨k,y,x,p,X⟩:=back g d;have L:=B.all (λ_ _ z=>Rep.de p z) p.bP λ_ _ _ l _=>l
  have G:k.bP.length=S1.length:=by rw[p.bP];exact N
  cases V with
  |v dd=>cases h;exact q k v f y x L G (Rep.de p u) trivial
  |fr xs=>
   cases h;obtain⟨a,Z,rfl,l,t,Y⟩:=u;obtain⟨s,T⟩:=X a t;exact q k _ f y x L G ⟨a,Z,rfl,l,T,Y.de p⟩ λb W=>by cases W;exact s
  |cj xs=>exact amV u|mv xs=>exact amV u
theorem JC{ps N:List Str}(k:iq K mg (fnX ps.length N.length C) vs H Q E):ob K mg C { bt:=λ_ d=>Q .aP d,cx:=Q } (aC.start N vs) H:=by
 refine a4 λf=>?_
 obtain⟨O,ds,r,S,g,b,dJ,c,j,h,q⟩:=k;have hl:=Df h;unfold fnX at h;rw[if_pos hl]at h;obtain⟨a,S1,e,h⟩:=az.N.inv h;obtain⟨l,rfl⟩:Bt a r/\S1=g:=by cases a with|cx i=>cases i<;>cases h<;>exact⟨rfl,rfl⟩|_=>cases h<;>exact⟨rfl,rfl⟩
 exact f (Ud b (agP b dJ c j hl) e l q)
end
structure ya(K:aN)(mg:bf)(c m qual:Str)(st:Stmt)(ps:List Str):Prop where
 ex:∃C f fd,mg c=some (.ref C)/\jm K C/\Meth K C m f/\lj K m qual st f fd/\Binds K fd ps []
structure kq(P:amC)(w:World)(K:aN)(mg:bf)(base:Heap)(c m:Str)(ps:List Str)(k:Nat)(sp:ez):Prop where
 ex:∃C f fd,mg c=some (.ref C)/\jm K C/\Meth K C m f/\fc P w K mg base eR k f fd ps sp/\Binds K fd ps []
section
variable{P:amC}{w:World}{K:aN}{mg:bf}{base:Heap}{x c m qual:Str}{st:Stmt}{ps N:List Str}{k:Nat}{cJ:b7}{n nl:Nat}{f:Addr}{fd:anp}
def Dg(F:lj K x qual st f fd)(b:hI N ps (dr st))(e:ps.length=n)(hl:N.length=nl)
  (g:∀(a:Value)(A:amK)(outer:List Env)(s:amg)(H:ax)(E:gu),cO k (A.deeper (anf qual (dr st) s.heap.objs.size f a))->
   iC (hr eR P w K mg base N qual (dr st) f a A outer s H E).gW (fH st) cJ):fc P w K mg base eR (k+1) f fd ps (iq K mg (fnX n nl cJ)):=by
 subst e hl;exact F.ok b (λvs H Q E ⟨O,ds,r,S,o,p,dJ,l,i,h,q⟩=>i.r.len.trans (Df h)) λa A outer s H vs Q E d j=>⟨_,(g a A outer s H E d).un,JC j⟩
theorem W8(g6:g6 K mg x st ps)(d:hI N ps (dr st))(e:ps.length=n)(hl:N.length=nl)
  (g:∀(f:Addr)(a:Value)(A:amK)(outer:List Env)(s:amg)(H:ax)(E:gu),cO k (A.deeper (anf x (dr st) s.heap.objs.size f a))->
   iC (hr eR P w K mg base N x (dr st) f a A outer s H E).gW (fH st) cJ):g8 P w K mg base x ps (k+1) (iq K mg (fnX n nl cJ)):=by
 obtain⟨f,fd,F,b,m⟩:=g6.ex;exact⟨f,fd,Dg F d e hl (λa=>g f a),b,F.kp,m⟩
theorem W6(g6:ya K mg c m qual st ps)(d:hI N ps (dr st))(e:ps.length=n)(hl:N.length=nl)
  (g:∀(f:Addr)(a:Value)(A:amK)(outer:List Env)(s:amg)(H:ax)(E:gu),cO k (A.deeper (anf qual (dr st) s.heap.objs.size f a))->
   iC (hr eR P w K mg base N qual (dr st) f a A outer s H E).gW (fH st) cJ):kq P w K mg base c m ps (k+1) (iq K mg (fnX n nl cJ)):=by
 obtain⟨C,f,fd,et,cl,me,F,b⟩:=g6.ex;exact⟨C,f,fd,et,cl,me,Dg F d e hl (λa=>g f a),b⟩
theorem W7{cJ:aW}(g6:ya K mg c m qual st ps)(d:hI N ps (dr st))(e:ps.length=n)(hl:N.length=nl)
  (g:∀(f:Addr)(a:Value)(A:amK)(outer:List Env)(s:amg)(H:ax)(E:gu),cO k (A.deeper (anf qual (dr st) s.heap.objs.size f a))->
   vp (hr eR P w K mg base N qual (dr st) f a A outer s H E).gW (fH st) cJ):kq P w K mg base c m ps (k+1) (hg K mg (fnOf n nl cJ)):=by
 obtain⟨C,f,fd,et,cl,me,F,b⟩:=g6.ex;exact⟨C,f,fd,et,cl,me,Mj F d e hl (λa=>g f a),b⟩
end
section
variable{X:aT}{x:Str}{ps:List Str}{k:Nat}{mf:d6}{p pos:Pos}{e:Expr}{aD:List Expr}{ms:j0}{pm:c3}{RK:eo}
theorem ku.dH{O a:a7}(g:ey O a H H'):∀{rs:List R}{vs:List V},ku H' rs vs->ku H rs vs
 |[],_,_=>trivial|_::_,[],_=>trivial|_::_,_::_,h=>⟨h.1.dH g,ku.dH g h.2⟩
theorem aje(o:e7 X e RK)(i:g9 X aD pm)(aw:gg X e aD:=by rfl):p4 X (e::aD) (vd RK pm):=⟨Aq (FJ o.un i.un aw) λy H Q m=>by
 obtain⟨O,U,S,r,w,st,h,q⟩:=m;obtain⟨x,S1,n,h⟩:=N.inv h;obtain⟨xs,u,c,h⟩:=N.inv h;cases h;obtain rfl:=(pm U).eH _ _ _ c;refine⟨O,U,S,x,_,st,n,λj d t f b g bt=>?_⟩;exact⟨j,U,_,xs,_,b.s3,c,λs vs l a bQ rs ns=>q s (d::vs) l (f.trans a.dH) (b.go a bQ.cy) ⟨d,vs,rfl,g.go a,rs⟩ ⟨bt,ns.dH f⟩⟩⟩
def UA:∀b H Q,qW K mg (pM mf ms) b H Q->AL (iq K mg mf) (GS K mg ms) b H Q:=by
 rintro b H Q ⟨O,U,S,r,n,st,h,q⟩;obtain⟨rs,S1,l,h⟩:=N.inv h;split at h
 .rename_i u
  refine⟨O,U,S,rs,S1,st,l,λi vs w c a o nn=>?_⟩;exact⟨i,_,r,S1,n,a.s3.cy,a.s3.gF,a.full,yt a.s3.cy.rh u o,h,λm v f g d dJ j s t=>q m v f (c.trans g) (a.dH g d dJ j) s (t.dH c)⟩
 .cases h
def ajg(h:g8 X.prog X.w X.K X.mg X.base x ps k (iq X.K X.mg mf))(a:cO k X.A)(b:eW X x)(c:p4 X (e::aD) ms)(f:fV x:=by decide)
  (he:gg X e aD:=by rfl) (d:gT X pos aD:=by rfl):e7 X (.Call (.Name x p) (e::aD) [] pos) (pM mf ms):=
 ⟨ef (PH h a b c.un f he d) UA⟩
end
end az
namespace az
open PySem PySem.Spec aC
noncomputable def dI(c m:Str)(mf:bz)(mo:bp)(ms:c3):bp:=λU=>do
 let x <-mo U
 let o <-f_ x
 match o with
 |.a' c' fs=>if c'=c/\fs.lookup m=none then(do
  let rs <-ms U
  mf (x.arg::rs.map R.arg))else bad
 |_=>bad
def AF(x:R)(o:dR):N Unit:=match x with
 |.v (.ref n)=>⟨λS=>.ok () (S.set n o)⟩
 |_=>gm
noncomputable def d0(c f:Str)(mo:bp)(mv:eo):b7:=λU=>do
 let r <-mv U
 let d <-r.dat.up
 let x <-(mo U).up
 let o <-(f_ x).up
 match o with
 |.a' c' fs=>if c'=c/\fs.length<1000 then(do
  AF x (.a' c (il f d fs))
  pure (.bt U))else gm
 |_=>gm
noncomputable def n'(f:List D->List R->M (R×List D))(mo:bp)(ms:c3):b7:=λU=>do
 let x <-(mo U).up
 let rs <-(ms U).up
 let o <-(f_ x).up
 match o with
 |.l xs=>do
  let p <-(f xs rs).up
  AF x (.l p.2)
  pure (.bt U)
 |_=>gm
def l0(m:eo):eo:=λU=>do
 let r <-m U
 match r with
 |.fr xs=>do
  let S <-y9
  putN (S++[.l xs])
  pure (.v (.ref S.length))
 |_=>gm
variable[aC.aY]
def hB(O:a7)(p:Addr):a7:=⟨λb=>if b=p then .out else O b,O.bP++[p]⟩
section
variable{K:aN}{mg:bf}{O ai:a7}{H H':ax}{S aq:bL}{U:aL}{ar:St}{p a:Addr}{o:dR}{n:Nat}{u u':eY}
omit [aC.aY]in
theorem o'(h:b≠p):hB O p b=O b:=if_neg h
omit [aC.aY]in
theorem adD:hB O p p=.out:=if_pos rfl
theorem O6(c:dh O H)(f:p∉O.bP):jr (hB O p):=⟨aoA.mpr ⟨c.rh.1,by simp,λx b y d=>by rintro rfl;rw[amo.mp d]at b;exact f b⟩,λa m=>by
 by_cases e:a=p
 .rw[e];exact adD
 .rw[o' e];exact c.rh.2 a ((amF.mp m).elim id λz=>absurd (amo.mp z) e)⟩
def dh.adS(b:dh O H)(c:H p=none):p∉O.bP:=λm=>b.has p (by rw[b.rh.2 p m];intro z;cases z) c
theorem alloc(i:dh O H)(dJ:fT K mg O H S)(k:O.bP.length=S.length)(q:H p=none)(c:eF H H')(w:H' p≠none)(a':(∀d v,Rep K mg O H d v->Rep K mg (hB O p) H' d v)->om K mg (hB O p) H' p o) :
  ey O (hB O p) H H'/\dh (hB O p) H'/\fT K mg (hB O p) H' (S++[o])/\(hB O p).bP.length=(S++[o]).length:=by
 have g:ey O (hB O p) H H':=⟨λb o e _ n=>c.at' b o e n,λb j=>o' (by rintro rfl;exact j q),λ_ h=>c.some h,c.cE,c.bW,ao6 _ _,λb m=>(amF.mp m).imp id λz=>by rw[amo.mp z];exact q⟩;have f:∀d v,Rep K mg O H d v->Rep K mg (hB O p) H' d v:=λ_ _ z=>Rep.dH g i.rh z
 refine⟨g,⟨λb j=>?_,c.bW i.tabs,O6 i (i.adS q)⟩,λn x e=>?_,by rw[amf,<-k];exact amf⟩
 .by_cases e:b=p
  .rw[e];exact w
  .rw[o' e]at j;exact c.some (i.has b j)
 .by_cases r:n<S.length
  .rw[amA r]at e
   obtain⟨a,s,t⟩:=dJ n x e;exact⟨a,by show(O.bP++[p])[n]? = _;rw[amA (by rw[k];exact r)];exact s,t.all f λu l n=>c.at' _ _ l n⟩
  .rw[ams (by omega)]at e
   obtain rfl:n=S.length:=by
    have:=(nu.mp e).1;simp at this;omega
   rw[anQ]at e;cases e;exact⟨p,by show(O.bP++[p])[S.length]? = _;rw[<-k,ams (amj _),anQ];rfl,a' f⟩
def dB.write(st:dB K mg O U S ar H)(i:O.bP[n]? = some a)(c:H a=some u)(A:¬Fix u)(s:∀ps,u≠.gp ps)(w:∀q,u≠.ext (p8 a q))(a':(∀d v,Rep K mg O H d v->Rep K mg O (upd H a u') d v)->om K mg O (upd H a u') a o) :
  ey O O H (upd H a u')/\dB K mg O U (S.set n o) ar (upd H a u'):=by
 have bW:TabsOk H->TabsOk (upd H a u'):=λt=>t.put u' (λps z=>s ps (amH (c.symm.trans z))) (λq z=>w q (amH (c.symm.trans z)))
 have has:∀b,H b≠none->upd H a u' b≠none:=λb j=>by
  by_cases e:b=a
  .rw[e,d2];intro z;cases z
  .rw[c6 e];exact j
 have g:ey O O H (upd H a u'):=by
  refine⟨λb o e h _=>?_,λ_ _=>rfl,has,λb ps e=>⟨ps,?_⟩,bW,an9 _,λ_ m=>.inl m⟩
  .rw[c6]
   .exact e
   .rintro rfl
    rcases h with h|h
    .exact h (amD i)
    .rw[c]at e;cases e;exact A h
  .rw[c6]
   .exact e
   .rintro rfl;rw[c]at e;cases e;exact s _ rfl
 have f:∀d v,Rep K mg O H d v->Rep K mg O (upd H a u') d v:=λ_ _ z=>Rep.dH g st.s3.cy.rh z
 refine⟨g,st.dH g ⟨λb j=>has b (st.s3.cy.has b j),bW st.s3.cy.tabs,st.s3.cy.rh⟩ (λk x e=>?_) (by rw[amQ];exact st.full)⟩
 by_cases r:n=k
 .subst r
  rw[amx (by have:=(nu.mp e).1;rwa[amQ]at this)]at e;cases e;exact⟨a,i,a' f⟩
 .rw[amk r]at e
  obtain⟨b,ao,aA⟩:=st.s3.gF k x e;refine⟨b,ao,aA.all f λu l _=>?_⟩;rw[c6]
  .exact l
  .rintro rfl
   obtain⟨bE,bZ⟩:=nu.mp ao;obtain⟨B,y⟩:=nu.mp i;exact r ((List.getElem_inj st.s3.cy.rh.1).mp (y.trans bZ.symm))
theorem ja.dH(g:ey O ai H H')(rh:jr O):∀{rs:List R}{vs:List V},rs.all R.h5=true->ja K mg O H rs vs->ja K mg ai H' rs vs
 |[],_,_,h=>h|_::_,_,aw,h=>by
  rw[aoQ,amI]at aw;obtain⟨y,r,q,a,b⟩:=h;exact⟨y,r,q,a.dH g rh aw.1,ja.dH g rh aw.2 b⟩
def uH{r:R}{v:V}(st:cS K mg O U S ar H)(f:en K mg O H r v)(h:(f_ r).run S=.ok o aq):∃n a,r=.v (.ref n)/\v=.ref a/\O.bP[n]? = some a/\S[n]? = some o/\om K mg O H a o:=by
 refine a4 λg=>?_
 obtain⟨n,rfl,e,rfl⟩:=Pe h;obtain⟨a,d,j⟩:=st.gF n o e;obtain⟨b,i,c⟩:=f;rw[d]at c;cases c;exact g ⟨n,a,rfl,i,d,e,j⟩
theorem fE.EO:∀{I:List (Str×D)}{C:List (Str×V)},fE K mg O H I C->I.lookup f=none->C.lookup f=none
 |[],C,h,e=>by obtain rfl:=h.Fi;rfl
 |p::I,C,h,e=>by
  obtain⟨q,r,rfl,ao,aA,h'⟩:=h.cons;obtain⟨p1,cz⟩:=p;obtain⟨bE,bZ⟩:=q;cases(show p1=bE from ao);rw[amy]at e ⊢
  cases cX:f==p1 with
  |true=>rw[cX]at e;cases e
  |false=>rw[cX]at e;exact fE.EO h' e
end
def AM(mg:bf)(c m:Str)(sp:ez)(f:TE)(t:gf):TE:=λU H Q=>f U H λx b=>∃a C e fs,x=.ref a/\mg c=some (.ref C)/\b a=some (.ins C e fs)/\fs.lookup m=none/\t U b λvs d=>sp (x::vs) d Q jU
def BN(t:TE):Prop:=∀U H Q b,(∀v a,Q v a->b v a)->t U H Q->t U H b
def u_:BN (gG K mg m):=λd H Q e i ⟨O,U,S,x,c,st,h,q⟩=>⟨O,U,S,x,c,st,h,λb v a g s p n=>i _ _ (q b v a g s p n)⟩
section
variable{X:aT}{c m:Str}{ps:List Str}{k:Nat}{sp:ez}{o e:Expr}{aD:List Expr}{cg:TE}{t:gf}{apos pos:Pos}{mf:d6}{sm:bz}{mo:bp}{pm:c3}{ms:j0}
def PI{pl:Sem Bool}(h:kq X.prog X.w X.K X.mg X.base c m ps k sp)(i:cO k X.A)(up:BN cg)(he:b3 X o cg)(l:ho X (e::aD) t)
  (u:gg X e aD:=by rfl) (r:gT X pos aD:=by rfl)
  (n:p5 X pl o m apos (e::aD) pos:=by rfl) :
  b3 X (.Call (.Attribute o m apos) (e::aD) [] pos) (AM X.mg c m sp cg t):=by
 refine a4 λd=>?_
 obtain⟨C,f,y,et,cl,me,F,b⟩:=h.ex;refine d ?_;refine ef (ae9 he cl me F i b .nil uN l u r n) λU H Q j=>up _ _ _ _ (λv x z=>?_) j
 refine a4 λd=>?_
 obtain⟨a,B,p,fs,s,g,q,hl,z⟩:=z;rw[et]at g;cases g;refine d ⟨a,p,fs,s,q,hl,?_⟩;simpa only[am8]using z
def PJ{pl:Sem Bool}(h:kq X.prog X.w X.K X.mg X.base c m ps k sp)(i:cO k X.A)(up:BN cg)(he:b3 X o cg)
  (l:p5 X pl o m apos [] pos:=by rfl) :
  b3 X (.Call (.Attribute o m apos) [] [] pos) (AM X.mg c m sp cg xR):=by
 refine a4 λd=>?_
 obtain⟨C,f,s,et,cl,me,F,b⟩:=h.ex;refine d ?_;refine ef (afa he cl me F i b .nil uN l) λU H Q j=>up _ _ _ _ (λv r z=>?_) j
 refine a4 λd=>?_
 obtain⟨a,u,n,fs,q,g,p,hl,z⟩:=z;rw[et]at g;cases g;exact d ⟨a,n,fs,q,p,hl,z⟩
def OS:∀f H Q,gG K mg (dI c m sm mo pm) f H Q->AM mg c m (hg K mg sm) (gG K mg mo) (qN K mg pm) f H Q:=by
 rintro f H Q ⟨O,U,S,r,A,st,h,q⟩;refine a4 λb=>?_
 obtain⟨x,S1,y,T⟩:=M.inv h;clear h;refine b ⟨O,U,S,x,S1,st,y,λw fC H1 s l j bt=>?_⟩;refine a4 λb=>?_
 obtain⟨a',aQ,p,h⟩:=M.inv T;obtain⟨n,a,rfl,rfl,ra,jN,P⟩:=uH l j p;obtain rfl:=(f_ (.v (.ref n))).eH _ _ _ p;split at h
 .rename_i c' fs
  split at h
  .rename_i W
   obtain⟨rfl,Y⟩:=W;obtain⟨rs,V,B,h⟩:=M.inv h;obtain⟨C,G,Z,L,J,I⟩:=P;refine b ⟨a,C,G,Z,rfl,J.1,L,I.EO Y,w,U,_,rs,V,l,B,λE vs aK i bQ D nn=>?_⟩;obtain rfl:=(sm _).eH _ _ _ h;exact⟨E,.ref n::rs.map R.arg,r,A,bQ.cy,bQ.gF,⟨_,_,rfl,Hx (en.go i j),BY D⟩,h,λz v u g d F N=>q z v u ((s.trans i).trans g) (bQ.go g d) F (N.back (s.trans i).same)⟩
  .cases h
 .cases h
def air{pl:Sem Bool}(h:kq X.prog X.w X.K X.mg X.base c m ps k (hg X.K X.mg sm))(a:cO k X.A)(he:ba X o mo)(b:g9 X (e::aD) pm)
  (g:gg X e aD:=by rfl) (f:gT X pos aD:=by rfl)
  (d:p5 X pl o m apos (e::aD) pos:=by rfl):ba X (.Call (.Attribute o m apos) (e::aD) [] pos) (dI c m sm mo pm):=
 ⟨ef (PI h a u_ he.un b.un g f d) OS⟩
def ais{pl:Sem Bool}(h:kq X.prog X.w X.K X.mg X.base c m ps k (hg X.K X.mg sm))(d:cO k X.A)(he:ba X o mo)
  (j:p5 X pl o m apos [] pos:=by rfl):ba X (.Call (.Attribute o m apos) [] [] pos) (dI c m sm mo cQ):=
 ⟨ef (PJ h d u_ he.un j) λn H Q f=>u_ _ _ _ _ (λv b z=>by
  refine a4 λi=>?_
  obtain⟨a,C,l,fs,ao,aA,bK,cR,O,U,S,rs,S1,st,g,q⟩:=z;cases g;exact i ⟨a,C,l,fs,ao,aA,bK,cR,q O [] b (Go.refl _ _) st rfl trivial⟩) (OS _ _ _ f)⟩
def OR:∀i H Q,qW K mg (eJ c m mf mo ms) i H Q->AM mg c m (iq K mg mf) (gG K mg mo) (GS K mg ms) i H Q:=by
 rintro i H Q ⟨O,U,S,r,E,st,h,q⟩;refine a4 λf=>?_
 obtain⟨x,S1,p,Z⟩:=N.inv h;clear h;obtain rfl:=(mo U).eH _ _ _ p;refine f ⟨O,U,S1,x,S1,st.s3,p,λA fC H1 u b l bt=>?_⟩;refine a4 λf=>?_
 obtain⟨a',aQ,s,h⟩:=N.inv Z;obtain⟨n,a,rfl,rfl,ra,jN,W⟩:=uH b l s;obtain rfl:=(f_ (.v (.ref n))).eH _ _ _ s;split at h
 .rename_i c' fs
  split at h
  .rename_i I
   obtain⟨rfl,hm⟩:=I;obtain⟨rs,y,F,h⟩:=N.inv h;obtain⟨C,M,kG,T,P,pk⟩:=W;split at h
   .rename_i Y
    refine f ⟨a,C,M,kG,rfl,P.1,T,pk.EO hm,A,U,_,rs,y,(st.go u b.cy),F,λJ vs aK w bQ G nn=>?_⟩;have j:=u.dH.trans w;exact⟨J,.ref n::rs.map R.arg,r,y,E,bQ.s3.cy,bQ.s3.gF,bQ.full,⟨_,_,rfl,Rep.dH w b.cy.rh l,yt bQ.s3.cy.rh Y G⟩,h,λD v z g d dJ B L V=>q D v z (j.trans g) (bQ.dH g d dJ B) L (V.dH j)⟩
   .cases h
  .cases h
 .cases h
def ajj{pl:Sem Bool}(h:kq X.prog X.w X.K X.mg X.base c m ps k (iq X.K X.mg mf))(a:cO k X.A)(he:ba X o mo)(b:p4 X (e::aD) ms)
  (g:gg X e aD:=by rfl) (f:gT X pos aD:=by rfl)
  (d:p5 X pl o m apos (e::aD) pos:=by rfl):e7 X (.Call (.Attribute o m apos) (e::aD) [] pos) (eJ c m mf mo ms):=
 ⟨ef (PI h a u_ he.un b.un g f d) OR⟩
def ajk{pl:Sem Bool}(h:kq X.prog X.w X.K X.mg X.base c m ps k (iq X.K X.mg mf))(d:cO k X.A)(he:ba X o mo)
  (j:p5 X pl o m apos [] pos:=by rfl):e7 X (.Call (.Attribute o m apos) [] [] pos) (eJ c m mf mo qU):=
 ⟨ef (PJ h d u_ he.un j) λn H Q f=>u_ _ _ _ _ (λv b z=>by
  refine a4 λi=>?_
  obtain⟨a,C,l,fs,ao,aA,bK,cR,O,U,S,rs,S1,st,g,q⟩:=z;cases g;exact i ⟨a,C,l,fs,ao,aA,bK,cR,q O [] b (Go.refl _ _).dH st rfl trivial⟩) (OR _ _ _ f)⟩
theorem RO{fs:List Str}{p:Pos}(T:nc X.K X.mg c fs)(h:kq X.prog X.w X.K X.mg X.base c "__init__" ps k (iq X.K X.mg mf))(W:cO (k+1) X.A)(Z:eW X c)(l:p4 X (e::aD) ms)(er:fV c:=by decide)
  (he:gg X e aD:=by rfl) (e_:gT X pos aD:=by rfl):e7 X (.Call (.Name c p) (e::aD) [] pos) (pN c mf ms):=by
 refine a4 λi=>?_
 obtain⟨C,f,fd,et,cl,me,F,b⟩:=h.ex;obtain⟨iJ,L,_,⟨mk,kp⟩,_⟩:=T.ex;rw[et]at L;cases L;refine i ⟨ef (ae8 ⟨mk,me.at_,me.fn,kp⟩ F W Z et b .nil uN l.un er he e_) λar H Q I=>?_⟩;refine a4 λi=>?_
 obtain⟨O,U,S,r,aq,st,h,q⟩:=I;obtain⟨rs,S1,ae,D⟩:=N.inv h;refine i ⟨O,U,S,rs,S1,st,ae,λs vs E g1 j bF nn a x l V u=>?_⟩;refine a4 λi=>?_
 split at D
 .rename_i J
  obtain⟨vE,aQ,ag,aa⟩:=N.inv D;cases ag;obtain⟨_,hL,bA,hc⟩:=N.inv aa;cases bA;obtain⟨b1,nk,bX,h⟩:=N.inv hc;have pw:eF E (upd (upd E x (.own a)) a (.ins C x [])):=(sv V _).trans (sv (by rw[c6 (an4 u)];exact l) _);obtain⟨B,y,M,G⟩:=alloc (o:=.a' c []) j.s3.cy j.s3.gF j.full l pw (by rw[d2];intro z;cases z) λ_=>⟨C,x,[],d2,⟨et,cl⟩,rfl,rfl⟩
  refine i ?_;rw[am8];have n:(hB s a).bP[S1.length]? = some a:=by show(s.bP++[a])[S1.length]? = _;rw[<-j.full,ams (amj _),anQ];rfl
  refine⟨hB s a,.ref S1.length::rs.map R.arg,b1,_,nk,y,M,G,⟨_,_,rfl,⟨a,rfl,n⟩,?_⟩,bX,λai v P g d dJ Y bw eu=>?_⟩
  .exact yt y.rh J (ja.dH B j.s3.cy.rh J bF)
  .refine a4 λi=>?_
   split at h
   .cases h
    refine i ⟨bw,q ai _ P ((g1.trans B).trans g) ((j.dH B y M G).dH g d dJ Y) ⟨a,rfl,?_⟩ trivial⟩;obtain⟨t,e⟩:=g.bP;rw[<-e,amA (nu.mp n).1];exact n
   .cases h
 .cases D
end
end az
namespace az
open PySem PySem.Spec aC PyProof.Rows
@[reducible] def Eh:aqQ where
 α:=Int
 blt a b:=decide (a<b)
 irrefl a:=by simp
 trans a b c C I:=by simp only[decide_eq_true_eq]at *;omega
 negTrans a b c h:=by simp only[decide_eq_true_eq]at *;omega
 total a b C I:=by simp only[decide_eq_false_iff_not]at *;omega
 keyOf v:=match v with|.int i _=>some i|_=>none
 dflt:=0
def ZZ:Eh.OneLt:=by
 intro prog w A E s x y a b Q d c h;cases x<;>simp only[ reduceCtorEq]at d
 cases y<;>simp only[ reduceCtorEq]at c
 cases d;cases c;exact oneLt_int h
structure i' where
 κ:aqQ
 kd:κ.α->D
 un:D->Option κ.α
structure i'.Ok(Z:i'):Prop where
 one:Z.κ.OneLt
 u9:∀d a,Z.un d=some a->d=Z.kd a
 key:∀(a:Z.κ.α)(K:aN)(mg:bf)(O:a7)(H:ax)(v:V)(u:Value),Rep K mg O H (Z.kd a) v->RelV v u->Z.κ.keyOf u=some a
 kind:∀(sG sH:Value)(vs:List Value),(∀v∈sG::sH::vs,∃a,Z.κ.keyOf v=some a)->keyKind' (sG::sH::vs).toArray=pure oneType'
@[reducible] def fy:i' where
 κ:=Eh
 kd:=D.int
 un d:=match d with|.int i=>some i|_=>none
@[reducible] def mI:i' where
 κ:=aqR
 kd:=λl=>D.str ⟨l.toArray⟩
 un d:=match d with|.str x=>some x.cps.toList|_=>none
def aaU:fy.Ok where
 one:=ZZ
 u9:=λd a h=>by cases d<;>first|(cases h;rfl)|cases h
 key:=λa K mg O H v u h r=>by
  cases(show v=.int a from h);obtain⟨t,rfl⟩:=r;rfl
 kind:=λe f vs h=>by
  refine keyKind_ints (intsAre_map _ λv c=>?_);obtain⟨a,b⟩:=h v c;cases v<;>first|(exact⟨_,_,rfl⟩)|cases b
def aaV:mI.Ok where
 one:=strKind_oneLt
 u9:=λd a h=>by cases d<;>first|(cases h;rfl)|cases h
 key:=λa K mg O H v u h r=>by
  cases(show v=.str ⟨a.toArray⟩from h);obtain⟨t,rfl⟩:=r;rfl
 kind:=λe f vs h=>by
  have key:∀(l:List Value),(∀v∈l,∃a,aqR.keyOf v=some a)->∃ss,StrsAre l ss:=λl=>by
   induction l with
   |nil=>exact λ_=>⟨[],.nil⟩
   |cons v l b=>
    intro h;obtain⟨ss,aw⟩:=b λw hw=>h w (amr _ hw)
    obtain⟨a,c⟩:=h v amu;cases v<;>first|exact⟨_::ss,.cons _ _ aw⟩|cases c
  obtain⟨ss,aw⟩:=key _ h;exact keyKind_strs aw
section
variable{β:Type}
def tR(blt:β->β->Bool)(p:β×D):List (β×D)->List (β×D)
 |[]=>[p]
 |q::r=>if blt q.1 p.1 then q::tR blt p r else p::q::r
def ki(blt:β->β->Bool):List (β×D)->List (β×D)
 |[]=>[]
 |p::r=>tR blt p (ki blt r)
theorem Ef(blt:β->β->Bool)(p:β×D):∀l,(tR blt p l).Perm (p::l)
 |[]=>.refl _|q::r=>by
  unfold tR;split
  .exact((Ef blt p r).cons q).trans (.swap p q r)
  .exact .refl _
theorem AG(blt:β->β->Bool):∀l,(ki blt l).Perm l
 |[]=>.refl _|p::r=>(Ef blt p _).trans ((AG blt r).cons p)
end
theorem NC(O:anL)(p:O.α×D):∀l:List (O.α×D),l.Pairwise (λa b=>O.blt a.1 b.1=true)->(∀q∈l,q.1≠p.1)->(tR O.blt p l).Pairwise (λa b=>O.blt a.1 b.1=true)
 |[],_,_=>List.pairwise_singleton _ _|q::r,h,C=>by
  rw[anV]at h;unfold tR
  cases e:O.blt q.1 p.1 with
  |true=>
   rw[if_pos rfl,anV];refine⟨λx c=>?_,NC O p r h.2 λx c=>C x (amr _ c)⟩;rcases amw.mp ((Ef O.blt p r).mem_iff.mp c)with rfl|c
   .exact e
   .exact h.1 x c
  |false=>
   rw[if_neg amm,anV,anV];have d:O.blt p.1 q.1=true:=by
    cases aA:O.blt p.1 q.1 with
    |true=>rfl|false=>exact absurd (O.total _ _ e aA) (C q amu)
   refine⟨λx c=>?_,h.1,h.2⟩;rcases amw.mp c with rfl|c
   .exact d
   .exact O.trans _ _ _ d (h.1 x c)
theorem Gf(O:anL):∀l:List (O.α×D),(l.map (·.1)).Nodup->(ki O.blt l).Pairwise (λa b=>O.blt a.1 b.1=true)
 |[],_=>.nil|p::r,h=>by
  rw[amt,ane]at h;refine NC O p _ (Gf O r h.2) λq c e=>h.1 ?_
  rw[<-e];exact aop ((AG O.blt r).mem_iff.mp c)
theorem Qt{f:Type}{lt:f->f->Prop}(g:∀a,¬lt a a)(i:∀a b c,lt a b->lt b c->lt a c):∀{d l₂:List f},d.Perm l₂->d.Pairwise lt->l₂.Pairwise lt->d=l₂
 |[],l₂,p,_,_=>(List.nil_perm.mp p).symm|a::d,[],p,_,_=>(List.nil_perm.mp p.symm)
 |a::d,b::l₂,p,C,I=>by
  rw[anV]at C I;have e:a=b:=by
   rcases amw.mp (p.mem_iff.mp amu)with h|h
   .exact h
   .rcases amw.mp (p.mem_iff.mpr amu)with h'|h'
    .exact h'.symm
    .exact(g _ (i _ _ _ (C.1 b h') (I.1 a h))).elim
  subst e;rw[Qt g i (List.Perm.cons_inv p) C.2 I.2]
def Gg(O:anL){l ps:List (O.α×D)}(d:(l.map (·.1)).Nodup)(e:ps.Perm l)(aw:ps.Pairwise (λa b=>O.blt a.1 b.1=true)):ps=ki O.blt l:=
 Qt (lt:=λa b=>O.blt a.1 b.1=true) (λa=>by rw[O.irrefl];exact amm) (λa b c=>O.trans _ _ _) (e.trans (AG O.blt l).symm) aw (Gf O l d)
def agU(O:anL){ps:List (O.α×D)}(c:(ps.map (·.1)).Nodup)(h:ps.Pairwise (λa b=>O.blt b.1 a.1=false)):ps.Pairwise (λa b=>O.blt a.1 b.1=true):=by
 induction ps with
 |nil=>exact .nil|cons p r g=>
  rw[amt,ane]at c;rw[anV]at h ⊢;refine⟨λq d=>?_,g c.2 h.2⟩
  cases e:O.blt p.1 q.1 with
  |true=>rfl| false=>exact absurd (aop (f:=λx:O.α×D=>x.1) d) (by rw[<-O.total _ _ e (h.1 q d)];exact c.1)
end az
namespace az
open PySem PySem.Spec aC PyProof.Rows
variable[aC.aY]
def oi(X:aT)(k:Nat)(f:Addr)(G:ax->Prop)(mf:bz):Prop:=
 (∀H a,eF H a->G H->G a)/\(∀H p b o,H p=some (.l b)->G H->G (upd H p o))/\∀(A:amK)(s:amg)(H:ax)(u:Value)(v:V)(Q:cY),cO k A->lh X.prog X.w X.K X.mg X.base A X.stack s H->G H->RelV v u->hg X.K X.mg mf [v] H Q jU->
  aoT (model X.prog X.w) A (.call (.ref f) ⟨[u],[]⟩) (G7 eR X.stack X.prog X.w H s Q jU) s
def lstP(a:Addr)(e:Nat):Heap->Prop:=λh=>h.get? a=some (anv "list" #[] e)
structure q1(X:aT)(af:c4)(U:aC.St)(G:ax->Prop)(O:a7)(H:ax)(a df:Addr)(ao:Nat)(bT:List D)(s':amg):Prop where
 ex:∃ai H' ys,Inv X af U H' s'/\Go O ai H H'/\dh ai H'/\G H'/\H' a=some (.ext (lstP a ao))/\H' df=some (.l ys)/\bg X.K X.mg ai H' bT ys/\ai df=.dV
 na:a∉O.bP
section
variable{X:aT}{af:c4}{U:aC.St}{H:ax}{s:amg}{G:ax->Prop}{mf:bz}{f a df:Addr}{k:Nat}{O:a7}{ao:Nat}
def abB{h:Heap}(e:h.get? a=some (anv "list" #[] ao)):h_ prog w H h a (.ext (lstP a ao)):=
 ⟨e,⟨_,e⟩,λb c p q=>q _ p⟩
def Mc{b:ax}(I:Inv X af U b s')(d:b a=some (.ext (lstP a ao)))(q:Str):b a≠some (.ext (p8 a q)):=λz=>by
 obtain⟨p,_⟩:=I.ct a _ d;obtain⟨cz,_⟩:=I.ct a _ z;obtain⟨c,o,vs,t,ao,aA,bK,_⟩:=cz;cases ao;rw[p]at aA;cases aA;cases bK
def aaO{p:List D}{v:V}(J:oi X k f G mf)(M:cO k X.A.in1.in1)(mA:H a=none)(mC:H df=none)(oR:df≠a)(cb:Rep X.K X.mg O H d v)(eI:RelV v u)(hd:(mf [d]).run []=.ok (.v C) [])(tL:p.length<64)(S:q1 X af U G O H a df ao p s') :
  wpAny (model X.prog X.w) X.A.in1.in1 (call (.ref f) [u]) (λu' s2=>∃(c:a7)(b:ax)(n:List V)(i:V),Inv X af U b s2/\Go O c H b/\dh c b/\G b/\b a=some (.ext (lstP a ao))/\b df=some (.l n)/\bg X.K X.mg c b p n/\Rep X.K X.mg c b C i/\RelV i u'/\c df=.dV) (λ_ _=>False) s':=by
 refine a4 λh=>?_
 obtain⟨y,t,n,E,F,e1,L,Q,B,ra,dE⟩:=S.ex;refine h ?_;refine wpAny_call (aoF (J.2.2 X.A.in1.in1 s' t u v (λi b=>∃c,Go y c t b/\dh c b/\Rep X.K X.mg c b C i) M E.yV.in1.in1 L eI ?_) λr s2 m=>?_)
 .refine⟨y,[d],.v C,[],e1,fT.nil,⟨v,[],rfl,?_,rfl⟩,hd,λc i b g Z T _=>⟨c,g,Z,T⟩⟩
  have o:=cb.go F;cases d<;>first|exact o|exact amV o|skip
  refine a4 λh=>?_
  obtain⟨x,zs,q,l,r⟩:=o;exact h ⟨x,zs,q,l.cT,r⟩
 .refine a4 λh=>?_
  cases r with
  |error e=>exact h (amV m)|ok N=>
   cases N with
   |ret u'=>
    obtain⟨i,P,I,W,Y,j,dz,R⟩:=E.after m;exact h ⟨Y,P,n,i,I,F.trans j,dz,J.1 _ _ j.same L,j.same.at' _ _ Q,j.same.at' _ _ B,ra.go j,R,W,(j.own df (by rw[B];intro z;cases z)).trans dE⟩
   |next=>exact h (amV m)
   |brk=>exact h (amV m)|cont=>exact h (amV m)
def agK{Z:i'}(nO:Z.Ok){ds:List D}{g:List Z.κ.α}{xs:List V}{us:List Value}{P:Fin->amg->Prop}{E:dv}(gy:oi X k f G mf)(aE:cO k X.A.in1.in1)(mA:H a=none)(mC:H df=none)(oR:df≠a)
  (ra:bg X.K X.mg O H ds xs) (I:Vals xs us) (tL:∀(i:Nat)(d:D),ds[i]? = some d->∃κ,g[i]? = some κ/\(mf [d]).run []=.ok (.v (Z.kd κ)) []) (hlen:g.length=ds.length) (oN:ds.length<64) (S:q1 X af U G O H a df ao [] s)
  (fin:∀(B:amg)(keys:Array Value),q1 X af U G O H a df ao (g.map Z.kd) B->keys.toList.map Z.κ.keyOf=g.map some->wpAny (model X.prog X.w) X.A.in1.in1 (ksk_end a false us.toArray ao (.ref df) keys) P E B) :
  wpAny (model X.prog X.w) X.A.in1.in1 (ksk_rest a (.ref f) false us.toArray ao (.ref df)) P E s:=by
 have alS:=ra.len;have ER:=I.length;refine mN (apA ?_)
 first
  |rw[List.forIn_toArray]
  |(rw[<-aot])
  |rw[<-aot]
 refine mN (ksk_fold (λi B=>q1 X af U G O H a df ao ((g.take i).map Z.kd) B) us 0 s S ?step ?done)
 case step=>
  intro j u B cv x;simp only[an2]at x ⊢;have bq:=(nu.mp cv).1;obtain⟨v,F,eI⟩:∃v,xs[j]? = some v/\RelV v u:=by
   have F:xs[j]? = some xs[j]:=amB (by omega);obtain⟨u',zp,r⟩:=I.get F;rw[cv]at zp;cases zp;exact⟨_,F,r⟩
  obtain⟨d,hd,cb⟩:=ra.Mv F;obtain⟨κ,ZN,hm⟩:=tL j d hd;have hz:((g.take j).map Z.kd).length<64:=by rw[amh,anj];omega
  refine mN (wpAny_attempt (anc (aaO gy aE mA mC oR cb eI hm hz x) (λu' s2 he=>?_) λ_ _ oP=>oP.elim));obtain⟨Y,R,q,fq,J,L,dz,C,wj,p,N,T,W,Q⟩:=he;obtain⟨hsz,c,n,m,M⟩:=J.ct df _ p;have Y_:c.length=(g.take j).length:=by rw[<-m.length,N.len,amh]
  have alA:c.length<64:=by rw[Y_,anj];omega
  obtain⟨ak,j7⟩:∃ak,(s2.heap.update df (amO (·.push u'))).get? df=some (anv "list" (c.toArray.push u') ak):=⟨_,aou M (·.push u')⟩;refine mN (ap4 M rfl ?_ (by rw[amn,amS];omega) (amN (ao3 (Array.size_push ..)) (by rw[amn,amS];omega)));refine aml ⟨rfl,⟨⟨Y,upd R df (.l (q++[fq])),q++[fq],?_,⟨xZ mC L.same p _,L.own,L.bP⟩,dz.eQ p,gy.2.1 _ _ _ _ p C,by rw[c6 oR.symm];exact wj,d2,?_,Q⟩,x.na⟩⟩
  .refine J.write (by rw[p];trivial) (.inl rfl) (λb o aa e=>((anr s2.heap df (amO (·.push u'))).2 b aa).trans e) ⟨_,j7⟩ ⟨?_,c++[u'],ak,m.append (.cons W .nil),?_⟩
   .rw[amf,m.length];rw[amS];simp;omega
   .rw[j7];simp
  .have gU:g.take (j+1)=g.take j++[κ]:=by rw[apd,ZN];rfl
   rw[gU,ant];exact(N.append (.one T)).eQ (by rw[Q];intro z;cases z) p
 case done=>
  intro B x;have bK:g.take (0+us.length)=g:=anw (by omega);rw[bK]at x;obtain⟨Y,R,q,J,L,dz,C,wj,p,N,Q⟩:=id x.ex;obtain⟨hsz,c,n,m,M⟩:=J.ct df _ p;refine mN (listItems_at M rfl ?_);refine fin B c.toArray x ?_;have key:∀(g:List Z.κ.α)(q:List V)(c:List Value),bg X.K X.mg Y R (g.map Z.kd) q->Vals q c->c.map Z.κ.keyOf=g.map some:=by
   intro g
   induction g with
   |nil=>intro q c h r;cases h;cases r;rfl
   |cons κ g aV=>
    intro q c h r;obtain⟨y,t,rfl,ae,ag⟩:=h
    cases r with
    |cons bN b1=>
     rw[amt,amt,aV _ _ ag b1,nO.key κ _ _ _ _ _ _ ae bN]
  exact key _ _ _ N m
end
end az
namespace az
open PySem PySem.Spec aC PyProof.Rows
def afj{α b:Type}(f:α->b):∀{L M:List b},L.Perm M->∀{Q:List α},M=Q.map f->∃a:List α,a.Perm Q/\L=a.map f:=by
 intro L M h
 induction h with
 |nil=>
  intro Q e
  cases Q with
  |nil=>exact⟨[],.refl _,rfl⟩|cons q Q=>cases e
 |cons x _ d=>
  intro Q e
  cases Q with
  |nil=>cases e
  |cons q Q=>
   rw[amt]at e;injection e with ao aA
   obtain⟨a,p,bK⟩:=d aA;exact⟨q::a,p.cons q,by rw[ao,bK];rfl⟩
 |swap x y l=>
  intro Q e
  cases Q with
  |nil=>cases e
  |cons q Q=>
   cases Q with
   |nil=>rw[amt]at e;injection e with _ aA;cases aA
   |cons r Q=>
    rw[amt,amt]at e;injection e with ao aA
    injection aA with aA bK
    exact⟨r::q::Q,.swap _ _ _,by rw[ao,aA,bK];rfl⟩
 |trans _ _ i j=>
  intro Q e;obtain⟨g,p1,ao⟩:=j e;obtain⟨c,cz,aA⟩:=i ao;exact⟨c,cz.trans p1,aA⟩
variable[aC.aY]
abbrev yk(Z:i'):=(Value×Value)×(Z.κ.α×(D×V))
section
variable{K:aN}{mg:bf}{O:a7}{H:ax}{Z:i'}
def afU{ds:List D}:∀{xs:List V}{us keys:List Value}{a:List Z.κ.α},bg K mg O H ds xs->Vals xs us->keys.map Z.κ.keyOf=a.map some->a.length=ds.length->
  ∃Q:List (yk Z),Q.map (·.1)=keys.zip us/\Q.map (λq=>(q.2.1,q.2.2.1))=a.zip ds/\∀q∈Q,Z.κ.keyOf q.1.1=some q.2.1/\Rep K mg O H q.2.2.1 q.2.2.2/\RelV q.2.2.2 q.1.2:=by
 induction ds with
 |nil=>
  intro xs us keys a h r e l;cases h;cases r;rw[anJ.mp l]at e ⊢;have:keys=[]:=by cases keys with|nil=>rfl|cons=>cases e
  subst this;exact⟨[],rfl,rfl,λ_ h=>(nomatch h)⟩
 |cons d ds f=>
  intro xs us keys a h r e l;refine a4 λb=>?_
  obtain⟨x,t,rfl,g,i⟩:=h
  cases r with
  |@cons _ u _ us k j=>
   cases a with
   |nil=>cases l
   |cons κ a=>
    cases keys with
    |nil=>cases e
    |cons n keys=>
     rw[amt,amt]at e;injection e with ao aA
     obtain⟨Q,bE,bZ,m⟩:=f i j aA (by simpa using l);refine b ⟨((n,u),(κ,(d,x)))::Q,?_,?_,λq c=>?_⟩
     .rw[amt,bE];rfl
     .rw[amt,bZ];rfl
     .refine a4 λb=>?_
      rcases amw.mp c with rfl|c
      .exact b ⟨ao,g,k⟩
      .exact b (m q c)
theorem Qp{α:Type}(f:α->D)(g:α->V):∀l:List α,(∀q∈l,Rep K mg O H (f q) (g q))->bg K mg O H (l.map f) (l.map g)
 |[],_=>rfl|q::l,h=>⟨_,_,rfl,h q amu,Qp f g l λx a=>h x (amr _ a)⟩
omit [aC.aY]in
theorem Ri{α:Type}(f:α->V)(g:α->Value):∀l:List α,(∀q∈l,RelV (f q) (g q))->Vals (l.map f) (l.map g)
 |[],_=>.nil|q::l,h=>.cons (h q amu) (Ri f g l λx a=>h x (amr _ a))
def sorted_out{ds:List D}{xs:List V}{us:List Value}{keys:Array Value}{f:List Z.κ.α}(J:bg K mg O H ds xs)(B:Vals xs us)(A:keys.toList.map Z.κ.keyOf=f.map some)(hl:f.length=ds.length)(u:f.Nodup)
  {c:Array Keyed}(z:c.Perm (keys.zip us.toArray)) (aw:SortedToK Z.κ c c.size) :
  ∃r,Vals r (c.map (·.2)).toList/\r.length=ds.length/\bg K mg O H ((ki Z.κ.blt (f.zip ds)).map (·.2)) r:=by
 obtain⟨Q,bE,bZ,F⟩:=afU J B A hl;have x:c.toList.Perm (Q.map (·.1)):=by
  rw[bE,<-ksk_zip];exact Array.perm_iff_toList_perm.mp z
 obtain⟨d,n,l⟩:=afj (λq:yk Z=>q.1) x rfl;have h:∀q∈d,Z.κ.keyOf q.1.1=some q.2.1/\Rep K mg O H q.2.2.1 q.2.2.2/\RelV q.2.2.2 q.1.2:=λq g=>F q (n.mem_iff.mp g)
 have w:(f.zip ds).map (·.1)=f:=by rw[List.map_fst_zip];omega
 have e:(d.map λq=>(q.2.1,q.2.2.1)).Perm (f.zip ds):=by rw[<-bZ];exact n.map _
 have gC:((d.map λq:yk Z=>(q.2.1,q.2.2.1)).map (·.1)).Nodup:=by
  have:=e.map (λp:Z.κ.α×D=>p.1);rw[w]at this;exact this.nodup_iff.mpr u
 have k:(d.map λq:yk Z=>(q.2.1,q.2.2.1)).Pairwise (λa b=>Z.κ.blt b.1 a.1=false):=by
  rw[aoB,List.pairwise_iff_getElem];intro i j hi E y;have t:c.toList.length=d.length:=by rw[l,amh]
  have G:i<c.size:=by rw[am0]at t;omega
  have s:j<c.size:=by rw[am0]at t;omega
  have:=aw i j (anM y) s;have at':∀(m:Nat)(o:m<d.length)(L:m<c.size),KK Z.κ c m=d[m].2.1:=λm o L=>by
   have ao:c[m]? = some d[m].1:=by
    have:c.toList[m]? = some d[m].1:=by rw[l,amE,amB o];rfl
    rwa[apu]at this
   unfold KK;rw[ao];show(Z.κ.keyOf d[m].1.1).getD Z.κ.dflt=_;rw[(h _ (anT o)).1];rfl
  rw[at' i hi G,at' j E s]at this;exact this
 have one:=Gg Z.κ.toKeyOrd (by rw[w];exact u) e (agU Z.κ.toKeyOrd gC k);refine⟨d.map λq=>q.2.2.2,?_,?_,?_⟩
 .have:(c.map (·.2)).toList=d.map λq=>q.1.2:=by
   rw[Array.toList_map,l,an3];rfl
  rw[this];exact Ri _ _ _ λq g=>(h q g).2.2
 .rw[amh,n.length_eq]
  have:=congrArg anZ bZ;rw[amh,List.length_zip,hl,Nat.min_self]at this;exact this
 .rw[<-one,an3]
  exact Qp _ _ _ λq g=>(h q g).2.1
end
section
variable{X:aT}{af:c4}{U:aC.St}{H:ax}{s:amg}{G:ax->Prop}{a df:Addr}{O:a7}{ao:Nat}{Z:i'}{ds:List D}{c1:List Z.κ.α}{xs:List V}{us:List Value}{E:dv}{keys:Array Value}
def BH(X:aT)(af:c4)(U:aC.St)(O:a7)(H:ax)(a:Addr)(out:List D)(e:amg):Prop:=
 ∃c b d,Inv X af U b e/\Go O c H b/\dh c b/\b a=some (.l d)/\c a=.dV/\bg X.K X.mg c b out d
def QQ{A:amK}{st:SortSt}(B:H a=none)(mC:H df=none)(R:df≠a)(ra:bg X.K X.mg O H ds xs)(bY:Vals xs us)(av:keys.toList.map Z.κ.keyOf=c1.map some)(hl:c1.length=ds.length)(C:c1.Nodup)(oN:ds.length<64)
  (S:q1 X af U G O H a df ao (c1.map Z.kd) s) (I:(arrOf st).Perm (keys.zip us.toArray)) (aw:SortedToK Z.κ (arrOf st) (arrOf st).size) (W:failedOf st=none) :
  wpAny (model X.prog X.w) A (ksk_tail a false ao (.ref df) st) (λr s'=>r=.done (.ret .none)/\BH X af U O H a ((ki Z.κ.blt (c1.zip ds)).map (·.2)) s') E s:=by
 refine a4 λaj=>?_
 obtain⟨N,h,amd,t,j,i,Bw,V,k,uT,Ap⟩:=S.ex;obtain⟨_,y,n,f,Q⟩:=t.ct df _ k;have Y:s.heap.get? a=some (anv "list" #[] ao):=(t.ct a _ V).1;obtain⟨F,L,sM,q⟩:=sorted_out ra bY av hl C I aw;have hsz:(arrOf st).size=ds.length:=by
  have ae:=L.length;have ag:((arrOf st).map (·.2)).toList.length=(arrOf st).size:=by rw[am0,Array.size_map]
  omega
 have alJ:y.length=ds.length:=by rw[<-f.length,uT.len,amh,hl]
 have T:=anr s.heap df (amO λ_=>(#[]:Array Value));obtain⟨bh,J⟩:∃bh,(s.heap.update df (amO λ_=>(#[]:Array Value))).get? df=some (anv "list" #[] bh):=⟨_,aou Q λ_=>#[]⟩;have p:(s.heap.update df (amO λ_=>(#[]:Array Value))).get? a=some (anv "list" #[] ao):=(T.2 a R.symm).trans Y;have u:Inv X af U (upd h df (.l [])) { s with heap:=s.heap.update df (amO λ_=>(#[]:Array Value)) }:=
  t.write (x:=df) (e:=df) (t':=s.toks) (by rw[k];trivial) (.inl rfl) (λb o c e=>(T.2 b c).trans e) ⟨_,J⟩ ⟨amT _,[],bh,.nil,J⟩
 have s2:=anr (s.heap.update df (amO λ_=>(#[]:Array Value))) a (amO λ_=>(arrOf st).map (·.2));obtain⟨ak,P⟩:∃ak,((s.heap.update df (amO λ_=>(#[]:Array Value))).update a (amO λ_=>(arrOf st).map (·.2))).get? a=some (anv "list" ((arrOf st).map (·.2)) ak):=⟨_,aou p λ_=>(arrOf st).map (·.2)⟩;have d:upd h df (.l []) a=some (.ext (lstP a ao)):=by rw[c6 R.symm];exact V
 refine aj ?_;unfold ksk_tail
 try dsimp only
 simp only[apW,if_false];refine mN (ap4 Q rfl ?_ (by rw[amn,amS];omega) (amT _));refine mN (aoU ?_);refine mN (seqEpoch_at p rfl ?_);refine mN (ap4 p rfl ?_ (amT _) (amN (ao3 (Array.size_map ..)) (by rw[hsz,amS];omega)));rw[W];simp only[bne_self_eq_false,apW,if_false];have same:eF H (upd (upd h df (.l [])) a (.l F)):=by
  have D:=xZ mC j.same k (.l []);refine⟨λb o e n=>by rw[c6 (kY e B)];exact D.at' b o e n,λb ps e=>by rw[c6 (kY e B)];exact D.cE b ps e,λg=>?_⟩;exact(D.bW g).put _ (λps=>by rw[d];intro z;cases z) (Mc u d)
 have go:Go O (gZ N a .dV) H (upd (upd h df (.l [])) a (.l F)):=⟨same,λb c=>by
  rw[pH (by rintro rfl;exact c B)];exact j.own b c,j.bP⟩
 refine aml ⟨rfl,gZ N a .dV,_,F,?_,go,⟨λb c=>?_,?_,i.rh.1,λb m=>by rw[pH (by rintro rfl;exact S.na (j.bP▸m))];exact i.rh.2 b m⟩,d2,m2,q.go go⟩
 .refine u.write (x:=a) (e:=a) (t':=s.toks) (by rw[d];trivial) (.inl rfl) (λb o c e=>(s2.2 b c).trans e) ⟨_,P⟩ ⟨?_,_,ak,L,?_⟩
  .rw[sM,amS];omega
  .rw[P,apB]
 .by_cases e:b=a
  .rw[e,d2];intro z;cases z
  .rw[c6 e]
   rw[pH e]at c
   by_cases M:b=df
   .rw[M,d2];intro z;cases z
   .rw[c6 M];exact i.has b c
 .exact(i.tabs.l k _).put _ (λps=>by rw[d];intro z;cases z) (Mc u d)
def agI{A:amK}(t:Z.Ok)(o:H a=none)(q:H df=none)(u:df≠a)(m:bg X.K X.mg O H ds xs)(k:Vals xs us)(f:keys.toList.map Z.κ.keyOf=c1.map some)(hl:c1.length=ds.length)(n:c1.Nodup)(l:ds.length<64)
    (S:q1 X af U G O H a df ao (c1.map Z.kd) s) :
    wpAny (model X.prog X.w) A (ksk_end a false us.toArray ao (.ref df) keys) (λr x=>r=.done (.ret .none)/\BH X af U O H a ((ki Z.κ.blt (c1.zip ds)).map (·.2)) x) E s:=by
  have D:us.length=ds.length:=by rw[<-k.length,m.len]
  have T:keys.size=ds.length:=by
    have:=congrArg anZ f;rw[amh,amh,am0]at this;omega
  have g:(keys.zip us.toArray).size=ds.length:=by rw[Array.size_zip,T,amn,D,Nat.min_self]
  have B:∀v∈keys.toList,∃κ,Z.κ.keyOf v=some κ:=λv h=>by
    have:Z.κ.keyOf v∈c1.map some:=by rw[<-f];exact aop h
    obtain⟨κ,_,e⟩:=amG.mp this;exact⟨κ,e.symm⟩
  unfold ksk_end
  try dsimp only
  simp only[apW,if_false]
  by_cases b:us.toArray.size<2
  · rw[if_pos b,if_pos b]
    refine mN (aml ?_);rw[StateT.run_pure];refine mN (aml ?_)
    try dsimp only
    refine QQ (st:=SortSt.mk' general' (keys.zip us.toArray) #[] 7 none) o q u m k f hl n l S (Array.Perm.refl _) ?_ rfl;intro i j V L;have J:j<(keys.zip us.toArray).size:=L;rw[g]at J;rw[amn]at b;have:i=j:=by omega
    subst this;exact PyProof.Rows.KeyOrd.kle_refl _
  · rw[if_neg b,if_neg b]
    rw[amn]at b;have F:2<=(keys.zip us.toArray).size:=by
      have W:2<=us.length:=Nat.le_of_not_lt b;rw[g];omega
    have R:keyKind' keys=pure oneType':=by
      cases e:keys.toList with
      |nil=>
               have M:keys.size=0:=by rw[<-am0,e];rfl
               omega
      |cons y r=>
        cases r with
        |nil=>
                 have M:keys.size=1:=by rw[<-am0,e];rfl
                 omega
        |cons z r=>
          have N:keys=(y::z::r).toArray:=by rw[<-e,apB]
          rw[N];exact t.kind y z r λv h=>B v (by rw[e];exact h)
    rw[R];refine mN (aml ?_);refine mN (anc (wpS_sortRunsK (κ:=Z.κ) t.one (a₀:=keys.zip us.toArray) (st:=SortSt.mk' oneType' (keys.zip us.toArray) #[] 7 none)
      (Q:=λ_ d=>(arrOf d).Perm (keys.zip us.toArray)/\failedOf d=none/\SortedToK Z.κ (arrOf d) (keys.zip us.toArray).size)
      (λp c=>?_) ⟨Array.Perm.refl _,rfl,rfl,rfl⟩ F (by rw[g];exact l) λd a1 a2 gv=>⟨a1,a2,gv⟩) ?_ λ_ _ e=>e)
    · rw[ksk_zip]at c
      exact B _ (aoW c).1
    rintro⟨⟨⟩,d⟩ x ⟨rfl,c,P,aw⟩
    try dsimp only
    exact QQ o q u m k f hl n l S c (by rw[c.size_eq];exact aw) P
end
end az
namespace az
open PySem PySem.Spec aC PyProof.Rows
variable[aC.aY]
section
variable{X:aT}{af:c4}{U:aC.St}{H:ax}{s:amg}{G:ax->Prop}{mf:bz}{f l:Addr}{k:Nat}{O:a7}{Z:i'}{ds:List D}{c1:List Z.κ.α}{xs:List V}{E:dv}
def agH(R:Z.Ok)(I:Inv X af U H s)(y:dh O H)(F:bg X.K X.mg O H ds xs)(fw:du X.K H l xs)(P:oi X k f G mf)(T:G H)(aE:cO (k+2) X.A)
  (tL:∀(i:Nat)(d:D),ds[i]? = some d->∃κ,c1[i]? = some κ/\(mf [d]).run []=.ok (.v (Z.kd κ)) []) (c:c1.length=ds.length) (aF:c1.Nodup) (S:ds.length<64) :
  wpAny (model X.prog X.w) X.A (call (.builtin "sorted") [.ref l] [(amY "key",.ref f)]) (λu J=>∃a,u=.ref a/\H a=none/\BH X af U O H a ((ki Z.κ.blt (c1.zip ds)).map (·.2)) J) E s:=by
 refine a4 λaj=>?_
 obtain⟨us,n,pl,_⟩:=I.list fw;have ER:us.length=ds.length:=by rw[<-n.length,F.len]
 have g:H (s.heap.objs.size+1)=none:=I.ct.fresh (apQ _);refine aj ?_;refine call_function_entry_kw kind_sorted plain_sorted entry_sorted (ksk_s1 _ _)<|mN (aml ?_)
 refine mN (collect_list pl.isList ?_ (by rw[amS];omega));refine mN (wpAny_newList ?_ (by rw[amS];omega));have hsz:((s.heap.push (anv "list" #[] 0)).update s.heap.objs.size (amO (·++us.toArray))).objs.size=s.heap.objs.size+1:=by
  rw[Heap.size_update,size_push']
 have j:(((s.heap.push (anv "list" #[] 0)).update s.heap.objs.size (amO (·++us.toArray))).push (anv "list" us.toArray 0)).get? (s.heap.objs.size+1)=some (anv "list" us.toArray 0):=by
  rw[<-hsz];exact amq _ rfl
 have keep:∀b o,s.heap.get? b=some o->(((s.heap.push (anv "list" #[] 0)).update s.heap.objs.size (amO (·++us.toArray))).push (anv "list" us.toArray 0)).get? b=some o:=λb o q=>by
  have B:=amv q;rw[Heap.get?_push_ne _ _ _ (by rw[hsz];exact amM (Nat.lt_succ_of_lt B)),Heap.get?_update_ne _ _ _ _ (amM B),Heap.get?_push_ne _ _ _ (amM B)];exact q
 have bu:Inv X af U (upd H (s.heap.objs.size+1) (.l xs)) { s with heap:=((s.heap.push (anv "list" #[] 0)).update s.heap.objs.size (amO (·++us.toArray))).push (anv "list" us.toArray 0) }:=
  I.laid keep (apQ _) ⟨by omega,us,0,n,j⟩
 rw[hsz];refine mN (anG (wpAny_call_entry_kw slot_list_sort ⟨_,j,rfl⟩ entry_list_sort ?body (ksk_l1 _ _)))
 case body=>
  rw[ksk_t1];generalize gi:s.heap.objs.size+1=a at *;generalize((s.heap.push (anv "list" #[] 0)).update s.heap.objs.size (amO (·++us.toArray))).push (anv "list" us.toArray 0)=ae at *;obtain⟨ao,t⟩:∃ao,(ae.update a (amO λ_=>(#[]:Array Value))).get? a=some (anv "list" #[] ao):=⟨_,aou j λ_=>#[]⟩;have M:=
   bu.write (t':=s.toks) (by rw[d2];trivial) (.inl rfl) (λb o aa e=>((anr ae a (amO λ_=>(#[]:Array Value))).2 b aa).trans e) ⟨_,t⟩ (abB t)
  rw[ahY]at M;refine mN (listItems_at j rfl ?_);refine mN (ap4 j rfl ?_ (by rw[amn,amS];omega) (amT _));refine mN (seqEpoch_at t rfl ?_);refine mN (wpAny_newTuple ?_ (by show us.length<=_;rw[amS];omega));refine mN (wpAny_newList ?_ (amT _));refine anG ?_;have N:Inv X af U (upd H a (.ext (lstP a ao))) { s with heap:=(ae.update a (amO λ_=>(#[]:Array Value))).push (anv "tuple" us.toArray 0) }:=
   M.kept λb o e=>B1 _ e
  generalize alz:(ae.update a (amO λ_=>(#[]:Array Value))).push (anv "tuple" us.toArray 0)=C at *;have h:=N.ct.fresh (amj _);have p:C.objs.size≠a:=by
   intro z;rw[z,d2]at h;cases h
  have Q:H C.objs.size=none:=by rw[c6 p]at h;exact h
  have oh:Inv X af U (upd (upd H a (.ext (lstP a ao))) C.objs.size (.l [])) { s with heap:=C.push (anv "list" #[] 0) }:=
   N.laid (λb o e=>B1 _ e) (amj _) ⟨amT _,[],0,.nil,amq _ rfl⟩
  have L:Go O (gZ O C.objs.size .dV) H (upd (upd H a (.ext (lstP a ao))) C.objs.size (.l [])):=(Go.h2 g).trans (Go.new h);have W:dh (gZ O C.objs.size .dV) (upd (upd H a (.ext (lstP a ao))) C.objs.size (.l [])):=(y.same (Go.h2 (O:=O) g).same).new h;have V:q1 X af U G O H a C.objs.size ao [] { s with heap:=C.push (anv "list" #[] 0) }:=
   ⟨⟨gZ O C.objs.size .dV,_,[],oh,L,W,P.1 _ _ L.same T,by rw[c6 p.symm];exact d2,d2,rfl,m2⟩,λm=>y.has a (by rw[y.rh.2 a m];intro z;cases z) g⟩
  refine anc (agK R P (aE.in1.in1) g Q p F n tL c S V λJ keys aq Y=>agI R g Q p F n Y c aF S aq) (λr J x=>?_) λ_ _ e=>e
  obtain⟨rfl,x⟩:=x;exact⟨_,rfl,aml ⟨_,rfl,a,rfl,g,x⟩⟩
end
structure q2(K:aN)(c P:Addr)(q:Str):Prop where
 hd:∀h,K.In h->W.CodeHd h c P
 ir:aY.ir P
 uS:aY.uS P=q
structure l6(base:Heap)(mg:bf):Prop where
 ex:∃bm o,mg (amY "__builtins__")=some (ana bm)/\bm≠aqb/\bm≠amR/\base.get? bm=some o/\o.cls=aqN "module"/\o.dict=some aqb/\o.data=Data.plain
def Fv(f:Addr)(a':Obj):Heap->Prop:=λh=>h.get? f=some a'
def ni(f c:Addr)(q:Str)(a':Obj):ax->Prop:=λH=>H f=some (.ext (Fv f a'))/\H c=some (.ext (p8 c q))
def ni.mono(H a:ax)(s:eF H a)(g:ni f c q a' H):ni f c q a' a:=⟨s.at' _ _ g.1,s.at' _ _ g.2⟩
def ni.upd(H:ax)(p:Addr)(a:List V)(o:eY)(h:H p=some (.l a))(g:ni f c q a' H):ni f c q a' (upd H p o):=
 ⟨by rw[c6 (by rintro rfl;have:=g.1;rw[h]at this;cases this)];exact g.1,by rw[c6 (by rintro rfl;have:=g.2;rw[h]at this;cases this)];exact g.2⟩
def VR{K:aN}{mg:bf}{N ps:List Str}{m:bp}{vs:List V}{H:ax}{Q:cY}(h:hg K mg (fnOf ps.length N.length (a9 m)) vs H Q jU):gG K mg m (aC.start N vs) H Q:=by
 obtain⟨O,ds,r,S,k,dJ,F,h,q⟩:=h;have hl:=y0 h;unfold fnOf at h;rw[if_pos hl]at h;obtain⟨L,S1,D,h⟩:=M.inv h;obtain⟨w,B,E,p⟩:=M.inv D;refine⟨dS O,_,S,w,B,(Gl k dJ F hl),E,λj v n g y x nn=>?_⟩
 let f:a7:=⟨λb=>match H b with|some _=>O b|none=>j b,O.bP⟩
 have u:∀b,H b≠none->f b=O b:=λb c=>by
  show(match H b with|some _=>O b|none=>j b)=O b
  cases e:H b with
  |none=>exact absurd e c|some o=>rfl
 have s:∀b,H b=none->f b=j b:=λb c=>by
  show(match H b with|some _=>O b|none=>j b)=j b;rw[c]
 have de:l9 j f:=⟨λb c=>by
  by_cases i:H b=none
  .rw[s b i];exact c
  .rw[u b i];exact oA.mp ((g.own b i).symm.trans c),g.bP.symm⟩
 have go:Go O f H n:=⟨g.same,λb c=>u b c,rfl⟩;have cy:dh f n:=⟨λb c=>by
  by_cases i:H b=none
  .rw[s b i]at c;exact y.cy.has b c
  .exact g.same.some i,y.cy.tabs,k.rh.1,λb m=>(u b (k.has b (by rw[k.rh.2 b m];intro z;cases z))).trans (k.rh.2 b m)⟩
 cases w with
 |v d=>
  cases p;cases h;exact q f v n go cy (Rep.de de x) trivial
 |fr A=>
  cases p;cases h;obtain⟨a,J,rfl,l,t,G⟩:=x;exact q f _ n go cy ⟨a,J,rfl,l,(s a (nn a rfl)).trans t,G.de de⟩ nn
 |cj A=>cases p
 |mv A=>cases p
section
variable{X:aT}{k:Nat}{f c:Addr}{name q:Str}{params:apT}{body:Expr}{scope:Scope}{pm je:Value}{N ps:List Str}{m:bp}
theorem aa8{p1:Str}(a:hI N [p1] scope)(L:∀(u:Value),aoI (W.kla_fn name q params body scope [] pm (.ref c) je) ⟨[u],[]⟩=pure [(p1,u)])
  (t:∀(A:amK)(s:amg)(H:ax),cO k (A.deeper (ao4 q scope s.heap.objs.size f (.ref c)))->jl (hr eR X.prog X.w X.K X.mg X.base N q scope f (.ref c) A X.stack s H jU).gW body m) :
  oi X (k+1) f (ni f c q (W.kla_obj name q params body scope [] pm c je)) (fnOf 1 N.length (a9 m)):=by
 refine⟨ni.mono,ni.upd,λA s H u v Q h dZ g B J=>?_⟩;obtain⟨E,_⟩:=dZ.ct f _ g.1;obtain⟨F,_⟩:=dZ.ct c _ g.2;have j:∀y∈[p1].zip [u],scope.names.lookup y.1=some .local\/(scope.names.lookup y.1=some .cell/\((cellsFrom (s.heap.objs.size+1) scope.names []).lookup y.1).isSome=true):=λr p=>by
  obtain⟨n,v⟩:=r;rcases a.par n (aoW p).1 with q|q
  .exact .inl q
  .exact .inr ⟨q,aqm _ _ _ (.inl q)⟩
 refine W.kla_callFunE h.depth E rfl a.co a.gen rfl F ?_;rw[L];refine aml<|wpAny_newFunctionEnv_cells a.kind j λenv he i x=>?_
 subst he;refine⟨(dZ.mod.nolimit.keeps λb o e=>(dZ.bs b o e).1).keeps x.toInCall.keep,W.kla_codeExpr ?_⟩;have I:Inv (hr eR X.prog X.w X.K X.mg X.base N q scope f (.ref c) A X.stack s H jU) [] (aC.start N [v]) H i:=NF a h.hd dZ rfl (.cons B .nil) x;refine anc ((b3.gW (t A s H (h.deeper _))) [] i (aC.start N [v]) H _ I (VR (ps:=[p1]) J)) (λu' M aw=>?_) λe M aw=>aw
 obtain⟨D,l,d,z,G⟩:=aw;exact⟨D,l,d.os,d.bare,d.base,d.ct,z,G⟩
end
end az
namespace az
open PySem PySem.Spec aC PyProof.Rows
theorem Q8{a b:Int}:∀l:List Value,aqC l->aqC (l++[aoN a,aoN b,c])
 |[],_=>trivial|.int _ _::.int _ _::_::rest,h=>Q8 rest h
theorem Ht{pos e:Pos}:∀l:List Value,aqC l->apU e (l++[aoN pos.line,aoN pos.col,c])=some C->apU e l=some C\/C=c
 |[],_,h=>by
  right;have h:(if((pos.line:Int)==e.line&&(pos.col:Int)==e.col)=true then some c else none)=some C:=h;split at h
  .cases h;rfl
  .cases h
 |.int a _::.int b _::d::rest,t,h=>by
  have h:(if(a==e.line&&b==e.col)=true then some d else apU e (rest++[aoN pos.line,aoN pos.col,c]))=some C:=h;show(if(a==e.line&&b==e.col)=true then some d else apU e rest)=some C\/_;split at h
  .rename_i f;rw[if_pos f];exact .inl h
  .rename_i f;rw[if_neg f];exact Ht rest t h
variable[aC.aY]
section
variable{X:aT}{af:c4}{U:aC.St}{H:ax}{s:amg}{O:a7}{c P:Addr}{q:Str}{params:apT}{body:Expr}{scope:Scope}{pos:Pos}
def aa7(I:Inv X af U H s)(cW:dh O H)(L:q2 X.K c P q)(B:l6 X.base X.mg)(tI:X.env.code=.ref c)(a_:X.env.qual++amY "<lambda>"=q)(wq:defaultsOf params X.env=([],[]))(tH:aqd scope X.env=pure []) :
  wpAny (model X.prog X.w) X.A (eval (.Lambda params body scope pos) X.env) (λu s'=>∃(f c':Addr)(pm E:Value)(J:ax),u=.ref f/\Inv X af U J s'/\Go O O H J/\dh O J/\ni f c' q (W.kla_obj (amY "<lambda>") q params body scope [] pm c' E) J) X.ej s:=by
 obtain⟨ps,i,Q,Y⟩:=cW.tabs P L.ir;rw[L.uS]at Y;have Mr:=I.ct P _ i;have Jt:∀b o,X.base.get? b=some o->b≠P:=λb o e z=>by
  subst z;have:=(I.bs b o e).2;rw[i]at this;cases this
 have kH:=I.mod.glob.keeps I.bk;have Y6:amR≠P:=by
  obtain⟨o,aD,bj,e,_⟩:=I.mod.glob;exact Jt _ _ e
 have nK:s.heap.BuiltinsAt X.mg P:=by
  obtain⟨bm,o,cI,cK,hq,hO,ju⟩:=B.ex;exact⟨bm,o,cI,cK,hq,Jt _ _ hO,I.bk _ _ hO,ju⟩
 have C:=L.hd _ I.gj;refine W.kla_eval wq ?_;rw[a_]
 cases ht:apU pos ps.toList with
 |some G=>
  obtain⟨c',rfl,rM⟩:=Y pos G ht;refine W.kla_makeFunctionHit tH I.ok.glob kH tI C Mr Q ht nK λE h' tk av hsz=>?_
  have M:=I.ct.fresh hsz;have go:Go O O H (upd H h'.objs.size (.ext (Fv h'.objs.size (W.kla_obj (amY "<lambda>") q params body scope [] ((X.mg (amY "__name__")).getD .none) c' E)))):=Go.h2 M;refine⟨h'.objs.size,c',_,E,_,rfl,I.laid (λb o e=>B1 _ (av b o e)) hsz ?_,go,cW.same go.same,d2,go.same.at' _ _ rM⟩;exact⟨amq _ rfl,⟨_,amq _ rfl⟩,λx a p r=>r _ p⟩
 |none=>
  refine W.kla_makeFunction tH I.ok.glob kH tI C Mr Q ht Y6 nK λc' E h' tk N M0 gO D3 Nm=>?_
  have Na:=I.ct.fresh M0
  let R:=ps++#[aoN pos.line,aoN pos.col,.ref c']
  let D:=upd (upd H P (.gp R)) c' (.ext (p8 c' q))
  have j:∀{b:Addr},b≠P->b≠c'->D b=H b:=λx a=>by show upd _ _ _ _=_;rw[c6 a,c6 x]
  have S:D P=some (.gp R):=by show upd _ _ _ _=_;rw[c6 ((kY i Na).symm).symm];exact d2
  have V:D c'=some (.ext (p8 c' q)):=d2;have adB:∀{b:Addr}{o:Obj},s.heap.get? b=some o->b≠c':=λe=>amM (amP (amv e) M0)
  have m:∀{b:Addr}{o:eY},H b=some o->b≠c':=λe=>kY e Na
  have un:gS X.fs [] H D s.heap h':=by
   refine⟨λb o e n _ _=>N b o (by rintro rfl;rw[i]at n;cases n) e,λb o e n _ _=>⟨o.slots,N b o (by rintro rfl;rw[i]at n;cases n) e⟩,
    λb o e n _=>by rw[j (by rintro rfl;rw[i]at n;cases n) (adB e)];exact n,λb o e _=>?_,λb xs e=>?_,λb o u e=>?_,λb T e=>?_⟩
   .by_cases k:b=P
    .rw[k];exact⟨_,Nm⟩
    .exact⟨o,N b o k e⟩
   .rw[j (by rintro rfl;rw[i]at e;cases e) (m e)];exact e
   .rw[j (by rintro rfl;rw[i]at e;cases e) (m e)];exact e
   .by_cases k:b=P
    .subst k
     rw[i]at e;cases e;exact⟨_,S⟩
    .exact⟨#[],by rw[j k (m e),e];simp⟩
  have ct:gs X.prog X.w D h':=λb u e=>by
   by_cases x:b=c'
   .subst x
    rw[V]at e;cases e;obtain⟨ak,dK,vs,t,ew,dF,pP,Bj⟩:=D3;cases ew;exact⟨⟨_,dK,vs,t,rfl,dF,pP,Bj⟩,⟨_,dF⟩,λx a aZ r=>by obtain⟨e0,Z,ah1,t3,ajb,GW,ajc,ajd⟩:=aZ;cases ajb;exact⟨_,Z,ah1,t3,rfl,r _ GW,ajc,ajd⟩⟩
   .by_cases a:b=P
    .subst a
     rw[S]at e;cases e;exact Nm
    .rw[j a x]at e
     refine(I.ct b u e).i7 (λd o hd kC=>N d o (λz=>?_) kC) (λd y=>?_) λd xs y=>?_
     .rcases hd with rfl|hd
      .exact a z
      .rw[z,i]at hd;cases hd
     .rw[j (by rintro rfl;rw[i]at y;cases y) (m y)];exact y
     .rw[j (by rintro rfl;rw[i]at y;cases y) (m y)];exact y
  have M:=ct.fresh (amj _);have ago:eF H D:=by
   refine⟨λb o e n=>by rw[j (by rintro rfl;rw[i]at e;cases e;exact n) (m e)];exact e,λb T e=>?_,λg q7 WW=>?_⟩
   .by_cases k:b=P
    .exact⟨R,by rw[k];exact S⟩
    .exact⟨T,by rw[j k (m e)];exact e⟩
   .obtain⟨T,ao,aA,bK⟩:=g q7 WW
    by_cases k:q7=P
    .subst k
     refine⟨R,S,?_,λl G F=>?_⟩
     .show aqC (ps++#[aoN pos.line,aoN pos.col,.ref c']).toList
      rw[Array.toList_append];exact Q8 _ Q
     .have F:=F
      rw[Array.toList_append]at F;rw[L.uS];rcases Ht _ Q F with h|h
      .obtain⟨ak,rfl,a⟩:=Y l G h
       exact⟨ak,rfl,by rw[j (by rintro rfl;rw[i]at a;cases a) (m a)];exact a⟩
      .exact⟨c',h,V⟩
    .refine⟨T,by rw[j k (m ao)];exact ao,aA,λl G F=>?_⟩
     obtain⟨ak,x,a⟩:=bK l G F;exact⟨ak,x,by rw[j (by rintro rfl;rw[i]at a;cases a) (m a)];exact a⟩
  have go:Go O O H (upd D h'.objs.size (.ext (Fv h'.objs.size (W.kla_obj (amY "<lambda>") q params body scope [] ((X.mg (amY "__name__")).getD .none) c' E)))):=(⟨ago,λ_ _=>rfl,rfl⟩:Go O O H D).trans (Go.h2 M);refine⟨h'.objs.size,c',_,E,_,rfl,(I.un (t':=tk) un ct).laid (λb o e=>B1 _ e) (amj _) ?_,go,cW.same go.same,d2,(sv M _).at' _ _ V⟩;exact⟨amq _ rfl,⟨_,amq _ rfl⟩,λx a p r=>r _ p⟩
end
end az
namespace az
open PySem PySem.Spec aC PyProof.Rows
def Uu:am1 "sorted"=some (.builtin "sorted"):=by decide +kernel
def tV(Z:i')(mf:bz)(d:D):Option Z.κ.α:=match(mf [d]).run []with
 |.ok (.v x) []=>Z.un x|_=>none
def keysOf(Z:i')(mf:bz):List D->Option (List Z.κ.α)
 |[]=>some []|d::ds=>match tV Z mf d,keysOf Z mf ds with
  |some a,some as=>some (a::as)|_,_=>none
def oz{α:Type}(blt:α->α->Bool):List α->Bool
 |[]=>true|a::r=>r.all (λb=>blt a b||blt b a)&&oz blt r
noncomputable def mq(Z:i')(mf:bz)(x:R):M R:=match x.fL with
 |some ds=>match keysOf Z mf ds with
  |some a=>if oz Z.κ.blt a=true/\ds.length<64 then pure (.fr ((ki Z.κ.blt (a.zip ds)).map (·.2)))else bad|none=>bad
 |none=>bad
def vO(F:bz->R->M R)(mf:bz)(ma:bp):bp:=λU=>do
 let x <-ma U
 F mf x
abbrev rn(Z:i')(mf:bz)(ma:bp):bp:=vO (mq Z) mf ma
set_option tactic.hygienic true in
theorem N6{Z:i'}{mf:bz}(u9:∀d a,Z.un d=some a->d=Z.kd a):∀{ds:List D}{b:List Z.κ.α},keysOf Z mf ds=some b->b.length=ds.length/\∀(i:Nat)(d:D),ds[i]? = some d->∃κ,b[i]? = some κ/\(mf [d]).run []=.ok (.v (Z.kd κ)) []
 |[],b,h=>by cases h;exact⟨rfl,λi d h=>by simp at h⟩
 |d::ds,b,h=>by
  unfold keysOf at h;refine a4 λf=>?_
  split at h
  .rename_i a as c g
   cases h;obtain⟨l,r⟩:=N6 u9 g;refine f ⟨by rw[amL,amL,l],λi e he=>?_⟩;refine a4 λf=>?_
   cases i with
   |zero=>
    cases(show some d=some e from he);refine f ⟨a,rfl,?_⟩;unfold tV at c;split at c
    .rename_i x j
     rw[j,u9 x a c]
    .cases c
   |succ i=>
    obtain⟨κ,ao,aA⟩:=r i e he;exact f ⟨κ,by simpa using ao,aA⟩
  .cases h
theorem Hv(Q:anL):∀{l:List Q.α},oz Q.blt l=true->l.Nodup
 |[],_=>.nil|a::r,h=>by
  unfold oz at h;rw[amI,amX]at h;rw[ane];refine⟨λb=>?_,Hv Q h.2⟩;have:=h.1 a b;rw[Q.irrefl]at this;cases this
variable[aC.aY]
section
variable{X:aT}{k:Nat}{e:Expr}{ma:bp}{Z:i'}{p pos kp:Pos}{kS:Expr}{mf:bz}{G:Addr->ax->Prop}
structure vu(X:aT)(nm:Str)(k:Nat)(rj:String)(F:bz->R->M R):Prop where
 Cx:am1 nm=some (.builtin rj)
 nn:nm≠"__name__"
 db:fV nm
 run:∀{mf:bz}{x r:R}{S aq:bL},(F mf x).run S=.ok r aq->∃ds,x.fL=some ds/\S=aq/\∀{af:c4}{U:aC.St}{s:amg}{O:a7}{H:ax}{xs:List V}{l f:Addr}{G:ax->Prop},Inv X af U H s->dh O H->bg X.K X.mg O H ds xs->du X.K H l xs->oi X k f G mf->G H->cO (k+2) X.A->
  wpAny (model X.prog X.w) X.A (call (.builtin rj) [.ref l] [(amY "key",.ref f)]) (λu s'=>∃ai H' v,Inv X af U H' s'/\Go O ai H H'/\dh ai H'/\en X.K X.mg ai H' r v/\iA H r v/\RelV v u) X.ej s
variable{nm:Str}{rj:String}{F:bz->R->M R}
def UQ(B:vu X nm k rj F)(J:eW X nm)(hm:X.mg nm=none)(E:cO (k+2) X.A)(N:jl X e ma)
  (eK:∀(d:c4)(s:amg)(U:aC.St)(O:a7)(H:ax),Inv X d U H s->dh O H->
   wpAny (model X.prog X.w) X.A (eval kS X.env) (λu s'=>∃(f:Addr)(i:ax)(G:ax->Prop),u=.ref f/\Inv X d U i s'/\Go O O H i/\dh O i/\G i/\oi X k f G mf) X.ej s)
  (he:BQ X pos e:=by rfl)
  (aw:gg X e []:=by rfl)
  (kM:gT X pos [e]:=by rfl) :
  jl X (.Call (.Name nm p) [e] [⟨some (amY "key"),kS,kp⟩] pos) (vO F mf ma):=by
 rintro d s U H Q I ⟨O,y,S,r,aq,st,h,q⟩;refine a4 λb=>?_
 obtain⟨x,S1,L,h⟩:=M.inv h;obtain⟨ds,rN,rfl,run⟩:=B.run h;refine b ?_;refine anF (qu I J hm B.Cx ?_ B.nn B.db);refine callWith_kw ?_ he kM rfl rfl;refine cc ((FJ N PC aw) pos d s U H (λvs c=>∃v a,vs=[v]/\Go O a H c/\cS X.K X.mg a y S1 U c/\en X.K X.mg a c x v) I ⟨O,y,S,x,S1,st,L,λa v c m j t nn=>⟨v,a,rfl,m,j,t⟩⟩) λus s1 n=>?_
 refine a4 λb=>?_
 obtain⟨vs,c,W,T,v,a,ev,m,j,t⟩:=n;subst ev;obtain⟨l,ys,rfl,hl,ra⟩:=R.qv t rN;obtain⟨u,rfl,eI⟩:=vals1 T;cases eI;refine b ?_;refine wpAny_evalAll_cons (mN (cc (eK d s1 U a c W j.cy) λu s2 P=>mN (ap1 (aml ?_))));refine a4 λb=>?_
 obtain⟨f,aK,G,rfl,Y,g,dz,wa,gy⟩:=P;refine b ?_;refine wpAny_evalAll_nil (cc (run Y dz (ra.go g) (g.same.seq hl) gy wa E) λu s3 n=>?_);refine a4 λb=>?_
 obtain⟨fu,z,v,C,D,qa,o,nn,V⟩:=n;exact b ⟨v,z,C,V,q fu _ z (m.trans (g.trans D)) (j.go (g.trans D) qa) o (nn.back (m.trans g).same)⟩
def UR{c P:Addr}{q p1:Str}{params:apT}{body:Expr}{scope:Scope}{D:Pos}{N:List Str}{m:bp}(B:vu X nm (k+1) rj F)(j:eW X nm)(x:X.mg nm=none)(i:cO (k+3) X.A)(L:q2 X.K c P q)(d:l6 X.base X.mg)(Q:X.env.code=.ref c)
  (l:X.env.qual++amY "<lambda>"=q) (h:hI N [p1] scope)
  (J:∀(c:Addr)(b a u:Value),aoI (W.kla_fn (amY "<lambda>") q params body scope [] b (.ref c) a) ⟨[u],[]⟩=pure [(p1,u)])
  (n:∀(f c:Addr)(A:amK)(s:amg)(H:ax),cO k (A.deeper (ao4 q scope s.heap.objs.size f (.ref c)))->jl (hr eR X.prog X.w X.K X.mg X.base N q scope f (.ref c) A X.stack s H jU).gW body m)
  (o:jl X e ma) (R:defaultsOf params X.env=([],[]):=by rfl) (M:aqd scope X.env=pure []:=by rfl)
  (he:BQ X pos e:=by rfl)
  (aw:gg X e []:=by rfl)
  (z:gT X pos [e]:=by rfl) :
  jl X (.Call (.Name nm p) [e] [⟨some (amY "key"),.Lambda params body scope D,kp⟩] pos) (vO F (fnOf 1 N.length (a9 m)) ma):=
 UQ B j x i o (λS s U O H I r=>cc (aa7 I r L d Q l R M) λu T ⟨f,c',b,a,g,E,t,g',d',y⟩=>
  ⟨f,g,_,E,t,g',d',y,aa8 h (J c' b a) (n f c')⟩) he aw z
set_option tactic.hygienic true in
theorem aas(j:Z.Ok):vu X "sorted" k "sorted" (mq Z) where
 Cx:=Uu
 nn:=by decide
 db:=by decide
 run:=λ{mf x r S M} h=>by
  unfold mq at h;refine a4 λi=>?_
  split at h
  .rename_i ds ao
   split at h
   .rename_i n aA
    by_cases c:oz Z.κ.blt n=true/\ds.length<64
    .rw[if_pos c]at h
     cases h;obtain⟨f,H⟩:=N6 j.u9 aA;refine i ⟨ds,ao,rfl,λI d E hl y K l=>cc (agH j I d E hl y K l H f (Hv Z.κ.toKeyOrd c.1) c.2) λu s3 m=>?_⟩;refine a4 λi=>?_
     obtain⟨a,B,z,t,o,L,s,w,A,D,J,g⟩:=m;subst B;exact i ⟨t,o,.ref a,s,w,A,⟨a,L,rfl,D,J,g⟩,λb q=>by cases q;exact z,rfl⟩
    .rw[if_neg c]at h;cases h
   .cases h
  .cases h
end
def Yw{P:amC}{w:World}{K:aN}{mg:bf}{base:Heap}{x:Str}{st:Stmt}{ps N:List Str}{k:Nat}{l:aW}{n nl:Nat}{c:Addr}(g6:g6 K mg x st ps)(J:∀(f:Addr)(dK:Value)(i:Option Addr)(dn a j:Value)(an:Option Addr)(d cF:Value)(g:Array (Option Value)),mg x=some (.ref f)->K.lookup f=some ⟨dK,i,.func (an6 x x (iS st) (fH st) (dr st) .none dn a j an d cF),g⟩->d=.ref c)
  (p:hI N ps (dr st)) (u:ps.length=n) (hl:N.length=nl)
  (y:∀(f:Addr)(A:amK)(outer:List Env)(s:amg)(H:ax)(E:gu),cO k (A.deeper (anf x (dr st) s.heap.objs.size f (.ref c)))->
   vp (hr eR P w K mg base N x (dr st) f (.ref c) A outer s H E).gW (fH st) l):g8 P w K mg base x ps (k+1) (hg K mg (fnOf n nl l)):=by
 obtain⟨f,B,F,b,m⟩:=g6.ex;refine⟨f,B,?_,b,F.kp,m⟩;obtain⟨dK,i,dn,a,j,an,d,cF,g,rfl,o,D⟩:=F.ex;have e:=J f dK i dn a j an d cF g m o;subst e;subst u hl;refine Di o D p (λvs H Q E ⟨O,ds,r,L,M,dJ,z,h,q⟩=>z.len.trans (y0 h)) λA outer s H vs Q E t G=>⟨_,(y f A outer s H E t).gW,JD G⟩
end az
namespace aC
open PySem PySem.Spec PyProof.Rows
def ih(r:Int->Int->Bool)(z:Nat->Nat->Bool):List Int->List Int->Bool
 |x::xs,y::ys=>if x=y then ih r z xs ys else r x y|xs,ys=>z xs.length ys.length
def Ou(r:Int->Int->Bool)(z:Nat->Nat->Bool)(x y:Int)(xs a:List Int):ih r z (x::xs) (y::a)=if x=y then ih r z xs a else r x y:=rfl
def abq(r:Int->Int->Bool)(z:Nat->Nat->Bool)(a:List Int):ih r z [] a=z 0 a.length:=by cases a<;>rfl
def abr(r:Int->Int->Bool)(z:Nat->Nat->Bool)(xs:List Int):ih r z xs []=z xs.length 0:=by cases xs<;>rfl
inductive iM where
 |lt|le|gt
def iM.op:iM->CmpOp
 |.lt=>.Lt|.le=>.LtE|.gt=>.Gt
abbrev iM.r(c:iM)(i j:Int):Bool:=match c with
 |.lt=>decide (i<j)|.le=>decide (i<=j)|.gt=>decide (j<i)
abbrev iM.z(c:iM)(i j:Nat):Bool:=match c with
 |.lt=>decide (i<j)|.le=>decide (i<=j)|.gt=>decide (j<i)
def iM.B:iM->aqi
 |.lt=>aqi.«tuple.__lt__»|.le=>aqi.«tuple.__le__»|.gt=>aqi.«tuple.__gt__»
abbrev lexLt:List Int->List Int->Bool:=ih (λi j=>decide (i<j)) (λi j=>decide (i<j))
abbrev lexLe:List Int->List Int->Bool:=ih (λi j=>decide (i<=j)) (λi j=>decide (i<=j))
abbrev r3:List Int->List Int->Bool:=ih (λi j=>decide (j<i)) (λi j=>decide (j<i))
def iM.vk(c:iM){a b d e:Nat}(h:a+e=b+d):c.z a b=c.z d e:=by cases c<;>exact decide_eq_decide.mpr (by omega)
def iM.pz(c:iM)(m n:Nat):Builtin.Tuple.tupleCompareSizes c.op m n=.bool (c.z m n):=by cases c<;>rfl
section
open PySem.SeqAt
open PySem.AutoSeq1 (wpAny_loadPart')
open PySem.MeetsSeq PySem.MeetsSeq2 PySem.MeetsSeq3
set_option maxHeartbeats 0 in
def Gx(i:iM)(l b:Addr)(f m:Array Value)(n X:Nat)(dd Y:Option Addr)(a3 Z:Array (Option Value))(ns ms:List Int)(hi:aol f.toList ns)(P:aol m.toList ms) :
  Meets (i.B ⟨[.ref l,.ref b],[]⟩)
   (λ_ R s=>s.heap.get? l=some { cls:=.type "tuple",dict:=dd,data:=.seq f n,slots:=a3 }/\s.heap.get? b=some { cls:=.type "tuple",dict:=Y,data:=.seq m X,slots:=Z }/\
    R (.ok (.ret (.bool (ih i.r i.z ns ms)))) s):=
 .of_wp λprog w A R s h=>by
  have pz:=i.pz;have vk:=@iM.vk i;have N:∀(A:amK)(a c:Int)(t u:Tok)(E:dv)(Q:dv)(s:amg),Q (.bool (i.r a c)) s->wpAny (model prog w) A (richCompare i.op (.int a t) (.int c u)) Q E s:=by
   cases i<;>intro A a c t u E Q s h
   .exact(PyProof.Rows.lt_int h:wpAny (model prog w) A (amW .Lt (.int a t) (.int c u)) Q E _)
   .exact(PyProof.Rows.le_int h:wpAny (model prog w) A (amW .LtE (.int a t) (.int c u)) Q E _)
   .exact(PyProof.Rows.gt_int h:wpAny (model prog w) A (amW .Gt (.int a t) (.int c u)) Q E _)
  have K:∀{x y:Int}{xs S:List Int},ih i.r i.z (x::xs) (y::S)=if x=y then ih i.r i.z xs S else i.r x y:=rfl
  generalize i.r=I at *;generalize i.z=C at *;obtain⟨H,g,d,tk,os⟩:=s;obtain⟨hl,W,h⟩:=h;cases i
  all_goals
   dsimp only[iM.op]at N pz;have f2:=aqo;have ew:f.size=ns.length:=by rw[<-hi.length];simp
   have dF:m.size=ms.length:=by rw[<-P.length];simp
   wp_walk using wpAny_loadPart' hl,wpAny_loadPart' W,aoK _ (λrest b L=>b.1=none/\L=⟨H,g,d,tk,os⟩/\∃(vs D:List Value)(p o:List Int),rest=vs.zip D/\
    aol vs p/\aol D o/\p.length+m.size=o.length+f.size/\R (.ok (.ret (.bool (ih I C p o)))) ⟨H,g,d,tk,os⟩) _
   case turn=>
    rintro⟨y,x⟩ rest b L ⟨J,rfl,vs,D,p,o,hz,F,G,j,k⟩
    cases F with
    |nil=>rw[List.zip_nil_left]at hz;cases hz
    |cons a t T=>
     cases G with
     |nil=>rw[List.zip_nil_right]at hz;cases hz
     |cons c u V=>
      rw[ao7]at hz;injection hz with U Zw
      injection U with a0 ah
      subst a0 ah;rw[K]at k;simp only[amL]at j;obtain⟨e,he,M⟩:=dg.Vy A.in1 ⟨H,g,d,tk,os⟩ a t c u;refine mN (he prog w _ _ ?_)
      cases e with
      |true=>
       rw[if_pos (M.mp rfl)]at k
       wp_walk
       exact⟨rfl,rfl,_,_,_,_,Zw,T,V,by omega,k⟩
      |false=>
       rw[if_neg (λq=>absurd (M.mpr q) amm)]at k
       wp_walk using N
       exact⟨_,rfl,by simpa using k⟩
   case fin=>
    rintro⟨cI,cK⟩ L ⟨J,rfl,vs,D,p,o,hz,F,G,j,k⟩;simp only at J;subst J;have O:ih I C p o=C f.size m.size:=by
     cases F with
     |nil=>
      rw[abq];simp only[ans]at j;exact vk (by simp only[ans]at *;omega)
     |cons a t O=>
      cases G with
      |nil=>
       rw[abr];simp only[ans]at j;exact vk (by simp only[ans]at *;omega)
      |cons c u hw=>
       rw[ao7]at hz;cases hz
    rw[O]at k
    wp_walk
    exact⟨_,rfl,by rw[pz];exact k⟩
   case h=>
    exact⟨rfl,rfl,f.toList,m.toList,ns,ms,rfl,hi,P,by omega,h⟩
end
def JM(c:iM){prog:amC}{w:World}{A:amK}{E:dv}{s:amg}{l b:Addr}{a g:Array Value}{ns ms:List Int}{Q:dv}(hl:IsTup s.heap l a)(y:IsTup s.heap b g)(hi:aol a.toList ns)(j:aol g.toList ms)
  (k:A.units<cLine) (h:Q (.bool (ih c.r c.z ns ms)) s):wpAny (model prog w) A (amW c.op (.ref l) (.ref b)) Q E s:=by
 obtain⟨⟨cls,dd,data,a3⟩,d,t,i,hd⟩:=id hl;obtain⟨⟨B,p,m,q⟩,e,u,o,f⟩:=id y;simp only at t hd u f;subst t hd u f;have n:aqM (ih c.r c.z ns ms)≠Value.notImplemented/\Q (.bool (ih c.r c.z ns ms)) s:=⟨(λx=>nomatch x),h⟩;cases c
 .exact apj (op:=.Lt) ⟨_,d,rfl⟩ ⟨_,e,rfl⟩ PySem.F.slot_tuple_lt PySem.F.entry_tuple_lt (PySem.F.args_tuple_lt_2 _ _) (Gx .lt l b a g i o dd p a3 q ns ms hi j) ⟨d,e,n⟩ k
 .exact apj (op:=.LtE) ⟨_,d,rfl⟩ ⟨_,e,rfl⟩ PySem.F.slot_tuple_le PySem.F.entry_tuple_le (PySem.F.args_tuple_le_2 _ _) (Gx .le l b a g i o dd p a3 q ns ms hi j) ⟨d,e,n⟩ k
 .exact apj (op:=.Gt) ⟨_,d,rfl⟩ ⟨_,e,rfl⟩ PySem.F.slot_tuple_gt PySem.F.entry_tuple_gt (PySem.F.args_tuple_gt_2 _ _) (Gx .gt l b a g i o dd p a3 q ns ms hi j) ⟨d,e,n⟩ k
def Pm(c:iM)(m:X.A.units+64<cLine):dX X (amW c.op) (λx y H Q=>∃a b ns ms,x=.ref a/\y=.ref b/\dC X.K H a (ns.map V.int)/\dC X.K H b (ms.map V.int)/\Q (.ay (ih c.r c.z ns ms)) H):=by
 intro l s U H x y v u Q I d j h;obtain⟨a,b,ns,ms,rfl,rfl,f,e,q⟩:=h;cases d;cases j;obtain⟨k,i,p1,_⟩:=I.tuple f;obtain⟨n,g,cz,_⟩:=I.tuple e;exact JM c p1 cz (intsAre_of i) (intsAre_of g) (by omega) ⟨.ay (ih c.r c.z ns ms),H,I,rfl,q⟩
def Pw(c:X.A.units+64<cLine):dX X (amW .Lt) (λx y H Q=>∃a b ns ms,x=.ref a/\y=.ref b/\dC X.K H a (ns.map V.int)/\dC X.K H b (ms.map V.int)/\Q (.ay (lexLt ns ms)) H):=Pm .lt c
def ad8(c:X.A.units+64<cLine):dX X (amW .LtE) (λx y H Q=>∃a b ns ms,x=.ref a/\y=.ref b/\dC X.K H a (ns.map V.int)/\dC X.K H b (ms.map V.int)/\Q (.ay (lexLe ns ms)) H):=Pm .le c
def WH{A:amK}{s:amg}{a c:Array Value}{ns ms:List Int}{Q:dv}(hl:IsTup s.heap l a)(d:IsTup s.heap b c)(hi:aol a.toList ns)(e:aol c.toList ms)(f:A.units<cLine)(h:Q (.bool (r3 ns ms)) s):wpAny (model prog w) A (amW .Gt (.ref l) (.ref b)) Q E s:=JM .gt hl d hi e f h
end aC
namespace az
open PySem PySem.Spec aC
def lS(g:List Int->List Int->Bool):R->R->M R
 |.v (.t xs),.v (.t ys)=>match nums xs,nums ys with
  |some ns,some ms=>pure (.v (.ay (g ns ms)))|_,_=>bad
 |_,_=>bad
variable[aC.aY]
set_option tactic.hygienic true in
def B5{g:List Int->List Int->Bool}:d3 K mg (λx y H Q=>∃a b ns ms,x=.ref a/\y=.ref b/\dC K H a (ns.map V.int)/\dC K H b (ms.map V.int)/\Q (.ay (g ns ms)) H) (lS g):=λO U S n H x y l o p m Q st f e h q=>by
 unfold lS at h;refine a4 λi=>?_
 split at h
 .rename_i xs r
  split at h
  .rename_i ns ms ao aA
   cases h;obtain⟨a,as,rfl,d,k⟩:=f;obtain⟨b,bs,rfl,c,j⟩:=e;rw[Ag k ao]at d;rw[Ag j aA]at c;exact i ⟨a,b,ns,ms,rfl,rfl,d,c,q O _ H (Go.refl _ _) st rfl trivial⟩
  .cases h
 .cases h
end az
namespace az
open PySem PySem.Spec aC PyProof.Rows
def r2(x:Str):Str:=x++amY ".<locals>."++amY "<lambda>"
def oW(K:aN)(P:Addr)(x:Str):Bool:=match W.tabIn K x with
 |some (_,C)=>C==P|none=>false
abbrev u4(wl:World)(K:aN)(ln:List Str):aY:=⟨λP=>∃x∈ln,∃c,W.tabIn K x=some (c,P),λP=>match ln.find? (oW K P)with
 |some x=>r2 x| none=>"",wl⟩
def afT{K:aN}{ln:List Str}{x:Str}{c P:Addr}(b:x∈ln)(d:W.tabIn K x=some (c,P))(inj:∀y∈ln,oW K P y=true->y=x){wl:World}:(u4 wl K ln).uS P=r2 x:=by
 show(match ln.find? (oW K P)with|some x=>r2 x|none=>"")=_;have a:oW K P x=true:=by unfold oW;rw[d];exact beq_self_eq_true P
 cases e:ln.find? (oW K P)with
 |none=>exact absurd a (apX.mp e x b)|some y=>
  rw[inj y (anC e) (aov e)]
def xT{K:aN}{x:Str}{f c P:Addr}{dK g:Value}{j h:Option Addr}{b:anp}{a3 k:Array (Option Value)}{vs:Array Value}(a:api K amR x=some (some (.ref f)))(l:K.lookup f=some ⟨dK,j,.func b,a3⟩)(i:b.code=.ref c)
  (d:K.lookup c=some ⟨g,h,.fields vs,k⟩) (e:vs[11]? = some (.ref P)):W.tabIn K x=some (c,P):=by
 unfold W.tabIn;rw[a];simp only[l,i,d,e]
def YM{K:aN}{c P:Addr}{n:Option Addr}{a3:Array (Option Value)}{vs:Array Value}{b:Str}{f cA tt:Tok}{a e:Int}{g:Bool}(d:K.lookup c=some ⟨.type "code",n,.fields vs,a3⟩)(o:vs[11]? = some (.ref P))(k:vs.getD 11 .none=.ref P)
  (i:vs.getD 18 .none=.str b f) (l:vs.getD 7 .none=.int a cA) (m:vs.getD 9 .none=.bool g) (j:vs.getD 10 .none=.int e tt) (ne:c≠P):∀h,K.In h->W.CodeHd h c P:=λh X=>
 ⟨_,vs,b,f,a,cA,g,e,tt,X _ _ d,rfl,rfl,o,k,i,l,m,j,ne⟩
def UX{K:aN}{st:Stmt}{g:anp}(X:K.In h)(G:h.Ns amR mg)(a:api K amR x=some (some (.ref C)))(l:K.lookup C=some ⟨U,alZ,.func g,I⟩)(m:g.code=.ref c) :
  ∀(f:Addr)(dK:Value)(j:Option Addr)(dn b k:Value)(an:Option Addr)(d cF:Value)(i:Array (Option Value)),mg x=some (.ref f)->K.lookup f=some ⟨dK,j,.func (an6 x x (iS st) (fH st) (dr st) .none dn b k an d cF),i⟩->d=.ref c:=by
 intro f dK j dn b k an d cF i n hl;have e:=apM X G a;rw[n]at e;cases e;rw[l]at hl;cases hl;exact m
def SE{l:W.OpenLaw}{w:World}{K:aN}{mg:bf}{fa:Addr}{k:Nat}{st:Stmt}[aC.aY](i:mg "law"=some (.ref fa))(h:g6 K mg "law" st ["script"])
  (j:∀(dn c g:Value)(an:Option Addr)(e cF v:Value),aoI (an6 "law" "law" (iS st) (fH st) (dr st) .none dn c g an e cF) ⟨[v],[]⟩=pure [(("script":Str),v)])
  (ok:∀(base:Heap),l6 base mg->∀(f:Addr)(a:anp),lj K "law" "law" st f a->fc l.prog w K mg base eR k f a ["script"] (xP K)) :
  ∃a:anp,(∀(s:amg)(v:Value),BindsTo s a ⟨[v],[]⟩ [("script",v)])/\∀base:Heap,K.In base->base.Ns amR mg->l6 base mg->fc l.prog w K mg base eR k fa a ["script"] (xP K):=by
 refine a4 λd=>?_
 obtain⟨f,a,F,b,m⟩:=h.ex;cases(amH (i.symm.trans m));refine d ⟨a,λs v=>?_,λbase _ _ bm=>ok base bm fa a F⟩;refine a4 λd=>?_
 obtain⟨dK,q,dn,c,g,an,e,cF,o,rfl,p,n⟩:=F.ex;exact d (.of_eq (j dn c g an e cF v))
def abd{P:amC}{w:World}{K:aN}{mg N:bf}{k:Nat}{fa a:Addr}{Z:anp}{c:amg}{vs:List Value}{ns:List Int}[aC.aY]
  (Y:K.In c.heap) (zl:c.heap.Ns amR mg) (f:c.heap.Ns aqb N) (YI:∀x:Str,x≠"__name__"->N x=am1 x) (Zf:c.heap.NoLimit) (aM:c.gens=#[])
  (A:c.heap.get? a=some { cls:=.type "list",data:=.seq vs.toArray }) (hi:aol vs ns) (hl:ns.length<=63) (aE:cO k aqh)
  (DC:l6 c.heap mg) (F:∀base:Heap,K.In base->base.Ns amR mg->l6 base mg->fc P w K mg base eR k fa Z ["script"] (xP K)) (rL:∀(s:amg)(u:Value),BindsTo s Z ⟨[u],[]⟩ [("script",u)])
  (i:∀p,aY.ir p->c.heap.get? p=some (W.tabObj #[])/\isCodeTable c.heap p/\K.lookup p=none) :
  aoT (model P w) aqh (.call (.ref fa) ⟨[.ref a],[]⟩) (λr g=>r=.ok (.ret (.bool true))/\OldK c.heap g.heap/\g.os=c.os/\aps g.gens) c:=by
 have X:=Rh hi;have Q:ns.length<=ami:=by rw[amS];omega
 have M:¬aY.ir a:=λz=>by have:=(i a z).1;rw[A]at this;cases this
 have j:∀H:ax,(∀b,H b=none\/(∃o xs,H b=some (.cL o (.l xs)))\/(aY.ir b/\H b=some (.gp #[])))->du K H a (ns.map V.int)->TabsOk H->gs P w H c.heap->(∀b,H b≠none->b=a\/aY.ir b)->(∀b,H b≠none->K.lookup b=none)->
   aoT (model P w) aqh (.call (.ref fa) ⟨[.ref a],[]⟩) (λr g=>r=.ok (.ret (.bool true))/\OldK c.heap g.heap/\g.os=c.os/\aps g.gens) c:=by
  intro H WV fw WZ ct U hW;have xk:∀{b:Addr}{o:Obj}{J:Array ao5}{bj:Nat},c.heap.get? b=some o->o.data=.dict J bj->H b=none:=λ{b o J bj} e d=>by
   cases q:H b with
   |none=>rfl|some u=>
    rcases U b (by rw[q];simp)with C|C
    .subst C
     rw[A]at e;cases e;cases d
    .rw[(i b C).1]at e;cases e
     cases d
  have G:∀{b:Addr}{m:bf},c.heap.Ns b m->(oT c.heap H).Ns b m:=λ{b m} ⟨o,J,bj,e,d,r⟩=>⟨o,J,bj,DQ e (xk e d),d,r⟩
  have R:K.In (oT c.heap H):=λb o e=>DQ (Y b o e) (by
   cases q:H b with
   |none=>rfl| some u=>rw[hW b (by rw[q];simp)]at e;cases e)
  have Dz:Mod K mg (oT c.heap H):=⟨R,G zl,⟨N,G f,YI⟩,let⟨et,ae,ag⟩:=Zf;⟨et,G ae,ag⟩⟩;have dZ:lh P w K mg (oT c.heap H) aqh [] c H:=⟨rfl,Dz,λb o e=>ad1 e,ao3 (Y8 _ _),trivial,λb f=>absurd (show b∈([]:List Addr)from f) (by simp),ct,.of_eq aM⟩;have WQ:l6 (oT c.heap H) mg:=by
   obtain⟨bm,o,cI,cK,hq,B,ju,vJ,L⟩:=DC.ex;refine⟨bm,o,cI,cK,hq,DQ B ?_,ju,vJ,L⟩
   cases q:H bm with
   |none=>rfl|some u=>
    rcases U bm (by rw[q];simp)with C|C
    .subst C
     rw[A]at B;cases B;cases L
    .rw[(i bm C).1]at B;cases B
     cases L
  refine aoF ((F _ R (G zl) WQ).run aqh [] c H ⟨[.ref a],[]⟩ [.ref a] [.ref a] (λv _=>v=.ay true) jU aE dZ (rL c (.ref a)) (.cons rfl .nil) ⟨a,ns,rfl,fw,hl,WZ,λ_=>rfl⟩) λr g h=>?_
  cases r with
  |error e=>exact amV h|ok aJ=>
   cases aJ with
   |next=>exact amV h
   |brk=>exact amV h|cont=>exact amV h|ret u=>
    obtain⟨v,H',os,bare,un,S,bw,q⟩:=h;have gX:=q;subst gX;obtain rfl:=bw;have n:∀b o,c.heap.get? b=some o->asItWas c.heap g.heap b o/\∃dq,g.heap.get? b=some dq:=λb o e=>by
     rcases WV b with z|⟨a',xs,z⟩|⟨t,z⟩
     .have:=un.keep b o e z (by intro w;exact absurd (show b∈([]:List Addr)from w) (by simp)) (by simp)
      exact⟨.inl this,o,this⟩
     .have O:=un.oL b a' _ z
      obtain⟨ao,_⟩:=ct b _ z;obtain⟨aA,_⟩:=S b _ O;rw[e]at ao;cases ao;exact⟨.inl aA,_,aA⟩
     .obtain⟨E,O⟩:=un.pD b #[] z
      have aA:=S b _ O;rw[(i b t).1]at e;cases e;exact⟨.inr (.inl ⟨(i b t).2.1,rfl,#[],E,rfl,aA⟩),_,aA⟩
    exact⟨rfl,⟨λb o e=>(n b o e).1,λb o e=>(n b o e).2⟩,os,bare⟩
 classical
 have T:∀(H:ax),(∀p,aY.ir p->H p=some (.gp #[]))->TabsOk H:=λH h p y=>⟨#[],h p y,trivial,λpos iR z=>by cases z⟩
 cases I:K.lookup a with
 |some o=>
  have e:=Y a o I;rw[A]at e;cases e;refine j (λb=>if aY.ir b then some (.gp #[])else none) (λb=>?_) (.inr ⟨_,vs.toArray,_,I,rfl,rfl,rfl,by rw[amn,hi.length];exact Q,by simpa using X⟩) (T _ λp y=>if_pos y) (λb u z=>?_) (λb z=>?_) λb z=>?_
  .by_cases t:aY.ir b
   .exact .inr (.inr ⟨t,if_pos t⟩)
   .exact .inl (if_neg t)
  .by_cases t:aY.ir b
   .have D:=(if_pos t).symm.trans z
    cases D;exact(i b t).1
   .have D:=(if_neg t).symm.trans z
    cases D
  .by_cases t:aY.ir b
   .exact .inr t
   .exact absurd (if_neg t) z
  .by_cases t:aY.ir b
   .exact(i b t).2.2
   .exact absurd (if_neg t) z
 |none=>
  refine j (λb=>if b=a then some (.cL { cls:=.type "list",data:=.seq vs.toArray } (.l (ns.map V.int)))else if aY.ir b then some (.gp #[])else none) (λb=>?_) (.inl (.inr ⟨{ cls:=.type "list",data:=.seq vs.toArray },if_pos rfl⟩)) (T _ λp y=>?_) (λb u z=>?_) (λb z=>?_) λb z=>?_
  .by_cases f:b=a
   .exact .inr (.inl ⟨_,_,if_pos f⟩)
   .by_cases t:aY.ir b
    .exact .inr (.inr ⟨t,by rw[if_neg f,if_pos t]⟩)
    .exact .inl (by rw[if_neg f,if_neg t])
  .rw[if_neg (by rintro rfl;exact M y),if_pos y]
  .by_cases f:b=a
   .have D:=(if_pos f).symm.trans z
    cases D;subst f;exact⟨A,by rw[amh];exact Q,vs,_,X,A⟩
   .try dsimp only at z
    rw[if_neg f]at z
    by_cases t:aY.ir b
    .rw[if_pos t]at z;cases z
     exact(i b t).1
    .rw[if_neg t]at z;cases z
  .by_cases f:b=a
   .exact .inl f
   .try dsimp only at z
    rw[if_neg f]at z
    by_cases t:aY.ir b
    .exact .inr t
    .rw[if_neg t]at z;exact absurd rfl z
  .by_cases f:b=a
   .rw[f];exact I
   .try dsimp only at z
    rw[if_neg f]at z
    by_cases t:aY.ir b
    .exact(i b t).2.2
    .rw[if_neg t]at z;exact absurd rfl z
def ah4{l:W.OpenLaw}{q:amC}{k:Nat}{j:List Str}{yn:(Str->Option Value)->Heap->Prop}{A:World->Heap->Prop}{d:DefRec}{K:Params->aN}(ln:List Str)(M:l.most=some 63)(E:d.params.defaults=[])(L:cO k aqh)
  (B:∀x∈ln,∃d,(recsOf q).find? (λe=>e.name==x)=some d) (J:∀p,W.noTabs (K p)=true)
  (nN:∀(w:World)(h:Heap),A w h->(K w.params).In h)
  (F:∀(w:World)(mg:bf)(fa:Addr)(h:Heap),(K w.params).In h->h.Ns amR mg->mg d.name=some (.ref fa)->
   ∃t:anp,(∀(s:amg)(u:Value),BindsTo s t ⟨[u],[]⟩ [("script",u)])/\∀base:Heap,(K w.params).In base->base.Ns amR mg->l6 base mg->@fc l.prog w (K w.params) mg base eR k fa t ["script"] (@xP (u4 w (K w.params) ln) (K w.params))) :
  W.WalkO q j yn A l.row.toRowW d [] (λf vs=>PySem.call f vs):=by
 refine G0.SS M E λw gY C mg cJ fa o pm cd Z a vs ns G Y aU hd gN wx H i m N=>?_
 have n:=nN w _ Y;obtain⟨t,P,oP⟩:=F w mg fa _ n G.T.g wx
 letI:=u4 w (K w.params) ln
 have D:l6 C.heap mg:=by
  obtain⟨bm,a',V,X,y,I,U,z⟩:=G.T.bmain;refine⟨bm,a',V,X,λq=>?_,y,I,U,z⟩;obtain⟨o,aD,bj,e,hd,_⟩:=G.T.g;rw[q,e]at y;cases y;rw[hd]at z;cases z
 refine abd n G.T.g G.T.b G.T.builtins G.T.nolimit N H i m L D oP P λp O=>?_
 obtain⟨x,R,c,S⟩:=O;obtain⟨d,hd⟩:=B x R;obtain⟨Q,r⟩:=W.tab_of G.T n hd S;refine⟨r,(Q.tab r).isCodeTable,?_⟩
 cases e:(K w.params).lookup p with
 |none=>rfl|some o=>
  have aA:=n p o e;rw[r]at aA;cases aA;exact absurd (show false=true from(amX.mp (J w.params) (p,_) (W.mem_of_lookupK e))) amm
def zH{K:aN}{h:Heap}{mg:bf}{x:Str}{st:Stmt}{ln:List Str}{f c P:Addr}{dK k:Value}{j B:Option Addr}{p:anp}{a3 E:Array (Option Value)}{vs:Array Value}{e:Str}{s cA tt:Tok}{b g:Int}{H:Bool}(X:K.In h)(G:h.Ns amR mg)(m:x∈ln)
  (a:api K amR x=some (some (.ref f))) (l:K.lookup f=some ⟨dK,j,.func p,a3⟩) (q:p.code=.ref c) (d:K.lookup c=some ⟨k,B,.fields vs,E⟩) (F:k=.type "code") (r:vs[11]? = some (.ref P)) (w:vs.getD 11 .none=.ref P)
  (t:vs.getD 18 .none=.str e s) (z:vs.getD 7 .none=.int b cA) (A:vs.getD 9 .none=.bool H) (u:vs.getD 10 .none=.int g tt) (ne:c≠P) (inj:∀y∈ln,oW K P y=true->y=x) {wl:World} :
  ∃c P,@q2 (u4 wl K ln) K c P (r2 x)/\∀(f:Addr)(dK:Value)(j:Option Addr)(dn i D:Value)(an:Option Addr)(o cF:Value)(C:Array (Option Value)),mg x=some (.ref f)->K.lookup f=some ⟨dK,j,.func (an6 x x (iS st) (fH st) (dr st) .none dn i D an o cF),C⟩->o=.ref c:=by
 subst F;have n:=xT a l q d r;exact⟨c,P,@q2.mk (u4 wl K ln) K c P (r2 x) (YM d r w t z A u ne) ⟨x,m,c,n⟩ (afT m n inj),UX X G a l q⟩
end az
namespace az
open PySem PySem.Spec aC PyProof.Rows
variable[aC.aY]
section
variable{X:aT}{k:Nat}{e:Expr}{ma:bp}{p pos kp:Pos}
def Rt{nm:Str}{y:String}{F:bz->R->M R}{c P:Addr}{q p1:Str}{params:apT}{body:Expr}{scope:Scope}{r:Pos}{m:bp}(G:scope.names=[(p1,.local)])(B:vu X nm (k+1) y F)(g:eW X nm)(l:X.mg nm=none)(a:cO (k+3) X.A)(L:q2 X.K c P q)(b:l6 X.base X.mg)(D:X.env.code=.ref c)
  (h:X.env.qual++amY "<lambda>"=q) (d:hI [p1] [p1] scope)
  (x:∀(c:Addr)(t n u:Value),aoI (W.kla_fn (amY "<lambda>") q params body scope [] t (.ref c) n) ⟨[u],[]⟩=pure [(p1,u)])
  (i:∀(f c:Addr)(A:amK)(s:amg)(H:ax),cO k (A.deeper (ao4 q scope s.heap.objs.size f (.ref c)))->ba (hr eR X.prog X.w X.K X.mg X.base [p1] q scope f (.ref c) A X.stack s H jU).gW body m)
  (j:ba X e ma) (E:defaultsOf params X.env=([],[]):=by rfl) (z:aqd scope X.env=pure []:=by rfl)
  (he:BQ X pos e:=by rfl)
  (aw:gg X e []:=by rfl)
  (o:gT X pos [e]:=by rfl) :
  ba X (.Call (.Name nm p) [e] [⟨some (amY "key"),.Lambda params body scope r,kp⟩] pos) (vO F (fnOf 1 1 (a9 m)) ma):=
 ⟨UR (N:=[p1]) B g l a L b D h d x (λf c A s H a=>(i f c A s H a).un) j.un E z he aw o⟩
end
end az
namespace az
open PySem PySem.Spec aC PyProof.Rows
def p'(z:Str)(lo hi:Option Int):Str:=⟨(cutD z.cps.toList lo hi).toArray⟩
def Ft:R->Option Int->Option Int->M R
 |.v (.str z),lo,hi=>if z.length<=ami then pure (.v (.str (p' z lo hi)))else bad|_,_,_=>bad
@[simp] def tf(a:bp)(lo hi:mb)(U:aL):M R:=do
 let x <-a U
 let l <-lo U
 let h <-hi U
 Ft x l h
def part_of{v:Value}{o:Option Int}(h:apg v o):∃l:Option (Int×Tok),v=partValue l/\l.map (·.1)=o:=by
 cases h with
 |none=>exact⟨none,rfl,rfl⟩|int i t=>exact⟨some (i,t),rfl,rfl⟩
def QF(n d:Nat)(hd:d<=n)(o:Option Int):dg.cD n d o<=n:=by
 unfold dg.cD
 cases o with
 |none=>exact hd|some i=>simp only[];split<;>omega
def aft(z:Str)(lo hi:Option Int):(aob lo hi 1 z.length).filterMap (λx=>z.cps[x]?)=cutD z.cps.toList lo hi/\(aob lo hi 1 z.length).length=dg.cD z.length z.length hi-dg.cD z.length 0 lo:=by
 obtain⟨a,b,c⟩:=QO lo hi z.length;have e:aob lo hi 1 z.length=sliceRange (aok lo hi none z.length).1 (aok lo hi none z.length).2.1 1:=rfl;rw[e,a,b,sliceRange_one];refine⟨?_,by rw[amh,anz]⟩;rw[pick_run];unfold cutD;rw[show z.cps.toList.length=z.length from am0]
def U6{z:Str}{lo hi:Option Int}(h:dg.cD z.length z.length hi-dg.cD z.length 0 lo=z.length):p' z lo hi=z:=by
 have c:=QF z.length 0 (amT _) lo;have d:=QF z.length z.length (amj _) hi;have b:z.cps.toList.length=z.length:=am0;unfold p' cutD;rw[b];have a:dg.cD z.length 0 lo=0\/z.length=0:=by omega
 have:(z.cps.toList.drop (dg.cD z.length 0 lo)).take (dg.cD z.length z.length hi-dg.cD z.length 0 lo)=z.cps.toList:=by
  rcases a with a|a
  .rw[a,apN,anw (by omega)]
  .have:z.cps.toList=[]:=apI (by omega)
   rw[this];simp
 rw[this]
def U4(z:Str)(lo hi:Option Int):(p' z lo hi).length<=z.length:=by
 show(cutD z.cps.toList lo hi).toArray.size<=z.cps.size;rw[amn];unfold cutD;rw[anj,ank,am0];omega
def agA:ov X (λx lo hi H Q=>∃z,x=.str z/\z.length<=ami/\Q (.str (p' z lo hi)) H):=by
 rintro g s U H x v h i lo hi a3 Q I a aw pl d ⟨z,ex,hz,q⟩;subst ex;obtain⟨t,rfl⟩:=a;obtain⟨l,rfl,el⟩:=part_of pl;obtain⟨u,rfl,f⟩:=part_of d;refine⟨"str",_,slot_str_getitem.lookup,typeIs_str s z t,?_⟩;refine wpAny_getItem_str_slice (l:=l) (u:=u) (st:=none) aw rfl ?_;obtain⟨p1,cz⟩:=aft z lo hi;have bj:slicePicked z l u none=aob lo hi 1 z.length:=by
  unfold slicePicked;rw[el,f];rfl
 unfold sliceMade;rw[bj,cz]
 by_cases c:dg.cD z.length z.length hi-dg.cD z.length 0 lo=z.length
 .rw[if_pos (by simp[c])]
  rw[U6 c]at q;exact⟨.str z,H,I,⟨t,rfl⟩,q⟩
 .rw[if_neg (by simp[c])]
  show _<=ami/\_;rw[p1];refine⟨amN (U4 z lo hi) hz,.str (p' z lo hi),H,?_,⟨s.toks,rfl⟩,q⟩;exact I.kept (t':=s.toks+1) λb o e=>e
variable[aC.aY]
section
variable{X:aT}{e:Expr}{m:bp}{lo hi:Option Expr}{lQ mh:mb}{pos cz:Pos}
def aiy(he:ba X e m)(hl:p3 X lo lQ)(w:p3 X hi mh):ba X (.Subscript e (.Slice lo hi none cz) pos) (tf m lQ mh):=⟨ef (FN agA he.un hl.un w.un) λN H Q k=>by
 obtain⟨O,U,S,r,L,st,h,q⟩:=k;obtain⟨x,S1,n,d⟩:=M.inv h;clear h;obtain⟨l,a,o,b⟩:=M.inv d;clear d;obtain⟨u,G,p,h⟩:=M.inv b;clear b;refine⟨O,U,S,x,S1,st,n,λi y J B j f bt=>?_⟩;refine⟨i,U,S1,l,a,j,o,λs K D bQ=>?_⟩;refine⟨s,U,a,u,G,bQ,p,λA t E F=>?_⟩;have g:=(B.trans D).trans E;unfold Ft at h;split at h
 .rename_i z
  by_cases c:z.length<=ami
  .rw[if_pos c]at h
   cases h;cases(show y=.str z from f);exact⟨z,rfl,c,q A _ t g F rfl trivial⟩
  .rw[if_neg c]at h;cases h
 .cases h⟩
end
omit [aC.aY]in
@[simp] theorem alk{z:Str}{lo hi:Option Int}:Ft (.v (.str z)) lo hi=if z.length<=ami then pure (.v (.str (p' z lo hi)))else bad:=rfl
end az
namespace az
open PySem PySem.Spec aC PyProof.Rows
structure vr(P:amC)(w:World)(K:aN)(mg:bf)(x:Str)(ps:List (Str×Str)):Prop where
 ex:∃(a:Addr)(aD:Array ao5)(n:Nat),mg x=some (.ref a)/\anN a K=some { cls:=.type "dict",data:=.dict aD n }/\KeysOf (apo P w) aD/\
  ∀k fn,ps.lookup k=some fn->∃f,findBy ani aD k=some (.ref f)/\mg fn=some (.ref f)
@[simp] def CE(ps:List (Str×Str))(mk:bp)(U:aL):M R:=do
 let k <-mk U
 match k with
 |.v (.str z)=>match ps.lookup z with
  |some fn=>pure (.v (.fn fn))|none=>bad
 |_=>bad
@[simp] def CA(i:Nat)(fs:List (Str×bz))(ms:c3)(U:aL):M R:=match U[i]? with
 |some (.v (.fn f))=>match fs.lookup f with
  |some mf=>bo mf ms U|none=>bad
 |_=>bad
def ahn(mg:bf)(ps:List (Str×Str))(ty:TE):TE:=λU H Q=>ty U H λy a=>∃z fn f,y=.str z/\ps.lookup z=some fn/\mg fn=some (.ref f)/\Q (.ref f) a
variable[aC.aY]
section
variable{X:aT}{x:Str}{ps:List (Str×Str)}{i:Expr}{pos p:Pos}{ty:TE}{mk:bp}{j k:Nat}{e:Expr}{aD:List Expr}{ms:c3}{pp:List Str}{fs:List (Str×bz)}
omit [aC.aY]in
theorem afh(T:vr X.prog X.w X.K X.mg x ps)(l:eW X x)(hi:b3 X i ty)(aw:vz i)(B:fV x:=by decide):b3 X (.Subscript (.Name x p) i pos) (ahn X.mg ps ty):=by
 intro o s U H Q I h;refine a4 λb=>?_
 obtain⟨a,ds,n,E,hl,q,D⟩:=T.ex;refine b ?_;refine QX aqe.lookup aw (tY I l E ?_ B);refine cc (hi o s U H _ I h) λF s2 m=>?_
 refine a4 λb=>?_
 obtain⟨y,g,d,r,z,fn,f,u,el,A,bZ⟩:=m;subst u;obtain⟨t,rfl⟩:=r;have c:=d.gj a _ hl;obtain⟨G,ao,aA⟩:=D z fn el;rw[A]at aA;cases aA;refine b ⟨⟨_,c,rfl⟩,?_⟩;refine wpAny_getItem_of (knd:=apo X.prog X.w) ?_ ?_ ao ?_
 .show(z==z)=true
  simp
 .exact⟨_,ds,n,c,⟨rfl,rfl,rfl⟩,rfl,q,λ_=>rfl⟩
 .exact⟨.ref f,g,d.tok _,rfl,bZ⟩
omit [aC.aY]in
theorem aeX(hN:X.N[j]? = some x)(y:q_ X.env.scope x)(m:cO k X.A){t:gf}(o:ho X (e::aD) t)(E:fV x:=by decide)(J:(x==("__classdict__":Str))=false:=by decide)
  (he:gg X e aD:=by rfl) (D:gT X pos aD:=by rfl) :
  b3 X (.Call (.Name x p) (e::aD) [] pos) (λU H Q=>∃(f:Addr)(c:anp)(sp:ez),U[j]? = some (some (.ref f))/\fc X.prog X.w X.K X.mg X.base eR k f c pp sp/\Binds X.K c pp []/\an8 X.K (.ref f)=true/\t U H λvs a=>sp vs a Q jU):=by
 rintro d s U H Q I ⟨f,c,sp,G,F,b,kp,h⟩;refine anF (cc (Ar hN y E J d s U H (λv l=>v=.ref f/\l=H) I ⟨.ref f,G,rfl,rfl⟩) λu L n=>?_);obtain⟨v,a,B,z,ao,aA⟩:=n;subst ao aA;obtain rfl:=z;refine aqk I.ok.mod.tX kp (cc (o pos d L U a _ B h) λus s2 ⟨vs,M,g,r,q⟩=>⟨g.gj,?_⟩) he D;exact xE F m b .nil uN g r (by simpa only[am8]using q)
set_option tactic.hygienic true in
def Ru(T:vr X.prog X.w X.K X.mg x ps)(g:eW X x)(hi:ba X i mk)(aw:vz i:=by exact λ_ _=>rfl)(t:fV x:=by decide):ba X (.Subscript (.Name x p) i pos) (CE ps mk):=⟨ef (afh T g hi.un aw t) λB H Q m=>by
 refine a4 λo=>?_
 obtain⟨O,U,S,r,A,st,h,q⟩:=m;obtain⟨y,S1,n,h⟩:=M.inv h;split at h
 .rename_i z
  split at h
  .rename_i fn el
   cases h;obtain⟨_,_,_,_,_,_,a⟩:=T.ex;obtain⟨f,_,b⟩:=a z fn el;refine o ⟨O,U,S,_,_,st,n,λd v c u l s nn=>?_⟩;exact⟨z,fn,f,s,el,b,q d _ c u l ⟨f,rfl,b⟩ trivial⟩
  .cases h
 .cases h⟩
def aij(n:∀f mf,fs.lookup f=some mf->g8 X.prog X.w X.K X.mg X.base f pp k (hg X.K X.mg mf))(hN:X.N[j]? = some x)(B:q_ X.env.scope x)(o:cO k X.A)(z:g9 X (e::aD) ms)(E:fV x:=by decide)(J:(x==("__classdict__":Str))=false:=by decide)
  (he:gg X e aD:=by rfl) (D:gT X pos aD:=by rfl):ba X (.Call (.Name x p) (e::aD) [] pos) (CA j fs ms):=⟨ef (aeX hN B o z.un E J he D) λd H Q s=>by
  refine a4 λt=>?_
  obtain⟨O,U,S,r,u,st,h,q⟩:=s;unfold CA at h;split at h
  .rename_i f L
   split at h
   .rename_i mf el
    obtain⟨fa,G,F,b,kp,m⟩:=(n f mf el).ex;obtain⟨v,c,a,rfl,g⟩:=st.loc j _ L;have:a=fa:=by
     rw[m]at g;cases g;rfl
    subst this;have l:d[j]? = some (some (.ref a)):=by
     cases w:d[j]? with
     |none=>rw[w]at c;cases c
     |some y=>rw[w]at c;exact congrArg some c
    exact t ⟨a,G,_,l,F,b,kp,CG d H Q ⟨O,U,S,r,u,st,h,q⟩⟩
   .cases h
  .cases h⟩
end
omit [aC.aY]in
theorem lookup_all{α f:Type}[BEq α][LawfulBEq α]{P:α->f->Prop}:∀{l:List (α×f)},(∀x∈l,P x.1 x.2)->∀a b,l.lookup a=some b->P a b
 |[],_,_,_,h=>by cases h
 |(c,d)::l,C,a,b,h=>by
  rw[amy]at h;split at h
  .rename_i e
   cases h;rw[eq_of_beq e];exact C _ amu
  .exact lookup_all (λx g=>C x (amr _ g)) a b h
omit [aC.aY]in
theorem V1{P:amC}{w:World}{K:aN}{h:Heap}{mg:bf}{x:Str}{d:Addr}{b:Array ao5}{n:Nat}{ps:List (Str×Str)}(X:K.In h)(G:h.Ns amR mg)
  (a:api K amR x=some (some (.ref d))) (l:anN d K=some { cls:=.type "dict",data:=.dict b n }) (k:∀e∈b.toList,∃s,ani s e.key=true/\e.hash=hashStr w s)
  (f:∀p∈ps,∃f,api K d p.1=some (some (.ref f))/\api K amR p.2=some (some (.ref f))):vr P w K mg x ps:=by
 refine⟨d,b,n,apM X G a,l,λe he=>?_,lookup_all (P:=λk fn=>∃f,findBy ani b k=some (.ref f)/\mg fn=some (.ref f)) λp i=>?_⟩
 .obtain⟨s,c,g⟩:=k e (by simpa using he)
  exact⟨s,c,g⟩
 .obtain⟨f,c,g⟩:=f p i
  exact⟨f,W.find_K l c,apM X G g⟩
omit [aC.aY]in
@[simp] theorem ale:cf (.fn f)=.v (.fn f):=rfl
omit [aC.aY]in
theorem Ab{K:aN}{P a c:Addr}{x y:Str}(b:W.tabIn K y=some (c,a))(ne:a≠P)(h:oW K P y=true):y=x:=by
 unfold oW at h;rw[b]at h;exact absurd (eq_of_beq h) ne
end az
namespace az
open PySem PySem.Spec aC
def hM(b:Bool)(h:Heap)(i l:Addr)(k:Nat):Prop:=match b with
 |true=>h.IsTupleIter i l k|false=>h.IsListIter i l k
def ky(b:Bool)(h:Heap)(l:Addr)(xs:Array Value):Prop:=match b with
 |true=>h.IsTuple l xs|false=>h.IsList l xs
def hM.extBut(x:hM b h a l i)(aw:Heap.ExtBut c h h')(d:a≠c):hM b h' a l i:=by
 cases b with
 |true=>exact Heap.IsTupleIter.extBut x aw d|false=>exact Heap.IsListIter.extBut x aw d
def ky.extBut(x:ky b h a xs)(aw:Heap.ExtBut c h h')(d:a≠c):ky b h' a xs:=by
 cases b with
 |true=>exact Heap.IsTuple.extBut x aw d|false=>exact Heap.IsList.extBut x aw d
def hM.obj{h:Heap}(x:hM b h a l i):∃o vs,h.get? a=some o/\o.data=.fields vs:=by
 cases b with
 |true=>obtain⟨o,e,_,d⟩:=x;exact⟨o,_,e,d⟩
 |false=>obtain⟨o,e,_,d⟩:=x;exact⟨o,_,e,d⟩
def hM.at'{h h':Heap}(x:hM b h a l i)(k:∀o,h.get? a=some o->h'.get? a=some o):hM b h' a l i:=by
 cases b with
 |true=>obtain⟨o,e,r⟩:=x;exact⟨o,k o e,r⟩
 |false=>obtain⟨o,e,r⟩:=x;exact⟨o,k o e,r⟩
def ky.obj{h:Heap}(x:ky b h a xs):∃o n,h.get? a=some o/\o.data=.seq xs n:=by
 cases b with
 |true=>obtain⟨o,e,_,n,d⟩:=x;exact⟨o,n,e,d⟩
 |false=>obtain⟨o,e,_,n,d⟩:=x;exact⟨o,n,e,d⟩
section
variable{prog:amC}{w:World}{A:amK}{E:dv}{s:amg}
def Fh{b:Bool}{d l:Addr}{i:Nat}{a:Array Value}{Q:dv}(c:hM b s.heap d l i)(hl:ky b s.heap l a)
  (h:match a[i]? with
   |some x=>∀h',hM b h' d l (i+1)->ao1 d s.heap h'->Q x { s with heap:=h' }| none=>A.handled=none/\∀h' e,Heap.ExtBut d s.heap h'->(∃o,h'.get? e=some o/\o.cls=.type "StopIteration")->E (.ref e) { s with heap:=h' }):wpAny (model prog w) A (Builtin.SmallTypes.nextOf (.ref d)) Q E s:=by
 cases b with
 |false=>
  cases C:a[i]? with
  |some x=>rw[C]at h;exact wpAny_nextOf_list_item c hl C h|none=>rw[C]at h;exact wpAny_nextOf_list_end h.1 c hl C h.2
 |true=>
  obtain⟨o,f,k,hd⟩:=id c;obtain⟨m,j,_,nl,g⟩:=hl;refine mN (aor c.typeIs ap5 (aom ap5 c.typeIs F.entry_tuple_iterator_next ?_ (F.args_tuple_iterator_next_1 _)));show wpAny _ _ (field (.ref d) 0 >>= _) _ _ s;refine mN (aoj f hd rfl ?_);refine mN (aoj f hd rfl ?_);refine mN (anW j g ?_)
  cases C:a[i]? with
  |some x=>
   rw[C]at h;simp only[ap9,C];refine mN (wpAny_setField f hd (by simp) (aml ⟨x,rfl,aml (h _ ?_ (anr ..))⟩));exact⟨_,Heap.get?_update_self _ f (Obj.isFreed_of_fields (Obj.data_mapFields hd _)),(Obj.cls_mapFields ..).trans k,by rw[Obj.data_mapFields hd];simp[aoN]⟩
  |none=>
   rw[C]at h;simp only[ap9,C];refine mN (apA (mN (wpAny_setField f hd (by simp) ?_)));refine mN<|mN (apc ?_ (by size_fits))
   refine mN (wpAny_of_eq (by first|rfl|(rfl)) ?_);refine apc ?_ (by size_fits);refine mN (wpAny_handled ?_)
   first|rw[show A.in1.handled=none from h.1]|rw[h.1]
   refine mN (aml (wpAny_throw ?_));exact h.2 _ _ (((anr ..).extBut.push _).push _) ⟨_,amq _ rfl,rfl⟩
end
section
variable{prog:amC}{w:World}{A:amK}{E:dv}{s:amg}
def RV{J K:Bool}{z TI fF i j r t:Addr}{k1 k2:Nat}{xs L:Array Value}{a b:Value}{Q:Option Value->amg->Prop}(D:ZipApart z TI fF i j r t)
  (hz:IsZip s.heap z TI fF .none) (mx:apY s.heap TI (.ref i) (.ref j)) (nL:apY s.heap fF a b)
  (Z:hM J s.heap i r k1) (ag:hM K s.heap j t k2) (nP:ky J s.heap r xs) (kL:ky K s.heap t L)
  (h:match xs[k1]?,L[k2]? with
   |some x,some y=>∀h',IsZip h' z TI fF (aoN s.heap.objs.size)->apY h' fF x y->hM J h' i r (k1+1)->hM K h' j t (k2+1)->apY h' s.heap.objs.size x y->
    (∀c o,c≠z->c≠fF->c≠i->c≠j->s.heap.get? c=some o->h'.get? c=some o)->Q (some (.ref s.heap.objs.size)) { s with heap:=h' }
   |_,_=>A.handled=none/\∀h',(∀c o,c≠z->c≠fF->c≠i->c≠j->s.heap.get? c=some o->h'.get? c=some o)->Q none { s with heap:=h' }) :
  wpAny (model prog w) A (pyNext (.ref z)) Q E s:=by
 have U:s.TypeIs (.ref z) "zip":=⟨_,hz,rfl⟩;have fin:∀h' e,(∀h',(∀c o,c≠z->c≠fF->c≠i->c≠j->s.heap.get? c=some o->h'.get? c=some o)->Q none { s with heap:=h' })->(∀c o,c≠z->c≠fF->c≠i->c≠j->s.heap.get? c=some o->h'.get? c=some o)->(∃o,h'.get? e=some o/\o.cls=.type "StopIteration")->
   wpAny (model prog w) A (do
    if <-isInstance (.ref e) (.type "StopIteration")then pure none else throw (.ref e)) Q E { s with heap:=h' }:=λh' e oQ av aZ=>by
  obtain⟨o,aU,hc⟩:=aZ;refine mN (apr ⟨o,aU,hc⟩ isSubtype_stop ?_);exact aml (oQ _ av)
 refine mN (wpAny_attempt (aor U F.slot_zip_next (aom F.slot_zip_next U F.entry_zip_next ?_ (F.args_zip_next_1 _))));show wpAny _ _ (field (.ref z) 2 >>= _) _ _ _;refine mN (aoj hz rfl rfl ?_);refine mN (aoj hz rfl rfl ?_);refine mN (anW mx rfl ?_);refine mN<|mN (aoj hz rfl rfl (aml ?_))
 refine mN (apA ?_);refine mN (aoj hz rfl rfl ?_);refine mN (aow hz (by simp) λrT G d=>?_);refine mN<|mN (mN (wpAny_onRaise ?_))
 cases C:xs[k1]? with
 |none=>
  rw[C]at h;refine mN (Fh (Z.extBut d.extBut D.i1z) (nP.extBut d.extBut D.l1z) ?_);rw[C];refine⟨h.1,λrU e f he=>?_⟩;obtain⟨H,n,q⟩:=he;have T:=f _ _ D.i1z.symm G;have B:e≠z:=λx=>by subst x;rw[T]at n;cases n;simp at q
  exact aow T (by simp) λrV _ g=>fin rV e h.2 (λc o bh _ e0 _ x=>g.extBut _ _ bh (f _ _ e0 (d.extBut _ _ bh x))) ⟨H,g.extBut _ _ B n,q⟩
 |some x=>
  rw[C]at h;refine mN (Fh (Z.extBut d.extBut D.i1z) (nP.extBut d.extBut D.l1z) ?_);rw[C];refine λrU WJ f=>aml ?_
  have M:=f.extBut _ _ D.TOi1 (d.extBut _ _ D.TOz nL);refine mN (anW M rfl ?_);refine mN (wpAny_updateSeq_pair M λrV WY g=>?_);refine mN (aoU (aml ?_));refine mN (mN (wpAny_onRaise ?_));refine mN (Fh (((ag.extBut d.extBut D.i2z).extBut f.extBut D.i12.symm).extBut g.extBut D.TOi2.symm) (((kL.extBut d.extBut D.l2z).extBut f.extBut D.l2i1).extBut g.extBut D.l2TO) ?_)
  cases I:L[k2]? with
  |none=>
   rw[I]at h;refine⟨h.1,λD' e k he=>?_⟩;obtain⟨H,n,q⟩:=he;have V:=k _ _ D.i2z.symm (g.extBut _ _ D.TOz.symm (f.extBut _ _ D.i1z.symm G));have B:e≠z:=λx=>by subst x;rw[V]at n;cases n;simp at q
   exact aow V (by simp) λm _ l=>fin m e h.2 (λc o bh ak e0 p x=>l.extBut _ _ bh (k _ _ p (g.extBut _ _ ak (f.extBut _ _ e0 (d.extBut _ _ bh x))))) ⟨H,l.extBut _ _ B n,q⟩
  |some y=>
   rw[I]at h;refine λD' WK k=>aml ?_
   have N:=k.extBut _ _ D.TOi2 WY;refine mN (anW N rfl ?_);refine mN (wpAny_updateSeq_pair N λm u l=>?_)
   replace u:apY m fF x y:=u
   refine mN (aoU (aml (aml ?_)));refine mN (anW u rfl ?_);refine mN (wpAny_newTuple ?_);have hsz:m.objs.size=s.heap.objs.size:=by rw[l.1,k.1,g.1,f.1,d.1]
   have W:=l.extBut _ _ D.TOz.symm (k.extBut _ _ D.i2z.symm (g.extBut _ _ D.TOz.symm (f.extBut _ _ D.i1z.symm G)));have Ze:∀c o,c≠z->c≠fF->c≠i->c≠j->s.heap.get? c=some o->m.get? c=some o:=λc o bh ak e0 p e=>
    l.extBut _ _ ak (k.extBut _ _ p (g.extBut _ _ ak (f.extBut _ _ e0 (d.extBut _ _ bh e))))
   have S:=amv W;refine mN ?_;have ZL:IsZip (m.push { cls:=.type "tuple",data:=.seq #[x,y] }) z TI fF .ellipsis:=B1 _ W;refine mN (aow ZL (by simp) λalI ZM P=>?_);refine aow ZM (by simp) λY X R=>?_
   have up:∀c o,c≠z->m.get? c=some o->Y.get? c=some o:=λc o bh e=>R.extBut _ _ bh (P.extBut _ _ bh (B1 _ e))
   have O:=R.extBut _ _ (Nat.ne_of_gt S) (P.extBut _ _ (Nat.ne_of_gt S) (amq _ rfl));rw[hsz]at X O;refine aml ⟨_,rfl,?_⟩;rw[hsz];exact aml (h Y X (up _ _ D.TOz u) ((((WJ.extBut g.extBut D.TOi1.symm).extBut k.extBut D.i12).extBut l.extBut D.TOi1.symm).at' λo e=>up _ o D.i1z e) ((WK.extBut l.extBut D.TOi2.symm).at' λo e=>up _ o D.i2z e) O λc o bh ak e0 p e=>up c o bh (Ze c o bh ak e0 p e))
end
section
variable{X:aT}{af:c4}{U:St}{H:ax}{s:amg}{h':Heap}
def Inv.Ra{t':Nat}{ch:List Addr}(I:Inv X af U H s)(k:∀b o,b∉ch->s.heap.get? b=some o->h'.get? b=some o)(d:∀b∈ch,hk X af H b):Inv X af U H { s with heap:=h',toks:=t' }:=by
 have f:∀b u,H b=some u->b∉ch:=λb u e z=>by rw[(d b z).1]at e;cases e
 refine I.step (λb i=>?_) (λb o _ _ a e _=>k b o a e) (λb o _ _ a e _=>⟨o.slots,k b o a e⟩) (λ_ _ _ _ n=>n)
  (λb o a e=>⟨o,k b o a e⟩) (λ_ _ e=>e) (λ_ _ _ e=>e) (λb ps e=>⟨#[],by rw[e];simp⟩) (λm w=>?_) (λb u e=>?_) I.bare
 .obtain⟨_,j,_,t,l,p⟩:=d b i
  exact⟨t,j,l,p⟩
 .obtain⟨o,g,bj,h,r⟩:=w
  exact⟨o,g,bj,k _ o (λz=>(d _ z).2.1 rfl) h,r⟩
 .refine(I.ct b u e).i7 (λc v a q=>k c v ?_ q) (λ_ q=>q) λ_ _ q=>q
  rcases a with z|z
  .rw[z];exact f b u e
  .exact f c _ z
end
def ia(b:Bool)(K:aN)(H:ax)(a:Addr)(xs:List V):Prop:=match b with
 |true=>dC K H a xs|false=>du K H a xs
def Inv.cT{s:amg}(I:Inv X C U H s)(h:ia b X.K H a xs):∃c:List Value,Vals xs c/\ky b s.heap a c.toArray:=by
 cases b with
 |true=>obtain⟨c,r,p,_⟩:=I.tuple h;exact⟨c,r,p⟩
 |false=>obtain⟨c,r,p,_⟩:=I.list h;exact⟨c,r,p.isList⟩
def Inv.QS{s:amg}(I:Inv X C U H s)(h:ia b X.K H a xs)(h':ia b X.K H a ys):xs=ys:=by
 cases b with
 |true=>exact I.Q_ h h'|false=>exact I.Ov h h'
noncomputable def He(K:aN)(d e:Bool)(b c:Addr):iy:=
  ⟨λi H=>(∃xs x,ia d K H b xs/\xs[i]? = some x)/\∃a y,ia e K H c a/\a[i]? = some y,
   λi H x f=>∃u v T,x=.ref T/\H T=none/\f=upd H T (.t [u,v])/\(∀xs,ia d K H b xs->xs[i]? = some u)/\∀a,ia e K H c a->a[i]? = some v,
   λi H=>∃xs a,ia d K H b xs/\ia e K H c a/\(xs.length<=i\/a.length<=i)⟩
def ahQ(cI cK:Bool){z TI fF g j T W:Addr}(D:ZipApart z TI fF g j T W):Turn P w K (.Tuple elts jg fB) (He K cI cK T W) [z,TI,fF,g,j] z
  (λi h=>IsZip h z TI fF .none/\apY h TI (.ref g) (.ref j)/\(∃a b,apY h fF a b)/\hM cI h g T i/\hM cK h j W i) where
 mem:=by simp
 obj:=λi h st b c=>by
  obtain⟨hz,l,⟨x,y,r⟩,m,n⟩:=st;rcases amw.mp c with rfl|c
  .exact⟨_,hz,λv z=>by cases z⟩
  rcases amw.mp c with rfl|c
  .exact⟨_,l,λv z=>by cases z⟩
  rcases amw.mp c with rfl|c
  .exact⟨_,r,λv z=>by cases z⟩
  rcases amw.mp c with rfl|c
  .obtain⟨o,vs,e,d⟩:=m.obj;exact⟨o,e,λv z=>by rw[d]at z;cases z⟩
  rcases amw.mp c with rfl|c
  .obtain⟨o,vs,e,d⟩:=n.obj;exact⟨o,e,λv z=>by rw[d]at z;cases z⟩
  cases c
 keep:=λi h h' ⟨hz,l,⟨x,y,r⟩,m,n⟩ k=>⟨k z (by simp) _ hz,k TI (by simp) _ l,⟨x,y,k fF (by simp) _ r⟩,m.at' λo e=>k g (by simp) o e,n.at' λo e=>k j (by simp) o e⟩
 item:=by
  rintro X Y hw Z hc i R s U H E I L ⟨hz,l,⟨Hp,kz,r⟩,m,n⟩ ⟨⟨xs,x,G,ah⟩,⟨ys,y,F,a0⟩⟩;subst Y hw Z;obtain⟨C,V,p⟩:=Inv.cT I G;obtain⟨NP,n5,q⟩:=Inv.cT I F;obtain⟨u,cv,eI⟩:=V.get ah;obtain⟨v,b5,S⟩:=n5.get a0;have Y2:∀b∈[z,fF,g,j],b∈[z,TI,fF,g,j]:=λb c=>by simp at c ⊢;rcases c with h|h|h|h<;>simp[h]
  refine RV D hz l r m n p q ?_;rw[aoG,aoG,cv,b5];refine λh' a1 a2 gv hp jc J=>⟨_,rfl,wpAny_letOwnedTupleGo_zip a1 λtG ZI B=>?_⟩
  have Q:=amv hz;have O:=amv r;have M:g<s.heap.objs.size:=by obtain⟨_,_,e,_⟩:=m.obj;exact amv e
  have N:j<s.heap.objs.size:=by obtain⟨_,_,e,_⟩:=n.obj;exact amv e
  have kL:Vals [x,y] [u,v]:=.cons eI (.cons S .nil);have bu:Inv X R U (upd H s.heap.objs.size (.t [x,y])) { s with heap:=s.heap.push { cls:=.type "tuple",data:=.seq #[u,v] } }:=
   I.laid (λb u e=>B1 _ e) (amj _) ⟨by show 2<=_;decide,[u,v],kL,⟨_,amq _ rfl,rfl,_,rfl⟩⟩
  have ck:Inv X R U (upd H s.heap.objs.size (.t [x,y])) { s with heap:=tG }:=by
   refine Inv.Ra (s:={ s with heap:=s.heap.push { cls:=.type "tuple",data:=.seq #[u,v] } }) (ch:=[z,fF,g,j]) bu (λb o c e=>?_) λb c=>?_
   .have Pd:b≠z:=λq=>c (by simp[q])
    refine B.extBut _ _ Pd ?_;rcases Heap.get?_push_cases e with⟨rfl,rfl⟩|e
    .exact jc
    .exact J b o Pd (λq=>c (by simp[q])) (λq=>c (by simp[q])) (λq=>c (by simp[q])) e
   .obtain⟨f0,f⟩:=L b (Y2 b c)
    refine⟨?_,f⟩;rw[c6]
    .exact f0
    .rintro rfl
     simp at c;rcases c with h|h|h|h
     .rw[<-h]at Q;exact am7 _ Q
     .rw[<-h]at O;exact am7 _ O
     .rw[<-h]at M;exact am7 _ M
     .rw[<-h]at N;exact am7 _ N
  refine⟨.ref s.heap.objs.size,_,ck,rfl,⟨x,y,_,rfl,(I.ct.fresh (amj s.heap.objs.size)),rfl,λkk h'=>by rw[Inv.QS I h' G];exact ah,λRQ h'=>by rw[Inv.QS I h' F];exact a0⟩,
   ⟨ZI,B.extBut _ _ D.TIz (J _ _ D.TIz D.TITO D.TIi1 D.TIi2 l),⟨_,_,B.extBut _ _ D.TOz a2⟩,gv.extBut B.extBut D.i1z,hp.extBut B.extBut D.i2z⟩,λb c=>?_⟩
  rw[c6]
  .exact(L b c).1
  .rintro rfl
   have A:=amv l;simp at c;rcases c with h|h|h|h|h
   .rw[<-h]at Q;exact am7 _ Q
   .rw[<-h]at A;exact am7 _ A
   .rw[<-h]at O;exact am7 _ O
   .rw[<-h]at M;exact am7 _ M
   .rw[<-h]at N;exact am7 _ N
 done:=by
  rintro X Y hw Z hc i R s U H E I L ⟨hz,l,⟨Hp,kz,r⟩,m,n⟩ ⟨xs,ys,G,F,hl⟩;subst Y hw Z;obtain⟨C,V,p⟩:=Inv.cT I G;obtain⟨NP,n5,q⟩:=Inv.cT I F;have ao:=V.length;have aA:=n5.length;refine RV D hz l r m n p q ?_;rw[aoG,aoG];split
  .rename_i bK cR
   have gv:=(nu.mp bK).1;have hp:=(nu.mp cR).1;omega
  .refine⟨I.ok.hd hc,λh' J=>⟨rfl,?_⟩⟩
   refine Inv.Ra (ch:=[z,fF,g,j]) I (λb o c e=>J b o (λq=>c (by simp[q])) (λq=>c (by simp[q])) (λq=>c (by simp[q])) (λq=>c (by simp[q])) e) λb c=>L b ?_
   simp at c ⊢;rcases c with h|h|h|h<;>simp[h]
 self:=λ_ _ _ _ _ ⟨hz,_⟩ h=>wpAny_pyIter_zip hz h
def zv(b:Bool)(l:Addr):Obj:=match b with
 |true=>{ cls:=.type "tuple_iterator",data:=.fields #[.ref l,.int 0 0] }
 |false=>{ cls:=.type "list_iterator",data:=.fields #[.ref l,.int 0 0] }
abbrev Bk(b:Bool)(h:Heap)(a:Addr):Heap:=h.push (zv b a)
abbrev Bl(c d:Bool)(h:Heap)(a b:Addr):Heap:=(Bk c h a).push (zv d b)
abbrev Bm(b d:Bool)(h:Heap)(a c:Addr):Heap:=(Bl b d h a c).push { cls:=.type "tuple",data:=.seq #[.ref h.objs.size,.ref (Bk b h a).objs.size] }
abbrev Bn(c d:Bool)(h:Heap)(a b:Addr):Heap:=(Bm c d h a b).push { cls:=.type "tuple",data:=.seq #[.none,.none] }
abbrev vj(c d:Bool)(h:Heap)(a b:Addr):Heap:=(Bn c d h a b).push { cls:=.type "zip",data:=.fields #[.none,.bool false,.bool false,.ref (Bl c d h a b).objs.size,.ref (Bm c d h a b).objs.size] }
def abU(m e:Bool)(a c:Addr)(xs l:Array Value) :
  Meets (aqi.«zip.__new__» ⟨[.type "zip",.ref a,.ref c],[]⟩) (λ_ R s=>ky m s.heap a xs/\ky e s.heap c l/\
   R (.ok (.ret (.ref (Bn m e s.heap a c).objs.size))) { s with heap:=vj m e s.heap a c }):=by
 cases m with
 |false=>
  cases e with
  |false=>exact meets_zip_new a c xs l|true=>
   refine .of_wp λprog w A R s h=>?_
   obtain⟨b,g,d,tk,os⟩:=s;obtain⟨i,f,h⟩:=h;have n:=sub_zip;have j:Heap.IsList (apk ⟨b,g,d,tk,os⟩) a xs:=i;have k:aqp (apk ⟨b.push { cls:=.type "list_iterator",data:=.fields #[.ref a,.int 0 0] },g,d,tk,os⟩) c l:=aq0 f _
   wp_walk using aof j,aos k
   exact⟨_,rfl,h⟩
 |true=>
  cases e with
  |false=>
   refine .of_wp λprog w A R s h=>?_
   obtain⟨b,g,d,tk,os⟩:=s;obtain⟨i,f,h⟩:=h;have n:=sub_zip;have j:aqp (apk ⟨b,g,d,tk,os⟩) a xs:=i;have k:Heap.IsList (apk ⟨b.push { cls:=.type "tuple_iterator",data:=.fields #[.ref a,.int 0 0] },g,d,tk,os⟩) c l:=Heap.IsList.push f _
   wp_walk using aos j,aof k
   exact⟨_,rfl,h⟩
  |true=>
   refine .of_wp λprog w A R s h=>?_
   obtain⟨b,g,d,tk,os⟩:=s;obtain⟨i,f,h⟩:=h;have n:=sub_zip;have j:aqp (apk ⟨b,g,d,tk,os⟩) a xs:=i;have k:aqp (apk ⟨b.push { cls:=.type "tuple_iterator",data:=.fields #[.ref a,.int 0 0] },g,d,tk,os⟩) c l:=aq0 f _
   wp_walk using aos j,aos k
   exact⟨_,rfl,h⟩
def hM.new{h:Heap}(e:h.get? a=some (zv b l)):hM b h a l 0:=by
 cases b with
 |true=>exact⟨_,e,rfl,rfl⟩|false=>exact⟨_,e,rfl,rfl⟩
section
variable{prog:amC}{w:World}{A:amK}{E:dv}{s:amg}
def UM{d f:Bool}{a e:Addr}{xs t:Array Value}{Q:dv}(z:ky d s.heap a xs)(y:ky f s.heap e t)
  (h:∀h',IsZip h' (s.heap.objs.size+4) (s.heap.objs.size+2) (s.heap.objs.size+3) .none->apY h' (s.heap.objs.size+2) (.ref s.heap.objs.size) (.ref (s.heap.objs.size+1))->
   apY h' (s.heap.objs.size+3) .none .none->hM d h' s.heap.objs.size a 0->hM f h' (s.heap.objs.size+1) e 0->
   (∀c o,s.heap.get? c=some o->h'.get? c=some o)->Q (.ref (s.heap.objs.size+4)) { s with heap:=h' }) :
  wpAny (model prog w) A (call (.type "zip") [.ref a,.ref e]) Q E s:=by
 refine callType_new F.called_zip (by decide) (F.typeCall_zip_2 _ _) (F.newCall_zip_2 _ _) (λobj=>F.args_object_init_3 obj _ _) F.entry_zip_new (abU d f a e xs t) ⟨z,y,?_⟩;have i:(Bk d s.heap a).objs.size=s.heap.objs.size+1:=aoE ..;have g:(Bl d f s.heap a e).objs.size=s.heap.objs.size+2:=by rw[aoE,i]
 have k:(Bm d f s.heap a e).objs.size=s.heap.objs.size+3:=by rw[aoE,g]
 have m:(Bn d f s.heap a e).objs.size=s.heap.objs.size+4:=by rw[aoE,k]
 have n:∀b l,(zv b l).isFreed=false:=λb l=>by cases b<;>rfl
 have j:(vj d f s.heap a e).get? (Bn d f s.heap a e).objs.size=some _:=amq _ rfl;have r:(vj d f s.heap a e).get? (Bm d f s.heap a e).objs.size=some _:=B1 _ (amq _ rfl);have q:(vj d f s.heap a e).get? (Bl d f s.heap a e).objs.size=some _:=B1 _ (B1 _ (amq _ rfl));have p:(vj d f s.heap a e).get? (Bk d s.heap a).objs.size=some _:=B1 _ (B1 _ (B1 _ (amq _ (n _ _))));have u:(vj d f s.heap a e).get? s.heap.objs.size=some _:=B1 _ (B1 _ (B1 _ (B1 _ (amq _ (n _ _)))));show _/\_;rw[g,k,m]at j;rw[i,g]at q;rw[k]at r;rw[i]at p;rw[m];exact⟨⟨_,j,rfl⟩,h _ j q r (.new u) (.new p) λc o x=>
  B1 _ (B1 _ (B1 _ (B1 _ (B1 _ x))))⟩
end
def Nw(K:aN)(f:gf):TI:=λU H R=>f U H λvs a=>∃d e b c,vs=[.ref b,.ref c]/\(∃xs,ia d K a b xs)/\(∃g,ia e K a c g)/\R (He K d e b c) a
def afr{X:aT}{i:List Expr}{W:Nat}{S:Pos}{p pos:Pos}(F:eW X "zip")(T:X.mg "zip"=none)(L:ho X [a,b] C)(aw:am2 [a,b] X.env=[(false,eval a X.env),(false,eval b X.env)]:=by rfl)(y:am2 [b] X.env=[(false,eval b X.env)]:=by rfl) :
  kx X (.Tuple i W S) (.Call (.Name "zip" p) [a,b] [] pos) (Nw X.K C):=by
 intro G s U H R I h;refine PyProof.Rows.Call_ (qu I F T PyProof.Rows.boot_zip (anK (cc (L pos G s U H _ I h) λus d ⟨vs,B,g,N,bE⟩=>?_) (by rw[aw,y]) (by rw[y];rfl)));refine a4 λf=>?_
 obtain⟨P,Q,o,u,e,⟨xs,J⟩,⟨ys,E⟩,q⟩:=bE;subst e
 cases N with
 |cons r t=>
  cases t with
  |cons O t=>
   cases t;cases r;cases O;obtain⟨V,Z,p1⟩:=Inv.cT g J;obtain⟨Y,n5,cz⟩:=Inv.cT g E;have z:o<d.heap.objs.size:=by obtain⟨_,_,e,_⟩:=p1.obj;exact amv e
   have A:u<d.heap.objs.size:=by obtain⟨_,_,e,_⟩:=cz.obj;exact amv e
   refine f ?_;refine UM p1 cz λh' a1 a2 gv hp jc M=>?_
   refine wpAny_pyIter_zip (s:={ d with heap:=h' }) a1 ?_;have D:ZipApart (d.heap.objs.size+4) (d.heap.objs.size+2) (d.heap.objs.size+3) d.heap.objs.size (d.heap.objs.size+1) o u:=by
    have up:∀{l:Addr}(k:Nat),l<d.heap.objs.size->l≠d.heap.objs.size+k:=λk h=>amM (amP h (aoL _ _))
    have mK:o≠d.heap.objs.size:=amM z;have w:u≠d.heap.objs.size:=amM A;have j:=λk=>up k z
    have m:=λk=>up k A
    generalize d.heap.objs.size=n at mK w j m ⊢;constructor<;>first|exact j 4|exact j 3|exact mK|exact j 1|exact m 4|exact m 3|exact w|exact m 1|(show(_:Nat)≠_;omega)
   refine⟨d.heap.objs.size+4,[d.heap.objs.size+4,d.heap.objs.size+2,d.heap.objs.size+3,d.heap.objs.size,d.heap.objs.size+1],_,_,B,rfl,g.kept (t':=d.toks) M,ahQ P Q D,⟨a1,a2,⟨_,_,gv⟩,hp,jc⟩,λc x=>?_,q⟩;have le:d.heap.objs.size<=c:=by
    simp at x;refine a4 λf=>?_
    rcases x with rfl|rfl|rfl|rfl|rfl
    .exact f (aoL _ _)
    .exact f (aoL _ _)
    .exact f (aoL _ _)
    .exact f (amj _)
    .exact f (aoL _ _)
   exact g.rC le (g.ct.fresh le)
end az
namespace az
open PySem PySem.Spec aC
variable[aC.aY]
def R.walk:R->Option (List D)
 |.v (.t xs)=>some xs|.v (.l xs)=>some xs|.fr xs=>some xs|.cj xs=>some xs|_=>none
def BI(b:Bool)(K:aN)(O:a7)(H:ax)(a:Addr)(c:List V):Prop:=match b with
 |true=>dC K H a c|false=>h9 K O H a c
def BI.cT{O:a7}(h:BI b K O H a ys):ia b K H a ys:=by
 cases b with
 |true=>exact h|false=>exact h9.cT h
def Ro{O:a7}{r:R}{v:V}(h:en K mg O H r v)(n:iA H₀ r v)(e:r.walk=some xs):∃b a c,v=.ref a/\BI b K (cL H₀ O) H a c/\bg K mg (cL H₀ O) H xs c:=by
 unfold R.walk at e;split at e
 .cases e;obtain⟨a,c,q,l,r⟩:=h;exact⟨true,a,c,q,l,r.de (iV _ _)⟩
 .cases e
  obtain⟨a,c,q,l,r⟩:=h;exact⟨false,a,c,q,.inl ⟨.inl l.1,.inl ((iV H₀ O).fr a l.2)⟩,r.de (iV _ _)⟩
 .cases e
  obtain⟨a,c,rfl,l,t,r⟩:=h;exact⟨false,a,c,rfl,.inl ⟨.inl l,.inl (y3 (n a rfl) t)⟩,r.de (iV _ _)⟩
 .cases e
  obtain⟨a,c,q,l,r⟩:=h;refine⟨false,a,c,q,?_,r.de (iV _ _)⟩;rcases l with⟨l,f⟩|l
  .refine .inl ⟨l,?_⟩
   rcases f with f|f
   .exact .inl ((iV H₀ O).fr a f)
   .exact .inr (by rw[rD (by rw[f];intro z;cases z)];exact f)
  .exact .inr l
 .cases e
end az
namespace az
open PySem PySem.Spec aC PyProof.Rows
variable[aC.aY]
noncomputable def rW(t:aL->M Bool)(el:bp)(U:aL):List (D×D)->M (List D)
 |[]=>pure []|d::ds=>do
  let b <-t ((U.set 0 (.v d.1)).set 1 (.v d.2))
  if b=true then do
   let r <-el ((U.set 0 (.v d.1)).set 1 (.v d.2))
   let x <-r.dat
   let xs <-rW t el U ds
   pure (x::xs)
  else rW t el U ds
def x6:List R->Option (List (D×D))
 |[x,y]=>match x.walk,y.walk with
  |some xs,some ys=>some (xs.zip ys)|_,_=>none
 |_=>none
@[simp] def vN(a:List Nat)(ms:c3)(t:aL->M Bool)(el:bp)(U:aL):M R:=do
 let rs <-ms U
 match x6 rs with
 |some ds=>do
  hR (ds.length<ami)
  let xs <-rW t el (iE 2 a U) ds
  pure (.fr xs)
 |none=>bad
set_option tactic.hygienic true in
def ajE(h:x6 rs=some ds):∃x y xs a,rs=[x,y]/\x.walk=some xs/\y.walk=some a/\ds=xs.zip a:=by
 unfold x6 at h;split at h
 .rename_i x y
  split at h
  .rename_i xs a ao aA
   cases h;exact⟨x,y,xs,a,rfl,ao,aA,rfl⟩
  .cases h
 .cases h
def ia.same{b:Bool}{K:aN}{H c:ax}(s:eF H c){a:Addr}{d:List V}(h:ia b K H a d):ia b K c a d:=by
 cases b with
 |true=>exact s.xH h|false=>exact s.seq h
omit [aC.aY]in
theorem NR(U:aL):∀ds,rW t el U ds=nU (λd=>some ((U.set 0 (.v d.1)).set 1 (.v d.2))) t el ds
 |[]=>rfl| d::ds=>by unfold rW nU;rw[NR U ds]
def UZ{K:aN}{mg:bf}{c:List Nat}{ms:c3}{t:aL->M Bool}{el:bp}:∀j H Q,gG K mg (vN c ms t el) j H Q->u3 2 c (Nw K (qN K mg ms)) (Dp K 2 (tE [0,1])) (pE K mg t) (gG K mg el) j H Q:=by
 rintro j H Q ⟨O,U,S,r,aq,st,h,q⟩;refine a4 λa=>?_
 obtain⟨rs,S1,J,h⟩:=M.inv h
 cases C:x6 rs with
 |none=>refine a ?_;rw[C]at h;cases h
 |some ds=>
  rw[C]at h;obtain⟨_,aQ,L,h⟩:=M.inv h;obtain⟨e,rfl⟩:=ro L;obtain⟨xs,hL,z,h⟩:=M.inv h;cases h;obtain⟨x,y,N,Bg,rfl,ex,I,rfl⟩:=ajE C;rw[NR]at z;refine a ⟨O,U,S,_,S1,st,J,λaG vs H1 B G l nn=>?_⟩;refine a4 λa=>?_
  obtain⟨v1,bN,rfl,F,v2,b1,rfl,V,re⟩:=l;cases re;obtain⟨Y,P,us,rfl,o,a1⟩:=Ro F nn.1 ex;obtain⟨Z,X,i,rfl,s2,a2⟩:=Ro V nn.2.1 I;refine a ⟨Y,Z,P,X,rfl,⟨us,o.cT⟩,⟨i,s2.cT⟩,JX (G.cL H) e (λb s=>⟨us,i,ia.same s o.cT,ia.same s s2.cT,?_⟩) (λk d lb f b eM bj g' m=>?_) z λf v b g m l nn=>q f v b (B.cL.trans g) m l (nn.back B.same)⟩
  .rw[List.length_zip,a1.len,a2.len];omega
  .cases bj
   refine a4 λa=>?_
   obtain⟨ao,aA⟩:=List.getElem?_zip_eq_some.mp eM;obtain⟨u,E,eI⟩:=(bg.go g' (a1.de (j2 _))).get ao;obtain⟨v,A,W⟩:=(bg.go g' (a2.de (j2 _))).get aA;have bE:=ia.same g'.same o.cT;have bZ:=ia.same g'.same s2.cT;refine a ⟨⟨⟨us,u,bE,E⟩,⟨i,v,bZ,A⟩⟩,λx aK R la j6=>?_⟩;refine a4 λa=>?_
   obtain⟨u',fq,T,rfl,D,rfl,zp,tP⟩:=la;have p:=zp us bE;rw[E]at p;cases p;have w:=tP i bZ;rw[A]at w;cases w;have n:Go f f b (upd b T (.t [u,v])):=Go.h2 D;exact a ⟨T,[u,v],rfl,dC.of d2,rfl,u,[v],rfl,v,[],rfl,rfl,j6 _ _ n (((m.h2 D).val (eI.go n)).val (W.go n)) (((nf.refl _).set rfl).set rfl)⟩
section
variable{X:aT}{scope esc:Scope}{EN N:List Str}{cap:List Nat}{elt a d8:Expr}{ifs:List Expr}{pos fB p dT p1 cz:Pos}{x y:Str}{t:aL->M Bool}{el:bp}{ms:c3}{k:Nat}
def UP(S:lg esc scope EN N 2 cap)(i:eW X "zip")(o:X.mg "zip"=none)(m:G5 X [a,d8] ms)(l:N[0]? = some x)(j:N[1]? = some y)
  (e:ox X scope N x) (f:ox X scope N y)
  (n:∀C b s H,Br (d9 X scope N C b s H) ifs t) (q:∀C b s H,jl (d9 X scope N C b s H) elt el)
  (he:X.env.scope=esc:=by rfl) (hN:X.N=EN:=by rfl) (d:X.calm=true:=by rfl) (aw:lB X (.Call (.Name "zip" p) [a,d8] [] dT):=by intro _;rfl)
  (h:am2 [a,d8] X.env=[(false,eval a X.env),(false,eval d8 X.env)]:=by rfl) (r:am2 [d8] X.env=[(false,eval d8 X.env)]:=by rfl)
  (c:Ho X scope N x p1 y cz:=by intro _ _ _ _;exact⟨rfl,rfl,rfl,rfl⟩) :
  jl X (.ListComp elt [⟨.Tuple [.Name x p1,.Name y cz] k fB,.Call (.Name "zip" p) [a,d8] [] dT,ifs,0⟩] scope pos) (vN cap ms t el):=
 ef (FL (g:=Dp X.K 2 (tE [0,1])) S (afr i o m h r)
  (λC b s H=>afm d (PO S.gC l (e C b s H).1 (PO S.gC j (f C b s H).1 afo (c C b s H).2.2.2 (.inr (f C b s H).2)) (c C b s H).2.2.1 (.inr (e C b s H).2)) (c C b s H).1 (c C b s H).2.1) n q he hN d aw) UZ
end
end az
namespace az
open PySem PySem.Spec aC PyProof.Rows
def Ut:am1 "max"=some (.builtin "max"):=by decide +kernel
def kmk_max_key(a v:Value):argsOk "max" ⟨[a],[(amY "key",v)]⟩:=by kernel_rfl
def Ex(mf:bz)(d:D):Option (List Int):=match(mf [d]).run []with
 |.ok (.v (.t C)) []=>nums C|_=>none
def abK(d:D)(kd:List Int):Option (D×List Int)->Option (D×List Int)
 |none=>some (d,kd)|some b=>if r3 kd b.2=true then some (d,kd)else some b
def o3(mf:bz):List D->Option (D×List Int)->Option D
 |[],b=>b.map Prod.fst|d::ds,b=>(Ex mf d).bind λkd=>o3 mf ds (abK d kd b)
def v'(mf:bz)(x:R):M R:=match x.fL with
 |some ds=>match o3 mf ds none with
  |some r=>if ds.length<64 then pure (.v r)else bad|none=>bad
 |none=>bad
abbrev CC(mf:bz)(ma:bp):bp:=vO v' mf ma
set_option tactic.hygienic true in
def aaH{mf:bz}{k:List Int}(h:Ex mf d=some k):∃a,(mf [d]).run []=.ok (.v (.t a)) []/\nums a=some k:=by
 unfold Ex at h;split at h
 .rename_i a e;exact⟨a,e,h⟩
 .cases h
variable[aC.aY]
section
variable{X:aT}{af:c4}{U:aC.St}{H:ax}{s:amg}{G:ax->Prop}{mf:bz}{f S it l:Addr}{k:Nat}{O:a7}
def next_item{xs:List V}{v:V}{E:dv}{A:amK}(I:Inv X af U H1 s)(J:du X.K H1 l xs)(p:xs[j]? = some v)(t:hk X af H1 it)(a:s.heap.IsListIter it l j)(hh:A.handled=none) :
  wpAny (model X.prog X.w) A (pyNext (.ref it)) (λr h=>∃u,r=some u/\RelV v u/\Inv X af U H1 h/\h.heap.IsListIter it l (j+1)) E s:=by
 obtain⟨us,q,pl,_⟩:=I.list J;have hl:=pl.isList;have P:l≠it:=by
  rintro rfl;obtain⟨o,e,c,_⟩:=a;obtain⟨Q,d,c',_⟩:=hl;rw[e]at d;cases d;rw[c]at c';injection c' with z;exact absurd z (by decide)
 obtain⟨u,g,y⟩:=q.get p;refine(aqP hh it l P us.toArray).item j s _ _ (by have:=(nu.mp g).1;simpa using this) ⟨a,hl⟩ λu' h' n x i N=>?_
 have e:some u'=some u:=by rw[<-g];simpa using x.symm
 cases e;obtain⟨B,D,R,M,F,L⟩:=t;exact⟨u,rfl,y,I.turned (λb o m e=>N b o (by simpa using m) e) B D M F L,i.1⟩
def adG{xs:List V}{E:dv}{A:amK}(I:Inv X af U H1 s)(u:du X.K H1 l xs)(i:j=xs.length)(n:hk X af H1 it)(a:s.heap.IsListIter it l j)(hh:A.handled=none) :
  wpAny (model X.prog X.w) A (pyNext (.ref it)) (λr J=>r=none/\Inv X af U H1 J) E s:=by
 obtain⟨us,m,pl,_⟩:=I.list u;have hl:=pl.isList;have F:l≠it:=by
  rintro rfl;obtain⟨o,e,c,_⟩:=a;obtain⟨L,d,c',_⟩:=hl;rw[e]at d;cases d;rw[c]at c';injection c' with z;exact absurd z (by decide)
 have B:j=us.toArray.size:=by rw[amn,i,m.length]
 rw[B]at a;refine(aqP hh it l F us.toArray).done s _ _ ⟨a,hl⟩ λh' h D=>?_
 obtain⟨p,q,M,y,t,x⟩:=n;exact⟨rfl,I.turned (λb o g e=>D b o (by simpa using g) e) p q y t x⟩
def aaP{i:a7}{v:V}{A:amK}(J:oi X k f G mf)(Q:cO k A.in1)(dZ:lh X.prog X.w X.K X.mg X.base A.in1 X.stack s H1)(I:Inv X af U H1 s)(e1:dh i H1)(L:G H1)(cb:Rep X.K X.mg i H1 d v)(eI:RelV v u)(hd:(mf [d]).run []=.ok (.v C) [])(D:hk X af H1 it)(y:s.heap.IsListIter it l j) :
  wpAny (model X.prog X.w) A.in1 (call (.ref f) [u]) (λu' s2=>∃(o:a7)(c:ax)(h:V),Inv X af U c s2/\Go i o H1 c/\dh o c/\G c/\Rep X.K X.mg o c C h/\RelV h u'/\hk X af c it/\s2.heap.IsListIter it l j) (λ_ _=>False) s:=by
 refine a4 λa=>?_
 obtain⟨B,M,ci,N⟩:=y;have P:=I.pinned (λb t=>by rw[amo.mp t];exact D) λb t=>by
  rw[amo.mp t];exact⟨B,M,λv z=>by rw[N]at z;cases z⟩
 refine a ?_;refine wpAny_call (aoF (J.2.2 A.in1 s H1 u v (λh p=>∃n,Go i n H1 p/\dh n p/\Rep X.K X.mg n p C h) Q dZ L eI ?_) λr s2 m=>?_)
 .refine⟨i,[d],.v C,[],e1,fT.nil,⟨v,[],rfl,?_,rfl⟩,hd,λn h p g Z W _=>⟨n,g,Z,W⟩⟩
  cases d<;>first|exact cb|exact amV cb|skip
  refine a4 λa=>?_
  obtain⟨x,zs,q,l,r⟩:=cb;exact a ⟨x,zs,q,l.cT,r⟩
 .refine a4 λa=>?_
  cases r with
  |error e=>exact a (amV m)|ok R=>
   cases R with
   |ret u'=>
    obtain⟨h,c,E,Y,o,F,dz,T⟩:=P.after m;have pin:=E.pin (it,B) (amZ _ (amZ _ (by unfold uP;simp[M])));exact a ⟨o,c,h,E.xY,F,dz,J.1 _ _ F.same L,T,Y,⟨pin.2.1,D.2⟩,⟨B,pin.1,ci,N⟩⟩
   |next=>exact a (amV m)
   |brk=>exact a (amV m)|cont=>exact a (amV m)
def R2(K:aN)(mg:bf)(O:a7)(H:ax):Option (D×List Int)->List V->Prop
 |none,zs=>zs=[]|some b,zs=>∃v a,zs=[v,a]/\Rep K mg O H b.1 v/\Rep K mg O H (.t (b.2.map D.int)) a
structure G1(X:aT)(af:c4)(U:aC.St)(G:ax->Prop)(O:a7)(H:ax)(S it l:Addr)(j:Nat)(b:Option (D×List Int))(s':amg):Prop where
 ex:∃ai H' zs,Inv X af U H' s'/\Go O ai H H'/\dh ai H'/\G H'/\H' S=some (.l zs)/\R2 X.K X.mg ai H' b zs/\ai S=.dV/\hk X af H' it/\s'.heap.IsListIter it l j
def Hh(X:aT)(af:c4)(U:aC.St)(O:a7)(H:ax)(res:D)(u:Value)(c:amg):Prop:=
 ∃b a v,Inv X af U a c/\Go O b H a/\dh b a/\Rep X.K X.mg b a res v/\RelV v u
def af5{K:aN}{mg:bf}{O:a7}{H:ax}{c:List D}{b:List Int}{v:V}(r:Rep K mg O H (.t c) v)(e:nums c=some b):Rep K mg O H (.t (b.map D.int)) v:=by
 obtain⟨a,g,rfl,cT,d⟩:=r;have:=Ag d e;subst this;exact⟨a,_,rfl,cT,Qn b⟩
def Qq{K:aN}{mg:bf}{O:a7}{H:ax}{b:List Int}{v:V}(r:Rep K mg O H (.t (b.map D.int)) v):∃a,v=.ref a/\dC K H a (b.map V.int):=by
 obtain⟨a,c,rfl,cT,i⟩:=r;have:∀(b:List Int)(c:List V),bg K mg O H (b.map D.int) c->c=b.map V.int:=by
  intro b
  induction b with
  |nil=>intro c h;exact h|cons a t d=>
   intro c h;obtain⟨y,r,rfl,e,g⟩:=h;rw[show y=V.int a from e,d _ g];rfl
 rw[this b c i]at cT;exact⟨a,rfl,cT⟩
def vals2{v a:V}(h:Vals [v,a] its):∃u b,its=[u,b]/\RelV v u/\RelV a b:=by
 cases h with
 |cons d c=>cases c with
  |cons e g=>cases g;exact⟨_,_,rfl,d,e⟩
def T7{a:ax}{c:List Value}{v g:V}(I:Inv X af U a s)(j:a S=some (.l zs))(m:s.heap.get? S=some (anv "list" c.toArray yD))(i:RelV v u)(n:RelV g C) :
  Inv X af U (upd a S (.l [v,g])) { s with heap:=s.heap.update S (amO λ_=>#[u,C]) }:=by
 obtain⟨ak,d⟩:∃ak,(s.heap.update S (amO λ_=>#[u,C])).get? S=some (anv "list" #[u,C] ak):=⟨_,aou m λ_=>#[u,C]⟩;refine I.write (by rw[j];trivial) (.inl rfl) (λb o h e=>((anr s.heap S (amO λ_=>#[u,C])).2 b h).trans e) ⟨_,d⟩ ⟨by rw[amS];simp,[u,C],ak,.cons i (.cons n .nil),d⟩
def T6{a:ax}{c:List Value}(I:Inv X af U a s)(h:a S=some (.l zs))(i:s.heap.get? S=some (anv "list" c.toArray C)) :
  Inv X af U (upd a S (.l [])) { s with heap:=s.heap.update S (amO λ_=>#[]) }:=by
 obtain⟨ak,d⟩:∃ak,(s.heap.update S (amO λ_=>(#[]:Array Value))).get? S=some (anv "list" #[] ak):=⟨_,aou i λ_=>#[]⟩;refine I.write (by rw[h];trivial) (.inl rfl) (λb o g e=>((anr s.heap S (amO λ_=>(#[]:Array Value))).2 b g).trans e) ⟨_,d⟩ ⟨amT _,[],ak,.nil,d⟩
def Z7{h:Heap}(c:S≠it)(a:h.IsListIter it l j):(h.update S g).IsListIter it l j:=by
 obtain⟨e,d,b,i⟩:=a;exact⟨e,((anr h S g).2 it c.symm).trans d,b,i⟩
def V6{o:eY}(b:S≠it)(a:hk X af H1 it):hk X af (upd H1 S o) it:=⟨by rw[c6 b.symm];exact a.1,a.2⟩
def abT{res:D}(gy:oi X k f G mf)(V:cO (k+1) X.A)(M':H S=none)(wh:S≠it)(ra:bg X.K X.mg O H ds xs)(hl:du X.K H l xs) :
  ∀(r:List D)(j:Nat)(b:Option (D×List Int))(q:amg),ds.drop j=r->G1 X af U G O H S it l j b q->j<=ds.length->o3 mf r b=some res->
   aoT (model X.prog X.w) X.A (.builtin "max.loop" ⟨[.ref it,.ref f,.ref S],[]⟩) (λr q=>∃u,r=.ok (.ret u)/\Hh X af U O H res u q) q:=by
 have alE:(toString "max"++toString ".loop":String)="max.loop":=by decide
 have hh:=V.in1.hd;intro r
 induction r with
 |nil=>
  rintro j (_|b) q P B bq i
  .cases i
  .cases i
   refine a4 λe=>?_
   obtain⟨aG,H1,_,x,d,e1,pV,g,⟨v,kv,rfl,cb,xD⟩,dE,M,o⟩:=B.ex;obtain⟨hsz,its,n,a,jF⟩:=x.ct S _ g;obtain⟨u,mJ,rfl,eI,Qv⟩:=vals2 a;refine e ?_;refine codeAny_builtin aqI<|mN (anW jF rfl ?_)
   refine mN (apO (anc (adG (E:=λ_ _=>False) x (d.same.seq hl) (by
    have:=congrArg anZ P;rw[ank,ans]at this;rw[ra.len];omega) M o hh) (λr s1 t=>?_) λ_ _ L=>L.elim))
   refine a4 λe=>?_
   obtain⟨rfl,y⟩:=t;obtain⟨_,lM,gk,ahZ,M1⟩:=y.ct S _ g;refine e ?_;refine mN (apC M1 rfl (hz:=by rw[amn,<-ahZ.length,amS];simp) (mN (aoU (aml ?_))));exact⟨u,rfl,aG,_,v,T6 y g M1,⟨xZ M' d.same g _,d.own,d.bP⟩,e1.eQ g,cb.eQ (by rw[dE];intro z;cases z) g,eI⟩
 |cons dz r W=>
  intro j b q P B bq i;refine a4 λe=>?_
  obtain⟨kd,gU,i⟩:=apb.1 i;obtain⟨bT,hm,aF⟩:=aaH gU;obtain⟨aG,H1,zs,x,d,e1,pV,g,bs,dE,M,o⟩:=B.ex;obtain⟨hsz,its,n,a,jF⟩:=x.ct S _ g;have J:ds[j]? = some dz:=by have:=congrArg (·[0]?) P;simpa using this
  have Q:ds.drop (j+1)=r:=by have:=congrArg (List.drop 1) P;simpa using this
  have T:=(nu.mp J).1;obtain⟨v2,ZC,xC⟩:=ra.get J;refine e ?_;refine codeAny_builtin aqI<|mN (anW jF rfl ?_)
  refine mN (apO (anc (next_item (E:=λ_ _=>False) x (d.same.seq hl) ZC M o hh) (λr s1 t=>?_) λ_ _ L=>L.elim));refine a4 λe=>?_
  obtain⟨u6,rfl,QB,y,Y'⟩:=t;refine e ?_;refine mN (apO (anG (anc (aaP gy V.in1 y.yV.in1 y e1 pV (xC.go d) QB hm M Y') (λahV s3 t=>?_) λ_ _ L=>L.elim)));refine a4 λe=>?_
  obtain⟨fu,c8,Y,F,h,qa,G9,Z,Qw,Mk,M6⟩:=t;have m:=h.same.at' _ _ g;have N:=(h.own S (by rw[g];intro z;cases z)).trans dE;obtain⟨ZK,Z_,kX,p,R⟩:=F.ct S _ m;have Qu:=af5 Z aF;have put:G1 X af U G O H S it l (j+1) (some (dz,kd)) { s3 with heap:=s3.heap.update S (amO λ_=>#[u6,ahV]) }:=
   ⟨fu,_,_,T7 F m R QB Qw,⟨xZ M' (d.trans h).same m _,(d.trans h).own,(d.trans h).bP⟩,qa.eQ m,gy.2.1 _ _ _ _ m G9,d2,⟨v2,Y,rfl,(xC.go (d.trans h)).eQ (by rw[N];intro z;cases z) m,Qu.eQ (by rw[N];intro z;cases z) m⟩,N,V6 wh Mk,Z7 wh M6⟩
  have hz:Z_.toArray.size<=ami:=by rw[amn,<-p.length];exact ZK
  cases b with
  |none=>
   obtain rfl:=bs;cases a;refine e ?_;refine mN (apC R rfl ?_);exact aml ⟨ap6 aoz _,W (j+1) _ _ Q put T i⟩
  |some b=>
   obtain⟨v,kv,rfl,cb,xD⟩:=bs;obtain⟨u,mJ,rfl,eI,Qv⟩:=vals2 a;obtain⟨gv,rfl,I⟩:=Qq Qu;obtain⟨a1,rfl,C⟩:=Qq (xD.go h);cases Qw;cases Qv;obtain⟨t3,Eb,FH,_⟩:=F.tuple I;obtain⟨t1,e',p1,_⟩:=F.tuple C;refine e ?_;refine mN (apO (anG (mN ((WH FH p1 (intsAre_of Eb) (intsAre_of e') V.in1.ahX ?_)))));refine mN (anG (anm ?_));refine mN (aoU (aml ?_));change o3 mf r (if r3 kd b.2=true then _ else _)=_ at i;generalize r3 kd b.2=c at *;cases c
   .refine mN (aoU ?_)
    exact aml ⟨ap6 aoz _,W (j+1) (some b) _ Q ⟨fu,c8,_,F,d.trans h,qa,G9,m,⟨v,.ref a1,rfl,cb.go h,xD.go h⟩,N,Mk,M6⟩ T i⟩
   .refine mN (apC R rfl (mN (aoU ?_)))
    exact aml ⟨ap6 aoz _,W (j+1) _ _ Q put T i⟩
def abS{E:dv}(I:Inv X af U H s)(n:dh O H)(t:bg X.K X.mg O H ds xs)(hl:du X.K H l xs)(h:oi X k f G mf)(j:G H)(m:cO (k+1) X.A)(p:o3 mf ds none=some res) :
  wpAny (model X.prog X.w) X.A (call (.builtin "max") [.ref l] [(amY "key",.ref f)]) (Hh X af U O H res) E s:=by
 obtain⟨us,x,pl,_⟩:=I.list hl;refine kmk_tree PySem.F.kind_max PySem.F.plain_max PySem.F.entry_max (kmk_max_key _ _)<|mN (wpAny_of_eq (show Builtin.Builtins.bindParams "max" ["key","default"] 0 ⟨[],[(amY "key",.ref f)]⟩=pure [some (.ref f),none]from rfl) ?_)
 refine mN (aml ?_);refine mN (aof pl.isList ?_);refine mN (wpAny_newList ?_ (amT _));have g:Inv X af U H { s with heap:=s.heap.push { cls:=.type "list_iterator",data:=.fields #[.ref l,.int 0 0] } }:=I.kept λb o e=>B1 _ e
 have q:(s.heap.push { cls:=.type "list_iterator",data:=.fields #[.ref l,.int 0 0] }).get? s.heap.objs.size=some _:=amq _ rfl;have hsz:(s.heap.push { cls:=.type "list_iterator",data:=.fields #[.ref l,.int 0 0] }).objs.size=s.heap.objs.size+1:=size_push' ..;generalize s.heap.push { cls:=.type "list_iterator",data:=.fields #[.ref l,.int 0 0] }=C at *;have c:=g.ct.fresh (amj _);have i:C.objs.size≠s.heap.objs.size:=by omega
 have a:Go O (gZ O C.objs.size .dV) H (upd H C.objs.size (.l [])):=Go.new c;refine aml ⟨ap6 aoz _,aoF (abT h m c i t hl ds 0 none _ rfl ⟨_,_,_,g.laid (o:=.l []) (λb o e=>B1 _ e) (amj _) ⟨amT _,[],0,.nil,amq _ rfl⟩,a,n.new c,h.1 _ _ a.same j,d2,rfl,m2,I.rC (amj _) (by rw[c6 i.symm];exact I.ct.fresh (amj _)),⟨_,B1 _ q,rfl,rfl⟩⟩ (amT _) p) λr y d=>?_⟩;obtain⟨u,rfl,d⟩:=d;exact d
end
section
variable{X:aT}{k:Nat}{mf:bz}
set_option tactic.hygienic true in
theorem aar:vu X "max" k "max" v' where
 Cx:=Ut
 nn:=by decide
 db:=by decide
 run:=λ{mf x r S s} h=>by
  unfold v' at h;refine a4 λe=>?_
  split at h
  .rename_i ds ao
   split at h
   .rename_i res aA
    by_cases c:ds.length<64
    .rw[if_pos c]at h
     cases h;refine e ⟨ds,ao,rfl,λI d p hl n q f=>cc (abS I d p hl n q (f.mono (by omega)) aA) λu s3 g=>?_⟩;refine a4 λe=>?_
     obtain⟨l,i,v,j,m,o,a,b⟩:=g;exact e ⟨l,i,v,j,m,o,a,trivial,b⟩
    .rw[if_neg c]at h;cases h
   .cases h
  .cases h
end
end az
namespace az
open PySem PySem.Spec aC PyProof.Rows
variable[aC.aY]
section
variable{X:aT}{scope esc:Scope}{EN N:List Str}{cap:List Nat}{elt a d8:Expr}{ifs:List Expr}{pos fB p dT p1 cz:Pos}{x y:Str}{t:aL->M Bool}{el:bp}{ms:c3}{k:Nat}
def aim(S:lg esc scope EN N 2 cap)(d:eW X "zip")(j:X.mg "zip"=none)(g:g9 X [a,d8] ms)(f:N[0]? = some x)(e:N[1]? = some y)
  (l:ox X scope N x) (q:ox X scope N y)
  (h:∀C b s H,q' (d9 X scope N C b s H) ifs t) (m:∀C b s H,ba (d9 X scope N C b s H) elt el)
  (he:X.env.scope=esc:=by rfl) (hN:X.N=EN:=by rfl) (i:X.calm=true:=by rfl) (aw:lB X (.Call (.Name "zip" p) [a,d8] [] dT):=by intro _;rfl)
  (c:am2 [a,d8] X.env=[(false,eval a X.env),(false,eval d8 X.env)]:=by rfl) (n:am2 [d8] X.env=[(false,eval d8 X.env)]:=by rfl)
  (o:Ho X scope N x p1 y cz:=by intro _ _ _ _;exact⟨rfl,rfl,rfl,rfl⟩) :
  ba X (.ListComp elt [⟨.Tuple [.Name x p1,.Name y cz] k fB,.Call (.Name "zip" p) [a,d8] [] dT,ifs,0⟩] scope pos) (vN cap ms t el):=
 ⟨UP S d j g.un f e l q (λC b s H=>(h C b s H).un) (λC b s H=>(m C b s H).un) he hN i aw c n o⟩
end
omit [aC.aY]in
omit [aC.aY]in
@[simp] theorem akV:CC mf ma U=(do
 let x <-ma U
 v' mf x):=rfl
section
open dg
variable{prog:amC}{w:World}{A:amK}{E:dv}{s:amg}
omit [aC.aY]in
theorem Wl{t a3:Addr}{a:Array Value}{c d:Value}{lo hi:Option Int}{Q:dv}(b:IsTup s.heap t a)(aw:s.heap.IsSliceOf a3 c d .none)(pl:apg c lo)(f:apg d hi)
  (hw:cD a.size 0 lo=0/\cD a.size a.size hi=a.size)
  (h:Q (.ref t) s):wpAny (model prog w) A (apt (.ref t) (.ref a3)) Q E s:=by
 obtain⟨os,g,i,j⟩:=id aw;have e:s.TypeIs (.ref a3) "slice":=⟨os,g,i⟩;unfold apt
 try with_reducible refine anG ?_
 skip
 refine mN (wpAny_sequenceKey b.typeIs (by decide) ?_);refine mN (aor (name:=amY "__getitem__") b.typeIs ano
  (aom ano b.typeIs entry_tuple_getitem ?_ (args_tuple_getitem _ _)))
 show wpAny _ _ (aoP (.ref t) >>= _) _ _ s;refine mN (tupleItemsOf_ b ?_);refine mN (wpAny_typeOf e ?_);rw[if_pos (by decide)];refine mN (QM aw pl f ?_);rw[hw.1,hw.2];show wpAny _ _ (if((((0:Nat):Int))==0&&(1:Int)==1&&(a.size-0)==a.size)=true then _ else _) _ _ s;rw[if_pos (by simp)];refine mN (m:=Builtin.Tuple.tupleIsExact _) (mN (wpAny_typeOf b.typeIs (aml ?_)));rw[if_pos (by decide)];refine mN (apA ?_);exact aml ⟨_,rfl,aml h⟩
omit [aC.aY]in
omit [aC.aY]in
omit [aC.aY]in
end
def af0(K:aN):V->Option Int->Option Int->ax->cY->Prop:=λx lo hi H Q=>∃a xs,x=.ref a/\dC K H a xs/\(dg.cD xs.length 0 lo=0/\dg.cD xs.length xs.length hi=xs.length)/\Q (.ref a) H
omit [aC.aY]in
theorem agB:ov X (af0 X.K):=by
 intro i s U H x v j k lo hi a3 Q I e aw pl g h;obtain⟨a,xs,rfl,f,hw,q⟩:=h;cases e;obtain⟨c,r,d,hz⟩:=I.tuple f;have b:c.toArray.size=xs.length:=by exact r.length.symm
 refine⟨"tuple",_,ano.lookup,d.typeIs,?_⟩;exact Wl d aw pl g (by rw[b];exact hw) ⟨.ref a,H,I,rfl,q⟩
def Fu(x:R)(lo hi:Option Int):M R:=
 match x with
 |.v (.t xs)=>pure (.v (.t (cutD xs lo hi)))|_=>bad
@[simp] def CD(a:bp)(lo hi:mb)(U:aL):M R:=do
 let x <-a U
 let l <-lo U
 let h <-hi U
 Fu x l h
def U3{α:Type}{xs:List α}{lo hi:Option Int}(h:dg.cD xs.length 0 lo=0/\dg.cD xs.length xs.length hi=xs.length):cutD xs lo hi=xs:=by
 unfold cutD;rw[h.1,h.2,apN,Nat.sub_zero,anw (amj _)]
section
variable{X:aT}{e st:Expr}{m:bp}{lo hi:Option Expr}{lQ mh:mb}{pos cz p:Pos}
set_option tactic.hygienic true in
theorem aiz(he:ba X e m)(hl:p3 X lo lQ)(K:p3 X hi mh):ba X (.Subscript e (.Slice lo hi none cz) pos) (CD m lQ mh):=⟨ef (FN (agB.or QL) he.un hl.un K.un) λV H Q A=>by
 refine a4 λb=>?_
 obtain⟨O,U,S,r,T,st,h,q⟩:=A;obtain⟨x,S1,D,F⟩:=M.inv h;obtain⟨l,k,E,B⟩:=M.inv F;obtain⟨u,N,G,h⟩:=M.inv B;refine b ⟨O,U,S,x,S1,st,D,λy Y P L z w bt=>?_⟩;refine⟨y,U,S1,l,k,z,E,λJ R o bQ=>?_⟩;refine⟨J,U,k,u,N,bQ,G,λn W s t=>?_⟩;have g:=(L.trans o).trans s;unfold Fu at h;refine a4 λb=>?_
 split at h
 .rename_i xs
  cases h;obtain⟨a,j,rfl,i,d⟩:=(w.go (o.trans s))
  by_cases c:dg.cD xs.length 0 l=0/\dg.cD xs.length xs.length u=xs.length
  .refine b ?_
   refine .inl ⟨a,j,rfl,i,by rw[d.len];exact c,?_⟩;rw[U3 c]at q;exact q n _ _ g t ⟨a,j,rfl,i,d⟩ trivial
  .exact b (.inr ⟨a,j,rfl,i,by rw[d.len];exact c,λp f=>q n _ _ (g.trans (Go.h2 f)) (t.h2 f) ⟨p,_,rfl,dC.of d2,(d.cut l u).go (Go.h2 f)⟩ trivial⟩)
 .cases h⟩
end
omit [aC.aY]in
@[simp] theorem ak9{l h:Option Int}:Fu (.v (.t xs)) l h=pure (.v (.t (cutD xs l h))):=rfl
end az
namespace az
open PySem PySem.Spec aC
variable[aC.aY]
section
variable{X:aT}{o e f value a b:Expr}{aD:List Expr}{c:Str}{ns:List Str}{mo:bp}{ms:c3}{mv Bc Bd:eo}{pos pos' apos dT:Pos}{g:List D->List R->M (R×List D)}{r:V->List V->ax->cY->Prop}{name:Str}{id:String}
set_option tactic.hygienic true in
theorem RR(T:nc X.K X.mg c ns){f:Str}(hf:f∈ns)(G:ba X o mo)(V:e7 X value mv)(aw:anU value (some (.Attribute o f pos')) pos.line X.env=pure false:=by rfl):f5 X (.Assign [.Attribute o f pos'] value pos) (d0 c f mo mv):=⟨hb (afC G.un V.un aw) λD Q H J=>by
 refine a4 λi=>?_
 obtain⟨O,U,S,aJ,aq,st,h,q⟩:=J;obtain⟨r,S1,M,R⟩:=N.inv h;obtain⟨d,aQ,P,L⟩:=N.inv R;obtain⟨x,hL,p,hc⟩:=N.inv L;obtain⟨a',nk,s,h⟩:=N.inv hc;refine i ⟨O,U,S,r,S1,st,M,λF v H1 I m W nn=>?_⟩;refine a4 λi=>?_
 obtain⟨cb,rfl⟩:=qb W nn P;obtain rfl:=(mo U).eH _ _ _ p;refine i ⟨cL H F,U,_,x,_,(m.cL H).s3,p,λY fC aK j bQ B bt=>?_⟩;refine a4 λi=>?_
 obtain⟨n,b,rfl,rfl,E,sn,Z⟩:=uH bQ B s;obtain rfl:=(f_ (.v (.ref n))).eH _ _ _ s;split at h
 .rename_i c' fs
  split at h
  .rename_i oS
   obtain⟨rfl,A⟩:=oS;cases h;obtain⟨C,t,y,w,u,l⟩:=Z;obtain⟨iJ,ao,aA,_,cR⟩:=T.ex;cases ao.symm.trans u.1;refine i ⟨b,C,t,y,rfl,w,aA,cR f hf,by rw[l.len];exact A,?_⟩;obtain⟨iu,jj⟩:=((m.cL H).go j bQ.cy).write (o:=.a' c' (il f d fs)) E w (by rintro(⟨_,z⟩|⟨_,_,z⟩)<;>cases z) (by intro _ z;cases z) (by intro _ z;cases z) λk=>
    ⟨C,t,_,d2,u,(P0 y).symm▸fE.il f (k _ _ (Rep.go j cb)) ⟨l.1,l.2.imp k⟩⟩
   exact q Y Q _ ((I.cL.trans j.dH).trans iu).ee jj
  .cases h
 .cases h⟩
theorem RS(slot:PySem.Slot "list" name id)(oU:typeOf (.builtin id)=pure (.type "method_descriptor"))(Z:vw X id r)(Y:sN X.K X.mg r g)(M:ba X o mo)(j:g9 X (e::aD) ms)
  (my:anS o name X.env (eval o X.env)=eval o X.env:=by rfl)
  (rO:((aoD dT (am2 (e::aD) X.env)).all (λx=>!x.1)&&(aqj dT (apf [] X.env)).all (λx=>x.1.isSome)
&&decide ((e::aD).length+([]:List ao9).length+(if([]:List ao9).isEmpty then 0 else 1)<30))=true:=by rfl)
  (mz:(apos.endLine==dT.line)=true:=by rfl) (aw:gg X e aD:=by rfl) (kM:gT X dT aD:=by rfl)
  (kO:anU (.Call (.Attribute o name apos) (e::aD) [] dT) none pos.line X.env=pure false:=by rfl):f5 X (.Expr (.Call (.Attribute o name apos) (e::aD) [] dT) pos) (n' g mo ms):=
 ⟨hb (FQ (FK aqy slot oU Z M.un j.un my rO mz aw kM) kO) λD R H P=>by
  refine a4 λi=>?_
  obtain⟨O,U,S,aJ,aq,st,h,q⟩:=P;obtain⟨x,S1,t,j⟩:=N.inv h;clear h;obtain⟨rs,aQ,u,Q⟩:=N.inv j;obtain⟨a',nk,w,h⟩:=N.inv Q;obtain rfl:=(mo U).eH _ _ _ t;obtain rfl:=(ms U).eH _ _ _ u;refine i ⟨O,U,_,x,_,st.s3,t,λJ fC m B s F bt=>?_⟩;refine a4 λi=>?_
  obtain⟨n,b,rfl,rfl,G,sn,W⟩:=uH s F w;obtain rfl:=(f_ (.v (.ref n))).eH _ _ _ w;split at h
  .rename_i xs
   obtain⟨⟨b1,E⟩,sY,V,h⟩:=N.inv h;cases h;obtain⟨zs,A,ra⟩:=W;refine i ⟨.inl ⟨rfl,_,du.of A⟩,J,U,_,rs,_,s,u,λy vs L d bQ T nn=>?_⟩;have zk:y.bP[n]? = some b:=by rw[d.bP];exact G
   have p:=d.same.at' _ _ A;refine Y y L m b xs zs rs vs _ _ _ E _ p (ra.go d) T nn V λv ws aD rw _=>?_
   subst aD;obtain⟨C,I⟩:=((st.go (B.trans d) bQ.cy).cL m).write (o:=.l E) zk p (by rintro(⟨_,z⟩|⟨_,_,z⟩)<;>cases z) (by intro _ z;cases z) (by intro _ z;cases z) λk=>⟨_,d2,rw.imp k⟩
   exact q _ R _ ((B.trans d.cL).dH.trans C).ee I
  .cases h⟩
theorem ai4{K:aN}{mg:bf}{r:ff}{f:R->R->M R}(G:d3 K mg r f):∀d H Q,qW K mg (g5 f Bc Bd) d H Q->sC r (qW K mg Bc) (qW K mg Bd) d H Q:=by
 rintro d H Q ⟨O,U,S,D,i,st,h,q⟩;obtain⟨x,S1,t,h⟩:=N.inv h;obtain⟨y,P,u,h⟩:=N.inv h;split at h
 .rename_i aw
  obtain rfl:=(f x y).eH _ _ _ h;refine⟨O,U,S,x,S1,st,t,λp F L l k n bt=>?_⟩;refine⟨p,U,S1,y,i,k,u,λB J s j bQ A T=>?_⟩;exact G B U i d s F J x y D i Q bQ.s3 (n.dH j k.s3.cy.rh aw) A h λw v m g E z nn=>q w v m ((l.trans j).trans g.dH) (bQ.go g E.cy) z (nn.dH (l.trans j))
 .cases h
def RP{op:Operator}{r:ff}{f:R->R->M R}(d:dX X (an0 op) r)(j:d3 X.K X.mg r f)(i:e7 X a Bc)(h:e7 X b Bd):e7 X (.BinOp a op b pos) (g5 f Bc Bd):=⟨ef (PK d i.un h.un) (ai4 j)⟩
end
def abc{P:amC}{w:World}{K:aN}{mg:bf}{base:Heap}{f:Addr}{c:anp}{k:Nat}{mf:d6}(F:fc P w K mg base eR k f c ["script"] (iq K mg mf))
  (h:∀ns:List Int,ns.length<=63->∃b,(mf [.l (ns.map D.int)]).run []=.ok (.v (.ay true)) b):fc P w K mg base eR k f c ["script"] (xP K):=by
 refine F.imp λvs H Q E i=>?_
 obtain⟨a,ns,e,o,g,cE,q⟩:=i;subst e;obtain⟨b,h'⟩:=h ns g;refine⟨⟨λ_=>.free,[]⟩,[.l (ns.map D.int)],_,[],b,⟨λa j=>absurd rfl j,cE,apa,λa m=>by cases m⟩,fT.nil,rfl,⟨_,_,rfl,⟨a,_,rfl,o.imp (λz=>⟨z,by simp⟩) id,Qn ns⟩,rfl⟩,h',λp v d _ _ _ _ n _=>?_⟩;cases(show v=.ay true from n);exact q d
end az
namespace az
open PySem PySem.Spec aC
def A9(o:dR):eo:=λ_=>do
 let S <-y9
 putN (S++[o])
 pure (.v (.ref S.length))
variable[aC.aY]
section
variable{K:aN}{mg:bf}{O:a7}{H H':ax}{S:bL}{U:aL}{ar:St}{p:Addr}{o:dR}
def dB.adopt(st:dB K mg O U S ar H)(F:p∉O.bP)(nl:∀i,O p≠.loc i)(same:∀b,b≠p->H' b=H b)(J:H' p≠none)(kp:H' p=H p\/∀u,H p=some u->¬Fix u/\∀j,u≠.l j)(lv:O p=.free\/O p=.out->∀u,H p=some u->(∀j,u≠.l j)/\¬Fix u)(bW:TabsOk H->TabsOk H')
  (a':(∀d v,Rep K mg O H d v->Rep K mg (hB O p) H' d v)->om K mg (hB O p) H' p o):dB K mg (hB O p) U (S++[o]) ar H'/\(hB O p).bP[S.length]? = some p:=by
 have k:=st.s3.cy;have A:(hB O p).bP[S.length]? = some p:=by show(O.bP++[p])[S.length]? = _;rw[<-st.full,ams (amj _),anQ];rfl
 have jC:ec O (hB O p) H H':=⟨λb u e h _=>by
  by_cases c:b=p
  .subst c
   rcases kp with kp|kp
   .rw[kp];exact e
   .obtain⟨k1,k2⟩:=kp u e
    exact h.elim (λz=>absurd z.2.2.choose_spec (k2 _)) λz=>absurd z k1
  .rw[same b c];exact e,λb j e f=>by
   rw[o' (by rintro rfl;exact(lv (.inl f) _ e).1 j rfl)];exact f,ao6 _ _⟩
 have f:∀d v,Rep K mg O H d v->Rep K mg (hB O p) H' d v:=λ_ _ z=>Rep.jC jC k.rh z
 have cb:∀{b:Addr}{a:List V},hK H b (.l a)->(O b=.free\/O b=.out)->b≠p:=λ{b a} h E=>by
  rintro rfl;rcases h with h|⟨x,h⟩
  .exact(lv E _ h).1 a rfl
  .exact(lv E _ h).2 (.inr ⟨_,_,rfl⟩)
 have G:∀{b:Addr}{a:List V},b≠p->hK H b (.l a)->hK H' b (.l a):=λ{b a} nb h=>by unfold hK;rw[same b nb];exact h
 refine⟨⟨⟨⟨λb D=>?_,bW k.tabs,O6 k F⟩,st.s3.len,λi s e=>?_,λn L e=>?_⟩,?_,λi t e=>?_⟩,A⟩
 .by_cases c:b=p
  .rw[c];exact J
  .rw[o' c]at D;rw[same b c];exact k.has b D
 .have lo:=st.s3.loc i s e
  cases s with
  |e=>exact trivial|v d=>obtain⟨v,q,r⟩:=lo;exact⟨v,q,f _ _ r⟩
  |dM M t=>
         obtain⟨b,a,q,y,g,r⟩:=lo;have nb:b≠p:=by rintro rfl;exact nl i y
         exact⟨b,a,q,(o' nb).trans y,by rw[same b nb];exact g,r.imp f⟩
  |cj t=>obtain⟨b,a,q,g,r⟩:=lo;exact⟨b,a,q,g.imp (λz=>⟨G (cb z.1 z.2) z.1,by rw[o' (cb z.1 z.2)];exact z.2⟩) id,r.imp f⟩
 .by_cases B:n<S.length
  .rw[amA B]at e
   obtain⟨b,ao,aA⟩:=st.s3.gF n L e;have nb:b≠p:=by rintro rfl;exact F (amD ao)
   exact⟨b,by show(O.bP++[p])[n]? = _;rw[amA (by rw[st.full];exact B)];exact ao,aA.all f λ_ l _=>by rw[same b nb];exact l⟩
  .rw[ams (by omega)]at e
   obtain rfl:n=S.length:=by
    have:=(nu.mp e).1;simp at this;omega
   rw[anQ]at e;cases e;exact⟨p,A,a' f⟩
 .show(O.bP++[p]).length=_
  rw[amf,amf,st.full];rfl
 .obtain⟨b,a,q,g,r⟩:=st.qS i t e
  exact⟨b,a,q,g.imp (λz=>⟨G (cb z.1 z.2.1) z.1,by rw[o' (cb z.1 z.2.1)];exact z.2.1,λm=>(amF.mp m).elim z.2.2 λw=>cb z.1 z.2.1 (amo.mp w)⟩) id,r.imp f⟩
theorem ey.adopt{d:a7}{H₀:ax}(g:ey d O H₀ H)(c:H₀ p=none)(same:∀b,b≠p->H' b=H b)(bW:TabsOk H->TabsOk H'):ey d (hB O p) H₀ H':=by
 have nb:∀{b:Addr},H₀ b≠none->b≠p:=λh=>by rintro rfl;exact h c
 exact⟨λb o e h n=>by rw[same b (nb (ip e))];exact g.cells b o e h n,λb a=>(o' (nb a)).trans (g.own b a),λb a=>by rw[same b (nb a)];exact g.has b a,
  λb ps e=>by rw[same b (nb (ip e))];exact g.cE b ps e,λt=>bW (g.bW t),g.bP.trans (ao6 _ _),λb m=>(amF.mp m).elim (g.new b) λz=>.inr (by rw[amo.mp z];exact c)⟩
end
section
variable{X:aT}{e:Expr}{m:eo}
def ajl(he:e7 X e m):e7 X e (l0 m):=⟨ef he.un λE H Q j=>by
 obtain⟨O,U,S,r,D,st,h,q⟩:=j;obtain⟨x,S1,k,b⟩:=N.inv h;refine⟨O,U,S,x,S1,st,k,λA v d s c p nn=>?_⟩;split at b
 .rename_i xs
  obtain⟨F,B,n,h⟩:=N.inv b;cases n;cases h;obtain⟨a,y,rfl,l,t,u⟩:=p;obtain⟨w,g⟩:=c.adopt (o:=.l xs) (c.s3.cy.rh.no t (by intro z;cases z)) (λi z=>by rw[t]at z;cases z) (λ_ _=>rfl) (ip l) (.inl rfl) (λz=>by rw[t]at z;rcases z with z|z<;>cases z) id λf=>⟨y,l,u.imp f⟩
  exact q _ _ d (s.adopt (nn a rfl) (λ_ _=>rfl) id) w ⟨a,rfl,g⟩ trivial
 .cases b⟩
end
end az
namespace az
open PySem PySem.Spec aC
variable[aC.aY]
structure Bv(K:aN)(x qual:Str)(st:Stmt)(f:Addr)(fd:anp):Prop where
 ex:∃(dK:Value)(od:Option Addr)(rt dn doc pm:Value)(an:Option Addr)(bV cF:Value)(gn:Array (Option Value)),
  fd=an6 x qual (iS st) (fH st) (dr st) rt dn doc pm an bV cF/\K.lookup f=some ⟨dK,od,.func fd,gn⟩/\apL K bV qual=true
 kp:an8 K (.ref f)=true
def Bv.ok{P:amC}{w:World}{K:aN}{mg:bf}{base:Heap}{x qual:Str}{st:Stmt}{f:Addr}{b:anp}{N ps:List Str}{k:Nat}{sp:ez}(F:Bv K x qual st f b)(S:hI N ps (dr st))(len:∀vs H Q E,sp vs H Q E->vs.length=ps.length)
  (l:∀(a:Value)(A:amK)(outer:List Env)(s:amg)(H:ax)(vs:List V)(Q:cY)(E:gu),cO k (A.deeper (anf qual (dr st) s.heap.objs.size f a))->sp vs H Q E->
   ∃t,iB (hr eR P w K mg base N qual (dr st) f a A outer s H E).gW (fH st) t/\t { bt:=λ_ c=>Q .aP c,cx:=Q } (start N vs) H):fc P w K mg base eR (k+1) f b ps sp:=by
 obtain⟨dK,n,p,dn,e,o,an,a,cF,m,rfl,j,g⟩:=F.ex;refine Di j g S len λA outer s H vs Q E d i=>?_
 obtain⟨t,h,q⟩:=l a A outer s H vs Q E d i;exact⟨t,h.gW,q⟩
structure Bs(K:aN)(mg:bf)(c m qual:Str)(st:Stmt)(ps:List Str):Prop where
 ex:∃C f fd,mg c=some (.ref C)/\jm K C/\Meth K C m f/\Bv K m qual st f fd/\Binds K fd ps []/\Binds K fd ps [.none]
structure Hb(P:amC)(w:World)(K:aN)(mg:bf)(base:Heap)(c m:Str)(ps:List Str)(k:Nat)(sp:ez):Prop where
 all:kq P w K mg base c m ps k sp
 ex:∃C f fd,mg c=some (.ref C)/\jm K C/\Meth K C m f/\fc P w K mg base eR k f fd ps sp/\Binds K fd ps [.none]
def W5{P:amC}{w:World}{K:aN}{mg:bf}{base:Heap}{c m qual:Str}{st:Stmt}{ps N:List Str}{k:Nat}{d:b7}{n nl:Nat}(g6:Bs K mg c m qual st ps)(g:hI N ps (dr st))(j:ps.length=n)(hl:N.length=nl)
  (l:∀(f:Addr)(a:Value)(A:amK)(outer:List Env)(s:amg)(H:ax)(E:gu),cO k (A.deeper (anf qual (dr st) s.heap.objs.size f a))->
   iC (hr eR P w K mg base N qual (dr st) f a A outer s H E).gW (fH st) d):Hb P w K mg base c m ps (k+1) (iq K mg (fnX n nl d)):=by
 obtain⟨C,f,e,et,cl,me,F,t,b⟩:=g6.ex;subst j hl;have ok:=F.ok (sp:=iq K mg (fnX ps.length N.length d)) g (λvs H Q E ⟨O,ds,r,S,x,y,dJ,u,o,h,q⟩=>o.r.len.trans (Df h)) λa A outer s H vs Q E i p=>⟨_,(l f a A outer s H E i).un,JC p⟩
 exact⟨⟨C,f,e,et,cl,me,ok,t⟩,⟨C,f,e,et,cl,me,ok,b⟩⟩
omit [aC.aY]in
theorem JU{K:aN}{h:Heap}{mg:bf}{c:Str}{C:Addr}{fs:List Str}(X:K.In h)(G:h.Ns amR mg)(a:api K amR c=some (some (.ref C)))
  (e4:aqc K C Str.empty=true) (hd:aqF K C=true) (po:W.plainOver K C=true) (i6:aoe K (.ref C) "__setattr__"=some (some (.builtin "object.__setattr__"))) (mk:W.makesIn K C=true) (wJ:an8 K (.ref C)=true)
  (na:∀f∈fs,aoe K (.ref C) f=some none):nc K mg c fs:=⟨C,apM X G a,⟨e4,hd,po,i6⟩,⟨mk,wJ⟩,na⟩
omit [aC.aY]in
theorem LQ{K:aN}{h:Heap}{mg:bf}{c m qual:Str}{C f:Addr}{fs ps:List Str}{st:Stmt}{r an:Option Addr}{a3:Array (Option Value)}{dK dn s d cd cF:Value}(X:K.In h)(G:h.Ns amR mg)(T:nc K mg c fs)(a:api K amR c=some (some (.ref C)))
  (e:aoe K (.ref C) m=some (some (.ref f))) (i:W.isFn K (.ref f)=true) (l:K.lookup f=some ⟨dK,r,.func (an6 m qual (iS st) (fH st) (dr st) .none dn s d an cd cF),a3⟩) (n:apL K cd qual=true) (k:an8 K (.ref f)=true)
  (o:∀(dn b d:Value)(an:Option Addr)(q cF:Value)(us:List Value),us.length=ps.length->aoI (an6 m qual (iS st) (fH st) (dr st) .none dn b d an q cF) ⟨us,[]⟩=pure (ps.zip us)):ya K mg c m qual st ps:=by
 obtain⟨t,g,p,_⟩:=T.ex;have j:=apM X G a;rw[g]at j;cases j;exact⟨_,f,_,g,p,⟨e,i,k⟩,y4 l n k,(y4 l n k).binds o⟩
omit [aC.aY]in
theorem LR{K:aN}{h:Heap}{mg:bf}{c m qual:Str}{C f T:Addr}{fs ps:List Str}{st:Stmt}{z an q:Option Addr}{a3 r:Array (Option Value)}{dK dn n b cd cF p:Value}{j dN:Nat}(X:K.In h)(G:h.Ns amR mg)(A:nc K mg c fs)(a:api K amR c=some (some (.ref C)))
  (e:aoe K (.ref C) m=some (some (.ref f))) (i:W.isFn K (.ref f)=true) (l:K.lookup f=some ⟨dK,z,.func (an6 m qual (iS st) (fH st) (dr st) (.ref T) dn n b an cd cF),a3⟩) (t:K.lookup T=some ⟨p,q,.seq #[.none] dN,r⟩) (F:apL K cd qual=true) (k:an8 K (.ref f)=true) (y:ps.length=j+1)
  (B:∀(dn d b:Value)(an:Option Addr)(u cF:Value)(us:List Value),us.length=j+1->∃g,aoI (an6 m qual (iS st) (fH st) (dr st) (.ref T) dn d b an u cF) ⟨us,[]⟩=seqItems? (.ref T) >>= g/\g (some #[.none])=pure (ps.zip us))
  (E:∀(dn d b:Value)(an:Option Addr)(u cF:Value)(us:List Value),us.length=j->∃g,aoI (an6 m qual (iS st) (fH st) (dr st) (.ref T) dn d b an u cF) ⟨us,[]⟩=seqItems? (.ref T) >>= g/\g (some #[.none])=pure (ps.zip (us++[.none]))):Bs K mg c m qual st ps:=by
 obtain⟨H,w,D,_⟩:=A.ex;have x:=apM X G a;rw[w]at x;cases x;refine⟨_,f,_,w,D,⟨e,i,k⟩,⟨⟨dK,z,_,dn,n,b,an,cd,cF,a3,rfl,l,F⟩,k⟩,λs us o hl=>?_,λs us o hl=>?_⟩
 .rw[am8]at hl ⊢
  obtain⟨g,ao,aA⟩:=B dn n b an cd cF us (hl.trans y);exact aqU rfl (o _ _ t) rfl ao aA
 .rw[amf,y]at hl
  obtain⟨g,ao,aA⟩:=E dn n b an cd cF us (by simpa using hl);exact aqU rfl (o _ _ t) rfl ao aA
end az
namespace az
open PySem PySem.Spec aC
noncomputable def vi(c:aL->N Bool)(b:b7):Nat->b7
 |0=>λ_=>gm
 |n+1=>λU=>do
  let t <-c U
  if t=true then do
   let a <-b U
   match a with
   |.bt U'=>vi c b n U'|.cF U'=>vi c b n U'|.bk U'=>pure (.bt U')|.cx r=>pure (.cx r)
  else pure (.bt U)
def A'(c:aL->N Bool)(b:b7):b7:=vi c b pJ
noncomputable def A_(mo mk:bp)(mv:eo):b7:=λU=>do
 let r <-mv U
 let d <-r.dat.up
 let x <-(mo U).up
 let k <-(mk U).up
 let o <-(f_ x).up
 match o,k with
 |.l xs,.v (.int i)=>(if 0<=i/\i<xs.length then(do
  AF x (.l (xs.set i.toNat d))
  pure (.bt U))else gm)
 |_,_=>gm
def Be(el:eo)(U:aL):List D->N (List D)
 |[]=>pure []|d::ds=>do
  let r <-el (U.set 0 (.v d))
  match r with
  |.v x=>do
   let xs <-Be el U ds
   pure (x::xs)
  |_=>gm
def x4(n:Nat)(a:List Nat)(b:fS)(el:eo):eo:=λU=>do
 let ds <-(b U).up
 if ds.length<ami then(do
  let xs <-Be el (iE n a U) ds
  pure (.fr xs))else gm
variable[aC.aY]
section
variable{K:aN}{mg:bf}{O ai aG:a7}{H H' H1:ax}{S aq:bL}{U:aL}{ar:St}{t:aL->N Bool}{b:b7}{l:Addr}{zs ws:List V}
theorem aiI:∀D ar H,ob K mg (A' t b) D ar H->Gs (RM K mg t) (ob K mg b) D ar H:=by
 rintro D ar H ⟨O,U,S,p,aq,st,h,q⟩;refine⟨λm o H'=>∃ai U' k,dB K mg ai U' k o H'/\gH O ai H H'/\(vi t b m U').run k=.ok p aq,⟨pJ,O,U,S,st,(ek.refl _ _).ee,h⟩,?_⟩;rintro m o H' ⟨ai,U',k,z,g',h⟩
 cases m with
 |zero=>cases h
 |succ n=>
  obtain⟨tt,S1,w,h⟩:=N.inv h;refine⟨ai,U',k,tt,S1,z,w,λaG H1 g s=>?_⟩;have g:=g'.trans g.ee
  cases tt with
  |false=>
   rw[if_neg amm]at h;cases h;exact nS (q aG o H1 g s)
  |true=>
   rw[if_pos rfl]at h;obtain⟨u,f,x,h⟩:=N.inv h;refine nT ⟨λj d=>∃c e f,dB K mg c e f j d/\gH O c H d/\(vi t b n e).run f=.ok p aq,?_,aG,U',S1,u,f,s,x,?_⟩
   .rintro j d ⟨c,e,f,a⟩
    exact⟨n,aoH _,c,e,f,a⟩
   .cases u with
    |bt e=>exact λc j d i bQ=>⟨c,e,f,bQ,g.trans i,h⟩
    |cF e=>exact λc j d i bQ=>⟨c,e,f,bQ,g.trans i,h⟩
    |bk e=>cases h;exact λc j d i bQ=>q c j d (g.trans i) bQ
    |cx r=>cases h;exact λc v d i A aA B y=>q c v d (g.trans i) A aA B y
def dB.va(st:dB K mg O U S ar H)(c:O l=.dV)(hl:H l=some (.l zs)):dB K mg O U S ar (upd H l (.l ws)):=
 ⟨st.s3.va c hl,st.full,λi xs e=>by
  obtain⟨a,d,ao,w,r⟩:=st.qS i xs e;refine⟨a,d,ao,w.imp (λz=>⟨?_,z.2⟩) id,r.eQ (by rw[c];intro z;cases z) hl⟩;have ne:a≠l:=by
   rintro rfl;rcases z.2.1 with f|f<;>rw[f]at c<;>cases c
  rcases z.1 with h|⟨o,h⟩
  .exact .inl (by rw[c6 ne];exact h)
  .exact .inr ⟨o,by rw[c6 ne];exact h⟩⟩
theorem dB.dS(st:dB K mg O U S ar H)(n:Nat)(c:List Nat):dB K mg (dS O) (iE n c U) S (gw n c ar) H:=⟨st.s3.dS n c,st.full,λi xs e=>by
 unfold iE at e;unfold gw
 by_cases hi:i<n
 .rw[amA (by simpa using hi),anI,if_pos hi]at e
  cases e
 .rw[ams (by simpa using hi),am9,amE]at e
  rw[ams (by simpa using hi),am9,amE]
  cases I:c[i-n]? with
  |none=>rw[I]at e;cases e
  |some k=>
   rw[I]at e;have f:rr U[k]?=.cj xs:=amH e;show ∃a g,(some (ar[k]?.join)).join=_/\_
   cases C:U[k]? with
   |none=>rw[C]at f;cases f
   |some h=>
    rw[C]at f
    cases h with
    |e=>cases f
    |v d=>cases f
    |cj zs=>
     cases f;obtain⟨a,g,q,w,r⟩:=st.qS k _ C;exact⟨a,g,q,w.imp (λz=>⟨z.1,lE O a,z.2.2⟩) id,r.de (j2 O)⟩
    |dM p zs=>
     cases f;obtain⟨a,g,q,o,l,r⟩:=st.s3.loc k _ C;exact⟨a,g,q,.inl ⟨.inl l,lE O a,st.s3.cy.rh.no o (by intro z;cases z)⟩,r.de (j2 O)⟩⟩
def u7(H1:ax)(aG ai:a7):a7:=⟨λb=>match H1 b with|none=>ai b|some _=>aG b,ai.bP⟩
omit [aC.aY]in
theorem Gz{b:Addr}(a:H1 b≠none):u7 H1 aG ai b=aG b:=by
 show(match H1 b with|none=>ai b|some _=>aG b)=aG b
 cases e:H1 b with
 |none=>exact absurd e a|some _=>rfl
omit [aC.aY]in
theorem A1{b:Addr}(a:H1 b=none):u7 H1 aG ai b=ai b:=by
 show(match H1 b with|none=>ai b|some _=>aG b)=ai b;rw[a]
theorem A0(g:ey (dS aG) ai H1 H'):ey aG (u7 H1 aG ai) H1 H':=⟨λb o e h n=>g.cells b o e h n,λ_ a=>Gz a,g.has,g.cE,g.bW,g.bP,g.new⟩
theorem Rf(g:ey (dS aG) ai H1 H'):l9 ai (u7 H1 aG ai):=⟨λb c=>by
 by_cases a:H1 b=none
 .rw[A1 a];exact c
 .rw[Gz a];exact oA.mp ((g.own b a).symm.trans c),rfl⟩
theorem ahW(c:dB K mg aG U S ar H1)(g:ey (dS aG) ai H1 H')(d:dh ai H')(dJ:fT K mg ai H' aq)(f:ai.bP.length=aq.length):dB K mg (u7 H1 aG ai) U aq ar H':=
 c.dH (A0 g) ⟨λb e=>by
  by_cases a:H1 b=none
  .rw[A1 a]at e;exact d.has b e
  .exact g.has b a,d.tabs,d.rh.1,λb m=>by
  by_cases a:H1 b=none
  .rw[A1 a];exact d.rh.2 b m
  .rw[Gz a]
   rcases g.new b m with z|z
   .exact c.s3.cy.rh.2 b z
   .exact absurd z a⟩ (dJ.all (λ_ _ z=>Rep.de (Rf g) z) rfl λ_ _ _ l _=>l) f
theorem ey.va(g:ey aG ai H1 H')(c:H1 l=none)(hl:H' l=some (.l zs)):ey aG ai H1 (upd H' l (.l ws)):=by
 have ne:∀b,H1 b≠none->b≠l:=λb a z=>a (z▸c)
 refine⟨λb o e h n=>?_,g.own,λb a=>?_,λb ps e=>?_,λt=>(g.bW t).put _ (λps z=>by rw[hl]at z;cases z) (λq z=>by rw[hl]at z;cases z),g.bP,g.new⟩
 .rw[c6 (ne b (ip e))];exact g.cells b o e h n
 .rw[c6 (ne b a)];exact g.has b a
 .rw[c6 (ne b (ip e))];exact g.cE b ps e
variable{n:Nat}{cap:List Nat}{it:fS}{el:eo}
inductive R9(K:aN)(mg:bf)(n:Nat)(cap:List Nat)(el:eo)(aG:a7)(U:aL)(aq:bL)(ar:St)(H1:ax)(A:Addr)(ds xs:List az.D)(k:Nat)(zs:List V)(H':ax):Prop
 |mk (ai:a7) (fg:bL) (acc kk:List az.D) (cp:dB K mg ai (iE n cap U) fg (gw n cap ar) H') (g':ey (dS aG) ai H1 H') (pC:ai A=.dV) (dD:H' A=some (.l zs)) (hz:zs.length<=k)
   (kg:bg K mg ai H' acc zs) (h:(Be el (iE n cap U) (ds.drop k)).run fg=.ok kk aq) (ex:acc++kk=xs)
theorem UY(aF:0<n):∀ar H Q,qW K mg (x4 n cap it el) ar H Q->u3 n cap (Gy K mg it) (mw 0) Gr (qW K mg el) ar H Q:=by
 rintro ar H Q ⟨O,U,S,r,aq,st,h,q⟩;refine a4 λc=>?_
 obtain⟨ds,S1,ae,h⟩:=N.inv h;refine c ?_
 by_cases f:ds.length<ami
 case neg=>rw[if_neg f]at h;cases h
 rw[if_pos f]at h;refine a4 λc=>?_
 obtain⟨xs,hL,bA,h⟩:=N.inv h;cases h;refine c ⟨O,U,S,ds,S1,st,ae,λaG H1 cw w Y o u T D i=>?_⟩;have alG:=T.len;have h5:dB K mg (gZ (az.dS aG) D .dV) (iE n cap U) S1 (gw n cap ar) (upd H1 D (.l [])):=(o.dS n cap).go (Go.new i) ((o.s3.dS n cap).new i).cy;refine⟨λk m zs H'=>m=w.length-k/\k<=w.length/\R9 K mg n cap el aG U aq ar H1 D ds xs k zs H',
  ⟨_,rfl,amT _,_,S1,[],xs,h5,(Go.new i).dH,m2,d2,amj _,rfl,bA,rfl⟩,?_⟩
 rintro k m zs H' ⟨rfl,av,ai,fg,E,kk,g,g',R,J,hz,C,h,ex⟩;have ee:=(A0 g').ee;refine a4 λc=>?_
 cases e:ds.drop k with
 |nil=>
  have hl:w.length<=k:=by
   have:=congrArg anZ e;rw[ank,ans]at this;omega
  rw[e]at h;cases h;rw[am8]at ex;subst ex;refine c ?_;refine .inl ⟨(u _ H' ee k).2 hl,?_⟩;refine q (u7 H1 aG ai) (.ref D) H' (Y.dH.trans (A0 g')) (ahW o g' g.s3.cy g.s3.gF g.full) ⟨D,zs,rfl,J,(A1 i).trans R,C.de (Rf g')⟩ λa cM=>?_
  cases cM;exact Y.same.free i
 |cons d kA=>
  obtain⟨y,L,bU,bD⟩:=(T.dH (A0 g') o.s3.cy.rh).get' e;have Z:k<w.length:=(nu.mp L).1;obtain⟨go,m6⟩:=(u _ H' ee k).1 Z;have G:Rep K mg ai H' d y:=(((T.de (j2 aG)).dH g' (o.s3.dS n cap).cy.rh).get' e).elim λGV z=>by
   refine a4 λc=>?_
   obtain⟨X,dF,_⟩:=z;rw[L]at X;cases X;exact c (dF)
  rw[e]at h;obtain⟨r,B,ag,h⟩:=N.inv h;refine c ?_;refine .inr ⟨go,λx aK la=>?_⟩;obtain⟨aA,W⟩:=m6 x aK la;subst aA;rw[L]at W;cases W;refine⟨(nf.refl _).set (by cases n with|zero=>exact absurd aF (am7 _)|succ j=>rfl),?_⟩;dsimp only[Gr];rw[if_pos rfl];refine⟨ai,_,fg,r,B,g.set (s:=.v d) (λxs z=>by cases z) ⟨y,rfl,G⟩,ag,λM v I p P bF nn=>?_⟩;refine a4 λc=>?_
  cases r with
  |v x=>
   obtain⟨Bg,Sp,hv,h⟩:=N.inv h;cases h;have F:D∉ai.bP:=g.s3.cy.rh.no R (by intro z;cases z);have A:I D=some (.l zs):=p.cells _ _ J (.inl F);have V:M D=.dV:=(p.own D (ip J)).trans R;have j5:=g'.trans p;have uZ:dB K mg M (iE n cap U) B (gw n cap ar) I:=g.dH p P.s3.cy P.s3.gF P.full;have rh:=g.s3.cy.rh;exact c ⟨A,by omega,w.length-(k+1),by omega,rfl,Z,M,B,E++[x],Bg,uZ.va V A,j5.va i A,V,d2,
    by rw[amf,anl];omega,((C.dH p rh).append (.one bF)).eQ (by rw[V];intro z;cases z) A,by rw[bD];exact hv,by rw[an5];exact ex⟩
  |_=>cases h
end
section
variable{X:aT}{o i value c:Expr}{body:List Stmt}{mo mk:bp}{mv:eo}{t:aL->N Bool}{b:b7}{pos pos':Pos}
def ajx(a:apR (model X.prog X.w) X.A X.env X.ej)(e:vH X c t)(d:iC X body b):f5 X (.While c body [] pos) (A' t b):=⟨hb (PW a e.un d.un) aiI⟩
set_option tactic.hygienic true in
theorem ajt(Q:ba X o mo)(W:ba X i mk)(Y:e7 X value mv)(aw:swapsWithSole [.Subscript o i pos'] value pos.line X.env=pure false:=by rfl)(hw:swappedStores [.Subscript o i pos'] value X.env=pure none:=by rfl)
  (f:(anu [.Subscript o i pos'] X.env).map (·.2)=[ao2 (.Subscript o i pos') X.env]:=by rfl)
  (e:∀v,ao2 (.Subscript o i pos') X.env v=(do
   let b6 <-aoC [v] (eval o X.env)
   let j <-aoC [v,b6] (eval i X.env)
   standAt pos'
   aoC [v,b6,j] (setItem b6 j v)
   release [v,b6,j] []):=by intro _;rfl):f5 X (.Assign [.Subscript o i pos'] value pos) (A_ mo mk mv):=⟨hb (PT Y.un (PM Q.un W.un set_list e) aw hw f) λD V H R=>by
 refine a4 λa=>?_
 obtain⟨O,U,S,aJ,aq,st,h,q⟩:=R;obtain⟨r,S1,f,e⟩:=N.inv h;clear h;obtain⟨d,aQ,T,s⟩:=N.inv e;clear e;obtain⟨x,hL,u,G⟩:=N.inv s;clear s;obtain⟨y,sY,A,hd⟩:=N.inv G;clear G;obtain⟨a',nk,w,h⟩:=N.inv hd;clear hd;refine a ⟨O,U,S,r,S1,st,f,λP v H1 g1 p Z nn=>?_⟩;refine a4 λa=>?_
 obtain⟨cb,rfl⟩:=qb (H₀:=H) Z nn T;obtain rfl:=(mo U).eH _ _ _ u;obtain rfl:=(mk U).eH _ _ _ A;refine a ⟨cL H P,U,_,x,_,(p.cL H).s3,u,λI fC aK g2 bQ L bt=>?_⟩;refine⟨I,U,_,y,_,bQ,A,λfu n_ c8 E F C mT=>?_⟩;have m:=g2.trans E;have g:=(p.cL H).go m F.cy;refine a4 λa=>?_
 obtain⟨n,b,rfl,rfl,M,sn,fN⟩:=uH F (L.go E) w;obtain rfl:=(f_ (.v (.ref n))).eH _ _ _ w;split at h
 .rename_i xs fb
  by_cases c:0<=fb/\fb<xs.length
  .rw[if_pos c]at h
   cases h;obtain⟨K,B,J⟩:=fN;cases(show n_=.int fb from C);refine a ⟨b,K,fb,fb.toNat,rfl,rfl,B,?_,?_⟩
   .unfold oX
    rw[if_pos c.1,if_pos (by rw[J.len];exact c.2)]
   obtain⟨iu,jj⟩:=g.write (u':=.l (K.set fb.toNat v)) (o:=.l (xs.set fb.toNat d)) M B (by rintro(⟨_,z⟩|⟨_,_,z⟩)<;>cases z) (by intro _ z;cases z) (by intro _ z;cases z) λk=>
    ⟨_,d2,bg.set (k _ _ (Rep.go m cb)) fb.toNat (J.imp k)⟩
   exact q fu V _ ((g1.cL.trans m.dH).trans iu).ee jj
  .rw[if_neg c]at h;cases h
 .cases h⟩
end
section
variable{X:aT}{scope esc:Scope}{EN N:List Str}{n:Nat}{cap:List Nat}{elt iter:Expr}{pos fB:Pos}{x:Str}{it:fS}{el:eo}
def ajh(S:lg esc scope EN N n cap)(c:0<n)(hi:yo X (.Name x fB) iter it)(d:N[0]? = some x)(b:ox X scope N x)
  (f:∀C a s H,e7 (d9 X scope N C a s H) elt el)
  (he:X.env.scope=esc:=by rfl) (hN:X.N=EN:=by rfl) (e:X.calm=true:=by rfl) (aw:lB X iter:=by intro _;rfl):e7 X (.ListComp elt [⟨.Name x fB,iter,[],0⟩] scope pos) (x4 n cap it el):=
 ⟨ef (FL S hi.un (λC a s H=>uO S.gC d (b C a s H).1 (.inr (b C a s H).2)) (λ_ _ _ _=>PL) (λC a s H=>(f C a s H).un) he hN e aw) (UY c)⟩
end
end az
namespace az
open PySem PySem.Spec aC PyProof.Rows
variable[aC.aY]
def qM(a:Int)(n:Nat):List V:=(amJ n).map λ(i:Nat)=>V.int (a+(i:Int))
def Az(a:Int)(n:Nat):List D:=(amJ n).map λ(i:Nat)=>D.int (a+(i:Int))
omit [aC.aY]in
theorem ah0{xs:List V}{us:List Value}(hl:xs.length=us.length)(h:∀(i:Nat)(x:V)(u:Value),xs[i]? = some x->us[i]? = some u->RelV x u):Vals xs us:=by
 induction xs generalizing us with
 |nil=>
  cases us with
  |nil=>exact .nil|cons u us=>cases hl
 |cons x xs a=>
  cases us with
  |nil=>cases hl
  |cons u us=>exact .cons (h 0 x u rfl rfl) (a (Nat.succ.inj hl) λi y w b c=>h (i+1) y w (by simpa using b) (by simpa using c))
omit [aC.aY]in
theorem agc{a:Int}:∀{n:Nat}{vs:List Value},vs.length=n->(∀(j:Nat)(v:Value),vs[j]? = some v->∃t,v=.int (a+j*1) t)->Vals (qM a n) vs:=by
 intro n vs hl h;refine ah0 (by unfold qM;rw[amh,anz,hl]) λi x u ao aA=>?_
 unfold qM at ao;rw[amE]at ao;have hi:i<n:=by rw[<-hl];exact(nu.mp aA).1
 rw[an7 hi]at ao;cases ao;obtain⟨t,rfl⟩:=h i u aA;exact⟨t,by rw[Int.mul_one]⟩
omit [aC.aY]in
theorem agb{K:aN}{mg:bf}{O:a7}{H:ax}{a:Int}(n:Nat):bg K mg O H (Az a n) (qM a n):=by
 unfold Az qM
 induction(amJ n)with
 |nil=>rfl|cons i r b=>exact⟨_,_,rfl,rfl,b⟩
section
variable{X:aT}{a b:Expr}{p eP pos pos':Pos}
omit [aC.aY]in
theorem ae6{y:gf}(S:X.calm=true)(F:eW X "list")(T:X.mg "list"=none)(D:eW X "range")(Y:X.mg "range"=none)(J:ho X [a,b] y)
  (aw:am2 [a,b] X.env=[(false,eval a X.env),(false,eval b X.env)]:=by rfl) (z:am2 [b] X.env=[(false,eval b X.env)]:=by rfl)
  (B:am2 [.Call (.Name "range" eP) [a,b] [] pos'] X.env=(false,eval (.Call (.Name "range" eP) [a,b] [] pos') X.env)::am2 [] X.env:=by rfl) :
  b3 X (.Call (.Name "list" p) [.Call (.Name "range" eP) [a,b] [] pos'] [] pos) (λU H Q=>y U H λvs d=>∃i j:Int,vs=[.int i,.int j]/\(-(2 ^ 62)<=i/\i<2 ^ 62/\-(2 ^ 62)<=j/\j<2 ^ 62)/\(j-i).toNat<=2 ^ 24/\(j-i).toNat<=ami/\∀l,d l=none->Q (.ref l) (upd d l (.l (qM i (j-i).toNat)))):=by
 intro x s U H Q I h;refine anF (qu I F T Cy ?_ (by decide) (by decide));refine anK ?_ B rfl;rw[B];show wpAny _ _ (spliced ((false,eval (.Call (.Name "range" eP) [a,b] [] pos') X.env)::aoD pos (am2 [] X.env))) _ _ s;refine apS (Call_ (qu I D Y boot_range (anK (cc (J pos' x s U H _ I h) λus f ⟨vs,d,N,M,bE⟩=>?_) (by rw[aw,z]) (by rw[z];rfl))));refine a4 λG=>?_
 obtain⟨i,j,e,⟨bE,bZ,P,V⟩,E,W,q⟩:=bE;subst e
 cases M with
 |cons r m=>
  cases m with
  |cons O m=>
   cases m;obtain⟨t,rfl⟩:=r;obtain⟨t',rfl⟩:=O;refine G ?_;refine call_range_2 ?_;refine ap7 ?_;have u:Inv X x U d { f with heap:=f.heap.push { cls:=.type "range",data:=.fields #[.int i t,.int j t',.int 1 f.toks] },toks:=f.toks+1 }:=N.kept λb o e=>B1 _ e
   refine PySem.call_list_range (n:=(j-i).toNat) (u.ok.hd S) (IsRange.new ..) (small_one bE bZ P V) (by rw[rangeSize_one];split<;>omega) E λh' tk g c K R A=>?_
   refine⟨.ref _,_,u.laid (t':=tk) K (amj _) (show h_ X.prog X.w _ h' _ (.l (qM i (j-i).toNat))from⟨by unfold qM;rw[amh,anz];exact W,g.toList,c,agc (by rw[am0];exact A.1) (λk v L=>A.2 k v (by rw[<-L,apu])),?_⟩),rfl,q _ (u.ct.fresh (amj _))⟩;rw[apB];exact R
end
def wQ:List R->M R
 |[.v (.int i),.v (.int j)]=>if(-(2 ^ 62)<=i/\i<2 ^ 62/\-(2 ^ 62)<=j/\j<2 ^ 62)/\(j-i).toNat<=2 ^ 24/\(j-i).toNat<=ami then pure (.fr (Az i (j-i).toNat))else bad|_=>bad
@[simp] def yE(ms:c3)(U:aL):M R:=do
 let rs <-ms U
 wQ rs
section
variable{X:aT}{a b:Expr}{p eP pos pos':Pos}{ms:c3}
set_option tactic.hygienic true in
def aio(y:X.calm=true)(m:eW X "list")(z:X.mg "list"=none)(g:eW X "range")(F:X.mg "range"=none)(t:g9 X [a,b] ms)
  (aw:am2 [a,b] X.env=[(false,eval a X.env),(false,eval b X.env)]:=by rfl) (A:am2 [b] X.env=[(false,eval b X.env)]:=by rfl)
  (B:am2 [.Call (.Name "range" eP) [a,b] [] pos'] X.env=(false,eval (.Call (.Name "range" eP) [a,b] [] pos') X.env)::am2 [] X.env:=by rfl) :
  ba X (.Call (.Name "list" p) [.Call (.Name "range" eP) [a,b] [] pos'] [] pos) (yE ms):=
 ⟨ef (ae6 y m z g F t.un aw A B) λK H Q o=>by
  refine a4 λe=>?_
  obtain⟨O,U,S,r,J,st,h,q⟩:=o;obtain⟨rs,S1,s,d⟩:=M.inv h;clear h;unfold wQ at d;split at d
  .rename_i i j
   by_cases c:(-(2 ^ 62)<=i/\i<2 ^ 62/\-(2 ^ 62)<=j/\j<2 ^ 62)/\(j-i).toNat<=2 ^ 24/\(j-i).toNat<=ami
   .rw[if_pos c]at d
    cases d;refine e ⟨O,U,S,_,_,st,s,λk vs G f n w nn=>?_⟩;refine a4 λe=>?_
    obtain⟨D,L,rfl,ao,E,u,rfl,aA,bK⟩:=w;cases(show u=[]from bK);cases(show D=.int i from ao);cases(show E=.int j from aA);refine e ⟨i,j,rfl,c.1,c.2.1,c.2.2,λl hl=>q (gZ k l .dV) _ _ (f.trans (Go.new hl)) (n.new hl) ⟨l,_,rfl,d2,m2,agb _⟩ λb x=>?_⟩;cases x;exact f.same.free hl
   .rw[if_neg c]at d;cases d
  .cases d⟩
end
omit [aC.aY]in
@[simp] theorem Vk{i j:Int}:wQ [.v (.int i),.v (.int j)]=if(-(2 ^ 62)<=i/\i<2 ^ 62/\-(2 ^ 62)<=j/\j<2 ^ 62)/\(j-i).toNat<=2 ^ 24/\(j-i).toNat<=ami then pure (.fr (Az i (j-i).toNat))else bad:=rfl
end az
namespace az
open PySem PySem.Spec aC PyProof.Rows
def VH{l b:Addr}{xs a:Array Value}{n m:Nat}{a3:Array (Option Value)}(t:¬(!xs.isEmpty&&aon (xs.size+a.size))=true)(f:xs.size<=ami)(i:xs.size+a.size<=ami+1) :
  Meets (aqi.«list.extend» ⟨[.ref l,.ref b],[]⟩) λ_ R s=>s.heap.get? l=some ⟨.type "list",none,.seq xs n,#[]⟩/\s.heap.get? b=some ⟨.type "list",none,.seq a m,a3⟩/\
   R (.ok (.ret .none)) { s with heap:=s.heap.update l (amO λx=>x++a),toks:=s.toks }:=
 .of_wp λprog w A R s h=>by
  obtain⟨j,g,d,tk,os⟩:=s;obtain⟨hl,e,h⟩:=h;have k:=AutoSeq1.idx_int;have o:=aqo;have r:=AutoSeq1.sub_list_list;have p:=AutoSeq1.sub_tuple_list;have q:=AutoSeq1.sub_list_tuple;have c:(xs++a).size<=ami+1:=by rw[Array.size_append];exact i
  wp_walk using(apC hl rfl (hz:=f) (_hz':=c)),aqq hl,aqq e
  exact⟨_,rfl,h⟩
def Qe(K:aN):V->List V->ax->cY->Prop:=λx vs H Q=>∃l b xs a,x=.ref l/\vs=[.ref b]/\H l=some (.l xs)/\du K H b a/\xs.length+a.length<=ami/\Q .aP (upd H l (.l (xs++a)))
def ab1:vw X "list.extend" (Qe X.K):=by
 intro t s U H x vs v us Q I i m h;refine a4 λj=>?_
 obtain⟨l,b,xs,D,rfl,rfl,f,p,hz,q⟩:=h;cases i;obtain⟨u,rfl,o⟩:=m.one;cases o;obtain⟨z,a,n,r,hl,e⟩:=I.t2 f;obtain⟨c,d,⟨⟨dK,B,k,A⟩,y,aA,bh,ak,e0⟩,_⟩:=I.list p;cases bh;cases ak;cases e0;have w:=d.length;have hsz:a.toArray.size+c.toArray.size<=ami:=by rw[amn,amn];omega
 have g:¬(!a.toArray.isEmpty&&aon (a.toArray.size+c.toArray.size))=true:=by
  rw[O9 hsz,Bool.and_false];exact amm
 refine j ?_;refine call_meets F.slot_list_extend ⟨_,e,rfl⟩ F.entry_list_extend (F.args_list_extend_2 _ _) (VH g (by rw[amn];omega) (by omega)) ⟨e,aA,?_⟩;refine⟨.aP,_,I.EP (its':=a++c) f e (by simp) (r.append d) ?_,rfl,q⟩;rw[amf];omega
variable[aC.aY]
def xW(xs:List D):List R->M (R×List D)
 |[r]=>match r.fL with
  |some a=>do
   hR (xs.length+a.length<=ami)
   pure (.v .aP,xs++a)
  |none=>bad
 |_=>bad
set_option tactic.hygienic true in
def abI{K:aN}{mg:bf}:sN K mg (Qe K) xW:=λO H H₀ l xs m rs vs S p s t Q hl a f n h q=>by
 unfold xW at h;split at h
 .rename_i r
  obtain⟨v,rfl,i⟩:=jM f;split at h
  .rename_i us e
   obtain⟨_,o,g,h⟩:=M.inv h;obtain⟨c,rfl⟩:=ro g;cases h;obtain⟨b,k,rfl,j,d⟩:=R.qv i e;exact⟨l,b,m,k,rfl,rfl,hl,j,by rw[a.len,d.len];exact c,q .aP _ rfl ((a.append d).de (iV _ _)) ⟨.aP,rfl,rfl⟩⟩
  .cases h
 .cases h
end az
namespace az
open PySem PySem.Spec aC PyProof.Rows
section
variable{X:aT}
def ch(c:Nat):Str:=⟨#[c]⟩
def sQ(z:Str):iy:=⟨λi _=>i<z.cps.size,λi H x a=>a=H/\∃c,z.cps[i]? = some c/\x=.str (ch c),λi _=>z.cps.size<=i⟩
theorem Q'{P:amC}{w:World}{K:aN}{cA:Expr}(z:Str)(t:Tok)(g:Addr):Turn P w K cA (sQ z) [g] g (λi h=>(h.IsStrIter g "str_ascii_iterator" z t i)\/h.IsStrIter g "str_iterator" z t i) where
 mem:=by simp
 obj:=λi h st b f=>by
  have e:b=g:=by simpa using f
  subst e;rcases st with⟨o,e,c,d⟩|⟨o,e,c,d⟩<;>exact⟨o,e,λv z=>by rw[d]at z;cases z⟩
 keep:=λi h h' st k=>by
  refine a4 λa=>?_
  rcases st with⟨o,e,c,d⟩|⟨o,e,c,d⟩
  .exact a (.inl ⟨o,k g (by simp) o e,c,d⟩)
  .exact a (.inr ⟨o,k g (by simp) o e,c,d⟩)
 item:=by
  intro X D hw F G i y s U H E I x st j;subst D hw F;have j:i<z.cps.size:=j;refine a4 λa=>?_
  obtain⟨n,p,L,u,q,r⟩:=x g (by simp);have l:z.cps[i]? = some z.cps[i]:=by simp[j]
  rcases st with st|st
  .refine a ?_
   refine wpAny_pyNext_ascii_item st l λh' m J=>?_
   have A:Inv X y U H { s with heap:=h',toks:=s.toks+1 }:=I.turned (t':=s.toks+1) (λb o f e=>(J.2 b f).trans e) n p u q r;refine a4 λa=>?_
   obtain⟨o,e,c,d⟩:=id m;exact a ⟨_,rfl,wc (s:={ s with heap:=h',toks:=s.toks+1 }) e c d (by decide) ⟨.str (ch z.cps[i]),H,A,⟨_,rfl⟩,⟨rfl,_,l,rfl⟩,.inl m,λb f=>(x b f).1⟩⟩
  .refine a ?_
   refine wpAny_pyNext_wide_item st l λh' m J=>?_
   have A:Inv X y U H { s with heap:=h',toks:=s.toks+1 }:=I.turned (t':=s.toks+1) (λb o f e=>(J.2 b f).trans e) n p u q r;refine a4 λa=>?_
   obtain⟨o,e,c,d⟩:=id m;exact a ⟨_,rfl,wc (s:={ s with heap:=h',toks:=s.toks+1 }) e c d (by decide) ⟨.str (ch z.cps[i]),H,A,⟨_,rfl⟩,⟨rfl,_,l,rfl⟩,.inr m,λb f=>(x b f).1⟩⟩
 done:=by
  intro X D hw F G i y s U H E I x st j;subst D hw F;have j:z.cps.size<=i:=j;refine a4 λa=>?_
  obtain⟨n,p,L,u,q,r⟩:=x g (by simp);have l:z.cps[i]? = none:=by simp[j]
  rcases st with st|st
  .exact a (wpAny_pyNext_ascii_end (I.ok.hd G) st l λh' B=>⟨rfl,I.turned (t':=s.toks) (λb o f e=>B b o f e) n p u q r⟩)
  .exact a (wpAny_pyNext_wide_end (I.ok.hd G) st l λh' B=>⟨rfl,I.turned (t':=s.toks) (λb o f e=>B b o f e) n p u q r⟩)
 self:=λ_ _ _ _ _ st h=>by
  refine a4 λa=>?_
  rcases st with st|st
  .exact a (wpAny_pyIter_striter_ascii st h)
  .exact a (wpAny_pyIter_striter_wide st h)
def afq{cA l:Expr}(hl:b3 X l fO):kx X cA l (λU H R=>fO U H λx c=>∃z,x=.str z/\R (sQ z) c):=by
 intro f s U H R I h;refine cc (hl f s U H _ I h) λv a g=>?_
 obtain⟨x,c,d,j,bE⟩:=g;obtain⟨z,e,q⟩:=bE;subst e;obtain⟨t,rfl⟩:=j;have fin:∀b∈[a.heap.objs.size],hk X f c b:=λb i=>by
  have e:b=a.heap.objs.size:=by simpa using i
  subst e;exact d.rC (amj _) (d.ct.fresh (amj _))
 cases C:z.cps.all (· < 128)with
 |true=>
  refine wpAny_pyIter_ascii C ?_;exact⟨a.heap.objs.size,[a.heap.objs.size],_,_,c,rfl,d.kept (t':=a.toks) λb o e=>B1 _ e,Q' z t _,.inl ⟨_,amq _ rfl,rfl,rfl⟩,fin,q⟩
 |false=>
  refine wpAny_pyIter_wide C ?_;exact⟨a.heap.objs.size,[a.heap.objs.size],_,_,c,rfl,d.kept (t':=a.toks) λb o e=>B1 _ e,Q' z t _,.inr ⟨_,amq _ rfl,rfl,rfl⟩,fin,q⟩
end
def yJ(z:Str):List D:=z.cps.toList.map λc=>D.str (ch c)
def oE(z:Str):List V:=z.cps.toList.map λc=>V.str (ch c)
def Z'(z:Str)(H:ax)(i:Nat):(i<(oE z).length->(sQ z).go i H/\∀x a,(sQ z).pO i H x a->a=H/\(oE z)[i]? = some x)/\((oE z).length<=i->(sQ z).stop i H):=by
 have hl:(oE z).length=z.cps.size:=by unfold oE;rw[amh,am0]
 rw[hl];refine⟨λhi=>⟨hi,λx a ⟨e,c,b,d⟩=>⟨e,?_⟩⟩,λhi=>hi⟩;subst d;unfold oE;rw[amE,apu,b];rfl
variable[aC.aY]
def US{K:aN}{mg:bf}{O:a7}{H:ax}(z:Str):bg K mg O H (yJ z) (oE z):=by
 unfold yJ oE
 induction z.cps.toList with
 |nil=>rfl|cons c r a=>exact⟨_,_,rfl,rfl,a⟩
@[simp] def Nv(m:bp)(U:aL):M (List D):=do
 let r <-m U
 match r with
 |.v (.str z)=>pure (yJ z)|_=>bad
section
variable{X:aT}{cA l:Expr}{m:bp}
set_option tactic.hygienic true in
def ah9(hl:ba X l m):rb X cA l (Nv m):=⟨qL (afq hl.un) λo H R e=>by
 refine a4 λg=>?_
 obtain⟨O,U,S,xs,n,st,h,q⟩:=e;obtain⟨r,S1,f,h⟩:=M.inv h;split at h
 .rename_i z
  cases h;refine g ⟨O,U,S,_,_,st,f,λb v a k d j nn=>⟨z,j,?_⟩⟩;exact q b a (sQ z) (oE z) k d (λc _ i=>Z' z c i) (US z)
 .cases h⟩
end
section
variable{K:aN}{mg:bf}
def u5(i j:Str):Bool:=!(aoq j i 0 j.length 1).isEmpty
def si(neg:Bool):R->R->M R
 |.v (.str i),.v (.str j)=>pure (.v (.ay (neg ^^ u5 i j)))|_,_=>bad
set_option tactic.hygienic true in
def HJ:d3 K mg (λx y H Q=>∃i j,x=.str i/\y=.str j/\Q (.ay (!(aoq j i 0 j.length 1).isEmpty)) H) (si false):=λO U S e H x y c f g d Q st b a h q=>by
 unfold si at h;split at h
 .rename_i i j
  cases h;refine⟨i,j,b,a,?_⟩;have:(!(aoq j i 0 j.length 1).isEmpty)=(false ^^ u5 i j):=by unfold u5;simp
  rw[this];exact q O _ H (Go.refl _ _) st rfl trivial
 .cases h
end
end az
namespace az
open PySem PySem.Spec aC PyProof.Rows
def yh(K:aN)(mg:bf)[aC.aY](d:D)(u:Value):Prop:=∃v,RelV v u/\∀O H,Rep K mg O H d v
structure KTab(P:amC)(w:World)(K:aN)(mg:bf)[aC.aY](x:Str)(ps:List (Str×D)):Prop where
 ex:∃(a:Addr)(aD:Array ao5)(n:Nat),(mg x=some (.ref a)/\(a==aog)=false)/\anN a K=some { cls:=.type "dict",data:=.dict aD n }/\KeysOf (apo P w) aD/\
  ∀k,match ps.lookup k with
   |some d=>∃u,findBy ani aD k=some u/\yh K mg d u|none=>findBy ani aD k=none
variable[aC.aY]
def BA(K:aN)(mg:bf):List (Str×D)->List ao5->Prop
 |[],C=>C=[]|p::ps,C=>∃e r,C=e::r/\(∃t,e.key=.str p.1 t)/\yh K mg p.2 e.val/\BA K mg ps r
theorem N1{K:aN}{mg:bf}{k:Str}:∀{ps:List (Str×D)}{C:List ao5},BA K mg ps C->match ps.lookup k with
   |some d=>∃u,(C.find? λe=>ani k e.key).map (·.val)=some u/\yh K mg d u|none=>(C.find? λe=>ani k e.key).map (·.val)=none
 |[],C,h=>by cases h;rfl
 |p::ps,C,h=>by
  obtain⟨e,r,rfl,⟨t,g⟩,b,f⟩:=h;obtain⟨a,i⟩:=p;rw[amy,aqD,g]
  by_cases c:k=a
  .subst c
   have ao:(k==k)=true:=by simp
   have aA:ani k (.str k t)=true:=by show(k==k)=true;simp
   rw[ao,aA];exact⟨_,rfl,b⟩
  .have ao:(k==a)=false:=by simpa using c
   have aA:ani k (.str a t)=false:=by
    show(a==k)=false;simp only[beq_eq_false_iff_ne];exact λz=>c z.symm
   rw[ao,aA];exact(N1 f)
def aa1{P:amC}{w:World}{K:aN}{h:Heap}{mg:bf}{x:Str}{d:Addr}{b:Array ao5}{n:Nat}{ps:List (Str×D)}(X:K.In h)(G:h.Ns amR mg)
  (a:api K amR x=some (some (.ref d))) (aw:(d==aog)=false) (l:anN d K=some { cls:=.type "dict",data:=.dict b n }) (k:∀e∈b.toList,∃s,ani s e.key=true/\e.hash=hashStr w s)
  (f:BA K mg ps b.toList):KTab P w K mg x ps:=by
 refine⟨d,b,n,⟨apM X G a,aw⟩,l,λe he=>?_,λk=>?_⟩
 .obtain⟨s,c,g⟩:=k e (by simpa using he)
  exact⟨s,c,g⟩
 .have z:=N1 (k:=k) f
  have:∀k:Str,findBy ani b k=(b.toList.find? λe=>ani k e.key).map (·.val):=λk=>by
   unfold findBy;rw[List.find?_toArray]
  rw[this];exact z
def BC:List Str->List Value->Prop
 |[],us=>us=[]|x::xs,us=>∃t r,us=.str x t::r/\BC xs r
theorem N':∀{xs:List Str}{us:List Value},BC xs us->Vals (xs.map V.str) us
 |[],us,h=>by cases h;exact .nil
 |x::xs,us,h=>by obtain⟨t,r,rfl,q⟩:=h;exact .cons ⟨t,rfl⟩ (N' q)
def o1{K:aN}{mg:bf}{xs:List Str}{a:Addr}{b:Array Value}{n:Nat}{e:Option Addr}{d:Array (Option Value)}(l:anN a K=some ⟨.type "tuple",e,.seq b n,d⟩)(hz:b.size<=ami)(h:BC xs b.toList) :
  yh K mg (.t (xs.map D.str)) (.ref a):=by
 refine⟨.ref a,rfl,λO H=>⟨a,xs.map V.str,rfl,.inr ⟨_,b,n,l,rfl,rfl,hz,N' h⟩,?_⟩⟩
 induction xs with
 |nil=>rfl| cons x r c=>exact⟨_,_,rfl,rfl,by
   clear c h
   induction r with
   |nil=>rfl| cons y q c=>exact⟨_,_,rfl,rfl,c⟩⟩
@[simp] def ajK(neg:Bool)(ps:List (Str×D))(mk:bp)(U:aL):M R:=do
 let k <-mk U
 match k with
 |.v (.str z)=>pure (.v (.ay (neg ^^ (ps.lookup z).isSome)))|_=>bad
section
omit [aC.aY]
@[simp] theorem ak0:si b (.v (.str i)) (.v (.str j))=pure (.v (.ay (b ^^ u5 i j))):=rfl
end
end az
namespace az
open PySem PySem.Spec aC PyProof.Rows
section
variable{X:aT}
def ab3:vx X "str.find" (λx xs H Q=>∃y z,x=.str y/\xs=[.str z]/\Q (.int (aqr y z)) H):=by
 rintro c s U H x xs v us Q I a rs ⟨y,z,ex,b,q⟩;subst ex b;obtain⟨t,rfl⟩:=a;obtain⟨u,rfl,t',rfl⟩:=vals1 rs;exact SC.find ⟨.int _,H,I.tok _,⟨_,rfl⟩,q⟩
end
variable[aC.aY]
@[simp] def CB(f:R->List R->M R)(a:bp)(ms:c3)(U:aL):M R:=do
 let x <-a U
 let rs <-ms U
 f x rs
def G2(K:aN)(mg:bf)(r:V->List V->ax->cY->Prop)(f:R->List R->M R):Prop:=
 ∀O U S ar H x xs C rs bw I (Q:cY),cS K mg O U S ar H->en K mg O H C x->ja K mg O H rs xs->(f C rs).run S=.ok bw I->vB K mg O U I ar H bw Q->r x xs H Q
def Hj(f:R->List R->M R):Prop:=∀a rs S c b,(f a rs).run S=.ok c b->∃z,a=.v (.str z)
section
variable{X:aT}{o e:Expr}{aD:List Expr}{a:bp}{ms:c3}{name:Str}{apos dT:Pos}{id:String}{r:V->List V->ax->cY->Prop}{f:R->List R->M R}
def aiB(slot:PySem.Slot "str" name id)(Y:typeOf (.builtin id)=pure (.type "method_descriptor"))(R:vx X id r)(P:G2 X.K X.mg r f)(os:Hj f)(s:ba X o a)(E:g9 X (e::aD) ms)
  (V:anS o name X.env (eval o X.env)=eval o X.env:=by rfl)
  (Z:((aoD dT (am2 (e::aD) X.env)).all (λx=>!x.1)&&(aqj dT (apf [] X.env)).all (λx=>x.1.isSome)
&&decide ((e::aD).length+([]:List ao9).length+(if([]:List ao9).isEmpty then 0 else 1)<30))=true:=by rfl)
  (W:(apos.endLine==dT.line)=true:=by rfl) (aw:gg X e aD:=by rfl) (T:gT X dT aD:=by rfl) :
  ba X (.Call (.Attribute o name apos) (e::aD) [] dT) (CB f a ms):=⟨ef (FK PySem.F.plainAttrs_str slot Y R s.un E.un V Z W aw T) λD H Q u=>by
 obtain⟨O,U,S,J,B,st,h,q⟩:=u;obtain⟨x,S1,w,h⟩:=M.inv h;obtain⟨rs,c,y,h⟩:=M.inv h;refine⟨O,U,S,x,S1,st,w,λp N C i t n bt=>?_⟩;obtain⟨z,rfl⟩:=os _ _ _ _ _ h;cases(show N=.str z from n);refine⟨rfl,p,U,S1,rs,c,t,y,λd vs b j bQ G nn=>?_⟩;exact P d U c D b _ vs _ rs J B Q bQ (show en X.K X.mg d b (.v (.str z)) (.str z)from rfl) G h λA v m g L k l=>q A v m ((i.trans j).trans g) L k (l.back (i.trans j).same)⟩
end
def rB(x:R)(rs:List R):M R:=match x,rs with
 |.v (.str y),[.v (.str z)]=>pure (.v (.int (aqr y z)))|_,_=>bad
def aei:Hj rB:=λa rs S c b h=>by
 unfold rB at h;split at h
 .exact⟨_,rfl⟩
 .cases h
section
variable{K:aN}{mg:bf}
set_option tactic.hygienic true in
def Ub:G2 K mg (λx xs H Q=>∃y z,x=.str y/\xs=[.str z]/\Q (.int (aqr y z)) H) rB:=λO U S f H x xs d rs g e Q st b a h q=>by
 unfold rB at h;split at h
 .rename_i y z
  cases h;obtain⟨v,rfl,c⟩:=jM a;exact⟨y,z,b,by rw[show v=V.str z from c],q O _ H (Go.refl _ _) st rfl trivial⟩
 .cases h
end
omit [aC.aY]in
@[simp] theorem akm{y z:Str}:rB (.v (.str y)) [.v (.str z)]=pure (.v (.int (aqr y z))):=rfl
end az
namespace az
open PySem PySem.Spec aC PyProof.Rows
variable[aC.aY]
@[simp] def CF(ps:List (Str×D))(mk:bp)(U:aL):M R:=do
 let k <-mk U
 match k with
 |.v (.str z)=>pure (.v ((ps.lookup z).getD .aP))|_=>bad
section
variable{X:aT}{x:Str}{ps:List (Str×D)}{e:Expr}{p apos dT:Pos}{mk:bp}
set_option tactic.hygienic true in
def aiC(T:KTab X.prog X.w X.K X.mg x ps)(G:eW X x)(he:ba X e mk)(m:gI X (.Name x p) "get" apos e dT:=by exact⟨rfl,rfl,rfl,rfl⟩)(Z:fV x:=by decide) :
  ba X (.Call (.Attribute (.Name x p) "get" apos) [e] [] dT) (CF ps mk):=⟨by
 rintro L s U H Q I ⟨O,U',S,r,N,st,h,q⟩;refine a4 λi=>?_
 obtain⟨y,S1,J,h⟩:=M.inv h;split at h
 .rename_i z
  cases h;obtain⟨a,D,n,⟨hm,E⟩,hl,P,C⟩:=T.ex;refine i ?_;refine wpAny_Call_method m.base m.VL m.line PySem.F.plainAttrs_dict aqL PySem.F.type_dict_get (tY I G hm ?_ Z);have j:=I.gj a _ hl;refine⟨⟨_,j,rfl⟩,λb e=>by cases e;exact⟨_,j,rfl⟩,?_⟩;rw[m.trees];refine aph rfl (Calls.evalArgs_plain (apS (cc (he.un L s U H (λv o=>v=.str z/\∃c,Go O c H o/\cS X.K X.mg c U' N U o) I ⟨O,U',S,_,_,st,J,λc v o l g R nn=>⟨R,c,l,g⟩⟩) λgA s2 ⟨y,f,B,V,Y,c,l,g⟩=>ap7 ?_)));subst Y;obtain⟨t,rfl⟩:=V;have j:=B.gj a _ hl;have mo:s2.heap.MapOf (apo X.prog X.w) a (findBy ani D):=⟨_,D,n,j,⟨rfl,rfl,rfl⟩,rfl,P,λ_=>rfl⟩;refine call_meetsIn aqL mo.typeIs PySem.F.entry_dict_get (PySem.F.args_dict_get_2 _ _) (meets_dict_get (apo X.prog X.w) a (k:=z) ?_ E) ⟨_,mo,?_⟩
  .show(z==z)=true
   simp
  .have:=C z
   refine a4 λi=>?_
   cases ao:ps.lookup z with
   |none=>
    rw[ao]at this q;refine i ?_;rw[this];exact⟨.aP,f,B.tok _,rfl,q c _ f l g rfl trivial⟩
   |some d=>
    rw[ao]at this q;obtain⟨u,aA,v,W,A⟩:=this;refine i ?_;rw[aA];exact⟨v,f,B.tok _,W,q c _ f l g (A c f) trivial⟩
 .cases h⟩
end
end az
namespace az
open PySem PySem.Spec aC
section
variable{P:List Value->Prop}
def Rg(h:P []):∀us:List Value,us.length=0->P us:=λus e=>by rw[apI e];exact h
def sF(h:∀a,∀us:List Value,us.length=n->P (a::us)):∀us:List Value,us.length=n+1->P us:=λus e=>by
 cases us with
 |nil=>cases e
 |cons a r=>exact h a r (Nat.succ.inj e)
def pI(h:∀a,P [a]):∀us:List Value,us.length=1->P us:=sF λa=>Rg (h a)
def qQ(h:∀a b,P [a,b]):∀us:List Value,us.length=2->P us:=sF λa=>pI (h a)
def qR(h:∀a b c,P [a,b,c]):∀us:List Value,us.length=3->P us:=sF λa=>qQ (h a)
def A2(h:∀a b c d,P [a,b,c,d]):∀us:List Value,us.length=4->P us:=sF λa=>qR (h a)
def A3(h:∀a b c d e,P [a,b,c,d,e]):∀us:List Value,us.length=5->P us:=sF λa=>A2 (h a)
def A4(h:∀a b c d e f,P [a,b,c,d,e,f]):∀us:List Value,us.length=6->P us:=sF λa=>A3 (h a)
def GA(h:∀a b c d e f g,P [a,b,c,d,e,f,g]):∀us:List Value,us.length=7->P us:=sF λa=>A4 (h a)
end
noncomputable def Mi(N P:List Str)(a:Scope):Bool:=decide (a.kind=.function)&&!a.isCoroutine&&!a.isGenerator&&decide N.Nodup&&decide (N.take P.length=P)
&&P.all (λx=>decide (a.names.lookup x=some .local)||decide (a.names.lookup x=some .cell))&&a.names.all λy=>decide (y.2≠.free)
def qj{N P:List Str}(h:Mi N P sc=true):hI N P sc:=by
 simp only[Mi,amI,Bool.not_eq_true',decide_eq_true_eq,amX,aqE]at h;exact⟨h.1.1.1.1.1.1,h.1.1.1.1.1.2,h.1.1.1.1.2,h.1.1.1.2,h.1.1.2,h.1.2,h.2⟩
def JZ(b xs:List Str)(a:List Nat):List Str:=xs++a.filterMap λk=>b[k]?
noncomputable def J0(b scope:Scope)(c N:List Str)(n:Nat)(a:List Nat):Bool:=decide (scope.kind=.function)&&scope.names.all (λy=>decide (y.2≠.cell))&&scope.names.all (λy=>decide (y.2=.local->scope.names.lookup y.1=some .local))
&&scope.names.all (λy=>decide (y.2=.free->b.names.lookup y.1=some .cell\/b.names.lookup y.1=some .free))&&decide N.Nodup&&decide (N.length=n+a.length)
&&(amJ a.length).all λj=>decide (N[n+j]? = c[a.getD j 0]?)&&(match N[n+j]? with|some x=>decide (scope.names.lookup x=some .free)|none=>true)
def vU{c xs:List Str}(h:J0 esc scope c (JZ c xs cap) xs.length cap=true):lg esc scope c (JZ c xs cap) xs.length cap:=by
 simp only[J0,amI,decide_eq_true_eq,amX]at h;obtain⟨⟨⟨⟨⟨⟨e,f⟩,i⟩,k⟩,m⟩,n⟩,d⟩:=h;refine⟨e,f,i,k,m,n,λj l=>?_⟩;obtain⟨a,b⟩:=d j (am5.mpr l);refine⟨a,λx g=>?_⟩;rw[g]at b;exact of_decide_eq_true b
def qD{N:List Str}(h:decide N.Nodup=true):N.Nodup:=of_decide_eq_true h
def Ff{p:Nat->Prop}(b:p 0)(a:∀n,p (n+1)):∀n,p n:=λn=>by cases n with|zero=>exact b|succ n=>exact a n
variable[aC.aY]
end az
namespace az
open PySem PySem.Spec aC
variable[aC.aY]
structure cG(K:aN)(mg:bf)(x:Str)(st:Stmt)(ps N:List Str):Prop where
 d:g6 K mg x st ps
 s:hI N ps (dr st)
structure eS(K:aN)(mg:bf)(c m qual:Str)(st:Stmt)(ps N:List Str):Prop where
 d:ya K mg c m qual st ps
 s:hI N ps (dr st)
structure yb(K:aN)(mg:bf)(c m qual:Str)(st:Stmt)(ps N:List Str):Prop where
 d:Bs K mg c m qual st ps
 s:hI N ps (dr st)
def vv(K:aN)(mg:bf)(x:Str)(st:Stmt):Prop:=∃c eT,q2 K c eT (r2 x)/\∀(f:Addr)(dK:Value)(d:Option Addr)(dn a e:Value)(an:Option Addr)(b cF:Value)(C:Array (Option Value)),mg x=some (.ref f)->K.lookup f=some ⟨dK,d,.func (an6 x x (iS st) (fH st) (dr st) .none dn a e an b cF),C⟩->b=.ref c
section
variable(P:amC)(w:World)(base:Heap){K:aN}{mg:bf}{x c m qual:Str}{st:Stmt}{ps N:List Str}
abbrev cN(_:cG K mg x st ps N)(j k:Nat)(f:bz):Prop:=k<=j->g8 P w K mg base x ps k (hg K mg f)
abbrev yd(_:cG K mg x st ps N)(j k:Nat)(f:d6):Prop:=k<=j->g8 P w K mg base x ps k (iq K mg f)
abbrev jo(_:eS K mg c m qual st ps N)(j k:Nat)(f:bz):Prop:=k<=j->kq P w K mg base c m ps k (hg K mg f)
abbrev ix(_:eS K mg c m qual st ps N)(j k:Nat)(f:d6):Prop:=k<=j->kq P w K mg base c m ps k (iq K mg f)
abbrev By(_:yb K mg c m qual st ps N)(j k:Nat)(f:d6):Prop:=k<=j->Hb P w K mg base c m ps k (iq K mg f)
end
section
variable{P:amC}{w:World}{base:Heap}{K:aN}{mg:bf}{x c m qual:Str}{st:Stmt}{ps N:List Str}{j k:Nat}{f:bz}{g:d6}{b:aW}{e:b7}
abbrev vn(P:amC)(w:World)(K:aN)(mg:bf)(base:Heap)(N:List Str)(q:Str)(st:Stmt)(j k:Nat)(T:aT->List Stmt->Prop):Prop:=
 k+1<=j->∀(f:Addr)(a:Value)(A:amK)(outer:List Env)(s:amg)(H:ax)(E:gu),cO k (A.deeper (anf q (dr st) s.heap.objs.size f a))->T (hr eR P w K mg base N q (dr st) f a A outer s H E).gW (fH st)
def cZ(d:cG K mg x st ps N)(n:f=fnOf ps.length N.length b)(i:vn P w K mg base N x st j k (jb · · b)):cN P w base d j (k+1) f:=λh=>by
 subst n;exact zc d.d d.s rfl rfl λf l A outer s H E a=>(i h f l A outer s H E a).un
def y5(d:cG K mg x st ps N)(l:vv K mg x st)(o:f=fnOf ps.length N.length b)(i:k+1<=j->∀(c eT:Addr),q2 K c eT (r2 x)->∀(f:Addr)(A:amK)(outer:List Env)(s:amg)(H:ax)(E:gu),cO k (A.deeper (anf x (dr st) s.heap.objs.size f (.ref c)))->jb (hr eR P w K mg base N x (dr st) f (.ref c) A outer s H E).gW (fH st) b):cN P w base d j (k+1) f:=λh=>by
 subst o;obtain⟨c,eT,L,n⟩:=l;exact Yw d.d n d.s rfl rfl λf A outer s H E a=>(i h c eT L f A outer s H E a).un
def Dq(d:cG K mg x st ps N)(i:g=fnX ps.length N.length e)(a:vn P w K mg base N x st j k (iC · · e)):yd P w base d j (k+1) g:=λh=>by
 subst i;exact W8 d.d d.s rfl rfl (a h)
def j4(d:eS K mg c m qual st ps N)(n:f=fnOf ps.length N.length b)(i:vn P w K mg base N qual st j k (jb · · b)):jo P w base d j (k+1) f:=λh=>by
 subst n;exact W7 d.d d.s rfl rfl λf l A outer s H E a=>(i h f l A outer s H E a).un
def iW(d:eS K mg c m qual st ps N)(i:g=fnX ps.length N.length e)(a:vn P w K mg base N qual st j k (iC · · e)):ix P w base d j (k+1) g:=λh=>by
 subst i;exact W6 d.d d.s rfl rfl (a h)
def Mp(d:yb K mg c m qual st ps N)(i:g=fnX ps.length N.length e)(a:vn P w K mg base N qual st j k (iC · · e)):By P w base d j (k+1) g:=λh=>by
 subst i;exact W5 d.d d.s rfl rfl (a h)
end
end az
namespace az
open PySem PySem.Spec aC
open Sem (wp)
section
variable{prog:amC}{w:World}
def i_(prog:amC)(w:World)(h:Heap)(p:List Key×List Key)(a:Addr):Prop:=
 ∃(o:Obj)(us:List Value)(b:Addr)(m:Nat),h.get? a=some o/\o.cls=.type "tuple"/\o.data=.seq (us++[ana b]).toArray m/\ItemsAre (h1 prog w) p.1 us/\IsTupleKey (h1 prog w) h p.2 b
def i_.ty{s:amg}(x:i_ prog w s.heap p a):s.TypeIs (.ref a) "tuple":=by
 obtain⟨o,_,_,_,b,c,_⟩:=x;exact⟨o,b,c⟩
def i_.one(x:i_ prog w h p a)(y:i_ prog w h q a):p=q:=by
 obtain⟨o,us,b,m,i,_,j,k,l⟩:=x;obtain⟨s,r,n,t,d,_,c,f,g⟩:=y;rw[i]at d;cases d;rw[j]at c;have e:us++[ana b]=r++[ana n]:=by simpa using congrArg aqX (Data.seq.inj c).1
 obtain⟨rfl,aA⟩:=List.append_inj' e rfl;cases aA;exact apq (k.inj f) (l.inj g)
def i_.stays{h h':Heap}{o:Obj}{C bj}(x:i_ prog w h p a)(f:h.get? d=some o)(hd:o.data=.dict C bj)(aw:ao1 d h h'):i_ prog w h' p a:=by
 obtain⟨k,us,b,m,c,g,e,i,j⟩:=x;refine⟨k,us,b,m,(aw.2 a λz=>?_).trans c,g,e,i,j.keeps f hd aw⟩;subst z;rw[f]at c;cases c;rw[hd]at e;cases e
def Fl(prog:amC)(w:World)(p:List Key×List Key):Int:=reduceHash (anY (p.1.map (h1 prog w).hash++[tupleKeyHash (h1 prog w) p.2]))
variable{A:amK}{E:dv}{s:amg}
def adN{Q:Int->amg->Prop}(B:A.units+4<cLine)(n:i_ prog w s.heap p a)(h:Q (Fl prog w p) { s with toks:=s.toks+(p.1.length+(p.2.length+1)+1) }):wpAny (model prog w) A (pyHash (.ref a)) Q E s:=by
 have f:=n.ty;obtain⟨o,us,b,m,t,_,hd,hi,u⟩:=n
 first|refine mN (wpAny_cRoomFor_or (.inr (by omega)) ?_)|skip
 refine mN (aoY f ape.lookup ?_);refine mN (aoY f ape.lookup (mN ?_));refine wpAny_callSpecialIfBoundUnlessNone?_slot f ape (aom ape f F.entry_tuple_hash ?_ (F.args_tuple_hash_1 _));show wpAny _ _ (aoP (.ref a) >>= _) _ _ s;refine mN (apZ t hd (mN ?_));rw[<-aot];refine aoK _ (λrest (e:Array Int) j=>(∃done d l,p.1=done++d/\rest=l++[ana b]/\ItemsAre (h1 prog w) d l/\e.toList=done.map (h1 prog w).hash/\j={ s with toks:=s.toks+done.length })\/
   (rest=[]/\e.toList=p.1.map (h1 prog w).hash++[tupleKeyHash (h1 prog w) p.2]/\j={ s with toks:=s.toks+(p.1.length+(p.2.length+1)) })) _ ?_ ?_ _ _ (.inl ⟨[],p.1,us,rfl,rfl,hi,rfl,rfl⟩)
 .rintro x rest e j (⟨done,d,l,bj,g,hl,i,rfl⟩|⟨ao,_⟩)
  .cases hl with
   |nil=>
    cases g;refine mN (wpAny_pyHash_tuple (by first|omega|(show A.units+1<cLine;omega)|(omega)) u ?_)
    first
     |exact aml (.inr ⟨rfl,by simp[i,bj],by simp[bj,Nat.add_assoc]⟩)
     |exact mN (aml (aml (.inr ⟨rfl,by simp,by simp⟩)))
   |@cons k v q vs y r=>
    cases g;refine mN ((h1 prog w).pyHash y ?_)
    first
     |exact aml (.inl ⟨done++[k],q,vs,by simp[bj],rfl,r,by simp[i],by simp[Nat.add_assoc]⟩)
     |exact mN (aml (aml (.inl ⟨done++[k],q,vs,by simp,rfl,r,by simp,by simp⟩)))
  .cases ao
 .rintro e j (⟨done,d,l,_,g,_⟩|⟨_,i,rfl⟩)
  .simp at g
  .show wpAny _ _ (retInt (anY e.toList)) _ _ _
   rw[i];refine wpAny_ret_mkInt ?_;unfold Fl reduceHash at h;generalize anY (p.1.map (h1 prog w).hash++[tupleKeyHash (h1 prog w) p.2])=z at h ⊢;show wpAny _ _ (if(decide (-(2:Int) ^ 63<=z)&&decide (z<2 ^ 63))=true then _ else _) Q E _;split at h
   .rename_i c
    rw[if_pos c];exact aml h
   .rename_i c
    rw[if_neg c];exact mN (apA (aml h))
def adM{R:Fin->amg->Prop}(C:A.units+4<cLine)(V:p.1.length=q.1.length)(N:i_ prog w s.heap p a)(D:i_ prog w s.heap q b)(h:R (.done (.ret (.bool (decide (p=q))))) s) :
  wpAny (model prog w) A (aqi.«tuple.__eq__» ⟨[.ref a,.ref b],[]⟩) R E s:=by
 have cE:=D.ty;obtain⟨O,us,j,ma,K,_,J,t,P⟩:=N;obtain⟨a',vs,k,Z,F,_,Q,B,S⟩:=D;show wpAny _ _ (isInstance (.ref b) (.type "tuple") >>= _) _ _ s;refine mN (apr cE apv ?_);refine mN (apZ K J (mN (apZ F Q (mN ?_))));refine aoK _ (λrest r i=>r.1=none/\i=s/\((∃x y xs d,rest=(xs++[ana j]).zip (d++[ana k])/\ItemsAre (h1 prog w) x xs/\ItemsAre (h1 prog w) y d/\x.length=y.length/\(x=y↔p.1=q.1))\/(rest=[]/\p=q))) _ ?_ ?_ _ _ ⟨rfl,rfl,.inl ⟨p.1,q.1,us,vs,rfl,t,B,V,Iff.rfl⟩⟩
 .rintro⟨u,v⟩ rest r i ⟨f,rfl,⟨x,y,xs,d,g,l,o,hl,c⟩|⟨e,_⟩⟩
  .cases l with
   |nil=>
    cases o with
    |cons _ _=>cases hl
    |nil=>
     cases g;refine mN (wpAny_eqBool_tuple (by first|omega|(omega)) P S ?_)
     by_cases z:p.2=q.2
     .rw[decide_eq_true z]
      exact aml ⟨rfl,rfl,.inr ⟨by trivial,apq (c.mp rfl) z⟩⟩
     .rw[decide_eq_false z]
      rw[decide_eq_false (λy:p=q=>z (congrArg Prod.snd y))]at h;exact mN (aml (aml (aml h)))
   |@cons k1 _ W T L m=>
    cases o with
    |nil=>cases hl
    |@cons k2 _ G H M n=>
     cases g;refine mN ((h1 prog w).eqBool L M ?_)
     by_cases z:k1=k2
     .subst z
      rw[decide_eq_true rfl];exact aml ⟨rfl,rfl,.inl ⟨W,G,T,H,by trivial,m,n,by simpa using hl,by rw[<-c];simp⟩⟩
     .rw[decide_eq_false z]
      rw[decide_eq_false (λy:p=q=>z (List.cons.inj (c.mpr (congrArg Prod.fst y))).1)]at h;exact mN (aml (aml (aml h)))
  .cases e
 .rintro⟨Y,X⟩ i ⟨f,rfl,⟨x,y,xs,d,g,_⟩|⟨_,e⟩⟩
  .cases xs<;>cases d<;>simp at g
  .have f:=f
   subst f;refine aml ?_;have z:((us++[ana j]).toArray.size==(vs++[ana k]).toArray.size)=true:=by
    have ao:=t.length;have aA:=B.length;simp;omega
   rw[decide_eq_true e]at h;show R (.done (.ret (.bool ((us++[ana j]).toArray.size==(vs++[ana k]).toArray.size)))) i;rw[z];exact h
def adL{Q:Bool->amg->Prop}(i:A.units+6<cLine)(g:p.1.length=q.1.length)(c:i_ prog w s.heap p a)(d:i_ prog w s.heap q b)(h:Q (decide (p=q)) s):wpAny (model prog w) A (eqBool (.ref a) (.ref b)) Q E s:=by
 unfold eqBool
 try with_reducible refine anG ?_
 by_cases f:(ana a==ana b)=true
 .rw[if_pos f]
  have e:a=b:=by have:=eq_of_beq f;injection this
  subst e;rw[decide_eq_true (c.one d)]at h;exact mN (apA (aml h))
 .rw[if_neg f]
  refine mN (wpAny_richCompare_same_room c.ty d.ty apD ?_ (by omega));exact aom apD c.ty F.entry_tuple_eq (adM (by first|omega|(show A.units+1+4<cLine;omega)|(omega)) g c d ⟨_,rfl,(λe=>nomatch e),anm h⟩) (F.args_tuple_eq_2 _ _)
def adO{Q:Bool->amg->Prop}(j:i_ prog w s.heap p a)(h:Q true s):wpAny (model prog w) A (eqIsQuiet 8 (.ref a)) Q E s:=by
 have k:=j.ty;obtain⟨o,us,b,m,n,_,hd,y,i⟩:=j;have cE:=i.typeIs;obtain⟨a',B,nb,l,_,z,hi⟩:=i;have f:∀{Q:Bool->amg->Prop},Q true s->wpAny (model prog w) A (eqIsQuiet 7 (.ref b)) Q E s:=λ{Q} h=>by
  unfold eqIsQuiet;refine mN (aoY cE apD.lookup ?_);refine mN (apr cE apv ?_);refine mN (anW l z (mN ?_));rw[<-aot];refine aoK _ (λrest r c=>r.1=none/\c=s/\∀v∈rest,carriedByValue v=true) _ ?_ ?_ _ _ ⟨rfl,rfl,hi.byValue⟩
  .rintro v rest r c ⟨d,rfl,al⟩
   rw[eqIsQuiet_byValue _ (al v amu)];refine mN (aml ?_);exact aml ⟨rfl,rfl,λu g=>al u (amr _ g)⟩
  .rintro⟨t,q⟩ c ⟨d,rfl,_⟩
   subst d;exact aml h
 unfold eqIsQuiet;refine mN (aoY k apD.lookup ?_);refine mN (apr k apv ?_);refine mN (anW n hd (mN ?_));rw[<-aot];refine aoK _ (λrest r c=>r.1=none/\c=s/\((∃vs,rest=vs++[ana b]/\∀v∈vs,carriedByValue v=true)\/rest=[])) _ ?_ ?_ _ _ ⟨rfl,rfl,.inl ⟨us,rfl,y.byValue⟩⟩
 .rintro v rest r c ⟨d,rfl,⟨vs,e,al⟩|e⟩
  .cases vs with
   |nil=>
    cases e;refine mN (f ?_);exact aml ⟨rfl,rfl,.inr (by trivial)⟩
   |cons x vs=>
    cases e;rw[eqIsQuiet_byValue _ (al _ amu)];refine mN (aml ?_);exact aml ⟨rfl,rfl,.inl ⟨vs,by trivial,λu g=>al u (amr _ g)⟩⟩
  .cases e
 .rintro⟨t,q⟩ c ⟨d,rfl,_⟩
  subst d;exact aml h
end
noncomputable def adK(n:Nat)(prog:amC)(w:World):HeapKind prog w (hJ n) where
 is:=λh p a=>i_ prog w h p.1 a
 hash:=λp=>Fl prog w p.1
 draws:=λp=>p.1.1.length+(p.1.2.length+1)+1
 room:=λA=>A.units+6<cLine
 inj:=λd c=>aq2 (d.one c)
 keeps:=λx g hd aw=>x.stays g hd aw
 pyHash:=λf e h=>adN (by omega) e h
 eqBool:=λ{A E s x y a b Q} f d c h=>adL f (x.2.trans y.2.symm) d c (by rwa[show decide (x.1=y.1)=decide (x=y)from decide_eq_decide.mpr Subtype.ext_iff.symm])
 quiet:=λe h=>adO e h
end az
namespace az
open PySem PySem.Spec aC PyProof.Rows
variable[aC.aY]
def wK:List D->Option (List Key)
 |[]=>some []|d::ds=>match N5 d,wK ds with
  |some k,some C=>some (k::C)|_,_=>none
omit [aC.aY]in
theorem aaG(h:N5 d=some k):d=wF k:=by cases d<;>cases h<;>rfl
set_option tactic.hygienic true in
omit [aC.aY]in
theorem Ey:∀{ds:List D}{a:List Key},wK ds=some a->ds=a.map wF
 |[],a,h=>by cases h;rfl
 |d::ds,a,h=>by
  unfold wK at h;split at h
  .rename_i k b ao aA
   cases h;rw[amt,aaG ao,Ey aA]
  .cases h
def lR(d:D):Option (List Key×List Key):=match d with
 |.t ds=>match ds.getLast?,wK ds.dropLast with
  |some (.t ys),some C=>(wK ys).map λa=>(C,a)
  |_,_=>none
 |_=>none
set_option tactic.hygienic true in
omit [aC.aY]in
theorem O7(h:lR d=some p):d=uz p:=by
 unfold lR at h;split at h
 .rename_i ds
  split at h
  .rename_i c b ao aA
   obtain⟨a,bK,rfl⟩:=aoa.mp h;obtain⟨e,rfl⟩:=List.getLast?_eq_some_iff.mp ao;rw[List.dropLast_concat]at aA;unfold uz;rw[Ey aA,Ey bK]
  .cases h
 .cases h
def d_(a:List ((List Key×List Key)×D))(p:List Key×List Key):Option D:=(a.find? λb=>decide (b.1=p)).map (·.2)
def ik(b:List ((List Key×List Key)×D))(p:List Key×List Key)(d:D):List ((List Key×List Key)×D):=if(b.any λa=>decide (a.1=p))=true then b.map λa=>if a.1=p then(a.1,d)else a else b++[(p,d)]
def oj(K:aN)(H:ax)(p:List Key×List Key)(b:Addr):Prop:=∃c,dC K H b (p.1.map dn++[.ref c])/\dC K H c (p.2.map dn)
omit [aC.aY]in
theorem Rj:∀{xs:List V}{us:List Value},Vals (xs++[x]) us->∃vs u,us=vs++[u]/\Vals xs vs/\RelV x u
 |[],us,h=>by cases h with|cons r h=>cases h;exact⟨[],_,rfl,.nil,r⟩
 |y::ys,us,h=>by
  cases h with
  |cons r h=>
   obtain⟨vs,u,rfl,a,b⟩:=Rj h;exact⟨_::vs,u,rfl,.cons r a,b⟩
section
variable{X:aT}{af:c4}{U:aC.St}{H:ax}{s:amg}
omit [aC.aY]in
theorem oj.is(I:Inv X af U H s)(h:oj X.K H p b):i_ X.prog X.w s.heap p b:=by
 refine a4 λg=>?_
 obtain⟨c,e,f⟩:=h;obtain⟨q,r,⟨o,ao,aA,n,bK⟩,_⟩:=I.tuple e;obtain⟨its',k,⟨l,d,a,m,t⟩,_⟩:=I.tuple f;obtain⟨us,u,rfl,j,i⟩:=Rj r;obtain rfl:u=.ref c:=i;exact g ⟨o,us,c,n,ao,aA,bK,Ei j,l,_,m,d,a,t,by rw[List.toList_toArray];exact Ei k⟩
def z9{xs:List (hJ n×Addr×Value)}(hw:X.w=aC.aY.wl)(I:Inv X af U H s)(h:H a=some (lr n a xs))(g:∀x∈xs,oj X.K H x.1.1 x.2.1)(ok:(xs.map (·.1)).Nodup):s.heap.DictOfH (adK n X.prog X.w) a xs:=by
 obtain⟨⟨o,c,bj,d,e,i,b⟩,_⟩:=(show h_ X.prog X.w H s.heap a (lr n a xs)from I.ct a _ h);rw[<-hw]at b;exact⟨o,c,bj,d,e,i,b,λx f=>(g x f).is I,ok⟩
end
section
variable{K:aN}{mg:bf}{O:a7}{H:ax}{n:Nat}
omit [aC.aY]in
theorem F5:∀{a:List Key}{b:List V},bg K mg O H (a.map wF) b->b=a.map dn
 |[],_,h=>h|k::a,_,h=>by
  obtain⟨y,r,rfl,c,d⟩:=h;rw[F5 d,amt];cases k<;>cases c<;>rfl
omit [aC.aY]in
theorem Qo:∀{ds:List D}{e:List V},bg K mg O H (ds++[d]) e->∃a y,e=a++[y]/\bg K mg O H ds a/\Rep K mg O H d y
 |[],_,h=>by obtain⟨y,r,rfl,b,c⟩:=h;cases c;exact⟨[],y,rfl,rfl,b⟩
 |_::_,_,h=>by
  obtain⟨y,r,rfl,b,c⟩:=h;obtain⟨a,z,rfl,f,g⟩:=Qo c;exact⟨y::a,z,rfl,⟨y,a,rfl,b,f⟩,g⟩
omit [aC.aY]in
theorem F6{v:V}(h:Rep K mg O H (uz p) v):∃b,v=.ref b/\oj K H p b:=by
 obtain⟨a,l,e,t,f⟩:=h;obtain⟨m,y,rfl,g,i⟩:=Qo f;obtain⟨c,k,rfl,d,j⟩:=i;rw[F5 g]at t;rw[F5 j]at d;exact⟨a,e,c,t,d⟩
theorem e6.keys:∀{I:List ((List Key×List Key)×D)}{xs:List (hJ n×Addr×Value)},e6 K mg O H I xs->∀x∈xs,oj K H x.1.1 x.2.1
 |[],_,h,x,C=>by cases(show _=[]from h);cases C
 |p::I,_,h,x,C=>by
  obtain⟨y,r,rfl,ao,a,_,c⟩:=h;rcases amw.mp C with rfl|C
  .rw[<-ao]
   obtain⟨b,e,z⟩:=F6 a;cases e;exact z
  .exact e6.keys c x C
theorem e6.len:∀{C:List ((List Key×List Key)×D)}{xs:List (hJ n×Addr×Value)},e6 K mg O H C xs->xs.length=C.length
 |[],_,h=>by cases(show _=[]from h);rfl
 |p::C,_,h=>by
  obtain⟨y,r,rfl,_,_,_,a⟩:=h;rw[amL,amL,e6.len a]
theorem e6.val(p:hJ n):∀{C:List ((List Key×List Key)×D)}{xs:List (hJ n×Addr×Value)},e6 K mg O H C xs->match d_ C p.1 with
  |some d=>∃u v,atKey xs p=some u/\Rep K mg O H d v/\RelV v u.2|none=>atKey xs p=none
 |[],_,h=>by cases(show _=[]from h);rfl
 |q::C,_,h=>by
  obtain⟨y,r,rfl,ao,f,⟨v,a,b⟩,c⟩:=h
  by_cases e:q.1=p.1
  .have a1:d_ (q::C) p.1=some q.2:=by
    unfold d_;rw[anO (by simpa using e)];rfl
   have a2:atKey (y::r) p=some y.2:=by
    unfold atKey;rw[anO (by rw[decide_eq_true_eq];exact aq2 (ao.symm.trans e))];rfl
   rw[a1];exact⟨y.2,v,a2,a,b⟩
  .have a1:d_ (q::C) p.1=d_ C p.1:=by
    unfold d_;rw[anP (by simpa using e)]
   have a2:atKey (y::r) p=atKey r p:=by
    unfold atKey;rw[anP (by rw[decide_eq_true_eq];intro z;exact e (by rw[ao,z]))]
   rw[a1,a2];exact(e6.val p c)
def e6.any(p:hJ n){b:List ((List Key×List Key)×D)}(h:e6 K mg O H b xs):(atKey xs p).isSome=b.any λc=>decide (c.1=p.1):=by
 have v:=h.val p
 cases e:d_ b p.1 with
 |none=>
  rw[e]at v;rw[v];unfold d_ at e;rw[aqJ,apX]at e;symm;rw[Option.isSome_none,List.any_eq_false];exact λx a=>by simpa using e x a
 |some d=>
  rw[e]at v;obtain⟨u,_,ao,_⟩:=v;rw[ao];obtain⟨x,a,_⟩:=aoa.mp e;symm;exact aqn.mpr ⟨x,anC a,by simpa using aov a⟩
theorem e6.append:∀{I C:List ((List Key×List Key)×D)}{xs U:List (hJ n×Addr×Value)},e6 K mg O H I xs->e6 K mg O H C U->e6 K mg O H (I++C) (xs++U)
 |[],_,_,_,h,h'=>by cases(show _=[]from h);exact h'
 |_::_,_,_,_,h,h'=>by
  obtain⟨y,r,rfl,ao,a,b,c⟩:=h;exact⟨y,_,rfl,ao,a,b,e6.append c h'⟩
theorem e6.F7{v:V}(hd:Rep K mg O H d v)(a:RelV v u):∀{C:List ((List Key×List Key)×D)}{xs:List (hJ n×Addr×Value)},e6 K mg O H C xs->e6 K mg O H (C.map λb=>if b.1=p.1 then(b.1,d)else b) (xs.map (putAt p u))
 |[],_,h=>by cases(show _=[]from h);rfl
 |q::C,_,h=>by
  obtain⟨y,r,rfl,ao,c,g,f⟩:=h;rw[amt,amt];refine⟨putAt p u y,_,rfl,?_⟩;unfold putAt
  by_cases z:q.1=p.1
  .rw[if_pos z,if_pos (aq2 (ao.symm.trans z))]
   exact⟨ao,c,⟨v,hd,a⟩,e6.F7 hd a f⟩
  .rw[if_neg z,if_neg (by intro e;exact z (by rw[ao,e]))]
   exact⟨ao,c,g,e6.F7 hd a f⟩
def e6.put{v:V}(h:e6 K mg O H C xs)(e:Rep K mg O H (uz p.1) (.ref b))(hd:Rep K mg O H d v)(a:RelV v u):e6 K mg O H (ik C p.1 d) (storedH xs p b u):=by
 unfold ik storedH;rw[h.any p]
 by_cases c:(C.any λf=>decide (f.1=p.1))=true
 .rw[if_pos c,if_pos c];exact h.F7 hd a
 .rw[if_neg c,if_neg c]
  exact h.append ⟨(p,b,u),[],rfl,rfl,e,⟨v,hd,a⟩,rfl⟩
omit [aC.aY]in
theorem agR{xs:List (hJ n×Addr×Value)}(h:(xs.map (·.1)).Nodup):((storedH xs p b u).map (·.1)).Nodup:=by
 unfold storedH
 cases e:(atKey xs p).isSome with
 |true=>
  rw[if_pos rfl,an3];have:xs.map ((·.1)∘putAt p u)=xs.map (·.1):=aoV λx _=>by
   show(putAt p u x).1=x.1;unfold putAt;split<;>rfl
  rw[this];exact h
 |false=>
  rw[if_neg amm,ant];refine aoA.mpr ⟨h,by simp,λx c y a=>?_⟩;rintro rfl;obtain⟨z,hz,rfl⟩:=amG.mp c;have:atKey xs p=none:=by
   cases q:atKey xs p with
   |none=>rfl|some _=>rw[q]at e;cases e
  unfold atKey at this;rw[aqJ,apX]at this;exact this z hz (by simpa using a)
end
def acj:lr n a xs≠.ext (p8 a q):=by
 intro e
 let a':Obj:={ cls:=.type "dict",data:=.dict (xs.map (Fj aC.aY.wl)).toArray 0 }
 have d:(Heap.mk (Array.replicate (a+1) a') {}).get? a=some a':=by
  unfold Heap.get?;simp[a']
 have g:(λh:Heap=>∃o b bj,h.get? a=some o/\o.ExactDict/\o.data=.dict b bj/\b.toList=xs.map (Fj aC.aY.wl)) (Heap.mk (Array.replicate (a+1) a') {}):=⟨a',_,0,d,⟨rfl,rfl,rfl⟩,rfl,by simp⟩;rw[(eY.ext.inj e)]at g;obtain⟨c,o,vs,t,i,f,hd,_⟩:=g;cases i;rw[d]at f;cases f;cases hd
def pS(K:aN)(H:ax)(d k:V)(o:Option V):Prop:=∃(n:Nat)(a:Addr)(xs:List (hJ n×Addr×Value))(p:hJ n)(b:Addr),d=.ref a/\k=.ref b/\H a=some (lr n a xs)/\((a==aog)=false/\(xs.map (·.1)).Nodup)/\(∀x∈xs,oj K H x.1.1 x.2.1)/\oj K H p.1 b/\match o with
 |some v=>∃u,atKey xs p=some u/\RelV v u.2|none=>atKey xs p=none
section
variable{X:aT}
def Pq(hw:X.w=aC.aY.wl)(m:X.A.units+64<cLine):dX X (amW .In) (λx y H Q=>∃o,pS X.K H y x o/\Q (.ay o.isSome) H):=by
 intro l s U H x y v u Q I d k h;refine a4 λg=>?_
 obtain⟨o,⟨n,a,xs,p,b,rfl,rfl,i,ok,j,f,c⟩,q⟩:=h;cases d;cases k;refine g ?_;refine wpAny_in_heap (by show X.A.units+1+6<cLine;omega) (f.is I) ok.1 (z9 hw I i j ok.2) ?_;have e:(atKey xs p).isSome=o.isSome:=by
  cases o with
  |none=>rw[c];rfl|some v=>obtain⟨u,e,_⟩:=c;rw[e];rfl
 rw[e];exact⟨.ay o.isSome,H,I.tok _,rfl,q⟩
def Py(hw:X.w=aC.aY.wl)(l:X.A.units+64<cLine):dX X (amW .NotIn) (λx y H Q=>∃o,pS X.K H y x o/\Q (.ay (!o.isSome)) H):=by
 intro k s U H x y v u Q I d j h;obtain⟨o,⟨n,a,xs,p,b,rfl,rfl,g,ok,i,f,c⟩,q⟩:=h;cases d;cases j;refine wpAny_notIn_heap (by show X.A.units+1+6<cLine;omega) (f.is I) ok.1 (z9 hw I g i ok.2) ?_;have e:(atKey xs p).isSome=o.isSome:=by
  cases o with
  |none=>rw[c];rfl|some v=>obtain⟨u,e,_⟩:=c;rw[e];rfl
 rw[e];exact⟨.ay (!o.isSome),H,I.tok _,rfl,q⟩
def ae2{o i:Expr}{d ty:TE}(hw:X.w=aC.aY.wl)(F:X.A.units+64<cLine)(k:b3 X o d)(hi:b3 X i ty)(aw:vz i):b3 X (.Subscript o i pos) (sC (λx y H Q=>∃v,pS X.K H x y (some v)/\Q v H) d ty):=by
 intro e s U H Q I h;refine QX aqe.lookup aw (cc (k e s U H _ I h) λu E ⟨x,f,t,g,bE⟩=>cc (hi e E U f _ t bE) λG s2 ⟨y,j,c,r,v,⟨n,a,xs,p,b,ex,z,m,ok,q,l,w,B,D⟩,bZ⟩=>?_);subst ex z;cases g;cases r;have dd:=z9 hw c m q ok.2;exact⟨dd.typeIs,wpAny_getItem_heap (by show X.A.units+1+6<cLine;omega) (l.is c) dd B ⟨v,j,c.tok _,D,bZ⟩⟩
def agt(hw:X.w=aC.aY.wl)(E:X.A.units+64<cLine):BF X (λo i v H Q=>∃(n:Nat)(a b:Addr)(xs:List (hJ n×Addr×Value))(p:hJ n),o=.ref a/\i=.ref b/\H a=some (lr n a xs)/\((a==aog)=false/\(xs.map (·.1)).Nodup)/\(∀x∈xs,oj X.K H x.1.1 x.2.1)/\oj X.K H p.1 b/\xs.length<=ami/\∀u,RelV v u->Q (upd H a (lr n a (storedH xs p b u)))):=by
 rintro D s U H o i v b6 F u Q I z h y ⟨n,a,b,xs,p,kC,B,f,ok,r,l,hz,q⟩;subst kC B;cases z;cases h;refine wpAny_setItem_heap (hsz:=hz) (by show X.A.units+1+6<cLine;omega) (l.is I) (z9 hw I f r ok.2) λh' j aw=>⟨_,?_,q u y⟩
 refine a4 λm=>?_
 obtain⟨a',d,bj,c,e,t,g,_,_⟩:=j;rw[hw]at g;exact m (Va I (by rw[f];exact ao8) aw ⟨a',c⟩ ⟨⟨a',d,bj,c,e,t,g⟩,⟨a',c⟩,λc e ⟨o,d,bj,ao,aA⟩ k=>⟨o,d,bj,k o ao,aA⟩⟩)
def afb:b3 X (.Dict [] [] pos) (λ_ H Q=>∀p,H p=none->(p==aog)=false->Q (.ref p) (upd H p (lr n p []))):=λc s U H Q I h=>
 wpAny_Dict_empty ⟨.ref s.heap.objs.size,_,I.laid (o:=lr n s.heap.objs.size []) (λ_ _ q=>B1 _ q) (amj _) ⟨⟨_,#[],0,amq _ rfl,⟨rfl,rfl,rfl⟩,rfl,rfl⟩,⟨_,amq _ rfl⟩,λb d ⟨o,a,bj,ao,aA⟩ k=>⟨o,a,bj,k o ao,aA⟩⟩,rfl,h _ (I.ct.fresh (amj _)) (beq_eq_false_iff_ne.mpr (an4 (amM I.big)))⟩
end
noncomputable def n1(neg:Bool)(k r:R):M R:=do
 let o <-f_ r
 match o,k with
 |.dU n C,.v kd=>match lR kd with
  |some p=>if p.1.length=n then pure (.v (.ay (xor neg (C.any λa=>decide (a.1=p)))))else bad|none=>bad
 |_,_=>bad
noncomputable def uG(r k:R):M R:=do
 let o <-f_ r
 match o,k with
 |.dU n C,.v kd=>match lR kd with
  |some p=>if p.1.length=n then(match d_ C p with
   |some d=>pure (.v d)| none=>bad)else bad
  |none=>bad
 |_,_=>bad
noncomputable def ve(mo mk:bp)(mv:eo):b7:=λU=>do
 let r <-mv U
 let d <-r.dat.up
 let x <-(mo U).up
 let k <-(mk U).up
 let o <-(f_ x).up
 match o,k with
 | .dU n C,.v kd=>(match lR kd with
  |some p=>if p.1.length=n/\C.length<ami then(do
   AF x (.dU n (ik C p d))
   pure (.bt U))else gm
  |none=>gm)
 |_,_=>gm
section
variable{K:aN}{mg:bf}{O:a7}{H:ax}
def B2{xs:List (hJ n×Addr×Value)}(l:H a=some (lr n a xs))(ok:(a==aog)=false/\(xs.map (·.1)).Nodup)(c:e6 K mg O H C xs)(f:Rep K mg O H kd y)(j:lR kd=some p)(hl:p.1.length=n) :
  match d_ C p with
  |some d=>∃v,pS K H (.ref a) y (some v)/\Rep K mg O H d v|none=>pS K H (.ref a) y none:=by
 rw[O7 j]at f;obtain⟨b,rfl,g⟩:=F6 f;have v:=c.val ⟨p,hl⟩
 cases e:d_ C p with
 |none=>rw[e]at v;exact⟨n,a,xs,⟨p,hl⟩,b,rfl,rfl,l,ok,c.keys,g,v⟩|some d=>
  rw[e]at v;obtain⟨u,w,ao,i,h⟩:=v;exact⟨w,⟨n,a,xs,⟨p,hl⟩,b,rfl,rfl,l,ok,c.keys,g,u,ao,h⟩,i⟩
def Pb{a:List ((List Key×List Key)×D)}:(a.any λc=>decide (c.1=p))=(d_ a p).isSome:=by
 unfold d_
 induction a with
 |nil=>rfl|cons x r b=>
  rw[aoR,aqD]
  cases decide (x.1=p)with
  |true=>rfl|false=>exact b
end
section
variable{K:aN}{mg:bf}
set_option tactic.hygienic true in
def HI:d3 K mg (fun x y H Q=>∃o,pS K H y x o/\Q (.ay o.isSome) H) (n1 false):=fun O U S ar H x y a8 bU bw aq Q st I C h q=>by
 refine a4 λf=>?_
 obtain⟨o,S1,c,b⟩:=M.inv h;clear h;obtain⟨a,rfl,_,i⟩:=xp st C c;obtain rfl:=(f_ bU).eH _ _ _ c;split at b
 .rename_i n g kd
  split at b
  .rename_i p j
   split at b
   .rename_i hl
    cases b;obtain⟨xs,l,ok,k⟩:=i;have z:=B2 l ok k (show Rep K mg O H kd x from I) j hl;rw[Pb]at q
    cases e:d_ g p with
    |none=>refine f ?_;rw[e]at z q;exact⟨none,z,q O _ H (Go.refl _ _) st rfl trivial⟩|some d=>refine f ?_;rw[e]at z q;obtain⟨v,z,_⟩:=z;exact⟨some v,z,q O _ H (Go.refl _ _) st rfl trivial⟩
   .cases b
  .cases b
 .cases b
set_option tactic.hygienic true in
def HN:d3 K mg (fun x y H Q=>∃o,pS K H y x o/\Q (.ay (!o.isSome)) H) (n1 true):=fun O U S ar H x y a8 bU bw aq Q st I C h q=>by
 obtain⟨o,S1,c,b⟩:=M.inv h;obtain⟨a,rfl,_,g⟩:=xp st C c;obtain rfl:=(f_ bU).eH _ _ _ c;split at b
 .rename_i n f kd
  split at b
  .rename_i p i
   split at b
   .rename_i hl
    cases b;obtain⟨xs,l,ok,j⟩:=g;have z:=B2 l ok j (show Rep K mg O H kd x from I) i hl;rw[Pb]at q
    cases e:d_ f p with
    |none=>rw[e]at z q;exact⟨none,z,q O _ H (Go.refl _ _) st rfl trivial⟩|some d=>rw[e]at z q;obtain⟨v,z,_⟩:=z;exact⟨some v,z,q O _ H (Go.refl _ _) st rfl trivial⟩
   .cases b
  .cases b
 .cases b
set_option tactic.hygienic true in
def S2:d3 K mg (fun x y H Q=>∃v,pS K H x y (some v)/\Q v H) uG:=fun O U S ar H x y I bU bw aq Q st ah C h q=>by
 refine a4 λf=>?_
 obtain⟨o,S1,c,b⟩:=M.inv h;clear h;obtain⟨a,rfl,_,i⟩:=xp st ah c;obtain rfl:=(f_ I).eH _ _ _ c;split at b
 .rename_i n g kd
  split at b
  .rename_i p j
   split at b
   .rename_i hl
    obtain⟨xs,l,ok,k⟩:=i;have z:=B2 l ok k (show Rep K mg O H kd y from C) j hl
    cases e:d_ g p with
    |none=>refine f ?_;rw[e]at b;cases b
    |some d=>refine f ?_;rw[e]at z b;cases b;obtain⟨v,z,r⟩:=z;exact⟨v,z,q O v H (Go.refl _ _) st r trivial⟩
   .cases b
  .cases b
 .cases b
end
section
variable{X:aT}{o i value:Expr}{mo mk:bp}{mv:eo}{pos pos':Pos}
set_option tactic.hygienic true in
def ajp(hw:X.w=aC.aY.wl)(cv:X.A.units+64<cLine)(Y:ba X o mo)(av:ba X i mk)(b5:e7 X value mv)(aw:swapsWithSole [.Subscript o i pos'] value pos.line X.env=pure false:=by rfl)(kO:swappedStores [.Subscript o i pos'] value X.env=pure none:=by rfl)
  (l:(anu [.Subscript o i pos'] X.env).map (·.2)=[ao2 (.Subscript o i pos') X.env]:=by rfl)
  (f:∀v,ao2 (.Subscript o i pos') X.env v=(do
   let b6 <-aoC [v] (eval o X.env)
   let s <-aoC [v,b6] (eval i X.env)
   standAt pos'
   aoC [v,b6,s] (setItem b6 s v)
   release [v,b6,s] []):=by intro _;rfl):f5 X (.Assign [.Subscript o i pos'] value pos) (ve mo mk mv):=⟨hb (PT b5.un (PM Y.un av.un (agt hw cv) f) aw kO l) λD I H Z=>by
 refine a4 λa=>?_
 obtain⟨O,U,S,aJ,aq,st,h,q⟩:=Z;obtain⟨r,S1,l,f⟩:=N.inv h;clear h;obtain⟨d,aQ,C,e⟩:=N.inv f;clear f;obtain⟨x,hL,F,R⟩:=N.inv e;clear e;obtain⟨y,sY,J,hd⟩:=N.inv R;clear R;obtain⟨a',nk,G,h⟩:=N.inv hd;clear hd;refine a ⟨O,U,S,r,S1,st,l,λW v H1 g1 E bF nn=>?_⟩;refine a4 λa=>?_
 obtain⟨cb,rfl⟩:=qb bF nn C;obtain rfl:=(mo U).eH _ _ _ F;obtain rfl:=(mk U).eH _ _ _ J;refine a ⟨cL H W,U,_,x,_,(E.cL H).s3,F,λbl fC aK g2 bQ T bt=>?_⟩;refine⟨bl,U,_,y,_,bQ,J,λM n_ c8 P Q g mT=>?_⟩;have B:=g2.trans P;refine a4 λa=>?_
 obtain⟨n,b,rfl,rfl,V,sn,fN⟩:=uH Q (T.go P) G;obtain rfl:=(f_ (.v (.ref n))).eH _ _ _ G;split at h
 .rename_i m bG kd
  split at h
  .rename_i p gU
   split at h
   .rename_i j
    cases h;obtain⟨xs,L,ok,t⟩:=fN;have g:Rep X.K X.mg M c8 (uz p) n_:=by rw[<-O7 gU];exact g
    obtain⟨c,rfl,e⟩:=F6 g;refine a ⟨m,b,c,xs,⟨p,j.1⟩,rfl,rfl,L,ok,t.keys,e,by rw[t.len];exact anM j.2,λu eI=>?_⟩;obtain⟨iu,jj⟩:=((E.cL H).go B Q.cy).write (u':=lr m b (storedH xs ⟨p,j.1⟩ c u)) (o:=.dU m (ik bG p d)) V L (by rintro(⟨_,z⟩|⟨_,_,z⟩)<;>cases z) (by intro _ z;cases z) (λ_=>acj) λk=>
     ⟨_,d2,⟨ok.1,agR ok.2⟩,e6.put (p:=⟨p,j.1⟩) (b:=c) (t.imp k) (k _ _ g) (k _ _ (Rep.go B cb)) eI⟩
    exact q M I _ ((g1.cL.trans B.dH).trans iu).ee jj
   .cases h
  .cases h
 .cases h⟩
theorem aji:e7 X (.Dict [] [] pos) (A9 (.dU n [])):=⟨ef afb λf H Q c p a aw=>by
 obtain⟨O,U,S,r,e,st,h,q⟩:=c;cases h;obtain⟨g,d,dJ,b⟩:=alloc (o:=.dU n []) st.s3.cy st.s3.gF st.full a (sv a (lr n p [])) (by rw[d2];intro z;cases z) λ_=>⟨[],d2,⟨aw,apa⟩,rfl⟩
 refine q _ _ _ g (st.dH g d dJ b) ⟨p,rfl,?_⟩ trivial;show(O.bP++[p])[S.length]? = _;rw[<-st.full,ams (amj _),anQ];rfl⟩
def ain(hw:X.w=aC.aY.wl)(b:X.A.units+64<cLine)(a:ba X o mo)(hi:ba X i mk)(aw:vz i:=by intro _ _;rfl):ba X (.Subscript o i pos) (ak uG mo mk):=⟨ef (ae2 hw b a.un hi.un aw) (vM S2)⟩
end
end az
set_option maxHeartbeats 8000000
namespace az
abbrev aH(n:Int):bp:=bb (.int n)
abbrev aI(v:Nat)(n:Int):bp:=ak eC (J v) (bb (.int n))
abbrev gq(e:bp)(n:Int):bp:=ak eC e (bb (.int n))
abbrev a5(e:bp):c3:=di e cQ
abbrev bH(e f:bp):c3:=di e (di f cQ)
abbrev c2(e f g:bp):c3:=di e (di f (di g cQ))
end az
namespace ed
open PySem PySem.Spec aC az
def top(i:Nat):Stmt:=PySem.Challenge.pw_oneslate_k45_whole_record_closed.main.body.getD i (.Pass ⟨0,0,0,0⟩)
abbrev QG:Stmt:=top 8
abbrev QH:Stmt:=top 56
abbrev QI:Stmt:=top 58
abbrev QJ:Stmt:=top 86
abbrev xG:Stmt:=top 107
def agp:hI ["script","askers","house","names","held","brought","k","letters","sent","told","answers","letter"] ["script"] (dr xG):=qj (by kernel_rfl)
abbrev Ad:List Str:=["me","epoch","hall","opening","over_known","greatest_round","last_stamp","wishes","deed","standing","last_outcome","grants","kept_mask","told_slate"]
abbrev Ae:List Str:=["askers","books","letters","rows"]
noncomputable abbrev zA:List (Str×D):=[("put",.t [(.str "name"),(.str "number")]),("add",.t [(.str "name"),(.str "number")]),("swap",.t [(.str "name"),(.str "number"),(.str "number")]),("take",.t [(.str "fence")]),("renew",.t [(.str "fence")]),("free",.t [(.str "fence")]),("sure",.t [(.str "fence"),(.str "name"),(.str "number")]),("move",.t [(.str "hall")]),("end",.t [])]
abbrev hF:List (Str×Str):=[("put","do_put"),("add","do_add"),("swap","do_swap"),("take","do_take"),("renew","do_renew"),("free","do_free"),("sure","do_sure"),("move","do_move"),("end","do_end")]
structure Txt[aC.aY](P:amC)(w:World)(K:aN)(mg:bf)(base:Heap):Prop where
 hw:w=aC.aY.wl
 Ld:cG K mg "is_whole" (top 2) o0 o0
 KY:cG K mg "has_keeper" (top 3) ["mask","keeper"] ["mask","keeper"]
 Lv:cG K mg "mask_of" (top 4) ["keepers"] ["keepers","mask","keeper"]
 Le:cG K mg "keepers_of" (top 5) ["mask"] ["mask"]
 Lw:cG K mg "masks_within" (top 6) ["mask"] ["mask","masks","keeper"]
 K2:cG K mg "highest" (top 8) ["grants","opening"] ["grants","opening","grant"]
 Ky:cG K mg "all_alike" (top 9) ["grants"] ["grants"]
 KX:cG K mg "granters" (top 10) ["grants"] ["grants"]
 K7:cG K mg "is_keeper" (top 24) o0 o0
 K':cG K mg "is_pair" (top 25) o0 o0
 K3:cG K mg "is_choice" (top 26) o0 ["thing","many"]
 CQ:cG K mg "is_built" (top 27) ["thing","deep"] ["thing","deep"]
 CS:cG K mg "namings" (top 28) ["rule"] ["rule","keepers","part"]
 Lb:cG K mg "is_rule" (top 29) o0 o0
 Lz:cG K mg "named" (top 30) ["rule"] ["rule"]
 CP:cG K mg "fills" (top 31) ["rule","mask"] ["rule","mask"]
 K8:cG K mg "is_least" (top 32) ["mask","filling"] ["mask","filling"]
 Ls:cG K mg "least_masks" (top 33) ["rule"] ["rule","filling"]
 KU:cG K mg "first_apart" (top 35) ["mask","others"] ["mask","others","other"]
 LF:cG K mg "parting" (top 36) ["asking","keeping"] ["asking","keeping","others","mask","other"]
 K6:cG K mg "is_hall" (top 37) o0 o0
 Lx:cG K mg "members_mask" (top 38) ["hall"] ["hall"]
 Ly:cG K mg "members_of" (top 39) ["hall"] ["hall"]
 K9:cG K mg "is_name" (top 44) o0 o0
 K_:cG K mg "is_number" (top 45) o0 o0
 K5:cG K mg "is_fence" (top 46) o0 o0
 KV:cG K mg "form_of" (top 47) ["word"] ["word"]
 La:cG K mg "is_part" (top 48) ["kind","thing"] ["kind","thing"]
 K4:cG K mg "is_deed" (top 49) o0 ["thing","form"]
 KC:cG K mg "blank" (top 51) [] []
 Lr:cG K mg "lease_of" (top 52) M2 M2
 LG:cG K mg "shut_of" (top 53) M2 M2
 Lc:cG K mg "is_shut" (top 54) M2 M2
 KD:cG K mg "cell_of" (top 55) ["slate","name"] ["slate","name","cell"]
 LI:cG K mg "with_cell" (top 56) ["slate","name","n"] ["slate","name","n","cells"]
 KR:cG K mg "doing_of" (top 57) ["slate","asker"] ["slate","asker","doing"]
 LJ:cG K mg "with_doing" (top 58) ["slate","asker","number","answer"] ["slate","asker","number","answer","doings"]
 LK:cG K mg "with_lease" (top 59) v4 v4
 LM:cG K mg "with_shut" (top 60) ["slate","shut"] ["slate","shut"]
 LB:cG K mg "opened" (top 61) M2 M2
 KL:cG K mg "do_put" (top 63) T0 T0
 KG:cG K mg "do_add" (top 64) T0 ["slate","asker","deed","total"]
 KP:cG K mg "do_swap" (top 65) T0 T0
 Lu:cG K mg "lent" (top 66) v4 v4
 LA:cG K mg "not_lent" (top 67) M2 ["slate","lease"]
 KQ:cG K mg "do_take" (top 68) T0 T0
 KN:cG K mg "do_renew" (top 69) T0 T0
 KI:cG K mg "do_free" (top 70) T0 T0
 KO:cG K mg "do_sure" (top 71) T0 T0
 KJ:cG K mg "do_move" (top 72) T0 T0
 KH:cG K mg "do_end" (top 73) T0 T0
 LC:cG K mg "outcome_of" (top 75) T0 ["slate","asker","deed","doer"]
 KS:cG K mg "done_on" (top 76) ["slate","asker","number","deed"] ["slate","asker","number","deed","made"]
 KA:cG K mg "ask_letter" (top 78) ["asker","keeper","epoch","stamp"] ["asker","keeper","epoch","stamp"]
 LH:cG K mg "tell_letter" (top 79) u8 u8
 Kz:cG K mg "answer_to" (top 80) ["letter","word","load"] ["letter","word","load"]
 KW:cG K mg "goes_to_keeper" (top 81) ["letter"] ["letter"]
 J3:eS K mg "Asker" "__init__" "Asker.__init__" (inClass (top 83) 0) ["self","me","hall"] ["self","me","hall"]
 J5:yb K mg "Asker" "begin" "Asker.begin" (inClass (top 83) 1) ["self","deed"] ["self","deed"]
 J6:eS K mg "Asker" "bell" "Asker.bell" (inClass (top 83) 2) v0 v0
 J':eS K mg "Asker" "hear" "Asker.hear" (inClass (top 83) 3) P3 P3
 Kg:eS K mg "Asker" "outcome" "Asker.outcome" (inClass (top 83) 4) v0 v0
 Kf:eS K mg "Asker" "number" "Asker.number" (inClass (top 83) 5) v0 v0
 Kj:eS K mg "Asker" "stand" "Asker.stand" (inClass (top 83) 6) v0 v0
 Kh:eS K mg "Asker" "place" "Asker.place" (inClass (top 83) 8) v0 v0
 Kd:eS K mg "Asker" "knows_over" "Asker.knows_over" (inClass (top 83) 9) v0 v0
 Kc:eS K mg "Asker" "is_for_now" "Asker.is_for_now" (inClass (top 83) 10) P3 P3
 J4:eS K mg "Asker" "ask_members" "Asker.ask_members" (inClass (top 83) 11) v0 v0
 Ka:eS K mg "Asker" "hear_grant" "Asker.hear_grant" (inClass (top 83) 12) P3 P3
 J9:eS K mg "Asker" "go_on" "Asker.go_on" (inClass (top 83) 13) ["self","pair"] ["self","pair","load"]
 Ki:eS K mg "Asker" "sees_at_once" "Asker.sees_at_once" (inClass (top 83) 14) ["self","slate"] ["self","slate"]
 Kb:eS K mg "Asker" "hear_kept" "Asker.hear_kept" (inClass (top 83) 15) P3 ["self","letter","shut"]
 J7:eS K mg "Asker" "end_where_told" "Asker.end_where_told" (inClass (top 83) 16) v0 ["self","slate","doing"]
 Ke:eS K mg "Asker" "learn_over" "Asker.learn_over" (inClass (top 83) 17) v0 v0
 J_:eS K mg "Asker" "go_over" "Asker.go_over" (inClass (top 83) 18) ["self","hall"] ["self","hall"]
 J8:eS K mg "Asker" "end_wish" "Asker.end_wish" (inClass (top 83) 19) ["self","outcome"] ["self","outcome"]
 LD:cG K mg "page_of" (top 85) ["book","epoch"] ["book","epoch","page"]
 LL:cG K mg "with_page" (top 86) ["book","epoch","promised","kept","slate"] ["book","epoch","promised","kept","slate","pages"]
 Lf:cG K mg "late" (top 87) ["book","letter","promised"] ["book","letter","promised"]
 K0:cG K mg "heard_ask" (top 88) v6 ["book","letter","stamp","page"]
 K1:cG K mg "heard_tell" (top 89) v6 ["book","letter","stamp","promised"]
 KZ:cG K mg "heard" (top 90) v6 v6
 Kk:eS K mg "House" "__init__" "House.__init__" (inClass (top 94) 0) ["self","hall","askers"] ["self","hall","askers"]
 Km:yb K mg "House" "begin" "House.begin" (inClass (top 94) 1) ["self","asker","deed"] ["self","asker","deed","one","letters"]
 Kn:eS K mg "House" "bell" "House.bell" (inClass (top 94) 2) W1 W1
 Ko:eS K mg "House" "bring" "House.bring" (inClass (top 94) 3) ["self","k"] ["self","k","letter"]
 Kv:eS K mg "House" "record" "House.record" (inClass (top 94) 4) v0 v0
 Kt:eS K mg "House" "many" "House.many" (inClass (top 94) 6) v0 v0
 Ks:eS K mg "House" "letter" "House.letter" (inClass (top 94) 7) ["self","k"] ["self","k"]
 Kw:eS K mg "House" "stand" "House.stand" (inClass (top 94) 10) W1 W1
 Ku:eS K mg "House" "place" "House.place" (inClass (top 94) 11) W1 W1
 Kr:eS K mg "House" "knows_over" "House.knows_over" (inClass (top 94) 12) W1 W1
 Kl:eS K mg "House" "asker_of" "House.asker_of" (inClass (top 94) 13) W1 W1
 Kx:eS K mg "House" "write" "House.write" (inClass (top 94) 14) ["self","letters"] ["self","letters","first"]
 Kq:eS K mg "House" "bring_to_keeper" "House.bring_to_keeper" (inClass (top 94) 15) P3 ["self","letter","told"]
 Kp:eS K mg "House" "bring_to_asker" "House.bring_to_asker" (inClass (top 94) 16) P3 ["self","letter","one","before","letters"]
 Lj:cG K mg "_law_cell_at" (top 96) ["script","k"] ["script","k"]
 Lm:cG K mg "_law_flat" (top 97) ["cell"] ["cell","many","some","asks"]
 Ln:cG K mg "_law_hall" (top 98) ["cell"] ["cell","some","rule","rows","tops"]
 Lo:cG K mg "_law_name" (top 99) ["cell"] ["cell","size","name"]
 Lp:cG K mg "_law_names" (top 100) ["cell"] ["cell","letters","base","at","other","third"]
 Lk:cG K mg "_law_deed" (top 101) ["names","mixed","cell"] ["names","mixed","cell","name","n","fence","way"]
 Lh:cG K mg "_law_bring" (top 102) ["house","k"] ["house","k","letter"]
 Li:cG K mg "_law_burst" (top 103) ["house","start","living","most"] ["house","start","living","most","k","many","letter","keeper"]
 Ll:cG K mg "_law_event" (top 104) ["house","names","askers","cell","k"] ["house","names","askers","cell","k","mixed","other","asker","start","many","j","deed","living"]
 Lq:cG K mg "_law_tell_fits" (top 105) ["letter","told"] ["letter","told","key","parent"]
 Lg:cG K mg "_law_answer_fits" (top 106) ["letter","sent","told"] ["letter","sent","told","key"]
 CR:g6 K mg "law" xG ["script"]
 oC:nc K mg "Asker" Ad
 oD:nc K mg "House" Ae
 Wd:∃u,mg "LAST_KEEPER"=some u/\RelV (.int 5) u
 Wi:∃u,mg "MOST_PARTS"=some u/\RelV (.int 6) u
 Wh:∃u,mg "MOST_NAMED"=some u/\RelV (.int 12) u
 Wf:∃u,mg "MOST_DEEP"=some u/\RelV (.int 4) u
 Wj:∃u,mg "SMALL_LETTERS"=some u/\RelV (.str "abcdefghijklmnopqrstuvwxyz") u
 Wg:∃u,mg "MOST_LETTERS"=some u/\RelV (.int 8) u
 We:∃u,mg "MOST_ASKERS"=some u/\RelV (.int 6) u
 Wc:∃u,mg "KEEPERS"=some u/\RelV (.int 6) u
 AN:vr P w K mg "DOERS" hF
 Eo:KTab P w K mg "FORMS" zA
 EC:vv K mg "highest" QG
 EF:vv K mg "with_cell" QH
 EG:vv K mg "with_doing" QI
 EH:vv K mg "with_page" QJ
 bm:l6 base mg
 B:G3 mg
 kt:yi K
section
variable[aC.aY]{P:amC}{w:World}{K:aN}{mg:bf}{base:Heap}
def TM:aW:=
  (a9 (jw (dm mn (bH (J 0) (bb (.ty "int")))) (vP (dm mn (bH (J 0) (bb (.ty "bool")))))))
def mO:bz:=fnOf 1 1 TM
def Il:aW:=
  (a9 (ak oEq (ak uC (ak xo (J 0) (J 1)) (aH 1)) (aH 1)))
def qA:bz:=fnOf 2 2 Il
def ED:aW:=
  (b9 1 (ak uD (J 1) (ak Fs (aH 1) (J 2))))
def I2:aW:=
  (a9 (J 1))
def I1:aW:=
  bS (lF 2 (wz (J 0)) ED) I2
def I0:aW:=
  bS (b9 1 (aH 0)) I1
def lP:bz:=fnOf 1 3 I0
def IL:aW:=
  (a9 (fG 1 [0] (jH (a5 (bh oBits (J 0)))) (aR (bo qA (bH (J 1) (J 0)))) (J 0)))
def ui:bz:=fnOf 1 1 IL
def EE:aW:=
  (b9 1 (ak uE (J 1) (fG 1 [2] (nR (J 1)) gb (ak eh (J 0) (bo lP (a5 (eL (a5 (J 1)))))))))
def I5:aW:=
  (a9 (J 1))
def I4:aW:=
  bS (lF 2 (wz (bo ui (a5 (J 0)))) EE) I5
def I3:aW:=
  bS (b9 1 (eL (a5 (aH 0)))) I4
def zZ:bz:=fnOf 1 3 I3
def Ir:aW:=
  (a9 (bM (bH (aI 2 1) (aI 2 2))))
def Iq:aW:=
  bS (cq (aR (ak oEq (aI 2 1) (bM (bH (aH 0) (aH 0))))) (a9 (bM (bH (aI 2 1) (J 1)))) b0) Ir
def Ip:aW:=
  bS (b9 2 (CC (fnOf 1 1 (a9 (aI 0 1))) (J 0))) Iq
def zS:bz:=fnOf 2 3 Ip
def H4:aW:=
  (a9 (dm oK (a5 (fG 1 [0] (nR (J 0)) gb (ak oEq (aI 0 1) (gq (aI 1 0) 1))))))
def w0:bz:=fnOf 1 1 H4
def Ik:aW:=
  (a9 (bo lP (a5 (fG 1 [] (nR (J 0)) gb (aI 0 0)))))
def o5:bz:=fnOf 1 1 Ik
def ID:aW:=
  (a9 (jw (bo mO (a5 (J 0))) (e0 oLe oLe (aH 0) (J 0) (aH 5))))
def w7:bz:=fnOf 1 1 ID
def TL:aW:=
  (a9 (jw (dm mn (bH (J 0) (bb (.ty "tuple")))) (ak oEq (dm hu (a5 (J 0))) (aH 2))))
def zU:bz:=fnOf 1 1 TL
def Iu:aW:=
  (a9 (jw (ak oLe (J 1) (aH 6)) (e0 oLe oLe (aH 1) (aI 0 0) (J 1))))
noncomputable def TK:aW:=
  bS (cq (fA (eE (aR (bo zU (a5 (J 0))))) (fA (eE (aR (bo mO (a5 (aI 0 0))))) (eE (aR (dm mn (bH (aI 0 1) (bb (.ty "tuple")))))))) (a9 (bb (.ay false))) b0) (bS (b9 1 (dm hu (a5 (aI 0 1)))) Iu)
def E0:bz:=fnOf 1 2 TK
def TJ(self:bz):aW:=
  (a9 (dm oK (a5 (fG 1 [1] (mH (aI 0 1)) gb (bo self (bH (J 0) (ak pg (J 1) (aH 1))))))))
def TH(self:bz):aW:=
  bS (cq (fA (aR (ak oEq (J 1) (aH 0))) (eE (aR (bo E0 (a5 (J 0)))))) (a9 (bb (.ay false))) b0) (TJ self)
def It(self:bz):aW:=
  bS (cq (aR (bo w7 (a5 (J 0)))) (a9 (bb (.ay true))) b0) (TH self)
def uh:Nat->bz
 |0=>λ_=>bad
 |n+1=>fnOf 2 2 (It (uh n))
def wN(self:bz):aW:=
  (rm 1 xX (a5 (bo self (a5 (J 2)))))
def I'(self:bz):aW:=
  (yF 1)
def I_(self:bz):aW:=
  bS (lF 2 (mH (aI 0 1)) (wN self)) (I' self)
def I9(self:bz):aW:=
  bS (nz 1 (eL cQ)) (I_ self)
def yy(self:bz):aW:=
  bS (cq (aR (bo mO (a5 (J 0)))) (a9 (eL (a5 (J 0)))) b0) (I9 self)
def mQ:Nat->bz
 |0=>λ_=>bad
 |n+1=>fnOf 1 3 (yy (mQ n))
def IJ:aW:=
  (a9 (jw (bo (uh 12) (bH (J 0) (aH 4))) (ak oLe (dm hu (a5 (bo (mQ 12) (a5 (J 0))))) (aH 12))))
def w':bz:=fnOf 1 1 IJ
def I8:aW:=
  (a9 (bo lP (a5 (bo (mQ 12) (a5 (J 0))))))
def um:bz:=fnOf 1 1 I8
def Ie(self:bz):aW:=
  (a9 (ak uF (dm hu (a5 (fG 1 [1] (mH (aI 0 1)) (aR (bo self (bH (J 0) (J 1)))) (J 0)))) (aI 0 0)))
def yw(self:bz):aW:=
  bS (cq (aR (bo mO (a5 (J 0)))) (a9 (bo qA (bH (J 1) (J 0)))) b0) (Ie self)
def jh:Nat->bz
 |0=>λ_=>bad
 |n+1=>fnOf 2 2 (yw (jh n))
def IE:aW:=
  (a9 (vP (dm v9 (a5 (fG 1 [0,1] (nR (bo ui (a5 (J 0)))) gb (ak (lT false) (ak pg (J 1) (bo lP (a5 (eL (a5 (J 0)))))) (J 2)))))))
def w8:bz:=fnOf 2 2 IE
def IY:aW:=
  (a9 (fG 1 [1] (nR (J 1)) (aR (bo w8 (bH (J 0) (J 1)))) (J 0)))
def IX:aW:=
  bS (b9 1 (fG 1 [0] (nR (bo zZ (a5 (bo um (a5 (J 0)))))) (aR (bo (jh 12) (bH (J 1) (J 0)))) (J 0))) IY
def xb:bz:=fnOf 1 2 IX
def zD:aW:=
  (cq (aR (ak oEq (ak uC (J 0) (J 2)) (aH 0))) (a9 (J 2)) b0)
def Ih:aW:=
  (a9 (bb .aP))
def Ig:aW:=
  bS (lF 2 (wz (J 1)) zD) Ih
def w6:bz:=fnOf 2 3 Ig
def zF:aW:=
  (bS (b9 4 (bo w6 (bH (J 3) (J 2))))
  (cq (aR (ak i3 (J 4) (bb .aP))) (a9 (bM (bH (J 3) (J 4)))) b0))
def Jh:aW:=
  (a9 (bb .aP))
def Jg:aW:=
  bS (lF 3 (wz (bo xb (a5 (J 0)))) zF) Jh
def Jf:aW:=
  bS (b9 2 (bo xb (a5 (J 1)))) Jg
def z1:bz:=fnOf 2 5 Jf
def IC:aW:=
  (a9 (ak kZ (bo z1 (bH (aI 0 0) (aI 0 1))) (bb .aP)))
def IB:aW:=
  bS (cq (fA (eE (aR (bo zU (a5 (J 0))))) (fA (eE (aR (bo w' (a5 (aI 0 0))))) (eE (aR (bo w' (a5 (aI 0 1))))))) (a9 (bb (.ay false))) b0) IC
def qB:bz:=fnOf 1 1 IB
def I6:aW:=
  (a9 (ak uD (bo um (a5 (aI 0 0))) (bo um (a5 (aI 0 1)))))
def z0:bz:=fnOf 1 1 I6
def I7:aW:=
  (a9 (bo ui (a5 (bo z0 (a5 (J 0))))))
def mP:bz:=fnOf 1 1 I7
def IG:aW:=
  (a9 (dm oK (a5 (fG 1 [] (Nv (J 0)) gb (ak (si false) (J 0) (bb (.str "abcdefghijklmnopqrstuvwxyz")))))))
def IF:aW:=
  bS (cq (fA (eE (aR (dm mn (bH (J 0) (bb (.ty "str")))))) (eE (aR (e0 oLe oLe (aH 1) (dm nF (a5 (J 0))) (aH 8))))) (a9 (bb (.ay false))) b0) IG
def w9:bz:=fnOf 1 1 IF
def IH:aW:=
  (a9 (jw (bo mO (a5 (J 0))) (ak oLt (dm v8 (a5 (J 0))) (ak pe (aH 10) (aH 60)))))
def w_:bz:=fnOf 1 1 IH
def IA:aW:=
  (a9 (jw (bo w_ (a5 (J 0))) (ak uF (J 0) (aH 0))))
def zT:bz:=fnOf 1 1 IA
def Ii:aW:=
  (a9 (CF zA (J 0)))
def EZ:bz:=fnOf 1 1 Ii
def II:aW:=
  (a9 (bo qB (a5 (J 1))))
def Cm:aW:=
  bS (cq (aR (ak oEq (J 0) (bb (.str "fence")))) (a9 (bo zT (a5 (J 1)))) b0) II
def yx:aW:=
  bS (cq (aR (ak oEq (J 0) (bb (.str "number")))) (a9 (bo w_ (a5 (J 1)))) b0) Cm
def vK:aW:=
  bS (cq (aR (ak oEq (J 0) (bb (.str "name")))) (a9 (bo w9 (a5 (J 1)))) b0) yx
def o6:bz:=fnOf 2 2 vK
def Iz:aW:=
  (a9 (dm oK (a5 (vN [] (bH (J 1) (CD (J 0) (iQ (aH 1)) iD)) gb (bo o6 (bH (J 0) (J 1)))))))
def Iy:aW:=
  bS (cq (fA (aR (ak kZ (J 1) (bb .aP))) (aR (ak ea (dm hu (a5 (J 0))) (ak eh (dm hu (a5 (J 1))) (aH 1))))) (a9 (bb (.ay false))) b0) Iz
def Iw:aW:=
  bS (b9 1 (bo EZ (a5 (aI 0 0)))) Iy
noncomputable def Iv:aW:=
  bS (cq (fA (eE (aR (dm mn (bH (J 0) (bb (.ty "tuple")))))) (fA (aR (ak oEq (dm hu (a5 (J 0))) (aH 0))) (eE (aR (dm mn (bH (aI 0 0) (bb (.ty "str")))))))) (a9 (bb (.ay false))) b0) Iw
def nY:bz:=fnOf 1 2 Iv
def TB:aW:=
  (a9 (bM (di (bM cQ) (c2 (bM cQ) (bM (bH (aH 0) (bb .aP))) (bb .aP)))))
def OE:bz:=fnOf 0 0 TB
def nt:aW:=
  (a9 (aI 0 2))
def jK:bz:=fnOf 1 1 nt
def Cq:aW:=
  (a9 (aI 0 3))
def o8:bz:=fnOf 1 1 Cq
def IK:aW:=
  (a9 (ak i3 (bo o8 (a5 (J 0))) (bb .aP)))
def mM:bz:=fnOf 1 1 IK
def zB:aW:=
  (cq (aR (ak oEq (aI 2 0) (J 1))) (a9 (aI 2 1)) b0)
def H6:aW:=
  (a9 (aH 0))
def H5:aW:=
  bS (lF 2 (mH (aI 0 0)) zB) H6
def ub:bz:=fnOf 2 3 H5
def Jk:aW:=
  (a9 (bM (di (dm qi (a5 (rn mI (fnOf 1 1 (a9 (aI 0 0))) (J 3)))) (c2 (aI 0 1) (aI 0 2) (aI 0 3)))))
def Jj:aW:=
  bS (cq (aR (ak ea (J 2) (aH 0))) (rm 3 k9 (a5 (bM (bH (J 1) (J 2))))) b0) Jk
def Ji:aW:=
  bS (nz 3 (fG 1 [1] (mH (aI 0 0)) (aR (ak ea (aI 0 0) (J 1))) (J 0))) Jj
def r_:bz:=fnOf 3 4 Ji
def zC:aW:=
  (cq (aR (ak oEq (aI 2 0) (J 1))) (a9 (J 2)) b0)
def Ic:aW:=
  (a9 (bM (c2 (J 1) (aH 0) (bb .aP))))
def Ib:aW:=
  bS (lF 2 (mH (aI 0 1)) zC) Ic
def qz:bz:=fnOf 2 3 Ib
def Jn:aW:=
  (a9 (bM (di (aI 0 0) (c2 (dm qi (a5 (rn fy (fnOf 1 1 (a9 (aI 0 0))) (J 4)))) (aI 0 2) (aI 0 3)))))
def Jm:aW:=
  bS (rm 4 k9 (a5 (bM (c2 (J 1) (J 2) (J 3))))) Jn
def Jl:aW:=
  bS (nz 4 (fG 1 [1] (mH (aI 0 1)) (aR (ak ea (aI 0 0) (J 1))) (J 0))) Jm
def z2:bz:=fnOf 4 5 Jl
def Jo:aW:=
  (a9 (bM (di (aI 0 0) (c2 (aI 0 1) (bM (bH (J 1) (J 2))) (aI 0 3)))))
def z3:bz:=fnOf 3 3 Jo
def Js:aW:=
  (a9 (bM (di (aI 0 0) (c2 (aI 0 1) (aI 0 2) (J 1)))))
def ur:bz:=fnOf 2 2 Js
def Jc:aW:=
  (a9 (bo ur (bH (J 0) (bb .aP))))
def uq:bz:=fnOf 1 1 Jc
def Ia:aW:=
  (a9 (bM (bH (bo r_ (c2 (J 0) (aI 2 1) (aI 2 2))) (bo ub (bH (J 0) (aI 2 1))))))
def w5:bz:=fnOf 3 3 Ia
def H8:aW:=
  (a9 (bM (bH (bo r_ (c2 (J 0) (aI 2 1) (J 3))) (J 3))))
def H7:aW:=
  bS (b9 3 (ak eh (bo ub (bH (J 0) (aI 2 1))) (aI 2 2))) H8
def w2:bz:=fnOf 3 4 H7
def Ce:aW:=
  (a9 (bM (bH (bo r_ (c2 (J 0) (aI 2 1) (aI 2 3))) (aH 1))))
def Cd:aW:=
  bS (cq (aR (ak ea (bo ub (bH (J 0) (aI 2 1))) (aI 2 2))) (a9 (bM (bH (J 0) (aH 0)))) b0) Ce
def uf:bz:=fnOf 3 3 Cd
def IZ:aW:=
  (a9 (bM (bH (bo z3 (c2 (J 0) (ak eh (J 1) (aH 1)) (J 2))) (bM (c2 (aH 1) (ak eh (J 1) (aH 1)) (J 2))))))
def uk:bz:=fnOf 3 3 IZ
def Jb:aW:=
  (a9 (bM (bH (J 0) (bM (c2 (aH 0) (aI 1 0) (aI 1 1))))))
def Ja:aW:=
  bS (b9 1 (bo jK (a5 (J 0)))) Jb
def uo:bz:=fnOf 1 2 Ja
def Cg:aW:=
  (a9 (bo uk (c2 (J 0) (aI 2 1) (J 1))))
def Cf:aW:=
  bS (cq (aR (ak ea (gq (bo jK (a5 (J 0))) 0) (aI 2 1))) (a9 (bo uo (a5 (J 0)))) b0) Cg
def ug:bz:=fnOf 3 3 Cf
def Ca:aW:=
  (a9 (bo uk (c2 (J 0) (aI 2 1) (J 1))))
def B':aW:=
  bS (cq (aR (ak ea (bo jK (a5 (J 0))) (bM (bH (aI 2 1) (J 1))))) (a9 (bo uo (a5 (J 0)))) b0) Ca
def ud:bz:=fnOf 3 3 B'
def B_:aW:=
  (a9 (bo uk (c2 (J 0) (aI 2 1) (bb .aP))))
def B9:aW:=
  bS (cq (aR (ak ea (bo jK (a5 (J 0))) (bM (bH (aI 2 1) (J 1))))) (a9 (bo uo (a5 (J 0)))) b0) B_
def uc:bz:=fnOf 3 3 B9
def Cc:aW:=
  (a9 (bM (bH (bo r_ (c2 (J 0) (aI 2 2) (aI 2 3))) (aH 1))))
def Cb:aW:=
  bS (cq (aR (ak ea (bo jK (a5 (J 0))) (bM (bH (aI 2 1) (J 1))))) (a9 (bM (bH (J 0) (aH 0)))) b0) Cc
def ue:bz:=fnOf 3 3 Cb
def H_:aW:=
  (a9 (bM (bH (bo ur (bH (J 0) (aI 2 1))) (aH 1))))
def w4:bz:=fnOf 3 3 H_
def H9:aW:=
  (a9 (bM (bH (bo ur (bH (J 0) (bb (.str "over")))) (aH 1))))
def w3:bz:=fnOf 3 3 H9
abbrev ic:List (Str×bz):=[("do_put",w5),("do_add",w2),("do_swap",uf),("do_take",ug),("do_renew",ud),("do_free",uc),("do_sure",ue),("do_move",w4),("do_end",w3)]
def nx:aW:=
  (a9 (CA 3 ic (c2 (J 0) (J 1) (J 2))))
def nv:aW:=
  bS (b9 3 (CE hF (aI 2 0))) nx
def fo:bz:=fnOf 3 4 nv
def Ck:aW:=
  (a9 (bo z2 (di (aI 4 0) (c2 (J 1) (J 2) (aI 4 1)))))
def Cj:aW:=
  bS (b9 4 (bo fo (c2 (J 0) (J 1) (J 3)))) Ck
def Ci:aW:=
  bS (cq (fA (aR (ak kZ (J 3) (bb .aP))) (fA (aR (bo mM (a5 (J 0)))) (aR (ak uF (gq (bo qz (bH (J 0) (J 1))) 1) (J 2))))) (a9 (J 0)) b0) Cj
def nX:bz:=fnOf 4 5 Ci
def TA:aW:=
  (a9 (bM (di (bb (.str "ask")) (di (J 0) (di (J 1) (c2 (J 2) (J 3) (bM cQ)))))))
def OD:bz:=fnOf 4 4 TA
def TZ:aW:=
  (a9 (bM (di (bb (.str "tell")) (di (J 0) (di (J 1) (c2 (J 2) (J 3) (J 4)))))))
def OH:bz:=fnOf 5 5 TZ
def Tz:aW:=
  (a9 (bM (di (J 1) (di (aI 0 2) (di (aI 0 1) (c2 (aI 0 3) (aI 0 4) (J 2)))))))
def w1:bz:=fnOf 3 3 Tz
def Ij:aW:=
  (a9 (ak (lT false) (aI 0 0) (bM (bH (bb (.str "ask")) (bb (.str "tell"))))))
def o4:bz:=fnOf 1 1 Ij
noncomputable def HP:b7:=
  bJ (d0 "Asker" "me" (J 0) (dt (J 1))) (bJ (d0 "Asker" "epoch" (J 0) (dt (aH 0))) (bJ (d0 "Asker" "hall" (J 0) (dt (J 2))) (bJ (d0 "Asker" "opening" (J 0) (dt (bo OE cQ))) (bJ (d0 "Asker" "over_known" (J 0) (dt (bb (.ay false)))) (bJ (d0 "Asker" "greatest_round" (J 0) (dt (aH 0))) (bJ (d0 "Asker" "last_stamp" (J 0) (dt (bM (bH (aH 0) (aH 0))))) (bJ (d0 "Asker" "wishes" (J 0) (dt (aH 0))) (bJ (d0 "Asker" "deed" (J 0) (dt (bb .aP))) (bJ (d0 "Asker" "standing" (J 0) (dt (bb (.str "calm")))) (bJ (d0 "Asker" "last_outcome" (J 0) (dt (bb .aP))) (bJ (d0 "Asker" "grants" (J 0) (l0 (dt (eL cQ)))) (bJ (d0 "Asker" "kept_mask" (J 0) (dt (aH 0))) (d0 "Asker" "told_slate" (J 0) (dt (bb .aP)))))))))))))))
def t4:d6:=fnX 3 3 HP
noncomputable def S9:b7:=
  bJ (d0 "Asker" "greatest_round" (J 0) (dt (ak eh (bh (b8 "Asker" "greatest_round") (J 0)) (aH 1)))) (bJ (d0 "Asker" "last_stamp" (J 0) (dt (bM (bH (bh (b8 "Asker" "greatest_round") (J 0)) (bh (b8 "Asker" "me") (J 0)))))) (bJ (d0 "Asker" "standing" (J 0) (dt (bb (.str "asking")))) (bJ (d0 "Asker" "grants" (J 0) (l0 (dt (eL cQ)))) (b' (a9 (fG 1 [0] (nR (bo mP (a5 (bh (b8 "Asker" "hall") (J 0))))) gb (bo OD (di (bh (b8 "Asker" "me") (J 1)) (c2 (J 0) (bh (b8 "Asker" "epoch") (J 1)) (bh (b8 "Asker" "last_stamp") (J 1)))))))))))
def wV:d6:=fnX 1 1 S9
noncomputable def HQ:b7:=
  bJ (b' (cq (hE (aR (ak i3 (J 1) (bb .aP))) (eE (aR (bo nY (a5 (J 1)))))) oB b0)) (bJ (b' (cq (aR (bh (b8 "Asker" "over_known") (J 0))) oB b0)) (bJ (b' (cq (aR (ak ea (bh (b8 "Asker" "standing") (J 0)) (bb (.str "calm")))) oB b0)) (bJ (d0 "Asker" "wishes" (J 0) (dt (ak eh (bh (b8 "Asker" "wishes") (J 0)) (aH 1)))) (bJ (d0 "Asker" "deed" (J 0) (dt (J 1))) (bJ (d0 "Asker" "last_outcome" (J 0) (dt (bb .aP))) (i8 (eJ "Asker" "ask_members" wV (J 0) qU)))))))
def zL:d6:=fnX 2 2 HQ
def S_:b7:=
  bJ (b' (cq (aR (ak oEq (bh (b8 "Asker" "standing") (J 0)) (bb (.str "calm")))) (a9 (eL cQ)) b0)) (i8 (eJ "Asker" "ask_members" wV (J 0) qU))
def t5:d6:=fnX 1 1 S_
noncomputable def Tc:aW:=
  bS (cq (fA (aR (ak ea (aI 1 3) (bh (b8 "Asker" "epoch") (J 0)))) (aR (ak ea (aI 1 4) (bh (b8 "Asker" "last_stamp") (J 0))))) (a9 (bb (.ay false))) b0) (a9 (ak (lT false) (aI 1 1) (bo mP (a5 (bh (b8 "Asker" "hall") (J 0))))))
def zM:bz:=fnOf 2 2 Tc
noncomputable def HY:aW:=
  bS (cq (fA (aR (bo mM (a5 (J 1)))) (eE (aR (bo w0 (a5 (hQ (bh (b8 "Asker" "grants") (J 0)))))))) (a9 (bb (.ay false))) b0) (a9 (bo (jh 12) (bH (gq (bh (b8 "Asker" "hall") (J 0)) 1) (bo o5 (a5 (hQ (bh (b8 "Asker" "grants") (J 0))))))))
def wW:bz:=fnOf 2 2 HY
def HT:b7:=
  bJ (d0 "Asker" "standing" (J 0) (dt (bb (.str "calm")))) (d0 "Asker" "last_outcome" (J 0) (dt (J 1)))
def qx:d6:=fnX 2 2 HT
noncomputable def S':b7:=
  bJ (fP (fY (hE (aR (ak kZ (bh (b8 "Asker" "deed") (J 0)) (bb .aP))) (aR (dI "Asker" "sees_at_once" wW (J 0) (a5 (aI 1 1)))))) (bJ (jk (eJ "Asker" "end_wish" qx (J 0) (e5 (a5 (bM (bH (bb (.str "saw")) (bM (c2 (bh (b8 "Asker" "epoch") (J 0)) (aI 1 0) (aI 1 1)))))))))
  (b' (a9 (eL cQ)))) (b' b0)) (bJ (d0 "Asker" "standing" (J 0) (dt (bb (.str "telling")))) (bJ (d0 "Asker" "kept_mask" (J 0) (dt (aH 0))) (bJ (d0 "Asker" "told_slate" (J 0) (dt (bo nX (di (aI 1 1) (c2 (bh (b8 "Asker" "me") (J 0)) (bh (b8 "Asker" "wishes") (J 0)) (bh (b8 "Asker" "deed") (J 0))))))) (bJ (b' (b9 2 (bM (di (aI 1 0) (c2 (bh (b8 "Asker" "wishes") (J 0)) (bh (b8 "Asker" "deed") (J 0)) (bh (b8 "Asker" "told_slate") (J 0))))))) (b' (a9 (fG 1 [0,2] (nR (bo mP (a5 (bh (b8 "Asker" "hall") (J 0))))) gb (bo OH (di (bh (b8 "Asker" "me") (J 1)) (di (J 0) (c2 (bh (b8 "Asker" "epoch") (J 1)) (bh (b8 "Asker" "last_stamp") (J 1)) (J 2))))))))))))
def t6:d6:=fnX 2 3 S'
noncomputable def Tb:b7:=
  bJ (b' (cq (aR (bo qA (bH (bo o5 (a5 (hQ (bh (b8 "Asker" "grants") (J 0))))) (aI 1 1)))) (a9 (eL cQ)) b0)) (bJ (n' k9 (bh (b8 "Asker" "grants") (J 0)) (a5 (bM (c2 (aI 1 1) (gq (aI 1 5) 0) (gq (aI 1 5) 1))))) (bJ (b' (cq (eE (aR (bo (jh 12) (bH (gq (bh (b8 "Asker" "hall") (J 0)) 0) (bo o5 (a5 (hQ (bh (b8 "Asker" "grants") (J 0))))))))) (a9 (eL cQ)) b0)) (i8 (eJ "Asker" "go_on" t6 (J 0) (e5 (a5 (bo zS (bH (hQ (bh (b8 "Asker" "grants") (J 0))) (bh (b8 "Asker" "opening") (J 0))))))))))
def t7:d6:=fnX 2 2 Tb
noncomputable def HS:b7:=
  (fP (fY (aR (ak i3 (bh (b8 "Asker" "deed") (J 0)) (bb .aP)))) (bJ (b' (b9 2 (bo qz (bH (J 1) (bh (b8 "Asker" "me") (J 0))))))
  (fP (fY (aR (ak oEq (aI 2 1) (bh (b8 "Asker" "wishes") (J 0))))) (jk (eJ "Asker" "end_wish" qx (J 0) (e5 (a5 (bM (bH (bb (.str "did")) (aI 2 2))))))) (b' b0))) (fP (fY (eE (aR (bo mM (a5 (J 1)))))) (jk (eJ "Asker" "end_wish" qx (J 0) (e5 (a5 (bM (bH (bb (.str "saw")) (bM (c2 (bh (b8 "Asker" "epoch") (J 0)) (bh (b8 "Asker" "last_stamp") (J 0)) (J 1))))))))) (fP (fY (aR (ak oEq (bo o8 (a5 (J 1))) (bb (.str "over"))))) (jk (eJ "Asker" "end_wish" qx (J 0) (e5 (a5 (bM (bH (bb (.str "saw")) (bM (c2 (bh (b8 "Asker" "epoch") (J 0)) (bb .aP) (J 1))))))))) (b' b0))))
def HR:b7:=
  bJ (b' (b9 1 (bh (b8 "Asker" "told_slate") (J 0)))) HS
def ET:d6:=fnX 1 3 HR
noncomputable def Te:b7:=
  bJ (d0 "Asker" "over_known" (J 0) (dt (bb (.ay true)))) (fP (fY (aR (ak ea (bh (b8 "Asker" "standing") (J 0)) (bb (.str "calm"))))) (jk (eJ "Asker" "end_wish" qx (J 0) (e5 (a5 (bM (bH (bb (.str "over")) (bb .aP))))))) (b' b0))
def EV:d6:=fnX 1 1 Te
def HV:b7:=
  bJ (b' (cq (aR (ak oEq (bh (b8 "Asker" "standing") (J 0)) (bb (.str "calm")))) (a9 (eL cQ)) b0)) (i8 (eJ "Asker" "ask_members" wV (J 0) qU))
noncomputable def HU:b7:=
  bJ (d0 "Asker" "epoch" (J 0) (dt (ak eh (bh (b8 "Asker" "epoch") (J 0)) (aH 1)))) (bJ (d0 "Asker" "hall" (J 0) (dt (J 1))) (bJ (d0 "Asker" "opening" (J 0) (dt (bo uq (a5 (bh (b8 "Asker" "told_slate") (J 0)))))) HV))
def r7:d6:=fnX 2 2 HU
def HX:b7:=
  bJ (fP (fY (aR (ak oEq (J 2) (bb (.str "over"))))) (bJ (jk (eJ "Asker" "learn_over" EV (J 0) qU))
  (b' (a9 (eL cQ)))) (b' b0)) (i8 (eJ "Asker" "go_over" r7 (J 0) (e5 (a5 (J 2)))))
def B8:b7:=
  bJ (b' (cq (aR (ak kZ (J 2) (bb .aP))) (a9 (eL cQ)) b0)) HX
noncomputable def HW:b7:=
  bJ (b' (cq (eE (aR (bo (jh 12) (bH (gq (bh (b8 "Asker" "hall") (J 0)) 1) (bh (b8 "Asker" "kept_mask") (J 0)))))) (a9 (eL cQ)) b0)) (bJ (jk (eJ "Asker" "end_where_told" ET (J 0) qU)) (bJ (b' (b9 2 (bo o8 (a5 (bh (b8 "Asker" "told_slate") (J 0)))))) B8))
def B7:b7:=
  bJ (d0 "Asker" "kept_mask" (J 0) (dt (ak uD (bh (b8 "Asker" "kept_mask") (J 0)) (bo lP (a5 (eL (a5 (aI 1 1)))))))) HW
def r8:d6:=fnX 2 3 B7
noncomputable def Ta:b7:=
  bJ (b' (cq (aR (ak ea (aI 1 2) (bh (b8 "Asker" "me") (J 0)))) (a9 (eL cQ)) b0)) (bJ (fP (fY (aR (ak oEq (aI 1 0) (bb (.str "late"))))) (bJ (d0 "Asker" "greatest_round" (J 0) (dt (dm VJ (bH (bh (b8 "Asker" "greatest_round") (J 0)) (gq (gq (aI 1 5) 0) 0)))))
  (b' (a9 (eL cQ)))) (b' b0)) (bJ (b' (cq (eE (aR (dI "Asker" "is_for_now" zM (J 0) (a5 (J 1))))) (a9 (eL cQ)) b0)) (bJ (fP (fY (hE (aR (ak oEq (aI 1 0) (bb (.str "grant")))) (aR (ak oEq (bh (b8 "Asker" "standing") (J 0)) (bb (.str "asking")))))) (i8 (eJ "Asker" "hear_grant" t7 (J 0) (e5 (a5 (J 1))))) (b' b0)) (bJ (fP (fY (hE (aR (ak oEq (aI 1 0) (bb (.str "kept")))) (aR (ak oEq (bh (b8 "Asker" "standing") (J 0)) (bb (.str "telling")))))) (i8 (eJ "Asker" "hear_kept" r8 (J 0) (e5 (a5 (J 1))))) (b' b0)) (b' (a9 (eL cQ)))))))
def j_:d6:=fnX 2 2 Ta
def Tg:aW:=
  (a9 (bh (b8 "Asker" "last_outcome") (J 0)))
def EW:bz:=fnOf 1 1 Tg
def Tf:aW:=
  (a9 (bh (b8 "Asker" "wishes") (J 0)))
def zN:bz:=fnOf 1 1 Tf
def Ti:aW:=
  (a9 (bh (b8 "Asker" "standing") (J 0)))
def t8:bz:=fnOf 1 1 Ti
def Th:aW:=
  (a9 (bM (c2 (bh (b8 "Asker" "epoch") (J 0)) (bh (b8 "Asker" "hall") (J 0)) (bh (b8 "Asker" "opening") (J 0)))))
def EX:bz:=fnOf 1 1 Th
def Td:aW:=
  (a9 (bh (b8 "Asker" "over_known") (J 0)))
def EU:bz:=fnOf 1 1 Td
def zE:aW:=
  (cq (aR (ak oEq (aI 2 0) (J 1))) (a9 (nA (J 2) (iQ (aH 1)) iD)) b0)
def Je:aW:=
  (a9 (bM (c2 (bM (bH (aH 0) (aH 0))) (bM (bH (aH 0) (aH 0))) (bb .aP))))
def Jd:aW:=
  bS (lF 2 (mH (J 0)) zE) Je
def xc:bz:=fnOf 2 3 Jd
def Jr:aW:=
  (a9 (dm qi (a5 (rn fy (fnOf 1 1 (a9 (aI 0 0))) (J 5)))))
def Jq:aW:=
  bS (rm 5 k9 (a5 (bM (di (J 1) (c2 (J 2) (J 3) (J 4)))))) Jr
def Jp:aW:=
  bS (nz 5 (fG 1 [1] (mH (J 0)) (aR (ak ea (aI 0 0) (J 1))) (J 0))) Jq
def xd:bz:=fnOf 5 6 Jp
def TN:aW:=
  (a9 (bM (bH (J 0) (bo w1 (c2 (J 1) (bb (.str "late")) (bM (a5 (J 2))))))))
def E1:bz:=fnOf 3 3 TN
noncomputable def Im:aW:=
  bS (cq (aR (ak (lS lexLe) (J 2) (aI 3 0))) (a9 (bo E1 (c2 (J 0) (J 1) (aI 3 0)))) b0) (a9 (bM (bH (bo xd (di (J 0) (di (aI 1 3) (c2 (J 2) (aI 3 1) (aI 3 2))))) (bo w1 (c2 (J 1) (bb (.str "grant")) (nA (J 3) (iQ (aH 1)) iD))))))
def TF:aW:=
  bS (b9 2 (aI 1 4)) (bS (b9 3 (bo xc (bH (J 0) (aI 1 3)))) Im)
def OF:bz:=fnOf 2 4 TF
noncomputable def Io:aW:=
  bS (cq (aR (ak (lS lexLt) (J 2) (J 3))) (a9 (bo E1 (c2 (J 0) (J 1) (J 3)))) b0) (a9 (bM (bH (bo xd (di (J 0) (di (aI 1 3) (c2 (J 2) (J 2) (gq (aI 1 5) 3))))) (bo w1 (c2 (J 1) (bb (.str "kept")) (bM cQ))))))
def TG:aW:=
  bS (b9 2 (aI 1 4)) (bS (b9 3 (gq (bo xc (bH (J 0) (aI 1 3))) 0)) Io)
def OG:bz:=fnOf 2 4 TG
def TC:aW:=
  bS (cq (aR (ak oEq (aI 1 0) (bb (.str "ask")))) (a9 (bo OF (bH (J 0) (J 1)))) b0) (a9 (bo OG (bH (J 0) (J 1))))
def lO:bz:=fnOf 2 2 TC
noncomputable def HZ:b7:=
  bJ (b' (cq (eE (aR (bo qB (a5 (J 1))))) oB b0)) (bJ (b' (cq (fA (eE (aR (bo mO (a5 (J 2))))) (eE (aR (e0 oLe oLe (aH 1) (J 2) (aH 6))))) oB b0)) (bJ (d0 "House" "askers" (J 0) (l0 (x4 1 [1] (jH (a5 (J 2))) (pN "Asker" t4 (e5 (bH (J 0) (J 1))))))) (bJ (d0 "House" "books" (J 0) (l0 (dt (fG 1 [] (jH (a5 (aH 6))) gb (bM cQ))))) (bJ (d0 "House" "letters" (J 0) (l0 (dt (eL cQ)))) (d0 "House" "rows" (J 0) (l0 (dt (eL cQ))))))))
def EY:d6:=fnX 3 3 HZ
noncomputable def Tj:aW:=
  bS (cq (fA (eE (aR (bo mO (a5 (J 1))))) (eE (aR (e0 oLe oLt (aH 0) (J 1) (dm hu (a5 (hQ (bh (b8 "House" "askers") (J 0))))))))) oB b0) (a9 (ak eC (hQ (bh (b8 "House" "askers") (J 0))) (J 1)))
def qy:bz:=fnOf 2 2 Tj
def Tt:aW:=
  (a9 (dm hu (a5 (hQ (bh (b8 "House" "letters") (J 0))))))
def mL:bz:=fnOf 1 1 Tt
def Tx:b7:=
  bJ (b' (b9 2 (dI "House" "many" mL (J 0) cQ))) (bJ (n' xW (bh (b8 "House" "letters") (J 0)) (a5 (J 1))) (b' (a9 (yE (bH (J 2) (dI "House" "many" mL (J 0) cQ))))))
def ua:d6:=fnX 2 3 Tx
noncomputable def H0:b7:=
  bJ (b' (b9 3 (dI "House" "asker_of" qy (J 0) (a5 (J 1))))) (bJ (l1 4 (eJ "Asker" "begin" zL (J 3) (e5 (a5 (J 2))))) (bJ (n' k9 (bh (b8 "House" "rows") (J 0)) (a5 (bM (di (bb (.str "begin")) (di (J 1) (c2 (dI "Asker" "number" zN (J 3) cQ) (J 2) (dI "House" "many" mL (J 0) cQ))))))) (i8 (eJ "House" "write" ua (J 0) (e5 (a5 (J 4)))))))
def wX:d6:=fnX 3 5 H0
def Tn:b7:=
  (i8 (eJ "House" "write" ua (J 0) (vd (eJ "Asker" "bell" t5 (dI "House" "asker_of" qy (J 0) (a5 (J 1))) qU) cQ)))
def zO:d6:=fnX 2 2 Tn
def Ts:aW:=
  bS (cq (fA (eE (aR (bo mO (a5 (J 1))))) (eE (aR (e0 oLe oLt (aH 0) (J 1) (dI "House" "many" mL (J 0) cQ))))) oB b0) (a9 (ak eC (hQ (bh (b8 "House" "letters") (J 0))) (J 1)))
def t_:bz:=fnOf 2 2 Ts
noncomputable def Tq:b7:=
  bJ (b' (b9 2 (bo lO (bH (ak eC (hQ (bh (b8 "House" "books") (J 0))) (aI 1 2)) (J 1))))) (bJ (A_ (bh (b8 "House" "books") (J 0)) (aI 1 2) (dt (aI 2 0))) (b' (a9 (eL (a5 (aI 2 1))))))
def wY:d6:=fnX 2 3 Tq
noncomputable def H3:b7:=
  bJ (fP (fY (hE (aR (ak ea (J 3) (bb (.str "calm")))) (aR (ak oEq (dI "Asker" "stand" t8 (J 2) cQ) (bb (.str "calm")))))) (n' k9 (bh (b8 "House" "rows") (J 0)) (a5 (bM (di (bb (.str "end")) (di (aI 1 2) (c2 (dI "Asker" "number" zN (J 2) cQ) (dI "Asker" "outcome" EW (J 2) cQ) (dI "House" "many" mL (J 0) cQ))))))) (b' b0)) (b' (a9 (J 4)))
def Tp:b7:=
  bJ (b' (b9 2 (ak eC (hQ (bh (b8 "House" "askers") (J 0))) (aI 1 2)))) (bJ (b' (b9 3 (dI "Asker" "stand" t8 (J 2) cQ))) (bJ (l1 4 (eJ "Asker" "hear" j_ (J 2) (e5 (a5 (J 1))))) H3))
def r9:d6:=fnX 2 5 Tp
noncomputable def H2:b7:=
  bJ (fP (fY (aR (bo o4 (a5 (J 2))))) (i8 (eJ "House" "write" ua (J 0) (vd (eJ "House" "bring_to_keeper" wY (J 0) (e5 (a5 (J 2)))) cQ))) (b' b0)) (i8 (eJ "House" "write" ua (J 0) (vd (eJ "House" "bring_to_asker" r9 (J 0) (e5 (a5 (J 2)))) cQ)))
def To:b7:=
  bJ (b' (b9 2 (dI "House" "letter" t_ (J 0) (a5 (J 1))))) H2
def t9:d6:=fnX 2 3 To
def Tv:aW:=
  (a9 (dm v_ (a5 (hQ (bh (b8 "House" "letters") (J 0))))))
def zQ:bz:=fnOf 1 1 Tv
def Tw:aW:=
  (a9 (dI "Asker" "stand" t8 (dI "House" "asker_of" qy (J 0) (a5 (J 1))) cQ))
def zR:bz:=fnOf 2 2 Tw
def Tu:aW:=
  (a9 (dI "Asker" "place" EX (dI "House" "asker_of" qy (J 0) (a5 (J 1))) cQ))
def wZ:bz:=fnOf 2 2 Tu
def Tr:aW:=
  (a9 (dI "Asker" "knows_over" EU (dI "House" "asker_of" qy (J 0) (a5 (J 1))) cQ))
def zP:bz:=fnOf 2 2 Tr
def IQ:aW:=
  (a9 (aH 0))
def IP:aW:=
  bS (cq (aR (ak oLt (J 1) (dm hu (a5 (J 0))))) (a9 (ak eC (J 0) (J 1))) b0) IQ
def o7:bz:=fnOf 2 2 IP
noncomputable def TS:aW:=
  bS (b9 1 (ak eh (ak eh (aH 1) (ak oMod (J 0) (aH 4))) (ak n2 (ak oMod (ak e3 (J 0) (aH 4)) (aH 2)) (ak oMod (ak e3 (J 0) (aH 8)) (aH 3))))) (bS (b9 2 (dm qi (a5 (fG 1 [0] (jH (a5 (J 1))) gb (ak oMod (ak eh (ak e3 (J 1) (aH 24)) (J 0)) (aH 6)))))) (bS (b9 3 (ak eh (aH 1) (ak oMod (ak e3 (J 0) (aH 144)) (J 1)))) (a9 (bM (bH (bM (bH (J 3) (J 2))) (bM (bH (ak eh (ak pg (ak eh (J 1) (aH 1)) (J 3)) (ak oMod (ak e3 (J 0) (aH 864)) (J 3))) (J 2))))))))
def E4:bz:=fnOf 1 4 TS
noncomputable def IU:aW:=
  bS (cq (aR (ak oEq (ak oMod (J 0) (aH 5)) (aH 4))) (bS (b9 2 (bM (bH (aH 2) (bM (c2 (bM (bH (aH 2) (bM (c2 (aI 1 0) (aI 1 1) (aI 1 2))))) (bM (bH (aH 2) (bM (c2 (aI 1 2) (aI 1 3) (aI 1 4))))) (aI 1 0))))))
  (bS (cq (aR (ak oEq (ak oMod (ak e3 (J 0) (aH 30)) (aH 3)) (aH 0))) (b9 2 (bM (bH (aH 2) (bM (c2 (aI 1 0) (aI 1 0) (aI 1 1)))))) b0)
  (a9 (bM (bH (J 2) (J 2)))))) b0) (bS (b9 3 (bM (bH (aH 1) (bM (bH (bM (bH (aH 2) (bM (bH (aI 1 0) (aI 1 1))))) (bM (bH (aH 2) (bM (bH (aI 1 2) (aI 1 3)))))))))) (bS (b9 4 (bM (bH (aH 2) (bM (bH (bM (bH (aH 1) (bM (bH (aI 1 0) (aI 1 1))))) (bM (bH (aH 1) (bM (bH (aI 1 2) (aI 1 3)))))))))) (bS (cq (aR (ak oEq (ak oMod (ak e3 (J 0) (aH 30)) (aH 2)) (aH 0))) (a9 (bM (bH (J 3) (J 4)))) b0) (a9 (bM (bH (J 4) (J 3)))))))
noncomputable def TU:aW:=
  bS (cq (aR (ak oLt (ak oMod (J 0) (aH 5)) (aH 3))) (a9 (bo E4 (a5 (ak e3 (J 0) (aH 5))))) b0) (bS (b9 1 (fG 1 [0] (jH (a5 (aH 5))) gb (ak oMod (ak eh (ak e3 (J 1) (aH 5)) (J 0)) (aH 6)))) IU)
def xa:bz:=fnOf 1 5 TU
def Of:aW:=
  (bS (b9 2 (ak pa (J 2) (ak eC (bb (.str "abcdefghijklmnopqrstuvwxyz")) (ak oMod (ak e3 (J 0) (aH 8)) (aH 26)))))
  (b9 0 (ak e3 (J 0) (aH 3))))
def TV:aW:=
  bS (b9 1 (ak eh (aH 1) (ak oMod (J 0) (aH 8)))) (bS (b9 2 (bb (.str ""))) (bS (vQ (aR (ak oLt (dm nF (a5 (J 2))) (J 1))) Of) (a9 (J 2))))
def E5:bz:=fnOf 1 3 TV
def IW:aW:=
  (a9 (eL (c2 (J 2) (ak pa (ak pa (tf (J 2) iD (iQ (J 3))) (J 4)) (tf (J 2) (iQ (ak eh (J 3) (aH 1))) iD)) (J 5))))
def IV:aW:=
  bS (cq (aR (ak oEq (dm nF (a5 (J 2))) (aH 8))) (b9 5 (tf (J 2) iD (iQ (aH 7)))) b0) IW
noncomputable def TX:aW:=
  bS (b9 1 (bb (.str "abcdefghijklmnopqrstuvwxyz"))) (bS (b9 2 (bo E5 (a5 (J 0)))) (bS (b9 3 (ak oMod (ak e3 (J 0) (aH 5)) (dm nF (a5 (J 2))))) (bS (b9 4 (ak eC (J 1) (ak oMod (ak eh (ak eh (CB rB (J 1) (a5 (ak eC (J 2) (J 3)))) (aH 1)) (ak oMod (ak e3 (J 0) (aH 7)) (aH 25))) (aH 26)))) (bS (b9 5 (ak pa (J 2) (bb (.str "x")))) IV))))
def zY:bz:=fnOf 1 6 TX
noncomputable def Cn:aW:=
  bS (cq (aR (ak oLt (J 6) (aH 5))) (a9 (bM (c2 (bb (.str "add")) (J 3) (J 4)))) b0) (bS (cq (aR (ak oLt (J 6) (aH 7))) (a9 (bM (c2 (bb (.str "put")) (J 3) (J 4)))) b0) (bS (cq (aR (ak oEq (J 6) (aH 7))) (a9 (bM (di (bb (.str "swap")) (c2 (J 3) (ak oMod (ak e3 (J 1) (aH 96)) (aH 3)) (J 4))))) b0) (bS (cq (aR (ak oEq (J 6) (aH 8))) (a9 (bM (bH (bb (.str "take")) (J 5)))) b0) (bS (cq (aR (ak oEq (J 6) (aH 9))) (a9 (ak eC (eL (c2 (bM (bH (bb (.str "renew")) (J 5))) (bM (bH (bb (.str "free")) (J 5))) (bM (di (bb (.str "sure")) (c2 (J 5) (J 3) (J 4)))))) (ak oMod (ak e3 (J 1) (aH 400)) (aH 3)))) b0) (bS (cq (fA (aR (ak oEq (J 6) (aH 10))) (aR (ak oEq (J 6) (aH 11)))) (a9 (bM (bH (bb (.str "move")) (bo xa (a5 (ak e3 (J 1) (aH 96))))))) b0) (bS (cq (hE (aR (ak oEq (J 6) (aH 12))) (aR (ak oEq (ak oMod (ak e3 (J 1) (aH 96)) (aH 3)) (aH 0)))) (a9 (bM (a5 (bb (.str "end"))))) b0) (a9 (bb .aP))))))))
noncomputable def TR:aW:=
  bS (b9 3 (ak eC (J 0) (ak oMod (ak e3 (J 1) (aH 16)) (aH 3)))) (bS (b9 4 (ak pg (ak oMod (J 2) (ak pe (aH 10) (aH 40))) (ak pe (aH 10) (aH 20)))) (bS (cq (aR (ak oEq (ak oMod (ak e3 (J 1) (aH 48)) (aH 2)) (aH 1))) (b9 4 (ak oMod (ak e3 (J 1) (aH 96)) (aH 3))) b0) (bS (b9 5 (ak oMod (ak e3 (J 1) (aH 96)) (aH 4))) (bS (b9 6 (ak oMod (J 1) (aH 16))) Cn))))
def zW:bz:=fnOf 3 7 TR
noncomputable def TP:b7:=
  bJ (b' (b9 2 (dI "House" "letter" t_ (J 0) (a5 (J 1))))) (bJ (jk (eJ "House" "bring" t9 (J 0) (e5 (a5 (J 1))))) (b' (a9 (dm tw (a5 (p7 (ak oEq (aI 2 0) (bb (.str "ask"))) (ak oEq (aI 2 0) (bb (.str "tell")))))))))
def zV:d6:=fnX 2 3 TP
noncomputable def Od:b7:=
  (bJ (b' (b9 6 (dI "House" "letter" t_ (J 0) (a5 (J 4)))))
  (bJ (b' (b9 7 (aI 6 1)))
  (bJ (b' (cq (fA (aR (ak oEq (aI 6 0) (bb (.str "ask")))) (aR (ak oEq (aI 6 0) (bb (.str "tell"))))) (b9 7 (aI 6 2)) b0))
  (bJ (fP (fY (aR (ak oEq (ak uC (ak xo (J 2) (J 7)) (aH 1)) (aH 1)))) (bJ (l1 5 (g5 eh (dt (J 5)) (pM zV (e5 (bH (J 0) (J 4))))))
  (b' (b9 3 (ak pg (J 3) (aH 1))))) (b' b0))
  (b' (b9 4 (ak eh (J 4) (aH 1))))))))
def TQ:b7:=
  bJ (b' (b9 4 (J 1))) (bJ (b' (b9 5 (aH 0))) (bJ (A' (fY (hE (aR (ak oLt (J 4) (dI "House" "many" mL (J 0) cQ))) (aR (ak pb (J 3) (aH 0))))) Od) (b' (a9 (J 5)))))
def E3:d6:=fnX 4 8 TQ
def Oe:b7:=
  (fP (fY (aR (ak pb (J 8) (aH 0)))) (l1 9 (g5 eh (dt (J 9)) (pM zV (e5 (bH (J 0) (ak oMod (ak eh (J 6) (J 10)) (J 8))))))) (b' b0))
noncomputable def Cp:b7:=
  bJ (b' (b9 12 (aH 63))) (bJ (b' (cq (aR (ak oEq (ak oMod (ak e3 (J 5) (aH 24)) (aH 2)) (aH 1))) (b9 12 (ak oMod (ak e3 (J 5) (aH 48)) (aH 64))) b0)) (i8 (pM E3 (e5 (di (J 0) (c2 (J 8) (J 12) (ak oMod (ak e3 (J 5) (aH 3072)) (aH 27))))))))
noncomputable def IT:b7:=
  bJ (fP (fY (aR (ak ea (dI "House" "stand" zR (J 0) (a5 (J 7))) (bb (.str "calm"))))) (jk (eJ "House" "bell" zO (J 0) (e5 (a5 (J 7))))) (fP (fY (eE (aR (dI "House" "knows_over" zP (J 0) (a5 (J 7)))))) (bJ (b' (b9 11 (bo zW (c2 (J 1) (J 6) (J 3)))))
  (bJ (b' (cq (hE (aR (ak i3 (J 11) (bb .aP))) (hE (aR (ak oEq (aI 11 0) (bb (.str "move")))) (aR (ak pb (gq (dI "House" "place" wZ (J 0) (a5 (J 7))) 0) (aH 6))))) (b9 11 (bb .aP)) b0))
  (jk (eJ "House" "begin" wX (J 0) (e5 (bH (J 7) (J 11))))))) (b' b0))) Cp
noncomputable def Co:b7:=
  bJ (fP (fY (aR (ak oEq (ak oMod (J 5) (aH 4)) (aH 3)))) (bJ (b' (b9 9 (aH 0)))
  (bJ (vf 10 (jH (a5 (ak eh (aH 1) (ak oMod (ak e3 (J 5) (aH 24)) (aH 3))))) Oe)
  (b' (a9 (J 9))))) (b' b0)) IT
noncomputable def IS:b7:=
  bJ (b' (b9 5 (ak oMod (ak eh (ak n2 (ak oMod (J 3) (ak pe (aH 10) (aH 40))) (aH 48271)) (ak n2 (ak n2 (ak eh (J 4) (aH 1)) (ak eh (J 4) (aH 7))) (aH 16807))) (aH 2147483647)))) (bJ (b' (b9 6 (ak oMod (ak eh (ak n2 (ak oMod (J 3) (ak pe (aH 10) (aH 40))) (aH 69621)) (ak n2 (ak n2 (ak eh (J 4) (aH 3)) (ak eh (J 4) (aH 5))) (aH 40692))) (aH 2147483629)))) (bJ (b' (b9 7 (ak oMod (ak e3 (J 5) (aH 4)) (J 2)))) (bJ (b' (b9 8 (dI "House" "many" mL (J 0) cQ))) Co)))
def zX:d6:=fnX 5 13 IS
noncomputable def TY:aW:=
  bS (b9 2 (bM (bH (aI 0 3) (aI 0 4)))) (bS (b9 3 (gq (aI 0 5) 0)) (bS (cq (fA (eE (aR (ak (lS lexLt) (J 3) (aI 0 4)))) (aR (ak ea (aI 0 1) (gq (aI 0 4) 1)))) (a9 (bb (.ay false))) b0) (bS (cq (hE (aR (ak ea (J 3) (bM (bH (aH 0) (aH 0))))) (aR (ak (n1 true) (bM (bH (aI 0 3) (J 3))) (J 1)))) (a9 (bb (.ay false))) b0) (a9 (p7 (ak (n1 true) (J 2) (J 1)) (ak oEq (ak uG (J 1) (J 2)) (aI 0 5)))))))
def E6:bz:=fnOf 2 4 TY
noncomputable def TO:aW:=
  bS (cq (hE (fA (aR (ak oEq (aI 0 0) (bb (.str "grant")))) (aR (ak oEq (aI 0 0) (bb (.str "late"))))) (aR (ak (n1 false) (bM (di (bb (.str "ask")) (di (aI 0 2) (c2 (aI 0 1) (aI 0 3) (aI 0 4))))) (J 1)))) (bS (cq (aR (ak oEq (aI 0 0) (bb (.str "late")))) (a9 (vP (ak (lS lexLt) (gq (aI 0 5) 0) (aI 0 4)))) b0)
  (bS (cq (aR (ak oEq (aI 0 5) (bM (bH (bM (bH (aH 0) (aH 0))) (bb .aP))))) (a9 (bb (.ay true))) b0)
  (bS (b9 3 (bM (bH (aI 0 3) (gq (aI 0 5) 0))))
  (a9 (jw (ak (n1 false) (J 3) (J 2)) (jw (ak oEq (gq (ak uG (J 2) (J 3)) 3) (gq (aI 0 5) 1)) (ak (lS lexLt) (gq (aI 0 5) 0) (aI 0 4)))))))) b0) (bS (cq (fA (aR (ak oEq (aI 0 0) (bb (.str "grant")))) (aR (ak (n1 true) (bM (di (bb (.str "tell")) (di (aI 0 2) (c2 (aI 0 1) (aI 0 3) (aI 0 4))))) (J 1)))) (a9 (bb (.ay false))) b0) (a9 (p7 (jw (ak oEq (aI 0 0) (bb (.str "kept"))) (ak oEq (aI 0 5) (bM cQ))) (jw (ak oEq (aI 0 0) (bb (.str "late"))) (ak (lS lexLt) (aI 0 4) (gq (aI 0 5) 0))))))
def uj:bz:=fnOf 3 4 TO
noncomputable def Oc:b7:=
  (bJ (l1 5 (g5 eh (dt (J 5)) (pM zX (e5 (di (J 2) (di (J 3) (c2 (J 1) (ak eC (J 0) (J 6)) (J 6))))))))
  (b' (cq (aR (ak oEq (ak oMod (J 6) (aH 16)) (aH 7))) (bS (b9 7 (dI "House" "record" zQ (J 2) cQ))
  (bS (cq (aR (ak ea (nA (J 7) iD (iQ (dm hu (a5 (J 4))))) (J 4))) (a9 (bb (.ay false))) b0)
  (b9 4 (J 7)))) b0)))
noncomputable def wM:b7:=
  (bJ (fP (fY (aR (ak oEq (aI 11 0) (bb (.str "tell"))))) (bJ (b' (cq (eE (aR (bo E6 (bH (J 11) (J 9))))) (a9 (bb (.ay false))) b0))
  (ve (J 9) (bM (bH (aI 11 3) (aI 11 4))) (dt (aI 11 5)))) (b' b0))
  (fP (fY (fA (aR (ak oEq (aI 11 0) (bb (.str "ask")))) (aR (ak oEq (aI 11 0) (bb (.str "tell")))))) (ve (J 8) (bM (di (aI 11 0) (di (aI 11 1) (c2 (aI 11 2) (aI 11 3) (aI 11 4))))) (dt (bb (.ay true)))) (b' (bS (b9 10 (ak eh (J 10) (aH 1)))
  (cq (eE (aR (bo uj (c2 (J 11) (J 8) (J 9))))) (a9 (bb (.ay false))) b0)))))
noncomputable def IM:b7:=
  bJ (b' (b9 1 (ak eh (aH 1) (ak oMod (bo o7 (bH (J 0) (aH 0))) (aH 4))))) (bJ (l1 2 (pN "House" EY (e5 (bH (bo xa (a5 (ak oMod (bo o7 (bH (J 0) (aH 1))) (ak pe (aH 10) (aH 9))))) (J 1))))) (bJ (b' (b9 3 (bo zY (a5 (ak oMod (bo o7 (bH (J 0) (aH 2))) (ak pe (aH 10) (aH 20))))))) (bJ (b' (b9 4 (eL cQ))) (bJ (b' (b9 5 (aH 0))) (bJ (vf 6 (jH (a5 (dm hu (a5 (nA (J 0) iD (iQ (aH 63))))))) Oc) (bJ (l1 8 (A9 (.dU 4 []))) (bJ (l1 9 (A9 (.dU 1 []))) (bJ (b' (b9 10 (aH 0))) (bJ (b' (b9 7 (dI "House" "record" zQ (J 2) cQ))) (bJ (vf 11 (Ec (J 7)) wM) (b' (a9 (jw (ak oEq (nA (J 7) iD (iQ (dm hu (a5 (J 4))))) (J 4)) (ak oEq (J 10) (J 5)))))))))))))))
def E2:d6:=fnX 1 12 IM
structure Sd{P:amC}{w:World}{K:aN}{mg:bf}{base:Heap}(T:Txt P w K mg base)(j:Nat):Prop where
 X_:cN P w base T.Ld j 1 mO
 XR:cN P w base T.KY j 1 qA
 Yp:cN P w base T.Lv j 1 lP
 X':cN P w base T.Le j 2 ui
 Yq:cN P w base T.Lw j 3 zZ
 XW:cN P w base T.K2 j 4 zS
 XE:cN P w base T.Ky j 1 w0
 XQ:cN P w base T.KX j 2 o5
 X2:cN P w base T.K7 j 2 w7
 X6:cN P w base T.K' j 1 zU
 XY:cN P w base T.K3 j 2 E0
 XX:∀n,n+3<=j->g8 P w K mg base "is_built" ["thing","deep"] (n+3) (hg K mg (uh n))
 Yu:∀n,n+2<=j->g8 P w K mg base "namings" ["rule"] (n+2) (hg K mg (mQ n))
 X8:cN P w base T.Lb j 16 w'
 Yt:cN P w base T.Lz j 15 um
 XM:∀n,n+2<=j->g8 P w K mg base "fills" ["rule","mask"] (n+2) (hg K mg (jh n))
 X3:cN P w base T.K8 j 3 w8
 Yn:cN P w base T.Ls j 16 xb
 XN:cN P w base T.KU j 1 w6
 YA:cN P w base T.LF j 17 z1
 X1:cN P w base T.K6 j 18 qB
 Yr:cN P w base T.Lx j 16 z0
 Ys:cN P w base T.Ly j 17 mP
 X4:cN P w base T.K9 j 1 w9
 X5:cN P w base T.K_ j 2 w_
 X0:cN P w base T.K5 j 3 zT
 XO:cN P w base T.KV j 1 EZ
 X7:cN P w base T.La j 19 o6
 XZ:cN P w base T.K4 j 20 nY
 XH:cN P w base T.KC j 1 OE
 Ym:cN P w base T.Lr j 1 jK
 YB:cN P w base T.LG j 1 o8
 X9:cN P w base T.Lc j 2 mM
 XI:cN P w base T.KD j 1 ub
 YD:cN P w base T.LI j 4 r_
 XJ:cN P w base T.KR j 1 qz
 YE:cN P w base T.LJ j 4 z2
 YF:cN P w base T.LK j 1 z3
 YH:cN P w base T.LM j 1 ur
 Yx:cN P w base T.LB j 2 uq
 MO:cN P w base T.KL j 5 w5
 MK:cN P w base T.KG j 5 w2
 MR:cN P w base T.KP j 5 uf
 Yo:cN P w base T.Lu j 2 uk
 Yv:cN P w base T.LA j 2 uo
 MS:cN P w base T.KQ j 3 ug
 MP:cN P w base T.KN j 3 ud
 MM:cN P w base T.KI j 3 uc
 MQ:cN P w base T.KO j 5 ue
 MN:cN P w base T.KJ j 2 w4
 ML:cN P w base T.KH j 2 w3
 Yy:cN P w base T.LC j 6 fo
 XK:cN P w base T.KS j 7 nX
 XG:cN P w base T.KA j 1 OD
 YC:cN P w base T.LH j 1 OH
 XF:cN P w base T.Kz j 1 w1
 XP:cN P w base T.KW j 1 o4
 W9:ix P w base T.J3 j 2 t4
 W_:ix P w base T.J4 j 18 wV
 W':By P w base T.J5 j 21 zL
 Xa:ix P w base T.J6 j 19 t5
 Xi:jo P w base T.Kc j 18 zM
 Xo:jo P w base T.Ki j 15 wW
 Xc:ix P w base T.J8 j 1 qx
 Xd:ix P w base T.J9 j 18 t6
 Xg:ix P w base T.Ka j 19 t7
 Xb:ix P w base T.J7 j 3 ET
 Xk:ix P w base T.Ke j 2 EV
 Xe:ix P w base T.J_ j 19 r7
 Xh:ix P w base T.Kb j 20 r8
 Xf:ix P w base T.J' j 21 j_
 Xm:jo P w base T.Kg j 1 EW
 Xl:jo P w base T.Kf j 1 zN
 Xp:jo P w base T.Kj j 1 t8
 Xn:jo P w base T.Kh j 1 EX
 Xj:jo P w base T.Kd j 1 EU
 Yz:cN P w base T.LD j 1 xc
 YG:cN P w base T.LL j 4 xd
 Ya:cN P w base T.Lf j 2 E1
 XT:cN P w base T.K0 j 5 OF
 XU:cN P w base T.K1 j 5 OG
 XS:cN P w base T.KZ j 6 lO
 Xq:ix P w base T.Kk j 19 EY
 Xr:jo P w base T.Kl j 2 qy
 Xz:jo P w base T.Kt j 1 mL
 XD:ix P w base T.Kx j 2 ua
 Xs:By P w base T.Km j 22 wX
 Xt:ix P w base T.Kn j 20 zO
 Xy:jo P w base T.Ks j 2 t_
 Xw:ix P w base T.Kq j 7 wY
 Xv:ix P w base T.Kp j 22 r9
 Xu:ix P w base T.Ko j 23 t9
 XB:jo P w base T.Kv j 1 zQ
 XC:jo P w base T.Kw j 3 zR
 XA:jo P w base T.Ku j 3 wZ
 Xx:jo P w base T.Kr j 3 zP
 Ye:cN P w base T.Lj j 1 o7
 Yh:cN P w base T.Lm j 1 E4
 Yi:cN P w base T.Ln j 2 xa
 Yj:cN P w base T.Lo j 1 E5
 Yk:cN P w base T.Lp j 2 zY
 Yf:cN P w base T.Lk j 3 zW
 Yc:yd P w base T.Lh j 24 zV
 Yd:yd P w base T.Li j 25 E3
 Yg:yd P w base T.Ll j 26 zX
 Yl:cN P w base T.Lq j 1 E6
 Yb:cN P w base T.Lg j 1 uj
 FD {f:Addr}{fd:anp}(F:lj K "law" "law" xG f fd):27<=j->fc P w K mg base eR 27 f fd ["script"] (iq K mg E2)
theorem aw(T:Txt P w K mg base):∀j,Sd T j
 |0=>by constructor<;>intros<;>omega
 |j+1=>by
  have a:=aw T j;refine⟨cZ T.Ld rfl ?_,
   cZ T.KY rfl ?_,
   cZ T.Lv rfl ?_,
   cZ T.Le rfl ?_,
   cZ T.Lw rfl ?_,
   y5 T.K2 T.EC rfl λe c eT L f A outer s H E b=>?_,
   cZ T.Ky rfl ?_,
   cZ T.KX rfl ?_,
   cZ T.K7 rfl ?_,
   cZ T.K' rfl ?_,
   cZ T.K3 rfl ?_,
   Ff (λ_=>T.CQ.d.none (by rintro vs H Q E ⟨O,ds,r,l,_,_,_,h,_⟩;cases h)) λn e=>(zc (k:=n+3) T.CQ.d T.CQ.s rfl rfl λf g A outer s H E b=>jb.un ?_:g8 P w K mg base _ _ _ (hg K mg (fnOf 2 2 (It (uh n))))).mono (by omega),
   Ff (λ_=>T.CS.d.none (by rintro vs H Q E ⟨O,ds,r,l,_,_,_,h,_⟩;cases h)) λn e=>(zc (k:=n+2) T.CS.d T.CS.s rfl rfl λf g A outer s H E b=>jb.un ?_:g8 P w K mg base _ _ _ (hg K mg (fnOf 1 3 (yy (mQ n))))).mono (by omega),
   cZ T.Lb rfl ?_,
   cZ T.Lz rfl ?_,
   Ff (λ_=>T.CP.d.none (by rintro vs H Q E ⟨O,ds,r,l,_,_,_,h,_⟩;cases h)) λn e=>(zc (k:=n+2) T.CP.d T.CP.s rfl rfl λf g A outer s H E b=>jb.un ?_:g8 P w K mg base _ _ _ (hg K mg (fnOf 2 2 (yw (jh n))))).mono (by omega),
   cZ T.K8 rfl ?_,
   cZ T.Ls rfl ?_,
   cZ T.KU rfl ?_,
   cZ T.LF rfl ?_,
   cZ T.K6 rfl ?_,
   cZ T.Lx rfl ?_,
   cZ T.Ly rfl ?_,
   cZ T.K9 rfl ?_,
   cZ T.K_ rfl ?_,
   cZ T.K5 rfl ?_,
   cZ T.KV rfl ?_,
   cZ T.La rfl ?_,
   cZ T.K4 rfl ?_,
   cZ T.KC rfl ?_,
   cZ T.Lr rfl ?_,
   cZ T.LG rfl ?_,
   cZ T.Lc rfl ?_,
   cZ T.KD rfl ?_,
   y5 T.LI T.EF rfl λe c eT L f A outer s H E b=>?_,
   cZ T.KR rfl ?_,
   y5 T.LJ T.EG rfl λe c eT L f A outer s H E b=>?_,
   cZ T.LK rfl ?_,
   cZ T.LM rfl ?_,
   cZ T.LB rfl ?_,
   cZ T.KL rfl ?_,
   cZ T.KG rfl ?_,
   cZ T.KP rfl ?_,
   cZ T.Lu rfl ?_,
   cZ T.LA rfl ?_,
   cZ T.KQ rfl ?_,
   cZ T.KN rfl ?_,
   cZ T.KI rfl ?_,
   cZ T.KO rfl ?_,
   cZ T.KJ rfl ?_,
   cZ T.KH rfl ?_,
   cZ T.LC rfl λe f g A outer s H E b=>(@RD _ _ _ _ _ _ ((RC (i:=3) (qD (by kernel_rfl)) rfl (.inl rfl) (Ru T.AN rfl (Rr NM HL (x3 2) Rq)))) (@RE _ _ _ _ ((RB (aij (k:=5) (pp:=["slate","asker","deed"]) (lookup_all (by simp only[am3];exact⟨(a.MO (by omega)).mono (by omega),(a.MK (by omega)).mono (by omega),(a.MR (by omega)).mono (by omega),(a.MS (by omega)).mono (by omega),(a.MP (by omega)).mono (by omega),(a.MM (by omega)).mono (by omega),(a.MQ (by omega)).mono (by omega),(a.MN (by omega)).mono (by omega),(a.ML (by omega)).mono (by omega),λ_ h=>nomatch h⟩)) rfl (.inl rfl) (b.mono (by omega)) (A5 (x3 0) (A5 (x3 1) (A5 (x3 2) Rn)))))))),
   cZ T.KS rfl ?_,
   cZ T.KA rfl ?_,
   cZ T.LH rfl ?_,
   cZ T.Kz rfl ?_,
   cZ T.KW rfl ?_,
   iW T.J3 rfl ?_,
   iW T.J4 rfl ?_,
   Mp T.J5 rfl ?_,
   iW T.J6 rfl ?_,
   j4 T.Kc rfl ?_,
   j4 T.Ki rfl ?_,
   iW T.J8 rfl ?_,
   iW T.J9 rfl ?_,
   iW T.Ka rfl ?_,
   iW T.J7 rfl ?_,
   iW T.Ke rfl ?_,
   iW T.J_ rfl ?_,
   iW T.Kb rfl ?_,
   iW T.J' rfl ?_,
   j4 T.Kg rfl ?_,
   j4 T.Kf rfl ?_,
   j4 T.Kj rfl ?_,
   j4 T.Kh rfl ?_,
   j4 T.Kd rfl ?_,
   cZ T.LD rfl ?_,
   y5 T.LL T.EH rfl λe c eT L f A outer s H E b=>?_,
   cZ T.Lf rfl ?_,
   cZ T.K0 rfl ?_,
   cZ T.K1 rfl ?_,
   cZ T.KZ rfl ?_,
   iW T.Kk rfl ?_,
   j4 T.Kl rfl ?_,
   j4 T.Kt rfl ?_,
   iW T.Kx rfl ?_,
   Mp T.Km rfl ?_,
   iW T.Kn rfl ?_,
   j4 T.Ks rfl ?_,
   iW T.Kq rfl ?_,
   iW T.Kp rfl ?_,
   iW T.Ko rfl ?_,
   j4 T.Kv rfl ?_,
   j4 T.Kw rfl ?_,
   j4 T.Ku rfl ?_,
   j4 T.Kr rfl ?_,
   cZ T.Lj rfl ?_,
   cZ T.Lm rfl ?_,
   cZ T.Ln rfl ?_,
   cZ T.Lo rfl ?_,
   cZ T.Lp rfl ?_,
   cZ T.Lk rfl ?_,
   Dq T.Lh rfl ?_,
   Dq T.Li rfl ?_,
   Dq T.Ll rfl ?_,
   cZ T.Lq rfl ?_,
   cZ T.Lg rfl ?_,
   λF e=>(Dg (k:=26) F agp rfl rfl λg A outer s H E b=>?_:fc P w K mg base eR _ _ _ _ (iq K mg (fnX 1 12 IM)))⟩
  all_goals try intro e
  all_goals try intro f g A outer s H E b
  all_goals repeat' first
   |((with_reducible show ba _ _ _);first
    |(with_reducible show ba _ _ (ak (lS _) _ _));refine lY (Pw b.units) B5 ?_ ?_ (ij _)
    |(with_reducible show ba _ _ (ak (n1 _) _ _));first|refine lY (Pq T.hw b.units) HI ?_ ?_ rfl|refine lY (Py T.hw b.units) HN ?_ ?_ rfl
    |(with_reducible show ba _ _ (ak uG _ _));refine ain T.hw b.units ?_ ?_
    |(with_reducible show ba _ _ (J _));exact x3 _
    |(with_reducible show ba _ (.BoolOp _ [_] _) _);refine aiv ?_
    |(with_reducible show ba _ _ (ak eC _ _));refine Rr NM HL ?_ ?_ (λ_ _=>rfl)
    |(with_reducible show ba _ _ (bM _));refine aiD ?_
    |(with_reducible show ba _ _ (bo _ cQ));refine' aii ?_ ?_ rfl
    |(with_reducible show ba _ _ (bo _ _));refine' aih ?_ ?_ rfl ?_
    |(with_reducible show ba _ _ (bb (.int _)));first|exact Rq|exact k' (qK rfl T.Wg) λ_ _=>rfl|exact k' (qK rfl T.Wd) λ_ _=>rfl|exact k' (qK rfl T.Wc) λ_ _=>rfl|exact k' (qK rfl T.We) λ_ _=>rfl|exact k' (qK rfl T.Wf) λ_ _=>rfl|exact k' (qK rfl T.Wh) λ_ _=>rfl|exact k' (qK rfl T.Wi) λ_ _=>rfl
    |(with_reducible show ba _ _ (bb .aP));exact ait
    |(with_reducible show ba _ _ (bb (.ay _)));exact aif
    |(with_reducible show ba _ _ (bb (.ty "tuple")));exact k' (xw (v:=.ty "tuple") rfl T.B.tuple' JH rfl) λ_ _=>rfl
    |(with_reducible show ba _ _ (bb (.ty "bool")));exact k' (xw (v:=.ty "bool") rfl T.B.Ug Uq rfl) λ_ _=>rfl
    |(with_reducible show ba _ _ (bb (.ty "str")));exact k' (xw (v:=.ty "str") rfl T.B.agS Uv rfl) λ_ _=>rfl
    |(with_reducible show ba _ _ (bb (.ty "int")));exact k' (xw (v:=.ty "int") rfl T.B.ND JF rfl) λ_ _=>rfl
    |(with_reducible show ba _ _ (bb (.ty "list")));exact k' (xw (v:=.ty "list") rfl T.B.EM Cy rfl) λ_ _=>rfl
    |(with_reducible show ba _ _ (bb (.str _)));first|exact aiA|exact k' (qK rfl T.Wj) λ_ _=>rfl
    |(with_reducible show ba _ _ (ak eh _ _));refine lZ Pl HD ?_ ?_
    |(with_reducible show ba _ _ (ak oMod _ _));refine lZ ad9 S3 ?_ ?_
    |(with_reducible show ba _ _ (ak e3 _ _));refine lZ ad6 SY ?_ ?_
    |(with_reducible show ba _ _ (ak uE _ _));refine lZ Pn HE ?_ ?_
    |(with_reducible show ba _ _ (ak pa _ _));refine lZ ad4 SX ?_ ?_
    |(with_reducible show ba _ _ (ak pe _ _));refine lZ aec S5 ?_ ?_
    |(with_reducible show ba _ _ (ak pg _ _));refine lZ aef S8 ?_ ?_
    |(with_reducible show ba _ _ (ak n2 _ _));refine lZ aea S4 ?_ ?_
    |(with_reducible show ba _ _ (ak uC _ _));refine lZ ad5 SV ?_ ?_
    |(with_reducible show ba _ _ (ak uD _ _));refine lZ aeb SW ?_ ?_
    |(with_reducible show ba _ _ (ak Fs _ _));refine lZ aed S6 ?_ ?_
    |(with_reducible show ba _ _ (ak xo _ _));refine lZ aee S7 ?_ ?_
    |(with_reducible show ba _ _ (ak oEq _ _));refine lY (Po b.units) HF ?_ ?_ (ij _)
    |(with_reducible show ba _ _ (ak kZ _ _));refine lY Pu HK ?_ ?_ (ij _)
    |(with_reducible show ba _ _ (ak i3 _ _));refine lY Pz HO ?_ ?_ (ij _)
    |(with_reducible show ba _ _ (ak uF _ _));refine lY Pp HG ?_ ?_ (ij _)
    |(with_reducible show ba _ _ (ak oLt _ _));refine lY FE B6 ?_ ?_ (ij _)
    |(with_reducible show ba _ _ (ak (lT false) _ _));refine lY Pr (HH false) ?_ ?_ rfl
    |(with_reducible show ba _ _ (ak (si false) _ _));refine lY Pt HJ ?_ ?_ rfl
    |(with_reducible show ba _ _ (dm hu _));refine sJ UH aao rfl T.B.len JG ?_
    |(with_reducible show ba _ _ (dm mn _));refine sJ (UG T.kt) aan rfl T.B.isinstance Ur ?_
    |(with_reducible show ba _ _ (dm oK _));refine sJ (UC rfl) aak rfl T.B.all Uo ?_
    |(with_reducible show ba _ _ (dm (v7 _) _));refine sJ (UK rfl) aai rfl T.B.max Us ?_
    |(with_reducible show ba _ _ (dm v8 _));refine sJ UB aaj rfl T.B.abs Un ?_
    |(with_reducible show ba _ _ (dm nF _));refine sJ UI aap rfl T.B.len JG ?_
    |(with_reducible show ba _ _ (dm tw _));refine GC UE aam rfl T.B.ND JF ?_
    |(with_reducible show ba _ _ (dm qi _));refine GC UL aat rfl T.B.tuple' JH ?_
    |(with_reducible show ba _ _ (eL _));refine aiq ?_
    |(with_reducible show ba _ _ (jw _ _));refine aid ?_ ?_
    |(with_reducible show ba _ _ (vP _));refine aiu ?_
    |(with_reducible show ba _ _ (bh oBits _));refine aie ?_
    |(with_reducible show ba _ _ (fG _ _ _ _ _));refine ail (vU (xs:=[_]) (by kernel_rfl)) (by decide) ?_ rfl (λ_ _ _ _=>⟨aoo rfl,rfl⟩) (λ_ _ _ _=>?_) (λ_ _ _ _=>?_) (he:=rfl) (hN:=rfl)
    |(with_reducible show ba _ _ (vN _ _ _ _));refine aim (vU (xs:=[_,_]) (by kernel_rfl)) rfl T.B.zip ?_ rfl rfl (λ_ _ _ _=>⟨aoo rfl,rfl⟩) (λ_ _ _ _=>⟨aoo rfl,rfl⟩) (λ_ _ _ _=>?_) (λ_ _ _ _=>?_) (he:=rfl) (hN:=rfl)
    |(with_reducible show ba _ _ (nA _ _ _));refine aix ?_ ?_ ?_
    |(with_reducible show ba _ _ (CD _ _ _));refine aiz ?_ ?_ ?_
    |(with_reducible show ba _ _ (CE _ _));refine Ru T.AN rfl ?_
    |(with_reducible show ba _ _ (CF _ _));refine aiC T.Eo rfl ?_
    |(with_reducible show ba _ _ (rn _ _ _));refine Rt (k:=0) rfl (aas (by first|exact aaU|exact aaV)) rfl T.B.sorted ?_ L T.bm rfl rfl (qj (by kernel_rfl)) (λ_ _ _ _=>rfl) (λ_ _ _ _ _ _=>?_) ?_
    |(with_reducible show ba _ _ (CC _ _));refine Rt (k:=0) rfl aar rfl T.B.max ?_ L T.bm rfl rfl (qj (by kernel_rfl)) (λ_ _ _ _=>rfl) (λ_ _ _ _ _ _=>?_) ?_
    |(with_reducible show ba _ _ (ak ea _ _));refine lY (Px b.units) HM ?_ ?_ (ij _)
    |(with_reducible show ba _ _ (p7 _ _));refine aiw ?_ ?_
    |(with_reducible show ba _ _ (dm v_ _));refine GC UJ aaq rfl T.B.EM Cy ?_
    |(with_reducible show ba _ _ (bh (b8 "Asker" _) _));refine Rp T.oC (by simp[Ad]) ?_
    |(with_reducible show ba _ _ (bh (b8 "House" _) _));refine Rp T.oD (by simp[Ae]) ?_
    |(with_reducible show ba _ _ (hQ _));refine aip ?_
    |(with_reducible show ba _ _ (dI _ _ _ _ cQ));refine' ais ?_ ?_ ?_
    |(with_reducible show ba _ _ (dI _ _ _ _ _));refine' air ?_ ?_ ?_ ?_
    |(with_reducible show ba _ _ (ak oLe _ _));refine lY sl ri ?_ ?_ (ij _)
    |(with_reducible show ba _ _ (dm v9 _));refine sJ (UD rfl) aal rfl T.B.any Up ?_
    |(with_reducible show ba _ _ (tf _ _ _));refine aiy ?_ ?_ ?_
    |(with_reducible show ba _ _ (e0 oLe oLe _ _ _));refine aik sl ri sl ri ?_ ?_ ?_
    |(with_reducible show ba _ _ (yE _));refine aio rfl rfl T.B.EM rfl T.B.range ?_
    |(with_reducible show ba _ _ (CB rB _ _));refine aiB PySem.F.slot_str_find PySem.F.type_str_find ab3 Ub aei ?_ ?_)
   |((with_reducible show g9 _ _ _);first
    |(with_reducible show g9 _ _ (cQ));exact Rn
    |(with_reducible show g9 _ _ (di _ _));refine A5 ?_ ?_)
   |((with_reducible show f3 _ _ _);first
    |(show f3 _ _ (a9 _));refine RB ?_
    |(show f3 _ _ (b9 _ (fG _ _ _ _ _)));refine aiQ (vU (xs:=[_]) (by kernel_rfl)) (qD (by kernel_rfl)) rfl rfl (by decide) ?_ rfl (λ_ _ _ _=>⟨aoo rfl,rfl⟩) (λ_ _ _ _=>?_) (λ_ _ _ _=>?_) (he:=rfl) (hN:=rfl)
    |(show f3 _ _ (b9 _ _));refine RC (qD (by kernel_rfl)) rfl (by first|exact aoo rfl|exact anh rfl|exact anh (.inl rfl)|exact anh (anh rfl)) ?_
    |(show f3 _ _ (cq _ _ _));refine aiS ?_ ?_ ?_
    |(show f3 _ _ (nz _ (fG _ _ _ _ _)));refine aiP (vU (xs:=[_]) (by kernel_rfl)) (qD (by kernel_rfl)) rfl rfl (by decide) ?_ rfl (λ_ _ _ _=>⟨aoo rfl,rfl⟩) (λ_ _ _ _=>?_) (λ_ _ _ _=>?_) (he:=rfl) (hN:=rfl)
    |(show f3 _ _ (nz _ _));refine aiU (qD (by kernel_rfl)) rfl (by first|exact aoo rfl|exact anh rfl|exact anh (.inl rfl)|exact anh (anh rfl)) ?_
    |(show f3 _ _ (lF _ _ _));refine aiR apE rfl ?_ (qD (by kernel_rfl)) rfl (by first|exact aoo rfl|exact anh rfl|exact anh (.inl rfl)|exact anh (anh rfl)) ?_
    |(show f3 _ _ (rm _ k9 _));refine RA aqs aqt E' OC ?_ rfl (by first|exact aoo rfl|exact anh rfl|exact anh (.inl rfl)|exact anh (anh rfl))
    |(show f3 _ _ (rm _ xX _));refine RA aqu aqv ab2 abJ ?_ rfl (by first|exact aoo rfl|exact anh rfl|exact anh (.inl rfl)|exact anh (anh rfl))
    |(show f3 _ _ (yF _));exact aiV _
    |(show f3 _ _ (oB));exact aiT
    |(show f3 _ _ (vQ _ _));refine aiW apE ?_ ?_)
   |((with_reducible show fh _ _ _);first
    |(with_reducible show fh _ _ (aR (ak oEq _ _)));refine kj (Po b.units) HF ?_ ?_ (ij _)
    |(with_reducible show fh _ _ (aR (ak ea _ _)));refine kj (Px b.units) HM ?_ ?_ (ij _)
    |(with_reducible show fh _ _ (aR (ak kZ _ _)));refine kj Pu HK ?_ ?_ (ij _)
    |(with_reducible show fh _ _ (aR (ak i3 _ _)));refine kj Pz HO ?_ ?_ (ij _)
    |(with_reducible show fh _ _ (aR (ak uF _ _)));refine kj Pp HG ?_ ?_ (ij _)
    |(with_reducible show fh _ _ (aR (ak pb _ _)));refine kj ad7 S0 ?_ ?_ (ij _)
    |(with_reducible show fh _ _ (aR (ak oLt _ _)));refine kj FE B6 ?_ ?_ (ij _)
    |(with_reducible show fh _ _ (aR (ak oLe _ _)));refine kj sl ri ?_ ?_ (ij _)
    |(with_reducible show fh _ _ (aR (ak (lT false) _ _)));refine kj Pr (HH false) ?_ ?_ rfl
    |(with_reducible show fh _ _ (aR (ak (si false) _ _)));refine kj Pt HJ ?_ ?_ rfl
    |(with_reducible show fh _ _ (aR (e0 oLe oLe _ _ _)));refine RF sl ri sl ri ?_ ?_ ?_
    |(with_reducible show fh _ _ (aR (e0 oLe oLt _ _ _)));refine RF sl ri FE B6 ?_ ?_ ?_
    |(with_reducible show fh _ _ (aR (ak (lS _) _ _)));first|refine kj (ad8 b.units) B5 ?_ ?_ (ij _)|refine kj (Pw b.units) B5 ?_ ?_ (ij _)
    |(with_reducible show fh _ _ (aR (ak (n1 _) _ _)));first|refine kj (Pq T.hw b.units) HI ?_ ?_ rfl|refine kj (Py T.hw b.units) HN ?_ ?_ rfl
    |(with_reducible show fh _ _ (aR _));refine aiZ ?_
    |(with_reducible show fh _ _ (eE _));refine aiY ?_
    |refine lz.cF ?_)
   |((with_reducible show lz _ _ _);first
    |(with_reducible show lz _ _ (fA _ _));refine ai2 ?_ ?_
    |(with_reducible show lz _ _ (hE _ _));refine ai0 ?_ ?_
    |first|refine ai3 ?_|refine ai1 ?_)
   |((with_reducible show e7 _ _ _);first
    |(with_reducible show e7 _ _ (dt _));refine ajm ?_
    |(with_reducible show e7 _ _ (g5 uE _ _));refine RP Pn HE ?_ ?_
    |(with_reducible show e7 _ _ (l0 _));refine ajl ?_
    |(with_reducible show e7 _ _ (eJ _ _ _ _ qU));refine' ajk ?_ ?_ ?_
    |(with_reducible show e7 _ _ (eJ _ _ _ _ _));refine' ajj ?_ ?_ ?_ ?_
    |(with_reducible show e7 _ _ (pM _ _));refine' ajg ?_ ?_ rfl ?_
    |(with_reducible show e7 _ _ (pN "Asker" _ _));refine' RO T.oC ?_ ?_ rfl ?_
    |(with_reducible show e7 _ _ (pN "House" _ _));refine' RO T.oD ?_ ?_ rfl ?_
    |(with_reducible show e7 _ _ (A9 (.dU _ _)));exact aji
    |(with_reducible show e7 _ _ (g5 eh _ _));refine RP Pl HD ?_ ?_
    |(with_reducible show e7 _ _ (x4 _ _ _ _));refine ajh (vU (xs:=[_]) (by kernel_rfl)) (by decide) ?_ rfl (λ_ _ _ _=>⟨aoo rfl,rfl⟩) (λ_ _ _ _=>?_) (he:=rfl) (hN:=rfl))
   |((with_reducible show vH _ _ _);first
    |(with_reducible show vH _ _ (fY _));refine ajA ?_)
   |((with_reducible show p4 _ _ _);first
    |(with_reducible show p4 _ _ (e5 _));refine ajf ?_
    |(with_reducible show p4 _ _ (vd _ _));refine aje ?_ ?_)
   |((with_reducible show f5 _ _ _);first
    |(show f5 _ _ (b' _));refine aju ?_
    |(show f5 _ _ (l1 _ _));refine ajw (qD (by kernel_rfl)) rfl (by first|exact aoo rfl|exact anh rfl|exact anh (.inl rfl)|exact anh (anh rfl)) ?_
    |(show f5 _ _ (fP _ _ _));refine ajs ?_ ?_ ?_
    |(show f5 _ _ (i8 _));refine ajv ?_
    |(show f5 _ _ (jk _));refine ajq ?_
    |(show f5 _ _ (d0 "Asker" _ _ _));refine RR T.oC (by simp[Ad]) ?_ ?_
    |(show f5 _ _ (d0 "House" _ _ _));refine RR T.oD (by simp[Ae]) ?_ ?_
    |(show f5 _ _ (n' k9 _ _));refine RS aqs aqt E' OC ?_ ?_
    |(show f5 _ _ (vf _ _ _));refine ajr apE rfl ?_ (qD (by kernel_rfl)) rfl (by first|exact aoo rfl|exact anh rfl|exact anh (.inl rfl)|exact anh (anh rfl)) ?_
    |(show f5 _ _ (A_ _ _ _));refine ajt ?_ ?_ ?_
    |(show f5 _ _ (A' _ _));refine ajx apE ?_ ?_
    |(show f5 _ _ (n' xW _ _));refine RS aqu aqv ab1 abI ?_ ?_
    |(show f5 _ _ (ve _ _ _));refine ajp T.hw b.units ?_ ?_ ?_)
   |((with_reducible show jb _ _ _);first|exact aiX|refine RE ?_|refine RD ?_ ?_)
   |((with_reducible show iC _ _ _);first|((show iC _ _ (bJ _ _));refine ajy ?_ ?_)|((with_reducible show iC _ [] _);refine RT ?_)|refine ajz ?_|refine RT ?_)
   |((with_reducible show q' _ _ _);first|exact aiG|refine aiH ?_)
   |((with_reducible show cO _ _);exact b.mono (by omega))
   |((with_reducible show g8 _ _ _ _ _ _ _ _ _);first|exact(a.X_ (by omega))|exact(a.XR (by omega))|exact(a.Yp (by omega))|exact(a.X' (by omega))|exact(a.Yq (by omega))|exact(a.XW (by omega))|exact(a.XE (by omega))|exact(a.XQ (by omega))|exact(a.X2 (by omega))|exact(a.X6 (by omega))|exact(a.XY (by omega))|exact a.XX _ (by omega)|exact a.Yu _ (by omega)|exact(a.X8 (by omega))|exact(a.Yt (by omega))|exact a.XM _ (by omega)|exact(a.X3 (by omega))|exact(a.Yn (by omega))|exact(a.XN (by omega))|exact(a.YA (by omega))|exact(a.X1 (by omega))|exact(a.Yr (by omega))|exact(a.Ys (by omega))|exact(a.X4 (by omega))|exact(a.X5 (by omega))|exact(a.X0 (by omega))|exact(a.XO (by omega))|exact(a.X7 (by omega))|exact(a.XZ (by omega))|exact(a.XH (by omega))|exact(a.Ym (by omega))|exact(a.YB (by omega))|exact(a.X9 (by omega))|exact(a.XI (by omega))|exact(a.YD (by omega))|exact(a.XJ (by omega))|exact(a.YE (by omega))|exact(a.YF (by omega))|exact(a.YH (by omega))|exact(a.Yx (by omega))|exact(a.MO (by omega))|exact(a.MK (by omega))|exact(a.MR (by omega))|exact(a.Yo (by omega))|exact(a.Yv (by omega))|exact(a.MS (by omega))|exact(a.MP (by omega))|exact(a.MM (by omega))|exact(a.MQ (by omega))|exact(a.MN (by omega))|exact(a.ML (by omega))|exact(a.Yy (by omega))|exact(a.XK (by omega))|exact(a.XG (by omega))|exact(a.YC (by omega))|exact(a.XF (by omega))|exact(a.XP (by omega))|exact(a.Yz (by omega))|exact(a.YG (by omega))|exact(a.Ya (by omega))|exact(a.XT (by omega))|exact(a.XU (by omega))|exact(a.XS (by omega))|exact(a.Ye (by omega))|exact(a.Yh (by omega))|exact(a.Yi (by omega))|exact(a.Yj (by omega))|exact(a.Yk (by omega))|exact(a.Yf (by omega))|exact(a.Yc (by omega))|exact(a.Yd (by omega))|exact(a.Yg (by omega))|exact(a.Yl (by omega))|exact(a.Yb (by omega)))
   |((with_reducible show kq _ _ _ _ _ _ _ _ _ _);first|exact(a.W9 (by omega))|exact(a.W_ (by omega))|exact(a.W' (by omega)).all|exact(a.Xa (by omega))|exact(a.Xi (by omega))|exact(a.Xo (by omega))|exact(a.Xc (by omega))|exact(a.Xd (by omega))|exact(a.Xg (by omega))|exact(a.Xb (by omega))|exact(a.Xk (by omega))|exact(a.Xe (by omega))|exact(a.Xh (by omega))|exact(a.Xf (by omega))|exact(a.Xm (by omega))|exact(a.Xl (by omega))|exact(a.Xp (by omega))|exact(a.Xn (by omega))|exact(a.Xj (by omega))|exact(a.Xq (by omega))|exact(a.Xr (by omega))|exact(a.Xz (by omega))|exact(a.XD (by omega))|exact(a.Xs (by omega)).all|exact(a.Xt (by omega))|exact(a.Xy (by omega))|exact(a.Xw (by omega))|exact(a.Xv (by omega))|exact(a.Xu (by omega))|exact(a.XB (by omega))|exact(a.XC (by omega))|exact(a.XA (by omega))|exact(a.Xx (by omega)))
   |(first|refine ah7 ?_|refine aia ?_|refine ah8 rfl T.B.range ?_|refine ah9 ?_|refine aiE ?_|refine aiF ?_|refine ajn ?_|refine ajo rfl T.B.range ?_|exact aiN|refine aiO ?_)
def FD(T:Txt P w K mg base)(F:lj K "law" "law" xG f fd):fc P w K mg base eR 27 f fd ["script"] (iq K mg E2):=(aw T 27).FD F (amj _)
end
end ed
set_option maxHeartbeats 1000000
namespace az
open PySem PySem.Spec aC
@[simp] theorem aj8{x y:R}:uE x y=match x.own,y.own with
 |some xs,some ys=>if xs.length+ys.length<=ami then pure (.fr (xs++ys))else bad|_,_=>bad:=rfl
@[simp] theorem al6{i j:Int}(a:0<j)(b:j<10 ^ 200):pT i j:=CU a b
def HB{α:Type}{xs:List α}{i:Int}{v:α}(h:d7 xs i=some v):v∈xs:=by
 obtain⟨j,_,e,_⟩:=yu h;exact amD e
def B0{α:Type}{xs:List α}{i:Int}(a:0<=i)(b:i<xs.length):∃v,d7 xs i=some v:=by
 have hl:i.toNat<xs.length:=by omega
 refine⟨xs[i.toNat],?_⟩;have:=lD (xs:=xs) i.toNat (v:=xs[i.toNat]) (by simp[hl])
 rwa[Int.toNat_of_nonneg a]at this
end az
namespace jq
inductive bB where
 |kp (k:Nat)
 |ch (k:Nat) (ps:List bB)
mutual
def bB.names:bB->List Nat
 |.kp k=>[k]
 |.ch _ ps=>bB.fz ps
def bB.fz:List bB->List Nat
 |[]=>[]
 |r::rs=>r.names++bB.fz rs
end
mutual
def bB.deep:bB->Nat
 |.kp _=>0|.ch _ ps=>bB.mm ps+1
def bB.mm:List bB->Nat
 |[]=>0|r::rs=>max r.deep (bB.mm rs)
end
mutual
def bB.wf:bB->Prop
 |.kp k=>k<6|.ch k ps=>1<=k/\k<=ps.length/\ps.length<=6/\bB.qT ps
def bB.qT:List bB->Prop
 |[]=>True|r::rs=>r.wf/\bB.qT rs
end
mutual
def bB.fills(p:Nat->Bool):bB->Bool
 |.kp k=>p k|.ch k ps=>decide (k<=bB.cnt p ps)
def bB.cnt(p:Nat->Bool):List bB->Nat
 |[]=>0|r::rs=>(if r.fills p then 1 else 0)+bB.cnt p rs
end
theorem vc:∀{ps:List bB},bB.qT ps↔∀r∈ps,r.wf
 |[]=>by simp[bB.qT]| r::rs=>by simp[bB.qT,vc]
theorem qd:∀{ps:List bB}{n:Nat},bB.mm ps<n->∀r∈ps,r.deep<n
 |r::rs,n,h,x,C=>by
  simp only[bB.mm]at h;rcases amw.mp C with rfl|C
  .omega
  .exact qd (ps:=rs) (by omega) x C
theorem CL(p:Nat->Bool):∀ps:List bB,(ps.filter (bB.fills p)).length=bB.cnt p ps
 |[]=>rfl|r::rs=>by
  rw[aoM];simp only[bB.cnt]
  cases h:r.fills p with
  |true=>simp[CL p rs];omega|false=>simp[CL p rs]
mutual
theorem xh:∀r:bB,r.wf->∀k∈r.names,k<6
 |.kp k,h,x,C=>by simp only[bB.names,amo]at C;simp only[bB.wf]at h;omega| .ch k ps,h,x,C=>by simp only[bB.wf]at h;exact OW ps h.2.2.2 x (by simpa only[bB.names]using C)
theorem OW:∀ps:List bB,bB.qT ps->∀k∈bB.fz ps,k<6
 |[],_,x,C=>by simp[bB.fz]at C|r::rs,h,x,C=>by
  simp only[bB.qT]at h;simp only[bB.fz,amF]at C;rcases C with C|C
  .exact xh r h.1 x C
  .exact OW rs h.2 x C
end
theorem xg:∀ps a:List bB,bB.fz (ps++a)=bB.fz ps++bB.fz a
 |[],_=>rfl|r::rs,a=>by
  show r.names++bB.fz (rs++a)=(r.names++bB.fz rs)++bB.fz a;rw[xg rs a,an5]
end jq
namespace az
open PySem PySem.Spec aC jq
mutual
def enc:bB->D
 |.kp k=>.int (k:Nat)|.ch k ps=>.t [.int (k:Nat),.t (encL ps)]
def encL:List bB->List D
 |[]=>[]
 |r::rs=>enc r::encL rs
end
theorem L2:∀ps:List bB,encL ps=ps.map enc
 |[]=>rfl| r::rs=>by rw[amt,<-L2 rs];rfl
def ry(k:Nat)(ps:List bB):enc (.ch k ps)=.t [.int (k:Nat),.t (ps.map enc)]:=by rw[<-L2];rfl
def yT(k:Nat):enc (.kp k)=.int (k:Nat):=rfl
@[simp] theorem al8(r:bB):cf (enc r)=.v (enc r):=by cases r<;>rfl
def U8{α:Type}(xs:List α)(k:Nat):cutD xs (some (k:Int)) none=xs.drop k:=by
 unfold cutD;rw[dg.AB,dg.AD]
 by_cases h:k<=xs.length
 .rw[aoZ h]
  exact anw (by rw[ank];omega)
 .rw[Nat.min_eq_right (by omega),aqK (amj _),aqK (by omega),aqT]
def yM{α:Type}(xs:List α)(k:Nat):cutD xs none (some (k:Int))=xs.take k:=by
 unfold cutD;rw[dg.AB,dg.AD,apN,Nat.sub_zero]
 by_cases h:k<=xs.length
 .rw[aoZ h]
 .rw[Nat.min_eq_right (by omega),anw (amj _),anw (by omega)]
end az
namespace gI
def dG(m k:Nat):Bool:=m / 2 ^ k % 2==1
def fJ(m:Nat):List Nat:=(amJ (if m==0 then 0 else m.log2+1)).filter (dG m)
def tc(b:Bool)(n:Nat):Nat:=if b then n else 0
def uw(f a b d c e:Bool):Nat:=tc f 1+tc a 2+tc b 4+tc d 8+tc c 16+tc e 32
def nZ(p:Nat->Bool):Nat:=uw (p 0) (p 1) (p 2) (p 3) (p 4) (p 5)
def abZ(p:Nat->Bool)(k:Nat)(g:k<6):nZ p ||| 2 ^ k=nZ λj=>p j||j==k:=by
 have all:∀f a b d c e:Bool,∀k:Fin 6,uw f a b d c e ||| 2 ^ k.val=uw (f||0==k.val) (a||1==k.val) (b||2==k.val) (d||3==k.val) (c||4==k.val) (e||5==k.val):=by decide +kernel
 exact all (p 0) (p 1) (p 2) (p 3) (p 4) (p 5) ⟨k,g⟩
def OU(p:Nat->Bool)(k:Nat)(h:k<6):(nZ p / 2 ^ k % 2==1)=p k:=by
 have all:∀g a b d c f:Bool,∀k:Fin 6,(uw g a b d c f / 2 ^ k.val % 2==1)=[g,a,b,d,c,f].getD k.val false:=by decide +kernel
 have e:=all (p 0) (p 1) (p 2) (p 3) (p 4) (p 5) ⟨k,h⟩;rw[show nZ p=uw (p 0) (p 1) (p 2) (p 3) (p 4) (p 5)from rfl,e];have:k=0\/k=1\/k=2\/k=3\/k=4\/k=5:=by omega
 rcases this with rfl|rfl|rfl|rfl|rfl|rfl<;>rfl
def OV(p:Nat->Bool):nZ p<64:=by
 have all:∀f a b d c e:Bool,uw f a b d c e<64:=by decide +kernel
 exact all _ _ _ _ _ _
def bits(m:Nat):Nat:=if m==0 then 0 else m.log2+1
def maskOf(ns:List Nat):Nat:=ns.foldl (λm k=>m ||| 2 ^ k) 0
theorem OL:∀(ns:List Nat)(p:Nat->Bool),(∀n∈ns,n<6)->ns.foldl (λm k=>m ||| 2 ^ k) (nZ p)=nZ λj=>p j||ns.contains j
 |[],p,_=>by simp|n::r,p,h=>by
  rw[List.foldl_cons,abZ p n (h n amu),OL r _ λx a=>h x (amr _ a)]
  congr 1
  funext j
  rw[List.contains_cons,Bool.or_assoc]
def E7(ns:List Nat)(h:∀n∈ns,n<6):maskOf ns=nZ λj=>ns.contains j:=by
 have e:=OL ns (λ_=>false) h;have z:nZ (λ_=>false)=0:=rfl;rw[z]at e;show ns.foldl (λm k=>m ||| 2 ^ k) 0=_;rw[e];simp
end gI
namespace jY
open gI jq
def sub(x m:Nat):Bool:=(amJ 6).all λk=>!dG x k||dG m k
def within(a:List Nat):List Nat:=a.foldl (λms k=>ms++ms.map (· + 2 ^ k)) [0]
def aiM:∀M:Fin 64,within (fJ M.val)=(amJ 64).filter λx=>sub x M.val:=by decide +kernel
def filling(r:bB)(M:Nat):List Nat:=(within (fJ M)).filter λm=>r.fills (dG m)
def zt(a:List Nat)(m:Nat):Bool:=!((fJ m).any λk=>a.contains (m-2 ^ k))
def least(r:bB):List Nat:=(filling r (maskOf r.names)).filter (zt (filling r (maskOf r.names)))
def Ju(b:m<64)(a:6<=k):dG m k=false:=by
 unfold dG;have c:64<=2 ^ k:=amN (show 64<=2 ^ 6 by decide) (apF (by decide) a);rw[Nat.div_eq_of_lt (by omega)];rfl
def agW(b:x<64):sub x m=true↔∀k,dG x k=true->dG m k=true:=by
 unfold sub;rw[amX];constructor
 .intro h k a
  by_cases c:k<6
  .have:=h k (am5.mpr c)
   rw[a]at this;simpa using this
  .rw[Ju b (by omega)]at a;cases a
 .intro h k _
  cases e:dG x k with
  |false=>rfl|true=>rw[h k e];rfl
def OQ(a:x<64):k∈fJ x↔k<6/\dG x k=true:=by
 have all:∀x:Fin 64,fJ x.val=(amJ 6).filter (dG x.val):=by decide +kernel
 rw[all ⟨x,a⟩,anB,am5]
def Vh(c:x<64)(d:k<6)(h:dG x k=true):x-2 ^ k<x/\∀j,dG (x-2 ^ k) j=true->dG x j=true:=by
 have all:∀x:Fin 64,∀k:Fin 6,dG x.val k.val=true->x.val-2 ^ k.val<x.val/\sub (x.val-2 ^ k.val) x.val=true:=by decide +kernel
 obtain⟨a,b⟩:=all ⟨x,c⟩ ⟨k,d⟩ h;exact⟨a,(agW (by have:x-2 ^ k<x:=a;omega)).mp b⟩
def OP{r:bB}{M x:Nat}(d:M<64):x∈filling r M↔x<64/\sub x M=true/\r.fills (dG x)=true:=by
 unfold filling;rw[aiM ⟨M,d⟩,anB,anB,am5];constructor
 .rintro⟨⟨a,b⟩,c⟩;exact⟨a,b,c⟩
 .rintro⟨a,b,c⟩;exact⟨⟨a,b⟩,c⟩
def OM(r:bB)(h:r.wf):maskOf r.names<64:=by
 rw[E7 r.names (xh r h)];exact OV _
def Oo(r:bB)(h:r.wf)(a:x∈least r):x<64/\r.fills (dG x)=true/\sub x (maskOf r.names)=true:=by
 have:=(anB.mp a).1;rw[OP (OM r h)]at this;exact⟨this.1,this.2.2,this.2.1⟩
end jY
namespace az
open PySem PySem.Spec aC gI jq jY
def a6(k:Nat):D:=.int (k:Int)
def hA(k:Nat):a6 k=.int (k:Int):=rfl
def SI(x:Int):anH x 1=x % 2:=W.kbt_mask x 1
def FF(a b:Nat):apm (a:Int) (b:Int)=((a ||| b:Nat):Int):=by
 have c:decide (0<=anx (a:Int))=false:=decide_eq_false (by unfold anx;omega);have d:decide (0<=anx (b:Int))=false:=decide_eq_false (by unfold anx;omega);have ao:(anx (anx (a:Int))).toNat=a:=by unfold anx;omega
 have aA:(anx (anx (b:Int))).toNat=b:=by unfold anx;omega
 unfold apm anH;rw[c,d];dsimp only;rw[ao,aA];unfold anx;omega
def SH(a b:Nat):anH (a:Int) (b:Int)=((a&&& b:Nat):Int):=by
 have c:decide (0<=(a:Int))=true:=decide_eq_true (by omega);have d:decide (0<=(b:Int))=true:=decide_eq_true (by omega);unfold anH;rw[c,d];rfl
def ZY(m:Nat):anq (m:Int)=gI.bits m:=by
 unfold anq gI.bits;rw[Int.natAbs_natCast]
 by_cases h:m=0
 .subst h;rfl
 .have h':(m:Int)≠0:=by omega
  rw[beq_eq_false_iff_ne.mpr h,beq_eq_false_iff_ne.mpr h']
def bits_le(m:Nat)(h:m<64):gI.bits m<=6:=by
 have all:∀m:_root_.Fin 64,gI.bits m.val<=6:=by decide +kernel
 exact all ⟨m,h⟩
def aaz(m:Nat):fJ m=(amJ (gI.bits m)).filter (dG m):=rfl
def Er(h:m<64):(fJ m).length<=6:=by
 have all:∀m:_root_.Fin 64,(fJ m.val).length<=6:=by decide +kernel
 exact all ⟨m,h⟩
def E8(a:List Nat)(k:Nat):gI.maskOf (a++[k])=gI.maskOf a ||| 2 ^ k:=by
 unfold gI.maskOf;rw[List.foldl_append];rfl
def ON(k:Nat):gI.maskOf [k]=2 ^ k:=by
 show 0 ||| 2 ^ k=2 ^ k
 exact Nat.zero_or _
def Rz(a:List Nat)(k:Nat):within (a++[k])=within a++(within a).map (· + 2 ^ k):=by
 unfold within;rw[List.foldl_append];rfl
def Ry:∀a:List Nat,(within a).length=2 ^ a.length:=by
 intro a;rcases h:a.length with _|n
 .rw[anJ.mp h];rfl
 .have:∀(n:Nat)(a:List Nat),a.length=n->(within a).length=2 ^ n:=by
   intro n
   induction n with
   |zero=>intro a h;rw[anJ.mp h];rfl|succ n b=>
    intro a h;rcases List.eq_nil_or_concat a with rfl|⟨l,k,rfl⟩
    .cases h
    .rw[List.concat_eq_append]at h ⊢
     rw[amf,anl]at h;rw[Rz,amf,amh,b l (by omega)];omega
  exact this _ _ h
def take_snoc{α:Type}{l:List α}{i:Nat}{x:α}(h:l[i]? = some x):l.take (i+1)=l.take i++[x]:=by
 rw[apd,h];rfl
def z4{α a:Type}{f:α->a}{l:List α}{i:Nat}{y:a}(h:(l.map f)[i]? = some y):∃x,l[i]? = some x/\y=f x:=by
 rw[amE]at h
 cases e:l[i]? with
 |none=>rw[e]at h;cases h
 |some x=>rw[e]at h;exact⟨x,rfl,(amH h).symm⟩
def T9(m k:Nat):(anH ((m:Int) / 2 ^ k) 1==1)=dG m k:=by
 rw[SI];unfold dG;have ao:((m:Int) / 2 ^ k) % 2=((m / 2 ^ k % 2:Nat):Int):=by
  rw[Int.natCast_emod,Int.natCast_ediv,Int.natCast_pow];rfl
 rw[ao,an1,beq_iff_eq,beq_iff_eq];omega
def Qy(n:Nat):fM 0 n=(amJ n).map a6:=by
 unfold fM;refine aoV λi _=>?_
 show D.int (0+(i:Int))=.int (i:Int);rw[Int.zero_add]
def NA(k:Nat)(a:List Nat):inD (a6 k) (a.map a6)=a.contains k:=by
 unfold inD;rw[List.any_map,List.contains_eq_any_beq]
 congr 1
 funext j
 show eb (.int (j:Int)) (.int (k:Int))=(k==j);rw[an1,beq_iff_eq];simp[eb];omega
theorem oG{α:Type}{t:aL->M Bool}{el:bp}{U:aL}(f:α->D)(p:α->Bool)(g:α->D):∀xs:List α,(∀x∈xs,t (U.set 0 (.v (f x)))=pure (p x))->(∀x∈xs,p x=true->(el (U.set 0 (.v (f x))) >>= R.dat)=pure (g x))->
  gP t el U (xs.map f)=pure ((xs.filter p).map g)
 |[],_,_=>rfl|x::xs,C,I=>by
  have b:=oG f p g xs (λx a=>C x (amr _ a)) λx a=>I x (amr _ a)
  rw[amt];unfold gP;rw[C x amu,pure_bind]
  cases e:p x with
  |false=>rw[if_neg amm,b,List.filter_cons_of_neg (by rw[e];exact amm)]|true=>
   have h:=I x amu e;rw[if_pos rfl,<-bind_assoc,h,pure_bind,b,pure_bind,aqz e];rfl
def rq{α:Type}{el:bp}{U:aL}(f:α->D)(g:α->D)(xs:List α)(h:∀x∈xs,(el (U.set 0 (.v (f x))) >>= R.dat)=pure (g x)):gP gb el U (xs.map f)=pure (xs.map g):=by
 have:=oG (t:=gb) (el:=el) (U:=U) f (λ_=>true) g xs (λ_ _=>rfl) λx a _=>h x a
 rw[this]
 congr 2
 exact List.filter_eq_self.mpr λ_ _=>rfl
theorem tx{α:Type}{b:D->aW}(f:α->D)(p:α->Bool)(v:α->R)(I:aL->Prop):∀(xs:List α)(U:aL),I U->
  (∀x U,x∈xs->I U->(p x=true->b (f x) U=pure (.cx (v x)))/\(p x=false->∃U',b (f x) U=pure (.bt U')/\I U'))->
  (∀x,xs.find? p=some x->kE b (xs.map f) U=pure (.cx (v x)))/\(xs.find? p=none->∃U',kE b (xs.map f) U=pure (.bt U')/\I U')
 |[],U,h0,_=>⟨λx h=>(nomatch h),λ_=>⟨U,rfl,h0⟩⟩
 |x::xs,U,h0,step=>by
  obtain⟨i,s2⟩:=step x U amu h0
  cases e:p x with
  |true=>
   rw[anO e];refine⟨λy h=>?_,λh=>(nomatch h)⟩;cases h;show(b (f x) U >>= _)=_;rw[i e];rfl
  |false=>
   obtain⟨a,ao,g⟩:=s2 e;have d:=tx f p v I xs a g λy U c=>step y U (amr _ c)
   rw[anP (by rw[e];exact amm)];have u:kE b ((x::xs).map f) U=kE b (xs.map f) a:=by
    show(b (f x) U >>= _)=_;rw[ao];rfl
   rw[u];exact d
end az
namespace jY
open gI jq
def SJ(b:x<64)(c:y<64):(x&&& y==0)=true↔∀k,dG x k=true->dG y k=true->False:=by
 have all:∀x y:Fin 64,(x.val&&& y.val==0)=(amJ 6).all λk=>!(dG x.val k&&dG y.val k):=by decide +kernel
 rw[all ⟨x,b⟩ ⟨y,c⟩,amX];constructor
 .intro h k a d
  by_cases e:k<6
  .have:=h k (am5.mpr e)
   rw[a,d]at this;cases this
  .rw[Ju b (by omega)]at a;cases a
 .intro h k _
  cases ao:dG x k with
  |false=>rfl|true=>
   cases aA:dG y k with
   |false=>rfl|true=>exact(h k ao aA).elim
def oy(x y:Nat):Bool:=x&&& y==0
def kI(k:bB)(m:Nat):Bool:=((least k).find? (oy m)).isSome
end jY
namespace az
open PySem PySem.Spec aC
mutual
def D.A6:D->Bool
 |.t xs=>decide (xs.length<=1000)&&pL xs|.l xs=>decide (xs.length<=1000)&&pL xs|.ref _=>true|.fn _=>true|.ty _=>true|.aP=>true|.ay _=>true|.int _=>true|.str _=>true
def pL:List D->Bool
 |[]=>true|x::xs=>x.A6&&pL xs
end
theorem GF:∀{xs:List D},pL xs=true↔∀x∈xs,x.A6=true
 |[]=>by simp[pL]| x::xs=>by simp[pL,GF]
theorem lI:∀{xs:List D}{n:Nat},hS xs n=true↔∀x∈xs,x.bW n=true
 |[],_=>by simp[hS]| x::xs,n=>by simp[hS,lI]
def Ok(n:Nat)(d:D):Prop:=d.bW n=true/\d.A6=true
def uJ:Ok n .aP:=⟨rfl,rfl⟩
def dw{i:Int}:Ok n (.int i):=⟨rfl,rfl⟩
def h3(h:amz x=true):Ok n (.str x):=⟨h,rfl⟩
def qJ{xs:List D}(hl:xs.length<=1000)(h:∀x∈xs,Ok n x):Ok (n+1) (.t xs):=
 ⟨lI.mpr λx a=>(h x a).1,by show(decide (xs.length<=1000)&&pL xs)=true;rw[decide_eq_true hl,GF.mpr λx a=>(h x a).2];rfl⟩
set_option tactic.hygienic true in
def y7:∀{d:D}{n m:Nat},n<=m->d.bW n=true->d.bW m=true:=by
 intro d
 induction d using D.rec (motive_2:=λds=>∀n m,n<=m->hS ds n=true->hS ds m=true)with
 |aP=>exact λ_ h=>h
 |ay _=>exact λ_ h=>h
 |int _=>exact λ_ h=>h
 |str _=>exact λ_ h=>h
 |fn _=>exact λ_ h=>h
 |ty _=>exact λ_ h=>h
 |ref _=>exact λ_ h=>h
 |t xs b=>
  intro n m a h
  cases n with
  |zero=>cases h
  |succ n=>
   cases m with
   |zero=>omega| succ m=>exact b n m (by omega) h
 |l xs b=>
  intro n m a h
  cases n with
  |zero=>cases h
  |succ n=>
   cases m with
   |zero=>omega| succ m=>exact b n m (by omega) h
 |nil=>rfl|cons x xs c e=>
  rename_i n m a h;have h:(x.bW n&&hS xs n)=true:=h;rw[amI]at h;show(x.bW m&&hS xs m)=true;rw[c a h.1,e n m a h.2];rfl
def Am(h:Ok n d)(a:n<=m):Ok m d:=⟨y7 a h.1,h.2⟩
def Pg(h:Ok n a):Ok (n+1) (.t [a]):=qJ (by simp) λx b=>by rw[amo.mp b];exact h
def ph(c:Ok n a)(d:Ok n b):Ok (n+1) (.t [a,b]):=qJ (by simp) (by simp only[am3];exact⟨c,d,λ_ h=>nomatch h⟩)
def pj(d:Ok n a)(e:Ok n b)(f:Ok n c):Ok (n+1) (.t [a,b,c]):=qJ (by simp) (by simp only[am3];exact⟨d,e,f,λ_ h=>nomatch h⟩)
def Ak(e:Ok n a)(f:Ok n b)(g:Ok n c)(i:Ok n d):Ok (n+1) (.t [a,b,c,d]):=qJ (by simp) (by simp only[am3];exact⟨e,f,g,i,λ_ h=>nomatch h⟩)
def xr(g:Ok n a)(i:Ok n b)(j:Ok n c)(k:Ok n d)(l:Ok n e)(m:Ok n f):Ok (n+1) (.t [a,b,c,d,e,f]):=qJ (by simp) (by simp only[am3];exact⟨g,i,j,k,l,m,λ_ h=>nomatch h⟩)
def Pf:Ok (n+1) (.t []):=qJ (by simp) λ_ h=>nomatch h
def pick(P:D->Prop)(xs:List D)(c k:Int)(d:(xs.length:Int)=k)(f:0<k)(h:∀x∈xs,P x):∃v,d7 xs (c % k)=some v/\P v:=by
 have b:=mod_lt (a:=c) f;obtain⟨v,e⟩:=B0 (xs:=xs) (i:=c % k) b.1 (by rw[d];exact b.2);exact⟨v,e,h v (HB e)⟩
@[simp] theorem akz:R.kP (.cj xs)=false:=rfl
@[simp] theorem akw:R.kP (.v (.l xs))=false:=rfl
@[simp] theorem akt:R.kP (.v (.ay b))=false:=rfl
@[simp] theorem akP{z:Str}:nF [.v (.str z)]=if z.length<=ami then pure (.v (.int (z.length:Nat)))else bad:=rfl
@[simp] theorem aj9{x y:Str}:pa (.v (.str x)) (.v (.str y))=if x.length+y.length<=ami then pure (.v (.str (x++y)))else bad:=rfl
def eq_str(h:amz x=true):oEq (.v (.str x)) (.v (.str x))=pure (.v (.ay true)):=by rw[nD (x:=.v (.str x)) (y:=.v (.str x)) h h];simp[eb]
mutual
theorem As:∀{d:D}{n:Nat},d.bW n=true->eb d d=true
 |.aP,_,_=>rfl| .ay _,_,_=>by simp[eb]| .int _,_,_=>by simp[eb]| .str _,_,_=>by simp[eb]|.t xs,n,h=>by
  cases n with
  |zero=>cases h
  |succ k=>exact FO (xs:=xs) (n:=k) h
 |.l xs,n,h=>by
  cases n with
  |zero=>cases h
  |succ k=>exact FO (xs:=xs) (n:=k) h
 |.ref _,_,h=>by cases h
 |.fn _,_,h=>by cases h
 |.ty _,_,h=>by cases h
theorem FO:∀{xs:List D}{n:Nat},hS xs n=true->mW xs xs=true
 |[],_,_=>rfl|x::xs,n,h=>by
  have h:=lI.mp h;unfold mW;rw[amI];exact⟨As (h x amu),FO (lI.mpr λy a=>h y (amr _ a))⟩
end
structure c9 where
 e:Int
 p1:Int
 cz:Int
 k1:Int
 k2:Int
 a3:D
def bQ(a b:Int):D:=.t [.int a,.int b]
def dx(g:c9):D:=.t [.int g.e,bQ g.p1 g.cz,bQ g.k1 g.k2,g.a3]
def n6(l:List c9):List D:=(ki (λa b:Int=>decide (a<b)) ((l.map c9.e).zip (l.map dx))).map (·.2)
theorem N7{mf:bz}(h:∀g:c9,mf [dx g]=pure (.v (.int g.e))):∀l:List c9,keysOf fy mf (l.map dx)=some (l.map c9.e)
 |[]=>rfl|g::l=>by
  rw[amt];unfold keysOf;rw[N7 h l];have:tV fy mf (dx g)=some g.e:=by unfold tV;rw[h];rfl
  rw[this];rfl
theorem Hw:∀{l:List Int},l.Nodup->oz (λa b:Int=>decide (a<b)) l=true
 |[],_=>rfl|a::r,h=>by
  rw[ane]at h;unfold oz;rw[Hw h.2,Bool.and_true,amX];intro b c;have:a≠b:=λe=>h.1 (e▸c)
  simp only[aqE,decide_eq_true_eq];omega
def agJ{mf:bz}(h:∀g:c9,mf [dx g]=pure (.v (.int g.e))){x:R}{l:List c9}(b:x.fL=some (l.map dx))(a:(l.map c9.e).Nodup)(hl:l.length<64):mq fy mf x=pure (.fr (n6 l)):=by
 unfold mq;rw[b];dsimp only;rw[N7 h l];dsimp only;rw[if_pos ⟨Hw a,by rw[amh];exact hl⟩];rfl
theorem RU:∀l:List c9,(l.map c9.e).zip (l.map dx)=l.map λg=>(g.e,dx g)
 |[]=>rfl| g::l=>by rw[amt,amt,amt,ao7,RU l]
def agG{l c:List c9}(d:c.Perm l)(aw:c.Pairwise λa b=>a.e<b.e):n6 l=c.map dx:=by
 have f:(l.map c9.e).Nodup:=by
  have:(c.map c9.e).Nodup:=by
   rw[aoS,aoB];exact aw.imp λh=>by omega
  exact(d.map c9.e).nodup_iff.mp this
 have hz:((l.map λg=>(g.e,dx g)).map (·.1)).Nodup:=by
  rw[an3];exact f
 have one:=Gg Eh.toKeyOrd (l:=l.map λg=>(g.e,dx g)) (ps:=c.map λg=>(g.e,dx g)) hz (d.map _) (by
  rw[aoB];exact aw.imp λh=>decide_eq_true h)
 unfold n6;rw[RU];have:ki (λa b:Int=>decide (a<b)) (l.map λg=>(g.e,dx g))=c.map λg=>(g.e,dx g):=one.symm
 rw[this,an3];rfl
def putL(bk:List c9)(g:c9):List c9:=bk.filter (λh=>!(h.e==g.e))++[g]
def P4{bk:List c9}(h:(bk.map c9.e).Nodup):((putL bk g).map c9.e).Nodup:=by
 unfold putL;rw[ant,aoA];refine⟨h.sublist (apK.map _),by simp,λa f b c=>?_⟩;obtain⟨x,d,rfl⟩:=amG.mp f;have i:b=g.e:=by simpa using c
 subst i;have:=(anB.mp d).2;simpa using this
def P1(bk:List c9)(g:c9):(putL bk g).length<=bk.length+1:=by
 unfold putL;rw[amf,anl];have:=aod (λh:c9=>!(h.e==g.e)) bk;omega
def P2{bk:List c9}(h:x∈putL bk g):x∈bk\/x=g:=by
 unfold putL at h;rcases amF.mp h with h|h
 .exact .inl (anB.mp h).1
 .exact .inr (amo.mp h)
def lu(bk:List c9):Prop:=bk.Pairwise λa b=>a.e<b.e
def lu.nodup{bk:List c9}(h:lu bk):(bk.map c9.e).Nodup:=by
 rw[aoS,aoB];exact aq1 (λh=>by omega) h
def find_eq{bk:List c9}{e:Int}{g:c9}(h:bk.find? (λx=>x.e==e)=some g):g.e=e/\g∈bk:=⟨by have:=aov h;simpa using this,anC h⟩
def blank(e:Int):c9:=⟨e,0,0,0,0,.aP⟩
def eV(bk:List c9)(e:Int):c9:=(bk.find? (λx=>x.e==e)).getD (blank e)
def PD(bk:List c9)(e:Int):(eV bk e).e=e:=by
 unfold eV
 cases h:bk.find? (λx=>x.e==e)with
 |none=>rfl|some g=>exact(find_eq h).1
@[simp] theorem akb{g:List Int->List Int->Bool}{a b c d:Int}:lS g (.v (bQ a b)) (.v (bQ c d))=pure (.v (.ay (g [a,b] [c,d]))):=rfl
@[simp] theorem aln:rn Z mf ma U=(do
 let x <-ma U
 mq Z mf x):=rfl
def P6{bk:List c9}(n:lu bk)(g:c9):∃d,lu d/\n6 (putL bk g)=d.map dx/\(∀x,x∈d↔x∈putL bk g)/\d.length<=bk.length+1:=by
 have f:=List.mergeSort_perm (putL bk g) (λa b=>decide (a.e<=b.e));have aw:=List.pairwise_mergeSort (le:=λa b:c9=>decide (a.e<=b.e)) (λa b c k m=>by
  have:=of_decide_eq_true k;have:=of_decide_eq_true m;exact decide_eq_true (by omega)) (λa b=>by simp only[aqE,decide_eq_true_eq];omega) (putL bk g)
 generalize(putL bk g).mergeSort (λa b=>decide (a.e<=b.e))=d at f aw;have i:(d.map c9.e).Nodup:=(f.map c9.e).nodup_iff.mpr (P4 n.nodup);have rise:lu d:=by
  unfold lu;clear f
  induction d with
  |nil=>exact .nil|cons x l o=>
   rw[amt,ane]at i;rw[anV]at aw ⊢;refine⟨λy j=>?_,o aw.2 i.2⟩;have k:=of_decide_eq_true (aw.1 y j);have m:x.e≠y.e:=λh=>i.1 (by rw[h];exact aop j)
   omega
 exact⟨d,rise,agG f rise,λx=>f.mem_iff,by rw[f.length_eq];exact P1 bk g⟩
end az
namespace az
open PySem PySem.Spec aC PyProof.Rows
section
variable{Q:anL}[DecidableEq Q.α]
def lx(Q:anL)(l:List (Q.α×D)):Prop:=l.Pairwise λa b=>Q.blt a.1 b.1=true
def lx.nodup{l:List (Q.α×D)}(h:lx Q l):(l.map (·.1)).Nodup:=by
 rw[aoS,aoB];refine aq1 (λ{a b} h e=>?_) h;rw[e,Q.irrefl]at h;cases h
def jy(l:List (Q.α×D))(a:Q.α):List (Q.α×D):=l.filter λq=>!decide (q.1=a)
def mX(l:List (Q.α×D))(p:Q.α×D):List (Q.α×D):=jy l p.1++[p]
def kb(l:List (Q.α×D))(p:Q.α×D):List (Q.α×D):=ki Q.blt (mX l p)
def fv(l:List (Q.α×D))(a:Q.α):Option D:=(l.find? λq=>decide (q.1=a)).map (·.2)
def LW{l:List (Q.α×D)}(a:Q.α)(h:(l.map (·.1)).Nodup):((jy l a).map (·.1)).Nodup:=h.sublist (apK.map _)
def vX{l:List (Q.α×D)}{a:Q.α}{x:Q.α×D}:x∈jy l a↔x∈l/\x.1≠a:=by
 unfold jy;rw[anB];simp
def CY(l:List (Q.α×D))(a:Q.α):(jy l a).length<=l.length:=aod _ _
def FX{l:List (Q.α×D)}(p:Q.α×D)(h:(l.map (·.1)).Nodup):((mX l p).map (·.1)).Nodup:=by
 unfold mX;rw[ant,aoA];refine⟨LW _ h,by simp,λa e b c=>?_⟩;obtain⟨x,d,rfl⟩:=amG.mp e;rw[show b=p.1 by simpa using c];exact(vX.mp d).2
def FW{l:List (Q.α×D)}{p x:Q.α×D}:x∈mX l p↔(x∈l/\x.1≠p.1)\/x=p:=by
 unfold mX;rw[amF,vX,amo]
def P5(l:List (Q.α×D))(p:Q.α×D):(mX l p).length<=l.length+1:=by
 unfold mX;rw[amf,anl];have:=CY l p.1;omega
def FY{l:List (Q.α×D)}(p:Q.α×D)(h:(l.map (·.1)).Nodup):lx Q (kb l p):=Gf Q _ (FX p h)
def uQ{l:List (Q.α×D)}{p x:Q.α×D}:x∈kb l p↔(x∈l/\x.1≠p.1)\/x=p:=by
 unfold kb;rw[(AG _ _).mem_iff,FW]
def VN{l:List (Q.α×D)}(b:(l.map (·.1)).Nodup)(a:x∈l):l.find? (λq=>decide (q.1=x.1))=some x:=by
 induction l with
 |nil=>cases a
 |cons y l c=>
  rw[amt,ane]at b;rcases amw.mp a with rfl|a
  .rw[anO (by simp)]
  .have d:¬y.1=x.1:=λh=>b.1 (by rw[h];exact aop a)
   rw[anP (by simpa using d)];exact c b.2 a
def Wn{l:List (Q.α×D)}(a:(l.map (·.1)).Nodup)(b:x∈l):fv l x.1=some x.2:=by
 unfold fv;rw[VN a b];rfl
def y_{l:List (Q.α×D)}{a:Q.α}{d:D}(h:fv l a=some d):(a,d)∈l:=by
 unfold fv at h;obtain⟨x,b,rfl⟩:=aoa.mp h;have c:=anC b;have e:x.1=a:=by have:=aov b;simpa using this
 rw[<-e];exact c
def Mt{l:List (Q.α×D)}(b:(l.map (·.1)).Nodup):fv l a=some d↔(a,d)∈l:=⟨y_,λh=>Wn b h⟩
def Wm{l b:List (Q.α×D)}{o:Option D}(c:(b.map (·.1)).Nodup)(h:∀d,(a,d)∈b↔o=some d):fv b a=o:=by
 cases o with
 |some d=>exact(Mt c).mpr ((h d).mpr rfl)|none=>
  cases e:fv b a with
  |none=>rfl|some d=>exact((h d).mp (y_ e)).symm
def Wo{l:List (Q.α×D)}(p:Q.α×D)(b:(l.map (·.1)).Nodup)(a:Q.α):fv (kb l p) a=if a=p.1 then some p.2 else fv l a:=
 Wm (l:=l) (FY p b).nodup fun d=>by
  rw[uQ]
  by_cases e:a=p.1
  .rw[if_pos e]
   constructor
   .rintro(⟨_,h⟩|h)
    .exact absurd e h
    .rw[<-h]
   .intro h
    refine .inr ?_;cases p;cases h;rw[e]
  .rw[if_neg e,Mt b]
   constructor
   .rintro(⟨h,_⟩|h)
    .exact h
    .rw[<-h]at e;exact absurd rfl e
   .exact λh=>.inl ⟨h,e⟩
def LX(b:Q.α)(h:lx Q l):lx Q (jy l b):=List.Pairwise.sublist apK h
def agF(h:lx Q l):ki Q.blt l=l:=(Gg Q h.nodup (.refl _) h).symm
def SK(h:l.Nodup):oz Q.blt l=true:=by
 induction l with
 |nil=>rfl|cons a r c=>
  rw[ane]at h;unfold oz;rw[c h.2,Bool.and_true,amX];intro b d
  cases ao:Q.blt a b with
  |true=>rfl|false=>
   cases aA:Q.blt b a with
   |true=>rfl|false=>exact absurd (Q.total a b ao aA▸d) h.1
end
section
variable{Z:i'}[DecidableEq Z.κ.α]
theorem N8(b:∀a,Z.un (Z.kd a)=some a){mf:bz}:∀{l:List (Z.κ.α×D)},(∀x∈l,mf [x.2]=pure (.v (Z.kd x.1)))->keysOf Z mf (l.map (·.2))=some (l.map (·.1))
 |[],_=>rfl|x::l,h=>by
  have e:tV Z mf x.2=some x.1:=by
   unfold tV;rw[h x amu];exact b x.1
  rw[amt,amt];unfold keysOf;rw[e,N8 b λy c=>h y (amr _ c)]
theorem zip_rows{α a:Type}:∀l:List (α×a),(l.map (·.1)).zip (l.map (·.2))=l
 |[]=>rfl| x::l=>by rw[amt,amt,ao7,zip_rows l]
def Gh(d:∀a,Z.un (Z.kd a)=some a){mf:bz}{l:List (Z.κ.α×D)}(h:∀x∈l,mf [x.2]=pure (.v (Z.kd x.1))){r:R}(c:r.fL=some (l.map (·.2)))(b:(l.map (·.1)).Nodup)(hl:l.length<64) :
  mq Z mf r=pure (.fr ((ki Z.κ.blt l).map (·.2))):=by
 unfold mq;rw[c];dsimp only;rw[N8 d h];dsimp only;rw[if_pos ⟨SK (Q:=Z.κ.toKeyOrd) b,by rw[amh];exact hl⟩,zip_rows]
end
end az
namespace az
open PySem PySem.Spec aC
abbrev fe:=mI.κ.toKeyOrd
def bI(a:List Nat):Str:=⟨a.toArray⟩
abbrev cd(s:Str):List Nat:=s.cps.toList
def JN(a:List Nat):cd (bI a)=a:=rfl
def Rd(a:List Nat):mI.un (mI.kd a)=some a:=rfl
def aay(a:List Nat):mI.kd a=.str (bI a):=rfl
def Rb:bI a=bI b↔a=b:=⟨λh=>by rw[<-JN a,h,JN],λh=>by rw[h]⟩
def VA(d:amz (bI a)=true)(c:amz (bI b)=true):oEq (.v (.str (bI a))) (.v (.str (bI b)))=pure (.v (.ay (decide (a=b)))):=by
 rw[nD (x:=.v (.str (bI a))) (y:=.v (.str (bI b))) d c];show pure (R.v (D.ay (bI a==bI b)))=_
 congr 3
 rw[an1,beq_iff_eq,decide_eq_true_eq,Rb]
def adA(d:amz (bI a)=true)(c:amz (bI b)=true):ea (.v (.str (bI a))) (.v (.str (bI b)))=pure (.v (.ay (!decide (a=b)))):=by
 rw[rx (x:=.v (.str (bI a))) (y:=.v (.str (bI b))) d c];show pure (R.v (D.ay (!(bI a==bI b))))=_
 congr 4
 rw[an1,beq_iff_eq,decide_eq_true_eq,Rb]
def md(a:List Nat):Prop:=amz (bI a)=true/\1<=a.length/\a.length<=8
def agT:amz (bI a)=true↔∀c∈a,c<0x110000:=by
 unfold amz bI;rw[List.all_toArray,amX];simp
def pF(a:List Nat):(bI a).length=a.length:=by
 show a.toArray.size=_;simp
def ahS(a b:List Nat):bI a++bI b=bI (a++b):=by
 show(⟨a.toArray++b.toArray⟩:Str)=_;unfold bI;simp
def U5(a:List Nat)(lo hi:Option Int):p' (bI a) lo hi=bI (cutD a lo hi):=rfl
def U9{α:Type}(xs:List α)(k:Nat)(h:k<=xs.length):cutD xs none (some (k:Int))=xs.take k:=by
 unfold cutD;rw[dg.AB,dg.AD,apN,Nat.sub_zero,aoZ h]
def U_{α:Type}(xs:List α)(k:Nat)(h:k<=xs.length):cutD xs (some (k:Int)) none=xs.drop k:=by
 unfold cutD;rw[dg.AB,dg.AD,aoZ h,anw (by rw[ank];omega)]
def ack:(("add":Str) == "put")=false:=by decide +kernel
def adw:(("swap":Str) == "put")=false:=by decide +kernel
def adv:(("swap":Str) == "add")=false:=by decide +kernel
def ady:(("take":Str) == "put")=false:=by decide +kernel
def adx:(("take":Str) == "add")=false:=by decide +kernel
def adz:(("take":Str) == "swap")=false:=by decide +kernel
def adk:(("renew":Str) == "put")=false:=by decide +kernel
def adj:(("renew":Str) == "add")=false:=by decide +kernel
def adl:(("renew":Str) == "swap")=false:=by decide +kernel
def adm:(("renew":Str) == "take")=false:=by decide +kernel
def ac6:(("free":Str) == "put")=false:=by decide +kernel
def ac5:(("free":Str) == "add")=false:=by decide +kernel
def ac8:(("free":Str) == "swap")=false:=by decide +kernel
def ac9:(("free":Str) == "take")=false:=by decide +kernel
def ac7:(("free":Str) == "renew")=false:=by decide +kernel
def adq:(("sure":Str) == "put")=false:=by decide +kernel
def ado:(("sure":Str) == "add")=false:=by decide +kernel
def adt:(("sure":Str) == "swap")=false:=by decide +kernel
def adu:(("sure":Str) == "take")=false:=by decide +kernel
def ads:(("sure":Str) == "renew")=false:=by decide +kernel
def adp:(("sure":Str) == "free")=false:=by decide +kernel
def ade:(("move":Str) == "put")=false:=by decide +kernel
def ada:(("move":Str) == "add")=false:=by decide +kernel
def adh:(("move":Str) == "swap")=false:=by decide +kernel
def adi:(("move":Str) == "take")=false:=by decide +kernel
def adf:(("move":Str) == "renew")=false:=by decide +kernel
def adb:(("move":Str) == "free")=false:=by decide +kernel
def adg:(("move":Str) == "sure")=false:=by decide +kernel
def ac0:(("end":Str) == "put")=false:=by decide +kernel
def acX:(("end":Str) == "add")=false:=by decide +kernel
def ac3:(("end":Str) == "swap")=false:=by decide +kernel
def ac4:(("end":Str) == "take")=false:=by decide +kernel
def ac1:(("end":Str) == "renew")=false:=by decide +kernel
def acY:(("end":Str) == "free")=false:=by decide +kernel
def ac2:(("end":Str) == "sure")=false:=by decide +kernel
def acZ:(("end":Str) == "move")=false:=by decide +kernel
def acm:(("do_add":Str) == "do_put")=false:=by decide +kernel
def acT:(("do_swap":Str) == "do_put")=false:=by decide +kernel
def acS:(("do_swap":Str) == "do_add")=false:=by decide +kernel
def acV:(("do_take":Str) == "do_put")=false:=by decide +kernel
def acU:(("do_take":Str) == "do_add")=false:=by decide +kernel
def acW:(("do_take":Str) == "do_swap")=false:=by decide +kernel
def acJ:(("do_renew":Str) == "do_put")=false:=by decide +kernel
def acI:(("do_renew":Str) == "do_add")=false:=by decide +kernel
def acK:(("do_renew":Str) == "do_swap")=false:=by decide +kernel
def acL:(("do_renew":Str) == "do_take")=false:=by decide +kernel
def acx:(("do_free":Str) == "do_put")=false:=by decide +kernel
def acw:(("do_free":Str) == "do_add")=false:=by decide +kernel
def acz:(("do_free":Str) == "do_swap")=false:=by decide +kernel
def acA:(("do_free":Str) == "do_take")=false:=by decide +kernel
def acy:(("do_free":Str) == "do_renew")=false:=by decide +kernel
def acO:(("do_sure":Str) == "do_put")=false:=by decide +kernel
def acM:(("do_sure":Str) == "do_add")=false:=by decide +kernel
def acQ:(("do_sure":Str) == "do_swap")=false:=by decide +kernel
def acR:(("do_sure":Str) == "do_take")=false:=by decide +kernel
def acP:(("do_sure":Str) == "do_renew")=false:=by decide +kernel
def acN:(("do_sure":Str) == "do_free")=false:=by decide +kernel
def acD:(("do_move":Str) == "do_put")=false:=by decide +kernel
def acB:(("do_move":Str) == "do_add")=false:=by decide +kernel
def acG:(("do_move":Str) == "do_swap")=false:=by decide +kernel
def acH:(("do_move":Str) == "do_take")=false:=by decide +kernel
def acE:(("do_move":Str) == "do_renew")=false:=by decide +kernel
def acC:(("do_move":Str) == "do_free")=false:=by decide +kernel
def acF:(("do_move":Str) == "do_sure")=false:=by decide +kernel
def acq:(("do_end":Str) == "do_put")=false:=by decide +kernel
def acn:(("do_end":Str) == "do_add")=false:=by decide +kernel
def acu:(("do_end":Str) == "do_swap")=false:=by decide +kernel
def acv:(("do_end":Str) == "do_take")=false:=by decide +kernel
def acr:(("do_end":Str) == "do_renew")=false:=by decide +kernel
def aco:(("do_end":Str) == "do_free")=false:=by decide +kernel
def acs:(("do_end":Str) == "do_sure")=false:=by decide +kernel
def acp:(("do_end":Str) == "do_move")=false:=by decide +kernel
end az
namespace ed
open PySem PySem.Spec aC az
def pU(x:Int×D):Prop:=∃n z:D,x.2=.t [.int x.1,n,z]
def pU.fb{x:Int×D}(h:pU x):eC (.v x.2) (.v (.int 0))=pure (.v (.int x.1)):=by
 obtain⟨n,z,e⟩:=h;rw[e];simp
def pU.slot{x:Int×D}(h:pU x):cf x.2=.v x.2:=by
 obtain⟨n,z,e⟩:=h;rw[e];rfl
def CV{l:List (Int×D)}(h:∀x∈l,pU x)(c le aS:D)(a:Int):qz [.t [c,.t (l.map (·.2)),le,aS],.int a]=pure (.v ((fv (Q:=fy.κ.toKeyOrd) l a).getD (.t [.int a,.int 0,.aP]))):=by
 have L:=tx (b:=λd U=>zC (U.set 2 (.v d))) (λx:Int×D=>x.2) (λx=>decide (x.1=a)) (λx=>.v x.2) (λU=>∃s2,U=[.v (.t [c,.t (l.map (·.2)),le,aS]),.v (.int a),s2]) l [.v (.t [c,.t (l.map (·.2)),le,aS]),.v (.int a),.e] ⟨_,rfl⟩
  (λx U g ⟨s2,f⟩=>by
   subst f;have fb:=(h x g).fb;refine⟨λq=>?_,λq=>⟨[.v (.t [c,.t (l.map (·.2)),le,aS]),.v (.int a),.v x.2],?_,_,rfl⟩⟩
   .have q:x.1=a:=of_decide_eq_true q
    simp only[zC];simp[fb,q]
   .have q:¬x.1=a:=of_decide_eq_false q
    simp only[zC];simp[fb,q])
 simp only[qz,Ib,Ic];unfold fv
 cases e:l.find? (λx=>decide (x.1=a))with
 |some x=>
  have:=L.1 x e;simp[this]
 |none=>
  obtain⟨U',i,s2,rfl⟩:=L.2 e;simp[i]
def Og{x:Int×D}(h:pU x):fnOf 1 1 (a9 (aI 0 0)) [x.2]=pure (.v (.int x.1)):=by
 have:=h.fb;simp[h.slot,this]
def aiK{l:List (Int×D)}(h:∀x∈l,pU x)(d:(l.map (·.1)).Nodup)(hl:l.length<63)(c le aS:D)(a:Int)(n z:D)(aw:cf n=.v n)(hz:cf z=.v z) :
  z2 [.t [c,.t (l.map (·.2)),le,aS],.int a,n,z]=pure (.v (.t [c,.t ((kb (Q:=fy.κ.toKeyOrd) l (a,.t [.int a,n,z])).map (·.2)),le,aS])):=by
 have bh:gP (aR (ak ea (aI 0 0) (J 1))) (J 0) [.e,.v (.int a)] (l.map (·.2))=pure ((jy (Q:=fy.κ.toKeyOrd) l a).map (·.2)):=
  oG (λx:Int×D=>x.2) (λx=>!decide (x.1=a)) (λx=>x.2) l (λx b=>by
   have fb:=(h x b).fb;simp[fb];rfl) λx _ _=>by simp
 have g:l.length<ami:=gD (by omega);have dl:=CY (Q:=fy.κ.toKeyOrd) l a;have f:(jy (Q:=fy.κ.toKeyOrd) l a).length<ami:=gD (by omega);have dJ:=Gh (Z:=fy) (λ_=>rfl) (mf:=fnOf 1 1 (a9 (aI 0 0))) (l:=mX (Q:=fy.κ.toKeyOrd) l (a,.t [.int a,n,z])) (λx b=>by
  rcases(FW (Q:=fy.κ.toKeyOrd)).mp b with⟨b,_⟩|rfl
  .exact Og (h x b)
  .exact Og ⟨n,z,rfl⟩) (r:=.mv ((jy (Q:=fy.κ.toKeyOrd) l a).map (·.2)++[.t [.int a,n,z]])) (by
   show some _=some _;unfold mX;rw[ant];rfl) (FX _ d) (by have:=P5 (Q:=fy.κ.toKeyOrd) l (a,.t [.int a,n,z]);omega)
 have i:∀(ma:bp)(U:aL)(mf:bz),rn fy mf ma U=(do let x <-ma U;mq fy mf x):=λ_ _ _=>rfl
 simp only[z2,Jl,Jm,Jn];unfold kb;simp[aw,hz,bh,g,f,dJ,i]
abbrev sX:=List (List Nat×D)
def l7(x:List Nat×D):Prop:=md x.1/\∃n:Int,n≠0/\x.2=.t [.str (bI x.1),.int n]
def l7.fb(h:l7 x):eC (.v x.2) (.v (.int 0))=pure (.v (.str (bI x.1))):=by
 obtain⟨_,n,_,e⟩:=h;rw[e];simp
def l7.slot(h:l7 x):cf x.2=.v x.2:=by
 obtain⟨_,n,_,e⟩:=h;rw[e];rfl
def lG:Option D->Int
 |some (.t [_,.int n])=>n|_=>0
def CI{l:sX}(h:∀x∈l,l7 x)(d le aS:D)(g:md a):ub [.t [.t (l.map (·.2)),d,le,aS],.str (bI a)]=pure (.v (.int (lG (fv (Q:=fe) l a)))):=by
 have L:=tx (b:=λd U=>zB (U.set 2 (.v d))) (λx:List Nat×D=>x.2) (λx=>decide (x.1=a)) (λx=>.v (.int (lG (some x.2)))) (λU=>∃s2,U=[.v (.t [.t (l.map (·.2)),d,le,aS]),.v (.str (bI a)),s2]) l [.v (.t [.t (l.map (·.2)),d,le,aS]),.v (.str (bI a)),.e] ⟨_,rfl⟩
  (λx U c ⟨s2,f⟩=>by
   subst f;have fb:=(h x c).fb;have eq:=VA (h x c).1.1 g.1;obtain⟨_,n,_,e⟩:=h x c;refine⟨λq=>?_,λq=>⟨[.v (.t [.t (l.map (·.2)),d,le,aS]),.v (.str (bI a)),.v x.2],?_,_,rfl⟩⟩
   .rw[q]at eq
    simp only[zB];rw[e]at fb ⊢;simp[fb,eq,lG]
   .rw[q]at eq
    simp only[zB];simp[fb,eq])
 simp only[ub,H5,H6];unfold fv
 cases e:l.find? (λx=>decide (x.1=a))with
 |some x=>
  have:=L.1 x e;simp[this]
 |none=>
  obtain⟨U',i,s2,rfl⟩:=L.2 e;simp[i,lG]
def EI(h:l7 x):fnOf 1 1 (a9 (aI 0 0)) [x.2]=pure (.v (mI.kd x.1)):=by
 have:=h.fb;rw[aay];simp[h.slot,this]
def k_(l:sX)(a:List Nat)(n:Int):sX:=if n=0 then jy (Q:=fe) l a else kb (Q:=fe) l (a,.t [.str (bI a),.int n])
def aib(h:lx fe l)(a:List Nat)(n:Int):lx fe (k_ l a n):=by
 unfold k_;split
 .exact LX a h
 .exact FY _ h.nodup
def aic(h:∀x∈l,l7 x)(c:md a)(n:Int):∀x∈k_ l a n,l7 x:=λx b=>by
 unfold k_ at b;split at b
 .exact h x ((vX (Q:=fe)).mp b).1
 .rename_i q
  rcases(uQ (Q:=fe)).mp b with⟨b,_⟩|rfl
  .exact h x b
  .exact⟨c,n,q,rfl⟩
def A7{l:sX}(h:∀x∈l,l7 x)(c:lx fe l)(hl:l.length<63)(d le aS:D)(f:md a)(n:Int) :
  r_ [.t [.t (l.map (·.2)),d,le,aS],.str (bI a),.int n]=pure (.v (.t [.t ((k_ l a n).map (·.2)),d,le,aS])):=by
 have bh:gP (aR (ak ea (aI 0 0) (J 1))) (J 0) [.e,.v (.str (bI a))] (l.map (·.2))=pure ((jy (Q:=fe) l a).map (·.2)):=
  oG (λx:List Nat×D=>x.2) (λx=>!decide (x.1=a)) (λx=>x.2) l (λx b=>by
   have fb:=(h x b).fb;have ne:=adA (h x b).1.1 f.1;simp[fb,ne]) λx _ _=>by simp
 have i:l.length<ami:=gD (by omega);have dl:=CY (Q:=fe) l a;have g:(jy (Q:=fe) l a).length<ami:=gD (by omega);have j:∀(ma:bp)(U:aL)(mf:bz),rn mI mf ma U=(do let x <-ma U;mq mI mf x):=λ_ _ _=>rfl
 simp only[r_,Ji,Jj,Jk];unfold k_
 by_cases q:n=0
 .have dJ:=Gh (Z:=mI) Rd (mf:=fnOf 1 1 (a9 (aI 0 0))) (l:=jy (Q:=fe) l a) (λx b=>EI (h x ((vX (Q:=fe)).mp b).1)) (r:=.mv ((jy (Q:=fe) l a).map (·.2))) rfl (LW a c.nodup) (by omega)
  rw[agF (Q:=fe) (LX a c)]at dJ;rw[if_pos q];simp[q,bh,i,g,dJ,j]
 .have dJ:=Gh (Z:=mI) Rd (mf:=fnOf 1 1 (a9 (aI 0 0))) (l:=mX (Q:=fe) l (a,.t [.str (bI a),.int n])) (λx b=>by
   rcases(FW (Q:=fe)).mp b with⟨b,_⟩|rfl
   .exact EI (h x b)
   .exact EI ⟨f,n,q,rfl⟩) (r:=.mv ((jy (Q:=fe) l a).map (·.2)++[.t [.str (bI a),.int n]])) (by
    show some _=some _;unfold mX;rw[ant];rfl) (FX _ c.nodup) (by have:=P5 (Q:=fe) l (a,.t [.str (bI a),.int n]);omega)
  rw[if_neg q];unfold kb;simp[q,bh,i,g,dJ,j]
def aiL(c d le aS f t:D)(b:cf f=.v f)(a:cf t=.v t):z3 [.t [c,d,le,aS],f,t]=pure (.v (.t [c,d,.t [f,t],aS])):=by
 simp[z3,Jo,b,a]
def GG(c d le aS s:D)(aw:cf s=.v s):ur [.t [c,d,le,aS],s]=pure (.v (.t [c,d,le,s])):=by
 simp[ur,Js,aw]
def mi(x:D)(ds:List D):d7 (x::ds) 0=some x:=lD 0 rfl
def ahu:hF.lookup ("put":Str)=some ("do_put":Str):=by
 unfold hF;simp only[amy,beq_self_eq_true]
def VW:ic.lookup ("do_put":Str)=some w5:=by
 unfold ic;simp only[amy,beq_self_eq_true]
def aes{s a r:D}(aw:cf s=.v s)(b:cf a=.v a)(h:w5 [s,a,.t (.str "put"::ds)]=pure (.v r)):fo [s,a,.t (.str "put"::ds)]=pure (.v r):=by
 simp only[fo,nv,nx];simp[aw,b,mi,ahu,VW,h]
def ahq:hF.lookup ("add":Str)=some ("do_add":Str):=by
 unfold hF;simp only[amy,beq_self_eq_true,ack]
def VS:ic.lookup ("do_add":Str)=some w2:=by
 unfold ic;simp only[amy,beq_self_eq_true,acm]
def aek{s a r:D}(aw:cf s=.v s)(b:cf a=.v a)(h:w2 [s,a,.t (.str "add"::ds)]=pure (.v r)):fo [s,a,.t (.str "add"::ds)]=pure (.v r):=by
 simp only[fo,nv,nx];simp[aw,b,mi,ahq,VS,h]
def ahx:hF.lookup ("swap":Str)=some ("do_swap":Str):=by
 unfold hF;simp only[amy,beq_self_eq_true,adw,adv]
def VZ:ic.lookup ("do_swap":Str)=some uf:=by
 unfold ic;simp only[amy,beq_self_eq_true,acT,acS]
def aew{s a r:D}(aw:cf s=.v s)(b:cf a=.v a)(h:uf [s,a,.t (.str "swap"::ds)]=pure (.v r)):fo [s,a,.t (.str "swap"::ds)]=pure (.v r):=by
 simp only[fo,nv,nx];simp[aw,b,mi,ahx,VZ,h]
def ahy:hF.lookup ("take":Str)=some ("do_take":Str):=by
 unfold hF;simp only[amy,beq_self_eq_true,ady,adx,adz]
def V0:ic.lookup ("do_take":Str)=some ug:=by
 unfold ic;simp only[amy,beq_self_eq_true,acV,acU,acW]
def aex{s a r:D}(aw:cf s=.v s)(b:cf a=.v a)(h:ug [s,a,.t (.str "take"::ds)]=pure (.v r)):fo [s,a,.t (.str "take"::ds)]=pure (.v r):=by
 simp only[fo,nv,nx];simp[aw,b,mi,ahy,V0,h]
def ahv:hF.lookup ("renew":Str)=some ("do_renew":Str):=by
 unfold hF;simp only[amy,beq_self_eq_true,adk,adj,adl,adm]
def VX:ic.lookup ("do_renew":Str)=some ud:=by
 unfold ic;simp only[amy,beq_self_eq_true,acJ,acI,acK,acL]
def aet{s a r:D}(aw:cf s=.v s)(b:cf a=.v a)(h:ud [s,a,.t (.str "renew"::ds)]=pure (.v r)):fo [s,a,.t (.str "renew"::ds)]=pure (.v r):=by
 simp only[fo,nv,nx];simp[aw,b,mi,ahv,VX,h]
def ahs:hF.lookup ("free":Str)=some ("do_free":Str):=by
 unfold hF;simp only[amy,beq_self_eq_true,ac6,ac5,ac8,ac9,ac7]
def VU:ic.lookup ("do_free":Str)=some uc:=by
 unfold ic;simp only[amy,beq_self_eq_true,acx,acw,acz,acA,acy]
def aep{s a r:D}(aw:cf s=.v s)(b:cf a=.v a)(h:uc [s,a,.t (.str "free"::ds)]=pure (.v r)):fo [s,a,.t (.str "free"::ds)]=pure (.v r):=by
 simp only[fo,nv,nx];simp[aw,b,mi,ahs,VU,h]
def ahw:hF.lookup ("sure":Str)=some ("do_sure":Str):=by
 unfold hF;simp only[amy,beq_self_eq_true,adq,ado,adt,adu,ads,adp]
def VY:ic.lookup ("do_sure":Str)=some ue:=by
 unfold ic;simp only[amy,beq_self_eq_true,acO,acM,acQ,acR,acP,acN]
def aev{s a r:D}(aw:cf s=.v s)(b:cf a=.v a)(h:ue [s,a,.t (.str "sure"::ds)]=pure (.v r)):fo [s,a,.t (.str "sure"::ds)]=pure (.v r):=by
 simp only[fo,nv,nx];simp[aw,b,mi,ahw,VY,h]
def aht:hF.lookup ("move":Str)=some ("do_move":Str):=by
 unfold hF;simp only[amy,beq_self_eq_true,ade,ada,adh,adi,adf,adb,adg]
def VV:ic.lookup ("do_move":Str)=some w4:=by
 unfold ic;simp only[amy,beq_self_eq_true,acD,acB,acG,acH,acE,acC,acF]
def aeq{s a r:D}(aw:cf s=.v s)(b:cf a=.v a)(h:w4 [s,a,.t (.str "move"::ds)]=pure (.v r)):fo [s,a,.t (.str "move"::ds)]=pure (.v r):=by
 simp only[fo,nv,nx];simp[aw,b,mi,aht,VV,h]
def ahr:hF.lookup ("end":Str)=some ("do_end":Str):=by
 unfold hF;simp only[amy,beq_self_eq_true,ac0,acX,ac3,ac4,ac1,acY,ac2,acZ]
def VT:ic.lookup ("do_end":Str)=some w3:=by
 unfold ic;simp only[amy,beq_self_eq_true,acq,acn,acu,acv,acr,aco,acs,acp]
def aen{s a r:D}(aw:cf s=.v s)(b:cf a=.v a)(h:w3 [s,a,.t (.str "end"::ds)]=pure (.v r)):fo [s,a,.t (.str "end"::ds)]=pure (.v r):=by
 simp only[fo,nv,nx];simp[aw,b,mi,ahr,VT,h]
section
variable{l:sX}(h:∀x∈l,l7 x)(aE:lx fe l)(hl:l.length<63)(d le aS:D){a:List Nat}(au:md a)(n i:Int)
include h aE hl au
theorem aeD:fo [.t [.t (l.map (·.2)),d,le,aS],.int i,.t [.str "put",.str (bI a),.int n]]=pure (.v (.t [.t [.t ((k_ l a n).map (·.2)),d,le,aS],.int (lG (fv (Q:=fe) l a))])):=
 aes rfl rfl (by
  have ao:=A7 h aE hl d le aS au n;have aA:=CI h d le aS au;simp[w5,Ia,ao,aA])
theorem aez:fo [.t [.t (l.map (·.2)),d,le,aS],.int i,.t [.str "add",.str (bI a),.int n]]=pure (.v (.t [.t [.t ((k_ l a (lG (fv (Q:=fe) l a)+n)).map (·.2)),d,le,aS],.int (lG (fv (Q:=fe) l a)+n)])):=
 aek rfl rfl (by
  have ao:=A7 h aE hl d le aS au (lG (fv (Q:=fe) l a)+n);have aA:=CI h d le aS au;simp[w2,H7,H8,ao,aA])
theorem aeG(o:Int):fo [.t [.t (l.map (·.2)),d,le,aS],.int i,.t [.str "swap",.str (bI a),.int o,.int n]]=pure (.v (if lG (fv (Q:=fe) l a)=o then .t [.t [.t ((k_ l a n).map (·.2)),d,le,aS],.int 1]else .t [.t [.t (l.map (·.2)),d,le,aS],.int 0])):=
 aew rfl rfl (by
  have ao:=A7 h aE hl d le aS au n;have aA:=CI h d le aS au
  by_cases q:lG (fv (Q:=fe) l a)=o
  .rw[if_pos q]
   simp[uf,Cd,Ce,ao,aA,q]
  .rw[if_neg q]
   simp[uf,Cd,Ce,ao,aA,q])
theorem aeF(f g:Int)(t:D)(b:t.bW 63=true):fo [.t [.t (l.map (·.2)),d,.t [.int f,t],aS],.int i,.t [.str "sure",.int g,.str (bI a),.int n]]=pure (.v (if(f==g&&eb t (.int i))=true then .t [.t [.t ((k_ l a n).map (·.2)),d,.t [.int f,t],aS],.int 1]else .t [.t [.t (l.map (·.2)),d,.t [.int f,t],aS],.int 0])):=
 aev rfl rfl (by
  have ao:=A7 h aE hl d (.t [.int f,t]) aS au n;have ne:ea (.v (.t [.int f,t])) (.v (.t [.int g,.int i]))=pure (.v (.ay (!(f==g&&eb t (.int i))))):=by
   rw[rx (x:=.v (.t [.int f,t])) (y:=.v (.t [.int g,.int i])) (lI.mpr (by simp only[am3];exact⟨rfl,b,λ_ h=>nomatch h⟩)) rfl];simp[eb,mW]
  cases q:(f==g&&eb t (.int i))with
  |true=>
   rw[q]at ne;simp[ue,Cb,Cc,jK,nt,ao,ne]
  |false=>
   rw[q]at ne;simp[ue,Cb,Cc,jK,nt,ao,ne])
end
section
variable(c d le aS:D)(i:Int)
def aeC(z:D)(hz:cf z=.v z):fo [.t [c,d,le,aS],.int i,.t [.str "move",z]]=pure (.v (.t [.t [c,d,le,z],.int 1])):=
 aeq rfl rfl (by simp[w4,H_,GG c d le aS z hz])
def aeA:fo [.t [c,d,le,aS],.int i,.t [.str "end"]]=pure (.v (.t [.t [c,d,le,.str "over"],.int 1])):=
 aen rfl rfl (by simp[w3,H9,GG c d le aS (.str "over") rfl])
variable(f g:Int)(t:D)(bC:t.bW 63=true)
def Fn:uo [.t [c,d,.t [.int f,t],aS]]=pure (.v (.t [.t [c,d,.t [.int f,t],aS],.t [.int 0,.int f,t]])):=by
 simp[uo,Ja,Jb,jK,nt]
def EK(u:D)(a:cf u=.v u):uk [.t [c,d,.t [.int f,t],aS],.int g,u]=pure (.v (.t [.t [c,d,.t [.int (g+1),u],aS],.t [.int 1,.int (g+1),u]])):=by
 simp[uk,IZ,aiL c d (.t [.int f,t]) aS (.int (g+1)) u rfl a,a]
def aeH:fo [.t [c,d,.t [.int f,t],aS],.int i,.t [.str "take",.int g]]=pure (.v (if f=g then .t [.t [c,d,.t [.int (g+1),.int i],aS],.t [.int 1,.int (g+1),.int i]]else .t [.t [c,d,.t [.int f,t],aS],.t [.int 0,.int f,t]])):=
 aex rfl rfl (by
  have ao:=EK c d aS f g t (.int i) rfl;have aA:=Fn c d aS f t
  by_cases q:f=g
  .rw[if_pos q]
   simp[ug,Cf,Cg,jK,nt,ao,aA,q];rw[q]at ao;simp[ao]
  .rw[if_neg q]
   simp[ug,Cf,Cg,jK,nt,ao,aA,q])
include bC
theorem O4:ea (.v (.t [.int f,t])) (.v (.t [.int g,.int i]))=pure (.v (.ay (!(f==g&&eb t (.int i))))):=by
 rw[rx (x:=.v (.t [.int f,t])) (y:=.v (.t [.int g,.int i])) (lI.mpr (by simp only[am3];exact⟨rfl,bC,λ_ h=>nomatch h⟩)) rfl];simp[eb,mW]
theorem aeE:fo [.t [c,d,.t [.int f,t],aS],.int i,.t [.str "renew",.int g]]=pure (.v (if(f==g&&eb t (.int i))=true then .t [.t [c,d,.t [.int (g+1),.int i],aS],.t [.int 1,.int (g+1),.int i]]else .t [.t [c,d,.t [.int f,t],aS],.t [.int 0,.int f,t]])):=
 aet rfl rfl (by
  have ao:=EK c d aS f g t (.int i) rfl;have aA:=Fn c d aS f t;have ne:=O4 i f g t bC
  cases q:(f==g&&eb t (.int i))with
  |true=>
   rw[q]at ne;simp[ud,B',Ca,jK,nt,ao,aA,ne]
  |false=>
   rw[q]at ne;simp[ud,B',Ca,jK,nt,ao,aA,ne])
theorem aeB:fo [.t [c,d,.t [.int f,t],aS],.int i,.t [.str "free",.int g]]=pure (.v (if(f==g&&eb t (.int i))=true then .t [.t [c,d,.t [.int (g+1),.aP],aS],.t [.int 1,.int (g+1),.aP]]else .t [.t [c,d,.t [.int f,t],aS],.t [.int 0,.int f,t]])):=
 aep rfl rfl (by
  have ao:=EK c d aS f g t .aP rfl;have aA:=Fn c d aS f t;have ne:=O4 i f g t bC
  cases q:(f==g&&eb t (.int i))with
  |true=>
   rw[q]at ne;simp[uc,B9,B_,jK,nt,ao,aA,ne]
  |false=>
   rw[q]at ne;simp[uc,B9,B_,jK,nt,ao,aA,ne])
end
def q5(x:Int×D):Prop:=∃(n:Int)(z:D),x.2=.t [.int x.1,.int n,z]
def q5.qe{x:Int×D}(h:q5 x):pU x:=by obtain⟨n,z,e⟩:=h;exact⟨_,_,e⟩
def sb:Option D->Int
 |some (.t [_,.int n,_])=>n|_=>0
def Oi{l:List (Int×D)}(h:∀x∈l,q5 x)(a:Int):eC (.v ((fv (Q:=fy.κ.toKeyOrd) l a).getD (.t [.int a,.int 0,.aP]))) (.v (.int 1))=pure (.v (.int (sb (fv (Q:=fy.κ.toKeyOrd) l a)))):=by
 cases q:fv (Q:=fy.κ.toKeyOrd) l a with
 |none=>simp[sb]|some d=>
  obtain⟨n,z,e⟩:=h _ (y_ q);have e:d=.t [.int a,.int n,z]:=e;subst e;simp[sb]
def wC(c d le aS:D):mM [.t [c,d,le,aS]]=(do i3 (.v aS) (.v .aP)):=by
 simp[mM,IK,o8,Cq]
section
variable{l:List (Int×D)}(h:∀x∈l,q5 x)(c le aS:D)(a n:Int)
include h
theorem LV(ds:D)(hd:cf ds=.v ds)(q:ds=.aP\/(∃xs,ds=.t xs)/\(aS=.str "over"\/(∃b,aS=.t b)\/aS=.aP/\n<=sb (fv (Q:=fy.κ.toKeyOrd) l a))) :
  nX [.t [c,.t (l.map (·.2)),le,aS],.int a,.int n,ds]=pure (.v (.t [c,.t (l.map (·.2)),le,aS])):=by
 have ao:=CV (λx d=>(h x d).qe) c le aS a;have aA:=Oi h a;simp only[nX,Ci,Cj,Ck];rcases q with rfl|⟨⟨xs,rfl⟩,rfl|⟨b,rfl⟩|⟨rfl,q⟩⟩
 .simp
 .simp[wC]
 .simp[wC]
 .simp[wC,ao,aA,q]
theorem Vf(xs:List D)(q:sb (fv (Q:=fy.κ.toKeyOrd) l a)<n)(hl:l.length<63)(d:(l.map (·.1)).Nodup){c' le' sh' v:D}
  (e:fo [.t [c,.t (l.map (·.2)),le,.aP],.int a,.t xs]=pure (.v (.t [.t [c',.t (l.map (·.2)),le',sh'],v]))) (f:cf v=.v v) :
  nX [.t [c,.t (l.map (·.2)),le,.aP],.int a,.int n,.t xs]=pure (.v (.t [c',.t ((kb (Q:=fy.κ.toKeyOrd) l (a,.t [.int a,.int n,v])).map (·.2)),le',sh'])):=by
 have ao:=CV (λx b=>(h x b).qe) c le .aP a;have aA:=Oi h a;have bK:=aiK (λx b=>(h x b).qe) d hl c' le' sh' a (.int n) v rfl f;have g:¬n<=sb (fv (Q:=fy.κ.toKeyOrd) l a):=by omega
 simp only[nX,Ci,Cj,Ck];simp[wC,ao,aA,g,e,bK]
end
def adV{l:List (Int×D)}(h:∀x∈l,q5 x)(a n:Int)(v:D):∀x∈kb (Q:=fy.κ.toKeyOrd) l (a,.t [.int a,.int n,v]),q5 x:=λx b=>by
 rcases(uQ (Q:=fy.κ.toKeyOrd)).mp b with⟨b,_⟩|rfl
 .exact h x b
 .exact⟨n,v,rfl⟩
end ed
namespace ed
open PySem PySem.Spec aC az jq
def Good(r:bB):Prop:=r.wf/\r.deep<=4/\r.names.length<=12
end ed
namespace ed
open PySem PySem.Spec aC az jq gI jY
def pK(i:Int):mO [.int i]=pure (.v (.ay true)):=by kernel_rfl
def GD(xs:List D):mO [.t xs]=pure (.v (.ay false)):=by kernel_rfl
def DB(m k:Nat):qA [a6 m,a6 k]=pure (.v (.ay (dG m k))):=by
 simp only[qA,Il,hA];simp[(T9 m k)]
def xe(a:List Nat)(h:∀k∈a,k<=1000):lP [.l (a.map a6)]=pure (.v (a6 (maskOf a))):=by
 obtain⟨U',e,s2,rfl⟩:=y1 (b:=λd U=>ED (U.set 2 (.v d))) (ds:=a.map a6) (U:=[.cj (a.map a6),.v (.int 0),.e])
  (λi U=>∃s2,U=[.cj (a.map a6),.v (a6 (maskOf (a.take i))),s2]) ⟨_,rfl⟩ (λi d U hd ⟨s2,f⟩=>by
   subst f;obtain⟨k,c,rfl⟩:=z4 hd;have g:=h k (amD c);refine⟨_,.inl (?_:_=pure (fZ.bt [.cj (a.map a6),.v (a6 (maskOf (a.take (i+1)))),.v (a6 k)])),_,rfl⟩;rw[take_snoc c,E8,hA (_ ||| _),<-FF];have k1:(k:Int)<=1000000:=by omega
   simp only[ED,hA];simp[k1])
 simp only[lP,I0,I1,I2];simp[e]
def Es(h:m<64):ui [a6 m]=pure (.fr ((fJ m).map a6)):=by
 have b:=bits_le m h;have c:gP (aR (bo qA (bH (J 1) (J 0)))) (J 0) [.e,.v (a6 m)] ((amJ (bits m)).map a6)=pure (((amJ (bits m)).filter (dG m)).map a6):=
  oG a6 (dG m) a6 _ (λk _=>by simp[DB]) λk _ _=>by simp
 have a:-4611686018427387904<=((bits m:Nat):Int)/\((bits m:Nat):Int)<4611686018427387904:=by omega
 have z:bits m<ami:=gD (by omega);rw[aaz];simp only[ui,IL];simp only[hA m]at c ⊢;simp[ZY,a,Qy,z,c]
def abR(h:m<64):zZ [a6 m]=pure (.v (.l ((within (fJ m)).map a6))):=by
 have a:=Es h;have s:=Er h;obtain⟨U',e,s2,rfl⟩:=y1 (b:=λd U=>EE (U.set 2 (.v d))) (ds:=(fJ m).map a6) (U:=[.v (a6 m),.v (.l [.int 0]),.e])
  (λi U=>∃s2,U=[.v (a6 m),.v (.l ((within ((fJ m).take i)).map a6)),s2]) ⟨_,rfl⟩ (λi d U hd ⟨s2,g⟩=>by
   subst g;obtain⟨k,a,rfl⟩:=z4 hd;have r:k<6:=((OQ h).mp (amD a)).1;refine⟨_,.inl (?_:_=pure (fZ.bt [.v (a6 m),.v (.l ((within ((fJ m).take (i+1))).map a6)),.v (a6 k)])),_,rfl⟩;rw[take_snoc a,Rz,ant,an3];have mo:lP [.l [a6 k]]=pure (.v (a6 (2 ^ k))):=by
    have:=xe [k] (by intro j o;rw[amo.mp o];omega)
    rwa[ON]at this
   have wl:=Ry ((fJ m).take i);have fO:((fJ m).take i).length<=6:=by rw[anj];omega
   have f:2 ^ ((fJ m).take i).length<=2 ^ 6:=apF (by decide) fO;generalize within ((fJ m).take i)=ws at wl;have n:ws.length<=64:=by rw[wl];exact f
   have c:gP gb (ak eh (J 0) (bo lP (a5 (eL (a5 (J 1)))))) [.e,.v (a6 k)] (ws.map a6)=pure (ws.map (a6∘λx=>x+2 ^ k)):=
    rq a6 _ ws λx _=>by
     simp[mo];rw[hA x,hA (2 ^ k)];simp[hA]
   have q:ws.length<ami:=gD (by omega);have p:ws.length+ws.length<=ami:=anM (gD (by omega));simp only[EE];simp[c,q,p])
 rw[amh,aqw]at e;simp only[zZ,I3,I4,I5];simp only[hA m]at e a ⊢;simp[a,e]
theorem OZ:∀(n:Nat)(r:bB),r.deep<n->r.names.length<=1000->mQ n [enc r]=pure (.fr (r.names.map a6))
 |0,r,h,_=>absurd h (anD _)|n+1,.kp k,h,_=>by
  simp only[mQ,yy,yT,bB.names];simp[pK,hA]
 |n+1,.ch k ps,h,hl=>by
  simp only[bB.deep]at h;simp only[bB.names]at hl ⊢;rw[ry];obtain⟨U',e,s2,rfl⟩:=y1 (b:=λd U=>wN (mQ n) (U.set 2 (.v d))) (ds:=ps.map enc) (U:=[.v (.t [.int (k:Nat),.t (ps.map enc)]),.dM false [],.e])
   (λi U=>∃s2,U=[.v (.t [.int (k:Nat),.t (ps.map enc)]),.dM false ((bB.fz (ps.take i)).map a6),s2]) ⟨_,rfl⟩ (λi d U hd ⟨s2,c⟩=>by
    subst c;obtain⟨r,a,rfl⟩:=z4 hd;refine⟨_,.inl (?_:_=pure (fZ.bt [.v (.t [.int (k:Nat),.t (ps.map enc)]),.dM false ((bB.fz (ps.take (i+1))).map a6),.v (enc r)])),_,rfl⟩;have le:(bB.fz (ps.take (i+1))).length<=1000:=by
     have:bB.fz ps=bB.fz (ps.take (i+1))++bB.fz (ps.drop (i+1)):=by rw[<-xg,List.take_append_drop]
     rw[this,amf]at hl;omega
    rw[(take_snoc a),xg]at le ⊢;rw[show bB.fz [r]=r.names from am8 _]at le ⊢;rw[amf]at le;simp only[wN];simp[(OZ n r ((qd (ps:=ps) (n:=n) (by omega)) r (amD a)) (by omega)),(anM (gD (by omega)))])
  simp only[mQ,yy,I9,I_,I'];simp[GD,e]
def named_eq{r:bB}(hw:r.wf)(hd:r.deep<12)(hl:r.names.length<=1000):um [enc r]=pure (.v (a6 (maskOf r.names))):=by
 have a:=xe r.names λk b=>by have:=xh r hw k b;omega
 simp only[um,I8];simp[(OZ 12 r hd hl),a]
theorem yY(m:Nat):∀(n:Nat)(r:bB),r.deep<n->r.wf->jh n [enc r,a6 m]=pure (.v (.ay (r.fills (dG m))))
 |0,r,h,_=>absurd h (anD _)|n+1,.kp k,h,hw=>by
  have b:=DB m k;simp only[jh,yw,yT,bB.fills];simp only[hA]at b ⊢;simp[pK,b]
 |n+1,.ch k ps,h,hw=>by
  simp only[bB.deep]at h;simp only[bB.wf]at hw;rw[ry];have c:gP (aR (bo (jh n) (bH (J 0) (J 1)))) (J 0) [.e,.v (a6 m)] (ps.map enc)=pure ((ps.filter (bB.fills (dG m))).map enc):=
   oG enc (bB.fills (dG m)) enc ps (λr a=>by simp[yY m n r ((qd (by omega)) r a) ((vc.mp hw.2.2.2) r a)]) λr _ _=>by simp
  have z:ps.length<ami:=gD (by omega);have e:decide (((k:Nat):Int)<=(bB.cnt (dG m) ps:Nat))=decide (k<=bB.cnt (dG m) ps):=decide_eq_decide.mpr (by omega);simp only[jh,yw,Ie,bB.fills];simp only[hA m]at c ⊢;simp[GD,c,z,CL,e]
def Z6(h:m<64)(a:List Nat):w8 [a6 m,.l (a.map a6)]=pure (.v (.ay (zt a m))):=by
 have b:=Es h;have p:=Er h;have fa:(a.map a6).all D.flat=true:=by rw[List.all_map];exact amX.mpr λ_ _=>rfl
 have c:gP gb (ak (lT false) (ak pg (J 1) (bo lP (a5 (eL (a5 (J 0)))))) (J 2)) [.e,.v (a6 m),.cj (a.map a6)] ((fJ m).map a6)=pure ((fJ m).map λk=>D.ay (a.contains (m-2 ^ k))):=
  rq a6 _ (fJ m) fun k b=>by
   obtain⟨f,g⟩:=(OQ h).mp b;have mo:lP [.l [a6 k]]=pure (.v (a6 (2 ^ k))):=by
    have:=xe [k] (by intro j i;rw[amo.mp i];omega)
    rwa[ON]at this
   have oI:=(Vh h f g).1;have o:(m:Int)-((2 ^ k:Nat):Int)=((m-2 ^ k:Nat):Int):=by
    by_cases z:2 ^ k<=m
    .omega
    .exfalso
     have all:∀m:_root_.Fin 64,∀k:_root_.Fin 6,dG m.val k.val=true->2 ^ k.val<=m.val:=by decide +kernel
     exact z (all ⟨m,h⟩ ⟨k,f⟩ g)
   have key:lT false (.v (a6 (m-2 ^ k))) (.cj (a.map a6))=pure (.v (.ay (a.contains (m-2 ^ k)))):=by
    show(if(a6 (m-2 ^ k)).flat=true/\(a.map a6).all D.flat=true then pure (R.v (D.ay (if false=true then !inD (a6 (m-2 ^ k)) (a.map a6)else inD (a6 (m-2 ^ k)) (a.map a6))))else bad)=_;rw[if_pos ⟨rfl,fa⟩,if_neg amm,NA]
   have d:pg (.v (a6 m)) (.v (a6 (2 ^ k)))=pure (.v (a6 (m-2 ^ k))):=by
    show pure (R.v (D.int ((m:Int)-((2 ^ k:Nat):Int))))=_;rw[o];rfl
   simp[mo,d,key]
 have z:(fJ m).length<ami:=gD (by omega);have n:((fJ m).map λk=>a.contains (m-2 ^ k)).any id=(fJ m).any λk=>a.contains (m-2 ^ k):=by rw[List.any_map];rfl
 have bm:=yB (λk=>a.contains (m-2 ^ k)) (fJ m);unfold zt;rw[<-n];simp only[w8,IE];simp only[hA m]at c b ⊢;simp only[List.contains_eq_mem]at c bm ⊢;simp[b,c,z,bm]
def Oq{r:bB}(hw:r.wf)(hd:r.deep<12)(hl:r.names.length<=1000):xb [enc r]=pure (.fr ((least r).map a6)):=by
 have c:=named_eq hw hd hl;have a:=OM r hw;have d:=abR a;have wl:(within (fJ (maskOf r.names))).length<=64:=by
  rw[Ry];have:=Er a;show _<=2 ^ 6;exact apF (by decide) this
 have bh:gP (aR (bo (jh 12) (bH (J 1) (J 0)))) (J 0) [.e,.v (enc r)] ((within (fJ (maskOf r.names))).map a6)=pure ((filling r (maskOf r.names)).map a6):=
  oG a6 (λm=>r.fills (dG m)) a6 _ (λm _=>by simp[yY m 12 r hd hw]) λm _ _=>by simp
 have b:∀x∈filling r (maskOf r.names),x<64:=λx f=>((OP a).mp f).1
 have g:(filling r (maskOf r.names)).length<=64:=amN (aod _ _) wl;have ak:gP (aR (bo w8 (bH (J 0) (J 1)))) (J 0) [.e,.v (.l ((filling r (maskOf r.names)).map a6))] ((filling r (maskOf r.names)).map a6)=pure ((least r).map a6):=
  oG a6 (zt (filling r (maskOf r.names))) a6 _ (λm j=>by simp[Z6 (b m j)]) λm _ _=>by simp
 have i:(within (fJ (maskOf r.names))).length<ami:=gD (by omega);have h:(filling r (maskOf r.names)).length<ami:=gD (by omega);simp only[xb,IX,IY];simp[c,d,bh,i,ak,h]
end ed
namespace jY
open gI jq
def tu(a k:bB):Nat:=maskOf a.names ||| maskOf k.names
def abQ(xs:List Nat):∀a:List Nat,maskOf (xs++a)=maskOf xs ||| maskOf a:=by
 intro a;have:∀n,∀a:List Nat,a.length=n->maskOf (xs++a)=maskOf xs ||| maskOf a:=by
  intro n
  induction n with
  |zero=>intro a h;rw[anJ.mp h,am8];exact(Nat.or_zero _).symm|succ n b=>
   intro a h;rcases List.eq_nil_or_concat a with rfl|⟨l,k,rfl⟩
   .cases h
   .rw[List.concat_eq_append]at h ⊢
    rw[amf,anl]at h;rw[<-an5,az.E8,b l (by omega),az.E8,Nat.or_assoc]
 exact this _ _ rfl
def L_{a k:bB}(c:a.wf)(d:k.wf):tu a k=nZ λj=>(a.names++k.names).contains j:=by
 unfold tu;rw[<-abQ,E7];intro n b;rcases amF.mp b with h|h
 .exact xh a c n h
 .exact xh k d n h
def L'{a k:bB}(b:a.wf)(c:k.wf):tu a k<64:=by rw[L_ b c];exact OV _
end jY
namespace ed
open PySem PySem.Spec aC az jq gI jY
def jE(a k:bB):D:=.t [enc a,enc k]
def abV(b:Good a)(c:Good k):z0 [jE a k]=pure (.v (a6 (tu a k))):=by
 have d:=named_eq b.1 (by have:=b.2.1;omega) (by have:=b.2.2;omega);have e:=named_eq c.1 (by have:=c.2.1;omega) (by have:=c.2.2;omega);unfold jE;simp only[z0,I6];simp only[hA]at d e ⊢;simp[d,e,FF,tu]
def ZU(j:Nat)(a:List Nat):lT false (.v (a6 j)) (.v (.l (a.map a6)))=pure (.v (.ay (a.contains j))):=by
 have fa:(a.map a6).all D.flat=true:=by rw[List.all_map];exact amX.mpr λ_ _=>rfl
 show(if(a6 j).flat=true/\(a.map a6).all D.flat=true then pure (R.v (D.ay (if false=true then !inD (a6 j) (a.map a6)else inD (a6 j) (a.map a6))))else bad)=_;rw[if_pos ⟨rfl,fa⟩,if_neg amm,NA]
def aaB:∀m:Nat,m<64->fJ m=(amJ 6).filter (dG m):=by decide +kernel
def aaA{a k:bB}(b:a.wf)(c:k.wf):fJ (tu a k)=(amJ 6).filter λj=>(a.names++k.names).contains j:=by
 rw[aaB _ (L' b c),L_ b c];exact List.filter_congr λj d=>OU _ j (am5.mp d)
def abW{a k:bB}(b:Good a)(c:Good k):mP [jE a k]=pure (.fr (((amJ 6).filter λj=>(a.names++k.names).contains j).map a6)):=by
 have e:=Es (L' b.1 c.1);rw[aaA b.1 c.1]at e;have aS:cf (jE a k)=.v (jE a k):=rfl;simp only[mP,I7];simp[aS,(abV b c),e]
end ed
namespace ed
open PySem PySem.Spec aC az gI jq jY
abbrev cH:=Int×Int
abbrev cn(s:cH):D:=.t [.int s.1,.int s.2]
structure ec where
 k:Nat
 s:cH
 w:D
abbrev gr(g:ec):D:=.t [a6 g.k,cn g.s,g.w]
def WG(ps:List ec)(h:∀p∈ps,p.k<6)(hl:ps.length<=1000):o5 [.l (ps.map gr)]=pure (.v (a6 (maskOf (ps.map (·.k))))):=by
 have c:gP gb (aI 0 0) [.e] (ps.map gr)=pure (ps.map (a6∘λp=>p.k)):=rq gr _ ps λp _=>by simp
 have m:=xe (ps.map (·.k)) (λk b=>by obtain⟨p,a,rfl⟩:=amG.mp b;have:=h p a;omega);rw[an3]at m;simp only[o5,Ik];simp[c,(gD (by omega)),m]
def L9(s t:cH):oEq (.v (cn s)) (.v (cn t))=pure (.v (.ay (decide (s=t)))):=by
 rw[nD rfl rfl]
 congr 3
 obtain⟨a,b⟩:=s;obtain⟨c,d⟩:=t;rw[an1];simp[eb,mW]
def adn(s t:cH):ea (.v (cn s)) (.v (cn t))=pure (.v (.ay (!decide (s=t)))):=by
 rw[rx rfl rfl]
 congr 4
 obtain⟨a,b⟩:=s;obtain⟨c,d⟩:=t;rw[an1];simp[eb,mW]
def SA(ps:List ec)(a:ec)(hl:(a::ps).length<=1000):w0 [.l ((a::ps).map gr)]=pure (.v (.ay ((a::ps).all λp=>decide (p.s=a.s)))):=by
 have c:gP gb (ak oEq (aI 0 1) (gq (aI 1 0) 1)) [.e,.cj ((a::ps).map gr)] ((a::ps).map gr)=pure ((a::ps).map λp=>D.ay (decide (p.s=a.s))):=
  rq gr _ _ λp _=>by
   simp[ (L9 p.s a.s)]
 have b:=yB (λp:ec=>decide (p.s=a.s)) (a::ps);generalize d:a::ps=C at *;simp only[w0,H4];simp[c,(gD (by omega)),b]
def vI(s t:cH):Bool:=decide (t.1<s.1)||decide (s.1=t.1)&&decide (t.2<s.2)
def abp(s t:cH):r3 [s.1,s.2] [t.1,t.2]=vI s t:=by
 unfold r3 vI;rw[Ou,Ou]
 by_cases bE:s.1=t.1
 .rw[if_pos bE,bE]
  by_cases bZ:s.2=t.2
  .rw[if_pos bZ,bZ]
   simp[ih]
  .rw[if_neg bZ];simp
 .rw[if_neg bE]
  simp[bE]
def z7(b p:ec):ec:=if vI p.s b.s=true then p else b
def jv(p:ec)(ps:List ec):ec:=ps.foldl z7 p
abbrev wL:bz:=fnOf 1 1 (a9 (aI 0 1))
theorem E9:∀(ps:List ec)(b:ec),o3 wL (ps.map gr) (some (gr b,[b.s.1,b.s.2]))=some (gr (jv b ps))
 |[],b=>rfl|p::ps,b=>by
  show o3 wL (ps.map gr) (if r3 [p.s.1,p.s.2] [b.s.1,b.s.2]=true then _ else _)=some (gr (jv (if vI p.s b.s=true then p else b) ps));rw[abp]
  by_cases q:vI p.s b.s=true
  .rw[if_pos q,if_pos q];exact E9 ps p
  .rw[if_neg q,if_neg q];exact E9 ps b
def zg(op:D)(g:ec):D:=.t [cn g.s,if g.s=(0,0)then op else g.w]
def Y9(p:ec)(ps:List ec)(op:D)(a:cf op=.v op)(hl:(p::ps).length<64):zS [.l ((p::ps).map gr),op]=pure (.v (zg op (jv p ps))):=by
 have d:o3 wL ((p::ps).map gr) none=some (gr (jv p ps)):=E9 ps p;generalize jv p ps=b at *;generalize p::ps=C at *;have dZ:=L9 b.s (0,0);have z:(C.map gr).length<64:=by rw[amh];exact hl
 have c:v' wL (.cj (C.map gr))=pure (.v (gr b)):=by
  show(match o3 wL (C.map gr) none with|some r=>if(C.map gr).length<64 then(pure (R.v r):M R)else bad|none=>bad)=_;rw[d];dsimp only;rw[if_pos z]
 unfold zg;simp only[zS,Ip,Iq,Ir]
 by_cases q:b.s=(0,0)
 .rw[q]at dZ
  simp[a,c,q,dZ]
 .simp[q]at dZ
  simp[a,c,q,dZ]
end ed
namespace ed
open PySem PySem.Spec aC az
def jA{n N:Nat}{b:aW}{ds:List D}(h:ds.length=n)(e:b (ds.map cf++amU (N-n) .e)=pure (.cx (.v d))):fnOf n N b ds=pure (.v d):=by
 rw[yQ,if_pos h,e];rfl
def pv{a b:aW}(e:a U=pure (.bt U')):bS a b U=b U':=by rw[bS,e];rfl
def Gb{a b:aW}{r:R}(e:a U=pure (.cx r)):bS a b U=pure (.cx r):=by rw[bS,e];rfl
def tQ{t:aL->M Bool}{a b:aW}(e:t U=pure true):cq t a b U=a U:=by rw[cq,e];rfl
def qq{t:aL->M Bool}{a b:aW}(e:t U=pure false):cq t a b U=b U:=by rw[cq,e];rfl
def aeh{a b:aL->M Bool}(h:a U=pure true):fA a b U=pure true:=by show(a U >>= _)=_;rw[h];rfl
def xu{a b:aL->M Bool}(h:a U=pure false):fA a b U=b U:=by show(a U >>= _)=_;rw[h];rfl
def Fo{a:aL->M Bool}(h:a U=pure true):eE a U=pure false:=by show(a U >>= _)=_;rw[h];rfl
def jx{m:bp}(h:m U=pure (.v (.ay b))):aR m U=pure b:=by show(m U >>= _)=_;rw[h];rfl
def Hu{a b:aL->M Bool}(h:a U=pure true):hE a b U=b U:=by show(a U >>= _)=_;rw[h];rfl
def SG{a b:aL->M Bool}(h:a U=pure false):hE a b U=pure false:=by show(a U >>= _)=_;rw[h];rfl
def f6{f:R->R->M R}{a b:bp}{r:M R}(e:f x y=r)(ao:a U=pure x)(aA:b U=pure y):ak f a b U=r:=by
 show(a U >>= _)=_;rw[ao];rw[aA];exact e
def kh{m:bp}{U:aL}(e:m U=pure (.v d)):b9 i m U=pure (.bt (U.set i (.v d))):=by show(m U >>= _)=_;rw[e];rfl
def kf{m:bp}(e:m U=pure (.v d)):a9 m U=pure (.cx (.v d)):=by show(m U >>= _)=_;rw[e];rfl
def call_of{mf:bz}{ms:c3}{rs:List R}{r:M R}(ao:ms U=pure rs)(e:mf (rs.map R.arg)=r):bo mf ms U=r:=by show(ms U >>= _)=_;rw[ao];exact e
def rl{f:List R->M R}{ms:c3}{r:M R}(e:f rs=r)(ao:ms U=pure rs):dm f ms U=r:=by show(ms U >>= _)=_;rw[ao];exact e
def cons_of{m:bp}{ms:c3}(e:m U=pure x)(ao:ms U=pure xs):di m ms U=pure (x::xs):=by show(m U >>= _)=_;rw[e];rw[ao];rfl
def agu{m:bp}{U:aL}{r:R}(e:m U=pure r)(h:r.dat=pure d):b9 i m U=pure (.bt (U.set i (.v d))):=by show(m U >>= _)=_;rw[e];show(r.dat >>= _)=_;rw[h];rfl
def aeK{U:aL}:nz i (eL cQ) U=pure (.bt (U.set i (.dM false []))):=rfl
def V4{a:fS}{U U':aL}(ao:a U=pure ds)(e:kE (λd U=>b (U.set i (.v d))) ds U=pure (.bt U')):lF i a b U=pure (.bt U'):=by
 show(a U >>= _)=_;rw[ao];exact e
def sE{a b:bp}(ao:a U=pure (.v x))(aA:b U=pure (.v y)):bM (bH a b) U=pure (.v (.t [x,y])):=by
 show(di a (a5 b) U >>= _)=_;rw[cons_of ao (cons_of aA rfl)];rfl
def yL{a:fS}{ds xs:List D}(ao:a U=pure ds)(z:ds.length<ami)(e:gP t el (iE n cap U) ds=pure xs):fG n cap a t el U=pure (.fr xs):=by
 show(a U >>= _)=_;rw[ao];show(hR (ds.length<ami) >>= _)=_;unfold hR;rw[if_pos z];rw[e];rfl
def Vb(e:m=pure (.v d)):(m >>= R.dat)=pure d:=by rw[e];rfl
def Dh{n N:Nat}{b:aW}{ds xs:List D}(h:ds.length=n)(e:b (ds.map cf++amU (N-n) .e)=pure (.cx (.fr xs))):fnOf n N b ds=pure (.fr xs):=by
 rw[yQ,if_pos h,e];rfl
def uv{a b:Int}(h:0<b):oMod (.v (.int a)) (.v (.int b))=pure (.v (.int (a % b))):=if_pos h
def vZ{a b:Int}:oEq (.v (.int a)) (.v (.int b))=pure (.v (.ay (decide (a=b)))):=rfl
def aab{i:Int}{v:D}(e:d7 xs i=some v):eC (.fr xs) (.v (.int i))=pure (.v v):=by
 show(match d7 xs i with|some d=>pure (R.v d)|none=>bad)=_;rw[e]
def Oz{ms:c3}{ds:List D}(e:ms U=pure rs)(h:nC rs=pure ds)(z:ds.length<=1000):eL ms U=pure (.fr ds):=by
 show(ms U >>= _)=_;rw[e];show(nC rs >>= _)=_;rw[h];show(hR (ds.length<=1000) >>= _)=_;unfold hR;rw[if_pos z];rfl
def ab4{a b:Int}(h:iK a b):n2 (.v (.int a)) (.v (.int b))=pure (.v (.int (a*b))):=if_pos h
def aB{α:Type}(S:bL)(m:M α)(a:α):Prop:=m.run S=.ok a S
def bO{α:Type}(S:bL)(m:N α)(a:α)(b:bL):Prop:=m.run S=.ok a b
section
variable{α β:Type}{S S1 aQ:bL}{U U':aL}
def aB.of(h:m=pure a):aB S m a:=by rw[h];rfl
theorem aB.bind{f:α->M β}(h:aB S m a)(d:aB S (f a) b):aB S (m >>= f) b:=by
 show(match m.run S with|.ok a S1=>(f a).run S1|.exc c S1=>.exc c S1|.bad=>.bad)=_;rw[show m.run S=.ok a S from h];exact d
def bO.bind{f:α->N β}(h:bO S m a S1)(d:bO S1 (f a) b aQ):bO S (m >>= f) b aQ:=by
 show(match m.run S with|.ok a S1=>(f a).run S1|.exc c S1=>.exc c S1|.bad=>.bad)=_;rw[show m.run S=.ok a S1 from h];exact d
def aB.to{m:M α}(h:aB S m a):bO S m.up a S:=h
def NV{p:Prop}[Decidable p](h:p):aB S (hR p) ():=.of (if_pos h)
def b_{f:R->R->M R}{a b:bp}{x y r:R}(e:f x y=pure r)(c:aB S (a U) x)(d:aB S (b U) y):aB S (ak f a b U) r:=c.bind (d.bind (.of e))
def c5:aB S (cQ U) []:=.of rfl
def b2{m:bp}{ms:c3}(h:aB S (m U) x)(a:aB S (ms U) xs):aB S (di m ms U) (x::xs):=h.bind (a.bind (.of rfl))
def fx{mf:bz}{ms:c3}{rs:List R}{r:R}(h:aB S (ms U) rs)(e:aB S (mf (rs.map R.arg)) r):aB S (bo mf ms U) r:=h.bind e
def tT{f:List R->M R}{ms:c3}{r:R}(e:f rs=pure r)(h:aB S (ms U) rs):aB S (dm f ms U) r:=h.bind (.of e)
def oY{ms:c3}{ds:List D}(h:aB S (ms U) rs)(e:nC rs=pure ds)(z:ds.length<=1000):aB S (bM ms U) (.v (.t ds)):=h.bind ((aB.of e).bind ((NV z).bind (.of rfl)))
def cm{m:bp}(h:aB S (m U) (.v (.ay b))):aB S (aR m U) b:=h.bind (.of rfl)
def wI{a b:aL->M Bool}(h:aB S (a U) true):aB S (fA a b U) true:=h.bind (.of rfl)
def jf{a b:aL->M Bool}(h:aB S (a U) false)(c:aB S (b U) x):aB S (fA a b U) x:=h.bind c
def hY{a b:aL->M Bool}(h:aB S (a U) true)(c:aB S (b U) x):aB S (hE a b U) x:=h.bind c
def kQ{a b:aL->M Bool}(h:aB S (a U) false):aB S (hE a b U) false:=h.bind (.of rfl)
def iG{a:aL->M Bool}(h:aB S (a U) x):aB S (eE a U) (!x):=h.bind (.of rfl)
def NW{a:fS}{ds xs:List D}(h:aB S (a U) ds)(z:ds.length<ami)(e:aB S (gP t el (iE n cap U) ds) xs):aB S (fG n cap a t el U) (.fr xs):=h.bind ((NV z).bind (e.bind (.of rfl)))
theorem Ep{α:Type}{el:bp}(g:α->D)(f:α->D):∀as:List α,(∀a∈as,aB S (el (U.set 0 (.v (g a)))) (.v (f a)))->aB S (gP gb el U (as.map g)) (as.map f)
 |[],_=>.of rfl|a::as,h=>(aB.of rfl).bind ((h a (amu ..)).bind ((aB.of rfl).bind ((Ep g f as λx b=>h x (amr _ b)).bind (.of rfl))))
def NX{m:bp}{r:R}(h:aB S (m U) r)(e:r.fL=some ds):aB S (nR m U) ds:=h.bind (by rw[e];exact .of rfl)
def i1{m:bp}{r:R}(h:aB S (m U) r)(e:r.dat=pure d):aB S (b9 i m U) (.bt (U.set i (.v d))):=h.bind ((aB.of e).bind (.of rfl))
def g_{m:bp}(h:aB S (m U) (.v d)):aB S (a9 m U) (.cx (.v d)):=h.bind (.of rfl)
def zz{m:bp}(h:aB S (m U) (.fr xs)):aB S (a9 m U) (.cx (.fr xs)):=h.bind (.of rfl)
def kR{t:aL->M Bool}{a b:aW}(h:aB S (t U) true)(c:aB S (a U) C):aB S (cq t a b U) C:=h.bind c
def hZ{t:aL->M Bool}{a b:aW}(h:aB S (t U) false)(c:aB S (b U) C):aB S (cq t a b U) C:=h.bind c
def iH{a b:aW}(h:aB S (a U) (.bt U'))(c:aB S (b U') C):aB S (bS a b U) C:=h.bind c
def qs{a b:aW}{r:R}(h:aB S (a U) (.cx r)):aB S (bS a b U) (.cx r):=h.bind (.of rfl)
def iZ{n N:Nat}{b:aW}{ds:List D}(h:ds.length=n)(e:aB S (b (ds.map cf++amU (N-n) .e)) (.cx (.v d))):aB S (fnOf n N b ds) (.v d):=by
 rw[yQ,if_pos h];exact e.bind (.of rfl)
def lN{o:dR}(h:S[i]? = some o):aB S (f_ (.v (.ref i))) o:=(show aB S Mu S from rfl).bind (by rw[h];exact .of rfl)
def qr{m:bp}(h:S[i]? = some (.l xs))(a:aB S (m U) (.v (.ref i))):aB S (hQ m U) (.mv xs):=a.bind ((lN h).bind (.of rfl))
def i0{mf:bz}{mo:bp}{ms:c3}{fs:List (Str×D)}{rs:List R}{r:R}(h:S[i]? = some (.a' c fs))(b:aB S (mo U) (.v (.ref i)))(a:fs.lookup m=none)(d:aB S (ms U) rs)(e:aB S (mf (.ref i::rs.map R.arg)) r):aB S (dI c m mf mo ms U) r:=b.bind ((lN h).bind (by show aB S (if c=c/\fs.lookup m=none then _ else _) _;rw[if_pos ⟨rfl,a⟩];exact d.bind e))
def NU{m:bp}{fs:List (Str×D)}(h:S[i]? = some (.a' c fs))(a:aB S (m U) (.v (.ref i)))(e:fs.lookup f=some d):aB S (bh (b8 c f) m U) (.v d):=a.bind ((lN h).bind (by show aB S (if c=c then _ else _) _;rw[if_pos rfl,e];exact .of rfl))
def c7{a b:b7}(h:bO S (a U) (.bt U') S1)(c:bO S1 (b U') C aQ):bO S (bJ a b U) C aQ:=h.bind c
def Ba{a b:b7}{r:R}(h:bO S (a U) (.cx r) S1):bO S (bJ a b U) (.cx r) S1:=h.bind rfl
def l2{t:aL->N Bool}{a b:b7}(h:bO S (t U) true S1)(c:bO S1 (a U) C aQ):bO S (fP t a b U) C aQ:=h.bind c
def m5{t:aL->N Bool}{a b:b7}(h:bO S (t U) false S1)(c:bO S1 (b U) C aQ):bO S (fP t a b U) C aQ:=h.bind c
def GR{t:aL->N Bool}{a b:b7}(h:bO S (t U) false S1)(c:bO S1 (b U) C aQ):bO S (bJ (fP t a (b' b0)) b U) C aQ:=c7 (m5 h rfl) c
def Bb{t:aL->M Bool}{b:b7}(h:aB S (t U) false)(c:bO S (b U) C aQ):bO S (bJ (b' (cq t a b0)) b U) C aQ:=c7 (hZ h (.of rfl)).to c
def ai9{m:eo}(h:bO S (m U) (.v d) S1):bO S (i8 m U) (.cx (.v d)) S1:=h.bind rfl
def x5{m:eo}(h:bO S (m U) (.fr xs) S1):bO S (i8 m U) (.cx (.fr xs)) S1:=h.bind rfl
def GL{m:eo}{r:R}(h:bO S (m U) r S1):bO S (jk m U) (.bt U) S1:=h.bind rfl
def qV{m:eo}{r:R}(h:bO S (m U) r S1)(e:r.dat=pure d):bO S (l1 i m U) (.bt (U.set i (.v d))) S1:=h.bind ((aB.of e).to.bind rfl)
def x_call{mf:d6}{ms:c3}{rs:List R}{r:R}(h:aB S (ms U) rs)(aw:rs.all R.h5=true)(e:bO S (mf (rs.map R.arg)) r S1):bO S (pM mf (e5 ms) U) r S1:=(aB.to h).bind (by rw[if_pos aw];exact e)
def oa{mf:d6}{mo:bp}{ms:j0}{fs:List (Str×D)}{rs:List R}{r:R}(h:S[i]? = some (.a' c fs))(b:aB S (mo U) (.v (.ref i)))(a:fs.lookup m=none)(d:bO S (ms U) rs S)(aw:rs.all R.h5=true)(e:bO S (mf (.ref i::rs.map R.arg)) r S1):bO S (eJ c m mf mo ms U) r S1:=b.to.bind ((lN h).to.bind (by show bO S (if c=c/\fs.lookup m=none then _ else _) _ _;rw[if_pos ⟨rfl,a⟩];exact d.bind (by rw[if_pos aw];exact e)))
def RI{mf:d6}{ms:c3}{rs:List R}(h:aB S (ms U) rs)(aw:rs.all R.h5=true)(e:bO (S++[.a' c []]) (mf (.ref S.length::rs.map R.arg)) (.v .aP) S1):bO S (pN c mf (e5 ms) U) (.v (.ref S.length)) S1:=(aB.to h).bind (by
 rw[if_pos aw];exact bO.bind rfl (bO.bind rfl (bO.bind e rfl)))
def vh{n N:Nat}{b:b7}{ds:List D}(h:ds.length=n)(e:bO S (b (ds.map cf++amU (N-n) .e)) (.cx (.v d)) S1):bO S (fnX n N b ds) (.v d) S1:=by
 unfold fnX;rw[if_pos h];exact e.bind rfl
def vg{n N:Nat}{b:b7}{ds xs:List D}(h:ds.length=n)(e:bO S (b (ds.map cf++amU (N-n) .e)) (.cx (.fr xs)) S1):bO S (fnX n N b ds) (.fr xs) S1:=by
 unfold fnX;rw[if_pos h];exact e.bind rfl
def GN{n N:Nat}{b:b7}{ds:List D}(h:ds.length=n)(e:bO S (b (ds.map cf++amU (N-n) .e)) (.bt U') S1):bO S (fnX n N b ds) (.v .aP) S1:=by
 unfold fnX;rw[if_pos h];exact e.bind rfl
def x_at{mo:bp}{mv:eo}{fs:List (Str×D)}{r:R}(b:bO S (mv U) r S1)(e:r.dat=pure d)(a:aB S1 (mo U) (.v (.ref i)))(h:S1[i]? = some (.a' c fs))(hl:fs.length<1000):bO S (d0 c f mo mv U) (.bt U) (S1.set i (.a' c (il f d fs))):=b.bind ((aB.of e).to.bind (a.to.bind ((lN h).to.bind (by
 show bO S1 (if c=c/\fs.length<1000 then _ else _) _ _;rw[if_pos ⟨rfl,hl⟩];rfl))))
def GJ{mo:bp}{ms:c3}{xs:List D}(b:aB S (mo U) (.v (.ref i)))(c:aB S (ms U) [.v d])(h:S[i]? = some (.l xs))(z:xs.length<ami):bO S (n' k9 mo ms U) (.bt U) (S.set i (.l (xs++[d]))):=b.to.bind (c.to.bind ((lN h).to.bind ((aB.to (a:=(R.v .aP,xs++[d])) (.of (by show(hR (xs.length<ami) >>= _)=_;rw[JQ z];rfl))).bind rfl)))
def RJ:bO S (l0 (dt (eL cQ)) U) (.v (.ref S.length)) (S++[.l []]):=rfl
def GO{a:fS}(h:aB S (a U) ds)(e:bO S (m4 (λd U=>b (U.set i (.v d))) ds U) C S1):bO S (vf i a b U) C S1:=(aB.to h).bind e
def ai8{b:D->b7}(h:bO S (b d U) (.bt U') S1)(a:bO S1 (m4 b ds U') C aQ):bO S (m4 b (d::ds) U) C aQ:=h.bind a
def Fr(W:List Nat)(S a:bL):Prop:=∀j o,j∉W->S[j]? = some o->a[j]? = some o
def Fr.set{o:dR}(h:i∈W):Fr W S (S.set i o):=λj b a e=>by
 rw[amk (λq:i=j=>a (q▸h))];exact e
def Fr.app:Fr W S (S++l):=λj o _ e=>by
 rw[amA (nu.mp e).1];exact e
def Fr.refl:Fr W S S:=λ_ _ _ e=>e
def Fr.trans(h:Fr W S S1)(b:Fr W S1 aQ):Fr W S aQ:=λj o a e=>b j o a (h j o a e)
def get_set{o a:dR}(h:S[i]? = some o):(S.set i a)[i]? = some a:=by
 rw[amx (nu.mp h).1]
def Dt{o:dR}:(S++[o])[S.length]? = some o:=by rw[ams (amj _),anQ];rfl
end
end ed
namespace ed
open PySem PySem.Spec aC az jq gI jY
section
variable{t:aL->M Bool}{a b:aW}{U U':aL}{r:R}
def gx{p:Prop}[Decidable p](h:p):(pure (decide p):M Bool)=pure true:=by rw[decide_eq_true h]
def iF{p:Prop}[Decidable p](h:¬p):(pure (decide p):M Bool)=pure false:=by rw[decide_eq_false h]
def jQ(e:t U=pure false)(h:b U=q):bS (cq t a b0) b U=q:=(pv (qq e)).trans h
def st(e:t U=pure true)(h:a U=pure (.cx r)):bS (cq t a b0) b U=pure (.cx r):=Gb ((tQ e).trans h)
def cT(e:a U=pure (.bt U'))(h:b U'=q):bS a b U=q:=(pv e).trans h
def tv{α c:Type}{P:α->Prop}{A B:c}{f:α->c}(e:A=B)(h:∃x,B=f x/\P x):∃x,A=f x/\P x:=e▸h
def wO{l:List Nat}(h:l.length<=1000):nF [.v (.str (bI l))]=pure (.v (.int (l.length:Nat))):=by
 show(if(bI l).length<=ami then pure (R.v (.int ((bI l).length:Nat)))else bad)=_;rw[if_pos (by rw[pF,amS];omega),pF]
def yH{x y:List Nat}(h:x.length+y.length<=1000):pa (.v (.str (bI x))) (.v (.str (bI y)))=pure (.v (.str (bI (x++y)))):=by
 show(if(bI x).length+(bI y).length<=ami then pure (R.v (.str (bI x++bI y)))else bad)=_;rw[if_pos (by rw[pF,pF,amS];omega),ahS]
def af6{m:bp}(e:m U=pure (.fr xs)):a9 m U=pure (.cx (.fr xs)):=by show(m U >>= _)=_;rw[e];rfl
end
structure bx where
 me:Int
 bj:Int
 h:D
 op:D
 b6:Bool
 cb:Int
 st:cH
 wi:Int
 dd:D
 sg:Str
 dK:D
 bR:List ec
 km:Nat
 ts:D
noncomputable def bx.fs(a:bx)(g:Nat):List (Str×D):=[("me",.int a.me),("epoch",.int a.bj),("hall",a.h),("opening",a.op),("over_known",.ay a.b6),("greatest_round",.int a.cb),("last_stamp",cn a.st),("wishes",.int a.wi),("deed",a.dd),("standing",.str a.sg),("last_outcome",a.dK),("grants",.ref g),("kept_mask",a6 a.km),("told_slate",a.ts)]
def fi(me bj:Int)(s:cH)(k:Nat):D:=.t [.str "ask",.int me,a6 k,.int bj,cn s,.t []]
def eX(me bj:Int)(s:cH)(l:D)(k:Nat):D:=.t [.str "tell",.int me,a6 k,.int bj,cn s,l]
def Cu:D:=.t [.t [],.t [],.t [.int 0,.aP],.aP]
def uy(me:Int)(h:D):bx:=⟨me,0,h,Cu,false,0,(0,0),0,.aP,"calm",.aP,[],0,.aP⟩
structure dA(S:bL)(i g:Nat)(a:bx):Prop where
 a':S[i]? = some (.a' "Asker" (a.fs g))
 ls:S[g]? = some (.l (a.bR.map gr))
structure ez(S aq:bL)(i g g':Nat)(b:bx):Prop where
 at':dA aq i g' b
 fr:Fr [i,g] S aq
 nw:g'=g\/S.length<=g'
 len:S.length<=aq.length
def d5(S:bL)(i g:Nat)(m:N fZ)(b:fZ)(c:bx):Prop:=∃a g',bO S m b a/\ez S a i g g' c
def bx.Do(a:bx)(mf:d6)(ds d:List D)(b:bx):Prop:=∀(S:bL)(i g:Nat),dA S i g a->∃c g',bO S (mf (.ref i::ds)) (.fr d) c/\ez S c i g g' b
section
variable{S S1 aQ:bL}{U U':aL}{i g g1 g2 k:Nat}{a b c:bx}{f:Str}{d:D}{mv:bp}{r:R}{bd:b7}{aJ:fZ}
def kU{o:dR}(h:S[i]? = some o):i<S.length:=(nu.mp h).1
def dA.ne(h:dA S i g a):i≠g:=λe=>by have:=h.a';rw[e,h.ls]at this;cases this
def ez.refl(h:dA S i g a):ez S S i g g a:=⟨h,.refl,.inl rfl,amj _⟩
def ez.trans(h:ez S S1 i g g1 b)(l:ez S1 aQ i g1 g2 c):ez S aQ i g g2 c:=by
 refine⟨l.at',λj o m e=>l.fr j o ?_ (h.fr j o m e),?_,amN h.len l.len⟩
 .have:=kU e
  simp only[amw,am4,or_false,not_or]at m ⊢;rcases h.nw with q|q
  .rw[q];exact m
  .exact⟨m.1,by omega⟩
 .rcases l.nw with q|q
  .rw[q];exact h.nw
  .exact .inr (amN h.len q)
def c_(h:dA S i g a)(j:J k U=pure (.v (.ref i)))(e:(a.fs g).lookup f=some d):aB S (bh (b8 "Asker" f) (J k) U) (.v d):=NU h.a' (.of j) e
def EB:(a.fs g).length<1000:=by show 14<1000;omega
theorem iX(h:dA S i g a)(b:bx)(l:J k U=pure (.v (.ref i)))(m:aB S (mv U) r)(o:r.dat=pure d)(e:il f d (a.fs g)=b.fs g)(n:b.bR=a.bR)(q:∀S1,dA S1 i g b->d5 S1 i g (bd U) aJ c):d5 S i g (bJ (d0 "Asker" f (J k) (dt mv)) bd U) aJ c:=by
 have j:dA (S.set i (.a' "Asker" (il f d (a.fs g)))) i g b:=⟨by rw[get_set h.a',e],by rw[amk h.ne,n];exact h.ls⟩;obtain⟨aQ,g2,t,s⟩:=q _ j;exact⟨aQ,g2,c7 (x_at m.to o (.of l) h.a' EB) t,ez.trans ⟨j,.set (by simp),.inl rfl,by rw[amQ];exact amj _⟩ s⟩
theorem Ww(h:dA S i g a)(b:bx)(o:J k U=pure (.v (.ref i)))(e:∀n,il ("grants":Str) (D.ref n) (a.fs g)=b.fs n)(p:b.bR=[])(q:∀S1 g1,dA S1 i g1 b->d5 S1 i g1 (bd U) aJ c):d5 S i g (bJ (d0 "Asker" "grants" (J k) (l0 (dt (eL cQ)))) bd U) aJ c:=by
 have m:(S++[dR.l []])[i]? = some (.a' "Asker" (a.fs g)):=Fr.app _ _ (am4) h.a';have j:dA ((S++[dR.l []]).set i (.a' "Asker" (il ("grants":Str) (D.ref S.length) (a.fs g)))) i S.length b:=⟨by rw[get_set m,e],by rw[amk (amM (kU h.a')),Dt,p];rfl⟩;obtain⟨aQ,g2,t,s⟩:=q _ _ j;exact⟨aQ,g2,c7 (x_at RJ rfl (.of o) m EB) t,ez.trans ⟨j,Fr.app.trans (.set (by simp)),.inr (amj _),by rw[amQ,amf];omega⟩ s⟩
theorem MB{ms:c3}(h:dA S i g a)(b:bx)(m:J k U=pure (.v (.ref i)))(n:aB S (ms U) [.v (gr x)])(e:b.fs g=a.fs g)(o:b.bR=a.bR++[x])(z:a.bR.length<1000)(q:∀S1,dA S1 i g b->d5 S1 i g (bd U) aJ c):d5 S i g (bJ (n' k9 (bh (b8 "Asker" "grants") (J k)) ms) bd U) aJ c:=by
 have j:dA (S.set g (.l (a.bR.map gr++[gr x]))) i g b:=⟨by rw[amk h.ne.symm,e];exact h.a',by rw[get_set h.ls,o,ant];rfl⟩;obtain⟨aQ,g2,t,s⟩:=q _ j;exact⟨aQ,g2,c7 (GJ (c_ h m rfl) n h.ls (by rw[amh];exact gD (by omega))) t,ez.trans ⟨j,.set (by simp),.inl rfl,by rw[amQ];exact amj _⟩ s⟩
def BS(h:dA S i g a)(e:J k U=pure (.v (.ref i))):aB S (hQ (bh (b8 "Asker" "grants") (J k)) U) (.mv (a.bR.map gr)):=qr h.ls (c_ h e rfl)
def nJ{m:aW}(h:dA S i g a)(e:aB S (m U) aJ):d5 S i g (b' m U) aJ a:=⟨S,g,e,.refl h⟩
theorem hU{t:aL->M Bool}(e:aB S (t U) false)(q:d5 S i g (bd U) aJ c):d5 S i g (bJ (b' (cq t m b0)) bd U) aJ c:=by
 obtain⟨aQ,g2,t,s⟩:=q;exact⟨aQ,g2,Bb e t,s⟩
theorem lJ{t:aL->M Bool}(e:aB S (t U) false)(q:d5 S i g (bd U) aJ c):d5 S i g (bJ (fP (fY t) m (b' b0)) bd U) aJ c:=by
 obtain⟨aQ,g2,t,s⟩:=q;exact⟨aQ,g2,GR e t,s⟩
def rH{t:aL->M Bool}{m:aW}{r:R}(h:dA S i g a)(e:aB S (t U) true)(aA:aB S (m U) (.cx r)):d5 S i g (bJ (b' (cq t m b0)) bd U) (.cx r) a:=⟨S,g,Ba (kR e aA).to,.refl h⟩
theorem wb{t:aL->M Bool}{m:b7}{r:R}(e:aB S (t U) true)(q:d5 S i g (m U) (.cx r) c):d5 S i g (bJ (fP (fY t) m (b' b0)) bd U) (.cx r) c:=by
 obtain⟨aQ,g2,t,s⟩:=q;exact⟨aQ,g2,Ba (l2 e t),s⟩
theorem y'{m:aW}(e:aB S (m U) (.bt U'))(q:d5 S i g (bd U') aJ c):d5 S i g (bJ (b' m) bd U) aJ c:=by
 obtain⟨aQ,g2,t,s⟩:=q;exact⟨aQ,g2,c7 (aB.to e) t,s⟩
theorem rG{ms:j0}{rs:List R}(h:dA S i g a)(q:a.Do mf (rs.map R.arg) ys c)(l:J k U=pure (.v (.ref i)))(e:(a.fs g).lookup m=none)(j:bO S (ms U) rs S)(aw:rs.all R.h5=true):d5 S i g (i8 (eJ "Asker" m mf (J k) ms) U) (.cx (.fr ys)) c:=by
 obtain⟨aQ,g2,t,s⟩:=q _ _ _ h;exact⟨aQ,g2,x5 (oa h.a' (.of l) e j aw t),s⟩
theorem hs{n N:Nat}{bd:b7}{ds j:List D}(h:ds.length+1=n)(q:∀S i g,dA S i g a->d5 S i g (bd (.v (.ref i)::ds.map cf++amU (N-n) .e)) (.cx (.fr j)) c):a.Do (fnX n N bd) ds j c:=λS i g hh=>by
 obtain⟨aQ,g2,t,s⟩:=q S i g hh;exact⟨aQ,g2,vg h t,s⟩
end
def bx.asks(a:bx):bx:={ a with cb:=a.cb+1,st:=(a.cb+1,a.me),sg:="asking",bR:=[] }
def BZ{a:bx}{ms:List Nat}(b:mP [a.h]=pure (.fr (ms.map a6)))(hl:ms.length<=6) :
  a.Do wV [] (ms.map (fi a.me a.bj (a.cb+1,a.me))) a.asks:=hs rfl λS i g h=>
 iX h { a with cb:=a.cb+1 } rfl (b_ rfl (c_ h rfl rfl) (.of rfl)) rfl rfl rfl λS h=>
 iX h { a with cb:=a.cb+1,st:=(a.cb+1,a.me) } rfl (oY (b2 (c_ h rfl rfl) (b2 (c_ h rfl rfl) c5)) rfl (am6 rfl)) rfl rfl rfl λS h=>
 iX h { a with cb:=a.cb+1,st:=(a.cb+1,a.me),sg:="asking" } rfl (.of rfl) rfl rfl rfl λS h=>
 Ww h a.asks rfl (λ_=>rfl) rfl λS g h=>
 nJ h (zz (NW (NX (fx (b2 (c_ h rfl rfl) c5) (.of b)) rfl) (by rw[amh];exact gD (by omega))
  (Ep a6 (fi a.me a.bj (a.cb+1,a.me)) ms λk _=>fx (b2 (c_ h rfl rfl) (b2 (.of rfl) (b2 (c_ h rfl rfl) (b2 (c_ h rfl rfl) c5)))) (.of rfl))))
def RH{S:bL}{mv:bp}{fs:List (Str×D)}{a:b7}(h:S[i]? = some (.a' c fs))(e:mv U=pure (.v d))(b:J 0 U=pure (.v (.ref i)))(hl:fs.length<1000)(q:bO (S.set i (.a' c (il f d fs))) (a U) C I):bO S (bJ (d0 c f (J 0) (dt mv)) a U) C I:=c7 (x_at (aB.of e).to rfl (.of b) h hl) q
def mK{n:Nat}(h:n.ble 999=true):n<1000:=Nat.lt_succ_of_le (am6 h)
def ZX(S:bL)(me:Int)(h:D)(hh:cf h=.v h):∃b,bO (S++[.a' "Asker" []]) (t4 [.ref S.length,.int me,h]) (.v .aP) b/\dA b S.length (S.length+1) (uy me h)/\b.length=S.length+2/\Fr [] S b:=by
 have c:∀{o a:dR},(S++[o])++[a]=S++[o,a]:=λ{o a}=>by rw[an5];rfl
 have st:∀{o a:dR}{l:bL},(S++o::l).set S.length a=S++a::l:=λ{o a l}=>by rw[List.set_append_right _ _ (amj _),anQ];rfl
 have gt:∀{o:dR}{l:bL},(S++o::l)[S.length]? = some o:=λ{o l}=>by rw[ams (amj _),anQ];rfl
 refine⟨S++[.a' "Asker" ((uy me h).fs (S.length+1)),.l []],GN (U':=[.v (.ref S.length),.v (.int me),.v h]) rfl ?_,⟨gt,?_⟩,by rw[amf];rfl,.app⟩
 .show bO _ (HP [.v (.ref S.length),.v (.int me),cf h]) _ _
  rw[hh]
  repeat' (refine RH gt (by rfl) rfl (mK rfl) ?_;rw[st])
  refine c7 (x_at RJ rfl (.of rfl) (by rw[c];exact gt) (mK rfl)) ?_;rw[c,st,amf];refine RH gt (by rfl) rfl (mK rfl) ?_;rw[st];have:=x_at (S:=S++[dR.a' "Asker" [("me",D.int me),("epoch",.int 0),("hall",h),("opening",Cu),("over_known",.ay false),("greatest_round",.int 0),("last_stamp",cn (0,0)),("wishes",.int 0),("deed",.aP),("standing",.str "calm"),("last_outcome",.aP),("grants",.ref (S.length+1)),("kept_mask",a6 0)],.l []]) (f:="told_slate") (mv:=dt (bb .aP)) (U:=[.v (.ref S.length),.v (.int me),.v h]) (mo:=J 0) rfl rfl (.of rfl) gt (mK rfl);rw[st]at this;exact this
 .rw[ams (by omega),Nat.add_sub_cancel_left];rfl
def f'(b:amz x=true)(a:amz y=true):oEq (.v (.str x)) (.v (.str y))=pure (.v (.ay (x==y))):=nD b a
def agQ(b:amz x=true)(a:amz y=true):ea (.v (.str x)) (.v (.str y))=pure (.v (.ay (!(x==y)))):=rx b a
def Pj:amz "calm"=true:=by decide +kernel
def Ph:amz "asking"=true:=by decide +kernel
def Pk:amz "telling"=true:=by decide +kernel
def mV:amz "late"=true:=by decide +kernel
def bx.jZ(a:bx):Prop:=a.sg="calm"\/a.sg="asking"\/a.sg="telling"
def uY{a:bx}(h:a.jZ):amz a.sg=true:=by rcases h with h|h|h<;>rw[h]<;>decide +kernel
def calm_eq{a:bx}(h:a.jZ):oEq (.v (.str a.sg)) (.v (.str "calm"))=pure (.v (.ay (a.sg == "calm"))):=f' (uY h) Pj
def yG{a:bx}(h:a.jZ):ea (.v (.str a.sg)) (.v (.str "calm"))=pure (.v (.ay (!(a.sg == "calm")))):=agQ (uY h) Pj
structure og(h:D)(ms:List Nat)(fa fk:Nat->Bool):Prop where
 mem:mP [h]=pure (.fr (ms.map a6))
 len:ms.length<=6
 lt:∀k∈ms,k<6
 ne:ms≠[]
 ex:∃x y,h=.t [x,y]/\cf x=.v x/\cf y=.v y/\(∀m:Nat,jh 12 [x,a6 m]=pure (.v (.ay (fa m))))/\∀m:Nat,jh 12 [y,a6 m]=pure (.v (.ay (fk m)))
def bx.tells(a:bx)(t:D):bx:={ a with sg:="telling",km:=0,ts:=t }
def bx.ends(a:bx)(o:D):bx:={ a with sg:="calm",dK:=o }
def bx.vq(a:bx)(mf:d6)(ds:List D)(b:bx):Prop:=∀(S:bL)(i g:Nat),dA S i g a->∃c g',bO S (mf (.ref i::ds)) (.v .aP) c/\ez S c i g g' b
section
variable{S S1 aQ:bL}{U U':aL}{i g k:Nat}{a b c:bx}{f:Str}{d:D}{mv:bp}{r:R}{bd:b7}{aJ:fZ}
def afM(h:dA S i g a)(b:bx)(j:J k U=pure (.v (.ref i)))(l:aB S (mv U) r)(n:r.dat=pure d)(e:il f d (a.fs g)=b.fs g)(m:b.bR=a.bR):d5 S i g (d0 "Asker" f (J k) (dt mv) U) (.bt U) b:=
 ⟨_,g,x_at l.to n (.of j) h.a' EB,⟨by rw[get_set h.a',e],by rw[amk h.ne,m];exact h.ls⟩,.set (by simp),.inl rfl,by rw[amQ];exact amj _⟩
theorem tF{t:aL->M Bool}{m n:b7}(e:aB S (t U) true)(q:d5 S i g (m U) aJ c):d5 S i g (fP (fY t) m n U) aJ c:=by
 obtain⟨aQ,h,t,s⟩:=q;exact⟨aQ,h,l2 (aB.to e) t,s⟩
theorem ql{t:aL->M Bool}{m n:b7}(e:aB S (t U) false)(q:d5 S i g (n U) aJ c):d5 S i g (fP (fY t) m n U) aJ c:=by
 obtain⟨aQ,h,t,s⟩:=q;exact⟨aQ,h,m5 (aB.to e) t,s⟩
theorem tj{ms:j0}{rs:List R}(h:dA S i g a)(q:a.vq mf (rs.map R.arg) c)(l:J k U=pure (.v (.ref i)))(e:(a.fs g).lookup m=none)(j:bO S (ms U) rs S)(aw:rs.all R.h5=true):d5 S i g (jk (eJ "Asker" m mf (J k) ms) U) (.bt U) c:=by
 obtain⟨aQ,n,t,s⟩:=q _ _ _ h;exact⟨aQ,n,GL (oa h.a' (.of l) e j aw t),s⟩
theorem Dv{m:b7}(q:d5 S i g (m U) (.bt U') b)(p:∀S1 e,dA S1 i e b->d5 S1 i e (bd U') aJ c):d5 S i g (bJ m bd U) aJ c:=by
 obtain⟨S1,e,n,h⟩:=q;obtain⟨aQ,l,j,s2⟩:=p S1 e h.at';exact⟨aQ,l,c7 n j,h.trans s2⟩
theorem CW{n N:Nat}{bd:b7}{ds:List D}(h:ds.length+1=n)(q:∀S i g,dA S i g a->∃U',d5 S i g (bd (.v (.ref i)::ds.map cf++amU (N-n) .e)) (.bt U') c):a.vq (fnX n N bd) ds c:=λS i g hh=>by
 obtain⟨U',aQ,j,t,s⟩:=q S i g hh;exact⟨aQ,j,GN h t,s⟩
end
def yU{a:bx}{o:D}(b:cf o=.v o):a.vq qx [o] (a.ends o):=CW rfl λS i g h=>by
 show ∃U',d5 S i g (HT [.v (.ref i),cf o]) (.bt U') _;rw[b];exact⟨_,iX h { a with sg:="calm" } rfl (.of rfl) rfl rfl rfl λS h=>afM h (a.ends o) rfl (.of rfl) rfl rfl rfl⟩
def fp:D->Bool
 |.aP=>true|_=>false
def Aa(d:D):i3 (.v d) (.v .aP)=pure (.v (.ay (!fp d))):=by cases d<;>rfl
def zu(d:D):kZ (.v d) (.v .aP)=pure (.v (.ay (fp d))):=by cases d<;>rfl
def fX(k:Nat)(a e:Int)(s kp:cH)(w:D):D:=.t [.str "grant",a6 k,.int a,.int e,cn s,.t [cn kp,w]]
def ha(k:Nat)(a e:Int)(s:cH):D:=.t [.str "kept",a6 k,.int a,.int e,cn s,.t []]
def nV(k:Nat)(a e:Int)(s p:cH):D:=.t [.str "late",a6 k,.int a,.int e,cn s,.t [cn p]]
def bx.got(a:bx)(k:Nat)(kp:cH)(w:D):bx:={ a with bR:=a.bR++[⟨k,kp,w⟩] }
section
variable{a:bx}{ms:List Nat}{fa fk:Nat->Bool}(H:og a.h ms fa fk){k:Nat}{me e:Int}{s kp:cH}{w:D}(aM:∀g∈a.bR,g.k<6)(hl:a.bR.length<60)(av:k<6)
def Dw{a:bx}{S:bL}{i g:Nat}(h:dA S i g a)(aM:∀g∈a.bR,g.k<6)(hl:a.bR.length<=1000)(U:aL):aB S (bo o5 (a5 (hQ (bh (b8 "Asker" "grants") (J 0)))) (.v (.ref i)::U)) (.v (a6 (maskOf (a.bR.map (·.k))))):=
 fx (b2 (BS h rfl) c5) (.of (WG a.bR aM hl))
def agr{a:bx}(H:og a.h ms fa fk){S:bL}{i g:Nat}(h:dA S i g a)(d:a.bR=p::ps)(aM:∀g∈a.bR,g.k<6)(hl:a.bR.length<=1000){z:Bool}(hw:cf w=.v w)(hz:mM [w]=pure (.v (.ay z))) :
  aB S (wW [.ref i,w]) (.v (.ay (!z&&(a.bR.all λg=>decide (g.s=p.s))&&fk (maskOf (a.bR.map (·.k)))))):=by
 obtain⟨x,y,j,m,l,_,f⟩:=H.ex;have c:=SA ps p (by rw[<-d];exact hl);rw[<-d]at c;have al:aB S (aR (bo w0 (a5 (hQ (bh (b8 "Asker" "grants") (J 0))))) [.v (.ref i),.v w]) (a.bR.all λg=>decide (g.s=p.s)):=cm (fx (b2 (BS h rfl) c5) (.of c));refine iZ rfl ?_;show aB S (HY [.v (.ref i),cf w]) _;rw[hw];generalize(a.bR.all λg=>decide (g.s=p.s))=C at *;have b:aB S (aR (bo mM (a5 (J 1))) [.v (.ref i),.v w]) z:=.of (jx (call_of rfl hz))
 cases z with
 |true=>exact qs (kR (wI b) (g_ (.of rfl)))|false=>
  cases C with
  |false=>exact qs (kR (jf b (iG al)) (g_ (.of rfl)))| true=>exact iH (hZ (jf b (iG al)) (.of rfl)) (g_ (fx (b2 (b_ (r:=.v y) rfl (c_ h rfl (by show some a.h=_;rw[j])) (.of rfl)) (b2 (Dw h aM hl _) c5)) (.of (f _))))
def bx.ym(a:bx)(w:D)(b:Bool):Prop:=∀S i g,dA S i g a->aB S (wW [.ref i,w]) (.v (.ay b))
def Wy{a:bx}{s:cH}(hd:a.dd=.aP)(aw:a.ym w true):a.Do t6 [.t [cn s,w]] [] (a.ends (.t [.str "saw",.t [.int a.bj,cn s,w]])):=hs rfl λS i g h=>
 wb (hY (cm (b_ (by rw[zu,hd];rfl) (c_ h rfl rfl) (.of rfl))) (cm (i0 h.a' (.of rfl) rfl (b2 (.of rfl) c5) (aw S i g h))))<|
  Dv (tj h (yU rfl) rfl rfl (aB.to (b2 (oY (b2 (.of rfl) (b2 (oY (b2 (c_ h rfl rfl) (b2 (.of rfl) (b2 (.of rfl) c5))) rfl (am6 rfl)) c5)) rfl (am6 rfl)) c5)) rfl) λS g h=>nJ h (.of rfl)
theorem Wz{a:bx}{ms:List Nat}{s:cH}{w:D}(d:mP [a.h]=pure (.fr (ms.map a6)))(hl:ms.length<=6)(hd:fp a.dd=false\/a.ym w false){t:D}
  (c:nX [w,.int a.me,.int a.wi,a.dd]=pure (.v t)) :
  a.Do t6 [.t [cn s,w]] (ms.map (eX a.me a.bj a.st (.t [cn s,.int a.wi,a.dd,t]))) (a.tells t):=hs rfl λS i g h=>by
 have f:aB S (hE (aR (ak kZ (bh (b8 "Asker" "deed") (J 0)) (bb .aP))) (aR (dI "Asker" "sees_at_once" wW (J 0) (a5 (aI 1 1)))) [.v (.ref i),.v (.t [cn s,w]),.e]) false:=by
  have b:aB S (aR (ak kZ (bh (b8 "Asker" "deed") (J 0)) (bb .aP)) [.v (.ref i),.v (.t [cn s,w]),.e]) (fp a.dd):=cm (b_ (zu a.dd) (c_ h rfl rfl) (.of rfl))
  cases q:fp a.dd with
  |false=>rw[q]at b;exact kQ b|true=>
   rw[q]at b;rcases hd with z|z
   .rw[q]at z;cases z
   .exact hY b (cm (i0 h.a' (.of rfl) rfl (b2 (.of rfl) c5) (z S i g h)))
 exact lJ f<|
  iX h { a with sg:="telling" } rfl (.of rfl) rfl rfl rfl λS h=>
  iX h { a with sg:="telling",km:=0 } rfl (.of rfl) rfl rfl rfl λS h=>
  iX h (a.tells t) rfl (fx (b2 (.of rfl) (b2 (c_ h rfl rfl) (b2 (c_ h rfl rfl) (b2 (c_ h rfl rfl) c5)))) (.of c)) rfl rfl rfl λS h=>
  y' (i1 (oY (b2 (.of rfl) (b2 (c_ h rfl rfl) (b2 (c_ h rfl rfl) (b2 (c_ h rfl rfl) c5)))) rfl (am6 rfl)) rfl)<|
  nJ h (zz (NW (NX (fx (b2 (c_ h rfl rfl) c5) (.of d)) rfl) (by rw[amh];exact gD (by omega))
   (Ep a6 (eX a.me a.bj a.st (.t [cn s,.int a.wi,a.dd,t])) ms λk _=>fx (b2 (c_ h rfl rfl) (b2 (.of rfl) (b2 (c_ h rfl rfl) (b2 (c_ h rfl rfl) (b2 (.of rfl) c5))))) (.of rfl))))
include aM hl
theorem DS{S:bL}(h:dA S i g a):aB S (aR (bo qA (bH (bo o5 (a5 (hQ (bh (b8 "Asker" "grants") (J 0))))) (aI 1 1))) [.v (.ref i),.v (fX k me e s kp w)]) (dG (maskOf (a.bR.map (·.k))) k):=
 cm (fx (b2 (Dw h aM (by omega) _) (b2 (.of rfl) c5)) (.of (DB _ k)))
theorem YT(q:dG (maskOf (a.bR.map (·.k))) k=true):a.Do t7 [fX k me e s kp w] [] a:=hs rfl λS i g h=>
 rH h (by have:=DS (k:=k) (me:=me) (e:=e) (s:=s) (kp:=kp) (w:=w) aM hl h;rw[q]at this;exact this) (.of rfl)
include H av
theorem MC{S:bL}(h:dA S i g (a.got k kp w)):aB S (eE (aR (bo (jh 12) (bH (gq (bh (b8 "Asker" "hall") (J 0)) 0) (bo o5 (a5 (hQ (bh (b8 "Asker" "grants") (J 0)))))))) [.v (.ref i),.v (fX k me e s kp w)]) (!fa (maskOf ((a.got k kp w).bR.map (·.k)))):=by
 obtain⟨x,y,d,_,_,b,_⟩:=H.ex;have c:=Dw h (λg h=>by
  rcases amF.mp h with h|h
  .exact aM g h
  .rw[amo.mp h];exact av) (by show(a.bR++[_]).length<=1000;rw[amf];show _+1<=_;omega) [.v (fX k me e s kp w)]
 exact iG (cm (fx (b2 (b_ (r:=.v x) rfl (c_ h rfl (by show some a.h=_;rw[d])) (.of rfl)) (b2 c c5)) (.of (b _))))
theorem YP(q:dG (maskOf (a.bR.map (·.k))) k=false)(bZ:fa (maskOf ((a.got k kp w).bR.map (·.k)))=false):a.Do t7 [fX k me e s kp w] [] (a.got k kp w):=hs rfl λS i g h=>
 hU (by have:=DS (k:=k) (me:=me) (e:=e) (s:=s) (kp:=kp) (w:=w) aM hl h;rw[q]at this;exact this)<|
 MB h (a.got k kp w) rfl (b2 (.of rfl) c5) rfl rfl (by omega) λS h=>
 rH h (by have:=MC (me:=me) (e:=e) (s:=s) H aM hl av h;rw[bZ]at this;exact this) (.of rfl)
theorem YS{Y:List D}{t:bx}{p:ec}{ps:List ec}(b:(a.got k kp w).bR=p::ps)(c:cf a.op=.v a.op)(q:dG (maskOf (a.bR.map (·.k))) k=false)(bZ:fa (maskOf ((a.got k kp w).bR.map (·.k)))=true)
  (go:(a.got k kp w).Do t6 [zg a.op (jv p ps)] Y t):a.Do t7 [fX k me e s kp w] Y t:=by
 have hi:=Y9 p ps a.op c (by rw[<-b];show(a.bR++[_]).length<64;rw[amf];show _+1 < _;omega);rw[<-b]at hi;exact hs rfl λS i g h=>
  hU (by have:=DS (k:=k) (me:=me) (e:=e) (s:=s) (kp:=kp) (w:=w) aM hl h;rw[q]at this;exact this)<|
  MB h (a.got k kp w) rfl (b2 (.of rfl) c5) rfl rfl (by omega) λS h=>
  hU (by have:=MC (me:=me) (e:=e) (s:=s) H aM hl av h;rw[bZ]at this;exact this)<|
  rG (rs:=[.v (zg a.op (jv p ps))]) h go rfl rfl (aB.to (b2 (fx (b2 (BS h rfl) (b2 (c_ h rfl rfl) c5)) (.of hi)) c5)) rfl
end
structure Told(ts:D)(me n:Int)(cP aS:D)(b6:Bool):Prop where
 qe:∃x,qz [ts,.int me]=pure (.v (.t [x,.int n,cP]))
 dJ:o8 [ts]=pure (.v aS)
 is:mM [ts]=pure (.v (.ay (!fp aS)))
 kC:oEq (.v aS) (.v (.str "over"))=pure (.v (.ay b6))
 ss:cf aS=.v aS
noncomputable def bx.fj(a:bx)(n:Int)(cP aS:D)(b6:Bool):bx:=
 if(!fp a.dd)=true then(if n=a.wi then a.ends (.t [.str "did",cP])else a)
 else if(fp aS)=true then a.ends (.t [.str "saw",.t [.int a.bj,cn a.st,a.ts]])
 else if b6=true then a.ends (.t [.str "saw",.t [.int a.bj,.aP,a.ts]])else a
def Vp{a:bx}{n:Int}{cP aS:D}(t:Told a.ts a.me n cP aS b6):a.vq ET [] (a.fj n cP aS b6):=CW rfl λS i g h=>by
 obtain⟨⟨x,l⟩,j,o,k,_⟩:=t;have q:aB S (aR (ak i3 (bh (b8 "Asker" "deed") (J 0)) (bb .aP)) [.v (.ref i),.v a.ts,.e]) (!fp a.dd):=cm (b_ (Aa a.dd) (c_ h rfl rfl) (.of rfl));have is:aB S (eE (aR (bo mM (a5 (J 1)))) [.v (.ref i),.v a.ts,.e]) (!!fp aS):=iG (cm (fx (.of rfl) (.of o)));have dJ:aB S (aR (ak oEq (bo o8 (a5 (J 1))) (bb (.str "over"))) [.v (.ref i),.v a.ts,.e]) b6:=cm (b_ k (fx (.of rfl) (.of j)) (.of rfl));unfold bx.fj;have st:∀{C c},d5 S i g (HS [.v (.ref i),.v a.ts,.e]) C c->d5 S i g (HR [.v (.ref i),.e,.e]) C c:=λq=>y' (i1 (c_ h rfl rfl) rfl) q
 cases e:fp a.dd with
 |false=>
  rw[e]at q;have qe:∀{m:b7}{C c},d5 S i g (m [.v (.ref i),.v a.ts,.v (.t [x,.int n,cP])]) C c->d5 S i g (bJ (b' (b9 2 (bo qz (bH (J 1) (bh (b8 "Asker" "me") (J 0)))))) m [.v (.ref i),.v a.ts,.e]) C c:=λq=>y' (i1 (fx (b2 (.of rfl) (b2 (c_ h rfl rfl) c5)) (.of l)) rfl) q
  have eq:aB S (aR (ak oEq (aI 2 1) (bh (b8 "Asker" "wishes") (J 0))) [.v (.ref i),.v a.ts,.v (.t [x,.int n,cP])]) (decide (n=a.wi)):=cm (b_ vZ (.of rfl) (c_ h rfl rfl))
  by_cases c:n=a.wi
  .rw[if_pos c]
   rw[decide_eq_true c]at eq;exact⟨_,st<|tF q<|qe<|tF eq<|tj h (yU rfl) rfl rfl (aB.to (.of rfl)) rfl⟩
  .rw[if_neg c]
   rw[decide_eq_false c]at eq;exact⟨_,st<|tF q<|qe<|ql eq<|nJ h (.of rfl)⟩
 |true=>
  rw[e]at q;have d:∀{b:bp}{w:D},aB S (b [.v (.ref i),.v a.ts,.e]) (.v w)->d5 S i g (jk (eJ "Asker" "end_wish" qx (J 0) (e5 (a5 (bM (bH (bb (.str "saw")) (bM (c2 (bh (b8 "Asker" "epoch") (J 0)) b (J 1)))))))) [.v (.ref i),.v a.ts,.e]) (.bt [.v (.ref i),.v a.ts,.e]) (a.ends (.t [.str "saw",.t [.int a.bj,w,a.ts]])):=λ{b w} f=>
   tj h (yU rfl) rfl rfl (aB.to (b2 (oY (b2 (.of rfl) (b2 (oY (b2 (c_ h rfl rfl) (b2 f (b2 (.of rfl) c5))) rfl (am6 rfl)) c5)) rfl (am6 rfl)) c5)) rfl
  cases aA:fp aS with
  |true=>
   rw[aA]at is;exact⟨_,st<|ql q<|tF is<|d (c_ h rfl rfl)⟩
  |false=>
   rw[aA]at is
   cases b6 with
   |true=>exact⟨_,st<|ql q<|ql is<|tF dJ<|d (.of rfl)⟩|false=>exact⟨_,st<|ql q<|ql is<|ql dJ<|nJ h (.of rfl)⟩
def bx.kT(a:bx):bx:=if(a.sg == "calm")=true then{ a with b6:=true }else{ a with b6:=true,sg:="calm",dK:=.t [.str "over",.aP] }
def abl{a:bx}(aw:a.jZ):a.vq EV [] a.kT:=CW rfl λS i g h=>by
 have ne:∀{S},dA S i g { a with b6:=true }->aB S (aR (ak ea (bh (b8 "Asker" "standing") (J 0)) (bb (.str "calm"))) [.v (.ref i)]) (!(a.sg == "calm")):=λh=>cm (b_ (yG aw) (c_ h rfl rfl) (.of rfl))
 unfold bx.kT
 by_cases c:(a.sg == "calm")=true
 .rw[if_pos c]
  exact⟨_,iX h { a with b6:=true } rfl (.of rfl) rfl rfl rfl λS h=>ql (by have:=ne h;rw[c]at this;exact this) (nJ h (.of rfl))⟩
 .rw[if_neg c]
  exact⟨_,iX h { a with b6:=true } rfl (.of rfl) rfl rfl rfl λS h=>tF (by have:=ne h;rw[show(a.sg == "calm")=false by simpa using c]at this;exact this) (tj h (yU rfl) rfl rfl (aB.to (.of rfl)) rfl)⟩
def bx.over(a:bx)(h o:D):bx:={ a with bj:=a.bj+1,h:=h,op:=o }
section
variable{a:bx}(aw:a.jZ){hh o:D}(hl:cf hh=.v hh)(aU:uq [a.ts]=pure (.v o))
include hl aU
theorem PA{S:bL}(h:dA S i g a)(p:∀S1,dA S1 i g (a.over hh o)->d5 S1 i g (HV [.v (.ref i),.v hh]) C c):d5 S i g (HU [.v (.ref i),cf hh]) C c:=by
 rw[hl];exact iX h { a with bj:=a.bj+1 } rfl (b_ rfl (c_ h rfl rfl) (.of rfl)) rfl rfl rfl λS h=>
  iX h { a with bj:=a.bj+1,h:=hh } rfl (.of rfl) rfl rfl rfl λS h=>
  iX h (a.over hh o) rfl (fx (b2 (c_ h rfl rfl) c5) (.of aU)) rfl rfl rfl p
include aw
theorem WA(c:a.sg="calm"):a.Do r7 [hh] [] (a.over hh o):=hs rfl λS i g h=>PA hl aU h λS h=>
 rH h (cm (b_ (by rw[calm_eq aw,c,beq_self_eq_true]) (c_ (d:=.str a.sg) h rfl rfl) (.of rfl))) (.of rfl)
theorem WB(c:a.sg≠"calm"){ms:List Nat}(e:mP [hh]=pure (.fr (ms.map a6)))(b:ms.length<=6):a.Do r7 [hh] (ms.map (fi a.me (a.bj+1) (a.cb+1,a.me))) (a.over hh o).asks:=hs rfl λS i g h=>PA hl aU h λS h=>
 hU (cm (b_ (by rw[calm_eq aw,show(a.sg == "calm")=false by simpa using c]) (c_ (d:=.str a.sg) h rfl rfl) (.of rfl)))<|rG (rs:=[]) h (BZ e b) rfl rfl rfl rfl
end
def rz(a:bx)(n:Int)(cP aS:D)(b6:Bool):(∃o,a.fj n cP aS b6=a.ends o)\/a.fj n cP aS b6=a:=by
 unfold bx.fj;split
 .split
  .exact .inl ⟨_,rfl⟩
  .exact .inr rfl
 .split
  .exact .inl ⟨_,rfl⟩
  .split
   .exact .inl ⟨_,rfl⟩
   .exact .inr rfl
def L7(a:bx)(n:Int)(cP aS:D)(b6:Bool):(a.fj n cP aS b6).ts=a.ts:=by rcases rz a n cP aS b6 with⟨o,e⟩|e<;>rw[e]<;>rfl
def Vs(a:bx)(n:Int)(cP aS:D)(b6:Bool):(a.fj n cP aS b6).bj=a.bj:=by rcases rz a n cP aS b6 with⟨o,e⟩|e<;>rw[e]<;>rfl
def C3(a:bx)(n:Int)(cP aS:D)(b6:Bool):(a.fj n cP aS b6).wi=a.wi:=by rcases rz a n cP aS b6 with⟨o,e⟩|e<;>rw[e]<;>rfl
def Vu{a:bx}(h:a.jZ)(n:Int)(cP aS:D)(b6:Bool):(a.fj n cP aS b6).jZ:=by
 rcases rz a n cP aS b6 with⟨o,e⟩|e<;>rw[e]
 .exact .inl rfl
 .exact h
def or_eq(m n:Nat):uD (.v (a6 m)) (.v (a6 n))=pure (.v (a6 (m ||| n))):=by
 rw[hA,hA,hA,<-FF];rfl
def bx.f9(a:bx)(k:Nat):bx:={ a with km:=a.km ||| maskOf [k] }
section
variable{a:bx}{ms:List Nat}{fa fk:Nat->Bool}(H:og a.h ms fa fk){k:Nat}{me e:Int}{s:cH}(av:k<6)
include H av
theorem N2{S:bL}(h:dA S i g (a.f9 k)):aB S (eE (aR (bo (jh 12) (bH (gq (bh (b8 "Asker" "hall") (J 0)) 1) (bh (b8 "Asker" "kept_mask") (J 0))))) [.v (.ref i),.v (ha k me e s),s2]) (!fk (a.f9 k).km):=by
 obtain⟨x,y,c,_,_,_,b⟩:=H.ex;exact iG (cm (fx (b2 (b_ (r:=.v y) rfl (c_ h rfl (by show some a.h=_;rw[c])) (.of rfl)) (b2 (c_ h rfl rfl) c5)) (.of (b _))))
theorem N3{S:bL}(h:dA S i g a)(p:∀S1,dA S1 i g (a.f9 k)->d5 S1 i g (HW [.v (.ref i),.v (ha k me e s),.e]) C c):d5 S i g (B7 [.v (.ref i),.v (ha k me e s),.e]) C c:=
 iX h (a.f9 k) rfl (b_ (or_eq a.km (maskOf [k])) (c_ h rfl rfl) (fx (.of (cons_of (Oz (cons_of (f6 rfl rfl rfl) rfl) rfl (am6 rfl)) rfl)) (.of (xe [k] λj b=>by rw[amo.mp b];omega)))) rfl rfl rfl p
theorem YU(q:fk (a.f9 k).km=false):a.Do r8 [ha k me e s] [] (a.f9 k):=hs rfl λS i g h=>
 N3 H av h λS h=>rH h (by have:=N2 (me:=me) (e:=e) (s:=s) (s2:=.e) H av h;rw[q]at this;exact this) (.of rfl)
variable{n:Int}{cP aS:D}{b6:Bool}(t:Told a.ts a.me n cP aS b6)(q:fk (a.f9 k).km=true)
include t q
theorem Et{S:bL}(h:dA S i g a)(p:∀S1 b,dA S1 i b ((a.f9 k).fj n cP aS b6)->d5 S1 i b (B8 [.v (.ref i),.v (ha k me e s),.v aS]) C c):d5 S i g (B7 [.v (.ref i),.v (ha k me e s),.e]) C c:=
 N3 H av h λS h=>hU (by have:=N2 (me:=me) (e:=e) (s:=s) (s2:=.e) H av h;rw[q]at this;exact this)<|
 Dv (tj (rs:=[]) h (Vp t) rfl rfl rfl rfl) λS g h=>
 y' (i1 (fx (b2 (c_ h rfl (by show some ((a.f9 k).fj n cP aS b6).ts=_;rw[L7];rfl)) c5) (.of t.dJ)) rfl) (p S g h)
theorem YX(b:fp aS=true):a.Do r8 [ha k me e s] [] ((a.f9 k).fj n cP aS b6):=hs rfl λS i g h=>Et H av t q h λS g h=>
 rH h (cm (b_ ((zu aS).trans (by rw[b])) (.of rfl) (.of rfl))) (.of rfl)
variable(aF:fp aS=false)
include aF
theorem N4{S:bL}(p:d5 S i g (HX [.v (.ref i),.v (ha k me e s),.v aS]) C c):d5 S i g (B8 [.v (.ref i),.v (ha k me e s),.v aS]) C c:=
 hU (cm (b_ ((zu aS).trans (by rw[aF])) (.of rfl) (.of rfl))) p
theorem YY(aw:a.jZ)(b:b6=true):a.Do r8 [ha k me e s] [] ((a.f9 k).fj n cP aS b6).kT:=hs rfl λS i g h=>Et H av t q h λS g h=>N4 H av t q aF<|
 wb (cm (b_ (t.kC.trans (by rw[b])) (.of rfl) (.of rfl)))<|Dv (tj h (abl (Vu (a:=a.f9 k) aw _ _ _ _)) rfl rfl rfl rfl) λS g h=>nJ h (.of rfl)
theorem MV(b:b6=false)(lo:((a.f9 k).fj n cP aS b6).Do r7 [aS] Y c):a.Do r8 [ha k me e s] Y c:=hs rfl λS i g h=>Et H av t q h λS g h=>N4 H av t q aF<|
 lJ (cm (b_ (t.kC.trans (by rw[b])) (.of rfl) (.of rfl)))<|rG (rs:=[.v aS]) h lo rfl rfl (aB.to (.of rfl)) rfl
end
def ZV(j:Nat)(a:List Nat):lT false (.v (a6 j)) (.fr (a.map a6))=pure (.v (.ay (a.contains j))):=ZU j a
def Fg{a b:Int}:ea (.v (.int a)) (.v (.int b))=pure (.v (.ay (!decide (a=b)))):=rfl
def bx.now(a:bx)(ms:List Nat)(k:Nat)(e:Int)(s:cH):Bool:=decide (e=a.bj)&&decide (s=a.st)&&ms.contains k
def Z5{a:bx}{S:bL}(h:dA S i g a)(H:og a.h ms fa fk)(w c:D)(k:Nat)(b e:Int)(s:cH):aB S (zM [.ref i,.t [w,a6 k,.int b,.int e,cn s,c]]) (.v (.ay (a.now ms k e s))):=by
 refine iZ rfl ?_;have d:aB S (aR (ak ea (aI 1 3) (bh (b8 "Asker" "epoch") (J 0))) [.v (.ref i),.v (.t [w,a6 k,.int b,.int e,cn s,c])]) (!decide (e=a.bj)):=cm (b_ Fg (.of rfl) (c_ h rfl rfl));have f:aB S (aR (ak ea (aI 1 4) (bh (b8 "Asker" "last_stamp") (J 0))) [.v (.ref i),.v (.t [w,a6 k,.int b,.int e,cn s,c])]) (!decide (s=a.st)):=cm (b_ (adn s a.st) (.of rfl) (c_ h rfl rfl));unfold bx.now;generalize decide (e=a.bj)=C at *;generalize decide (s=a.st)=g5 at *
 cases C with
 |false=>exact qs (kR (wI d) (.of rfl))|true=>
  cases g5 with
  |false=>exact qs (kR (jf d f) (.of rfl))|true=>exact iH (hZ (jf d f) (.of rfl)) (g_ (b_ (ZV k ms) (.of rfl) (fx (b2 (c_ h rfl rfl) c5) (.of H.mem))))
def mU:amz "grant"=true:=by decide +kernel
def sj:amz "kept"=true:=by decide +kernel
def abu:oEq (.v (.str "late")) (.v (.str "late"))=pure (.v (.ay true)):=by rw[f' mV mV,beq_self_eq_true]
def Du:oEq (.v (.str "grant")) (.v (.str "late"))=pure (.v (.ay false)):=by rw[f' mU mV];rfl
def Mx:oEq (.v (.str "grant")) (.v (.str "grant"))=pure (.v (.ay true)):=by rw[f' mU mU,beq_self_eq_true]
def Wv:oEq (.v (.str "grant")) (.v (.str "kept"))=pure (.v (.ay false)):=by rw[f' mU sj];rfl
def bx.EJ(a:bx)(r:Int):bx:={ a with cb:=if r > a.cb then r else a.cb }
section
variable{a:bx}{ms:List Nat}{fa fk:Nat->Bool}{S:bL}{i g:Nat}(H:og a.h ms fa fk){k:Nat}{e:Int}{s kp:cH}{w:D}
def uM(h:dA S i g a)(x b:D)(k:Nat)(e:Int)(s:cH):aB S (aR (ak ea (aI 1 2) (bh (b8 "Asker" "me") (J 0))) [.v (.ref i),.v (.t [x,a6 k,.int a.me,.int e,cn s,b])]) false:=
 cm (b_ (Fg.trans (by rw[decide_eq_true rfl];rfl)) (.of rfl) (c_ h rfl rfl))
theorem YZ(p:cH):a.Do j_ [nV k a.me e s p] [] (a.EJ p.1):=hs rfl λS i g h=>
 hU (uM h (.str "late") (.t [cn p]) k e s)<|wb (cm (b_ abu (.of rfl) (.of rfl)))<|
 iX h (a.EJ p.1) rfl (tT rfl (b2 (c_ h rfl rfl) (b2 (.of rfl) c5))) rfl rfl rfl λS h=>nJ h (.of rfl)
include H
theorem xm(h:dA S i g a)(x c:D)(k:Nat)(b e:Int)(s:cH):aB S (eE (aR (dI "Asker" "is_for_now" zM (J 0) (a5 (J 1)))) [.v (.ref i),.v (.t [x,a6 k,.int b,.int e,cn s,c])]) (!a.now ms k e s):=
 iG (cm (i0 h.a' (.of rfl) rfl (b2 (.of rfl) c5) (Z5 h H x c k b e s)))
theorem MW(x b:D)(c:oEq (.v x) (.v (.str "late"))=pure (.v (.ay false)))(q:a.now ms k e s=false):a.Do j_ [.t [x,a6 k,.int a.me,.int e,cn s,b]] [] a:=hs rfl λS i g h=>
 hU (uM h x b k e s)<|lJ (cm (b_ c (.of rfl) (.of rfl)))<|rH h (by have:=xm H h x b k a.me e s;rw[q]at this;exact this) (.of rfl)
variable(aw:a.jZ)
include aw
theorem DI(q:a.now ms k e s=true)(c:a.sg="asking")(g:a.Do t7 [fX k a.me e s kp w] Y t):a.Do j_ [fX k a.me e s kp w] Y t:=hs rfl λS i j h=>
 hU (uM h (.str "grant") (.t [cn kp,w]) k e s)<|lJ (cm (b_ Du (.of rfl) (.of rfl)))<|
 hU (by have:=xm H h (.str "grant") (.t [cn kp,w]) k a.me e s;rw[q]at this;exact this)<|
 wb (hY (cm (b_ Mx (.of rfl) (.of rfl))) (cm (b_ (by rw[f' (uY aw) Ph,c,beq_self_eq_true]) (c_ h rfl rfl) (.of rfl))))<|
 rG (rs:=[.v (fX k a.me e s kp w)]) h g rfl rfl (aB.to (.of rfl)) rfl
theorem YQ(q:a.now ms k e s=true)(c:a.sg≠"asking"):a.Do j_ [fX k a.me e s kp w] [] a:=hs rfl λS i j h=>
 hU (uM h (.str "grant") (.t [cn kp,w]) k e s)<|lJ (cm (b_ Du (.of rfl) (.of rfl)))<|
 hU (by have:=xm H h (.str "grant") (.t [cn kp,w]) k a.me e s;rw[q]at this;exact this)<|
 lJ (hY (cm (b_ Mx (.of rfl) (.of rfl))) (cm (b_ (by rw[f' (uY aw) Ph,show(a.sg == "asking")=false by simpa using c]) (c_ h rfl rfl) (.of rfl))))<|
 lJ (kQ (cm (b_ Wv (.of rfl) (.of rfl))))<|nJ h (.of rfl)
end
section
variable{a:bx}{ms:List Nat}(hm:mP [a.h]=pure (.fr (ms.map a6)))(hl:ms.length<=6)
include hm hl
theorem T5(aw:a.jZ)(c:a.sg≠"calm"):a.Do t5 [] (ms.map (fi a.me a.bj (a.cb+1,a.me))) a.asks:=hs rfl λS i g h=>
 hU (cm (b_ (by rw[calm_eq aw,show(a.sg == "calm")=false by simpa using c]) (c_ h rfl rfl) (.of rfl)))<|rG (rs:=[]) h (BZ hm hl) rfl rfl rfl rfl
def bx.jd(a:bx)(d:D):bx:={ a with wi:=a.wi+1,dd:=d,dK:=.aP }
theorem T1(aw:a.sg="calm")(c:a.b6=false)(hd:cf d=.v d)(b:d=.aP\/nY [d]=pure (.v (.ay true))):a.Do zL [d] (ms.map (fi a.me a.bj (a.cb+1,a.me))) (a.jd d).asks:=hs rfl λS i g h=>by
 show d5 S i g (HQ [.v (.ref i),cf d]) _ _;rw[hd];have nn:aB S (aR (ak i3 (J 1) (bb .aP)) [.v (.ref i),.v d]) (!fp d):=cm (b_ (Aa d) (.of rfl) (.of rfl));have e:aB S (hE (aR (ak i3 (J 1) (bb .aP))) (eE (aR (bo nY (a5 (J 1))))) [.v (.ref i),.v d]) false:=by
  rcases b with rfl|b
  .exact kQ nn
  .cases q:fp d with
   |true=>rw[q]at nn;exact kQ nn|false=>rw[q]at nn;exact hY nn (iG (cm (fx (b2 (x:=.v d) (.of rfl) c5) (.of b))))
 exact hU e<|
  hU (cm (c_ h rfl (by show some (D.ay a.b6)=_;rw[c])))<|
  hU (cm (b_ (by rw[yG (.inl aw),aw,beq_self_eq_true];rfl) (c_ h rfl rfl) (.of rfl)))<|
  iX h { a with wi:=a.wi+1 } rfl (b_ rfl (c_ h rfl rfl) (.of rfl)) rfl rfl rfl λS h=>
  iX h { a with wi:=a.wi+1,dd:=d } rfl (.of rfl) rfl rfl rfl λS h=>
  iX h (a.jd d) rfl (.of rfl) rfl rfl rfl λS h=>
  rG (rs:=[]) h (BZ hm hl) rfl rfl rfl rfl
end
def T2{a:bx}(c:a.sg="calm"):a.Do t5 [] [] a:=hs rfl λS i g h=>
 rH h (cm (b_ (by rw[calm_eq (.inl c),c,beq_self_eq_true]) (c_ (d:=.str a.sg) h rfl rfl) (.of rfl))) (.of rfl)
def Al:amz "kept"=true:=by decide +kernel
def EA:oEq (.v (.str "kept")) (.v (.str "late"))=pure (.v (.ay false)):=by rw[f' Al mV];rfl
def N9:oEq (.v (.str "kept")) (.v (.str "grant"))=pure (.v (.ay false)):=by rw[f' Al mU];rfl
def N_:oEq (.v (.str "kept")) (.v (.str "kept"))=pure (.v (.ay true)):=by rw[f' Al Al,beq_self_eq_true]
section
variable{a:bx}{ms:List Nat}{fa fk:Nat->Bool}(H:og a.h ms fa fk)(aw:a.jZ){k:Nat}{e:Int}{s:cH}
include H aw
theorem wt(q:a.now ms k e s=true)(c:a.sg="telling")(g:a.Do r8 [ha k a.me e s] Y t):a.Do j_ [ha k a.me e s] Y t:=hs rfl λS i j h=>
 hU (uM h (.str "kept") (.t []) k e s)<|lJ (cm (b_ EA (.of rfl) (.of rfl)))<|
 hU (by have:=xm H h (.str "kept") (.t []) k a.me e s;rw[q]at this;exact this)<|
 lJ (kQ (cm (b_ N9 (.of rfl) (.of rfl))))<|
 wb (hY (cm (b_ N_ (.of rfl) (.of rfl))) (cm (b_ (by rw[f' (uY aw) Pk,c,beq_self_eq_true]) (c_ h rfl rfl) (.of rfl))))<|
 rG (rs:=[.v (ha k a.me e s)]) h g rfl rfl (aB.to (.of rfl)) rfl
theorem YV(q:a.now ms k e s=true)(c:a.sg≠"telling"):a.Do j_ [ha k a.me e s] [] a:=hs rfl λS i j h=>
 hU (uM h (.str "kept") (.t []) k e s)<|lJ (cm (b_ EA (.of rfl) (.of rfl)))<|
 hU (by have:=xm H h (.str "kept") (.t []) k a.me e s;rw[q]at this;exact this)<|
 lJ (kQ (cm (b_ N9 (.of rfl) (.of rfl))))<|
 lJ (hY (cm (b_ N_ (.of rfl) (.of rfl))) (cm (b_ (by rw[f' (uY aw) Pk,show(a.sg == "telling")=false by simpa using c]) (c_ h rfl rfl) (.of rfl))))<|
 nJ h (.of rfl)
end
structure cU where
 as:List bx
 bs:List D
 ls:List D
 rs:List D
structure gK where
 a:Nat
 b:Nat
 l:Nat
 r:Nat
 q:List (Nat×Nat)
def gK.has(p:gK)(i y:Nat):Prop:=y=i\/y∈[p.a,p.b,p.l,p.r]\/∃x∈p.q,y=x.1\/y=x.2
def gK.fs(p:gK):List (Str×D):=[("askers",.ref p.a),("books",.ref p.b),("letters",.ref p.l),("rows",.ref p.r)]
structure dP(S:bL)(i:Nat)(p:gK)(h:cU):Prop where
 a':S[i]? = some (.a' "House" p.fs)
 al:S[p.a]? = some (.l (p.q.map λx=>.ref x.1))
 bs:S[p.b]? = some (.l h.bs)
 ls:S[p.l]? = some (.l h.ls)
 rs:S[p.r]? = some (.l h.rs)
 len:p.q.length=h.as.length
 as:∀(k:Nat)(x:Nat×Nat)(a:bx),p.q[k]? = some x->h.as[k]? = some a->dA S x.1 x.2 a
 nl:[p.a,p.b,p.l,p.r].Nodup
 uA:∀x∈p.q,x.2∉[p.a,p.b,p.l,p.r]
 gC:∀(j k:Nat)(x y:Nat×Nat),p.q[j]? = some x->p.q[k]? = some y->j≠k->x.1≠y.1/\x.2≠y.2
structure g7(S aq:bL)(i:Nat)(p eP:gK)(h:cU):Prop where
 at':dP aq i eP h
 fr:∀j o,¬p.has i j->S[j]? = some o->aq[j]? = some o
 nw:∀x,eP.has i x->p.has i x\/S.length<=x
 len:S.length<=aq.length
def ly(S:bL)(i:Nat)(p:gK)(m:N fZ)(b:fZ)(h:cU):Prop:=∃a c,bO S m b a/\g7 S a i p c h
def cU.Do(h:cU)(mf:d6)(ds:List D)(r:R)(h':cU):Prop:=∀(S:bL)(i:Nat)(p:gK),dP S i p h->∃a b,bO S (mf (.ref i::ds)) r a/\g7 S a i p b h'
def cU.put(h:cU)(k:Nat)(a:bx):cU:={ h with as:=h.as.set k a }
def cU.wr(h:cU)(L:List D):cU:={ h with ls:=h.ls++L }
def cU.row(h:cU)(r:D):cU:={ h with rs:=h.rs++[r] }
def cU.bk(h:cU)(k:Nat)(b:D):cU:={ h with bs:=h.bs.set k b }
def ux{S:bL}{x y:Nat}{o b:dR}(a:S[x]? = some o)(c:S[y]? = some b)(n:o≠b):x≠y:=λe=>n (by rw[e,c]at a;exact(amH a).symm)
section
variable{S S1 aQ:bL}{i k:Nat}{p p1 cz:gK}{h ae ag:cU}{x:Nat×Nat}{a b:bx}{U:aL}
def g7.refl(H:dP S i p h):g7 S S i p p h:=⟨H,λ_ _ _ e=>e,λ_ h=>.inl h,amj _⟩
theorem g7.trans(s:g7 S S1 i p p1 ae)(t:g7 S1 aQ i p1 cz ag):g7 S aQ i p cz ag:=
 ⟨t.at',λj o c e=>t.fr j o (λz=>(s.nw j z).elim c λz=>by have:=kU e;omega) (s.fr j o c e),λx z=>(t.nw x z).elim (s.nw x) λz=>.inr (amN s.len z),amN s.len t.len⟩
theorem dP.lt(H:dP S i p h)(d:p.has i y):y<S.length:=by
 rcases d with rfl|z|⟨x,C,z⟩
 .exact kU H.a'
 .simp only[amw,am4,or_false]at z
  rcases z with rfl|rfl|rfl|rfl
  .exact kU H.al
  .exact kU H.bs
  .exact kU H.ls
  .exact kU H.rs
 .obtain⟨k,c⟩:=apw.mp C
  have A:=H.as k x _ c (amB (by rw[<-H.len];exact((nu.mp c).1)));rcases z with rfl|rfl
  .exact kU A.a'
  .exact kU A.ls
def dP.ex(H:dP S i p h)(e:h.as[k]? = some a):∃x,p.q[k]? = some x/\dA S x.1 x.2 a:=by
 have hl:k<p.q.length:=by rw[H.len];exact(nu.mp e).1
 exact⟨_,amB hl,H.as k _ a (amB hl) e⟩
def dP.step(H:dP S i p h)(t:p.q[k]? = some x)(M:h.as[k]? = some a)(s:ez S S1 x.1 x.2 g' b):g7 S S1 i p { p with q:=p.q.set k (x.1,g') } (h.put k b):=by
 have A:=H.as k x a t M;have G:=(nu.mp t).1;have u:=amD t;have keep:∀y o,S[y]? = some o->y≠x.1->y≠x.2->S1[y]? = some o:=λy o e g f=>s.fr y o (by simp[g,f]) e
 have J:∀y xs,y∈[p.a,p.b,p.l,p.r]->S[y]? = some (.l xs)->S1[y]? = some (.l xs):=λy xs F e=>keep y _ e (ux e A.a' (by intro z;cases z)) λz=>H.uA x u (z▸F)
 have bE:(p.q.set k (x.1,g')).map (λx=>az.D.ref x.1)=p.q.map λx=>az.D.ref x.1:=by
  rw[List.map_set];refine List.ext_getElem? λj=>?_
  by_cases c:k=j
  .subst c
   rw[amx (by rw[amh];exact G),amE,t];rfl
  .rw[amk c]
 have K:g'∉[p.a,p.b,p.l,p.r]:=by
  rcases s.nw with z|z
  .rw[z];exact H.uA x u
  .intro N
   have:=H.lt (.inr (.inl N));omega
 refine⟨⟨keep i _ H.a' (ux H.a' A.a' (by intro z;injection z with z _;exact absurd z (by decide))) (ux H.a' A.ls (by intro z;cases z)),by rw[bE];exact J _ _ (by simp) H.al,J _ _ (by simp) H.bs,J _ _ (by simp) H.ls,J _ _ (by simp) H.rs,by rw[amQ];unfold cU.put;rw[amQ];exact H.len,λj y c d E=>?_,H.nl,λy F=>?_,λj l y z n el ne=>?_⟩,
  λj o L e=>s.fr j o (by
   simp only[amw,am4,or_false,not_or];exact⟨λz=>L (.inr (.inr ⟨x,u,.inl z⟩)),λz=>L (.inr (.inr ⟨x,u,.inr z⟩))⟩) e,λy F=>?_,s.len⟩
 .have d:=d
  have E:(h.as.set k b)[j]? = some c:=E
  by_cases q:k=j
  .subst q
   rw[amx G]at d;rw[amx (nu.mp M).1]at E;cases d;cases E;exact s.at'
  .rw[amk q]at d E
   have B:=H.as j y c d E;obtain⟨g,f⟩:=H.gC j k y x d t (an4 q);exact⟨keep _ _ B.a' g (ux B.a' A.ls (by intro z;cases z)),keep _ _ B.ls (ux B.ls A.a' (by intro z;cases z)) f⟩
 .rcases aoi F with z|rfl
  .exact H.uA y z
  .exact K
 .have n:=n
  have old:∀m w,k≠m->p.q[m]? = some w->x.1≠w.1/\g'≠w.2:=λm w P O=>by
   obtain⟨g,f⟩:=H.gC k m x w t O P;refine⟨g,?_⟩;rcases s.nw with z|z
   .rw[z];exact f
   .intro N
    have:=H.lt (.inr (.inr ⟨w,amD O,.inr rfl⟩));omega
  by_cases bh:k=j
  .subst bh
   rw[amx G]at n;rw[amk ne]at el;cases n;exact old l z ne el
  .rw[amk bh]at n
   by_cases ak:k=l
   .subst ak
    rw[amx G]at el;cases el;obtain⟨g,f⟩:=old j y (an4 ne) n;exact⟨g.symm,f.symm⟩
   .rw[amk ak]at el
    exact H.gC j l y z n el ne
 .rcases F with z|z|⟨w,hw,z⟩
  .exact .inl (.inl z)
  .exact .inl (.inr (.inl z))
  .rcases aoi hw with v|rfl
   .exact .inl (.inr (.inr ⟨w,v,z⟩))
   .rcases z with z|z
    .exact .inl (.inr (.inr ⟨x,u,.inl z⟩))
    .rcases s.nw with v|v
     .exact .inl (.inr (.inr ⟨x,u,.inr (z.trans v)⟩))
     .exact .inr (by rw[z];exact v)
theorem dP.FV{o:dR}{h':cU}(H:dP S i p h)(d:c∈[p.b,p.l,p.r])(g:h'.as=h.as)(ao:(S.set c o)[p.b]? = some (.l h'.bs))(aA:(S.set c o)[p.l]? = some (.l h'.ls))(bK:(S.set c o)[p.r]? = some (.l h'.rs)):g7 S (S.set c o) i p p h':=by
 have hl:∃xs,S[c]? = some (.l xs):=by
  simp only[amw,am4,or_false]at d;rcases d with rfl|rfl|rfl
  .exact⟨_,H.bs⟩
  .exact⟨_,H.ls⟩
  .exact⟨_,H.rs⟩
 obtain⟨xs,hl⟩:=hl;have m:c∈[p.a,p.b,p.l,p.r]:=amr _ d;have nb:∀{y:Nat}{cl:Str}{fs:List (Str×az.D)},S[y]? = some (dR.a' cl fs)->(S.set c o)[y]? = some (dR.a' cl fs):=λe=>by rw[amk (ux hl e (by intro z;cases z))];exact e
 have na:c≠p.a:=λz=>(ane.mp H.nl).1 (z▸d)
 refine⟨⟨nb H.a',by rw[amk na];exact H.al,ao,aA,bK,by rw[g];exact H.len,λk x a f he=>?_,H.nl,H.uA,H.gC⟩,λj q n e=>?_,λ_ z=>.inl z,by rw[amQ];exact amj _⟩
 .rw[g]at he
  have A:=H.as k x a f he;exact⟨nb A.a',by rw[amk λz:c=x.2=>H.uA x (amD f) (z▸m)];exact A.ls⟩
 .rw[amk λz:c=j=>n (z▸.inr (.inl m))];exact e
def dP.ns(H:dP S i p h):p.b≠p.l/\p.b≠p.r/\p.l≠p.r:=by
 have:=H.nl;simp only[ane,amw,am4,or_false,not_or]at this;exact⟨this.2.1.1,this.2.1.2,this.2.2.1⟩
def dP.wr(H:dP S i p h)(L:List D):g7 S (S.set p.l (.l (h.ls++L))) i p p (h.wr L):=by
 obtain⟨c,e,d⟩:=H.ns;exact H.FV (by simp) rfl (by rw[amk c.symm];exact H.bs) (get_set H.ls) (by rw[amk d];exact H.rs)
def dP.row(H:dP S i p h)(r:D):g7 S (S.set p.r (.l (h.rs++[r]))) i p p (h.row r):=by
 obtain⟨e,c,d⟩:=H.ns;exact H.FV (by simp) rfl (by rw[amk c.symm];exact H.bs) (by rw[amk d.symm];exact H.ls) (get_set H.rs)
def dP.bk(H:dP S i p h)(j:Nat)(b:D):g7 S (S.set p.b (.l (h.bs.set j b))) i p p (h.bk j b):=by
 obtain⟨d,c,e⟩:=H.ns;exact H.FV (by simp) rfl (get_set H.bs) (by rw[amk d];exact H.ls) (by rw[amk c];exact H.rs)
def En{f g:R->R->M R}{a b c:bp}{x y w r:R}(ae:aB S (a U) x)(ag:aB S (b U) y)(e:f x y=pure (.v (.ay true)))(d:aB S (c U) w)(aA:g y w=pure r):aB S (e0 f g a b c U) r:=
 ae.bind (ag.bind ((aB.of e).bind ((aB.of rfl).bind (d.bind (.of aA)))))
def aaw{n N:Nat}{b:aW}{ds xs:List D}(h:ds.length=n)(e:aB S (b (ds.map cf++amU (N-n) .e)) (.cx (.fr xs))):aB S (fnOf n N b ds) (.fr xs):=by
 rw[yQ,if_pos h];exact e.bind (.of rfl)
def zx{i:Int}{v:D}(e:d7 xs i=some v):eC (.mv xs) (.v (.int i))=pure (.v v):=by
 show(match d7 xs i with|some d=>pure (R.v d)|none=>bad)=_;rw[e]
def aav{ms:c3}{a b:Int}(h:aB S (ms U) [.v (.int a),.v (.int b)])(e:wQ [.v (.int a),.v (.int b)]=pure (.fr ys)):aB S (yE ms U) (.fr ys):=h.bind (.of e)
theorem ai6{mo:bp}{ms:c3}{xs c:List D}{r:R}(ae:aB S (mo U) (.v (.ref i)))(ag:aB S (ms U) [r])(d:r.fL=some c)(h:S[i]? = some (.l xs))(z:xs.length+c.length<=ami):bO S (n' xW mo ms U) (.bt U) (S.set i (.l (xs++c))):=
 ae.to.bind (ag.to.bind ((lN h).to.bind ((aB.to (a:=(R.v .aP,xs++c)) (.of (by show(match r.fL with|some c=>_|none=>_)=_;rw[d];show(hR (xs.length+c.length<=ami) >>= _)=_;rw[JQ z];rfl))).bind rfl)))
def ai7{mo mk:bp}{mv:eo}{xs:List D}{r:R}{d:D}{j:Nat}(c:bO S (mv U) r S1)(e:r.dat=pure d)(ae:aB S1 (mo U) (.v (.ref i)))(ag:aB S1 (mk U) (.v (.int j)))(h:S1[i]? = some (.l xs))(f:j<xs.length):bO S (A_ mo mk mv U) (.bt U) (S1.set i (.l (xs.set j d))):=
 c.bind ((aB.of e).to.bind (ae.to.bind (ag.to.bind ((lN h).to.bind (by show bO S1 (if 0<=(j:Int)/\(j:Int)<xs.length then _ else _) _ _;rw[if_pos ⟨by omega,by omega⟩];rfl)))))
def GP{mf:d6}{mo:bp}{ms:j0}{fs:List (Str×D)}{rs:List R}{r:R}(h:S[i]? = some (.a' c fs))(ae:aB S (mo U) (.v (.ref i)))(d:fs.lookup m=none)(ag:bO S (ms U) rs S1)(aw:rs.all R.h5=true)(e:bO S1 (mf (.ref i::rs.map R.arg)) r aQ):bO S (eJ c m mf mo ms U) r aQ:=ae.to.bind ((lN h).to.bind (by show bO S (if c=c/\fs.lookup m=none then _ else _) _ _;rw[if_pos ⟨rfl,d⟩];exact ag.bind (by rw[if_pos aw];exact e)))
def GQ{m:eo}{r:R}(h:bO S (m U) r S1):bO S (vd m cQ U) [r] S1:=h.bind rfl
def mD(H:dP S i p h)(c:J k U=pure (.v (.ref i)))(e:p.fs.lookup f=some d):aB S (bh (b8 "House" f) (J k) U) (.v d):=NU H.a' (.of c) e
def abO(H:dP S i p h):aB S (mL [.ref i]) (.v (.int h.ls.length)):=iZ rfl (g_ (tT rfl (b2 (qr H.ls (mD H rfl rfl)) c5)))
def rY(H:dP S i p h)(c:J k U=pure (.v (.ref i))):aB S (dI "House" "many" mL (J k) cQ U) (.v (.int h.ls.length)):=i0 H.a' (.of c) rfl c5 (abO H)
def EL(H:dP S i p h)(e:h.ls[k]? = some d):aB S (t_ [.ref i,.int k]) (.v d):=by
 have c:=(nu.mp e).1;exact iZ rfl (iH (hZ (jf (iG (cm (fx (rs:=[.v (.int k)]) (.of rfl) (.of (pK _))))) (iG (cm (En (.of rfl) (.of rfl) (by show pure (R.v (.ay (decide ((0:Int)<=k))))=_;rw[decide_eq_true (by omega)]) (rY H rfl) (r:=.v (.ay true)) (by show pure (R.v (.ay (decide ((k:Int)<h.ls.length))))=_;rw[decide_eq_true (by omega)]))))) (.of rfl))
  (g_ (b_ (zx (lD k e)) (qr H.ls (mD H rfl rfl)) (.of rfl))))
def SO(H:dP S i p h)(e:p.q[k]? = some x):aB S (qy [.ref i,.int k]) (.v (.ref x.1)):=by
 have c:=(nu.mp e).1;exact iZ rfl (iH (hZ (jf (iG (cm (fx (rs:=[.v (.int k)]) (.of rfl) (.of (pK _))))) (iG (cm (En (.of rfl) (.of rfl) (by show pure (R.v (.ay (decide ((0:Int)<=k))))=_;rw[decide_eq_true (by omega)]) (tT rfl (b2 (qr H.al (mD H rfl rfl)) c5)) (r:=.v (.ay true)) (by show pure (R.v (.ay (decide ((k:Int)<((p.q.map λx=>az.D.ref x.1).length:Nat)))))=_;rw[amh,decide_eq_true (by omega)]))))) (.of rfl))
  (g_ (b_ (zx (lD k (by rw[amE,e];rfl))) (qr H.al (mD H rfl rfl)) (.of rfl))))
def wH(H:dP S i p h)(e:p.q[k]? = some x)(c:J j U=pure (.v (.ref i)))(hl:J l U=pure (.v (.int k))):aB S (dI "House" "asker_of" qy (J j) (a5 (J l)) U) (.v (.ref x.1)):=i0 H.a' (.of c) rfl (b2 (.of hl) c5) (SO H e)
def aeI(A:dA S j g a):aB S (EW [.ref j]) (.v a.dK):=iZ rfl (g_ (c_ A rfl rfl))
def O'(A:dA S j g a):aB S (zN [.ref j]) (.v (.int a.wi)):=iZ rfl (g_ (c_ A rfl rfl))
def Gk(A:dA S j g a):aB S (t8 [.ref j]) (.v (.str a.sg)):=iZ rfl (g_ (c_ A rfl rfl))
def afv(A:dA S j g a):aB S (EX [.ref j]) (.v (.t [.int a.bj,a.h,a.op])):=iZ rfl (g_ (oY (b2 (c_ A rfl rfl) (b2 (c_ A rfl rfl) (b2 (c_ A rfl rfl) c5))) rfl (am6 rfl)))
def aaT(A:dA S j g a):aB S (EU [.ref j]) (.v (.ay a.b6)):=iZ rfl (g_ (c_ A rfl rfl))
def wG{mf:bz}{r:R}(A:dA S j g a)(d:J l U=pure (.v (.ref j)))(c:(a.fs g).lookup m=none)(e:aB S (mf [.ref j]) r):aB S (dI "Asker" m mf (J l) cQ U) r:=i0 A.a' (.of d) c c5 e
theorem Zu(H:dP S i p h)(e:h.as[k]? = some a):aB S (zR [.ref i,.int k]) (.v (.str a.sg)):=by
 obtain⟨x,ex,A⟩:=H.ex e;exact iZ rfl (g_ (i0 A.a' (wH H ex rfl rfl) rfl c5 (Gk A)))
theorem Zt(H:dP S i p h)(e:h.as[k]? = some a):aB S (wZ [.ref i,.int k]) (.v (.t [.int a.bj,a.h,a.op])):=by
 obtain⟨x,ex,A⟩:=H.ex e;exact iZ rfl (g_ (i0 A.a' (wH H ex rfl rfl) rfl c5 (afv A)))
theorem Zs(H:dP S i p h)(e:h.as[k]? = some a):aB S (zP [.ref i,.int k]) (.v (.ay a.b6)):=by
 obtain⟨x,ex,A⟩:=H.ex e;exact iZ rfl (g_ (i0 A.a' (wH H ex rfl rfl) rfl c5 (aaT A)))
end
section
variable{h h':cU}{k:Nat}{a b:bx}{Y:List D}{d:D}
def A8(h:cU)(L:List D)(hz:h.ls.length+L.length<=1000000):h.Do ua [.l L] (.fr (fM h.ls.length L.length)) (h.wr L):=λS i p H=>by
 have W:=H.wr L;have f:∀n,n<=1000000->n<=ami:=λn g=>by rw[amS];omega
 have c:wQ [.v (.int (h.ls.length:Nat)),.v (.int ((h.wr L).ls.length:Nat))]=pure (.fr (fM h.ls.length L.length)):=by
  have e:(h.wr L).ls.length=h.ls.length+L.length:=amf;rw[Vk,e,show(((h.ls.length+L.length:Nat):Int)-(h.ls.length:Nat)).toNat=L.length by omega,if_pos ⟨⟨by omega,by omega,by omega,by omega⟩,by omega,f _ (by omega)⟩];rfl
 exact⟨_,p,vg rfl<|c7 (aB.to (i1 (rY H rfl) rfl))<|c7 (ai6 (mD H rfl rfl) (b2 (.of rfl) c5) rfl H.ls (f _ hz))<|aB.to (zz (aav (b2 (.of rfl) (b2 (rY W.at' rfl) c5)) c)),W⟩
def T3(e:h.as[k]? = some a)(g:a.Do t5 [] Y b)(hz:h.ls.length+Y.length<=1000000):h.Do zO [.int k] (.fr (fM h.ls.length Y.length)) ((h.put k b).wr Y):=λS i p H=>by
 obtain⟨x,ex,A⟩:=H.ex e;obtain⟨S1,n,m,l⟩:=g S x.1 x.2 A;have c:=H.step ex e l;obtain⟨f,cz,j,s2⟩:=A8 (h.put k b) Y hz S1 i _ c.at';exact⟨f,cz,vg rfl (x5 (GP H.a' (.of rfl) rfl (GQ (oa A.a' (wH H ex rfl rfl) rfl rfl rfl m)) rfl j)),c.trans s2⟩
def Zo(e:h.as[k]? = some a)(hd:cf d=.v d)(g:a.Do zL [d] Y b)(hz:h.ls.length+Y.length<=1000000)(r:h.rs.length<=100000) :
  h.Do wX [.int k,d] (.fr (fM h.ls.length Y.length)) (((h.put k b).row (.t [.str "begin",.int k,.int b.wi,d,.int h.ls.length])).wr Y):=λS i p H=>by
 refine a4 λn=>?_
 obtain⟨x,ex,A⟩:=H.ex e;obtain⟨S1,s,o,j⟩:=g S x.1 x.2 A;have c:=H.step ex e j;have f:=c.at'.row (.t [.str "begin",.int k,.int b.wi,d,.int h.ls.length]);obtain⟨cS,m,q,s3⟩:=A8 ((h.put k b).row _) Y hz _ i _ f.at';refine n ⟨cS,m,vg rfl ?_,(c.trans f).trans s3⟩;show bO S (H0 [.v (.ref i),.v (.int k),cf d,.e,.e]) _ _;rw[hd];refine c7 (U':=[.v (.ref i),.v (.int k),.v d,.v (.ref x.1),.e]) (aB.to (i1 (wH H ex rfl rfl) rfl)) ?_;refine c7 (U':=[.v (.ref i),.v (.int k),.v d,.v (.ref x.1),.v (.l Y)]) (qV (oa (rs:=[.v d]) A.a' (.of rfl) rfl (aB.to (.of rfl)) rfl o) rfl) ?_;refine c7 (GJ (mD c.at' rfl rfl) (b2 (oY (b2 (.of rfl) (b2 (.of rfl) (b2 (wG j.at' rfl rfl (O' j.at')) (b2 (x:=.v d) (.of rfl) (b2 (rY c.at' rfl) c5))))) rfl (am6 rfl)) c5) c.at'.rs (by show h.rs.length < _;rw[amS];omega)) ?_;exact x5 (oa (rs:=[.v (.l Y)]) f.at'.a' (.of rfl) rfl (aB.to (.of rfl)) rfl q)
def ahH{w x j b c y e s:D}(f:h.bs[k]? = some b)(g:lO [b,.t [w,x,.int k,e,s,j]]=pure (.v (.t [c,y]))) :
  h.Do wY [.t [w,x,.int k,e,s,j]] (.fr [y]) (h.bk k c):=λS i p H=>
 ⟨_,p,vg rfl<|c7 (aB.to (i1 (fx (b2 (b_ (zx (lD k f)) (qr H.bs (mD H rfl rfl)) (.of rfl)) (b2 (.of rfl) c5)) (.of g)) rfl))<|
  c7 (ai7 (aB.to (.of rfl)) rfl (mD H rfl rfl) (.of rfl) H.bs (nu.mp f).1) (aB.to (.of rfl)),H.bk k c⟩
def ahF{w x f e s:D}(o:h.as[k]? = some a)(aw:a.jZ)(E:b.jZ)(g:a.Do j_ [.t [w,x,.int k,e,s,f]] Y b)(G:h.rs.length<=100000) :
  h.Do r9 [.t [w,x,.int k,e,s,f]] (.v (.l Y)) (if(!(a.sg == "calm")&&(b.sg == "calm"))=true then(h.put k b).row (.t [.str "end",.int k,.int b.wi,b.dK,.int h.ls.length])else h.put k b):=λS i p H=>by
 refine a4 λn=>?_
 obtain⟨q,ex,A⟩:=H.ex o;obtain⟨S1,K,F,r⟩:=g S q.1 q.2 A;have j:=H.step ex o r;have B:=r.at';have pre:∀{m:bL},bO S1 (H3 [.v (.ref i),.v (.t [w,x,.int k,e,s,f]),.v (.ref q.1),.v (.str a.sg),.v (.l Y)]) (.cx (.v (.l Y))) m->bO S (r9 [.ref i,.t [w,x,.int k,e,s,f]]) (.v (.l Y)) m:=λt=>by
  refine vh rfl ?_;refine c7 (U':=[.v (.ref i),.v (.t [w,x,.int k,e,s,f]),.v (.ref q.1),.e,.e]) (aB.to (i1 (b_ (zx (lD k (by rw[amE,ex];rfl))) (qr H.al (mD H rfl rfl)) (.of rfl)) rfl)) ?_;refine c7 (U':=[.v (.ref i),.v (.t [w,x,.int k,e,s,f]),.v (.ref q.1),.v (.str a.sg),.e]) (aB.to (i1 (wG A rfl rfl (Gk A)) rfl)) ?_;exact c7 (U':=[.v (.ref i),.v (.t [w,x,.int k,e,s,f]),.v (.ref q.1),.v (.str a.sg),.v (.l Y)]) (qV (oa (rs:=[.v (.t [w,x,.int k,e,s,f])]) A.a' (.of rfl) rfl (aB.to (.of rfl)) rfl F) rfl) t
 have bh:aB S1 (aR (ak ea (J 3) (bb (.str "calm"))) [.v (.ref i),.v (.t [w,x,.int k,e,s,f]),.v (.ref q.1),.v (.str a.sg),.v (.l Y)]) (!(a.sg == "calm")):=cm (b_ (yG aw) (.of rfl) (.of rfl));have ak:aB S1 (aR (ak oEq (dI "Asker" "stand" t8 (J 2) cQ) (bb (.str "calm"))) [.v (.ref i),.v (.t [w,x,.int k,e,s,f]),.v (.ref q.1),.v (.str a.sg),.v (.l Y)]) (b.sg == "calm"):=cm (b_ (calm_eq E) (wG B rfl rfl (Gk B)) (.of rfl));have no:(!(a.sg == "calm")&&(b.sg == "calm"))=false->∃m y,bO S (r9 [.ref i,.t [w,x,.int k,e,s,f]]) (.v (.l Y)) m/\g7 S m i p y (h.put k b):=λz=>by
  refine⟨_,_,pre (c7 (m5 (aB.to (a:=false) ?_) rfl) (aB.to (.of rfl))),j⟩
  cases ao:(!(a.sg == "calm"))with
  |false=>rw[ao]at bh;exact kQ bh|true=>rw[ao]at bh z;rw[Bool.true_and]at z;rw[z]at ak;exact hY bh ak
 by_cases c:(!(a.sg == "calm")&&(b.sg == "calm"))=true
 .refine n ?_
  rw[if_pos c];rw[amI]at c;rw[c.1]at bh;rw[c.2]at ak;have u:=j.at'.row (.t [.str "end",.int k,.int b.wi,b.dK,.int h.ls.length]);exact⟨_,_,pre (c7 (l2 (aB.to (hY bh ak)) (GJ (mD j.at' rfl rfl) (b2 (oY (b2 (.of rfl) (b2 (.of rfl) (b2 (wG B rfl rfl (O' B)) (b2 (wG B rfl rfl (aeI B)) (b2 (rY j.at' rfl) c5))))) rfl (am6 rfl)) c5) j.at'.rs (by show h.rs.length < _;rw[amS];omega))) (aB.to (.of rfl))),j.trans u⟩
 .refine n ?_
  rw[if_neg c];exact no (by simpa using c)
def JE{S c:bL}(H:dP S i p h)(e:h.ls[k]? = some d)(t:bO S (H2 [.v (.ref i),.v (.int k),.v d]) (.cx (.fr Z)) c):bO S (t9 [.ref i,.int k]) (.fr Z) c:=
 vg rfl (c7 (aB.to (i1 (i0 H.a' (.of rfl) rfl (b2 (.of rfl) c5) (EL H e)) rfl)) t)
def Uj(e:h.ls[k]? = some d)(q:o4 [d]=pure (.v (.ay true)))(g:h.Do wY [d] (.fr Y) h')(hl:h'.ls=h.ls)(hz:h.ls.length+Y.length<=1000000):h.Do t9 [.int k] (.fr (fM h.ls.length Y.length)) (h'.wr Y):=λS i p H=>by
 obtain⟨S1,p1,l,c⟩:=g S i p H;have w:=A8 h' Y (by rw[hl];exact hz);rw[hl]at w;obtain⟨f,cz,j,s2⟩:=w S1 i p1 c.at';exact⟨f,cz,JE H e (Ba (l2 (aB.to (cm (fx (.of rfl) (.of q)))) (x5 (GP H.a' (.of rfl) rfl (GQ (oa H.a' (.of rfl) rfl (aB.to (.of rfl)) rfl l)) rfl j)))),c.trans s2⟩
def Uh(e:h.ls[k]? = some d)(q:o4 [d]=pure (.v (.ay false)))(g:h.Do r9 [d] (.v (.l Y)) h')(hl:h'.ls=h.ls)(hz:h.ls.length+Y.length<=1000000):h.Do t9 [.int k] (.fr (fM h.ls.length Y.length)) (h'.wr Y):=λS i p H=>by
 obtain⟨S1,p1,m,c⟩:=g S i p H;have w:=A8 h' Y (by rw[hl];exact hz);rw[hl]at w;obtain⟨f,cz,j,s2⟩:=w S1 i p1 c.at';exact⟨f,cz,JE H e (GR (aB.to (cm (fx (.of rfl) (.of q)))) (x5 (GP H.a' (.of rfl) rfl (GQ (oa H.a' (.of rfl) rfl (aB.to (.of rfl)) rfl m)) rfl j))),c.trans s2⟩
end
def sa(n:Nat)(a:D):cU:=⟨(amJ n).map λ(i:Nat)=>uy (i:Int) a,amU 6 (.t []),[],[]⟩
def k4(T n:Nat):List (Nat×Nat):=(amJ n).map λj=>(T+2*j,T+2*j+1)
def xB(e:(k4 T n)[k]? = some x):k<n/\x=(T+2*k,T+2*k+1):=by
 unfold k4 at e;rw[amE]at e
 by_cases a:k<n
 .rw[an7 a]at e;cases e;exact⟨a,rfl⟩
 .rw[List.getElem?_eq_none (by simpa using a)]at e;cases e
theorem OT(hh:cf hall=.v hall):∀(n m:Nat)(T:bL),∃a,bO T (Be (pN "Asker" t4 (e5 (bH (J 0) (J 1)))) [.e,.v hall] ((List.range' m n).map λ(i:Nat)=>D.int (i:Int))) ((k4 T.length n).map λx=>.ref x.1) a/\Fr [] T a/\a.length=T.length+2*n/\
  ∀j,j<n->dA a (T.length+2*j) (T.length+2*j+1) (uy ((m+j:Nat):Int) hall)
 |0,m,T=>⟨T,rfl,.refl,rfl,λj f=>absurd f (anD _)⟩
 |n+1,m,T=>by
  refine a4 λh=>?_
  obtain⟨c,o,A,d,l⟩:=ZX T (m:Int) hall hh;obtain⟨g,k,b,p,B⟩:=OT hh n (m+1) c;have mk:bO T (pN "Asker" t4 (e5 (bH (J 0) (J 1))) [.v (.int m),.v hall]) (.v (.ref T.length)) c:=RI (rs:=[.v (.int m),.v hall]) (.of rfl) rfl o;have eq:k4 T.length (n+1)=(T.length,T.length+1)::k4 c.length n:=by
   unfold k4;rw[List.range_succ_eq_map,amt,an3,d];refine List.cons_eq_cons.mpr ⟨rfl,aoV λj _=>?_⟩;show(T.length+2*(j+1),T.length+2*(j+1)+1)=_;rw[show T.length+2*(j+1)=T.length+2+2*j by omega]
  refine h ⟨g,?_,l.trans b,by omega,λj f=>?_⟩
  .rw[eq,List.range'_succ]
   exact mk.bind (k.bind rfl)
  .cases j with
   |zero=>exact⟨b _ _ am4 A.a',b _ _ am4 A.ls⟩|succ j=>
    have:=B j (by omega);rw[d,show m+1+j=m+(j+1)by omega,show T.length+2+2*j=T.length+2*(j+1)by omega]at this;exact this
def Aw{σ a:bL}{fs:List (Str×D)}{m:eo}(h:bO σ (m U) (.fr xs) a)(hi:a[i]? = some (.a' "House" fs))(g:J 0 U=pure (.v (.ref i)))(hl:fs.length<1000):∃b,bO σ (d0 "House" f (J 0) (l0 m) U) (.bt U) b/\b[i]? = some (.a' "House" (il f (.ref a.length) fs))/\b[a.length]? = some (.l xs)/\(∀y o,y≠i->a[y]? = some o->b[y]? = some o)/\b.length=a.length+1:=by
 have c:(a++[dR.l xs])[i]? = some (.a' "House" fs):=Fr.app _ _ am4 hi;have d:bO σ (l0 m U) (.v (.ref a.length)) (a++[dR.l xs]):=bO.bind h (show bO a (do let S <-y9;putN (S++[dR.l xs]);pure (R.v (D.ref S.length))) _ _ from rfl);refine⟨_,x_at d rfl (.of g) c hl,get_set c,?_,λy o j e=>?_,by rw[amQ,amf];rfl⟩
 .rw[amk (amM (kU hi)),Dt]
 .rw[amk (an4 j)]
  exact Fr.app _ _ am4 e
def Zr(S:bL){n:Nat}(ae:1<=n)(hv:n<=6){b:D}(hh:cf b=.v b)(q:qB [b]=pure (.v (.ay true))):∃g p,bO (S++[.a' "House" []]) (EY [.ref S.length,b,.int n]) (.v .aP) g/\dP g S.length p (sa n b)/\Fr [] S g/\S.length<=g.length/\∀y,p.has S.length y->S.length<=y:=by
 have T:(S++[dR.a' "House" []])[S.length]? = some (.a' "House" []):=Dt;have r1:(S++[dR.a' "House" []]).length=S.length+1:=by rw[amf];rfl
 refine a4 λc=>?_
 obtain⟨l,K,O,b4,A⟩:=OT hh n 0 (S++[.a' "House" []]);rw[r1]at K b4 A;have bh:bO (S++[dR.a' "House" []]) (x4 1 [1] (jH (a5 (J 2))) (pN "Asker" t4 (e5 (bH (J 0) (J 1)))) [.v (.ref S.length),.v b,.v (.int n)]) (.fr ((k4 (S.length+1) n).map λx=>.ref x.1)) l:=by
  have sr:-4611686018427387904<=(n:Int)/\(n:Int)<4611686018427387904:=by omega
  have ib:((List.range' 0 n).map λ(i:Nat)=>D.int (i:Int))=fM 0 n:=by
   rw[<-List.range_eq_range'];exact aoV λi _=>by rw[Int.zero_add]
  rw[ib]at K;refine bO.bind (a:=fM 0 n) (aB.to (.of (by simp[sr]))) ?_;rw[if_pos (by rw[su,amS];omega)];exact K.bind rfl
 obtain⟨H,dj,e2,a2,k2,cC⟩:=Aw (f:="askers") bh (O _ _ am4 T) rfl (mK rfl);have e0:aB H (fG 1 [] (jH (a5 (aH 6))) gb (bM cQ) [.v (.ref S.length),.v b,.v (.int n)]) (.fr (amU 6 (.t []))):=.of (yL (ds:=fM 0 6) rfl (by rw[su,amS];omega) rfl);obtain⟨w,t3,V,gv,Q,C⟩:=Aw (f:="books") (m:=dt (fG 1 [] (jH (a5 (aH 6))) gb (bM cQ))) e0.to e2 rfl (mK rfl);obtain⟨M,sz,X,hp,L,I⟩:=Aw (σ:=w) (U:=[.v (.ref S.length),.v b,.v (.int n)]) (f:="letters") (m:=dt (eL cQ)) (xs:=[]) rfl V rfl (mK rfl);obtain⟨N,E,Y,jc,s,alQ⟩:=Aw (σ:=M) (U:=[.v (.ref S.length),.v b,.v (.int n)]) (f:="rows") (m:=dt (eL cQ)) (xs:=[]) rfl X rfl (mK rfl);have up:∀y o,y≠S.length->l[y]? = some o->N[y]? = some o:=λy o u e=>s y o u (L y o u (Q y o u (k2 y o u e)))
 have G:l.length≠S.length:=by omega
 have P:H.length≠S.length:=by omega
 have kX:w.length≠S.length:=by omega
 refine c ⟨N,⟨l.length,H.length,w.length,M.length,k4 (S.length+1) n⟩,GN (U':=[.v (.ref S.length),.v b,.v (.int n)]) rfl ?_,⟨Y,s _ _ G (L _ _ G (Q _ _ G a2)),s _ _ P (L _ _ P gv),s _ _ kX hp,jc,?_,λk x a ex h=>?_,?_,λx F=>?_,λj k x y jz gU ne=>?_⟩,λj o bq e=>up j o (by have:=kU e;omega) (O _ _ am4 (Fr.app (W:=[]) _ _ am4 e)),by omega,λy Z=>?_⟩
 .show bO _ (HZ [.v (.ref S.length),cf b,.v (.int n)]) _ _
  rw[hh];refine Bb (iG (cm (fx (rs:=[.v b]) (.of rfl) (.of q)))) ?_;refine Bb (jf (iG (cm (fx (rs:=[.v (.int n)]) (.of rfl) (.of (pK _))))) (iG (cm (En (y:=.v (.int n)) (.of rfl) (.of rfl) (by show pure (R.v (.ay (decide ((1:Int)<=n))))=_;rw[decide_eq_true (by omega)]) (.of rfl) (r:=.v (.ay true)) (by show pure (R.v (.ay (decide ((n:Int)<=6))))=_;rw[decide_eq_true (by omega)]))))) ?_;exact c7 dj (c7 t3 (c7 sz E))
 .unfold k4 sa;simp
 .obtain⟨d,rfl⟩:=xB ex
  have h:((amJ n).map λ(i:Nat)=>uy (i:Int) b)[k]? = some a:=h;rw[amE,an7 d]at h;cases h;have B:=A k d;rw[an2]at B;exact⟨up _ _ (by show _+1+2*k≠_;omega) B.a',up _ _ (by show _+1+2*k+1≠_;omega) B.ls⟩
 .simp only[ane,amw,am4,or_false,not_or,not_false_eq_true,apa,and_true]
  omega
 .refine a4 λc=>?_
  obtain⟨k,d⟩:=apw.mp F;obtain⟨d,rfl⟩:=xB d;refine c ?_;simp only[amw,am4,or_false,not_or];omega
 .refine a4 λc=>?_
  obtain⟨_,rfl⟩:=xB jz;obtain⟨_,rfl⟩:=xB gU;refine c ?_;constructor<;>dsimp only<;>omega
 .refine a4 λc=>?_
  rcases Z with z|z|⟨x,F,z⟩
  .refine c ?_
   omega
  .simp only[amw,am4,or_false]at z
   refine c ?_;omega
  .obtain⟨k,d⟩:=apw.mp F
   obtain⟨d,rfl⟩:=xB d;refine c ?_;rcases z with z|z<;>rw[z]<;>dsimp only<;>omega
abbrev ot:=fy.κ.toKeyOrd
structure dc where
 cs:sX
 ds:List (Int×D)
 f:Int
 t:D
 aS:D
def dc.D(s:dc):az.D:=.t [.t (s.cs.map (·.2)),.t (s.ds.map (·.2)),.t [.int s.f,s.t],s.aS]
inductive dO where
 |put (a:List Nat) (n:Int)|add (a:List Nat) (n:Int)|swap (a:List Nat) (o n:Int)|take (g:Int)|renew (g:Int)|free (g:Int)|sure (g:Int) (a:List Nat) (n:Int)|move (h:D)|fin
noncomputable def dO.D:dO->az.D
 |.put a n=>.t [.str "put",.str (bI a),.int n]|.add a n=>.t [.str "add",.str (bI a),.int n]|.swap a o n=>.t [.str "swap",.str (bI a),.int o,.int n]|.take g=>.t [.str "take",.int g]|.renew g=>.t [.str "renew",.int g]|.free g=>.t [.str "free",.int g]|.sure g a n=>.t [.str "sure",.int g,.str (bI a),.int n]|.move h=>.t [.str "move",h]|.fin=>.t [.str "end"]
def dW:Option dO->az.D
 |none=>.aP|some d=>d.D
def dc.cell(s:dc)(a:List Nat):Int:=lG (fv (Q:=fe) s.cs a)
def dc.put(s:dc)(a:List Nat)(n:Int):dc:={ s with cs:=k_ s.cs a n }
def dc.uu(s:dc)(g i:Int):Bool:=s.f==g&&eb s.t (.int i)
noncomputable def eO(s:dc)(i:Int):dO->dc×az.D
 |.put a n=>(s.put a n,.int (s.cell a))
 |.add a n=>(s.put a (s.cell a+n),.int (s.cell a+n))
 |.swap a o n=>if s.cell a=o then(s.put a n,.int 1)else(s,.int 0)
 |.take g=>if s.f=g then({ s with f:=g+1,t:=.int i },.t [.int 1,.int (g+1),.int i])else(s,.t [.int 0,.int s.f,s.t])
 |.renew g=>if s.uu g i=true then({ s with f:=g+1,t:=.int i },.t [.int 1,.int (g+1),.int i])else(s,.t [.int 0,.int s.f,s.t])
 |.free g=>if s.uu g i=true then({ s with f:=g+1,t:=.aP },.t [.int 1,.int (g+1),.aP])else(s,.t [.int 0,.int s.f,s.t])
 |.sure g a n=>if s.uu g i=true then(s.put a n,.int 1)else(s,.int 0)
 |.move h=>({ s with aS:=h },.int 1)
 |.fin=>({ s with aS:=.str "over" },.int 1)
structure gd(G:az.D->Prop)(W:List (List Nat))(s:dc):Prop where
 row:∀x∈s.cs,l7 x
 rise:lx fe s.cs
 nm:∀x∈s.cs,x.1∈W
 num:∀x∈s.ds,q5 x
 oI:lx ot s.ds
 cV:∀x∈s.ds,0<=x.1/\x.1<6
 dN:s.t=.aP\/∃i:Int,s.t=.int i
 aS:s.aS=.aP\/s.aS=.str "over"\/(∃xs,s.aS=.t xs)/\G s.aS
 tl:∀x∈s.ds,az.Ok 2 x.2
def l8(G:az.D->Prop)(W:List (List Nat)):dO->Prop
 |.put a _=>md a/\a∈W|.add a _=>md a/\a∈W|.swap a _ _=>md a/\a∈W|.sure _ a _=>md a/\a∈W|.move h=>(∃xs,h=.t xs)/\G h|_=>True
def agy{z:Int}(a:0<=z)(b:z<6):z∈([0,1,2,3,4,5]:List Int):=by
 have e:z=0\/z=1\/z=2\/z=3\/z=4\/z=5:=by omega
 rcases e with e|e|e|e|e|e<;>rw[e]<;>simp
section
variable{G:az.D->Prop}{W:List (List Nat)}{s:dc}(h:gd G W s)
include h
theorem gd.cl:s.cs.length<=W.length:=by
 have:=anE h.rise.nodup λx b=>by
  obtain⟨y,a,rfl⟩:=amG.mp b;exact h.nm y a
 rwa[amh]at this
theorem gd.dl:s.ds.length<=6:=by
 have:=anE h.oI.nodup λx b=>by
  obtain⟨y,a,rfl⟩:=amG.mp b;exact agy (h.cV y a).1 (h.cV y a).2
 rw[amh]at this;exact this
theorem gd.cA:s.t.bW 63=true:=by rcases h.dN with e|⟨i,e⟩<;>rw[e]<;>rfl
theorem gd.ss:cf s.aS=.v s.aS:=by rcases h.aS with e|e|⟨⟨xs,e⟩,_⟩<;>rw[e]<;>rfl
theorem aeo(b:W.length<63)(i:Int)(hd:l8 G W d):fo [s.D,.int i,d.D]=pure (.v (.t [(eO s i d).1.D,(eO s i d).2])):=by
 have hl:s.cs.length<63:=by have:=h.cl;omega
 have cA:=h.cA;obtain⟨cs,ds,f,t,aS⟩:=s
 cases d with
 |put a n=>exact aeD h.row h.rise hl _ _ _ hd.1 n i|add a n=>exact aez h.row h.rise hl _ _ _ hd.1 n i|swap a o n=>
  refine(aeG h.row h.rise hl _ _ _ hd.1 n i o).trans ?_;unfold eO dc.cell;dsimp only
  by_cases c:lG (fv (Q:=fe) cs a)=o
  .rw[if_pos c,if_pos c];rfl
  .rw[if_neg c,if_neg c];rfl
 |take g=>
  refine(aeH _ _ _ i f g t).trans ?_;unfold eO;dsimp only
  by_cases c:f=g
  .rw[if_pos c,if_pos c];rfl
  .rw[if_neg c,if_neg c];rfl
 |renew g=>
  refine(aeE _ _ _ i f g t cA).trans ?_;unfold eO dc.uu;dsimp only
  by_cases c:(f==g&&eb t (.int i))=true
  .rw[if_pos c,if_pos c];rfl
  .rw[if_neg c,if_neg c];rfl
 |free g=>
  refine(aeB _ _ _ i f g t cA).trans ?_;unfold eO dc.uu;dsimp only
  by_cases c:(f==g&&eb t (.int i))=true
  .rw[if_pos c,if_pos c];rfl
  .rw[if_neg c,if_neg c];rfl
 |sure g a n=>
  refine(aeF h.row h.rise hl _ _ hd.1 n i f g t cA).trans ?_;unfold eO dc.uu;dsimp only
  by_cases c:(f==g&&eb t (.int i))=true
  .rw[if_pos c,if_pos c];rfl
  .rw[if_neg c,if_neg c];rfl
 |move z=>
  obtain⟨⟨xs,rfl⟩,_⟩:=hd;exact aeC _ _ _ _ i _ rfl
 |fin=>exact aeA _ _ _ _ i
end
def dc.last(s:dc)(i:Int):Int:=sb (fv (Q:=ot) s.ds i)
def qf(s:dc)(i n:Int):Option dO->dc
 |none=>s|some d=>if(fp s.aS)=true/\s.last i<n then{ (eO s i d).1 with ds:=kb (Q:=ot) s.ds (i,.t [.int i,.int n,(eO s i d).2]) }else s
def aem(s:dc)(i:Int)(d:dO):(eO s i d).1.ds=s.ds:=by
 cases d<;>unfold eO<;>first|rfl|(dsimp only;split<;>rfl)
section
variable{G:az.D->Prop}{W:List (List Nat)}{s:dc}(h:gd G W s)
include h
theorem aeu(i:Int)(d:dO):cf (eO s i d).2=.v (eO s i d).2:=by
 cases d<;>unfold eO<;>first|rfl|(dsimp only;split<;>rfl)
theorem Vg(l:W.length<63)(i n:Int)(hd:∀x,d=some x->l8 G W x):nX [s.D,.int i,.int n,dW d]=pure (.v (qf s i n d).D):=by
 cases d with
 |none=>exact LV h.num _ _ _ i n .aP rfl (.inl rfl)|some d=>
  unfold qf;dsimp only;have ru:∃xs,d.D=.t xs:=by cases d<;>exact⟨_,rfl⟩
  obtain⟨xs,ru⟩:=ru
  by_cases c:(fp s.aS)=true/\s.last i<n
  .rw[if_pos c]
   have dZ:=aeo h l i (hd d rfl);have b:=aem s i d;have os:=aeu h i d;have a:s.aS=.aP:=by
    rcases h.aS with e|e|⟨⟨xs,e⟩,_⟩
    .exact e
    .rw[e]at c;cases c.1
    .rw[e]at c;cases c.1
   have g:=h.dl;generalize eO s i d=o at *;obtain⟨⟨j,k,m,t',sh'⟩,v⟩:=o;obtain⟨cs,ds,f,t,aS⟩:=s;dsimp only at b os a dZ g ⊢;subst b a;show nX [_,_,_,d.D]=_;unfold dc.D at dZ ⊢;rw[ru]at dZ ⊢;have ao:=Vf h.num (.t (cs.map (·.2))) (.t [.int f,t]) i n xs c.2 (show k.length<63 by omega) h.oI.nodup (c':=.t (j.map (·.2))) (le':=.t [.int m,t']) (sh':=sh') (v:=v);exact ao dZ os
  .rw[if_neg c]
   show nX [_,_,_,d.D]=_;rw[ru];refine LV h.num _ _ _ i n (.t xs) rfl (.inr ⟨⟨_,rfl⟩,?_⟩);rcases h.aS with e|e|⟨⟨zs,e⟩,_⟩
   .refine .inr (.inr ⟨e,?_⟩)
    rw[e]at c;have:¬s.last i<n:=λz=>c ⟨rfl,z⟩
    unfold dc.last at this;omega
   .exact .inl e
   .exact .inr (.inl ⟨zs,e⟩)
end
section
variable{G:az.D->Prop}{W:List (List Nat)}{s:dc}(h:gd G W s)
include h
theorem gd.put(c:md a)(hw:a∈W)(n:Int):gd G W (s.put a n) where
 row:=aic h.row c n
 rise:=aib h.rise a n
 nm:=λx b=>by
  have b:x∈k_ s.cs a n:=b;unfold k_ at b;split at b
  .exact h.nm x ((vX (Q:=fe)).mp b).1
  .rcases(uQ (Q:=fe)).mp b with⟨b,_⟩|rfl
   .exact h.nm x b
   .exact hw
 num:=h.num
 oI:=h.oI
 cV:=h.cV
 dN:=h.dN
 aS:=h.aS
 tl:=h.tl
theorem gd.lease(f:Int)(a:t=.aP\/∃i:Int,t=.int i):gd G W { s with f:=f,t:=t }:=⟨h.row,h.rise,h.nm,h.num,h.oI,h.cV,a,h.aS,h.tl⟩
theorem gd.shut{z:az.D}(hz:z=.aP\/z=.str "over"\/(∃xs,z=.t xs)/\G z):gd G W { s with aS:=z }:=⟨h.row,h.rise,h.nm,h.num,h.oI,h.cV,h.dN,hz,h.tl⟩
theorem aer(i:Int)(hd:l8 G W d):gd G W (eO s i d).1:=by
 cases d with
 |put a n=>exact h.put hd.1 hd.2 n|add a n=>exact h.put hd.1 hd.2 _|swap a o n=>
  unfold eO;dsimp only;split
  .exact h.put hd.1 hd.2 n
  .exact h
 |take g=>
  unfold eO;dsimp only;split
  .exact h.lease _ (.inr ⟨_,rfl⟩)
  .exact h
 |renew g=>
  unfold eO;dsimp only;split
  .exact h.lease _ (.inr ⟨_,rfl⟩)
  .exact h
 |free g=>
  unfold eO;dsimp only;split
  .exact h.lease _ (.inl rfl)
  .exact h
 |sure g a n=>
  unfold eO;dsimp only;split
  .exact h.put hd.1 hd.2 n
  .exact h
 |move z=>exact h.shut (.inr (.inr hd))|fin=>exact h.shut (.inr (.inl rfl))
theorem ael(i:Int)(d:dO):az.Ok 1 (eO s i d).2:=by
 have b:az.Ok 0 s.t:=by
  rcases h.dN with e|⟨i,e⟩
  .rw[e];exact uJ
  .rw[e];exact dw
 cases d with
 |put a n=>exact dw|add a n=>exact dw|swap a o n=>
  unfold eO;dsimp only;split<;>exact dw
 |take g=>
  unfold eO;dsimp only;split
  .exact pj dw dw dw
  .exact pj dw dw b
 |renew g=>
  unfold eO;dsimp only;split
  .exact pj dw dw dw
  .exact pj dw dw b
 |free g=>
  unfold eO;dsimp only;split
  .exact pj dw dw uJ
  .exact pj dw dw b
 |sure g a n=>
  unfold eO;dsimp only;split<;>exact dw
 |move z=>exact dw|fin=>exact dw
theorem LU{i:Int}(b:0<=i)(c:i<6)(n:Int)(hd:∀x,d=some x->l8 G W x):gd G W (qf s i n d):=by
 cases d with
 |none=>exact h|some d=>
  have o:=aer h i (hd d rfl);unfold qf;dsimp only;split
  .refine⟨o.row,o.rise,o.nm,?_,?_,?_,o.dN,o.aS,?_⟩
   .exact adV h.num i n _
   .exact FY _ h.oI.nodup
   .intro x a
    rcases(uQ (Q:=ot)).mp a with⟨a,_⟩|rfl
    .exact h.cV x a
    .exact⟨b,c⟩
   .intro x a
    rcases(uQ (Q:=ot)).mp a with⟨a,_⟩|rfl
    .exact h.tl x a
    .exact pj dw dw (ael h i d)
  .exact h
def dc.cP(s:dc)(i:Int):az.D:=match fv (Q:=ot) s.ds i with
 |some (.t [_,_,z])=>z|_=>.aP
def dc.i4(s:dc):Bool:=match s.aS with
 |.str _=>true|_=>false
theorem Ve(i:Int):qz [s.D,.int i]=pure (.v (.t [.int i,.int (s.last i),s.cP i])):=by
 have e:=CV (λx a=>(h.num x a).qe) (.t (s.cs.map (·.2))) (.t [.int s.f,s.t]) s.aS i;refine e.trans ?_;unfold dc.last dc.cP
 cases q:fv (Q:=fy.κ.toKeyOrd) s.ds i with
 |none=>rfl|some d=>
  obtain⟨n,z,e⟩:=h.num _ (y_ q);have e:d=.t [.int i,.int n,z]:=e;subst e;rfl
omit h in
theorem agx(s:dc):o8 [s.D]=pure (.v s.aS):=by unfold dc.D;simp[o8,Cq]
omit h in
theorem NI(s:dc):mM [s.D]=pure (.v (.ay (!fp s.aS))):=(wC (.t (s.cs.map (·.2))) (.t (s.ds.map (·.2))) (.t [.int s.f,s.t]) s.aS).trans (Aa s.aS)
def dc.ka(s:dc):dc:={ s with aS:=.aP }
omit h in
theorem aeg(s:dc):uq [s.D]=pure (.v s.ka.D):=by
 unfold dc.D dc.ka;simp[uq,Jc,(GG (.t (s.cs.map (·.2))) (.t (s.ds.map (·.2))) (.t [.int s.f,s.t]) s.aS .aP rfl)]
theorem gd.ka:gd G W s.ka:=h.shut (.inl rfl)
theorem gd.ok(f:W.length<=1000)(c:∀z,G z->az.Ok 9 z):az.Ok 10 s.D:=by
 have d:=h.cl;have hd:=h.dl;refine Ak (Am (qJ (n:=2) (by rw[amh];omega) λx b=>?_) (by decide)) (Am (qJ (n:=2) (by rw[amh];omega) λx b=>?_) (by decide)) (Am (n:=1) (ph dw ?_) (by decide)) ?_
 .obtain⟨y,a,rfl⟩:=amG.mp b
  obtain⟨w,n,_,e⟩:=h.row y a;rw[e];exact Am (n:=1) (ph (h3 w.1) dw) (by decide)
 .obtain⟨y,a,rfl⟩:=amG.mp b
  exact h.tl y a
 .rcases h.dN with e|⟨i,e⟩
  .rw[e];exact uJ
  .rw[e];exact dw
 .rcases h.aS with e|e|⟨_,g⟩
  .rw[e];exact uJ
  .rw[e];exact h3 (by decide +kernel)
  .exact c _ g
end
end ed
namespace ed
open PySem PySem.Spec aC az
def PE(bk:List c9)(e:Int):xc [.t (bk.map dx),.int e]=pure (.v (.t [bQ (eV bk e).p1 (eV bk e).cz,bQ (eV bk e).k1 (eV bk e).k2,(eV bk e).a3])):=by
 have cut:∀g:c9,pf (.v (dx g)) (some 1) none=pure (.v (.t [bQ g.p1 g.cz,bQ g.k1 g.k2,g.a3])):=λg=>by
  unfold dx;rw[L0,if_neg (by simp only[amL,ans];decide)];rfl
 have L:=tx (b:=λd U=>zE (U.set 2 (.v d))) dx (λg=>g.e==e) (λg=>.v (.t [bQ g.p1 g.cz,bQ g.k1 g.k2,g.a3])) (λU=>∃s2,U=[.v (.t (bk.map dx)),.v (.int e),s2]) bk [.v (.t (bk.map dx)),.v (.int e),.e] ⟨_,rfl⟩
  (λg U _ ⟨s2,a⟩=>by
   subst a;have fb:eC (.v (dx g)) (.v (.int 0))=pure (.v (.int g.e)):=by unfold dx;simp
   refine⟨λh=>?_,λh=>⟨[.v (.t (bk.map dx)),.v (.int e),.v (dx g)],?_,_,rfl⟩⟩
   .simp only[zE]
    simp[fb,cut,eq_of_beq h]
   .have h':¬g.e=e:=by simpa using h
    simp only[zE];simp[fb,h'])
 simp only[xc,Jd,Je];unfold eV
 cases h:bk.find? (λg=>g.e==e)with
 |some g=>
  have:=L.1 g h;simp[this]
 |none=>
  obtain⟨U',c,s2,rfl⟩:=L.2 h;simp[c,blank,bQ]
def aa6(g:c9):fnOf 1 1 (a9 (aI 0 0)) [dx g]=pure (.v (.int g.e)):=by
 unfold dx;simp
def Rx{bk:List c9}(g:c9)(f:(bk.map c9.e).Nodup)(hl:bk.length<63)(aw:cf g.a3=.v g.a3):xd [.t (bk.map dx),.int g.e,bQ g.p1 g.cz,bQ g.k1 g.k2,g.a3]=pure (.v (.t (n6 (putL bk g)))):=by
 have c:gP (aR (ak ea (aI 0 0) (J 1))) (J 0) [.e,.v (.int g.e)] (bk.map dx)=pure ((bk.filter λh=>!(h.e==g.e)).map dx):=
  oG dx (λh=>!(h.e==g.e)) dx bk (λh _=>by
   have fb:eC (.v (dx h)) (.v (.int 0))=pure (.v (.int h.e)):=by unfold dx;simp
   simp[fb]) λh _ _=>by simp
 have j:bk.length<ami:=gD (by omega);have l:=aod (λh:c9=>!(h.e==g.e)) bk;have i:(bk.filter λh=>!(h.e==g.e)).length<ami:=gD (by omega);have pl:=P1 bk g;have dJ:mq fy (fnOf 1 1 (a9 (aI 0 0))) (.mv ((bk.filter λh=>!(h.e==g.e)).map dx++[dx g]))=pure (.fr (n6 (putL bk g))):=
  agJ aa6 (by show some _=some _;unfold putL;rw[ant];rfl) (P4 f) (by omega)
 have d:dx g=.t [.int g.e,bQ g.p1 g.cz,bQ g.k1 g.k2,g.a3]:=rfl;have k:∀a b,cf (bQ a b)=.v (bQ a b):=λ_ _=>rfl
 simp only[xd,Jp,Jq,Jr];rw[d]at dJ;simp[k,aw,c,j,i,dJ]
def yp(w:Str)(a b e s l:D)(d:D)(c:D)(f:cf d=.v d)(g:cf c=.v c):w1 [.t [.str w,a,b,e,s,l],d,c]=pure (.v (.t [d,b,a,e,s,c])):=by
 exact jA rfl (kf (by simp[f,g]))
def MX{bk:List c9}(j:lu bk)(hl:bk.length<63)(m:∀g∈bk,cf g.a3=.v g.a3)(e b s2:Int)(a k:D)(l:D) :
  lO [.t (bk.map dx),.t [.str "ask",a,k,.int e,bQ b s2,l]]=pure (.v (if lexLe [b,s2] [(eV bk e).p1,(eV bk e).cz]=true then .t [.t (bk.map dx),.t [.str "late",k,a,.int e,bQ b s2,.t [bQ (eV bk e).p1 (eV bk e).cz]]]
   else .t [.t (n6 (putL bk ⟨e,b,s2,(eV bk e).k1,(eV bk e).k2,(eV bk e).a3⟩)),.t [.str "grant",k,a,.int e,bQ b s2,.t [bQ (eV bk e).k1 (eV bk e).k2,(eV bk e).a3]]])):=by
 have e4:=PE bk e;have c:cf (eV bk e).a3=.v (eV bk e).a3:=by
  unfold eV
  cases q:bk.find? (λx=>x.e==e)with
  |none=>rfl|some g=>exact m g (find_eq q).2
 generalize eV bk e=g at e4 c ⊢;have n:=Rx (bk:=bk) ⟨e,b,s2,g.k1,g.k2,g.a3⟩ j.nodup hl c;have cut:pf (.v (.t [bQ g.p1 g.cz,bQ g.k1 g.k2,g.a3])) (some 1) none=pure (.v (.t [bQ g.k1 g.k2,g.a3])):=by
  rw[L0,if_neg (by simp only[amL,ans];decide)];rfl
 have f:=yp "ask" a k (.int e) (bQ b s2) l (.str "late") (.t [bQ g.p1 g.cz]) rfl rfl;have i:=yp "ask" a k (.int e) (bQ b s2) l (.str "grant") (.t [bQ g.k1 g.k2,g.a3]) rfl rfl;have bE:oEq (.v (.str "ask")) (.v (.str "ask"))=pure (.v (.ay true)):=eq_str (by decide +kernel);have pre:∀{d},Im [.v (.t (bk.map dx)),.v (.t [.str "ask",a,k,.int e,bQ b s2,l]),.v (bQ b s2),.v (.t [bQ g.p1 g.cz,bQ g.k1 g.k2,g.a3])]=pure (.cx (.v d))->lO [.t (bk.map dx),.t [.str "ask",a,k,.int e,bQ b s2,l]]=pure (.v d):=λh=>
  jA rfl (st (jx (f6 bE rfl rfl)) (kf (call_of rfl (jA rfl (cT rfl (cT (kh (call_of rfl e4)) h))))))
 cases hle:lexLe [b,s2] [g.p1,g.cz]with
 |true=>exact pre (st (congrArg pure hle) (kf (call_of rfl (jA rfl (kf (sE rfl (call_of rfl f)))))))|false=>exact pre (jQ (congrArg pure hle) (kf (sE (call_of rfl n) (call_of (cons_of rfl (cons_of rfl (cons_of cut rfl))) i))))
end ed
namespace ed
open PySem PySem.Spec aC az jq gI jY
structure h8(h:az.D):Prop where
 ex:∃ms fa fk,og h ms fa fk
 no:oEq (.v h) (.v (.str "over"))=pure (.v (.ay false))
 ok:az.Ok 9 h
def j9:Option dO->Bool
 |some (.move _)=>true|_=>false
def xV:az.D->Bool
 |.t _=>true|_=>false
def dN(s:dc):Nat:=if xV s.aS=true then 1 else 0
structure d4 where
 W:List (List Nat)
 na:Nat
 lA:Int->Int->Option dO->Int->Prop
 E:Int->dc->Prop
structure d4.Ok(Γ:d4):Prop where
 w:Γ.W.length<63
 n:Γ.na<=6
 done:∀{e s i n d},gd h8 Γ.W s->Γ.E e s->Γ.lA i n d e->Γ.E e (qf s i n d)
 ka:∀{e s},gd h8 Γ.W s->Γ.E e s->(∃xs,s.aS=.t xs)->Γ.E (e+1) s.ka
 up:∀{i n d e},Γ.lA i n d e->Γ.lA i n d (e+1)
 hP:∀{e s},Γ.E e s->0<=e/\e<=60
 iv:∀{i n d e x},Γ.lA i n d e->d=some x->l8 h8 Γ.W x
def d4.S(Γ:d4)(e:Int)(w:az.D):Prop:=∃s,gd h8 Γ.W s/\Γ.E e s/\w=s.D
def dc.slot(s:dc):cf s.D=.v s.D:=rfl
def Rl(d:Option dO):cf (dW d)=.v (dW d):=by
 cases d with
 |none=>rfl|some d=>cases d<;>rfl
structure gQ(Γ:d4)(a:bx)(k:Nat):Prop where
 me:a.me=k
 lt:k < Γ.na
 sg:a.jZ
 hl:h8 a.h
 op:Γ.S a.bj a.op
 dd:∃d,a.dd=dW d/\(a.sg≠"calm"->Γ.lA k a.wi d a.bj)
 bR:a.sg="asking"->(∀g∈a.bR,g.k<6/\(g.s=(0,0)\/Γ.S a.bj g.w)/\cf g.w=.v g.w)/\(a.bR.map (·.k)).Nodup
 ts:a.sg="telling"->Γ.S a.bj a.ts
def Ends(Γ:d4)(a b:bx):Prop:=b.b6=true\/a.bj<=b.bj/\(fp a.dd=true\/∃a3,gd h8 Γ.W a3/\Γ.E a.bj a3/\a3.last a.me=a.wi/\b.bj=a.bj+(dN a3:Nat))
inductive hj(Γ:d4)(a:bx)(G:ec->Prop)(Y:List az.D)(b:bx):Prop
 |i7 (ao:b.bj=a.bj) (aA:b.st=a.st) (bK:b.sg=a.sg) (cR:b.bR=a.bR) (da:a.cb<=b.cb) (fW:b.b6=a.b6) (eG:b.dd=a.dd) (ep:Y=[]):hj Γ a G Y b
 |calm (bK:b.sg="calm") (da:b.cb=a.cb) (c:a.sg≠"calm") (eM:Ends Γ a b) (ep:Y=[]):hj Γ a G Y b
 |ask {ms:List Nat}(c:a.sg≠"calm") (ao:a.bj<=b.bj) (eG:b.dd=a.dd) (aA:b.st=(a.cb+1,a.me)) (bK:b.sg="asking") (cR:b.bR=[]) (da:b.cb=a.cb+1) (ep:Y=ms.map (fi a.me b.bj b.st)):hj Γ a G Y b
 |jd {ms:List Nat}(aa:∀g,G g) (aA:b.st=(a.cb+1,a.me)) (bK:b.sg="asking") (cR:b.bR=[]) (da:b.cb=a.cb+1) (ep:Y=ms.map (fi a.me b.bj b.st)):hj Γ a G Y b
 |got {g:ec}(c:a.sg="asking") (aM:G g) (ao:b.bj=a.bj) (aA:b.st=a.st) (bK:b.sg="asking") (cR:b.bR=a.bR++[g]) (da:b.cb=a.cb) (eG:b.dd=a.dd) (ep:Y=[]):hj Γ a G Y b
 |tell {g:ec}{ms:List Nat}{p:cH}{n:Int}{d:Option dO}{w:az.D}(c:a.sg="asking") (aM:G g) (ao:b.bj=a.bj) (eG:b.dd=a.dd) (aA:b.st=a.st) (bK:b.sg="telling") (da:b.cb=a.cb) (aO:∃q∈a.bR++[g],q.s=p) (ep:Y=ms.map (eX a.me a.bj a.st (.t [cn p,.int n,dW d,w]))):hj Γ a G Y b
def hj.same{Γ:d4}{a:bx}{G:ec->Prop}:hj Γ a G [] a:=.i7 rfl rfl rfl rfl (anR _) rfl rfl rfl
def hj.mono{Γ:d4}{a:bx}{G j:ec->Prop}{Y:List az.D}{b:bx}(h:hj Γ a G Y b)(f:∀g,G g->j g):hj Γ a j Y b:=by
 cases h with
 |i7 ao aA bK cR da fW d e=>exact .i7 ao aA bK cR da fW d e|calm ao aA bK cR da=>exact .calm ao aA bK cR da|ask ao aA bK cR da fW d e=>exact .ask ao aA bK cR da fW d e|jd k cR da fW d e=>exact .jd (λg=>f g (k g)) cR da fW d e|got c i ao aA bK cR da fW d=>exact .got c (f _ i) ao aA bK cR da fW d|tell c i ao aA bK cR da fW d=>exact .tell c (f _ i) ao aA bK cR da fW d
inductive iz(Γ:d4):az.D->Prop
 |ask {me k:Nat}{e:Int}{s:cH}(ae:me < Γ.na) (ag:k<6) (bA:0<=e/\e<=60):iz Γ (fi me e s k)
 |tell {me k:Nat}{e:Int}{s p:cH}{n:Int}{d:Option dO}{w:az.D}(ae:me < Γ.na) (ag:k<6) (bA:Γ.S e w) (bX:∀x,d=some x->l8 h8 Γ.W x):iz Γ (eX me e s (.t [cn p,.int n,dW d,w]) k)
 |grant {k a:Nat}{e:Int}{s kp:cH}{w:az.D}(ae:a < Γ.na) (ag:k<6) (bA:kp=(0,0)\/Γ.S e w) (bX:cf w=.v w) (d1:az.Ok 10 w):iz Γ (fX k a e s kp w)
 |kept {k a:Nat}{e:Int}{s:cH}(ae:a < Γ.na) (ag:k<6):iz Γ (ha k a e s)
 |late {k a:Nat}{e:Int}{s p:cH}(ae:a < Γ.na) (ag:k<6):iz Γ (nV k a e s p)
def Bu(k:Nat)(y:az.D):Prop:=(∃e s j,y=fi k e s j)\/∃e s l j,y=eX k e s l j
structure s_(Γ:d4)(k:Nat)(Y:List az.D):Prop where
 ok:∀y∈Y,iz Γ y
 fr:∀y∈Y,Bu k y
 len:Y.length<=6
abbrev sO(Γ:d4)(a:bx)(k:Nat)(mf:d6)(ds:List az.D)(G:ec->Prop):Prop:=∃Y b,a.Do mf ds Y b/\gQ Γ b k/\s_ Γ k Y/\b.wi=a.wi/\hj Γ a G Y b
def s_.nil{Γ:d4}{k:Nat}:s_ Γ k []:=⟨by simp,by simp,by simp⟩
section
variable{Γ:d4}(O:Γ.Ok){a:bx}{k:Nat}(h:gQ Γ a k)
include O h
theorem GH{ms:List Nat}{fa fk:Nat->Bool}{e:Int}{s:cH}{hh:az.D}(H:og hh ms fa fk)(he:0<=e/\e<=60):s_ Γ k (ms.map (fi a.me e s)):=by
 rw[h.me];refine⟨λy b=>?_,λy b=>?_,by rw[amh];exact H.len⟩
 .obtain⟨j,c,rfl⟩:=amG.mp b
  exact .ask h.lt (H.lt j c) he
 .obtain⟨j,c,rfl⟩:=amG.mp b
  exact .inl ⟨_,_,_,rfl⟩
theorem Hz(c:∃d,a.dd=dW d/\Γ.lA k a.wi d a.bj):gQ Γ a.asks k where
 me:=h.me
 lt:=h.lt
 sg:=.inr (.inl rfl)
 hl:=h.hl
 op:=h.op
 dd:=by obtain⟨d,ao,aA⟩:=c;exact⟨d,ao,λ_=>aA⟩
 bR:=λ_=>⟨λg b=>(nomatch b),apa⟩
 ts:=λz=>by cases z
theorem T4:sO Γ a k t5 [] (λ_=>False):=by
 obtain⟨ms,fa,fk,H⟩:=h.hl.ex
 by_cases c:a.sg="calm"
 .exact⟨_,a,T2 c,h,.nil,rfl,.same⟩
 .obtain⟨d,ao,aA⟩:=h.dd
  obtain⟨s,_,s2,_⟩:=h.op;exact⟨_,_,T5 H.mem H.len h.sg c,Hz O h ⟨d,ao,aA c⟩,GH O h H (O.hP s2),rfl,.ask c (anR _) rfl rfl rfl rfl rfl rfl⟩
theorem abb(r:Int):gQ Γ (a.EJ r) k:=⟨h.me,h.lt,h.sg,h.hl,h.op,h.dd,h.bR,h.ts⟩
end
def nB:¬("calm":Str)="asking":=by decide
def tg:¬("calm":Str)="telling":=by decide
def Gu:¬("telling":Str)="asking":=by decide
def T_{a:List Nat}(b:∀k∈a,k<6){j:Nat}(c:j<6):dG (maskOf a) j=a.contains j:=by
 rw[E7 a b];exact OU _ j c
def Um(p:ec):∀(ps:List ec),jv p ps∈p::ps:=by
 have key:∀(ps:List ec)(b:ec),jv b ps=b\/jv b ps∈ps:=by
  intro ps
  induction ps with
  |nil=>intro b;exact .inl rfl|cons q ps a=>
   intro b;have e:jv b (q::ps)=jv (z7 b q) ps:=rfl;rw[e];rcases a (z7 b q)with z|z
   .rw[z]
    unfold z7;split
    .exact .inr amu
    .exact .inl rfl
   .exact .inr (amr _ z)
 intro ps;rcases key ps p with z|z
 .rw[z];exact amu
 .exact amr _ z
section
variable{Γ:d4}(O:Γ.Ok){a:bx}{k:Nat}(h:gQ Γ a k)
include O h
theorem Wx{ms:List Nat}{fa fk:Nat->Bool}(H:og a.h ms fa fk)(c:a.sg="asking"){p:ec}{ps:List ec}(R:a.bR=p::ps){s2:cH}{w:az.D}(hw:Γ.S a.bj w) :
  ∃Y b,a.Do t6 [.t [cn s2,w]] Y b/\gQ Γ b k/\s_ Γ k Y/\b.wi=a.wi/\b.cb=a.cb/\b.bj=a.bj/\b.dd=a.dd/\((b.sg="calm"/\fp a.dd=true/\Y=[])\/b.st=a.st/\b.sg="telling"/\∃(ms:List Nat)(n:Int)(d:Option dO)(w:az.D),Y=ms.map (eX a.me a.bj a.st (.t [cn s2,.int n,dW d,w]))):=by
 refine a4 λm=>?_
 obtain⟨s,o,K,rfl⟩:=hw;obtain⟨d,l,f⟩:=h.dd;have Q:a.sg≠"calm":=by rw[c];decide
 have f:=f Q;have G:=h.bR c;have V:a.bR.length<=6:=by
  have:=anE (l₂:=amJ 6) G.2 λx e=>by
   refine a4 λm=>?_
   obtain⟨g,F,rfl⟩:=amG.mp e;exact m (am5.mpr (G.1 g F).1)
  rw[amh,anz]at this;exact this
 have r:a.ym s.D (!!fp s.aS&&(a.bR.all λg=>decide (g.s=p.s))&&fk (maskOf (a.bR.map (·.k)))):=λS i g A=>agr H A R (λg F=>(G.1 g F).1) (by omega) s.slot (NI s)
 generalize T:(!!fp s.aS&&(a.bR.all λg=>decide (g.s=p.s))&&fk (maskOf (a.bR.map (·.k))))=b at r
 by_cases q:d=none/\b=true
 .obtain⟨rfl,rfl⟩:=q
  refine m ⟨_,_,Wy l r,?_,.nil,rfl,rfl,rfl,rfl,.inl ⟨rfl,by rw[l];rfl,rfl⟩⟩;exact⟨h.me,h.lt,.inl rfl,h.hl,h.op,⟨none,l,λz=>absurd rfl z⟩,(λz=>absurd z nB),(λz=>absurd z tg)⟩
 .have P:=Vg o O.w a.me a.wi (d:=d) λx e=>O.iv f e
  have hd:fp a.dd=false\/a.ym s.D false:=by
   cases d with
   |some x=>left;rw[l];cases x<;>rfl
   |none=>
    right;have:b=false:=by cases b with|false=>rfl|true=>exact absurd ⟨rfl,rfl⟩ q
    rw[this]at r;exact r
  have M:=l;refine m ⟨_,_,Wz H.mem H.len hd (by rw[l];exact P),?_,?_,rfl,rfl,rfl,rfl,.inr ⟨rfl,rfl,ms,_,d,_,by rw[l]⟩⟩
  .have N:=h.lt
   have L:=O.n;have ok:=LU o (i:=a.me) (by rw[h.me];omega) (by rw[h.me];omega) a.wi (d:=d) λx e=>O.iv f e
   have u:Γ.E a.bj (qf s a.me a.wi d):=O.done o K (by rw[h.me];exact f);exact⟨h.me,h.lt,.inr (.inr rfl),h.hl,h.op,⟨d,l,λ_=>f⟩,(λz=>absurd z Gu),λ_=>⟨_,ok,u,rfl⟩⟩
  .have N:=h.lt
   have L:=O.n;have ok:=LU o (i:=a.me) (by rw[h.me];omega) (by rw[h.me];omega) a.wi (d:=d) λx e=>O.iv f e
   have u:Γ.E a.bj (qf s a.me a.wi d):=O.done o K (by rw[h.me];exact f);refine⟨λy B=>?_,λy B=>?_,by rw[amh];exact H.len⟩
   .refine a4 λm=>?_
    obtain⟨j,J,rfl⟩:=amG.mp B;refine m ?_;rw[h.me,l];rw[h.me]at ok u;exact .tell h.lt (H.lt j J) ⟨_,ok,u,rfl⟩ λx e=>O.iv f e
   .refine a4 λm=>?_
    obtain⟨j,J,rfl⟩:=amG.mp B;refine m ?_;rw[h.me];exact .inr ⟨_,_,_,_,rfl⟩
end
section
variable{Γ:d4}(O:Γ.Ok){a:bx}{k:Nat}(h:gQ Γ a k)
include O h
theorem YR{j:Nat}{e:Int}{s kp:cH}{w:az.D}(l:j<6)(F:kp=(0,0)\/Γ.S e w)(hw:cf w=.v w) :
  sO Γ a k j_ [fX j k e s kp w] (λg=>e=a.bj/\s=a.st/\g=⟨j,kp,w⟩):=by
 rw[<-h.me];obtain⟨ms,fa,fk,H⟩:=h.hl.ex
 cases q:a.now ms j e s with
 |false=>exact⟨_,a,MW H (.str "grant") (.t [cn kp,w]) Du q,h,.nil,rfl,.same⟩|true=>
  by_cases c:a.sg="asking"
  .have m:=h.bR c
   have nI:∀g∈a.bR,g.k<6:=λg f=>(m.1 g f).1
   have L:a.bR.length<=6:=by
    have:=anE (l₂:=amJ 6) m.2 λx i=>by
     obtain⟨g,f,rfl⟩:=amG.mp i;exact am5.mpr (nI g f)
    rw[amh,anz]at this;exact this
   have K:∀x∈a.bR.map (·.k),x<6:=λx i=>by
    obtain⟨g,f,rfl⟩:=amG.mp i;exact nI g f
   cases bZ:dG (maskOf (a.bR.map (·.k))) j with
   | true=>exact⟨_,a,DI H h.sg q c (YT nI (by omega) bZ),h,.nil,rfl,.same⟩|false=>
    have r:j∉a.bR.map (·.k):=λz=>by
     rw[T_ K l,List.contains_iff_mem.mpr z]at bZ;cases bZ
    have he:e=a.bj:=by
     unfold bx.now at q;rw[amI,amI]at q;exact of_decide_eq_true q.1.1
    have E:s=a.st:=by
     unfold bx.now at q;rw[amI,amI]at q;exact of_decide_eq_true q.1.2
    have u:gQ Γ (a.got j kp w) k:=by
     refine⟨h.me,h.lt,h.sg,h.hl,h.op,h.dd,λz=>⟨λg f=>?_,?_⟩,h.ts⟩
     .rcases amF.mp f with f|f
      .exact m.1 g f
      .rw[amo]at f
       subst f;subst he;exact⟨l,F,hw⟩
     .unfold bx.got
      dsimp only;rw[ant];refine aoA.mpr ⟨m.2,by simp,λx i y o=>?_⟩;have o:y=j:=by simpa using o
      subst o;rintro rfl;exact r i
    cases U:fa (maskOf ((a.got j kp w).bR.map (·.k)))with
    | false=>exact⟨_,_,DI H h.sg q c (YP H nI (by omega) l bZ U),u,.nil,rfl,.got c ⟨he,E,rfl⟩ rfl rfl c rfl rfl rfl rfl⟩|true=>
     have ne:(a.got j kp w).bR≠[]:=by unfold bx.got;simp
     obtain⟨p,ps,A⟩:=List.exists_cons_of_ne_nil ne;have bm:=Um p ps;rw[<-A]at bm;have J:Γ.S (a.got j kp w).bj (if(jv p ps).s=(0,0)then a.op else(jv p ps).w):=by
      split
      .exact h.op
      .rename_i z
       exact((u.bR c).1 _ bm).2.1.resolve_left z
     obtain⟨Y,b,ao,aA,bK,cR,da,B,G,fW⟩:=Wx O u (ms:=ms) (fa:=fa) (fk:=fk) H c A (s2:=(jv p ps).s) J;obtain⟨dJ,_,_,kC⟩:=h.op;refine⟨Y,b,DI H h.sg q c (YS H nI (by omega) l A (by rw[kC];rfl) bZ U ao),aA,bK,cR,?_⟩;rcases fW with⟨I,GX,C⟩|⟨I,C,o9,n,d,eg,pP⟩
     .exact .calm I da (by rw[c];decide) (.inr ⟨Int.le_of_eq B.symm,.inl GX⟩) C
     .exact .tell c ⟨he,E,rfl⟩ B G I C da ⟨_,bm,rfl⟩ pP
  .exact⟨_,a,YQ H h.sg q c,h,.nil,rfl,.same⟩
end
def aeJ:oEq (.v (.str "over")) (.v (.str "over"))=pure (.v (.ay true)):=by rw[f' (by decide +kernel) (by decide +kernel),beq_self_eq_true]
def abo(a:bx):a.kT.wi=a.wi:=by unfold bx.kT;split<;>rfl
def ahK{Γ:d4}{s:dc}(h:gd h8 Γ.W s)(i:Int):Told s.D i (s.last i) (s.cP i) s.aS s.i4:=by
 refine⟨⟨_,Ve h i⟩,agx s,NI s,?_,h.ss⟩;unfold dc.i4;rcases h.aS with e|e|⟨⟨xs,e⟩,g⟩
 .rw[e,nD rfl (by decide +kernel)];rfl
 .rw[e];exact aeJ
 .have:=g.no
  rw[e]at this ⊢;exact this
def abn(a:bx):a.kT.sg="calm":=by
 unfold bx.kT;split
 .rename_i c;exact eq_of_beq c
 .rfl
def abm(a:bx):a.kT.cb=a.cb:=by unfold bx.kT;split<;>rfl
def L6(a:bx)(n:Int)(cP aS:az.D)(b6:Bool):(a.fj n cP aS b6).cb=a.cb:=by rcases rz a n cP aS b6 with⟨o,e⟩|e<;>rw[e]<;>rfl
def Vr(a:bx)(n:Int)(cP aS:az.D)(b6:Bool):(a.fj n cP aS b6).dd=a.dd:=by rcases rz a n cP aS b6 with⟨o,e⟩|e<;>rw[e]<;>rfl
def Q7{s:dc}(h:fp s.aS=true):dN s=0:=by
 unfold dN;cases e:s.aS<;>rw[e]at h<;>first|rfl|cases h
def abk(a:bx):a.kT.b6=true:=by unfold bx.kT;split<;>rfl
def L5(a:bx)(n:Int)(cP aS:az.D)(b6:Bool):(∃o,a.fj n cP aS b6=a.ends o/\(fp a.dd=true\/n=a.wi))\/a.fj n cP aS b6=a:=by
 unfold bx.fj;split
 .split
  .rename_i z;exact .inl ⟨_,rfl,.inr z⟩
  .exact .inr rfl
 .rename_i z
  have z:fp a.dd=true:=by simpa using z
  split
  .exact .inl ⟨_,rfl,.inl z⟩
  .split
   .exact .inl ⟨_,rfl,.inl z⟩
   .exact .inr rfl
def SP{Γ:d4}{a:bx}(c:a.sg≠"calm"){a3:dc}(d:gd h8 Γ.W a3)(b:Γ.E a.bj a3)(f:dN a3=0)(j:Nat)(cP aS:az.D)(b6:Bool){G:ec->Prop}:hj Γ a G [] ((a.f9 j).fj (a3.last a.me) cP aS b6):=by
 rcases L5 (a.f9 j) (a3.last a.me) cP aS b6 with⟨o,e,z⟩|e<;>rw[e]
 .exact .calm rfl rfl c (.inr ⟨anR _,z.imp id λz=>⟨a3,d,b,z,by rw[f];exact(Int.add_zero _).symm⟩⟩) rfl
 .exact .i7 rfl rfl rfl rfl (anR _) rfl rfl rfl
section
variable{Γ:d4}(O:Γ.Ok){a:bx}{k:Nat}(h:gQ Γ a k)
include O h
theorem aaY(j:Nat):gQ Γ (a.f9 j) k:=⟨h.me,h.lt,h.sg,h.hl,h.op,h.dd,h.bR,h.ts⟩
theorem Vq(o:az.D):gQ Γ (a.ends o) k:=by
 obtain⟨d,b,_⟩:=h.dd;exact⟨h.me,h.lt,.inl rfl,h.hl,h.op,⟨d,b,λz=>absurd rfl z⟩,(λz=>absurd z nB),(λz=>absurd z tg)⟩
theorem Vt(n:Int)(cP aS:az.D)(b6:Bool):gQ Γ (a.fj n cP aS b6) k:=by
 rcases rz a n cP aS b6 with⟨o,e⟩|e<;>rw[e]
 .exact Vq O h o
 .exact h
theorem abj:gQ Γ a.kT k:=by
 unfold bx.kT;split
 .exact⟨h.me,h.lt,h.sg,h.hl,h.op,h.dd,h.bR,h.ts⟩
 .obtain⟨d,b,_⟩:=h.dd
  exact⟨h.me,h.lt,.inl rfl,h.hl,h.op,⟨d,b,λz=>absurd rfl z⟩,(λz=>absurd z nB),(λz=>absurd z tg)⟩
theorem YW{j:Nat}{e:Int}{s:cH}(l:j<6) :
  sO Γ a k j_ [ha j k e s] (λ_=>False):=by
 rw[<-h.me];obtain⟨ms,fa,fk,H⟩:=h.hl.ex
 cases q:a.now ms j e s with
 |false=>exact⟨_,a,MW H (.str "kept") (.t []) EA q,h,.nil,rfl,.same⟩|true=>
  by_cases c:a.sg="telling"
  .obtain⟨a3,f,n,G⟩:=h.ts c
   have m:a.sg≠"calm":=by rw[c];decide
   have T:Told a.ts a.me (a3.last a.me) (a3.cP a.me) a3.aS a3.i4:=by rw[G];exact ahK f a.me
   have E:=aaY O h j;have b:=Vt O E (a3.last a.me) (a3.cP a.me) a3.aS a3.i4
   cases bZ:fk (a.km ||| maskOf [j])with
   |false=>exact⟨_,_,wt H h.sg q c (YU H l bZ),E,.nil,rfl,.i7 rfl rfl rfl rfl (anR _) rfl rfl rfl⟩|true=>
    cases C:fp a3.aS with
    |true=>exact⟨_,_,wt H h.sg q c (YX H l T bZ C),b,.nil,C3 _ _ _ _ _,SP m f n (Q7 C) _ _ _ _⟩|false=>
     cases I:a3.i4 with
     |true=>
      refine⟨_,_,wt H h.sg q c (YY H l T bZ C h.sg I),?_,.nil,(abo _).trans (C3 _ _ _ _ _),.calm (abn _) ((abm _).trans (L6 _ _ _ _ _)) m (.inl (abk _)) rfl⟩;exact abj O b
     |false=>
      have i:(∃xs,a3.aS=.t xs)/\h8 a3.aS:=by
       rcases f.aS with e|e|e
       .rw[e]at C;cases C
       .unfold dc.i4 at I;rw[e]at I;cases I
       .exact e
      obtain⟨R,N,P,u⟩:=i.2.ex;have J:((a.f9 j).fj (a3.last a.me) (a3.cP a.me) a3.aS a3.i4).ts=a3.D:=(L7 _ _ _ _ _).trans G;have B:uq [((a.f9 j).fj (a3.last a.me) (a3.cP a.me) a3.aS a3.i4).ts]=pure (.v a3.ka.D):=by rw[J];exact aeg a3
      have p:((a.f9 j).fj (a3.last a.me) (a3.cP a.me) a3.aS a3.i4).bj=a.bj:=Vs _ _ _ _ _;have y:Γ.S (((a.f9 j).fj (a3.last a.me) (a3.cP a.me) a3.aS a3.i4).bj+1) a3.ka.D:=by rw[p];exact⟨_,f.ka,O.ka f n i.1,rfl⟩
      have x:((a.f9 j).fj (a3.last a.me) (a3.cP a.me) a3.aS a3.i4).wi=a.wi:=C3 _ _ _ _ _;have K:((a.f9 j).fj (a3.last a.me) (a3.cP a.me) a3.aS a3.i4).dd=a.dd:=Vr _ _ _ _ _;have L:=L5 (a.f9 j) (a3.last a.me) (a3.cP a.me) a3.aS a3.i4;have r:((a.f9 j).fj (a3.last a.me) (a3.cP a.me) a3.aS a3.i4).cb=a.cb:=L6 _ _ _ _ _;generalize F:(a.f9 j).fj (a3.last a.me) (a3.cP a.me) a3.aS a3.i4=A at *
      by_cases ak:A.sg="calm"
      .have g:=WA b.sg f.ss B ak
       have lo:((a.f9 j).fj (a3.last a.me) (a3.cP a.me) a3.aS a3.i4).Do r7 [a3.aS] [] (A.over a3.aS a3.ka.D):=by rw[F];exact g
       refine⟨_,_,wt H h.sg q c (MV H l T bZ C I lo),?_,.nil,x,.calm ak r m (.inr ⟨by show a.bj<=A.bj+1;omega,?_⟩) rfl⟩
       rotate_left
       .rcases L with⟨o,_,z⟩|z
        .refine z.imp id λz=>⟨a3,f,n,z,?_⟩
         show A.bj+1=_;obtain⟨xs,ex⟩:=i.1;unfold dN;rw[p,ex];rfl
        .rw[z]at ak
         exact absurd ak m
       obtain⟨d,w,_⟩:=b.dd;refine⟨b.me,b.lt,b.sg,i.2,y,⟨d,w,λz=>absurd ak z⟩,λz=>?_,λz=>?_⟩
       .have z:A.sg="asking":=z
        rw[ak]at z;exact absurd z nB
       .have z:A.sg="telling":=z
        rw[ak]at z;exact absurd z tg
      .have g:=WB b.sg f.ss B ak u.mem u.len
       have lo:((a.f9 j).fj (a3.last a.me) (a3.cP a.me) a3.aS a3.i4).Do r7 [a3.aS] (R.map (fi A.me (A.bj+1) (A.cb+1,A.me))) (A.over a3.aS a3.ka.D).asks:=by rw[F];exact g
       obtain⟨d,w,Q⟩:=b.dd;refine⟨_,_,wt H h.sg q c (MV H l T bZ C I lo),?_,GH O b u (by rw[p];exact(O.hP (O.ka f n i.1))),x,.ask m (by show a.bj<=A.bj+1;omega) K (by rw[<-r,show a.me=A.me by rw[b.me,h.me]];rfl) rfl rfl (by rw[<-r];rfl) (by rw[show a.me=A.me by rw[b.me,h.me]];rfl)⟩;exact⟨b.me,b.lt,.inr (.inl rfl),i.2,y,⟨d,w,λ_=>O.up (Q ak)⟩,λ_=>⟨λg M=>(nomatch M),apa⟩,λz=>by cases z⟩
  .exact⟨_,a,YV H h.sg q c,h,.nil,rfl,.same⟩
theorem Y0{j:Nat}{e:Int}{s p:cH}:sO Γ a k j_ [nV j k e s p] (λ_=>False):=by
 rw[<-h.me];exact⟨_,_,YZ p,abb O h p.1,.nil,rfl,.i7 rfl rfl rfl rfl (by show a.cb<=if p.1 > a.cb then p.1 else a.cb;split<;>omega) rfl rfl rfl⟩
end
end ed
namespace ed
open PySem PySem.Spec aC az
def ahA:oEq (.v (.str "tell")) (.v (.str "ask"))=pure (.v (.ay false)):=by
 have a:amz "tell"=true:=by decide +kernel
 have b:amz "ask"=true:=by decide +kernel
 have c:(("tell":Str) == "ask")=false:=by decide +kernel
 rw[nD (x:=.v (.str "tell")) (y:=.v (.str "ask")) a b];show pure (R.v (D.ay (("tell":Str) == "ask")))=_;rw[c]
def MY{bk:List c9}(m:lu bk)(hl:bk.length<63)(e b s2:Int)(a k i c f x:D)(n:cf x=.v x) :
  lO [.t (bk.map dx),.t [.str "tell",a,k,.int e,bQ b s2,.t [i,c,f,x]]]=pure (.v (if aC.lexLt [b,s2] [(eV bk e).p1,(eV bk e).cz]=true then .t [.t (bk.map dx),.t [.str "late",k,a,.int e,bQ b s2,.t [bQ (eV bk e).p1 (eV bk e).cz]]]
   else .t [.t (n6 (putL bk ⟨e,b,s2,b,s2,x⟩)),.t [.str "kept",k,a,.int e,bQ b s2,.t []]])):=by
 have e4:=PE bk e;generalize eV bk e=g at e4 ⊢;have o:=Rx (bk:=bk) ⟨e,b,s2,b,s2,x⟩ m.nodup hl n;have j:=yp "tell" a k (.int e) (bQ b s2) (.t [i,c,f,x]) (.str "late") (.t [bQ g.p1 g.cz]) rfl rfl;have l:=yp "tell" a k (.int e) (bQ b s2) (.t [i,c,f,x]) (.str "kept") (.t []) rfl rfl;have pre:∀{d},Io [.v (.t (bk.map dx)),.v (.t [.str "tell",a,k,.int e,bQ b s2,.t [i,c,f,x]]),.v (bQ b s2),.v (bQ g.p1 g.cz)]=pure (.cx (.v d))->lO [.t (bk.map dx),.t [.str "tell",a,k,.int e,bQ b s2,.t [i,c,f,x]]]=pure (.v d):=λh=>
  jA rfl (jQ (jx (f6 ahA rfl rfl)) (kf (call_of rfl (jA rfl (cT rfl (cT (kh (f6 rfl (call_of rfl e4) rfl)) h))))))
 cases hle:aC.lexLt [b,s2] [g.p1,g.cz]with
 |true=>exact pre (st (congrArg pure hle) (kf (call_of rfl (jA rfl (kf (sE rfl (call_of rfl j)))))))|false=>exact pre (jQ (congrArg pure hle) (kf (sE (call_of rfl o) (call_of rfl l))))
end ed
namespace ed
open PySem PySem.Spec aC az jq gI jY
structure sV(Γ:d4)(g:c9):Prop where
 e:0<=g.e/\g.e<=60
 s:(g.k1,g.k2)=((0,0):cH)\/Γ.S g.e g.a3
 a3:cf g.a3=.v g.a3
 ok:az.Ok 10 g.a3
def oe(Γ:d4)(b:az.D):Prop:=∃bk:List c9,b=.t (bk.map dx)/\lu bk/\∀g∈bk,sV Γ g
def JA{bk:List c9}(a:lu bk)(h:∀g∈bk,sV Γ g):bk.length<63:=by
 have:=anE (l₂:=(amJ 61).map λ(i:Nat)=>(i:Int)) a.nodup λx c=>by
  obtain⟨g,b,rfl⟩:=amG.mp c;have:=(h g b).e;exact amG.mpr ⟨g.e.toNat,am5.mpr (by omega),by omega⟩
 rw[amh,amh,anz]at this;omega
def aeO{bk:List c9}(h:∀g∈bk,sV Γ g){e:Int}(he:0<=e/\e<=60):sV Γ (eV bk e):=by
 unfold eV
 cases q:bk.find? (λx=>x.e==e)with
 |none=>exact⟨he,.inl rfl,rfl,uJ⟩|some g=>exact h g (find_eq q).2
def P7{bk:List c9}(a:lu bk)(h:∀g∈bk,sV Γ g)(b:sV Γ g):oe Γ (.t (n6 (putL bk g))):=by
 obtain⟨i,e,d,f,_⟩:=P6 a g;refine⟨i,by rw[d],e,λx c=>?_⟩;rcases P2 ((f x).mp c)with z|rfl
 .exact h x z
 .exact b
def Y1(O:Γ.Ok)(G:oe Γ b){e:Int}{s:cH}(H:iz Γ L)(o:L=fi me e s j\/∃l,L=eX me e s l j) :
  ∃A y,lO [b,L]=pure (.v (.t [A,y]))/\oe Γ A/\iz Γ y:=by
 obtain⟨bk,rfl,c,f⟩:=G;have hl:=JA c f
 cases H with
 |@ask x u i a k m r=>
  have h:=aeO f r;have J:=PD bk i;have eq:=MX c hl (λg F=>(f g F).a3) i a.1 a.2 (.int x) (a6 u) (.t []);generalize eV bk i=g at *
  cases q:lexLe [a.1,a.2] [g.p1,g.cz]with
  |true=>
   rw[if_pos q]at eq;exact⟨_,_,eq,⟨bk,rfl,c,f⟩,.late (p:=(g.p1,g.cz)) k m⟩
  |false=>
   rw[if_neg (by rw[q];decide)]at eq;subst J;exact⟨_,_,eq,P7 c f ⟨h.e,h.s,h.a3,h.ok⟩,.grant k m h.s h.a3 h.ok⟩
 |@tell x u i a p n d w k m r K=>
  obtain⟨a3,E,B,rfl⟩:=r;have eq:=MY c hl i a.1 a.2 (.int x) (a6 u) (cn p) (.int n) (dW d) a3.D rfl;generalize eV bk i=g at *
  cases q:aC.lexLt [a.1,a.2] [g.p1,g.cz]with
  |true=>
   rw[if_pos q]at eq;exact⟨_,_,eq,⟨bk,rfl,c,f⟩,.late (p:=(g.p1,g.cz)) k m⟩
  |false=>
   rw[if_neg (by rw[q];decide)]at eq;exact⟨_,_,eq,P7 c f ⟨(O.hP B),.inr ⟨a3,E,B,rfl⟩,rfl,E.ok (by have:=O.w;omega) λz hz=>hz.ok⟩,.kept k m⟩
 |grant _ _ _ _ _=>rcases o with z|⟨l,z⟩<;>exact absurd z (by intro z;injection z with z;injection z with z _;injection z with z;exact absurd z (by decide))
 |kept _ _=>rcases o with z|⟨l,z⟩<;>exact absurd z (by intro z;injection z with z;injection z with z _;injection z with z;exact absurd z (by decide))
 |late _ _=>rcases o with z|⟨l,z⟩<;>exact absurd z (by intro z;injection z with z;injection z with z _;injection z with z;exact absurd z (by decide))
def ZW(w:Str)(hw:amz w=true):lT false (.v (.str w)) (.v (.t [.str "ask",.str "tell"]))=pure (.v (.ay (w == "ask" || w == "tell"))):=by
 have fa:([D.str "ask",D.str "tell"]).all D.flat=true:=by decide +kernel
 have b:(D.str w).flat=true:=by simpa[D.flat]using hw
 show(if(D.str w).flat=true/\([D.str "ask",D.str "tell"]).all D.flat=true then pure (R.v (D.ay (if false=true then !inD (D.str w) [D.str "ask",D.str "tell"]else inD (D.str w) [D.str "ask",D.str "tell"])))else bad)=_;rw[if_pos ⟨b,fa⟩,if_neg amm]
 congr 3
 show(eb (D.str "ask") (D.str w)||(eb (D.str "tell") (D.str w)||false))=_;rw[Bool.or_false,show eb (D.str "ask") (D.str w)=(("ask":Str)==w)from rfl,show eb (D.str "tell") (D.str w)=(("tell":Str)==w)from rfl,BEq.comm,BEq.comm (a:=("tell":Str))]
def WC(w:Str)(hw:amz w=true)(ds:List az.D):o4 [.t (.str w::ds)]=pure (.v (.ay (w == "ask" || w == "tell"))):=by
 have a:d7 (D.str w::ds) 0=some (.str w):=mi _ _;simp only[o4,Ij];simp[(ZW w hw)]
structure fR(Γ:d4)(h:cU):Prop where
 na:h.as.length=Γ.na
 as:∀(k:Nat)(a:bx),h.as[k]? = some a->gQ Γ a k
 nb:h.bs.length=6
 bs:∀b∈h.bs,oe Γ b
 ls:∀l∈h.ls,iz Γ l
def uI:amz "ask"=true:=by decide +kernel
def qI:amz "tell"=true:=by decide +kernel
def cU.ou(h h':cU):Prop:=∀i:Nat,(h'.as[i]?).map bx.wi=(h.as[i]?).map bx.wi
def FZ{h:cU}{k:Nat}{a b:bx}(d:h.as[k]? = some a)(e:b.wi=a.wi):h.ou (h.put k b):=λi=>by
 unfold cU.put
 by_cases c:k=i
 .subst c
  rw[amx (nu.mp d).1,d];exact congrArg some e
 .rw[amk c]
inductive vo(Γ:d4)(h:cU)(L:az.D)(Y:List az.D)(h':cU):Prop
 |keeper {me j:Nat}{e:Int}{s:cH}{b d8 y:az.D}(f7:L=fi me e s j\/∃l,L=eX me e s l j) (bq:j<6) (cX:h.bs[j]? = some b) (g:lO [b,L]=pure (.v (.t [d8,y]))) (ep:Y=[y]) (bD:h'.bs=h.bs.set j d8) (cM:h'.as=h.as):vo Γ h L Y h'
 |asker {a j:Nat}{e:Int}{s:cH}{A b:bx}(f7:(∃kp w,L=fX j a e s kp w)\/L=ha j a e s\/∃p,L=nV j a e s p) (fr:∀y∈Y,Bu a y) (bD:h'.bs=h.bs) (fI:h.as[a]? = some A) (cM:h'.as=h.as.set a b) (st:hj Γ A (λg=>L=fX g.k a A.bj A.st g.s g.w) Y b) (eN:b.wi=A.wi):vo Γ h L Y h'
abbrev Bq(Γ:d4)(h:cU)(k:Nat)(L:az.D):Prop:=∃Y h',h.Do t9 [.int k] (.fr (fM h.ls.length Y.length)) h'/\fR Γ h'/\h'.ls=h.ls++Y/\Y.length<=6/\h'.rs.length<=h.rs.length+1/\h.ou h'/\vo Γ h L Y h'
section
variable{Γ:d4}{h:cU}(H:fR Γ h)
include H
theorem fR.wr{Y:List az.D}(a:∀y∈Y,iz Γ y):fR Γ (h.wr Y):=⟨H.na,H.as,H.nb,H.bs,λl hl=>(amF.mp hl).elim (H.ls l) (a l)⟩
theorem fR.put{k:Nat}{b:bx}(f:k<h.as.length)(d:gQ Γ b k):fR Γ (h.put k b):=by
 refine⟨by unfold cU.put;rw[amQ];exact H.na,λi a e=>?_,H.nb,H.bs,H.ls⟩;have e:(h.as.set k b)[i]? = some a:=e
 by_cases c:k=i
 .subst c
  rw[amx f]at e;cases e;exact d
 .rw[amk c]at e
  exact H.as i a e
theorem fR.row(r:az.D):fR Γ (h.row r):=⟨H.na,H.as,H.nb,H.bs,H.ls⟩
theorem fR.bk{k:Nat}{b:az.D}(a:oe Γ b):fR Γ (h.bk k b):=by
 refine⟨H.na,H.as,by unfold cU.bk;rw[amQ];exact H.nb,λx c=>?_,H.ls⟩;rcases aoi c with z|rfl
 .exact H.bs x z
 .exact a
theorem fR.asker{k:Nat}(b:k < Γ.na):∃a,h.as[k]? = some a/\gQ Γ a k:=by
 have e:h.as[k]? = some (h.as[k]'(by rw[H.na];exact b)):=amB _;exact⟨_,e,H.as k _ e⟩
theorem ahG(O:Γ.Ok){k:Nat}(m:k < Γ.na){L w x e s o:az.D}(n:L=.t [w,x,.int k,e,s,o])(j:h.rs.length<=100000)
  (g:∀a,gQ Γ a k->sO Γ a k j_ [L] (λg=>L=fX g.k k a.bj a.st g.s g.w)) :
  ∃Y h',h.Do r9 [L] (.v (.l Y)) h'/\fR Γ h'/\s_ Γ k Y/\h'.ls=h.ls/\h'.bs=h.bs/\h'.rs.length<=h.rs.length+1/\h.ou h'/\∃A b,h.as[k]? = some A/\h'.as=h.as.set k b/\hj Γ A (λg=>L=fX g.k k A.bj A.st g.s g.w) Y b/\b.wi=A.wi:=by
 obtain⟨a,c,f⟩:=H.asker m;obtain⟨Y,b,ao,aA,bK,d,ex⟩:=g a f;subst n;have i:=(nu.mp c).1;refine⟨Y,_,(ahF c f.sg aA.sg ao j),?_,bK,?_,?_,?_,?_,a,b,c,?_,ex,d⟩
 .split
  .exact(H.put i aA).row _
  .exact H.put i aA
 .split<;>rfl
 .split<;>rfl
 .split
  .unfold cU.row cU.put;rw[amf];exact amj _
  .exact apQ _
 .split
  .exact FZ c d
  .exact FZ c d
 .split<;>rfl
theorem wd{w:Str}{ds:List az.D}{b:Bool}(hw:amz w=true)(a:(w == "ask" || w == "tell")=b):o4 [.t (.str w::ds)]=pure (.v (.ay b)):=by rw[WC w hw,a]
theorem Ul(O:Γ.Ok){k:Nat}(W:k<h.ls.length)(hz:h.ls.length<=900000)(R:h.rs.length<=100000) :
  Bq Γ h k h.ls[k]:=by
 have e:h.ls[k]? = some h.ls[k]:=amB _;have N:=H.ls _ (anT W);generalize h.ls[k]=L at *;have key:∀(me j:Nat)(c:Int)(s:cH),j<6->(L=fi me c s j\/∃l,L=eX me c s l j)->cf L=.v L->o4 [L]=pure (.v (.ay true))->(∃w x e s B,L=.t [w,x,.int j,e,s,B])->
   Bq Γ h k L:=λme j c s G K a3 go ⟨w,x,tp,ss,B,J⟩=>by
  have M:h.bs[j]? = some (h.bs[j]'(by rw[H.nb];exact G)):=amB _;have S:=H.bs _ (anT (by rw[H.nb];exact G:j<h.bs.length));obtain⟨X,y,g,lK,Q⟩:=Y1 O S N K;have tk:h.Do wY [L] (.fr [y]) (h.bk j X):=by rw[J]at g ⊢;exact ahH M g
  refine⟨[y],_,Uj e go tk rfl (by simp;omega),(H.bk lK).wr (by intro z hz;rw[amo]at hz;subst hz;exact Q),rfl,by simp,apQ _,(λ_=>rfl),.keeper K G M g rfl rfl rfl⟩
 have E:∀(a:Nat),a < Γ.na->(∃(j:Nat)(e:Int)(s:cH),(∃kp w,L=fX j a e s kp w)\/L=ha j a e s\/∃p,L=nV j a e s p)->cf L=.v L->o4 [L]=pure (.v (.ay false))->(∃w x e s B,L=.t [w,x,.int a,e,s,B])->(∀A,gQ Γ A a->sO Γ A a j_ [L] (λg=>L=fX g.k a A.bj A.st g.s g.w))->
   Bq Γ h k L:=λa V ⟨T,yO,s9,P⟩ a3 go ⟨w,x,tp,ss,B,J⟩ g=>by
  obtain⟨Y,h',ao,aA,bK,cR,da,fW,lH,A,b,f1,f2,gh,f4⟩:=ahG H O V J R g;have I:=bK.len;refine⟨Y,_,Uh e go ao cR (by omega),aA.wr bK.ok,?_,I,fW,lH,.asker P bK.fr da f1 f2 gh f4⟩;unfold cU.wr;rw[cR]
 cases N with
 |@ask me j c s i f F=>exact key me j c s f (.inl rfl) rfl (wd H uI rfl) ⟨_,_,_,_,_,rfl⟩|@tell me j c s p n d w i f F _=>exact key me j c s f (.inr ⟨_,rfl⟩) rfl (wd H qI rfl) ⟨_,_,_,_,_,rfl⟩| @grant j a c s kp w i f F C _=>exact E a i ⟨_,_,_,.inl ⟨_,_,rfl⟩⟩ rfl (wd H mU rfl) ⟨_,_,_,_,_,rfl⟩ λA r=>by obtain⟨Y,b,m,o,q,u,D⟩:=YR O r f F C;exact⟨Y,b,m,o,q,u,D.mono λg ⟨U,Z,pP⟩=>by rw[U,Z,pP]⟩
 | @kept j a c s i f=>exact E a i ⟨_,_,_,.inr (.inl rfl)⟩ rfl (wd H sj rfl) ⟨_,_,_,_,_,rfl⟩ λA r=>by obtain⟨Y,b,m,o,q,u,D⟩:=YW O r f;exact⟨Y,b,m,o,q,u,D.mono λ_ z=>z.elim⟩
 | @late j a c s p i f=>exact E a i ⟨_,_,_,.inr (.inr ⟨_,rfl⟩)⟩ rfl (wd H mV rfl) ⟨_,_,_,_,_,rfl⟩ λA r=>by obtain⟨Y,b,m,o,q,u,D⟩:=Y0 O r;exact⟨Y,b,m,o,q,u,D.mono λ_ z=>z.elim⟩
end
structure d4.BD(Γ m7:d4):Prop where
 w:m7.W=Γ.W
 n:m7.na=Γ.na
 wi:∀{i n d e},Γ.lA i n d e->m7.lA i n d e
 e:∀{e s},Γ.E e s->m7.E e s
section
variable{Γ m7:d4}(le:Γ.BD m7)
include le
theorem d4.BD.s{e:Int}{w:az.D}(h:Γ.S e w):m7.S e w:=by
 obtain⟨s,a,b,c⟩:=h;exact⟨s,by rw[le.w];exact a,le.e b,c⟩
theorem gQ.mono{a:bx}{k:Nat}(h:gQ Γ a k):gQ m7 a k:=by
 refine⟨h.me,by rw[le.n];exact h.lt,h.sg,h.hl,le.s h.op,?_,λc=>⟨λg b=>?_,(h.bR c).2⟩,λc=>le.s (h.ts c)⟩
 .obtain⟨d,f,e⟩:=h.dd
  exact⟨d,f,λz=>le.wi (e z)⟩
 .obtain⟨x,y,z⟩:=(h.bR c).1 g b
  exact⟨x,y.imp id le.s,z⟩
theorem iz.mono{l:az.D}(h:iz Γ l):iz m7 l:=by
 cases h with
 |ask a b c=>exact .ask (by rw[le.n];exact a) b c| tell a b c d=>exact .tell (by rw[le.n];exact a) b (le.s c) λx e=>by have:=d x e;rw[le.w];exact this
 |grant a b c d f=>exact .grant (by rw[le.n];exact a) b (c.imp id le.s) d f| kept a b=>exact .kept (by rw[le.n];exact a) b| late a b=>exact .late (by rw[le.n];exact a) b
theorem oe.mono{b:az.D}(h:oe Γ b):oe m7 b:=by
 obtain⟨bk,e,r,p⟩:=h;exact⟨bk,e,r,λg a=>⟨(p g a).e,(p g a).s.imp id le.s,(p g a).a3,(p g a).ok⟩⟩
theorem fR.mono{h:cU}(H:fR Γ h):fR m7 h:=⟨by rw[le.n];exact H.na,λk a e=>(H.as k a e).mono le,H.nb,λb c=>(H.bs b c).mono le,λl hl=>(H.ls l hl).mono le⟩
end
section
variable{Γ:d4}(O:Γ.Ok){h:cU}(H:fR Γ h)
include O H
theorem Zq{k:Nat}(g:k < Γ.na)(hz:h.ls.length<=900000):∃Y h',h.Do zO [.int k] (.fr (fM h.ls.length Y.length)) h'/\fR Γ h'/\h'.ls=h.ls++Y/\Y.length<=6/\h'.rs=h.rs/\h.ou h'/\h'.bs=h.bs/\∃A b,h.as[k]? = some A/\h'.as=h.as.set k b/\hj Γ A (λ_=>False) Y b/\b.wi=A.wi:=by
 refine a4 λe=>?_
 obtain⟨a,c,f⟩:=H.asker g;have j:k<h.as.length:=(nu.mp c).1;obtain⟨Y,b,ao,aA,bK,d,ex⟩:=T4 O f;have i:=bK.len;exact e ⟨Y,_,T3 c ao (by omega),(H.put j aA).wr bK.ok,rfl,i,rfl,FZ c d,rfl,a,b,c,rfl,ex,d⟩
theorem Zp{k:Nat}{a:bx}(e:h.as[k]? = some a)(aw:a.sg="calm")(i:a.b6=false){d:Option dO}(hd:d=none\/nY [dW d]=pure (.v (.ay true)))(hw:Γ.lA k (a.wi+1) d a.bj)(hz:h.ls.length<=900000)(g:h.rs.length<=100000) :
  ∃Y h',h.Do wX [.int k,dW d] (.fr (fM h.ls.length Y.length)) h'/\fR Γ h'/\h'.ls=h.ls++Y/\Y.length<=6/\h'.rs.length=h.rs.length+1/\h'.as=h.as.set k (a.jd (dW d)).asks/\h'.bs=h.bs/\hj Γ (a.jd (dW d)) (λ_=>True) Y (a.jd (dW d)).asks:=by
 have b:=H.as k a e;have p:k<h.as.length:=(nu.mp e).1;refine a4 λm=>?_
 obtain⟨ms,fa,fk,c⟩:=b.hl.ex;have j:dW d=.aP\/nY [dW d]=pure (.v (.ay true)):=hd.imp (λz=>by rw[z];rfl) id;have ao:=T1 (a:=a) c.mem c.len aw i (Rl d) j;obtain⟨dJ,q,s2,s3⟩:=b.op;have l:gQ Γ (a.jd (dW d)) k:=⟨b.me,b.lt,b.sg,b.hl,b.op,⟨d,rfl,λ_=>hw⟩,(λz=>by rw[show(a.jd (dW d)).sg=a.sg from rfl,aw]at z;exact absurd z nB),(λz=>by rw[show(a.jd (dW d)).sg=a.sg from rfl,aw]at z;exact absurd z tg)⟩;have o:=Hz O l ⟨d,rfl,hw⟩;have f:=GH O b (s:=(a.cb+1,a.me)) c (O.hP s2);have n:=f.len;refine m ⟨_,_,Zo e (Rl d) ao (by omega) g,((H.put p o).row _).wr f.ok,rfl,n,?_,rfl,rfl,.jd (λ_=>trivial) rfl rfl rfl rfl rfl⟩;unfold cU.wr cU.row cU.put;dsimp only;rw[amf];rfl
end
abbrev fU:=Nat->List (Option dO×Int)
def mS(l:List (Option dO×Int)):Nat:=(l.filter λx=>j9 x.1).length
def kW(l:List (Option dO×Int))(n:Nat):Nat:=mS (l.take n)
def ab6(l:List (Option dO×Int))(n:Nat):kW l n<=mS l:=((ap8 n l).filter _).length_le
def ab7(l:List (Option dO×Int)){m n:Nat}(h:m<=n):kW l m<=kW l n:=by
 unfold kW;have:l.take m=(l.take n).take m:=by rw[List.take_take,aoZ h]
 rw[this];exact((ap8 m (l.take n)).filter _).length_le
def Fc(l:List (Option dO×Int))(x:Option dO×Int):mS (l++[x])=mS l+if j9 x.1=true then 1 else 0:=by
 unfold mS;cases q:j9 x.1<;>simp[q]
def ab9{l:List (Option dO×Int)}{n:Nat}{x:Option dO×Int}(e:l[n]? = some x):kW l (n+1)=kW l n+if j9 x.1=true then 1 else 0:=by
 unfold kW;rw[apd,e];exact Fc _ x
def sumF(f:Nat->Nat):Nat->Nat
 |0=>0|n+1=>sumF f n+f n
theorem Gn{f g:Nat->Nat}(h:∀k,f k<=g k):∀n,sumF f n<=sumF g n
 |0=>amj _|n+1=>Nat.add_le_add (Gn h n) (h n)
theorem QY{f g:Nat->Nat}{k c:Nat}(h:∀j,j≠k->f j=g j)(b:f k+c<=g k):∀n,k<n->sumF f n+c<=sumF g n
 |n+1,C=>by
  have:∀m,m<=k->sumF f m=sumF g m:=λm=>by
   induction m with
   |zero=>intro _;rfl|succ m a=>
    intro d;unfold sumF;rw[a (by omega),h m (by omega)]
  unfold sumF
  by_cases z:k=n
  .subst z
   rw[this k (amj _)];omega
  .have:=QY h b n (by omega)
   rw[h n (an4 z)];omega
def xy(w:fU)(s:dc):Nat:=sumF (λk=>kW (w k) (s.last (k:Nat)).toNat) 6
structure GE(w:fU)(e:Int)(s:dc):Prop where
 dZ:0<=e
 pt:e.toNat+dN s<=xy w s
 le:∀k:Nat,s.last (k:Nat)<=((w k).length:Nat)
 lo:∀(k m:Nat)(d:Option dO)(b:Int),(w k)[m]? = some (d,b)->j9 d=true->s.last (k:Nat)=(m:Int)+1->b+1<=e+(dN s:Nat)
def hT(W:List (List Nat))(na:Nat)(w:fU):d4 where
 W:=W
 na:=na
 lA:=λi n d e=>∃(k m:Nat)(b:Int),k<6/\i=k/\n=(m:Int)+1/\(w k)[m]? = some (d,b)/\b<=e
 E:=GE w
def aa9{G:az.D->Prop}{W:List (List Nat)}{s:dc}(h:gd G W s)(t:dc)(i n:Int)(v:az.D)(a:t.ds=kb (Q:=ot) s.ds (i,.t [.int i,.int n,v]))(j:Int):t.last j=if j=i then n else s.last j:=by
 unfold dc.last;rw[a,Wo _ h.oI.nodup j]
 by_cases c:j=i
 .rw[if_pos c,if_pos c];rfl
 .rw[if_neg c,if_neg c]
def aey{s:dc}(aw:s.aS=.aP)(i:Int)(x:dO):xV (eO s i x).1.aS=true->j9 (some x)=true:=by
 cases x<;>unfold eO<;>dsimp only<;>(try split)<;>(try unfold dc.put)<;>(try dsimp only)<;>(try rw[aw])<;>intro z<;>first|rfl|cases z
def afA{w:fU}{s t:dc}{k c:Nat}(b:k<6)(a:∀j:Nat,j≠k->t.last (j:Nat)=s.last (j:Nat))(aw:kW (w k) (s.last (k:Nat)).toNat+c<=kW (w k) (t.last (k:Nat)).toNat):xy w s+c<=xy w t:=QY (λj d=>by rw[a j d]) aw 6 b
def Mz{W:List (List Nat)}{na:Nat}{w:fU}(H:W.length<63)(r:na<=6)(E:∀k,mS (w k)<=10)(hd:∀(k:Nat)(x:dO)(b:Int),(some x,b)∈w k->l8 h8 W x):(hT W na w).Ok where
 w:=H
 n:=r
 up:=λ⟨k,m,b,a1,a2,gv,hp,jc⟩=>⟨k,m,b,a1,a2,gv,hp,by omega⟩
 done:=λ{e s i n d} h a hw=>by
  obtain⟨k,m,b,u,rfl,rfl,f,L⟩:=hw
  cases d with
  |none=>exact a|some x=>
   unfold qf;dsimp only
   by_cases c:(fp s.aS)=true/\s.last (k:Nat)<(m:Int)+1
   .rw[if_pos c]
    have G:s.aS=.aP:=by
     rcases h.aS with e|e|⟨⟨xs,e⟩,_⟩
     .exact e
     .rw[e]at c;cases c.1
     .rw[e]at c;cases c.1
    have l:=aa9 h { (eO s (k:Nat) x).1 with ds:=kb (Q:=ot) s.ds ((k:Nat),.t [.int (k:Nat),.int ((m:Int)+1),(eO s (k:Nat) x).2]) } (k:Nat) ((m:Int)+1) _ rfl;have O:=Q7 c.1;have o:=a.pt;have A:=a.lo;have B:=hd k x b (amD f);have bI:j9 (some x)=true->xV (eO s (k:Nat) x).1.aS=true:=λz=>by
     cases x with
     |move hh=>obtain⟨⟨xs,e⟩,_⟩:=B;rw[e];rfl
     |_=>cases z
    generalize F:({ (eO s (k:Nat) x).1 with ds:=kb (Q:=ot) s.ds ((k:Nat),.t [.int (k:Nat),.int ((m:Int)+1),(eO s (k:Nat) x).2]) }:dc)=T at l ⊢;have q:dN T=if xV (eO s (k:Nat) x).1.aS=true then 1 else 0:=by rw[<-F];rfl
    have N:=l (k:Nat);have fO:(T.last (k:Nat)).toNat=m+1:=by omega
    have lo:∀j:Nat,j≠k->T.last (j:Nat)=s.last (j:Nat):=λj M=>by rw[l (j:Nat),if_neg (by omega)]
    have ps:=afA (c:=if j9 (some x)=true then 1 else 0) u lo (by rw[fO,(ab9 f)];exact Nat.add_le_add_right (ab7 (w k) (n:=m) (by omega)) _);have tt:dN T=if j9 (some x)=true then 1 else 0:=by
     rw[q]
     by_cases z:xV (eO s (k:Nat) x).1.aS=true
     .rw[if_pos z,if_pos ((aey G (k:Nat) x) z)]
     .rw[if_neg z,if_neg λy=>z (bI y)]
    refine⟨a.dZ,by omega,λj=>?_,λj p d' D ao aA bK=>?_⟩
    .by_cases z:j=k
     .subst z
      have:=(nu.mp f).1;omega
     .rw[lo j z];exact a.le j
    .by_cases z:j=k
     .subst z
      have:p=m:=by omega
      subst this;rw[f]at ao;cases ao;rw[tt,if_pos aA];omega
     .rw[lo j z]at bK
      have:=A j p d' D ao aA bK;omega
   .rw[if_neg c];exact a
 ka:=λ{e s} h a ⟨xs,g⟩=>by
  have P:dN s=1:=by unfold dN;rw[g];rfl
  have o:=a.pt;have K:=a.dZ;refine⟨by omega,?_,a.le,λk m d b ao aA bK=>?_⟩
  .show(e+1).toNat+0<=xy w s
   omega
  .have:=a.lo k m d b ao aA bK
   omega
 hP:=λ{e s} a=>by
  have o:=a.pt;have J:xy w s<=60:=Gn (λk=>amN (ab6 (w k) _) (E k)) 6;exact⟨a.dZ,by omega⟩
 iv:=λ{i n d e x} ⟨k,m,b,_,_,_,f,_⟩ g=>hd k x b (by rw[<-g];exact amD f)
def addW(w:fU)(k:Nat)(x:Option dO×Int):fU:=λj=>if j=k then w k++[x]else w j
def p6(w:fU)(k:Nat)(x:Option dO×Int):addW w k x k=w k++[x]:=if_pos rfl
def tb{w:fU}{k j:Nat}(h:j≠k)(x:Option dO×Int):addW w k x j=w j:=if_neg h
def Sv{w:fU}{k j m:Nat}{x y:Option dO×Int}(h:(addW w k x j)[m]? = some y):(w j)[m]? = some y\/j=k/\m=(w j).length/\y=x:=by
 by_cases c:j=k
 .subst c
  rw[p6]at h
  by_cases z:m<(w j).length
  .rw[amA z]at h;exact .inl h
  .rw[ams (by omega)]at h
   cases q:m-(w j).length with
   |zero=>rw[q]at h;cases h;exact .inr ⟨rfl,by omega,rfl⟩
   |succ n=>rw[q]at h;cases h
 .rw[tb c]at h;exact .inl h
def Hr(w:fU)(k:Nat)(x:Option dO×Int)(j:Nat):w j <+: addW w k x j:=by
 by_cases c:j=k
 .subst c;rw[p6];exact ao6 _ _
 .rw[tb c];exact an9 _
def ab8{l a:List (Option dO×Int)}(h:l <+: a)(n:Nat):kW l n<=kW a n:=by
 obtain⟨r,rfl⟩:=h;unfold kW mS;rw[List.take_append,List.filter_append,amf];omega
def Wt{W:List (List Nat)}{na:Nat}{w:fU}{k:Nat}{x:Option dO×Int}:(hT W na w).BD (hT W na (addW w k x)) where
 w:=rfl
 n:=rfl
 wi:=λ{i n d e} ⟨j,m,b,a1,a2,gv,hp,jc⟩=>⟨j,m,b,a1,a2,gv,by
  obtain⟨r,c⟩:=Hr w k x j;rw[<-c,amA (nu.mp hp).1];exact hp,jc⟩
 e:=λ{e s} a=>by
  have h:=Hr w k x;refine⟨a.dZ,amN a.pt ?_,λj=>Int.le_trans (a.le j) (by have:=(h j).length_le;omega),λj m d b ao aA bK=>?_⟩
  .exact Gn (λk=>ab8 (h k) _) 6
  .rcases Sv ao with z|⟨rfl,z,_⟩
   .exact a.lo j m d b z aA bK
   .have:=a.le j
    omega
def Sw{W:List (List Nat)}{na:Nat}{w:fU}{k:Nat}(a:k<6)(d:Option dO)(e:Int):(hT W na (addW w k (d,e))).lA k ((w k).length+1) d e:=
 ⟨k,(w k).length,e,a,rfl,rfl,by rw[p6];simp,anR _⟩
structure pX(w:fU)(a:bx)(k:Nat):Prop where
 c:a.sg="calm"->a.b6=false->(mS (w k):Int)<=a.bj
 o:a.sg≠"calm"->∃(m:Nat)(d:Option dO)(b:Int),a.wi=(m:Int)+1/\a.dd=dW d/\(w k)[m]? = some (d,b)/\b<=a.bj/\(mS (w k):Int)<=b+if j9 d=true then 1 else 0
def OO{W:List (List Nat)}{na:Nat}{w:fU}{a b:bx}{k:Nat}{G:ec->Prop}{Y:List az.D}(me:a.me=k)(i:b.wi=a.wi)(st:hj (hT W na w) a G Y b)(nb:¬∀g,G g)(h:pX w a k):pX w b k:=by
 have t:∀{b:bx},b.wi=a.wi->a.sg≠"calm"->a.bj<=b.bj->b.dd=a.dd->b.sg≠"calm"->pX w b k:=λ{b} i c ao f u=>⟨λz=>absurd z u,λ_=>by
  refine a4 λe=>?_
  obtain⟨m,d,x,p,r,s,E,j⟩:=h.o c;exact e ⟨m,d,x,i.trans p,f.trans r,s,by omega,j⟩⟩
 refine a4 λe=>?_
 cases st with
 |i7 ao aA bK cR da fW f n=>
  refine e ⟨λc o=>?_,λc=>?_⟩
  .rw[ao];exact h.c (bK▸c) (fW▸o)
  .rw[ao,f,i];exact h.o (bK▸c)
 |calm bK da c F n=>
  refine e ⟨λ_ b6=>?_,λc=>absurd bK c⟩;refine a4 λe=>?_
  obtain⟨m,d,x,p,r,s,E,j⟩:=h.o c;rcases F with z|⟨le,z|⟨a3,s1,C,l,z⟩⟩
  .rw[b6]at z;cases z
  .rw[r]at z
   cases d with
   |none=>refine e ?_;rw[if_neg (by decide)]at j;omega|some y=>refine e ?_;cases y<;>cases z
  .by_cases q:j9 d=true
   .rw[if_pos q]at j
    have:=C.lo k m d x s q (by rw[<-me,l,p]);refine e ?_;omega
   .rw[if_neg q]at j;omega
 |ask c ao f aA bK cR da n=>refine e ?_;exact t i c ao f (by rw[bK];decide)|jd B aA bK cR da n=>exact e (absurd B nb)| got c A ao aA bK cR da f n=>refine e ?_;exact t i (by rw[c];decide) (Int.le_of_eq ao.symm) f (by rw[bK];decide)| tell c A ao f aA bK da H n=>refine e ?_;exact t i (by rw[c];decide) (Int.le_of_eq ao.symm) f (by rw[bK];decide)
def mj:dc:=⟨[],[],0,.aP,.aP⟩
def T':mj.D=Cu:=rfl
def Ua(G:az.D->Prop)(W:List (List Nat)):gd G W mj:=⟨by simp[mj],.nil,by simp[mj],by simp[mj],.nil,by simp[mj],.inl rfl,.inl rfl,by simp[mj]⟩
def adF{Γ:d4}(c:Γ.E 0 mj){k:Nat}(b:k < Γ.na){a:az.D}(hh:h8 a):gQ Γ (uy k a) k:=
 ⟨rfl,b,.inl rfl,hh,⟨mj,Ua _ _,c,T'.symm⟩,⟨none,rfl,λz=>absurd rfl z⟩,(λz=>absurd z nB),(λz=>absurd z tg)⟩
def Wu(W:List (List Nat))(na:Nat)(w:fU):(hT W na w).E 0 mj:=⟨anR _,amT _,λk=>show(0:Int)<=_ by omega,λk m d b _ _ z=>absurd z (by show ¬(0:Int)=_;omega)⟩
def adC{Γ:d4}(i:Γ.E 0 mj){c:az.D}(hh:h8 c):fR Γ (sa Γ.na c) where
 na:=by unfold sa;simp
 as:=λk a e=>by
  unfold sa at e;dsimp only at e;rw[amE]at e
  by_cases d:k < Γ.na
  .rw[an7 d]at e
   cases e;exact adF i d hh
  .rw[List.getElem?_eq_none (by simpa using d)]at e
   cases e
 nb:=by unfold sa;simp
 bs:=λb h=>by
  have:b=.t []:=by
   have:=aqx h;exact this
  subst this;exact⟨[],rfl,.nil,λg f=>(nomatch f)⟩
 ls:=λl hl=>nomatch hl
def AX{α:Type}(xs:List α):ny (xs.map λ_=>.ay true)=some (xs.map λ_=>true)/\(xs.map λ_=>true).all id=true:=⟨yB (λ_=>true) xs,amX.mpr λx h=>by obtain⟨_,_,rfl⟩:=amG.mp h;rfl⟩
def SF{α:Type}(xs:List α):oK [.fr (xs.map λ_=>.ay true)]=pure (.v (.ay true)):=by
 show(match ny (xs.map λ_=>D.ay true)with|some bs=>pure (R.v (.ay (bs.all id)))|none=>bad)=_;rw[(AX xs).1];show pure (R.v (.ay ((xs.map λ_=>true).all id)))=_;rw[(AX xs).2]
def aaC{k:Nat}(h:k<6):w7 [.int (k:Nat)]=pure (.v (.ay true)):=by
 have:(k:Int)<=5:=by omega
 simp[w7,ID,pK,this]
def aaE(xs:List D):w7 [.t xs]=pure (.v (.ay false)):=by kernel_rfl
def PF(x y:D):zU [.t [x,y]]=pure (.v (.ay true)):=by kernel_rfl
def UT{k:Nat}{ps:List D}(a:1<=k)(b:k<=ps.length)(c:ps.length<=6):E0 [.t [.int (k:Nat),.t ps]]=pure (.v (.ay true)):=by
 refine jA rfl ((pv (qq ((xu (Fo (jx (PF (.int (k:Nat)) (.t ps))))).trans ((xu (Fo (jx (pK k)))).trans rfl)))).trans ((pv rfl).trans ?_));have:(1:Int)<=k:=by omega
 have:(ps.length:Int)<=6:=by omega
 unfold Iu;simp[*]
theorem JI:∀(n m:Nat)(r:bB),m<n->r.deep<=m->r.wf->uh n [enc r,.int (m:Nat)]=pure (.v (.ay true))
 |0,m,r,h,_,_=>absurd h (anD _)| n+1,m,.kp k,_,_,hw=>by exact jA rfl (Gb ((tQ (jx (aaC hw))).trans rfl))|n+1,0,.ch k ps,_,hd,_=>absurd hd (Nat.not_succ_le_zero _)|n+1,m+1,.ch k ps,h,hd,hw=>by
  have ao:((m+1:Nat):Int)-1=(m:Nat):=by omega
  rw[ry];refine jA rfl ((pv (qq (jx (aaE [.int (k:Nat),.t (ps.map enc)])))).trans ((pv (qq ((xu (jx rfl)).trans (Fo (jx (UT hw.1 (by rw[amh];exact hw.2.1) (by rw[amh];exact hw.2.2.1))))))).trans (kf (rl (SF ps) (cons_of (yL rfl (by rw[amh];exact gD (by have:=hw.2.2.1;omega)) (rq enc _ ps λq a=>Vb (call_of (rs:=[.v (enc q),.v (.int (((m+1:Nat):Int)-1))]) rfl ?_))) rfl)))));rw[ao];exact JI n m q (Nat.lt_of_succ_lt_succ h) (Nat.le_of_lt_succ ((qd hd) q a)) (vc.mp hw.2.2.2 q a)
theorem O0:∀(n:Nat)(r:bB),r.deep<n->r.names.length<=12->mQ n [enc r]=pure (.fr (r.names.map a6))
 |0,r,h,_=>absurd h (anD _)| n+1,.kp k,_,_=>by exact Dh rfl (Gb ((tQ (jx (pK k))).trans rfl))|n+1,.ch k ps,h,a=>by
  have a:(bB.fz ps).length<=12:=a;rw[ry];obtain⟨U',e,s,rfl⟩:=y1 (b:=λd U=>wN (mQ n) (U.set 2 (.v d))) (ds:=ps.map enc) (λi U=>∃s,U=[.v (.t [.int (k:Nat),.t (ps.map enc)]),.dM false ((bB.fz (ps.take i)).map a6),s]) ⟨_,rfl⟩ (λi d U hd ⟨s,g⟩=>by
   subst g;obtain⟨q,c,rfl⟩:=z4 hd;have f:bB.fz (ps.take (i+1))=bB.fz (ps.take i)++q.names:=by rw[take_snoc c,xg];exact congrArg _ (am8 _)
   have hl:(bB.fz (ps.take (i+1))).length<=12:=by
    have:=congrArg (λz=>(bB.fz z).length) (List.take_append_drop (i+1) ps);simp only[xg,amf]at this;omega
   rw[f,amf]at hl;refine⟨_,.inl (?_:_=pure (fZ.bt [.v (.t [.int (k:Nat),.t (ps.map enc)]),.dM false ((bB.fz (ps.take (i+1))).map a6),.v (enc q)])),_,rfl⟩;rw[f,ant];have z:(bB.fz (ps.take i)).length+q.names.length<=ami:=anM (gD (by omega));unfold wN;simp[(O0 n q ((qd (ps:=ps) (n:=n) (Nat.lt_of_succ_lt_succ h)) q (amD c)) (by omega)),z])
  rw[amh,aqw]at e;exact Dh rfl ((pv (qq (jx (GD [.int (k:Nat),.t (ps.map enc)])))).trans ((pv (aeK (U:=[.v (.t [.int (k:Nat),.t (ps.map enc)]),.e,.e]))).trans ((pv (V4 rfl e)).trans rfl)))
def QC{r:bB}(h:Good r):w' [enc r]=pure (.v (.ay true)):=by
 have b:uh 12 [enc r,.int 4]=_:=JI 12 4 r (by decide) h.2.1 h.1;have a:=O0 12 r (by have:=h.2.1;omega) h.2.2;have aA:(r.names.length:Int)<=12:=by have:=h.2.2;omega
 simp only[w',IJ];simp[b,a,aA]
def yS:Option Nat->D
 |some o=>a6 o|none=>.aP
def VO(m:Nat)(os:List Nat):w6 [a6 m,.l (os.map a6)]=pure (.v (yS (os.find? (oy m)))):=by
 have step:∀(o:Nat)(s2:Slot),zD [.v (a6 m),.cj (os.map a6),.v (a6 o)]=if oy m o=true then pure (.cx (.v (a6 o)))else pure (.bt [.v (a6 m),.cj (os.map a6),.v (a6 o)]):=λo s2=>by
  have a:m&&& o=0↔oy m o=true:=by unfold oy;rw[beq_iff_eq]
  simp only[zD,hA];simp[SH,a]
 have L:=tx (b:=λd U=>zD (U.set 2 (.v d))) a6 (oy m) (λo=>.v (a6 o)) (λU=>∃s2,U=[.v (a6 m),.cj (os.map a6),s2]) os [.v (a6 m),.cj (os.map a6),.e] ⟨_,rfl⟩
  (λo U _ ⟨s2,c⟩=>by
   subst c;refine⟨λh=>?_,λh=>⟨[.v (a6 m),.cj (os.map a6),.v (a6 o)],?_,_,rfl⟩⟩
   .have:=step o s2
    rw[if_pos h]at this;exact this
   .have:=step o s2
    rw[if_neg (by rw[h];exact amm)]at this;exact this)
 simp only[w6,Ig,Ih];simp only[hA m]at L ⊢
 cases e:os.find? (oy m)with
 |some o=>
  simp[(L.1 o e),yS]
 |none=>
  obtain⟨U',a,s2,rfl⟩:=L.2 e;simp[a,yS]
def tr(k:bB):Option Nat->D
 |some m=>.t [a6 m,a6 (((least k).find? (oy m)).getD 0)]|none=>.aP
def aeP(g:Good a)(i:Good k):z1 [enc a,enc k]=pure (.v (tr k ((least a).find? (kI k)))):=by
 have j:=Oq g.1 (by have:=g.2.1;omega) (by have:=g.2.2;omega);have n:=Oq i.1 (by have:=i.2.1;omega) (by have:=i.2.2;omega);have step:∀(m:Nat)(c:Slot),zF [.v (enc a),.v (enc k),.v (.l ((least k).map a6)),.v (a6 m),c]=if kI k m=true then pure (.cx (.v (tr k (some m))))else pure (.bt [.v (enc a),.v (enc k),.v (.l ((least k).map a6)),.v (a6 m),.v .aP]):=λm c=>by
  have f:=VO m (least k);unfold kI;simp only[zF]
  cases e:(least k).find? (oy m)with
  |none=>
   rw[e]at f;simp[f,yS]
  |some o=>
   rw[e]at f;have f:w6 [a6 m,.l ((least k).map a6)]=pure (.v (a6 o)):=f;simp[f,tr,e,hA o]
 have L:=tx (b:=λd U=>zF (U.set 3 (.v d))) a6 (kI k) (λm=>.v (tr k (some m))) (λU=>∃s3 c,U=[.v (enc a),.v (enc k),.v (.l ((least k).map a6)),s3,c]) (least a) [.v (enc a),.v (enc k),.v (.l ((least k).map a6)),.e,.e] ⟨_,_,rfl⟩
  (λm U _ ⟨s3,c,p⟩=>by
   subst p;refine⟨λh=>?_,λh=>⟨[.v (enc a),.v (enc k),.v (.l ((least k).map a6)),.v (a6 m),.v .aP],?_,_,_,rfl⟩⟩
   .have:=step m c
    rw[if_pos h]at this;exact this
   .have:=step m c
    rw[if_neg (by rw[h];exact amm)]at this;exact this)
 simp only[z1,Jf,Jg,Jh]
 cases e:(least a).find? (kI k)with
 |some m=>
  simp[j,n,(L.1 m e)]
 |none=>
  obtain⟨U',q,s3,c,rfl⟩:=L.2 e;simp[j,n,q,tr]
def W0{a k:bB}(b:Good a)(c:Good k)(e:(least a).find? (kI k)=none):qB [.t [enc a,enc k]]=pure (.v (.ay true)):=by
 have pt:=aeP b c;rw[e]at pt;simp only[qB,IB,IC];simp[PF,QC b,QC c,pt,tr]
def o2(c:Nat):Bool:=decide (97<=c/\c<=122)
def BR:("abcdefghijklmnopqrstuvwxyz":Str).cps.toList=(amJ 26).map λk=>97+k:=by decide +kernel
def ZT{c:Nat}(h:o2 c=true):u5 (ch c) "abcdefghijklmnopqrstuvwxyz"=true:=by
 unfold u5;have h:=of_decide_eq_true h;rw[show ch c=⟨#[c]⟩from rfl,StrLaws.found_one,BR,decide_eq_true_eq];simp only[amG,am5];exact⟨c-97,by omega,by omega⟩
def Ge{n:Nat}(h:n<=1000):n<=ami:=by rw[amS];omega
def acg{l:List Nat}(f:1<=l.length)(d:l.length<=8)(b:l.all o2=true):w9 [.str (bI l)]=pure (.v (.ay true)):=by
 have a:gP gb (ak (si false) (J 0) (bb (.str "abcdefghijklmnopqrstuvwxyz"))) [.e] (l.map λc=>D.str (ch c))=pure (l.map λ_=>D.ay true):=
  rq (λc=>D.str (ch c)) (λ_=>D.ay true) l λc a=>by simp[ZT (amX.mp b c a)]
 have h:yJ (bI l)=l.map λc=>D.str (ch c):=rfl
 obtain⟨j,g⟩:=AX l;have z:=Ge (n:=l.length) (by omega);have i:l.length<ami:=gD (by omega);have:(1:Int)<=l.length:=by omega
 have:(l.length:Int)<=8:=by omega
 simp only[w9,IF,IG];simp[*,pF]
def Pa{n:Int}(b:-1000000000000000000000<n)(a:n<10000000000000000000000000000000000000000):w_ [.int n]=pure (.v (.ay true)):=by
 have e:(if n<0 then -n else n)<1000000000000000000000000000000000000000000000000000000000000:=by split<;>omega
 simp only[w_,IH];simp[pK,e]
def VK{n:Int}(a:0<=n)(b:n<4):zT [.int n]=pure (.v (.ay true)):=by
 simp only[zT,IA];simp[Pa (show -1000000000000000000000<n by omega) (by omega),a]
def eT(k:Str)(d:D):Prop:=o6 [.str k,d]=pure (.v (.ay true))
def j3(a b:Str)(c:Bool):Prop:=oEq (.v (.str a)) (.v (.str b))=pure (.v (.ay c))
def yP:j3 "name" "name" true/\j3 "number" "name" false/\j3 "number" "number" true/\j3 "fence" "name" false/\j3 "fence" "number" false/\j3 "fence" "fence" true/\j3 "hall" "name" false/\j3 "hall" "number" false/\j3 "hall" "fence" false:=by
 unfold j3;exact⟨by kernel_rfl,by kernel_rfl,by kernel_rfl,by kernel_rfl,by kernel_rfl,by kernel_rfl,by kernel_rfl,by kernel_rfl,by kernel_rfl⟩
def afJ{a:List Nat}(h:w9 [.str (bI a)]=pure (.v (.ay true))):eT "name" (.str (bI a)):=by
 have q:=yP.1;unfold j3 at q;simp only[eT,o6,vK];simp[q,h]
def FU{n:Int}(b:-1000000000000000000000<n)(a:n<10000000000000000000000000000000000000000):eT "number" (.int n):=by
 obtain⟨_,bE,bZ,_⟩:=yP;unfold j3 at *;simp only[eT,o6,vK,yx];simp[bE,bZ,Pa b a]
def afH{n:Int}(c:0<=n)(a:n<4):eT "fence" (.int n):=by
 obtain⟨_,_,_,bE,bZ,b,_⟩:=yP;unfold j3 at *;simp only[eT,o6,vK,yx,Cm];simp[bE,bZ,b,VK c a]
def afI{xs:List D}(h:qB [.t xs]=pure (.v (.ay true))):eT "hall" (.t xs):=by
 obtain⟨_,_,_,_,_,_,bE,bZ,a⟩:=yP;unfold j3 at *;simp only[eT,o6,vK,yx,Cm,II];simp[bE,bZ,a,h]
theorem JW{el:bp}{U:aL}:∀xs:List (D×D),(∀x∈xs,(el ((U.set 0 (.v x.1)).set 1 (.v x.2)) >>= R.dat)=pure (.ay true))->rW gb el U xs=pure (xs.map λ_=>.ay true)
 |[],_=>rfl|x::xs,h=>by
  show(pure true >>= _)=_;rw[pure_bind,if_pos rfl,<-bind_assoc,h x amu,pure_bind,JW xs λy a=>h y (amr _ a),pure_bind];rfl
def U7(x:D)(ps:List D):cutD (x::ps) (some 1) none=ps:=U8 (x::ps) 1
def oH{w:Str}{s:List Str}{ps:List D}(d:zA.lookup w=some (.t (s.map .str)))(c:ps.length=s.length)(s3:s.length<=3)(f:∀x∈s.zip ps,eT x.1 x.2):nY [.t (.str w::ps)]=pure (.v (.ay true)):=by
 have ne:¬((s.length:Int)+1=0):=by omega
 have h:rW gb (bo o6 (bH (J 0) (J 1))) [.e,.e] ((s.map D.str).zip ps)=pure (((s.map D.str).zip ps).map λ_=>.ay true):=JW _ λx a=>by
  rw[List.zip_map_left]at a;obtain⟨y,b,rfl⟩:=amG.mp a;have e:o6 [.str y.1,y.2]=_:=f y b;simp[e]
 obtain⟨i,g⟩:=AX ((s.map D.str).zip ps);have vk:s.length<ami:=gD (by omega);simp only[nY,Iv,Iw,Iy,Iz,EZ,Ii];simp[d,c,U7,h,i,g,vk,x6,R.walk,ne]
theorem y6:∀(m:Nat)(r:bB),r.deep<m->∀n,2*r.deep<=n->(enc r).bW n=true
 |0,r,h,_,_=>absurd h (anD _)| m+1,.kp k,_,n,_=>by rw[yT];cases n<;>rfl
 |m+1,.ch k ps,h,n,C=>by
  simp only[bB.deep]at h C;have dl:=qd (ps:=ps) (n:=bB.mm ps+1) (by omega);rw[ry];obtain⟨a,rfl⟩:∃a,n=a+2:=⟨n-2,by omega⟩;have hz:hS (ps.map enc) a=true:=lI.mpr λp b=>by
   obtain⟨q,c,rfl⟩:=amG.mp b;have:=dl q c;exact y6 m q (by omega) a (by omega)
  simp[D.bW,hS,hz]
theorem Rw:∀(m:Nat)(r:bB),r.deep<m->r.wf->(enc r).A6=true
 |0,r,h,_=>absurd h (anD _)| m+1,.kp k,_,_=>by rw[yT];rfl|m+1,.ch k ps,h,hw=>by
  simp only[bB.deep]at h;have dl:=qd (ps:=ps) (n:=bB.mm ps+1) (by omega);rw[ry];have hl:ps.length<=6:=hw.2.2.1;have hz:pL (ps.map enc)=true:=GF.mpr λp b=>by
   obtain⟨q,a,rfl⟩:=amG.mp b;have:=dl q a;exact Rw m q (by omega) (vc.mp hw.2.2.2 q a)
  show(decide (2<=1000)&&(true&&((decide ((ps.map enc).length<=1000)&&pL (ps.map enc))&&true)))=true;rw[hz,amh,decide_eq_true (show ps.length<=1000 by omega)];rfl
def L3{r:bB}(h:Good r):az.Ok 8 (enc r):=⟨y6 12 r (by have:=h.2.1;omega) 8 (by have:=h.2.1;omega),Rw 12 r (by have:=h.2.1;omega) h.1⟩
theorem OX:∀(m:Nat)(r:bB),r.deep<m->r.wf->∃j∈r.names,j<6
 |0,_,h,_=>absurd h (anD _)|m+1,.kp k,_,hw=>⟨k,amo.mpr rfl,hw⟩
 |m+1,.ch k [],_,hw=>by
  have c:1<=k:=hw.1;have d:k<=0:=hw.2.1;omega
 |m+1,.ch k (p::ps),h,hw=>by
  simp only[bB.deep]at h;have dl:=qd (ps:=p::ps) (n:=bB.mm (p::ps)+1) (by omega) p amu;obtain⟨j,a,b⟩:=OX m p (by omega) (vc.mp hw.2.2.2 p amu);exact⟨j,amF.mpr (.inl a),b⟩
def L4(r:bB):cf (enc r)=.v (enc r):=by cases r<;>rfl
def My(b:Good a)(c:Good k):h8 (jE a k) where
 ex:=⟨_,λm=>a.fills (dG m),λm=>k.fills (dG m),abW b c,(by
   have:=aod (λj=>(a.names++k.names).contains j) (amJ 6);rw[anz]at this;exact this),(λj d=>am5.mp (anB.mp d).1),(by
   obtain⟨j,d,e⟩:=OX 12 a (by have:=b.2.1;omega) b.1;intro z;have:=apl.mp z j (am5.mpr e);exact this (by simpa using aoo d)),enc a,enc k,rfl,L4 a,L4 k,
   (λm=>yY m 12 a (by have:=b.2.1;omega) b.1),λm=>yY m 12 k (by have:=c.2.1;omega) c.1⟩
 no:=by
  have ga:=y6 12 a (by have:=b.2.1;omega) 63 (by have:=b.2.1;omega);have nI:=y6 12 k (by have:=c.2.1;omega) 63 (by have:=c.2.1;omega);unfold jE;rw[nD (x:=.v (.t [enc a,enc k])) (y:=.v (.str "over")) (lI.mpr (by simp only[am3];exact⟨ga,nI,λ_ h=>nomatch h⟩)) (by decide +kernel)];rfl
 ok:=ph (L3 b) (L3 c)
def nd:dO->Prop
 |.put a n=>eT "name" (.str (bI a))/\eT "number" (.int n)|.add a n=>eT "name" (.str (bI a))/\eT "number" (.int n)|.swap a o n=>eT "name" (.str (bI a))/\eT "number" (.int o)/\eT "number" (.int n)|.take g=>eT "fence" (.int g)|.renew g=>eT "fence" (.int g)|.free g=>eT "fence" (.int g)|.sure g a n=>eT "fence" (.int g)/\eT "name" (.str (bI a))/\eT "number" (.int n)|.move h=>eT "hall" h|.fin=>True
def Z4{d:dO}(h:nd d):nY [d.D]=pure (.v (.ay true)):=by
 cases d with
 |put a n=>exact oH (s:=["name","number"]) (by kernel_rfl) rfl (by decide) (by simpa[nd]using h)| add a n=>exact oH (s:=["name","number"]) (by kernel_rfl) rfl (by decide) (by simpa[nd]using h)| swap a o n=>exact oH (s:=["name","number","number"]) (by kernel_rfl) rfl (by decide) (by simpa[nd]using h)| take g=>exact oH (s:=["fence"]) (by kernel_rfl) rfl (by decide) (by simpa[nd]using h)| renew g=>exact oH (s:=["fence"]) (by kernel_rfl) rfl (by decide) (by simpa[nd]using h)| free g=>exact oH (s:=["fence"]) (by kernel_rfl) rfl (by decide) (by simpa[nd]using h)| sure g a n=>exact oH (s:=["fence","name","number"]) (by kernel_rfl) rfl (by decide) (by simpa[nd]using h)| move z=>exact oH (s:=["hall"]) (by kernel_rfl) rfl (by decide) (by simpa[nd]using h)| fin=>exact oH (s:=[]) (by kernel_rfl) rfl (by decide) (by simp)
def k6(s n:Nat):List Nat:=(amJ n).map λk=>(s+k) % 6
def pn(s n:Nat):List D:=(k6 s n).map a6
def n9(q s n:Nat):bB:=.ch q ((k6 s n).map .kp)
theorem JV(p:Nat->Bool):∀a:List Nat,bB.cnt p (a.map .kp)=(a.filter p).length
 |[]=>rfl|k::a=>by
  show(if p k then 1 else 0)+bB.cnt p (a.map .kp)=_;rw[JV p a,aoM];cases p k<;>simp<;>omega
theorem OY:∀a:List Nat,bB.fz (a.map .kp)=a
 |[]=>rfl| k::a=>by show[k]++bB.fz (a.map .kp)=_;rw[OY a];rfl
theorem LO:∀a:List Nat,bB.mm (a.map .kp)=0
 |[]=>rfl| k::a=>by show max 0 (bB.mm (a.map .kp))=0;rw[LO a];rfl
def AS{q s n:Nat}(b:1<=q)(d:q<=n)(e:n<=6):Good (n9 q s n):=by
 have hl:((k6 s n).map bB.kp).length=n:=by simp[k6]
 refine⟨⟨b,by omega,by omega,vc.mpr λr a=>?_⟩,?_,?_⟩
 .obtain⟨k,c,rfl⟩:=amG.mp a
  obtain⟨j,_,rfl⟩:=amG.mp c;exact Nat.mod_lt _ (by decide)
 .show bB.mm _+1<=4;rw[LO];omega
 .show(bB.fz _).length<=12
  rw[OY];simp[k6];omega
def Q6(q s n:Nat):enc (n9 q s n)=.t [.int (q:Nat),.t (pn s n)]:=by
 unfold n9 pn;rw[ry,an3];rfl
theorem Mf(p:Nat->Bool):∀a:List Nat,(a.filter p).length+(a.filter λk=>!p k).length=a.length
 |[]=>rfl|k::a=>by
  have:=Mf p a;rw[aoM,aoM,amL];cases p k<;>simp<;>omega
def ahC(p:Nat->Bool)(q s n:Nat):(n9 q s n).fills p=decide (q<=((k6 s n).filter p).length):=by
 show decide (q<=bB.cnt p _)=_;rw[JV]
def W2{q r s n:Nat}(h:1<=q)(i:q<=n)(l:1<=r)(p:r<=n)(c:n<=6)(t:n<q+r):(least (n9 q s n)).find? (kI (n9 r s n))=none:=by
 have d:(k6 s n).length=n:=by simp[k6]
 cases C:(least (n9 q s n)).find? (kI (n9 r s n))with
 |none=>rfl|some m=>
  have f:=aov C;obtain⟨a,mf,_⟩:=Oo _ (AS h i c).1 (anC C);obtain⟨o,kC⟩:=aql.mp f;obtain⟨b,of,_⟩:=Oo _ (AS l p c).1 (anC kC);have g:=aov kC;rw[ahC,decide_eq_true_eq]at mf of;have sp:=Mf (dG m) (k6 s n);have le:((k6 s n).filter (dG o)).length<=((k6 s n).filter λk=>!dG m k).length:=by
   rw[<-apP,<-apP];refine List.countP_mono_left λk _ j=>?_
   cases e:dG m k with
   |false=>rfl|true=>exact(((SJ a b).mp g) k e j).elim
  omega
structure BE(a k:bB):Prop where
 ga:Good a
 nI:Good k
 is:qB [jE a k]=pure (.v (.ay true))
def xt(b:Good a)(c:Good k)(h:(least a).find? (kI k)=none):BE a k:=⟨b,c,W0 b c h⟩
def QA(n d:Int)(m:Nat)(hd:pT n d):gP gb (ak oMod (ak eh (ak e3 (J 1) (bb (.int d))) (J 0)) (aH 6)) [.e,.v (.int n)] (fM 0 m)=pure (pn (n / d % 6).toNat m):=by
 rw[Qy];have e:pn (n / d % 6).toNat m=(amJ m).map λk=>a6 (((n / d % 6).toNat+k) % 6):=by
  unfold pn k6;rw[an3];rfl
 rw[e];refine rq a6 (λk=>a6 (((n / d % 6).toNat+k) % 6)) (amJ m) λk _=>?_
 have:(n / d+(k:Nat)) % 6=(((((n / d % 6).toNat+k) % 6:Nat)):Int):=by
  omega
 rw[hA,hA];simp[this,hd]
def alR(s m:Nat):(pn s m).length=m:=by simp[pn,k6]
def abf(c:Int):∃a k,E4 [.int c]=pure (.v (jE a k))/\BE a k:=by
 obtain⟨m,n,u,g⟩:∃m:Nat,1+c % 4+c / 4 % 2*(c / 8 % 3)=(m:Nat)/\1<=m/\m<=6:=by
  have d:c / 4 % 2=0\/c / 4 % 2=1:=by omega
  rcases d with d|d<;>rw[d]
  .exact⟨(1+c % 4).toNat,by omega,by omega,by omega⟩
  .exact⟨(1+c % 4+c / 8 % 3).toNat,by omega,by omega,by omega⟩
 have mp:(0:Int)<(m:Int):=by omega
 obtain⟨q,eq,bE,bZ⟩:∃q:Nat,1+c / 144 % (m:Int)=(q:Nat)/\1<=q/\q<=m:=⟨(1+c / 144 % (m:Int)).toNat,by have:=mod_lt (a:=c / 144) mp;omega⟩;have h:(0:Int)<(q:Int):=by omega
 obtain⟨r,p,j,i,o⟩:∃r:Nat,(m:Int)+1-(q:Int)+c / 864 % (q:Int)=(r:Nat)/\1<=r/\r<=m/\m<q+r:=⟨((m:Int)+1-(q:Int)+c / 864 % (q:Int)).toNat,by have:=mod_lt (a:=c / 864) h;omega⟩;have l:=QA c 24 m (CU (by decide) (by decide));generalize aw:(c / 24 % 6).toNat=s at l;refine⟨n9 q s m,n9 r s m,?_,xt (AS bE bZ g) (AS j i g) (W2 bE bZ j i g o)⟩;unfold jE;rw[Q6,Q6];have t:-4611686018427387904<=(m:Int)/\(m:Int)<4611686018427387904:=by omega
 have f:(fM 0 m).length<ami:=by rw[su,amS];omega
 have b:iK (c / 4 % 2) (c / 8 % 3):=Fb (by omega) (by omega);generalize pn s m=row at *;refine jA rfl (cT (U':=[.v (.int c),.v (.int m),.e,.e]) (kh ?_) (cT (kh (rl ?_ (cons_of (yL ?_ f l) rfl))) (cT (kh ?_) (kf (sE rfl (sE ?_ rfl))))))
 .rw[<-n];exact f6 rfl rfl (f6 (ab4 b) rfl rfl)
 .simp
 .simp[t]
 .rw[<-eq];exact f6 rfl rfl (f6 (uv mp) rfl rfl)
 .rw[<-p];exact f6 rfl rfl (f6 (uv h) rfl rfl)
def fK(s k:Nat):Nat:=(s+k) % 6
def uU(s:Nat):bB:=.ch 2 [.ch 2 [.kp (fK s 0),.kp (fK s 1),.kp (fK s 2)],.ch 2 [.kp (fK s 2),.kp (fK s 3),.kp (fK s 4)],.kp (fK s 0)]
def uV(s:Nat):bB:=.ch 2 [.kp (fK s 0),.kp (fK s 0),.kp (fK s 1)]
def uW(s:Nat):bB:=.ch 1 [.ch 2 [.kp (fK s 0),.kp (fK s 1)],.ch 2 [.kp (fK s 2),.kp (fK s 3)]]
def uX(s:Nat):bB:=.ch 2 [.ch 1 [.kp (fK s 0),.kp (fK s 1)],.ch 1 [.kp (fK s 2),.kp (fK s 3)]]
def aaZ(s k:Nat):fK s k<6:=Nat.mod_lt _ (by decide)
def agf(s:Nat):Good (uU s)/\Good (uV s)/\Good (uW s)/\Good (uX s):=by
 unfold uU uV uW uX Good;simp[bB.wf,bB.qT,bB.deep,bB.mm,bB.names,bB.fz,(aaZ s)]
def agg:∀s,s<6->((least (uU s)).find? (kI (uU s)))=none/\((least (uV s)).find? (kI (uV s)))=none/\((least (uW s)).find? (kI (uX s)))=none/\((least (uX s)).find? (kI (uW s)))=none:=by
 decide +kernel
def al5(s:Nat):pn s 5=[a6 (fK s 0),a6 (fK s 1),a6 (fK s 2),a6 (fK s 3),a6 (fK s 4)]:=rfl
def Ol(c:Int):∃a k,xa [.int c]=pure (.v (jE a k))/\BE a k:=by
 by_cases j:c % 5<3
 .obtain⟨a,k,e,o⟩:=abf (c / 5)
  exact⟨a,k,jA rfl (st (gx j) (kf (call_of rfl e))),o⟩
 .have u:=QA c 5 5 (CU (by decide) (by decide))
  have i:(fM 0 5).length<ami:=by rw[su,amS];omega
  have s6:(c / 5 % 6).toNat<6:=by omega
  generalize(c / 5 % 6).toNat=s at *;obtain⟨m,n,p,q⟩:=agf s;obtain⟨r,t,g,h⟩:=agg s s6;have pre:∀{d},IU [.v (.int c),.v (.l [a6 (fK s 0),a6 (fK s 1),a6 (fK s 2),a6 (fK s 3),a6 (fK s 4)]),.e,.e,.e]=pure (.cx (.v d))->xa [.int c]=pure (.v d):=λe=>jA rfl (jQ (iF j) (cT (agu (yL rfl i u) rfl) e))
  by_cases f:c % 5=4
  .by_cases b:c / 30 % 3=0
   .exact⟨uV s,uV s,pre (st (gx f) (cT rfl (cT (tQ (gx b)) rfl))),xt n n t⟩
   .exact⟨uU s,uU s,pre (st (gx f) (cT rfl (cT (qq (iF b)) rfl))),xt m m r⟩
  .by_cases b:c / 30 % 2=0
   .exact⟨uW s,uX s,pre (jQ (iF f) (cT rfl (cT rfl (st (gx b) rfl)))),xt p q g⟩
   .exact⟨uX s,uW s,pre (jQ (iF f) (cT rfl (cT rfl (jQ (iF b) rfl)))),xt q p h⟩
end ed
namespace ed
open PySem PySem.Spec aC az
@[simp] theorem alq:vQ c b U=sI c b pJ U:=rfl
theorem Rv{c:aL->M Bool}{b:aW}(I:aL->Prop)(a:aL->Nat)(f:aL->Prop)(step:∀U,I U->(c U=pure false/\f U)\/(c U=pure true/\∃U',(b U=pure (.bt U')\/b U=pure (.cF U'))/\I U'/\a U' < a U)) :
  ∀(n:Nat)(U:aL),I U->a U<n->∃U',sI c b n U=pure (.bt U')/\f U'
 |0,U,_,h=>absurd h (anD _)|n+1,U,jD,h=>by
  rcases step U jD with⟨e,d⟩|⟨e,ft,ao,C,hm⟩
  .refine⟨U,?_,d⟩
   show(c U >>= _)=_;rw[e];rfl
  .obtain⟨g,aA,d⟩:=Rv I a f step n ft C (by omega)
   refine⟨g,?_,d⟩;show(c U >>= _)=_;rw[e,pure_bind,if_pos rfl];rcases ao with ao|ao<;>rw[ao,pure_bind]<;>exact aA
def Rm(h:n<16777216):n<pJ:=by unfold pJ;omega
def σ'{α:Type}{xs:List α}{lo hi:Option Int}{v:α}(h:v∈cutD xs lo hi):v∈xs:=List.mem_of_mem_drop (List.mem_of_mem_take h)
end ed
namespace ed
open PySem PySem.Spec aC az jq gI jY
structure gJ(l:List Nat):Prop where
 p1:1<=l.length
 xv:l.length<=8
 al:l.all o2=true
def gJ.ok(h:gJ l):amz (bI l)=true:=agT.mpr λc a=>by
 have:=amX.mp h.al c a;simp[o2]at this;omega
def gJ.iv(h:gJ l):md l:=⟨h.ok,h.p1,h.xv⟩
def gJ.nb(h:gJ l):eT "name" (.str (bI l)):=afJ (acg h.p1 h.xv h.al)
def Hq{i:Int}(b:0<=i)(h:i<26):∃c,eC (.v (.str "abcdefghijklmnopqrstuvwxyz")) (.v (.int i))=pure (.v (.str (bI [c])))/\o2 c=true:=by
 obtain⟨c,e⟩:=B0 (xs:=("abcdefghijklmnopqrstuvwxyz":Str).cps.toList) b (by rw[BR];simpa using h);refine⟨c,?_,?_⟩
 .show(match d7 ("abcdefghijklmnopqrstuvwxyz":Str).cps.toList i with
   |some c=>if("abcdefghijklmnopqrstuvwxyz":Str).length<=ami then(pure (R.v (.str ⟨#[c]⟩)):M R)else bad| none=>bad)=_
  rw[e];rfl
 .have:=HB e
  rw[BR]at this;obtain⟨k,a,rfl⟩:=amG.mp this;have:=am5.mp a;simp[o2];omega
def ahT{a:List Nat}(d:a.length<=8){i:Int}(b:0<=i)(h:i<(a.length:Int)):∃c,eC (.v (.str (bI a))) (.v (.int i))=pure (.v (.str (bI [c]))):=by
 obtain⟨c,e⟩:=B0 (xs:=(bI a).cps.toList) b h;refine⟨c,?_⟩;show(match d7 (bI a).cps.toList i with
  |some c=>if(bI a).length<=ami then(pure (R.v (.str ⟨#[c]⟩)):M R)else bad| none=>bad)=_
 rw[e];dsimp only;rw[if_pos (Ge (by rw[pF];omega))];rfl
def Vl:("":Str)=bI []:=by decide +kernel
def aja:("x":Str)=bI [120]:=by decide +kernel
def abg(c:Int):∃a,E5 [.int c]=pure (.v (.str (bI a)))/\gJ a:=by
 obtain⟨z,hz,h⟩:∃z:Nat,1+c % 8=(z:Nat)/\1<=z/\z<=8:=⟨(1+c % 8).toNat,by omega,by omega,by omega⟩;obtain⟨U',e,c',a,rfl,d⟩:=Rv (b:=Of) (c:=aR (ak oLt (dm nF (a5 (J 2))) (J 1)))
  (λU=>∃(c':Int)(a:List Nat),U=[.v (.int c'),.v (.int (z:Nat)),.v (.str (bI a))]/\a.all o2=true/\a.length<=z)
  (λU=>match U[(2:Nat)]? with|some (.v (.str s))=>8-s.length|_=>0)
  (λU=>∃(c':Int)(a:List Nat),U=[.v (.int c'),.v (.int (z:Nat)),.v (.str (bI a))]/\gJ a)
  (λU ⟨c',a,g,d,hl⟩=>by
   subst g
   by_cases i:a.length<z
   .refine .inr ⟨(jx (f6 rfl (rl (wO (by omega)) rfl) rfl)).trans (gx (by omega)),?_⟩
    have f:=mod_lt (a:=c' / 8) (b:=26) (by decide);obtain⟨ch,ao,j⟩:=Hq f.1 f.2;refine⟨[.v (.int (c' / 3)),.v (.int (z:Nat)),.v (.str (bI (a++[ch])))],.inl ?_,⟨_,_,rfl,by rw[apG,d];simpa using j,by rw[amf];exact i⟩,?_⟩
    .exact cT (kh (f6 (yH (by simp;omega)) rfl (f6 ao rfl rfl))) rfl
    .show 8-(bI (a++[ch])).length<8-(bI a).length
     rw[pF,pF,amf,anl];omega
   .exact .inl ⟨(jx (f6 rfl (rl (wO (by omega)) rfl) rfl)).trans (iF (by omega)),c',a,rfl,by omega,by omega,d⟩) pJ [.v (.int c),.v (.int (z:Nat)),.v (.str (bI []))] ⟨_,_,rfl,rfl,amT _⟩ (Rm (by show 8-(bI []).length<16777216;omega))
 refine⟨a,?_,d⟩;refine jA rfl (cT (kh (by rw[<-hz];rfl)) (cT (kh (congrArg (λz=>pure (R.v (.str z))) Vl)) (cT e rfl)))
def BU{a:List Nat}(h:a.all o2=true)(lo hi:Option Int):(cutD a lo hi).all o2=true:=amX.mpr λx b=>amX.mp h x (σ' b)
def abh(c:Int):∃a b d,zY [.int c]=pure (.fr [.str (bI a),.str (bI b),.str (bI d)])/\gJ a/\gJ b/\gJ d:=by
 obtain⟨a,w,g⟩:=abg c;have xv:=g.xv;have r:(0:Int)<(a.length:Int):=by have:=g.p1;omega
 have B:a.length<=ami:=Ge (by omega);obtain⟨t,A,E⟩:∃t:Nat,c / 5 % (a.length:Int)=(t:Nat)/\t<a.length:=⟨(c / 5 % (a.length:Int)).toNat,by have:=mod_lt (a:=c / 5) r;omega⟩;obtain⟨x,ex⟩:=ahT xv (i:=(t:Int)) (by omega) (by omega);generalize q:(aqr "abcdefghijklmnopqrstuvwxyz" (bI [x])+1+c / 7 % 25) % 26=f at *;have p:0<=f/\f<26:=by subst q;exact mod_lt (by decide)
 obtain⟨o,kC,u⟩:=Hq p.1 p.2;have bh:cutD a none (some (t:Int))=a.take t:=U9 _ _ (by omega);have n:cutD a (some ((t:Int)+1)) none=a.drop (t+1):=U_ a (t+1) (by omega);have e0:cutD a none (some 7)=a.take 7:=yM a 7;have k:(a.take t).length+[o].length<=1000:=by simp;omega
 have m:(a.take t).length+[o].length+(a.drop (t+1)).length<=1000:=by simp;omega
 have y:gJ (a.take t++[o]++a.drop (t+1)):=⟨by simp;omega,by simp;omega,by
  rw[apG,apG,<-bh,<-n,BU g.al,BU g.al];simpa using u⟩
 generalize a.take t=T at *;generalize a.drop (t+1)=σ at *;have a3:∀{U:aL}{i:Nat}{lo hi:mb}{l h:Option Int},J i U=pure (.v (.str (bI a)))->lo U=pure l->hi U=pure h->tf (J i) lo hi U=pure (.v (.str (bI (cutD a l h)))):=λao aA bK=>by
  show(J _ _ >>= _)=_;rw[ao];rw[aA];rw[bK];simp[pF,B,U5]
 have pre:∀{d},gJ d->IV [.v (.int c),.v (.str "abcdefghijklmnopqrstuvwxyz"),.v (.str (bI a)),.v (.int t),.v (.str (bI [o])),.v (.str (bI (a++[120])))]=IW [.v (.int c),.v (.str "abcdefghijklmnopqrstuvwxyz"),.v (.str (bI a)),.v (.int t),.v (.str (bI [o])),.v (.str (bI d))]->
   ∃a b d,zY [.int c]=pure (.fr [.str (bI a),.str (bI b),.str (bI d)])/\gJ a/\gJ b/\gJ d:=λ{d} gC e=>by
  refine⟨a,T++[o]++σ,d,Dh rfl (cT rfl (cT (kh (call_of rfl w)) (cT (kh (f6 (uv r) rfl (rl (wO (by omega)) rfl))) ?_))),g,y,gC⟩;rw[A];refine cT (kh (f6 kC rfl ?_)) (cT (kh (f6 (yH (by simp;omega)) rfl (congrArg (λz=>pure (R.v (.str z))) aja))) (e.trans ?_))
  .rw[<-q]
   refine f6 (uv (by decide)) (f6 rfl (f6 (x:=.v (.int (aqr "abcdefghijklmnopqrstuvwxyz" (bI [x])))) rfl ?_ rfl) rfl) rfl;show(di (ak eC (J 2) (J 3)) cQ _ >>= _)=_;rw[cons_of (f6 ex rfl rfl) rfl];rfl
  .have s:=a3 (U:=[.v (.int c),.v (.str "abcdefghijklmnopqrstuvwxyz"),.v (.str (bI a)),.v (.int t),.v (.str (bI [o])),.v (.str (bI d))]) (i:=2) (lo:=iD) (hi:=iQ (J 3)) rfl rfl rfl
   have s2:=a3 (U:=[.v (.int c),.v (.str "abcdefghijklmnopqrstuvwxyz"),.v (.str (bI a)),.v (.int t),.v (.str (bI [o])),.v (.str (bI d))]) (i:=2) (lo:=iQ (ak eh (J 3) (aH 1))) (hi:=iD) rfl rfl rfl;rw[bh]at s;rw[n]at s2;exact af6 (Oz (cons_of rfl (cons_of (f6 (yH (by rw[amf];exact m)) (f6 (yH k) s rfl) s2) (cons_of rfl rfl))) rfl (am6 rfl))
 by_cases D:a.length=8
 .have j:(a.length:Int)=8:=by omega
  have s3:=a3 (U:=[.v (.int c),.v (.str "abcdefghijklmnopqrstuvwxyz"),.v (.str (bI a)),.v (.int t),.v (.str (bI [o])),.v (.str (bI (a++[120])))]) (i:=2) (lo:=iD) (hi:=iQ (aH 7)) rfl rfl rfl;rw[e0]at s3;exact pre ⟨by rw[anj];omega,by rw[anj];omega,by rw[<-e0];exact BU g.al _ _⟩ (cT ((tQ ((jx (f6 vZ (rl (wO (by omega)) rfl) rfl)).trans (gx j))).trans (kh s3)) rfl)
 .have j:¬((a.length:Int)=8):=by omega
  exact pre ⟨by simp,by simp;omega,by rw[apG,g.al];rfl⟩ (cT (qq ((jx (f6 vZ (rl (wO (by omega)) rfl) rfl)).trans (iF j))) rfl)
def sZ(W:List (List Nat))(x:Option dO):Prop:=∀y,x=some y->l8 h8 W y/\nd y
def LN(hw:gJ w)(l:w∈W)(N:List D)(d c n:Int)(i:eT "number" (.int n)) :
  ∃x,Cn [.cj N,.v (.int d),.v (.int c),.v (.str (bI w)),.v (.int n),.v (.int (d / 96 % 4)),.v (.int (d % 16))]=pure (.cx (.v (dW x)))/\sZ W x:=by
 have s:=mod_lt (a:=d / 96) (b:=4) (by decide);have j:=afH s.1 s.2;generalize d / 96 % 4=g at *;generalize d % 16=y at *;have nb:=hw.nb;have iv:=hw.iv
 by_cases p:y<5
 .exact⟨some (.add w n),st (gx p) rfl,λy e=>by cases e;exact⟨⟨iv,l⟩,nb,i⟩⟩
 refine tv (jQ (iF p) rfl) ?_
 by_cases r:y<7
 .exact⟨some (.put w n),st (gx r) rfl,λy e=>by cases e;exact⟨⟨iv,l⟩,nb,i⟩⟩
 refine tv (jQ (iF r) rfl) ?_
 by_cases u:y=7
 .exact⟨some (.swap w (d / 96 % 3) n),st (gx u) rfl,λy e=>by cases e;exact⟨⟨iv,l⟩,nb,FU (by omega) (by omega),i⟩⟩
 refine tv (jQ (iF u) rfl) ?_
 by_cases z:y=8
 .exact⟨some (.take g),st (gx z) rfl,λy e=>by cases e;exact⟨trivial,j⟩⟩
 refine tv (jQ (iF z) rfl) ?_
 by_cases A:y=9
 .obtain⟨v,B,x,ex,o⟩:=pick (λv=>∃x,v=dW x/\sZ W x) [.t [.str "renew",.int g],.t [.str "free",.int g],.t [.str "sure",.int g,.str (bI w),.int n]] (d / 400) 3 rfl (by decide) (by
   simp only[am3];exact⟨⟨some (.renew g),rfl,λy e=>by cases e;exact⟨trivial,j⟩⟩,⟨some (.free g),rfl,λy e=>by cases e;exact⟨trivial,j⟩⟩,⟨some (.sure g w n),rfl,λy e=>by cases e;exact⟨⟨iv,l⟩,j,nb,i⟩⟩,λ_ h=>nomatch h⟩)
  subst ex;exact⟨x,st (gx A) (kf (f6 (aab B) rfl rfl)),o⟩
 refine tv (jQ (iF A) rfl) ?_
 by_cases f:y=10\/y=11
 .obtain⟨a,k,e,m⟩:=Ol (d / 96)
  refine⟨some (.move (jE a k)),st ?_ (kf (sE rfl (call_of rfl e))),λy e=>by cases e;exact⟨⟨⟨_,rfl⟩,My m.ga m.nI⟩,afI m.is⟩⟩;rcases f with f|f
  .exact aeh (gx f)
  .exact(xu (iF (by omega))).trans (gx f)
 refine tv (jQ ((xu (iF λe=>f (.inl e))).trans (iF λe=>f (.inr e))) rfl) ?_
 by_cases q:y=12
 .by_cases bZ:d / 96 % 3=0
  .exact⟨some .fin,st ((Hu (gx q)).trans (gx bZ)) rfl,λy e=>by cases e;exact⟨trivial,trivial⟩⟩
  .exact⟨none,jQ ((Hu (gx q)).trans (iF bZ)) rfl,λy e=>by cases e⟩
 .exact⟨none,jQ (SG (iF q)) rfl,λy e=>by cases e⟩
def abe(k:gJ a)(j:gJ b)(hd:gJ d)(f c:Int):∃x,zW [.l [.str (bI a),.str (bI b),.str (bI d)],.int f,.int c]=pure (.v (dW x))/\sZ [a,b,d] x:=by
 obtain⟨v,m,w,rfl,hw,i⟩:=pick (λv=>∃w,v=.str (bI w)/\gJ w/\w∈[a,b,d]) [.str (bI a),.str (bI b),.str (bI d)] (f / 16) 3 rfl (by decide) (by simp only[am3];exact⟨⟨a,rfl,k,by simp⟩,⟨b,rfl,j,by simp⟩,⟨d,rfl,hd,by simp⟩,λ_ h=>nomatch h⟩);generalize[D.str (bI a),.str (bI b),.str (bI d)]=N at *;have pre:∀{n:Int}{x},cq (aR (ak oEq (ak oMod (ak e3 (J 1) (aH 48)) (aH 2)) (aH 1))) (b9 4 (ak oMod (ak e3 (J 1) (aH 96)) (aH 3))) b0 [.cj N,.v (.int f),.v (.int c),.v (.str (bI w)),.v (.int (c % 10000000000000000000000000000000000000000-100000000000000000000)),.e,.e]=pure (.bt [.cj N,.v (.int f),.v (.int c),.v (.str (bI w)),.v (.int n),.e,.e])->Cn [.cj N,.v (.int f),.v (.int c),.v (.str (bI w)),.v (.int n),.v (.int (f / 96 % 4)),.v (.int (f % 16))]=pure (.cx (.v (dW x)))->zW [.l N,.int f,.int c]=pure (.v (dW x)):=λao e=>
  jA rfl (cT (kh (f6 (by show(match d7 N (f / 16 % 3)with|some d=>pure (R.v d)|none=>bad)=_;rw[m]) rfl rfl)) (cT (by with_unfolding_all rfl) (cT ao (cT rfl (cT rfl e)))))
 by_cases g:f / 48 % 2=1
 .obtain⟨x,e,o⟩:=LN hw i N f c (f / 96 % 3) (FU (by omega) (by omega))
  exact⟨x,pre ((tQ (gx g)).trans rfl) e,o⟩
 .obtain⟨x,e,o⟩:=LN hw i N f c (c % 10000000000000000000000000000000000000000-100000000000000000000) (FU (by omega) (by omega))
  exact⟨x,pre (qq (iF g)) e,o⟩
section
variable{S S1 aQ:bL}{U U':aL}{i k:Nat}{p p1:gK}{h ae c:cU}{aJ:fZ}{bd m n:b7}{t:aL->M Bool}{r:R}
theorem D2{m:aW}(e:aB S (m U) (.bt U'))(q:ly S i p (bd U') aJ c):ly S i p (bJ (b' m) bd U) aJ c:=by
 obtain⟨aQ,cz,t,s⟩:=q;exact⟨aQ,cz,c7 (aB.to e) t,s⟩
theorem Nf(q:ly S i p (m U) (.bt U') ae)(r:∀S1 p1,dP S1 i p1 ae->ly S1 i p1 (bd U') aJ c):ly S i p (bJ m bd U) aJ c:=by
 obtain⟨S1,p1,d,a⟩:=q;obtain⟨aQ,cz,b,s2⟩:=r S1 p1 a.at';exact⟨aQ,cz,c7 d b,a.trans s2⟩
theorem Zv(e:aB S (t U) false)(q:ly S i p (n U) aJ c):ly S i p (fP (fY t) m n U) aJ c:=by
 obtain⟨aQ,cz,t,s⟩:=q;exact⟨aQ,cz,m5 (aB.to e) t,s⟩
def D1{m:aW}(H:dP S i p h)(e:aB S (m U) aJ):ly S i p (b' m U) aJ h:=⟨S,p,e,.refl H⟩
theorem Nd{m:Str}{ms:c3}{rs:List R}(H:dP S i p h)(g:h.Do mf (rs.map R.arg) r c)(d:J k U=pure (.v (.ref i)))(a:p.fs.lookup m=none)(b:aB S (ms U) rs)(aw:rs.all R.h5=true):ly S i p (jk (eJ "House" m mf (J k) (e5 ms)) U) (.bt U) c:=by
 obtain⟨aQ,cz,t,s⟩:=g S i p H;exact⟨aQ,cz,GL (oa H.a' (.of d) a b.to aw t),s⟩
end
theorem RN{c:aL->M Bool}{b:b7}(I:aL->bL->Prop)(d:aL->Nat)(g:aL->bL->Prop)(step:∀U S,I U S->(aB S (c U) false/\g U S)\/(aB S (c U) true/\∃U' a,bO S (b U) (.bt U') a/\I U' a/\d U' < d U)) :
  ∀(n:Nat)(U:aL)(S:bL),I U S->d U<n->∃U' a,bO S (vi (fY c) b n U) (.bt U') a/\g U' a
 |0,U,S,_,h=>absurd h (anD _)|n+1,U,S,jD,h=>by
  rcases step U S jD with⟨e,f⟩|⟨e,ft,S1,ao,C,hm⟩
  .exact⟨U,S,(aB.to e).bind rfl,f⟩
  .obtain⟨j,i,aA,f⟩:=RN I d g step n ft S1 C (by omega)
   exact⟨j,i,(aB.to e).bind (ao.bind aA),f⟩
theorem Bf{b:D->b7}(I:Nat->aL->bL->Prop):∀(ds:List D)(j:Nat)(U:aL)(S:bL),I j U S->(∀i d U S,ds[i]? = some d->I (j+i) U S->∃U' a,bO S (b d U) (.bt U') a/\I (j+i+1) U' a)->∃U' a,bO S (m4 b ds U) (.bt U') a/\I (j+ds.length) U' a
 |[],j,U,S,h,_=>⟨U,S,rfl,h⟩
 |d::ds,j,U,S,h,step=>by
  obtain⟨m,S1,n,f⟩:=step 0 d U S rfl h;obtain⟨k,c,l,g⟩:=Bf I ds (j+1) m S1 f λi e U S he hi=>by
   rw[show j+1+i=j+(i+1)by omega]at hi ⊢;exact step (i+1) e U S he hi
  exact⟨k,c,ai8 n l,by rw[amL,show j+(ds.length+1)=j+1+ds.length by omega];exact g⟩
def slt(p s:cH):Bool:=aC.lexLt [p.1,p.2] [s.1,s.2]
def xN{p s:cH}:slt p s=true↔p.1<s.1\/p.1=s.1/\p.2<s.2:=by
 show(if p.1=s.1 then(if p.2=s.2 then decide ((0:Nat)<0)else decide (p.2<s.2))else decide (p.1<s.1))=true↔_;split
 .split
  .simp;omega
  .simp;omega
 .simp;omega
def xM{a b c d:Int}:lexLe [a,b] [c,d]=true↔a<c\/a=c/\b<=d:=by
 show(if a=c then(if b=d then decide ((0:Nat)<=0)else decide (b<=d))else decide (a<=c))=true↔_;split
 .split
  .simp;omega
  .simp;omega
 .simp;omega
def dY(P:List az.D)(e:Int)(s:cH)(l:az.D):Prop:=∃(me:Int)(j:Nat),eX me e s l j∈P
inductive ng(P:List az.D):az.D->Prop
 |ask {me e:Int}{s:cH}{j:Nat}:ng P (fi me e s j)
 |tell {me e:Int}{s p:cH}{j:Nat}{x y w:az.D}(ae:slt p s=true) (ag:me=s.2) (bA:p=(0,0)\/∃l,dY P e p l) (bX:∀l,dY P e s l->l=.t [cn p,x,y,w]):ng P (eX me e s (.t [cn p,x,y,w]) j)
 |grant {k:Nat}{a e:Int}{s kp:cH}{w:az.D}(ae:fi a e s k∈P) (ag:(kp=(0,0)/\w=.aP)\/(∃x y z,dY P e kp (.t [x,y,z,w]))/\slt kp s=true):ng P (fX k a e s kp w)
 |late {k:Nat}{a e:Int}{s p:cH}(h:(fi a e s k∈P/\slt p s=false)\/(∃l,eX a e s l k∈P)/\slt s p=true):ng P (nV k a e s p)
 |kept {k:Nat}{a e:Int}{s:cH}(h:∃l,eX a e s l k∈P):ng P (ha k a e s)
inductive h6:List az.D->Prop
 |nil:h6 []
 |snoc {ls:List az.D}{L:az.D}(h:h6 ls) (f:ng ls L):h6 (ls++[L])
def h6.at{ls:List az.D}(h:h6 ls):∀(i:Nat)(L:az.D),ls[i]? = some L->ng (ls.take i) L:=by
 induction h with
 |nil=>intro i L e;cases i<;>cases e
 |@snoc ls b h f a=>
  intro i L e
  by_cases c:i<ls.length
  .rw[amA c]at e
   rw[List.take_append_of_le_length (anM c)];exact a i L e
  .rw[ams (by omega)]at e
   cases z:i-ls.length with
   |zero=>
    rw[z]at e;cases e;rw[show i=ls.length by omega,List.take_left']
    .exact f
    .rfl
   |succ n=>rw[z]at e;cases e
def AV{me d e b:Int}{s f:cH}{l c:az.D}{j a:Nat}(h:eX me e s l j=eX d b f c a):me=d/\e=b/\s=f/\l=c/\j=a:=by
 unfold eX cn a6 at h;simp only[D.t.injEq,apH,D.int.injEq,and_true,true_and]at h;exact⟨h.1,h.2.2.1,apq h.2.2.2.1.1 h.2.2.2.1.2,h.2.2.2.2,by omega⟩
def dY.mono{P Q:List az.D}{e:Int}{s:cH}{l:az.D}(h:dY P e s l)(q:∀x∈P,x∈Q):dY Q e s l:=by
 obtain⟨me,j,z⟩:=h;exact⟨me,j,q _ z⟩
def jR{w c:Str}{a b:List az.D}(n:w≠c):az.D.t (.str w::a)≠.t (.str c::b):=λz=>by
 injection z with z
 injection z with z _
 injection z with z
 exact n z
def dY.snoc{P:List az.D}{e:Int}{s:cH}{l L:az.D}(h:dY (P++[L]) e s l):dY P e s l\/∃me j,L=eX me e s l j:=by
 obtain⟨me,j,z⟩:=h;rcases amF.mp z with z|z
 .exact .inl ⟨me,j,z⟩
 .exact .inr ⟨me,j,(amo.mp z).symm⟩
def dY.old{P Y:List az.D}(a:∀y∈Y,∀me e s l j,y≠eX me e s l j){e:Int}{s:cH}{l:az.D}(h:dY (P++Y) e s l):dY P e s l:=by
 obtain⟨me,j,z⟩:=h;rcases amF.mp z with z|z
 .exact⟨me,j,z⟩
 .exact absurd rfl (a _ z me e s l j)
def h6.asks{me e:Int}{s:cH}(ms:List Nat):∀{ls:List az.D},h6 ls->h6 (ls++ms.map (fi me e s)):=by
 induction ms with
 |nil=>intro ls h;rw[List.map_nil,am8];exact h|cons m ms a=>
  intro ls h;rw[amt,List.append_cons];exact a (h.snoc .ask)
def h6.tells{me e:Int}{s p:cH}{x y w:az.D}(d:slt p s=true)(f:me=s.2)(ms:List Nat):∀{ls:List az.D},h6 ls->(p=(0,0)\/∃l,dY ls e p l)->(∀l,dY ls e s l->l=.t [cn p,x,y,w])->h6 (ls++ms.map (eX me e s (.t [cn p,x,y,w]))):=by
 induction ms with
 |nil=>intro ls h _ _;rw[List.map_nil,am8];exact h|cons m ms c=>
  intro ls h a b;rw[amt,List.append_cons];refine c (h.snoc (.tell d f a b)) (a.imp id λ⟨l,z⟩=>⟨l,z.mono λx g=>anb _ g⟩) λl z=>?_
  rcases z.snoc with z|⟨_,_,z⟩
  .exact b l z
  .exact(AV z).2.2.2.1.symm
structure oc(ls:List az.D)(a:bx)(k:Nat):Prop where
 cb:0<=a.cb
 st:a.sg≠"calm"->a.st.2=k/\1<=a.st.1/\a.st.1<=a.cb
 fO:∀e s l,dY ls e s l->s.2=k->s.1<=a.cb/\(a.sg="asking"->s.1<a.st.1)
 bR:a.sg="asking"->∀g∈a.bR,slt g.s a.st=true/\(g.s=(0,0)\/∃l,dY ls a.bj g.s l)
def SN{me e:Int}{s:cH}{ms:List Nat}:∀y∈ms.map (fi me e s),∀me e s l j,y≠eX me e s l j:=λy a me e s l j=>by
 obtain⟨_,_,rfl⟩:=amG.mp a;exact jR (by decide)
def oc.other{ls Y:List az.D}{a:bx}{k i:Nat}(h:oc ls a k)(n:i≠k)(f:∀e s l,dY (ls++Y) e s l->dY ls e s l\/s.2=i):oc (ls++Y) a k:=
 ⟨h.cb,h.st,λe s l z q=>(f e s l z).elim (λz=>h.fO e s l z q) λz=>absurd (z.symm.trans q) (by omega),λc g b=>⟨(h.bR c g b).1,(h.bR c g b).2.imp id λ⟨l,z⟩=>⟨l,z.mono λx d=>anb _ d⟩⟩⟩
def Hs{ls:List az.D}{a b:bx}{k:Nat}{ms:List Nat}(cl:h6 ls)(H:oc ls a k)(me:a.me=k)(aA:b.st=(a.cb+1,a.me))(cR:b.bR=[])(da:b.cb=a.cb+1) :
  h6 (ls++ms.map (fi a.me b.bj b.st))/\oc (ls++ms.map (fi a.me b.bj b.st)) b k/\∀e s l,dY (ls++ms.map (fi a.me b.bj b.st)) e s l->dY ls e s l\/s.2=k:=by
 have d:=H.cb;have old:∀e s l,dY (ls++ms.map (fi a.me b.bj b.st)) e s l->dY ls e s l:=λe s l z=>z.old SN
 refine⟨cl.asks ms,⟨by omega,λ_=>?_,λe s l z q=>?_,λ_ g c=>?_⟩,λe s l z=>.inl (old e s l z)⟩
 .rw[aA,da]
  exact⟨me,show 1<=a.cb+1 by omega,anR _⟩
 .have:=(H.fO e s l (old e s l z) q).1
  rw[aA];exact⟨by omega,λ_=>show s.1<a.cb+1 by omega⟩
 .rw[cR]at c
  cases c
def Sz{ls Y:List az.D}{a b:bx}{k:Nat}{Γ:d4}{G:ec->Prop}(cl:h6 ls)(H:oc ls a k)(me:a.me=k)(st:hj Γ a G Y b)(r:∀g,a.sg="asking"->G g->slt g.s a.st=true/\(g.s=(0,0)\/∃l,dY ls a.bj g.s l)) :
  h6 (ls++Y)/\oc (ls++Y) b k/\∀e s l,dY (ls++Y) e s l->dY ls e s l\/s.2=k:=by
 have y:=H.cb
 cases st with
 |i7 ao aA bK cR da _ _ f=>
  subst f;rw[am8];refine⟨cl,⟨by omega,λc=>?_,λe s l z q=>?_,λc=>?_⟩,λe s l z=>.inl z⟩
  .rw[bK]at c
   rw[aA];have:=H.st c;exact⟨this.1,this.2.1,by omega⟩
  .have:=H.fO e s l z q
   rw[aA,bK];exact⟨by omega,this.2⟩
  .rw[ao,aA,cR]
   rw[bK]at c;exact H.bR c
 |calm bK da _ _ f=>
  subst f;rw[am8];exact⟨cl,⟨by omega,λc=>absurd bK c,λe s l z q=>⟨by have:=(H.fO e s l z q).1;omega,λc=>by rw[bK]at c;exact absurd c nB⟩,λc=>by rw[bK]at c;exact absurd c nB⟩,λe s l z=>.inl z⟩
 |ask _ _ _ aA bK cR da f=>subst f;exact Hs cl H me aA cR da|jd _ aA bK cR da f=>subst f;exact Hs cl H me aA cR da|@got g c o ao aA bK cR da _ f=>
  subst f;rw[am8];refine⟨cl,⟨by omega,λ_=>?_,λe s l z q=>?_,λ_ x i=>?_⟩,λe s l z=>.inl z⟩
  .rw[aA,da]
   exact H.st (by rw[c];decide)
  .rw[aA,da]
   exact⟨(H.fO e s l z q).1,λ_=>(H.fO e s l z q).2 c⟩
  .rw[ao,aA]
   rw[cR]at i;rcases amF.mp i with i|i
   .exact H.bR c x i
   .rw[amo.mp i]
    exact r g c o
 |@tell g ms p n d w c o ao A aA bK da u f=>
  subst f;obtain⟨q,h,rfl⟩:=u;have m:=H.st (by rw[c];decide);have h:slt q.s a.st=true/\(q.s=(0,0)\/∃l,dY ls a.bj q.s l):=by
   rcases amF.mp h with h|h
   .exact H.bR c q h
   .rw[amo.mp h]
    exact r g c o
  have new:∀e s l,dY (ls++ms.map (eX a.me a.bj a.st (.t [cn q.s,.int n,dW d,w]))) e s l->dY ls e s l\/s=a.st:=λe s l ⟨me,j,z⟩=>by
   rcases amF.mp z with z|z
   .exact .inl ⟨me,j,z⟩
   .obtain⟨_,_,z⟩:=amG.mp z
    exact .inr (AV z).2.2.1.symm
  refine⟨cl.tells h.1 (by rw[me,m.1]) ms h.2 λl z=>?_,⟨by omega,λ_=>?_,λe s l z q=>⟨?_,λz=>?_⟩,λz=>?_⟩,λe s l z=>(new e s l z).imp id λz=>by rw[z];exact m.1⟩
  .have:=(H.fO _ _ l z m.1).2 c
   omega
  .rw[aA,da];exact m
  .rcases new e s l z with z|z
   .rw[da];exact(H.fO e s l z q).1
   .rw[da,z];exact m.2.2
  .rw[bK]at z;exact absurd z Gu
  .rw[bK]at z;exact absurd z Gu
def Av{a b:az.D}(h:(pure (R.v a):M R)=pure (.v b)):a=b:=by
 have z:(pure (R.v a):M R).run []=(pure (R.v b):M R).run []:=by rw[h]
 injection z with z
 injection z
def pZ(ls:List az.D)(g:c9):Prop:=lexLe [g.k1,g.k2] [g.p1,g.cz]=true/\(((g.k1,g.k2)=((0,0):cH)/\g.a3=.aP)\/∃x y z,dY ls g.e (g.k1,g.k2) (.t [x,y,z,g.a3]))
def q0(ls:List az.D)(b:az.D):Prop:=∃bk:List c9,b=.t (bk.map dx)/\∀g∈bk,pZ ls g
def afl{g g':c9}(h:dx g=dx g'):g=g':=by
 cases g;obtain⟨rfl,⟨rfl,rfl⟩,⟨rfl,rfl⟩,rfl⟩:=h;rfl
theorem PN:∀{x y:List c9},x.map dx=y.map dx->x=y
 |[],[],_=>rfl| [],_::_,h=>by cases h
 |_::_,[],h=>by cases h
 |a::x,b::y,h=>by
  injection h with C I
  rw[afl C,PN I]
def pZ.mono{ls a:List az.D}{g:c9}(q:∀x∈ls,x∈a)(h:pZ ls g):pZ a g:=⟨h.1,h.2.imp id λ⟨x,y,z,t⟩=>⟨x,y,z,t.mono q⟩⟩
def q0.mono{ls a:List az.D}{b:az.D}(q:∀x∈ls,x∈a)(h:q0 ls b):q0 a b:=by
 obtain⟨bk,e,p⟩:=h;exact⟨bk,e,λg c=>(p g c).mono q⟩
def aeN{ls:List az.D}{bk:List c9}(h:∀g∈bk,pZ ls g)(e:Int):pZ ls (eV bk e):=by
 unfold eV
 cases q:bk.find? (λx=>x.e==e)with
 |none=>exact⟨rfl,.inl ⟨rfl,rfl⟩⟩|some g=>exact h g (find_eq q).2
def PZ{ls:List az.D}{bk:List c9}(a:lu bk)(h:∀g∈bk,pZ ls g){g:c9}(b:pZ ls g):q0 ls (.t (n6 (putL bk g))):=by
 obtain⟨f,i,d,e,_⟩:=P6 a g;refine⟨f,by rw[d],λx c=>?_⟩;rcases P2 ((e x).mp c)with z|rfl
 .exact h x z
 .exact b
def rf:az.D->Bool
 |.t (.str w::_)=>!(w == "ask" || w == "tell")|_=>false
def aaX{Γ:d4}{ls:List az.D}(cl:h6 ls){b L F y:az.D}(H:oe Γ b)(h:q0 ls b)(O:iz Γ L)(o:L∈ls){me j:Nat}{e:Int}{s:cH}(u:L=fi me e s j\/∃l,L=eX me e s l j)(g:lO [b,L]=pure (.v (.t [F,y]))) :
  h6 (ls++[y])/\q0 (ls++[y]) F/\rf y=true/\rf L=false/\∀e s l,dY (ls++[y]) e s l->dY ls e s l:=by
 obtain⟨bk,rfl,m,B⟩:=H;obtain⟨R,dZ,h⟩:=h;have:=PN (by injection dZ);subst this;have hl:=JA m B;have inl:∀x∈ls,x∈ls++[y]:=λx f=>anb _ f
 have r:∀{w:Str}{ds:List az.D},y=.t (.str w::ds)->w≠"tell"->∀e s l,dY (ls++[y]) e s l->dY ls e s l:=λ{w ds} N n e s l z=>z.old λx f me e s l j=>by
  rw[amo.mp f,N];exact jR n
 cases O with
 |@ask k i c a J K E=>
  have A:=aeN h c;have P:=PD bk c;have eq:=MX m hl (λg G=>(B g G).a3) c a.1 a.2 (.int k) (a6 i) (.t []);have eq:lO [.t (bk.map dx),fi k c a i]=_:=eq;rw[g]at eq;generalize eV bk c=e4 at *
  cases q:lexLe [a.1,a.2] [e4.p1,e4.cz]with
  |true=>
   rw[if_pos q]at eq;cases Av eq;have q:=xM.mp q;refine⟨cl.snoc (.late (p:=(e4.p1,e4.cz)) (.inl ⟨o,aqa.mpr λz=>?_⟩)),⟨bk,rfl,λx f=>(h x f).mono inl⟩,rfl,rfl,r rfl (by decide)⟩;have z:=xN.mp z;omega
  |false=>
   rw[if_neg (by rw[q];decide)]at eq;cases Av eq;have q:=(not_congr xM).mp (aqa.mp q);have M:=xM.mp A.1;subst P;refine⟨cl.snoc (.grant o (A.2.imp id λz=>⟨z,xN.mpr ?_⟩)),(PZ m h (g:=⟨e4.e,a.1,a.2,e4.k1,e4.k2,e4.a3⟩) ⟨xM.mpr ?_,A.2⟩).mono inl,rfl,rfl,r rfl (by decide)⟩
   .show e4.k1<a.1\/e4.k1=a.1/\e4.k2<a.2
    omega
   .show e4.k1<a.1\/e4.k1=a.1/\e4.k2<=a.2
    omega
 |@tell k i c a p n d w J K E Q=>
  obtain⟨a3,T,S,rfl⟩:=E;have eq:=MY m hl c a.1 a.2 (.int k) (a6 i) (cn p) (.int n) (dW d) a3.D rfl;have eq:lO [.t (bk.map dx),eX k c a (.t [cn p,.int n,dW d,a3.D]) i]=_:=eq;rw[g]at eq;generalize eV bk c=e4 at *
  cases q:aC.lexLt [a.1,a.2] [e4.p1,e4.cz]with
  |true=>
   rw[if_pos q]at eq;cases Av eq;exact⟨cl.snoc (.late (p:=(e4.p1,e4.cz)) (.inr ⟨⟨_,o⟩,q⟩)),⟨bk,rfl,λx f=>(h x f).mono inl⟩,rfl,rfl,r rfl (by decide)⟩
  |false=>
   rw[if_neg (by rw[q];decide)]at eq;cases Av eq;exact⟨cl.snoc (.kept ⟨_,o⟩),(PZ m h ⟨xM.mpr (.inr ⟨rfl,anR _⟩),.inr ⟨cn p,.int n,dW d,k,i,o⟩⟩).mono inl,rfl,rfl,r rfl (by decide)⟩
 |grant _ _ _ _ _=>rcases u with z|⟨l,z⟩<;>exact absurd z (jR (by decide))
 |kept _ _=>rcases u with z|⟨l,z⟩<;>exact absurd z (jR (by decide))
 |late _ _=>rcases u with z|⟨l,z⟩<;>exact absurd z (jR (by decide))
structure ll(h:cU):Prop where
 cl:h6 h.ls
 as:∀(k:Nat)(a:bx),h.as[k]? = some a->oc h.ls a k
 bs:∀b∈h.bs,q0 h.ls b
def cnt(ls:List az.D):Nat:=(ls.filter rf).length
def vT(x y:List az.D):cnt (x++y)=cnt x+cnt y:=by unfold cnt;rw[List.filter_append,amf]
def V8{k:Nat}{Y:List az.D}(h:∀y∈Y,Bu k y):cnt Y=0:=by
 unfold cnt;rw[anJ,apl];intro y a;rcases h y a with⟨e,s,j,rfl⟩|⟨e,s,l,j,rfl⟩<;>exact amm
def ll.step{Γ:d4}{h h':cU}(C:ll h){k:Nat}{A b:bx}{Y:List az.D}{G:ec->Prop}(me:A.me=k)(f:k<h.as.length)(n:oc h.ls A k)(j:h'.as=h.as.set k b)(el:h'.ls=h.ls++Y)(m:h'.bs=h.bs)(st:hj Γ A G Y b)(o:∀g,A.sg="asking"->G g->slt g.s A.st=true/\(g.s=(0,0)\/∃l,dY h.ls A.bj g.s l)):ll h':=by
 obtain⟨bh,ak,e0⟩:=Sz C.cl n me st o;refine⟨by rw[el];exact bh,λi a e=>?_,λx d=>by rw[m]at d;rw[el];exact(C.bs x d).mono λx d=>anb _ d⟩;rw[j]at e;rw[el]
 by_cases c:k=i
 .subst c
  rw[amx f]at e;cases e;exact ak
 .rw[amk c]at e
  exact(C.as i a e).other c e0
def ng.WD{P:List az.D}{k:Nat}{a e:Int}{s kp:cH}{w:az.D}(h:ng P (fX k a e s kp w)):(kp=(0,0)/\w=.aP)\/(∃x y z,dY P e kp (.t [x,y,z,w]))/\slt kp s=true:=by
 generalize b:fX k a e s kp w=L at h;refine a4 λc=>?_
 cases h with
 |@grant m n j g d l i f=>
  unfold fX cn a6 at b;simp only[D.t.injEq,apH,D.int.injEq,and_true,true_and]at b;obtain⟨_,_,rfl,⟨ao,aA⟩,⟨bK,cR⟩,rfl⟩:=b;refine c ?_;rw[show s=g from apq ao aA,show kp=d from apq bK cR];exact f
 |ask=>exact c (absurd b (jR (by decide)))| tell _ _ _ _=>exact c (absurd b (jR (by decide)))| late _=>exact c (absurd b (jR (by decide)))| kept _=>exact c (absurd b (jR (by decide)))
def Ui{Γ:d4}{h h':cU}(H:fR Γ h)(C:ll h){k:Nat}(F:k<h.ls.length){Y:List az.D}(el:h'.ls=h.ls++Y)(B:vo Γ h h.ls[k] Y h'):ll h'/\cnt h'.ls=cnt h.ls+if rf h.ls[k]=true then 0 else 1:=by
 have J:=anT F;have e:=amB F;generalize h.ls[k]=L at *
 cases B with
 |@keeper me j G s b P y r O n g M G o=>
  subst M;obtain⟨bh,ak,e0,N,K⟩:=aaX C.cl (H.bs b (amD n)) (C.bs b (amD n)) (H.ls L J) J r g;refine⟨⟨by rw[el];exact bh,λi a z=>?_,λx d=>?_⟩,?_⟩
  .rw[o]at z
   have q:=C.as i a z;rw[el];exact⟨q.cb,q.st,λe s l z=>q.fO e s l (K e s l z),λc g m=>⟨(q.bR c g m).1,(q.bR c g m).2.imp id λ⟨l,z⟩=>⟨l,z.mono λx d=>anb _ d⟩⟩⟩
  .rw[G]at d
   rw[el];rcases aoi d with z|rfl
   .exact(C.bs x z).mono λx d=>anb _ d
   .exact ak
  .rw[el,vT,if_neg (by rw[N];decide)]
   unfold cnt;rw[aqz e0];rfl
 |@asker a j Q s A b r fr n E o st _=>
  have q:=C.as a A E;refine⟨C.step (H.as a A E).me (nu.mp E).1 q o el n st λg c m=>?_,?_⟩
  .have f:=C.cl.at k L e
   rw[m]at f;rcases f.WD with⟨z,_⟩|⟨⟨x,y,z,t⟩,u⟩
   .have:=q.st (by rw[c];decide)
    refine⟨?_,.inl z⟩;rw[z];exact xN.mpr (.inl (show 0<A.st.1 by omega))
   .exact⟨u,.inr ⟨_,t.mono λx d=>List.mem_of_mem_take d⟩⟩
  .have:rf L=true:=by
    rcases r with⟨kp,w,rfl⟩|rfl|⟨p,rfl⟩<;>rfl
   rw[el,vT,V8 fr,if_pos this]
def aax{S:bL}{U:aL}{a b:bp}{x y:Bool}(h:aB S (a U) (.v (.ay x)))(c:aB S (b U) (.v (.ay y))):aB S (p7 a b U) (.v (.ay (x||y))):=h.bind (by
 cases x with
 |true=>exact .of rfl| false=>exact c)
def tU{S:bL}{U:aL}{a b:bp}{x y:Bool}(h:aB S (a U) (.v (.ay x)))(c:x=true->aB S (b U) (.v (.ay y))):aB S (jw a b U) (.v (.ay (x&&y))):=h.bind (by
 cases x with
 |true=>exact c rfl| false=>exact .of rfl)
def GI{S S1 c:bL}{U:aL}{f:R->R->M R}{a b:eo}{x y r:R}(e:f x y=pure r)(aw:x.h5=true)(d:bO S (a U) x S1)(g:bO S1 (b U) y c):bO S (g5 f a b U) r c:=d.bind (g.bind (by
 rw[if_pos aw,e];rfl))
def agX(h:cU):h.ou h:=λ_=>rfl
def agY{h h' c:cU}(a:h.ou h')(b:h'.ou c):h.ou c:=λi=>(b i).trans (a i)
def lq(w:fU)(h:cU):Prop:=∀(k:Nat)(a:bx),h.as[k]? = some a->pX w a k
def lq.set{w:fU}{h h':cU}(M:lq w h){k:Nat}{b:bx}(f:k<h.as.length)(g:h'.as=h.as.set k b)(d:pX w b k):lq w h':=λi a e=>by
 rw[g]at e
 by_cases c:k=i
 .subst c
  rw[amx f]at e;cases e;exact d
 .rw[amk c]at e
  exact M i a e
def Uk{W:List (List Nat)}{na:Nat}{w:fU}{h h':cU}(H:fR (hT W na w) h)(M:lq w h){L:az.D}{Y:List az.D}(B:vo (hT W na w) h L Y h'):lq w h':=by
 cases B with
 |keeper l m n g o f c=>intro k a e;rw[c]at e;exact M k a e|@asker a j e s A b l fr f d c st i=>
  refine M.set (nu.mp d).1 c (OO (H.as a A d).me i st (λz=>?_) (M a A d));have:=(z ⟨0,(0,0),.aP⟩).symm.trans (z ⟨1,(0,0),.aP⟩);unfold fX a6 at this;simp at this
structure jn(W:List (List Nat))(na:Nat)(ww:fU)(h h':cU)(n v:Nat):Prop where
 ok:fR (hT W na ww) h'
 et:lq ww h'
 c:ll h'
 pre:h.ls <+: h'.ls
 len:h'.ls.length<=h.ls.length+6*n
 rs:h'.rs.length<=h.rs.length+n
 wi:h.ou h'
 cnt:cnt h'.ls=cnt h.ls+v
def OA{Γ:d4}{L:az.D}(h:iz Γ L):∃(w:Str)(e g5:Nat)(c b d:az.D),L=.t [.str w,.int e,.int g5,c,b,d]/\amz w=true:=by
 cases h with
 | @ask me k=>exact⟨"ask",me,k,_,_,_,rfl,by decide +kernel⟩| @tell me k=>exact⟨"tell",me,k,_,_,_,rfl,by decide +kernel⟩| @grant k a=>exact⟨"grant",k,a,_,_,_,rfl,by decide +kernel⟩| @kept k a=>exact⟨"kept",k,a,_,_,_,rfl,by decide +kernel⟩| @late k a=>exact⟨"late",k,a,_,_,_,rfl,by decide +kernel⟩
abbrev jS(i:Nat)(st lv m k n:Int)(s6 a:Slot):aL:=[.v (.ref i),.v (.int st),.v (.int lv),.v (.int m),.v (.int k),.v (.int n),s6,a]
section
variable{W:List (List Nat)}{na:Nat}{ww:fU}{h ae ag:cU}{n m v u:Nat}
def jn.refl(H:fR (hT W na ww) h)(M:lq ww h)(C:ll h):jn W na ww h h 0 0:=⟨H,M,C,an9 _,amj _,amj _,agX h,rfl⟩
def jn.trans(a:jn W na ww h ae n v)(b:jn W na ww ae ag m u):jn W na ww h ag (n+m) (v+u):=⟨b.ok,b.et,b.c,a.pre.trans b.pre,by have:=a.len;have:=b.len;omega,by have:=a.rs;have:=b.rs;omega,agY a.wi b.wi,by have:=a.cnt;have:=b.cnt;omega⟩
variable(O:(hT W na ww).Ok)(H:fR (hT W na ww) h)(M:lq ww h)(C:ll h){k:Nat}(av:k<h.ls.length)(hz:h.ls.length<=900000)(aE:h.rs.length<=100000)
include O H M C av hz aE
theorem Oj:∃h' v,h.Do zV [.int k] (.v (.int (v:Nat))) h'/\jn W na ww h h' 1 v:=by
 refine a4 λa=>?_
 obtain⟨Y,h',l,c,b,e,j,z,B⟩:=Ul H O av hz aE;obtain⟨r,p_⟩:=Ui H C av b B;have el:h.ls[k]? = some h.ls[k]:=amB _;obtain⟨w,q,g5,g,f,o,y,dM⟩:=OA (H.ls _ (anT av));refine a ⟨h',_,λS i p A=>?_,c,Uk H M B,r,⟨Y,b.symm⟩,by rw[b,amf];omega,j,z,p_⟩;refine a4 λa=>?_
 obtain⟨d,cz,t,s⟩:=l S i p A;have lt:=EL A el;refine a ?_;rw[y]at lt ⊢;have bE:=f' dM (show amz "ask"=true by decide +kernel);have bZ:=f' dM (show amz "tell"=true by decide +kernel);refine⟨d,cz,vh rfl (c7 (U':=[.v (.ref i),.v (.int k),.v (.t [.str w,.int q,.int g5,g,f,o])]) (aB.to (i1 (i0 A.a' (.of rfl) rfl (b2 (x:=.v (.int k)) (.of rfl) c5) lt) rfl)) (c7 (GL (oa (rs:=[.v (.int k)]) A.a' (.of rfl) rfl (aB.to (.of rfl)) rfl t)) (aB.to (g_ (tT (rs:=[.v (.ay (w == "ask" || w == "tell"))]) ?_ (b2 (aax (b_ bE (.of rfl) (.of rfl)) (b_ bZ (.of rfl) (.of rfl))) c5)))))),s⟩;show pure (R.v (.int (if(w == "ask" || w == "tell")=true then 1 else 0)))=pure (.v (.int ((if(!(w == "ask" || w == "tell"))=true then 0 else 1:Nat):Int)));cases(w == "ask" || w == "tell")<;>rfl
omit M C in
theorem aaD{S:bL}{i:Nat}{p:gK}(A:dP S i p h)(st lv m e:Int)(s6 y:Slot):∃L kp,∀{o:b7}{l:fZ}{c:cU},ly S i p (o (jS i st lv m ((k:Nat)) e (.v L) (.v (.int (kp:Nat))))) l c->
  ly S i p (bJ (b' (b9 6 (dI "House" "letter" t_ (J 0) (a5 (J 4))))) (bJ (b' (b9 7 (aI 6 1))) (bJ (b' (cq (fA (aR (ak oEq (aI 6 0) (bb (.str "ask")))) (aR (ak oEq (aI 6 0) (bb (.str "tell"))))) (b9 7 (aI 6 2)) b0)) o)) (jS i st lv m ((k:Nat)) e s6 y)) l c:=by
 have el:h.ls[k]? = some h.ls[k]:=amB _;obtain⟨w,d,g5,g,f,j,x,dM⟩:=OA (H.ls _ (anT av));have lt:=EL A el;rw[x]at lt;have bE:=f' dM (show amz "ask"=true by decide +kernel);have bZ:=f' dM (show amz "tell"=true by decide +kernel);generalize(w == "ask")=I at *;generalize(w == "tell")=cK at *;obtain⟨kp,bK⟩:∃kp:Nat,aB S (cq (fA (aR (ak oEq (aI 6 0) (bb (.str "ask")))) (aR (ak oEq (aI 6 0) (bb (.str "tell"))))) (b9 7 (aI 6 2)) b0 (jS i st lv m ((k:Nat)) e (.v (.t [.str w,.int d,.int g5,g,f,j])) (.v (.int d)))) (.bt (jS i st lv m ((k:Nat)) e (.v (.t [.str w,.int d,.int g5,g,f,j])) (.v (.int kp)))):=by
  have r:=cm (S:=S) (b_ (a:=ak eC (J 6) (aH 0)) (b:=bb (.str "ask")) (U:=(jS i st lv m ((k:Nat)) e (.v (.t [.str w,.int d,.int g5,g,f,j])) (.v (.int d)))) bE (.of rfl) (.of rfl));have s:=cm (S:=S) (b_ (a:=ak eC (J 6) (aH 0)) (b:=bb (.str "tell")) (U:=(jS i st lv m ((k:Nat)) e (.v (.t [.str w,.int d,.int g5,g,f,j])) (.v (.int d)))) bZ (.of rfl) (.of rfl))
  cases I with
  |true=>exact⟨g5,kR (wI r) (.of rfl)⟩|false=>
   cases cK with
   |true=>exact⟨g5,kR (jf r s) (.of rfl)⟩|false=>exact⟨d,hZ (jf r s) (.of rfl)⟩
 refine⟨.t [.str w,.int d,.int g5,g,f,j],kp,λ{o l c} q=>?_⟩;exact D2 (i1 (i0 A.a' (.of rfl) rfl (b2 (.of rfl) c5) lt) rfl)<|D2 (.of rfl)<|D2 bK q
theorem Ux{S:bL}{i:Nat}{p:gK}(A:dP S i p h)(st lv m:Int)(a:Nat)(s6 d:Slot) :
  ∃h' e f,∃b v:Nat,ly S i p (Od (jS i st lv m ((k:Nat)) a s6 d)) (.bt (jS i st lv ((m-(b:Nat))) (((k+1:Nat):Int)) (((a+v:Nat):Int)) e f)) h'/\b<=1/\jn W na ww h h' b v:=by
 obtain⟨L,kp,pre⟩:=aaD O H av hz aE A st lv m a s6 d;have cE:aB S (aR (ak oEq (ak uC (ak xo (J 2) (J 7)) (aH 1)) (aH 1)) (jS i st lv m ((k:Nat)) a (.v L) (.v (.int (kp:Nat))))) (decide (anH (lv / 2 ^ kp) 1=1)):=.of (by rfl)
 by_cases c:anH (lv / 2 ^ kp) 1=1
 .rw[decide_eq_true c]at cE
  obtain⟨h',v,l,g⟩:=Oj O H M C av hz aE;obtain⟨j,cz,t,s⟩:=l S i p A;refine⟨h',_,_,1,v,pre (Nf ⟨j,cz,l2 (aB.to cE) (c7 (qV (GI rfl rfl (aB.to (.of rfl)) (x_call (.of rfl) rfl t)) rfl) (aB.to (.of rfl))),s⟩ λS p A=>D1 A (.of rfl)),amj _,g⟩
 .rw[decide_eq_false c]at cE
  exact⟨h,_,_,0,0,by rw[show m-((0:Nat):Int)=m by omega];exact pre (Nf (Zv cE (D1 A (.of rfl))) λS p A=>D1 A (.of rfl)),by omega,.refl H M C⟩
end
def Uw{W:List (List Nat)}{na:Nat}{d:fU}(O:(hT W na d).Ok){h:cU}(H:fR (hT W na d) h)(M:lq d h)(C:ll h){st:Nat}(aw:st<=h.ls.length)(hz:h.ls.length<=800000)(L:h.rs.length<=90000)(lv:Int){m:Nat}(R:m<=26){S:bL}{i:Nat}{p:gK}(A:dP S i p h) :
  ∃h' l r n v,bO S (E3 [.ref i,.int st,.int lv,.int m]) (.v (.int (v:Nat))) l/\g7 S l i p r h'/\n<=26/\jn W na d h h' n v:=by
 obtain⟨U',l,e,g,r,n,v,k,x,s6,a,rfl,B,y,G⟩:=RN
  (λU T=>∃(g:cU)(q:gK)(j v k:Nat)(s6 a:Slot),U=(jS i st lv (((m:Int)-(j:Nat))) ((k:Nat)) ((v:Nat)) s6 a)/\g7 S T i p q g/\j<=m/\jn W na d h g j v)
  (λU=>match U[(4:Nat)]? with|some (.v (.int k))=>900000-k.toNat|_=>0)
  (λU T=>∃(g:cU)(q:gK)(n v:Nat)(k x:Int)(s6 a:Slot),U=(jS i st lv x k ((v:Nat)) s6 a)/\g7 S T i p q g/\n<=26/\jn W na d h g n v)
  (λU T ⟨g,q,j,v,k,s6,a,w,B,P,G⟩=>by
   subst w;have Q:=G.len;have jC:=G.rs;have f:aB T (aR (ak oLt (J 4) (dI "House" "many" mL (J 0) cQ)) (jS i st lv (((m:Int)-(j:Nat))) ((k:Nat)) ((v:Nat)) s6 a)) (decide ((k:Int)<g.ls.length)):=cm (b_ rfl (.of rfl) (rY B.at' rfl));have o:aB T (aR (ak pb (J 3) (aH 0)) (jS i st lv (((m:Int)-(j:Nat))) ((k:Nat)) ((v:Nat)) s6 a)) (decide ((m:Int)-(j:Nat) > 0)):=.of rfl
   by_cases bh:k<g.ls.length
   .rw[decide_eq_true (by omega)]at f
    by_cases K:j<m
    .rw[decide_eq_true (by omega)]at o
     obtain⟨g',s,t,b,z,⟨F,D,e,u⟩,N,E⟩:=Ux O G.ok G.et G.c bh (by omega) (by omega) B.at' st lv ((m:Int)-(j:Nat)) v s6 a;refine .inr ⟨hY f o,_,F,e,⟨g',D,j+b,v+z,k+1,s,t,?_,B.trans u,by omega,G.trans E⟩,?_⟩
     .rw[show(m:Int)-(j:Nat)-(b:Nat)=(m:Int)-((j+b:Nat):Int)by omega]
     .show 900000-((k+1:Nat):Int).toNat<900000-((k:Nat):Int).toNat
      omega
    .rw[decide_eq_false (by omega)]at o
     exact .inl ⟨hY f o,g,q,j,v,_,_,_,_,rfl,B,by omega,G⟩
   .rw[decide_eq_false (by omega)]at f
    exact .inl ⟨kQ f,g,q,j,v,_,_,_,_,rfl,B,by omega,G⟩) pJ (jS i st lv m st 0 .e .e) S ⟨h,p,0,0,st,.e,.e,by simp,.refl A,amT _,.refl H M C⟩ (Rm (by show 900000-((st:Nat):Int).toNat<16777216;omega))
 exact⟨g,l,r,n,v,vh rfl (c7 (aB.to (.of rfl)) (c7 (aB.to (.of rfl)) (c7 e (aB.to (.of rfl))))),B,y,G⟩
abbrev Ev(i:Nat)(N:List D)(na c k a b cV st:Int)(g e d f:Slot):aL:=[.v (.ref i),.cj N,.v (.int na),.v (.int c),.v (.int k),.v (.int a),.v (.int b),.v (.int cV),.v (.int st),g,e,d,f]
def HA{Γ:d4}{a b:bx}{G:ec->Prop}{Y:List D}(st:hj Γ a G Y b):cnt Y=0:=by
 have key:∀{ms:List Nat}{f:Nat->D},(∀j,rf (f j)=false)->cnt (ms.map f)=0:=λ{ms f} h=>by
  unfold cnt;rw[anJ,apl];intro y e;obtain⟨j,_,rfl⟩:=amG.mp e;rw[h j];exact amm
 cases st with
 |i7 ao aA bK cR da fW d c=>rw[c];rfl|calm ao aA bK cR c=>rw[c];rfl|ask ao aA bK cR da fW d c=>rw[c];exact key λ_=>rfl
 |jd ao aA bK cR da c=>rw[c];exact key λ_=>rfl
 |got ao aA bK cR da fW d g c=>rw[c];rfl|tell ao aA bK cR da fW d g c=>rw[c];exact key λ_=>rfl
structure lp(W:List (List Nat))(na:Nat)(w:fU)(h:cU)(n v:Nat):Prop where
 ok:fR (hT W na w) h
 et:lq w h
 c:ll h
 px:∀(k:Nat)(A:bx),h.as[k]? = some A->A.wi=((w k).length:Nat)
 ds:∀(k:Nat)(x:dO)(b:Int),(some x,b)∈w k->l8 h8 W x
 ma:∀k,mS (w k)<=7
 ls:h.ls.length<=200*n
 rs:h.rs.length<=40*n
 p_:cnt h.ls=v
section
variable{W:List (List Nat)}{na:Nat}{w:fU}{h h':cU}{n v:Nat}
def lp.o(I:lp W na w h n v)(b:W.length<63)(a:na<=6):(hT W na w).Ok:=Mz b a (λk=>amN (I.ma k) (by decide)) I.ds
def lp.gone(I:lp W na w h n v){m u:Nat}(g:jn W na w h h' m u)(b:m<=26){a:Nat}(l:h.ls.length+6*m<=200*a)(r:h.rs.length+m<=40*a):lp W na w h' a (v+u):=
 ⟨g.ok,g.et,g.c,λk A e=>by
  have:=g.wi k;rw[e]at this
  cases q:h.as[k]? with
  |none=>rw[q]at this;cases this
  |some B=>
   rw[q]at this;injection this with this
   have:=I.px k B q;omega,I.ds,I.ma,by have:=g.len;omega,by have:=g.rs;omega,by rw[g.cnt,I.p_]⟩
def VD(O:(hT W na w).Ok)(H:fR (hT W na w) h)(M:lq w h)(C:ll h)(hz:h.ls.length<=800000)(aE:h.rs.length<=90000){S:bL}{i:Nat}{p:gK}(A:dP S i p h)(N:List D)(nn c k f l cV:Int)(I:f % 4=3) :
  ∃h' o Y n v,bO S (Co (Ev i N nn c k f l cV (h.ls.length:Nat) .e .e .e .e)) (.cx (.v (.int (v:Nat)))) o/\g7 S o i p Y h'/\n<=3/\jn W na w h h' n v:=by
 refine a4 λm=>?_
 obtain⟨n,P,kX⟩:∃n:Nat,1+f / 24 % 3=(n:Nat)/\n<=3:=⟨(1+f / 24 % 3).toNat,by have:=mod_lt (a:=f / 24) (b:=3) (by decide);omega,by have:=mod_lt (a:=f / 24) (b:=3) (by decide);omega⟩;have sr:-4611686018427387904<=(n:Int)/\(n:Int)<4611686018427387904:=by omega
 have E:(fM 0 n).length=n:=su _ _;obtain⟨U',o,e,g,q,u,v,L,rfl,B,F,G⟩:=Bf (b:=λd U=>Oe (U.set 10 (.v d)))
  (λj U T=>∃(g:cU)(q:gK)(u v:Nat)(L:Slot),U=Ev i N nn c k f l cV (h.ls.length:Nat) (.v (.int (v:Nat))) L .e .e/\g7 S T i p q g/\u<=j/\jn W na w h g u v)
  (fM 0 n) 0 (Ev i N nn c k f l cV (h.ls.length:Nat) (.v (.int ((0:Nat):Int))) .e .e .e) S ⟨h,p,0,0,_,rfl,.refl A,amj _,.refl H M C⟩ (λj d U T hd ⟨g,q,u,v,L,Q,B,F,G⟩=>by
   subst Q;obtain⟨hi,rfl⟩:=Qx hd;rw[an2]at F ⊢;have gl:=G.len;have jC:=G.rs;have V:=G.pre.length_le;have z:aB T (aR (ak pb (J 8) (aH 0)) (Ev i N nn c k f l cV (h.ls.length:Nat) (.v (.int (v:Nat))) (.v (.int (0+(j:Nat)))) .e .e)) (decide ((h.ls.length:Int) > 0)):=.of rfl;refine a4 λm=>?_
   by_cases lW:0<h.ls.length
   .rw[decide_eq_true (by omega)]at z
    obtain⟨x,jz,R⟩:∃x:Nat,(l+(0+(j:Nat))) % (h.ls.length:Int)=(x:Nat)/\x<h.ls.length:=⟨((l+(0+(j:Nat))) % (h.ls.length:Int)).toNat,by have:=mod_lt (a:=l+(0+(j:Nat))) (b:=(h.ls.length:Int)) (by omega);omega,by have:=mod_lt (a:=l+(0+(j:Nat))) (b:=(h.ls.length:Int)) (by omega);omega⟩;obtain⟨g',K,X,jV⟩:=Oj O G.ok G.et G.c (k:=x) (by omega) (by omega) (by omega);obtain⟨nq,Z,t,s⟩:=X T i q B.at';refine m ⟨_,nq,l2 (aB.to z) (qV (r:=.v (.int ((v+K:Nat):Int))) (GI (x:=.v (.int v)) (y:=.v (.int K)) rfl rfl (aB.to (.of rfl)) (x_call (rs:=[.v (.ref i),.v (.int x)]) (b2 (.of rfl) (b2 (b_ (x:=.v (.int (l+(0+(j:Nat))))) (y:=.v (.int (h.ls.length:Nat))) ((uv (by omega)).trans (by rw[jz])) (b_ rfl (.of rfl) (.of rfl)) (.of rfl)) c5)) rfl t)) rfl),g',Z,u+1,v+K,_,rfl,B.trans s,by omega,G.trans jV⟩
   .rw[decide_eq_false (by omega)]at z
    exact m ⟨_,T,m5 (aB.to z) rfl,g,q,u,v,_,rfl,B,by omega,G⟩)
 rw[an2,E]at F;exact m ⟨g,o,q,u,v,Ba (l2 (aB.to (cm (.of (by simp[I])))) (c7 (aB.to (.of rfl)) (c7 (GO (ds:=fM 0 n) (.of (by simp[P,sr])) e) (aB.to (.of rfl))))),B,by omega,G⟩
end
def VP(y:dO):∃iv:Str,eC (.v y.D) (.v (.int 0))=pure (.v (.str iv))/\amz iv=true/\(j9 (some y)=true->(iv == "move")=true):=by
 cases y<;>first|exact⟨_,rfl,by decide +kernel,λ_=>rfl⟩|exact⟨_,rfl,by decide +kernel,λz=>nomatch z⟩
def VF{h:cU}{W:List (List Nat)}{cV:Nat}{A:bx}(q:h.as[cV]? = some A){S:bL}{i:Nat}{p:gK}(B:dP S i p h)(N:List D)(na c k a b st:Int){x:Option dO}(m:sZ W x)(g d f:Slot) :
  ∃n,aB S (cq (hE (aR (ak i3 (J 11) (bb .aP))) (hE (aR (ak oEq (aI 11 0) (bb (.str "move")))) (aR (ak pb (gq (dI "House" "place" wZ (J 0) (a5 (J 7))) 0) (aH 6))))) (b9 11 (bb .aP)) b0 (Ev i N na c k a b (cV:Nat) st g d (.v (dW x)) f)) (.bt (Ev i N na c k a b (cV:Nat) st g d (.v (dW n)) f))/\sZ W n/\(j9 n=true->A.bj<=6):=by
 have nn:aB S (aR (ak i3 (J 11) (bb .aP)) (Ev i N na c k a b (cV:Nat) st g d (.v (dW x)) f)) (!fp (dW x)):=cm (b_ (Aa (dW x)) (.of rfl) (.of rfl))
 cases x with
 | none=>exact⟨none,hZ (kQ nn) (.of rfl),m,fun z=>by cases z⟩|some y=>
  obtain⟨iv,ao,dM,s⟩:=VP y;have r:(!fp (dW (some y)))=true:=by cases y<;>rfl
  rw[r]at nn;have j:aB S (aR (ak oEq (aI 11 0) (bb (.str "move"))) (Ev i N na c k a b (cV:Nat) st g d (.v (dW (some y))) f)) (iv == "move"):=cm (b_ (f' dM (show amz "move"=true by decide +kernel)) (b_ ao (.of rfl) (.of rfl)) (.of rfl));have l:aB S (aR (ak pb (gq (dI "House" "place" wZ (J 0) (a5 (J 7))) 0) (aH 6)) (Ev i N na c k a b (cV:Nat) st g d (.v (dW (some y))) f)) (decide (A.bj > 6)):=cm (b_ rfl (b_ rfl (i0 B.a' (.of rfl) rfl (b2 (.of rfl) c5) (Zt B q)) (.of rfl)) (.of rfl))
  cases C:(iv == "move")with
  |false=>rw[C]at j;exact⟨some y,hZ (hY nn (kQ j)) (.of rfl),m,λz=>by rw[s z]at C;cases C⟩|true=>
   rw[C]at j
   by_cases o:A.bj > 6
   .rw[decide_eq_true o]at l;exact⟨none,kR (hY nn (hY j l)) (.of rfl),(λy e=>by cases e),λz=>by cases z⟩
   .rw[decide_eq_false o]at l;exact⟨some y,hZ (hY nn (hY j l)) (.of rfl),m,λ_=>by omega⟩
def pX.congr{w b:fU}{a:bx}{k:Nat}(e:b k=w k)(h:pX w a k):pX b a k:=⟨by rw[e];exact h.c,by rw[e];exact h.o⟩
section
variable{W:List (List Nat)}(nM:W.length<63){na:Nat}(aF:na<=6){w:fU}{h:cU}{n v:Nat}(I:lp W na w h n v)(hz:h.ls.length<=800000)(aE:h.rs.length<=90000)
include nM aF I hz aE
theorem Z2{cV:Nat}{A:bx}(d:h.as[cV]? = some A)(aw:A.sg="calm")(p:A.b6=false){x:Option dO}(r:sZ W x)(E:j9 x=true->A.bj<=6) :
  ∃H h' R,h.Do wX [.int cV,dW x] (.fr R) h'/\h.ls <+: h'.ls/\h'.ls.length<=h.ls.length+6/\h'.rs.length<=h.rs.length+1/\∀j,h'.ls.length<=200*j->h'.rs.length<=40*j->lp W na H h' j v:=by
 have s:=I.ok.as cV A d;have L:cV<na:=s.lt;have D:cV<6:=by omega
 have hl:=(nu.mp d).1;have O:=(I.et cV A d).c aw p;have o:∀k,mS (addW w cV (x,A.bj) k)<=7:=λk=>by
  by_cases q:k=cV
  .subst q
   rw[p6,Fc];split
   .rename_i z
    have:=E z;omega
   .exact I.ma k
  .rw[tb q];exact I.ma k
 have t:∀(k:Nat)(y:dO)(b:Int),(some y,b)∈addW w cV (x,A.bj) k->l8 h8 W y:=λk y b l=>by
  by_cases q:k=cV
  .subst q
   rw[p6]at l;rcases amF.mp l with z|z
   .exact I.ds k y b z
   .have z:=amo.mp z
    injection z with z _
    exact(r y z.symm).1
  .rw[tb q]at l;exact I.ds k y b l
 have hd:x=none\/nY [dW x]=pure (.v (.ay true)):=by
  cases x with
  |none=>exact .inl rfl|some y=>exact .inr (Z4 (r y rfl).2)
 have hw:(hT W na (addW w cV (x,A.bj))).lA cV (A.wi+1) x A.bj:=by
  rw[I.px cV A d];exact Sw D x A.bj
 obtain⟨Y,h',e,G,i,N,M,m,u,st⟩:=Zp (Mz nM aF (λk=>amN (o k) (by decide)) t) (fR.mono (Wt (k:=cV) (x:=(x,A.bj))) I.ok) d aw p hd hw (by omega) (by omega);have q:=I.c.as cV A d;have K:=I.c.step (A:=A.jd (dW x)) s.me hl ⟨q.cb,q.st,q.fO,q.bR⟩ m i u st λg c _=>by
  have c:A.sg="asking":=c;rw[aw]at c;exact absurd c nB
 refine⟨addW w cV (x,A.bj),h',_,e,⟨Y,i.symm⟩,by rw[i,amf];omega,by omega,λj J F=>⟨G,?_,K,λk B f=>?_,t,o,J,F,by rw[i,vT,HA st];exact I.p_⟩⟩
 .intro k a e
  rw[m]at e
  by_cases q:k=cV
  .subst q
   rw[amx hl]at e;cases e;refine⟨λz=>absurd z (by show ¬("asking":Str)="calm";decide),λ_=>⟨(w k).length,x,A.bj,?_,rfl,by rw[p6];simp,anR _,?_⟩⟩
   .show A.wi+1=_
    rw[I.px k A d]
   .rw[p6,Fc]
    split<;>omega
  .rw[amk (λz=>q z.symm)]at e
   exact(I.et k a e).congr (tb q _)
 .rw[m]at f
  by_cases q:k=cV
  .subst q
   rw[amx hl]at f;injection f with f
   rw[p6,<-f,amf];show A.wi+1=_;rw[(I.px k A d)];rfl
  .rw[amk (λz=>q z.symm)]at f
   rw[tb q];exact I.px k B f
end
abbrev hn(a b d:List Nat):List D:=[.str (bI a),.str (bI b),.str (bI d)]
abbrev yc(i:Nat)(N:List D)(na c k:Int)(a s6 b:Slot):aL:=[.v (.ref i),.cj N,.v (.int na),.v (.int c),.v (.int k),a,s6,b,.e,.e,.e,.e,.e]
section
variable{a b d:List Nat}(au:gJ a)(aa:gJ b)(hd:gJ d){na:Nat}(aF:na<=6){w:fU}{h:cU}{n v:Nat}(I:lp [a,b,d] na w h n v)
include aF I
theorem VE(hz:h.ls.length<=800000)(z:h.rs.length<=90000){st:Nat}(aw:st<=h.ls.length){S:bL}{i:Nat}{p:gK}(B:dP S i p h)(N:List D)(nn c k f l cV:Int)(x t s H:Slot) :
  ∃h' g r m u,bO S (Cp (Ev i N nn c k f l cV (st:Nat) x t s H)) (.cx (.v (.int (u:Nat)))) g/\g7 S g i p r h'/\m<=26/\jn [a,b,d] na w h h' m u:=by
 have O:=I.o (by simp) aF;refine a4 λA=>?_
 obtain⟨m,E,j⟩:∃m:Nat,f / 3072 % 27=(m:Nat)/\m<=26:=⟨(f / 3072 % 27).toNat,by have:=mod_lt (a:=f / 3072) (b:=27) (by decide);omega,by have:=mod_lt (a:=f / 3072) (b:=27) (by decide);omega⟩;obtain⟨lv,ao⟩:∃lv:Int,aB S (cq (aR (ak oEq (ak oMod (ak e3 (J 5) (aH 24)) (aH 2)) (aH 1))) (b9 12 (ak oMod (ak e3 (J 5) (aH 48)) (aH 64))) b0 (Ev i N nn c k f l cV (st:Nat) x t s (.v (.int 63)))) (.bt (Ev i N nn c k f l cV (st:Nat) x t s (.v (.int lv)))):=by
  by_cases q:f / 24 % 2=1
  .exact⟨f / 48 % 64,.of (by simp[q])⟩
  .exact⟨63,.of (by simp[q])⟩
 obtain⟨h',g,r,F,u,e,C,y,G⟩:=Uw O I.ok I.et I.c aw hz z lv j B;refine A ⟨h',g,r,F,u,c7 (aB.to (.of rfl)) (c7 (aB.to ao) (ai9 (x_call (rs:=[.v (.ref i),.v (.int st),.v (.int lv),.v (.int m)]) ?_ rfl e))),C,y,G⟩;exact .of (by simp[E])
include au aa hd
theorem VC(hz:h.ls.length<=800000)(aE:h.rs.length<=90000){cV:Nat}(V:cV<na){S:bL}{i:Nat}{p:gK}(B:dP S i p h)(c k l f st:Int) :
  ∃K h' hD S1 p1,g7 S S1 i p p1 h'/\(∀{aJ aQ},bO S1 (Cp (Ev i (hn a b d) na c k l f (cV:Nat) st .e .e hD .e)) aJ aQ->bO S (IT (Ev i (hn a b d) na c k l f (cV:Nat) st .e .e .e .e)) aJ aQ)/\h.ls <+: h'.ls/\h'.ls.length<=h.ls.length+6/\h'.rs.length<=h.rs.length+1/\∀t,h'.ls.length<=200*t->h'.rs.length<=40*t->lp [a,b,d] na K h' t v:=by
 have O:=I.o (by simp) aF;obtain⟨A,j,M⟩:=I.ok.asker V;have y:aB S (aR (ak ea (dI "House" "stand" zR (J 0) (a5 (J 7))) (bb (.str "calm"))) (Ev i (hn a b d) na c k l f (cV:Nat) st .e .e .e .e)) (!(A.sg == "calm")):=cm (b_ (yG M.sg) (i0 B.a' (.of rfl) rfl (b2 (x:=.v (.int cV)) (.of rfl) c5) (Zu B j)) (.of rfl));have k1:aB S (eE (aR (dI "House" "knows_over" zP (J 0) (a5 (J 7)))) (Ev i (hn a b d) na c k l f (cV:Nat) st .e .e .e .e)) (!A.b6):=iG (cm (i0 B.a' (.of rfl) rfl (b2 (x:=.v (.int cV)) (.of rfl) c5) (Zs B j)))
 by_cases aw:A.sg="calm"
 .rw[aw,beq_self_eq_true]at y
  cases C:A.b6 with
  |true=>
   rw[C]at k1;exact⟨w,h,.e,S,p,.refl B,λq=>c7 (m5 (aB.to y) (m5 (aB.to k1) rfl)) q,an9 _,by omega,by omega,λt L H=>⟨I.ok,I.et,I.c,I.px,I.ds,I.ma,L,H,I.p_⟩⟩
  |false=>
   rw[C]at k1;obtain⟨x,ex,D⟩:=abe au aa hd f c;obtain⟨Q,em,E,mv⟩:=VF (W:=[a,b,d]) j B (hn a b d) na c k l f st D .e .e .e;obtain⟨K,h',R,cX,s,X,b1,cw⟩:=Z2 (by simp) aF I hz aE j aw C E mv;obtain⟨S1,p1,P,s2⟩:=Nd (k:=0) (U:=Ev i (hn a b d) na c k l f (cV:Nat) st .e .e (.v (dW Q)) .e) (ms:=di (J 7) (a5 (J 11))) (m:="begin") (rs:=[.v (.int cV),.v (dW Q)]) B cX rfl rfl (.of rfl) rfl;exact⟨K,h',.v (dW Q),S1,p1,s2,λq=>c7 (m5 (aB.to y) (l2 (aB.to k1) (c7 (U':=Ev i (hn a b d) na c k l f (cV:Nat) st .e .e (.v (dW x)) .e) (i1 (r:=.v (dW x)) (fx (rs:=[.cj (hn a b d),.v (.int f),.v (.int c)]) (.of rfl) (.of ex)) rfl).to (c7 em.to P)))) q,s,X,b1,cw⟩
 .rw[show(A.sg == "calm")=false by rw[beq_eq_false_iff_ne];exact aw]at y
  obtain⟨Y,h',e,G,s,X,bN,sw,Cw,vl,d8,T,N,F,Z⟩:=Zq O I.ok V (by omega);rw[j]at T;cases T;obtain⟨S1,p1,P,s2⟩:=Nd (k:=0) (U:=Ev i (hn a b d) na c k l f (cV:Nat) st .e .e .e .e) (ms:=di (J 7) cQ) (m:="bell") (rs:=[.v (.int cV)]) B e rfl rfl (.of rfl) rfl;have hl:=(nu.mp j).1;have iJ:ll h':=I.c.step M.me hl (I.c.as cV A j) N s Cw F λg _ z=>z.elim
  have Sl:lq w h':=I.et.set hl N (OO M.me Z F (λz=>z ⟨0,(0,0),.aP⟩) (I.et cV A j));refine⟨w,h',.e,S1,p1,s2,λq=>c7 (l2 (aB.to y) P) q,⟨Y,s.symm⟩,by rw[s,amf];omega,by rw[bN];omega,λt L H=>⟨G,Sl,iJ,λk B u=>?_,I.ds,I.ma,L,H,by rw[s,vT,HA F];exact I.p_⟩⟩;rw[N]at u
  by_cases q:cV=k
  .subst q
   rw[amx hl]at u;cases u;rw[Z];exact I.px cV A j
  .rw[amk q]at u
   exact I.px k B u
theorem VG(E:1<=na)(alU:n<=63)(c k:Int)(k0:0<=k)(alM:k<=100){S:bL}{i:Nat}{p:gK}(B:dP S i p h) :
  ∃H h' r F u,bO S (zX [.ref i,.l (hn a b d),.int na,.int c,.int k]) (.v (.int (u:Nat))) r/\g7 S r i p F h'/\h.ls <+: h'.ls/\lp [a,b,d] na H h' (n+1) (v+u):=by
 have hl:=I.ls;have aE:=I.rs;have O:=I.o (by simp) aF;have L:(0:Int)<(na:Int):=by omega
 have Q:0<na:=E;have T:na≠0:=by omega
 have zK:iK (k+1) (k+7):=Fb (by omega) (by omega);have R:iK (k+3) (k+5):=Fb (by omega) (by omega);have s:∀{x j:Int},-(2 ^ 64)<j->j<2 ^ 64->iK x j:=λE U=>.inr (.inl ⟨E,U⟩)
 have z:∀x:Int,iK x 48271:=λx=>s (by decide) (by decide)
 have A:∀x:Int,iK x 16807:=λx=>s (by decide) (by decide)
 have D:∀x:Int,iK x 69621:=λx=>s (by decide) (by decide)
 have wU:∀x:Int,iK x 40692:=λx=>s (by decide) (by decide)
 generalize W:hn a b d=N;obtain⟨f,g,cV,av,pre⟩:∃(f g:Int)(cV:Nat),cV<na/\∀{y r},bO S (Co (Ev i N na c k f g (cV:Nat) (h.ls.length:Nat) .e .e .e .e)) y r->bO S (IS (yc i N na c k .e .e .e)) y r:=by
  obtain⟨f,X⟩:∃f,(c % 10000000000000000000000000000000000000000*48271+(k+1)*(k+7)*16807) % 2147483647=f:=⟨_,rfl⟩;obtain⟨g,Y⟩:∃g,(c % 10000000000000000000000000000000000000000*69621+(k+3)*(k+5)*40692) % 2147483629=g:=⟨_,rfl⟩;refine⟨f,g,(f / 4 % (na:Int)).toNat,by have:=mod_lt (a:=f / 4) L;omega,λ{y r} t=>?_⟩;rw[Int.toNat_of_nonneg (mod_lt L).1]at t;refine c7 (U':=yc i N na c k (.v (.int f)) .e .e) (aB.to (.of (by simp[zK,z,A,X]))) ?_;refine c7 (U':=yc i N na c k (.v (.int f)) (.v (.int g)) .e) (aB.to (.of (by simp[R,D,wU,Y]))) ?_;refine c7 (U':=yc i N na c k (.v (.int f)) (.v (.int g)) (.v (.int (f / 4 % na)))) (aB.to (.of (by simp[Q,T]))) ?_;exact c7 (aB.to (i1 (rY B rfl) rfl)) t
 by_cases q:f % 4=3
 .obtain⟨h',r,F,m,u,e,C,P,G⟩:=VD O I.ok I.et I.c (by omega) (by omega) B N na c k f g (cV:Nat) q
  exact⟨w,h',r,F,u,vh rfl (pre e),C,G.pre,I.gone G (by omega) (by omega) (by omega)⟩
 .subst W
  obtain⟨H,h',hD,S1,p1,J,st,M,b4,bN,cw⟩:=VC au aa hd aF I (by omega) (by omega) av B c k f g (h.ls.length:Nat);have K:=cw (n+2) (by omega) (by omega);obtain⟨tG,Z,cz,m,u,aA,V,P,G⟩:=VE aF K (by omega) (by omega) M.length_le J.at' (hn a b d) na c k f g (cV:Nat) .e .e hD .e;exact⟨H,tG,Z,cz,u,vh rfl (pre (GR (aB.to (cm (.of (by simp[show(f % 4==3)=false by simpa using q])))) (st aA))),J.trans V,M.trans G.pre,K.gone G P (by omega) (by omega)⟩
end
abbrev jX:=List ((List Key×List Key)×D)
def sd(a:(List Key×List Key)×D)(r:jX)(q:List Key×List Key):d_ (a::r) q=if a.1=q then some a.2 else d_ r q:=by
 unfold d_;rw[aqD]
 by_cases c:a.1=q
 .rw[decide_eq_true c,if_pos c];rfl
 .rw[decide_eq_false c,if_neg c]
theorem yq(q:List Key×List Key):∀r:jX,(r.any λa=>decide (a.1=q))=(d_ r q).isSome
 |[]=>rfl|a::r=>by
  rw[sd,aoR,yq q r]
  by_cases c:a.1=q
  .rw[decide_eq_true c,if_pos c];rfl
  .rw[decide_eq_false c,if_neg c,Bool.false_or]
theorem Pc{p:List Key×List Key}{d:D}(q:List Key×List Key):∀r:jX,d_ (r.map λa=>if a.1=p then(a.1,d)else a) q=if q=p then(d_ r p).map λ_=>d else d_ r q
 |[]=>by split<;>rfl
 |a::r=>by
  rw[amt,sd,sd,sd,Pc q r]
  by_cases c:a.1=p
  .rw[if_pos c,if_pos c]
   rw[c]
   by_cases z:q=p
   .rw[if_pos z.symm,if_pos z];rfl
   .rw[if_neg (an4 z),if_neg z,if_neg z,if_neg (an4 z)]
  .rw[if_neg c,if_neg c]
   by_cases z:q=p
   .subst z;rw[if_neg c,if_pos rfl,if_pos rfl]
   .rw[if_neg z,if_neg z]
def xn(r:jX)(p q:List Key×List Key)(d:D):d_ (ik r p d) q=if q=p then some d else d_ r q:=by
 unfold ik;split
 .rename_i h
  rw[yq]at h;rw[Pc]
  by_cases z:q=p
  .rw[if_pos z,if_pos z]
   cases e:d_ r p with
   |none=>rw[e]at h;cases h
   |some x=>rfl
  .rw[if_neg z,if_neg z]
 .rename_i h
  rw[yq]at h;have h:d_ r p=none:=by cases e:d_ r p with
   |none=>rfl|some x=>rw[e]at h;exact absurd rfl h
  have key:∀r:jX,d_ (r++[(p,d)]) q=match d_ r q with|some x=>some x|none=>if p=q then some d else none:=λr=>by
   induction r with
   |nil=>exact sd ..|cons b r a=>
    rw[List.cons_append,sd,sd,a];split<;>rfl
  rw[key]
  by_cases z:q=p
  .subst z;simp[h]
  .rw[if_neg z,if_neg (an4 z)]
   cases d_ r q<;>rfl
def Fp(r:jX)(p:List Key×List Key)(d:D):(ik r p d).length<=r.length+1:=by
 unfold ik;split
 .rw[amh];omega
 .rw[amf];exact amj _
section
variable{S:bL}{U:aL}{a b:bp}{i n:Nat}{bG:jX}{kd d:D}{p:List Key×List Key}
def rX{neg:Bool}(h:S[i]? = some (.dU n bG))(g:lR kd=some p)(hl:p.1.length=n)(e:aB S (a U) (.v kd))(f:aB S (b U) (.v (.ref i))):aB S (ak (n1 neg) a b U) (.v (.ay (xor neg (d_ bG p).isSome))):=e.bind (f.bind ((lN h).bind (by
 show aB S (match lR kd with|some p=>if p.1.length=n then pure (R.v (.ay (xor neg (bG.any λc=>decide (c.1=p)))))else bad|none=>bad) _;rw[g];show aB S (if p.1.length=n then pure (R.v (.ay (xor neg (bG.any λc=>decide (c.1=p)))))else bad) _;rw[if_pos hl,yq];exact .of rfl)))
def NY(h:S[i]? = some (.dU n bG))(g:lR kd=some p)(hl:p.1.length=n)(e:d_ bG p=some d)(c:aB S (a U) (.v (.ref i)))(f:aB S (b U) (.v kd)):aB S (ak uG a b U) (.v d):=c.bind (f.bind ((lN h).bind (by
 show aB S (match lR kd with|some p=>if p.1.length=n then(match d_ bG p with|some d=>pure (R.v d)|none=>bad)else bad|none=>bad) _;rw[g];show aB S (if p.1.length=n then(match d_ bG p with|some d=>pure (R.v d)|none=>bad)else bad) _;rw[if_pos hl,e];exact .of rfl)))
def GK{mv:bp}(h:S[i]? = some (.dU n bG))(f:lR kd=some p)(hl:p.1.length=n)(hz:bG.length<ami)(g:aB S (mv U) (.v d))(c:aB S (a U) (.v (.ref i)))(e:aB S (b U) (.v kd)):bO S (ve a b (dt mv) U) (.bt U) (S.set i (.dU n (ik bG p d))):=g.to.bind (bO.bind rfl (c.to.bind (e.to.bind ((lN h).to.bind (by
 show bO S (match lR kd with|some p=>if p.1.length=n/\bG.length<ami then _ else gm|none=>gm) _ _;rw[f];show bO S (if p.1.length=n/\bG.length<ami then _ else gm) _ _;rw[if_pos ⟨hl,hz⟩];rfl)))))
def N0(h:aB S (a U) (.v (.ay true))):aB S (p7 a b U) (.v (.ay true)):=h.bind (.of rfl)
def NZ{y:Bool}(h:aB S (a U) (.v (.ay false)))(c:aB S (b U) (.v (.ay y))):aB S (p7 a b U) (.v (.ay y)):=h.bind c
end
def df(w:Str)(a k e:Int)(s:cH):List Key×List Key:=([.inr w,.inl a,.inl k,.inl e],[.inl s.1,.inl s.2])
def jJ(e:Int)(s:cH):List Key×List Key:=([.inl e],[.inl s.1,.inl s.2])
def NT{e a:Int}{s b:cH}(h:jJ e s=jJ a b):e=a/\s=b:=by
 unfold jJ at h;simp only[Prod.mk.injEq,apH,Sum.inl.injEq,and_true]at h;exact⟨h.1,apq h.2.1 h.2.2⟩
structure h7(P:List D)(kv kt:jX):Prop where
 i6:∀{a e:Int}{s:cH}{k:Nat},fi a e s k∈P->(d_ kv (df "ask" a k e s)).isSome=true
 st:∀{a e:Int}{s:cH}{l:D}{k:Nat},eX a e s l k∈P->(d_ kv (df "tell" a k e s)).isSome=true
 tt:∀{e:Int}{s:cH}{l:D},dY P e s l->d_ kt (jJ e s)=some l
 dN:∀{e:Int}{s:cH}{l:D},d_ kt (jJ e s)=some l->dY P e s l
 lv:kv.length<=P.length
 lt:kt.length<=P.length
def h7.keep{a:jX}{p q:List Key×List Key}{d:D}(h:(d_ a p).isSome=true):(d_ (ik a q d) p).isSome=true:=by
 rw[xn];split
 .rfl
 .exact h
def h7.cP{P:List D}{d kt:jX}(K:h7 P d kt){w:Str}{ds:List D}(f:w≠"ask")(c:w≠"tell"):h7 (P++[.t (.str w::ds)]) d kt:=by
 have old:∀{e:Int}{s:cH}{l:D},dY (P++[.t (.str w::ds)]) e s l->dY P e s l:=λz=>z.old λx b me e s l j=>by
  rw[amo.mp b];exact jR c
 refine⟨λ{a e s k} z=>?_,λ{a e s l k} z=>?_,λz=>K.tt (old z),λz=>(K.dN z).mono λx b=>anb _ b,by rw[amf];have:=K.lv;omega,by rw[amf];have:=K.lt;omega⟩
 .exact K.i6 ((amF.mp z).resolve_right λz=>jR f (amo.mp z).symm)
 .exact K.st ((amF.mp z).resolve_right λz=>jR c (amo.mp z).symm)
def h7.ask{P:List D}{g kt:jX}(K:h7 P g kt){a e:Int}{s:cH}{k:Nat}:h7 (P++[fi a e s k]) (ik g (df "ask" a k e s) (.ay true)) kt:=by
 have old:∀{c:Int}{b:cH}{l:D},dY (P++[fi a e s k]) c b l->dY P c b l:=λz=>z.old λx d me e s l j=>by
  rw[amo.mp d];exact jR (by decide)
 refine⟨λ{h c b f} z=>?_,λ{h c b i f} z=>?_,λz=>K.tt (old z),λz=>(K.dN z).mono λx d=>anb _ d,?_,by rw[amf];have:=K.lt;omega⟩
 .rcases amF.mp z with z|z
  .exact h7.keep (K.i6 z)
  .have z:=amo.mp z
   unfold fi cn a6 at z;simp only[D.t.injEq,apH,D.int.injEq,and_true,true_and]at z;rw[xn,if_pos]
   .rfl
   .rw[z.1,z.2.2.1,show b=s from apq z.2.2.2.1 z.2.2.2.2,show((f:Nat):Int)=k from z.2.1]
 .exact h7.keep (K.st ((amF.mp z).resolve_right λz=>jR (by decide) (amo.mp z).symm))
 .rw[amf]
  exact amN (Fp _ _ _) (aoJ K.lv)
def h7.tell{P:List D}{f kt:jX}(K:h7 P f kt){a e:Int}{s:cH}{l:D}{k:Nat}(u:∀b,dY P e s b->b=l):h7 (P++[eX a e s l k]) (ik f (df "tell" a k e s) (.ay true)) (ik kt (jJ e s) l):=by
 refine⟨λ{i c d h} z=>?_,λ{i c d b h} z=>?_,λ{c d b} z=>?_,λ{c d b} z=>?_,?_,?_⟩
 .exact h7.keep (K.i6 ((amF.mp z).resolve_right λz=>jR (by decide) (amo.mp z).symm))
 .rcases amF.mp z with z|z
  .exact h7.keep (K.st z)
  .obtain⟨rfl,rfl,rfl,_,rfl⟩:=AV (amo.mp z)
   rw[xn,if_pos rfl];rfl
 .rw[xn]
  rcases z.snoc with y|⟨_,_,y⟩
  .split
   .rename_i q
    obtain⟨rfl,rfl⟩:=NT q;rw[u b y]
   .exact K.tt y
  .obtain⟨_,rfl,rfl,rfl,_⟩:=AV y
   rw[if_pos rfl]
 .rw[xn]at z
  split at z
  .rename_i q
   obtain⟨rfl,rfl⟩:=NT q;cases z;exact⟨a,k,amZ _ amu⟩
  .exact(K.dN z).mono λx g=>anb _ g
 .rw[amf]
  exact amN (Fp _ _ _) (aoJ K.lv)
 .rw[amf]
  exact amN (Fp _ _ _) (aoJ K.lt)
def Dr{xs:List D}{x:D}(h:(D.t xs).bW 64=true)(a:x∈xs):x.bW 64=true:=y7 (by decide) (lI.mp h x a)
def yK(a b:cH):lS aC.lexLt (.v (cn a)) (.v (cn b))=pure (.v (.ay (slt a b))):=rfl
def Fq{d:D}(h:d.bW 64=true):oEq (.v d) (.v d)=pure (.v (.ay true)):=by
 rw[nD (x:=.v d) (y:=.v d) h h];show pure (R.v (.ay (eb d d)))=_;rw[As h]
abbrev BL(X:D)(a:Nat)(e:Int)(s:cH)(s3:Slot):aL:=[.v X,.v (.ref a),.v (.t [.int e,cn s]),s3]
abbrev qY(X:D)(b a:Nat)(s3:Slot):aL:=[.v X,.v (.ref b),.v (.ref a),s3]
abbrev zy(w:Str):bp:=bM (di (bb (.str w)) (di (aI 0 2) (c2 (aI 0 1) (aI 0 3) (aI 0 4))))
section
variable{S:bL}{P:List D}{kv kt:jX}(K:h7 P kv kt){eD dp:Nat}(aw:S[eD]? = some (.dU 4 kv))(bC:S[dp]? = some (.dU 1 kt))
include K bC
theorem ahB{me e:Int}{s p:cH}{x y w:D}{j:Nat}(n:(eX me e s (.t [cn p,x,y,w]) j).bW 64=true)(g:slt p s=true)(h:me=s.2)(i:p=(0,0)\/∃l,dY P e p l)(k:∀l,dY P e s l->l=.t [cn p,x,y,w]) :
  aB S (E6 [eX me e s (.t [cn p,x,y,w]) j,.ref dp]) (.v (.ay true)):=by
 have m:(D.t [cn p,x,y,w]).bW 64=true:=Dr n (by simp);refine iZ rfl (iH (.of rfl) (iH (.of rfl) (iH (hZ (jf (iG (cm (b_ ((yK p s).trans (by rw[g])) (.of rfl) (.of rfl)))) (cm (b_ (Fg.trans (by rw[decide_eq_true h];rfl)) (.of rfl) (.of rfl)))) (.of rfl)) (iH (hZ ?_ (.of rfl)) (g_ ?_)))))
 .have f:=cm (S:=S) (b_ (a:=J 3) (b:=bM (bH (aH 0) (aH 0))) (U:=BL (eX me e s (.t [cn p,x,y,w]) j) dp e s (.v (cn p))) (rx rfl rfl) (.of rfl) (.of rfl))
  rcases i with z|⟨l,z⟩
  .have:(!eb (R.v (cn p)).arg (R.v (cn (0,0))).arg)=false:=by rw[z];rfl
   rw[this]at f;exact kQ f
  .have d:=rX (U:=BL (eX me e s (.t [cn p,x,y,w]) j) dp e s (.v (cn p))) (a:=bM (bH (aI 0 3) (J 3))) (b:=J 1) (neg:=true) (p:=jJ e p) bC rfl rfl (.of rfl) (.of rfl)
   rw[K.tt z]at d
   cases c:(!eb (R.v (cn p)).arg (R.v (cn (0,0))).arg)with
   |false=>rw[c]at f;exact kQ f|true=>rw[c]at f;exact hY f (cm d)
 .have d:=rX (U:=BL (eX me e s (.t [cn p,x,y,w]) j) dp e s (.v (cn p))) (a:=J 2) (b:=J 1) (neg:=true) (p:=jJ e s) bC rfl rfl (.of rfl) (.of rfl)
  cases c:d_ kt (jJ e s)with
  |none=>rw[c]at d;exact N0 d|some l=>
   rw[c]at d;have el:=k l (K.dN c);subst el;exact NZ d (b_ (Fq m) (NY bC rfl rfl c (.of rfl) (.of rfl)) (.of rfl))
include aw
theorem WE{k:Nat}{a e:Int}{s kp:cH}{w:D}(l:(fX k a e s kp w).bW 64=true)(i:fi a e s k∈P)(j:(kp=(0,0)/\w=.aP)\/(∃x y z,dY P e kp (.t [x,y,z,w]))/\slt kp s=true) :
  aB S (uj [fX k a e s kp w,.ref eD,.ref dp]) (.v (.ay true)):=by
 have h:(D.t [cn kp,w]).bW 64=true:=Dr l (by simp);have dM:w.bW 64=true:=Dr h (by simp);have f:=rX (U:=(qY (fX k a e s kp w) eD dp .e)) (a:=zy "ask") (b:=J 1) (neg:=false) (p:=df "ask" a k e s) aw rfl rfl (.of rfl) (.of rfl);rw[K.i6 i]at f;refine iZ rfl (qs (kR (hY (wI (cm (b_ (f' mU mU) (.of rfl) (.of rfl)))) (cm f)) (iH (hZ (cm (b_ (f' mU mV) (.of rfl) (.of rfl))) (.of rfl)) ?_)));have d:=cm (S:=S) (b_ (a:=ak eC (J 0) (aH 5)) (b:=bM (bH (bM (bH (aH 0) (aH 0))) (bb .aP))) (U:=(qY (fX k a e s kp w) eD dp .e)) (nD (x:=.v (.t [cn kp,w])) h rfl) (.of rfl) (.of rfl))
 cases c:eb (R.v (.t [cn kp,w])).arg (R.v (.t [cn (0,0),.aP])).arg with
 |true=>rw[c]at d;exact qs (kR d (.of rfl))|false=>
  rw[c]at d;rcases j with⟨rfl,rfl⟩|⟨⟨x,y,z,t⟩,u⟩
  .cases c
  .have g:=rX (U:=(qY (fX k a e s kp w) eD dp (.v (.t [.int e,cn kp])))) (a:=J 3) (b:=J 2) (neg:=false) (p:=jJ e kp) bC rfl rfl (.of rfl) (.of rfl)
   rw[K.tt t]at g;exact iH (hZ d (.of rfl)) (iH (.of rfl) (g_ (tU g λ_=>tU (b_ (Fq dM) (b_ rfl (NY bC rfl rfl (K.tt t) (.of rfl) (.of rfl)) (.of rfl)) (.of rfl)) λ_=>b_ ((yK kp s).trans (by rw[u])) (.of rfl) (.of rfl))))
omit bC in
theorem aba{k:Nat}{a e:Int}{s p:cH}(h:(fi a e s k∈P/\slt p s=false)\/(∃l,eX a e s l k∈P)/\slt s p=true) :
  aB S (uj [nV k a e s p,.ref eD,.ref dp]) (.v (.ay true)):=by
 have ao:=f' mV mU;have aA:=f' mV mV;have f:=rX (U:=(qY (nV k a e s p) eD dp .e)) (a:=zy "ask") (b:=J 1) (neg:=false) (p:=df "ask" a k e s) aw rfl rfl (.of rfl) (.of rfl);have i:=jf (S:=S) (U:=(qY (nV k a e s p) eD dp .e)) (cm (b_ (a:=ak eC (J 0) (aH 0)) (b:=bb (.str "grant")) ao (.of rfl) (.of rfl))) (cm (b_ (a:=ak eC (J 0) (aH 0)) (b:=bb (.str "late")) aA (.of rfl) (.of rfl)));have j:slt p s=false:=by
  rcases h with⟨_,z⟩|⟨_,z⟩
  .exact z
  .refine aqa.mpr λy=>?_
   have z:=xN.mp z;have y:=xN.mp y;omega
 refine iZ rfl ?_
 cases c:d_ kv (df "ask" a k e s)with
 |some d=>
  rw[c]at f;exact qs (kR (hY i (cm f)) (qs (kR (cm (b_ aA (.of rfl) (.of rfl))) (g_ (aB.bind (b_ ((yK p s).trans (by rw[j])) (.of rfl) (.of rfl)) (.of rfl))))))
 |none=>
  rw[c]at f;rcases h with⟨z,_⟩|⟨⟨l,z⟩,u⟩
  .have:=K.i6 z;rw[c]at this;cases this
  .have g:=rX (U:=(qY (nV k a e s p) eD dp .e)) (a:=zy "tell") (b:=J 1) (neg:=true) (p:=df "tell" a k e s) aw rfl rfl (.of rfl) (.of rfl)
   rw[K.st z]at g;exact iH (hZ (hY i (cm f)) (.of rfl)) (iH (hZ (jf (cm (b_ ao (.of rfl) (.of rfl))) (cm g)) (.of rfl)) (g_ (NZ (tU (y:=true) (b_ (f' mV sj) (.of rfl) (.of rfl)) λz=>by cases z) (tU (b_ aA (.of rfl) (.of rfl)) λ_=>b_ ((yK s p).trans (by rw[u])) (.of rfl) (.of rfl)))))
omit bC in
theorem aaF{k:Nat}{a e:Int}{s:cH}(h:∃l,eX a e s l k∈P):aB S (uj [ha k a e s,.ref eD,.ref dp]) (.v (.ay true)):=by
 obtain⟨l,z⟩:=h;have ao:=f' sj mU;have c:=rX (U:=(qY (ha k a e s) eD dp .e)) (a:=zy "tell") (b:=J 1) (neg:=true) (p:=df "tell" a k e s) aw rfl rfl (.of rfl) (.of rfl);rw[K.st z]at c;exact iZ rfl (iH (hZ (kQ (jf (cm (b_ ao (.of rfl) (.of rfl))) (cm (b_ (f' sj mV) (.of rfl) (.of rfl))))) (.of rfl)) (iH (hZ (jf (cm (b_ ao (.of rfl) (.of rfl))) (cm c)) (.of rfl)) (g_ (N0 (tU (b_ (f' sj sj) (.of rfl) (.of rfl)) λ_=>b_ (Fq rfl) (.of rfl) (.of rfl))))))
end
def qH(n:Nat)(s:cH):az.Ok (n+1) (cn s):=ph dw dw
def ad3{Γ:d4}{d:Option dO}(h:∀x,d=some x->l8 h8 Γ.W x):az.Ok 10 (dW d):=by
 cases d with
 |none=>exact uJ|some x=>
  have b:=h x rfl
  cases x with
  |put a n=>exact pj (h3 (by decide +kernel)) (h3 b.1.1) dw| add a n=>exact pj (h3 (by decide +kernel)) (h3 b.1.1) dw| swap a o n=>exact Ak (h3 (by decide +kernel)) (h3 b.1.1) dw dw| take g=>exact ph (h3 (by decide +kernel)) dw| renew g=>exact ph (h3 (by decide +kernel)) dw| free g=>exact ph (h3 (by decide +kernel)) dw| sure g a n=>exact Ak (h3 (by decide +kernel)) dw (h3 b.1.1) dw| move z=>exact ph (h3 (by decide +kernel)) b.2.ok| fin=>exact Pg (h3 (by decide +kernel))
def OB{Γ:d4}(O:Γ.Ok){L:az.D}(h:iz Γ L):az.Ok 12 L:=by
 cases h with
 | @ask me k e s b c f=>exact xr (h3 (by decide +kernel)) dw dw dw (qH _ s) Pf|@tell me k e s p n d w b c f g=>
  obtain⟨a3,i,_,rfl⟩:=f;have os:=i.ok (by have:=O.w;omega) λz hz=>hz.ok
  exact xr (h3 (by decide +kernel)) dw dw dw (qH _ s) (Ak (qH _ p) dw (ad3 g) os)
 | @grant k a e s kp w b c f g C=>exact xr (h3 (by decide +kernel)) dw dw dw (qH _ s) (ph (qH _ kp) C)| @kept k a e s b c=>exact xr (h3 (by decide +kernel)) dw dw dw (qH _ s) Pf| @late k a e s p b c=>exact xr (h3 (by decide +kernel)) dw dw dw (qH _ s) (Pg (qH _ p))
def abz{Γ:d4}(O:Γ.Ok){ls:List az.D}(h:∀l∈ls,iz Γ l):(az.D.l ls).bW 64=true:=lI.mpr λx a=>y7 (by decide) (OB O (h x a)).1
noncomputable abbrev ks(L:List D)(na:Int)(N H:List D)(br:Int)(s6:Slot)(ls:List D)(b a:Nat)(an:Int)(c:Slot):aL:=[.cj L,.v (.int na),.v (.ref 0),.v (.l N),.v (.l H),.v (.int br),s6,.v (.l ls),.v (.ref b),.v (.ref a),.v (.int an),c]
section
variable{S:bL}{P:List D}{kv kt:jX}(K:h7 P kv kt){eD dp:Nat}(aw:S[eD]? = some (.dU 4 kv))(bC:S[dp]? = some (.dU 1 kt))(ne:eD≠dp)(hz:P.length<100000){L N H ls:List D}{na br:Int}{s6:Slot}
include K aw bC ne hz
theorem ah6{X:D}(G:X.bW 64=true)(f:ng P X):∃a g i,bO S (wM (ks L na N H br s6 ls eD dp (cnt P:Nat) (.v X))) (.bt (ks L na N H br s6 ls eD dp (cnt (P++[X]):Nat) (.v X))) a/\a[eD]? = some (.dU 4 g)/\a[dp]? = some (.dU 1 i)/\h7 (P++[X]) g i:=by
 have lv:=K.lv;have lt:=K.lt;have F:kv.length<ami:=by rw[amS];omega
 have W:kt.length<ami:=by rw[amS];omega
 have b:∀(u:Str){w:Str}{ds:List D}{T:bL}{an:Int},amz u=true->amz w=true->aB T (aR (ak oEq (aI 11 0) (bb (.str u))) (ks L na N H br s6 ls eD dp an (.v (.t (.str w::ds))))) (w==u):=λu {w ds T an} q dM=>cm (b_ (x:=.v (.str w)) (f' dM q) (b_ (x:=.v (.t (.str w::ds))) (by show(match d7 (D.str w::ds) 0 with|some d=>pure (R.v d)|none=>bad)=_;rw[show d7 (D.str w::ds) 0=some (D.str w)from mi _ _]) (.of rfl) (.of rfl)) (.of rfl))
 have B:∀{x:D}{n:Nat},(if rf x=true then 1 else 0)=n->cnt (P++[x])=cnt P+n:=λ{x n} e=>by
  rw[vT,<-e];unfold cnt;rw[aoM];split<;>rfl
 have cP:∀{w:Str}{ds:List D},amz w=true->(w == "ask")=false->(w == "tell")=false->aB S (uj [.t (.str w::ds),.ref eD,.ref dp]) (.v (.ay true))->∃a g i,bO S (wM (ks L na N H br s6 ls eD dp (cnt P:Nat) (.v (.t (.str w::ds))))) (.bt (ks L na N H br s6 ls eD dp (cnt (P++[.t (.str w::ds)]):Nat) (.v (.t (.str w::ds))))) a/\a[eD]? = some (.dU 4 g)/\a[dp]? = some (.dU 1 i)/\h7 (P++[.t (.str w::ds)]) g i:=λ{w ds} dM l m O=>by
  have c:=b "tell" (ds:=ds) (T:=S) (an:=(cnt P:Nat)) qI dM;have k:=b "ask" (ds:=ds) (T:=S) (an:=(cnt P:Nat)) uI dM;rw[m]at c;rw[l]at k;refine⟨S,kv,kt,c7 (m5 (aB.to c) rfl) (m5 (aB.to (jf k c)) (aB.to (iH (U':=ks L na N H br s6 ls eD dp (cnt (P++[.t (.str w::ds)]):Nat) (.v (.t (.str w::ds)))) (i1 (r:=.v (.int (cnt (P++[.t (.str w::ds)]):Nat))) (b_ (x:=.v (.int (cnt P:Nat))) (y:=.v (.int 1)) ?_ (.of rfl) (.of rfl)) rfl) (hZ (iG (x:=true) (cm (fx (rs:=[.v (.t (.str w::ds)),.v (.ref eD),.v (.ref dp)]) (.of rfl) O))) (.of rfl))))),aw,bC,K.cP (λz=>by rw[z]at l;revert l;decide +kernel) (λz=>by rw[z]at m;revert m;decide +kernel)⟩;rw[B (n:=1) (if_pos (by show(!(w == "ask" || w == "tell"))=true;rw[l,m];rfl))];rfl
 cases f with
 |@ask me e s j=>
  have c:=b "tell" (w:="ask") (ds:=[.int me,a6 j,.int e,cn s,.t []]) (T:=S) (an:=(cnt P:Nat)) qI uI;have k:=b "ask" (w:="ask") (ds:=[.int me,a6 j,.int e,cn s,.t []]) (T:=S) (an:=(cnt P:Nat)) uI uI;refine⟨_,ik kv (df "ask" me j e s) (.ay true),kt,c7 (m5 (aB.to c) rfl) (l2 (aB.to (wI k)) ?_),get_set aw,by rw[amk ne];exact bC,K.ask⟩;rw[B (n:=0) rfl];exact GK aw (kd:=.t [.str "ask",.int me,a6 j,.int e,cn s]) (p:=df "ask" me j e s) rfl rfl F (.of rfl) (.of rfl) (.of rfl)
 |@tell me e s p j x y w o A V E=>
  have c:=b "tell" (w:="tell") (ds:=[.int me,a6 j,.int e,cn s,.t [cn p,x,y,w]]) (T:=S) (an:=(cnt P:Nat)) qI qI;have Q:=ahB K bC G o A V E;have Y:bO S (ve (J 9) (bM (bH (aI 11 3) (aI 11 4))) (dt (aI 11 5)) (ks L na N H br s6 ls eD dp (cnt P:Nat) (.v (eX me e s (.t [cn p,x,y,w]) j)))) _ _:=GK bC (kd:=.t [.int e,cn s]) (p:=jJ e s) rfl rfl W (.of rfl) (.of rfl) (.of rfl);have M:(S.set dp (.dU 1 (ik kt (jJ e s) (.t [cn p,x,y,w]))))[eD]? = some (.dU 4 kv):=by rw[amk (an4 ne)];exact aw
  have C:=b "tell" (w:="tell") (ds:=[.int me,a6 j,.int e,cn s,.t [cn p,x,y,w]]) (T:=S.set dp (.dU 1 (ik kt (jJ e s) (.t [cn p,x,y,w])))) (an:=(cnt P:Nat)) qI qI;have Z:=b "ask" (w:="tell") (ds:=[.int me,a6 j,.int e,cn s,.t [cn p,x,y,w]]) (T:=S.set dp (.dU 1 (ik kt (jJ e s) (.t [cn p,x,y,w])))) (an:=(cnt P:Nat)) uI qI;refine⟨_,ik kv (df "tell" me j e s) (.ay true),ik kt (jJ e s) (.t [cn p,x,y,w]),c7 (l2 (aB.to c) (Bb (iG (x:=true) (cm (fx (rs:=[.v (eX me e s (.t [cn p,x,y,w]) j),.v (.ref dp)]) (.of rfl) Q))) Y)) (l2 (aB.to (jf Z C)) ?_),get_set M,by rw[amk ne,get_set bC],K.tell E⟩;rw[B (n:=0) rfl];exact GK M (kd:=.t [.str "tell",.int me,a6 j,.int e,cn s]) (p:=df "tell" me j e s) rfl rfl F (.of rfl) (.of rfl) (.of rfl)
 |grant o A=>exact cP (by decide +kernel) (by decide +kernel) (by decide +kernel) (WE K aw bC G o A)| late h=>exact cP (by decide +kernel) (by decide +kernel) (by decide +kernel) (aba K aw h)| kept h=>exact cP (by decide +kernel) (by decide +kernel) (by decide +kernel) (aaF K aw h)
end
def ah5{S:bL}{c a:Nat}(ne:c≠a){ls:List D}(cl:h6 ls)(s:∀x∈ls,x.bW 64=true)(hz:ls.length<100000)(aw:S[c]? = some (.dU 4 []))(o:S[a]? = some (.dU 1 [])){L N H:List D}{na br:Int}{s6:Slot} :
  ∃j f,bO S (m4 (λd U=>wM (U.set 11 (.v d))) ls (ks L na N H br s6 ls c a ((0:Nat):Int) .e)) (.bt (ks L na N H br s6 ls c a (cnt ls:Nat) f)) j:=by
 refine a4 λh=>?_
 obtain⟨U',j,t,g,kt,f,rfl,_⟩:=Bf (b:=λd U=>wM (U.set 11 (.v d))) (λi U T=>∃g kt f,U=ks L na N H br s6 ls c a (cnt (ls.take i):Nat) f/\T[c]? = some (.dU 4 g)/\T[a]? = some (.dU 1 kt)/\h7 (ls.take i) g kt)
  ls 0 (ks L na N H br s6 ls c a ((0:Nat):Int) .e) S ⟨[],[],_,rfl,aw,o,by rw[List.take_zero];exact⟨(λz=>nomatch z),(λz=>nomatch z),(λ⟨_,_,z⟩=>nomatch z),(λz=>nomatch z),amj _,amj _⟩⟩ (λi d U T hd ⟨g,kt,f,l,m,n,K⟩=>by
   subst l;rw[an2]at K ⊢;have u:ls.take (i+1)=ls.take i++[d]:=by rw[apd,hd];rfl
   refine a4 λh=>?_
   obtain⟨r,w,y,t,p,q,k⟩:=ah6 K m n ne (by rw[anj];omega) (s d (amD hd)) (cl.at i d hd) (L:=L) (N:=N) (H:=H) (ls:=ls) (na:=na) (br:=br) (s6:=s6);rw[<-u]at t k;exact h ⟨_,r,t,w,y,_,rfl,p,q,k⟩)
 rw[an2,aqw]at t;exact h ⟨j,f,t⟩
end ed
namespace ed
open PySem PySem.Spec aC az
def CH(ns:List Int)(k:Nat):o7 [.l (ns.map D.int),.int (k:Nat)]=pure (.v (.int (ns.getD k 0))):=by
 simp only[o7,IP,IQ]
 by_cases h:k<ns.length
 .simp[h,SR h]
 .simp[h]
end ed
namespace ed
open PySem PySem.Spec aC az jq gI jY
def Qm{S:bL}{i:Nat}{p:gK}{h:cU}(H:dP S i p h):aB S (zQ [.ref i]) (.fr h.ls):=aaw rfl (zz (tT rfl (b2 (qr H.ls (mD H rfl rfl)) c5)))
def adE{d:D}(f:h8 d)(W:List (List Nat))(na:Nat):lp W na (λ_=>[]) (sa na d) 0 0 where
 ok:=adC (Γ:=hT W na λ_=>[]) (Wu W na _) f
 et:=λk a e=>by
  obtain⟨i,_,rfl⟩:=amG.mp (amD e);exact⟨λ_ _=>anR _,λz=>absurd rfl z⟩
 c:=by
  refine⟨.nil,λk a e=>?_,λb j=>⟨[],aqx j,λg h=>nomatch h⟩⟩;obtain⟨i,_,rfl⟩:=amG.mp (amD e);exact⟨anR _,λz=>absurd rfl z,λe s l ⟨_,_,z⟩=>(nomatch z),λz=>absurd z nB⟩
 px:=λk A e=>by
  obtain⟨i,_,rfl⟩:=amG.mp (amD e);rfl
 ds:=λk x b m=>nomatch m
 ma:=λk=>amT _
 ls:=amj _
 rs:=amj _
 p_:=rfl
abbrev q3(L:List D)(na:Int)(N H:List D)(br:Int)(s6 a:Slot):aL:=[.cj L,.v (.int na),.v (.ref 0),.v (.l N),.v (.l H),.v (.int br),s6,a,.e,.e,.e,.e]
def held_eq{Γ:d4}(O:Γ.Ok){S:bL}{U:aL}{ls H:List D}(ok:∀l∈ls,iz Γ l)(hz:ls.length<100000)(d:H <+: ls){i j:Nat}(e:aB S (J i U) (.v (.l ls)))(c:aB S (J j U) (.v (.l H))) :
  aB S (ak oEq (nA (J i) iD (iQ (dm hu (a5 (J j))))) (J j) U) (.v (.ay true))/\aB S (ak ea (nA (J i) iD (iQ (dm hu (a5 (J j))))) (J j) U) (.v (.ay false)):=by
 have g:=abz O ok;have b:(D.l H).bW 64=true:=lI.mpr λx f=>lI.mp g x (d.subset f)
 have cF:cutD ls none (some (H.length:Int))=H:=by
  obtain⟨r,rfl⟩:=d;rw[yM,List.take_left'];rfl
 have a3:aB S (nA (J i) iD (iQ (dm hu (a5 (J j)))) U) (.fr H):=by
  exact e.bind ((aB.of (m:=iD U) (a:=none) rfl).bind ((show aB S (iQ (dm hu (a5 (J j))) U) (some (H.length:Int))from(tT (rs:=[.v (.l H)]) rfl (b2 c c5)).bind (.of rfl)).bind (.of (by show pure (R.fr (cutD ls none (some (H.length:Int))))=_;rw[cF]))))
 exact⟨b_ (by rw[nD (x:=.fr H) (y:=.v (.l H)) b b];show pure (R.v (.ay (eb (.l H) (.l H))))=_;rw[As b]) a3 c,b_ (by rw[rx (x:=.fr H) (y:=.v (.l H)) b b];show pure (R.v (.ay (!eb (.l H) (.l H))))=_;rw[As b];rfl) a3 c⟩
def dP.keep{S b:bL}{i:Nat}{p:gK}{h:cU}(H:dP S i p h)(q:∀(y:Nat)(o:dR),S[y]? = some o->b[y]? = some o):dP b i p h:=
 ⟨q _ _ H.a',q _ _ H.al,q _ _ H.bs,q _ _ H.ls,q _ _ H.rs,H.len,λj x a ex c=>⟨q _ _ (H.as j x a ex c).a',q _ _ (H.as j x a ex c).ls⟩,H.nl,H.uA,H.gC⟩
def abi(ns:List Int)(aF:ns.length<=63):∃aq,(E2 [.l (ns.map D.int)]).run []=.ok (.v (.ay true)) aq:=by
 have yD:o7 [.l (ns.map D.int),.int 0]=pure (.v (.int (ns.getD 0 0))):=CH ns 0;have bh:o7 [.l (ns.map D.int),.int 1]=pure (.v (.int (ns.getD 1 0))):=CH ns 1;have X:o7 [.l (ns.map D.int),.int 2]=pure (.v (.int (ns.getD 2 0))):=CH ns 2;generalize ns.getD 0 0=x0 at yD;generalize ns.getD 1 0=hG at bh;generalize ns.getD 2 0=GW at X;obtain⟨na,C2,C,kX⟩:∃na:Nat,1+x0 % 4=(na:Nat)/\1<=na/\na<=4:=⟨(1+x0 % 4).toNat,by have:=mod_lt (a:=x0) (b:=4) (by decide);omega,by have:=mod_lt (a:=x0) (b:=4) (by decide);omega,by have:=mod_lt (a:=x0) (b:=4) (by decide);omega⟩;have B:na<=6:=by omega
 obtain⟨T,V,Vn,E⟩:=Ol (hG % 1000000000);obtain⟨a,b,d,Q,F,G,K⟩:=abh (GW % 100000000000000000000);have Q:_=pure (R.fr (hn a b d)):=Q;have M:cf (jE T V)=.v (jE T V):=rfl;have Sf:=adE (My E.ga E.nI) [a,b,d] na;have Ea:=E.is;generalize jE T V=hall at *;have ht:∀j:Nat,j<ns.length->d7 (ns.map D.int) (0+(j:Nat))=some (.int (ns.getD j 0)):=λj hl=>by
  have:=SQ (xs:=ns.map D.int) (k:=j) (by rw[amh];exact hl);rw[Int.zero_add,this,List.getElem_map,ang,amB hl];rfl
 obtain⟨z,v5,ame,sM⟩:∃z:Nat,(cutD (ns.map D.int) none (some 63)).length=z/\z<=63/\z<=ns.length:=⟨_,rfl,by rw[show cutD (ns.map D.int) none (some 63)=(ns.map D.int).take 63 from yM _ 63,anj];omega,by rw[show cutD (ns.map D.int) none (some 63)=(ns.map D.int).take 63 from yM _ 63,anj,amh];omega⟩;have sr:-4611686018427387904<=(z:Int)/\(z:Int)<4611686018427387904:=by omega
 have zs:z<=ami:=by rw[amS];omega
 generalize ns.map D.int=L at *;obtain⟨S1,p1,t1,RY,_⟩:=Zr [] C B M Ea;obtain⟨U',f,dj,w,h,v,H,q,s6,g,rfl,RZ,p,I⟩:=Bf (b:=λd U=>Oc (U.set 6 (.v d))) (λj U σ=>∃(w:fU)(h:cU)(v:Nat)(H:List D)(q:gK)(s6 g:Slot),U=q3 L na (hn a b d) H (v:Nat) s6 g/\dP σ 0 q h/\H <+: h.ls/\lp [a,b,d] na w h j v)
  (fM 0 z) 0 (q3 L na (hn a b d) [] ((0:Nat):Int) .e .e) S1 ⟨_,_,0,[],p1,_,_,rfl,RY,List.nil_prefix,Sf⟩ (λj x U σ P ⟨w,h,v,H,q,s6,g,aD,A,p,I⟩=>by
   subst aD;obtain⟨bq,rfl⟩:=Qx P;rw[an2]at I ⊢;have da:=ht j (by omega);obtain⟨Y,h',n,Z,u,t,sp,pr,m⟩:=VG F G K B I C (by omega) (ns.getD j 0) (0+(j:Nat)) (by omega) (by omega) A;have O:=m.o (by simp) B;have s:=sp.at';have fl:=m.ls;have ts:bO σ (l1 5 (g5 eh (dt (J 5)) (pM zX (e5 (di (J 2) (di (J 3) (c2 (J 1) (ak eC (J 0) (J 6)) (J 6))))))) (q3 L na (hn a b d) H (v:Nat) (.v (.int (0+(j:Nat)))) g)) (.bt (q3 L na (hn a b d) H ((v+u:Nat):Int) (.v (.int (0+(j:Nat)))) g)) n:=qV (r:=.v (.int ((v+u:Nat):Int))) (GI (x:=.v (.int v)) (y:=.v (.int u)) rfl rfl (aB.to (.of rfl)) (x_call (rs:=[.v (.ref 0),.v (.l (hn a b d)),.v (.int na),.v (.int (ns.getD j 0)),.v (.int (0+(j:Nat)))]) (b2 (.of rfl) (b2 (.of rfl) (b2 (.of rfl) (b2 (b_ (x:=.cj L) (by show(match d7 L (0+(j:Nat))with|some d=>pure (R.v d)|none=>bad)=_;rw[da]) (.of rfl) (.of rfl)) (b2 (.of rfl) c5))))) rfl t)) rfl;have tk:aB n (aR (ak oEq (ak oMod (J 6) (aH 16)) (aH 7)) (q3 L na (hn a b d) H ((v+u:Nat):Int) (.v (.int (0+(j:Nat)))) g)) (decide ((0+(j:Nat):Int) % 16=7)):=cm (b_ vZ (b_ (uv (by decide)) (.of rfl) (.of rfl)) (.of rfl))
   by_cases mY:(0+(j:Nat):Int) % 16=7
   .rw[decide_eq_true mY]at tk
    have he:=(held_eq O (S:=n) (U:=q3 L na (hn a b d) H ((v+u:Nat):Int) (.v (.int (0+(j:Nat)))) (.v (.l h'.ls))) m.ok.ls (by omega) (p.trans pr) (i:=7) (j:=4) (.of rfl) (.of rfl)).2;exact⟨_,n,c7 ts (aB.to (kR tk (iH (i1 (r:=.fr h'.ls) (i0 s.a' (.of rfl) rfl c5 (Qm s)) rfl) (iH (hZ (cm he) (.of rfl)) (.of rfl))))),Y,h',v+u,h'.ls,Z,_,_,rfl,s,an9 _,m⟩
   .rw[decide_eq_false mY]at tk
    exact⟨_,n,c7 ts (aB.to (hZ tk (.of rfl))),Y,h',v+u,H,Z,_,_,rfl,s,p.trans pr,m⟩)
 rw[an2,su]at I;have O:=I.o (by simp) B;have fl:=I.ls;have keep:∀(y:Nat)(o:dR),f[y]? = some o->(f++[dR.dU 4 []]++[dR.dU 1 []])[y]? = some o:=λy o e=>by
  have:=kU e;rw[an5,amA this];exact e
 have W:=RZ.keep keep;have g1:(f++[dR.dU 4 []]++[dR.dU 1 []])[f.length]? = some (.dU 4 []):=by rw[an5,ams (amj _),anQ];rfl
 have g2:(f++[dR.dU 4 []]++[dR.dU 1 []])[f.length+1]? = some (.dU 1 []):=by rw[ams (by rw[amf];exact amj _),amf,anl,anQ];rfl
 generalize hn a b d=N at *;obtain⟨nk,hD,sz⟩:=ah5 (S:=f++[dR.dU 4 []]++[dR.dU 1 []]) (amM (aoH _)) I.c.cl (λx P=>y7 (by decide) (OB O (I.ok.ls x P)).1) (by omega) g1 g2 (L:=L) (N:=N) (H:=H) (na:=na) (br:=(v:Nat)) (s6:=s6);have he:=(held_eq O (S:=nk) (U:=ks L na N H (v:Nat) s6 h.ls f.length (f.length+1) (cnt h.ls:Nat) hD) I.ok.ls (by omega) p (i:=7) (j:=4) (.of rfl) (.of rfl)).1;refine⟨nk,vh rfl ?_⟩;refine c7 (U':=[.cj L,.v (.int na),.e,.e,.e,.e,.e,.e,.e,.e,.e,.e]) (aB.to (.of (by simp[yD,C2]))) ?_;refine c7 (U':=[.cj L,.v (.int na),.v (.ref 0),.e,.e,.e,.e,.e,.e,.e,.e,.e]) (qV (RI (rs:=[.v hall,.v (.int na)]) (b2 (.of (by simp[bh,Vn])) (b2 (.of rfl) c5)) rfl t1) rfl) ?_;refine c7 (U':=[.cj L,.v (.int na),.v (.ref 0),.v (.l N),.e,.e,.e,.e,.e,.e,.e,.e]) (aB.to (.of (by simp[X,Q]))) ?_;refine c7 (U':=[.cj L,.v (.int na),.v (.ref 0),.v (.l N),.v (.l []),.e,.e,.e,.e,.e,.e,.e]) (aB.to (.of rfl)) ?_;refine c7 (U':=q3 L na N [] ((0:Nat):Int) .e .e) (aB.to (.of rfl)) ?_;refine c7 (GO (ds:=fM 0 z) (.of (by simp[v5,sr,zs])) dj) ?_;refine c7 (U':=[.cj L,.v (.int na),.v (.ref 0),.v (.l N),.v (.l H),.v (.int (v:Nat)),s6,g,.v (.ref f.length),.e,.e,.e]) (S1:=f++[dR.dU 4 []]) (qV (r:=.v (.ref f.length)) rfl rfl) ?_;refine c7 (U':=[.cj L,.v (.int na),.v (.ref 0),.v (.l N),.v (.l H),.v (.int (v:Nat)),s6,g,.v (.ref f.length),.v (.ref (f.length+1)),.e,.e]) (S1:=f++[dR.dU 4 []]++[dR.dU 1 []]) (qV (r:=.v (.ref (f++[dR.dU 4 []]).length)) rfl (by rw[amf];rfl)) ?_;refine c7 (U':=[.cj L,.v (.int na),.v (.ref 0),.v (.l N),.v (.l H),.v (.int (v:Nat)),s6,g,.v (.ref f.length),.v (.ref (f.length+1)),.v (.int ((0:Nat):Int)),.e]) (aB.to (.of rfl)) ?_;refine c7 (U':=ks L na N H (v:Nat) s6 h.ls f.length (f.length+1) ((0:Nat):Int) .e) (aB.to (i1 (r:=.fr h.ls) (i0 W.a' (.of rfl) rfl c5 (Qm W)) rfl)) ?_;refine c7 (GO (ds:=h.ls) (.of rfl) sz) ?_;exact aB.to (g_ (tU he λ_=>b_ (x:=.v (.int (cnt h.ls:Nat))) (y:=.v (.int (v:Nat))) (vZ.trans (by rw[I.p_,decide_eq_true rfl])) (.of rfl) (.of rfl)))
end ed
structure PySem.W.Fast:Prop where(te2857513405214454360 te3741507712665510233 te4789763330309741694 te7528742614425814487 te16456851649686219034 te15585142632070278769 te9471988692650706797 te2603943825287478876 te958689849251813765 te7256335902952314786 te5022899737508632264 te8792446604049638193 te13863588437863837096 te127276257269566871 te772284569922587816 te6426931794122932413 te15817196368435697391 te7346517135224384791 te12774539244115806380 te18205336972846230512 te15855667911632658147 te4455702745938039722 te11933715979636928871 te13903007753013385202 te1055006643337952785 te9219490541462721290 te15088813189862969228 te12661238370662227598 te13609594559595498851 te8222802650667817740 te16748217475602385456 te310687054567756177 te11679401198723118345 te10654555510080103865 te16451388830026132244 te5604424676464411202 te3184537048263000502 te3764338950644113861 te12812424403555100715 te16583383867984042295 te3943978383497016015 te3094796709590637134 te16174643722956759501 te16310297152624541735 te13041834355733488283 te5736422840336430175 te40001717933024971 te8603382915384161519 te16776735570560931315 te6072067394610397138 te962322745607838789 te14407232079224757863 te2689925146744707015 te10896122477895196470 te6462300036601987293 te3102929931064817923 te9931691891132878290 te3790633793891538987 te16118362254140343082 te15832615617141562894 te14361001592588531843 te3455483133849327694 te5879155025226349814 te5756700669986149524 te8587175272508275255 te10183972136566640126 te10121430978408593233 te1705854098556278550 te11520951750494174154 te4124953512111088752 te10521505549580078524 te14549936516418264339 te7731237518026071483 te11645952013181705644 te5479450784487321239 te8422004822799797175 te5534723671152984290 te10726488620920744815 te7058653417116655182 te9180286914219470520 te2673377280873650666 te17506534246064084228 te5802161161444702736 te6761796941924385905 te5066640803494586888 te9386762084878796984 te29713079301055353 te5499232189959318764 te13203421601370900189 te8453000507555816997 te13216751394065367267 te16805518830933946519 te6942664685437124120 te7711118278440264919 te9852470053864258803 te8419293097619303713 te3361228775145776424 te18059650116379877447 te132687201324862984 te8553163158519617883 te4018173619481172237 te17431897937498212167 te16693667745256727798 te7778101139856512861 te8783310603190033781 te14533034527375249052 te9913677847966264839 te7772491353195491836 te3304984505482064854 te16072038518746947403 te5256648529407657881 te11734186033509592000 te620856843919069697 te5314612725437405178 te13974681295897611204 te14187916117835929118 te16497332418998894645 te10510378747300628885 te2719781132551336814 te10125773567385083608 te17723049827805871010 te12191434128533616978 te15339195757672130269 te1067435510839545647 te13677833146505363969 te18059050060134997467 te9816908260882977068 te12361546563439416976 te13413028932806109937 te423602692285538390 te11841913902489443190 te1827735091702320457 te6331626886064494460 te7240332869003152058 te7808167627027264782 te10176807897114927803 te6140534654792142625 te1875901793617101082 te11990597193022143557 te16299080994577600604 te6731811926237825119 te16529527121657642761 te12087341792154758886 te14821083149065623013 te3813591064071883278 te17141922580540888804 te15238769555620036025 te2217919324755889383 te10470674912976184007 te7362006634837965597 te1016118066430238697 te14430618890612350370 te5666130855844437722 te6644480847549402425 te15156748186072884952 te11253651725359758466 te14955095749529314462 te8693894053990078365 te12812111416346567231 te8572201073909088778 te5750554105977742414 te8863351012126560998 te947998830592059203 te15198325336492584212 te17266114269376520102 te4706157794992902651 te9037249183601372877 te11204855482662934069 te3879855186317365289 te12185864295254694515 te14356893793589017931 te6443766188401834806 te3993066835014080295 te6605963599520401618 te4064709300181703166 te17907589937236529257 te10321719139625557870 te17231918760948576420 te13337385475601199733 te3463840553007899079 te3601965094238915677 te9131832952739052290 te4175639526109963226 te9042113900545909615 te11361426110459521127 te9688812408096190702 te13552665242844944287 te5332142919797295979 te3160565697967169292 te13339274433675913965 te8620375603717841206 te1650934388208500234 te16316796355848233854 te15431849764182932742 te10690425106757924232 te4938589191922543371 te15567552175900678757 te2614810780763681968 te12851825239219674349 te11198291226011454558 te11422401935627342269 te17562092788408565879 te14083833780378983215 te14141404232617243748 te810319290718680305 te15419572773951939397 te9022330644768299194 te5596412474152879173 te438954021215549880 te8768712915482688162 te1246067701379323432 te8523806121185893793 te18166375091841700192 te16809983334263075091 te16572314364714576187 te344418400254526742 te7546852104955462239 te15010336874752315454 te1879065859365200957 te17673808715306358676 te6501879518567112050 te12124509379107626750 te11203284409156191427 te4865883188699051443 te4358600309005099003 te9086792404858001531 te7825480948132880558 te255980040916302866 te2484649332363560460 te11458434434104786295 te14790808901065728135 te10947719672088329582 te16470137381492152679 te5722158219557679024 te9842530562856528351 te10500508343110444529 te18132401415860466999 te2564830274449235280 te15021994324110251102 te1770290998985646205 te8455121814776473695 te4161607799647813790 te735365890675046810 te557844161433153655 te11733843821876805026 te13977974687395374552 te1028225886727825206 te5633949218870723275 te1117502852594935787 te1196386525321171407 te7927212287596584549 te1968469625137576468 te10834749841258200145 te17228802139410494605 te1310080887717498689 te8082037754304138237 te2457108182487089595 te2205553367041269482 te14449718046231727015 te2591648293659120071 te5355300058118055705 te3421395974175905683 te8006767709063740326 te11674844550419567941 te4705223470414416561 te3694910771782039164 te7834554715377081783 te1712477174703046077 te7662030146701442297 te10172988945014214184 te2952906796265159746 te5348548640290039726 te818667386523693484 te279845044083302257 te1073872248265581599 te6065371396369617559 te2630025594449999073 te17920882546902353580 te16302872169837100563 te3555209582892961884 te13542386380687778879 te1163795631754607367 te1576161546230608880 te8553469643052680934 te7341375015134383388 te15827151386566879561 te14599192562254797264 te18063528821801911974 te9521802443874635938 te863326711856754846 te157172698032939788 te9471337499807801624 te7957309012225694807 te3662136743440954726 te13683794159619642279 te15403401948845995899 te14695228949057517565 te13924109401326479782 te1467743298365477825 te6730406348904042014 te8681641423918226258 te8094349812740139087 te3555707695131770940 te4058830165539277678 te15968044089562553946 te4764360719634134593 te17192627513797462565 te12306452414151809009 te14790276836041344295 te687633345224880820 te12459820138440316318 te8999506888738714515 te11968178523045583923 te3448526231088748248 te12999268363852055827 te1699712950438970244 te4326407597918453407 te5550204282666545189 te5011391452783530662 te10362597118003265992 te4710215386314134907 te276718303536128008 te825211562792864679 te2466902155666072124 te5778523658426984988 te15127794963656541327 te3903864114720514755 te10094062542201004584 te178561562161008648 te7746199320758591978 te3254088076259567450 te17255018194956017663 te1913245369351509022 te12006944115513207683 te14300438913676208815 te12610395761814751369 te7451196655614034979 te1513018106816494512 te11662024048855138770 te12291485422623475917 te14642634235183653804 te17193463093931589170 te1579024333425479765 te1296511611864820755 te10498080339285931170 te18117919319223405835 te5654956958621456552 te9305633444191823815 te10425665799594474344 te2191559675494401596 te16894590698466560448 te17007367115089461286 te10346431112690201888 te7540736418119753267 te10618682612203968602 te2757114598298323940 te15514457085223025732 te8757527214412429960 te16557614262918865265 te2038213926287968577 te5755771216488869340 te15447243614727908611:True)
namespace PySem.W.Fast
noncomputable def zp:=PySem.Challenge.pw_oneslate_k45_whole_record_closed
noncomputable def zq:=zp.main.body
noncomputable def tw11804333832250855424:=(zq.drop 43).take 9
theorem te11804333832250855424:tw11804333832250855424=tw11804333832250855424:=rfl
noncomputable def tw5387042946036132512:=(zq.drop 107).take 1
theorem te5387042946036132512:tw5387042946036132512=tw5387042946036132512:=rfl
noncomputable def tw16718137666249886497:PySem.Program:={zp with main:={zp.main with body:=([0,2,3,4,5,6,8,9,10,12,13,14,15,16,17,18,20,21,22,23,24,25,26,27,28,29,30,31,32,33,35,36,37,38,39,41,42,43,44,45,46,47,48,49,51,52,53,54,55,56,57,58,59,60,61,63,64,65,66,67,68,69,70,71,72,73,74,75,76,78,79,80,81,83,85,86,87,88,89,90,92,93,94,96,97,98,99,100,101,102,103,104,105,106,107]:List Nat).filterMap fun i=>zp.main.body[i]?}}
theorem te16718137666249886497:tw16718137666249886497=tw16718137666249886497:=rfl
noncomputable def tw16792240054836926498:=(zq.drop 28).take 15
theorem te16792240054836926498:tw16792240054836926498=tw16792240054836926498:=rfl
noncomputable def tw14169675405664540034:=(zq.drop 52).take 14
theorem te14169675405664540034:tw14169675405664540034=tw14169675405664540034:=rfl
noncomputable def tw13517520659390052164:=(zq.drop 17).take 1
theorem te13517520659390052164:tw13517520659390052164=tw13517520659390052164:=rfl
noncomputable def tw10250474608733208678:=(zq.drop 16).take 1
theorem te10250474608733208678:tw10250474608733208678=tw10250474608733208678:=rfl
noncomputable def tw13862071110487603718:=(zq.drop 18).take 10
theorem te13862071110487603718:tw13862071110487603718=tw13862071110487603718:=rfl
noncomputable def tw10267446843537949350:=(zq.drop 66).take 8
theorem te10267446843537949350:tw10267446843537949350=tw10267446843537949350:=rfl
noncomputable def tw6815654303555580710:=(zq.drop 95).take 12
theorem te6815654303555580710:tw6815654303555580710=tw6815654303555580710:=rfl
noncomputable def tw11753758997828451591:=(zq.drop 94).take 1
theorem te11753758997828451591:tw11753758997828451591=tw11753758997828451591:=rfl
noncomputable def tw16217944614816378631:=(zq.drop 74).take 9
theorem te16217944614816378631:tw16217944614816378631=tw16217944614816378631:=rfl
noncomputable def tw15439651637258041159:=(zq.drop 14).take 1
theorem te15439651637258041159:tw15439651637258041159=tw15439651637258041159:=rfl
noncomputable def tw951562002975283213:=(zq.drop 84).take 10
theorem te951562002975283213:tw951562002975283213=tw951562002975283213:=rfl
noncomputable def tw4880930240130545876:=(zq.drop 83).take 1
theorem te4880930240130545876:tw4880930240130545876=tw4880930240130545876:=rfl
noncomputable def tw13053130880674991384:=(zq.drop 12).take 2
theorem te13053130880674991384:tw13053130880674991384=tw13053130880674991384:=rfl
noncomputable def tw7635099764999489148:=(zq.drop 15).take 1
theorem te7635099764999489148:tw7635099764999489148=tw7635099764999489148:=rfl
noncomputable def tw8061886078864617501:=(zq.drop 0).take 12
theorem te8061886078864617501:tw8061886078864617501=tw8061886078864617501:=rfl
end PySem.W.Fast
open PySem PySem.W PyProof.Rows
set_option maxHeartbeats 0 in
theorem PySem.Challenge.cw_oneslate_k45_whole_record_closed_holds : PySem.Challenge.rw_oneslate_k45_whole_record_closed.Holds := by
 w_on;o_law;k_head;(case hw=>w_witness2)
 k_fill
 refine az.ah4 (l:=PySem.Challenge.rw_oneslate_k45_whole_record_closed) (k:=27) ["highest","with_cell","with_doing","with_page"] rfl rfl ⟨rfl,by decide,by decide⟩ ?ajD ?ajC (λw h Y=>PySem.W.km_in_of Y) ?F
 case ajD=>
  intro x ah
  repeat (rcases amw.mp ah with rfl|ah;· exact⟨_,rfl⟩)
  cases ah
 case ajC=>exact λp=>by kernel_rfl
 case F=>
  intro w mg fa h eK G wx
  have oC:az.nc (aC.iL eK) mg "Asker" ed.Ad:=by
   dsimp only[aC.iL]
   refine' az.JU eK G ?a ?e4 ?hd ?po ?i6 ?mk ?wJ ?na
   (case a=>k_is);(case e4=>k_is);(case hd=>k_is);(case po=>k_is);(case i6=>k_is);(case mk=>k_is);(case wJ=>k_is)
   case na=>
    simp only[am3]
    repeat (refine⟨by k_is,?_⟩)
    exact λ_ h=>nomatch h
  have oD:az.nc (aC.iL eK) mg "House" ed.Ae:=by
   dsimp only[aC.iL]
   refine' az.JU eK G ?a ?e4 ?hd ?po ?i6 ?mk ?wJ ?na
   (case a=>k_is);(case e4=>k_is);(case hd=>k_is);(case po=>k_is);(case i6=>k_is);(case mk=>k_is);(case wJ=>k_is)
   case na=>
    simp only[am3]
    repeat (refine⟨by k_is,?_⟩)
    exact λ_ h=>nomatch h
  have CR:aC.g6 (aC.iL eK) mg "law" ed.xG ["script"]:=by
   dsimp only[aC.iL]
   refine' az.LP eK G ?a ?l ?c ?k (λ_ _ _ _ _ _=>az.pI λ_=>rfl)
   (case a=>k_is);(case l=>k_is);(case c=>k_is);(case k=>k_is)
  letI:aC.aY:=az.u4 w (aC.iL eK) ["highest","with_cell","with_doing","with_page"]
  have Eo:az.KTab PySem.Challenge.rw_oneslate_k45_whole_record_closed.prog w (aC.iL eK) mg "FORMS" ed.zA:=by
   dsimp only[aC.iL]
   refine' az.aa1 eK G ?a ?s ?l ?k ?f
   (case a=>k_is);(case s=>decide);(case l=>k_is)
   case k=>
    intro e he
    repeat (rcases amw.mp he with rfl|he;· first|exact⟨"put",rfl,rfl⟩|exact⟨"add",rfl,rfl⟩|exact⟨"swap",rfl,rfl⟩|exact⟨"take",rfl,rfl⟩|exact⟨"renew",rfl,rfl⟩|exact⟨"free",rfl,rfl⟩|exact⟨"sure",rfl,rfl⟩|exact⟨"move",rfl,rfl⟩|exact⟨"end",rfl,rfl⟩)
    cases he
   case f=>exact⟨_,_,rfl,⟨_,rfl⟩,(az.o1 (xs:=["name","number"]) (by k_is) (by decide +kernel) (by exact⟨_,_,rfl,⟨_,_,rfl,rfl⟩⟩)),⟨_,_,rfl,⟨_,rfl⟩,(az.o1 (xs:=["name","number"]) (by k_is) (by decide +kernel) (by exact⟨_,_,rfl,⟨_,_,rfl,rfl⟩⟩)),⟨_,_,rfl,⟨_,rfl⟩,(az.o1 (xs:=["name","number","number"]) (by k_is) (by decide +kernel) (by exact⟨_,_,rfl,⟨_,_,rfl,⟨_,_,rfl,rfl⟩⟩⟩)),⟨_,_,rfl,⟨_,rfl⟩,(az.o1 (xs:=["fence"]) (by k_is) (by decide +kernel) (by exact⟨_,_,rfl,rfl⟩)),⟨_,_,rfl,⟨_,rfl⟩,(az.o1 (xs:=["fence"]) (by k_is) (by decide +kernel) (by exact⟨_,_,rfl,rfl⟩)),⟨_,_,rfl,⟨_,rfl⟩,(az.o1 (xs:=["fence"]) (by k_is) (by decide +kernel) (by exact⟨_,_,rfl,rfl⟩)),⟨_,_,rfl,⟨_,rfl⟩,(az.o1 (xs:=["fence","name","number"]) (by k_is) (by decide +kernel) (by exact⟨_,_,rfl,⟨_,_,rfl,⟨_,_,rfl,rfl⟩⟩⟩)),⟨_,_,rfl,⟨_,rfl⟩,(az.o1 (xs:=["hall"]) (by k_is) (by decide +kernel) (by exact⟨_,_,rfl,rfl⟩)),⟨_,_,rfl,⟨_,rfl⟩,(az.o1 (xs:=[]) (by k_is) (by decide +kernel) (by exact rfl)),rfl⟩⟩⟩⟩⟩⟩⟩⟩⟩
  have AN:az.vr PySem.Challenge.rw_oneslate_k45_whole_record_closed.prog w (aC.iL eK) mg "DOERS" ed.hF:=by
   dsimp only[aC.iL]
   refine' az.V1 eK G ?a ?l ?k ?f
   (case a=>k_is);(case l=>k_is)
   case k=>
    intro e he
    repeat (rcases amw.mp he with rfl|he;· first|exact⟨"put",rfl,rfl⟩|exact⟨"add",rfl,rfl⟩|exact⟨"swap",rfl,rfl⟩|exact⟨"take",rfl,rfl⟩|exact⟨"renew",rfl,rfl⟩|exact⟨"free",rfl,rfl⟩|exact⟨"sure",rfl,rfl⟩|exact⟨"move",rfl,rfl⟩|exact⟨"end",rfl,rfl⟩)
    cases he
   case f=>
    simp only[am3]
    repeat (refine⟨⟨_,by k_is,by k_is⟩,?_⟩)
    exact λ_ h=>nomatch h
  have EC:=by
   refine' az.zH (wl:=w) (x:="highest") (st:=ed.QG) (ln:=["highest","with_cell","with_doing","with_page"]) eK G ?r' ?rd ?r4 ?hh ?dd ?sk ?ao ?aA ?bK ?cR ?da ?fW ?nn ?ii
   (case r'=>decide);(case rd=>k_is);(case r4=>k_is);(case hh=>exact rfl);(case dd=>k_is);(case sk=>exact rfl);(case ao=>exact rfl);(case aA=>exact rfl);(case bK=>exact rfl);(case cR=>exact rfl);(case da=>exact rfl);(case fW=>exact rfl);(case nn=>decide)
   case ii=>
    intro y a0 bC
    repeat (rcases amw.mp a0 with rfl|a0;· first|rfl|(refine' az.Ab ?bE ?bZ bC;(case bE=>refine' az.xT ?a1 ?a2 ?gv ?hp ?jc;(case a1=>k_is);(case a2=>k_is);(case gv=>exact rfl);(case hp=>k_is);(case jc=>exact rfl));(case bZ=>decide)))
    cases a0
  have EF:=by
   refine' az.zH (wl:=w) (x:="with_cell") (st:=ed.QH) (ln:=["highest","with_cell","with_doing","with_page"]) eK G ?r' ?rd ?r4 ?hh ?dd ?sk ?ao ?aA ?bK ?cR ?da ?fW ?nn ?ii
   (case r'=>decide);(case rd=>k_is);(case r4=>k_is);(case hh=>exact rfl);(case dd=>k_is);(case sk=>exact rfl);(case ao=>exact rfl);(case aA=>exact rfl);(case bK=>exact rfl);(case cR=>exact rfl);(case da=>exact rfl);(case fW=>exact rfl);(case nn=>decide)
   case ii=>
    intro y a0 bC
    repeat (rcases amw.mp a0 with rfl|a0;· first|rfl|(refine' az.Ab ?bE ?bZ bC;(case bE=>refine' az.xT ?a1 ?a2 ?gv ?hp ?jc;(case a1=>k_is);(case a2=>k_is);(case gv=>exact rfl);(case hp=>k_is);(case jc=>exact rfl));(case bZ=>decide)))
    cases a0
  have EG:=by
   refine' az.zH (wl:=w) (x:="with_doing") (st:=ed.QI) (ln:=["highest","with_cell","with_doing","with_page"]) eK G ?r' ?rd ?r4 ?hh ?dd ?sk ?ao ?aA ?bK ?cR ?da ?fW ?nn ?ii
   (case r'=>decide);(case rd=>k_is);(case r4=>k_is);(case hh=>exact rfl);(case dd=>k_is);(case sk=>exact rfl);(case ao=>exact rfl);(case aA=>exact rfl);(case bK=>exact rfl);(case cR=>exact rfl);(case da=>exact rfl);(case fW=>exact rfl);(case nn=>decide)
   case ii=>
    intro y a0 bC
    repeat (rcases amw.mp a0 with rfl|a0;· first|rfl|(refine' az.Ab ?bE ?bZ bC;(case bE=>refine' az.xT ?a1 ?a2 ?gv ?hp ?jc;(case a1=>k_is);(case a2=>k_is);(case gv=>exact rfl);(case hp=>k_is);(case jc=>exact rfl));(case bZ=>decide)))
    cases a0
  have EH:=by
   refine' az.zH (wl:=w) (x:="with_page") (st:=ed.QJ) (ln:=["highest","with_cell","with_doing","with_page"]) eK G ?r' ?rd ?r4 ?hh ?dd ?sk ?ao ?aA ?bK ?cR ?da ?fW ?nn ?ii
   (case r'=>decide);(case rd=>k_is);(case r4=>k_is);(case hh=>exact rfl);(case dd=>k_is);(case sk=>exact rfl);(case ao=>exact rfl);(case aA=>exact rfl);(case bK=>exact rfl);(case cR=>exact rfl);(case da=>exact rfl);(case fW=>exact rfl);(case nn=>decide)
   case ii=>
    intro y a0 bC
    repeat (rcases amw.mp a0 with rfl|a0;· first|rfl|(refine' az.Ab ?bE ?bZ bC;(case bE=>refine' az.xT ?a1 ?a2 ?gv ?hp ?jc;(case a1=>k_is);(case a2=>k_is);(case gv=>exact rfl);(case hp=>k_is);(case jc=>exact rfl));(case bZ=>decide)))
    cases a0
  have kt:aC.yi (aC.iL eK):=aC.aaS _
  have R3:az.G3 mg:=by constructor<;>exact PySem.W.mg_none_of eK G (by k_is)
  refine az.SE wx CR (λ_ _ _ _ _ _ _=>rfl) (λbase Uc f fd F=>az.abc (ed.FD ⟨rfl,?_,?_,?_,?_,?_,?_,?_,?_,?_,?_,?_,?_,?_,?_,?_,?_,?_,?_,?_,?_,?_,?_,?_,?_,?_,?_,?_,?_,?_,?_,?_,?_,?_,?_,?_,?_,?_,?_,?_,?_,?_,?_,?_,?_,?_,?_,?_,?_,?_,?_,?_,?_,?_,?_,?_,?_,?_,?_,?_,?_,?_,?_,?_,?_,?_,?_,?_,?_,?_,?_,?_,?_,?_,?_,?_,?_,?_,?_,?_,?_,?_,?_,?_,?_,?_,?_,?_,?_,?_,?_,?_,?_,?_,?_,?_,?_,?_,?_,?_,?_,?_,?_,?_,?_,?_,?_,?_,CR,oC,oD,?_,?_,?_,?_,?_,?_,?_,?_,AN,Eo,EC,EF,EG,EH,Uc,R3,kt⟩ F) ed.abi)
  all_goals first
  |(refine' ⟨_,PySem.W.mg_of eK G ?a,?b⟩;(case a=>k_is);(case b=>first|exact rfl|exact⟨_,rfl⟩))
  |((try dsimp only[aC.iL]);refine' ⟨az.LP eK G ?a ?l ?c ?k (λ_ _ _ _ _ _=>by first|exact az.Rg rfl|exact az.pI λ_=>rfl|exact az.qQ λ_ _=>rfl|exact az.qR λ_ _ _=>rfl|exact az.A2 λ_ _ _ _=>rfl|exact az.A3 λ_ _ _ _ _=>rfl|exact az.A4 λ_ _ _ _ _ _=>rfl|exact az.GA λ_ _ _ _ _ _ _=>rfl),az.qj (by kernel_rfl)⟩;(case a=>k_is);(case l=>k_is);(case c=>k_is);(case k=>k_is))
  |(dsimp only[aC.iL]at oC ⊢;refine' ⟨az.LQ eK G oC ?a ?f ?i ?l ?c ?k (λ_ _ _ _ _ _=>by first|exact az.pI λ_=>rfl|exact az.qQ λ_ _=>rfl|exact az.qR λ_ _ _=>rfl|exact az.A2 λ_ _ _ _=>rfl|exact az.A3 λ_ _ _ _ _=>rfl|exact az.A4 λ_ _ _ _ _ _=>rfl|exact az.GA λ_ _ _ _ _ _ _=>rfl),az.qj (by kernel_rfl)⟩;(case a=>k_is);(case f=>k_is);(case i=>k_is);(case l=>k_is);(case c=>k_is);(case k=>k_is))
  |(dsimp only[aC.iL]at oD ⊢;refine' ⟨az.LQ eK G oD ?a ?f ?i ?l ?c ?k (λ_ _ _ _ _ _=>by first|exact az.pI λ_=>rfl|exact az.qQ λ_ _=>rfl|exact az.qR λ_ _ _=>rfl|exact az.A2 λ_ _ _ _=>rfl|exact az.A3 λ_ _ _ _ _=>rfl|exact az.A4 λ_ _ _ _ _ _=>rfl|exact az.GA λ_ _ _ _ _ _ _=>rfl),az.qj (by kernel_rfl)⟩;(case a=>k_is);(case f=>k_is);(case i=>k_is);(case l=>k_is);(case c=>k_is);(case k=>k_is))
  |(dsimp only[aC.iL]at oC ⊢;refine' ⟨az.LR eK G oC ?a ?f ?i ?l ?t ?c ?k rfl (λ_ _ _ _ _ _=>by first|exact az.pI λ_=>⟨_,rfl,rfl⟩|exact az.qQ λ_ _=>⟨_,rfl,rfl⟩|exact az.qR λ_ _ _=>⟨_,rfl,rfl⟩) (λ_ _ _ _ _ _=>by first|exact az.pI λ_=>⟨_,rfl,rfl⟩|exact az.qQ λ_ _=>⟨_,rfl,rfl⟩|exact az.qR λ_ _ _=>⟨_,rfl,rfl⟩),az.qj (by kernel_rfl)⟩;(case a=>k_is);(case f=>k_is);(case i=>k_is);(case l=>k_is);(case t=>k_is);(case c=>k_is);(case k=>k_is))
  |(dsimp only[aC.iL]at oD ⊢;refine' ⟨az.LR eK G oD ?a ?f ?i ?l ?t ?c ?k rfl (λ_ _ _ _ _ _=>by first|exact az.pI λ_=>⟨_,rfl,rfl⟩|exact az.qQ λ_ _=>⟨_,rfl,rfl⟩|exact az.qR λ_ _ _=>⟨_,rfl,rfl⟩) (λ_ _ _ _ _ _=>by first|exact az.pI λ_=>⟨_,rfl,rfl⟩|exact az.qQ λ_ _=>⟨_,rfl,rfl⟩|exact az.qR λ_ _ _=>⟨_,rfl,rfl⟩),az.qj (by kernel_rfl)⟩;(case a=>k_is);(case f=>k_is);(case i=>k_is);(case l=>k_is);(case t=>k_is);(case c=>k_is);(case k=>k_is))
