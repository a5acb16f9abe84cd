import PyProof.Rows.All
import Wide.All
import OpenK.AllK
import Wide.FinOn
import Lean
import PyProof.EqAt
import PyProof.EqKinds
import PyProof.TupleCall
import KE.KSortTup
import PyProof.ZipIter
import KE.KMinKey
import KE.KRevSl
import PyProof.Rows.EnumRows
import PyProof.EnumStmt
import PyProof.ListRange
import KE.KIntText
import Wide.Seal
import PyProof.P3Eq
import PyProof.TupleKey
import PyProof.DictRoadsH
import KE.KRevIter
import PySem.Challenge.RW_oneslate_k55_audit_tells_faults
set_option Elab.async false
set_option linter.all false
set_option maxRecDepth 100000
set_option bootstrap.genMatcherCode false
set_option compiler.extract_closed false
open Array renaming length_toList->afN,forIn_toList->ahH,getElem?_toList->ah3
open Bool renaming false_ne_true->afc,and_eq_true->afG,and_eq_true_iff->agG,and_false->agY,false_eq_true->ahd,false_and->aiq,eq_iff_iff->ajm,and_true->ajC
open False renaming elim->afU
open ForInStep renaming yield->aie
open Int renaming le_refl->agJ,toNat_natCast->ahk,ofNat->aht,not_lt->aiX,le_trans->ajg
open List renaming getElem?_eq_some_iff->fk,mem_of_getElem?->km,length_map->sg,length_append->afb,size_toArray->afd,getElem?_map->afh,getElem?_eq_getElem->afi,mem_singleton->afj,getElem?_append_left->afk,mem_cons_of_mem->afl,getElem?_append_right->afn,map_append->afo,mem_cons_self->afq,getElem?_of_mem->afr,lookup_cons->afs,map_cons->aft,getElem?_set_ne->afu,length_singleton->afw,forall_mem_cons->afx,mem_cons->afz,getElem?_set_self->afB,length_cons->afE,mem_append_right->afJ,length_take->afO,length_drop->afP,append_assoc->afQ,range->afR,mem_append->afZ,replicate->af0,find?_cons_of_neg->af2,all_eq_true->af4,length_set->af6,getElem?_take_of_lt->af8,exists_of_findSome?_eq_some->af9,findSome?_cons->aga,length_replicate->agc,take_of_length_le->agd,find?_cons_of_pos->age,pairwise_cons->agh,getD_eq_getElem?_getD->agj,findSome?_eq_none_iff->agk,length_nil->agm,getLast?_eq_getElem?->agn,getElem?_drop->ago,mem_range->agp,nodup_cons->ags,length->agx,mem_map->agz,length_eraseIdx_of_lt->agB,take_length->agC,mk_mem_zipIdx_iff_le_and_getElem?_sub->agE,mem_of_mem_take->agF,getElem?_replicate->agH,zip_cons_cons->agL,append_nil->agO,reverse_cons->agS,length_range->agT,pairwise_iff_getElem->agW,any_eq_true->ag1,mem_reverse->ag3,length_reverse->ag4,length_pos_iff->ag5,getElem?_take->ahg,getLast?_eq_some_getLast->ahj,dropLast_eq_take->ahn,drop_zero->aho,toArray->ahp,findSome?->ahq,getElem?_eq_none->ahr,mem_of_mem_drop->ahu,zipIdx_cons->ahv,mem_map_of_mem->ahy,of_mem_zip->ahz,drop_eq_getElem_cons->ahB,getLast?_eq_none_iff->ahC,pairwise_singleton->ahN,drop_of_length_le->ahS,eraseIdx_append_of_length_le->ahT,all_cons->ahW,any_cons->ahX,length_filter_le->ah4,eraseIdxIfInBounds_toArray->ah5,eraseIdx_eq_take_drop_succ->ah7,mem_append_left->ah8,length_dropLast->aid,all_append->aij,mem_of_getLast?->aik,mem_zipIdx->ail,eq_nil_of_length_eq_zero->aim,take_append_of_le_length->ain,filterMap_cons->aio,getElem?_range->aip,prefix_append->aiB,find?_eq_none->aiC,nodup_append->aiK,pairwise_map->aiL,getLast?_map->aiO,mem_of_find?_eq_some->aiV,mem_or_eq_of_mem_set->aiY,getElem_mem->ai6,prefix_refl->ai7,map_map->ai8,getLast_mem->ajf,length_eq_zero_iff->aji,filter_cons_of_neg->ajj,mem_filter->ajk,drop_eq_nil_of_le->ajr,take_nil->ajA
open List.Nodup renaming length_le_of_subset->aii
open List.Sublist renaming append->ajD,refl->ajJ
open Nat renaming le_refl->ae9,le_of_ble_eq_true->aff,zero_le->afC,ne_of_lt->afH,lt_of_lt_of_le->afK,sub_self->afY,le_trans->af7,lt_irrefl->agf,le_of_lt->agw,zero_add->agy,succ_le_succ->agZ,min_eq_left->ahf,sub_zero->ahJ,le_of_eq->aif,lt_succ_of_lt->aiM,lt_trichotomy->aiP,le_succ->ajp,add_assoc->ajB
open Ne renaming symm->ahK
open Option renaming map_eq_some_iff->afF,bind_some->aje,bind_eq_some_iff->ajh
open Option.some renaming inj->afy
open Or renaming inr->afS,inl->ahc
open Prod renaming fst->ag2
open PyProof.Rows renaming seqObj->af5,callWith_type1->agr,envOfC->agt,KeyOrd->agu,IntsAre->agI,get?_update_seq->agP,slot_tuple_getitem->ag6,listUpdate_at->ag8,envOfC->ahF,AllBare->ah1,seqEpoch_at->aiw,KeyKind->ajx,strKind->ajy,Call_->ajI
open PySem renaming wpAny_bind->B1,Shared->afa,sizeLine->afe,wpAny_pure->afm,Program->afA,Around->afI,sizeLine_eq->afM,starEach->afV,bootBuiltins->afW,wpAny_mono->afX,assignEach->af1,mainGlobals->af3,compareOp->agb,FuncData->agg,wpAny_holding->agi,mem_of_lookup->agl,wpAny_truthy_bool->agq,behindInMarks->agA,swapsWith->agD,wpAny_Call_Name_kw->agK,wpAny_passesOwn->agN,binaryOp->agQ,attributeBase->agR,sliceBounds->agX,sysModules->ahb,NameKind->ahh,backTo->ahl,holding->ahm,PassesOwn->ahs,assign->ahD,codeAny_mono->ahE,Keyword->ahL,rawInt->ahO,swapsWithSole->ahU,swappedStores->ahV,wpAny_newList->ahZ,wpAny_forIn_list->ah0,codeAny->ah2,wpAny_execs_nil->ah9,letOwnedTupleGo->aia,call_meets->aic,wpAny_updateSeq->aih,bindArgs->air,wpAny_tryCatch->ait,keywordEach->aiu,wpAny_letGo->aiv,Arguments->aix,IsPart->aiy,codeAmong->aiz,wpAny_standAt->aiF,plainId_quiet->aiI,wpAny_pyIter_list->aiJ,eqIsQuiet_byValue->aiN,builtinsNs->aiQ,closureFor->aiR,Slot->aiU,getItem->ai1,callerA->ai2,noFill_tuple_add->ai5,TriplesOk->ajl,seqIndex_of->ajn,subscripted->ajo
open PySem.AutoSeq1 renaming sub_tuple_tuple->ahI,wpAny_loadPart'->aja
open PySem.Builtin.Int renaming intBits->ahx
open PySem.Builtin.List renaming listTooLong->ag0
open PySem.Builtin.Slice renaming slicePlaces->agV,sliceAdjust->ahA,sliceApplied->aiG
open PySem.Builtin.Str renaming strSliceIndices->agM
open PySem.Builtin.Tuple renaming tupleCompareSizes->ah6,tupleItemsOf->aiH,tupleHashOf->aiT
open PySem.Calls renaming callWith_builtin->ahR,evalArgs_plain->aib,Name_function_global->aiE
open PySem.F renaming plainAttrs_list->ag7,plain_max_loop->ahi,args_tuple_add_2->ahG,entry_tuple_add->ahM,slot_tuple_add->ahP,slot_dict_getitem->aiW,slot_list_append->ajc,type_list_append->ajd,entry_max_loop->ajq,slot_dict_get->ajs,slot_list_pop->ajt,type_list_pop->aju
open PySem.Heap renaming get?_push_of_some->afg,lt_size->afp,get?_push_size->afv,get?_push_ne->agU,get?_update_other->ahQ,SameBut->ai3,size_update->ai9
open PySem.Heap.SameBut renaming update->agv
open PySem.NameKind renaming free->ahY,cell->ajz
open PySem.Obj renaming mapSeq->afD
open PySem.PassesOwn renaming never->ahe
open PySem.PyData renaming strOk->afT,eqv->ajw
open PySem.SeqAt renaming shaped->ajH
open PySem.SeqAt.EqAt renaming int_str->ajE,str_int->ajF,int_int->ajG
open PySem.Str renaming ofString->afL
open PySem.Txt renaming find->ajb
open PySem.Value renaming none->ag9,ref->aha,isStrOf->aiD,type->ajv
open PySem.W renaming fnOf->ahw,keepIn->ais,kia_one->aiA,cellsFrom_some->ai4
open Subtype renaming ext->ajK
open Sum renaming inl->aiZ,inr->ai0
open True renaming intro->aiS
abbrev o0:List PySem.Str:=["slate","asker","deed"]
abbrev T0:List PySem.Str:=["slate"]
abbrev W1:List PySem.Str:=["slate","fence","tenant"]
abbrev M2:List PySem.Str:=["links","doers","row"]
abbrev v4:List PySem.Str:=["links","doers","history"]
namespace rx
end rx
abbrev aW:=PySem.W.Frag
abbrev bx:=PySem.Str->Option PySem.Value
abbrev dm:=PySem.Value->PySem.Shared->Prop
abbrev cS:=List (PySem.Addr×PySem.Obj)
noncomputable section
def cc{p:Prop}:(¬p->False)->p:=Classical.byContradiction
namespace aE
open PySem PySem.Spec PyProof.Rows
abbrev Key:=Sum Int Str
def JM:Key->Value->Bool
 |.inl k,v=>Value.isInt k v|.inr x,v=>aiD x v
def BG(w:World):Key->Int
 |.inl k=>hashInt k|.inr x=>hashStr w x
def n6:∀{k:Key}{v:Value},JM k v=true->(∃i t,k=aiZ i/\v=Value.int i t)\/(∃x t,k=ai0 x/\v=Value.str x t)
 |.inl i,v,h=>by
  obtain⟨t,e⟩:=Value.isInt_shape (k:=i) (v:=v) h;exact .inl ⟨i,t,rfl,e⟩
 |.inr x,v,h=>by
  obtain⟨t,e⟩:=Value.isStrOf_shape (x:=x) (v:=v) h;exact .inr ⟨x,t,rfl,e⟩
def Uq(a b:Int):decide ((aiZ a:Key)=aiZ b)=(a==b):=by
 by_cases e:a=b
 .subst e;simp
 .have h:¬(aiZ a:Key)=aiZ b:=λq=>e (Sum.inl.inj q)
  rw[decide_eq_false h];exact(beq_eq_false_iff_ne.mpr e).symm
def Ut(a b:Str):decide ((ai0 a:Key)=ai0 b)=decide (a=b):=by
 by_cases e:a=b
 .simp
 .have h:¬(ai0 a:Key)=ai0 b:=λq=>e (Sum.inr.inj q)
  rw[decide_eq_false h,decide_eq_false e]
def Ur(a:Int)(b:Str):decide ((aiZ a:Key)=ai0 b)=false:=decide_eq_false (λq=>nomatch q)
def Us(a:Str)(b:Int):decide ((ai0 a:Key)=aiZ b)=false:=decide_eq_false (λq=>nomatch q)
def Kn(prog:afA)(w:World):KeyKind prog w Key where
 is:=JM
 hash:=BG w
 inj:=λv a b f d=>by
  rcases n6 f with⟨i,t,rfl,rfl⟩|⟨x,t,rfl,rfl⟩
  .rcases n6 d with⟨j,u,rfl,e⟩|⟨y,u,rfl,e⟩
   .injection e with ao _;rw[ao]
   .exact nomatch e
  .rcases n6 d with⟨j,u,rfl,e⟩|⟨y,u,rfl,e⟩
   .exact nomatch e
   .injection e with ao _;rw[ao]
 byValue:=λk v h=>by
  rcases n6 h with⟨i,t,rfl,rfl⟩|⟨x,t,rfl,rfl⟩<;>rfl
 pyHash:=λc h=>by
  rcases n6 c with⟨i,t,rfl,rfl⟩|⟨x,t,rfl,rfl⟩
  .exact wpAny_pyHash_int h
  .exact wpAny_pyHash_str h
 eqBool:=λg c h=>by
  rcases n6 g with⟨i,t,rfl,rfl⟩|⟨x,t,rfl,rfl⟩
  .rcases n6 c with⟨j,u,rfl,rfl⟩|⟨y,u,rfl,rfl⟩
   .rw[Uq]at h;exact wpAny_eqBool_int h
   .rw[Ur]at h;exact ajE i t y u _ _ _ _ h
  .rcases n6 c with⟨j,u,rfl,rfl⟩|⟨y,u,rfl,rfl⟩
   .rw[Us]at h;exact ajF x t j u _ _ _ _ h
   .rw[Ut]at h;exact wpAny_eqBool_str h
 «strs»:=λk x t v h=>by
  rcases n6 h with⟨i,u,rfl,e⟩|⟨y,u,rfl,e⟩
  .exact nomatch e
  .injection e with ao _
   subst ao;cases v<;>rfl
inductive V where
 |aF|aM (b:Bool)|int (i:Int)|str (x:Str)|Ae (b:Array UInt8)|AR (b:UInt64)|ref (a:Addr)|ty (n:String)
 deriving DecidableEq
def RelV:V->Value->Prop
 |.aF,u=>u=ag9|.aM b,u=>u=Value.bool b|.int i,u=>∃t,u=Value.int i t|.str x,u=>∃t,u=Value.str x t|.Ae b,u=>∃t,u=Value.bytes b t|.AR b,u=>∃t,u=Value.float b t|.ref a,u=>u=aha a|.ty n,u=>u=ajv n
abbrev Vals:List V->List Value->Prop:=Paired RelV
def Vals.length{xs:List V}{a:List Value}(r:Vals xs a):xs.length=a.length:=Paired.length r
theorem Vals.get:∀{xs:List V}{a:List Value}{i:Nat}{x:V},Vals xs a->xs[i]? = some x->∃u,a[i]? = some u/\RelV x u
 |_,_,_,_,.nil,e=>by simp at e| _,_,0,_,.cons r _,e=>by simp at e;subst e;exact⟨_,rfl,r⟩|_,_,i+1,x,.cons _ t,e=>by
  obtain⟨u,b,c⟩:=Vals.get t e;exact⟨u,by simpa using b,c⟩
theorem Vals.set(r:RelV x u):∀{xs:List V}{a:List Value}(i:Nat),Vals xs a->Vals (xs.set i x) (a.set i u)
 |_,_,_,.nil=>.nil|_,_,0,.cons _ t=>.cons r t|_,_,i+1,.cons q t=>.cons q (Vals.set r i t)
theorem Vals.append:∀{xs ys:List V}{a b:List Value},Vals xs a->Vals ys b->Vals (xs++ys) (a++b)
 |_,_,_,_,.nil,s=>s|_,_,_,_,.cons r t,s=>.cons r (Vals.append t s)
theorem Vals.take:∀{xs:List V}{a:List Value}(n:Nat),Vals xs a->Vals (xs.take n) (a.take n)
 |_,_,0,_=>.nil|_,_,_+1,.nil=>.nil|_,_,n+1,.cons r t=>.cons r (Vals.take n t)
theorem Vals.drop:∀{xs:List V}{a:List Value}(n:Nat),Vals xs a->Vals (xs.drop n) (a.drop n)
 |_,_,0,r=>r|_,_,_+1,.nil=>.nil|_,_,n+1,.cons _ t=>Vals.drop n t
def En:Option V->Option Value->Prop
 |some v,some u=>RelV v u|none,none=>True|_,_=>False
def NK{κ:Type}:List (κ×V)->List (κ×Value)->Prop:=Paired λ(p:κ×V) (q:κ×Value)=>p.1=q.1/\RelV p.2 q.2
def ei:Key->V
 |.inl i=>.int i|.inr x=>.str x
inductive fL where
 |l (xs:List V)
 |t (xs:List V)
 |rM (bE:List (Key×V))|dt (bE:List (List Key×V))
 |set (S:Int->Bool) (n:Nat)
 |ins (C iy:Addr) (fs:List (Str×V))
 |own (x:Addr)
 |wk (fs:List (Str×V))
 |met (f x:Addr)
 |vJ (lo hi:Int)
 |cz (o:Obj) (u:fL)
 |fH (ps:Array Value)
 |ext (pY:Heap->Prop)
abbrev av:=Addr->Option fL
def upd(H:av)(a:Addr)(o:fL):av:=λb=>if b=a then some o else H b
def dT:upd H a o a=some o:=by unfold upd;rw[if_pos rfl]
def da{H:av}(h:b≠a):upd H a o b=H b:=by unfold upd;rw[if_neg h]
def aaC:upd (upd H a o) a u=upd H a u:=by
 funext b;unfold upd;split<;>rfl
def Kv{H:av}(h:H a=some o)(h':H b=some u)(d:o≠u):a≠b:=by
 intro e;subst e;rw[h]at h';exact d (afy h')
def kh{H:av}(h:H a=some o)(h':H b=none):a≠b:=by
 intro e;subst e;rw[h]at h';cases h'
section
variable(P:afA)(w:World)
def hU(H:av)(h:Heap)(a:Addr):fL->Prop
 |.l xs=>xs.length<=afe/\∃(b:List Value)(n:Nat),Vals xs b/\h.get? a=some { cls:=.type "list",data:=.seq b.toArray n }|.t xs=>xs.length<=afe/\∃b:List Value,Vals xs b/\IsTup h a b.toArray|.rM d=>d.length<=afe/\(a==ahb)=false/\∃k,NK d k/\h.DictOf (Kn P w) a k|.dt d=>d.length<=afe/\(a==ahb)=false/\∃xs:List (List Key×Addr×Value),
   Paired (λ(p:List Key×V) (q:List Key×Addr×Value)=>p.1=q.1/\H q.2.1=some (.t (p.1.map ei))/\RelV p.2 q.2.2) d xs/\
   ∃o aw cV,h.get? a=some o/\o.ExactDict/\o.data=.dict aw cV/\aw.toList=xs.map (entryOfKey (tupleKind (Kn P w)))/\(xs.map (·.1)).Nodup
 |.set S n=>h.SetOf (intKind P w) a S n|.ins C e fs=>H e=some (.own a)/\fs.length<=1000/\e≠a/\h.get? a=some (W.instObj C e)/\
   ∃c,h.Ns1 e c/\(∀f,En (fs.lookup f) (c f))/\Within c (fs.map (·.1))
 |.own _=>∃o,h.get? a=some o|.wk fs=>∃c,h.Ns1 a c/\∀f,En (fs.lookup f) (c f)|.vJ lo hi=>∃t u v,h.get? a=some { cls:=.type "range",data:=.fields #[.int lo t,.int hi u,.int 1 v] }|.cz o u=>h.get? a=some o/\hU H h a u|.fH ps=>h.get? a=some { cls:=.none,data:=.fields ps }|.met f x=>h.get? a=some (W.methodObj (.ref f) (.ref x))|.ext g=>g h/\(∃o,h.get? a=some o)/\∀i j:Heap,g i->(∀o,i.get? a=some o->j.get? a=some o)->g j
def f9(H:av)(h:Heap):Prop:=∀a o,H a=some o->hU P w H h a o
end
section
variable{P:afA}{w:World}{H H':av}{h h':Heap}{a:Addr}{o:fL}
def hU.lt(x:hU P w H h a o):a<h.objs.size:=by
 cases o with
 |l xs=>obtain⟨_,_,_,_,e⟩:=x;exact afp e
 |t xs=>obtain⟨_,_,_,p⟩:=x;exact p.lt
 |rM b=>obtain⟨_,_,_,_,o,_,_,e,_⟩:=x;exact afp e
 |dt b=>obtain⟨_,_,_,_,o,_,_,e,_⟩:=x;exact afp e
 |set S n=>obtain⟨o,_,_,_,e,_⟩:=x;exact afp e
 |ins C c fs=>obtain⟨_,_,_,e,_⟩:=x;exact afp e
 |own y=>obtain⟨_,e⟩:=x;exact afp e
 |wk fs=>obtain⟨_,⟨_,_,_,e,_⟩,_⟩:=x;exact afp e
 |vJ lo hi=>obtain⟨_,_,_,e⟩:=x;exact afp e
 |cz cq u=>obtain⟨e,_⟩:=x;exact afp e
 |fH ps=>exact afp (show h.get? a=some _ from x)|met f y=>exact afp (show h.get? a=some _ from x)|ext d=>obtain⟨_,⟨_,e⟩,_⟩:=x;exact afp e
theorem Paired.Kj{α e:Type}{F G:α->e->Prop}:∀{d:List α}{c:List e},Paired F d c->(∀a b,F a b->G a b)->Paired G d c
 |_,_,.nil,_=>.nil|_,_,.cons r t,f=>.cons (f _ _ r) (Paired.Kj t f)
def hU.q8(x:hU P w H h a o)(k:∀b u,(b=a\/H b=some (.own a))->h.get? b=some u->h'.get? b=some u)
  (s:∀b,H b=some (.own a)->H' b=some (.own a)) (B:∀b xs,H b=some (.t xs)->H' b=some (.t xs)):hU P w H' h' a o:=by
 induction o with
 |l xs=>obtain⟨z,g,n,r,e⟩:=x;exact⟨z,g,n,r,k _ _ (.inl rfl) e⟩
 |t xs=>obtain⟨z,g,r,cq,e,c⟩:=x;exact⟨z,g,r,cq,k _ _ (.inl rfl) e,c⟩
 |rM A=>obtain⟨z,y,D,r,cq,aw,cV,e,c⟩:=x;exact⟨z,y,D,r,cq,aw,cV,k _ _ (.inl rfl) e,c⟩
 |dt A=>
  obtain⟨z,y,xs,r,cq,aw,cV,e,c⟩:=x;exact⟨z,y,xs,Paired.Kj r λp q z=>⟨z.1,B _ _ z.2.1,z.2.2⟩,cq,aw,cV,k _ _ (.inl rfl) e,c⟩
 |set S n=>obtain⟨cq,aw,cV,t,e,c⟩:=x;exact⟨cq,aw,cV,t,k _ _ (.inl rfl) e,c⟩
 |ins C E fs=>
  obtain⟨d,z,ne,e,i,⟨j,aw,cV,aG,c⟩,r⟩:=x;exact⟨s _ d,z,ne,k _ _ (.inl rfl) e,i,⟨j,aw,cV,k _ _ (.inr d) aG,c⟩,r⟩
 |own y=>obtain⟨cq,e⟩:=x;exact⟨cq,k _ _ (.inl rfl) e⟩
 |wk fs=>obtain⟨i,⟨j,aw,cV,e,c⟩,r⟩:=x;exact⟨i,⟨j,aw,cV,k _ _ (.inl rfl) e,c⟩,r⟩
 |vJ lo hi=>obtain⟨t,u,v,e⟩:=x;exact⟨t,u,v,k _ _ (.inl rfl) e⟩
 |cz cq u m=>obtain⟨e,q⟩:=x;exact⟨k _ _ (.inl rfl) e,m q⟩
 |fH ps=>
  have e:=x;exact k a _ (.inl rfl) e
 |met f y=>
  have e:=x;exact k a _ (.inl rfl) e
 |ext F=>obtain⟨p,⟨o,e⟩,st⟩:=x;exact⟨st _ _ p λo q=>k _ _ (.inl rfl) q,⟨o,k _ _ (.inl rfl) e⟩,st⟩
def f9.lt(x:f9 P w H h)(e:H a=some o):a<h.objs.size:=(x a o e).lt
def f9.fresh(x:f9 P w H h)(e:h.objs.size<=a):H a=none:=by
 cases q:H a with
 |none=>rfl|some u=>exact absurd (afK (x.lt q) e) (agf _)
theorem f9.kept(x:f9 P w H h)(k:∀b u,h.get? b=some u->h'.get? b=some u):f9 P w H h':=λa o e=>
 (x a o e).q8 (λb u _ q=>k b u q) (λ_ q=>q) λ_ _ q=>q
def f9.laid(x:f9 P w H h)(k:∀b u,h.get? b=some u->h'.get? b=some u)(g:h.objs.size<=a)(new:hU P w (upd H a o) h' a o):f9 P w (upd H a o) h':=λb u e=>by
 have f:=x.fresh g
 by_cases d:b=a
 .subst d;rw[dT]at e;cases e;exact new
 .rw[da d]at e
  exact(x b u e).q8 (λc v _ q=>k c v q) (λc q=>by rw[da (kh q f)];exact q) λc xs q=>by rw[da (kh q f)];exact q
end
def gS(H:av)(a:Addr)(u:fL):Prop:=H a=some u\/∃o,H a=some (.cz o u)
def gS.ok(r:gS H a u)(x:f9 P w H h):hU P w H h a u:=by
 rcases r with r|⟨o,r⟩
 .exact x a u r
 .obtain⟨_,q⟩:=x a _ r
  exact q
def tO:Option fL->Prop
 |some (.l _)=>True|some (.rM _)=>True|some (.dt _)=>True|some (.set _ _)=>True|some (.ins _ _ _)=>True|some (.ext _)=>True|_=>False
section
variable{P:afA}{w:World}{H:av}{h h':Heap}{x e:Addr}{o':fL}
def f9.write(ok:f9 P w H h)(d:tO (H x))(he:e=x\/H e=some (.own x))(k:∀b u,b≠e->h.get? b=some u->h'.get? b=some u)(n:∃u,h'.get? e=some u)
  (new:hU P w (upd H x o') h' x o'):f9 P w (upd H x o') h':=λb u q=>by
 have i:∀c y,H c=some (.own y)->c≠x:=λc y r z=>by subst z;rw[r]at d;exact d
 have l:∀c xs,H c=some (.t xs)->c≠x:=λc xs r z=>by subst z;rw[r]at d;exact d
 by_cases a:b=x
 .subst a;rw[dT]at q;cases q;exact new
 .rw[da a]at q
  by_cases g:b=e
  .have j:H b=some (.own x):=by
    rcases he with z|z
    .exact absurd (g.trans z) a
    .rw[g];exact z
   rw[q]at j;cases j;obtain⟨v,m⟩:=n;exact⟨v,by rw[g];exact m⟩
  .refine(ok b u q).q8 (λc v f r=>k c v ?_ r) (λc r=>by rw[da (i c b r)];exact r) λc xs r=>by rw[da (l c xs r)];exact r
   rcases f with rfl|f
   .exact g
   .rintro rfl
    rcases he with z|z
    .exact i c b f z
    .rw[f]at z;cases z;exact a rfl
end
structure gm(fs ex:List Addr)(H H':av)(h h':Heap):Prop where
 keep:∀b o,h.get? b=some o->H b=none->b∉fs->b∉ex->h'.get? b=some o
 slot:∀b o,h.get? b=some o->H b=none->b∈fs->b∉ex->∃cA,h'.get? b=some { o with slots:=cA }
 free:∀b o,h.get? b=some o->H b=none->b∉ex->H' b=none
 there:∀b o,h.get? b=some o->b∉ex->∃o',h'.get? b=some o'
 pP:∀b xs,H b=some (.t xs)->H' b=some (.t xs)
 nS:∀b o u,H b=some (.cz o u)->H' b=some (.cz o u)
 oA:∀b ps,H b=some (.fH ps)->∃more,H' b=some (.fH (ps++more))
section
variable{fs ex:List Addr}{H H1:av}{h ae h':Heap}{a x e:Addr}{o:fL}
def gm.any(u:gm fs ex H H1 h ae)(q:h.get? b=some cq)(n:H b=none)(d:b∉ex):∃cA,ae.get? b=some { cq with slots:=cA }:=by
 by_cases c:b∈fs
 .exact u.slot b cq q n c d
 .exact⟨cq.slots,u.keep b cq q n c d⟩
def gm.kept(k:∀b u,h.get? b=some u->h'.get? b=some u):gm fs ex H H h h':=
 ⟨λb cq q _ _ _=>k b cq q,λb cq q _ _ _=>⟨cq.slots,k b cq q⟩,λ_ _ _ n _=>n,λb cq q _=>⟨cq,k b cq q⟩,λ_ _ q=>q,λ_ _ _ q=>q,λ_ ps q=>⟨#[],by rw[q];simp⟩⟩
def gm.refl:gm fs ex H H h h:=gm.kept λ_ _ q=>q
def gm.laid(k:∀b u,h.get? b=some u->h'.get? b=some u)(d:h.objs.size<=a)(c:H a=none):gm fs ex H (upd H a o) h h' where
 keep:=λb u q _ _ _=>k b u q
 slot:=λb u q _ _ _=>⟨u.slots,k b u q⟩
 free:=λb u q n _=>by rw[da (afH (afK (afp q) d))];exact n
 there:=λb u q _=>⟨u,k b u q⟩
 pP:=λb xs q=>by rw[da (kh q c)];exact q
 nS:=λb u xs q=>by rw[da (kh q c)];exact q
 oA:=λb ps q=>⟨#[],by rw[da (kh q c),q];simp⟩
def gm.write(c:tO (H x))(he:e=x\/H e=some (.own x))(k:∀b u,b≠e->h.get? b=some u->h'.get? b=some u)(j:∃u,h'.get? e=some u):gm fs ex H (upd H x o) h h':=by
 have g:∀b,H b=none->b≠x:=λb n z=>by subst z;rw[n]at c;exact c
 have f:∀b,H b=none->b≠e:=λb n z=>by
  subst z;rcases he with r|r
  .exact g b n r
  .rw[n]at r;cases r
 have d:∀b u,H b=some u->¬tO (some u)->b≠x:=λb u q nm z=>by subst z;rw[q]at c;exact nm c
 refine⟨λb u q n _ _=>k b u (f b n) q,λb u q n _ _=>⟨u.slots,k b u (f b n) q⟩,λb u q n _=>by rw[da (g b n)];exact n,λb u q _=>?_,
  λb xs q=>by rw[da (d b _ q λz=>z)];exact q,λb u xs q=>by rw[da (d b _ q λz=>z)];exact q,λb ps q=>⟨#[],by rw[da (d b _ q λz=>z),q];simp⟩⟩
 by_cases i:b=e
 .subst i;exact j
 .exact⟨u,k b u i q⟩
end
def y2(h:Heap)(H:av):List Addr:=(afR h.objs.size).filter λa=>(H a).isSome
def n0(h:Heap)(H:av):Heap:=W.hideAll h (y2 h H)
def Tb(h:Heap)(H:av):(n0 h H).objs.size=h.objs.size:=W.hideAll_size _ _
def Be{h:Heap}{H:av}(e:h.get? b=some o)(n:H b=none):(n0 h H).get? b=some o:=
 W.hideAll_get _ e λa=>by
  have q:(H b).isSome=true:=(ajk.mp a).2;rw[n]at q;simp at q
def WU{h:Heap}{H:av}(e:(n0 h H).get? b=some o):h.get? b=some o/\H b=none:=by
 have a:h.get? b=some o:=W.of_hideAll (y2 h H) e;refine⟨a,?_⟩
 cases q:H b with
 |none=>rfl|some x=>
  have c:b∈y2 h H:=ajk.mpr ⟨agp.mpr (afp a),by simp[q]⟩;have z:(n0 h H).get? b=none:=W.hideAll_none (y2 h H) c;rw[z]at e;cases e
def N2(g h:Heap)(L:Addr):List (Addr×Obj):=(afR h.objs.size).filterMap λa=>if a=L\/(g.get? a).isSome=true then none else(h.get? a).map λo=>(a,o)
def rest(g h:Heap)(L d:Addr):List (Addr×Obj):=(N2 g h L).filter λp=>decide (p.1≠d)
structure Mod(K:aW)(mg:bx)(base:Heap):Prop where
 sm:K.In base
 glob:base.Ns af3 mg
 blt:∃cZ,base.Ns aiQ cZ/\∀x:Str,x≠"__name__"->cZ x=afW x
 nolimit:base.NoLimit
structure aR where
 prog:afA
 w:World
 K:aW
 mg:Str->Option Value
 base:Heap
 A:afI
 N:List Str
 gz:afa
 H₀:av
 env:Env
 outer:List Env
 stack:List Env
 ex:List Addr
 fn:Str->Bool
 calm:Bool
 m2:List (Addr×Obj)
 dx:Value->afa->Prop
abbrev fm(X:aR)(e:Expr)(aw:List Expr):Prop:=afV (e::aw) X.env=(false,eval e X.env)::afV aw X.env
abbrev gF(X:aR)(p:Pos)(aw:List Expr):Prop:=(ahl p (afV aw X.env)).any (·.1)=false
abbrev tW(X:aR)(p:Pos)(e:Expr):Prop:=ahl p (afV [e] X.env)=(false,eval e X.env)::ahl p (afV [] X.env)
abbrev eT(x:Str):Prop:=(x==("__debug__":Str))=false
abbrev j0(X:aR)(e:Expr):Prop:=∀x,foldedSetIterable e X.env x=pure x
def lC(l:List Env):List Addr:=l.filterMap (·.frame)
abbrev aR.fs(X:aR):List Addr:=lC X.outer
def nH(a:Scope)(x:Str):Prop:=a.names.lookup x=some .local\/a.names.lookup x=some .cell\/a.names.lookup x=some .free
def Loc(a:Scope)(x:Str):Prop:=a.names.lookup x=some .local\/a.names.lookup x=some .cell
def Look(env:Env)(h:Heap)(m:bx)(x:Str)(u:Value):Prop:=
 (env.kindOf x=some .local/\m x=some u)\/((env.kindOf x=some .cell\/env.kindOf x=some .free)/\∃c,env.cells.lookup x=some c/\h.IsCell c (some u))
structure aR.Ok(X:aR):Prop where
 mod:Mod X.K X.mg X.base
 kind:X.env.scope.kind=.function
 glob:X.env.globals=af3
 blt:X.env.builtins=aiQ
 above:X.gz.heap.objs.size<=X.env.locals
 inj:∀x y c,X.env.cells.lookup x=some c->X.env.cells.lookup y=some c->x=y
 has:∀x,(X.env.kindOf x=some .cell\/X.env.kindOf x=some .free)->∃c,X.env.cells.lookup x=some c
 uc:∀x c,X.fn x=true->X.env.cells.lookup x=some c->X.gz.heap.objs.size<=c
 hd:X.calm=true->X.A.handled=none
 frames:X.A.frames=some X.stack
 yP:X.stack=X.outer\/(X.stack=X.env::X.outer/\X.env.frame=some X.env.locals)
 w':∀b∈X.ex,b≠X.env.locals/\∀x c,X.env.cells.lookup x=some c->c≠b
 bs:∀b o,X.base.get? b=some o->X.gz.heap.get? b=some o/\X.H₀ b=none
 mC:X.base.objs.size<=X.gz.heap.objs.size
 vm:∀b o,X.base.get? b=some o->b∉X.ex
 ur:∀b∈X.ex,b∉X.fs
 kL:X.gz.heap.FunFrames X.base X.outer
 qs:∀b∈X.fs,X.H₀ b=none
structure Inv(X:aR)(ah:cS)(U:List (Option V))(H:av)(s:afa):Prop where
 ok:X.Ok
 os:s.os=X.gz.os
 bare:ah1 s.gens
 base:gm X.fs X.ex X.H₀ H X.gz.heap s.heap
 loc:∃m,s.heap.Ns X.env.locals m/\∀(i:Nat)(x:Str)(v:V),X.N[i]? = some x->U[i]? = some (some v)->nH X.env.scope x->∃u,RelV v u/\Look X.env s.heap m x u
 cell:∀x c,X.env.cells.lookup x=some c->∃v,s.heap.IsCell c v
 free:H X.env.locals=none
 lB:∀x c,X.env.cells.lookup x=some c->H c=none
 pin:∀p∈X.m2++ah,s.heap.get? p.1=some p.2/\H p.1=none/\p.1≠X.env.locals/\p.1∉X.fs/\∀v,p.2.data≠.cell v
 cf:f9 X.prog X.w H s.heap
 len:U.length=X.N.length
section
variable{X:aR}{ah:cS}{U:List (Option V)}{H H':av}{s:afa}{h':Heap}
def aR.Ok.WI(ok:X.Ok)(e:X.base.get? b=some o):b∉X.fs:=λa=>by
 have:=(ok.kL.mem a).1;rw[e]at this;cases this
def Inv.bs(J:Inv X ah U H s):∀b o,X.base.get? b=some o->s.heap.get? b=some o/\H b=none:=λb o e=>
 ⟨J.base.keep b o (J.ok.bs b o e).1 (J.ok.bs b o e).2 (J.ok.WI e) (J.ok.vm b o e),J.base.free b o (J.ok.bs b o e).1 (J.ok.bs b o e).2 (J.ok.vm b o e)⟩
def Inv.bk(J:Inv X ah U H s):∀b o,X.base.get? b=some o->s.heap.get? b=some o:=λb o e=>(J.bs b o e).1
def Inv.mod(J:Inv X ah U H s):Mod X.K X.mg X.base:=J.ok.mod
def Inv.iY(J:Inv X ah U H s):X.K.In s.heap:=J.ok.mod.sm.keeps J.bk
def Inv.fr(J:Inv X ah U H s):∃m,Fr X.base X.env.locals s.heap m:=
 let⟨m,o,_⟩:=J.loc
 ⟨m,o,J.bk,af7 J.ok.mC J.ok.above⟩
def Inv.lt(J:Inv X ah U H s):X.env.locals<s.heap.objs.size:=let⟨_,o,_⟩:=J.loc;o.lt
def Inv.k8(J:Inv X ah U H s):X.gz.heap.objs.size<=s.heap.objs.size:=af7 J.ok.above (agw J.lt)
def Inv.WK(J:Inv X ah U H s)(h:s.heap.objs.size<=a):a∉X.fs:=λc=>by
 obtain⟨_,o,b,_⟩:=J.ok.kL.mem c;exact absurd (afK (afp b) (af7 J.k8 h)) (agf _)
def Inv.qh(J:Inv X ah U H s):∀x c,X.env.cells.lookup x=some c->c≠X.env.locals:=λx c e z=>by
 obtain⟨v,o,a,hd⟩:=J.cell x c e;obtain⟨m,⟨o',aw,cV,b,d,_⟩,_⟩:=J.loc;rw[z,b]at a;cases a;rw[d]at hd;cases hd
def Inv.kL(J:Inv X ah U H s):s.heap.FunFrames X.base X.outer:=by
 have all:∀(l:List Env),(∀b∈lC l,b∈X.fs)->X.gz.heap.FunFrames X.base l->s.heap.FunFrames X.base l:=by
  intro l
  induction l with
  |nil=>intro _ _;trivial|cons env r f=>
   intro aC k;obtain⟨i,⟨L,o,d,j,h,hd⟩,g⟩:=k;have c:=aC L (by unfold lC;rw[aio,d];exact afq);obtain⟨cA,e⟩:=J.base.slot L o h (J.ok.qs L c) c λz=>J.ok.ur L z c
   exact⟨i,⟨L,_,d,j,e,hd⟩,f (λb a=>aC b (by unfold lC;rw[aio,d];exact afl _ a)) g⟩
 exact all X.outer (λ_ a=>a) J.ok.kL
def Inv.stack(J:Inv X ah U H s):s.heap.FunFrames X.base X.stack:=by
 rcases J.ok.yP with e|⟨e,hf⟩
 .rw[e];exact J.kL
 .rw[e]
  obtain⟨m,a,_⟩:=J.loc;refine .cons (by rw[J.ok.kind];decide) hf a ?_ J.kL;exact Heap.get?_none_of_le (af7 J.ok.mC J.ok.above)
def Inv.Dx(J:Inv X ah U H s):∀b∈lC X.stack,b∈X.env.locals::X.fs:=λb a=>by
 rcases J.ok.yP with e|⟨e,hf⟩
 .rw[e]at a;exact afl _ a
 .rw[e]at a
  unfold lC at a;rw[aio,hf]at a;exact a
def Inv.Mq(J:Inv X ah U H s):∀b∈lC X.stack,H b=none:=λb a=>by
 rcases afz.mp (J.Dx b a)with e|a
 .rw[e];exact J.free
 .obtain⟨_,o,c,_⟩:=J.ok.kL.mem a
  exact J.base.free b o c (J.ok.qs b a) λz=>J.ok.ur b z a
def Inv.step{g':Array GenState}{t':Nat}{d':Drawn}{ch:List Addr}(J:Inv X ah U H s)
  (j:∀b∈ch,(b∈X.ex\/X.gz.heap.objs.size<=b)/\b≠X.env.locals/\(∀x c,X.env.cells.lookup x=some c->c≠b)/\∀p∈X.m2++ah,p.1≠b)
  (keep:∀b o,b≠X.env.locals->b∉X.fs->b∉ch->s.heap.get? b=some o->H b=none->h'.get? b=some o)
  (slot:∀b o,b≠X.env.locals->b∈X.fs->b∉ch->s.heap.get? b=some o->H b=none->∃cA,h'.get? b=some { o with slots:=cA }) (free:∀b o,b∉ch->s.heap.get? b=some o->H b=none->H' b=none)
  (there:∀b o,b∉ch->s.heap.get? b=some o->∃o',h'.get? b=some o')
  (pP:∀b xs,H b=some (.t xs)->H' b=some (.t xs)) (nS:∀b o u,H b=some (.cz o u)->H' b=some (.cz o u)) (oA:∀b ps,H b=some (.fH ps)->∃more,H' b=some (.fH (ps++more)))
  (ns:∀m,s.heap.Ns X.env.locals m->h'.Ns X.env.locals m) (cf:f9 X.prog X.w H' h') (K:ah1 g') :
  Inv X ah U H' { s with heap:=h',gens:=g',drawn:=d',toks:=t' }:=by
 have B:∀b o,X.gz.heap.get? b=some o->b≠X.env.locals:=λb o e=>afH (afK (afp e) J.ok.above)
 have A:∀b o,X.gz.heap.get? b=some o->b∉X.ex->b∉ch:=λb o e a g=>by
  rcases(j b g).1 with z|z
  .exact a z
  .exact absurd (afK (afp e) z) (agf _)
 have f:∀x c,X.env.cells.lookup x=some c->∀v,s.heap.IsCell c v->h'.IsCell c v:=λx c e v G=>by
  obtain⟨o,h,hd⟩:=G;have y:=λz=>(j c z).2.2.1 x c e rfl
  by_cases E:c∈X.fs
  .obtain⟨cA,q⟩:=slot c o (J.qh x c e) E y h (J.lB x c e)
   exact⟨_,q,hd⟩
  .exact⟨o,keep c o (J.qh x c e) E y h (J.lB x c e),hd⟩
 refine⟨J.ok,J.os,K,⟨λb o e n g a=>?_,λb o e n g a=>?_,λb o e n a=>?_,λb o e a=>?_,λb xs e=>pP b xs (J.base.pP b xs e),λb o xs e=>nS b o xs (J.base.nS b o xs e),λb ps e=>?_⟩,?_,λx c e=>?_,?_,λx c e=>?_,λp D=>?_,cf,J.len⟩
 .exact keep b o (B b o e) g (A b o e a) (J.base.keep b o e n g a) (J.base.free b o e n a)
 .obtain⟨cA,ao⟩:=J.base.slot b o e n g a
  obtain⟨N,aG⟩:=slot b _ (B b o e) g (A b o e a) ao (J.base.free b o e n a);exact⟨N,aG⟩
 .obtain⟨o',ao⟩:=J.base.there b o e a
  exact free b o' (A b o e a) ao (J.base.free b o e n a)
 .obtain⟨o',ao⟩:=J.base.there b o e a
  exact there b o' (A b o e a) ao
 .obtain⟨M,ao⟩:=J.base.oA b ps e
  obtain⟨O,aG⟩:=oA b _ ao;exact⟨M++O,by rw[aG,Array.append_assoc]⟩
 .obtain⟨m,I,L⟩:=J.loc
  refine⟨m,ns m I,λi x v ao aG cI=>?_⟩;obtain⟨u,r,l⟩:=L i x v ao aG cI;refine⟨u,r,?_⟩;rcases l with l|⟨k,c,e,z⟩
  .exact .inl l
  .exact .inr ⟨k,c,e,f x c e _ z⟩
 .obtain⟨v,z⟩:=J.cell x c e
  exact⟨v,f x c e v z⟩
 .obtain⟨m,⟨o,_,_,h,_⟩,_⟩:=J.loc
  exact free _ o (λz=>(j _ z).2.1 rfl) h J.free
 .obtain⟨v,o,h,hd⟩:=J.cell x c e
  exact free c o (λz=>(j c z).2.2.1 x c e rfl) h (J.lB x c e)
 .obtain⟨e,n,ne,F,d⟩:=J.pin p D
  have y:=λz=>(j p.1 z).2.2.2 p D rfl
  exact⟨keep p.1 p.2 ne F y e n,free p.1 p.2 y e n,ne,F,d⟩
def Inv.un{t':Nat}(J:Inv X ah U H s)(u:gm X.fs [] H H' s.heap h')(cf:f9 X.prog X.w H' h'):Inv X ah U H' { s with heap:=h',toks:=t' }:=by
 obtain⟨m,⟨o,aw,cV,c,r⟩,_⟩:=id J.loc;obtain⟨cA,i⟩:=u.any c J.free (by simp);exact J.step (g':=s.gens) (d':=s.drawn) (ch:=[]) (λ_ z=>nomatch z) (λb o _ a _ e n=>u.keep b o e n a (by simp)) (λb o _ a _ e n=>u.slot b o e n a (by simp)) (λb o _ e n=>u.free b o e n (by simp)) (λb o _ e=>u.there b o e (by simp)) u.pP u.nS u.oA (λk j=>by
  obtain⟨o',g,f,d,h⟩:=j;rw[c]at d;cases d;exact⟨_,g,f,i,h⟩) cf J.bare
def Inv.call{g':Array GenState}{t':Nat}{d':Drawn}{ch:List Addr}(J:Inv X ah U H s)(u:gm (lC X.stack) ch H H' s.heap h')(cf:f9 X.prog X.w H' h')(l:ah1 g')
  (h:∀b∈ch,(b∈X.ex\/X.gz.heap.objs.size<=b)/\b≠X.env.locals/\(∀x c,X.env.cells.lookup x=some c->c≠b)/\∀p∈X.m2++ah,p.1≠b) :
  Inv X ah U H' { s with heap:=h',gens:=g',drawn:=d',toks:=t' }:=by
 obtain⟨m,⟨o,aw,cV,f,r⟩,_⟩:=id J.loc;obtain⟨cA,d⟩:=u.any f J.free λz=>(h _ z).2.1 rfl
 exact J.step (ch:=ch) h (λb o d k a e n=>u.keep b o e n (λz=>(afz.mp (J.Dx b z)).elim d k) a) (λb o _ _ a e n=>u.any e n a) (λb o a e n=>u.free b o e n a) (λb o a e=>u.there b o e a) u.pP u.nS u.oA (λy t=>by
  obtain⟨o',j,i,g,q⟩:=t;rw[f]at g;cases g;exact⟨_,j,i,d,q⟩) cf l
def Inv.turned{t':Nat}{it:Addr}(J:Inv X ah U H s)(k:∀b o,b≠it->s.heap.get? b=some o->h'.get? b=some o)(l:H it=none)(d:it≠X.env.locals)
  (h:it∈X.ex\/X.gz.heap.objs.size<=it) (i:∀x c,X.env.cells.lookup x=some c->c≠it) (t:∀p∈X.m2++ah,p.1≠it):Inv X ah U H { s with heap:=h',toks:=t' }:=by
 have f:∀b u,H b=some u->b≠it:=λb u e z=>by rw[z,l]at e;cases e
 refine J.step (ch:=[it]) (λb j=>?_) (λb o _ _ a e _=>k b o (λz=>a (by simp[z])) e) (λb o _ _ a e _=>⟨o.slots,k b o (λz=>a (by simp[z])) e⟩) (λ_ _ _ _ n=>n)
  (λb o a e=>⟨o,k b o (λz=>a (by simp[z])) e⟩) (λ_ _ e=>e) (λ_ _ _ e=>e) (λb ps e=>⟨#[],by rw[e];simp⟩) (λm w=>?_) (λb u e=>?_) J.bare
 .have e:b=it:=by simpa using j
  subst e;exact⟨h,d,i,t⟩
 .obtain⟨o,aw,cV,g,r⟩:=w
  exact⟨o,aw,cV,k _ o (ahK d) g,r⟩
 .refine(J.cf b u e).q8 (λc v a q=>k c v ?_ q) (λ_ q=>q) λ_ _ q=>q
  rcases a with z|z
  .rw[z];exact f b u e
  .exact f c _ z
def Inv.tok(J:Inv X ah U H s)(t:Nat):Inv X ah U H { s with toks:=t }:=J.un gm.refl J.cf
def Inv.kept{t':Nat}(J:Inv X ah U H s)(k:∀b u,s.heap.get? b=some u->h'.get? b=some u):Inv X ah U H { s with heap:=h',toks:=t' }:=J.un (gm.kept k) (J.cf.kept k)
def Inv.laid{t':Nat}(J:Inv X ah U H s)(k:∀b u,s.heap.get? b=some u->h'.get? b=some u)(c:s.heap.objs.size<=a)(new:hU X.prog X.w (upd H a o) h' a o) :
  Inv X ah U (upd H a o) { s with heap:=h',toks:=t' }:=J.un (gm.laid k c (J.cf.fresh c)) (J.cf.laid k c new)
def Inv.write{x e:Addr}{o:fL}{t':Nat}(J:Inv X ah U H s)(a:tO (H x))(he:e=x\/H e=some (.own x))(k:∀b u,b≠e->s.heap.get? b=some u->h'.get? b=some u)(c:∃u,h'.get? e=some u)
  (new:hU X.prog X.w (upd H x o) h' x o):Inv X ah U (upd H x o) { s with heap:=h',toks:=t' }:=J.un (gm.write a he k c) (J.cf.write a he k c new)
def Inv.weak{U':List (Option V)}(J:Inv X ah U H s)(a:U'.length=U.length)(w:∀(i:Nat) v,U'[i]? = some (some v)->U[i]? = some (some v)):Inv X ah U' H s:=
 ⟨J.ok,J.os,J.bare,J.base,let⟨m,o,C⟩:=J.loc;⟨m,o,λi x v ao aG cI=>C i x v ao (w i v aG) cI⟩,J.cell,J.free,J.lB,J.pin,J.cf,a.trans J.len⟩
def Inv.La(J:Inv X ah U H s)(h:∀p∈o,s.heap.get? p.1=some p.2/\H p.1=none/\p.1≠X.env.locals/\p.1∉X.fs/\∀v,p.2.data≠.cell v):Inv X o U H s:=
 ⟨J.ok,J.os,J.bare,J.base,J.loc,J.cell,J.free,J.lB,λp a=>(afZ.mp a).elim (λz=>J.pin p (ah8 _ z)) (h p),J.cf,J.len⟩
def Kz{N:List Str}(hN:N.Nodup){i j:Nat}{x:Str}(a:N[i]? = some x)(b:N[j]? = some x):i=j:=by
 obtain⟨c,ao⟩:=fk.mp a;obtain⟨d,aG⟩:=fk.mp b;exact(List.getElem_inj hN).mp (ao.trans aG.symm)
theorem Ms{M:Model}{A:afI}{E:dm}{i:Nat}{x:Str}{v:V}{u:Value}{Q:Unit->afa->Prop}(J:Inv X ah U H s)(hN:X.N.Nodup)(hi:X.N[i]? = some x)(l:Loc X.env.scope x)(r:RelV v u)
  (h:∀P,Inv X ah (U.set i (some v)) H P->(∃a,ai3 a s.heap P.heap/\(a=X.env.locals\/X.env.cells.lookup x=some a))->Q () P) (hf:X.fn x=true\/X.env.scope.names.lookup x=some .local:=by first|exact .inl rfl|exact .inr rfl|assumption):wpAny M A (storeName X.env x u) Q E s:=by
 obtain⟨m,I,S⟩:=id J.loc;have S0:(X.env.scope.kind==.class||(X.env.scope.kind==.module&&X.env.locals != X.env.globals))=false:=by rw[J.ok.kind];rfl
 have R:i<U.length:=by rw[J.len];exact(fk.mp hi).1
 have qh:=J.qh;have f:∀{a:Addr}{h':Heap},(∃o,s.heap.get? a=some o/\H a=none)->ai3 a s.heap h'->f9 X.prog X.w H h':=λ{a h'} au aC b cq e=>by
  obtain⟨_,_,Y⟩:=au;refine(J.cf b cq e).q8 (λc D g q=>(aC.2 c ?_).trans q) (λ_ q=>q) λ_ _ q=>q
  rintro rfl;rcases g with rfl|g
  .rw[Y]at e;cases e
  .rw[Y]at g;cases g
 rcases l with C|C
 .refine wpAny_storeName_local C I (λh' I3 aC=>?_) S0
  obtain⟨WS,_,_,lI,_⟩:=id I;refine h _ ⟨J.ok,J.os,J.bare,⟨λb o e n B l=>?_,λb o e n B l=>?_,J.base.free,λb o e l=>?_,J.base.pP,J.base.nS,J.base.oA⟩,⟨_,I3,λj y L ao aG cI=>?_⟩,λy c e=>?_,J.free,J.lB,λp G=>?_,f ⟨WS,lI,J.free⟩ aC,by simpa using J.len⟩ ⟨_,aC,.inl rfl⟩
  .exact(aC.2 b (afH (afK (afp e) J.ok.above))).trans (J.base.keep b o e n B l)
  .obtain⟨cA,ao⟩:=J.base.slot b o e n B l
   exact⟨cA,(aC.2 b (afH (afK (afp e) J.ok.above))).trans ao⟩
  .obtain⟨o',ao⟩:=J.base.there b o e l
   exact⟨o',(aC.2 b (afH (afK (afp e) J.ok.above))).trans ao⟩
  .by_cases t:j=i
   .subst t
    rw[hi]at ao;cases ao;rw[afB R]at aG;cases aG;exact⟨u,r,.inl ⟨C,by simp⟩⟩
   .rw[afu (ahK t)]at aG
    obtain⟨u',K,q⟩:=S j y L ao aG cI;refine⟨u',K,?_⟩;rcases q with⟨k,e⟩|⟨k,c,e,z⟩
    .refine .inl ⟨k,?_⟩
     have:y≠x:=λe=>t (Kz hN ao (e▸hi))
     simp[this,e]
    .exact .inr ⟨k,c,e,z.sameBut aC (qh y c e)⟩
  .obtain⟨D,z⟩:=J.cell y c e
   exact⟨D,z.sameBut aC (qh y c e)⟩
  .obtain⟨e,n,ne,O,d⟩:=J.pin p G
   exact⟨(aC.2 p.1 ne).trans e,n,ne,O,d⟩
 .have F:X.fn x=true:=by
   rcases hf with z|z
   .exact z
   .rw[z]at C;cases C
  obtain⟨c,g⟩:=J.ok.has x (.inl C);obtain⟨D,z⟩:=J.cell x c g;refine wpAny_storeName_cell J.ok.kind C g z (λh' T aC=>?_);obtain⟨ey,Z,To⟩:=id z;refine h { s with heap:=h' } ⟨J.ok,J.os,J.bare,⟨λb o e n B l=>?_,λb o e n B l=>?_,J.base.free,λb o e l=>?_,J.base.pP,J.base.nS,J.base.oA⟩,⟨m,I.sameBut aC (ahK (qh x c g)),λj y L ao aG cI=>?_⟩,λy c' e=>?_,J.free,J.lB,λp G=>?_,f ⟨ey,Z,J.lB x c g⟩ aC,by simpa using J.len⟩ ⟨c,aC,.inr g⟩
  .exact(aC.2 b (afH (afK (afp e) (J.ok.uc x c F g)))).trans (J.base.keep b o e n B l)
  .obtain⟨cA,ao⟩:=J.base.slot b o e n B l
   exact⟨cA,(aC.2 b (afH (afK (afp e) (J.ok.uc x c F g)))).trans ao⟩
  .obtain⟨o',ao⟩:=J.base.there b o e l
   exact⟨o',(aC.2 b (afH (afK (afp e) (J.ok.uc x c F g)))).trans ao⟩
  .by_cases t:j=i
   .subst t
    rw[hi]at ao;cases ao;rw[afB R]at aG;cases aG;exact⟨u,r,.inr ⟨.inl C,c,g,T⟩⟩
   .rw[afu (ahK t)]at aG
    obtain⟨u',K,q⟩:=S j y L ao aG cI;refine⟨u',K,?_⟩;rcases q with q|⟨k,c',e,nj⟩
    .exact .inl q
    .refine .inr ⟨k,c',e,nj.sameBut aC ?_⟩
     rintro rfl;exact t (Kz hN ao (J.ok.inj _ _ _ e g▸hi))
  .by_cases W:c'=c
   .subst W;exact⟨_,T⟩
   .obtain⟨hQ,fh⟩:=J.cell y c' e
    exact⟨hQ,fh.sameBut aC W⟩
  .obtain⟨e,n,ne,O,d⟩:=J.pin p G
   refine⟨(aC.2 p.1 ?_).trans e,n,ne,O,d⟩;intro q;rw[q,Z]at e;exact d D (by rw[<-(afy e)];exact To)
def Mr{M:Model}{A:afI}{E:dm}{i:Nat}{x:Str}{v:V}{u:Value}{Q:Unit->afa->Prop}(J:Inv X ah U H s)(hN:X.N.Nodup)(hi:X.N[i]? = some x)(b:Loc X.env.scope x)(r:RelV v u)
  (h:∀a,Inv X ah (U.set i (some v)) H a->Q () a) (d:X.fn x=true\/X.env.scope.names.lookup x=some .local:=by first|exact .inl rfl|exact .inr rfl|assumption):wpAny M A (storeName X.env x u) Q E s:=
 Ms J hN hi b r (λa c _=>h a c) d
theorem Inv.PE{a:afa}{ch:List Addr}(J:Inv X ah U H s)(d:a.os=s.os)(u:gm (lC X.stack) ch H H' s.heap a.heap)(cf:f9 X.prog X.w H' a.heap)(e:ah1 a.gens)
  (f:∀b∈ch,(b∈X.ex\/X.gz.heap.objs.size<=b)/\b≠X.env.locals/\(∀x c,X.env.cells.lookup x=some c->c≠b)/\∀p∈X.m2++ah,p.1≠b):Inv X ah U H' a:=by
 obtain⟨h',g',d',t',o'⟩:=a;subst d;exact J.call u cf e f
end
abbrev f_:=Value->Option Addr->av->Prop
abbrev St:=List (Option V)
abbrev cC:=V->av->Prop
abbrev TE:=St->av->cC->Prop
abbrev TT:=St->av->(Bool->av->Prop)->Prop
abbrev fC:=St->av->(List V->av->Prop)->Prop
structure Ends where
 a6:St->av->Prop
 b0:cC
 bk:St->av->Prop:=λ_ _=>False
 cM:St->av->Prop:=λ_ _=>False
abbrev gE:=Ends->St->av->Prop
def hS(X:aR)(b:cS)(U:St)(Q:cC)(u:Value)(c:afa):Prop:=∃v a,Inv X b U a c/\RelV v u/\Q v a
def zy(X:aR)(c:cS)(U:St)(Q:Bool->av->Prop)(b:Bool)(d:afa):Prop:=∃a,Inv X c U a d/\Q b a
def Nr(X:aR)(c:cS)(U:St)(Q:List V->av->Prop)(e:List Value)(d:afa):Prop:=∃b a,Inv X c U a d/\Vals b e/\Q b a
def tU(X:aR)(b:cS)(D:Ends)(f:Flow)(c:afa):Prop:=
 match f with
 |.next=>∃U' a,Inv X b U' a c/\D.a6 U' a|.brk=>∃U' a,Inv X b U' a c/\D.bk U' a|.cont=>∃U' a,Inv X b U' a c/\D.cM U' a|.ret u=>∃v U' a,Inv X b U' a c/\RelV v u/\D.b0 v a
def ck(X:aR)(e:Expr)(t:TE):Prop:=
 ∀(a:cS)(s:afa)(U:St)(H:av)(Q:cC),Inv X a U H s->t U H Q->wpAny (model X.prog X.w) X.A (eval e X.env) (hS X a U Q) X.dx s
def hW(X:aR)(e:Expr)(t:TT):Prop:=
 ∀(a:cS)(s:afa)(U:St)(H:av)(Q:Bool->av->Prop),Inv X a U H s->t U H Q->wpAny (model X.prog X.w) X.A (isTrue e X.env (eval e X.env)) (zy X a U Q) X.dx s
def lu(X:aR)(e:Expr)(t:TT):Prop:=
 ∀(a:Sem Value)(b:cS)(s:afa)(U:St)(H:av)(Q:Bool->av->Prop),Inv X b U H s->t U H Q->wpAny (model X.prog X.w) X.A (isTrue e X.env a) (zy X b U Q) X.dx s
def lu.pt(h:lu X e t):hW X e t:=h _
def gR(X:aR)(aw:List Expr)(t:fC):Prop:=
 ∀(pos:Pos)(a:cS)(s:afa)(U:St)(H:av)(Q:List V->av->Prop),Inv X a U H s->t U H Q->wpAny (model X.prog X.w) X.A (spliced (ahl pos (afV aw X.env))) (Nr X a U Q) X.dx s
def iq(X:aR)(st:Stmt)(t:gE):Prop:=
 ∀(a:cS)(s:afa)(U:St)(H:av)(D:Ends),Inv X a U H s->t D U H->wpAny (model X.prog X.w) X.A (exec st X.env) (tU X a D) X.dx s
def hV(X:aR)(st:List Stmt)(t:gE):Prop:=
 ∀(a:cS)(s:afa)(U:St)(H:av)(D:Ends),Inv X a U H s->t D U H->wpAny (model X.prog X.w) X.A (execs st X.env) (tU X a D) X.dx s
def cn{α:Type}{t:Sem α}{Q b:α->afa->Prop}{M:Model}{A:afI}{E:dm}{s:afa}(h:wpAny M A t Q E s)(c:∀a s,Q a s->b a s):wpAny M A t b E s:=afX h c λ_ _ x=>x
section
variable{X:aR}
def Z'(i:Nat):TE:=λU H Q=>∃v,U[i]? = some (some v)/\Q v H
def q9(v:V):TE:=λ_ H Q=>Q v H
def sS{pos:Pos}(hN:X.N[i]? = some x)(a:nH X.env.scope x)(hd:eT x:=by decide)(f:(x==("__classdict__":Str))=false:=by decide):ck X (.Name x pos) (Z' i):=by
 intro b s U H Q J h;obtain⟨v,e,h⟩:=h;obtain⟨m,d,g⟩:=J.loc;obtain⟨u,r,l⟩:=g i x v hN e a;have fin:hS X b U Q u s:=⟨v,H,J,r,h⟩;rcases l with⟨o,hm⟩|⟨o,c,hc,C⟩
 .exact wpAny_Name (wpAny_loadName_local J.ok.kind o d hm fin) hd
 .rcases o with o|o
  .exact wpAny_Name (wpAny_loadName_cell J.ok.kind o hc C fin) hd
  .exact wpAny_Name (wpAny_loadName_free J.ok.kind o hc C fin f) hd
def XY{i j pos}:ck X (.Constant (.int i) j pos) (q9 (.int i)):=λ_ _ _ H _ J h=>wpAny_Constant_int ⟨.int i,H,J.tok _,⟨_,rfl⟩,h⟩
def XM{b j pos}:ck X (.Constant (.bool b) j pos) (q9 (.aM b)):=λ_ _ _ H _ J h=>Constant_bool ⟨.aM b,H,J,rfl,h⟩
def X1{j pos}:ck X (.Constant .none j pos) (q9 .aF):=λ_ _ _ H _ J h=>Constant_none ⟨.aF,H,J,rfl,h⟩
def X6{x j pos}:ck X (.Constant (.str x) j pos) (q9 (.str x)):=λ_ _ _ H _ J h=>Calls.Constant_str ⟨.str x,H,J.tok _,⟨_,rfl⟩,h⟩
def d5(X:aR)(x:Str):Prop:=X.env.kindOf x=some .globalImplicit
def uY{E:dm}{a:cS}{s:afa}{U:St}{H:av}{x:Str}{u:Value}{pos:Pos}{Q:dm}(J:Inv X a U H s)(b:d5 X x)(c:X.mg x=some u)(h:Q u s)
  (hd:eT x:=by decide):wpAny (model X.prog X.w) X.A (eval (.Name x pos) X.env) Q E s:=
 aiE J.ok.kind b (Calls.loadGlobal_global (by rw[J.ok.glob];exact J.mod.glob.keeps J.bk) c h) hd
def pv{E:dm}{d:cS}{s:afa}{U:St}{H:av}{x:Str}{u:Value}{pos:Pos}{Q:dm}(J:Inv X d U H s)(f:d5 X x)(g:X.mg x=none)(a:afW x=some u)(h:Q u s)
  (e:x≠"__name__":=by decide) (hd:eT x:=by decide):wpAny (model X.prog X.w) X.A (eval (.Name x pos) X.env) Q E s:=by
 obtain⟨i,b,c⟩:=J.mod.blt;exact aiE J.ok.kind f (Calls.loadGlobal_builtin (by rw[J.ok.glob];exact J.mod.glob.keeps J.bk) g (by rw[J.ok.blt];exact b.keeps J.bk) ((c x e).trans a) h) hd
def vw{v:V}{pos:Pos}(c:d5 X x)(d:X.mg x=none)(a:afW x=some u)(r:RelV v u)(b:x≠"__name__":=by decide)(hd:eT x:=by decide):ck X (.Name x pos) (q9 v):=
 λ_ _ _ H _ J h=>pv J c d a ⟨v,H,J,r,h⟩ b hd
variable{a b:Expr}{cv cO:TE}{pos:Pos}
def NM(X:aR)(op:CmpOp)(a b:Expr)(t:TE):Prop:=
 ∀(c:cS)(s:afa)(U:St)(H:av)(Q:cC),Inv X c U H s->t U H Q->
  wpAny (model X.prog X.w) X.A (eval a X.env) (λv d=>wpAny (model X.prog X.w) X.A (eval b X.env) (λu e=>wpAny (model X.prog X.w) X.A (agb op v u) (hS X c U Q) X.dx e) X.dx d) X.dx s
def WH(b:Expr)(h:op≠.In)(c:op≠.NotIn):agA op b=false:=by
 have ao:(op==CmpOp.In)=false:=by cases op<;>first|rfl|exact absurd rfl h
 have aG:(op==CmpOp.NotIn)=false:=by cases op<;>first|rfl|exact absurd rfl c
 cases b<;>simp[agA,ao,aG]
def Mw(t:TE):TT:=λU H Q=>t U H λx d=>∃c,x=.aM c/\Q c d
def aeT(h:NM X op a b t)(e:agA op b=false:=by first|exact WH _ (by decide) (by decide)|rfl):hW X (.Compare a [op] [b] pos) (Mw t):=by
 intro i s U H Q J hw;refine wpAny_isTrue_Compare1 (cn (h i s U H _ J hw) λv l e=>cn e λu m g=>cn g λc s3 ⟨x,f,j,k,bJ⟩=>?_) e;obtain⟨d,rfl,q⟩:=bJ;cases k;exact agq ⟨f,j,q⟩
def Yx{e:Expr}(h:ck X e t)(he:∀c,isTrue e X.env c=(do let v <-c;standAt e.pos;ahm [v] (truthy v)):=by intro _;rfl):hW X e (Mw t):=by
 intro g s U H Q J hw;refine isTrue_plain (cn (h g s U H _ J hw) λv k ⟨x,f,i,j,bJ⟩=>?_) (he _);obtain⟨d,rfl,q⟩:=bJ;cases j;exact agq ⟨f,i,q⟩
variable{k9 yT:TT}{rest:List Expr}
def ZN(t u:TT):TT:=λU H Q=>t U H λc d=>if c=true then u U d Q else Q false d
def Z1(t u:TT):TT:=λU H Q=>t U H λc d=>if c=true then Q true d else u U d Q
def ZZ(t:TT):TT:=λU H Q=>t U H λc d=>Q (!c) d
def YA(f:hW X a k9):lu X (.BoolOp .And [a] pos) k9:=by
 intro g d s U H Q J h;refine isTrue_and (cn (f d s U H Q J h) λc i e=>?_)
 cases c with
 |true=>exact isTrue_and_nil e|false=>exact e
def YC(f:hW X a k9):lu X (.BoolOp .Or [a] pos) k9:=by
 intro g d s U H Q J h;refine isTrue_or (cn (f d s U H Q J h) λc i e=>?_)
 cases c with
 |false=>exact isTrue_or_nil e|true=>exact e
def Yz(j:hW X a k9)(i:lu X (.BoolOp .And (b::rest) pos) yT):lu X (.BoolOp .And (a::b::rest) pos) (ZN k9 yT):=by
 intro k e s U H Q J h;refine isTrue_and (cn (j e s U H _ J h) λc l g=>?_);obtain⟨d,f,bJ⟩:=g
 cases c with
 |true=>exact i k e l U d Q f bJ|false=>exact⟨d,f,bJ⟩
def YB(j:hW X a k9)(i:lu X (.BoolOp .Or (b::rest) pos) yT):lu X (.BoolOp .Or (a::b::rest) pos) (Z1 k9 yT):=by
 intro k e s U H Q J h;refine isTrue_or (cn (j e s U H _ J h) λc l g=>?_);obtain⟨d,f,bJ⟩:=g
 cases c with
 |true=>exact⟨d,f,bJ⟩|false=>exact i k e l U d Q f bJ
def Yw(f:hW X a k9):hW X (.UnaryOp .Not a pos) (ZZ k9):=by
 intro e s U H Q J h;exact isTrue_not (f e s U H (λc d=>Q (!c) d) J h)
def ZO(cv cO:TE):TE:=λU H Q=>cv U H λx d=>∃c,x=.aM c/\if c=true then cO U d Q else Q (.aM false) d
def Z2(cv cO:TE):TE:=λU H Q=>cv U H λx d=>∃c,x=.aM c/\if c=true then Q (.aM true) d else cO U d Q
def Z0(cv:TE):TE:=λU H Q=>cv U H λx d=>∃c,x=.aM c/\Q (.aM (!c)) d
def K5{op}(h:ck X a t):ck X (.BoolOp op [a] pos) t:=λc s U H Q J hw=>BoolOp_one (h c s U H Q J hw)
def K2(j:ck X a cv)(i:ck X (.BoolOp .And (b::rest) pos) cO):ck X (.BoolOp .And (a::b::rest) pos) (ZO cv cO):=by
 intro e s U H Q J h;refine BoolOp_and (cn (j e s U H _ J h) λv l g=>?_);obtain⟨x,d,f,k,bJ⟩:=g;obtain⟨c,rfl,bJ⟩:=bJ;cases k;refine agq ?_
 cases c with
 |true=>exact i e l U d Q f bJ|false=>exact⟨.aM false,d,f,rfl,bJ⟩
def X4(j:ck X a cv)(i:ck X (.BoolOp .Or (b::rest) pos) cO):ck X (.BoolOp .Or (a::b::rest) pos) (Z2 cv cO):=by
 intro e s U H Q J h;refine BoolOp_or (cn (j e s U H _ J h) λv l g=>?_);obtain⟨x,d,f,k,bJ⟩:=g;obtain⟨c,rfl,bJ⟩:=bJ;cases k;refine agq ?_
 cases c with
 |false=>exact i e l U d Q f bJ|true=>exact⟨.aM true,d,f,rfl,bJ⟩
def X2(g:ck X a cv):ck X (.UnaryOp .Not a pos) (Z0 cv):=by
 intro f s U H Q J h;refine UnaryOp_ (cn (g f s U H _ J h) λv k e=>?_);obtain⟨x,d,i,j,bJ⟩:=e;obtain⟨c,rfl,bJ⟩:=bJ;cases j;exact not_of (agq ⟨.aM (!c),d,i,rfl,bJ⟩)
def ZU(t:TT)(cv cO:TE):TE:=λU H Q=>t U H λc d=>if c=true then cv U d Q else cO U d Q
def XX(m:hW X c k9)(l:ck X a cv)(k:ck X b cO):ck X (.IfExp c a b pos) (ZU k9 cv cO):=by
 intro e s U H Q J h;refine wpAny_IfExp (cn (m e s U H _ J h) λd i j=>?_);obtain⟨f,g,bJ⟩:=j
 cases d with
 |true=>exact l e i U f Q g bJ|false=>exact k e i U f Q g bJ
end
def cL(K:aW)(H:av)(a:Addr)(xs:List V):Prop:=
 gS H a (.l xs)\/
  ∃(o:Obj)(b:Array Value)(n:Nat),K.lookup a=some o/\o.cls=.type "list"/\o.dict=none/\o.data=.seq b n/\b.size<=afe/\Vals xs b.toList
def dr(K:aW)(H:av)(a:Addr)(xs:List V):Prop:=
 gS H a (.t xs)\/
  ∃(o:Obj)(b:Array Value)(n:Nat),K.lookup a=some o/\o.cls=.type "tuple"/\o.data=.seq b n/\b.size<=afe/\Vals xs b.toList
def NS:Value->Option V
 |.none=>some .aF|.bool b=>some (.aM b)|.int i _=>some (.int i)|.str x _=>some (.str x)|.bytes b _=>some (.Ae b)|.float b _=>some (.AR b)|.ref a=>some (.ref a)|.type n=>some (.ty n)|_=>none
def RelV.abs(r:RelV x u):NS u=some x:=by
 cases x with
 |aF=>cases r;rfl
 |aM _=>cases r;rfl
 |int _=>obtain⟨t,rfl⟩:=r;rfl
 |str _=>obtain⟨t,rfl⟩:=r;rfl
 |Ae _=>obtain⟨t,rfl⟩:=r;rfl
 |AR _=>obtain⟨t,rfl⟩:=r;rfl
 |ref _=>cases r;rfl
 |ty _=>cases r;rfl
def RelV.inj(r:RelV x u)(q:RelV y u):x=y:=afy (r.abs.symm.trans q.abs)
theorem Vals.inj:∀{xs ys:List V}{a:List Value},Vals xs a->Vals ys a->xs=ys
 |_,_,_,.nil,.nil=>rfl| _,_,_,.cons r t,.cons o t'=>by rw[r.inj o,Vals.inj t t']
section
variable{X:aR}{ah:cS}{U:St}{H:av}{s:afa}{a:Addr}{xs ys:List V}
def cL.of{K:aW}(h:H a=some (.l xs)):cL K H a xs:=.inl (.inl h)
def dr.of{K:aW}(h:H a=some (.t xs)):dr K H a xs:=.inl (.inl h)
def Inv.list(J:Inv X ah U H s)(h:cL X.K H a xs):∃b:List Value,Vals xs b/\PlainL s.heap a b.toArray/\xs.length<=afe:=by
 rcases h with h|⟨o,b,n,C,hc,hd,aC,hz,r⟩
 .obtain⟨z,b,n,r,e⟩:=h.ok J.cf
  exact⟨b,r,⟨_,n,e,rfl,rfl,rfl⟩,z⟩
 .refine⟨b.toList,r,⟨o,n,J.iY a o C,hc,hd,by simpa using aC⟩,?_⟩
  have e:=r.length;simp only[afN]at e;omega
def Inv.tuple(J:Inv X ah U H s)(h:dr X.K H a xs):∃b:List Value,Vals xs b/\IsTup s.heap a b.toArray/\xs.length<=afe:=by
 rcases h with h|⟨o,b,n,C,hc,aC,hz,r⟩
 .obtain⟨z,b,r,p⟩:=h.ok J.cf
  exact⟨b,r,p,z⟩
 .refine⟨b.toList,r,⟨o,J.iY a o C,hc,n,by simpa using aC⟩,?_⟩
  have e:=r.length;simp only[afN]at e;omega
def Inv.BQ(J:Inv X ah U H s)(h:cL X.K H a xs)(h':cL X.K H a ys):xs=ys:=by
 obtain⟨b,r,⟨o,n,e,_,_,d⟩,_⟩:=J.list h;obtain⟨its',f,⟨o',g,c,_,_,d'⟩,_⟩:=J.list h';rw[e]at c;cases c;rw[d]at d';injection d' with C _
 have:b=its':=by simpa using congrArg Array.toList C
 subst this;exact r.inj f
def Inv.aao(J:Inv X ah U H s)(h:dr X.K H a xs)(h':dr X.K H a ys):xs=ys:=by
 obtain⟨b,r,⟨o,e,_,n,d⟩,_⟩:=J.tuple h;obtain⟨its',f,⟨o',c,_,g,d'⟩,_⟩:=J.tuple h';rw[e]at c;cases c;rw[d]at d';injection d' with C _
 have:b=its':=by simpa using congrArg Array.toList C
 subst this;exact r.inj f
end
abbrev aR.wish(X:aR)(E:dm):aR:={ X with dx:=E }
abbrev aR.h_(X:aR):aR:=X.wish λ_ _=>False
def aR.Ok.wish{X:aR}(ok:X.Ok)(E:dm):(X.wish E).Ok:=
 ⟨ok.mod,ok.kind,ok.glob,ok.blt,ok.above,ok.inj,ok.has,ok.uc,ok.hd,ok.frames,ok.yP,ok.w',ok.bs,ok.mC,ok.vm,ok.ur,ok.kL,ok.qs⟩
def aR.Ok.oE{X:aR}(ok:(X.wish E).Ok):X.Ok:=
 ⟨ok.mod,ok.kind,ok.glob,ok.blt,ok.above,ok.inj,ok.has,ok.uc,ok.hd,ok.frames,ok.yP,ok.w',ok.bs,ok.mC,ok.vm,ok.ur,ok.kL,ok.qs⟩
section
variable{X:aR}{ah:cS}{U:St}{H:av}{s:afa}{E:dm}
def Inv.wish(J:Inv X ah U H s)(E:dm):Inv (X.wish E) ah U H s:=⟨J.ok.wish E,J.os,J.bare,J.base,J.loc,J.cell,J.free,J.lB,J.pin,J.cf,J.len⟩
def Inv.oE(J:Inv (X.wish E) ah U H s):Inv X ah U H s:=⟨J.ok.oE,J.os,J.bare,J.base,J.loc,J.cell,J.free,J.lB,J.pin,J.cf,J.len⟩
def tU.oE{D:Ends}(h:tU (X.wish E) ah D f s'):tU X ah D f s':=by
 cases f with
 |next=>obtain⟨U',a,J,q⟩:=h;exact⟨U',a,J.oE,q⟩
 |brk=>obtain⟨U',a,J,q⟩:=h;exact⟨U',a,J.oE,q⟩
 |cont=>obtain⟨U',a,J,q⟩:=h;exact⟨U',a,J.oE,q⟩
 |ret u=>obtain⟨v,U',a,J,r,q⟩:=h;exact⟨v,U',a,J.oE,r,q⟩
theorem ck.h_(h:ck X.h_ e t):ck X e t:=λah s U H Q J hw=>
 afX (h ah s U H Q (J.wish _) hw) (λ_ _ ⟨v,a,b,r,q⟩=>⟨v,a,b.oE,r,q⟩) λ_ _ z=>afU z
theorem hV.h_{st:List Stmt}{t:gE}(h:hV X.h_ st t):hV X st t:=λah s U H D J hw=>
 afX (h ah s U H D (J.wish _) hw) (λ_ _ q=>q.oE) λ_ _ z=>afU z
end
section
variable{X:aR}{st:Stmt}{rest:List Stmt}{t u:gE}{e:Expr}{te:TE}{pos:Pos}
def ZX:gE:=λD U H=>D.a6 U H
def Z5(t u:gE):gE:=λD U H=>t { D with a6:=u D } U H
def Li:hV X [] ZX:=λ_ _ U H _ J h=>ah9 ⟨U,H,J,h⟩
def CW(c:iq X st t)(d:hV X rest u):hV X (st::rest) (Z5 t u):=by
 intro a s U H D J h;refine wpAny_execs_cons (cn (c a s U H { D with a6:=u D } J h) λf i q=>?_)
 cases f with
 |next=>
  obtain⟨U',b,g,q⟩:=q;exact d a i U' b D g q
 |ret v=>exact q|brk=>exact q|cont=>exact q
def CY(a:iq X st t):hV X [st] t:=by
 intro b s U H D J h;refine wpAny_execs_cons (cn (a b s U H D J h) λf c q=>?_)
 cases f with
 |next=>exact ah9 q
 |ret v=>exact q|brk=>exact q|cont=>exact q
def ZR:gE:=λD U H=>D.bk U H
def Ys:iq X (.Break pos) ZR:=λ_ _ U H _ J h=>wpAny_Break ⟨U,H,J,h⟩
def Inv.quiet(J:Inv X o U H s):interactive X.env=false:=by simp[interactive,J.ok.kind]
def ZT(te:TE):gE:=λD U H=>te U H λ_ a=>D.a6 U a
def vz(he:ck X e te)(aC:agD e none pos.line X.env=pure false:=by rfl):iq X (.Expr e pos) (ZT te):=by
 intro b s U H D J h;exact wpAny_Expr_any (cn (he b s U H _ J h) λv f ⟨x,a,c,d,bJ⟩=>⟨U,a,c,bJ⟩) J.quiet aC
def Z4(te:TE):gE:=λD U H=>te U H D.b0
def CU(he:ck X e te):iq X (.Return (some e) pos) (Z4 te):=by
 intro b s U H D J h;exact wpAny_Return_some (cn (he b s U H _ J h) λv f ⟨x,a,c,d,bJ⟩=>⟨x,U,a,c,d,bJ⟩)
def ZV(c:TT)(t u:gE):gE:=λD U H=>c U H λb a=>if b=true then t D U a else u D U a
def CT(n:hW X c o)(m:hV X a t)(l:hV X b u):iq X (.If c a b pos) (ZV o t u):=by
 intro f s U H D J h;refine wpAny_If (cn (n f s U H _ J h) λd j k=>?_);obtain⟨g,i,bJ⟩:=k
 cases d with
 |true=>exact m f j U g D i bJ|false=>exact l f j U g D i bJ
end
abbrev hZ:=V->St->av->(St->av->Prop)->Prop
abbrev oW:=List V->St->av->(St->av->Prop)->Prop
def nA(X:aR)(a:Expr)(t:hZ):Prop:=
 ∀(c:cS)(s:afa)(U:St)(H:av)(v:V)(u:Value)(Q:St->av->Prop),Inv X c U H s->RelV v u->t v U H Q->
  wpAny (model X.prog X.w) X.A (ahD a X.env u) (λ_ d=>∃U' b,Inv X c U' b d/\Q U' b) X.dx s
def kF(X:aR)(f:List Expr)(t:oW):Prop:=
 ∀(b:cS)(s:afa)(U:St)(H:av)(d:List V)(c:List Value)(Q:St->av->Prop),Inv X b U H s->Vals d c->t d U H Q->
  wpAny (model X.prog X.w) X.A (assignInOrder ((af1 f X.env).map (·.2)) c) (λ_ e=>∃U' a,Inv X b U' a e/\Q U' a) X.dx s
abbrev zz:=V->V->V->av->(av->Prop)->Prop
def zr(X:aR)(t:zz):Prop:=
 ∀(b:cS)(s:afa)(U:St)(H:av)(o i v:V)(d c u:Value)(Q:av->Prop),Inv X b U H s->RelV o d->RelV i c->RelV v u->t o i v H Q->
  wpAny (model X.prog X.w) X.A (setItem d c u) (λ_ e=>∃a,Inv X b U a e/\Q a) X.dx s
section
variable{X:aR}{pos:Pos}
def mP(i:Nat):hZ:=λv U H Q=>Q (U.set i (some v)) H
def sU(hN:X.N.Nodup)(hi:X.N[i]? = some x)(a:Loc X.env.scope x)(c:X.fn x=true\/X.env.scope.names.lookup x=some .local:=by first|exact .inl rfl|exact .inr rfl|assumption):nA X (.Name x pos) (mP i):=by
 intro d s U H v u Q J r h;exact wpAny_assign_Name (Mr J hN hi a r (λe b=>⟨_,H,b,h⟩) c)
def Ig:oW:=λa U H Q=>a=[]/\Q U H
def Ic(t:hZ)(u:oW):oW:=λb U H Q=>∃v r,b=v::r/\t v U H λU' a=>u r U' a Q
def Yd:kF X [] Ig:=by
 intro a s U H c b Q J r h;obtain⟨e,h⟩:=h;subst e;exact assignInOrder_nil ⟨U,H,J,h⟩
def Ya{e:Expr}{aw:List Expr}{t:hZ}{u:oW}(d:nA X e t)(f:kF X aw u)
  (aC:(af1 (e::aw) X.env).map (·.2)=ahD e X.env::(af1 aw X.env).map (·.2):=by rfl):kF X (e::aw) (Ic t u):=by
 intro a s U H n m Q J r h;obtain⟨v,l,ao,h⟩:=h;subst ao
 cases r with
 |cons r i=>
  rw[aC];refine assignInOrder_cons (cn (d a s U H _ _ _ J r h) λ_ k c=>?_);obtain⟨j,b,g,bJ⟩:=c;exact f a k j b _ _ Q g i bJ
def Ii(K:aW)(n:Nat)(t:oW):hZ:=λv U H Q=>∃a xs,v=.ref a/\dr K H a xs/\xs.length=n/\t xs U H Q
def yA{aw:List Expr}{k:Nat}{t:oW}{n:Nat}(l:X.calm=true)(h:kF X aw t)
  (g:(af1 aw X.env).length=n:=by rfl) (q:(af1 aw X.env).findIdx? (·.1)=none:=by rfl):nA X (.Tuple aw k pos) (Ii X.K n t):=by
 intro d s U H v u Q J r hw;obtain⟨a,xs,ao,j,m,hw⟩:=hw;subst ao;cases r;obtain⟨p,c,i,hz⟩:=J.tuple j;refine assign_Tuple_tuple (J.ok.hd l) i (by simp[g,<-m,c.length]) q λh' f=>?_
 exact h d _ U H xs _ Q (J.kept (t':=s.toks) λb o e=>f b o (afH (afp e)) e) c hw
def Rv(to d:TE)(t:zz):hZ:=λv U H Q=>to U H λo a=>d U a λi b=>t o i v b λc=>Q U c
def K9{o i:Expr}{to e:TE}{t:zz}(g:ck X o to)(hi:ck X i e)(aC:zr X t)
  (k:∀v,ahD (.Subscript o i pos) X.env v=(do
   let a <-ahm [v] (eval o X.env)
   let c <-ahm [v,a] (eval i X.env)
   standAt pos
   ahm [v,a,c] (setItem a c v)
   release [v,a,c] []):=by intro _;rfl):nA X (.Subscript o i pos) (Rv to e t):=by
 intro d s U H v u Q J r h;rw[k];refine B1 (agi (cn (g d s U H _ J h) λa A b=>?_));obtain⟨x,f,m,n,bJ⟩:=b;refine B1 (agi (cn (hi d A U f _ m bJ) λc B b=>?_));obtain⟨y,j,p,l,cR⟩:=b;refine B1 (aiF (B1 (agi (cn (aC d B U j x y v a c u _ p n l r cR) λ_ s3 b=>?_))));obtain⟨q,w,z⟩:=b;exact wpAny_release ⟨U,q,w,z⟩
def ti(b:TE)(g:hZ):gE:=λD U H=>b U H λx a=>g x U a D.a6
def yE{b_ e:Expr}{b:TE}{g:hZ}(he:ck X e b)(i:nA X b_ g)(aC:ahU [b_] e pos.line X.env=pure false:=by rfl)(hw:ahV [b_] e X.env=pure none:=by rfl)
  (d:(af1 [b_] X.env).map (·.2)=[ahD b_ X.env]:=by rfl):iq X (.Assign [b_] e pos) (ti b g):=by
 intro a s U H D J h;refine wpAny_Assign_stores (cn (he a s U H _ J h) λv k ⟨x,c,f,j,bJ⟩=>?_) aC hw;rw[d];exact cn (i a k U c x v _ f j bJ) λ_ l q=>q
def CV(hN:X.N.Nodup)(hi:X.N[i]? = some x)(c:Loc X.env.scope x)(he:ck X e te)(aC:agD e (some (.Name x pos')) pos.line X.env=pure false:=by rfl)(j:X.fn x=true\/X.env.scope.names.lookup x=some .local:=by first|exact .inl rfl|exact .inr rfl|assumption) :
  iq X (.Assign [.Name x pos'] e pos) (ti te (mP i)):=by
 intro b s U H D J h;refine wpAny_Assign_Name (cn (he b s U H _ J h) λv k ⟨y,a,d,f,bJ⟩=>?_) aC;exact Mr d hN hi c f (λl g=>⟨_,a,g,bJ⟩) j
end
section
variable{X:aR}{pos:Pos}
def Mz(c:TT)(cO:gE):gE:=λD U H=>∃W:Nat->St->av->Prop,(∃m,W m U H)/\∀m U H,W m U H->
 c U H λb d=>if b=true then ∃N:St->av->Prop,(∀U' a,N U' a->∃e,e<m/\W e U' a)/\cO { D with a6:=N,cM:=N,bk:=D.a6 } U d else D.a6 U d
def Yv(t:ahs (model X.prog X.w) X.A X.env X.dx)(F:hW X c o)(z:hV X body cO):iq X (.While c body [] pos) (Mz o cO):=by
 intro i s U H D J h;obtain⟨W,⟨G,I⟩,turn⟩:=h;refine wpAny_While (codeAny_whileLoop (λn K=>∃U' q,Inv X i U' q K/\W n U' q) ?_ G ⟨U,H,J,I⟩);rintro n L ⟨e,r,B,E⟩;refine agN t (cn (F i L e r _ B (turn n e r E)) λb M y=>?_);obtain⟨u,x,cR⟩:=y
 cases b with
 |true=>
  obtain⟨N,hN,cR⟩:=cR;rw[if_pos rfl];refine agN t (cn (z i M e u _ x cR) λf s3 g=>?_)
  cases f with
  |next=>
   obtain⟨d,a,k,p⟩:=g;obtain⟨j,l,m⟩:=hN d a p;exact⟨j,l,d,a,k,m⟩
  |cont=>
   obtain⟨d,a,k,p⟩:=g;obtain⟨j,l,m⟩:=hN d a p;exact⟨j,l,d,a,k,m⟩
  |brk=>exact g|ret v=>exact g
 |false=>
  rw[if_neg afc];exact ah9 ⟨e,u,x,cR⟩
end
structure hT where
 go:Nat->av->Prop
 pX:Nat->av->V->av->Prop
 stop:Nat->av->Prop
def g7(X:aR)(a:cS)(H:av)(b:Addr):Prop:=
 H b=none/\b≠X.env.locals/\b∉X.fs/\(b∈X.ex\/X.gz.heap.objs.size<=b)/\(∀x c,X.env.cells.lookup x=some c->c≠b)/\∀p∈X.m2++a,p.1≠b
def Inv.qr{H d:av}{s:afa}(J:Inv X o U H s)(a:s.heap.objs.size<=b)(g:d b=none):g7 X o d b:=by
 refine⟨g,Nat.ne_of_gt (afK J.lt a),J.WK a,.inr (af7 J.k8 a),λx c e z=>?_,λp f z=>?_⟩
 .obtain⟨v,q⟩:=J.cell x c e
  exact absurd (afK q.lt (by rw[z];exact a)) (agf _)
 .exact absurd (afK (afp (J.pin p f).1) (by rw[z];exact a)) (agf _)
structure Turn(P:afA)(w:World)(K:aW)(b_:Expr)(bY:hT)(bK:List Addr)(it:Addr)(eb:Nat->Heap->Prop):Prop where
 mem:it∈bK
 obj:∀i h,eb i h->∀b∈bK,∃o,h.get? b=some o/\∀v,o.data≠.cell v
 keep:∀i h h',eb i h->(∀b∈bK,∀o,h.get? b=some o->h'.get? b=some o)->eb i h'
 item:∀(X:aR),X.prog=P->X.w=w->X.K=K->X.calm=true->∀(i:Nat)(ah:cS)(s:afa)(U:St)(H:av)(E:dm),Inv X ah U H s->(∀b∈bK,g7 X ah H b)->eb i s.heap->bY.go i H->
  wpAny (model P w) X.A (pyNext (.ref it)) (λr s1=>∃u,r=some u/\
   wpAny (model P w) X.A (aia b_ (.ref it) u) (λ_ s2=>∃x H',Inv X ah U H' s2/\RelV x u/\bY.pX i H x H'/\eb (i+1) s2.heap/\∀b∈bK,H' b=none) E s1) E s
 done:∀(X:aR),X.prog=P->X.w=w->X.K=K->X.calm=true->∀(i:Nat)(ah:cS)(s:afa)(U:St)(H:av)(E:dm),Inv X ah U H s->(∀b∈bK,g7 X ah H b)->eb i s.heap->bY.stop i H->
  wpAny (model P w) X.A (pyNext (.ref it)) (λr s1=>r=none/\Inv X ah U H s1) E s
 self:∀(A:afI)(i:Nat)(s:afa)(Q:dm)(E:dm),eb i s.heap->Q (.ref it) s->wpAny (model P w) A (pyIter (.ref it)) Q E s
abbrev TI:=St->av->(hT->av->Prop)->Prop
def El(X:aR)(c:cS)(U:St)(b_:Expr)(R:hT->av->Prop)(g:Value)(f:afa):Prop:=
 ∃(it:Addr)(d:List Addr)(eb:Nat->Heap->Prop)(e:hT)(a:av),g=.ref it/\Inv X c U a f/\Turn X.prog X.w X.K b_ e d it eb/\eb 0 f.heap/\(∀b∈d,g7 X c a b)/\R e a
def jD(X:aR)(b_ a:Expr)(d:TI):Prop:=
 ∀(b:cS)(s:afa)(U:St)(H:av)(R:hT->av->Prop),Inv X b U H s->d U H R->
  wpAny (model X.prog X.w) X.A (eval a X.env) (λv c=>wpAny (model X.prog X.w) X.A (pyIter v) (El X b U b_ R) X.dx c) X.dx s
def xl{M:Model}{A:afI}{E:dm}{s:afa}{b_:Expr}{it:Addr}{u:Value}{o:Obj}{n:String}{b:Array Value}{Q:Unit->afa->Prop}(c:s.heap.get? it=some o)(e:o.cls=.type n)(hd:o.data=.fields b)
    (d:["enumerate","zip","dict_itemiterator","dict_reverseitemiterator","odict_iterator","itertools.zip_longest","itertools.pairwise"].contains n=false) (a:Q () s):wpAny M A (aia b_ (.ref it) u) Q E s:=by
  unfold aia;cases b_<;>(cases u<;>first
        |exact afm a
        | (refine B1 (wpAny_load c ?_)
           rw[e,hd];show wpAny M A (if(["enumerate","zip","dict_itemiterator","dict_reverseitemiterator","odict_iterator","itertools.zip_longest","itertools.pairwise"].contains n&&b[0]? == some (ahO _))=true then _ else _) Q E s;rw[if_neg (by intro h;rw[d,aiq]at h;cases h)];exact afm a))
def oP(K:aW)(a:Addr):hT:=
 ⟨λi H=>∃xs x,cL K H a xs/\xs[i]? = some x,λi H x b=>b=H/\∀xs,cL K H a xs->xs[i]? = some x,λi H=>∃xs,cL K H a xs/\xs.length<=i⟩
def ru(K:aW)(a:Addr):hT:=
 ⟨λi H=>∃xs x,dr K H a xs/\xs[i]? = some x,λi H x b=>b=H/\∀xs,dr K H a xs->xs[i]? = some x,λi H=>∃xs,dr K H a xs/\xs.length<=i⟩
def mi(lo:Int)(n:Nat):hT:=⟨λi _=>i<n,λi H x a=>a=H/\x=.int (lo+i),λi _=>n<=i⟩
def aaq{P:afA}{w:World}{K:aW}{b_:Expr}(a it:Addr):Turn P w K b_ (oP K a) [it] it (λi h=>h.IsListIter it a i) where
 mem:=by simp
 obj:=λi h st b g=>by
  have e:b=it:=by simpa using g
  subst e;refine cc λf=>?_
  obtain⟨o,e,c,d⟩:=st;exact f ⟨o,e,λv z=>by rw[d]at z;cases z⟩
 keep:=λi h h' st k=>st.at λo e=>k it (by simp) o e
 item:=by
  intro X r hw F M i I s U H E J l st n;subst r hw F;refine cc λf=>?_
  obtain⟨xs,x,j,m⟩:=n;obtain⟨G,q,p,hz⟩:=J.list j;obtain⟨u,O,S⟩:=q.get m;obtain⟨t,y,T,B,A,D⟩:=l it (by simp);refine f ?_;refine wpAny_pyNext_list_item st p.isList (x:=u) (by simpa using O) λh' L V=>?_
  have N:Inv X I U H { s with heap:=h' }:=J.turned (t':=s.toks) (λb o g e=>(V.2 b g).trans e) t y B A D;refine cc λf=>?_
  obtain⟨o,e,c,d⟩:=id L;exact f ⟨u,rfl,xl (s:={ s with heap:=h' }) e c d (by decide) ⟨x,H,N,S,⟨rfl,λys Q=>by rw[J.BQ Q j];exact m⟩,L,λb g=>(l b g).1⟩⟩
 done:=by
  intro X r hw F M i I s U H E J l st n;subst r hw F;refine cc λf=>?_
  obtain⟨xs,j,m⟩:=n;obtain⟨G,q,p,hz⟩:=J.list j;obtain⟨t,y,T,B,A,D⟩:=l it (by simp);have W:=q.length;exact f (wpAny_pyNext_list_end (J.ok.hd M) st p.isList (by simp;omega) λh' R=>⟨rfl,J.turned (t':=s.toks) (λb o g e=>R b o g e) t y B A D⟩)
 self:=λ_ _ _ _ _ st h=>wpAny_pyIter_listiter st h
def aat{P:afA}{w:World}{K:aW}{b_:Expr}(a it:Addr):Turn P w K b_ (ru K a) [it] it (λi h=>h.IsTupleIter it a i) where
 mem:=by simp
 obj:=λi h st b g=>by
  have e:b=it:=by simpa using g
  subst e;refine cc λf=>?_
  obtain⟨o,e,c,d⟩:=st;exact f ⟨o,e,λv z=>by rw[d]at z;cases z⟩
 keep:=λi h h' st k=>st.at λo e=>k it (by simp) o e
 item:=by
  intro X t hw G M i I s U H E J m st q;subst t hw G;refine cc λf=>?_
  obtain⟨xs,x,l,n⟩:=q;obtain⟨j,r,p,hz⟩:=J.tuple l;obtain⟨u,O,S⟩:=r.get n;obtain⟨y,A,T,D,B,F⟩:=m it (by simp);refine f ?_;refine wpAny_pyNext_tuple_item st (show s.heap.IsTuple a j.toArray from p) (x:=u) (by simpa using O) λh' L V=>?_
  have N:Inv X I U H { s with heap:=h' }:=J.turned (t':=s.toks) (λb o g e=>(V.2 b g).trans e) y A D B F;refine cc λf=>?_
  obtain⟨o,e,c,d⟩:=id L;exact f ⟨u,rfl,xl (s:={ s with heap:=h' }) e c d (by decide) ⟨x,H,N,S,⟨rfl,λys Q=>by rw[J.aao Q l];exact n⟩,L,λb g=>(m b g).1⟩⟩
 done:=by
  intro X t hw G M i I s U H E J m st q;subst t hw G;refine cc λf=>?_
  obtain⟨xs,l,n⟩:=q;obtain⟨j,r,p,hz⟩:=J.tuple l;obtain⟨y,A,T,D,B,F⟩:=m it (by simp);have W:=r.length;exact f (wpAny_pyNext_tuple_end (J.ok.hd M) st (show s.heap.IsTuple a j.toArray from p) (by simp;omega) λh' R=>⟨rfl,J.turned (t':=s.toks) (λb o g e=>R b o g e) y A D B F⟩)
 self:=λ_ _ _ _ _ st h=>wpAny_pyIter_tupleiter st h
def aar{P:afA}{w:World}{K:aW}{b_:Expr}(it:Addr)(lo:Int)(n:Nat):Turn P w K b_ (mi lo n) [it] it (λi h=>IsRangeIter h it (lo+(i:Nat)*1) ((n:Int)-(i:Nat)) 1) where
 mem:=by simp
 obj:=λi h st b a=>by
  have e:b=it:=by simpa using a
  subst e;exact⟨_,st,λv z=>by
   cases z⟩
 keep:=λi h h' st k=>k it (by simp) _ st
 item:=by
  intro X u hw x p i q s U H E J c st d;subst u hw x;obtain⟨f,g,D,l,j,m⟩:=c it (by simp);refine(Walks.range (w:=X.w) (J.ok.hd p) it lo 1 n).item i s _ _ d st λv h' tk y r F=>?_
  obtain⟨t,rfl⟩:=y;have A:Inv X q U H { s with heap:=h',toks:=tk }:=J.turned (λb o a e=>F b o (by simpa using a) e) f g l j m;refine⟨_,rfl,xl r rfl rfl (by decide) ⟨.int (lo+i),H,A,⟨t,?_⟩,⟨rfl,rfl⟩,r,λb a=>(c b a).1⟩⟩;rw[Int.mul_one]
 done:=by
  intro X u hw x p i q s U H E J c st d;obtain⟨f,g,D,l,j,m⟩:=c it (by simp);exact wpAny_pyNext_range_end (J.ok.hd p) st (by have:n<=i:=d;omega) λh' B=>⟨rfl,J.turned (λb o a e=>B b o a e) f g l j m⟩
 self:=λ_ _ _ _ _ st h=>wpAny_pyIter_rangeiter st h
section
variable{X:aR}{b_:Expr}
def Jc(K:aW)(c:TE):TI:=λU H R=>c U H λx b=>∃a,x=.ref a/\(∃xs,cL K b a xs)/\R (oP K a) b
def TL(K:aW)(c:TE):TI:=λU H R=>c U H λx b=>∃a,x=.ref a/\(∃xs,dr K b a xs)/\R (ru K a) b
def CL(n:ck X l C):jD X b_ l (Jc X.K C):=by
 intro j s U H R J h;refine cn (n j s U H _ J h) λv d g=>?_
 obtain⟨x,f,c,k,bJ⟩:=g;obtain⟨a,e,⟨xs,m⟩,q⟩:=bJ;subst e;cases k;obtain⟨r,t,p,hz⟩:=c.list m;refine aiJ p.isList<|⟨d.heap.objs.size,[d.heap.objs.size],_,_,f,rfl,c.kept λb o e=>afg _ e,aaq a _,⟨_,afv _ rfl,rfl,rfl⟩,λb i=>?_,q⟩
 have e:b=d.heap.objs.size:=by simpa using i
 subst e;exact c.qr (ae9 _) (c.cf.fresh (ae9 _))
def K'(r:ck X l C):jD X b_ l (TL X.K C):=by
 intro k s U H R J h;refine cn (r k s U H _ J h) λv d i=>?_
 obtain⟨x,g,c,m,bJ⟩:=i;obtain⟨a,e,⟨xs,n⟩,q⟩:=bJ;subst e;cases m;obtain⟨f,t,p,hz⟩:=c.tuple n;refine wpAny_pyIter_tuple (show d.heap.IsTuple a f.toArray from p)<|⟨d.heap.objs.size,[d.heap.objs.size],_,_,g,rfl,c.kept λb o e=>afg _ e,aat a _,⟨_,afv _ rfl,rfl,rfl⟩,λb j=>?_,q⟩
 have e:b=d.heap.objs.size:=by simpa using j
 subst e;exact c.qr (ae9 _) (c.cf.fresh (ae9 _))
def LK{a:cS}{U:St}{H:av}{s:afa}{R:hT->av->Prop}{E:dm}{lo hi:Int}{t u v:Tok}{tk:Nat}(J:Inv X a U H s)(d:-(2 ^ 62)<=lo)(f:lo<2 ^ 62)(i:-(2 ^ 62)<=hi)(h:hi<2 ^ 62)
  (q:R (mi lo (hi-lo).toNat) H):wpAny (model X.prog X.w) X.A (pyIter (.ref s.heap.objs.size)) (El X a U b_ R) E { s with heap:=s.heap.push { cls:=.type "range",data:=.fields #[.int lo t,.int hi u,.int 1 v] },toks:=tk }:=by
 refine wpAny_pyIter_range (IsRange.new ..) (small_one d f i h) ?_;have c:Inv X a U H { s with heap:=s.heap.push { cls:=.type "range",data:=.fields #[.int lo t,.int hi u,.int 1 v] },toks:=tk }:=J.kept λb o e=>afg _ e
 refine⟨(s.heap.push { cls:=.type "range",data:=.fields #[.int lo t,.int hi u,.int 1 v] }).objs.size,[(s.heap.push { cls:=.type "range",data:=.fields #[.int lo t,.int hi u,.int 1 v] }).objs.size],_,_,H,rfl,
  c.kept λb o e=>afg _ e,aar _ lo (hi-lo).toNat,?_,λb g=>?_,q⟩
 .have ao:lo+((0:Nat):Int)*1=lo:=by simp
  have aG:(((hi-lo).toNat:Nat):Int)-((0:Nat):Int)=Builtin.Range.rangeSize lo hi 1:=by rw[rangeSize_one];split<;>omega
  rw[ao,aG];exact afv _ rfl
 .have e:b=(s.heap.push { cls:=.type "range",data:=.fields #[.int lo t,.int hi u,.int 1 v] }).objs.size:=by simpa using g
  subst e;exact c.qr (ae9 _) (c.cf.fresh (ae9 _))
def Bx(b:fC):TI:=λU H R=>b U H λc a=>∃j:Int,c=[.int j]/\-(2 ^ 62)<=j/\j<2 ^ 62/\R (mi 0 j.toNat) a
def By(b:fC):TI:=λU H R=>b U H λc a=>∃i j:Int,c=[.int i,.int j]/\(-(2 ^ 62)<=i/\i<2 ^ 62/\-(2 ^ 62)<=j/\j<2 ^ 62)/\R (mi i (j-i).toNat) a
def CM{p pos:Pos}(f:d5 X "range")(k:X.mg "range"=none)(c:gR X [a] o)(aC:afV [a] X.env=[(false,eval a X.env)]:=by rfl):jD X b_ (.Call (.Name "range" p) [a] [] pos) (Bx o):=by
 intro b s U H R J h;refine Call_ (pv J f k boot_range (agr (cn (c pos b s U H _ J h) λn m ⟨u,l,d,g,bJ⟩=>?_) aC rfl));obtain⟨j,e,bJ,cR,q⟩:=bJ;subst e
 cases g with
 |cons r i=>
  cases i;obtain⟨t,rfl⟩:=r;exact call_range_1 (LK d (by omega) (by omega) bJ cR (by simpa using q))
def Ye{p pos:Pos}(l:d5 X "range")(w:X.mg "range"=none)(g:gR X [a,b] o)(aC:afV [a,b] X.env=[(false,eval a X.env),(false,eval b X.env)]:=by rfl)(d:afV [b] X.env=[(false,eval b X.env)]:=by rfl) :
  jD X b_ (.Call (.Name "range" p) [a,b] [] pos) (By o):=by
 intro f s U H R J h;refine Call_ (pv J l w boot_range (agr (cn (g pos f s U H _ J h) λA z ⟨B,y,k,m,bJ⟩=>?_) (by rw[aC,d]) (by rw[d];rfl)));obtain⟨i,j,e,⟨bJ,cR,u,x⟩,q⟩:=bJ;subst e
 cases m with
 |cons r c=>
  cases c with
  |cons n c=>
   cases c;obtain⟨t,rfl⟩:=r;obtain⟨t',rfl⟩:=n;exact call_range_2 (LK k bJ cR u x q)
def q_(h:TI)(g:hZ)(cO:gE):gE:=λD U H=>h U H λb d=>∃W:Nat->Nat->St->av->Prop,(∃m,W 0 m U d)/\∀i m U H,W i m U H->
 (b.stop i H/\D.a6 U H)\/(b.go i H/\∃N:St->av->Prop,(∀U' a,N U' a->∃c,c<m/\W (i+1) c U' a)/\∀x a,b.pX i H x a->g x U a λf e=>cO { D with a6:=N,cM:=N,bk:=D.a6 } f e)
def sV(a:List Addr)(h:Heap):List (Addr×Obj):=a.filterMap λb=>(h.get? b).map λo=>(b,o)
def yh{h:Heap}(a:b∈C)(e:h.get? b=some o):(b,o)∈sV C h:=List.mem_filterMap.mpr ⟨b,a,by rw[e];rfl⟩
def WV{h:Heap}(a:p∈sV C h):p.1∈C/\h.get? p.1=some p.2:=by
 obtain⟨b,c,e⟩:=List.mem_filterMap.mp a
 cases q:h.get? b with
 |none=>rw[q]at e;cases e
 |some o=>
  rw[q]at e;have d:=afy e;subst d;exact⟨c,q⟩
def Inv.pinned{s:afa}(J:Inv X C U H s)(k:∀b∈bK,g7 X C H b)(g:∀b∈bK,∃o,s.heap.get? b=some o/\∀v,o.data≠.cell v):Inv X (C++sV bK s.heap) U H s:=
 J.La λp f=>(afZ.mp f).elim (λz=>J.pin p (afJ _ z)) λz=>by
  obtain⟨a,e⟩:=WV z;obtain⟨h,i,j,_⟩:=k p.1 a;obtain⟨o,c,d⟩:=g p.1 a;rw[e]at c;cases c;exact⟨e,h,i,j,d⟩
def Inv.vV(J:Inv X (o++pl) U H s):Inv X o U H s:=J.La λp a=>J.pin p (afJ _ (ah8 _ a))
def vA{k:Expr}{body:List Stmt}{wi:TI}{g:hZ}{cO:gE}{pos:Pos}(E:ahs (model X.prog X.w) X.A X.env X.dx)(Z:X.calm=true)(hi:jD X b_ k wi)(bD:nA X b_ g)(c:hV X body cO)
  (aC:j0 X k:=by intro _;rfl):iq X (.For b_ k body [] pos) (q_ wi g cO):=by
 intro B s U H D J h;refine wpAny_For (cn (hi B s U H _ J h) λv s1 ae=>cn ae λxF s2 af=>?_) aC;refine cc λa=>?_
 obtain⟨it,F,eb,bY,aT,e,cE,T,cF,Y,W,⟨m0,nc⟩,turn⟩:=af;subst e;have P:∀{t:av},(∀b∈F,t b=none)->∀b∈F,g7 X B t b:=λaz b c=>⟨az b c,(Y b c).2⟩
 refine a ?_;refine codeAny_forLoop_any (λn s'=>∃i U' t,Inv X B U' t s'/\eb i s'.heap/\(∀b∈F,t b=none)/\W i n U' t) ?_ m0 ⟨0,U,aT,cE,cF,λb c=>(Y b c).1,nc⟩;rintro n s3 ⟨i,G,K,V,C,S,pT⟩;refine cc λa=>?_
 rcases turn i n G K pT with⟨stop,vF⟩|⟨go,N,hN,step⟩
 .refine a ?_
  refine agN E (cn (T.done X rfl rfl rfl Z i B s3 G K X.dx V (P S) C stop) λr s4 z=>?_);obtain⟨L,tJ⟩:=z;subst L;exact ah9 ⟨G,K,tJ,vF⟩
 .refine a ?_
  refine agN E (cn (T.item X rfl rfl rfl Z i B s3 G K X.dx V (P S) C go) λr s4 z=>?_);refine cc λa=>?_
  obtain⟨u,L,b4⟩:=z;subst L;refine a ?_;refine agN E (cn b4 λ_ s5 z=>?_);refine cc λa=>?_
  obtain⟨x,oO,wy,YK,zf,R,xf⟩:=z;refine a ?_;refine agN E (cn (bD _ s5 G oO x u _ (wy.pinned (P xf) (T.obj _ _ R)) YK (step x oO zf)) λ_ s6 z=>?_);refine cc λa=>?_
  obtain⟨O,NB,tK,et⟩:=z;refine a ?_;refine agN E (cn (c _ s6 O NB _ tK et) λf Q y=>?_);have j:∀{q:St}{l:av},Inv X (B++sV F s5.heap) q l Q->N q l->∃m,m<n/\∃i U' t,Inv X B U' t Q/\eb i Q.heap/\(∀b∈F,t b=none)/\W i m U' t:=λ{q l} p I=>by
   refine cc λa=>?_
   obtain⟨c9,hm,M⟩:=hN q l I;refine a ⟨c9,hm,i+1,q,l,p.vV,T.keep _ _ _ R λb c o e=>(p.pin (b,o) (afJ _ (afJ _ (yh c e)))).1,λb c=>?_,M⟩;refine cc λa=>?_
   obtain⟨o,e,d⟩:=T.obj _ _ R b c;exact a ((p.pin (b,o) (afJ _ (afJ _ (yh c e)))).2.1)
  refine cc λa=>?_
  cases f with
  |next=>refine a ?_;obtain⟨q,l,p,I⟩:=y;exact j p I
  |cont=>refine a ?_;obtain⟨q,l,p,I⟩:=y;exact j p I
  |brk=>refine a ?_;obtain⟨q,l,p,y⟩:=y;exact⟨q,l,p.vV,y⟩
  |ret v=>refine a ?_;obtain⟨rl,q,l,p,C6,y⟩:=y;exact⟨rl,q,l,p.vV,C6,y⟩
end
abbrev fv:=V->V->av->cC->Prop
def eJ(X:aR)(f:Value->Value->Sem Value)(r:fv):Prop:=
 ∀(a:cS)(s:afa)(U:St)(H:av)(x y:V)(v u:Value)(Q:cC),Inv X a U H s->RelV x v->RelV y u->r x y H Q->
  wpAny (model X.prog X.w) X.A (f v u) (hS X a U Q) X.dx s
def zA(X:aR)(f:Value->Sem Value)(r:V->av->cC->Prop):Prop:=
 ∀(a:cS)(s:afa)(U:St)(H:av)(x:V)(v:Value)(Q:cC),Inv X a U H s->RelV x v->r x H Q->
  wpAny (model X.prog X.w) X.A (f v) (hS X a U Q) X.dx s
def jU(X:aR)(f:Value)(r:List V->av->cC->Prop):Prop:=
 ∀(a:cS)(s:afa)(U:St)(H:av)(xs:List V)(b:List Value)(Q:cC),Inv X a U H s->Vals xs b->r xs H Q->
  wpAny (model X.prog X.w) X.A (call f b) (hS X a U Q) X.dx s
def q'(r:fv)(c cO:TE):TE:=λU H Q=>c U H λx a=>cO U a λy b=>r x y b Q
def Z_(r:V->av->cC->Prop)(b:TE):TE:=λU H Q=>b U H λx a=>r x a Q
def m4(C:Int->Int->Prop)(g:Int->Int->V):fv:=λx y H Q=>∃i j,x=.int i/\y=.int j/\C i j/\Q (g i j) H
def jQ(g:Int->Int->V):fv:=λx y H Q=>∃i j,x=.int i/\y=.int j/\Q (g i j) H
def LI(g:Int->V):V->av->cC->Prop:=λx H Q=>∃i,x=.int i/\Q (g i) H
section
variable{X:aR}{a b:Expr}{cv cO:TE}{pos:Pos}
def z'(k:ck X a cv)(j:ck X b cO){d:cS}{s:afa}{U:St}{H:av}{R:V->V->av->Prop}(J:Inv X d U H s)
  (h:cv U H λx g=>cO U g λy c=>R x y c) {Q:dm}{f:Value->Value->Sem Value}
  (r:∀v u e x y c,Inv X d U c e->RelV x v->RelV y u->R x y c->wpAny (model X.prog X.w) X.A (f v u) Q X.dx e) :
  wpAny (model X.prog X.w) X.A (eval a X.env) (λv q=>wpAny (model X.prog X.w) X.A (eval b X.env) (λu t=>wpAny (model X.prog X.w) X.A (f v u) Q X.dx t) X.dx q) X.dx s:=by
 refine cn (k d s U H _ J h) λv z i=>?_
 obtain⟨x,g,m,n,bJ⟩:=i;refine cn (j d z U g _ m bJ) λu e i=>?_
 obtain⟨y,c,p,l,cR⟩:=i;exact r v u e x y c p n l cR
def X3{r:fv}(c:eJ X (agQ op) r)(i:ck X a cv)(f:ck X b cO):ck X (.BinOp a op b pos) (q' r cv cO):=by
 intro g s U H Q J h;exact wpAny_BinOp (z' i f J h λv u l x y d k e j q=>c g l U d x y v u Q k e j q)
def X8{r:V->av->cC->Prop}(e:zA X (unaryOp op) r)(f:ck X a cv):ck X (.UnaryOp op a pos) (Z_ r cv):=by
 intro c s U H Q J h;exact UnaryOp_ (cn (f c s U H _ J h) λv j ⟨x,d,g,i,bJ⟩=>e c j U d x v Q g i bJ)
def yu{f:Value->Value->Sem Value}{C:Int->Int->Prop}{g:Int->Int->Int}
  (c:∀(i j:Int)(t u:Tok)(s:afa)(Q:dm)(E:dm),C i j->Q (.int (g i j) s.toks) { s with toks:=s.toks+1 }->wpAny (model X.prog X.w) X.A (f (.int i t) (.int j u)) Q E s) :
  eJ X f (m4 C λi j=>.int (g i j)):=by
 intro l s U H x y v u Q J d e h;obtain⟨i,j,rfl,rfl,k,q⟩:=h;obtain⟨t,rfl⟩:=d;obtain⟨t',rfl⟩:=e;exact c i j t t' s _ _ k ⟨.int (g i j),H,J.tok _,⟨_,rfl⟩,q⟩
def KL{f:Value->Value->Sem Value}{g:Int->Int->Int}
  (c:∀(i j:Int)(t u:Tok)(s:afa)(Q:dm)(E:dm),Q (.int (g i j) s.toks) { s with toks:=s.toks+1 }->wpAny (model X.prog X.w) X.A (f (.int i t) (.int j u)) Q E s) :
  eJ X f (jQ λi j=>.int (g i j)):=by
 intro k s U H x y v u Q J d e h;obtain⟨i,j,rfl,rfl,q⟩:=h;obtain⟨t,rfl⟩:=d;obtain⟨t',rfl⟩:=e;exact c i j t t' s _ _ ⟨.int (g i j),H,J.tok _,⟨_,rfl⟩,q⟩
def Cz{f:Value->Value->Sem Value}{g:Int->Int->Bool}
  (c:∀(i j:Int)(t u:Tok)(s:afa)(Q:dm)(E:dm),Q (.bool (g i j)) s->wpAny (model X.prog X.w) X.A (f (.int i t) (.int j u)) Q E s) :
  eJ X f (jQ λi j=>.aM (g i j)):=by
 intro k s U H x y v u Q J d e h;obtain⟨i,j,rfl,rfl,q⟩:=h;obtain⟨t,rfl⟩:=d;obtain⟨t',rfl⟩:=e;exact c i j t t' s _ _ ⟨.aM (g i j),H,J,rfl,q⟩
def D9(i j:Int):Prop:=0<=j/\j<=1000000/\i.natAbs<2 ^ 64
def wu(i j:Int):Prop:=(-(2 ^ 64)<i/\i<2 ^ 64)\/(-(2 ^ 64)<j/\j<2 ^ 64)
def wu.ok{i j:Int}(h:wu i j):IntMulOk i j:=by
 rcases h with⟨o,C⟩|⟨o,C⟩
 .exact .of_left (intBits_le_64 o C)
 .exact .of_right (intBits_le_64 o C)
def WZ:eJ X (agQ .Add) (jQ λi j=>.int (i+j)):=KL λ_ _ _ _ _ _ _ q=>add_int q
def Xa:eJ X (agQ .Sub) (jQ λi j=>.int (i-j)):=KL λ_ _ _ _ _ _ _ q=>sub_int q
def W7:eJ X (agQ .Mod) (m4 (λ_ j=>0<j) λi j=>.int (i % j)):=yu λi j _ _ _ _ _ c q=>by
 exact mod_int' (by omega) (by rw[Int.fmod_eq_emod_of_nonneg i (by omega)];exact q)
def W':eJ X (agQ .Pow) (m4 D9 λi j=>.int (i ^ j.toNat)):=yu λ_ _ _ _ _ _ _ c q=>pow_int_small c.1 c.2.1 c.2.2 q
def aax{f:Value->Sem Value}{g:Int->Int}
  (c:∀(i:Int)(t:Tok)(s:afa)(Q:dm)(E:dm),Q (.int (g i) s.toks) { s with toks:=s.toks+1 }->wpAny (model X.prog X.w) X.A (f (.int i t)) Q E s) :
  zA X f (LI λi=>.int (g i)):=by
 intro e s U H x v Q J d h;obtain⟨i,rfl,q⟩:=h;obtain⟨t,rfl⟩:=d;exact c i t s _ _ ⟨.int (g i),H,J.tok _,⟨_,rfl⟩,q⟩
def aay:zA X (unaryOp .USub) (LI λi=>.int (-i)):=aax λ_ _ _ _ _ q=>neg_int q
end
section
variable{X:aR}{a b c:Expr}{cv cO:TE}{pos:Pos}
def HY{Q:cC}(J:Inv X o U H s)(q:Q (.aM k) H)(e:k=C):hS X o U Q (.bool C) s:=by
 subst e;exact⟨.aM k,H,J,rfl,q⟩
def KS:eJ X (agb .Lt) (jQ λi j=>.aM (decide (i<j))):=Cz λ_ _ _ _ _ _ _ q=>lt_int q
def KO:eJ X (agb .Gt) (jQ λi j=>.aM (decide (j<i))):=Cz λ_ _ _ _ _ _ _ q=>gt_int q
def KN:eJ X (agb .GtE) (jQ λi j=>.aM (decide (j<=i))):=Cz λ_ _ _ _ _ _ _ q=>ge_int q
def KR:eJ X (agb .Is) (λx y H Q=>y=.aF/\Q (.aM (decide (x=.aF))) H):=by
 intro f s U H x y v u Q J d e h;obtain⟨rfl,q⟩:=h;cases e;refine is_none_gen (HY J q ?_);cases x<;>(obtain⟨t,rfl⟩:=d;rfl)
def CB:eJ X (agb .IsNot) (λx y H Q=>y=.aF/\Q (.aM (!decide (x=.aF))) H):=by
 intro f s U H x y v u Q J d e h;obtain⟨rfl,q⟩:=h;cases e;refine isnot_none_gen (HY J q ?_);cases x<;>(obtain⟨t,rfl⟩:=d;rfl)
def iG(b:Expr)(h:op≠.In:=by decide)(d:op≠.NotIn:=by decide):agA op b=false:=by
 have ao:(op==CmpOp.In)=false:=by cases op<;>first|rfl|exact absurd rfl h
 have aG:(op==CmpOp.NotIn)=false:=by cases op<;>first|rfl|exact absurd rfl d
 cases b<;>simp[agA,ao,aG]
def XS{r:fv}(d:eJ X (agb op) r)(j:ck X a cv)(g:ck X b cO)(m:agA op b=false):ck X (.Compare a [op] [b] pos) (q' r cv cO):=by
 intro i s U H Q J h;exact wpAny_Compare1 (z' j g J h λv u n x y e l f k q=>d i n U e x y v u Q l f k q) m
def yY(t:TE):TT:=λU H Q=>t U H λx d=>∃k,x=.aM k/\Q k d
theorem Lj{r:fv}(g:eJ X (agb op) r)(l:ck X a cv)(j:ck X b cO)(B:agA op b=false):hW X (.Compare a [op] [b] pos) (yY (q' r cv cO)):=by
 intro d s U H Q J h;refine wpAny_isTrue_Compare1 (cn (l d s U H _ J h) λv E ⟨x,f,n,p,bJ⟩=>cn (j d E U f _ n bJ) λu F ⟨y,i,q,m,cR⟩=>
  cn (g d F U i x y v u _ q p m cR) λc s3 ⟨z,t,w,D,k,e,A⟩=>?_) B
 subst e;cases D;exact agq ⟨t,w,A⟩
def sq:(afe:Nat)<2 ^ 63:=by decide
def W0:eJ X (agQ .Add) (λx y H Q=>∃i j,x=.str i/\y=.str j/\i.length+j.length<=afe/\Q (.str (i++j)) H):=by
 intro f s U H x y v u Q J d e h;obtain⟨i,j,rfl,rfl,hz,q⟩:=h;obtain⟨t,rfl⟩:=d;obtain⟨t',rfl⟩:=e;exact add_str (λt' tk=>⟨.str (i++j),H,J.tok _,⟨_,rfl⟩,q⟩) hz
def vals1(r:Vals [x] us):∃u,us=[u]/\RelV x u:=by
 cases r with
 |cons e d=>cases d;exact⟨_,rfl,e⟩
def vals2(r:Vals [x,y] us):∃u d,us=[u,d]/\RelV x u/\RelV y d:=by
 cases r with
 |cons f e=>
  cases e with
  |cons g h=>cases h;exact⟨_,_,rfl,f,g⟩
def PM(e:X.calm=true):jU X (.builtin "min") (λxs H Q=>∃i j,xs=[.int i,.int j]/\Q (.int (if j<i then j else i)) H):=by
 intro f s U H xs l Q J r h;obtain⟨i,j,rfl,q⟩:=h;obtain⟨u,g,rfl,⟨t,rfl⟩,⟨t',rfl⟩⟩:=vals2 r;refine min_two_ints (J.ok.hd e) λh' tk k=>⟨_,H,J.kept k,?_,q⟩
 by_cases d:j<i
 .rw[if_pos d,if_pos d];exact⟨_,rfl⟩
 .rw[if_neg d,if_neg d];exact⟨_,rfl⟩
def PH:jU X (.type "int") (λxs H Q=>(∃i,xs=[.int i]/\Q (.int i) H)\/∃k,xs=[.aM k]/\Q (.int (if k then 1 else 0)) H):=by
 intro e s U H xs f Q J r h;rcases h with⟨i,rfl,q⟩|⟨k,rfl,q⟩
 .obtain⟨u,rfl,t,rfl⟩:=vals1 r
  exact call_int_int ⟨.int i,H,J,⟨_,rfl⟩,q⟩
 .obtain⟨u,rfl,d⟩:=vals1 r
  cases d;exact call_int_bool ⟨.int (if k then 1 else 0),H,J.tok _,⟨_,rfl⟩,q⟩
end
structure Nx(K:aW)(C:Addr):Prop where
 aeR:W.plainGet K C Str.empty=true
 hd:W.hasDictIn K C=true
 po:W.plainOver K C=true
 s_:W.findIn K (.ref C) "__setattr__"=some (some (.builtin "object.__setattr__"))
structure c6(k:Nat)(A:afI):Prop where
 hd:A.handled=none
 cU:A.depth+3*k+5<recursionLimit
 un:A.units+16*k+200<cLine
def c6.mono(r:c6 k A)(h:j<=k):c6 j A:=⟨r.hd,by have:=r.cU;omega,by have:=r.un;omega⟩
def c6.deeper{A:afI}(r:c6 (k+1) A)(env:Env):c6 k (A.deeper env):=
 ⟨r.hd,by have:=r.cU;show A.depth+1+3*k+5 < _;omega,by have:=r.un;show A.units+3+16*k+200 < _;omega⟩
def c6.in1{A:afI}(r:c6 (k+1) A):c6 k A.in1:=
 ⟨r.hd,by have:=r.cU;show A.depth+3*k+5 < _;omega,by have:=r.un;show A.units+1+16*k+200 < _;omega⟩
def c6.depth{A:afI}(r:c6 k A):A.depth<recursionLimit:=by have:=r.cU;omega
def c6.units{A:afI}(r:c6 k A):A.units+64<cLine:=by have:=r.un;omega
def c6.aaz{A:afI}(r:c6 k A):A.units<cLine:=by have:=r.un;omega
def DB:fC:=λ_ H Q=>Q [] H
def ZS(c:TE)(ky:fC):fC:=λU H Q=>c U H λx a=>ky U a λxs b=>Q (x::xs) b
section
variable{X:aR}{e:Expr}{aw:List Expr}{te:TE}{t:fC}{pos:Pos}
def yx:gR X [] DB:=λ_ _ _ _ H Q J h=>Calls.spliced_nil ⟨[],H,J,.nil,h⟩
theorem sR(g:ck X e te)(c:gR X aw t)(aC:fm X e aw:=by rfl):gR X (e::aw) (ZS te t):=by
 intro pos a s U H Q J h;rw[aC];show wpAny _ _ (spliced ((false,eval e X.env)::ahl pos (afV aw X.env))) _ _ s;refine Calls.spliced_cons (cn (g a s U H _ J h) λu m d=>?_);obtain⟨x,b,j,k,bJ⟩:=d;exact cn (c pos a m U b _ j bJ) λp n ⟨xs,f,l,i,cR⟩=>⟨x::xs,f,l,.cons k i,cR⟩
def Z9(t:fC):TE:=λU H Q=>t U H λxs a=>xs.length<=afe/\∀p,a p=none->Q (.ref p) (upd a p (.t xs))
def ZW(t:fC):TE:=λU H Q=>t U H λxs a=>xs.length<=afe/\∀p,a p=none->Q (.ref p) (upd a p (.l xs))
theorem K7{o}(h:gR X aw t):ck X (.Tuple aw o pos) (Z9 t):=by
 intro f s U H Q J g;refine wpAny_Tuple_spliced (cn (h pos f s U H _ J g) λi c ⟨xs,d,a,r,z,q⟩=>⟨by rw[<-r.length];exact z,?_⟩);refine⟨.ref c.heap.objs.size,upd d c.heap.objs.size (.t xs),a.laid (λb u e=>afg _ e) (ae9 _) ?_,rfl,q _ (a.cf.fresh (ae9 _))⟩;exact⟨z,i,r,⟨_,afv _ rfl,rfl,_,rfl⟩⟩
theorem K4(h:gR X aw t):ck X (.List aw pos) (ZW t):=by
 intro f s U H Q J g;refine wpAny_List_spliced (cn (h pos f s U H _ J g) λi c ⟨xs,d,a,r,z,q⟩=>⟨by rw[<-r.length];exact z,?_⟩);refine⟨.ref c.heap.objs.size,upd d c.heap.objs.size (.l xs),a.laid (λb u e=>afg _ e) (ae9 _) ?_,rfl,q _ (a.cf.fresh (ae9 _))⟩;exact⟨z,i,0,r,afv _ rfl⟩
end
abbrev iM:=List V->av->cC->f_->Prop
abbrev mc:=List Env->av->afa->f_->Value->afa->Prop
structure nt(P:afA)(w:World)(K:aW)(mg:bx)(base:Heap)(A:afI)(outer:List Env)(s:afa)(H:av):Prop where
 frames:A.frames=some outer
 mod:Mod K mg base
 bs:∀b o,base.get? b=some o->s.heap.get? b=some o/\H b=none
 mC:base.objs.size<=s.heap.objs.size
 kL:s.heap.FunFrames base outer
 qs:∀b∈lC outer,H b=none
 cf:f9 P w H s.heap
 bare:ah1 s.gens
def i9(outer:List Env)(P:afA)(w:World)(H:av)(s:afa)(Q:cC)(u:Value)(a:afa):Prop:=
 ∃v b,a.os=s.os/\ah1 a.gens/\gm (lC outer) [] H b s.heap a.heap/\f9 P w b a.heap/\RelV v u/\Q v b
def D_(b:mc)(outer:List Env)(P:afA)(w:World)(H:av)(s:afa)(Q:cC)(E:f_)(r:Result)(a:afa):Prop:=
 match r with
 |.ok (.ret u)=>i9 outer P w H s Q u a|.ok _=>False|.error e=>b outer H s E e a
structure f6(P:afA)(w:World)(K:aW)(mg:bx)(base:Heap)(CX:mc)(k:Nat)(f:Addr)(fd:agg)(ps:List Str)(sp:iM):Prop where
 len:∀vs H Q E,sp vs H Q E->vs.length=ps.length
 run:∀(A:afI)(outer:List Env)(s:afa)(H:av)(args:Args)(us:List Value)(vs:List V)(Q:cC)(E:f_),c6 k A->nt P w K mg base A outer s H->BindsTo s fd args (ps.zip us)->Vals vs us->sp vs H Q E->
  ah2 (model P w) A (.call (.ref f) args) (D_ CX outer P w H s Q E) s
def f6.mono{P:afA}{w:World}{K:aW}{mg:bx}{base:Heap}{a:mc}{j k:Nat}{f:Addr}{b:agg}{ps:List Str}{c:iM}(F:f6 P w K mg base a j f b ps c)(h:j<=k) :
  f6 P w K mg base a k f b ps c:=⟨F.len,λA outer s H args e g Q E d=>F.run A outer s H args e g Q E (d.mono h)⟩
def f6.imp{P:afA}{w:World}{K:aW}{mg:bx}{base:Heap}{b:mc}{k:Nat}{f:Addr}{d:agg}{ps:List Str}{e c:iM}(F:f6 P w K mg base b k f d ps e)
  (h:∀a H Q E,c a H Q E->e a H Q E):f6 P w K mg base b k f d ps c:=
 ⟨λa H Q E q=>F.len a H Q E (h _ _ _ _ q),λA outer s H args l a Q E g he j i aC=>F.run A outer s H args l a Q E g he j i (h _ _ _ _ aC)⟩
def nt.in1{P:afA}{w:World}{K:aW}{mg:bx}{base:Heap}{A:afI}{outer:List Env}{s:afa}{H:av}(e:nt P w K mg base A outer s H) :
  nt P w K mg base A.in1 outer s H:=⟨e.frames,e.mod,e.bs,e.mC,e.kL,e.qs,e.cf,e.bare⟩
section
variable{X:aR}{ah:cS}{U:St}{H:av}{s s':afa}
def Inv.AI(J:Inv X ah U H s):nt X.prog X.w X.K X.mg X.base X.A X.stack s H:=
 ⟨J.ok.frames,J.ok.mod,J.bs,af7 J.ok.mC J.k8,J.stack,J.Mq,J.cf,J.bare⟩
def Inv.after(J:Inv X ah U H s)(h:i9 X.stack X.prog X.w H s Q u s'):hS X ah U Q u s':=by
 obtain⟨v,a,os,bare,un,cf,r,q⟩:=h;obtain⟨hh,g,d,t,c⟩:=s';obtain rfl:=os;exact⟨v,a,J.call un cf bare (λb z=>absurd z (by simp)),r,q⟩
end
def Mx(c:iM)(a:List V)(E:f_)(t:fC):TE:=λU H Q=>t U H λd b=>c (d++a) b Q E
def Binds(K:aW)(b:agg)(ps:List Str)(ds:List Value):Prop:=
 ∀(s:afa)(a:List Value),K.In s.heap->(a++ds).length=ps.length->BindsTo s b ⟨a,[]⟩ (ps.zip (a++ds))
def Binds.all{K:aW}{b:agg}{ps:List Str}(h:∀a:List Value,a.length=ps.length->air b ⟨a,[]⟩=pure (ps.zip a)):Binds K b ps []:=λs a _ c=>by
 rw[agO]at c ⊢;exact .of_eq (h a c)
def Passes(b:mc)(X:aR)(E:f_):Prop:=∀(c:cS)(U:St)(H:av)(s:afa)(e:Value)(a:afa),Inv X c U H s->b X.stack H s E e a->X.dx e a
section
variable{X:aR}{CX:mc}{k:Nat}{f:Addr}{fd:agg}{ps:List Str}{sp:iM}{dvs:List V}{ds:List Value}{E:f_}{x:Str}{p pos:Pos}{e:Expr}{aw:List Expr}{t:fC}
theorem Di{d:cS}{U:St}{H:av}{s:afa}{Q:cC}{a:List Value}{c:List V}(F:f6 X.prog X.w X.K X.mg X.base CX k f fd ps sp)(i:c6 k X.A)(j:Binds X.K fd ps ds)(hd:Vals dvs ds)(l:Passes CX X E)
  (J:Inv X d U H s) (r:Vals c a) (h:sp (c++dvs) H Q E):wpAny (model X.prog X.w) X.A (call (.ref f) a) (hS X d U Q) X.dx s:=by
 have g:Vals (c++dvs) (a++ds):=r.append hd;have n:(a++ds).length=ps.length:=by rw[<-g.length];exact F.len _ _ _ _ h
 refine wpAny_call (ahE (F.run X.A X.stack s H ⟨a,[]⟩ (a++ds) (c++dvs) Q E i J.AI (j s a J.iY n) g h) λr q b=>?_)
 cases r with
 |error e=>exact l d U H s e q J b|ok m=>
  cases m with
  |ret u=>exact J.after b|next=>exact afU b
  |brk=>exact afU b|cont=>exact afU b
def XN(F:f6 X.prog X.w X.K X.mg X.base CX k f fd ps sp)(b:c6 k X.A)(l:d5 X x)(u:X.mg x=some (.ref f))(j:ais X.K (.ref f)=true)(c:Binds X.K fd ps ds)(hd:Vals dvs ds)(g:Passes CX X E)
  (i:gR X (e::aw) t) (m:eT x:=by decide) (he:fm X e aw:=by rfl) (n:gF X pos aw:=by rfl) :
  ck X (.Call (.Name x p) (e::aw) [] pos) (Mx sp dvs E t):=by
 intro d s U H Q J h;refine agK (uY J l u ?_ m);refine W.callWith_K J.ok.mod.sm j (cn (i pos d s U H _ J h) λB z ⟨D,y,a,r,q⟩=>⟨a.iY,?_⟩) he n;exact Di F b c hd g a r q
def XO(F:f6 X.prog X.w X.K X.mg X.base CX k f fd ps sp)(a:c6 k X.A)(g:d5 X x)(j:X.mg x=some (.ref f))(d:ais X.K (.ref f)=true)(b:Binds X.K fd ps ds)(hd:Vals dvs ds)(c:Passes CX X E)
  (i:eT x:=by decide):ck X (.Call (.Name x p) [] [] pos) (Mx sp dvs E DB):=by
 intro l s U H Q J h;refine agK (uY J g j ?_ i);exact W.callWith_K0 J.iY d (Di F a b hd c J .nil h)
end
structure jA(N P:List Str)(sc:Scope):Prop where
 kind:sc.kind=.function:=by rfl
 co:sc.isCoroutine=false:=by rfl
 gen:sc.isGenerator=false:=by rfl
 c2:N.Nodup:=by decide +kernel
 pre:N.take P.length=P:=by rfl
 par:∀x∈P,sc.names.lookup x=some .local\/sc.names.lookup x=some .cell:=by decide +kernel
 WJ:∀y∈sc.names,y.2≠.free:=by decide +kernel
theorem FV{kindOf:Str->Option ahh}{x:Str}:∀{binds:List (Str×Value)}{m:bx},(∀v,(x,v)∉binds)->bindL kindOf binds m x=m x
 |[],_,_=>rfl|(n,v)::r,m,h=>by
  unfold bindL;rw[FV λw hw=>h w (afl _ hw)];split
  .have:x≠n:=by rintro rfl;exact h v afq
   simp[this]
  .rfl
theorem FT{kindOf:Str->Option ahh}{x:Str}:∀{binds:List (Str×Value)}{m:bx},(∀v,(x,v)∉binds)->bindC kindOf binds m x=m x
 |[],_,_=>rfl|(n,v)::r,m,h=>by
  unfold bindC;rw[FT λw hw=>h w (afl _ hw)];split
  .rfl
  .have:x≠n:=by rintro rfl;exact h v afq
   simp[this]
theorem FU{kindOf:Str->Option ahh}{v:Value}:∀{P:List Str}{a:List Value}{i:Nat}{m:bx},P.Nodup->P[i]? = some x->a[i]? = some v->kindOf x=some .local->
  bindL kindOf (P.zip a) m x=some v
 |[],_,_,_,_,h,_,_=>by simp at h| _::_,[],_,_,_,_,h,_=>by simp at h|p::P,w::a,0,m,c2,o,C,J=>by
  simp at o C;subst o;subst C;show bindL kindOf ((p,w)::P.zip a) m p=_;unfold bindL;rw[FV λv b=>(ags.mp c2).1 (ahz b).1,if_pos J];simp
 |p::P,w::a,i+1,m,c2,o,C,J=>by
  unfold bindL;exact FU (ags.mp c2).2 o C J
theorem FR{kindOf:Str->Option ahh}{v:Value}:∀{P:List Str}{a:List Value}{i:Nat}{m:bx},P.Nodup->P[i]? = some x->a[i]? = some v->kindOf x≠some .local->
  bindC kindOf (P.zip a) m x=some v
 |[],_,_,_,_,h,_,_=>by simp at h| _::_,[],_,_,_,_,h,_=>by simp at h|p::P,w::a,0,m,c2,o,C,J=>by
  simp at o C;subst o;subst C;show bindC kindOf ((p,w)::P.zip a) m p=_;unfold bindC;rw[FT λv b=>(ags.mp c2).1 (ahz b).1,if_neg J];simp
 |p::P,w::a,i+1,m,c2,o,C,J=>by
  show bindC kindOf ((p,w)::P.zip a) m x=_;unfold bindC;exact FR (i:=i) (ags.mp c2).2 (by simpa using o) (by simpa using C) J
def start(N:List Str)(a:List V):St:=a.map some++af0 (N.length-a.length) none
def ix(b:mc)(P:afA)(w:World)(K:aW)(mg:bx)(base:Heap)(N:List Str)(qual:Str)(scope:Scope)(f:Addr)(cd:Value)(A:afI)(outer:List Env)(s:afa)(H:av)(E:f_):aR where
 prog:=P
 w:=w
 K:=K
 mg:=mg
 base:=base
 A:=A.deeper (ahF qual scope s.heap.objs.size f cd)
 N:=N
 gz:=s
 H₀:=H
 env:=ahF qual scope s.heap.objs.size f cd
 outer:=outer
 stack:=ahF qual scope s.heap.objs.size f cd::outer
 ex:=[]
 calm:=true
 fn:=λ_=>true
 m2:=[]
 dx:=λe d=>wpAny (model P w) (A.deeper (ahF qual scope s.heap.objs.size f cd)) (leaving (ahF qual scope s.heap.objs.size f cd) e) (λ_ a=>b outer H s E e a) (λc a=>b outer H s E c a) d
def Gf{a:Scope}(h:a.names.lookup x=some .cell):∃c,(cellsFrom n a.names []).lookup x=some c:=Option.isSome_iff_exists.mp (ai4 a.names n [] (.inl h))
def Jj{D:mc}{P:afA}{w:World}{K:aW}{mg:bx}{base:Heap}{N ps:List Str}{qual:Str}{scope:Scope}{f:Addr}{cd:Value}{A:afI}{outer:List Env}{s L:afa}{H:av}{E:f_}{t:List Value}{l:List V}
  (S:jA N ps scope) (hd:A.handled=none) (g:nt P w K mg base A outer s H) (T:l.length=ps.length) (r:Vals l t)
  (x:InCallC s s.heap.objs.size (bindL (ahF qual scope s.heap.objs.size f cd).kindOf (ps.zip t) λ_=>none) (cellsFrom (s.heap.objs.size+1) scope.names []) (bindC (ahF qual scope s.heap.objs.size f cd).kindOf (ps.zip t) λ_=>none) L) :
  Inv (ix D P w K mg base N qual scope f cd A outer s H E) [] (start N l) H L:=by
 have R:ps.length<=N.length:=by have:=congrArg agx S.pre;rw[afO]at this;omega
 obtain⟨n,tk,rfl,G⟩:=x.done;have B:∀b:Addr,b∉(ix D P w K mg base N qual scope f cd A outer s H E).ex:=λb z=>absurd (show b∈([]:List Addr)from z) (by simp)
 refine⟨⟨g.mod,S.kind,rfl,rfl,ae9 _,λy z c n d=>?_,λy j=>?_,λy c _ h=>?_,λ_=>hd,Around.frames_deeper g.frames,.inr ⟨rfl,rfl⟩,λb z=>absurd z (B b),g.bs,g.mC,λb _ _=>B b,λb z=>absurd z (B b),g.kL,g.qs⟩,
  rfl,g.bare,gm.kept G,⟨_,x.toInCall.ns,λi y v n d Q=>?_⟩,λy c h=>⟨_,x.cell y c h⟩,g.cf.fresh (ae9 _),λy c h=>?_,λp m=>absurd (show p∈([]:cS)from m) (by simp),g.cf.kept G,?_⟩
 .exact name_of_addr x.apart (agl n) (agl d)
 .have j:=j
  rcases j with j|j
  .exact Gf j
  .exact absurd rfl (S.WJ _ (agl j))
 .exact agw (x.above y c (agl h))
 .have hi:i<l.length:=by
   unfold start at d
   by_cases hi:i<l.length
   .exact hi
   .rw[afn (by simpa using hi)]at d
    rw[agH]at d;split at d<;>cases d
  have M:l[i]? = some v:=by
   unfold start at d;rw[afk (by simpa using hi),afh]at d
   cases e:l[i]? with
   |none=>rw[e]at d;cases d
   |some a=>rw[e]at d;cases d;rfl
  obtain⟨u,I,O⟩:=r.get M;have m:ps[i]? = some y:=by
   rw[<-S.pre,af8 (by omega)];exact n
  have F:ps.Nodup:=by rw[<-S.pre];exact S.c2.sublist (List.take_sublist _ _)
  refine⟨u,O,?_⟩;rcases S.par y (km m)with k|k
  .exact .inl ⟨k,FU F m I k⟩
  .obtain⟨c,e⟩:=Gf k
   refine .inr ⟨.inl k,c,e,?_⟩;have q:=x.cell y c e;rw[FR F m I (by show scope.names.lookup y≠_;rw[k];decide)]at q;exact q
 .exact g.cf.fresh (agw (x.above y c (agl h)))
 .unfold start
  show _=N.length;rw[afb,sg,agc];omega
def H4{j:mc}{P:afA}{w:World}{K:aW}{mg:bx}{base:Heap}{k:Nat}{f:Addr}{name qual:Str}{params:aix}{body:List Stmt}{scope:Scope}{I ei i pm g cM C:Value}{B od:Option Addr}
  {g0:Array (Option Value)}{N ps:List Str}{z:iM}(lk:K.lookup f=some ⟨C,od,.func (ahw name qual params body scope I ei i pm B g cM),g0⟩) (U:W.codeIn K g qual=true) (S:jA N ps scope)
  (len:∀a H Q E,z a H Q E->a.length=ps.length)
  (L:∀(A:afI)(outer:List Env)(s:afa)(H:av)(a:List V)(Q:cC)(E:f_),c6 k (A.deeper (ahF qual scope s.heap.objs.size f g))->z a H Q E->
   ∃t,hV (ix j P w K mg base N qual scope f g A outer s H E) body t/\t { a6:=λ_ c=>Q .aF c,b0:=Q } (start N a) H) :
  f6 P w K mg base j (k+1) f (ahw name qual params body scope I ei i pm B g cM) ps z:=by
 refine⟨len,λA outer s H args us a Q E l h R r F=>?_⟩;have D:=h.mod.sm.keeps λb o e=>(h.bs b o e).1
 have M:∀y∈ps.zip us,scope.names.lookup y.1=some .local\/(scope.names.lookup y.1=some .cell/\((cellsFrom (s.heap.objs.size+1) scope.names []).lookup y.1).isSome=true):=λO Z=>by
  obtain⟨n,v⟩:=O;rcases S.par n (ahz Z).1 with q|q
  .exact .inl q
  .exact .inr ⟨q,ai4 _ _ _ (.inl q)⟩
 refine codeAny_call_function l.depth (D _ _ lk) rfl S.co S.gen rfl (W.codeRec_of D U) (R _ _ _ _ ?_);refine wpAny_newFunctionEnv_cells S.kind M λenv he G x=>?_
 subst he;refine⟨(h.mod.nolimit.keeps λb o e=>(h.bs b o e).1).keeps x.toInCall.keep,codeAny_func ?_⟩;obtain⟨t,T,X⟩:=L A outer s H a Q E (l.deeper _) F;have J:Inv (ix j P w K mg base N qual scope f g A outer s H E) [] (start N a) H G:=Jj S l.hd h (len _ _ _ _ F) r x;refine afX (T [] G (start N a) H _ J X) (λY p aC=>?_) λe p aC=>aC
 have fin:∀{U':St}{c:av}{v:V}{u:Value},Inv (ix j P w K mg base N qual scope f g A outer s H E) [] U' c p->RelV v u->Q v c->i9 outer P w H s Q u p:=
  λ{U' c v u} d m q=>⟨v,c,d.os,d.bare,d.base,d.cf,m,q⟩
 cases Y with
 |ret u=>
  obtain⟨v,U',c,d,m,q⟩:=aC;exact fin d m q
 |next=>
  obtain⟨U',c,d,q⟩:=aC;exact fin (v:=V.aF) d rfl q
 |brk=>
  obtain⟨_,_,_,q⟩:=aC;exact afU q
 |cont=>
  obtain⟨_,_,_,q⟩:=aC;exact afU q
section
variable{X:aR}{x:Str}{p pos:Pos}{e:Expr}{aw:List Expr}{t:fC}{id T:String}{r:List V->av->cC->Prop}
def Dz(r:List V->av->cC->Prop)(t:fC):TE:=λU H Q=>t U H λb a=>r b a Q
def XP(m:jU X (.builtin id) r)(i:d5 X x)(n:X.mg x=none)(c:afW x=some (.builtin id))(d:gR X (e::aw) t)(f:x≠"__name__":=by decide)(k:eT x:=by decide)
  (he:fm X e aw:=by rfl) (l:gF X pos aw:=by rfl):ck X (.Call (.Name x p) (e::aw) [] pos) (Dz r t):=by
 intro a s U H Q J h;refine agK (pv J i n c ?_ f k);exact PyProof.Rows.callWith_builtin1 (cn (d pos a s U H _ J h) λu q ⟨w,b,g,j,bJ⟩=>m a q U b w u Q g j bJ) he l
def XQ(m:jU X (.type T) r)(i:d5 X x)(n:X.mg x=none)(c:afW x=some (.type T))(d:gR X (e::aw) t)(f:x≠"__name__":=by decide)(k:eT x:=by decide)
  (he:fm X e aw:=by rfl) (l:gF X pos aw:=by rfl):ck X (.Call (.Name x p) (e::aw) [] pos) (Dz r t):=by
 intro a s U H Q J h;refine agK (pv J i n c ?_ f k);exact agr (cn (d pos a s U H _ J h) λu q ⟨w,b,g,j,bJ⟩=>m a q U b w u Q g j bJ) he l
end
end aE
namespace cG
open PySem PyProof.Rows
def HR(A:afI)(s:afa)(a:Int)(t:Tok)(c:Int)(u:Tok):∃e,SeqAt.EqAt A s (.int a t) (.int c u) e/\(e=true↔a=c):=
 ⟨(a==c),ajG a t c u,by simp⟩
section
variable{prog:afA}{w:World}{A:afI}{E:dm}{s:afa}
def PS{t b:Addr}{c a:List Value}{Q:dm}(x:IsTup s.heap t c.toArray)(u:IsTup s.heap b a.toArray)(i:c≠[])
  (q:a=[]->Q (.ref t) s) (r:a≠[]->Q (.ref s.heap.objs.size) { s with heap:=s.heap.push { cls:=.type "tuple",data:=.seq (c++a).toArray } })
  (hsz:c.length+a.length<=afe):wpAny (model prog w) A (agQ .Add (.ref t) (.ref b)) Q E s:=by
 obtain⟨⟨cls,dd,data,cA⟩,f,k,n,hd⟩:=id x;obtain⟨⟨y,p,h,m⟩,g,l,j,d⟩:=id u;simp only at k hd l d;subst k hd l d;have e:c.toArray++a.toArray=(c++a).toArray:=by simp
 by_cases hw:a=[]
 .exact concat_meets ⟨_,f,rfl⟩ ⟨_,g,rfl⟩ ai5 seq_tuple_add ahP ahM (ahG _ _)
   (tuple_addW1 t b c.toArray a.toArray n j dd p cA m (by simpa using i) (by simp[hw])) ⟨f,g,q hw⟩
 .refine concat_meets ⟨_,f,rfl⟩ ⟨_,g,rfl⟩ ai5 seq_tuple_add ahP ahM (ahG _ _)
   (tuple_addW2 t b c.toArray a.toArray n j dd p cA m (by simpa using i) (by simpa using hw) (by rw[afd,afd];exact hsz)) ⟨f,g,?_⟩
  rw[e];exact r hw
def cj(n d:Nat):Option Int->Nat
 |none=>d|some v=>if v<0 then(v+(n:Int)).toNat else min v.toNat n
def sZ(n d:Nat):cj n d none=d:=rfl
def q3(n d k:Nat):cj n d (some (k:Int))=min k n:=by
 show(if(k:Int)<0 then((k:Int)+(n:Int)).toNat else min (k:Int).toNat n)=min k n;rw[if_neg (by omega),ahk]
def Y_(n d:Nat)(hd:d<=n)(o:Option Int):cj n d o<=n:=by
 cases o with
 |none=>exact hd|some v=>
  show(if v<0 then(v+(n:Int)).toNat else min v.toNat n)<=n
  by_cases a:v<0
  .rw[if_pos a];omega
  .rw[if_neg a];exact Nat.min_le_right _ _
def Gj(v:Int)(n d:Nat):(if v<0 then max (v+(n:Int)) 0 else min v (n:Int))=((cj n d (some v):Nat):Int):=by
 show(if v<0 then max (v+(n:Int)) 0 else min v (n:Int))=(((if v<0 then(v+(n:Int)).toNat else min v.toNat n):Nat):Int)
 by_cases a:v<0
 .simp only[if_pos a];omega
 .simp only[if_neg a];omega
def NV(lo hi:Option Int)(n:Nat):ahA lo hi 1 (n:Int)=(((cj n 0 lo:Nat):Int),((cj n n hi:Nat):Int)):=by
 have a:¬((1:Int)<0):=by omega
 unfold ahA;refine Prod.ext ?_ ?_
 .cases lo with
  |none=>rfl|some v=>exact Gj v n 0
 .cases hi with
  |none=>rfl|some v=>exact Gj v n n
def Ym(i j:Nat):agV (i:Int) (j:Int) 1=j-i:=by
 unfold agV;have a:(1:Int) > 0:=by omega
 simp only[a,if_true,Int.ediv_one];split<;>omega
def Mh{v:Value}{o:Option Int}{Q:Option Int->afa->Prop}(p:aiy v o)(h:Q o s):wpAny (model prog w) A (Builtin.Slice.slicePartIndex v) Q E s:=by
 cases p with
 |none=>exact slicePart_none h|int i t=>exact slicePart_int h
def Zq{cA:Addr}{b a:Value}{lo hi:Option Int}{n:Nat}{Q:Int×Int×Nat->afa->Prop}(aC:s.heap.IsSliceOf cA b a .none)(pl:aiy b lo)(e:aiy a hi)
  (h:Q (((cj n 0 lo:Nat):Int),1,cj n n hi-cj n 0 lo) s):wpAny (model prog w) A (aiG (.ref cA) (pure (n:Int))) Q E s:=by
 obtain⟨os,d,f,c⟩:=id aC;unfold aiG Builtin.Slice.sliceFields;refine B1 (B1 (wpAny_field d c (x:=b) rfl (B1 (wpAny_field d c (x:=a) rfl (B1 (wpAny_field d c (x:=.none) rfl (afm ?_)))))));refine B1 (slicePart_none ?_);show wpAny _ _ (if((1:Int)==0)=true then _ else _) _ _ s;rw[if_neg (by decide)];refine B1 (Mh pl (B1 (Mh e (B1 (afm ?_)))));show wpAny _ _ (match ahA lo hi 1 (n:Int)with|(lo,hi)=>pure (lo,(1:Int),agV lo hi 1)) _ _ s;rw[NV lo hi n];show wpAny _ _ (pure (((cj n 0 lo:Nat):Int),(1:Int),agV ((cj n 0 lo:Nat):Int) ((cj n n hi:Nat):Int) 1)) _ _ s;rw[Ym];exact afm h
def Yg(xs:Array Value)(i k:Nat):((afR k).filterMap λ(m:Nat)=>xs[((i:Int)+(m:Int)*1).toNat]?).toArray=((xs.toList.drop i).take k).toArray:=by
 have e:(λ(m:Nat)=>xs[((i:Int)+(m:Int)*1).toNat]?)=λm=>xs[i+m]?:=by
  funext m
  have:((i:Int)+(m:Int)*1).toNat=i+m:=by omega
  rw[this]
 rw[e];have:=pick_run xs i k;rw[List.filterMap_map]at this;have aG:((λx=>xs[x]?)∘λx=>i+x)=λm=>xs[i+m]?:=rfl
 rw[aG]at this;rw[this]
def Rw{t cA:Addr}{a:Array Value}{d c:Value}{lo hi:Option Int}{Q:dm}(b:IsTup s.heap t a)(aC:s.heap.IsSliceOf cA d c .none)(pl:aiy d lo)(j:aiy c hi)
  (hw:¬(cj a.size 0 lo=0/\cj a.size a.size hi=a.size))
  (h:Q (.ref s.heap.objs.size) { s with heap:=s.heap.push { cls:=.type "tuple",data:=.seq ((a.toList.drop (cj a.size 0 lo)).take (cj a.size a.size hi-cj a.size 0 lo)).toArray } })
  (hsz:a.size<=afe):wpAny (model prog w) A (ai1 (.ref t) (.ref cA)) Q E s:=by
 have i:sizeOk (.seq ((a.toList.drop (cj a.size 0 lo)).take (cj a.size a.size hi-cj a.size 0 lo)).toArray):=by
  show((a.toList.drop (cj a.size 0 lo)).take (cj a.size a.size hi-cj a.size 0 lo)).toArray.size<=afe;rw[afd,afO,afP,afN];omega
 have l:cj a.size a.size hi<=a.size:=Y_ _ _ (ae9 _) hi;obtain⟨os,k,e,n⟩:=id aC;have f:s.TypeIs (.ref cA) "slice":=⟨os,k,e⟩;unfold ai1
 try with_reducible refine agi ?_
 skip
 refine B1 (wpAny_sequenceKey b.typeIs (by decide) ?_);refine B1 (wpAny_callSpecial?_slot (name:=afL "__getitem__") b.typeIs ag6
  (wpAny_call_entry ag6 b.typeIs entry_tuple_getitem ?_ (args_tuple_getitem _ _)))
 show wpAny _ _ (aiH (.ref t) >>= _) _ _ s;refine B1 (tupleItemsOf_ b ?_);refine B1 (wpAny_typeOf f ?_);rw[if_pos (by decide)];refine B1 (Zq aC pl j ?_);have g:¬((((cj a.size 0 lo:Nat):Int)==0&&(1:Int)==1&&(cj a.size a.size hi-cj a.size 0 lo)==a.size)=true):=by
  intro q;rw[afG,afG]at q;have bJ:((cj a.size 0 lo:Nat):Int)=0:=eq_of_beq q.1.1;have cR:cj a.size a.size hi-cj a.size 0 lo=a.size:=eq_of_beq q.2;exact hw ⟨by omega,by omega⟩
 show wpAny _ _ (if(((cj a.size 0 lo:Nat):Int)==0&&(1:Int)==1&&(cj a.size a.size hi-cj a.size 0 lo)==a.size)=true then _ else _) _ _ s;rw[if_neg g,Yg];exact B1 (m:=Builtin.Tuple.tupleExact _) (wpAny_newObj_type (afm ⟨_,rfl,afm h⟩) i)
end
end cG
namespace aE
open PySem PySem.Spec PyProof.Rows
abbrev rB:=St->av->(Option Int->av->Prop)->Prop
def tR(X:aR)(e:Option Expr)(t:rB):Prop:=
 ∀(b:cS)(s:afa)(U:St)(H:av)(Q:Option Int->av->Prop),Inv X b U H s->t U H Q->
  wpAny (model X.prog X.w) X.A (evalPart e X.env) (λu c=>∃o a,Inv X b U a c/\aiy u o/\Q o a) X.dx s
def ZY:rB:=λ_ H Q=>Q none H
def Z3(t:TE):rB:=λU H Q=>t U H λx a=>∃i,x=.int i/\Q (some i) a
def intsAre_of{ns:List Int}:∀{a:List Value},Vals (ns.map V.int) a->agI a ns:=by
 induction ns with
 |nil=>intro a r;cases r;exact .nil
 |cons n ns b=>
  intro a r
  cases r with
  |cons d c=>
   obtain⟨t,e⟩:=d;subst e;exact .cons n t (b c)
section
variable{X:aR}{e:Expr}{te:TE}{lo hi:Option Expr}{ic y1:rB}{pos gM:Pos}
def Yn:tR X none ZY:=by
 intro a s U H Q J h;rw[evalPart_none];exact afm ⟨none,H,J,.none,h⟩
def Yo(h:ck X e te):tR X (some e) (Z3 te):=by
 intro c s U H Q J hw;rw[evalPart_some];refine cn (h c s U H _ J hw) λu g b=>?_
 obtain⟨x,a,d,f,bJ⟩:=b;obtain⟨i,rfl,q⟩:=bJ;obtain⟨t,rfl⟩:=f;exact⟨some i,a,d,.int i t,q⟩
def oV(X:aR)(r:V->Option Int->Option Int->av->cC->Prop):Prop:=
 ∀(a:cS)(s:afa)(U:St)(H:av)(x:V)(v c b:Value)(lo hi:Option Int)(cA:Addr)(Q:cC),Inv X a U H s->RelV x v->s.heap.IsSliceOf cA c b .none->aiy c lo->aiy b hi->r x lo hi H Q->
  ∃T id,typeLookup (.type T) "__getitem__"=pure (some (.builtin id))/\s.TypeIs v T/\wpAny (model X.prog X.w) X.A (ai1 v (.ref cA)) (hS X a U Q) X.dx s
def oV.or{r c:V->Option Int->Option Int->av->cC->Prop}(h:oV X r)(h':oV X c):oV X (λx lo hi H Q=>r x lo hi H Q\/c x lo hi H Q):=by
 intro b s U H x v f d lo hi cA Q J a aC pl g q;rcases q with q|q
 .exact h b s U H x v f d lo hi cA Q J a aC pl g q
 .exact h' b s U H x v f d lo hi cA Q J a aC pl g q
def Z6(r:V->Option Int->Option Int->av->cC->Prop)(te:TE)(ic y1:rB):TE:=λU H Q=>te U H λx a=>ic U a λl b=>y1 U b λu c=>r x l u c Q
def K6{r:V->Option Int->Option Int->av->cC->Prop}(j:oV X r)(he:ck X e te)(D:tR X lo ic)(w:tR X hi y1):ck X (.Subscript e (.Slice lo hi none gM) pos) (Z6 r te ic y1):=by
 intro a s U H Q J h;refine Subscript_ (cn (he a s U H _ J h) λv F c=>?_);obtain⟨x,i,m,p,bJ⟩:=c;refine wpAny_Slice (cn (D a F U i _ m bJ) λf G ⟨l,k,y,pl,cR⟩=>cn (w a G U k _ y cR) λd s3 c=>?_);obtain⟨u,g,z,E,A⟩:=c;refine afm ?_;have I:Inv X a U g { s3 with heap:=s3.heap.push { cls:=.type "slice",data:=.fields #[f,d,.none] } }:=z.kept λb cq q=>afg _ q
 obtain⟨T,id,B,t,n⟩:=j a { s3 with heap:=s3.heap.push { cls:=.type "slice",data:=.fields #[f,d,.none] } } U g x v f d l u s3.heap.objs.size Q I p (Heap.IsSliceOf.new ..) pl E A;exact tail_any t B n (by with_unfolding_all rfl)
def rL(xs:List V)(lo hi:Option Int):List V:=(xs.drop (cG.cj xs.length 0 lo)).take (cG.cj xs.length xs.length hi-cG.cj xs.length 0 lo)
def Gs(xs:List V)(lo hi:Option Int):(rL xs lo hi).length<=xs.length:=by
 unfold rL;rw[afO,afP];omega
def YQ(K:aW):V->Option Int->Option Int->av->cC->Prop:=λx lo hi H Q=>∃a xs,x=.ref a/\dr K H a xs/\
 ¬(cG.cj xs.length 0 lo=0/\cG.cj xs.length xs.length hi=xs.length)/\∀p,H p=none->Q (.ref p) (upd H p (.t (rL xs lo hi)))
theorem Zp:oV X (YQ X.K):=by
 intro k s U H x v m l lo hi cA Q J g aC pl j h;obtain⟨a,xs,rfl,i,hw,q⟩:=h;cases g;obtain⟨d,r,f,hz⟩:=J.tuple i;have c:d.toArray.size=xs.length:=by exact r.length.symm
 refine⟨"tuple",_,ag6.lookup,f.typeIs,?_⟩;refine cG.Rw f aC pl j (by rw[c];exact hw) ?_ (by rw[c];exact hz);rw[c];refine⟨.ref s.heap.objs.size,_,J.laid (λb cq q=>afg _ q) (ae9 _) ?_,rfl,q _ (J.cf.fresh (ae9 _))⟩;exact⟨af7 (Gs xs lo hi) hz,_,(r.drop (cG.cj xs.length 0 lo)).take (cG.cj xs.length xs.length hi-cG.cj xs.length 0 lo),IsTup.new _ _⟩
def YM(K:aW):fv:=λx y H Q=>∃a b xs ys,x=.ref a/\y=.ref b/\dr K H a xs/\dr K H b ys/\xs≠[]/\xs.length+ys.length<=afe/\
 (ys=[]->Q (.ref a) H)/\(ys≠[]->∀p,H p=none->Q (.ref p) (upd H p (.t (xs++ys))))
def Vals.Ck(r:Vals xs us):us=[]↔xs=[]:=by
 cases r with
 |nil=>simp|cons _ _=>simp
theorem W4:eJ X (agQ .Add) (YM X.K):=by
 intro m s U H x y v u Q J f k h;obtain⟨a,b,xs,ys,rfl,rfl,j,g,i,hz,bJ,cR⟩:=h;cases f;cases k;obtain⟨l,d,p1,_⟩:=J.tuple j;obtain⟨n,c,gM,_⟩:=J.tuple g;refine cG.PS p1 gM (λz=>i (d.Ck.mp z)) (λz=>⟨.ref a,H,J,rfl,bJ (c.Ck.mp z)⟩) (λz=>?_) (by rw[<-d.length,<-c.length];exact hz);refine⟨.ref s.heap.objs.size,_,J.laid (t':=s.toks) (o:=.t (xs++ys)) (λb cq q=>afg _ q) (ae9 _) ?_,rfl,cR (λw=>z (c.Ck.mpr w)) _ (J.cf.fresh (ae9 _))⟩;exact⟨by rw[afb];exact hz,_,d.append c,IsTup.new _ _⟩
end
def mW(n:Nat)(i:Int):Option Nat:=if 0<=i then(if i<n then some i.toNat else none)else if -(n:Int)<=i then some (i+n).toNat else none
def dK{α:Type}(xs:List α)(i:Int):Option α:=(mW xs.length i).bind λj=>xs[j]?
def Jr{i:Int}(h:mW n i=some j):seqIndex? i n=some j/\j<n/\-(n:Int)<=i/\i<n:=by
 unfold mW at h
 by_cases b:0<=i
 .rw[if_pos b]at h
  by_cases a:i<n
  .rw[if_pos a]at h
   have e:i.toNat=j:=afy h;exact⟨by rw[ajn b a,e],by omega,by omega,a⟩
  .rw[if_neg a]at h;cases h
 .rw[if_neg b]at h
  by_cases a:-(n:Int)<=i
  .rw[if_pos a]at h
   have e:(i+n).toNat=j:=afy h;exact⟨by rw[seqIndex_neg (by omega) a,e],by omega,a,by omega⟩
  .rw[if_neg a]at h;cases h
def wV{α:Type}{xs:List α}{i:Int}{v:α}(h:dK xs i=some v):∃j,seqIndex? i xs.length=some j/\xs[j]? = some v/\j<xs.length/\-(xs.length:Int)<=i/\i<xs.length:=by
 unfold dK at h
 cases e:mW xs.length i with
 |none=>rw[e]at h;cases h
 |some j=>
  rw[e]at h;obtain⟨a,b,d,c⟩:=Jr e;exact⟨j,a,h,b,d,c⟩
def N7{α:Type}{xs:List α}{j:Nat}{v:α}(h:xs[j]? = some v):dK xs (j:Int)=some v:=by
 have a:=(fk.mp h).1;have e:mW xs.length (j:Int)=some j:=by
  unfold mW;rw[if_pos (by omega),if_pos (by omega)];simp
 unfold dK;rw[e];exact h
def Em(b:Expr):Prop:=∀o i,ajo b false o i=operate [o,i] (ai1 o i)
def mj(X:aR)(r:fv):Prop:=
 ∀(value a:Expr)(b:cS)(s:afa)(U:St)(H:av)(x y:V)(v u:Value)(Q:cC),Inv X b U H s->RelV x v->RelV y u->r x y H Q->
  ajo a false v u=operate [v,u] (ai1 v u)->wpAny (model X.prog X.w) X.A (subscriptTail value a v u) (hS X b U Q) X.dx s
def wF(X:aR)(id:String)(r:V->List V->av->cC->Prop):Prop:=
 ∀(a:cS)(s:afa)(U:St)(H:av)(x:V)(xs:List V)(v:Value)(b:List Value)(Q:cC),Inv X a U H s->RelV x v->Vals xs b->r x xs H Q->
  wpAny (model X.prog X.w) X.A (call (.builtin id) (v::b)) (hS X a U Q) X.dx s
section
variable{X:aR}{a b:Expr}{cv cO:TE}{pos:Pos}
def mj.or{r f:fv}(h:mj X r)(h':mj X f):mj X (λx y H Q=>r x y H Q\/f x y H Q):=by
 intro value c e s U H x y v u Q J d g q aC;rcases q with q|q
 .exact h value c e s U H x y v u Q J d g q aC
 .exact h' value c e s U H x y v u Q J d g q aC
def XZ{r:fv}(c:mj X r)(i:ck X a cv)(f:ck X b cO)(aC:Em b):ck X (.Subscript a b pos) (q' r cv cO):=by
 intro g s U H Q J h;exact Subscript_ (z' i f J h λv u l x y d k e j q=>c a b g l U d x y v u Q k e j q (aC _ _))
def LB(K:aW):fv:=λx y H Q=>∃p xs i v,x=.ref p/\y=.int i/\cL K H p xs/\dK xs i=some v/\Q v H
def LD(K:aW):fv:=λx y H Q=>∃p xs i v,x=.ref p/\y=.int i/\dr K H p xs/\dK xs i=some v/\Q v H
def LC:fv:=λx y H Q=>∃z i c,x=.str z/\y=.int i/\z.length<=afe/\dK z.cps.toList i=some c/\Q (.str ⟨#[c]⟩) H
def T3:mj X (LB X.K):=by
 intro value f n s U H x y v u Q J l B h aC;obtain⟨p,xs,i,z,rfl,rfl,D,he,q⟩:=h;cases l;obtain⟨t,rfl⟩:=B;obtain⟨e,r,pl,hz⟩:=J.list D;obtain⟨j,c,m,L,A,E⟩:=wV he;obtain⟨w,k,G⟩:=r.get m;have F:=r.length;have I:=sq;have fin:hS X n U Q w s:=⟨z,H,J,G,q⟩
 by_cases g:0<=i
 .have d:i.toNat=j:=by
   rw[ajn g E]at c;exact afy c
  exact item_listR pl.isList g (by omega) (by rw[d];simpa using k) fin aC
 .have d:(i+(e.toArray.size:Int)).toNat=j:=by
   rw[seqIndex_neg (by omega) A]at c;rw[afd,<-F];exact afy c
  exact subscriptTail_builtinR pl.isList.typeIs slot_list_getitem.lookup
   (wpAny_getItem_list_neg pl.isList (by omega) (by rw[afd]<;>omega) (by omega) (by rw[d];simpa using k) ⟨rfl,fin⟩) aC
def T5:mj X (LD X.K):=by
 intro value c g s U H x y v u Q J d k h aC;obtain⟨p,xs,i,z,rfl,rfl,l,he,q⟩:=h;cases d;obtain⟨t,rfl⟩:=k;obtain⟨m,r,pl,hz⟩:=J.tuple l;obtain⟨j,e,f,E,D,F⟩:=wV he;obtain⟨w,A,n⟩:=r.get f;have B:=sq;have fin:hS X g U Q w s:=⟨z,H,J,n,q⟩;exact subscriptTail_builtinR pl.typeIs slot_tuple_getitem.lookup
  (getItem_tuple pl (by omega) (by omega) (by rw[afd,<-r.length];exact e) (by simpa using A) ⟨rfl,fin⟩) aC
def T4:mj X LC:=by
 intro value d p s U H x y v u Q J f l h aC;obtain⟨z,i,c,rfl,rfl,hz,he,q⟩:=h;obtain⟨t,rfl⟩:=f;obtain⟨t',rfl⟩:=l;obtain⟨j,e,g,w,k,m⟩:=wV he;have n:z.cps.toList.length=z.length:=by simp[Str.length]
 rw[n]at e k m;have r:=sq;exact tail_any (typeIs_str s z t) slot_str_getitem.lookup (getItem_str (by
  have ao:decide (i < -(2 ^ 63:Int))=false:=decide_eq_false (by omega);have aG:decide (i≥2 ^ 63)=false:=decide_eq_false (by omega);rw[ao,aG,Bool.or_false]) (by rw[e];simpa using g) ⟨.str ⟨#[c]⟩,H,J.tok _,⟨_,rfl⟩,q⟩) aC
def LA(K:aW):fv:=λx y H Q=>LB K x y H Q\/LD K x y H Q\/LC x y H Q
def Js:mj X (LA X.K):=T3.or (T5.or T4)
def U_(c:List Value)(n j:Nat)(u:Value):afD (·.setIfInBounds j u) { cls:=.type "list",data:=.seq c.toArray n }={ cls:=.type "list",data:=.seq (c.set j u).toArray n }:=by
 simp[afD]
def Inv.l{d:cS}{U:St}{H:av}{s:afa}{p:Addr}{xs:List V}(J:Inv X d U H s)(h:H p=some (.l xs)) :
  ∃(c:List Value)(n:Nat),Vals xs c/\s.heap.get? p=some { cls:=.type "list",data:=.seq c.toArray n }/\xs.length<=afe:=by
 obtain⟨z,c,n,r,e⟩:=J.cf p _ h;exact⟨c,n,r,e,z⟩
theorem Inv.U0{g:cS}{U:St}{H:av}{s:afa}{p:Addr}{xs ys:List V}{c its':List Value}{n d:Nat}{f:Obj->Obj}(J:Inv X g U H s)(h:H p=some (.l xs))
  (j:s.heap.get? p=some { cls:=.type "list",data:=.seq c.toArray n }) (i:f { cls:=.type "list",data:=.seq c.toArray n }={ cls:=.type "list",data:=.seq its'.toArray d }) (r:Vals ys its') (hz:ys.length<=afe) (t:Nat) :
  Inv X g U (upd H p (.l ys)) { s with heap:=s.heap.update p f,toks:=t }:=by
 have e:(s.heap.update p f).get? p=some { cls:=.type "list",data:=.seq its'.toArray d }:=by
  rw[Heap.get?_update_self f j (by rw[i]<;>rfl),i]
 refine J.write (x:=p) (e:=p) (by rw[h];trivial) (.inl rfl) (λb u k q=>(ahQ _ _ (ahK k)).trans q) ⟨_,e⟩ ?_;exact⟨hz,its',d,r,e⟩
def YO:V->V->V->av->(av->Prop)->Prop:=λo i v H Q=>∃p xs k j,o=.ref p/\i=.int k/\H p=some (.l xs)/\mW xs.length k=some j/\Q (upd H p (.l (xs.set j v)))
def set_list:zr X YO:=by
 intro E s U H o i v M L u Q J G B F h;refine cc λw=>?_
 obtain⟨p,xs,k,j,rfl,rfl,m,D,q⟩:=h;cases G;obtain⟨t,rfl⟩:=B;obtain⟨c,n,r,e,hz⟩:=J.l m;obtain⟨d,I,y,x⟩:=Jr D;have g:=r.length;have K:=sq;have z:Inv X E U (upd H p (.l (xs.set j v))) { s with heap:=s.heap.update p (afD (·.setIfInBounds j u)) }:=
  J.U0 m e (U_ c n j u) (r.set F j) (by rw[af6];exact hz) s.toks
 by_cases A:0<=k
 .have f:k.toNat=j:=by
   rw[ajn A x]at d;exact afy d
  exact w (W.ki_setAt e A (by omega) (by rw[afd,<-g];exact x) (by rw[f];exact⟨_,z,q⟩))
 .have f:(k+(c.toArray.size:Int)).toNat=j:=by
   rw[seqIndex_neg (by omega) y]at d;rw[afd,<-g];exact afy d
  exact w (W.ki_setBack e (by omega) (by rw[afd,<-g];exact y) (by omega) (by rw[f];exact⟨_,z,q⟩))
def Mi(lo hi:Option Int)(n:Nat):(agX lo hi none n).1=((cG.cj n 0 lo:Nat):Int)/\(agX lo hi none n).2.1=((cG.cj n n hi:Nat):Int)/\(agX lo hi none n).2.2=1:=by
 refine⟨?_,?_,rfl⟩
 .cases lo with
  |none=>simp[agX,cG.cj]|some i=>
   simp only[agX,cG.cj,Option.getD_none,show(1:Int) > 0 by decide,if_true]
   by_cases h:i<0
   .simp only[h,if_true]<;>omega
   .simp only[h,if_false]<;>omega
 .cases hi with
  |none=>simp[agX,cG.cj]|some i=>
   simp only[agX,cG.cj,Option.getD_none,show(1:Int) > 0 by decide,if_true]
   by_cases h:i<0
   .simp only[h,if_true]<;>omega
   .simp only[h,if_false]<;>omega
def Zr(c:List Value)(lo hi:Option Int):slicePick c.toArray lo hi none=((c.drop (cG.cj c.length 0 lo)).take (cG.cj c.length c.length hi-cG.cj c.length 0 lo)).toArray:=by
 obtain⟨d,e,f⟩:=Mi lo hi c.toArray.size;unfold slicePick;rw[d,e,f];simp only[sliceRange_one,pick_run]<;>rfl
def YP(K:aW):V->Option Int->Option Int->av->cC->Prop:=λx lo hi H Q=>∃a xs,x=.ref a/\cL K H a xs/\∀p,H p=none->Q (.ref p) (upd H p (.l (rL xs lo hi)))
theorem Zm:oV X (YP X.K):=by
 intro j s U H x v l k lo hi cA Q J e aC pl i h;obtain⟨a,xs,rfl,f,q⟩:=h;cases e;obtain⟨g,r,d,hz⟩:=J.list f;have c:=r.length;refine⟨"list",_,slot_list_getitem.lookup,d.isList.typeIs,?_⟩;refine wpAny_getItem_list_slice d.isList aC pl i .none (by simp) ?_ (by rw[afd]<;>omega);rw[Zr,<-c];refine⟨.ref s.heap.objs.size,_,J.laid (λb cq q=>afg _ q) (ae9 _) ?_,rfl,q _ (J.cf.fresh (ae9 _))⟩;exact⟨af7 (Gs xs lo hi) hz,_,0,(r.drop (cG.cj xs.length 0 lo)).take (cG.cj xs.length xs.length hi-cG.cj xs.length 0 lo),afv _ rfl⟩
def mM:V->Bool
 |.aF=>true|.aM _=>true|.int _=>true|.str _=>true|_=>false
def mK:V->V->Bool
 |.aF,.aF=>true|.aM a,.aM b=>a==b|.aM a,.int b=>(if a then 1 else 0)==b|.int a,.aM b=>a==(if b then 1 else 0)|.int a,.int b=>a==b|.str a,.str b=>a==b|_,_=>false
theorem QN{u v:Value}(d:RelV y u)(c:RelV x v)(f:mM y=true)(e:mM x=true):SeqAt.EqAt A s u v (mK y x):=by
 cases y with
 |aF=>
  cases d
  cases x with
  |aF=>cases c;exact SeqAt.EqAt.same _
  |aM b=>cases c;exact SeqAt.EqAt.none_bool b
  |int b=>obtain⟨t,rfl⟩:=c;exact SeqAt.EqAt.none_int b t
  |str b=>obtain⟨t,rfl⟩:=c;exact SeqAt.EqAt.none_str b t
  |_=>exact absurd (show false=true from e) afc
 |aM a=>
  cases d
  cases x with
  |aF=>cases c;exact SeqAt.EqAt.bool_none a
  |aM b=>cases c;exact SeqAt.EqAt.bool_bool a b
  |int b=>obtain⟨t,rfl⟩:=c;exact SeqAt.EqAt.bool_int a b t
  |str b=>obtain⟨t,rfl⟩:=c;exact SeqAt.EqAt.bool_str a b t
  |_=>exact absurd (show false=true from e) afc
 |int a=>
  obtain⟨t',rfl⟩:=d
  cases x with
  |aF=>cases c;exact SeqAt.EqAt.int_none a t'
  |aM b=>cases c;exact SeqAt.EqAt.int_bool a t' b
  |int b=>obtain⟨t,rfl⟩:=c;exact ajG a t' b t
  |str b=>obtain⟨t,rfl⟩:=c;exact ajE a t' b t
  |_=>exact absurd (show false=true from e) afc
 |str a=>
  obtain⟨t',rfl⟩:=d
  cases x with
  |aF=>cases c;exact SeqAt.EqAt.str_none a t'
  |aM b=>cases c;exact SeqAt.EqAt.str_bool a t' b
  |int b=>obtain⟨t,rfl⟩:=c;exact ajF a t' b t
  |str b=>obtain⟨t,rfl⟩:=c;exact SeqAt.EqAt.str_str a t' b t
  |_=>exact absurd (show false=true from e) afc
 |_=>exact absurd (show false=true from f) afc
def nO(x:V)(u:Value):Bool:=match u with
 |.none=>mK .aF x|.bool b=>mK (.aM b) x|.int i _=>mK (.int i) x|.str z _=>mK (.str z) x|_=>false
theorem HS(r:RelV y u)(f:mM y=true):nO x u=mK y x:=by
 cases y with
 |aF=>cases r;rfl
 |aM b=>cases r;rfl
 |int i=>obtain⟨t,rfl⟩:=r;rfl
 |str z=>obtain⟨t,rfl⟩:=r;rfl
 |_=>exact absurd (show false=true from f) afc
theorem zI:∀{xs:List V}{c:List Value},Vals xs c->xs.all mM=true->c.any (nO x)=xs.any λy=>mK y x
 |_,_,.nil,_=>rfl|y::xs,u::c,.cons r t,f=>by
  rw[ahW,afG]at f;rw[ahX,ahX,HS r f.1,zI t f.2]
theorem Cc{v:Value}(e:RelV x v)(g:mM x=true):∀{xs:List V}{d:List Value},Vals xs d->xs.all mM=true->∀u∈d,SeqAt.EqAt A s u v (nO x u)
 |_,_,.nil,_=>λu c=>by cases c
 |y::xs,u::d,.cons r t,f=>λu' c=>by
  rw[ahW,afG]at f;rcases afz.mp c with rfl|c
  .rw[HS r f.1];exact QN r e f.1 g
  .exact Cc e g t f.2 u' c
def BA(x:V)(xs:List V):Bool:=xs.any λy=>mK y x
def Ly(K:aW)(c:Bool):fv:=λx y H Q=>∃p xs,y=.ref p/\(cL K H p xs\/dr K H p xs)/\mM x=true/\xs.all mM=true/\Q (.aM (if c then !BA x xs else BA x xs)) H
def KQ:eJ X (agb .In) (Ly X.K false):=by
 intro i s U H x y v u Q J e g h;obtain⟨p,xs,rfl,d,f,fs,q⟩:=h;cases g;rcases d with d|d
 .obtain⟨c,r,pl,hz⟩:=J.list d
  refine SeqAt.in_listAt (nO x) pl.isList (λw hw=>Cc e f r fs w (by simpa using hw)) ⟨.aM _,H,J,rfl,?_⟩;rw[show c.toArray.any (nO x)=c.any (nO x)by simp,zI r fs];exact q
 .obtain⟨c,r,pl,hz⟩:=J.tuple d
  refine SeqAt.in_tupleAt (nO x) pl (λw hw=>Cc e f r fs w (by simpa using hw)) ⟨.aM _,H,J,rfl,?_⟩;rw[show c.toArray.any (nO x)=c.any (nO x)by simp,zI r fs];exact q
def PJ:jU X (.builtin "len") (λxs H Q=>∃p ys,xs=[.ref p]/\(cL X.K H p ys\/dr X.K H p ys)/\Q (.int ys.length) H):=by
 intro i s U H xs k Q J r h;obtain⟨p,ys,rfl,d,q⟩:=h;obtain⟨u,rfl,g⟩:=vals1 r;cases g;have j:=sq;rcases d with d|d
 .obtain⟨f,e,pl,hz⟩:=J.list d
  have c:=e.length;exact Calls.call_len_list pl.isList (by simp only[afd]<;>omega) ⟨.int ys.length,H,J.tok _,⟨s.toks+1,by rw[afd,c]⟩,q⟩
 .obtain⟨f,e,pl,hz⟩:=J.tuple d
  have c:=e.length;exact len_tuple pl (by simp only[afd]<;>omega) ⟨.int ys.length,H,J.tok _,⟨s.toks+1,by rw[afd,c]⟩,q⟩
def PK:jU X (.builtin "len") (λxs H Q=>∃z,xs=[.str z]/\z.length<=afe/\Q (.int z.length) H):=by
 intro c s U H xs e Q J r h;obtain⟨z,rfl,hz,q⟩:=h;obtain⟨u,rfl,t,rfl⟩:=vals1 r;have d:=sq;exact len_str (by omega) ⟨.int z.length,H,J.tok _,⟨_,rfl⟩,q⟩
theorem PL:jU X (.type "list") (λxs H Q=>∃p ys,xs=[.ref p]/\(cL X.K H p ys\/dr X.K H p ys)/\∀l,H l=none->Q (.ref l) (upd H l (.l ys))):=by
 intro m s U H xs t Q J r h;obtain⟨p,ys,rfl,f,q⟩:=h;obtain⟨u,rfl,k⟩:=vals1 r;cases k;have fin:∀(c:List Value),Vals ys c->ys.length<=afe->∀(h':Heap)(c':Nat),(∀b o',s.heap.get? b=some o'->h'.get? b=some o')->
   h'.get? s.heap.objs.size=some { cls:=.type "list",dict:=none,data:=.seq c.toArray c',slots:=#[] }->hS X m U Q (.ref s.heap.objs.size) { s with heap:=h' }:=λc d hz h' c' kp e=>
  ⟨.ref s.heap.objs.size,_,J.laid (t':=s.toks) kp (ae9 _) (show hU X.prog X.w _ h' _ (.l ys)from⟨hz,c,c',d,e⟩),rfl,q _ (J.cf.fresh (ae9 _))⟩
 rcases f with f|f
 .obtain⟨c,d,pl,hz⟩:=J.list f
  have g:=d.length;obtain⟨o,i,j,n,hd⟩:=pl.isList;exact call_list_seq p (.inl rfl) i j hd (λh' c' kp e=>fin c d hz h' c' kp e) (by simp only[afd]<;>omega)
 .obtain⟨c,d,pl,hz⟩:=J.tuple f
  have g:=d.length;obtain⟨o,i,j,n,hd⟩:=pl;exact call_list_seq p (.inr rfl) i j hd (λh' c' kp e=>fin c d hz h' c' kp e) (by simp only[afd]<;>omega)
theorem PO:jU X (.type "tuple") (λxs H Q=>∃p ys,xs=[.ref p]/\((cL X.K H p ys/\∀l,H l=none->Q (.ref l) (upd H l (.t ys)))\/(dr X.K H p ys/\Q (.ref p) H))):=by
 intro k s U H xs m Q J r h;obtain⟨p,ys,rfl,h⟩:=h;obtain⟨u,rfl,i⟩:=vals1 r;cases i;rcases h with⟨C,q⟩|⟨C,q⟩
 .obtain⟨c,d,pl,hz⟩:=J.list C
  have g:=d.length;refine call_tuple_list pl.isList (λh' kp=>?_) (by simp only[afd]<;>omega);have f:=J.kept (t':=s.toks) kp;have j:=
   f.laid (t':=s.toks) (λb o e=>afg _ e) (ae9 _) (show hU X.prog X.w _ _ _ (.t ys)from⟨hz,c,d,IsTup.new _ _⟩)
  exact⟨.ref h'.objs.size,_,j,rfl,q _ (f.cf.fresh (ae9 _))⟩
 .obtain⟨c,d,pl,hz⟩:=J.tuple C
  exact call_tuple_same pl ⟨.ref p,H,J,rfl,q⟩
def y3(K:aW)(T:String)(x:V)(H:av):Prop:=match x with
 |.str _=>T="str"|.int _=>T="int"|.ref p=>(T="list"/\∃xs,cL K H p xs)\/(T="tuple"/\∃o,K.lookup p=some o/\o.cls=.type "tuple"/\o.dict=none)\/
   (T="dict"/\((∃c,H p=some (.rM c))\/∃c,H p=some (.dt c)))\/(T="set"/\∃S n,H p=some (.set S n))
 |_=>False
def MJ{v:Value}(J:Inv X ah U H s)(r:RelV x v)(ty:y3 X.K T x H) :
  s.TypeIs v T/\∀a,v=.ref a->∃cq,s.heap.get? a=some cq/\cq.dict=none:=by
 refine cc λd=>?_
 cases x with
 |str z=>
  obtain⟨t,rfl⟩:=r;cases(show T="str" from ty);exact d ⟨typeIs_str s z t,λ_ e=>nomatch e⟩
 |int i=>
  obtain⟨t,rfl⟩:=r;cases(show T="int" from ty);exact d ⟨typeIs_int s i t,λ_ e=>nomatch e⟩
 |ref p=>
  cases r;rcases ty with⟨rfl,xs,ba⟩|⟨rfl,o,C,hc,hd⟩|⟨rfl,C⟩|⟨rfl,S,n,C⟩
  .obtain⟨f,_,pl,_⟩:=J.list ba
   refine d ⟨pl.isList.typeIs,λa e=>?_⟩;cases e;refine cc λd=>?_
   obtain⟨o,n,e,c,hd,_⟩:=pl;exact d ⟨o,e,hd⟩
  .refine d ⟨⟨o,J.iY p o C,hc⟩,λa e=>?_⟩
   cases e;exact⟨o,J.iY _ o C,hd⟩
  .have z:∃o,s.heap.get? p=some o/\o.ExactDict:=by
    refine cc λd=>?_
    rcases C with⟨bE,C⟩|⟨bE,C⟩
    .obtain⟨_,_,_,_,o,_,_,e,ex,_⟩:=J.cf p _ C
     exact d ⟨o,e,ex⟩
    .obtain⟨_,_,_,_,o,_,_,e,ex,_⟩:=J.cf p _ C
     exact d ⟨o,e,ex⟩
   obtain⟨o,e,ex⟩:=z;refine d ⟨⟨o,e,ex.1⟩,λa aG=>?_⟩;cases aG;exact⟨o,e,ex.2.1⟩
  .obtain⟨o,_,_,_,e,ex,_⟩:=J.cf p _ C
   refine d ⟨⟨o,e,ex.1⟩,λa aG=>?_⟩;cases aG;exact⟨o,e,ex.2.1⟩
 |_=>exact d (afU ty)
def ZQ(K:aW)(T:String)(r:V->List V->av->cC->Prop)(to:TE):TE:=λU H Q=>to U H λx c=>y3 K T x c/\r x [] c Q
def ZP(K:aW)(T:String)(r:V->List V->av->cC->Prop)(to:TE)(t:fC):TE:=λU H Q=>to U H λx c=>y3 K T x c/\t U c λxs d=>r x xs d Q
variable{o e:Expr}{aw:List Expr}{to:TE}{t:fC}{name:Str}{apos cT:Pos}{T id:String}{r:V->List V->av->cC->Prop}
def K3(g:PlainAttrs T)(slot:Slot T name id)(p:typeOf (.builtin id)=pure (.type "method_descriptor"))(n:wF X id r)(j:ck X o to)
  (q:agR o name X.env (eval o X.env)=eval o X.env:=by rfl) (u:(apos.endLine==cT.line)=true:=by rfl):ck X (.Call (.Attribute o name apos) [] [] cT) (ZQ X.K T r to):=by
 intro c s U H Q J h;refine wpAny_Call_method0_late q u (cn (j c s U H _ J h) λv w k=>?_);obtain⟨x,i,d,f,ty,bJ⟩:=k;obtain⟨l,m⟩:=MJ d f ty;exact⟨T,id,g,slot,p,l,m,ahR rfl (PySem.evalArgs_none (n c w U i x [] v [] Q d f .nil bJ))⟩
def CJ(i:PlainAttrs T)(slot:Slot T name id)(A:typeOf (.builtin id)=pure (.type "method_descriptor"))(z:wF X id r)(k:ck X o to)(q:gR X (e::aw) t)
  (B:agR o name X.env (eval o X.env)=eval o X.env:=by rfl)
  (E:((ahl cT (afV (e::aw) X.env)).all (λx=>!x.1)&&(backToKw cT (aiu [] X.env)).all (λx=>x.1.isSome)
&&decide ((e::aw).length+([]:List ahL).length+(if([]:List ahL).isEmpty then 0 else 1)<30))=true:=by rfl)
  (D:(apos.endLine==cT.line)=true:=by rfl) (aC:fm X e aw:=by rfl) (y:gF X cT aw:=by rfl) :
  ck X (.Call (.Attribute o name apos) (e::aw) [] cT) (ZP X.K T r to t):=by
 intro c s U H Q J h;refine wpAny_Call_method_late B E D rfl (cn (k c s U H _ J h) λv F l=>?_);obtain⟨x,j,d,f,ty,bJ⟩:=l;obtain⟨n,p⟩:=MJ d f ty;refine⟨T,id,i,slot,A,n,p,?_⟩;have g:=q cT c F U j _ d bJ;rw[aC]at g ⊢;refine ahR (by show(false||(ahl cT (afV aw X.env)).any (·.1))=false;rw[y]<;>rfl) (aib ?_);exact cn g λI G ⟨L,m,w,u,cR⟩=>z c G U m x L v I Q w f u cR
end
def mq(X:aR)(id:String)(r:V->List V->av->cC->Prop):Prop:=
 ∀(a:cS)(s:afa)(U:St)(H:av)(x:V)(xs:List V)(v:Value)(b:List Value)(Q:cC),Inv X a U H s->RelV x v->Vals xs b->r x xs H Q->
  wpAny (model X.prog X.w) X.A (call (.builtin id) (v::b)) (hS X a U Q) X.dx s
def Vals.one:∀{x:V}{a:List Value},Vals [x] a->∃u,a=[u]/\RelV x u
 |_,_,.cons r .nil=>⟨_,rfl,r⟩
def Vals.zero:∀{a:List Value},Vals [] a->a=[]
 |_,.nil=>rfl
def Vals.dropLast{xs:List V}{a:List Value}(h:Vals xs a):Vals xs.dropLast a.dropLast:=by
 induction h with
 |nil=>exact .nil|cons r t b=>
  cases t with
  |nil=>exact .nil|cons q t'=>exact .cons r b
theorem Vals.eraseIdx:∀{xs:List V}{a:List Value}(i:Nat),Vals xs a->Vals (xs.eraseIdx i) (a.eraseIdx i)
 |_,_,_,.nil=>.nil|_,_,0,.cons _ t=>t|_,_,i+1,.cons r t=>.cons r (Vals.eraseIdx i t)
def Vals.reverse{xs:List V}{a:List Value}(h:Vals xs a):Vals xs.reverse a.reverse:=by
 induction h with
 |nil=>exact .nil|cons r t b=>rw[agS,agS];exact Vals.append b (.cons r .nil)
def QV{α:Type}(l:List α):l.eraseIdx (l.length-1)=l.dropLast:=by
 induction l with
 |nil=>rfl|cons a r c=>
  cases r with
  |nil=>rfl|cons b r=>
   have e:(a::b::r).length-1=((b::r).length-1)+1:=by
    have d:(a::b::r).length=r.length+2:=rfl;have f:(b::r).length=r.length+1:=rfl;omega
   rw[e,List.eraseIdx_cons_succ,c]
   all_goals rfl
theorem J5{α:Type}:∀(l:List α)(i:Nat),(l.eraseIdx i).length<=l.length
 |[],_=>ae9 _|_::_,0=>ajp _|_::r,i+1=>agZ (J5 r i)
section
variable{X:aR}{ah:cS}{U:St}{H:av}{s:afa}{l:Addr}{xs ys:List V}
def Inv.su{a its':List Value}{n:Nat}{f:Array Value->Array Value}{t':Nat}(J:Inv X ah U H s)(g:H l=some (.l xs))
  (e:s.heap.get? l=some { cls:=.type "list",data:=.seq a.toArray n }) (h:f a.toArray=its'.toArray) (b:Vals ys its') (hz:ys.length<=afe) :
  Inv X ah U (upd H l (.l ys)) { s with heap:=s.heap.update l (afD f),toks:=t' }:=by
 have q:=IsL.update e f;rw[h]at q;refine J.write (by rw[g];exact trivial) (.inl rfl) (λi u c d=>(ahQ s.heap (afD f) (ahK c)).trans d) ⟨_,q⟩ ?_;exact⟨hz,its',_,b,q⟩
def Inv.Kc{t':Nat}(J:Inv X ah U H s)(a:Vals ys its)(hz:ys.length<=afe) :
  Inv X ah U (upd H s.heap.objs.size (.l ys)) { s with heap:=s.heap.push { cls:=.type "list",data:=.seq its.toArray },toks:=t' }:=
 J.laid (λ_ _ q=>afg _ q) (ae9 _) ⟨hz,its,0,a,afv _ rfl⟩
def Inv.fresh(J:Inv X ah U H s):H s.heap.objs.size=none:=J.cf.fresh (ae9 _)
def Inv.n8(J:Inv X ah U H s)(b:H l=some (.l xs)):xs.length<=afe/\∃(a:List Value)(n:Nat),Vals xs a/\xs.length=a.length/\s.heap.get? l=some { cls:=.type "list",data:=.seq a.toArray n }:=by
 obtain⟨z,a,n,r,e⟩:=J.cf l _ b;exact⟨z,a,n,r,r.length,e⟩
def KA(h:n<=afe):ag0 n=false:=decide_eq_false (by omega)
end
section
variable{X:aR}
def Lu:V->List V->av->cC->Prop:=λx a H Q=>∃l xs y,x=.ref l/\a=[y]/\H l=some (.l xs)/\xs.length<afe/\Q .aF (upd H l (.l (xs++[y])))
def Ce:mq X "list.append" Lu:=by
 intro g s U H x k v j Q J c d h;obtain⟨l,xs,y,rfl,rfl,b,hz,q⟩:=h;cases c;obtain⟨u,rfl,f⟩:=d.one;obtain⟨z,a,n,r,i,e⟩:=J.n8 b;refine aic F.slot_list_append ⟨_,e,rfl⟩ F.entry_list_append (F.args_list_append_2 _ _) (PySem.list_append l a.toArray n u (by rw[afd];omega)) ⟨e,?_⟩;refine⟨.aF,_,J.su b e (by simp) (r.append (.cons f .nil)) ?_,rfl,q⟩;rw[afb,afw];omega
def YN:V->List V->av->cC->Prop:=λx c H Q=>∃l b xs a,x=.ref l/\c=[.ref b]/\H l=some (.l xs)/\H b=some (.l a)/\xs.length+a.length<=afe/\Q .aF (upd H l (.l (xs++a)))
def aeM:mq X "list.extend" YN:=by
 intro t s U H x D v B Q J g j h;obtain⟨l,b,xs,E,rfl,rfl,d,p,hz,q⟩:=h;cases g;obtain⟨u,rfl,k⟩:=j.one;cases k;obtain⟨z,a,n,r,y,e⟩:=J.n8 d;obtain⟨w,c,m,i,A,aG⟩:=J.n8 p;have hsz:a.toArray.size+c.toArray.size<=afe:=by rw[afd,afd];omega
 have f:¬(!a.toArray.isEmpty&&ag0 (a.toArray.size+c.toArray.size))=true:=by
  rw[KA hsz,agY];exact afc
 refine aic F.slot_list_extend ⟨_,e,rfl⟩ F.entry_list_extend (F.args_list_extend_2 _ _)
  (AutoSeq1.list_extend_list_list_0 l a.toArray n b c.toArray m f (by omega) (by omega)) ⟨e,aG,?_⟩
 refine⟨.aF,_,J.su d e (by simp) (r.append i) ?_,rfl,q⟩;rw[afb];omega
def LF:V->List V->av->cC->Prop:=λx a H Q=>∃l xs y,x=.ref l/\a=[]/\H l=some (.l xs)/\xs[xs.length-1]? = some y/\Q y (upd H l (.l xs.dropLast))
def Vh:mq X "list.pop" LF:=by
 intro p s U H x w v t Q J f g h;obtain⟨l,xs,y,rfl,rfl,b,j,q⟩:=h;cases f;have c:=g.zero;subst c;obtain⟨z,a,n,r,m,e⟩:=J.n8 b;obtain⟨u,i,k⟩:=r.get j;have d:a.toArray[a.toArray.size-1]? = some u:=by
  show a.toArray[a.length-1]? = some u;rw[<-ah3,<-m];exact i
 refine aic F.slot_list_pop ⟨_,e,rfl⟩ F.entry_list_pop (F.args_list_pop_1 _) (MeetsSeq.list_pop_last l a.toArray n u d (by rw[afd];omega)) ⟨e,?_⟩;refine⟨y,_,J.su (its':=a.dropLast) b e ?_ r.dropLast ?_,k,q⟩
 .show a.toArray.eraseIdxIfInBounds (a.toArray.size-1)=a.dropLast.toArray
  rw[afd,ah5,QV]
 .rw[aid]
  omega
def LG:V->List V->av->cC->Prop:=λx a H Q=>∃l xs i k y,x=.ref l/\a=[.int i]/\H l=some (.l xs)/\-(2 ^ 63)<=i/\i<2 ^ 63/\seqIndex? i xs.length=some k/\xs[k]? = some y/\Q y (upd H l (.l (xs.eraseIdx k)))
def Vi:mq X "list.pop" LG:=by
 intro D s U H x G v E Q J c j h;obtain⟨l,xs,i,k,y,rfl,rfl,b,d,f,g,m,q⟩:=h;cases c;obtain⟨u,rfl,p⟩:=j.one;obtain⟨t,rfl⟩:=p;obtain⟨z,a,n,r,A,e⟩:=J.n8 b;obtain⟨w,hw,B⟩:=r.get m;refine aic F.slot_list_pop ⟨_,e,rfl⟩ F.entry_list_pop (F.args_list_pop_2 _ _)
  (MeetsSeq.list_pop_at l a.toArray n i t k w (fitsIndex_both d f) (by rw[afd,<-A];exact g) (by rw[<-ah3];exact hw) (by rw[afd];omega)) ⟨e,?_⟩
 refine⟨y,_,J.su (its':=a.eraseIdx k) b e ?_ (r.eraseIdx k) ?_,B,q⟩
 .show a.toArray.eraseIdxIfInBounds k=(a.eraseIdx k).toArray
  rw[ah5]
 .have:=J5 xs k
  omega
def LH:V->List V->av->cC->Prop:=λx a H Q=>∃l xs,x=.ref l/\a=[]/\H l=some (.l xs)/\Q .aF (upd H l (.l xs.reverse))
def Vj:mq X "list.reverse" LH:=by
 intro g s U H x k v j Q J d f h;obtain⟨l,xs,rfl,rfl,b,q⟩:=h;cases d;have c:=f.zero;subst c;obtain⟨z,a,n,r,i,e⟩:=J.n8 b;refine aic F.slot_list_reverse ⟨_,e,rfl⟩ F.entry_list_reverse (F.args_list_reverse_1 _) (AutoSeq1.list_reverse_list_0 l a.toArray n (by rw[afd];omega)) ⟨e,?_⟩;refine⟨.aF,_,J.su (its':=a.reverse) b e (by simp) r.reverse ?_,rfl,q⟩;rw[ag4];omega
def Lv:fv:=λx y H Q=>∃l b xs a,x=.ref l/\y=.ref b/\H l=some (.l xs)/\H b=some (.l a)/\xs.length+a.length<=afe/\∀p,H p=none->Q (.ref p) (upd H p (.l (xs++a)))
def W2:eJ X (agQ .Add) Lv:=by
 intro m s U H x y v u Q J d g h;obtain⟨l,b,xs,B,rfl,rfl,i,k,hz,q⟩:=h;cases d;cases g;obtain⟨z,a,n,r,w,e⟩:=J.n8 i;obtain⟨t,c,p,f,A,aG⟩:=J.n8 k;refine P.add_list e aG ?_ (by rw[afd,afd];omega);have j:a.toArray++c.toArray=(a++c).toArray:=by simp
 rw[j];exact⟨.ref _,_,J.Kc (r.append f) (by rw[afb];omega),rfl,q _ J.fresh⟩
end
end aE
namespace D1
open PySem PySem.W PySem.Calls PyProof.Rows
def TP:∀(ns:List Int)(c:List Value),WellAll P h c (ns.map WData.int)->agI c ns:=by
 intro ns
 induction ns with
 |nil=>
  intro c w;rw[List.map_nil]at w;cases w;exact .nil
 |cons n ns d=>
  intro c w;rw[aft]at w
  cases w with
  |cons a b=>
   cases a;exact .cons _ _ (d _ b)
def Ze{l:OpenLaw}{n:Nat}(t:l.most=some n){P:Params}{h:Heap}{args:List WData}{b:List Value}
  (j:l.row.toRowW.claim.pre args=true) (k:WellAll P h b args) :
  ∃a i ns,b=[aha a]/\args=[WData.list (ns.map WData.int)]/\h.get? a=some { cls:=.type "list",data:=.seq i.toArray }/\agI i ns/\ns.length<=n:=by
 have z:WShape.hasAll [] args [.list .int]=true:=(pre_splitW j).1;have g:l.pre.holds [] { args:=args }=true:=(pre_splitW j).2;obtain⟨d,r,rfl,p,s⟩:=hasAllW_cons z;obtain rfl:=hasAllW_nil s;obtain⟨xs,rfl,u⟩:=hasW_list p;obtain⟨ns,rfl⟩:=items_int u;have c:ns.length<=n:=by
  unfold OpenLaw.pre at g;have e:(WTm.not (.lt (.lit (.int (n:Int))) (.len (.arg 0)))).holds [] { args:=[.list (ns.map .int)] }=true:=by
   have e:=(holds_andW g).1;rw[t]at e;exact e
  have f:=condW_of e (w_not (w_lt w_lit (w_len_list (w_arg rfl))));rw[sg]at f;refine Nat.le_of_not_lt λq=>?_
  have A:(n:Int)<((ns.length:Nat):Int):=by omega
  (simp at f;omega)
 cases k with
 |cons w x=>
  cases x
  cases w with
  |list m y=>exact⟨_,_,ns,rfl,rfl,m,TP ns _ y,c⟩
def Yr(l:OpenLaw)(args:List WData):l.row.toRowW.claim.post args (.bool true) args=true:=
 postW_of (r:=l.row.toRowW) (X:=(true==true))
  (show WShape.has [] (.bool true) .bool=true by rfl)
  (show(WTm.eq .res (.lit (.bool true))).value [] { args:=args,res:=some (.bool true),after:=args }=some (.bool (true==true))from w_eq_bool (w_res rfl) w_lit) rfl
def N_{l:OpenLaw}{n:Nat}{q:afA}{c:List Str}{u:(Str->Option Value)->Heap->Prop}{s:World->Heap->Prop}{d:DefRec}
  (H:l.most=some n) (x:d.params.defaults=[])
  (call:∀(w:World)(gz b:afa)(mg m:bx)(i:Addr)(o:Obj)(pm cd e:Value)(a:Addr)(h:List Value)(ns:List Int),
   Ground q c [] u w gz mg m b.heap->s w b.heap->
   b.heap.get? i=some o->o.data=.func (docDef d.name d.params d.body d.scope pm cd e)->b.heap.CodeRec cd d.name->mg d.name=some (.ref i)->
   b.heap.get? a=some { cls:=.type "list",data:=.seq h.toArray }->agI h ns->ns.length<=n->b.gens=#[]->
   ah2 (model l.prog w) ai2 (.call (.ref i) ⟨[.ref a],[]⟩) (λr k=>r=.ok (.ret (.bool true))/\OldK b.heap k.heap/\k.os=b.os/\ah1 k.gens) b) :
  WalkO q c u s l.row.toRowW d [] (λf h=>PySem.call f h):=by
 intro w gz b mg m G Y i o pm cd e Q ei A hd N p P K args t S R B E z D;obtain rfl:Q=.none:=Dflts.none p x;obtain rfl:ei=.none:=Dflts.noKw p;obtain⟨a,h,ns,rfl,rfl,y,g,j⟩:=Ze H R z;refine enter_call (ahE (call w gz b mg m i o pm cd e a h ns G Y A (fd_plain hd) N P y g j K) λr k L=>?_);obtain⟨rfl,F,M,I⟩:=L;exact⟨.inl ⟨.bool true,.bool true,[],rfl,λ_=>rfl,.bool true,Yr l _,λ_=>⟨List.Pairwise.nil,λ_ O=>(nomatch O)⟩⟩,F,M,I⟩
end D1
namespace aE
open PySem PySem.Spec PyProof.Rows
theorem MS:∀{a:List Value}{ns:List Int},agI a ns->Vals (ns.map V.int) a
 |_,_,.nil=>.nil|_,_,.cons n t h=>.cons ⟨t,rfl⟩ (MS h)
abbrev p5{K:aW}{h:Heap}(_:K.In h):aW:=K
def ly(s:Stmt):aix:=match s with
 |.FunctionDef _ a _ _ _ _ _ _ _ _=>a|_=>{ posonlyargs:=[],args:=[],vararg:=none,kwonlyargs:=[],kw_defaults:=[],kwarg:=none,defaults:=[] }
def hA(s:Stmt):List Stmt:=match s with
 |.FunctionDef _ _ b _ _ _ _ _ _ _=>b|_=>[]
def eo(s:Stmt):Scope:=match s with
 |.FunctionDef _ _ _ _ _ _ a _ _ _=>a|_=>{ kind:=.function,names:=[],isGenerator:=false,isCoroutine:=false }
abbrev fi:mc:=λ_ _ _ _ _ _=>False
abbrev jz:f_:=λ_ _ _=>False
def CI:Passes fi X jz:=λ_ _ _ _ _ _ _ h=>h.elim
structure lp(K:aW)(x qual:Str)(st:Stmt)(f:Addr)(fd:agg):Prop where
 ex:∃(ey:Value)(od:Option Addr)(ei doc pm:Value)(an:Option Addr)(cy cM:Value)(g0:Array (Option Value)),
  fd=ahw x qual (ly st) (hA st) (eo st) .none ei doc pm an cy cM/\K.lookup f=some ⟨ey,od,.func fd,g0⟩/\W.codeIn K cy qual=true
 kp:ais K (.ref f)=true
section
variable{P:afA}{w:World}{K:aW}{mg:bx}{base:Heap}
def lp.ok{x qual:Str}{st:Stmt}{f:Addr}{d:agg}{N ps:List Str}{k:Nat}{c:iM}(F:lp K x qual st f d)(S:jA N ps (eo st))(len:∀a H Q E,c a H Q E->a.length=ps.length)
  (e:∀(b:Value)(A:afI)(outer:List Env)(s:afa)(H:av)(a:List V)(Q:cC)(E:f_),c6 k (A.deeper (ahF qual (eo st) s.heap.objs.size f b))->c a H Q E->
   ∃t,hV (ix fi P w K mg base N qual (eo st) f b A outer s H E).h_ (hA st) t/\t { a6:=λ_ g=>Q .aF g,b0:=Q } (start N a) H):f6 P w K mg base fi (k+1) f d ps c:=by
 obtain⟨r,y,ei,j,pm,p,b,cM,u,rfl,n,l⟩:=F.ex;refine H4 n l S len λA outer s H a Q E i m=>?_
 obtain⟨t,h,q⟩:=e b A outer s H a Q E i m;exact⟨t,h.h_,q⟩
def lp.binds{x qual:Str}{st:Stmt}{f:Addr}{e:agg}{ps:List Str}(F:lp K x qual st f e)
  (h:∀(ei a pm:Value)(b:Option Addr)(c cM:Value)(d:List Value),d.length=ps.length->air (ahw x qual (ly st) (hA st) (eo st) .none ei a pm b c cM) ⟨d,[]⟩=pure (ps.zip d)):Binds K e ps []:=by
 obtain⟨g,l,ei,a,pm,b,c,cM,j,rfl,k,i⟩:=F.ex;exact .all (h ei a pm b c cM)
def Ia{x qual:Str}{st:Stmt}{f:Addr}{e:Value}{h d:Option Addr}{g:Array (Option Value)}{ei a pm b cM:Value}(l:K.lookup f=some ⟨e,h,.func (ahw x qual (ly st) (hA st) (eo st) .none ei a pm d b cM),g⟩)
  (c:W.codeIn K b qual=true) (k:ais K (.ref f)=true):lp K x qual st f (ahw x qual (ly st) (hA st) (eo st) .none ei a pm d b cM):=⟨⟨e,h,ei,a,pm,d,b,cM,g,rfl,l,c⟩,k⟩
end
def f3(h:n<=1000):n<afe:=Nat.lt_of_le_of_lt h (by decide)
def lK{A B:Prop}(h:B):if false=true then A else B:=h
def lL{A B:Prop}(h:A):if true=true then A else B:=h
end aE
set_option maxHeartbeats 4000000
namespace aE
open PySem PySem.Spec PyProof.Rows
section
variable{X:aR}{ah:cS}{U:St}{H:av}{s:afa}{a:Addr}
def Inv.big(J:Inv X ah U H s):ahb<s.heap.objs.size:=by
 exact Nat.lt_trans (by decide) ((J.mod.glob.keeps J.bk).lt)
def P_{h':Heap}{t':Nat}(J:Inv X ah U H s)(d:tO (H a))(aC:ai3 a s.heap h')(he:∃q,h'.get? a=some q)(new:hU X.prog X.w (upd H a cq) h' a cq) :
  Inv X ah U (upd H a cq) { s with heap:=h',toks:=t' }:=
 J.write d (.inl rfl) (λb q c z=>(aC.2 b c).trans z) he new
end
def tP(i:Expr):Prop:=∀b a,ajo i false b a=operate [b,a] (ai1 b a)
def Mt{prog:afA}{w:World}{A:afI}{E:dm}{s:afa}{env:Env}{value a:Expr}{pos:Pos}{T id:String}{Q:dm}
  (g:typeLookup (.type T) "__getitem__"=pure (some (.builtin id))) (aC:tP a)
  (h:wpAny (model prog w) A (eval value env) (λo d=>wpAny (model prog w) A (eval a env) (λi b=>b.TypeIs o T/\wpAny (model prog w) A (ai1 o i) Q E b) E d) E s) :
  wpAny (model prog w) A (eval (.Subscript value a pos) env) Q E s:=by
 refine Subscript_ (afX h (λo d j=>afX j (λi b c=>?_) λ_ _ x=>x) λ_ _ x=>x);obtain⟨f,c⟩:=c;refine B1<|B1 (wpAny_specialOf f g ?_)
 have fin:wpAny (model prog w) A (ajo a false o i) (λr e=>wpAny (model prog w) A (letTemporaryGo value o r >>= λ_=>pure r) Q E e) E b:=by
  rw[aC o i];exact wpAny_operating (afX c (λr e k=>B1 (wpAny_letTemporaryGo (afm k))) λ_ _ x=>x)
 first
  |exact afm (B1 fin)
  |exact B1 (afm (B1 fin))
  |exact B1 fin
structure oR(X:aR)(o:Expr)(m:Str)(apos:Pos)(e:Expr)(cT:Pos):Prop where
 base:agR o m X.env (eval o X.env)=eval o X.env
 Q3:((ahl cT (afV [e] X.env)).all (λx=>!x.1)&&(backToKw cT (aiu [] X.env)).all (λx=>x.1.isSome)
&&decide (([e]:List Expr).length+([]:List ahL).length+(if([]:List ahL).isEmpty then 0 else 1)<30))=true
 line:(apos.endLine==cT.line)=true
 trees:ahl cT (afV [e] X.env)=[(false,eval e X.env)]
class a5 where
 f5:Addr->Prop
 sW:Addr->Str
 wl:World
def oa:fL->Prop
 |.fH _=>False|_=>True
def o3(c:Addr)(q:Str):Heap->Prop:=λh=>h.CodeRec (.ref c) q
def NQ[a5](H:av)(P:Addr):Prop:=∃ps:Array Value,H P=some (.fH ps)/\ajl ps.toList/\∀pos a,aiz pos ps.toList=some a->∃c,a=.ref c/\H c=some (.ext (o3 c (a5.sW P)))
def TabsOk[a5](H:av):Prop:=∀P,a5.f5 P->NQ H P
structure ec[a5](H H':av):Prop where
 at':∀b o,H b=some o->(h:oa o:=by exact trivial)->H' b=some o
 cO:∀b ps,H b=some (.fH ps)->∃kj,H' b=some (.fH kj)
 bt:TabsOk H->TabsOk H'
variable[a5]
def Vo(o:fL):oa o\/∃ps,o=.fH ps:=by cases o<;>first|exact .inl trivial|exact .inr ⟨_,rfl⟩
def ec.refl(H:av):ec H H:=⟨λ_ _ h _=>h,λ_ ps h=>⟨ps,h⟩,id⟩
def ec.trans(a:ec H H1)(b:ec H1 C):ec H C:=
 ⟨λc o h n=>b.at' c o (a.at' c o h n) n,λc ps h=>let⟨p1,ao⟩:=a.cO c ps h;b.cO c p1 ao,λg=>b.bt (a.bt g)⟩
def ec.some{H a:av}(s:ec H a)(h:H b≠none):a b≠none:=by
 cases e:H b with
 |none=>exact absurd e h|some o=>
  rcases Vo o with n|⟨ps,rfl⟩
  .rw[s.at' b o e n];intro z;cases z
  .obtain⟨p,q⟩:=s.cO b ps e;rw[q];intro z;cases z
def ec.free{H a:av}(e:ec H a)(h:a l=Option.none):H l=Option.none:=by
 cases q:H l with
 |none=>rfl| some o=>exact absurd h (e.some (by rw[q];intro z;cases z))
def ec.seq{K:aW}{H b:av}{a:Addr}{xs:List V}(e:ec H b)(h:cL K H a xs):cL K b a xs:=by
 rcases h with(h|⟨o,h⟩)|h
 .exact .inl (.inl (e.at' _ _ h))
 .exact .inl (.inr ⟨o,e.at' _ _ h⟩)
 .exact .inr h
def TabsOk.put{H:av}(g:TabsOk H)(o:fL)(a:∀ps,H p≠some (.fH ps))(b:∀q,H p≠some (.ext (o3 p q))):TabsOk (upd H p o):=λP d=>by
 obtain⟨ps,e,t,c⟩:=g P d;refine⟨ps,by rw[da (by rintro rfl;exact a _ e)];exact e,t,λpos h f=>?_⟩;obtain⟨c',ao,aG⟩:=c pos h f;exact⟨c',ao,by rw[da (by rintro rfl;exact b _ aG)];exact aG⟩
def TabsOk.new{H:av}(g:TabsOk H)(h:H p=none)(o:fL):TabsOk (upd H p o):=g.put o (λps=>by rw[h];intro z;cases z) (λa=>by rw[h];intro z;cases z)
def TabsOk.l{H:av}{p:Addr}{a:List V}(g:TabsOk H)(h:H p=some (.l a))(o:fL):TabsOk (upd H p o):=g.put o (λps=>by rw[h];intro z;cases z) (λb=>by rw[h];intro z;cases z)
def ta{H:av}(h:H p=none)(o:fL):ec H (upd H p o):=
 ⟨λb u q _=>by rw[da (kh q h)];exact q,λb ps q=>⟨ps,by rw[da (kh q h)];exact q⟩,λg=>g.new h o⟩
def vW{a H:av}{D:Addr}(c:a D=none)(s:ec a H)(d:H D=some (.l zs))(o:fL):ec a (upd H D o):=
 ⟨λb u q n=>by rw[da (kh q c)];exact s.at' b u q n,λb ps q=>by rw[da (kh q c)];exact s.cO b ps q,λg=>(s.bt g).l d o⟩
end aE
namespace aE
open PySem
def nL(env:Env):List (Str×ahh)->List (Str×Addr)->List (Str×Addr)
 |[],acc=>acc|(n,k)::r,acc=>if(k==ahY)=true then nL env r ((n,(env.cells.lookup n).getD 0)::acc)else nL env r acc
abbrev o4(scope:Scope)(env:Env):List (Str×Addr):=nL env scope.names []
def Gk{scope:Scope}{env:Env}(h:∀y∈scope.names,y.2=.free->∃c,env.cells.lookup y.1=some c):aiR scope env=pure (o4 scope env):=by
 unfold aiR o4;generalize scope.names=ns at h;generalize([]:List (Str×Addr))=a;show(forIn ns a _ >>= _)=_
 induction ns generalizing a with
 |nil=>rfl|cons y r f=>
  obtain⟨n,k⟩:=y;rw[List.forIn_cons];have d:=λa=>f (λy g=>h y (afl _ g)) a
  by_cases b:(k==ahY)=true
  .have i:k=.free:=by simpa using b
   obtain⟨c,e⟩:=h (n,k) afq i;have ao:cellOf env n=pure c:=by unfold cellOf;rw[e]
   simp only[b,ao,nL,e];exact d _
  .simp only[b,nL]
   exact d _
theorem Ao{env:Env}:∀{ns:List (Str×ahh)}{acc:List (Str×Addr)}{p:Str×Addr},p∈nL env ns acc->p∈acc\/∃k,(p.1,k)∈ns/\k=ahY/\p.2=(env.cells.lookup p.1).getD 0
 |[],_,_,h=>.inl h|(n,k)::r,acc,p,h=>by
  unfold nL at h;split at h
  .rename_i c
   rcases Ao h with h|⟨o,a,b⟩
   .rcases afz.mp h with rfl|h
    .exact .inr ⟨k,afq,by simpa using c,rfl⟩
    .exact .inl h
   .exact .inr ⟨o,afl _ a,b⟩
  .rcases Ao h with h|⟨o,a,b⟩
   .exact .inl h
   .exact .inr ⟨o,afl _ a,b⟩
theorem An:∀{ns:List (Str×ahh)}{acc:List (Str×Addr)}{y:Str},((y,ahY)∈ns\/∃c,(y,c)∈acc)->∃c,(y,c)∈nL env ns acc
 |[],_,_,h=>by
  rcases h with h|h
  .cases h
  .exact h
 |(n,k)::r,acc,y,h=>by
  unfold nL;split
  .refine An ?_
   rcases h with h|⟨c,h⟩
   .rcases afz.mp h with e|h
    .cases e;exact .inr ⟨_,afq⟩
    .exact .inl h
   .exact .inr ⟨c,afl _ h⟩
  .rename_i a
   refine An ?_;rcases h with h|h
   .rcases afz.mp h with e|h
    .cases e;exact absurd rfl a
    .exact .inl h
   .exact .inr h
theorem Kd{α:Type}{y:Str}{c:α}:∀{l:List (Str×α)},(y,c)∈l->∃c',l.lookup y=some c'
 |(n,k)::r,h=>by
  by_cases e:(y==n)=true
  .exact⟨k,by rw[afs,e]⟩
  .have a:(y==n)=false:=by simpa using e
   rcases afz.mp h with z|z
   .cases z;simp at e
   .obtain⟨c',q⟩:=Kd z
    exact⟨c',by rw[afs,a];exact q⟩
def PW{scope:Scope}{env:Env}(h:∀y∈scope.names,y.2=.free->∃c,env.cells.lookup y.1=some c)(e:(o4 scope env).lookup y=some c):env.cells.lookup y=some c:=by
 rcases Ao (agl e)with z|⟨k,a,b,d⟩
 .cases z
 .obtain⟨c',q⟩:=h _ a b
  have d':=d;rw[q]at d' ⊢;exact congrArg some d'.symm
def Gi{scope:Scope}(h:scope.names.lookup y=some .free):∃c,(o4 scope env).lookup y=some c:=by
 obtain⟨c,q⟩:=An (.inl (agl h));exact Kd q
theorem Kk{g:Str×ahh->Str×ahh}{y:Str}(a:∀p,(g p).1=p.1)(b:∀p,p.2≠.cell->(g p).2=.cell\/(g p).2=.free->p.2=.free) :
  ∀{ns:List (Str×ahh)},(∀z∈ns,z.2≠ajz)->((ns.map g).lookup y=some .cell\/(ns.map g).lookup y=some .free)->ns.lookup y=some .free
 | [],_,h=>by simp at h|p::r,hc,h=>by
  rw[aft]at h;have bJ:=a p;have cR:=b p (hc p afq);generalize g p=q at h bJ cR;obtain⟨d,c⟩:=q;obtain⟨n,k⟩:=p;subst bJ;rw[afs]at h ⊢
  cases e:(y==d)with
  |true=>
   rw[e]at h;exact congrArg some (cR (h.imp afy afy))
  |false=>
   rw[e]at h;exact(Kk a b λz hz=>hc z (afl _ hz)) h
def YT{scope:Scope}(c:∀z∈scope.names,z.2≠ajz)(h:(relabel scope env).names.lookup y=some .cell\/(relabel scope env).names.lookup y=some .free):scope.names.lookup y=some .free:=by
 refine Kk (λp=>?_) (λp a q=>?_) c h
 .obtain⟨n,k⟩:=p
  dsimp only;split<;>rfl
 .obtain⟨n,k⟩:=p
  dsimp only at q a ⊢;split at q
  .rename_i b
   have:=(afG _ _▸(afG _ _▸b).1).1;simpa using this
  .exact q.elim (λz=>absurd z a) id
end aE
namespace aE
open PySem PySem.Spec PyProof.Rows
def e3(X:aR)(scope:Scope)(N:List Str)(C:Addr)(a:List Addr)(s:afa)(H:av):aR where
 prog:=X.prog
 w:=X.w
 K:=X.K
 mg:=X.mg
 base:=X.base
 A:=X.A
 N:=N
 gz:=s
 H₀:=H
 env:=compEnvC scope (o4 scope X.env) C X.env
 outer:=X.stack
 stack:=X.stack
 ex:=a
 fn:=λ_=>false
 calm:=X.calm
 m2:=[]
 dx:=λ_ _=>False
abbrev wQ(X:aR)(scope:Scope)(N:List Str)(x:Str):Prop:=∀C a s H,Loc (e3 X scope N C a s H).env.scope x/\(e3 X scope N C a s H).env.scope.names.lookup x=some .local
structure nq(esc scope:Scope)(EN N:List Str)(n:Nat)(cap:List Nat):Prop where
 kind:scope.kind=.function
 cell:∀y∈scope.names,y.2≠.cell
 loc:∀y∈scope.names,y.2=.local->scope.names.lookup y.1=some .local
 free:∀y∈scope.names,y.2=.free->esc.names.lookup y.1=some .cell\/esc.names.lookup y.1=some .free
 c2:N.Nodup
 len:N.length=n+cap.length
 PQ:∀j<cap.length,N[n+j]? = EN[cap.getD j 0]?/\∀x,N[n+j]? = some x->scope.names.lookup x=some .free
def ha(n:Nat)(cap:List Nat)(U:St):St:=af0 n none++cap.map λk=>(U[k]?).join
def P1{cap:List Nat}:(ha n cap U).length=n+cap.length:=by
 unfold ha;rw[afb,agc,sg]
def P0{cap:List Nat}{U:St}{v:V}(h:(ha n cap U)[i]? = some (some v)):∃j,i=n+j/\j<cap.length/\U[cap.getD j 0]? = some (some v):=by
 unfold ha at h
 by_cases hi:i<n
 .rw[afk (by simpa using hi),agH,if_pos hi]at h
  cases h
 .rw[afn (by simpa using hi),agc,afh]at h
  cases e:cap[i-n]? with
  |none=>rw[e]at h;cases h
  |some k=>
   rw[e]at h;refine⟨i-n,by omega,((fk.mp e).1),?_⟩;have h':(U[k]?).join=some v:=afy h;rw[agj,e,Option.getD_some]
   cases q:U[k]? with
   |none=>rw[q]at h';cases h'
   |some z=>rw[q]at h';exact congrArg some h'
section
variable{X:aR}{scope esc:Scope}{EN N:List Str}{n:Nat}{cap:List Nat}{ah:cS}{U:St}{H:av}{s:afa}{bK:List Addr}
def TS{h':Heap}{tk:Nat}{m:bx}(S:nq esc scope EN N n cap)(he:X.env.scope=esc)(hN:X.N=EN)(J:Inv X ah U H s)(t:∀b∈bK,g7 X ah H b)(L:∀b∈bK,∃o,s.heap.get? b=some o)
  (W:h'.Ns s.heap.objs.size m) (k:∀b o,s.heap.get? b=some o->h'.get? b=some o) :
  Inv (e3 X scope N s.heap.objs.size bK s H) [] (ha n cap U) H { s with heap:=h',toks:=tk }:=by
 have V:∀y∈scope.names,y.2=.free->∃c,X.env.cells.lookup y.1=some c:=λy B R=>by
  refine J.ok.has y.1 ?_;show X.env.scope.names.lookup y.1=_\/X.env.scope.names.lookup y.1=_;rw[he];exact S.free y B R
 have up:∀{y:Str}{c:Addr},(o4 scope X.env).lookup y=some c->X.env.cells.lookup y=some c:=λ{y c} e=>PW V e
 have I:∀y,(e3 X scope N s.heap.objs.size bK s H).env.kindOf y=some .cell\/(e3 X scope N s.heap.objs.size bK s H).env.kindOf y=some .free->scope.names.lookup y=some .free:=λy h=>YT S.cell h
 have f:∀c v,s.heap.IsCell c v->h'.IsCell c v:=λc v ⟨o,e,d⟩=>⟨o,k c o e,d⟩
 refine⟨⟨J.ok.mod,S.kind,J.ok.glob,J.ok.blt,ae9 _,λx y c O Q=>J.ok.inj x y c (up O) (up Q),λy B=>Gi (I y B),λ_ _ z=>absurd z afc,J.ok.hd,J.ok.frames,.inl rfl,λb g=>⟨?_,λx c e=>(t b g).2.2.2.2.1 x c (up e)⟩,J.bs,af7 J.ok.mC J.k8,λb o e g=>?_,λb g hz=>?_,J.stack,J.Mq⟩,
  rfl,J.bare,gm.kept k,⟨m,W,λi x v ao aG cI=>?_⟩,λx c e=>?_,J.cf.fresh (ae9 _),λx c e=>J.lB x c (up e),λp K=>absurd (show p∈([]:cS)from K) (by simp),J.cf.kept k,?_⟩
 .obtain⟨o,e⟩:=L b g
  exact afH (afp e)
 .refine cc λa=>?_
  rcases(t b g).2.2.2.1 with z|z
  .exact a (J.ok.vm b o e z)
  .exact a (absurd (afK (afp e) (af7 J.ok.mC z)) (agf _))
 .refine cc λa=>?_
  rcases afz.mp (J.Dx b hz)with z|z
  .exact a ((t b g).2.1 z)
  .exact a ((t b g).2.2.1 z)
 .refine cc λa=>?_
  obtain⟨j,rfl,M,dh⟩:=P0 aG;obtain⟨cX,aa⟩:=S.PQ j M;have ao:N[n+j]? = some x:=ao;have A:=aa x ao;rw[ao,<-hN]at cX;obtain⟨c,F⟩:=Gi A;obtain⟨Z,Y,T⟩:=J.loc;have G:X.env.scope.names.lookup x=some .cell\/X.env.scope.names.lookup x=some .free:=by
   rw[he];exact S.free (x,.free) (agl A) rfl
  obtain⟨u,r,l⟩:=T _ x v cX.symm dh (G.elim (λz=>.inr (.inl z)) λz=>.inr (.inr z));refine a ⟨u,r,.inr ⟨?_,c,F,?_⟩⟩
  .refine cc λa=>?_
   rcases cI with z|z|z
   .refine a ?_
    exfalso;have hz:∀ns:List (Str×ahh),ns.lookup x=some .free->(ns.map λ(n,k)=>if(k==ahY&&X.env.scope.kind==.function&&X.env.kindOf n==some .cell)then(n,ajz)else(n,k)).lookup x≠some .local:=by
     intro ns
     induction ns with
     |nil=>intro h;simp at h|cons p r D=>
      obtain⟨m2,P⟩:=p;intro h;rw[aft];rw[afs]at h
      cases q:(x==m2)with
      |true=>
       rw[q]at h;have h':=afy h;subst h';dsimp only;split
       .rw[afs,q];intro w;cases w
       .rw[afs,q];intro w;cases w
      |false=>
       rw[q]at h;dsimp only;split
       .rw[afs,q];exact D h
       .rw[afs,q];exact D h
    exact hz _ A z
   .exact a (.inl z)
   .exact a (.inr z)
  .refine cc λa=>?_
   rcases l with⟨q,_⟩|⟨_,c',jh,z⟩
   .refine a ?_
    exfalso;have E:X.env.scope.names.lookup x=some .local:=q;rcases G with w|w<;>rw[w]at E<;>cases E
   .rw[up F]at jh
    cases jh;exact a (f c _ z)
 .obtain⟨v,z⟩:=J.cell x c (up e)
  exact⟨v,f c v z⟩
 .show(ha n cap U).length=N.length
  rw[P1,S.len]
def TR{N:List Str}(J:Inv X ah U H s)(d:∀b∈bK,g7 X ah H b)(c:Inv (e3 X scope N C bK s H) o U' H' s'):Inv X ah U H' s':=
 J.PE c.os c.base c.cf c.bare λb a=>⟨(d b a).2.2.2.1,(d b a).2.1,(d b a).2.2.2.2.1,(d b a).2.2.2.2.2⟩
end
section
variable{X:aR}
def rz(X:aR)(a:List Expr)(t:TT):Prop:=
 ∀(b:cS)(s:afa)(U:St)(H:av)(Q:Bool->av->Prop),Inv X b U H s->t U H Q->
  wpAny (model X.prog X.w) X.A (forIn a true λc r=>if r=true then do let ok <-isTrue c X.env (eval c X.env);pure (aie ok)else pure (aie r)) (zy X b U Q) X.dx s
def Z7:TT:=λ_ H Q=>Q true H
def X_:rz X [] Z7:=λ_ _ _ H _ J h=>wpAny_tests_nil ⟨H,J,h⟩
def X'(h:hW X c t):rz X [c] t:=λa s U H Q J b=>wpAny_tests_one (h a s U H Q J b)
end
section
variable{prog:afA}{w:World}{A:afI}{R:Result->afa->Prop}{s:afa}
def PX{d a f:Expr}{e:List Expr}{scope:Scope}{pos:Pos}{it b:Value}{env:Env}(J:Nat->afa->Prop)
  (turn:∀n s,J n s->wpAny (model prog w) A (pyNext it) (λr g=>match r with
   |none=>R (.ok .next) g| some v=>wpAny (model prog w) A (aia a it v) (λ_ j=>wpAny (model prog w) A (ahD a env v) (λ_ l=>
     wpAny (model prog w) A (forIn e true λc r=>if r=true then do let ok <-isTrue c env (eval c env);pure (aie ok)else pure (aie r)) (λok i=>
      if ok=true then wpAny (model prog w) A (eval d env) (λx t=>
       wpAny (model prog w) A (call (.builtin "list.append") [b,x]) (λ_ k=>∃m,m<n/\J m k) (λ_ _=>False) t) (λ_ _=>False) i
      else ∃m,m<n/\J m i) (λ_ _=>False) l) (λ_ _=>False) j) (λ_ _=>False) g) (λ_ _=>False) s)
  (n:Nat) (h:J n s) :
  ah2 (model prog w) A (.compLoop (.ListComp d [⟨a,f,e,0⟩] scope pos) 0 it b env) R s:=by
 refine codeAny_loop rfl J (λn s B=>?_) n h;refine wpAny_noted<|B1 (aiF (B1 (afX (turn n s B) (λr g p=>?_) λ_ _ h'=>h'.elim)))
 cases r with
 |none=>exact afm p|some v=>
  refine B1 (afX p (λ_ j u=>?_) λ_ _ h'=>h'.elim);refine B1 (afX u (λ_ l D=>B1 (afX D (λok i q=>?_) λ_ _ h'=>h'.elim)) λ_ _ h'=>h'.elim)
  cases ok with
  |false=>exact afm ⟨rfl,q⟩|true=>
   exact B1 (B1 (afX q (λx t y=>B1 (afX y (λ_ k z=>afm (afm ⟨rfl,z⟩)) λ_ _ h'=>h'.elim)) λ_ _ h'=>h'.elim))
end
def oM(U a:St):Prop:=U.length=a.length/\∀(i:Nat) v,U[i]? = some (some v)->a[i]? = some (some v)
def oM.refl(U:St):oM U U:=⟨rfl,λ_ _ h=>h⟩
def oM.set{U b:St}(h:oM U b)(c:U[i]? = some none):oM U (b.set i (some x)):=by
 refine⟨by rw[af6];exact h.1,λj v e=>?_⟩
 by_cases a:i=j
 .subst a;rw[c]at e;cases e
 .rw[afu a];exact h.2 j v e
def As(c:hT)(U':St)(g:hZ)(p:TT)(n:TE)(D:Addr)(j:av)(Q:cC):Prop:=
  ∃W:Nat->Nat->List V->av->Prop,(∃m,W 0 m [] (upd j D (.l [])))/\∀i m ys H,W i m ys H->
   ((c.stop i H/\Q (.ref D) H)\/(c.go i H/\∀x e,c.pX i H x e->g x U' e λd k=>oM U' d/\p d k λb f=>
       if b=true then n d f λy h=>h D=some (.l ys)/\ys.length<afe/\∃a,a<m/\W (i+1) a (ys++[y]) (upd h D (.l (ys++[y])))else ∃a,a<m/\W (i+1) a ys f))
def yU(n:Nat)(cap:List Nat)(e:TI)(g:hZ)(d:TT)(c:TE):TE:=λU H Q=>e U H λb a=>∀D,a D=none->As b (ha n cap U) g d c D a Q
section
variable{X:aR}{scope esc:Scope}{EN N:List Str}{n:Nat}{cap:List Nat}{ah:cS}{U:St}{s:afa}{elt b_ iter:Expr}{ifs:List Expr}{pos:Pos}{g:hZ}{tt:TT}{te:TE}
def Gn{E:dm}{H:av}{bY:hT}{a:List Addr}{it:Addr}{eb:Nat->Heap->Prop}{Q:cC}{wI:Value->Addr->Result->afa->Prop}(S:nq esc scope EN N n cap)(he:X.env.scope=esc)(hN:X.N=EN)(hc:X.calm=true)
  (bD:∀C a s H,nA (e3 X scope N C a s H) b_ g) (bM:∀C a s H,rz (e3 X scope N C a s H) ifs tt) (iV:∀C a s H,ck (e3 X scope N C a s H) elt te)
  (J:Inv X ah U H s) (T:Turn X.prog X.w X.K b_ bY a it eb) (st:eb 0 s.heap) (hf:∀b∈a,g7 X ah H b) (ba:∀D,H D=none->As bY (ha n cap U) g tt te D H Q)
  (RS:∀D C c h m,Inv X ah U c h->g7 X ah c C->h.heap.Ns C m->Q (.ref D) c->wI (.ref D) C (.ok .next) h) :
  wpAny (model X.prog X.w) X.A (newList []) (λB t=>wpAny (model X.prog X.w) X.A (newFunctionEnv scope X.env.globals (o4 scope X.env) [] X.env.qual none .none (some X.env)) (λGg yQ=>
   ah2 (model X.prog X.w) X.A (.compStart (.ListComp elt [⟨b_,iter,ifs,0⟩] scope pos) 0 (.ref it) B { Gg with scope:=relabel scope X.env }) (wI B Gg.locals) yQ) E t) E s:=by
 refine wpAny_newObj_type (wpAny_newFunctionEnv S.cell (by intro y bl;simp at bl) (λr' I6 I_=>?_) S.kind);have F:=J.Kc (t':=s.toks) .nil (afC _);obtain⟨W,⟨m0,nc⟩,turn⟩:=ba _ J.fresh;generalize I9:({ s with heap:=s.heap.push { cls:=.type "list",data:=.seq ([]:List Value).toArray },toks:=s.toks }:afa)=s3 at F;have k3:∀b o,s.heap.get? b=some o->s3.heap.get? b=some o:=λb o e=>by rw[<-I9];exact afg _ e
 have hh:s.heap.push { cls:=.type "list",data:=.seq ([]:List Value).toArray }=s3.heap:=by rw[<-I9]
 try rw[hh]at I6
 try rw[hh]at I_
 have M:∀b∈a,g7 X ah (upd H s.heap.objs.size (.l [])) b:=λb f=>by
  refine⟨?_,(hf b f).2⟩;obtain⟨o,e,_⟩:=T.obj _ _ st b f;rw[da (afH (afp e))];exact(hf b f).1
 have Jv:=λb o e=>I_.extBut b o (afH (afp e)) (afg _ e)
 have cq:∀b∈a,∃o,s3.heap.get? b=some o:=λb f=>by
  obtain⟨o,e,_⟩:=T.obj _ _ st b f;exact⟨o,k3 b o e⟩
 have Mp:=T.keep _ _ _ st λb _ o e=>Jv b o (k3 b o e)
 have RK:s3.heap.objs.size<=s3.heap.objs.size:=ae9 _;have j:∀t:afa,t.heap=r'->Inv (e3 X scope N s3.heap.objs.size a s3 (upd H s.heap.objs.size (.l []))) [] (ha n cap U) (upd H s.heap.objs.size (.l [])) t->
   ah2 (model X.prog X.w) X.A (.compLoop (.ListComp elt [⟨b_,iter,ifs,0⟩] scope pos) 0 (.ref it) (.ref s.heap.objs.size) (compEnvC scope (o4 scope X.env) s3.heap.objs.size X.env)) (wI (.ref s.heap.objs.size) s3.heap.objs.size) t:=by
  intro t QZ I;have q7:∀{c:av},(∀b∈a,c b=none)->∀b∈a,g7 (e3 X scope N s3.heap.objs.size a s3 (upd H s.heap.objs.size (.l []))) [] c b:=λ{c} V b f=>
   ⟨V b f,(I.ok.w' b f).1,I.ok.ur b f,.inl f,(I.ok.w' b f).2,λp aB=>absurd (show p∈([]:cS)from aB) (by simp)⟩
  refine PX (λk h=>∃i ys c,Inv (e3 X scope N s3.heap.objs.size a s3 (upd H s.heap.objs.size (.l []))) [] (ha n cap U) c h/\eb i h.heap/\(∀b∈a,c b=none)/\W i k ys c) ?_ m0
   ⟨0,[],_,I,by rw[QZ];exact Mp,λb f=>(M b f).1,nc⟩
  rintro k s5 ⟨i,ys,G,wy,tf,xf,R⟩;rcases turn i k ys G R with⟨stop,q⟩|⟨go,step⟩
  .refine cn (T.done (e3 X scope N s3.heap.objs.size a s3 (upd H s.heap.objs.size (.l []))) rfl rfl rfl hc i [] s5 _ G _ wy (q7 xf) tf stop) λr s6 ⟨P,tK⟩=>?_
   subst P;obtain⟨m,V,_⟩:=tK.loc;exact RS _ _ G s6 m (TR F M tK) (F.qr RK tK.free) V q
  .refine cn (T.item (e3 X scope N s3.heap.objs.size a s3 (upd H s.heap.objs.size (.l []))) rfl rfl rfl hc i [] s5 _ G (λ_ _=>False) wy (q7 xf) tf go) λr s6 ⟨u,P,mQ⟩=>?_
   subst P;refine cn mQ λ_ s7 ⟨x,jB,jV,C6,rq,O,Ro⟩=>?_
   refine cn (bD _ _ _ _ _ s7 _ jB x u _ (jV.pinned (q7 Ro) (T.obj _ _ O)) C6 (step x jB rq)) λ_ s8 ⟨L,NC,NI,xb,lT⟩=>?_
   refine cn (bM _ _ _ _ _ s8 L NC _ NI lT) λb s9 ⟨Ee,Eg,js⟩=>?_
   have back:∀{c:av}{h:afa},Inv (e3 X scope N s3.heap.objs.size a s3 (upd H s.heap.objs.size (.l []))) ([]++sV a s7.heap) L c h->
     Inv (e3 X scope N s3.heap.objs.size a s3 (upd H s.heap.objs.size (.l []))) [] (ha n cap U) c h/\eb (i+1) h.heap/\∀b∈a,c b=none:=λ{c h} g8=>by
    refine⟨g8.vV.weak xb.1 xb.2,T.keep _ _ _ O λb f o e=>(g8.pin (b,o) (afJ _ (afJ _ (yh f e)))).1,λb f=>?_⟩;obtain⟨o,e,d⟩:=T.obj _ _ O b f;exact(g8.pin (b,o) (afJ _ (afJ _ (yh f e)))).2.1
   cases b with
   |false=>
    obtain⟨Y,hm,i6⟩:=js;obtain⟨Z,gb,j2⟩:=back Eg;exact⟨Y,hm,i+1,ys,Ee,Z,gb,j2,i6⟩
   |true=>
    refine cn (iV _ _ _ _ _ s9 L Ee _ Eg js) λv Y9 ⟨y,Ed,NG,YJ,RM,hz,Y,hm,i6⟩=>?_
    refine cn (Ce _ Y9 L Ed (.ref s.heap.objs.size) [y] (.ref s.heap.objs.size) [v] (λz c=>z=.aF/\c=upd Ed s.heap.objs.size (.l (ys++[y]))) NG rfl (.cons YJ .nil) ⟨_,ys,y,rfl,rfl,RM,hz,rfl,rfl⟩) λz aeW ⟨Nk,acT,NH,_,_,iP⟩=>?_
    subst iP;obtain⟨Z,gb,j2⟩:=back NH;exact⟨Y,hm,i+1,ys++[y],_,Z,gb,j2,i6⟩
 have Ef:=(TS (tk:=s3.toks) S he hN F M cq I6 Jv);exact codeAny_compStart_list (j _ rfl Ef) (T.self _ 0 _ _ _ Mp (j _ rfl Ef))
theorem XT(S:nq esc scope EN N n cap){d:TI}(hi:jD X b_ iter d)(u:∀C a s H,nA (e3 X scope N C a s H) b_ g)(w:∀C a s H,rz (e3 X scope N C a s H) ifs tt)(I:∀C a s H,ck (e3 X scope N C a s H) elt te)
  (he:X.env.scope=esc:=by rfl) (hN:X.N=EN:=by rfl) (G:X.calm=true:=by rfl) (aC:j0 X iter:=by intro _;rfl):ck X (.ListComp elt [⟨b_,iter,ifs,0⟩] scope pos) (yU n cap d g tt te):=by
 intro ah s U H Q J h;have f:=Gk λy z r=>J.ok.has y.1 (by
  show X.env.scope.names.lookup y.1=_\/X.env.scope.names.lookup y.1=_;rw[he];exact S.free y z r)
 refine wpAny_comprehension_free rfl aC f S.kind S.loc (cn (hi ah s U H _ J h) λv O k=>cn k λR P l=>?_);obtain⟨it,a,eb,L,K,e,A,T,B,E,x⟩:=l;subst e;refine Gn S he hN G u w I A T B E x λD C j M m F c t q=>?_
 exact⟨m,t,λh' i=>⟨.ref D,j,F.turned (λb o p e=>i.extBut b o p e) c.1 c.2.1 c.2.2.2.1 c.2.2.2.2.1 c.2.2.2.2.2,rfl,q⟩⟩
theorem Yt{i:Nat}{y:Str}{py l:Pos}(S:nq esc scope EN N n cap){p:TI}(qx:X.N.Nodup)(Y:X.N[i]? = some y)(j:X.env.scope.names.lookup y=some .local)(hi:jD X b_ iter p)(O:∀C f s H,nA (e3 X scope N C f s H) b_ g)(P:∀C f s H,rz (e3 X scope N C f s H) ifs tt)(iV:∀C f s H,ck (e3 X scope N C f s H) elt te)
  (he:X.env.scope=esc:=by rfl) (hN:X.N=EN:=by rfl) (Z:X.calm=true:=by rfl) (aC:j0 X iter:=by intro _;rfl)
  (iA:agD (.ListComp elt [⟨b_,iter,ifs,0⟩] scope pos) (some (.Name y py)) l.line X.env=pure true:=by rfl) :
  iq X (.Assign [.Name y py] (.ListComp elt [⟨b_,iter,ifs,0⟩] scope pos) l) (ti (yU n cap p g tt te) (mP i)):=by
 intro ah s U H D J h;have r:=Gk λy j L=>J.ok.has y.1 (by
  show X.env.scope.names.lookup y.1=_\/X.env.scope.names.lookup y.1=_;rw[he];exact S.free y j L)
 rw[exec_Assign_Name_used _ _ _ _ iA];refine B1 (aiF (B1 ?_));refine B1 (afX (wpAny_comprehension_free rfl aC r S.kind S.loc
  (cn (hi ah s U H _ J h) λv s1 F=>cn F λxF s2 G=>?_)) (λ_ s' k=>afm (afm k)) λ_ _ e=>e)
 refine cc λd=>?_
 obtain⟨it,f,eb,bY,aT,e,Q,T,R,V,k⟩:=G;subst e;refine d ?_;refine Gn S he hN Z O P iV Q T R V k λA C u s' m W c M q=>?_
 refine wpAny_assign_Name (Ms (v:=.ref A) W qx Y (.inl j) rfl (λyH x ch=>?_) (.inr j));refine cc λd=>?_
 obtain⟨a,E,K⟩:=ch;have B:C≠a:=by
  refine cc λd=>?_
  rcases K with z|z
  .refine d ?_
   rw[z];exact c.2.1
  .exact d (λw=>c.2.2.2.2.1 y a z w.symm)
 refine d ⟨m,M.sameBut E B,λh' t=>?_⟩;exact⟨_,u,x.turned (λb o I e=>t.extBut b o I e) c.1 c.2.1 c.2.2.2.1 c.2.2.2.2.1 c.2.2.2.2.2,q⟩
end
structure gC(P:afA)(w:World)(K:aW)(mg:bx)(base:Heap)(x:Str)(ps:List Str)(k:Nat)(sp:iM):Prop where
 ex:∃f fd,f6 P w K mg base fi k f fd ps sp/\Binds K fd ps []/\ais K (.ref f)=true/\mg x=some (.ref f)
structure iL(K:aW)(mg:bx)(x:Str)(st:Stmt)(ps:List Str):Prop where
 ex:∃f fd,lp K x x st f fd/\Binds K fd ps []/\mg x=some (.ref f)
section
variable{P:afA}{w:World}{K:aW}{mg:bx}{base:Heap}{x:Str}{ps:List Str}{k:Nat}{sp:iM}
def gC.mono(h:gC P w K mg base x ps k sp)(c:k<=j):gC P w K mg base x ps j sp:=by
 obtain⟨f,d,a,b⟩:=h.ex;exact⟨f,d,a.mono c,b⟩
end
section
variable{X:aR}{x:Str}{ps:List Str}{k:Nat}{sp:iM}{p pos:Pos}{e:Expr}{aw:List Expr}{t:fC}
def yW(sp:iM)(t:fC):TE:=λU H Q=>t U H λb a=>sp b a Q jz
def yy(h:gC X.prog X.w X.K X.mg X.base x ps k sp)(d:c6 k X.A)(j:d5 X x)(i:gR X (e::aw) t)(n:eT x:=by decide)
  (he:fm X e aw:=by rfl) (q:gF X pos aw:=by rfl):ck X (.Call (.Name x p) (e::aw) [] pos) (yW sp t):=by
 obtain⟨f,u,F,b,kp,m⟩:=h.ex;intro g s U H Q J l;refine XN F d j m kp b .nil CI i n he q g s U H Q J ?_;have r:t U H λc a=>sp c a Q jz:=l
 show t U H λc a=>sp (c++[]) a Q jz
 simpa only[agO]using r
def XU(h:gC X.prog X.w X.K X.mg X.base x ps k sp)(a:c6 k X.A)(d:d5 X x)(i:eT x:=by decide):ck X (.Call (.Name x p) [] [] pos) (yW sp DB):=by
 obtain⟨f,j,F,b,kp,m⟩:=h.ex;intro c s U H Q J g;exact XO F a d m kp b .nil CI i c s U H Q J g
end
structure wC(K:aW):Prop where
 h2:∀t∈["NoneType","bool","int","str","list","tuple"],∀c∈["int","bool","tuple","list","str"],W.kitOne K (.type t) (.type c)=some (t==c||(t == "bool"&&c == "int"))
inductive mu(K:aW)(H:av):V->String->Prop where
 |aF:mu K H .aF "NoneType"
 |aM (x:Bool):mu K H (.aM x) "bool"
 |int (i:Int):mu K H (.int i) "int"
 |str (x:Str):mu K H (.str x) "str"
 |l {a:Addr}{xs:List V}(e:cL K H a xs):mu K H (.ref a) "list"
 |t {a:Addr}{xs:List V}(e:dr K H a xs):mu K H (.ref a) "tuple"
abbrev aaw:List String:=["NoneType","bool","int","str","list","tuple"]
def mu.mem{K:aW}{H:av}{x:V}{t:String}(h:mu K H x t):t∈aaw:=by
 cases h<;>decide
section
variable{X:aR}
def uR(t n:String):Bool:=t==n||(t == "bool"&&n == "int")
def Lz(K:aW):List V->av->cC->Prop:=λxs H Q=>∃x n t,xs=[x,.ty n]/\mu K H x t/\n∈["int","bool","tuple","list","str"]/\Q (.aM (uR t n)) H
def PI(kt:wC X.K):jU X (.builtin "isinstance") (Lz X.K):=by
 intro j s U H xs A Q J p h;obtain⟨x,n,t,rfl,ty,k,q⟩:=h;obtain⟨u,r,rfl,b,m⟩:=vals2 p;cases(show r=ajv n from m);have e:=kt.h2 t ty.mem n k;have fin:∀tk,hS X j U Q (.bool (uR t n)) { s with toks:=tk }:=λtk=>⟨.aM _,H,J.tok tk,rfl,q⟩
 cases ty with
 |aF=>cases(show u=ag9 from b);exact aiA W.kitx_none J.iY aiS e (λz=>nomatch z) fin
 |aM y=>cases(show u=Value.bool y from b);exact aiA W.kitx_bool J.iY aiS e (λz=>nomatch z) fin
 |int i=>obtain⟨t,q⟩:=(show ∃t,u=Value.int i t from b);cases q;exact aiA W.kitx_int J.iY aiS e (λz=>nomatch z) fin
 |str y=>obtain⟨t,q⟩:=(show ∃t,u=Value.str y t from b);cases q;exact aiA W.kitx_str J.iY aiS e (λz=>nomatch z) fin
 |@l a xs f=>
  cases(show u=aha a from b);obtain⟨g,_,⟨o,w,c,d,_⟩,_⟩:=J.list f;exact aiA W.kitx_list J.iY ⟨o,c,d⟩ e (λz=>nomatch z) fin
 |@t a xs f=>
  cases(show u=aha a from b);obtain⟨g,_,⟨o,c,d,_⟩,_⟩:=J.tuple f;exact aiA W.kitx_tuple J.iY ⟨o,c,d⟩ e (λz=>nomatch z) fin
end
mutual
def Rep(K:aW)(H:av):PyData->V->Prop
 |.none,v=>v=.aF|.bool b,v=>v=.aM b|.int i,v=>v=.int i|.str x,v=>v=.str x|.list ds,v=>∃a xs,v=.ref a/\cL K H a xs/\a' K H ds xs|.tuple ds,v=>∃a xs,v=.ref a/\dr K H a xs/\a' K H ds xs|.dict _,_=>False
def a'(K:aW)(H:av):List PyData->List V->Prop
 |[],xs=>xs=[]|d::ds,xs=>∃x r,xs=x::r/\Rep K H d x/\a' K H ds r
end
def ec.yI[a5]{K:aW}{H b:av}{a:Addr}{xs:List V}(e:ec H b)(h:dr K H a xs):dr K b a xs:=by
 rcases h with(h|⟨o,h⟩)|h
 .exact .inl (.inl (e.at' _ _ h))
 .exact .inl (.inr ⟨o,e.at' _ _ h⟩)
 .exact .inr h
section
variable{X:aR}{ah:cS}{U:St}{H:av}{s:afa}
mutual
theorem Rep.reads(J:Inv X ah U H s):∀{d:PyData}{v:V}{u:Value},Rep X.K H d v->RelV v u->∃b,Reads s.heap u d b
 |.none,_,_,h,r=>by cases h;cases r;exact⟨_,.none⟩
 |.bool _,_,_,h,r=>by cases h;cases r;exact⟨_,.bool _⟩
 |.int _,_,_,h,r=>by cases h;obtain⟨t,rfl⟩:=r;exact⟨_,.int _ _⟩
 |.str _,_,_,h,r=>by cases h;obtain⟨t,rfl⟩:=r;exact⟨_,.str _ _⟩
 |.list _,_,_,h,r=>by
  obtain⟨a,xs,rfl,l,q⟩:=h;cases r;obtain⟨g,f,⟨o,n,e,c,_,d⟩,_⟩:=J.list l;obtain⟨b,z⟩:=a'.reads J q f;exact⟨_,.list e c d (by simpa using z)⟩
 |.tuple _,_,_,h,r=>by
  obtain⟨a,xs,rfl,l,q⟩:=h;cases r;obtain⟨g,f,⟨o,e,c,n,d⟩,_⟩:=J.tuple l;obtain⟨b,z⟩:=a'.reads J q f;exact⟨_,.tuple e c d (by simpa using z)⟩
 |.dict _,_,_,h,_=>h.elim
theorem a'.reads(J:Inv X ah U H s):∀{ds:List PyData}{xs:List V}{d:List Value},a' X.K H ds xs->Vals xs d->∃c,ReadsAll s.heap d ds c
 |[],_,_,h,r=>by cases h;cases r;exact⟨_,.nil⟩
 |_::_,_,_,h,r=>by
  obtain⟨x,t,rfl,a,b⟩:=h
  cases r with
  |cons f e=>
   obtain⟨c,i⟩:=Rep.reads J a f;obtain⟨bs,g⟩:=a'.reads J b e;exact⟨_,.cons i g⟩
end
end
section
variable{X:aR}
def vH(K:aW)(a:Bool):fv:=λx y H Q=>∃d e,Rep K H d x/\Rep K H e y/\ajH d=true/\ajH e=true/\Q (.aM (if a then !ajw d e else ajw d e)) H
def CA(f:X.A.units+64<cLine):eJ X (agb .Eq) (vH X.K false):=by
 intro l s U H x y v u Q J c g h;obtain⟨d,e,a,b,s_,j,q⟩:=h;obtain⟨m,k⟩:=a.reads J c;obtain⟨bs,i⟩:=b.reads J g;exact eq_dataH k i s_ j f ⟨.aM _,H,J,rfl,q⟩
def KU(f:X.A.units+64<cLine):eJ X (agb .NotEq) (vH X.K true):=by
 intro l s U H x y v u Q J c g h;obtain⟨d,e,a,b,s_,j,q⟩:=h;obtain⟨m,k⟩:=a.reads J c;obtain⟨bs,i⟩:=b.reads J g;exact ne_dataH k i s_ j f ⟨.aM _,H,J,rfl,q⟩
end
def F3:afW "len"=some (.builtin "len"):=by decide +kernel
def Py:afW "isinstance"=some (.builtin "isinstance"):=by decide +kernel
def Pw:afW "any"=some (.builtin "any"):=by decide +kernel
def F2:afW "int"=some (.type "int"):=by decide +kernel
def Px:afW "bool"=some (.type "bool"):=by decide +kernel
def F4:afW "list"=some (.type "list"):=by decide +kernel
def F6:afW "tuple"=some (.type "tuple"):=by decide +kernel
def PB:afW "str"=some (.type "str"):=by decide +kernel
variable[a5]
def wz(a:hT)(c:av)(xs:List V):Prop:=∀H,ec c H->∀i,(i<xs.length->a.go i H/\∀x b,a.pX i H x b->b=H/\xs[i]? = some x)/\(xs.length<=i->a.stop i H)
def Jn{K:aW}{H:av}{a:Addr}{xs:List V}(h:cL K H a xs):wz (oP K a) H xs:=λb s i=>
 ⟨λhi=>⟨⟨xs,xs[i],s.seq h,by simp⟩,λx c y=>⟨y.1,y.2 xs (s.seq h)⟩⟩,λhi=>⟨xs,s.seq h,hi⟩⟩
def Jp{K:aW}{H:av}{a:Addr}{xs:List V}(h:dr K H a xs):wz (ru K a) H xs:=λb s i=>
 ⟨λhi=>⟨⟨xs,xs[i],s.yI h,by simp⟩,λx c y=>⟨y.1,y.2 xs (s.yI h)⟩⟩,λhi=>⟨xs,s.yI h,hi⟩⟩
def lU(lo:Int)(n:Nat):List V:=(afR n).map λi=>V.int (lo+(i:Nat))
def xE(lo:Int)(n:Nat):wz (mi lo n) H (lU lo n):=λb s i=>by
 have a:(lU lo n).length=n:=by unfold lU;rw[sg,agT]
 refine⟨λhi=>⟨by rw[a]at hi;exact hi,λx c y=>⟨y.1,?_⟩⟩,λhi=>by rw[a]at hi;exact hi⟩;rw[a]at hi;rw[y.2];unfold lU;rw[afh,aip hi];rfl
end aE
namespace aE
open PySem PySem.Spec PyProof.Rows
def iL.none{P:afA}{w:World}{K:aW}{mg:bx}{base:Heap}{x:Str}{st:Stmt}{ps:List Str}{k:Nat}{c:iM}(D:iL K mg x st ps)(no:∀a H Q E,¬c a H Q E):gC P w K mg base x ps k c:=by
 obtain⟨f,d,F,b,m⟩:=D.ex;exact⟨f,d,⟨λa H Q E h=>absurd h (no a H Q E),λA outer s H args e a Q E _ _ _ _ h=>absurd h (no a H Q E)⟩,b,F.kp,m⟩
def Uz(K:aW):wC K:=⟨by
 intro t a c b;simp only[afz,List.mem_nil_iff,or_false]at a b;rcases a with rfl|rfl|rfl|rfl|rfl|rfl<;>rcases b with rfl|rfl|rfl|rfl|rfl<;>kernel_rfl⟩
def range_any(bs:List Bool):(afR bs.length).any (λi=>bs.getD i false)=bs.any id:=by
 rw[ajm,ag1,ag1];constructor
 .rintro⟨i,hi,h⟩
  have a:=agp.mp hi;refine⟨bs[i],ai6 a,?_⟩;rw[agj,afi a]at h;exact h
 .rintro⟨b,c,h⟩
  obtain⟨i,hi,rfl⟩:=List.getElem_of_mem c;refine⟨i,agp.mpr hi,?_⟩;rw[agj,afi hi];exact h
section
variable{X:aR}{K:aW}
def aam{bs:List Bool}{a:List Value}(b:Vals (bs.map V.aM) a):TruthOf prog w A (λi v=>a.toArray[i]? = some v) (λi=>bs.getD i false):=by
 intro i v s Q E f h;have d:a[i]? = some v:=by simpa using f
 have hi:i<bs.length:=by
  have k:=(fk.mp d).1;have g:=b.length;rw[sg]at g;omega
 obtain⟨u,c,j⟩:=b.get (by rw[afh,afi hi];rfl);rw[d]at c;cases c;cases j;have e:Q (bs.getD i false) s:=h;rw[agj,afi hi]at e;exact agq e
def PG(t:X.calm=true):jU X (.builtin "any") (λxs H Q=>∃(l:Addr)(bs:List Bool),xs=[.ref l]/\cL X.K H l (bs.map V.aM)/\Q (.aM (bs.any id)) H):=by
 intro w s U H xs x Q J j h;obtain⟨l,bs,rfl,m,q⟩:=h;obtain⟨u,rfl,g⟩:=vals1 j;cases g;obtain⟨a,d,p,hz⟩:=J.list m;have r:l<s.heap.objs.size:=by obtain⟨o,n,e,_⟩:=p;exact afp e
 refine call_any_walk (aiJ p.isList ?_);refine⟨s.heap.objs.size,_,_,_,_,_,λi=>bs.getD i false,rfl,Walks.list (A:=X.A.in1) (show X.A.in1.handled=none from J.ok.hd t) s.heap.objs.size l (afH r) a.toArray,⟨⟨_,afv _ rfl,rfl,rfl⟩,p.isList.at λo e=>afg _ e⟩,aam d,λh' tk k=>?_⟩;have f:a.toArray.size=bs.length:=by
  have c:=d.length;rw[sg]at c;simp[c]
 rw[f,range_any];exact⟨.aM _,H,J.kept (h':=h') (t':=tk) λb o e=>k b o (by intro z;rw[afj.mp z]at e;exact absurd (afp e) (agf _)) (afg _ e),rfl,q⟩
end
section
variable{X:aR}
variable[a5]
def Lw(K:aW):fv:=λx y H Q=>∃a b xs ys,x=.ref a/\y=.ref b/\dr K H a xs/\dr K H b ys/\xs.length+ys.length<=afe/\∀t c,ec H c->dr K c t (xs++ys)->Q (.ref t) c
def W3:eJ X (agQ .Add) (Lw X.K):=by
 intro z s U H x y v u Q J j l h;refine cc λi=>?_
 obtain⟨a,b,xs,ys,rfl,rfl,e,d,hz,q⟩:=h
 by_cases k:xs=[]
 .subst k
  cases j;cases l;obtain⟨F,A,p1,_⟩:=J.tuple e;obtain⟨G,N,E,_⟩:=J.tuple d;cases A;obtain⟨⟨cls,dd,data,cA⟩,g,m,n,hd⟩:=id p1;obtain⟨⟨M,L,f,I⟩,t,r,D,c⟩:=id E;simp only at m hd r c;subst m hd r c;refine i ?_;exact concat_meets ⟨_,g,rfl⟩ ⟨_,t,rfl⟩ ai5 seq_tuple_add ahP ahM (ahG _ _)
   (tuple_addW0 a b _ G.toArray n D dd L cA I rfl) ⟨g,t,⟨.ref b,H,J,rfl,q b H (ec.refl _) d⟩⟩
 .refine i ?_
  refine W4 z s U H (.ref a) (.ref b) v u Q J j l ⟨a,b,xs,ys,rfl,rfl,e,d,k,hz,λB=>?_,λ_ p w=>q p _ (ta w _) (dr.of dT)⟩;refine q a H (ec.refl _) ?_;rw[B,agO];exact e
end
end aE
set_option maxHeartbeats 1000000
namespace aY
open PySem PySem.Spec aE
variable[aE.a5]
inductive D where
 |aF|aM (b:Bool)|int (i:Int)|str (x:Str)|t (xs:List D)|l (xs:List D)|ref (n:Nat)|fn (f:Str)|ty (n:String)
inductive Slot where
 |emp|val (d:D)|dY (p:Bool) (xs:List D)|bF (xs:List D)
abbrev aN:=List Slot
inductive fP where
 |l (xs:List D)|o7 (bE:List (Key×D))|qm (bE:List (List Key×D))|cq (c:Str) (fs:List (Str×D))|cU (bE:List (D×D))
abbrev b1:=List fP
inductive Out(α:Type) where
 |ok (a:α) (S:b1)|exc (c:Str) (S:b1)|bad
structure M(α:Type):Type where
 run:b1->Out α
 dO:∀S a ak,run S=.ok a ak->ak=S
def M.jI{α g:Type}(m:M α)(f:α->M g):M g:=⟨λS=>match m.run S with
 |.ok a d=>(f a).run d|.exc c d=>.exc c d|.bad=>.bad,λS b d h=>by
  cases e:m.run S with
  |ok a S1=>rw[e]at h;exact((f a).dO _ _ _ h).trans (m.dO _ _ _ e)|exc c S1=>rw[e]at h;cases h
  |bad=>rw[e]at h;cases h⟩
noncomputable instance:Monad M where
 pure a:=⟨λS=>.ok a S,λ_ _ _ h=>by cases h;rfl⟩
 bind:=M.jI
omit [aE.a5]in
theorem M.ext{α:Type}{x y:M α}(h:∀S,x.run S=y.run S):x=y:=by
 cases x with|mk f p=>cases y with|mk g q=>obtain rfl:=funext h;rfl
omit [aE.a5]in
theorem M.Pm{α a:Type}(m:M α)(f:α->M a):(m >>= f)=M.jI m f:=rfl
instance:LawfulMonad M:=LawfulMonad.mk'
 (id_map:=λx=>M.ext λS=>by show(M.jI x (λa=>pure (id a))).run S=x.run S;unfold M.jI;dsimp only;cases x.run S<;>rfl)
 (pure_bind:=λx f=>rfl)
 (bind_assoc:=λx f g=>M.ext λS=>by show(M.jI (M.jI x f) g).run S=(M.jI x (λa=>M.jI (f a) g)).run S;unfold M.jI;dsimp only;cases x.run S<;>rfl)
 (bind_pure_comp:=λf x=>rfl)
def bad{α:Type}:M α:=⟨λ_=>.bad,λ_ _ _ h=>by cases h⟩
omit [aE.a5]in
theorem M.inv{α g:Type}{m:M α}{f:α->M g}{S d:b1}{b:g}(h:(m >>= f).run S=.ok b d):∃a S1,m.run S=.ok a S1/\(f a).run S1=.ok b d:=by
 rw[M.Pm]at h;unfold M.jI at h;dsimp only at h
 cases e:m.run S with
 |ok a S1=>rw[e]at h;exact⟨a,S1,rfl,h⟩|exc c S1=>rw[e]at h;cases h
 |bad=>rw[e]at h;cases h
def iv(p:Prop)[Decidable p]:M Unit:=if p then pure ()else bad
omit [aE.a5]in
theorem Gh{p:Prop}[Decidable p](h:p):iv p=pure ():=if_pos h
omit [aE.a5]in
theorem ue{p:Prop}[Decidable p](h:(iv p).run S=.ok u o):p/\S=o:=by
 unfold iv at h
 by_cases a:p
 .rw[if_pos a]at h;cases h;exact⟨a,rfl⟩
 .rw[if_neg a]at h;cases h
inductive R where
 |v (d:D)|fr (xs:List D)|bF (xs:List D)|mv (xs:List D)
abbrev br:=aN->M R
inductive Own where
 |free|out|dP|loc (i:Nat)
 deriving DecidableEq
structure a4 where
 own:Addr->Own
 bO:List Addr
instance:CoeFun a4 (λ_=>Addr->Own):=⟨a4.own⟩
def zo(K:aW)(a:Addr)(xs:List V):Prop:=
 ∃(o:Obj)(b:Array Value)(n:Nat),K.lookup a=some o/\o.cls=.type "list"/\o.dict=none/\o.data=.seq b n/\b.size<=afe/\Vals xs b.toList
def rv(_:aW)(O:a4)(H:av)(a:Addr)(ys:List V):Prop:=H a=some (.l ys)/\O a=.free
mutual
def Rep(K:aW)(mg:bx)(O:a4)(H:av):D->V->Prop
 |.aF,v=>v=.aF|.aM b,v=>v=.aM b|.int i,v=>v=.int i|.str x,v=>v=.str x|.t xs,v=>∃a ys,v=.ref a/\dr K H a ys/\a' K mg O H xs ys|.l xs,v=>∃a ys,v=.ref a/\rv K O H a ys/\a' K mg O H xs ys|.ref n,v=>∃a,v=.ref a/\O.bO[n]? = some a|.fn f,v=>∃a,v=.ref a/\mg f=some (.ref a)|.ty n,v=>v=.ty n
def a'(K:aW)(mg:bx)(O:a4)(H:av):List D->List V->Prop
 |[],ys=>ys=[]|x::xs,ys=>∃y r,ys=y::r/\Rep K mg O H x y/\a' K mg O H xs r
end
structure Go(O aj:a4)(H H':av):Prop where
 same:ec H H'
 own:∀b,H b≠none->aj b=O b
 bO:aj.bO=O.bO
def Go.refl(O:a4)(H:av):Go O O H H:=⟨ec.refl _,λ_ _=>rfl,rfl⟩
def Go.trans{O d e:a4}(a:Go O d H H1)(b:Go d e H1 o):Go O e H o:=
 ⟨a.same.trans b.same,λc h=>(b.own c (a.same.some h)).trans (a.own c h),b.bO.trans a.bO⟩
def gS.same(s:ec H H')(h:gS H a u)(n:oa u:=by exact trivial):gS H' a u:=by
 rcases h with h|⟨o,h⟩
 .exact .inl (s.at' _ _ h n)
 .exact .inr ⟨o,s.at' _ _ h⟩
omit [aE.a5]in
theorem gS.some{H:av}(h:gS H a u):H a≠none:=by
 rcases h with h|⟨o,h⟩<;>rw[h]<;>intro z<;>cases z
def rv.cN{O:a4}(h:rv K O H a ys):cL K H a ys:=cL.of h.1
def g9(K:aW)(O:a4)(H:av)(a:Addr)(ys:List V):Prop:=(gS H a (.l ys)/\(O a=.free\/O a=.out))\/zo K a ys
def g9.cN{O:a4}(h:g9 K O H a ys):cL K H a ys:=h.elim (λz=>.inl z.1) .inr
def g9.go{O b:a4}(g:Go O b H H')(h:g9 K O H a ys):g9 K b H' a ys:=by
 rcases h with⟨l,f⟩|l
 .exact .inl ⟨gS.same g.same l,by rw[g.own a (gS.some l)];exact f⟩
 .exact .inr l
def rv.go{O b:a4}(g:Go O b H H')(h:rv K O H a ys):rv K b H' a ys:=⟨g.same.at' _ _ h.1,(g.own a (by rw[h.1];intro z;cases z)).trans h.2⟩
section
variable{K:aW}{mg:bx}{O aj:a4}{H H':av}
mutual
theorem Rep.go(g:Go O aj H H'):∀{d:D}{v:V},Rep K mg O H d v->Rep K mg aj H' d v
 |.aF,_,h=>h|.aM _,_,h=>h|.int _,_,h=>h|.str _,_,h=>h| .t _,_,h=>by obtain⟨a,ys,q,l,r⟩:=h;exact⟨a,ys,q,g.same.yI l,a'.go g r⟩
 |.l _,_,h=>by obtain⟨a,ys,q,l,r⟩:=h;exact⟨a,ys,q,l.go g,a'.go g r⟩
 |.ref _,_,h=>by obtain⟨a,q,l⟩:=h;exact⟨a,q,by rw[g.bO];exact l⟩
 |.fn _,_,h=>h|.ty _,_,h=>h
theorem a'.go(g:Go O aj H H'):∀{ds:List D}{ys:List V},a' K mg O H ds ys->a' K mg aj H' ds ys
 |[],_,h=>h| _::_,_,h=>by obtain⟨x,r,q,a,b⟩:=h;exact⟨x,r,q,Rep.go g a,a'.go g b⟩
end
structure md(O aj:a4):Prop where
 fr:∀a,O a=.free->aj a=.free
 bO:aj.bO=O.bO
mutual
theorem Rep.dc(g:md O o):∀{d:D}{v:V},Rep K mg O H d v->Rep K mg o H d v
 |.aF,_,h=>h|.aM _,_,h=>h|.int _,_,h=>h|.str _,_,h=>h| .t _,_,h=>by obtain⟨a,ys,q,l,r⟩:=h;exact⟨a,ys,q,l,a'.dc g r⟩
 |.l _,_,h=>by obtain⟨a,ys,q,l,r⟩:=h;exact⟨a,ys,q,⟨l.1,g.fr _ l.2⟩,a'.dc g r⟩
 |.ref _,_,h=>by obtain⟨a,q,l⟩:=h;exact⟨a,q,by rw[g.bO];exact l⟩
 |.fn _,_,h=>h|.ty _,_,h=>h
theorem a'.dc(g:md O o):∀{ds:List D}{ys:List V},a' K mg O H ds ys->a' K mg o H ds ys
 |[],_,h=>h| _::_,_,h=>by obtain⟨x,r,q,a,b⟩:=h;exact⟨x,r,q,Rep.dc g a,a'.dc g b⟩
end
theorem a'.len:∀{ds:List D}{xs:List V},a' K mg O H ds xs->xs.length=ds.length
 |[],_,h=>by cases h;rfl
 |_::_,_,h=>by obtain⟨x,r,rfl,_,b⟩:=h;rw[afE,afE,a'.len b]
theorem a'.get:∀{ds:List D}{xs:List V}{i:Nat}{d:D},a' K mg O H ds xs->ds[i]? = some d->∃x,xs[i]? = some x/\Rep K mg O H d x
 |[],_,_,_,_,e=>by simp at e| _::_,_,0,d,h,e=>by obtain⟨x,r,rfl,a,_⟩:=h;cases(show some _=some d from e);exact⟨x,rfl,a⟩
 |_::ds,_,i+1,d,h,e=>by
  obtain⟨x,r,rfl,_,b⟩:=h;obtain⟨y,ao,aG⟩:=a'.get b e;exact⟨y,by simpa using ao,aG⟩
theorem a'.Ip:∀{ds:List D}{xs:List V}{i:Nat}{x:V},a' K mg O H ds xs->xs[i]? = some x->∃d,ds[i]? = some d/\Rep K mg O H d x
 |[],_,_,_,h,e=>by cases h;simp at e
 |_::_,_,0,x,h,e=>by obtain⟨y,r,rfl,a,_⟩:=h;cases(show some _=some x from e);exact⟨_,rfl,a⟩
 |_::ds,_,i+1,d,h,e=>by
  obtain⟨x,r,rfl,_,b⟩:=h;obtain⟨y,ao,aG⟩:=a'.Ip b e;exact⟨y,by simpa using ao,aG⟩
theorem a'.append:∀{ds aw:List D}{xs ys:List V},a' K mg O H ds xs->a' K mg O H aw ys->a' K mg O H (ds++aw) (xs++ys)
 |[],_,_,_,h,q=>by cases h;exact q
 |_::_,_,_,_,h,q=>by obtain⟨x,r,rfl,a,b⟩:=h;exact⟨x,_,rfl,a,a'.append b q⟩
def a'.one(h:Rep K mg O H d x):a' K mg O H [d] [x]:=⟨x,[],rfl,h,rfl⟩
theorem a'.take:∀{ds:List D}{xs:List V}(n:Nat),a' K mg O H ds xs->a' K mg O H (ds.take n) (xs.take n)
 |[],_,_,h=>by cases h;rw[ajA,ajA];rfl
 |_::_,_,0,_=>by rfl| _::_,_,n+1,h=>by obtain⟨x,r,rfl,a,b⟩:=h;exact⟨x,_,rfl,a,a'.take n b⟩
theorem a'.drop:∀{ds:List D}{xs:List V}(n:Nat),a' K mg O H ds xs->a' K mg O H (ds.drop n) (xs.drop n)
 |[],_,_,h=>by cases h;rw[List.drop_nil,List.drop_nil];rfl
 |_::_,_,0,h=>h| _::_,_,n+1,h=>by obtain⟨x,r,rfl,a,b⟩:=h;exact a'.drop n b
theorem a'.set(hd:Rep K mg O H d x):∀{ds:List D}{xs:List V}(n:Nat),a' K mg O H ds xs->a' K mg O H (ds.set n d) (xs.set n x)
 |[],_,_,h=>by cases h;exact rfl
 |_::_,_,0,h=>by obtain⟨y,r,rfl,a,b⟩:=h;exact⟨x,r,rfl,hd,b⟩
 |_::_,_,n+1,h=>by obtain⟨y,r,rfl,a,b⟩:=h;exact⟨y,_,rfl,a,a'.set hd n b⟩
theorem a'.reverse:∀{ds:List D}{xs:List V},a' K mg O H ds xs->a' K mg O H ds.reverse xs.reverse
 |[],_,h=>by cases h;exact rfl
 |_::_,_,h=>by obtain⟨x,r,rfl,a,b⟩:=h;rw[agS,agS];exact(a'.reverse b).append (.one a)
def a'.dropLast:∀{ds:List D}{xs:List V},a' K mg O H ds xs->a' K mg O H ds.dropLast xs.dropLast:=λ{ds xs} h=>by
 rw[ahn,ahn,h.len];exact h.take _
def LL(ns:List Int):a' K mg O H (ns.map D.int) (ns.map V.int):=by
 induction ns with
 |nil=>rfl|cons n r a=>exact⟨.int n,_,rfl,rfl,a⟩
def zv{κ:Type}(K:aW)(mg:bx)(O:a4)(H:av)(a:List (κ×D))(b:List (κ×V)):Prop:=a.map (·.1)=b.map (·.1)/\a' K mg O H (a.map (·.2)) (b.map (·.2))
def d6(K:aW)(mg:bx)(O:a4)(H:av):R->V->Prop
 |.v d,v=>Rep K mg O H d v|.fr xs,v=>∃a ys,v=.ref a/\H a=some (.l ys)/\O a=.dP/\a' K mg O H xs ys|.bF xs,v=>∃a ys,v=.ref a/\g9 K O H a ys/\a' K mg O H xs ys|.mv xs,v=>∃a ys,v=.ref a/\H a=some (.l ys)/\a' K mg O H xs ys
def d6.go(g:Go O C H H'):∀{r:R}{v:V},d6 K mg O H r v->d6 K mg C H' r v
 |.v _,_,h=>Rep.go g h| .fr _,_,h=>by obtain⟨a,ys,q,l,o,r⟩:=h;exact⟨a,ys,q,g.same.at' _ _ l,(g.own a (by rw[l];intro z;cases z)).trans o,r.go g⟩
 |.bF _,_,h=>by obtain⟨a,ys,q,l,r⟩:=h;exact⟨a,ys,q,l.go g,r.go g⟩
 |.mv _,_,h=>by obtain⟨a,ys,q,l,r⟩:=h;exact⟨a,ys,q,g.same.at' _ _ l,r.go g⟩
theorem a'.imp{c:a4}(f:∀d v,Rep K mg O H d v->Rep K mg c H' d v):∀{ds:List D}{ys:List V},a' K mg O H ds ys->a' K mg c H' ds ys
 |[],_,h=>h| _::_,_,h=>by obtain⟨x,r,q,a,b⟩:=h;exact⟨x,r,q,f _ _ a,a'.imp f b⟩
def Ny(K:aW)(mg:bx)(c:Str)(C:Addr):Prop:=mg c=some (.ref C)/\Nx K C
def jb(K:aW)(mg:bx)(O:a4)(H:av)(w:Own):Slot->Option V->Prop
 |.emp,_=>True|.val d,u=>∃v,u=some v/\Rep K mg O H d v|.dY _ xs,u=>∃a ys,u=some (.ref a)/\O a=w/\H a=some (.l ys)/\a' K mg O H xs ys|.bF xs,u=>∃a ys,u=some (.ref a)/\g9 K O H a ys/\a' K mg O H xs ys
def jb.go(g:Go O C H H'):∀{s:Slot}{u:Option V},jb K mg O H w s u->jb K mg C H' w s u
 |.emp,_,_=>trivial| .val _,_,h=>by obtain⟨v,q,r⟩:=h;exact⟨v,q,r.go g⟩
 |.dY _ _,_,h=>by obtain⟨a,ys,q,o,l,r⟩:=h;exact⟨a,ys,q,(g.own a (by rw[l];intro z;cases z)).trans o,g.same.at' _ _ l,r.go g⟩
 |.bF _,_,h=>by
  obtain⟨a,ys,q,l,r⟩:=h;exact⟨a,ys,q,l.go g,r.go g⟩
end
def jE(O:a4):Prop:=O.bO.Nodup/\∀a∈O.bO,O a=.out
structure c4(O:a4)(H:av):Prop where
 has:∀a,O a≠.free->H a≠none
 tabs:TabsOk H
 rh:jE O
def jq:Nat->D->Bool
 |_,.aF=>true|_,.int _=>true|_,.str x=>afT x|n+1,.t xs=>xs.all (jq n)|_,_=>false
instance:DecidableEq D:=λa b=>Classical.propDecidable (a=b)
abbrev gD:={d:D // jq 8 d=true}
def pK(w:World):Nat->D->Int
 |_,.aF=>W.hashW w.params .none|_,.int i=>BG w (.inl i)|_,.str x=>BG w (.inr x)|n+1,.t xs=>reduceHash (aiT (xs.map (pK w n)))|_,_=>0
def CN(w:World)(x:gD×Addr×Value):DictEntry:=⟨pK w 8 x.1.1,.ref x.2.1,x.2.2⟩
def ja(a:Addr)(xs:List (gD×Addr×Value)):fL:=.ext λh=>∃o aw cV,h.get? a=some o/\o.ExactDict/\o.data=.dict aw cV/\aw.toList=xs.map (CN aE.a5.wl)
def eC(K:aW)(mg:bx)(O:a4)(H:av):List (D×D)->List (gD×Addr×Value)->Prop
 |[],xs=>xs=[]|p::o,xs=>∃y r,xs=y::r/\p.1=y.1.1/\Rep K mg O H p.1 (.ref y.2.1)/\(∃v,Rep K mg O H p.2 v/\RelV v y.2.2)/\eC K mg O H o r
theorem eC.imp{O g:a4}(f:∀d v,Rep K mg O H d v->Rep K mg g H' d v):∀{o:List (D×D)}{xs:List (gD×Addr×Value)},eC K mg O H o xs->eC K mg g H' o xs
 |[],_,h=>h| _::_,_,h=>by obtain⟨y,r,q,e,a,⟨v,b,c⟩,d⟩:=h;exact⟨y,r,q,e,f _ _ a,⟨v,f _ _ b,c⟩,eC.imp f d⟩
def nz(K:aW)(mg:bx)(O:a4)(H:av)(a:Addr):fP->Prop
 |.l xs=>∃ys,H a=some (.l ys)/\a' K mg O H xs ys|.o7 b=>∃d,H a=some (.rM d)/\zv K mg O H b d|.qm b=>∃d,H a=some (.dt d)/\zv K mg O H b d|.cq c fs=>∃C f e,H a=some (.ins C f e)/\Ny K mg c C/\zv K mg O H fs e|.cU b=>∃xs:List (gD×Addr×Value),H a=some (ja a xs)/\((a==ahb)=false/\(xs.map (·.1)).Nodup)/\eC K mg O H b xs
def fw(K:aW)(mg:bx)(O:a4)(H:av)(S:b1):Prop:=∀(n:Nat)(o:fP),S[n]? = some o->∃a,O.bO[n]? = some a/\nz K mg O H a o
def nz.all{O i:a4}{H b:av}(f:∀d v,Rep K mg O H d v->Rep K mg i b d v)(g:∀u,H a=some u->oa u->b a=some u):∀{o:fP},nz K mg O H a o->nz K mg i b a o
 |.l _,h=>by obtain⟨ys,l,r⟩:=h;exact⟨ys,g _ l trivial,r.imp f⟩
 |.o7 _,h=>by obtain⟨ys,l,e,r⟩:=h;exact⟨ys,g _ l trivial,e,r.imp f⟩
 |.qm _,h=>by obtain⟨ys,l,e,r⟩:=h;exact⟨ys,g _ l trivial,e,r.imp f⟩
 |.cq _ _,h=>by obtain⟨C,j,k,l,c,e,r⟩:=h;exact⟨C,j,k,g _ l trivial,c,e,r.imp f⟩
 |.cU _,h=>by obtain⟨xs,l,c,r⟩:=h;exact⟨xs,g _ l trivial,c,r.imp f⟩
def fw.all{O c:a4}{H b:av}(s:fw K mg O H S)(f:∀d v,Rep K mg O H d v->Rep K mg c b d v)(e:c.bO=O.bO)(g:∀a∈O.bO,∀u,H a=some u->oa u->b a=some u):fw K mg c b S:=λn o h=>by
 obtain⟨a,i,j⟩:=s n o h;exact⟨a,by rw[e];exact i,j.all f (g a (km i))⟩
def fw.go{O b:a4}(s:fw K mg O H S)(g:Go O b H H'):fw K mg b H' S:=
 s.all (λ_ _ z=>Rep.go g z) g.bO λa _ u l n=>g.same.at' _ _ l n
def fw.nil{O:a4}:fw K mg O H []:=λn o h=>by cases n<;>cases h
structure cu(K:aW)(mg:bx)(O:a4)(U:aN)(S:b1)(aq:St)(H:av):Prop where
 cp:c4 O H
 len:U.length=aq.length
 loc:∀i s,U[i]? = some s->jb K mg O H (.loc i) s (aq[i]?.join)
 gy:fw K mg O H S
def cu.go{O a:a4}(h:cu K mg O U S o H)(g:Go O a H H')(d:c4 a H'):cu K mg a U S o H':=
 ⟨d,h.len,λi s e=>(h.loc i s e).go g,h.gy.go g⟩
def gA(O:a4)(a:Addr)(o:Own):a4:=⟨λb=>if b=a then o else O b,O.bO⟩
omit [aE.a5]in
theorem l2{O:a4}:gA O a o a=o:=if_pos rfl
omit [aE.a5]in
theorem oF{O:a4}(h:b≠a):gA O a o b=O b:=if_neg h
section
variable{K:aW}{mg:bx}{O:a4}{U:aN}{S:b1}{aq:St}{H:av}{p:Addr}{u:fL}{o:Own}
def Go.new(a:H p=none):Go O (gA O p o) H (upd H p u):=
 ⟨ta a u,λb c=>oF (by rintro rfl;exact c a),rfl⟩
def Go.gu(a:H p=none):Go O O H (upd H p u):=⟨ta a u,λ_ _=>rfl,rfl⟩
def c4.new(d:c4 O H)(b:H p=none):c4 (gA O p o) (upd H p u):=⟨λa c=>by
 by_cases e:a=p
 .subst e;rw[dT];intro z;cases z
 .rw[da e];rw[oF e]at c;exact d.has a c,d.tabs.new b u,d.rh.1,λa h=>by rw[oF (by rintro rfl;exact d.has _ (by rw[d.rh.2 _ h];intro z;cases z) b)];exact d.rh.2 a h⟩
def c4.same(d:c4 O H)(s:ec H H'):c4 O H':=⟨λa b=>s.some (d.has a b),s.bt d.tabs,d.rh⟩
def cu.new(h:cu K mg O U S aq H)(a:H p=none):cu K mg (gA O p o) U S aq (upd H p u):=h.go (Go.new a) (h.cp.new a)
def cu.gu(h:cu K mg O U S aq H)(a:H p=none):cu K mg O U S aq (upd H p u):=h.go (Go.gu a) (h.cp.same (ta a u))
end
def ip(H:av):R->V->Prop
 |.fr _,v=>∀a,v=.ref a->H a=none|_,_=>True
def ip.back(s:ec H H1):∀{r:R}{v:V},ip H1 r v->ip H r v
 |.v _,_,_=>trivial|.bF _,_,_=>trivial|.mv _,_,_=>trivial|.fr _,_,h=>λa e=>s.free (h a e)
def jW(H:av):List R->List V->Prop
 |r::rs,v::vs=>ip H r v/\jW H rs vs|_,_=>True
theorem jW.back(s:ec H H1):∀{rs:List R}{a:List V},jW H1 rs a->jW H rs a
 |[],_,_=>trivial|_::_,[],_=>trivial|_::_,_::_,h=>⟨h.1.back s,jW.back s h.2⟩
def tS(K:aW)(mg:bx)(O:a4)(U:aN)(c:b1)(d:St)(H:av)(r:R)(Q:cC):Prop:=
 ∀b v a,Go O b H a->cu K mg b U c d a->d6 K mg b a r v->ip H r v->Q v a
inductive oT{α:Type}(K:aW)(mg:bx)(m:aN->M α)(aq:St)(H:av)(P:a4->aN->b1->α->Prop):Prop
 |mk (O:a4) (U:aN) (S:b1) (x:α) (ak:b1) (st:cu K mg O U S aq H) (h:(m U).run S=.ok x ak) (q:P O U ak x):oT K mg m aq H P
def i4(K:aW)(mg:bx)(m:br):TE:=λa H Q=>oT K mg m a H λO U b r=>tS K mg O U b a H r Q
def pO(K:aW)(mg:bx)(m:aN->M Bool):TT:=λd H Q=>oT K mg m d H λO U e b=>∀c a,Go O c H a->cu K mg c U e d a->Q b a
abbrev i9(X:aR)(e:Expr)(m:br):Prop:=ck X e (i4 X.K X.mg m)
abbrev Ea(X:aR)(e:Expr)(m:aN->M Bool):Prop:=hW X e (pO X.K X.mg m)
abbrev wx(X:aR)(e:Expr)(m:aN->M Bool):Prop:=lu X e (pO X.K X.mg m)
def hX(K:aW)(mg:bx)(O:a4)(H:av):List R->List V->Prop
 |[],ys=>ys=[]|x::xs,ys=>∃y r,ys=y::r/\d6 K mg O H x y/\hX K mg O H xs r
theorem hX.go{O c:a4}(g:Go O c H H'):∀{rs:List R}{ys:List V},hX K mg O H rs ys->hX K mg c H' rs ys
 |[],_,h=>h| _::_,_,h=>by obtain⟨x,r,q,a,b⟩:=h;exact⟨x,r,q,a.go g,hX.go g b⟩
theorem hX.len{O:a4}:∀{rs:List R}{ys:List V},hX K mg O H rs ys->ys.length=rs.length
 |[],_,h=>by cases h;rfl
 |_::_,_,h=>by obtain⟨x,r,rfl,_,b⟩:=h;rw[afE,afE,hX.len b]
abbrev cJ:=aN->M (List R)
def oz(K:aW)(mg:bx)(m:cJ):fC:=λd H Q=>oT K mg m d H λO U e rs=>∀b c a,Go O b H a->cu K mg b U e d a->hX K mg b a rs c->jW H rs c->Q c a
abbrev D6(X:aR)(aw:List Expr)(m:cJ):Prop:=gR X aw (oz X.K X.mg m)
def es{t t':TE}(h:ck X e t)(i:∀U H Q,t' U H Q->t U H Q):ck X e t':=λa s U H Q J q=>h a s U H Q J (i _ _ _ q)
def vC{t t':TT}(h:hW X e t)(i:∀U H Q,t' U H Q->t U H Q):hW X e t':=λa s U H Q J q=>h a s U H Q J (i _ _ _ q)
def Lm{t t':TT}(h:lu X e t)(i:∀U H Q,t' U H Q->t U H Q):lu X e t':=λb a s U H Q J q=>h b a s U H Q J (i _ _ _ q)
def og{t t':fC}(h:gR X aw t)(i:∀U H Q,t' U H Q->t U H Q):gR X aw t':=λpos a s U H Q J q=>h pos a s U H Q J (i _ _ _ q)
@[simp] def I(i:Nat)(U:aN):M R:=match U[i]? with
 |some (.val d)=>pure (.v d)|some (.dY _ xs)=>pure (.mv xs)|some (.bF xs)=>pure (.bF xs)|_=>bad
def aH(d:D):br:=λ_=>pure (.v d)
section
variable{X:aR}{a b e:Expr}{ma cZ m:br}{cv:aN->M Bool}
def ud{v:V}(h:ck X e (q9 v))(r:∀O H,Rep X.K X.mg O H d v):i9 X e (aH d):=es h λg H Q c=>by
 obtain⟨O,U,S,i,f,st,h,q⟩:=c;cases h;exact q O v H (Go.refl _ _) st (r O H) trivial
@[simp] def aa(f:R->R->M R)(a b:br)(U:aN):M R:=do
 let x <-a U
 let y <-b U
 f x y
def eP(K:aW)(mg:bx)(r:fv)(f:R->R->M R):Prop:=
 ∀O U S J H x y o bU bL C (Q:cC),cu K mg O U S J H->d6 K mg O H o x->d6 K mg O H bU y->(f o bU).run S=.ok bL C->tS K mg O U C J H bL Q->r x y H Q
def t9{r:fv}(L:eP K mg r f):∀c H Q,i4 K mg (aa f ma cZ) c H Q->q' r (i4 K mg ma) (i4 K mg cZ) c H Q:=by
 rintro c H Q ⟨O,U,S,B,z,st,h,q⟩;obtain⟨x,S1,t,h⟩:=M.inv h;obtain⟨y,i,u,h⟩:=M.inv h;refine⟨O,U,S,x,S1,st,t,λl I R j p s a6=>?_⟩;refine⟨l,U,S1,y,i,p,u,λE N n d G D P=>?_⟩;exact L E U i c n I N x y B z Q G (s.go d) D h λw v k g A F nn=>q w v k ((j.trans d).trans g) A F (nn.back (j.trans d).same)
def R.pN:R->M Bool
 |.v (.aM b)=>pure b|_=>bad
@[simp] def aO(m:br)(U:aN):M Bool:=do
 let x <-m U
 x.pN
omit [aE.a5]in
theorem tl{r:R}{b:Bool}{S c:b1}(h:r.pN.run S=.ok b c):r=.v (.aM b)/\S=c:=by
 cases r with
 |v d=>cases d<;>cases h<;>exact⟨rfl,rfl⟩
 |fr _=>cases h
 |bF _=>cases h
 |mv _=>cases h
def MC:∀c H Q,pO K mg (aO m) c H Q->yY (i4 K mg m) c H Q:=by
 rintro c H Q ⟨O,U,S,t,l,st,h,q⟩;obtain⟨x,S1,f,h⟩:=M.inv h;obtain⟨rfl,rfl⟩:=tl h;exact⟨O,U,S,_,_,st,f,λi v d g j k _=>⟨t,k,q i d g j⟩⟩
def My{t t':TE}(i:∀U H Q,t' U H Q->t U H Q):∀U H Q,yY t' U H Q->yY t U H Q:=λU H Q q=>i _ _ _ q
@[simp] def jJ(a b:br)(U:aN):M R:=do
 let x <-a U
 let t <-x.pN
 if t=true then b U else pure (.v (.aM false))
@[simp] def ua(a b:br)(U:aN):M R:=do
 let x <-a U
 let t <-x.pN
 if t=true then pure (.v (.aM true))else b U
@[simp] def Ai(a:br)(U:aN):M R:=do
 let x <-a U
 let t <-x.pN
 pure (.v (.aM (!t)))
@[simp] def fA(a b:aN->M Bool)(U:aN):M Bool:=do
 let t <-a U
 if t=true then b U else pure false
@[simp] def ib(a b:aN->M Bool)(U:aN):M Bool:=do
 let t <-a U
 if t=true then pure true else b U
@[simp] def lZ(a:aN->M Bool)(U:aN):M Bool:=do
 let t <-a U
 pure (!t)
@[simp] def j3(t:aN->M Bool)(a b:br)(U:aN):M R:=do
 let t <-t U
 if t=true then a U else b U
def wx.cM(h:wx X a cv):Ea X a cv:=h.pt
end
def vp(g:Int->Int->Int):R->R->M R
 |.v (.int i),.v (.int j)=>pure (.v (.int (g i j)))|_,_=>bad
def qW(C:Int->Int->Prop)[∀i j,Decidable (C i j)](g:Int->Int->Int):R->R->M R
 |.v (.int i),.v (.int j)=>if C i j then pure (.v (.int (g i j)))else bad|_,_=>bad
def sM(g:Int->Int->Bool):R->R->M R
 |.v (.int i),.v (.int j)=>pure (.v (.aM (g i j)))|_,_=>bad
section
variable{K:aW}{mg:bx}
def FQ{g:Int->Int->Int}:eP K mg (jQ λi j=>.int (g i j)) (vp g):=λO U S e H x y c k f d Q st a b h q=>by
 unfold vp at h;split at h
 .rename_i i j
  cases h;exact⟨i,j,a,b,q O _ H (Go.refl _ _) st rfl trivial⟩
 .cases h
def wY{C:Int->Int->Prop}{a:Int->Int->Prop}[∀i j,Decidable (a i j)]{g:Int->Int->Int}(e:∀i j,a i j->C i j):eP K mg (m4 C λi j=>.int (g i j)) (qW a g):=λO U S l H x y f n m k Q st b d h q=>by
 unfold qW at h;split at h
 .rename_i i j
  by_cases c:a i j
  .rw[if_pos c]at h
   cases h;exact⟨i,j,b,d,e i j c,q O _ H (Go.refl _ _) st rfl trivial⟩
  .rw[if_neg c]at h;cases h
 .cases h
def Aa{g:Int->Int->Bool}:eP K mg (jQ λi j=>.aM (g i j)) (sM g):=λO U S e H x y c k f d Q st a b h q=>by
 unfold sM at h;split at h
 .rename_i i j
  cases h;exact⟨i,j,a,b,q O _ H (Go.refl _ _) st rfl trivial⟩
 .cases h
end
abbrev c0:=vp (· + ·)
abbrev gw:=vp (· - ·)
abbrev oMod:=qW (λ_ j=>0<j) (· % ·)
abbrev ia:=qW (λi j=>0<=j/\j<=1000000/\i.natAbs<2 ^ 64) (λi j=>i ^ j.toNat)
abbrev oLt:=sM λi j=>decide (i<j)
abbrev kY:=sM λi j=>decide (j<i)
abbrev sN:=sM λi j=>decide (j<=i)
section
variable{X:aR}
def Ob:eP X.K X.mg (jQ λi j=>.int (i+j)) c0:=FQ
def Om:eP X.K X.mg (jQ λi j=>.int (i-j)) gw:=FQ
def Oi:eP X.K X.mg (m4 (λ_ j=>0<j) λi j=>.int (i % j)) oMod:=wY λ_ _ h=>h
def Ol:eP X.K X.mg (m4 D9 λi j=>.int (i ^ j.toNat)) ia:=wY λ_ _ h=>h
def EP:eP X.K X.mg (jQ λi j=>.aM (decide (i<j))) oLt:=Aa
def EK:eP X.K X.mg (jQ λi j=>.aM (decide (j<i))) kY:=Aa
def EJ:eP X.K X.mg (jQ λi j=>.aM (decide (j<=i))) sN:=Aa
end
@[simp] def cX(f:R->M R)(a:br)(U:aN):M R:=do
 let x <-a U
 f x
def fx:R->M R
 |.v (.int i)=>pure (.v (.int (-i)))|_=>bad
def R.fp:R->Option (List D)
 |.v (.l xs)=>some xs|.fr xs=>some xs|.bF xs=>some xs|.mv xs=>some xs|_=>none
def R.DF:R->Option (List D)
 |.v (.t xs)=>some xs|_=>none
def R.seq(r:R):Option (List D):=r.fp<|> r.DF
def R.pw{K:aW}{mg:bx}{O:a4}{H:av}{r:R}{v:V}{xs:List D}(h:d6 K mg O H r v)(e:r.fp=some xs):∃a ys,v=.ref a/\cL K H a ys/\a' K mg O H xs ys:=by
 unfold R.fp at e;split at e
 .cases e;obtain⟨a,ys,q,l,r⟩:=h;exact⟨a,ys,q,l.cN,r⟩
 .cases e;obtain⟨a,ys,q,l,_,r⟩:=h;exact⟨a,ys,q,cL.of l,r⟩
 .cases e;obtain⟨a,ys,q,l,r⟩:=h;exact⟨a,ys,q,l.cN,r⟩
 .cases e;obtain⟨a,ys,q,l,r⟩:=h;exact⟨a,ys,q,cL.of l,r⟩
 .cases e
def R.aal{K:aW}{mg:bx}{O:a4}{H:av}{r:R}{v:V}{xs:List D}(h:d6 K mg O H r v)(e:r.DF=some xs):∃a ys,v=.ref a/\dr K H a ys/\a' K mg O H xs ys:=by
 unfold R.DF at e;split at e
 .cases e;exact h
 .cases e
def R.vM{K:aW}{mg:bx}{O:a4}{H:av}{r:R}{v:V}{xs:List D}(h:d6 K mg O H r v)(e:r.seq=some xs):∃a ys,v=.ref a/\(cL K H a ys\/dr K H a ys)/\a' K mg O H xs ys:=by
 unfold R.seq at e
 cases ao:r.fp with
 |some b=>rw[ao]at e;cases e;obtain⟨a,ys,q,l,r⟩:=R.pw h ao;exact⟨a,ys,q,.inl l,r⟩
 |none=>rw[ao]at e;obtain⟨a,ys,q,l,r⟩:=R.aal h e;exact⟨a,ys,q,.inr l,r⟩
def a'.dK{O:a4}{i:Int}(h:a' K mg O H ds xs)(e:dK ds i=some d):∃x,aE.dK xs i=some x/\Rep K mg O H d x:=by
 unfold aE.dK at e ⊢;rw[h.len]
 cases q:mW ds.length i with
 |none=>rw[q]at e;cases e
 |some j=>rw[q]at e;exact h.get e
def bu:R->R->M R
 |.v (.str z),.v (.int i)=>match dK z.cps.toList i with
  |some c=>if z.length<=afe then pure (.v (.str ⟨#[c]⟩))else bad|none=>bad
 |x,.v (.int i)=>match x.seq with
  |some xs=>match dK xs i with
   |some d=>pure (.v d)|none=>bad
  |none=>bad
 |_,_=>bad
def EO:eP K mg (LA K) bu:=fun O U S aq H x y J bU bL ak Q st C o h q=>by
 unfold bu at h;split at h
 .rename_i z i
  split at h
  .rename_i c aG
   by_cases hz:z.length<=afe
   .rw[if_pos hz]at h
    cases h;exact .inr (.inr ⟨z,i,c,C,o,hz,aG,q O _ H (Go.refl _ _) st rfl trivial⟩)
   .rw[if_neg hz]at h;cases h
  .cases h
 .rename_i i _
  split at h
  .rename_i xs e
   split at h
   .rename_i d aG
    cases h;obtain⟨a,ys,rfl,l,g⟩:=R.vM C e;obtain⟨z,cI,f⟩:=a'.dK g aG;have b:=q O z H (Go.refl _ _) st f trivial;rcases l with l|l
    .exact .inl ⟨a,ys,i,z,rfl,o,l,cI,b⟩
    .exact .inr (.inl ⟨a,ys,i,z,rfl,o,l,cI,b⟩)
   .cases h
  .cases h
 .cases h
def d7:cJ:=λ_=>pure []
@[simp] def bW(m:br)(ms:cJ)(U:aN):M (List R):=do
 let x <-m U
 let xs <-ms U
 pure (x::xs)
def R.dat:R->M D
 |.v d=>pure d|.fr xs=>pure (.l xs)|_=>bad
def jg:List R->M (List D)
 |[]=>pure []|r::rs=>do
  let d <-r.dat
  let ds <-jg rs
  pure (d::ds)
def cz(H₀:av)(O:a4):a4:=⟨λb=>match H₀ b,O b with
 |none,.dP=>.free| _,o=>o,O.bO⟩
def AU{H₀:av}{O:a4}(h:H₀ b≠none):cz H₀ O b=O b:=by
 show(match H₀ b,O b with|none,.dP=>.free|_,o=>o)=O b
 cases e:H₀ b with
 |none=>exact absurd e h|some o=>cases O b<;>rfl
def AV{H₀:av}{O:a4}(h:H₀ b=none)(t:O b=.dP):cz H₀ O b=.free:=by show(match H₀ b,O b with|none,.dP=>.free|_,o=>o)=Own.free;rw[h,t]
def rW{O:a4}(t:O b≠.dP):cz H₀ O b=O b:=by
 show(match H₀ b,O b with|none,.dP=>.free|_,o=>o)=O b;cases e:H₀ b<;>cases aG:O b<;>first|rfl|exact absurd aG t
def jj(H₀:av)(O:a4):md O (cz H₀ O):=⟨λa h=>by rw[rW (by rw[h];intro z;cases z),h],rfl⟩
def jb.dc{O b:a4}(g:md O b)(c:∀a,O a=.out->b a=.out)(hw:∀a,O a=w->b a=w):∀{s:Slot}{u:Option V},jb K mg O H w s u->jb K mg b H w s u
 |.emp,_,_=>trivial| .val _,_,h=>by obtain⟨v,q,r⟩:=h;exact⟨v,q,r.dc g⟩
 |.dY _ _,_,h=>by obtain⟨a,ys,q,o,l,r⟩:=h;exact⟨a,ys,q,hw a o,l,r.dc g⟩
 |.bF _,_,h=>by
  obtain⟨a,ys,q,l,r⟩:=h;refine⟨a,ys,q,l.imp (λz=>⟨z.1,z.2.imp (g.fr a) (c a)⟩) id,r.dc g⟩
section
variable{K:aW}{mg:bx}{O:a4}{U:aN}{S:b1}{aq:St}{H H₀:av}
def cu.cz(h:cu K mg O U S aq H)(H₀:av):cu K mg (cz H₀ O) U S aq H:=
  ⟨⟨λa b=>h.cp.has a λz=>b (by rw[rW (by rw[z];intro w;cases w),z]),h.cp.tabs,h.cp.rh.1,λa m=>by rw[rW (by rw[h.cp.rh.2 a m];intro w;cases w)];exact h.cp.rh.2 a m⟩,h.len,
   λi s e=>(h.loc i s e).dc (jj _ _) (λa z=>by rw[rW (by rw[z];intro w;cases w),z]) (λa z=>by rw[rW (by rw[z];intro w;cases w),z]),h.gy.all (λ_ _ z=>Rep.dc (jj _ _) z) rfl λ_ _ _ l _=>l⟩
def Go.cz{c:a4}(g:Go c O H₀ H):Go c (cz H₀ O) H₀ H:=⟨g.same,λb a=>(AU a).trans (g.own b a),g.bO⟩
def qj{r:R}{v:V}(b:d6 K mg O H r v)(c:ip H₀ r v)(h:r.dat.run S=.ok d o):Rep K mg (aY.cz H₀ O) H d v/\S=o:=by
 cases r with
 |v d'=>cases h;exact⟨Rep.dc (jj _ _) b,rfl⟩
 |fr xs=>
  cases h;obtain⟨a,ys,rfl,l,t,e⟩:=b;exact⟨⟨a,ys,rfl,⟨l,AV (c a rfl) t⟩,a'.dc (jj _ _) e⟩,rfl⟩
 |bF xs=>cases h
 |mv xs=>cases h
theorem ui:∀{rs:List R}{a:List V}{ds:List D}{S b:b1},hX K mg O H rs a->jW H₀ rs a->(jg rs).run S=.ok ds b->a' K mg (aY.cz H₀ O) H ds a/\S=b
 |[],a,ds,S,b,o,_,h=>by cases h;exact⟨o,rfl⟩
 |r::rs,a,ds,S,b,o,C,h=>by
  obtain⟨d,S1,e,h⟩:=M.inv h;obtain⟨k,j,f,h⟩:=M.inv h;cases h;obtain⟨v,c,rfl,i,g⟩:=o;obtain⟨bJ,rfl⟩:=qj i C.1 e;obtain⟨cR,rfl⟩:=ui g C.2 f;exact⟨⟨v,c,rfl,bJ,cR⟩,rfl⟩
end
@[simp] def a0(ms:cJ)(U:aN):M R:=do
 let rs <-ms U
 let ds <-jg rs
 iv (ds.length<=1000)
 pure (.v (.t ds))
@[simp] def e1(ms:cJ)(U:aN):M R:=do
 let rs <-ms U
 let ds <-jg rs
 iv (ds.length<=1000)
 pure (.fr ds)
@[simp] def b5(f:List R->M R)(ms:cJ)(U:aN):M R:=do
 let rs <-ms U
 f rs
def kC(K:aW)(mg:bx)(r:List V->av->cC->Prop)(f:List R->M R):Prop:=
 ∀O U S C H xs rs J o (Q:cC),cu K mg O U S C H->hX K mg O H rs xs->(f rs).run S=.ok J o->tS K mg O U o C H J Q->r xs H Q
section
variable{ms:cJ}{r:List V->av->cC->Prop}{f:List R->M R}
def F9(u:kC K mg r f):∀a H Q,i4 K mg (b5 f ms) a H Q->Dz r (oz K mg ms) a H Q:=by
 rintro a H Q ⟨O,U,S,s,n,st,h,q⟩;obtain⟨rs,S1,l,h⟩:=M.inv h;refine⟨O,U,S,rs,S1,st,l,λj w i b k t nn=>?_⟩;exact u j U S1 a i w rs s n Q k t h λm v e g p d c=>q m v e (b.trans g) p d (c.back b.same)
end
def c8:List R->M R
 |[x]=>match x.seq with
  |some xs=>pure (.v (.int (xs.length:Nat)))|none=>bad
 |_=>bad
def nP:List R->M R
 |[.v (.str z)]=>if z.length<=afe then pure (.v (.int (z.length:Nat)))else bad|_=>bad
def R.kind:R->Option String
 |.v .aF=>some "NoneType"|.v (.aM _)=>some "bool"|.v (.int _)=>some "int"|.v (.str _)=>some "str"|.v (.t _)=>some "tuple"|.v (.l _)=>some "list"|.fr _=>some "list"|.bF _=>some "list"|.mv _=>some "list"|_=>none
def iR:List R->M R
 |[x,.v (.ty n)]=>match x.kind with
  |some t=>if n∈["int","bool","tuple","list","str"]then pure (.v (.aM (uR t n)))else bad|none=>bad
 |_=>bad
def uu(g:Int->Int->Int):List R->M R
 |[.v (.int i),.v (.int j)]=>pure (.v (.int (g i j)))|_=>bad
abbrev HW:=uu λi j=>if j<i then j else i
def qd:List D->Option (List Bool)
 |[]=>some []|.aM b::r=>(qd r).map (b::·)|_=>none
def rS:List R->M R
 |[x]=>match x.fp.bind qd with
  |some bs=>pure (.v (.aM (bs.any id)))|none=>bad
 |_=>bad
def pb:List R->M R
 |[.v (.int i)]=>pure (.v (.int i))|[.v (.aM b)]=>pure (.v (.int (if b then 1 else 0)))|_=>bad
def mL:List R->M R
 |[x]=>match x.seq with
  |some xs=>pure (.fr xs)|none=>bad
 |_=>bad
def nR:List R->M R
 |[x]=>match x.seq with
  |some xs=>pure (.v (.t xs))|none=>bad
 |_=>bad
section
variable{K:aW}{mg:bx}
def kq{O:a4}{r:R}(h:hX K mg O H [r] vs):∃v,vs=[v]/\d6 K mg O H r v:=by
 obtain⟨v,c,rfl,a,b⟩:=h;cases b;exact⟨v,rfl,a⟩
def C9{O:a4}{r s:R}(h:hX K mg O H [r,s] vs):∃v u,vs=[v,u]/\d6 K mg O H r v/\d6 K mg O H s u:=by
 obtain⟨v,f,rfl,a,b⟩:=h;obtain⟨u,e,rfl,c,d⟩:=b;cases d;exact⟨v,u,rfl,a,c⟩
def T_:kC K mg (λxs H Q=>∃p ys,xs=[.ref p]/\(cL K H p ys\/dr K H p ys)/\Q (.int ys.length) H) c8:=λO U S g H j rs i f Q st b h q=>by
 unfold c8 at h;split at h
 .rename_i x
  obtain⟨v,rfl,c⟩:=kq b;split at h
  .rename_i xs e
   cases h;obtain⟨a,ys,rfl,l,d⟩:=R.vM c e;exact⟨a,ys,rfl,l,by rw[d.len];exact q O _ H (Go.refl _ _) st rfl trivial⟩
  .cases h
 .cases h
def T':kC K mg (λxs H Q=>∃z,xs=[.str z]/\z.length<=afe/\Q (.int z.length) H) nP:=λO U S d H f rs e c Q st a h q=>by
 unfold nP at h;split at h
 .rename_i z
  obtain⟨v,rfl,b⟩:=kq a;cases(show v=.str z from b)
  by_cases hz:z.length<=afe
  .rw[if_pos hz]at h
   cases h;exact⟨z,rfl,hz,q O _ H (Go.refl _ _) st rfl trivial⟩
  .rw[if_neg hz]at h;cases h
 .cases h
def R.Uy{O:a4}{H:av}{r:R}{v:V}{t:String}(h:d6 K mg O H r v)(e:r.kind=some t):mu K H v t:=by
 unfold R.kind at e;split at e
 .cases e;cases h;exact .aF
 .cases e;cases h;exact .aM _
 .cases e;cases h;exact .int _
 .cases e;cases h;exact .str _
 .cases e;obtain⟨a,ys,rfl,l,_⟩:=h;exact .t l
 .cases e;obtain⟨a,ys,rfl,l,_⟩:=h;exact .l l.cN
 .cases e;obtain⟨a,ys,rfl,l,_⟩:=h;exact .l (cL.of l)
 .cases e;obtain⟨a,ys,rfl,l,_⟩:=h;exact .l l.cN
 .cases e;obtain⟨a,ys,rfl,l,_⟩:=h;exact .l (cL.of l)
 .cases e
def T9:kC K mg (Lz K) iR:=fun O U S J H vs rs bL C Q st o h q=>by
 unfold iR at h;split at h
 .rename_i x n
  obtain⟨v,u,rfl,b,c⟩:=C9 o;cases(show u=.ty n from c);split at h
  .rename_i t e
   by_cases a:n∈["int","bool","tuple","list","str"]
   .rw[if_pos a]at h
    cases h;exact⟨v,n,t,rfl,R.Uy b e,a,q O _ H (Go.refl _ _) st rfl trivial⟩
   .rw[if_neg a]at h;cases h
  .cases h
 .cases h
def T6{g:Int->Int->Int}:kC K mg (λxs H Q=>∃i j,xs=[.int i,.int j]/\Q (.int (g i j)) H) (uu g):=λO U S e H k rs f d Q st a h q=>by
 unfold uu at h;split at h
 .rename_i i j
  obtain⟨v,u,rfl,b,c⟩:=C9 a;cases(show v=.int i from b);cases(show u=.int j from c);cases h;exact⟨i,j,rfl,q O _ H (Go.refl _ _) st rfl trivial⟩
 .cases h
theorem FZ{O:a4}:∀{ds:List D}{ys:List V}{bs:List Bool},a' K mg O H ds ys->qd ds=some bs->ys=bs.map V.aM
 |[],ys,bs,h,e=>by cases e;exact h
 |d::ds,ys,bs,h,e=>by
  cases d with
  |aM b=>
   obtain⟨cs,ao,rfl⟩:=afF.mp e;obtain⟨y,r,rfl,a,c⟩:=h;rw[FZ c ao,show y=.aM b from a];rfl
  |_=>exact absurd (show(none:Option (List Bool))=some bs from e) (by intro z;cases z)
def T7:kC K mg (λxs H Q=>∃(l:Addr)(bs:List Bool),xs=[.ref l]/\cL K H l (bs.map V.aM)/\Q (.aM (bs.any id)) H) rS:=λO U S g H j rs i f Q st b h q=>by
 unfold rS at h;split at h
 .rename_i x
  obtain⟨v,rfl,c⟩:=kq b;split at h
  .rename_i xs e
   cases h;obtain⟨k,ao,aG⟩:=ajh.mp e;obtain⟨a,ys,rfl,l,d⟩:=R.pw c ao;rw[FZ d aG]at l;exact⟨a,xs,rfl,l,q O _ H (Go.refl _ _) st rfl trivial⟩
  .cases h
 .cases h
def T8:kC K mg (λxs H Q=>(∃i,xs=[.int i]/\Q (.int i) H)\/∃k,xs=[.aM k]/\Q (.int (if k then 1 else 0)) H) pb:=λO U S e H g rs f d Q st c h q=>by
 unfold pb at h;split at h
 .rename_i i
  obtain⟨v,rfl,a⟩:=kq c;cases(show v=.int i from a);cases h;exact .inl ⟨i,rfl,q O _ H (Go.refl _ _) st rfl trivial⟩
 .rename_i b
  obtain⟨v,rfl,a⟩:=kq c;cases(show v=.aM b from a);cases h;exact .inr ⟨b,rfl,q O _ H (Go.refl _ _) st rfl trivial⟩
 .cases h
def Ua:kC K mg (λxs H Q=>∃p ys,xs=[.ref p]/\(cL K H p ys\/dr K H p ys)/\∀l,H l=none->Q (.ref l) (upd H l (.l ys))) mL:=λO U S m H r rs n k Q st d h q=>by
 unfold mL at h;refine cc λf=>?_
 split at h
 .rename_i x
  obtain⟨v,rfl,g⟩:=kq d;split at h
  .rename_i xs e
   cases h;obtain⟨a,ys,rfl,l,j⟩:=R.vM g e;refine f ⟨a,ys,rfl,l,λp c=>q (gA O p .dP) _ _ (Go.new c) (st.new c) ⟨p,ys,rfl,dT,l2,j.go (Go.new c)⟩ λb i=>?_⟩;cases i;exact c
  .cases h
 .cases h
def Ud:kC K mg (λxs H Q=>∃p ys,xs=[.ref p]/\((cL K H p ys/\∀l,H l=none->Q (.ref l) (upd H l (.t ys)))\/(dr K H p ys/\Q (.ref p) H))) nR:=λO U S j H m rs k i Q st f h q=>by
 unfold nR at h;refine cc λb=>?_
 split at h
 .rename_i x
  obtain⟨v,rfl,g⟩:=kq f;split at h
  .rename_i xs e
   cases h;obtain⟨a,ys,rfl,l,d⟩:=R.vM g e;refine b ⟨a,ys,rfl,?_⟩;refine cc λb=>?_
   rcases l with l|l
   .exact b (.inl ⟨l,λp c=>q O _ _ (Go.gu c) (st.gu c) ⟨p,ys,rfl,dr.of dT,d.go (Go.gu c)⟩ trivial⟩)
   .exact b (.inr ⟨l,q O _ _ (Go.refl _ _) st ⟨a,ys,rfl,l,d⟩ trivial⟩)
  .cases h
 .cases h
end
def cutD{α:Type}(xs:List α)(lo hi:Option Int):List α:=(xs.drop (cG.cj xs.length 0 lo)).take (cG.cj xs.length xs.length hi-cG.cj xs.length 0 lo)
def a'.cut{O:a4}(h:a' K mg O H ds xs)(lo hi:Option Int):a' K mg O H (cutD ds lo hi) (rL xs lo hi):=by
 unfold cutD rL;rw[h.len];exact(h.drop _).take _
abbrev mn:=aN->M (Option Int)
def aak(K:aW)(mg:bx)(m:mn):rB:=λd H Q=>oT K mg m d H λO U e b=>∀c a,Go O c H a->cu K mg c U e d a->Q b a
abbrev Nw(X:aR)(e:Option Expr)(m:mn):Prop:=tR X e (aak X.K X.mg m)
def fR:mn:=λ_=>pure none
@[simp] def e2(m:br)(U:aN):M (Option Int):=do
 let r <-m U
 match r with
 |.v (.int i)=>pure (some i)|_=>bad
def lR(x:R)(lo hi:Option Int):M R:=
 match x with
 |.v (.t xs)=>if cG.cj xs.length 0 lo=0/\cG.cj xs.length xs.length hi=xs.length then bad else pure (.v (.t (cutD xs lo hi)))|_=>match x.fp with
  |some xs=>pure (.fr (cutD xs lo hi))|none=>bad
@[simp] def gq(a:br)(lo hi:mn)(U:aN):M R:=do
 let x <-a U
 let l <-lo U
 let h <-hi U
 lR x l h
def R.own:R->Option (List D)
 |.v (.l xs)=>some xs|.fr xs=>some xs|.mv xs=>some xs|_=>none
def qV(x y:R):M R:=match x.own,y.own with
 |some xs,some ys=>if xs.length+ys.length<=afe then pure (.fr (xs++ys))else bad|_,_=>bad
def kX:R->R->M R
 |.v (.t xs),.v (.t ys)=>if xs.length+ys.length<=afe then pure (.v (.t (xs++ys)))else bad|_,_=>bad
def oc:R->R->M R
 |.v (.str x),.v (.str y)=>if x.length+y.length<=afe then pure (.v (.str (x++y)))else bad|_,_=>bad
def R.K1{K:aW}{mg:bx}{O:a4}{H:av}{r:R}{v:V}{xs:List D}(h:d6 K mg O H r v)(e:r.own=some xs):∃a ys,v=.ref a/\H a=some (.l ys)/\a' K mg O H xs ys:=by
 unfold R.own at e;split at e
 .cases e;obtain⟨a,ys,q,l,r⟩:=h;exact⟨a,ys,q,l.1,r⟩
 .cases e;obtain⟨a,ys,q,l,_,r⟩:=h;exact⟨a,ys,q,l,r⟩
 .cases e;obtain⟨a,ys,q,l,r⟩:=h;exact⟨a,ys,q,l,r⟩
 .cases e
section
variable{K:aW}{mg:bx}
def Oc:eP K mg Lv qV:=fun O U S aq H x y o J bL ak Q st C bl h q=>by
 unfold qV at h
 cases ao:o.own with
 |none=>rw[ao]at h;cases h
 |some xs=>
  cases aG:J.own with
  |none=>rw[ao,aG]at h;cases h
  |some ys=>
   rw[ao,aG]at h;dsimp only at h
   by_cases d:xs.length+ys.length<=afe
   .rw[if_pos d]at h
    cases h;obtain⟨a,k,rfl,j,f⟩:=R.K1 C ao;obtain⟨b,l,rfl,i,e⟩:=R.K1 bl aG;refine⟨a,b,k,l,rfl,rfl,j,i,by rw[f.len,e.len];exact d,λp c=>q (gA O p .dP) _ _ (Go.new c) (st.new c) ⟨p,_,rfl,dT,l2,(f.append e).go (Go.new c)⟩ λb g=>?_⟩;cases g;exact c
   .rw[if_neg d]at h;cases h
def Oe:eP K mg (Lw K) kX:=λO U S w H x y r A z u Q st i j h q=>by
 unfold kX at h;split at h
 .rename_i xs ys
  by_cases c:xs.length+ys.length<=afe
  .rw[if_pos c]at h
   cases h;obtain⟨a,n,rfl,m,f⟩:=i;obtain⟨b,p,rfl,k,e⟩:=j;refine⟨a,b,n,p,rfl,rfl,m,k,by rw[f.len,e.len];exact c,λt d s l=>?_⟩;have g:Go O O H d:=⟨s,λ_ _=>rfl,rfl⟩;exact q O _ d g (st.go g (st.cp.same s)) ⟨t,_,rfl,l,(f.append e).go g⟩ trivial
  .rw[if_neg c]at h;cases h
 .cases h
def Od:eP K mg (λx y H Q=>∃i j,x=.str i/\y=.str j/\i.length+j.length<=afe/\Q (.str (i++j)) H) oc:=λO U S f H x y d k g e Q st b c h q=>by
 unfold oc at h;split at h
 .rename_i i j
  by_cases a:i.length+j.length<=afe
  .rw[if_pos a]at h
   cases h;exact⟨i,j,b,c,a,q O _ H (Go.refl _ _) st rfl trivial⟩
  .rw[if_neg a]at h;cases h
 .cases h
end
def D.py:D->PyData
 |.aF=>.none|.aM b=>.bool b|.int i=>.int i|.str x=>.str x|.t xs=>.tuple (jO xs)|.l xs=>.list (jO xs)|.ref _=>.none|.fn _=>.none|.ty _=>.none
where jO:List D->List PyData
 |[]=>[]
 |x::xs=>x.py::jO xs
mutual
def D.bt:D->Nat->Bool
 |.aF,_=>true|.aM _,_=>true|.int _,_=>true|.str x,_=>afT x|.t xs,n=>match n with
  |0=>false|k+1=>gr xs k
 |.l xs,n=>match n with
  |0=>false|k+1=>gr xs k
 |.ref _,_=>false|.fn _,_=>false|.ty _,_=>false
def gr:List D->Nat->Bool
 |[],_=>true|x::xs,n=>x.bt n&&gr xs n
end
mutual
def cP:D->D->Bool
 |.aF,b=>match b with|.aF=>true|_=>false
 |.aM a,b=>match b with|.aM c=>a==c|.int j=>(if a then 1 else 0)==j|_=>false
 |.int i,b=>match b with|.aM c=>i==(if c then 1 else 0)|.int j=>i==j|_=>false
 |.str x,b=>match b with|.str y=>x==y|_=>false
 |.t xs,b=>match b with|.t ys=>iH xs ys|_=>false
 |.l xs,b=>match b with|.l ys=>iH xs ys|_=>false
 |.ref _,_=>false|.fn _,_=>false|.ty _,_=>false
def iH:List D->List D->Bool
 |[],ys=>match ys with|[]=>true|_=>false
 |x::xs,ys=>match ys with|[]=>false|y::r=>cP x y&&iH xs r
end
mutual
theorem qp:∀(a b:D)(n m:Nat),a.bt n=true->b.bt m=true->ajw a.py b.py=cP a b
 |.aF,b,n,m,C,o=>by cases b<;>first|rfl|(simp[D.bt]at o)
 |.aM _,b,n,m,C,o=>by cases b<;>first|rfl|(simp[D.bt]at o)
 |.int _,b,n,m,C,o=>by cases b<;>first|rfl|(simp[D.bt]at o)
 |.str _,b,n,m,C,o=>by cases b<;>first|rfl|(simp[D.bt]at o)
 |.t xs,b,n,m,C,o=>by
  cases b with
  |t ys=>
   cases n with
   |zero=>simp[D.bt]at C|succ k=>
    cases m with
    |zero=>simp[D.bt]at o|succ j=>exact AK xs ys k j C o
  |ref _=>simp[D.bt]at o|fn _=>simp[D.bt]at o|ty _=>simp[D.bt]at o|_=>rfl
 |.l xs,b,n,m,C,o=>by
  cases b with
  |l ys=>
   cases n with
   |zero=>simp[D.bt]at C|succ k=>
    cases m with
    |zero=>simp[D.bt]at o|succ j=>exact AK xs ys k j C o
  |ref _=>simp[D.bt]at o|fn _=>simp[D.bt]at o|ty _=>simp[D.bt]at o|_=>rfl
 |.ref _,b,n,m,C,o=>by simp[D.bt]at C| .fn _,b,n,m,C,o=>by simp[D.bt]at C| .ty _,b,n,m,C,o=>by simp[D.bt]at C
theorem AK:∀(xs ys:List D)(n m:Nat),gr xs n=true->gr ys m=true->PyData.eqvAll (D.py.jO xs) (D.py.jO ys)=iH xs ys
 |[],ys,n,m,C,o=>by cases ys<;>rfl
 |x::xs,ys,n,m,C,o=>by
  cases ys with
  |nil=>rfl|cons y r=>
   rw[gr,afG]at C o;show(ajw x.py y.py&&PyData.eqvAll (D.py.jO xs) (D.py.jO r))=(cP x y&&iH xs r);rw[qp x y n m C.1 o.1,AK xs r n m C.2 o.2]
end
mutual
theorem xh:∀(a:D)(n:Nat),a.bt n=true->a.py.canLay0=true/\a.py.depth<=n
 |.aF,n,h=>⟨rfl,afC _⟩
 |.aM _,n,h=>⟨rfl,afC _⟩
 |.int _,n,h=>⟨rfl,afC _⟩
 |.str _,n,h=>⟨h,afC _⟩
 |.t xs,n,h=>by
  cases n with
  |zero=>simp[D.bt]at h|succ k=>obtain⟨bJ,cR⟩:=AY xs k h;exact⟨bJ,agZ cR⟩
 |.l xs,n,h=>by
  cases n with
  |zero=>simp[D.bt]at h|succ k=>obtain⟨bJ,cR⟩:=AY xs k h;exact⟨bJ,agZ cR⟩
 |.ref _,n,h=>by simp[D.bt]at h| .fn _,n,h=>by simp[D.bt]at h| .ty _,n,h=>by simp[D.bt]at h
theorem AY:∀(xs:List D)(n:Nat),gr xs n=true->PyData.canLayAll0 (D.py.jO xs)=true/\PyData.depthAll (D.py.jO xs)<=n
 |[],n,h=>⟨rfl,afC _⟩
 |x::xs,n,h=>by
  rw[gr,afG]at h;obtain⟨a1,a2⟩:=xh x n h.1;obtain⟨a,b⟩:=AY xs n h.2;exact⟨by show(x.py.canLay0&&PyData.canLayAll0 (D.py.jO xs))=true;rw[a1,a];rfl,by show max x.py.depth (PyData.depthAll (D.py.jO xs))<=n;omega⟩
end
def rZ{a:D}(h:a.bt 64=true):ajH a.py=true:=by
 obtain⟨b,c⟩:=xh a 64 h;show(a.py.canLay0&&decide (a.py.depth<=64))=true;rw[b,decide_eq_true c];rfl
mutual
theorem Rep.py{O:a4}:∀{d:D}{v:V}{n:Nat},d.bt n=true->Rep K mg O H d v->aE.Rep K H d.py v
 |.aF,_,_,_,h=>h|.aM _,_,_,_,h=>h|.int _,_,_,_,h=>h|.str _,_,_,_,h=>h|.t _,_,n,g,h=>by
  cases n with
  |zero=>simp[D.bt]at g|succ k=>obtain⟨a,ys,q,l,r⟩:=h;exact⟨a,ys,q,l,a'.py (n:=k) g r⟩
 |.l _,_,n,g,h=>by
  cases n with
  |zero=>simp[D.bt]at g|succ k=>obtain⟨a,ys,q,l,r⟩:=h;exact⟨a,ys,q,l.cN,a'.py (n:=k) g r⟩
 |.ref _,_,_,g,h=>by simp[D.bt]at g| .fn _,_,_,g,h=>by simp[D.bt]at g| .ty _,_,_,g,h=>by simp[D.bt]at g
theorem a'.py{O:a4}:∀{ds:List D}{ys:List V}{n:Nat},gr ds n=true->a' K mg O H ds ys->aE.a' K H (D.py.jO ds) ys
 |[],_,_,_,h=>h|_::_,_,n,g,h=>by
  rw[gr,afG]at g;obtain⟨x,r,q,a,b⟩:=h;exact⟨x,r,q,Rep.py g.1 a,a'.py g.2 b⟩
end
def R.arg:R->D
 |.v d=>d|.fr xs=>.l xs|.bF xs=>.l xs|.mv xs=>.l xs
def R.wU{K:aW}{mg:bx}{O:a4}{H:av}{r:R}{v:V}{n:Nat}(g:r.arg.bt n=true)(h:d6 K mg O H r v):aE.Rep K H r.arg.py v:=by
 have fp:∀xs,r.fp=some xs->(D.l xs).bt n=true->aE.Rep K H (D.l xs).py v:=λxs e g=>by
  obtain⟨a,ys,q,l,b⟩:=R.pw h e
  cases n with
  |zero=>simp[D.bt]at g|succ k=>exact⟨a,ys,q,l,a'.py g b⟩
 cases r with
 |v d=>exact Rep.py g h|fr xs=>exact fp xs rfl g|bF xs=>exact fp xs rfl g|mv xs=>exact fp xs rfl g
def oEq(x y:R):M R:=if x.arg.bt 64=true/\y.arg.bt 64=true then pure (.v (.aM (cP x.arg y.arg)))else bad
def dI(x y:R):M R:=if x.arg.bt 64=true/\y.arg.bt 64=true then pure (.v (.aM (!cP x.arg y.arg)))else bad
section
variable{K:aW}{mg:bx}
def EI:eP K mg (vH K false) oEq:=λO U S g H x y a d i f Q st b e h q=>by
 unfold oEq at h
 by_cases c:a.arg.bt 64=true/\d.arg.bt 64=true
 .rw[if_pos c]at h
  cases h;refine⟨_,_,R.wU c.1 b,R.wU c.2 e,rZ c.1,rZ c.2,?_⟩;rw[if_neg afc,qp _ _ _ _ c.1 c.2];exact q O _ H (Go.refl _ _) st rfl trivial
 .rw[if_neg c]at h;cases h
def ER:eP K mg (vH K true) dI:=λO U S g H x y a d i f Q st b e h q=>by
 unfold dI at h
 by_cases c:a.arg.bt 64=true/\d.arg.bt 64=true
 .rw[if_pos c]at h
  cases h;refine⟨_,_,R.wU c.1 b,R.wU c.2 e,rZ c.1,rZ c.2,?_⟩;rw[if_pos rfl,qp _ _ _ _ c.1 c.2];exact q O _ H (Go.refl _ _) st rfl trivial
 .rw[if_neg c]at h;cases h
end
def R.ka:R->Bool
 |.v .aF=>true|_=>false
def fq(x:R):R->M R
 |.v .aF=>pure (.v (.aM x.ka))|_=>bad
def gK(x:R):R->M R
 |.v .aF=>pure (.v (.aM (!x.ka)))|_=>bad
section
variable{K:aW}{mg:bx}
def Jm{O:a4}{r:R}{v:V}(h:d6 K mg O H r v):decide (v=.aF)=r.ka:=by
 have no:∀{a:Addr},v=.ref a->decide (v=.aF)=false:=λ{a} e=>by rw[e];exact decide_eq_false (by intro z;cases z)
 cases r with
 |v d=>
  cases d with
  |aF=>exact decide_eq_true h|aM _=>rw[show v=_ from h];rfl|int _=>rw[show v=_ from h];rfl|str _=>rw[show v=_ from h];rfl|ty _=>rw[show v=_ from h];rfl|t _=>obtain⟨a,_,e,_⟩:=h;exact no e
  |l _=>obtain⟨a,_,e,_⟩:=h;exact no e
  |ref _=>obtain⟨a,e,_⟩:=h;exact no e
  |fn _=>obtain⟨a,e,_⟩:=h;exact no e
 |fr _=>obtain⟨a,_,e,_⟩:=h;exact no e
 |bF _=>obtain⟨a,_,e,_⟩:=h;exact no e
 |mv _=>obtain⟨a,_,e,_⟩:=h;exact no e
def EM:eP K mg (λx y H Q=>y=.aF/\Q (.aM (decide (x=.aF))) H) fq:=λO U S e H x y c g f d Q st a b h q=>by
 unfold fq at h;split at h
 .cases h;exact⟨b,by rw[Jm a];exact q O _ H (Go.refl _ _) st rfl trivial⟩
 .cases h
def zV:eP K mg (λx y H Q=>y=.aF/\Q (.aM (!decide (x=.aF))) H) gK:=λO U S e H x y c g f d Q st a b h q=>by
 unfold gK at h;split at h
 .cases h;exact⟨b,by rw[Jm a];exact q O _ H (Go.refl _ _) st rfl trivial⟩
 .cases h
end
def D.flat:D->Bool
 |.aF=>true|.aM _=>true|.int _=>true|.str _=>true|_=>false
def inD(x:D)(xs:List D):Bool:=xs.any λy=>cP y x
def kZ(a:Bool)(x y:R):M R:=match x,y.seq with
 |.v d,some xs=>if d.flat=true/\xs.all D.flat=true then pure (.v (.aM (if a then !inD d xs else inD d xs)))else bad|_,_=>bad
section
variable{K:aW}{mg:bx}
def HZ{O:a4}{d:D}{v:V}(h:Rep K mg O H d v)(f:d.flat=true):mM v=true:=by
 cases d with
 |aF=>rw[show v=_ from h];rfl|aM _=>rw[show v=_ from h];rfl|int _=>rw[show v=_ from h];rfl|str _=>rw[show v=_ from h];rfl|_=>exact absurd (show false=true from f) afc
def QO{O:a4}{d e:D}{v u:V}(h:Rep K mg O H d v)(h':Rep K mg O H e u)(f:d.flat=true)(a:e.flat=true):mK v u=cP d e:=by
 cases d with
 |aF=>
  rw[show v=_ from h]
  cases e with
  |aF=>rw[show u=_ from h'];rfl|aM _=>rw[show u=_ from h'];rfl|int _=>rw[show u=_ from h'];rfl|str _=>rw[show u=_ from h'];rfl|_=>exact absurd (show false=true from a) afc
 |aM _=>
  rw[show v=_ from h]
  cases e with
  |aF=>rw[show u=_ from h'];rfl|aM _=>rw[show u=_ from h'];rfl|int _=>rw[show u=_ from h'];rfl|str _=>rw[show u=_ from h'];rfl|_=>exact absurd (show false=true from a) afc
 |int _=>
  rw[show v=_ from h]
  cases e with
  |aF=>rw[show u=_ from h'];rfl|aM _=>rw[show u=_ from h'];rfl|int _=>rw[show u=_ from h'];rfl|str _=>rw[show u=_ from h'];rfl|_=>exact absurd (show false=true from a) afc
 |str _=>
  rw[show v=_ from h]
  cases e with
  |aF=>rw[show u=_ from h'];rfl|aM _=>rw[show u=_ from h'];rfl|int _=>rw[show u=_ from h'];rfl|str _=>rw[show u=_ from h'];rfl|_=>exact absurd (show false=true from a) afc
 |_=>exact absurd (show false=true from f) afc
theorem Jf{O:a4}{d:D}{v:V}(h:Rep K mg O H d v)(f:d.flat=true):∀{ds:List D}{ys:List V},a' K mg O H ds ys->ds.all D.flat=true->ys.all mM=true/\BA v ys=inD d ds
 |[],ys,r,_=>by cases r;exact⟨rfl,rfl⟩
 |e::ds,ys,r,g=>by
  obtain⟨y,t,rfl,a,b⟩:=r;rw[ahW,afG]at g;obtain⟨bJ,cR⟩:=Jf h f b g.2;refine⟨by rw[ahW,HZ a g.1,bJ];rfl,?_⟩;show(y::t).any (λz=>mK z v)=(e::ds).any λz=>cP z d
  rw[ahX,ahX,QO a h g.1 f];exact congrArg _ cR
def EL(b:Bool):eP K mg (Ly K b) (kZ b):=λO U S p H x y m s r n Q st f g h q=>by
 unfold kZ at h;split at h
 .rename_i d xs e
  by_cases c:d.flat=true/\xs.all D.flat=true
  .rw[if_pos c]at h
   cases h;obtain⟨a,ys,rfl,l,k⟩:=R.vM g e;obtain⟨i,j⟩:=Jf f c.1 k c.2;exact⟨a,ys,rfl,l,HZ f c.1,i,by rw[j];exact q O _ H (Go.refl _ _) st rfl trivial⟩
  .rw[if_neg c]at h;cases h
 .cases h
end
inductive fK where
 |a6 (U:aN)|b0 (r:R)|bk (U:aN)|cM (U:aN)
abbrev bc:=aN->M fK
def Fix(o:fL):Prop:=(∃xs,o=.t xs)\/∃cq u,o=.cz cq u
structure dF(O aj:a4)(H H':av):Prop where
 cells:∀b o,H b=some o->(O b=.free\/O b=.out\/Fix o)->(h:oa o:=by exact trivial)->H' b=some o
 own:∀b,H b≠none->(O b=.free\/O b=.out)->aj b=O b
 has:∀b,H b≠none->H' b≠none
 cO:∀b ps,H b=some (.fH ps)->∃kj,H' b=some (.fH kj)
 bt:TabsOk H->TabsOk H'
 bO:aj.bO=O.bO
def Go.di{O a:a4}(g:Go O a H H'):dF O a H H':=⟨λb o e _ n=>g.same.at' b o e n,λb h _=>g.own b h,λ_ h=>g.same.some h,g.same.cO,g.same.bt,g.bO⟩
def dF.refl(O:a4)(H:av):dF O O H H:=(Go.refl O H).di
def dF.trans{O d i:a4}(a:dF O d H H1)(b:dF d i H1 C):dF O i H C:=by
 have vO:∀{b:Addr}{o:fL},H b=some o->H b≠none:=λe z=>by rw[e]at z;cases z
 refine⟨λc o e h n=>?_,λc h f=>?_,λc h=>b.has c (a.has c h),λc ps h=>let⟨p1,ao⟩:=a.cO c ps h;b.cO c p1 ao,λg=>b.bt (a.bt g),b.bO.trans a.bO⟩
 .have ao:=a.cells c o e h n
  rcases h with h|h|h
  .exact b.cells c o ao (.inl ((a.own c (vO e) (.inl h)).trans h)) n
  .exact b.cells c o ao (.inr (.inl ((a.own c (vO e) (.inr h)).trans h))) n
  .exact b.cells c o ao (.inr (.inr h)) n
 .have ao:=a.own c h f
  rw[b.own c (a.has c h) (by rw[ao];exact f),ao]
def d_(U U':aN)(a b:St):Prop:=(∀(i:Nat)(xs:List D),U'[i]? = some (Slot.bF xs)->U[i]? = some (Slot.bF xs)/\b[i]? = a[i]?)/\
 (∀(i:Nat)(ys:List D),U'[i]? = some (Slot.dY true ys)->(∃xs,U[i]? = some (Slot.dY true xs))/\b[i]? = a[i]?)
def d_.refl(U:aN)(a:St):d_ U U a a:=⟨λ_ _ h=>⟨h,rfl⟩,λ_ _ h=>⟨⟨_,h⟩,rfl⟩⟩
def d_.trans{v c d:St}(a:d_ U C v c)(b:d_ C o c d):d_ U o v d:=⟨λi xs h=>⟨(a.1 i xs (b.1 i xs h).1).1,(b.1 i xs h).2.trans (a.1 i xs (b.1 i xs h).1).2⟩,λi ys h=>by
 obtain⟨⟨xs,e⟩,q⟩:=b.2 i ys h;obtain⟨z,f⟩:=a.2 i xs e;exact⟨z,q.trans f⟩⟩
def d_.put{U:aN}(b:U[i]? = some s0)(c:∀xs,s≠.bF xs)(d:∀xs,s=.dY true xs->∃ys,s0=.dY true ys):d_ U (U.set i s) o o:=by
 have key:∀(j:Nat)(t:Slot),(U.set i s)[j]? = some t->(i=j/\t=s)\/(i≠j/\U[j]? = some t):=λj t h=>by
  by_cases a:i=j
  .subst a
   rw[afB ((fk.mp b).1)]at h;exact .inl ⟨rfl,(afy h).symm⟩
  .rw[afu a]at h
   exact .inr ⟨a,h⟩
 refine⟨λj xs h=>?_,λj ys h=>?_⟩
 .rcases key j _ h with⟨_,e⟩|⟨_,e⟩
  .exact absurd e.symm (c xs)
  .exact⟨e,rfl⟩
 .rcases key j _ h with⟨rfl,e⟩|⟨_,e⟩
  .obtain⟨g,f⟩:=d ys e.symm
   exact⟨⟨g,f▸b⟩,rfl⟩
  .exact⟨⟨_,e⟩,rfl⟩
def zw(K:aW)(mg:bx)(O:a4)(H:av):R->V->Prop
 |.v d,v=>Rep K mg O H d v|.fr xs,v=>∃a ys,v=.ref a/\H a=some (.l ys)/\(O a=.dP\/∃i,O a=.loc i)/\a' K mg O H xs ys|_,_=>False
def nC(K:aW)(mg:bx)(O:a4)(U:aN)(d:b1)(e:St)(H:av)(U':aN)(N:St->av->Prop):Prop:=
 ∀c b a,dF O c H a->cu K mg c U' d b a->d_ U U' e b->N b a
def wG(K:aW)(mg:bx)(O:a4)(U:aN)(c:b1)(e:St)(H:av)(f:fK)(d:Ends):Prop:=match f with
 |.a6 U'=>nC K mg O U c e H U' d.a6|.bk U'=>nC K mg O U c e H U' d.bk|.cM U'=>nC K mg O U c e H U' d.cM|.b0 r=>∀b v a,dF O b H a->c4 b a->fw K mg b a c->zw K mg b a r v->d.b0 v a
def nC.di{O a:a4}{N:St->av->Prop}(h:nC K mg O U o C H U' N)(g:dF O a H H1)(k:d_ U J C wt):nC K mg a J o wt H1 U' N:=
 λc d b g' st e=>h c d b (g.trans g') st (k.trans e)
def wG.di{O a:a4}(h:wG K mg O U C J H o g6)(g:dF O a H H1)(k:d_ U dZ J wt):wG K mg a dZ C wt H1 o g6:=by
 cases o with
 |a6 U'=>exact nC.di h g k|bk U'=>exact nC.di h g k|cM U'=>exact nC.di h g k|b0 r=>exact λc v b g' d e r=>h c v b (g.trans g') d e r
def i5(K:aW)(mg:bx)(m:bc):gE:=λd a H=>oT K mg m a H λO U b c=>wG K mg O U b a H c d
abbrev D'(X:aR)(st:Stmt)(m:bc):Prop:=iq X st (i5 X.K X.mg m)
abbrev tG(X:aR)(a:List Stmt)(m:bc):Prop:=hV X a (i5 X.K X.mg m)
def fz{t t':gE}(h:iq X s t)(i:∀D U H,t' D U H->t D U H):iq X s t':=λa s U H D J q=>h a s U H D J (i _ _ _ q)
def vB{t t':gE}(h:hV X s t)(i:∀D U H,t' D U H->t D U H):hV X s t':=λa s U H D J q=>h a s U H D J (i _ _ _ q)
@[simp] def bN(U:aN):M fK:=pure (.a6 U)
@[simp] def Af(U:aN):M fK:=pure (.bk U)
@[simp] def bz(a b:bc)(U:aN):M fK:=do
 let c <-a U
 match c with
 |.a6 U'=>b U'|c=>pure c
@[simp] def bh(m:br)(U:aN):M fK:=do
 let r <-m U
 match r with
 |.v d=>pure (.b0 (.v d))|.fr xs=>pure (.b0 (.fr xs))|_=>bad
@[simp] def w0(i:Nat)(U:aN):M fK:=match U[i]? with
 |some (.dY false xs)=>pure (.b0 (.fr xs))|_=>bad
@[simp] def bX(t:aN->M Bool)(a b:bc)(U:aN):M fK:=do
 let t <-t U
 if t=true then a U else b U
@[simp] def bQ(i:Nat)(m:br)(U:aN):M fK:=do
 let r <-m U
 let d <-r.dat
 pure (.a6 (U.set i (.val d)))
@[simp] def mE(i:Nat)(m:br)(U:aN):M fK:=do
 let r <-m U
 match r with
 |.fr xs=>pure (.a6 (U.set i (.dY false xs)))|_=>bad
section
variable{st:Stmt}{a b:bc}{e:Expr}{m:br}
theorem LP{O:a4}{r:R}{v:V}(h:d6 K mg O H r v)(c:(∃d,r=.v d)\/∃xs,r=.fr xs):zw K mg O H r v:=by
 rcases c with⟨d,rfl⟩|⟨xs,rfl⟩
 .exact h
 .obtain⟨a,ys,q,l,t,f⟩:=h;exact⟨a,ys,q,l,.inl t,f⟩
theorem cu.set{O:a4}{U:aN}{d:St}{v:V}(st:cu K mg O U S d H)(h:jb K mg O H (.loc i) s (some v)):cu K mg O (U.set i s) S (d.set i (some v)) H:=by
 refine⟨st.cp,by rw[af6,af6];exact st.len,λj t e=>?_,st.gy⟩
 by_cases c:i=j
 .subst c
  have f:i<U.length:=by
   have:=(fk.mp e).1
   rwa[af6]at this
  rw[afB f]at e;cases e;rw[afB (by rw[<-st.len];exact f)];exact h
 .rw[afu c]at e
  rw[afu c];exact st.loc j t e
theorem d_.set{U:aN}{c:St}{v:Option V}(aC:∀xs,s≠.bF xs)(f:∀xs,s≠.dY true xs:=by intro xs z;cases z):d_ U (U.set i s) c (c.set i v):=by
 have key:∀(j:Nat)(t:Slot),(U.set i s)[j]? = some t->t≠s->U[j]? = some t/\(c.set i v)[j]? = c[j]?:=λj t h g=>by
  by_cases d:i=j
  .subst d
   have k:i<U.length:=by
    have:=(fk.mp h).1
    rwa[af6]at this
   rw[afB k]at h;exact absurd (afy h).symm g
  .rw[afu d]at h ⊢
   exact⟨h,rfl⟩
 refine⟨λj xs h=>key j _ h (λz=>aC xs z.symm),λj ys h=>?_⟩;obtain⟨a,b⟩:=key j _ h (λz=>f ys z.symm);exact⟨⟨ys,a⟩,b⟩
theorem cu.own{K:aW}{mg:bx}{O:a4}{U:aN}{S:b1}{c:St}{H:av}{i:Nat}{a:Addr}{xs:List D}{ys:List V}(st:cu K mg O U S c H)(n:O a=.dP)(f:H a=some (.l ys))(g:a' K mg O H xs ys) :
  cu K mg (gA O a (.loc i)) (U.set i (.dY false xs)) S (c.set i (some (.ref a))) H:=by
 have ne:∀{b:Addr}{w:Own},O b=w->w≠.dP->gA O a (.loc i) b=w:=λ{b w} h hw=>by
  rw[oF];exact h;rintro rfl;exact hw (h.symm.trans n)
 have dc:md O (gA O a (.loc i)):=⟨λb h=>ne h (by intro z;cases z),rfl⟩;have k:cu K mg (gA O a (.loc i)) U S c H:=by
  refine⟨⟨λb d=>?_,st.cp.tabs,st.cp.rh.1,λb m=>ne (st.cp.rh.2 b m) (by intro z;cases z)⟩,st.len,λj s e=>(st.loc j s e).dc dc (λb h=>ne h (by intro z;cases z)) (λb h=>ne h (by intro z;cases z)),st.gy.all (λ_ _ z=>Rep.dc dc z) rfl λ_ _ _ l _=>l⟩
  by_cases e:b=a
  .rw[e,f];intro z;cases z
  .rw[oF e]at d;exact st.cp.has b d
 exact k.set ⟨a,ys,rfl,l2,f,g.dc dc⟩
theorem dF.dP{O:a4}{H:av}{a:Addr}{w:Own}(c:O a=.dP):dF O (gA O a w) H H:=by
 refine⟨λb o e _ _=>e,λb h f=>?_,λ_ h=>h,λ_ ps h=>⟨ps,h⟩,id,rfl⟩;rw[oF];rintro rfl;rw[c]at f;rcases f with z|z<;>cases z
theorem Me{f:TE}(hi:∀U H Q,i4 K mg m U H Q->f U H Q):∀D c H,i5 K mg (bQ i m) D c H->ti f (mP i) D c H:=by
 rintro D c H ⟨O,U,S,w,u,st,h,q⟩;obtain⟨r,S1,l,h⟩:=M.inv h;obtain⟨d,x,n,h⟩:=M.inv h;cases h;refine hi c H _ ⟨O,U,S,r,S1,st,l,λj v g t k p nn=>?_⟩;obtain⟨s,rfl⟩:=qj p nn n;exact q (cz H j) _ g t.cz.di ((k.cz H).set ⟨v,rfl,s⟩) (d_.set λxs z=>by cases z)
theorem K0{d:TE}(hi:∀U H Q,i4 K mg m U H Q->d U H Q):∀D c H,i5 K mg (mE i m) D c H->ti d (mP i) D c H:=by
 rintro D c H ⟨O,U,S,w,u,st,h,q⟩;obtain⟨r,S1,j,h⟩:=M.inv h;split at h
 .rename_i xs
  cases h;refine hi c H _ ⟨O,U,S,_,_,st,j,λs v f n g k nn=>?_⟩;obtain⟨a,ys,rfl,l,t,p⟩:=k;exact q _ _ f (n.di.trans (dF.dP t)) (g.own t l p) (d_.set λxs z=>by cases z)
 .cases h
end
@[simp] def F'(i:Nat)(f:List D->List R->M (R×List D))(ms:cJ)(U:aN):M (R×aN):=do
 let rs <-ms U
 match U[i]? with
 |some (.dY p xs)=>do
  let(r,ys) <-f xs rs
  pure (r,U.set i (.dY p ys))
 |_=>bad
@[simp] def kJ(i:Nat)(f:List D->List R->M (R×List D))(ms:cJ)(U:aN):M fK:=do
 let(_,U') <-F' i f ms U
 pure (.a6 U')
def eG(xs:List D):List R->M (R×List D)
 |[r]=>do
  let d <-r.dat
  iv (xs.length<afe)
  pure (.v .aF,xs++[d])
 |_=>bad
def rb(xs:List D):List R->M (R×List D)
 |[]=>match xs[xs.length-1]? with
  |some d=>pure (.v d,xs.dropLast)|none=>bad
 |_=>bad
def y4(xs:List D):List R->M (R×List D)
 |[]=>pure (.v .aF,xs.reverse)|_=>bad
section
variable{K:aW}{mg:bx}{O:a4}{H:av}{l:Addr}{zs ws:List V}
mutual
theorem Rep.eA(c:O l≠.free)(b:H l=some (.l zs)):∀{d:D}{v:V},Rep K mg O H d v->Rep K mg O (upd H l (.l ws)) d v
 |.aF,_,h=>h|.aM _,_,h=>h|.int _,_,h=>h|.str _,_,h=>h|.t _,_,h=>by
  obtain⟨a,ys,q,t,r⟩:=h;refine⟨a,ys,q,?_,a'.eA c b r⟩;rcases t with(t|⟨o,t⟩)|t
  .exact .inl (.inl (by rw[da (Kv t b (by intro z;cases z))];exact t))
  .exact .inl (.inr ⟨o,by rw[da (Kv t b (by intro z;cases z))];exact t⟩)
  .exact .inr t
 |.l _,_,h=>by
  obtain⟨a,ys,q,t,r⟩:=h;exact⟨a,ys,q,⟨by rw[da (by rintro rfl;exact c t.2)];exact t.1,t.2⟩,a'.eA c b r⟩
 |.ref _,_,h=>h|.fn _,_,h=>h|.ty _,_,h=>h
theorem a'.eA(c:O l≠.free)(d:H l=some (.l zs)):∀{ds:List D}{ys:List V},a' K mg O H ds ys->a' K mg O (upd H l (.l ws)) ds ys
 |[],_,h=>h| _::_,_,h=>by obtain⟨x,r,q,a,b⟩:=h;exact⟨x,r,q,Rep.eA c d a,a'.eA c d b⟩
end
def g9.eA(b:O l≠.free)(c:O l≠.out)(h:g9 K O H a ys):g9 K O (upd H l (.l ws)) a ys:=by
 rcases h with⟨h,f⟩|h
 .have ne:a≠l:=by rintro rfl;exact f.elim b c
  refine .inl ⟨?_,f⟩;rcases h with h|⟨o,h⟩
  .exact .inl (by rw[da ne];exact h)
  .exact .inr ⟨o,by rw[da ne];exact h⟩
 .exact .inr h
def jb.eA(b:O l≠.free)(d:O l≠.out)(hw:O l≠w)(c:H l=some (.l zs)):∀{s:Slot}{u:Option V},jb K mg O H w s u->jb K mg O (upd H l (.l ws)) w s u
 |.emp,_,_=>trivial| .val _,_,h=>by obtain⟨v,q,r⟩:=h;exact⟨v,q,r.eA b c⟩
 |.dY _ _,_,h=>by obtain⟨a,ys,q,o,t,r⟩:=h;exact⟨a,ys,q,o,by rw[da (by rintro rfl;exact hw o)];exact t,r.eA b c⟩
 |.bF _,_,h=>by obtain⟨a,ys,q,t,r⟩:=h;exact⟨a,ys,q,t.eA b d,r.eA b c⟩
def c4.eA(d:c4 O H)(c:H l=some (.l zs)):c4 O (upd H l (.l ws)):=⟨λa b=>by
 by_cases e:a=l
 .rw[e,dT];intro z;cases z
 .rw[da e];exact d.has a b,d.tabs.l c _,d.rh⟩
def dF.eA(c:O l≠.free)(d:O l≠.out)(a:H l=some (.l zs)):dF O O H (upd H l (.l ws)):=by
 refine⟨λb o e h _=>?_,λ_ _ _=>rfl,λb h=>?_,λb ps e=>⟨ps,by rw[da (by rintro rfl;rw[a]at e;cases e)];exact e⟩,λg=>g.l a _,rfl⟩
 .rw[da]
  .exact e
  .rintro rfl
   rcases h with h|h|⟨xs,h⟩|⟨_,_,h⟩
   .exact c h
   .exact d h
   .subst h;rw[e]at a;cases a
   .subst h;rw[e]at a;cases a
 .by_cases e:b=l
  .rw[e,dT];intro z;cases z
  .rw[da e];exact h
def fw.eA(s:fw K mg O H S)(c:c4 O H)(b:O l≠.free)(d:O l≠.out)(f:H l=some (.l zs)):fw K mg O (upd H l (.l ws)) S:=
 s.all (λ_ _ z=>Rep.eA b f z) rfl λa h u e _=>by rw[da (by rintro rfl;exact d (c.rh.2 _ h))];exact e
def cu.eA{U:aN}{c:St}(st:cu K mg O U S c H)(hi:U[i]? = some (.dY p xs))(g:c[i]?.join=some (.ref l))(d:O l=.loc i)(a:H l=some (.l zs))(f:a' K mg O H ys ws) :
  cu K mg O (U.set i (.dY p ys)) S c (upd H l (.l ws)):=by
 have ne:∀w:Own,w≠.loc i->O l≠w:=λw hw z=>hw (z.symm.trans d)
 refine⟨st.cp.eA a,by rw[af6];exact st.len,λj t e=>?_,st.gy.eA st.cp (ne _ (by intro z;cases z)) (ne _ (by intro z;cases z)) a⟩
 by_cases b:i=j
 .subst b
  have h:i<U.length:=(fk.mp hi).1;rw[afB h]at e;cases e;exact⟨l,ws,g,d,dT,f.eA (ne _ (by intro z;cases z)) a⟩
 .rw[afu b]at e
  exact(st.loc j t e).eA (ne _ (by intro z;cases z)) (ne _ (by intro z;cases z)) (ne _ (by intro z;cases z;exact b rfl)) a
end
def l_(K:aW)(mg:bx)(r:V->List V->av->cC->Prop)(f:List D->List R->M (R×List D)):Prop:=
 ∀O H H₀ l xs zs rs vs S o C ys (Q:cC),H l=some (.l zs)->a' K mg O H xs zs->hX K mg O H rs vs->jW H₀ rs vs->(f xs rs).run S=.ok (C,ys) o->
  (∀v a,S=o->a' K mg (cz H₀ O) H ys a->(∃d,C=.v d/\Rep K mg (cz H₀ O) H d v)->Q v (upd H l (.l a)))->r (.ref l) vs H Q
section
variable{K:aW}{mg:bx}
def Ki:l_ K mg Lu eG:=λO H H₀ l xs m rs t S n p ys Q k a b g h q=>by
 unfold eG at h;split at h
 .rename_i r
  obtain⟨v,rfl,i⟩:=kq b;obtain⟨d,S1,e,h⟩:=M.inv h;obtain⟨_,s,f,h⟩:=M.inv h;obtain⟨c,rfl⟩:=ue f;obtain⟨j,rfl⟩:=qj (H₀:=H₀) i g.1 e;cases h;exact⟨l,m,v,rfl,rfl,k,by rw[a.len];exact c,q .aF _ rfl ((a.dc (jj _ _)).append (.one j)) ⟨.aF,rfl,rfl⟩⟩
 .cases h
def U7:l_ K mg LF rb:=λO H H₀ l xs g rs k S i j ys Q f b a c h q=>by
 match rs,a,c,h with
 |[],a,c,h=>
  cases a;unfold rb at h
  cases e:xs[xs.length-1]? with
  |none=>rw[e]at h;cases h
  |some d=>
   rw[e]at h;cases h;obtain⟨y,ao,aG⟩:=b.get e;exact⟨l,g,y,rfl,rfl,f,by rw[b.len];exact ao,q y _ rfl (b.dropLast.dc (jj _ _)) ⟨d,rfl,aG.dc (jj _ _)⟩⟩
 |_::_,a,c,h=>cases h
def U9:l_ K mg LH y4:=λO H H₀ l xs e rs i S f g ys Q d c a b h q=>by
 match rs,a,b,h with
 |[],a,b,h=>
  cases a;cases h;exact⟨l,e,rfl,rfl,d,q .aF _ rfl (c.reverse.dc (jj _ _)) ⟨.aF,rfl,rfl⟩⟩
 |_::_,a,b,h=>cases h
variable{f:List D->List R->M (R×List D)}{r:V->List V->av->cC->Prop}{ms:cJ}{i:Nat}
def Kp(W:l_ K mg r f){O:a4}{U U':aN}{S t:b1}{b:St}{H:av}{x:R}{Q:cC}(st:cu K mg O U S b H)(h:(F' i f ms U).run S=.ok (x,U') t)
  (q:∀m v g,dF O m H g->cu K mg m U' t b g->d_ U U' b b->(∃d,x=.v d/\Rep K mg m g d v)->Q v g) :
  ∃v,b[i]? = some (some v)/\y3 K "list" v H/\oz K mg ms b H λn G=>r v n G Q:=by
 refine cc λj=>?_
 obtain⟨rs,S1,L,h⟩:=M.inv h
 cases e:U[i]? with
 |none=>refine j ?_;rw[e]at h;cases h
 |some s=>
  rw[e]at h
  cases s with
  |emp=>cases h
  |val _=>cases h
  |bF _=>cases h
  |dY p xs=>
   obtain⟨⟨Z,ys⟩,o,N,h⟩:=M.inv h;cases h;obtain⟨a,Y,ao,aG,cI,dh⟩:=st.loc i _ e;have A:b[i]? = some (some (.ref a)):=by
    cases w:b[i]? with
    |none=>rw[w]at ao;cases ao
    |some y=>rw[w]at ao;exact congrArg some ao
   refine j ⟨.ref a,A,.inl ⟨rfl,_,cL.of cI⟩,O,U,S,rs,S1,st,L,λc n D k I P nn=>?_⟩;have l:=k.same.at' _ _ cI;have u:H a≠none:=by rw[cI];intro z;cases z
   have E:c a=.loc i:=(k.own a u).trans aG;refine W c D H a xs Y rs n S1 _ _ ys Q l (dh.go k) P nn N λv C aw X F=>?_
   refine cc λj=>?_
   obtain⟨d,T,V⟩:=F;subst aw;have B:cz H c a=.loc i:=by rw[AU u];exact E
   have no:∀w:Own,w≠.loc i->cz H c a≠w:=λw hw z=>hw (z.symm.trans B)
   refine j ?_;refine q (cz H c) v _ (k.cz.di.trans (dF.eA (no _ (by intro z;cases z)) (no _ (by intro z;cases z)) l)) ((I.cz H).eA e (by rw[A];rfl) B l X) ?_ ⟨d,T,V.eA (no _ (by intro z;cases z)) l⟩;exact d_.put e (λxs z=>by cases z) (λ_ z=>by cases z;exact⟨xs,rfl⟩)
end
def tL(b:hT)(O:a4)(H:av)(ys:List V):Prop:=∀d a,dF O d H a->∀i,(i<ys.length->b.go i a/\∀x c,b.pX i a x c->c=a/\ys[i]? = some x)/\(ys.length<=i->b.stop i a)
abbrev fO:=aN->M (List D)
def vT(K:aW)(mg:bx)(m:fO):TI:=λc H R=>oT K mg m c H λO U e xs=>∀b a d ys,Go O b H a->cu K mg b U e c a->wz d a ys->a' K mg b a xs ys->R d a
def vU(K:aW)(mg:bx)(m:fO):TI:=λc H R=>oT K mg m c H λO U e xs=>∀b a d ys,Go O b H a->cu K mg b U e c a->tL d b a ys->a' K mg b a xs ys->R d a
abbrev D8(X:aR)(b_ a:Expr)(m:fO):Prop:=jD X b_ a (vT X.K X.mg m)
abbrev Nv(X:aR)(b_ a:Expr)(m:fO):Prop:=jD X b_ a (vU X.K X.mg m)
def oh{b_ e:Expr}{t t':TI}(h:jD X b_ e t)(i:∀U H Q,t' U H Q->t U H Q):jD X b_ e t':=λa s U H Q J q=>h a s U H Q J (i _ _ _ q)
def dF.vQ{O b:a4}(g:dF O b H H')(h:dr K H a ys):dr K H' a ys:=by
 rcases h with(h|⟨o,h⟩)|h
 .exact .inl (.inl (g.cells _ _ h (.inr (.inr (.inl ⟨_,rfl⟩)))))
 .exact .inl (.inr ⟨o,g.cells _ _ h (.inr (.inr (.inr ⟨_,_,rfl⟩)))⟩)
 .exact .inr h
def dF.BR{O b:a4}(g:dF O b H H')(h:g9 K O H a ys):g9 K b H' a ys:=by
 rcases h with⟨h,f⟩|h
 .refine .inl ⟨?_,by rw[g.own a (gS.some h) f];exact f⟩
  rcases h with h|⟨o,h⟩
  .exact .inl (g.cells _ _ h (f.elim .inl λz=>.inr (.inl z)))
  .exact .inr ⟨o,g.cells _ _ h (f.elim .inl λz=>.inr (.inl z))⟩
 .exact .inr h
@[simp] def iX(m:br)(U:aN):M (List D):=do
 let r <-m U
 match r with
 |.v (.t xs)=>pure xs|_=>bad
@[simp] def Jb(m:br)(U:aN):M (List D):=do
 let r <-m U
 match r with
 |.v (.l xs)=>pure xs|.fr xs=>pure xs|.bF xs=>pure xs|_=>bad
@[simp] def Bw(m:br)(U:aN):M (List D):=do
 let r <-m U
 match r.fp with
 |some xs=>pure xs|none=>bad
def gO(lo:Int)(n:Nat):List D:=(afR n).map λi=>D.int (lo+(i:Nat))
omit [aE.a5]in
theorem C'(lo:Int)(n:Nat):(gO lo n).length=n:=by unfold gO;rw[sg,agT]
@[simp] def iB(m:cJ)(U:aN):M (List D):=do
 let rs <-m U
 match rs with
 |[.v (.int j)]=>if -(2 ^ 62)<=j/\j<2 ^ 62 then pure (gO 0 j.toNat)else bad|_=>bad
@[simp] def sb(m:cJ)(U:aN):M (List D):=do
 let rs <-m U
 match rs with
 |[.v (.int i),.v (.int j)]=>if -(2 ^ 62)<=i/\i<2 ^ 62/\-(2 ^ 62)<=j/\j<2 ^ 62 then pure (gO i (j-i).toNat)else bad|_=>bad
def Dc{O:a4}(lo:Int)(n:Nat):a' K mg O H (gO lo n) (lU lo n):=by
 unfold gO lU
 induction(afR n)with
 |nil=>rfl|cons a r b=>exact⟨.int (lo+a),_,rfl,rfl,b⟩
def Jo{O:a4}(lo:Int)(n:Nat):tL (mi lo n) O H (lU lo n):=λb a _ i=>xE lo n a (ec.refl _) i
section
variable{a:Expr}{ms:cJ}
def LY:(∀b H R,vU K mg (iB ms) b H R->Bx (oz K mg ms) b H R)/\(∀b H R,vT K mg (iB ms) b H R->Bx (oz K mg ms) b H R):=by
 constructor<;>
 .rintro b H R ⟨O,U,S,xs,m,st,h,q⟩
  obtain⟨rs,S1,g,h⟩:=M.inv h;split at h
  .rename_i j
   by_cases c:-(2 ^ 62)<=j/\j<2 ^ 62
   .rw[if_pos c]at h
    cases h;refine⟨O,U,S,_,_,st,g,λe n d l f k nn=>?_⟩;obtain⟨v,rfl,i⟩:=kq k;cases(show v=.int j from i);exact⟨j,rfl,c.1,c.2,q e d (mi 0 j.toNat) (lU 0 j.toNat) l f (by first|exact Jo _ _|exact xE _ _) (Dc _ _)⟩
   .rw[if_neg c]at h;cases h
  .cases h
def Y0:(∀b H R,vU K mg (sb ms) b H R->By (oz K mg ms) b H R)/\(∀b H R,vT K mg (sb ms) b H R->By (oz K mg ms) b H R):=by
 constructor<;>
 .rintro b H R ⟨O,U,S,xs,p,st,h,q⟩
  obtain⟨rs,S1,g,h⟩:=M.inv h;split at h
  .rename_i i j
   by_cases c:-(2 ^ 62)<=i/\i<2 ^ 62/\-(2 ^ 62)<=j/\j<2 ^ 62
   .rw[if_pos c]at h
    cases h;refine⟨O,U,S,_,_,st,g,λe r d n f l nn=>?_⟩;obtain⟨v,u,rfl,k,m⟩:=C9 l;cases(show v=.int i from k);cases(show u=.int j from m);exact⟨i,j,rfl,c,q e d (mi i (j-i).toNat) (lU i (j-i).toNat) n f (by first|exact Jo _ _|exact xE _ _) (Dc _ _)⟩
   .rw[if_neg c]at h;cases h
  .cases h
def BD{K:aW}{O:a4}{H:av}{a:Addr}{xs:List V}(h:g9 K O H a xs):tL (oP K a) O H xs:=λc b g i=>Jn (g.BR h).cN b (ec.refl _) i
def TY{K:aW}{O:a4}{H:av}{a:Addr}{xs:List V}(h:dr K H a xs):tL (ru K a) O H xs:=λc b g i=>Jp (g.vQ h) b (ec.refl _) i
end
def hk(b:D->bc):List D->bc
 |[]=>λU=>pure (.a6 U)
 |d::ds=>λU=>do
  let a <-b d U
  match a with
  |.a6 U'=>hk b ds U'|.cM U'=>hk b ds U'|.bk U'=>pure (.a6 U')|.b0 r=>pure (.b0 r)
@[simp] def jf(i:Nat)(it:fO)(b:bc)(U:aN):M fK:=do
 let ds <-it U
 hk (λd U=>b (U.set i (.val d))) ds U
def rj(c:aN->M Bool)(b:bc):Nat->bc
 |0=>λ_=>bad
 |n+1=>λU=>do
  let t <-c U
  if t=true then do
   let a <-b U
   match a with
   |.a6 U'=>rj c b n U'|.cM U'=>rj c b n U'|.bk U'=>pure (.a6 U')|.b0 r=>pure (.b0 r)
  else pure (.a6 U)
@[irreducible] def tp:Nat:=2 ^ 24
def ub(c:aN->M Bool)(b:bc):bc:=rj c b tp
def cu.val{O:a4}{U:aN}{a:St}{v:V}(st:cu K mg O U S a H)(h:Rep K mg O H d v):cu K mg O (U.set i (.val d)) S (a.set i (some v)) H:=st.set ⟨v,rfl,h⟩
def a'.di{O e:a4}(g:dF O e H H'):∀{ds:List D}{ys:List V},a' K mg O H ds ys->a' K mg e H' ds ys:=by
 have rep:∀(d:D)(v:V),Rep K mg O H d v->Rep K mg e H' d v:=by
  intro d
  induction d using D.rec (motive_2:=λds=>∀ys,a' K mg O H ds ys->a' K mg e H' ds ys)with
  |aF=>exact λv h=>h
  |aM _=>exact λv h=>h
  |int _=>exact λv h=>h
  |str _=>exact λv h=>h
  |fn _=>exact λv h=>h
  |ty _=>exact λv h=>h
  |ref n=>exact λv ⟨a,q,l⟩=>⟨a,q,by rw[g.bO];exact l⟩
  |t xs c=>exact λv ⟨a,ys,q,l,r⟩=>⟨a,ys,q,g.vQ l,c ys r⟩
  |l xs c=>exact λv ⟨a,ys,q,l,r⟩=>⟨a,ys,q,⟨g.cells _ _ l.1 (.inl l.2),by rw[g.own a (by rw[l.1];intro z;cases z) (.inl l.2)];exact l.2⟩,c ys r⟩
  |nil=>assumption|cons x xs f i=>
   rename_i j hz;obtain⟨y,r,q,a,b⟩:=hz;exact⟨y,r,q,f y a,i r b⟩
 intro ds
 induction ds with
 |nil=>exact λh=>h
 |cons x xs c=>rintro ys ⟨y,r,q,a,b⟩;exact⟨y,r,q,rep x y a,c b⟩
section
variable{it:fO}{i:Nat}{b:bc}{x:Str}{t:aN->M Bool}
def a'.get'{O:a4}{ds:List D}{ys:List V}(h:a' K mg O H ds ys)(e:ds.drop k=d::o):∃y,ys[k]? = some y/\Rep K mg O H d y/\ds.drop (k+1)=o:=by
 have ao:ds[k]? = some d:=by
  have:=congrArg (·[0]?) e;simpa using this
 obtain⟨y,q,r⟩:=h.get ao;refine⟨y,q,r,?_⟩;simpa using congrArg (List.drop 1) e
theorem Rj{G:hZ}{B:aY.D->bc}(mS:∀O U S l H d y f g Q,cu K mg O U S l H->Rep K mg O H d y->(B d U).run S=.ok f g->(∀z I,cu K mg O z S I H->d_ U z l I->(b z).run S=.ok f g->Q I H)->G y l H Q) :
  ∀D l H,i5 K mg (λU=>do
   let ds <-it U
   hk B ds U) D l H->q_ (vU K mg it) G (i5 K mg b) D l H:=by
 rintro D l H ⟨O,U,S,V,R,st,h,q⟩;obtain⟨ds,S1,J,h⟩:=M.inv h;refine⟨O,U,S,ds,S1,st,J,λL P bY ys N C A o=>?_⟩;refine⟨λk m E u=>m=ys.length-k/\k<=ys.length/\∃n U' F,cu K mg n U' F E u/\dF L n P u/\d_ U U' l E/\(hk B (ds.drop k) U').run F=.ok V R,
  ⟨_,rfl,afC _,L,U,S1,C,dF.refl _ _,d_.refl _ _,h⟩,?_⟩
 rintro k m E u ⟨rfl,ay,n,U',F,T,g',kp,h⟩
 cases e:ds.drop k with
 |nil=>
  have hl:ys.length<=k:=by
   have:=congrArg agx e;rw[afP,agm]at this;rw[o.len];omega
  rw[e]at h;cases h;exact .inl ⟨(A n u g' k).2 hl,q n E u (N.di.trans g') T kp⟩
 |cons d lA=>
  obtain⟨y,X,bU,W⟩:=(a'.di g' o).get' e;have Y:=(fk.mp X).1;obtain⟨go,oJ⟩:=(A n u g' k).1 Y;rw[e]at h;obtain⟨Z,g,af,h⟩:=M.inv h;refine .inr ⟨go,λp c=>∃a j g,cu K mg a j g p c/\dF L a P c/\d_ U j l p/\(hk B (ds.drop (k+1)) j).run g=.ok V R,?_,λx c jw=>?_⟩
  .rintro p c ⟨a,j,g,a1,a2,ed,kH⟩
   exact⟨_,by omega,rfl,Y,a,j,g,a1,a2,ed,kH⟩
  .obtain⟨rfl,ex⟩:=oJ x c jw
   rw[X]at ex;cases ex;refine mS _ _ _ _ _ _ _ _ _ _ T bU af λz I ks eW ag=>?_
   refine⟨n,z,F,Z,g,ks,ag,?_⟩
   cases Z with
   |a6 j=>exact λa p c s w k2=>⟨a,j,g,w,g'.trans s,kp.trans (eW.trans k2),by rw[W];exact h⟩
   |cM j=>exact λa p c s w k2=>⟨a,j,g,w,g'.trans s,kp.trans (eW.trans k2),by rw[W];exact h⟩
   |bk j=>cases h;exact λa p c s w k2=>q a p c (N.di.trans (g'.trans s)) w (kp.trans (eW.trans k2))
   |b0 r=>cases h;exact λa v c s dV aG b6=>q a v c (N.di.trans (g'.trans s)) dV aG b6
def Rm:∀D a H,i5 K mg (jf i it b) D a H->q_ (vU K mg it) (mP i) (i5 K mg b) D a H:=
 Rj λ_ _ _ _ _ _ _ _ _ _ st c h k=>k _ _ (st.val c) (d_.set λxs z=>by cases z) h
def abn:∀D k H,i5 K mg (ub t b) D k H->Mz (pO K mg t) (i5 K mg b) D k H:=by
 rintro D k H ⟨O,U,S,E,B,st,h,q⟩;refine⟨λm u y=>∃s U' w,cu K mg s U' w u y/\dF O s H y/\d_ U U' k u/\(rj t b m U').run w=.ok E B,⟨tp,O,U,S,st,dF.refl _ _,d_.refl _ _,h⟩,?_⟩;rintro m u y ⟨s,U',w,Q,g',kp,h⟩
 cases m with
 |zero=>cases h
 |succ n=>
  obtain⟨G,S1,L,h⟩:=M.inv h;refine⟨s,U',w,G,S1,Q,L,λz I p A=>?_⟩
  cases G with
  |false=>
   rw[if_neg afc]at h;cases h;exact lK (q z u I (g'.trans p.di) A kp)
  |true=>
   rw[if_pos rfl]at h;obtain⟨F,f,N,h⟩:=M.inv h;refine lL ⟨λg e=>∃c d f,cu K mg c d f g e/\dF O c H e/\d_ U d k g/\(rj t b n d).run f=.ok E B,?_,z,U',S1,F,f,A,N,?_⟩
   .rintro g e ⟨c,d,f,a⟩
    exact⟨n,Nat.lt_succ_self _,c,d,f,a⟩
   .cases F with
    |a6 d=>exact λc g e j l k2=>⟨c,d,f,l,g'.trans (p.di.trans j),kp.trans k2,h⟩
    |cM d=>exact λc g e j l k2=>⟨c,d,f,l,g'.trans (p.di.trans j),kp.trans k2,h⟩
    |bk d=>cases h;exact λc g e j l k2=>q c g e (g'.trans (p.di.trans j)) l (kp.trans k2)
    |b0 r=>cases h;exact λc v e j R aG P=>q c v e (g'.trans (p.di.trans j)) R aG P
end
def iD(t:aN->M Bool)(el:br)(U:aN):List D->M (List D)
 |[]=>pure []|d::ds=>do
  let b <-t (U.set 0 (.val d))
  if b=true then do
   let r <-el (U.set 0 (.val d))
   let x <-r.dat
   let xs <-iD t el U ds
   pure (x::xs)
  else iD t el U ds
def rK:Option Slot->Slot
 |some (.val d)=>.val d|some (.dY _ xs)=>.bF xs|some (.bF xs)=>.bF xs|_=>.emp
def mF(n:Nat)(cap:List Nat)(U:aN):aN:=af0 n .emp++cap.map λk=>rK U[k]?
@[simp] def hy(n:Nat)(cap:List Nat)(it:fO)(t:aN->M Bool)(el:br)(U:aN):M R:=do
 let ds <-it U
 iv (ds.length<afe)
 let xs <-iD t el (mF n cap U) ds
 pure (.fr xs)
def oy:aN->M Bool:=λ_=>pure true
abbrev D7(X:aR)(a:List Expr)(t:aN->M Bool):Prop:=rz X a (pO X.K X.mg t)
def Own.en:Own->Own
 |.loc _=>.out|.dP=>.out|o=>o
def en(O:a4):a4:=⟨λb=>(O b).en,O.bO⟩
def t8(O:a4)(b:Addr):en O b=(O b).en:=rfl
def FX{O:a4}(d:c4 O H):jE (en O):=⟨d.rh.1,λa h=>by rw[t8,d.rh.2 a h];rfl⟩
def o1{O:a4}:en O b=.free↔O b=.free:=by rw[t8];cases O b<;>simp[Own.en]
def mB(O:a4)(b:Addr):en O b=.free\/en O b=.out:=by rw[t8];cases O b<;>simp[Own.en]
def nJ(O:a4):md O (en O):=⟨λ_ h=>o1.mpr h,rfl⟩
def g9.en{O:a4}(h:g9 K O H a ys):g9 K (en O) H a ys:=by
 rcases h with⟨h,f⟩|h
 .refine .inl ⟨h,?_⟩
  rcases f with f|f
  .exact .inl (o1.mpr f)
  .exact .inr (by rw[t8,f];rfl)
 .exact .inr h
def cu.en{O:a4}(st:cu K mg O U S J H)(n:Nat)(cap:List Nat):cu K mg (en O) (mF n cap U) S (ha n cap J) H:=by
 refine⟨⟨λa f=>st.cp.has a λz=>f (o1.mpr z),st.cp.tabs,FX st.cp⟩,?_,λi s e=>?_,st.gy.all (λ_ _ z=>Rep.dc (nJ O) z) rfl λ_ _ _ l _=>l⟩
 .unfold mF ha
  rw[afb,afb,agc,agc,sg,sg]
 .unfold mF at e
  unfold ha
  by_cases hi:i<n
  .rw[afk (by simpa using hi),agH,if_pos hi]at e
   cases e;exact trivial
  .rw[afn (by simpa using hi),agc,afh]at e
   rw[afn (by simpa using hi),agc,afh]
   cases C:cap[i-n]? with
   |none=>rw[C]at e;cases e
   |some k=>
    rw[C]at e;have b:rK U[k]? = s:=afy e
    cases aw:U[k]? with
    |none=>rw[aw]at b;subst b;exact trivial|some c=>
     rw[aw]at b;have l:=st.loc k c aw
     cases c with
     |emp=>subst b;exact trivial|val d=>subst b;obtain⟨v,q,r⟩:=l;exact⟨v,q,r.dc (nJ O)⟩
     |bF xs=>subst b;obtain⟨a,ys,q,l,r⟩:=l;exact⟨a,ys,q,l.en,r.dc (nJ O)⟩
     |dY p xs=>subst b;obtain⟨a,ys,q,o,l,r⟩:=l;exact⟨a,ys,q,.inl ⟨.inl l,.inr (by rw[t8,o];rfl)⟩,r.dc (nJ O)⟩
def cu.aaB{O:a4}{H:av}(st:cu K mg O U S o H)(b:O l=.dP)(a:H l=some (.l zs)):cu K mg O U S o (upd H l (.l ws)):=by
 have ne:∀w:Own,w≠.dP->O l≠w:=λw hw z=>hw (z.symm.trans b)
 exact⟨st.cp.eA a,st.len,λj t e=>(st.loc j t e).eA (ne _ (by intro z;cases z)) (ne _ (by intro z;cases z)) (ne _ (by intro z;cases z)) a,st.gy.eA st.cp (ne _ (by intro z;cases z)) (ne _ (by intro z;cases z)) a⟩
section
variable{K:aW}{mg:bx}{n:Nat}{cap:List Nat}{it:fO}{t:aN->M Bool}{el:br}
def pj{α:Type}(put:α->Option aN)(t:aN->M Bool)(el:br):List α->M (List D)
 |[]=>pure []|d::ds=>match put d with
  |none=>bad|some U=>do
   let b <-t U
   if b=true then do
    let r <-el U
    let x <-r.dat
    let xs <-pj put t el ds
    pure (x::xs)
   else pj put t el ds
omit [aE.a5]in
theorem Jw(U:aN):∀ds:List D,iD t el U ds=pj (λd=>some (U.set 0 (.val d))) t el ds
 |[]=>rfl| d::ds=>by unfold iD pj;rw[Jw U ds]
inductive CompI{α:Type}(K:aW)(mg:bx)(n:Nat)(cap:List Nat)(L:Nat->M (List aY.D))(aP:a4)(U:aN)(S1:b1)(aq:St)(H1:av)(A:Addr)(xs:List aY.D)(k:Nat)(zs:List V)(H':av):Prop
 |mk (aj:a4) (acc pV:List aY.D) (b7:cu K mg aj (mF n cap U) S1 (ha n cap aq) H') (g':Go (en aP) aj H1 H') (yV:aj A=.dP) (dC:H' A=some (.l zs)) (hz:zs.length<=k)
   (lV:a' K mg aj H' acc zs) (h:(L k).run S1=.ok pV S1) (ex:acc++pV=xs)
def PZ{α:Type}{put:α->Option aN}{c:List α}{j:a4}{U:aN}{S1 O:b1}{s:St}{g:av}{P:hT}{G:hZ}{xs:List aY.D}{Q:cC}(w:cu K mg j U S1 s g)(hlen:c.length<afe)
  (stop:∀f,ec g f->P.stop c.length f)
  (step:∀k d u i f,c[k]? = some d->put d=some u->Go (en j) i g f->cu K mg i (mF n cap U) S1 (ha n cap s) f->P.go k f/\∀x N (R:St->av->Prop),P.pX k f x N->
   (∀T S,Go i i f S->cu K mg i u S1 T S->oM (ha n cap s) T->R T S)->G x (ha n cap s) N R)
  (bq:(pj put t el c).run S1=.ok xs O) (q:∀i v f,Go j i g f->cu K mg i U O s f->d6 K mg i f (.fr xs) v->ip g (.fr xs) v->Q v f) :
  ∀D,g D=none->As P (ha n cap s) G (pO K mg t) (i4 K mg el) D g Q:=by
 intro D I;obtain rfl:=(pj put t el c).dO _ _ _ bq;have jR:cu K mg (gA (en j) D .dP) (mF n cap U) O (ha n cap s) (upd g D (.l [])):=(w.en n cap).new I;refine⟨λk m zs f=>m=c.length-k/\k<=c.length/\CompI (α:=α) K mg n cap (λk=>pj put t el (c.drop k)) j U O s g D xs k zs f,
  ⟨_,rfl,afC _,_,[],xs,jR,Go.new I,l2,dT,ae9 _,rfl,bq,rfl⟩,?_⟩
 rintro k m zs f ⟨rfl,ay,i,E,pV,F,g',J,H,hz,C,h,ex⟩
 cases e:c.drop k with
 |nil=>
  obtain rfl:k=c.length:=by
   have:=congrArg agx e;rw[afP,agm]at this;omega
  rw[e]at h;cases h;rw[agO]at ex;subst ex;refine .inl ⟨stop f g'.same,?_⟩
  let B:a4:=⟨λb=>match g b with|none=>i b|some _=>j b,j.bO⟩
  have Y:∀b,g b≠none->B b=j b:=λb p=>by
   show(match g b with|none=>i b|some _=>j b)=j b
   cases e:g b with
   |none=>exact absurd e p|some _=>rfl
  have X:∀b,g b=none->B b=i b:=λb p=>by
   show(match g b with|none=>i b|some _=>j b)=i b;rw[p]
  have dc:md i B:=⟨λb p=>by
    by_cases y:g b=none
    .rw[X b y];exact p
    .rw[Y b y];exact o1.mp ((g'.own b y).symm.trans p),g'.bO.symm⟩
  have go:Go j B g f:=⟨g'.same,Y,rfl⟩;have cp:c4 B f:=⟨λb p=>by
   by_cases y:g b=none
   .rw[X b y]at p;exact F.cp.has b p
   .exact g'.same.some y,F.cp.tabs,w.cp.rh.1,λb m=>(Y b (w.cp.has b (by rw[w.cp.rh.2 b m];intro z;cases z))).trans (w.cp.rh.2 b m)⟩
  refine q B (.ref D) f go (w.go go cp) ⟨D,zs,rfl,H,(X D I).trans J,C.dc dc⟩ λa gG=>?_
  cases gG;exact I
 |cons d lA=>
  have ee:k<c.length:=by
   have:=congrArg agx e;rw[afP,afE]at this;omega
  have d1:c[k]? = some d:=by
   have:=congrArg (·[0]?) e;simpa using this
  have cg:c.drop (k+1)=lA:=by
   simpa using congrArg (List.drop 1) e
  rw[e]at h;unfold pj at h
  cases cV:put d with
  |none=>rw[cV]at h;cases h
  |some u=>
  rw[cV]at h;obtain⟨b,bj,af,h⟩:=M.inv h;obtain rfl:=(t u).dO _ _ _ af;obtain⟨go,oJ⟩:=step k d u i f d1 cV g' F;refine .inr ⟨go,λx N jw=>oJ x N _ jw λT S j7 ks xb=>⟨xb,i,u,bj,b,bj,ks,af,λbb tI g2 cF=>?_⟩⟩;have A:=j7.trans g2
  cases b with
  |false=>
   exact lK ⟨c.length-(k+1),by omega,rfl,ee,bb,E,pV,F.go A cF.cp,g'.trans A,(A.own D (by rw[H];intro z;cases z)).trans J,A.same.at' _ _ H,by omega,C.go A,by rw[cg];exact h,ex⟩
  |true=>
   obtain⟨r,nF,b4,h⟩:=M.inv h;obtain rfl:=(el u).dO _ _ _ b4;obtain⟨x,cB,eh,h⟩:=M.inv h;obtain rfl:=r.dat.dO _ _ _ eh;obtain⟨o,NO,mQ,h⟩:=M.inv h;cases h;refine lL ⟨bb,_,_,r,_,cF,b4,λg_ v oO g3 jt bw nn=>?_⟩;obtain⟨a_,_⟩:=qj bw nn eh;have L:=A.trans g3.cz;have V:=L.same.at' _ _ H;have Z:=(L.own D (by rw[H];intro z;cases z)).trans J;have W:=g'.trans L;exact⟨V,by omega,c.length-(k+1),by omega,rfl,ee,cz tI g_,E++[x],o,(F.go L (jt.cz tI).cp).aaB Z V,⟨vW I W.same V _,W.own,W.bO⟩,Z,dT,
    by rw[afb,afw];omega,((C.go L).append (.one a_)).eA (by rw[Z];intro z;cases z) V,by rw[cg];exact mQ,by rw[afQ];exact ex⟩
def Aq(E:0<n):∀e H Q,i4 K mg (hy n cap it t el) e H Q->yU n cap (vT K mg it) (mP 0) (pO K mg t) (i4 K mg el) e H Q:=by
 rintro e H Q ⟨O,U,S,r,V,st,h,q⟩;obtain⟨ds,S1,B,h⟩:=M.inv h;obtain⟨_,X,D,h⟩:=M.inv h;obtain⟨b,rfl⟩:=ue D;obtain⟨xs,Z,l,h⟩:=M.inv h;cases h;rw[Jw]at l;refine⟨O,U,S,ds,S1,st,B,λw T W ys p A c u=>PZ A b (λa s=>(c a s _).2 (aif u.len)) (λk d Y i a I cV g' f=>?_) l λi v a g f G nn=>q i v a (p.trans g) f G (nn.back p.same)⟩;cases cV;obtain⟨y,m,F⟩:=(a'.go g' (u.dc (nJ w))).get I;obtain⟨go,P⟩:=(c a g'.same k).1 (fk.mp m).1;refine⟨go,λx z R N L=>?_⟩;obtain⟨rfl,ex⟩:=P x z N;rw[m]at ex;cases ex;exact L _ _ (Go.refl _ _) (f.val F) ((oM.refl _).set (by cases n with|zero=>exact absurd E (agf _)|succ j=>rfl))
end
section
variable{X:aR}{scope esc:Scope}{EN N:List Str}{n:Nat}{cap:List Nat}{elt iter:Expr}{ifs:List Expr}{pos dR:Pos}{x:Str}{it:fO}{t:aN->M Bool}{el:br}
def EE{i:Nat}{y:Str}{py b:Pos}(S:nq esc scope EN N n cap)(l:X.N.Nodup)(g:X.N[i]? = some y)(f:X.env.scope.names.lookup y=some .local)(m:0<n)(hi:D8 X (.Name x dR) iter it)(d:N[0]? = some x)(c:wQ X scope N x)
  (e:∀C a s H,D7 (e3 X scope N C a s H) ifs t) (k:∀C a s H,i9 (e3 X scope N C a s H) elt el)
  (he:X.env.scope=esc:=by rfl) (hN:X.N=EN:=by rfl) (h:X.calm=true:=by rfl) (aC:j0 X iter:=by intro _;rfl)
  (j:agD (.ListComp elt [⟨.Name x dR,iter,ifs,0⟩] scope pos) (some (.Name y py)) b.line X.env=pure true:=by rfl) :
  iq X (.Assign [.Name y py] (.ListComp elt [⟨.Name x dR,iter,ifs,0⟩] scope pos) b) (ti (yU n cap (vT X.K X.mg it) (mP 0) (pO X.K X.mg t) (i4 X.K X.mg el)) (mP i)):=
 Yt S l g f hi (λC a s H=>sU S.c2 d (c C a s H).1 (.inr (c C a s H).2)) e k he hN h aC j
end
abbrev bV:=List D->M R
def tE(K:aW)(mg:bx)(O:a4)(H:av):D->V->Prop
 |.l xs,v=>∃a ys,v=.ref a/\cL K H a ys/\a' K mg O H xs ys|d,v=>Rep K mg O H d v
def lh(K:aW)(mg:bx)(O:a4)(H:av):List D->List V->Prop
 |[],ys=>ys=[]|x::xs,ys=>∃y r,ys=y::r/\tE K mg O H x y/\lh K mg O H xs r
def c3:D->Slot
 |.l xs=>.bF xs|d=>.val d
def N6{O:a4}{r:R}{v:V}(h:d6 K mg O H r v):tE K mg O H r.arg v:=by
 match r,h with
 |.v (.l xs),h=>obtain⟨a,ys,q,l,r⟩:=h;exact⟨a,ys,q,l.cN,r⟩
 |.fr xs,h=>obtain⟨a,ys,q,l,_,r⟩:=h;exact⟨a,ys,q,cL.of l,r⟩
 |.bF xs,h=>obtain⟨a,ys,q,l,r⟩:=h;exact⟨a,ys,q,l.cN,r⟩
 |.mv xs,h=>obtain⟨a,ys,q,l,r⟩:=h;exact⟨a,ys,q,cL.of l,r⟩
 |.v .aF,h=>exact h|.v (.aM _),h=>exact h|.v (.int _),h=>exact h|.v (.str _),h=>exact h|.v (.t _),h=>exact h|.v (.ref _),h=>exact h|.v (.fn _),h=>exact h|.v (.ty _),h=>exact h
theorem zM{O:a4}:∀{rs:List R}{c:List V},hX K mg O H rs c->lh K mg O H (rs.map R.arg) c
 |[],_,h=>h| _::_,_,h=>by obtain⟨y,r,q,a,b⟩:=h;exact⟨y,r,q,N6 a,zM b⟩
theorem lh.len{O:a4}:∀{ds:List D}{a:List V},lh K mg O H ds a->a.length=ds.length
 |[],_,h=>by cases h;rfl
 |_::_,_,h=>by obtain⟨x,r,rfl,_,b⟩:=h;rw[afE,afE,lh.len b]
theorem lh.get{O:a4}:∀{ds:List D}{xs:List V}{i:Nat}{d:D},lh K mg O H ds xs->ds[i]? = some d->∃x,xs[i]? = some x/\tE K mg O H d x
 |[],_,_,_,_,e=>by simp at e| _::_,_,0,d,h,e=>by obtain⟨x,r,rfl,a,_⟩:=h;cases(show some _=some d from e);exact⟨x,rfl,a⟩
 |_::ds,_,i+1,d,h,e=>by
  obtain⟨x,r,rfl,_,b⟩:=h;obtain⟨y,ao,aG⟩:=lh.get b e;exact⟨y,by simpa using ao,aG⟩
def i3(K:aW)(mg:bx)(mf:bV):iM:=λc H Q _=>∃O ds r S,c4 O H/\fw K mg O H S/\lh K mg O H ds c/\(mf ds).run S=.ok r S/\∀b v a,Go O b H a->c4 b a->d6 K mg b a r v->ip H r v->Q v a
@[simp] def b2(mf:bV)(ms:cJ)(U:aN):M R:=do
 let rs <-ms U
 mf (rs.map R.arg)
section
variable{mf:bV}{ms:cJ}
def Ak:∀b H Q,i4 K mg (b2 mf ms) b H Q->yW (i3 K mg mf) (oz K mg ms) b H Q:=by
 rintro b H Q ⟨O,U,S,r,k,st,h,q⟩;obtain⟨rs,S1,i,h⟩:=M.inv h;refine⟨O,U,S,rs,S1,st,i,λf s p c a m nn=>?_⟩;obtain rfl:=(mf _).dO _ _ _ h;exact⟨f,_,r,k,a.cp,a.gy,zM m,h,λj v e g d l n=>q j v e (c.trans g) (a.go g d) l (n.back c.same)⟩
end
def fnOf(n N:Nat)(b:bc):bV:=λds=>if ds.length=n then do
  let a <-b (ds.map c3++af0 (N-n) .emp)
  match a with
  |.b0 (.v d)=>pure (.v d)|.b0 (.fr xs)=>pure (.fr xs)|.a6 _=>pure (.v .aF)|_=>bad
 else bad
def Zs{O:a4}{v:V}(h:tE K mg O H d v):jb K mg (en O) H w (c3 d) (some v):=by
 have val:Rep K mg O H d v->jb K mg (en O) H w (.val d) (some v):=λh=>⟨v,rfl,h.dc (nJ O)⟩
 match d,h,val with
 |.l xs,h,_=>
  obtain⟨a,ys,rfl,l,r⟩:=h;exact⟨a,ys,rfl,l.imp (λz=>⟨z,mB O a⟩) id,r.dc (nJ O)⟩
 |.aF,h,val=>exact val h|.aM _,h,val=>exact val h|.int _,h,val=>exact val h|.str _,h,val=>exact val h|.t _,h,val=>exact val h|.ref _,h,val=>exact val h|.fn _,h,val=>exact val h|.ty _,h,val=>exact val h
omit [aE.a5]in
theorem xc{n N:Nat}{ds:List D}{r:R}(h:(fnOf n N b ds).run S=.ok r o):ds.length=n:=by
 unfold fnOf at h
 by_cases c:ds.length=n
 .exact c
 .rw[if_neg c]at h;cases h
def ZG{f:D->Slot}{ps N:List Str}{O:a4}{ds:List D}{c:List V}(b:c4 O H)(de:fw K mg O H S)(g:c.length=ds.length)(m:ds.length=ps.length)(aC:∀(i:Nat) d,ds[i]? = some d->∃v,c[i]? = some v/\∀w,jb K mg (en O) H w (f d) (some v)):cu K mg (en O) (ds.map f++af0 (N.length-ps.length) .emp) S (aE.start N c) H:=by
 refine⟨⟨λa h=>b.has a λz=>h (o1.mpr z),b.tabs,FX b⟩,?_,λi s e=>?_,de.all (λ_ _ z=>Rep.dc (nJ O) z) rfl λ_ _ _ l _=>l⟩
 .unfold aE.start
  rw[afb,afb,sg,sg,agc,agc,g,m]
 .by_cases hi:i<ds.length
  .rw[afk (by rw[sg];exact hi),afh]at e
   cases o:ds[i]? with
   |none=>rw[o]at e;cases e
   |some d=>
    rw[o]at e;cases e;obtain⟨v,k,j⟩:=aC i d o;unfold aE.start;rw[afk (by rw[sg,g];exact hi),afh,k];exact j _
  .rw[afn (by rw[sg];omega),agH]at e
   split at e
   .cases e;exact trivial
   .cases e
def Dw{ps N:List Str}{O:a4}{ds:List D}(b:c4 O H)(de:fw K mg O H S)(a:lh K mg O H ds vs)(c:ds.length=ps.length):cu K mg (en O) (ds.map c3++af0 (N.length-ps.length) .emp) S (aE.start N vs) H:=
 ZG b de a.len c λ_ _ e=>(a.get e).imp λ_ h=>⟨h.1,λ_=>Zs h.2⟩
def zk:fK->R->Prop
 |.a6 _,r=>r=.v .aF|.b0 (.v d),r=>r=.v d|.b0 (.fr xs),r=>r=.fr xs|_,_=>False
def Pt{D:bc}{Q:cC}{O:a4}{r:R}(u:c4 O H)(P:cu K mg (en O) U S J H)(E:(D U).run S=.ok C S1)(h:zk C r)(q:∀f v c,Go O f H c->c4 f c->d6 K mg f c r v->ip H r v->Q v c):i5 K mg D { a6:=fun _ c=>Q .aF c,b0:=Q } J H:=by
 have B:∀b,H b≠none->en O b=.free\/en O b=.out:=λb _=>mB O b
 have back:∀{f:a4}{c:av},dF (en O) f H c->c4 f c->∃k:a4,Go O k H c/\c4 k c/\md f k/\∀b,(f b=.dP\/∃i,f b=.loc i)->H b=none/\k b=.dP:=λ{f c} g d=>by
  refine⟨⟨λb=>match H b with|some _=>O b|none=>(match f b with|.loc _=>.dP|o=>o),O.bO⟩,⟨⟨λb o e n=>g.cells b o e ((B b (by rw[e];intro z;cases z)).elim .inl λz=>.inr (.inl z)) n,g.cO,g.bt⟩,λb j=>?_,rfl⟩,⟨λb j=>?_,d.tabs,u.rh.1,λb m=>?_⟩,⟨λb j=>?_,g.bO.symm⟩,λb j=>?_⟩
  .dsimp only
   cases e:H b with
   |none=>exact absurd e j|some o=>rfl
  .dsimp only at j
   cases e:H b with
   |some o=>exact g.has b (by rw[e];intro z;cases z)|none=>
    rw[e]at j;refine d.has b λz=>j ?_
    dsimp only;rw[z]
  .dsimp only
   cases e:H b with
   |some o=>exact u.rh.2 b m| none=>exact absurd e (u.has b (by rw[u.rh.2 b m];intro z;cases z))
  .dsimp only
   cases e:H b with
   |some o=>
    dsimp only;have:=(g.own b (by rw[e];intro z;cases z) (mB O b)).symm.trans j;exact o1.mp this
   |none=>
    dsimp only;rw[j]
  .have p:H b=none:=by
    cases e:H b with
    |none=>rfl|some o=>
     exfalso;have bJ:=g.own b (by rw[e];intro z;cases z) (mB O b);rcases mB O b with z|z<;>rw[z]at bJ<;>rcases j with w|⟨i,w⟩<;>rw[bJ]at w<;>cases w
   refine⟨p,?_⟩;dsimp only;rw[p];rcases j with w|⟨i,w⟩<;>rw[w]
 refine⟨en O,_,S,C,S1,P,E,?_⟩
 cases C with
 |a6 U'=>
  cases h;intro f T c g F _;obtain⟨k,y,x,A,_⟩:=back g F.cp;exact q k .aF c y x rfl trivial
 |bk U'=>cases h
 |cM U'=>cases h
 |b0 G=>
  intro f v c g d V s;obtain⟨k,y,x,A,M⟩:=back g d
  cases G with
  |v dd=>cases h;exact q k v c y x (Rep.dc A s) trivial
  |fr xs=>
   cases h;obtain⟨a,ys,rfl,l,t,N⟩:=s;obtain⟨p,I⟩:=M a t;exact q k _ c y x ⟨a,ys,rfl,l,I,N.dc A⟩ λb L=>by cases L;exact p
  |bF xs=>exact afU s|mv xs=>exact afU s
def F1{ps N:List Str}(j:i3 K mg (fnOf ps.length N.length o) vs H Q E):i5 K mg o { a6:=λ_ c=>Q .aF c,b0:=Q } (aE.start N vs) H:=by
 refine cc λd=>?_
 obtain⟨O,ds,r,S,a,de,i,h,q⟩:=j;have b:=xc h;unfold fnOf at h;rw[if_pos b]at h;obtain⟨g,S1,e,h⟩:=M.inv h;exact d (Pt a (Dw a de i b) e (by cases g with|b0 f=>cases f<;>cases h<;>exact rfl|_=>cases h<;>exact rfl) q)
def Q8{P:afA}{w:World}{K:aW}{mg:bx}{base:Heap}{x qual:Str}{st:Stmt}{ps N:List Str}{k:Nat}{b:bc}{f:Addr}{c:agg}{n d:Nat}(F:lp K x qual st f c)(e:jA N ps (eo st))(j:ps.length=n)(p:N.length=d)
  (i:∀(a:Value)(A:afI)(outer:List Env)(s:afa)(H:av)(E:f_),c6 k (A.deeper (agt qual (eo st) s.heap.objs.size f a))->
   tG (ix fi P w K mg base N qual (eo st) f a A outer s H E).h_ (hA st) b):f6 P w K mg base fi (k+1) f c ps (i3 K mg (fnOf n d b)):=by
 subst j p;exact F.ok e (λt H Q E ⟨O,ds,r,S,u,de,l,h,q⟩=>l.len.trans (xc h)) λa A outer s H t Q E g m=>⟨_,i a A outer s H E g,F1 m⟩
def IL{P:afA}{w:World}{K:aW}{mg:bx}{base:Heap}{x:Str}{st:Stmt}{ps N:List Str}{k:Nat}{c:bc}{n d:Nat}(iL:iL K mg x st ps)(e:jA N ps (eo st))(h:ps.length=n)(j:N.length=d)
  (g:∀(f:Addr)(a:Value)(A:afI)(outer:List Env)(s:afa)(H:av)(E:f_),c6 k (A.deeper (agt x (eo st) s.heap.objs.size f a))->
   tG (ix fi P w K mg base N x (eo st) f a A outer s H E).h_ (hA st) c):gC P w K mg base x ps (k+1) (i3 K mg (fnOf n d c)):=by
 obtain⟨f,i,F,b,m⟩:=iL.ex;exact⟨f,i,Q8 F e h j (λa=>g f a),b,F.kp,m⟩
omit [aE.a5]in
theorem HB{K:aW}{h:Heap}{mg:bx}{x:Str}{st:Stmt}{f:Addr}{ps:List Str}{n b:Option Addr}{cA:Array (Option Value)}{m ei g pm cd cM:Value}(X:K.In h)(G:h.Ns af3 mg)
  (a:W.nsIn K af3 x=some (some (.ref f))) (l:K.lookup f=some ⟨m,n,.func (ahw x x (ly st) (hA st) (eo st) .none ei g pm b cd cM),cA⟩) (c:W.codeIn K cd x=true) (k:ais K (.ref f)=true)
  (i:∀(ei d pm:Value)(b:Option Addr)(j cM:Value)(e:List Value),e.length=ps.length->air (ahw x x (ly st) (hA st) (eo st) .none ei d pm b j cM) ⟨e,[]⟩=pure (ps.zip e)):iL K mg x st ps:=
 ⟨f,_,Ia (st:=st) l c k,(Ia (st:=st) l c k).binds i,W.mg_of X G a⟩
abbrev vP(K:aW):iM:=λc H Q _=>∃(a:Addr)(ns:List Int),c=[.ref a]/\cL K H a (ns.map V.int)/\ns.length<=63/\TabsOk H/\∀b,Q (.aM true) b
abbrev pZ:Nat:=10715086071862673209484250490600018105614048117055336074437503883703510511249361224931983788156958581275946729175531468251871452856923140435984577574698574803934567774824230985421074605062371141877954182153046474983581941267398767559165543946077062914571196477686542167660429831652624386837205668069376
omit [aE.a5]in
theorem FP:pZ=2 ^ 1000:=by decide +kernel
omit [aE.a5]in
theorem Kr{i:Int}(h:i.natAbs<pZ):ahx i<=1000:=by
 unfold ahx;split
 .exact afC _
 .rename_i hz
  have:=(Nat.log2_lt (by simpa using hz)).mpr (FP▸h);omega
def mb(i j:Int):Prop:=(-(2 ^ 64)<i/\i<2 ^ 64)\/(-(2 ^ 64)<j/\j<2 ^ 64)\/(i.natAbs<pZ/\j.natAbs<pZ)
omit [aE.a5]in
theorem mb.ok{i j:Int}(h:mb i j):IntMulOk i j:=by
 rcases h with h|h|h
 .exact(show wu i j from .inl h).ok
 .exact(show wu i j from .inr h).ok
 .have b:=Kr h.1
  have c:=Kr h.2;have a:Builtin.Int.intTooBig (ahx i+ahx j)=false:=by
   refine decide_eq_false ?_;have:(2000:Int)<=((bitsLine:Nat):Int):=by decide
   omega
  unfold IntMulOk;rw[a];simp
instance (i j:Int):Decidable (mb i j):=by unfold mb;exact inferInstance
def W8:eJ X (agQ .Mult) (m4 mb λi j=>.int (i*j)):=yu λ_ _ _ _ _ _ _ a q=>PyProof.Rows.mul_int q a.ok
abbrev d3:=qW mb (· * ·)
def Oj{X:aR}:eP X.K X.mg (m4 mb λi j=>.int (i*j)) d3:=wY λ_ _ h=>h
def oK(_ j:Int):Prop:=0<j/\j.natAbs<pZ
instance (i j:Int):Decidable (oK i j):=by unfold oK;exact inferInstance
def W5:eJ X (agQ .FloorDiv) (m4 oK λi j=>.int (i / j)):=yu λi j _ _ _ _ _ a q=>by
 have b:=a.1;refine PyProof.Rows.floordiv_int (by omega) (by rw[Int.fdiv_eq_ediv_of_nonneg i (by omega)];exact q) (.inl (PyProof.noPylong_of_log2 ?_));have:=(Nat.log2_lt (by omega)).mpr (FP▸a.2);omega
abbrev er:=qW oK (· / ·)
def Of{X:aR}:eP X.K X.mg (m4 oK λi j=>.int (i / j)) er:=wY λ_ _ h=>h
structure D5(mg:bx):Prop where
 len:mg "len"=none
 range:mg "range"=none
 isinstance:mg "isinstance"=none
 max:mg "max"=none
 min:mg "min"=none
 any:mg "any"=none
 all:mg "all"=none
 Jh:mg "int"=none
 Pu:mg "bool"=none
 J':mg "list"=none
 tuple':mg "tuple"=none
 ZJ:mg "str"=none
 abs:mg "abs"=none
 sorted:mg "sorted"=none
 sum:mg "sum"=none
 zip:mg "zip"=none
 enumerate:mg "enumerate"=none
 reversed:mg "reversed"=none
 aeX:mg "set"=none
omit [aE.a5]in
theorem PA:afW "min"=some (.builtin "min"):=by decide +kernel
end aY
namespace aY
open PySem PySem.Spec aE
@[simp] theorem adg{α a:Type}(f:α->M a):(bad >>= f)=bad:=rfl
@[simp] theorem adj{p:Prop}[Decidable p]:iv p=if p then pure ()else bad:=rfl
@[simp] theorem ac4:aH d U=pure (.v d):=rfl
@[simp] theorem aew:R.pN (.v (.aM b))=pure b:=rfl
@[simp] theorem ac3{g:Int->Int->Int}{i j:Int}:vp g (.v (.int i)) (.v (.int j))=pure (.v (.int (g i j))):=rfl
@[simp] theorem ac2{C:Int->Int->Prop}[∀i j,Decidable (C i j)]{g:Int->Int->Int}{i j:Int}:qW C g (.v (.int i)) (.v (.int j))=if C i j then pure (.v (.int (g i j)))else bad:=rfl
@[simp] theorem ac1{g:Int->Int->Bool}{i j:Int}:sM g (.v (.int i)) (.v (.int j))=pure (.v (.aM (g i j))):=rfl
@[simp] theorem ad4{i:Int}:fx (.v (.int i))=pure (.v (.int (-i))):=rfl
@[simp] theorem ad6:d7 U=pure []:=rfl
@[simp] theorem ads:R.dat (.v d)=pure d:=rfl
@[simp] theorem ado:R.dat (.fr xs)=pure (.l xs):=rfl
@[simp] theorem adq:jg []=pure []:=rfl
@[simp] theorem adp{r:R}:jg (r::rs)=(do
  let d <-r.dat
  let ds <-jg rs
  pure (d::ds)):=rfl
@[simp] theorem ad1:R.fp (.v (.l xs))=some xs:=rfl
@[simp] theorem adY:R.fp (.fr xs)=some xs:=rfl
@[simp] theorem ad2:R.fp (.bF xs)=some xs:=rfl
@[simp] theorem adZ:R.fp (.mv xs)=some xs:=rfl
@[simp] theorem aef:R.seq (.v (.l xs))=some xs:=rfl
@[simp] theorem aee:R.seq (.v (.t xs))=some xs:=rfl
@[simp] theorem aec:R.seq (.fr xs)=some xs:=rfl
@[simp] theorem aeg:R.seq (.bF xs)=some xs:=rfl
@[simp] theorem aed:R.seq (.mv xs)=some xs:=rfl
@[simp] theorem aeb:R.own (.v (.l xs))=some xs:=rfl
@[simp] theorem ad9:R.own (.fr xs)=some xs:=rfl
@[simp] theorem aea:R.own (.mv xs)=some xs:=rfl
@[simp] theorem ac8:R.arg (.v d)=d:=rfl
@[simp] theorem ac6:R.arg (.fr xs)=.l xs:=rfl
@[simp] theorem ac9:R.arg (.bF xs)=.l xs:=rfl
@[simp] theorem ac7:R.arg (.mv xs)=.l xs:=rfl
@[simp] theorem adW{x:R}:c8 [x]=match x.seq with
  |some xs=>pure (.v (.int (xs.length:Nat)))|none=>bad:=rfl
@[simp] theorem adS:R.kind (.v .aF)=some "NoneType":=rfl
@[simp] theorem adN:R.kind (.v (.aM b))=some "bool":=rfl
@[simp] theorem adP{i:Int}:R.kind (.v (.int i))=some "int":=rfl
@[simp] theorem adT:R.kind (.v (.str x))=some "str":=rfl
@[simp] theorem adU:R.kind (.v (.t xs))=some "tuple":=rfl
@[simp] theorem adQ:R.kind (.v (.l xs))=some "list":=rfl
@[simp] theorem adO:R.kind (.fr xs)=some "list":=rfl
@[simp] theorem adV:R.kind (.bF xs)=some "list":=rfl
@[simp] theorem adR:R.kind (.mv xs)=some "list":=rfl
@[simp] theorem ady{x:R}:iR [x,.v (.ty n)]=match x.kind with
  |some t=>if n∈["int","bool","tuple","list","str"]then pure (.v (.aM (uR t n)))else bad|none=>bad:=rfl
@[simp] theorem adz:uR t n=(t==n||(t == "bool"&&n == "int")):=rfl
@[simp] theorem ac0{g:Int->Int->Int}{i j:Int}:uu g [.v (.int i),.v (.int j)]=pure (.v (.int (g i j))):=rfl
@[simp] theorem QD{x:R}:rS [x]=match x.fp.bind qd with
  |some bs=>pure (.v (.aM (bs.any id)))|none=>bad:=rfl
theorem FY{α:Type}(p:α->Bool):∀xs:List α,qd (xs.map λx=>D.aM (p x))=some (xs.map p)
 |[]=>rfl| x::xs=>by rw[aft,aft,qd,FY p xs];rfl
@[simp] theorem adw{i:Int}:pb [.v (.int i)]=pure (.v (.int i)):=rfl
@[simp] theorem adv:pb [.v (.aM b)]=pure (.v (.int (if b then 1 else 0))):=rfl
@[simp] theorem ad0{x:R}:mL [x]=match x.seq with
  |some xs=>pure (.fr xs)|none=>bad:=rfl
@[simp] theorem aex{x:R}:nR [x]=match x.seq with
  |some xs=>pure (.v (.t xs))|none=>bad:=rfl
@[simp] theorem adL{i:Int}:bu (.v (.t xs)) (.v (.int i))=match dK xs i with
   |some d=>pure (.v d)|none=>bad:=rfl
@[simp] theorem adJ{i:Int}:bu (.v (.l xs)) (.v (.int i))=match dK xs i with
   |some d=>pure (.v d)|none=>bad:=rfl
@[simp] theorem adI{i:Int}:bu (.fr xs) (.v (.int i))=match dK xs i with
   |some d=>pure (.v d)|none=>bad:=rfl
@[simp] theorem adM{i:Int}:bu (.bF xs) (.v (.int i))=match dK xs i with
   |some d=>pure (.v d)|none=>bad:=rfl
@[simp] theorem adK{i:Int}:bu (.mv xs) (.v (.int i))=match dK xs i with
   |some d=>pure (.v d)|none=>bad:=rfl
def jd{α:Type}{xs:List α}(k:Nat){v:α}(h:xs[k]? = some v):dK xs (k:Int)=some v:=N7 h
@[simp] theorem ada{α:Type}{x:α}{xs:List α}:dK (x::xs) 0=some x:=jd 0 rfl
@[simp] theorem adb{α:Type}{x y:α}{xs:List α}:dK (x::y::xs) 1=some y:=jd 1 rfl
@[simp] theorem ade{α:Type}{x y z:α}{xs:List α}:dK (x::y::z::xs) 2=some z:=jd 2 rfl
@[simp] theorem adf{α:Type}{x y z w:α}{xs:List α}:dK (x::y::z::w::xs) 3=some w:=jd 3 rfl
@[simp] theorem ac5{r:R}:eG xs [r]=(do
  let d <-r.dat
  iv (xs.length<afe)
  pure (.v .aF,xs++[d])):=rfl
@[simp] theorem ad7:fR U=pure none:=rfl
@[simp] theorem aei{l h:Option Int}:lR (.fr xs) l h=pure (.fr (cutD xs l h)):=rfl
@[simp] theorem aeu{l h:Option Int}:lR (.bF xs) l h=pure (.fr (cutD xs l h)):=rfl
@[simp] theorem aek{l h:Option Int}:lR (.mv xs) l h=pure (.fr (cutD xs l h)):=rfl
@[simp] theorem aej{l h:Option Int}:lR (.v (.l xs)) l h=pure (.fr (cutD xs l h)):=rfl
@[simp] theorem aet{xs:List D}{l h:Option Int}:lR (.v (.t xs)) l h=if cG.cj xs.length 0 l=0/\cG.cj xs.length xs.length h=xs.length then bad else pure (.v (.t (cutD xs l h))):=rfl
@[simp] theorem adk{cap:List Nat}:mF n cap U=af0 n .emp++cap.map λk=>rK U[k]?:=rfl
@[simp] theorem adm:rK (some (.val d))=.val d:=rfl
@[simp] theorem adl:rK (some (.dY p xs))=.bF xs:=rfl
@[simp] theorem adn:rK (some (.bF xs))=.bF xs:=rfl
@[simp] theorem aez:oy U=pure true:=rfl
@[simp] theorem adx{x:R}:fq x (.v .aF)=pure (.v (.aM x.ka)):=rfl
@[simp] theorem ad8{x:R}:gK x (.v .aF)=pure (.v (.aM (!x.ka))):=rfl
@[simp] theorem adA:R.ka (.v .aF)=true:=rfl
@[simp] theorem adD{i:Int}:R.ka (.v (.int i))=false:=rfl
@[simp] theorem adG:R.ka (.v (.t xs))=false:=rfl
@[simp] theorem adC:R.ka (.fr xs)=false:=rfl
@[simp] theorem adF:R.ka (.v (.str x))=false:=rfl
@[simp] theorem adt{i j:Int}:oEq (.v (.int i)) (.v (.int j))=pure (.v (.aM (i==j))):=rfl
@[simp] theorem ad5{i j:Int}:dI (.v (.int i)) (.v (.int j))=pure (.v (.aM (!(i==j)))):=rfl
def nN{x y:R}(a:x.arg.bt 64=true)(b:y.arg.bt 64=true):oEq x y=pure (.v (.aM (cP x.arg y.arg))):=if_pos ⟨a,b⟩
def w9{x y:R}(a:x.arg.bt 64=true)(b:y.arg.bt 64=true):dI x y=pure (.v (.aM (!cP x.arg y.arg))):=if_pos ⟨a,b⟩
@[simp] theorem aeo:c3 (.l xs)=.bF xs:=rfl
@[simp] theorem aen{i:Int}:c3 (.int i)=.val (.int i):=rfl
@[simp] theorem aer:c3 (.t xs)=.val (.t xs):=rfl
@[simp] theorem aeq:c3 (.str x)=.val (.str x):=rfl
@[simp] theorem aep:c3 .aF=.val .aF:=rfl
@[simp] theorem ael:c3 (.aM b)=.val (.aM b):=rfl
@[simp] theorem AE{n N:Nat}{ds:List D}:fnOf n N b ds=if ds.length=n then(do
  let a <-b (ds.map c3++af0 (N-n) .emp)
  match a with
  |.b0 (.v d)=>pure (.v d)|.b0 (.fr xs)=>pure (.fr xs)|.a6 _=>pure (.v .aF)| _=>bad)else bad:=rfl
def mod_lt{a b:Int}(h:0<b):0<=a % b/\a % b<b:=⟨Int.emod_nonneg _ (by omega),Int.emod_lt_of_pos _ h⟩
def U2{i:Int}(a:-(10 ^ 200)<i)(b:i<10 ^ 200):i.natAbs<pZ:=by
 unfold pZ;omega
def Cg{i j:Int}(a:-(2 ^ 64)<i)(b:i<2 ^ 64):mb i j:=.inl ⟨a,b⟩
def Aw{i j:Int}(a:0<j)(b:j<10 ^ 200):oK i j:=⟨a,U2 (by omega) b⟩
end aY
namespace aY
open PySem PySem.Spec aE
variable[aE.a5]
def iI:List Nat->List D->aN->aN
 |i::is,d::ds,U=>iI is ds (U.set i (.val d))|_,_,U=>U
def kM:List Nat->oW
 |[]=>Ig|i::is=>Ic (mP i) (kM is)
@[simp] def qg(is:List Nat)(m:br)(U:aN):M fK:=do
 let r <-m U
 match r with
 |.v (.t ds)=>if ds.length=is.length then pure (.a6 (iI is ds U))else bad|_=>bad
theorem DH{O:a4}:∀{is:List Nat}{ds:List D}{xs:List V}{U:aN}{a:St}{Q:St->av->Prop},cu K mg O U S a H->a' K mg O H ds xs->ds.length=is.length->
  (∀b,cu K mg O (iI is ds U) S b H->d_ U (iI is ds U) a b->Q b H)->kM is xs a H Q
 |[],[],xs,U,a,Q,st,ra,hl,q=>⟨ra,q a st (d_.refl _ _)⟩
 |[],_::_,xs,U,a,Q,st,ra,hl,q=>by cases hl
 |_::_,[],xs,U,a,Q,st,ra,hl,q=>by cases hl
 |i::is,d::ds,xs,U,a,Q,st,ra,hl,q=>by
  obtain⟨y,r,e,f,g⟩:=ra;refine⟨y,r,e,?_⟩;exact DH (st.val f) g (by simpa using hl) λb c k=>q b c (d_.trans (d_.set λxs z=>by cases z) k)
section
variable{X:aR}{is:List Nat}{aw:List Expr}
def Yb{i:Nat}{x:Str}{p:Pos}(hN:X.N.Nodup)(hi:X.N[i]? = some x)(a:Loc X.env.scope x)(h:kF X aw (kM is))(aC:(af1 (.Name x p::aw) X.env).map (·.2)=ahD (.Name x p) X.env::(af1 aw X.env).map (·.2):=by rfl)
  (b:X.fn x=true\/X.env.scope.names.lookup x=some .local:=by first|exact .inl rfl|exact .inr rfl|assumption):kF X (.Name x p::aw) (kM (i::is)):=Ya (sU hN hi a b) h aC
def Yc:kF X [] (kM []):=Yd
end
omit [aE.a5]in
@[simp] theorem aeh{is:List Nat}{U:aN}:iI (i::is) (d::ds) U=iI is ds (U.set i (.val d)):=rfl
def nums:List D->Option (List Int)
 |[]=>some []|.int b::r=>(nums r).map (b::·)|_=>none
section
variable{K:aW}{mg:bx}
theorem KH{O:a4}:∀{ds:List D}{ys:List V}{bs:List Int},a' K mg O H ds ys->nums ds=some bs->ys=bs.map V.int
 |[],ys,bs,h,e=>by cases e;exact h
 |d::ds,ys,bs,h,e=>by
  cases d with
  |int b=>
   obtain⟨cs,ao,rfl⟩:=afF.mp e;obtain⟨y,r,rfl,a,c⟩:=h;rw[KH c ao,show y=.int b from a];rfl
  |_=>exact absurd (show(none:Option (List Int))=some bs from e) (by intro z;cases z)
end
end aY
namespace aY
open PySem PySem.Spec aE
section
variable[aE.a5](X:aR)
structure bp(e:Expr)(m:br):Prop where
 un:i9 X e m
structure fl(e:Expr)(m:aN->M Bool):Prop where
 un:Ea X e m
structure kG(e:Expr)(m:aN->M Bool):Prop where
 un:wx X e m
structure fQ(e:List Expr)(m:cJ):Prop where
 un:D6 X e m
structure rF(e:Option Expr)(m:mn):Prop where
 un:Nw X e m
structure eK(e:Stmt)(m:bc):Prop where
 un:D' X e m
structure jF(e:List Stmt)(m:bc):Prop where
 un:tG X e m
structure rD(b_ e:Expr)(m:fO):Prop where
 un:D8 X b_ e m
structure rE(b_ e:Expr)(m:fO):Prop where
 un:Nv X b_ e m
structure rC(e:List Expr)(m:aN->M Bool):Prop where
 un:D7 X e m
end
section
variable[aE.a5]
variable{X:aR}{a e:Expr}{pos:Pos}
theorem v3(i:Nat){pos:Pos}(hN:X.N[i]? = some x:=by rfl)(c:nH X.env.scope x:=by first|exact ahc rfl|exact afS (.inl rfl)|exact afS (afS rfl))(hd:eT x:=by decide)(g:(x==("__classdict__":Str))=false:=by decide):bp X (.Name x pos) (I i):=⟨es (sS hN c hd g) λb H Q f=>by
 obtain⟨O,U,S,r,j,st,h,q⟩:=f;unfold I at h
 cases e:U[i]? with
 |none=>rw[e]at h;cases h
 |some s=>
  rw[e]at h;have l:=st.loc i s e;have get:∀{v:V},b[i]?.join=some v->b[i]? = some (some v):=λ{v} z=>by
   cases w:b[i]? with
   |none=>rw[w]at z;cases z
   |some y=>rw[w]at z;exact congrArg some z
  cases s with
  |val d=>
   obtain⟨v,ao,aG⟩:=l;cases h;exact⟨v,get ao,q O v H (Go.refl _ _) st aG trivial⟩
  |dY p xs=>
   obtain⟨a,ys,ao,aG,cI,dh⟩:=l;cases h;exact⟨_,get ao,q O _ H (Go.refl _ _) st ⟨a,ys,rfl,cI,dh⟩ trivial⟩
  |bF xs=>
   obtain⟨a,ys,ao,aG,dh⟩:=l;cases h;exact⟨_,get ao,q O _ H (Go.refl _ _) st ⟨a,ys,rfl,aG,dh⟩ trivial⟩
  |emp=>cases h⟩
end
section
variable[aE.a5]
variable{X:aR}{e:Expr}{aw:List Expr}{m:br}{ms:cJ}
def vY(s:bp X e m)(f:fQ X aw ms)(aC:fm X e aw:=by rfl):fQ X (e::aw) (bW m ms):=⟨og (sR s.un f.un aC) λz H Q i=>by
 obtain⟨O,U,S,r,y,st,h,q⟩:=i;obtain⟨x,S1,n,h⟩:=M.inv h;obtain⟨xs,A,p,h⟩:=M.inv h;cases h;refine⟨O,U,S,x,S1,st,n,λg a w b k l a6=>?_⟩;refine⟨g,U,S1,xs,_,k,p,λt d j c u rs ns=>?_⟩;exact q t (a::d) j (b.trans c) u ⟨a,d,rfl,l.go c,rs⟩ ⟨a6,ns.back b.same⟩⟩
end
section
variable[aE.a5]
variable{X:aR}{pos:Pos}
def MZ{i j pos}:bp X (.Constant (.int i) j pos) (aH (.int i)):=⟨ud XY λ_ _=>rfl⟩
end
section
variable[aE.a5]
variable{X:aR}
def DK :fQ X [] d7:=⟨og yx λc H Q a=>by
 obtain⟨O,U,S,r,b,st,h,q⟩:=a;cases h;exact q O [] H (Go.refl _ _) st rfl trivial⟩
end
section
variable[aE.a5]
variable{X:aR}{a b:Expr}{ma cZ:br}{pos:Pos}
def oG{r:fv}(c:eJ X (agQ op) r)(g:eP X.K X.mg r f)(e:bp X a ma)(d:bp X b cZ):bp X (.BinOp a op b pos) (aa f ma cZ):=⟨es (X3 c e.un d.un) (t9 g)⟩
end
section
variable[aE.a5]
variable{X:aR}{st:Stmt}{rest:List Stmt}{a b:bc}
def M_(c:eK X st a)(j:jF X rest b):jF X (st::rest) (bz a b):=⟨vB (CW c.un j.un) λD p H g=>by
 obtain⟨O,U,S,l,k,st,h,q⟩:=g;obtain⟨e,S1,c,h⟩:=M.inv h;refine⟨O,U,S,e,S1,st,c,?_⟩
 cases e with
 |a6 d=>exact λf s n m i k1=>⟨f,d,S1,l,k,i,h,q.di m k1⟩
 |b0 r=>cases h;exact q
 |bk d=>cases h;exact q
 |cM d=>cases h;exact q⟩
end
section
variable[aE.a5]
variable{X:aR}{st:Stmt}{a:bc}
def M'(h:eK X st a):jF X [st] a:=⟨CY h.un⟩
end
section
variable[aE.a5]
variable{X:aR}{a b:Expr}{ma cZ:br}{pos:Pos}
def M0{r:fv}(c:mj X r)(g:eP X.K X.mg r f)(e:bp X a ma)(d:bp X b cZ)(aC:Em b:=by exact λ_ _=>rfl):bp X (.Subscript a b pos) (aa f ma cZ):=⟨es (XZ c e.un d.un aC) (t9 g)⟩
end
section
variable[aE.a5]
variable{X:aR}{st:Stmt}{pos:Pos}{e:Expr}{m:br}
theorem M8(he:bp X e m):eK X (.Return (some e) pos) (bh m):=⟨fz (CU he.un) λD l H i=>by
 obtain⟨O,U,S,n,k,st,h,q⟩:=i;obtain⟨r,S1,j,h⟩:=M.inv h;refine⟨O,U,S,r,S1,st,j,λc v b g a f nn=>?_⟩
 cases r with
 |v d=>cases h;exact q c v b g.di a.cp a.gy f
 |fr xs=>cases h;exact q c v b g.di a.cp a.gy (LP f (.inr ⟨_,rfl⟩))
 |bF xs=>cases h
 |mv xs=>cases h⟩
end
section
variable[aE.a5]
variable{X:aR}{aw:List Expr}{ms:cJ}{pos:Pos}
def abf{o}(h:fQ X aw ms):bp X (.Tuple aw o pos) (a0 ms):=⟨es (K7 h.un) λt H Q d=>by
 obtain⟨O,U,S,r,s,st,h,q⟩:=d;obtain⟨rs,S1,f,h⟩:=M.inv h;obtain⟨ds,u,g,h⟩:=M.inv h;obtain⟨_,w,i,h⟩:=M.inv h;obtain⟨l,rfl⟩:=ue i;cases h;refine⟨O,U,S,rs,S1,st,f,λc m n k e j nn=>?_⟩;obtain⟨b,rfl⟩:=ui j nn g;refine⟨agw (f3 (by rw[b.len];exact l)),λp a=>?_⟩;exact q (cz H c) _ _ (k.cz.trans (Go.gu a)) ((e.cz H).gu a) ⟨p,m,rfl,dr.of dT,b.go (Go.gu a)⟩ trivial⟩
end
section
variable[aE.a5]
variable{X:aR}{pos:Pos}{e:Expr}{m:br}
variable{i:Nat}{x:Str}{pos':Pos}
def M9(hN:X.N.Nodup)(hi:X.N[i]? = some x)(a:Loc X.env.scope x)(he:bp X e m)(aC:agD e (some (.Name x pos')) pos.line X.env=pure false:=by rfl)(b:X.fn x=true\/X.env.scope.names.lookup x=some .local:=by first|exact .inl rfl|exact .inr rfl|assumption):eK X (.Assign [.Name x pos'] e pos) (bQ i m):=⟨fz (CV hN hi a he.un aC b) (Me λ_ _ _ h=>h)⟩
end
section
variable[aE.a5]
variable{X:aR}{x:Str}{ps:List Str}{k:Nat}{mf:bV}{p pos:Pos}{e:Expr}{aw:List Expr}{ms:cJ}
def aaW(h:gC X.prog X.w X.K X.mg X.base x ps k (i3 X.K X.mg mf))(a:c6 k X.A)(c:d5 X x)(b:fQ X (e::aw) ms)(d:eT x:=by decide)(he:fm X e aw:=by rfl)(f:gF X pos aw:=by rfl):bp X (.Call (.Name x p) (e::aw) [] pos) (b2 mf ms):=⟨es (yy h a c b.un d he f) Ak⟩
end
section
variable[aE.a5]
variable{X:aR}{x:Str}{ps:List Str}{k:Nat}{mf:bV}{p pos:Pos}
def aaX(h:gC X.prog X.w X.K X.mg X.base x ps k (i3 X.K X.mg mf))(a:c6 k X.A)(d:d5 X x)(e:eT x:=by decide):bp X (.Call (.Name x p) [] [] pos) (b2 mf d7):=⟨es (XU h a d e) λc H Q h=>by
  obtain⟨O,U,S,rs,S1,st,b,q⟩:=Ak c H Q h;cases b;exact q O [] H (Go.refl _ _) st rfl trivial⟩
end
section
variable[aE.a5]
variable{X:aR}{e:Expr}{aw:List Expr}{ms:cJ}{pos p:Pos}{x:Str}{id:String}{r:List V->av->cC->Prop}{f:List R->M R}
def tr(i:jU X (.builtin id) r)(j:kC X.K X.mg r f)(d:d5 X x)(k:X.mg x=none)(a:afW x=some (.builtin id))(b:fQ X (e::aw) ms)(c:x≠"__name__":=by decide)(g:eT x:=by decide)(he:fm X e aw:=by rfl)(h:gF X pos aw:=by rfl):bp X (.Call (.Name x p) (e::aw) [] pos) (b5 f ms):=⟨es (XP i d k a b.un c g he h) (F9 j)⟩
end
section
variable[aE.a5]
variable{X:aR}{st:Stmt}{pos:Pos}{a b:bc}
theorem abz(n:fl X c t)(m:jF X A a)(l:jF X B b):eK X (.If c A B pos) (bX t a b):=⟨fz (CT n.un m.un l.un) λD r H j=>by
 obtain⟨O,U,S,g,f,st,h,q⟩:=j;obtain⟨t,S1,k,h⟩:=M.inv h;refine⟨O,U,S,t,S1,st,k,λd p i e=>?_⟩
 cases t with
 |false=>
  exact lK ⟨d,U,S1,g,f,e,h,q.di i.di (d_.refl _ _)⟩
 |true=>
  exact lL ⟨d,U,S1,g,f,e,h,q.di i.di (d_.refl _ _)⟩⟩
end
section
variable[aE.a5]
variable{X:aR}{st:Stmt}
theorem abG :jF X [] bN:=⟨vB Li λD b H a=>by obtain⟨O,U,S,d,c,st,h,q⟩:=a;cases h;exact q O b H (dF.refl _ _) st (d_.refl _ _)⟩
end
section
variable[aE.a5]
variable{X:aR}{a b:Expr}{ma cZ:br}{pos:Pos}
def ng{r:fv}(d:eJ X (agb op) r)(i:eP X.K X.mg r f)(g:bp X a ma)(e:bp X b cZ)(j:agA op b=false:=by exact iG _):fl X (.Compare a [op] [b] pos) (aO (aa f ma cZ)):=⟨vC (Lj d g.un e.un j) λc H Q h=>My (t9 i) c H Q (MC c H Q h)⟩
end
section
variable[aE.a5]
variable{X:aR}{a:Expr}{ma:br}{pos:Pos}
def abI(d:bp X a ma)(he:∀b,isTrue a X.env b=(do let v <-b;standAt a.pos;ahm [v] (truthy v)):=by intro _;rfl):fl X a (aO ma):=⟨vC (Yx d.un he) λc H Q h=>MC c H Q h⟩
end
section
variable[aE.a5]
variable{X:aR}{e:Expr}
def vZ{v:V}(h:ck X e (q9 v))(r:∀O H,Rep X.K X.mg O H d v):bp X e (aH d):=⟨ud h r⟩
end
section
variable[aE.a5]
variable{X:aR}{aw:List Expr}{ms:cJ}{pos:Pos}
def aa3(h:fQ X aw ms):bp X (.List aw pos) (e1 ms):=⟨es (K4 h.un) λw H Q f=>by
 obtain⟨O,U,S,r,u,st,h,q⟩:=f;obtain⟨rs,S1,i,h⟩:=M.inv h;obtain⟨ds,x,j,h⟩:=M.inv h;obtain⟨_,y,k,h⟩:=M.inv h;obtain⟨n,rfl⟩:=ue k;cases h;refine⟨O,U,S,rs,S1,st,i,λe s t c g l nn=>?_⟩;obtain⟨d,rfl⟩:=ui l nn j;refine⟨agw (f3 (by rw[d.len];exact n)),λp b=>?_⟩;refine q (gA (cz H e) p .dP) _ _ (c.cz.trans (Go.new b)) ((g.cz H).new b) ⟨p,s,rfl,dT,l2,d.go (Go.new b)⟩ λa m=>?_
 cases m;exact c.same.free b⟩
end
section
variable[aE.a5]
variable{X:aR}{b:Expr}{pos:Pos}
def aaV{b j pos}:bp X (.Constant (.bool b) j pos) (aH (.aM b)):=⟨ud XM λ_ _=>rfl⟩
end
section
variable[aE.a5]
variable{X:aR}{a:Expr}{cv:aN->M Bool}{pos:Pos}
def abH(g:fl X a cv):fl X (.UnaryOp .Not a pos) (lZ cv):=⟨vC (Yw g.un) λk H Q d=>by
 obtain⟨O,U,S,r,j,st,h,q⟩:=d;obtain⟨t,S1,f,h⟩:=M.inv h;cases h;exact⟨O,U,S,t,_,st,f,λc b i e=>q c b i e⟩⟩
end
section
variable[aE.a5]
variable{X:aR}{a b:Expr}{cv cO:aN->M Bool}{pos:Pos}
variable{rest:List Expr}
def abL(p:fl X a cv)(l:kG X (.BoolOp .Or (b::rest) pos) cO):kG X (.BoolOp .Or (a::b::rest) pos) (ib cv cO):=⟨Lm (YB p.un l.un) λu H Q j=>by
 obtain⟨O,U,S,r,n,st,h,q⟩:=j;obtain⟨t,S1,k,h⟩:=M.inv h;refine⟨O,U,S,t,S1,st,k,λc i e d=>?_⟩
 cases t with
 |true=>
  cases h;exact lL (q c i e d)
 |false=>
  exact lK ⟨c,U,S1,r,n,d,h,λm f g s=>q m f (e.trans g) s⟩⟩
end
section
variable[aE.a5]
variable{X:aR}{pos:Pos}
def M3{x j pos}:bp X (.Constant (.str x) j pos) (aH (.str x)):=⟨ud X6 λ_ _=>rfl⟩
end
section
variable[aE.a5]
variable{X:aR}{pos:Pos}
def aa6{j pos}:bp X (.Constant .none j pos) (aH .aF):=⟨ud X1 λ_ _=>rfl⟩
end
section
variable[aE.a5]
variable{X:aR}{a b:Expr}{ma cZ:br}{pos:Pos}
def nf{r:fv}(c:eJ X (agb op) r)(g:eP X.K X.mg r f)(e:bp X a ma)(d:bp X b cZ)(h:agA op b=false):bp X (.Compare a [op] [b] pos) (aa f ma cZ):=⟨es (XS c e.un d.un h) (t9 g)⟩
end
section
variable[aE.a5]
variable{X:aR}{iter:Expr}{it:fO}{i:Nat}{b:bc}{body:List Stmt}{pos dR:Pos}{x:Str}
def abx(a:ahs (model X.prog X.w) X.A X.env X.dx)(e:X.calm=true)(hi:rE X (.Name x dR) iter it)(hN:X.N.Nodup)(d:X.N[i]? = some x)(g:Loc X.env.scope x)(c:jF X body b)(aC:j0 X iter:=by intro _;rfl)(f:X.fn x=true\/X.env.scope.names.lookup x=some .local:=by first|exact .inl rfl|exact .inr rfl|assumption):eK X (.For (.Name x dR) iter body [] pos) (jf i it b):=⟨fz (vA a e hi.un (sU hN d g f) c.un aC) Rm⟩
end
section
variable[aE.a5]
variable{X:aR}{a b:Expr}{ma cZ:br}{pos:Pos}
variable{rest:List Expr}
def aaU(u:bp X a ma)(n:bp X (.BoolOp .And (b::rest) pos) cZ):bp X (.BoolOp .And (a::b::rest) pos) (jJ ma cZ):=⟨es (K2 u.un n.un) λz H Q j=>by
 obtain⟨O,U,S,r,s,st,h,q⟩:=j;obtain⟨x,S1,l,h⟩:=M.inv h;obtain⟨t,A,m,h⟩:=M.inv h;obtain⟨rfl,rfl⟩:=tl m;refine⟨O,U,S,_,_,st,l,λd B i c e k a6=>⟨t,k,?_⟩⟩
 cases t with
 |false=>
  cases h;exact lK (q d _ i c e rfl trivial)
 |true=>
  exact lL ⟨d,U,_,r,s,e,h,λp v f g w y nn=>q p v f (c.trans g) w y (nn.back c.same)⟩⟩
end
section
variable[aE.a5]
variable{X:aR}{a b:Expr}{ma cZ:br}{pos:Pos}
variable{rest:List Expr}
def aa9(u:bp X a ma)(n:bp X (.BoolOp .Or (b::rest) pos) cZ):bp X (.BoolOp .Or (a::b::rest) pos) (ua ma cZ):=⟨es (X4 u.un n.un) λz H Q j=>by
 obtain⟨O,U,S,r,s,st,h,q⟩:=j;obtain⟨x,S1,l,h⟩:=M.inv h;obtain⟨t,A,m,h⟩:=M.inv h;obtain⟨rfl,rfl⟩:=tl m;refine⟨O,U,S,_,_,st,l,λd B i c e k a6=>⟨t,k,?_⟩⟩
 cases t with
 |true=>
  rw[if_pos rfl]at h;cases h;exact lL (q d _ i c e rfl trivial)
 |false=>
  rw[if_neg afc]at h;exact lK ⟨d,U,_,r,s,e,h,λp v f g w y nn=>q p v f (c.trans g) w y (nn.back c.same)⟩⟩
end
section
variable[aE.a5]
variable{X:aR}{a:Expr}{cv:aN->M Bool}{pos:Pos}
def abM(b:fl X a cv):kG X (.BoolOp .Or [a] pos) cv:=⟨YC b.un⟩
end
section
variable[aE.a5]
variable{X:aR}{a b:Expr}{cv cO:aN->M Bool}{pos:Pos}
variable{rest:List Expr}
def abJ(p:fl X a cv)(l:kG X (.BoolOp .And (b::rest) pos) cO):kG X (.BoolOp .And (a::b::rest) pos) (fA cv cO):=⟨Lm (Yz p.un l.un) λu H Q j=>by
 obtain⟨O,U,S,r,n,st,h,q⟩:=j;obtain⟨t,S1,k,h⟩:=M.inv h;refine⟨O,U,S,t,S1,st,k,λc i e d=>?_⟩
 cases t with
 |false=>
  cases h;exact lK (q c i e d)
 |true=>
  exact lL ⟨c,U,S1,r,n,d,h,λm f g s=>q m f (e.trans g) s⟩⟩
end
section
variable[aE.a5]
variable{X:aR}{e:Expr}{m:br}
def abt(he:bp X e m):rF X (some e) (e2 m):=⟨λj s k H Q J c=>by
 refine cc λd=>?_
 obtain⟨O,U,S,r,p,st,h,q⟩:=c;obtain⟨x,S1,g,h⟩:=M.inv h;split at h
 .rename_i i
  cases h;exact d (Yo he.un j s k H Q J ⟨O,U,S,_,_,st,g,λb v a n f l _=>⟨i,l,q b a n f⟩⟩)
 .cases h⟩
end
section
variable[aE.a5]
variable{X:aR}
def abr :rF X none fR:=⟨λb s c H Q J a=>by
 obtain⟨O,U,S,r,d,st,h,q⟩:=a;cases h;exact Yn b s c H Q J (q O H (Go.refl _ _) st)⟩
end
section
variable[aE.a5]
variable{X:aR}{e:Expr}{m:br}{lo hi:Option Expr}{gZ mh:mn}{pos gM:Pos}
def abb(he:bp X e m)(W:rF X lo gZ)(K:rF X hi mh):bp X (.Subscript e (.Slice lo hi none gM) pos) (gq m gZ mh):=⟨es (K6 (Zm.or Zp) he.un W.un K.un) λJ H Q A=>by
 refine cc λf=>?_
 obtain⟨O,U,S,r,C,st,h,q⟩:=A;obtain⟨x,S1,E,I⟩:=M.inv h;obtain⟨l,n,F,G⟩:=M.inv I;obtain⟨u,Y,N,h⟩:=M.inv G;refine f ⟨O,U,S,x,S1,st,E,λz e0 Z V B D a6=>?_⟩;refine⟨z,U,S1,l,n,B,F,λL o s P=>?_⟩;refine⟨L,U,n,u,Y,P,N,λw dn t y=>?_⟩;have g:=(V.trans s).trans t;have k:=D.go (s.trans t);unfold lR at h;refine cc λf=>?_
 split at h
 .rename_i xs
  by_cases c:cG.cj xs.length 0 l=0/\cG.cj xs.length xs.length u=xs.length
  .rw[if_pos c]at h;cases h
  .rw[if_neg c]at h
   cases h;obtain⟨a,ys,rfl,j,i⟩:=k;exact f (.inr ⟨a,ys,rfl,j,by rw[i.len];exact c,λp d=>q w _ _ (g.trans (Go.gu d)) (y.gu d) ⟨p,_,rfl,dr.of dT,(i.cut l u).go (Go.gu d)⟩ trivial⟩)
 .split at h
  .rename_i xs ao
   cases h;obtain⟨a,ys,rfl,j,i⟩:=R.pw k ao;refine f ?_;refine .inl ⟨a,ys,rfl,j,λp d=>q (gA w p .dP) _ _ (g.trans (Go.new d)) (y.new d) ⟨p,_,rfl,dT,l2,(i.cut l u).go (Go.new d)⟩ λb T=>?_⟩;cases T;exact g.same.free d
  .cases h⟩
end
section
variable[aE.a5]
variable{X:aR}{a:Expr}{ma:br}{pos:Pos}
def aa8{op}(h:bp X a ma):bp X (.BoolOp op [a] pos) ma:=⟨K5 h.un⟩
end
section
variable[aE.a5]
variable{X:aR}{scope esc:Scope}{EN N:List Str}{n:Nat}{cap:List Nat}{elt iter:Expr}{ifs:List Expr}{pos dR:Pos}{x:Str}{it:fO}{t:aN->M Bool}{el:br}
def aaZ(S:nq esc scope EN N n cap)(d:0<n)(hi:rD X (.Name x dR) iter it)(c:N[0]? = some x)(b:wQ X scope N x)(e:∀C a s H,rC (e3 X scope N C a s H) ifs t)(g:∀C a s H,bp (e3 X scope N C a s H) elt el)(he:X.env.scope=esc:=by rfl)(hN:X.N=EN:=by rfl)(f:X.calm=true:=by rfl)(aC:j0 X iter:=by intro _;rfl):bp X (.ListComp elt [⟨.Name x dR,iter,ifs,0⟩] scope pos) (hy n cap it t el):=⟨es (XT S hi.un (λC a s H=>sU S.c2 c (b C a s H).1 (.inr (b C a s H).2)) (λC a s H=>(e C a s H).un) (λC a s H=>(g C a s H).un) he hN f aC) (Aq d)⟩
end
section
variable[aE.a5]
variable{X:aR}{x:Str}{i:Nat}{p apos cT pos:Pos}{e:Expr}{aw:List Expr}{ms:cJ}{name:Str}{id:String}{f:List D->List R->M (R×List D)}{r:V->List V->av->cC->Prop}
def abA(slot:aiU "list" name id)(z:typeOf (.builtin id)=pure (.type "method_descriptor"))(w:mq X id r)(u:l_ X.K X.mg r f)(m:fQ X (e::aw) ms)(hN:X.N[i]? = some x)(b:nH X.env.scope x)(hd:eT x:=by decide)(s:(x==("__classdict__":Str))=false:=by decide)(A:agR (.Name x p) name X.env (eval (.Name x p) X.env)=eval (.Name x p) X.env:=by rfl) (E:((ahl cT (afV (e::aw) X.env)).all (λx=>!x.1)&&(backToKw cT (aiu [] X.env)).all (λx=>x.1.isSome)
&&decide ((e::aw).length+([]:List ahL).length+(if([]:List ahL).isEmpty then 0 else 1)<30))=true:=by rfl) (B:(apos.endLine==cT.line)=true:=by rfl) (aC:fm X e aw:=by rfl) (t:gF X cT aw:=by rfl) (y:agD (.Call (.Attribute (.Name x p) name apos) (e::aw) [] cT) none pos.line X.env=pure false:=by rfl):eK X (.Expr (.Call (.Attribute (.Name x p) name apos) (e::aw) [] cT) pos) (kJ i f ms):=⟨fz (vz (CJ ag7 slot z w (sS hN b hd s) m.un A E B aC t) y) λD l H c=>by
  obtain⟨O,U,S,I,F,st,h,q⟩:=c;obtain⟨⟨G,L⟩,S1,d,h⟩:=M.inv h;cases h;exact Kp u st d λj v a g n k _=>q j l a g n k⟩
end
section
variable[aE.a5]
variable{X:aR}{x:Str}{i:Nat}{p apos cT pos:Pos}{name:Str}{id:String}{f:List D->List R->M (R×List D)}{r:V->List V->av->cC->Prop}
def abB(slot:aiU "list" name id)(y:typeOf (.builtin id)=pure (.type "method_descriptor"))(u:mq X id r)(t:l_ X.K X.mg r f)(hN:X.N[i]? = some x)(c:nH X.env.scope x)(hd:eT x:=by decide)(n:(x==("__classdict__":Str))=false:=by decide)(z:agR (.Name x p) name X.env (eval (.Name x p) X.env)=eval (.Name x p) X.env:=by rfl)(A:(apos.endLine==cT.line)=true:=by rfl)(w:agD (.Call (.Attribute (.Name x p) name apos) [] [] cT) none pos.line X.env=pure false:=by rfl):eK X (.Expr (.Call (.Attribute (.Name x p) name apos) [] [] cT) pos) (kJ i f d7):=⟨fz (vz (K3 ag7 slot y u (sS hN c hd n) z A) w) λD l H d=>by
  obtain⟨O,U,S,G,E,st,h,q⟩:=d;obtain⟨⟨F,L⟩,S1,e,h⟩:=M.inv h;cases h;obtain⟨v,ao,aG,b,Q,P,rs,I,B,s,k0⟩:=Kp (r:=r) t st e λj v a g m k _=>q j l a g m k
  cases s;exact⟨v,ao,aG,k0 b [] H (Go.refl _ _) B rfl trivial⟩⟩
end
section
variable[aE.a5]
variable{X:aR}{a:Expr}{cv:aN->M Bool}{pos:Pos}
def abK(b:fl X a cv):kG X (.BoolOp .And [a] pos) cv:=⟨YA b.un⟩
end
section
variable[aE.a5]
variable{X:aR}{b_ l:Expr}{m:br}{a:Expr}
theorem abg(n:bp X l m):rE X b_ l (Jb m):=⟨oh (CL n.un) λs H R j=>by
 obtain⟨O,U,S,xs,p,st,h,q⟩:=j;obtain⟨r,S1,k,h⟩:=M.inv h;refine⟨O,U,S,r,S1,st,k,λe v d i f g nn=>?_⟩;split at h
 .cases h
  obtain⟨a,ys,rfl,b,c⟩:=g;exact⟨a,rfl,⟨ys,b.cN⟩,q e d (oP X.K a) ys i f (BD (.inl ⟨.inl b.1,.inl b.2⟩)) c⟩
 .cases h
  obtain⟨a,ys,rfl,b,t,c⟩:=g;exact⟨a,rfl,⟨ys,cL.of b⟩,q (cz H e) d (oP X.K a) ys i.cz (f.cz H) (BD (.inl ⟨.inl b,.inl (AV (nn a rfl) t)⟩)) (c.dc (jj _ _))⟩
 .cases h
  obtain⟨a,ys,rfl,b,c⟩:=g;exact⟨a,rfl,⟨ys,b.cN⟩,q e d (oP X.K a) ys i f (BD b) c⟩
 .cases h⟩
end
section
variable[aE.a5]
def aa5{pos:Pos}(j:bp X a ma):bp X (.UnaryOp .USub a pos) (cX fx ma):=⟨es (X8 aay j.un) λm H Q d=>by
 obtain⟨O,U,S,r,l,st,h,q⟩:=d;obtain⟨x,S1,g,h⟩:=M.inv h;unfold fx at h;split at h
 .rename_i i
  cases h;exact⟨O,U,S,_,_,st,g,λc n b k e f a6=>⟨i,f,q c _ b k e rfl trivial⟩⟩
 .cases h⟩
end
section
variable[aE.a5]
variable{X:aR}{pos:Pos}{e:Expr}{m:br}
variable{i:Nat}{x:Str}{pos':Pos}
def abC(hN:X.N.Nodup)(hi:X.N[i]? = some x)(a:Loc X.env.scope x)(he:bp X e m)(aC:agD e (some (.Name x pos')) pos.line X.env=pure false:=by rfl)(b:X.fn x=true\/X.env.scope.names.lookup x=some .local:=by first|exact .inl rfl|exact .inr rfl|assumption):eK X (.Assign [.Name x pos'] e pos) (mE i m):=⟨fz (CV hN hi a he.un aC b) (K0 λ_ _ _ h=>h)⟩
end
section
variable[aE.a5]
def abl:rC X [] oy:=⟨λc s U H Q J a=>by
 obtain⟨O,U',S,b,d,st,h,q⟩:=a;cases h;exact X_ c s U H Q J (q O H (Go.refl _ _) st)⟩
end
section
variable[aE.a5]
variable{X:aR}{a:Expr}{ma:br}{pos:Pos}
def aa7(j:bp X a ma):bp X (.UnaryOp .Not a pos) (Ai ma):=⟨es (X2 j.un) λm H Q d=>by
 obtain⟨O,U,S,r,l,st,h,q⟩:=d;obtain⟨x,S1,g,h⟩:=M.inv h;obtain⟨t,n,i,h⟩:=M.inv h;obtain⟨rfl,rfl⟩:=tl i;cases h;exact⟨O,U,S,_,_,st,g,λc p b k e f a6=>⟨t,f,q c _ b k e rfl trivial⟩⟩⟩
end
section
variable[aE.a5]
variable{X:aR}{a b c:Expr}{ma cZ:br}{cv:aN->M Bool}{pos:Pos}
def aa0(w:fl X c cv)(u:bp X a ma)(s:bp X b cZ):bp X (.IfExp c a b pos) (j3 cv ma cZ):=⟨es (XX w.un u.un s.un) λy H Q n=>by
 obtain⟨O,U,S,r,m,st,h,q⟩:=n;obtain⟨t,S1,p,h⟩:=M.inv h;refine⟨O,U,S,t,S1,st,p,λk x d l=>?_⟩
 cases t with
 |false=>
  rw[if_neg afc]at h;exact lK ⟨k,U,_,r,m,l,h,λf v e g i j nn=>q f v e (d.trans g) i j (nn.back d.same)⟩
 |true=>
  rw[if_pos rfl]at h;exact lL ⟨k,U,_,r,m,l,h,λf v e g i j nn=>q f v e (d.trans g) i j (nn.back d.same)⟩⟩
end
section
variable[aE.a5]
variable{X:aR}{e:Expr}{aw:List Expr}{ms:cJ}{pos p:Pos}{x:Str}{T:String}{r:List V->av->cC->Prop}{f:List R->M R}
def DL(i:jU X (.type T) r)(j:kC X.K X.mg r f)(d:d5 X x)(k:X.mg x=none)(a:afW x=some (.type T))(b:fQ X (e::aw) ms)(c:x≠"__name__":=by decide)(g:eT x:=by decide)(he:fm X e aw:=by rfl)(h:gF X pos aw:=by rfl):bp X (.Call (.Name x p) (e::aw) [] pos) (b5 f ms):=⟨es (XQ i d k a b.un c g he h) (F9 j)⟩
end
section
variable[aE.a5]
def abm(h:fl X c t):rC X [c] t:=⟨X' h.un⟩
end
section
variable[aE.a5]
variable{X:aR}{b_:Expr}{a:Expr}{ms:cJ}{pos p:Pos}
def abh(c:d5 X "range")(d:X.mg "range"=none)(b:fQ X [a] ms)(aC:afV [a] X.env=[(false,eval a X.env)]:=by rfl):rE X b_ (.Call (.Name "range" p) [a] [] pos) (iB ms):=⟨oh (CM c d b.un aC) LY.1⟩
end
section
variable[aE.a5]
variable{X:aR}{b_:Expr}{a b:Expr}{ms:cJ}{pos p:Pos}
def abi(d:d5 X "range")(e:X.mg "range"=none)(c:fQ X [a,b] ms)(aC:afV [a,b] X.env=[(false,eval a X.env),(false,eval b X.env)]:=by rfl)(f:afV [b] X.env=[(false,eval b X.env)]:=by rfl):rE X b_ (.Call (.Name "range" p) [a,b] [] pos) (sb ms):=⟨oh (Ye d e c.un aC f) Y0.1⟩
end
section
variable[aE.a5]
variable{X:aR}{b_ l:Expr}{m:br}{a:Expr}
theorem aaQ(k:bp X l m):rD X b_ l (iX m):=⟨oh (K' k.un) λs H R e=>by
 obtain⟨O,U,S,xs,p,st,h,q⟩:=e;obtain⟨r,S1,g,h⟩:=M.inv h;split at h
 .rename_i t
  cases h;refine⟨O,U,S,_,_,st,g,λd v c j f i nn=>?_⟩;obtain⟨a,ys,rfl,b,n⟩:=i;exact⟨a,rfl,⟨ys,b⟩,q d c (ru X.K a) ys j f (Jp b) n⟩
 .cases h⟩
end
section
variable[aE.a5]
variable{X:aR}{b_ l:Expr}{m:br}{e a:Expr}
theorem aaO(n:bp X l m):rD X b_ l (Bw m):=⟨oh (CL n.un) λt H u f=>by
 obtain⟨O,U,S,xs,s,st,h,q⟩:=f;obtain⟨r,S1,i,h⟩:=M.inv h
 cases e:r.fp with
 |none=>rw[e]at h;cases h
 |some w=>
  rw[e]at h;cases h;refine⟨O,U,S,r,_,st,i,λd v c k g j nn=>?_⟩;obtain⟨a,ys,rfl,b,p⟩:=R.pw j e;exact⟨a,rfl,⟨ys,b⟩,q d c (oP X.K a) ys k g (Jn b) p⟩⟩
end
section
variable[aE.a5]
variable{X:aR}{b:bc}{body:List Stmt}{pos:Pos}{c:Expr}{t:aN->M Bool}
def abF(a:ahs (model X.prog X.w) X.A X.env X.dx)(e:fl X c t)(d:jF X body b):eK X (.While c body [] pos) (ub t b):=⟨fz (Yv a e.un d.un) abn⟩
end
section
variable[aE.a5]
variable{X:aR}{b_ l:Expr}{m:br}{a:Expr}
theorem abk(k:bp X l m):rE X b_ l (iX m):=⟨oh (K' k.un) λs H R e=>by
 obtain⟨O,U,S,xs,p,st,h,q⟩:=e;obtain⟨r,S1,g,h⟩:=M.inv h;split at h
 .rename_i t
  cases h;refine⟨O,U,S,_,_,st,g,λd v c j f i nn=>?_⟩;obtain⟨a,ys,rfl,b,n⟩:=i;exact⟨a,rfl,⟨ys,b⟩,q d c (ru X.K a) ys j f (TY b) n⟩
 .cases h⟩
end
section
variable[aE.a5]
variable{X:aR}{b_:Expr}{a:Expr}{ms:cJ}{pos p:Pos}
def aaP(c:d5 X "range")(d:X.mg "range"=none)(b:fQ X [a] ms)(aC:afV [a] X.env=[(false,eval a X.env)]:=by rfl):rD X b_ (.Call (.Name "range" p) [a] [] pos) (iB ms):=⟨oh (CM c d b.un aC) LY.2⟩
end
section
variable[aE.a5]
variable{X:aR}{st:Stmt}{pos:Pos}{a:bc}{e:Expr}
theorem abD(i:Nat)(hN:X.N[i]? = some x:=by rfl)(b:nH X.env.scope x:=by first|exact ahc rfl|exact afS (.inl rfl)|exact afS (afS rfl))(hd:eT x:=by decide)(g:(x==("__classdict__":Str))=false:=by decide):eK X (.Return (some (.Name x p)) pos) (w0 i):=⟨fz (CU (sS hN b hd g)) λD f H c=>by
 obtain⟨O,U,S,k,j,st,h,q⟩:=c;unfold w0 at h
 cases e:U[i]? with
 |none=>rw[e]at h;cases h
 |some s=>
  rw[e]at h;have l:=st.loc i s e
  cases s with
  |dY p xs=>
   obtain⟨a,ys,ao,aG,cI,dh⟩:=l
   cases p with
   |true=>cases h
   |false=>
   cases h;refine⟨.ref a,?_,q O _ H (dF.refl _ _) st.cp st.gy ⟨a,ys,rfl,cI,.inr ⟨i,aG⟩,dh⟩⟩
   cases w:f[i]? with
   |none=>rw[w]at ao;cases ao
   |some y=>rw[w]at ao;exact congrArg some ao
  |val d=>cases h
  |bF d=>cases h
  |emp=>cases h⟩
end
section
variable[aE.a5]
variable{X:aR}{pos dR:Pos}{is:List Nat}{e:Expr}{m:br}{aw:List Expr}{k:Nat}
def abE(x:X.calm=true)(p:kF X aw (kM is))(he:bp X e m)(l:(af1 aw X.env).length=is.length:=by rfl)(y:(af1 aw X.env).findIdx? (·.1)=none:=by rfl)(aC:ahU [.Tuple aw k dR] e pos.line X.env=pure false:=by rfl)(hw:ahV [.Tuple aw k dR] e X.env=pure none:=by rfl)(b:(af1 [.Tuple aw k dR] X.env).map (·.2)=[ahD (.Tuple aw k dR) X.env]:=by rfl):eK X (.Assign [.Tuple aw k dR] e pos) (qg is m):=⟨fz (yE he.un (yA x p l y) aC hw b) λD A H i=>by
 obtain⟨O,U,S,B,z,st,h,q⟩:=i;obtain⟨r,S1,b,h⟩:=M.inv h;split at h
 .rename_i ds
  by_cases c:ds.length=is.length
  .rw[if_pos c]at h
   cases h;refine⟨O,U,S,_,_,st,b,λg v f w j s nn=>?_⟩;obtain⟨a,ys,rfl,t,d⟩:=s;refine⟨a,ys,rfl,t,by rw[d.len,c],DH j d c λu n k=>q g u f w.di n k⟩
  .rw[if_neg c]at h;cases h
 .cases h⟩
end
section
variable[aE.a5]
variable{X:aR}{st:Stmt}{pos:Pos}
theorem abw :eK X (.Break pos) Af:=⟨fz Ys λD b H a=>by obtain⟨O,U,S,d,c,st,h,q⟩:=a;cases h;exact q O b H (dF.refl _ _) st (d_.refl _ _)⟩
end
section
variable[aE.a5]
variable{X:aR}{a:Expr}{cv:aN->M Bool}
def kG.cM(h:kG X a cv):fl X a cv:=⟨wx.cM h.un⟩
end
section
variable[aE.a5]
variable{X:aR}{scope esc:Scope}{EN N:List Str}{n:Nat}{cap:List Nat}{elt iter:Expr}{ifs:List Expr}{pos dR:Pos}{x:Str}{it:fO}{t:aN->M Bool}{el:br}
def abu{py c:Pos}(S:nq esc scope EN N n cap)(m:X.N.Nodup)(g:X.N[i]? = some y)(f:X.env.scope.names.lookup y=some .local)(b:0<n)(hi:rD X (.Name x dR) iter it)(d:N[0]? = some x)(l:wQ X scope N x)(e:∀C a s H,rC (e3 X scope N C a s H) ifs t)(k:∀C a s H,bp (e3 X scope N C a s H) elt el)(he:X.env.scope=esc:=by rfl)(hN:X.N=EN:=by rfl)(h:X.calm=true:=by rfl)(aC:j0 X iter:=by intro _;rfl)(j:agD (.ListComp elt [⟨.Name x dR,iter,ifs,0⟩] scope pos) (some (.Name y py)) c.line X.env=pure true:=by rfl):eK X (.Assign [.Name y py] (.ListComp elt [⟨.Name x dR,iter,ifs,0⟩] scope pos) c) (mE i (hy n cap it t el)):=⟨fz (EE S m g f b hi.un d l (λC a s H=>(e C a s H).un) (λC a s H=>(k C a s H).un) he hN h aC j) (K0 (Aq b))⟩
end
section
variable[aE.a5]
variable{X:aR}{scope esc:Scope}{EN N:List Str}{n:Nat}{cap:List Nat}{elt iter:Expr}{ifs:List Expr}{pos dR:Pos}{x:Str}{it:fO}{t:aN->M Bool}{el:br}
def abv{py c:Pos}(S:nq esc scope EN N n cap)(m:X.N.Nodup)(g:X.N[i]? = some y)(f:X.env.scope.names.lookup y=some .local)(b:0<n)(hi:rD X (.Name x dR) iter it)(d:N[0]? = some x)(l:wQ X scope N x)(e:∀C a s H,rC (e3 X scope N C a s H) ifs t)(k:∀C a s H,bp (e3 X scope N C a s H) elt el)(he:X.env.scope=esc:=by rfl)(hN:X.N=EN:=by rfl)(h:X.calm=true:=by rfl)(aC:j0 X iter:=by intro _;rfl)(j:agD (.ListComp elt [⟨.Name x dR,iter,ifs,0⟩] scope pos) (some (.Name y py)) c.line X.env=pure true:=by rfl):eK X (.Assign [.Name y py] (.ListComp elt [⟨.Name x dR,iter,ifs,0⟩] scope pos) c) (bQ i (hy n cap it t el)):=⟨fz (EE S m g f b hi.un d l (λC a s H=>(e C a s H).un) (λC a s H=>(k C a s H).un) he hN h aC j) (Me (Aq b))⟩
end
def Io:M b1:=⟨λS=>.ok S S,λ_ _ _ h=>by cases h;rfl⟩
def gx:R->M fP
 |.v (.ref n)=>do
  let S <-Io
  match S[n]? with
  |some o=>pure o|none=>bad
 |_=>bad
def KI{r:R}{S a:b1}(h:(gx r).run S=.ok o a):∃n,r=.v (.ref n)/\S[n]? = some o/\S=a:=by
 unfold gx at h;split at h
 .rename_i n
  obtain⟨T,S1,b,h⟩:=M.inv h;cases b
  cases e:S[n]? with
  |none=>rw[e]at h;cases h
  |some o'=>rw[e]at h;cases h;exact⟨n,rfl,e,rfl⟩
 .cases h
section
variable{κ:Type}[DecidableEq κ]
def ep(a:List (κ×D))(k:κ):Option D:=(a.find? λb=>decide (b.1=k)).map (·.2)
def jK(b:List (κ×D))(k:κ)(d:D):List (κ×D):=
 if(b.any λa=>decide (a.1=k))=true then b.map (λa=>if a.1=k then(a.1,d)else a)else b++[(k,d)]
variable[aE.a5]{K:aW}{mg:bx}{O:a4}{H:av}
end
variable[aE.a5]
section
variable{K:aW}{mg:bx}{O:a4}{U:aN}{S ak:b1}{aq:St}{H:av}{r:R}{v:V}{o:fP}
def yr(st:cu K mg O U S aq H)(f:d6 K mg O H r v)(h:(gx r).run S=.ok o ak):∃a,v=.ref a/\a∈O.bO/\nz K mg O H a o:=by
 obtain⟨n,rfl,e,rfl⟩:=KI h;obtain⟨a,d,i⟩:=st.gy n o e;obtain⟨b,g,c⟩:=f;rw[d]at c;cases c;exact⟨a,g,km d,i⟩
end
def bo(m:br):br:=λU=>do
 let x <-m U
 let o <-gx x
 match o with
 |.l xs=>pure (.mv xs)|_=>bad
def qe(m:br):br:=λU=>do
 let x <-m U
 let o <-gx x
 match o with
 |.l xs=>pure (.bF xs)|_=>bad
section
variable{X:aR}{e o:Expr}{m:br}{a:Str}
def Ka{f:St}{H:av}{Q:cC}{O:a4}{U:aN}{S S1 n:b1}{x r:R}{g:List D->R}(st:cu X.K X.mg O U S f H)(s:(m U).run S=.ok x S1)
  (h:(do let o <-gx x;match o with|.l xs=>pure (g xs)|_=>bad:M R).run S1=.ok r n) (q:tS X.K X.mg O U n f H r Q)
  (t:∀d b xs a ys,d a=.out->b a=some (.l ys)->a' X.K X.mg d b xs ys->d6 X.K X.mg d b (g xs) (.ref a)/\ip H (g xs) (.ref a)):i4 X.K X.mg m f H Q:=by
 obtain⟨o,E,k,h'⟩:=M.inv h;clear h;have h:=h';refine⟨O,U,S,x,S1,st,s,λj F i w c p a6=>?_⟩;obtain⟨a,rfl,A,y⟩:=yr c p k;obtain rfl:=(gx x).dO _ _ _ k;split at h
 .cases h
  obtain⟨ys,l,B⟩:=y;obtain⟨z,u⟩:=t j i _ a ys (c.cp.rh.2 a A) l B;exact q j _ i w c z u
 .cases h
theorem aa2(he:bp X e m):bp X e (bo m):=⟨es he.un λj H Q b=>by
 obtain⟨O,U,S,r,i,st,h,q⟩:=b;obtain⟨x,S1,c,h⟩:=M.inv h;exact Ka st c h q λg f xs a ys _ l d=>⟨⟨a,ys,rfl,l,d⟩,trivial⟩⟩
theorem aa4(he:bp X e m):bp X e (qe m):=⟨es he.un λj H Q b=>by
 obtain⟨O,U,S,r,i,st,h,q⟩:=b;obtain⟨x,S1,c,h⟩:=M.inv h;exact Ka st c h q λg f xs a ys o l d=>⟨⟨a,ys,rfl,.inl ⟨.inl l,.inr o⟩,d⟩,trivial⟩⟩
end
end aY
namespace aY
open PySem PySem.Spec aE
structure N(α:Type):Type where
 run:b1->Out α
def N.jI{α d:Type}(m:N α)(f:α->N d):N d:=⟨λS=>match m.run S with
 |.ok a b=>(f a).run b|.exc c b=>.exc c b| .bad=>.bad⟩
noncomputable instance:Monad N where
 pure a:=⟨λS=>.ok a S⟩
 bind:=N.jI
def N.inv{α g:Type}{m:N α}{f:α->N g}{S d:b1}{b:g}(h:(m >>= f).run S=.ok b d):∃a S1,m.run S=.ok a S1/\(f a).run S1=.ok b d:=by
 have h:(N.jI m f).run S=.ok b d:=h;unfold N.jI at h;dsimp only at h
 cases e:m.run S with
 |ok a S1=>rw[e]at h;exact⟨a,S1,rfl,h⟩|exc c S1=>rw[e]at h;cases h
 |bad=>rw[e]at h;cases h
def fc{α:Type}:N α:=⟨λ_=>.bad⟩
def M.up{α:Type}(m:M α):N α:=⟨m.run⟩
def AZ:N b1:=⟨λS=>.ok S S⟩
def putN(S:b1):N Unit:=⟨λ_=>.ok () S⟩
abbrev dG:=aN->N R
abbrev h1:=aN->N (List R)
abbrev b8:=aN->N fK
abbrev e8:=List D->N R
variable[aE.a5]
structure e6(O aj:a4)(H H':av):Prop where
 cells:∀b o,H b=some o->(b∉O.bO\/Fix o)->(h:oa o:=by exact trivial)->H' b=some o
 own:∀b,H b≠none->aj b=O b
 has:∀b,H b≠none->H' b≠none
 cO:∀b ps,H b=some (.fH ps)->∃kj,H' b=some (.fH kj)
 bt:TabsOk H->TabsOk H'
 bO:O.bO <+: aj.bO
 new:∀b∈aj.bO,b∈O.bO\/H b=none
structure f7(O aj:a4)(H H':av):Prop where
 cells:∀b o,H b=some o->(((O b=.free\/O b=.out)/\b∉O.bO)\/Fix o)->(h:oa o:=by exact trivial)->H' b=some o
 own:∀b,H b≠none->(O b=.free\/O b=.out)->aj b=O b
 has:∀b,H b≠none->H' b≠none
 cO:∀b ps,H b=some (.fH ps)->∃kj,H' b=some (.fH kj)
 bt:TabsOk H->TabsOk H'
 bO:O.bO <+: aj.bO
 new:∀b∈aj.bO,b∈O.bO\/H b=none
structure rt(O aj:a4)(H H':av):Prop where
 cells:∀b o,H b=some o->((O b=.free/\b∉O.bO/\∃ys,o=.l ys)\/Fix o)->(h:oa o:=by exact trivial)->H' b=some o
 own:∀b ys,H b=some (.l ys)->O b=.free->aj b=.free
 bO:O.bO <+: aj.bO
section
variable{K:aW}{mg:bx}{O aP bb aj:a4}{H H1 aT H':av}{S ak:b1}{U U':aN}{aq cw:St}
omit [aE.a5]in
theorem iJ(e:H b=some o):H b≠none:=λz=>by rw[e]at z;cases z
def Go.dN(g:Go O aj H H'):e6 O aj H H':=⟨λb o e _ n=>g.same.at' b o e n,g.own,λ_ h=>g.same.some h,g.same.cO,g.same.bt,by rw[g.bO];exact ai7 _,λb h=>.inl (by rw[<-g.bO];exact h)⟩
def dF.dy(g:dF O aj H H'):f7 O aj H H':=⟨λb o e h n=>g.cells b o e (h.elim (λz=>z.1.elim .inl λz=>.inr (.inl z)) λz=>.inr (.inr z)) n,g.own,g.has,g.cO,g.bt,by rw[g.bO];exact ai7 _,λb h=>.inl (by rw[<-g.bO];exact h)⟩
def e6.dy(g:e6 O aj H H'):f7 O aj H H':=⟨λb o e h n=>g.cells b o e (h.imp (·.2) id) n,λb h _=>g.own b h,g.has,g.cO,g.bt,g.bO,g.new⟩
def e6.trans(a:e6 O aP H H1)(b:e6 aP bb H1 aT):e6 O bb H aT:=
  ⟨λc o e h n=>b.cells c o (a.cells c o e h n) (h.imp (λz m=>(a.new c m).elim z (iJ e)) id) n,λc h=>(b.own c (a.has c h)).trans (a.own c h),λc h=>b.has c (a.has c h),λc ps h=>let⟨p1,ao⟩:=a.cO c ps h;b.cO c p1 ao,λg=>b.bt (a.bt g),
   a.bO.trans b.bO,λc m=>(b.new c m).elim (a.new c) λz=>.inr (by cases e:H c with|none=>rfl|some o=>exact absurd z (a.has c (iJ e)))⟩
def f7.trans(a:f7 O aP H H1)(b:f7 aP bb H1 aT):f7 O bb H aT:=
  ⟨λc o e h n=>b.cells c o (a.cells c o e h n) (h.imp (λz=>⟨by rw[a.own c (iJ e) z.1];exact z.1,λm=>(a.new c m).elim z.2 (iJ e)⟩) id) n,
   λc h f=>(b.own c (a.has c h) (by rw[a.own c h f];exact f)).trans (a.own c h f),λc h=>b.has c (a.has c h),λc ps h=>let⟨p1,ao⟩:=a.cO c ps h;b.cO c p1 ao,λg=>b.bt (a.bt g),
   a.bO.trans b.bO,λc m=>(b.new c m).elim (a.new c) λz=>.inr (by cases e:H c with|none=>rfl|some o=>exact absurd z (a.has c (iJ e)))⟩
def f7.iT(g:f7 O aj H H'):rt O aj H H':=⟨λb o e h n=>g.cells b o e (h.imp (λz=>⟨.inl z.1,z.2.1⟩) id) n,λb ys e f=>(g.own b (iJ e) (.inl f)).trans f,g.bO⟩
def rt.vQ(g:rt O aj H H')(h:dr K H a ys):dr K H' a ys:=by
 rcases h with(h|⟨o,h⟩)|h
 .exact .inl (.inl (g.cells _ _ h (.inr (.inl ⟨_,rfl⟩))))
 .exact .inl (.inr ⟨o,g.cells _ _ h (.inr (.inr ⟨_,_,rfl⟩))⟩)
 .exact .inr h
omit [aE.a5]in
theorem jE.no(r:jE O)(h:O a=w)(hw:w≠.out):a∉O.bO:=λm=>hw (h.symm.trans (r.2 a m))
mutual
theorem Rep.iT(g:rt O aj H H')(rh:jE O):∀{d:D}{v:V},Rep K mg O H d v->Rep K mg aj H' d v
 |.aF,_,h=>h|.aM _,_,h=>h|.int _,_,h=>h|.str _,_,h=>h| .t _,_,h=>by obtain⟨a,ys,q,l,r⟩:=h;exact⟨a,ys,q,g.vQ l,a'.iT g rh r⟩
 |.l _,_,h=>by obtain⟨a,ys,q,l,r⟩:=h;exact⟨a,ys,q,⟨g.cells _ _ l.1 (.inl ⟨l.2,rh.no l.2 (by intro z;cases z),_,rfl⟩),g.own a _ l.1 l.2⟩,a'.iT g rh r⟩
 |.ref _,_,h=>by
  obtain⟨a,q,l⟩:=h;obtain⟨t,e⟩:=g.bO;exact⟨a,q,by rw[<-e,afk (fk.mp l).1];exact l⟩
 |.fn _,_,h=>h|.ty _,_,h=>h
theorem a'.iT(g:rt O aj H H')(rh:jE O):∀{ds:List D}{ys:List V},a' K mg O H ds ys->a' K mg aj H' ds ys
 |[],_,h=>h| _::_,_,h=>by obtain⟨x,r,q,a,b⟩:=h;exact⟨x,r,q,Rep.iT g rh a,a'.iT g rh b⟩
end
def a'.dy(g:f7 O o H H')(rh:jE O)(h:a' K mg O H ds ys):a' K mg o H' ds ys:=h.iT g.iT rh
def Rep.dN(g:e6 O o H H')(rh:jE O){v:V}(h:Rep K mg O H d v):Rep K mg o H' d v:=h.iT g.dy.iT rh
def a'.dN(g:e6 O o H H')(rh:jE O)(h:a' K mg O H ds ys):a' K mg o H' ds ys:=h.dy g.dy rh
def R.jR:R->Bool
 |.v _=>true|.fr _=>true|_=>false
def d6.dN(g:e6 O C H H')(rh:jE O){r:R}{v:V}(aC:r.jR=true)(h:d6 K mg O H r v):d6 K mg C H' r v:=by
 cases r with
 |v d=>exact Rep.dN g rh h| fr xs=>obtain⟨a,ys,q,l,o,r⟩:=h;exact⟨a,ys,q,g.cells _ _ l (.inl (rh.no o (by intro z;cases z))),(g.own a (iJ l)).trans o,r.dN g rh⟩
 |bF xs=>cases aC
 |mv xs=>cases aC
def ip.dN(g:e6 O C H H'):∀{r:R}{v:V},ip H' r v->ip H r v
 |.v _,_,_=>trivial|.bF _,_,_=>trivial|.mv _,_,_=>trivial|.fr _,_,h=>λa e=>by
  cases ao:H a with
  |none=>rfl|some o=>exact absurd (h a e) (g.has a (iJ ao))
def oQ(K:aW)(O:a4)(H:av)(a:Addr)(ys:List V):Prop:=(gS H a (.l ys)/\(O a=.free\/O a=.out)/\a∉O.bO)\/zo K a ys
structure dA(K:aW)(mg:bx)(O:a4)(U:aN)(S:b1)(aq:St)(H:av):Prop where
 s3:cu K mg O U S aq H
 full:O.bO.length=S.length
 rf:∀(i:Nat)(xs:List D),U[i]? = some (.bF xs)->∃a ys,aq[i]?.join=some (.ref a)/\oQ K O H a ys/\a' K mg O H xs ys
def oQ.dy(g:f7 O C H H')(h:oQ K O H a ys):oQ K C H' a ys:=by
 rcases h with⟨h,f,m⟩|h
 .have b:=gS.some h
  refine .inl ⟨?_,by rw[g.own a b f];exact f,λz=>(g.new a z).elim m b⟩;rcases h with h|⟨o,h⟩
  .exact .inl (g.cells _ _ h (.inl ⟨f,m⟩))
  .exact .inr ⟨o,g.cells _ _ h (.inl ⟨f,m⟩)⟩
 .exact .inr h
def oQ.v(h:oQ K O H a ys):g9 K O H a ys:=h.imp (λz=>⟨z.1,z.2.1⟩) id
def dA.go(s:dA K mg O U S C H)(g:Go O o H H')(d:c4 o H'):dA K mg o U S C H':=
 ⟨s.s3.go g d,by rw[g.bO];exact s.full,λi xs e=>by obtain⟨a,ys,ao,l,r⟩:=s.rf i xs e;exact⟨a,ys,ao,l.dy g.di.dy,r.go g⟩⟩
def dA.di(s:dA K mg O U S J H)(g:dF O o H H')(k:d_ U U' J C)(t:cu K mg o U' S C H'):dA K mg o U' S C H':=
 ⟨t,by rw[g.bO];exact s.full,λi xs e=>by
  obtain⟨b,c⟩:=k.1 i xs e;obtain⟨a,ys,ao,l,r⟩:=s.rf i xs b;exact⟨a,ys,by rw[c];exact ao,l.dy g.dy,a'.di g r⟩⟩
def dA.dN(s:dA K mg O U S aq H)(g:e6 O C H H')(d:c4 C H')(de:fw K mg C H' J)(b:C.bO.length=J.length):dA K mg C U J aq H':=by
 have rh:=s.s3.cp.rh;have bF:∀(i:Nat)(xs:List D),U[i]? = some (.bF xs)->∃a ys,aq[i]?.join=some (.ref a)/\oQ K C H' a ys/\a' K mg C H' xs ys:=λi xs e=>by
  obtain⟨a,ys,ao,l,r⟩:=s.rf i xs e;exact⟨a,ys,ao,l.dy g.dy,r.dN g rh⟩
 refine⟨⟨d,s.s3.len,λi t e=>?_,de⟩,b,bF⟩;have l:=s.s3.loc i t e
 cases t with
 |emp=>exact trivial|val d=>obtain⟨v,q,r⟩:=l;exact⟨v,q,r.dN g rh⟩
 |dY p xs=>obtain⟨a,ys,q,o,l,r⟩:=l;exact⟨a,ys,q,(g.own a (iJ l)).trans o,g.cells _ _ l (.inl (rh.no o (by intro z;cases z))),r.dN g rh⟩
 |bF xs=>obtain⟨a,ys,ao,l,r⟩:=bF i xs e;exact⟨a,ys,ao,l.v,r⟩
end
inductive p'{α:Type}(K:aW)(mg:bx)(m:aN->N α)(aq:St)(H:av)(P:a4->aN->b1->α->Prop):Prop
 |mk (O:a4) (U:aN) (S:b1) (x:α) (ak:b1) (st:dA K mg O U S aq H) (h:(m U).run S=.ok x ak) (q:P O U ak x):p' K mg m aq H P
def wm(K:aW)(mg:bx)(m:dG):TE:=λc H Q=>p' K mg m c H λO U d r=>∀b v a,e6 O b H a->dA K mg b U d c a->d6 K mg b a r v->ip H r v->Q v a
def ab6(K:aW)(mg:bx)(m:aN->N Bool):TT:=λd H Q=>p' K mg m d H λO U e b=>∀c a,e6 O c H a->dA K mg c U e d a->Q b a
def Ni(K:aW)(mg:bx)(m:h1):fC:=λd H Q=>p' K mg m d H λO U e rs=>∀b c a,e6 O b H a->dA K mg b U e d a->hX K mg b a rs c->jW H rs c->Q c a
def tT(K:aW)(mg:bx)(O:a4)(d:b1)(H:av)(f:fK)(e:Ends):Prop:=match f with
 |.a6 U'=>∀b c a,f7 O b H a->dA K mg b U' d c a->e.a6 c a|.bk U'=>∀b c a,f7 O b H a->dA K mg b U' d c a->e.bk c a|.cM U'=>∀b c a,f7 O b H a->dA K mg b U' d c a->e.cM c a|.b0 r=>∀b v a,f7 O b H a->c4 b a->fw K mg b a d->b.bO.length=d.length->zw K mg b a r v->e.b0 v a
def tT.dy{O d:a4}(h:tT K mg O C H o J)(g:f7 O d H H1):tT K mg d C H1 o J:=by
 cases o with
 |a6 U'=>exact λb c a g'=>h b c a (g.trans g')
 |bk U'=>exact λb c a g'=>h b c a (g.trans g')
 |cM U'=>exact λb c a g'=>h b c a (g.trans g')
 |b0 r=>exact λb v a g'=>h b v a (g.trans g')
def ni(K:aW)(mg:bx)(m:b8):gE:=λd b H=>p' K mg m b H λO _ a c=>tT K mg O a H c d
section
variable(X:aR)
structure ek(e:Expr)(m:dG):Prop where
 un:ck X e (wm X.K X.mg m)
structure rH(e:Expr)(m:aN->N Bool):Prop where
 un:hW X e (ab6 X.K X.mg m)
structure jG(aw:List Expr)(m:h1):Prop where
 un:gR X aw (Ni X.K X.mg m)
structure eS(st:Stmt)(m:b8):Prop where
 un:iq X st (ni X.K X.mg m)
structure jc(m8:List Stmt)(m:b8):Prop where
 un:hV X m8 (ni X.K X.mg m)
end
def eI(m:br):dG:=λU=>(m U).up
def gP(m:aN->M Bool):aN->N Bool:=λU=>(m U).up
def eH(m:cJ):h1:=λU=>(m U).up
def bZ(m:bc):b8:=λU=>(m U).up
section
variable{X:aR}{e:Expr}{aw:List Expr}{m:br}{t:aN->M Bool}{ms:cJ}{b:bc}{st:Stmt}{m8:List Stmt}
theorem aco(h:bp X e m):ek X e (eI m):=⟨es h.un λk H Q g=>by
 obtain⟨O,U,S,r,a,st,h,q⟩:=g;obtain rfl:=(m U).dO _ _ _ h;exact⟨O,U,a,r,a,st.s3,h,λf v d c i j nn=>q f v d c.dN (st.go c i.cp) j nn⟩⟩
theorem acJ(h:fl X e t):rH X e (gP t):=⟨vC h.un λj H Q g=>by
 obtain⟨O,U,S,r,a,st,h,q⟩:=g;obtain rfl:=(t U).dO _ _ _ h;exact⟨O,U,a,r,a,st.s3,h,λf d c i=>q f d c.dN (st.go c i.cp)⟩⟩
theorem acd(h:fQ X aw ms):jG X aw (eH ms):=⟨og h.un λk H Q g=>by
 obtain⟨O,U,S,r,a,st,h,q⟩:=g;obtain rfl:=(ms U).dO _ _ _ h;exact⟨O,U,a,r,a,st.s3,h,λf v d c i j nn=>q f v d c.dN (st.go c i.cp) j nn⟩⟩
theorem Nj:∀D i H,ni K mg (bZ b) D i H->i5 K mg b D i H:=by
 rintro D i H ⟨O,U,S,l,j,st,h,q⟩;obtain rfl:=(b U).dO _ _ _ h;refine⟨O,U,j,l,j,st.s3,h,?_⟩
 cases l with
 |a6 U'=>exact λc f a g t k=>q c f a g.dy (st.di g k t)
 |bk U'=>exact λc f a g t k=>q c f a g.dy (st.di g k t)
 |cM U'=>exact λc f a g t k=>q c f a g.dy (st.di g k t)
 |b0 r=>exact λc v a g d de n=>q c v a g.dy d de (by rw[g.bO];exact st.full) n
def acC(h:eK X st b):eS X st (bZ b):=⟨fz h.un Nj⟩
def Nn(h:jF X m8 b):jc X m8 (bZ b):=⟨vB h.un Nj⟩
end
end aY
namespace aY
open PySem PySem.Spec aE
def bP(a b:b8):b8:=λU=>do
 let c <-a U
 match c with
 |.a6 U'=>b U'|c=>pure c
def fI(t:aN->N Bool)(a b:b8):b8:=λU=>do
 let t <-t U
 if t=true then a U else b U
def gB(i:Nat)(m:dG):b8:=λU=>do
 let r <-m U
 let d <-r.dat.up
 pure (.a6 (U.set i (.val d)))
def kz(m:dG):b8:=λU=>do
 let r <-m U
 match r with
 |.v d=>pure (.b0 (.v d))|.fr xs=>pure (.b0 (.fr xs))|_=>fc
def lb(m:dG):b8:=λU=>do
 let _ <-m U
 pure (.a6 U)
variable[aE.a5]
section
variable{K:aW}{mg:bx}{O oS:a4}{H H₀:av}{S:b1}{U:aN}{aq:St}
def dA.cz(s:dA K mg O U S aq H)(H₀:av):dA K mg (cz H₀ O) U S aq H:=⟨s.s3.cz H₀,s.full,λi xs e=>by
 obtain⟨a,ys,ao,l,r⟩:=s.rf i xs e;refine⟨a,ys,ao,l.imp (λz=>⟨z.1,?_,z.2.2⟩) id,r.dc (jj _ _)⟩;rcases z.2.1 with f|f
 .exact .inl ((jj H₀ O).fr a f)
 .exact .inr (by rw[rW (by rw[f];intro z;cases z)];exact f)⟩
def e6.cz(g:e6 oS O H₀ H):e6 oS (cz H₀ O) H₀ H:=⟨λb o e h n=>g.cells b o e h n,λb a=>(AU a).trans (g.own b a),g.has,g.cO,g.bt,g.bO,g.new⟩
def dA.set{v:V}(st:dA K mg O U S aq H)(aC:∀xs,s≠.bF xs)(h:jb K mg O H (.loc i) s (some v)):dA K mg O (U.set i s) S (aq.set i (some v)) H:=⟨st.s3.set h,st.full,λj xs e=>by
 by_cases a:i=j
 .subst a
  rw[afB (by have:=(fk.mp e).1;rwa[af6]at this)]at e;exact absurd (afy e) (aC xs)
 .rw[afu a]at e
  rw[afu a];exact st.rf j xs e⟩
end
section
variable{X:aR}{st:Stmt}{rest A B:List Stmt}{pos pos':Pos}{a b:b8}{e c:Expr}{m:dG}{t:aN->N Bool}{i:Nat}{x:Str}
def acH(h:eS X st a):jc X [st] a:=⟨CY h.un⟩
def acG(d:eS X st a)(n:jc X rest b):jc X (st::rest) (bP a b):=⟨vB (CW d.un n.un) λD y H k=>by
 obtain⟨O,U,S,s,p,st,h,q⟩:=k;obtain⟨g,S1,d,h⟩:=N.inv h;refine⟨O,U,S,g,S1,st,d,?_⟩
 cases g with
 |a6 f=>exact λj z w u l=>⟨j,f,S1,s,p,l,h,q.dy u⟩
 |b0 r=>cases h;exact q
 |bk f=>cases h;exact q
 |cM f=>cases h;exact q⟩
theorem acz(s:rH X c t)(r:jc X A a)(p:jc X B b):eS X (.If c A B pos) (fI t a b):=⟨fz (CT s.un r.un p.un) λD w H l=>by
 obtain⟨O,U,S,j,g,st,h,q⟩:=l;obtain⟨t,S1,n,h⟩:=N.inv h;refine⟨O,U,S,t,S1,st,n,λd u k f=>?_⟩
 cases t with
 |false=>
  exact lK ⟨d,U,S1,j,g,f,h,q.dy k.dy⟩
 |true=>
  exact lL ⟨d,U,S1,j,g,f,h,q.dy k.dy⟩⟩
theorem acD(he:ek X e m):eS X (.Return (some e) pos) (kz m):=⟨fz (CU he.un) λD u H n=>by
 obtain⟨O,U,S,w,s,st,h,q⟩:=n;obtain⟨r,S1,p,h⟩:=N.inv h;refine⟨O,U,S,r,S1,st,p,λj v g l f k nn=>?_⟩
 cases r with
 |v d=>cases h;exact q j v g l.dy f.s3.cp f.s3.gy f.full k
 |fr xs=>cases h;exact q j v g l.dy f.s3.cp f.s3.gy f.full (LP k (.inr ⟨_,rfl⟩))
 |bF xs=>cases h
 |mv xs=>cases h⟩
theorem acv(he:ek X e m)(aC:agD e none pos.line X.env=pure false:=by rfl):eS X (.Expr e pos) (lb m):=⟨fz (vz he.un aC) λD l H g=>by
 obtain⟨O,U,S,s,p,st,h,q⟩:=g;obtain⟨r,S1,k,h⟩:=N.inv h;cases h;exact⟨O,U,S,r,_,st,k,λf v d n j u nn=>q f l d n.dy j⟩⟩
theorem acE(hN:X.N.Nodup)(hi:X.N[i]? = some x)(p:Loc X.env.scope x)(he:ek X e m)(aC:agD e (some (.Name x pos')) pos.line X.env=pure false:=by rfl)(y:X.fn x=true\/X.env.scope.names.lookup x=some .local:=by first|exact .inl rfl|exact .inr rfl|assumption) :
  eS X (.Assign [.Name x pos'] e pos) (gB i m):=⟨fz (CV hN hi p he.un aC y) λD F H j=>by
 obtain⟨O,U,S,G,E,st,h,q⟩:=j;obtain⟨r,S1,l,h⟩:=N.inv h;obtain⟨d,I,n,h⟩:=N.inv h;cases h;refine⟨O,U,S,r,S1,st,l,λg v f w k s nn=>?_⟩;obtain⟨u,rfl⟩:=qj s nn n;exact q (cz H g) _ f w.cz.dy ((k.cz H).set (λxs z=>by cases z) ⟨v,rfl,u⟩)⟩
end
def Eh(b:hT)(O:a4)(H:av)(ys:List V):Prop:=∀d a,f7 O d H a->∀i,(i<ys.length->b.go i a/\∀x c,b.pX i a x c->c=a/\ys[i]? = some x)/\(ys.length<=i->b.stop i a)
def MH(K:aW)(mg:bx)(m:fO):TI:=λc H R=>p' K mg (λU=>(m U).up) c H λO U e xs=>∀b a d ys,Go O b H a->dA K mg b U e c a->Eh d b a ys->a' K mg b a xs ys->R d a
structure Ep(X:aR)(b_ e:Expr)(m:fO):Prop where
 un:jD X b_ e (MH X.K X.mg m)
def l6(b:D->b8):List D->b8
 |[]=>λU=>pure (.a6 U)
 |d::ds=>λU=>do
  let a <-b d U
  match a with
  |.a6 U'=>l6 b ds U'|.cM U'=>l6 b ds U'|.bk U'=>pure (.a6 U')|.b0 r=>pure (.b0 r)
def DP(B:D->b8)(it:fO):b8:=λU=>do
 let ds <-(it U).up
 l6 B ds U
abbrev y9(i:Nat)(it:fO)(b:b8):b8:=DP (λd U=>b (U.set i (.val d))) it
section
variable{X:aR}{b_ iter:Expr}{m:br}{a:Expr}{ms:cJ}{pos p dR:Pos}{it:fO}{bd:b8}{body:List Stmt}{i:Nat}{x:Str}
theorem TV{O:a4}(lo:Int)(n:Nat):Eh (mi lo n) O H (lU lo n):=λc b _ i=>xE lo n b (ec.refl _) i
def acs(n:d5 X "range")(t:X.mg "range"=none)(l:fQ X [a] ms)(aC:afV [a] X.env=[(false,eval a X.env)]:=by rfl):Ep X b_ (.Call (.Name "range" p) [a] [] pos) (iB ms):=⟨oh (CM n t l.un aC) λw H R g=>by
 obtain⟨O,U,S,xs,u,st,h,q⟩:=g;obtain rfl:=(iB ms U).dO _ _ _ h;obtain⟨rs,S1,b,h⟩:=M.inv h;obtain rfl:=(ms U).dO _ _ _ b;split at h
 .rename_i j
  by_cases c:-(2 ^ 62)<=j/\j<2 ^ 62
  .rw[if_pos c]at h
   cases h;refine⟨O,U,S1,_,S1,st.s3,b,λf y e d k s nn=>?_⟩;obtain⟨v,rfl,r⟩:=kq s;cases(show v=.int j from r);exact⟨j,rfl,c.1,c.2,q f e (mi 0 j.toNat) (lU 0 j.toNat) d (st.go d k.cp) (TV _ _) (Dc _ _)⟩
  .rw[if_neg c]at h;cases h
 .cases h⟩
theorem Ke{K:aW}{mg:bx}{H:hT}{G:hZ}{B:aY.D->b8}{b:List aY.D}{w:a4}{U:aN}{S1 F:b1}{S:St}{u:av}{I:fK}{W:Ends}(Y:dA K mg w U S1 S u)(stop:∀g c,f7 w g u c->H.stop b.length c)
  (step:∀k d g c U' s y f n,b[k]? = some d->f7 w g u c->dA K mg g U' s y c->(B d U').run s=.ok f n->H.go k c/\∀x j (R:St->av->Prop),H.pX k c x j->
   (∀O Q L,f7 g g c L->dA K mg g O s Q L->(bd O).run s=.ok f n->R Q L)->G x y j R)
  (h:(l6 B b U).run S1=.ok I F) (q:tT K mg w F u I W):q_ (λ_ _ R=>R H u) G (ni K mg bd) W S u:=by
 refine⟨λk m y c=>m=b.length-k/\k<=b.length/\∃g U' s,dA K mg g U' s y c/\f7 w g u c/\(l6 B (b.drop k) U').run s=.ok I F,
  ⟨_,rfl,afC _,w,U,S1,Y,(dF.refl _ _).dy,h⟩,?_⟩
 rintro k m y c ⟨rfl,ay,g,U',s,T,g',h⟩
 cases e:b.drop k with
 |nil=>
  obtain rfl:k=b.length:=by
   have:=congrArg agx e;rw[afP,agm]at this;omega
  rw[e]at h;cases h;exact .inl ⟨stop g c g',q g y c g' T⟩
 |cons d lA=>
  have ee:k<b.length:=by
   have:=congrArg agx e;rw[afP,afE]at this;omega
  have J:b[k]? = some d:=by
   have:=congrArg (·[0]?) e;simpa using this
  have V:b.drop (k+1)=lA:=by
   simpa using congrArg (List.drop 1) e
  rw[e]at h;obtain⟨P,n,Z,h⟩:=N.inv h;obtain⟨go,oJ⟩:=step k d g c U' s y P n J g' T Z;refine .inr ⟨go,λA j=>∃l t n,dA K mg l t n A j/\f7 w l u j/\(l6 B (b.drop (k+1)) t).run n=.ok I F,?_,λx j jw=>oJ x j _ jw λO Q L j7 ks o=>?_⟩
  .rintro A j ⟨l,t,n,a1,a2,ed⟩
   exact⟨_,by omega,rfl,ee,l,t,n,a1,a2,ed⟩
  .refine⟨g,O,s,P,n,ks,o,?_⟩
   have M:=g'.trans j7
   cases P with
   |a6 t=>exact λl A j z E=>⟨l,t,n,E,M.trans z,by rw[V];exact h⟩
   |cM t=>exact λl A j z E=>⟨l,t,n,E,M.trans z,by rw[V];exact h⟩
   |bk t=>cases h;exact λl A j z E=>q l A j (M.trans z) E
   |b0 r=>cases h;exact λl v j z dV aG f2 C=>q l v j (M.trans z) dV aG f2 C
theorem Rl{G:hZ}{B:aY.D->b8}(W:∀O U S b H d y f l Q,dA K mg O U S b H->Rep K mg O H d y->(B d U).run S=.ok f l->(∀n r,dA K mg O n S r H->(bd n).run S=.ok f l->Q r H)->G y b H Q) :
  ∀D b H,ni K mg (DP B it) D b H->q_ (MH K mg it) G (ni K mg bd) D b H:=by
 rintro D b H ⟨O,U,S,bg,C,st,h,q⟩;obtain⟨ds,S1,z,h⟩:=N.inv h;refine⟨O,U,S,ds,S1,st,z,λo Z J ys P s c u=>Ke s (λj e g=>(c j e g _).2 (aif u.len)) (λk d j e U' eR cw f l L g' F A=>?_) h (q.dy P.di.dy)⟩;obtain⟨y,t,I⟩:=(u.dy g' s.s3.cp.rh).get L;obtain⟨go,Y⟩:=(c j e g' k).1 (fk.mp t).1;refine⟨go,λx w R T M=>?_⟩;obtain⟨rfl,ex⟩:=Y x w T;rw[t]at ex;cases ex;exact W _ _ _ _ _ _ _ _ _ _ F I A λn r V E=>M _ _ _ (dF.refl _ _).dy V E
def acw(b:ahs (model X.prog X.w) X.A X.env X.dx)(f:X.calm=true)(hi:Ep X (.Name x dR) iter it)(hN:X.N.Nodup)(d:X.N[i]? = some x)(j:Loc X.env.scope x)(c:jc X body bd)
  (aC:j0 X iter:=by intro _;rfl) (g:X.fn x=true\/X.env.scope.names.lookup x=some .local:=by first|exact .inl rfl|exact .inr rfl|assumption):eS X (.For (.Name x dR) iter body [] pos) (y9 i it bd):=
 ⟨fz (vA b f hi.un (sU hN d j g) c.un aC) (Rl λ_ _ _ _ _ _ _ _ _ _ st e h k=>k _ _ (st.set (s:=.val _) (λxs z=>by cases z) ⟨_,rfl,e⟩) h)⟩
end
end aY
namespace aY
open PySem PySem.Spec aE
def fnX(n N:Nat)(b:b8):e8:=λds=>if ds.length=n then do
  let a <-b (ds.map c3++af0 (N-n) .emp)
  match a with
  |.b0 (.v d)=>pure (.v d)|.b0 (.fr xs)=>pure (.fr xs)|.a6 _=>pure (.v .aF)|_=>fc
 else fc
def H2{n N:Nat}{ds:List D}{r:R}(h:(fnX n N b ds).run S=.ok r o):ds.length=n:=by
 unfold fnX at h
 by_cases c:ds.length=n
 .exact c
 .rw[if_neg c]at h;cases h
def wg:h1:=λ_=>pure []
def l5(m:dG)(ms:h1):h1:=λU=>do
 let x <-m U
 let xs <-ms U
 if x.jR=true then pure (x::xs)else fc
def y8(m:dG)(ms:cJ):h1:=λU=>do
 let x <-m U
 let xs <-(ms U).up
 pure (x::xs)
def eB(mf:e8)(ms:h1):dG:=λU=>do
 let rs <-ms U
 if rs.all R.jR=true then mf (rs.map R.arg)else fc
def y'(mf:bV)(ms:h1):dG:=λU=>do
 let rs <-ms U
 (mf (rs.map R.arg)).up
def la(f:R->R->M R)(a b:dG):dG:=λU=>do
 let x <-a U
 let y <-b U
 if x.jR=true then(f x y).up else fc
variable[aE.a5]
def jS(K:aW)(mg:bx)(O:a4)(H:av):D->V->Prop
 |.l xs,v=>∃a ys,v=.ref a/\((gS H a (.l ys)/\a∉O.bO)\/zo K a ys)/\a' K mg O H xs ys|d,v=>Rep K mg O H d v
def lj(K:aW)(mg:bx)(O:a4)(H:av):List D->List V->Prop
 |[],ys=>ys=[]|x::xs,ys=>∃y r,ys=y::r/\jS K mg O H x y/\lj K mg O H xs r
section
variable{K:aW}{mg:bx}{O:a4}{H:av}{S:b1}
def jS.rep{v:V}(rh:jE O)(h:Rep K mg O H d v):jS K mg O H d v:=by
 cases d with
 |l xs=>obtain⟨a,ys,e,l,r⟩:=h;exact⟨a,ys,e,.inl ⟨.inl l.1,rh.no l.2 (by intro z;cases z)⟩,r⟩
 |_=>exact h
def EB{r:R}{v:V}(rh:jE O)(aC:r.jR=true)(h:d6 K mg O H r v):jS K mg O H r.arg v:=by
 cases r with
 |v d=>exact jS.rep rh h| fr xs=>obtain⟨a,ys,e,l,t,r⟩:=h;exact⟨a,ys,e,.inl ⟨.inl l,rh.no t (by intro z;cases z)⟩,r⟩
 |bF _=>cases aC
 |mv _=>cases aC
theorem EC(rh:jE O):∀{rs:List R}{c:List V},rs.all R.jR=true->hX K mg O H rs c->lj K mg O H (rs.map R.arg) c
 |[],_,_,h=>h|_::_,_,aC,h=>by
  rw[ahW,afG]at aC;obtain⟨y,r,q,a,b⟩:=h;exact⟨y,r,q,EB rh aC.1 a,EC rh aC.2 b⟩
def jS.r{v:V}(h:jS K mg O H d v):tE K mg O H d v:=by
 cases d with
 |l xs=>obtain⟨a,ys,e,l,r⟩:=h;exact⟨a,ys,e,l.imp (·.1) id,r⟩
 |_=>exact h
theorem lj.r:∀{ds:List D}{c:List V},lj K mg O H ds c->lh K mg O H ds c
 |[],_,h=>h| _::_,_,h=>by obtain⟨y,r,q,a,b⟩:=h;exact⟨y,r,q,a.r,lj.r b⟩
theorem lj.get:∀{ds:List D}{xs:List V}{i:Nat}{d:D},lj K mg O H ds xs->ds[i]? = some d->∃x,xs[i]? = some x/\jS K mg O H d x
 |[],_,_,_,_,e=>by simp at e| _::_,_,0,d,h,e=>by obtain⟨x,r,rfl,a,_⟩:=h;cases(show some _=some d from e);exact⟨x,rfl,a⟩
 |_::ds,_,i+1,d,h,e=>by
  obtain⟨x,r,rfl,_,b⟩:=h;obtain⟨y,ao,aG⟩:=lj.get b e;exact⟨y,by simpa using ao,aG⟩
def lW(K:aW)(mg:bx)(mf:e8):iM:=λd H Q _=>∃O ds r S c,c4 O H/\fw K mg O H S/\O.bO.length=S.length/\lj K mg O H ds d/\(mf ds).run S=.ok r c/\
 ∀b v a,e6 O b H a->c4 b a->fw K mg b a c->b.bO.length=c.length->d6 K mg b a r v->ip H r v->Q v a
def ZH{ps N:List Str}{ds:List D}(j:c4 O H)(de:fw K mg O H S)(h:O.bO.length=S.length)(c:lj K mg O H ds vs)(k:ds.length=ps.length):dA K mg (en O) (ds.map c3++af0 (N.length-ps.length) .emp) S (aE.start N vs) H:=by
 refine⟨Dw j de c.r k,h,λi xs e=>?_⟩;refine cc λb=>?_
 by_cases hi:i<ds.length
 .rw[afk (by rw[sg];exact hi),afh]at e
  cases o:ds[i]? with
  |none=>refine b ?_;rw[o]at e;cases e
  |some d=>
   rw[o]at e;obtain⟨v,f,g⟩:=c.get o
   cases d with
   |l m=>
    cases e;obtain⟨a,ys,rfl,l,r⟩:=g;refine b ⟨a,ys,?_,l.imp (λz=>⟨z.1,mB O a,z.2⟩) id,r.dc (nJ O)⟩;unfold aE.start;rw[afk (by rw[sg];exact(fk.mp f).1),afh,f];rfl
   |_=>cases e
 .rw[afn (by rw[sg];omega),agH]at e
  split at e
  .cases e
  .cases e
def Pq{I:b8}{Q:cC}{S1:b1}{r:R}(D:c4 O H)(Y:dA K mg (en O) U S J H)(N:(I U).run S=.ok C S1)(h:zk C r)(q:∀c v f,e6 O c H f->c4 c f->fw K mg c f S1->c.bO.length=S1.length->d6 K mg c f r v->ip H r v->Q v f):ni K mg I { a6:=fun _ f=>Q .aF f,b0:=Q } J H:=by
 have back:∀{c:a4}{f:av},f7 (en O) c H f->c4 c f->∃k:a4,e6 O k H f/\c4 k f/\md c k/\∀b,(c b=.dP\/∃i,c b=.loc i)->H b=none/\k b=.dP:=λ{c f} g d=>by
  have E:∀b,H b≠none->(match H b with|some _=>O b|none=>(match c b with|.loc _=>.dP|o=>o))=O b:=λb j=>by
   cases e:H b with
   |none=>exact absurd e j|some o=>rfl
  have A:∀b,H b=none->(match H b with|some _=>O b|none=>(match c b with|.loc _=>.dP|o=>o))=(match c b with|.loc _=>Own.dP|o=>o):=λb j=>by rw[j]
  refine⟨⟨λb=>match H b with|some _=>O b|none=>(match c b with|.loc _=>.dP|o=>o),c.bO⟩,⟨λb o e h n=>g.cells b o e (h.imp (λz=>⟨mB O b,z⟩) id) n,E,g.has,g.cO,g.bt,g.bO,g.new⟩,⟨λb j=>?_,d.tabs,d.rh.1,λb m=>?_⟩,⟨λb j=>?_,rfl⟩,λb j=>?_⟩
  .cases e:H b with
   |some o=>exact g.has b (iJ e)|none=>
    refine d.has b λz=>j ?_
    refine(A b e).trans ?_;rw[z]
  .rcases g.new b m with z|z
   .exact(E b (D.has b (by rw[D.rh.2 b z];intro z;cases z))).trans (D.rh.2 b z)
   .refine(A b z).trans ?_
    rw[d.rh.2 b m]
  .cases e:H b with
   |some o=>exact(E b (iJ e)).trans (o1.mp ((g.own b (iJ e) (mB O b)).symm.trans j))|none=>
    refine(A b e).trans ?_;rw[j]
  .have s:H b=none:=by
    cases e:H b with
    |none=>rfl|some o=>
     exfalso;have bJ:=g.own b (iJ e) (mB O b);rcases mB O b with z|z<;>rw[z]at bJ<;>rcases j with w|⟨i,w⟩<;>rw[bJ]at w<;>cases w
   refine⟨s,(A b s).trans ?_⟩;rcases j with w|⟨i,w⟩<;>rw[w]
 refine⟨en O,_,S,C,S1,Y,N,?_⟩
 cases C with
 |a6 U'=>
  cases h;intro c Z f g B;obtain⟨k,y,x,p,_⟩:=back g B.s3.cp;exact q k .aF f y x (B.s3.gy.all (λ_ _ z=>Rep.dc p z) p.bO λ_ _ _ l _=>l) (by rw[p.bO];exact B.full) rfl trivial
 |bk U'=>cases h
 |cM U'=>cases h
 |b0 P=>
  intro c v f g d M L u;obtain⟨k,y,x,p,W⟩:=back g d;have G:=M.all (λ_ _ z=>Rep.dc p z) p.bO λ_ _ _ l _=>l
  have F:k.bO.length=S1.length:=by rw[p.bO];exact L
  cases P with
  |v dd=>cases h;exact q k v f y x G F (Rep.dc p u) trivial
  |fr xs=>
   cases h;obtain⟨a,ys,rfl,l,t,X⟩:=u;obtain⟨s,T⟩:=W a t;exact q k _ f y x G F ⟨a,ys,rfl,l,T,X.dc p⟩ λb V=>by cases V;exact s
  |bF xs=>exact afU u|mv xs=>exact afU u
theorem Pr{ps N:List Str}(l:lW K mg (fnX ps.length N.length o) vs H Q E):ni K mg o { a6:=λ_ d=>Q .aF d,b0:=Q } (aE.start N vs) H:=by
 refine cc λf=>?_
 obtain⟨O,ds,r,S,i,b,de,e,k,h,q⟩:=l;have c:=H2 h;unfold fnX at h;rw[if_pos c]at h;obtain⟨a,S1,g,h⟩:=aY.N.inv h;obtain⟨m,rfl⟩:zk a r/\S1=i:=by cases a with|b0 j=>cases j<;>cases h<;>exact⟨rfl,rfl⟩|_=>cases h<;>exact⟨rfl,rfl⟩
 exact f (Pq b (ZH b de e k c) g m q)
end
section
variable{P:afA}{w:World}{K:aW}{mg:bx}{base:Heap}{x m qual:Str}{st:Stmt}{ps N:List Str}{k:Nat}{cZ:b8}{n nl:Nat}{f:Addr}{fd:agg}
def H3(F:lp K x qual st f fd)(b:jA N ps (eo st))(e:ps.length=n)(j:N.length=nl)
  (d:∀(a:Value)(A:afI)(outer:List Env)(s:afa)(H:av)(E:f_),c6 k (A.deeper (agt qual (eo st) s.heap.objs.size f a))->
   jc (ix fi P w K mg base N qual (eo st) f a A outer s H E).h_ (hA st) cZ):f6 P w K mg base fi (k+1) f fd ps (lW K mg (fnX n nl cZ)):=by
 subst e j;exact F.ok b (λl H Q E ⟨O,ds,r,S,t,u,de,p,g,h,q⟩=>g.r.len.trans (H2 h)) λa A outer s H l Q E c i=>⟨_,(d a A outer s H E c).un,Pr i⟩
theorem RW(iL:iL K mg x st ps)(c:jA N ps (eo st))(e:ps.length=n)(g:N.length=nl)
  (d:∀(f:Addr)(a:Value)(A:afI)(outer:List Env)(s:afa)(H:av)(E:f_),c6 k (A.deeper (agt x (eo st) s.heap.objs.size f a))->
   jc (ix fi P w K mg base N x (eo st) f a A outer s H E).h_ (hA st) cZ):gC P w K mg base x ps (k+1) (lW K mg (fnX n nl cZ)):=by
 obtain⟨f,fd,F,b,m⟩:=iL.ex;exact⟨f,fd,H3 F c e g (λa=>d f a),b,F.kp,m⟩
end
section
variable{X:aR}{x:Str}{ps:List Str}{k:Nat}{mf:e8}{sT:bV}{p pos:Pos}{e:Expr}{aw:List Expr}{ms:h1}{pm:cJ}{ze:dG}
def acb:jG X [] wg:=⟨og yx λc H Q a=>by
 obtain⟨O,U,S,r,b,st,h,q⟩:=a;cases h;exact q O [] H (Go.refl _ _).dN st rfl trivial⟩
theorem jW.dN{O b:a4}(g:e6 O b H H'):∀{rs:List R}{a:List V},jW H' rs a->jW H rs a
 |[],_,_=>trivial|_::_,[],_=>trivial|_::_,_::_,h=>⟨h.1.dN g,jW.dN g h.2⟩
theorem ab9(t:ek X e ze)(g:jG X aw ms)(aC:fm X e aw:=by rfl):jG X (e::aw) (l5 ze ms):=⟨og (sR t.un g.un aC) λB H Q j=>by
 obtain⟨O,U,S,r,A,st,h,q⟩:=j;obtain⟨x,S1,n,h⟩:=N.inv h;obtain⟨xs,D,s,h⟩:=N.inv h;split at h
 .rename_i y
  cases h;refine⟨O,U,S,x,S1,st,n,λi b z c a m a6=>?_⟩;exact⟨i,U,S1,xs,_,a,s,λu f l d w rs ns=>q u (b::f) l (c.trans d) w ⟨b,f,rfl,m.dN d a.s3.cp.rh y,rs⟩ ⟨a6,ns.dN c⟩⟩
 .cases h⟩
theorem aca(t:ek X e ze)(i:fQ X aw pm)(aC:fm X e aw:=by rfl):jG X (e::aw) (y8 ze pm):=⟨og (sR t.un i.un aC) λA H Q l=>by
 obtain⟨O,U,S,r,z,st,h,q⟩:=l;obtain⟨x,S1,s,h⟩:=N.inv h;obtain⟨xs,B,c,h⟩:=N.inv h;cases h;obtain rfl:=(pm U).dO _ _ _ c;refine⟨O,U,S,x,_,st,s,λj d y f b n a6=>?_⟩;exact⟨j,U,_,xs,_,b.s3,c,λu g m a w rs ns=>q u (d::g) m (f.trans a.dN) (b.go a w.cp) ⟨d,g,rfl,n.go a,rs⟩ ⟨a6,ns.dN f⟩⟩⟩
def PF:∀b H Q,wm K mg (eB mf ms) b H Q->yW (lW K mg mf) (Ni K mg ms) b H Q:=by
 rintro b H Q ⟨O,U,S,r,m,st,h,q⟩;obtain⟨rs,S1,j,h⟩:=N.inv h;split at h
 .rename_i w
  refine⟨O,U,S,rs,S1,st,j,λi z y c a t nn=>?_⟩;exact⟨i,_,r,S1,m,a.s3.cp,a.s3.gy,a.full,EC a.s3.cp.rh w t,h,λl v f g d de s n u=>q l v f (c.trans g) (a.dN g d de s) n (u.dN c)⟩
 .cases h
def aci(h:gC X.prog X.w X.K X.mg X.base x ps k (lW X.K X.mg mf))(a:c6 k X.A)(c:d5 X x)(b:jG X (e::aw) ms)(d:eT x:=by decide)
  (he:fm X e aw:=by rfl) (f:gF X pos aw:=by rfl):ek X (.Call (.Name x p) (e::aw) [] pos) (eB mf ms):=
 ⟨es (yy h a c b.un d he f) PF⟩
def acq(h:gC X.prog X.w X.K X.mg X.base x ps k (i3 X.K X.mg sT))(f:c6 k X.A)(t:d5 X x)(s:jG X (e::aw) ms)(z:eT x:=by decide)
  (he:fm X e aw:=by rfl) (B:gF X pos aw:=by rfl):ek X (.Call (.Name x p) (e::aw) [] pos) (y' sT ms):=
 ⟨es (yy h f t s.un z he B) λF H Q j=>by
  obtain⟨O,U,S,r,n,st,h,q⟩:=j;obtain⟨rs,S1,l,h⟩:=N.inv h;refine⟨O,U,S,rs,S1,st,l,λi G E b a y nn=>?_⟩;obtain rfl:=(sT _).dO _ _ _ h;exact⟨i,_,r,n,a.s3.cp,a.s3.gy,zM y,h,λm v c g d u D=>q m v c (b.trans g.dN) (a.go g d) u (D.dN b)⟩⟩
end
end aY
namespace aY
open PySem PySem.Spec aE
def Dm(x:R)(o:fP):N Unit:=match x with
 |.v (.ref n)=>⟨λS=>.ok () (S.set n o)⟩
 |_=>fc
def dE(f:List D->List R->M (R×List D))(mo:br)(ms:cJ):b8:=λU=>do
 let x <-(mo U).up
 let rs <-(ms U).up
 let o <-(gx x).up
 match o with
 |.l xs=>do
  let p <-(f xs rs).up
  Dm x (.l p.2)
  pure (.a6 U)
 |_=>fc
def ih(m:dG):dG:=λU=>do
 let r <-m U
 match r with
 |.fr xs=>do
  let S <-AZ
  putN (S++[.l xs])
  pure (.v (.ref S.length))
 |_=>fc
variable[aE.a5]
def hL(O:a4)(p:Addr):a4:=⟨λb=>if b=p then .out else O b,O.bO++[p]⟩
section
variable{K:aW}{mg:bx}{O:a4}{H H':av}{S ak:b1}{U:aN}{aq:St}{p a:Addr}{o:fP}{n:Nat}{u u':fL}
omit [aE.a5]in
theorem ob(h:b≠p):hL O p b=O b:=if_neg h
omit [aE.a5]in
theorem WD:hL O p p=.out:=if_pos rfl
theorem Kx(c:c4 O H)(d:p∉O.bO):jE (hL O p):=⟨aiK.mpr ⟨c.rh.1,by simp,λx b y f=>by rintro rfl;rw[afj.mp f]at b;exact d b⟩,λa m=>by
 by_cases e:a=p
 .rw[e];exact WD
 .rw[ob e];exact c.rh.2 a ((afZ.mp m).elim id λz=>absurd (afj.mp z) e)⟩
def c4.WO(b:c4 O H)(c:H p=none):p∉O.bO:=λm=>b.has p (by rw[b.rh.2 p m];intro z;cases z) c
theorem alloc(i:c4 O H)(de:fw K mg O H S)(q:O.bO.length=S.length)(k:H p=none)(c:ec H H')(w:H' p≠none)(cq:(∀d v,Rep K mg O H d v->Rep K mg (hL O p) H' d v)->nz K mg (hL O p) H' p o) :
  e6 O (hL O p) H H'/\c4 (hL O p) H'/\fw K mg (hL O p) H' (S++[o])/\(hL O p).bO.length=(S++[o]).length:=by
 have g:e6 O (hL O p) H H':=⟨λb o e _ n=>c.at' b o e n,λb j=>ob (by rintro rfl;exact j k),λ_ h=>c.some h,c.cO,c.bt,aiB _ _,λb m=>(afZ.mp m).imp id λz=>by rw[afj.mp z];exact k⟩;have f:∀d v,Rep K mg O H d v->Rep K mg (hL O p) H' d v:=λ_ _ z=>Rep.dN g i.rh z
 refine⟨g,⟨λb j=>?_,c.bt i.tabs,Kx i (i.WO k)⟩,λn o' e=>?_,by rw[afb,<-q];exact afb⟩
 .by_cases e:b=p
  .rw[e];exact w
  .rw[ob e]at j;exact c.some (i.has b j)
 .by_cases r:n<S.length
  .rw[afk r]at e
   obtain⟨a,s,t⟩:=de n o' e;exact⟨a,by show(O.bO++[p])[n]? = _;rw[afk (by rw[q];exact r)];exact s,t.all f λu l n=>c.at' _ _ l n⟩
  .rw[afn (by omega)]at e
   obtain rfl:n=S.length:=by
    have:=(fk.mp e).1;simp at this;omega
   rw[afY]at e;cases e;exact⟨p,by show(O.bO++[p])[S.length]? = _;rw[<-q,afn (ae9 _),afY];rfl,cq f⟩
def dA.write(st:dA K mg O U S aq H)(r:O.bO[n]? = some a)(c:H a=some u)(y:¬Fix u)(s:∀ps,u≠.fH ps)(w:∀q,u≠.ext (o3 a q))(cq:(∀d v,Rep K mg O H d v->Rep K mg O (upd H a u') d v)->nz K mg O (upd H a u') a o) :
  e6 O O H (upd H a u')/\dA K mg O U (S.set n o) aq (upd H a u'):=by
 have bt:TabsOk H->TabsOk (upd H a u'):=λt=>t.put u' (λps z=>s ps (afy (c.symm.trans z))) (λq z=>w q (afy (c.symm.trans z)))
 have has:∀b,H b≠none->upd H a u' b≠none:=λb i=>by
  by_cases e:b=a
  .rw[e,dT];intro z;cases z
  .rw[da e];exact i
 have g:e6 O O H (upd H a u'):=by
  refine⟨λb o e h _=>?_,λ_ _=>rfl,has,λb ps e=>⟨ps,?_⟩,bt,ai7 _,λ_ m=>.inl m⟩
  .rw[da]
   .exact e
   .rintro rfl
    rcases h with h|h
    .exact h (km r)
    .rw[c]at e;cases e;exact y h
  .rw[da]
   .exact e
   .rintro rfl;rw[c]at e;cases e;exact s _ rfl
 have f:∀d v,Rep K mg O H d v->Rep K mg O (upd H a u') d v:=λ_ _ z=>Rep.dN g st.s3.cp.rh z
 refine⟨g,st.dN g ⟨λb i=>has b (st.s3.cp.has b i),bt st.s3.cp.tabs,st.s3.cp.rh⟩ (λk o' e=>?_) (by rw[af6];exact st.full)⟩
 by_cases j:n=k
 .subst j
  rw[afB (by have:=(fk.mp e).1;rwa[af6]at this)]at e;cases e;exact⟨a,r,cq f⟩
 .rw[afu j]at e
  obtain⟨b,ao,aG⟩:=st.s3.gy k o' e;refine⟨b,ao,aG.all f λu l _=>?_⟩;rw[da]
  .exact l
  .rintro rfl
   obtain⟨bJ,cR⟩:=fk.mp ao;obtain⟨A,x⟩:=fk.mp r;exact j ((List.getElem_inj st.s3.cp.rh.1).mp (x.trans cR.symm))
def sO{r:R}{v:V}(st:cu K mg O U S aq H)(f:d6 K mg O H r v)(h:(gx r).run S=.ok o ak):∃n a,r=.v (.ref n)/\v=.ref a/\O.bO[n]? = some a/\S[n]? = some o/\nz K mg O H a o:=by
 refine cc λg=>?_
 obtain⟨n,rfl,e,rfl⟩:=KI h;obtain⟨a,d,j⟩:=st.gy n o e;obtain⟨b,i,c⟩:=f;rw[d]at c;cases c;exact g ⟨n,a,rfl,i,d,e,j⟩
end
end aY
namespace aY
open PySem PySem.Spec aE PyProof.Rows
@[reducible] def Ji:ajx where
 α:=Int
 blt a b:=decide (a<b)
 irrefl a:=by simp
 trans a b c o C:=by simp only[decide_eq_true_eq]at *;omega
 negTrans a b c h:=by simp only[decide_eq_true_eq]at *;omega
 total a b o C:=by simp only[decide_eq_false_iff_not]at *;omega
 keyOf v:=match v with|.int i _=>some i|_=>none
 dflt:=0
def TO:Ji.OneLt:=by
 intro prog w A E s x y a b Q d c h;cases x<;>simp only[ reduceCtorEq]at d
 cases y<;>simp only[ reduceCtorEq]at c
 cases d;cases c;exact oneLt_int h
structure fu where
 κ:ajx
 a7:κ.α->D
 un:D->Option κ.α
structure fu.Ok(Z:fu):Prop where
 one:Z.κ.OneLt
 rd:∀d a,Z.un d=some a->d=Z.a7 a
 key:∀(a:Z.κ.α)(K:aW)(mg:bx)(O:a4)(H:av)(v:V)(u:Value),Rep K mg O H (Z.a7 a) v->RelV v u->Z.κ.keyOf u=some a
 kind:∀(rg ri:Value)(vs:List Value),(∀v∈rg::ri::vs,∃a,Z.κ.keyOf v=some a)->keyKind' (rg::ri::vs).toArray=pure oneType'
@[reducible] def fo:fu where
 κ:=Ji
 a7:=D.int
 un d:=match d with|.int i=>some i|_=>none
@[reducible] def jn:fu where
 κ:=ajy
 a7:=λl=>D.str ⟨l.toArray⟩
 un d:=match d with|.str x=>some x.cps.toList|_=>none
def JQ:fo.Ok where
 one:=TO
 rd:=λd a h=>by cases d<;>first|(cases h;rfl)|cases h
 key:=λa K mg O H v u h r=>by
  cases(show v=.int a from h);obtain⟨t,rfl⟩:=r;rfl
 kind:=λe f g h=>by
  refine keyKind_ints (intsAre_map _ λv b=>?_);obtain⟨a,c⟩:=h v b;cases v<;>first|(exact⟨_,_,rfl⟩)|cases c
def JR:jn.Ok where
 one:=strKind_oneLt
 rd:=λd a h=>by cases d<;>first|(cases h;rfl)|cases h
 key:=λa K mg O H v u h r=>by
  cases(show v=.str ⟨a.toArray⟩from h);obtain⟨t,rfl⟩:=r;rfl
 kind:=λf g i h=>by
  have key:∀(l:List Value),(∀v∈l,∃a,ajy.keyOf v=some a)->∃b,StrsAre l b:=λl=>by
   induction l with
   |nil=>exact λ_=>⟨[],.nil⟩
   |cons v l c=>
    intro h;obtain⟨b,aC⟩:=c λw hw=>h w (afl _ hw)
    obtain⟨a,e⟩:=h v afq;cases v<;>first|exact⟨_::b,.cons _ _ aC⟩|cases e
  obtain⟨b,aC⟩:=key _ h;exact keyKind_strs aC
section
variable{β:Type}
def sd(blt:β->β->Bool)(p:β×D):List (β×D)->List (β×D)
 |[]=>[p]
 |q::r=>if blt q.1 p.1 then q::sd blt p r else p::q::r
def ht(blt:β->β->Bool):List (β×D)->List (β×D)
 |[]=>[]
 |p::r=>sd blt p (ht blt r)
theorem BB(blt:β->β->Bool)(p:β×D):∀l,(sd blt p l).Perm (p::l)
 |[]=>.refl _|q::r=>by
  unfold sd;split
  .exact((BB blt p r).cons q).trans (.swap p q r)
  .exact .refl _
theorem yK(blt:β->β->Bool):∀l,(ht blt l).Perm l
 |[]=>.refl _|p::r=>(BB blt p _).trans ((yK blt r).cons p)
end
theorem Jg(O:agu)(p:O.α×D):∀l:List (O.α×D),l.Pairwise (λa b=>O.blt a.1 b.1=true)->(∀q∈l,q.1≠p.1)->(sd O.blt p l).Pairwise (λa b=>O.blt a.1 b.1=true)
 |[],_,_=>ahN _ _|q::r,h,o=>by
  rw[agh]at h;unfold sd
  cases e:O.blt q.1 p.1 with
  |true=>
   rw[if_pos rfl,agh];refine⟨λx c=>?_,Jg O p r h.2 λx c=>o x (afl _ c)⟩;rcases afz.mp ((BB O.blt p r).mem_iff.mp c)with rfl|c
   .exact e
   .exact h.1 x c
  |false=>
   rw[if_neg afc,agh,agh];have d:O.blt p.1 q.1=true:=by
    cases aG:O.blt p.1 q.1 with
    |true=>rfl|false=>exact absurd (O.total _ _ e aG) (o q afq)
   refine⟨λx c=>?_,h.1,h.2⟩;rcases afz.mp c with rfl|c
   .exact d
   .exact O.trans _ _ _ d (h.1 x c)
theorem Dr(O:agu):∀l:List (O.α×D),(l.map (·.1)).Nodup->(ht O.blt l).Pairwise (λa b=>O.blt a.1 b.1=true)
 |[],_=>.nil|p::r,h=>by
  rw[aft,ags]at h;refine Jg O p _ (Dr O r h.2) λq c e=>h.1 ?_
  rw[<-e];exact ahy ((yK O.blt r).mem_iff.mp c)
theorem LS{g:Type}{lt:g->g->Prop}(i:∀a,¬lt a a)(ky:∀a b c,lt a b->lt b c->lt a c):∀{f d:List g},f.Perm d->f.Pairwise lt->d.Pairwise lt->f=d
 |[],d,p,_,_=>(List.nil_perm.mp p).symm|a::f,[],p,_,_=>(List.nil_perm.mp p.symm)
 |a::f,b::d,p,o,C=>by
  rw[agh]at o C;have e:a=b:=by
   rcases afz.mp (p.mem_iff.mp afq)with h|h
   .exact h
   .rcases afz.mp (p.mem_iff.mpr afq)with h'|h'
    .exact h'.symm
    .exact(i _ (ky _ _ _ (o.1 b h') (C.1 a h))).elim
  subst e;rw[LS i ky (List.Perm.cons_inv p) o.2 C.2]
def Ds(O:agu){l ps:List (O.α×D)}(e:(l.map (·.1)).Nodup)(d:ps.Perm l)(aC:ps.Pairwise (λa b=>O.blt a.1 b.1=true)):ps=ht O.blt l:=
 LS (lt:=λa b=>O.blt a.1 b.1=true) (λa=>by rw[O.irrefl];exact afc) (λa b c=>O.trans _ _ _) (d.trans (yK O.blt l).symm) aC (Dr O l e)
def ZL(O:agu){ps:List (O.α×D)}(c:(ps.map (·.1)).Nodup)(h:ps.Pairwise (λa b=>O.blt b.1 a.1=false)):ps.Pairwise (λa b=>O.blt a.1 b.1=true):=by
 induction ps with
 |nil=>exact .nil|cons p r g=>
  rw[aft,ags]at c;rw[agh]at h ⊢;refine⟨λq d=>?_,g c.2 h.2⟩
  cases e:O.blt p.1 q.1 with
  |true=>rfl| false=>exact absurd (ahy (f:=λx:O.α×D=>x.1) d) (by rw[<-O.total _ _ e (h.1 q d)];exact c.1)
end aY
namespace aY
open PySem PySem.Spec aE PyProof.Rows
variable[aE.a5]
def nv(X:aR)(k:Nat)(f:Addr)(G:av->Prop)(mf:bV):Prop:=
 (∀H a,ec H a->G H->G a)/\(∀H p b o,H p=some (.l b)->G H->G (upd H p o))/\∀(A:afI)(s:afa)(H:av)(u:Value)(v:V)(Q:cC),c6 k A->nt X.prog X.w X.K X.mg X.base A X.stack s H->G H->RelV v u->i3 X.K X.mg mf [v] H Q jz->
  ah2 (model X.prog X.w) A (.call (.ref f) ⟨[u],[]⟩) (D_ fi X.stack X.prog X.w H s Q jz) s
def lstP(a:Addr)(e:Nat):Heap->Prop:=λh=>h.get? a=some (af5 "list" #[] e)
structure p6(X:aR)(ah:cS)(U:aE.St)(G:av->Prop)(O:a4)(H:av)(a dz:Addr)(ao:Nat)(eW:List D)(s':afa):Prop where
 ex:∃aj H' ys,Inv X ah U H' s'/\Go O aj H H'/\c4 aj H'/\G H'/\H' a=some (.ext (lstP a ao))/\H' dz=some (.l ys)/\a' X.K X.mg aj H' eW ys/\aj dz=.dP
 na:a∉O.bO
section
variable{X:aR}{ah:cS}{U:aE.St}{H:av}{s:afa}{G:av->Prop}{mf:bV}{f a dz:Addr}{k:Nat}{O:a4}{ao:Nat}
def U1{h:Heap}(e:h.get? a=some (af5 "list" #[] ao)):hU prog w H h a (.ext (lstP a ao)):=
 ⟨e,⟨_,e⟩,λb c p q=>q _ p⟩
def HV{b:av}(J:Inv X ah U b s')(d:b a=some (.ext (lstP a ao)))(q:Str):b a≠some (.ext (o3 a q)):=λz=>by
 obtain⟨p,_⟩:=J.cf a _ d;obtain⟨e,_⟩:=J.cf a _ z;obtain⟨c,o,g,t,ao,aG,cI,_⟩:=e;cases ao;rw[p]at aG;cases aG;cases cI
def Uu{eW:List D}{v:V}(E:nv X k f G mf)(M:c6 k X.A.in1.in1)(lG:H a=none)(lH:H dz=none)(nZ:dz≠a)(fe:Rep X.K X.mg O H d v)(J:RelV v u)(hd:(mf [d]).run []=.ok (.v o) [])(r9:eW.length<64)(S:p6 X ah U G O H a dz ao eW s') :
  wpAny (model X.prog X.w) X.A.in1.in1 (call (.ref f) [u]) (λu' L=>∃(c:a4)(b:av)(ys:List V)(i:V),Inv X ah U b L/\Go O c H b/\c4 c b/\G b/\b a=some (.ext (lstP a ao))/\b dz=some (.l ys)/\a' X.K X.mg c b eW ys/\Rep X.K X.mg c b o i/\RelV i u'/\c dz=.dP) (λ_ _=>False) s':=by
 refine cc λh=>?_
 obtain⟨t,p,ys,B,F,hb,I,P,y,ra,oe⟩:=S.ex;refine h ?_;refine wpAny_call (ahE (E.2.2 X.A.in1.in1 s' p u v (λi b=>∃c,Go t c p b/\c4 c b/\Rep X.K X.mg c b o i) M B.AI.in1.in1 I J ?_) λr L m=>?_)
 .refine⟨t,[d],.v o,[],hb,fw.nil,⟨v,[],rfl,?_,rfl⟩,hd,λc i b g C Y _=>⟨c,g,C,Y⟩⟩
  have n:=fe.go F;cases d<;>first|exact n|exact afU n|skip
  refine cc λh=>?_
  obtain⟨x,zs,q,l,r⟩:=n;exact h ⟨x,zs,q,l.cN,r⟩
 .refine cc λh=>?_
  cases r with
  |error e=>exact h (afU m)|ok W=>
   cases W with
   |ret u'=>
    obtain⟨i,N,Z,R,T,j,dV,Q⟩:=B.after m;exact h ⟨T,N,ys,i,Z,F.trans j,dV,E.1 _ _ j.same I,j.same.at' _ _ P,j.same.at' _ _ y,ra.go j,Q,R,(j.own dz (by rw[y];intro z;cases z)).trans oe⟩
   |next=>exact h (afU m)
   |brk=>exact h (afU m)|cont=>exact h (afU m)
def Zx{Z:fu}(jL:Z.Ok){ds:List D}{g:List Z.κ.α}{xs:List V}{B:List Value}{P:Fin->afa->Prop}{E:dm}(J:nv X k f G mf)(aA:c6 k X.A.in1.in1)(lG:H a=none)(lH:H dz=none)(nZ:dz≠a)
  (ra:a' X.K X.mg O H ds xs) (W:Vals xs B) (r9:∀(i:Nat)(d:D),ds[i]? = some d->∃κ,g[i]? = some κ/\(mf [d]).run []=.ok (.v (Z.a7 κ)) []) (hlen:g.length=ds.length) (j8:ds.length<64) (S:p6 X ah U G O H a dz ao [] s)
  (fin:∀(x:afa)(keys:Array Value),p6 X ah U G O H a dz ao (g.map Z.a7) x->keys.toList.map Z.κ.keyOf=g.map some->wpAny (model X.prog X.w) X.A.in1.in1 (ksk_end a false B.toArray ao (.ref dz) keys) P E x) :
  wpAny (model X.prog X.w) X.A.in1.in1 (ksk_rest a (.ref f) false B.toArray ao (.ref dz)) P E s:=by
 have aeL:=ra.len;have u1:=W.length;refine B1 (wpAny_rule ?_)
 first
  |rw[List.forIn_toArray]
  |(rw[<-ahH])
  |rw[<-ahH]
 refine B1 (ksk_fold (λi x=>p6 X ah U G O H a dz ao ((g.take i).map Z.a7) x) B 0 s S ?step ?done)
 case step=>
  intro j u x Y q;simp only[agy]at q ⊢;have aU:=(fk.mp Y).1;obtain⟨v,F,dJ⟩:∃v,xs[j]? = some v/\RelV v u:=by
   have F:xs[j]? = some xs[j]:=afi (by omega);obtain⟨u',uL,r⟩:=W.get F;rw[Y]at uL;cases uL;exact⟨_,F,r⟩
  obtain⟨d,hd,fe⟩:=ra.Ip F;obtain⟨κ,TC,hm⟩:=r9 j d hd;have hz:((g.take j).map Z.a7).length<64:=by rw[sg,afO];omega
  refine B1 (wpAny_attempt (afX (Uu J aA lG lH nZ fe dJ hm hz q) (λu' s2 he=>?_) λ_ _ nX=>nX.elim));obtain⟨R,Q,ys,ff,I,L,C,zl,uC,p,N,YX,Y4,T⟩:=he;obtain⟨hsz,c,n,m,M⟩:=I.cf dz _ p;have mT:c.length=(g.take j).length:=by rw[<-m.length,N.len,sg]
  have aeB:c.length<64:=by rw[mT,afO];omega
  obtain⟨aa,ho⟩:∃aa,(s2.heap.update dz (afD (·.push u'))).get? dz=some (af5 "list" (c.toArray.push u') aa):=⟨_,agP M (·.push u')⟩;refine B1 (ag8 M rfl ?_ (by rw[afd,afM];omega) (af7 (aif (Array.size_push ..)) (by rw[afd,afM];omega)));refine afm ⟨rfl,⟨⟨R,upd Q dz (.l (ys++[ff])),ys++[ff],?_,⟨vW lH L.same p _,L.own,L.bO⟩,C.eA p,J.2.1 _ _ _ _ p zl,by rw[da nZ.symm];exact uC,dT,?_,T⟩,q.na⟩⟩
  .refine I.write (by rw[p];trivial) (.inl rfl) (λb o ag e=>((agv s2.heap dz (afD (·.push u'))).2 b ag).trans e) ⟨_,ho⟩ ⟨?_,c++[u'],aa,m.append (.cons Y4 .nil),?_⟩
   .rw[afb,m.length];rw[afM];simp;omega
   .rw[ho];simp
  .have uo:g.take (j+1)=g.take j++[κ]:=by rw[List.take_add_one,TC];rfl
   rw[uo,afo];exact(N.append (.one YX)).eA (by rw[T];intro z;cases z) p
 case done=>
  intro x q;have cI:g.take (0+B.length)=g:=agd (by omega);rw[cI]at q;obtain⟨R,Q,ys,I,L,C,zl,uC,p,N,T⟩:=id q.ex;obtain⟨hsz,c,n,m,M⟩:=I.cf dz _ p;refine B1 (listItems_at M rfl ?_);refine fin x c.toArray q ?_;have key:∀(g:List Z.κ.α)(ys:List V)(c:List Value),a' X.K X.mg R Q (g.map Z.a7) ys->Vals ys c->c.map Z.κ.keyOf=g.map some:=by
   intro g
   induction g with
   |nil=>intro ys c h r;cases h;cases r;rfl
   |cons κ g a9=>
    intro ys c h r;obtain⟨y,t,rfl,ae,af⟩:=h
    cases r with
    |cons bI b6=>
     rw[aft,aft,a9 _ _ af b6,jL.key κ _ _ _ _ _ _ ae bI]
  exact key _ _ _ N m
end
end aY
namespace aY
open PySem PySem.Spec aE PyProof.Rows
def X9{α b:Type}(f:α->b):∀{L M:List b},L.Perm M->∀{Q:List α},M=Q.map f->∃a:List α,a.Perm Q/\L=a.map f:=by
 intro L M h
 induction h with
 |nil=>
  intro Q e
  cases Q with
  |nil=>exact⟨[],.refl _,rfl⟩|cons q Q=>cases e
 |cons x _ d=>
  intro Q e
  cases Q with
  |nil=>cases e
  |cons q Q=>
   rw[aft]at e;injection e with ao aG
   obtain⟨a,p,cI⟩:=d aG;exact⟨q::a,p.cons q,by rw[ao,cI];rfl⟩
 |swap x y l=>
  intro Q e
  cases Q with
  |nil=>cases e
  |cons q Q=>
   cases Q with
   |nil=>rw[aft]at e;injection e with _ aG;cases aG
   |cons r Q=>
    rw[aft,aft]at e;injection e with ao aG
    injection aG with aG cI
    exact⟨r::q::Q,.swap _ _ _,by rw[ao,aG,cI];rfl⟩
 |trans _ _ j k=>
  intro Q e;obtain⟨g,p1,ao⟩:=k e;obtain⟨c,i,aG⟩:=j ao;exact⟨c,i.trans p1,aG⟩
variable[aE.a5]
abbrev wH(Z:fu):=(Value×Value)×(Z.κ.α×(D×V))
section
variable{K:aW}{mg:bx}{O:a4}{H:av}{Z:fu}
def YI{ds:List D}:∀{xs:List V}{b keys:List Value}{a:List Z.κ.α},a' K mg O H ds xs->Vals xs b->keys.map Z.κ.keyOf=a.map some->a.length=ds.length->
  ∃Q:List (wH Z),Q.map (·.1)=keys.zip b/\Q.map (λq=>(q.2.1,q.2.2.1))=a.zip ds/\∀q∈Q,Z.κ.keyOf q.1.1=some q.2.1/\Rep K mg O H q.2.2.1 q.2.2.2/\RelV q.2.2.2 q.1.2:=by
 induction ds with
 |nil=>
  intro xs b keys a h r e l;cases h;cases r;rw[aji.mp l]at e ⊢;have:keys=[]:=by cases keys with|nil=>rfl|cons=>cases e
  subst this;exact⟨[],rfl,rfl,λ_ h=>(nomatch h)⟩
 |cons d ds g=>
  intro xs b keys a h r e l;refine cc λc=>?_
  obtain⟨x,t,rfl,i,j⟩:=h
  cases r with
  |@cons _ u _ b m k=>
   cases a with
   |nil=>cases l
   |cons κ a=>
    cases keys with
    |nil=>cases e
    |cons p keys=>
     rw[aft,aft]at e;injection e with ao aG
     obtain⟨Q,bJ,cR,n⟩:=g j k aG (by simpa using l);refine c ⟨((p,u),(κ,(d,x)))::Q,?_,?_,λq f=>?_⟩
     .rw[aft,bJ];rfl
     .rw[aft,cR];rfl
     .refine cc λc=>?_
      rcases afz.mp f with rfl|f
      .exact c ⟨ao,i,m⟩
      .exact c (n q f)
theorem LN{α:Type}(f:α->D)(g:α->V):∀l:List α,(∀q∈l,Rep K mg O H (f q) (g q))->a' K mg O H (l.map f) (l.map g)
 |[],_=>rfl|q::l,h=>⟨_,_,rfl,h q afq,LN f g l λx a=>h x (afl _ a)⟩
omit [aE.a5]in
theorem MT{α:Type}(f:α->V)(g:α->Value):∀l:List α,(∀q∈l,RelV (f q) (g q))->Vals (l.map f) (l.map g)
 |[],_=>.nil|q::l,h=>.cons (h q afq) (MT f g l λx a=>h x (afl _ a))
def sorted_out{ds:List D}{xs:List V}{x:List Value}{keys:Array Value}{f:List Z.κ.α}(N:a' K mg O H ds xs)(G:Vals xs x)(F:keys.toList.map Z.κ.keyOf=f.map some)(t:f.length=ds.length)(s:f.Nodup)
  {c:Array Keyed}(B:c.Perm (keys.zip x.toArray)) (aC:SortedToK Z.κ c c.size) :
  ∃ys,Vals ys (c.map (·.2)).toList/\ys.length=ds.length/\a' K mg O H ((ht Z.κ.blt (f.zip ds)).map (·.2)) ys:=by
 obtain⟨Q,bJ,cR,I⟩:=YI N G F t;have A:c.toList.Perm (Q.map (·.1)):=by
  rw[bJ,<-ksk_zip];exact Array.perm_iff_toList_perm.mp B
 obtain⟨d,n,k⟩:=X9 (λq:wH Z=>q.1) A rfl;have h:∀q∈d,Z.κ.keyOf q.1.1=some q.2.1/\Rep K mg O H q.2.2.1 q.2.2.2/\RelV q.2.2.2 q.1.2:=λq g=>I q (n.mem_iff.mp g)
 have w:(f.zip ds).map (·.1)=f:=by rw[List.map_fst_zip];omega
 have e:(d.map λq=>(q.2.1,q.2.2.1)).Perm (f.zip ds):=by rw[<-cR];exact n.map _
 have c2:((d.map λq:wH Z=>(q.2.1,q.2.2.1)).map (·.1)).Nodup:=by
  have:=e.map (λp:Z.κ.α×D=>p.1);rw[w]at this;exact this.nodup_iff.mpr s
 have y:(d.map λq:wH Z=>(q.2.1,q.2.2.1)).Pairwise (λa b=>Z.κ.blt b.1 a.1=false):=by
  rw[aiL,agW];intro i j hi E M;have r:c.toList.length=d.length:=by rw[k,sg]
  have L:i<c.size:=by rw[afN]at r;omega
  have u:j<c.size:=by rw[afN]at r;omega
  have:=aC i j (agw M) u;have at':∀(m:Nat)(l:m<d.length)(z:m<c.size),KK Z.κ c m=d[m].2.1:=λm l z=>by
   have ao:c[m]? = some d[m].1:=by
    have:c.toList[m]? = some d[m].1:=by rw[k,afh,afi l];rfl
    rwa[ah3]at this
   unfold KK;rw[ao];show(Z.κ.keyOf d[m].1.1).getD Z.κ.dflt=_;rw[(h _ (ai6 l)).1];rfl
  rw[at' i hi L,at' j E u]at this;exact this
 have one:=Ds Z.κ.toKeyOrd (by rw[w];exact s) e (ZL Z.κ.toKeyOrd c2 y);refine⟨d.map λq=>q.2.2.2,?_,?_,?_⟩
 .have:(c.map (·.2)).toList=d.map λq=>q.1.2:=by
   rw[Array.toList_map,k,ai8];rfl
  rw[this];exact MT _ _ _ λq g=>(h q g).2.2
 .rw[sg,n.length_eq]
  have:=congrArg agx cR;rw[sg,List.length_zip,t,Nat.min_self]at this;exact this
 .rw[<-one,ai8]
  exact LN _ _ _ λq g=>(h q g).2.1
end
section
variable{X:aR}{ah:cS}{U:aE.St}{H:av}{s:afa}{G:av->Prop}{a dz:Addr}{O:a4}{ao:Nat}{Z:fu}{ds:List D}{cY:List Z.κ.α}{xs:List V}{us:List Value}{E:dm}{keys:Array Value}
def zx(X:aR)(ah:cS)(U:aE.St)(O:a4)(H:av)(a:Addr)(out:List D)(d:afa):Prop:=
 ∃c b ys,Inv X ah U b d/\Go O c H b/\c4 c b/\b a=some (.l ys)/\c a=.dP/\a' X.K X.mg c b out ys
def Mm{A:afI}{st:SortSt}(B:H a=none)(lH:H dz=none)(Q:dz≠a)(ra:a' X.K X.mg O H ds xs)(bS:Vals xs us)(ay:keys.toList.map Z.κ.keyOf=cY.map some)(M:cY.length=ds.length)(az:cY.Nodup)(j8:ds.length<64)
  (S:p6 X ah U G O H a dz ao (cY.map Z.a7) s) (C:(arrOf st).Perm (keys.zip us.toArray)) (aC:SortedToK Z.κ (arrOf st) (arrOf st).size) (W:failedOf st=none) :
  wpAny (model X.prog X.w) A (ksk_tail a false ao (.ref dz) st) (λr s'=>r=.done (.ret .none)/\zx X ah U O H a ((ht Z.κ.blt (cY.zip ds)).map (·.2)) s') E s:=by
 refine cc λJ=>?_
 obtain⟨I,h,ae8,q,j,i,zl,T,k,sX,yv⟩:=S.ex;obtain⟨_,u,n,f,P⟩:=q.cf dz _ k;have Y:s.heap.get? a=some (af5 "list" #[] ao):=(q.cf a _ T).1;obtain⟨D,V,tC,tD⟩:=sorted_out ra bS ay M az C aC;have hsz:(arrOf st).size=ds.length:=by
  have ae:=V.length;have af:((arrOf st).map (·.2)).toList.length=(arrOf st).size:=by rw[afN,Array.size_map]
  omega
 have aeI:u.length=ds.length:=by rw[<-f.length,sX.len,sg,M]
 have R:=agv s.heap dz (afD λ_=>(#[]:Array Value));obtain⟨cX,F⟩:∃cX,(s.heap.update dz (afD λ_=>(#[]:Array Value))).get? dz=some (af5 "list" #[] cX):=⟨_,agP P λ_=>#[]⟩;have p:(s.heap.update dz (afD λ_=>(#[]:Array Value))).get? a=some (af5 "list" #[] ao):=(R.2 a Q.symm).trans Y;have t:Inv X ah U (upd h dz (.l [])) { s with heap:=s.heap.update dz (afD λ_=>(#[]:Array Value)) }:=
  q.write (x:=dz) (e:=dz) (t':=s.toks) (by rw[k];trivial) (.inl rfl) (λb o c e=>(R.2 b c).trans e) ⟨_,F⟩ ⟨afC _,[],cX,.nil,F⟩
 have s2:=agv (s.heap.update dz (afD λ_=>(#[]:Array Value))) a (afD λ_=>(arrOf st).map (·.2));obtain⟨aa,N⟩:∃aa,((s.heap.update dz (afD λ_=>(#[]:Array Value))).update a (afD λ_=>(arrOf st).map (·.2))).get? a=some (af5 "list" ((arrOf st).map (·.2)) aa):=⟨_,agP p λ_=>(arrOf st).map (·.2)⟩;have d:upd h dz (.l []) a=some (.ext (lstP a ao)):=by rw[da Q.symm];exact T
 refine J ?_;unfold ksk_tail
 try dsimp only
 simp only[ahd,if_false];refine B1 (ag8 P rfl ?_ (by rw[afd,afM];omega) (afC _));refine B1 (aiv ?_);refine B1 (aiw p rfl ?_);refine B1 (ag8 p rfl ?_ (afC _) (af7 (aif (Array.size_map ..)) (by rw[hsz,afM];omega)));rw[W];simp only[bne_self_eq_false,ahd,if_false];have same:ec H (upd (upd h dz (.l [])) a (.l D)):=by
  have y:=vW lH j.same k (.l []);refine⟨λb o e n=>by rw[da (kh e B)];exact y.at' b o e n,λb ps e=>by rw[da (kh e B)];exact y.cO b ps e,λg=>?_⟩;exact(y.bt g).put _ (λps=>by rw[d];intro z;cases z) (HV t d)
 have go:Go O (gA I a .dP) H (upd (upd h dz (.l [])) a (.l D)):=⟨same,λb c=>by
  rw[oF (by rintro rfl;exact c B)];exact j.own b c,j.bO⟩
 refine afm ⟨rfl,gA I a .dP,_,D,?_,go,⟨λb c=>?_,?_,i.rh.1,λb m=>by rw[oF (by rintro rfl;exact S.na (j.bO▸m))];exact i.rh.2 b m⟩,dT,l2,tD.go go⟩
 .refine t.write (x:=a) (e:=a) (t':=s.toks) (by rw[d];trivial) (.inl rfl) (λb o c e=>(s2.2 b c).trans e) ⟨_,N⟩ ⟨?_,_,aa,V,?_⟩
  .rw[tC,afM];omega
  .rw[N,Array.toArray_toList]
 .by_cases e:b=a
  .rw[e,dT];intro z;cases z
  .rw[da e]
   rw[oF e]at c
   by_cases L:b=dz
   .rw[L,dT];intro z;cases z
   .rw[da L];exact i.has b c
 .exact(i.tabs.l k _).put _ (λps=>by rw[d];intro z;cases z) (HV t d)
def Zw{A:afI}(u:Z.Ok)(x:H a=none)(y:H dz=none)(z:dz≠a)(m:a' X.K X.mg O H ds xs)(k:Vals xs us)(f:keys.toList.map Z.κ.keyOf=cY.map some)(t:cY.length=ds.length)(q:cY.Nodup)(l:ds.length<64)
    (S:p6 X ah U G O H a dz ao (cY.map Z.a7) s) :
    wpAny (model X.prog X.w) A (ksk_end a false us.toArray ao (.ref dz) keys) (λr F=>r=.done (.ret .none)/\zx X ah U O H a ((ht Z.κ.blt (cY.zip ds)).map (·.2)) F) E s:=by
  have V:us.length=ds.length:=by rw[<-k.length,m.len]
  have T:keys.size=ds.length:=by
    have:=congrArg agx f;rw[sg,sg,afN]at this;omega
  have g:(keys.zip us.toArray).size=ds.length:=by rw[Array.size_zip,T,afd,V,Nat.min_self]
  have n:∀v∈keys.toList,∃κ,Z.κ.keyOf v=some κ:=λv h=>by
    have:Z.κ.keyOf v∈cY.map some:=by rw[<-f];exact ahy h
    obtain⟨κ,_,e⟩:=agz.mp this;exact⟨κ,e.symm⟩
  unfold ksk_end
  try dsimp only
  simp only[ahd,if_false]
  by_cases b:us.toArray.size<2
  · rw[if_pos b,if_pos b]
    refine B1 (afm ?_);rw[StateT.run_pure];refine B1 (afm ?_)
    try dsimp only
    refine Mm (st:=SortSt.mk' general' (keys.zip us.toArray) #[] 7 none) x y z m k f t q l S (Array.Perm.refl _) ?_ rfl;intro i j o M;have L:j<(keys.zip us.toArray).size:=M;rw[g]at L;rw[afd]at b;have:i=j:=by omega
    subst this;exact PyProof.Rows.KeyOrd.kle_refl _
  · rw[if_neg b,if_neg b]
    rw[afd]at b;have I:2<=(keys.zip us.toArray).size:=by
      have Y:2<=us.length:=Nat.le_of_not_lt b;rw[g];omega
    have R:keyKind' keys=pure oneType':=by
      cases e:keys.toList with
      |nil=>
               have N:keys.size=0:=by rw[<-afN,e];rfl
               omega
      |cons B r=>
        cases r with
        |nil=>
                 have N:keys.size=1:=by rw[<-afN,e];rfl
                 omega
        |cons D r=>
          have W:keys=(B::D::r).toArray:=by rw[<-e,Array.toArray_toList]
          rw[W];exact u.kind B D r λv h=>n v (by rw[e];exact h)
    rw[R];refine B1 (afm ?_);refine B1 (afX (wpS_sortRunsK (κ:=Z.κ) u.one (a₀:=keys.zip us.toArray) (st:=SortSt.mk' oneType' (keys.zip us.toArray) #[] 7 none)
      (Q:=λ_ d=>(arrOf d).Perm (keys.zip us.toArray)/\failedOf d=none/\SortedToK Z.κ (arrOf d) (keys.zip us.toArray).size)
      (λp c=>?_) ⟨Array.Perm.refl _,rfl,rfl,rfl⟩ I (by rw[g];exact l) λd a1 a2 ed=>⟨a1,a2,ed⟩) ?_ λ_ _ e=>e)
    · rw[ksk_zip]at c
      exact n _ (ahz c).1
    rintro⟨⟨⟩,d⟩ F ⟨rfl,c,P,aC⟩
    try dsimp only
    exact Mm x y z m k f t q l S c (by rw[c.size_eq];exact aC) P
end
end aY
namespace aY
open PySem PySem.Spec aE PyProof.Rows
variable[aE.a5]
section
variable{X:aR}{ah:cS}{U:aE.St}{H:av}{s:afa}{G:av->Prop}{mf:bV}{f l:Addr}{k:Nat}{O:a4}{Z:fu}{ds:List D}{cY:List Z.κ.α}{xs:List V}{E:dm}
def Zv(S:Z.Ok)(J:Inv X ah U H s)(B:c4 O H)(I:a' X.K X.mg O H ds xs)(cW:cL X.K H l xs)(P:nv X k f G mf)(ux:G H)(Y:c6 (k+2) X.A)
  (r9:∀(i:Nat)(d:D),ds[i]? = some d->∃κ,cY[i]? = some κ/\(mf [d]).run []=.ok (.v (Z.a7 κ)) []) (g:cY.length=ds.length) (az:cY.Nodup) (R:ds.length<64) :
  wpAny (model X.prog X.w) X.A (call (.builtin "sorted") [.ref l] [(afL "key",.ref f)]) (λu L=>∃a,u=.ref a/\H a=none/\zx X ah U O H a ((ht Z.κ.blt (cY.zip ds)).map (·.2)) L) E s:=by
 obtain⟨c,p,pl,_⟩:=J.list cW;have u1:c.length=ds.length:=by rw[<-p.length,I.len]
 have h:H (s.heap.objs.size+1)=none:=J.cf.fresh (ajp _);refine call_function_entry_kw kind_sorted plain_sorted entry_sorted (ksk_s1 _ _)<|B1 (afm ?_)
 refine B1 (collect_list pl.isList ?_ (by rw[afM];omega));refine B1 (ahZ ?_ (by rw[afM];omega));have hsz:((s.heap.push (af5 "list" #[] 0)).update s.heap.objs.size (afD (·++c.toArray))).objs.size=s.heap.objs.size+1:=by
  rw[ai9,size_push']
 have n:(((s.heap.push (af5 "list" #[] 0)).update s.heap.objs.size (afD (·++c.toArray))).push (af5 "list" c.toArray 0)).get? (s.heap.objs.size+1)=some (af5 "list" c.toArray 0):=by
  rw[<-hsz];exact afv _ rfl
 have keep:∀b o,s.heap.get? b=some o->(((s.heap.push (af5 "list" #[] 0)).update s.heap.objs.size (afD (·++c.toArray))).push (af5 "list" c.toArray 0)).get? b=some o:=λb o q=>by
  have F:=afp q;rw[agU _ _ _ (by rw[hsz];exact afH (aiM F)),Heap.get?_update_ne _ _ _ _ (afH F),agU _ _ _ (afH F)];exact q
 have bB:Inv X ah U (upd H (s.heap.objs.size+1) (.l xs)) { s with heap:=((s.heap.push (af5 "list" #[] 0)).update s.heap.objs.size (afD (·++c.toArray))).push (af5 "list" c.toArray 0) }:=
  J.laid keep (ajp _) ⟨by omega,c,0,p,n⟩
 rw[hsz];refine B1 (agi (wpAny_call_entry_kw slot_list_sort ⟨_,n,rfl⟩ entry_list_sort ?body (ksk_l1 _ _)))
 case body=>
  rw[ksk_t1];generalize mR:s.heap.objs.size+1=a at *;generalize((s.heap.push (af5 "list" #[] 0)).update s.heap.objs.size (afD (·++c.toArray))).push (af5 "list" c.toArray 0)=ae at *;obtain⟨ao,x⟩:∃ao,(ae.update a (afD λ_=>(#[]:Array Value))).get? a=some (af5 "list" #[] ao):=⟨_,agP n λ_=>#[]⟩;have N:=
   bB.write (t':=s.toks) (by rw[dT];trivial) (.inl rfl) (λb o ag e=>((agv ae a (afD λ_=>(#[]:Array Value))).2 b ag).trans e) ⟨_,x⟩ (U1 x)
  rw[aaC]at N;refine B1 (listItems_at n rfl ?_);refine B1 (ag8 n rfl ?_ (by rw[afd,afM];omega) (afC _));refine B1 (aiw x rfl ?_);refine B1 (wpAny_newTuple ?_ (by show c.length<=_;rw[afM];omega));refine B1 (ahZ ?_ (afC _));refine agi ?_;have Q:Inv X ah U (upd H a (.ext (lstP a ao))) { s with heap:=(ae.update a (afD λ_=>(#[]:Array Value))).push (af5 "tuple" c.toArray 0) }:=
   N.kept λb o e=>afg _ e
  generalize aeA:(ae.update a (afD λ_=>(#[]:Array Value))).push (af5 "tuple" c.toArray 0)=C at *;have j:=Q.cf.fresh (ae9 _);have t:C.objs.size≠a:=by
   intro z;rw[z,dT]at j;cases j
  have T:H C.objs.size=none:=by rw[da t]at j;exact j
  have tJ:Inv X ah U (upd (upd H a (.ext (lstP a ao))) C.objs.size (.l [])) { s with heap:=C.push (af5 "list" #[] 0) }:=
   Q.laid (λb o e=>afg _ e) (ae9 _) ⟨afC _,[],0,.nil,afv _ rfl⟩
  have M:Go O (gA O C.objs.size .dP) H (upd (upd H a (.ext (lstP a ao))) C.objs.size (.l [])):=(Go.gu h).trans (Go.new j);have V:c4 (gA O C.objs.size .dP) (upd (upd H a (.ext (lstP a ao))) C.objs.size (.l [])):=(B.same (Go.gu (O:=O) h).same).new j;have hx:p6 X ah U G O H a C.objs.size ao [] { s with heap:=C.push (af5 "list" #[] 0) }:=
   ⟨⟨gA O C.objs.size .dP,_,[],tJ,M,V,P.1 _ _ M.same ux,by rw[da t.symm];exact dT,dT,rfl,l2⟩,λm=>B.has a (by rw[B.rh.2 a m];intro z;cases z) h⟩
  refine afX (Zx S P (Y.in1.in1) h T t I p r9 g R hx λL keys ak W=>Zw S h T t I p W g az R ak) (λr L y=>?_) λ_ _ e=>e
  obtain⟨rfl,y⟩:=y;exact⟨_,rfl,afm ⟨_,rfl,a,rfl,h,y⟩⟩
end
structure p7(K:aW)(c P:Addr)(q:Str):Prop where
 hd:∀h,K.In h->W.CodeHd h c P
 f5:a5.f5 P
 sW:a5.sW P=q
structure ll(base:Heap)(mg:bx):Prop where
 ex:∃bm o,mg (afL "__builtins__")=some (aha bm)/\bm≠aiQ/\bm≠af3/\base.get? bm=some o/\o.cls=ajv "module"/\o.dict=some aiQ/\o.data=Data.plain
def Cs(f:Addr)(cq:Obj):Heap->Prop:=λh=>h.get? f=some cq
def ml(f c:Addr)(q:Str)(cq:Obj):av->Prop:=λH=>H f=some (.ext (Cs f cq))/\H c=some (.ext (o3 c q))
def ml.mono(H a:av)(s:ec H a)(g:ml f c q cq H):ml f c q cq a:=⟨s.at' _ _ g.1,s.at' _ _ g.2⟩
def ml.upd(H:av)(p:Addr)(a:List V)(o:fL)(h:H p=some (.l a))(g:ml f c q cq H):ml f c q cq (upd H p o):=
 ⟨by rw[da (by rintro rfl;have:=g.1;rw[h]at this;cases this)];exact g.1,by rw[da (by rintro rfl;have:=g.2;rw[h]at this;cases this)];exact g.2⟩
def Q6{K:aW}{mg:bx}{N ps:List Str}{m:br}{B:List V}{H:av}{Q:cC}(h:i3 K mg (fnOf ps.length N.length (bh m)) B H Q jz):i4 K mg m (aE.start N B) H Q:=by
 obtain⟨O,ds,r,S,k,de,I,h,q⟩:=h;have A:=xc h;unfold fnOf at h;rw[if_pos A]at h;obtain⟨P,S1,E,h⟩:=M.inv h;obtain⟨w,G,F,p⟩:=M.inv E;refine⟨en O,_,S,w,G,(Dw k de I A),F,λi v n g x y nn=>?_⟩
 let f:a4:=⟨λb=>match H b with|some _=>O b|none=>i b,O.bO⟩
 have u:∀b,H b≠none->f b=O b:=λb c=>by
  show(match H b with|some _=>O b|none=>i b)=O b
  cases e:H b with
  |none=>exact absurd e c|some o=>rfl
 have s:∀b,H b=none->f b=i b:=λb c=>by
  show(match H b with|some _=>O b|none=>i b)=i b;rw[c]
 have dc:md i f:=⟨λb c=>by
  by_cases j:H b=none
  .rw[s b j];exact c
  .rw[u b j];exact o1.mp ((g.own b j).symm.trans c),g.bO.symm⟩
 have go:Go O f H n:=⟨g.same,λb c=>u b c,rfl⟩;have cp:c4 f n:=⟨λb c=>by
  by_cases j:H b=none
  .rw[s b j]at c;exact x.cp.has b c
  .exact g.same.some j,x.cp.tabs,k.rh.1,λb m=>(u b (k.has b (by rw[k.rh.2 b m];intro z;cases z))).trans (k.rh.2 b m)⟩
 cases w with
 |v d=>
  cases p;cases h;exact q f v n go cp (Rep.dc dc y) trivial
 |fr D=>
  cases p;cases h;obtain⟨a,ys,rfl,l,t,L⟩:=y;exact q f _ n go cp ⟨a,ys,rfl,l,(s a (nn a rfl)).trans t,L.dc dc⟩ nn
 |bF D=>cases p
 |mv D=>cases p
section
variable{X:aR}{k:Nat}{f c:Addr}{name q:Str}{params:aix}{body:Expr}{scope:Scope}{pm iN:Value}{N ps:List Str}{m:br}
theorem UH{p1:Str}(a:jA N [p1] scope)(M:∀(u:Value),air (W.kla_fn name q params body scope [] pm (.ref c) iN) ⟨[u],[]⟩=pure [(p1,u)])
  (t:∀(A:afI)(s:afa)(H:av),c6 k (A.deeper (ahF q scope s.heap.objs.size f (.ref c)))->i9 (ix fi X.prog X.w X.K X.mg X.base N q scope f (.ref c) A X.stack s H jz).h_ body m) :
  nv X (k+1) f (ml f c q (W.kla_obj name q params body scope [] pm c iN)) (fnOf 1 N.length (bh m)):=by
 refine⟨ml.mono,ml.upd,λA s H u v Q i d g D L=>?_⟩;obtain⟨F,_⟩:=d.cf f _ g.1;obtain⟨G,_⟩:=d.cf c _ g.2;have l:∀y∈[p1].zip [u],scope.names.lookup y.1=some .local\/(scope.names.lookup y.1=some .cell/\((cellsFrom (s.heap.objs.size+1) scope.names []).lookup y.1).isSome=true):=λr B=>by
  obtain⟨n,v⟩:=r;rcases a.par n (ahz B).1 with q|q
  .exact .inl q
  .exact .inr ⟨q,ai4 _ _ _ (.inl q)⟩
 refine W.kla_callFunE i.depth F rfl a.co a.gen rfl G ?_;rw[M];refine afm<|wpAny_newFunctionEnv_cells a.kind l λenv he j x=>?_
 subst he;refine⟨(d.mod.nolimit.keeps λb o e=>(d.bs b o e).1).keeps x.toInCall.keep,W.kla_codeExpr ?_⟩;have J:Inv (ix fi X.prog X.w X.K X.mg X.base N q scope f (.ref c) A X.stack s H jz) [] (aE.start N [v]) H j:=Jj a i.hd d rfl (.cons D .nil) x;refine afX ((ck.h_ (t A s H (i.deeper _))) [] j (aE.start N [v]) H _ J (Q6 (ps:=[p1]) L)) (λu' O aC=>?_) λe O aC=>aC
 obtain⟨E,p,h,z,I⟩:=aC;exact⟨E,p,h.os,h.bare,h.base,h.cf,z,I⟩
end
end aY
namespace aY
open PySem PySem.Spec aE PyProof.Rows
theorem ME{a b:Int}:∀l:List Value,ajl l->ajl (l++[ahO a,ahO b,c])
 |[],_=>trivial|.int _ _::.int _ _::_::rest,h=>ME rest h
theorem Ey{pos e:Pos}:∀l:List Value,ajl l->aiz e (l++[ahO pos.line,ahO pos.col,c])=some o->aiz e l=some o\/o=c
 |[],_,h=>by
  right;have h:(if((pos.line:Int)==e.line&&(pos.col:Int)==e.col)=true then some c else none)=some o:=h;split at h
  .cases h;rfl
  .cases h
 |.int a _::.int b _::d::rest,t,h=>by
  have h:(if(a==e.line&&b==e.col)=true then some d else aiz e (rest++[ahO pos.line,ahO pos.col,c]))=some o:=h;show(if(a==e.line&&b==e.col)=true then some d else aiz e rest)=some o\/_;split at h
  .rename_i f;rw[if_pos f];exact .inl h
  .rename_i f;rw[if_neg f];exact Ey rest t h
variable[aE.a5]
section
variable{X:aR}{ah:cS}{U:aE.St}{H:av}{s:afa}{O:a4}{c P:Addr}{q:Str}{params:aix}{body:Expr}{scope:Scope}{pos:Pos}
def UG(J:Inv X ah U H s)(cH:c4 O H)(L:p7 X.K c P q)(B:ll X.base X.mg)(r5:X.env.code=.ref c)(ba:X.env.qual++afL "<lambda>"=q)(uF:defaultsOf params X.env=([],[]))(r4:aiR scope X.env=pure []) :
  wpAny (model X.prog X.w) X.A (eval (.Lambda params body scope pos) X.env) (λu s'=>∃(f c':Addr)(pm E:Value)(I:av),u=.ref f/\Inv X ah U I s'/\Go O O H I/\c4 O I/\ml f c' q (W.kla_obj (afL "<lambda>") q params body scope [] pm c' E) I) X.dx s:=by
 obtain⟨ps,i,ky,T⟩:=cH.tabs P L.f5;rw[L.sW]at T;have Ih:=J.cf P _ i;have FO:∀b o,X.base.get? b=some o->b≠P:=λb o e z=>by
  subst z;have:=(J.bs b o e).2;rw[i]at this;cases this
 have mS:=J.mod.glob.keeps J.bk;have S':af3≠P:=by
  obtain⟨o,aw,cV,e,_⟩:=J.mod.glob;exact FO _ _ e
 have gV:s.heap.BuiltinsAt X.mg P:=by
  obtain⟨bm,o,f',gb,j2,mx,t2⟩:=B.ex;exact⟨bm,o,f',gb,j2,FO _ _ mx,J.bk _ _ mx,t2⟩
 have C:=L.hd _ J.iY;refine W.kla_eval uF ?_;rw[ba]
 cases mJ:aiz pos ps.toList with
 |some G=>
  obtain⟨c',rfl,xn⟩:=T pos G mJ;refine W.kla_makeFunctionHit r4 J.ok.glob mS r5 C Ih ky mJ gV λE h' tk ay hsz=>?_
  have N:=J.cf.fresh hsz;have go:Go O O H (upd H h'.objs.size (.ext (Cs h'.objs.size (W.kla_obj (afL "<lambda>") q params body scope [] ((X.mg (afL "__name__")).getD .none) c' E)))):=Go.gu N;refine⟨h'.objs.size,c',_,E,_,rfl,J.laid (λb o e=>afg _ (ay b o e)) hsz ?_,go,cH.same go.same,dT,go.same.at' _ _ xn⟩;exact⟨afv _ rfl,⟨_,afv _ rfl⟩,λx a p r=>r _ p⟩
 |none=>
  refine W.kla_makeFunction r4 J.ok.glob mS r5 C Ih ky mJ S' gV λc' E h' tk M IV ee Bk I'=>?_
  have I5:=J.cf.fresh IV
  let Q:=ps++#[ahO pos.line,ahO pos.col,.ref c']
  let D:=upd (upd H P (.fH Q)) c' (.ext (o3 c' q))
  have j:∀{b:Addr},b≠P->b≠c'->D b=H b:=λx a=>by show upd _ _ _ _=_;rw[da a,da x]
  have R:D P=some (.fH Q):=by show upd _ _ _ _=_;rw[da ((kh i I5).symm).symm];exact dT
  have zQ:D c'=some (.ext (o3 c' q)):=dT;have WC:∀{b:Addr}{o:Obj},s.heap.get? b=some o->b≠c':=λe=>afH (afK (afp e) IV)
  have m:∀{b:Addr}{o:fL},H b=some o->b≠c':=λe=>kh e I5
  have un:gm X.fs [] H D s.heap h':=by
   refine⟨λb o e n _ _=>M b o (by rintro rfl;rw[i]at n;cases n) e,λb o e n _ _=>⟨o.slots,M b o (by rintro rfl;rw[i]at n;cases n) e⟩,
    λb o e n _=>by rw[j (by rintro rfl;rw[i]at n;cases n) (WC e)];exact n,λb o e _=>?_,λb xs e=>?_,λb o u e=>?_,λb S e=>?_⟩
   .by_cases k:b=P
    .rw[k];exact⟨_,I'⟩
    .exact⟨o,M b o k e⟩
   .rw[j (by rintro rfl;rw[i]at e;cases e) (m e)];exact e
   .rw[j (by rintro rfl;rw[i]at e;cases e) (m e)];exact e
   .by_cases k:b=P
    .subst k
     rw[i]at e;cases e;exact⟨_,R⟩
    .exact⟨#[],by rw[j k (m e),e];simp⟩
  have cf:f9 X.prog X.w D h':=λb u e=>by
   by_cases x:b=c'
   .subst x
    rw[zQ]at e;cases e;obtain⟨aa,ey,vs,t,gQ,fh,tA,tB⟩:=Bk;cases gQ;exact⟨⟨_,ey,vs,t,rfl,fh,tA,tB⟩,⟨_,fh⟩,λx a aQ r=>by obtain⟨lx,WT,V,t3,rp,pW,Y,Z⟩:=aQ;cases rp;exact⟨_,WT,V,t3,rfl,r _ pW,Y,Z⟩⟩
   .by_cases a:b=P
    .subst a
     rw[R]at e;cases e;exact I'
    .rw[j a x]at e
     refine(J.cf b u e).q8 (λd o hd qo=>M d o (λz=>?_) qo) (λd y=>?_) λd xs y=>?_
     .rcases hd with rfl|hd
      .exact a z
      .rw[z,i]at hd;cases hd
     .rw[j (by rintro rfl;rw[i]at y;cases y) (m y)];exact y
     .rw[j (by rintro rfl;rw[i]at y;cases y) (m y)];exact y
  have N:=cf.fresh (ae9 _);have Y':ec H D:=by
   refine⟨λb o e n=>by rw[j (by rintro rfl;rw[i]at e;cases e;exact n) (m e)];exact e,λb S e=>?_,λg p8 RR=>?_⟩
   .by_cases k:b=P
    .exact⟨Q,by rw[k];exact R⟩
    .exact⟨S,by rw[j k (m e)];exact e⟩
   .obtain⟨S,ao,aG,cI⟩:=g p8 RR
    by_cases k:p8=P
    .subst k
     refine⟨Q,R,?_,λl G F=>?_⟩
     .show ajl (ps++#[ahO pos.line,ahO pos.col,.ref c']).toList
      rw[Array.toList_append];exact ME _ ky
     .have F:=F
      rw[Array.toList_append]at F;rw[L.sW];rcases Ey _ ky F with h|h
      .obtain⟨aa,rfl,a⟩:=T l G h
       exact⟨aa,rfl,by rw[j (by rintro rfl;rw[i]at a;cases a) (m a)];exact a⟩
      .exact⟨c',h,zQ⟩
    .refine⟨S,by rw[j k (m ao)];exact ao,aG,λl G F=>?_⟩
     obtain⟨aa,x,a⟩:=cI l G F;exact⟨aa,x,by rw[j (by rintro rfl;rw[i]at a;cases a) (m a)];exact a⟩
  have go:Go O O H (upd D h'.objs.size (.ext (Cs h'.objs.size (W.kla_obj (afL "<lambda>") q params body scope [] ((X.mg (afL "__name__")).getD .none) c' E)))):=(⟨Y',λ_ _=>rfl,rfl⟩:Go O O H D).trans (Go.gu N);refine⟨h'.objs.size,c',_,E,_,rfl,(J.un (t':=tk) un cf).laid (λb o e=>afg _ e) (ae9 _) ?_,go,cH.same go.same,dT,(ta N _).at' _ _ zQ⟩;exact⟨afv _ rfl,⟨_,afv _ rfl⟩,λx a p r=>r _ p⟩
end
end aY
namespace aY
open PySem PySem.Spec aE PyProof.Rows
def F5:afW "sorted"=some (.builtin "sorted"):=by decide +kernel
def xM(Z:fu)(mf:bV)(d:D):Option Z.κ.α:=match(mf [d]).run []with
 |.ok (.v x) []=>Z.un x|_=>none
def keysOf(Z:fu)(mf:bV):List D->Option (List Z.κ.α)
 |[]=>some []|d::ds=>match xM Z mf d,keysOf Z mf ds with
  |some a,some as=>some (a::as)|_,_=>none
def jH{α:Type}(blt:α->α->Bool):List α->Bool
 |[]=>true|a::r=>r.all (λb=>blt a b||blt b a)&&jH blt r
def nQ(Z:fu)(mf:bV)(x:R):M R:=match x.fp with
 |some ds=>match keysOf Z mf ds with
  |some a=>if jH Z.κ.blt a=true/\ds.length<64 then pure (.fr ((ht Z.κ.blt (a.zip ds)).map (·.2)))else bad|none=>bad
 |none=>bad
def t_(F:bV->R->M R)(mf:bV)(a:br):br:=λU=>do
 let x <-a U
 F mf x
abbrev nK(Z:fu)(mf:bV)(a:br):br:=t_ (nQ Z) mf a
theorem JN{Z:fu}{mf:bV}(rd:∀d a,Z.un d=some a->d=Z.a7 a):∀{ds:List D}{b:List Z.κ.α},keysOf Z mf ds=some b->b.length=ds.length/\∀(i:Nat)(d:D),ds[i]? = some d->∃κ,b[i]? = some κ/\(mf [d]).run []=.ok (.v (Z.a7 κ)) []
 |[],b,h=>by cases h;exact⟨rfl,λi d h=>by simp at h⟩
 |d::ds,b,h=>by
  unfold keysOf at h;split at h
  .rename_i a j c f
   cases h;obtain⟨l,r⟩:=JN rd f;refine⟨by rw[afE,afE,l],λi e he=>?_⟩
   cases i with
   |zero=>
    cases(show some d=some e from he);refine⟨a,rfl,?_⟩;unfold xM at c;split at c
    .rename_i x g
     rw[g,rd x a c]
    .cases c
   |succ i=>
    obtain⟨κ,ao,aG⟩:=r i e he;exact⟨κ,by simpa using ao,aG⟩
  .cases h
theorem zJ(Q:agu):∀{l:List Q.α},jH Q.blt l=true->l.Nodup
 |[],_=>.nil|a::r,h=>by
  unfold jH at h;rw[afG,af4]at h;rw[ags];refine⟨λb=>?_,zJ Q h.2⟩;have:=h.1 a b;rw[Q.irrefl]at this;cases this
variable[aE.a5]
section
variable{X:aR}{k:Nat}{e:Expr}{ma:br}{Z:fu}{p pos kp:Pos}{kd:Expr}{mf:bV}{G:Addr->av->Prop}
structure tM(X:aR)(nm:Str)(k:Nat)(qc:String)(F:bV->R->M R):Prop where
 Ad:afW nm=some (.builtin qc)
 nn:nm≠"__name__"
 db:eT nm
 run:∀{mf:bV}{x r:R}{S ak:b1},(F mf x).run S=.ok r ak->∃ds,x.fp=some ds/\S=ak/\∀{ah:cS}{U:aE.St}{s:afa}{O:a4}{H:av}{xs:List V}{l f:Addr}{G:av->Prop},Inv X ah U H s->c4 O H->a' X.K X.mg O H ds xs->cL X.K H l xs->nv X k f G mf->G H->c6 (k+2) X.A->
  wpAny (model X.prog X.w) X.A (call (.builtin qc) [.ref l] [(afL "key",.ref f)]) (λu s'=>∃aj H' v,Inv X ah U H' s'/\Go O aj H H'/\c4 aj H'/\d6 X.K X.mg aj H' r v/\ip H r v/\RelV v u) X.dx s
variable{nm:Str}{qc:String}{F:bV->R->M R}
def Gd(B:tM X nm k qc F)(W:d5 X nm)(hm:X.mg nm=none)(L:c6 (k+2) X.A)(P:i9 X e ma)
  (fN:∀(d:cS)(s:afa)(U:aE.St)(O:a4)(H:av),Inv X d U H s->c4 O H->
   wpAny (model X.prog X.w) X.A (eval kd X.env) (λu s'=>∃(f:Addr)(i:av)(G:av->Prop),u=.ref f/\Inv X d U i s'/\Go O O H i/\c4 O i/\G i/\nv X k f G mf) X.dx s)
  (he:tW X pos e:=by rfl)
  (aC:fm X e []:=by rfl)
  (gW:gF X pos [e]:=by rfl) :
  i9 X (.Call (.Name nm p) [e] [⟨some (afL "key"),kd,kp⟩] pos) (t_ F mf ma):=by
 rintro d s U H Q J ⟨O,y,S,r,ak,st,h,q⟩;refine cc λb=>?_
 obtain⟨x,S1,N,h⟩:=M.inv h;obtain⟨ds,r7,rfl,run⟩:=B.run h;refine b ?_;refine agK (pv J W hm B.Ad ?_ B.nn B.db);refine callWith_kw ?_ he gW rfl rfl;refine cn ((sR P yx aC) pos d s U H (λE c=>∃v a,E=[v]/\Go O a H c/\cu X.K X.mg a y S1 U c/\d6 X.K X.mg a c x v) J ⟨O,y,S,x,S1,st,N,λa v c m j t nn=>⟨v,a,rfl,m,j,t⟩⟩) λus s1 n=>?_
 refine cc λb=>?_
 obtain⟨E,c,V,Y,v,a,ev,m,j,t⟩:=n;subst ev;obtain⟨l,ys,rfl,hl,ra⟩:=R.pw t r7;obtain⟨u,rfl,dJ⟩:=vals1 Y;cases dJ;refine b ?_;refine wpAny_evalAll_cons (B1 (cn (fN d s1 U a c V j.cp) λu s2 T=>B1 (aiF (afm ?_))));refine cc λb=>?_
 obtain⟨f,aT,G,rfl,C,g,dV,uy,eD⟩:=T;refine b ?_;refine wpAny_evalAll_nil (cn (run C dV (ra.go g) (g.same.seq hl) eD uy L) λu s3 n=>?_);refine cc λb=>?_
 obtain⟨g_,z,v,eg,D,j4,I,nn,o⟩:=n;exact b ⟨v,z,eg,o,q g_ _ z (m.trans (g.trans D)) (j.go (g.trans D) j4) I (nn.back (m.trans g).same)⟩
def PT{c P:Addr}{q p1:Str}{params:aix}{body:Expr}{scope:Scope}{x:Pos}{N:List Str}{m:br}(B:tM X nm (k+1) qc F)(j:d5 X nm)(z:X.mg nm=none)(g:c6 (k+3) X.A)(L:p7 X.K c P q)(R:ll X.base X.mg)(M:X.env.code=.ref c)
  (l:X.env.qual++afL "<lambda>"=q) (d:jA N [p1] scope)
  (E:∀(c:Addr)(pm a u:Value),air (W.kla_fn (afL "<lambda>") q params body scope [] pm (.ref c) a) ⟨[u],[]⟩=pure [(p1,u)])
  (h:∀(f c:Addr)(A:afI)(s:afa)(H:av),c6 k (A.deeper (ahF q scope s.heap.objs.size f (.ref c)))->i9 (ix fi X.prog X.w X.K X.mg X.base N q scope f (.ref c) A X.stack s H jz).h_ body m)
  (i:i9 X e ma) (Q:defaultsOf params X.env=([],[]):=by rfl) (I:aiR scope X.env=pure []:=by rfl)
  (he:tW X pos e:=by rfl)
  (aC:fm X e []:=by rfl)
  (t:gF X pos [e]:=by rfl) :
  i9 X (.Call (.Name nm p) [e] [⟨some (afL "key"),.Lambda params body scope x,kp⟩] pos) (t_ F (fnOf 1 N.length (bh m)) ma):=
 Gd B j z g i (λS s U O H J n=>cn (UG J n L R M l Q I) λu T ⟨f,c',pm,a,b,y,r,g',d',D⟩=>
  ⟨f,b,_,y,r,g',d',D,UH d (E c' pm a) (h f c')⟩) he aC t
theorem Jx(i:Z.Ok):tM X "sorted" k "sorted" (nQ Z) where
 Ad:=F5
 nn:=by decide
 db:=by decide
 run:=λ{mf x r S O} h=>by
  unfold nQ at h;refine cc λg=>?_
  split at h
  .rename_i ds ao
   split at h
   .rename_i n aG
    by_cases c:jH Z.κ.blt n=true/\ds.length<64
    .rw[if_pos c]at h
     cases h;obtain⟨f,I⟩:=JN i.rd aG;refine g ⟨ds,ao,rfl,λJ d K B t M l=>cn (Zv i J d K B t M l I f (zJ Z.κ.toKeyOrd c.1) c.2) λu s3 m=>?_⟩;refine cc λg=>?_
     obtain⟨a,A,E,z,s,N,w,y,D,H,L,j⟩:=m;subst A;exact g ⟨z,s,.ref a,w,y,D,⟨a,N,rfl,H,L,j⟩,λb q=>by cases q;exact E,rfl⟩
    .rw[if_neg c]at h;cases h
   .cases h
  .cases h
theorem PU{x p1:Str}{t:Pos}(B:Z.Ok)(j:d5 X "sorted")(z:X.mg "sorted"=none)(a:c6 (k+2) X.A)(h:gC X.prog X.w X.K X.mg X.base x [p1] k (i3 X.K X.mg mf))(d:d5 X x)(i:i9 X e ma)
  (n:eT x:=by decide)
  (he:tW X pos e:=by rfl)
  (aC:fm X e []:=by rfl)
  (r:gF X pos [e]:=by rfl) :
  i9 X (.Call (.Name "sorted" p) [e] [⟨some (afL "key"),.Name x t,kp⟩] pos) (nK Z mf ma):=by
 obtain⟨f,L,F,g,I,D⟩:=h.ex;refine Gd (Jx B) j z a i (λE s U O H J l=>uY J d D ⟨f,H,λ_=>True,rfl,J,Go.refl _ _,l,trivial,λ_ _ _ _=>trivial,λ_ _ _ _ _ _=>trivial,λA s H u v Q a c _ m y=>?_⟩ n) he aC r;have q:=c.mod.sm.keeps λb o e=>(c.bs b o e).1
 exact(F.run A X.stack s H ⟨[u],[]⟩ [u] [v] Q jz a c (g s [u] q rfl) (.cons m .nil) y)
end
def SK{P:afA}{w:World}{K:aW}{mg:bx}{base:Heap}{x:Str}{st:Stmt}{ps N:List Str}{k:Nat}{p:bc}{n u:Nat}{c:Addr}(iL:iL K mg x st ps)(R:∀(f:Addr)(i:Value)(l:Option Addr)(ei a pm:Value)(g:Option Addr)(d cM:Value)(j:Array (Option Value)),mg x=some (.ref f)->K.lookup f=some ⟨i,l,.func (ahw x x (ly st) (hA st) (eo st) .none ei a pm g d cM),j⟩->d=.ref c)
  (y:jA N ps (eo st)) (D:ps.length=n) (S:N.length=u)
  (B:∀(f:Addr)(A:afI)(outer:List Env)(s:afa)(H:av)(E:f_),c6 k (A.deeper (agt x (eo st) s.heap.objs.size f (.ref c)))->
   tG (ix fi P w K mg base N x (eo st) f (.ref c) A outer s H E).h_ (hA st) p):gC P w K mg base x ps (k+1) (i3 K mg (fnOf n u p)):=by
 obtain⟨f,L,F,b,m⟩:=iL.ex;refine⟨f,L,?_,b,F.kp,m⟩;obtain⟨i,l,ei,a,pm,g,d,cM,j,rfl,t,I⟩:=F.ex;have e:=R f i l ei a pm g d cM j m t;subst e;subst D S;refine H4 t I y (λT H Q E ⟨O,ds,r,V,W,de,G,h,q⟩=>G.len.trans (xc h)) λA outer s H T Q E z M=>⟨_,(B f A outer s H E z).h_,F1 M⟩
end aY
namespace aE
open PySem PySem.Spec PyProof.Rows
def qO(r:Int->Int->Bool)(z:Nat->Nat->Bool):List Int->List Int->Bool
 |x::xs,y::ys=>if x=y then qO r z xs ys else r x y|xs,ys=>z xs.length ys.length
def J8(r:Int->Int->Bool)(z:Nat->Nat->Bool)(x y:Int)(xs ys:List Int):qO r z (x::xs) (y::ys)=if x=y then qO r z xs ys else r x y:=rfl
def J9(r:Int->Int->Bool)(z:Nat->Nat->Bool)(ys:List Int):qO r z [] ys=z 0 ys.length:=by cases ys<;>rfl
def J_(r:Int->Int->Bool)(z:Nat->Nat->Bool)(xs:List Int):qO r z xs []=z xs.length 0:=by cases xs<;>rfl
abbrev lexLt:List Int->List Int->Bool:=qO (λi j=>decide (i<j)) (λi j=>decide (i<j))
section
open PySem.SeqAt
open PySem.AutoSeq1 (wpAny_loadPart')
open PySem.MeetsSeq PySem.MeetsSeq2 PySem.MeetsSeq3
def ae1(l b:Addr)(f k:Array Value)(n S:Nat)(dd W:Option Addr)(cA V:Array (Option Value))(ns ms:List Int)(hi:agI f.toList ns)(K:agI k.toList ms) :
  Meets (Builtin.«tuple.__lt__» ⟨[.ref l,.ref b],[]⟩)
   (λ_ R s=>s.heap.get? l=some { cls:=.type "tuple",dict:=dd,data:=.seq f n,slots:=cA }/\s.heap.get? b=some { cls:=.type "tuple",dict:=W,data:=.seq k S,slots:=V }/\
    R (.ok (.ret (.bool (lexLt ns ms)))) s):=
 .of_wp λprog w A R s h=>by
  obtain⟨r,g,d,tk,os⟩:=s;obtain⟨T,P,h⟩:=h;have Y:=ahI;have gQ:f.size=ns.length:=by rw[<-hi.length];simp
  have Z:k.size=ms.length:=by rw[<-K.length];simp
  wp_walk using wpAny_loadPart' T,wpAny_loadPart' P,ah0 _ (λrest b H=>b.1=none/\H=⟨r,g,d,tk,os⟩/\∃(z B:List Value)(p m:List Int),rest=z.zip B/\
   agI z p/\agI B m/\p.length+k.size=m.length+f.size/\R (.ok (.ret (.bool (lexLt p m)))) ⟨r,g,d,tk,os⟩) _
  case turn=>
   rintro⟨y,x⟩ rest b H ⟨G,rfl,z,B,p,m,hz,D,F,i,j⟩
   cases D with
   |nil=>rw[List.zip_nil_left]at hz;cases hz
   |cons a t N=>
    cases F with
    |nil=>rw[List.zip_nil_right]at hz;cases hz
    |cons c u O=>
     rw[agL]at hz;injection hz with C o
     injection C with U J
     subst U J;unfold lexLt at j;rw[J8]at j;simp only[afE]at i;obtain⟨e,he,L⟩:=cG.HR A.in1 ⟨r,g,d,tk,os⟩ a t c u;refine B1 (he prog w _ _ ?_)
     cases e with
     |true=>
      rw[if_pos (L.mp rfl)]at j
      wp_walk
      exact⟨rfl,rfl,_,_,_,_,o,N,O,by omega,j⟩
     |false=>
      rw[if_neg (λq=>absurd (L.mpr q) afc)]at j;have M:∀(E:dm)(Q:dm),Q (.bool (decide (a<c))) ⟨r,g,d,tk,os⟩->wpAny (model prog w) A.in1 (richCompare .Lt (.int a t) (.int c u)) Q E ⟨r,g,d,tk,os⟩:=λE Q h=>(PyProof.Rows.lt_int h:wpAny (model prog w) A.in1 (agb .Lt (.int a t) (.int c u)) Q E _)
      wp_walk using M
      exact⟨_,rfl,by simpa using j⟩
  case fin=>
   rintro⟨X,gb⟩ H ⟨G,rfl,z,B,p,m,hz,D,F,i,j⟩;simp only at G;subst G;have I:lexLt p m=decide (f.size<k.size):=by
    cases D with
    |nil=>
     unfold lexLt;rw[J9];simp only[agm]at i;exact decide_eq_decide.mpr (by omega)
    |cons a t I=>
     cases F with
     |nil=>
      unfold lexLt;rw[J_];simp only[agm]at i;exact decide_eq_decide.mpr (by omega)
     |cons c u hw=>
      rw[agL]at hz;cases hz
   rw[I]at j
   wp_walk
   exact⟨_,rfl,by simpa[ah6]using j⟩
  case h=>
   exact⟨rfl,rfl,f.toList,k.toList,ns,ms,rfl,hi,K,by omega,h⟩
end
abbrev kS:List Int->List Int->Bool:=qO (λi j=>decide (j<i)) (λi j=>decide (j<i))
section
open PySem.SeqAt
open PySem.AutoSeq1 (wpAny_loadPart')
open PySem.MeetsSeq PySem.MeetsSeq2 PySem.MeetsSeq3
def aan(l b:Addr)(f k:Array Value)(n S:Nat)(dd W:Option Addr)(cA V:Array (Option Value))(ns ms:List Int)(hi:agI f.toList ns)(K:agI k.toList ms) :
  Meets (Builtin.«tuple.__gt__» ⟨[.ref l,.ref b],[]⟩)
   (λ_ R s=>s.heap.get? l=some { cls:=.type "tuple",dict:=dd,data:=.seq f n,slots:=cA }/\s.heap.get? b=some { cls:=.type "tuple",dict:=W,data:=.seq k S,slots:=V }/\
    R (.ok (.ret (.bool (kS ns ms)))) s):=
 .of_wp λprog w A R s h=>by
  obtain⟨r,g,d,tk,os⟩:=s;obtain⟨T,P,h⟩:=h;have Y:=ahI;have gQ:f.size=ns.length:=by rw[<-hi.length];simp
  have Z:k.size=ms.length:=by rw[<-K.length];simp
  wp_walk using wpAny_loadPart' T,wpAny_loadPart' P,ah0 _ (λrest b H=>b.1=none/\H=⟨r,g,d,tk,os⟩/\∃(z B:List Value)(p m:List Int),rest=z.zip B/\
   agI z p/\agI B m/\p.length+k.size=m.length+f.size/\R (.ok (.ret (.bool (kS p m)))) ⟨r,g,d,tk,os⟩) _
  case turn=>
   rintro⟨y,x⟩ rest b H ⟨G,rfl,z,B,p,m,hz,D,F,i,j⟩
   cases D with
   |nil=>rw[List.zip_nil_left]at hz;cases hz
   |cons a t N=>
    cases F with
    |nil=>rw[List.zip_nil_right]at hz;cases hz
    |cons c u O=>
     rw[agL]at hz;injection hz with C o
     injection C with U J
     subst U J;unfold kS at j;rw[J8]at j;simp only[afE]at i;obtain⟨e,he,L⟩:=cG.HR A.in1 ⟨r,g,d,tk,os⟩ a t c u;refine B1 (he prog w _ _ ?_)
     cases e with
     |true=>
      rw[if_pos (L.mp rfl)]at j
      wp_walk
      exact⟨rfl,rfl,_,_,_,_,o,N,O,by omega,j⟩
     |false=>
      rw[if_neg (λq=>absurd (L.mpr q) afc)]at j;have M:∀(E:dm)(Q:dm),Q (.bool (decide (c<a))) ⟨r,g,d,tk,os⟩->wpAny (model prog w) A.in1 (richCompare .Gt (.int a t) (.int c u)) Q E ⟨r,g,d,tk,os⟩:=λE Q h=>(PyProof.Rows.gt_int h:wpAny (model prog w) A.in1 (agb .Gt (.int a t) (.int c u)) Q E _)
      wp_walk using M
      exact⟨_,rfl,by simpa using j⟩
  case fin=>
   rintro⟨X,gb⟩ H ⟨G,rfl,z,B,p,m,hz,D,F,i,j⟩;simp only at G;subst G;have I:kS p m=decide (k.size<f.size):=by
    cases D with
    |nil=>
     unfold kS;rw[J9];simp only[agm]at i;exact decide_eq_decide.mpr (by omega)
    |cons a t I=>
     cases F with
     |nil=>
      unfold kS;rw[J_];simp only[agm]at i;exact decide_eq_decide.mpr (by omega)
     |cons c u hw=>
      rw[agL]at hz;cases hz
   rw[I]at j
   wp_walk
   exact⟨_,rfl,by simpa[ah6]using j⟩
  case h=>
   exact⟨rfl,rfl,f.toList,k.toList,ns,ms,rfl,hi,K,by omega,h⟩
end
def RD{prog:afA}{w:World}{A:afI}{E:dm}{s:afa}{l b:Addr}{a e:Array Value}{ns ms:List Int}{Q:dm}(r:IsTup s.heap l a)(m:IsTup s.heap b e)(hi:agI a.toList ns)(k:agI e.toList ms)
  (p:A.units<cLine) (h:Q (.bool (kS ns ms)) s):wpAny (model prog w) A (agb .Gt (.ref l) (.ref b)) Q E s:=by
 obtain⟨⟨cls,dd,data,cA⟩,f,g,n,hd⟩:=id r;obtain⟨⟨y,u,d,t⟩,j,i,q,c⟩:=id m;simp only at g hd i c;subst g hd i c;exact richCompare_meets_room (op:=.Gt) ⟨_,f,rfl⟩ ⟨_,j,rfl⟩ PySem.F.slot_tuple_gt PySem.F.entry_tuple_gt (PySem.F.args_tuple_gt_2 _ _) (aan l b a e n q dd u cA t ns ms hi k)
  ⟨f,j,show Value.bool (kS ns ms)≠Value.notImplemented/\Q (.bool (kS ns ms)) s from⟨(λx=>nomatch x),h⟩⟩ p
end aE
namespace aY
open PySem PySem.Spec aE PyProof.Rows
def qN(x:Str):Str:=x++afL ".<locals>."++afL "<lambda>"
def n4(K:aW)(P:Addr)(x:Str):Bool:=match W.tabIn K x with
 |some (_,o)=>o==P|none=>false
abbrev tj(wl:World)(K:aW)(ln:List Str):a5:=⟨λP=>∃x∈ln,∃c,W.tabIn K x=some (c,P),λP=>match ln.find? (n4 K P)with
 |some x=>qN x| none=>"",wl⟩
def YG{K:aW}{ln:List Str}{x:Str}{c P:Addr}(b:x∈ln)(d:W.tabIn K x=some (c,P))(inj:∀y∈ln,n4 K P y=true->y=x){wl:World}:(tj wl K ln).sW P=qN x:=by
 show(match ln.find? (n4 K P)with|some x=>qN x|none=>"")=_;have a:n4 K P x=true:=by unfold n4;rw[d];exact beq_self_eq_true P
 cases e:ln.find? (n4 K P)with
 |none=>exact absurd a (aiC.mp e x b)|some y=>
  rw[inj y (aiV e) (List.find?_some e)]
def DC{K:aW}{x:Str}{f c P:Addr}{i n:Value}{k h:Option Addr}{b:agg}{cA m:Array (Option Value)}{g:Array Value}(a:W.nsIn K af3 x=some (some (.ref f)))(l:K.lookup f=some ⟨i,k,.func b,cA⟩)(j:b.code=.ref c)
  (d:K.lookup c=some ⟨n,h,.fields g,m⟩) (e:g[11]? = some (.ref P)):W.tabIn K x=some (c,P):=by
 unfold W.tabIn;rw[a];simp only[l,j,d,e]
def S3{K:aW}{c P:Addr}{r:Option Addr}{cA:Array (Option Value)}{f:Array Value}{b:Str}{j b_ g:Tok}{a e:Int}{i:Bool}(d:K.lookup c=some ⟨.type "code",r,.fields f,cA⟩)(q:f[11]? = some (.ref P))(l:f.getD 11 .none=.ref P)
  (m:f.getD 18 .none=.str b j) (n:f.getD 7 .none=.int a b_) (p:f.getD 9 .none=.bool i) (k:f.getD 10 .none=.int e g) (ne:c≠P):∀h,K.In h->W.CodeHd h c P:=λh X=>
 ⟨_,f,b,j,a,b_,i,e,g,X _ _ d,rfl,rfl,q,l,m,n,p,k,ne⟩
def PY{K:aW}{st:Stmt}{g:agg}(X:K.In h)(G:h.Ns af3 mg)(a:W.nsIn K af3 x=some (some (.ref o)))(l:K.lookup o=some ⟨C,J,.func g,U⟩)(p:g.code=.ref c) :
  ∀(f:Addr)(j:Value)(n:Option Addr)(ei b pm:Value)(i:Option Addr)(d cM:Value)(k:Array (Option Value)),mg x=some (.ref f)->K.lookup f=some ⟨j,n,.func (ahw x x (ly st) (hA st) (eo st) .none ei b pm i d cM),k⟩->d=.ref c:=by
 intro f j n ei b pm i d cM k q m;have e:=W.mg_of X G a;rw[q]at e;cases e;rw[l]at m;cases m;exact p
def N3{l:W.OpenLaw}{w:World}{K:aW}{mg:bx}{h:Addr}{k:Nat}{st:Stmt}[aE.a5](j:mg "law"=some (.ref h))(i:iL K mg "law" st ["script"])
  (n:∀(ei c pm:Value)(e:Option Addr)(g cM v:Value),air (ahw "law" "law" (ly st) (hA st) (eo st) .none ei c pm e g cM) ⟨[v],[]⟩=pure [(("script":Str),v)])
  (ok:∀(base:Heap),ll base mg->∀(f:Addr)(a:agg),lp K "law" "law" st f a->f6 l.prog w K mg base fi k f a ["script"] (vP K)) :
  ∃a:agg,(∀(s:afa)(v:Value),BindsTo s a ⟨[v],[]⟩ [("script",v)])/\∀base:Heap,K.In base->base.Ns af3 mg->ll base mg->f6 l.prog w K mg base fi k h a ["script"] (vP K):=by
 refine cc λd=>?_
 obtain⟨f,a,F,b,m⟩:=i.ex;cases(afy (j.symm.trans m));refine d ⟨a,λs v=>?_,λbase _ _ bm=>ok base bm h a F⟩;refine cc λd=>?_
 obtain⟨p,u,ei,c,pm,e,g,cM,r,rfl,t,q⟩:=F.ex;exact d (.of_eq (n ei c pm e g cM v))
def UO{P:afA}{w:World}{K:aW}{mg I:bx}{k:Nat}{L a:Addr}{Y:agg}{c:afa}{B:List Value}{ns:List Int}[aE.a5]
  (X:K.In c.heap) (U:c.heap.Ns af3 mg) (f:c.heap.Ns aiQ I) (SY:∀x:Str,x≠"__name__"->I x=afW x) (Tg:c.heap.NoLimit) (bD:c.gens=#[])
  (A:c.heap.get? a=some { cls:=.type "list",data:=.seq B.toArray }) (hi:agI B ns) (hl:ns.length<=63) (aA:c6 k ai2)
  (A4:ll c.heap mg) (F:∀base:Heap,K.In base->base.Ns af3 mg->ll base mg->f6 P w K mg base fi k L Y ["script"] (vP K)) (qB:∀(s:afa)(u:Value),BindsTo s Y ⟨[u],[]⟩ [("script",u)])
  (i:∀p,a5.f5 p->c.heap.get? p=some (W.tabObj #[])/\isCodeTable c.heap p/\K.lookup p=none) :
  ah2 (model P w) ai2 (.call (.ref L) ⟨[.ref a],[]⟩) (λr g=>r=.ok (.ret (.bool true))/\OldK c.heap g.heap/\g.os=c.os/\ah1 g.gens) c:=by
 have T:=MS hi;have O:ns.length<=afe:=by rw[afM];omega
 have Vp:¬a5.f5 a:=λz=>by have:=(i a z).1;rw[A]at this;cases this
 have j:∀H:av,(∀b,H b=none\/(∃o xs,H b=some (.cz o (.l xs)))\/(a5.f5 b/\H b=some (.fH #[])))->cL K H a (ns.map V.int)->TabsOk H->f9 P w H c.heap->(∀b,H b≠none->b=a\/a5.f5 b)->(∀b,H b≠none->K.lookup b=none)->
   ah2 (model P w) ai2 (.call (.ref L) ⟨[.ref a],[]⟩) (λr g=>r=.ok (.ret (.bool true))/\OldK c.heap g.heap/\g.os=c.os/\ah1 g.gens) c:=by
  intro H RQ cW RT cf Z hn;have vl:∀{b:Addr}{o:Obj}{aw:Array DictEntry}{cV:Nat},c.heap.get? b=some o->o.data=.dict aw cV->H b=none:=λ{b o aw cV} e d=>by
   cases q:H b with
   |none=>rfl|some u=>
    rcases Z b (by rw[q];simp)with C|C
    .subst C
     rw[A]at e;cases e;cases d
    .rw[(i b C).1]at e;cases e
     cases d
  have G:∀{b:Addr}{m:bx},c.heap.Ns b m->(n0 c.heap H).Ns b m:=λ{b m} ⟨o,aw,cV,e,d,r⟩=>⟨o,aw,cV,Be e (vl e d),d,r⟩
  have R:K.In (n0 c.heap H):=λb o e=>Be (X b o e) (by
   cases q:H b with
   |none=>rfl| some u=>rw[hn b (by rw[q];simp)]at e;cases e)
  have RP:Mod K mg (n0 c.heap H):=⟨R,G U,⟨I,G f,SY⟩,let⟨Vc,ae,af⟩:=Tg;⟨Vc,G ae,af⟩⟩;have cx:nt P w K mg (n0 c.heap H) ai2 [] c H:=⟨rfl,RP,λb o e=>WU e,aif (Tb _ _),trivial,λb f=>absurd (show b∈([]:List Addr)from f) (by simp),cf,.of_eq bD⟩;have RJ:ll (n0 c.heap H) mg:=by
   obtain⟨bm,o,f',gb,j2,D,t2,t4,N⟩:=A4.ex;refine⟨bm,o,f',gb,j2,Be D ?_,t2,t4,N⟩
   cases q:H bm with
   |none=>rfl|some u=>
    rcases Z bm (by rw[q];simp)with C|C
    .subst C
     rw[A]at D;cases D;cases N
    .rw[(i bm C).1]at D;cases D
     cases N
  refine ahE ((F _ R (G U) RJ).run ai2 [] c H ⟨[.ref a],[]⟩ [.ref a] [.ref a] (λv _=>v=.aM true) jz aA cx (qB c (.ref a)) (.cons rfl .nil) ⟨a,ns,rfl,cW,hl,RT,λ_=>rfl⟩) λr g h=>?_
  cases r with
  |error e=>exact afU h|ok bg=>
   cases bg with
   |next=>exact afU h
   |brk=>exact afU h|cont=>exact afU h|ret u=>
    obtain⟨v,H',os,bare,un,Q,bL,q⟩:=h;have gN:=q;subst gN;obtain rfl:=bL;have n:∀b o,c.heap.get? b=some o->asItWas c.heap g.heap b o/\∃o',g.heap.get? b=some o':=λb o e=>by
     rcases RQ b with z|⟨cq,xs,z⟩|⟨t,z⟩
     .have:=un.keep b o e z (by intro w;exact absurd (show b∈([]:List Addr)from w) (by simp)) (by simp)
      exact⟨.inl this,o,this⟩
     .have M:=un.nS b cq _ z
      obtain⟨ao,_⟩:=cf b _ z;obtain⟨aG,_⟩:=Q b _ M;rw[e]at ao;cases ao;exact⟨.inl aG,_,aG⟩
     .obtain⟨more,M⟩:=un.oA b #[] z
      have aG:=Q b _ M;rw[(i b t).1]at e;cases e;exact⟨.inr (.inl ⟨(i b t).2.1,rfl,#[],more,rfl,aG⟩),_,aG⟩
    exact⟨rfl,⟨λb o e=>(n b o e).1,λb o e=>(n b o e).2⟩,os,bare⟩
 classical
 have S:∀(H:av),(∀p,a5.f5 p->H p=some (.fH #[]))->TabsOk H:=λH h p y=>⟨#[],h p y,trivial,λpos iw z=>by cases z⟩
 cases J:K.lookup a with
 |some o=>
  have e:=X a o J;rw[A]at e;cases e;refine j (λb=>if a5.f5 b then some (.fH #[])else none) (λb=>?_) (.inr ⟨_,B.toArray,_,J,rfl,rfl,rfl,by rw[afd,hi.length];exact O,by simpa using T⟩) (S _ λp y=>if_pos y) (λb u z=>?_) (λb z=>?_) λb z=>?_
  .by_cases t:a5.f5 b
   .exact .inr (.inr ⟨t,if_pos t⟩)
   .exact .inl (if_neg t)
  .by_cases t:a5.f5 b
   .have E:=(if_pos t).symm.trans z
    cases E;exact(i b t).1
   .have E:=(if_neg t).symm.trans z
    cases E
  .by_cases t:a5.f5 b
   .exact .inr t
   .exact absurd (if_neg t) z
  .by_cases t:a5.f5 b
   .exact(i b t).2.2
   .exact absurd (if_neg t) z
 |none=>
  refine j (λb=>if b=a then some (.cz { cls:=.type "list",data:=.seq B.toArray } (.l (ns.map V.int)))else if a5.f5 b then some (.fH #[])else none) (λb=>?_) (.inl (.inr ⟨{ cls:=.type "list",data:=.seq B.toArray },if_pos rfl⟩)) (S _ λp y=>?_) (λb u z=>?_) (λb z=>?_) λb z=>?_
  .by_cases f:b=a
   .exact .inr (.inl ⟨_,_,if_pos f⟩)
   .by_cases t:a5.f5 b
    .exact .inr (.inr ⟨t,by rw[if_neg f,if_pos t]⟩)
    .exact .inl (by rw[if_neg f,if_neg t])
  .rw[if_neg (by rintro rfl;exact Vp y),if_pos y]
  .by_cases f:b=a
   .have E:=(if_pos f).symm.trans z
    cases E;subst f;exact⟨A,by rw[sg];exact O,B,_,T,A⟩
   .try dsimp only at z
    rw[if_neg f]at z
    by_cases t:a5.f5 b
    .rw[if_pos t]at z;cases z
     exact(i b t).1
    .rw[if_neg t]at z;cases z
  .by_cases f:b=a
   .exact .inl f
   .try dsimp only at z
    rw[if_neg f]at z
    by_cases t:a5.f5 b
    .exact .inr t
    .rw[if_neg t]at z;exact absurd rfl z
  .by_cases f:b=a
   .rw[f];exact J
   .try dsimp only at z
    rw[if_neg f]at z
    by_cases t:a5.f5 b
    .exact(i b t).2.2
    .rw[if_neg t]at z;exact absurd rfl z
def aaM{l:W.OpenLaw}{q:afA}{k:Nat}{j:List Str}{wO:(Str->Option Value)->Heap->Prop}{B:World->Heap->Prop}{d:DefRec}{K:Params->aW}(ln:List Str)(V:l.most=some 63)(H:d.params.defaults=[])(O:c6 k ai2)
  (L:∀x∈ln,∃d,(recsOf q).find? (λe=>e.name==x)=some d) (N:∀p,W.noTabs (K p)=true)
  (M:∀(w:World)(h:Heap),B w h->(K w.params).In h)
  (F:∀(w:World)(mg:bx)(r:Addr)(h:Heap),(K w.params).In h->h.Ns af3 mg->mg d.name=some (.ref r)->
   ∃y:agg,(∀(s:afa)(u:Value),BindsTo s y ⟨[u],[]⟩ [("script",u)])/\∀base:Heap,(K w.params).In base->base.Ns af3 mg->ll base mg->@f6 l.prog w (K w.params) mg base fi k r y ["script"] (@vP (tj w (K w.params) ln) (K w.params))) :
  W.WalkO q j wO B l.row.toRowW d [] (λf D=>PySem.call f D):=by
 refine D1.N_ V H λw gz C mg cZ r o pm cd J a D ns G Y aL hd fE qG I i m X=>?_
 have n:=M w _ Y;obtain⟨y,R,nX⟩:=F w mg r _ n G.T.g qG
 letI:=tj w (K w.params) ln
 have E:ll C.heap mg:=by
  obtain⟨bm,cq,U,gb,z,mx,t2,A⟩:=G.T.bmain;refine⟨bm,cq,U,gb,λq=>?_,z,mx,t2,A⟩;obtain⟨o,aw,cV,e,hd,_⟩:=G.T.g;rw[q,e]at z;cases z;rw[hd]at A;cases A
 refine UO n G.T.g G.T.b G.T.builtins G.T.nolimit X I i m O E nX R λp P=>?_
 obtain⟨x,S,c,Z⟩:=P;obtain⟨d,hd⟩:=L x S;obtain⟨Q,t⟩:=W.tab_of G.T n hd Z;refine⟨t,(Q.tab t).isCodeTable,?_⟩
 cases e:(K w.params).lookup p with
 |none=>rfl|some o=>
  have aG:=n p o e;rw[t]at aG;cases aG;exact absurd (show false=true from(af4.mp (N w.params) (p,_) (W.mem_of_lookupK e))) afc
def Kb{K:aW}{h:Heap}{mg:bx}{x:Str}{st:Stmt}{ln:List Str}{f c P:Addr}{k u:Value}{m E:Option Addr}{r:agg}{cA I:Array (Option Value)}{e:Array Value}{g:Str}{N b_ H:Tok}{b i:Int}{L:Bool}(X:K.In h)(G:h.Ns af3 mg)(n:x∈ln)
  (a:W.nsIn K af3 x=some (some (.ref f))) (l:K.lookup f=some ⟨k,m,.func r,cA⟩) (s:r.code=.ref c) (d:K.lookup c=some ⟨u,E,.fields e,I⟩) (M:u=.type "code") (t:e[11]? = some (.ref P)) (z:e.getD 11 .none=.ref P)
  (A:e.getD 18 .none=.str g N) (B:e.getD 7 .none=.int b b_) (D:e.getD 9 .none=.bool L) (w:e.getD 10 .none=.int i H) (ne:c≠P) (inj:∀y∈ln,n4 K P y=true->y=x) {wl:World} :
  ∃c P,@p7 (tj wl K ln) K c P (qN x)/\∀(f:Addr)(k:Value)(m:Option Addr)(ei j pm:Value)(F:Option Addr)(q cM:Value)(o:Array (Option Value)),mg x=some (.ref f)->K.lookup f=some ⟨k,m,.func (ahw x x (ly st) (hA st) (eo st) .none ei j pm F q cM),o⟩->q=.ref c:=by
 subst M;have p:=DC a l s d t;exact⟨c,P,@p7.mk (tj wl K ln) K c P (qN x) (S3 d t z A B D w ne) ⟨x,n,c,p⟩ (YG n p inj),PY X G a l s⟩
end aY
namespace aY
open PySem PySem.Spec aE PyProof.Rows
variable[aE.a5]
section
variable{X:aR}{k:Nat}{e:Expr}{ma:br}{Z:fu}{p pos kp:Pos}{mf:bV}
def M1{nm:Str}{x:String}{F:bV->R->M R}{c P:Addr}{q p1:Str}{params:aix}{body:Expr}{scope:Scope}{l:Pos}{m:br}(G:scope.names=[(p1,.local)])(B:tM X nm (k+1) x F)(h:d5 X nm)(n:X.mg nm=none)(a:c6 (k+3) X.A)(L:p7 X.K c P q)(E:ll X.base X.mg)(z:X.env.code=.ref c)
  (i:X.env.qual++afL "<lambda>"=q) (b:jA [p1] [p1] scope)
  (t:∀(c:Addr)(pm r u:Value),air (W.kla_fn (afL "<lambda>") q params body scope [] pm (.ref c) r) ⟨[u],[]⟩=pure [(p1,u)])
  (d:∀(f c:Addr)(A:afI)(s:afa)(H:av),c6 k (A.deeper (ahF q scope s.heap.objs.size f (.ref c)))->bp (ix fi X.prog X.w X.K X.mg X.base [p1] q scope f (.ref c) A X.stack s H jz).h_ body m)
  (g:bp X e ma) (D:defaultsOf params X.env=([],[]):=by rfl) (y:aiR scope X.env=pure []:=by rfl)
  (he:tW X pos e:=by rfl)
  (aC:fm X e []:=by rfl)
  (j:gF X pos [e]:=by rfl) :
  bp X (.Call (.Name nm p) [e] [⟨some (afL "key"),.Lambda params body scope l,kp⟩] pos) (t_ F (fnOf 1 1 (bh m)) ma):=
 ⟨PT (N:=[p1]) B h n a L E z i b t (λf c A s H a=>(d f c A s H a).un) g.un D y he aC j⟩
def abd{x p1:Str}{i:Pos}(l:Z.Ok)(d:d5 X "sorted")(j:X.mg "sorted"=none)(b:c6 (k+2) X.A)(h:gC X.prog X.w X.K X.mg X.base x [p1] k (i3 X.K X.mg mf))(a:d5 X x)(c:bp X e ma)
  (f:eT x:=by decide)
  (he:tW X pos e:=by rfl)
  (aC:fm X e []:=by rfl)
  (g:gF X pos [e]:=by rfl) :
  bp X (.Call (.Name "sorted" p) [e] [⟨some (afL "key"),.Name x i,kp⟩] pos) (nK Z mf ma):=⟨PU l d j b h a c.un f he aC g⟩
end
end aY
namespace aY
open PySem PySem.Spec aE PyProof.Rows
def o6(z:Str)(lo hi:Option Int):Str:=⟨(cutD z.cps.toList lo hi).toArray⟩
def Cr:R->Option Int->Option Int->M R
 |.v (.str z),lo,hi=>if z.length<=afe then pure (.v (.str (o6 z lo hi)))else bad|_,_,_=>bad
@[simp] def rJ(a:br)(lo hi:mn)(U:aN):M R:=do
 let x <-a U
 let l <-lo U
 let h <-hi U
 Cr x l h
def part_of{v:Value}{o:Option Int}(h:aiy v o):∃l:Option (Int×Tok),v=partValue l/\l.map (·.1)=o:=by
 cases h with
 |none=>exact⟨none,rfl,rfl⟩|int i t=>exact⟨some (i,t),rfl,rfl⟩
def L_(n d:Nat)(hd:d<=n)(o:Option Int):cG.cj n d o<=n:=by
 unfold cG.cj
 cases o with
 |none=>exact hd|some i=>simp only[];split<;>omega
def Yh(z:Str)(lo hi:Option Int):(agM lo hi 1 z.length).filterMap (λx=>z.cps[x]?)=cutD z.cps.toList lo hi/\(agM lo hi 1 z.length).length=cG.cj z.length z.length hi-cG.cj z.length 0 lo:=by
 obtain⟨a,b,c⟩:=Mi lo hi z.length;have e:agM lo hi 1 z.length=sliceRange (agX lo hi none z.length).1 (agX lo hi none z.length).2.1 1:=rfl;rw[e,a,b,sliceRange_one];refine⟨?_,by rw[sg,agT]⟩;rw[pick_run];unfold cutD;rw[show z.cps.toList.length=z.length from afN]
def P6{z:Str}{lo hi:Option Int}(h:cG.cj z.length z.length hi-cG.cj z.length 0 lo=z.length):o6 z lo hi=z:=by
 have c:=L_ z.length 0 (afC _) lo;have d:=L_ z.length z.length (ae9 _) hi;have b:z.cps.toList.length=z.length:=afN;unfold o6 cutD;rw[b];have a:cG.cj z.length 0 lo=0\/z.length=0:=by omega
 have:(z.cps.toList.drop (cG.cj z.length 0 lo)).take (cG.cj z.length z.length hi-cG.cj z.length 0 lo)=z.cps.toList:=by
  rcases a with a|a
  .rw[a,aho,agd (by omega)]
  .have:z.cps.toList=[]:=aim (by omega)
   rw[this];simp
 rw[this]
def P4(z:Str)(lo hi:Option Int):(o6 z lo hi).length<=z.length:=by
 show(cutD z.cps.toList lo hi).toArray.size<=z.cps.size;rw[afd];unfold cutD;rw[afO,afP,afN];omega
def Zn:oV X (λx lo hi H Q=>∃z,x=.str z/\z.length<=afe/\Q (.str (o6 z lo hi)) H):=by
 rintro h s U H x v j i lo hi cA Q J a aC pl g ⟨z,ex,hz,q⟩;subst ex;obtain⟨t,rfl⟩:=a;obtain⟨l,rfl,el⟩:=part_of pl;obtain⟨u,rfl,f⟩:=part_of g;refine⟨"str",_,slot_str_getitem.lookup,typeIs_str s z t,?_⟩;refine wpAny_getItem_str_slice (l:=l) (u:=u) (st:=none) aC rfl ?_;obtain⟨p1,d⟩:=Yh z lo hi;have cV:slicePicked z l u none=agM lo hi 1 z.length:=by
  unfold slicePicked;rw[el,f];rfl
 unfold sliceMade;rw[cV,d]
 by_cases c:cG.cj z.length z.length hi-cG.cj z.length 0 lo=z.length
 .rw[if_pos (by simp[c])]
  rw[P6 c]at q;exact⟨.str z,H,J,⟨t,rfl⟩,q⟩
 .rw[if_neg (by simp[c])]
  show _<=afe/\_;rw[p1];refine⟨af7 (P4 z lo hi) hz,.str (o6 z lo hi),H,?_,⟨s.toks,rfl⟩,q⟩;exact J.kept (t':=s.toks+1) λb o e=>e
variable[aE.a5]
section
variable{X:aR}{e:Expr}{m:br}{lo hi:Option Expr}{gZ mh:mn}{pos gM:Pos}
def abc(he:bp X e m)(I:rF X lo gZ)(s:rF X hi mh):bp X (.Subscript e (.Slice lo hi none gM) pos) (rJ m gZ mh):=⟨es (K6 Zn he.un I.un s.un) λT H Q i=>by
 obtain⟨O,U,S,r,R,st,h,q⟩:=i;obtain⟨x,S1,n,b⟩:=M.inv h;clear h;obtain⟨l,d,p,a⟩:=M.inv b;clear b;obtain⟨u,L,w,h⟩:=M.inv a;clear a;refine⟨O,U,S,x,S1,st,n,λf B N D j k a6=>?_⟩;refine⟨f,U,S1,l,d,j,p,λt P E y=>?_⟩;refine⟨t,U,d,u,L,y,w,λG A F K=>?_⟩;have g:=(D.trans E).trans F;unfold Cr at h;split at h
 .rename_i z
  by_cases c:z.length<=afe
  .rw[if_pos c]at h
   cases h;cases(show B=.str z from k);exact⟨z,rfl,c,q G _ A g K rfl trivial⟩
  .rw[if_neg c]at h;cases h
 .cases h⟩
end
omit [aE.a5]in
@[simp] theorem aes{z:Str}{lo hi:Option Int}:Cr (.v (.str z)) lo hi=if z.length<=afe then pure (.v (.str (o6 z lo hi)))else bad:=rfl
end aY
namespace aY
open PySem PySem.Spec aE PyProof.Rows
structure tH(P:afA)(w:World)(K:aW)(mg:bx)(x:Str)(ps:List (Str×Str)):Prop where
 ex:∃(a:Addr)(aw:Array DictEntry)(n:Nat),mg x=some (.ref a)/\List.lookup a K=some { cls:=.type "dict",data:=.dict aw n }/\KeysOf (PySem.strKind P w) aw/\
  ∀k fn,ps.lookup k=some fn->∃f,findBy aiD aw k=some (.ref f)/\mg fn=some (.ref f)
@[simp] def Aj(ps:List (Str×Str))(mk:br)(U:aN):M R:=do
 let k <-mk U
 match k with
 |.v (.str z)=>match ps.lookup z with
  |some fn=>pure (.v (.fn fn))|none=>bad
 |_=>bad
@[simp] def Ag(i:Nat)(fs:List (Str×bV))(ms:cJ)(U:aN):M R:=match U[i]? with
 |some (.val (.fn f))=>match fs.lookup f with
  |some mf=>b2 mf ms U|none=>bad
 |_=>bad
def Z8(mg:bx)(ps:List (Str×Str))(ty:TE):TE:=λU H Q=>ty U H λy a=>∃z fn f,y=.str z/\ps.lookup z=some fn/\mg fn=some (.ref f)/\Q (.ref f) a
variable[aE.a5]
section
variable{X:aR}{x:Str}{ps:List (Str×Str)}{i:Expr}{pos p:Pos}{ty:TE}{mk:br}{j k:Nat}{e:Expr}{aw:List Expr}{ms:cJ}{pp:List Str}{fs:List (Str×bV)}
omit [aE.a5]in
theorem X7(T:tH X.prog X.w X.K X.mg x ps)(r:d5 X x)(hi:ck X i ty)(aC:tP i)(A:eT x:=by decide):ck X (.Subscript (.Name x p) i pos) (Z8 X.mg ps ty):=by
 intro m s U H Q J h;refine cc λb=>?_
 obtain⟨a,ds,n,G,F,q,E⟩:=T.ex;refine b ?_;refine Mt aiW.lookup aC (uY J r G ?_ A);refine cn (hi m s U H _ J h) λI M g=>?_
 refine cc λb=>?_
 obtain⟨y,l,d,u,z,fn,f,B,el,D,cR⟩:=g;subst B;obtain⟨t,rfl⟩:=u;have c:=d.iY a _ F;obtain⟨L,ao,aG⟩:=E z fn el;rw[D]at aG;cases aG;refine b ⟨⟨_,c,rfl⟩,?_⟩;refine wpAny_getItem_of (knd:=PySem.strKind X.prog X.w) ?_ ?_ ao ?_
 .show(z==z)=true
  simp
 .exact⟨_,ds,n,c,⟨rfl,rfl,rfl⟩,rfl,q,λ_=>rfl⟩
 .exact⟨.ref f,l,d.tok _,rfl,cR⟩
omit [aE.a5]in
theorem XR(hN:X.N[j]? = some x)(z:nH X.env.scope x)(y:c6 k X.A){t:fC}(D:gR X (e::aw) t)(I:eT x:=by decide)(M:(x==("__classdict__":Str))=false:=by decide)
  (he:fm X e aw:=by rfl) (O:gF X pos aw:=by rfl) :
  ck X (.Call (.Name x p) (e::aw) [] pos) (λU H Q=>∃(f:Addr)(c:agg)(d:iM),U[j]? = some (some (.ref f))/\f6 X.prog X.w X.K X.mg X.base fi k f c pp d/\Binds X.K c pp []/\ais X.K (.ref f)=true/\t U H λm a=>d m a Q jz):=by
 rintro g s U H Q J ⟨f,c,d,L,F,b,kp,h⟩;refine agK (cn (sS hN z I M g s U H (λv n=>v=.ref f/\n=H) J ⟨.ref f,L,rfl,rfl⟩) λu P B=>?_);obtain⟨v,a,E,G,ao,aG⟩:=B;subst ao aG;obtain rfl:=G;refine W.callWith_K J.ok.mod.sm kp (cn (D pos g P U a _ E h) λT S ⟨m,R,l,r,q⟩=>⟨l.iY,?_⟩) he O;exact Di F y b .nil CI l r (by simpa only[agO]using q)
def M4(T:tH X.prog X.w X.K X.mg x ps)(m:d5 X x)(hi:bp X i mk)(aC:tP i:=by exact λ_ _=>rfl)(s:eT x:=by decide):bp X (.Subscript (.Name x p) i pos) (Aj ps mk):=⟨es (X7 T m hi.un aC s) λB H Q d=>by
 obtain⟨O,U,S,r,A,st,h,q⟩:=d;obtain⟨y,S1,l,h⟩:=M.inv h;split at h
 .rename_i z
  split at h
  .rename_i fn el
   cases h;obtain⟨_,_,_,_,_,_,u⟩:=T.ex;obtain⟨f,_,a⟩:=u z fn el;refine⟨O,U,S,_,_,st,l,λc v b t g n nn=>?_⟩;exact⟨z,fn,f,n,el,a,q c _ b t g ⟨f,rfl,a⟩ trivial⟩
  .cases h
 .cases h⟩
def aaY(n:∀f mf,fs.lookup f=some mf->gC X.prog X.w X.K X.mg X.base f pp k (i3 X.K X.mg mf))(hN:X.N[j]? = some x)(t:nH X.env.scope x)(s:c6 k X.A)(D:fQ X (e::aw) ms)(E:eT x:=by decide)(G:(x==("__classdict__":Str))=false:=by decide)
  (he:fm X e aw:=by rfl) (M:gF X pos aw:=by rfl):bp X (.Call (.Name x p) (e::aw) [] pos) (Ag j fs ms):=⟨es (XR hN t s D.un E G he M) λd H Q u=>by
  refine cc λz=>?_
  obtain⟨O,U,S,r,B,st,h,q⟩:=u;unfold Ag at h;split at h
  .rename_i f P
   split at h
   .rename_i mf el
    obtain⟨I,L,F,b,kp,m⟩:=(n f mf el).ex;obtain⟨v,c,a,rfl,g⟩:=st.loc j _ P;have:a=I:=by
     rw[m]at g;cases g;rfl
    subst this;have l:d[j]? = some (some (.ref a)):=by
     cases w:d[j]? with
     |none=>rw[w]at c;cases c
     |some y=>rw[w]at c;exact congrArg some c
    exact z ⟨a,L,_,l,F,b,kp,Ak d H Q ⟨O,U,S,r,B,st,h,q⟩⟩
   .cases h
  .cases h⟩
end
omit [aE.a5]in
theorem lookup_all{α f:Type}[BEq α][LawfulBEq α]{P:α->f->Prop}:∀{l:List (α×f)},(∀x∈l,P x.1 x.2)->∀a b,l.lookup a=some b->P a b
 |[],_,_,_,h=>by cases h
 |(c,d)::l,o,a,b,h=>by
  rw[afs]at h;split at h
  .rename_i e
   cases h;rw[eq_of_beq e];exact o _ afq
  .exact lookup_all (λx g=>o x (afl _ g)) a b h
omit [aE.a5]in
theorem Rh{P:afA}{w:World}{K:aW}{h:Heap}{mg:bx}{x:Str}{d:Addr}{aw:Array DictEntry}{n:Nat}{ps:List (Str×Str)}(X:K.In h)(G:h.Ns af3 mg)
  (a:W.nsIn K af3 x=some (some (.ref d))) (l:List.lookup d K=some { cls:=.type "dict",data:=.dict aw n }) (k:∀e∈aw.toList,∃s,aiD s e.key=true/\e.hash=hashStr w s)
  (f:∀p∈ps,∃f,W.nsIn K d p.1=some (some (.ref f))/\W.nsIn K af3 p.2=some (some (.ref f))):tH P w K mg x ps:=by
 refine⟨d,aw,n,W.mg_of X G a,l,λe he=>?_,lookup_all (P:=λk fn=>∃f,findBy aiD aw k=some (.ref f)/\mg fn=some (.ref f)) λp g=>?_⟩
 .obtain⟨s,b,c⟩:=k e (by simpa using he)
  exact⟨s,b,c⟩
 .obtain⟨f,b,c⟩:=f p g
  exact⟨f,W.find_K l b,W.mg_of X G c⟩
omit [aE.a5]in
@[simp] theorem aem:c3 (.fn f)=.val (.fn f):=rfl
omit [aE.a5]in
theorem KD{K:aW}{P a c:Addr}{x y:Str}(b:W.tabIn K y=some (c,a))(ne:a≠P)(h:n4 K P y=true):y=x:=by
 unfold n4 at h;rw[b]at h;exact absurd (eq_of_beq h) ne
end aY
namespace aY
open PySem PySem.W PyProof.Rows
def fM{α:Type}(n:Nat)(lt:Nat->Nat->Bool):KasT α->(α->Prop)->Prop
 |.ret a,Q=>Q a|.ask i j k,Q=>i<n/\j<n/\fM n lt (k (lt i j)) Q
theorem fM.bind{α b:Type}{n:Nat}{lt:Nat->Nat->Bool}{f:α->KasT b}{Q:b->Prop}:∀{t:KasT α},fM n lt t (λa=>fM n lt (f a) Q)->fM n lt (t.bind f) Q
 |.ret _,h=>h|.ask _ _ k,h=>⟨h.1,h.2.1,fM.bind h.2.2⟩
theorem fM.imp{α:Type}{n:Nat}{lt:Nat->Nat->Bool}{Q c:α->Prop}(b:∀a,Q a->c a):∀{t:KasT α},fM n lt t Q->fM n lt t c
 |.ret a,h=>b a h|.ask _ _ k,h=>⟨h.1,h.2.1,fM.imp b h.2.2⟩
theorem fM.wp{α:Type}{n:Nat}{lt:Nat->Nat->Bool}{c:Nat->Nat->(Bool->afa->Prop)->afa->Prop}{W:afa->Prop}(d:∀i j C s,i<n->j<n->W s->(∀b,W b->C (lt i j) b)->c i j C s){G:α->afa->Prop} :
  ∀{t:KasT α}{s:afa},W s->fM n lt t (λa=>∀b,W b->G a b)->t.kasWp c G s
 |.ret _,s,w,h=>h s w|.ask i j k,s,w,h=>d i j _ s h.1 h.2.1 w λb e=>fM.wp d e h.2.2
structure Ord(n:Nat)(lt:Nat->Nat->Bool):Prop where
 ky:∀i j k,i<n->j<n->k<n->lt i j=true->lt j k=true->lt i k=true
 MD:∀i j,i<n->j<n->i≠j->lt i j=false->lt j i=true
 acX:∀i j,i<n->j<n->lt i j=true->lt j i=false
structure Row(n:Nat)(p:Array Nat):Prop where
 k8:p.size=n
 lt:∀i,i<n->p.getD i 0<n
 ap:∀i j,i<n->j<n->i≠j->p.getD i 0≠p.getD j 0
 pm:p.toList.Perm (afR n)
def Df{p:Array Nat}(h:p.toList.Perm (afR n)):Row n p:=by
 have k8:p.size=n:=by
  have:=h.length_eq;simpa using this
 have bt:∀i,i<n->p.toList[i]? = some (p.getD i 0):=λi hi=>by
  have:i<p.size:=by omega
  simp[ this]
 refine⟨k8,λi hi=>?_,λi j hi a ne e=>?_,h⟩
 .exact agp.mp (h.mem_iff.mp (km (bt i hi)))
 .have c2:=h.nodup_iff.mpr List.nodup_range
  have ao:=bt i hi;rw[e,<-bt j a]at ao;exact ne ((List.getElem?_inj ((by omega:i<p.size)) c2).mp ao)
def Row.KJ(h:Row n p)(e:q.Perm p):Row n q:=Df (e.toList.trans h.pm)
abbrev nk(lt:Nat->Nat->Bool)(p:Array Nat)(m:Nat):Prop:=∀i j,i<j->j<m->lt (p.getD i 0) (p.getD j 0)=true
section
variable{n:Nat}{lt:Nat->Nat->Bool}(O:Ord n lt)
include O
theorem ED{p:Array Nat}(h:Row n p)(e:m<=n)(b:∀i,1<=i->i<m->lt (p.getD (i-1) 0) (p.getD i 0)=true):nk lt p m:=by
 intro i j f
 induction j with
 |zero=>omega|succ j c=>
  intro d;have a:=b (j+1) (by omega) d
  by_cases q:i=j
  .subst q;exact a
  .exact O.ky _ _ _ (h.lt i (by omega)) (h.lt j (by omega)) (h.lt (j+1) (by omega)) (c (by omega) (by omega)) a
theorem flip{p:Array Nat}(h:Row n p)(a:1<=i)(hi:i<n)(e:lt (p.getD i 0) (p.getD (i-1) 0)=false):lt (p.getD (i-1) 0) (p.getD i 0)=true:=
 O.MD _ _ (h.lt i hi) (h.lt (i-1) (by omega)) (h.ap i (i-1) hi (by omega) (by omega)) e
omit O in
theorem A7{p:Array Nat}(h:Row n p){Q:Nat->Prop}:∀(f m:Nat),1<=m->m+f=n->(∀a,m<=a->a<=n->(∀i,m<=i->i<a->lt (p.getD i 0) (p.getD (i-1) 0)=false)->(a=n\/a<n/\lt (p.getD a 0) (p.getD (a-1) 0)=true)->Q a)->fM n lt (kas_asc p f m) Q
 | 0,m,o,e,q=>q m (ae9 _) (by omega) (fun i _ _=>by omega) (.inl (by omega))|f+1,m,o,e,q=>by
  refine⟨h.lt m (by omega),h.lt (m-1) (by omega),?_⟩
  cases c:lt (p.getD m 0) (p.getD (m-1) 0)with
  |true=>exact q m (ae9 _) (by omega) (λi _ _=>by omega) (.inr ⟨by omega,c⟩)|false=>
   refine A7 h f (m+1) (by omega) (by omega) λa a1 a2 ed kH=>q a (by omega) a2 (λi d b=>?_) kH
   by_cases z:i=m
   .rw[z];exact c
   .exact ed i (by omega) b
theorem IT{p:Array Nat}(h:Row n p){Q:Array Nat×Nat×Nat->Prop}:∀(f m:Nat),1<=m->m+f=n->(∀a,m<=a->a<=n->(∀i,m<=i->i<a->lt (p.getD i 0) (p.getD (i-1) 0)=true)->Q (p,a,0))->fM n lt (kas_desc f p m 0) Q
 | 0,m,o,e,q=>q m (ae9 _) (by omega) (fun i _ _=>by omega)|f+1,m,o,e,q=>by
  refine⟨h.lt m (by omega),h.lt (m-1) (by omega),?_⟩
  cases c:lt (p.getD m 0) (p.getD (m-1) 0)with
  |true=>
   refine IT h f (m+1) (by omega) (by omega) λa a1 a2 ed=>q a (by omega) a2 λi d b=>?_
   by_cases z:i=m
   .rw[z];exact c
   .exact ed i (by omega) b
  |false=>
   refine⟨h.lt (m-1) (by omega),h.lt m (by omega),?_⟩;rw[flip O h o (by omega) c];exact q m (ae9 _) (by omega) (λi _ _=>by omega)
omit O in
theorem LR{p:Array Nat}(h:Row n p){m:Nat}(a:m<=n)(b:k<n):(kas_rev p 0 m).getD k 0=if k<m then p.getD (m-1-k) 0 else p.getD k 0:=by
 have e:=getElem?_mirror_all (i:=0) (by rw[h.k8];exact a) k;have bt:∀(q:Array Nat)(i:Nat),q.getD i 0=(q[i]?).getD 0:=λq i=>by simp
 rw[bt,bt,bt];unfold kas_rev;rw[e]
 by_cases z:k<m
 .rw[if_pos ⟨afC _,z⟩,if_pos z,agy]
 .rw[if_neg (λy=>z y.2),if_neg z]
theorem S2{Q:Nat×Array Nat->Prop}(h:Row n p)(r:1<=n)(q:∀m f,1<=m->m<=n->Row n f->nk lt f m->Q (m,f)):fM n lt (kas_count n p) Q:=by
 refine fM.bind (A7 h (n-1) 1 (ae9 _) (by omega) λm a1 a2 ed kH=>?_);have c:=ED O h a2 λi d b=>flip O h d (by omega) (ed i d b)
 by_cases e:m=n
 .rw[if_pos (by rw[e];exact beq_self_eq_true n)]
  exact q m p a1 a2 h c
 .rw[if_neg (by intro z;exact e (eq_of_beq z))]
  by_cases ao:m > 1
  .rw[if_pos ao]
   refine⟨h.lt 0 (by omega),h.lt (m-1) (by omega),?_⟩;rw[c 0 (m-1) (by omega) (by omega)];exact q m p a1 a2 h c
  .rw[if_neg ao]
   have l:m=1:=by omega
   subst l;have j:lt (p.getD 1 0) (p.getD 0 0)=true:=by
    rcases kH with z|z
    .exact absurd z e
    .exact z.2
   refine fM.bind (IT O h (n-(1+1)) (1+1) (by omega) (by omega) λm a1 a2 ed=>?_);have a:Row n (kas_rev p 0 m):=h.KJ (mirror_perm _ _ _ _);refine fM.bind (A7 a (n-m) m (by omega) (by omega) λg d b k _=>?_);refine q g _ (by omega) b a (ED O a b λi cX aa=>?_)
   by_cases z:i<m
   .rw[LR h a2 (by omega),LR h a2 (by omega),if_pos (by omega),if_pos z,show m-1-(i-1)=m-1-i+1 by omega]
    by_cases y:m-1-i+1=1
    .rw[y,show m-1-i=0 by omega];exact j
    .have:=ed (m-1-i+1) (by omega) (by omega)
     rwa[Nat.add_sub_cancel]at this
   .exact flip O a cX (by omega) (k i (by omega) aa)
theorem A8{p:Array Nat}(h:Row n p)(g:k<n){Q:Nat->Prop}(q:∀l,l<=k->(∀i,i<l->lt (p.getD i 0) (p.getD k 0)=true)->(∀i,l<=i->i<k->lt (p.getD k 0) (p.getD i 0)=true)->Q l)(j:nk lt p k) :
  ∀(f l r:Nat),r-l<=f->l<=r->r<=k->(∀i,i<l->lt (p.getD i 0) (p.getD k 0)=true)->(∀i,r<=i->i<k->lt (p.getD k 0) (p.getD i 0)=true)->fM n lt (kas_place p k f l r) Q
 |0,l,r,hf,C,o,a,b=>q l (by omega) a λi c d=>b i (by omega) d
 |f+1,l,r,hf,C,o,a,b=>by
  unfold kas_place
  by_cases e:l≥r
  .rw[if_pos e];exact q l (by omega) a λi c d=>b i (by omega) d
  .rw[if_neg e]
   have w:(l+r) / 2<r:=by omega
   have s:l<=(l+r) / 2:=by omega
   generalize(l+r) / 2=m at w s;refine⟨h.lt k g,h.lt m (by omega),?_⟩
   cases c:lt (p.getD k 0) (p.getD m 0)with
   |true=>
    refine A8 h g q j f l m (by omega) s (by omega) a λi u t=>?_
    by_cases z:i=m
    .rw[z];exact c
    .exact O.ky _ _ _ (h.lt k g) (h.lt m (by omega)) (h.lt i (by omega)) c (j m i (by omega) t)
   |false=>
    refine A8 h g q j f (m+1) r (by omega) (by omega) o (λi u=>?_) b;have c':=O.MD _ _ (h.lt k g) (h.lt m (by omega)) (h.ap k m g (by omega) (by omega)) c
    by_cases z:i=m
    .rw[z];exact c'
    .exact O.ky _ _ _ (h.lt i (by omega)) (h.lt m (by omega)) (h.lt k g) (j i m (by omega) (by omega)) c'
theorem IS{Q:Array Nat->Prop}(q:∀p,Row n p->nk lt p n->Q p):∀(f:Nat)(p:Array Nat)(k:Nat),Row n p->k+f=n->nk lt p k->fM n lt (kas_bin f p k) Q
 | 0,p,k,h,e,as=>q p h (by rw[<-e];exact as)|f+1,p,k,h,e,as=>by
  refine fM.bind (A8 O h (by omega) (λl w a b=>?_) as k 0 k (by omega) (afC _) (ae9 _) (λi z=>by omega) λi z y=>by omega);have s:Row n (bubble p k (k-l)):=h.KJ (bubble_perm _ _ _);have at':∀i,i<n->(bubble p k (k-l)).getD i 0=if i=l then p.getD k 0 else if l<i/\i<=k then p.getD (i-1) 0 else p.getD i 0:=λi hi=>by
   have e:=getElem?_bubble (src:=k) (by rw[h.k8];omega) (k-l) (by omega) i;have bt:∀(q:Array Nat)(i:Nat),q.getD i 0=(q[i]?).getD 0:=λq i=>by simp
   rw[bt,bt,bt,bt,e,show k-(k-l)=l by omega]
   by_cases z:i=l
   .rw[if_pos z,if_pos z]
   .rw[if_neg z,if_neg z]
    by_cases y:l<i/\i<=k
    .rw[if_pos y,if_pos y]
    .rw[if_neg y,if_neg y]
  refine IS q f _ (k+1) s (by omega) λi j t u=>?_
  rw[at' i (by omega),at' j (by omega)]
  by_cases d:i=l
  .rw[if_pos d,if_neg (by omega),if_pos (by omega)]
   exact b (j-1) (by omega) (by omega)
  .rw[if_neg d]
   by_cases c:l<i/\i<=k
   .rw[if_pos c,if_neg (by omega),if_pos (by omega)]
    exact as (i-1) (j-1) (by omega) (by omega)
   .rw[if_neg c]
    by_cases g:j=l
    .rw[if_pos g];exact a i (by omega)
    .rw[if_neg g]
     by_cases m:l<j/\j<=k
     .rw[if_pos m]
      by_cases r:i=j-1
      .exact absurd r (by omega)
      .exact as i (j-1) (by omega) (by omega)
     .rw[if_neg m];exact as i j t (by omega)
theorem S4(d:1<=n):fM n lt (kas_sort n) λp=>Row n p/\nk lt p n:=by
 have f:Row n (ahp (afR n)):=Df (by simp);refine fM.bind (S2 O f d λm p a1 a2 b c=>?_);have vf:max m 1=m:=by omega
 rw[vf]
 by_cases e:m<n
 .rw[if_pos e]
  exact IS O (λp h a=>⟨h,a⟩) _ _ _ b (by omega) c
 .rw[if_neg e]
  have:m=n:=by omega
  subst this;exact⟨b,c⟩
end
section
variable{prog:afA}{w:World}{A:afI}{E:dm}{s:afa}
abbrev kV(h:Heap)(a:Addr)(b:List Value):Heap:=((h.update a (afD λ_=>#[])).push (af5 "tuple" b.toArray 0)).push (af5 "list" #[] 0)
def Ve{h:Heap}(c:b≠a)(e:h.get? b=some o):(kV h a vs).get? b=some o:=
 afg _ (afg _ ((ahQ _ _ (ahK c)).trans e))
def Zj{a:List Value}(short:a.length<2):(arrOf (SortSt.mk' general' (a.toArray.zip a.toArray) #[] 7 none)).map (·.2)=ahp ((ahp (afR a.length)).toList.map λi=>a.getD i ag9):=by
 show(a.toArray.zip a.toArray).map (·.2)=_;rcases a with _|⟨_,_|⟨_,_⟩⟩
 .simp
 .simp
 .simp only[afE]at short;omega
def Zu{a:Addr}{b:List Value}{k:Nat}{u:Fin->afa->Prop}{lt:Nat->Nat->Bool}{κ:SortKind}(d:s.heap.get? a=some (af5 "list" b.toArray k))(D:b.length<64)(O:Ord b.length lt)
  (kind:2<=b.length->∀Q:SortKind->afa->Prop,Q κ { s with heap:=kV s.heap a b }->wpAny (model prog w) A (keyKind' b.toArray) Q (λ_ _=>False) { s with heap:=kV s.heap a b })
  (ask:∀(i j:Nat)(C:Bool->afa->Prop),i<b.length->j<b.length->C (lt i j) { s with heap:=kV s.heap a b }->kas_ask prog w A κ b i j C { s with heap:=kV s.heap a b })
  (fin:∀p:Array Nat,Row b.length p->nk lt p b.length->u (.done (.ret .none)) { s with heap:=sortedHeap s.heap a b (ahp (p.toList.map λi=>b.getD i ag9)) }) :
  wpAny (model prog w) A (Builtin.«list.sort» ⟨[.ref a],[]⟩) u E s:=by
 have r:=afp d;have h:b.toArray.size<=afe:=by rw[afd,afM];omega
 obtain⟨cV,c⟩:∃cV,(s.heap.update a (afD λ_=>#[])).get? a=some (af5 "list" #[] cV):=⟨_,agP d λ_=>#[]⟩;have l:(kV s.heap a b).get? a=some (af5 "list" #[] cV):=by
  rw[agU _ _ _ (by rw[size_push',ai9];exact afH (aiM r)),agU _ _ _ (by rw[ai9];exact afH r)];exact c
 rw[list_sort_plain];refine B1 (listItems_at d rfl (B1 (ag8 d rfl ?_ h (afC _))));refine B1 (aiw c rfl (B1 (wpAny_newTuple ?_ h)));refine B1 (ahZ (agi ?_) (afC _));dsimp only
 by_cases f:b.toArray.size<2
 .rw[if_pos f,if_pos f]
  have short:b.length<2:=by exact f
  refine B1 (afm ?_);refine B1 (afm ?_);have R:Row b.length (ahp (afR b.length)):=Df (by simp);rw[(Zj short)];refine B1 (aiw l rfl (B1 (ag8 l rfl ?_ (afC _) (by simp;omega))));simp only[ bne_self_eq_false];exact afm (fin _ R λi j F G=>by omega)
 .rw[if_neg f,if_neg f]
  have t:2<=b.length:=by rw[afd]at f;omega
  refine B1 (afX (kind t (λn g=>n=κ/\g={ s with heap:=kV s.heap a b }) ⟨rfl,rfl⟩) (λn g ⟨ao,aG⟩=>?_) λ_ _ z=>z.elim);subst ao aG;have m:(kas_sort b.length).kasWp (kas_ask prog w A n b) (λp g=>g={ s with heap:=kV s.heap a b }/\Row b.length p/\nk lt p b.length) { s with heap:=kV s.heap a b }:=
   fM.wp (W:=λg=>g={ s with heap:=kV s.heap a b }) (λi j C g hi y q B=>by subst q;exact ask i j C hi y (B _ rfl)) rfl ((S4 O (by omega)).imp λp x g q=>⟨q,x⟩)
  refine B1 (afX (kat_run (Q:=λst g=>∃p:Array Nat,g={ s with heap:=kV s.heap a b }/\(arrOf st).map (·.2)=ahp (p.toList.map λi=>b.getD i ag9)/\failedOf st=none/\Row b.length p/\nk lt p b.length)
   rfl t D (λp st g _ aG cI ⟨dh,jh,dW⟩=>⟨p,dh,kat_snds rfl aG,cI,jh,dW⟩) m) ?_ λ_ _ e=>e)
  rintro⟨⟨⟩,st⟩ g ⟨p,rfl,out,ok,R,S⟩;rw[out];refine B1 (aiw l rfl (B1 (ag8 l rfl ?_ (afC _) ?_)))
  .rw[ok]
   simp only[bne_self_eq_false];exact afm (fin p R S)
  .rw[afd,sg,afN,R.k8,afM];omega
end
end aY
namespace aY
open PySem PySem.Spec aE
section
variable{X:aR}{ah:cS}{U:St}{H:av}{s:afa}{h':Heap}
def Inv.MF{t':Nat}{ch:List Addr}(J:Inv X ah U H s)(k:∀b o,b∉ch->s.heap.get? b=some o->h'.get? b=some o)(d:∀b∈ch,g7 X ah H b):Inv X ah U H { s with heap:=h',toks:=t' }:=by
 have f:∀b u,H b=some u->b∉ch:=λb u e z=>by rw[(d b z).1]at e;cases e
 refine J.step (λb h=>?_) (λb o _ _ a e _=>k b o a e) (λb o _ _ a e _=>⟨o.slots,k b o a e⟩) (λ_ _ _ _ n=>n)
  (λb o a e=>⟨o,k b o a e⟩) (λ_ _ e=>e) (λ_ _ _ e=>e) (λb ps e=>⟨#[],by rw[e];simp⟩) (λm t=>?_) (λb u e=>?_) J.bare
 .obtain⟨_,i,_,l,j,p⟩:=d b h
  exact⟨l,i,j,p⟩
 .obtain⟨o,aw,cV,g,r⟩:=t
  exact⟨o,aw,cV,k _ o (λz=>(d _ z).2.1 rfl) g,r⟩
 .refine(J.cf b u e).q8 (λc v a q=>k c v ?_ q) (λ_ q=>q) λ_ _ q=>q
  rcases a with z|z
  .rw[z];exact f b u e
  .exact f c _ z
end
def NP(b:Bool)(K:aW)(H:av)(a:Addr)(xs:List V):Prop:=match b with
 |true=>dr K H a xs|false=>cL K H a xs
end aY
namespace aY
open PySem PySem.Spec aE
variable[aE.a5]
def qa(b:Bool)(K:aW)(O:a4)(H:av)(a:Addr)(ys:List V):Prop:=match b with
 |true=>dr K H a ys|false=>g9 K O H a ys
def qa.cN{O:a4}(h:qa b K O H a ys):NP b K H a ys:=by
 cases b with
 |true=>exact h|false=>exact g9.cN h
def qa.di{O c:a4}(g:dF O c H H')(h:qa b K O H a ys):qa b K c H' a ys:=by
 cases b with
 |true=>exact g.vQ h|false=>exact g.BR h
def tm(is:List Nat)(b:bc):D->bc:=λd U=>match d with
 |.t aw=>if aw.length=is.length then b (iI is aw U)else bad|_=>bad
end aY
namespace aY
open PySem PySem.Spec aE PyProof.Rows
def Pz:afW "max"=some (.builtin "max"):=by decide +kernel
def kmk_max_key(a v:Value):argsOk "max" ⟨[a],[(afL "key",v)]⟩:=by kernel_rfl
def BH(mf:bV)(d:D):Option (List Int):=match(mf [d]).run []with
 |.ok (.v (.t eW)) []=>nums eW|_=>none
def U6(d:D)(a7:List Int):Option (D×List Int)->Option (D×List Int)
 |none=>some (d,a7)|some b=>if kS a7 b.2=true then some (d,a7)else some b
def u3(mf:bV):List D->Option (D×List Int)->Option D
 |[],b=>b.map ag2|d::ds,b=>(BH mf d).bind λa7=>u3 mf ds (U6 d a7 b)
def xa(mf:bV)(x:R):M R:=match x.fp with
 |some ds=>match u3 mf ds none with
  |some r=>if ds.length<64 then pure (.v r)else bad|none=>bad
 |none=>bad
abbrev F_(mf:bV)(a:br):br:=t_ xa mf a
def Up{mf:bV}{k:List Int}(h:BH mf d=some k):∃eW,(mf [d]).run []=.ok (.v (.t eW)) []/\nums eW=some k:=by
 unfold BH at h;split at h
 .rename_i eW e;exact⟨eW,e,h⟩
 .cases h
variable[aE.a5]
section
variable{X:aR}{ah:cS}{U:aE.St}{H:av}{s:afa}{G:av->Prop}{mf:bV}{f S it l:Addr}{k:Nat}{O:a4}
def next_item{xs:List V}{v:V}{E:dm}{A:afI}(J:Inv X ah U H1 s)(y:cL X.K H1 l xs)(n:xs[j]? = some v)(t:g7 X ah H1 it)(a:s.heap.IsListIter it l j)(hh:A.handled=none) :
  wpAny (model X.prog X.w) A (pyNext (.ref it)) (λr i=>∃u,r=some u/\RelV v u/\Inv X ah U H1 i/\i.heap.IsListIter it l (j+1)) E s:=by
 obtain⟨R,x,pl,_⟩:=J.list y;have h:=pl.isList;have M:l≠it:=by
  rintro rfl;obtain⟨o,e,c,_⟩:=a;obtain⟨o',g,c',_⟩:=h;rw[e]at g;cases g;rw[c]at c';injection c' with z;exact absurd z (by decide)
 obtain⟨u,d,B⟩:=x.get n;refine(Walks.list hh it l M R.toArray).item j s _ _ (by have:=(fk.mp d).1;simpa using this) ⟨a,h⟩ λu' h' p D m Q=>?_
 have e:some u'=some u:=by rw[<-d];simpa using D.symm
 cases e;obtain⟨F,I,T,N,L,P⟩:=t;exact⟨u,rfl,B,J.turned (λb o q e=>Q b o (by simpa using q) e) F I N L P,m.1⟩
def WE{xs:List V}{E:dm}{A:afI}(J:Inv X ah U H1 s)(t:cL X.K H1 l xs)(i:j=xs.length)(p:g7 X ah H1 it)(a:s.heap.IsListIter it l j)(hh:A.handled=none) :
  wpAny (model X.prog X.w) A (pyNext (.ref it)) (λr M=>r=none/\Inv X ah U H1 M) E s:=by
 obtain⟨h,q,pl,_⟩:=J.list t;have g:=pl.isList;have B:l≠it:=by
  rintro rfl;obtain⟨o,e,c,_⟩:=a;obtain⟨o',d,c',_⟩:=g;rw[e]at d;cases d;rw[c]at c';injection c' with z;exact absurd z (by decide)
 have L:j=h.toArray.size:=by rw[afd,i,q.length]
 rw[L]at a;refine(Walks.list hh it l B h.toArray).done s _ _ ⟨a,g⟩ λh' m I=>?_
 obtain⟨u,x,N,D,y,F⟩:=p;exact⟨rfl,J.turned (λb o n e=>I b o (by simpa using n) e) u x D y F⟩
def Uv{i:a4}{v:V}{A:afI}(M:nv X k f G mf)(W:c6 k A.in1)(cx:nt X.prog X.w X.K X.mg X.base A.in1 X.stack s H1)(J:Inv X ah U H1 s)(hb:c4 i H1)(P:G H1)(B:Rep X.K X.mg i H1 d v)(dJ:RelV v u)(hd:(mf [d]).run []=.ok (.v o) [])(I:g7 X ah H1 it)(D:s.heap.IsListIter it l j) :
  wpAny (model X.prog X.w) A.in1 (call (.ref f) [u]) (λu' E=>∃(p:a4)(c:av)(h:V),Inv X ah U c E/\Go i p H1 c/\c4 p c/\G c/\Rep X.K X.mg p c o h/\RelV h u'/\g7 X ah c it/\E.heap.IsListIter it l j) (λ_ _=>False) s:=by
 refine cc λa=>?_
 obtain⟨F,Q,ci,R⟩:=D;have T:=J.pinned (λb y=>by rw[afj.mp y];exact I) λb y=>by
  rw[afj.mp y];exact⟨F,Q,λv z=>by rw[R]at z;cases z⟩
 refine a ?_;refine wpAny_call (ahE (M.2.2 A.in1 s H1 u v (λh t=>∃m,Go i m H1 t/\c4 m t/\Rep X.K X.mg m t o h) W cx P dJ ?_) λr E n=>?_)
 .refine⟨i,[d],.v o,[],hb,fw.nil,⟨v,[],rfl,?_,rfl⟩,hd,λm h t g cH bw _=>⟨m,g,cH,bw⟩⟩
  cases d<;>first|exact B|exact afU B|skip
  refine cc λa=>?_
  obtain⟨x,zs,q,l,r⟩:=B;exact a ⟨x,zs,q,l.cN,r⟩
 .refine cc λa=>?_
  cases r with
  |error e=>exact a (afU n)|ok C=>
   cases C with
   |ret u'=>
    obtain⟨h,c,L,Z,p,N,dV,Y⟩:=T.after n;have pin:=L.pin (it,F) (afJ _ (afJ _ (by unfold sV;simp[Q])));exact a ⟨p,c,h,L.vV,N,dV,M.1 _ _ N.same P,Y,Z,⟨pin.2.1,I.2⟩,⟨F,pin.1,ci,R⟩⟩
   |next=>exact a (afU n)
   |brk=>exact a (afU n)|cont=>exact a (afU n)
def Nt(K:aW)(mg:bx)(O:a4)(H:av):Option (D×List Int)->List V->Prop
 |none,zs=>zs=[]|some b,zs=>∃v a,zs=[v,a]/\Rep K mg O H b.1 v/\Rep K mg O H (.t (b.2.map D.int)) a
structure D2(X:aR)(ah:cS)(U:aE.St)(G:av->Prop)(O:a4)(H:av)(S it l:Addr)(j:Nat)(b:Option (D×List Int))(s':afa):Prop where
 ex:∃aj H' zs,Inv X ah U H' s'/\Go O aj H H'/\c4 aj H'/\G H'/\H' S=some (.l zs)/\Nt X.K X.mg aj H' b zs/\aj S=.dP/\g7 X ah H' it/\s'.heap.IsListIter it l j
def Ej(X:aR)(ah:cS)(U:aE.St)(O:a4)(H:av)(res:D)(u:Value)(c:afa):Prop:=
 ∃b a v,Inv X ah U a c/\Go O b H a/\c4 b a/\Rep X.K X.mg b a res v/\RelV v u
def YV{K:aW}{mg:bx}{O:a4}{H:av}{eW:List D}{b:List Int}{v:V}(r:Rep K mg O H (.t eW) v)(e:nums eW=some b):Rep K mg O H (.t (b.map D.int)) v:=by
 obtain⟨a,ys,rfl,cN,c⟩:=r;have:=KH c e;subst this;exact⟨a,_,rfl,cN,LL b⟩
def LO{K:aW}{mg:bx}{O:a4}{H:av}{b:List Int}{v:V}(r:Rep K mg O H (.t (b.map D.int)) v):∃a,v=.ref a/\dr K H a (b.map V.int):=by
 obtain⟨a,ys,rfl,cN,g⟩:=r;have:∀(b:List Int)(ys:List V),a' K mg O H (b.map D.int) ys->ys=b.map V.int:=by
  intro b
  induction b with
  |nil=>intro ys h;exact h|cons a t c=>
   intro ys h;obtain⟨y,r,rfl,d,e⟩:=h;rw[show y=V.int a from d,c _ e];rfl
 rw[this b ys g]at cN;exact⟨a,rfl,cN⟩
def vals2{v b:V}(h:Vals [v,b] its):∃u a,its=[u,a]/\RelV v u/\RelV b a:=by
 cases h with
 |cons d c=>cases c with
  |cons e g=>cases g;exact⟨_,_,rfl,d,e⟩
def Pl{a:av}{c:List Value}{v g:V}(J:Inv X ah U a s)(j:a S=some (.l zs))(m:s.heap.get? S=some (af5 "list" c.toArray wZ))(i:RelV v u)(n:RelV g C) :
  Inv X ah U (upd a S (.l [v,g])) { s with heap:=s.heap.update S (afD λ_=>#[u,C]) }:=by
 obtain⟨aa,d⟩:∃aa,(s.heap.update S (afD λ_=>#[u,C])).get? S=some (af5 "list" #[u,C] aa):=⟨_,agP m λ_=>#[u,C]⟩;refine J.write (by rw[j];trivial) (.inl rfl) (λb o h e=>((agv s.heap S (afD λ_=>#[u,C])).2 b h).trans e) ⟨_,d⟩ ⟨by rw[afM];simp,[u,C],aa,.cons i (.cons n .nil),d⟩
def Pk{a:av}{c:List Value}(J:Inv X ah U a s)(h:a S=some (.l zs))(i:s.heap.get? S=some (af5 "list" c.toArray C)) :
  Inv X ah U (upd a S (.l [])) { s with heap:=s.heap.update S (afD λ_=>#[]) }:=by
 obtain⟨aa,d⟩:∃aa,(s.heap.update S (afD λ_=>(#[]:Array Value))).get? S=some (af5 "list" #[] aa):=⟨_,agP i λ_=>#[]⟩;refine J.write (by rw[h];trivial) (.inl rfl) (λb o g e=>((agv s.heap S (afD λ_=>(#[]:Array Value))).2 b g).trans e) ⟨_,d⟩ ⟨afC _,[],aa,.nil,d⟩
def TU{h:Heap}(c:S≠it)(a:h.IsListIter it l j):(h.update S g).IsListIter it l j:=by
 obtain⟨e,d,b,i⟩:=a;exact⟨e,((agv h S g).2 it c.symm).trans d,b,i⟩
def Rn(b:S≠it)(a:g7 X ah H1 it):g7 X ah (upd H1 S o) it:=⟨by rw[da b.symm];exact a.1,a.2⟩
def Vb{res:D}(eD:nv X k f G mf)(W:c6 (k+1) X.A)(I4:H S=none)(uB:S≠it)(ra:a' X.K X.mg O H ds xs)(hl:cL X.K H l xs) :
  ∀(r:List D)(j:Nat)(b:Option (D×List Int))(t:afa),ds.drop j=r->D2 X ah U G O H S it l j b t->j<=ds.length->u3 mf r b=some res->
   ah2 (model X.prog X.w) X.A (.builtin "max.loop" ⟨[.ref it,.ref f,.ref S],[]⟩) (λr t=>∃u,r=.ok (.ret u)/\Ej X ah U O H res u t) t:=by
 have aeF:(toString "max"++toString ".loop":String)="max.loop":=by decide
 have hh:=W.in1.hd;intro r
 induction r with
 |nil=>
  rintro j (_|b) t Q B aU i
  .cases i
  .cases i
   refine cc λe=>?_
   obtain⟨aP,H1,_,x,d,o,oN,g,⟨v,kv,rfl,Z,m5⟩,oe,N,p⟩:=B.ex;obtain⟨hsz,C,n,a,J⟩:=x.cf S _ g;obtain⟨u,h8,rfl,dJ,LV⟩:=vals2 a;refine e ?_;refine codeAny_builtin ajq<|B1 (wpAny_seqItems J rfl ?_)
   refine B1 (ait (afX (WE (E:=λ_ _=>False) x (d.same.seq hl) (by
    have:=congrArg agx Q;rw[afP,agm]at this;rw[ra.len];omega) N p hh) (λr s1 y=>?_) λ_ _ M=>M.elim))
   refine cc λe=>?_
   obtain⟨rfl,F⟩:=y;obtain⟨_,jM,fW,Y,IW⟩:=F.cf S _ g;refine e ?_;refine B1 (aih IW rfl (hz:=by rw[afd,<-Y.length,afM];simp) (B1 (aiv (afm ?_))));exact⟨u,rfl,aP,_,v,Pk F g IW,⟨vW I4 d.same g _,d.own,d.bO⟩,o.eA g,Z.eA (by rw[oe];intro z;cases z) g,dJ⟩
 |cons dV r V=>
  intro j b t Q B aU i;refine cc λe=>?_
  obtain⟨a7,uo,i⟩:=ajh.1 i;obtain⟨eW,hm,az⟩:=Up uo;obtain⟨aP,H1,zs,x,d,o,oN,g,bs,oe,N,p⟩:=B.ex;obtain⟨hsz,C,n,a,J⟩:=x.cf S _ g;have L:ds[j]? = some dV:=by have:=congrArg (·[0]?) Q;simpa using this
  have R:ds.drop (j+1)=r:=by have:=congrArg (List.drop 1) Q;simpa using this
  have n1:=(fk.mp L).1;obtain⟨v2,Tw,vI⟩:=ra.get L;refine e ?_;refine codeAny_builtin ajq<|B1 (wpAny_seqItems J rfl ?_)
  refine B1 (ait (afX (next_item (E:=λ_ _=>False) x (d.same.seq hl) Tw N p hh) (λr s1 y=>?_) λ_ _ M=>M.elim));refine cc λe=>?_
  obtain⟨oD,rfl,L6,F,Tc⟩:=y;refine e ?_;refine B1 (ait (agi (afX (Uv eD W.in1 F.AI.in1 F o oN (vI.go d) L6 hm N Tc) (λtn s3 y=>?_) λ_ _ M=>M.elim)));refine cc λe=>?_
  obtain⟨g_,dn,UA,I,h,j4,Ec,YY,LW,H6,IX⟩:=y;have m:=h.same.at' _ _ g;have P:=(h.own S (by rw[g];intro z;cases z)).trans oe;obtain⟨TB,TX,yk,q,T⟩:=I.cf S _ m;have LU:=YV YY az;have put:D2 X ah U G O H S it l (j+1) (some (dV,a7)) { s3 with heap:=s3.heap.update S (afD λ_=>#[oD,tn]) }:=
   ⟨g_,_,_,Pl I m T L6 LW,⟨vW I4 (d.trans h).same m _,(d.trans h).own,(d.trans h).bO⟩,j4.eA m,eD.2.1 _ _ _ _ m Ec,dT,⟨v2,UA,rfl,(vI.go (d.trans h)).eA (by rw[P];intro z;cases z) m,LU.eA (by rw[P];intro z;cases z) m⟩,P,Rn uB H6,TU uB IX⟩
  have hz:TX.toArray.size<=afe:=by rw[afd,<-q.length];exact TB
  cases b with
  |none=>
   obtain rfl:=bs;cases a;refine e ?_;refine B1 (aih T rfl ?_);exact afm ⟨aiI ahi _,V (j+1) _ _ R put n1 i⟩
  |some b=>
   obtain⟨v,kv,rfl,Z,m5⟩:=bs;obtain⟨u,h8,rfl,dJ,LV⟩:=vals2 a;obtain⟨ed,rfl,ZA⟩:=LO LU;obtain⟨a1,rfl,Zz⟩:=LO (m5.go h);cases LW;cases LV;obtain⟨t3,lJ,CF,_⟩:=I.tuple ZA;obtain⟨t1,hp,p1,_⟩:=I.tuple Zz;refine e ?_;refine B1 (ait (agi (B1 ((RD CF p1 (intsAre_of lJ) (intsAre_of hp) W.in1.aaz ?_)))));refine B1 (agi (agq ?_));refine B1 (aiv (afm ?_));change u3 mf r (if kS a7 b.2=true then _ else _)=_ at i;generalize kS a7 b.2=c at *;cases c
   .refine B1 (aiv ?_)
    exact afm ⟨aiI ahi _,V (j+1) (some b) _ R ⟨g_,dn,_,I,d.trans h,j4,Ec,m,⟨v,.ref a1,rfl,Z.go h,m5.go h⟩,P,H6,IX⟩ n1 i⟩
   .refine B1 (aih T rfl (B1 (aiv ?_)))
    exact afm ⟨aiI ahi _,V (j+1) _ _ R put n1 i⟩
def Va{E:dm}(J:Inv X ah U H s)(n:c4 O H)(t:a' X.K X.mg O H ds xs)(i:cL X.K H l xs)(h:nv X k f G mf)(x:G H)(m:c6 (k+1) X.A)(p:u3 mf ds none=some res) :
  wpAny (model X.prog X.w) X.A (call (.builtin "max") [.ref l] [(afL "key",.ref f)]) (Ej X ah U O H res) E s:=by
 obtain⟨B,y,pl,_⟩:=J.list i;refine kmk_tree PySem.F.kind_max PySem.F.plain_max PySem.F.entry_max (kmk_max_key _ _)<|B1 (wpAny_of_eq (show Builtin.Builtins.bindParams "max" ["key","default"] 0 ⟨[],[(afL "key",.ref f)]⟩=pure [some (.ref f),none]from rfl) ?_)
 refine B1 (afm ?_);refine B1 (aiJ pl.isList ?_);refine B1 (ahZ ?_ (afC _));have g:Inv X ah U H { s with heap:=s.heap.push { cls:=.type "list_iterator",data:=.fields #[.ref l,.int 0 0] } }:=J.kept λb o e=>afg _ e
 have q:(s.heap.push { cls:=.type "list_iterator",data:=.fields #[.ref l,.int 0 0] }).get? s.heap.objs.size=some _:=afv _ rfl;have hsz:(s.heap.push { cls:=.type "list_iterator",data:=.fields #[.ref l,.int 0 0] }).objs.size=s.heap.objs.size+1:=size_push' ..;generalize s.heap.push { cls:=.type "list_iterator",data:=.fields #[.ref l,.int 0 0] }=C at *;have c:=g.cf.fresh (ae9 _);have j:C.objs.size≠s.heap.objs.size:=by omega
 have a:Go O (gA O C.objs.size .dP) H (upd H C.objs.size (.l [])):=Go.new c;refine afm ⟨aiI ahi _,ahE (Vb h m c j t i ds 0 none _ rfl ⟨_,_,_,g.laid (o:=.l []) (λb o e=>afg _ e) (ae9 _) ⟨afC _,[],0,.nil,afv _ rfl⟩,a,n.new c,h.1 _ _ a.same x,dT,rfl,l2,J.qr (ae9 _) (by rw[da j.symm];exact J.cf.fresh (ae9 _)),⟨_,afg _ q,rfl,rfl⟩⟩ (afC _) p) λr z d=>?_⟩;obtain⟨u,rfl,d⟩:=d;exact d
end
section
variable{X:aR}{k:Nat}{mf:bV}
theorem Ub:tM X "max" k "max" xa where
 Ad:=Pz
 nn:=by decide
 db:=by decide
 run:=λ{mf x r S w} h=>by
  unfold xa at h;refine cc λa=>?_
  split at h
  .rename_i ds ao
   split at h
   .rename_i res aG
    by_cases c:ds.length<64
    .rw[if_pos c]at h
     cases h;refine a ⟨ds,ao,rfl,λJ d s p j t f=>cn (Va J d s p j t (f.mono (by omega)) aG) λu s3 g=>?_⟩;refine cc λa=>?_
     obtain⟨n,i,v,l,m,q,e,b⟩:=g;exact a ⟨n,i,v,l,m,q,e,trivial,b⟩
    .rw[if_neg c]at h;cases h
   .cases h
  .cases h
end
end aY
namespace aY
open PySem PySem.Spec aE PyProof.Rows
variable[aE.a5]
omit [aE.a5]in
omit [aE.a5]in
@[simp] theorem ad3:F_ mf ma U=(do
 let x <-ma U
 xa mf x):=rfl
end aY
namespace aY
open PySem PySem.Spec aE
def Ei(K:aW)(l:Addr):hT:=
  ⟨λi H=>∃xs x,cL K H l xs/\xs[i]? = some x,
   λi H x a=>∃v T,x=.ref T/\H T=none/\a=upd H T (.t [.int i,v])/\∀xs,cL K H l xs->xs[i]? = some v,
   λi H=>∃xs,cL K H l xs/\xs.length<=i⟩
def aap(O:e≠it):Turn P w K (.Tuple elts jm dR) (Ei K l) [e,it] e
  (λi h=>(∃g,IsEnum h e it i g)/\h.IsListIter it l i) where
 mem:=by simp
 obj:=λi h st b a=>by
  refine cc λj=>?_
  obtain⟨⟨g,he⟩,o,hi,c,d⟩:=st;refine j ?_;rcases afz.mp a with rfl|a
  .exact⟨_,he,λv z=>by cases z⟩
  rcases afz.mp a with rfl|a
  .exact⟨o,hi,λv z=>by rw[d]at z;cases z⟩
  cases a
 keep:=λi h h' ⟨⟨g,he⟩,hi⟩ k=>⟨⟨g,k e (by simp) _ he⟩,hi.at λo e=>k it (by simp) o e⟩
 item:=by
  rintro X G hw I Q i A s U H E J p ⟨⟨g,he⟩,hi⟩ ⟨xs,x,n,N⟩;subst G hw I;refine cc λj=>?_
  obtain⟨L,D,pl,_⟩:=J.list n;obtain⟨u,Y,C⟩:=D.get N;have T:=J.cf.fresh (ae9 s.heap.objs.size);have r:=afp he;have y:it<s.heap.objs.size:=by obtain⟨o,e,_⟩:=hi;exact afp e
  refine j ?_;refine wpAny_pyNext_enum_item he hi pl.isList (x:=u) (by simpa using Y) O λh' a1 a2 ed kH B=>⟨_,rfl,wpAny_letOwnedTupleGo_enum a1 λR S M=>?_⟩
  have uI:Vals [V.int i,x] [.int i s.toks,u]:=.cons ⟨_,rfl⟩ (.cons C .nil);have W:Inv X A U (upd H s.heap.objs.size (.t [.int i,x])) { s with heap:=s.heap.push { cls:=.type "tuple",data:=.seq #[.int i s.toks,u] },toks:=s.toks+1 }:=
   J.laid (t':=s.toks+1) (λb u e=>afg _ e) (ae9 _) ⟨by rw[afM];show 2<=_;decide,[.int i s.toks,u],uI,⟨_,afv _ rfl,rfl,_,rfl⟩⟩
  have Z:Inv X A U (upd H s.heap.objs.size (.t [.int i,x])) { s with heap:=R,toks:=s.toks+1 }:=by
   refine Inv.MF (s:={ s with heap:=s.heap.push { cls:=.type "tuple",data:=.seq #[.int i s.toks,u] },toks:=s.toks+1 }) (ch:=[e,it]) (t':=s.toks+1) W (λb o a F=>?_) λb a=>?_
   .have m:b≠e:=λq=>a (by simp[q])
    refine M.extBut _ _ m ?_;refine cc λj=>?_
    rcases Heap.get?_push_cases F with⟨rfl,rfl⟩|F
    .exact j (ed)
    .exact j (B b o m (λq=>a (by simp[q])) F)
   .obtain⟨f0,f⟩:=p b a
    refine⟨?_,f⟩;rw[da]
    .exact f0
    .rintro rfl
     simp at a;refine cc λj=>?_
     rcases a with h|h
     .rw[<-h]at r;exact agf _ r
     .rw[<-h]at y;exact agf _ y
  refine⟨.ref s.heap.objs.size,_,Z,rfl,⟨x,_,rfl,T,rfl,λpV h'=>by rw[J.BQ h' n];exact N⟩,⟨⟨u,S⟩,a2.at λo qo=>M.extBut _ _ O.symm qo⟩,λb a=>?_⟩;rw[da]
  .exact(p b a).1
  .rintro rfl
   simp at a;refine cc λj=>?_
   rcases a with h|h
   .rw[<-h]at r;exact agf _ r
   .rw[<-h]at y;exact agf _ y
 done:=by
  rintro X G hw I Q i A s U H E J p ⟨⟨g,he⟩,hi⟩ ⟨xs,n,hl⟩;subst G hw I;refine cc λj=>?_
  obtain⟨L,D,pl,_⟩:=J.list n;have ao:=D.length;refine j ?_;refine wpAny_pyNext_enum_end (J.ok.hd Q) he hi pl.isList (by simp;omega) λh' B=>⟨rfl,?_⟩
  exact Inv.MF (ch:=[it]) (t':=s.toks) J (λb o a e=>B b o (λq=>a (by simp[q])) e) λb a=>p b (by rw[afj.mp a];simp)
 self:=λ_ _ _ _ _ ⟨⟨_,he⟩,_⟩ h=>wpAny_pyIter_enum he h
def Ja(K:aW)(b:fC):TI:=λU H R=>b U H λc a=>∃l,c=[.ref l]/\(∃xs,cL K a l xs)/\R (Ei K l) a
def K_{X:aR}{d:List Expr}{A:Nat}{x:Pos}{p pos:Pos}(t:d5 X "enumerate")(y:X.mg "enumerate"=none)(m:gR X [a] o)(aC:afV [a] X.env=[(false,eval a X.env)]:=by rfl) :
  jD X (.Tuple d A x) (.Call (.Name "enumerate" p) [a] [] pos) (Ja X.K o):=by
 intro j s U H R J h;refine ajI (pv J t y PyProof.Rows.boot_enumerate (agr (cn (m pos j s U H _ J h) λD b ⟨E,i,f,w,bJ⟩=>?_) (by rw[aC];rfl) (by rfl)));obtain⟨l,e,⟨xs,k⟩,q⟩:=bJ;subst e;obtain⟨u,rfl,r⟩:=vals1 w;cases r;obtain⟨z,B,pl,_⟩:=f.list k;refine call_enumerate_list pl.isList λh' a1 a2 ed n=>?_
 refine wpAny_pyIter_enum (s:={ b with heap:=h' }) a1 ?_;refine⟨b.heap.objs.size+1,[b.heap.objs.size+1,b.heap.objs.size],_,_,i,rfl,f.kept (t':=b.toks) n,aap (e:=b.heap.objs.size+1) (it:=b.heap.objs.size) (Nat.succ_ne_self _),⟨⟨_,a1⟩,a2⟩,λc g=>?_,q⟩;have le:b.heap.objs.size<=c:=by
  simp at g;rcases g with rfl|rfl
  .exact Nat.le_add_right _ _
  .exact ae9 _
 exact f.qr le (f.cf.fresh le)
variable[aE.a5]
def gU(k:Nat):List D->List D
 |[]=>[]
 |x::xs=>.t [.int (k:Nat),x]::gU (k+1) xs
def HP{xs:List D}:∀{k j:Nat}{d:D}{ds:List D},(gU j xs).drop k=d::ds->∃x,xs[k]? = some x/\d=.t [.int ((j+k:Nat):Int),x]/\(gU j xs).drop (k+1)=ds:=by
 induction xs with
 |nil=>intro k j d ds e;simp[gU]at e|cons x xs f=>
  intro k j d ds e
  cases k with
  |zero=>
   simp only[gU,aho]at e;cases e;exact⟨x,rfl,rfl,rfl⟩
  |succ k=>
   obtain⟨y,a,b,c⟩:=f (k:=k) (j:=j+1) (by simpa[gU]using e);refine⟨y,by simpa using a,?_,by simpa[gU]using c⟩;rw[b,show j+1+k=j+(k+1)by omega]
theorem AH:∀(xs:List D)(j:Nat),(gU j xs).length=xs.length
 |[],_=>rfl| x::xs,j=>by show(gU (j+1) xs).length+1=xs.length+1;rw[AH xs]
end aY
namespace aY
open PySem PySem.Spec aE
def wo(m:dG):aN->N Bool:=λU=>do
 let r <-m U
 r.pN.up
def ae2(is:List Nat)(it:fO)(b:b8):b8:=DP (λd U=>match d with
  |.t aw=>if aw.length=is.length then b (iI is aw U)else fc| _=>fc) it
def y_(is:List Nat)(ms:cJ)(b:b8):b8:=λU=>do
 let rs <-(ms U).up
 match rs with
 |[.fr xs]=>l6 (λd U=>match d with
  |.t aw=>if aw.length=is.length then b (iI is aw U)else fc| _=>fc) (gU 0 xs) U
 |_=>fc
def wh(is:List Nat)(m:dG):b8:=λU=>do
 let r <-m U
 match r with
 |.v (.t ds)=>if ds.length=is.length then pure (.a6 (iI is ds U))else fc|_=>fc
variable[aE.a5]
section
variable{X:aR}{o e f a b:Expr}{aw:List Expr}{mo:br}{ms:cJ}{l7 ro:dG}{pos apos cT:Pos}{g:List D->List R->M (R×List D)}{r:V->List V->av->cC->Prop}{name:Str}{id:String}
theorem DY(slot:aiU "list" name id)(j':typeOf (.builtin id)=pure (.type "method_descriptor"))(hm:mq X id r)(J:l_ X.K X.mg r g)(E:bp X o mo)(i:fQ X (e::aw) ms)
  (j9:agR o name X.env (eval o X.env)=eval o X.env:=by rfl)
  (qD:((ahl cT (afV (e::aw) X.env)).all (λx=>!x.1)&&(backToKw cT (aiu [] X.env)).all (λx=>x.1.isSome)
&&decide ((e::aw).length+([]:List ahL).length+(if([]:List ahL).isEmpty then 0 else 1)<30))=true:=by rfl)
  (j_:(apos.endLine==cT.line)=true:=by rfl) (aC:fm X e aw:=by rfl) (Y:gF X cT aw:=by rfl)
  (iA:agD (.Call (.Attribute o name apos) (e::aw) [] cT) none pos.line X.env=pure false:=by rfl):eS X (.Expr (.Call (.Attribute o name apos) (e::aw) [] cT) pos) (dE g mo ms):=
 ⟨fz (vz (CJ ag7 slot j' hm E.un i.un j9 qD j_ aC Y) iA) λD P H G=>by
  refine cc λd=>?_
  obtain⟨O,U,S,bg,ak,st,h,q⟩:=G;obtain⟨x,S1,s,i⟩:=N.inv h;clear h;obtain⟨rs,bj,t,M⟩:=N.inv i;obtain⟨cq,nF,u,h⟩:=N.inv M;obtain rfl:=(mo U).dO _ _ _ s;obtain rfl:=(ms U).dO _ _ _ t;refine d ⟨O,U,_,x,_,st.s3,s,λF e0 j A p L a6=>?_⟩;refine cc λd=>?_
  obtain⟨n,b,rfl,rfl,Q,sn,W⟩:=sO p L u;obtain rfl:=(gx (.v (.ref n))).dO _ _ _ u;split at h
  .rename_i xs
   obtain⟨⟨b6,ys⟩,cB,V,h⟩:=N.inv h;cases h;obtain⟨zs,y,ra⟩:=W;refine d ⟨.inl ⟨rfl,_,cL.of y⟩,F,U,_,rs,_,p,t,λw vs I c T R nn=>?_⟩;have B:w.bO[n]? = some b:=by rw[c.bO];exact Q
   have m:=c.same.at' _ _ y;refine J w I j b xs zs rs vs _ _ _ ys _ m (ra.go c) R nn V λv ws aw rw _=>?_
   subst aw;obtain⟨Z,C⟩:=((st.go (A.trans c) T.cp).cz j).write (o:=.l ys) B m (by rintro(⟨_,z⟩|⟨_,_,z⟩)<;>cases z) (by intro _ z;cases z) (by intro _ z;cases z) λk=>⟨_,dT,rw.imp k⟩
   exact q _ P _ ((A.trans c.cz).dN.trans Z).dy C
  .cases h⟩
theorem abP{K:aW}{mg:bx}{r:fv}{f:R->R->M R}(G:eP K mg r f):∀c H Q,wm K mg (la f l7 ro) c H Q->q' r (wm K mg l7) (wm K mg ro) c H Q:=by
 rintro c H Q ⟨O,U,S,A,d,st,h,q⟩;obtain⟨x,S1,t,h⟩:=N.inv h;obtain⟨y,T,u,h⟩:=N.inv h;split at h
 .rename_i aC
  obtain rfl:=(f x y).dO _ _ _ h;refine⟨O,U,S,x,S1,st,t,λn F P l j s a6=>?_⟩;refine⟨n,U,S1,y,d,j,u,λD I p i k B L=>?_⟩;exact G D U d c p F I x y A d Q k.s3 (s.dN i j.s3.cp.rh aC) B h λw v m g z E nn=>q w v m ((l.trans i).trans g.dN) (k.go g z.cp) E (nn.dN (l.trans i))
 .cases h
theorem acI{op:CmpOp}{r:fv}{f:R->R->M R}(d:eJ X (agb op) r)(u:eP X.K X.mg r f)(n:ek X a l7)(k:ek X b ro)(w:agA op b=false):rH X (.Compare a [op] [b] pos) (wo (la f l7 ro)):=
 ⟨vC (Lj d n.un k.un w) λm H Q i=>by
  refine My (abP u) m H Q ?_;obtain⟨O,U,S,t,y,st,h,q⟩:=i;obtain⟨x,S1,j,h⟩:=N.inv h;obtain⟨rfl,rfl⟩:=tl h;exact⟨O,U,S,_,_,st,j,λl v c g p s _=>⟨t,s,q l c g p⟩⟩⟩
end
section
variable{K:aW}{mg:bx}
theorem DG{O:a4}:∀{is:List Nat}{ds:List D}{xs:List V}{U:aN}{a:St}{Q:St->av->Prop},dA K mg O U S a H->a' K mg O H ds xs->ds.length=is.length->(∀b,dA K mg O (iI is ds U) S b H->Q b H)->kM is xs a H Q
 |[],[],xs,U,a,Q,st,ra,hl,q=>⟨ra,q a st⟩
 |[],_::_,xs,U,a,Q,st,ra,hl,q=>by cases hl
 |_::_,[],xs,U,a,Q,st,ra,hl,q=>by cases hl
 |i::is,d::ds,xs,U,a,Q,st,ra,hl,q=>by
  obtain⟨y,r,e,c,f⟩:=ra;exact⟨y,r,e,DG (is:=is) (st.set (s:=.val d) (λxs z=>by cases z) ⟨y,rfl,c⟩) f (by simpa using hl) q⟩
variable{X:aR}{pos dR p cT:Pos}{is:List Nat}{aw:List Expr}{k:Nat}{a e:Expr}{ms:cJ}{body:List Stmt}{b:b8}{m:dG}
def acx(aB:ahs (model X.prog X.w) X.A X.env X.dx)(C:X.calm=true)(uG:d5 X "enumerate")(hm:X.mg "enumerate"=none)(au:fQ X [a] ms)(bD:kF X aw (kM is))(ag:jc X body b)
  (az:(af1 aw X.env).length=is.length:=by rfl) (iz:(af1 aw X.env).findIdx? (·.1)=none:=by rfl)
  (aC:j0 X (.Call (.Name "enumerate" p) [a] [] cT):=by intro _;rfl) (qH:afV [a] X.env=[(false,eval a X.env)]:=by rfl) :
  eS X (.For (.Tuple aw k dR) (.Call (.Name "enumerate" p) [a] [] cT) body [] pos) (y_ is ms b):=⟨fz (vA aB C (K_ uG hm au.un qH) (yA C bD az iz) ag.un aC) λD aq H aQ=>by
 refine cc λi=>?_
 obtain⟨O,U,S,bg,ak,st,h,q⟩:=aQ;obtain⟨rs,S1,V,E⟩:=N.inv h;clear h;obtain rfl:=(ms U).dO _ _ _ V;split at E
 .rename_i xs
  refine i ⟨O,U,_,_,_,st.s3,V,λP vs L Y Q bw nn=>?_⟩;refine cc λi=>?_
  obtain⟨v1,bI,rfl,a_,re⟩:=bw;cases re;obtain⟨F,n,rfl,l,t,r⟩:=a_;have I:oQ X.K (cz H P) L F n:=.inl ⟨.inl l,.inl (AV (nn.1 F rfl) t),Q.cp.rh.no t (by intro z;cases z)⟩;have a1:a' X.K X.mg (cz H P) L xs n:=r.dc (jj _ _);have td:=(st.go Y Q.cp).cz H;refine i ⟨F,rfl,⟨n,I.v.cN⟩,Ke td (λB y g=>⟨n,(I.dy g).v.cN,by rw[AH,a1.len];exact ae9 _⟩) (λj d B y U' eR cw f bj d1 g' W s=>?_) E (q.dy Y.cz.di.dy)⟩;have M:=(I.dy g').v.cN;have QH:(gU 0 xs).drop j=d::(gU 0 xs).drop (j+1):=by
   obtain⟨bJ,cR⟩:=fk.mp d1;rw[<-cR];exact ahB bJ
  refine cc λi=>?_
  obtain⟨J,ao,rfl,_⟩:=HP QH;obtain⟨u,Z,dJ⟩:=(a1.dy g' td.s3.cp.rh).get ao;dsimp only at s
  by_cases c:[aY.D.int ((0+j:Nat):Int),J].length=is.length
  .rw[if_pos c]at s
   refine i ⟨⟨n,u,M,Z⟩,λx aT R jw d8=>?_⟩;refine cc λi=>?_
   obtain⟨ff,T,rfl,o,rfl,n3⟩:=jw;have vG:=n3 n M;rw[Z]at vG;cases vG;have G:Go B B y (upd y T (.t [.int j,u])):=Go.gu o;exact i ⟨T,[.int j,u],rfl,dr.of dT,by rw[<-c];rfl,DG (ds:=[.int ((0+j:Nat):Int),J]) (W.go G (W.s3.gu o).cp) ⟨.int j,[u],rfl,by rw[agy];rfl,u,[],rfl,dJ.go G,rfl⟩ c λij ks=>d8 _ _ _ G.di.dy ks s⟩
  .rw[if_neg c]at s;cases s
 .cases E⟩
theorem acF(z:X.calm=true)(u:kF X aw (kM is))(he:ek X e m)(n:(af1 aw X.env).length=is.length:=by rfl)(A:(af1 aw X.env).findIdx? (·.1)=none:=by rfl)
  (aC:ahU [.Tuple aw k dR] e pos.line X.env=pure false:=by rfl) (hw:ahV [.Tuple aw k dR] e X.env=pure none:=by rfl) (d:(af1 [.Tuple aw k dR] X.env).map (·.2)=[ahD (.Tuple aw k dR) X.env]:=by rfl) :
  eS X (.Assign [.Tuple aw k dR] e pos) (wh is m):=⟨fz (yE he.un (yA z u n A) aC hw d) λD E H j=>by
 obtain⟨O,U,S,F,B,st,h,q⟩:=j;obtain⟨r,S1,d,h⟩:=N.inv h;split at h
 .rename_i ds
  by_cases c:ds.length=is.length
  .rw[if_pos c]at h
   cases h;refine⟨O,U,S,_,_,st,d,λi v g y l w nn=>?_⟩;obtain⟨a,ys,rfl,t,f⟩:=w;exact⟨a,ys,rfl,t,by rw[f.len,c],DG l f c λx s=>q i x g y.dy s⟩
  .rw[if_neg c]at h;cases h
 .cases h⟩
end
def UN{P:afA}{w:World}{K:aW}{mg:bx}{base:Heap}{f:Addr}{c:agg}{k:Nat}{mf:e8}(F:f6 P w K mg base fi k f c ["script"] (lW K mg mf))
  (h:∀ns:List Int,ns.length<=63->∃b,(mf [.l (ns.map D.int)]).run []=.ok (.v (.aM true)) b):f6 P w K mg base fi k f c ["script"] (vP K):=by
 refine F.imp λs H Q E g=>?_
 obtain⟨a,ns,e,p,j,cO,q⟩:=g;subst e;obtain⟨b,h'⟩:=h ns j;refine⟨⟨λ_=>.free,[]⟩,[.l (ns.map D.int)],_,[],b,⟨λa i=>absurd rfl i,cO,List.nodup_nil,λa m=>by cases m⟩,fw.nil,rfl,⟨_,_,rfl,⟨a,_,rfl,p.imp (λz=>⟨z,by simp⟩) id,LL ns⟩,rfl⟩,h',λr v d _ _ _ _ n _=>?_⟩;cases(show v=.aM true from n);exact q d
end aY
namespace aY
open PySem PySem.Spec aE
def wd(o:fP):dG:=λ_=>do
 let S <-AZ
 putN (S++[o])
 pure (.v (.ref S.length))
variable[aE.a5]
section
variable{K:aW}{mg:bx}{O:a4}{H H':av}{S:b1}{U:aN}{aq:St}{p:Addr}{o:fP}
def dA.adopt(st:dA K mg O U S aq H)(G:p∉O.bO)(N:∀i,O p≠.loc i)(same:∀b,b≠p->H' b=H b)(M:H' p≠none)(kp:H' p=H p\/∀u,H p=some u->¬Fix u/\∀ys,u≠.l ys)(y:O p=.free\/O p=.out->∀u,H p=some u->(∀ys,u≠.l ys)/\¬Fix u)(bt:TabsOk H->TabsOk H')
  (cq:(∀d v,Rep K mg O H d v->Rep K mg (hL O p) H' d v)->nz K mg (hL O p) H' p o):dA K mg (hL O p) U (S++[o]) aq H'/\(hL O p).bO[S.length]? = some p:=by
 have t:=st.s3.cp;have B:(hL O p).bO[S.length]? = some p:=by show(O.bO++[p])[S.length]? = _;rw[<-st.full,afn (ae9 _),afY];rfl
 have iT:rt O (hL O p) H H':=⟨λb u e h _=>by
  by_cases c:b=p
  .subst c
   rcases kp with kp|kp
   .rw[kp];exact e
   .obtain⟨k1,k2⟩:=kp u e
    exact h.elim (λz=>absurd z.2.2.choose_spec (k2 _)) λz=>absurd z k1
  .rw[same b c];exact e,λb ys e f=>by
   rw[ob (by rintro rfl;exact(y (.inl f) _ e).1 ys rfl)];exact f,aiB _ _⟩
 have f:∀d v,Rep K mg O H d v->Rep K mg (hL O p) H' d v:=λ_ _ z=>Rep.iT iT t.rh z
 have j:∀{b:Addr}{a:List V},gS H b (.l a)->(O b=.free\/O b=.out)->b≠p:=λ{b a} h F=>by
  rintro rfl;rcases h with h|⟨x,h⟩
  .exact(y F _ h).1 a rfl
  .exact(y F _ h).2 (.inr ⟨_,_,rfl⟩)
 have I:∀{b:Addr}{a:List V},b≠p->gS H b (.l a)->gS H' b (.l a):=λ{b a} g h=>by unfold gS;rw[same b g];exact h
 refine⟨⟨⟨⟨λb D=>?_,bt t.tabs,Kx t G⟩,st.s3.len,λi s e=>?_,λn o' e=>?_⟩,?_,λi A e=>?_⟩,B⟩
 .by_cases c:b=p
  .rw[c];exact M
  .rw[ob c]at D;rw[same b c];exact t.has b D
 .have lo:=st.s3.loc i s e
  cases s with
  |emp=>exact trivial|val d=>obtain⟨v,q,r⟩:=lo;exact⟨v,q,f _ _ r⟩
  |dY P A=>
         obtain⟨b,a,q,L,k,r⟩:=lo;have g:b≠p:=by rintro rfl;exact N i L
         exact⟨b,a,q,(ob g).trans L,by rw[same b g];exact k,r.imp f⟩
  |bF A=>obtain⟨b,a,q,k,r⟩:=lo;exact⟨b,a,q,k.imp (λz=>⟨I (j z.1 z.2) z.1,by rw[ob (j z.1 z.2)];exact z.2⟩) id,r.imp f⟩
 .by_cases E:n<S.length
  .rw[afk E]at e
   obtain⟨b,ao,aG⟩:=st.s3.gy n o' e;have g:b≠p:=by rintro rfl;exact G (km ao)
   exact⟨b,by show(O.bO++[p])[n]? = _;rw[afk (by rw[st.full];exact E)];exact ao,aG.all f λ_ l _=>by rw[same b g];exact l⟩
  .rw[afn (by omega)]at e
   obtain rfl:n=S.length:=by
    have:=(fk.mp e).1;simp at this;omega
   rw[afY]at e;cases e;exact⟨p,B,cq f⟩
 .show(O.bO++[p]).length=_
  rw[afb,afb,st.full];rfl
 .obtain⟨b,a,q,k,r⟩:=st.rf i A e
  exact⟨b,a,q,k.imp (λz=>⟨I (j z.1 z.2.1) z.1,by rw[ob (j z.1 z.2.1)];exact z.2.1,λm=>(afZ.mp m).elim z.2.2 λw=>j z.1 z.2.1 (afj.mp w)⟩) id,r.imp f⟩
theorem e6.adopt{f:a4}{H₀:av}(g:e6 f O H₀ H)(d:H₀ p=none)(same:∀b,b≠p->H' b=H b)(bt:TabsOk H->TabsOk H'):e6 f (hL O p) H₀ H':=by
 have c:∀{b:Addr},H₀ b≠none->b≠p:=λh=>by rintro rfl;exact h d
 exact⟨λb o e h n=>by rw[same b (c (iJ e))];exact g.cells b o e h n,λb a=>(ob (c a)).trans (g.own b a),λb a=>by rw[same b (c a)];exact g.has b a,
  λb ps e=>by rw[same b (c (iJ e))];exact g.cO b ps e,λt=>bt (g.bt t),g.bO.trans (aiB _ _),λb m=>(afZ.mp m).elim (g.new b) λz=>.inr (by rw[afj.mp z];exact d)⟩
end
section
variable{X:aR}{e:Expr}{m:dG}
def acn(he:ek X e m):ek X e (ih m):=⟨es he.un λD H Q j=>by
 obtain⟨O,U,S,r,B,st,h,q⟩:=j;obtain⟨x,S1,n,b⟩:=N.inv h;refine⟨O,U,S,x,S1,st,n,λA v d u c s nn=>?_⟩;split at b
 .rename_i xs
  obtain⟨k,E,p,h⟩:=N.inv b;cases p;cases h;obtain⟨a,ys,rfl,l,t,w⟩:=s;obtain⟨y,g⟩:=c.adopt (o:=.l xs) (c.s3.cp.rh.no t (by intro z;cases z)) (λi z=>by rw[t]at z;cases z) (λ_ _=>rfl) (iJ l) (.inl rfl) (λz=>by rw[t]at z;rcases z with z|z<;>cases z) id λf=>⟨ys,l,w.imp f⟩
  exact q _ _ d (u.adopt (nn a rfl) (λ_ _=>rfl) id) y ⟨a,rfl,g⟩ trivial
 .cases b⟩
end
end aY
namespace aY
open PySem PySem.Spec aE
def y7(a b:dG):dG:=λU=>do
 let x <-a U
 let t <-x.pN.up
 if t=true then b U else pure (.v (.aM false))
variable[aE.a5]
section
variable{X:aR}{a b:Expr}{rest:List Expr}{pos:Pos}{l7 ro:dG}
def acp{op}(h:ek X a l7):ek X (.BoolOp op [a] pos) l7:=⟨K5 h.un⟩
def ach(u:ek X a l7)(n:ek X (.BoolOp .And (b::rest) pos) ro):ek X (.BoolOp .And (a::b::rest) pos) (y7 l7 ro):=⟨es (K2 u.un n.un) λz H Q j=>by
 obtain⟨O,U,S,r,s,st,h,q⟩:=j;obtain⟨x,S1,l,h⟩:=N.inv h;obtain⟨t,A,m,h⟩:=N.inv h;obtain⟨rfl,rfl⟩:=tl m;refine⟨O,U,S,_,_,st,l,λd B i c e k a6=>⟨t,k,?_⟩⟩
 cases t with
 |false=>
  rw[if_neg afc]at h;cases h;exact lK (q d _ i c e rfl trivial)
 |true=>
  rw[if_pos rfl]at h;exact lL ⟨d,U,_,r,s,e,h,λp v f g w y nn=>q p v f (c.trans g) w y (nn.dN c)⟩⟩
end
end aY
namespace aY
open PySem PySem.Spec aE
def oI(mo mk:br)(mv:dG):b8:=λU=>do
 let r <-mv U
 let d <-r.dat.up
 let x <-(mo U).up
 let k <-(mk U).up
 let o <-(gx x).up
 match o,k with
 |.l xs,.v (.int i)=>(if 0<=i/\i<xs.length then(do
  Dm x (.l (xs.set i.toNat d))
  pure (.a6 U))else fc)
 |_,_=>fc
variable[aE.a5]
section
variable{X:aR}{o i value c:Expr}{mo mk:br}{mv:dG}{b:b8}{pos pos':Pos}
theorem acA(M:bp X o mo)(W:bp X i mk)(L:ek X value mv)(aC:ahU [.Subscript o i pos'] value pos.line X.env=pure false:=by rfl)(hw:ahV [.Subscript o i pos'] value X.env=pure none:=by rfl)
  (g:(af1 [.Subscript o i pos'] X.env).map (·.2)=[ahD (.Subscript o i pos') X.env]:=by rfl)
  (e:∀v,ahD (.Subscript o i pos') X.env v=(do
   let f <-ahm [v] (eval o X.env)
   let j <-ahm [v,f] (eval i X.env)
   standAt pos'
   ahm [v,f,j] (setItem f j v)
   release [v,f,j] []):=by intro _;rfl):eS X (.Assign [.Subscript o i pos'] value pos) (oI mo mk mv):=⟨fz (yE L.un (K9 M.un W.un set_list e) aC hw g) λD V H Q=>by
 refine cc λa=>?_
 obtain⟨O,U,S,bg,ak,st,h,q⟩:=Q;obtain⟨r,S1,g,e⟩:=N.inv h;clear h;obtain⟨d,bj,T,s⟩:=N.inv e;clear e;obtain⟨x,nE,u,E⟩:=N.inv s;clear s;obtain⟨y,cB,A,hd⟩:=N.inv E;clear E;obtain⟨cq,nF,t,h⟩:=N.inv hd;clear hd;refine a ⟨O,U,S,r,S1,st,g,λP v H1 g1 p J nn=>?_⟩;refine cc λa=>?_
 obtain⟨fe,rfl⟩:=qj (H₀:=H) J nn T;obtain rfl:=(mo U).dO _ _ _ u;obtain rfl:=(mk U).dO _ _ _ A;refine a ⟨cz H P,U,_,x,_,(p.cz H).s3,u,λC e0 aT g2 cF R a6=>?_⟩;refine⟨C,U,_,y,_,cF,A,λg_ pS dn B F Z Cq=>?_⟩;have m:=g2.trans B;have K:=(p.cz H).go m F.cp;refine cc λa=>?_
 obtain⟨n,b,rfl,rfl,Y,sn,g4⟩:=sO F (R.go B) t;obtain rfl:=(gx (.v (.ref n))).dO _ _ _ t;split at h
 .rename_i xs eE
  by_cases c:0<=eE/\eE<xs.length
  .rw[if_pos c]at h
   cases h;obtain⟨I,w,G⟩:=g4;cases(show pS=.int eE from Z);refine a ⟨b,I,eE,eE.toNat,rfl,rfl,w,?_,?_⟩
   .unfold mW
    rw[if_pos c.1,if_pos (by rw[G.len];exact c.2)]
   obtain⟨hP,hQ⟩:=K.write (u':=.l (I.set eE.toNat v)) (o:=.l (xs.set eE.toNat d)) Y w (by rintro(⟨_,z⟩|⟨_,_,z⟩)<;>cases z) (by intro _ z;cases z) (by intro _ z;cases z) λk=>
    ⟨_,dT,a'.set (k _ _ (Rep.go m fe)) eE.toNat (G.imp k)⟩
   exact q g_ V _ ((g1.cz.trans m.dN).trans hP).dy hQ
  .rw[if_neg c]at h;cases h
 .cases h⟩
end
end aY
namespace aY
open PySem PySem.Spec aE PyProof.Rows
def QY{l b:Addr}{xs ys:Array Value}{n m:Nat}{cA:Array (Option Value)}(u:¬(!xs.isEmpty&&ag0 (xs.size+ys.size))=true)(e:xs.size<=afe)(f:xs.size+ys.size<=afe+1) :
  Meets (Builtin.«list.extend» ⟨[.ref l,.ref b],[]⟩) λ_ R s=>s.heap.get? l=some ⟨.type "list",none,.seq xs n,#[]⟩/\s.heap.get? b=some ⟨.type "list",none,.seq ys m,cA⟩/\
   R (.ok (.ret .none)) { s with heap:=s.heap.update l (afD λx=>x++ys),toks:=s.toks }:=
 .of_wp λprog w A R s h=>by
  obtain⟨j,g,d,tk,os⟩:=s;obtain⟨a,i,h⟩:=h;have k:=AutoSeq1.idx_int;have p:=ahI;have r:=AutoSeq1.sub_list_list;have q:=AutoSeq1.sub_tuple_list;have t:=AutoSeq1.sub_list_tuple;have c:(xs++ys).size<=afe+1:=by rw[Array.size_append];exact f
  wp_walk using(aih a rfl (hz:=e) (_hz':=c)),aja a,aja i
  exact⟨_,rfl,h⟩
def Lx(K:aW):V->List V->av->cC->Prop:=λx c H Q=>∃l b xs a,x=.ref l/\c=[.ref b]/\H l=some (.l xs)/\cL K H b a/\xs.length+a.length<=afe/\Q .aF (upd H l (.l (xs++a)))
def Vf:mq X "list.extend" (Lx X.K):=by
 intro y s U H x M v L Q J j m h;refine cc λi=>?_
 obtain⟨l,b,xs,N,rfl,rfl,f,t,hz,q⟩:=h;cases j;obtain⟨u,rfl,p⟩:=m.one;cases p;obtain⟨z,a,n,r,E,e⟩:=J.n8 f;obtain⟨c,d,⟨⟨A,I,k,D⟩,B,aG,cX,aa,w⟩,_⟩:=J.list t;cases cX;cases aa;cases w;have G:=d.length;have hsz:a.toArray.size+c.toArray.size<=afe:=by rw[afd,afd];omega
 have g:¬(!a.toArray.isEmpty&&ag0 (a.toArray.size+c.toArray.size))=true:=by
  rw[KA hsz,agY];exact afc
 refine i ?_;refine aic F.slot_list_extend ⟨_,e,rfl⟩ F.entry_list_extend (F.args_list_extend_2 _ _) (QY g (by rw[afd];omega) (by omega)) ⟨e,aG,?_⟩;refine⟨.aF,_,J.su (its':=a++c) f e (by simp) (r.append d) ?_,rfl,q⟩;rw[afb];omega
variable[aE.a5]
def m_(xs:List D):List R->M (R×List D)
 |[r]=>match r.fp with
  |some ys=>do
   iv (xs.length+ys.length<=afe)
   pure (.v .aF,xs++ys)
  |none=>bad
 |_=>bad
def U5{K:aW}{mg:bx}:l_ K mg (Lx K) m_:=λO H H₀ l xs n rs x S p t ys Q j a f s h q=>by
 unfold m_ at h;split at h
 .rename_i r
  obtain⟨v,rfl,i⟩:=kq f;split at h
  .rename_i w e
   obtain⟨_,u,g,h⟩:=M.inv h;obtain⟨c,rfl⟩:=ue g;cases h;obtain⟨b,m,rfl,k,d⟩:=R.pw i e;exact⟨l,b,n,m,rfl,rfl,j,k,by rw[a.len,d.len];exact c,q .aF _ rfl ((a.append d).dc (jj _ _)) ⟨.aF,rfl,rfl⟩⟩
  .cases h
 .cases h
end aY
namespace aY
open PySem PySem.Spec aE PyProof.Rows
section
variable{X:aR}
def Vg:wF X "str.find" (λx xs H Q=>∃y z,x=.str y/\xs=[.str z]/\Q (.int (ajb y z)) H):=by
 rintro c s U H x xs v d Q J a rs ⟨y,z,ex,b,q⟩;subst ex b;obtain⟨t,rfl⟩:=a;obtain⟨u,rfl,t',rfl⟩:=vals1 rs;exact SC.find ⟨.int _,H,J.tok _,⟨_,rfl⟩,q⟩
end
variable[aE.a5]
@[simp] def Ah(f:R->List R->M R)(a:br)(ms:cJ)(U:aN):M R:=do
 let x <-a U
 let rs <-ms U
 f x rs
def D4(K:aW)(mg:bx)(r:V->List V->av->cC->Prop)(f:R->List R->M R):Prop:=
 ∀O U S J H x xs o rs bL C (Q:cC),cu K mg O U S J H->d6 K mg O H o x->hX K mg O H rs xs->(f o rs).run S=.ok bL C->tS K mg O U C J H bL Q->r x xs H Q
def Ek(f:R->List R->M R):Prop:=∀a rs S c b,(f a rs).run S=.ok c b->∃z,a=.v (.str z)
section
variable{X:aR}{o e:Expr}{aw:List Expr}{a:br}{ms:cJ}{name:Str}{apos cT:Pos}{id:String}{r:V->List V->av->cC->Prop}{f:R->List R->M R}
def abe(slot:aiU "str" name id)(W:typeOf (.builtin id)=pure (.type "method_descriptor"))(V:wF X id r)(T:D4 X.K X.mg r f)(os:Ek f)(n:bp X o a)(E:fQ X (e::aw) ms)
  (Y:agR o name X.env (eval o X.env)=eval o X.env:=by rfl)
  (C:((ahl cT (afV (e::aw) X.env)).all (λx=>!x.1)&&(backToKw cT (aiu [] X.env)).all (λx=>x.1.isSome)
&&decide ((e::aw).length+([]:List ahL).length+(if([]:List ahL).isEmpty then 0 else 1)<30))=true:=by rfl)
  (Z:(apos.endLine==cT.line)=true:=by rfl) (aC:fm X e aw:=by rfl) (R:gF X cT aw:=by rfl) :
  bp X (.Call (.Attribute o name apos) (e::aw) [] cT) (Ah f a ms):=⟨es (CJ PySem.F.plainAttrs_str slot W V n.un E.un Y C Z aC R) λD H Q s=>by
 obtain⟨O,U,S,I,B,st,h,q⟩:=s;obtain⟨x,S1,w,h⟩:=M.inv h;obtain⟨rs,d,y,h⟩:=M.inv h;refine⟨O,U,S,x,S1,st,w,λp P H1 i t u a6=>?_⟩;obtain⟨z,rfl⟩:=os _ _ _ _ _ h;cases(show P=.str z from u);refine⟨rfl,p,U,S1,rs,d,t,y,λc J b j N L nn=>?_⟩;exact T c U d D b _ J _ rs I B Q N (show d6 X.K X.mg c b (.v (.str z)) (.str z)from rfl) L h λA v m g G l k=>q A v m ((i.trans j).trans g) G l (k.back (i.trans j).same)⟩
end
def qq(x:R)(rs:List R):M R:=match x,rs with
 |.v (.str y),[.v (.str z)]=>pure (.v (.int (ajb y z)))|_,_=>bad
def Xf:Ek qq:=λa rs S c b h=>by
 unfold qq at h;split at h
 .exact⟨_,rfl⟩
 .cases h
section
variable{K:aW}{mg:bx}
def Pn:D4 K mg (λx xs H Q=>∃y z,x=.str y/\xs=[.str z]/\Q (.int (ajb y z)) H) qq:=λO U S f H x xs d rs g e Q st c a h q=>by
 unfold qq at h;split at h
 .rename_i y z
  cases h;obtain⟨v,rfl,b⟩:=kq a;exact⟨y,z,c,by rw[show v=V.str z from b],q O _ H (Go.refl _ _) st rfl trivial⟩
 .cases h
end
omit [aE.a5]in
@[simp] theorem adu:qq (.v (.str y)) [.v (.str z)]=pure (.v (.int (ajb y z))):=rfl
end aY
namespace aY
open PySem PySem.Spec aE PyProof.Rows PySem.W
section
variable{prog:afA}{w:World}{A:afI}{s:afa}{E:dm}
def QP{v:Value}{Q:Bool->afa->Prop}(h:Q true s):wpAny (model prog w) A (eqBool v v) Q E s:=by
 unfold eqBool
 try with_reducible refine agi ?_
 show wpAny _ _ (if(v==v)=true then _ else _) Q E s;rw[if_pos (beq_self_eq_true v)];exact B1 (wpAny_rule (afm h))
theorem JJ{b fin:Bool}{Q:Bool->afa->Prop}(h:Q fin s):∀(l:List Value)(i:Nat),KatLex prog w A b fin Q (l.zip l) i s
 |[],_=>kat_nil h|_::l,i=>kat_cons (QP (kat_yes (JJ h l (i+1))))
end
variable[aE.a5]
end aY
namespace aY
open PySem PySem.Spec aE
section
variable{P:List Value->Prop}
def ML(h:P []):∀a:List Value,a.length=0->P a:=λa e=>by rw[aim e];exact h
def pR(h:∀a,∀b:List Value,b.length=n->P (a::b)):∀b:List Value,b.length=n+1->P b:=λb e=>by
 cases b with
 |nil=>cases e
 |cons a r=>exact h a r (Nat.succ.inj e)
def DI(h:∀a,P [a]):∀b:List Value,b.length=1->P b:=pR λa=>ML (h a)
def MM(h:∀a b,P [a,b]):∀c:List Value,c.length=2->P c:=pR λa=>DI (h a)
def MN(h:∀a b c,P [a,b,c]):∀d:List Value,d.length=3->P d:=pR λa=>MM (h a)
def MO(h:∀a b c d,P [a,b,c,d]):∀e:List Value,e.length=4->P e:=pR λa=>MN (h a)
def MP(h:∀a b c d e,P [a,b,c,d,e]):∀f:List Value,f.length=5->P f:=pR λa=>MO (h a)
def MQ(h:∀a b c d e f,P [a,b,c,d,e,f]):∀g:List Value,g.length=6->P g:=pR λa=>MP (h a)
def MR(h:∀a b c d e f g,P [a,b,c,d,e,f,g]):∀i:List Value,i.length=7->P i:=pR λa=>MQ (h a)
end
end aY
namespace aY
open PySem PySem.Spec aE PyProof.Rows PySem.W
def vK(Z:fu):D->Option Z.κ.α
 |.t (d::_)=>Z.un d|_=>none
def ot(Z:fu):List D->Option (List Z.κ.α)
 |[]=>some []|d::ds=>match vK Z d,ot Z ds with
  |some p,some ps=>some (p::ps)|_,_=>none
def p4(Z:fu)(h:Heap)(p:Z.κ.α)(a:Addr):Prop:=∃(o:Obj)(v:Value)(m:Nat)(r:List Value),h.get? a=some o/\o.cls=.type "tuple"/\o.data=.seq (ahp (v::r)) m/\Z.κ.keyOf v=some p
def p4.kept{h h':Heap}(x:p4 Z h p a)(k:∀b o,h.get? b=some o->h'.get? b=some o):p4 Z h' p a:=by
 obtain⟨o,v,m,r,c,d,f,e⟩:=x;exact⟨o,v,m,r,k _ _ c,d,f,e⟩
structure KF(Z:fu):Prop where
 ok:Z.Ok
 ne:∀(prog:afA)(w:World)(A:afI)(E:dm)(s:afa)(v u:Value)(a b:Z.κ.α){Q:Bool->afa->Prop},Z.κ.keyOf v=some a->Z.κ.keyOf u=some b->a≠b->Q false s->wpAny (model prog w) A (eqBool v u) Q E s
 ty:∃T:Value,(T==T)=true/\(T != ajv "tuple")=true/\∀(prog:afA)(w:World)(h:Heap)(v:Value)(a:Z.κ.α),Z.κ.keyOf v=some a->Looks (model prog w) h (typeOf v) T
def Uw:KF jn where
 ok:=JR
 ne:=λprog w A E s v u a b Q c d e h=>by
  cases v<;>first|cases c|skip
  cases u<;>first|cases d|skip
  refine wpAny_eqBool_str ?_;rw[decide_eq_false (λz=>e (by rw[z]))];exact h
 ty:=⟨.type "str",by decide,by decide,λprog w h v a c=>by
  cases v<;>first|cases c|skip
  exact .now⟩
def N5{Z:fu}:∀{ps:List Z.κ.α},jH Z.κ.blt ps=true->ps.Nodup:=zJ Z.κ.toKeyOrd
section
variable{prog:afA}{w:World}{A:afI}{s:afa}{E:dm}{Z:fu}
def Y6{C:Bool->afa->Prop}(F:KF Z)(g:p4 Z s.heap p a)(l:p4 Z s.heap q b)(e:p≠q\/a=b/\p=q)(h:C (Z.κ.blt p q) s):wpAny (model prog w) A (keyLt' (tuples' true) (.ref a) (.ref b)) C E s:=by
 rcases e with e|⟨rfl,rfl⟩
 .obtain⟨o,v,m,r,c,k,d,k1⟩:=g
  obtain⟨o',i,x,u,n,t,j,f⟩:=l;exact kat_lt c d n j<|kat_cons (F.ne prog w A _ s v i p q k1 f e (kat_no (F.ok.one prog w A _ s v i p q k1 f h)))
 .obtain⟨o,v,m,r,c,k,d,k1⟩:=g
  refine kat_lt c d c d (JJ ?_ _ 0);rw[decide_eq_false (agf _)];rw[Z.κ.irrefl]at h;exact h
end
theorem L1:∀{ps:List Z.κ.α}{c:List Addr},c.length=ps.length->(∀(i:Nat)(p:Z.κ.α)(a:Addr),ps[i]? = some p->c[i]? = some a->p4 Z h p a)->∃fs:List Value,KatTups h (c.map aha) fs/\fs.length=c.length/\∀v∈fs,∃a,Z.κ.keyOf v=some a
 |[],[],_,_=>⟨[],.nil,rfl,λ_ h=>nomatch h⟩
 |p::ps,a::c,hl,C=>by
  obtain⟨fs,e,f,g⟩:=L1 (Nat.succ.inj hl) λi q b ao aG=>C (i+1) q b ao aG
  obtain⟨o,j,m,r,ao,aG,cI,dh⟩:=C 0 p a rfl rfl;refine⟨j::fs,.cons ao aG cI rfl e,by rw[afE,f];rfl,λv d=>?_⟩;rcases afz.mp d with rfl|d
  .exact⟨_,dh⟩
  .exact g v d
def wJ(Z:fu)(K:aW)(mg:bx)(O:a4)(H:av)(p:Z.κ.α)(a:Addr):Prop:=∃z b,dr K H a (z::b)/\Rep K mg O H (Z.a7 p) z
section
variable[aE.a5]{X:aR}{ah:cS}{U:aE.St}{H:av}{s:afa}{A:afI}{E:dm}{O:a4}{Q:cC}{Z:fu}
def wJ.is(F:KF Z)(J:Inv X ah U H s)(h:wJ Z X.K X.mg O H p b):p4 Z s.heap p b:=by
 obtain⟨z,f,a,c⟩:=h;obtain⟨e,r,⟨o,ao,aG,n,cI⟩,_⟩:=J.tuple a
 cases r with
 |cons d r=>exact⟨o,_,n,_,ao,aG,cI,F.ok.key p _ _ _ _ _ _ c d⟩
theorem L5{K:aW}{mg:bx}(F:Z.Ok):∀{ds:List D}{ps:List Z.κ.α}{ys:List V},ot Z ds=some ps->a' K mg O H ds ys->∃c:List Addr,ys=c.map V.ref/\c.length=ps.length/\ds.length=ps.length/\∀(i:Nat)(p:Z.κ.α)(a:Addr),ps[i]? = some p->c[i]? = some a->wJ Z K mg O H p a
 |[],ps,ys,h,r=>by cases h;cases(show ys=[]from r);exact⟨[],rfl,rfl,rfl,λi p a e=>by simp at e⟩
 |d::ds,ps,ys,h,r=>by
  unfold ot at h;refine cc λg=>?_
  split at h
  .rename_i p z ao aG
   cases h;obtain⟨y,m,rfl,t,q⟩:=r;obtain⟨c,rfl,l,n,u⟩:=L5 F aG q;unfold vK at ao;split at ao
   .rename_i j rest
    obtain⟨a,B,rfl,cN,w,f,rfl,bJ,x⟩:=t;rw[F.rd _ _ ao]at bJ;refine g ⟨a::c,rfl,by simp[l],by simp[n],λk p b ao aG=>?_⟩
    cases k with
    |zero=>simp at ao aG;subst ao aG;exact⟨w,f,cN,bJ⟩|succ k=>exact u k p b ao aG
   .cases ao
  .cases h
def Zy(F:KF Z)(J:Inv X ah U H s){ps:List Z.κ.α}{f:List Addr}{ds:List D}(n:f.length=ps.length)(hd:ds.length=ps.length)(P:a' X.K X.mg O H ds (f.map V.ref))(rows:∀(i:Nat)(p:Z.κ.α)(a:Addr),ps[i]? = some p->f[i]? = some a->wJ Z X.K X.mg O H p a)(c2:ps.Nodup)(j8:ps.length<64){d:List Value}(G:d=f.map aha)
  (q:∀l N,H l=none->a' X.K X.mg O H ((ht Z.κ.blt (ps.zip ds)).map (·.2)) N->Q (.ref l) (upd H l (.l N))) :
  wpAny (model X.prog X.w) A (do
   let l <-newList d
   let _ <-ahm [l] (call (.builtin "list.sort") [l] [])
   ret l) (λfin s'=>∃v,fin=Fin.done (.ret v)/\hS X ah U Q v s') E s:=by
 have u1:d.length=ps.length:=by rw[G,sg,n]
 have x:=λi p a ao aG=>(rows i p a ao aG).is F J
 let g:Z.κ.α:=Z.κ.dflt
 have t:∀i,i<d.length->ps[i]? = some (ps.getD i g)/\f[i]? = some (f.getD i 0)/\ds[i]? = some (ds.getD i .aF)/\d.getD i ag9=.ref (f.getD i 0):=λi hi=>by
  have m:i<ps.length:=by omega
  have r:i<f.length:=by omega
  have bq:i<ds.length:=by omega
  refine⟨by simp[ m],by simp[ r],by simp[ bq],?_⟩;rw[G];simp[ r]
 refine B1 (ahZ ?_ (by rw[afM];omega));have I:(s.heap.push (af5 "list" d.toArray 0)).get? s.heap.objs.size=some (af5 "list" d.toArray 0):=afv _ rfl;have kept:∀b o,s.heap.get? b=some o->(kV (s.heap.push (af5 "list" d.toArray 0)) s.heap.objs.size d).get? b=some o:=λb o e=>Ve (afH (afp e)) (afg _ e)
 refine B1 (agi (wpAny_call_entry_kw slot_list_sort ⟨_,I,rfl⟩ entry_list_sort ?body (args_list_sort _)));have inj:∀i j,i<d.length->j<d.length->i≠j->ps.getD i g≠ps.getD j g:=λi j hi h ne e=>by
  have ao:=(t i hi).1;have aG:=(t j h).1;rw[e,<-aG]at ao;exact ne ((List.getElem?_inj (by omega) c2).mp ao)
 refine Zu (κ:=tuples' true) (lt:=λi j=>Z.κ.blt (ps.getD i g) (ps.getD j g)) I (by omega) ?ord (λr Q nY=>?kind) (λi j C hi h eD=>?ask) λp R S=>?fin
 case ord=>
  refine⟨λi j k _ _ _ m r=>Z.κ.trans _ _ _ m r,λi j hi h ne m=>?_,λi j hi h m=>?_⟩
  .cases c:Z.κ.blt (ps.getD j g) (ps.getD i g)with
   |true=>rfl|false=>exact absurd (Z.κ.total _ _ m c) (inj i j hi h ne)
  .cases c:Z.κ.blt (ps.getD j g) (ps.getD i g)with
   |false=>rfl|true=>
    have:=Z.κ.trans _ _ _ m c;rw[Z.κ.irrefl]at this;cases this
 case kind=>
  obtain⟨fs,k1,k2,k3⟩:=L1 n λi p a ao aG=>(x i p a ao aG).kept kept
  rw[<-G]at k1;obtain⟨T,t1,gh,t3⟩:=F.ty;have f0:0<fs.length:=by omega
  refine kat_kind k1 f0 (λv aK=>by obtain⟨a,au⟩:=k3 v aK;exact t3 X.prog X.w _ v a au) t1 ?_;rw[gh];exact nY
 case ask=>
  unfold kas_ask;obtain⟨ao,aG,_,dh⟩:=t i hi;obtain⟨f1,f2,_,f4⟩:=t j h;rw[dh,f4];refine Y6 F ((x _ _ _ ao aG).kept kept) ((x _ _ _ f1 f2).kept kept) ?_ eD
  by_cases L:i=j
  .subst L;exact .inr ⟨rfl,rfl⟩
  .exact .inl (inj i j hi h L)
 case fin=>
  have vJ:ps.zip ds=(afR d.length).map λi=>(ps.getD i g,ds.getD i .aF):=by
   refine List.ext_getElem (by simp[u1,hd]) λi m r=>?_
   have a1:i<ps.length:=by simp at m;omega
   have a2:i<ds.length:=by omega
   simp[ a1,a2]
  have Vr:((ps.zip ds).map (·.1)).Nodup:=by
   rw[List.map_fst_zip (by omega)];exact c2
  have W:(ht Z.κ.blt (ps.zip ds)).map (·.2)=p.toList.map λi=>ds.getD i .aF:=by
   have one:p.toList.map (λi=>(ps.getD i g,ds.getD i .aF))=ht Z.κ.blt (ps.zip ds):=by
    refine Ds Z.κ.toKeyOrd ?_ ?_ ?_
    .exact Vr
    .rw[vJ];exact R.pm.map _
    .rw[aiL,agW]
     intro i j hi h lE;have hsz:p.toList.length=d.length:=by rw[afN,R.k8]
     have:=S i j lE (by omega);have Y:p.getD i 0=p.toList[i]:=by
      have:i<p.size:=by simpa using hi
      simp[ this]
     have Rz:p.getD j 0=p.toList[j]:=by
      have:j<p.size:=by simpa using h
      simp[ this]
     rw[Y,Rz]at this;exact this
   rw[<-one,ai8];rfl
  have tD:a' X.K X.mg O H (p.toList.map λi=>ds.getD i .aF) (p.toList.map λi=>V.ref (f.getD i 0)):=by
   have:∀l:List Nat,(∀i∈l,i<d.length)->a' X.K X.mg O H (l.map λi=>ds.getD i .aF) (l.map λi=>V.ref (f.getD i 0)):=by
    intro l
    induction l with
    |nil=>intro _;rfl|cons i l y=>
     intro n;obtain⟨_,g2,g3,_⟩:=t i (n i afq);obtain⟨u,ao,aG⟩:=P.get g3;rw[afh,g2]at ao;cases ao;exact⟨_,_,rfl,aG,y λk z=>n k (afl _ z)⟩
   exact this _ λi hi=>agp.mp (R.pm.mem_iff.mp hi)
  have zg:Vals (p.toList.map λi=>V.ref (f.getD i 0)) (p.toList.map λi=>d.getD i ag9):=by
   have:∀l:List Nat,(∀i∈l,i<d.length)->Vals (l.map λi=>V.ref (f.getD i 0)) (l.map λi=>d.getD i ag9):=by
    intro l
    induction l with
    |nil=>intro _;exact .nil| cons i l y=>intro n;exact .cons (by show RelV (V.ref _) (d.getD i ag9);rw[(t i (n i afq)).2.2.2];rfl) (y λk z=>n k (afl _ z))
   exact this _ λi hi=>agp.mp (R.pm.mem_iff.mp hi)
  obtain⟨e,he⟩:=sortedHeap_at I;refine⟨_,rfl,afm ⟨_,rfl,.ref s.heap.objs.size,upd H s.heap.objs.size (.l (p.toList.map λi=>V.ref (f.getD i 0))),?_,rfl,q _ _ (J.cf.fresh (ae9 _)) (by rw[W];exact tD)⟩⟩;refine J.laid (λb o M=>?_) (ae9 _) ⟨?_,_,e,zg,?_⟩
  .have B:=afp M
   rw[sortedHeap_old (afH B) (by rw[size_push'];exact aiM B),agU _ _ _ (afH B)];exact M
  .rw[sg,afN,R.k8,afM];omega
  .rw[he]
end
variable[aE.a5]
def rT(Z:fu):List R->M R
 |[x]=>match x.fp with
  |some ds=>match ot Z ds with
   |some ps=>if jH Z.κ.blt ps=true/\ps.length<64 then pure (.fr ((ht Z.κ.blt (ps.zip ds)).map (·.2)))else bad|none=>bad
  |none=>bad
 |_=>bad
def PN{X:aR}(G:X.calm=true)(F:KF Z):jU X (.builtin "sorted") (fun xs H Q=>∃(p:Addr)(ys:List V)(O:a4)(ds:List D)(ps:List Z.κ.α),xs=[.ref p]/\cL X.K H p ys/\a' X.K X.mg O H ds ys/\ot Z ds=some ps/\jH Z.κ.blt ps=true/\ps.length<64/\
  ∀l k,H l=none->a' X.K X.mg O H ((ht Z.κ.blt (ps.zip ds)).map (·.2)) k->Q (.ref l) (upd H l (.l k))):=by
 rintro E s U H xs L Q J y ⟨p,ys,O,ds,ps,ex,z,j,m,w,A,q⟩;subst ex;obtain⟨u,rfl,x⟩:=vals1 y;cases x;obtain⟨c,rfl,i,hd,rows⟩:=L5 F.ok m j;refine call_function_entry_kw kind_sorted plain_sorted entry_sorted (args_sorted1 _)<|B1 (afm ?_)
 obtain⟨d,B,pl,_⟩:=J.list z;have g:d=c.map aha:=by
  have:∀{c:List Addr}{d:List Value},Vals (c.map V.ref) d->d=c.map aha:=by
   intro c
   induction c with
   |nil=>intro d h;cases h;rfl
   |cons a c n=>intro d h;cases h with
    |cons r t=>cases r;rw[n t];rfl
  exact this B
 have I:d.length=ps.length:=by rw[g,sg,i]
 refine B1 (collect_list pl.isList ?_ (by rw[afM];omega));refine Zy F (J.kept λb o e=>?_) i hd j rows (N5 w) A g q;have f:=afp e;rw[Heap.get?_update_ne _ _ _ _ (afH f),agU _ _ _ (afH f)];exact e
def Uc{Z:fu}{K:aW}{mg:bx}:kC K mg (fun xs H Q=>∃(p:Addr)(ys:List V)(O:a4)(ds:List D)(ps:List Z.κ.α),xs=[.ref p]/\cL K H p ys/\a' K mg O H ds ys/\ot Z ds=some ps/\jH Z.κ.blt ps=true/\ps.length<64/\
  ∀l f,H l=none->a' K mg O H ((ht Z.κ.blt (ps.zip ds)).map (·.2)) f->Q (.ref l) (upd H l (.l f))) (rT Z):=λO U S s H u rs t r Q st g h q=>by
 unfold rT at h;refine cc λi=>?_
 split at h
 .rename_i x
  obtain⟨v,rfl,j⟩:=kq g;split at h
  .rename_i ds e
   split at h
   .rename_i ps aG
    by_cases c:jH Z.κ.blt ps=true/\ps.length<64
    .rw[if_pos c]at h
     cases h;obtain⟨a,ys,rfl,l,n⟩:=R.pw j e;refine i ⟨a,ys,O,ds,ps,rfl,l,n,aG,c.1,c.2,λp f d m=>?_⟩;refine q (gA O p .dP) _ _ (Go.new d) (st.new d) ⟨p,f,rfl,dT,l2,m.go (Go.new d)⟩ λb k=>?_
     cases k;exact d
    .rw[if_neg c]at h;cases h
   .cases h
  .cases h
 .cases h
omit [aE.a5]in
theorem QE{x:R}:rT Z [x]=match x.fp with
  |some ds=>match ot Z ds with
   |some ps=>if jH Z.κ.blt ps=true/\ps.length<64 then pure (.fr ((ht Z.κ.blt (ps.zip ds)).map (·.2)))else bad|none=>bad
  |none=>bad:=rfl
end aY
namespace aY
open PySem PySem.Spec aE
def H0(N P:List Str)(a:Scope):Bool:=decide (a.kind=.function)&&!a.isCoroutine&&!a.isGenerator&&decide N.Nodup&&decide (N.take P.length=P)
&&P.all (λx=>decide (a.names.lookup x=some .local)||decide (a.names.lookup x=some .cell))&&a.names.all λy=>decide (y.2≠.free)
def xd{N P:List Str}(h:H0 N P sc=true):jA N P sc:=by
 simp only[H0,afG,Bool.not_eq_true',decide_eq_true_eq,af4,Bool.or_eq_true]at h;exact⟨h.1.1.1.1.1.1,h.1.1.1.1.1.2,h.1.1.1.1.2,h.1.1.1.2,h.1.1.2,h.1.2,h.2⟩
def Gp(a xs:List Str)(cap:List Nat):List Str:=xs++cap.filterMap λk=>a[k]?
def Gq(a scope:Scope)(b N:List Str)(n:Nat)(cap:List Nat):Bool:=decide (scope.kind=.function)&&scope.names.all (λy=>decide (y.2≠.cell))&&scope.names.all (λy=>decide (y.2=.local->scope.names.lookup y.1=some .local))
&&scope.names.all (λy=>decide (y.2=.free->a.names.lookup y.1=some .cell\/a.names.lookup y.1=some .free))&&decide N.Nodup&&decide (N.length=n+cap.length)
&&(afR cap.length).all λj=>decide (N[n+j]? = b[cap.getD j 0]?)&&(match N[n+j]? with|some x=>decide (scope.names.lookup x=some .free)|none=>true)
def Ar{c xs:List Str}(h:Gq esc scope c (Gp c xs cap) xs.length cap=true):nq esc scope c (Gp c xs cap) xs.length cap:=by
 simp only[Gq,afG,decide_eq_true_eq,af4]at h;obtain⟨⟨⟨⟨⟨⟨f,g⟩,l⟩,k⟩,m⟩,n⟩,d⟩:=h;refine⟨f,g,l,k,m,n,λj e=>?_⟩;obtain⟨a,b⟩:=d j (agp.mpr e);refine⟨a,λx i=>?_⟩;rw[i]at b;exact of_decide_eq_true b
def mZ{N:List Str}(h:decide N.Nodup=true):N.Nodup:=of_decide_eq_true h
def Vq{p:Nat->Prop}(b:p 0)(a:∀n,p (n+1)):∀n,p n:=λn=>by cases n with|zero=>exact b|succ n=>exact a n
variable[aE.a5]
end aY
namespace aY
open PySem PySem.Spec aE
variable[aE.a5]
structure cD(K:aW)(mg:bx)(x:Str)(st:Stmt)(ps N:List Str):Prop where
 d:iL K mg x st ps
 s:jA N ps (eo st)
def zp(K:aW)(mg:bx)(x:Str)(st:Stmt):Prop:=∃c h,p7 K c h (qN x)/\∀(f:Addr)(e:Value)(g:Option Addr)(ei a pm:Value)(d:Option Addr)(b cM:Value)(o:Array (Option Value)),mg x=some (.ref f)->K.lookup f=some ⟨e,g,.func (ahw x x (ly st) (hA st) (eo st) .none ei a pm d b cM),o⟩->b=.ref c
section
variable(P:afA)(w:World)(base:Heap){K:aW}{mg:bx}{x:Str}{st:Stmt}{ps N:List Str}
abbrev dg(_:cD K mg x st ps N)(j k:Nat)(f:bV):Prop:=k<=j->gC P w K mg base x ps k (i3 K mg f)
abbrev ik(_:cD K mg x st ps N)(j k:Nat)(f:e8):Prop:=k<=j->gC P w K mg base x ps k (lW K mg f)
end
section
variable{P:afA}{w:World}{base:Heap}{K:aW}{mg:bx}{x c:Str}{st:Stmt}{ps N:List Str}{j k:Nat}{f:bV}{g:e8}{b:bc}{e:b8}
abbrev D3(P:afA)(w:World)(K:aW)(mg:bx)(base:Heap)(N:List Str)(q:Str)(st:Stmt)(j k:Nat)(T:aR->List Stmt->Prop):Prop:=
 k+1<=j->∀(f:Addr)(a:Value)(A:afI)(outer:List Env)(s:afa)(H:av)(E:f_),c6 k (A.deeper (agt q (eo st) s.heap.objs.size f a))->T (ix fi P w K mg base N q (eo st) f a A outer s H E).h_ (hA st)
def du(d:cD K mg x st ps N)(m:f=fnOf ps.length N.length b)(i:D3 P w K mg base N x st j k (jF · · b)):dg P w base d j (k+1) f:=λh=>by
 subst m;exact IL d.d d.s rfl rfl λf l A outer s H E a=>(i h f l A outer s H E a).un
def Ie(d:cD K mg x st ps N)(l:zp K mg x st)(p:f=fnOf ps.length N.length b)(m:k+1<=j->∀(c a:Addr),p7 K c a (qN x)->∀(f:Addr)(A:afI)(outer:List Env)(s:afa)(H:av)(E:f_),c6 k (A.deeper (agt x (eo st) s.heap.objs.size f (.ref c)))->jF (ix fi P w K mg base N x (eo st) f (.ref c) A outer s H E).h_ (hA st) b):dg P w base d j (k+1) f:=λh=>by
 subst p;obtain⟨c,a,L,n⟩:=l;exact SK d.d n d.s rfl rfl λf A outer s H E i=>(m h c a L f A outer s H E i).un
def iS(d:cD K mg x st ps N)(i:g=fnX ps.length N.length e)(a:D3 P w K mg base N x st j k (jc · · e)):ik P w base d j (k+1) g:=λh=>by
 subst i;exact RW d.d d.s rfl rfl (a h)
end
end aY
namespace aY
open PySem PySem.Spec aE
def we(ms:h1):dG:=λU=>do
 let rs <-ms U
 let ds <-(jg rs).up
 if ds.length<=1000 then pure (.fr ds)else fc
variable[aE.a5]
section
variable{X:aR}{aw:List Expr}{ms:h1}{pos:Pos}
def acm(c:jG X aw ms):ek X (.List aw pos) (we ms):=⟨es (K4 c.un) λx H Q i=>by
 obtain⟨O,U,S,r,w,st,h,q⟩:=i;obtain⟨rs,S1,k,c⟩:=N.inv h;clear h;obtain⟨ds,y,l,h⟩:=N.inv c;clear c;refine⟨O,U,S,rs,S1,st,k,λg t u d j m nn=>?_⟩;split at h
 .rename_i s
  cases h;obtain⟨e,rfl⟩:=ui (H₀:=H) m nn l;refine⟨agw (f3 (by rw[e.len];exact s)),λp b=>?_⟩;have f:=j.cz H;refine q (gA (cz H g) p .dP) _ _ (d.cz.trans (Go.new b).dN) (f.go (Go.new b) (f.s3.cp.new b)) ⟨p,t,rfl,dT,l2,e.go (Go.new b)⟩ λa n=>?_
  cases n
  cases ao:H p with
  |none=>rfl|some o=>exact absurd b (d.has p (iJ ao))
 .cases h⟩
end
end aY
namespace aY
open PySem PySem.Spec aE
def za(ms:h1):dG:=λU=>do
 let rs <-ms U
 let ds <-(jg rs).up
 if ds.length<=1000 then pure (.v (.t ds))else fc
variable[aE.a5]
section
variable{X:aR}{aw:List Expr}{ms:h1}{pos:Pos}
def acr(b:jG X aw ms):ek X (.Tuple aw k pos) (za ms):=⟨es (K7 b.un) λw H Q f=>by
 obtain⟨O,U,S,r,u,st,h,q⟩:=f;obtain⟨rs,S1,i,b⟩:=N.inv h;clear h;obtain⟨ds,x,j,h⟩:=N.inv b;clear b;refine⟨O,U,S,rs,S1,st,i,λe s t m g l nn=>?_⟩;split at h
 .rename_i n
  cases h;obtain⟨c,rfl⟩:=ui (H₀:=H) l nn j;refine⟨agw (f3 (by rw[c.len];exact n)),λp a=>?_⟩;have d:=g.cz H;exact q (cz H e) _ _ (m.cz.trans (Go.gu a).dN) (d.go (Go.gu a) (d.s3.gu a).cp) ⟨p,s,rfl,dr.of dT,c.go (Go.gu a)⟩ trivial
 .cases h⟩
end
end aY
namespace aY
open PySem PySem.Spec aE PyProof.Rows
section
variable{E:f_}
structure Lets(X:aR)(E:f_):Prop where
 made:∀(ah:cS)(U:aE.St)(H:av)(s:afa)(h':Heap)(e:Addr)(cls:Value)(args:List Value),Inv X ah U H s->Heap.MadeExcOf s.heap h' e cls args->E cls none H->X.dx (.ref e) { s with heap:=h' }
end
def XF{K:aW}{h:Heap}{mg:bx}{x:Str}{C:Addr}{b:List Value}{a:String}(X:K.In h)(e:mg x=some (.ref C))(q:W.excIn K C b a=true):OwnCls x C b a mg h:=by
 refine⟨e,?_⟩;unfold W.excIn at q;refine cc λi=>?_
 split at q
 .rename_i dd cd cA g
  split at q
  .rename_i s bm k0 k1 k2 k3 n k5 m aC
   simp only[afG,beq_iff_eq,Bool.not_eq_true']at q;obtain⟨⟨⟨⟨⟨rfl,rfl⟩,d⟩,j⟩,cf⟩,c⟩:=q;obtain⟨nm,bs,p,ns,r,hd,sn,sub,ab,col,k⟩:=cd;subst m d;have f:cA=#[k0,k1,k2,k3,some (.builtin n),k5]:=by
    obtain⟨l⟩:=cA;simp only at aC;rw[aC]
   subst f;exact i ⟨bm,ns,nm,r,bs,hd,sn,sub,ab,col,dd,k0,k1,k2,k3,k5,_,X _ _ g,.of_isNs (W.isNs_of_in X cf),W.nsMap_none_of_in X cf c,W.tail_of_in X j⟩
  .cases q
 .cases q
abbrev Po:List Value:=[.type "ValueError",.type "Exception",.type "BaseException",.type "object"]
structure Eb(K:aW)(mg:bx)(x:Str)(C:Addr):Prop where
 at':mg x=some (.ref C)
 ok:W.excIn K C Po "ValueError.__new__"=true
section
variable{X:aR}{x:Str}{C:Addr}{cx:Expr}{rest:List Expr}{t:fC}{np cT pos:Pos}{E:f_}
def Yu(V:Eb X.K X.mg x C)(u:X.calm=true)(l:d5 X x)(L:Lets X E)(k:gR X (cx::rest) t)(he:fm X cx rest:=by rfl)
  (p:gF X cT rest:=by rfl) (m:eT x:=by decide) :
  iq X (.Raise (some (.Call (.Name x np) (cx::rest) [] cT)) none pos) (λ_ U H=>t U H λf b=>f.length<=afe/\E (.ref C) none b):=by
 intro d s U H D J h;refine cc λj=>?_
 obtain⟨A,N,nm,q,bs,hdct,sn,sub,ab,col,dd,k0,k1,k2,k3,k5,G,n,hN,g,T⟩:=(XF J.ok.mod.sm V.at' V.ok).obj;have B:=PySem.F.excBase_ValueError;refine j ?_;refine wpAny_Raise_call_subU (nm:=nm) (q:=q) (N:=N) (bs:=bs) (hdct:=hdct) (sn:=sn) (sub:=sub) (ab:=ab) (col:=col) (dd:=dd) (k0:=k0) (k1:=k1) (k2:=k2) (k3:=k3) (k5:=k5)
  B (by decide +kernel) B (T.hasType B.hasBase) (J.ok.hd u) (by rw[he];show(false||(ahl cT (afV rest X.env)).any (·.1))=false;rw[p];rfl) g (uY J l V.at' ⟨rfl,?_⟩ m)
 have c:=k cT d s U H _ J h;rw[he]at c ⊢;refine aib (afX c (λI z ⟨f,b,a,r,hz,i⟩=>?_) λ_ _ y=>y);exact⟨rfl,by rw[<-r.length];exact hz,a.bk _ _ n,hN.keeps a.bk,T.keeps a.bk,λh' e w=>L.made d U b z h' e _ _ a w i⟩
end
end aY
namespace aY
open PySem PySem.Spec aE PyProof.Rows
variable[aE.a5]
structure wM(X:aR)(E:f_)(m8:List Stmt)(m:bc):Prop where
 un:hV X m8 λ_ U H=>i5 X.K X.mg m { a6:=λ_ H'=>∀c C,(.aF:V)=.str c->X.mg c=some (.ref C)->E (.ref C) none H',b0:=λv H'=>∀c C,v=.str c->X.mg c=some (.ref C)->E (.ref C) none H' } U H
def acK:bc:=λ_=>bad
def acL(t:aN->M Bool)(c:Str)(r:bc):bc:=λU=>do
 let t <-t U
 if t=true then pure (.b0 (.v (.str c)))else r U
section
variable{X:aR}{E:f_}{m8 rest:List Stmt}{t:aN->M Bool}{r:bc}{x:Str}{d:D}{cx c:Expr}{np cT pos gM:Pos}
def abN:wM X E m8 acK:=⟨λ_ _ _ _ _ _ z=>by obtain⟨_,_,_,_,_,_,h,_⟩:=z;cases h⟩
def abO(V:∃C,Eb X.K X.mg x C)(F:X.calm=true)(p:d5 X x)(L:Lets X E)(s:fl X c t)(n:fQ X [cx] (bW (aH d) d7))(i:wM X E rest r)(he:fm X cx []:=by rfl)
  (B:(ahl cT (afV [] X.env)).any (·.1)=false:=by rfl) (z:eT x:=by decide) :
  wM X E (.If c [.Raise (some (.Call (.Name x np) [cx] [] cT)) none gM] [] pos::rest) (acL t x r):=by
 obtain⟨C,V⟩:=V;refine⟨vB (CW (CT s.un (CY (Yu V F p L n.un he B z)) Li) i.un) λD I H j=>?_⟩;obtain⟨O,U,S,w,m,st,h,q⟩:=j;obtain⟨g,S1,l,h⟩:=M.inv h;refine⟨O,U,S,g,S1,st,l,λa G f b=>?_⟩
 cases g with
 |false=>
  rw[if_neg afc]at h;exact lK ⟨a,U,S1,w,m,b,h,q.di f.di (d_.refl _ _)⟩
 |true=>
  rw[if_pos rfl]at h;cases h;refine lL ⟨a,U,_,[.v d],_,b,rfl,λu N k A e y nn=>⟨?_,q u (.str x) k ((f.trans A).di) e.cp e.gy rfl x C rfl V.at'⟩⟩;rw[y.len];exact agw (f3 (show 1<=1000 by omega))
end
end aY
namespace aY
open PySem PySem.Spec aE
open Sem (wp)
inductive l9{α β:Type}(R:α->β->Prop):List α->List β->Prop
 |nil:l9 R [] []
 |cons {x:α}{y:β}{xs:List α}{ys:List β}:R x y->l9 R xs ys->l9 R (x::xs) (y::ys)
def eQ(h:Heap):Nat->D->Value->Prop
 |_,.aF,v=>v=.none|_,.int i,v=>∃t,v=.int i t|_,.str x,v=>afT x=true/\∃t,v=.str x t|n+1,.t xs,v=>∃(a:Addr)(o:Obj)(b:Array Value)(m:Nat),v=.ref a/\h.get? a=some o/\o.cls=.type "tuple"/\o.data=.seq b m/\l9 (eQ h n) xs b.toList|_,_,_=>False
def q1:Nat->D->Nat
 |n+1,.t xs=>(xs.map (q1 n)).sum+1|_,_=>1
section
variable{h h':Heap}
theorem zF{R c:D->Value->Prop}(f:∀d v,R d v->c d v):∀{xs:List D}{e:List Value},l9 R xs e->l9 c xs e
 |_,_,.nil=>.nil|_,_,.cons a b=>.cons (f _ _ a) (zF f b)
theorem eQ.stays{o:Obj}{aw cV}(g:h.get? c=some o)(hd:o.data=.dict aw cV)(aC:ai3 c h h'):∀{n:Nat}{d:D}{v:Value},eQ h n d v->eQ h' n d v
 |n+1,.t xs,v,x=>by
  obtain⟨a,o',k,m,e,b,i,f,j⟩:=x;refine⟨a,o',k,m,e,(aC.2 a λz=>?_).trans b,i,f,zF (λd v=>eQ.stays g hd aC) j⟩;subst z;rw[g]at b;cases b;rw[hd]at f;cases f
 |0,.t _,_,x=>x.elim| n,.aF,v,x=>by cases n<;>exact x
 |n,.int _,v,x=>by cases n<;>exact x
 |n,.str _,v,x=>by cases n<;>exact x
 |n,.aM _,v,x=>by cases n<;>exact x.elim
 |n,.l _,v,x=>by cases n<;>exact x.elim
 |n,.ref _,v,x=>by cases n<;>exact x.elim
 |n,.fn _,v,x=>by cases n<;>exact x.elim
 |n,.ty _,v,x=>by cases n<;>exact x.elim
theorem eQ.sY{P:Nat->D->Value->Prop}(g:∀n,P n .aF .none)(c:∀n i t,P n (.int i) (.int i t))(e:∀n x t,afT x=true->P n (.str x) (.str x t))
  (f:∀n xs a o b m,h.get? a=some o->o.cls=.type "tuple"->o.data=.seq b m->l9 (λd v=>eQ h n d v/\P n d v) xs b.toList->P (n+1) (.t xs) (.ref a)):∀{n:Nat}{d:D}{v:Value},eQ h n d v->P n d v
 |n+1,.t xs,v,x=>by
  obtain⟨a,o,b,m,rfl,ao,aG,cI,dh⟩:=x;exact f n xs a o b m ao aG cI (zF (λd v z=>⟨z,eQ.sY g c e f z⟩) dh)
 |0,.t _,_,x=>x.elim|n,.aF,v,x=>by
  obtain rfl:v=.none:=(by cases n<;>exact x);exact g n
 |n,.int _,v,x=>by
  obtain⟨t,rfl⟩:∃t,v=.int _ t:=(by cases n<;>exact x);exact c n _ t
 |n,.str _,v,x=>by
  obtain⟨k,t,rfl⟩:_/\∃t,v=.str _ t:=(by cases n<;>exact x);exact e n _ t k
 |n,.aM _,v,x=>by cases n<;>exact x.elim
 |n,.l _,v,x=>by cases n<;>exact x.elim
 |n,.ref _,v,x=>by cases n<;>exact x.elim
 |n,.fn _,v,x=>by cases n<;>exact x.elim
 |n,.ty _,v,x=>by cases n<;>exact x.elim
def eQ.bt{d:D}{v:Value}(x:eQ h n d v):d.bt n=true:=
 eQ.sY (P:=λn d _=>d.bt n=true) (λn=>rfl) (λn _ _=>rfl) (λn _ _ k=>k) (λn xs a o c m _ _ _ z=>by
  show gr xs n=true;generalize c.toList=vs at z
  induction z with
  |nil=>rfl| cons a _ b=>rw[gr,a.2,b];rfl) x
def eQ.reads{d:D}{v:Value}(x:eQ h n d v):∃b,Reads h v d.py b:=
 eQ.sY (P:=λn d v=>∃b,Reads h v d.py b) (λn=>⟨_,.none⟩) (λn i t=>⟨_,.int i t⟩) (λn x t _=>⟨_,.str x t⟩) (λn xs a o f m ao aG cI z=>by
  have key:∀{xs:List D}{c:List Value},l9 (λd v=>eQ h n d v/\∃b,Reads h v d.py b) xs c->∃b,ReadsAll h c (D.py.jO xs) b:=λz=>by
   induction z with
   |nil=>exact⟨_,.nil⟩|cons a _ e=>obtain⟨b,r⟩:=a.2;obtain⟨bs,q⟩:=e;exact⟨_,.cons r q⟩
  obtain⟨b,q⟩:=key z;exact⟨b,.tuple ao aG cI q⟩) x
def CP{v:Value}(x:eQ h n d v):∀{m:Nat}{e:D}{u:Value},eQ h m e u->cP d e=decide (d=e):=
  eQ.sY (P:=fun _ d _=>∀{m:Nat}{e:D}{u:Value},eQ h m e u->cP d e=decide (d=e)) (fun n m e u y=>by
      cases e<;>first|(symm;exact decide_eq_true rfl)|(symm;exact decide_eq_false (by intro z;cases z)))
    (fun n i t m e u y=>by
      cases e with
      |int j=>
                 show(i==j)=_;by_cases c:i=j
                 · rw[decide_eq_true (by rw[c]),c];exact beq_self_eq_true j
                 · rw[decide_eq_false (by intro z;cases z;exact c rfl)];exact beq_eq_false_iff_ne.mpr c
      |aM b=>cases m<;>exact y.elim
      |_=>symm;exact decide_eq_false (by intro z;cases z))
    (fun n x t _ m e u y=>by
      cases e with
      |str j=>
                 show(x==j)=_;by_cases c:x=j
                 · rw[decide_eq_true (by rw[c]),c];exact beq_self_eq_true j
                 · rw[decide_eq_false (by intro z;cases z;exact c rfl)];exact beq_eq_false_iff_ne.mpr c
      |_=>symm;exact decide_eq_false (by intro z;cases z))
    (fun n xs a o us m ao aG cI z g e u y=>by
      cases e with
      |t ys=>
        cases g with
        |zero=>exact y.elim|succ g=>
          obtain⟨_,_,f,_,_,_,_,_,y⟩:=y;have key:iH xs ys=decide (xs=ys):=by
            generalize us.toList=q at z;generalize f.toList=f at y;clear ao aG cI
            induction z generalizing ys f with
            |nil=>cases y with
              |nil=>exact(decide_eq_true rfl).symm| cons _ _=>exact(decide_eq_false (by intro z;cases z)).symm
            |@cons d v xs q a _ k=>cases y with
              | nil=>exact(decide_eq_false (by intro z;cases z)).symm|@cons e u ys f p l=>
                show(cP d e&&iH xs ys)=_;rw[a.2 p,k _ _ l,<-Bool.decide_and];exact decide_eq_decide.mpr ⟨λz=>by rw[z.1,z.2],λz=>by cases z;exact⟨rfl,rfl⟩⟩
          show iH xs ys=_;rw[key];exact decide_eq_decide.mpr ⟨λz=>by rw[z],λz=>by cases z;rfl⟩
      |_=>symm;exact decide_eq_false (by intro z;cases z)) x
def eQ.inj[aE.a5]{v:Value}(x:eQ h n d v)(y:eQ h n e v):d=e:=by
 obtain⟨a,r⟩:=x.reads;obtain⟨bs,q⟩:=y.reads;have z:=(Reads.unique r _ _ q).1;have ao:=qp d e n n x.bt y.bt;rw[<-z,qp d d n n x.bt x.bt,CP x x,CP x y,decide_eq_true rfl]at ao;exact of_decide_eq_true ao.symm
end
section
variable{prog:afA}{w:World}{A:afI}{E:dm}{s:afa}
def Yj{v:Value}(x:eQ s.heap n d v):∀{A:afI}{c:afa}{Q:Int->afa->Prop},A.units+n<cLine->c.heap=s.heap->Q (pK w n d) { c with toks:=c.toks+q1 n d }->wpAny (model prog w) A (pyHash v) Q E c:=
 eQ.sY (P:=λn d v=>∀{A:afI}{c:afa}{Q:Int->afa->Prop},A.units+n<cLine->c.heap=s.heap->Q (pK w n d) { c with toks:=c.toks+q1 n d }->wpAny (model prog w) A (pyHash v) Q E c)
  (λn A c Q l _ q=>by
   have q:Q (W.hashW w.params .none) { c with toks:=c.toks+1 }:=by cases n<;>exact q
   exact W.pyHash_slot (T:="NoneType") rfl F.slot_NoneType_hash F.entry_NoneType_hash (F.args_NoneType_hash_1 _) (beq_builtin_none _) (.inr (by omega)) (B1 (afm (B1 (wpAny_mkInt (afm ⟨_,_,rfl,q⟩))))))
  (λn i t A c Q _ _ q=>by
   have q:Q (hashInt i) { c with toks:=c.toks+1 }:=by cases n<;>exact q
   exact wpAny_pyHash_int q)
  (λn x t _ A c Q _ _ q=>by
   have q:Q (hashStr w x) { c with toks:=c.toks+1 }:=by cases n<;>exact q
   exact wpAny_pyHash_str q)
  (λn xs a o r m ao aG cI z A c Q l hh q=>by
   rw[<-hh]at ao;refine W.pyHash_slot (T:="tuple") ⟨_,ao,aG⟩ F.slot_tuple_hash F.entry_tuple_hash (F.args_tuple_hash_1 _) (beq_builtin_none _) (.inr (by omega)) ?_;show wpAny _ _ (aiH (.ref a) >>= _) _ _ c;refine B1 (wpAny_tupleItemsOf ao cI (B1 ?_));rw[<-ahH];refine ah0 _ (λrest (b:Array Int) t=>t.heap=s.heap/\∃done e,xs=done++e/\l9 (λd v=>eQ s.heap n d v/\∀{A:afI}{c:afa}{Q:Int->afa->Prop},A.units+n<cLine->c.heap=s.heap->Q (pK w n d) { c with toks:=c.toks+q1 n d }->wpAny (model prog w) A (pyHash v) Q E c) e rest/\b.toList=done.map (pK w n)/\t={ c with toks:=c.toks+(done.map (q1 n)).sum }) _ ?_ ?_ _ _ ⟨hh,[],xs,rfl,z,rfl,rfl⟩
   .rintro v rest b t ⟨g,done,e,ex,h,f,rfl⟩
    cases h with
    |@cons d _ e _ k j=>
     have p:A.in1.units+n<cLine:=by simp only[Around.in1_units];omega
     refine B1 (k.2 (by first|exact p|omega|(simp only[Around.in1_units];omega)) g ?_)
     first
      |exact afm ⟨g,done++[d],e,by rw[ex];simp,j,by simp[f],by simp[ajB]⟩
      |exact B1 (afm (afm ⟨g,done++[d],e,by rw[ex];simp,j,by simp[f],by simp[ajB]⟩))
   .rintro b t ⟨g,done,e,ex,h,f,rfl⟩
    cases h;rw[agO]at ex;subst ex;show wpAny _ _ (retInt (aiT b.toList)) _ _ _;rw[f];exact B1 (wpAny_mkInt (afm ⟨_,_,rfl,by simpa[q1,pK,ajB]using q⟩))) x
def Yk{v:Value}(x:eQ s.heap n d v):∀{Q:Bool->afa->Prop},Q true s->wpAny (model prog w) A (eqIsQuiet n v) Q E s:=
 eQ.sY (P:=λn d v=>∀{Q:Bool->afa->Prop},Q true s->wpAny (model prog w) A (eqIsQuiet n v) Q E s)
  (λn Q q=>by rw[aiN _ rfl];exact afm q) (λn i t Q q=>by rw[aiN _ rfl];exact afm q) (λn x t _ Q q=>by rw[aiN _ rfl];exact afm q)
  (λn xs a o h m ao aG cI z Q q=>by
   have c:s.TypeIs (.ref a) "tuple":=⟨_,ao,aG⟩;unfold eqIsQuiet;refine B1 (wpAny_specialOf c F.slot_tuple_eq.lookup ?_);show wpAny _ _ (isInstance (.ref a) (.type "tuple") >>= _) _ _ s;refine B1 (wpAny_isInstance c isSubtype_tuple_tuple ?_);simp only[Bool.not_true,ahd,if_false];refine B1 (wpAny_seqItems ao cI (B1 ?_));show wpAny _ _ (forIn h _ _) _ _ s;rw[<-ahH];refine ah0 _ (λrest r t=>r.1=none/\t=s/\∃ds,l9 (λd v=>eQ s.heap n d v/\∀{Q:Bool->afa->Prop},Q true s->wpAny (model prog w) A (eqIsQuiet n v) Q E s) ds rest) _ ?_ ?_ _ _ ⟨rfl,rfl,xs,z⟩
   .rintro v rest r t ⟨b,rfl,ds,al⟩
    cases al with
    |cons e f=>
     refine B1 (e.2 ?_);simp only[Bool.not_true,ahd,if_false];exact afm ⟨rfl,rfl,_,f⟩
   .rintro⟨g,j⟩ t ⟨b,rfl,_⟩
    have b:g=none:=b;subst b;exact afm q) x
end
def CO[aE.a5](prog:afA)(w:World):HeapKind prog w gD where
 is:=λh p a=>eQ h 8 p.1 (.ref a)
 hash:=λp=>pK w 8 p.1
 draws:=λp=>q1 8 p.1
 room:=λA=>A.units+8<cLine
 inj:=λc d=>ajK (c.inj d)
 keeps:=λx g hd aC=>x.stays g hd aC
 pyHash:=λf e h=>Yj e f rfl h
 eqBool:=λ{A E s x y a b Q} f c d h=>by
  obtain⟨k,r⟩:=c.reads;obtain⟨bs,q⟩:=d.reads;have j:=xh _ _ c.bt;have i:=xh _ _ d.bt;refine SeqAt.eqAt_reads _ _ A s _ _ _ _ r q j.1 i.1 (by omega) _ _ _ _ ?_;rw[qp _ _ 8 8 c.bt d.bt,CP c d]
  rwa[show decide (x=y)=decide (x.1=y.1)from decide_eq_decide.mpr Subtype.ext_iff]at h
 quiet:=λe h=>Yk e h
end aY
namespace aY
open PySem PySem.Spec aE PyProof.Rows
variable[aE.a5]
def nB(K:aW)(H:av)(d:D)(b:Addr):Prop:=∃mg O,Rep K mg O H d (.ref b)
section
variable{X:aR}{ah:cS}{U:aE.St}{H:av}{s:afa}{mg:bx}{O:a4}
omit [aE.a5]in
theorem LM(J:Inv X ah U H s):∀{n:Nat}{d:D}{v:V}{u:Value},jq n d=true->Rep X.K mg O H d v->RelV v u->eQ s.heap n d u
 |n+1,.t xs,v,u,b,h,r=>by
  obtain⟨a,ys,rfl,t,f⟩:=h;obtain rfl:u=.ref a:=r;obtain⟨c,e,⟨o,ao,aG,m,cI⟩,z⟩:=J.tuple t;refine⟨a,o,_,m,rfl,ao,aG,cI,?_⟩;rw[List.toList_toArray];have g:∀d∈xs,jq n d=true:=af4.mp b;clear t cI b z
  induction xs generalizing ys c with
  |nil=>cases(show ys=[]from f);cases e;exact .nil
  |cons d ds j=>
   obtain⟨y,r,rfl,k,p⟩:=f
   cases e with
   |cons w q=>exact .cons (LM J (g d afq) k w) (j _ p _ q λd hd=>g d (afl _ hd))
 |n,.aF,v,u,_,h,r=>by cases(show v=.aF from h);cases r;cases n<;>rfl
 |n,.int i,v,u,_,h,r=>by cases(show v=.int i from h);obtain⟨t,rfl⟩:=r;cases n<;>exact⟨t,rfl⟩
 |n,.str x,v,u,b,h,r=>by cases(show v=.str x from h);obtain⟨t,rfl⟩:=r;cases n<;>exact⟨b,t,rfl⟩
 |0,.t _,_,_,b,_,_=>by cases b
 |n,.aM _,_,_,b,_,_=>by cases n<;>cases b
 |n,.l _,_,_,b,_,_=>by cases n<;>cases b
 |n,.ref _,_,_,b,_,_=>by cases n<;>cases b
 |n,.fn _,_,_,b,_,_=>by cases n<;>cases b
 |n,.ty _,_,_,b,_,_=>by cases n<;>cases b
theorem nB.is(J:Inv X ah U H s)(h:nB X.K H p.1 b):(CO X.prog X.w).is s.heap p b:=by
 obtain⟨mg,O,h⟩:=h;exact LM J p.2 h rfl
def vv{xs:List (gD×Addr×Value)}(hw:X.w=aE.a5.wl)(J:Inv X ah U H s)(h:H a=some (ja a xs))(f:∀x∈xs,nB X.K H x.1.1 x.2.1)(ok:(xs.map (·.1)).Nodup):s.heap.DictOfH (CO X.prog X.w) a xs:=by
 obtain⟨⟨o,aw,cV,c,d,g,b⟩,_⟩:=(show hU X.prog X.w H s.heap a (ja a xs)from J.cf a _ h);rw[<-hw]at b;exact⟨o,aw,cV,c,d,g,b,λx e=>(f x e).is J,ok⟩
end
section
variable{K:aW}{mg:bx}{O:a4}{H:av}
theorem eC.keys:∀{C:List (D×D)}{xs:List (gD×Addr×Value)},eC K mg O H C xs->∀x∈xs,nB K H x.1.1 x.2.1
 |[],_,h,x,o=>by cases(show _=[]from h);cases o
 |p::C,_,h,x,o=>by
  obtain⟨y,r,rfl,ao,a,_,b⟩:=h;rcases afz.mp o with rfl|o
  .rw[<-ao];exact⟨_,_,a⟩
  .exact eC.keys b x o
theorem eC.len:∀{o:List (D×D)}{xs:List (gD×Addr×Value)},eC K mg O H o xs->xs.length=o.length
 |[],_,h=>by cases(show _=[]from h);rfl
 |p::o,_,h=>by
  obtain⟨y,r,rfl,_,_,_,a⟩:=h;rw[afE,afE,eC.len a]
theorem eC.val(p:gD):∀{o:List (D×D)}{xs:List (gD×Addr×Value)},eC K mg O H o xs->match ep o p.1 with
  |some d=>∃u v,atKey xs p=some u/\Rep K mg O H d v/\RelV v u.2|none=>atKey xs p=none
 |[],_,h=>by cases(show _=[]from h);rfl
 |q::o,_,h=>by
  obtain⟨y,r,rfl,ao,g,⟨v,b,f⟩,c⟩:=h;have a:=eC.val p c;unfold ep atKey at a ⊢
  by_cases e:q.1=p.1
  .rw[age (by simpa using e),age (by rw[decide_eq_true_eq];exact ajK (ao.symm.trans e))]
   exact⟨y.2,v,rfl,b,f⟩
  .rw[af2 (by simpa using e),af2 (by rw[decide_eq_true_eq];intro z;exact e (by rw[ao,z]))]
   exact a
def Qv{κ:Type}[DecidableEq κ]{a:List (κ×D)}{p:κ}:(a.any λc=>decide (c.1=p))=(ep a p).isSome:=by
 unfold ep;rw[Option.isSome_map]
 induction a with
 |nil=>rfl|cons x r b=>
  rw[ahX,List.find?_cons]
  cases decide (x.1=p)with
  |true=>rfl|false=>exact b
def eC.any(p:gD){a:List (D×D)}(h:eC K mg O H a xs):(atKey xs p).isSome=a.any λb=>decide (b.1=p.1):=by
 have v:=h.val p;rw[Qv]
 cases e:ep a p.1 with
 |none=>rw[e]at v;have v:atKey xs p=none:=v;rw[v];rfl|some d=>rw[e]at v;obtain⟨u,_,ao,_⟩:=v;rw[ao];rfl
theorem eC.append:∀{C o:List (D×D)}{xs J:List (gD×Addr×Value)},eC K mg O H C xs->eC K mg O H o J->eC K mg O H (C++o) (xs++J)
 |[],_,_,_,h,h'=>by cases(show _=[]from h);exact h'
 |_::_,_,_,_,h,h'=>by
  obtain⟨y,r,rfl,ao,a,b,c⟩:=h;exact⟨y,_,rfl,ao,a,b,eC.append c h'⟩
theorem eC.C8{v:V}(hd:Rep K mg O H d v)(a:RelV v u):∀{o:List (D×D)}{xs:List (gD×Addr×Value)},eC K mg O H o xs->eC K mg O H (o.map λb=>if b.1=p.1 then(b.1,d)else b) (xs.map (putAt p u))
 |[],_,h=>by cases(show _=[]from h);rfl
 |q::o,_,h=>by
  obtain⟨y,r,rfl,ao,c,g,f⟩:=h;rw[aft,aft];refine⟨putAt p u y,_,rfl,?_⟩;unfold putAt
  by_cases z:q.1=p.1
  .rw[if_pos z,if_pos (ajK (ao.symm.trans z))]
   exact⟨ao,c,⟨v,hd,a⟩,eC.C8 hd a f⟩
  .rw[if_neg z,if_neg (by intro e;exact z (by rw[ao,e]))]
   exact⟨ao,c,g,eC.C8 hd a f⟩
def eC.put{v:V}(h:eC K mg O H o xs)(c:Rep K mg O H p.1 (.ref b))(hd:Rep K mg O H d v)(a:RelV v u):eC K mg O H (jK o p.1 d) (storedH xs p b u):=by
 unfold jK storedH;rw[h.any p];split
 .exact h.C8 hd a
 .exact h.append ⟨(p,b,u),[],rfl,rfl,c,⟨v,hd,a⟩,rfl⟩
omit [aE.a5]in
theorem ZI{xs:List (gD×Addr×Value)}(h:(xs.map (·.1)).Nodup):((storedH xs p b u).map (·.1)).Nodup:=by
 unfold storedH
 cases e:atKey xs p with
 |some _=>rw[Option.isSome_some,if_pos rfl,keys_map_putAt];exact h|none=>
  rw[Option.isSome_none,if_neg afc,afo];refine aiK.mpr ⟨h,by simp,λx c y a=>?_⟩;rintro rfl;obtain⟨z,hz,rfl⟩:=agz.mp c;have a:z.1=p:=by simpa using a
  unfold atKey at e;rw[Option.map_eq_none_iff,aiC]at e;exact e z hz (by simpa using a)
def XK:ja a xs≠.ext (o3 a q):=by
 intro e;have e:=fL.ext.inj e
 let cq:Obj:={ cls:=.type "dict",data:=.dict (xs.map (CN aE.a5.wl)).toArray 0 }
 have f:(Heap.mk (Array.replicate (a+1) cq) {}).get? a=some cq:=by
  unfold Heap.get?;simp[cq]
 have d:(λh:Heap=>∃o aw cV,h.get? a=some o/\o.ExactDict/\o.data=.dict aw cV/\aw.toList=xs.map (CN aE.a5.wl)) (Heap.mk (Array.replicate (a+1) cq) {}):=⟨cq,_,0,f,⟨rfl,rfl,rfl⟩,rfl,by simp⟩;rw[e]at d;obtain⟨c,o,i,t,g,b,hd,_⟩:=d;cases g;rw[f]at b;cases b;cases hd
end
def jT(K:aW)(H:av)(d k:V)(o:Option V):Prop:=∃(a:Addr)(xs:List (gD×Addr×Value))(p:gD)(b:Addr),d=.ref a/\k=.ref b/\H a=some (ja a xs)/\((a==ahb)=false/\(xs.map (·.1)).Nodup)/\(∀x∈xs,nB K H x.1.1 x.2.1)/\nB K H p.1 b/\match o with
 |some v=>∃u,atKey xs p=some u/\RelV v u.2|none=>atKey xs p=none
section
variable{X:aR}
def jT.vO{K:aW}{xs:List (gD×Addr×Value)}{p:gD}(h:match o with
 |some v=>∃u,atKey xs p=some u/\RelV v u.2| none=>atKey xs p=none):(atKey xs p).isSome=o.isSome:=by
 cases o with
 |none=>rw[h];rfl|some v=>obtain⟨u,e,_⟩:=h;rw[e];rfl
def W6(hw:X.w=aE.a5.wl)(k:X.A.units+64<cLine):eJ X (agb .In) (λx y H Q=>∃o,jT X.K H y x o/\Q (.aM o.isSome) H):=by
 intro j s U H x y v u Q J d i h;obtain⟨o,⟨a,xs,p,b,rfl,rfl,f,ok,g,e,c⟩,q⟩:=h;cases d;cases i;refine wpAny_in_heap (by show X.A.units+1+8<cLine;omega) (e.is J) ok.1 (vv hw J f g ok.2) ?_;rw[jT.vO (K:=X.K) c];exact⟨.aM o.isSome,H,J.tok _,rfl,q⟩
def W9(hw:X.w=aE.a5.wl)(k:X.A.units+64<cLine):eJ X (agb .NotIn) (λx y H Q=>∃o,jT X.K H y x o/\Q (.aM (!o.isSome)) H):=by
 intro j s U H x y v u Q J d i h;obtain⟨o,⟨a,xs,p,b,rfl,rfl,f,ok,g,e,c⟩,q⟩:=h;cases d;cases i;refine wpAny_notIn_heap (by show X.A.units+1+8<cLine;omega) (e.is J) ok.1 (vv hw J f g ok.2) ?_;rw[jT.vO (K:=X.K) c];exact⟨.aM (!o.isSome),H,J.tok _,rfl,q⟩
def XW{pos:Pos}(hw:X.w=aE.a5.wl)(D:X.A.units+64<cLine)(f:ck X o C)(hi:ck X i ty)(aC:tP i):ck X (.Subscript o i pos) (q' (λx y H Q=>∃v,jT X.K H x y (some v)/\Q v H) C ty):=by
 intro d s U H Q J h;refine Mt aiW.lookup aC (cn (f d s U H _ J h) λu B ⟨x,e,n,j,bJ⟩=>cn (hi d B U e _ n bJ) λE F ⟨y,g,c,q,v,⟨a,xs,p,b,ex,r,l,ok,m,k,w,z,t⟩,cR⟩=>?_);subst ex r;cases j;cases q;have dd:=vv hw c l m ok.2;exact⟨dd.typeIs,wpAny_getItem_heap (by show X.A.units+1+8<cLine;omega) (k.is c) dd z ⟨v,g,c.tok _,t,cR⟩⟩
def Zi(hw:X.w=aE.a5.wl)(B:X.A.units+64<cLine):zr X (λo i v H Q=>∃(a b:Addr)(xs:List (gD×Addr×Value))(p:gD),o=.ref a/\i=.ref b/\H a=some (ja a xs)/\((a==ahb)=false/\(xs.map (·.1)).Nodup)/\(∀x∈xs,nB X.K H x.1.1 x.2.1)/\nB X.K H p.1 b/\xs.length<=afe/\∀u,RelV v u->Q (upd H a (ja a (storedH xs p b u)))):=by
 rintro z s U H o i v E D u Q J r g m ⟨a,b,xs,p,y,t,e,ok,l,j,hz,q⟩;subst y t;cases r;cases g;refine wpAny_setItem_heap (hsz:=hz) (by show X.A.units+1+8<cLine;omega) (j.is J) (vv hw J e l ok.2) λh' h aC=>⟨_,?_,q u m⟩
 obtain⟨cq,aw,cV,c,d,n,f,_,_⟩:=h;rw[hw]at f;exact P_ J (by rw[e];exact aiS) aC ⟨cq,c⟩ ⟨⟨cq,aw,cV,c,d,n,f⟩,⟨cq,c⟩,λc d ⟨o,aw,cV,ao,aG⟩ k=>⟨o,aw,cV,k o ao,aG⟩⟩
def X0{pos:Pos}:ck X (.Dict [] [] pos) (λ_ H Q=>∀p,H p=none->(p==ahb)=false->Q (.ref p) (upd H p (ja p []))):=λc s U H Q J h=>
 wpAny_Dict_empty ⟨.ref s.heap.objs.size,_,J.laid (o:=ja s.heap.objs.size []) (λ_ _ q=>afg _ q) (ae9 _) ⟨⟨_,#[],0,afv _ rfl,⟨rfl,rfl,rfl⟩,rfl,rfl⟩,⟨_,afv _ rfl⟩,λa b ⟨o,aw,cV,ao,aG⟩ k=>⟨o,aw,cV,k o ao,aG⟩⟩,rfl,h _ (J.cf.fresh (ae9 _)) (beq_eq_false_iff_ne.mpr (ahK (afH J.big)))⟩
end
def q0:R->M D
 |.v (.t xs)=>if jq 8 (.t xs)=true then pure (.t xs)else bad|_=>bad
def lz(r:R):M (List (D×D)):=do
 let o <-gx r
 match o with
 |.cU a=>pure a|_=>bad
def pE(a:Bool)(k r:R):M R:=do
 let d <-q0 k
 let b <-lz r
 pure (.v (.aM (xor a (ep b d).isSome)))
def vq(r k:R):M R:=do
 let a <-lz r
 let d <-q0 k
 match ep a d with
 |some d=>pure (.v d)|none=>bad
def tx(mo mk:br)(mv:dG):b8:=λU=>do
 let r <-mv U
 let d <-r.dat.up
 let x <-(mo U).up
 let k <-(mk U).up
 let a <-(lz x).up
 let p <-(q0 k).up
 if a.length<afe then(do
  Dm x (.cU (jK a p d))
  pure (.a6 U))else fc
omit [aE.a5]in
theorem yC{r:R}(h:(q0 r).run S=.ok d o):r=.v d/\jq 8 d=true/\S=o/\∃xs,d=.t xs:=by
 unfold q0 at h;split at h
 .split at h
  .rename_i c;cases h;exact⟨rfl,c,rfl,_,rfl⟩
  .cases h
 .cases h
section
variable{K:aW}{mg:bx}{O:a4}{U:aN}{S ak:b1}{aq:aE.St}{H:av}
def HL{r:R}(h:(lz r).run S=.ok C ak):(gx r).run S=.ok (.cU C) ak:=by
 obtain⟨o,S1,a,h⟩:=M.inv h;split at h
 .cases h;exact a
 .cases h
def Az{r:R}{v:V}(st:cu K mg O U S aq H)(b:d6 K mg O H r v)(h:(lz r).run S=.ok o ak):∃a xs,v=.ref a/\H a=some (ja a xs)/\((a==ahb)=false/\(xs.map (·.1)).Nodup)/\eC K mg O H o xs:=by
 obtain⟨a,e,_,xs,z⟩:=yr st b (HL h);exact⟨a,xs,e,z⟩
def zO{xs:List (gD×Addr×Value)}(l:H a=some (ja a xs))(ok:(a==ahb)=false/\(xs.map (·.1)).Nodup)(f:eC K mg O H o xs)(h:Rep K mg O H d y)(c:jq 8 d=true)(n:∃xs,d=.t xs) :
  match ep o d with
  |some e=>∃v,jT K H (.ref a) y (some v)/\Rep K mg O H e v|none=>jT K H (.ref a) y none:=by
 obtain⟨i,rfl⟩:=n;obtain⟨b,rfl,g⟩:∃b,y=.ref b/\nB K H (.t i) b:=by
  have j:=h;obtain⟨b,ys,rfl,_⟩:=j;exact⟨b,rfl,mg,O,h⟩
 have v:=f.val ⟨_,c⟩;dsimp only at v
 cases e:ep o (.t i)with
 |none=>rw[e]at v;exact⟨a,xs,⟨_,c⟩,b,rfl,rfl,l,ok,f.keys,g,v⟩|some d=>
  rw[e]at v;obtain⟨u,w,ao,m,k⟩:=v;exact⟨w,⟨a,xs,⟨_,c⟩,b,rfl,rfl,l,ok,f.keys,g,u,ao,k⟩,m⟩
theorem zU:eP K mg (λx y H Q=>∃o,jT K H y x o/\Q (.aM (xor neg o.isSome)) H) (pE neg):=λO U S aq H x y s k t ak Q st g m h q=>by
 obtain⟨d,S1,f,p⟩:=M.inv h;obtain⟨i,u,b,n⟩:=M.inv p;obtain⟨rfl,c,rfl,j⟩:=yC f;obtain rfl:=(lz k).dO _ _ _ b;cases n;obtain⟨a,xs,rfl,l,ok,r⟩:=Az st m b;have z:=zO l ok r (show Rep K mg O H d x from g) c j
 cases e:ep i d with
 |none=>rw[e]at z q;exact⟨none,z,q O _ H (Go.refl _ _) st rfl trivial⟩|some d=>rw[e]at z q;obtain⟨v,z,_⟩:=z;exact⟨some v,z,q O _ H (Go.refl _ _) st rfl trivial⟩
theorem Oh:eP K mg (λx y H Q=>∃v,jT K H x y (some v)/\Q v H) vq:=λO U S aq H x y g u t ak Q st j n h q=>by
 obtain⟨k,S1,c,p⟩:=M.inv h;obtain⟨d,w,i,b⟩:=M.inv p;obtain rfl:=(lz g).dO _ _ _ c;obtain⟨rfl,f,rfl,m⟩:=yC i;obtain⟨a,xs,rfl,l,ok,s⟩:=Az st j c;have z:=zO l ok s (show Rep K mg O H d y from n) f m
 cases e:ep k d with
 |none=>rw[e]at b;cases b
 |some d=>rw[e]at z b;cases b;obtain⟨v,z,r⟩:=z;exact⟨v,z,q O v H (Go.refl _ _) st r trivial⟩
end
section
variable{X:aR}{o i value:Expr}{mo mk:br}{mv:dG}{pos pos':Pos}
def KP(hw:X.w=aE.a5.wl)(a:X.A.units+64<cLine):eJ X (agb .In) (λx y H Q=>∃o,jT X.K H y x o/\Q (.aM (xor false o.isSome)) H):=by
 have:=W6 hw a;simp only[Bool.false_xor];exact this
def W_(hw:X.w=aE.a5.wl)(a:X.A.units+64<cLine):eJ X (agb .NotIn) (λx y H Q=>∃o,jT X.K H y x o/\Q (.aM (xor true o.isSome)) H):=by
 have:=W9 hw a;simp only[Bool.true_xor];exact this
def aa1(hw:X.w=aE.a5.wl)(b:X.A.units+64<cLine)(a:bp X o mo)(hi:bp X i mk)(aC:tP i:=by intro _ _;rfl):bp X (.Subscript o i pos) (aa vq mo mk):=⟨es (XW hw b a.un hi.un aC) (t9 Oh)⟩
def acu(hw:X.w=aE.a5.wl)(bT:X.A.units+64<cLine)(Z:bp X o mo)(ay:bp X i mk)(Y:ek X value mv)(aC:ahU [.Subscript o i pos'] value pos.line X.env=pure false:=by rfl)(iA:ahV [.Subscript o i pos'] value X.env=pure none:=by rfl)
  (j:(af1 [.Subscript o i pos'] X.env).map (·.2)=[ahD (.Subscript o i pos') X.env]:=by rfl)
  (e:∀v,ahD (.Subscript o i pos') X.env v=(do
   let f <-ahm [v] (eval o X.env)
   let l <-ahm [v,f] (eval i X.env)
   standAt pos'
   ahm [v,f,l] (setItem f l v)
   release [v,f,l] []):=by intro _;rfl):eS X (.Assign [.Subscript o i pos'] value pos) (tx mo mk mv):=⟨fz (yE Y.un (K9 Z.un ay.un (Zi hw bT) e) aC iA j) λD aq H J=>by
 obtain⟨O,U,S,bg,ak,st,h,q⟩:=J;obtain⟨r,S1,j,e⟩:=N.inv h;clear h;obtain⟨d,bj,af,E⟩:=N.inv e;clear e;obtain⟨x,nE,G,Q⟩:=N.inv E;clear E;obtain⟨y,cB,L,hd⟩:=N.inv Q;clear Q;obtain⟨bE,nF,F,he⟩:=N.inv hd;clear hd;obtain⟨a7,NO,mQ,h⟩:=N.inv he;clear he;refine⟨O,U,S,r,S1,st,j,λC v H1 g1 B bw nn=>?_⟩;obtain⟨fe,rfl⟩:=qj bw nn af;obtain rfl:=(mo U).dO _ _ _ G;obtain rfl:=(mk U).dO _ _ _ L;refine⟨cz H C,U,_,x,_,(B.cz H).s3,G,λbb e0 aT g2 cF a_ a6=>?_⟩;refine⟨bb,U,_,y,_,cF,L,λP T dn M R a Cq=>?_⟩;have s:=g2.trans M;obtain⟨n,b,rfl,rfl,az,sn,xs,I,ok,m⟩:=sO R (a_.go M) (HL F);obtain rfl:=(lz (.v (.ref n))).dO _ _ _ F;obtain⟨rfl,g,rfl,V,rfl⟩:=yC mQ;split at h
 .rename_i xo
  cases h;have a:Rep X.K X.mg P dn (.t V) T:=a;obtain⟨c,rfl⟩:∃c,T=.ref c:=by
   have W:=a;obtain⟨c,_,rfl,_⟩:=W;exact⟨c,rfl⟩
  refine⟨b,c,xs,⟨_,g⟩,rfl,rfl,I,ok,m.keys,⟨_,_,a⟩,by rw[m.len];exact agw xo,λu dJ=>?_⟩;obtain⟨hP,hQ⟩:=((B.cz H).go s R.cp).write (u':=ja b (storedH xs ⟨_,g⟩ c u)) (o:=.cU (jK bE (.t V) d)) az I (by rintro(⟨_,z⟩|⟨_,_,z⟩)<;>cases z) (by intro _ z;cases z) (λ_=>XK) λk=>
   ⟨_,dT,⟨ok.1,ZI ok.2⟩,eC.put (p:=⟨_,g⟩) (b:=c) (m.imp k) (k _ _ a) (k _ _ (Rep.go s fe)) dJ⟩
  exact q P aq _ ((g1.cz.trans s.dN).trans hP).dy hQ
 .cases h⟩
theorem ack:ek X (.Dict [] [] pos) (wd (.cU [])):=⟨es X0 λf H Q b p a aC=>by
 obtain⟨O,U,S,r,e,st,h,q⟩:=b;cases h;obtain⟨g,d,de,c⟩:=alloc (o:=.cU []) st.s3.cp st.s3.gy st.full a (ta a (ja p [])) (by rw[dT];intro z;cases z) λ_=>⟨[],dT,⟨aC,List.nodup_nil⟩,rfl⟩
 refine q _ _ _ g (st.dN g d de c) ⟨p,rfl,?_⟩ trivial;show(O.bO++[p])[S.length]? = _;rw[<-st.full,afn (ae9 _),afY];rfl⟩
end
@[simp] def mD(is:List Nat)(ms:cJ)(b:bc)(U:aN):M fK:=do
 let rs <-ms U
 match rs with
 |[.bF xs]=>hk (tm is b) (gU 0 xs) U|_=>bad
def Ri{K:aW}{mg:bx}{is:List Nat}{ms:cJ}{b:bc}:∀D z H,i5 K mg (mD is ms b) D z H->q_ (Ja K (oz K mg ms)) (Ii K is.length (kM is)) (i5 K mg b) D z H:=by
 rintro D z H ⟨O,U,S,R,P,st,h,q⟩;obtain⟨rs,S1,ae,h⟩:=M.inv h;split at h
 .rename_i xs
  refine⟨O,U,S,_,S1,st,ae,λF vs E N aX bw nn=>?_⟩;obtain⟨v1,bI,rfl,a_,re⟩:=bw;cases re;obtain⟨Z,y,rfl,l,r⟩:=a_;have C:qa false K F E Z y:=l;have a1:a' K mg F E xs y:=r;have td:=aX;refine⟨Z,rfl,⟨y,C.cN⟩,?_⟩;refine⟨λk m G s=>m=(gU 0 xs).length-k/\∃j U' I,cu K mg j U' I G s/\dF F j E s/\d_ U U' z G/\(hk (tm is b) ((gU 0 xs).drop k) U').run I=.ok R P,⟨_,rfl,_,U,S1,td,dF.refl _ _,d_.refl _ _,h⟩,?_⟩;rintro k m G s ⟨rfl,j,U',I,Q,g',kp,h⟩;have L:=qa.di g' C
  cases e:(gU 0 xs).drop k with
  |nil=>
   rw[e]at h;cases h;refine .inl ⟨⟨y,L.cN,?_⟩,q j G s (N.di.trans g') Q kp⟩;have:=congrArg agx e;rw[afP,AH,agm]at this;rw[a1.len];omega
  |cons d lA=>
   obtain⟨o,ao,rfl,V⟩:=HP e;obtain⟨u,X,dJ⟩:=(a'.di g' a1).get ao;have ee:k<(gU 0 xs).length:=by
    have:=congrArg agx e;rw[afP,afE]at this;omega
   rw[e]at h;obtain⟨W,i,w,h⟩:=M.inv h;unfold tm at w;dsimp only at w
   by_cases c:[aY.D.int ((0+k:Nat):Int),o].length=is.length
   .rw[if_pos c]at w
    refine .inr ⟨⟨y,u,L.cN,X⟩,λn f=>∃a g i,cu K mg a g i n f/\dF F a E f/\d_ U g z n/\(hk (tm is b) ((gU 0 xs).drop (k+1)) g).run i=.ok R P,?_,λx f jw=>?_⟩
    .rintro n f ⟨a,g,i,gQ,fh,tA,tB⟩
     exact⟨_,by omega,rfl,a,g,i,gQ,fh,tA,tB⟩
    .obtain⟨ff,T,rfl,Y,rfl,n3⟩:=jw
     have J:=n3 y L.cN;rw[X]at J;cases J;have B:Go j j s (upd s T (.t [.int k,u])):=Go.gu Y;refine⟨T,[.int k,u],rfl,dr.of dT,by rw[<-c];rfl,DH (ds:=[.int ((0+k:Nat):Int),o]) (Q.gu Y) ⟨.int k,[u],rfl,by rw[agy];rfl,u,[],rfl,dJ.go B,rfl⟩ c λij ks eW=>?_⟩;refine⟨j,_,I,W,i,ks,w,?_⟩
     cases W with
     |a6 g=>exact λa n f p A k2=>⟨a,g,i,A,g'.trans (B.di.trans p),kp.trans (eW.trans k2),by rw[V];exact h⟩
     |cM g=>exact λa n f p A k2=>⟨a,g,i,A,g'.trans (B.di.trans p),kp.trans (eW.trans k2),by rw[V];exact h⟩
     |bk g=>cases h;exact λa n f p A k2=>q a n f (N.di.trans (g'.trans (B.di.trans p))) A (kp.trans (eW.trans k2))
     |b0 r=>cases h;exact λa v f p dV aG b6=>q a v f (N.di.trans (g'.trans (B.di.trans p))) dV aG b6
   .rw[if_neg c]at w;cases w
 .cases h
def P2{X:aR}{pos j:Pos}{is:List Nat}{aw:List Expr}{k:Nat}{p c:Pos}{a:Expr}{ms:cJ}{body:List Stmt}{b:bc}(e:ahs (model X.prog X.w) X.A X.env X.dx)(d:X.calm=true)(q:d5 X "enumerate")(l:X.mg "enumerate"=none)(g:D6 X [a] ms)(i:kF X aw (kM is))(f:tG X body b)
  (h:(af1 aw X.env).length=is.length:=by rfl) (m:(af1 aw X.env).findIdx? (·.1)=none:=by rfl)
  (aC:j0 X (.Call (.Name "enumerate" p) [a] [] c):=by intro _;rfl) (n:afV [a] X.env=[(false,eval a X.env)]:=by rfl) :
  D' X (.For (.Tuple aw k j) (.Call (.Name "enumerate" p) [a] [] c) body [] pos) (mD is ms b):=
 fz (vA e d (K_ q l g n) (yA d i h m) f aC) Ri
def aby{X:aR}{pos i:Pos}{is:List Nat}{aw:List Expr}{k:Nat}{p c:Pos}{a:Expr}{ms:cJ}{body:List Stmt}{b:bc}(d:ahs (model X.prog X.w) X.A X.env X.dx)(j:X.calm=true)(q:d5 X "enumerate")(l:X.mg "enumerate"=none)(f:fQ X [a] ms)(h:kF X aw (kM is))(e:jF X body b)
  (g:(af1 aw X.env).length=is.length:=by rfl) (m:(af1 aw X.env).findIdx? (·.1)=none:=by rfl)
  (aC:j0 X (.Call (.Name "enumerate" p) [a] [] c):=by intro _;rfl) (n:afV [a] X.env=[(false,eval a X.env)]:=by rfl) :
  eK X (.For (.Tuple aw k i) (.Call (.Name "enumerate" p) [a] [] c) body [] pos) (mD is ms b):=⟨P2 d j q l f.un h e.un g m aC n⟩
end aY
namespace aE
open PySem PySem.Spec PyProof.Rows
def wA(K:aW)(a:Addr)(n:Nat):hT:=
 ⟨λi H=>∃xs,cL K H a xs/\xs.length=n/\i<n,λi H x b=>b=H/\∀xs,cL K H a xs->xs[n-1-i]? = some x,λi _=>n<=i⟩
def aas{P:afA}{w:World}{K:aW}{b_:Expr}(a it:Addr)(n:Nat):Turn P w K b_ (wA K a n) [it] it (λi h=>i<=n/\h.IsRevIter it a ((n:Int)-1-i)) where
 mem:=by simp
 obj:=λi h st b g=>by
  have e:b=it:=by simpa using g
  subst e;obtain⟨_,o,e,c,d⟩:=st;exact⟨o,e,λv z=>by rw[d]at z;cases z⟩
 keep:=λi h h' st k=>⟨st.1,st.2.at λo e=>k it (by simp) o e⟩
 item:=by
  intro X m hw B L i D s U H E J j st l;subst m hw B;obtain⟨xs,G,Y,hi⟩:=l;obtain⟨V,N,p,hz⟩:=J.list G;have I:n-1-i<xs.length:=by omega
  obtain⟨u,O,S⟩:=N.get (afi I);obtain⟨q,r,T,y,t,A⟩:=j it (by simp);have f:=st.2;rw[show(n:Int)-1-i=((n-1-i:Nat):Int)by omega]at f;refine wpAny_pyNext_rev_item f p.isList (x:=u) (by simpa using O) λh' F W=>?_
  have M:Inv X D U H { s with heap:=h' }:=J.turned (t':=s.toks) (λb o g e=>(W.2 b g).trans e) q r y t A;obtain⟨o,e,c,d⟩:=id F;exact⟨u,rfl,xl (s:={ s with heap:=h' }) e c d (by decide) ⟨_,H,M,S,⟨rfl,λys Q=>by rw[J.BQ Q G];exact afi I⟩,⟨hi,by rw[show(n:Int)-1-(i+1:Nat)=((n-1-i:Nat):Int)-1 by omega];exact F⟩,λb g=>(j b g).1⟩⟩
 done:=by
  intro X m hw B L i D s U H E J j st l;subst m hw B;have hi:i=n:=Nat.le_antisymm st.1 l;obtain⟨q,r,T,y,t,A⟩:=j it (by simp);have f:=st.2;rw[show(n:Int)-1-i = -1 by omega]at f;exact wpAny_pyNext_rev_end (J.ok.hd L) f λh' R=>⟨rfl,J.turned (t':=s.toks) (λb o g e=>R b o g e) q r y t A⟩
 self:=λ_ _ _ _ _ st h=>wpAny_pyIter_revIter st.2 h
def TK(K:aW)(b:fC):TI:=λU H R=>b U H λc a=>∃l,c=[.ref l]/\∃xs,cL K a l xs/\R (wA K l xs.length) a
def Yf{X:aR}{b_ a:Expr}{f:fC}{p pos:Pos}(n:d5 X "reversed")(x:X.mg "reversed"=none)(m:gR X [a] f)(aC:afV [a] X.env=[(false,eval a X.env)]:=by rfl) :
  jD X b_ (.Call (.Name "reversed" p) [a] [] pos) (TK X.K f):=by
 intro j s U H R J h;refine ajI (pv J n x (show afW "reversed"=some (.type "reversed")by decide +kernel) (agr (cn (m pos j s U H _ J h) λz d ⟨A,g,c,t,bJ⟩=>?_) (by rw[aC];rfl) (by rfl)));obtain⟨l,e,xs,k,q⟩:=bJ;subst e;obtain⟨u,rfl,r⟩:=vals1 t;cases r;obtain⟨y,w,pl,_⟩:=c.list k;refine call_reversed_list pl.isList (wpAny_pyIter_revIter ⟨_,afv _ rfl,rfl,rfl⟩ ?_);refine⟨d.heap.objs.size,[d.heap.objs.size],_,_,g,rfl,c.kept (t':=d.toks) λb o e=>afg _ e,aas l _ xs.length,⟨afC _,_,afv _ rfl,rfl,?_⟩,λb i=>?_,q⟩
 .show Data.fields _=_
  rw[w.length];simp
 .have e:b=d.heap.objs.size:=by simpa using i
  subst e;exact c.qr (ae9 _) (c.cf.fresh (ae9 _))
end aE
namespace aY
open PySem PySem.Spec aE PyProof.Rows
variable[aE.a5]
def Bz(ms:cJ):fO:=λU=>do
 let rs <-ms U
 match rs with
 |[.bF xs]=>pure xs.reverse|_=>bad
def TZ{K:aW}{O:a4}{H:av}{a:Addr}{xs:List V}(h:g9 K O H a xs):tL (wA K a xs.length) O H xs.reverse:=λc b g i=>by
 have l:=(g.BR h).cN;rw[ag4];exact⟨λhi=>⟨⟨xs,l,rfl,hi⟩,λx d y=>⟨y.1,by rw[List.getElem?_reverse hi];exact y.2 xs l⟩⟩,λhi=>hi⟩
def abj{X:aR}{b_ a:Expr}{ms:cJ}{p pos:Pos}(k:d5 X "reversed")(r:X.mg "reversed"=none)(j:fQ X [a] ms)(aC:afV [a] X.env=[(false,eval a X.env)]:=by rfl) :
  rE X b_ (.Call (.Name "reversed" p) [a] [] pos) (Bz ms):=⟨oh (Yf k r j.un aC) λw H R e=>by
 obtain⟨O,U,S,xs,u,st,h,q⟩:=e;obtain⟨rs,S1,i,h⟩:=M.inv h;split at h
 .cases h
  refine⟨O,U,S,_,_,st,i,λd y c n f m nn=>?_⟩;obtain⟨v,x,rfl,g,t⟩:=m;cases t;obtain⟨l,ys,rfl,b,s⟩:=g;exact⟨l,rfl,ys,b.cN,q d c (wA X.K l ys.length) ys.reverse n f (TZ b) s.reverse⟩
 .cases h⟩
def k_(xs:List D):List R->M (R×List D)
 |[.v (.int i)]=>if 0<=i/\i<2 ^ 63 then match xs[i.toNat]? with
  |some d=>pure (.v d,xs.eraseIdx i.toNat)|none=>bad
  else bad
 |_=>bad
theorem a'.eraseIdx{K:aW}{mg:bx}{O:a4}{H:av}:∀{ds:List D}{xs:List V}(k:Nat),a' K mg O H ds xs->a' K mg O H (ds.eraseIdx k) (xs.eraseIdx k)
 |[],_,_,h=>by cases(show _=[]from h);exact rfl
 |_::_,_,0,h=>by obtain⟨x,r,rfl,_,b⟩:=h;exact b
 |_::_,_,k+1,h=>by obtain⟨x,r,rfl,a,b⟩:=h;exact⟨x,_,rfl,a,a'.eraseIdx k b⟩
def U8{K:aW}{mg:bx}:l_ K mg LG k_:=fun O H H₀ l xs zs rs vs S J bL ys Q hl o C U h q=>by
 unfold k_ at h;split at h
 .rename_i i
  split at h
  .rename_i c
   split at h
   .rename_i d e
    cases h;obtain⟨v,f,rfl,a,b⟩:=C;cases b;cases(show v=.int i from a);obtain⟨y,ao,aG⟩:=o.get e;refine⟨l,zs,i,i.toNat,y,rfl,rfl,hl,by omega,c.2,ajn c.1 ?_,ao,q y _ rfl ((o.eraseIdx _).dc (jj _ _)) ⟨d,rfl,aG.dc (jj _ _)⟩⟩;have:=(fk.mp ao).1;omega
   .cases h
  .cases h
 .cases h
section
variable{X:aR}{o:Expr}{mo:br}{g:List D->List R->M (R×List D)}{r:V->List V->av->cC->Prop}{name:Str}{id:String}{apos cT pos:Pos}
def acB(slot:aiU "list" name id)(P:typeOf (.builtin id)=pure (.type "method_descriptor"))(L:mq X id r)(I:l_ X.K X.mg r g)(j:bp X o mo)
  (Q:agR o name X.env (eval o X.env)=eval o X.env:=by rfl) (R:(apos.endLine==cT.line)=true:=by rfl)
  (M:agD (.Call (.Attribute o name apos) [] [] cT) none pos.line X.env=pure false:=by rfl):eS X (.Expr (.Call (.Attribute o name apos) [] [] cT) pos) (dE g mo d7):=
 ⟨fz (vz (K3 ag7 slot P L j.un Q R) M) λD w H p=>by
  obtain⟨O,U,S,Z,W,st,h,q⟩:=p;obtain⟨x,S1,d,y⟩:=N.inv h;clear h;obtain⟨rs,C,t,u⟩:=N.inv y;cases t;obtain⟨cq,nF,e,h⟩:=N.inv u;obtain rfl:=(mo U).dO _ _ _ d;refine⟨O,U,_,x,_,st.s3,d,λm J i f c s a6=>?_⟩;obtain⟨n,b,rfl,rfl,A,sn,E⟩:=sO c s e;obtain rfl:=(gx (.v (.ref n))).dO _ _ _ e;split at h
  .rename_i xs
   obtain⟨⟨Y,ys⟩,cB,B,h⟩:=N.inv h;cases h;obtain⟨V,a,T⟩:=E;refine⟨.inl ⟨rfl,_,cL.of a⟩,?_⟩;refine I m i H b xs V [] [] _ _ _ ys _ a T rfl trivial B λv ws aw rw _=>?_
   subst aw;obtain⟨F,G⟩:=((st.go f c.cp).cz H).write (o:=.l ys) A a (by rintro(⟨_,z⟩|⟨_,_,z⟩)<;>cases z) (by intro _ z;cases z) (by intro _ z;cases z) λk=>⟨_,dT,rw.imp k⟩
   exact q _ w _ (f.cz.dN.trans F).dy G
  .cases h⟩
end
def qf(m mk:br):br:=λU=>do
 let x <-m U
 let k <-mk U
 let a <-lz x
 let d <-q0 k
 pure (.v ((ep a d).getD .aF))
section
variable{X:aR}{o i:Expr}{mo mk:br}{apos cT:Pos}{oB ty:TE}
def X5(hw:X.w=aE.a5.wl)(W:X.A.units+64<cLine)(E:ck X o oB)(he:ck X i ty)(m:oR X o "get" apos i cT):ck X (.Call (.Attribute o "get" apos) [i] [] cT)
  (λU H Q=>oB U H λx c=>∃a xs,x=.ref a/\c a=some (ja a xs)/\ty U c λy f=>∃o,jT X.K f x y o/\Q (o.getD .aF) f):=by
 intro t s U H Q J h;refine wpAny_Call_method m.base m.Q3 m.line PySem.F.plainAttrs_dict ajs PySem.F.type_dict_get (cn (E t s U H _ J h) λu D ⟨x,c,B,G,a,j,ex,d,bJ⟩=>?_);subst ex;obtain rfl:=G;obtain⟨⟨cq,aw,cV,n,q,Y,V⟩,_⟩:=(show hU X.prog X.w c D.heap a (ja a j)from B.cf a _ d);refine⟨⟨cq,n,q.1⟩,λb z=>by cases z;exact⟨cq,n,q.2.1⟩,?_⟩;rw[m.trees];refine ahR rfl (aib (Calls.spliced_cons (cn (he t D U c _ B bJ) λP C ⟨y,f,k,N,S,g,R⟩=>Calls.spliced_nil ?_)));obtain⟨Z,xs,p,b,T,O,L,ok,M,I,l⟩:=g;cases T;subst O;obtain rfl:P=aha b:=N;have dd:=vv hw k L M ok.2;refine call_meetsIn ajs dd.typeIs PySem.F.entry_dict_get (PySem.F.args_dict_get_2 _ _) (meetsH_dict_get (CO X.prog X.w) a b ok.1) ⟨?_,p,xs,I.is k,dd,⟨_,f,k.tok _,?_,R⟩⟩
 .show X.A.units+1+8<cLine;omega
 .cases S with
  |none=>rw[l];rfl|some v=>obtain⟨u,e,r⟩:=l;rw[e];exact r
def aba(hw:X.w=aE.a5.wl)(P:X.A.units+64<cLine)(u:bp X o mo)(I:bp X i mk)(b:oR X o "get" apos i cT:=by exact⟨rfl,rfl,rfl,rfl⟩):bp X (.Call (.Attribute o "get" apos) [i] [] cT) (qf mo mk):=
 ⟨es (X5 hw P u.un I.un b) λC H Q B=>by
  obtain⟨O,U,S,r,Z,st,h,q⟩:=B;obtain⟨x,S1,E,G⟩:=M.inv h;clear h;obtain⟨k,J,b,F⟩:=M.inv G;obtain⟨L,nF,n,hd⟩:=M.inv F;obtain⟨d,cB,R,h⟩:=M.inv hd;obtain rfl:=(mk U).dO _ _ _ b;obtain rfl:=(lz x).dO _ _ _ n;obtain⟨rfl,t,rfl,N⟩:=yC R;cases h;refine⟨O,U,S,x,_,st,E,λy e0 W s m D a6=>?_⟩;obtain⟨a,xs,rfl,l,ok,T⟩:=Az m D n;refine⟨a,xs,rfl,l,y,U,_,_,_,m,b,λj g f c p V Y=>?_⟩;have w:=zO (c.same.at' _ _ l) ok (T.imp λ_ _ z=>Rep.go c z) (show Rep X.K X.mg j f d g from V) t N
  cases e:ep L d with
  |none=>rw[e]at w q;exact⟨none,w,q j _ f (s.trans c) p rfl trivial⟩| some d=>rw[e]at w q;obtain⟨v,w,r⟩:=w;exact⟨some v,w,q j _ f (s.trans c) p r trivial⟩⟩
end
def uk:D->M D
 |.ref n=>do
  let o <-gx (.v (.ref n))
  match o with
  |.l xs=>pure (.l xs)|_=>bad
 |_=>bad
def qk:List D->M (List D)
 |[]=>pure []|d::ds=>do
  let x <-uk d
  let xs <-qk ds
  pure (x::xs)
def o9:R->M D
 |.fr xs=>do
  let ds <-qk xs
  pure (.l ds)
 |.v (.ref n)=>do
  let o <-gx (.v (.ref n))
  match o with
  |.l xs=>do
   let ds <-qk xs
   pure (.l ds)
  |_=>bad
 |_=>bad
def vo(x y:R):M R:=do
 let a <-o9 x
 let b <-o9 y
 if a.bt 64=true/\b.bt 64=true then pure (.v (.aM (cP a b)))else bad
section
variable{K:aW}{mg:bx}{O:a4}{U:aN}{S ak:b1}{aq:aE.St}{H:av}
def Qt(st:cu K mg O U S aq H){d e:D}{v:V}{n:Nat}(h:(uk d).run S=.ok e ak)(g:e.bt n=true)(r:Rep K mg O H d v):aE.Rep K H e.py v:=by
 unfold uk at h;split at h
 .obtain⟨o,S1,b,h⟩:=M.inv h
  obtain⟨a,rfl,_,c⟩:=yr st (r:=.v (.ref _)) r b;split at h
  .cases h
   obtain⟨ys,l,f⟩:=c
   cases n with
   |zero=>simp[D.bt]at g|succ k=>exact⟨a,ys,rfl,cL.of l,a'.py (n:=k) g f⟩
  .cases h
 .cases h
theorem AA{n:Nat}:∀{ds aw:List D}{e:List V}{S ak:b1},cu K mg O U S aq H->(qk ds).run S=.ok aw ak->gr aw n=true->a' K mg O H ds e->aE.a' K H (D.py.jO aw) e
 |[],_,_,_,_,_,h,_,r=>by cases h;exact r
 |d::ds,_,_,_,_,st,h,g,r=>by
  obtain⟨x,S1,c,j⟩:=M.inv h;obtain⟨xs,l,f,i⟩:=M.inv j;obtain rfl:=(uk d).dO _ _ _ c;cases i;rw[gr,afG]at g;obtain⟨v,k,q,a,b⟩:=r;exact⟨v,k,q,Qt st c g.1 a,AA st f g.2 b⟩
def HD(st:cu K mg O U S aq H){r:R}{e:D}{v:V}{n:Nat}(h:(o9 r).run S=.ok e ak)(g:e.bt n=true)(d:d6 K mg O H r v):aE.Rep K H e.py v:=by
 unfold o9 at h;split at h
 .obtain⟨ds,S1,b,h⟩:=M.inv h
  cases h;obtain⟨a,ys,q,l,_,c⟩:=d
  cases n with
  |zero=>simp[D.bt]at g|succ k=>exact⟨a,ys,q,cL.of l,AA (n:=k) st b g c⟩
 .rename_i m
  obtain⟨o,S1,b,h'⟩:=M.inv h;clear h;obtain⟨a,rfl,_,f⟩:=yr st d b;obtain rfl:=(gx (.v (.ref m))).dO _ _ _ b;split at h'
  .obtain⟨ds,S1,b,h⟩:=M.inv h'
   cases h;obtain⟨ys,l,c⟩:=f
   cases n with
   |zero=>simp[D.bt]at g|succ k=>exact⟨a,ys,rfl,cL.of l,AA (n:=k) st b g c⟩
  .cases h'
 .cases h
theorem Og:eP K mg (vH K false) vo:=λO U S aq H x y g j m ak Q st i k h q=>by
 obtain⟨a,S1,e,l⟩:=M.inv h;obtain⟨b,n,f,d⟩:=M.inv l;obtain rfl:=(o9 g).dO _ _ _ e;obtain rfl:=(o9 j).dO _ _ _ f
 by_cases c:a.bt 64=true/\b.bt 64=true
 .rw[if_pos c]at d
  cases d;refine⟨_,_,HD st e c.1 i,HD st f c.2 k,rZ c.1,rZ c.2,?_⟩;rw[if_neg afc,qp _ _ _ _ c.1 c.2];exact q O _ H (Go.refl _ _) st rfl trivial
 .rw[if_neg c]at d;cases d
end
def tw(n:Nat)(B:D->b8):Nat->Nat->b8
 |0,_=>λ_=>fc
 |f+1,k=>λU=>do
  let o <-(gx (.v (.ref n))).up
  match o with
  |.l xs=>match xs[k]? with
   |none=>pure (.a6 U)|some d=>do
    let a <-B d U
    match a with
    |.a6 U'=>tw n B f (k+1) U'|.cM U'=>tw n B f (k+1) U'|.bk U'=>pure (.a6 U')|.b0 r=>pure (.b0 r)
  |_=>fc
def tv(i:Nat)(m:br)(b:b8):b8:=λU=>do
 let r <-(m U).up
 match r with
 |.v (.ref n)=>do
  let o <-(gx r).up
  match o with
  |.l xs=>tw n (λd U=>b (U.set i (.val d))) (xs.length+1) 0 U|_=>fc
 |_=>fc
section
variable{X:aR}{l:Expr}{m:br}{pos dR:Pos}{bd:b8}{body:List Stmt}{i:Nat}{x:Str}
theorem Rk{K:aW}{mg:bx}{G:hZ}(mS:∀O U S s H d y f u Q,dA K mg O U S s H->Rep K mg O H d y->(bd (U.set i (.val d))).run S=.ok f u->(∀E R,dA K mg O E S R H->(bd E).run S=.ok f u->Q R H)->G y s H Q) :
  ∀D s H,ni K mg (tv i m bd) D s H->q_ (Jc K (i4 K mg m)) G (ni K mg bd) D s H:=by
 rintro D s H ⟨O,U,S,bg,ak,st,h,q⟩;obtain⟨r,S1,C,h'⟩:=N.inv h;clear h;refine⟨O,U,S,r,S1,st.s3,C,λF v Y B Z bw nn=>?_⟩;obtain rfl:=(m U).dO _ _ _ C;have td:=st.go B Z.cp;split at h'
 .rename_i n
  obtain⟨o,u,J,h⟩:=N.inv h';clear h';obtain⟨i1,a,V,rfl,az,sn,g4⟩:=sO Z bw J;cases V;obtain rfl:=(gx (.v (.ref n))).dO _ _ _ J;split at h
  .rename_i xs
   obtain⟨ys,hl,ra⟩:=g4;refine⟨a,rfl,⟨ys,cL.of hl⟩,λk f M A=>∃p U' P,dA K mg p U' P M A/\f7 F p Y A/\(tw n (λd U=>bd (U.set i (.val d))) f k U').run P=.ok bg ak,⟨_,F,U,_,td,(dF.refl _ _).dy,h⟩,?_⟩;rintro k f M A ⟨p,U',P,L,g',h⟩
   cases f with
   |zero=>cases h
   |succ f=>
    obtain⟨o,nE,bq,h'⟩:=N.inv h;clear h;have cg:p.bO[n]? = some a:=by
     obtain⟨t,e⟩:=g'.bO;rw[<-e,afk (fk.mp az).1];exact az
    obtain⟨i1,oX,V,gG,I3,aeZ,Y1⟩:=sO (r:=.v (.ref n)) (v:=.ref a) L.s3 ⟨a,rfl,cg⟩ bq;cases V;cases gG;obtain rfl:=(gx (.v (.ref n))).dO _ _ _ bq;split at h'
    .obtain⟨W,hz,lV⟩:=Y1
     split at h'
     .rename_i e
      cases h';refine .inl ⟨⟨W,cL.of hz,?_⟩,q p M A (B.di.dy.trans g') L⟩;rw[lV.len];exact List.getElem?_eq_none_iff.mp e
     .rename_i d e
      obtain⟨y,e',bU⟩:=lV.get e;obtain⟨f1,T,b4,h⟩:=N.inv h';refine .inr ⟨⟨W,y,cL.of hz,e'⟩,λw b=>∃c g u,dA K mg c g u w b/\f7 F c Y b/\(tw n (λd U=>bd (U.set i (.val d))) f (k+1) g).run u=.ok bg ak,?_,λx b jw=>?_⟩
      .rintro w b I
       exact⟨f,Nat.lt_succ_self _,I⟩
      .obtain⟨rfl,ex⟩:=jw
       have ex:=ex W (cL.of hz);rw[e']at ex;cases ex;refine mS _ _ _ _ _ _ _ _ _ _ L bU b4 λE R ks ag=>⟨p,E,_,f1,T,ks,ag,?_⟩
       cases f1 with
       |a6 g=>exact λc w b j z=>⟨c,g,T,z,g'.trans j,h⟩
       |cM g=>exact λc w b j z=>⟨c,g,T,z,g'.trans j,h⟩
       |bk g=>cases h;exact λc w b j z=>q c w b (B.di.dy.trans (g'.trans j)) z
       |b0 r=>cases h;exact λc v b j dV aG f2 b6=>q c v b (B.di.dy.trans (g'.trans j)) dV aG f2 b6
    .cases h'
  .cases h
 .cases h'
def acy(a:ahs (model X.prog X.w) X.A X.env X.dx)(e:X.calm=true)(hi:bp X l m)(hN:X.N.Nodup)(c:X.N[i]? = some x)(g:Loc X.env.scope x)(b:jc X body bd)
  (aC:j0 X l:=by intro _;rfl) (f:X.fn x=true\/X.env.scope.names.lookup x=some .local:=by first|exact .inl rfl|exact .inr rfl|assumption):eS X (.For (.Name x dR) l body [] pos) (tv i m bd):=
 ⟨fz (vA a e (CL hi.un) (sU hN c g f) b.un aC) (Rk λ_ _ _ _ _ _ _ _ _ _ st d h k=>k _ _ (st.set (s:=.val _) (λxs z=>by cases z) ⟨_,rfl,d⟩) h)⟩
end
abbrev lq:=aN->M (List D)
def uf:lq:=λ_=>pure []
def iO(m:br)(ms:lq):lq:=λU=>do
 let x <-m U
 let xs <-ms U
 if x.jR=true then pure (x.arg::xs)else bad
def ug(j:Nat)(ms:lq):lq:=λU=>match U[j]? with
 |some (.bF xs)=>do
  let r <-ms U
  pure (.l xs::r)
 |_=>bad
def rm(mf:e8)(ms:lq):dG:=λU=>do
 let ds <-(ms U).up
 mf ds
def ab3(K:aW)(mg:bx)(m:lq):fC:=λc H Q=>p' K mg (λU=>(m U).up) c H λO U e ds=>∀b d a,Go O b H a->dA K mg b U e c a->lj K mg b a ds d->Q d a
structure rG(X:aR)(aw:List Expr)(m:lq):Prop where
 un:gR X aw (ab3 X.K X.mg m)
def jS.go{K:aW}{mg:bx}{O c:a4}{H b:av}(g:Go O c H b){d:D}{v:V}(h:jS K mg O H d v):jS K mg c b d v:=by
 cases d with
 |l xs=>
  obtain⟨a,ys,e,l,r⟩:=h;exact⟨a,ys,e,l.imp (λz=>⟨gS.same g.same z.1,by rw[g.bO];exact z.2⟩) id,r.go g⟩
 |_=>exact Rep.go g h
section
variable{X:aR}{e:Expr}{aw:List Expr}{m:br}{ms:lq}{x:Str}{ps:List Str}{k:Nat}{mf:e8}{p pos:Pos}
def acf:rG X [] uf:=⟨og yx λc H Q a=>by
 obtain⟨O,U,S,ds,b,st,h,q⟩:=a;cases h;exact q O [] H (Go.refl _ _) st rfl⟩
theorem ace(u:bp X e m)(l:rG X aw ms)(aC:fm X e aw:=by rfl):rG X (e::aw) (iO m ms):=⟨og (sR u.un l.un aC) λE H Q r=>by
 obtain⟨O,U,S,ds,D,st,h,q⟩:=r;obtain⟨x,S1,c,z⟩:=M.inv h;obtain⟨xs,F,d,a⟩:=M.inv z;obtain rfl:=(m U).dO _ _ _ c;obtain rfl:=(ms U).dO _ _ _ d;split at a
 .rename_i A
  cases a;refine⟨O,U,_,x,_,st.s3,c,λn f B g b t a6=>?_⟩;exact⟨n,U,_,xs,_,st.go g b.cp,d,λw j s i y rs=>q w (f::j) s (g.trans i) y ⟨f,j,rfl,(EB b.cp.rh A t).go i,rs⟩⟩
 .cases a⟩
theorem acg{j:Nat}{n:Str}(d:rG X aw ms)(hi:X.N[j]? = some n:=by rfl)(f:nH X.env.scope n:=by first|exact ahc rfl|exact afS (.inl rfl)|exact afS (afS rfl))(hd:eT n:=by decide)(B:(n==("__classdict__":Str))=false:=by decide)(aC:afV (.Name n p::aw) X.env=(false,eval (.Name n p) X.env)::afV aw X.env:=by rfl):rG X (.Name n p::aw) (ug j ms):=
 ⟨og (sR (sS hi f hd B) d.un aC) λw H Q g=>by
  obtain⟨O,U,S,ds,u,st,h,q⟩:=g
  replace h:((match U[j]? with
   |some (.bF xs)=>do
    let r <-ms U
    pure (.l xs::r)
   |_=>bad:M (List aY.D))).run S=.ok ds u:=h
  split at h
  .rename_i xs e
   obtain⟨r,S1,s,t⟩:=M.inv h;cases t;obtain⟨a,ys,ao,l,E⟩:=st.rf j _ e
   cases aG:w[j]? with
   |none=>rw[aG]at ao;cases ao
   |some o=>
    rw[aG]at ao;cases(show o=some (.ref a)from ao);refine⟨_,aG,O,U,S,r,_,st,s,λy c i b A rs=>q y (.ref a::c) i b A ⟨.ref a,c,rfl,?_,rs⟩⟩;exact jS.go b (show jS X.K X.mg O H (.l xs) (.ref a)from⟨a,ys,rfl,l.imp (λz=>⟨z.1,z.2.2⟩) id,E⟩)
  .cases h⟩
def acj(h:gC X.prog X.w X.K X.mg X.base x ps k (lW X.K X.mg mf))(f:c6 k X.A)(u:d5 X x)(t:rG X (e::aw) ms)(D:eT x:=by decide)
  (he:fm X e aw:=by rfl) (E:gF X pos aw:=by rfl):ek X (.Call (.Name x p) (e::aw) [] pos) (rm mf ms):=
 ⟨es (yy h f u t.un D he E) λI H Q j=>by
  obtain⟨O,U,S,r,s,st,h,q⟩:=j;obtain⟨ds,S1,l,h⟩:=N.inv h;refine⟨O,U,S,ds,S1,st,l,λi L G b a B=>?_⟩;exact⟨i,_,r,S1,s,a.s3.cp,a.s3.gy,a.full,B,h,λn v c g d de z y F=>q n v c (b.dN.trans g) (a.dN g d de z) y (F.dN b.dN)⟩⟩
end
end aY
set_option maxHeartbeats 8000000
section
namespace aY
abbrev ar(n:Int):br:=aH (.int n)
abbrev aI(v:Nat)(n:Int):br:=aa bu (I v) (aH (.int n))
abbrev c1(e:br)(n:Int):br:=aa bu e (aH (.int n))
abbrev bf(e:br):cJ:=bW e d7
abbrev a8(e f:br):cJ:=bW e (bW f d7)
abbrev bG(e f g:br):cJ:=bW e (bW f (bW g d7))
end aY
namespace i_
open PySem PySem.Spec aE aY
def top(i:Nat):Stmt:=PySem.Challenge.pw_oneslate_k55_audit_tells_faults.main.body.getD i (.Pass ⟨0,0,0,0⟩)
abbrev L':Stmt:=top 6
abbrev Ma:Stmt:=top 8
abbrev vL:Stmt:=top 73
def Zd:jA ["script","names","links","history","kinds","places","w","due","handed"] ["script"] (eo vL):=xd (by kernel_rfl)
abbrev g5:List (Str×Str):=[("put","do_put"),("add","do_add"),("swap","do_swap"),("take","do_take"),("renew","do_renew"),("free","do_free"),("sure","do_sure"),("move","do_move"),("end","do_end")]
structure Txt[aE.a5](P:afA)(w:World)(K:aW)(mg:bx)(base:Heap):Prop where
 hw:w=aE.a5.wl
 Gx:cD K mg "blank" (top 1) [] []
 Hl:cD K mg "lease_of" (top 2) T0 T0
 Ht:cD K mg "shut_of" (top 3) T0 T0
 GX:cD K mg "is_shut" (top 4) T0 T0
 Gy:cD K mg "cell_of" (top 5) ["slate","name"] ["slate","name","cell"]
 Hw:cD K mg "with_cell" (top 6) ["slate","name","n"] ["slate","name","n","cells"]
 GL:cD K mg "doing_of" (top 7) ["slate","asker"] ["slate","asker","doing"]
 Hx:cD K mg "with_doing" (top 8) ["slate","asker","number","answer"] ["slate","asker","number","answer","doings"]
 Hy:cD K mg "with_lease" (top 9) W1 W1
 Hz:cD K mg "with_shut" (top 10) ["slate","shut"] ["slate","shut"]
 Hp:cD K mg "opened" (top 11) T0 T0
 GD:cD K mg "do_put" (top 13) o0 o0
 Gz:cD K mg "do_add" (top 14) o0 ["slate","asker","deed","total"]
 GH:cD K mg "do_swap" (top 15) o0 o0
 Hm:cD K mg "lent" (top 16) W1 W1
 Ho:cD K mg "not_lent" (top 17) T0 ["slate","lease"]
 GI:cD K mg "do_take" (top 18) o0 o0
 GF:cD K mg "do_renew" (top 19) o0 o0
 GB:cD K mg "do_free" (top 20) o0 o0
 GG:cD K mg "do_sure" (top 21) o0 o0
 GC:cD K mg "do_move" (top 22) o0 o0
 GA:cD K mg "do_end" (top 23) o0 o0
 Hq:cD K mg "outcome_of" (top 25) o0 ["slate","asker","deed","doer"]
 GN:cD K mg "done_on" (top 26) ["slate","asker","number","deed"] ["slate","asker","number","deed","made"]
 GY:cD K mg "last_slate" (top 28) ["links"] ["links"]
 Hu:cD K mg "slate_ahead" (top 30) ["links","place"] ["links","place","slate"]
 GW:cD K mg "has_doing" (top 31) ["slate","asker","number"] ["slate","asker","number"]
 GK:cD K mg "does" (top 32) ["links","place"] ["links","place","link","asker"]
 Gw:cD K mg "begun_deeds" (top 33) ["history"] ["history","begun","row"]
 GS:cD K mg "fault_of_links" (top 34) ["links","history"] ["links","history","begun","place","link","asker"]
 GJ:cD K mg "doers_by_deed" (top 35) ["links"] ["links","places","place","deed"]
 Hr:cD K mg "place_of_stamp" (top 36) ["links","epoch","stamp"] ["links","epoch","stamp","place","link"]
 Hs:cD K mg "place_seen" (top 37) ["links","seen"] ["links","seen"]
 GR:cD K mg "fault_of_glance" (top 38) ["links","seen"] ["links","seen","place","slate"]
 GP:cD K mg "fault_of_end" (top 39) M2 ["links","doers","row","outcome","place"]
 GQ:cD K mg "fault_of_ends" (top 40) v4 ["links","doers","history","place","row","word"]
 Hv:cD K mg "stands_at" (top 41) M2 M2
 GV:cD K mg "glances_by_wish" (top 42) ["links","history"] ["links","history","places","row"]
 GO:cD K mg "earliest_of" (top 43) ["doers","glances","row"] ["doers","glances","row","wish"]
 Hn:cD K mg "marks_behind" (top 44) v4 ["links","doers","history","glances","least","marks","row","early"]
 GU:cD K mg "fault_of_order" (top 45) v4 ["links","doers","history","marks","place","row","stood"]
 Gv:cD K mg "audit" (top 46) ["links","history"] ["links","history","fault","doers"]
 G8:cD K mg "_law_cell_at" (top 48) ["script","k"] ["script","k"]
 Av:cD K mg "_law_alike" (top 49) ["found","due"] ["found","due","k"]
 Ha:cD K mg "_law_flat" (top 50) ["cell"] ["cell","many","some","asks"]
 Hb:cD K mg "_law_hall" (top 51) ["cell"] ["cell","some","rule","rows","tops"]
 Hd:cD K mg "_law_name" (top 52) ["cell"] ["cell","size","name"]
 He:cD K mg "_law_names" (top 53) ["cell"] ["cell","letters","base","at","other","third"]
 G9:cD K mg "_law_deed" (top 54) ["names","mixed","cell"] ["names","mixed","cell","name","n","fence","way"]
 Hj:cD K mg "_law_set" (top 55) ["cells","name","n"] ["cells","name","n","rest"]
 G7:cD K mg "_law_cell" (top 56) ["cells","name"] ["cells","name","pair"]
 Hc:cD K mg "_law_lent" (top 57) o0 ["slate","asker","deed","cells","doings","lease","shut","good"]
 Hi:cD K mg "_law_outcome" (top 58) o0 ["slate","asker","deed","cells","doings","lease","shut","old"]
 Hg:cD K mg "_law_number" (top 59) ["slate","asker"] ["slate","asker","doing"]
 G_:cD K mg "_law_done" (top 60) ["slate","asker","number","deed"] ["slate","asker","number","deed","made","answer","rest"]
 G':cD K mg "_law_first" (top 61) ["row"] ["row"]
 Hk:cD K mg "_law_wish" (top 62) ["links","history","kinds","numbers","slate","cell","k","names"] ["links","history","kinds","numbers","slate","cell","k","names","asker","epoch","parent","deed","made","answer"]
 GZ:cD K mg "_law_behind" (top 63) ["links","history","kinds","places","numbers","names"] ["links","history","kinds","places","numbers","names","slate"]
 G6:cD K mg "_law_built" (top 64) ["script","names"] ["script","names","links","history","kinds","places","numbers","slate","k","cell"]
 Hh:cD K mg "_law_other" (top 65) ["slate","w"] ["slate","w","cells","doings","lease","shut"]
 G5:cD K mg "_law_bent_end" (top 66) ["history","at","outcome"] ["history","at","outcome","row"]
 Hf:cD K mg "_law_no_stamp" (top 67) ["links","epoch"] ["links","epoch","found","link"]
 G4:cD K mg "_law_bend_outcome" (top 68) ["links","history","at","way"] ["links","history","at","way","outcome","answer","seen"]
 G2:cD K mg "_law_bend_link" (top 69) ["links","place","way"] ["links","place","way","link"]
 G3:cD K mg "_law_bend_order" (top 70) ["history","kinds","places","w"] ["history","kinds","places","w","rows","v","soon"]
 G1:cD K mg "_law_bend_begin" (top 71) ["history","kinds","places","w"] ["history","kinds","places","w","row","deed"]
 G0:cD K mg "_law_bend" (top 72) ["links","history","kinds","places","way","w"] ["links","history","kinds","places","way","w","place","v"]
 Au:iL K mg "law" vL ["script"]
 yZ:tH P w K mg "DOERS" g5
 BJ:zp K mg "with_cell" L'
 BK:zp K mg "with_doing" Ma
 bm:ll base mg
 B:D5 mg
 kt:wC K
section
variable[aE.a5]{P:afA}{w:World}{K:aW}{mg:bx}{base:Heap}
def Ot:bc:=
  (bh (a0 (bW (a0 d7) (bG (a0 d7) (a0 (a8 (ar 0) (aH .aF))) (aH .aF)))))
def BV:bV:=fnOf 0 0 Ot
def my:bc:=
  (bh (aI 0 2))
def jo:bV:=fnOf 1 1 my
def FD:bc:=
  (bh (aI 0 3))
def Ca:bV:=fnOf 1 1 FD
def E7:bc:=
  (bh (aa gK (b2 Ca (bf (I 0))) (aH .aF)))
def x9:bV:=fnOf 1 1 E7
def xO:bc:=
  (bX (aO (aa oEq (aI 2 0) (I 1))) (bh (aI 2 1)) bN)
def EU:bc:=
  (bh (ar 0))
def ET:bc:=
  bz (jf 2 (iX (aI 0 0)) xO) EU
def sv:bV:=fnOf 2 3 ET
def FH:bc:=
  (bh (a0 (bW (b5 nR (bf (nK jn (fnOf 1 1 (bh (aI 0 0))) (I 3)))) (bG (aI 0 1) (aI 0 2) (aI 0 3)))))
def FG:bc:=
  bz (bX (aO (aa dI (I 2) (ar 0))) (kJ 3 eG (bf (a0 (a8 (I 1) (I 2))))) bN) FH
def FF:bc:=
  bz (mE 3 (hy 1 [1] (iX (aI 0 0)) (aO (aa dI (aI 0 0) (I 1))) (I 0))) FG
def qS:bV:=fnOf 3 4 FF
def xP:bc:=
  (bX (aO (aa oEq (aI 2 0) (I 1))) (bh (I 2)) bN)
def E1:bc:=
  (bh (a0 (bG (I 1) (ar 0) (aH .aF))))
def E0:bc:=
  bz (jf 2 (iX (aI 0 1)) xP) E1
def qQ:bV:=fnOf 2 3 E0
def FK:bc:=
  (bh (a0 (bW (aI 0 0) (bG (b5 nR (bf (nK fo (fnOf 1 1 (bh (aI 0 0))) (I 4)))) (aI 0 2) (aI 0 3)))))
def FJ:bc:=
  bz (kJ 4 eG (bf (a0 (bG (I 1) (I 2) (I 3))))) FK
def FI:bc:=
  bz (mE 4 (hy 1 [1] (iX (aI 0 1)) (aO (aa dI (aI 0 0) (I 1))) (I 0))) FJ
def ye:bV:=fnOf 4 5 FI
def FL:bc:=
  (bh (a0 (bW (aI 0 0) (bG (aI 0 1) (a0 (a8 (I 1) (I 2))) (aI 0 3)))))
def yf:bV:=fnOf 3 3 FL
def FN:bc:=
  (bh (a0 (bW (aI 0 0) (bG (aI 0 1) (aI 0 2) (I 1)))))
def sJ:bV:=fnOf 2 2 FN
def FC:bc:=
  (bh (b2 sJ (a8 (I 0) (aH .aF))))
def vd:bV:=fnOf 1 1 FC
def EZ:bc:=
  (bh (a0 (a8 (b2 qS (bG (I 0) (aI 2 1) (aI 2 2))) (b2 sv (a8 (I 0) (aI 2 1))))))
def u7:bV:=fnOf 3 3 EZ
def EW:bc:=
  (bh (a0 (a8 (b2 qS (bG (I 0) (aI 2 1) (I 3))) (I 3))))
def EV:bc:=
  bz (bQ 3 (aa c0 (b2 sv (a8 (I 0) (aI 2 1))) (aI 2 2))) EW
def u4:bV:=fnOf 3 4 EV
def z3:bc:=
  (bh (a0 (a8 (b2 qS (bG (I 0) (aI 2 1) (aI 2 3))) (ar 1))))
def z2:bc:=
  bz (bX (aO (aa dI (b2 sv (a8 (I 0) (aI 2 1))) (aI 2 2))) (bh (a0 (a8 (I 0) (ar 0)))) bN) z3
def sA:bV:=fnOf 3 3 z2
def Fx:bc:=
  (bh (a0 (a8 (b2 yf (bG (I 0) (aa c0 (I 1) (ar 1)) (I 2))) (a0 (bG (ar 1) (aa c0 (I 1) (ar 1)) (I 2))))))
def sG:bV:=fnOf 3 3 Fx
def FA:bc:=
  (bh (a0 (a8 (I 0) (a0 (bG (ar 0) (aI 1 0) (aI 1 1))))))
def Fz:bc:=
  bz (bQ 1 (b2 jo (bf (I 0)))) FA
def sH:bV:=fnOf 1 2 Fz
def z5:bc:=
  (bh (b2 sG (bG (I 0) (aI 2 1) (I 1))))
def z4:bc:=
  bz (bX (aO (aa dI (c1 (b2 jo (bf (I 0))) 0) (aI 2 1))) (bh (b2 sH (bf (I 0)))) bN) z5
def sC:bV:=fnOf 3 3 z4
def zZ:bc:=
  (bh (b2 sG (bG (I 0) (aI 2 1) (I 1))))
def zY:bc:=
  bz (bX (aO (aa dI (b2 jo (bf (I 0))) (a0 (a8 (aI 2 1) (I 1))))) (bh (b2 sH (bf (I 0)))) bN) zZ
def sy:bV:=fnOf 3 3 zY
def zX:bc:=
  (bh (b2 sG (bG (I 0) (aI 2 1) (aH .aF))))
def zW:bc:=
  bz (bX (aO (aa dI (b2 jo (bf (I 0))) (a0 (a8 (aI 2 1) (I 1))))) (bh (b2 sH (bf (I 0)))) bN) zX
def sx:bV:=fnOf 3 3 zW
def z1:bc:=
  (bh (a0 (a8 (b2 qS (bG (I 0) (aI 2 2) (aI 2 3))) (ar 1))))
def z0:bc:=
  bz (bX (aO (aa dI (b2 jo (bf (I 0))) (a0 (a8 (aI 2 1) (I 1))))) (bh (a0 (a8 (I 0) (ar 0)))) bN) z1
def sz:bV:=fnOf 3 3 z0
def EY:bc:=
  (bh (a0 (a8 (b2 sJ (a8 (I 0) (aI 2 1))) (ar 1))))
def u6:bV:=fnOf 3 3 EY
def EX:bc:=
  (bh (a0 (a8 (b2 sJ (a8 (I 0) (aH (.str "over")))) (ar 1))))
def u5:bV:=fnOf 3 3 EX
abbrev hD:List (Str×bV):=[("do_put",u7),("do_add",u4),("do_swap",sA),("do_take",sC),("do_renew",sy),("do_free",sx),("do_sure",sz),("do_move",u6),("do_end",u5)]
def mA:bc:=
  (bh (Ag 3 hD (bG (I 0) (I 1) (I 2))))
def mz:bc:=
  bz (bQ 3 (Aj g5 (aI 2 0))) mA
def eX:bV:=fnOf 3 4 mz
def z8:bc:=
  (bh (b2 ye (bW (aI 4 0) (bG (I 1) (I 2) (aI 4 1)))))
def z7:bc:=
  bz (bQ 4 (b2 eX (bG (I 0) (I 1) (I 3)))) z8
def z6:bc:=
  bz (bX (ib (aO (aa fq (I 3) (aH .aF))) (ib (aO (b2 x9 (bf (I 0)))) (aO (aa sN (c1 (b2 qQ (a8 (I 0) (I 1))) 1) (I 2))))) (bh (I 0)) bN) z7
def mY:bV:=fnOf 4 5 z6
def OC:bc:=
  bz (bX (aO (aa oEq (b5 c8 (bf (I 0))) (ar 0))) (bh (b2 BV d7)) bN) (bh (c1 (aa bu (I 0) (cX fx (ar 1))) 5))
def BZ:bV:=fnOf 1 1 OC
def O9:bc:=
  bz (bX (aO (aa oEq (I 1) (ar 0))) (bh (b2 BV d7)) bN) (bz (bQ 2 (c1 (aa bu (I 0) (aa gw (I 1) (ar 1))) 5)) (bz (bX (aO (aa dI (c1 (aa bu (I 0) (aa gw (I 1) (ar 1))) 0) (c1 (aa bu (I 0) (I 1)) 0))) (bh (b2 vd (bf (I 2)))) bN) (bh (I 2))))
def qR:bV:=fnOf 2 3 O9
def OB:bc:=
  (bh (b5 rS (bf (hy 1 [1,2] (iX (aI 0 1)) oy (jJ (aa oEq (aI 0 0) (I 1)) (aa oEq (aI 0 1) (I 2)))))))
def pA:bV:=fnOf 3 3 OB
def Ov:bc:=
  bz (bQ 2 (aa bu (I 0) (I 1))) (bz (bQ 3 (c1 (aI 2 1) 1)) (bz (bX (fA (aO (b2 pA (bG (aI 2 5) (I 3) (aI 2 3)))) (lZ (aO (b2 pA (bG (b2 qR (a8 (I 0) (I 1))) (I 3) (aI 2 3)))))) (bh (a0 (a8 (I 3) (aI 2 3)))) bN) (bh (aH .aF))))
def sD:bV:=fnOf 2 4 Ov
def JU:b8:=
  (fI (gP (aO (aa oEq (aI 2 0) (aH (.str "begin"))))) (tx (I 1) (gq (I 2) (e2 (ar 1)) (e2 (ar 4))) (eI (aH (.aM true)))) (bZ bN))
def Oq:b8:=
  bP (gB 1 (wd (.cU []))) (bP (tv 2 (I 0) JU) (bZ (bh (I 1))))
def BU:e8:=fnX 1 3 Oq
def UC:bc:=
  (bz (bQ 5 (c1 (aI 4 1) 1))
  (bz (bX (aO (aa (pE true) (a0 (bG (I 5) (aI 4 3) (aI 4 4))) (I 2))) (bh (a0 (a8 (aH (.str "unbegun")) (I 3)))) bN)
  (bX (aO (aa dI (aI 4 5) (b2 mY (bW (b2 qR (a8 (bo (I 0)) (I 3))) (bG (I 5) (aI 4 3) (aI 4 4)))))) (bh (a0 (a8 (aH (.str "wrong")) (I 3)))) bN)))
def Oy:b8:=
  bP (gB 2 (eB BU (eH (bf (I 1))))) (bP (bZ (mD [3,4] (bf (qe (I 0))) UC)) (bZ (bh (aH .aF))))
def x8:e8:=fnX 2 6 Oy
def JV:b8:=
  (bP (bZ (bQ 3 (b2 sD (a8 (bo (I 0)) (I 2)))))
  (fI (gP (aO (aa gK (I 3) (aH .aF)))) (tx (I 1) (I 3) (eI (I 2))) (bZ bN)))
def Ou:b8:=
  bP (gB 1 (wd (.cU []))) (bP (y9 2 (iB (bf (b5 c8 (bf (bo (I 0)))))) JV) (bZ (bh (I 1))))
def x4:e8:=fnX 1 4 Ou
def UE:bc:=
  (bX (fA (aO (aa oEq (aI 4 0) (I 1))) (aO (aa oEq (aI 4 1) (I 2)))) (bh (I 3)) bN)
def O7:bc:=
  bz (mD [3,4] (bf (I 0)) UE) (bh (aH .aF))
def B':bV:=fnOf 3 5 O7
def O8:bc:=
  bz (bX (aO (aa fq (aI 1 1) (aH .aF))) (bh (j3 (aO (aa kY (b5 c8 (bf (I 0))) (ar 0))) (aa gw (b5 c8 (bf (I 0))) (ar 1)) (aH .aF))) bN) (bz (bX (aO (aa oEq (aI 1 1) (a0 (a8 (ar 0) (ar 0))))) (bh (aa gw (b5 c8 (bf (hy 1 [1] (Bw (I 0)) (aO (aa oLt (aI 0 0) (aI 1 0))) (I 0)))) (ar 1))) bN) (bh (b2 B' (bG (I 0) (aI 1 0) (aI 1 1)))))
def sI:bV:=fnOf 2 2 O8
def E6:bc:=
  (bh (j3 (aO (aa oEq (I 3) (aI 1 2))) (aH .aF) (aH (.str "lie"))))
def E5:bc:=
  bz (bX (aO (aa fq (I 2) (aH .aF))) (bh (aH (.str "lost"))) bN) (bz (bQ 3 (b2 BZ (bf (gq (I 0) fR (e2 (aa c0 (I 2) (ar 1))))))) (bz (bX (aO (aa oEq (aI 1 1) (a0 (a8 (ar 0) (ar 0))))) (bQ 3 (b2 vd (bf (I 3)))) bN) E6))
def Ox:bc:=
  bz (bQ 2 (b2 sI (a8 (I 0) (I 1)))) E5
def BW:bV:=fnOf 2 4 Ox
def E4:bc:=
  bz (bX (aO (aa oEq (aI 3 0) (aH (.str "saw")))) (bh (b2 BW (a8 (I 0) (aI 3 1)))) bN) (bz (bQ 4 (qf (I 1) (a0 (a8 (aI 2 1) (aI 2 2))))) (bz (bX (aO (aa oEq (aI 3 0) (aH (.str "over")))) (bh (j3 (aO (aa fq (I 4) (aH .aF))) (aH .aF) (aH (.str "lie")))) bN) (bz (bX (aO (aa fq (I 4) (aH .aF))) (bh (aH (.str "lost"))) bN) (bh (j3 (aO (aa oEq (c1 (b2 qQ (a8 (c1 (aa bu (I 0) (I 4)) 5) (aI 2 1))) 2) (aI 3 1))) (aH .aF) (aH (.str "lie")))))))
def E3:bc:=
  bz (bQ 3 (aI 2 3)) E4
def x6:bV:=fnOf 3 5 E3
def UB:bc:=
  (bX (aO (aa oEq (aI 4 0) (aH (.str "end")))) (bz (bQ 5 (b2 x6 (bG (I 0) (I 1) (I 4))))
  (bX (aO (aa gK (I 5) (aH .aF))) (bh (a0 (a8 (I 5) (I 3)))) bN)) bN)
def Ow:bc:=
  bz (mD [3,4] (bf (I 2)) UB) (bh (aH .aF))
def x7:bV:=fnOf 3 6 Ow
def FE:bc:=
  bz (bX (aO (aa oEq (c1 (aI 2 3) 0) (aH (.str "saw")))) (bh (b2 sI (a8 (I 0) (c1 (aI 2 3) 1)))) bN) (bh (qf (I 1) (a0 (a8 (aI 2 1) (aI 2 2)))))
def ve:bV:=fnOf 3 3 FE
def JW:b8:=
  (fI (gP (fA (aO (aa oEq (aI 3 0) (aH (.str "end")))) (aO (aa oEq (c1 (aI 3 3) 0) (aH (.str "saw")))))) (tx (I 2) (a0 (a8 (aI 3 1) (aI 3 2))) (eI (b2 sI (a8 (bo (I 0)) (c1 (aI 3 3) 1))))) (bZ bN))
def OA:b8:=
  bP (gB 2 (wd (.cU []))) (bP (tv 3 (I 1) JW) (bZ (bh (I 2))))
def BY:e8:=fnX 2 4 OA
def E2:bc:=
  bz (bQ 3 (a0 (a8 (aI 2 1) (aI 2 2)))) (bz (bX (aO (aa fq (aI 2 3) (aH .aF))) (bh (qf (I 1) (I 3))) bN) (bh (j3 (aO (aa (pE false) (I 3) (I 0))) (aa gw (aa vq (I 0) (I 3)) (ar 1)) (aH .aF))))
def x5:bV:=fnOf 3 4 E2
def J0:bc:=
  (bz (kJ 5 eG (bf (I 4)))
  (bz (bQ 7 (j3 (aO (aa oEq (aI 6 0) (aH (.str "begin")))) (b2 x5 (bG (I 1) (I 3) (I 6))) (aH .aF)))
  (bX (aO (aa gK (I 7) (aH .aF))) (bQ 4 (b5 HW (a8 (I 4) (I 7)))) bN)))
def Fy:b8:=
  bP (bZ (bQ 4 (b5 c8 (bf (bo (I 0)))))) (bP (bZ (mE 5 (e1 d7))) (bP (bZ (jf 6 (Bz (bf (qe (I 2)))) J0)) (bP (bZ (kJ 5 y4 d7)) (bZ (w0 5)))))
def O6:b8:=
  bP (gB 3 (eB BY (eH (a8 (I 0) (I 2))))) Fy
def B_:e8:=fnX 3 8 O6
def UD:bc:=
  (bz (bQ 6 (j3 (aO (aa oEq (aI 5 0) (aH (.str "end")))) (b2 ve (bG (bo (I 0)) (I 1) (I 5))) (aH .aF)))
  (bX (fA (aO (aa gK (I 6) (aH .aF))) (aO (aa oLt (aa bu (I 3) (I 4)) (I 6)))) (bh (a0 (a8 (aH (.str "late")) (I 4)))) bN))
def Oz:b8:=
  bP (gB 3 (eB B_ (eH (bG (I 0) (I 1) (I 2))))) (bP (bZ (mD [4,5] (bf (qe (I 2))) UD)) (bZ (bh (aH .aF))))
def BX:e8:=fnX 3 7 Oz
def ES:b8:=
  bP (bZ (bX (aO (aa gK (I 2) (aH .aF))) (bh (I 2)) bN)) (kz (eB BX (eH (bG (I 0) (I 3) (I 1)))))
def Oo:b8:=
  bP (gB 2 (eB x8 (eH (a8 (I 0) (I 1))))) (bP (bZ (bX (aO (aa gK (I 2) (aH .aF))) (bh (I 2)) bN)) (bP (gB 3 (eB x4 (eH (bf (I 0))))) (bP (bZ (bQ 2 (b2 x7 (bG (bo (I 0)) (I 3) (bo (I 1)))))) ES)))
def pz:e8:=fnX 2 4 Oo
def OS:bc:=
  bz (bX (aO (aa oLt (I 1) (b5 c8 (bf (I 0))))) (bh (aa bu (I 0) (I 1))) bN) (bh (ar 0))
def lO:bV:=fnOf 2 2 OS
def uX(self:bV):bc:=
  (bX (lZ (aO (b2 self (a8 (aa bu (I 0) (I 2)) (aa bu (I 1) (I 2)))))) (bh (aH (.aM false))) bN)
def OK(self:bV):bc:=
  (bh (aH (.aM true)))
def OJ(self:bV):bc:=
  bz (jf 2 (iB (bf (b5 c8 (bf (I 1))))) (uX self)) (OK self)
def OI(self:bV):bc:=
  bz (bX (aO (aa dI (b5 c8 (bf (I 0))) (b5 c8 (bf (I 1))))) (bh (aH (.aM false))) bN) (OJ self)
def OH(self:bV):bc:=
  bz (bX (fA (aO (b5 iR (a8 (I 1) (aH (.ty "list"))))) (lZ (aO (b5 iR (a8 (I 0) (aH (.ty "list"))))))) (bh (aH (.aM false))) bN) (OI self)
def OG(self:bV):bc:=
  bz (bX (fA (aO (b5 iR (a8 (I 1) (aH (.ty "tuple"))))) (lZ (aO (b5 iR (a8 (I 0) (aH (.ty "tuple"))))))) (bh (aH (.aM false))) bN) (OH self)
def OF(self:bV):bc:=
  bz (bX (aO (b5 iR (a8 (I 1) (aH (.ty "str"))))) (bh (jJ (b5 iR (a8 (I 0) (aH (.ty "str")))) (aa oEq (I 0) (I 1)))) bN) (OG self)
def OE(self:bV):bc:=
  bz (bX (aO (b5 iR (a8 (I 1) (aH (.ty "int"))))) (bh (jJ (b5 iR (a8 (I 0) (aH (.ty "int")))) (jJ (Ai (b5 iR (a8 (I 0) (aH (.ty "bool"))))) (aa oEq (I 0) (I 1))))) bN) (OF self)
def OD(self:bV):bc:=
  bz (bX (aO (b5 iR (a8 (I 1) (aH (.ty "bool"))))) (bh (jJ (b5 iR (a8 (I 0) (aH (.ty "bool")))) (aa oEq (I 0) (I 1)))) bN) (OE self)
def E'(self:bV):bc:=
  bz (bX (aO (aa fq (I 1) (aH .aF))) (bh (aa fq (I 0) (aH .aF))) bN) (OD self)
def hJ:Nat->bV
 |0=>λ_=>bad
 |n+1=>fnOf 2 3 (E' (hJ n))
def OV:bc:=
  bz (bQ 1 (aa c0 (aa c0 (ar 1) (aa oMod (I 0) (ar 4))) (aa d3 (aa oMod (aa er (I 0) (ar 4)) (ar 2)) (aa oMod (aa er (I 0) (ar 8)) (ar 3))))) (bz (bQ 2 (b5 nR (bf (hy 1 [0] (iB (bf (I 1))) oy (aa oMod (aa c0 (aa er (I 1) (ar 24)) (I 0)) (ar 6)))))) (bz (bQ 3 (aa c0 (ar 1) (aa oMod (aa er (I 0) (ar 144)) (I 1)))) (bh (a0 (a8 (a0 (a8 (I 3) (I 2))) (a0 (a8 (aa c0 (aa gw (aa c0 (I 1) (ar 1)) (I 3)) (aa oMod (aa er (I 0) (ar 864)) (I 3))) (I 2))))))))
def B4:bV:=fnOf 1 4 OV
def Fq:bc:=
  bz (bX (aO (aa oEq (aa oMod (I 0) (ar 5)) (ar 4))) (bz (bQ 2 (a0 (a8 (ar 2) (a0 (bG (a0 (a8 (ar 2) (a0 (bG (aI 1 0) (aI 1 1) (aI 1 2))))) (a0 (a8 (ar 2) (a0 (bG (aI 1 2) (aI 1 3) (aI 1 4))))) (aI 1 0))))))
  (bz (bX (aO (aa oEq (aa oMod (aa er (I 0) (ar 30)) (ar 3)) (ar 0))) (bQ 2 (a0 (a8 (ar 2) (a0 (bG (aI 1 0) (aI 1 0) (aI 1 1)))))) bN)
  (bh (a0 (a8 (I 2) (I 2)))))) bN) (bz (bQ 3 (a0 (a8 (ar 1) (a0 (a8 (a0 (a8 (ar 2) (a0 (a8 (aI 1 0) (aI 1 1))))) (a0 (a8 (ar 2) (a0 (a8 (aI 1 2) (aI 1 3)))))))))) (bz (bQ 4 (a0 (a8 (ar 2) (a0 (a8 (a0 (a8 (ar 1) (a0 (a8 (aI 1 0) (aI 1 1))))) (a0 (a8 (ar 1) (a0 (a8 (aI 1 2) (aI 1 3)))))))))) (bz (bX (aO (aa oEq (aa oMod (aa er (I 0) (ar 30)) (ar 2)) (ar 0))) (bh (a0 (a8 (I 3) (I 4)))) bN) (bh (a0 (a8 (I 4) (I 3)))))))
def OW:bc:=
  bz (bX (aO (aa oLt (aa oMod (I 0) (ar 5)) (ar 3))) (bh (b2 B4 (bf (aa er (I 0) (ar 5))))) bN) (bz (bQ 1 (hy 1 [0] (iB (bf (ar 5))) oy (aa oMod (aa c0 (aa er (I 1) (ar 5)) (I 0)) (ar 6)))) Fq)
def yd:bV:=fnOf 1 5 OW
def JY:bc:=
  (bz (bQ 2 (aa oc (I 2) (aa bu (aH (.str "abcdefghijklmnopqrstuvwxyz")) (aa oMod (aa er (I 0) (ar 8)) (ar 26)))))
  (bQ 0 (aa er (I 0) (ar 3))))
def OY:bc:=
  bz (bQ 1 (aa c0 (ar 1) (aa oMod (I 0) (ar 8)))) (bz (bQ 2 (aH (.str ""))) (bz (ub (aO (aa oLt (b5 nP (bf (I 2))) (I 1))) JY) (bh (I 2))))
def B6:bV:=fnOf 1 3 OY
def Ft:bc:=
  (bh (e1 (bG (I 2) (aa oc (aa oc (rJ (I 2) fR (e2 (I 3))) (I 4)) (rJ (I 2) (e2 (aa c0 (I 3) (ar 1))) fR)) (I 5))))
def Fs:bc:=
  bz (bX (aO (aa oEq (b5 nP (bf (I 2))) (ar 8))) (bQ 5 (rJ (I 2) fR (e2 (ar 7)))) bN) Ft
def OZ:bc:=
  bz (bQ 1 (aH (.str "abcdefghijklmnopqrstuvwxyz"))) (bz (bQ 2 (b2 B6 (bf (I 0)))) (bz (bQ 3 (aa oMod (aa er (I 0) (ar 5)) (b5 nP (bf (I 2))))) (bz (bQ 4 (aa bu (I 1) (aa oMod (aa c0 (aa c0 (Ah qq (I 1) (bf (aa bu (I 2) (I 3)))) (ar 1)) (aa oMod (aa er (I 0) (ar 7)) (ar 25))) (ar 26)))) (bz (bQ 5 (aa oc (I 2) (aH (.str "x")))) Fs))))
def va:bV:=fnOf 1 6 OZ
def z9:bc:=
  bz (bX (aO (aa oLt (I 6) (ar 5))) (bh (a0 (bG (aH (.str "add")) (I 3) (I 4)))) bN) (bz (bX (aO (aa oLt (I 6) (ar 7))) (bh (a0 (bG (aH (.str "put")) (I 3) (I 4)))) bN) (bz (bX (aO (aa oEq (I 6) (ar 7))) (bh (a0 (bW (aH (.str "swap")) (bG (I 3) (aa oMod (aa er (I 1) (ar 96)) (ar 3)) (I 4))))) bN) (bz (bX (aO (aa oEq (I 6) (ar 8))) (bh (a0 (a8 (aH (.str "take")) (I 5)))) bN) (bz (bX (aO (aa oEq (I 6) (ar 9))) (bh (aa bu (e1 (bG (a0 (a8 (aH (.str "renew")) (I 5))) (a0 (a8 (aH (.str "free")) (I 5))) (a0 (bW (aH (.str "sure")) (bG (I 5) (I 3) (I 4)))))) (aa oMod (aa er (I 1) (ar 400)) (ar 3)))) bN) (bz (bX (ib (aO (aa oEq (I 6) (ar 10))) (aO (aa oEq (I 6) (ar 11)))) (bh (a0 (a8 (aH (.str "move")) (b2 yd (bf (aa er (I 1) (ar 96))))))) bN) (bz (bX (fA (aO (aa oEq (I 6) (ar 12))) (aO (aa oEq (aa oMod (aa er (I 1) (ar 96)) (ar 3)) (ar 0)))) (bh (a0 (bf (aH (.str "end"))))) bN) (bh (aH .aF))))))))
def OT:bc:=
  bz (bQ 3 (aa bu (I 0) (aa oMod (aa er (I 1) (ar 16)) (ar 3)))) (bz (bQ 4 (aa gw (aa oMod (I 2) (aa ia (ar 10) (ar 40))) (aa ia (ar 10) (ar 20)))) (bz (bX (aO (aa oEq (aa oMod (aa er (I 1) (ar 48)) (ar 2)) (ar 1))) (bQ 4 (aa oMod (aa er (I 1) (ar 96)) (ar 3))) bN) (bz (bQ 5 (aa oMod (aa er (I 1) (ar 96)) (ar 4))) (bz (bQ 6 (aa oMod (I 1) (ar 16))) z9))))
def yb:bV:=fnOf 3 7 OT
def O4:bc:=
  bz (mE 3 (hy 1 [1] (iX (I 0)) (aO (aa dI (aI 0 0) (I 1))) (I 0))) (bz (bX (aO (aa dI (I 2) (ar 0))) (kJ 3 eG (bf (a0 (a8 (I 1) (I 2))))) bN) (bh (b5 nR (bf (b5 (rT jn) (bf (I 3)))))))
def sF:bV:=fnOf 3 4 O4
def JX:bc:=
  (bX (aO (aa oEq (aI 2 0) (I 1))) (bh (aI 2 1)) bN)
def OR:bc:=
  bz (jf 2 (iX (I 0)) JX) (bh (ar 0))
def B3:bV:=fnOf 2 3 OR
def OX:bc:=
  bz (qg [3,4,5,6] (I 0)) (bz (bQ 7 (aa oEq (aI 5 0) (aI 2 1))) (bz (bX (aO (aa dI (aI 2 0) (aH (.str "take")))) (bQ 7 (jJ (I 7) (aa oEq (aI 5 1) (I 1)))) bN) (bz (bX (aO (aa oEq (aI 2 0) (aH (.str "sure")))) (bz (bX (aO (I 7)) (bQ 3 (b2 sF (bG (I 3) (aI 2 2) (aI 2 3)))) bN)
  (bh (a0 (a8 (a0 (bW (I 3) (bG (I 4) (I 5) (I 6)))) (b5 pb (bf (I 7))))))) bN) (bz (bX (aO (I 7)) (bQ 5 (a0 (a8 (aa c0 (aI 5 0) (ar 1)) (aa bu (e1 (a8 (I 1) (aH .aF))) (b5 pb (bf (aa oEq (aI 2 0) (aH (.str "free"))))))))) bN) (bh (a0 (a8 (a0 (bW (I 3) (bG (I 4) (I 5) (I 6)))) (a0 (bG (b5 pb (bf (I 7))) (aI 5 0) (aI 5 1))))))))))
def B5:bV:=fnOf 3 8 OX
def O3:bc:=
  bz (qg [3,4,5,6] (I 0)) (bz (bX (aO (aa (kZ false) (aI 2 0) (e1 (bW (aH (.str "take")) (bG (aH (.str "renew")) (aH (.str "free")) (aH (.str "sure"))))))) (bh (b2 B5 (bG (I 0) (I 1) (I 2)))) bN) (bz (bX (aO (aa oEq (aI 2 0) (aH (.str "move")))) (bh (a0 (a8 (a0 (bW (I 3) (bG (I 4) (I 5) (aI 2 1)))) (ar 1)))) bN) (bz (bX (aO (aa oEq (aI 2 0) (aH (.str "end")))) (bh (a0 (a8 (a0 (bW (I 3) (bG (I 4) (I 5) (aH (.str "over"))))) (ar 1)))) bN) (bz (bQ 7 (b2 B3 (a8 (I 3) (aI 2 1)))) (bz (bX (aO (aa oEq (aI 2 0) (aH (.str "put")))) (bh (a0 (a8 (a0 (bW (b2 sF (bG (I 3) (aI 2 1) (aI 2 2))) (bG (I 4) (I 5) (I 6)))) (I 7)))) bN) (bz (bX (aO (aa oEq (aI 2 0) (aH (.str "add")))) (bh (a0 (a8 (a0 (bW (b2 sF (bG (I 3) (aI 2 1) (aa c0 (I 7) (aI 2 2)))) (bG (I 4) (I 5) (I 6)))) (aa c0 (I 7) (aI 2 2))))) bN) (bz (bX (aO (aa dI (I 7) (aI 2 2))) (bh (a0 (a8 (I 0) (ar 0)))) bN) (bh (a0 (a8 (a0 (bW (b2 sF (bG (I 3) (aI 2 1) (aI 2 3))) (bG (I 4) (I 5) (I 6)))) (ar 1)))))))))))
def B9:bV:=fnOf 3 8 O3
def JZ:bc:=
  (bX (aO (aa oEq (aI 2 0) (I 1))) (bh (aI 2 1)) bN)
def O1:bc:=
  bz (jf 2 (iX (aI 0 1)) JZ) (bh (ar 0))
def B8:bV:=fnOf 2 3 O1
def OU:bc:=
  (bh (aI 0 0))
def yc:bV:=fnOf 1 1 OU
def Fp:bc:=
  bz (bQ 6 (hy 1 [1] (iX (aI 0 1)) (aO (aa dI (aI 0 0) (I 1))) (I 0))) (bh (a0 (bW (aI 4 0) (bG (b5 nR (bf (nK fo yc (aa qV (I 6) (e1 (bf (a0 (bG (I 1) (I 2) (I 5))))))))) (aI 4 2) (aI 4 3)))))
def Fo:bc:=
  bz (bX (ib (aO (aa fq (I 3) (aH .aF))) (ib (aO (aa gK (aI 0 3) (aH .aF))) (aO (aa sN (b2 B8 (a8 (I 0) (I 1))) (I 2))))) (bh (I 0)) bN) (bz (qg [4,5] (b2 B9 (bG (I 0) (I 1) (I 3)))) Fp)
def u_:bV:=fnOf 4 7 Fo
def Fv:b8:=
  bP (fI (gP (aO (aa fq (I 11) (aH .aF)))) (bP (dE eG (I 2) (bf (aH (.str "long"))))
  (bP (dE eG (I 1) (bf (a0 (bW (aH (.str "end")) (bW (I 8) (bG (aa bu (bo (I 3)) (I 8)) (a0 (a8 (aH (.str "saw")) (a0 (bG (I 9) (a0 (a8 (aa c0 (I 6) (ar 1)) (I 8))) (I 12))))) (aa c0 (aa d3 (ar 7) (I 6)) (ar 3))))))))
  (bZ (bh (I 12))))) (bZ bN)) (bP (dE eG (I 2) (bf (aH (.str "deed")))) (bP (bZ (bQ 13 (c1 (c1 (hy 1 [8] (iX (aI 12 1)) (aO (aa oEq (aI 0 0) (I 1))) (I 0)) 0) 2))) (bP (dE eG (I 1) (bf (a0 (bW (aH (.str "end")) (bW (I 8) (bG (aa bu (bo (I 3)) (I 8)) (a0 (a8 (aH (.str "did")) (I 13))) (aa c0 (aa d3 (ar 7) (I 6)) (ar 3)))))))) (bZ (bh (I 12))))))
def Fw:b8:=
  bP (fI (gP (fA (aO (aa fq (I 11) (aH .aF))) (aO (aa oEq (aa oMod (aa er (I 5) (ar 64)) (ar 2)) (ar 0))))) (bP (dE eG (I 2) (bf (aH (.str "short"))))
  (bP (dE eG (I 1) (bf (a0 (bW (aH (.str "end")) (bW (I 8) (bG (aa bu (bo (I 3)) (I 8)) (a0 (a8 (aH (.str "saw")) (a0 (bG (I 9) (I 10) (I 4))))) (aa c0 (aa d3 (ar 7) (I 6)) (ar 3))))))))
  (bZ (bh (I 4))))) (bZ bN)) (bP (bZ (bQ 12 (b2 u_ (bW (I 4) (bG (I 8) (aa bu (bo (I 3)) (I 8)) (I 11)))))) (bP (dE eG (I 0) (bf (a0 (bW (I 9) (bW (a0 (a8 (aa c0 (I 6) (ar 1)) (I 8))) (bW (I 10) (bG (aa bu (bo (I 3)) (I 8)) (I 11) (I 12)))))))) Fv))
def O5:b8:=
  bP (bZ (bQ 8 (aa oMod (I 5) (ar 4)))) (bP (oI (I 3) (I 8) (eI (aa c0 (aa bu (bo (I 3)) (I 8)) (ar 1)))) (bP (bZ (bQ 9 (ar 0))) (bP (bZ (bQ 10 (a0 (a8 (ar 0) (ar 0))))) (bP (bZ (bX (aO (aa kY (b5 c8 (bf (bo (I 0)))) (ar 0))) (bz (bQ 9 (c1 (aa bu (bo (I 0)) (cX fx (ar 1))) 0))
  (bz (bQ 10 (c1 (aa bu (bo (I 0)) (cX fx (ar 1))) 1))
  (bX (aO (aa gK (c1 (c1 (aa bu (bo (I 0)) (cX fx (ar 1))) 5) 3) (aH .aF))) (bz (bQ 9 (aa c0 (I 9) (ar 1)))
  (bQ 10 (a0 (a8 (ar 0) (ar 0))))) bN))) bN)) (bP (bZ (bQ 11 (b2 yb (bG (I 7) (aa oMod (aa er (I 5) (ar 4)) (aa ia (ar 10) (ar 9))) (I 5))))) (bP (dE eG (I 1) (bf (a0 (bW (aH (.str "begin")) (bW (I 8) (bG (aa bu (bo (I 3)) (I 8)) (I 11) (aa d3 (ar 7) (I 6)))))))) Fw))))))
def vc:e8:=fnX 8 14 O5
def OL:b8:=
  bP (bZ (bQ 6 (c1 (aa bu (bo (I 0)) (cX fx (ar 1))) 5))) (bP (dE eG (I 1) (bf (a0 (bW (aH (.str "begin")) (bW (ar 1) (bG (aa c0 (c1 (bo (I 4)) 1) (ar 1)) (aH .aF) (ar 200))))))) (bP (dE eG (I 1) (bf (a0 (bW (aH (.str "end")) (bW (ar 1) (bG (aa c0 (c1 (bo (I 4)) 1) (ar 1)) (a0 (a8 (aH (.str "saw")) (a0 (bG (c1 (aa bu (bo (I 0)) (cX fx (ar 1))) 0) (aH .aF) (I 6))))) (ar 203))))))) (bP (dE eG (I 1) (bf (a0 (bW (aH (.str "begin")) (bW (ar 2) (bG (aa c0 (c1 (bo (I 4)) 2) (ar 1)) (a0 (bG (aH (.str "put")) (aI 5 1) (ar 8))) (ar 204))))))) (bP (dE eG (I 1) (bf (a0 (bW (aH (.str "end")) (bW (ar 2) (bG (aa c0 (c1 (bo (I 4)) 2) (ar 1)) (a0 (a8 (aH (.str "over")) (aH .aF))) (ar 207))))))) (bP (dE m_ (I 2) (bf (e1 (a8 (aH (.str "short")) (aH (.str "over")))))) (dE m_ (I 3) (bf (e1 (a8 (b5 c8 (bf (bo (I 0)))) (b5 c8 (bf (bo (I 0)))))))))))))
def B0:e8:=fnX 6 7 OL
def xT:b8:=
  (bP (bZ (bX (aO (aa oEq (aI 7 3) (aH (.str "over")))) Af bN))
  (bP (bZ (bQ 7 (a0 (bW (aI 7 0) (bG (aI 7 1) (aI 7 2) (aH .aF))))))
  (bP (gB 7 (rm vc (iO (I 2) (iO (I 3) (iO (I 4) (iO (I 6) (iO (I 7) (iO (aa oMod (I 9) (aa ia (ar 10) (ar 50))) (iO (I 8) (ug 1 uf))))))))))
  (dE eG (I 5) (bf (b5 c8 (bf (bo (I 2)))))))))
def Fn:b8:=
  (kz (za (l5 (eI (I 2)) (l5 (eI (I 3)) (l5 (eI (I 4)) (l5 (eI (I 5)) wg))))))
def Fm:b8:=
  bP (fI (gP (aO (aa oEq (aI 7 3) (aH (.str "over"))))) (lb (rm B0 (iO (I 2) (iO (I 3) (iO (I 4) (iO (I 5) (iO (I 6) (ug 1 uf)))))))) (bZ bN)) Fn
def OQ:b8:=
  bP (gB 2 (ih (eI (e1 d7)))) (bP (gB 3 (ih (eI (e1 d7)))) (bP (gB 4 (ih (eI (e1 d7)))) (bP (gB 5 (ih (eI (e1 d7)))) (bP (gB 6 (ih (eI (e1 (bW (ar 0) (bG (ar 0) (ar 0) (ar 0))))))) (bP (bZ (bQ 7 (a0 (bW (a0 d7) (bG (a0 d7) (a0 (a8 (ar 0) (aH .aF))) (aH .aF)))))) (bP (y_ [8,9] (bf (gq (I 0) (e2 (ar 2)) (e2 (ar 22)))) xT) Fm))))))
def u9:e8:=fnX 2 10 OQ
def Fu:bc:=
  bz (bX (fA (aO (aa oEq (aa oMod (I 1) (ar 4)) (ar 1))) (aO (aa kY (b5 c8 (bf (I 2))) (ar 0)))) (bh (a0 (bW (gq (I 2) (e2 (ar 1)) fR) (bG (I 3) (I 4) (I 5))))) bN) (bz (bX (fA (aO (aa oEq (aa oMod (I 1) (ar 4)) (ar 2))) (aO (aa kY (b5 c8 (bf (I 3))) (ar 0)))) (bh (a0 (bW (I 2) (bG (aa kX (gq (I 3) fR (e2 (cX fx (ar 1)))) (a0 (bf (a0 (bG (c1 (aa bu (I 3) (cX fx (ar 1))) 0) (c1 (aa bu (I 3) (cX fx (ar 1))) 1) (aa ia (ar 10) (ar 55))))))) (I 4) (I 5))))) bN) (bz (bX (fA (aO (aa oEq (aa oMod (I 1) (ar 4)) (ar 3))) (aO (aa fq (I 5) (aH .aF)))) (bh (a0 (bW (I 2) (bG (I 3) (I 4) (aH (.str "over")))))) bN) (bh (a0 (bW (I 2) (bG (I 3) (a0 (a8 (aa c0 (aI 4 0) (ar 1)) (aI 4 1))) (I 5)))))))
def O2:bc:=
  bz (qg [2,3,4,5] (I 0)) Fu
def vb:bV:=fnOf 2 6 O2
def Fl:b8:=
  bP (bZ (bQ 3 (aa bu (bo (I 0)) (I 1)))) (oI (I 0) (I 1) (eI (a0 (bW (aI 3 0) (bW (aI 3 1) (bG (aI 3 2) (I 2) (aI 3 4)))))))
def n9:e8:=fnX 3 4 Fl
def xU:bc:=
  (bX (aO (aa dI (aI 3 0) (I 1))) (bQ 2 (aI 3 1)) bN)
def O0:bc:=
  bz (bQ 2 (a0 (a8 (aa ia (ar 10) (ar 9)) (ar 0)))) (bz (jf 3 (Jb (I 0)) xU) (bh (I 2)))
def B7:bV:=fnOf 2 4 O0
def Fj:b8:=
  bP (fI (gP (aO (aa oEq (aI 4 0) (aH (.str "over"))))) (bP (bZ (bX (aO (aa oEq (I 3) (ar 5))) (bh (aH .aF)) bN))
  (bP (lb (eB n9 (eH (bG (I 1) (I 2) (a0 (a8 (aH (.str "did")) (ar 1)))))))
  (bZ (bh (a0 (a8 (aH (.str "lost")) (I 2))))))) (bZ bN)) (bP (fI (gP (aO (aa oEq (aI 4 0) (aH (.str "did"))))) (bP (bZ (bQ 5 (aI 4 1)))
  (bP (fI (gP (aO (aa oEq (I 3) (ar 5)))) (lb (eB n9 (eH (bG (I 1) (I 2) (a0 (a8 (aH (.str "over")) (aH .aF))))))) (fI (gP (aO (b5 iR (a8 (I 5) (aH (.ty "tuple")))))) (lb (eB n9 (eH (bG (I 1) (I 2) (a0 (a8 (aH (.str "did")) (a0 (bG (aI 5 0) (aa c0 (aI 5 1) (ar 1)) (aI 5 2))))))))) (lb (eB n9 (eH (bG (I 1) (I 2) (a0 (a8 (aH (.str "did")) (aa c0 (I 5) (ar 1))))))))))
  (bZ (bh (a0 (a8 (aH (.str "lie")) (I 2))))))) (bZ bN)) (bP (bZ (bQ 6 (aI 4 1))) (bP (bZ (bX (aO (aa oEq (I 3) (ar 5))) (bh (aH .aF)) bN)) (bP (fI (gP (aO (aa oEq (I 3) (ar 4)))) (bP (lb (eB n9 (eH (bG (I 1) (I 2) (a0 (a8 (aH (.str "saw")) (a0 (bG (aI 6 0) (aI 6 1) (b2 vb (a8 (aI 6 2) (aa er (I 2) (ar 2))))))))))))
  (bZ (bh (a0 (a8 (aH (.str "lie")) (I 2)))))) (bZ bN)) (bP (lb (eB n9 (eH (bG (I 1) (I 2) (a0 (a8 (aH (.str "saw")) (a0 (bG (aI 6 0) (b2 B7 (a8 (bo (I 0)) (aI 6 0))) (aI 6 2))))))))) (bZ (bh (a0 (a8 (aH (.str "lost")) (I 2))))))))))
def OP:b8:=
  bP (bZ (bQ 4 (c1 (aa bu (bo (I 1)) (I 2)) 3))) Fj
def pB:e8:=fnX 4 7 OP
def ON:b8:=
  bP (bZ (bQ 3 (aa bu (bo (I 0)) (I 1)))) (bP (fI (gP (aO (aa oEq (I 2) (ar 2)))) (bP (oI (I 0) (I 1) (eI (aa kX (gq (I 3) fR (e2 (ar 5))) (a0 (bf (b2 vb (a8 (aI 3 5) (I 1))))))))
  (bZ (bh (a0 (a8 (aH (.str "wrong")) (I 1)))))) (bZ bN)) (bP (oI (I 0) (I 1) (eI (aa kX (aa kX (gq (I 3) fR (e2 (ar 3))) (a0 (bf (aa c0 (aI 3 3) (ar 1000))))) (gq (I 3) (e2 (ar 4)) fR)))) (bZ (bh (a0 (a8 (aH (.str "unbegun")) (I 1)))))))
def ya:e8:=fnX 3 4 ON
def xS:bc:=
  (bz (bQ 6 (ua (aa oEq (aa bu (bo (I 1)) (I 3)) (aH (.str "deed"))) (jJ (aa kY (aa bu (bo (I 2)) (I 5)) (aa bu (bo (I 2)) (I 3))) (aa dI (aa bu (bo (I 1)) (I 3)) (aH (.str "over"))))))
  (bX (fA (aO (I 6)) (aO (aa dI (aa bu (bo (I 1)) (I 5)) (aH (.str "over"))))) (bh (a0 (a8 (aH (.str "late")) (aa gw (aa d3 (ar 2) (I 5)) (ar 1))))) bN))
def OO:b8:=
  bP (bZ (bQ 4 (e1 (a8 (aa bu (bo (I 0)) (aa d3 (ar 2) (I 3))) (aa bu (bo (I 0)) (aa c0 (aa d3 (ar 2) (I 3)) (ar 1))))))) (bP (dE k_ (I 0) (bf (aa d3 (ar 2) (I 3)))) (bP (dE k_ (I 0) (bf (aa d3 (ar 2) (I 3)))) (bP (dE m_ (I 0) (bf (I 4))) (bP (bZ (jf 5 (sb (a8 (aa c0 (I 3) (ar 1)) (b5 c8 (bf (bo (I 1)))))) xS)) (bZ (bh (aH .aF)))))))
def sE:e8:=fnX 4 7 OO
def Fi:b8:=
  (bZ (bh (a0 (a8 (aH (.str "unbegun")) (aa gw (aa bu (bo (I 2)) (I 3)) (ar 1))))))
def OM:b8:=
  bP (bZ (bQ 4 (aa bu (bo (I 0)) (aa d3 (ar 2) (I 3))))) (bP (bZ (bX (aO (aa dI (aa bu (bo (I 1)) (I 3)) (aH (.str "deed")))) (bh (aH .aF)) bN)) (bP (bZ (bQ 5 (a0 (bG (aH (.str "add")) (aH (.str "quince")) (ar 5))))) (bP (bZ (bX (aO (aa oEq (aI 4 3) (I 5))) (bQ 5 (a0 (bG (aH (.str "add")) (aH (.str "quince")) (ar 6)))) bN)) (bP (oI (I 0) (aa d3 (ar 2) (I 3)) (eI (aa kX (gq (I 4) fR (e2 (ar 3))) (a0 (a8 (I 5) (aI 4 4)))))) Fi))))
def B2:e8:=fnX 4 6 OM
def xR:bc:=
  (bX (fA (aO (aa (kZ false) (aa bu (bo (I 2)) (I 7)) (e1 (a8 (aH (.str "deed")) (aH (.str "long")))))) (aO (aa oEq (aa bu (bo (I 3)) (I 7)) (I 6)))) (bh (a0 (a8 (aH (.str "lost")) (aa c0 (aa d3 (ar 2) (I 7)) (ar 1))))) bN)
def Fh:b8:=
  bP (fI (gP (aO (aa oEq (I 4) (ar 7)))) (kz (eB sE (eH (bW (I 1) (bG (I 2) (I 3) (I 5)))))) (bZ bN)) (bZ (bh (aH .aF)))
def Fg:b8:=
  bP (fI (gP (aO (aa oEq (I 4) (ar 6)))) (bP (bZ (bX (aO (aa oEq (b5 c8 (bf (bo (I 0)))) (ar 0))) (bh (aH .aF)) bN))
  (bP (bZ (bQ 6 (b5 c8 (bf (bo (I 0))))))
  (bP (dE rb (I 0) d7)
  (bZ (jf 7 (iB (bf (b5 c8 (bf (bo (I 2)))))) xR))))) (bZ bN)) Fh
def Ff:b8:=
  bP (fI (gP (ib (aO (aa oEq (I 4) (ar 4))) (aO (aa oEq (I 4) (ar 5))))) (kz (eB pB (eH (bW (I 0) (bG (I 1) (aa c0 (aa d3 (ar 2) (I 5)) (ar 1)) (I 4)))))) (bZ bN)) Fg
def Fe:b8:=
  bP (fI (gP (ib (aO (aa oEq (I 4) (ar 2))) (aO (aa oEq (I 4) (ar 3))))) (bP (fI (gP (ib (aO (aa oEq (aa bu (bo (I 2)) (I 5)) (aH (.str "short")))) (aO (aa oEq (aa bu (bo (I 2)) (I 5)) (aH (.str "over")))))) (kz (eB pB (eH (bW (I 0) (bG (I 1) (aa c0 (aa d3 (ar 2) (I 5)) (ar 1)) (aa gw (ar 6) (I 4))))))) (bZ bN))
  (kz (eB ya (eH (bG (I 0) (aa gw (aa bu (bo (I 3)) (I 5)) (ar 1)) (I 4)))))) (bZ bN)) Ff
def Fd:b8:=
  bP (fI (gP (aO (aa oEq (I 4) (ar 1)))) (bP (dE k_ (I 1) (bf (aa d3 (ar 2) (I 5))))
  (bP (bZ (bX (ib (aO (aa oEq (aa bu (bo (I 2)) (I 5)) (aH (.str "short")))) (aO (aa oEq (aa bu (bo (I 2)) (I 5)) (aH (.str "over"))))) (bh (aH .aF)) bN))
  (bZ (bh (a0 (a8 (aH (.str "unbegun")) (aa gw (aa bu (bo (I 3)) (I 5)) (ar 1)))))))) (bZ bN)) Fe
def Fc:b8:=
  bP (fI (gP (aO (aa oEq (I 4) (ar 9)))) (bP (lb (eB sE (eH (bW (I 1) (bG (I 2) (I 3) (I 5))))))
  (kz (eB pB (eH (bW (I 0) (bG (I 1) (aa gw (b5 c8 (bf (bo (I 1)))) (ar 1)) (ar 4))))))) (bZ bN)) Fd
def Fb:b8:=
  bP (fI (gP (aO (aa oEq (I 4) (ar 8)))) (kz (eB B2 (eH (bW (I 1) (bG (I 2) (I 3) (I 5)))))) (bZ bN)) Fc
def kU:e8:=fnX 6 8 Fb
def xQ:bc:=
  (bz (bQ 7 (aH .aF))
  (bz (bX (aO (aa oEq (aa bu (bo (I 4)) (I 6)) (aH (.str "deed")))) (bQ 7 (a0 (a8 (c1 (aa bu (bo (I 3)) (aa d3 (ar 2) (I 6))) 1) (c1 (aa bu (bo (I 3)) (aa d3 (ar 2) (I 6))) 2)))) bN)
  (bX (fA (aO (aa (kZ false) (aa bu (bo (I 4)) (I 6)) (e1 (a8 (aH (.str "deed")) (aH (.str "long")))))) (lZ (aO (b2 (hJ 4) (a8 (b2 sD (a8 (bo (I 2)) (aa gw (aa bu (bo (I 5)) (I 6)) (ar 1)))) (I 7)))))) (bh (aH (.aM false))) bN)))
def E_:b8:=
  (kz (y7 (y' (hJ 4) (y8 (eB pz (eH (a8 (c1 (bo (I 8)) 0) (c1 (bo (I 8)) 1)))) (bf (I 7)))) (eI (aa vo (I 8) (e1 (a8 (I 2) (I 3)))))))
def E9:b8:=
  bP (bZ (bX (aO (aa oEq (b5 c8 (bf (bo (I 4)))) (ar 0))) (bh (aH (.aM true))) bN)) (bP (bZ (bQ 6 (aa oMod (aa er (b2 lO (a8 (I 0) (ar 0))) (ar 10)) (b5 c8 (bf (bo (I 4))))))) (bP (gB 7 (eB kU (eH (bW (I 2) (bW (I 3) (bW (I 4) (bG (I 5) (aa oMod (b2 lO (a8 (I 0) (ar 0))) (ar 10)) (I 6)))))))) (bP (gB 8 (ih (we (l5 (ih (eI (b5 mL (bf (bo (I 2)))))) (l5 (ih (eI (b5 mL (bf (bo (I 3)))))) wg))))) E_)))
def E8:b8:=
  bP (bZ (bQ 1 (b2 va (bf (aa oMod (b2 lO (a8 (I 0) (ar 1))) (aa ia (ar 10) (ar 20))))))) (bP (wh [2,3,4,5] (rm u9 (ug 0 (iO (I 1) uf)))) (bP (bZ (jf 6 (iB (bf (b5 c8 (bf (bo (I 4)))))) xQ)) (bP (fI (wo (la gK (eB pz (eH (a8 (I 2) (I 3)))) (eI (aH .aF)))) (bZ (bh (aH (.aM false)))) (bZ bN)) E9)))
def x_:e8:=fnX 1 9 E8
structure ND{P:afA}{w:World}{K:aW}{mg:bx}{base:Heap}(T:Txt P w K mg base)(j:Nat):Prop where
 RZ:dg P w base T.Gx j 1 BV
 SF:dg P w base T.Hl j 1 jo
 SQ:dg P w base T.Ht j 1 Ca
 Sb:dg P w base T.GX j 2 x9
 R0:dg P w base T.Gy j 1 sv
 SU:dg P w base T.Hw j 4 qS
 R3:dg P w base T.GL j 1 qQ
 SV:dg P w base T.Hx j 4 ye
 SW:dg P w base T.Hy j 1 yf
 SX:dg P w base T.Hz j 1 sJ
 SM:dg P w base T.Hp j 2 vd
 IE:dg P w base T.GD j 5 u7
 IA:dg P w base T.Gz j 5 u4
 IH:dg P w base T.GH j 5 sA
 SG:dg P w base T.Hm j 2 sG
 SJ:dg P w base T.Ho j 2 sH
 II:dg P w base T.GI j 3 sC
 IF:dg P w base T.GF j 3 sy
 IC:dg P w base T.GB j 3 sx
 IG:dg P w base T.GG j 5 sz
 ID:dg P w base T.GC j 2 u6
 IB:dg P w base T.GA j 2 u5
 SN:dg P w base T.Hq j 6 eX
 R4:dg P w base T.GN j 7 mY
 Sd:dg P w base T.GY j 2 BZ
 SR:dg P w base T.Hu j 3 qR
 Sa:dg P w base T.GW j 1 pA
 R2:dg P w base T.GK j 4 sD
 RY:ik P w base T.Gw j 1 BU
 R9:ik P w base T.GS j 8 x8
 R1:ik P w base T.GJ j 5 x4
 SO:dg P w base T.Hr j 1 B'
 SP:dg P w base T.Hs j 2 sI
 R8:dg P w base T.GR j 3 BW
 R6:dg P w base T.GP j 4 x6
 R7:dg P w base T.GQ j 5 x7
 SS:dg P w base T.Hv j 3 ve
 R':ik P w base T.GV j 3 BY
 R5:dg P w base T.GO j 1 x5
 SH:ik P w base T.Hn j 4 B_
 R_:ik P w base T.GU j 5 BX
 RX:ik P w base T.Gv j 9 pz
 So:dg P w base T.G8 j 1 lO
 Se:∀n,n+1<=j->gC P w K mg base "_law_alike" ["found","due"] (n+1) (i3 K mg (hJ n))
 Sr:dg P w base T.Ha j 1 B4
 Ss:dg P w base T.Hb j 2 yd
 Sv:dg P w base T.Hd j 1 B6
 Sw:dg P w base T.He j 2 va
 Sp:dg P w base T.G9 j 3 yb
 SD:dg P w base T.Hj j 1 sF
 Sn:dg P w base T.G7 j 1 B3
 Su:dg P w base T.Hc j 2 B5
 SA:dg P w base T.Hi j 3 B9
 Sy:dg P w base T.Hg j 1 B8
 IK:dg P w base T.G' j 1 yc
 Sq:dg P w base T.G_ j 4 u_
 SE:ik P w base T.Hk j 5 vc
 Sf:ik P w base T.GZ j 1 B0
 Sm:ik P w base T.G6 j 6 u9
 Sz:dg P w base T.Hh j 1 vb
 Sl:ik P w base T.G5 j 1 n9
 Sx:dg P w base T.Hf j 1 B7
 Sk:ik P w base T.G4 j 2 pB
 Si:ik P w base T.G2 j 2 ya
 Sj:ik P w base T.G3 j 1 sE
 Sh:ik P w base T.G1 j 1 B2
 Sg:ik P w base T.G0 j 3 kU
 Cx {f:Addr}{fd:agg}(F:lp K "law" "law" vL f fd):10<=j->f6 P w K mg base fi 10 f fd ["script"] (lW K mg x_)
theorem aC(T:Txt P w K mg base):∀j,ND T j
 |0=>by constructor<;>intros<;>omega
 |j+1=>by
  have a:=aC T j;refine⟨du T.Gx rfl ?_,
   du T.Hl rfl ?_,
   du T.Ht rfl ?_,
   du T.GX rfl ?_,
   du T.Gy rfl ?_,
   Ie T.Hw T.BJ rfl λe c l L f A outer s H E b=>?_,
   du T.GL rfl ?_,
   Ie T.Hx T.BK rfl λe c l L f A outer s H E b=>?_,
   du T.Hy rfl ?_,
   du T.Hz rfl ?_,
   du T.Hp rfl ?_,
   du T.GD rfl ?_,
   du T.Gz rfl ?_,
   du T.GH rfl ?_,
   du T.Hm rfl ?_,
   du T.Ho rfl ?_,
   du T.GI rfl ?_,
   du T.GF rfl ?_,
   du T.GB rfl ?_,
   du T.GG rfl ?_,
   du T.GC rfl ?_,
   du T.GA rfl ?_,
   du T.Hq rfl λe f g A outer s H E b=>(@M_ _ _ _ _ _ _ ((M9 (i:=3) (mZ (by kernel_rfl)) rfl (.inl rfl) (M4 T.yZ rfl (M0 Js EO (v3 2) MZ)))) (@M' _ _ _ _ ((M8 (aaY (k:=5) (pp:=["slate","asker","deed"]) (lookup_all (by simp only[afx];exact⟨(a.IE (by omega)).mono (by omega),(a.IA (by omega)).mono (by omega),(a.IH (by omega)).mono (by omega),(a.II (by omega)).mono (by omega),(a.IF (by omega)).mono (by omega),(a.IC (by omega)).mono (by omega),(a.IG (by omega)).mono (by omega),(a.ID (by omega)).mono (by omega),(a.IB (by omega)).mono (by omega),λ_ h=>nomatch h⟩)) rfl (.inl rfl) (b.mono (by omega)) (vY (v3 0) (vY (v3 1) (vY (v3 2) DK)))))))),
   du T.GN rfl ?_,
   du T.GY rfl ?_,
   du T.Hu rfl ?_,
   du T.GW rfl ?_,
   du T.GK rfl ?_,
   iS T.Gw rfl ?_,
   iS T.GS rfl ?_,
   iS T.GJ rfl ?_,
   du T.Hr rfl ?_,
   du T.Hs rfl ?_,
   du T.GR rfl ?_,
   du T.GP rfl ?_,
   du T.GQ rfl ?_,
   du T.Hv rfl ?_,
   iS T.GV rfl ?_,
   du T.GO rfl ?_,
   iS T.Hn rfl ?_,
   iS T.GU rfl ?_,
   iS T.Gv rfl ?_,
   du T.G8 rfl ?_,
   Vq (λ_=>T.Av.d.none (by rintro p H Q E ⟨O,ds,r,m,_,_,_,h,_⟩;cases h)) λn e=>(IL (k:=n+1) T.Av.d T.Av.s rfl rfl λf g A outer s H E b=>jF.un ?_:gC P w K mg base _ _ _ (i3 K mg (fnOf 2 3 (E' (hJ n))))).mono (by omega),
   du T.Ha rfl ?_,
   du T.Hb rfl ?_,
   du T.Hd rfl ?_,
   du T.He rfl ?_,
   du T.G9 rfl ?_,
   du T.Hj rfl ?_,
   du T.G7 rfl ?_,
   du T.Hc rfl ?_,
   du T.Hi rfl ?_,
   du T.Hg rfl ?_,
   du T.G' rfl ?_,
   du T.G_ rfl ?_,
   iS T.Hk rfl ?_,
   iS T.GZ rfl ?_,
   iS T.G6 rfl ?_,
   du T.Hh rfl ?_,
   iS T.G5 rfl ?_,
   du T.Hf rfl ?_,
   iS T.G4 rfl ?_,
   iS T.G2 rfl ?_,
   iS T.G3 rfl ?_,
   iS T.G1 rfl ?_,
   iS T.G0 rfl ?_,
   λF e=>(H3 (k:=9) F Zd rfl rfl λg A outer s H E b=>?_:f6 P w K mg base fi _ _ _ _ (lW K mg (fnX 1 9 E8)))⟩
  all_goals try intro e
  all_goals try intro f g A outer s H E b
  all_goals repeat' first
   |((with_reducible show bp _ _ _);first
    |(with_reducible show bp _ (.BoolOp _ [_] _) _);refine aa8 ?_
    |(with_reducible show bp _ _ (I _));exact v3 _
    |(with_reducible show bp _ _ (aH (.int _)));exact MZ
    |(with_reducible show bp _ _ (aa bu _ _));refine M0 Js EO ?_ ?_ (λ_ _=>rfl)
    |(with_reducible show bp _ _ (a0 _));refine abf ?_
    |(with_reducible show bp _ _ (aH (.str _)));exact M3
    |(with_reducible show bp _ _ (aa oEq _ _));refine nf (CA b.units) EI ?_ ?_ (iG _)
    |(with_reducible show bp _ _ (b2 _ d7));refine' aaX ?_ ?_ rfl
    |(with_reducible show bp _ _ (b2 _ _));refine' aaW ?_ ?_ rfl ?_
    |(with_reducible show bp _ _ (bo _));refine aa2 ?_
    |(with_reducible show bp _ _ (aH .aF));exact aa6
    |(with_reducible show bp _ _ (aa c0 _ _));refine oG WZ Ob ?_ ?_
    |(with_reducible show bp _ _ (aa oMod _ _));refine oG W7 Oi ?_ ?_
    |(with_reducible show bp _ _ (aa er _ _));refine oG W5 Of ?_ ?_
    |(with_reducible show bp _ _ (b5 c8 _));refine tr PJ T_ rfl T.B.len F3 ?_
    |(with_reducible show bp _ _ (aa dI _ _));refine nf (KU b.units) ER ?_ ?_ (iG _)
    |(with_reducible show bp _ _ (aa d3 _ _));refine oG W8 Oj ?_ ?_
    |(with_reducible show bp _ _ (e1 _));refine aa3 ?_
    |(with_reducible show bp _ _ (aa gw _ _));refine oG Xa Om ?_ ?_
    |(with_reducible show bp _ _ (aH (.ty "tuple")));exact vZ (vw (v:=.ty "tuple") rfl T.B.tuple' F6 rfl) λ_ _=>rfl
    |(with_reducible show bp _ _ (aH (.ty "bool")));exact vZ (vw (v:=.ty "bool") rfl T.B.Pu Px rfl) λ_ _=>rfl
    |(with_reducible show bp _ _ (aH (.ty "str")));exact vZ (vw (v:=.ty "str") rfl T.B.ZJ PB rfl) λ_ _=>rfl
    |(with_reducible show bp _ _ (aH (.ty "int")));exact vZ (vw (v:=.ty "int") rfl T.B.Jh F2 rfl) λ_ _=>rfl
    |(with_reducible show bp _ _ (aH (.ty "list")));exact vZ (vw (v:=.ty "list") rfl T.B.J' F4 rfl) λ_ _=>rfl
    |(with_reducible show bp _ _ (aa fq _ _));refine nf KR EM ?_ ?_ (iG _)
    |(with_reducible show bp _ _ (b5 iR _));refine tr (PI T.kt) T9 rfl T.B.isinstance Py ?_
    |(with_reducible show bp _ _ (aH (.aM _)));exact aaV
    |(with_reducible show bp _ _ (aa gK _ _));refine nf CB zV ?_ ?_ (iG _)
    |(with_reducible show bp _ _ (hy _ _ _ _ _));refine aaZ (Ar (xs:=[_]) (by kernel_rfl)) (by decide) ?_ rfl (λ_ _ _ _=>⟨ahc rfl,rfl⟩) (λ_ _ _ _=>?_) (λ_ _ _ _=>?_) (he:=rfl) (hN:=rfl)
    |(with_reducible show bp _ _ (gq _ _ _));refine abb ?_ ?_ ?_
    |(with_reducible show bp _ _ (cX fx _));refine aa5 ?_
    |(with_reducible show bp _ _ (j3 _ _ _));refine aa0 ?_ ?_ ?_
    |(with_reducible show bp _ _ (aa ia _ _));refine oG W' Ol ?_ ?_
    |(with_reducible show bp _ _ (aa oLt _ _));refine nf KS EP ?_ ?_ (iG _)
    |(with_reducible show bp _ _ (jJ _ _));refine aaU ?_ ?_
    |(with_reducible show bp _ _ (aa kY _ _));refine nf KO EK ?_ ?_ (iG _)
    |(with_reducible show bp _ _ (aa kX _ _));refine oG W3 Oe ?_ ?_
    |(with_reducible show bp _ _ (b5 nR _));refine DL PO Ud rfl T.B.tuple' F6 ?_
    |(with_reducible show bp _ _ (aa oc _ _));refine oG W0 Od ?_ ?_
    |(with_reducible show bp _ _ (qf _ _));refine aba T.hw b.units ?_ ?_
    |(with_reducible show bp _ _ (aa (kZ false) _ _));refine nf KQ (EL false) ?_ ?_ rfl
    |(with_reducible show bp _ _ (b5 nP _));refine tr PK T' rfl T.B.len F3 ?_
    |(with_reducible show bp _ _ (b5 pb _));refine DL PH T8 rfl T.B.Jh F2 ?_
    |(with_reducible show bp _ _ (nK _ _ _));first|refine abd JQ rfl T.B.sorted ?_ (a.IK (by omega)) rfl ?_|refine M1 (k:=0) rfl (Jx (by first|exact JQ|exact JR)) rfl T.B.sorted ?_ L T.bm rfl rfl (xd (by kernel_rfl)) (λ_ _ _ _=>rfl) (λ_ _ _ _ _ _=>?_) ?_
    |(with_reducible show bp _ _ (rJ _ _ _));refine abc ?_ ?_ ?_
    |(with_reducible show bp _ _ (qe _));refine aa4 ?_
    |(with_reducible show bp _ _ (aa (pE _) _ _));refine nf (KP T.hw b.units) zU ?_ ?_ rfl
    |(with_reducible show bp _ _ (aa sN _ _));refine nf KN EJ ?_ ?_ (iG _)
    |(with_reducible show bp _ _ (b5 mL _));refine DL PL Ua rfl T.B.J' F4 ?_
    |(with_reducible show bp _ _ (aa vo _ _));refine nf (CA b.units) Og ?_ ?_ (iG _)
    |(with_reducible show bp _ _ (aa vq _ _));refine aa1 T.hw b.units ?_ ?_
    |(with_reducible show bp _ _ (aa qV _ _));refine oG W2 Oc ?_ ?_
    |(with_reducible show bp _ _ (b5 (rT jn) _));refine tr (PN rfl Uw) Uc rfl T.B.sorted F5 ?_
    |(with_reducible show bp _ _ (Ai _));refine aa7 ?_
    |(with_reducible show bp _ _ (Aj _ _));refine M4 T.yZ rfl ?_
    |(with_reducible show bp _ _ (ua _ _));refine aa9 ?_ ?_
    |(with_reducible show bp _ _ (b5 rS _));refine tr (PG rfl) T7 rfl T.B.any Pw ?_
    |(with_reducible show bp _ _ (Ah qq _ _));refine abe PySem.F.slot_str_find PySem.F.type_str_find Vg Pn Xf ?_ ?_
    |(with_reducible show bp _ _ (F_ _ _));refine M1 (k:=0) rfl Ub rfl T.B.max ?_ L T.bm rfl rfl (xd (by kernel_rfl)) (λ_ _ _ _=>rfl) (λ_ _ _ _ _ _=>?_) ?_
    |(with_reducible show bp _ _ (b5 (uu _) _));refine tr (PM rfl) T6 rfl T.B.min PA ?_)
   |((with_reducible show fQ _ _ _);first
    |(with_reducible show fQ _ _ (d7));exact DK
    |(with_reducible show fQ _ _ (bW _ _));refine vY ?_ ?_)
   |((with_reducible show eK _ _ _);first
    |(show eK _ _ (bh _));refine M8 ?_
    |(show eK _ _ (bQ _ (hy _ _ _ _ _)));refine abv (Ar (xs:=[_]) (by kernel_rfl)) (mZ (by kernel_rfl)) rfl rfl (by decide) ?_ rfl (λ_ _ _ _=>⟨ahc rfl,rfl⟩) (λ_ _ _ _=>?_) (λ_ _ _ _=>?_) (he:=rfl) (hN:=rfl)
    |(show eK _ _ (bQ _ _));refine M9 (mZ (by kernel_rfl)) rfl (by first|exact ahc rfl|exact afS rfl|exact afS (.inl rfl)|exact afS (afS rfl)) ?_
    |(show eK _ _ (bX _ _ _));refine abz ?_ ?_ ?_
    |(show eK _ _ (mE _ (hy _ _ _ _ _)));refine abu (Ar (xs:=[_]) (by kernel_rfl)) (mZ (by kernel_rfl)) rfl rfl (by decide) ?_ rfl (λ_ _ _ _=>⟨ahc rfl,rfl⟩) (λ_ _ _ _=>?_) (λ_ _ _ _=>?_) (he:=rfl) (hN:=rfl)
    |(show eK _ _ (mE _ _));refine abC (mZ (by kernel_rfl)) rfl (by first|exact ahc rfl|exact afS rfl|exact afS (.inl rfl)|exact afS (afS rfl)) ?_
    |(show eK _ _ (jf _ _ _));refine abx ahe rfl ?_ (mZ (by kernel_rfl)) rfl (by first|exact ahc rfl|exact afS rfl|exact afS (.inl rfl)|exact afS (afS rfl)) ?_
    |(show eK _ _ (qg _ _));refine abE rfl ?_ ?_
    |(show eK _ _ (kJ _ eG _));refine abA ajc ajd Ce Ki ?_ rfl (by first|exact ahc rfl|exact afS rfl|exact afS (.inl rfl)|exact afS (afS rfl))
    |(show eK _ _ (w0 _));exact abD _
    |(show eK _ _ (ub _ _));refine abF ahe ?_ ?_
    |(show eK _ _ (kJ _ y4 d7));refine abB PySem.F.slot_list_reverse PySem.F.type_list_reverse Vj U9 rfl (by first|exact ahc rfl|exact afS rfl|exact afS (.inl rfl)|exact afS (afS rfl))
    |(show eK _ _ (mD _ _ _));refine aby ahe rfl rfl T.B.enumerate ?_ ?_ ?_
    |(show eK _ _ (Af));exact abw)
   |((with_reducible show fl _ _ _);first
    |(with_reducible show fl _ _ (aO (aa oEq _ _)));refine ng (CA b.units) EI ?_ ?_ (iG _)
    |(with_reducible show fl _ _ (aO (aa dI _ _)));refine ng (KU b.units) ER ?_ ?_ (iG _)
    |(with_reducible show fl _ _ (aO (aa fq _ _)));refine ng KR EM ?_ ?_ (iG _)
    |(with_reducible show fl _ _ (aO (aa gK _ _)));refine ng CB zV ?_ ?_ (iG _)
    |(with_reducible show fl _ _ (aO (aa sN _ _)));refine ng KN EJ ?_ ?_ (iG _)
    |(with_reducible show fl _ _ (aO (aa kY _ _)));refine ng KO EK ?_ ?_ (iG _)
    |(with_reducible show fl _ _ (aO (aa oLt _ _)));refine ng KS EP ?_ ?_ (iG _)
    |(with_reducible show fl _ _ (aO (aa (kZ false) _ _)));refine ng KQ (EL false) ?_ ?_ rfl
    |(with_reducible show fl _ _ (aO (aa (pE true) _ _)));refine ng (W_ T.hw b.units) zU ?_ ?_ rfl
    |(with_reducible show fl _ _ (aO (aa (pE _) _ _)));refine ng (KP T.hw b.units) zU ?_ ?_ rfl
    |(with_reducible show fl _ _ (aO _));refine abI ?_
    |(with_reducible show fl _ _ (lZ _));refine abH ?_
    |refine kG.cM ?_)
   |((with_reducible show kG _ _ _);first
    |(with_reducible show kG _ _ (ib _ _));refine abL ?_ ?_
    |(with_reducible show kG _ _ (fA _ _));refine abJ ?_ ?_
    |first|refine abM ?_|refine abK ?_)
   |((with_reducible show ek _ _ _);first
    |(with_reducible show ek _ _ (eI _));refine aco ?_
    |(with_reducible show ek _ (.BoolOp _ [_] _) _);refine acp ?_
    |(with_reducible show ek _ _ (y7 _ _));refine ach ?_ ?_
    |(with_reducible show ek _ _ (y' _ _));refine' acq ?_ ?_ rfl ?_
    |(with_reducible show ek _ _ (ih _));refine acn ?_
    |(with_reducible show ek _ _ (eB _ _));refine' aci ?_ ?_ rfl ?_
    |(with_reducible show ek _ _ (wd (.cU _)));exact ack
    |(with_reducible show ek _ _ (za _));refine acr ?_
    |(with_reducible show ek _ _ (we _));refine acm ?_
    |(with_reducible show ek _ _ (rm _ _));refine' acj ?_ ?_ rfl ?_)
   |((with_reducible show rH _ _ _);first
    |(with_reducible show rH _ _ (wo (la gK _ _)));refine acI CB zV ?_ ?_ (iG _)
    |(with_reducible show rH _ _ (gP _));refine acJ ?_)
   |((with_reducible show jG _ _ _);first
    |(with_reducible show jG _ _ (eH _));refine acd ?_
    |(with_reducible show jG _ _ (wg));exact acb
    |(with_reducible show jG _ _ (l5 _ _));refine ab9 ?_ ?_
    |(with_reducible show jG _ _ (y8 _ _));refine aca ?_ ?_)
   |((with_reducible show eS _ _ _);first
    |(show eS _ _ (bZ _));refine acC ?_
    |(show eS _ _ (gB _ _));refine acE (mZ (by kernel_rfl)) rfl (by first|exact ahc rfl|exact afS rfl|exact afS (.inl rfl)|exact afS (afS rfl)) ?_
    |(show eS _ _ (fI _ _ _));refine acz ?_ ?_ ?_
    |(show eS _ _ (kz _));refine acD ?_
    |(show eS _ _ (lb _));refine acv ?_
    |(show eS _ _ (dE eG _ _));refine DY ajc ajd Ce Ki ?_ ?_
    |(show eS _ _ (y9 _ _ _));refine acw ahe rfl ?_ (mZ (by kernel_rfl)) rfl (by first|exact ahc rfl|exact afS rfl|exact afS (.inl rfl)|exact afS (afS rfl)) ?_
    |(show eS _ _ (y_ _ _ _));refine acx ahe rfl rfl T.B.enumerate ?_ ?_ ?_
    |(show eS _ _ (oI _ _ _));refine acA ?_ ?_ ?_
    |(show eS _ _ (dE m_ _ _));refine DY PySem.F.slot_list_extend PySem.F.type_list_extend Vf U5 ?_ ?_
    |(show eS _ _ (tv _ _ _));refine acy ahe rfl ?_ (mZ (by kernel_rfl)) rfl (by first|exact ahc rfl|exact afS rfl|exact afS (.inl rfl)|exact afS (afS rfl)) ?_
    |(show eS _ _ (dE k_ _ _));refine DY ajt aju Vi U8 ?_ ?_
    |(show eS _ _ (dE rb _ d7));refine acB ajt aju Vh U7 ?_
    |(show eS _ _ (wh _ _));refine acF rfl ?_ ?_
    |(show eS _ _ (tx _ _ _));refine acu T.hw b.units ?_ ?_ ?_)
   |((with_reducible show jF _ _ _);first|exact abG|refine M' ?_|refine M_ ?_ ?_)
   |((with_reducible show jc _ _ _);first|((show jc _ _ (bP _ _));refine acG ?_ ?_)|((with_reducible show jc _ [] _);refine Nn ?_)|refine acH ?_|refine Nn ?_)
   |((with_reducible show rC _ _ _);first|exact abl|refine abm ?_)
   |((with_reducible show wM _ _ _ _);first|exact abN|refine abO (by first|exact T.ae4|exact T.ae5|exact T.ae3) rfl rfl L ?_ (vY M3 DK) ?_)
   |((with_reducible show c6 _ _);exact b.mono (by omega))
   |((with_reducible show gC _ _ _ _ _ _ _ _ _);first|exact(a.RZ (by omega))|exact(a.SF (by omega))|exact(a.SQ (by omega))|exact(a.Sb (by omega))|exact(a.R0 (by omega))|exact(a.SU (by omega))|exact(a.R3 (by omega))|exact(a.SV (by omega))|exact(a.SW (by omega))|exact(a.SX (by omega))|exact(a.SM (by omega))|exact(a.IE (by omega))|exact(a.IA (by omega))|exact(a.IH (by omega))|exact(a.SG (by omega))|exact(a.SJ (by omega))|exact(a.II (by omega))|exact(a.IF (by omega))|exact(a.IC (by omega))|exact(a.IG (by omega))|exact(a.ID (by omega))|exact(a.IB (by omega))|exact(a.SN (by omega))|exact(a.R4 (by omega))|exact(a.Sd (by omega))|exact(a.SR (by omega))|exact(a.Sa (by omega))|exact(a.R2 (by omega))|exact(a.RY (by omega))|exact(a.R9 (by omega))|exact(a.R1 (by omega))|exact(a.SO (by omega))|exact(a.SP (by omega))|exact(a.R8 (by omega))|exact(a.R6 (by omega))|exact(a.R7 (by omega))|exact(a.SS (by omega))|exact(a.R' (by omega))|exact(a.R5 (by omega))|exact(a.SH (by omega))|exact(a.R_ (by omega))|exact(a.RX (by omega))|exact(a.So (by omega))|exact a.Se _ (by omega)|exact(a.Sr (by omega))|exact(a.Ss (by omega))|exact(a.Sv (by omega))|exact(a.Sw (by omega))|exact(a.Sp (by omega))|exact(a.SD (by omega))|exact(a.Sn (by omega))|exact(a.Su (by omega))|exact(a.SA (by omega))|exact(a.Sy (by omega))|exact(a.IK (by omega))|exact(a.Sq (by omega))|exact(a.SE (by omega))|exact(a.Sf (by omega))|exact(a.Sm (by omega))|exact(a.Sz (by omega))|exact(a.Sl (by omega))|exact(a.Sx (by omega))|exact(a.Sk (by omega))|exact(a.Si (by omega))|exact(a.Sj (by omega))|exact(a.Sh (by omega))|exact(a.Sg (by omega)))
   |(first|exact Yc|refine Yb (mZ (by kernel_rfl)) rfl (by first|exact ahc rfl|exact afS rfl|exact afS (.inl rfl)|exact afS (afS rfl)) ?_|refine aaO ?_|refine aaQ ?_|refine aaP rfl T.B.range ?_|refine abg ?_|refine abk ?_|refine abh rfl T.B.range ?_|refine abi rfl T.B.range ?_|refine acs rfl T.B.range ?_|exact abr|refine abt ?_|exact acf|refine ace ?_ ?_|refine acg ?_|refine abj rfl T.B.reversed ?_)
def Cx(T:Txt P w K mg base)(F:lp K "law" "law" vL f fd):f6 P w K mg base fi 10 f fd ["script"] (lW K mg x_):=(aC T 10).Cx F (ae9 _)
end
end i_
end
set_option maxHeartbeats 1000000
namespace aY
open PySem PySem.Spec aE
@[simp] theorem adh{x y:R}:qV x y=match x.own,y.own with
 |some xs,some ys=>if xs.length+ys.length<=afe then pure (.fr (xs++ys))else bad|_,_=>bad:=rfl
def EF{α:Type}{xs:List α}{i:Int}{v:α}(h:dK xs i=some v):v∈xs:=by
 obtain⟨j,_,e,_⟩:=wV h;exact km e
def zN{α:Type}{xs:List α}{i:Int}(a:0<=i)(c:i<xs.length):∃v,dK xs i=some v:=by
 have b:i.toNat<xs.length:=by omega
 refine⟨xs[i.toNat],?_⟩;have:=jd (xs:=xs) i.toNat (v:=xs[i.toNat]) (by simp[b])
 rwa[Int.toNat_of_nonneg a]at this
end aY
namespace aY
open PySem PySem.Spec aE rx
def acY{α:Type}(xs:List α)(k:Nat):cutD xs (some (k:Int)) none=xs.drop k:=by
 unfold cutD;rw[cG.q3,cG.sZ]
 by_cases h:k<=xs.length
 .rw[ahf h]
  exact agd (by rw[afP];omega)
 .rw[Nat.min_eq_right (by omega),ajr (ae9 _),ajr (by omega),ajA]
def Gu{α:Type}(xs:List α)(k:Nat):cutD xs none (some (k:Int))=xs.take k:=by
 unfold cutD;rw[cG.q3,cG.sZ,aho,ahJ]
 by_cases h:k<=xs.length
 .rw[ahf h]
 .rw[Nat.min_eq_right (by omega),agd (ae9 _),agd (by omega)]
end aY
namespace oR
def FW(m k:Nat):Bool:=m / 2 ^ k % 2==1
end oR
namespace wD
open oR rx
def sub(x m:Nat):Bool:=(afR 6).all λk=>!FW x k||FW m k
end wD
namespace aY
open PySem PySem.Spec aE oR rx wD
def fX(k:Nat):D:=.int (k:Int)
def Kq(k:Nat):fX k=.int (k:Int):=rfl
def LZ(n:Nat):gO 0 n=(afR n).map fX:=by
 unfold gO;refine List.map_congr_left λi _=>?_
 show D.int (0+(i:Int))=.int (i:Int);rw[Int.zero_add]
theorem o5{α:Type}{t:aN->M Bool}{el:br}{U:aN}(f:α->D)(p:α->Bool)(g:α->D):∀xs:List α,(∀x∈xs,t (U.set 0 (.val (f x)))=pure (p x))->(∀x∈xs,p x=true->(el (U.set 0 (.val (f x))) >>= R.dat)=pure (g x))->
  iD t el U (xs.map f)=pure ((xs.filter p).map g)
 |[],_,_=>rfl|x::xs,o,C=>by
  have b:=o5 f p g xs (λx a=>o x (afl _ a)) λx a=>C x (afl _ a)
  rw[aft];unfold iD;rw[o x afq,pure_bind]
  cases e:p x with
  |false=>rw[if_neg afc,b,ajj (by rw[e];exact afc)]|true=>
   have h:=C x afq e;rw[if_pos rfl,<-bind_assoc,h,pure_bind,b,pure_bind,List.filter_cons_of_pos e];rfl
def Gm{α:Type}{el:br}{U:aN}(f:α->D)(g:α->D)(xs:List α)(h:∀x∈xs,(el (U.set 0 (.val (f x))) >>= R.dat)=pure (g x)):iD oy el U (xs.map f)=pure (xs.map g):=by
 have:=o5 (t:=oy) (el:=el) (U:=U) f (λ_=>true) g xs (λ_ _=>rfl) λx a _=>h x a
 rw[this]
 congr 2
 exact List.filter_eq_self.mpr λ_ _=>rfl
theorem uw{α:Type}{b:D->bc}(f:α->D)(p:α->Bool)(v:α->R)(J:aN->Prop):∀(xs:List α)(U:aN),J U->
  (∀x U,x∈xs->J U->(p x=true->b (f x) U=pure (.b0 (v x)))/\(p x=false->∃U',b (f x) U=pure (.a6 U')/\J U'))->
  (∀x,xs.find? p=some x->hk b (xs.map f) U=pure (.b0 (v x)))/\(xs.find? p=none->∃U',hk b (xs.map f) U=pure (.a6 U')/\J U')
 |[],U,h0,_=>⟨λx h=>(nomatch h),λ_=>⟨U,rfl,h0⟩⟩
 |x::xs,U,h0,step=>by
  obtain⟨i,j⟩:=step x U afq h0
  cases e:p x with
  |true=>
   rw[age e];refine⟨λy h=>?_,λh=>(nomatch h)⟩;cases h;show(b (f x) U >>= _)=_;rw[i e];rfl
  |false=>
   obtain⟨a,ao,d⟩:=j e;have c:=uw f p v J xs a d λy U g=>step y U (afl _ g)
   rw[af2 (by rw[e];exact afc)];have u:hk b ((x::xs).map f) U=hk b (xs.map f) a:=by
    show(b (f x) U >>= _)=_;rw[ao];rfl
   rw[u];exact c
end aY
namespace aY
open PySem PySem.Spec aE
mutual
def D.y5:D->Bool
 |.t xs=>decide (xs.length<=1000)&&pU xs|.l xs=>decide (xs.length<=1000)&&pU xs|.ref _=>true|.fn _=>true|.ty _=>true|.aF=>true|.aM _=>true|.int _=>true|.str _=>true
def pU:List D->Bool
 |[]=>true|x::xs=>x.y5&&pU xs
end
theorem M6:∀{xs:List D},pU xs=true↔∀x∈xs,x.y5=true
 |[]=>by simp[pU]| x::xs=>by simp[pU,M6]
theorem pe:∀{xs:List D}{n:Nat},gr xs n=true↔∀x∈xs,x.bt n=true
 |[],_=>by simp[gr]| x::xs,n=>by simp[gr,pe]
def Ok(n:Nat)(d:D):Prop:=d.bt n=true/\d.y5=true
def sP:Ok n .aF:=⟨rfl,rfl⟩
def eN{i:Int}:Ok n (.int i):=⟨rfl,rfl⟩
def Cy(h:afT x=true):Ok n (.str x):=⟨h,rfl⟩
def qX{xs:List D}(b:xs.length<=1000)(h:∀x∈xs,Ok n x):Ok (n+1) (.t xs):=
 ⟨pe.mpr λx a=>(h x a).1,by show(decide (xs.length<=1000)&&pU xs)=true;rw[decide_eq_true b,M6.mpr λx a=>(h x a).2];rfl⟩
def Ij:∀{d:D}{n m:Nat},n<=m->d.bt n=true->d.bt m=true:=by
 intro d
 induction d using D.rec (motive_2:=λds=>∀n m,n<=m->gr ds n=true->gr ds m=true)with
 |aF=>exact λ_ h=>h
 |aM _=>exact λ_ h=>h
 |int _=>exact λ_ h=>h
 |str _=>exact λ_ h=>h
 |fn _=>exact λ_ h=>h
 |ty _=>exact λ_ h=>h
 |ref _=>exact λ_ h=>h
 |t xs b=>
  intro n m a h
  cases n with
  |zero=>cases h
  |succ n=>
   cases m with
   |zero=>omega| succ m=>exact b n m (by omega) h
 |l xs b=>
  intro n m a h
  cases n with
  |zero=>cases h
  |succ n=>
   cases m with
   |zero=>omega| succ m=>exact b n m (by omega) h
 |nil=>rfl|cons x xs c e=>
  rename_i n m a h;have h:(x.bt n&&gr xs n)=true:=h;rw[afG]at h;show(x.bt m&&gr xs m)=true;rw[c a h.1,e n m a h.2];rfl
def hM(h:Ok n d)(a:n<=m):Ok m d:=⟨Ij a h.1,h.2⟩
def Cw(h:Ok n a):Ok (n+1) (.t [a]):=qX (by simp) λx b=>by rw[afj.mp b];exact h
def vu(c:Ok n a)(d:Ok n b):Ok (n+1) (.t [a,b]):=qX (by simp) (by simp only[afx];exact⟨c,d,λ_ h=>nomatch h⟩)
def pG(d:Ok n a)(e:Ok n b)(f:Ok n c):Ok (n+1) (.t [a,b,c]):=qX (by simp) (by simp only[afx];exact⟨d,e,f,λ_ h=>nomatch h⟩)
def WX(e:Ok n a)(f:Ok n b)(i:Ok n c)(g:Ok n d):Ok (n+1) (.t [a,b,c,d]):=qX (by simp) (by simp only[afx];exact⟨e,f,i,g,λ_ h=>nomatch h⟩)
def pick(P:D->Prop)(xs:List D)(c k:Int)(d:(xs.length:Int)=k)(f:0<k)(h:∀x∈xs,P x):∃v,dK xs (c % k)=some v/\P v:=by
 have b:=mod_lt (a:=c) f;obtain⟨v,e⟩:=zN (xs:=xs) (i:=c % k) b.1 (by rw[d];exact b.2);exact⟨v,e,h v (EF e)⟩
@[simp] theorem adH:R.ka (.bF xs)=false:=rfl
@[simp] theorem adE:R.ka (.v (.l xs))=false:=rfl
@[simp] theorem adB:R.ka (.v (.aM b))=false:=rfl
@[simp] theorem adX{z:Str}:nP [.v (.str z)]=if z.length<=afe then pure (.v (.int (z.length:Nat)))else bad:=rfl
@[simp] theorem adi{x y:Str}:oc (.v (.str x)) (.v (.str y))=if x.length+y.length<=afe then pure (.v (.str (x++y)))else bad:=rfl
def eq_str(h:afT x=true):oEq (.v (.str x)) (.v (.str x))=pure (.v (.aM true)):=by rw[nN (x:=.v (.str x)) (y:=.v (.str x)) h h];simp[cP]
mutual
theorem pJ:∀{d:D}{n:Nat},d.bt n=true->cP d d=true
 |.aF,_,_=>rfl| .aM _,_,_=>by simp[cP]| .int _,_,_=>by simp[cP]| .str _,_,_=>by simp[cP]|.t xs,n,h=>by
  cases n with
  |zero=>cases h
  |succ k=>exact CK (xs:=xs) (n:=k) h
 |.l xs,n,h=>by
  cases n with
  |zero=>cases h
  |succ k=>exact CK (xs:=xs) (n:=k) h
 |.ref _,_,h=>by cases h
 |.fn _,_,h=>by cases h
 |.ty _,_,h=>by cases h
theorem CK:∀{xs:List D}{n:Nat},gr xs n=true->iH xs xs=true
 |[],_,_=>rfl|x::xs,n,h=>by
  have h:=pe.mp h;unfold iH;rw[afG];exact⟨pJ (h x afq),CK (pe.mpr λy a=>h y (afl _ a))⟩
end
@[simp] theorem aev:nK Z mf ma U=(do
 let x <-ma U
 nQ Z mf x):=rfl
end aY
namespace aY
open PySem PySem.Spec aE PyProof.Rows
section
variable{Q:agu}[DecidableEq Q.α]
def jX(Q:agu)(l:List (Q.α×D)):Prop:=l.Pairwise λa b=>Q.blt a.1 b.1=true
def jX.nodup{l:List (Q.α×D)}(h:jX Q l):(l.map (·.1)).Nodup:=by
 rw[List.nodup_iff_pairwise_ne,aiL];refine List.Pairwise.imp (λ{a b} h e=>?_) h;rw[e,Q.irrefl]at h;cases h
def hj(l:List (Q.α×D))(a:Q.α):List (Q.α×D):=l.filter λq=>!decide (q.1=a)
def jr(l:List (Q.α×D))(p:Q.α×D):List (Q.α×D):=hj l p.1++[p]
def kk(l:List (Q.α×D))(p:Q.α×D):List (Q.α×D):=ht Q.blt (jr l p)
def dB(l:List (Q.α×D))(a:Q.α):Option D:=(l.find? λq=>decide (q.1=a)).map (·.2)
def AB{l:List (Q.α×D)}(a:Q.α)(h:(l.map (·.1)).Nodup):((hj l a).map (·.1)).Nodup:=h.sublist (List.filter_sublist.map _)
def ql{l:List (Q.α×D)}{a:Q.α}{x:Q.α×D}:x∈hj l a↔x∈l/\x.1≠a:=by
 unfold hj;rw[ajk];simp
def w5(l:List (Q.α×D))(a:Q.α):(hj l a).length<=l.length:=ah4 _ _
def vE{l:List (Q.α×D)}(p:Q.α×D)(h:(l.map (·.1)).Nodup):((jr l p).map (·.1)).Nodup:=by
 unfold jr;rw[afo,aiK];refine⟨AB _ h,by simp,λa e b c=>?_⟩;obtain⟨x,d,rfl⟩:=agz.mp e;rw[show b=p.1 by simpa using c];exact(ql.mp d).2
def vD{l:List (Q.α×D)}{p x:Q.α×D}:x∈jr l p↔(x∈l/\x.1≠p.1)\/x=p:=by
 unfold jr;rw[afZ,ql,afj]
def yF(l:List (Q.α×D))(p:Q.α×D):(jr l p).length<=l.length+1:=by
 unfold jr;rw[afb,afw];have:=w5 l p.1;omega
def CZ{l:List (Q.α×D)}(p:Q.α×D)(h:(l.map (·.1)).Nodup):jX Q (kk l p):=Dr Q _ (vE p h)
def oj{l:List (Q.α×D)}{p x:Q.α×D}:x∈kk l p↔(x∈l/\x.1≠p.1)\/x=p:=by
 unfold kk;rw[(yK _ _).mem_iff,vD]
def Q5{l:List (Q.α×D)}(b:(l.map (·.1)).Nodup)(a:x∈l):l.find? (λq=>decide (q.1=x.1))=some x:=by
 induction l with
 |nil=>cases a
 |cons y l c=>
  rw[aft,ags]at b;rcases afz.mp a with rfl|a
  .rw[age (by simp)]
  .have d:¬y.1=x.1:=λh=>b.1 (by rw[h];exact ahy a)
   rw[af2 (by simpa using d)];exact c b.2 a
def A0{l:List (Q.α×D)}(b:(l.map (·.1)).Nodup)(a:x∈l):dB l x.1=some x.2:=by
 unfold dB;rw[Q5 b a];rfl
def r0{l:List (Q.α×D)}{a:Q.α}{d:D}(h:dB l a=some d):(a,d)∈l:=by
 unfold dB at h;obtain⟨x,b,rfl⟩:=afF.mp h;have c:=aiV b;have e:x.1=a:=by have:=List.find?_some b;simpa using this
 rw[<-e];exact c
def Il{l:List (Q.α×D)}(b:(l.map (·.1)).Nodup):dB l a=some d↔(a,d)∈l:=⟨r0,λh=>A0 b h⟩
def Rx{l l':List (Q.α×D)}(b:(l'.map (·.1)).Nodup)(h:∀d,(a,d)∈l'↔o=some d):dB l' a=o:=by
 cases o with
 |some d=>exact(Il b).mpr ((h d).mpr rfl)|none=>
  cases e:dB l' a with
  |none=>rfl|some d=>exact((h d).mp (r0 e)).symm
def Im{l:List (Q.α×D)}(p:Q.α×D)(b:(l.map (·.1)).Nodup)(a:Q.α):dB (kk l p) a=if a=p.1 then some p.2 else dB l a:=
 Rx (l:=l) (CZ p b).nodup fun d=>by
  rw[oj]
  by_cases e:a=p.1
  .rw[if_pos e]
   constructor
   .rintro(⟨_,h⟩|h)
    .exact absurd e h
    .rw[<-h]
   .intro h
    refine .inr ?_;cases p;cases h;rw[e]
  .rw[if_neg e,Il b]
   constructor
   .rintro(⟨h,_⟩|h)
    .exact h
    .rw[<-h]at e;exact absurd rfl e
   .exact λh=>.inl ⟨h,e⟩
def AD(b:Q.α)(h:jX Q l):jX Q (hj l b):=List.Pairwise.sublist List.filter_sublist h
def Mk(h:jX Q l):ht Q.blt l=l:=(Ds Q h.nodup (.refl _) h).symm
def Ez(h:l.Nodup):jH Q.blt l=true:=by
 induction l with
 |nil=>rfl|cons a r c=>
  rw[ags]at h;unfold jH;rw[c h.2,ajC,af4];intro b d
  cases ao:Q.blt a b with
  |true=>rfl|false=>
   cases aG:Q.blt b a with
   |true=>rfl|false=>exact absurd (Q.total a b ao aG▸d) h.1
end
section
variable{Z:fu}[DecidableEq Z.κ.α]
theorem JO(b:∀a,Z.un (Z.a7 a)=some a){mf:bV}:∀{l:List (Z.κ.α×D)},(∀x∈l,mf [x.2]=pure (.v (Z.a7 x.1)))->keysOf Z mf (l.map (·.2))=some (l.map (·.1))
 |[],_=>rfl|x::l,h=>by
  have e:xM Z mf x.2=some x.1:=by
   unfold xM;rw[h x afq];exact b x.1
  rw[aft,aft];unfold keysOf;rw[e,JO b λy c=>h y (afl _ c)]
theorem zip_rows{α a:Type}:∀l:List (α×a),(l.map (·.1)).zip (l.map (·.2))=l
 |[]=>rfl| x::l=>by rw[aft,aft,agL,zip_rows l]
def yL(e:∀a,Z.un (Z.a7 a)=some a){mf:bV}{l:List (Z.κ.α×D)}(h:∀x∈l,mf [x.2]=pure (.v (Z.a7 x.1))){r:R}(b:r.fp=some (l.map (·.2)))(c:(l.map (·.1)).Nodup)(d:l.length<64) :
  nQ Z mf r=pure (.fr ((ht Z.κ.blt l).map (·.2))):=by
 unfold nQ;rw[b];dsimp only;rw[JO e h];dsimp only;rw[if_pos ⟨Ez (Q:=Z.κ.toKeyOrd) c,by rw[sg];exact d⟩,zip_rows]
end
end aY
namespace aY
open PySem PySem.Spec aE
abbrev dq:=jn.κ.toKeyOrd
def bC(a:List Nat):Str:=⟨a.toArray⟩
abbrev cd(s:Str):List Nat:=s.cps.toList
def Gb(a:List Nat):cd (bC a)=a:=rfl
def MK(a:List Nat):jn.un (jn.a7 a)=some a:=rfl
def sk(a:List Nat):jn.a7 a=.str (bC a):=rfl
def MI:bC a=bC b↔a=b:=⟨λh=>by rw[<-Gb a,h,Gb],λh=>by rw[h]⟩
def HU(d:afT (bC a)=true)(c:afT (bC b)=true):oEq (.v (.str (bC a))) (.v (.str (bC b)))=pure (.v (.aM (decide (a=b)))):=by
 rw[nN (x:=.v (.str (bC a))) (y:=.v (.str (bC b))) d c];show pure (R.v (D.aM (bC a==bC b)))=_
 congr 3
 rw[ajm,beq_iff_eq,decide_eq_true_eq,MI]
def Kw(d:afT (bC a)=true)(c:afT (bC b)=true):dI (.v (.str (bC a))) (.v (.str (bC b)))=pure (.v (.aM (!decide (a=b)))):=by
 rw[w9 (x:=.v (.str (bC a))) (y:=.v (.str (bC b))) d c];show pure (R.v (D.aM (!(bC a==bC b))))=_
 congr 4
 rw[ajm,beq_iff_eq,decide_eq_true_eq,MI]
def jZ(a:List Nat):Prop:=afT (bC a)=true/\1<=a.length/\a.length<=8
def ZK:afT (bC a)=true↔∀c∈a,c<0x110000:=by
 unfold afT bC;rw[List.all_toArray,af4];simp
def pQ(a:List Nat):(bC a).length=a.length:=by
 show a.toArray.size=_;simp
def aau(a b:List Nat):bC a++bC b=bC (a++b):=by
 show(⟨a.toArray++b.toArray⟩:Str)=_;unfold bC;simp
def P5(a:List Nat)(lo hi:Option Int):o6 (bC a) lo hi=bC (cutD a lo hi):=rfl
def P7{α:Type}(xs:List α)(k:Nat)(h:k<=xs.length):cutD xs none (some (k:Int))=xs.take k:=by
 unfold cutD;rw[cG.q3,cG.sZ,aho,ahJ,ahf h]
def P8{α:Type}(xs:List α)(k:Nat)(h:k<=xs.length):cutD xs (some (k:Int)) none=xs.drop k:=by
 unfold cutD;rw[cG.q3,cG.sZ,ahf h,agd (by rw[afP];omega)]
def Vt:(("add":Str) == "put")=false:=by decide +kernel
def Wy:(("swap":Str) == "put")=false:=by decide +kernel
def Wx:(("swap":Str) == "add")=false:=by decide +kernel
def WA:(("take":Str) == "put")=false:=by decide +kernel
def Wz:(("take":Str) == "add")=false:=by decide +kernel
def WB:(("take":Str) == "swap")=false:=by decide +kernel
def Wn:(("renew":Str) == "put")=false:=by decide +kernel
def Wm:(("renew":Str) == "add")=false:=by decide +kernel
def Wo:(("renew":Str) == "swap")=false:=by decide +kernel
def Wq:(("renew":Str) == "take")=false:=by decide +kernel
def Wb:(("free":Str) == "put")=false:=by decide +kernel
def Wa:(("free":Str) == "add")=false:=by decide +kernel
def Wd:(("free":Str) == "swap")=false:=by decide +kernel
def We:(("free":Str) == "take")=false:=by decide +kernel
def Wc:(("free":Str) == "renew")=false:=by decide +kernel
def Wt:(("sure":Str) == "put")=false:=by decide +kernel
def Wr:(("sure":Str) == "add")=false:=by decide +kernel
def Wv:(("sure":Str) == "swap")=false:=by decide +kernel
def Ww:(("sure":Str) == "take")=false:=by decide +kernel
def Wu:(("sure":Str) == "renew")=false:=by decide +kernel
def Ws:(("sure":Str) == "free")=false:=by decide +kernel
def Wh:(("move":Str) == "put")=false:=by decide +kernel
def Wf:(("move":Str) == "add")=false:=by decide +kernel
def Wk:(("move":Str) == "swap")=false:=by decide +kernel
def Wl:(("move":Str) == "take")=false:=by decide +kernel
def Wi:(("move":Str) == "renew")=false:=by decide +kernel
def Wg:(("move":Str) == "free")=false:=by decide +kernel
def Wj:(("move":Str) == "sure")=false:=by decide +kernel
def V7:(("end":Str) == "put")=false:=by decide +kernel
def V4:(("end":Str) == "add")=false:=by decide +kernel
def V_:(("end":Str) == "swap")=false:=by decide +kernel
def V':(("end":Str) == "take")=false:=by decide +kernel
def V8:(("end":Str) == "renew")=false:=by decide +kernel
def V5:(("end":Str) == "free")=false:=by decide +kernel
def V9:(("end":Str) == "sure")=false:=by decide +kernel
def V6:(("end":Str) == "move")=false:=by decide +kernel
def Vu:(("do_add":Str) == "do_put")=false:=by decide +kernel
def V0:(("do_swap":Str) == "do_put")=false:=by decide +kernel
def VZ:(("do_swap":Str) == "do_add")=false:=by decide +kernel
def V2:(("do_take":Str) == "do_put")=false:=by decide +kernel
def V1:(("do_take":Str) == "do_add")=false:=by decide +kernel
def V3:(("do_take":Str) == "do_swap")=false:=by decide +kernel
def VQ:(("do_renew":Str) == "do_put")=false:=by decide +kernel
def VP:(("do_renew":Str) == "do_add")=false:=by decide +kernel
def VR:(("do_renew":Str) == "do_swap")=false:=by decide +kernel
def VS:(("do_renew":Str) == "do_take")=false:=by decide +kernel
def VE:(("do_free":Str) == "do_put")=false:=by decide +kernel
def VD:(("do_free":Str) == "do_add")=false:=by decide +kernel
def VG:(("do_free":Str) == "do_swap")=false:=by decide +kernel
def VH:(("do_free":Str) == "do_take")=false:=by decide +kernel
def VF:(("do_free":Str) == "do_renew")=false:=by decide +kernel
def VV:(("do_sure":Str) == "do_put")=false:=by decide +kernel
def VT:(("do_sure":Str) == "do_add")=false:=by decide +kernel
def VX:(("do_sure":Str) == "do_swap")=false:=by decide +kernel
def VY:(("do_sure":Str) == "do_take")=false:=by decide +kernel
def VW:(("do_sure":Str) == "do_renew")=false:=by decide +kernel
def VU:(("do_sure":Str) == "do_free")=false:=by decide +kernel
def VK:(("do_move":Str) == "do_put")=false:=by decide +kernel
def VI:(("do_move":Str) == "do_add")=false:=by decide +kernel
def VN:(("do_move":Str) == "do_swap")=false:=by decide +kernel
def VO:(("do_move":Str) == "do_take")=false:=by decide +kernel
def VL:(("do_move":Str) == "do_renew")=false:=by decide +kernel
def VJ:(("do_move":Str) == "do_free")=false:=by decide +kernel
def VM:(("do_move":Str) == "do_sure")=false:=by decide +kernel
def Vy:(("do_end":Str) == "do_put")=false:=by decide +kernel
def Vv:(("do_end":Str) == "do_add")=false:=by decide +kernel
def VB:(("do_end":Str) == "do_swap")=false:=by decide +kernel
def VC:(("do_end":Str) == "do_take")=false:=by decide +kernel
def Vz:(("do_end":Str) == "do_renew")=false:=by decide +kernel
def Vw:(("do_end":Str) == "do_free")=false:=by decide +kernel
def VA:(("do_end":Str) == "do_sure")=false:=by decide +kernel
def Vx:(("do_end":Str) == "do_move")=false:=by decide +kernel
end aY
namespace i_
open PySem PySem.Spec aE aY
def oL(x:Int×D):Prop:=∃n z:D,x.2=.t [.int x.1,n,z]
def oL.eE{x:Int×D}(h:oL x):bu (.v x.2) (.v (.int 0))=pure (.v (.int x.1)):=by
 obtain⟨n,z,e⟩:=h;rw[e];simp
def oL.slot{x:Int×D}(h:oL x):c3 x.2=.val x.2:=by
 obtain⟨n,z,e⟩:=h;rw[e];rfl
def Ay{l:List (Int×D)}(h:∀x∈l,oL x)(c le bA:D)(a:Int):qQ [.t [c,.t (l.map (·.2)),le,bA],.int a]=pure (.v ((dB (Q:=fo.κ.toKeyOrd) l a).getD (.t [.int a,.int 0,.aF]))):=by
 have L:=uw (b:=λd U=>xP (U.set 2 (.val d))) (λx:Int×D=>x.2) (λx=>decide (x.1=a)) (λx=>.v x.2) (λU=>∃f,U=[.val (.t [c,.t (l.map (·.2)),le,bA]),.val (.int a),f]) l [.val (.t [c,.t (l.map (·.2)),le,bA]),.val (.int a),.emp] ⟨_,rfl⟩
  (λx U g ⟨f,aw⟩=>by
   subst aw;have eE:=(h x g).eE;refine⟨λq=>?_,λq=>⟨[.val (.t [c,.t (l.map (·.2)),le,bA]),.val (.int a),.val x.2],?_,_,rfl⟩⟩
   .have q:x.1=a:=of_decide_eq_true q
    simp only[xP];simp[eE,q]
   .have q:¬x.1=a:=of_decide_eq_false q
    simp only[xP];simp[eE,q])
 simp only[qQ,E0,E1];unfold dB
 cases e:l.find? (λx=>decide (x.1=a))with
 |some x=>
  have:=L.1 x e;simp[this]
 |none=>
  obtain⟨U',i,f,rfl⟩:=L.2 e;simp[i]
def xV{x:Int×D}(h:oL x):fnOf 1 1 (bh (aI 0 0)) [x.2]=pure (.v (.int x.1)):=by
 have:=h.eE;simp[h.slot,this]
def abp{l:List (Int×D)}(h:∀x∈l,oL x)(e:(l.map (·.1)).Nodup)(j:l.length<63)(c le bA:D)(a:Int)(n z:D)(aC:c3 n=.val n)(hz:c3 z=.val z) :
  ye [.t [c,.t (l.map (·.2)),le,bA],.int a,n,z]=pure (.v (.t [c,.t ((kk (Q:=fo.κ.toKeyOrd) l (a,.t [.int a,n,z])).map (·.2)),le,bA])):=by
 have cX:iD (aO (aa dI (aI 0 0) (I 1))) (I 0) [.emp,.val (.int a)] (l.map (·.2))=pure ((hj (Q:=fo.κ.toKeyOrd) l a).map (·.2)):=
  o5 (λx:Int×D=>x.2) (λx=>!decide (x.1=a)) (λx=>x.2) l (λx b=>by
   have eE:=(h x b).eE;simp[eE];rfl) λx _ _=>by simp
 have g:l.length<afe:=f3 (by omega);have dl:=w5 (Q:=fo.κ.toKeyOrd) l a;have f:(hj (Q:=fo.κ.toKeyOrd) l a).length<afe:=f3 (by omega);have de:=yL (Z:=fo) (λ_=>rfl) (mf:=fnOf 1 1 (bh (aI 0 0))) (l:=jr (Q:=fo.κ.toKeyOrd) l (a,.t [.int a,n,z])) (λx b=>by
  rcases(vD (Q:=fo.κ.toKeyOrd)).mp b with⟨b,_⟩|rfl
  .exact xV (h x b)
  .exact xV ⟨n,z,rfl⟩) (r:=.mv ((hj (Q:=fo.κ.toKeyOrd) l a).map (·.2)++[.t [.int a,n,z]])) (by
   show some _=some _;unfold jr;rw[afo];rfl) (vE _ e) (by have:=yF (Q:=fo.κ.toKeyOrd) l (a,.t [.int a,n,z]);omega)
 have i:∀(d:br)(U:aN)(mf:bV),nK fo mf d U=(do let x <-d U;nQ fo mf x):=λ_ _ _=>rfl
 simp only[ye,FI,FJ,FK];unfold kk;simp[aC,hz,cX,g,f,de,i]
abbrev nD:=List (List Nat×D)
def jy(x:List Nat×D):Prop:=jZ x.1/\∃n:Int,n≠0/\x.2=.t [.str (bC x.1),.int n]
def jy.eE(h:jy x):bu (.v x.2) (.v (.int 0))=pure (.v (.str (bC x.1))):=by
 obtain⟨_,n,_,e⟩:=h;rw[e];simp
def jy.slot(h:jy x):c3 x.2=.val x.2:=by
 obtain⟨_,n,_,e⟩:=h;rw[e];rfl
def gT:Option D->Int
 |some (.t [_,.int n])=>n|_=>0
def Al{l:nD}(h:∀x∈l,jy x)(d le bA:D)(g:jZ a):sv [.t [.t (l.map (·.2)),d,le,bA],.str (bC a)]=pure (.v (.int (gT (dB (Q:=dq) l a)))):=by
 have L:=uw (b:=λd U=>xO (U.set 2 (.val d))) (λx:List Nat×D=>x.2) (λx=>decide (x.1=a)) (λx=>.v (.int (gT (some x.2)))) (λU=>∃f,U=[.val (.t [.t (l.map (·.2)),d,le,bA]),.val (.str (bC a)),f]) l [.val (.t [.t (l.map (·.2)),d,le,bA]),.val (.str (bC a)),.emp] ⟨_,rfl⟩
  (λx U c ⟨f,aw⟩=>by
   subst aw;have eE:=(h x c).eE;have eq:=HU (h x c).1.1 g.1;obtain⟨_,n,_,e⟩:=h x c;refine⟨λq=>?_,λq=>⟨[.val (.t [.t (l.map (·.2)),d,le,bA]),.val (.str (bC a)),.val x.2],?_,_,rfl⟩⟩
   .rw[q]at eq
    simp only[xO];rw[e]at eE ⊢;simp[eE,eq,gT]
   .rw[q]at eq
    simp only[xO];simp[eE,eq])
 simp only[sv,ET,EU];unfold dB
 cases e:l.find? (λx=>decide (x.1=a))with
 |some x=>
  have:=L.1 x e;simp[this]
 |none=>
  obtain⟨U',i,f,rfl⟩:=L.2 e;simp[i,gT]
def BL(h:jy x):fnOf 1 1 (bh (aI 0 0)) [x.2]=pure (.v (jn.a7 x.1)):=by
 have:=h.eE;rw[sk];simp[h.slot,this]
def ie(l:nD)(a:List Nat)(n:Int):nD:=if n=0 then hj (Q:=dq) l a else kk (Q:=dq) l (a,.t [.str (bC a),.int n])
def aaS(h:jX dq l)(a:List Nat)(n:Int):jX dq (ie l a n):=by
 unfold ie;split
 .exact AD a h
 .exact CZ _ h.nodup
def aaT(h:∀x∈l,jy x)(c:jZ a)(n:Int):∀x∈ie l a n,jy x:=λx b=>by
 unfold ie at b;split at b
 .exact h x ((ql (Q:=dq)).mp b).1
 .rename_i q
  rcases(oj (Q:=dq)).mp b with⟨b,_⟩|rfl
  .exact h x b
  .exact⟨c,n,q,rfl⟩
def y6{l:nD}(h:∀x∈l,jy x)(c:jX dq l)(k:l.length<63)(d le bA:D)(e:jZ a)(n:Int) :
  qS [.t [.t (l.map (·.2)),d,le,bA],.str (bC a),.int n]=pure (.v (.t [.t ((ie l a n).map (·.2)),d,le,bA])):=by
 have cX:iD (aO (aa dI (aI 0 0) (I 1))) (I 0) [.emp,.val (.str (bC a))] (l.map (·.2))=pure ((hj (Q:=dq) l a).map (·.2)):=
  o5 (λx:List Nat×D=>x.2) (λx=>!decide (x.1=a)) (λx=>x.2) l (λx b=>by
   have eE:=(h x b).eE;have ne:=Kw (h x b).1.1 e.1;simp[eE,ne]) λx _ _=>by simp
 have g:l.length<afe:=f3 (by omega);have dl:=w5 (Q:=dq) l a;have f:(hj (Q:=dq) l a).length<afe:=f3 (by omega);have j:∀(i:br)(U:aN)(mf:bV),nK jn mf i U=(do let x <-i U;nQ jn mf x):=λ_ _ _=>rfl
 simp only[qS,FF,FG,FH];unfold ie
 by_cases q:n=0
 .have de:=yL (Z:=jn) MK (mf:=fnOf 1 1 (bh (aI 0 0))) (l:=hj (Q:=dq) l a) (λx b=>BL (h x ((ql (Q:=dq)).mp b).1)) (r:=.mv ((hj (Q:=dq) l a).map (·.2))) rfl (AB a c.nodup) (by omega)
  rw[Mk (Q:=dq) (AD a c)]at de;rw[if_pos q];simp[q,cX,g,f,de,j]
 .have de:=yL (Z:=jn) MK (mf:=fnOf 1 1 (bh (aI 0 0))) (l:=jr (Q:=dq) l (a,.t [.str (bC a),.int n])) (λx b=>by
   rcases(vD (Q:=dq)).mp b with⟨b,_⟩|rfl
   .exact BL (h x b)
   .exact BL ⟨e,n,q,rfl⟩) (r:=.mv ((hj (Q:=dq) l a).map (·.2)++[.t [.str (bC a),.int n]])) (by
    show some _=some _;unfold jr;rw[afo];rfl) (vE _ c.nodup) (by have:=yF (Q:=dq) l (a,.t [.str (bC a),.int n]);omega)
  rw[if_neg q];unfold kk;simp[q,cX,g,f,de,j]
def abq(c d le bA f t:D)(b:c3 f=.val f)(a:c3 t=.val t):yf [.t [c,d,le,bA],f,t]=pure (.v (.t [c,d,.t [f,t],bA])):=by
 simp[yf,FL,b,a]
def DM(c d le bA s:D)(aC:c3 s=.val s):sJ [.t [c,d,le,bA],s]=pure (.v (.t [c,d,le,s])):=by
 simp[sJ,FN,aC]
def nI(x:D)(ds:List D):dK (x::ds) 0=some x:=jd 0 rfl
def aae:g5.lookup ("put":Str)=some ("do_put":Str):=by
 unfold g5;simp only[afs,beq_self_eq_true]
def Rb:hD.lookup ("do_put":Str)=some u7:=by
 unfold hD;simp only[afs,beq_self_eq_true]
def Xo{s a r:D}(aC:c3 s=.val s)(b:c3 a=.val a)(h:u7 [s,a,.t (.str "put"::ds)]=pure (.v r)):eX [s,a,.t (.str "put"::ds)]=pure (.v r):=by
 simp only[eX,mz,mA];simp[aC,b,nI,aae,Rb,h]
def aaa:g5.lookup ("add":Str)=some ("do_add":Str):=by
 unfold g5;simp only[afs,beq_self_eq_true,Vt]
def Q9:hD.lookup ("do_add":Str)=some u4:=by
 unfold hD;simp only[afs,beq_self_eq_true,Vu]
def Xg{s a r:D}(aC:c3 s=.val s)(b:c3 a=.val a)(h:u4 [s,a,.t (.str "add"::ds)]=pure (.v r)):eX [s,a,.t (.str "add"::ds)]=pure (.v r):=by
 simp only[eX,mz,mA];simp[aC,b,nI,aaa,Q9,h]
def aah:g5.lookup ("swap":Str)=some ("do_swap":Str):=by
 unfold g5;simp only[afs,beq_self_eq_true,Wy,Wx]
def Rf:hD.lookup ("do_swap":Str)=some sA:=by
 unfold hD;simp only[afs,beq_self_eq_true,V0,VZ]
def Xr{s a r:D}(aC:c3 s=.val s)(b:c3 a=.val a)(h:sA [s,a,.t (.str "swap"::ds)]=pure (.v r)):eX [s,a,.t (.str "swap"::ds)]=pure (.v r):=by
 simp only[eX,mz,mA];simp[aC,b,nI,aah,Rf,h]
def aai:g5.lookup ("take":Str)=some ("do_take":Str):=by
 unfold g5;simp only[afs,beq_self_eq_true,WA,Wz,WB]
def Rg:hD.lookup ("do_take":Str)=some sC:=by
 unfold hD;simp only[afs,beq_self_eq_true,V2,V1,V3]
def Xs{s a r:D}(aC:c3 s=.val s)(b:c3 a=.val a)(h:sC [s,a,.t (.str "take"::ds)]=pure (.v r)):eX [s,a,.t (.str "take"::ds)]=pure (.v r):=by
 simp only[eX,mz,mA];simp[aC,b,nI,aai,Rg,h]
def aaf:g5.lookup ("renew":Str)=some ("do_renew":Str):=by
 unfold g5;simp only[afs,beq_self_eq_true,Wn,Wm,Wo,Wq]
def Rc:hD.lookup ("do_renew":Str)=some sy:=by
 unfold hD;simp only[afs,beq_self_eq_true,VQ,VP,VR,VS]
def Xp{s a r:D}(aC:c3 s=.val s)(b:c3 a=.val a)(h:sy [s,a,.t (.str "renew"::ds)]=pure (.v r)):eX [s,a,.t (.str "renew"::ds)]=pure (.v r):=by
 simp only[eX,mz,mA];simp[aC,b,nI,aaf,Rc,h]
def aac:g5.lookup ("free":Str)=some ("do_free":Str):=by
 unfold g5;simp only[afs,beq_self_eq_true,Wb,Wa,Wd,We,Wc]
def Q':hD.lookup ("do_free":Str)=some sx:=by
 unfold hD;simp only[afs,beq_self_eq_true,VE,VD,VG,VH,VF]
def Xl{s a r:D}(aC:c3 s=.val s)(b:c3 a=.val a)(h:sx [s,a,.t (.str "free"::ds)]=pure (.v r)):eX [s,a,.t (.str "free"::ds)]=pure (.v r):=by
 simp only[eX,mz,mA];simp[aC,b,nI,aac,Q',h]
def aag:g5.lookup ("sure":Str)=some ("do_sure":Str):=by
 unfold g5;simp only[afs,beq_self_eq_true,Wt,Wr,Wv,Ww,Wu,Ws]
def Rd:hD.lookup ("do_sure":Str)=some sz:=by
 unfold hD;simp only[afs,beq_self_eq_true,VV,VT,VX,VY,VW,VU]
def Xq{s a r:D}(aC:c3 s=.val s)(b:c3 a=.val a)(h:sz [s,a,.t (.str "sure"::ds)]=pure (.v r)):eX [s,a,.t (.str "sure"::ds)]=pure (.v r):=by
 simp only[eX,mz,mA];simp[aC,b,nI,aag,Rd,h]
def aad:g5.lookup ("move":Str)=some ("do_move":Str):=by
 unfold g5;simp only[afs,beq_self_eq_true,Wh,Wf,Wk,Wl,Wi,Wg,Wj]
def Ra:hD.lookup ("do_move":Str)=some u6:=by
 unfold hD;simp only[afs,beq_self_eq_true,VK,VI,VN,VO,VL,VJ,VM]
def Xm{s a r:D}(aC:c3 s=.val s)(b:c3 a=.val a)(h:u6 [s,a,.t (.str "move"::ds)]=pure (.v r)):eX [s,a,.t (.str "move"::ds)]=pure (.v r):=by
 simp only[eX,mz,mA];simp[aC,b,nI,aad,Ra,h]
def aab:g5.lookup ("end":Str)=some ("do_end":Str):=by
 unfold g5;simp only[afs,beq_self_eq_true,V7,V4,V_,V',V8,V5,V9,V6]
def Q_:hD.lookup ("do_end":Str)=some u5:=by
 unfold hD;simp only[afs,beq_self_eq_true,Vy,Vv,VB,VC,Vz,Vw,VA,Vx]
def Xj{s a r:D}(aC:c3 s=.val s)(b:c3 a=.val a)(h:u5 [s,a,.t (.str "end"::ds)]=pure (.v r)):eX [s,a,.t (.str "end"::ds)]=pure (.v r):=by
 simp only[eX,mz,mA];simp[aC,b,nI,aab,Q_,h]
section
variable{l:nD}(h:∀x∈l,jy x)(aA:jX dq l)(hl:l.length<63)(d le bA:D){a:List Nat}(au:jZ a)(n i:Int)
include h aA hl au
theorem Xx:eX [.t [.t (l.map (·.2)),d,le,bA],.int i,.t [.str "put",.str (bC a),.int n]]=pure (.v (.t [.t [.t ((ie l a n).map (·.2)),d,le,bA],.int (gT (dB (Q:=dq) l a))])):=
 Xo rfl rfl (by
  have ao:=y6 h aA hl d le bA au n;have aG:=Al h d le bA au;simp[u7,EZ,ao,aG])
theorem Xt:eX [.t [.t (l.map (·.2)),d,le,bA],.int i,.t [.str "add",.str (bC a),.int n]]=pure (.v (.t [.t [.t ((ie l a (gT (dB (Q:=dq) l a)+n)).map (·.2)),d,le,bA],.int (gT (dB (Q:=dq) l a)+n)])):=
 Xg rfl rfl (by
  have ao:=y6 h aA hl d le bA au (gT (dB (Q:=dq) l a)+n);have aG:=Al h d le bA au;simp[u4,EV,EW,ao,aG])
theorem XA(o:Int):eX [.t [.t (l.map (·.2)),d,le,bA],.int i,.t [.str "swap",.str (bC a),.int o,.int n]]=pure (.v (if gT (dB (Q:=dq) l a)=o then .t [.t [.t ((ie l a n).map (·.2)),d,le,bA],.int 1]else .t [.t [.t (l.map (·.2)),d,le,bA],.int 0])):=
 Xr rfl rfl (by
  have ao:=y6 h aA hl d le bA au n;have aG:=Al h d le bA au
  by_cases q:gT (dB (Q:=dq) l a)=o
  .rw[if_pos q]
   simp[sA,z2,z3,ao,aG,q]
  .rw[if_neg q]
   simp[sA,z2,z3,ao,aG,q])
theorem Xz(f g:Int)(t:D)(b:t.bt 63=true):eX [.t [.t (l.map (·.2)),d,.t [.int f,t],bA],.int i,.t [.str "sure",.int g,.str (bC a),.int n]]=pure (.v (if(f==g&&cP t (.int i))=true then .t [.t [.t ((ie l a n).map (·.2)),d,.t [.int f,t],bA],.int 1]else .t [.t [.t (l.map (·.2)),d,.t [.int f,t],bA],.int 0])):=
 Xq rfl rfl (by
  have ao:=y6 h aA hl d (.t [.int f,t]) bA au n;have ne:dI (.v (.t [.int f,t])) (.v (.t [.int g,.int i]))=pure (.v (.aM (!(f==g&&cP t (.int i))))):=by
   rw[w9 (x:=.v (.t [.int f,t])) (y:=.v (.t [.int g,.int i])) (pe.mpr (by simp only[afx];exact⟨rfl,b,λ_ h=>nomatch h⟩)) rfl];simp[cP,iH]
  cases q:(f==g&&cP t (.int i))with
  |true=>
   rw[q]at ne;simp[sz,z0,z1,jo,my,ao,ne]
  |false=>
   rw[q]at ne;simp[sz,z0,z1,jo,my,ao,ne])
end
section
variable(c d le bA:D)(i:Int)
def Xw(z:D)(hz:c3 z=.val z):eX [.t [c,d,le,bA],.int i,.t [.str "move",z]]=pure (.v (.t [.t [c,d,le,z],.int 1])):=
 Xm rfl rfl (by simp[u6,EY,DM c d le bA z hz])
def Xu:eX [.t [c,d,le,bA],.int i,.t [.str "end"]]=pure (.v (.t [.t [c,d,le,.str "over"],.int 1])):=
 Xj rfl rfl (by simp[u5,EX,DM c d le bA (.str "over") rfl])
variable(f g:Int)(t:D)(bM:t.bt 63=true)
def Cp:sH [.t [c,d,.t [.int f,t],bA]]=pure (.v (.t [.t [c,d,.t [.int f,t],bA],.t [.int 0,.int f,t]])):=by
 simp[sH,Fz,FA,jo,my]
def BP(u:D)(a:c3 u=.val u):sG [.t [c,d,.t [.int f,t],bA],.int g,u]=pure (.v (.t [.t [c,d,.t [.int (g+1),u],bA],.t [.int 1,.int (g+1),u]])):=by
 simp[sG,Fx,abq c d (.t [.int f,t]) bA (.int (g+1)) u rfl a,a]
def XB:eX [.t [c,d,.t [.int f,t],bA],.int i,.t [.str "take",.int g]]=pure (.v (if f=g then .t [.t [c,d,.t [.int (g+1),.int i],bA],.t [.int 1,.int (g+1),.int i]]else .t [.t [c,d,.t [.int f,t],bA],.t [.int 0,.int f,t]])):=
 Xs rfl rfl (by
  have ao:=BP c d bA f g t (.int i) rfl;have aG:=Cp c d bA f t
  by_cases q:f=g
  .rw[if_pos q]
   simp[sC,z4,z5,jo,my,ao,aG,q];rw[q]at ao;simp[ao]
  .rw[if_neg q]
   simp[sC,z4,z5,jo,my,ao,aG,q])
include bM
theorem Ku:dI (.v (.t [.int f,t])) (.v (.t [.int g,.int i]))=pure (.v (.aM (!(f==g&&cP t (.int i))))):=by
 rw[w9 (x:=.v (.t [.int f,t])) (y:=.v (.t [.int g,.int i])) (pe.mpr (by simp only[afx];exact⟨rfl,bM,λ_ h=>nomatch h⟩)) rfl];simp[cP,iH]
theorem Xy:eX [.t [c,d,.t [.int f,t],bA],.int i,.t [.str "renew",.int g]]=pure (.v (if(f==g&&cP t (.int i))=true then .t [.t [c,d,.t [.int (g+1),.int i],bA],.t [.int 1,.int (g+1),.int i]]else .t [.t [c,d,.t [.int f,t],bA],.t [.int 0,.int f,t]])):=
 Xp rfl rfl (by
  have ao:=BP c d bA f g t (.int i) rfl;have aG:=Cp c d bA f t;have ne:=Ku i f g t bM
  cases q:(f==g&&cP t (.int i))with
  |true=>
   rw[q]at ne;simp[sy,zY,zZ,jo,my,ao,aG,ne]
  |false=>
   rw[q]at ne;simp[sy,zY,zZ,jo,my,ao,aG,ne])
theorem Xv:eX [.t [c,d,.t [.int f,t],bA],.int i,.t [.str "free",.int g]]=pure (.v (if(f==g&&cP t (.int i))=true then .t [.t [c,d,.t [.int (g+1),.aF],bA],.t [.int 1,.int (g+1),.aF]]else .t [.t [c,d,.t [.int f,t],bA],.t [.int 0,.int f,t]])):=
 Xl rfl rfl (by
  have ao:=BP c d bA f g t .aF rfl;have aG:=Cp c d bA f t;have ne:=Ku i f g t bM
  cases q:(f==g&&cP t (.int i))with
  |true=>
   rw[q]at ne;simp[sx,zW,zX,jo,my,ao,aG,ne]
  |false=>
   rw[q]at ne;simp[sx,zW,zX,jo,my,ao,aG,ne])
end
def ny(x:Int×D):Prop:=∃(n:Int)(z:D),x.2=.t [.int x.1,.int n,z]
def ny.uj{x:Int×D}(h:ny x):oL x:=by obtain⟨n,z,e⟩:=h;exact⟨_,_,e⟩
def gv:Option D->Int
 |some (.t [_,.int n,_])=>n|_=>0
def J3{l:List (Int×D)}(h:∀x∈l,ny x)(a:Int):bu (.v ((dB (Q:=fo.κ.toKeyOrd) l a).getD (.t [.int a,.int 0,.aF]))) (.v (.int 1))=pure (.v (.int (gv (dB (Q:=fo.κ.toKeyOrd) l a)))):=by
 cases q:dB (Q:=fo.κ.toKeyOrd) l a with
 |none=>simp[gv]|some d=>
  obtain⟨n,z,e⟩:=h _ (r0 q);have e:d=.t [.int a,.int n,z]:=e;subst e;simp[gv]
def xD(c d le bA:D):x9 [.t [c,d,le,bA]]=(do gK (.v bA) (.v .aF)):=by
 simp[x9,E7,Ca,FD]
section
variable{l:List (Int×D)}(h:∀x∈l,ny x)(c le bA:D)(a n:Int)
include h
theorem HK(ds:D)(hd:c3 ds=.val ds)(q:ds=.aF\/(∃xs,ds=.t xs)/\(bA=.str "over"\/(∃b,bA=.t b)\/bA=.aF/\n<=gv (dB (Q:=fo.κ.toKeyOrd) l a))) :
  mY [.t [c,.t (l.map (·.2)),le,bA],.int a,.int n,ds]=pure (.v (.t [c,.t (l.map (·.2)),le,bA])):=by
 have ao:=Ay (λx d=>(h x d).uj) c le bA a;have aG:=J3 h a;simp only[mY,z6,z7,z8];rcases q with rfl|⟨⟨xs,rfl⟩,rfl|⟨b,rfl⟩|⟨rfl,q⟩⟩
 .simp
 .simp[xD]
 .simp[xD]
 .simp[xD,ao,aG,q]
theorem Qn(xs:List D)(q:gv (dB (Q:=fo.κ.toKeyOrd) l a)<n)(i:l.length<63)(f:(l.map (·.1)).Nodup){c' le' sh' v:D}
  (e:eX [.t [c,.t (l.map (·.2)),le,.aF],.int a,.t xs]=pure (.v (.t [.t [c',.t (l.map (·.2)),le',sh'],v]))) (d:c3 v=.val v) :
  mY [.t [c,.t (l.map (·.2)),le,.aF],.int a,.int n,.t xs]=pure (.v (.t [c',.t ((kk (Q:=fo.κ.toKeyOrd) l (a,.t [.int a,.int n,v])).map (·.2)),le',sh'])):=by
 have ao:=Ay (λx b=>(h x b).uj) c le .aF a;have aG:=J3 h a;have cI:=abp (λx b=>(h x b).uj) f i c' le' sh' a (.int n) v rfl d;have g:¬n<=gv (dB (Q:=fo.κ.toKeyOrd) l a):=by omega
 simp only[mY,z6,z7,z8];simp[xD,ao,aG,g,e,cI]
end
def WR{l:List (Int×D)}(h:∀x∈l,ny x)(a n:Int)(v:D):∀x∈kk (Q:=fo.κ.toKeyOrd) l (a,.t [.int a,.int n,v]),ny x:=λx b=>by
 rcases(oj (Q:=fo.κ.toKeyOrd)).mp b with⟨b,_⟩|rfl
 .exact h x b
 .exact⟨n,v,rfl⟩
def ew{n N:Nat}{b:bc}{ds:List D}(h:ds.length=n)(e:b (ds.map c3++af0 (N-n) .emp)=pure (.b0 (.v d))):fnOf n N b ds=pure (.v d):=by
 rw[AE,if_pos h,e];rfl
def d4{a b:bc}(e:a U=pure (.a6 U')):bz a b U=b U':=by rw[bz,e];rfl
def tb{a b:bc}{r:R}(e:a U=pure (.b0 r)):bz a b U=pure (.b0 r):=by rw[bz,e];rfl
def hG{t:aN->M Bool}{a b:bc}(e:t U=pure true):bX t a b U=a U:=by rw[bX,e];rfl
def hF{t:aN->M Bool}{a b:bc}(e:t U=pure false):bX t a b U=b U:=by rw[bX,e];rfl
def CC{a b:aN->M Bool}(h:a U=pure true):ib a b U=pure true:=by show(a U >>= _)=_;rw[h];rfl
def qY{a b:aN->M Bool}(h:a U=pure false):ib a b U=b U:=by show(a U >>= _)=_;rw[h];rfl
def KC{a:aN->M Bool}(h:a U=pure true):lZ a U=pure false:=by show(a U >>= _)=_;rw[h];rfl
def WN{a:aN->M Bool}(h:a U=pure false):lZ a U=pure true:=by show(a U >>= _)=_;rw[h];rfl
def bR{m:br}(h:m U=pure (.v (.aM b))):aO m U=pure b:=by show(m U >>= _)=_;rw[h];rfl
def qb{a b:aN->M Bool}(h:a U=pure true):fA a b U=b U:=by show(a U >>= _)=_;rw[h];rfl
def wR{a b:aN->M Bool}(h:a U=pure false):fA a b U=pure false:=by show(a U >>= _)=_;rw[h];rfl
def aD{f:R->R->M R}{a b:br}{r:M R}(e:f x y=r)(ao:a U=pure x)(aG:b U=pure y):aa f a b U=r:=by
 show(a U >>= _)=_;rw[ao];rw[aG];exact e
def ez{m:br}{U:aN}(e:m U=pure (.v d)):bQ i m U=pure (.a6 (U.set i (.val d))):=by show(m U >>= _)=_;rw[e];rfl
def dw{m:br}(e:m U=pure (.v d)):bh m U=pure (.b0 (.v d)):=by show(m U >>= _)=_;rw[e];rfl
def EA{ms:cJ}{U:aN}{xs:List D}(h:U[i]? = some (.dY p xs))(e:ms U=pure [.v d])(z:xs.length<afe):kJ i eG ms U=pure (.a6 (U.set i (.dY p (xs++[d])))):=by
 simp[h,e,z]
def call_of{mf:bV}{ms:cJ}{rs:List R}{r:M R}(ao:ms U=pure rs)(e:mf (rs.map R.arg)=r):b2 mf ms U=r:=by show(ms U >>= _)=_;rw[ao];exact e
def gp{f:List R->M R}{ms:cJ}{r:M R}(e:f rs=r)(ao:ms U=pure rs):b5 f ms U=r:=by show(ms U >>= _)=_;rw[ao];exact e
def cons_of{m:br}{ms:cJ}(e:m U=pure x)(ao:ms U=pure xs):bW m ms U=pure (x::xs):=by show(m U >>= _)=_;rw[e];rw[ao];rfl
def yJ{m:br}{U:aN}{r:R}(e:m U=pure r)(h:r.dat=pure d):bQ i m U=pure (.a6 (U.set i (.val d))):=by show(m U >>= _)=_;rw[e];show(r.dat >>= _)=_;rw[h];rfl
def H5{it:fO}{U U':aN}(ao:it U=pure ds)(e:hk (λd U=>b (U.set i (.val d))) ds U=pure (.a6 U')):jf i it b U=pure (.a6 U'):=by
 show(it U >>= _)=_;rw[ao];exact e
def m9{a b c:br}(ao:a U=pure (.v x))(aG:b U=pure (.v y))(cI:c U=pure (.v z)):a0 (bG a b c) U=pure (.v (.t [x,y,z])):=by
 show(bW a (a8 b c) U >>= _)=_;rw[cons_of ao (cons_of aG (cons_of cI rfl))];rfl
def dS{a b:br}(ao:a U=pure (.v x))(aG:b U=pure (.v y)):a0 (a8 a b) U=pure (.v (.t [x,y])):=by
 show(bW a (bf b) U >>= _)=_;rw[cons_of ao (cons_of aG rfl)];rfl
def Qd{a b:Int}(h:oK a b):er (.v (.int a)) (.v (.int b))=pure (.v (.int (a / b))):=if_pos h
def qi{it:fO}{ds xs:List D}(ao:it U=pure ds)(z:ds.length<afe)(e:iD t el (mF n cap U) ds=pure xs):hy n cap it t el U=pure (.fr xs):=by
 show(it U >>= _)=_;rw[ao];show(iv (ds.length<afe) >>= _)=_;unfold iv;rw[if_pos z];rw[e];rfl
def uh(e:m=pure (.v d)):(m >>= R.dat)=pure d:=by rw[e];rfl
def Q7{n N:Nat}{b:bc}{ds xs:List D}(h:ds.length=n)(e:b (ds.map c3++af0 (N-n) .emp)=pure (.b0 (.fr xs))):fnOf n N b ds=pure (.fr xs):=by
 rw[AE,if_pos h,e];rfl
def kW{a b:Int}(h:0<b):oMod (.v (.int a)) (.v (.int b))=pure (.v (.int (a % b))):=if_pos h
def h4{a b:Int}:oEq (.v (.int a)) (.v (.int b))=pure (.v (.aM (decide (a=b)))):=rfl
def PR{xs ys:List D}(h:xs.length+ys.length<=afe):qV (.v (.l xs)) (.fr ys)=pure (.fr (xs++ys)):=if_pos h
def T2{i:Int}{v:D}(e:dK xs i=some v):bu (.v (.l xs)) (.v (.int i))=pure (.v v):=by
 show(match dK xs i with|some d=>pure (R.v d)|none=>bad)=_;rw[e]
def Jq{i:Int}{v:D}(e:dK xs i=some v):bu (.fr xs) (.v (.int i))=pure (.v v):=by
 show(match dK xs i with|some d=>pure (R.v d)|none=>bad)=_;rw[e]
def Kf{ms:cJ}{ds:List D}(e:ms U=pure rs)(h:jg rs=pure ds)(z:ds.length<=1000):e1 ms U=pure (.fr ds):=by
 show(ms U >>= _)=_;rw[e];show(jg rs >>= _)=_;rw[h];show(iv (ds.length<=1000) >>= _)=_;unfold iv;rw[if_pos z];rfl
def Cf{a b:Int}(h:mb a b):d3 (.v (.int a)) (.v (.int b))=pure (.v (.int (a*b))):=if_pos h
def vx{a b n:Int}(h:0<=b/\b<=1000000/\a.natAbs<2 ^ 64)(e:a ^ b.toNat=n):ia (.v (.int a)) (.v (.int b))=pure (.v (.int n)):=by rw[<-e];exact if_pos h
def jv{is:List Nat}{m:br}{ds:List D}(e:m U=pure (.v (.t ds)))(h:ds.length=is.length):qg is m U=pure (.a6 (iI is ds U)):=by
 show(m U >>= _)=_;rw[e];exact if_pos h
def ax{α:Type}(S:b1)(m:M α)(a:α):Prop:=m.run S=.ok a S
def aZ{α:Type}(S:b1)(m:N α)(a:α)(b:b1):Prop:=m.run S=.ok a b
section
variable{α β:Type}{S S1 bj:b1}{U U':aN}
def ax.of(h:m=pure a):ax S m a:=by rw[h];rfl
theorem ax.bind{f:α->M β}(h:ax S m a)(d:ax S (f a) b):ax S (m >>= f) b:=by
 show(match m.run S with|.ok a S1=>(f a).run S1|.exc c S1=>.exc c S1|.bad=>.bad)=_;rw[show m.run S=.ok a S from h];exact d
def aZ.bind{f:α->N β}(h:aZ S m a S1)(d:aZ S1 (f a) b bj):aZ S (m >>= f) b bj:=by
 show(match m.run S with|.ok a S1=>(f a).run S1|.exc c S1=>.exc c S1|.bad=>.bad)=_;rw[show m.run S=.ok a S1 from h];exact d
def ax.to{m:M α}(h:ax S m a):aZ S m.up a S:=h
def JA{p:Prop}[Decidable p](h:p):ax S (iv p) ():=.of (if_pos h)
def dk{f:R->R->M R}{a b:br}{x y r:R}(e:f x y=pure r)(c:ax S (a U) x)(d:ax S (b U) y):ax S (aa f a b U) r:=c.bind (d.bind (.of e))
def cb:ax S (d7 U) []:=.of rfl
def a3{m:br}{ms:cJ}(h:ax S (m U) x)(a:ax S (ms U) xs):ax S (bW m ms U) (x::xs):=h.bind (a.bind (.of rfl))
def jl{mf:bV}{ms:cJ}{rs:List R}{r:R}(h:ax S (ms U) rs)(e:ax S (mf (rs.map R.arg)) r):ax S (b2 mf ms U) r:=h.bind e
def kb{f:List R->M R}{ms:cJ}{r:R}(e:f rs=pure r)(h:ax S (ms U) rs):ax S (b5 f ms U) r:=h.bind (.of e)
def h7{ms:cJ}{ds:List D}(h:ax S (ms U) rs)(e:jg rs=pure ds)(z:ds.length<=1000):ax S (a0 ms U) (.v (.t ds)):=h.bind ((ax.of e).bind ((JA z).bind (.of rfl)))
def gX{m:br}(h:ax S (m U) (.v (.aM b))):ax S (aO m U) b:=h.bind (.of rfl)
def Ul{a b:aN->M Bool}(h:ax S (a U) true):ax S (ib a b U) true:=h.bind (.of rfl)
def Uk{a b:aN->M Bool}(h:ax S (a U) false)(c:ax S (b U) x):ax S (ib a b U) x:=h.bind c
def pk{a b:aN->M Bool}(h:ax S (a U) true)(c:ax S (b U) x):ax S (fA a b U) x:=h.bind c
def se{a b:aN->M Bool}(h:ax S (a U) false):ax S (fA a b U) false:=h.bind (.of rfl)
def Uj{a:aN->M Bool}(h:ax S (a U) x):ax S (lZ a U) (!x):=h.bind (.of rfl)
def JI{m:br}{r:R}(h:ax S (m U) r)(e:r.dat=pure d):ax S (bQ i m U) (.a6 (U.set i (.val d))):=h.bind ((ax.of e).bind (.of rfl))
def lM{m:br}(h:ax S (m U) (.v d)):ax S (bh m U) (.b0 (.v d)):=h.bind (.of rfl)
def gY{t:aN->M Bool}{a b:bc}(h:ax S (t U) true)(c:ax S (a U) o):ax S (bX t a b U) o:=h.bind c
def h6{t:aN->M Bool}{a b:bc}(h:ax S (t U) false)(c:ax S (b U) o):ax S (bX t a b U) o:=h.bind c
def fG{a b:bc}(h:ax S (a U) (.a6 U'))(c:ax S (b U') o):ax S (bz a b U) o:=h.bind c
def JH{a b:bc}{r:R}(h:ax S (a U) (.b0 r)):ax S (bz a b U) (.b0 r):=h.bind (.of rfl)
def uU{n N:Nat}{b:bc}{ds:List D}(h:ds.length=n)(e:ax S (b (ds.map c3++af0 (N-n) .emp)) (.b0 (.v d))):ax S (fnOf n N b ds) (.v d):=by
 rw[AE,if_pos h];exact e.bind (.of rfl)
def kc(h:S[i]? = some o):ax S (gx (.v (.ref i))) o:=(show ax S Io S from rfl).bind (by rw[h];exact .of rfl)
def d9{m:br}(h:S[i]? = some (.l xs))(a:ax S (m U) (.v (.ref i))):ax S (bo m U) (.mv xs):=a.bind ((kc h).bind (.of rfl))
def b3{a b:b8}(h:aZ S (a U) (.a6 U') S1)(c:aZ S1 (b U') o bj):aZ S (bP a b U) o bj:=h.bind c
def fg{a b:b8}{r:R}(h:aZ S (a U) (.b0 r) S1):aZ S (bP a b U) (.b0 r) S1:=h.bind rfl
def fJ{t:aN->N Bool}{a b:b8}(h:aZ S (t U) true S1)(c:aZ S1 (a U) o bj):aZ S (fI t a b U) o bj:=h.bind c
def kA{t:aN->N Bool}{a b:b8}(h:aZ S (t U) false S1)(c:aZ S1 (b U) o bj):aZ S (fI t a b U) o bj:=h.bind c
def hR{t:aN->N Bool}{a b:b8}(h:aZ S (t U) false S1)(c:aZ S1 (b U) o bj):aZ S (bP (fI t a (bZ bN)) b U) o bj:=b3 (kA h rfl) c
def rn{t:aN->M Bool}{b:b8}(h:ax S (t U) false)(c:aZ S (b U) o bj):aZ S (bP (bZ (bX t a bN)) b U) o bj:=b3 (h6 h (.of rfl)).to c
def nh{m:dG}(h:aZ S (m U) (.v d) S1):aZ S (kz m U) (.b0 (.v d)) S1:=h.bind rfl
def DS{m:dG}{r:R}(h:aZ S (m U) r S1):aZ S (lb m U) (.a6 U) S1:=h.bind rfl
def i8{m:dG}{r:R}(h:aZ S (m U) r S1)(e:r.dat=pure d):aZ S (gB i m U) (.a6 (U.set i (.val d))) S1:=h.bind ((ax.of e).to.bind rfl)
def x_call{mf:e8}{ms:cJ}{rs:List R}{r:R}(h:ax S (ms U) rs)(aC:rs.all R.jR=true)(e:aZ S (mf (rs.map R.arg)) r S1):aZ S (eB mf (eH ms) U) r S1:=(ax.to h).bind (by rw[if_pos aC];exact e)
def iK{n N:Nat}{b:b8}{ds:List D}(h:ds.length=n)(e:aZ S (b (ds.map c3++af0 (N-n) .emp)) (.b0 (.v d)) S1):aZ S (fnX n N b ds) (.v d) S1:=by
 unfold fnX;rw[if_pos h];exact e.bind rfl
def abT{n N:Nat}{b:b8}{ds xs:List D}(h:ds.length=n)(e:aZ S (b (ds.map c3++af0 (N-n) .emp)) (.b0 (.fr xs)) S1):aZ S (fnX n N b ds) (.fr xs) S1:=by
 unfold fnX;rw[if_pos h];exact e.bind rfl
def Nc{n N:Nat}{b:b8}{ds:List D}(h:ds.length=n)(e:aZ S (b (ds.map c3++af0 (N-n) .emp)) (.a6 U') S1):aZ S (fnX n N b ds) (.v .aF) S1:=by
 unfold fnX;rw[if_pos h];exact e.bind rfl
def zb{mo:br}{ms:cJ}{xs:List D}(b:ax S (mo U) (.v (.ref i)))(c:ax S (ms U) [.v d])(h:S[i]? = some (.l xs))(z:xs.length<afe):aZ S (dE eG mo ms U) (.a6 U) (S.set i (.l (xs++[d]))):=b.to.bind (c.to.bind ((kc h).to.bind ((ax.to (a:=(R.v .aF,xs++[d])) (.of (by show(iv (xs.length<afe) >>= _)=_;rw[Gh z];rfl))).bind rfl)))
def zc:aZ S (ih (eI (e1 d7)) U) (.v (.ref S.length)) (S++[.l []]):=rfl
def abU{it:fO}(h:ax S (it U) ds)(e:aZ S (l6 (λd U=>b (U.set i (.val d))) ds U) o S1):aZ S (y9 i it b U) o S1:=(ax.to h).bind e
def nV:(S++[o])[S.length]? = some o:=by rw[afn (ae9 _),afY];rfl
end
end i_
namespace i_
open PySem PySem.Spec aE aY rx oR wD
section
variable{t:aN->M Bool}{a b:bc}{U U':aN}{r:R}
def dt{p:Prop}[Decidable p](h:p):(pure (decide p):M Bool)=pure true:=by rw[decide_eq_true h]
def d0{p:Prop}[Decidable p](h:¬p):(pure (decide p):M Bool)=pure false:=by rw[decide_eq_false h]
def c_(e:t U=pure false)(h:b U=q):bz (bX t a bN) b U=q:=(d4 (hF e)).trans h
def st(e:t U=pure true)(h:a U=pure (.b0 r)):bz (bX t a bN) b U=pure (.b0 r):=tb ((hG e).trans h)
def cN(e:a U=pure (.a6 U'))(h:b U'=q):bz a b U=q:=(d4 e).trans h
def rR{α c:Type}{P:α->Prop}{A B:c}{f:α->c}(e:A=B)(h:∃x,B=f x/\P x):∃x,A=f x/\P x:=e▸h
def and_1{x y:br}(e:x U=pure (.v (.aM true))):jJ x y U=y U:=by show(x U >>= _)=_;rw[e];rfl
def uZ{l:List Nat}(h:l.length<=1000):nP [.v (.str (bC l))]=pure (.v (.int (l.length:Nat))):=by
 show(if(bC l).length<=afe then pure (R.v (.int ((bC l).length:Nat)))else bad)=_;rw[if_pos (by rw[pQ,afM];omega),pQ]
def w1{x y:List Nat}(h:x.length+y.length<=1000):oc (.v (.str (bC x))) (.v (.str (bC y)))=pure (.v (.str (bC (x++y)))):=by
 show(if(bC x).length+(bC y).length<=afe then pure (R.v (.str (bC x++bC y)))else bad)=_;rw[if_pos (by rw[pQ,pQ,afM];omega),aau]
def YW{m:br}(e:m U=pure (.fr xs)):bh m U=pure (.b0 (.fr xs)):=by show(m U >>= _)=_;rw[e];rfl
end
def eY:D->Bool
 |.aF=>true|_=>false
def yn(d:D):gK (.v d) (.v .aF)=pure (.v (.aM (!eY d))):=by cases d<;>rfl
def Jl(d:D):fq (.v d) (.v .aF)=pure (.v (.aM (eY d))):=by cases d<;>rfl
def Dp{n:Nat}(h:n<=1000):n<=afe:=by rw[afM];omega
def qP(c:Nat):Bool:=decide (97<=c/\c<=122)
def Es:("abcdefghijklmnopqrstuvwxyz":Str).cps.toList=(afR 26).map λk=>97+k:=by decide +kernel
def ej(n:Nat)(d:D):Prop:=jq n d=true/\aY.Ok n d
def BF{n:Nat}:ej n .aF:=⟨by cases n<;>rfl,sP⟩
def fb{n:Nat}{i:Int}:ej n (.int i):=⟨by cases n<;>rfl,eN⟩
def iE{n:Nat}{x:Str}(h:afT x=true):ej n (.str x):=⟨by cases n<;>exact h,Cy h⟩
def uV{n:Nat}{xs:List D}(b:xs.length<=1000)(h:∀x∈xs,ej n x):ej (n+1) (.t xs):=⟨af4.mpr λx a=>(h x a).1,qX b λx a=>(h x a).2⟩
def Um{n:Nat}{a:D}(h:ej n a):ej (n+1) (.t [a]):=uV (by simp) λx b=>by rw[afj.mp b];exact h
def hH{n:Nat}{a b:D}(c:ej n a)(d:ej n b):ej (n+1) (.t [a,b]):=uV (by simp) (by simp only[afx];exact⟨c,d,λ_ h=>nomatch h⟩)
def pn{n:Nat}{a b c:D}(d:ej n a)(e:ej n b)(f:ej n c):ej (n+1) (.t [a,b,c]):=uV (by simp) (by simp only[afx];exact⟨d,e,f,λ_ h=>nomatch h⟩)
def JK{n:Nat}{a b c d:D}(e:ej n a)(f:ej n b)(i:ej n c)(g:ej n d):ej (n+1) (.t [a,b,c,d]):=uV (by simp) (by simp only[afx];exact⟨e,f,i,g,λ_ h=>nomatch h⟩)
theorem Lb:∀{n:Nat}{d:D},jq n d=true->jq (n+1) d=true
 |n,.aF,_=>by cases n<;>rfl
 |n,.int _,_=>by cases n<;>rfl
 |n,.str _,h=>by cases n<;>exact h
 |n+1,.t xs,h=>af4.mpr λx a=>Lb (af4.mp h x a)
 |0,.t _,h=>by cases h
 |n,.aM _,h=>by cases n<;>cases h
 |n,.l _,h=>by cases n<;>cases h
 |n,.ref _,h=>by cases n<;>cases h
 |n,.fn _,h=>by cases n<;>cases h
 |n,.ty _,h=>by cases n<;>cases h
def ej.up{n m:Nat}{d:D}(h:ej n d)(a:n<=m):ej m d:=by
 obtain⟨k,rfl⟩:=Nat.le.dest a;refine⟨?_,hM h.2 a⟩;have c:=h.1;clear h a
 induction k with
 |zero=>exact c|succ k b=>exact Lb b
def De(s n:Nat):List Nat:=(afR n).map λk=>(s+k) % 6
def oq(s n:Nat):List D:=(De s n).map fX
def ft(h:D):Prop:=ej 6 h
def L0(n d:Int)(m:Nat)(hd:oK n d):iD oy (aa oMod (aa c0 (aa er (I 1) (aH (.int d))) (I 0)) (ar 6)) [.emp,.val (.int n)] (gO 0 m)=pure (oq (n / d % 6).toNat m):=by
 rw[LZ];have e:oq (n / d % 6).toNat m=(afR m).map λk=>fX (((n / d % 6).toNat+k) % 6):=by
  unfold oq De;rw[ai8];rfl
 rw[e];refine Gm fX (λk=>fX (((n / d % 6).toNat+k) % 6)) (afR m) λk _=>?_
 have:(n / d+(k:Nat)) % 6=(((((n / d % 6).toNat+k) % 6:Nat)):Int):=by
  omega
 rw[Kq,Kq];simp[this,hd]
def J7(s m:Nat):(oq s m).length=m:=by simp[oq,De]
def Uo(s:Nat){m:Nat}(h:m<=6):ej 1 (.t (oq s m)):=uV (by rw[J7];omega) λx a=>by
 obtain⟨k,_,rfl⟩:=agz.mp a;exact fb
def UR(c:Int):∃h,B4 [.int c]=pure (.v (.t h))/\ft (.t h):=by
 obtain⟨m,p,x,j⟩:∃m:Nat,1+c % 4+c / 4 % 2*(c / 8 % 3)=(m:Nat)/\1<=m/\m<=6:=by
  have u:=mod_lt (a:=c) (b:=4) (by decide);have w:=mod_lt (a:=c / 8) (b:=3) (by decide);have e:c / 4 % 2=0\/c / 4 % 2=1:=by omega
  rcases e with e|e<;>rw[e]
  .exact⟨(1+c % 4).toNat,by omega,by omega,by omega⟩
  .exact⟨(1+c % 4+c / 8 % 3).toNat,by omega,by omega,by omega⟩
 have mp:(0:Int)<(m:Int):=by omega
 obtain⟨q,eq,bJ,cR⟩:∃q:Nat,1+c / 144 % (m:Int)=(q:Nat)/\1<=q/\q<=m:=⟨(1+c / 144 % (m:Int)).toNat,by have:=mod_lt (a:=c / 144) mp;omega,by have:=mod_lt (a:=c / 144) mp;omega,by have:=mod_lt (a:=c / 144) mp;omega⟩;have l:(0:Int)<(q:Int):=by omega
 have g:=L0 c 24 m (Aw (by decide) (by decide));have f:=Uo (c / 24 % 6).toNat j;generalize aC:(c / 24 % 6).toNat=s at g;rw[aC]at f;have r:=J7 s m;have n:-4611686018427387904<=(m:Int)/\(m:Int)<4611686018427387904:=by omega
 have i:(oq s m).length+1<=afe:=by rw[r,afM];omega
 have k:(gO 0 m).length<afe:=by rw[C',afM];omega
 have d:mb (c / 4 % 2) (c / 8 % 3):=Cg (by omega) (by omega);generalize oq s m=row at *;refine⟨[.t [.int q,.t row],.t [.int ((m:Int)+1-q+c / 864 % q),.t row]],?_,hH ((hH fb f).up (by decide)) ((hH fb f).up (by decide))⟩;refine ew rfl (cN (U':=[.val (.int c),.val (.int m),.emp,.emp]) (ez ?_) (cN (U':=[.val (.int c),.val (.int m),.val (.t row),.emp]) (ez (gp (rs:=[.fr row]) ?_ (cons_of (qi (ds:=gO 0 m) ?_ k g) rfl))) (cN (U':=[.val (.int c),.val (.int m),.val (.t row),.val (.int q)]) (ez ?_) (dw (dS rfl (dS ?_ rfl))))))
 .rw[<-p];exact aD rfl rfl (aD (Cf d) rfl rfl)
 .simp[i]
 .simp[n]
 .rw[<-eq];exact aD rfl rfl (aD (kW mp) rfl rfl)
 .exact aD rfl rfl (aD (kW l) rfl rfl)
def fV(s k:Nat):Nat:=(s+k) % 6
def Y3(s:Nat):oq s 5=[fX (fV s 0),fX (fV s 1),fX (fV s 2),fX (fV s 3),fX (fV s 4)]:=rfl
def US(c:Int):∃h,yd [.int c]=pure (.v (.t h))/\ft (.t h):=by
 by_cases j:c % 5<3
 .obtain⟨h,e,o⟩:=UR (c / 5)
  exact⟨h,ew rfl (st (dt j) (dw (call_of rfl e))),o⟩
 .have r:=L0 c 5 5 (Aw (by decide) (by decide))
  have u:(gO 0 5).length<afe:=by rw[C',afM];omega
  generalize(c / 5 % 6).toNat=s at *;rw[Y3]at r;have pre:∀{d},Fq [.val (.int c),.val (.l [fX (fV s 0),fX (fV s 1),fX (fV s 2),fX (fV s 3),fX (fV s 4)]),.emp,.emp,.emp]=pure (.b0 (.v d))->yd [.int c]=pure (.v d):=λe=>ew rfl (c_ (d0 j) (cN (yJ (qi (ds:=gO 0 5) rfl u r) rfl) e))
  have k3:∀q a b d:Nat,ej 3 (.t [.int q,.t [fX a,fX b,fX d]]):=λq a b d=>(hH (n:=1) fb (pn (n:=0) fb fb fb)).up (by decide)
  have k2:∀q a b:Nat,ej 2 (.t [.int q,.t [fX a,fX b]]):=λq a b=>hH (n:=1) fb (hH (n:=0) fb fb)
  by_cases g:c % 5=4
  .by_cases f:c / 30 % 3=0
   .exact⟨_,pre (st (dt g) (cN rfl (cN (hG (dt f)) rfl))),hH ((k3 2 _ _ _).up (by decide)) ((k3 2 _ _ _).up (by decide))⟩
   .have z:=hH (n:=4) (fb (i:=2)) (pn (n:=3) (k3 2 (fV s 0) (fV s 1) (fV s 2)) (k3 2 (fV s 2) (fV s 3) (fV s 4)) (fb (i:=((fV s 0:Nat):Int))))
    exact⟨_,pre (st (dt g) (cN rfl (cN (hF (d0 f)) rfl))),hH z z⟩
  .have p:=(hH (n:=3) (fb (i:=1)) (hH (n:=2) (k2 2 (fV s 0) (fV s 1)) (k2 2 (fV s 2) (fV s 3)))).up (m:=5) (by decide)
   have k:=(hH (n:=3) (fb (i:=2)) (hH (n:=2) (k2 1 (fV s 0) (fV s 1)) (k2 1 (fV s 2) (fV s 3)))).up (m:=5) (by decide)
   by_cases f:c / 30 % 2=0
   .exact⟨_,pre (c_ (d0 g) (cN rfl (cN rfl (st (dt f) rfl)))),hH p k⟩
   .exact⟨_,pre (c_ (d0 g) (cN rfl (cN rfl (c_ (d0 f) rfl)))),hH k p⟩
abbrev fB:=fo.κ.toKeyOrd
structure b' where
 cs:nD
 ds:List (Int×D)
 f:Int
 t:D
 bA:D
def b'.D(s:b'):aY.D:=.t [.t (s.cs.map (·.2)),.t (s.ds.map (·.2)),.t [.int s.f,s.t],s.bA]
inductive e5 where
 |put (a:List Nat) (n:Int)|add (a:List Nat) (n:Int)|swap (a:List Nat) (o n:Int)|take (g:Int)|renew (g:Int)|free (g:Int)|sure (g:Int) (a:List Nat) (n:Int)|move (h:D)|fin
def e5.D:e5->aY.D
 |.put a n=>.t [.str "put",.str (bC a),.int n]|.add a n=>.t [.str "add",.str (bC a),.int n]|.swap a o n=>.t [.str "swap",.str (bC a),.int o,.int n]|.take g=>.t [.str "take",.int g]|.renew g=>.t [.str "renew",.int g]|.free g=>.t [.str "free",.int g]|.sure g a n=>.t [.str "sure",.int g,.str (bC a),.int n]|.move h=>.t [.str "move",h]|.fin=>.t [.str "end"]
def cQ:Option e5->aY.D
 |none=>.aF|some d=>d.D
def b'.cell(s:b')(a:List Nat):Int:=gT (dB (Q:=dq) s.cs a)
def b'.put(s:b')(a:List Nat)(n:Int):b':={ s with cs:=ie s.cs a n }
def b'.i0(s:b')(g i:Int):Bool:=s.f==g&&cP s.t (.int i)
def c5(s:b')(i:Int):e5->b'×aY.D
 |.put a n=>(s.put a n,.int (s.cell a))
 |.add a n=>(s.put a (s.cell a+n),.int (s.cell a+n))
 |.swap a o n=>if s.cell a=o then(s.put a n,.int 1)else(s,.int 0)
 |.take g=>if s.f=g then({ s with f:=g+1,t:=.int i },.t [.int 1,.int (g+1),.int i])else(s,.t [.int 0,.int s.f,s.t])
 |.renew g=>if s.i0 g i=true then({ s with f:=g+1,t:=.int i },.t [.int 1,.int (g+1),.int i])else(s,.t [.int 0,.int s.f,s.t])
 |.free g=>if s.i0 g i=true then({ s with f:=g+1,t:=.aF },.t [.int 1,.int (g+1),.aF])else(s,.t [.int 0,.int s.f,s.t])
 |.sure g a n=>if s.i0 g i=true then(s.put a n,.int 1)else(s,.int 0)
 |.move h=>({ s with bA:=h },.int 1)
 |.fin=>({ s with bA:=.str "over" },.int 1)
structure dU(G:aY.D->Prop)(W:List (List Nat))(s:b'):Prop where
 row:∀x∈s.cs,jy x
 rise:jX dq s.cs
 nm:∀x∈s.cs,x.1∈W
 num:∀x∈s.ds,ny x
 dv:jX fB s.ds
 mw:∀x∈s.ds,0<=x.1/\x.1<6
 eb:s.t=.aF\/∃i:Int,s.t=.int i
 bA:s.bA=.aF\/s.bA=.str "over"\/(∃xs,s.bA=.t xs)/\G s.bA
 nM:∀x∈s.ds,aY.Ok 2 x.2
def nr(G:aY.D->Prop)(W:List (List Nat)):e5->Prop
 |.put a _=>jZ a/\a∈W|.add a _=>jZ a/\a∈W|.swap a _ _=>jZ a/\a∈W|.sure _ a _=>jZ a/\a∈W|.move h=>(∃xs,h=.t xs)/\G h|_=>True
def Zk{z:Int}(a:0<=z)(b:z<6):z∈([0,1,2,3,4,5]:List Int):=by
 have e:z=0\/z=1\/z=2\/z=3\/z=4\/z=5:=by omega
 rcases e with e|e|e|e|e|e<;>rw[e]<;>simp
section
variable{G:aY.D->Prop}{W:List (List Nat)}{s:b'}(h:dU G W s)
include h
theorem dU.cl:s.cs.length<=W.length:=by
 have:=aii h.rise.nodup λx a=>by
  obtain⟨y,b,rfl⟩:=agz.mp a;exact h.nm y b
 rwa[sg]at this
theorem dU.dl:s.ds.length<=6:=by
 have:=aii h.dv.nodup λx b=>by
  obtain⟨y,a,rfl⟩:=agz.mp b;exact Zk (h.mw y a).1 (h.mw y a).2
 rw[sg]at this;exact this
theorem dU.b_:s.t.bt 63=true:=by rcases h.eb with e|⟨i,e⟩<;>rw[e]<;>rfl
theorem Xk(e:W.length<63)(i:Int)(hd:nr G W d):eX [s.D,.int i,d.D]=pure (.v (.t [(c5 s i d).1.D,(c5 s i d).2])):=by
 have b:s.cs.length<63:=by have:=h.cl;omega
 have b_:=h.b_;obtain⟨cs,ds,f,t,bA⟩:=s
 cases d with
 |put a n=>exact Xx h.row h.rise b _ _ _ hd.1 n i|add a n=>exact Xt h.row h.rise b _ _ _ hd.1 n i|swap a o n=>
  refine(XA h.row h.rise b _ _ _ hd.1 n i o).trans ?_;unfold c5 b'.cell;dsimp only
  by_cases c:gT (dB (Q:=dq) cs a)=o
  .rw[if_pos c,if_pos c];rfl
  .rw[if_neg c,if_neg c];rfl
 |take g=>
  refine(XB _ _ _ i f g t).trans ?_;unfold c5;dsimp only
  by_cases c:f=g
  .rw[if_pos c,if_pos c];rfl
  .rw[if_neg c,if_neg c];rfl
 |renew g=>
  refine(Xy _ _ _ i f g t b_).trans ?_;unfold c5 b'.i0;dsimp only
  by_cases c:(f==g&&cP t (.int i))=true
  .rw[if_pos c,if_pos c];rfl
  .rw[if_neg c,if_neg c];rfl
 |free g=>
  refine(Xv _ _ _ i f g t b_).trans ?_;unfold c5 b'.i0;dsimp only
  by_cases c:(f==g&&cP t (.int i))=true
  .rw[if_pos c,if_pos c];rfl
  .rw[if_neg c,if_neg c];rfl
 |sure g a n=>
  refine(Xz h.row h.rise b _ _ hd.1 n i f g t b_).trans ?_;unfold c5 b'.i0;dsimp only
  by_cases c:(f==g&&cP t (.int i))=true
  .rw[if_pos c,if_pos c];rfl
  .rw[if_neg c,if_neg c];rfl
 |move z=>
  obtain⟨⟨xs,rfl⟩,_⟩:=hd;exact Xw _ _ _ _ i _ rfl
 |fin=>exact Xu _ _ _ _ i
end
def b'.last(s:b')(i:Int):Int:=gv (dB (Q:=fB) s.ds i)
def e_(s:b')(i n:Int):Option e5->b'
 |none=>s|some d=>if(eY s.bA)=true/\s.last i<n then{ (c5 s i d).1 with ds:=kk (Q:=fB) s.ds (i,.t [.int i,.int n,(c5 s i d).2]) }else s
def CD(s:b')(i:Int)(d:e5):(c5 s i d).1.ds=s.ds:=by
 cases d<;>unfold c5<;>first|rfl|(dsimp only;split<;>rfl)
section
variable{G:aY.D->Prop}{W:List (List Nat)}{s:b'}(h:dU G W s)
include h
theorem CE(i:Int)(d:e5):c3 (c5 s i d).2=.val (c5 s i d).2:=by
 cases d<;>unfold c5<;>first|rfl|(dsimp only;split<;>rfl)
theorem Qo(l:W.length<63)(i n:Int)(hd:∀x,d=some x->nr G W x):mY [s.D,.int i,.int n,cQ d]=pure (.v (e_ s i n d).D):=by
 cases d with
 |none=>exact HK h.num _ _ _ i n .aF rfl (.inl rfl)|some d=>
  unfold e_;dsimp only;have qm:∃xs,d.D=.t xs:=by cases d<;>exact⟨_,rfl⟩
  obtain⟨xs,qm⟩:=qm
  by_cases c:(eY s.bA)=true/\s.last i<n
  .rw[if_pos c]
   have a:=Xk h l i (hd d rfl);have b:=CD s i d;have os:=CE h i d;have g:s.bA=.aF:=by
    rcases h.bA with e|e|⟨⟨xs,e⟩,_⟩
    .exact e
    .rw[e]at c;cases c.1
    .rw[e]at c;cases c.1
   have k:=h.dl;generalize c5 s i d=o at *;obtain⟨⟨j,m,p,t',sh'⟩,v⟩:=o;obtain⟨cs,ds,f,t,bA⟩:=s;dsimp only at b os g a k ⊢;subst b g;show mY [_,_,_,d.D]=_;unfold b'.D at a ⊢;rw[qm]at a ⊢;have ao:=Qn h.num (.t (cs.map (·.2))) (.t [.int f,t]) i n xs c.2 (show m.length<63 by omega) h.dv.nodup (c':=.t (j.map (·.2))) (le':=.t [.int p,t']) (sh':=sh') (v:=v);exact ao a os
  .rw[if_neg c]
   show mY [_,_,_,d.D]=_;rw[qm];refine HK h.num _ _ _ i n (.t xs) rfl (.inr ⟨⟨_,rfl⟩,?_⟩);rcases h.bA with e|e|⟨⟨zs,e⟩,_⟩
   .refine .inr (.inr ⟨e,?_⟩)
    rw[e]at c;have:¬s.last i<n:=λz=>c ⟨rfl,z⟩
    unfold b'.last at this;omega
   .exact .inl e
   .exact .inr (.inl ⟨zs,e⟩)
end
section
variable{G:aY.D->Prop}{W:List (List Nat)}{s:b'}(h:dU G W s)
include h
theorem dU.put(c:jZ a)(hw:a∈W)(n:Int):dU G W (s.put a n) where
 row:=aaT h.row c n
 rise:=aaS h.rise a n
 nm:=λx b=>by
  have b:x∈ie s.cs a n:=b;unfold ie at b;split at b
  .exact h.nm x ((ql (Q:=dq)).mp b).1
  .rcases(oj (Q:=dq)).mp b with⟨b,_⟩|rfl
   .exact h.nm x b
   .exact hw
 num:=h.num
 dv:=h.dv
 mw:=h.mw
 eb:=h.eb
 bA:=h.bA
 nM:=h.nM
theorem dU.lease(f:Int)(a:t=.aF\/∃i:Int,t=.int i):dU G W { s with f:=f,t:=t }:=⟨h.row,h.rise,h.nm,h.num,h.dv,h.mw,a,h.bA,h.nM⟩
theorem dU.shut(hz:z=.aF\/z=.str "over"\/(∃xs,z=.t xs)/\G z):dU G W { s with bA:=z }:=⟨h.row,h.rise,h.nm,h.num,h.dv,h.mw,h.eb,hz,h.nM⟩
theorem Xn(i:Int)(hd:nr G W d):dU G W (c5 s i d).1:=by
 cases d with
 |put a n=>exact h.put hd.1 hd.2 n|add a n=>exact h.put hd.1 hd.2 _|swap a o n=>
  unfold c5;dsimp only;split
  .exact h.put hd.1 hd.2 n
  .exact h
 |take g=>
  unfold c5;dsimp only;split
  .exact h.lease _ (.inr ⟨_,rfl⟩)
  .exact h
 |renew g=>
  unfold c5;dsimp only;split
  .exact h.lease _ (.inr ⟨_,rfl⟩)
  .exact h
 |free g=>
  unfold c5;dsimp only;split
  .exact h.lease _ (.inl rfl)
  .exact h
 |sure g a n=>
  unfold c5;dsimp only;split
  .exact h.put hd.1 hd.2 n
  .exact h
 |move z=>exact h.shut (.inr (.inr hd))|fin=>exact h.shut (.inr (.inl rfl))
theorem Xh(i:Int)(d:e5):aY.Ok 1 (c5 s i d).2:=by
 have b:aY.Ok 0 s.t:=by
  rcases h.eb with e|⟨i,e⟩
  .rw[e];exact sP
  .rw[e];exact eN
 cases d with
 |put a n=>exact eN|add a n=>exact eN|swap a o n=>
  unfold c5;dsimp only;split<;>exact eN
 |take g=>
  unfold c5;dsimp only;split
  .exact pG eN eN eN
  .exact pG eN eN b
 |renew g=>
  unfold c5;dsimp only;split
  .exact pG eN eN eN
  .exact pG eN eN b
 |free g=>
  unfold c5;dsimp only;split
  .exact pG eN eN sP
  .exact pG eN eN b
 |sure g a n=>
  unfold c5;dsimp only;split<;>exact eN
 |move z=>exact eN|fin=>exact eN
theorem HJ{i:Int}(b:0<=i)(c:i<6)(n:Int)(hd:∀x,d=some x->nr G W x):dU G W (e_ s i n d):=by
 cases d with
 |none=>exact h|some d=>
  have o:=Xn h i (hd d rfl);unfold e_;dsimp only;split
  .refine⟨o.row,o.rise,o.nm,?_,?_,?_,o.eb,o.bA,?_⟩
   .exact WR h.num i n _
   .exact CZ _ h.dv.nodup
   .intro x a
    rcases(oj (Q:=fB)).mp a with⟨a,_⟩|rfl
    .exact h.mw x a
    .exact⟨b,c⟩
   .intro x a
    rcases(oj (Q:=fB)).mp a with⟨a,_⟩|rfl
    .exact h.nM x a
    .exact pG eN eN (Xh h i d)
  .exact h
def b'.h2(s:b')(i:Int):aY.D:=match dB (Q:=fB) s.ds i with
 |some (.t [_,_,z])=>z|_=>.aF
def b'.qZ(s:b'):Bool:=match s.bA with
 |.str _=>true|_=>false
theorem Ql(i:Int):qQ [s.D,.int i]=pure (.v (.t [.int i,.int (s.last i),s.h2 i])):=by
 have e:=Ay (λx a=>(h.num x a).uj) (.t (s.cs.map (·.2))) (.t [.int s.f,s.t]) s.bA i;refine e.trans ?_;unfold b'.last b'.h2
 cases q:dB (Q:=fo.κ.toKeyOrd) s.ds i with
 |none=>rfl|some d=>
  obtain⟨n,z,e⟩:=h.num _ (r0 q);have e:d=.t [.int i,.int n,z]:=e;subst e;rfl
def b'.gg(s:b'):b':={ s with bA:=.aF }
omit h in
theorem KV(s:b'):vd [s.D]=pure (.v s.gg.D):=by
 unfold b'.D b'.gg;simp[vd,FC,(DM (.t (s.cs.map (·.2))) (.t (s.ds.map (·.2))) (.t [.int s.f,s.t]) s.bA .aF rfl)]
theorem dU.gg:dU G W s.gg:=h.shut (.inl rfl)
theorem dU.ok(d:W.length<=1000)(c:∀z,G z->aY.Ok 9 z):aY.Ok 10 s.D:=by
 have f:=h.cl;have hd:=h.dl;refine WX (hM (qX (n:=2) (by rw[sg];omega) λx a=>?_) (by decide)) (hM (qX (n:=2) (by rw[sg];omega) λx a=>?_) (by decide)) (hM (n:=1) (vu eN ?_) (by decide)) ?_
 .obtain⟨y,b,rfl⟩:=agz.mp a
  obtain⟨w,n,_,e⟩:=h.row y b;rw[e];exact hM (n:=1) (vu (Cy w.1) eN) (by decide)
 .obtain⟨y,b,rfl⟩:=agz.mp a
  exact h.nM y b
 .rcases h.eb with e|⟨i,e⟩
  .rw[e];exact sP
  .rw[e];exact eN
 .rcases h.bA with e|e|⟨_,g⟩
  .rw[e];exact sP
  .rw[e];exact Cy (by decide +kernel)
  .exact c _ g
end
end i_
namespace i_
open PySem PySem.Spec aE aY
@[simp] theorem aey:ub c b U=rj c b tp U:=rfl
theorem M5{c:aN->M Bool}{b:bc}(J:aN->Prop)(a:aN->Nat)(f:aN->Prop)(step:∀U,J U->(c U=pure false/\f U)\/(c U=pure true/\∃U',(b U=pure (.a6 U')\/b U=pure (.cM U'))/\J U'/\a U' < a U)) :
  ∀(n:Nat)(U:aN),J U->a U<n->∃U',rj c b n U=pure (.a6 U')/\f U'
 |0,U,_,h=>absurd h (Nat.not_lt_zero _)|n+1,U,qw,h=>by
  rcases step U qw with⟨e,d⟩|⟨e,C,ao,o,hm⟩
  .refine⟨U,?_,d⟩
   show(c U >>= _)=_;rw[e];rfl
  .obtain⟨g,aG,d⟩:=M5 J a f step n C o (by omega)
   refine⟨g,?_,d⟩;show(c U >>= _)=_;rw[e,pure_bind,if_pos rfl];rcases ao with ao|ao<;>rw[ao,pure_bind]<;>exact aG
def aaL(h:n<16777216):n<tp:=by unfold tp;omega
def P9{α:Type}{xs:List α}{lo hi:Option Int}{v:α}(h:v∈cutD xs lo hi):v∈xs:=ahu (agF h)
end i_
namespace i_
open PySem PySem.Spec aE aY rx oR wD
structure e7(l:List Nat):Prop where
 p1:1<=l.length
 yw:l.length<=8
 al:l.all qP=true
def e7.ok{l:List Nat}(h:e7 l):afT (bC l)=true:=ZK.mpr λc a=>by
 have:=af4.mp h.al c a;simp[qP]at this;omega
def e7.k'{l:List Nat}(h:e7 l):jZ l:=⟨h.ok,h.p1,h.yw⟩
def Er{i:Int}(b:0<=i)(h:i<26):∃c,bu (.v (.str "abcdefghijklmnopqrstuvwxyz")) (.v (.int i))=pure (.v (.str (bC [c])))/\qP c=true:=by
 obtain⟨c,e⟩:=zN (xs:=("abcdefghijklmnopqrstuvwxyz":Str).cps.toList) b (by rw[Es];simpa using h);refine⟨c,?_,?_⟩
 .show(match dK ("abcdefghijklmnopqrstuvwxyz":Str).cps.toList i with
   |some c=>if("abcdefghijklmnopqrstuvwxyz":Str).length<=afe then(pure (R.v (.str ⟨#[c]⟩)):M R)else bad| none=>bad)=_
  rw[e];rfl
 .have:=EF e
  rw[Es]at this;obtain⟨k,a,rfl⟩:=agz.mp this;have:=agp.mp a;simp[qP];omega
def aav{a:List Nat}(d:a.length<=8){i:Int}(b:0<=i)(h:i<(a.length:Int)):∃c,bu (.v (.str (bC a))) (.v (.int i))=pure (.v (.str (bC [c]))):=by
 obtain⟨c,e⟩:=zN (xs:=(bC a).cps.toList) b h;refine⟨c,?_⟩;show(match dK (bC a).cps.toList i with
  |some c=>if(bC a).length<=afe then(pure (R.v (.str ⟨#[c]⟩)):M R)else bad| none=>bad)=_
 rw[e];dsimp only;rw[if_pos (Dp (by rw[pQ];omega))];rfl
def QF:("":Str)=bC []:=by decide +kernel
def ab1:("x":Str)=bC [120]:=by decide +kernel
def UT(c:Int):∃a,B6 [.int c]=pure (.v (.str (bC a)))/\e7 a:=by
 obtain⟨z,hz,g⟩:∃z:Nat,1+c % 8=(z:Nat)/\1<=z/\z<=8:=⟨(1+c % 8).toNat,by omega,by omega,by omega⟩;obtain⟨U',e,c',a,rfl,d⟩:=M5 (b:=JY) (c:=aO (aa oLt (b5 nP (bf (I 2))) (I 1)))
  (λU=>∃(c':Int)(a:List Nat),U=[.val (.int c'),.val (.int (z:Nat)),.val (.str (bC a))]/\a.all qP=true/\a.length<=z)
  (λU=>match U[(2:Nat)]? with|some (.val (.str s))=>8-s.length|_=>0)
  (λU=>∃(c':Int)(a:List Nat),U=[.val (.int c'),.val (.int (z:Nat)),.val (.str (bC a))]/\e7 a)
  (λU ⟨c',a,aw,d,j⟩=>by
   subst aw
   by_cases h:a.length<z
   .refine .inr ⟨(bR (aD rfl (gp (uZ (by omega)) rfl) rfl)).trans (dt (by omega)),?_⟩
    have f:=mod_lt (a:=c' / 8) (b:=26) (by decide);obtain⟨ch,ao,i⟩:=Er f.1 f.2;refine⟨[.val (.int (c' / 3)),.val (.int (z:Nat)),.val (.str (bC (a++[ch])))],.inl ?_,⟨_,_,rfl,by rw[aij,d];simpa using i,by rw[afb];exact h⟩,?_⟩
    .exact cN (ez (aD (w1 (by simp;omega)) rfl (aD ao rfl rfl))) rfl
    .show 8-(bC (a++[ch])).length<8-(bC a).length
     rw[pQ,pQ,afb,afw];omega
   .exact .inl ⟨(bR (aD rfl (gp (uZ (by omega)) rfl) rfl)).trans (d0 (by omega)),c',a,rfl,by omega,by omega,d⟩) tp [.val (.int c),.val (.int (z:Nat)),.val (.str (bC []))] ⟨_,_,rfl,rfl,afC _⟩ (aaL (by show 8-(bC []).length<16777216;omega))
 refine⟨a,?_,d⟩;refine ew rfl (cN (ez (by rw[<-hz];rfl)) (cN (ez (congrArg (λz=>pure (R.v (.str z))) QF)) (cN e rfl)))
def zG{a:List Nat}(h:a.all qP=true)(lo hi:Option Int):(cutD a lo hi).all qP=true:=af4.mpr λx b=>af4.mp h x (P9 b)
def UU(c:Int):∃a b d,va [.int c]=pure (.fr [.str (bC a),.str (bC b),.str (bC d)])/\e7 a/\e7 b/\e7 d:=by
 obtain⟨a,y,g⟩:=UT c;have yw:=g.yw;have n:(0:Int)<(a.length:Int):=by have:=g.p1;omega
 have B:a.length<=afe:=Dp (by omega);obtain⟨t,u,H⟩:∃t:Nat,c / 5 % (a.length:Int)=(t:Nat)/\t<a.length:=⟨(c / 5 % (a.length:Int)).toNat,by have:=mod_lt (a:=c / 5) n;omega⟩;obtain⟨x,ex⟩:=aav yw (i:=(t:Int)) (by omega) (by omega);generalize p:(ajb "abcdefghijklmnopqrstuvwxyz" (bC [x])+1+c / 7 % 25) % 26=f at *;have m:0<=f/\f<26:=by subst p;exact mod_lt (by decide)
 obtain⟨o,D,w⟩:=Er m.1 m.2;have cX:cutD a none (some (t:Int))=a.take t:=P7 _ _ (by omega);have k:cutD a (some ((t:Int)+1)) none=a.drop (t+1):=P8 a (t+1) (by omega);have q:cutD a none (some 7)=a.take 7:=Gu a 7;have E:(a.take t).length+[o].length<=1000:=by simp;omega
 have F:(a.take t).length+[o].length+(a.drop (t+1)).length<=1000:=by simp;omega
 have A:e7 (a.take t++[o]++a.drop (t+1)):=⟨by simp;omega,by simp;omega,by
  rw[aij,aij,<-cX,<-k,zG g.al,zG g.al];simpa using w⟩
 generalize a.take t=T at *;generalize a.drop (t+1)=σ at *;have cA:∀{U:aN}{i:Nat}{lo hi:mn}{l h:Option Int},I i U=pure (.v (.str (bC a)))->lo U=pure l->hi U=pure h->rJ (I i) lo hi U=pure (.v (.str (bC (cutD a l h)))):=λao aG cI=>by
  show(I _ _ >>= _)=_;rw[ao];rw[aG];rw[cI];simp[pQ,B,P5]
 have pre:∀{d},e7 d->Fs [.val (.int c),.val (.str "abcdefghijklmnopqrstuvwxyz"),.val (.str (bC a)),.val (.int t),.val (.str (bC [o])),.val (.str (bC (a++[120])))]=Ft [.val (.int c),.val (.str "abcdefghijklmnopqrstuvwxyz"),.val (.str (bC a)),.val (.int t),.val (.str (bC [o])),.val (.str (bC d))]->
   ∃a b d,va [.int c]=pure (.fr [.str (bC a),.str (bC b),.str (bC d)])/\e7 a/\e7 b/\e7 d:=λ{d} c2 e=>by
  refine⟨a,T++[o]++σ,d,Q7 rfl (cN rfl (cN (ez (call_of rfl y)) (cN (ez (aD (kW n) rfl (gp (uZ (by omega)) rfl))) ?_))),g,A,c2⟩;rw[u];refine cN (ez (aD D rfl ?_)) (cN (ez (aD (w1 (by simp;omega)) rfl (congrArg (λz=>pure (R.v (.str z))) ab1))) (e.trans ?_))
  .rw[<-p]
   refine aD (kW (by decide)) (aD rfl (aD (x:=.v (.int (ajb "abcdefghijklmnopqrstuvwxyz" (bC [x])))) rfl ?_ rfl) rfl) rfl;show(bW (aa bu (I 2) (I 3)) d7 _ >>= _)=_;rw[cons_of (aD ex rfl rfl) rfl];rfl
  .have r:=cA (U:=[.val (.int c),.val (.str "abcdefghijklmnopqrstuvwxyz"),.val (.str (bC a)),.val (.int t),.val (.str (bC [o])),.val (.str (bC d))]) (i:=2) (lo:=fR) (hi:=e2 (I 3)) rfl rfl rfl
   have s:=cA (U:=[.val (.int c),.val (.str "abcdefghijklmnopqrstuvwxyz"),.val (.str (bC a)),.val (.int t),.val (.str (bC [o])),.val (.str (bC d))]) (i:=2) (lo:=e2 (aa c0 (I 3) (ar 1))) (hi:=fR) rfl rfl rfl;rw[cX]at r;rw[k]at s;exact YW (Kf (cons_of rfl (cons_of (aD (w1 (by rw[afb];exact F)) (aD (w1 E) r rfl) s) (cons_of rfl rfl))) rfl (aff rfl))
 by_cases G:a.length=8
 .have j:(a.length:Int)=8:=by omega
  have s3:=cA (U:=[.val (.int c),.val (.str "abcdefghijklmnopqrstuvwxyz"),.val (.str (bC a)),.val (.int t),.val (.str (bC [o])),.val (.str (bC (a++[120])))]) (i:=2) (lo:=fR) (hi:=e2 (ar 7)) rfl rfl rfl;rw[q]at s3;exact pre ⟨by rw[afO];omega,by rw[afO];omega,by rw[<-q];exact zG g.al _ _⟩ (cN ((hG ((bR (aD h4 (gp (uZ (by omega)) rfl) rfl)).trans (dt j))).trans (ez s3)) rfl)
 .have j:¬((a.length:Int)=8):=by omega
  exact pre ⟨by simp,by simp;omega,by rw[aij,g.al];rfl⟩ (cN (hF ((bR (aD h4 (gp (uZ (by omega)) rfl) rfl)).trans (d0 j))) rfl)
def lr(n:Int):Prop:=-(10 ^ 40)<=n/\n<=10 ^ 40
def p2:e5->Prop
 |.put _ n=>lr n|.add _ n=>lr n|.swap _ _ n=>lr n|.sure _ _ n=>lr n|_=>True
def wL(W:List (List Nat))(x:Option e5):Prop:=∀y,x=some y->nr ft W y/\p2 y
def HA{W:List (List Nat)}{w:List Nat}(hw:e7 w)(j:w∈W)(N:List D)(d c n:Int)(i:lr n) :
  ∃x,z9 [.bF N,.val (.int d),.val (.int c),.val (.str (bC w)),.val (.int n),.val (.int (d / 96 % 4)),.val (.int (d % 16))]=pure (.b0 (.v (cQ x)))/\wL W x:=by
 have A:=mod_lt (a:=d) (b:=16) (by decide);have B:=mod_lt (a:=d / 96) (b:=3) (by decide);have z:=mod_lt (a:=d / 96) (b:=4) (by decide);generalize d / 96 % 4=g at *;generalize d % 16=y at *;have k':=hw.k'
 by_cases r:y<5
 .exact⟨some (.add w n),st (dt r) rfl,λy e=>by cases e;exact⟨⟨k',j⟩,i⟩⟩
 refine rR (c_ (d0 r) rfl) ?_
 by_cases p:y<7
 .exact⟨some (.put w n),st (dt p) rfl,λy e=>by cases e;exact⟨⟨k',j⟩,i⟩⟩
 refine rR (c_ (d0 p) rfl) ?_
 by_cases m:y=7
 .exact⟨some (.swap w (d / 96 % 3) n),st (dt m) rfl,λy e=>by cases e;exact⟨⟨k',j⟩,i⟩⟩
 refine rR (c_ (d0 m) rfl) ?_
 by_cases k:y=8
 .exact⟨some (.take g),st (dt k) rfl,λy e=>by cases e;exact⟨trivial,trivial⟩⟩
 refine rR (c_ (d0 k) rfl) ?_
 by_cases l:y=9
 .obtain⟨v,u,x,ex,o⟩:=pick (λv=>∃x,v=cQ x/\wL W x) [.t [.str "renew",.int g],.t [.str "free",.int g],.t [.str "sure",.int g,.str (bC w),.int n]] (d / 400) 3 rfl (by decide) (by
   simp only[afx];exact⟨⟨some (.renew g),rfl,λy e=>by cases e;exact⟨trivial,trivial⟩⟩,⟨some (.free g),rfl,λy e=>by cases e;exact⟨trivial,trivial⟩⟩,⟨some (.sure g w n),rfl,λy e=>by cases e;exact⟨⟨k',j⟩,i⟩⟩,λ_ h=>nomatch h⟩)
  subst ex;exact⟨x,st (dt l) (dw (aD (Jq u) rfl rfl)),o⟩
 refine rR (c_ (d0 l) rfl) ?_
 by_cases f:y=10\/y=11
 .obtain⟨h,e,s⟩:=US (d / 96)
  refine⟨some (.move (.t h)),st ?_ (dw (dS rfl (call_of rfl e))),λy e=>by cases e;exact⟨⟨⟨_,rfl⟩,s⟩,trivial⟩⟩;rcases f with f|f
  .exact CC (dt f)
  .exact(qY (d0 (by omega))).trans (dt f)
 refine rR (c_ ((qY (d0 λe=>f (.inl e))).trans (d0 λe=>f (.inr e))) rfl) ?_
 by_cases q:y=12
 .by_cases cR:d / 96 % 3=0
  .exact⟨some .fin,st ((qb (dt q)).trans (dt cR)) rfl,λy e=>by cases e;exact⟨trivial,trivial⟩⟩
  .exact⟨none,c_ ((qb (dt q)).trans (d0 cR)) rfl,λy e=>by cases e⟩
 .exact⟨none,c_ (wR (d0 q)) rfl,λy e=>by cases e⟩
def UP{a b d:List Nat}(k:e7 a)(j:e7 b)(hd:e7 d)(f c:Int):∃x,yb [.l [.str (bC a),.str (bC b),.str (bC d)],.int f,.int c]=pure (.v (cQ x))/\wL [a,b,d] x:=by
 obtain⟨v,m,w,rfl,hw,i⟩:=pick (λv=>∃w,v=.str (bC w)/\e7 w/\w∈[a,b,d]) [.str (bC a),.str (bC b),.str (bC d)] (f / 16) 3 rfl (by decide) (by simp only[afx];exact⟨⟨a,rfl,k,by simp⟩,⟨b,rfl,j,by simp⟩,⟨d,rfl,hd,by simp⟩,λ_ h=>nomatch h⟩);have q:=mod_lt (a:=c) (b:=10000000000000000000000000000000000000000) (by decide);have p:=mod_lt (a:=f / 96) (b:=3) (by decide);generalize[D.str (bC a),.str (bC b),.str (bC d)]=N at *;have pre:∀{n:Int}{x},bX (aO (aa oEq (aa oMod (aa er (I 1) (ar 48)) (ar 2)) (ar 1))) (bQ 4 (aa oMod (aa er (I 1) (ar 96)) (ar 3))) bN [.bF N,.val (.int f),.val (.int c),.val (.str (bC w)),.val (.int (c % 10000000000000000000000000000000000000000-100000000000000000000)),.emp,.emp]=pure (.a6 [.bF N,.val (.int f),.val (.int c),.val (.str (bC w)),.val (.int n),.emp,.emp])->z9 [.bF N,.val (.int f),.val (.int c),.val (.str (bC w)),.val (.int n),.val (.int (f / 96 % 4)),.val (.int (f % 16))]=pure (.b0 (.v (cQ x)))->yb [.l N,.int f,.int c]=pure (.v (cQ x)):=λao e=>
  ew rfl (cN (ez (aD (x:=.bF N) (by show(match dK N (f / 16 % 3)with|some d=>pure (R.v d)|none=>bad)=_;rw[m]) rfl rfl)) (cN (U':=[.bF N,.val (.int f),.val (.int c),.val (.str (bC w)),.val (.int (c % 10000000000000000000000000000000000000000-100000000000000000000)),.emp,.emp]) (by with_unfolding_all rfl) (cN ao (cN rfl (cN rfl e)))))
 by_cases g:f / 48 % 2=1
 .obtain⟨x,e,o⟩:=HA hw i N f c (f / 96 % 3) (by unfold lr;omega)
  exact⟨x,pre ((hG (dt g)).trans rfl) e,o⟩
 .obtain⟨x,e,o⟩:=HA hw i N f c (c % 10000000000000000000000000000000000000000-100000000000000000000) (by unfold lr;omega)
  exact⟨x,pre (hF (d0 g)) e,o⟩
theorem L2:∀{l:List (Z.κ.α×D)},(∀x∈l,vK Z x.2=some x.1)->ot Z (l.map (·.2))=some (l.map (·.1))
 |[],_=>rfl|x::l,h=>by
  rw[aft,aft];unfold ot;rw[h x afq,L2 λy a=>h y (afl _ a)]
theorem Np{α a:Type}:∀l:List (α×a),(l.map (·.1)).zip (l.map (·.2))=l
 |[]=>rfl| x::l=>by rw[aft,aft,agL,Np l]
def Ml[DecidableEq Z.κ.α]{l:List (Z.κ.α×D)}(h:∀x∈l,vK Z x.2=some x.1){r:R}(a:r.fp=some (l.map (·.2)))(b:(l.map (·.1)).Nodup)(c:l.length<64):rT Z [r]=pure (.fr ((ht Z.κ.blt l).map (·.2))):=by
 rw[QE,a];dsimp only;rw[L2 h];show(if jH Z.κ.blt (l.map (·.1))=true/\(l.map (·.1)).length<64 then _ else _)=_;rw[if_pos ⟨Ez b,by rw[sg];exact c⟩,Np]
def XG{i:Nat}{m:br}{U:aN}{xs:List D}(e:m U=pure (.fr xs)):mE i m U=pure (.a6 (U.set i (.dY false xs))):=by show(m U >>= _)=_;rw[e];rfl
def qT{a b:Int}:dI (.v (.int a)) (.v (.int b))=pure (.v (.aM (!decide (a=b)))):=rfl
def Ik{a b:Int}:sN (.v (.int a)) (.v (.int b))=pure (.v (.aM (decide (a≥b)))):=rfl
def oC{a b c d:br}{U:aN}{x y z u:D}(ao:a U=pure (.v x))(aG:b U=pure (.v y))(cI:c U=pure (.v z))(dh:d U=pure (.v u)):a0 (bW a (bG b c d)) U=pure (.v (.t [x,y,z,u])):=by
 show(bW a (bG b c d) U >>= _)=_;rw[cons_of ao (cons_of aG (cons_of cI (cons_of dh rfl)))];rfl
section
variable{l:nD}(h:∀x∈l,jy x)
include h
theorem BM{a:List Nat}(g:jZ a):B3 [.t (l.map (·.2)),.str (bC a)]=pure (.v (.int (gT (dB (Q:=dq) l a)))):=by
 have L:=uw (b:=λd U=>JX (U.set 2 (.val d))) (λx:List Nat×D=>x.2) (λx=>decide (x.1=a)) (λx=>.v (.int (gT (some x.2)))) (λU=>∃f,U=[.val (.t (l.map (·.2))),.val (.str (bC a)),f]) l [.val (.t (l.map (·.2))),.val (.str (bC a)),.emp] ⟨_,rfl⟩
  (λx U c ⟨f,aw⟩=>by
   subst aw;have eE:=(h x c).eE;have eq:=HU (h x c).1.1 g.1;obtain⟨_,n,_,e⟩:=h x c;refine⟨λq=>?_,λq=>⟨[.val (.t (l.map (·.2))),.val (.str (bC a)),.val x.2],?_,_,rfl⟩⟩
   .rw[q]at eq
    rw[e]at eE ⊢;exact(hG (bR (aD eq (aD eE rfl rfl) rfl))).trans (dw rfl)
   .rw[q]at eq
    exact hF (bR (aD eq (aD eE rfl rfl) rfl)))
 refine ew rfl ?_;unfold dB
 cases e:l.find? (λx=>decide (x.1=a))with
 |some x=>exact tb (L.1 x e)|none=>
  obtain⟨U',i,f,rfl⟩:=L.2 e;exact(d4 i).trans rfl
theorem xX(d:jX dq l)(j:l.length<60){a:List Nat}(g:jZ a)(n:Int):sF [.t (l.map (·.2)),.str (bC a),.int n]=pure (.v (.t ((ie l a n).map (·.2)))):=by
 have cX:iD (aO (aa dI (aI 0 0) (I 1))) (I 0) [.emp,.val (.str (bC a))] (l.map (·.2))=pure ((hj (Q:=dq) l a).map (·.2)):=
  o5 (λx:List Nat×D=>x.2) (λx=>!decide (x.1=a)) (λx=>x.2) l (λx b=>bR (aD (Kw (h x b).1.1 g.1) (aD (h x b).eE rfl rfl) rfl)) λx _ _=>uh rfl
 have f:∀x:List Nat×D,jy x->vK jn x.2=some x.1:=λx b=>by obtain⟨_,m,_,e⟩:=b;rw[e];rfl
 have i:∀x∈hj (Q:=dq) l a,jy x:=λx b=>h x ((ql (Q:=dq)).mp b).1
 have dl:(hj (Q:=dq) l a).length<=l.length:=ah4 _ _;refine ew rfl ((d4 (XG (qi rfl (by rw[sg];exact f3 (by omega)) cX))).trans ?_)
 by_cases c:n=0
 .refine(d4 (hF (bR (aD (qT.trans (by rw[decide_eq_true c];rfl)) rfl rfl)))).trans ?_
  refine(dw (gp rfl (cons_of (gp (Ml (λx b=>f x (i x b)) rfl (AB _ d.nodup) (by omega)) rfl) rfl))).trans ?_;unfold ie;rw[if_pos c,Mk (AD a d)]
 .refine(d4 ((hG (bR (aD (qT.trans (by rw[decide_eq_false c];rfl)) rfl rfl))).trans (EA rfl (cons_of (dS rfl rfl) rfl) (by rw[sg];exact f3 (by omega))))).trans ?_
  refine(dw (gp rfl (cons_of (gp (Ml (l:=jr (Q:=dq) l (a,.t [.str (bC a),.int n])) (λx b=>?_) (by unfold jr;rw[afo];rfl) (vE _ d.nodup) (by have:=yF (Q:=dq) l (a,.t [.str (bC a),.int n]);omega)) rfl) rfl))).trans ?_
  .rcases(vD (Q:=dq)).mp b with⟨b,_⟩|rfl
   .exact f x (h x b)
   .rfl
  .unfold ie
   rw[if_neg c];rfl
end
def UW{l:List (Int×D)}(h:∀x∈l,ny x)(c le bA:D)(a:Int):B8 [.t [c,.t (l.map (·.2)),le,bA],.int a]=pure (.v (.int (gv (dB (Q:=fB) l a)))):=by
 have L:=uw (b:=λd U=>JZ (U.set 2 (.val d))) (λx:Int×D=>x.2) (λx=>decide (x.1=a)) (λx=>.v (.int (gv (some x.2)))) (λU=>∃f,U=[.val (.t [c,.t (l.map (·.2)),le,bA]),.val (.int a),f]) l [.val (.t [c,.t (l.map (·.2)),le,bA]),.val (.int a),.emp] ⟨_,rfl⟩
  (λx U g ⟨f,aw⟩=>by
   subst aw;obtain⟨n,z,e⟩:=h x g;refine⟨λq=>?_,λq=>⟨[.val (.t [c,.t (l.map (·.2)),le,bA]),.val (.int a),.val x.2],?_,_,rfl⟩⟩
   .rw[e]
    exact(hG (bR (aD (h4.trans (by rw[q])) (aD rfl rfl rfl) rfl))).trans (dw rfl)
   .rw[e]
    exact hF (bR (aD (h4.trans (by rw[q])) (aD rfl rfl rfl) rfl)))
 refine ew rfl ?_;unfold dB
 cases e:l.find? (λx=>decide (x.1=a))with
 |some x=>exact tb (L.1 x e)|none=>
  obtain⟨U',i,f,rfl⟩:=L.2 e;exact(d4 i).trans rfl
def QR{t:D}(a:t.bt 63=true)(i:Int):oEq (.v t) (.v (.int i))=pure (.v (.aM (cP t (.int i)))):=nN (x:=.v t) (y:=.v (.int i)) (Ij (n:=63) (m:=64) (by decide) a) rfl
def qK{xs:List D}{x:D}(k:Nat)(e:xs[k]? = some x):bu (.v (.t xs)) (.v (.int (k:Nat)))=pure (.v x):=by
 show(match dK xs (k:Nat)with|some d=>pure (R.v d)|none=>bad)=_;rw[jd k e]
def ig{U:aN}{w x:Str}{ds:List D}{b:Bool}(q:oEq (.v (.str w)) (.v (.str x))=pure (.v (.aM b)))(e:I 2 U=pure (.v (.t (.str w::ds))):=by rfl):aO (aa oEq (aI 2 0) (aH (.str x))) U=pure b:=bR (aD q (aD (qK 0 rfl) e rfl) rfl)
abbrev DJ(x y:Str)(b:Bool):Prop:=oEq (.v (.str x)) (.v (.str y))=pure (.v (.aM b))
abbrev TN(x:Str)(b:Bool):Prop:=kZ false (.v (.str x)) (.fr [.str "take",.str "renew",.str "free",.str "sure"])=pure (.v (.aM b))
def n7{U:aN}{w:Str}{ds:List D}{b:Bool}(q:TN w b)(e:I 2 U=pure (.v (.t (.str w::ds))):=by rfl):aO (aa (kZ false) (aI 2 0) (e1 (bW (aH (.str "take")) (bG (aH (.str "renew")) (aH (.str "free")) (aH (.str "sure")))))) U=pure b:=bR (aD q (aD (qK 0 rfl) e rfl) rfl)
section
variable{G:aY.D->Prop}{W:List (List Nat)}{s:b'}(h:dU G W s)
include h
theorem xY(i g:Int){w:Str}{ds:List D}{b:Bool}(q:dI (.v (.str w)) (.v (.str "take"))=pure (.v (.aM b)))(d:Slot)(a:bc):bz (bQ 7 (aa oEq (aI 5 0) (aI 2 1)))
  (bz (bX (aO (aa dI (aI 2 0) (aH (.str "take")))) (bQ 7 (jJ (I 7) (aa oEq (aI 5 1) (I 1)))) bN) a)
  [.val s.D,.val (.int i),.val (.t (.str w::.int g::ds)),.val (.t (s.cs.map (·.2))),.val (.t (s.ds.map (·.2))),.val (.t [.int s.f,s.t]),.val s.bA,d] =
  a [.val s.D,.val (.int i),.val (.t (.str w::.int g::ds)),.val (.t (s.cs.map (·.2))),.val (.t (s.ds.map (·.2))),.val (.t [.int s.f,s.t]),.val s.bA,.val (.aM (if b then s.i0 g i else decide (s.f=g)))]:=by
 refine(d4 (ez (aD h4 (aD rfl rfl rfl) (aD (qK 1 rfl) rfl rfl)))).trans ?_
 cases b with
 |false=>exact d4 (hF (bR (aD q (aD (qK 0 rfl) rfl rfl) rfl)))|true=>
  refine d4 ((hG (bR (aD q (aD (qK 0 rfl) rfl rfl) rfl))).trans (ez ?_));unfold b'.i0
  by_cases c:s.f=g
  .rw[decide_eq_true c,c,beq_self_eq_true,Bool.true_and]
   exact(and_1 rfl).trans (aD (QR h.b_ i) (aD rfl rfl rfl) rfl)
  .rw[decide_eq_false c,beq_false_of_ne c]
   rfl
theorem xW(e:s.cs.length<60)(i:Int){d:e5}(hd:nr G W d)(k:(∃g,d=.take g)\/(∃g,d=.renew g)\/(∃g,d=.free g)\/∃g a n,d=.sure g a n):B5 [s.D,.int i,d.D]=pure (.v (.t [(c5 s i d).1.D,(c5 s i d).2])):=by
 rcases k with⟨g,rfl⟩|⟨g,rfl⟩|⟨g,rfl⟩|⟨g,a,n,rfl⟩
 .refine ew rfl ((d4 (jv rfl rfl)).trans ?_)
  refine(xY h i g (b:=false) (by kernel_rfl) _ _).trans ?_;refine c_ (ig (b:=false) (by kernel_rfl)) ?_
  by_cases c:s.f=g
  .rw[show c5 s i (.take g)=({ s with f:=g+1,t:=.int i },.t [.int 1,.int (g+1),.int i])from if_pos c]
   subst c;rw[if_neg afc,decide_eq_true rfl];exact(d4 ((hG (bR rfl)).trans (ez (dS rfl (aD rfl rfl (gp rfl (cons_of (aD (show DJ "take" "free" false by kernel_rfl) (aD rfl rfl rfl) rfl) rfl))))))).trans rfl
  .rw[show c5 s i (.take g)=(s,.t [.int 0,.int s.f,s.t])from if_neg c,if_neg afc,decide_eq_false c]
   exact(d4 (hF (bR rfl))).trans rfl
 .refine ew rfl ((d4 (jv rfl rfl)).trans ?_)
  refine(xY h i g (b:=true) (by kernel_rfl) _ _).trans ?_;refine c_ (ig (b:=false) (by kernel_rfl)) ?_
  cases c:s.i0 g i with
  |true=>
   rw[show c5 s i (.renew g)=({ s with f:=g+1,t:=.int i },.t [.int 1,.int (g+1),.int i])from if_pos c,if_pos rfl];obtain rfl:s.f=g:=by unfold b'.i0 at c;exact eq_of_beq (agG.mp c).1
   exact(d4 ((hG (bR rfl)).trans (ez (dS rfl (aD rfl rfl (gp rfl (cons_of (aD (show DJ "renew" "free" false by kernel_rfl) (aD rfl rfl rfl) rfl) rfl))))))).trans rfl
  |false=>
   rw[show c5 s i (.renew g)=(s,.t [.int 0,.int s.f,s.t])from if_neg (by rw[c];exact afc),if_pos rfl];exact(d4 (hF (bR rfl))).trans rfl
 .refine ew rfl ((d4 (jv rfl rfl)).trans ?_)
  refine(xY h i g (b:=true) (by kernel_rfl) _ _).trans ?_;refine c_ (ig (b:=false) (by kernel_rfl)) ?_
  cases c:s.i0 g i with
  |true=>
   rw[show c5 s i (.free g)=({ s with f:=g+1,t:=.aF },.t [.int 1,.int (g+1),.aF])from if_pos c,if_pos rfl];obtain rfl:s.f=g:=by unfold b'.i0 at c;exact eq_of_beq (agG.mp c).1
   exact(d4 ((hG (bR rfl)).trans (ez (dS rfl (aD rfl rfl (gp rfl (cons_of (aD (show DJ "free" "free" true by kernel_rfl) (aD rfl rfl rfl) rfl) rfl))))))).trans rfl
  |false=>
   rw[show c5 s i (.free g)=(s,.t [.int 0,.int s.f,s.t])from if_neg (by rw[c];exact afc),if_pos rfl];exact(d4 (hF (bR rfl))).trans rfl
 .refine ew rfl ((d4 (jv rfl rfl)).trans ?_)
  refine(xY h i g (b:=true) (by kernel_rfl) _ _).trans ?_;refine st (ig (b:=true) (by kernel_rfl)) ?_
  cases c:s.i0 g i with
  |true=>
   rw[show c5 s i (.sure g a n)=(s.put a n,.int 1)from if_pos c,if_pos rfl];exact(d4 ((hG (bR rfl)).trans (ez (call_of rfl (xX h.row h.rise e hd.1 n))))).trans rfl
  |false=>
   rw[show c5 s i (.sure g a n)=(s,.int 0)from if_neg (by rw[c];exact afc),if_pos rfl];exact(d4 (hF (bR rfl))).trans rfl
theorem UX(f:s.cs.length<60)(i:Int){d:e5}(hd:nr G W d):B9 [s.D,.int i,d.D]=pure (.v (.t [(c5 s i d).1.D,(c5 s i d).2])):=by
 have cA:c3 (c5 s i d).2=.val (c5 s i d).2:=CE h i d
 cases d with
 |take g=>
  have e:=xW h f i hd (.inl ⟨_,rfl⟩);refine ew rfl ((d4 (jv rfl rfl)).trans ?_);refine st (n7 (b:=true) (by kernel_rfl)) ?_;exact dw (call_of (rs:=[.v s.D,.v (.int i),.v (e5.take g).D]) rfl e)
 |renew g=>
  have e:=xW h f i hd (.inr (.inl ⟨_,rfl⟩));refine ew rfl ((d4 (jv rfl rfl)).trans ?_);refine st (n7 (b:=true) (by kernel_rfl)) ?_;exact dw (call_of (rs:=[.v s.D,.v (.int i),.v (e5.renew g).D]) rfl e)
 |free g=>
  have e:=xW h f i hd (.inr (.inr (.inl ⟨_,rfl⟩)));refine ew rfl ((d4 (jv rfl rfl)).trans ?_);refine st (n7 (b:=true) (by kernel_rfl)) ?_;exact dw (call_of (rs:=[.v s.D,.v (.int i),.v (e5.free g).D]) rfl e)
 |sure g a n=>
  have e:=xW h f i hd (.inr (.inr (.inr ⟨_,_,_,rfl⟩)));refine ew rfl ((d4 (jv rfl rfl)).trans ?_);refine st (n7 (b:=true) (by kernel_rfl)) ?_;exact dw (call_of (rs:=[.v s.D,.v (.int i),.v (e5.sure g a n).D]) rfl e)
 |move z=>
  obtain⟨⟨xs,rfl⟩,_⟩:=hd;refine ew rfl ((d4 (jv rfl rfl)).trans ?_);exact c_ (n7 (b:=false) (by kernel_rfl)) (st (ig (b:=true) (by kernel_rfl)) rfl)
 |fin=>
  refine ew rfl ((d4 (jv rfl rfl)).trans ?_);exact c_ (n7 (b:=false) (by kernel_rfl)) (c_ (ig (b:=false) (by kernel_rfl)) (st (ig (b:=true) (by kernel_rfl)) rfl))
 |put a n=>
  refine ew rfl ((d4 (jv rfl rfl)).trans ?_);exact c_ (n7 (b:=false) (by kernel_rfl)) (c_ (ig (b:=false) (by kernel_rfl)) (c_ (ig (b:=false) (by kernel_rfl)) ((d4 (ez (call_of rfl (BM h.row hd.1)))).trans
   (st (ig (b:=true) (by kernel_rfl)) (dw (dS (oC (call_of rfl (xX h.row h.rise f hd.1 n)) rfl rfl rfl) rfl))))))
 |add a n=>
  refine ew rfl ((d4 (jv rfl rfl)).trans ?_);show _=pure (fK.b0 (R.v (.t [(s.put a (s.cell a+n)).D,.int (s.cell a+n)])));exact c_ (n7 (b:=false) (by kernel_rfl)) (c_ (ig (b:=false) (by kernel_rfl)) (c_ (ig (b:=false) (by kernel_rfl)) ((d4 (ez (call_of rfl (BM h.row hd.1)))).trans
   (c_ (ig (b:=false) (by kernel_rfl)) (st (ig (b:=true) (by kernel_rfl)) (dw (dS (oC (call_of rfl (xX h.row h.rise f hd.1 (s.cell a+n))) rfl rfl rfl) rfl)))))))
 |swap a o n=>
  refine ew rfl ((d4 (jv rfl rfl)).trans ?_);refine c_ (n7 (b:=false) (by kernel_rfl)) (c_ (ig (b:=false) (by kernel_rfl)) (c_ (ig (b:=false) (by kernel_rfl)) ((d4 (ez (call_of rfl (BM h.row hd.1)))).trans
   (c_ (ig (b:=false) (by kernel_rfl)) (c_ (ig (b:=false) (by kernel_rfl)) ?_)))))
  by_cases c:gT (dB (Q:=dq) s.cs a)=o
  .rw[show c5 s i (.swap a o n)=(s.put a n,.int 1)from if_pos c]
   exact c_ (bR (aD (qT.trans (by rw[decide_eq_true c];rfl)) rfl (aD rfl rfl rfl))) (dw (dS (oC (call_of rfl (xX h.row h.rise f hd.1 n)) rfl rfl rfl) rfl))
  .rw[show c5 s i (.swap a o n)=(s,.int 0)from if_neg c]
   exact st (bR (aD (qT.trans (by rw[decide_eq_false c];rfl)) rfl (aD rfl rfl rfl))) rfl
theorem UQ(w:W.length<59)(i n:Int){d:Option e5}(hd:∀x,d=some x->nr G W x):u_ [s.D,.int i,.int n,cQ d]=pure (.v (e_ s i n d).D):=by
 have cA:c3 (cQ d)=.val (cQ d):=by rcases d with _|d|_|_|_<;>rfl
 have dl:=h.dl;have cl:s.cs.length<60:=by have:=h.cl;omega
 have b:(s.ds.map (·.2)).length<afe:=by rw[sg];exact f3 (by omega)
 refine ew rfl ?_;show Fo [.val s.D,.val (.int i),.val (.int n),c3 (cQ d),.emp,.emp,.emp]=_;rw[cA]
 cases d with
 |none=>exact tb ((hG (CC (bR rfl))).trans (dw rfl))|some d=>
  have nn:fq (.v d.D) (.v .aF)=pure (.v (.aM false)):=by cases d<;>rfl
  have hd:=hd d rfl;unfold e_;dsimp only;have g:=UW h.num (.t (s.cs.map (·.2))) (.t [.int s.f,s.t]) s.bA i
  cases q:eY s.bA with
  |false=>
   exact tb ((hG ((qY (bR (aD nn rfl rfl))).trans (CC (bR (aD ((yn s.bA).trans (by rw[q];rfl)) (aD rfl rfl rfl) rfl))))).trans (dw rfl))
  |true=>
  by_cases c:n<=s.last i
  .rw[if_neg λz=>absurd z.2 (aiX.mpr c)]
   exact tb ((hG ((qY (bR (aD nn rfl rfl))).trans ((qY (bR (aD ((yn s.bA).trans (by rw[q];rfl)) (aD rfl rfl rfl) rfl))).trans (bR (aD (Ik.trans (by rw[show decide (gv (dB (Q:=fB) s.ds i)≥n)=true from decide_eq_true c])) (call_of rfl g) rfl))))).trans (dw rfl))
  .rw[if_pos ⟨rfl,Int.not_le.mp c⟩]
   have de:=CE h i d;have j:=CD s i d;refine(d4 (hF ((qY (bR (aD nn rfl rfl))).trans ((qY (bR (aD ((yn s.bA).trans (by rw[q];rfl)) (aD rfl rfl rfl) rfl))).trans (bR (aD (Ik.trans (by rw[show decide (gv (dB (Q:=fB) s.ds i)≥n)=false from decide_eq_false c])) (call_of rfl g) rfl)))))).trans<|(d4 (jv (call_of rfl (UX h cl i hd)) rfl)).trans ?_
   have u:c3 (c5 s i d).1.D=.val (c5 s i d).1.D:=rfl;show Fp [_,_,_,_,.val (c5 s i d).1.D,.val (c5 s i d).2,_]=_;generalize c5 s i d=o at *;obtain⟨⟨p,y,A,t',sh'⟩,v⟩:=o;dsimp only at j de ⊢;subst j;have k:iD (aO (aa dI (aI 0 0) (I 1))) (I 0) [.emp,.val (.int i)] (s.ds.map (·.2))=pure ((hj (Q:=fB) s.ds i).map (·.2)):=
    o5 (λx:Int×D=>x.2) (λx=>!decide (x.1=i)) (λx=>x.2) s.ds (λx a=>by
     obtain⟨m,z,e⟩:=h.num x a;rw[e];exact bR (aD qT (aD rfl rfl rfl) rfl)) λx _ _=>uh rfl
   refine(d4 (yJ (qi rfl b k) rfl)).trans (dw (oC (aD rfl rfl rfl) (gp rfl (cons_of (x:=.fr ((kk (Q:=fB) s.ds (i,.t [.int i,.int n,v])).map (·.2))) ?_ rfl)) (aD rfl rfl rfl) (aD rfl rfl rfl)));have de:=yL (Z:=fo) (λ_=>rfl) (mf:=yc) (l:=jr (Q:=fB) s.ds (i,.t [.int i,.int n,v])) (λx a=>by
    rcases(vD (Q:=fB)).mp a with⟨a,_⟩|rfl
    .exact xV (h.num x a).uj
    .exact xV ⟨.int n,v,rfl⟩) (r:=.fr ((hj (Q:=fB) s.ds i).map (·.2)++[.t [.int i,.int n,v]])) (by
     show some _=some _;unfold jr;rw[afo];rfl) (vE _ h.dv.nodup) (by have:=yF (Q:=fB) s.ds (i,.t [.int i,.int n,v]);omega)
   show(aa qV _ _ _ >>= nQ fo yc)=_;rw[aD (PR ?_) rfl (Kf (cons_of (m9 rfl rfl rfl) rfl) rfl (aff rfl))]
   .exact de
   .have:=w5 (Q:=fB) s.ds i
    refine Dp ?_;rw[sg];show _+1<=1000;omega
end
structure aJ where
 e:Int
 k:Int
 a:Int
 p:Int×Int
 m:Int
 d:Option e5
 w:b'
def cK(s:Int×Int):D:=.t [.int s.1,.int s.2]
def aJ.D(l:aJ):aY.D:=.t [.int l.e,cK (l.k,l.a),cK l.p,.int l.m,cQ l.d,l.w.D]
structure hY where
 e:Int
 s:Option (Int×Int)
 w:b'
def tg:Option (Int×Int)->D
 |none=>.aF|some s=>cK s
def hY.D(x:hY):aY.D:=.t [.int x.e,tg x.s,x.w.D]
inductive dQ where
 |saw (x:hY)|did (z:aY.D)|over
def dQ.D:dQ->aY.D
 |.saw x=>.t [.str "saw",x.D]|.did z=>.t [.str "did",z]|.over=>.t [.str "over",.aF]
inductive aV where
 |cm (a m:Int) (d:aY.D) (t:Int)|fin (a m:Int) (o:dQ) (t:Int)
def aV.D:aV->aY.D
 |.cm a m d t=>.t [.str "begin",.int a,.int m,d,.int t]|.fin a m o t=>.t [.str "end",.int a,.int m,o.D,.int t]
def oZ:b':=⟨[],[],0,.aF,.aF⟩
def hI(L:List aJ):b':=match L.getLast? with
 |some l=>l.w|none=>oZ
def ahead(L:List aJ):Nat->b'
 |0=>oZ|q+1=>match L[q]?,L[q+1]? with
  |some x,some y=>if x.e=y.e then x.w else x.w.gg|_,_=>oZ
def gJ(s:b')(a m:Int):Bool:=s.ds.any λx=>decide (x.1=a)&&decide (gv (some x.2)=m)
def fS(L:List aJ)(p:Nat):Option (Int×Int):=match L[p]? with
 |some l=>if(gJ l.w l.a l.m&&!gJ (ahead L p) l.a l.m)=true then some (l.a,l.m)else none|none=>none
def m7(L:List aJ)(e:Int)(s:Int×Int):Option Nat:=L.zipIdx.findSome? λx=>if x.1.e=e/\(x.1.k,x.1.a)=s then some x.2 else none
def eZ(L:List aJ)(x:hY):Option Int:=match x.s with
 |none=>if L.length=0 then none else some ((L.length:Int)-1)|some s=>if s=(0,0)then some (((L.filter λl=>decide (l.e<x.e)).length:Int)-1)else(m7 L x.e s).map aht
def intD:Option Int->D
 |some i=>.int i|none=>.aF
def j6(L:List aJ)(x:hY):Option Str:=match eZ L x with
 |none=>some "lost"|some p=>if cP (if x.s=some (0,0)then(hI (L.take (p+1).toNat)).gg else hI (L.take (p+1).toNat)).D x.w.D=true then none else some "lie"
def Dy:Option Str->D
 |some x=>.str x|none=>.aF
def oi{α:Type}{m:M α}{a:α}(h:∀S,ax S m a):m=pure a:=M.ext λS=>h S
section
variable{S:b1}{U U':aN}
def n5{t:aN->M Bool}{a b:bc}{c:fK}(h:ax S (t U) false)(d:ax S (b U) c):ax S (bz (bX t a bN) b U) c:=fG (h6 h (.of rfl)) d
def sj{t:aN->M Bool}{a b:bc}{r:R}(h:ax S (t U) true)(c:ax S (a U) (.b0 r)):ax S (bz (bX t a bN) b U) (.b0 r):=JH (gY h c)
def eM{i:Nat}{m:br}{d:D}(h:ax S (m U) (.v d)):ax S (bQ i m U) (.a6 (U.set i (.val d))):=JI h rfl
def si{t:aN->M Bool}{a b:br}{r:R}(h:ax S (t U) true)(c:ax S (a U) r):ax S (j3 t a b U) r:=h.bind (by rw[if_pos rfl];exact c)
def sh{t:aN->M Bool}{a b:br}{r:R}(h:ax S (t U) false)(c:ax S (b U) r):ax S (j3 t a b U) r:=h.bind (by rw[if_neg afc];exact c)
def JC{t:aN->M Bool}{a b:br}{x y:D}{c:Bool}(h:ax S (t U) c)(d:c=true->ax S (a U) (.v x))(e:c=false->ax S (b U) (.v y)):ax S (j3 t a b U) (.v (if c=true then x else y)):=by
 cases c with
 |true=>exact si h (d rfl)|false=>exact sh h (e rfl)
def Jz{a b:br}{x y:Bool}(h:ax S (a U) (.v (.aM x)))(c:ax S (b U) (.v (.aM y))):ax S (jJ a b U) (.v (.aM (x&&y))):=by
 cases x with
 |true=>exact h.bind c|false=>exact h.bind (.of rfl)
theorem uT{α:Type}{b:D->bc}(f:α->D)(v:α->Option D)(J:aN->Prop):∀(xs:List α)(U:aN),J U->(∀x∈xs,∀U,J U->(∀d,v x=some d->ax S (b (f x) U) (.b0 (.v d)))/\(v x=none->∃U',ax S (b (f x) U) (.a6 U')/\J U'))->
  (∀d,xs.findSome? v=some d->ax S (hk b (xs.map f) U) (.b0 (.v d)))/\(xs.findSome? v=none->∃U',ax S (hk b (xs.map f) U) (.a6 U')/\J U')
 |[],U,h,_=>⟨λd e=>(by cases e),λ_=>⟨U,.of rfl,h⟩⟩
 |x::xs,U,h,st=>by
  obtain⟨m,n⟩:=st x (afq ..) U h
  cases e:v x with
  |some d=>exact⟨λd' a=>by rw[aga,e]at a;cases a;exact(m d e).bind (.of rfl),λa=>by rw[aga,e]at a;cases a⟩|none=>
   obtain⟨k,ao,c⟩:=n e;obtain⟨l,p⟩:=uT f v J xs k c λy i=>st y (afl _ i)
   rw[aga,e];exact⟨λd a=>ao.bind (l d a),λa=>by obtain⟨j,aG,g⟩:=p a;exact⟨j,ao.bind aG,g⟩⟩
theorem HQ{α:Type}(f:α->D):∀(xs:List α)(j:Nat),gU j (xs.map f)=(xs.zipIdx j).map λx=>.t [.int (x.2:Nat),f x.1]
 |[],_=>rfl|x::xs,j=>by
  rw[aft,ahv,aft,<-HQ f xs (j+1)];rfl
def xJ{α:Type}{i j:Nat}{ms:cJ}{b rest:bc}{z:D}(f:α->D)(v:α×Nat->Option D)(J:aN->Prop){xs:List α}(h:ax S (ms U) [.bF (xs.map f)])(m:J U)(st:∀x∈xs.zipIdx,∀U,J U->(∀d,v x=some d->ax S (b (iI [i,j] [.int (x.2:Nat),f x.1] U)) (.b0 (.v d)))/\(v x=none->∃U',ax S (b (iI [i,j] [.int (x.2:Nat),f x.1] U)) (.a6 U')/\J U'))
  (c:∀U,J U->ax S (rest U) (.b0 (.v z))):ax S (bz (mD [i,j] ms b) rest U) (.b0 (.v ((xs.zipIdx.findSome? v).getD z))):=by
 have a:∀{o},ax S (hk (tm [i,j] b) (xs.zipIdx.map λx=>.t [.int (x.2:Nat),f x.1]) U) o->ax S (mD [i,j] ms b U) o:=λe=>h.bind (by rw[<-HQ f xs 0]at e;exact e)
 obtain⟨k1,k2⟩:=uT (S:=S) (b:=tm [i,j] b) (λx:α×Nat=>.t [.int (x.2:Nat),f x.1]) v J xs.zipIdx U m λx k U n=>st x k U n
 cases e:xs.zipIdx.findSome? v with
 |some d=>exact JH (a (k1 d e))|none=>obtain⟨l,ao,g⟩:=k2 e;exact fG (a ao) (c l g)
end
def uS{xs:List D}{x:D}(k:Nat)(e:xs[k]? = some x):bu (.bF xs) (.v (.int (k:Nat)))=pure (.v x):=by
 show(match dK xs (k:Nat)with|some d=>pure (R.v d)|none=>bad)=_;rw[jd k e]
def BO(xs:List D):c8 [.bF xs]=pure (.v (.int (xs.length:Nat))):=rfl
def zP{α:Type}{xs:List α}{x:α}(h:xs.getLast? = some x):dK xs (-1)=some x:=by
 unfold dK mW;rw[if_neg (by decide)];have a:0<xs.length:=by
  cases xs with
  |nil=>cases h
  |cons _ _=>simp
 rw[if_pos (by omega)];show xs[((-1:Int)+(xs.length:Nat)).toNat]? = some x;rw[show((-1:Int)+(xs.length:Nat)).toNat=xs.length-1 by omega,<-agn];exact h
def UK(L:List aJ):BZ [.l (L.map aJ.D)]=pure (.v (hI L).D):=by
 refine ew rfl ?_
 cases e:L.getLast? with
 |none=>
  obtain rfl:L=[]:=ahC.mp e;rfl
 |some l=>
  have a:L≠[]:=λz=>by rw[z]at e;cases e
  have b:((L.map aJ.D).length:Int)≠0:=by rw[sg];have:=ag5.mpr a;omega
  have el:(L.map aJ.D).getLast? = some l.D:=by rw[aiO,e];rfl
  refine c_ (bR (aD (h4.trans (by rw[decide_eq_false b])) (gp (BO _) rfl) rfl)) (dw (aD (x:=.v l.D) ?_ (aD (x:=.bF (L.map aJ.D)) (y:=.v (.int (-1))) ?_ rfl rfl) rfl))
  .unfold hI;rw[e];rfl
  .show(match dK (L.map aJ.D) (-1)with|some d=>pure (R.v d)|none=>bad)=_
   rw[zP el]
def Mg{L:List aJ}{p:Nat}(h:p<L.length):qR [.l (L.map aJ.D),.int p]=pure (.v (ahead L p).D):=by
 refine ew rfl ?_
 cases p with
 |zero=>exact st (bR (aD (x:=.v (.int ((0:Nat):Int))) rfl rfl rfl)) rfl|succ q=>
  have a:L[q]? = some L[q]:=afi (by omega);have b:L[q+1]? = some L[q+1]:=afi h;generalize L[q]=x at a;generalize L[q+1]=y at b;have g:(L.map aJ.D)[q]? = some x.D:=by rw[afh,a];rfl
  have i:(L.map aJ.D)[q+1]? = some y.D:=by rw[afh,b];rfl
  have sub:gw (.v (.int ((q+1:Nat):Int))) (.v (.int 1))=pure (.v (.int (q:Nat))):=by
   show pure (R.v (.int (((q+1:Nat):Int)-1)))=_;rw[show((q+1:Nat):Int)-1=(q:Nat)by omega]
  have d:∀f,aa bu (I 0) (aa gw (I 1) (ar 1)) [.bF (L.map aJ.D),.val (.int ((q+1:Nat):Int)),f]=pure (.v x.D):=λf=>aD (uS q g) rfl (aD sub rfl rfl)
  rw[show ahead L (q+1)=if x.e=y.e then x.w else x.w.gg by unfold ahead;dsimp only;rw[a,b]];refine c_ (bR (aD (h4.trans (by rw[decide_eq_false (by omega)])) rfl rfl)) (cN (ez (aD (x:=.v x.D) rfl (d .emp) rfl)) ?_);have ne:aO (aa dI (c1 (aa bu (I 0) (aa gw (I 1) (ar 1))) 0) (c1 (aa bu (I 0) (I 1)) 0)) [.bF (L.map aJ.D),.val (.int ((q+1:Nat):Int)),.val x.w.D]=pure (!decide (x.e=y.e)):=
   bR (aD (x:=.v (.int x.e)) (y:=.v (.int y.e)) qT (aD (x:=.v x.D) rfl (d _) rfl) (aD (x:=.v y.D) rfl (aD (uS (q+1) i) rfl rfl) rfl))
  by_cases c:x.e=y.e
  .rw[if_pos c]
   exact c_ (ne.trans (by rw[decide_eq_true c];rfl)) rfl
  .rw[if_neg c]
   exact st (ne.trans (by rw[decide_eq_false c];rfl)) (dw (call_of rfl (KV x.w)))
def IJ{s:b'}(h:∀x∈s.ds,ny x)(f:s.ds.length<=6)(a m:Int):pA [s.D,.int a,.int m]=pure (.v (.aM (gJ s a m))):=by
 have d:iD oy (jJ (aa oEq (aI 0 0) (I 1)) (aa oEq (aI 0 1) (I 2))) [.emp,.val (.int a),.val (.int m)] (s.ds.map (·.2))=pure (s.ds.map λx=>.aM (decide (x.1=a)&&decide (gv (some x.2)=m))):=
  Gm (λx:Int×D=>x.2) (λx=>.aM (decide (x.1=a)&&decide (gv (some x.2)=m))) s.ds λx b=>by
   obtain⟨n,z,e⟩:=h x b;refine uh ?_;rw[e];exact oi λS=>Jz (.of (aD h4 (aD rfl rfl rfl) rfl)) (.of (aD h4 (aD rfl rfl rfl) rfl))
 have c:rS [.fr (s.ds.map λx=>.aM (decide (x.1=a)&&decide (gv (some x.2)=m)))]=pure (.v (.aM (gJ s a m))):=by
  rw[QD];show(match qd (s.ds.map λx=>D.aM (decide (x.1=a)&&decide (gv (some x.2)=m)))with|some bs=>_|none=>bad)=_;rw[FY λx:Int×D=>decide (x.1=a)&&decide (gv (some x.2)=m)];dsimp only;rw[List.any_map];rfl
 have co:=qi (n:=1) (cap:=[1,2]) (it:=iX (aI 0 1)) (U:=[.val s.D,.val (.int a),.val (.int m)]) (ds:=s.ds.map (·.2)) rfl (by rw[sg];exact f3 (by omega)) d;exact ew rfl (dw (gp c (cons_of co rfl)))
structure i'(W:List (List Nat))(l:aJ):Prop where
 w:dU ft W l.w
 d:∀x,l.d=some x->nr ft W x
 a:0<=l.a/\l.a<6
 k:ej 7 (cQ l.d)
def t6(W:List (List Nat)):dU ft W oZ:=⟨λ_ h=>(by cases h),.nil,λ_ h=>(by cases h),λ_ h=>(by cases h),.nil,λ_ h=>(by cases h),.inl rfl,.inl rfl,λ_ h=>(by cases h)⟩
def Et{W:List (List Nat)}{L:List aJ}(h:∀l∈L,i' W l)(p:Nat):dU ft W (ahead L p):=by
 cases p with
 |zero=>exact t6 W|succ q=>
  unfold ahead;dsimp only
  cases ex:L[q]? with
  |none=>exact t6 W|some x=>
   cases o:L[q+1]? with
   |none=>exact t6 W|some y=>
    have:=(h x (km ex)).w;dsimp only;split
    .exact this
    .exact this.gg
def UJ{W:List (List Nat)}{L:List aJ}(h:∀l∈L,i' W l):dU ft W (hI L):=by
 unfold hI;split
 .rename_i l e
  exact(h l (aik e)).w
 .exact t6 W
def HG{W:List (List Nat)}{L:List aJ}(h:∀l∈L,i' W l){p:Nat}(e:p<L.length):sD [.l (L.map aJ.D),.int p]=pure (.v (match fS L p with|some s=>cK s|none=>.aF)):=by
 refine ew rfl ?_;have f:L[p]? = some L[p]:=afi e;have ok:=h L[p] (ai6 e);have g:=Et h p;have aw:=Mg e;unfold fS;rw[f];generalize L[p]=l at *;have n:(L.map aJ.D)[p]? = some l.D:=by rw[afh,f];rfl
 have i:=IJ ok.w.num ok.w.dl l.a l.m;have j:=IJ g.num g.dl l.a l.m;refine cN (ez (aD (uS p n) rfl rfl)) (cN (ez (aD (x:=.v (cK (l.k,l.a))) rfl (aD (x:=.v l.D) rfl rfl rfl) rfl)) ?_);have t:fA (aO (b2 pA (bG (aI 2 5) (I 3) (aI 2 3)))) (lZ (aO (b2 pA (bG (b2 qR (a8 (I 0) (I 1))) (I 3) (aI 2 3)))))
   [.bF (L.map aJ.D),.val (.int p),.val l.D,.val (.int l.a)]=pure (gJ l.w l.a l.m&&!gJ (ahead L p) l.a l.m):=by
  have d:aO (b2 pA (bG (aI 2 5) (I 3) (aI 2 3))) [.bF (L.map aJ.D),.val (.int p),.val l.D,.val (.int l.a)]=pure (gJ l.w l.a l.m):=
   bR (call_of (rs:=[.v l.w.D,.v (.int l.a),.v (.int l.m)]) rfl i)
  have b:aO (b2 pA (bG (b2 qR (a8 (I 0) (I 1))) (I 3) (aI 2 3))) [.bF (L.map aJ.D),.val (.int p),.val l.D,.val (.int l.a)]=pure (gJ (ahead L p) l.a l.m):=
   bR (call_of (rs:=[.v (ahead L p).D,.v (.int l.a),.v (.int l.m)]) (cons_of (call_of (rs:=[.bF (L.map aJ.D),.v (.int p)]) rfl aw) rfl) j)
  cases c:gJ l.w l.a l.m with
  |false=>rw[c]at d;exact wR d|true=>
   rw[c]at d;refine(qb d).trans ?_
   cases aa:gJ (ahead L p) l.a l.m with
   |false=>rw[aa]at b;exact WN b|true=>rw[aa]at b;exact KC b
 dsimp only
 cases c:(gJ l.w l.a l.m&&!gJ (ahead L p) l.a l.m)with
 |true=>rw[c]at t;exact st t (dw (dS rfl rfl))|false=>rw[c]at t;exact c_ t rfl
theorem pd{α a b:Type}(f:α->Option a)(g:a->b):∀xs:List α,(xs.findSome? λx=>(f x).map g)=(xs.findSome? f).map g
 |[]=>rfl|x::xs=>by
  rw[aga,aga]
  cases f x with
  |some _=>rfl|none=>exact pd f g xs
def w_(s t:Int×Int):oEq (.v (cK s)) (.v (cK t))=pure (.v (.aM (decide (s=t)))):=by
 rw[nN rfl rfl];show pure (R.v (.aM (decide (s.1=t.1)&&(decide (s.2=t.2)&&true))))=_;rw[ajC,<-Bool.decide_and]
 congr 3
 exact decide_eq_decide.mpr (Prod.ext_iff.symm)
def Yl(L:List aJ)(e:Int)(s:Int×Int):B' [.l (L.map aJ.D),.int e,cK s]=pure (.v (intD ((m7 L e s).map aht))):=oi λS=>by
 have z:intD ((m7 L e s).map aht)=(L.zipIdx.findSome? λx:aJ×Nat=>(if x.1.e=e/\(x.1.k,x.1.a)=s then some x.2 else none).map λp=>D.int (p:Nat)).getD .aF:=by
  rw[pd];unfold m7;cases ahq _ _<;>rfl
 rw[z];refine uU rfl (xJ aJ.D _ (λU=>∃s3 b,U=[.bF (L.map aJ.D),.val (.int e),.val (cK s),s3,b]) (a3 (.of rfl) cb) ⟨_,_,rfl⟩ (λx _ U ⟨s3,b,aw⟩=>?_) λU ⟨s3,b,aw⟩=>by subst aw;exact .of rfl);subst aw;obtain⟨l,p⟩:=x;have f:aO (aa oEq (aI 4 0) (I 1)) [.bF (L.map aJ.D),.val (.int e),.val (cK s),.val (.int (p:Nat)),.val l.D]=pure (decide (l.e=e)):=bR (aD (x:=.v (.int l.e)) h4 (aD (x:=.v l.D) rfl rfl rfl) rfl);have g:aO (aa oEq (aI 4 1) (I 2)) [.bF (L.map aJ.D),.val (.int e),.val (cK s),.val (.int (p:Nat)),.val l.D]=pure (decide ((l.k,l.a)=s)):=bR (aD (x:=.v (cK (l.k,l.a))) (w_ _ _) (aD (x:=.v l.D) rfl rfl rfl) rfl);refine⟨λd h=>?_,λh=>⟨[.bF (L.map aJ.D),.val (.int e),.val (cK s),.val (.int (p:Nat)),.val l.D],?_,_,_,rfl⟩⟩
 .by_cases c:l.e=e/\(l.k,l.a)=s
  .rw[if_pos c]at h
   cases h;exact .of ((hG ((qb (f.trans (dt c.1))).trans (g.trans (dt c.2)))).trans rfl)
  .rw[if_neg c]at h;cases h
 .by_cases c:l.e=e/\(l.k,l.a)=s
  .rw[if_pos c]at h;cases h
  .by_cases cX:l.e=e
   .exact .of ((hF ((qb (f.trans (dt cX))).trans (g.trans (d0 λq=>c ⟨cX,q⟩)))).trans rfl)
   .exact .of ((hF (wR (f.trans (d0 cX)))).trans rfl)
def ltI{a b:Int}:oLt (.v (.int a)) (.v (.int b))=pure (.v (.aM (decide (a<b)))):=rfl
def uz{a b:Int}:kY (.v (.int a)) (.v (.int b))=pure (.v (.aM (decide (a > b)))):=rfl
def th(a:Int):gw (.v (.int a)) (.v (.int 1))=pure (.v (.int (a-1))):=rfl
def ZE(s:Option (Int×Int)):fq (.v (tg s)) (.v .aF)=pure (.v (.aM s.isNone)):=by cases s<;>rfl
def CQ{L:List aJ}(g:L.length<=1000)(x:hY):sI [.l (L.map aJ.D),x.D]=pure (.v (intD (eZ L x))):=by
 have a:aa bu (I 1) (ar 1) [.bF (L.map aJ.D),.val x.D]=pure (.v (tg x.s)):=aD (x:=.v x.D) rfl rfl rfl;have b:aO (aa fq (aI 1 1) (aH .aF)) [.bF (L.map aJ.D),.val x.D]=pure x.s.isNone:=bR (aD (ZE x.s) a rfl);refine ew rfl ?_;unfold eZ
 cases e:x.s with
 |none=>
  rw[e]at b;dsimp only;refine st b ?_;have le:b5 c8 (bf (I 0)) [.bF (L.map aJ.D),.val x.D]=pure (.v (.int (L.length:Nat))):=by
   refine(gp (BO _) rfl).trans ?_;rw[sg]
  by_cases c:L.length=0
  .rw[if_pos c]
   refine dw ((oi λS=>sh (.of (bR (aD (uz.trans (by rw[decide_eq_false (by omega)])) le rfl))) (.of rfl)))
  .rw[if_neg c]
   exact dw ((oi λS=>si (.of (bR (aD (uz.trans (by rw[decide_eq_true (by omega)])) le rfl))) (.of (aD (th _) le rfl))))
 |some s=>
  rw[e]at b a;dsimp only;refine c_ b ?_
  by_cases c:s=(0,0)
  .rw[if_pos c]
   have f:iD (aO (aa oLt (aI 0 0) (aI 1 0))) (I 0) [.emp,.val x.D] (L.map aJ.D)=pure ((L.filter λl=>decide (l.e<x.e)).map aJ.D):=
    o5 aJ.D (λl=>decide (l.e<x.e)) aJ.D L (λl _=>bR (aD (x:=.v (.int l.e)) (y:=.v (.int x.e)) ltI (aD (x:=.v l.D) rfl rfl rfl) (aD (x:=.v x.D) rfl rfl rfl))) λl _ _=>uh rfl
   have co:=qi (n:=1) (cap:=[1]) (it:=Bw (I 0)) (U:=[.bF (L.map aJ.D),.val x.D]) (ds:=L.map aJ.D) rfl (by rw[sg];exact f3 (by omega)) f;generalize L.filter (λl=>decide (l.e<x.e))=F at *;have d:c8 [.fr (F.map aJ.D)]=pure (.v (.int (F.length:Nat))):=by
    show pure (R.v (.int ((F.map aJ.D).length:Nat)))=_;rw[sg]
   exact st (bR (aD ((w_ s (0,0)).trans (by rw[decide_eq_true c])) a (dS rfl rfl))) (dw (aD (th _) (gp d (cons_of co rfl)) rfl))
  .rw[if_neg c]
   exact c_ (bR (aD ((w_ s (0,0)).trans (by rw[decide_eq_false c])) a (dS rfl rfl))) (dw (call_of (rs:=[.bF (L.map aJ.D),.v (.int x.e),.v (cK s)]) (cons_of rfl (cons_of (aD (x:=.v x.D) rfl rfl rfl) (cons_of a rfl))) (Yl L x.e s)))
def Dq{W:List (List Nat)}{s:b'}(h:dU ft W s)(a:W.length<=1000):aY.Ok 10 s.D:=h.ok a λz g=>hM g.2 (by decide)
def ov{W:List (List Nat)}{s:b'}(h:dU ft W s)(a:W.length<=1000):s.D.bt 64=true:=(hM (Dq h a) (by decide)).1
def QQ{W:List (List Nat)}{s t:b'}(h:dU ft W s)(b:dU ft W t)(a:W.length<=1000):oEq (.v s.D) (.v t.D)=pure (.v (.aM (cP s.D t.D))):=nN (ov h a) (ov b a)
def Zh(L:List aJ)(x:hY){p:Int}(h:eZ L x=some p):-1<=p/\p<L.length:=by
 unfold eZ at h;split at h
 .split at h
  .cases h
  .cases h;omega
 .split at h
  .cases h
   have:=ah4 (λl:aJ=>decide (l.e<x.e)) L;omega
  .rw[afF]at h
   obtain⟨q,e,rfl⟩:=h;unfold m7 at e;obtain⟨⟨l,j⟩,a,e⟩:=af9 e;split at e
   .cases e
    have:=(ail a).2.1;have b:j<L.length:=by simpa using this
    show -1<=(j:Int)/\(j:Int)<L.length;omega
   .cases e
def Q0{W:List (List Nat)}(d:W.length<=1000){L:List aJ}(h:∀l∈L,i' W l)(r:L.length<=999){x:hY}(b:dU ft W x.w):BW [.l (L.map aJ.D),x.D]=pure (.v (Dy (j6 L x))):=by
 refine ew rfl (cN (yJ (call_of (rs:=[.bF (L.map aJ.D),.v x.D]) rfl (CQ (by omega) x)) rfl) ?_);show E5 [.bF (L.map aJ.D),.val x.D,.val (intD (eZ L x)),.emp]=_;unfold j6
 cases e:eZ L x with
 |none=>exact st (bR rfl) rfl|some p=>
  obtain⟨p1,m⟩:=Zh L x e;obtain⟨n,a⟩:∃n:Nat,p+1=(n:Nat):=⟨(p+1).toNat,by omega⟩;have sub:∀l∈L.take n,i' W l:=λl g=>h l (agF g)
  have lo:=UJ sub;have cM:gq (I 0) fR (e2 (aa c0 (I 2) (ar 1))) [.bF (L.map aJ.D),.val x.D,.val (.int p),.emp]=pure (.fr ((L.take n).map aJ.D)):=by
   have z:lR (.bF (L.map aJ.D)) none (some (p+1))=pure (.fr (cutD (L.map aJ.D) none (some (p+1)))):=rfl;rw[a,Gu,<-List.map_take,<-a]at z;exact z
  dsimp only;rw[a,ahk];have j:=UK (L.take n);refine c_ (bR rfl) (cN (ez (call_of (rs:=[.fr ((L.take n).map aJ.D)]) (cons_of cM rfl) j)) ?_);generalize hI (L.take n)=s at *;have i:∀s3,aa bu (I 1) (ar 1) [.bF (L.map aJ.D),.val x.D,.val (.int p),s3]=pure (.v (tg x.s)):=λs3=>aD (x:=.v x.D) rfl rfl rfl
  have fin:∀t:b',dU ft W t->E6 [.bF (L.map aJ.D),.val x.D,.val (.int p),.val t.D]=pure (.b0 (.v (Dy (if cP t.D x.w.D=true then none else some "lie")))):=λt f=>by
   have k:aO (aa oEq (I 3) (aI 1 2)) [.bF (L.map aJ.D),.val x.D,.val (.int p),.val t.D]=pure (cP t.D x.w.D):=bR (aD (QQ f b d) rfl (aD (x:=.v x.D) rfl rfl rfl));refine(dw (oi λS=>JC (x:=.aF) (y:=.str "lie") (.of k) (λ_=>.of rfl) λ_=>.of rfl)).trans ?_;cases cP t.D x.w.D<;>rfl
  have q:aO (aa oEq (aI 1 1) (a0 (a8 (ar 0) (ar 0)))) [.bF (L.map aJ.D),.val x.D,.val (.int p),.val s.D]=pure (decide (x.s=some (0,0))):=by
   refine bR (aD ?_ (i _) (dS rfl rfl))
   cases aw:x.s with
   |none=>rfl| some y=>exact(w_ y (0,0)).trans (by simp)
  by_cases c:x.s=some (0,0)
  .rw[if_pos c]
   exact cN ((hG (q.trans (dt c))).trans (ez (call_of (rs:=[.v s.D]) rfl (KV s)))) (fin s.gg lo.gg)
  .rw[if_neg c]
   exact cN (hF (q.trans (d0 c))) (fin s lo)
def Qw{κ:Type}[DecidableEq κ]{k j:κ}(h:j≠k)(d:D):∀a:List (κ×D),ep (jK a k d) j=ep a j:=by
 intro a;unfold jK ep;split
 .rename_i g
  clear g
  induction a with
  |nil=>rfl|cons p a b=>
   rw[aft]
   by_cases c:p.1=k
   .rw[if_pos c,af2 (by simpa using λz=>h (z.symm.trans c)),af2 (by simpa using λz=>h (z.symm.trans c))]
    exact b
   .rw[if_neg c]
    by_cases aa:p.1=j
    .rw[age (by simpa using aa),age (by simpa using aa)]
    .rw[af2 (by simpa using aa),af2 (by simpa using aa)]
     exact b
 .rw[List.find?_append]
  cases e:a.find? λf=>decide (f.1=j)with
  |none=>rw[af2 (by simpa using ahK h)];rfl|some x=>rfl
def Qy{κ:Type}[DecidableEq κ](k:κ)(d:D):∀a:List (κ×D),ep (jK a k d) k=some d:=by
 intro a;unfold jK ep;split
 .rename_i b
  induction a with
  |nil=>cases b
  |cons p a e=>
   rw[aft]
   by_cases c:p.1=k
   .rw[if_pos c,age (by simpa using c)];rfl
   .rw[if_neg c,af2 (by simpa using c)]
    refine e ?_;simpa[c]using b
 .rename_i b
  rw[List.find?_append,aiC.mpr λx f z=>b (ag1.mpr ⟨x,f,z⟩),age (by simp)];rfl
def Qr{κ:Type}[DecidableEq κ](a:List (κ×D))(k:κ)(d:D):(jK a k d).length<=a.length+1:=by
 unfold jK;split
 .rw[sg];omega
 .rw[afb];exact ae9 _
def Qx{κ:Type}[DecidableEq κ](a:List (κ×D))(k:κ)(d:D)(j:κ):ep (jK a k d) j=if k=j then some d else ep a j:=by
 by_cases c:k=j
 .rw[if_pos c,<-c];exact Qy k d a
 .rw[if_neg c];exact Qw (ahK c) d a
def LQ{α:Type}{p:List α->Prop}(c:p [])(b:∀xs x,p xs->p (xs++[x]))(xs:List α):p xs:=by
 have:∀ys:List α,p ys.reverse:=λys=>by
  induction ys with
  |nil=>exact c|cons y ys a=>rw[agS];exact b _ _ a
 rw[<-List.reverse_reverse xs];exact this _
def e9{α:Type}(key:α->Option (D×D))(xs:List α):List (D×D):=xs.foldl (λa x=>match key x with|some p=>jK a p.1 p.2|none=>a) []
def t7{α:Type}(key:α->Option (D×D))(xs:List α)(x:α):e9 key (xs++[x])=match key x with|some p=>jK (e9 key xs) p.1 p.2|none=>e9 key xs:=by
 unfold e9;rw[List.foldl_append];rfl
def Ac{α:Type}(key:α->Option (D×D))(xs:List α):(e9 key xs).length<=xs.length:=by
 refine LQ (p:=λxs=>(e9 key xs).length<=xs.length) (ae9 _) (λxs x a=>?_) xs;rw[t7,afb,afw];split
 .exact af7 (Qr _ _ _) (agZ a)
 .omega
def Ab{α:Type}(key:α->Option (D×D))(k:D)(xs:List α):ep (e9 key xs) k=xs.reverse.findSome? λx=>match key x with
  |some p=>if p.1=k then some p.2 else none|none=>none:=by
 refine LQ (p:=λxs=>ep (e9 key xs) k=xs.reverse.findSome? λx=>match key x with
  |some p=>if p.1=k then some p.2 else none| none=>none) rfl (λxs x a=>?_) xs
 rw[t7,List.reverse_append,List.reverse_singleton,List.singleton_append,aga]
 cases key x with
 |none=>exact a|some p=>
  dsimp only;rw[Qx]
  by_cases c:p.1=k
  .rw[if_pos c,if_pos c]
  .rw[if_neg c,if_neg c];exact a
section
variable{S S1:b1}{U U':aN}
def xI{n:Nat}{a:List (D×D)}(h:S[n]? = some (.cU a)):ax S (lz (.v (.ref n))) a:=(kc h).bind (.of rfl)
def yD{xs:List D}(h:jq 8 (.t xs)=true):ax S (q0 (.v (.t xs))) (.t xs):=.of (if_pos h)
def JG{n:Nat}{a:List (D×D)}{m mk:br}{xs:List D}(b:jq 8 (.t xs)=true)(h:S[n]? = some (.cU a))(c:ax S (m U) (.v (.ref n)))(d:ax S (mk U) (.v (.t xs))):ax S (qf m mk U) (.v ((ep a (.t xs)).getD .aF)):=c.bind (d.bind ((xI h).bind ((yD b).bind (.of rfl))))
def JD{n:Nat}{b:List (D×D)}{m mk:br}{xs:List D}(a:Bool)(c:jq 8 (.t xs)=true)(h:S[n]? = some (.cU b))(d:ax S (mk U) (.v (.t xs)))(e:ax S (m U) (.v (.ref n))):ax S (aa (pE a) mk m U) (.v (.aM (xor a (ep b (.t xs)).isSome))):=d.bind (e.bind ((yD c).bind ((xI h).bind (.of rfl))))
def Ui{n:Nat}{a:List (D×D)}{m mk:br}{xs:List D}{d:D}(b:jq 8 (.t xs)=true)(h:S[n]? = some (.cU a))(e:ep a (.t xs)=some d)(f:ax S (m U) (.v (.ref n)))(c:ax S (mk U) (.v (.t xs))):ax S (aa vq m mk U) (.v d):=f.bind (c.bind ((xI h).bind ((yD b).bind (by rw[e];exact .of rfl))))
def DR{mo mk:br}{mv:dG}{n:Nat}{a:List (D×D)}{r:R}{d:D}{xs:List D}(b:jq 8 (.t xs)=true)(c:aZ S (mv U) r S1)(e:r.dat=pure d)(f:ax S1 (mo U) (.v (.ref n)))(g:ax S1 (mk U) (.v (.t xs)))(h:S1[n]? = some (.cU a))(i:a.length<10000):aZ S (tx mo mk mv U) (.a6 U) (S1.set n (.cU (jK a (.t xs) d))):=c.bind ((ax.of e).to.bind (f.to.bind (g.to.bind ((xI h).to.bind ((yD b).to.bind (by show aZ S1 (if a.length<afe then _ else _) _ _;rw[if_pos (by rw[afM];omega)];rfl))))))
theorem Nh{a b:bc}{d:fK}(h:ax S (bz a b U) d):aZ S (bP (bZ a) (bZ b) U) d S:=by
 obtain⟨e,S1,c,f⟩:=M.inv h;obtain rfl:=(a U).dO _ _ _ c;refine aZ.bind (S1:=S1) (show aZ S1 ((a U).up) e S1 from c) ?_;cases e<;>exact f
theorem Nf{b:D->b8}(c:Nat->aN->b1->Prop):∀(ds:List D)(k:Nat)(U:aN)(S:b1),c k U S->(∀j d U S,ds[j]? = some d->c (k+j) U S->∃U' a,aZ S (b d U) (.a6 U') a/\c (k+j+1) U' a)->∃U' a,aZ S (l6 b ds U) (.a6 U') a/\c (k+ds.length) U' a
 |[],k,U,S,h,_=>⟨U,S,rfl,h⟩
 |d::ds,k,U,S,h,st=>by
  obtain⟨n,S1,ao,g⟩:=st 0 d U S rfl h;obtain⟨m,l,aG,i⟩:=Nf c ds (k+1) n S1 g λj d U S e f=>by
   have:=st (j+1) d U S e (by rw[show k+(j+1)=k+1+j by omega];exact f)
   rwa[show k+(j+1)+1=k+1+j+1 by omega]at this
  exact⟨m,l,ao.bind aG,by rw[afE,show k+(ds.length+1)=k+1+ds.length by omega];exact i⟩
theorem Ng{n:Nat}{xs:List D}{b:D->b8}(a:Nat->aN->b1->Prop)(i:∀k U S,a k U S->S[n]? = some (.l xs))(st:∀k d U S,xs[k]? = some d->a k U S->∃U' g,aZ S (b d U) (.a6 U') g/\a (k+1) U' g):∀(f k:Nat)(U:aN)(S:b1),a k U S->xs.length<k+f->k<=xs.length->∃U' g,aZ S (tw n b f k U) (.a6 U') g/\a xs.length U' g
 | 0,k,U,S,_,o,C=>by omega|f+1,k,U,S,h,o,C=>by
  have cq:=(kc (i k U S h)).to
  by_cases c:k=xs.length
  .subst c
   refine⟨U,S,cq.bind ?_,h⟩;dsimp only;rw[ahr (ae9 _)];rfl
  .have e:xs[k]? = some xs[k]:=afi (by omega)
   obtain⟨q,S1,ao,r⟩:=st k _ U S e h;obtain⟨p,m,aG,j⟩:=Ng a i st f (k+1) q S1 r (by omega) (by omega);refine⟨p,m,cq.bind ?_,j⟩;dsimp only;rw[e];exact ao.bind aG
def Nd{n i:Nat}{xs:List D}{m:br}{b:b8}(c:Nat->aN->b1->Prop)(g:∀k U S,c k U S->S[n]? = some (.l xs))(h:ax S (m U) (.v (.ref n)))(f:c 0 U S)(st:∀k d U S,xs[k]? = some d->c k U S->∃U' a,aZ S (b (U.set i (.val d))) (.a6 U') a/\c (k+1) U' a):∃U' a,aZ S (tv i m b U) (.a6 U') a/\c xs.length U' a:=by
 obtain⟨U',a,e,h'⟩:=Ng (b:=λd U=>b (U.set i (.val d))) c g st (xs.length+1) 0 U S f (by omega) (afC _);exact⟨U',a,h.to.bind ((kc (g 0 U S f)).to.bind e),h'⟩
end
def tQ(W:List (List Nat)):dQ->Prop
 |.saw x=>dU ft W x.w|.did z=>aY.Ok 60 z|.over=>True
def jY(W:List (List Nat)):aV->Prop
 |.cm _ _ d _=>ej 7 d|.fin _ _ o _=>tQ W o
def je:aV->Option (D×D)
 |.cm a m d _=>some (.t [.int a,.int m,d],.aM true)|_=>none
def o8(L:List aJ)(p:Nat):Option (D×D):=(fS L p).map λs=>(cK s,.int (p:Nat))
def eV{S:b1}{n:Nat}{o:fP}{t:List fP}(h:S[n]? = some o):(S++t)[n]? = some o:=by rw[afk (fk.mp h).1];exact h
def Dn{S:b1}{x y:fP}:(S++[x]).set S.length y=S++[y]:=by rw[List.set_append_right _ _ (ae9 _),afY];rfl
def yg{α:Type}{f:α->D}{xs:List α}{k:Nat}{d:D}(h:(xs.map f)[k]? = some d):∃x,xs[k]? = some x/\d=f x:=by
 rw[afh,afF]at h;obtain⟨x,e,rfl⟩:=h;exact⟨x,e,rfl⟩
def MA{α:Type}{xs:List α}{k:Nat}{x:α}(h:xs[k]? = some x):xs.take (k+1)=xs.take k++[x]:=by rw[List.take_add_one,h];rfl
def Lo:oEq (.v (.str "begin")) (.v (.str "begin"))=pure (.v (.aM true)):=by kernel_rfl
def C1:oEq (.v (.str "begin")) (.v (.str "end"))=pure (.v (.aM false)):=by kernel_rfl
def Lq:oEq (.v (.str "end")) (.v (.str "begin"))=pure (.v (.aM false)):=by kernel_rfl
def C3:oEq (.v (.str "end")) (.v (.str "end"))=pure (.v (.aM true)):=by kernel_rfl
section
variable{W:List (List Nat)}{S:b1}{l h:Nat}{L:List aJ}{R:List aV}
def O_(g:S[h]? = some (.l (R.map aV.D)))(p:∀r∈R,jY W r)(u:R.length<=1000):aZ S (BU [.ref h]) (.v (.ref S.length)) (S++[.cU (e9 je R)]):=by
 obtain⟨U',c,e,f,rfl,rfl⟩:=Nd (S:=S++[.cU []]) (i:=2) (xs:=R.map aV.D) (m:=I 0) (b:=JU) (U:=[.val (.ref h),.val (.ref S.length),.emp]) (λk U c=>∃f,U=[.val (.ref h),.val (.ref S.length),f]/\c=S++[.cU (e9 je (R.take k))]) (λk U c ⟨f,_,e⟩=>by rw[e];exact eV g) (.of rfl) ⟨_,rfl,rfl⟩ λk d U c j ⟨f,aw,q⟩=>by
  subst aw q;obtain⟨r,fT,rfl⟩:=yg j;have ok:=p r (km fT);have aM:=Ac je (R.take k);have s:=List.length_take_le' k R;rw[MA fT,t7]
  cases r with
  |cm a m d t=>
   refine⟨_,_,fJ (gX (.of (aD Lo (aD (x:=.v (aV.cm a m d t).D) rfl rfl rfl) rfl))).to (DR (xs:=[.int a,.int m,d]) (pn (fb) (fb) ok).1 (r:=.v (.aM true)) rfl rfl (.of rfl) (.of rfl) (n:=S.length) nV (by omega)),_,rfl,?_⟩;rw[Dn];rfl
  |fin a m o t=>exact⟨_,_,kA (gX (.of (aD Lq (aD (x:=.v (aV.fin a m o t).D) rfl rfl rfl) rfl))).to rfl,_,rfl,rfl⟩
 rw[sg,agC]at e;exact iK rfl (b3 (i8 (r:=.v (.ref S.length)) rfl rfl) (b3 e rfl))
theorem Qi(p:S[l]? = some (.l (L.map aJ.D)))(t:∀x∈L,i' W x)(y:L.length<=1000):aZ S (x4 [.ref l]) (.v (.ref S.length)) (S++[.cU (e9 (o8 L) (afR L.length))]):=by
 obtain⟨U',f,e,i,s3,rfl,rfl⟩:=Nf (b:=λd U=>JV (U.set 2 (.val d))) (λk U f=>∃i s3,U=[.val (.ref l),.val (.ref S.length),i,s3]/\f=S++[.cU (e9 (o8 L) (afR k))]) (gO 0 L.length) 0 [.val (.ref l),.val (.ref S.length),.emp,.emp] (S++[.cU []]) ⟨_,_,rfl,rfl⟩ λk d U f q ⟨i,s3,aw,w⟩=>by
  subst aw w;rw[LZ]at q;obtain⟨j,g,rfl⟩:=yg q;have m:k<L.length:=by have:=(fk.mp g).1;rwa[agT]at this
  rw[aip m]at g;cases g;rw[agy];have aM:=Ac (o8 L) (afR k);rw[agT]at aM;rw[List.range_succ,t7];have u:ax (S++[.cU (e9 (o8 L) (afR k))]) (bo (I 0) [.val (.ref l),.val (.ref S.length),.val (fX k),s3]) (.mv (L.map aJ.D)):=d9 (eV p) (.of rfl);have a:=jl (S:=S++[.cU (e9 (o8 L) (afR k))]) (mf:=sD) (ms:=bW (bo (I 0)) (bf (I 2))) (U:=[.val (.ref l),.val (.ref S.length),.val (fX k),s3]) (rs:=[.mv (L.map aJ.D),.v (fX k)]) (a3 u (a3 (.of rfl) cb)) (.of (HG t m));unfold o8
  cases c:fS L k with
  |none=>
   rw[c]at a;exact⟨_,_,b3 (eM a).to (kA (gX (.of rfl)).to rfl),_,_,rfl,rfl⟩
  |some s=>
   rw[c]at a;refine⟨_,_,b3 (eM a).to (fJ (gX (.of rfl)).to (DR (xs:=[.int s.1,.int s.2]) rfl (r:=.v (fX k)) rfl rfl (.of rfl) (.of rfl) (n:=S.length) nV (by omega))),_,_,rfl,?_⟩;rw[Dn];rfl
 rw[C',agy]at e;have le:ax (S++[.cU []]) (b5 c8 (bf (bo (I 0))) [.val (.ref l),.val (.ref S.length),.emp,.emp]) (.v (.int (L.length:Nat))):=kb (rs:=[.mv (L.map aJ.D)]) (by show pure (R.v (.int ((L.map aJ.D).length:Nat)))=_;rw[sg]) (a3 (d9 (eV p) (.of rfl)) cb);refine iK rfl (b3 (i8 (r:=.v (.ref S.length)) rfl rfl) (b3 (abU (ds:=gO 0 L.length) ?_ e) rfl));exact(a3 le cb).bind (.of (by
  show(if -(2 ^ 62)<=(L.length:Int)/\(L.length:Int)<2 ^ 62 then pure (gO 0 (L.length:Int).toNat)else bad)=_;rw[if_pos ⟨by omega,by omega⟩,ahk]))
def l4(R:List aV)(L:List aJ)(x:aJ×Nat):Option (Str×Nat):=
 if(ep (e9 je R) (.t [.int x.1.a,.int x.1.m,cQ x.1.d])).isSome=false then some ("unbegun",x.2)
 else if cP x.1.w.D (e_ (ahead L x.2) x.1.a x.1.m x.1.d).D=true then none else some ("wrong",x.2)
def ji(R:List aV)(L:List aJ):Option (Str×Nat):=L.zipIdx.findSome? (l4 R L)
def eL:Option (Str×Nat)->D
 |some x=>.t [.str x.1,.int (x.2:Nat)]|none=>.aF
def Vs{a b:D}(c:a.bt 64=true)(d:b.bt 64=true):dI (.v a) (.v b)=pure (.v (.aM (!cP a b))):=w9 (x:=.v a) (y:=.v b) c d
def Q1(V:W.length<59)(K:S[l]? = some (.l (L.map aJ.D)))(O:S[h]? = some (.l (R.map aV.D)))(u:∀x∈L,i' W x)(M:∀r∈R,jY W r)(X:L.length<=1000)(Q:R.length<=1000) :
  ∃t,aZ S (x8 [.ref l,.ref h]) (.v (eL (ji R L))) (S++t):=by
 have G:=O_ O M Q;refine⟨_,iK rfl (b3 (i8 (r:=.v (.ref S.length)) (x_call (rs:=[.v (.ref h)]) (a3 (.of rfl) cb) rfl G) rfl) (Nh ?_))⟩;have z:eL (ji R L)=(L.zipIdx.findSome? λx=>(l4 R L x).map λy=>D.t [.str y.1,.int (y.2:Nat)]).getD .aF:=by
  rw[pd];unfold ji;cases ahq _ _<;>rfl
 rw[z];have s:(S++[.cU (e9 je R)])[l]? = some (.l (L.map aJ.D)):=eV K;refine xJ aJ.D _ (λU=>∃s3 q j,U=[.val (.ref l),.val (.ref h),.val (.ref S.length),s3,q,j]) (a3 ((ax.of rfl).bind ((kc s).bind (.of rfl))) cb) ⟨_,_,_,rfl⟩ (λx F U ⟨s3,q,j,aw⟩=>?_) λU ⟨s3,q,j,aw⟩=>by subst aw;exact .of rfl
 subst aw;obtain⟨y,p⟩:=x;have b:p<L.length/\L[p]? = some y:=by
  have:=ail F;obtain⟨_,E,H⟩:=this;have b:p<L.length:=by simpa using E
  exact⟨b,by rw[afi b];congr 1;simpa using H.symm⟩
 obtain⟨b,N⟩:=b;have T:=km N;have ok:=u y T;have A:=Et u p;have a7:=ok.k;have B:=Qo A (by omega) y.a y.m ok.d;have s_:=Mg b;have P:=HJ A ok.a.1 ok.a.2 y.m ok.d
 let g:aN:=[.val (.ref l),.val (.ref h),.val (.ref S.length),.val (.int (p:Nat)),.val y.D,.val (.int y.a)]
 have n:ax (S++[.cU (e9 je R)]) (bQ 5 (c1 (aI 4 1) 1) [.val (.ref l),.val (.ref h),.val (.ref S.length),.val (.int (p:Nat)),.val y.D,j]) (.a6 g):=.of (ez (aD (x:=.v (cK (y.k,y.a))) rfl (aD (x:=.v y.D) rfl rfl rfl) rfl));have e:ax (S++[.cU (e9 je R)]) (aO (aa (pE true) (a0 (bG (I 5) (aI 4 3) (aI 4 4))) (I 2)) g) (xor true (ep (e9 je R) (.t [.int y.a,.int y.m,cQ y.d])).isSome):=
  gX (JD true (pn fb fb a7).1 nV (.of (m9 rfl (aD (x:=.v y.D) rfl rfl rfl) (aD (x:=.v y.D) rfl rfl rfl))) (.of rfl))
 have i:ax (S++[.cU (e9 je R)]) (aO (aa dI (aI 4 5) (b2 mY (bW (b2 qR (a8 (bo (I 0)) (I 3))) (bG (I 5) (aI 4 3) (aI 4 4))))) g) (!cP y.w.D (e_ (ahead L p) y.a y.m y.d).D):=by
  refine gX (dk (x:=.v y.w.D) (y:=.v (e_ (ahead L p) y.a y.m y.d).D) (Vs (ov ok.w (by omega)) ?_) (.of (aD (x:=.v y.D) rfl rfl rfl)) (jl (rs:=[.v (ahead L p).D,.v (.int y.a),.v (.int y.m),.v (cQ y.d)]) (a3 (jl (rs:=[.mv (L.map aJ.D),.v (.int (p:Nat))]) (a3 (d9 s (.of rfl)) (a3 (.of rfl) cb)) (.of s_)) (a3 (.of rfl) (a3 (.of (aD (x:=.v y.D) rfl rfl rfl)) (a3 (.of (aD (x:=.v y.D) rfl rfl rfl)) cb)))) (.of B)));exact ov P (by omega)
 unfold l4;dsimp only;refine⟨λd hd=>?_,λf=>⟨g,?_,_,_,_,rfl⟩⟩
 .cases c:(ep (e9 je R) (.t [.int y.a,.int y.m,cQ y.d])).isSome with
  |false=>
   rw[c,if_pos rfl]at hd;cases hd;rw[c]at e;exact fG n (sj e (.of rfl))
  |true=>
   rw[c,if_neg (by decide)]at hd;rw[c]at e
   cases aa:cP y.w.D (e_ (ahead L p) y.a y.m y.d).D with
   |true=>rw[aa,if_pos rfl]at hd;cases hd
   |false=>
    rw[aa,if_neg afc]at hd;cases hd;rw[aa]at i;exact fG n (n5 e (gY i (.of rfl)))
 .cases c:(ep (e9 je R) (.t [.int y.a,.int y.m,cQ y.d])).isSome with
  |false=>rw[c,if_pos rfl]at f;cases f
  |true=>
   rw[c,if_neg (by decide)]at f;rw[c]at e
   cases aa:cP y.w.D (e_ (ahead L p) y.a y.m y.d).D with
   |true=>rw[aa]at i;exact fG n (n5 e (h6 i (.of rfl)))|false=>rw[aa,if_neg afc]at f;cases f
end
def hB(L:List aJ)(s:Int×Int):Option Nat:=(afR L.length).reverse.findSome? λp=>if fS L p=some s then some p else none
abbrev hg(L:List aJ):List (D×D):=e9 (o8 L) (afR L.length)
def Ld{s t:Int×Int}:cK s=cK t↔s=t:=⟨λh=>by
 unfold cK at h;injection h with h
 injection h with C o
 injection C with C
 injection o with o _
 injection o with o
 exact Prod.ext C o,λh=>by rw[h]⟩
def HE(L:List aJ)(s:Int×Int):ep (hg L) (cK s)=(hB L s).map λp=>.int (p:Nat):=by
 rw[Ab];unfold hB;rw[<-pd]
 congr 1
 funext p
 unfold o8
 cases e:fS L p with
 |none=>rfl|some t=>
  dsimp only[Option.map_some]
  by_cases c:t=s
  .rw[if_pos (by rw[c]),if_pos (by rw[c])];rfl
  .rw[if_neg λz=>c (Ld.mp z),if_neg λz=>c (afy z)];rfl
def fD(L:List aJ)(a m:Int):dQ->Option Str
 |.saw x=>j6 L x|.over=>if(hB L (a,m)).isNone=true then none else some "lie"|.did z=>match(hB L (a,m)).bind λp=>L[p]? with
  |some l=>if cP (l.w.h2 a) z=true then none else some "lie"|none=>some "lost"
def yN(L:List aJ)(a m:Int):dQ->Option Int
 |.saw x=>eZ L x|_=>(hB L (a,m)).map aht
def C5:oEq (.v (.str "saw")) (.v (.str "saw"))=pure (.v (.aM true)):=by kernel_rfl
def C2:oEq (.v (.str "did")) (.v (.str "saw"))=pure (.v (.aM false)):=by kernel_rfl
def C4:oEq (.v (.str "over")) (.v (.str "saw"))=pure (.v (.aM false)):=by kernel_rfl
def Lp:oEq (.v (.str "did")) (.v (.str "over"))=pure (.v (.aM false)):=by kernel_rfl
def Lr:oEq (.v (.str "over")) (.v (.str "over"))=pure (.v (.aM true)):=by kernel_rfl
def HF{L:List aJ}{s:Int×Int}{p:Nat}(h:hB L s=some p):p<L.length/\fS L p=some s:=by
 obtain⟨q,a,e⟩:=af9 h;split at e
 .rename_i c
  cases e;exact⟨agp.mp (ag3.mp a),c⟩
 .cases e
def zH{W:List (List Nat)}{s:b'}(h:dU ft W s)(i:Int):aY.Ok 2 (s.h2 i):=by
 unfold b'.h2;split
 .rename_i a b z e
  have o:=h.nM _ (r0 e);have:aY.Ok 1 z:=⟨by
   have:=o.1;simp only[D.bt,gr,afG]at this;exact this.2.2.1,by
   have:=o.2;simp only[D.y5,pU,afG]at this;exact this.2.2.2.1⟩
  exact hM this (by decide)
 .exact sP
section
variable{W:List (List Nat)}{S:b1}{n:Nat}{L:List aJ}
def xH{U:aN}{mk:br}{s:Int×Int}(c:S[n]? = some (.cU (hg L)))(j:Nat)(a:I j U=pure (.v (.ref n)))(b:ax S (mk U) (.v (cK s))):ax S (qf (I j) mk U) (.v (intD ((hB L s).map aht))):=by
 have:=JG (m:=I j) (xs:=[.int s.1,.int s.2]) rfl c (.of a) b;rw[show D.t [.int s.1,.int s.2]=cK s from rfl,HE]at this;cases e:hB L s<;>rw[e]at this<;>exact this
def QJ(q:W.length<=1000)(g:S[n]? = some (.cU (hg L)))(h:∀x∈L,i' W x)(r:L.length<=999){o:dQ}(f:tQ W o)(a m t:Int):ax S (x6 [.l (L.map aJ.D),.ref n,(aV.fin a m o t).D]) (.v (Dy (fD L a m o))):=by
 refine uU rfl ?_;show ax S (E3 [.bF (L.map aJ.D),.val (.ref n),.val (aV.fin a m o t).D,.emp,.emp]) _;refine fG (eM (d:=o.D) (.of (aD (x:=.v (aV.fin a m o t).D) rfl rfl rfl))) ?_;show ax S (E4 [.bF (L.map aJ.D),.val (.ref n),.val (aV.fin a m o t).D,.val o.D,.emp]) _;have kp:∀i,ax S (a0 (a8 (aI 2 1) (aI 2 2)) [.bF (L.map aJ.D),.val (.ref n),.val (aV.fin a m o t).D,.val o.D,i]) (.v (cK (a,m))):=λi=>.of (dS (aD (x:=.v (aV.fin a m o t).D) rfl rfl rfl) (aD (x:=.v (aV.fin a m o t).D) rfl rfl rfl))
 cases o with
 |saw x=>exact sj (.of (bR (aD C5 (aD (x:=.v (dQ.saw x).D) rfl rfl rfl) rfl))) (lM (jl (rs:=[.bF (L.map aJ.D),.v x.D]) (.of rfl) (.of (Q0 q h r f))))|over=>
  refine n5 (.of (bR (aD C4 (aD (x:=.v dQ.over.D) rfl rfl rfl) rfl))) (fG (eM (xH g 1 rfl (kp .emp))) (sj (.of (bR (aD Lr (aD (x:=.v dQ.over.D) rfl rfl rfl) rfl))) ?_));unfold fD
  cases e:hB L (a,m)with
  |none=>exact lM (si (.of (bR rfl)) (.of rfl))|some p=>exact lM (sh (.of (bR rfl)) (.of rfl))
 |did z=>
  refine n5 (.of (bR (aD C2 (aD (x:=.v (dQ.did z).D) rfl rfl rfl) rfl))) (fG (eM (xH g 1 rfl (kp .emp))) (n5 (.of (bR (aD Lp (aD (x:=.v (dQ.did z).D) rfl rfl rfl) rfl))) ?_));unfold fD;dsimp only
  cases e:hB L (a,m)with
  |none=>exact sj (.of (bR rfl)) (.of rfl)|some p=>
   obtain⟨k,_⟩:=HF e;have cV:L[p]? = some L[p]:=afi k;have ok:=h _ (km cV);rw[aje,cV];generalize L[p]=l at *;have mp:(L.map aJ.D)[p]? = some l.D:=by rw[afh,cV];rfl
   have j:=Ql ok.w a;dsimp only;refine n5 (.of (bR rfl)) ?_;have s:ax S (aO (aa oEq (c1 (b2 qQ (a8 (c1 (aa bu (I 0) (I 4)) 5) (aI 2 1))) 2) (aI 3 1)) [.bF (L.map aJ.D),.val (.ref n),.val (aV.fin a m (.did z) t).D,.val (dQ.did z).D,.val (.int (p:Nat))]) (cP (l.w.h2 a) z):=by
    refine .of (bR (aD (x:=.v (l.w.h2 a)) (y:=.v z) (nN (x:=.v (l.w.h2 a)) (y:=.v z) (hM (zH ok.w a) (by decide)).1 (hM f (by decide)).1) (aD (x:=.v (.t [.int a,.int (l.w.last a),l.w.h2 a])) rfl (call_of (rs:=[.v l.w.D,.v (.int a)]) (cons_of (aD (x:=.v l.D) rfl (aD (uS p mp) rfl rfl) rfl) (cons_of (aD (x:=.v (aV.fin a m (.did z) t).D) rfl rfl rfl) rfl)) j) rfl) (aD (x:=.v (dQ.did z).D) rfl rfl rfl)))
   have:=lM (JC (a:=aH .aF) (b:=aH (.str "lie")) (x:=.aF) (y:=.str "lie") s (λ_=>.of rfl) λ_=>.of rfl);cases c:cP (l.w.h2 a) z<;>rw[c]at this<;>exact this
def ZF(c:S[n]? = some (.cU (hg L)))(d:L.length<=999)(a m t:Int)(o:dQ):ax S (ve [.l (L.map aJ.D),.ref n,(aV.fin a m o t).D]) (.v (intD (yN L a m o))):=by
 refine uU rfl ?_;show ax S (FE [.bF (L.map aJ.D),.val (.ref n),.val (aV.fin a m o t).D]) _;have kp:ax S (a0 (a8 (aI 2 1) (aI 2 2)) [.bF (L.map aJ.D),.val (.ref n),.val (aV.fin a m o t).D]) (.v (cK (a,m))):=.of (dS (aD (x:=.v (aV.fin a m o t).D) rfl rfl rfl) (aD (x:=.v (aV.fin a m o t).D) rfl rfl rfl));have b:aa bu (I 2) (ar 3) [.bF (L.map aJ.D),.val (.ref n),.val (aV.fin a m o t).D]=pure (.v o.D):=aD (x:=.v (aV.fin a m o t).D) rfl rfl rfl
 cases o with
 |saw x=>exact sj (.of (bR (aD C5 (aD (x:=.v (dQ.saw x).D) rfl b rfl) rfl))) (lM (jl (rs:=[.bF (L.map aJ.D),.v x.D]) (a3 (.of rfl) (a3 (.of (aD (x:=.v (dQ.saw x).D) rfl b rfl)) cb)) (.of (CQ (by omega) x))))|did z=>exact n5 (.of (bR (aD C2 (aD (x:=.v (dQ.did z).D) rfl b rfl) rfl))) (lM (xH c 1 rfl kp))|over=>exact n5 (.of (bR (aD C4 (aD (x:=.v dQ.over.D) rfl b rfl) rfl))) (lM (xH c 1 rfl kp))
def vX(L:List aJ)(x:aV×Nat):Option (Str×Nat):=match x.1 with
 |.fin a m o _=>(fD L a m o).map λw=>(w,x.2)
 |_=>none
def kK(L:List aJ)(R:List aV):Option (Str×Nat):=R.zipIdx.findSome? (vX L)
def QK(k:W.length<=1000)(p:S[n]? = some (.cU (hg L)))(s:∀x∈L,i' W x)(u:L.length<=999){R:List aV}(q:∀r∈R,jY W r):ax S (x7 [.l (L.map aJ.D),.ref n,.l (R.map aV.D)]) (.v (eL (kK L R))):=by
 have z:eL (kK L R)=(R.zipIdx.findSome? λx=>(vX L x).map λy=>D.t [.str y.1,.int (y.2:Nat)]).getD .aF:=by
  rw[pd];unfold kK;cases ahq _ _<;>rfl
 rw[z];refine uU rfl (xJ aV.D _ (λU=>∃s3 f b,U=[.bF (L.map aJ.D),.val (.ref n),.bF (R.map aV.D),s3,f,b]) (a3 (.of rfl) cb) ⟨_,_,_,rfl⟩ (λx j U ⟨s3,f,b,aw⟩=>?_) λU ⟨s3,f,b,aw⟩=>by subst aw;exact .of rfl);subst aw;obtain⟨r,i⟩:=x;have ok:jY W r:=q r (by have:=List.fst_mem_of_mem_zipIdx j;exact this)
 cases r with
 | cm a m d t=>exact⟨fun d h=>(by cases h),fun _=>⟨_,h6 (.of (bR (aD C1 (aD (x:=.v (aV.cm a m d t).D) rfl rfl rfl) rfl))) (.of rfl),_,_,_,rfl⟩⟩|fin a m o t=>
  have g:ax S (aO (aa oEq (aI 4 0) (aH (.str "end"))) [.bF (L.map aJ.D),.val (.ref n),.bF (R.map aV.D),.val (.int (i:Nat)),.val (aV.fin a m o t).D,b]) true:=.of (bR (aD C3 (aD (x:=.v (aV.fin a m o t).D) rfl rfl rfl) rfl));have c:=jl (S:=S) (mf:=x6) (ms:=bW (I 0) (a8 (I 1) (I 4))) (U:=[.bF (L.map aJ.D),.val (.ref n),.bF (R.map aV.D),.val (.int (i:Nat)),.val (aV.fin a m o t).D,b]) (rs:=[.bF (L.map aJ.D),.v (.ref n),.v (aV.fin a m o t).D]) (.of rfl) (QJ k p s u ok a m t);unfold vX;dsimp only
  cases e:fD L a m o with
  |none=>
   rw[e]at c;exact⟨λd h=>(by cases h),λ_=>⟨_,gY g (fG (eM c) (h6 (.of (bR rfl)) (.of rfl))),_,_,_,rfl⟩⟩
  |some w=>
   rw[e]at c;exact⟨λd h=>(by cases h;exact gY g (fG (eM c) (gY (.of (bR rfl)) (.of rfl)))),λh=>(by cases h)⟩
end
def xj(L:List aJ):aV->Option (D×D)
 |.fin a m (.saw x) _=>some (cK (a,m),intD (eZ L x))|_=>none
abbrev pf(L:List aJ)(R:List aV):List (D×D):=e9 (xj L) R
def qv(L:List aJ)(R:List aV)(s:Int×Int):Option Int:=(R.reverse.findSome? λr=>match r with
 |.fin a m (.saw x) _=>if(a,m)=s then some (eZ L x)else none| _=>none).join
def RA(L:List aJ)(R:List aV)(s:Int×Int):(ep (pf L R) (cK s)).getD .aF=intD (qv L R s):=by
 rw[Ab];unfold qv;have z:(R.reverse.findSome? λx=>match xj L x with
   |some p=>if p.1=cK s then some p.2 else none|none=>none)=(R.reverse.findSome? λr=>match r with
   |.fin a m (.saw x) _=>if(a,m)=s then some (eZ L x)else none| _=>none).map intD:=by
  rw[<-pd]
  congr 1
  funext r
  rcases r with⟨a,m,d,t⟩|⟨a,m,o,t⟩
  .rfl
  .cases o with
   |did z=>rfl|over=>rfl|saw x=>
    show(if cK (a,m)=cK s then some (intD (eZ L x))else none)=(if(a,m)=s then some (eZ L x)else none).map intD
    by_cases c:(a,m)=s
    .rw[if_pos c,if_pos (by rw[c])];rfl
    .rw[if_neg c,if_neg λz=>c (Ld.mp z)];rfl
 refine(congrArg (λo:Option D=>o.getD .aF) z).trans ?_
 cases ahq _ R.reverse with
 |none=>rfl|some x=>cases x<;>rfl
def mI(L:List aJ)(R:List aV):aV->Option Int
 |.cm a m d _=>if eY d=true then qv L R (a,m)else(hB L (a,m)).map λp=>aht p-1
 |_=>none
def least(L:List aJ)(R:List aV):List aV->Int
 |[]=>L.length|r::Q=>match mI L R r with
  |some e=>if e<least L R Q then e else least L R Q|none=>least L R Q
def hK(L:List aJ)(R:List aV):List aV->List Int
 |[]=>[]
 |_::Q=>least L R Q::hK L R Q
theorem Km(L:List aJ)(R:List aV):∀Q:List aV,(hK L R Q).length=Q.length
 |[]=>rfl| _::Q=>by show(hK L R Q).length+1=_;rw[Km L R Q];rfl
theorem Kl(L:List aJ)(R:List aV):∀(Q:List aV)(i:Nat),i<Q.length->(hK L R Q)[i]? = some (least L R (Q.drop (i+1)))
 |[],i,h=>(by cases h)
 |_::Q,0,_=>rfl| _::Q,i+1,h=>Kl L R Q i (by simpa using h)
def min2(a b:Int):HW [.v (.int a),.v (.int b)]=pure (.v (.int (if b<a then b else a))):=rfl
section
variable{W:List (List Nat)}{S:b1}{l h n g:Nat}{L:List aJ}{R:List aV}
def JF{U:aN}{m:br}{i:Nat}{xs:List D}(h:S[i]? = some (.l xs))(a:ax S (m U) (.v (.ref i))):ax S (qe m U) (.bF xs):=a.bind ((kc h).bind (.of rfl))
theorem RC(q:S[l]? = some (.l (L.map aJ.D)))(w:S[h]? = some (.l (R.map aV.D)))(u:L.length<=1000)(B:R.length<=1000):aZ S (BY [.ref l,.ref h]) (.v (.ref S.length)) (S++[.cU (pf L R)]):=by
 obtain⟨U',c,e,s3,rfl,rfl⟩:=Nd (S:=S++[.cU []]) (i:=3) (xs:=R.map aV.D) (m:=I 1) (b:=JW) (U:=[.val (.ref l),.val (.ref h),.val (.ref S.length),.emp]) (λk U c=>∃s3,U=[.val (.ref l),.val (.ref h),.val (.ref S.length),s3]/\c=S++[.cU (pf L (R.take k))]) (λk U c ⟨E,_,e⟩=>by rw[e];exact eV w) (.of rfl) ⟨_,rfl,rfl⟩ λk d U c s ⟨s3,aw,y⟩=>by
  subst aw y;obtain⟨r,fT,rfl⟩:=yg s;have aM:=Ac (xj L) (R.take k);have A:=List.length_take_le' k R;unfold pf;rw[MA fT,t7]
  let p:=S++[fP.cU (e9 (xj L) (R.take k))]
  rcases r with⟨a,m,d,t⟩|⟨a,m,o,t⟩
  .exact⟨_,_,kA (se (.of (bR (aD C1 (aD (x:=.v (aV.cm a m d t).D) rfl rfl rfl) rfl)))).to rfl,_,rfl,rfl⟩
  .have j:ax p (aO (aa oEq (aI 3 0) (aH (.str "end"))) [.val (.ref l),.val (.ref h),.val (.ref S.length),.val (aV.fin a m o t).D]) true:=.of (bR (aD C3 (aD (x:=.v (aV.fin a m o t).D) rfl rfl rfl) rfl))
   have f:aa bu (I 3) (ar 3) [.val (.ref l),.val (.ref h),.val (.ref S.length),.val (aV.fin a m o t).D]=pure (.v o.D):=aD (x:=.v (aV.fin a m o t).D) rfl rfl rfl
   cases o with
   |did z=>exact⟨_,_,kA (pk j (.of (bR (aD C2 (aD (x:=.v (dQ.did z).D) rfl f rfl) rfl)))).to rfl,_,rfl,rfl⟩|over=>exact⟨_,_,kA (pk j (.of (bR (aD C4 (aD (x:=.v dQ.over.D) rfl f rfl) rfl)))).to rfl,_,rfl,rfl⟩|saw x=>
    have cs:ax p (b2 sI (a8 (bo (I 0)) (c1 (aI 3 3) 1)) [.val (.ref l),.val (.ref h),.val (.ref S.length),.val (aV.fin a m (.saw x) t).D]) (.v (intD (eZ L x))):=jl (rs:=[.mv (L.map aJ.D),.v x.D]) (a3 (d9 (eV q) (.of rfl)) (a3 (.of (aD (x:=.v (dQ.saw x).D) rfl f rfl)) cb)) (.of (CQ u x));refine⟨_,_,fJ (pk j (.of (bR (aD C5 (aD (x:=.v (dQ.saw x).D) rfl f rfl) rfl)))).to (DR (xs:=[.int a,.int m]) rfl (r:=.v (intD (eZ L x))) cs.to rfl (.of rfl) (.of (dS (aD (x:=.v (aV.fin a m (.saw x) t).D) rfl rfl rfl) (aD (x:=.v (aV.fin a m (.saw x) t).D) rfl rfl rfl))) (n:=S.length) nV (by omega)),_,rfl,?_⟩;rw[Dn];rfl
 rw[sg,agC]at e;exact iK rfl (b3 (i8 (r:=.v (.ref S.length)) rfl rfl) (b3 e rfl))
def QG(f:S[n]? = some (.cU (hg L)))(i:S[g]? = some (.cU (pf L R)))(a m t:Int){d:D}(hd:ej 7 d):ax S (x5 [.ref n,.ref g,(aV.cm a m d t).D]) (.v (intD (mI L R (.cm a m d t)))):=by
 refine uU rfl ?_;show ax S (E2 [.val (.ref n),.val (.ref g),.val (aV.cm a m d t).D,.emp]) _;have kp:ax S (bQ 3 (a0 (a8 (aI 2 1) (aI 2 2))) [.val (.ref n),.val (.ref g),.val (aV.cm a m d t).D,.emp]) (.a6 [.val (.ref n),.val (.ref g),.val (aV.cm a m d t).D,.val (cK (a,m))]):=.of (ez (dS (aD (x:=.v (aV.cm a m d t).D) rfl rfl rfl) (aD (x:=.v (aV.cm a m d t).D) rfl rfl rfl)));have eb:ax S (aO (aa fq (aI 2 3) (aH .aF)) [.val (.ref n),.val (.ref g),.val (aV.cm a m d t).D,.val (cK (a,m))]) (eY d):=.of (bR (aD (Jl d) (aD (x:=.v (aV.cm a m d t).D) rfl rfl rfl) rfl));refine fG kp ?_;unfold mI;dsimp only
 cases c:eY d with
 |true=>
  rw[c]at eb;rw[if_pos rfl,<-RA];exact sj eb (lM (JG (xs:=[.int a,.int m]) rfl i (.of rfl) (.of rfl)))
 |false=>
  rw[c]at eb;rw[if_neg afc];refine n5 eb (lM ?_);have hd:=HE L (a,m);have b:=gX (JD (S:=S) (U:=[.val (.ref n),.val (.ref g),.val (aV.cm a m d t).D,.val (cK (a,m))]) (m:=I 0) (mk:=I 3) (xs:=[.int a,.int m]) false rfl f (.of rfl) (.of rfl));rw[show D.t [.int a,.int m]=cK (a,m)from rfl,hd]at b
  cases e:hB L (a,m)with
  |none=>rw[e]at b;exact sh b (.of rfl)|some p=>
   rw[e]at b hd;exact si b (dk (x:=.v (.int (p:Nat))) (y:=.v (.int 1)) (th _) (Ui (xs:=[.int a,.int m]) rfl f hd (.of rfl) (.of rfl)) (.of rfl))
theorem JE{b:D->bc}(a:Nat->aN->Prop):∀(ds:List D)(k:Nat)(U:aN),a k U->(∀j d U,ds[j]? = some d->a (k+j) U->∃U',ax S (b d U) (.a6 U')/\a (k+j+1) U')->∃U',ax S (hk b ds U) (.a6 U')/\a (k+ds.length) U'
 |[],k,U,h,_=>⟨U,.of rfl,h⟩
 |d::ds,k,U,h,st=>by
  obtain⟨p,ao,f⟩:=st 0 d U rfl h;obtain⟨m,aG,i⟩:=JE a ds (k+1) p f λj d U e c=>by
   have:=st (j+1) d U e (by rw[show k+(j+1)=k+1+j by omega];exact c)
   rwa[show k+(j+1)+1=k+1+j+1 by omega]at this
  exact⟨m,ao.bind aG,by rw[afE,show k+(ds.length+1)=k+1+ds.length by omega];exact i⟩
def σ'(w:S[l]? = some (.l (L.map aJ.D)))(A:S[h]? = some (.l (R.map aV.D)))(G:S[n]? = some (.cU (hg L)))(P:L.length<=1000)(B:R.length<=1000)(N:∀r∈R,jY W r):∃t,aZ S (B_ [.ref l,.ref n,.ref h]) (.fr ((hK L R R).map D.int)) (S++t):=by
 have O:=RC w A P B;refine⟨[.cU (pf L R)],abT rfl (b3 (i8 (r:=.v (.ref S.length)) (x_call (rs:=[.v (.ref l),.v (.ref h)]) (a3 (.of rfl) (a3 (.of rfl) cb)) rfl O) rfl) ?_)⟩
 let T:=S++[fP.cU (pf L R)]
 have E:T[l]? = some (.l (L.map aJ.D)):=eV w;have F:T[h]? = some (.l (R.map aV.D)):=eV A;have M:T[n]? = some (.cU (hg L)):=eV G;have H:T[S.length]? = some (.cU (pf L R)):=nV;show aZ T (Fy [.val (.ref l),.val (.ref n),.val (.ref h),.val (.ref S.length),.emp,.emp,.emp,.emp]) _ T;have le:ax T (b5 c8 (bf (bo (I 0))) [.val (.ref l),.val (.ref n),.val (.ref h),.val (.ref S.length),.emp,.emp,.emp,.emp]) (.v (.int (L.length:Nat))):=kb (rs:=[.mv (L.map aJ.D)]) (by show pure (aY.R.v (.int ((L.map aJ.D).length:Nat)))=_;rw[sg]) (a3 (d9 E (.of rfl)) cb);obtain⟨U',e,j,f,rfl⟩:=JE (S:=T) (b:=λd U=>J0 (U.set 6 (.val d))) (λk U=>∃j f,U=[.val (.ref l),.val (.ref n),.val (.ref h),.val (.ref S.length),.val (.int (least L R (R.drop (R.length-k)))),.dY false ((hK L R (R.drop (R.length-k))).reverse.map D.int),j,f]) (R.map aV.D).reverse 0 [.val (.ref l),.val (.ref n),.val (.ref h),.val (.ref S.length),.val (.int (L.length:Nat)),.dY false [],.emp,.emp] ⟨_,_,by rw[ahJ,List.drop_length];rfl⟩ λk d U u ⟨j,f,aw⟩=>by
  subst aw;rw[agy];have V:k<R.length:=by have:=(fk.mp u).1;rwa[ag4,sg]at this
  rw[List.getElem?_reverse (by rwa[sg]),sg]at u;obtain⟨r,fT,rfl⟩:=yg u;have dv:R.drop (R.length-(k+1))=r::R.drop (R.length-k):=by
   have y:R.length-1-k<R.length:=by omega
   rw[show R.length-(k+1)=R.length-1-k by omega,ahB y,show R.length-1-k+1=R.length-k by omega]
   congr 1
   exact afy ((afi y).symm.trans fT)
  rw[dv];have z:=Km L R (R.drop (R.length-k));rw[afP]at z;generalize R.drop (R.length-k)=Q at *;have ok:=N r (km fT);have ap:ax T (kJ 5 eG (bf (I 4)) [.val (.ref l),.val (.ref n),.val (.ref h),.val (.ref S.length),.val (.int (least L R Q)),.dY false ((hK L R Q).reverse.map D.int),.val r.D,f]) (.a6 [.val (.ref l),.val (.ref n),.val (.ref h),.val (.ref S.length),.val (.int (least L R Q)),.dY false ((hK L R (r::Q)).reverse.map D.int),.val r.D,f]):=by
   have:=EA (i:=5) (ms:=bW (I 4) d7) (U:=[.val (.ref l),.val (.ref n),.val (.ref h),.val (.ref S.length),.val (.int (least L R Q)),.dY false ((hK L R Q).reverse.map D.int),.val r.D,f]) (d:=.int (least L R Q)) rfl rfl (by rw[sg,ag4,z];exact f3 (by omega));refine .of (this.trans ?_);show pure (fK.a6 [_,_,_,_,_,.dY false ((hK L R Q).reverse.map D.int++[.int (least L R Q)]),_,_])=pure (fK.a6 [_,_,_,_,_,.dY false ((least L R Q::hK L R Q).reverse.map D.int),_,_]);rw[agS,afo];rfl
  let s:aN:=[.val (.ref l),.val (.ref n),.val (.ref h),.val (.ref S.length),.val (.int (least L R Q)),.dY false ((hK L R (r::Q)).reverse.map D.int),.val r.D,f]
  have p:ax T (j3 (aO (aa oEq (aI 6 0) (aH (.str "begin")))) (b2 x5 (bG (I 1) (I 3) (I 6))) (aH .aF) s) (.v (intD (mI L R r))):=by
   rcases r with⟨a,m,d,t⟩|⟨a,m,o,t⟩
   .exact si (.of (bR (aD Lo (aD (x:=.v (aV.cm a m d t).D) rfl rfl rfl) rfl))) (jl (rs:=[.v (.ref n),.v (.ref S.length),.v (aV.cm a m d t).D]) (.of rfl) (QG M H a m t ok))
   .exact sh (.of (bR (aD Lq (aD (x:=.v (aV.fin a m o t).D) rfl rfl rfl) rfl))) (.of rfl)
  have q:least L R (r::Q)=match mI L R r with
   |some e=>if e<least L R Q then e else least L R Q|none=>least L R Q:=rfl
  cases c:mI L R r with
  |none=>
   rw[c]at p q;rw[q];exact⟨_,fG ap (fG (eM p) (h6 (.of (bR rfl)) (.of rfl))),_,_,rfl⟩
  |some e=>
   rw[c]at p q;rw[q];exact⟨_,fG ap (fG (eM p) (gY (.of (bR rfl)) (eM (.of (gp (min2 _ e) rfl))))),_,_,rfl⟩
 rw[ag4,sg,agy,afY,aho]at e;have it:ax T (Bz (bf (qe (I 2))) [.val (.ref l),.val (.ref n),.val (.ref h),.val (.ref S.length),.val (.int (L.length:Nat)),.dY false [],.emp,.emp]) (R.map aV.D).reverse:=(a3 (JF F (.of rfl)) cb).bind (.of rfl);refine b3 (U':=[.val (.ref l),.val (.ref n),.val (.ref h),.val (.ref S.length),.val (.int (L.length:Nat)),.emp,.emp,.emp]) (eM le).to (b3 (U':=[.val (.ref l),.val (.ref n),.val (.ref h),.val (.ref S.length),.val (.int (L.length:Nat)),.dY false [],.emp,.emp]) rfl (b3 (S1:=T) (it.bind e).to ?_));have K:kJ 5 y4 d7 [.val (.ref l),.val (.ref n),.val (.ref h),.val (.ref S.length),.val (.int (least L R R)),.dY false ((hK L R R).reverse.map D.int),j,f]=pure (.a6 [.val (.ref l),.val (.ref n),.val (.ref h),.val (.ref S.length),.val (.int (least L R R)),.dY false ((hK L R R).map D.int),j,f]):=by
  refine Eq.trans (b:=pure (.a6 [.val (.ref l),.val (.ref n),.val (.ref h),.val (.ref S.length),.val (.int (least L R R)),.dY false ((hK L R R).reverse.map D.int).reverse,j,f])) rfl ?_;rw[<-List.map_reverse,List.reverse_reverse]
 exact b3 (ax.of K).to rfl
def m'(L:List aJ)(R:List aV)(x:aV×Nat):Option (Str×Nat):=match x.1 with
 |.fin a m o _=>match yN L a m o with
  |some s=>if least L R (R.drop (x.2+1))<s then some ("late",x.2)else none|none=>none
 |_=>none
def uv(L:List aJ)(R:List aV):Option (Str×Nat):=R.zipIdx.findSome? (m' L R)
def order_eq(q:S[l]? = some (.l (L.map aJ.D)))(w:S[h]? = some (.l (R.map aV.D)))(p:S[n]? = some (.cU (hg L)))(K:L.length<=999)(A:R.length<=1000)(H:∀r∈R,jY W r):∃t,aZ S (BX [.ref l,.ref n,.ref h]) (.v (eL (uv L R))) (S++t):=by
 obtain⟨t,M⟩:=σ' q w p (by omega) A H;refine⟨t,iK rfl (b3 (i8 (r:=.fr ((hK L R R).map D.int)) (x_call (rs:=[.v (.ref l),.v (.ref n),.v (.ref h)]) (a3 (.of rfl) (a3 (.of rfl) (a3 (.of rfl) cb))) rfl M) rfl) (Nh ?_))⟩;have z:eL (uv L R)=(R.zipIdx.findSome? λx=>(m' L R x).map λy=>D.t [.str y.1,.int (y.2:Nat)]).getD .aF:=by
  rw[pd];unfold uv;cases ahq _ _<;>rfl
 rw[z];have B:(S++t)[l]? = some (.l (L.map aJ.D)):=eV q;have E:(S++t)[h]? = some (.l (R.map aV.D)):=eV w;have G:(S++t)[n]? = some (.cU (hg L)):=eV p;refine xJ aV.D _ (λU=>∃j k f,U=[.val (.ref l),.val (.ref n),.val (.ref h),.val (.l ((hK L R R).map D.int)),j,k,f]) (a3 (JF E (.of rfl)) cb) ⟨_,_,_,rfl⟩ (λx F U ⟨j,k,f,aw⟩=>?_) λU ⟨j,k,f,aw⟩=>by subst aw;exact .of rfl
 subst aw;obtain⟨r,i⟩:=x;have hi:i<R.length:=by have:=(ail F).2.1;simpa using this
 have mg:=Kl L R R i hi;rcases r with⟨a,m,d,u⟩|⟨a,m,o,u⟩
 .exact⟨λd h=>(by cases h),λ_=>⟨_,fG (eM (sh (.of (bR (aD C1 (aD (x:=.v (aV.cm a m d u).D) rfl rfl rfl) rfl))) (.of rfl))) (h6 (se (.of (bR rfl))) (.of rfl)),_,_,_,rfl⟩⟩
 .have cs:=jl (S:=S++t) (mf:=ve) (ms:=bW (bo (I 0)) (a8 (I 1) (I 5))) (U:=[.val (.ref l),.val (.ref n),.val (.ref h),.val (.l ((hK L R R).map D.int)),.val (.int (i:Nat)),.val (aV.fin a m o u).D,f]) (rs:=[.mv (L.map aJ.D),.v (.ref n),.v (aV.fin a m o u).D]) (a3 (d9 B (.of rfl)) (.of rfl)) (ZF G K a m u o)
  have st:=eM (i:=6) (si (a:=b2 ve (bG (bo (I 0)) (I 1) (I 5))) (b:=aH .aF) (t:=aO (aa oEq (aI 5 0) (aH (.str "end")))) (.of (bR (aD C3 (aD (x:=.v (aV.fin a m o u).D) rfl rfl rfl) rfl))) cs);unfold m';dsimp only
  cases c:yN L a m o with
  |none=>
   rw[c]at st;exact⟨λd h=>(by cases h),λ_=>⟨_,fG st (h6 (se (.of (bR rfl))) (.of rfl)),_,_,_,rfl⟩⟩
  |some s=>
   rw[c]at st;have e:ax (S++t) (fA (aO (aa gK (I 6) (aH .aF))) (aO (aa oLt (aa bu (I 3) (I 4)) (I 6))) [.val (.ref l),.val (.ref n),.val (.ref h),.val (.l ((hK L R R).map D.int)),.val (.int (i:Nat)),.val (aV.fin a m o u).D,.val (.int s)]) (decide (least L R (R.drop (i+1))<s)):=by
    refine pk (.of (bR rfl)) (.of (bR (aD (x:=.v (.int (least L R (R.drop (i+1))))) ltI (aD (T2 (jd i ?_)) rfl rfl) rfl)));rw[afh,mg];rfl
   dsimp only
   by_cases aa:least L R (R.drop (i+1))<s
   .rw[decide_eq_true aa]at e
    rw[if_pos aa];exact⟨λd h=>(by cases h;exact fG st (gY e (.of rfl))),λh=>(by cases h)⟩
   .rw[decide_eq_false aa]at e
    rw[if_neg aa];exact⟨λd h=>(by cases h),λ_=>⟨_,fG st (h6 e (.of rfl)),_,_,_,rfl⟩⟩
def gn(L:List aJ)(R:List aV):Option (Str×Nat):=match ji R L with
 |some x=>some x|none=>match kK L R with
  |some x=>some x|none=>uv L R
theorem EG(q:W.length<59)(b:S[l]? = some (.l (L.map aJ.D)))(p:S[h]? = some (.l (R.map aV.D)))(d:∀x∈L,i' W x)(c:∀r∈R,jY W r)(k:L.length<=999)(f:R.length<=1000) :
  ∃t,aZ S (pz [.ref l,.ref h]) (.v (eL (gn L R))) (S++t):=by
 obtain⟨t,ao⟩:=Q1 q b p d c (by omega) f;have a:aZ S (gB 2 (eB x8 (eH (a8 (I 0) (I 1)))) [.val (.ref l),.val (.ref h),.emp,.emp]) (.a6 [.val (.ref l),.val (.ref h),.val (eL (ji R L)),.emp]) (S++t):=i8 (r:=.v (eL (ji R L))) (x_call (rs:=[.v (.ref l),.v (.ref h)]) (a3 (.of rfl) (a3 (.of rfl) cb)) rfl ao) rfl;unfold gn
 cases cX:ji R L with
 |some x=>
  rw[cX]at a;exact⟨t,iK rfl (b3 a (fg (gY (.of (bR rfl)) (.of rfl)).to))⟩
 |none=>
 rw[cX]at a;dsimp only;have aG:=Qi (S:=S++t) (eV b) d (by omega);have m:((S++t)++[fP.cU (hg L)])[(S++t).length]? = some (.cU (hg L)):=nV;have cI:=QK (by omega) m d k c;have j:((S++t)++[fP.cU (hg L)])[l]? = some (.l (L.map aJ.D)):=eV (eV b);have i:((S++t)++[fP.cU (hg L)])[h]? = some (.l (R.map aV.D)):=eV (eV p);generalize w:(S++t).length=n at *;have s:aZ (S++t) (gB 3 (eB x4 (eH (bf (I 0)))) [.val (.ref l),.val (.ref h),.val .aF,.emp]) (.a6 [.val (.ref l),.val (.ref h),.val .aF,.val (.ref n)]) ((S++t)++[fP.cU (hg L)]):=i8 (r:=.v (.ref n)) (x_call (rs:=[.v (.ref l)]) (a3 (.of rfl) cb) rfl aG) rfl;have s3:aZ ((S++t)++[fP.cU (hg L)]) (bZ (bQ 2 (b2 x7 (bG (bo (I 0)) (I 3) (bo (I 1))))) [.val (.ref l),.val (.ref h),.val .aF,.val (.ref n)]) (.a6 [.val (.ref l),.val (.ref h),.val (eL (kK L R)),.val (.ref n)]) ((S++t)++[fP.cU (hg L)]):=(eM (jl (rs:=[.mv (L.map aJ.D),.v (.ref n),.mv (R.map aV.D)]) (a3 (d9 j (.of rfl)) (a3 (.of rfl) (a3 (d9 i (.of rfl)) cb))) cI)).to;have pre:∀{r o},aZ ((S++t)++[fP.cU (hg L)]) (ES [.val (.ref l),.val (.ref h),.val (eL (kK L R)),.val (.ref n)]) (.b0 (.v r)) o->aZ S (pz [.ref l,.ref h]) (.v r) o:=λe=>iK rfl (b3 a (rn (.of (bR rfl)) (b3 s (b3 s3 e))))
 cases aa:kK L R with
 |some x=>
  rw[aa]at pre;exact⟨t++[fP.cU (hg L)],by rw[<-afQ];exact pre (fg (gY (.of (bR rfl)) (.of rfl)).to)⟩
 |none=>
  rw[aa]at pre;obtain⟨u,dh⟩:=order_eq j i m k f c;refine⟨t++([fP.cU (hg L)]++u),?_⟩;rw[<-afQ,<-afQ];exact pre (rn (.of (bR rfl)) (nh (x_call (rs:=[.v (.ref l),.v (.ref n),.v (.ref h)]) (a3 (.of rfl) (a3 (.of rfl) (a3 (.of rfl) cb))) rfl dh)))
end
theorem yz:∀{xs ys:List D},iH xs ys=true->∀(i:Nat)(x y:D),xs[i]? = some x->ys[i]? = some y->cP x y=true
 |[],_,_,i,x,y,e,_=>(by cases e)
 |x::xs,[],h,_,_,_,_,_=>(by cases h)
 |x::xs,y::ys,h,i,a,b,C,o=>by
  have h:=agG.mp (show(cP x y&&iH xs ys)=true from h)
  cases i with
  |zero=>cases C;cases o;exact h.1
  |succ i=>exact yz h.2 i a b C o
theorem K8:∀{xs ys:List D},iH xs ys=true->xs.length=ys.length
 |[],[],_=>rfl| [],_::_,h=>(by cases h)
 |x::xs,[],h=>(by cases h)
 |x::xs,y::ys,h=>congrArg (· + 1) (K8 (agG.mp (show(cP x y&&iH xs ys)=true from h)).2)
def Apart(s t:b'):Prop:=s.cs.length≠t.cs.length\/(∃(i:Nat)(x y:Int×D),s.ds[i]? = some x/\t.ds[i]? = some y/\cP x.2 y.2=false)\/s.f≠t.f\/eY s.bA≠eY t.bA
def WM{a b:D}(h:cP a b=true):eY a=eY b:=by
 cases a<;>cases b<;>first|rfl|cases h
def Apart.ne{s t:b'}(h:Apart s t):cP s.D t.D=false:=by
 cases e:cP s.D t.D with
 |false=>rfl|true=>
  have g:=yz (show iH [.t (s.cs.map λx:List Nat×aY.D=>x.2),.t (s.ds.map λx:Int×aY.D=>x.2),.t [.int s.f,s.t],s.bA] [.t (t.cs.map λx:List Nat×aY.D=>x.2),.t (t.ds.map λx:Int×aY.D=>x.2),.t [.int t.f,t.t],t.bA]=true from e);exfalso;rcases h with h|⟨i,x,y,ex,o,h⟩|h|h
  .have:=K8 (g 0 _ _ rfl rfl)
   rw[sg,sg]at this;exact h this
  .have:=yz (g 1 _ _ rfl rfl) i x.2 y.2 (by rw[afh,ex];rfl) (by rw[afh,o];rfl)
   rw[h]at this;cases this
  .have:=yz (xs:=[.int s.f,s.t]) (ys:=[.int t.f,t.t]) (g 2 _ _ rfl rfl) 0 _ _ rfl rfl
   exact h (eq_of_beq (show(s.f==t.f)=true from this))
  .exact h (WM (g 3 _ _ rfl rfl))
def gL(s:b')(w:Int):b':=
 if w % 4=1/\0<s.cs.length then{ s with cs:=s.cs.tail }
 else if w % 4=2/\0<s.ds.length then{ s with ds:=s.ds.dropLast++[match s.ds.getLast? with|some x=>(x.1,.t [.int x.1,.int (gv (some x.2)),.int (10 ^ 55)])|none=>(0,.aF)] }
 else if w % 4=3/\eY s.bA=true then{ s with bA:=.str "over" }
 else{ s with f:=s.f+1 }
def rr(c:Int)(z:D):Prop:=(∃i,z=.int i/\-(c*10 ^ 40)<=i/\i<=c*10 ^ 40)\/∃(b n:Int)(y:D),z=.t [.int b,.int n,y]
structure jx(c:Int)(s:b'):Prop where
 cs:∀x∈s.cs,∃n:Int,x.2=.t [.str (bC x.1),.int n]/\-(c*10 ^ 40)<=n/\n<=c*10 ^ 40
 ds:∀x∈s.ds,∃(n:Int)(z:D),x.2=.t [.int x.1,.int n,z]/\rr c z
def rr.mono{c c':Int}{z:D}(h:rr c z)(a:c<=c'):rr c' z:=by
 rcases h with⟨i,e,o,C⟩|h
 .exact .inl ⟨i,e,by omega,by omega⟩
 .exact .inr h
def KX{s:b'}{c:Int}(h:jx c s)(l:c<=1000)(w:Int):Apart (gL s w) s/\Apart s (gL s w):=by
 unfold gL;split
 .rename_i q
  have:s.cs.tail.length≠s.cs.length:=by rw[List.length_tail];omega
  exact⟨.inl this,.inl this.symm⟩
 .split
  .rename_i _ q
   have d:s.ds≠[]:=ag5.mp q.2;have el:s.ds.getLast? = some (s.ds.getLast d):=ahj d;obtain⟨n,z,e,a⟩:=h.ds _ (ajf d);rw[el];have ao:s.ds[s.ds.dropLast.length]? = some (s.ds.getLast d):=by rw[aid,<-agn,el]
   have p1:cP (.int (10 ^ 55)) z=false/\cP z (.int (10 ^ 55))=false:=by
    rcases a with⟨i,rfl,a1,a2⟩|⟨_,_,_,rfl⟩
    .have:i≠10 ^ 55:=by omega
     exact⟨beq_false_of_ne this.symm,beq_false_of_ne this⟩
    .exact⟨rfl,rfl⟩
   have j:∀(a b:Int)(x y:D),cP x y=false->cP (.t [.int a,.int b,x]) (.t [.int a,.int b,y])=false:=λa b x y h=>by
    show((a==a)&&((b==b)&&(cP x y&&true)))=false;rw[h,aiq,agY,agY]
   have g:(s.ds.dropLast++[((s.ds.getLast d).1,D.t [.int (s.ds.getLast d).1,.int (gv (some (s.ds.getLast d).2)),.int (10 ^ 55)])])[s.ds.dropLast.length]? = some ((s.ds.getLast d).1,D.t [.int (s.ds.getLast d).1,.int (gv (some (s.ds.getLast d).2)),.int (10 ^ 55)]):=by rw[afn (ae9 _),afY];rfl
   have k:gv (some (s.ds.getLast d).2)=n:=by rw[e];rfl
   refine⟨.inr (.inl ⟨_,_,_,g,ao,?_⟩),.inr (.inl ⟨_,_,_,ao,g,?_⟩)⟩
   .dsimp only
    rw[k,e];exact j _ _ _ _ p1.1
   .dsimp only
    rw[k,e];exact j _ _ _ _ p1.2
  .split
   .rename_i _ _ q
    exact⟨.inr (.inr (.inr (by rw[q.2];exact λz=>Bool.noConfusion z))),.inr (.inr (.inr (by rw[q.2];exact λz=>Bool.noConfusion z)))⟩
   .exact⟨.inr (.inr (.inl (by show s.f+1≠s.f;omega))),.inr (.inr (.inl (by show s.f≠s.f+1;omega)))⟩
def KY{W:List (List Nat)}{s:b'}(h:dU ft W s)(w:Int):dU ft W (gL s w):=by
 unfold gL;split
 .exact⟨λx c=>h.row x (List.mem_of_mem_tail c),h.rise.sublist (List.tail_sublist _),λx c=>h.nm x (List.mem_of_mem_tail c),h.num,h.dv,h.mw,h.eb,h.bA,h.nM⟩
 .split
  .rename_i _ q
   have d:s.ds≠[]:=ag5.mp q.2;have el:s.ds.getLast? = some (s.ds.getLast d):=ahj d;have e:s.ds.dropLast++[s.ds.getLast d]=s.ds:=List.dropLast_concat_getLast d;rw[el];dsimp only;have mem:∀x∈s.ds.dropLast,x∈s.ds:=λx c=>(List.dropLast_sublist _).subset c
   have k:=ajf d;refine⟨h.row,h.rise,h.nm,λx c=>?_,?_,λx c=>?_,h.eb,h.bA,λx c=>?_⟩
   .rcases afZ.mp c with c|c
    .exact h.num x (mem x c)
    .rw[afj.mp c];exact⟨_,_,rfl⟩
   .have hd:=h.dv
    rw[<-e]at hd;obtain⟨i,_,j⟩:=List.pairwise_append.mp hd;exact List.pairwise_append.mpr ⟨i,ahN _ _,λa g b f=>by rw[afj.mp f];exact j a g (s.ds.getLast d) (afj.mpr rfl)⟩
   .rcases afZ.mp c with c|c
    .exact h.mw x (mem x c)
    .rw[afj.mp c];exact h.mw (s.ds.getLast d) k
   .rcases afZ.mp c with c|c
    .exact h.nM x (mem x c)
    .rw[afj.mp c];exact pG eN eN eN
  .split
   .exact h.shut (.inr (.inl rfl))
   .exact h.lease _ h.eb
def PV{c:Int}(g:0<=c){l:nD}(h:∀x∈l,∃n:Int,x.2=.t [.str (bC x.1),.int n]/\-(c*10 ^ 40)<=n/\n<=c*10 ^ 40)(a:List Nat):-(c*10 ^ 40)<=gT (dB (Q:=dq) l a)/\gT (dB (Q:=dq) l a)<=c*10 ^ 40:=by
 cases e:dB (Q:=dq) l a with
 |none=>show -(c*10 ^ 40)<=0/\(0:Int)<=c*10 ^ 40;omega|some d=>
  obtain⟨n,aG,b,f⟩:=h _ (r0 e);have aG:d=.t [.str (bC a),.int n]:=aG;rw[aG];exact⟨b,f⟩
def aaR{c:Int}{l:nD}(h:∀x∈l,∃n:Int,x.2=.t [.str (bC x.1),.int n]/\-(c*10 ^ 40)<=n/\n<=c*10 ^ 40)(a:List Nat){n:Int}(d:-(c*10 ^ 40)<=n)(e:n<=c*10 ^ 40):∀x∈ie l a n,∃n:Int,x.2=.t [.str (bC x.1),.int n]/\-(c*10 ^ 40)<=n/\n<=c*10 ^ 40:=λx b=>by
 unfold ie at b;split at b
 .exact h x ((ql (Q:=dq)).mp b).1
 .rcases(oj (Q:=dq)).mp b with⟨b,_⟩|rfl
  .exact h x b
  .exact⟨n,rfl,d,e⟩
def jx.mono{c c':Int}{s:b'}(h:jx c s)(f:c<=c'):jx c' s:=⟨λx d=>by obtain⟨n,e,a,b⟩:=h.cs x d;exact⟨n,e,by omega,by omega⟩,λx d=>by obtain⟨n,z,e,a⟩:=h.ds x d;exact⟨n,z,e,a.mono f⟩⟩
def Xi{c:Int}(l:0<=c){s:b'}(h:jx c s)(i:Int){d:e5}(hd:p2 d):jx (c+1) (c5 s i d).1/\rr (c+1) (c5 s i d).2:=by
 have m:=h.mono (c':=c+1) (by omega);have b:=λa=>PV l h.cs a
 have one:∀i:Int,0<=i->i<=1->rr (c+1) (.int i):=λi p e=>.inl ⟨i,rfl,by omega,by omega⟩
 have pt:∀(a:List Nat)(n:Int),-((c+1)*10 ^ 40)<=n->n<=(c+1)*10 ^ 40->jx (c+1) (s.put a n):=λa n e k=>⟨aaR m.cs a e k,m.ds⟩
 cases d with
 |put a n=>
  have:=b a;unfold p2 lr at hd;exact⟨pt a n (by omega) (by omega),.inl ⟨_,rfl,by show -((c+1)*10 ^ 40)<=gT _;omega,by show gT _<=(c+1)*10 ^ 40;omega⟩⟩
 |add a n=>
  have:=b a;unfold p2 lr at hd;have f:-((c+1)*10 ^ 40)<=s.cell a+n:=by show -((c+1)*10 ^ 40)<=gT (dB (Q:=dq) s.cs a)+n;omega
  have j:s.cell a+n<=(c+1)*10 ^ 40:=by show gT (dB (Q:=dq) s.cs a)+n<=(c+1)*10 ^ 40;omega
  exact⟨pt a _ f j,.inl ⟨_,rfl,f,j⟩⟩
 |swap a o n=>
  unfold p2 lr at hd;unfold c5;dsimp only;split
  .exact⟨pt a n (by omega) (by omega),one 1 (by omega) (by omega)⟩
  .exact⟨m,one 0 (by omega) (by omega)⟩
 |take g=>unfold c5;dsimp only;split<;>exact⟨⟨m.cs,m.ds⟩,.inr ⟨_,_,_,rfl⟩⟩
 |renew g=>unfold c5;dsimp only;split<;>exact⟨⟨m.cs,m.ds⟩,.inr ⟨_,_,_,rfl⟩⟩
 |free g=>unfold c5;dsimp only;split<;>exact⟨⟨m.cs,m.ds⟩,.inr ⟨_,_,_,rfl⟩⟩
 |sure g a n=>
  unfold p2 lr at hd;unfold c5;dsimp only;split
  .exact⟨pt a n (by omega) (by omega),one 1 (by omega) (by omega)⟩
  .exact⟨m,one 0 (by omega) (by omega)⟩
 |move z=>exact⟨⟨m.cs,m.ds⟩,one 1 (by omega) (by omega)⟩| fin=>exact⟨⟨m.cs,m.ds⟩,one 1 (by omega) (by omega)⟩
def Qm{c:Int}(e:0<=c){s:b'}(h:jx c s)(i n:Int){d:Option e5}(hd:∀x,d=some x->p2 x):jx (c+1) (e_ s i n d):=by
 cases d with
 | none=>exact h.mono (by omega)|some d=>
  unfold e_;dsimp only;split
  .obtain⟨b,g⟩:=Xi e h i (hd d rfl)
   have f:=CD s i d;refine⟨b.cs,λx a=>?_⟩;rcases(oj (Q:=fB)).mp a with⟨a,_⟩|rfl
   .exact b.ds x (by rw[f];exact a)
   .exact⟨n,_,rfl,g⟩
  .exact h.mono (by omega)
structure bH where
 a:Int
 m:Int
 d:Option e5
 t:Int
 o:dQ
 a7:Nat
 pl:Nat
def bH.cm(w:bH):aV:=.cm w.a w.m (cQ w.d) w.t
def bH.fin(w:bH):aV:=.fin w.a w.m w.o (w.t+3)
def rows(a:List bH):List aV:=a.flatMap λw=>[w.cm,w.fin]
def nG(L:List aJ)(x:hY)(pl:Nat):Prop:=eZ L x=some ((pl:Int)-1)/\x.w=if x.s=some (0,0)then(hI (L.take pl)).gg else hI (L.take pl)
def nx(L:List aJ)(w:bH)(l:aJ):Prop:=1<=w.pl/\L[w.pl-1]? = some l/\l.a=w.a/\l.m=w.m/\l.d=w.d
inductive wN(L:List aJ)(w:bH):Prop
 |deed (ay:w.a7=2) (d:e5) (l:aJ) (hd:w.d=some d) (hl:nx L w l) (aL:w.o=.did (l.w.h2 w.a))
 |long (ay:w.a7=1) (l:aJ) (hd:w.d=none) (hl:nx L w l) (aL:w.o=.saw ⟨l.e,some (l.k,l.a),l.w⟩)
 |short (ay:w.a7=0) (x:hY) (hd:w.d=none) (aL:w.o=.saw x) (h:∀N,w.pl<=N->N<=L.length->nG (L.take N) x w.pl)
 |last (ay:w.a7=0) (x:hY) (hd:w.d=none) (aL:w.o=.saw x) (aC:x.s=none) (aB:w.pl=L.length) (h:nG L x w.pl)
 |over (ay:w.a7=3) (d:e5) (hd:w.d=some d) (aL:w.o=.over) (h:∀l∈L,(l.a,l.m)≠(w.a,w.m))
structure Good(W:List (List Nat))(L:List aJ)(ws:List bH):Prop where
 ok:∀l∈L,i' W l
 bd:∀l∈L,jx 100 l.w
 A:∀(p:Nat)(l:aJ),L[p]? = some l->∃(i:Nat)(w:bH),ws[i]? = some w/\w.pl=p+1/\(w.a7=1\/w.a7=2)/\w.a=l.a/\w.m=l.m/\w.d=l.d
 B:∀(p:Nat)(l:aJ),L[p]? = some l->l.w=e_ (ahead L p) l.a l.m l.d
 C:∀(p:Nat)(l:aJ),L[p]? = some l->fS L p=if l.d.isSome=true then some (l.a,l.m)else none
 E:∀(p q:Nat)(x y:aJ),L[p]? = some x->L[q]? = some y->p<q->x.k<y.k
 kD:∀l∈L,1<=l.k/\l.k<=1000
 D:∀(i j:Nat)(w v:bH),ws[i]? = some w->ws[j]? = some v->i<j->(w.a,w.m)≠(v.a,v.m)
 M:∀w∈ws,1<=w.m/\w.m<=900
 P:∀(i j:Nat)(w v:bH),ws[i]? = some w->ws[j]? = some v->i<j->w.pl<=v.pl/\(v.a7=1\/v.a7=2->w.pl<v.pl)
 jC:∀w∈ws,w.pl<=L.length
 T:∀w∈ws,wN L w
 O:∀w∈ws,tQ W w.o/\ej 7 (cQ w.d)
 Z:∀w∈ws,∀x,w.o=.saw x->jx 100 x.w
def rX{α b:Type}{v:α×Nat->Option b}{xs:List α}(h:∀(i:Nat)(x:α),xs[i]? = some x->v (x,i)=none):xs.zipIdx.findSome? v=none:=agk.mpr λ⟨x,i⟩ a=>h i x (by
 have:=ail a;have hi:i<xs.length:=by simpa using this.2.1
 rw[afi hi]
 congr 1
 simpa using this.2.2.symm)
theorem H8{α a:Type}{v:α×Nat->Option a}:∀{xs:List α}{j i:Nat}{x:α}{y:a},xs[i]? = some x->v (x,j+i)=some y->(∀(k:Nat)(z:α),k<i->xs[k]? = some z->v (z,j+k)=none)->(xs.zipIdx j).findSome? v=some y
 |[],_,i,_,_,e,_,_=>(by cases e)
 |z::xs,j,0,x,y,e,h,_=>by cases e;rw[ahv,aga,show v (z,j)=some y from h]
 |z::xs,j,i+1,x,y,e,h,o=>by
  rw[ahv,aga,show v (z,j)=none from o 0 z (by omega) rfl];exact H8 (j:=j+1) (i:=i) e (by rw[show j+1+i=j+(i+1)by omega];exact h) λk z c b=>by rw[show j+1+k=j+(k+1)by omega];exact o (k+1) z (by omega) b
def qt{α a:Type}{v:α×Nat->Option a}{xs:List α}{i:Nat}{x:α}{y:a}(e:xs[i]? = some x)(h:v (x,i)=some y)(b:∀(k:Nat)(z:α),k<i->xs[k]? = some z->v (z,k)=none):xs.zipIdx.findSome? v=some y:=H8 (j:=0) e (by rw[agy];exact h) λk z d c=>by rw[agy];exact b k z d c
def t5(R:List aV)(a m:Int)(d:D):(ep (e9 je R) (.t [.int a,.int m,d])).isSome=true↔∃t,aV.cm a m d t∈R:=by
 rw[Ab,List.findSome?_isSome_iff];constructor
 .rintro⟨r,b,h⟩
  rw[ag3]at b;rcases r with⟨U,J,d',t⟩|⟨U,J,o,t⟩
  .have h:(if D.t [.int U,.int J,d']=.t [.int a,.int m,d]then some (D.aM true)else none).isSome=true:=h
   split at h
   .rename_i c
    injection c with c
    injection c with cX aa
    injection aa with aa C
    injection C with C _
    cases cX;cases aa;cases C;exact⟨t,b⟩
   .cases h
  .cases h
 .rintro⟨t,e⟩
  refine⟨_,ag3.mpr e,?_⟩;show(if D.t [.int a,.int m,d]=.t [.int a,.int m,d]then some (D.aM true)else none).isSome=true;rw[if_pos rfl];rfl
def HH{L:List aJ}{p:Nat}{s:Int×Int}(h:fS L p=some s):∃l,L[p]? = some l/\(l.a,l.m)=s:=by
 unfold fS at h
 cases e:L[p]? with
 |none=>rw[e]at h;cases h
 |some l=>
  rw[e]at h;dsimp only at h;split at h
  .cases h;exact⟨l,rfl,rfl⟩
  .cases h
def Qg{L:List aJ}{s:Int×Int}(h:∀l∈L,(l.a,l.m)≠s):hB L s=none:=agk.mpr λp _=>by
 split
 .rename_i c
  obtain⟨l,e,q⟩:=HH c;exact absurd q (h l (km e))
 .rfl
def Qh{L:List aJ}{s:Int×Int}{p:Nat}(a:p<L.length)(h:fS L p=some s)(u:∀q,fS L q=some s->q=p):hB L s=some p:=by
 cases e:hB L s with
 |none=>
  have:=agk.mp e p (ag3.mpr (agp.mpr a));rw[if_pos h]at this;cases this
 |some q=>rw[u q (HF e).2]
def RB{L:List aJ}{R:List aV}{a m t:Int}{x:hY}(h:aV.fin a m (.saw x) t∈R)(u:∀y t',aV.fin a m (.saw y) t'∈R->eZ L y=eZ L x):qv L R (a,m)=eZ L x:=by
 unfold qv
 cases e:(R.reverse.findSome? λr=>match r with
  |.fin J C (.saw x) _=>if(J,C)=(a,m)then some (eZ L x)else none| _=>none)with
 |none=>
  have:=agk.mp e _ (ag3.mpr h);dsimp only at this;rw[if_pos rfl]at this;cases this
 |some z=>
  obtain⟨r,b,q⟩:=af9 e;rw[ag3]at b;rcases r with⟨J,C,d',t'⟩|⟨J,C,o,t'⟩
  .cases q
  .cases o with
   |did z=>cases q
   |over=>cases q
   |saw y=>
    dsimp only at q;split at q
    .rename_i c
     cases c;cases q;exact u y t' b
    .cases q
theorem BN{L:List aJ}{R:List aV}{s:Int}(aC:s<=L.length):∀{Q:List aV},(∀r∈Q,∀e,mI L R r=some e->s<=e)->s<=least L R Q
 |[],_=>aC|r::Q,h=>by
  have a:=BN aC λr b=>h r (afl _ b)
  unfold least;split
  .rename_i e he
   have:=h r (afq ..) e he;split<;>assumption
  .exact a
theorem least_le{L:List aJ}{R:List aV}:∀{Q:List aV}{r:aV}{e:Int},r∈Q->mI L R r=some e->least L R Q<=e
 |o::Q,r,e,h,he=>by
  unfold least;rcases afz.mp h with rfl|h
  .rw[he]
   dsimp only;split<;>omega
  .have a:=least_le h he
   split
   .split<;>omega
   .exact a
def fZ{a:List bH}{r:aV}:r∈rows a↔∃w∈a,r=w.cm\/r=w.fin:=by
 unfold rows;rw[List.mem_flatMap];simp
def pM(A B:List bH):rows (A++B)=rows A++rows B:=List.flatMap_append
theorem hr:∀(a:List bH)(i:Nat),(rows a)[2*i]? = (a[i]?).map bH.cm/\(rows a)[2*i+1]? = (a[i]?).map bH.fin
 |[],i=>⟨rfl,rfl⟩
 |w::a,0=>⟨rfl,rfl⟩
 |w::a,i+1=>hr a i
def hs(a:List bH):(rows a).length=2*a.length:=by
 induction a with
 |nil=>rfl|cons w a b=>show(rows a).length+2=2*(a.length+1);omega
def UI{L:List aJ}{p:Nat}{l:aJ}(b:1<=p)(h:L[p-1]? = some l):hI (L.take p)=l.w:=by
 unfold hI;have a:p-1<L.length:=(fk.mp h).1;rw[agn,afO,ahf (by omega),af8 (by omega),h]
section
variable{W:List (List Nat)}{L:List aJ}{ws:List bH}(g:Good W L ws)
include g
theorem Good.same{i j:Nat}{w v:bH}(hi:ws[i]? = some w)(b:ws[j]? = some v)(h:(w.a,w.m)=(v.a,v.m)):i=j:=by
 rcases aiP i j with c|c|c
 .exact absurd h (g.D i j w v hi b c)
 .exact c
 .exact absurd h.symm (g.D j i v w b hi c)
theorem Good.i0{i p:Nat}{w:bH}{l:aJ}(hi:ws[i]? = some w)(c:L[p]? = some l)(h:(l.a,l.m)=(w.a,w.m)):w.pl=p+1/\(w.a7=1\/w.a7=2)/\w.d=l.d:=by
 obtain⟨j,v,b,e,f,n,k,q⟩:=g.A p l c;have:=g.same hi b (by rw[n,k];exact h.symm);subst this;rw[hi]at b;cases b;exact⟨e,f,q⟩
theorem Good.doer{i:Nat}{w:bH}(hi:ws[i]? = some w):hB L (w.a,w.m)=if w.a7=2 then some (w.pl-1)else none:=by
 have un:∀q,fS L q=some (w.a,w.m)->q=w.pl-1/\w.a7=2:=λq h=>by
  obtain⟨l,e,s⟩:=HH h;obtain⟨u,k,n⟩:=g.i0 hi e s;refine⟨by omega,?_⟩;have j:=g.C q l e;rw[h]at j;have hd:l.d.isSome=true:=by
   cases c:l.d.isSome with
   |true=>rfl|false=>rw[c,if_neg afc]at j;cases j
  rw[<-n]at hd
  cases g.T w (km hi)with
  |deed b=>exact b|long b _ f=>rw[f]at hd;cases hd
  |short b _ f=>rw[f]at hd;cases hd
  |last b _ f=>rw[f]at hd;cases hd
  |over b=>rw[b]at k;omega
 by_cases c:w.a7=2
 .rw[if_pos c]
  cases g.T w (km hi)with
  |deed b d l hd r t=>
   obtain⟨p1,e,a1,a2,ed⟩:=r;refine Qh (fk.mp e).1 ?_ λq h=>(un q h).1
   rw[g.C _ l e,ed,hd,if_pos (show(some d).isSome=true from rfl),a1,a2]
  |long b=>omega|short b=>omega|last b=>omega|over b=>omega
 .rw[if_neg c]
  exact agk.mpr λp _=>by
   split
   .rename_i h;exact absurd (un p h).2 c
   .rfl
theorem Good.stamp{p:Nat}{l:aJ}(b:L[p]? = some l):m7 L l.e (l.k,l.a)=some p:=by
 refine qt b (if_pos ⟨rfl,rfl⟩) λq z d f=>if_neg λc=>?_
 have:=g.E q p z l f b d;have h:z.k=l.k:=congrArg ag2 c.2;omega
theorem Good.sees{w:bH}(hw:w∈ws)(h:w.a7=0\/w.a7=1):∃x,w.o=.saw x/\w.d=none/\nG L x w.pl:=by
 cases g.T w hw with
 |deed b=>omega|over b=>omega|last b x hd a aC f h=>exact⟨x,a,hd,h⟩|short b x hd a h=>
  have:=h L.length (g.jC w hw) (ae9 _);rw[agC]at this;exact⟨x,a,hd,this⟩
 |long b l hd c a=>
  obtain⟨p1,e,a1,a2,ed⟩:=c;refine⟨_,a,hd,?_,?_⟩
  .unfold eZ
   dsimp only;have k1:=(g.kD l (km e)).1;rw[if_neg (by intro z;injection z with z _;omega),g.stamp e];show some (((w.pl-1:Nat)):Int)=_;rw[show((w.pl-1:Nat):Int)=(w.pl:Int)-1 by omega]
  .have k1:=(g.kD l (km e)).1
   rw[if_neg (by intro z;injection z with z;injection z with z _;omega),UI p1 e]
theorem Md(b:W.length<=1000){x:hY}{pl:Nat}(h:nG L x pl)(a:dU ft W x.w):j6 L x=none:=by
 unfold j6;rw[h.1];dsimp only;rw[show((pl:Int)-1+1).toNat=pl by omega,<-h.2,if_pos (pJ (ov a b))]
theorem Good.kinds{w:bH}(hw:w∈ws):w.a7=0\/w.a7=1\/w.a7=2\/w.a7=3:=by
 cases g.T w hw with
 |deed a=>omega|over a=>omega|last a=>omega|short a=>omega|long a=>omega
theorem Good.Dv{i:Nat}{w:bH}(hi:ws[i]? = some w):yN L w.a w.m w.o=if w.a7=3 then none else some ((w.pl:Int)-1):=by
 have hw:=km hi;have dv:=g.doer hi;rcases g.kinds hw with c|c|c|c
 .obtain⟨x,e,_,h⟩:=g.sees hw (.inl c)
  rw[e,if_neg (by omega)];exact h.1
 .obtain⟨x,e,_,h⟩:=g.sees hw (.inr c)
  rw[e,if_neg (by omega)];exact h.1
 .rw[if_pos c]at dv
  rw[if_neg (by omega)]
  cases g.T w hw with
  |deed b d l hd f e=>
   have p1:=f.1;rw[e];show(hB L (w.a,w.m)).map aht=_;rw[dv];show some (((w.pl-1:Nat)):Int)=_;rw[show((w.pl-1:Nat):Int)=(w.pl:Int)-1 by omega]
  |long b=>omega|short b=>omega|last b=>omega|over b=>omega
 .rw[if_neg (by omega)]at dv
  rw[if_pos c]
  cases g.T w hw with
  |over b d hd e=>rw[e];show(hB L (w.a,w.m)).map aht=_;rw[dv];rfl|deed b=>omega|long b=>omega|short b=>omega|last b=>omega
theorem Good.AG(j:W.length<=1000){i:Nat}{w:bH}(hi:ws[i]? = some w):fD L w.a w.m w.o=none:=by
 have hw:=km hi;have dv:=g.doer hi;have pH:=(g.O w hw).1;rcases g.kinds hw with c|c|c|c
 .obtain⟨x,f,_,h⟩:=g.sees hw (.inl c)
  rw[f]at pH ⊢;exact Md g j h pH
 .obtain⟨x,f,_,h⟩:=g.sees hw (.inr c)
  rw[f]at pH ⊢;exact Md g j h pH
 .rw[if_pos c]at dv
  cases g.T w hw with
  |deed b d l hd k f=>
   obtain⟨p1,e,a1,a2,ed⟩:=k;rw[f];unfold fD;dsimp only;rw[dv,aje,e];dsimp only;rw[if_pos (pJ (hM (zH (g.ok l (km e)).w w.a) (m:=64) (by decide)).1)]
  |long b=>omega|short b=>omega|last b=>omega|over b=>omega
 .rw[if_neg (by omega)]at dv
  cases g.T w hw with
  |over b d hd f=>
   rw[f];unfold fD;dsimp only;rw[dv];rfl
  |deed b=>omega|long b=>omega|short b=>omega|last b=>omega
theorem Good.xZ(h:W.length<=1000){R:List aV}(n:∀w∈ws,w.a7=1\/w.a7=2->w.cm∈R):ji R L=none:=rX λp l e=>by
 unfold l4;dsimp only;obtain⟨i,w,hi,q,c,j,f,k⟩:=g.A p l e;have hw:=km hi;have b:=(t5 R l.a l.m (cQ l.d)).mpr ⟨w.t,by have:=n w hw c;unfold bH.cm at this;rwa[j,f,k]at this⟩;rw[b,if_neg (by decide),<-g.B p l e,if_pos (pJ (ov (g.ok l (km e)).w h))]
end
def yO(w:bH):Option Int:=if w.a7=3 then none else some ((w.pl:Int)-1)
def um(w:bH):Option Int:=if w.a7=3 then none else if w.a7=2 then some ((w.pl:Int)-2)else some ((w.pl:Int)-1)
def mm(u v:bH):Prop:=∃s e,yO u=some s/\um v=some e/\e<s
def UM{u v:bH}(h:v.pl<=u.pl):mm u v↔(v.a7=2\/(v.pl<u.pl/\v.a7≠3))/\u.a7≠3:=by
 unfold mm yO um;constructor
 .rintro⟨s,e,a,b,d⟩
  split at a
  .cases a
  .rename_i c
   cases a;split at b
   .cases b
   .rename_i aa
    split at b
    .rename_i f;exact⟨.inl f,c⟩
    .cases b;exact⟨.inr ⟨by omega,aa⟩,c⟩
 .rintro⟨a,b⟩
  rw[if_neg b];rcases a with a|⟨a,d⟩
  .exact⟨_,_,rfl,by rw[if_neg (by omega),if_pos a],by omega⟩
  .refine⟨(u.pl:Int)-1,if v.a7=2 then(v.pl:Int)-2 else(v.pl:Int)-1,rfl,?_,?_⟩
   .rw[if_neg d];split<;>rfl
   .split<;>omega
theorem Ll{α:Type}{Q:α->α->Prop}:∀{V:List α}{u:Nat}{x:α},V.Pairwise Q->V[u]? = some x->∀v∈V.drop (u+1),Q x v
 |[],_,_,_,e=>(by cases e)
 |y::V,0,x,h,e=>by cases e;exact λv a=>(agh.mp h).1 v a
 |y::V,u+1,x,h,e=>λv a=>Ll (agh.mp h).2 e v a
def Calm(a:List bH)(r b:aV):Prop:=∀u∈a,∀v∈a,r=u.fin->b=v.cm->¬mm u v
section
variable{W:List (List Nat)}{L:List aJ}{ws:List bH}(g:Good W L ws)
include g
theorem Good.early{i:Nat}{w:bH}(hi:ws[i]? = some w){R:List aV}(s:∀r∈R,(∃v∈ws,r=v.fin)\/∀a m o t,r≠.fin a m o t)(k:w.fin∈R):mI L R w.cm=um w:=by
 have hw:=km hi;have dv:=g.doer hi;unfold mI bH.cm um;dsimp only;have z:∀x,w.o=.saw x->qv L R (w.a,w.m)=eZ L x:=λx e=>by
  unfold bH.fin at k;rw[e]at k;refine RB k λy t' u=>?_
  rcases s _ u with⟨v,C,ev⟩|h
  .obtain⟨j,f⟩:=afr C
   unfold bH.fin at ev;injection ev with ao aG cI dh
   have:=g.same hi f (by rw[ao,aG]);subst this;rw[hi]at f;cases f;rw[e]at cI;cases cI;rfl
  .exact absurd rfl (h _ _ _ _)
 have q:w.a7=0\/w.a7=1->(if eY (cQ w.d)=true then qv L R (w.a,w.m)else(hB L (w.a,w.m)).map λp=>aht p-1)=some ((w.pl:Int)-1):=λc=>by
  obtain⟨x,e,hd,h⟩:=g.sees hw c;rw[hd,if_pos (show eY (cQ none)=true from rfl),z x e,h.1]
 rcases g.kinds hw with c|c|c|c
 .rw[q (.inl c),if_neg (by omega),if_neg (by omega)]
 .rw[q (.inr c),if_neg (by omega),if_neg (by omega)]
 .rw[if_pos c]at dv
  cases g.T w hw with
  |deed b d l hd A e=>
   have p1:=A.1;have n:eY (cQ (some d))=false:=by cases d<;>rfl
   rw[hd,n,if_neg afc,dv,if_neg (by omega),if_pos c];show some (((w.pl-1:Nat):Int)-1)=_;rw[show((w.pl-1:Nat):Int)-1=(w.pl:Int)-2 by omega]
  |long b=>omega|short b=>omega|last b=>omega|over b=>omega
 .rw[if_neg (by omega)]at dv
  cases g.T w hw with
  |over b d hd e=>
   have n:eY (cQ (some d))=false:=by cases d<;>rfl
   rw[hd,n,if_neg afc,dv,if_pos c];rfl
  |deed b=>omega|long b=>omega|short b=>omega|last b=>omega
theorem Good.Lk:ws.Pairwise λu v=>¬mm u v:=by
 rw[agW];intro i j hi d f ⟨s,e,b,a,h⟩;have p:=g.P i j _ _ (afi hi) (afi d) f;unfold yO at b;unfold um at a;split at b
 .cases b
 .cases b
  split at a
  .cases a
  .split at a
   .rename_i c
    cases a;have:=p.2 (.inr c);omega
   .cases a
    have:=p.1;omega
theorem Good.calm:(rows ws).Pairwise (Calm ws):=by
 unfold rows;rw[List.pairwise_flatMap];refine⟨λw _=>?_,?_⟩
 .refine agh.mpr ⟨λr D=>?_,ahN _ _⟩
  intro u _ v _ e _;cases e
 .refine g.Lk.imp_of_mem λ{a b} A t h=>?_
  intro x d y f u B v p ao aG;subst ao aG;have n:u.fin=a.fin:=by
   rcases afz.mp d with z|z
   .cases z
   .exact afj.mp z
  have l:v.cm=b.cm:=by
   rcases afz.mp f with z|z
   .exact z
   .cases afj.mp z
  have k:∀x y:bH,x∈ws->y∈ws->x.a=y.a->x.m=y.m->x=y:=λx y d f q s=>by
   obtain⟨i,hi⟩:=afr d;obtain⟨j,c⟩:=afr f;have:=g.same hi c (by rw[q,s]);subst this;rw[hi]at c;exact afy c
  unfold bH.fin at n;unfold bH.cm at l;injection n with o C
  injection l with v1 v2
  rw[k u a B A o C,k v b p t v1 v2];exact h
theorem Good.Xe{R:List aV}(d:∀r∈R,∃v∈ws,r=v.cm\/r=v.fin)(y:∀v∈ws,v.cm∈R->v.fin∈R)(w:R.Pairwise (Calm ws)):uv L R=none:=rX λi r e=>by
 have B:∀r∈R,(∃v∈ws,r=v.fin)\/∀a m o t,r≠.fin a m o t:=λr s=>by
  obtain⟨v,b,e|e⟩:=d r s
  .exact .inr λa m o t z=>by rw[e]at z;cases z
  .exact .inl ⟨v,b,e⟩
 obtain⟨v,b,fT|fT⟩:=d r (km e)
 .subst fT;rfl
 .subst fT
  obtain⟨j,x⟩:=afr b;unfold m' bH.fin;dsimp only;rw[g.Dv x]
  by_cases c:v.a7=3
  .rw[if_pos c]
  .rw[if_neg c]
   dsimp only;refine if_neg (aiX.mpr (BN (by have:=g.jC v b;omega) λn q E l=>?_));have p:n∈R:=ahu q;obtain⟨u,f,h|h⟩:=d n p
   .subst h
    obtain⟨k,A⟩:=afr f;rw[g.early A B (y u f p)]at l;have D:=Ll w e _ q v b u f rfl rfl;refine aiX.mp λz=>D ⟨_,_,if_neg c,l,z⟩
   .subst h;cases l
theorem Good.HO(d:W.length<=1000){R:List aV}(c:∀r∈R,∃v∈ws,r=v.cm\/r=v.fin):kK L R=none:=rX λi r e=>by
 obtain⟨v,a,fT|fT⟩:=c r (km e)
 .subst fT;rfl
 .subst fT
  obtain⟨j,b⟩:=afr a;unfold vX bH.fin;dsimp only;rw[g.AG d b];rfl
theorem Good.EH(b:W.length<=1000){R:List aV}(e:∀w∈ws,w.a7=1\/w.a7=2->w.cm∈R)(a:∀r∈R,∃v∈ws,r=v.cm\/r=v.fin)(d:∀v∈ws,v.cm∈R->v.fin∈R)(c:R.Pairwise (Calm ws)):gn L R=none:=by
 unfold gn;rw[g.xZ b e,g.HO b a,g.Xe a d c]
theorem Good.zR(c:W.length<=1000):gn L (rows ws)=none:=
 g.EH c (λw hw _=>fZ.mpr ⟨w,hw,.inl rfl⟩) (λr a=>fZ.mp a) (λv b _=>fZ.mpr ⟨v,b,.inr rfl⟩) g.calm
end
def eu(a:List bH)(i:Nat)(X:List aV):List aV:=rows (a.take i)++X++rows (a.drop (i+1))
def Mo{α:Type}{xs:List α}{i:Nat}{x:α}(h:xs[i]? = some x):xs=xs.take i++[x]++xs.drop (i+1):=by
 have a:=(fk.mp h);obtain⟨hi,e⟩:=a;rw[afQ,List.singleton_append,<-e,<-ahB hi,List.take_append_drop]
def zu{a:List bH}{i:Nat}{w:bH}(h:a[i]? = some w):rows a=eu a i [w.cm,w.fin]:=by
 conv=>lhs;rw[Mo h]
 rw[pM,pM];rfl
def p_{d:List bH}{i:Nat}{X:List aV}{r:aV}:r∈eu d i X↔r∈X\/∃j v,j≠i/\d[j]? = some v/\(r=v.cm\/r=v.fin):=by
 unfold eu;rw[afZ,afZ,fZ,fZ];constructor
 .rintro((⟨v,b,e⟩|h)|⟨v,b,e⟩)
  .obtain⟨j,a⟩:=afr b
   rw[ahg]at a;split at a
   .exact .inr ⟨j,v,by omega,a,e⟩
   .cases a
  .exact .inl h
  .obtain⟨j,a⟩:=afr b
   rw[ago]at a;exact .inr ⟨_,v,by omega,a,e⟩
 .rintro(h|⟨j,v,f,a,e⟩)
  .exact .inl (.inr h)
  .by_cases c:j<i
   .exact .inl (.inl ⟨v,km (i:=j) (by rw[ahg,if_pos c];exact a),e⟩)
   .exact .inr ⟨v,km (i:=j-(i+1)) (by rw[ago,show i+1+(j-(i+1))=j by omega];exact a),e⟩
section
variable{W:List (List Nat)}{L:List aJ}{ws:List bH}(g:Good W L ws)
include g
theorem Good.aaN(m:W.length<=1000){i:Nat}{w:bH}(hi:ws[i]? = some w)(n:w.a7=0\/w.a7=3):gn L (eu ws i [w.fin])=none:=by
 have ne:∀v∈ws,v.a7=1\/v.a7=2->∃j,j≠i/\ws[j]? = some v:=λv b d=>by
  obtain⟨j,a⟩:=afr b;refine⟨j,?_,a⟩;rintro rfl;rw[hi]at a;cases a;omega
 refine g.EH m (λv b d=>?_) (λr f=>?_) (λv b _=>?_) ?_
 .obtain⟨j,k,l⟩:=ne v b d
  exact p_.mpr (.inr ⟨j,v,k,l,.inl rfl⟩)
 .rcases p_.mp f with h|⟨j,v,_,a,e⟩
  .exact⟨w,km hi,.inr (afj.mp h)⟩
  .exact⟨v,km a,e⟩
 .obtain⟨j,a⟩:=afr b
  by_cases c:j=i
  .subst c
   rw[hi]at a;cases a;exact p_.mpr (.inl (afj.mpr rfl))
  .exact p_.mpr (.inr ⟨j,v,c,a,.inr rfl⟩)
 .refine g.calm.sublist ?_
  rw[zu hi];exact(ajD (ajD (ajJ _) (List.sublist_cons_self _ _)) (ajJ _))
theorem Good.unbegun(x:W.length<=1000){i:Nat}{w:bH}(hi:ws[i]? = some w)(n:w.a7=1\/w.a7=2){X:List aV}(s:∀t,aV.cm w.a w.m (cQ w.d) t∉X):gn L (eu ws i X)=some (("unbegun":Str),w.pl-1):=by
 have hw:=km hi;obtain⟨l,k⟩:∃l,nx L w l:=by
  cases g.T w hw with
  |deed _ _ l _ k=>exact⟨l,k⟩|long _ l _ k=>exact⟨l,k⟩|short n=>omega|last n=>omega|over n=>omega
 obtain⟨p1,e,a1,a2,ed⟩:=k;have:ji (eu ws i X) L=some (("unbegun":Str),w.pl-1):=by
  refine qt e ?_ λq z H p=>?_
  .unfold l4
   dsimp only;rw[a1,a2,ed]
   cases c:(ep (e9 je (eu ws i X)) (.t [.int w.a,.int w.m,cQ w.d])).isSome with
   |false=>rfl|true=>
    exfalso;obtain⟨t,y⟩:=(t5 _ _ _ _).mp c;rcases p_.mp y with h|⟨j,v,r,f,ev|ev⟩
    .exact s t h
    .unfold bH.cm at ev
     injection ev with ao aG
     exact r (g.same f hi (by rw[<-ao,<-aG]))
    .cases ev
  .unfold l4
   dsimp only;obtain⟨j,v,f,F,G,D,u,E⟩:=g.A q z p;have r:j≠i:=by
    rintro rfl;rw[hi]at f;cases f;omega
   have b:=(t5 (eu ws i X) z.a z.m (cQ z.d)).mpr ⟨v.t,p_.mpr (.inr ⟨j,v,r,f,.inl (by unfold bH.cm;rw[D,u,E])⟩)⟩;rw[b,if_neg (by decide),<-g.B q z p,if_pos (pJ (ov (g.ok z (km p)).w x))]
 unfold gn;rw[this]
theorem uD(t:Nat):∃k,t=2*k\/t=2*k+1:=⟨t / 2,by omega⟩
theorem Good.Pf(e:W.length<=1000){V:List bH}{w:bH}{o:dQ}{b:Str}{j:Nat}(hw:w∈ws)(d:V[j]? = some { w with o:=o })(n:∀(k:Nat) v,k<j->V[k]? = some v->v∈ws)(p:∀v∈ws,v=w\/v∈V)(he:fD L w.a w.m o=some b):gn L (rows V)=some (b,2*j+1):=by
 have r:ji (rows V) L=none:=g.xZ e λv f _=>by
  rcases p v f with rfl|h
  .exact fZ.mpr ⟨_,km d,.inl rfl⟩
  .exact fZ.mpr ⟨v,h,.inl rfl⟩
 have ao:kK L (rows V)=some (b,2*j+1):=by
  refine qt (x:=.fin w.a w.m o (w.t+3)) (by rw[(hr V j).2,d];rfl) ?_ λt z s c=>?_
  .show(fD L w.a w.m o).map _=_
   rw[he];rfl
  .obtain⟨k,rfl|rfl⟩:=uD g t
   .rw[(hr V k).1,afF]at c
    obtain⟨v,_,rfl⟩:=c;rfl
   .rw[(hr V k).2,afF]at c
    obtain⟨v,l,rfl⟩:=c;obtain⟨q,i⟩:=afr (n k v (by omega) l);show(fD L v.a v.m v.o).map _=none;rw[g.AG e i];rfl
 unfold gn;rw[r,ao]
end
theorem AW{α b:Type}{v:α×Nat->Option b}:∀{xs:List α}{j:Nat}{y:b},(xs.zipIdx j).findSome? v=some y->∃(k:Nat)(x:α),xs[k]? = some x/\v (x,j+k)=some y/\∀(i:Nat)(z:α),i<k->xs[i]? = some z->v (z,j+i)=none
 |[],_,_,h=>(by cases h)
 |x::xs,j,y,h=>by
  rw[ahv,aga]at h
  cases e:v (x,j)with
  |some l=>rw[e]at h;cases h;exact⟨0,x,rfl,e,λi z hi _=>absurd hi (Nat.not_lt_zero _)⟩
  |none=>
   rw[e]at h;obtain⟨k,g,c,d,f⟩:=AW (j:=j+1) h;refine⟨k+1,g,c,by rw[show j+(k+1)=j+1+k by omega];exact d,λi z hi a=>?_⟩
   cases i with
   |zero=>cases a;exact e
   |succ i=>rw[show j+(i+1)=j+1+i by omega];exact f i z (by omega) a
theorem AX{α a:Type}{v:α×Nat->Option a}:∀{xs:List α}{j:Nat},(xs.zipIdx j).findSome? v=none->∀(i:Nat)(z:α),xs[i]? = some z->v (z,j+i)=none
 |[],_,_,_,_,e=>(by cases e)
 |x::xs,j,h,i,z,e=>by
  rw[ahv,aga]at h
  cases ao:v (x,j)with
  |some b=>rw[ao]at h;cases h
  |none=>
   rw[ao]at h
   cases i with
   |zero=>cases e;exact ao
   |succ i=>rw[show j+(i+1)=j+1+i by omega];exact AX (j:=j+1) h i z e
def l3(w:bH)(x:bH×Nat):Option (Str×Nat):=if(w.a7=2\/(w.pl<x.1.pl/\w.a7≠3))/\x.1.a7≠3 then some (("late":Str),2*x.2-1)else none
def rO(a:List bH)(i:Nat)(w:bH):Option (Str×Nat):=((a.drop (i+1)).zipIdx (i+1)).findSome? (l3 w)
def L3(V:List bH)(k:Nat):(rows V).drop (2*k)=rows (V.drop k):=by
 conv=>lhs;rw[<-List.take_append_drop k V,pM]
 by_cases h:k<=V.length
 .rw[List.drop_append_of_le_length (by rw[hs,afO];omega)]
  rw[ahS (by rw[hs,afO];omega),List.nil_append]
 .rw[ahS (l:=V) (by omega)]
  rw[ahS]
  .rfl
  .rw[afb,hs,afO];show _+0<=_;omega
def moved(a:List bH)(i:Nat)(w:bH):List bH:=a.eraseIdx i++[w]
section
variable{W:List (List Nat)}{L:List aJ}{ws:List bH}(g:Good W L ws)
include g
theorem Good.Xb{V:List bH}(b:∀v∈V,v∈ws){k:Nat}{u:bH}(s:V[k]? = some u)(p:∀x∈V.drop (k+1),¬mm u x):m' L (rows V) (u.fin,2*k+1)=none:=by
 have y:∀r∈rows V,(∃v∈ws,r=v.fin)\/∀a m o t,r≠.fin a m o t:=λr i=>by
  obtain⟨v,l,e|e⟩:=fZ.mp i
  .exact .inr λa m o t z=>by rw[e]at z;cases z
  .exact .inl ⟨v,b v l,e⟩
 have hw:=b u (km s);obtain⟨j,n⟩:=afr hw;unfold m' bH.fin;dsimp only;rw[g.Dv n]
 by_cases c:u.a7=3
 .rw[if_pos c]
 .rw[if_neg c]
  dsimp only;rw[show 2*k+1+1=2*(k+1)by omega,L3];refine if_neg (aiX.mpr (BN (by have:=g.jC u hw;omega) λB A D d=>?_));obtain⟨x,f,ex|ex⟩:=fZ.mp A
  .subst ex
   have h:=ahu f;obtain⟨q,w⟩:=afr (b x h);rw[g.early w y (fZ.mpr ⟨x,h,.inr rfl⟩)]at d;exact aiX.mp λz=>p x f ⟨_,_,if_neg c,d,z⟩
  .subst ex;cases d
theorem Good.Xc{V:List bH}(b:∀v∈V,v∈ws){k:Nat}{u x:bH}(n:V[k]? = some u)(c:x∈V.drop (k+1))(w:mm u x):m' L (rows V) (u.fin,2*k+1)=some (("late":Str),2*k+1):=by
 have y:∀r∈rows V,(∃v∈ws,r=v.fin)\/∀a m o t,r≠.fin a m o t:=λr h=>by
  obtain⟨v,i,e|e⟩:=fZ.mp h
  .exact .inr λa m o t z=>by rw[e]at z;cases z
  .exact .inl ⟨v,b v i,e⟩
 have hw:=b u (km n);obtain⟨j,l⟩:=afr hw;obtain⟨s,e,d,A,s3⟩:=w;have f:=ahu c;obtain⟨q,p⟩:=afr (b x f);have he:=g.early p y (fZ.mpr ⟨x,f,.inr rfl⟩);unfold m' bH.fin;dsimp only;rw[g.Dv l];unfold yO at d;rw[d];dsimp only;rw[show 2*k+1+1=2*(k+1)by omega,L3];refine if_pos (Int.lt_of_le_of_lt (least_le (r:=x.cm) (fZ.mpr ⟨x,c,.inl rfl⟩) (he.trans A)) s3)
theorem Good.Xd(O:W.length<=1000){i:Nat}{w:bH}(hi:ws[i]? = some w):gn L (rows (moved ws i w))=rO ws i w:=by
 have mT:=(fk.mp hi).1;have hw:=km hi;have Q:(ws.eraseIdx i).length=ws.length-1:=agB mT;have F:∀v∈moved ws i w,v∈ws:=λv b=>by
  rcases afZ.mp b with h|h
  .exact List.mem_of_mem_eraseIdx h
  .rw[afj.mp h];exact hw
 have uE:∀v∈ws,v∈moved ws i w:=λv b=>by
  obtain⟨j,a⟩:=afr b
  by_cases c:j=i
  .subst c
   rw[hi]at a;cases a;exact afJ _ (afj.mpr rfl)
  .exact ah8 _ (List.mem_eraseIdx_iff_getElem?.mpr ⟨j,c,a⟩)
 have so:ji (rows (moved ws i w)) L=none:=g.xZ O λv b _=>fZ.mpr ⟨v,uE v b,.inl rfl⟩
 have Z:kK L (rows (moved ws i w))=none:=g.HO O λr T=>by
  obtain⟨v,b,e⟩:=fZ.mp T;exact⟨v,F v b,e⟩
 have N:(moved ws i w).length=ws.length:=by unfold moved;rw[afb,Q,afw];omega
 have E:∀(k:Nat),k<i->(moved ws i w)[k]? = ws[k]?:=λk n=>by
  unfold moved;rw[afk (by omega),List.getElem?_eraseIdx_of_lt n]
 have M:∀(k:Nat),i<=k->k+1<ws.length->(moved ws i w)[k]? = ws[k+1]?:=λk n f=>by
  unfold moved;rw[afk (by omega),List.getElem?_eraseIdx_of_ge n]
 have K:(moved ws i w)[ws.length-1]? = some w:=by
  unfold moved;rw[afn (by omega),Q,afY];rfl
 have D:∀(k:Nat) u,(moved ws i w)[k]? = some u->(k=ws.length-1/\u=w)\/∃j,j≠i/\ws[j]? = some u/\(j<i/\k=j\/i<j/\k+1=j):=λk u e=>by
  have n:=(fk.mp e).1;rw[N]at n
  by_cases c:k=ws.length-1
  .subst c;rw[K]at e;cases e;exact .inl ⟨rfl,rfl⟩
  .by_cases aa:k<i
   .rw[E k aa]at e;exact .inr ⟨k,by omega,e,.inl ⟨aa,rfl⟩⟩
   .rw[M k (by omega) (by omega)]at e;exact .inr ⟨k+1,by omega,e,.inr ⟨by omega,rfl⟩⟩
 have R:∀(j q:Nat) u x,ws[j]? = some u->ws[q]? = some x->j<q->¬mm u x:=λj q u x a l h=>by
  have:=agW.mp g.Lk j q (fk.mp a).1 (fk.mp l).1 h;rw[(fk.mp a).2,(fk.mp l).2]at this;exact this
 have m:∀(k:Nat) u,(moved ws i w)[k]? = some u->(∀j,i<j->k+1=j->j<ws.length->¬mm u w)->m' L (rows (moved ws i w)) (u.fin,2*k+1)=none:=λk u e h=>g.Xb F e λx X=>by
  obtain⟨q,l⟩:=afr X;rw[ago]at l;rcases D k u e with⟨k1,_⟩|⟨j,_,a,U⟩
  .have:=(fk.mp l).1
   rw[N]at this;omega
  .rcases D _ x l with⟨bJ,rfl⟩|⟨p,_,o,uK⟩
   .rcases U with⟨C,J⟩|⟨C,J⟩
    .exact R j i u _ a hi C
    .exact h j C J (fk.mp a).1
   .exact R j p u x a o (by omega)
 unfold gn;rw[so,Z];dsimp only;unfold rO;have G:∀(j:Nat) u,ws[j]? = some u->i<j->(mm u w↔(w.a7=2\/(w.pl<u.pl/\w.a7≠3))/\u.a7≠3):=λj u a h=>UM (g.P i j w u hi a h).1
 cases c:((ws.drop (i+1)).zipIdx (i+1)).findSome? (l3 w)with
 |none=>
  refine rX λt r e=>?_
  obtain⟨k,rfl|rfl⟩:=uD g t
  .rw[(hr _ k).1,afF]at e
   obtain⟨v,_,rfl⟩:=e;rfl
  .rw[(hr _ k).2,afF]at e
   obtain⟨u,s,rfl⟩:=e;refine m k u s λj d f n1 A=>?_
   rcases D k u s with⟨k1,_⟩|⟨p,_,o,Tr⟩
   .omega
   .have H:p=j:=by omega
    subst H;have:=AX c (p-(i+1)) u (by rw[ago,show i+1+(p-(i+1))=p by omega];exact o);unfold l3 at this;rw[if_pos ((G p u o d).mp A)]at this;cases this
 |some y=>
  obtain⟨k,u,d,f,Y⟩:=AW c;rw[ago]at d;have V:=(fk.mp d).1;have A:mm u w/\y=(("late":Str),2*(i+1+k)-1):=by
   unfold l3 at f;split at f
   .rename_i q;cases f;exact⟨(G _ u d (by omega)).mpr q,rfl⟩
   .cases f
  obtain⟨A,rfl⟩:=A;have I:(moved ws i w)[i+k]? = some u:=by rw[M (i+k) (by omega) (by omega),show i+k+1=i+1+k by omega];exact d
  have S:w∈(moved ws i w).drop (i+k+1):=km (i:=ws.length-1-(i+k+1)) (by rw[ago,show i+k+1+(ws.length-1-(i+k+1))=ws.length-1 by omega];exact K);rw[show 2*(i+1+k)-1=2*(i+k)+1 by omega];refine qt (by rw[(hr _ (i+k)).2,I];rfl) (g.Xc F I S A) λt z bM B=>?_
  obtain⟨q,rfl|rfl⟩:=uD g t
  .rw[(hr _ q).1,afF]at B
   obtain⟨v,_,rfl⟩:=B;rfl
  .rw[(hr _ q).2,afF]at B
   obtain⟨v,s,rfl⟩:=B;refine m q v s λj g1 g2 n1 qF=>?_
   rcases D q v s with⟨k1,_⟩|⟨p,_,o,Tr⟩
   .omega
   .have H:p=j:=by omega
    subst H;have:=Y (p-(i+1)) v (by omega) (by rw[ago,show i+1+(p-(i+1))=p by omega];exact o);unfold l3 at this;rw[if_pos ((G p v o g1).mp qF)]at this;cases this
end
def zC{L:List aJ}{p q:Nat}{l l':aJ}(a:L[p]? = some l)(he:l'.e=l.e)(d:q<=p):ahead (L.set p l') q=ahead L q:=by
 cases q with
 |zero=>rfl|succ q=>
  unfold ahead;dsimp only;have b:=(fk.mp a).1;rw[afu (by omega:p≠q)]
  by_cases c:p=q+1
  .subst c
   rw[afB b,a]
   cases L[q]? with
   |none=>rfl|some x=>dsimp only;rw[he]
  .rw[afu c]
def zD{L:List aJ}{n q:Nat}(a:q<n):ahead (L.take n) q=ahead L q:=by
 cases q with
 |zero=>rfl|succ q=>
  unfold ahead;dsimp only;rw[af8 (by omega),af8 a]
def HI{L:List aJ}{n q:Nat}(a:q<n):fS (L.take n) q=fS L q:=by
 unfold fS;rw[af8 a,zD a]
section
variable{W:List (List Nat)}{L:List aJ}{ws:List bH}(g:Good W L ws)
include g
theorem Good.z_{R:List aV}(h:∀w∈ws,w.cm∈R){q:Nat}{z:aJ}(e:L[q]? = some z):(ep (e9 je R) (.t [.int z.a,.int z.m,cQ z.d])).isSome=true:=by
 obtain⟨i,w,hi,j,k,c,b,f⟩:=g.A q z e;exact(t5 R z.a z.m (cQ z.d)).mpr ⟨w.t,by have:=h w (km hi);unfold bH.cm at this;rwa[c,b,f]at this⟩
theorem Good.wrong(d:W.length<=1000){p:Nat}{l:aJ}(a:L[p]? = some l)(x:Int){R:List aV}(c:∀w∈ws,w.cm∈R):gn (L.set p { l with w:=gL l.w x }) R=some (("wrong":Str),p):=by
 have f:=(fk.mp a).1;have e:=km a;have:ji R (L.set p { l with w:=gL l.w x })=some (("wrong":Str),p):=by
  refine qt (afB f) ?_ λq z h b=>?_
  .unfold l4
   dsimp only;rw[g.z_ c a,if_neg (by decide),zC (l':={ l with w:=gL l.w x }) a rfl (ae9 _),<-g.B p l a,if_neg];rw[(KX (g.bd l e) (by decide) x).1.ne];exact afc
  .rw[afu (by omega)]at b
   unfold l4;dsimp only;rw[g.z_ c b,if_neg (by decide),zC (l':={ l with w:=gL l.w x }) a rfl (by omega),<-g.B q z b,if_pos (pJ (ov (g.ok z (km b)).w d))]
 unfold gn;rw[this]
theorem Good.YU(k:W.length<=1000){p:Nat}{l:aJ}(f:L[p]? = some l):gn (L.set p { l with m:=l.m+1000 }) (rows ws)=some (("unbegun":Str),p):=by
 have s:=(fk.mp f).1;have r:∀w∈ws,w.cm∈rows ws:=λw hw=>fZ.mpr ⟨w,hw,.inl rfl⟩
 have:ji (rows ws) (L.set p { l with m:=l.m+1000 })=some (("unbegun":Str),p):=by
  refine qt (afB s) ?_ λq z x b=>?_
  .unfold l4
   dsimp only
   cases c:(ep (e9 je (rows ws)) (.t [.int l.a,.int (l.m+1000),cQ l.d])).isSome with
   |false=>rfl|true=>
    exfalso;obtain⟨t,n⟩:=(t5 _ _ _ _).mp c;obtain⟨v,h,e|e⟩:=fZ.mp n
    .unfold bH.cm at e
     injection e with ao aG
     obtain⟨j,w,i,_,_,_,u,_⟩:=g.A p l f;have y:=(g.M v h).2;have D:=(g.M w (km i)).1;omega
    .cases e
  .rw[afu (by omega)]at b
   unfold l4;dsimp only;rw[g.z_ r b,if_neg (by decide),zC (l':={ l with m:=l.m+1000 }) f rfl (by omega),<-g.B q z b,if_pos (pJ (ov (g.ok z (km b)).w k))]
 unfold gn;rw[this]
theorem Good.pop{i:Nat}{w:bH}(hi:ws[i]? = some w)(r:w.a7=1\/w.a7=2)(Q:w.pl=L.length)(o:0<L.length):Good W (L.take (L.length-1)) (ws.take i):=by
 have sub:∀l∈L.take (L.length-1),l∈L:=λl k=>agF k
 have t:∀(q:Nat) z,(L.take (L.length-1))[q]? = some z->q<L.length-1/\L[q]? = some z:=λq z e=>by
  rw[ahg]at e;split at e
  .rename_i c;exact⟨c,e⟩
  .cases e
 have F:∀(q:Nat) v,(ws.take i)[q]? = some v->q<i/\ws[q]? = some v:=λq v e=>by
  rw[ahg]at e;split at e
  .rename_i c;exact⟨c,e⟩
  .cases e
 have i7:∀v∈ws.take i,v∈ws/\v.pl<=L.length-1:=λv f=>by
  obtain⟨q,S⟩:=afr f;obtain⟨m,n⟩:=F q v S;have:=(g.P q i v w n hi m).2 r;exact⟨agF f,by omega⟩
 have ln:(L.take (L.length-1)).length=L.length-1:=by rw[afO];omega
 have K:∀v l,v∈ws.take i->nx L v l->nx (L.take (L.length-1)) v l:=λv l f ⟨m,n,H⟩=>⟨m,by rw[af8 (by have:=(i7 v f).2;omega)];exact n,H⟩
 have Y:∀v∈ws.take i,wN (L.take (L.length-1)) v:=λv f=>by
  obtain⟨m,n⟩:=i7 v f
  cases g.T v m with
  |deed r d l hd k s=>exact .deed r d l hd (K v l f k) s|long r l hd k s=>exact .long r l hd (K v l f k) s|short r x hd s h=>
   refine .short r x hd s λN X I=>?_
   rw[ln]at I;rw[List.take_take,ahf I];exact h N X (by omega)
  |last r x hd s aC Q h=>omega|over r d hd s h=>exact .over r d hd s λl k=>h l (sub l k)
 exact{
  ok:=λl k=>g.ok l (sub l k)
  bd:=λl k=>g.bd l (sub l k)
  A:=λp l e=>by
   obtain⟨m,n⟩:=t p l e;obtain⟨j,v,G,H,R,V⟩:=g.A p l n;refine⟨j,v,?_,H,R,V⟩;have:j<i:=by
    rcases aiP j i with c|c|c
    .exact c
    .subst c;rw[hi]at G;cases G;omega
    .have:=(g.P i j w v hi G c).1;omega
   rw[af8 this];exact G
  B:=λp l e=>by obtain⟨m,n⟩:=t p l e;rw[zD m];exact g.B p l n
  C:=λp l e=>by obtain⟨m,n⟩:=t p l e;rw[HI m];exact g.C p l n
  E:=λp q x y ao aG h=>g.E p q x y (t p x ao).2 (t q y aG).2 h
  kD:=λl k=>g.kD l (sub l k)
  D:=λa b u v ao aG h=>g.D a b u v (F a u ao).2 (F b v aG).2 h
  M:=λv f=>g.M v (i7 v f).1
  P:=λa b u v ao aG h=>g.P a b u v (F a u ao).2 (F b v aG).2 h
  jC:=λv f=>by rw[ln];exact(i7 v f).2
  T:=Y
  O:=λv f=>g.O v (i7 v f).1
  Z:=λv f=>g.Z v (i7 v f).1 }
theorem Good.popped(p:W.length<=1000){i:Nat}{w:bH}(hi:ws[i]? = some w)(b:w.a7=1\/w.a7=2)(s:w.pl=L.length):gn (L.take (L.length-1)) (rows ws)=some (("lost":Str),2*i+1):=by
 have hw:=km hi;obtain⟨l,p1,e,a1,a2,ed⟩:∃l,nx L w l:=by
  cases g.T w hw with
  |deed _ _ l _ h=>exact⟨l,h⟩|long _ l _ h=>exact⟨l,h⟩|short b=>omega|last b=>omega|over b=>omega
 have g':=g.pop hi b s (by omega);have D:ji (rows ws) (L.take (L.length-1))=none:=g'.xZ p λv u _=>fZ.mpr ⟨v,agF u,.inl rfl⟩
 have lt:∀(q:Nat) z,(L.take (L.length-1))[q]? = some z->q<L.length-1/\L[q]? = some z:=λq z e=>by
  rw[ahg]at e;split at e
  .rename_i c;exact⟨c,e⟩
  .cases e
 have ao:fD (L.take (L.length-1)) w.a w.m w.o=some "lost":=by
  cases g.T w hw with
  |deed b d l' hd h j=>
   rw[j];unfold fD;dsimp only;rw[Qg]
   .rfl
   .intro z hz q
    obtain⟨k,B⟩:=afr hz;obtain⟨y,n⟩:=lt k z B;have:=(g.i0 hi n q).1;omega
  |long b l' hd h j=>
   obtain⟨_,r,_⟩:=h;rw[e]at r;cases r;have k1:=(g.kD l (km e)).1;have sn:eZ (L.take (L.length-1)) ⟨l.e,some (l.k,l.a),l.w⟩=none:=by
    unfold eZ;dsimp only;rw[if_neg (by intro z;have:l.k=0:=congrArg ag2 z;omega)];have:m7 (L.take (L.length-1)) l.e (l.k,l.a)=none:=rX λq z f=>if_neg λc=>by
     obtain⟨y,n⟩:=lt q z f;have:=g.E q (w.pl-1) z l n e (by omega);have G:z.k=l.k:=congrArg ag2 c.2;omega
    rw[this];rfl
   rw[j];show j6 _ _=_;unfold j6;rw[sn];rfl
  |short b=>omega|last b=>omega|over b=>omega
 have aG:kK (L.take (L.length-1)) (rows ws)=some (("lost":Str),2*i+1):=by
  refine qt (x:=w.fin) (by rw[(hr ws i).2,hi];rfl) ?_ λt z F f=>?_
  .show(fD _ w.a w.m w.o).map _=_
   rw[ao];rfl
  .obtain⟨k,rfl|rfl⟩:=uD g t
   .rw[(hr ws k).1,afF]at f
    obtain⟨v,_,rfl⟩:=f;rfl
   .rw[(hr ws k).2,afF]at f
    obtain⟨v,A,rfl⟩:=f;show(fD _ v.a v.m v.o).map _=none;rw[g'.AG p (i:=k) (by rw[af8 (by omega)];exact A)];rfl
 unfold gn;rw[D,aG]
theorem Good.XD{i:Nat}{w:bH}(hi:ws[i]? = some w)(b:w.a7=3)(z:aY.D):fD L w.a w.m (.did z)=some "lost":=by
 have dv:=g.doer hi;rw[if_neg (by omega)]at dv;unfold fD;dsimp only;rw[dv];rfl
theorem Good.Qc{i:Nat}{w:bH}(hi:ws[i]? = some w)(b:w.a7=2):fD L w.a w.m .over=some "lie":=by
 have dv:=g.doer hi;rw[if_pos b]at dv;unfold fD;dsimp only;rw[dv];rfl
theorem Good.Qb{i:Nat}{w:bH}(hi:ws[i]? = some w)(b:w.a7=2){z f:aY.D}(j:w.o=.did z)(h:cP z f=false):fD L w.a w.m (.did f)=some "lie":=by
 have dv:=g.doer hi;rw[if_pos b]at dv
 cases g.T w (km hi)with
 |deed b d l hd k c=>
  rw[j]at c;cases c;obtain⟨p1,e,a1,a2,ed⟩:=k;unfold fD;dsimp only;rw[dv,aje,e];dsimp only;rw[if_neg (by rw[h];exact afc)];rfl
 |long b=>omega|short b=>omega|last b=>omega|over b=>omega
theorem Good.Zb{w:bH}(hw:w∈ws)(h:w.a7=0\/w.a7=1){x:hY}(b:w.o=.saw x)(c:Int):fD L w.a w.m (.saw { x with w:=gL x.w c })=some "lie":=by
 obtain⟨y,d,_,e,f⟩:=g.sees hw h;rw[b]at d;cases d;have bd:=g.Z w hw x b;show j6 _ _=_;unfold j6;rw[show eZ L { x with w:=gL x.w c }=eZ L x from rfl,e];dsimp only;rw[show((w.pl:Int)-1+1).toNat=w.pl by omega,<-f,(KX bd (by decide) c).2.ne,if_neg afc];rfl
theorem Good.Zc{w:bH}{x:hY}{s:Int×Int}(d:s≠(0,0))(aC:∀l∈L,l.e=x.e->(l.k,l.a)≠s):fD L w.a w.m (.saw { x with s:=some s })=some "lost":=by
 show j6 _ _=_;unfold j6 eZ;dsimp only;rw[if_neg d];have:m7 L x.e s=none:=rX λq z b=>if_neg λc=>aC z (km b) c.1 c.2
 rw[this];rfl
end
def ow{α:Type}{xs:List α}{x y:α}{i:Nat}(h:(xs++[x])[i]? = some y):(i<xs.length/\xs[i]? = some y)\/(i=xs.length/\y=x):=by
 by_cases c:i<xs.length
 .rw[afk c]at h;exact .inl ⟨c,h⟩
 .rw[afn (by omega)]at h
  have:=(fk.mp h).1;rw[afw]at this;have e:i=xs.length:=by omega
  subst e;rw[afY]at h;cases h;exact .inr ⟨rfl,rfl⟩
def gf{α:Type}{xs:List α}{x y:α}(h:y∈xs++[x]):y∈xs\/y=x:=(afZ.mp h).imp id λh=>afj.mp h
def d2(L:List aJ):Int×(Int×Int):=match L.getLast? with
 |none=>(0,(0,0))
 |some l=>if eY l.w.bA=true then(l.e,(l.k,l.a))else(l.e+1,(0,0))
def eF(L:List aJ):b':=(hI L).gg
section
variable{W:List (List Nat)}{L:List aJ}{ws:List bH}
def Good.more(g:Good W L ws){w:bH}(hd:∀v∈ws,(v.a,v.m)≠(w.a,w.m))(r:1<=w.m/\w.m<=900)(k:∀v∈ws,v.pl<=w.pl)(s:w.a7=0\/w.a7=3)(f:w.pl<=L.length)(q:wN L w)(n:tQ W w.o/\ej 7 (cQ w.d))(hz:∀x,w.o=.saw x->jx 100 x.w):Good W L (ws++[w]) where
 ok:=g.ok
 bd:=g.bd
 A:=λp l e=>by
  obtain⟨i,v,hi,h⟩:=g.A p l e;exact⟨i,v,by rw[afk (fk.mp hi).1];exact hi,h⟩
 B:=g.B
 C:=g.C
 E:=g.E
 kD:=g.kD
 D:=λi j u v hi c h=>by
  rcases ow hi with⟨U,J⟩|⟨U,rfl⟩
  .rcases ow c with⟨qL,mU⟩|⟨qL,rfl⟩
   .exact g.D i j u v J mU h
   .exact hd u (km J)
  .have:=(fk.mp c).1
   rw[afb,afw]at this;omega
 M:=λv b=>(gf b).elim (g.M v) λe=>e▸r
 P:=λi j u v hi c h=>by
  rcases ow hi with⟨U,J⟩|⟨U,rfl⟩
  .rcases ow c with⟨qL,mU⟩|⟨qL,rfl⟩
   .exact g.P i j u v J mU h
   .exact⟨k u (km J),λz=>by omega⟩
  .have:=(fk.mp c).1
   rw[afb,afw]at this;omega
 jC:=λv b=>(gf b).elim (g.jC v) λe=>e▸f
 T:=λv b=>(gf b).elim (g.T v) λe=>e▸q
 O:=λv b=>(gf b).elim (g.O v) λe=>e▸n
 Z:=λv b=>(gf b).elim (g.Z v) λe=>e▸hz
def NW{l:aJ}{q:Nat}(a:q<L.length):ahead (L++[l]) q=ahead L q:=by
 have:=zD (L:=L++[l]) a;rw[List.take_left' rfl]at this;exact this.symm
def Qj{l:aJ}{q:Nat}(a:q<L.length):fS (L++[l]) q=fS L q:=by
 have:=HI (L:=L++[l]) a;rw[List.take_left' rfl]at this;exact this.symm
def WL{d:D}(h:eY d=true):d=.aF:=by cases d<;>first|rfl|cases h
def KW{s:b'}(h:eY s.bA=true):s.gg=s:=by
 have:=WL h;unfold b'.gg;rw[<-this]
def NX{l:aJ}(he:l.e=(d2 L).1):ahead (L++[l]) L.length=eF L:=by
 unfold eF hI;unfold d2 at he
 cases h:L.length with
 |zero=>
  obtain rfl:L=[]:=aji.mp h;rfl
 |succ q=>
  have a:q<L.length:=by omega
  have ao:L.getLast? = some L[q]:=by rw[agn,show L.length-1=q by omega];exact afi a
  rw[ao]at he ⊢;unfold ahead;dsimp only at he ⊢;rw[afk (by omega),afi (by omega:q<L.length),afn (by omega),<-h,afY];dsimp only[List.getElem?_cons_zero];generalize L[q]=x at *;split at he
  .rename_i c
   rw[if_pos he.symm,KW c]
  .rw[if_neg (by have:l.e=x.e+1:=he;omega)]
def SI{s:b'}(h:dU ft W s){a m:Int}(b:s.last a<m)(d:1<=m):gJ s a m=false:=by
 cases e:gJ s a m with
 |false=>rfl|true=>
  unfold gJ at e;rw[ag1]at e;obtain⟨x,c,e⟩:=e;obtain⟨ao,aG⟩:=agG.mp e;have ao:=of_decide_eq_true ao;have aG:=of_decide_eq_true aG;unfold b'.last at b;rw[<-ao,A0 (Q:=fB) h.dv.nodup c,aG]at b;omega
def Qp{s:b'}(h:dU ft W s){a m:Int}(c:s.last a<m)(b:eY s.bA=true)(d:e5):gJ (e_ s a m (some d)) a m=true:=by
 have e:(e_ s a m (some d)).ds=kk (Q:=fB) s.ds (a,.t [.int a,.int m,(c5 s a d).2]):=by
  unfold e_;dsimp only;rw[if_pos ⟨b,c⟩]
 unfold gJ;rw[e,ag1];exact⟨_,(oj (Q:=fB)).mpr (.inr rfl),by simp[gv]⟩
def Qq{s:b'}(h:dU ft W s){a m:Int}(e:s.last a<m)(d:Option e5)(b:Int):(e_ s a m d).last b=s.last b\/(b=a/\(e_ s a m d).last b=m):=by
 cases d with
 |none=>exact .inl rfl|some d=>
  unfold e_;dsimp only;split
  .unfold b'.last
   dsimp only;rw[Im (Q:=fB) _ h.dv.nodup]
   by_cases c:b=a
   .rw[if_pos c];exact .inr ⟨c,rfl⟩
   .rw[if_neg c];exact .inl rfl
  .exact .inl rfl
def Zg{l:aJ}{x:hY}{pl:Nat}(aC:nG L x pl)(d:pl<=L.length)(he:x.e<=l.e)(hi:x.s.isSome=true):nG (L++[l]) x pl:=by
 obtain⟨a,f⟩:=aC;refine⟨?_,by rw[ain d];exact f⟩;unfold eZ at a ⊢
 cases e:x.s with
 |none=>rw[e]at hi;cases hi
 |some s=>
  rw[e]at a;dsimp only at a ⊢
  by_cases c:s=(0,0)
  .rw[if_pos c]at a ⊢
   rw[List.filter_append,ajj (by simpa using he)];simpa using a
  .rw[if_neg c]at a ⊢
   rw[afF]at a;obtain⟨q,b,g⟩:=a;have:m7 (L++[l]) x.e s=some q:=by
    unfold m7 at b ⊢;rw[List.zipIdx_append,List.findSome?_append,b];rfl
   rw[this];exact congrArg some g
end
structure hv(W:List (List Nat))(k:Nat)(L:List aJ)(ws:List bH)(N:Int->Int)(s:b'):Prop where
 g:Good W L ws
 de:s.gg=eF L
 q6:dU ft W s
 q4:jx k s
 u0:∀a,s.last a<=N a
 lP:∀a,0<=N a/\N a<=k
 i7:∀w∈ws,w.m<=N w.a/\0<=w.a/\w.a<4
 cV:∀l∈L,l.e<=(d2 L).1
 aw:∀w∈ws,∀x,w.a7=0->w.o=.saw x->x.e<=(d2 L).1/\x.s.isSome=true
 fT:∀l z,L.getLast? = some l->z∈L->z.e<=l.e
 eW:∀l∈L,l.k<=k
 k3:∀w∈ws,w.a7≠3
 cA:eY s.bA=false->∃l,L.getLast? = some l/\s=l.w
 ln:ws.length=k
 kT:L.length<=k
def TQ(W:List (List Nat)):hv W 0 [] [] (λ_=>0) oZ where
 g:=⟨λ_ h=>(by cases h),λ_ h=>(by cases h),λ_ _ h=>(by cases h),λ_ _ h=>(by cases h),λ_ _ h=>(by cases h),λ_ _ _ _ h=>(by cases h),λ_ h=>(by cases h),λ_ _ _ _ h=>(by cases h),λ_ h=>(by cases h),λ_ _ _ _ h=>(by cases h),λ_ h=>(by cases h),λ_ h=>(by cases h),λ_ h=>(by cases h),λ_ h=>(by cases h)⟩
 de:=rfl
 q6:=t6 W
 q4:=⟨λ_ h=>(by cases h),λ_ h=>(by cases h)⟩
 u0:=λa=>agJ _
 lP:=λa=>⟨agJ _,agJ _⟩
 i7:=λ_ h=>(by cases h)
 cV:=λ_ h=>(by cases h)
 aw:=λ_ h=>(by cases h)
 fT:=λ_ _ h=>(by cases h)
 eW:=λ_ h=>(by cases h)
 k3:=λ_ h=>(by cases h)
 cA:=λh=>(by cases h)
 ln:=rfl
 kT:=ae9 _
def l1(N:Int->Int)(a:Int):Int->Int:=λb=>if b=a then N a+1 else N b
def tq(L:List aJ)(N:Int->Int)(a:Int)(t:Int):bH:=⟨a,N a+1,none,t,.saw ⟨(d2 L).1,some (d2 L).2,eF L⟩,0,L.length⟩
def hq(L:List aJ)(N:Int->Int)(k:Nat)(a:Int)(d:Option e5):aJ:=⟨(d2 L).1,(k:Int)+1,a,(d2 L).2,N a+1,d,e_ (eF L) a (N a+1) d⟩
def nd(L:List aJ)(N:Int->Int)(k:Nat)(a:Int)(d:Option e5)(t:Int):bH:=⟨a,N a+1,d,t,match d with|none=>.saw ⟨(d2 L).1,some ((k:Int)+1,a),e_ (eF L) a (N a+1) d⟩|some _=>.did ((e_ (eF L) a (N a+1) d).h2 a),if d.isSome=true then 2 else 1,L.length+1⟩
def QL{L:List aJ}(h:∀l∈L,1<=l.k)(c:(d2 L).2≠(0,0)):∃l,L.getLast? = some l/\eY l.w.bA=true/\d2 L=(l.e,(l.k,l.a)):=by
 unfold d2 at c ⊢
 cases e:L.getLast? with
 |none=>rw[e]at c;exact absurd rfl c|some l=>
  rw[e]at c;dsimp only at c ⊢
  by_cases q:eY l.w.bA=true
  .rw[if_pos q];exact⟨l,rfl,q,rfl⟩
  .rw[if_neg q]at c;exact absurd rfl c
section
variable{W:List (List Nat)}{k:Nat}{L:List aJ}{ws:List bH}{N:Int->Int}{s:b'}(h:hv W k L ws N s)
include h
theorem hv.lQ:dU ft W (eF L):=by rw[<-h.de];exact h.q6.gg
theorem hv.Cm(a:Int):(eF L).last a<=N a:=by rw[<-h.de];exact h.u0 a
theorem hv.sL:jx k (eF L):=by rw[<-h.de];exact⟨h.q4.cs,h.q4.ds⟩
theorem hv.up(a:Int):(∀b,0<=l1 N a b/\l1 N a b<=((k+1:Nat):Int))/\(∀b,N b<=l1 N a b)/\l1 N a a=N a+1:=by
 unfold l1;refine⟨λb=>?_,λb=>?_,if_pos rfl⟩
 .have:=h.lP b
  have:=h.lP a;split<;>omega
 .split
  .rename_i c;rw[c];omega
  .exact agJ _
theorem hv.sees:nG L ⟨(d2 L).1,some (d2 L).2,eF L⟩ L.length:=by
 have pos:=λl b=>(h.g.kD l b).1
 unfold nG eZ;dsimp only
 by_cases c:(d2 L).2=(0,0)
 .rw[if_pos c,if_pos (by rw[c]),agC]
  refine⟨?_,rfl⟩
  cases e:L.getLast? with
  |none=>
   obtain rfl:=ahC.mp e;rfl
  |some l=>
   have d:=aik e;have a:(d2 L).1=l.e+1:=by
    unfold d2 at c ⊢;rw[e]at c ⊢;dsimp only at c ⊢
    by_cases q:eY l.w.bA=true
    .rw[if_pos q]at c
     have k0:l.k=0:=congrArg ag2 c;have:=pos l d;omega
    .rw[if_neg q]
   have el:L[L.length-1]? = some l:=by rw[<-agn];exact e
   have all:∀z∈L,decide (z.e<(d2 L).1)=true:=λz hz=>decide_eq_true (by
    rw[a];have:z.e<=l.e:=h.fT l z e hz;omega)
   rw[List.filter_eq_self.mpr all]
 .obtain⟨l,e,q,a⟩:=QL pos c
  have el:L[L.length-1]? = some l:=by rw[<-agn];exact e
  have b:=(fk.mp el).1;rw[if_neg c,if_neg (λz=>c (afy z)),agC,a];dsimp only;rw[h.g.stamp el];refine⟨?_,?_⟩
  .show some (((L.length-1:Nat)):Int)=_
   rw[show((L.length-1:Nat):Int)=(L.length:Int)-1 by omega]
  .unfold eF hI
   rw[e];exact KW q
end
def xi{α:Type}(xs:List α)(x:α):(xs++[x]).getLast? = some x:=by rw[List.getLast?_append];rfl
section
variable{W:List (List Nat)}{k:Nat}{L:List aJ}{ws:List bH}{N:Int->Int}{s:b'}(h:hv W k L ws N s){a:Int}(au:0<=a/\a<4)(ay:k<20)
include h au ay
theorem hv.fresh:∀v∈ws,(v.a,v.m)≠(a,N a+1):=λv b z=>by
 have c:v.a=a:=congrArg ag2 z;have d:v.m=N a+1:=congrArg Prod.snd z;have:=(h.i7 v b).1;rw[c]at this;omega
theorem hv.short(t:Int):hv W (k+1) L (ws++[tq L N a t]) (l1 N a) s.gg:=by
 obtain⟨n,f,p⟩:=h.up a;have lP:=h.lP a;have lQ:=h.lQ;have sL:=h.sL;exact{
  g:=h.g.more (h.fresh au ay) ⟨by show 1<=N a+1;omega,by show N a+1<=900;omega⟩ (λv c=>h.g.jC v c) (.inl rfl) (ae9 _)
   (.short rfl _ rfl rfl λM i j=>by
    have:M=L.length:=Nat.le_antisymm j i;subst this;rw[agC];exact h.sees) ⟨lQ,BF⟩ λx e=>by cases e;exact sL.mono (by omega)
  de:=by rw[show s.gg.gg=s.gg from rfl];exact h.de
  q6:=h.q6.gg
  q4:=⟨(h.q4.mono (c':=((k+1:Nat):Int)) (by omega)).cs,(h.q4.mono (c':=((k+1:Nat):Int)) (by omega)).ds⟩
  u0:=λb=>ajg (h.u0 b) (f b)
  lP:=n
  i7:=λv c=>(gf c).elim (λc=>⟨ajg (h.i7 v c).1 (f _),(h.i7 v c).2⟩) λe=>e▸⟨by show N a+1<=l1 N a a;rw[p];exact agJ _,au⟩
  cV:=h.cV
  aw:=λv c x k0 d=>(gf c).elim (λc=>h.aw v c x k0 d) λe=>by
   subst e;cases d;exact⟨agJ _,rfl⟩
  fT:=h.fT
  eW:=λl m=>by have:=h.eW l m;omega
  k3:=λv c=>(gf c).elim (h.k3 v) λe=>e▸(by show(0:Nat)≠3;omega)
  cA:=λz=>(by cases z)
  ln:=by rw[afb,h.ln];rfl
  kT:=Nat.le_succ_of_le h.kT }
theorem hv.link{d:Option e5}(hd:wL W d)(t:Int):hv W (k+1) (L++[hq L N k a d]) (ws++[nd L N k a d t]) (l1 N a) (e_ (eF L) a (N a+1) d):=by
 obtain⟨l0,oD,tn⟩:=h.up a;have lP:=h.lP a;have lQ:=h.lQ;have sL:=h.sL;have w:(eF L).last a<N a+1:=by have:=h.Cm a;omega
 have I:=HJ lQ au.1 (by omega) (N a+1) (d:=d) λx e=>(hd x e).1
 have K:=Qm (by omega) sL a (N a+1) (d:=d) λx e=>(hd x e).2
 have UL:=Qq lQ w d;have o7:ej 7 (cQ d):=by
  cases d with
  |none=>exact BF|some x=>
   have r:=(hd x rfl).1
   cases x with
   |put b n=>exact(pn (n:=0) (iE (by decide +kernel)) (iE r.1.1) fb).up (by decide)| add b n=>exact(pn (n:=0) (iE (by decide +kernel)) (iE r.1.1) fb).up (by decide)| swap b o n=>exact(JK (n:=0) (iE (by decide +kernel)) (iE r.1.1) fb fb).up (by decide)| take f=>exact(hH (n:=0) (iE (by decide +kernel)) fb).up (by decide)| renew f=>exact(hH (n:=0) (iE (by decide +kernel)) fb).up (by decide)| free f=>exact(hH (n:=0) (iE (by decide +kernel)) fb).up (by decide)| sure f b n=>exact(JK (n:=0) (iE (by decide +kernel)) fb (iE r.1.1) fb).up (by decide)| move z=>exact hH (n:=6) (iE (by decide +kernel)) r.2| fin=>exact(Um (n:=0) (iE (by decide +kernel))).up (by decide)
 have F:∀(p:Nat) l,(L++[hq L N k a d])[p]? = some l->(p<L.length/\L[p]? = some l)\/(p=L.length/\l=hq L N k a d):=λp l e=>ow e
 have ln:(L++[hq L N k a d]).length=L.length+1:=by rw[afb];rfl
 have V:ahead (L++[hq L N k a d]) L.length=eF L:=NX rfl;have nn:(L++[hq L N k a d])[L.length]? = some (hq L N k a d):=by rw[afn (ae9 _),afY];rfl
 have em:(d2 (L++[hq L N k a d])).1=(d2 L).1\/(d2 (L++[hq L N k a d])).1=(d2 L).1+1:=by
  conv=>lhs;unfold d2
  conv=>rhs;lhs;unfold d2
  rw[xi];dsimp only;split
  .exact .inl rfl
  .exact .inr rfl
 have R:∀(p:Nat) l,L[p]? = some l->(L++[hq L N k a d])[p]? = some l:=λp l e=>by rw[afk (fk.mp e).1];exact e
 have X:nx (L++[hq L N k a d]) (nd L N k a d t) (hq L N k a d):=⟨agZ (afC _),by show(L++[hq L N k a d])[L.length+1-1]? = _;rw[Nat.add_sub_cancel];exact nn,rfl,rfl,rfl⟩;have Un:(nd L N k a d t).a7=1\/(nd L N k a d t).a7=2:=by
  cases d with
  |none=>exact .inl rfl|some x=>exact .inr rfl
 have eD:fS (L++[hq L N k a d]) L.length=if d.isSome=true then some (a,N a+1)else none:=by
  unfold fS;rw[nn,V];dsimp only;have Y:gJ (eF L) a (N a+1)=false:=SI lQ w (by omega);show(if(gJ (e_ (eF L) a (N a+1) d) a (N a+1)&&!gJ (eF L) a (N a+1))=true then some (a,N a+1)else none)=_;rw[Y,Bool.not_false,ajC]
  cases d with
  |none=>rw[show e_ (eF L) a (N a+1) none=eF L from rfl,Y];rfl|some x=>rw[Qp lQ w rfl x];rfl
 have tt:∀v∈ws++[nd L N k a d t],wN (L++[hq L N k a d]) v:=λv m=>by
  rcases gf m with m|rfl
  .have vg:∀l,nx L v l->nx (L++[hq L N k a d]) v l:=λl ⟨ae,af,bq⟩=>⟨ae,R _ l af,bq⟩
   cases h.g.T v m with
   |deed ay d' l G S r=>exact .deed ay d' l G (vg l S) r|long ay l G S r=>exact .long ay l G (vg l S) r|short ay x G r hh=>
    have aw:=h.aw v m x ay r;refine .short ay x G r λM kg fW=>?_
    rw[ln]at fW
    by_cases c:M<=L.length
    .rw[ain c];exact hh M kg c
    .have:M=L.length+1:=by omega
     subst this;rw[agd (by rw[ln];exact ae9 _)];have:=hh L.length (h.g.jC v m) (ae9 _);rw[agC]at this;exact Zg this (h.g.jC v m) aw.1 aw.2
   |last ay x G r aC=>
    have aw:=(h.aw v m x ay r).2;rw[aC]at aw;cases aw
   |over ay=>exact absurd ay (h.k3 v m)
  .cases d with
   |none=>exact .long rfl (hq L N k a none) rfl X rfl|some x=>exact .deed rfl x (hq L N k a (some x)) rfl X rfl
 exact{
  g:={
   ok:=λl w=>(gf w).elim (h.g.ok l) λe=>e▸⟨I,λx e=>(hd x e).1,⟨au.1,by show a<6;omega⟩,o7⟩
   bd:=λl w=>(gf w).elim (h.g.bd l) λe=>e▸K.mono (by omega)
   A:=λp l e=>by
    rcases F p l e with⟨_,e⟩|⟨rfl,rfl⟩
    .obtain⟨i,v,hi,z⟩:=h.g.A p l e
     exact⟨i,v,by rw[afk (fk.mp hi).1];exact hi,z⟩
    .exact⟨ws.length,nd L N k a d t,by rw[afn (ae9 _),afY];rfl,rfl,Un,rfl,rfl,rfl⟩
   B:=λp l e=>by
    rcases F p l e with⟨J,e⟩|⟨rfl,rfl⟩
    .rw[NW J];exact h.g.B p l e
    .rw[V];rfl
   C:=λp l e=>by
    rcases F p l e with⟨J,e⟩|⟨rfl,rfl⟩
    .rw[Qj J];exact h.g.C p l e
    .exact eD
   E:=λp q x y ao aG uK=>by
    rcases F q y aG with⟨ba,aG⟩|⟨rfl,rfl⟩
    .rcases F p x ao with⟨J,ao⟩|⟨rfl,rfl⟩
     .exact h.g.E p q x y ao aG uK
     .omega
    .rcases F p x ao with⟨J,ao⟩|⟨rfl,rfl⟩
     .have:=h.eW x (km ao)
      show x.k<(k:Int)+1;omega
     .omega
   kD:=λl w=>(gf w).elim (h.g.kD l) λe=>e▸⟨by show 1<=(k:Int)+1;omega,by show(k:Int)+1<=1000;omega⟩
   D:=λi j u v hi H Q=>by
    rcases ow hi with⟨_,U⟩|⟨rfl,rfl⟩
    .rcases ow H with⟨_,mU⟩|⟨rfl,rfl⟩
     .exact h.g.D i j u v U mU Q
     .exact h.fresh au ay u (km U)
    .have:=(fk.mp H).1
     rw[afb,afw]at this;omega
   M:=λv m=>(gf m).elim (h.g.M v) λe=>e▸⟨by show 1<=N a+1;omega,by show N a+1<=900;omega⟩
   P:=λi j u v hi H Q=>by
    rcases ow hi with⟨_,U⟩|⟨rfl,rfl⟩
    .rcases ow H with⟨_,mU⟩|⟨rfl,rfl⟩
     .exact h.g.P i j u v U mU Q
     .have:=h.g.jC u (km U)
      exact⟨by show u.pl<=L.length+1;omega,λ_=>by show u.pl<L.length+1;omega⟩
    .have:=(fk.mp H).1
     rw[afb,afw]at this;omega
   jC:=λv m=>by
    rw[ln];rcases gf m with m|rfl
    .exact Nat.le_succ_of_le (h.g.jC v m)
    .exact ae9 _
   T:=tt
   O:=λv m=>(gf m).elim (h.g.O v) λe=>by
    subst e;refine⟨?_,o7⟩
    cases d with
    |none=>exact I| some x=>exact hM (zH I a) (by decide)
   Z:=λv m=>(gf m).elim (h.g.Z v) λe=>by
    subst e;intro x r
    cases d with
    |none=>cases r;exact K.mono (by omega)
    |some y=>cases r }
  de:=by unfold eF hI;rw[xi];rfl
  q6:=I
  q4:=K.mono (by omega)
  u0:=λb=>by
   rcases UL b with e|⟨rfl,e⟩
   .rw[e];exact ajg (h.Cm b) (oD b)
   .rw[e,tn];exact agJ _
  lP:=l0
  i7:=λv m=>(gf m).elim (λm=>⟨ajg (h.i7 v m).1 (oD _),(h.i7 v m).2⟩) λe=>e▸⟨by show N a+1<=l1 N a a;rw[tn];exact agJ _,au⟩
  cV:=λl w=>by
   have:l.e<=(d2 L).1:=(gf w).elim (h.cV l) λe=>e▸agJ _
   omega
  aw:=λv m x k0 r=>(gf m).elim (λm=>by
   have:=h.aw v m x k0 r;exact⟨by omega,this.2⟩) λe=>by subst e;omega
  fT:=λl z e hz=>by
   rw[xi]at e;cases e;exact(gf hz).elim (h.cV z) λe=>e▸agJ _
  eW:=λl w=>(gf w).elim (λw=>by have:=h.eW l w;omega) λe=>e▸(by show(k:Int)+1<=((k+1:Nat):Int);omega)
  k3:=λv m=>(gf m).elim (h.k3 v) λe=>by subst e;omega
  cA:=λ_=>⟨hq L N k a d,xi _ _,rfl⟩
  ln:=by rw[afb,h.ln];rfl
  kT:=by rw[ln];exact agZ h.kT }
end
section
variable{S S1:b1}{U:aN}{i:Nat}
def DT{mo:br}{ms:cJ}{xs ys:List D}{r:R}(b:ax S (mo U) (.v (.ref i)))(c:ax S (ms U) [r])(fT:r.fp=some ys)(h:S[i]? = some (.l xs))(z:xs.length+ys.length<=afe):aZ S (dE m_ mo ms U) (.a6 U) (S.set i (.l (xs++ys))):=
 b.to.bind (c.to.bind ((kc h).to.bind ((ax.to (a:=(R.v .aF,xs++ys)) (.of (by show(match r.fp with|some ys=>_|none=>_)=_;rw[fT];show(iv (xs.length+ys.length<=afe) >>= _)=_;rw[Gh z];rfl))).bind rfl)))
def wj{mo mk:br}{mv:dG}{xs:List D}{r:R}{d:D}{j:Nat}(a:aZ S (mv U) r S1)(e:r.dat=pure d)(b:ax S1 (mo U) (.v (.ref i)))(c:ax S1 (mk U) (.v (.int j)))(h:S1[i]? = some (.l xs))(f:j<xs.length):aZ S (oI mo mk mv U) (.a6 U) (S1.set i (.l (xs.set j d))):=
 a.bind ((ax.of e).to.bind (b.to.bind (c.to.bind ((kc h).to.bind (by show aZ S1 (if 0<=(j:Int)/\(j:Int)<xs.length then _ else _) _ _;rw[if_pos ⟨by omega,by omega⟩];rfl)))))
end
def sk:Nat->Str
 |0=>"short"|1=>"long"|2=>"deed"|_=>"over"
def c7(w:bH):D:=.str (sk w.a7)
def dD(w:bH):D:=.int (w.pl:Nat)
def n'(N:Int->Int):List D:=[.int (N 0),.int (N 1),.int (N 2),.int (N 3)]
def cB(L:List aJ)(R:List aV)(K P:List D)(N:Int->Int)(t:b1):b1:=.l (L.map aJ.D)::.l (R.map aV.D)::.l K::.l P::.l (n' N)::t
def Ci(N:Int->Int){a:Int}(h:0<=a/\a<4):bu (.mv (n' N)) (.v (.int a))=pure (.v (.int (N a))):=by
 have e:a=0\/a=1\/a=2\/a=3:=by omega
 rcases e with e|e|e|e<;>subst e<;>rfl
def Vn(N:Int->Int){a:Int}(h:0<=a/\a<4):(n' N).set a.toNat (.int (N a+1))=n' (l1 N a):=by
 have e:a=0\/a=1\/a=2\/a=3:=by omega
 rcases e with e|e|e|e<;>subst e<;>rfl
def J2{L:List aJ}{l:aJ}(e:L.getLast? = some l):bu (.mv (L.map aJ.D)) (.v (.int (-1)))=pure (.v l.D):=by
 have el:(L.map aJ.D).getLast? = some l.D:=by rw[aiO,e];rfl
 show(match dK (L.map aJ.D) (-1)with|some d=>pure (R.v d)|none=>bad)=_;rw[zP el]
def oY(a:Int):c0 (.v (.int a)) (.v (.int 1))=pure (.v (.int (a+1))):=rfl
def NT(a:Int):c0 (.v (.int a)) (.v (.int 3))=pure (.v (.int (a+3))):=rfl
def Ko(a:Int):d3 (.v (.int 7)) (.v (.int a))=pure (.v (.int (7*a))):=Cf (Cg (by decide) (by decide))
def QM{L:List aJ}{R:List aV}{K P:List D}{N:Int->Int}{t:b1}(b la i d j m c n f g h:Slot) :
  ax (cB L R K P N t) (bX (aO (aa kY (b5 c8 (bf (bo (I 0)))) (ar 0))) (bz (bQ 9 (c1 (aa bu (bo (I 0)) (cX fx (ar 1))) 0))
  (bz (bQ 10 (c1 (aa bu (bo (I 0)) (cX fx (ar 1))) 1))
  (bX (aO (aa gK (c1 (c1 (aa bu (bo (I 0)) (cX fx (ar 1))) 5) 3) (aH .aF))) (bz (bQ 9 (aa c0 (I 9) (ar 1)))
  (bQ 10 (a0 (a8 (ar 0) (ar 0))))) bN))) bN [.val (.ref 0),b,la,i,d,j,m,c,n,.val (.int 0),.val (cK (0,0)),f,g,h])
  (.a6 [.val (.ref 0),b,la,i,d,j,m,c,n,.val (.int (d2 L).1),.val (cK (d2 L).2),f,g,h]):=by
 have B:(cB L R K P N t)[0]? = some (.l (L.map aJ.D)):=rfl;have le:∀u s,ax (cB L R K P N t) (b5 c8 (bf (bo (I 0))) [.val (.ref 0),b,la,i,d,j,m,c,n,u,s,f,g,h]) (.v (.int (L.length:Nat))):=λ_ _=>kb (rs:=[.mv (L.map aJ.D)]) (by show pure (aY.R.v (.int ((L.map aJ.D).length:Nat)))=_;rw[sg]) (a3 (d9 B (.of rfl)) cb)
 unfold d2
 cases e:L.getLast? with
 |none=>
  obtain rfl:=ahC.mp e;exact h6 (gX (dk rfl (le _ _) (.of rfl))) (.of rfl)
 |some l=>
  have E:0<L.length:=ag5.mpr λz=>by rw[z]at e;cases e
  have A:∀u s,ax (cB L R K P N t) (aa bu (bo (I 0)) (cX fx (ar 1)) [.val (.ref 0),b,la,i,d,j,m,c,n,u,s,f,g,h]) (.v l.D):=λ_ _=>dk (y:=.v (.int (-1))) (J2 e) (d9 B (.of rfl)) (.of rfl)
  refine gY (gX (dk (uz.trans (by rw[decide_eq_true (by omega)])) (le _ _) (.of rfl))) (fG (eM (dk (r:=.v (.int l.e)) rfl (A _ _) (.of rfl))) (fG (eM (dk (r:=.v (cK (l.k,l.a))) rfl (A _ _) (.of rfl))) ?_));have p:ax (cB L R K P N t) (aO (aa gK (c1 (c1 (aa bu (bo (I 0)) (cX fx (ar 1))) 5) 3) (aH .aF)) [.val (.ref 0),b,la,i,d,j,m,c,n,.val (.int l.e),.val (cK (l.k,l.a)),f,g,h]) (!eY l.w.bA):=gX (dk (yn _) (dk (x:=.v l.w.D) (r:=.v l.w.bA) rfl (dk (r:=.v l.w.D) rfl (A _ _) (.of rfl)) (.of rfl)) (.of rfl));dsimp only
  by_cases q:eY l.w.bA=true
  .rw[q]at p
   rw[if_pos q];exact h6 p (.of rfl)
  .rw[Bool.eq_false_iff.mpr q]at p
   rw[if_neg q];exact gY p (fG (eM (.of (aD (oY _) rfl rfl))) (.of rfl))
def sf{S:b1}{U:aN}{i:Nat}{mo:br}{ms:br}{xs:List aV}{r:aV}(a:ax S (mo U) (.v (.ref i)))(b:ax S (ms U) (.v r.D))(h:S[i]? = some (.l (xs.map aV.D)))(z:xs.length<=1000):aZ S (dE eG mo (bf ms) U) (.a6 U) (S.set i (.l ((xs++[r]).map aV.D))):=by
 rw[afo];exact zb a (a3 b cb) h (by rw[sg];exact f3 z)
abbrev fj(a b d:List Nat):List D:=[.str (bC a),.str (bC b),.str (bC d)]
def T1{xs:List D}{x:D}(k:Nat)(e:xs[k]? = some x):bu (.fr xs) (.v (.int (k:Nat)))=pure (.v x):=Jq (jd k e)
def N4{W:List (List Nat)}{s:b'}(h:dU ft W s){a m:Int}{v:D}(e:dB (Q:=fB) s.ds a=some (.t [.int a,.int m,v])){S:b1}{U:aN}(i:I 8 U=pure (.v (.int a)))(b:I 12 U=pure (.v s.D))(f:mF 1 [8] U=[.emp,.val (.int a)]) :
  ax S (aa bu (aa bu (hy 1 [8] (iX (aI 12 1)) (aO (aa oEq (aI 0 0) (I 1))) (I 0)) (ar 0)) (ar 2) U) (.v v):=by
 have dl:=h.dl;have d:iD (aO (aa oEq (aI 0 0) (I 1))) (I 0) [.emp,.val (.int a)] (s.ds.map (·.2))=pure ((s.ds.filter λx=>decide (x.1=a)).map (·.2)):=
  o5 (λx:Int×D=>x.2) (λx=>decide (x.1=a)) (λx=>x.2) s.ds (λx c=>by
   obtain⟨n,z,e⟩:=h.num x c;rw[e];exact bR (aD h4 (aD rfl rfl rfl) rfl)) λx _ _=>uh rfl
 have it:iX (aI 12 1) U=pure (s.ds.map (·.2)):=by
  show(aa bu (I 12) (ar 1) U >>= _)=_;rw[aD (x:=.v s.D) (y:=.v (.int 1)) (r:=pure (.v (.t (s.ds.map (·.2))))) rfl b rfl];rfl
 have co:hy 1 [8] (iX (aI 12 1)) (aO (aa oEq (aI 0 0) (I 1))) (I 0) U=pure (.fr ((s.ds.filter λx=>decide (x.1=a)).map (·.2))):=qi it (by rw[sg];exact f3 (by omega)) (by rw[f];exact d);have g:((s.ds.filter λx=>decide (x.1=a)).map (·.2))[0]? = some (.t [.int a,.int m,v]):=by
  rw[afh,<-List.head?_eq_getElem?,List.head?_filter];exact e
 exact .of (aD (x:=.v (.t [.int a,.int m,v])) rfl (aD (T1 0 g) co rfl) rfl)
def divC{a b:Int}(c:0<b)(d:b<10 ^ 200):er (.v (.int a)) (.v (.int b))=pure (.v (.int (a / b))):=Qd (Aw c d)
section
variable{na nb c2:List Nat}(au:e7 na)(ag:e7 nb)(hd:e7 c2){k:Nat}{L:List aJ}{ws:List bH}{N:Int->Int}{s:b'}(h:hv [na,nb,c2] k L ws N s)(ay:k<20)
include au ag hd h ay
theorem abo(c:Int)(P:List D)(t:b1):∃V w b s',hv [na,nb,c2] (k+1) V (ws++[w]) b s'/\w.pl=V.length/\
  aZ (cB L (rows ws) (ws.map c7) P N t) (vc [.ref 0,.ref 1,.ref 2,.ref 4,(eF L).D,.int c,.int (k:Nat),.l (fj na nb c2)]) (.v s'.D) (cB V (rows (ws++[w])) ((ws++[w]).map c7) P b t):=by
 obtain⟨a,gG,M⟩:∃a:Int,c % 4=a/\(0<=a/\a<4):=⟨_,rfl,mod_lt (by decide)⟩;obtain⟨x,ex,Na⟩:=UP au ag hd (c / 4 % 1000000000) c;have LX:(rows ws).length<=900:=by rw[hs,h.ln];omega
 have acU:L.length<=900:=by have:=h.kT;omega
 have wl:(ws.map c7).length<=900:=by rw[sg,h.ln];omega
 have ae0:c3 (cQ x)=.val (cQ x):=by rcases x with _|x|_|_|_<;>rfl
 let m:=N a+1
 let b:=l1 N a
 let S1:=cB L (rows ws) (ws.map c7) P b t
 let H:=cB L (rows ws++[aV.cm a m (cQ x) (7*k)]) (ws.map c7) P b t
 let E (f n F q u:Slot):aN:=[.val (.ref 0),.val (.ref 1),.val (.ref 2),.val (.ref 4),.val (eF L).D,.val (.int c),.val (.int (k:Nat)),.bF (fj na nb c2),.val (.int a),f,n,F,q,u]
 have O:∀{S:b1}{f n F q u:Slot},S[4]? = some (.l (n' b))->ax S (aa bu (bo (I 3)) (I 8) (E f n F q u)) (.v (.int m)):=λcW=>dk (by rw[show m=b a from(if_pos rfl).symm];exact Ci b M) (d9 cW (.of rfl)) (.of rfl)
 have pre:∀{r K},aZ H (Fw (E (.val (.int (d2 L).1)) (.val (cK (d2 L).2)) (.val (cQ x)) .emp .emp)) (.b0 (.v r)) K->aZ (cB L (rows ws) (ws.map c7) P N t) (vc [.ref 0,.ref 1,.ref 2,.ref 4,(eF L).D,.int c,.int (k:Nat),.l (fj na nb c2)]) (.v r) K:=λ{r K} e=>by
  refine iK rfl (b3 (U':=E .emp .emp .emp .emp .emp) (ax.of (ez (by rw[<-gG];exact aD (kW (by decide)) rfl rfl))).to ?_);have xC:=wj (S:=cB L (rows ws) (ws.map c7) P N t) (S1:=cB L (rows ws) (ws.map c7) P N t) (i:=4) (mo:=I 3) (mk:=I 8) (mv:=eI (aa c0 (aa bu (bo (I 3)) (I 8)) (ar 1))) (U:=E .emp .emp .emp .emp .emp) (xs:=n' N) (r:=.v (.int m)) (d:=.int m) (j:=a.toNat)
   (dk (x:=.v (.int (N a))) (oY _) (dk (Ci N M) (d9 (i:=4) rfl (.of rfl)) (.of rfl)) (.of rfl)).to rfl (.of rfl) (.of (by rw[show((a.toNat:Nat):Int)=a by omega];rfl)) rfl (by show a.toNat<4;omega)
  rw[show(cB L (rows ws) (ws.map c7) P N t).set 4 (.l ((n' N).set a.toNat (.int m)))=S1 by rw[Vn N M];rfl]at xC;refine b3 xC (b3 (U':=E (.val (.int 0)) .emp .emp .emp .emp) rfl (b3 (U':=E (.val (.int 0)) (.val (cK (0,0))) .emp .emp .emp) rfl (b3 (QM _ _ _ _ _ _ _ _ _ _ _).to ?_)));have CG:aa ia (ar 10) (ar 9) (E (.val (.int (d2 L).1)) (.val (cK (d2 L).2)) .emp .emp .emp)=pure (.v (.int 1000000000)):=aD (vx (by decide) (by decide)) rfl rfl;refine b3 (U':=E (.val (.int (d2 L).1)) (.val (cK (d2 L).2)) (.val (cQ x)) .emp .emp) (eM (jl (rs:=[.bF (fj na nb c2),.v (.int (c / 4 % 1000000000)),.v (.int c)]) (a3 (.of rfl) (a3 (.of (aD (kW (by decide)) (aD (divC (by decide) (by decide)) rfl rfl) CG)) (a3 (.of rfl) cb))) (.of ex))).to ?_;refine b3 (sf (i:=1) (r:=aV.cm a m (cQ x) (7*k)) (.of rfl) ?_ rfl (by omega)) e;refine h7 (a3 (.of rfl) (a3 (.of rfl) (a3 (O rfl) (a3 (.of rfl) (a3 (.of (aD (Ko _) rfl rfl)) cb))))) rfl (aff rfl)
 have J:∀w:bH,w.cm=aV.cm a m (cQ x) (7*k)->rows ws++[aV.cm a m (cQ x) (7*k)]++[w.fin]=rows (ws++[w]):=λw e=>by
  rw[pM,afQ,<-e];rfl
 have YZ:(rows ws++[aV.cm a m (cQ x) (7*k)]).length<=1000:=by rw[afb,afw];omega
 have Y:∀{S:b1}{f n F q u:Slot}{z:Str}{xs:List D},S[2]? = some (.l xs)->xs.length<=900->aZ S (dE eG (I 2) (bf (aH (.str z))) (E f n F q u)) (.a6 (E f n F q u)) (S.set 2 (.l (xs++[.str z]))):=λT af=>zb (.of rfl) (a3 (.of rfl) cb) T (f3 (by omega))
 have X:∀{S:b1}{f n F q u:Slot}{me:br}{o:dQ},S[1]? = some (.l ((rows ws++[aV.cm a m (cQ x) (7*k)]).map aV.D))->S[4]? = some (.l (n' b))->ax S (me (E f n F q u)) (.v o.D)->
   aZ S (dE eG (I 1) (bf (a0 (bW (aH (.str "end")) (bW (I 8) (bG (aa bu (bo (I 3)) (I 8)) me (aa c0 (aa d3 (ar 7) (I 6)) (ar 3))))))) (E f n F q u)) (.a6 (E f n F q u)) (S.set 1 (.l ((rows ws++[aV.cm a m (cQ x) (7*k)]++[aV.fin a m o (7*k+3)]).map aV.D))):=λT b4 aL=>
  sf (r:=aV.fin a m _ (7*k+3)) (.of rfl) (h7 (a3 (.of rfl) (a3 (.of rfl) (a3 (O b4) (a3 aL (a3 (.of (aD (NT _) (aD (Ko _) rfl rfl) rfl)) cb))))) rfl (aff rfl)) T YZ
 have MY:∀f n q u,ax H (aO (aa fq (I 11) (aH .aF)) (E f n (.val (cQ x)) q u)) x.isNone:=λ_ _ _ _=>.of (bR (aD (show fq (.v (cQ x)) (.v .aF)=pure (.v (.aM x.isNone))by rcases x with _|x|_|_|_<;>rfl) rfl rfl))
 let B:Slot:=.val (.int (d2 L).1)
 let A:Slot:=.val (cK (d2 L).2)
 let G:Slot:=.val (cQ x)
 have R:ax H (aO (aa oEq (aa oMod (aa er (I 5) (ar 64)) (ar 2)) (ar 0)) (E B A G .emp .emp)) (decide (c / 64 % 2=0)):=.of (bR (aD h4 (aD (kW (by decide)) (aD (divC (by decide) (by decide)) rfl rfl) rfl) rfl))
 by_cases cs:x=none/\c / 64 % 2=0
 .obtain⟨rfl,aa⟩:=cs
  rw[decide_eq_true aa]at R;refine⟨L,tq L N a (7*k),b,s.gg,h.short M ay _,rfl,pre ?_⟩;have de:=h.de;rw[de];refine fg (fJ (pk (MY _ _ _ _) R).to (b3 (Y rfl wl) (b3 (X (o:=.saw ⟨(d2 L).1,some (d2 L).2,eF L⟩) rfl rfl (.of (dS rfl (m9 rfl rfl rfl)))) ?_)));have ao:=J (tq L N a (7*k)) rfl;have fin:tq L N a (7*k)=tq L N a (7*k):=rfl;rw[show rows ws++[aV.cm a m (cQ none) (7*k)]++[aV.fin a m (.saw ⟨(d2 L).1,some (d2 L).2,eF L⟩) (7*k+3)]=rows (ws++[tq L N a (7*k)])from ao,afo];rfl
 .have eb:ax H (fA (aO (aa fq (I 11) (aH .aF))) (aO (aa oEq (aa oMod (aa er (I 5) (ar 64)) (ar 2)) (ar 0))) (E B A G .emp .emp)) false:=by
   have W:=MY B A .emp .emp
   cases C:x with
   |none=>
    rw[C]at W;have:¬c / 64 % 2=0:=λz=>cs ⟨C,z⟩
    rw[decide_eq_false this]at R;subst C;exact pk W R
   |some y=>subst C;exact se W
  have inv:=h.link M ay Na (7*k);have Vd:u_ [(eF L).D,.int a,.int m,cQ x]=pure (.v (e_ (eF L) a m x).D):=UQ h.lQ (by show(3:Nat)<59;omega) a m λy e=>(Na y e).1
  let l:=hq L N k a x
  have ZC:ax H (bQ 12 (b2 u_ (bW (I 4) (bG (I 8) (aa bu (bo (I 3)) (I 8)) (I 11)))) (E B A G .emp .emp)) (.a6 (E B A G (.val l.w.D) .emp)):=eM (jl (rs:=[.v (eF L).D,.v (.int a),.v (.int m),.v (cQ x)]) (a3 (.of rfl) (a3 (.of rfl) (a3 (O rfl) (a3 (.of rfl) cb)))) (.of Vd))
  let cu:=cB (L++[l]) (rows ws++[aV.cm a m (cQ x) (7*k)]) (ws.map c7) P b t
  have ZD:aZ H (dE eG (I 0) (bf (a0 (bW (I 9) (bW (a0 (a8 (aa c0 (I 6) (ar 1)) (I 8))) (bW (I 10) (bG (aa bu (bo (I 3)) (I 8)) (I 11) (I 12))))))) (E B A G (.val l.w.D) .emp)) (.a6 (E B A G (.val l.w.D) .emp)) cu:=by
   have aw:cu=H.set 0 (.l (L.map aJ.D++[l.D])):=by
    show cB (L++[l]) _ _ _ _ _=_;unfold cB;rw[afo];rfl
   rw[aw];exact zb (i:=0) (.of rfl) (a3 (h7 (rs:=[.v (.int l.e),.v (cK (l.k,l.a)),.v (cK l.p),.v (.int l.m),.v (cQ l.d),.v l.w.D]) (a3 (.of rfl) (a3 (.of (dS (aD (oY _) rfl rfl) rfl)) (a3 (.of rfl) (a3 (O (S:=H) rfl) (a3 (.of rfl) (a3 (.of rfl) cb)))))) rfl (aff rfl)) cb) rfl (by rw[sg];exact f3 (by omega))
  have vy:∀{r K},aZ cu (Fv (E B A G (.val l.w.D) .emp)) (.b0 (.v r)) K->aZ (cB L (rows ws) (ws.map c7) P N t) (vc [.ref 0,.ref 1,.ref 2,.ref 4,(eF L).D,.int c,.int (k:Nat),.l (fj na nb c2)]) (.v r) K:=λe=>pre (b3 (kA eb.to rfl) (b3 ZC.to (b3 ZD e)))
  refine⟨L++[l],nd L N k a x (7*k),b,l.w,inv,by rw[afb];rfl,vy ?_⟩;have ao:=J (nd L N k a x (7*k)) rfl;have pT:ax cu (aO (aa fq (I 11) (aH .aF)) (E B A G (.val l.w.D) .emp)) x.isNone:=.of (bR (aD (show fq (.v (cQ x)) (.v .aF)=pure (.v (.aM x.isNone))by rcases x with _|x|_|_|_<;>rfl) rfl rfl))
  cases x with
  |none=>
   refine fg (fJ pT.to (b3 (Y rfl wl) (b3 (X (o:=.saw ⟨l.e,some (l.k,l.a),l.w⟩) rfl rfl (.of (dS rfl (m9 rfl (dS (aD (oY _) rfl rfl) rfl) rfl)))) ?_)));rw[show rows ws++[aV.cm a m (cQ none) (7*k)]++[aV.fin a m (.saw ⟨l.e,some (l.k,l.a),l.w⟩) (7*k+3)]=rows (ws++[nd L N k a none (7*k)])from ao,afo];rfl
  |some y=>
   have hl:(eF L).last a<m:=by have:=h.Cm a;show _<N a+1;omega
   obtain⟨v,Z⟩:∃v,dB (Q:=fB) l.w.ds a=some (.t [.int a,.int m,v]):=by
    refine⟨(c5 (eF L) a y).2,?_⟩;show dB (Q:=fB) (e_ (eF L) a m (some y)).ds a=_;unfold e_;dsimp only;rw[if_pos ⟨rfl,hl⟩];dsimp only;rw[Im (Q:=fB) _ h.lQ.dv.nodup,if_pos rfl]
   have rI:l.w.h2 a=v:=by unfold b'.h2;rw[Z]
   have ke:=inv.g.ok l (afJ _ (afj.mpr rfl));refine b3 (kA pT.to rfl) (b3 (Y rfl wl) (b3 (U':=E B A G (.val l.w.D) (.val v)) (eM (N4 ke.w Z rfl rfl rfl)).to (b3 (X (o:=.did v) rfl rfl (.of (dS rfl rfl))) ?_)));rw[<-rI,show rows ws++[aV.cm a m (cQ (some y)) (7*k)]++[aV.fin a m (.did (l.w.h2 a)) (7*k+3)]=rows (ws++[nd L N k a (some y) (7*k)])from ao,afo];rfl
end
section
variable{S S1:b1}{U:aN}
def kQ{m:br}{ms:lq}{x:R}{d:D}{xs:List D}(h:ax S (m U) x)(a:x.jR=true/\x.arg=d)(b:ax S (ms U) xs):ax S (iO m ms U) (d::xs):=h.bind (b.bind (by rw[if_pos a.1,a.2];exact .of rfl))
def abY{a b:b8}{U':aN}(h:aZ S (a U) (.bk U') S1):aZ S (bP a b U) (.bk U') S1:=h.bind rfl
def DQ{mf:e8}{ms:lq}{ds:List D}{r:R}(h:ax S (ms U) ds)(e:aZ S (mf ds) r S1):aZ S (rm mf ms U) r S1:=h.to.bind e
end
def nT(L:List aJ)(N:Int->Int)(l:aJ):bH:=⟨1,N 1+1,none,200,.saw ⟨l.e,none,l.w⟩,0,L.length⟩
def pF(L:List aJ)(N:Int->Int)(b:List Nat):bH:=⟨2,N 2+1,some (.put b 8),204,.over,3,L.length⟩
section
variable{W:List (List Nat)}{k:Nat}{L:List aJ}{ws:List bH}{N:Int->Int}{s:b'}
def Pa(h:hv W k L ws N s)(F:k<=20){l:aJ}(i:L.getLast? = some l){b:List Nat}(t:e7 b):Good W L (ws++[nT L N l]++[pF L N b]):=by
 have H:=h.lP 1;have G:=h.lP 2;have d:=aik i;have f:0<L.length:=List.length_pos_of_mem d;have D:=h.g.ok l d;have fr:∀a:Int,∀v∈ws,(v.a,v.m)≠(a,N a+1):=λa v c z=>by
  have r:v.a=a:=congrArg ag2 z;have E:v.m=N a+1:=congrArg Prod.snd z;have:=(h.i7 v c).1;rw[r]at this;omega
 have B:Good W L (ws++[nT L N l]):=h.g.more (fr 1) ⟨by show 1<=N 1+1;omega,by show N 1+1<=900;omega⟩ (λv c=>h.g.jC v c) (.inl rfl) (ae9 _)
  (.last rfl ⟨l.e,none,l.w⟩ rfl rfl rfl rfl (by
   unfold nG eZ;dsimp only;rw[if_neg (by omega),if_neg (by intro z;cases z)];refine⟨rfl,?_⟩;show l.w=hI (L.take L.length);rw[agC];unfold hI;rw[i])) ⟨D.w,BF⟩ λx e=>by cases e;exact h.g.bd l d
 refine B.more (λv c=>?_) ⟨by show 1<=N 2+1;omega,by show N 2+1<=900;omega⟩ (λv c=>?_) (.inr rfl) (ae9 _) (.over rfl (.put b 8) rfl rfl λz hz e=>?_) ⟨trivial,(pn (n:=0) (iE (by decide +kernel)) (iE t.ok) fb).up (by decide)⟩ λx e=>by cases e
 .rcases gf c with c|rfl
  .exact fr 2 v c
  .intro z;have:(1:Int)=2:=congrArg ag2 z;omega
 .rcases gf c with c|rfl
  .exact h.g.jC v c
  .exact ae9 _
 .obtain⟨p,f⟩:=afr hz
  obtain⟨j,v,q,_,_,y,u,_⟩:=h.g.A p z f;exact fr 2 v (km q) (by rw[y,u];exact e)
end
def HT{W:List (List Nat)}{s:b'}(h:dU ft W s):oEq (.v s.bA) (.v (.str "over"))=pure (.v (.aM s.qZ))/\(s.qZ=true->eY s.bA=false):=by
 unfold b'.qZ;rcases h.bA with e|e|⟨⟨xs,e⟩,g⟩
 .rw[e]
  refine⟨?_,λz=>(by cases z)⟩;rw[nN (x:=.v .aF) (y:=.v (.str "over")) (by decide +kernel) (by decide +kernel)];rfl
 .rw[e];exact⟨by kernel_rfl,λ_=>rfl⟩
 .rw[e]
  rw[e]at g;refine⟨?_,λz=>(by cases z)⟩;rw[nN (x:=.v (.t xs)) (y:=.v (.str "over")) (hM g.2 (by decide)).1 (by decide +kernel)];rfl
section
variable{na nb c2:List Nat}(au:e7 na)(ag:e7 nb)(hd:e7 c2)
include au ag hd
abbrev kE(X N:List D)(s:b')(a b:Slot):aN:=[.bF X,.bF N,.val (.ref 0),.val (.ref 1),.val (.ref 2),.val (.ref 3),.val (.ref 4),.val s.D,a,b]
theorem F7(X:List D):∀(cs:List Int)(k:Nat)(L:List aJ)(a:List bH)(N:Int->Int)(s:b')(p q:Slot),hv [na,nb,c2] k L a N s->k+cs.length<=20->
  ∃l g b j m y z,hv [na,nb,c2] l g b j m/\l<=20/\aZ (cB L (rows a) (a.map c7) (a.map dD) N []) (l6 (λd U=>match d with
   |.t aw=>if aw.length=[8,9].length then xT (iI [8,9] aw U)else fc| _=>fc) (gU k (cs.map D.int)) (kE X (fj na nb c2) s p q)) (.a6 (kE X (fj na nb c2) m y z)) (cB g (rows b) (b.map c7) (b.map dD) j [])
 |[],k,L,a,N,s,p,q,h,C=>⟨k,L,a,N,s,p,q,h,by simpa using C,rfl⟩
 |c::cs,k,L,a,N,s,p,q,h,C=>by
  rw[afE]at C;obtain⟨bJ,cR⟩:=HT h.q6;have u:∀{S:b1},ax S (aO (aa oEq (aI 7 3) (aH (.str "over"))) (kE X (fj na nb c2) s (.val (.int (k:Nat))) (.val (.int c)))) s.qZ:=.of (bR (aD (x:=.v s.bA) bJ (aD (x:=.v s.D) rfl rfl rfl) rfl))
  cases o:s.qZ with
  |true=>
   rw[o]at u;have B:aZ (cB L (rows a) (a.map c7) (a.map dD) N []) (xT (kE X (fj na nb c2) s (.val (.int (k:Nat))) (.val (.int c)))) (.bk (kE X (fj na nb c2) s (.val (.int (k:Nat))) (.val (.int c)))) (cB L (rows a) (a.map c7) (a.map dD) N []):=abY (gY u (.of rfl)).to;exact⟨k,L,a,N,s,.val (.int (k:Nat)),.val (.int c),h,by omega,aZ.bind B rfl⟩
  |false=>
   rw[o]at u;obtain⟨f,w,A,n,inv,wp,e⟩:=abo au ag hd h (by omega) (c % 10 ^ 50) (a.map dD) [];obtain⟨l,g,b,j,m,y,z,G,k2,aG⟩:=F7 X cs (k+1) f (a++[w]) A n (.val (.int (k:Nat))) (.val (.int c)) inv (by omega);have de:=h.de;have F:aZ (cB L (rows a) (a.map c7) (a.map dD) N []) (xT (kE X (fj na nb c2) s (.val (.int (k:Nat))) (.val (.int c)))) (.a6 (kE X (fj na nb c2) n (.val (.int (k:Nat))) (.val (.int c)))) (cB f (rows (a++[w])) ((a++[w]).map c7) ((a++[w]).map dD) A []):=by
    have E:∀{U:aN},aa ia (ar 10) (ar 50) U=pure (.v (.int (10 ^ 50))):=aD (vx (by decide) (by decide)) rfl rfl;refine b3 (h6 u (.of rfl)).to (b3 (U':=kE X (fj na nb c2) s.gg (.val (.int (k:Nat))) (.val (.int c))) (ax.of (ez (oC (aD (x:=.v s.D) rfl rfl rfl) (aD (x:=.v s.D) rfl rfl rfl) (aD (x:=.v s.D) rfl rfl rfl) rfl))).to ?_);rw[de];refine b3 (i8 (r:=.v n.D) (DQ (kQ (.of rfl) ⟨rfl,rfl⟩ (kQ (.of rfl) ⟨rfl,rfl⟩ (kQ (.of rfl) ⟨rfl,rfl⟩ (kQ (.of rfl) ⟨rfl,rfl⟩ (kQ (.of rfl) ⟨rfl,rfl⟩ (kQ (.of (aD (kW (by decide)) rfl E)) ⟨rfl,rfl⟩ (kQ (.of rfl) ⟨rfl,rfl⟩ (.of rfl)))))))) e) rfl) ?_;have le:ax (cB f (rows (a++[w])) ((a++[w]).map c7) (a.map dD) A []) (b5 c8 (bf (bo (I 2))) (kE X (fj na nb c2) n (.val (.int (k:Nat))) (.val (.int c)))) (.v (dD w)):=kb (rs:=[.mv (f.map aJ.D)]) (by show pure (aY.R.v (.int ((f.map aJ.D).length:Nat)))=_;rw[sg,<-wp];rfl) (a3 (d9 (i:=0) rfl (.of rfl)) cb);have ap:=zb (i:=3) (mo:=I 5) (xs:=a.map dD) (.of rfl) (a3 le cb) rfl (by rw[sg,h.ln];exact f3 (by omega));rw[show a.map dD++[dD w]=(a++[w]).map dD by rw[afo];rfl]at ap;exact ap
   exact⟨l,g,b,j,m,y,z,G,k2,aZ.bind F aG⟩
end
section
variable{S S1:b1}{U:aN}
def qM{ms:cJ}{rs:List R}{ds:List D}(h:ax S (ms U) rs)(e:jg rs=pure ds)(z:ds.length<=1000):ax S (e1 ms U) (.fr ds):=h.bind ((ax.of e).bind ((JA z).bind (.of rfl)))
def zd{m:dG}{xs:List D}(h:aZ S (m U) (.fr xs) S1):aZ S (ih m U) (.v (.ref S1.length)) (S1++[.l xs]):=aZ.bind h (show aZ S1 (do let S <-AZ;putN (S++[fP.l xs]);pure (R.v (D.ref S.length))) _ _ from rfl)
def ab0{ms:h1}{rs:List R}{ds:List D}(h:aZ S (ms U) rs S1)(e:jg rs=pure ds)(z:ds.length<=1000):aZ S (za ms U) (.v (.t ds)) S1:=h.bind ((ax.of e).to.bind (by rw[if_pos z];rfl))
def abV{is:List Nat}{ms:cJ}{b:b8}{xs:List D}{a:fK}(h:ax S (ms U) [.fr xs]) (e:aZ S (l6 (λd U=>match d with
  |.t aw=>if aw.length=is.length then b (iI is aw U)else fc| _=>fc) (gU 0 xs) U) a S1):aZ S (y_ is ms b U) a S1:=h.to.bind e
end
section
variable{na nb c2:List Nat}(au:e7 na)(ag:e7 nb)(hd:e7 c2)
include au ag hd
theorem O'{k:Nat}{L:List aJ}{b:List bH}{N:Int->Int}{s:b'}(h:hv [na,nb,c2] k L b N s)(M:k<=20){l:aJ}(F:L.getLast? = some l)(t:b1) :
  aZ (cB L (rows b) (b.map c7) (b.map dD) N t) (B0 [.ref 0,.ref 1,.ref 2,.ref 3,.ref 4,.l (fj na nb c2)]) (.v .aF)
   (cB L (rows (b++[nT L N l]++[pF L N nb])) ((b++[nT L N l]++[pF L N nb]).map c7) ((b++[nT L N l]++[pF L N nb]).map dD) N t):=by
 have H:(rows b).length<=100:=by rw[hs,h.ln];omega
 have G:(b.map c7).length<=100:=by rw[sg,h.ln];omega
 have pl:(b.map dD).length<=100:=by rw[sg,h.ln];omega
 let E:aN:=[.val (.ref 0),.val (.ref 1),.val (.ref 2),.val (.ref 3),.val (.ref 4),.bF (fj na nb c2),.val l.w.D]
 let K:=b.map c7
 let P:=b.map dD
 let c:=aV.cm 1 (N 1+1) .aF 200
 let d:=aV.fin 1 (N 1+1) (.saw ⟨l.e,none,l.w⟩) 203
 let f:=aV.cm 2 (N 2+1) (.t [.str "put",.str (bC nb),.int 8]) 204
 let g:=aV.fin 2 (N 2+1) .over 207
 have n:∀{S:b1}{q:Slot},S[0]? = some (.l (L.map aJ.D))->ax S (aa bu (bo (I 0)) (cX fx (ar 1)) [.val (.ref 0),.val (.ref 1),.val (.ref 2),.val (.ref 3),.val (.ref 4),.bF (fj na nb c2),q]) (.v l.D):=λm=>dk (y:=.v (.int (-1))) (J2 F) (d9 m (.of rfl)) (.of rfl)
 have j:∀{S:b1}(a:Int),0<=a/\a<4->S[4]? = some (.l (n' N))->ax S (aa c0 (aa bu (bo (I 4)) (aH (.int a))) (ar 1) E) (.v (.int (N a+1))):=λa au B=>dk (x:=.v (.int (N a))) (oY _) (dk (Ci N au) (d9 B (.of rfl)) (.of rfl)) (.of rfl)
 have a1:aZ (cB L (rows b) K P N t) (dE eG (I 1) (bf (a0 (bW (aH (.str "begin")) (bW (ar 1) (bG (aa c0 (c1 (bo (I 4)) 1) (ar 1)) (aH .aF) (ar 200)))))) E) (.a6 E) (cB L (rows b++[c]) K P N t):=
  sf (i:=1) (.of rfl) (h7 (a3 (.of rfl) (a3 (.of rfl) (a3 (j 1 (by decide) rfl) (a3 (.of rfl) (a3 (.of rfl) cb))))) rfl (aff rfl)) rfl (by omega)
 have a2:aZ (cB L (rows b++[c]) K P N t) (dE eG (I 1) (bf (a0 (bW (aH (.str "end")) (bW (ar 1) (bG (aa c0 (c1 (bo (I 4)) 1) (ar 1)) (a0 (a8 (aH (.str "saw")) (a0 (bG (c1 (aa bu (bo (I 0)) (cX fx (ar 1))) 0) (aH .aF) (I 6))))) (ar 203)))))) E) (.a6 E) (cB L (rows b++[c]++[d]) K P N t):=
  sf (i:=1) (r:=d) (.of rfl) (h7 (rs:=[.v (.str "end"),.v (.int 1),.v (.int (N 1+1)),.v (dQ.saw ⟨l.e,none,l.w⟩).D,.v (.int 203)]) (a3 (.of rfl) (a3 (.of rfl) (a3 (j 1 (by decide) rfl) (a3 (h7 (rs:=[.v (.str "saw"),.v (.t [.int l.e,.aF,l.w.D])]) (a3 (.of rfl) (a3 (h7 (rs:=[.v (.int l.e),.v .aF,.v l.w.D]) (a3 (dk (r:=.v (.int l.e)) rfl (n rfl) (.of rfl)) (a3 (.of rfl) (a3 (.of rfl) cb))) rfl (aff rfl)) cb)) rfl (aff rfl)) (a3 (.of rfl) cb))))) rfl (aff rfl)) rfl (by rw[afb,afw];omega)
 have ed:aZ (cB L (rows b++[c]++[d]) K P N t) (dE eG (I 1) (bf (a0 (bW (aH (.str "begin")) (bW (ar 2) (bG (aa c0 (c1 (bo (I 4)) 2) (ar 1)) (a0 (bG (aH (.str "put")) (aI 5 1) (ar 8))) (ar 204)))))) E) (.a6 E) (cB L (rows b++[c]++[d]++[f]) K P N t):=
  sf (i:=1) (r:=f) (.of rfl) (h7 (a3 (.of rfl) (a3 (.of rfl) (a3 (j 2 (by decide) rfl) (a3 (.of (m9 rfl rfl rfl)) (a3 (.of rfl) cb))))) rfl (aff rfl)) rfl (by rw[afb,afb,afw,afw];omega)
 have kH:aZ (cB L (rows b++[c]++[d]++[f]) K P N t) (dE eG (I 1) (bf (a0 (bW (aH (.str "end")) (bW (ar 2) (bG (aa c0 (c1 (bo (I 4)) 2) (ar 1)) (a0 (a8 (aH (.str "over")) (aH .aF))) (ar 207)))))) E) (.a6 E) (cB L (rows b++[c]++[d]++[f]++[g]) K P N t):=
  sf (i:=1) (r:=g) (.of rfl) (h7 (a3 (.of rfl) (a3 (.of rfl) (a3 (j 2 (by decide) rfl) (a3 (.of (dS rfl rfl)) (a3 (.of rfl) cb))))) rfl (aff rfl)) rfl (by rw[afb,afb,afb,afw,afw,afw];omega)
 let R:=rows b++[c]++[d]++[f]++[g]
 have tY:aZ (cB L R K P N t) (dE m_ (I 2) (bf (e1 (a8 (aH (.str "short")) (aH (.str "over"))))) E) (.a6 E) (cB L R (K++[.str "short",.str "over"]) P N t):=
  DT (i:=2) (.of rfl) (a3 (qM (rs:=[.v (.str "short"),.v (.str "over")]) (a3 (.of rfl) (a3 (.of rfl) cb)) rfl (aff rfl)) cb) rfl rfl (by show(b.map c7).length+2<=afe;exact f3 (by omega))
 have le:∀{S:b1},S[0]? = some (.l (L.map aJ.D))->ax S (b5 c8 (bf (bo (I 0))) E) (.v (.int (L.length:Nat))):=λm=>kb (rs:=[.mv (L.map aJ.D)]) (by show pure (aY.R.v (.int ((L.map aJ.D).length:Nat)))=_;rw[sg]) (a3 (d9 m (.of rfl)) cb)
 have p:aZ (cB L R (K++[.str "short",.str "over"]) P N t) (dE m_ (I 3) (bf (e1 (a8 (b5 c8 (bf (bo (I 0)))) (b5 c8 (bf (bo (I 0))))))) E) (.a6 E) (cB L R (K++[.str "short",.str "over"]) (P++[.int (L.length:Nat),.int (L.length:Nat)]) N t):=
  DT (i:=3) (.of rfl) (a3 (qM (rs:=[.v (.int (L.length:Nat)),.v (.int (L.length:Nat))]) (a3 (le rfl) (a3 (le rfl) cb)) rfl (aff rfl)) cb) rfl rfl (by show(b.map dD).length+2<=afe;exact f3 (by omega))
 have A:R=rows (b++[nT L N l]++[pF L N nb]):=by
  rw[pM,pM];show rows b++[c]++[d]++[f]++[g]=rows b++[c,d]++[f,g];simp only[afQ,List.cons_append,List.nil_append]
 have u:K++[.str "short",.str "over"]=(b++[nT L N l]++[pF L N nb]).map c7:=by
  rw[afQ,afo];rfl
 have z:P++[.int (L.length:Nat),.int (L.length:Nat)]=(b++[nT L N l]++[pF L N nb]).map dD:=by
  rw[afQ,afo];rfl
 rw[<-A,<-u,<-z];exact Nc rfl (b3 (U':=E) (eM (dk (r:=.v l.w.D) rfl (n rfl) (.of rfl))).to (b3 a1 (b3 a2 (b3 ed (b3 kH (b3 tY p))))))
theorem PC(ns:List Int):∃L a N,Good [na,nb,c2] L a/\a.length<=22/\L.length<=20/\
  aZ [] (u9 [.l (ns.map D.int),.l (fj na nb c2)]) (.v (.t [.ref 0,.ref 1,.ref 2,.ref 3])) (cB L (rows a) (a.map c7) (a.map dD) N []):=by
 let X:=ns.map D.int
 let n:=ns.length
 let cs:=(ns.drop (cG.cj X.length 0 (some 2))).take (cG.cj X.length X.length (some 22)-cG.cj X.length 0 (some 2))
 have j:0+cs.length<=20:=by
  have:cs.length<=cG.cj X.length X.length (some 22)-cG.cj X.length 0 (some 2):=by rw[afO];exact Nat.min_le_left _ _
  have ao:cG.cj X.length X.length (some 22)=min 22 X.length:=cG.q3 _ _ 22;have aG:cG.cj X.length 0 (some 2)=min 2 X.length:=cG.q3 _ _ 2;rw[ao,aG]at this;omega
 have m:cutD X (some 2) (some 22)=cs.map D.int:=by
  unfold cutD;rw[List.map_take,List.map_drop]
 obtain⟨k,L,a,N,s,q,u,h,b,e⟩:=F7 au ag hd X cs 0 [] [] (λ_=>0) oZ .emp .emp (TQ _) j;obtain⟨bJ,cR⟩:=HT h.q6
 let w:aN:=[.bF X,.bF (fj na nb c2),.val (.ref 0),.val (.ref 1),.val (.ref 2),.val (.ref 3),.val (.ref 4),.emp,.emp,.emp]
 let f:=kE X (fj na nb c2) s q u
 have cA:ax (cB [] (rows []) (([]:List bH).map c7) (([]:List bH).map dD) (λ_=>0) []) (gq (I 0) (e2 (ar 2)) (e2 (ar 22)) (kE X (fj na nb c2) oZ .emp .emp)) (.fr (cs.map D.int)):=by
  rw[<-m];exact .of rfl
 have p:∀U:aN,aZ [.l [],.l [],.l [],.l []] (ih (eI (e1 (bW (ar 0) (bG (ar 0) (ar 0) (ar 0))))) U) (.v (.ref 4)) (cB [] (rows []) (([]:List bH).map c7) (([]:List bH).map dD) (λ_=>0) []):=λU=>
  zd (S1:=[.l [],.l [],.l [],.l []]) (xs:=[.int 0,.int 0,.int 0,.int 0]) (ax.to (qM (rs:=[.v (.int 0),.v (.int 0),.v (.int 0),.v (.int 0)]) (a3 (.of rfl) (a3 (.of rfl) (a3 (.of rfl) (a3 (.of rfl) cb)))) rfl (aff rfl)))
 have pre:∀{r d},aZ (cB L (rows a) (a.map c7) (a.map dD) N []) (Fm f) (.b0 (.v r)) d->aZ [] (u9 [.l (ns.map D.int),.l (fj na nb c2)]) (.v r) d:=λ{r d} aG=>iK rfl (b3 (i8 (r:=.v (.ref 0)) zc rfl) (b3 (i8 (r:=.v (.ref 1)) zc rfl) (b3 (i8 (r:=.v (.ref 2)) zc rfl) (b3 (i8 (r:=.v (.ref 3)) zc rfl)
  (b3 (i8 (r:=.v (.ref 4)) (p _) rfl)
  (b3 (U':=kE X (fj na nb c2) oZ .emp .emp) rfl (b3 (abV (a3 cA cb) e) aG)))))))
 have c:ax (cB L (rows a) (a.map c7) (a.map dD) N []) (aO (aa oEq (aI 7 3) (aH (.str "over"))) f) s.qZ:=.of (bR (aD (x:=.v s.bA) bJ (aD (x:=.v s.D) rfl rfl rfl) rfl));have fin:∀S:b1,aZ S (Fn f) (.b0 (.v (.t [.ref 0,.ref 1,.ref 2,.ref 3]))) S:=λS=>nh (ab0 (rs:=[.v (.ref 0),.v (.ref 1),.v (.ref 2),.v (.ref 3)]) rfl rfl (aff rfl))
 cases o:s.qZ with
 |false=>
  rw[o]at c;exact⟨L,a,N,h.g,by rw[h.ln];omega,af7 h.kT b,pre (b3 (kA c.to rfl) (fin _))⟩
 |true=>
  rw[o]at c;obtain⟨l,i,_⟩:=h.cA (cR o);refine⟨L,a++[nT L N l]++[pF L N nb],N,Pa h b i ag,by rw[afb,afb,h.ln];show k+1+1<=22;omega,af7 h.kT b,pre (b3 (fJ c.to (DS (DQ (kQ (.of rfl) ⟨rfl,rfl⟩ (kQ (.of rfl) ⟨rfl,rfl⟩ (kQ (.of rfl) ⟨rfl,rfl⟩ (kQ (.of rfl) ⟨rfl,rfl⟩ (kQ (.of rfl) ⟨rfl,rfl⟩ (.of rfl)))))) (O' au ag hd h b i [])))) (fin _))⟩
end
def tc{a:br}{lo hi:mn}{U:aN}{r:R}{l h:Option Int}(e:a U=pure r)(ao:lo U=pure l)(aG:hi U=pure h):gq a lo hi U=lR r l h:=by
 show(a U >>= _)=_;rw[e];show(lo U >>= _)=_;rw[ao];show(hi U >>= _)=_;rw[aG];rfl
def Zo{xs:List D}(h:0<xs.length):lR (.v (.t xs)) (some 1) none=pure (.v (.t xs.tail)):=by
 have e:cG.cj xs.length 0 (some 1)=1:=(cG.q3 _ _ 1).trans (by omega);show(if cG.cj xs.length 0 (some 1)=0/\_ then _ else _)=_;rw[if_neg (λz=>by rw[e]at z;omega)];unfold cutD;rw[e,cG.sZ,agd (by rw[afP];exact ae9 _),List.drop_one]
def Zl{xs:List D}(h:0<xs.length):lR (.v (.t xs)) none (some (-1))=pure (.v (.t xs.dropLast)):=by
 have e:cG.cj xs.length xs.length (some (-1))=xs.length-1:=by
  show(if(-1:Int)<0 then((-1:Int)+(xs.length:Int)).toNat else min (-1:Int).toNat xs.length)=_;rw[if_pos (by decide)];omega
 show(if _/\cG.cj xs.length xs.length (some (-1))=xs.length then _ else _)=_;rw[if_neg (λz=>by rw[e]at z;omega)];unfold cutD;rw[e,cG.sZ,aho,ahJ,ahn]
def DD{a b:aN->M Bool}{U:aN}{p q:Prop}[Decidable p][Decidable q](e:a U=pure (decide p))(f:b U=pure (decide q)):fA a b U=pure (decide (p/\q)):=by
 by_cases c:p
 .by_cases d:q
  .exact((qb (e.trans (dt c))).trans (f.trans (dt d))).trans (dt ⟨c,d⟩).symm
  .exact((qb (e.trans (dt c))).trans (f.trans (d0 d))).trans (d0 λz=>d z.2).symm
 .exact(wR (e.trans (d0 c))).trans (d0 λz=>c z.1).symm
def J4{s:b'}(F:∀x∈s.ds,∃(n:Int)(z:D),x.2=.t [.int x.1,.int n,z])(dl:s.ds.length<=900)(w:Int):vb [s.D,.int w]=pure (.v (gL s w).D):=by
 let E:aN:=[.val s.D,.val (.int w),.val (.t (s.cs.map (·.2))),.val (.t (s.ds.map (·.2))),.val (.t [.int s.f,s.t]),.val s.bA]
 have c:∀r:Int,aO (aa oEq (aa oMod (I 1) (ar 4)) (aH (.int r))) E=pure (decide (w % 4=r)):=λr=>bR (aD h4 (aD (kW (by decide)) rfl rfl) rfl)
 have g:∀{xs:List D}{i:Nat},I i E=pure (.v (.t xs))->aO (aa kY (b5 c8 (bf (I i))) (ar 0)) E=pure (decide (0<xs.length)):=λ{xs i} e=>bR (aD (x:=.v (.int (xs.length:Nat))) (uz.trans (by rw[show decide ((xs.length:Int) > 0)=decide (0<xs.length)from decide_eq_decide.mpr (by omega)])) (gp rfl (cons_of e rfl)) rfl)
 have m:=g (i:=2) rfl;have j:=g (i:=3) rfl;rw[sg]at m j;have A:aO (aa fq (I 5) (aH .aF)) E=pure (decide (eY s.bA=true)):=(bR (aD (Jl s.bA) rfl rfl)).trans (by cases eY s.bA<;>rfl);have q:=DD (c 1) m;have k:=DD (c 2) j;have u:=DD (c 3) A;refine ew rfl ((d4 (jv (show I 0 _=pure (.v s.D)from rfl) rfl)).trans ?_);show Fu E=pure (.b0 (.v (gL s w).D));unfold gL
 by_cases bJ:w % 4=1/\0<s.cs.length
 .rw[if_pos bJ]
  have ao:gq (I 2) (e2 (ar 1)) fR E=pure (.v (.t (s.cs.tail.map (·.2)))):=(tc (r:=.v (.t (s.cs.map (·.2)))) (l:=some 1) (h:=none) rfl rfl rfl).trans ((Zo (by rw[sg];exact bJ.2)).trans (by rw[List.map_tail]));exact st (q.trans (dt bJ)) (dw (oC ao rfl rfl rfl))
 .rw[if_neg bJ]
  refine c_ (q.trans (d0 bJ)) ?_
  by_cases cR:w % 4=2/\0<s.ds.length
  .rw[if_pos cR]
   have a:s.ds≠[]:=ag5.mp cR.2;have el:s.ds.getLast? = some (s.ds.getLast a):=ahj a;obtain⟨n,z,e⟩:=F _ (ajf a);rw[el];dsimp only;have G:gv (some (s.ds.getLast a).2)=n:=by rw[e];rfl
   rw[G];have ao:gq (I 3) fR (e2 (cX fx (ar 1))) E=pure (.v (.t (s.ds.dropLast.map (·.2)))):=(tc (r:=.v (.t (s.ds.map (·.2)))) (l:=none) (h:=some (-1)) rfl rfl rfl).trans ((Zl (by rw[sg];exact cR.2)).trans (by rw[List.map_dropLast]));have p:aa bu (I 3) (cX fx (ar 1)) E=pure (.v (.t [.int (s.ds.getLast a).1,.int n,z])):=by
    refine aD (x:=.v (.t (s.ds.map (·.2)))) (y:=.v (.int (-1))) ?_ rfl rfl;show(match dK (s.ds.map (·.2)) (-1)with|some d=>pure (R.v d)|none=>bad)=_;rw[zP (x:=.t [.int (s.ds.getLast a).1,.int n,z]) (by rw[aiO,el,<-e];rfl)]
   have B:aa ia (ar 10) (ar 55) E=pure (.v (.int (10 ^ 55))):=aD (vx (by decide) (by decide)) rfl rfl;have aG:a0 (bf (a0 (bG (c1 (aa bu (I 3) (cX fx (ar 1))) 0) (c1 (aa bu (I 3) (cX fx (ar 1))) 1) (aa ia (ar 10) (ar 55))))) E=pure (.v (.t [.t [.int (s.ds.getLast a).1,.int n,.int (10 ^ 55)]])):=oi λS=>
    h7 (rs:=[.v (.t [.int (s.ds.getLast a).1,.int n,.int (10 ^ 55)])]) (a3 (.of (m9 (aD rfl p rfl) (aD rfl p rfl) B)) cb) rfl (aff rfl)
   have cI:aa kX (gq (I 3) fR (e2 (cX fx (ar 1)))) (a0 (bf (a0 (bG (c1 (aa bu (I 3) (cX fx (ar 1))) 0) (c1 (aa bu (I 3) (cX fx (ar 1))) 1) (aa ia (ar 10) (ar 55)))))) E=pure (.v (.t ((s.ds.dropLast++[((s.ds.getLast a).1,D.t [.int (s.ds.getLast a).1,.int n,.int (10 ^ 55)])]).map (·.2)))):=by
    rw[afo];refine aD ?_ ao aG;exact if_pos (by rw[sg,aid];exact f3 (by omega))
   exact st (k.trans (dt cR)) (dw (oC rfl cI rfl rfl))
  .rw[if_neg cR]
   refine c_ (k.trans (d0 cR)) ?_
   by_cases b:w % 4=3/\eY s.bA=true
   .rw[if_pos b]
    exact st (u.trans (dt b)) (dw (oC rfl rfl rfl rfl))
   .rw[if_neg b]
    refine c_ (u.trans (d0 b)) ?_;exact dw (oC rfl rfl (dS (aD (oY _) (aD (x:=.v (.t [.int s.f,s.t])) rfl rfl rfl) rfl) (aD (x:=.v (.t [.int s.f,s.t])) rfl rfl rfl)) rfl)
def i2(e:Int):Int×Int->List aJ->Int×Int
 |s,[]=>s|s,l::L=>i2 e (if l.e=e then s else(l.k,l.a)) L
theorem Ky(e:Int):∀(L:List aJ)(s:Int×Int),i2 e s L=s\/∃z∈L,z.e≠e/\i2 e s L=(z.k,z.a)
 |[],s=>.inl rfl|l::L,s=>by
  rcases Ky e L (if l.e=e then s else(l.k,l.a))with h|⟨z,hz,o,C⟩
  .by_cases c:l.e=e
   .rw[if_pos c]at h;exact .inl (by show i2 e (if l.e=e then s else(l.k,l.a)) L=s;rw[if_pos c];exact h)
   .rw[if_neg c]at h;exact .inr ⟨l,afq,c,by show i2 e (if l.e=e then s else(l.k,l.a)) L=_;rw[if_neg c];exact h⟩
  .exact .inr ⟨z,afl _ hz,o,C⟩
def WG(L:List aJ)(e:Int):B7 [.l (L.map aJ.D),.int e]=pure (.v (cK (i2 e (10 ^ 9,0) L))):=by
 have j:∀(M:List aJ)(s:Int×Int)(q:Slot),∃f,hk (λd U=>xU (U.set 3 (.val d))) (M.map aJ.D) [.bF (L.map aJ.D),.val (.int e),.val (cK s),q]=pure (.a6 [.bF (L.map aJ.D),.val (.int e),.val (cK (i2 e s M)),f]):=by
  intro M
  induction M with
  |nil=>exact λs q=>⟨q,rfl⟩
  |cons l M i=>
   intro s q;obtain⟨f,h⟩:=i (if l.e=e then s else(l.k,l.a)) (.val l.D);refine⟨f,?_⟩;have b:xU [.bF (L.map aJ.D),.val (.int e),.val (cK s),.val l.D]=pure (.a6 [.bF (L.map aJ.D),.val (.int e),.val (cK (if l.e=e then s else(l.k,l.a))),.val l.D]):=by
    have t:aO (aa dI (aI 3 0) (I 1)) [.bF (L.map aJ.D),.val (.int e),.val (cK s),.val l.D]=pure (!decide (l.e=e)):=bR (aD (x:=.v (.int l.e)) qT (aD (x:=.v l.D) rfl rfl rfl) rfl)
    by_cases c:l.e=e
    .rw[if_pos c];exact(hF (t.trans (by rw[decide_eq_true c];rfl))).trans rfl
    .rw[if_neg c];exact(hG (t.trans (by rw[decide_eq_false c];rfl))).trans (ez (d:=cK (l.k,l.a)) (aD (x:=.v l.D) rfl rfl rfl))
   show(xU [.bF (L.map aJ.D),.val (.int e),.val (cK s),.val l.D] >>= _)=_;rw[b];exact h
 obtain⟨f,h⟩:=j L (10 ^ 9,0) .emp;have g:∀U:aN,aa ia (ar 10) (ar 9) U=pure (.v (.int (10 ^ 9))):=λU=>aD (vx (by decide) (by decide)) rfl rfl
 refine ew rfl ((d4 (ez (d:=cK (10 ^ 9,0)) (dS (g _) rfl))).trans ((d4 (H5 (ds:=L.map aJ.D) rfl h)).trans (dw rfl)))
def Good.i2{W:List (List Nat)}{L:List aJ}{f:List bH}(g:Good W L f)(e:Int):i2 e (10 ^ 9,0) L≠(0,0)/\∀l∈L,l.e=e->(l.k,l.a)≠i2 e (10 ^ 9,0) L:=by
 rcases Ky e L (10 ^ 9,0)with h|⟨z,hz,o,C⟩
 .rw[h]
  refine⟨λq=>absurd (congrArg ag2 q) (by decide),λl d _ q=>?_⟩;have q:l.k=10 ^ 9:=congrArg ag2 q;have:=(g.kD l d).2;omega
 .rw[C]
  refine⟨λq=>?_,λl d he q=>?_⟩
  .have q:z.k=0:=congrArg ag2 q
   have:=(g.kD z hz).1;omega
  .have q:l.k=z.k:=congrArg ag2 q
   obtain⟨i,hi⟩:=afr d;obtain⟨j,b⟩:=afr hz;rcases aiP i j with c|c|c
   .have:=g.E i j l z hi b c;omega
   .subst c;rw[hi]at b;cases b;exact o he
   .have:=g.E j i z l b hi c;omega
def jN{xs:List D}{x:D}(k:Nat)(e:xs[k]? = some x):bu (.mv xs) (.v (.int (k:Nat)))=pure (.v x):=by
 show(match dK xs (k:Nat)with|some d=>pure (R.v d)|none=>bad)=_;rw[jd k e]
def w2{xs ys:List D}(h:xs.length+ys.length<=900):kX (.v (.t xs)) (.v (.t ys))=pure (.v (.t (xs++ys))):=if_pos (agw (f3 (by omega)))
def YE:oEq (.v (.str "saw")) (.v (.str "did"))=pure (.v (.aM false)):=by kernel_rfl
def YF:oEq (.v (.str "saw")) (.v (.str "over"))=pure (.v (.aM false)):=by kernel_rfl
def YD:oEq (.v (.str "did")) (.v (.str "did"))=pure (.v (.aM true)):=by kernel_rfl
def up1:D->D
 |.int i=>.int (i+1)|.t [b,.int n,y]=>.t [b,.int (n+1),y]|z=>z
def kI(L:List aJ)(t:Nat)(y:Int):dQ->Option (dQ×Str)
 |.over=>if y=5 then none else some (.did (.int 1),"lost")|.did z=>some (if y=5 then .over else .did (up1 z),"lie")|.saw x=>if y=5 then none else if y=4 then some (.saw { x with w:=gL x.w (t / 2) },"lie")else some (.saw { x with s:=some (i2 x.e (10 ^ 9,0) L) },"lost")
def yX{U:aN}{i:Nat}{y:Int}(e:I i U=pure (.v (.int y)))(c:Int):aO (aa oEq (I i) (aH (.int c))) U=pure (decide (y=c)):=bR (aD h4 e rfl)
section
variable{S:b1}{L:List aJ}{R:List aV}
def Pj{t:Nat}{a m u:Int}{o o':dQ}(c:S[1]? = some (.l (R.map aV.D)))(b:R[t]? = some (.fin a m o u)) :
  aZ S (n9 [.ref 1,.int (t:Nat),o'.D]) (.v .aF) (S.set 1 (.l ((R.set t (.fin a m o' u)).map aV.D))):=by
 have de:c3 o'.D=.val o'.D:=by cases o'<;>rfl
 have f:=(fk.mp b).1;have e:(R.set t (.fin a m o' u)).map aV.D=(R.map aV.D).set t (aV.fin a m o' u).D:=List.map_set;rw[e];refine Nc (U':=[.val (.ref 1),.val (.int (t:Nat)),.val o'.D,.val (aV.fin a m o u).D]) rfl ?_;show aZ S (Fl [.val (.ref 1),.val (.int (t:Nat)),c3 o'.D,.emp]) _ _;rw[de];refine b3 (U':=[.val (.ref 1),.val (.int (t:Nat)),.val o'.D,.val (aV.fin a m o u).D]) (eM (dk (r:=.v (aV.fin a m o u).D) (jN t (by rw[afh,b];rfl)) (d9 c (.of rfl)) (.of rfl))).to ?_;exact wj (r:=.v (aV.fin a m o' u).D) (d:=(aV.fin a m o' u).D) (j:=t) (ax.to (h7 (rs:=[.v (.str "end"),.v (.int a),.v (.int m),.v o'.D,.v (.int u)]) (a3 (.of rfl) (a3 (.of rfl) (a3 (.of rfl) (a3 (.of rfl) (a3 (.of rfl) cb))))) rfl (aff rfl))) rfl (.of rfl) (.of rfl) c (by rw[sg];exact f)
def XC{t:Nat}{y a m u:Int}{o:dQ}(N:S[0]? = some (.l (L.map aJ.D)))(G:S[1]? = some (.l (R.map aV.D)))(F:R[t]? = some (.fin a m o u))
  (hd:∀z,o=.did z->(∃i,z=.int i)\/∃(b n:Int)(y:D),z=.t [.int b,.int n,y])
  (aC:∀x,o=.saw x->(∀z∈x.w.ds,∃(n:Int)(v:D),z.2=.t [.int z.1,.int n,v])/\x.w.ds.length<=900) :
  match kI L t y o with
  |none=>aZ S (pB [.ref 0,.ref 1,.int (t:Nat),.int y]) (.v .aF) S|some (o',k')=>aZ S (pB [.ref 0,.ref 1,.int (t:Nat),.int y]) (.v (.t [.str k',.int (t:Nat)])) (S.set 1 (.l ((R.set t (.fin a m o' u)).map aV.D))):=by
 have M:=λ(o':dQ)=>Pj (S:=S) (o':=o') G F
 let E (p q:Slot):aN:=[.val (.ref 0),.val (.ref 1),.val (.int (t:Nat)),.val (.int y),.val o.D,p,q]
 have V:aZ S (bZ (bQ 4 (c1 (aa bu (bo (I 1)) (I 2)) 3)) [.val (.ref 0),.val (.ref 1),.val (.int (t:Nat)),.val (.int y),.emp,.emp,.emp]) (.a6 (E .emp .emp)) S:=
  (eM (dk (r:=.v o.D) rfl (dk (r:=.v (aV.fin a m o u).D) (jN t (by rw[afh,F];rfl)) (d9 G (.of rfl)) (.of rfl)) (.of rfl))).to
 have pre:∀{r C},aZ S (Fj (E .emp .emp)) (.b0 (.v r)) C->aZ S (pB [.ref 0,.ref 1,.int (t:Nat),.int y]) (.v r) C:=λe=>iK rfl (b3 V e)
 have f:∀p q,aO (aa oEq (I 3) (ar 5)) (E p q)=pure (decide (y=5)):=λp q=>yX rfl 5
 have H:∀p q,aO (aa oEq (I 3) (ar 4)) (E p q)=pure (decide (y=4)):=λp q=>yX rfl 4
 have dv:∀{p q:Slot}{mo:br}{o':dQ},ax S (mo (E p q)) (.v o'.D)->aZ S (lb (eB n9 (eH (bG (I 1) (I 2) mo))) (E p q)) (.a6 (E p q)) (S.set 1 (.l ((R.set t (.fin a m o' u)).map aV.D))):=λ{p q mo o'} e=>
  DS (x_call (rs:=[.v (.ref 1),.v (.int (t:Nat)),.v o'.D]) (a3 (.of rfl) (a3 (.of rfl) (a3 e cb))) rfl (M o'))
 cases o with
 |over=>
  have w:∀p q,ax S (aO (aa oEq (aI 4 0) (aH (.str "over"))) (E p q)) true:=λp q=>.of (bR (aD (x:=.v (.str "over")) Lr (aD (x:=.v dQ.over.D) rfl rfl rfl) rfl))
  unfold kI;dsimp only
  by_cases c:y=5
  .rw[if_pos c]
   exact pre (fg (fJ (w _ _).to (fg (gY (.of ((f _ _).trans (dt c))) (.of rfl)).to)))
  .rw[if_neg c]
   exact pre (fg (fJ (w _ _).to (rn (.of ((f _ _).trans (d0 c))) (b3 (dv (o':=.did (.int 1)) (.of (dS rfl rfl))) (ax.to (.of (dw (dS rfl rfl))))))))
 |did z=>
  have g:∀p q,ax S (aO (aa oEq (aI 4 0) (aH (.str "over"))) (E p q)) false:=λp q=>.of (bR (aD (x:=.v (.str "did")) Lp (aD (x:=.v (dQ.did z).D) rfl rfl rfl) rfl))
  have h:∀p q,ax S (aO (aa oEq (aI 4 0) (aH (.str "did"))) (E p q)) true:=λp q=>.of (bR (aD (x:=.v (.str "did")) YD (aD (x:=.v (dQ.did z).D) rfl rfl rfl) rfl))
  have A:aZ S (bZ (bQ 5 (aI 4 1)) (E .emp .emp)) (.a6 (E (.val z) .emp)) S:=(eM (dk (x:=.v (dQ.did z).D) (r:=.v z) rfl (.of rfl) (.of rfl))).to;unfold kI;dsimp only
  by_cases c:y=5
  .rw[if_pos c]
   exact pre (hR (g _ _).to (fg (fJ (h _ _).to (b3 A (b3 (fJ (ax.to (.of ((f _ _).trans (dt c)))) (dv (o':=.over) (.of (dS rfl rfl)))) (ax.to (.of (dw (dS rfl rfl)))))))))
  .rw[if_neg c]
   rcases hd z rfl with⟨i,rfl⟩|⟨b,n,v,rfl⟩
   .exact pre (hR (g _ _).to (fg (fJ (h _ _).to (b3 A (b3 (kA (ax.to (.of ((f _ _).trans (d0 c)))) (kA (ax.to (.of (bR (gp rfl (cons_of rfl (cons_of rfl rfl)))))) (dv (o':=.did (.int (i+1))) (.of (dS rfl rfl))))) (ax.to (.of (dw (dS rfl rfl)))))))))
   .exact pre (hR (g _ _).to (fg (fJ (h _ _).to (b3 A (b3 (kA (ax.to (.of ((f _ _).trans (d0 c)))) (fJ (ax.to (.of (bR (gp rfl (cons_of rfl (cons_of rfl rfl)))))) (dv (o':=.did (.t [.int b,.int (n+1),v])) (.of (dS rfl (m9 rfl rfl rfl)))))) (ax.to (.of (dw (dS rfl rfl)))))))))
 |saw x=>
  obtain⟨Q,T⟩:=aC x rfl;have g:∀p q,ax S (aO (aa oEq (aI 4 0) (aH (.str "over"))) (E p q)) false:=λp q=>.of (bR (aD (x:=.v (.str "saw")) YF (aD (x:=.v (dQ.saw x).D) rfl rfl rfl) rfl))
  have h:∀p q,ax S (aO (aa oEq (aI 4 0) (aH (.str "did"))) (E p q)) false:=λp q=>.of (bR (aD (x:=.v (.str "saw")) YE (aD (x:=.v (dQ.saw x).D) rfl rfl rfl) rfl))
  have B:aZ S (bZ (bQ 6 (aI 4 1)) (E .emp .emp)) (.a6 (E .emp (.val x.D))) S:=(eM (dk (x:=.v (dQ.saw x).D) (r:=.v x.D) rfl (.of rfl) (.of rfl))).to;have i:∀(j:Int)(d:D),bu (.v x.D) (.v (.int j))=pure (.v d)->aa bu (I 6) (aH (.int j)) (E .emp (.val x.D))=pure (.v d):=λj d e=>aD e rfl rfl
  have k:=i 0 (.int x.e) rfl;have O:=i 1 (tg x.s) rfl;have K:=i 2 x.w.D rfl;unfold kI;dsimp only
  by_cases c:y=5
  .rw[if_pos c]
   exact pre (hR (g _ _).to (hR (h _ _).to (b3 B (fg (gY (.of ((f _ _).trans (dt c))) (.of rfl)).to))))
  .rw[if_neg c]
   by_cases d:y=4
   .rw[if_pos d]
    have P:=J4 Q T ((t:Int) / 2);exact pre (hR (g _ _).to (hR (h _ _).to (b3 B (rn (.of ((f _ _).trans (d0 c))) (fg (fJ (ax.to (.of ((H _ _).trans (dt d)))) (b3 (dv (o':=.saw { x with w:=gL x.w ((t:Int) / 2) })
     (.of (dS rfl (m9 k O (call_of (cons_of K (cons_of (aD (divC (by decide) (by decide)) rfl rfl) rfl)) P))))) (ax.to (.of (dw (dS rfl rfl)))))))))))
   .rw[if_neg d]
    have ns:=WG L x.e;exact pre (hR (g _ _).to (hR (h _ _).to (b3 B (rn (.of ((f _ _).trans (d0 c))) (hR (ax.to (.of ((H _ _).trans (d0 d)))) (b3 (dv (o':=.saw { x with s:=some (i2 x.e (10 ^ 9,0) L) })
     (h7 (rs:=[.v (.str "saw"),.v (.t [.int x.e,cK (i2 x.e (10 ^ 9,0) L),x.w.D])]) (a3 (.of rfl) (a3 (h7 (rs:=[.v (.int x.e),.v (cK (i2 x.e (10 ^ 9,0) L)),.v x.w.D]) (a3 (.of k) (a3 (jl (rs:=[.mv (L.map aJ.D),.v (.int x.e)]) (a3 (d9 N (.of rfl)) (a3 (.of k) cb)) (.of ns)) (a3 (.of K) cb))) rfl (aff rfl)) cb)) rfl (aff rfl))) (ax.to (.of (dw (dS rfl rfl))))))))))
def Pd{p:Nat}{l:aJ}{y:Int}(b:S[0]? = some (.l (L.map aJ.D)))(g:L[p]? = some l)(aC:∀z∈l.w.ds,∃(n:Int)(v:D),z.2=.t [.int z.1,.int n,v])(dl:l.w.ds.length<=900) :
  aZ S (ya [.ref 0,.int (p:Nat),.int y]) (.v (.t [.str (if y=2 then "wrong" else "unbegun"),.int (p:Nat)])) (S.set 0 (.l ((L.set p (if y=2 then{ l with w:=gL l.w p }else{ l with m:=l.m+1000 })).map aJ.D))):=by
 have q:=(fk.mp g).1;have e:∀l':aJ,(L.set p l').map aJ.D=(L.map aJ.D).set p l'.D:=λl'=>List.map_set
 rw[e]
 let E:aN:=[.val (.ref 0),.val (.int (p:Nat)),.val (.int y),.val l.D]
 have s3:aZ S (bZ (bQ 3 (aa bu (bo (I 0)) (I 1))) [.val (.ref 0),.val (.int (p:Nat)),.val (.int y),.emp]) (.a6 E) S:=(eM (dk (r:=.v l.D) (jN p (by rw[afh,g];rfl)) (d9 b (.of rfl)) (.of rfl))).to;have pl:p<(L.map aJ.D).length:=by rw[sg];exact q
 have f:aO (aa oEq (I 2) (ar 2)) E=pure (decide (y=2)):=yX rfl 2;have i:aa bu (I 3) (ar 5) E=pure (.v l.w.D):=aD (x:=.v l.D) rfl rfl rfl
 by_cases c:y=2
 .rw[if_pos c,if_pos c]
  have s:=J4 aC dl (p:Int);have cA:gq (I 3) fR (e2 (ar 5)) E=pure (.v (.t [.int l.e,cK (l.k,l.a),cK l.p,.int l.m,cQ l.d])):=(tc (r:=.v l.D) (l:=none) (h:=some 5) rfl rfl rfl).trans rfl;have f5:a0 (bf (b2 vb (a8 (aI 3 5) (I 1)))) E=pure (.v (.t [(gL l.w p).D])):=oi λS=>h7 (rs:=[.v (gL l.w p).D]) (a3 (.of (call_of (cons_of i (cons_of rfl rfl)) s)) cb) rfl (aff rfl)
  have ap:=aD (w2 (xs:=[.int l.e,cK (l.k,l.a),cK l.p,.int l.m,cQ l.d]) (ys:=[(gL l.w p).D]) (aff rfl)) cA f5;exact iK rfl (b3 s3 (fg (fJ (ax.to (.of (f.trans (dt c)))) (b3 (wj (r:=.v (aJ.D { l with w:=gL l.w p })) (j:=p) (ax.to (.of ap)) rfl (.of rfl) (.of rfl) b pl) (ax.to (.of (dw (dS rfl rfl))))))))
 .rw[if_neg c,if_neg c]
  have cA:gq (I 3) fR (e2 (ar 3)) E=pure (.v (.t [.int l.e,cK (l.k,l.a),cK l.p])):=(tc (r:=.v l.D) (l:=none) (h:=some 3) rfl rfl rfl).trans rfl;have u:gq (I 3) (e2 (ar 4)) fR E=pure (.v (.t [cQ l.d,l.w.D])):=(tc (r:=.v l.D) (l:=some 4) (h:=none) rfl rfl rfl).trans rfl;have f5:a0 (bf (aa c0 (aI 3 3) (ar 1000))) E=pure (.v (.t [.int (l.m+1000)])):=oi λS=>h7 (rs:=[.v (.int (l.m+1000))]) (a3 (.of (aD (x:=.v (.int l.m)) rfl (aD (x:=.v l.D) rfl rfl rfl) rfl)) cb) rfl (aff rfl)
  have ap:=aD (w2 (xs:=[.int l.e,cK (l.k,l.a),cK l.p]++[.int (l.m+1000)]) (ys:=[cQ l.d,l.w.D]) (aff rfl)) (aD (w2 (xs:=[.int l.e,cK (l.k,l.a),cK l.p]) (ys:=[.int (l.m+1000)]) (aff rfl)) cA f5) u;exact iK rfl (b3 s3 (hR (ax.to (.of (f.trans (d0 c)))) (b3 (wj (r:=.v (aJ.D { l with m:=l.m+1000 })) (j:=p) (ax.to (.of ap)) rfl (.of rfl) (.of rfl) b pl) (ax.to (.of (dw (dS rfl rfl)))))))
end
def WY{b n:Int}{v:D}(h:aY.Ok 60 (.t [.int b,.int n,v])):aY.Ok 60 (.t [.int b,.int (n+1),v]):=⟨h.1,h.2⟩
def aaA:∀{z:D},((∃i,z=.int i)\/∃(b n:Int)(y:D),z=.t [.int b,.int n,y])->cP z (up1 z)=false:=λh=>by
 rcases h with⟨i,rfl⟩|⟨b,n,y,rfl⟩
 .exact beq_false_of_ne (show i≠i+1 by omega)
 .show((b==b)&&((n==n+1)&&(cP y y&&true)))=false
  rw[show(n==n+1)=false from beq_false_of_ne (by omega),aiq,agY]
def Mf{W:List (List Nat)}{s:b'}(h:dU ft W s):(∀z∈s.ds,∃(n:Int)(v:D),z.2=.t [.int z.1,.int n,v])/\s.ds.length<=900:=⟨λz hz=>h.num z hz,by have:=h.dl;omega⟩
section
variable{W:List (List Nat)}{L:List aJ}{ws:List bH}(g:Good W L ws)
include g
theorem Good.HC{w:bH}(hw:w∈ws){z:aY.D}(j:w.o=.did z):w.a7=2/\((∃i,z=.int i)\/∃(b n:Int)(y:aY.D),z=.t [.int b,.int n,y]):=by
 cases g.T w hw with
 |deed r d l hd A f=>
  rw[j]at f;cases f;refine⟨r,?_⟩;obtain⟨p1,e,a1,a2,ed⟩:=A;have p:=km e;have c:=g.C _ l e;rw[ed,hd]at c;have c:fS L (w.pl-1)=some (l.a,l.m):=c;unfold fS at c;rw[e]at c;dsimp only at c;have hh:gJ l.w l.a l.m=true:=by
   cases q:gJ l.w l.a l.m with
   |true=>rfl| false=>rw[q,if_neg (by rw[aiq];exact afc)]at c;cases c
  obtain⟨x,k,s⟩:=ag1.mp hh;have B:x.1=l.a:=of_decide_eq_true (agG.mp s).1;have ok:=(g.ok l p).w;have iT:=A0 (Q:=fB) ok.dv.nodup k;rw[B,a1]at iT;obtain⟨n,v,u,E⟩:=(g.bd l p).ds x k;unfold b'.h2;rw[iT,u];dsimp only;rcases E with⟨i,h,_⟩|h
  .exact .inl ⟨i,h⟩
  .exact .inr h
 |long _ _ _ _ f=>rw[j]at f;cases f
 |short _ _ _ f=>rw[j]at f;cases f
 |last _ _ _ f=>rw[j]at f;cases f
 |over _ _ _ f=>rw[j]at f;cases f
theorem Good.Za{w:bH}(hw:w∈ws){x:hY}(b:w.o=.saw x):w.a7=0\/w.a7=1:=by
 cases g.T w hw with
 |deed _ _ _ _ _ a=>rw[b]at a;cases a
 |long h=>exact .inr h|short h=>exact .inl h|last h=>exact .inl h|over _ _ _ a=>rw[b]at a;cases a
theorem Good.XE{w:bH}(hw:w∈ws)(b:w.o=.over):w.a7=3:=by
 cases g.T w hw with
 |deed _ _ _ _ _ a=>rw[b]at a;cases a
 |long _ _ _ _ a=>rw[b]at a;cases a
 |short _ _ _ a=>rw[b]at a;cases a
 |last _ _ _ a=>rw[b]at a;cases a
 |over h=>exact h
theorem Good.Pg{i:Nat}{w:bH}(hi:ws[i]? = some w)(t:Nat)(y:Int):match kI L t y w.o with
  |none=>True|some (o',k')=>fD L w.a w.m o'=some k'/\tQ W o':=by
 have hw:=km hi;have ok:=(g.O w hw).1
 cases o:w.o with
 |over=>
  unfold kI;dsimp only
  by_cases c:y=5
  .rw[if_pos c];trivial
  .rw[if_neg c];exact⟨g.XD hi (g.XE hw o) _,eN⟩
 |did z=>
  obtain⟨f,h⟩:=g.HC hw o;rw[o]at ok;unfold kI;dsimp only
  by_cases c:y=5
  .rw[if_pos c];exact⟨g.Qc hi f,trivial⟩
  .rw[if_neg c]
   refine⟨g.Qb hi f o (aaA h),?_⟩;rcases h with⟨i,rfl⟩|⟨b,n,y,rfl⟩
   .exact eN
   .exact WY ok
 |saw x=>
  rw[o]at ok;have f:=g.Za hw o;unfold kI;dsimp only
  by_cases c:y=5
  .rw[if_pos c];trivial
  .rw[if_neg c]
   by_cases d:y=4
   .rw[if_pos d];exact⟨g.Zb hw f o _,KY ok _⟩
   .rw[if_neg d];exact⟨g.Zc (g.i2 x.e).1 (g.i2 x.e).2,ok⟩
theorem Good.pL{r:aV}(h:r∈rows ws):jY W r:=by
 obtain⟨w,hw,rfl|rfl⟩:=fZ.mp h
 .exact(g.O w hw).2
 .exact(g.O w hw).1
end
def p0(W:List (List Nat))(S:b1)(f:N R)(K P:List D)(N:Int->Int)(zt:b1):Prop:=∃a b v,aZ S f (.v (eL v)) (cB a b K P N zt)/\gn a b=v/\(∀x∈a,i' W x)/\(∀r∈b,jY W r)/\a.length<=900/\b.length<=900
section
variable{W:List (List Nat)}{L:List aJ}{ws:List bH}(g:Good W L ws)(b9:W.length<=1000){i:Nat}{w:bH}(hi:ws[i]? = some w)(hl:ws.length<=22)(dp:L.length<=20){K P:List aY.D}{N:Int->Int}{zt:b1}
include g b9 hi hl dp
theorem Good.KZ{V:List bH}{j:Nat}(f:V[j]? = some w)(A:∀v∈V,v∈ws)(E:∀v∈ws,v∈V)(D:kI L (2*j+1) y w.o=none->gn L (rows V)=none)(F:V.length<=22) :
  p0 W (cB L (rows V) K P N zt) (pB [.ref 0,.ref 1,.int ((2*j+1:Nat):Int),.int y]) K P N zt:=by
 have hw:=km hi;have p:∀r∈rows V,jY W r:=λr d=>by
  obtain⟨v,l,e⟩:=fZ.mp d;exact g.pL (fZ.mpr ⟨v,A v l,e⟩)
 have e:=XC (S:=cB L (rows V) K P N zt) (L:=L) (R:=rows V) (t:=2*j+1) (y:=y) (a:=w.a) (m:=w.m) (u:=w.t+3) (o:=w.o) rfl rfl (by rw[(hr V j).2,f];rfl) (λz hz=>(g.HC hw hz).2) λx B=>Mf (by have ok:=(g.O w hw).1;rw[B]at ok;exact ok)
 have b:=g.Pg hi (2*j+1) y
 cases q:kI L (2*j+1) y w.o with
 |none=>
  rw[q]at e;exact⟨L,rows V,none,e,D q,g.ok,p,by omega,by rw[hs];omega⟩
 |some x=>
  obtain⟨o',k'⟩:=x;rw[q]at e b;have n:=(fk.mp f).1;have fT:(rows V).set (2*j+1) (.fin w.a w.m o' (w.t+3))=rows (V.set j { w with o:=o' }):=by
   refine List.ext_getElem? λt=>?_
   obtain⟨k,rfl|rfl⟩:=uD g t
   .rw[afu (by omega),(hr _ k).1,(hr _ k).1]
    by_cases c:j=k
    .subst c;rw[afB n,f];rfl
    .rw[afu c]
   .by_cases c:j=k
    .subst c
     rw[afB (by rw[hs];omega),(hr _ j).2,afB n];rfl
    .rw[afu (by omega),(hr _ k).2,(hr _ k).2,afu c]
  refine⟨L,(rows V).set (2*j+1) (.fin w.a w.m o' (w.t+3)),some (k',2*j+1),e,?_,g.ok,λr d=>?_,by omega,by rw[af6,hs];omega⟩
  .rw[fT]
   refine g.Pf b9 hw (afB n) (λk v h s=>?_) (λv l=>?_) b.1
   .rw[afu (by omega)]at s
    exact A v (km s)
   .by_cases c:v=w
    .exact .inl c
    .obtain⟨k,h⟩:=afr (E v l)
     refine .inr (km (i:=k) ?_);rw[afu (by rintro rfl;rw[f]at h;cases h;exact c rfl)];exact h
  .rcases aiY d with d|rfl
   .exact p r d
   .exact b.2
end
def sl{w:bH}(h:w.a7=0\/w.a7=1\/w.a7=2\/w.a7=3)(j:Nat)(a:j<=3):oEq (.v (c7 w)) (.v (.str (sk j)))=pure (.v (.aM (decide (w.a7=j))))/\dI (.v (c7 w)) (.v (.str (sk j)))=pure (.v (.aM (!decide (w.a7=j)))):=by
 have a:j=0\/j=1\/j=2\/j=3:=by omega
 unfold c7;rcases h with h|h|h|h<;>rw[h]<;>rcases a with rfl|rfl|rfl|rfl<;>exact⟨by kernel_rfl,by kernel_rfl⟩
section
variable{S:b1}{U:aN}
def Ue{a b:br}{x y:Bool}(h:ax S (a U) (.v (.aM x)))(c:ax S (b U) (.v (.aM y))):ax S (ua a b U) (.v (.aM (x||y))):=by
 cases x with
 |true=>exact h.bind (.of rfl)|false=>exact h.bind c
def Jy{a b:aN->M Bool}{x y:Bool}(h:ax S (a U) x)(c:ax S (b U) y):ax S (fA a b U) (x&&y):=by
 cases x with
 |true=>exact pk h c|false=>exact se h
def xK{a b:aN->M Bool}{x y:Bool}(h:ax S (a U) x)(c:ax S (b U) y):ax S (ib a b U) (x||y):=by
 cases x with
 |true=>exact Ul h|false=>exact Uk h c
def Yq{xs:List D}{k:Nat}{d:D}(e:xs[k]? = some d)(a:k<=1000):k_ xs [.v (.int (k:Nat))]=pure (.v d,xs.eraseIdx k):=by
 unfold k_;dsimp only;rw[if_pos ⟨by omega,by omega⟩,ahk,e]
def DU{mo:br}{ms:cJ}{i k:Nat}{xs:List D}{d:D}(b:ax S (mo U) (.v (.ref i)))(c:ax S (ms U) [.v (.int (k:Nat))])(h:S[i]? = some (.l xs))(e:xs[k]? = some d)(f:k<=1000):aZ S (dE k_ mo ms U) (.a6 U) (S.set i (.l (xs.eraseIdx k))):=
 b.to.bind (c.to.bind ((kc h).to.bind ((ax.to (a:=(R.v d,xs.eraseIdx k)) (.of (Yq e f))).bind rfl)))
def n_{j i:Nat}(e:I j U=pure (.v (.int (i:Nat)))):aa d3 (ar 2) (I j) U=pure (.v (.int ((2*i:Nat):Int))):=by
 rw[show((2*i:Nat):Int)=2*(i:Int)by omega];exact aD (Cf (Cg (by decide) (by decide))) rfl e
def yj{j i:Nat}(e:I j U=pure (.v (.int (i:Nat)))):aa c0 (aa d3 (ar 2) (I j)) (ar 1) U=pure (.v (.int ((2*i+1:Nat):Int))):=aD (oY _) (n_ e) rfl
def Uh{ms:cJ}{lo hi:Nat}(h:ax S (ms U) [.v (.int (lo:Nat)),.v (.int (hi:Nat))])(a:lo<=1000)(b:hi<=1000):ax S (sb ms U) (gO lo (hi-lo)):=h.bind (by
 show ax S (if -(2 ^ 62)<=(lo:Int)/\(lo:Int)<2 ^ 62/\-(2 ^ 62)<=(hi:Int)/\(hi:Int)<2 ^ 62 then _ else _) _;rw[if_pos ⟨by omega,by omega,by omega,by omega⟩,show((hi:Int)-(lo:Int)).toNat=hi-lo by omega];exact .of rfl)
def BE{ms:cJ}{hi:Nat}(h:ax S (ms U) [.v (.int (hi:Nat))])(a:hi<=1000):ax S (iB ms U) (gO 0 hi):=h.bind (by
 show ax S (if -(2 ^ 62)<=(hi:Int)/\(hi:Int)<2 ^ 62 then _ else _) _;rw[if_pos ⟨by omega,by omega⟩,ahk];exact .of rfl)
end
def Dd{α:Type}(xs:List α)(j:Nat):gO (j:Nat) xs.length=(xs.zipIdx j).map λx=>D.int (x.2:Nat):=by
 unfold gO;refine List.ext_getElem? λk=>?_
 rw[afh,afh,List.getElem?_zipIdx]
 by_cases h:k<xs.length
 .rw[aip h,afi h]
  rfl
 .rw[ahr (by rw[agT];omega),ahr (by omega)]
  rfl
def QS{α:Type}(A B:List α)(x y:α):(A++[x,y]++B).eraseIdx A.length=A++[y]++B:=by
 rw[afQ,ahT (ae9 _),afY,afQ];rfl
def QT{α:Type}(A B:List α)(y:α):(A++[y]++B).eraseIdx A.length=A++[]++B:=by
 rw[afQ,ahT (ae9 _),afY,afQ];rfl
def QU{α:Type}(A B:List α)(x y z:α):(A++[x,y]++B).set A.length z=A++[z,y]++B:=by
 rw[afQ,List.set_append_right _ _ (ae9 _),afY,afQ];rfl
section
variable{ws:List bH}{i:Nat}{w:bH}(hi:ws[i]? = some w)
include hi
theorem yM:((rows (ws.take i)).map aV.D).length=2*i:=by
 rw[sg,hs,afO];have:=(fk.mp hi).1;omega
theorem Lc:((rows ws).map aV.D).eraseIdx (2*i)=(eu ws i [w.fin]).map aV.D:=by
 rw[zu hi];unfold eu;rw[afo,afo,afo,afo,<-yM hi];exact QS _ _ _ _
theorem Yp:((eu ws i [w.fin]).map aV.D).eraseIdx (2*i)=(eu ws i []).map aV.D:=by
 unfold eu;rw[afo,afo,afo,afo,<-yM hi];exact QT _ _ _
theorem Yy(z:aV):((rows ws).map aV.D).set (2*i) z.D=(eu ws i [z,w.fin]).map aV.D:=by
 rw[zu hi];unfold eu;rw[afo,afo,afo,afo,<-yM hi];exact QU _ _ _ _ _
theorem tZ:((rows ws).map aV.D)[2*i]? = some w.cm.D:=by rw[afh,(hr ws i).1,hi];rfl
theorem N8:((rows ws).map aV.D)[2*i+1]? = some w.fin.D:=by rw[afh,(hr ws i).2,hi];rfl
theorem N9:((eu ws i [w.fin]).map aV.D)[2*i]? = some w.fin.D:=by
 unfold eu;rw[afo,afo,afQ,<-yM hi,afn (ae9 _),afY];rfl
theorem L4:eu ws i []++[w.cm,w.fin]=rows (moved ws i w):=by
 unfold eu moved;rw[pM,ah7,pM,agO];rfl
end
section
variable{W:List (List Nat)}{L:List aJ}{ws:List bH}(g:Good W L ws){i:Nat}{w:bH}(hi:ws[i]? = some w)(hl:ws.length<=22){N:Int->Int}{zt:b1}
include g hi hl
theorem Pe:aZ (cB L (rows ws) (ws.map c7) (ws.map dD) N zt) (sE [.ref 1,.ref 2,.ref 3,.int (i:Nat)]) (.v (eL (rO ws i w))) (cB L (rows (moved ws i w)) (ws.map c7) (ws.map dD) N zt):=by
 have hw:=km hi;have mT:=(fk.mp hi).1;have Y:=g.kinds hw
 let K:=ws.map c7
 let P:=ws.map dD
 let E (r p f:Slot):aN:=[.val (.ref 1),.val (.ref 2),.val (.ref 3),.val (.int (i:Nat)),r,p,f]
 let dh:Slot:=.val (.l [w.cm.D,w.fin.D])
 let G:=cB L (rows ws) K P N zt
 let H:=cB L (eu ws i [w.fin]) K P N zt
 let M:=cB L (eu ws i []) K P N zt
 let q:=cB L (rows (moved ws i w)) K P N zt
 have s4:aZ G (bZ (bQ 4 (e1 (a8 (aa bu (bo (I 0)) (aa d3 (ar 2) (I 3))) (aa bu (bo (I 0)) (aa c0 (aa d3 (ar 2) (I 3)) (ar 1)))))) (E .emp .emp .emp)) (.a6 (E dh .emp .emp)) G:=
  (JI (qM (rs:=[.v w.cm.D,.v w.fin.D]) (a3 (dk (jN (2*i) (tZ hi)) (d9 (i:=1) rfl (.of rfl)) (.of (n_ rfl))) (a3 (dk (jN (2*i+1) (N8 hi)) (d9 (i:=1) rfl (.of rfl)) (.of (yj rfl))) cb)) rfl (aff rfl)) rfl).to
 have p1:aZ G (dE k_ (I 0) (bf (aa d3 (ar 2) (I 3))) (E dh .emp .emp)) (.a6 (E dh .emp .emp)) H:=by
  have:=DU (S:=G) (U:=E dh .emp .emp) (i:=1) (k:=2*i) (mo:=I 0) (ms:=bW (aa d3 (ar 2) (I 3)) d7) (.of rfl) (a3 (.of (n_ rfl)) cb) rfl (tZ hi) (by omega);rw[Lc hi]at this;exact this
 have J:aZ H (dE k_ (I 0) (bf (aa d3 (ar 2) (I 3))) (E dh .emp .emp)) (.a6 (E dh .emp .emp)) M:=by
  have:=DU (S:=H) (U:=E dh .emp .emp) (i:=1) (k:=2*i) (mo:=I 0) (ms:=bW (aa d3 (ar 2) (I 3)) d7) (.of rfl) (a3 (.of (n_ rfl)) cb) rfl (N9 hi) (by omega);rw[Yp hi]at this;exact this
 have Z:aZ M (dE m_ (I 0) (bf (I 4)) (E dh .emp .emp)) (.a6 (E dh .emp .emp)) q:=by
  have LX:((eu ws i []).map aV.D).length<=100:=by
   rw[sg];have:=congrArg agx (L4 hi);rw[afb,hs]at this;unfold moved at this;rw[afb,agB mT]at this;simp only[afE,agm]at this;omega
  have:=DT (S:=M) (U:=E dh .emp .emp) (i:=1) (mo:=I 0) (ms:=bW (I 4) d7) (xs:=(eu ws i []).map aV.D) (ys:=[w.cm.D,w.fin.D]) (.of rfl) (a3 (.of rfl) cb) rfl rfl (by show _+2<=afe;exact f3 (by omega));rw[show(eu ws i []).map aV.D++[w.cm.D,w.fin.D]=(rows (moved ws i w)).map aV.D by rw[<-L4 hi,afo];rfl]at this;exact this
 let s:=(ws.drop (i+1)).zipIdx (i+1)
 let v:bH×Nat->Option D:=λx=>(l3 w x).map λy=>.t [.str y.1,.int (y.2:Nat)]
 have O:eL (rO ws i w)=(s.findSome? v).getD .aF:=by
  show _=(s.findSome? λx=>(l3 w x).map λy=>D.t [.str y.1,.int (y.2:Nat)]).getD .aF;rw[pd];unfold rO;cases ahq _ _<;>rfl
 obtain⟨k1,k2⟩:=uT (S:=q) (b:=λd U=>xS (U.set 5 (.val d))) (λx:bH×Nat=>.int (x.2:Nat)) v (λU=>∃p f,U=E dh p f) s (E dh .emp .emp) ⟨_,_,rfl⟩ (λx o U uN=>by
  obtain⟨p,f,rfl⟩:=uN;obtain⟨u,j⟩:=x;obtain⟨aU,A⟩:=agE.mp o;rw[ago,show i+1+(j-(i+1))=j by omega]at A;have h8:=g.kinds (km A);have X:∀{m n:Nat}{z:bH}{r p f:Slot},ws[n]? = some z->I m (E r p f)=pure (.v (.int (n:Nat)))->ax q (aa bu (bo (I 1)) (I m) (E r p f)) (.v (c7 z)):=λ{m n z r p f} Q T=>dk (jN n (by rw[afh,Q];rfl)) (d9 (i:=2) rfl (.of rfl)) (.of T)
  have pp:∀{m n:Nat}{z:bH}{r p f:Slot},ws[n]? = some z->I m (E r p f)=pure (.v (.int (n:Nat)))->ax q (aa bu (bo (I 2)) (I m) (E r p f)) (.v (dD z)):=λ{m n z r p f} Q T=>dk (jN n (by rw[afh,Q];rfl)) (d9 (i:=3) rfl (.of rfl)) (.of T)
  let jh:Slot:=.val (.int (j:Nat))
  have F:ax q (bQ 6 (ua (aa oEq (aa bu (bo (I 1)) (I 3)) (aH (.str "deed"))) (jJ (aa kY (aa bu (bo (I 2)) (I 5)) (aa bu (bo (I 2)) (I 3))) (aa dI (aa bu (bo (I 1)) (I 3)) (aH (.str "over"))))) (E dh jh f)) (.a6 (E dh jh (.val (.aM (decide (w.a7=2)||(decide (((u.pl:Nat):Int) > ((w.pl:Nat):Int))&&!decide (w.a7=3))))))):=
   eM (i:=6) (Ue (dk (sl Y 2 (by omega)).1 (X (m:=3) hi rfl) (.of rfl)) (Jz (dk (x:=.v (dD u)) (y:=.v (dD w)) uz (pp (m:=5) A rfl) (pp (m:=3) hi rfl)) (dk (sl Y 3 (by omega)).2 (X (m:=3) hi rfl) (.of rfl))))
  have C:(decide (w.a7=2)||(decide (((u.pl:Nat):Int) > ((w.pl:Nat):Int))&&!decide (w.a7=3)))=decide (w.a7=2\/(w.pl<u.pl/\w.a7≠3)):=by
   rw[show decide (((u.pl:Nat):Int) > ((w.pl:Nat):Int))=decide (w.pl<u.pl)from decide_eq_decide.mpr (by omega)]
   by_cases a:w.a7=2<;>by_cases b:w.pl<u.pl<;>by_cases c:w.a7=3<;>simp[a,b,c]
  rw[C]at F;have B:=Jy (S:=q) (U:=E dh jh (.val (.aM (decide (w.a7=2\/(w.pl<u.pl/\w.a7≠3)))))) (a:=aO (I 6)) (b:=aO (aa dI (aa bu (bo (I 1)) (I 5)) (aH (.str "over")))) (gX (.of rfl)) (gX (dk (sl h8 3 (by omega)).2 (X (m:=5) A rfl) (.of rfl)));show(∀d,v (u,j)=some d->ax q (xS (E dh jh f)) _)/\(v (u,j)=none->∃U',ax q (xS (E dh jh f)) (.a6 U')/\_)
  by_cases c:(w.a7=2\/(w.pl<u.pl/\w.a7≠3))/\u.a7≠3
  .rw[decide_eq_true c.1,decide_eq_false c.2]at B
   rw[decide_eq_true c.1]at F;have V:v (u,j)=some (.t [.str "late",.int ((2*j-1:Nat):Int)]):=by
    show(l3 w (u,j)).map _=_;unfold l3;rw[if_pos c];rfl
   rw[V];refine⟨λd h=>?_,λh=>(by cases h)⟩;cases h;have x3:aa gw (aa d3 (ar 2) (I 5)) (ar 1) (E dh jh (.val (.aM true)))=pure (.v (.int ((2*j-1:Nat):Int))):=by
    rw[show((2*j-1:Nat):Int)=((2*j:Nat):Int)-1 by omega];exact aD (th _) (n_ rfl) rfl
   exact fG F (gY B (.of (dw (dS rfl x3))))
  .have V:v (u,j)=none:=by
    show(l3 w (u,j)).map _=_;unfold l3;rw[if_neg c];rfl
   rw[V];refine⟨λd h=>(by cases h),λ_=>⟨_,fG F (h6 (b:=bN) ?_ (.of rfl)),_,_,rfl⟩⟩;have:(decide (w.a7=2\/(w.pl<u.pl/\w.a7≠3))&&!decide (u.a7=3))=false:=by
    by_cases a:(w.a7=2\/(w.pl<u.pl/\w.a7≠3))
    .by_cases b:u.a7=3
     .rw[decide_eq_true b];exact agY _
     .exact absurd ⟨a,b⟩ c
    .rw[decide_eq_false a];rfl
   rw[this]at B;exact B)
 have it:ax q (sb (a8 (aa c0 (I 3) (ar 1)) (b5 c8 (bf (bo (I 1))))) (E dh .emp .emp)) (s.map λx=>.int (x.2:Nat)):=by
  have:=Uh (S:=q) (U:=E dh .emp .emp) (lo:=i+1) (hi:=ws.length) (ms:=bW (aa c0 (I 3) (ar 1)) (bf (b5 c8 (bf (bo (I 1)))))) (a3 (.of (aD (oY _) rfl rfl)) (a3 (kb (rs:=[.mv K]) (by show pure (aY.R.v (.int ((ws.map c7).length:Nat)))=_;rw[sg]) (a3 (d9 (i:=2) rfl (.of rfl)) cb)) cb)) (by omega) (by omega);rw[show ws.length-(i+1)=(ws.drop (i+1)).length by rw[afP],Dd]at this;exact this
 rw[O];refine iK rfl (b3 s4 (b3 p1 (b3 J (b3 Z ?_))))
 cases e:s.findSome? v with
 |some d=>exact fg (ax.to (ax.bind it (k1 d e)))|none=>
  obtain⟨U',ao,_⟩:=k2 e;exact b3 (ax.to (ax.bind it ao)) (ax.to (.of rfl))
end
def kn(n:Int):D:=.t [.str "add",.str "quince",.int n]
def Ln(n:Int):ej 7 (kn n):=(pn (n:=0) (iE (by decide +kernel)) (iE (by decide +kernel)) fb).up (by decide)
def p0.map{W:List (List Nat)}{S a:b1}{f c:N R}{K P:List D}{N:Int->Int}{zt:b1}(b:p0 W S f K P N zt)(h:∀{r o},aZ S f (.v r) o->aZ a c (.v r) o):p0 W a c K P N zt:=by
 obtain⟨d,g,v,e,q⟩:=b;exact⟨d,g,v,h e,q⟩
def Ph{L:List aJ}{t:Nat}{y:Int}(a:y≠5)(o:dQ):kI L t y o≠none:=by
 unfold kI
 cases o with
 |over=>dsimp only;rw[if_neg a];exact λz=>(by cases z)
 |did z=>dsimp only;exact λz=>(by cases z)
 |saw x=>dsimp only;rw[if_neg a];by_cases h:y=4<;>simp[h]
def abX{S:b1}{U:aN}{mo:br}{i:Nat}{xs:List D}{d:D}(b:ax S (mo U) (.v (.ref i)))(h:S[i]? = some (.l xs))(e:xs[xs.length-1]? = some d):aZ S (dE rb mo d7 U) (.a6 U) (S.set i (.l xs.dropLast)):=
 b.to.bind ((cb (S:=S) (U:=U)).to.bind ((kc h).to.bind ((ax.to (a:=(R.v d,xs.dropLast)) (.of (by unfold rb;dsimp only;rw[e]))).bind rfl)))
section
variable{W:List (List Nat)}{L:List aJ}{ws:List bH}(g:Good W L ws)(b9:W.length<=1000){i:Nat}{w:bH}(hi:ws[i]? = some w)(hl:ws.length<=22)(dp:L.length<=20){N:Int->Int}{zt:b1}
include g
theorem Good.pos{w:bH}(hw:w∈ws)(a:w.a7=1\/w.a7=2):1<=w.pl/\∃l,L[w.pl-1]? = some l:=by
 cases g.T w hw with
 |deed _ _ l _ hl=>exact⟨hl.1,l,hl.2.1⟩|long _ l _ hl=>exact⟨hl.1,l,hl.2.1⟩|short a=>omega|last a=>omega|over a=>omega
include b9 hi hl dp
theorem Good.Co(f:aY.N aY.R)(h:aZ (cB L (rows ws) (ws.map c7) (ws.map dD) N zt) f (.v .aF) (cB L (rows ws) (ws.map c7) (ws.map dD) N zt)):p0 W (cB L (rows ws) (ws.map c7) (ws.map dD) N zt) f (ws.map c7) (ws.map dD) N zt:=
 ⟨L,rows ws,none,h,g.zR b9,g.ok,λr a=>g.pL a,by omega,by rw[hs];omega⟩
theorem Good.L9{X:List aV}(a:∀r∈X,jY W r)(c:X.length<=2):(∀r∈eu ws i X,jY W r)/\(eu ws i X).length<=900:=by
 refine⟨λr b=>?_,?_⟩
 .rcases p_.mp b with h|⟨j,v,_,o,e⟩
  .exact a r h
  .exact g.pL (fZ.mpr ⟨v,km o,e⟩)
 .unfold eu
  rw[afb,afb,hs,hs,afO,afP];omega
theorem Good.jd{S:b1}{U:aN}{m n:Nat}(h:S[n]? = some (.l (ws.map c7))){q:Nat}(a:I q U=pure (.v (.ref n)))(b:I m U=pure (.v (.int (i:Nat)))):ax S (aa bu (bo (I q)) (I m) U) (.v (c7 w)):=dk (jN i (by rw[afh,hi];rfl)) (d9 h (.of a)) (.of b)
theorem Good.wX{S:b1}{U:aN}{m n:Nat}(h:S[n]? = some (.l (ws.map dD))){q:Nat}(a:I q U=pure (.v (.ref n)))(b:I m U=pure (.v (.int (i:Nat))))(c:1<=w.pl):ax S (aa gw (aa bu (bo (I q)) (I m)) (ar 1) U) (.v (.int ((w.pl-1:Nat):Int))):=by
 rw[show((w.pl-1:Nat):Int)=(w.pl:Int)-1 by omega];exact dk (x:=.v (dD w)) (th _) (dk (jN i (by rw[afh,hi];rfl)) (d9 h (.of a)) (.of b)) (.of rfl)
theorem Pb:p0 W (cB L (rows ws) (ws.map c7) (ws.map dD) N zt) (B2 [.ref 1,.ref 2,.ref 3,.int (i:Nat)]) (ws.map c7) (ws.map dD) N zt:=by
 have hw:=km hi;have T:=(fk.mp hi).1
 let K:=ws.map c7
 let P:=ws.map dD
 let S:=cB L (rows ws) K P N zt
 let E (o:Slot):aN:=[.val (.ref 1),.val (.ref 2),.val (.ref 3),.val (.int (i:Nat)),.val w.cm.D,o]
 have s:aZ S (bZ (bQ 4 (aa bu (bo (I 0)) (aa d3 (ar 2) (I 3)))) [.val (.ref 1),.val (.ref 2),.val (.ref 3),.val (.int (i:Nat)),.emp,.emp]) (.a6 (E .emp)) S:=
  (eM (dk (r:=.v w.cm.D) (jN (2*i) (tZ hi)) (d9 (i:=1) rfl (.of rfl)) (.of (n_ rfl)))).to
 have k:ax S (aO (aa dI (aa bu (bo (I 1)) (I 3)) (aH (.str "deed"))) (E .emp)) (!decide (w.a7=2)):=gX (dk (sl (g.kinds hw) 2 (by omega)).2 (g.jd b9 hi hl dp (n:=2) rfl rfl rfl) (.of rfl))
 by_cases c:w.a7=2
 .rw[decide_eq_true c]at k
  obtain⟨p1,l,_⟩:=g.pos hw (.inr c);have G:=(g.O w hw).2
  let d':D:=if cP (cQ w.d) (kn 5)=true then kn 6 else kn 5
  have u:cQ w.d≠d':=by
   show cQ w.d≠if _ then _ else _
   by_cases b:cP (cQ w.d) (kn 5)=true
   .rw[if_pos b]
    intro z;rw[z]at b;exact absurd b (by decide +kernel)
   .rw[if_neg b]
    intro z;rw[z]at b;exact b (by decide +kernel)
  have o7:ej 7 d':=by
   show ej 7 (if _ then _ else _);split
   .exact Ln 6
   .exact Ln 5
  have H:aZ S (bZ (bQ 5 (a0 (bG (aH (.str "add")) (aH (.str "quince")) (ar 5)))) (E .emp)) (.a6 (E (.val (kn 5)))) S:=(ax.of (ez (d:=kn 5) (m9 rfl rfl rfl))).to;have f:aO (aa oEq (aI 4 3) (I 5)) (E (.val (kn 5)))=pure (cP (cQ w.d) (kn 5)):=bR (aD (x:=.v (cQ w.d)) (nN (x:=.v (cQ w.d)) (y:=.v (kn 5)) (hM G.2 (by decide)).1 (by decide +kernel)) (aD (x:=.v w.cm.D) rfl rfl rfl) rfl);have M:aZ S (bZ (bX (aO (aa oEq (aI 4 3) (I 5))) (bQ 5 (a0 (bG (aH (.str "add")) (aH (.str "quince")) (ar 6)))) bN) (E (.val (kn 5)))) (.a6 (E (.val d'))) S:=by
   show aZ S _ (fK.a6 (E (Slot.val (if _ then _ else _)))) S
   by_cases b:cP (cQ w.d) (kn 5)=true
   .rw[if_pos b]
    rw[b]at f;exact(ax.of ((hG f).trans (ez (d:=kn 6) (m9 rfl rfl rfl)))).to
   .rw[if_neg b]
    rw[Bool.eq_false_iff.mpr b]at f;exact(ax.of ((hF f).trans rfl)).to
  have R:d'.bt 64=true:=(hM o7.2 (by decide)).1;have A:c3 d'=.val d':=by
   show c3 (if _ then _ else _)=.val (if _ then _ else _);split<;>rfl
  have cA:gq (I 4) fR (e2 (ar 3)) (E (.val d'))=pure (.v (.t [.str "begin",.int w.a,.int w.m])):=(tc (r:=.v w.cm.D) (l:=none) (h:=some 3) rfl rfl rfl).trans rfl;have f5:a0 (a8 (I 5) (aI 4 4)) (E (.val d'))=pure (.v (.t [d',.int w.t])):=dS (by
   show I 5 [_,_,_,_,_,.val (if _ then _ else _)]=pure (.v (if _ then _ else _));split<;>rfl) (aD (x:=.v w.cm.D) rfl rfl rfl)
  have ap:=aD (w2 (xs:=[.str "begin",.int w.a,.int w.m]) (ys:=[d',.int w.t]) (aff rfl)) cA f5
  let z:=aV.cm w.a w.m d' w.t
  have Q:aZ S (oI (I 0) (aa d3 (ar 2) (I 3)) (eI (aa kX (gq (I 4) fR (e2 (ar 3))) (a0 (a8 (I 5) (aI 4 4))))) (E (.val d'))) (.a6 (E (.val d'))) (cB L (eu ws i [z,w.fin]) K P N zt):=by
   have:=wj (S:=S) (S1:=S) (U:=E (.val d')) (i:=1) (j:=2*i) (mo:=I 0) (mk:=aa d3 (ar 2) (I 3)) (mv:=eI (aa kX (gq (I 4) fR (e2 (ar 3))) (a0 (a8 (I 5) (aI 4 4))))) (xs:=(rows ws).map aV.D) (r:=.v z.D) (d:=z.D) (ax.to (.of ap)) rfl (.of rfl) (.of (n_ rfl)) rfl (by rw[sg,hs];omega);rw[Yy hi]at this;exact this
  have fin:aZ (cB L (eu ws i [z,w.fin]) K P N zt) (Fi (E (.val d'))) (.b0 (.v (eL (some (("unbegun":Str),w.pl-1))))) (cB L (eu ws i [z,w.fin]) K P N zt):=
   (lM (h7 (rs:=[.v (.str "unbegun"),.v (.int ((w.pl-1:Nat):Int))]) (a3 (.of rfl) (a3 (g.wX b9 hi hl dp (n:=3) rfl rfl rfl p1) cb)) rfl (aff rfl))).to
  obtain⟨F,B⟩:=g.L9 b9 hi hl dp (X:=[z,w.fin]) (λr p=>by
   rcases afz.mp p with rfl|p
   .exact o7
   .rw[afj.mp p];exact(g.O w hw).1) (ae9 _)
  refine⟨L,eu ws i [z,w.fin],some (("unbegun":Str),w.pl-1),iK rfl (b3 s (rn k (b3 H (b3 M (b3 Q fin))))),g.unbegun b9 hi (.inr c) (λt q=>?_),g.ok,F,by omega,B⟩;rcases afz.mp q with e|q
  .exact u (aV.cm.inj e).2.2.1
  .cases afj.mp q
 .rw[decide_eq_false c]at k
  exact g.Co b9 hi hl dp _ (iK rfl (b3 s (fg (gY k (.of rfl)).to)))
end
def JL{w:bH}(h:w.a7=0\/w.a7=1\/w.a7=2\/w.a7=3):kZ false (.v (c7 w)) (.fr [.str "deed",.str "long"])=pure (.v (.aM (decide (w.a7=1\/w.a7=2)))):=by
 unfold c7;rcases h with h|h|h|h<;>rw[h]<;>kernel_rfl
section
variable{W:List (List Nat)}{L:List aJ}{ws:List bH}(g:Good W L ws)(b9:W.length<=1000){i:Nat}{w:bH}(hi:ws[i]? = some w)(hl:ws.length<=22)(dp:L.length<=20){N:Int->Int}{zt:b1}
include g b9 hi hl dp
theorem Pc(y:Int):p0 W (cB L (rows ws) (ws.map c7) (ws.map dD) N zt) (kU [.ref 0,.ref 1,.ref 2,.ref 3,.int y,.int (i:Nat)]) (ws.map c7) (ws.map dD) N zt:=by
 have hw:=km hi;have mT:=(fk.mp hi).1;have kw:=g.kinds hw
 let K:=ws.map c7
 let P:=ws.map dD
 let S:=cB L (rows ws) K P N zt
 let E (et J:Slot):aN:=[.val (.ref 0),.val (.ref 1),.val (.ref 2),.val (.ref 3),.val (.int y),.val (.int (i:Nat)),et,J]
 let q:=E .emp .emp
 have t:∀c:Int,aO (aa oEq (I 4) (aH (.int c))) q=pure (decide (y=c)):=λc=>yX rfl c
 have Le:∀{r f},aZ S (Fb q) (.b0 (.v r)) f->aZ S (kU [.ref 0,.ref 1,.ref 2,.ref 3,.int y,.int (i:Nat)]) (.v r) f:=λe=>iK rfl e
 have iu:∀(S:b1)(j:Nat),j<=3->S[2]? = some (.l K)->ax S (aO (aa oEq (aa bu (bo (I 2)) (I 5)) (aH (.str (sk j)))) q) (decide (w.a7=j)):=λS j C T=>gX (dk (sl kw j C).1 (g.jd b9 hi hl dp (n:=2) T rfl rfl) (.of rfl))
 have b0:∀{x:R}{S f:b1}{mf:e8}{ms:cJ}{rs:List R}{d:D},ax S (ms q) rs->rs.all R.jR=true->aZ S (mf (rs.map R.arg)) (.v d) f->aZ S (kz (eB mf (eH ms)) q) (.b0 (.v d)) f:=λae T bq=>nh (x_call ae T bq)
 by_cases Nl:y=8
 .exact(Pb g b9 hi hl dp).map λe=>Le (fg (fJ (ax.to (.of ((t 8).trans (dt Nl)))) (nh (x_call (rs:=[.v (.ref 1),.v (.ref 2),.v (.ref 3),.v (.int (i:Nat))]) (a3 (.of rfl) (a3 (.of rfl) (a3 (.of rfl) (a3 (.of rfl) cb)))) rfl e))))
 have Lf:∀{r f},aZ S (Fc q) (.b0 (.v r)) f->aZ S (kU [.ref 0,.ref 1,.ref 2,.ref 3,.int y,.int (i:Nat)]) (.v r) f:=λe=>Le (hR (ax.to (.of ((t 8).trans (d0 Nl)))) e)
 have ey:∀{S f:b1}{d:D},aZ S (sE [.ref 1,.ref 2,.ref 3,.int (i:Nat)]) (.v d) f->aZ S (eB sE (eH (bW (I 1) (bG (I 2) (I 3) (I 5)))) q) (.v d) f:=λe=>x_call (rs:=[.v (.ref 1),.v (.ref 2),.v (.ref 3),.v (.int (i:Nat))]) (a3 (.of rfl) (a3 (.of rfl) (a3 (.of rfl) (a3 (.of rfl) cb)))) rfl e
 have ord:=Pe g hi hl (N:=N) (zt:=zt);have Cd:∀v,v∈moved ws i w↔v∈ws:=λv=>by
  have e:ws=ws.take i++[w]++ws.drop (i+1):=Mo hi;unfold moved;rw[ah7]
  conv=>rhs;rw[e]
  simp only[afZ,afj];exact⟨λh=>h.elim (λh=>h.elim (λh=>.inl (.inl h)) .inr) λh=>.inl (.inr h),λh=>h.elim (λh=>h.elim (λh=>.inl (.inl h)) .inr) λh=>.inl (.inr h)⟩
 have J6:(moved ws i w).length=ws.length:=by
  unfold moved;rw[afb,agB mT,afw];omega
 by_cases Nm:y=9
 .have C:(moved ws i w)[ws.length-1]? = some w:=by
   unfold moved;rw[afn (by rw[agB mT];exact ae9 _),agB mT,afY];rfl
  have o:=g.KZ b9 hi hl dp (y:=4) (K:=K) (P:=P) (N:=N) (zt:=zt) C (λv s=>(Cd v).mp s) (λv s=>(Cd v).mpr s) (λz=>absurd z (Ph (by decide) _)) (by omega);refine o.map λe=>Lf (fg (fJ (ax.to (.of ((t 9).trans (dt Nm)))) (b3 (DS (ey ord)) (nh (x_call (rs:=[.v (.ref 0),.v (.ref 1),.v (.int ((2*(ws.length-1)+1:Nat):Int)),.v (.int 4)]) (a3 (.of rfl) (a3 (.of rfl) (a3 ?_ (a3 (.of rfl) cb)))) rfl e)))))
  have el:(((rows (moved ws i w)).map aV.D).length:Int)-1=((2*(ws.length-1)+1:Nat):Int):=by rw[sg,hs,J6];omega
  rw[<-el];exact dk (x:=.v (.int (((rows (moved ws i w)).map aV.D).length:Nat))) (th _) (kb (rs:=[.mv ((rows (moved ws i w)).map aV.D)]) rfl (a3 (d9 (i:=1) rfl (.of rfl)) cb)) (.of rfl)
 have vy:∀{r f},aZ S (Fd q) (.b0 (.v r)) f->aZ S (kU [.ref 0,.ref 1,.ref 2,.ref 3,.int y,.int (i:Nat)]) (.v r) f:=λe=>Lf (hR (ax.to (.of ((t 9).trans (d0 Nm)))) e)
 by_cases rp:y=1
 .let B:=cB L (eu ws i [w.fin]) K P N zt
  have pp:aZ S (dE k_ (I 1) (bf (aa d3 (ar 2) (I 5))) q) (.a6 q) B:=by
   have:=DU (S:=S) (U:=q) (i:=1) (k:=2*i) (mo:=I 1) (ms:=bW (aa d3 (ar 2) (I 5)) d7) (.of rfl) (a3 (.of (n_ rfl)) cb) rfl (tZ hi) (by omega);rw[Lc hi]at this;exact this
  have H:=xK (iu B 0 (by decide) rfl) (iu B 3 (by decide) rfl);obtain⟨bI,b6⟩:=g.L9 b9 hi hl dp (X:=[w.fin]) (λr F=>by rw[afj.mp F];exact(g.O w hw).1) (ajp 1)
  by_cases c:w.a7=0\/w.a7=3
  .have cM:(decide (w.a7=0)||decide (w.a7=3))=true:=by rcases c with c|c<;>rw[decide_eq_true c]<;>simp
   rw[cM]at H;exact⟨L,eu ws i [w.fin],none,vy (fg (fJ (ax.to (.of ((t 1).trans (dt rp)))) (b3 pp (fg (gY H (.of rfl)).to)))),g.aaN b9 hi c,g.ok,bI,by omega,b6⟩
  .have Am:(decide (w.a7=0)||decide (w.a7=3))=false:=by rw[decide_eq_false λz=>c (.inl z),decide_eq_false λz=>c (.inr z)];rfl
   rw[Am]at H;have xG:w.a7=1\/w.a7=2:=by omega
   obtain⟨p1,_⟩:=g.pos hw xG;refine⟨L,eu ws i [w.fin],some (("unbegun":Str),w.pl-1),vy (fg (fJ (ax.to (.of ((t 1).trans (dt rp)))) (b3 pp (rn H (ax.to (lM (h7 (rs:=[.v (.str "unbegun"),.v (.int ((w.pl-1:Nat):Int))]) (a3 (.of rfl) (a3 (g.wX b9 hi hl dp (n:=3) rfl rfl rfl p1) cb)) rfl (aff rfl)))))))),g.unbegun b9 hi xG (λt bM=>?_),g.ok,bI,by omega,b6⟩;cases afj.mp bM
 have CR:∀{r f},aZ S (Fe q) (.b0 (.v r)) f->aZ S (kU [.ref 0,.ref 1,.ref 2,.ref 3,.int y,.int (i:Nat)]) (.v r) f:=λe=>vy (hR (ax.to (.of ((t 1).trans (d0 rp)))) e)
 have o:=λ(z:Int)=>g.KZ b9 hi hl dp (y:=z) (K:=K) (P:=P) (N:=N) (zt:=zt) hi (λv s=>s) (λv s=>s) (λ_=>g.zR b9) hl
 have Z:ax S (ib (aO (aa oEq (I 4) (ar 2))) (aO (aa oEq (I 4) (ar 3))) q) (decide (y=2)||decide (y=3)):=xK (.of (t 2)) (.of (t 3))
 by_cases DV:y=2\/y=3
 .rw[show(decide (y=2)||decide (y=3))=true by rcases DV with c|c<;>rw[decide_eq_true c]<;>simp]at Z
  have H:=xK (iu S 0 (by decide) rfl) (iu S 3 (by decide) rfl)
  by_cases c:w.a7=0\/w.a7=3
  .have cM:(decide (w.a7=0)||decide (w.a7=3))=true:=by rcases c with c|c<;>rw[decide_eq_true c]<;>simp
   rw[cM]at H;exact(o (6-y)).map λe=>CR (fg (fJ Z.to (fg (fJ H.to (nh (x_call (rs:=[.v (.ref 0),.v (.ref 1),.v (.int ((2*i+1:Nat):Int)),.v (.int (6-y))]) (a3 (.of rfl) (a3 (.of rfl) (a3 (.of (yj rfl)) (a3 (.of (aD (show gw (.v (.int 6)) (.v (.int y))=pure (.v (.int (6-y)))from rfl) rfl rfl)) cb)))) rfl e))))))
  .have Am:(decide (w.a7=0)||decide (w.a7=3))=false:=by rw[decide_eq_false λz=>c (.inl z),decide_eq_false λz=>c (.inr z)];rfl
   rw[Am]at H;have xG:w.a7=1\/w.a7=2:=by omega
   obtain⟨p1,l,el⟩:=g.pos hw xG;have gZ:=km el;have G:=g.ok l gZ;obtain⟨kg,fW⟩:=Mf G.w;have e:=Pd (S:=S) (L:=L) (p:=w.pl-1) (l:=l) (y:=y) rfl el kg fW;have pre:∀{r f},aZ S (ya [.ref 0,.int ((w.pl-1:Nat):Int),.int y]) (.v r) f->aZ S (kU [.ref 0,.ref 1,.ref 2,.ref 3,.int y,.int (i:Nat)]) (.v r) f:=λe=>CR (fg (fJ Z.to (b3 (kA H.to rfl) (nh (x_call (rs:=[.v (.ref 0),.v (.int ((w.pl-1:Nat):Int)),.v (.int y)]) (a3 (.of rfl) (a3 (g.wX b9 hi hl dp (n:=3) rfl rfl rfl p1) (a3 (.of rfl) cb))) rfl e)))))
   have Mb:∀l':aJ,i' W l'->∀x∈L.set (w.pl-1) l',i' W x:=λl' h x Q=>by
    rcases aiY Q with Q|rfl
    .exact g.ok x Q
    .exact h
   by_cases pW:y=2
   .rw[if_pos pW,if_pos pW]at e
    exact⟨L.set (w.pl-1) { l with w:=gL l.w ((w.pl-1:Nat):Int) },rows ws,some (("wrong":Str),w.pl-1),pre e,g.wrong b9 el _ λv s=>fZ.mpr ⟨v,s,.inl rfl⟩,Mb _ ⟨KY G.w _,G.d,G.a,G.k⟩,λr F=>g.pL F,by rw[af6];omega,by rw[hs];omega⟩
   .rw[if_neg pW,if_neg pW]at e
    exact⟨L.set (w.pl-1) { l with m:=l.m+1000 },rows ws,some (("unbegun":Str),w.pl-1),pre e,g.YU b9 el,Mb _ ⟨G.w,G.d,G.a,G.k⟩,λr F=>g.pL F,by rw[af6];omega,by rw[hs];omega⟩
 rw[show(decide (y=2)||decide (y=3))=false by rw[decide_eq_false λz=>DV (.inl z),decide_eq_false λz=>DV (.inr z)];rfl]at Z;have Lg:∀{r f},aZ S (Ff q) (.b0 (.v r)) f->aZ S (kU [.ref 0,.ref 1,.ref 2,.ref 3,.int y,.int (i:Nat)]) (.v r) f:=λe=>CR (hR Z.to e)
 have yR:ax S (ib (aO (aa oEq (I 4) (ar 4))) (aO (aa oEq (I 4) (ar 5))) q) (decide (y=4)||decide (y=5)):=xK (.of (t 4)) (.of (t 5))
 by_cases DW:y=4\/y=5
 .rw[show(decide (y=4)||decide (y=5))=true by rcases DW with c|c<;>rw[decide_eq_true c]<;>simp]at yR
  exact(o y).map λe=>Lg (fg (fJ yR.to (nh (x_call (rs:=[.v (.ref 0),.v (.ref 1),.v (.int ((2*i+1:Nat):Int)),.v (.int y)]) (a3 (.of rfl) (a3 (.of rfl) (a3 (.of (yj rfl)) (a3 (.of rfl) cb)))) rfl e))))
 rw[show(decide (y=4)||decide (y=5))=false by rw[decide_eq_false λz=>DW (.inl z),decide_eq_false λz=>DW (.inr z)];rfl]at yR;have CS:∀{r f},aZ S (Fg q) (.b0 (.v r)) f->aZ S (kU [.ref 0,.ref 1,.ref 2,.ref 3,.int y,.int (i:Nat)]) (.v r) f:=λe=>Lg (hR yR.to e)
 by_cases DX:y=6
 .have le:ax S (b5 c8 (bf (bo (I 0))) q) (.v (.int (L.length:Nat))):=kb (rs:=[.mv (L.map aJ.D)]) (by show pure (aY.R.v (.int ((L.map aJ.D).length:Nat)))=_;rw[sg]) (a3 (d9 (i:=0) rfl (.of rfl)) cb)
  have t0:ax S (aO (aa oEq (b5 c8 (bf (bo (I 0)))) (ar 0)) q) (decide (((L.length:Nat):Int)=0)):=gX (dk h4 le (.of rfl))
  by_cases so:L.length=0
  .rw[decide_eq_true (by omega)]at t0
   exact g.Co b9 hi hl dp _ (CS (fg (fJ (ax.to (.of ((t 6).trans (dt DX)))) (fg (gY t0 (.of rfl)).to))))
  .rw[decide_eq_false (by omega)]at t0
   obtain⟨l,el⟩:∃l,L[L.length-1]? = some l:=⟨L[L.length-1]'(by omega),afi _⟩
   let B:=cB (L.take (L.length-1)) (rows ws) K P N zt
   let dW:Slot:=.val (.int (L.length:Nat))
   have pp:aZ S (dE rb (I 0) d7 (E dW .emp)) (.a6 (E dW .emp)) B:=by
    have:=abX (S:=S) (U:=E dW .emp) (i:=0) (mo:=I 0) (xs:=L.map aJ.D) (d:=l.D) (.of rfl) rfl (by rw[sg,afh,el];rfl);rw[show(L.map aJ.D).dropLast=(L.take (L.length-1)).map aJ.D by rw[<-ahn,List.map_dropLast]]at this;exact this
   let v:bH×Nat->Option D:=λx=>if(x.1.a7=1\/x.1.a7=2)/\x.1.pl=L.length then some (.t [.str "lost",.int ((2*x.2+1:Nat):Int)])else none
   obtain⟨k1,k2⟩:=uT (S:=B) (b:=λd U=>xR (U.set 7 (.val d))) (λx:bH×Nat=>.int (x.2:Nat)) v (λU=>∃J,U=E dW J) (ws.zipIdx 0) (E dW .emp) ⟨_,rfl⟩ (λx Q U uN=>by
    obtain⟨J,rfl⟩:=uN;obtain⟨u,j⟩:=x;obtain⟨C,M⟩:=agE.mp Q;rw[ahJ]at M;have h8:=g.kinds (km M)
    let V:Slot:=.val (.int (j:Nat))
    have jm:ax B (aa bu (bo (I 2)) (I 7) (E dW V)) (.v (c7 u)):=dk (jN j (by rw[afh,M];rfl)) (d9 (i:=2) rfl (.of rfl)) (.of rfl);have pl:ax B (aa bu (bo (I 3)) (I 7) (E dW V)) (.v (dD u)):=dk (jN j (by rw[afh,M];rfl)) (d9 (i:=3) rfl (.of rfl)) (.of rfl);have te:ax B (fA (aO (aa (kZ false) (aa bu (bo (I 2)) (I 7)) (e1 (a8 (aH (.str "deed")) (aH (.str "long")))))) (aO (aa oEq (aa bu (bo (I 3)) (I 7)) (I 6))) (E dW V)) (decide (u.a7=1\/u.a7=2)&&decide (((u.pl:Nat):Int)=((L.length:Nat):Int))):=
     Jy (gX (dk (JL h8) jm (qM (rs:=[.v (.str "deed"),.v (.str "long")]) (a3 (.of rfl) (a3 (.of rfl) cb)) rfl (aff rfl)))) (gX (dk (x:=.v (dD u)) (y:=.v (.int (L.length:Nat))) h4 pl (.of rfl)))
    show(∀d,v (u,j)=some d->ax B (xR (E dW V)) _)/\(v (u,j)=none->∃U',ax B (xR (E dW V)) (.a6 U')/\_)
    by_cases c:(u.a7=1\/u.a7=2)/\u.pl=L.length
    .rw[decide_eq_true c.1,decide_eq_true (by omega)]at te
     rw[show v (u,j)=some (.t [.str "lost",.int ((2*j+1:Nat):Int)])from if_pos c];refine⟨λd h=>?_,λh=>(by cases h)⟩;cases h;exact gY te (.of (dw (dS rfl (yj rfl))))
    .have:(decide (u.a7=1\/u.a7=2)&&decide (((u.pl:Nat):Int)=((L.length:Nat):Int)))=false:=by
      by_cases a:u.a7=1\/u.a7=2
      .rw[decide_eq_false (p:=((u.pl:Nat):Int)=((L.length:Nat):Int)) (λb=>c ⟨a,by omega⟩),agY]
      .rw[decide_eq_false a];rfl
     rw[this]at te;rw[show v (u,j)=none from if_neg c];exact⟨λd h=>(by cases h),λ_=>⟨_,h6 te (.of rfl),_,rfl⟩⟩)
   have it:ax B (iB (bf (b5 c8 (bf (bo (I 2))))) (E dW .emp)) ((ws.zipIdx 0).map λx=>.int (x.2:Nat)):=by
    have:=BE (S:=B) (U:=E dW .emp) (hi:=ws.length) (ms:=bW (b5 c8 (bf (bo (I 2)))) d7) (a3 (kb (rs:=[.mv K]) (by show pure (aY.R.v (.int ((ws.map c7).length:Nat)))=_;rw[sg]) (a3 (d9 (i:=2) rfl (.of rfl)) cb)) cb) (by omega);rw[show(0:Int)=((0:Nat):Int)from rfl,Dd]at this;exact this
   cases e:(ws.zipIdx 0).findSome? v with
   |none=>
    exfalso;obtain⟨j,u,M,ae,T,_⟩:=g.A (L.length-1) l el;have:=AX e j u M;have Y:(u.a7=1\/u.a7=2)/\u.pl=L.length:=⟨T,by omega⟩;rw[show v (u,0+j)=_ from if_pos Y]at this;cases this
   |some d=>
    obtain⟨j,u,M,s,_⟩:=AW e;have Y:(u.a7=1\/u.a7=2)/\u.pl=L.length:=by
     by_cases c:(u.a7=1\/u.a7=2)/\u.pl=L.length
     .exact c
     .rw[show v (u,0+j)=_ from if_neg c]at s;cases s
    rw[show v (u,0+j)=_ from if_pos Y,agy]at s;cases s;refine⟨L.take (L.length-1),rows ws,some (("lost":Str),2*j+1),CS (fg (fJ (ax.to (.of ((t 6).trans (dt DX)))) (b3 (h6 t0 (.of rfl)).to (b3 (U':=E dW .emp) (eM le).to (b3 pp (ax.to (ax.bind it (k1 _ e)))))))),g.popped b9 M Y.1 Y.2,λx Q=>g.ok x (agF Q),λr F=>g.pL F,by rw[afO];omega,by rw[hs];omega⟩
 have Lh:∀{r f},aZ S (Fh q) (.b0 (.v r)) f->aZ S (kU [.ref 0,.ref 1,.ref 2,.ref 3,.int y,.int (i:Nat)]) (.v r) f:=λe=>CS (hR (ax.to (.of ((t 6).trans (d0 DX)))) e)
 by_cases rq:y=7
 .exact⟨L,rows (moved ws i w),rO ws i w,Lh (fg (fJ (ax.to (.of ((t 7).trans (dt rq)))) (nh (ey ord)))),g.Xd b9 hi,g.ok,λr F=>by
   obtain⟨v,s,e⟩:=fZ.mp F;exact g.pL (fZ.mpr ⟨v,(Cd v).mp s,e⟩),by omega,by rw[hs,J6];omega⟩
 .exact g.Co b9 hi hl dp _ (Lh (hR (ax.to (.of ((t 7).trans (d0 rq)))) (ax.to (.of rfl))))
end
def Ge(ns:List Int)(k:Nat):lO [.l (ns.map D.int),.int (k:Nat)]=pure (.v (.int (ns.getD k 0))):=by
 have le:∀b:Bool,decide (k<ns.length)=b->aO (aa oLt (I 1) (b5 c8 (bf (I 0)))) [.bF (ns.map D.int),.val (.int (k:Nat))]=pure b:=λb e=>bR (aD (y:=.v (.int (ns.length:Nat))) (ltI.trans (by rw[show decide (((k:Nat):Int)<((ns.length:Nat):Int))=decide (k<ns.length)from decide_eq_decide.mpr (by omega),e])) rfl ((gp (BO _) (cons_of rfl rfl)).trans (by rw[sg])))
 refine ew rfl ?_
 by_cases h:k<ns.length
 .exact st (le true (decide_eq_true h)) (dw (aD (uS k (by rw[afh,afi h,agj,afi h];rfl)) rfl rfl))
 .exact c_ (le false (decide_eq_false h)) (dw (by rw[agj,ahr (by omega)];rfl))
def Ew(n:Nat):hJ (n+1) [.aF,.aF]=pure (.v (.aM true)):=rfl
def zE(n:Nat)(i:Int):hJ (n+1) [.int i,.int i]=pure (.v (.aM true)):=ew rfl (c_ rfl (c_ rfl (st rfl (dw ((and_1 rfl).trans ((and_1 rfl).trans ((aD h4 rfl rfl).trans (by rw[decide_eq_true rfl]))))))))
def N1(n:Nat){x:Str}(h:afT x=true):hJ (n+1) [.str x,.str x]=pure (.v (.aM true)):=ew rfl (c_ rfl (c_ rfl (c_ rfl (st rfl (dw ((and_1 rfl).trans (aD (eq_str h) rfl rfl)))))))
def Ex{n:Nat}{x y:D}(a:hJ n [x,x]=pure (.v (.aM true)))(b:hJ n [y,y]=pure (.v (.aM true))):hJ (n+1) [.t [x,y],.t [x,y]]=pure (.v (.aM true)):=by
 have one:∀(k:Nat)(z:D)(q:Slot),[x,y][k]? = some z->hJ n [z,z]=pure (.v (.aM true))->uX (hJ n) [.val (.t [x,y]),.val (.t [x,y]),.val (.int (k:Nat))]=pure (.a6 [.val (.t [x,y]),.val (.t [x,y]),.val (.int (k:Nat))]):=λk z q e h=>
  (hF (KC (bR (call_of (cons_of (aD (qK k e) rfl rfl) (cons_of (aD (qK k e) rfl rfl) rfl)) h)))).trans rfl
 have c:hk (λd U=>uX (hJ n) (U.set 2 (.val d))) [.int ((0:Nat):Int),.int ((1:Nat):Int)] [.val (.t [x,y]),.val (.t [x,y]),.emp]=pure (.a6 [.val (.t [x,y]),.val (.t [x,y]),.val (.int ((1:Nat):Int))]):=by
  show(uX (hJ n) [.val (.t [x,y]),.val (.t [x,y]),.val (.int ((0:Nat):Int))] >>= _)=_;rw[one 0 x .emp rfl a];show(uX (hJ n) [.val (.t [x,y]),.val (.t [x,y]),.val (.int ((1:Nat):Int))] >>= _)=_;rw[one 1 y .emp rfl b];rfl
 have it:iB (bf (b5 c8 (bf (I 1)))) [.val (.t [x,y]),.val (.t [x,y]),.emp]=pure (gO 0 2):=oi λS=>BE (hi:=2) (a3 (kb (rs:=[.v (.t [x,y])]) rfl (a3 (.of rfl) cb)) cb) (by decide)
 exact ew rfl (c_ rfl (c_ rfl (c_ rfl (c_ rfl (c_ rfl (c_ rfl (c_ rfl (cN (H5 (ds:=gO 0 2) it c) rfl))))))))
def N0(s:Int×Int):hJ 4 [cK s,cK s]=pure (.v (.aM true)):=Ex (zE 2 _) (zE 2 _)
def Q4{L:List aJ}{x:hY}{s:Str}(h:j6 L x=some s):afT s=true:=by
 unfold j6 at h
 cases e:eZ L x with
 |none=>rw[e]at h;cases h;decide +kernel
 |some p=>
  rw[e]at h;dsimp only at h
  by_cases c:cP (if x.s=some (0,0)then(hI (L.take (p+1).toNat)).gg else hI (L.take (p+1).toNat)).D x.w.D=true
  .rw[if_pos c]at h;cases h
  .rw[if_neg c]at h;cases h;decide +kernel
def Q2{L:List aJ}{a m:Int}{o:dQ}{s:Str}(h:fD L a m o=some s):afT s=true:=by
 unfold fD at h;split at h
 .exact Q4 h
 .split at h
  .cases h
  .cases h;decide +kernel
 .split at h
  .split at h
   .cases h
   .cases h;decide +kernel
  .cases h;decide +kernel
def N'{L:List aJ}{R:List aV}{x:Str×Nat}(h:gn L R=some x):afT x.1=true:=by
 unfold gn at h
 cases cX:ji R L with
 |some y=>
  rw[cX]at h;cases h;obtain⟨z,_,hz⟩:=af9 cX;unfold l4 at hz;split at hz
  .cases hz;exact(by decide +kernel:afT ("unbegun":Str)=true)
  .split at hz
   .cases hz
   .cases hz;exact(by decide +kernel:afT ("wrong":Str)=true)
 |none=>
 rw[cX]at h;dsimp only at h
 cases aa:kK L R with
 |some y=>
  rw[aa]at h;cases h;obtain⟨z,_,hz⟩:=af9 aa;unfold vX at hz;split at hz
  .obtain⟨s,aC,rfl⟩:=afF.mp hz
   exact Q2 aC
  .cases hz
 |none=>
 rw[aa]at h;dsimp only at h;obtain⟨z,_,hz⟩:=af9 h;unfold m' at hz;split at hz
 .split at hz
  .split at hz
   .cases hz;exact(by decide +kernel:afT ("late":Str)=true)
   .cases hz
  .cases hz
 .cases hz
def NZ{L:List aJ}{R:List aV}{v:Option (Str×Nat)}(h:gn L R=v):hJ 4 [eL v,eL v]=pure (.v (.aM true)):=by
 cases v with
 |none=>exact Ew 3|some x=>exact Ex (N1 2 (N' h)) (zE 2 _)
def nU{xs:List D}{n:Nat}(h:∀x∈xs,x.bt n=true):(D.t xs).bt (n+1)=true/\(D.l xs).bt (n+1)=true:=⟨pe.mpr h,pe.mpr h⟩
def UZ{W:List (List Nat)}(a:W.length<=1000){l:aJ}(h:i' W l):l.D.bt 62=true:=(nU (n:=61) (by
 simp only[afx];exact⟨rfl,rfl,rfl,rfl,(hM h.k.2 (by decide)).1,(hM (Dq h.w a) (by decide)).1,λ_ h=>nomatch h⟩)).1
def Y7{W:List (List Nat)}(b:W.length<=1000){r:aV}(h:jY W r):r.D.bt 62=true:=by
 cases r with
 | cm a m d t=>exact(nU (n:=61) (by
   simp only[afx];exact⟨by decide +kernel,rfl,rfl,(hM h.2 (by decide)).1,rfl,λ_ h=>nomatch h⟩)).1
 |fin a m o t=>
  have c:o.D.bt 61=true:=by
   cases o with
   |over=>decide +kernel| did z=>exact(nU (n:=60) (by
     simp only[afx];exact⟨by decide +kernel,h.1,λ_ h=>nomatch h⟩)).1
   |saw x=>
    have wk:x.D.bt 60=true:=(nU (n:=59) (by
     simp only[afx];exact⟨rfl,by show(tg x.s).bt 59=true;cases x.s<;>rfl,(hM (Dq h b) (by decide)).1,λ_ h=>nomatch h⟩)).1
    exact(nU (n:=60) (by
     simp only[afx];exact⟨by decide +kernel,wk,λ_ h=>nomatch h⟩)).1
  exact(nU (n:=61) (by
   simp only[afx];exact⟨by decide +kernel,rfl,rfl,c,rfl,λ_ h=>nomatch h⟩)).1
section
variable{S S1 bj:b1}{U:aN}
def abW{ms:h1}{rs:List R}{ds:List D}(h:aZ S (ms U) rs S1)(e:jg rs=pure ds)(z:ds.length<=1000):aZ S (we ms U) (.fr ds) S1:=h.bind ((ax.of e).to.bind (by rw[if_pos z];rfl))
def Nb{m:dG}{ms:h1}{x:R}{xs:List R}(h:aZ S (m U) x S1)(a:aZ S1 (ms U) xs bj)(aC:x.jR=true):aZ S (l5 m ms U) (x::xs) bj:=h.bind (a.bind (by rw[if_pos aC];rfl))
def abS{m:dG}{ms:cJ}{x:R}{xs:List R}(h:aZ S (m U) x S1)(e:ax S1 (ms U) xs):aZ S (y8 m ms U) (x::xs) S1:=h.bind (e.to.bind rfl)
def ab2{is:List Nat}{m:dG}{ds:List D}(h:aZ S (m U) (.v (.t ds)) S1)(e:ds.length=is.length):aZ S (wh is m U) (.a6 (iI is ds U)) S1:=h.bind (by
 show aZ S1 (if ds.length=is.length then _ else _) _ _;rw[if_pos e];rfl)
def abR{a b:dG}{r:R}(h:aZ S (a U) (.v (.aM true)) S1)(c:aZ S1 (b U) r bj):aZ S (y7 a b U) r bj:=h.bind c
def x_pure{mf:bV}{ms:h1}{rs:List R}{r:R}(h:aZ S (ms U) rs S1)(e:mf (rs.map R.arg)=pure r):aZ S (y' mf ms U) r S1:=h.bind (ax.of e).to
def abQ{f:R->R->M R}{a b:dG}{x y r:R}(h:aZ S (a U) x S1)(c:aZ S1 (b U) y bj)(aC:x.jR=true)(e:f x y=pure r):aZ S (la f a b U) r bj:=h.bind (c.bind (by rw[if_pos aC];exact(ax.of e).to))
def abZ{m:dG}{b:Bool}(h:aZ S (m U) (.v (.aM b)) S1):aZ S (wo m U) b S1:=h.bind rfl
def JB{n:Nat}{xs:List D}(h:S[n]? = some (.l xs)):ax S (uk (.ref n)) (.l xs):=(kc h).bind (.of rfl)
def Ug{n a b:Nat}{xs ys:List D}(h:S[n]? = some (.l [.ref a,.ref b]))(g:S[a]? = some (.l xs))(f:S[b]? = some (.l ys)){c d:Nat}(k:S[c]? = some (.l xs))(hd:S[d]? = some (.l ys))(i:∀x∈xs,x.bt 62=true)(j:∀x∈ys,x.bt 62=true) :
  ax S (vo (.v (.ref n)) (.fr [.ref c,.ref d])) (.v (.aM true)):=by
 have bt:(D.l [.l xs,.l ys]).bt 64=true:=(nU (n:=63) (by
  simp only[afx];exact⟨(nU i).2,(nU j).2,λ_ h=>nomatch h⟩)).2
 have e:∀{a b:Nat},S[a]? = some (.l xs)->S[b]? = some (.l ys)->ax S (qk [.ref a,.ref b]) [.l xs,.l ys]:=λ{a b} g f=>by
  have m:ax S (qk []) []:=.of rfl;have p:ax S (qk [.ref b]) [.l ys]:=(JB f).bind (m.bind (.of rfl));exact(JB g).bind (p.bind (.of rfl))
 have ao:ax S (o9 (.v (.ref n))) (.l [.l xs,.l ys]):=(kc h).bind ((e g f).bind (.of rfl));have aG:ax S (o9 (.fr [.ref c,.ref d])) (.l [.l xs,.l ys]):=(e k hd).bind (.of rfl);exact ao.bind (aG.bind (by
  rw[if_pos ⟨bt,bt⟩,pJ bt];exact .of rfl))
end
def j1(w:bH):D:=if w.a7=2 then cK (w.a,w.m)else .aF
def Good.Qk{W:List (List Nat)}{L:List aJ}{f:List bH}(g:Good W L f){w:bH}(hw:w∈f)(h:w.a7=1\/w.a7=2):w.pl-1<L.length/\(match fS L (w.pl-1)with|some s=>cK s|none=>.aF)=j1 w:=by
 cases g.T w hw with
 |deed k d l hd b=>
  obtain⟨p1,e,a1,a2,ed⟩:=b;refine⟨(fk.mp e).1,?_⟩;have c:=g.C _ l e;rw[ed,hd]at c;have c:fS L (w.pl-1)=some (l.a,l.m):=c;rw[c,a1,a2];exact(if_pos k).symm
 |long k l hd b=>
  obtain⟨p1,e,a1,a2,ed⟩:=b;refine⟨(fk.mp e).1,?_⟩;have c:=g.C _ l e;rw[ed,hd]at c;have c:fS L (w.pl-1)=none:=c;rw[c];exact(if_neg (by omega)).symm
 |short k=>omega|last k=>omega|over k=>omega
def NY(w:bH):hJ 4 [j1 w,j1 w]=pure (.v (.aM true)):=by
 unfold j1;split
 .exact N0 _
 .exact Ew 3
def UY(ns:List Int)(az:ns.length<=63):∃o,(x_ [.l (ns.map D.int)]).run []=.ok (.v (.aM true)) o:=by
 have wZ:lO [.l (ns.map D.int),.int 0]=pure (.v (.int (ns.getD 0 0))):=Ge ns 0;have cX:lO [.l (ns.map D.int),.int 1]=pure (.v (.int (ns.getD 1 0))):=Ge ns 1;obtain⟨a,b,d,uq,na,nb,c2⟩:=UU (ns.getD 1 0 % 10 ^ 20);obtain⟨L,f,N,g,Z,dp,ao⟩:=PC na nb c2 ns;have T:[a,b,d].length<=1000:=aff rfl;generalize ns.getD 0 0=x0 at wZ
 let X:=ns.map D.int
 let W:List (List Nat):=[a,b,d]
 let K:=f.map c7
 let P:=f.map dD
 let s:=cB L (rows f) K P N []
 let E (F p G:Slot):aN:=[.bF X,.val (.l (fj a b d)),.val (.ref 0),.val (.ref 1),.val (.ref 2),.val (.ref 3),F,p,G]
 have XH:∀U:aN,aa ia (ar 10) (ar 20) U=pure (.v (.int (10 ^ 20))):=λU=>aD (vx (by decide) (by decide)) rfl rfl
 have s1:aZ [] (bZ (bQ 1 (b2 va (bf (aa oMod (b2 lO (a8 (I 0) (ar 1))) (aa ia (ar 10) (ar 20)))))) [.bF X,.emp,.emp,.emp,.emp,.emp,.emp,.emp,.emp]) (.a6 [.bF X,.val (.l (fj a b d)),.emp,.emp,.emp,.emp,.emp,.emp,.emp]) []:=
  (ax.of (yJ (r:=.fr (fj a b d)) (call_of (cons_of (aD (kW (by decide)) (call_of (cons_of rfl (cons_of rfl rfl)) cX) (XH _)) rfl) uq) rfl)).to
 have s2:aZ [] (wh [2,3,4,5] (rm u9 (ug 0 (iO (I 1) uf))) [.bF X,.val (.l (fj a b d)),.emp,.emp,.emp,.emp,.emp,.emp,.emp]) (.a6 (E .emp .emp .emp)) s:=
  ab2 (DQ (ds:=[.l X,.l (fj a b d)]) (.of rfl) ao) rfl
 obtain⟨_,k2⟩:=uT (S:=s) (b:=λd U=>xQ (U.set 6 (.val d))) (λx:bH×Nat=>.int (x.2:Nat)) (λ_=>none) (λU=>∃F p,U=E F p .emp) (f.zipIdx 0) (E .emp .emp .emp) ⟨_,_,rfl⟩ (λx V U uN=>by
  obtain⟨F,p,rfl⟩:=uN;obtain⟨u,j⟩:=x;obtain⟨aU,Y⟩:=agE.mp V;rw[ahJ]at Y;have h9:=km Y;have h8:=g.kinds h9
  let dW:Slot:=.val (.int (j:Nat))
  refine⟨λd h=>(by cases h),λ_=>?_⟩;show ∃U',ax s (xQ (E dW p .emp)) (.a6 U')/\_;have jm:∀q,ax s (aa bu (bo (I 4)) (I 6) (E dW q .emp)) (.v (c7 u)):=λq=>g.jd T Y Z dp (n:=2) rfl rfl rfl
  have row:∀(q:Slot)(n:Int)(z:D),bu (.v u.cm.D) (.v (.int n))=pure (.v z)->ax s (aa bu (aa bu (bo (I 3)) (aa d3 (ar 2) (I 6))) (aH (.int n)) (E dW q .emp)) (.v z):=λq n z h=>dk h (dk (r:=.v u.cm.D) (jN (2*j) (tZ Y)) (d9 (i:=1) rfl (.of rfl)) (.of (n_ rfl))) (.of rfl)
  have oB:ax s (aO (aa oEq (aa bu (bo (I 4)) (I 6)) (aH (.str "deed"))) (E dW (.val .aF) .emp)) (decide (u.a7=2)):=gX (dk (sl h8 2 (by decide)).1 (jm _) (.of rfl));have s7:ax s (bX (aO (aa oEq (aa bu (bo (I 4)) (I 6)) (aH (.str "deed")))) (bQ 7 (a0 (a8 (c1 (aa bu (bo (I 3)) (aa d3 (ar 2) (I 6))) 1) (c1 (aa bu (bo (I 3)) (aa d3 (ar 2) (I 6))) 2)))) bN (E dW (.val .aF) .emp)) (.a6 (E dW (.val (j1 u)) .emp)):=by
   unfold j1
   by_cases c:u.a7=2
   .rw[decide_eq_true c]at oB
    rw[if_pos c];exact gY oB (eM (h7 (rs:=[.v (.int u.a),.v (.int u.m)]) (a3 (row _ 1 _ rfl) (a3 (row _ 2 _ rfl) cb)) rfl (aff rfl)))
   .rw[decide_eq_false c]at oB
    rw[if_neg c];exact h6 oB (.of rfl)
  have J:ax s (aO (aa (kZ false) (aa bu (bo (I 4)) (I 6)) (e1 (a8 (aH (.str "deed")) (aH (.str "long"))))) (E dW (.val (j1 u)) .emp)) (decide (u.a7=1\/u.a7=2)):=gX (dk (JL h8) (jm _) (qM (rs:=[.v (.str "deed"),.v (.str "long")]) (a3 (.of rfl) (a3 (.of rfl) cb)) rfl (aff rfl)));have ca:I 7 (E dW (.val (j1 u)) .emp)=pure (.v (j1 u)):=by
   unfold j1;split<;>rfl
  refine⟨_,fG (eM (.of rfl)) (fG s7 (h6 (?_:ax s (fA _ _ _) false) (.of rfl))),_,_,rfl⟩
  by_cases c:u.a7=1\/u.a7=2
  .rw[decide_eq_true c]at J
   obtain⟨p1,_⟩:=g.pos h9 c;obtain⟨gM,Qs⟩:=g.Qk h9 c;have rN:sD [.l (L.map aJ.D),.int ((u.pl-1:Nat):Int)]=pure (.v (j1 u)):=(HG g.ok gM).trans (congrArg (λz=>(pure (aY.R.v z):M aY.R)) Qs);exact pk J (Uj (gX (jl (rs:=[.v (j1 u),.v (j1 u)]) (a3 (jl (rs:=[.mv (L.map aJ.D),.v (.int ((u.pl-1:Nat):Int))]) (a3 (d9 (i:=0) rfl (.of rfl)) (a3 (g.wX T Y Z dp (n:=3) rfl rfl rfl p1) cb)) (.of rN)) (a3 (.of ca) cb)) (.of (NY u)))))
  .rw[decide_eq_false c]at J
   exact se J)
 obtain⟨lg,cI,F,p,rfl⟩:=k2 (agk.mpr λ_ _=>rfl);have ln:∀(S:b1)(F p G:Slot),S[2]? = some (.l K)->ax S (b5 c8 (bf (bo (I 4))) (E F p G)) (.v (.int (f.length:Nat))):=λS F p G h=>kb (rs:=[.mv K]) (by show pure (aY.R.v (.int ((f.map c7).length:Nat)))=_;rw[sg]) (a3 (d9 h (.of rfl)) cb)
 have it:ax s (iB (bf (b5 c8 (bf (bo (I 4))))) (E .emp .emp .emp)) ((f.zipIdx 0).map λx=>.int (x.2:Nat)):=by
  have:=BE (S:=s) (U:=E .emp .emp .emp) (hi:=f.length) (ms:=bW (b5 c8 (bf (bo (I 4)))) d7) (a3 (ln _ _ _ _ rfl) cb) (by omega);rw[show(0:Int)=((0:Nat):Int)from rfl,Dd]at this;exact this
 have s3:aZ s (bZ (jf 6 (iB (bf (b5 c8 (bf (bo (I 4)))))) xQ) (E .emp .emp .emp)) (.a6 (E F p .emp)) s:=ax.to (ax.bind it cI);obtain⟨t,dh⟩:=EG (S:=s) (W:=W) (L:=L) (R:=rows f) (l:=0) (h:=1) (show(3:Nat)<59 by decide) rfl rfl g.ok (λr aA=>g.pL aA) (by omega) (by rw[hs];omega);rw[g.zR T]at dh
 let S1:=cB L (rows f) K P N t
 have dh:aZ s (pz [.ref 0,.ref 1]) (.v .aF) S1:=dh;have ox:aZ s (wo (la gK (eB pz (eH (a8 (I 2) (I 3)))) (eI (aH .aF))) (E F p .emp)) false S1:=abZ (abQ (x:=.v .aF) (y:=.v .aF) (x_call (rs:=[.v (.ref 0),.v (.ref 1)]) (a3 (.of rfl) (a3 (.of rfl) cb)) rfl dh) rfl rfl rfl);have pre:∀{o},aZ S1 (E9 (E F p .emp)) (.b0 (.v (.aM true))) o->aZ [] (x_ [.l X]) (.v (.aM true)) o:=λe=>iK rfl (b3 s1 (b3 s2 (b3 s3 (hR ox e))))
 have t0:ax S1 (aO (aa oEq (b5 c8 (bf (bo (I 4)))) (ar 0)) (E F p .emp)) (decide (((f.length:Nat):Int)=0)):=gX (dk h4 (ln _ _ _ _ rfl) (.of rfl))
 by_cases nc:f.length=0
 .rw[decide_eq_true (by omega)]at t0
  exact⟨_,pre (fg (gY t0 (.of rfl)).to)⟩
 rw[decide_eq_false (by omega)]at t0;have o2:∀F p G,b2 lO (a8 (I 0) (ar 0)) (E F p G)=pure (.v (.int x0)):=λ_ _ _=>call_of (cons_of rfl (cons_of rfl rfl)) wZ
 obtain⟨i,o_,TM⟩:∃i:Nat,x0 / 10 % ((f.length:Nat):Int)=(i:Nat)/\i<f.length:=⟨(x0 / 10 % ((f.length:Nat):Int)).toNat,by have:=mod_lt (a:=x0 / 10) (b:=((f.length:Nat):Int)) (by omega);omega,by have:=mod_lt (a:=x0 / 10) (b:=((f.length:Nat):Int)) (by omega);omega⟩
 let dW:Slot:=.val (.int (i:Nat))
 have s6:aZ S1 (bZ (bQ 6 (aa oMod (aa er (b2 lO (a8 (I 0) (ar 0))) (ar 10)) (b5 c8 (bf (bo (I 4)))))) (E F p .emp)) (.a6 (E dW p .emp)) S1:=
  (eM (d:=.int (i:Nat)) (dk (x:=.v (.int (x0 / 10))) (y:=.v (.int (f.length:Nat))) (by rw[<-o_];exact kW (by omega)) (.of (aD (divC (by decide) (by decide)) (o2 _ _ _) rfl)) (ln _ _ _ _ rfl))).to
 obtain⟨w,hw⟩:∃w,f[i]? = some w:=⟨f[i],afi TM⟩;obtain⟨O,Q,v,mH,rI,Cw,vu,aeJ,aeK⟩:=Pc g T hw Z dp (N:=N) (zt:=t) (x0 % 10)
 let H:=cB O Q K P N t
 have s7:aZ S1 (gB 7 (eB kU (eH (bW (I 2) (bW (I 3) (bW (I 4) (bG (I 5) (aa oMod (b2 lO (a8 (I 0) (ar 0))) (ar 10)) (I 6))))))) (E dW p .emp)) (.a6 (E dW (.val (eL v)) .emp)) H:=
  i8 (r:=.v (eL v)) (x_call (rs:=[.v (.ref 0),.v (.ref 1),.v (.ref 2),.v (.ref 3),.v (.int (x0 % 10)),.v (.int (i:Nat))]) (a3 (.of rfl) (a3 (.of rfl) (a3 (.of rfl) (a3 (.of rfl) (a3 (.of (aD (kW (by decide)) (o2 _ _ _) rfl)) (a3 (.of rfl) cb)))))) rfl mH) rfl
 have aaE:I 7=I 7:=rfl;have PD:∀G,I 7 (E dW (.val (eL v)) G)=pure (.v (eL v)):=λG=>by cases v<;>rfl
 let n:=H.length
 let A:b1:=H++[.l (O.map aJ.D)]
 let B:b1:=A++[.l (Q.map aV.D)]
 let C:b1:=B++[.l [.ref n,.ref (n+1)]]
 have uW:A.length=n+1:=by show(H++[_]).length=_;rw[afb];rfl
 have xN:B.length=n+2:=by show(A++[_]).length=_;rw[afb,uW];rfl
 have kg:aZ H (ih (eI (b5 mL (bf (bo (I 2))))) (E dW (.val (eL v)) .emp)) (.v (.ref n)) A:=zd (ax.to (kb (rs:=[.mv (O.map aJ.D)]) rfl (a3 (d9 (i:=0) rfl (.of rfl)) cb)));have fW:aZ A (ih (eI (b5 mL (bf (bo (I 3))))) (E dW (.val (eL v)) .emp)) (.v (.ref (n+1))) B:=by
  rw[<-uW];exact zd (ax.to (kb (rs:=[.mv (Q.map aV.D)]) rfl (a3 (d9 (i:=1) rfl (.of rfl)) cb)))
 have s8:aZ H (gB 8 (ih (we (l5 (ih (eI (b5 mL (bf (bo (I 2)))))) (l5 (ih (eI (b5 mL (bf (bo (I 3)))))) wg)))) (E dW (.val (eL v)) .emp)) (.a6 (E dW (.val (eL v)) (.val (.ref (n+2))))) C:=by
  rw[<-xN];exact i8 (r:=.v (.ref B.length)) (zd (abW (Nb kg (Nb fW rfl rfl) rfl) rfl (aff rfl))) rfl
 have Rt:A[n]? = some (.l (O.map aJ.D)):=nV;have Ru:B[n+1]? = some (.l (Q.map aV.D)):=by rw[<-uW];exact nV
 have Ib:C[n+2]? = some (.l [.ref n,.ref (n+1)]):=by rw[<-xN];exact nV
 have ae:C[n]? = some (.l (O.map aJ.D)):=eV (eV Rt);have af:C[n+1]? = some (.l (Q.map aV.D)):=eV Ru;obtain⟨u,iQ⟩:=EG (S:=C) (W:=W) (L:=O) (R:=Q) (l:=n) (h:=n+1) (show(3:Nat)<59 by decide) ae af Cw vu (by omega) (by omega);rw[rI]at iQ;have hd:∀(k:Nat)(x:D),[D.ref n,D.ref (n+1)][k]? = some x->ax C (aa bu (bo (I 8)) (aH (.int (k:Nat))) (E dW (.val (eL v)) (.val (.ref (n+2))))) (.v x):=λk x e=>dk (jN k e) (d9 Ib (.of rfl)) (.of rfl)
 have s9:aZ C (E_ (E dW (.val (eL v)) (.val (.ref (n+2))))) (.b0 (.v (.aM true))) (C++u):=by
  have f1:aZ C (eB pz (eH (a8 (c1 (bo (I 8)) 0) (c1 (bo (I 8)) 1))) (E dW (.val (eL v)) (.val (.ref (n+2))))) (.v (eL v)) (C++u):=x_call (rs:=[.v (.ref n),.v (.ref (n+1))]) (a3 (hd 0 _ rfl) (a3 (hd 1 _ rfl) cb)) rfl iQ;have f2:ax (C++u) (aa vo (I 8) (e1 (a8 (I 2) (I 3))) (E dW (.val (eL v)) (.val (.ref (n+2))))) (.v (.aM true)):=
   ax.bind (.of rfl) (ax.bind (qM (rs:=[.v (.ref 0),.v (.ref 1)]) (a3 (.of rfl) (a3 (.of rfl) cb)) rfl (aff rfl)) (Ug (eV Ib) (eV ae) (eV af) (eV (eV (eV (eV (rfl:H[0]? = some (.l (O.map aJ.D))))))) (eV (eV (eV (eV (rfl:H[1]? = some (.l (Q.map aV.D)))))))
    (λx V=>by obtain⟨l,Z,rfl⟩:=agz.mp V;exact UZ T (Cw l Z)) (λx V=>by obtain⟨r,aA,rfl⟩:=agz.mp V;exact Y7 T (vu r aA))))
  exact nh (abR (x_pure (rs:=[.v (eL v),.v (eL v)]) (abS f1 (a3 (.of (PD _)) cb)) (NZ rI)) f2.to)
 exact⟨_,pre (b3 (h6 t0 (.of rfl)).to (b3 s6 (b3 s7 (b3 s8 s9))))⟩
end i_
structure PySem.W.Fast:Prop where(te13448432611640810671 te2761153711489824040 te5269555279830035788 te11696143291542594752 te13788692342088396975 te7480248298575525925 te16323363205831301755 te6283491579046469002 te7220072008582354018 te16236445362310959947 te5300972379928623068 te17448421350858376078 te12274603498247478436 te9482960077979275709 te6562668861961411141 te7717268758316575585 te570904342477838678 te10418359356618567336 te13422825829412306937 te8363931532770930262 te18430748023751891520 te1695396781843824225 te1984718154182089981 te6985452046077498635 te8092505726569606228 te15242746465071906652 te11883583985397451659 te9127052235883758569 te2153442756746753189 te12480591088012640113 te3252607855364279102 te263844660750139636 te5092012858026748939 te17626900326582178884 te5553002581659294429 te7410612769111915407 te18029889117657048915 te253106136388736876 te7963384644300698776 te2932856666473930991 te12512163306217336757 te14454349931117626717 te16668137941760406469 te16927371525573637403 te11865686467340033227 te2175487964123539082 te903384584204139366 te2637649764086252061 te10486600329596397310 te8900963461200252952 te612938818210113437 te274170993005656550 te12689810708452036122 te15992699525757383040 te6486890164854829679 te12084889618537661592 te8868214890714657056 te11268024286947232656 te10632308393033081773 te15762412700035021200 te18432806106969305557 te5286603192608677893 te3076079795242108534 te9531202802072957893 te12973068725548869792 te557975909894357942 te8228633746153817154 te7607284685181343597 te2472141159214037459 te5731002839794681754 te9335970104352509182 te352018542482135779 te7433265844342485239 te3714621528449827480 te17233101141455434417 te3595064319493444186 te15802614982561861182 te16943259334957831825 te6361459066771202578 te8892903757872368465 te18205120453746360692 te7248077459623055078 te8060558598797744339 te6383840903772375240 te14758800622809723479 te13684728235649796835 te15448392000605878641 te14311126449735201125 te7519990057537505905 te454748943277352135 te10348361848683418502 te3608367089903149555 te17327553554017746933 te974982389405668808 te4060116731776236857 te14011496781634366330 te5037401630839359379 te16028008374579019885 te7424490255439613627 te17507085356507195509 te1435928924870853852 te17793550939687364210 te5043381201029578577 te17736407316250653624 te14361934856420951430 te12702714910263601996 te213561176939266295 te4147369440579197606 te8093090887065884257 te3291765442774628925 te11981392687648215620 te11753887419931761087 te6771066265978291612 te14240627459842195044 te10683953103607388605 te523614867137152238 te10316556224615224900 te14981014871668608334 te3537884056758658397 te1698806394833693706 te3761361420431214813 te9602640671581181998 te15189267881668798322 te4234105262371520062 te7899147453825485602 te9507022837684560356 te12874710656572944284 te8343064136893220404 te11771085401184881140 te1020776841885216799 te2115979734809244253 te2297506528427729236 te2670470773520171512 te5006233359826195665 te7392217604839624043 te7101849778076293137 te5737621385452833148 te10163189252093216904 te15573143064147006563 te2198466971397576349 te17573760868359196263 te839674596806855683 te14711624439518753004 te6362542056946972951 te18433643616508976856 te17811806827046556753 te5634234466376446288 te8865214107526892612 te12852360225512261717 te9348530595063659453 te8723964446154464957 te7178882029857256823 te2575263412183565923 te17249323982283031197 te10045752373516183481 te16722299045669686899 te7658042171055757800 te13445512716476357190 te2663320727062937756 te10693230374377390844 te8417476208855454411 te1409561023466378988 te13332474551576460043 te9788431265915531015 te15984856949558687898 te15081238308070635013 te14528560638005266382 te7462446390917280440 te6242540974787139409 te11929167443446815807 te13257414060934122662 te8524742316124305745 te16409575586322017951 te576663179486081881 te17678408609491319656 te4301207126655600808 te10500552725069281220 te1100409874921049654 te11978343171672369291 te9179602218507810772 te7342683493982629900 te9010558250618018001 te15085934658143850447 te10050711047843160652 te2127436661818373195 te8804390156404728862 te7555780462941680983 te1213056445162672191 te9286399825141082389 te16351193098856345364 te9233580971317245661 te1983665804611172750 te3601048113549025740 te6774378218269735393 te1056773596403719203 te816340908362788064 te6440521771222263214 te18182365994094183995 te8030988181742540493 te734741532842720709 te6318197377330850563 te7594265011865470596 te9658063351701312836 te13306609615094324988 te3183625095474849698 te7550346441862855857 te1390038892040213231 te15494221818587633346 te4946556282572449188 te5645031152907013415 te6592291129551398947 te1856029966166939200 te16127175023674146736 te2226797105376082605 te12698384060986530241 te16093763554393939771 te4888230542333644582 te11943776796718500427 te1635349382837371120 te17594154072825520265 te9294165705138594050 te8485457108640032977 te11221011879235284147 te4667467154871852171 te2100717598649092457 te13469365826942246504 te4238824733977276090 te15206736879282265034 te14964427134819342127 te2942687929901619941 te17275988392726722683 te3174114255511993096 te15861104709708287141 te8095665765117647997 te3220356814888456738 te15623070208796572198 te10109603596122339799 te10233104992755447909 te3613139056996461763 te9619780141410822269 te3268389445784900069 te2948763515688955656 te14196232189110839284 te5442461532612210749 te17776794766359857845 te10853667546596286669 te18406584307324962842 te4379388976092255406 te9708756697427757181 te13008744272473957792 te6484327243265319848 te5299564808427256464 te3480818006396418058 te8695352487799006186 te10123159221624614795 te16431974671570331325 te8898919734637410401 te9656143801287976617 te4944327344817006141 te10232752474686627145 te5990738034305204104 te15169666992166579694 te5957710762724820590 te6176290089528867130 te17122044683272650956 te5478907700513448586 te14970908002854159099 te13803135501925792717 te3797057114761517450 te13974944318257105494 te2353195816932317702 te17418334528611014993 te7460609853190149064 te741291099550390794 te12559458735525153229 te6449856892016105076 te12710194116162056355 te7051373222357086032 te9819901590666997965 te13214713519869612550 te11800624841113843611 te6283119465457457566 te2814223533071583399 te3316194755990057720 te9308953422700629624 te17591816447005871512 te1955833737864947856 te15656064340113462448 te6498345850553495492 te1190988107560500455 te17704936459963340093 te14899603250139117365 te11826063762495263510 te2617912234262226633 te3982762460216993186 te676314192307739928 te5405124481191389826 te6119948661890140765 te14761061967059185907 te16274842029817781558 te18402686102241188245 te4265495387370060991 te10015736284727694728 te9445277175757739052 te4565492147860100360 te421119845198849784 te6803052104399233518 te4640835537453712916 te15973368055187830682 te5413001169687072696 te17743269555978198389 te260484638241105160 te10295907947816076231 te6693119673621062573 te3415205035715338536 te4243117737359629029 te2483430732159278764 te12832346906662392540 te13302133150837599118 te1297956594374679865 te11511200336568097960 te14866748374137871580 te14738435115770922195 te2466985049170604731 te6130985472808748273 te16035684332795398432 te7511191139230328789 te16203873081585229366 te3640332065566057586 te3111877189145274714 te16208537895285702440 te13963873380602636085:True)
namespace PySem.W.Fast
noncomputable def zp:=PySem.Challenge.pw_oneslate_k55_audit_tells_faults
noncomputable def zq:=zp.main.body
noncomputable def tw10003365419517704611:=(zq.drop 46).take 13
theorem te10003365419517704611:tw10003365419517704611=tw10003365419517704611:=rfl
noncomputable def tw6458173713824536387:=(zq.drop 15).take 9
theorem te6458173713824536387:tw6458173713824536387=tw6458173713824536387:=rfl
noncomputable def tw2528636758767773613:PySem.Program:={zp with main:={zp.main with body:=([1,2,3,4,5,6,7,8,9,10,11,13,14,15,16,17,18,19,20,21,22,23,24,25,26,28,30,31,32,33,34,35,36,37,38,39,40,41,42,43,44,45,46,48,49,50,51,52,53,54,55,56,57,58,59,60,61,62,63,64,65,66,67,68,69,70,71,72,73]:List Nat).filterMap fun i=>zp.main.body[i]?}}
theorem te2528636758767773613:tw2528636758767773613=tw2528636758767773613:=rfl
noncomputable def tw14508123171906801681:=(zq.drop 0).take 15
theorem te14508123171906801681:tw14508123171906801681=tw14508123171906801681:=rfl
noncomputable def tw15461000995421511924:=(zq.drop 59).take 12
theorem te15461000995421511924:tw15461000995421511924=tw15461000995421511924:=rfl
noncomputable def tw7005905196759469207:=(zq.drop 71).take 3
theorem te7005905196759469207:tw7005905196759469207=tw7005905196759469207:=rfl
noncomputable def tw2236410840940407260:=(zq.drop 24).take 10
theorem te2236410840940407260:tw2236410840940407260=tw2236410840940407260:=rfl
noncomputable def tw12219500765664923420:=(zq.drop 34).take 12
theorem te12219500765664923420:tw12219500765664923420=tw12219500765664923420:=rfl
end PySem.W.Fast
open PySem PySem.W PyProof.Rows
set_option maxHeartbeats 0 in
theorem PySem.Challenge.cw_oneslate_k55_audit_tells_faults_holds : PySem.Challenge.rw_oneslate_k55_audit_tells_faults.Holds := by
 w_on;o_law;k_head;(case hw=>w_witness2)
 k_fill
 refine aY.aaM (l:=PySem.Challenge.rw_oneslate_k55_audit_tells_faults) (k:=10) ["with_cell","with_doing"] rfl rfl ⟨rfl,by decide,by decide⟩ ?acN ?acM (λw h Y=>PySem.W.km_in_of Y) ?F
 case acN=>
  intro x ai
  repeat (rcases afz.mp ai with rfl|ai;· exact⟨_,rfl⟩)
  cases ai
 case acM=>exact λp=>by kernel_rfl
 case F=>
  intro w mg fa h fN G qG
  have Au:aE.iL (aE.p5 fN) mg "law" i_.vL ["script"]:=by
   dsimp only[aE.p5]
   refine' aY.HB fN G ?a ?l ?c ?k (λ_ _ _ _ _ _=>aY.DI λ_=>rfl)
   (case a=>k_is);(case l=>k_is);(case c=>k_is);(case k=>k_is)
  have yZ:aY.tH PySem.Challenge.rw_oneslate_k55_audit_tells_faults.prog w (aE.p5 fN) mg "DOERS" i_.g5:=by
   dsimp only[aE.p5]
   refine' aY.Rh fN G ?a ?l ?k ?f
   (case a=>k_is);(case l=>k_is)
   case k=>
    intro e he
    repeat (rcases afz.mp he with rfl|he;· first|exact⟨"put",rfl,rfl⟩|exact⟨"add",rfl,rfl⟩|exact⟨"swap",rfl,rfl⟩|exact⟨"take",rfl,rfl⟩|exact⟨"renew",rfl,rfl⟩|exact⟨"free",rfl,rfl⟩|exact⟨"sure",rfl,rfl⟩|exact⟨"move",rfl,rfl⟩|exact⟨"end",rfl,rfl⟩)
    cases he
   case f=>
    simp only[afx]
    repeat (refine⟨⟨_,by k_is,by k_is⟩,?_⟩)
    exact λ_ h=>nomatch h
  have BJ:=by
   refine' aY.Kb (wl:=w) (x:="with_cell") (st:=i_.L') (ln:=["with_cell","with_doing"]) fN G ?vf ?zB ?kT ?hh ?dd ?pH ?ao ?aG ?cI ?dh ?jh ?dW ?nn ?ii
   (case vf=>decide);(case zB=>k_is);(case kT=>k_is);(case hh=>exact rfl);(case dd=>k_is);(case pH=>exact rfl);(case ao=>exact rfl);(case aG=>exact rfl);(case cI=>exact rfl);(case dh=>exact rfl);(case jh=>exact rfl);(case dW=>exact rfl);(case nn=>decide)
   case ii=>
    intro y bl bM
    repeat (rcases afz.mp bl with rfl|bl;· first|rfl|(refine' aY.KD ?bJ ?cR bM;(case bJ=>refine' aY.DC ?a1 ?a2 ?ed ?kH ?tY;(case a1=>k_is);(case a2=>k_is);(case ed=>exact rfl);(case kH=>k_is);(case tY=>exact rfl));(case cR=>decide)))
    cases bl
  have BK:=by
   refine' aY.Kb (wl:=w) (x:="with_doing") (st:=i_.Ma) (ln:=["with_cell","with_doing"]) fN G ?vf ?zB ?kT ?hh ?dd ?pH ?ao ?aG ?cI ?dh ?jh ?dW ?nn ?ii
   (case vf=>decide);(case zB=>k_is);(case kT=>k_is);(case hh=>exact rfl);(case dd=>k_is);(case pH=>exact rfl);(case ao=>exact rfl);(case aG=>exact rfl);(case cI=>exact rfl);(case dh=>exact rfl);(case jh=>exact rfl);(case dW=>exact rfl);(case nn=>decide)
   case ii=>
    intro y bl bM
    repeat (rcases afz.mp bl with rfl|bl;· first|rfl|(refine' aY.KD ?bJ ?cR bM;(case bJ=>refine' aY.DC ?a1 ?a2 ?ed ?kH ?tY;(case a1=>k_is);(case a2=>k_is);(case ed=>exact rfl);(case kH=>k_is);(case tY=>exact rfl));(case cR=>decide)))
    cases bl
  have kt:aE.wC (aE.p5 fN):=aE.Uz _
  have Nu:aY.D5 mg:=by constructor<;>exact PySem.W.mg_none_of fN G (by k_is)
  letI:aE.a5:=aY.tj w (aE.p5 fN) ["with_cell","with_doing"]
  refine aY.N3 qG Au (λ_ _ _ _ _ _ _=>rfl) (λbase Pp f fd F=>aY.UN (i_.Cx ⟨rfl,?_,?_,?_,?_,?_,?_,?_,?_,?_,?_,?_,?_,?_,?_,?_,?_,?_,?_,?_,?_,?_,?_,?_,?_,?_,?_,?_,?_,?_,?_,?_,?_,?_,?_,?_,?_,?_,?_,?_,?_,?_,?_,?_,?_,?_,?_,?_,?_,?_,?_,?_,?_,?_,?_,?_,?_,?_,?_,?_,?_,?_,?_,?_,?_,?_,?_,?_,Au,yZ,BJ,BK,Pp,Nu,kt⟩ F) i_.UY)
  all_goals first
  |((try dsimp only[aE.p5]);refine' ⟨aY.HB fN G ?a ?l ?c ?k (λ_ _ _ _ _ _=>by first|exact aY.ML rfl|exact aY.DI λ_=>rfl|exact aY.MM λ_ _=>rfl|exact aY.MN λ_ _ _=>rfl|exact aY.MO λ_ _ _ _=>rfl|exact aY.MP λ_ _ _ _ _=>rfl|exact aY.MQ λ_ _ _ _ _ _=>rfl|exact aY.MR λ_ _ _ _ _ _ _=>rfl|exact aY.pR λ_=>aY.MR λ_ _ _ _ _ _ _=>rfl),aY.xd (by kernel_rfl)⟩;(case a=>k_is);(case l=>k_is);(case c=>k_is);(case k=>k_is))
