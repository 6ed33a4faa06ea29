import PyProof.Rows.All
import Wide.All
import OpenK.AllK
import Wide.FinOn
import Lean
import PyProof.EqAt
import PyProof.EqKinds
import PyProof.TupleCall
import Open.Tops
import KE.KIntText
import PyProof.ZipIter
import PyProof.ReprRoads
import PyProof.Draws
import KE.KDictSum
import KE.KSortedM
import OpenK.KRaise
import OpenK.KOwn
import PyProof.ExcBaseAll.ValueError
import KE.KTryMore
import PyProof.NsDelKeeps
import KE.KDictOf
import KE.KEqDict
import PyProof.DictWalks
import PyProof.TupleKey
import PyProof.MinMaxWalk
import KE.KSortTup
import PyProof.StrWalks
import KE.KRevIter
import KE.KListMore
import PyProof.StrLawsTight
import PyProof.StrLawsChain
import PySem.Challenge.RW_talejudge_k60_stuck_papers_told
open PySem.W renaming Frag->c0,kia_one->G3,keepIn->V3,findIn->W3,instObj->N4,fnOf->K6,kas_item->V6,nsIn->F7,callWith_K->N7,plainGet->E8,lookIn->M9,codeIn->N9,plainGet_of->j01,kdu_collect->j02,methodObj->j13,hasDictIn->j14,takerIn->j27,KatTups->j29,isFn->j3h,cellsFrom_some->j3i,kas_swaps_map->j48,specialIn->j60,plainOver->j61,kitx_list->j62,kitx_dict->j63
open PySem.PyData renaming keyHash->d0,depthAll->D2,canLayAll0->n8,strOk->X8,depth->j19
open PySem renaming wpAny_bind->j0,Shared->A0,wpAny_pure->G0,Params->Q0,wpAny->W0,World->X0,model->B1,starEach->S1,reduceHash->T1,Around->j2,compareOp->T2,OsState->B3,sliceBounds->C3,wpAny_mono->L3,wpAny_newObj_type->M3,mainGlobals->N3,treeTable->P3,sysModules->T3,eval->U3,wpAny_call_entry->X3,wpAny_holding->y4,backTo->J4,attributeBase->M4,boot_len->O4,eqIsQuiet->T4,wpAny_truthy_bool->V4,wpAny_callSpecial?_slot->F5,binaryOp->G5,wpAny_typeNameOfWhole_keyiter->M5,wpAny_Call_Name_kw->O5,wpAny_passesOwn->X5,foldedSetIterable->c6,mem_of_lookup->m6,NameKind->z6,wpAny_pyIter_tuple->U6,tupleKind->X6,Fin->b7,placesWithHash->i7,Keyword->m7,swapsWith->M7,wpAny_newList->Q7,wpAny_field->S7,keywordEach->U7,callSpecialIfBoundUnlessNone?->V7,ReadsAll->Y7,importedModules->i8,bootBuiltins->B8,tupleKind_room_in1->P8,wpAny_pyIter_enum->z9,relabel->A9,Builtin->D9,behindInMarks->G9,wpAny_isInstance->Z9,atKey->j00,wpAny_typeOf->j07,strKind_is->j08,codeAny_mono->j0a,assignEach->j0b,Paired->j0c,wpAny_execs_nil->j0f,typeNameOfWhole->j0g,letOwnedTupleGo->j0h,wpAny_setField->j1c,richCompare->j1f,firstArgMember->j1g,backToKw->j1h,valueAt->j1j,getItem->j20,codeAny->j21,wpAny_attempt->j2a,wpAny_tupleItemsOf->j2f,IsPart->j2i,wpAny_pyIter_list->j32,wpAny_dictEntries->j33,holding->j35,callerA->j37,rawInt->j3f,noFill_tuple_add->j3g,subscripted->j42,Reads->j47,wpAny_specialOf->j4f,wpAny_dictEpoch->j4g,Within->j4h,standAt->j52,wpAny_seqItems->j58,wpAny_rule->j59,wpAny_letOwnedTupleGo_enum->j5a,pyNext->j5d,checkCount->j5e,call_meets->j5f,Thread->j5i
open Nat renaming le_refl->o0,le_trans->C0,zero_le->J1,lt_of_lt_of_le->O1,ne_of_lt->P1,lt_of_le_of_lt->U1,lt_succ_of_lt->G2,lt_or_ge->Q2,le_of_lt->X2,lt_succ_self->i3,max_eq_right->R3,le_succ->S3,lt_irrefl->Y3,exists_eq_succ_of_ne_zero->u4,not_lt_zero->C4,ne_of_gt->E4,zero_add->S4,le_of_eq->K5,le_succ_of_le->V5,succ_le_succ->o6,mul_le_mul_right->G7,add_sub_cancel->t8,lt_trichotomy->L8,add_assoc->U8,add_sub_cancel_left->o9,min_le_left->U9,min_eq_left->V9,mul_le_mul->j0d,le_of_not_lt->j2g
open PySem.Builtin.Tuple renaming tupleHashOf->t0,tupleExact->Q5
open List renaming not_mem_nil->u0,length_map->D0,getElem?_eq_getElem->F0,length_append->L0,size_toArray->M0,mem_cons_self->R0,mem_of_getElem?->S0,length_cons->U0,mem_cons_of_mem->Y0,getElem?_map->Z0,getD_eq_getElem?_getD->A1,mem_append_right->F1,map_cons->G1,range->L1,map_append->N1,mem_cons->R1,append_assoc->V1,getElem?_append_right->X1,replicate->A2,length_range->B2,getElem?_append_left->F2,forall_mem_cons->K2,getElem?_cons_succ->N2,take_append_drop->O2,extract_eq_take_drop->P2,map_map->S2,length_take->Y2,append_nil->A3,getElem?_cons_zero->E3,length_filter_le->K3,length_replicate->i4,forIn_cons->A4,dropLast_concat_getLast->B4,take_of_length_le->D4,perm_append_comm->K4,getElem?_eq_none->L4,find?_cons->P4,nodup_append->Q4,lookup_cons->Y4,length_drop->Z4,forIn_nil->n5,filter_cons_of_pos->o5,filter_cons_of_neg->u5,filter_cons->z5,drop_zero->Z5,take_length->i6,map_nil->j6,drop_eq_getElem_cons->r6,length_modify->G6,pairwise_singleton->L6,set_eq_take_append_cons_drop->N6,take_add_one->Q6,getElem_mem->c7,ext_getElem->d7,take_append_of_le_length->z7,mem_append_left->A7,lookup->B7,length->C7,getElem?_modify->E7,length_set->K7,map_congr_left->O7,zip_cons_cons->a8,take_zero->b8,filter_append->c8,drop_drop->d8,reverse_perm->G8,ext_getElem?->K8,length_filterMap_le->M8,any_cons->N8,getElem?_replicate->Y8,any_eq_true->Z8,all_eq_true->c9,range_succ->O9,of_mem_zip->P9,length_nil->Q9,getElem?_toArray->W9,getElem?_range->j11,filterMap_cons->j12,getElem_range->j1a,take_succ_eq_append_getElem->j23,getElem?_inj->j24,foldl_append->j25,getElem_map->j2c,drop->j2d,exists_mem_of_length_pos->j2h,foldl_cons->j2j,filterMap_cons_some->j4a,filterMap_cons_none->j4b,pairwise_mergeSort->j50,getElem?_set_self->j54,any_map->j55,mem_of_mem_take->j65,length_dropLast->j66,getElem?_set_ne->j67,dropLast_concat->j68
open PySem.Heap renaming get?_push_of_some->B0,lt_size->V0,get?_push_size->j1,size_push->G4,SameBut->R6,get?_update_other->B9,get?_update_self->X9
open Bool renaming false_ne_true->N0,and_eq_true->Z2,false_eq_true->m3,not_true->B6,false_and->S6,true_and->O8,and_false->j06,not_eq_true->j2e,false_or->j4d,and_true->j4e
open Array renaming length_toList->O0,toList_append->u1,getElem?_eq_getElem->W1,getElem?_toList->V2,toList_extract->j3,toList_reverse->Q3,size_map->j4,size_extract->F6,forIn_toList->Z7,getElem_mem->A8,map->W8,getElem_mem_toList->j41,getElem?_eq_none->j51
open PySem.Value renaming ref->P0,bool->R4,type->C6,str->Z6,isStrOf->C8,int->Q8,float->j5h
open Or renaming inr->C1,inl->E1
open Option.some renaming inj->Q1
open Pure renaming pure->Y1,pure->j4i
open PySem.PassesOwn renaming never->Z1
open PySem.Obj renaming mapSeq->C2,mapDictKeys->S9,mapFields->j4j
open PySem.NameKind renaming free->E2
open ForInStep renaming yield->U2,done->u9
open PyProof.Rows renaming seqObj->W2,pendingOf->Z3,callWith_type1->o4,boot_isinstance->U4,boot_tuple->A5,listUpdate_at->O6,elem'->Y6,boot_sorted->W7,get?_update_seq->j8,AllBare->E9,reverseSlice'->F9,slot_tuple_getitem->j03,envOfC->j09,IntsAre->j0e,entry_list_sort->j0i,slot_list_sort->j1d,seqEpoch_at->j1e,arrOf->j1i,subscriptTail->j2b,plain_sorted->j34,entry_sorted->j36,kind_sorted->j43,StrsAre->j53,wpS_pure->j56,wpS_bind->j57,tail_any->j5b,setPending->j5c,args_list_sort->j5g,Subscript_->j5j
open List.Perm renaming append_left->u3,append_right->X4
open PySem.Heap.SameBut renaming update->F3
open False renaming elim->O3
open Ne renaming symm->F4
open PySem.Builtin.SmallTypes renaming nextOf->B5,ownedTupleFields->E5
open PyProof.Rows.SortSt renaming mk'->C5
open PySem.Builtin.Slice renaming slicePlaces->L5,sliceAdjust->o7,sliceApplied->j17
open ForIn renaming forIn->N5
open PySem.F renaming slot_dict_keyiterator_next->P5,slot_tuple_iterator_next->u6,plainAttrs_list->A6,args_tuple_add_2->m8,entry_tuple_add->F8,slot_tuple_add->S8,slot_dict_get->j9,args_dict_keyiterator_next_1->j38,plainAttrs_dict->j3a,args_dict_get_3->j3b,entry_dict_keyiterator_next->j3e,entry_dict_get->j3j,args_tuple_iterator_next_1->j40,slot_dict_pop->j49,entry_tuple_iterator_next->j4c
open PySem.W.Fast renaming tw16697807410369149715->R5,tw13926502685295537346->S5,tw13383273872528276517->T5,te14364793385576792824->U5,tw4214721358667687652->Y5,tw14364793385576792824->d9
open Classical renaming propDecidable->y6,choose_spec->V8,choose->j16
open PySem.Calls renaming spliced_cons->E6,callWith_builtin->P6,call_function_entry->u8,spliced_nil->z8,evalArgs_plain->j04,Name_function_global->j39
open Int renaming emod_lt_of_pos->M6,toNat_natCast->W6,emod_nonneg->P7,zero_add->R9,le_refl->j30
open PySem.Builtin.List renaming listTooLong->L7,listLengthHint->j18
open PySem.Builtin.Dict renaming notOrdered->R7
open PySem.Str renaming ofString->X7
open Option renaming isSome_map->o8,map_some->m9,toList_none->j0j,map->j10,getD_some->j22
open PySem.SeqAt renaming eqAt_reads->R8
open PySem.Builtin.Dict_items renaming ownsTuple->C9,isOneOf->Y9,slot0->j05
open Sum.inr renaming inj->K9
open Sum.inl renaming inj->L9
open PUnit renaming unit->j15
open PySem.Around renaming under->j1b
open PySem.Code renaming isFrame->j26,frames->j6a
open PySem.W.KatTups renaming cons->j28
open PySem.Heap.IsSliceOf renaming new->j31
open PySem.Paired renaming length->j3c
open List.Pairwise renaming nil->j3d
open PySem.SeqAt.EqAt renaming str_str->j44,str_int->j45,int_str->j46
open Prod renaming ext->j64
open PySem.Data renaming fields->j69
open PySem renaming Addr->ZR,Str->ZQ,Obj->ZP,Pos->ZO,Sem->ZN,Expr->ZM,Heap->ZL,Stmt->ZK,PyData->ZJ,Program->ZI,FuncData->ZH,DictEntry->ZG,Value->ZF,sizeLine->ZE,cLine->ZD,Scope->ZC
open PyProof.Rows renaming Keyed->ZA,SortSt->Zz
set_option maxRecDepth 100000
set_option maxHeartbeats 0
namespace PySem.W.Fast
noncomputable def tw187756945068759489:=0
noncomputable def tw13196091549114592915:=0
noncomputable def tw2129957150450993040:=0
noncomputable def tw6207527473569797603:=0
noncomputable def tw2412313934180802629:=0
noncomputable def tw12132985594897858487:=0
noncomputable def tw15141627286903523851:=0
noncomputable def tw15966502013897930769:=0
noncomputable def tw3267813400079397026:=0
noncomputable def tw6347272605555081207:=0
noncomputable def tw11771804828152195417:=0
noncomputable def tw13695411140416491612:=0
noncomputable def tw23196577083841457:=0
end PySem.W.Fast
namespace K60
open_shared pre for PySem.Challenge.pw_talejudge_k60_stuck_papers_told leaving 46
end K60
set_option hygiene false
local macro_rules
|`('!')=>`(by decide)
|`('%')=>`(by lia)
-- CHANGE: your row's module here,as the last of these rows
set_option Elab.async false
set_option linter.all false
namespace L2
open PySem PySem.Spec PyProof.Rows
noncomputable abbrev Key:=Sum Int ZQ
noncomputable def gN:Key->ZF->Bool
 | .inl k,v=>Value.isInt k v
 | .inr x,v=>C8 x v
noncomputable def yU (w:X0):Key->Int
 | .inl k=>hashInt k
 | .inr x=>hashStr w x
theorem nz:∀{k:Key} {v:ZF},gN k v=true->(∃i t,k=Sum.inl i/\v=Q8 i t)\/(∃x t,k=Sum.inr x/\v=Z6 x t)
 | .inl i,v,h=>by obtain ⟨t,e⟩:=Value.isInt_shape (k:=i) (v:=v) h;exact .inl ⟨i,t,rfl,e⟩
 | .inr x,v,h=>by obtain ⟨t,e⟩:=Value.isStrOf_shape (x:=x) (v:=v) h;exact .inr ⟨x,t,rfl,e⟩
def QX (i:Int) (t:Tok):gN (.inl i) (.int i t)=true:=by simp [gN,Value.isInt]
def Qv (x:ZQ) (t:Tok):gN (.inr x) (.str x t)=true:=by simp [gN,C8]
def rk (a b:Int):decide ((Sum.inl a:Key)=Sum.inl b)=(a == b):=by
 by_cases e:a=b
 ·subst e;simp
 ·have h:¬ (Sum.inl a:Key)=Sum.inl b:=λ q=>e (L9 q);rw [decide_eq_false h];exact (beq_eq_false_iff_ne.mpr e).symm
def qu (a b:ZQ):decide ((Sum.inr a:Key)=Sum.inr b)=decide (a=b):=by
 by_cases e:a=b
 ·subst e;simp
 ·have h:¬ (Sum.inr a:Key)=Sum.inr b:=λ q=>e (K9 q);rw [decide_eq_false h,decide_eq_false e]
def pM (a:Int) (b:ZQ):decide ((Sum.inl a:Key)=Sum.inr b)=false:=decide_eq_false (λ q=>nomatch q)
def rg (a:ZQ) (b:Int):decide ((Sum.inr a:Key)=Sum.inl b)=false:=decide_eq_false (λ q=>nomatch q)
noncomputable def iY (prog:ZI) (w:X0):PySem.KeyKind prog w Key where
 is:=gN
 hash:=yU w
 inj:=λ v a b ha hb=>by
  rcases nz ha with ⟨i,t,rfl,rfl⟩|⟨x,t,rfl,rfl⟩
  ·rcases nz hb with ⟨j,u,rfl,e⟩|⟨y,u,rfl,e⟩
   ·injection e with e1 _;rw [e1]
   ·exact nomatch e
  ·rcases nz hb with ⟨j,u,rfl,e⟩|⟨y,u,rfl,e⟩
   ·exact nomatch e
   ·injection e with e1 _;rw [e1]
 byValue:=λ k v h=>by rcases nz h with ⟨i,t,rfl,rfl⟩|⟨x,t,rfl,rfl⟩<;>rfl
 pyHash:=λ hv h=>by
  rcases nz hv with ⟨i,t,rfl,rfl⟩|⟨x,t,rfl,rfl⟩
  ·exact wpAny_pyHash_int h
  ·exact wpAny_pyHash_str h
 eqBool:=λ hu hv h=>by
  rcases nz hu with ⟨i,t,rfl,rfl⟩|⟨x,t,rfl,rfl⟩
  ·rcases nz hv with ⟨j,u,rfl,rfl⟩|⟨y,u,rfl,rfl⟩
   ·rw [rk] at h;exact wpAny_eqBool_int h
   ·rw [pM] at h;exact j46 i t y u _ _ _ _ h
  ·rcases nz hv with ⟨j,u,rfl,rfl⟩|⟨y,u,rfl,rfl⟩
   ·rw [rg] at h;exact j45 x t j u _ _ _ _ h
   ·rw [qu] at h;exact wpAny_eqBool_str h
 «strs»:=λ k x t v h=>by
  rcases nz h with ⟨i,u,rfl,e⟩|⟨y,u,rfl,e⟩
  ·exact nomatch e
  ·injection e with e1 _;subst e1;cases v<;>rfl
def Qr (prog:ZI) (w:X0) (i:Int) (t:Tok):(iY prog w).is (.inl i) (.int i t)=true:=QX i t
def Kl (prog:ZI) (w:X0) (x:ZQ) (t:Tok):(iY prog w).is (.inr x) (.str x t)=true:=Qv x t
inductive V where
 | non|bl (b:Bool)|int (i:Int)|str (x:ZQ)|byt (b:Array UInt8)|flt (b:UInt64)|ref (a:ZR)|ty (n:String)
 deriving DecidableEq
noncomputable def RelV:V->ZF->Prop
 | .non,u=>u=Value.none
 | .bl b,u=>u=R4 b
 | .int i,u=>∃t,u=Q8 i t
 | .str x,u=>∃t,u=Z6 x t
 | .byt b,u=>∃t,u=Value.bytes b t
 | .flt b,u=>∃t,u=j5h b t
 | .ref a,u=>u=P0 a
 | .ty n,u=>u=C6 n
abbrev aI:List V->List ZF->Prop:=j0c RelV
variable {us:List ZF} {xs:List V}
def aI.length (r:aI xs us):xs.length=us.length:=j3c r
theorem aI.get:∀{xs:List V} {us:List ZF} {i:Nat} {x:V},aI xs us->xs[i]? = some x->∃u,us[i]? = some u/\RelV x u
 | _,_,_,_,.nil,e=>by simp at e
 | _,_,0,_,.cons r _,e=>by simp at e;subst e;exact ⟨_,rfl,r⟩
 | _,_,i + 1,x,.cons _ t,e=>by obtain ⟨u,a,b⟩:=aI.get (i:=i) (x:=x) t (by simpa using e);exact ⟨u,by simpa using a,b⟩
variable {u:ZF}
theorem aI.set {x:V} (r:RelV x u) :∀{xs:List V} {us:List ZF} (i:Nat),aI xs us->aI (xs.set i x) (us.set i u)
 | _,_,_,.nil=>.nil
 | _,_,0,.cons _ t=>.cons r t
 | _,_,i + 1,.cons q t=>.cons q (aI.set r i t)
theorem aI.append:∀{xs ys:List V} {us ws:List ZF},aI xs us->aI ys ws->aI (xs++ys) (us++ws)
 | _,_,_,_,.nil,s=>s
 | _,_,_,_,.cons r t,s=>.cons r (aI.append t s)
theorem aI.take:∀{xs:List V} {us:List ZF} (n:Nat),aI xs us->aI (xs.take n) (us.take n)
 | _,_,0,_=>.nil
 | _,_,_ + 1,.nil=>.nil
 | _,_,n + 1,.cons r t=>.cons r (aI.take n t)
theorem aI.drop:∀{xs:List V} {us:List ZF} (n:Nat),aI xs us->aI (xs.drop n) (us.drop n)
 | _,_,0,r=>r
 | _,_,_ + 1,.nil=>.nil
 | _,_,n + 1,.cons _ t=>aI.drop n t
noncomputable def dn:Option V->Option ZF->Prop
 | some v,some u=>RelV v u
 | none,none=>True
 | _,_=>False
def KV {κ:Type}:List (κ×V)->List (κ×ZF)->Prop:=j0c λ (p:κ×V) (q:κ×ZF)=>p.1=q.1/\RelV p.2 q.2
noncomputable def kV:Key->V
 | .inl i=>.int i
 | .inr x=>.str x
inductive HO where
 | lst (xs:List V)
 | tup (xs:List V)
 | dK (kvs:List (Key×V))|dT (kvs:List (List Key×V))
 | set (S:Int->Bool) (n:Nat)
 | ins (C dx:ZR) (fs:List (ZQ×V))
 | own (x:ZR)
 | xd (fs:List (ZQ×V))
 | met (f x:ZR)
 | rng (lo hi:Int)
 | frz (o:ZP) (u:HO)
 | tbl (ps:Array ZF)
 | ext (φ:ZL->Prop)
noncomputable abbrev Hp:=ZR->Option HO
noncomputable def upd (H:Hp) (a:ZR) (o:HO):Hp:=λ b=>if b=a then some o else H b
variable {H:Hp} {a:ZR} {o:HO}
def ab:upd H a o a=some o:=by unfold upd;rw [if_pos rfl]
variable {b:ZR}
def ak (h:b≠a):upd H a o b=H b:=by unfold upd;rw [if_neg h]
def ip {u:HO} (h:H a=some o) (h':H b=some u) (d:o≠u):a≠b:=by intro e;subst e;rw [h] at h';exact d (Q1 h')
def fK (h:H a=some o) (h':H b=none):a≠b:=by intro e;subst e;rw [h] at h';cases h'
section
variable (P:ZI) (w:X0)
def fR (h:ZL) (a:ZR) (items:Array ZF):Prop:=IsTup h a items/\∃o,h.get? a=some o/\o.dict=none
def fR.new (h:ZL) (items:Array ZF):fR (h.push { cls:=.type "tuple",data:=.seq items }) h.objs.size items:=⟨IsTup.new _ _,_,j1 _ rfl,rfl⟩
noncomputable def bb (H:Hp) (h:ZL) (a:ZR):HO->Prop
 | .lst xs=>xs.length<=ZE/\∃(its:List ZF) (n:Nat),aI xs its/\h.get? a=some { cls:=.type "list",data:=.seq its.toArray n }
 | .tup xs=>xs.length<=ZE/\∃its:List ZF,aI xs its/\fR h a its.toArray
 | .dK kvs=>kvs.length<=ZE/\(a == T3)=false/\∃vs,KV kvs vs/\h.DictOf (iY P w) a vs
 | .dT kvs=>kvs.length<=ZE/\(a == T3)=false/\∃xs:List (List Key×ZR×ZF),
   j0c (λ (p:List Key×V) (q:List Key×ZR×ZF)=>p.1=q.1/\H q.2.1=some (.tup (p.1.map kV))/\RelV p.2 q.2.2) kvs xs/\
   ∃o es ep,h.get? a=some o/\o.ExactDict/\o.data=.dict es ep/\es.toList=xs.map (entryOfKey (X6 (iY P w)))/\(xs.map (·.1)).Nodup
 | .set S n=>h.SetOf (intKind P w) a S n
 | .ins C dx fs=>H dx=some (.own a)/\fs.length<=1000/\dx≠a/\h.get? a=some (N4 C dx)/\
   ∃mA,h.Ns1 dx mA/\(∀f,dn (fs.lookup f) (mA f))/\j4h mA (fs.map (·.1))
 | .own _=>∃o,h.get? a=some o
 | .xd fs=>∃mA,h.Ns1 a mA/\∀f,dn (fs.lookup f) (mA f)
 | .rng lo hi=>∃t u v,h.get? a=some { cls:=.type "range",data:=.fields #[.int lo t,.int hi u,.int 1 v] }
 | .frz o u=>h.get? a=some o/\bb H h a u
 | .tbl ps=>h.get? a=some { cls:=.none,data:=.fields ps }
 | .met f x=>h.get? a=some (j13 (.ref f) (.ref x))
 | .ext φ=>φ h/\(∃o,h.get? a=some o)/\∀h1 h2:ZL,φ h1->(∀o,h1.get? a=some o->h2.get? a=some o)->φ h2
def fN (H:Hp) (h:ZL):Prop:=∀a o,H a=some o->bb P w H h a o
end
variable {H':Hp} {P:ZI} {h h':ZL} {w:X0}
section
def bb.lt (x:bb P w H h a o):a < h.objs.size:=by
 cases o with
 | lst xs=>obtain ⟨_,_,_,_,e⟩:=x;exact V0 e
 | tup xs=>obtain ⟨_,_,_,p⟩:=x;exact p.1.lt
 | dK kvs=>obtain ⟨_,_,_,_,o,_,_,e,_⟩:=x;exact V0 e
 | dT kvs=>obtain ⟨_,_,_,_,o,_,_,e,_⟩:=x;exact V0 e
 | set S n=>obtain ⟨o,_,_,_,e,_⟩:=x;exact V0 e
 | ins C dx fs=>obtain ⟨_,_,_,e,_⟩:=x;exact V0 e
 | own y=>obtain ⟨_,e⟩:=x;exact V0 e
 | xd fs=>obtain ⟨_,⟨_,_,_,e,_⟩,_⟩:=x;exact V0 e
 | rng lo hi=>obtain ⟨_,_,_,e⟩:=x;exact V0 e
 | frz ob u=>obtain ⟨e,_⟩:=x;exact V0 e
 | tbl ps=>exact V0 (show h.get? a=some _ from x)
 | met f y=>exact V0 (show h.get? a=some _ from x)
 | ext φ=>obtain ⟨_,⟨_,e⟩,_⟩:=x;exact V0 e
theorem Paired.mapP {α β:Type} {F G:α->β->Prop} :∀{l₁:List α} {l₂:List β},j0c F l₁ l₂->(∀a b,F a b->G a b)->j0c G l₁ l₂
 | _,_,.nil,_=>.nil
 | _,_,.cons r t,f=>.cons (f _ _ r) (Paired.mapP t f)
def bb.stay (x:bb P w H h a o) (k :∀b u,(b=a\/H b=some (.own a))->h.get? b=some u->h'.get? b=some u)
  (ho :∀b,H b=some (.own a)->H' b=some (.own a)) (ht :∀b xs,H b=some (.tup xs)->H' b=some (.tup xs)):bb P w H' h' a o:=by
 induction o with
 | lst xs=>obtain ⟨z,m,n,r,e⟩:=x;exact ⟨z,m,n,r,k _ _ (.inl rfl) e⟩
 | tup xs=>obtain ⟨z,m,r,⟨g,e,c⟩,D,s,G⟩:=x;exact ⟨z,m,r,⟨g,k _ _ (.inl rfl) e,c⟩,D,k _ _ (.inl rfl) s,G⟩
 | dK kvs=>obtain ⟨z,y,E,r,g,j,i,e,c⟩:=x;exact ⟨z,y,E,r,g,j,i,k _ _ (.inl rfl) e,c⟩
 | dT kvs=>obtain ⟨z,y,xs,r,g,j,i,e,c⟩:=x;exact ⟨z,y,xs,Paired.mapP r λ p q z=>⟨z.1,ht _ _ z.2.1,z.2.2⟩,g,j,i,k _ _ (.inl rfl) e,c⟩
 | set S n=>obtain ⟨g,j,i,t,e,c⟩:=x;exact ⟨g,j,i,t,k _ _ (.inl rfl) e,c⟩
 | ins C dx fs=>obtain ⟨d,z,F,e,A,⟨l,j,i,s,c⟩,r⟩:=x;exact ⟨ho _ d,z,F,k _ _ (.inl rfl) e,A,⟨l,j,i,k _ _ (.inr d) s,c⟩,r⟩
 | own y=>obtain ⟨g,e⟩:=x;exact ⟨g,k _ _ (.inl rfl) e⟩
 | xd fs=>obtain ⟨A,⟨l,j,i,e,c⟩,r⟩:=x;exact ⟨A,⟨l,j,i,k _ _ (.inl rfl) e,c⟩,r⟩
 | rng lo hi=>obtain ⟨t,u,v,e⟩:=x;exact ⟨t,u,v,k _ _ (.inl rfl) e⟩
 | frz g u ih=>obtain ⟨e,q⟩:=x;exact ⟨k _ _ (.inl rfl) e,ih q⟩
 | tbl ps=>have e:h.get? a=some { cls:=.none,data:=.fields ps }:=x;show h'.get? a=some { cls:=.none,data:=.fields ps };exact k a _ (.inl rfl) e
 | met f y=>have e:h.get? a=some (j13 (.ref f) (.ref y)):=x;show h'.get? a=some (j13 (.ref f) (.ref y));exact k a _ (.inl rfl) e
 | ext φ=>obtain ⟨p,⟨o,e⟩,B⟩:=x;exact ⟨B _ _ p λ o q=>k _ _ (.inl rfl) q,⟨o,k _ _ (.inl rfl) e⟩,B⟩
def fN.lt (x:fN P w H h) (e:H a=some o):a < h.objs.size:=(x a o e).lt
def fN.fresh (x:fN P w H h) (e:h.objs.size<=a):H a=none:=by
 cases q:H a with
 | none=>rfl
 | some u=>exact absurd (O1 (x.lt q) e) (Y3 _)
def fN.kept (x:fN P w H h) (k :∀b u,h.get? b=some u->h'.get? b=some u):fN P w H h':=λ a o e=>(x a o e).stay (λ b u _ q=>k b u q) (λ _ q=>q) λ _ _ q=>q
def fN.laid (x:fN P w H h) (k :∀b u,h.get? b=some u->h'.get? b=some u) (hp:h.objs.size<=a) (new:bb P w (upd H a o) h' a o):fN P w (upd H a o) h':=λ b u e=>by
 have d:=x.fresh hp;by_cases hb:b=a
 ·subst hb;rw [ab] at e;cases e;exact new
 ·rw [ak hb] at e;exact (x b u e).stay (λ c v _ q=>k c v q) (λ c q=>by rw [ak (fK q d)];exact q) λ c f q=>by rw [ak (fK q d)];exact q
end
def Rd (H:Hp) (a:ZR) (u:HO):Prop:=H a=some u\/∃o,H a=some (.frz o u)
def Rd.ok {u:HO} (r:Rd H a u) (x:fN P w H h):bb P w H h a u:=by
 rcases r with r|⟨o,r⟩
 ·exact x a u r
 ·obtain ⟨_,q⟩:=x a _ r;exact q
noncomputable def vY:Option HO->Prop
 | some (.lst _)=>True
 | some (.dK _)=>True
 | some (.dT _)=>True
 | some (.set _ _)=>True
 | some (.ins _ _ _)=>True
 | some (.ext _)=>True
 | _=>False
section
variable {x e:ZR} {o':HO}
def fN.write (ok:fN P w H h) (mu:vY (H x)) (he:e=x\/H e=some (.own x)) (k :∀b u,b≠e->h.get? b=some u->h'.get? b=some u) (heo :∃u,h'.get? e=some u)
  (new:bb P w (upd H x o') h' x o'):fN P w (upd H x o') h':=λ b u q=>by
 have g :∀c y,H c=some (.own y)->c≠x:=λ c y r z=>by subst z;rw [r] at mu;exact mu
 have i :∀c d,H c=some (.tup d)->c≠x:=λ c d r z=>by subst z;rw [r] at mu;exact mu
 by_cases hb:b=x
 ·subst hb;rw [ab] at q;cases q;exact new
 ·rw [ak hb] at q;by_cases hbe:b=e
  ·have f:H b=some (.own x):=by
    rcases he with z|z
    ·exact absurd (hbe.trans z) hb
    ·rw [hbe];exact z
   rw [q] at f;cases f;obtain ⟨v,j⟩:=heo;exact ⟨v,by rw [hbe];exact j⟩
  ·refine (ok b u q).stay (λ c v a r=>k c v ?_ r) (λ c r=>by rw [ak (g c b r)];exact r) λ c d r=>by rw [ak (i c d r)];exact r
   rcases a with rfl|a
   ·exact hbe
   ·rintro rfl;rcases he with z|z
    ·exact g c b a z
    ·rw [a] at z;cases z;exact hb rfl
end
structure Un (fs ex:List ZR) (H H':Hp) (h h':ZL):Prop where
 keep :∀b o,h.get? b=some o->H b=none->b∉fs->b∉ex->h'.get? b=some o
 slot :∀b o,h.get? b=some o->H b=none->b∈fs->b∉ex->∃sl,h'.get? b=some { o with slots:=sl }
 free :∀b o,h.get? b=some o->H b=none->b∉ex->H' b=none
 there :∀b o,h.get? b=some o->b∉ex->∃o',h'.get? b=some o'
 tups :∀b xs,H b=some (.tup xs)->H' b=some (.tup xs)
 frzs :∀b o u,H b=some (.frz o u)->H' b=some (.frz o u)
 tbls :∀b ps,H b=some (.tbl ps)->∃more,H' b=some (.tbl (ps++more))
section
variable {fs fs' ex ex':List ZR} {H1 H2:Hp} {h1 h2:ZL} {x e:ZR} 
def Un.any (u:Un fs ex H H1 h h1) {ob:ZP} (q:h.get? b=some ob) (n:H b=none) (hx:b∉ex) :∃sl,h1.get? b=some { ob with slots:=sl }:=by
 by_cases hb:b∈fs
 ·exact u.slot b ob q n hb hx
 ·exact ⟨ob.slots,u.keep b ob q n hb hx⟩
def Un.kept (k :∀b u,h.get? b=some u->h'.get? b=some u):Un fs ex H H h h':=
 ⟨λ b a q _ _ _=>k b a q,λ b a q _ _ _=>⟨a.slots,k b a q⟩,λ _ _ _ n _=>n,λ b a q _=>⟨a,k b a q⟩,λ _ _ q=>q,λ _ _ _ q=>q,λ _ c q=>⟨#[],by rw [q];simp⟩⟩
def Un.refl:Un fs ex H H h h:=Un.kept λ _ _ q=>q
def Un.laid (k :∀b u,h.get? b=some u->h'.get? b=some u) (hp:h.objs.size<=a) (hn:H a=none):Un fs ex H (upd H a o) h h' where
 keep:=λ b u q _ _ _=>k b u q
 slot:=λ b u q _ _ _=>⟨u.slots,k b u q⟩
 free:=λ b u q n _=>by rw [ak (P1 (O1 (V0 q) hp))];exact n
 there:=λ b u q _=>⟨u,k b u q⟩
 tups:=λ b c q=>by rw [ak (fK q hn)];exact q
 frzs:=λ b u c q=>by rw [ak (fK q hn)];exact q
 tbls:=λ b d q=>⟨#[],by rw [ak (fK q hn),q];simp⟩
def Un.write (mu:vY (H x)) (he:e=x\/H e=some (.own x)) (k :∀b u,b≠e->h.get? b=some u->h'.get? b=some u) (heo :∃u,h'.get? e=some u):Un fs ex H (upd H x o) h h':=by
 have d :∀b,H b=none->b≠x:=λ b n z=>by subst z;rw [n] at mu;exact mu
 have c :∀b,H b=none->b≠e:=λ b n z=>by
  subst z;rcases he with r|r
  ·exact d b n r
  ·rw [n] at r;cases r
 have a :∀b u,H b=some u->¬ vY (some u)->b≠x:=λ b u q f z=>by subst z;rw [q] at mu;exact f mu
 refine ⟨λ b u q n _ _=>k b u (c b n) q,λ b u q n _ _=>⟨u.slots,k b u (c b n) q⟩,λ b u q n _=>by rw [ak (d b n)];exact n,λ b u q _=>?_,
  λ b g q=>by rw [ak (a b _ q λ z=>z)];exact q,λ b u g q=>by rw [ak (a b _ q λ z=>z)];exact q,λ b i q=>⟨#[],by rw [ak (a b _ q λ z=>z),q];simp⟩⟩
 by_cases hbe:b=e
 ·subst hbe;exact heo
 ·exact ⟨u,k b u hbe q⟩
end
noncomputable def xK (h:ZL) (H:Hp):List ZR:=(L1 h.objs.size).filter λ a=>(H a).isSome
noncomputable def iu (h:ZL) (H:Hp):ZL:=PySem.W.hideAll h (xK h H)
def MN (h:ZL) (H:Hp):(iu h H).objs.size=h.objs.size:=PySem.W.hideAll_size _ _
def Jh {o:ZP} (e:h.get? b=some o) (n:H b=none):(iu h H).get? b=some o:=
 PySem.W.hideAll_get _ e λ a=>by have q:(H b).isSome=true:=(List.mem_filter.mp a).2;rw [n] at q;simp at q
def KC {o:ZP} (e:(iu h H).get? b=some o):h.get? b=some o/\H b=none:=by
 have a:h.get? b=some o:=PySem.W.of_hideAll (xK h H) e;refine ⟨a,?_⟩;cases q:H b with
 | none=>rfl
 | some x=>have c:b∈xK h H:=List.mem_filter.mpr ⟨List.mem_range.mpr (V0 a),by simp [q]⟩;have z:(iu h H).get? b=none:=PySem.W.hideAll_none (xK h H) c;rw [z] at e;cases e
noncomputable def N_ (g h:ZL) (L:ZR):List (ZR×ZP):=(L1 h.objs.size).filterMap λ a=>if a=L\/(g.get? a).isSome=true then none else (h.get? a).map λ o=>(a,o)
noncomputable def rest (g h:ZL) (L d:ZR):List (ZR×ZP):=(N_ g h L).filter λ p=>decide (p.1≠d)
structure Mod (K:c0) (mg:ZQ->Option ZF) (base:ZL):Prop where
 kin:K.In base
 glob:base.Ns N3 mg
 blt :∃mb,base.Ns builtinsNs mb/\∀x:ZQ,x≠"__name__"->mb x=B8 x
 nolimit:base.NoLimit
structure Cx where
 prog:ZI
 w:X0
 K:c0
 mg:ZQ->Option ZF
 base:ZL
 A:j2
 N:List ZQ
 s₀:A0
 H₀:Hp
 env:Env
 outer:List Env
 stack:List Env
 ex:List ZR
 fn:ZQ->Bool
 calm:Bool
 pn:List (ZR×ZP)
 xe:ZF->A0->Prop
noncomputable def je (l:List Env):List ZR:=l.filterMap (·.frame)
noncomputable abbrev Cx.fs (X:Cx):List ZR:=je X.outer
def xy (sc:ZC) (x:ZQ):Prop:=sc.names.lookup x=some .local\/sc.names.lookup x=some .cell\/sc.names.lookup x=some .free
def Loc (sc:ZC) (x:ZQ):Prop:=sc.names.lookup x=some .local\/sc.names.lookup x=some .cell
def Look (env:Env) (h:ZL) (m:ZQ->Option ZF) (x:ZQ) (u:ZF):Prop:=
 (env.kindOf x=some .local/\m x=some u)\/((env.kindOf x=some .cell\/env.kindOf x=some .free)/\∃c,env.cells.lookup x=some c/\h.IsCell c (some u))
structure Cx.Ok (X:Cx):Prop where
 mod:Mod X.K X.mg X.base
 kind:X.env.scope.kind=.function
 glob:X.env.globals=N3
 blt:X.env.builtins=builtinsNs
 above:X.s₀.heap.objs.size<=X.env.locals
 inj :∀x y c,X.env.cells.lookup x=some c->X.env.cells.lookup y=some c->x=y
 has :∀x,(X.env.kindOf x=some .cell\/X.env.kindOf x=some .free)->∃c,X.env.cells.lookup x=some c
 cab :∀x c,X.fn x=true->X.env.cells.lookup x=some c->X.s₀.heap.objs.size<=c
 hd:X.calm=true->X.A.handled=none
 frames:X.A.frames=some X.stack
 stk:X.stack=X.outer\/(X.stack=X.env :: X.outer/\X.env.frame=some X.env.locals)
 exf :∀b∈X.ex,b≠X.env.locals/\∀x c,X.env.cells.lookup x=some c->c≠b
 bs :∀b o,X.base.get? b=some o->X.s₀.heap.get? b=some o/\X.H₀ b=none
 bsz:X.base.objs.size<=X.s₀.heap.objs.size
 noex :∀b o,X.base.get? b=some o->b∉X.ex
 exfs :∀b∈X.ex,b∉X.fs
 funs:X.s₀.heap.FunFrames X.base X.outer
 frf :∀b∈X.fs,X.H₀ b=none
structure Inv (X:Cx) (pins:List (ZR×ZP)) (σ:List (Option V)) (H:Hp) (s:A0):Prop where
 ok:X.Ok
 os:s.os=X.s₀.os
 bare:E9 s.gens
 base:Un X.fs X.ex X.H₀ H X.s₀.heap s.heap
 loc :∃m,s.heap.Ns X.env.locals m/\∀(i:Nat) (x:ZQ) (v:V),X.N[i]? = some x->σ[i]? = some (some v)->xy X.env.scope x->∃u,RelV v u/\Look X.env s.heap m x u
 cell :∀x c,X.env.cells.lookup x=some c->∃v,s.heap.IsCell c v
 free:H X.env.locals=none
 freeC :∀x c,X.env.cells.lookup x=some c->H c=none
 pin :∀p∈X.pn++pins,s.heap.get? p.1=some p.2/\H p.1=none/\p.1≠X.env.locals/\p.1∉X.fs/\∀v,p.2.data≠.cell v
 hok:fN X.prog X.w H s.heap
 len:σ.length=X.N.length
variable {A:j2} {E:ZF->A0->Prop} {M:Model} {X:Cx} {ch:List ZR} {i t':Nat} {pins:List (ZR×ZP)} {s s':A0} {v:V} {x:ZQ}
section
variable {σ:List (Option V)} 
def Cx.Ok.nofr (ok:X.Ok) {o:ZP} (e:X.base.get? b=some o):b∉X.fs:=λ a=>by have:=(ok.funs.mem a).1;rw [e] at this;cases this
def Inv.bs (I:Inv X pins σ H s) :∀b o,X.base.get? b=some o->s.heap.get? b=some o/\H b=none:=λ b o e=>⟨I.base.keep b o (I.ok.bs b o e).1 (I.ok.bs b o e).2 (I.ok.nofr e) (I.ok.noex b o e),I.base.free b o (I.ok.bs b o e).1 (I.ok.bs b o e).2 (I.ok.noex b o e)⟩
def Inv.bk (I:Inv X pins σ H s) :∀b o,X.base.get? b=some o->s.heap.get? b=some o:=λ b o e=>(I.bs b o e).1
def Inv.mod (I:Inv X pins σ H s):Mod X.K X.mg X.base:=I.ok.mod
def Inv.kIn (I:Inv X pins σ H s):X.K.In s.heap:=I.ok.mod.kin.keeps I.bk
def Inv.lt (I:Inv X pins σ H s):X.env.locals < s.heap.objs.size:=let ⟨_,hn,_⟩:=I.loc;hn.lt
def Inv.sz (I:Inv X pins σ H s):X.s₀.heap.objs.size<=s.heap.objs.size:=C0 I.ok.above (X2 I.lt)
def Inv.nofs (I:Inv X pins σ H s) (h:s.heap.objs.size<=a):a∉X.fs:=λ c=>by obtain ⟨_,o,b,_⟩:=I.ok.funs.mem c;exact absurd (O1 (V0 b) (C0 I.sz h)) (Y3 _)
def Inv.cne (I:Inv X pins σ H s) :∀x c,X.env.cells.lookup x=some c->c≠X.env.locals:=λ x c e z=>by obtain ⟨v,o,b,a⟩:=I.cell x c e;obtain ⟨m,⟨h,g,i,f,d,_⟩,_⟩:=I.loc;rw [z,f] at b;cases b;rw [d] at a;cases a
def Inv.funs (I:Inv X pins σ H s):s.heap.FunFrames X.base X.outer:=by
 have all :∀(l:List Env),(∀b∈je l,b∈X.fs)->X.s₀.heap.FunFrames X.base l->s.heap.FunFrames X.base l:=by
  intro l;induction l with
  | nil=>intro _ _;trivial
  | cons env r ih=>intro f j;obtain ⟨k,⟨L,o,c,m,i,g⟩,h⟩:=j;have a:L∈X.fs:=f L (by unfold je;rw [j12,c];exact R0);obtain ⟨n,e⟩:=I.base.slot L o i (I.ok.frf L a) a λ z=>I.ok.exfs L z a;exact ⟨k,⟨L,_,c,m,e,g⟩,ih (λ b d=>f b (by unfold je;rw [j12,c];exact Y0 _ d)) h⟩
 exact all X.outer (λ _ d=>d) I.ok.funs
def Inv.stack (I:Inv X pins σ H s):s.heap.FunFrames X.base X.stack:=by
 rcases I.ok.stk with e|⟨e,hf⟩
 ·rw [e];exact I.funs
 ·rw [e];obtain ⟨m,a,_⟩:=I.loc;refine .cons (by rw [I.ok.kind];decide) hf a ?_ I.funs;exact Heap.get?_none_of_le (C0 I.ok.bsz I.ok.above)
def Inv.stkSub (I:Inv X pins σ H s) :∀b∈je X.stack,b∈X.env.locals :: X.fs:=λ b a=>by
 rcases I.ok.stk with e|⟨e,hf⟩
 ·rw [e] at a;exact Y0 _ a
 ·rw [e] at a;unfold je at a;rw [j12,hf] at a;exact a
def Inv.stkFree (I:Inv X pins σ H s) :∀b∈je X.stack,H b=none:=λ b a=>by
 rcases List.mem_cons.mp (I.stkSub b a) with e|a
 ·rw [e];exact I.free
 ·obtain ⟨_,o,c,_⟩:=I.ok.funs.mem a;exact I.base.free b o c (I.ok.frf b a) λ z=>I.ok.exfs b z a
def Inv.step {g':Array GenState} {d':Drawn} (I:Inv X pins σ H s)
  (hch :∀b∈ch,(b∈X.ex\/X.s₀.heap.objs.size<=b)/\b≠X.env.locals/\(∀x c,X.env.cells.lookup x=some c->c≠b)/\∀p∈X.pn++pins,p.1≠b)
  (keep :∀b o,b≠X.env.locals->b∉X.fs->b∉ch->s.heap.get? b=some o->H b=none->h'.get? b=some o)
  (slot :∀b o,b≠X.env.locals->b∈X.fs->b∉ch->s.heap.get? b=some o->H b=none->∃sl,h'.get? b=some { o with slots:=sl }) (free :∀b o,b∉ch->s.heap.get? b=some o->H b=none->H' b=none)
  (there :∀b o,b∉ch->s.heap.get? b=some o->∃o',h'.get? b=some o')
  (tups :∀b xs,H b=some (.tup xs)->H' b=some (.tup xs)) (frzs :∀b o u,H b=some (.frz o u)->H' b=some (.frz o u)) (tbls :∀b ps,H b=some (.tbl ps)->∃more,H' b=some (.tbl (ps++more)))
  (ns :∀m,s.heap.Ns X.env.locals m->h'.Ns X.env.locals m) (hok:fN X.prog X.w H' h') (hg:E9 g') :
  Inv X pins σ H' { s with heap:=h',gens:=g',drawn:=d',toks:=t' }:=by
 have C :∀b o,X.s₀.heap.get? b=some o->b≠X.env.locals:=λ b o e=>P1 (O1 (V0 e) I.ok.above);have y :∀b o,X.s₀.heap.get? b=some o->b∉X.ex->b∉ch:=λ b o e a g=>by
  rcases (hch b g).1 with z|z
  ·exact a z
  ·exact absurd (O1 (V0 e) z) (Y3 _)
 have F :∀x c,X.env.cells.lookup x=some c->∀v,s.heap.IsCell c v->h'.IsCell c v:=λ x c e v ⟨o,h,A⟩=>by
  have t:c∉ch:=λ z=>(hch c z).2.2.1 x c e rfl;by_cases hc:c∈X.fs
  ·obtain ⟨sl,q⟩:=slot c o (I.cne x c e) hc t h (I.freeC x c e);exact ⟨_,q,A⟩
  ·exact ⟨o,keep c o (I.cne x c e) hc t h (I.freeC x c e),A⟩
 refine ⟨I.ok,I.os,hg,⟨λ b o e n g a=>?_,λ b o e n g a=>?_,λ b o e n a=>?_,λ b o e a=>?_,λ b xs e=>tups b xs (I.base.tups b xs e),λ b o xs e=>frzs b o xs (I.base.frzs b o xs e),λ b ps e=>?_⟩,?_,λ x c e=>?_,?_,λ x c e=>?_,λ p D=>?_,hok,I.len⟩
 ·exact keep b o (C b o e) g (y b o e a) (I.base.keep b o e n g a) (I.base.free b o e n a)
 ·obtain ⟨sl,f⟩:=I.base.slot b o e n g a;obtain ⟨G,j⟩:=slot b _ (C b o e) g (y b o e a) f (I.base.free b o e n a);exact ⟨G,j⟩
 ·obtain ⟨o',f⟩:=I.base.there b o e a;exact free b o' (y b o e a) f (I.base.free b o e n a)
 ·obtain ⟨o',f⟩:=I.base.there b o e a;exact there b o' (y b o e a) f
 ·obtain ⟨N,f⟩:=I.base.tbls b ps e;obtain ⟨L,j⟩:=tbls b _ f;exact ⟨N++L,by rw [j,Array.append_assoc]⟩
 ·obtain ⟨m,M,J⟩:=I.loc;refine ⟨m,ns m M,λ i x v f j K=>?_⟩;obtain ⟨u,r,l⟩:=J i x v f j K;refine ⟨u,r,?_⟩;rcases l with l|⟨k,c,e,z⟩
  ·exact .inl l
  ·exact .inr ⟨k,c,e,F x c e _ z⟩
 ·obtain ⟨v,z⟩:=I.cell x c e;exact ⟨v,F x c e v z⟩
 ·obtain ⟨m,⟨o,_,_,h,_⟩,_⟩:=I.loc;exact free _ o (λ z=>(hch _ z).2.1 rfl) h I.free
 ·obtain ⟨v,o,h,A⟩:=I.cell x c e;exact free c o (λ z=>(hch c z).2.2.1 x c e rfl) h (I.freeC x c e)
 ·obtain ⟨e,n,E,B,d⟩:=I.pin p D;have t:p.1∉ch:=λ z=>(hch p.1 z).2.2.2 p D rfl;exact ⟨keep p.1 p.2 E B t e n,free p.1 p.2 t e n,E,B,d⟩
def Inv.un (I:Inv X pins σ H s) (u:Un X.fs [] H H' s.heap h') (hok:fN X.prog X.w H' h'):Inv X pins σ H' { s with heap:=h',toks:=t' }:=by obtain ⟨m,⟨o,p,k,c,r⟩,_⟩:=id I.loc;obtain ⟨t,f⟩:=u.any c I.free (by simp);exact I.step (g':=s.gens) (d':=s.drawn) (ch:=[]) (λ _ z=>nomatch z) (λ b o _ a _ e n=>u.keep b o e n a (by simp)) (λ b o _ a _ e n=>u.slot b o e n a (by simp)) (λ b o _ e n=>u.free b o e n (by simp)) (λ b o _ e=>u.there b o e (by simp)) u.tups u.frzs u.tbls (λ l j=>by obtain ⟨q,h,i,d,g⟩:=j;rw [c] at d;cases d;exact ⟨_,h,i,f,g⟩) hok I.bare
def Inv.call {g':Array GenState} {d':Drawn} (I:Inv X pins σ H s) (u:Un (je X.stack) ch H H' s.heap h') (hok:fN X.prog X.w H' h') (hg:E9 g')
  (hch :∀b∈ch,(b∈X.ex\/X.s₀.heap.objs.size<=b)/\b≠X.env.locals/\(∀x c,X.env.cells.lookup x=some c->c≠b)/\∀p∈X.pn++pins,p.1≠b) :
  Inv X pins σ H' { s with heap:=h',gens:=g',drawn:=d',toks:=t' }:=by
 obtain ⟨m,⟨o,v,q,f,r⟩,_⟩:=id I.loc;obtain ⟨A,d⟩:=u.any f I.free λ z=>(hch _ z).2.1 rfl;exact I.step (ch:=ch) hch (λ b o d k a e n=>u.keep b o e n (λ z=>(List.mem_cons.mp (I.stkSub b z)).elim d k) a) (λ b o _ _ a e n=>u.any e n a) (λ b o a e n=>u.free b o e n a) (λ b o a e=>u.there b o e a) u.tups u.frzs u.tbls (λ t l=>by obtain ⟨y,i,j,g,h⟩:=l;rw [f] at g;cases g;exact ⟨_,i,j,d,h⟩) hok hg
def Inv.turned {it:ZR} (I:Inv X pins σ H s) (k :∀b o,b≠it->s.heap.get? b=some o->h'.get? b=some o) (hn:H it=none) (hL:it≠X.env.locals)
  (h1:it∈X.ex\/X.s₀.heap.objs.size<=it) (h2 :∀x c,X.env.cells.lookup x=some c->c≠it) (h3 :∀p∈X.pn++pins,p.1≠it):Inv X pins σ H { s with heap:=h',toks:=t' }:=by
 have d :∀b u,H b=some u->b≠it:=λ b u e z=>by rw [z,hn] at e;cases e
 refine I.step (g':=s.gens) (d':=s.drawn) (ch:=[it]) (λ b j=>?_) (λ b o _ _ a e _=>k b o (λ z=>a (by simp [z])) e) (λ b o _ _ a e _=>⟨o.slots,k b o (λ z=>a (by simp [z])) e⟩) (λ _ _ _ _ n=>n)
  (λ b o a e=>⟨o,k b o (λ z=>a (by simp [z])) e⟩) (λ _ _ e=>e) (λ _ _ _ e=>e) (λ b l e=>⟨#[],by rw [e];simp⟩) (λ m g=>?_) (λ b u e=>?_) I.bare
 ·have e:b=it:=by simpa using j
  subst e;exact ⟨h1,hL,h2,h3⟩
 ·obtain ⟨o,h,i,f,r⟩:=g;exact ⟨o,h,i,k _ o (F4 hL) f,r⟩
 ·refine (I.hok b u e).stay (λ c v a q=>k c v ?_ q) (λ _ q=>q) λ _ _ q=>q;rcases a with z|z
  ·rw [z];exact d b u e
  ·exact d c _ z
def Inv.tok (I:Inv X pins σ H s) (t:Nat):Inv X pins σ H { s with toks:=t }:=I.un (h':=s.heap) (t':=t) Un.refl I.hok
def Inv.kept (I:Inv X pins σ H s) (k :∀b u,s.heap.get? b=some u->h'.get? b=some u):Inv X pins σ H { s with heap:=h',toks:=t' }:=I.un (Un.kept k) (I.hok.kept k)
def Inv.laid (I:Inv X pins σ H s) (k :∀b u,s.heap.get? b=some u->h'.get? b=some u) (hp:s.heap.objs.size<=a) (new:bb X.prog X.w (upd H a o) h' a o) :
  Inv X pins σ (upd H a o) { s with heap:=h',toks:=t' }:=I.un (Un.laid k hp (I.hok.fresh hp)) (I.hok.laid k hp new)
def Inv.write {x e:ZR} (I:Inv X pins σ H s) (mu:vY (H x)) (he:e=x\/H e=some (.own x)) (k :∀b u,b≠e->s.heap.get? b=some u->h'.get? b=some u) (heo :∃u,h'.get? e=some u)
  (new:bb X.prog X.w (upd H x o) h' x o):Inv X pins σ (upd H x o) { s with heap:=h',toks:=t' }:=I.un (Un.write mu he k heo) (I.hok.write mu he k heo new)
def Inv.weak {σ':List (Option V)} (I:Inv X pins σ H s) (hl:σ'.length=σ.length) (w :∀(i:Nat) v,σ'[i]? = some (some v)->σ[i]? = some (some v)):Inv X pins σ' H s:=
 ⟨I.ok,I.os,I.bare,I.base,let ⟨m,hn,hl'⟩:=I.loc;⟨m,hn,λ i x v a b c=>hl' i x v a (w i v b) c⟩,I.cell,I.free,I.freeC,I.pin,I.hok,hl.trans I.len⟩
def Inv.pins_of {pins':List (ZR×ZP)} (I:Inv X pins σ H s) (h :∀p∈pins',s.heap.get? p.1=some p.2/\H p.1=none/\p.1≠X.env.locals/\p.1∉X.fs/\∀v,p.2.data≠.cell v):Inv X pins' σ H s:=
 ⟨I.ok,I.os,I.bare,I.base,I.loc,I.cell,I.free,I.freeC,λ p a=>(List.mem_append.mp a).elim (λ z=>I.pin p (A7 _ z)) (h p),I.hok,I.len⟩
def Eu {N:List ZQ} (hN:N.Nodup) {j:Nat} (a:N[i]? = some x) (b:N[j]? = some x):i=j:=by obtain ⟨e,c⟩:=List.getElem?_eq_some_iff.mp a;obtain ⟨f,d⟩:=List.getElem?_eq_some_iff.mp b;exact (List.getElem_inj hN).mp (c.trans d.symm)
def LZ {Q:Unit->A0->Prop} (I:Inv X pins σ H s) (hN:X.N.Nodup) (hi:X.N[i]? = some x) (hx:Loc X.env.scope x) (r:RelV v u)
  (h :∀s',Inv X pins (σ.set i (some v)) H s'->(∃a,R6 a s.heap s'.heap/\(a=X.env.locals\/X.env.cells.lookup x=some a))->Q () s') (hf:X.fn x=true\/X.env.scope.names.lookup x=some .local:=by first|exact .inl rfl|exact .inr rfl|assumption):W0 M A (storeName X.env x u) Q E s:=by
 obtain ⟨m,S,Y⟩:=id I.loc;have a6:(X.env.scope.kind == .class || (X.env.scope.kind == .module && X.env.locals != X.env.globals))=false:=by rw [I.ok.kind];rfl
 have a2:i < σ.length:=by rw [I.len];exact (List.getElem?_eq_some_iff.mp hi).1
 have cne:=I.cne;have a0 :∀{a:ZR} {C:ZL},(∃o,s.heap.get? a=some o/\H a=none)->R6 a s.heap C->fN X.prog X.w H C:=λ {a C} ha f b ob e=>by
  obtain ⟨_,_,a1⟩:=ha;refine (I.hok b ob e).stay (λ c D l q=>(f.2 c ?_).trans q) (λ _ q=>q) λ _ _ q=>q;rintro rfl;rcases l with rfl|l
  ·rw [a1] at e;cases e
  ·rw [a1] at l;cases l
 rcases hx with hk|hk
 ·refine wpAny_storeName_local hk S (λ C a4 f=>?_) a6;obtain ⟨oL,_,_,a5,_⟩:=id S;refine h _ ⟨I.ok,I.os,I.bare,⟨λ b o e n B hx=>?_,λ b o e n B hx=>?_,I.base.free,λ b o e hx=>?_,I.base.tups,I.base.frzs,I.base.tbls⟩,⟨_,a4,λ j y J g t L=>?_⟩,λ y c e=>?_,I.free,I.freeC,λ p U=>?_,a0 ⟨oL,a5,I.free⟩ f,by simpa using I.len⟩ ⟨_,f,.inl rfl⟩
  ·exact (f.2 b (P1 (O1 (V0 e) I.ok.above))).trans (I.base.keep b o e n B hx)
  ·obtain ⟨T,g⟩:=I.base.slot b o e n B hx;exact ⟨T,(f.2 b (P1 (O1 (V0 e) I.ok.above))).trans g⟩
  ·obtain ⟨P,g⟩:=I.base.there b o e hx;exact ⟨P,(f.2 b (P1 (O1 (V0 e) I.ok.above))).trans g⟩
  ·by_cases hj:j=i
   ·subst hj;rw [hi] at g;cases g;rw [j54 a2] at t;cases t;exact ⟨u,r,.inl ⟨hk,by simp⟩⟩
   ·rw [j67 (F4 hj)] at t;obtain ⟨W,R,q⟩:=Y j y J g t L;refine ⟨W,R,?_⟩;rcases q with ⟨k,e⟩|⟨k,c,e,z⟩
    ·refine .inl ⟨k,?_⟩;have:y≠x:=λ e=>hj (Eu hN g (e ▸ hi));simp [this,e]
    ·exact .inr ⟨k,c,e,z.sameBut f (cne y c e)⟩
  ·obtain ⟨D,z⟩:=I.cell y c e;exact ⟨D,z.sameBut f (cne y c e)⟩
  ·obtain ⟨e,n,G,O,d⟩:=I.pin p U;exact ⟨(f.2 p.1 G).trans e,n,G,O,d⟩
 ·have K:X.fn x=true:=by
   rcases hf with z|z
   ·exact z
   ·rw [z] at hk;cases hk
  obtain ⟨c,l⟩:=I.ok.has x (.inl hk);obtain ⟨D,z⟩:=I.cell x c l;refine wpAny_storeName_cell I.ok.kind hk l z (λ C Z f=>?_);obtain ⟨oc,a3,a7⟩:=id z;refine h { s with heap:=C } ⟨I.ok,I.os,I.bare,⟨λ b o e n B hx=>?_,λ b o e n B hx=>?_,I.base.free,λ b o e hx=>?_,I.base.tups,I.base.frzs,I.base.tbls⟩,⟨m,S.sameBut f (F4 (cne x c l)),λ j y J g t L=>?_⟩,λ y F e=>?_,I.free,I.freeC,λ p U=>?_,a0 ⟨oc,a3,I.freeC x c l⟩ f,by simpa using I.len⟩ ⟨c,f,.inr l⟩
  ·exact (f.2 b (P1 (O1 (V0 e) (I.ok.cab x c K l)))).trans (I.base.keep b o e n B hx)
  ·obtain ⟨T,g⟩:=I.base.slot b o e n B hx;exact ⟨T,(f.2 b (P1 (O1 (V0 e) (I.ok.cab x c K l)))).trans g⟩
  ·obtain ⟨P,g⟩:=I.base.there b o e hx;exact ⟨P,(f.2 b (P1 (O1 (V0 e) (I.ok.cab x c K l)))).trans g⟩
  ·by_cases hj:j=i
   ·subst hj;rw [hi] at g;cases g;rw [j54 a2] at t;cases t;exact ⟨u,r,.inr ⟨.inl hk,c,l,Z⟩⟩
   ·rw [j67 (F4 hj)] at t;obtain ⟨W,R,q⟩:=Y j y J g t L;refine ⟨W,R,?_⟩;rcases q with q|⟨k,F,e,z'⟩
    ·exact .inl q
    ·refine .inr ⟨k,F,e,z'.sameBut f ?_⟩;rintro rfl;exact hj (Eu hN g (I.ok.inj _ _ _ e l ▸ hi))
  ·by_cases hcc:F=c
   ·subst hcc;exact ⟨_,Z⟩
   ·obtain ⟨w2,z2⟩:=I.cell y F e;exact ⟨w2,z2.sameBut f hcc⟩
  ·obtain ⟨e,n,G,O,d⟩:=I.pin p U;refine ⟨(f.2 p.1 ?_).trans e,n,G,O,d⟩;intro q;rw [q,a3] at e;have q':oc=p.2:=Q1 e;exact d D (by rw [<-q'];exact a7)
def GW {Q:Unit->A0->Prop} (I:Inv X pins σ H s) (hN:X.N.Nodup) (hi:X.N[i]? = some x) (hx:Loc X.env.scope x) (r:RelV v u)
  (h :∀s',Inv X pins (σ.set i (some v)) H s'->Q () s') (hf:X.fn x=true\/X.env.scope.names.lookup x=some .local:=by first|exact .inl rfl|exact .inr rfl|assumption):W0 M A (storeName X.env x u) Q E s:=
 LZ I hN hi hx r (λ s' a _=>h s' a) hf
def Inv.call' (I:Inv X pins σ H s) (ho:s'.os=s.os) (u:Un (je X.stack) ch H H' s.heap s'.heap) (hok:fN X.prog X.w H' s'.heap) (hg:E9 s'.gens)
  (hch :∀b∈ch,(b∈X.ex\/X.s₀.heap.objs.size<=b)/\b≠X.env.locals/\(∀x c,X.env.cells.lookup x=some c->c≠b)/\∀p∈X.pn++pins,p.1≠b):Inv X pins σ H' s':=by
 obtain ⟨d,g',d',t',a⟩:=s';have e:a=s.os:=ho;subst e;exact I.call (g':=g') (t':=t') (d':=d') u hok hg hch
end
noncomputable abbrev XK:=ZF->Option ZR->Hp->Prop
noncomputable abbrev St:=List (Option V)
noncomputable abbrev VK:=V->Hp->Prop
noncomputable abbrev TE:=St->Hp->VK->Prop
noncomputable abbrev TT:=St->Hp->(Bool->Hp->Prop)->Prop
noncomputable abbrev TA:=St->Hp->(List V->Hp->Prop)->Prop
structure Ends where
 nx:St->Hp->Prop
 rt:VK
 bk:St->Hp->Prop:=λ _ _=>False
 ct:St->Hp->Prop:=λ _ _=>False
noncomputable abbrev TS:=Ends->St->Hp->Prop
def EP (X:Cx) (pins:List (ZR×ZP)) (σ:St) (Q:VK) (u:ZF) (s':A0):Prop:=∃v H',Inv X pins σ H' s'/\RelV v u/\Q v H'
def TP (X:Cx) (pins:List (ZR×ZP)) (σ:St) (Q:Bool->Hp->Prop) (b:Bool) (s':A0):Prop:=∃H',Inv X pins σ H' s'/\Q b H'
def AP (X:Cx) (pins:List (ZR×ZP)) (σ:St) (Q:List V->Hp->Prop) (us:List ZF) (s':A0):Prop:=∃vs H',Inv X pins σ H' s'/\aI vs us/\Q vs H'
def SP (X:Cx) (pins:List (ZR×ZP)) (D:Ends) (f:Flow) (s':A0):Prop:=
 match f with
 | .next=>∃σ' H',Inv X pins σ' H' s'/\D.nx σ' H'
 | .brk=>∃σ' H',Inv X pins σ' H' s'/\D.bk σ' H'
 | .cont=>∃σ' H',Inv X pins σ' H' s'/\D.ct σ' H'
 | .ret u=>∃v σ' H',Inv X pins σ' H' s'/\RelV v u/\D.rt v H'
def PE (X:Cx) (e:ZM) (t:TE):Prop:=
 ∀(pins:List (ZR×ZP)) (s:A0) (σ:St) (H:Hp) (Q:VK),Inv X pins σ H s->t σ H Q->W0 (B1 X.prog X.w) X.A (U3 e X.env) (EP X pins σ Q) X.xe s
def PT (X:Cx) (e:ZM) (t:TT):Prop:=
 ∀(pins:List (ZR×ZP)) (s:A0) (σ:St) (H:Hp) (Q:Bool->Hp->Prop),Inv X pins σ H s->t σ H Q->W0 (B1 X.prog X.w) X.A (isTrue e X.env (U3 e X.env)) (TP X pins σ Q) X.xe s
def PW (X:Cx) (e:ZM) (t:TT):Prop:=
 ∀(whole:ZN ZF) (pins:List (ZR×ZP)) (s:A0) (σ:St) (H:Hp) (Q:Bool->Hp->Prop),Inv X pins σ H s->t σ H Q->W0 (B1 X.prog X.w) X.A (isTrue e X.env whole) (TP X pins σ Q) X.xe s
variable {e:ZM}
def PW.pt {t:TT} (h:PW X e t):PT X e t:=h _
def PA (X:Cx) (es:List ZM) (t:TA):Prop:=
 ∀(pos:ZO) (pins:List (ZR×ZP)) (s:A0) (σ:St) (H:Hp) (Q:List V->Hp->Prop),Inv X pins σ H s->t σ H Q->W0 (B1 X.prog X.w) X.A (spliced (J4 pos (S1 es X.env))) (AP X pins σ Q) X.xe s
def PS (X:Cx) (st:ZK) (t:TS):Prop:=
 ∀(pins:List (ZR×ZP)) (s:A0) (σ:St) (H:Hp) (D:Ends),Inv X pins σ H s->t D σ H->W0 (B1 X.prog X.w) X.A (exec st X.env) (SP X pins D) X.xe s
def jz (X:Cx) (st:List ZK) (t:TS):Prop:=
 ∀(pins:List (ZR×ZP)) (s:A0) (σ:St) (H:Hp) (D:Ends),Inv X pins σ H s->t D σ H->W0 (B1 X.prog X.w) X.A (execs st X.env) (SP X pins D) X.xe s
def ba {α:Type} {t:ZN α} {Q Q':α->A0->Prop} (h:W0 M A t Q E s) (hQ :∀a s,Q a s->Q' a s):W0 M A t Q' E s:=L3 h hQ λ _ _ x=>x
variable {Q:ZF->A0->Prop} {c:ZM} {op:CmpOp} {pos:ZO} {ta:TE} {σ:St}
section
inductive BB (i:Nat) (σ:St) (H:Hp) (Q:VK):Prop
 | mk (v:V) (e:σ[i]? = some (some v)) (q:Q v H)
def gT (i:Nat):TE:=λ σ H Q=>BB i σ H Q
def tC (v:V):TE:=λ _ H Q=>Q v H
def lW (hN:X.N[i]? = some x) (hv:xy X.env.scope x) (hd:(x == ("__debug__" : ZQ))=false:=by decide) (hcd:(x == ("__classdict__" : ZQ))=false:=by decide):PE X (.Name x pos) (gT i):=by
 intro g s σ H Q I h;obtain ⟨v,e,h⟩:=h;obtain ⟨m,j,f⟩:=I.loc;obtain ⟨u,r,l⟩:=f i x v hN e hv;have b:EP X g σ Q u s:=⟨v,H,I,r,h⟩
 rcases l with ⟨a,d⟩|⟨a,c,hc,hcell⟩
 ·exact wpAny_Name (wpAny_loadName_local I.ok.kind a j d b) hd
 ·rcases a with a|a
  ·exact wpAny_Name (wpAny_loadName_cell I.ok.kind a hc hcell b) hd
  ·exact wpAny_Name (wpAny_loadName_free I.ok.kind a hc hcell b hcd) hd
def ag {i j pos}:PE X (.Constant (.int i) j pos) (tC (.int i)):=λ _ _ _ H _ I h=>wpAny_Constant_int ⟨.int i,H,I.tok _,⟨_,rfl⟩,h⟩
def dm {b j pos}:PE X (.Constant (.bool b) j pos) (tC (.bl b)):=λ _ _ _ H _ I h=>Constant_bool ⟨.bl b,H,I,rfl,h⟩
def bw {j pos}:PE X (.Constant .none j pos) (tC .non):=λ _ _ _ H _ I h=>Constant_none ⟨.non,H,I,rfl,h⟩
def aA {x j pos}:PE X (.Constant (.str x) j pos) (tC (.str x)):=λ _ _ _ H _ I h=>Calls.Constant_str ⟨.str x,H,I.tok _,⟨_,rfl⟩,h⟩
def Gl (X:Cx) (x:ZQ):Prop:=X.env.kindOf x=some .globalImplicit
def wC (I:Inv X pins σ H s) (hg:Gl X x) (hm:X.mg x=some u) (h:Q u s)
  (hd:(x == ("__debug__" : ZQ))=false:=by decide):W0 (B1 X.prog X.w) X.A (U3 (.Name x pos) X.env) Q E s:=
 j39 I.ok.kind hg (Calls.loadGlobal_global (by rw [I.ok.glob];exact I.mod.glob.keeps I.bk) hm h) hd
def fo (I:Inv X pins σ H s) (hg:Gl X x) (hm:X.mg x=none) (hv:B8 x=some u) (h:Q u s)
  (hn:x≠"__name__":=by decide) (hd:(x == ("__debug__" : ZQ))=false:=by decide):W0 (B1 X.prog X.w) X.A (U3 (.Name x pos) X.env) Q E s:=by
 obtain ⟨c,a,b⟩:=I.mod.blt;exact j39 I.ok.kind hg (Calls.loadGlobal_builtin (by rw [I.ok.glob];exact I.mod.glob.keeps I.bk) hm (by rw [I.ok.blt];exact a.keeps I.bk) ((b x hn).trans hv) h) hd
def qB (hg:Gl X x) (hm:X.mg x=some u) (r:RelV v u) (hd:(x == ("__debug__" : ZQ))=false:=by decide):PE X (.Name x pos) (tC v):=
 λ _ _ _ H _ I h=>wC I hg hm ⟨v,H,I,r,h⟩ hd
def oE (hg:Gl X x) (hm:X.mg x=none) (hv:B8 x=some u) (r:RelV v u) (hn:x≠"__name__":=by decide) (hd:(x == ("__debug__" : ZQ))=false:=by decide):PE X (.Name x pos) (tC v):=
 λ _ _ _ H _ I h=>fo I hg hm hv ⟨v,H,I,r,h⟩ hn hd
variable {a b:ZM} {tb:TE} 
def PC (X:Cx) (op:CmpOp) (a b:ZM) (t:TE):Prop:=
 ∀(pins:List (ZR×ZP)) (s:A0) (σ:St) (H:Hp) (Q:VK),Inv X pins σ H s->t σ H Q->
  W0 (B1 X.prog X.w) X.A (U3 a X.env) (λ v s₁=>W0 (B1 X.prog X.w) X.A (U3 b X.env) (λ u s₂=>W0 (B1 X.prog X.w) X.A (T2 op v u) (EP X pins σ Q) X.xe s₂) X.xe s₁) X.xe s
def tB (t:TE):TT:=λ σ H Q=>t σ H λ x H1=>∃c,x=.bl c/\Q c H1
def qR {t:TE} (h:PC X op a b t) (h1:G9 op b=false:=by first|exact nobehind _ '!' '!'|rfl):PT X (.Compare a [op] [b] pos) (tB t):=by intro f s σ H Q I g;refine wpAny_isTrue_Compare1 (ba (h f s σ H _ I g) λ v i h1=>ba h1 λ u k e=>ba e λ c j zz=>?_) h1;obtain ⟨x,H1,I1,r1,q1⟩:=zz;obtain ⟨d,rfl,q⟩:=q1;cases r1;exact V4 ⟨H1,I1,q⟩
def bS {t:TE} (h:PE X e t) (he :∀whole,isTrue e X.env whole=(do let v <-whole;j52 e.pos;j35 [v] (truthy v)):=by intro _;rfl):PT X e (tB t):=by intro a s σ H Q I b;refine isTrue_plain (ba (h a s σ H _ I b) λ v c zz=>?_) (he _);obtain ⟨x,H1,I1,r1,q1⟩:=zz;obtain ⟨d,rfl,q⟩:=q1;cases r1;exact V4 ⟨H1,I1,q⟩
variable {tA tB':TT} {rest:List ZM}
def ua (t u:TT):TT:=λ σ H Q=>t σ H λ c H1=>if c=true then u σ H1 Q else Q false H1
def Ia (t u:TT):TT:=λ σ H Q=>t σ H λ c H1=>if c=true then Q true H1 else u σ H1 Q
def yM (t:TT):TT:=λ σ H Q=>t σ H λ c H1=>Q (!c) H1
def xi (ha:PT X a tA):PW X (.BoolOp .And [a] pos) tA:=by
 intro d b s σ H Q I h;refine isTrue_and (ba (ha b s σ H Q I h) λ c f e=>?_);cases c with
 | true=>exact isTrue_and_nil e
 | false=>exact e
def gc (ha:PT X a tA):PW X (.BoolOp .Or [a] pos) tA:=by
 intro d b s σ H Q I h;refine isTrue_or (ba (ha b s σ H Q I h) λ c f e=>?_);cases c with
 | false=>exact isTrue_or_nil e
 | true=>exact e
def gR (ha:PT X a tA) (hb:PW X (.BoolOp .And (b :: rest) pos) tB'):PW X (.BoolOp .And (a :: b :: rest) pos) (ua tA tB'):=by
 intro e d s σ H Q I h;refine isTrue_and (ba (ha d s σ H _ I h) λ c f ⟨H1,I1,q1⟩=>?_);cases c with
 | true=>exact hb e d f σ H1 Q I1 q1
 | false=>exact ⟨H1,I1,q1⟩
def gB (ha:PT X a tA) (hb:PW X (.BoolOp .Or (b :: rest) pos) tB'):PW X (.BoolOp .Or (a :: b :: rest) pos) (Ia tA tB'):=by
 intro e d s σ H Q I h;refine isTrue_or (ba (ha d s σ H _ I h) λ c f ⟨H1,I1,q1⟩=>?_);cases c with
 | true=>exact ⟨H1,I1,q1⟩
 | false=>exact hb e d f σ H1 Q I1 q1
def eR (ha:PT X a tA):PT X (.UnaryOp .Not a pos) (yM tA):=by intro b s σ H Q I h;exact isTrue_not (ha b s σ H (λ c d=>Q (!c) d) I h)
def vW (ta tb:TE):TE:=λ σ H Q=>ta σ H λ x H1=>∃c,x=.bl c/\if c=true then tb σ H1 Q else Q (.bl false) H1
def uL (ta:TE):TE:=λ σ H Q=>ta σ H λ x H1=>∃c,x=.bl c/\Q (.bl (!c)) H1
def eO {op} {t:TE} (h:PE X a t):PE X (.BoolOp op [a] pos) t:=λ b s σ H Q I c=>BoolOp_one (h b s σ H Q I c)
def eF (ha:PE X a ta) (hb:PE X (.BoolOp .And (b :: rest) pos) tb):PE X (.BoolOp .And (a :: b :: rest) pos) (vW ta tb):=by
 intro e s σ H Q I h;refine BoolOp_and (ba (ha e s σ H _ I h) λ v f zz=>?_);obtain ⟨x,H1,I1,r1,d⟩:=zz;obtain ⟨c,rfl,d⟩:=d;cases r1;refine V4 ?_;cases c with
 | true=>exact hb e f σ H1 Q I1 d
 | false=>exact ⟨.bl false,H1,I1,rfl,d⟩
def rn (ha:PE X a ta):PE X (.UnaryOp .Not a pos) (uL ta):=by intro d s σ H Q I h;refine UnaryOp_ (ba (ha d s σ H _ I h) λ v e zz=>?_);obtain ⟨x,H1,I1,r1,b⟩:=zz;obtain ⟨c,rfl,b⟩:=b;cases r1;exact not_of (V4 ⟨.bl (!c),H1,I1,rfl,b⟩)
def NP (t:TT) (ta tb:TE):TE:=λ σ H Q=>t σ H λ c H1=>if c=true then ta σ H1 Q else tb σ H1 Q
def Ru (hc:PT X c tA) (ha:PE X a ta) (hb:PE X b tb):PE X (.IfExp c a b pos) (NP tA ta tb):=by
 intro e s σ H Q I h;refine wpAny_IfExp (ba (hc e s σ H _ I h) λ d f ⟨H1,I1,q1⟩=>?_);cases d with
 | true=>exact ha e f σ H1 Q I1 q1
 | false=>exact hb e f σ H1 Q I1 q1
end
def aH (K:c0) (H:Hp) (a:ZR) (xs:List V):Prop:=
 Rd H a (.lst xs)\/
  ∃(o:ZP) (its:Array ZF) (n:Nat),K.lookup a=some o/\o.cls=.type "list"/\o.dict=none/\o.data=.seq its n/\its.size<=ZE/\aI xs its.toList
def aG (K:c0) (H:Hp) (a:ZR) (xs:List V):Prop:=
 Rd H a (.tup xs)\/
  ∃(o:ZP) (its:Array ZF) (n:Nat),K.lookup a=some o/\o.cls=.type "tuple"/\o.data=.seq its n/\its.size<=ZE/\aI xs its.toList
noncomputable def yc:ZF->Option V
 | .none=>some .non
 | .bool b=>some (.bl b)
 | .int i _=>some (.int i)
 | .str x _=>some (.str x)
 | .bytes b _=>some (.byt b)
 | .float b _=>some (.flt b)
 | .ref a=>some (.ref a)
 | .type n=>some (.ty n)
 | _=>none
def RelV.abs {x:V} (r:RelV x u):yc u=some x:=by
 cases x with
 | non=>cases r;rfl
 | bl _=>cases r;rfl
 | int _=>obtain ⟨t,rfl⟩:=r;rfl
 | str _=>obtain ⟨t,rfl⟩:=r;rfl
 | byt _=>obtain ⟨t,rfl⟩:=r;rfl
 | flt _=>obtain ⟨t,rfl⟩:=r;rfl
 | ref _=>cases r;rfl
 | ty _=>cases r;rfl
variable {y:V}
def RelV.inj {x:V} (r:RelV x u) (q:RelV y u):x=y:=Q1 (r.abs.symm.trans q.abs)
theorem aI.inj:∀{xs ys:List V} {us:List ZF},aI xs us->aI ys us->xs=ys
 | _,_,_,.nil,.nil=>rfl
 | _,_,_,.cons r t,.cons r' t'=>by rw [r.inj r',aI.inj t t']
variable {K:c0}
section
variable {ys:List V}
def aH.of (h:H a=some (.lst xs)):aH K H a xs:=.inl (.inl h)
def aG.of (h:H a=some (.tup xs)):aG K H a xs:=.inl (.inl h)
theorem Inv.list (I:Inv X pins σ H s) (h:aH X.K H a xs) :∃its:List ZF,aI xs its/\PlainL s.heap a its.toArray/\xs.length<=ZE:=by
 rcases h with h|⟨o,its,n,hk,hc,hd,hs,hz,r⟩
 ·obtain ⟨z,its,n,r,e⟩:=h.ok I.hok;exact ⟨its,r,⟨_,n,e,rfl,rfl,rfl⟩,z⟩
 ·refine ⟨its.toList,r,⟨o,n,I.kIn a o hk,hc,hd,by simpa using hs⟩,?_⟩;have e:=r.length;simp only [O0] at e
  lia
theorem Inv.tuple (I:Inv X pins σ H s) (h:aG X.K H a xs) :∃its:List ZF,aI xs its/\IsTup s.heap a its.toArray/\xs.length<=ZE:=by
 rcases h with h|⟨o,its,n,hk,hc,hs,hz,r⟩
 ·obtain ⟨z,its,r,p⟩:=h.ok I.hok;exact ⟨its,r,p.1,z⟩
 ·refine ⟨its.toList,r,⟨o,I.kIn a o hk,hc,n,by simpa using hs⟩,?_⟩;have e:=r.length;simp only [O0] at e
  lia
def Inv.list_inj (I:Inv X pins σ H s) (h:aH X.K H a xs) (h':aH X.K H a ys):xs=ys:=by
 obtain ⟨i,r,⟨o,n,e,_,_,d⟩,_⟩:=I.list h;obtain ⟨f,g,⟨j,k,b,_,_,c⟩,_⟩:=I.list h';rw [e] at b;cases b;rw [d] at c;injection c with d1 _;have:i=f:=by simpa using congrArg Array.toList d1
 subst this;exact r.inj g
def Inv.tuple_inj (I:Inv X pins σ H s) (h:aG X.K H a xs) (h':aG X.K H a ys):xs=ys:=by
 obtain ⟨i,r,⟨o,e,_,n,d⟩,_⟩:=I.tuple h;obtain ⟨f,g,⟨j,b,_,k,c⟩,_⟩:=I.tuple h';rw [e] at b;cases b;rw [d] at c;injection c with d1 _;have:i=f:=by simpa using congrArg Array.toList d1
 subst this;exact r.inj g
end
noncomputable abbrev Cx.wish (X:Cx) (E:ZF->A0->Prop):Cx:={ X with xe:=E }
noncomputable abbrev Cx.nox (X:Cx):Cx:=X.wish λ _ _=>False
def Cx.Ok.wish (ok:X.Ok) (E:ZF->A0->Prop):(X.wish E).Ok:=
 ⟨ok.mod,ok.kind,ok.glob,ok.blt,ok.above,ok.inj,ok.has,ok.cab,ok.hd,ok.frames,ok.stk,ok.exf,ok.bs,ok.bsz,ok.noex,ok.exfs,ok.funs,ok.frf⟩
def Cx.Ok.unwish (ok:(X.wish E).Ok):X.Ok:=
 ⟨ok.mod,ok.kind,ok.glob,ok.blt,ok.above,ok.inj,ok.has,ok.cab,ok.hd,ok.frames,ok.stk,ok.exf,ok.bs,ok.bsz,ok.noex,ok.exfs,ok.funs,ok.frf⟩
variable {D:Ends}
section
def Inv.wish (I:Inv X pins σ H s) (E:ZF->A0->Prop):Inv (X.wish E) pins σ H s:=⟨I.ok.wish E,I.os,I.bare,I.base,I.loc,I.cell,I.free,I.freeC,I.pin,I.hok,I.len⟩
def Inv.unwish (I:Inv (X.wish E) pins σ H s):Inv X pins σ H s:=⟨I.ok.unwish,I.os,I.bare,I.base,I.loc,I.cell,I.free,I.freeC,I.pin,I.hok,I.len⟩
def SP.unwish {f:Flow} (h:SP (X.wish E) pins D f s'):SP X pins D f s':=by
 cases f with
 | next=>obtain ⟨a,b,I,q⟩:=h;exact ⟨a,b,I.unwish,q⟩
 | brk=>obtain ⟨a,b,I,q⟩:=h;exact ⟨a,b,I.unwish,q⟩
 | cont=>obtain ⟨a,b,I,q⟩:=h;exact ⟨a,b,I.unwish,q⟩
 | ret u=>obtain ⟨v,a,b,I,r,q⟩:=h;exact ⟨v,a,b,I.unwish,r,q⟩
def jz.nox {st:List ZK} {t:TS} (h:jz X.nox st t):jz X st t:=λ a s σ H D I b=>L3 (h a s σ H D (I.wish _) b) (λ _ _ q=>q.unwish) λ _ _ z=>O3 z
end
variable {te:TE}
section
variable {st:ZK} {rest:List ZK} {t u:TS} 
def mf:TS:=λ D σ H=>D.nx σ H
def gD (t u:TS):TS:=λ D σ H=>t { D with nx:=u D } σ H
def dD:jz X [] mf:=λ _ _ σ H _ I h=>j0f ⟨σ,H,I,h⟩
def aU (h1:PS X st t) (h2:jz X rest u):jz X (st :: rest) (gD t u):=by
 intro a s σ H D I h;refine wpAny_execs_cons (ba (h1 a s σ H { D with nx:=u D } I h) λ f e q=>?_);cases f with
 | next=>obtain ⟨c,d,b,q⟩:=q;exact h2 a e c d D b q
 | ret v=>exact q
 | brk=>exact q
 | cont=>exact q
def aT (h1:PS X st t):jz X [st] t:=by
 intro a s σ H D I h;refine wpAny_execs_cons (ba (h1 a s σ H D I h) λ f b q=>?_);cases f with
 | next=>exact j0f q
 | ret v=>exact q
 | brk=>exact q
 | cont=>exact q
def Inv.quiet (I:Inv X pins σ H s):interactive X.env=false:=by simp [interactive,I.ok.kind]
def uE (te:TE):TS:=λ D σ H=>te σ H λ _ H1=>D.nx σ H1
def kD (he:PE X e te) (hs:M7 e none pos.line X.env=Y1 false:=by rfl):PS X (.Expr e pos) (uE te):=by intro a s σ H D I h;exact wpAny_Expr_any (ba (he a s σ H _ I h) λ v b ⟨x,H1,I1,r1,q1⟩=>⟨σ,H1,I1,q1⟩) I.quiet hs
def kW (te:TE):TS:=λ D σ H=>te σ H D.rt
def aq (he:PE X e te):PS X (.Return (some e) pos) (kW te):=by intro a s σ H D I h;exact wpAny_Return_some (ba (he a s σ H _ I h) λ v b ⟨x,H1,I1,r1,q1⟩=>⟨x,σ,H1,I1,r1,q1⟩)
def kG (c:TT) (t u:TS):TS:=λ D σ H=>c σ H λ b H1=>if b=true then t D σ H1 else u D σ H1
def aJ {a b:List ZK} {tc:TT} (hc:PT X c tc) (ha:jz X a t) (hb:jz X b u):PS X (.If c a b pos) (kG tc t u):=by
 intro e s σ H D I h;refine wpAny_If (ba (hc e s σ H _ I h) λ d f ⟨H1,I1,q1⟩=>?_);cases d with
 | true=>exact ha e f σ H1 D I1 q1
 | false=>exact hb e f σ H1 D I1 q1
def oY:TS:=λ _ _ _=>False
def AH:PS X st oY:=λ _ _ _ _ _ _ h=>h.elim
end
noncomputable abbrev TG:=V->St->Hp->(St->Hp->Prop)->Prop
noncomputable abbrev rD:=List V->St->Hp->(St->Hp->Prop)->Prop
def PG (X:Cx) (target:ZM) (t:TG):Prop:=
 ∀(pins:List (ZR×ZP)) (s:A0) (σ:St) (H:Hp) (v:V) (u:ZF) (Q:St->Hp->Prop),Inv X pins σ H s->RelV v u->t v σ H Q->
  W0 (B1 X.prog X.w) X.A (assign target X.env u) (λ _ s'=>∃σ' H',Inv X pins σ' H' s'/\Q σ' H') X.xe s
def xV (X:Cx) (ts:List ZM) (t:rD):Prop:=
 ∀(pins:List (ZR×ZP)) (s:A0) (σ:St) (H:Hp) (vs:List V) (us:List ZF) (Q:St->Hp->Prop),Inv X pins σ H s->aI vs us->t vs σ H Q->
  W0 (B1 X.prog X.w) X.A (assignInOrder ((j0b ts X.env).map (·.2)) us) (λ _ s'=>∃σ' H',Inv X pins σ' H' s'/\Q σ' H') X.xe s
noncomputable abbrev rC:=V->V->V->Hp->(Hp->Prop)->Prop
def sV (X:Cx) (t:rC):Prop:=
 ∀(pins:List (ZR×ZP)) (s:A0) (σ:St) (H:Hp) (o i v:V) (ov iv u:ZF) (Q:Hp->Prop),Inv X pins σ H s->RelV o ov->RelV i iv->RelV v u->t o i v H Q->
  W0 (B1 X.prog X.w) X.A (setItem ov iv u) (λ _ s'=>∃H',Inv X pins σ H' s'/\Q H') X.xe s
variable {body:List ZK} {es:List ZM} {n:Nat} {tb:TS} {tg:ZM}
section
def bu (i:Nat):TG:=λ v σ H Q=>Q (σ.set i (some v)) H
def fm (hN:X.N.Nodup) (hi:X.N[i]? = some x) (hx:Loc X.env.scope x) (hf:X.fn x=true\/X.env.scope.names.lookup x=some .local:=by first|exact .inl rfl|exact .inr rfl|assumption):PG X (.Name x pos) (bu i):=by intro c s σ H v u Q I r h;exact wpAny_assign_Name (GW I hN hi hx r (λ b a=>⟨_,H,a,h⟩) hf)
noncomputable def iC:rD:=λ vs σ H Q=>vs=[]/\Q σ H
noncomputable def dh (t:TG) (u:rD):rD:=λ vs σ H Q=>∃v r,vs=v :: r/\t v σ H λ σ' H'=>u r σ' H' Q
def iW:xV X [] iC:=by intro b s σ H a c Q I r h;obtain ⟨e,h⟩:=h;subst e;cases r;exact assignInOrder_nil ⟨σ,H,I,h⟩
def eW {t:TG} {u:rD} (h1:PG X e t) (h2:xV X es u)
  (hs:(j0b (e :: es) X.env).map (·.2)=assign e X.env :: (j0b es X.env).map (·.2):=by rfl):xV X (e :: es) (dh t u):=by
 intro a s σ H g f Q I r h;obtain ⟨v,d,b,h⟩:=h;subst b;cases r with
 | cons r rr=>rw [hs];refine assignInOrder_cons (ba (h1 a s σ H _ _ _ I r h) λ _ c zz=>?_);obtain ⟨σ1,H1,I1,q1⟩:=zz;exact h2 a c σ1 H1 _ _ Q I1 rr q1
def iK (K:c0) (n:Nat) (t:rD):TG:=λ v σ H Q=>∃a xs,v=.ref a/\aG K H a xs/\xs.length=n/\t xs σ H Q
def bQ {k:Nat} {t:rD} (hc:X.calm=true) (h:xV X es t)
  (hn:(j0b es X.env).length=n:=by rfl) (hst:(j0b es X.env).findIdx? (·.1)=none:=by rfl):PG X (.Tuple es k pos) (iK X.K n t):=by
 intro d s σ H v u Q I r c;obtain ⟨a,l,m,j,g,c⟩:=c;subst m;cases r;obtain ⟨x,f,i,y⟩:=I.tuple j;refine assign_Tuple_tuple (I.ok.hd hc) i (by simp [hn,<-g,f.length]) hst λ p w=>?_;have q:Inv X d σ H { s with heap:=p }:=I.kept (t':=s.toks) λ b o e=>w b o (P1 (V0 e)) e;exact h d _ σ H l _ Q q (by simpa using f) c
def yw (to ti:TE) (t:rC):TG:=λ v σ H Q=>to σ H λ o H1=>ti σ H1 λ i H2=>t o i v H2 λ H3=>Q σ H3
def fQ {o i:ZM} {to ti:TE} {t:rC} (ho:PE X o to) (hi:PE X i ti) (hs:sV X t)
  (ha :∀v,assign (.Subscript o i pos) X.env v=(do
   let ov <-j35 [v] (U3 o X.env)
   let iv <-j35 [v,ov] (U3 i X.env)
   j52 pos
   j35 [v,ov,iv] (setItem ov iv v)
   release [v,ov,iv] []):=by intro _;rfl):PG X (.Subscript o i pos) (yw to ti t):=by
 intro a s σ H v u Q I r h;rw [ha];refine j0 (y4 (ba (ho a s σ H _ I h) λ ov b zz=>?_));obtain ⟨x,H1,I1,r1,q1⟩:=zz;refine j0 (y4 (ba (hi a b σ H1 _ I1 q1) λ iv c zz=>?_));obtain ⟨y,H2,I2,r2,q2⟩:=zz;refine j0 (wpAny_standAt (j0 (y4 (ba (hs a c σ H2 x y v ov iv u _ I2 r1 r2 r q2) λ _ d ⟨H3,I3,q3⟩=>?_))));exact wpAny_release ⟨σ,H3,I3,q3⟩
def jF (te:TE) (g:TG):TS:=λ D σ H=>te σ H λ x H1=>g x σ H1 D.nx
def dU {g:TG} (he:PE X e te) (hg:PG X tg g) (hs:swapsWithSole [tg] e pos.line X.env=Y1 false:=by rfl) (hw:swappedStores [tg] e X.env=Y1 none:=by rfl)
  (h1:(j0b [tg] X.env).map (·.2)=[assign tg X.env]:=by rfl):PS X (.Assign [tg] e pos) (jF te g):=by
 intro a s σ H D I h;refine wpAny_Assign_stores (ba (he a s σ H _ I h) λ v b zz=>?_) hs hw;obtain ⟨x,H1,I1,r1,q1⟩:=zz;rw [h1];exact ba (hg a b σ H1 x v _ I1 r1 q1) λ _ c q=>q
def aC {pos':ZO} (hN:X.N.Nodup) (hi:X.N[i]? = some x) (hx:Loc X.env.scope x) (he:PE X e te) (hs:M7 e (some (.Name x pos')) pos.line X.env=Y1 false:=by rfl) (hf:X.fn x=true\/X.env.scope.names.lookup x=some .local:=by first|exact .inl rfl|exact .inr rfl|assumption) :
  PS X (.Assign [.Name x pos'] e pos) (jF te (bu i)):=by
 intro a s σ H D I h;refine wpAny_Assign_Name (ba (he a s σ H _ I h) λ v c zz=>?_) hs;obtain ⟨y,H1,I1,r1,q1⟩:=zz;exact GW I1 hN hi hx r1 (λ d b=>⟨_,H1,b,q1⟩) hf
def iB (c:TT) (tb:TS):TS:=λ D σ H=>∃W:Nat->St->Hp->Prop,(∃m,W m σ H)/\∀m σ H,W m σ H->
 c σ H λ b H1=>if b=true then∃N:St->Hp->Prop,(∀σ' H',N σ' H'->∃m',m' < m/\W m' σ' H')/\tb { D with nx:=N,ct:=N,bk:=D.nx } σ H1 else D.nx σ H1
def BJ {tc:TT} (hp:PassesOwn (B1 X.prog X.w) X.A X.env X.xe) (hc:PT X c tc) (hb:jz X body tb):PS X (.While c body [] pos) (iB tc tb):=by
 intro j s σ H D I h;obtain ⟨W,⟨q,x⟩,r⟩:=h;refine wpAny_While (codeAny_whileLoop (λ n t=>∃σ' H',Inv X j σ' H' t/\W n σ' H') ?_ q ⟨σ,H,I,x⟩);rintro n y ⟨σ1,H1,I1,w1⟩;refine X5 hp (ba (hc j y σ1 H1 _ I1 (r n σ1 H1 w1)) λ b u ⟨H2,I2,e⟩=>?_);cases b with
 | true=>
  obtain ⟨N,p,e⟩:=e;rw [if_pos rfl];refine X5 hp (ba (hb j u σ1 H2 _ I2 e) λ f z g=>?_);cases f with
  | next=>obtain ⟨d,a,i,l⟩:=g;obtain ⟨k,m,o⟩:=p d a l;exact ⟨k,m,d,a,i,o⟩
  | cont=>obtain ⟨d,a,i,l⟩:=g;obtain ⟨k,m,o⟩:=p d a l;exact ⟨k,m,d,a,i,o⟩
  | brk=>exact g
  | ret v=>exact g
 | false=>rw [if_neg N0];exact j0f ⟨σ1,H2,I2,e⟩
end
structure It where
 go:Nat->Hp->Prop
 yld:Nat->Hp->V->Hp->Prop
 stop:Nat->Hp->Prop
def fG (X:Cx) (pins:List (ZR×ZP)) (H:Hp) (b:ZR):Prop:=
 H b=none/\b≠X.env.locals/\b∉X.fs/\(b∈X.ex\/X.s₀.heap.objs.size<=b)/\(∀x c,X.env.cells.lookup x=some c->c≠b)/\∀p∈X.pn++pins,p.1≠b
def Inv.fpOk (I:Inv X pins σ H s) (hb:s.heap.objs.size<=b) (hn:H' b=none):fG X pins H' b:=by
 refine ⟨hn,E4 (O1 I.lt hb),I.nofs hb,.inr (C0 I.sz hb),λ x c e z=>?_,λ p a z=>?_⟩
 ·obtain ⟨v,q⟩:=I.cell x c e;exact absurd (O1 q.lt (by rw [z];exact hb)) (Y3 _)
 ·exact absurd (O1 (V0 (I.pin p a).1) (by rw [z];exact hb)) (Y3 _)
structure Turn (P:ZI) (w:X0) (K:c0) (tg:ZM) (J:It) (fp:List ZR) (it:ZR) (tn:Nat->ZL->Prop):Prop where
 mem:it∈fp
 obj :∀i h,tn i h->∀b∈fp,∃o,h.get? b=some o/\∀v,o.data≠.cell v
 keep :∀i h h',tn i h->(∀b∈fp,∀o,h.get? b=some o->h'.get? b=some o)->tn i h'
 item :∀(X:Cx),X.prog=P->X.w=w->X.K=K->X.calm=true->∀(i:Nat) (pins:List (ZR×ZP)) (s:A0) (σ:St) (H:Hp) (E:ZF->A0->Prop),Inv X pins σ H s->(∀b∈fp,fG X pins H b)->tn i s.heap->J.go i H->
  W0 (B1 P w) X.A (j5d (.ref it)) (λ r s1=>∃u,r=some u/\
   W0 (B1 P w) X.A (j0h tg (.ref it) u) (λ _ s2=>∃x H',Inv X pins σ H' s2/\RelV x u/\J.yld i H x H'/\tn (i + 1) s2.heap/\∀b∈fp,H' b=none) E s1) E s
 done :∀(X:Cx),X.prog=P->X.w=w->X.K=K->X.calm=true->∀(i:Nat) (pins:List (ZR×ZP)) (s:A0) (σ:St) (H:Hp) (E:ZF->A0->Prop),Inv X pins σ H s->(∀b∈fp,fG X pins H b)->tn i s.heap->J.stop i H->
  W0 (B1 P w) X.A (j5d (.ref it)) (λ r s1=>r=none/\Inv X pins σ H s1) E s
 self :∀(A:j2) (i:Nat) (s:A0) (Q:ZF->A0->Prop) (E:ZF->A0->Prop),tn i s.heap->Q (.ref it) s->W0 (B1 P w) A (pyIter (.ref it)) Q E s
noncomputable abbrev TI:=St->Hp->(It->Hp->Prop)->Prop
def Fi (X:Cx) (pins:List (ZR×ZP)) (σ:St) (tg:ZM) (R:It->Hp->Prop) (itv:ZF) (s2:A0):Prop:=
 ∃(it:ZR) (fp:List ZR) (tn:Nat->ZL->Prop) (J:It) (H':Hp),itv=.ref it/\Inv X pins σ H' s2/\Turn X.prog X.w X.K tg J fp it tn/\tn 0 s2.heap/\(∀b∈fp,fG X pins H' b)/\R J H'
def PI (X:Cx) (tg iter:ZM) (wi:TI):Prop:=
 ∀(pins:List (ZR×ZP)) (s:A0) (σ:St) (H:Hp) (R:It->Hp->Prop),Inv X pins σ H s->wi σ H R->
  W0 (B1 X.prog X.w) X.A (U3 iter X.env) (λ v s1=>W0 (B1 X.prog X.w) X.A (pyIter v) (Fi X pins σ tg R) X.xe s1) X.xe s
def ji {it:ZR} {o:ZP} {n:String} {vs:Array ZF} {Q:Unit->A0->Prop} (ho:s.heap.get? it=some o) (hc:o.cls=.type n) (hd:o.data=.fields vs)
    (hn:["enumerate","zip","dict_itemiterator","dict_reverseitemiterator","odict_iterator","itertools.zip_longest","itertools.pairwise"].contains n=false) (hQ:Q () s):W0 M A (j0h tg (.ref it) u) Q E s:=by
  unfold j0h;cases tg<;>first
    | exact G0 hQ
    | (cases u<;>first
        | exact G0 hQ
        | (refine j0 (wpAny_load ho ?_)
           rw [hc,hd];show W0 M A (if (["enumerate","zip","dict_itemiterator","dict_reverseitemiterator","odict_iterator","itertools.zip_longest","itertools.pairwise"].contains n && vs[0]? == some (j3f _))=true then _ else _) Q E s;rw [if_neg (by intro h;rw [hn,S6] at h;cases h)];exact G0 hQ))
noncomputable def qA (K:c0) (a:ZR):It:=
 ⟨λ i H=>∃xs x,aH K H a xs/\xs[i]? = some x,λ i H x H'=>H'=H/\∀xs,aH K H a xs->xs[i]? = some x,λ i H=>∃xs,aH K H a xs/\xs.length<=i⟩
noncomputable def Af (K:c0) (a:ZR):It:=
 ⟨λ i H=>∃xs x,aG K H a xs/\xs[i]? = some x,λ i H x H'=>H'=H/\∀xs,aG K H a xs->xs[i]? = some x,λ i H=>∃xs,aG K H a xs/\xs.length<=i⟩
noncomputable def qW (lo:Int) (n:Nat):It:=⟨λ i _=>i < n,λ i H x H'=>H'=H/\x=.int (lo + i),λ i _=>n<=i⟩
theorem J2 (a it:ZR):Turn P w K tg (qA K a) [it] it (λ i h=>h.IsListIter it a i) where
 mem:=by simp
 obj:=λ i h f b g=>by
  have e:b=it:=by simpa using g
  subst e;obtain ⟨o,e,c,d⟩:=f;exact ⟨o,e,λ v z=>by rw [d] at z;cases z⟩
 keep:=λ i h m f k=>f.at λ o e=>k it (by simp) o e
 item:=by intro X t q n M i J s σ H E I l f y;subst t q n;obtain ⟨S,x,j,G⟩:=y;obtain ⟨N,F,p,O⟩:=I.list j;obtain ⟨u,R,Q⟩:=F.get G;obtain ⟨r,B,T,D,C,A⟩:=l it (by simp);refine wpAny_pyNext_list_item f p.isList (x:=u) (by simpa using R) λ m L V=>?_;have W:Inv X J σ H { s with heap:=m }:=I.turned (t':=s.toks) (λ b o g e=>(V.2 b g).trans e) r B D C A;obtain ⟨o,e,c,d⟩:=id L;exact ⟨u,rfl,ji (s:={ s with heap:=m }) e c d '!' ⟨x,H,W,Q,⟨rfl,λ ys Y=>by rw [I.list_inj Y j];exact G⟩,L,λ b g=>(l b g).1⟩⟩
 done:=by intro X t q n M i J s σ H E I l f y;subst t q n;obtain ⟨S,j,G⟩:=y;obtain ⟨N,F,p,O⟩:=I.list j;obtain ⟨r,B,T,D,C,A⟩:=l it (by simp);have Z:=F.length;exact wpAny_pyNext_list_end (I.ok.hd M) f p.isList (by simp;lia) λ m U=>⟨rfl,I.turned (t':=s.toks) (λ b o g e=>U b o g e) r B D C A⟩
 self:=λ _ _ _ _ _ f h=>wpAny_pyIter_listiter f h
theorem IF (a it:ZR):Turn P w K tg (Af K a) [it] it (λ i h=>h.IsTupleIter it a i) where
 mem:=by simp
 obj:=λ i h f b g=>by
  have e:b=it:=by simpa using g
  subst e;obtain ⟨o,e,c,d⟩:=f;exact ⟨o,e,λ v z=>by rw [d] at z;cases z⟩
 keep:=λ i h m f k=>f.at λ o e=>k it (by simp) o e
 item:=by intro X y q n N i L s σ H E I l f A;subst y q n;obtain ⟨S,x,j,J⟩:=A;obtain ⟨t,G,p,O⟩:=I.tuple j;obtain ⟨u,R,Q⟩:=G.get J;obtain ⟨r,C,T,F,D,B⟩:=l it (by simp);refine wpAny_pyNext_tuple_item f (show s.heap.IsTuple a t.toArray from p) (x:=u) (by simpa using R) λ m M V=>?_;have W:Inv X L σ H { s with heap:=m }:=I.turned (t':=s.toks) (λ b o g e=>(V.2 b g).trans e) r C F D B;obtain ⟨o,e,c,d⟩:=id M;exact ⟨u,rfl,ji (s:={ s with heap:=m }) e c d '!' ⟨x,H,W,Q,⟨rfl,λ ys Y=>by rw [I.tuple_inj Y j];exact J⟩,M,λ b g=>(l b g).1⟩⟩
 done:=by intro X y q n N i L s σ H E I l f A;subst y q n;obtain ⟨S,j,J⟩:=A;obtain ⟨t,G,p,O⟩:=I.tuple j;obtain ⟨r,C,T,F,D,B⟩:=l it (by simp);have Z:=G.length;exact wpAny_pyNext_tuple_end (I.ok.hd N) f (show s.heap.IsTuple a t.toArray from p) (by simp;lia) λ m U=>⟨rfl,I.turned (t':=s.toks) (λ b o g e=>U b o g e) r C F D B⟩
 self:=λ _ _ _ _ _ f h=>wpAny_pyIter_tupleiter f h
theorem Jw (it:ZR) (lo:Int) (n:Nat):Turn P w K tg (qW lo n) [it] it (λ i h=>IsRangeIter h it (lo + (i:Nat) * 1) ((n:Int) - (i:Nat)) 1) where
 mem:=by simp
 obj:=λ i h a b c=>by
  have e:b=it:=by simpa using c
  subst e;exact ⟨_,a,λ v z=>by have J:j69 _=Data.cell v:=z;cases J⟩
 keep:=λ i h f a k=>k it (by simp) _ a
 item:=by intro X y j g x i A s σ H E I d a m;subst y j g;obtain ⟨l,q,F,u,r,p⟩:=d it (by simp);have W:=Walks.range (prog:=X.prog) (w:=X.w) (I.ok.hd x) it lo 1 n;refine W.item i s _ _ m a λ v f C D B G=>?_;obtain ⟨t,rfl⟩:=D;have M:Inv X A σ H { s with heap:=f,toks:=C }:=I.turned (λ b o c e=>G b o (by simpa using c) e) l q u r p;refine ⟨_,rfl,ji (s:={ s with heap:=f,toks:=C }) (n:="range_iterator") B rfl rfl '!' ⟨.int (lo + i),H,M,⟨t,?_⟩,⟨rfl,rfl⟩,B,λ b c=>(d b c).1⟩⟩;rw [Int.mul_one]
 done:=by intro X y j g x i A s σ H E I d a m;subst y j g;obtain ⟨l,q,F,u,r,p⟩:=d it (by simp);exact wpAny_pyNext_range_end (I.ok.hd x) a (by have:n<=i:=m;lia) λ f L=>⟨rfl,I.turned (t':=s.toks) (λ b o c e=>L b o c e) l q u r p⟩
 self:=λ _ _ _ _ _ a h=>wpAny_pyIter_rangeiter a h
variable {fp:List ZR} {p:ZO}
section
def ij (K:c0) (tl:TE):TI:=λ σ H R=>tl σ H λ x H1=>∃a,x=.ref a/\(∃xs,aH K H1 a xs)/\R (qA K a) H1
def qJ (K:c0) (tl:TE):TI:=λ σ H R=>tl σ H λ x H1=>∃a,x=.ref a/\(∃xs,aG K H1 a xs)/\R (Af K a) H1
def lx {l:ZM} {tl:TE} (hl:PE X l tl):PI X tg l (ij X.K tl):=by
 intro d s σ H R I h;refine ba (hl d s σ H _ I h) λ v c zz=>?_;obtain ⟨x,H1,I1,r1,q1⟩:=zz;obtain ⟨a,e,⟨k,f⟩,q⟩:=q1;subst e;cases r1;obtain ⟨i,m,p,j⟩:=I1.list f;refine j32 p.isList ?_;refine ⟨c.heap.objs.size,[c.heap.objs.size],_,_,H1,rfl,I1.kept (t':=c.toks) λ b o e=>B0 _ e,J2 a _,⟨_,j1 _ rfl,rfl,rfl⟩,λ b g=>?_,q⟩;have e:b=c.heap.objs.size:=by simpa using g
 subst e;exact I1.fpOk (o0 _) (I1.hok.fresh (o0 _))
def fD {l:ZM} {tl:TE} (hl:PE X l tl):PI X tg l (qJ X.K tl):=by
 intro d s σ H R I h;refine ba (hl d s σ H _ I h) λ v c zz=>?_;obtain ⟨x,H1,I1,r1,q1⟩:=zz;obtain ⟨a,e,⟨k,f⟩,q⟩:=q1;subst e;cases r1;obtain ⟨g,m,p,j⟩:=I1.tuple f;refine U6 (show c.heap.IsTuple a g.toArray from p) ?_;refine ⟨c.heap.objs.size,[c.heap.objs.size],_,_,H1,rfl,I1.kept (t':=c.toks) λ b o e=>B0 _ e,IF a _,⟨_,j1 _ rfl,rfl,rfl⟩,λ b i=>?_,q⟩;have e:b=c.heap.objs.size:=by simpa using i
 subst e;exact I1.fpOk (o0 _) (I1.hok.fresh (o0 _))
theorem Ko {R:It->Hp->Prop} {lo hi:Int} {t u v:Tok} {tk:Nat} (I:Inv X pins σ H s) (h1:-(2 ^ 62)<=lo) (h2:lo < 2 ^ 62) (h3:-(2 ^ 62)<=hi) (h4:hi < 2 ^ 62)
  (q:R (qW lo (hi - lo).toNat) H):W0 (B1 X.prog X.w) X.A (pyIter (.ref s.heap.objs.size)) (Fi X pins σ tg R) E { s with heap:=s.heap.push { cls:=.type "range",data:=.fields #[.int lo t,.int hi u,.int 1 v] },toks:=tk }:=by
 refine wpAny_pyIter_range (IsRange.new ..) (small_one h1 h2 h3 h4) ?_;have a:Inv X pins σ H { s with heap:=s.heap.push { cls:=.type "range",data:=.fields #[.int lo t,.int hi u,.int 1 v] },toks:=tk }:=I.kept λ b o e=>B0 _ e;refine ⟨(s.heap.push { cls:=.type "range",data:=.fields #[.int lo t,.int hi u,.int 1 v] }).objs.size,[(s.heap.push { cls:=.type "range",data:=.fields #[.int lo t,.int hi u,.int 1 v] }).objs.size],_,_,H,rfl,
  a.kept (t':=tk) λ b o e=>B0 _ e,Jw _ lo (hi - lo).toNat,?_,λ b f=>?_,q⟩
 ·have c:lo + ((0:Nat):Int) * 1=lo:=by simp
  have d:(((hi - lo).toNat:Nat):Int) - ((0:Nat):Int)=Builtin.Range.rangeSize lo hi 1:=by rw [rangeSize_one];split<;>lia
  show IsRangeIter _ _ (lo + ((0:Nat):Int) * 1) ((((hi - lo).toNat:Nat):Int) - ((0:Nat):Int)) 1;rw [c,d];exact j1 _ rfl
 ·have e:b=(s.heap.push { cls:=.type "range",data:=.fields #[.int lo t,.int hi u,.int 1 v] }).objs.size:=by simpa using f
  subst e;exact a.fpOk (o0 _) (a.hok.fresh (o0 _))
def oT (ta:TA):TI:=λ σ H R=>ta σ H λ vs H1=>∃j:Int,vs=[.int j]/\-(2 ^ 62)<=j/\j < 2 ^ 62/\R (qW 0 j.toNat) H1
theorem sH {a:ZM} {ta:TA} (hg:Gl X "range") (hm:X.mg "range" = none) (ha:PA X [a] ta) (hs:S1 [a] X.env=[(false,U3 a X.env)]:=by rfl):PI X tg (.Call (.Name "range" p) [a] [] pos) (oT ta):=by
 intro d s σ H R I h;refine Call_ (fo I hg hm boot_range (o4 (ba (ha pos d s σ H _ I h) λ g f zz=>?_) hs rfl));obtain ⟨vs,H1,I1,r1,b⟩:=zz;obtain ⟨j,e,b,c,q⟩:=b;subst e;cases r1 with
 | cons r rr=>cases rr;obtain ⟨t,rfl⟩:=r;exact call_range_1 (Ko I1 '%' '%' b c (by simpa using q))
def tW (wi:TI) (g:TG) (tb:TS):TS:=λ D σ H=>wi σ H λ J H1=>∃W:Nat->Nat->St->Hp->Prop,(∃m,W 0 m σ H1)/\∀i m σ H,W i m σ H->
 (J.stop i H/\D.nx σ H)\/(J.go i H/\∃N:St->Hp->Prop,(∀σ' H',N σ' H'->∃m',m' < m/\W (i + 1) m' σ' H')/\∀x H',J.yld i H x H'->g x σ H' λ σ2 H2=>tb { D with nx:=N,ct:=N,bk:=D.nx } σ2 H2)
noncomputable def fB (fp:List ZR) (h:ZL):List (ZR×ZP):=fp.filterMap λ b=>(h.get? b).map λ o=>(b,o)
def sN {o:ZP} (hb:b∈fp) (e:h.get? b=some o):(b,o)∈fB fp h:=List.mem_filterMap.mpr ⟨b,hb,by rw [e];rfl⟩
def Fg {p:ZR×ZP} (hp:p∈fB fp h):p.1∈fp/\h.get? p.1=some p.2:=by
 obtain ⟨b,c,e⟩:=List.mem_filterMap.mp hp;cases q:h.get? b with
 | none=>rw [q] at e;cases e
 | some o=>rw [q] at e;have a:(b,o)=p:=Q1 e;subst a;exact ⟨c,q⟩
def Inv.pinned (I:Inv X pins σ H s) (hf :∀b∈fp,fG X pins H b) (ho :∀b∈fp,∃o,s.heap.get? b=some o/\∀v,o.data≠.cell v):Inv X (pins++fB fp s.heap) σ H s:=
 I.pins_of λ p i=>(List.mem_append.mp i).elim (λ z=>I.pin p (F1 _ z)) λ z=>by obtain ⟨c,e⟩:=Fg z;obtain ⟨h,g,f,_⟩:=hf p.1 c;obtain ⟨o,a,d⟩:=ho p.1 c;rw [e] at a;cases a;exact ⟨e,h,g,f,d⟩
def Inv.unpinned {pl:List (ZR×ZP)} (I:Inv X (pins++pl) σ H s):Inv X pins σ H s:=I.pins_of λ p a=>I.pin p (F1 _ (A7 _ a))
def bY {iter:ZM} {wi:TI} {g:TG} (hp:PassesOwn (B1 X.prog X.w) X.A X.env X.xe) (hc:X.calm=true) (hi:PI X tg iter wi) (hg:PG X tg g) (hb:jz X body tb)
  (hs :∀x,c6 iter X.env x=Y1 x:=by intro _;rfl):PS X (.For tg iter body [] pos) (tW wi g tb):=by
 intro l s σ H D I h;refine wpAny_For (ba (hi l s σ H _ I h) λ v s1 Q=>ba Q λ a1 s2 U=>?_) hs;obtain ⟨it,q,C,J,V,e,I2,T,Z,B,W,⟨M,w0⟩,R⟩:=U;subst e
 -- what stays true of the iterator's objects through the loop
 have y :∀{H':Hp},(∀b∈q,H' b=none)->∀b∈q,fG X l H' b:=λ hn b hb=>⟨hn b hb,(B b hb).2⟩
 refine codeAny_forLoop_any (λ n E=>∃i σ' H',Inv X l σ' H' E/\C i E.heap/\(∀b∈q,H' b=none)/\W i n σ' H') ?_ M ⟨0,σ,V,I2,Z,λ b hb=>(B b hb).1,w0⟩;rintro n G ⟨i,σ3,H3,I3,st3,fr3,w3⟩;rcases R i n σ3 H3 w3 with ⟨K,L⟩|⟨go,N,hN,step⟩
 ·refine X5 hp (ba (T.done X rfl rfl rfl hc i l G σ3 H3 X.xe I3 (y fr3) st3 K) λ r O ⟨hr,I4⟩=>?_);subst hr;exact j0f ⟨σ3,H3,I4,L⟩
 ·refine X5 hp (ba (T.item X rfl rfl rfl hc i l G σ3 H3 X.xe I3 (y fr3) st3 go) λ r O ⟨u,hr,h4⟩=>?_);subst hr;refine X5 hp (ba h4 λ _ F zz=>?_);obtain ⟨x,H5,I5,r5,y5,st5,fr5⟩:=zz;have a0:=I5.pinned (y fr5) (T.obj _ _ st5);refine X5 hp (ba (hg _ F σ3 H5 x u _ a0 r5 (step x H5 y5)) λ _ s6 zz=>?_);obtain ⟨σ6,H6,I6,q6⟩:=zz;refine X5 hp (ba (hb _ s6 σ6 H6 _ I6 q6) λ f t k=>?_);have z :∀{j:St} {c:Hp},Inv X (l++fB q F.heap) j c t->N j c->∃m,m < n/\∃i σ' H',Inv X l σ' H' t/\C i t.heap/\(∀b∈q,H' b=none)/\W i m σ' H':=λ {j c} a p=>by obtain ⟨P,hm,Y⟩:=hN j c p;refine ⟨P,hm,i + 1,j,c,a.unpinned,T.keep _ _ _ st5 λ b hb o e=>(a.pin (b,o) (F1 _ (F1 _ (sN hb e)))).1,λ b hb=>?_,Y⟩;obtain ⟨o,e,d⟩:=T.obj _ _ st5 b hb;exact (a.pin (b,o) (F1 _ (F1 _ (sN hb e)))).2.1
  cases f with
  | next=>obtain ⟨j,c,a,p⟩:=k;exact z a p
  | cont=>obtain ⟨j,c,a,p⟩:=k;exact z a p
  | brk=>obtain ⟨j,c,a,k⟩:=k;exact ⟨j,c,a.unpinned,k⟩
  | ret v=>obtain ⟨x7,j,c,a,S,k⟩:=k;exact ⟨x7,j,c,a.unpinned,S,k⟩
end
theorem pf {g:TG} (Pv:Nat->St->Hp->Prop) (h0:Pv 0 σ H) (hl :∀i σ H,i<=xs.length->Pv i σ H->aH K H a xs)
  (hs :∀i x σ H,xs[i]? = some x->Pv i σ H->g x σ H λ σ2 H2=>tb { D with nx:=Pv (i + 1),ct:=Pv (i + 1),bk:=D.nx } σ2 H2) (hd :∀σ H,Pv xs.length σ H->D.nx σ H) :
  ∃W:Nat->Nat->St->Hp->Prop,(∃m,W 0 m σ H)/\∀i m σ H,W i m σ H->
   ((qA K a).stop i H/\D.nx σ H)\/((qA K a).go i H/\∃N:St->Hp->Prop,(∀σ' H',N σ' H'->∃m',m' < m/\W (i + 1) m' σ' H')/\∀x H',(qA K a).yld i H x H'->g x σ H' λ σ2 H2=>tb { D with nx:=N,ct:=N,bk:=D.nx } σ2 H2):=by
 refine ⟨λ i m σ H=>m=xs.length - i/\i<=xs.length/\Pv i σ H,⟨xs.length,by simp,J1 _,h0⟩,?_⟩;rintro i m σ H ⟨rfl,hi,p⟩;have q:=hl i σ H hi p;by_cases hlt:i < xs.length
 ·refine .inr ⟨⟨xs,xs[i],q,by simp [hlt]⟩,Pv (i + 1),λ σ' H' b=>⟨xs.length - (i + 1),by lia,rfl,hlt,b⟩,λ x H' y=>?_⟩;obtain ⟨e,y⟩:=y;subst e;exact hs i x σ _ (y xs q) p
 ·have e:i=xs.length:=by lia
  subst e;exact .inl ⟨⟨xs,q,o0 _⟩,hd σ H p⟩
theorem vz {lo:Int} {g:TG} (Pv:Nat->St->Hp->Prop) (h0:Pv 0 σ H)
  (hs :∀i σ H,i < n->Pv i σ H->g (.int (lo + i)) σ H λ σ2 H2=>tb { D with nx:=Pv (i + 1),ct:=Pv (i + 1),bk:=D.nx } σ2 H2) (hd :∀σ H,Pv n σ H->D.nx σ H) :
  ∃W:Nat->Nat->St->Hp->Prop,(∃m,W 0 m σ H)/\∀i m σ H,W i m σ H->
   ((qW lo n).stop i H/\D.nx σ H)\/((qW lo n).go i H/\∃N:St->Hp->Prop,(∀σ' H',N σ' H'->∃m',m' < m/\W (i + 1) m' σ' H')/\∀x H',(qW lo n).yld i H x H'->g x σ H' λ σ2 H2=>tb { D with nx:=N,ct:=N,bk:=D.nx } σ2 H2):=by
 refine ⟨λ i m σ H=>m=n - i/\i<=n/\Pv i σ H,⟨n,by simp,J1 _,h0⟩,?_⟩;rintro i m σ H ⟨rfl,hi,p⟩;by_cases hlt:i < n
 ·refine .inr ⟨hlt,Pv (i + 1),λ σ' H' a=>⟨n - (i + 1),by lia,rfl,hlt,a⟩,λ x H' y=>?_⟩;obtain ⟨e,y⟩:=y;subst e y;exact hs i σ _ hlt p
 ·have e:i=n:=by lia
  subst e;exact .inl ⟨o0 _,hd σ H p⟩
noncomputable abbrev R2:=V->V->Hp->VK->Prop
def ei (X:Cx) (f:ZF->ZF->ZN ZF) (r:R2):Prop:=
 ∀(pins:List (ZR×ZP)) (s:A0) (σ:St) (H:Hp) (x y:V) (v u:ZF) (Q:VK),Inv X pins σ H s->RelV x v->RelV y u->r x y H Q->
  W0 (B1 X.prog X.w) X.A (f v u) (EP X pins σ Q) X.xe s
def Bd (X:Cx) (f:ZF->ZN ZF) (r:V->Hp->VK->Prop):Prop:=
 ∀(pins:List (ZR×ZP)) (s:A0) (σ:St) (H:Hp) (x:V) (v:ZF) (Q:VK),Inv X pins σ H s->RelV x v->r x H Q->
  W0 (B1 X.prog X.w) X.A (f v) (EP X pins σ Q) X.xe s
def ck (X:Cx) (f:ZF) (r:List V->Hp->VK->Prop):Prop:=
 ∀(pins:List (ZR×ZP)) (s:A0) (σ:St) (H:Hp) (xs:List V) (us:List ZF) (Q:VK),Inv X pins σ H s->aI xs us->r xs H Q->
  W0 (B1 X.prog X.w) X.A (call f us) (EP X pins σ Q) X.xe s
def jK (r:R2) (ta tb:TE):TE:=λ σ H Q=>ta σ H λ x H1=>tb σ H1 λ y H2=>r x y H2 Q
def Km (r:V->Hp->VK->Prop) (ta:TE):TE:=λ σ H Q=>ta σ H λ x H1=>r x H1 Q
inductive RI (C:Int->Int->Prop) (g:Int->Int->V) (x y:V) (H:Hp) (Q:VK):Prop
 | mk (i j:Int) (a:x=.int i) (b:y=.int j) (c:C i j) (q:Q (g i j) H)
def rI (C:Int->Int->Prop) (g:Int->Int->V):R2:=λ x y H Q=>RI C g x y H Q
inductive LA (g:Int->Int->V) (x y:V) (H:Hp) (Q:VK):Prop
 | mk (i j:Int) (a:x=.int i) (b:y=.int j) (q:Q (g i j) H)
def oO (g:Int->Int->V):R2:=λ x y H Q=>LA g x y H Q
def rU (g:Int->V):V->Hp->VK->Prop:=λ x H Q=>∃i,x=.int i/\Q (g i) H
variable {f:ZF->ZF->ZN ZF} {r:R2}
section
variable {a b:ZM} {tb tc:TE} 
def qT (ha:PE X a ta) (hb:PE X b tb) {R:V->V->Hp->Prop} (I:Inv X pins σ H s)
  (h:ta σ H λ x H1=>tb σ H1 λ y H2=>R x y H2) {Q:ZF->A0->Prop} {f:ZF->ZF->ZN ZF}
  (hf :∀v u s2 x y H2,Inv X pins σ H2 s2->RelV x v->RelV y u->R x y H2->W0 (B1 X.prog X.w) X.A (f v u) Q X.xe s2) :
  W0 (B1 X.prog X.w) X.A (U3 a X.env) (λ v s₁=>W0 (B1 X.prog X.w) X.A (U3 b X.env) (λ u s₂=>W0 (B1 X.prog X.w) X.A (f v u) Q X.xe s₂) X.xe s₁) X.xe s:=by
 refine ba (ha pins s σ H _ I h) λ v c zz=>?_;obtain ⟨x,H1,I1,r1,q1⟩:=zz;refine ba (hb pins c σ H1 _ I1 q1) λ u s2 zz=>?_;obtain ⟨y,H2,I2,r2,q2⟩:=zz;exact hf v u s2 x y H2 I2 r1 r2 q2
def aO {op:Operator} (ho:ei X (G5 op) r) (ha:PE X a ta) (hb:PE X b tb):PE X (.BinOp a op b pos) (jK r ta tb):=by intro e s σ H Q I h;exact wpAny_BinOp (qT ha hb I h λ v u f x y i g c d q=>ho e f σ i x y v u Q g c d q)
def mq {op:UnaryOp} {r:V->Hp->VK->Prop} (ho:Bd X (unaryOp op) r) (ha:PE X a ta):PE X (.UnaryOp op a pos) (Km r ta):=by intro b s σ H Q I h;exact UnaryOp_ (ba (ha b s σ H _ I h) λ v c ⟨x,H1,I1,r1,q1⟩=>ho b c σ H1 x v Q I1 r1 q1)
def xm {C:Int->Int->Prop} {g:Int->Int->Int}
  (rule :∀(i j:Int) (t u:Tok) (s:A0) (Q:ZF->A0->Prop) (E:ZF->A0->Prop),C i j->Q (.int (g i j) s.toks) { s with toks:=s.toks + 1 }->W0 (B1 X.prog X.w) X.A (f (.int i t) (.int j u)) Q E s) :
  ei X f (rI C λ i j=>.int (g i j)):=by
 intro e s σ H x y v u Q I a b h;obtain ⟨i,j,rfl,rfl,c,q⟩:=h;obtain ⟨t,rfl⟩:=a;obtain ⟨d,rfl⟩:=b;exact rule i j t d s _ _ c ⟨.int (g i j),H,I.tok _,⟨_,rfl⟩,q⟩
def uB {g:Int->Int->Int}
  (rule :∀(i j:Int) (t u:Tok) (s:A0) (Q:ZF->A0->Prop) (E:ZF->A0->Prop),Q (.int (g i j) s.toks) { s with toks:=s.toks + 1 }->W0 (B1 X.prog X.w) X.A (f (.int i t) (.int j u)) Q E s) :
  ei X f (oO λ i j=>.int (g i j)):=by
 intro d s σ H x y v u Q I a b h;obtain ⟨i,j,rfl,rfl,q⟩:=h;obtain ⟨t,rfl⟩:=a;obtain ⟨c,rfl⟩:=b;exact rule i j t c s _ _ ⟨.int (g i j),H,I.tok _,⟨_,rfl⟩,q⟩
def pd {g:Int->Int->Bool}
  (rule :∀(i j:Int) (t u:Tok) (s:A0) (Q:ZF->A0->Prop) (E:ZF->A0->Prop),Q (.bool (g i j)) s->W0 (B1 X.prog X.w) X.A (f (.int i t) (.int j u)) Q E s) :
  ei X f (oO λ i j=>.bl (g i j)):=by
 intro d s σ H x y v u Q I a b h;obtain ⟨i,j,rfl,rfl,q⟩:=h;obtain ⟨t,rfl⟩:=a;obtain ⟨c,rfl⟩:=b;exact rule i j t c s _ _ ⟨.bl (g i j),H,I,rfl,q⟩
def wx (i j:Int):Prop:=0<=j/\j<=1000000/\i.natAbs < 2 ^ 64
def qK (i j:Int):Prop:=(-(2 ^ 64) < i/\i < 2 ^ 64)\/(-(2 ^ 64) < j/\j < 2 ^ 64)
def qK.ok {i j:Int} (h:qK i j):IntMulOk i j:=by
 rcases h with ⟨a,b⟩|⟨a,b⟩
 ·exact .of_left (intBits_le_64 a b)
 ·exact .of_right (intBits_le_64 a b)
def qe:ei X (G5 .Add) (oO λ i j=>.int (i + j)):=uB λ _ _ _ _ _ _ _ q=>add_int q
def p_:ei X (G5 .Sub) (oO λ i j=>.int (i - j)):=uB λ _ _ _ _ _ _ _ q=>sub_int q
def fZ:ei X (G5 .Mult) (rI qK λ i j=>.int (i * j)):=xm λ _ _ _ _ _ _ _ a q=>mul_int q a.ok
theorem gb:ei X (G5 .Mod) (rI (λ _ j=>0 < j) λ i j=>.int (i % j)):=xm λ i j _ _ _ _ _ a q=>by have b:(0:Int) < j:=a;exact mod_int' '%' (by rw [Int.fmod_eq_emod_of_nonneg i '%'];exact q)
def mj:ei X (G5 .Pow) (rI wx λ i j=>.int (i ^ j.toNat)):=xm λ _ _ _ _ _ _ _ a q=>pow_int_small a.1 a.2.1 a.2.2 q
def Lm {f:ZF->ZN ZF} {g:Int->Int}
  (rule :∀(i:Int) (t:Tok) (s:A0) (Q:ZF->A0->Prop) (E:ZF->A0->Prop),Q (.int (g i) s.toks) { s with toks:=s.toks + 1 }->W0 (B1 X.prog X.w) X.A (f (.int i t)) Q E s) :
  Bd X f (rU λ i=>.int (g i)):=by
 intro b s σ H x v Q I a h;obtain ⟨i,rfl,q⟩:=h;obtain ⟨t,rfl⟩:=a;exact rule i t s _ _ ⟨.int (g i),H,I.tok _,⟨_,rfl⟩,q⟩
def jW:Bd X (unaryOp .USub) (rU λ i=>.int (-i)):=Lm λ _ _ _ _ _ q=>neg_int q
end
noncomputable def scal:V->V->Bool
 | .non,.non=>true | .non,.int _=>true | .int _,.non=>true | .non,.bl _=>true | .bl _,.non=>true | .non,.str _=>true | .str _,.non=>true
 | .int _,.int _=>true | .bl _,.bl _=>true | .str _,.str _=>true | .byt _,.byt _=>true
 | .int _,.str _=>true | .str _,.int _=>true | .bl _,.str _=>true | .str _,.bl _=>true
 | _,_=>false
def FZ:R2:=λ x y H Q=>scal x y=true/\Q (.bl (decide (x=y))) H
def HQ:R2:=λ x y H Q=>scal x y=true/\Q (.bl (!decide (x=y))) H
def HN {i j:Int}:decide (V.int i=V.int j)=(i == j):=by rw [Bool.eq_iff_iff];simp
def mS {i j:Bool}:decide (V.bl i=V.bl j)=(i == j):=by rw [Bool.eq_iff_iff];simp
def FY {i j:ZQ}:decide (V.str i=V.str j)=(i == j):=by rw [Bool.eq_iff_iff];simp
def Gh {i j:Array UInt8}:decide (V.byt i=V.byt j)=(i.toList == j.toList):=by rw [Bool.eq_iff_iff];cases i;cases j;simp
section
variable {a b:ZM} {tb tc:TE} 
def aQ {Q:VK} {k k':Bool} (I:Inv X pins σ H s) (q:Q (.bl k) H) (e:k=k'):EP X pins σ Q (.bool k') s:=by subst e;exact ⟨.bl k,H,I,rfl,q⟩
def vL:ei X (T2 .Eq) FZ:=by
 intro e s σ H x y v u Q I d a h;obtain ⟨c,q⟩:=h;cases x with
 | non=>
  cases d;cases y with
  | non=>cases a;exact PySem.EqNone.eq_none_none (aQ I q (by simp))
  | bl j=>cases a;exact PySem.EqNone.eq_none_bool (aQ I q (by simp))
  | int j=>obtain ⟨b,rfl⟩:=a;exact PySem.EqNone.eq_none_int (aQ I q (by simp))
  | str j=>obtain ⟨b,rfl⟩:=a;exact PySem.EqNone.eq_none_str (aQ I q (by simp))
  | _=>exact absurd (show false=true from c) N0
 | bl i=>
  cases d;cases y with
  | non=>cases a;exact PySem.EqNone.eq_bool_none (aQ I q (by simp))
  | bl j=>cases a;exact eq_bool (aQ I q mS)
  | str j=>obtain ⟨b,rfl⟩:=a;exact PySem.EqMixed.eq_bool_str (aQ I q (by simp))
  | _=>exact absurd (show false=true from c) N0
 | int i=>
  obtain ⟨t,rfl⟩:=d;cases y with
  | non=>cases a;exact PySem.EqNone.eq_int_none (aQ I q (by simp))
  | int j=>obtain ⟨b,rfl⟩:=a;exact eq_int (aQ I q HN)
  | str j=>obtain ⟨b,rfl⟩:=a;exact PySem.EqMixed.eq_int_str (aQ I q (by simp))
  | _=>exact absurd (show false=true from c) N0
 | str i=>
  obtain ⟨t,rfl⟩:=d;cases y with
  | non=>cases a;exact PySem.EqNone.eq_str_none (aQ I q (by simp))
  | bl j=>cases a;exact PySem.EqMixed.eq_str_bool (aQ I q (by simp))
  | int j=>obtain ⟨b,rfl⟩:=a;exact PySem.EqMixed.eq_str_int (aQ I q (by simp))
  | str j=>obtain ⟨b,rfl⟩:=a;exact eq_str (aQ I q FY)
  | _=>exact absurd (show false=true from c) N0
 | byt i=>
  obtain ⟨t,rfl⟩:=d;cases y with
  | byt j=>obtain ⟨b,rfl⟩:=a;exact PySem.W.eq_bytes (aQ I q Gh)
  | _=>exact absurd (show false=true from c) N0
 | _=>cases y<;>exact absurd (show false=true from c) N0
def ud:ei X (T2 .NotEq) HQ:=by
 intro e s σ H x y v u Q I d a h;obtain ⟨c,q⟩:=h;cases x with
 | non=>
  cases d;cases y with
  | non=>cases a;exact PySem.EqNone.ne_none_none (aQ I q (by simp))
  | bl j=>cases a;exact PySem.EqNone.ne_none_bool (aQ I q (by simp))
  | int j=>obtain ⟨b,rfl⟩:=a;exact PySem.EqNone.ne_none_int (aQ I q (by simp))
  | str j=>obtain ⟨b,rfl⟩:=a;exact PySem.EqNone.ne_none_str (aQ I q (by simp))
  | _=>exact absurd (show false=true from c) N0
 | bl i=>
  cases d;cases y with
  | non=>cases a;exact PySem.EqNone.ne_bool_none (aQ I q (by simp))
  | bl j=>cases a;exact ne_bool (aQ I q (congrArg not mS))
  | str j=>obtain ⟨b,rfl⟩:=a;exact PySem.EqMixed.ne_bool_str (aQ I q (by simp))
  | _=>exact absurd (show false=true from c) N0
 | int i=>
  obtain ⟨t,rfl⟩:=d;cases y with
  | non=>cases a;exact PySem.EqNone.ne_int_none (aQ I q (by simp))
  | int j=>obtain ⟨b,rfl⟩:=a;exact ne_int (aQ I q (congrArg not HN))
  | str j=>obtain ⟨b,rfl⟩:=a;exact PySem.EqMixed.ne_int_str (aQ I q (by simp))
  | _=>exact absurd (show false=true from c) N0
 | str i=>
  obtain ⟨t,rfl⟩:=d;cases y with
  | non=>cases a;exact PySem.EqNone.ne_str_none (aQ I q (by simp))
  | bl j=>cases a;exact PySem.EqMixed.ne_str_bool (aQ I q (by simp))
  | int j=>obtain ⟨b,rfl⟩:=a;exact PySem.EqMixed.ne_str_int (aQ I q (by simp))
  | str j=>obtain ⟨b,rfl⟩:=a;exact ne_str (aQ I q (congrArg not FY))
  | _=>exact absurd (show false=true from c) N0
 | byt i=>
  obtain ⟨t,rfl⟩:=d;cases y with
  | byt j=>obtain ⟨b,rfl⟩:=a;exact PySem.W.ne_bytes (aQ I q (congrArg not Gh))
  | _=>exact absurd (show false=true from c) N0
 | _=>cases y<;>exact absurd (show false=true from c) N0
def hZ:ei X (T2 .Lt) (oO λ i j=>.bl (decide (i < j))):=pd λ _ _ _ _ _ _ _ q=>lt_int q
def oa:ei X (T2 .LtE) (oO λ i j=>.bl (decide (i<=j))):=pd λ _ _ _ _ _ _ _ q=>le_int q
def oj:ei X (T2 .Gt) (oO λ i j=>.bl (decide (j < i))):=pd λ _ _ _ _ _ _ _ q=>gt_int q
def gy:ei X (T2 .Is) (λ x y H Q=>y=.non/\Q (.bl (decide (x=.non))) H):=by
 intro c s σ H x y v u Q I a b h;obtain ⟨rfl,q⟩:=h;cases b;refine is_none_gen (aQ I q ?_);cases x<;>first
  | (cases a;rfl)
  | (obtain ⟨t,rfl⟩:=a;rfl)
def pF:ei X (T2 .IsNot) (λ x y H Q=>y=.non/\Q (.bl (!decide (x=.non))) H):=by
 intro c s σ H x y v u Q I a b h;obtain ⟨rfl,q⟩:=h;cases b;refine isnot_none_gen (aQ I q ?_);cases x<;>first
  | (cases a;rfl)
  | (obtain ⟨t,rfl⟩:=a;rfl)
def ei.or {r':R2} (h:ei X f r) (h':ei X f r'):ei X f (λ x y H Q=>r x y H Q\/r' x y H Q):=by
 intro c s σ H x y v u Q I a b q;rcases q with q|q
 ·exact h c s σ H x y v u Q I a b q
 ·exact h' c s σ H x y v u Q I a b q
def aD (b:ZM) (h:op≠.In:=by decide) (h2:op≠.NotIn:=by decide):G9 op b=false:=by
 have a:(op == CmpOp.In)=false:=by cases op<;>first|rfl|exact absurd rfl h
 have c:(op == CmpOp.NotIn)=false:=by cases op<;>first|rfl|exact absurd rfl h2
 cases b<;>simp [G9,a,c]
def iA (ho:ei X (T2 op) r) (ha:PE X a ta) (hb:PE X b tb) (hm:G9 op b=false):PE X (.Compare a [op] [b] pos) (jK r ta tb):=by intro e s σ H Q I h;exact wpAny_Compare1 (qT ha hb I h λ v u f x y i g c d q=>ho e f σ i x y v u Q g c d q) hm
def oS (t:TE):TT:=λ σ H Q=>t σ H λ x H'=>∃k,x=.bl k/\Q k H'
def cL (ho:ei X (T2 op) r) (ha:PE X a ta) (hb:PE X b tb) (hm:G9 op b=false):PT X (.Compare a [op] [b] pos) (oS (jK r ta tb)):=by
 intro d s σ H Q I h;refine wpAny_isTrue_Compare1 (ba (ha d s σ H _ I h) λ v f ⟨x,H1,I1,r1,q1⟩=>ba (hb d f σ H1 _ I1 q1) λ u g ⟨y,H2,I2,r2,q2⟩=>ba (ho d g σ H2 x y v u _ I2 r1 r2 q2) λ c i zz=>?_) hm;obtain ⟨z,H3,I3,r3,k,e,q3⟩:=zz;subst e;cases r3;exact V4 ⟨H3,I3,q3⟩
def qq (r r':R2) (ta tb tc:TE):TE:=λ σ H Q=>ta σ H λ x H1=>tb σ H1 λ y H2=>r x y H2 λ z H3=>∃k,z=.bl k/\
 (if k=true then tc σ H3 λ w' H4=>r' y w' H4 Q else Q (.bl false) H3)
def IQ {op':CmpOp} {r':R2} (ho:ei X (T2 op) r) (ho':ei X (T2 op') r') (ha:PE X a ta) (hb:PE X b tb) (hc:PE X c tc)
  (hm:lastMarks [op,op'] [b,c]=false:=by with_unfolding_all rfl):PE X (.Compare a [op,op'] [b,c] pos) (qq r r' ta tb tc):=by
 intro f s σ H Q I h;refine Compare_chain (ba (ha f s σ H _ I h) λ v g ⟨x,H1,I1,r1,q1⟩=>chain_link (ba (hb f g σ H1 _ I1 q1) λ u l ⟨y,H2,I2,r2,q2⟩=>ba (ho f l σ H2 x y v u _ I2 r1 r2 q2) λ d j zz=>?_)) hm;obtain ⟨z,H3,I3,r3,k,e,q3⟩:=zz;subst e;cases r3;refine V4 ?_;cases k with
 | false=>exact ite_ff ⟨.bl false,H3,I3,rfl,q3⟩
 | true=>exact ite_tt (chain_last (ba (hc f j σ H3 _ I3 q3) λ i m ⟨z',H4,I4,r4,q4⟩=>ho' f m σ H4 y z' u i Q I4 r2 r4 q4))
def gx:(ZE:Nat) < 2 ^ 63:=by rw [sizeLine_eq];decide
def jQ:ei X (G5 .Add) (λ x y H Q=>∃i j,x=.str i/\y=.str j/\i.length + j.length<=ZE/\Q (.str (i++j)) H):=by intro f s σ H x y v u Q I a b h;obtain ⟨i,j,rfl,rfl,d,q⟩:=h;obtain ⟨t,rfl⟩:=a;obtain ⟨c,rfl⟩:=b;exact add_str (λ c e=>⟨.str (i++j),H,I.tok _,⟨_,rfl⟩,q⟩) d
def vals1 {x:V} (r:aI [x] us) :∃u,us=[u]/\RelV x u:=by
 cases r with
 | cons r1 r2=>cases r2;exact ⟨_,rfl,r1⟩
def vals2 {x:V} (r:aI [x,y] us) :∃u w',us=[u,w']/\RelV x u/\RelV y w':=by
 cases r with
 | cons r1 r2=>
  cases r2 with
  | cons r3 r4=>cases r4;exact ⟨_,_,rfl,r1,r3⟩
def Ln (hc:X.calm=true):ck X (.builtin "max") (λ xs H Q=>∃i j,xs=[.int i,.int j]/\Q (.int (if j > i then j else i)) H):=by
 intro e s σ H xs f Q I r h;obtain ⟨i,j,rfl,q⟩:=h;obtain ⟨u,b,rfl,⟨t,rfl⟩,⟨c,rfl⟩⟩:=vals2 r;refine max_two_ints (I.ok.hd hc) λ d a k=>⟨_,H,I.kept k,?_,q⟩
 by_cases hj:j > i
 ·rw [if_pos hj,if_pos hj];exact ⟨_,rfl⟩
 ·rw [if_neg hj,if_neg hj];exact ⟨_,rfl⟩
def PB (hc:X.calm=true):ck X (.builtin "min") (λ xs H Q=>∃i j,xs=[.int i,.int j]/\Q (.int (if j < i then j else i)) H):=by
 intro e s σ H xs f Q I r h;obtain ⟨i,j,rfl,q⟩:=h;obtain ⟨u,b,rfl,⟨t,rfl⟩,⟨c,rfl⟩⟩:=vals2 r;refine min_two_ints (I.ok.hd hc) λ d a k=>⟨_,H,I.kept k,?_,q⟩
 by_cases hj:j < i
 ·rw [if_pos hj,if_pos hj];exact ⟨_,rfl⟩
 ·rw [if_neg hj,if_neg hj];exact ⟨_,rfl⟩
def kT:ck X (.type "int") (λ xs H Q=>(∃i,xs=[.int i]/\Q (.int i) H)\/∃k,xs=[.bl k]/\Q (.int (if k then 1 else 0)) H):=by
 intro b s σ H xs c Q I r h;rcases h with ⟨i,rfl,q⟩|⟨k,rfl,q⟩
 ·obtain ⟨u,rfl,t,rfl⟩:=vals1 r;exact call_int_int ⟨.int i,H,I,⟨_,rfl⟩,q⟩
 ·obtain ⟨u,rfl,a⟩:=vals1 r;cases a;exact call_int_bool ⟨.int (if k then 1 else 0),H,I.tok _,⟨_,rfl⟩,q⟩
end
structure jN (h:ZL) (x dx C:ZR) (mA:ZQ->Option ZF):Prop where
 obj:h.get? x=some (N4 C dx)
 ns:h.Ns1 dx mA
 ne:dx≠x
variable {dx:ZR} {mA:ZQ->Option ZF}
def Rp (n:h.Ns1 dx mA) :∃od,h.get? dx=some od/\∀name,M9 name od=some (mA name):=by
 obtain ⟨o,b,l,d,c,g,_,f⟩:=n;refine ⟨o,d,λ name=>?_⟩;have e:=f name;unfold nsFind findBy at e;rw [<-Array.find?_toList] at e;unfold M9;rw [c];dsimp only;split
 ·rename_i y q;rw [q] at e;exact congrArg some e
 ·rename_i q;rw [q] at e;have a:b.toList.any (·.refKey)=false:=by rw [List.any_eq_false];intro y j;obtain ⟨z,t,k⟩:=g y (Array.mem_toList_iff.mp j);simp [DictEntry.refKey,k]
  have i:¬ b.toList.any (·.refKey)=true:=by rw [a];exact N0
  rw [if_neg i];exact congrArg some e
variable {C:ZR}
def jN.look {x:ZR} (I:jN h x dx C mA) :∃od,PySem.W.InstAt h x (N4 C dx) C (some od)/\∀name,M9 name od=some (mA name):=
 let ⟨od,ho,hl⟩:=Rp I.ns
 ⟨od,⟨I.obj,rfl,rfl,ho⟩,hl⟩
variable {kw:List (ZQ×ZF)} {pl:ZN Bool}
section
variable {prog:ZI} {x f:ZR} {name:ZQ} {v:ZF}
def O_ {expr:Bool} (X:K.In s.heap) (I:jN s.heap x dx C mA) (hg:E8 K C name=true) (hh:j14 K C=true)
  (ha:W3 K (.ref C) name=some none) (hv:mA name=some v) (hv':PySem.W.handedIn v=true) (h:Q v { s with toks:=s.toks + 1 }) :
  W0 (B1 prog w) A (getAttr (.ref x) name expr) Q E s:=by
 obtain ⟨b,J,a⟩:=I.look;exact PySem.W.get_value X J (j01 hg).1 (PySem.W.findObj_own hh ha rfl (by rw [a,hv])) hv' h
def Qb {Q:ZF×List ZF->A0->Prop} (X:K.In s.heap) (I:jN s.heap x dx C mA) (hg:E8 K C name=true)
  (hf:W3 K (.ref C) name=some (some (.ref f))) (ht:j3h K (.ref f)=true) (hv:mA name=none) (h:Q (.ref f,[.ref x]) s) :
  W0 (B1 prog w) A (getMethod (.ref x) name pl) Q E s:=by
 obtain ⟨b,J,a⟩:=I.look;exact PySem.W.method_fn X J (j01 hg).1 (j01 hg).2 hf (beq_iff_eq.mp ht) (by show (M9 name b).map (·.isSome)=some false;rw [a,hv];rfl) h
theorem Qh {ns:List ZQ} {Q:Unit->A0->Prop} (X:K.In s.heap) (I:jN s.heap x dx C mA)
  (hs:W3 K (.ref C) "__setattr__" = some (some (.builtin "object.__setattr__"))) (hp:j61 K C=true) (ht:j27 K C name=some none) (hh:j14 K C=true)
  (hw:j4h mA ns) (hsz:ns.length<=ZE)
  (h :∀h',jN h' x dx C (λ y=>if y=name then some v else mA y)->R6 dx s.heap h'->Q () { s with heap:=h',toks:=s.toks + 2 }) :
  W0 (B1 prog w) A (setAttr (.ref x) name v) Q E s:=by
 obtain ⟨p,J,l⟩:=I.look;refine PySem.W.set_plain X J hs (PySem.W.osa_open (s:={ s with toks:=s.toks + 1 }) (r:=none) X J hp ht λ b=>?_);obtain ⟨q,g,j⟩:=PySem.W.any_some hh;have k:s.heap.get? x=some ⟨.ref C,some dx,.plain,#[]⟩:=I.obj;refine j0 (G0 (j0 (j0 (wpAny_loadPart k (j0 (PySem.W.Looks.here (s:={ s with toks:=s.toks + 1 }) (PySem.W.looks_clsIn X g) ?_))))));rw [j];refine G0 (a:=some dx) (j0 (G0 (j0 ?_)));refine wpAny_nsSet1 (s:={ s with toks:=s.toks + 1 }) I.ns λ h' d c=>?_;obtain ⟨n,o,m,i,e,f⟩:=d.count (PySem.Within.cons name v hw);refine j0 (wpAny_lookBehind i (by rw [e];exact pastItsLine_dict (C0 f (by rw [U0];lia))) ?_);exact G0 (h _ ⟨(c.2 _ (F4 I.ne)).trans I.obj,d,I.ne⟩ c)
def Qs {R:Result->A0->Prop} {vs:List ZF} (X:K.In s.heap) (hm:PySem.W.makesIn K C=true)
  (hi:W3 K (.ref C) "__init__" = some (some (.ref f))) (hf:PySem.W.typeIn K (.ref f)=some (.type "function"))
  (h:j21 (B1 prog w) (A.under (.builtin "type.__call__" ⟨.ref C :: vs,kw⟩)) (.call (.ref f) ⟨.ref (s.heap.objs.size + 1) :: vs,kw⟩) (PySem.W.InitBack (s.heap.objs.size + 1) R)
   { s with heap:=(s.heap.push PySem.W.emptyDict).push (N4 C s.heap.objs.size) }) :
  j21 (B1 prog w) A (.call (.ref C) ⟨vs,kw⟩) R s:=by
 obtain ⟨c,g,d,t,b⟩:=s;exact PySem.W.make_core (PySem.W.makes_of X hm) (PySem.W.looks_findIn X hi) (λ a=>PySem.W.bind_fn X a hf) (.inl rfl) h
end
noncomputable def dj (f:ZQ) (v:V):List (ZQ×V)->List (ZQ×V)
 | []=>[(f,v)]
 | (g,x) :: r=>if g=f then (g,v) :: r else (g,x) :: dj f v r
theorem wZ (f g:ZQ) (v:V) :∀fs:List (ZQ×V),(dj f v fs).lookup g=if g=f then some v else fs.lookup g
 | []=>by
  show B7 g [(f,v)]=_;by_cases h:g=f
  ·have a:(g == f)=true:=beq_iff_eq.mpr h;simp only [B7,a,if_pos h]
  ·have a:(g == f)=false:=beq_eq_false_iff_ne.mpr h;simp only [B7,a,if_neg h]
 | (k,x) :: r=>by
  have b:=wZ f g v r;rw [show dj f v ((k,x) :: r)=(if k=f then (k,v) :: r else (k,x) :: dj f v r) from rfl];by_cases hk:k=f
  ·rw [if_pos hk];by_cases h:g=k
   ·have a:(g == k)=true:=beq_iff_eq.mpr h;simp only [B7,a,if_pos (h.trans hk)]
   ·have a:(g == k)=false:=beq_eq_false_iff_ne.mpr h;simp only [B7,a,if_neg (λ e:g=f=>h (e.trans hk.symm))]
  ·rw [if_neg hk];by_cases h:g=k
   ·have a:(g == k)=true:=beq_iff_eq.mpr h;simp only [B7,a,if_neg (λ e:g=f=>hk (h.symm.trans e))]
   ·have a:(g == k)=false:=beq_eq_false_iff_ne.mpr h;simp only [B7,a];exact b
theorem yu (f:ZQ) (v:V) :∀fs:List (ZQ×V),f∈(dj f v fs).map (·.1)/\∀g,g∈fs.map (·.1)->g∈(dj f v fs).map (·.1)
 | []=>⟨by simp [dj],λ g h=>by simp at h⟩
 | (k,x) :: r=>by
  obtain ⟨b,a⟩:=yu f v r;rw [show dj f v ((k,x) :: r)=(if k=f then (k,v) :: r else (k,x) :: dj f v r) from rfl];by_cases hk:k=f
  ·rw [if_pos hk];subst hk;exact ⟨by simp,λ g h=>by simpa using h⟩
  ·rw [if_neg hk];refine ⟨?_,λ g h=>?_⟩
   ·rw [G1];exact Y0 _ b
   ·rw [G1] at h⊢;rcases List.mem_cons.mp h with e|e
    ·exact List.mem_cons.mpr (.inl e)
    ·exact Y0 _ (a g e)
theorem EV (f:ZQ) (v:V) :∀fs:List (ZQ×V),(dj f v fs).length<=fs.length + 1
 | []=>by simp [dj]
 | (k,x) :: r=>by
  have a:=EV f v r;rw [show dj f v ((k,x) :: r)=(if k=f then (k,v) :: r else (k,x) :: dj f v r) from rfl];by_cases hk:k=f
  ·rw [if_pos hk,U0,U0];lia
  ·rw [if_neg hk,U0,U0];lia
def dn.some_of {o:Option ZF} (r:dn (some v) o) :∃u,o=some u/\RelV v u:=by
 cases o with
 | none=>exact (show False from r).elim
 | some u=>exact ⟨u,rfl,r⟩
def dn.none_of {o:Option ZF} (r:dn none o):o=none:=by
 cases o with
 | none=>rfl
 | some u=>exact (show False from r).elim
def QB (r:RelV v u):PySem.W.handedIn u=true:=by
 cases v with
 | non=>cases (show u=Value.none from r);rfl
 | bl b=>cases (show u=R4 b from r);rfl
 | int i=>obtain ⟨t,e⟩:=(show∃t,u=Q8 i t from r);cases e;rfl
 | str x=>obtain ⟨t,e⟩:=(show∃t,u=Z6 x t from r);cases e;rfl
 | byt b=>obtain ⟨t,e⟩:=(show∃t,u=Value.bytes b t from r);cases e;rfl
 | flt b=>obtain ⟨t,e⟩:=(show∃t,u=j5h b t from r);cases e;rfl
 | ref a=>cases (show u=P0 a from r);rfl
 | ty n=>cases (show u=C6 n from r);rfl
section
variable {fs fs':List (ZQ×V)}
def xC (hok:fN P w H h) (e:H a=some (.ins C dx fs)) :∃mA,jN h a dx C mA/\(∀f,dn (fs.lookup f) (mA f))/\j4h mA (fs.map (·.1))/\fs.length<=1000/\H dx=some (.own a):=by
 obtain ⟨d,z,c,b,mA,n,r,q⟩:=(show bb P w H h a (.ins C dx fs) from hok a _ e)
 exact ⟨mA,⟨b,n,c⟩,r,q,z,d⟩
end
structure jM (K:c0) (C:ZR):Prop where
 pg:E8 K C Str.empty=true
 hd:j14 K C=true
 po:j61 K C=true
 sa:W3 K (.ref C) "__setattr__" = some (some (.builtin "object.__setattr__"))
def jM.get (c:jM K C) (f:ZQ):E8 K C f=true:=c.pg
def aN (K:c0) (C:ZR) (f:ZQ):Prop:=W3 K (.ref C) f=some none
def aN.taker {f:ZQ} (n:aN K C f):j27 K C f=some none:=by unfold j27;rw [show W3 K (.ref C) f=some none from n];rfl
structure RH (K:c0) (C:ZR) (f:ZQ) (v:V) (u:ZF):Prop where
 at_:W3 K (.ref C) f=some (some u)
 rel:RelV v u
 get:j60 K u "__get__" = some none
 cp:PySem.W.copiedNames.contains f=false
structure mZ (K:c0) (C:ZR) (m:ZQ) (f:ZR):Prop where
 at_:W3 K (.ref C) m=some (some (.ref f))
 fn:j3h K (.ref f)=true
 kp:V3 K (.ref f)=true
variable {m:ZQ}
section
variable {fs:List (ZQ×V)} {f:ZQ} 
def OJ {b:Bool} (I:Inv X pins σ H s) (e:H a=some (.ins C dx fs)) (c:jM X.K C) (n:aN X.K C f) (l:fs.lookup f=some v)
  (h :∀u s',Inv X pins σ H s'->RelV v u->Q u s'):W0 (B1 X.prog X.w) A (getAttr (.ref a) f b) Q E s:=by
 obtain ⟨i,O,r,_,_,_⟩:=xC I.hok e;obtain ⟨u,g,d⟩:=dn.some_of (v:=v) (o:=i f) (by rw [<-l];exact r f);exact O_ I.kIn O (c.get f) c.hd n g (QB d) (h u _ (I.tok _) d)
def MW {g:ZR} {Q:ZF×List ZF->A0->Prop} (I:Inv X pins σ H s) (e:H a=some (.ins C dx fs)) (c:jM X.K C) (k:mZ X.K C m g) (l:fs.lookup m=none)
  (h:Q (.ref g,[.ref a]) s):W0 (B1 X.prog X.w) A (getMethod (.ref a) m pl) Q E s:=by
 obtain ⟨d,O,r,_,_,_⟩:=xC I.hok e;have b:d m=none:=dn.none_of (by rw [<-l];exact r m);exact Qb I.kIn O (c.get m) k.at_ k.fn b h
theorem Oj {Q:Unit->A0->Prop} (I:Inv X pins σ H s) (e:H a=some (.ins C dx fs)) (c:jM X.K C) (n:aN X.K C f) (hl:fs.length < 1000) (ry:RelV y u)
  (h :∀s',Inv X pins σ (upd H a (.ins C dx (dj f y fs))) s'->Q () s'):W0 (B1 X.prog X.w) A (setAttr (.ref a) f u) Q E s:=by
 obtain ⟨k,O,r,j,_,i⟩:=xC I.hok e;have m:(fs.map (·.1)).length<=ZE:=by rw [D0,sizeLine_eq];lia
 refine Qh I.kIn O c.sa c.po n.taker c.hd j m λ p d t=>h _ ?_;have l :∃o,p.get? dx=some o:=let ⟨o,_,_,e',_⟩:=d.ns;⟨o,e'⟩;refine I.write (x:=a) (e:=dx) (by rw [e];exact True.intro) (.inr i) (λ b q B z=>(t.2 b B).trans z) l ?_;refine ⟨by rw [ak O.ne];exact i,?_,O.ne,d.obj,_,d.ns,λ g=>?_,λ g v=>?_⟩
 ·have:=EV f y fs;lia
 ·show dn ((dj f y fs).lookup g) (if g=f then some u else k g);rw [wZ];by_cases q:g=f
  ·rw [if_pos q,if_pos q];exact ry
  ·rw [if_neg q,if_neg q];exact r g
 ·by_cases q:g=f
  ·rw [q];exact (yu f y fs).1
  ·refine (yu f y fs).2 g (j g λ z=>v ?_);show (if g=f then some u else k g)=none;rw [if_neg q];exact z
def Inv.made (I:Inv X pins σ H s):Inv X pins σ (upd (upd H s.heap.objs.size (.own (s.heap.objs.size + 1))) (s.heap.objs.size + 1) (.ins C s.heap.objs.size []))
  { s with heap:=(s.heap.push PySem.W.emptyDict).push (N4 C s.heap.objs.size) }:=by
 have c:(s.heap.push PySem.W.emptyDict).get? s.heap.objs.size=some PySem.W.emptyDict:=j1 s.heap rfl;have f:((s.heap.push PySem.W.emptyDict).push (N4 C s.heap.objs.size)).get? (s.heap.objs.size + 1)=some (N4 C s.heap.objs.size):=by
  have:=j1 (s.heap.push PySem.W.emptyDict) (o:=N4 C s.heap.objs.size) rfl
  rwa [G4] at this
 have g:(s.heap.push PySem.W.emptyDict).Ns s.heap.objs.size (λ _=>none):=⟨PySem.W.emptyDict,#[],_,c,rfl,(λ e h=>absurd h (by simp)),λ _=>rfl⟩
 have i:=I.laid (a:=s.heap.objs.size) (o:=.own (s.heap.objs.size + 1)) (h':=s.heap.push PySem.W.emptyDict) (t':=s.toks) (λ b u q=>B0 _ q) (o0 _) ⟨_,c⟩;refine i.laid (a:=s.heap.objs.size + 1) (o:=.ins C s.heap.objs.size []) (t':=s.toks) (λ b u q=>B0 _ q) (K5 (G4 _ _)) ?_;have d:s.heap.objs.size≠s.heap.objs.size + 1:=P1 (i3 _);refine ⟨by rw [ak d,ab],J1 _,d,f,λ _=>none,(Heap.Ns1.of_empty g).at λ o q=>B0 _ q,λ _=>True.intro,λ y j=>absurd rfl j⟩
def QP {prog:ZI} {env:Env} {f:ZQ} (hb:M4 e f env (U3 e env)=U3 e env)
  (h:W0 (B1 prog w) A (U3 e env) (λ o s₁=>W0 (B1 prog w) A (getAttr o f true) Q E s₁) E s):W0 (B1 prog w) A (U3 (.Attribute e f pos) env) Q E s:=
 Attribute_any_ h (by rw [arm_eval_Attribute,hb])
end
def Bo (K:c0) (ta:TE) (f:ZQ):TE:=λ σ H Q=>ta σ H λ x H1=>∃a C dx fs v,x=.ref a/\H1 a=some (.ins C dx fs)/\jM K C/\aN K C f/\fs.lookup f=some v/\Q v H1
def qw (K:c0) (ta tv:TE) (f:ZQ):TS:=λ D σ H=>tv σ H λ y H1=>ta σ H1 λ x H2=>∃a C dx fs,x=.ref a/\H2 a=some (.ins C dx fs)/\jM K C/\aN K C f/\fs.length < 1000/\
 D.nx σ (upd H2 a (.ins C dx (dj f y fs)))
section
variable {o value:ZM} {f:ZQ} {pos' tpos:ZO} {tv:TE}
def bV (he:PE X e ta) (hb:M4 e f X.env (U3 e X.env)=U3 e X.env):PE X (.Attribute e f pos) (Bo X.K ta f):=by intro b s σ H Q I h;refine QP hb (ba (he b s σ H _ I h) λ u i zz=>?_);obtain ⟨x,H1,I1,rx,a,C,dx,fs,v,ex,ea,c,n,l,q⟩:=zz;subst ex;obtain rfl:u=P0 a:=rx;exact OJ I1 ea c n l λ j k g d=>⟨v,H1,g,d,q⟩
def dB (ha:PE X o ta) (hv:PE X value tv) (hs:M7 value (some (.Attribute o f pos')) pos.line X.env=Y1 false):PS X (.Assign [.Attribute o f pos'] value pos) (qw X.K ta tv f):=by intro b s σ H D I h;refine plainObj_wpAny_Assign_Attribute (ba (hv b s σ H _ I h) λ u d ⟨y,H1,I1,ry,q⟩=>ba (ha b d σ H1 _ I1 q) λ g j zz=>?_) hs;obtain ⟨x,H2,I2,rx,a,C,dx,fs,ex,ea,c,n,l,q2⟩:=zz;subst ex;obtain rfl:g=P0 a:=rx;exact Oj I2 ea c n l ry λ i e=>⟨σ,_,e,q2⟩
end
section
variable {c:ZF} {b:Bool}
inductive gq (K:c0) (H:Hp):V->ZF->Prop where
 | non:gq K H .non (.type "NoneType")
 | bl (x:Bool):gq K H (.bl x) (.type "bool")
 | int (i:Int):gq K H (.int i) (.type "int")
 | str (x:ZQ):gq K H (.str x) (.type "str")
 | flt (x:UInt64):gq K H (.flt x) (.type "float")
 | lst {a:ZR} {xs:List V} (e:H a=some (.lst xs)):gq K H (.ref a) (.type "list")
 | frz {a:ZR} {o:ZP} {xs:List V} (e:H a=some (.frz o (.lst xs))):gq K H (.ref a) (.type "list")
 | tup {a:ZR} {xs:List V} (e:H a=some (.tup xs)):gq K H (.ref a) (.type "tuple")
 | dK {a:ZR} {kvs:List (Key×V)} (e:H a=some (.dK kvs)):gq K H (.ref a) (.type "dict")
 | dT {a:ZR} {kvs:List (List Key×V)} (e:H a=some (.dT kvs)):gq K H (.ref a) (.type "dict")
 | ins {a C dx:ZR} {fs:List (ZQ×V)} (e:H a=some (.ins C dx fs)) (cl:jM K C) (ha:W3 K (.ref C) "__class__" = some (some (.builtin "object.__class__")))
   (hn:j60 K (.builtin "object.__class__") "__get__" = some (some (.builtin "getset_descriptor.__get__"))) (htk:PySem.W.takesIn K (.builtin "object.__class__")=some true)
   (hm:PySem.W.mroIn K C (.type "object")=some true):gq K H (.ref a) (.ref C)
def KW {x:V} {t:ZF} (I:Inv X pins σ H s) (rx:RelV x u) (ty:gq X.K H x t) (e:PySem.W.kitOne X.K t c=some b) (h :∀tk,Q (.bool b) { s with toks:=tk }) :
  W0 (B1 X.prog X.w) A (call (.builtin "isinstance") [u,c]) Q E s:=by
 cases ty with
 | non=>cases (show u=Value.none from rx);exact G3 PySem.W.kitx_none I.kIn True.intro e (λ z=>nomatch z) h
 | bl y=>cases (show u=R4 y from rx);exact G3 PySem.W.kitx_bool I.kIn True.intro e (λ z=>nomatch z) h
 | int i=>obtain ⟨t,q⟩:=(show∃t,u=Q8 i t from rx);cases q;exact G3 PySem.W.kitx_int I.kIn True.intro e (λ z=>nomatch z) h
 | str y=>obtain ⟨t,q⟩:=(show∃t,u=Z6 y t from rx);cases q;exact G3 PySem.W.kitx_str I.kIn True.intro e (λ z=>nomatch z) h
 | flt y=>obtain ⟨t,q⟩:=(show∃t,u=j5h y t from rx);cases q;exact G3 PySem.W.kitx_float I.kIn True.intro e (λ z=>nomatch z) h
 | @lst a f ea=>
  cases (show u=P0 a from rx);obtain ⟨_,_,n,_,d⟩:=(show bb X.prog X.w H s.heap a (.lst f) from I.hok a _ ea)
  exact G3 j62 I.kIn ⟨_,d,rfl⟩ e (λ z=>nomatch z) h
 | @frz a ob f ea=>
  cases (show u=P0 a from rx);obtain ⟨_,_,_,n,_,d⟩:=(show bb X.prog X.w H s.heap a (.frz ob (.lst f)) from I.hok a _ ea)
  exact G3 j62 I.kIn ⟨_,d,rfl⟩ e (λ z=>nomatch z) h
 | @tup a f ea=>
  cases (show u=P0 a from rx);obtain ⟨_,_,_,p,_⟩:=(show bb X.prog X.w H s.heap a (.tup f) from I.hok a _ ea)
  obtain ⟨o,d,g,_⟩:=p;exact G3 PySem.W.kitx_tuple I.kIn ⟨o,d,g⟩ e (λ z=>nomatch z) h
 | @dK a kvs ea=>
  cases (show u=P0 a from rx);obtain ⟨_,_,l,_,p⟩:=(show bb X.prog X.w H s.heap a (.dK kvs) from I.hok a _ ea)
  obtain ⟨o,j,k,d,g,_⟩:=p;exact G3 j63 I.kIn ⟨o,d,g.1⟩ e (λ z=>nomatch z) h
 | @dT a kvs ea=>
  cases (show u=P0 a from rx);obtain ⟨_,_,f,_,o,j,k,d,g,_⟩:=(show bb X.prog X.w H s.heap a (.dT kvs) from I.hok a _ ea)
  exact G3 j63 I.kIn ⟨o,d,g.1⟩ e (λ z=>nomatch z) h
 | @ins a C dx fs ea cl ha hn htk hm=>cases (show u=P0 a from rx);obtain ⟨m,O,_⟩:=xC I.hok ea;obtain ⟨r,J,_⟩:=O.look;exact G3 (PySem.W.kitx_own (cl.get _) cl.hd ha hn htk hm) I.kIn J e (λ z=>nomatch z) h
end
structure bL (k:Nat) (A:j2):Prop where
 hd:A.handled=none
 dp:A.depth + 3 * k + 5 < recursionLimit
 un:A.units + 16 * k + 200 < ZD
 gd:A.guards=some []
theorem bL.mono {j k:Nat} (r:bL k A) (h:j<=k):bL j A:=⟨r.hd,by have:=r.dp;lia,by have:=r.un;lia,r.gd⟩
theorem bL.deeper {k:Nat} (r:bL (k + 1) A) (env:Env):bL k (A.deeper env):=
 ⟨r.hd,by have:=r.dp;show A.depth + 1 + 3 * k + 5 < _;lia,by have:=r.un;show A.units + 3 + 16 * k + 200 < _;lia,r.gd⟩
theorem bL.in1 {k:Nat} (r:bL (k + 1) A):bL k A.in1:=
 ⟨r.hd,by have:=r.dp;show A.depth + 3 * k + 5 < _;lia,by have:=r.un;show A.units + 1 + 16 * k + 200 < _;lia,r.gd⟩
def IU:(A.under (.builtin "type.__call__" ⟨.ref C :: us,kw⟩)).depth=A.depth + 1:=by first|rfl|simp [j1b,Code.weight,Code.isCreation,Code.isGuard,Code.isCaller,j6a,j26,guardIds]
def QW:(A.under (.builtin "type.__call__" ⟨.ref C :: us,kw⟩)).units=A.units + 1:=by first|rfl|simp [j1b,Code.cUnits,j6a,j26]
theorem bL.make {k:Nat} (r:bL (k + 1) A) (C:ZR) (us:List ZF) (kw:List (ZQ×ZF)):bL k (A.under (.builtin "type.__call__" ⟨.ref C :: us,kw⟩)):=
 ⟨r.hd,by have:=r.dp;rw [IU];lia,by have:=r.un;rw [QW];lia,by have h:=r.gd;first|exact h|simp [j1b,h,Code.weight,Code.isCreation,Code.isGuard,Code.isCaller,j6a,j26,guardIds]⟩
theorem bL.depth {k:Nat} (r:bL k A):A.depth < recursionLimit:=by have:=r.dp;lia
theorem bL.units {k:Nat} (r:bL k A):A.units + 64 < ZD:=by have:=r.un;lia
def gz:TA:=λ _ H Q=>Q [] H
def eu (ta:TE) (tr:TA):TA:=λ σ H Q=>ta σ H λ x H1=>tr σ H1 λ xs H2=>Q (x :: xs) H2
variable {t:TA}
section
def ae:PA X [] gz:=λ _ _ _ _ H Q I h=>z8 ⟨[],H,I,.nil,h⟩
def ao (ha:PE X e te) (hr:PA X es t) (hs:S1 (e :: es) X.env=(false,U3 e X.env) :: S1 es X.env:=by rfl):PA X (e :: es) (eu te t):=by intro a b s σ H Q I h;rw [hs];show W0 _ _ (spliced ((false,U3 e X.env) :: J4 a (S1 es X.env))) _ _ s;refine E6 (ba (ha b s σ H _ I h) λ u c zz=>?_);obtain ⟨x,H1,I1,r1,q1⟩:=zz;exact ba (hr a b c σ H1 _ I1 q1) λ f d ⟨xs,H2,I2,r2,q2⟩=>⟨x :: xs,H2,I2,.cons r1 r2,q2⟩
def kN (t:TA):TE:=λ σ H Q=>t σ H λ xs H1=>xs.length<=ZE/\∀p,H1 p=none->Q (.ref p) (upd H1 p (.tup xs))
def tL (t:TA):TE:=λ σ H Q=>t σ H λ xs H1=>xs.length<=ZE/\∀p,H1 p=none->Q (.ref p) (upd H1 p (.lst xs))
def az {x1} (h:PA X es t):PE X (.Tuple es x1 pos) (kN t):=by intro f s σ H Q I d;refine wpAny_Tuple_spliced (ba (h pos f s σ H _ I d) λ g a ⟨xs,H1,I1,r,z,q⟩=>⟨by rw [<-r.length];exact z,?_⟩);have c:H1 a.heap.objs.size=none:=I1.hok.fresh (o0 _);refine ⟨.ref a.heap.objs.size,upd H1 a.heap.objs.size (.tup xs),I1.laid (t':=a.toks) (λ b u e=>B0 _ e) (o0 _) ?_,rfl,q _ c⟩;exact ⟨z,g,r,fR.new _ _⟩
def aW (h:PA X es t):PE X (.List es pos) (tL t):=by intro f s σ H Q I d;refine wpAny_List_spliced (ba (h pos f s σ H _ I d) λ g a ⟨xs,H1,I1,r,z,q⟩=>⟨by rw [<-r.length];exact z,?_⟩);have c:H1 a.heap.objs.size=none:=I1.hok.fresh (o0 _);refine ⟨.ref a.heap.objs.size,upd H1 a.heap.objs.size (.lst xs),I1.laid (t':=a.toks) (λ b u e=>B0 _ e) (o0 _) ?_,rfl,q _ c⟩;exact ⟨z,g,0,r,j1 _ rfl⟩
end
noncomputable abbrev Sp:=List V->Hp->VK->XK->Prop
noncomputable abbrev nK:=List Env->Hp->A0->XK->ZF->A0->Prop
structure hA (P:ZI) (w:X0) (K:c0) (mg:ZQ->Option ZF) (base:ZL) (A:j2) (outer:List Env) (s:A0) (H:Hp):Prop where
 frames:A.frames=some outer
 mod:Mod K mg base
 bs :∀b o,base.get? b=some o->s.heap.get? b=some o/\H b=none
 bsz:base.objs.size<=s.heap.objs.size
 funs:s.heap.FunFrames base outer
 frf :∀b∈je outer,H b=none
 hok:fN P w H s.heap
 bare:E9 s.gens
def CE (outer:List Env) (P:ZI) (w:X0) (H:Hp) (s:A0) (Q:VK) (u:ZF) (s':A0):Prop:=
 ∃v H',s'.os=s.os/\E9 s'.gens/\Un (je outer) [] H H' s.heap s'.heap/\fN P w H' s'.heap/\RelV v u/\Q v H'
def CR (CX:nK) (outer:List Env) (P:ZI) (w:X0) (H:Hp) (s:A0) (Q:VK) (E:XK) (r:Result) (s':A0):Prop:=
 match r with
 | .ok (.ret u)=>CE outer P w H s Q u s'
 | .ok _=>False
 | .error e=>CX outer H s E e s'
structure fH (P:ZI) (w:X0) (K:c0) (mg:ZQ->Option ZF) (base:ZL) (CX:nK) (k:Nat) (f:ZR) (fd:ZH) (ps:List ZQ) (sp:Sp):Prop where
 len :∀vs H Q E,sp vs H Q E->vs.length=ps.length
 run :∀(A:j2) (outer:List Env) (s:A0) (H:Hp) (args:Args) (us:List ZF) (vs:List V) (Q:VK) (E:XK),bL k A->hA P w K mg base A outer s H->BindsTo s fd args (ps.zip us)->aI vs us->sp vs H Q E->
  j21 (B1 P w) A (.call (.ref f) args) (CR CX outer P w H s Q E) s
variable {base:ZL} {mg:ZQ->Option ZF} {outer:List Env}
def hA.make (e:hA P w K mg base A outer s H) (C:ZR) (us:List ZF) (kw:List (ZQ×ZF)) :
  hA P w K mg base (A.under (.builtin "type.__call__" ⟨.ref C :: us,kw⟩)) outer s H:=⟨by first|exact e.frames|(simpa [j1b,Code.envs,j26,pushEnvs] using e.frames),e.mod,e.bs,e.bsz,e.funs,e.frf,e.hok,e.bare⟩
def hA.in1 (e:hA P w K mg base A outer s H) :
  hA P w K mg base A.in1 outer s H:=⟨e.frames,e.mod,e.bs,e.bsz,e.funs,e.frf,e.hok,e.bare⟩
section
def Inv.env0 (I:Inv X pins σ H s):hA X.prog X.w X.K X.mg X.base X.A X.stack s H:=
 ⟨I.ok.frames,I.ok.mod,I.bs,C0 I.ok.bsz I.sz,I.stack,I.stkFree,I.hok,I.bare⟩
def Inv.after {Q:VK} (I:Inv X pins σ H s) (h:CE X.stack X.prog X.w H s Q u s'):EP X pins σ Q u s':=by obtain ⟨v,i,c,a,un,f,r,q⟩:=h;obtain ⟨j,g,d,t,e⟩:=s';obtain rfl:e=s.os:=c;exact ⟨v,i,I.call (h':=j) (g':=g) (d':=d) (t':=t) (ch:=[]) un f a (λ b z=>absurd z (by simp)),r,q⟩
end
def oo (sp:Sp) (dvs:List V) (E:XK) (t:TA):TE:=λ σ H Q=>t σ H λ vs H1=>sp (vs++dvs) H1 Q E
def tS (C:ZR) (m:ZQ) (sp:Sp) (dvs:List V) (E:XK) (ta:TE) (t:TA):TE:=λ σ H Q=>ta σ H λ x H1=>∃a dx fs,x=.ref a/\H1 a=some (.ins C dx fs)/\fs.lookup m=none/\
 t σ H1 λ vs H2=>sp (x :: (vs++dvs)) H2 Q E
def oz (C:ZR) (sp:Sp) (dvs:List V) (E:XK) (t:TA):TE:=λ σ H Q=>t σ H λ vs H1=>∀x dx,H1 x=none->H1 dx=none->dx≠x->
 sp (.ref x :: (vs++dvs)) (upd (upd H1 dx (.own x)) x (.ins C dx [])) (λ v H2=>v=.non/\Q (.ref x) H2) E
def Binds (K:c0) (fd:ZH) (ps:List ZQ) (ds:List ZF):Prop:=
 ∀(s:A0) (us:List ZF),K.In s.heap->(us++ds).length=ps.length->BindsTo s fd ⟨us,[]⟩ (ps.zip (us++ds))
variable {fd:ZH} {ps:List ZQ}
def Binds.all (h :∀us:List ZF,us.length=ps.length->bindArgs fd ⟨us,[]⟩=Y1 (ps.zip us)):Binds K fd ps []:=λ s us _ a=>by rw [A3] at a⊢;exact .of_eq (h us a)
def fU (CX:nK) (X:Cx) (E:XK):Prop:=∀(pins:List (ZR×ZP)) (σ:St) (H:Hp) (s:A0) (e:ZF) (s':A0),Inv X pins σ H s->CX X.stack H s E e s'->X.xe e s'
variable {CX:nK} {vs:List V}
section
variable {k:Nat} {f:ZR} {sp:Sp} {dvs:List V} {ds:List ZF} {E:XK} {apos:ZO} {o:ZM} 
def jC {Q:VK} (F:fH X.prog X.w X.K X.mg X.base CX k f fd ps sp) (hr:bL k X.A) (hb:Binds X.K fd ps ds) (hd:aI dvs ds) (hx:fU CX X E)
  (I:Inv X pins σ H s) (r:aI vs us) (h:sp (vs++dvs) H Q E):W0 (B1 X.prog X.w) X.A (call (.ref f) us) (EP X pins σ Q) X.xe s:=by
 have b:aI (vs++dvs) (us++ds):=r.append hd;have c:(us++ds).length=ps.length:=by rw [<-b.length];exact F.len _ _ _ _ h
 refine wpAny_call (j0a (F.run X.A X.stack s H ⟨us,[]⟩ (us++ds) (vs++dvs) Q E hr I.env0 (hb s us I.kIn c) b h) λ r d a=>?_);cases r with
 | error e=>exact hx pins σ H s e d I a
 | ok fl=>
  cases fl with
  | ret u=>exact I.after a
  | next=>exact O3 a
  | brk=>exact O3 a
  | cont=>exact O3 a
def RD (F:fH X.prog X.w X.K X.mg X.base CX k f fd ps sp) (hr:bL k X.A) (hg:Gl X x) (hm:X.mg x=some (.ref f)) (hk:V3 X.K (.ref f)=true) (hb:Binds X.K fd ps ds) (hd:aI dvs ds) (hx:fU CX X E)
  (ha:PA X (e :: es) t) (hdb:(x == ("__debug__" : ZQ))=false:=by decide) (he:S1 (e :: es) X.env=(false,U3 e X.env) :: S1 es X.env:=by rfl) (hpl:(J4 pos (S1 es X.env)).any (·.1)=false:=by rfl) :
  PE X (.Call (.Name x p) (e :: es) [] pos) (oo sp dvs E t):=by
 intro a s σ H Q I h;refine O5 (wC I hg hm ?_ hdb);refine N7 (h₀:=X.base) I.ok.mod.kin hk (ba (ha pos a s σ H _ I h) λ c b ⟨vs,H1,I1,r,q⟩=>⟨I1.kIn,?_⟩) he hpl;exact jC F hr hb hd hx I1 r q
def w_ (he:PE X o ta) (c:jM X.K C) (hm:mZ X.K C m f) (F:fH X.prog X.w X.K X.mg X.base CX k f fd ps sp) (hr:bL k X.A) (hb:Binds X.K fd ps ds) (hd:aI dvs ds) (hx:fU CX X E) (ha:PA X (e :: es) t)
  (hst:S1 (e :: es) X.env=(false,U3 e X.env) :: S1 es X.env:=by rfl) (hpl:(J4 pos (S1 es X.env)).any (·.1)=false:=by rfl)
  (ht:U3 (.Call (.Attribute o m apos) (e :: es) [] pos) X.env=(do
   let ov <-U3 o X.env
   j52 apos.atName
   let (f,first) <-j35 [ov] (getMethod ov m pl)
   callWith pos f first (J4 pos (S1 (e :: es) X.env)) (j1h pos (U7 [] X.env))):=by rfl) :
  PE X (.Call (.Attribute o m apos) (e :: es) [] pos) (tS C m sp dvs E ta t):=by
 intro b s σ H Q I h;refine PySem.W.methodCall_KW (pl:=pl) (ba (he b s σ H _ I h) λ u d zz=>?_) ht;obtain ⟨x,H1,I1,rx,a,dx,fs,ex,ea,l,q⟩:=zz;subst ex;obtain rfl:u=P0 a:=rx;refine MW I1 ea c hm l ?_;refine N7 (first:=[.ref a]) (h₀:=X.base) I.ok.mod.kin hm.kp (ba (ha pos b d σ H1 _ I1 q) λ us g ⟨vs,H2,I2,r,q2⟩=>⟨I2.kIn,?_⟩) hst hpl;exact jC (us:=.ref a :: us) (vs:=.ref a :: vs) F hr hb hd hx I2 (.cons rfl r) q2
structure Mk (K:c0) (C f:ZR):Prop where
 makes:PySem.W.makesIn K C=true
 init:W3 K (.ref C) "__init__" = some (some (.ref f))
 fn:j3h K (.ref f)=true
 kp:V3 K (.ref C)=true
def Pf {Q:VK} (M:Mk X.K C f) (F:fH X.prog X.w X.K X.mg X.base CX k f fd ps sp) (hr:bL (k + 1) X.A) (hb:Binds X.K fd ps ds) (hd:aI dvs ds)
  (hx:fU CX X E) (I:Inv X pins σ H s) (r:aI vs us)
  (h :∀x dx,H x=none->H dx=none->dx≠x->sp (.ref x :: (vs++dvs)) (upd (upd H dx (.own x)) x (.ins C dx [])) (λ v H2=>v=.non/\Q (.ref x) H2) E) :
  W0 (B1 X.prog X.w) X.A (call (.ref C) us) (EP X pins σ Q) X.xe s:=by
 have c:=h (s.heap.objs.size + 1) s.heap.objs.size (I.hok.fresh (S3 _)) (I.hok.fresh (o0 _)) (P1 (i3 _));have b:=Inv.made (C:=C) I;have d:aI (V.ref (s.heap.objs.size + 1) :: (vs++dvs)) (P0 (s.heap.objs.size + 1) :: (us++ds)):=.cons rfl (r.append hd);have i:(P0 (s.heap.objs.size + 1) :: us++ds).length=ps.length:=by have e:=d.length;rw [F.len _ _ _ _ c] at e;exact e.symm
 refine wpAny_call (Qs (f:=f) I.kIn M.makes M.init (beq_iff_eq.mp M.fn) (j0a (F.run _ X.stack _ _ ⟨P0 (s.heap.objs.size + 1) :: us,[]⟩ (P0 (s.heap.objs.size + 1) :: (us++ds)) _ _ E (hr.make C us [])
  (b.env0.make C us []) (hb _ (P0 (s.heap.objs.size + 1) :: us) b.kIn i) d c) λ r n a=>?_))
 cases r with
 | error e=>exact hx pins σ _ _ e n b a
 | ok fl=>
  cases fl with
  | ret u=>obtain ⟨v,o,l,g,m,j⟩:=b.after a;subst m;exact ⟨g,⟨V.ref (s.heap.objs.size + 1),o,l,rfl,j⟩⟩
  | next=>exact O3 a
  | brk=>exact O3 a
  | cont=>exact O3 a
def zK (M:Mk X.K C f) (F:fH X.prog X.w X.K X.mg X.base CX k f fd ps sp) (hr:bL (k + 1) X.A) (hg:Gl X x) (hm:X.mg x=some (.ref C)) (hb:Binds X.K fd ps ds) (hd:aI dvs ds) (hx:fU CX X E)
  (ha:PA X (e :: es) t) (hdb:(x == ("__debug__" : ZQ))=false:=by decide) (he:S1 (e :: es) X.env=(false,U3 e X.env) :: S1 es X.env:=by rfl) (hpl:(J4 pos (S1 es X.env)).any (·.1)=false:=by rfl) :
  PE X (.Call (.Name x p) (e :: es) [] pos) (oz C sp dvs E t):=by
 intro a s σ H Q I h;refine O5 (wC I hg hm ?_ hdb);refine N7 (h₀:=X.base) I.ok.mod.kin M.kp (ba (ha pos a s σ H _ I h) λ c b ⟨vs,H1,I1,r,q⟩=>⟨I1.kIn,?_⟩) he hpl;exact Pf M F hr hb hd hx I1 r q
end
section
variable {k:Nat} {f:ZR} {ks:List ZQ} {sp:Sp} {E:XK} {apos kpos:ZO} {o:ZM} {kws:List m7} {tk:TA} {nm:Option ZQ}
structure BP (K:c0) (fd:ZH) (ps ks:List ZQ) (g:List ZF->List ZF->List ZF) (gV:List V->List V->List V):Prop where
 to :∀(s:A0) (us ws:List ZF),K.In s.heap->(g us ws).length=ps.length->BindsTo s fd ⟨us,ks.zip ws⟩ (ps.zip (g us ws))
 rel :∀{vs:List V} {us:List ZF} {zs:List V} {ws:List ZF},aI vs us->aI zs ws->aI (gV vs zs) (g us ws)
variable {g:List ZF->List ZF->List ZF} {gV:List V->List V->List V}
end
structure ay (N P:List ZQ) (sc:ZC):Prop where
 kind:sc.kind=.function
 co:sc.isCoroutine=false
 gen:sc.isGenerator=false
 nd:N.Nodup
 pre:N.take P.length=P
 par :∀x∈P,sc.names.lookup x=some .local\/sc.names.lookup x=some .cell
 nofree :∀y∈sc.names,y.2≠.free
variable {kindOf:ZQ->Option z6}
theorem Hx:∀{binds:List (ZQ×ZF)} {m:ZQ->Option ZF},(∀v,(x,v)∉binds)->bindL kindOf binds m x=m x
 | [],_,_=>rfl
 | (n,v) :: r,m,h=>by
  unfold bindL;rw [Hx λ w a=>h w (Y0 _ a)];split
  ·have:x≠n:=by rintro rfl;exact h v R0
   simp [this]
  ·rfl
theorem Ij:∀{binds:List (ZQ×ZF)} {m:ZQ->Option ZF},(∀v,(x,v)∉binds)->bindC kindOf binds m x=m x
 | [],_,_=>rfl
 | (n,v) :: r,m,h=>by
  unfold bindC;rw [Ij λ w a=>h w (Y0 _ a)];split
  ·rfl
  ·have:x≠n:=by rintro rfl;exact h v R0
   simp [this]
theorem Ik {v:ZF} :∀{P:List ZQ} {vs:List ZF} {i:Nat} {m:ZQ->Option ZF},P.Nodup->P[i]? = some x->vs[i]? = some v->kindOf x=some .local->
  bindL kindOf (P.zip vs) m x=some v
 | [],_,_,_,_,h,_,_=>by simp at h
 | _ :: _,[],_,_,_,_,h,_=>by simp at h
 | p :: P,w :: vs,0,m,nd,h1,h2,hk=>by simp at h1 h2;subst h1;subst h2;show bindL kindOf ((p,w) :: P.zip vs) m p=_;unfold bindL;rw [Hx λ v a=>(List.nodup_cons.mp nd).1 (P9 a).1,if_pos hk];simp
 | p :: P,w :: vs,i + 1,m,nd,h1,h2,hk=>by show bindL kindOf ((p,w) :: P.zip vs) m x=_;unfold bindL;exact Ik (i:=i) (List.nodup_cons.mp nd).2 (by simpa using h1) (by simpa using h2) hk
theorem EM {v:ZF} :∀{P:List ZQ} {vs:List ZF} {i:Nat} {m:ZQ->Option ZF},P.Nodup->P[i]? = some x->vs[i]? = some v->kindOf x≠some .local->
  bindC kindOf (P.zip vs) m x=some v
 | [],_,_,_,_,h,_,_=>by simp at h
 | _ :: _,[],_,_,_,_,h,_=>by simp at h
 | p :: P,w :: vs,0,m,nd,h1,h2,hk=>by simp at h1 h2;subst h1;subst h2;show bindC kindOf ((p,w) :: P.zip vs) m p=_;unfold bindC;rw [Ij λ v a=>(List.nodup_cons.mp nd).1 (P9 a).1,if_neg hk];simp
 | p :: P,w :: vs,i + 1,m,nd,h1,h2,hk=>by show bindC kindOf ((p,w) :: P.zip vs) m x=_;unfold bindC;exact EM (i:=i) (List.nodup_cons.mp nd).2 (by simpa using h1) (by simpa using h2) hk
noncomputable def start (N:List ZQ) (vs:List V):St:=vs.map some++A2 (N.length - vs.length) none
noncomputable def jH (CX:nK) (P:ZI) (w:X0) (K:c0) (mg:ZQ->Option ZF) (base:ZL) (N:List ZQ) (qual:ZQ) (scope:ZC) (f:ZR) (cd:ZF) (A:j2) (outer:List Env) (s:A0) (H:Hp) (E:XK):Cx where
 prog:=P
 w:=w
 K:=K
 mg:=mg
 base:=base
 A:=A.deeper (j09 qual scope s.heap.objs.size f cd)
 N:=N
 s₀:=s
 H₀:=H
 env:=j09 qual scope s.heap.objs.size f cd
 outer:=outer
 stack:=j09 qual scope s.heap.objs.size f cd :: outer
 ex:=[]
 calm:=true
 fn:=λ _=>true
 pn:=[]
 xe:=λ e s'=>W0 (B1 P w) (A.deeper (j09 qual scope s.heap.objs.size f cd)) («leaving» (j09 qual scope s.heap.objs.size f cd) e) (λ _ s''=>CX outer H s E e s'') (λ e' s''=>CX outer H s E e' s'') s'
def CO {sc:ZC} (h:sc.names.lookup x=some .cell) :∃c,(cellsFrom n sc.names []).lookup x=some c:=by have q:=j3i sc.names n [] (.inl h);exact Option.isSome_iff_exists.mp q
theorem JO {N:List ZQ} {qual:ZQ} {scope:ZC} {f:ZR} {cd:ZF} {s1:A0} {E:XK} 
  (S:ay N ps scope) (hd:A.handled=none) (e0:hA P w K mg base A outer s H) (hl:vs.length=ps.length) (r:aI vs us)
  (x:InCallC s s.heap.objs.size (bindL (j09 qual scope s.heap.objs.size f cd).kindOf (ps.zip us) λ _=>none) (cellsFrom (s.heap.objs.size + 1) scope.names []) (bindC (j09 qual scope s.heap.objs.size f cd).kindOf (ps.zip us) λ _=>none) s1) :
  Inv (jH CX P w K mg base N qual scope f cd A outer s H E) [] (start N vs) H s1:=by
 have I:ps.length<=N.length:=by have:=congrArg C7 S.pre;rw [Y2] at this;lia
 obtain ⟨m,G,rfl,B⟩:=x.done;have o :∀b:ZR,b∉(jH CX P w K mg base N qual scope f cd A outer s H E).ex:=λ b z=>absurd (show b∈([]:List ZR) from z) (by simp);refine ⟨⟨e0.mod,S.kind,rfl,rfl,o0 _,λ y z c m d=>?_,λ y g=>?_,λ y c _ h=>?_,λ _=>hd,Around.frames_deeper e0.frames,.inr ⟨rfl,rfl⟩,λ b z=>absurd z (o b),e0.bs,e0.bsz,λ b _ _=>o b,λ b z=>absurd z (o b),e0.funs,e0.frf⟩,
  rfl,e0.bare,Un.kept B,⟨_,x.toInCall.ns,λ i y v m d J=>?_⟩,λ y c h=>⟨_,x.cell y c h⟩,e0.hok.fresh (o0 _),λ y c h=>?_,λ p j=>absurd (show p∈([]:List (ZR×ZP)) from j) (by simp),e0.hok.kept B,?_⟩
 ·exact name_of_addr x.apart (m6 m) (m6 d)
 ·have g:scope.names.lookup y=some .cell\/scope.names.lookup y=some .free:=g;rcases g with g|g
  ·exact CO g
  ·exact absurd rfl (S.nofree _ (m6 g))
 ·exact X2 (x.above y c (m6 h))
 ·have l:i < vs.length:=by
   unfold start at d;by_cases l:i < vs.length
   ·exact l
   ·rw [X1 (by simpa using l)] at d;rw [Y8] at d;split at d<;>cases d
  have D:vs[i]? = some v:=by
   unfold start at d;rw [F2 (by simpa using l),Z0] at d;cases e:vs[i]? with
   | none=>rw [e] at d;cases d
   | some a=>rw [e] at d;cases d;rfl
  obtain ⟨u,C,F⟩:=r.get D;have j:ps[i]? = some y:=by rw [<-S.pre,List.getElem?_take_of_lt '%'];exact m
  have t:ps.Nodup:=by rw [<-S.pre];exact S.nd.sublist (List.take_sublist _ _)
  refine ⟨u,F,?_⟩;rcases S.par y (S0 j) with k|k
  ·exact .inl ⟨k,Ik t j C k⟩
  ·obtain ⟨c,e⟩:=CO (n:=s.heap.objs.size + 1) k;refine .inr ⟨.inl k,c,e,?_⟩;have q:=x.cell y c e;rw [EM t j C (by show scope.names.lookup y≠_;rw [k];decide)] at q;exact q
 ·exact e0.hok.fresh (X2 (x.above y c (m6 h)))
 ·unfold start;show _=N.length;rw [L0,D0,i4]
  lia
def oi {k:Nat} {f:ZR} {name qual:ZQ} {params:Arguments} {scope:ZC} {dV kV doc pm cdv ct oc:ZF} {an od:Option ZR}
  {osl:Array (Option ZF)} {N ps:List ZQ} {sp:Sp} (lk:K.lookup f=some ⟨oc,od,.func (K6 name qual params body scope dV kV doc pm an cdv ct),osl⟩) (hcd:N9 K cdv qual=true) (S:ay N ps scope)
  (len :∀vs H Q E,sp vs H Q E->vs.length=ps.length)
  (hbody :∀(A:j2) (outer:List Env) (s:A0) (H:Hp) (vs:List V) (Q:VK) (E:XK),bL k (A.deeper (j09 qual scope s.heap.objs.size f cdv))->sp vs H Q E->
   ∃t,jz (jH CX P w K mg base N qual scope f cdv A outer s H E) body t/\t { nx:=λ _ H'=>Q .non H',rt:=Q } (start N vs) H) :
  fH P w K mg base CX (k + 1) f (K6 name qual params body scope dV kV doc pm an cdv ct) ps sp:=by
 refine ⟨len,λ A outer s H O F vs Q E g c L r l=>?_⟩;have p:=len _ _ _ _ l;have KX:K.In s.heap:=c.mod.kin.keeps λ b o e=>(c.bs b o e).1;have C:s.heap.NoLimit:=c.mod.nolimit.keeps λ b o e=>(c.bs b o e).1;have G :∀y∈ps.zip F,scope.names.lookup y.1=some .local\/(scope.names.lookup y.1=some .cell/\((cellsFrom (s.heap.objs.size + 1) scope.names []).lookup y.1).isSome=true):=λ ⟨n,v⟩ hy=>by
  rcases S.par n (P9 hy).1 with q|q
  ·exact .inl q
  ·exact .inr ⟨q,j3i _ _ _ (.inl q)⟩
 refine codeAny_call_function g.depth (KX _ _ lk) rfl S.co S.gen rfl (PySem.W.codeRec_of KX hcd) (L _ _ _ _ ?_);refine wpAny_newFunctionEnv_cells S.kind G λ R M m x=>?_;subst M;refine ⟨C.keeps x.toInCall.keep,codeAny_func ?_⟩;obtain ⟨t,z,D⟩:=hbody A outer s H vs Q E (g.deeper _) l;have I:Inv (jH CX P w K mg base N qual scope f cdv A outer s H E) [] (start N vs) H m:=JO S g.hd c p r x;refine L3 (z [] m (start N vs) H _ I D) (λ B h a=>?_) λ e h a=>a;have j :∀{d:St} {H':Hp} {v:V} {u:ZF},Inv (jH CX P w K mg base N qual scope f cdv A outer s H E) [] d H' h->RelV v u->Q v H'->CE outer P w H s Q u h:=
  λ {d H' v u} J i q=>⟨v,H',J.os,J.bare,J.base,J.hok,i,q⟩
 cases B with
 | ret u=>obtain ⟨v,d,H',J,i,q⟩:=a;exact j J i q
 | next=>obtain ⟨d,H',J,q⟩:=a;exact j (v:=V.non) (u:=Value.none) J rfl q
 | brk=>obtain ⟨_,_,_,q⟩:=a;exact O3 q
 | cont=>obtain ⟨_,_,_,q⟩:=a;exact O3 q
section
variable {id T:String} {r:List V->Hp->VK->Prop}
def nU (r:List V->Hp->VK->Prop) (t:TA):TE:=λ σ H Q=>t σ H λ vs H1=>r vs H1 Q
def fg (hc:ck X (.builtin id) r) (hg:Gl X x) (hm:X.mg x=none) (hv:B8 x=some (.builtin id)) (ha:PA X (e :: es) t) (hn:x≠"__name__":=by decide) (hdb:(x == ("__debug__" : ZQ))=false:=by decide)
  (he:S1 (e :: es) X.env=(false,U3 e X.env) :: S1 es X.env:=by rfl) (hpl:(J4 pos (S1 es X.env)).any (·.1)=false:=by rfl):PE X (.Call (.Name x p) (e :: es) [] pos) (nU r t):=by
 intro a s σ H Q I h;refine O5 (fo I hg hm hv ?_ hn hdb);exact PyProof.Rows.callWith_builtin1 (ba (ha pos a s σ H _ I h) λ c b ⟨vs,H1,I1,r1,q1⟩=>hc a b σ H1 vs c Q I1 r1 q1) he hpl
def kO (hc:ck X (.type T) r) (hg:Gl X x) (hm:X.mg x=none) (hv:B8 x=some (.type T)) (ha:PA X (e :: es) t) (hn:x≠"__name__":=by decide) (hdb:(x == ("__debug__" : ZQ))=false:=by decide)
  (he:S1 (e :: es) X.env=(false,U3 e X.env) :: S1 es X.env:=by rfl) (hpl:(J4 pos (S1 es X.env)).any (·.1)=false:=by rfl):PE X (.Call (.Name x p) (e :: es) [] pos) (nU r t):=by
 intro a s σ H Q I h;refine O5 (fo I hg hm hv ?_ hn hdb);exact o4 (ba (ha pos a s σ H _ I h) λ c b ⟨vs,H1,I1,r1,q1⟩=>hc a b σ H1 vs c Q I1 r1 q1) he hpl
end
end L2
namespace HT
open PySem PyProof.Rows
section
variable {prog:ZI} {w:X0} {A:j2} {E:ZF->A0->Prop} {s:A0}
def cat_tup {t b:ZR} {vs ws:List ZF} {Q:ZF->A0->Prop} (ht:IsTup s.heap t vs.toArray) (hb:IsTup s.heap b ws.toArray) (hv:vs≠[])
  (h1:ws=[]->Q (.ref t) s) (h2:ws≠[]->Q (.ref s.heap.objs.size) { s with heap:=s.heap.push { cls:=.type "tuple",data:=.seq (vs++ws).toArray } })
  (hsz:vs.length + ws.length<=ZE):W0 (B1 prog w) A (G5 .Add (.ref t) (.ref b)) Q E s:=by
 obtain ⟨⟨cls,f,data,k⟩,a,h,n,d⟩:=id ht;obtain ⟨⟨p,i,o,l⟩,c,j,g,m⟩:=id hb;simp only at h d j m;subst h d j m;have e:vs.toArray++ws.toArray=(vs++ws).toArray:=by simp
 by_cases hw:ws=[]
 ·exact concat_meets ⟨_,a,rfl⟩ ⟨_,c,rfl⟩ j3g seq_tuple_add S8 F8 (m8 _ _)
   (tuple_addW1 t b vs.toArray ws.toArray n g f i k l (by simpa using hv) (by simp [hw])) ⟨a,c,h1 hw⟩
 ·refine concat_meets ⟨_,a,rfl⟩ ⟨_,c,rfl⟩ j3g seq_tuple_add S8 F8 (m8 _ _)
   (tuple_addW2 t b vs.toArray ws.toArray n g f i k l (by simpa using hv) (by simpa using hw) (by rw [M0,M0];exact hsz)) ⟨a,c,?_⟩
  rw [e];exact h2 hw
noncomputable def sIx (n d:Nat):Option Int->Nat
 | none=>d
 | some v=>if v < 0 then (v + (n:Int)).toNat else min v.toNat n
def sIx_none (n d:Nat):sIx n d none=d:=rfl
theorem sIx_nat (n d k:Nat):sIx n d (some (k:Int))=min k n:=by show (if (k:Int) < 0 then ((k:Int) + (n:Int)).toNat else min (k:Int).toNat n)=min k n;rw [if_neg '%',W6]
theorem ra (n d:Nat) (hd:d<=n) (o:Option Int):sIx n d o<=n:=by
 cases o with
 | none=>exact hd
 | some v=>
  show (if v < 0 then (v + (n:Int)).toNat else min v.toNat n)<=n;by_cases hv:v < 0
  ·rw [if_pos hv];lia
  ·rw [if_neg hv];exact Nat.min_le_right _ _
theorem DR (v:Int) (n d:Nat):(if v < 0 then max (v + (n:Int)) 0 else min v (n:Int))=((sIx n d (some v):Nat):Int):=by
 show (if v < 0 then max (v + (n:Int)) 0 else min v (n:Int))=(((if v < 0 then (v + (n:Int)).toNat else min v.toNat n):Nat):Int);by_cases hv:v < 0
 ·simp only [if_pos hv];lia
 ·simp only [if_neg hv];lia
theorem Nl (lo hi:Option Int) (n:Nat):o7 lo hi 1 (n:Int)=(((sIx n 0 lo:Nat):Int),((sIx n n hi:Nat):Int)):=by
 have a:¬ ((1:Int) < 0):=by lia
 unfold o7;simp only [a,if_false];refine j64 ?_ ?_
 ·cases lo with
  | none=>rfl
  | some v=>exact DR v n 0
 ·cases hi with
  | none=>rfl
  | some v=>exact DR v n n
theorem IL (i j:Nat):L5 (i:Int) (j:Int) 1=j - i:=by
 unfold L5;have a:(1:Int) > 0:=by lia
 simp only [a,if_true,Int.ediv_one];split<;>lia
def Ie {v:ZF} {o:Option Int} {Q:Option Int->A0->Prop} (p:j2i v o) (h:Q o s):W0 (B1 prog w) A (Builtin.Slice.slicePartIndex v) Q E s:=by
 cases p with
 | none=>exact slicePart_none h
 | int i t=>exact slicePart_int h
def Jq {sl:ZR} {vl vu:ZF} {lo hi:Option Int} {n:Nat} {Q:Int×Int×Nat->A0->Prop} (hs:s.heap.IsSliceOf sl vl vu .none) (pl:j2i vl lo) (pu:j2i vu hi)
  (h:Q (((sIx n 0 lo:Nat):Int),1,sIx n n hi - sIx n 0 lo) s):W0 (B1 prog w) A (j17 (.ref sl) (Y1 (n:Int))) Q E s:=by
 obtain ⟨c,b,d,a⟩:=id hs;unfold j17 Builtin.Slice.sliceFields;refine j0 (j0 (S7 b a (x:=vl) rfl (j0 (S7 b a (x:=vu) rfl (j0 (S7 b a (x:=.none) rfl (G0 ?_)))))));refine j0 (slicePart_none ?_);show W0 _ _ (if ((1:Int) == 0)=true then _ else _) _ _ s;rw [if_neg '!'];refine j0 (Ie pl (j0 (Ie pu (j0 (G0 ?_)))));show W0 _ _ (match o7 lo hi 1 (n:Int) with|(lo,hi)=>Y1 (lo,(1:Int),L5 lo hi 1)) _ _ s;rw [Nl lo hi n];show W0 _ _ (Y1 (((sIx n 0 lo:Nat):Int),(1:Int),L5 ((sIx n 0 lo:Nat):Int) ((sIx n n hi:Nat):Int) 1)) _ _ s;rw [IL];exact G0 h
theorem JV (xs:Array ZF) (i k:Nat):((L1 k).filterMap λ (m:Nat)=>xs[((i:Int) + (m:Int) * 1).toNat]?).toArray=((xs.toList.drop i).take k).toArray:=by
 have e:(λ (m:Nat)=>xs[((i:Int) + (m:Int) * 1).toNat]?)=λ m=>xs[i + m]?:=by
  funext m;have:((i:Int) + (m:Int) * 1).toNat=i + m:=by lia
  rw [this]
 rw [e];have:=pick_run xs i k;rw [List.filterMap_map] at this;have a:((λ x=>xs[x]?) ∘ λ x=>i + x)=λ m=>xs[i + m]?:=rfl;rw [a] at this;rw [this]
theorem getItem_tuple_cut {t sl:ZR} {items:Array ZF} {vl vu:ZF} {lo hi:Option Int} {Q:ZF->A0->Prop} (ht:IsTup s.heap t items) (hs:s.heap.IsSliceOf sl vl vu .none) (pl:j2i vl lo) (pu:j2i vu hi)
  (hw:¬ (sIx items.size 0 lo=0/\sIx items.size items.size hi=items.size))
  (h:Q (.ref s.heap.objs.size) { s with heap:=s.heap.push { cls:=.type "tuple",data:=.seq ((items.toList.drop (sIx items.size 0 lo)).take (sIx items.size items.size hi - sIx items.size 0 lo)).toArray } })
  (hsz:items.size<=ZE):W0 (B1 prog w) A (j20 (.ref t) (.ref sl)) Q E s:=by
 have a:sizeOk (.seq ((items.toList.drop (sIx items.size 0 lo)).take (sIx items.size items.size hi - sIx items.size 0 lo)).toArray):=by
  show ((items.toList.drop (sIx items.size 0 lo)).take (sIx items.size items.size hi - sIx items.size 0 lo)).toArray.size<=ZE;rw [M0,Y2,Z4,O0]
  lia
 have j:sIx items.size items.size hi<=items.size:=ra _ _ (o0 _) hi;obtain ⟨b,f,c,k⟩:=id hs;have e:s.TypeIs (.ref sl) "slice":=⟨b,f,c⟩
 unfold j20
 try with_reducible refine y4 ?_
 first|refine j0 (G0 ?_)|skip
 refine j0 (wpAny_sequenceKey ht.typeIs '!' ?_);refine j0 (F5 (name:=X7 "__getitem__") ht.typeIs j03
  (X3 j03 ht.typeIs entry_tuple_getitem ?_ (args_tuple_getitem _ _)))
 show W0 _ _ (Builtin.Tuple.tupleItemsOf (.ref t) >>= _) _ _ s;refine j0 (tupleItemsOf_ ht ?_);refine j0 (j07 e ?_);rw [if_pos '!'];refine j0 (Jq hs pl pu ?_);have d:¬ ((((sIx items.size 0 lo:Nat):Int) == 0 && (1:Int) == 1 && (sIx items.size items.size hi - sIx items.size 0 lo) == items.size)=true):=by intro q;rw [Z2,Z2] at q;have g:((sIx items.size 0 lo:Nat):Int)=0:=eq_of_beq q.1.1;have i:sIx items.size items.size hi - sIx items.size 0 lo=items.size:=eq_of_beq q.2;exact hw ⟨by lia,by lia⟩
 show W0 _ _ (if (((sIx items.size 0 lo:Nat):Int) == 0 && (1:Int) == 1 && (sIx items.size items.size hi - sIx items.size 0 lo) == items.size)=true then _ else _) _ _ s;rw [if_neg d,JV];first
  | exact j0 (m:=Q5 _) (M3 (G0 ⟨_,rfl,G0 h⟩) a)
  | exact j0 (m:=Q5 _) (M3 (j0 (G0 (G0 ⟨_,rfl,G0 h⟩))) a)
  | exact j0 (j0 (m:=Q5 _) (M3 (G0 (G0 ⟨_,rfl,G0 h⟩)) a))
  | exact j0 (j0 (m:=Q5 _) (M3 (G0 ⟨_,rfl,G0 h⟩) a))
end
end HT
def Z_:=@if_neg
def ZZ:=@if_pos
def ZY:=@decide_eq_true
def ZX:=@decide_eq_false
def ZW:=@of_decide_eq_true
def ZV:=@of_decide_eq_false
def ZU:=@absurd
def ZT:=@congrArg
def ZS:=@bind_congr
namespace L2
open PySem PySem.Spec PyProof.Rows
noncomputable abbrev TO:=St->Hp->(Option Int->Hp->Prop)->Prop
def PO (X:Cx) (e:Option ZM) (t:TO):Prop:=
 ∀(pins:List (ZR×ZP)) (s:A0) (σ:St) (H:Hp) (Q:Option Int->Hp->Prop),Inv X pins σ H s->t σ H Q->
  W0 (B1 X.prog X.w) X.A (evalPart e X.env) (λ u s'=>∃o H',Inv X pins σ H' s'/\j2i u o/\Q o H') X.xe s
def Ay:TO:=λ _ H Q=>Q none H
def mn (t:TE):TO:=λ σ H Q=>t σ H λ x H1=>∃i,x=.int i/\Q (some i) H1
def Fd {ns:List Int} :∀{us:List ZF},aI (ns.map V.int) us->j0e us ns:=by
 induction ns with
 | nil=>intro us r;rw [j6] at r;cases r;exact .nil
 | cons n ns ih=>
  intro us r;rw [G1] at r;cases r with
  | cons r1 r2=>obtain ⟨t,e⟩:=r1;subst e;exact .cons n t (ih r2)
variable {X:Cx} {e:ZM} {pos:ZO}
section
variable {te:TE} {lo hi:Option ZM} {tl th:TO} {p2:ZO}
def nP:PO X none Ay:=by intro a s σ H Q I h;rw [evalPart_none];exact G0 ⟨none,H,I,.none,h⟩
def lq (h:PE X e te):PO X (some e) (mn te):=by intro a s σ H Q I b;rw [evalPart_some];refine ba (h a s σ H _ I b) λ u c zz=>?_;obtain ⟨x,H1,I1,r1,q1⟩:=zz;obtain ⟨i,rfl,q⟩:=q1;obtain ⟨t,rfl⟩:=r1;exact ⟨some i,H1,I1,.int i t,q⟩
def nY (X:Cx) (r:V->Option Int->Option Int->Hp->VK->Prop):Prop:=
 ∀(pins:List (ZR×ZP)) (s:A0) (σ:St) (H:Hp) (x:V) (v vl vu:ZF) (lo hi:Option Int) (sl:ZR) (Q:VK),Inv X pins σ H s->RelV x v->s.heap.IsSliceOf sl vl vu .none->j2i vl lo->j2i vu hi->r x lo hi H Q->
  ∃T id,typeLookup (.type T) "__getitem__" = Y1 (some (.builtin id))/\s.TypeIs v T/\W0 (B1 X.prog X.w) X.A (j20 v (.ref sl)) (EP X pins σ Q) X.xe s
def nY.or {r r':V->Option Int->Option Int->Hp->VK->Prop} (h:nY X r) (h':nY X r'):nY X (λ x lo hi H Q=>r x lo hi H Q\/r' x lo hi H Q):=by
 intro e s σ H x v f i lo hi g Q I b c d a q;rcases q with q|q
 ·exact h e s σ H x v f i lo hi g Q I b c d a q
 ·exact h' e s σ H x v f i lo hi g Q I b c d a q
def Ba (r:V->Option Int->Option Int->Hp->VK->Prop) (te:TE) (tl th:TO):TE:=λ σ H Q=>te σ H λ x H1=>tl σ H1 λ l H2=>th σ H2 λ u H3=>r x l u H3 Q
def nQ {r:V->Option Int->Option Int->Hp->VK->Prop} (hr:nY X r) (he:PE X e te) (hl:PO X lo tl) (hu:PO X hi th):PE X (.Subscript e (.Slice lo hi none p2) pos) (Ba r te tl th):=by intro c s σ H Q I h;refine j5j (ba (he c s σ H _ I h) λ v n zz=>?_);obtain ⟨x,H1,I1,r1,q1⟩:=zz;refine wpAny_Slice (ba (hl c n σ H1 _ I1 q1) λ f k ⟨l,H2,I2,pl,q2⟩=>ba (hu c k σ H2 _ I2 q2) λ d a zz=>?_);obtain ⟨u,H3,I3,pu,q3⟩:=zz;rw [evalPart_none];refine G0 ?_;have j:Inv X c σ H3 { a with heap:=a.heap.push { cls:=.type "slice",data:=.fields #[f,d,.none] } }:=I3.kept (t':=a.toks) λ b o q=>B0 _ q;obtain ⟨T,id,m,g,i⟩:=hr c { a with heap:=a.heap.push { cls:=.type "slice",data:=.fields #[f,d,.none] } } σ H3 x v f d l u a.heap.objs.size Q j r1 (j31 ..) pl pu q3;show W0 (B1 X.prog X.w) X.A (j2b e (.Slice lo hi none p2) v (.ref a.heap.objs.size)) (EP X c σ Q) X.xe { a with heap:=a.heap.push { cls:=.type "slice",data:=.fields #[f,d,.none] } };exact j5b (ops:=[.ref a.heap.objs.size,v]) g m i (by with_unfolding_all rfl)
noncomputable def cw (xs:List V) (lo hi:Option Int):List V:=(xs.drop (HT.sIx xs.length 0 lo)).take (HT.sIx xs.length xs.length hi - HT.sIx xs.length 0 lo)
theorem Hw (xs:List V) (lo hi:Option Int):(cw xs lo hi).length<=xs.length:=by
 unfold cw;rw [Y2,Z4]
 lia
def nZ (K:c0):V->Option Int->Option Int->Hp->VK->Prop:=λ x lo hi H Q=>∃a xs,x=.ref a/\aG K H a xs/\
 ¬ (HT.sIx xs.length 0 lo=0/\HT.sIx xs.length xs.length hi=xs.length)/\∀p,H p=none->Q (.ref p) (upd H p (.tup (cw xs lo hi)))
def pB:nY X (nZ X.K):=by
 intro u s σ H x v A w d e z Q I m n p l h;obtain ⟨a,c,rfl,t,j,q⟩:=h;cases m;obtain ⟨k,r,g,i⟩:=I.tuple t;have f:k.toArray.size=c.length:=by rw [M0];exact r.length.symm
 refine ⟨"tuple",_,PyProof.Rows.slot_tuple_getitem.lookup,g.typeIs,?_⟩;refine HT.getItem_tuple_cut g n p l (by rw [f];exact j) ?_ (by rw [f];exact i);rw [f];refine ⟨.ref s.heap.objs.size,_,I.laid (t':=s.toks) (o:=.tup (cw c d e)) (λ b y q=>B0 _ q) (o0 _) ?_,rfl,q _ (I.hok.fresh (o0 _))⟩;exact ⟨C0 (Hw c d e) i,_,(r.drop (HT.sIx c.length 0 d)).take (HT.sIx c.length c.length e - HT.sIx c.length 0 d),fR.new _ _⟩
def kr (K:c0):R2:=λ x y H Q=>∃a b xs ys,x=.ref a/\y=.ref b/\aG K H a xs/\aG K H b ys/\xs≠[]/\xs.length + ys.length<=ZE/\
 (ys=[]->Q (.ref a) H)/\(ys≠[]->∀p,H p=none->Q (.ref p) (upd H p (.tup (xs++ys))))
def aI.nil_iff {xs:List V} {us:List ZF} (r:aI xs us):us=[]↔xs=[]:=by
 cases r with
 | nil=>simp
 | cons _ _=>simp
def ux:ei X (G5 .Add) (kr X.K):=by intro B s σ H x y v u Q I j g h;obtain ⟨a,b,i,p,rfl,rfl,l,k,t,e,f,m⟩:=h;cases j;cases g;obtain ⟨C,d,n,_⟩:=I.tuple l;obtain ⟨A,c,r,_⟩:=I.tuple k;refine HT.cat_tup n r (λ z=>t (d.nil_iff.mp z)) (λ z=>⟨.ref a,H,I,rfl,f (c.nil_iff.mp z)⟩) (λ z=>?_) (by rw [<-d.length,<-c.length];exact e);refine ⟨.ref s.heap.objs.size,_,I.laid (t':=s.toks) (o:=.tup (i++p)) (λ b D q=>B0 _ q) (o0 _) ?_,rfl,m (λ w=>z (c.nil_iff.mpr w)) _ (I.hok.fresh (o0 _))⟩;exact ⟨by rw [L0];exact e,_,d.append c,fR.new _ _⟩
end
noncomputable def nA (n:Nat) (i:Int):Option Nat:=if 0<=i then (if i < n then some i.toNat else none) else if -(n:Int)<=i then some (i + n).toNat else none
noncomputable def om {α:Type} (xs:List α) (i:Int):Option α:=(nA xs.length i).bind λ j=>xs[j]?
variable {n:Nat}
theorem Hc {i:Int} {j:Nat} (h:nA n i=some j):seqIndex? i n=some j/\j < n/\-(n:Int)<=i/\i < n:=by
 unfold nA at h;by_cases h0:0<=i
 ·rw [ZZ h0] at h;by_cases h1:i < n
  ·rw [ZZ h1] at h;have e:i.toNat=j:=Q1 h;exact ⟨by rw [seqIndex_of h0 h1,e],by lia,by lia,h1⟩
  ·rw [Z_ h1] at h;cases h
 ·rw [Z_ h0] at h;by_cases h1:-(n:Int)<=i
  ·rw [ZZ h1] at h;have e:(i + n).toNat=j:=Q1 h;exact ⟨by rw [seqIndex_neg '%' h1,e],by lia,h1,by lia⟩
  ·rw [Z_ h1] at h;cases h
def BY {α:Type} {xs:List α} {i:Int} {v:α} (h:om xs i=some v) :∃j,seqIndex? i xs.length=some j/\xs[j]? = some v/\j < xs.length/\-(xs.length:Int)<=i/\i < xs.length:=by
 unfold om at h;cases e:nA xs.length i with
 | none=>rw [e] at h;cases h
 | some j=>rw [e] at h;obtain ⟨b,c,a,d⟩:=Hc e;exact ⟨j,b,h,c,a,d⟩
theorem bF {α:Type} {xs:List α} {j:Nat} {v:α} (h:xs[j]? = some v):om xs (j:Int)=some v:=by
 have a:j < xs.length:=(List.getElem?_eq_some_iff.mp h).1;have e:nA xs.length (j:Int)=some j:=by unfold nA;rw [ZZ '%',ZZ '%'];simp
 unfold om;rw [e];exact h
def EA (b:ZM):Prop:=∀o i,j42 b false o i=operate [o,i] (j20 o i)
def kE (X:Cx) (r:R2):Prop:=
 ∀(value slice:ZM) (pins:List (ZR×ZP)) (s:A0) (σ:St) (H:Hp) (x y:V) (v u:ZF) (Q:VK),Inv X pins σ H s->RelV x v->RelV y u->r x y H Q->
  j42 slice false v u=operate [v,u] (j20 v u)->W0 (B1 X.prog X.w) X.A (j2b value slice v u) (EP X pins σ Q) X.xe s
def GP (X:Cx) (id:String) (r:V->List V->Hp->VK->Prop):Prop:=
 ∀(pins:List (ZR×ZP)) (s:A0) (σ:St) (H:Hp) (x:V) (xs:List V) (v:ZF) (us:List ZF) (Q:VK),Inv X pins σ H s->RelV x v->aI xs us->r x xs H Q->
  W0 (B1 X.prog X.w) X.A (call (.builtin id) (v :: us)) (EP X pins σ Q) X.xe s
variable {A:j2} {H:Hp} {T:String} {its:List ZF} {pins:List (ZR×ZP)} {s:A0} {u v:ZF} {x y:V} {σ:St}
section
variable {a b:ZM} {ta tb:TE} 
def kE.or {r r':R2} (h:kE X r) (h':kE X r'):kE X (λ x y H Q=>r x y H Q\/r' x y H Q):=by
 intro f d e s σ H x y v u Q I a b q c;rcases q with q|q
 ·exact h f d e s σ H x y v u Q I a b q c
 ·exact h' f d e s σ H x y v u Q I a b q c
def au {r:R2} (hr:kE X r) (ha:PE X a ta) (hb:PE X b tb) (hs:EA b):PE X (.Subscript a b pos) (jK r ta tb):=by intro e s σ H Q I h;exact j5j (qT ha hb I h λ v u f x y i g c d q=>hr a b e f σ i x y v u Q g c d q (hs _ _))
inductive Bv (K:c0) (x y:V) (H:Hp) (Q:VK):Prop
 | mk (p:ZR) (xs:List V) (i:Int) (v:V) (a:x=.ref p) (b:y=.int i) (c:aH K H p xs) (d:om xs i=some v) (q:Q v H)
def vS (K:c0):R2:=λ x y H Q=>Bv K x y H Q
inductive zR (K:c0) (x y:V) (H:Hp) (Q:VK):Prop
 | mk (p:ZR) (xs:List V) (i:Int) (v:V) (a:x=.ref p) (b:y=.int i) (c:aG K H p xs) (d:om xs i=some v) (q:Q v H)
def ur (K:c0):R2:=λ x y H Q=>zR K x y H Q
def uq:R2:=λ x y H Q=>∃z i c,x=.str z/\y=.int i/\z.length<=ZE/\om z.cps.toList i=some c/\Q (.str ⟨#[c]⟩) H
theorem nE:kE X (vS X.K):=by
 intro O N e s σ H x y v u Q I D A h f;obtain ⟨p,J,i,z,rfl,rfl,m,F,q⟩:=h;cases D;obtain ⟨t,rfl⟩:=A;obtain ⟨n,r,c,G⟩:=I.list m;obtain ⟨j,a,C,M,o,B⟩:=BY F;obtain ⟨w,g,l⟩:=r.get C;have k:=r.length;have L:=gx;have d:EP X e σ Q w s:=⟨z,H,I,l,q⟩
 by_cases h0:0<=i
 ·have b:i.toNat=j:=by rw [seqIndex_of h0 B] at a;exact Q1 a
  exact item_listR c.isList h0 '%' (by rw [b];simpa using g) d f
 ·have b:(i + (n.toArray.size:Int)).toNat=j:=by rw [seqIndex_neg '%' o] at a;rw [M0,<-k];exact Q1 a
  exact subscriptTail_builtinR (x:=w) c.isList.typeIs slot_list_getitem.lookup
   (wpAny_getItem_list_neg (Q:=λ r E=>r=w/\EP X e σ Q r E) c.isList '%' (by rw [M0]<;>lia) '%' (by rw [b];simpa using g) ⟨rfl,d⟩) f
theorem pW:kE X (ur X.K):=by
 intro N M a s σ H x y v u Q I m g h n;obtain ⟨p,G,i,z,rfl,rfl,f,B,q⟩:=h;cases m;obtain ⟨t,rfl⟩:=g;obtain ⟨C,r,b,F⟩:=I.tuple f;obtain ⟨j,k,l,L,D,E⟩:=BY B;obtain ⟨w,o,e⟩:=r.get l;have c:=r.length;have J:=gx;have d:EP X a σ Q w s:=⟨z,H,I,e,q⟩
 exact subscriptTail_builtinR (x:=w) b.typeIs slot_tuple_getitem.lookup
  (getItem_tuple (j:=j) (Q:=λ r A=>r=w/\EP X a σ Q r A) b '%' '%' (by rw [M0,<-c];exact k) (by simpa using o) ⟨rfl,d⟩) n
theorem pL:kE X uq:=by
 intro p D r s σ H x y v u Q I l e h m;obtain ⟨z,i,c,rfl,rfl,w,o,q⟩:=h;obtain ⟨t,rfl⟩:=l;obtain ⟨A,rfl⟩:=e;obtain ⟨j,a,k,C,d,f⟩:=BY o;have b:z.cps.toList.length=z.length:=by simp [Str.length]
 rw [b] at a d f;have B:=gx;exact j5b (typeIs_str s z t) slot_str_getitem.lookup (getItem_str (c:=c) (by have n:decide (i < -(2 ^ 63:Int))=false:=ZX '%';have g:decide (i ≥ 2 ^ 63)=false:=ZX '%';rw [n,g,Bool.or_false]) (by rw [a];simpa using k) ⟨.str ⟨#[c]⟩,H,I.tok _,⟨_,rfl⟩,q⟩) m
def oB (K:c0):R2:=λ x y H Q=>vS K x y H Q\/ur K x y H Q\/uq x y H Q
def aj:kE X (oB X.K):=nE.or (pW.or pL)
def MA (its:List ZF) (n j:Nat) (u:ZF):C2 (·.setIfInBounds j u) { cls:=.type "list",data:=.seq its.toArray n }={ cls:=.type "list",data:=.seq (its.set j u).toArray n }:=by simp [C2]
def Inv.lst {p:ZR} {xs:List V} (I:Inv X pins σ H s) (h:H p=some (.lst xs)) :
  ∃(its:List ZF) (n:Nat),aI xs its/\s.heap.get? p=some { cls:=.type "list",data:=.seq its.toArray n }/\xs.length<=ZE:=by
 obtain ⟨z,its,n,r,e⟩:=I.hok p _ h;exact ⟨its,n,r,e,z⟩
def Inv.lstUpd {p:ZR} {xs ys:List V} {its':List ZF} {n':Nat} {f:ZP->ZP} (I:Inv X pins σ H s) (h:H p=some (.lst xs))
  (ho:s.heap.get? p=some { cls:=.type "list",data:=.seq its.toArray n }) (hf:f { cls:=.type "list",data:=.seq its.toArray n }={ cls:=.type "list",data:=.seq its'.toArray n' }) (r:aI ys its') (hz:ys.length<=ZE) (t:Nat) :
  Inv X pins σ (upd H p (.lst ys)) { s with heap:=s.heap.update p f,toks:=t }:=by
 have e:(s.heap.update p f).get? p=some { cls:=.type "list",data:=.seq its'.toArray n' }:=by rw [X9 f ho (by rw [hf]<;>rfl),hf]
 refine I.write (x:=p) (e:=p) (by rw [h];trivial) (.inl rfl) (λ b u a q=>(B9 _ _ (F4 a)).trans q) ⟨_,e⟩ ?_;exact ⟨hz,its',n',r,e⟩
def tY:V->V->V->Hp->(Hp->Prop)->Prop:=λ o i v H Q=>∃p xs k j,o=.ref p/\i=.int k/\H p=some (.lst xs)/\nA xs.length k=some j/\Q (upd H p (.lst (xs.set j v)))
theorem qN:sV X tY:=by
 intro w s σ H o i v G F u Q I C B A h;obtain ⟨p,y,k,j,rfl,rfl,l,z,q⟩:=h;cases C;obtain ⟨t,rfl⟩:=B;obtain ⟨e,n,r,b,x⟩:=I.lst l;obtain ⟨a,D,m,f⟩:=Hc z;have c:=r.length;have E:=gx;have g:Inv X w σ (upd H p (.lst (y.set j v))) { s with heap:=s.heap.update p (C2 (·.setIfInBounds j u)) }:=
  I.lstUpd l b (MA e n j u) (r.set A j) (by rw [K7];exact x) s.toks
 by_cases h0:0<=k
 ·have d:k.toNat=j:=by rw [seqIndex_of h0 f] at a;exact Q1 a
  exact PySem.W.ki_setAt b h0 '%' (by rw [M0,<-c];exact f) (by rw [d];exact ⟨_,g,q⟩)
 ·have d:(k + (e.toArray.size:Int)).toNat=j:=by rw [seqIndex_neg '%' m] at a;rw [M0,<-c];exact Q1 a
  exact PySem.W.ki_setBack b '%' (by rw [M0,<-c];exact m) '%' (by rw [d];exact ⟨_,g,q⟩)
theorem Nx (lo hi:Option Int) (n:Nat):(C3 lo hi none n).1=((HT.sIx n 0 lo:Nat):Int)/\(C3 lo hi none n).2.1=((HT.sIx n n hi:Nat):Int)/\(C3 lo hi none n).2.2=1:=by
 refine ⟨?_,?_,rfl⟩
 ·cases lo with
  | none=>simp [C3,HT.sIx]
  | some i=>
   simp only [C3,HT.sIx,Option.getD_none,show (1:Int) > 0 by decide,if_true];by_cases h:i < 0
   ·simp only [h,if_true]<;>lia
   ·simp only [h,if_false]<;>lia
 ·cases hi with
  | none=>simp [C3,HT.sIx]
  | some i=>
   simp only [C3,HT.sIx,Option.getD_none,show (1:Int) > 0 by decide,if_true];by_cases h:i < 0
   ·simp only [h,if_true]<;>lia
   ·simp only [h,if_false]<;>lia
def Lo (its:List ZF) (lo hi:Option Int):slicePick its.toArray lo hi none=((its.drop (HT.sIx its.length 0 lo)).take (HT.sIx its.length its.length hi - HT.sIx its.length 0 lo)).toArray:=by obtain ⟨a,b,c⟩:=Nx lo hi its.toArray.size;unfold slicePick;rw [a,b,c];simp only [sliceRange_one,pick_run,M0]<;>rfl
def nB (K:c0):V->Option Int->Option Int->Hp->VK->Prop:=λ x lo hi H Q=>∃a xs,x=.ref a/\aH K H a xs/\∀p,H p=none->Q (.ref p) (upd H p (.lst (cw xs lo hi)))
theorem nF:nY X (nB X.K):=by intro p s σ H x v z u d e y Q I j k m i h;obtain ⟨a,c,rfl,n,q⟩:=h;cases j;obtain ⟨t,r,f,g⟩:=I.list n;have l:=r.length;refine ⟨"list",_,slot_list_getitem.lookup,f.isList.typeIs,?_⟩;refine wpAny_getItem_list_slice f.isList k m i .none (by simp) ?_ (by rw [M0]<;>lia);rw [Lo,<-l];refine ⟨.ref s.heap.objs.size,_,I.laid (t':=s.toks) (o:=.lst (cw c d e)) (λ b w q=>B0 _ q) (o0 _) ?_,rfl,q _ (I.hok.fresh (o0 _))⟩;exact ⟨C0 (Hw c d e) g,_,0,(r.drop (HT.sIx c.length 0 d)).take (HT.sIx c.length c.length e - HT.sIx c.length 0 d),j1 _ rfl⟩
noncomputable def fM:V->Bool
 | .non=>true
 | .bl _=>true
 | .int _=>true
 | .str _=>true
 | _=>false
noncomputable def oF:V->V->Bool
 | .non,.non=>true
 | .bl a,.bl b=>a == b
 | .bl a,.int b=>(if a then 1 else 0) == b
 | .int a,.bl b=>a == (if b then 1 else 0)
 | .int a,.int b=>a == b
 | .str a,.str b=>a == b
 | _,_=>false
def rR (ry:RelV y u) (rx:RelV x v) (fy:fM y=true) (fx:fM x=true):SeqAt.EqAt A s u v (oF y x):=by
 cases y with
 | non=>
  cases ry;cases x with
  | non=>cases rx;exact SeqAt.EqAt.same _
  | bl b=>cases rx;exact SeqAt.EqAt.none_bool b
  | int b=>obtain ⟨t,rfl⟩:=rx;exact SeqAt.EqAt.none_int b t
  | str b=>obtain ⟨t,rfl⟩:=rx;exact SeqAt.EqAt.none_str b t
  | _=>exact ZU (show false=true from fx) N0
 | bl a=>
  cases ry;cases x with
  | non=>cases rx;exact SeqAt.EqAt.bool_none a
  | bl b=>cases rx;exact SeqAt.EqAt.bool_bool a b
  | int b=>obtain ⟨t,rfl⟩:=rx;exact SeqAt.EqAt.bool_int a b t
  | str b=>obtain ⟨t,rfl⟩:=rx;exact SeqAt.EqAt.bool_str a b t
  | _=>exact ZU (show false=true from fx) N0
 | int a=>
  obtain ⟨c,rfl⟩:=ry;cases x with
  | non=>cases rx;exact SeqAt.EqAt.int_none a c
  | bl b=>cases rx;exact SeqAt.EqAt.int_bool a c b
  | int b=>obtain ⟨t,rfl⟩:=rx;exact SeqAt.EqAt.int_int a c b t
  | str b=>obtain ⟨t,rfl⟩:=rx;exact j46 a c b t
  | _=>exact ZU (show false=true from fx) N0
 | str a=>
  obtain ⟨c,rfl⟩:=ry;cases x with
  | non=>cases rx;exact SeqAt.EqAt.str_none a c
  | bl b=>cases rx;exact SeqAt.EqAt.str_bool a c b
  | int b=>obtain ⟨t,rfl⟩:=rx;exact j45 a c b t
  | str b=>obtain ⟨t,rfl⟩:=rx;exact j44 a c b t
  | _=>exact ZU (show false=true from fx) N0
 | _=>exact ZU (show false=true from fy) N0
noncomputable def jG (x:V) (u:ZF):Bool:=match u with
 | .none=>oF .non x
 | .bool b=>oF (.bl b) x
 | .int i _=>oF (.int i) x
 | .str z _=>oF (.str z) x
 | _=>false
def mR (r:RelV y u) (f:fM y=true):jG x u=oF y x:=by
 cases y with
 | non=>cases r;rfl
 | bl b=>cases r;rfl
 | int i=>obtain ⟨t,rfl⟩:=r;rfl
 | str z=>obtain ⟨t,rfl⟩:=r;rfl
 | _=>exact ZU (show false=true from f) N0
theorem ub:∀{xs:List V} {us:List ZF},aI xs us->xs.all fM=true->us.any (jG x)=xs.any λ y=>oF y x
 | _,_,.nil,_=>rfl
 | y :: xs,u :: us,.cons r t,f=>by rw [List.all_cons,Z2] at f;rw [N8,N8,mR r f.1,ub t f.2]
theorem vi (rx:RelV x v) (fx:fM x=true) :∀{xs:List V} {us:List ZF},aI xs us->xs.all fM=true->∀u∈us,SeqAt.EqAt A s u v (jG x u)
 | _,_,.nil,_=>λ u a=>by cases a
 | y :: xs,u :: us,.cons r t,f=>λ b a=>by
  rw [List.all_cons,Z2] at f;rcases List.mem_cons.mp a with rfl|a
  ·rw [mR r f.1];exact rR r rx f.1 fx
  ·exact vi rx fx t f.2 b a
noncomputable def md (x:V) (xs:List V):Bool:=xs.any λ y=>oF y x
def xQ (K:c0) (neg:Bool):R2:=λ x y H Q=>∃p xs,y=.ref p/\(aH K H p xs\/aG K H p xs)/\fM x=true/\xs.all fM=true/\Q (.bl (if neg then !md x xs else md x xs)) H
def oJ:ei X (T2 .In) (xQ X.K false):=by
 intro j s σ H x y v u Q I e g h;obtain ⟨p,k,rfl,a,f,fs,q⟩:=h;cases g;rcases a with a|a
 ·obtain ⟨b,r,d,i⟩:=I.list a;refine SeqAt.in_listAt (jG x) d.isList (λ w c=>vi e f r fs w (by simpa using c)) ⟨.bl _,H,I,rfl,?_⟩;rw [show b.toArray.any (jG x)=b.any (jG x) by simp,ub r fs];exact q
 ·obtain ⟨b,r,d,i⟩:=I.tuple a;refine SeqAt.in_tupleAt (jG x) d (λ w c=>vi e f r fs w (by simpa using c)) ⟨.bl _,H,I,rfl,?_⟩;rw [show b.toArray.any (jG x)=b.any (jG x) by simp,ub r fs];exact q
def sh:ei X (T2 .NotIn) (xQ X.K true):=by
 intro j s σ H x y v u Q I e g h;obtain ⟨p,k,rfl,a,f,fs,q⟩:=h;cases g;rcases a with a|a
 ·obtain ⟨b,r,d,i⟩:=I.list a;refine SeqAt.notIn_listAt (jG x) d.isList (λ w c=>vi e f r fs w (by simpa using c)) ⟨.bl _,H,I,rfl,?_⟩;rw [show b.toArray.any (jG x)=b.any (jG x) by simp,ub r fs];exact q
 ·obtain ⟨b,r,d,i⟩:=I.tuple a;refine SeqAt.notIn_tupleAt (jG x) d (λ w c=>vi e f r fs w (by simpa using c)) ⟨.bl _,H,I,rfl,?_⟩;rw [show b.toArray.any (jG x)=b.any (jG x) by simp,ub r fs];exact q
theorem iQ:ck X (.builtin "len") (λ xs H Q=>∃p ys,xs=[.ref p]/\(aH X.K H p ys\/aG X.K H p ys)/\Q (.int ys.length) H):=by
 intro i s σ H xs k Q I r h;obtain ⟨p,ys,rfl,a,q⟩:=h;obtain ⟨u,rfl,e⟩:=vals1 r;cases e;have j:=gx;rcases a with a|a
 ·obtain ⟨g,d,c,f⟩:=I.list a;have b:=d.length;exact Calls.call_len_list c.isList (by simp only [M0]<;>lia) ⟨.int ys.length,H,I.tok _,⟨s.toks + 1,by rw [M0,b]⟩,q⟩
 ·obtain ⟨g,d,c,f⟩:=I.tuple a;have b:=d.length;exact len_tuple c (by simp only [M0]<;>lia) ⟨.int ys.length,H,I.tok _,⟨s.toks + 1,by rw [M0,b]⟩,q⟩
theorem Jv:ck X (.builtin "len") (λ xs H Q=>∃z,xs=[.str z]/\z.length<=ZE/\Q (.int z.length) H):=by intro b s σ H xs d Q I r h;obtain ⟨z,rfl,a,q⟩:=h;obtain ⟨u,rfl,t,rfl⟩:=vals1 r;have c:=gx;exact len_str '%' ⟨.int z.length,H,I.tok _,⟨_,rfl⟩,q⟩
def ck.or {f:ZF} {r r':List V->Hp->VK->Prop} (h:ck X f r) (h':ck X f r'):ck X f (λ xs H Q=>r xs H Q\/r' xs H Q):=by
 intro b s σ H xs c Q I a q;rcases q with q|q
 ·exact h b s σ H xs c Q I a q
 ·exact h' b s σ H xs c Q I a q
theorem ny:ck X (.type "tuple") (λ xs H Q=>∃p ys,xs=[.ref p]/\((aH X.K H p ys/\∀l,H l=none->Q (.ref l) (upd H l (.tup ys)))\/(aG X.K H p ys/\Q (.ref p) H))):=by
 intro i s σ H xs t Q I r h;obtain ⟨p,ys,rfl,h⟩:=h;obtain ⟨u,rfl,m⟩:=vals1 r;cases m;rcases h with ⟨c,q⟩|⟨c,q⟩
 ·obtain ⟨d,f,g,j⟩:=I.list c;have v:=f.length;refine call_tuple_list g.isList (λ a kp=>?_) (by simp only [M0]<;>lia);have k:Inv X i σ H { s with heap:=a }:=I.kept (t':=s.toks) kp;have n:Inv X i σ (upd H a.objs.size (.tup ys)) { s with heap:=a.push { cls:=.type "tuple",data:=.seq d.toArray } }:=
   k.laid (t':=s.toks) (λ b o e=>B0 _ e) (o0 _) (show bb X.prog X.w _ _ _ (.tup ys) from ⟨j,d,f,fR.new _ _⟩)
  exact ⟨.ref a.objs.size,_,n,rfl,q _ (k.hok.fresh (o0 _))⟩
 ·obtain ⟨d,f,g,j⟩:=I.tuple c;exact call_tuple_same g ⟨.ref p,H,I,rfl,q⟩
def wK (K:c0) (T:String) (x:V) (H:Hp):Prop:=match x with
 | .str _=>T = "str"
 | .int _=>T = "int"
 | .ref p=>(T = "list"/\∃xs,aH K H p xs)\/(T = "tuple"/\∃o,K.lookup p=some o/\o.cls=.type "tuple"/\o.dict=none)\/
   (T = "dict"/\((∃kvs,H p=some (.dK kvs))\/∃kvs,H p=some (.dT kvs)))\/(T = "set"/\∃S n,H p=some (.set S n))
 | _=>False
def lY (I:Inv X pins σ H s) (r:RelV x v) (ty:wK X.K T x H) :
  s.TypeIs v T/\∀a,v=.ref a->∃ob,s.heap.get? a=some ob/\ob.dict=none:=by
 cases x with
 | str z=>obtain ⟨t,rfl⟩:=r;cases (show T = "str" from ty);exact ⟨typeIs_str s z t,λ _ e=>nomatch e⟩
 | int i=>obtain ⟨t,rfl⟩:=r;cases (show T = "int" from ty);exact ⟨typeIs_int s i t,λ _ e=>nomatch e⟩
 | ref p=>
  cases r;rcases ty with ⟨rfl,m,k⟩|⟨rfl,o,b,hc,f⟩|⟨rfl,b⟩|⟨rfl,S,n,b⟩
  ·obtain ⟨l,_,h,_⟩:=I.list k;refine ⟨h.isList.typeIs,λ a e=>?_⟩;cases e;obtain ⟨o,n,e,c,f,_⟩:=h;exact ⟨o,e,f⟩
  ·refine ⟨⟨o,I.kIn p o b,hc⟩,λ a e=>?_⟩;cases e;exact ⟨o,I.kIn _ o b,f⟩
  ·have z :∃o,s.heap.get? p=some o/\o.ExactDict:=by
    rcases b with ⟨j,b⟩|⟨j,b⟩
    ·obtain ⟨_,_,_,_,o,_,_,e,d,_⟩:=I.hok p _ b;exact ⟨o,e,d⟩
    ·obtain ⟨_,_,_,_,o,_,_,e,d,_⟩:=I.hok p _ b;exact ⟨o,e,d⟩
   obtain ⟨o,e,d⟩:=z;refine ⟨⟨o,e,d.1⟩,λ a g=>?_⟩;cases g;exact ⟨o,e,d.2.1⟩
  ·obtain ⟨o,_,_,_,e,d,_⟩:=I.hok p _ b;refine ⟨⟨o,e,d.1⟩,λ a g=>?_⟩;cases g;exact ⟨o,e,d.2.1⟩
 | _=>exact O3 ty
def vA (K:c0) (T:String) (r:V->List V->Hp->VK->Prop) (to:TE):TE:=λ σ H Q=>to σ H λ x H1=>wK K T x H1/\r x [] H1 Q
def tD (K:c0) (T:String) (r:V->List V->Hp->VK->Prop) (to:TE) (t:TA):TE:=λ σ H Q=>to σ H λ x H1=>wK K T x H1/\t σ H1 λ xs H2=>r x xs H2 Q
variable {o:ZM} {es:List ZM} {to:TE} {t:TA} {name:ZQ} {apos cpos:ZO} {id:String} {r:V->List V->Hp->VK->Prop}
def pC (pa:PlainAttrs T) (slot:Slot T name id) (hty:typeOf (.builtin id)=Y1 (.type "method_descriptor")) (hm:GP X id r) (ho:PE X o to)
  (hbase:M4 o name X.env (U3 o X.env)=U3 o X.env:=by rfl) (hline:(apos.endLine == cpos.line)=true:=by rfl):PE X (.Call (.Attribute o name apos) [] [] cpos) (vA X.K T r to):=by
 intro a s σ H Q I h;refine wpAny_Call_method0_late hbase hline (ba (ho a s σ H _ I h) λ v d zz=>?_);obtain ⟨x,H1,I1,r1,ty,q1⟩:=zz;obtain ⟨b,c⟩:=lY I1 r1 ty;exact ⟨T,id,pa,slot,hty,b,c,P6 rfl (PySem.evalArgs_none (hm a d σ H1 x [] v [] Q I1 r1 .nil q1))⟩
def mU (pa:PlainAttrs T) (slot:Slot T name id) (hty:typeOf (.builtin id)=Y1 (.type "method_descriptor")) (hm:GP X id r) (ho:PE X o to) (ha:PA X (e :: es) t)
  (hbase:M4 o name X.env (U3 o X.env)=U3 o X.env:=by rfl)
  (hfew:((J4 cpos (S1 (e :: es) X.env)).all (λ x=>!x.1) && (j1h cpos (U7 [] X.env)).all (λ x=>x.1.isSome)
   && decide ((e :: es).length + ([]:List m7).length + (if ([]:List m7).isEmpty then 0 else 1) < 30))=true:=by rfl)
  (hline:(apos.endLine == cpos.line)=true:=by rfl) (hs:S1 (e :: es) X.env=(false,U3 e X.env) :: S1 es X.env:=by rfl) (hplain:(J4 cpos (S1 es X.env)).any (·.1)=false:=by rfl) :
  PE X (.Call (.Attribute o name apos) (e :: es) [] cpos) (tD X.K T r to t):=by
 intro a s σ H Q I h;refine wpAny_Call_method_late hbase hfew hline rfl (ba (ho a s σ H _ I h) λ v c zz=>?_);obtain ⟨x,H1,I1,r1,ty,q1⟩:=zz;obtain ⟨f,g⟩:=lY I1 r1 ty;refine ⟨T,id,pa,slot,hty,f,g,?_⟩;have b:=ha cpos a c σ H1 _ I1 q1;rw [hs] at b⊢;refine P6 (by show (false || (J4 cpos (S1 es X.env)).any (·.1))=false;rw [hplain]<;>rfl) (j04 ?_);exact ba b λ i d ⟨vs,H2,I2,r2,q2⟩=>hm a d σ H2 x vs v i Q I2 r1 r2 q2
end
def wR (X:Cx) (id:String) (r:V->List V->Hp->VK->Prop):Prop:=
 ∀(pins:List (ZR×ZP)) (s:A0) (σ:St) (H:Hp) (x:V) (xs:List V) (v:ZF) (us:List ZF) (Q:VK),Inv X pins σ H s->RelV x v->aI xs us->r x xs H Q->
  W0 (B1 X.prog X.w) X.A (call (.builtin id) (v :: us)) (EP X pins σ Q) X.xe s
theorem aI.one:∀{x:V} {us:List ZF},aI [x] us->∃u,us=[u]/\RelV x u
 | _,_,.cons r .nil=>⟨_,rfl,r⟩
theorem aI.zero:∀{us:List ZF},aI [] us->us=[]
 | _,.nil=>rfl
def aI.dropLast {xs:List V} {us:List ZF} (h:aI xs us):aI xs.dropLast us.dropLast:=by
 induction h with
 | nil=>exact .nil
 | cons r t ih=>
  cases t with
  | nil=>exact .nil
  | cons q t'=>exact .cons r ih
theorem QG {α:Type} (l:List α):l.eraseIdx (l.length - 1)=l.dropLast:=by
 induction l with
 | nil=>rfl
 | cons a r ih=>
  cases r with
  | nil=>rfl
  | cons b r=>
   have e:(a :: b :: r).length - 1=((b :: r).length - 1) + 1:=by
    have c:(a :: b :: r).length=r.length + 2:=rfl;have d:(b :: r).length=r.length + 1:=rfl
    lia
   rw [e,List.eraseIdx_cons_succ,ih]
   all_goals rfl
variable {t':Nat}
section
variable {l b:ZR} {xs ys zs:List V}
def Inv.lset {its':List ZF} {f:Array ZF->Array ZF} (I:Inv X pins σ H s) (hH:H l=some (.lst xs))
  (e:s.heap.get? l=some { cls:=.type "list",data:=.seq its.toArray n }) (hf:f its.toArray=its'.toArray) (hv:aI ys its') (hz:ys.length<=ZE) :
  Inv X pins σ (upd H l (.lst ys)) { s with heap:=s.heap.update l (C2 f),toks:=t' }:=by
 have q:=PySem.IsL.update e f;rw [hf] at q;refine I.write (x:=l) (e:=l) (by rw [hH];exact trivial) (.inl rfl) (λ c u b a=>(B9 s.heap (C2 f) (F4 b)).trans a) ⟨_,q⟩ ?_;exact ⟨hz,its',_,hv,q⟩
def Inv.lnew (I:Inv X pins σ H s) (hv:aI ys its) (hz:ys.length<=ZE) :
  Inv X pins σ (upd H s.heap.objs.size (.lst ys)) { s with heap:=s.heap.push { cls:=.type "list",data:=.seq its.toArray },toks:=t' }:=
 I.laid (λ _ _ q=>B0 _ q) (o0 _) ⟨hz,its,0,hv,j1 _ rfl⟩
def Inv.fresh (I:Inv X pins σ H s):H s.heap.objs.size=none:=I.hok.fresh (o0 _)
def Inv.lstM (I:Inv X pins σ H s) (hH:H l=some (.lst xs)):xs.length<=ZE/\∃(its:List ZF) (n:Nat),aI xs its/\xs.length=its.length/\s.heap.get? l=some { cls:=.type "list",data:=.seq its.toArray n }:=by obtain ⟨z,its,n,r,e⟩:=I.hok l _ hH;exact ⟨z,its,n,r,r.length,e⟩
theorem NW (h:n<=ZE):L7 n=false:=by unfold L7;exact ZX '%'
end
section
def EY:V->List V->Hp->VK->Prop:=λ x vs H Q=>∃l xs y,x=.ref l/\vs=[y]/\H l=some (.lst xs)/\xs.length < ZE/\Q .non (upd H l (.lst (xs++[y])))
theorem Lj:wR X "list.append" EY:=by
 intro i s σ H x o v k Q I d f h;obtain ⟨l,m,y,rfl,rfl,b,j,q⟩:=h;cases d;obtain ⟨u,rfl,c⟩:=f.one;obtain ⟨z,a,n,r,g,e⟩:=I.lstM b;refine j5f F.slot_list_append ⟨_,e,rfl⟩ F.entry_list_append (F.args_list_append_2 _ _) (PySem.list_append l a.toArray n u (by rw [M0];lia)) ⟨e,?_⟩;refine ⟨.non,_,I.lset (its':=a++[u]) b e (by simp) (r.append (.cons c .nil)) ?_,rfl,q⟩;rw [L0,List.length_singleton]
 lia
def CQ:V->List V->Hp->VK->Prop:=λ x vs H Q=>∃l b xs zs,x=.ref l/\vs=[.ref b]/\H l=some (.lst xs)/\H b=some (.lst zs)/\xs.length + zs.length<=ZE/\Q .non (upd H l (.lst (xs++zs)))
theorem Jy:wR X "list.extend" CQ:=by
 intro y s σ H x G v C Q I o t h;obtain ⟨l,b,D,B,rfl,rfl,d,f,A,q⟩:=h;cases o;obtain ⟨u,rfl,k⟩:=t.one;cases k;obtain ⟨z,a,n,r,w,e⟩:=I.lstM d;obtain ⟨E,c,g,i,J,j⟩:=I.lstM f;have p:a.toArray.size + c.toArray.size<=ZE:=by rw [M0,M0];lia
 have m:¬ (not a.toArray.isEmpty && L7 (a.toArray.size + c.toArray.size))=true:=by rw [NW p,j06];exact N0
 refine j5f F.slot_list_extend ⟨_,e,rfl⟩ F.entry_list_extend (F.args_list_extend_2 _ _)
  (AutoSeq1.list_extend_list_list_0 l a.toArray n b c.toArray g m (by rw [M0];lia) '%') ⟨e,j,?_⟩
 refine ⟨.non,_,I.lset (its':=a++c) d e (by simp) (r.append i) ?_,rfl,q⟩;rw [L0]
 lia
def uF:V->List V->Hp->VK->Prop:=λ x vs H Q=>∃l xs y,x=.ref l/\vs=[]/\H l=some (.lst xs)/\xs[xs.length - 1]? = some y/\Q y (upd H l (.lst xs.dropLast))
theorem ri:wR X "list.pop" uF:=by
 intro o s σ H x w v p Q I i k h;obtain ⟨l,t,y,rfl,rfl,b,m,q⟩:=h;cases i;have j:=k.zero;subst j;obtain ⟨z,a,n,r,c,e⟩:=I.lstM b;obtain ⟨u,d,f⟩:=r.get m;have g:a.toArray[a.toArray.size - 1]? = some u:=by show a.toArray[a.length - 1]? = some u;rw [<-V2,<-c];exact d
 refine j5f F.slot_list_pop ⟨_,e,rfl⟩ F.entry_list_pop (F.args_list_pop_1 _) (MeetsSeq.list_pop_last l a.toArray n u g (by rw [M0];lia)) ⟨e,?_⟩;refine ⟨y,_,I.lset (its':=a.dropLast) b e ?_ r.dropLast ?_,f,q⟩
 ·show a.toArray.eraseIdxIfInBounds (a.toArray.size - 1)=a.dropLast.toArray;rw [M0,List.eraseIdxIfInBounds_toArray,QG]
 ·rw [j66]
  lia
def ug:R2:=λ x y H Q=>∃l b xs zs,x=.ref l/\y=.ref b/\H l=some (.lst xs)/\H b=some (.lst zs)/\xs.length + zs.length<=ZE/\∀p,H p=none->Q (.ref p) (upd H p (.lst (xs++zs)))
theorem rT:ei X (G5 .Add) ug:=by
 intro t s σ H x y v u Q I j g h;obtain ⟨l,b,B,A,rfl,rfl,m,d,w,q⟩:=h;cases j;cases g;obtain ⟨z,c,n,r,o,e⟩:=I.lstM m;obtain ⟨C,a,p,f,D,i⟩:=I.lstM d;refine PySem.P.add_list e i ?_ (by rw [M0,M0];lia);have k:c.toArray++a.toArray=(c++a).toArray:=by simp
 rw [k];exact ⟨.ref _,_,I.lnew (t':=s.toks) (r.append f) (by rw [L0];lia),rfl,q _ I.fresh⟩
end
variable {E:ZF->A0->Prop} {w:X0}
section
variable {prog:ZI} 
set_option maxRecDepth 100000 in
end
variable {o:Option V}
section
variable {κ:Type} [DecidableEq κ]
noncomputable def bM (kvs:List (κ×V)) (k:κ):Option V:=(kvs.find? λ kv=>decide (kv.1=k)).map (·.2)
noncomputable def putK (kvs:List (κ×V)) (k:κ) (v:V):List (κ×V):=
 if (kvs.any λ kv=>decide (kv.1=k))=true then kvs.map (λ kv=>if kv.1=k then (kv.1,v) else kv) else kvs++[(k,v)]
noncomputable def cF (kvs:List (κ×V)) (k:κ):List (κ×V):=kvs.filter λ kv=>decide (kv.1≠k)
def jb {p:κ×V} {r:List (κ×V)} {k:κ} (e:p.1=k):bM (p :: r) k=some p.2:=by simp [bM,P4,e]
def iS {p:κ×V} {r:List (κ×V)} {k:κ} (e:¬ p.1=k):bM (p :: r) k=bM r k:=by simp [bM,P4,e]
theorem wF (k:κ) :∀kvs:List (κ×V),(kvs.any λ kv=>decide (kv.1=k))=(bM kvs k).isSome
 | []=>rfl
 | p :: r=>by
  rw [N8];by_cases e:p.1=k
  ·simp only [jb e,ZY e,Bool.true_or,Option.isSome_some]
  ·rw [iS e,ZX e,j4d];exact wF k r
theorem ET (k j:κ) (y:V) :∀kvs:List (κ×V),bM (kvs.map λ kv=>if kv.1=k then (kv.1,y) else kv) j=(bM kvs j).map λ x=>if j=k then y else x
 | []=>rfl
 | p :: r=>by
  have a:=ET k j y r;rw [G1];by_cases h:p.1=k
  ·rw [ZZ h];by_cases e:p.1=j
   ·rw [jb (p:=(p.1,y)) e,jb e,m9,ZZ (e.symm.trans h)]
   ·rw [iS (p:=(p.1,y)) e,iS e,a]
  ·rw [Z_ h];by_cases e:p.1=j
   ·rw [jb (p:=p) e,jb e,m9,Z_ (λ z=>h (e.trans z))]
   ·rw [iS (p:=p) e,iS e,a]
theorem Fy (k j:κ) (y:V) :∀kvs:List (κ×V),bM kvs k=none->bM (kvs++[(k,y)]) j=if j=k then some y else bM kvs j
 | [],_=>by
  by_cases e:k=j
  ·rw [ZZ e.symm];exact jb (p:=(k,y)) e
  ·rw [Z_ (λ z=>e z.symm)];exact iS (p:=(k,y)) e
 | p :: r,hn=>by
  rw [List.cons_append];have a:¬ p.1=k:=λ z=>by rw [jb z] at hn;cases hn
  rw [iS a] at hn;have b:=Fy k j y r hn;by_cases e:p.1=j
  ·rw [jb e,jb e,Z_ (λ z=>a (e.trans z))]
  ·rw [iS e,iS e,b]
def qY (kvs:List (κ×V)) (k j:κ) (y:V):bM (putK kvs k y) j=if j=k then some y else bM kvs j:=by
 unfold putK;by_cases a:(kvs.any λ kv=>decide (kv.1=k))=true
 ·rw [ZZ a,ET];rw [wF] at a;by_cases e:j=k
  ·obtain ⟨x,b⟩:=Option.isSome_iff_exists.mp a;rw [ZZ e,e,b,m9,ZZ rfl]
  ·rw [Z_ e];cases bM kvs j with
   | none=>rfl
   | some x=>rw [m9,Z_ e]
 ·rw [Z_ a];refine Fy k j y kvs ?_;rw [wF] at a;cases q:bM kvs k with
  | none=>rfl
  | some x=>rw [q] at a;exact (a rfl).elim
theorem zB (kvs:List (κ×V)) (k:κ) (v:V):(putK kvs k v).length<=kvs.length + 1:=by
 unfold putK;split
 ·rw [D0];lia
 ·rw [L0,U0,Q9];lia
def dn.isSome_eq {u:Option ZF} (r:dn o u):o.isSome=u.isSome:=by
 cases o with
 | none=>cases u with
  | none=>rfl
  | some _=>exact (show False from r).elim
 | some _=>cases u with
  | none=>exact (show False from r).elim
  | some _=>rfl
def dn.getD {u:Option ZF} {d:V} {d':ZF} (r:dn o u) (rd:RelV d d'):RelV (o.getD d) (u.getD d'):=by
 cases o with
 | none=>cases u with
  | none=>exact rd
  | some _=>exact (show False from r).elim
 | some _=>cases u with
  | none=>exact (show False from r).elim
  | some _=>exact r
def KV.val {kvs:List (κ×V)} {vs:List (κ×ZF)} (r:KV kvs vs) (k:κ):dn (bM kvs k) (j1j vs k):=by
 unfold KV at r;induction r with
 | nil=>exact True.intro
 | @cons p q ps qs h t ih=>
  obtain ⟨c,d⟩:=h;by_cases e:p.1=k
  ·have a:q.1=k:=c.symm.trans e;have b:j1j (q :: qs) k=some q.2:=by simp [j1j,P4,a]
   rw [jb e,b];exact d
  ·have a:¬ q.1=k:=λ z=>e (c.trans z);have b:j1j (q :: qs) k=j1j qs k:=by simp [j1j,P4,a]
   rw [iS e,b];exact ih
def KV.any {kvs:List (κ×V)} {vs:List (κ×ZF)} (r:KV kvs vs) (k:κ):(kvs.any λ kv=>decide (kv.1=k))=vs.any λ kv=>decide (kv.1=k):=by
 unfold KV at r;induction r with
 | nil=>rfl
 | cons h t ih=>rw [N8,N8,ih,h.1]
def KV.repl {kvs:List (κ×V)} {vs:List (κ×ZF)} (r:KV kvs vs) (k:κ) (ry:RelV y u) :
  KV (kvs.map λ kv=>if kv.1=k then (kv.1,y) else kv) (vs.map λ kv=>if kv.1=k then (kv.1,u) else kv):=by
 unfold KV at r⊢;induction r with
 | nil=>exact .nil
 | @cons p q ps qs h t ih=>
  rw [G1,G1];refine .cons ?_ ih;obtain ⟨a,b⟩:=h;by_cases e:p.1=k
  ·rw [ZZ e,ZZ (a.symm.trans e)];exact ⟨a,ry⟩
  ·rw [Z_ e,Z_ (λ z=>e (a.trans z))];exact ⟨a,b⟩
def KV.put {kvs:List (κ×V)} {vs:List (κ×ZF)} (r:KV kvs vs) (k:κ) (ry:RelV y u):KV (putK kvs k y) (stored vs k u):=by
 unfold putK stored;rw [r.any k];by_cases e:(vs.any λ kv=>decide (kv.1=k))=true
 ·rw [ZZ e,ZZ e];exact r.repl k ry
 ·rw [Z_ e,Z_ e];exact Paired.snoc r ⟨rfl,ry⟩
def KV.drop {kvs:List (κ×V)} {vs:List (κ×ZF)} (r:KV kvs vs) (k:κ):KV (cF kvs k) (without vs k):=by
 unfold KV at r⊢;unfold cF without;induction r with
 | nil=>exact .nil
 | @cons p q ps qs h t ih=>
  obtain ⟨c,f⟩:=h;rw [z5,z5];by_cases e:p.1=k
  ·have a:¬ decide (p.1≠k)=true:=by simp [e]
   have b:¬ decide (q.1≠k)=true:=by simp [c.symm.trans e]
   rw [Z_ a,Z_ b];exact ih
  ·have d:¬ q.1=k:=λ z=>e (c.trans z);have a:decide (p.1≠k)=true:=by simp [e]
   have b:decide (q.1≠k)=true:=by simp [d]
   rw [ZZ a,ZZ b];exact .cons ⟨c,f⟩ ih
def KV.keys {kvs:List (κ×V)} {vs:List (κ×ZF)} (r:KV kvs vs):kvs.map (·.1)=vs.map (·.1):=by
 unfold KV at r;induction r with
 | nil=>rfl
 | cons h t ih=>rw [G1,G1,ih,h.1]
def KV.length {kvs:List (κ×V)} {vs:List (κ×ZF)} (r:KV kvs vs):kvs.length=vs.length:=j3c r
def FO (kvs:List (κ×V)) (k:κ):(cF kvs k).length<=kvs.length:=K3 _ _
end
variable {P:ZI}
def gU {k:Key} (r:RelV (kV k) u):(iY P w).is k u=true:=by
 cases k with
 | inl i=>obtain ⟨t,e⟩:=(show∃t,u=Q8 i t from r);subst e;exact Qr P w i t
 | inr x=>obtain ⟨t,e⟩:=(show∃t,u=Z6 x t from r);subst e;exact Kl P w x t
theorem Dz:∀{ks:List Key} {us:List ZF},aI (ks.map kV) us->ItemsAre (iY P w) ks us
 | [],_,r=>by rw [j6] at r;cases r;exact .nil
 | k :: ks,_,r=>by
  rw [G1] at r;cases r with
  | cons h t=>exact .cons (gU h) (Dz t)
abbrev KT (H:Hp):List (List Key×V)->List (List Key×ZR×ZF)->Prop:=j0c λ p q=>p.1=q.1/\H q.2.1=some (.tup (p.1.map kV))/\RelV p.2 q.2.2
variable {kvs:List (List Key×V)} {xs:List (List Key×ZR×ZF)}
def KT.val (r:KT H kvs xs) (k:List Key):dn (bM kvs k) ((j00 xs k).map (·.2)):=by
 induction r with
 | nil=>exact True.intro
 | @cons p q ps qs h t ih=>
  obtain ⟨c,_,d⟩:=h;by_cases e:p.1=k
  ·have a:q.1=k:=c.symm.trans e;have b:j00 (q :: qs) k=some q.2:=by simp [j00,P4,a]
   rw [jb e,b];exact d
  ·have a:¬ q.1=k:=λ z=>e (c.trans z);have b:j00 (q :: qs) k=j00 qs k:=by simp [j00,P4,a]
   rw [iS e,b];exact ih
def KT.repl (r:KT H kvs xs) (k:List Key) (ry:RelV y u) :
  KT H (kvs.map λ kv=>if kv.1=k then (kv.1,y) else kv) (xs.map (putAt k u)):=by
 induction r with
 | nil=>exact .nil
 | @cons p q ps qs h t ih=>
  rw [G1,G1];refine .cons ?_ ih;obtain ⟨a,b,c⟩:=h;unfold putAt;by_cases e:p.1=k
  ·rw [ZZ e,ZZ (a.symm.trans e)];exact ⟨a,b,ry⟩
  ·rw [Z_ e,Z_ (λ z=>e (a.trans z))];exact ⟨a,b,c⟩
def KT.put (r:KT H kvs xs) (k:List Key) {b:ZR} (hb:H b=some (.tup (k.map kV))) (ry:RelV y u) :
  KT H (putK kvs k y) (storedH xs k b u):=by
 have e:(kvs.any λ kv=>decide (kv.1=k))=(j00 xs k).isSome:=by rw [wF,(r.val k).isSome_eq,o8]
 unfold putK storedH;rw [e];by_cases q:(j00 xs k).isSome=true
 ·rw [ZZ q,ZZ q];exact r.repl k ry
 ·rw [Z_ q,Z_ q];exact Paired.snoc r ⟨rfl,hb,ry⟩
variable {H':Hp}
def KT.keeps (r:KT H kvs xs) (ht :∀b ys,H b=some (.tup ys)->H' b=some (.tup ys)):KT H' kvs xs:=
 Paired.mapP r λ _ _ z=>⟨z.1,ht _ _ z.2.1,z.2.2⟩
variable {a:ZR}
section
variable {h:ZL} 
def ot {u:HO} (ok:fN P w H h) (e:Rd H a u):bb P w H h a u:=e.ok ok
def ik {kvs:List (Key×V)} (ok:fN P w H h) (e:Rd H a (.dK kvs)):kvs.length<=ZE/\(a == T3)=false/\∃vs,KV kvs vs/\h.DictOf (iY P w) a vs:=
 show bb P w H h a (.dK kvs) from ot ok e
def kb {kvs:List (Key×V)} (ok:fN P w H h) (e:H a=some (.dK kvs)):kvs.length<=ZE/\(a == T3)=false/\∃vs,KV kvs vs/\h.DictOf (iY P w) a vs:=ik ok (.inl e)
def gZ {ks:List Key} (ok:fN P w H h) (e:H a=some (.tup (ks.map kV))):(X6 (iY P w)).is h ks a:=by
 obtain ⟨_,f,r,⟨o,c,d,n,b⟩,_⟩:=(show bb P w H h a (.tup (ks.map kV)) from ok a _ e)
 exact ⟨o,f.toArray,n,c,d,b,by simpa using Dz r⟩
def ic (ok:fN P w H h) (e:Rd H a (.dT kvs)):kvs.length<=ZE/\(a == T3)=false/\
  ∃xs,KT H kvs xs/\h.DictOfH (X6 (iY P w)) a xs:=by
 obtain ⟨z,y,xs,r,o,f,j,g,k,c,d,i⟩:=(show bb P w H h a (.dT kvs) from ot ok e)
 refine ⟨z,y,xs,r,o,f,j,g,k,c,d,λ x b=>?_,i⟩;have all :∀{l:List (List Key×V)} {m:List (List Key×ZR×ZF)},KT H l m->∀x∈m,(X6 (iY P w)).is h x.1 x.2.1:=by
  intro l m q;induction q with
  | nil=>intro x b;exact nomatch b
  | @cons p q ps qs hq t ih=>
   intro x b;rcases List.mem_cons.mp b with e|b
   ·subst e;exact gZ ok (by rw [<-hq.1];exact hq.2.1)
   ·exact ih x b
 exact all r x b
def tV (ok:fN P w H h) (e:H a=some (.dT kvs)):kvs.length<=ZE/\(a == T3)=false/\
  ∃xs,KT H kvs xs/\h.DictOfH (X6 (iY P w)) a xs:=ic ok (.inl e)
end
def d_ (H:Hp) (a:ZR) (y:V) (r:Option V):Prop:=
 (∃kvs k,Rd H a (.dK kvs)/\y=kV k/\r=bM kvs k)\/∃kvs k b,Rd H a (.dT kvs)/\y=.ref b/\H b=some (.tup (k.map kV))/\r=bM kvs k
def hJ (H:Hp) (a:ZR) (y v:V) (H':Hp):Prop:=
 (∃kvs k,H a=some (.dK kvs)/\y=kV k/\kvs.length < ZE/\H'=upd H a (.dK (putK kvs k v)))\/
 ∃kvs k b,H a=some (.dT kvs)/\y=.ref b/\H b=some (.tup (k.map kV))/\kvs.length < ZE/\H'=upd H a (.dT (putK kvs k v))
def d_.k {kvs:List (Key×V)} {k:Key} (e:H a=some (.dK kvs)):d_ H a (kV k) (bM kvs k):=.inl ⟨kvs,k,.inl e,rfl,rfl⟩
def hJ.k {kvs:List (Key×V)} {k:Key} {v:V} (e:H a=some (.dK kvs)) (hl:kvs.length < ZE):hJ H a (kV k) v (upd H a (.dK (putK kvs k v))):=.inl ⟨kvs,k,e,rfl,hl,rfl⟩
variable {Q:ZF->A0->Prop}
section
variable {v:V} {r:ZF} 
def Inv.big (I:Inv X pins σ H s):T3 < s.heap.objs.size:=by have h:N3 < s.heap.objs.size:=(I.mod.glob.keeps I.bk).lt;exact Nat.lt_trans '!' h
def PY (hu:A.units + 1 < ZD) (I:Inv X pins σ H s) (g:d_ H a y (some v)) (ry:RelV y u) (h :∀w' s',Inv X pins σ H s'->RelV v w'->Q w' s') :
  W0 (B1 X.prog X.w) A (j20 (.ref a) u) Q E s:=by
 rcases g with ⟨n,k,e,c,l⟩|⟨n,k,b,e,c,eb,l⟩
 ·subst c;obtain ⟨z,m,r,j,d⟩:=ik I.hok e;obtain ⟨w',i,f⟩:=dn.some_of (v:=v) (o:=j1j r k) (by rw [l];exact j.val k);exact wpAny_getItem_of (gU ry) d.mapOf i (h w' _ (I.tok _) f)
 ·subst c;cases (show u=P0 b from ry);obtain ⟨z,m,t,j,d⟩:=ic I.hok e;obtain ⟨w',i,f⟩:=dn.some_of (v:=v) (o:=(j00 t k).map (·.2)) (by rw [l];exact j.val k);obtain ⟨p,x,q⟩:=Option.map_eq_some_iff.mp i;refine wpAny_getItem_heap (P8 hu) (gZ I.hok eb) d x ?_;rw [q];exact h w' _ (I.tok _) f
def yQ (hu:A.units + 1 < ZD) (I:Inv X pins σ H s) (g:d_ H a y o) (ry:RelV y u) (h :∀s',Inv X pins σ H s'->Q (.bool o.isSome) s') :
  W0 (B1 X.prog X.w) A (T2 .In u (.ref a)) Q E s:=by
 rcases g with ⟨j,k,e,d,l⟩|⟨j,k,b,e,d,eb,l⟩
 ·subst d;obtain ⟨z,c,m,i,f⟩:=ik I.hok e;refine wpAny_in_of (gU ry) c f.mapOf ?_;rw [<-(i.val k).isSome_eq,<-l];exact h _ (I.tok _)
 ·subst d;cases (show u=P0 b from ry);obtain ⟨z,c,n,i,f⟩:=ic I.hok e;refine wpAny_in_heap (P8 hu) (gZ I.hok eb) c f ?_;have q:=(i.val k).isSome_eq;rw [o8] at q;rw [<-q,<-l];exact h _ (I.tok _)
def sU {h':ZL} {ob:HO} (I:Inv X pins σ H s) (mu:vY (H a)) (hs:R6 a s.heap h') (he :∃q,h'.get? a=some q) (new:bb X.prog X.w (upd H a ob) h' a ob) :
  Inv X pins σ (upd H a ob) { s with heap:=h',toks:=t' }:=
 I.write (x:=a) (e:=a) mu (.inl rfl) (λ b q c z=>(hs.2 b c).trans z) he new
def jB {h':ZL} {kvs:List (Key×V)} {vs:List (Key×ZF)} (z:kvs.length<=ZE) (hd:(a == T3)=false) (rel:KV kvs vs) (dd:h'.DictOf (iY P w) a vs) :
  bb P w H' h' a (.dK kvs):=⟨z,hd,vs,rel,dd⟩
theorem Kt {Q:Unit->A0->Prop} (hu:A.units + 1 < ZD) (I:Inv X pins σ H s) (g:hJ H a y v H') (ry:RelV y u) (rv:RelV v r) (h :∀s',Inv X pins σ H' s'->Q () s') :
  W0 (B1 X.prog X.w) A (setItem (.ref a) u r) Q E s:=by
 rcases g with ⟨d,k,e,x,l,p⟩|⟨d,k,b,e,x,eb,l,p⟩
 ·subst x p;obtain ⟨z,m,N,f,B⟩:=kb I.hok e;have o:N.length<=ZE:=by rw [<-f.length];exact z
  have n:(putK d k v).length<=ZE:=by have:=zB d k v;lia
  refine wpAny_setItem_pairs (hsz:=o) (gU ry) B λ D j t=>h _ ?_;have P :∃q,D.get? a=some q:=let ⟨q,_,_,i,_⟩:=j;⟨q,i⟩;exact sU I (by rw [e];exact True.intro) t P (jB n m (f.put k rv) j)
 ·subst x p;cases (show u=P0 b from ry);obtain ⟨z,m,M,f,B⟩:=tV I.hok e;have o:M.length<=ZE:=by rw [<-j3c f];exact z
  have n:(putK d k v).length<=ZE:=by have:=zB d k v;lia
  refine wpAny_setItem_heap (hsz:=o) (P8 hu) (gZ I.hok eb) B λ D j t=>h _ ?_;obtain ⟨q,J,F,i,L,O,G,_,K⟩:=j;refine sU I (by rw [e];exact True.intro) t ⟨q,i⟩ ⟨n,m,_,(f.put k eb rv).keeps λ c R C=>?_,q,J,F,i,L,O,G,K⟩;rw [ak (ip C e (λ z=>nomatch z))];exact C
end
section
variable {kvs:List (Key×V)} {k:Key} 
def uz {v:V} {more:List ZF} (I:Inv X pins σ H s) (e:H a=some (.dK kvs)) (ry:RelV (kV k) u) (l:bM kvs k=some v) (hm:more=[]\/∃x,more=[x])
  (h :∀w' s',Inv X pins σ (upd H a (.dK (cF kvs k))) s'->RelV v w'->Q w' s'):W0 (B1 X.prog X.w) A (call (.builtin "dict.pop") (.ref a :: u :: more)) Q E s:=by
 obtain ⟨z,g,d,b,c⟩:=kb I.hok e;obtain ⟨w',r,n⟩:=dn.some_of (v:=v) (o:=j1j d k) (by rw [<-l];exact b.val k);have B:(keyPart u).isSome=true:=by
  cases k with
  | inl i=>obtain ⟨t,q⟩:=(show∃t,u=Q8 i t from ry);subst q;rfl
  | inr x=>obtain ⟨t,q⟩:=(show∃t,u=Z6 x t from ry);subst q;rfl
 have y:argsOk "dict.pop" ⟨.ref a :: u :: more,[]⟩:=by
  rcases hm with q|⟨x,q⟩
  ·subst q;exact PySem.F.args_dict_pop_2 _ _
  ·subst q;exact PySem.F.args_dict_pop_3 _ _ _
 refine call_meetsIn j49 c.typeIs PySem.F.entry_dict_pop y (meets_dict_pop_there (iY X.prog X.w) a (gU ry) more hm B)
  ⟨d,w',c,by rw [<-b.length];exact z,r,λ m f j=>h w' _ ?_ n⟩
 have p :∃q,m.get? a=some q:=let ⟨q,_,_,hq,_⟩:=f;⟨q,hq⟩;exact sU I (by rw [e];exact True.intro) j p (jB (C0 (FO kvs k) z) g (b.drop k) f)
end
def sX (i:ZM):Prop:=∀ov iv,j42 i false ov iv=operate [ov,iv] (j20 ov iv)
def Mv {prog:ZI} {env:Env} {value slice:ZM} {id:String} 
  (hl:typeLookup (.type T) "__getitem__" = Y1 (some (.builtin id))) (hs:sX slice)
  (h:W0 (B1 prog w) A (U3 value env) (λ o s₁=>W0 (B1 prog w) A (U3 slice env) (λ i s₂=>s₂.TypeIs o T/\W0 (B1 prog w) A (j20 o i) Q E s₂) E s₁) E s) :
  W0 (B1 prog w) A (U3 (.Subscript value slice pos) env) Q E s:=by
 refine j5j (L3 h (λ o s₁ f=>L3 f (λ i s₂ b=>?_) λ _ _ x=>x) λ _ _ x=>x);obtain ⟨d,b⟩:=b;unfold j2b;refine j0 ?_;rw [getitemInPython_of_ne d.not_modules];refine j0 (j4f d hl ?_);have a:W0 (B1 prog w) A (j42 slice false o i) (λ r c=>W0 (B1 prog w) A (letTemporaryGo value o r >>= λ _=>Y1 r) Q E c) E s₂:=by rw [hs o i];exact wpAny_operating (L3 b (λ r c e=>j0 (wpAny_letTemporaryGo (G0 e))) λ _ _ x=>x)
 first
  | exact G0 (j0 a)
  | exact j0 (G0 (j0 a))
  | exact j0 a
def IR (I:Inv X pins σ H s) (g:d_ H a y o):s.TypeIs (.ref a) "dict":=by
 rcases g with ⟨d,k,e,_,_⟩|⟨d,k,b,e,_,_,_⟩
 ·obtain ⟨_,_,f,_,c⟩:=ik I.hok e;exact c.typeIs
 ·obtain ⟨_,_,h,_,c⟩:=ic I.hok e;exact c.typeIs
def vC (td ty:TE):TE:=λ σ H Q=>td σ H λ x H1=>ty σ H1 λ y H2=>∃a v,x=.ref a/\d_ H2 a y (some v)/\Q v H2
def zG (ty td:TE):TE:=λ σ H Q=>ty σ H λ y H1=>td σ H1 λ x H2=>∃a o,x=.ref a/\d_ H2 a y o/\Q (.bl o.isSome) H2
def oM (td ty tv:TE):TS:=λ D σ H=>tv σ H λ v H1=>td σ H1 λ x H2=>ty σ H2 λ y H3=>∃a H4,x=.ref a/\hJ H3 a y v H4/\D.nx σ H4
section
variable {o i value:ZM} {pos' tpos:ZO} {td ty tv:TE}
def oX (hu:X.A.units + 1 < ZD) (ho:PE X o td) (hi:PE X i ty) (hs:sX i):PE X (.Subscript o i pos) (vC td ty):=by intro b s σ H Q I h;refine Mv PySem.F.slot_dict_getitem.lookup hs (ba (ho b s σ H _ I h) λ u c ⟨x,H1,I1,rx,q1⟩=>ba (hi b c σ H1 _ I1 q1) λ l k zz=>?_);obtain ⟨y,H2,I2,ry,a,v,ex,g,q2⟩:=zz;subst ex;obtain rfl:u=P0 a:=rx;exact ⟨IR I2 g,PY hu I2 g ry λ f j d e=>⟨v,H2,d,e,q2⟩⟩
def qo (hu:X.A.units + 1 < ZD) (hi:PE X i ty) (ho:PE X o td):PC X .In i o (zG ty td):=by intro b s σ H Q I h;refine ba (hi b s σ H _ I h) λ j c ⟨y,H1,I1,ry,q1⟩=>ba (ho b c σ H1 _ I1 q1) λ u f zz=>?_;obtain ⟨x,H2,I2,rx,a,ov,ex,g,q2⟩:=zz;subst ex;obtain rfl:u=P0 a:=rx;exact yQ hu I2 g ry λ e d=>⟨.bl ov.isSome,H2,d,rfl,q2⟩
def xM (hu:X.A.units + 1 < ZD) (ho:PE X o td) (hi:PE X i ty) (hv:PE X value tv) (hs:M7 value (some (.Subscript o i pos')) pos.line X.env=Y1 false) :
  PS X (.Assign [.Subscript o i pos'] value pos) (oM td ty tv):=by
 intro b s σ H D I h;refine wpAny_Assign_Subscript (ba (hv b s σ H _ I h) λ r d ⟨v,H1,I1,rv,q1⟩=>ba (ho b d σ H1 _ I1 q1) λ u e ⟨x,H2,I2,rx,q2⟩=>ba (hi b e σ H2 _ I2 q2) λ j f zz=>?_) hs;obtain ⟨y,H3,I3,ry,a,H4,ex,g,q3⟩:=zz;subst ex;obtain rfl:u=P0 a:=rx;exact Kt hu I3 g ry rv λ k c=>⟨σ,H4,c,q3⟩
end
def Gs (h:ZL) (hb:T3 < h.objs.size):bb P w H (h.push { cls:=.type "dict",data:=.dict #[] }) h.objs.size (.dK []):=
 ⟨J1 _,beq_eq_false_iff_ne.mpr (F4 (P1 hb)),[],.nil,Heap.DictOf.new h⟩
def qg:TE:=λ _ H Q=>∀p,H p=none->Q (.ref p) (upd H p (.dK []))
section
def xI:PE X (.Dict [] [] pos) qg:=λ b s σ H Q I h=>wpAny_Dict_empty ⟨.ref s.heap.objs.size,_,I.laid (a:=s.heap.objs.size) (o:=.dK []) (t':=s.toks) (λ _ _ q=>B0 _ q) (o0 _) (Gs s.heap I.big),rfl,h _ (I.hok.fresh (o0 _))⟩
end
noncomputable def jI:List (TE×TE)->St->Hp->(List (V×V)->Hp->Prop)->Prop
 | [],_,H,Q=>Q [] H
 | (tk,tv) :: r,σ,H,Q=>tk σ H λ x H1=>tv σ H1 λ y H2=>jI r σ H2 λ ps H3=>Q ((x,y) :: ps) H3
abbrev VV:List (V×V)->List (ZF×ZF)->Prop:=j0c λ p q=>RelV p.1 q.1/\RelV p.2 q.2
def vT (X:Cx) (pos:ZO) (keys:List (Option ZM)) (values:List ZM) (trs:List (TE×TE)):Prop:=
 ∀(pins:List (ZR×ZP)) (s:A0) (σ:St) (H:Hp) (Q:List (V×V)->Hp->Prop),Inv X pins σ H s->jI trs σ H Q->
  W0 (B1 X.prog X.w) X.A (evalPairs (pairTrees keys values X.env pos)) (λ vs s'=>∃ps H',Inv X pins σ H' s'/\VV ps vs/\Q ps H') X.xe s
def Fp:vT X pos [] [] []:=λ a s σ H Q I h=>pairTrees_nil_walk ⟨[],H,I,.nil,h⟩
def Bs {k v:ZM} {ks:List (Option ZM)} {vs:List ZM} {tk tv:TE} {trs:List (TE×TE)} (hk:PE X k tk) (hv:PE X v tv) (hr:vT X pos ks vs trs) :
  vT X pos (some k :: ks) (v :: vs) ((tk,tv) :: trs):=λ a s σ H Q I h=>
 pairTrees_cons_walk (ba (hk a s σ H _ I h) λ u b ⟨x,H1,I1,rx,q1⟩=>ba (hv a b σ H1 _ I1 q1) λ d c ⟨y,H2,I2,ry,q2⟩=>ba (hr a c σ H2 _ I2 q2) λ e f ⟨ps,H3,I3,rel,q3⟩=>⟨(x,y) :: ps,H3,I3,.cons ⟨rx,ry⟩ rel,q3⟩)
noncomputable def f_ (kvs more:List (Key×V)):List (Key×V):=more.foldl (λ acc kv=>putK acc kv.1 kv.2) kvs
def KV.merge:∀{more:List (Key×V)} {rs:List (Key×ZF)} {kvs:List (Key×V)} {vs:List (Key×ZF)},KV more rs->KV kvs vs->KV (f_ kvs more) (merged vs rs):=by
 intro more rs kvs vs r;unfold KV at r;induction r generalizing kvs vs with
 | nil=>intro q;exact q
 | @cons p q ps qs h t ih=>
  intro a;have e:KV (putK kvs p.1 p.2) (stored vs q.1 q.2):=by have:=a.put p.1 h.2;rw [<-h.1];exact this
  exact ih e
theorem Iz:∀(more kvs:List (Key×V)),(f_ kvs more).length<=kvs.length + more.length
 | [],kvs=>by show kvs.length<=kvs.length + 0;lia
 | p :: r,kvs=>by have a:=Iz r (putK kvs p.1 p.2);have b:=zB kvs p.1 p.2;show (f_ (putK kvs p.1 p.2) r).length<=_;rw [U0];lia
theorem DL {P:ZI} {w:X0} :∀{kvs:List (Key×V)} {ws:List (ZF×ZF)},VV (kvs.map λ kv=>(kV kv.1,kv.2)) ws->∃rs,Carries (iY P w) ws rs/\KV kvs rs
 | [],_,r=>by rw [j6] at r;cases r;exact ⟨[],True.intro,.nil⟩
 | p :: kvs,_,r=>by
  rw [G1] at r;cases r with
  | @cons a b as bs h t=>obtain ⟨rs,c,q⟩:=DL (P:=P) (w:=w) t;obtain ⟨e,d⟩:=b;exact ⟨(p.1,d) :: rs,⟨gU h.1,rfl,c⟩,.cons ⟨rfl,h.2⟩ q⟩
def oA (trs:List (TE×TE)):TE:=λ σ H Q=>∀p,H p=none->jI trs σ (upd H p (.dK [])) λ ps H2=>H2 p=some (.dK [])/\∃kvs:List (Key×V),ps=kvs.map (λ kv=>(kV kv.1,kv.2))/\kvs.length<=15/\Q (.ref p) (upd H2 p (.dK (f_ [] kvs)))
theorem GK {keys:List (Option ZM)} {values:List ZM} {trs:List (TE×TE)} (h:vT X pos keys values trs) (hall:keys.all (·.isSome)=true) (hl:keys.length=values.length) (h0:keys≠[])
  (h15:keys.length<=15):PE X (.Dict keys values pos) (oA trs):=by
 intro g s σ H Q I q;have m:=I.hok.fresh (o0 s.heap.objs.size);have r:=I.laid (a:=s.heap.objs.size) (o:=.dK []) (h':=s.heap.push { cls:=.type "dict",data:=.dict #[] }) (t':=s.toks) (λ _ _ q=>B0 _ q) (o0 _) (Gs s.heap I.big);refine wpAny_Dict_walk (knd:=iY X.prog X.w) hall hl h0 h15 (ba (h g _ σ _ _ r (q _ m)) λ v x zz=>?_);obtain ⟨ps,H2,I2,rel,e,kvs,ep,lk,q2⟩:=zz;subst ep;obtain ⟨p,c,k⟩:=DL (P:=X.prog) (w:=X.w) rel;obtain ⟨z,d,u,f,n⟩:=kb I2.hok e;cases f;refine ⟨p,c,n,λ h' b l=>⟨.ref s.heap.objs.size,_,?_,rfl,q2⟩⟩;have j:(f_ [] kvs).length<=ZE:=by have i:=Iz kvs [];rw [Q9] at i;rw [sizeLine_eq];lia
 have t :∃q,h'.get? s.heap.objs.size=some q:=let ⟨q,_,_,hq,_⟩:=b;⟨q,hq⟩;exact sU I2 (by rw [e];exact True.intro) l t (jB j d (k.merge .nil) b)
structure M1 (X:Cx) (o:ZM) (m:ZQ) (apos:ZO) (e:ZM) (cpos:ZO):Prop where
 base:M4 o m X.env (U3 o X.env)=U3 o X.env
 few:((J4 cpos (S1 [e] X.env)).all (λ x=>!x.1) && (j1h cpos (U7 [] X.env)).all (λ x=>x.1.isSome)
  && decide (([e]:List ZM).length + ([]:List m7).length + (if ([]:List m7).isEmpty then 0 else 1) < 30))=true
 line:(apos.endLine == cpos.line)=true
 trees:J4 cpos (S1 [e] X.env)=[(false,U3 e X.env)]
structure M2 (X:Cx) (o:ZM) (m:ZQ) (apos:ZO) (e f:ZM) (cpos:ZO):Prop where
 base:M4 o m X.env (U3 o X.env)=U3 o X.env
 few:((J4 cpos (S1 [e,f] X.env)).all (λ x=>!x.1) && (j1h cpos (U7 [] X.env)).all (λ x=>x.1.isSome)
  && decide (([e,f]:List ZM).length + ([]:List m7).length + (if ([]:List m7).isEmpty then 0 else 1) < 30))=true
 line:(apos.endLine == cpos.line)=true
 trees:J4 cpos (S1 [e,f] X.env)=[(false,U3 e X.env),(false,U3 f X.env)]
def zx (H:Hp) (a:ZR):Prop:=(∃kvs,Rd H a (.dK kvs))\/∃kvs,Rd H a (.dT kvs)
def mi (I:Inv X pins σ H s) (d:zx H a) :
  s.TypeIs (.ref a) "dict"/\(∀b,P0 a=.ref b->∃ob,s.heap.get? b=some ob/\ob.dict=none)/\(a == T3)=false:=by
 rcases d with ⟨i,e⟩|⟨i,e⟩
 ·obtain ⟨_,f,j,_,c⟩:=ik I.hok e;refine ⟨c.typeIs,λ b q=>?_,f⟩;cases q;obtain ⟨ob,_,_,g,h,_⟩:=c;exact ⟨ob,g,h.2.1⟩
 ·obtain ⟨_,f,k,_,c⟩:=ic I.hok e;refine ⟨c.typeIs,λ b q=>?_,f⟩;cases q;obtain ⟨ob,_,_,g,h,_⟩:=c;exact ⟨ob,g,h.2.1⟩
section
variable {d:V} {r:ZF} 
def qE (hu:A.units + 1 < ZD) (I:Inv X pins σ H s) (g:d_ H a y o) (ry:RelV y u) (rd:RelV d r) (h :∀w' s',Inv X pins σ H s'->RelV (o.getD d) w'->Q w' s') :
  W0 (B1 X.prog X.w) A (call (.builtin "dict.get") [.ref a,u,r]) Q E s:=by
 rcases g with ⟨m,k,e,i,l⟩|⟨m,k,b,e,i,eb,l⟩
 ·subst i;obtain ⟨z,f,p,j,c⟩:=ik I.hok e;refine call_meetsIn j9 c.typeIs j3j (j3b _ _ _) (meets_dict_get_default (iY X.prog X.w) a (gU ry) f r) ⟨_,c.mapOf,h _ _ (I.tok _) ?_⟩;rw [l];exact (j.val k).getD rd
 ·subst i;cases (show u=P0 b from ry);obtain ⟨z,f,n,j,c⟩:=ic I.hok e;refine call_meetsIn j9 c.typeIs j3j (j3b _ _ _) (meetsH_dict_get_default (X6 (iY X.prog X.w)) a b f r) ⟨P8 hu,k,n,gZ I.hok eb,c,h _ _ (I.tok _) ?_⟩;rw [l];exact (j.val k).getD rd
end
def rq (td ty tx:TE):TE:=λ σ H Q=>td σ H λ x H1=>∃a,x=.ref a/\zx H1 a/\ty σ H1 λ y H2=>tx σ H2 λ z H3=>∃o,d_ H3 a y o/\Q (o.getD z) H3
def qC (td ty:TE):TE:=λ σ H Q=>td σ H λ x H1=>∃a,x=.ref a/\zx H1 a/\ty σ H1 λ y H2=>∃kvs k v,H2 a=some (.dK kvs)/\y=kV k/\bM kvs k=some v/\Q v (upd H2 a (.dK (cF kvs k)))
section
variable {o f:ZM} {apos cpos:ZO} {td ty tx:TE}
def Lz (hu:X.A.units + 1 < ZD) (ho:PE X o td) (he:PE X e ty) (hf:PE X f tx) (m:M2 X o "get" apos e f cpos):PE X (.Call (.Attribute o "get" apos) [e,f] [] cpos) (rq td ty tx):=by
 intro b s σ H Q I h;refine wpAny_Call_method m.base m.few m.line j3a j9 PySem.F.type_dict_get (ba (ho b s σ H _ I h) λ u n zz=>?_);obtain ⟨x,H1,I1,rx,a,ex,d,q1⟩:=zz;subst ex;obtain rfl:u=P0 a:=rx;obtain ⟨k,l,_⟩:=mi I1 d;refine ⟨k,l,?_⟩;rw [m.trees];refine P6 rfl (j04 (E6 (ba (he b n σ H1 _ I1 q1) λ v j ⟨y,H2,I2,ry,q2⟩=>E6 (ba (hf b j σ H2 _ I2 q2) λ p t ⟨z,H3,I3,rz,ov,g,q3⟩=>z8 ?_))));exact qE hu I3 g ry rz λ q r i c=>⟨_,H3,i,c,q3⟩
def RB (ho:PE X o td) (he:PE X e ty) (m:M1 X o "pop" apos e cpos):PE X (.Call (.Attribute o "pop" apos) [e] [] cpos) (qC td ty):=by intro b s σ H Q I h;refine wpAny_Call_method m.base m.few m.line j3a j49 PySem.F.type_dict_pop (ba (ho b s σ H _ I h) λ u c zz=>?_);obtain ⟨x,H1,I1,rx,a,ex,d,q1⟩:=zz;subst ex;obtain rfl:u=P0 a:=rx;obtain ⟨j,f,_⟩:=mi I1 d;refine ⟨j,f,?_⟩;rw [m.trees];refine P6 rfl (j04 (E6 (ba (he b c σ H1 _ I1 q1) λ r q ⟨y,H2,I2,ry,kvs,k,v,ea,ey,l,q2⟩=>z8 ?_)));subst ey;exact uz I2 ea ry l (.inl rfl) λ n p g i=>⟨v,_,g,i,q2⟩
end
end L2
namespace Att
open PySem PySem.W PySem.Calls PyProof.Rows
def Po {P:Q0} {h:ZL} :∀(ns:List Int) (vs:List ZF),WellAll P h vs (ns.map WData.int)->j0e vs ns:=by
 intro ns;induction ns with
 | nil=>intro vs w;rw [j6] at w;cases w;exact .nil
 | cons n ns ih=>
  intro vs w;rw [G1] at w;cases w with
  | cons a b=>cases a;exact .cons _ _ (ih _ b)
theorem Lg {l:OpenLaw} {n:Nat} (hn:l.most=some n) {P:Q0} {h:ZL} {args:List WData} {vals:List ZF}
  (hpre:l.row.toRowW.claim.pre args=true) (hwl:WellAll P h vals args) :
  ∃a vs ns,vals=[P0 a]/\args=[WData.list (ns.map WData.int)]/\h.get? a=some { cls:=.type "list",data:=.seq vs.toArray }/\j0e vs ns/\ns.length<=n:=by
 have k:WShape.hasAll [] args [.list .int]=true:=(pre_splitW hpre).1;have e:l.pre.holds [] { args:=args }=true:=(pre_splitW hpre).2;obtain ⟨d,r,rfl,j,m⟩:=hasAllW_cons k;obtain rfl:=hasAllW_nil m;obtain ⟨o,rfl,g⟩:=hasW_list j;obtain ⟨ns,rfl⟩:=items_int g;have f:ns.length<=n:=by
  unfold OpenLaw.pre at e;have b:(WTm.not (.lt (.lit (.int (n:Int))) (.len (.arg 0)))).holds [] { args:=[.list (ns.map .int)] }=true:=by have b:=(holds_andW e).1;rw [hn] at b;exact b
  have c:=condW_of b (w_not (w_lt w_lit (w_len_list (w_arg rfl))));rw [D0] at c;refine j2g λ q=>?_;have i:(n:Int) < ((ns.length:Nat):Int):=by lia
  first
   | (rw [ZY i] at c;exact ZU c (by decide))
   | (simp at c;lia)
 cases hwl with
 | cons w1 w2=>
  cases w2;cases w1 with
  | list ho hall=>exact ⟨_,_,ns,rfl,rfl,ho,Po ns _ hall,f⟩
def Mw (l:OpenLaw) (args:List WData):l.row.toRowW.claim.post args (.bool true) args=true:=
 postW_of (r:=l.row.toRowW) (X:=(true == true))
  (show WShape.has [] (.bool true) .bool=true by first|rfl|decide|simp [WShape.has,WShape.arms,WShape.armsAll])
  (show (WTm.eq .res (.lit (.bool true))).value [] { args:=args,res:=some (.bool true),after:=args }=some (.bool (true == true)) from w_eq_bool (w_res rfl) w_lit) rfl
def attach_call {l:OpenLaw} {n:Nat} {q:ZI} {loose:List ZQ} {XP:(ZQ->Option ZF)->ZL->Prop} {YP:X0->ZL->Prop} {d:DefRec}
  (hn:l.most=some n) (hdf:d.params.defaults=[])
  (call :∀(w:X0) (s₀ s₁:A0) (mg mb:ZQ->Option ZF) (fa:ZR) (o:ZP) (pm cd doc:ZF) (a:ZR) (vs:List ZF) (ns:List Int),
   Ground q loose [] XP w s₀ mg mb s₁.heap->YP w s₁.heap->
   s₁.heap.get? fa=some o->o.data=.func (docDef d.name d.params d.body d.scope pm cd doc)->s₁.heap.CodeRec cd d.name->mg d.name=some (.ref fa)->
   s₁.heap.get? a=some { cls:=.type "list",data:=.seq vs.toArray }->j0e vs ns->ns.length<=n->s₁.gens = #[]->
   j21 (B1 l.prog w) j37 (.call (.ref fa) ⟨[.ref a],[]⟩) (λ r s'=>r=.ok (.ret (.bool true))/\OldK s₁.heap s'.heap/\s'.os=s₁.os/\E9 s'.gens) s₁) :
  WalkO q loose XP YP l.row.toRowW d [] (λ f vs=>PySem.call f vs):=by
 intro w s₀ s₁ mg mb G Y fa o pm cd doc h kV e c k b z m A D E y C F t B;obtain rfl:h=.none:=Dflts.none b hdf;obtain rfl:kV=.none:=Dflts.noKw b;obtain ⟨a,vs,ns,rfl,rfl,s,g,u⟩:=Lg hn y t;refine enter_call (j0a (call w s₀ s₁ mg mb fa o pm cd doc a vs ns G Y e (fd_plain c) k z s g u m) λ r s' i=>?_);obtain ⟨rfl,p,v,j⟩:=i;exact ⟨.inl ⟨.bool true,.bool true,[],rfl,λ _=>rfl,.bool true,Mw l _,λ _=>⟨j3d,λ _ x=>(nomatch x)⟩⟩,p,v,j⟩
end Att
namespace L2
open PySem PySem.Spec PyProof.Rows
theorem yZ:∀{vs:List ZF} {ns:List Int},j0e vs ns->aI (ns.map V.int) vs
 | _,_,.nil=>.nil
 | _,_,.cons n t h=>.cons ⟨t,rfl⟩ (yZ h)
def qx (H:Hp):Prop:=∀b,H b=none\/∃o xs,H b=some (.frz o (.lst xs))
variable {K:c0} {P:ZI} {a:ZR} {fd:ZH} {mg:ZQ->Option ZF} {ns:List Int} {sp:Sp} {w:X0} {x:ZQ}
def Nz {mb:ZQ->Option ZF} {CX:nK} {k:Nat} {fa:ZR} {s₁:A0} {vs:List ZF} 
  (KX:K.In s₁.heap) (hns:s₁.heap.Ns N3 mg) (hb:s₁.heap.Ns builtinsNs mb) (hbb :∀x:ZQ,x≠"__name__"->mb x=B8 x) (hlim:s₁.heap.NoLimit) (hg:s₁.gens = #[])
  (ha:s₁.heap.get? a=some { cls:=.type "list",data:=.seq vs.toArray }) (hi:j0e vs ns) (hl:ns.length<=ZE) (hr:bL k j37)
  (F :∀base:ZL,K.In base->base.Ns N3 mg->fH P w K mg base CX k fa fd [x] sp) (hbind :∀(s:A0) (u:ZF),BindsTo s fd ⟨[u],[]⟩ [(x,u)])
  (hsp :∀H:Hp,qx H->aH K H a (ns.map V.int)->sp [.ref a] H (λ v _=>v=.bl true) λ _ _ _=>False)
  (hCX :∀H e s',CX [] H s₁ (λ _ _ _=>False) e s'->False) :
  j21 (B1 P w) j37 (.call (.ref fa) ⟨[.ref a],[]⟩) (λ r s'=>r=.ok (.ret (.bool true))/\OldK s₁.heap s'.heap/\s'.os=s₁.os/\E9 s'.gens) s₁:=by
 have y:=yZ hi;have R:=hi.length
 -- from an abstract heap in which nothing but the script may be tracked
 have i :∀H:Hp,qx H->aH K H a (ns.map V.int)->fN P w H s₁.heap->(∀b,H b≠none->b=a)->(H a≠none->K.lookup a=none)->
   j21 (B1 P w) j37 (.call (.ref fa) ⟨[.ref a],[]⟩) (λ r s'=>r=.ok (.ret (.bool true))/\OldK s₁.heap s'.heap/\s'.os=s₁.os/\E9 s'.gens) s₁:=by
  intro H B M l t C;have p :∀{b:ZR} {o:ZP},s₁.heap.get? b=some o->H b=none->(iu s₁.heap H).get? b=some o:=λ e n=>Jh e n;have D :∀{b:ZR} {o:ZP} {es:Array ZG} {ep:Nat},s₁.heap.get? b=some o->o.data=.dict es ep->H b=none:=λ {b o es ep} e d=>by
   cases q:H b with
   | none=>rfl
   | some u=>have g:b=a:=t b (by rw [q];simp);subst g;rw [ha] at e;cases e;have Q:Data.seq vs.toArray _=Data.dict es ep:=d;cases Q
  have f :∀{b:ZR} {m:ZQ->Option ZF},s₁.heap.Ns b m->(iu s₁.heap H).Ns b m:=λ {b m} ⟨o,es,ep,e,d,r⟩=>⟨o,es,ep,p e (D e d),d,r⟩
  have j:K.In (iu s₁.heap H):=λ b o e=>p (KX b o e) (by
   cases q:H b with
   | none=>rfl
   | some u=>have g:b=a:=t b (by rw [q];simp);subst g;rw [C (by rw [q];simp)] at e;cases e)
  have E:Mod K mg (iu s₁.heap H):=⟨j,f hns,⟨mb,f hb,hbb⟩,let ⟨mc,h1,h2⟩:=hlim;⟨mc,f h1,h2⟩⟩
  have L:hA P w K mg (iu s₁.heap H) j37 [] s₁ H:=⟨rfl,E,λ b o e=>KC e,K5 (MN _ _),trivial,λ b hb=>ZU (show b∈([]:List ZR) from hb) (by simp),l,.of_eq hg⟩
  refine j0a ((F _ j (f hns)).run j37 [] s₁ H ⟨[.ref a],[]⟩ [.ref a] [.ref a] _ _ hr L (hbind s₁ (.ref a)) (.cons rfl .nil) (hsp H B M)) λ r s' h=>?_;cases r with
  | error e=>exact (hCX H e s' h).elim
  | ok fl=>
   cases fl with
   | next=>exact O3 h
   | brk=>exact O3 h
   | cont=>exact O3 h
   | ret u=>
    obtain ⟨v,T,os,G,un,S,J,q⟩:=h;have O:v=.bl true:=q;subst O;obtain rfl:u=R4 true:=J;refine ⟨rfl,OldK.of_keep λ b o e=>?_,os,G⟩;cases q:H b with
    | none=>exact un.keep b o e q (by intro z;exact ZU (show b∈([]:List ZR) from z) (by simp)) (by simp)
    | some u=>
     rcases B b with z|⟨ob,xs,z⟩
     ·rw [q] at z;cases z
     ·have N:=un.frzs b ob _ z;obtain ⟨A,_⟩:=l b _ z;obtain ⟨I,_⟩:=S b _ N;rw [e] at A;cases A;exact I
 cases hk:K.lookup a with
 | some o=>
  -- the script is one of the module's own objects
  have e:=KX a o hk;rw [ha] at e;cases e;refine i (λ _=>none) (λ _=>.inl rfl) (.inr ⟨_,vs.toArray,_,hk,rfl,rfl,rfl,by rw [M0,R];exact hl,by simpa using y⟩) (λ b u z=>by have c:(none:Option HO)=some u:=z;cases c) (λ b z=>ZU rfl z) λ z=>ZU rfl z
 | none=>
  refine i (λ b=>if b=a then some (.frz { cls:=.type "list",data:=.seq vs.toArray } (.lst (ns.map V.int))) else none) (λ b=>?_) (.inl (.inr ⟨{ cls:=.type "list",data:=.seq vs.toArray },ZZ rfl⟩)) (λ b u z=>?_) (λ b z=>?_) λ _=>hk
  ·by_cases hb:b=a
   ·exact .inr ⟨_,_,ZZ hb⟩
   ·exact .inl (Z_ hb)
  ·by_cases hb:b=a
   ·have c:=(ZZ hb).symm.trans z;cases c;subst hb;exact ⟨ha,by rw [D0];exact hl,vs,_,y,ha⟩
   ·have c:=(Z_ hb).symm.trans z;cases c
  ·by_cases hb:b=a
   ·exact hb
   ·exact ZU (Z_ hb) z
variable {n:Nat}
def walk_of {l:PySem.W.OpenLaw} {k:Nat} {q:ZI} {loose:List ZQ} {XP:(ZQ->Option ZF)->ZL->Prop} {YP:X0->ZL->Prop} {d:DefRec} {K:Q0->c0} {CX:X0->nK} {sp:X0->Sp} 
  (hn:l.most=some n) (hn2:n<=ZE) (hdf:d.params.defaults=[]) (hr:bL k j37)
  (hY :∀(w:X0) (h:ZL),YP w h->(K w.params).In h)
  (F :∀(w:X0) (mg:ZQ->Option ZF) (fa:ZR) (h:ZL),(K w.params).In h->h.Ns N3 mg->mg d.name=some (.ref fa)->
   ∃fd:ZH,(∀(s:A0) (u:ZF),BindsTo s fd ⟨[u],[]⟩ [(x,u)])/\
    ∀base:ZL,(K w.params).In base->base.Ns N3 mg->fH l.prog w (K w.params) mg base (CX w) k fa fd [x] (sp w))
  (hsp :∀(w:X0) (H:Hp) (a:ZR) (ns:List Int),ns.length<=n->qx H->aH (K w.params) H a (ns.map V.int)->sp w [.ref a] H (λ v _=>v=.bl true) λ _ _ _=>False)
  (hCX :∀(w:X0) (H:Hp) (s:A0) (e:ZF) (s':A0),CX w [] H s (λ _ _ _=>False) e s'->False) :
  PySem.W.WalkO q loose XP YP l.row.toRowW d [] (λ f vs=>PySem.call f vs):=by
 refine Att.attach_call hn hdf λ w I t mg E fa o J M B a vs ns G Y D C L A p j c m=>?_;have KX:=hY w _ Y;obtain ⟨fd,y,i⟩:=F w mg fa _ KX G.T.g A;exact Nz KX G.T.g G.T.b G.T.builtins G.T.nolimit m p j (C0 c hn2) hr i y (λ H z r=>hsp w H a ns c z r) λ H e s'=>hCX w H t e s'
noncomputable def vv (s:ZK):Arguments:=match s with
 | .FunctionDef _ a _ _ _ _ _ _ _ _=>a
 | _=>{ posonlyargs:=[],args:=[],vararg:=none,kwonlyargs:=[],kw_defaults:=[],kwarg:=none,defaults:=[] }
noncomputable def qM (s:ZK):List ZK:=match s with
 | .FunctionDef _ _ b _ _ _ _ _ _ _=>b
 | _=>[]
noncomputable def cg (s:ZK):ZC:=match s with
 | .FunctionDef _ _ _ _ _ _ sc _ _ _=>sc
 | _=>{ kind:=.function,names:=[],isGenerator:=false,isCoroutine:=false }
noncomputable abbrev CX0:nK:=λ _ _ _ _ _ _=>False
noncomputable abbrev E0:XK:=λ _ _ _=>False
variable {X:Cx}
def hU:fU CX0 X E0:=λ _ _ _ _ _ _ _ h=>h.elim
structure cA (K:c0) (x qual:ZQ) (st:ZK) (f:ZR) (fd:ZH):Prop where
 ex :∃(oc:ZF) (od:Option ZR) (kV doc pm:ZF) (an:Option ZR) (cdv ct:ZF) (osl:Array (Option ZF)),
  fd=K6 x qual (vv st) (qM st) (cg st) .none kV doc pm an cdv ct/\K.lookup f=some ⟨oc,od,.func fd,osl⟩/\N9 K cdv qual=true
 kp:V3 K (.ref f)=true
variable {N ps:List ZQ} {f:ZR} {qual:ZQ} {st:ZK}
section
variable {base:ZL}
def cA.ok {k:Nat} (F:cA K x qual st f fd) (S:ay N ps (cg st)) (len :∀vs H Q E,sp vs H Q E->vs.length=ps.length)
  (hbody :∀(cdv:ZF) (A:j2) (outer:List Env) (s:A0) (H:Hp) (vs:List V) (Q:VK) (E:XK),bL k (A.deeper (j09 qual (cg st) s.heap.objs.size f cdv))->sp vs H Q E->
   ∃t,jz (jH CX0 P w K mg base N qual (cg st) f cdv A outer s H E).nox (qM st) t/\t { nx:=λ _ H'=>Q .non H',rt:=Q } (start N vs) H):fH P w K mg base CX0 (k + 1) f fd ps sp:=by
 obtain ⟨n,j,kV,e,l,i,cdv,m,g,rfl,d,b⟩:=F.ex;refine oi d b S len λ A outer s H vs Q E a c=>?_;obtain ⟨t,h,q⟩:=hbody cdv A outer s H vs Q E a c;exact ⟨t,h.nox,q⟩
def cA.binds (F:cA K x qual st f fd)
  (h :∀(kV doc pm:ZF) (an:Option ZR) (cdv ct:ZF) (us:List ZF),us.length=ps.length->bindArgs (K6 x qual (vv st) (qM st) (cg st) .none kV doc pm an cdv ct) ⟨us,[]⟩=Y1 (ps.zip us)):Binds K fd ps []:=by
 obtain ⟨d,e,kV,doc,pm,an,cdv,ct,a,rfl,c,b⟩:=F.ex;exact .all (h kV doc pm an cdv ct)
def rf {oc:ZF} {od an:Option ZR} {osl:Array (Option ZF)} {kV doc pm cdv ct:ZF} (l:K.lookup f=some ⟨oc,od,.func (K6 x qual (vv st) (qM st) (cg st) .none kV doc pm an cdv ct),osl⟩)
  (c:N9 K cdv qual=true) (k:V3 K (.ref f)=true):cA K x qual st f (K6 x qual (vv st) (qM st) (cg st) .none kV doc pm an cdv ct):=⟨⟨oc,od,kV,doc,pm,an,cdv,ct,osl,rfl,l,c⟩,k⟩
end
variable {A:j2}
def cQ {k:Nat} (hr:bL k A):A.units + 1 < ZD:=U1 (Nat.add_le_add_left (by decide:1<=64) _) hr.units
variable {pos:ZO}
section
def pv (i:Nat) (hN:X.N[i]? = some x:=by rfl) (hv:xy X.env.scope x:=by first|exact E1 rfl|exact C1 (E1 rfl)|exact C1 (C1 rfl)) (hd:(x == ("__debug__" : ZQ))=false:=by decide)
  (hcd:(x == ("__classdict__" : ZQ))=false:=by decide):PE X (.Name x pos) (gT i):=lW hN hv hd hcd
end
variable {B:Prop}
def cK {A:Prop} (h:B):if false=true then A else B:=by rw [Z_ N0];exact h
def cN {A:Prop} (h:A):if true=true then A else B:=by rw [ZZ rfl];exact h
def gf {c A:Prop} [Decidable c] (h1:c->A) (h2:¬ c->B):if c then A else B:=by
 by_cases h:c
 ·rw [ZZ h];exact h1 h
 ·rw [Z_ h];exact h2 h
def af (H H':Hp):Prop:=∀b o,H b=some o->H' b=some o
def af.refl (H:Hp):af H H:=λ _ _ h=>h
variable {H H1:Hp}
def af.trans {H2:Hp} (a:af H H1) (b:af H1 H2):af H H2:=λ c o h=>b c o (a c o h)
variable {H':Hp} {l:ZR}
def af.free (e:af H H') (h:H' l=Option.none):H l=Option.none:=by
 cases q:H l with
 | none=>rfl
 | some o=>rw [e l o q] at h;cases h
variable {xs:List V}
def af.seq (e:af H H') (h:aH K H a xs):aH K H' a xs:=by
 rcases h with (h|⟨o,h⟩)|h
 ·exact .inl (.inl (e _ _ h))
 ·exact .inl (.inr ⟨o,e _ _ h⟩)
 ·exact .inr h
section
variable {κ:Type} [DecidableEq κ]
def Gv {p:κ×V} {r:List (κ×V)} {k:κ} (e:p.1=k):cF (p :: r) k=cF r k:=by unfold cF;rw [z5,Z_ (by simp [e])]
def Fu {p:κ×V} {r:List (κ×V)} {k:κ} (e:¬ p.1=k):cF (p :: r) k=p :: cF r k:=by unfold cF;rw [z5,ZZ (by simp [e])]
end
variable {prog:ZI} {s:A0}
section
variable {R:Result->A0->Prop} 
def JR {elt target iter:ZM} {ifs:List ZM} {scope:ZC} {pos:ZO} {it acc:ZF} {env:Env} (J:Nat->A0->Prop)
  (turn :∀n s,J n s->W0 (B1 prog w) A (j5d it) (λ r s₁=>match r with
   | none=>R (.ok .next) s₁
   | some v=>W0 (B1 prog w) A (j0h target it v) (λ _ s₂=>W0 (B1 prog w) A (assign target env v) (λ _ s₃=>
     W0 (B1 prog w) A (N5 ifs true λ c r=>if r=true then do let ok <-isTrue c env (U3 c env);Y1 (U2 ok) else Y1 (U2 r)) (λ ok s₄=>
      if ok=true then W0 (B1 prog w) A (U3 elt env) (λ x s₅=>W0 (B1 prog w) A (call (.builtin "list.append") [acc,x]) (λ _ s₆=>∃m,m < n/\J m s₆) (λ _ _=>False) s₅) (λ _ _=>False) s₄
      else∃m,m < n/\J m s₄) (λ _ _=>False) s₃) (λ _ _=>False) s₂) (λ _ _=>False) s₁) (λ _ _=>False) s)
  (n:Nat) (h:J n s):j21 (B1 prog w) A (.compLoop (.ListComp elt [⟨target,iter,ifs,0⟩] scope pos) 0 it acc env) R s:=by
 refine codeAny_loop rfl J (λ n s g=>?_) n h;show W0 _ A ((compTurn (.ListComp elt [⟨target,iter,ifs,0⟩] scope pos) 0 it acc env).onRaise (λ x=>do noteFrame x env;theTreesLotGoes x)) _ _ s;refine wpAny_noted ?_;rw [compTurn_list];refine j0 (wpAny_standAt (j0 (L3 (turn n s g) (λ r s₁ b=>?_) λ _ _ f=>f.elim)));cases r with
 | none=>exact G0 b
 | some v=>
  refine j0 (L3 b (λ _ s₂ i=>j0 (L3 i (λ _ s₃ e=>j0 (L3 e (λ ok s₄ a=>?_) λ _ _ f=>f.elim)) λ _ _ f=>f.elim)) λ _ _ f=>f.elim);cases ok with
  | false=>exact G0 ⟨rfl,a⟩
  | true=>exact j0 (j0 (L3 a (λ x s₅ d=>j0 (L3 d (λ _ s₆ j=>G0 (G0 ⟨rfl,j⟩)) λ _ _ f=>f.elim)) λ _ _ f=>f.elim))
end
variable {env:Env}
theorem AS:∀(names:List (ZQ×z6)) (acc:List (ZQ×ZR)),(∀y∈names,y.2=E2->∃c,env.cells.lookup y.1=some c)->(∀y c,acc.lookup y=some c->env.cells.lookup y=some c)->
  ∃cl,(N5 names acc λ (x:ZQ×z6) (r:List (ZQ×ZR))=>(match x with
    | (name,kind)=>if (kind == E2)=true then do let c <-cellOf env name;Y1 (U2 ((name,c) :: r)) else Y1 (U2 r):ZN (ForInStep (List (ZQ×ZR)))))=Y1 cl/\
   (∀y c,cl.lookup y=some c->env.cells.lookup y=some c)/\(∀y,((y,E2)∈names\/∃c,acc.lookup y=some c)->∃c,cl.lookup y=some c)
 | [],acc,_,ha=>⟨acc,by rw [n5],ha,λ y h=>h.elim (λ z=>nomatch z) id⟩
 | (n,k) :: r,acc,hf,ha=>by
  rw [A4];dsimp only;by_cases hk:k=E2
  ·subst hk;obtain ⟨c,j⟩:=hf (n,.free) R0 rfl;have e:cellOf env n=Y1 c:=by unfold cellOf;rw [j]
   rw [ZZ (by rfl),e];obtain ⟨cl,g,i,f⟩:=AS r ((n,c) :: acc) (λ y a=>hf y (Y0 _ a)) (λ y d b=>by
    rw [Y4] at b;by_cases a:(y == n)=true
    ·rw [a] at b;have:=eq_of_beq a;subst this;cases b;exact j
    ·rw [j2e] at a;rw [a] at b;exact ha y d b)
   refine ⟨cl,g,i,λ y a=>f y ?_⟩;rcases a with a|⟨d,b⟩
   ·rcases List.mem_cons.mp a with z|z
    ·cases z;exact .inr ⟨c,by rw [Y4];simp⟩
    ·exact .inl z
   ·refine .inr ?_;rw [Y4];by_cases a:(y == n)=true
    ·rw [a];exact ⟨c,rfl⟩
    ·rw [j2e] at a;rw [a];exact ⟨d,b⟩
  ·rw [Z_ (by simpa using hk)];obtain ⟨cl,g,i,f⟩:=AS r acc (λ y a=>hf y (Y0 _ a)) ha;refine ⟨cl,g,i,λ y a=>f y ?_⟩;rcases a with a|a
   ·rcases List.mem_cons.mp a with z|z
    ·cases z;exact ZU rfl hk
    ·exact .inl z
   ·exact .inr a
variable {scope:ZC}
def Mc (hf :∀y∈scope.names,y.2=E2->∃c,env.cells.lookup y.1=some c) :
  ∃cl,closureFor scope env=Y1 cl/\(∀y c,cl.lookup y=some c->env.cells.lookup y=some c)/\(∀y,(y,E2)∈scope.names->∃c,cl.lookup y=some c):=by
 obtain ⟨cl,b,d,a⟩:=AS (env:=env) scope.names [] hf (λ _ _ z=>nomatch z);refine ⟨cl,?_,d,λ y e=>a y (.inl e)⟩;simp only [closureFor];rw [b];rfl
variable {y:ZQ}
theorem mem_of_lookup {κ:Type} {k:κ} :∀{l:List (ZQ×κ)},l.lookup y=some k->(y,k)∈l
 | (n,c) :: r,h=>by
  rw [Y4] at h;by_cases hy:(y == n)=true
  ·rw [hy] at h;cases h;rw [eq_of_beq hy];exact R0
  ·rw [j2e] at hy;rw [hy] at h;exact Y0 _ (mem_of_lookup h)
def GA (hcell :∀y∈scope.names,y.2≠NameKind.cell) {k:z6} (h:(A9 scope env).names.lookup y=some k) (hk:k=.cell\/k=.free):(y,E2)∈scope.names:=by
 have m:=mem_of_lookup h;unfold A9 at m;obtain ⟨⟨n,c⟩,a,e⟩:=List.mem_map.mp m;dsimp only at e;by_cases hc:(c == E2)=true
 ·have:=eq_of_beq hc;subst this;split at e<;>(injection e with e1 e2;subst e1;exact a)
 ·rw [Z_ (by simp [hc])] at e;injection e with e1 e2;subst e1 e2;rcases hk with rfl|rfl
  ·exact ZU rfl (hcell _ a)
  ·exact ZU rfl hc
noncomputable abbrev cB (X:Cx) (scope:ZC) (cl:List (ZQ×ZR)) (N:List ZQ) (C:ZR) (s₂:A0) (H₂:Hp) (fp:List ZR):Cx:=
 { X with N:=N,s₀:=s₂,H₀:=H₂,env:=compEnvC scope cl C X.env,outer:=X.stack,stack:=X.stack,ex:=fp,fn:=λ _=>false,pn:=[],xe:=λ _ _=>False }
def PF (X:Cx) (ifs:List ZM) (t:TT):Prop:=
 ∀(pins:List (ZR×ZP)) (s:A0) (σ:St) (H:Hp) (Q:Bool->Hp->Prop),Inv X pins σ H s->t σ H Q->
  W0 (B1 X.prog X.w) X.A (N5 ifs true λ c r=>if r=true then do let ok <-isTrue c X.env (U3 c X.env);Y1 (U2 ok) else Y1 (U2 r)) (TP X pins σ Q) X.xe s
def fF:PF X [] (λ _ H Q=>Q true H):=λ _ _ _ H _ I h=>wpAny_tests_nil ⟨H,I,h⟩
def fq {c:ZM} {t:TT} (h:PT X c t):PF X [c] t:=λ a s σ H Q I q=>wpAny_tests_one (h a s σ H Q I q)
def aI.snoc {us:List ZF} {x:V} {u:ZF} (r:aI xs us) (q:RelV x u):aI (xs++[x]) (us++[u]):=aI.append r (.cons q .nil)
def bA (H:Hp) (x:V) (T:String):Prop:=match x with
 | .non=>T = "NoneType"
 | .bl _=>T = "bool"
 | .int _=>T = "int"
 | .str _=>T = "str"
 | .ref a=>((∃xs,H a=some (.lst xs))/\T = "list")\/((∃xs,H a=some (.tup xs))/\T = "tuple")\/((∃kvs,H a=some (.dK kvs))/\T = "dict")
 | _=>False
noncomputable def hW (T C:String):Bool:=T == C || (T == "bool" && C == "int")
variable {T:String}
def bA.ty {x:V} (h:bA H x T):gq K H x (.type T):=by
 cases x with
 | non=>cases (show T = "NoneType" from h);exact .non
 | bl b=>cases (show T = "bool" from h);exact .bl b
 | int i=>cases (show T = "int" from h);exact .int i
 | str z=>cases (show T = "str" from h);exact .str z
 | ref a=>
  rcases h with ⟨⟨c,e⟩,rfl⟩|⟨⟨c,e⟩,rfl⟩|⟨⟨c,e⟩,rfl⟩
  ·exact .lst e
  ·exact .tup e
  ·exact .dK e
 | _=>exact h.elim
def bA.one {x:V} (h:bA H x T):T = "NoneType"\/T = "bool"\/T = "int"\/T = "str"\/T = "list"\/T = "tuple"\/T = "dict":=by
 cases x with
 | non=>exact .inl h
 | bl b=>exact .inr (.inl h)
 | int i=>exact .inr (.inr (.inl h))
 | str z=>exact .inr (.inr (.inr (.inl h)))
 | ref a=>rcases h with ⟨_,rfl⟩|⟨_,rfl⟩|⟨_,rfl⟩<;>simp
 | _=>exact h.elim
noncomputable def rJ:List String:=["int","str","bool","tuple","list"]
def pQ (K:c0) {C:String} (h:T = "NoneType"\/T = "bool"\/T = "int"\/T = "str"\/T = "list"\/T = "tuple"\/T = "dict") (hC:C∈rJ):PySem.W.kitOne K (.type T) (.type C)=some (hW T C):=by
 have hC:C = "int"\/C = "str"\/C = "bool"\/C = "tuple"\/C = "list":=by simpa [rJ] using hC
 rcases h with rfl|rfl|rfl|rfl|rfl|rfl|rfl<;>rcases hC with rfl|rfl|rfl|rfl|rfl<;>kernel_rfl
variable {h:ZL} {kvs:List ((ZQ×ZQ)×V)} {p:ZR} {pins:List (ZR×ZP)} {σ:St}
section
def oQ:ck X (.builtin "isinstance") (λ xs H Q=>∃x C T,xs=[x,.ty C]/\bA H x T/\C∈rJ/\Q (.bl (hW T C)) H):=by intro g s σ H xs i Q I r h;obtain ⟨x,C,T,rfl,a,c,q⟩:=h;obtain ⟨u,f,rfl,b,d⟩:=vals2 r;cases (show f=C6 C from d);exact KW I b a.ty (pQ X.K a.one c) λ e=>⟨.bl _,H,I.tok e,rfl,q⟩
theorem Mp {ys:List V} {its:List ZF} (rv:aI ys its) (hb :∀y∈ys,∃b,y=V.bl b):((L1 its.length).all λ i=>decide (ys[i]? = some (V.bl true)))=ys.all λ y=>decide (y=V.bl true):=by
 have e:=rv.length;rw [Bool.eq_iff_iff,c9,c9];constructor
 ·intro h y d;obtain ⟨i,a,rfl⟩:=List.getElem_of_mem d;have:=h i (List.mem_range.mpr '%');simpa [a] using this
 ·intro h i a;have c:i < ys.length:=by have:=List.mem_range.mp a;lia
  have:=h ys[i] (c7 c);simpa [c] using this
def Gy (hc:X.calm=true):ck X (.builtin "all") (λ xs H Q=>∃p ys,xs=[.ref p]/\aH X.K H p ys/\(∀y∈ys,∃b,y=V.bl b)/\Q (.bl (ys.all λ y=>decide (y=V.bl true))) H):=by
 intro G s σ H xs L Q I r h;obtain ⟨p,ys,rfl,B,k,q⟩:=h;obtain ⟨u,rfl,E⟩:=vals1 r;cases E;obtain ⟨g,d,f,J⟩:=I.list B;have F:p≠s.heap.objs.size:=by obtain ⟨o,e,_⟩:=f.isList;exact P1 (V0 e)
 refine call_all_walk (j32 f.isList ?_);refine ⟨s.heap.objs.size,_,_,_,_,_,λ i=>decide (ys[i]? = some (V.bl true)),rfl,Walks.list (show X.A.in1.handled=none from I.ok.hd hc) s.heap.objs.size p F g.toArray,⟨⟨_,j1 _ rfl,rfl,rfl⟩,f.isList.at λ o e=>B0 _ e⟩,?_,?_⟩
 ·intro i v N M O a n;have a:g[i]? = some v:=by simpa using a
  obtain ⟨C,e⟩:=List.getElem?_eq_some_iff.mp a;have c:i < ys.length:=by rw [d.length];exact C
  obtain ⟨b,l⟩:=k ys[i] (c7 c);obtain ⟨u,m,j⟩:=d.get (i:=i) (x:=ys[i]) (by simp [c]);rw [a] at m;cases m;rw [l] at j;cases (show v=R4 b from j);have:decide (ys[i]? = some (V.bl true))=b:=by rw [F0 c,l];cases b<;>simp
  exact V4 (this ▸ n)
 ·intro P D t;have e:=Mp d k;rw [<-M0] at e;refine ⟨.bl _,H,I.kept (t':=D) λ b o z=>t b o ?_ (B0 _ z),rfl,e.symm ▸ q⟩;intro w;rw [List.mem_singleton.mp w] at z;exact ZU (V0 z) (Y3 _)
def vD (i j:Int):Prop:=0 < j/\j < 2 ^ 64
theorem zO:ei X (G5 .FloorDiv) (rI vD λ i j=>.int (i / j)):=xm λ i j _ _ _ _ _ a q=>by
 obtain ⟨c,b⟩:=a;refine floordiv_int '%' ?_ (.inl (PyProof.noPylong_of_log2 ?_))
 ·rw [Int.fdiv_eq_ediv_of_nonneg _ '%'];exact q
 ·have:j.natAbs.log2 < 64:=(Nat.log2_lt '%').mpr '%'
  lia
structure h_ (K:c0) (P:Q0) (a:ZR) (kvs:List (ZQ×V)):Prop where
 ex :∃es n,K.lookup a=some ⟨.type "dict",none,.dict es n,#[]⟩/\j0c (λ (p:ZQ×V) (e:ZG)=>(∃t,e.key=.str p.1 t)/\e.hash=d0 P p.1/\RelV p.2 e.val) kvs es.toList
 lo:(a == T3)=false
def Ku {kvs:List (ZQ×V)} {P:Q0} :∀{es:List ZG},j0c (λ (p:ZQ×V) (e:ZG)=>(∃t,e.key=.str p.1 t)/\e.hash=d0 P p.1/\RelV p.2 e.val) kvs es->∀z,
  dn (kvs.lookup z) (findBy C8 es.toArray z):=by
 intro es r;induction r with
 | nil=>intro z;exact True.intro
 | @cons p e kvs es h t a=>
  intro z;obtain ⟨⟨f,d⟩,g,c⟩:=h;have a:=a z;unfold findBy at a⊢;rw [List.find?_toArray] at a⊢;rw [P4,Y4];have b:C8 z e.key=(z == p.1):=by rw [d];show (p.1 == z)=_;rw [Bool.eq_iff_iff,beq_iff_eq,beq_iff_eq];exact ⟨λ q=>q.symm,λ q=>q.symm⟩
  cases hz:(z == p.1) with
  | true=>rw [b,hz];exact c
  | false=>rw [b,hz];exact a
def h_.mapOf {kvs:List (ZQ×V)} (D:h_ X.K X.w.params a kvs) (k:X.K.In h) :∃f,h.MapOf (strKind X.prog X.w) a f/\∀z,dn (kvs.lookup z) (f z):=by
 obtain ⟨b,n,d,r⟩:=D.ex;have c:PySem.W.KeysLit X.w.params b.toList:=by
  clear d D;generalize b.toList=l at r;induction r with
  | nil=>exact True.intro
  | cons h t ih=>obtain ⟨⟨e,c⟩,i,j⟩:=h;exact ⟨⟨_,e,c,i⟩,ih⟩
 have g :∀z,dn (kvs.lookup z) (findBy C8 b.toList.toArray z):=Ku r;exact ⟨_,PySem.W.mapOf_K (prog:=X.prog) k d c,λ z=>by simpa using g z⟩
def Kx {kvs:List (ZQ×V)} (D:h_ X.K X.w.params a kvs):ei X (T2 .In) (λ x y H Q=>∃z,x=.str z/\y=.ref a/\Q (.bl (kvs.lookup z).isSome) H):=by intro g s σ H x y v u Q I b d h;obtain ⟨z,rfl,rfl,q⟩:=h;obtain ⟨t,rfl⟩:=b;cases d;obtain ⟨f,c,e⟩:=D.mapOf I.kIn;refine wpAny_in_of (j08 X.prog X.w z t) D.lo c ⟨.bl _,H,I.tok _,rfl,?_⟩;have:=e z;rw [dn.isSome_eq this] at q;exact q
def oG {kvs:List (ZQ×V)} (D:h_ X.K X.w.params a kvs):kE X (λ x y H Q=>∃z v,x=.ref a/\y=.str z/\kvs.lookup z=some v/\Q v H):=by
 intro m l k s σ H x y v u Q I g d h i;obtain ⟨z,r,rfl,rfl,e,q⟩:=h;cases g;obtain ⟨t,rfl⟩:=d;obtain ⟨f,c,j⟩:=D.mapOf I.kIn;have b:=j z;rw [e] at b;cases ef:f z with
 | none=>rw [ef] at b;exact b.elim
 | some u=>rw [ef] at b;exact j5b c.typeIs slot_dict_getitem.lookup (wpAny_getItem_of (j08 X.prog X.w z t) c ef ⟨r,H,I.tok _,b,q⟩) i
structure gQ (K:c0) (P:Q0) (a:ZR) (kvs:List ((ZQ×ZQ)×V)):Prop where
 ex :∃es n,K.lookup a=some ⟨.type "dict",none,.dict es n,#[]⟩/\j0c (λ (p:(ZQ×ZQ)×V) (e:ZG)=>(∃(b:ZR) (t t':Tok) (m:Nat),e.key=.ref b/\K.lookup b=some ⟨.type "tuple",none,.seq #[.str p.1.1 t,.str p.1.2 t'] m,#[]⟩)/\
  e.hash=T1 (t0 [d0 P p.1.1,d0 P p.1.2])/\RelV p.2 e.val) kvs es.toList
 nd:(kvs.map (·.1)).Nodup
 lo:(a == T3)=false
def Ou (k:K.In h) :∀{kvs:List ((ZQ×ZQ)×V)} {es:List ZG},
  j0c (λ (p:(ZQ×ZQ)×V) (e:ZG)=>(∃(b:ZR) (t t':Tok) (m:Nat),e.key=.ref b/\K.lookup b=some ⟨.type "tuple",none,.seq #[.str p.1.1 t,.str p.1.2 t'] m,#[]⟩)/\
   e.hash=T1 (t0 [d0 w.params p.1.1,d0 w.params p.1.2])/\RelV p.2 e.val) kvs es->
  ∃xs:List (List ZQ×ZR×ZF),es=xs.map (entryOfKey (X6 (strKind prog w)))/\(∀x∈xs,(X6 (strKind prog w)).is h x.1 x.2.1)/\xs.map (·.1)=kvs.map (λ p=>[p.1.1,p.1.2])/\
   ∀a b,dn (kvs.lookup (a,b)) ((j00 xs [a,b]).map (·.2)):=by
 intro kvs es r;induction r with
 | nil=>exact ⟨[],rfl,λ x f=>ZU f u0,rfl,λ a b=>True.intro⟩
 | @cons p e kvs es hpe t ih=>
  obtain ⟨xs,u,v,A,s⟩:=ih;obtain ⟨⟨b,C,D,m,g,o⟩,i,n⟩:=hpe;refine ⟨([p.1.1,p.1.2],b,e.val) :: xs,?_,?_,?_,?_⟩
  ·rw [G1,<-u];congr 1;obtain ⟨y,q,B⟩:=e;have g:q=.ref b:=g;have i:y=_:=i;subst g i;rfl
  ·intro x f;rcases List.mem_cons.mp f with rfl|f
   ·exact ⟨_,_,m,k _ _ o,rfl,rfl,.cons (j08 prog w _ _) (.cons (j08 prog w _ _) .nil)⟩
   ·exact v x f
  ·rw [G1,G1,A]
  ·intro c d;have:=s c d;rw [Y4];unfold j00 at this⊢;rw [P4];by_cases hcd:(c,d)=p.1
   ·have l:((c,d) == p.1)=true:=by rw [beq_iff_eq];exact hcd
    rw [l];have j:decide ([p.1.1,p.1.2]=[c,d])=true:=by rw [<-hcd];simp
    rw [j];exact n
   ·have l:((c,d) == p.1)=false:=by rw [beq_eq_false_iff_ne];exact hcd
    rw [l];have j:decide ([p.1.1,p.1.2]=[c,d])=false:=by rw [decide_eq_false_iff_not];intro z;injection z with z1 z;injection z with z2 _;exact hcd (j64 z1.symm z2.symm)
    rw [j];exact this
theorem E_:∀{l:List (ZQ×ZQ)},l.Nodup->(l.map λ p=>[p.1,p.2]).Nodup
 | [],_=>List.nodup_nil
 | p :: r,h=>by obtain ⟨a,b⟩:=List.nodup_cons.mp h;rw [G1];refine List.nodup_cons.mpr ⟨λ m=>a ?_,E_ b⟩;obtain ⟨q,c,e⟩:=List.mem_map.mp m;injection e with e1 e;injection e with e2 _;have:q=p:=j64 e1 e2;exact this ▸ c
def gQ.dict (D:gQ X.K X.w.params a kvs) (k:X.K.In h) :∃xs,h.DictOfH (X6 (strKind X.prog X.w)) a xs/\∀c d,dn (kvs.lookup (c,d)) ((j00 xs [c,d]).map (·.2)):=by obtain ⟨g,n,f,r⟩:=D.ex;obtain ⟨xs,i,j,b,e⟩:=Ou (prog:=X.prog) (w:=X.w) k r;refine ⟨xs,⟨_,g,n,k _ _ f,⟨rfl,rfl,rfl⟩,rfl,i,j,?_⟩,e⟩;rw [b];have:=E_ D.nd;rw [S2] at this;exact this
def EK {c d:ZQ} (I:Inv X pins σ H s) (hp:H p=some (.tup [.str c,.str d])):(X6 (strKind X.prog X.w)).is s.heap [c,d] p:=by
 obtain ⟨_,h,a,⟨o,e,f,n,b⟩,_⟩:=(show bb X.prog X.w H s.heap p (.tup [.str c,.str d]) from I.hok p _ hp)
 cases a with
 | cons r1 a=>
  cases a with
  | cons r2 a=>cases a;obtain ⟨i,rfl⟩:=r1;obtain ⟨g,rfl⟩:=r2;exact ⟨o,_,n,e,f,b,.cons (j08 X.prog X.w _ _) (.cons (j08 X.prog X.w _ _) .nil)⟩
def OU (hu:X.A.units + 1 < ZD) (D:gQ X.K X.w.params a kvs) :
  ei X (T2 .NotIn) (λ x y H Q=>∃p c d,x=.ref p/\H p=some (.tup [.str c,.str d])/\y=.ref a/\Q (.bl (!(kvs.lookup (c,d)).isSome)) H):=by
 intro j s σ H x y v u Q I b f h;obtain ⟨p,c,d,rfl,i,rfl,q⟩:=h;cases b;cases f;obtain ⟨l,e,g⟩:=D.dict I.kIn;refine wpAny_notIn_heap (k:=[c,d]) hu (EK I i) D.lo e ⟨.bl _,H,I.tok _,rfl,?_⟩;have:=dn.isSome_eq (g c d);rw [o8] at this;rw [this] at q;exact q
def rB (hu:X.A.units + 1 < ZD) (D:gQ X.K X.w.params a kvs) :
  kE X (λ x y H Q=>∃p c d v,x=.ref a/\y=.ref p/\H p=some (.tup [.str c,.str d])/\kvs.lookup (c,d)=some v/\Q v H):=by
 intro B t o s σ H x y v u Q I j g h l;obtain ⟨p,c,d,r,rfl,rfl,m,e,q⟩:=h;cases j;cases g;obtain ⟨i,f,n⟩:=D.dict I.kIn;have b:=n c d;rw [e] at b;cases ef:j00 i [c,d] with
 | none=>rw [ef] at b;exact b.elim
 | some z=>rw [ef] at b;exact j5b f.typeIs slot_dict_getitem.lookup (wpAny_getItem_heap (k:=[c,d]) hu (EK I m) f ef ⟨r,H,I.tok _,b,q⟩) l
end
structure wh (P:ZI) (w:X0) (K:c0) (mg:ZQ->Option ZF) (base:ZL) (x:ZQ) (ps:List ZQ) (k:Nat) (sp:Sp):Prop where
 ex :∃f fd,fH P w K mg base CX0 k f fd ps sp/\mg x=some (.ref f)/\V3 K (.ref f)=true/\Binds K fd ps []
variable {e:ZM} {es:List ZM} {t:TA}
section
variable {k:Nat} {p:ZO}
def aB (c:wh X.prog X.w X.K X.mg X.base x ps k sp) (hr:bL k X.A) (hg:Gl X x) (ha:PA X (e :: es) t) (hn:x≠"__name__":=by decide) (hdb:(x == ("__debug__" : ZQ))=false:=by decide)
  (he:S1 (e :: es) X.env=(false,U3 e X.env) :: S1 es X.env:=by rfl) (hpl:(J4 pos (S1 es X.env)).any (·.1)=false:=by rfl):PE X (.Call (.Name x p) (e :: es) [] pos) (oo sp [] E0 t):=by
 obtain ⟨f,g,F,a,b,d⟩:=c.ex;exact RD F hr hg a b d .nil hU ha hdb he hpl
end
structure TX (K:c0) (mg:ZQ->Option ZF):Prop where
 of :∀{n:ZQ} {v:ZF},F7 K N3 n=some (some v)->mg n=some v
 no :∀{n:ZQ},F7 K N3 n=some none->mg n=none
def TX.mk' (X:K.In h) (G:h.Ns N3 mg):TX K mg:=⟨λ e=>PySem.W.mg_of X G e,λ e=>PySem.W.mg_none_of X G e⟩
section
def uD (K:c0):R2:=λ x y H Q=>oO (λ i j=>.int (i + j)) x y H Q\/(∃i j,x=.str i/\y=.str j/\i.length + j.length<=ZE/\Q (.str (i++j)) H)\/ug x y H Q\/kr K x y H Q
def eA:ei X (G5 .Add) (uD X.K):=qe.or (jQ.or (rT.or ux))
def cv:ei X (T2 .Eq) FZ:=vL
def tN:ei X (T2 .NotEq) HQ:=ud
def jo:ck X (.builtin "len") (λ xs H Q=>(∃p ys,xs=[.ref p]/\(aH X.K H p ys\/aG X.K H p ys)/\Q (.int ys.length) H)\/∃z,xs=[.str z]/\z.length<=ZE/\Q (.int z.length) H):=iQ.or Jv
end
noncomputable def iG (x:V) (g:Int):Bool:=match x with
 | .int i=>decide (-g<=i) && decide (i<=g)
 | _=>false
noncomputable def cW (H:Hp) (x:V):Option (List V):=match x with
 | .ref a=>(match H a with|some (.tup xs)=>some xs|_=>none)
 | _=>none
def Px {x:V} (t:bA H x T) (e:af H H'):cW H' x=cW H x:=by
 cases x with
 | ref a=>rcases t with ⟨⟨b,h⟩,_⟩|⟨⟨b,h⟩,_⟩|⟨⟨b,h⟩,_⟩<;>(unfold cW;dsimp only;rw [h,e a _ h])
 | _=>rfl
def bA.same {x:V} (t:bA H x T) (e:af H H'):bA H' x T:=by
 cases x with
 | ref a=>
  rcases t with ⟨⟨b,h⟩,z⟩|⟨⟨b,h⟩,z⟩|⟨⟨b,h⟩,z⟩
  ·exact .inl ⟨⟨b,e a _ h⟩,z⟩
  ·exact .inr (.inl ⟨⟨b,e a _ h⟩,z⟩)
  ·exact .inr (.inr ⟨⟨b,e a _ h⟩,z⟩)
 | _=>exact t
def bA.tuple {x:V} (t:bA H x "tuple") :∃a xs,x=.ref a/\H a=some (.tup xs):=by
 cases x with
 | ref a=>
  rcases t with ⟨_,z⟩|⟨⟨xs,h⟩,_⟩|⟨_,z⟩
  ·exact ZU z '!'
  ·exact ⟨a,xs,rfl,h⟩
  ·exact ZU z '!'
 | non=>exact ZU (show "tuple" = "NoneType" from t) '!'
 | bl b=>exact ZU (show "tuple" = "bool" from t) '!'
 | int i=>exact ZU (show "tuple" = "int" from t) '!'
 | str z=>exact ZU (show "tuple" = "str" from t) '!'
 | _=>exact t.elim
def bA.int {x:V} (t:bA H x "int") :∃i,x=.int i:=by
 cases x with
 | ref a=>rcases t with ⟨_,z⟩|⟨_,z⟩|⟨_,z⟩<;>exact ZU z '!'
 | non=>exact ZU (show "int" = "NoneType" from t) '!'
 | bl b=>exact ZU (show "int" = "bool" from t) '!'
 | int i=>exact ⟨i,rfl⟩
 | str z=>exact ZU (show "int" = "str" from t) '!'
 | _=>exact t.elim
def bA.str {x:V} (t:bA H x "str") :∃z,x=.str z:=by
 cases x with
 | ref a=>rcases t with ⟨_,z⟩|⟨_,z⟩|⟨_,z⟩<;>exact ZU z '!'
 | non=>exact ZU (show "str" = "NoneType" from t) '!'
 | bl b=>exact ZU (show "str" = "bool" from t) '!'
 | int i=>exact ZU (show "str" = "int" from t) '!'
 | str z=>exact ⟨z,rfl⟩
 | _=>exact t.elim
def vQ {x:V} (t:bA H x T) (h:T≠"int") (g:Int):iG x g=false:=by
 cases x with
 | int i=>exact ZU t h
 | _=>rfl
def vH {x:V} (t:bA H x T) (h:T≠"tuple"):cW H x=none:=by
 cases x with
 | ref a=>
  rcases t with ⟨⟨b,e⟩,_⟩|⟨_,z⟩|⟨⟨b,e⟩,_⟩
  ·unfold cW;dsimp only;rw [e]
  ·exact ZU z h
  ·unfold cW;dsimp only;rw [e]
 | _=>rfl
def xN {x:V} (t:bA H x T) {C:String} (h:C≠"int"):hW T C=decide (T=C):=by
 unfold hW;have:(C == "int")=false:=by simpa using h
 rw [this,j06,Bool.or_false,Bool.beq_eq_decide_eq]
def Flat (H:Hp) (x:V):Prop:=∀xs,cW H x=some xs->xs.length<=1000/\∀y∈xs,∃T,bA H y T
def Pb {α β:Type} [BEq α] [LawfulBEq α] {l:List (α×β)} {a:α} {b:β} (h:l.lookup a=some b):(a,b)∈l:=by
 induction l with
 | nil=>cases h
 | cons p r ih=>
  obtain ⟨c,d⟩:=p;rw [Y4] at h;cases hc:(a == c) with
  | true=>rw [hc] at h;cases h;rw [eq_of_beq hc];exact R0
  | false=>rw [hc] at h;exact Y0 _ (ih h)
def Mr {names:List (ZQ×z6)} {Q:ZQ×z6->Prop} (h:(names.all λ y=>y.2 != E2)=true) :∀y∈names,y.2=E2->Q y:=λ y a e=>by have:=List.all_eq_true.mp h y a;rw [e] at this;exact ZU this '!'
variable {o:HO}
def af.upd (h:H p=none):af H (upd H p o):=λ b u e=>by rw [ak (fK e h)];exact e
def af.seqT (e:af H H') (h:aG K H a xs):aG K H' a xs:=by
 rcases h with (h|⟨o,h⟩)|h
 ·exact .inl (.inl (e _ _ h))
 ·exact .inl (.inr ⟨o,e _ _ h⟩)
 ·exact .inr h
def IA {x:V} (h:cW H x=some xs) :∃a,x=.ref a/\H a=some (.tup xs):=by
 unfold cW at h;cases x with
 | ref a=>
  dsimp only at h;split at h
  ·rename_i ys e;exact ⟨a,rfl,by rw [e,Q1 h]⟩
  ·cases h
 | _=>cases h
open Builtin.Str (occurrences partsBetween strKind)
section
def C_ {vl:ZF} {lo:Option Int} (p:j2i vl lo) :∃l:Option (Int×Tok),vl=partValue l/\l.map (·.1)=lo:=by
 cases p with
 | none=>exact ⟨none,rfl,rfl⟩
 | int i t=>exact ⟨some (i,t),rfl,rfl⟩
end
section
def nR:V->Option Int->Option Int->Hp->VK->Prop:=λ x lo hi H Q=>∃z,x=.str z/\z.length<=ZE/\Q (.str (Txt.slice z lo hi)) H
def pN:nY X nR:=by
 intro j s σ H x v r n o m p Q I d e i c h;obtain ⟨z,rfl,b,q⟩:=h;obtain ⟨t,rfl⟩:=d;obtain ⟨l,rfl,f⟩:=C_ i;obtain ⟨u,rfl,g⟩:=C_ c;subst f g;refine ⟨"str",_,F.slot_str_getitem.lookup,typeIs_str _ _ _,wpAny_getItem_str_slice (l:=l) (u:=u) (st:=none) e rfl
  (post_val_or_str ⟨C0 (Txt.slice_le z _ _) b,λ a k=>⟨.str (Txt.slice z _ _),H,I.tok k,⟨a,rfl⟩,q⟩⟩)⟩
def gn:nY X (λ x lo hi H Q=>nB X.K x lo hi H Q\/nZ X.K x lo hi H Q\/nR x lo hi H Q):=nF.or (pB.or pN)
def Kf:ck X (.type "int") (λ xs H Q=>∃z n,xs=[.str z]/\PySem.intText? z=some n/\z.length<=640/\Q (.int n) H):=by intro c s σ H xs d Q I r h;obtain ⟨z,n,rfl,b,a,q⟩:=h;obtain ⟨u,rfl,t,rfl⟩:=vals1 r;exact PySem.W.KIN.call_text b a ⟨.int n,H,I.tok _,⟨_,rfl⟩,q⟩
def By:ck X (.type "int") (λ xs H Q=>((∃i,xs=[.int i]/\Q (.int i) H)\/∃k,xs=[.bl k]/\Q (.int (if k then 1 else 0)) H)\/∃z n,xs=[.str z]/\PySem.intText? z=some n/\z.length<=640/\Q (.int n) H):=kT.or Kf
end
def uN (H:Hp) (r:ZR):Prop:=∃a b c:Int,H r=some (.lst [.int a,.int b,.int c])/\0<=c/\c < 536870909
def Kept (r:ZR) (H H':Hp):Prop:=∀b o,b≠r->H b=some o->H' b=some o
variable {r:ZR}
def Kept.refl:Kept r H H:=λ _ _ _ h=>h
def Kept.trans {H2:Hp} (a:Kept r H H1) (b:Kept r H1 H2):Kept r H H2:=λ c o n h=>b c o n (a c o n h)
def af.kept (s:af H H'):Kept r H H':=λ b o _ h=>s b o h
def Kept.set:Kept r H (upd H r o):=λ b u n h=>by rw [ak n];exact h
structure Rw (r:ZR) (H H':Hp):Prop where
 k:Kept r H H'
 r:uN H' r
theorem eP {α:Type} {xs:List α} {t:Int} (h0:0<=t) (h1:t < xs.length) :∃v,om xs t=some v/\v∈xs:=by
 have a:t.toNat < xs.length:=by lia
 refine ⟨xs[t.toNat],?_,c7 a⟩;have:=bF (xs:=xs) (j:=t.toNat) (v:=xs[t.toNat]) (by simp [a]);rw [Int.toNat_of_nonneg h0] at this;exact this
variable {i:Nat} {v:V}
section
variable {H0:Hp} 
def aF {Q:St->Hp->Prop} (h:Q (σ.set i (some v)) H):bu i v σ H Q:=h
def cU {nx ct bk:St->Hp->Prop} {rt:VK} (h:nx σ H):Ends.nx { nx:=nx,rt:=rt,bk:=bk,ct:=ct } σ H:=h
def qI {nx ct bk:St->Hp->Prop} {rt:VK} (h:nx σ H):mf { nx:=nx,rt:=rt,bk:=bk,ct:=ct } σ H:=h
end
variable {E Q:ZF->A0->Prop} {it:ZR}
section
def vn {t:ZR} {its:Array ZF} {x:ZF} (a:s.heap.IsTupleIter it t i) (b:s.heap.IsTuple t its) (c:its[i]? = some x)
  (q :∀h',h'.IsTupleIter it t (i + 1)->R6 it s.heap h'->Q x { s with heap:=h' }):W0 (B1 prog w) A (B5 (.ref it)) Q E s:=by
 obtain ⟨o,e,g,d⟩:=id a;obtain ⟨p,f,_,n,h⟩:=b;unfold B5;refine j0 (F5 (name:=X7 "__next__") a.typeIs u6 (X3 u6 a.typeIs j4c (show W0 _ _ (field (.ref it) 0 >>= _) _ _ s from j0 (S7 e d (x:=.ref t) rfl ?_)) (j40 _)));show W0 _ _ (if (P0 t == Value.none)=true then _ else (field (.ref it) 1 >>= _)) _ _ s;rw [Z_ (by exact N0)];refine j0 (S7 e d (x:=.int i 0) rfl (show W0 _ _ (seqItems? (.ref t) >>= _) _ _ s from j0 (j58 f h ?_)));simp only [W6,c];refine j0 (j1c e d (by simp) (G0 ⟨x,rfl,G0 (q _ ⟨_,X9 _ e (Obj.isFreed_of_fields (Obj.data_mapFields d _)),(Obj.cls_mapFields ..).trans g,?_⟩ (F3 ..))⟩));rw [Obj.data_mapFields d];simp [j3f]
def rL {t:ZR} {its:Array ZF} (hh:A.handled=none) (a:s.heap.IsTupleIter it t i) (b:s.heap.IsTuple t its) (c:its[i]? = none)
  (q :∀h' e,Heap.ExtBut it s.heap h'->(∃o,h'.get? e=some o/\o.cls=.type "StopIteration")->E (.ref e) { s with heap:=h' }):W0 (B1 prog w) A (B5 (.ref it)) Q E s:=by
 obtain ⟨o,d,j,f⟩:=id a;obtain ⟨p,g,_,n,h⟩:=b;unfold B5;refine j0 (F5 (name:=X7 "__next__") a.typeIs u6 (X3 u6 a.typeIs j4c (show W0 _ _ (field (.ref it) 0 >>= _) _ _ s from j0 (S7 d f (x:=.ref t) rfl ?_)) (j40 _)));show W0 _ _ (if (P0 t == Value.none)=true then _ else (field (.ref it) 1 >>= _)) _ _ s;rw [Z_ (by exact N0)];refine j0 (S7 d f (x:=.int i 0) rfl (show W0 _ _ (seqItems? (.ref t) >>= _) _ _ s from j0 (j58 g h ?_)));simp only [W6,c];refine j0 (j59 (j0 (j1c d f (by simp) (show W0 _ _ (newExc (.type "StopIteration") [] >>= _) _ _ _ from j0 ?_))));simp only [newExc,newTuple];refine j0 (M3 (j0 (m:=j1g _ _) (wpAny_of_eq (a:=Value.none) (by first|rfl|(simp only [j1g];rfl)) (M3 ?_ (by size_fits)))) (by size_fits));simp only [raiseNew];refine j0 (wpAny_handled ?_);first|rw [show A.in1.handled=none from hh]|rw [hh]
 exact j0 (G0 (wpAny_throw (q _ _ (((F3 ..).extBut.push _).push _) ⟨_,j1 _ rfl,rfl⟩)))
structure Cz (z T U i j a b:ZR):Prop where
 dis:[z,T,U,i,j].Nodup
 fa:a∉[z,T,U,i,j]
 fb:b∉[z,T,U,i,j]
structure RE (h:ZL) (z T U i j a b:ZR) (n:Nat) (f:ZF):Prop where
 z:IsZip h z T U f
 t:IsPair h T (.ref i) (.ref j)
 u :∃p q,IsPair h U p q
 i:h.IsTupleIter i a n
 j:h.IsTupleIter j b n
end
inductive Dt where
 | non|bl (b:Bool)|int (i:Int)|str (z:ZQ)|tup (ds:List Dt)
mutual
noncomputable def bZ (K:c0) (H:Hp):Dt->V->Prop
 | .non,v=>v=.non
 | .bl b,v=>v=.bl b
 | .int i,v=>v=.int i
 | .str z,v=>v=.str z
 | .tup ds,v=>∃a xs,v=.ref a/\aG K H a xs/\dO K H ds xs
noncomputable def dO (K:c0) (H:Hp):List Dt->List V->Prop
 | [],xs=>xs=[]
 | d :: ds,xs=>∃x r,xs=x :: r/\bZ K H d x/\dO K H ds r
end
mutual
theorem bZ.same' {K:c0} {H H':Hp} (s:af H H') :∀(d:Dt) (v:V),bZ K H d v->bZ K H' d v
 | .non,v,h=>h
 | .bl b,v,h=>h
 | .int i,v,h=>h
 | .str z,v,h=>h
 | .tup ds,v,h=>by obtain ⟨a,c,rfl,e,r⟩:=h;exact ⟨a,c,rfl,s.seqT e,dO.same' s ds c r⟩
theorem dO.same' {K:c0} {H H':Hp} (s:af H H') :∀(d:List Dt) (v:List V),dO K H d v->dO K H' d v
 | [],xs,h=>h
 | d :: ds,xs,h=>by obtain ⟨x,r,rfl,a,b⟩:=h;exact ⟨x,r,rfl,bZ.same' s d x a,dO.same' s ds r b⟩
end
def bZ.same {d:Dt} (h:bZ K H d v) (s:af H H'):bZ K H' d v:=bZ.same' s d v h
def dO.mk2 {d e:Dt} {x y:V} (a:bZ K H d x) (b:bZ K H e y):dO K H [d,e] [x,y]:=⟨x,[y],rfl,a,y,[],rfl,b,rfl⟩
def bZ.mkT {ds:List Dt} (h:H p=some (.tup xs)) (r:dO K H ds xs):bZ K H (.tup ds) (.ref p):=⟨p,xs,rfl,aG.of h,r⟩
mutual
noncomputable def Dt.deep:Dt->Nat
 | .tup ds=>Dt.deeps ds + 1
 | _=>0
noncomputable def Dt.deeps:List Dt->Nat
 | []=>0
 | d :: ds=>max d.deep (Dt.deeps ds)
noncomputable def Dt.plain:Dt->Bool
 | .int _=>true
 | .str _=>true
 | .tup ds=>Dt.plains ds
 | _=>false
noncomputable def Dt.plains:List Dt->Bool
 | []=>true
 | d :: ds=>d.plain && Dt.plains ds
end
variable {fp:List ZR} {h':ZL}
section
def IZ {p:ZO} (tb:ZR->Sp->Prop) (hN:X.N[i]? = some x) (hv:xy X.env.scope x)
  (G :∀f sp,tb f sp->∃k fd ps,fH X.prog X.w X.K X.mg X.base CX0 k f fd ps sp/\bL k X.A/\V3 X.K (.ref f)=true/\Binds X.K fd ps [])
  (ha:PA X (e :: es) t) (hd:(x == ("__debug__" : ZQ))=false:=by decide) (hcd:(x == ("__classdict__" : ZQ))=false:=by decide)
  (he:S1 (e :: es) X.env=(false,U3 e X.env) :: S1 es X.env:=by rfl) (hpl:(J4 pos (S1 es X.env)).any (·.1)=false:=by rfl) :
  PE X (.Call (.Name x p) (e :: es) [] pos) (λ σ H Q=>∃f sp,σ[i]? = some (some (.ref f))/\tb f sp/\t σ H λ vs H1=>sp vs H1 Q E0):=by
 intro a s σ H Q I h;obtain ⟨f,sp,d,j,h⟩:=h;obtain ⟨k,fd,ps,F,b,g,l⟩:=G f sp j;refine O5 (ba (lW hN hv hd hcd a s σ H (λ v m=>v=.ref f/\m=H) I ⟨_,d,rfl,rfl⟩) λ u c zz=>?_);obtain ⟨v,H0,I0,r0,ev,eH⟩:=zz;subst ev eH;obtain rfl:u=P0 f:=r0;refine N7 (h₀:=X.base) I0.ok.mod.kin g (ba (ha pos a c σ _ _ I0 h) λ n o ⟨vs,H1,I1,r,q⟩=>⟨I1.kIn,?_⟩) he hpl;exact jC F b l .nil hU I1 r (by rw [A3];exact q)
def Inv.turnedL {t':Nat} (I:Inv X pins σ H s) (k :∀b o,b∉fp->s.heap.get? b=some o->h'.get? b=some o) (hf :∀b∈fp,fG X pins H b) :
  Inv X pins σ H { s with heap:=h',toks:=t' }:=by
 have f :∀b u,H b=some u->b∉fp:=λ b u e z=>by have:=(hf b z).1;rw [this] at e;cases e
 refine I.step (g':=s.gens) (d':=s.drawn) (ch:=fp) (λ b d=>⟨(hf b d).2.2.2.1,(hf b d).2.1,(hf b d).2.2.2.2.1,(hf b d).2.2.2.2.2⟩) (λ b o _ _ a e _=>k b o a e) (λ b o _ _ a e _=>⟨o.slots,k b o a e⟩) (λ _ _ _ _ n=>n)
  (λ b o a e=>⟨o,k b o a e⟩) (λ _ _ e=>e) (λ _ _ _ e=>e) (λ b l e=>⟨#[],by rw [e];simp⟩) (λ m h=>?_) (λ b u e=>?_) I.bare
 ·obtain ⟨o,i,j,g,r⟩:=h;exact ⟨o,i,j,k _ o (λ z=>(hf _ z).2.1 rfl) g,r⟩
 ·refine (I.hok b u e).stay (λ c v a q=>k c v ?_ q) (λ _ q=>q) λ _ _ q=>q;rcases a with z|z
  ·rw [z];exact f b u e
  ·exact f c _ z
def Inv.turnedLaid {t':Nat} (I:Inv X pins σ H s) (k :∀b o,b∉fp->s.heap.get? b=some o->h'.get? b=some o) (hf :∀b∈fp,fG X pins H b)
  (hp:s.heap.objs.size<=a) (new:bb X.prog X.w (upd H a o) h' a o):Inv X pins σ (upd H a o) { s with heap:=h',toks:=t' }:=by
 have p:H a=none:=I.hok.fresh hp;have h :∀b u,H b=some u->b∉fp:=λ b u e z=>by have:=(hf b z).1;rw [this] at e;cases e
 have g :∀b u,H b=some u->upd H a o b=some u:=λ b u e=>by rw [ak (fK e p)];exact e
 refine I.step (g':=s.gens) (d':=s.drawn) (ch:=fp) (λ b d=>⟨(hf b d).2.2.2.1,(hf b d).2.1,(hf b d).2.2.2.2.1,(hf b d).2.2.2.2.2⟩) (λ b o _ _ f e _=>k b o f e) (λ b o _ _ f e _=>⟨o.slots,k b o f e⟩)
  (λ b u _ e n=>by rw [ak (λ z=>by subst z;exact ZU (V0 e) (Nat.not_lt.mpr hp))];exact n)
  (λ b o f e=>⟨o,k b o f e⟩) (λ _ _ e=>g _ _ e) (λ _ _ _ e=>g _ _ e) (λ b y e=>⟨#[],by rw [g _ _ e];simp⟩) (λ m t=>?_) (λ b u e=>?_) I.bare
 ·obtain ⟨o,l,j,i,r⟩:=t;exact ⟨o,l,j,k _ o (λ z=>(hf _ z).2.1 rfl) i,r⟩
 ·by_cases d:b=a
  ·subst d;rw [ab] at e;cases e;exact new
  ·rw [ak d] at e;refine (I.hok b u e).stay (λ c v f q=>k c v ?_ q) (λ c q=>g _ _ q) λ c x q=>g _ _ q;rcases f with z|z
   ·rw [z];exact h b u e
   ·exact h c _ z
def Il:ei X (G5 .Add) (λ x y H Q=>∃a b ys,x=.ref a/\y=.ref b/\aG X.K H a []/\aG X.K H b ys/\Q (.ref b) H):=by intro D s σ H x y v u Q I l k h;obtain ⟨a,b,ys,rfl,rfl,A,w,q⟩:=h;cases l;cases k;obtain ⟨E,z,p,_⟩:=I.tuple A;obtain ⟨m,F,o,_⟩:=I.tuple w;cases z;obtain ⟨⟨M,r,J,n⟩,i,d,B,g⟩:=id p;obtain ⟨⟨G,C,L,t⟩,c,e,j,f⟩:=id o;simp only at d g e f;subst d g e f;exact concat_meets ⟨_,i,rfl⟩ ⟨_,c,rfl⟩ j3g seq_tuple_add S8 F8 (m8 _ _) (tuple_addW0 a b ([]:List ZF).toArray m.toArray B j r C n t (by simp)) ⟨i,c,⟨.ref b,H,I,rfl,q⟩⟩
def kg (K:c0):R2:=λ x y H Q=>∃a b xs ys,x=.ref a/\y=.ref b/\aG K H a xs/\aG K H b ys/\ys≠[]/\xs.length + ys.length<=ZE/\∀p H',af H H'->aG K H' p (xs++ys)->Q (.ref p) H'
def eN:ei X (G5 .Add) (kg X.K):=by
 intro e s σ H x y v u Q I g f h;obtain ⟨a,b,c,j,rfl,rfl,i,d,l,k,q⟩:=h;cases c with
 | nil=>exact Il e s σ H _ _ v u Q I g f ⟨a,b,j,rfl,rfl,i,d,q b H (af.refl H) d⟩
 | cons x c=>exact ux e s σ H _ _ v u Q I g f ⟨a,b,x :: c,j,rfl,rfl,i,d,by simp,k,λ z=>ZU z l,λ _ p m=>q p _ (af.upd m) (aG.of ab)⟩
def lJ {o:ZM} {to:TE} {apos cpos:ZO} (ho:PE X o to) (ha:PA X (e :: es) t)
  (hbase:M4 o "append" X.env (U3 o X.env)=U3 o X.env:=by rfl)
  (hfew:((J4 cpos (S1 (e :: es) X.env)).all (λ x=>!x.1) && (j1h cpos (U7 [] X.env)).all (λ x=>x.1.isSome)
   && decide ((e :: es).length + ([]:List m7).length + (if ([]:List m7).isEmpty then 0 else 1) < 30))=true:=by rfl)
  (hline:(apos.endLine == cpos.line)=true:=by rfl) (hs:S1 (e :: es) X.env=(false,U3 e X.env) :: S1 es X.env:=by rfl) (hplain:(J4 cpos (S1 es X.env)).any (·.1)=false:=by rfl) :
  PE X (.Call (.Attribute o "append" apos) (e :: es) [] cpos) (tD X.K "list" EY to t):=mU A6 PySem.F.slot_list_append PySem.F.type_list_append Lj ho ha hbase hfew hline hs hplain
end
def aK (L:List ZR) (H H':Hp):Prop:=∀b o,b∉L->H b=some o->H' b=some o
variable {L:List ZR}
def aK.refl:aK L H H:=λ _ _ _ h=>h
def aK.trans {H2:Hp} (a:aK L H H1) (b:aK L H1 H2):aK L H H2:=λ c o n h=>b c o n (a c o n h)
def af.keptL (s:af H H'):aK L H H':=λ b o _ h=>s b o h
def aK.set (h:l∈L):aK L H (upd H l o):=λ b u n e=>by rw [ak (λ z=>n (by rw [z];exact h))];exact e
mutual
theorem bZ.mono' {K:c0} {H H':Hp} (s :∀a xs,aG K H a xs->aG K H' a xs) :∀(d:Dt) (v:V),bZ K H d v->bZ K H' d v
 | .non,v,h=>h
 | .bl b,v,h=>h
 | .int i,v,h=>h
 | .str z,v,h=>h
 | .tup ds,v,h=>by obtain ⟨a,xs,rfl,e,r⟩:=h;exact ⟨a,xs,rfl,s _ _ e,dO.mono' s ds xs r⟩
theorem dO.mono' {K:c0} {H H':Hp} (s :∀a xs,aG K H a xs->aG K H' a xs) :∀(d:List Dt) (v:List V),dO K H d v->dO K H' d v
 | [],xs,h=>h
 | d :: ds,xs,h=>by obtain ⟨x,r,rfl,a,b⟩:=h;exact ⟨x,r,rfl,bZ.mono' s d x a,dO.mono' s ds r b⟩
end
def aG.wrote {zs:List V} (e:H l=some (.lst zs)) (h:aG K H a xs):aG K (upd H l o) a xs:=by
 rcases h with (h|⟨ob,h⟩)|h
 ·exact .inl (.inl (by rw [ak (ip h e (by intro z;cases z))];exact h))
 ·exact .inl (.inr ⟨ob,by rw [ak (ip h e (by intro z;cases z))];exact h⟩)
 ·exact .inr h
section
def JP {v:ZF} (hn:ns.length < 64)
  (hc :∀R:List ZF->A0->Prop,(∀h' tk vs,(∀b o,s.heap.get? b=some o->h'.get? b=some o)->j0e vs ns->R vs { s with heap:=h',toks:=tk })->W0 (B1 prog w) A.in1 (collect v) R E s)
  (h :∀(h1 h':ZL) (tk:Nat) (out:Array ZF) (ns':List Int) (e:Nat),(∀b o,s.heap.get? b=some o->h1.get? b=some o)->(∀b o,h1.get? b=some o->h'.get? b=some o)->h'.get? h1.objs.size=some { cls:=.type "list",data:=.seq out e }->j0e out.toList ns'->ns'.Perm ns->ns'.Pairwise (·<=·)->Q (.ref h1.objs.size) { s with heap:=h',toks:=tk }) :
  W0 (B1 prog w) A (call (.builtin "sorted") [v]) Q E s:=by
 refine u8 j43 j34 j36 (args_sorted1 _) ?_;unfold D9.«sorted»;refine j0 (m:=j5e "sorted" 1 1 _) (G0 (j0 (hc _ λ h1 tk vs j f=>?_)));have c:vs.length < 64:=by rw [f.length];exact hn
 refine j0 (Q7 ?_ (C0 (X2 c) '!'));have a:(h1.push (W2 "list" vs.toArray 0)).get? h1.objs.size=some (W2 "list" vs.toArray 0):=j1 _ rfl;refine j0 (y4 (X3 j1d ⟨_,a,rfl⟩ j0i (list_sort_tree a f c λ out ns' i g k=>⟨_,rfl,?_⟩) (j5g _)));obtain ⟨e,l⟩:=sortedHeap_at (out:=out) a;refine G0 ⟨_,rfl,h h1 _ tk out ns' e j (λ b o d=>?_) l i g k⟩;have lt:=V0 d;refine (sortedHeap_old (P1 lt) ?_).trans (B0 _ d);rw [size_push'];exact G2 lt
end
section
def Bq (ns:List Int) (H:Hp) (Q:VK):Prop:=∀(l:ZR) (ns':List Int),H l=none->ns'.Perm ns->ns'.Pairwise (·<=·)->Q (.ref l) (upd H l (.lst (ns'.map V.int)))
def Ld {Q:VK} {h1:ZL} {tk:Nat} {out:Array ZF} {ns':List Int} {e:Nat} (I:Inv X pins σ H s) (hn:ns.length < 64) (q:Bq ns H Q)
  (k1 :∀b o,s.heap.get? b=some o->h1.get? b=some o) (k2 :∀b o,h1.get? b=some o->h'.get? b=some o) (g:h'.get? h1.objs.size=some { cls:=.type "list",data:=.seq out e }) (i:j0e out.toList ns') (p:ns'.Perm ns) (r:ns'.Pairwise (·<=·)) :
  EP X pins σ Q (.ref h1.objs.size) { s with heap:=h',toks:=tk }:=by
 have a:Inv X pins σ H { s with heap:=h1 }:=I.kept (t':=s.toks) k1;refine ⟨.ref h1.objs.size,_,a.laid (t':=tk) (o:=.lst (ns'.map V.int)) k2 (o0 _) ⟨?_,out.toList,e,yZ i,by simpa using g⟩,rfl,q _ ns' (a.hok.fresh (o0 _)) p r⟩;rw [D0,p.length_eq];exact C0 (X2 hn) '!'
def xo:ck X (.builtin "sorted") (λ xs H Q=>∃a ns,xs=[.ref a]/\(aH X.K H a (ns.map V.int)\/aG X.K H a (ns.map V.int))/\ns.length < 64/\Bq ns H Q):=by
 intro B s σ H xs E Q I r h;obtain ⟨a,ns,rfl,b,v,q⟩:=h;obtain ⟨u,rfl,y⟩:=vals1 r;cases y;refine JP v (λ R w=>?_) λ D d C F G e A z g i p r=>Ld I v q A z g i p r;rcases b with b|b
 ·obtain ⟨x,c,t,l⟩:=I.list b;obtain ⟨o,j,m,n,f⟩:=t.isList;exact wpAny_collect_seq a (.inl rfl) j m f (λ d k=>w d s.toks _ k (by simpa using Fd c)) (by rw [M0,<-c.length];exact l)
 ·obtain ⟨x,c,t,l⟩:=I.tuple b;obtain ⟨o,j,m,n,f⟩:=t;exact wpAny_collect_seq a (.inr rfl) j m f (λ d k=>w d s.toks _ k (by simpa using Fd c)) (by rw [M0,<-c.length];exact l)
end
def bz {c A:Prop} [Decidable c] (hc:c) (h:A):if c then A else B:=by rw [ZZ hc];exact h
def bH {c A:Prop} [Decidable c] (hc:¬ c) (h:B):if c then A else B:=by rw [Z_ hc];exact h
def sf (i:Int) (ns:List Int):md (.int i) (ns.map V.int)=decide (i∈ns):=by
 unfold md;rw [j55,Bool.eq_iff_iff,Z8,decide_eq_true_eq];constructor
 ·rintro ⟨x,hx,e⟩;have e:(x == i)=true:=e;rw [beq_iff_eq] at e;exact e ▸ hx
 ·intro h;exact ⟨i,h,by show (i == i)=true;simp⟩
def sd (ns:List Int):(ns.map V.int).all fM=true:=by rw [c9];intro x a;obtain ⟨i,_,rfl⟩:=List.mem_map.mp a;rfl
def RG {names:List (ZQ×z6)} {n:ZQ} {Q:ZQ×z6->Prop} (h:(names.all λ y=>y.2 != E2 || y.1 == n)=true) (q :∀k,Q (n,k)) :∀y∈names,y.2=E2->Q y:=λ y c e=>by
 have:=List.all_eq_true.mp h y c;rw [e] at this;have:(y.1 == n)=true:=by simpa using this
 obtain ⟨a,b⟩:=y;rw [beq_iff_eq] at this;have:a=n:=this;subst this;exact q b
noncomputable def nV (P:ZI) (w:X0) (base:ZL):nK:=λ outer H s E e s'=>∃(ea:ZR) (cls a0:ZF) (B:ZL) (H':Hp),e=.ref ea/\s'.os=s.os/\E9 s'.gens/\Un (je outer) [] H H' s.heap s'.heap/\fN P w H' s'.heap/\H' ea=none/\
 base.StaysIn B/\Heap.FlyingW B outer ea cls a0 s'.heap/\(∀b o,s'.heap.get? b=some o->b∉je outer->((∃u,H' b=some u)\/∃u,s.heap.get? b=some u)->B.get? b=some o)/\E cls none H'
def me:fU (nV X.prog X.w X.base) X E0:=by intro _ _ _ _ _ _ _ h;obtain ⟨_,_,_,_,_,_,_,_,_,_,_,_,_,_,z⟩:=h;exact z.elim
def PS.nox {t:TS} (h:PS X.nox st t):PS X st t:=λ a s σ H D I b=>L3 (h a s σ H D (I.wish _) b) (λ _ _ q=>q.unwish) λ _ _ z=>O3 z
section
variable {base:ZL} {cd:ZF} {outer:List Env} {E:XK}
def cA.okE {k:Nat} (F:cA K x qual st f fd) (S:ay N ps (cg st)) (len :∀vs H Q E,sp vs H Q E->vs.length=ps.length)
  (hbody :∀(cdv:ZF) (A:j2) (outer:List Env) (s:A0) (H:Hp) (vs:List V) (Q:VK) (E:XK),bL k (A.deeper (j09 qual (cg st) s.heap.objs.size f cdv))->sp vs H Q E->
   ∃t,jz (jH (nV P w base) P w K mg base N qual (cg st) f cdv A outer s H E) (qM st) t/\t { nx:=λ _ H'=>Q .non H',rt:=Q } (start N vs) H):fH P w K mg base (nV P w base) (k + 1) f fd ps sp:=by
 obtain ⟨m,i,kV,e,j,h,cdv,l,g,rfl,d,b⟩:=F.ex;exact oi d b S len λ A outer s H vs Q E a c=>hbody cdv A outer s H vs Q E a c
end
structure Aq (P:ZI) (w:X0) (K:c0) (mg:ZQ->Option ZF) (base:ZL) (x:ZQ) (ps:List ZQ) (k:Nat) (sp:Sp):Prop where
 ex :∃f fd,fH P w K mg base (nV P w base) k f fd ps sp/\mg x=some (.ref f)/\V3 K (.ref f)=true/\Binds K fd ps []
open PySem.W PySem.Calls PySem.Builtin PySem.Builtin.ObjectAttr PySem.Builtin.Getset_descriptor
noncomputable def aL (σ:St) (fr:List (Nat×ZQ)) (us:List (Option V)):St:=us++fr.map λ p=>(σ[p.1]?).join
def cH (wi:TI) (n:Nat) (fr:List (Nat×ZQ)) (g:TG) (tc:TT) (te:TE):TE:=λ σ H Q=>wi σ H λ J H1=>∃W:Nat->Nat->List V->Hp->Prop,(∃m,W 0 m [] H1)/\∀i m ys H,W i m ys H->
 (J.stop i H/\ys.length<=ZE/\∀p,H p=none->Q (.ref p) (upd H p (.lst ys)))\/
 (J.go i H/\ys.length<=ZE/\∀v H',J.yld i H v H'->g v (aL σ fr (A2 n none)) H' λ σ6 H6=>∃us,us.length=n/\σ6=aL σ fr us/\tc (aL σ fr us) H6 λ b H2=>if b=true then te (aL σ fr us) H2 λ y H3=>∃m',m' < m/\W (i + 1) m' (ys++[y]) H3 else∃m',m' < m/\W (i + 1) m' ys H2)
variable {elt iter tg:ZM} {fr:List (Nat×ZQ)} {g:TG} {ifs:List ZM} {tc:TT} {te:TE} {wi:TI}
section
def JI {cl:List (ZQ×ZR)} {C:ZR} {s₂:A0} {H₂:Hp} {px:ZO} (i:Nat) (hN:N.Nodup) (hi:N[i]? = some x) (hx:scope.names.lookup x=some .local):PG (cB X scope cl N C s₂ H₂ fp) (.Name x px) (bu i):=
 fm hN hi (.inl (lookup_relabel_local hx)) (.inr (lookup_relabel_local hx))
theorem Hj {xs:List ZQ} {use:Option (ZF->ZN Unit)} {QQ:ZF->A0->Prop} {Q:VK} {pp:ZO} (hcalm:X.calm=true) (hi:PI X tg iter wi)
  (hfr :∀p∈fr,X.N[p.1]? = some p.2/\(X.env.kindOf p.2=some .cell\/X.env.kindOf p.2=some .free))
  (hfree :∀y∈scope.names,y.2=E2->X.env.kindOf y.1=some .cell\/X.env.kindOf y.1=some .free)
  (hfs :∀p∈fr,(p.2,E2)∈scope.names/\((A9 scope X.env).names.lookup p.2=some .cell\/(A9 scope X.env).names.lookup p.2=some .free))
  (hcell :∀y∈scope.names,y.2≠NameKind.cell) (hkind:scope.kind=.function) (hnames :∀y∈scope.names,y.2=NameKind.local->scope.names.lookup y.1=some .local)
  (hg :∀cl C s₂ H₂ fp,PG (cB X scope cl (xs++fr.map (·.2)) C s₂ H₂ fp) tg g)
  (ht :∀cl C s₂ H₂ fp,PF (cB X scope cl (xs++fr.map (·.2)) C s₂ H₂ fp) ifs tc) (he :∀cl C s₂ H₂ fp,PE (cB X scope cl (xs++fr.map (·.2)) C s₂ H₂ fp) elt te)
  (hs :∀x,c6 iter X.env x=Y1 x) (I:Inv X pins σ H s) (h:cH wi xs.length fr g tc te σ H Q)
  (hend :∀(D:ZR) (s4:A0) (H4:Hp),Inv X pins σ H4 s4->(∃m,s4.heap.Ns (D + 1) m)->H4 (D + 1)=none->D + 1≠X.env.locals->X.s₀.heap.objs.size<=D + 1->(D + 1∉X.fs/\(∀x c,X.env.cells.lookup x=some c->c≠D + 1)/\∀p∈X.pn++pins,p.1≠D + 1)->Q (.ref D) H4->compPost (B1 X.prog X.w) X.A X.xe use QQ (.ref D) (D + 1) (.ok .next) s4) :
  W0 (B1 X.prog X.w) X.A (comprehension (.ListComp elt [⟨tg,iter,ifs,0⟩] scope pos) scope X.env pp (newList []) false (firstIter [⟨tg,iter,ifs,0⟩] X.env) use) QQ X.xe s:=by
 obtain ⟨cl,d8,U,b2⟩:=Mc (scope:=scope) (env:=X.env) λ y R hk=>I.ok.has y.1 (hfree y R hk);refine wpAny_comprehension_free (use:=use) rfl hs d8 hkind hnames (ba (hi pins s σ H _ I h) λ xv s₁ h₁=>ba h₁ λ g2 s₂ h₂=>?_);obtain ⟨it,fp,tn,J,L,e,f,T,b1,M,W,⟨m0,w0⟩,f5⟩:=h₂;subst e
 -- the list that is filled,the block's names
 refine M3 (wpAny_newFunctionEnv hcell (by intro y R;simp at R) (λ h₁ a3 a2=>?_) hkind);dsimp only at a3 a2⊢;generalize hD:s₂.heap.objs.size=D at a3 a2⊢;generalize hG:s₂.heap.push { cls:=.type "list",dict:=none,data:=.seq ([]:List ZF).toArray }=G at a3 a2⊢;have hC:G.objs.size=D + 1:=by rw [<-hG,G4,hD]
 generalize hCC:G.objs.size=C at a3 a2 hC⊢;subst hC;have b0 :∀b∈fp,b < D:=λ b a=>by obtain ⟨o,e,_⟩:=T.obj _ _ b1 b a;rw [<-hD];exact V0 e
 have a1 :∀b o,s₂.heap.get? b=some o->h₁.get? b=some o:=λ b o e=>a2.extBut b o (P1 (G2 (by rw [<-hD];exact V0 e))) (B0 _ (hG ▸ B0 _ e));have e8:G.get? D=some { cls:=.type "list",dict:=none,data:=.seq ([]:List ZF).toArray }:=by rw [<-hG,<-hD];exact j1 _ rfl
 have d6:h₁.PlainList D #[]:=⟨0,a2.extBut _ _ (P1 (i3 D)) (B0 _ e8)⟩
 have f6 :∀y c,cl.lookup y=some c->c < D:=λ y c e=>by obtain ⟨v,q⟩:=f.cell y c (U y c e);rw [<-hD];exact q.lt
 have d7 :∀b∈je X.stack,b < D:=λ b a=>by
  rcases List.mem_cons.mp (f.stkSub b a) with e|a
  ·rw [e,<-hD];exact f.lt
  ·rw [<-hD];exact Nat.lt_of_not_le λ z=>f.nofs z a
 have d1 :∀b∈fp,b∉je X.stack:=λ b a d3=>by
  rcases List.mem_cons.mp (f.stkSub b d3) with e|z
  ·exact (M b a).2.1 e
  ·exact (M b a).2.2.1 z
 generalize hX':cB X scope cl (xs++fr.map (·.2)) (D + 1) s₂ L fp=X';have e4:X'.Ok:=by
  subst hX';refine ⟨f.ok.mod,hkind,f.ok.glob,f.ok.blt,(by show s₂.heap.objs.size<=D + 1;lia),λ y z c S O=>f.ok.inj y z c (U _ _ S) (U _ _ O),λ y R=>?_,(λ _ _ z=>Bool.noConfusion z),f.ok.hd,f.ok.frames,.inl rfl,λ b a=>⟨?_,λ y c e=>?_⟩,λ b o e=>f.bs b o e,?_,λ b o e a=>?_,d1,f.env0.funs,f.stkFree⟩
  ·rcases R with R|R
   ·exact b2 y (GA hcell R (.inl rfl))
   ·exact b2 y (GA hcell R (.inr rfl))
  ·exact P1 (G2 (b0 b a))
  ·exact (M b a).2.2.2.2.1 y c (U y c e)
  ·exact C0 f.ok.bsz f.sz
  ·rcases (M b a).2.2.2.1 with z|z
   ·exact f.ok.noex b o e z
   ·exact ZU (O1 (V0 (f.ok.bs b o e).1) z) (Y3 _)
 have Z:X'.env.locals=D + 1:=by subst hX';rfl
 have a4:X'.env.cells=cl:=by subst hX';rfl
 have a6:X'.fs=je X.stack:=by subst hX';rfl
 have b6:X'.pn=[]:=by subst hX';rfl
 have a5:X'.s₀=s₂:=by subst hX';rfl
 have c3:X'.H₀=L:=by subst hX';rfl
 have b8:X'.ex=fp:=by subst hX';rfl
 have d2:X'.N=xs++fr.map (·.2):=by subst hX';rfl
 have c1:X'.A=X.A:=by subst hX';rfl
 have E:X'.prog=X.prog/\X'.w=X.w/\X'.K=X.K/\X'.calm=true:=by subst hX';exact ⟨rfl,rfl,rfl,hcalm⟩
 have b5:X'.xe=λ _ _=>False:=by subst hX';rfl
 have c2:X'.env=compEnvC scope cl (D + 1) X.env:=by subst hX';rfl
 have f9:PF X' ifs tc:=hX' ▸ ht cl (D + 1) s₂ L fp;have f3:PE X' elt te:=hX' ▸ he cl (D + 1) s₂ L fp;have d5:PG X' tg g:=hX' ▸ hg cl (D + 1) s₂ L fp;have fresh :∀b,D<=b->L b=none:=λ b a=>f.hok.fresh (by rw [hD];exact a);have start :∀t,Inv X' [] (aL σ fr (A2 xs.length none)) L { s₂ with heap:=h₁,toks:=t }:=λ t=>by
  refine ⟨e4,by rw [a5],f.bare,?_,⟨_,by rw [Z];exact a3,λ i y v S O e3=>?_⟩,λ y c e=>?_,by rw [Z];exact fresh _ (S3 _),λ y c e=>?_,λ p B=>?_,?_,?_⟩
  ·rw [a6,b8,c3,a5];exact Un.kept a1
  ·rw [d2] at S;by_cases a0:i < xs.length
   ·exfalso;unfold aL at O;rw [F2 (by rw [i4];exact a0),Y8,ZZ a0] at O;cases O
   ·have a0:xs.length<=i:=j2g a0;rw [X1 a0,Z0] at S;unfold aL at O;rw [X1 (by rw [i4];exact a0),i4,Z0] at O;generalize i - xs.length=i at S O;cases ej:fr[i]? with
    | none=>rw [ej] at S;cases S
    | some p=>
     rw [ej] at S;obtain rfl:p.2=y:=Q1 S;have a8:(σ[p.1]?).join=some v:=by rw [ej] at O;exact Q1 O
     have f7:σ[p.1]? = some (some v):=by
      cases q:σ[p.1]? with
      | none=>rw [q] at a8;cases a8
      | some z=>rw [q] at a8;exact ZT some a8
     have B:=S0 ej;obtain ⟨m,hn,hl⟩:=f.loc;obtain ⟨u,r,l⟩:=hl p.1 p.2 v (hfr p B).1 f7 (by rcases (hfr p B).2 with z|z;exact .inr (.inl z);exact .inr (.inr z));refine ⟨u,r,.inr ⟨?_,?_⟩⟩
     ·rw [c2];exact (hfs p B).2
     ·rcases l with ⟨z,_⟩|⟨_,c,ec,q⟩
      ·exfalso;rcases (hfr p B).2 with z'|z'<;>(rw [z] at z';cases z')
      ·obtain ⟨c',c5⟩:=b2 p.2 (hfs p B).1;have:=U _ _ c5;rw [ec] at this;cases this;obtain ⟨o,ho,hd⟩:=q;exact ⟨c,by rw [a4];exact c5,o,a1 _ _ ho,hd⟩
  ·rw [a4] at e;obtain ⟨v,o,ho,hd⟩:=f.cell y c (U y c e);exact ⟨v,o,a1 _ _ ho,hd⟩
  ·rw [a4] at e;exact f.freeC y c (U y c e)
  ·rw [b6] at B;exact nomatch B
  ·rw [E.1,E.2.1];exact f.hok.kept a1
  ·rw [d2];unfold aL;simp
 have FP :∀{pins':List (ZR×ZP)} {H':Hp},(∀b∈fp,H' b=none)->(∀p∈pins',p.1=D)->∀b∈fp,fG X' pins' H' b:=λ hn B b a=>by
  refine ⟨hn b a,?_,?_,.inl (by rw [b8];exact a),λ y c e=>?_,λ p c9=>?_⟩
  ·rw [Z];exact P1 (G2 (b0 b a))
  ·rw [a6];exact d1 b a
  ·rw [a4] at e;exact (M b a).2.2.2.2.1 y c (U y c e)
  ·rw [b6] at c9;rw [B p c9];exact E4 (b0 b a)
 -- the turns
 have loop :∀s₃:A0,s₃={ s₂ with heap:=h₁,toks:=s₂.toks + ([]:List (ZQ×ZF)).length }->
   j21 (B1 X.prog X.w) X.A (.compLoop (.ListComp elt [⟨tg,iter,ifs,0⟩] scope pos) 0 (.ref it) (.ref D) (compEnvC scope cl (D + 1) X.env))
    (compPost (B1 X.prog X.w) X.A X.xe use QQ (.ref D) (D + 1)) s₃:=by
  rintro s₃ rfl;rw [<-c2,<-E.1,<-E.2.1,<-c1];refine JR (λ k s'=>∃i ys its H',Inv X' [] (aL σ fr (A2 xs.length none)) H' s'/\tn i s'.heap/\(∀b∈fp,H' b=none)/\s'.heap.PlainList D its.toArray/\aI ys its/\H' D=none/\W i k ys H') ?_ m0
   ⟨0,[],[],L,start _,T.keep _ _ _ b1 λ b a o e=>a1 b o e,λ b a=>(M b a).1,d6,.nil,fresh _ (o0 _),w0⟩
  rintro n s3 ⟨i,ys,its,H3,I3,st3,fr3,ac3,rv3,hD3,w3⟩;obtain ⟨na,e5⟩:=id ac3;have c7:Inv X' [(D,{ cls:=.type "list",data:=.seq its.toArray na })] (aL σ fr (A2 xs.length none)) H3 s3:=I3.pins_of λ p B=>by rw [List.mem_singleton] at B;subst B;refine ⟨e5,hD3,by rw [Z];exact P1 (i3 D),by rw [a6];exact λ z=>Y3 _ (d7 D z),λ v z=>nomatch z⟩
  have hT:=T;rw [<-E.1,<-E.2.1,<-E.2.2.1] at hT;rcases f5 i n ys H3 w3 with ⟨f8,b9,qn⟩|⟨go,b9,step⟩
  ·refine ba (hT.done X' rfl rfl rfl E.2.2.2 i _ s3 _ H3 _ c7 (FP fr3 (by intro p B;rw [List.mem_singleton.mp B])) st3 f8) λ r s4 ⟨hr,I4⟩=>?_;subst hr;obtain ⟨m4,g1,_⟩:=id I4.loc;obtain ⟨Y,c4⟩ :∃Y,Y=s4.heap:=⟨_,rfl⟩
   have d0:R6 (D + 1) s4.heap Y:=by rw [c4];exact ⟨rfl,λ _ _=>rfl⟩
   have f0:D≠D + 1:=P1 (i3 D);have d4:=(I4.pin (D,_) (F1 _ R0))
   have g0:Y.get? D=some { cls:=.type "list",data:=.seq its.toArray na }:=(d0.2 D f0).trans d4.1;have un:Un (je X.stack) fp L H3 s₂.heap s4.heap:=by have:=I4.base;rw [a6,b8,c3,a5] at this;exact this
   have kp :∀b o,b≠D + 1->s4.heap.get? b=some o->Y.get? b=some o:=λ b o a e=>(d0.2 b a).trans e;have a7 :∀b o,s₂.heap.get? b=some o->b≠D + 1/\b≠D:=λ b o e=>by have:=V0 e;rw [hD] at this;exact ⟨P1 (G2 this),P1 this⟩
   have e0:Un (je X.stack) fp L (upd H3 D (.lst ys)) s₂.heap Y:=by
    refine ⟨λ b o e n a hx=>kp b o (a7 b o e).1 (un.keep b o e n a hx),λ b o e n a hx=>?_,λ b o e n hx=>by rw [ak (a7 b o e).2];exact un.free b o e n hx,λ b o e hx=>?_,λ b xs e=>?_,λ b o u e=>?_,λ b ps e=>?_⟩
    ·obtain ⟨sl,z⟩:=un.slot b o e n a hx;exact ⟨sl,kp _ _ (a7 b o e).1 z⟩
    ·obtain ⟨o',z⟩:=un.there b o e hx;exact ⟨o',kp _ _ (a7 b o e).1 z⟩
    ·rw [ak (fK e (fresh D (o0 _)))];exact un.tups b xs e
    ·rw [ak (fK e (fresh D (o0 _)))];exact un.frzs b o u e
    ·rw [ak (fK e (fresh D (o0 _)))];exact un.tbls b ps e
   have b4:H3 (D + 1)=none:=by have:=I4.free;rw [Z] at this;exact this
   have d9:fN X.prog X.w (upd H3 D (.lst ys)) Y:=λ b u e=>by
    by_cases a:b=D
    ·subst a;rw [ab] at e;cases e;exact ⟨b9,its,na,rv3,g0⟩
    ·rw [ak a] at e;have z:=I4.hok b u e;rw [E.1,E.2.1] at z;refine z.stay (λ c v hc q=>kp c v ?_ q) (λ c q=>by rw [ak (fK q hD3)];exact q) λ c xs q=>by rw [ak (fK q hD3)];exact q
     rintro rfl;rcases hc with rfl|hc
     ·rw [b4] at e;cases e
     ·rw [b4] at hc;cases hc
   subst c4;have I5:Inv X pins σ (upd H3 D (.lst ys)) s4:=f.call' (s':=s4) (ch:=fp) (by have:=I4.os;rw [a5] at this;exact this) e0 d9 I4.bare (λ b a=>⟨(M b a).2.2.2.1,(M b a).2.1,(M b a).2.2.2.2.1,(M b a).2.2.2.2.2⟩);show compPost (B1 X'.prog X'.w) X'.A X.xe use QQ (.ref D) (D + 1) (.ok .next) s4;rw [E.1,E.2.1,c1];refine hend D s4 _ I5 ⟨m4,Z ▸ g1⟩ ?_ ?_ ?_ ?_ (qn D hD3)
   ·rw [ak (E4 (i3 D))];exact b4
   ·exact E4 (G2 (by rw [<-hD];exact f.lt))
   ·exact C0 f.sz (by rw [hD];exact S3 D)
   ·refine ⟨λ z=>f.nofs (by rw [hD];exact S3 D) z,λ y c e=>?_,λ p B=>?_⟩
    ·obtain ⟨v,q⟩:=f.cell y c e;exact P1 (G2 (by rw [<-hD];exact q.lt))
    ·exact P1 (G2 (by rw [<-hD];exact V0 (f.pin p B).1))
  ·refine ba (hT.item X' rfl rfl rfl E.2.2.2 i _ s3 _ H3 _ c7 (FP fr3 (by intro p B;rw [List.mem_singleton.mp B])) st3 go) λ r s4 ⟨u,hr,h4⟩=>?_;subst hr;refine ba h4 λ _ s5 zz=>?_;obtain ⟨v,H5,I5,r5,y5,st5,fr5⟩:=zz;have f4:=I5.pinned (FP fr5 (by intro p B;rw [List.mem_singleton.mp B])) (T.obj _ _ st5);have g5:=d5 _ s5 (aL σ fr (A2 xs.length none)) H5 v u _ f4 r5 (step v H5 y5);rw [b5] at g5;refine ba g5 λ _ s6 zz=>?_;obtain ⟨σ6,H6,I6,us,hus,e6,q6⟩:=zz;subst e6;have t6:=f9 _ s6 _ H6 _ I6 q6;rw [b5] at t6;refine ba t6 λ ok s7 ⟨H7,I7,q7⟩=>?_;have c8 :∀{H8:Hp} {F:A0} {ys':List V} {its':List ZF} {pl:List (ZR×ZP)},Inv X' (pl++fB fp s5.heap) (aL σ fr us) H8 F->F.heap.PlainList D its'.toArray->aI ys' its'->H8 D=none->(∃m',m' < n/\W (i + 1) m' ys' H8)->
     ∃m,m < n/\∃i ys its H',Inv X' [] (aL σ fr (A2 xs.length none)) H' F/\tn i F.heap/\(∀b∈fp,H' b=none)/\F.heap.PlainList D its.toArray/\aI ys its/\H' D=none/\W i m ys H':=λ {H8 F ys' its' pl} P b3 rv8 a9 ⟨m',hm,w8⟩=>by
    refine ⟨m',hm,i + 1,ys',its',H8,(P.pins_of (pins':=[]) (λ p B=>ZU B u0)).weak (by unfold aL;simp [hus]) ?_,T.keep _ _ _ st5 λ b a o e=>(P.pin (b,o) (F1 _ (F1 _ (sN a e)))).1,λ b a=>?_,b3,rv8,a9,w8⟩
    ·intro j z e;unfold aL at e⊢;by_cases hj:j < xs.length
     ·rw [F2 (by rw [i4];exact hj),Y8,ZZ hj] at e;cases e
     ·have hj:xs.length<=j:=j2g hj;rw [X1 (by rw [i4];exact hj),i4] at e;rw [X1 (by rw [hus];exact hj),hus];exact e
    ·obtain ⟨o,e,d⟩:=T.obj _ _ st5 b a;exact (P.pin (b,o) (F1 _ (F1 _ (sN a e)))).2.1
   have b7 :∀{H8:Hp} {F:A0} {σ8:St},Inv X' ([(D,{ cls:=.type "list",data:=.seq its.toArray na })]++fB fp s5.heap) σ8 H8 F->F.heap.PlainList D its.toArray/\H8 D=none:=λ P=>
    have z:=P.pin (D,_) (F1 _ (A7 _ R0))
    ⟨⟨na,z.1⟩,z.2.1⟩
   cases ok with
   | false=>rw [Z_ N0] at q7⊢;exact c8 I7 (b7 I7).1 rv3 (b7 I7).2 q7
   | true=>
    rw [ZZ rfl] at q7⊢;have t7:=f3 _ s7 _ H7 _ I7 q7;rw [b5] at t7;refine ba t7 λ y F zz=>?_;obtain ⟨vy,H8,P,r8,q8⟩:=zz;obtain ⟨b3,a9⟩:=b7 P;refine wpAny_list_append_plain (hsz:=by have:=rv3.length;rw [M0,<-this];exact b9) b3 λ h9 c0 e7=>?_;have I9:Inv X' ([]++fB fp s5.heap) (aL σ fr us) H8 F:=P.pins_of λ p B=>(P.pin p (F1 _ (F1 _ B)))
    have f1:Inv X' ([]++fB fp s5.heap) (aL σ fr us) H8 { F with heap:=h9 }:=by
     refine I9.turned (t':=F.toks) (it:=D) (λ b o a e=>(e7.2 b a).trans e) a9 (by rw [Z];exact P1 (i3 D)) (.inr (by rw [a5,hD];exact o0 _)) (λ y' c e=>?_) λ p B=>?_
     ·rw [a4] at e;exact P1 (f6 y' c e)
     ·rw [b6] at B;exact P1 (b0 _ (Fg B).1)
    have e9:its.toArray.push y=(its++[y]).toArray:=by simp
    rw [e9] at c0;exact c8 f1 c0 (rv3.snoc r8) a9 q8
 exact codeAny_compStart_list (loop _ rfl) (T.self _ 0 _ _ _ (T.keep _ _ _ b1 λ b a o e=>a1 b o e) (loop _ rfl))
def CS {xs:List ZQ} (hcalm:X.calm=true) (hi:PI X tg iter wi)
  (hfr :∀p∈fr,X.N[p.1]? = some p.2/\(X.env.kindOf p.2=some .cell\/X.env.kindOf p.2=some .free))
  (hfree :∀y∈scope.names,y.2=E2->X.env.kindOf y.1=some .cell\/X.env.kindOf y.1=some .free)
  (hfs :∀p∈fr,(p.2,E2)∈scope.names/\((A9 scope X.env).names.lookup p.2=some .cell\/(A9 scope X.env).names.lookup p.2=some .free))
  (hcell :∀y∈scope.names,y.2≠NameKind.cell) (hkind:scope.kind=.function) (hnames :∀y∈scope.names,y.2=NameKind.local->scope.names.lookup y.1=some .local)
  (hg :∀cl C s₂ H₂ fp,PG (cB X scope cl (xs++fr.map (·.2)) C s₂ H₂ fp) tg g)
  (ht :∀cl C s₂ H₂ fp,PF (cB X scope cl (xs++fr.map (·.2)) C s₂ H₂ fp) ifs tc) (he :∀cl C s₂ H₂ fp,PE (cB X scope cl (xs++fr.map (·.2)) C s₂ H₂ fp) elt te)
  (hs :∀x,c6 iter X.env x=Y1 x:=by intro _;rfl):PE X (.ListComp elt [⟨tg,iter,ifs,0⟩] scope pos) (cH wi xs.length fr g tc te):=by
 intro r s σ H Q I h;rw [eval_ListComp];refine Hj hcalm hi hfr hfree hfs hcell hkind hnames hg ht he hs I h λ D f k j a n d i ⟨c,hc,hp⟩ q=>?_;obtain ⟨m,a⟩:=a;exact ⟨m,a,λ t l=>⟨.ref D,k,j.turned (t':=f.toks) (it:=D + 1) (λ b o c e=>(l.2 b c).trans e) n d (.inr i) hc hp,rfl,q⟩⟩
def LS {xs:List ZQ} {py spos:ZO} (hNy:X.N.Nodup) (hiy:X.N[i]? = some y) (hy:Loc X.env.scope y) (hcalm:X.calm=true) (hi:PI X tg iter wi)
  (hfr :∀p∈fr,X.N[p.1]? = some p.2/\(X.env.kindOf p.2=some .cell\/X.env.kindOf p.2=some .free))
  (hfree :∀y∈scope.names,y.2=E2->X.env.kindOf y.1=some .cell\/X.env.kindOf y.1=some .free)
  (hfs :∀p∈fr,(p.2,E2)∈scope.names/\((A9 scope X.env).names.lookup p.2=some .cell\/(A9 scope X.env).names.lookup p.2=some .free))
  (hcell :∀y∈scope.names,y.2≠NameKind.cell) (hkind:scope.kind=.function) (hnames :∀y∈scope.names,y.2=NameKind.local->scope.names.lookup y.1=some .local)
  (hg :∀cl C s₂ H₂ fp,PG (cB X scope cl (xs++fr.map (·.2)) C s₂ H₂ fp) tg g)
  (ht :∀cl C s₂ H₂ fp,PF (cB X scope cl (xs++fr.map (·.2)) C s₂ H₂ fp) ifs tc) (he :∀cl C s₂ H₂ fp,PE (cB X scope cl (xs++fr.map (·.2)) C s₂ H₂ fp) elt te)
  (hs :∀x,c6 iter X.env x=Y1 x:=by intro _;rfl) (hw:M7 (.ListComp elt [⟨tg,iter,ifs,0⟩] scope pos) (some (.Name y py)) spos.line X.env=Y1 true:=by rfl) (hf:X.fn y=true\/X.env.scope.names.lookup y=some .local:=by first|exact .inl rfl|exact .inr rfl|assumption) :
  PS X (.Assign [.Name y py] (.ListComp elt [⟨tg,iter,ifs,0⟩] scope pos) spos) (jF (cH wi xs.length fr g tc te) (bu i)):=by
 intro k s σ H D I h;rw [exec_Assign_Name_used y py _ spos hw];refine j0 (wpAny_standAt (j0 ?_));show W0 _ _ (do let _ <-comprehension (.ListComp elt [⟨tg,iter,ifs,0⟩] scope pos) scope X.env (firstIterPos [⟨tg,iter,ifs,0⟩] pos) (newList []) (firstAsync [⟨tg,iter,ifs,0⟩]) (firstIter [⟨tg,iter,ifs,0⟩] X.env) (some (assign (.Name y py) X.env));Y1 ()) _ _ _;refine j0 (Hj hcalm hi hfr hfree hfs hcell hkind hnames hg ht he hs I h λ A l t n c K j L ⟨d,hc,hp⟩ q=>?_);obtain ⟨m,c⟩:=c;obtain ⟨o,J,F,B,f,E,O⟩:=c;have w:Inv X ((A + 1,o) :: k) σ t l:=n.pins_of λ p a=>by
  rcases List.mem_cons.mp a with rfl|a
  ·exact ⟨B,K,j,d,λ v z=>by rw [f] at z;cases z⟩
  ·exact n.pin p (F1 _ a)
 refine ba (fm (pos:=py) hNy hiy hy hf _ l σ t (.ref A) (.ref A) D.nx w rfl q) λ _ u zz=>?_;obtain ⟨σ5,H5,I6,q6⟩:=zz;have r:=I6.pin (A + 1,o) (F1 _ R0);have G:Inv X k σ5 H5 u:=I6.pins_of λ p a=>I6.pin p (F1 _ (Y0 _ a));refine ⟨m,⟨o,J,F,r.1,f,E,O⟩,λ P M=>?_⟩;exact G0 (G0 ⟨σ5,H5,G.turned (t':=u.toks) (it:=A + 1) (λ b o d e=>(M.2 b d).trans e) r.2.1 j (.inr L) hc hp,q6⟩)
end
variable {D:Ends}
def Ai {t rest:TS} (R:St->Hp->Prop) (hr :∀σ1 H1,R σ1 H1->rest D σ1 H1) (h:(∀σ1 H1,R σ1 H1->rest D σ1 H1)->t { D with nx:=rest D } σ H):gD t rest D σ H:=h hr
def gC {rest:TS} (h:te σ H λ x H1=>g x σ H1 (rest D)):gD (jF te g) rest D σ H:=h
structure Runs (J:It) (H1:Hp) (n:Nat) (Item:Nat->V->Hp->Prop):Prop where
 go :∀i,i < n->∀H,af H1 H->J.go i H
 stop :∀H,af H1 H->J.stop n H
 item :∀i,i < n->∀H v H',af H1 H->J.yld i H v H'->af H H'/\Item i v H'
def xU (p:Nat->Bool) (n:Nat):(L1 (n + 1)).filter p=(L1 n).filter p++(if p n=true then [n] else []):=by rw [O9,c8,z5];cases p n<;>rfl
inductive av {α β:Type} (R:α->β->Prop):List α->List β->Prop
 | nil:av R [] []
 | cons {a:α} {b:β} {xs:List α} {ys:List β}:R a b->av R xs ys->av R (a :: xs) (b :: ys)
theorem BW {α β:Type} {R:α->β->Prop} :∀{xs:List α} {ys:List β} {x:α} {y:β},av R xs ys->R x y->av R (xs++[x]) (ys++[y])
 | [],_,x,y,.nil,h=>.cons h .nil
 | _ :: _,_,x,y,.cons a r,h=>.cons a (BW r h)
theorem bG {α β:Type} {R S:α->β->Prop} (h :∀a b,R a b->S a b) :∀{xs:List α} {ys:List β},av R xs ys->av S xs ys
 | [],_,.nil=>.nil
 | _ :: _,_,.cons a r=>.cons (h _ _ a) (bG h r)
theorem cD {α β:Type} {R:α->β->Prop} :∀{xs:List α} {ys:List β},av R xs ys->ys.length=xs.length
 | [],_,.nil=>rfl
 | _ :: _,_,.cons _ r=>ZT (· + 1) (cD r)
theorem yT {α β:Type} {f:α->β} :∀{xs:List α} {ys:List β},av (λ x y=>y=f x) xs ys->ys=xs.map f
 | [],_,.nil=>rfl
 | _ :: _,_,.cons a r=>by rw [G1,yT r,a]
variable {J:It} {m:Nat}
theorem Ng {Item:Nat->V->Hp->Prop} {Q:VK} (p:Nat->Bool) (R:Nat->V->Hp->Prop) (hR :∀i y H H',af H H'->R i y H->R i y H') (r:Runs J H1 n Item) (hn:n<=ZE)
  (body :∀i,i < n->∀v H,af H1 H->Item i v H->∀(KT:VK) (KF:Hp->Prop),(p i=true->∀y H',af H H'->R i y H'->KT y H')->(p i=false->∀H',af H H'->KF H')->
   g v (aL σ fr (A2 m none)) H λ σ6 H6=>∃us,us.length=m/\σ6=aL σ fr us/\tc (aL σ fr us) H6 λ b H2=>if b=true then te (aL σ fr us) H2 KT else KF H2)
  (hQ :∀l H' ys,af H1 H'->H' l=none->av (λ i y=>R i y H') ((L1 n).filter p) ys->Q (.ref l) (upd H' l (.lst ys))) :
  ∃W:Nat->Nat->List V->Hp->Prop,(∃m,W 0 m [] H1)/\∀i k ys H,W i k ys H->
   (J.stop i H/\ys.length<=ZE/\∀p,H p=none->Q (.ref p) (upd H p (.lst ys)))\/
   (J.go i H/\ys.length<=ZE/\∀v H',J.yld i H v H'->g v (aL σ fr (A2 m none)) H' λ σ6 H6=>∃us,us.length=m/\σ6=aL σ fr us/\tc (aL σ fr us) H6 λ b H2=>if b=true then te (aL σ fr us) H2 λ y H3=>∃m',m' < k/\W (i + 1) m' (ys++[y]) H3 else∃m',m' < k/\W (i + 1) m' ys H2):=by
 refine ⟨λ i k ys H'=>k=n - i/\i<=n/\af H1 H'/\av (λ i y=>R i y H') ((L1 i).filter p) ys,⟨n,by simp,J1 _,af.refl H1,.nil⟩,?_⟩;rintro i k ys H' ⟨rfl,hi,sm,fa⟩;have h:ys.length<=ZE:=by
  rw [cD fa];have:=K3 p (L1 i);rw [B2] at this
  lia
 by_cases hlt:i < n
 ·refine .inr ⟨r.go i hlt H' sm,h,λ v H2 y=>?_⟩;obtain ⟨d,q⟩:=r.item i hlt H' v H2 sm y;refine body i hlt v H2 (sm.trans d) q _ _ (λ f y H3 c j=>⟨n - (i + 1),by lia,rfl,hlt,(sm.trans d).trans c,?_⟩) (λ f H3 c=>⟨n - (i + 1),by lia,rfl,hlt,(sm.trans d).trans c,?_⟩)
  ·rw [xU,ZZ f];exact BW (bG (λ a b z=>hR a b _ _ (d.trans c) z) fa) j
  ·rw [xU,Z_ (by rw [f];decide),A3];exact bG (λ a b z=>hR a b _ _ (d.trans c) z) fa
 ·have e:i=n:=by lia
  subst e;exact .inl ⟨r.stop H' sm,h,λ l o=>hQ l H' ys sm o fa⟩
def Ki (hq:aH K H1 a xs):Runs (qA K a) H1 xs.length (λ i v _=>xs[i]? = some v):=
 ⟨λ i b H s=>⟨xs,xs[i],s.seq hq,by simp [b]⟩,λ H s=>⟨xs,s.seq hq,o0 _⟩,λ i b H v c s y=>by obtain ⟨e,y⟩:=y;subst e;exact ⟨af.refl _,y xs (s.seq hq)⟩⟩
def KH {α β:Type} (p:α->Bool) (f:α->β) (d:α) :∀xs:List α,((L1 xs.length).filter λ i=>p (xs[i]?.getD d)).map (λ i=>f (xs[i]?.getD d))=(xs.filter p).map f:=by
 intro xs;have h:(L1 xs.length).map (λ i=>xs[i]?.getD d)=xs:=by
  apply d7
  ·simp
  ·intro i b a;simp only [j2c,j1a,F0 a,j22]
 have e:(xs.filter p).map f=((((L1 xs.length).map (λ i=>xs[i]?.getD d))).filter p).map f:=by rw [h]
 rw [e,List.filter_map,S2];rfl
theorem CU (ns:List Int) :∀j,j<=ns.length->preSum (λ i=>ns[i]?.getD 0) j=(ns.take j).sum
 | 0,_=>by rw [b8];rfl
 | j + 1,h=>by show preSum (λ i=>ns[i]?.getD 0) j + ns[j]?.getD 0=_;rw [CU ns j (Nat.le_of_succ_le h),j23 h,List.sum_append,F0 h];simp
structure QE (X:Cx) (e:ZM) (t:TE):Prop where
 run:PE X e t
structure QA (X:Cx) (es:List ZM) (t:TA):Prop where
 run:PA X es t
structure xn (X:Cx) (pos:ZO) (ks:List (Option ZM)) (vs:List ZM) (t:List (TE×TE)):Prop where
 run:vT X pos ks vs t
structure QS (X:Cx) (st:ZK) (t:TS):Prop where
 run:PS X st t
structure oC (X:Cx) (sts:List ZK) (t:TS):Prop where
 run:jz X sts t
variable {tb:TS}
section
def n_ {sts:List ZK} {t:TS} {G:TS->Prop} (q:oC X sts t) (g:G t) :∃t,jz X sts t/\G t:=⟨t,q.run,g⟩
def nL {t:TS} (h:QS X st t):oC X [st] t:=⟨aT h.run⟩
def gG {rest:List ZK} {t u:TS} (h:QS X st t) (r:oC X rest u):oC X (st :: rest) (gD t u):=⟨aU h.run r.run⟩
def iR {pos':ZO} (hN:X.N.Nodup) (hi:X.N[i]? = some x) (hx:Loc X.env.scope x) (he:QE X e te) (hs:M7 e (some (.Name x pos')) pos.line X.env=Y1 false:=by rfl) (hf:X.fn x=true\/X.env.scope.names.lookup x=some .local:=by first|exact .inl rfl|exact .inr rfl|assumption) :
  QS X (.Assign [.Name x pos'] e pos) (jF te (bu i)):=⟨aC hN hi hx he.run hs hf⟩
def Am {o i value:ZM} {td ty tv:TE} {pos':ZO} (hu:X.A.units + 1 < ZD) (ho:QE X o td) (hi:QE X i ty) (hv:QE X value tv) (hs:M7 value (some (.Subscript o i pos')) pos.line X.env=Y1 false) :
  QS X (.Assign [.Subscript o i pos'] value pos) (oM td ty tv):=⟨xM hu ho.run hi.run hv.run hs⟩
def nh {body:List ZK} (hp:PassesOwn (B1 X.prog X.w) X.A X.env X.xe) (hc:X.calm=true) (hi:PI X tg iter wi) (hg:PG X tg g) (hb:oC X body tb)
  (hs :∀x,c6 iter X.env x=Y1 x:=by intro _;rfl):QS X (.For tg iter body [] pos) (tW wi g tb):=⟨bY hp hc hi hg hb.run hs⟩
def eG (h:QA X es t):QE X (.List es pos) (tL t):=⟨aW h.run⟩
def eI:QA X [] gz:=⟨ae⟩
def eh (ha:QE X e te) (hr:QA X es t) (hs:S1 (e :: es) X.env=(false,U3 e X.env) :: S1 es X.env:=by rfl):QA X (e :: es) (eu te t):=⟨ao ha.run hr.run hs⟩
def QD:xn X pos [] [] []:=⟨Fp⟩
def AJ {k v:ZM} {ks:List (Option ZM)} {vs:List ZM} {tk tv:TE} {trs:List (TE×TE)} (hk:QE X k tk) (hv:QE X v tv) (hr:xn X pos ks vs trs):xn X pos (some k :: ks) (v :: vs) ((tk,tv) :: trs):=⟨Bs hk.run hv.run hr.run⟩
def Oy {keys:List (Option ZM)} {values:List ZM} {trs:List (TE×TE)} (h:xn X pos keys values trs) (hall:keys.all (·.isSome)=true) (hl:keys.length=values.length) (h0:keys≠[]) (h15:keys.length<=15):QE X (.Dict keys values pos) (oA trs):=⟨GK h.run hall hl h0 h15⟩
def jY {a b:ZM} {ta tb:TE} {r:R2} (hr:kE X r) (ha:QE X a ta) (hb:QE X b tb) (hs:EA b):QE X (.Subscript a b pos) (jK r ta tb):=⟨au hr ha.run hb.run hs⟩
end
def ve (h:X.K=K):kE X (oB K):=h ▸ aj
def FQ {f:List V->Hp->VK->Prop} (h:te σ H λ x H1=>f [x] H1 D.rt):kW (nU f (eu te gz)) D σ H:=h
theorem fJ {α β:Type} {R:α->β->Prop} :∀{xs:List α} {ys:List β} {i:Nat} {y:β},av R xs ys->ys[i]? = some y->∃x,xs[i]? = some x/\R x y
 | _,_,i,y,.nil,e=>by simp at e
 | _,_,0,y,.cons a _,e=>by rw [E3] at e;cases e;exact ⟨_,E3,a⟩
 | _,_,i + 1,y,.cons _ r,e=>by rw [N2] at e;obtain ⟨x,b,c⟩:=fJ r e;exact ⟨x,by rw [N2];exact b,c⟩
def Oq {α:Type} {rs:List α} {RA:Hp->α->V->Prop} {Q:VK} (d:α) (p:α->Bool) (f:α->V) (r:Runs J H1 xs.length (λ i v _=>xs[i]? = some v)) (hm :∀H H' a v,af H H'->RA H a v->RA H' a v) (al:av (RA H1) rs xs) (hn:rs.length<=ZE)
  (body :∀a∈rs,∀v H,af H1 H->RA H a v->∀(KT:VK) (KF:Hp->Prop),(p a=true->∀H',af H H'->KT (f a) H')->(p a=false->∀H',af H H'->KF H')->
   g v (aL σ fr (A2 m none)) H λ σ6 H6=>∃us,us.length=m/\σ6=aL σ fr us/\tc (aL σ fr us) H6 λ b H2=>if b=true then te (aL σ fr us) H2 KT else KF H2)
  (hQ :∀l H',af H1 H'->H' l=none->Q (.ref l) (upd H' l (.lst ((rs.filter p).map f)))) :
  ∃W:Nat->Nat->List V->Hp->Prop,(∃m,W 0 m [] H1)/\∀i k ys H,W i k ys H->
   (J.stop i H/\ys.length<=ZE/\∀p,H p=none->Q (.ref p) (upd H p (.lst ys)))\/
   (J.go i H/\ys.length<=ZE/\∀v H',J.yld i H v H'->g v (aL σ fr (A2 m none)) H' λ σ6 H6=>∃us,us.length=m/\σ6=aL σ fr us/\tc (aL σ fr us) H6 λ b H2=>if b=true then te (aL σ fr us) H2 λ y H3=>∃m',m' < k/\W (i + 1) m' (ys++[y]) H3 else∃m',m' < k/\W (i + 1) m' ys H2):=by
 have n:=cD al;refine Ng (λ i=>p (rs[i]?.getD d)) (λ i y _=>y=f (rs[i]?.getD d)) (λ _ _ _ _ _ h=>h) r (by rw [n];exact hn) (λ i A v H s u KT KF c j=>?_) λ l H' ys s t q=>?_
 ·obtain ⟨a,o,x⟩:=fJ al u;rw [o] at c j;exact body a (S0 o) v H s (hm _ _ _ _ s x) KT KF (λ z H' w=>c z _ H' w rfl) j
 ·have e:=yT q;rw [n,KH p f d rs] at e;rw [e];exact hQ l H' s t
variable {tl:TE}
def KI {α:Type} {rs:List α} {RA:Hp->α->V->Prop} {Q:VK} (d:α) (p:α->Bool) (f:α->V) (htl :∀R:VK,R (.ref l) H1->tl σ H R) (hq:aH K H1 l xs) (hm :∀H H' a v,af H H'->RA H a v->RA H' a v) (al:av (RA H1) rs xs) (hn:rs.length<=ZE)
  (body :∀a∈rs,∀v H,af H1 H->RA H a v->∀(KT:VK) (KF:Hp->Prop),(p a=true->∀H',af H H'->KT (f a) H')->(p a=false->∀H',af H H'->KF H')->
   g v (aL σ fr (A2 m none)) H λ σ6 H6=>∃us,us.length=m/\σ6=aL σ fr us/\tc (aL σ fr us) H6 λ b H2=>if b=true then te (aL σ fr us) H2 KT else KF H2)
  (hQ :∀l H',af H1 H'->H' l=none->Q (.ref l) (upd H' l (.lst ((rs.filter p).map f)))):cH (ij K tl) m fr g tc te σ H Q:=
 htl _ ⟨l,rfl,⟨xs,hq⟩,Oq d p f (Ki hq) hm al hn body hQ⟩
section
def EF (hh:A.handled=none) (it t:ZR) (ne:t≠it) (items:Array ZF):Draws prog w A it [it,t] items.size (λ i v=>items[i]? = some v) (λ i h=>h.IsTupleIter it t i/\h.IsTuple t items) where
 live:=λ i h a=>a.1.elim λ o z=>⟨o,z.1⟩
 frame:=λ i h b a k=>⟨a.1.elim λ o z=>⟨o,k it (by simp) o z.1,z.2⟩,a.2.elim λ o z=>⟨o,k t (by simp) o z.1,z.2⟩⟩
 item:=λ i s Q E c a q=>vn a.1 a.2 (W1 c) λ b f d=>q _ b s.toks (W1 c) ⟨f,a.2.elim λ o z=>⟨o,(d.2 t ne).trans z.1,z.2⟩⟩ d
 done:=λ s Q E a q=>rL hh a.1 a.2 (by simp) λ b e x y=>q b e x y
def Ph (a:ZR) (xs:Array ZF):Meets (D9.«enumerate.__new__» ⟨[.type "enumerate",.ref a],[]⟩) (λ _ R s=>s.heap.IsTuple a xs/\R (.ok (.ret (.ref (s.heap.objs.size + 1))))
  { s with heap:=(s.heap.push { cls:=.type "tuple_iterator",data:=.fields #[.ref a,.int 0 0] }).push { cls:=.type "enumerate",data:=.fields #[.none,.bool false,.ref s.heap.objs.size,j3f 0,.none,.none] } }):=
 .of_wp λ i w A R s h=>by
  obtain ⟨j,g,d,e,f⟩:=s;obtain ⟨k,h⟩:=h;have m:=sub_enumerate;have b:Heap.IsTuple (Shared.heap ⟨j,g,d,e,f⟩) a xs:=k
  wp_walk using U6 b
  intro Γ p l;show W0 (B1 i w) A.in1 (Y1 _) _ _ _;refine G0 ?_;generalize j2d 1 ((Γ.code,p) :: Γ.below)=L;split
  ·rename_i c _ _ _ _;cases c == C6 "enumerate" with
   | true=>
    wp_walk using U6 b
    refine ⟨_,rfl,?_⟩;simpa [G4,E5] using h
   | false=>
    wp_walk using U6 b
    refine ⟨_,rfl,?_⟩;simpa [G4,E5] using h
  ·wp_walk using U6 b
   refine ⟨_,rfl,?_⟩;simpa [G4,E5] using h
def Re {xs:Array ZF} (ha:s.heap.IsTuple a xs)
  (q :∀h',IsEnum h' (s.heap.objs.size + 1) s.heap.objs.size 0 .none->h'.IsTupleIter s.heap.objs.size a 0->h'.objs.size=s.heap.objs.size + 2->(∀c o,s.heap.get? c=some o->h'.get? c=some o)->Q (.ref (s.heap.objs.size + 1)) { s with heap:=h' }) :
  W0 (B1 prog w) A (call (.type "enumerate") [.ref a]) Q E s:=by
 refine callType_new F.called_enumerate '!' (F.typeCall_enumerate_1 _) (F.newCall_enumerate_1 _) (λ g=>F.args_object_init_2 g _) F.entry_enumerate_new (Ph a xs) ⟨ha,?_⟩;generalize hn:s.heap.objs.size=n at q⊢;generalize h0:s.heap.push { cls:=.type "tuple_iterator",data:=.fields #[.ref a,.int 0 0] }=k0;have b:k0.objs.size=n + 1:=by rw [<-h0,G4,hn]
 have f:k0.get? n=some { cls:=.type "tuple_iterator",data:=.fields #[.ref a,.int 0 0] }:=by rw [<-h0,<-hn];exact j1 _ rfl
 have d:(k0.push { cls:=.type "enumerate",data:=.fields #[.none,.bool false,.ref n,j3f 0,.none,.none] }).get? (n + 1)=some { cls:=.type "enumerate",data:=.fields #[.none,.bool false,.ref n,j3f 0,.none,.none] }:=by rw [<-b];exact j1 _ rfl
 exact ⟨⟨_,d,rfl⟩,q _ d ⟨_,B0 _ f,rfl,rfl⟩ (by rw [G4,b]) λ c o e=>B0 _ (by rw [<-h0];exact B0 _ e)⟩
end
noncomputable def kY (K:c0) (a:ZR):It:=
  ⟨λ i H=>∃xs x,aH K H a xs/\xs[i]? = some x,
   λ i H v H'=>∃p,H p=none/\v=.ref p/\∀xs,aH K H a xs->∃x,xs[i]? = some x/\H'=upd H p (.tup [.int i,x]),
   λ i H=>∃xs,aH K H a xs/\xs.length=i⟩
def jq:(0:Nat)<=ZE:=by decide
def lC:(1:Nat)<=ZE:=by decide
def cV:(2:Nat)<=ZE:=by decide
def nk:(3:Nat)<=ZE:=by decide
def sr:(4:Nat)<=ZE:=by decide
def Ef:(5:Nat)<=ZE:=by decide
def xk:(7:Nat)<=ZE:=by decide
def Fm:(8:Nat)<=ZE:=by decide
variable {elts:List ZM} {x1:Nat}
def NB {e:ZR} (ne:e≠it) (nae:a≠e) (nai:a≠it):Turn P w K (.Tuple elts x1 pos) (kY K a) [e,it] e (λ n h=>(∃old,IsEnum h e it (n:Nat) old)/\h.IsListIter it a n) where
 mem:=by simp
 obj:=λ n h g c f=>by
  simp only [R1,u0,or_false] at f;rcases f with rfl|rfl
  ·obtain ⟨⟨old,z⟩,_⟩:=g;exact ⟨_,z,λ v z=>by cases (show j69 _=Data.cell v from z)⟩
  ·obtain ⟨_,o,e,_,d⟩:=g;exact ⟨o,e,λ v z=>by rw [d] at z;cases z⟩
 keep:=λ n h U g k=>by obtain ⟨⟨old,z⟩,o,e1,e2⟩:=g;exact ⟨⟨old,k e (by simp) _ z⟩,o,k it (by simp) _ e1,e2⟩
 item:=by
  intro X C B r f n a0 s σ H E I p g F;subst C B r;obtain ⟨S,x,l,V⟩:=F;obtain ⟨i,J,j,_⟩:=I.list l;have j:s.heap.IsList a i.toArray:=j.isList;obtain ⟨u,R,ru⟩:=J.get V;have D:=Draws.list (prog:=X.prog) (w:=X.w) (A:=X.A.in1) (I.ok.hd f) it a nai i.toArray;have a7:n < i.toArray.size:=by have:=(List.getElem?_eq_some_iff.mp R).1;simpa using this
  obtain ⟨⟨old,T⟩,M⟩:=g;refine wpAny_pyNext_enum_itemD D T ⟨M,j⟩ a7 ne (by simp [ne,nae.symm]) λ y U t q a4 a6 Z hz G=>?_;have q:i[n]? = some y:=by simpa using q
  rw [R] at q;cases q;have Y:e < s.heap.objs.size:=V0 T;have a1:it < s.heap.objs.size:=by obtain ⟨o,z,_⟩:=M;exact V0 z
  have N:s.heap.objs.size≠e:=E4 Y;have nT:s.heap.objs.size∉[e,it]:=by simp only [R1,u0,or_false,not_or];exact ⟨N,E4 a1⟩
  refine ⟨_,rfl,j5a a4 λ Q a5 L=>?_⟩;have k2 :∀b o,b∉[e,it]->s.heap.get? b=some o->Q.get? b=some o:=λ b o m z=>by simp only [R1,u0,or_false,not_or] at m;exact (L.2 b m.1).trans (G b o m.1 m.2 z)
  have O:=(L.2 _ N).trans Z;have a2:=a6.1.elim λ o z=>(⟨o,(L.2 it ne.symm).trans z.1,z.2⟩:Q.IsListIter it a (n + 1))
  have fr:H s.heap.objs.size=none:=I.hok.fresh (o0 _);refine ⟨.ref s.heap.objs.size,upd H s.heap.objs.size (.tup [.int n,x]),I.turnedLaid (t':=t + 1) k2 p (o0 _) ⟨cV,[.int n t,u],.cons ⟨t,rfl⟩ (.cons ru .nil),⟨_,O,rfl,_,rfl⟩,_,O,rfl⟩,rfl,⟨_,fr,rfl,λ a8 a3=>⟨x,?_,rfl⟩⟩,⟨⟨_,a5⟩,a2⟩,λ c f=>?_⟩
  ·rw [I.list_inj a3 l];exact V
  ·rw [ak (λ (z:c=s.heap.objs.size)=>nT (z ▸ f))];exact (p c f).1
 done:=by
  intro X C B r f n a0 s σ H E I p g F;subst C B r;obtain ⟨S,l,rfl⟩:=F;obtain ⟨i,J,j,_⟩:=I.list l;have j:s.heap.IsList a i.toArray:=j.isList;have D:=Draws.list (prog:=X.prog) (w:=X.w) (A:=X.A.in1) (I.ok.hd f) it a nai i.toArray;have W:=WalksT.enumerateD D e ne (by simp [ne,nae.symm]) (by simp);have la:i.toArray.size=S.length:=by simpa using J.length.symm
  exact W.done s _ E (by rw [la];exact ⟨g.1,g.2,j⟩) λ U tk G=>⟨rfl,I.turnedL (t':=tk) (λ c o f e=>G c o f e) p⟩
 self:=λ _ _ _ _ _ g h=>g.1.elim λ old z=>z9 z h
def FK (K:c0) (ta:TA):TI:=λ σ H R=>ta σ H λ vs H1=>∃a xs,vs=[.ref a]/\aH K H1 a xs/\R (kY K a) H1
def wJ {tpos:ZO} {ta:TA} {p:ZO} (hg:Gl X "enumerate") (hm:X.mg "enumerate" = none) (ha:PA X [e] ta) (hs:S1 [e] X.env=[(false,U3 e X.env)]:=by rfl) :
  PI X (.Tuple elts x1 tpos) (.Call (.Name "enumerate" p) [e] [] pos) (FK X.K ta):=by
 intro k s σ H R I h;refine Call_ (fo I hg hm boot_enumerate (o4 (ba (ha pos k s σ H _ I h) λ w d zz=>?_) (by rw [hs];rfl) rfl));obtain ⟨vs,H1,I1,r1,q1⟩:=zz;obtain ⟨a,x,n,l,q⟩:=q1;subst n;obtain ⟨u,rfl,r⟩:=vals1 r1;cases (show u=P0 a from r);obtain ⟨m,y,b,_⟩:=I1.list l;have b:d.heap.IsList a m.toArray:=b.isList;have g:a < d.heap.objs.size:=by obtain ⟨o,e,_⟩:=id b;exact V0 e
 refine call_enumerate_list b λ z i t _ v=>?_;refine z9 i ?_;refine ⟨_,_,_,_,H1,rfl,I1.kept (t':=d.toks) v,NB (E4 (i3 _)) (P1 (G2 g)) (P1 g),⟨⟨_,i⟩,t⟩,λ c j=>?_,q⟩;have f:d.heap.objs.size<=c:=by
  simp only [R1,u0,or_false] at j;rcases j with rfl|rfl
  ·exact Nat.le_add_right _ _
  ·exact o0 _
 exact I1.fpOk f (I1.hok.fresh f)
theorem Cu (Pv:Nat->St->Hp->Prop) (h0:Pv 0 σ H) (hl :∀i σ H,Pv i σ H->aH K H a xs)
  (hs :∀i x σ H p,xs[i]? = some x->Pv i σ H->H p=none->g (.ref p) σ (upd H p (.tup [.int i,x])) λ σ2 H2=>tb { D with nx:=Pv (i + 1),ct:=Pv (i + 1),bk:=D.nx } σ2 H2) (hd :∀σ H,Pv xs.length σ H->D.nx σ H) :
  ∃W:Nat->Nat->St->Hp->Prop,(∃m,W 0 m σ H)/\∀i m σ H,W i m σ H->
   ((kY K a).stop i H/\D.nx σ H)\/((kY K a).go i H/\∃N:St->Hp->Prop,(∀σ' H',N σ' H'->∃m',m' < m/\W (i + 1) m' σ' H')/\∀x H',(kY K a).yld i H x H'->g x σ H' λ σ2 H2=>tb { D with nx:=N,ct:=N,bk:=D.nx } σ2 H2):=by
 refine ⟨λ i m σ H=>m=xs.length - i/\i<=xs.length/\Pv i σ H,⟨xs.length,by simp,J1 _,h0⟩,?_⟩;rintro i m σ H ⟨rfl,hi,p⟩;have b:=hl i σ H p;by_cases hlt:i < xs.length
 ·refine .inr ⟨⟨xs,xs[i],b,by simp [hlt]⟩,Pv (i + 1),λ σ' H' h=>⟨xs.length - (i + 1),by lia,rfl,hlt,h⟩,λ v H' y=>?_⟩;obtain ⟨t,f,rfl,c⟩:=y;obtain ⟨d,j,rfl⟩:=c xs b;exact hs i d σ H t j p f
 ·have e:i=xs.length:=by lia
  subst e;exact .inl ⟨⟨xs,b,rfl⟩,hd σ H p⟩
noncomputable def lP (K:c0) (a:ZR):It:=
  ⟨λ i H=>∃xs x,aG K H a xs/\xs[i]? = some x,
   λ i H v H'=>∃p,H p=none/\v=.ref p/\∀xs,aG K H a xs->∃x,xs[i]? = some x/\H'=upd H p (.tup [.int i,x]),
   λ i H=>∃xs,aG K H a xs/\xs.length=i⟩
def Kr {e:ZR} (ne:e≠it) (nae:a≠e) (nai:a≠it):Turn P w K (.Tuple elts x1 pos) (lP K a) [e,it] e (λ n h=>(∃old,IsEnum h e it (n:Nat) old)/\h.IsTupleIter it a n) where
 mem:=by simp
 obj:=λ n h g c f=>by
  simp only [R1,u0,or_false] at f;rcases f with rfl|rfl
  ·obtain ⟨⟨old,z⟩,_⟩:=g;exact ⟨_,z,λ v z=>by cases (show j69 _=Data.cell v from z)⟩
  ·obtain ⟨_,o,e,_,d⟩:=g;exact ⟨o,e,λ v z=>by rw [d] at z;cases z⟩
 keep:=λ n h U g k=>by obtain ⟨⟨old,z⟩,o,e1,e2⟩:=g;exact ⟨⟨old,k e (by simp) _ z⟩,o,k it (by simp) _ e1,e2⟩
 item:=by
  intro X C B r f n a0 s σ H E I p g F;subst C B r;obtain ⟨S,x,l,V⟩:=F;obtain ⟨i,J,j,_⟩:=I.tuple l;have j:s.heap.IsTuple a i.toArray:=j;obtain ⟨u,R,ru⟩:=J.get V;have D:=EF (prog:=X.prog) (w:=X.w) (A:=X.A.in1) (I.ok.hd f) it a nai i.toArray;have a7:n < i.toArray.size:=by have:=(List.getElem?_eq_some_iff.mp R).1;simpa using this
  obtain ⟨⟨old,T⟩,M⟩:=g;refine wpAny_pyNext_enum_itemD D T ⟨M,j⟩ a7 ne (by simp [ne,nae.symm]) λ y U t q a4 a6 Z hz G=>?_;have q:i[n]? = some y:=by simpa using q
  rw [R] at q;cases q;have Y:e < s.heap.objs.size:=V0 T;have a1:it < s.heap.objs.size:=by obtain ⟨o,z,_⟩:=M;exact V0 z
  have N:s.heap.objs.size≠e:=E4 Y;have nT:s.heap.objs.size∉[e,it]:=by simp only [R1,u0,or_false,not_or];exact ⟨N,E4 a1⟩
  refine ⟨_,rfl,j5a a4 λ Q a5 L=>?_⟩;have k2 :∀b o,b∉[e,it]->s.heap.get? b=some o->Q.get? b=some o:=λ b o m z=>by simp only [R1,u0,or_false,not_or] at m;exact (L.2 b m.1).trans (G b o m.1 m.2 z)
  have O:=(L.2 _ N).trans Z;have a2:=a6.1.elim λ o z=>(⟨o,(L.2 it ne.symm).trans z.1,z.2⟩:Q.IsTupleIter it a (n + 1))
  have fr:H s.heap.objs.size=none:=I.hok.fresh (o0 _);refine ⟨.ref s.heap.objs.size,upd H s.heap.objs.size (.tup [.int n,x]),I.turnedLaid (t':=t + 1) k2 p (o0 _) ⟨cV,[.int n t,u],.cons ⟨t,rfl⟩ (.cons ru .nil),⟨_,O,rfl,_,rfl⟩,_,O,rfl⟩,rfl,⟨_,fr,rfl,λ a8 a3=>⟨x,?_,rfl⟩⟩,⟨⟨_,a5⟩,a2⟩,λ c f=>?_⟩
  ·rw [I.tuple_inj a3 l];exact V
  ·rw [ak (λ (z:c=s.heap.objs.size)=>nT (z ▸ f))];exact (p c f).1
 done:=by
  intro X C B r f n a0 s σ H E I p g F;subst C B r;obtain ⟨S,l,rfl⟩:=F;obtain ⟨i,J,j,_⟩:=I.tuple l;have j:s.heap.IsTuple a i.toArray:=j;have D:=EF (prog:=X.prog) (w:=X.w) (A:=X.A.in1) (I.ok.hd f) it a nai i.toArray;have W:=WalksT.enumerateD D e ne (by simp [ne,nae.symm]) (by simp);have la:i.toArray.size=S.length:=by simpa using J.length.symm
  exact W.done s _ E (by rw [la];exact ⟨g.1,g.2,j⟩) λ U tk G=>⟨rfl,I.turnedL (t':=tk) (λ c o f e=>G c o f e) p⟩
 self:=λ _ _ _ _ _ g h=>g.1.elim λ old z=>z9 z h
def IM (K:c0) (ta:TA):TI:=λ σ H R=>ta σ H λ vs H1=>∃a xs,vs=[.ref a]/\aG K H1 a xs/\R (lP K a) H1
def ON {tpos:ZO} {ta:TA} {p:ZO} (hg:Gl X "enumerate") (hm:X.mg "enumerate" = none) (ha:PA X [e] ta) (hs:S1 [e] X.env=[(false,U3 e X.env)]:=by rfl) :
  PI X (.Tuple elts x1 tpos) (.Call (.Name "enumerate" p) [e] [] pos) (IM X.K ta):=by
 intro k s σ H R I h;refine Call_ (fo I hg hm boot_enumerate (o4 (ba (ha pos k s σ H _ I h) λ w d zz=>?_) (by rw [hs];rfl) rfl));obtain ⟨vs,H1,I1,r1,q1⟩:=zz;obtain ⟨a,x,n,l,q⟩:=q1;subst n;obtain ⟨u,rfl,r⟩:=vals1 r1;cases (show u=P0 a from r);obtain ⟨m,y,b,_⟩:=I1.tuple l;have b:d.heap.IsTuple a m.toArray:=b;have g:a < d.heap.objs.size:=by obtain ⟨o,e,_⟩:=id b;exact V0 e
 refine Re b λ z i t _ v=>?_;refine z9 i ?_;refine ⟨_,_,_,_,H1,rfl,I1.kept (t':=d.toks) v,Kr (E4 (i3 _)) (P1 (G2 g)) (P1 g),⟨⟨_,i⟩,t⟩,λ c j=>?_,q⟩;have f:d.heap.objs.size<=c:=by
  simp only [R1,u0,or_false] at j;rcases j with rfl|rfl
  ·exact Nat.le_add_right _ _
  ·exact o0 _
 exact I1.fpOk f (I1.hok.fresh f)
theorem PD (Pv:Nat->St->Hp->Prop) (h0:Pv 0 σ H) (hl :∀i σ H,Pv i σ H->aG K H a xs)
  (hs :∀i x σ H p,xs[i]? = some x->Pv i σ H->H p=none->g (.ref p) σ (upd H p (.tup [.int i,x])) λ σ2 H2=>tb { D with nx:=Pv (i + 1),ct:=Pv (i + 1),bk:=D.nx } σ2 H2) (hd :∀σ H,Pv xs.length σ H->D.nx σ H) :
  ∃W:Nat->Nat->St->Hp->Prop,(∃m,W 0 m σ H)/\∀i m σ H,W i m σ H->
   ((lP K a).stop i H/\D.nx σ H)\/((lP K a).go i H/\∃N:St->Hp->Prop,(∀σ' H',N σ' H'->∃m',m' < m/\W (i + 1) m' σ' H')/\∀x H',(lP K a).yld i H x H'->g x σ H' λ σ2 H2=>tb { D with nx:=N,ct:=N,bk:=D.nx } σ2 H2):=by
 refine ⟨λ i m σ H=>m=xs.length - i/\i<=xs.length/\Pv i σ H,⟨xs.length,by simp,J1 _,h0⟩,?_⟩;rintro i m σ H ⟨rfl,hi,p⟩;have b:=hl i σ H p;by_cases hlt:i < xs.length
 ·refine .inr ⟨⟨xs,xs[i],b,by simp [hlt]⟩,Pv (i + 1),λ σ' H' h=>⟨xs.length - (i + 1),by lia,rfl,hlt,h⟩,λ v H' y=>?_⟩;obtain ⟨t,f,rfl,c⟩:=y;obtain ⟨d,j,rfl⟩:=c xs b;exact hs i d σ H t j p f
 ·have e:i=xs.length:=by lia
  subst e;exact .inl ⟨⟨xs,b,rfl⟩,hd σ H p⟩
section
def Mq (hc:X.calm=true):ck X (.builtin "sum") (λ xs H Q=>∃(p:ZR) (ns:List Int),xs=[.ref p]/\aH X.K H p (ns.map V.int)/\Q (.int ns.sum) H):=by
 intro E s σ H xs G Q I r h;obtain ⟨p,ns,rfl,w,q⟩:=h;obtain ⟨u,rfl,B⟩:=vals1 r;cases B;obtain ⟨d,m,f,F⟩:=I.list w;have C:p≠s.heap.objs.size:=by obtain ⟨o,e,_⟩:=f.isList;exact P1 (V0 e)
 have j:d.length=ns.length:=by have:=m.length;rw [D0] at this;exact this.symm
 refine call_sum_walkAnyS (j32 f.isList ?_);refine ⟨s.heap.objs.size,_,_,_,_,_,_,λ i=>ns[i]?.getD 0,rfl,(Walks.list (show X.A.in1.handled=none from I.ok.hd hc) s.heap.objs.size p C d.toArray).toS,⟨⟨_,j1 _ rfl,rfl,rfl⟩,f.isList.at λ o e=>B0 _ e⟩,?_,?_,?_⟩
 ·intro b c;simp only [R1,u0,or_false] at c;rcases c with rfl|rfl
  ·rw [G4];exact i3 _
  ·obtain ⟨o,e,_⟩:=f.isList;exact V0 (B0 _ e)
 ·intro i v a;have a:d[i]? = some v:=by simpa using a
  obtain ⟨y,e⟩:=List.getElem?_eq_some_iff.mp a;have l:i < ns.length:=by rw [<-j];exact y
  obtain ⟨u,n,g⟩:=m.get (i:=i) (x:=.int ns[i]) (by simp [l]);rw [a] at n;cases n;obtain ⟨t,g⟩:=g;exact ⟨t,by show v=Q8 (ns[i]?.getD 0) t;rw [F0 l];exact g⟩
 ·intro D t' k;have e:preSum (λ i=>ns[i]?.getD 0) d.toArray.size=ns.sum:=by rw [M0,j,CU ns _ (o0 _),i6]
  rw [e,k.eq_with];refine ⟨.int _,H,I.kept (t':=D.toks) λ b o z=>k.heap b o ?_ (B0 _ z),⟨_,rfl⟩,q⟩;intro c;rw [List.mem_singleton.mp c] at z;exact ZU (V0 z) (Y3 _)
end
mutual
noncomputable def dy (K:c0) (H:Hp):ZJ->V->Prop
 | .none,v=>v=.non
 | .bool b,v=>v=.bl b
 | .int i,v=>v=.int i
 | .str z,v=>v=.str z
 | .list ds,v=>∃a xs,v=.ref a/\aH K H a xs/\dS K H ds xs
 | .tuple ds,v=>∃a xs,v=.ref a/\aG K H a xs/\dS K H ds xs
 | .dict _,_=>False
noncomputable def dS (K:c0) (H:Hp):List ZJ->List V->Prop
 | [],xs=>xs=[]
 | d :: ds,xs=>∃x r,xs=x :: r/\dy K H d x/\dS K H ds r
end
mutual
theorem dy.mono' {K:c0} {H H':Hp} (s :∀a xs,aG K H a xs->aG K H' a xs) (t :∀a xs,aH K H a xs->aH K H' a xs) :∀(d:ZJ) (v:V),dy K H d v->dy K H' d v
 | .none,v,h=>h
 | .bool _,v,h=>h
 | .int _,v,h=>h
 | .str _,v,h=>h
 | .list ds,v,h=>by obtain ⟨a,xs,rfl,e,r⟩:=h;exact ⟨a,xs,rfl,t _ _ e,dS.mono' s t ds xs r⟩
 | .tuple ds,v,h=>by obtain ⟨a,xs,rfl,e,r⟩:=h;exact ⟨a,xs,rfl,s _ _ e,dS.mono' s t ds xs r⟩
 | .dict _,v,h=>h.elim
theorem dS.mono' {K:c0} {H H':Hp} (s :∀a xs,aG K H a xs->aG K H' a xs) (t :∀a xs,aH K H a xs->aH K H' a xs) :∀(ds:List ZJ) (xs:List V),dS K H ds xs->dS K H' ds xs
 | [],xs,h=>h
 | d :: ds,xs,h=>by obtain ⟨x,r,rfl,a,b⟩:=h;exact ⟨x,r,rfl,dy.mono' s t d x a,dS.mono' s t ds r b⟩
end
def dy.same {d:ZJ} (h:dy K H d v) (s:af H H'):dy K H' d v:=dy.mono' (λ _ _ q=>s.seqT q) (λ _ _ q=>s.seq q) d v h
section
mutual
theorem oy (I:Inv X pins σ H s) :∀(d:ZJ) (v:V) (u:ZF),dy X.K H d v->RelV v u->∃as,j47 s.heap u d as
 | .none,v,u,h,r=>by cases (show v=.non from h);cases (show u=.none from r);exact ⟨_,.none⟩
 | .bool b,v,u,h,r=>by cases (show v=.bl b from h);cases (show u=.bool b from r);exact ⟨_,.bool b⟩
 | .int i,v,u,h,r=>by cases (show v=.int i from h);obtain ⟨t,rfl⟩:=r;exact ⟨_,.int i t⟩
 | .str z,v,u,h,r=>by cases (show v=.str z from h);obtain ⟨t,rfl⟩:=r;exact ⟨_,.str z t⟩
 | .list ds,v,u,h,r=>by obtain ⟨a,q,rfl,e,c⟩:=h;cases (show u=.ref a from r);obtain ⟨m,f,l,_⟩:=I.list e;obtain ⟨o,g,k,n,j⟩:=l.isList;obtain ⟨as,p⟩:=AL I ds q m c f;exact ⟨_,.list g k j p⟩
 | .tuple ds,v,u,h,r=>by obtain ⟨a,q,rfl,e,c⟩:=h;cases (show u=.ref a from r);obtain ⟨m,f,l,_⟩:=I.tuple e;obtain ⟨o,g,k,n,j⟩:=l;obtain ⟨as,p⟩:=AL I ds q m c f;exact ⟨_,.tuple g k j p⟩
 | .dict _,v,u,h,r=>h.elim
theorem AL (I:Inv X pins σ H s) :∀(ds:List ZJ) (xs:List V) (us:List ZF),dS X.K H ds xs->aI xs us->∃as,Y7 s.heap us ds as
 | [],xs,us,h,r=>by cases (show xs=[] from h);cases r;exact ⟨_,.nil⟩
 | d :: ds,xs,us,h,r=>by
  obtain ⟨x,t,rfl,a,b⟩:=h;cases r with
  | cons r1 r2=>obtain ⟨as,c⟩:=oy I d x _ a r1;obtain ⟨bs,e⟩:=AL I ds t _ b r2;exact ⟨_,.cons c e⟩
end
end
mutual
noncomputable def bC:ZJ->Bool
 | .none=>true
 | .bool _=>false
 | .int _=>true
 | .str z=>(PyData.str z).canLay0
 | .list ds=>ir ds
 | .tuple ds=>ir ds
 | .dict _=>false
noncomputable def ir:List ZJ->Bool
 | []=>true
 | d :: ds=>bC d && ir ds
end
mutual
theorem ui:∀d:ZJ,bC d=true->d.canLay0=true
 | .none,_=>rfl
 | .bool _,h=>by cases h
 | .int _,_=>rfl
 | .str _,h=>h
 | .list ds,h=>AM ds h
 | .tuple ds,h=>AM ds h
 | .dict _,h=>by cases h
theorem AM:∀ds:List ZJ,ir ds=true->n8 ds=true
 | [],_=>rfl
 | d :: ds,h=>by have h:(bC d && ir ds)=true:=h;rw [Z2] at h;show (d.canLay0 && n8 ds)=true;rw [ui d h.1,AM ds h.2];rfl
end
mutual
theorem yP:∀d e:ZJ,bC d=true->bC e=true->(d.eqv e=true↔d=e)
 | .none,e,_,he=>by
  cases e with
  | none=>exact ⟨λ _=>rfl,λ _=>rfl⟩
  | bool b=>cases he
  | dict _=>cases he
  | _=>exact ⟨λ z=>(by cases z),λ z=>(by cases z)⟩
 | .bool _,e,hd,_=>by cases hd
 | .int i,e,_,he=>by
  cases e with
  | int j=>exact ⟨λ z=>ZT _ (eq_of_beq (show (i == j)=true from z)),λ z=>by cases z;exact beq_self_eq_true i⟩
  | bool b=>cases he
  | dict _=>cases he
  | _=>exact ⟨λ z=>(by cases z),λ z=>(by cases z)⟩
 | .str i,e,_,he=>by
  cases e with
  | str j=>exact ⟨λ z=>ZT _ (eq_of_beq (show (i == j)=true from z)),λ z=>by cases z;exact beq_self_eq_true i⟩
  | bool b=>cases he
  | dict _=>cases he
  | _=>exact ⟨λ z=>(by cases z),λ z=>(by cases z)⟩
 | .list ds,e,hd,he=>by
  cases e with
  | list es=>exact ⟨λ z=>ZT _ ((tE ds es hd he).mp z),λ z=>(tE ds es hd he).mpr (by cases z;rfl)⟩
  | bool b=>cases he
  | dict _=>cases he
  | _=>exact ⟨λ z=>(by cases z),λ z=>(by cases z)⟩
 | .tuple ds,e,hd,he=>by
  cases e with
  | tuple es=>exact ⟨λ z=>ZT _ ((tE ds es hd he).mp z),λ z=>(tE ds es hd he).mpr (by cases z;rfl)⟩
  | bool b=>cases he
  | dict _=>cases he
  | _=>exact ⟨λ z=>(by cases z),λ z=>(by cases z)⟩
 | .dict _,e,hd,_=>by cases hd
theorem tE:∀ds es:List ZJ,ir ds=true->ir es=true->(PyData.eqvAll ds es=true↔ds=es)
 | [],[],_,_=>⟨λ _=>rfl,λ _=>rfl⟩
 | [],e :: es,_,_=>⟨λ z=>(by cases z),λ z=>(by cases z)⟩
 | d :: ds,[],_,_=>⟨λ z=>(by cases z),λ z=>(by cases z)⟩
 | d :: ds,e :: es,a,b=>by have a:(bC d && ir ds)=true:=a;have b:(bC e && ir es)=true:=b;rw [Z2] at a b;show (d.eqv e && PyData.eqvAll ds es)=true↔_;rw [Z2,yP d e a.1 b.1,tE ds es a.2 b.2];exact ⟨λ z=>by rw [z.1,z.2],λ z=>by cases z;exact ⟨rfl,rfl⟩⟩
end
def xG {d e:ZJ} (hd:bC d=true) (he:bC e=true) {p:Prop} [Decidable p] (h:d=e↔p):d.eqv e=decide p:=by rw [Bool.eq_iff_iff,decide_eq_true_eq,yP d e hd he,h]
section
def AN (K:c0):R2:=λ x y H Q=>∃d e,dy K H d x/\dy K H e y/\bC d=true/\bC e=true/\d.depth<=60/\Q (.bl (d.eqv e)) H
def Bw (K:c0):R2:=λ x y H Q=>∃d e,dy K H d x/\dy K H e y/\bC d=true/\bC e=true/\d.depth<=60/\Q (.bl (!d.eqv e)) H
def lI {k:Nat} (hr:bL k A) (h:m<=60):A.units + min m n < ZD:=U1 (Nat.add_le_add_left (C0 (U9 _ _) (C0 h (by decide:60<=64))) _) hr.units
def rH {k:Nat} (hr:bL k X.A):ei X (T2 .Eq) (AN X.K):=by intro n s σ H x y v u Q I g c h;obtain ⟨d,e,a,m,l,b,i,q⟩:=h;obtain ⟨o,j⟩:=oy I d x v a g;obtain ⟨bs,f⟩:=oy I e y u m c;exact SeqAt.compareEq_reads j f (ui _ l) (ui _ b) (lI hr i) ⟨.bl _,H,I,rfl,q⟩
def qL {k:Nat} (hr:bL k X.A):ei X (T2 .NotEq) (Bw X.K):=by intro n s σ H x y v u Q I g c h;obtain ⟨d,e,a,m,l,b,i,q⟩:=h;obtain ⟨o,j⟩:=oy I d x v a g;obtain ⟨bs,f⟩:=oy I e y u m c;exact SeqAt.compareNe_reads j f (ui _ l) (ui _ b) (lI hr i) ⟨.bl _,H,I,rfl,q⟩
end
structure iq (S:Hp->Hp->Prop) (J:It) (H1:Hp) (n:Nat) (Item:Nat->V->Hp->Prop):Prop where
 go :∀i,i < n->∀H,S H1 H->J.go i H
 stop :∀H,S H1 H->J.stop n H
 item :∀i,i < n->∀H v H',S H1 H->J.yld i H v H'->S H H'/\Item i v H'
variable {S:Hp->Hp->Prop}
theorem rX {Item:Nat->V->Hp->Prop} {Q:VK} (s0:S H1 H1) (st :∀a b c,S a b->S b c->S a c) (p:Nat->Bool) (R:Nat->V->Hp->Prop) (hR :∀i y H H',S H H'->R i y H->R i y H') (r:iq S J H1 n Item) (hn:n<=ZE)
  (body :∀i,i < n->∀v H,S H1 H->Item i v H->∀(KT:VK) (KF:Hp->Prop),(p i=true->∀y H',S H H'->R i y H'->KT y H')->(p i=false->∀H',S H H'->KF H')->
   g v (aL σ fr (A2 m none)) H λ σ6 H6=>∃us,us.length=m/\σ6=aL σ fr us/\tc (aL σ fr us) H6 λ b H2=>if b=true then te (aL σ fr us) H2 KT else KF H2)
  (hQ :∀l H' ys,S H1 H'->H' l=none->av (λ i y=>R i y H') ((L1 n).filter p) ys->Q (.ref l) (upd H' l (.lst ys))) :
  ∃W:Nat->Nat->List V->Hp->Prop,(∃m,W 0 m [] H1)/\∀i k ys H,W i k ys H->
   (J.stop i H/\ys.length<=ZE/\∀p,H p=none->Q (.ref p) (upd H p (.lst ys)))\/
   (J.go i H/\ys.length<=ZE/\∀v H',J.yld i H v H'->g v (aL σ fr (A2 m none)) H' λ σ6 H6=>∃us,us.length=m/\σ6=aL σ fr us/\tc (aL σ fr us) H6 λ b H2=>if b=true then te (aL σ fr us) H2 λ y H3=>∃m',m' < k/\W (i + 1) m' (ys++[y]) H3 else∃m',m' < k/\W (i + 1) m' ys H2):=by
 refine ⟨λ i k ys H'=>k=n - i/\i<=n/\S H1 H'/\av (λ i y=>R i y H') ((L1 i).filter p) ys,⟨n,by simp,J1 _,s0,.nil⟩,?_⟩;rintro i k ys H' ⟨rfl,hi,sm,fa⟩;have j:ys.length<=ZE:=by
  rw [cD fa];have:=K3 p (L1 i);rw [B2] at this
  lia
 by_cases hlt:i < n
 ·refine .inr ⟨r.go i hlt H' sm,j,λ v H2 y=>?_⟩;obtain ⟨f,s⟩:=r.item i hlt H' v H2 sm y;refine body i hlt v H2 (st _ _ _ sm f) s _ _ (λ h y H3 d o=>⟨n - (i + 1),by lia,rfl,hlt,st _ _ _ (st _ _ _ sm f) d,?_⟩) (λ h H3 d=>⟨n - (i + 1),by lia,rfl,hlt,st _ _ _ (st _ _ _ sm f) d,?_⟩)
  ·rw [xU,ZZ h];exact BW (bG (λ a b z=>hR a b _ _ (st _ _ _ f d) z) fa) o
  ·rw [xU,Z_ (by rw [h];decide),A3];exact bG (λ a b z=>hR a b _ _ (st _ _ _ f d) z) fa
 ·have e:i=n:=by lia
  subst e;exact .inl ⟨r.stop H' sm,j,λ l q=>hQ l H' ys sm q fa⟩
def Gz (hs :∀H,S H1 H->S H H) (hq :∀H,S H1 H->aH K H a xs):iq S (qA K a) H1 xs.length (λ i v _=>xs[i]? = some v):=
 ⟨λ i b H s=>⟨xs,xs[i],hq H s,by simp [b]⟩,λ H s=>⟨xs,hq H s,o0 _⟩,λ i b H v c s y=>by obtain ⟨e,y⟩:=y;subst e;exact ⟨hs _ s,y xs (hq _ s)⟩⟩
def EH (hs :∀H,S H1 H->S H H) (hq :∀H,S H1 H->aG K H a xs):iq S (Af K a) H1 xs.length (λ i v _=>xs[i]? = some v):=
 ⟨λ i b H s=>⟨xs,xs[i],hq H s,by simp [b]⟩,λ H s=>⟨xs,hq H s,o0 _⟩,λ i b H v c s y=>by obtain ⟨e,y⟩:=y;subst e;exact ⟨hs _ s,y xs (hq _ s)⟩⟩
def OI {Q:VK} (R:V->V->Hp->Prop) (s0:S H1 H1) (st :∀a b c,S a b->S b c->S a c) (hs :∀H,S H1 H->S H H) (hR :∀x y H H',S H H'->R x y H->R x y H')
  (htl :∀R:VK,R (.ref a) H1->tl σ H R) (hq :∀H,S H1 H->aH K H a xs) (hn:xs.length<=ZE)
  (body :∀v∈xs,∀H,S H1 H->∀KT:VK,(∀y H',S H H'->R v y H'->KT y H')->∀KF:Hp->Prop,
   g v (aL σ fr (A2 m none)) H λ σ6 H6=>∃us,us.length=m/\σ6=aL σ fr us/\tc (aL σ fr us) H6 λ b H2=>if b=true then te (aL σ fr us) H2 KT else KF H2)
  (hQ :∀l H' ys,S H1 H'->H' l=none->av (λ x y=>R x y H') xs ys->Q (.ref l) (upd H' l (.lst ys))):cH (ij K tl) m fr g tc te σ H Q:=by
 refine htl _ ⟨a,rfl,⟨xs,hq _ s0⟩,rX s0 st (λ _=>true) (λ i y H=>R (xs[i]?.getD .non) y H) (λ i y H H' s z=>hR _ _ _ _ s z) (Gz hs hq) hn (λ i u v H s j KT KF k n=>?_) λ l H' ys s q f=>hQ l H' ys s q ?_⟩
 ·refine body v (S0 j) H s KT (λ y H' t o=>k rfl y H' t ?_) KF;rw [j];exact o
 ·rw [List.filter_eq_self.mpr (λ _ _=>rfl)] at f;have p :∀(d:List Nat) (ys:List V),av (λ i y=>R (xs[i]?.getD .non) y H') d ys->av (λ x y=>R x y H') (d.map λ i=>xs[i]?.getD .non) ys:=by
   intro d;induction d with
   | nil=>intro ys h;cases h;exact .nil
   | cons i d ih=>intro ys h;cases h with|cons a r=>exact .cons a (ih _ r)
  have h:=p _ _ f;have e:(L1 xs.length).map (λ i=>xs[i]?.getD V.non)=xs:=by
   apply d7
   ·simp
   ·intro i k n;simp only [j2c,j1a,F0 n,j22]
  rwa [e] at h
def Qi (hs :∀H,S H1 H->S H H):iq S (qW 0 n) H1 n (λ i v _=>v=.int (i:Nat)):=
 ⟨λ i a H s=>a,λ H s=>o0 _,λ i a H v b s y=>by obtain ⟨e,y⟩:=y;subst e;exact ⟨hs _ s,by rw [y,R9]⟩⟩
def QK {R:V->V->Prop} {ys:List V} (fa:av (λ (i:Nat) y=>R (xs[i]?.getD .non) y) (L1 xs.length) ys):av R xs ys:=by
 have c :∀(b:List Nat) (ys:List V),av (λ i y=>R (xs[i]?.getD .non) y) b ys->av R (b.map λ i=>xs[i]?.getD .non) ys:=by
  intro b;induction b with
  | nil=>intro ys h;cases h;exact .nil
  | cons i b ih=>intro ys h;cases h with|cons a r=>exact .cons a (ih _ r)
 have h:=c _ _ fa;have e:(L1 xs.length).map (λ i=>xs[i]?.getD V.non)=xs:=by
  apply d7
  ·simp
  ·intro i f d;simp only [j2c,j1a,F0 d,j22]
 rwa [e] at h
def DO {Q:VK} (R:V->V->Hp->Prop) (s0:S H1 H1) (st :∀a b c,S a b->S b c->S a c) (hs :∀H,S H1 H->S H H) (hR :∀x y H H',S H H'->R x y H->R x y H')
  (htl :∀R:VK,R (.ref a) H1->tl σ H R) (hq :∀H,S H1 H->aG K H a xs) (hn:xs.length<=ZE)
  (body :∀v∈xs,∀H,S H1 H->∀KT:VK,(∀y H',S H H'->R v y H'->KT y H')->∀KF:Hp->Prop,
   g v (aL σ fr (A2 m none)) H λ σ6 H6=>∃us,us.length=m/\σ6=aL σ fr us/\tc (aL σ fr us) H6 λ b H2=>if b=true then te (aL σ fr us) H2 KT else KF H2)
  (hQ :∀l H' ys,S H1 H'->H' l=none->av (λ x y=>R x y H') xs ys->Q (.ref l) (upd H' l (.lst ys))):cH (qJ K tl) m fr g tc te σ H Q:=by
 refine htl _ ⟨a,rfl,⟨xs,hq _ s0⟩,rX s0 st (λ _=>true) (λ i y H=>R (xs[i]?.getD .non) y H) (λ i y H H' s z=>hR _ _ _ _ s z) (EH hs hq) hn (λ i n v H s e KT KF j o=>?_) λ l H' ys s h d=>hQ l H' ys s h ?_⟩
 ·refine body v (S0 e) H s KT (λ y H' k f=>j rfl y H' k ?_) KF;rw [e];exact f
 ·rw [List.filter_eq_self.mpr (λ _ _=>rfl)] at d;exact QK (R:=λ x y=>R x y H') d
section
def uj {h1:ZL} {Q:Option ZF->A0->Prop} (hh:A.handled=none) (q :∀h',(∀b o,h1.get? b=some o->h'.get? b=some o)->Q none { s with heap:=h' }) :
  W0 (B1 prog w) A.in1 (do raiseNew (<-newExc (.type "StopIteration") [])) (λ (fin:b7) s'=>∃v,fin=.done (.ret v)/\W0 (B1 prog w) A (Y1 (some v)) Q E s')
   (λ e s'=>W0 (B1 prog w) A (do if <-isInstance e (.type "StopIteration") then Y1 none else throw e) Q E s') { s with heap:=h1 }:=by
 refine j0 ?_;simp only [newExc,newTuple];refine j0 (M3 (j0 (m:=j1g _ _) (wpAny_of_eq (a:=Value.none) (by first|rfl|(simp only [j1g];rfl)) (M3 ?_ (by size_fits)))) (by size_fits));simp only [raiseNew];refine j0 (wpAny_handled ?_);rw [show A.in1.handled=none from hh];refine j0 (G0 (wpAny_throw ?_));refine j0 (Z9 (T:="StopIteration") (b:=true) ⟨_,j1 _ rfl,rfl⟩ isSubtype_stop ?_);exact G0 (q _ λ b o e=>B0 _ (B0 _ e))
end
end L2
namespace HT
open PySem PySem.Spec PyProof.Rows L2
variable {prog:ZI} {w:X0} {A:j2} {E:ZF->A0->Prop} {s:A0}
end HT
namespace L2
open PySem PySem.Spec PyProof.Rows
def K_ {names:List (ZQ×z6)} {ns:List ZQ} {Q:ZQ×z6->Prop} (h:(names.all λ y=>y.2 != E2 || ns.contains y.1)=true) (q :∀n,n∈ns->∀k,Q (n,k)) :∀y∈names,y.2=E2->Q y:=λ y c e=>by
 have z:=List.all_eq_true.mp h y c;rw [e] at z;have z:ns.contains y.1=true:=by simpa using z
 obtain ⟨a,b⟩:=y;exact q a (by simpa using z) b
variable {H H1:Hp} {fr:List (Nat×ZQ)} {g:TG} {m:Nat} {tc:TT} {te:TE}
theorem MF {S:Hp->Hp->Prop} {ta:TA} {n:Nat} {σ:St} {Q:VK} (p:Nat->Bool) (R:Nat->V->Hp->Prop) (s0:S H1 H1) (st :∀a b c,S a b->S b c->S a c) (hs :∀H,S H1 H->S H H) (hR :∀i y H H',S H H'->R i y H->R i y H')
  (hta :∀T:List V->Hp->Prop,T [.int (n:Nat)] H1->ta σ H T) (hn:n<=ZE)
  (body :∀i,i < n->∀H,S H1 H->∀(KT:VK) (KF:Hp->Prop),(p i=true->∀y H',S H H'->R i y H'->KT y H')->(p i=false->∀H',S H H'->KF H')->
   g (.int (i:Nat)) (aL σ fr (A2 m none)) H λ σ6 H6=>∃us,us.length=m/\σ6=aL σ fr us/\tc (aL σ fr us) H6 λ b H2=>if b=true then te (aL σ fr us) H2 KT else KF H2)
  (hQ :∀l H' ys,S H1 H'->H' l=none->av (λ i y=>R i y H') ((L1 n).filter p) ys->Q (.ref l) (upd H' l (.lst ys))):cH (oT ta) m fr g tc te σ H Q:=by
 have b:(n:Int) < 2 ^ 62:=Int.lt_of_le_of_lt (Int.ofNat_le.mpr hn) '!';refine hta _ ⟨n,rfl,by lia,b,?_⟩;exact rX s0 st p R hR (Qi hs) hn (λ i d v H s e KT KF f h=>by subst e;exact body i d H s KT KF f h) hQ
variable {X:Cx} {e:ZM} {pos:ZO}
def qc (h:QE X e te):QS X (.Return (some e) pos) (kW te):=⟨aq h.run⟩
section
variable {prog:ZI} {w:X0} {A:j2} {E:ZF->A0->Prop} {s:A0}
theorem FS:∀{vs:List ZF} {ss:List ZQ},j53 vs ss->vs.length=ss.length
 | _,_,.nil=>rfl
 | _,_,.cons y t h=>by rw [U0,U0,FS h]
theorem Hy:∀{vs:List ZF} {ss:List ZQ},j53 vs ss->∀v∈vs,∃a,strKind.keyOf v=some a
 | _,_,.nil,v,h=>ZU h u0
 | _,_,.cons y t h,v,hv=>by
  rcases List.mem_cons.mp hv with rfl|hv
  ·exact ⟨_,rfl⟩
  ·exact Hy h v hv
theorem Dl:∀{vs:List ZF} {ss:List ZQ},j53 vs ss->aI (ss.map V.str) vs
 | _,_,.nil=>.nil
 | _,_,.cons n t h=>.cons ⟨t,rfl⟩ (Dl h)
theorem uU:∀{ss:List ZQ} {us:List ZF},us.length=ss.length->(∀(j:Nat) (u:ZF),us[j]? = some u->∃(i:ZQ) (t:Tok),ss[j]? = some i/\u=Z6 i t)->j53 us ss
 | [],us,hl,_=>by have z:us=[]:=List.eq_nil_of_length_eq_zero hl;subst z;exact .nil
 | n :: ss,us,hl,h=>by
  cases us with
  | nil=>cases hl
  | cons u us=>obtain ⟨i,t,e,rfl⟩:=h 0 u rfl;have e:n=i:=Q1 e;subst e;exact .cons n t (uU (Nat.succ.inj hl) λ j v e=>h (j + 1) v (by simpa using e))
def NY {v:ZF} {Q:ZF->A0->Prop} {ss:List ZQ} (hn:ss.length < 64)
  (hc :∀R:List ZF->A0->Prop,(∀h' tk vs,(∀b o,s.heap.get? b=some o->h'.get? b=some o)->j53 vs ss->R vs { s with heap:=h',toks:=tk })->W0 (B1 prog w) A.in1 (collect v) R E s)
  (h :∀(h1 h':ZL) (tk:Nat) (out:Array ZF) (ss':List ZQ) (e:Nat),(∀b o,s.heap.get? b=some o->h1.get? b=some o)->(∀b o,h1.get? b=some o->h'.get? b=some o)->h'.get? h1.objs.size=some { cls:=.type "list",data:=.seq out e }->j53 out.toList ss'->ss'.Perm ss->sortedS ss'=true->Q (.ref h1.objs.size) { s with heap:=h',toks:=tk }) :
  W0 (B1 prog w) A (call (.builtin "sorted") [v]) Q E s:=by
 refine u8 j43 j34 j36 (args_sorted1 _) ?_;unfold D9.«sorted»;refine j0 (m:=j5e "sorted" 1 1 _) (G0 (j0 (hc _ λ h1 tk vs t a=>?_)));have d:vs.length < 64:=by rw [FS a];exact hn
 refine j0 (Q7 ?_ (C0 (X2 d) '!'));have c:(h1.push (W2 "list" vs.toArray 0)).get? h1.objs.size=some (W2 "list" vs.toArray 0):=j1 _ rfl;have u:KeysOf strKind (pairsOf vs):=λ p l=>by
  have:p.1∈vs:=by have:=(P9 (show (p.1,p.2)∈vs.zip vs by simpa [pairsOf] using l)).1;exact this
  exact Hy a _ this
 refine j0 (y4 (X3 j1d ⟨_,c,rfl⟩ j0i (list_sort_treeK strKind_oneLt c u (λ B z r e=>by subst e;exact keyKind_strs a) d λ g j n=>⟨_,rfl,?_⟩) (j5g _)));obtain ⟨ss',i,q,k⟩:=sorted_out_str a j n;obtain ⟨e,y⟩:=sortedHeap_at (out:=W8 (λ x=>x.snd) (j1i g)) c;refine G0 ⟨_,rfl,h h1 _ tk _ ss' e t (λ b o f=>?_) y i q k⟩;have lt:=V0 f;refine (sortedHeap_old (P1 lt) ?_).trans (B0 _ f);rw [size_push'];exact G2 lt
end
section
def KO (hcalm:X.calm=true):ck X (.builtin "sorted") (λ xs H Q=>∃a kvs ss,xs=[.ref a]/\H a=some (.dK kvs)/\kvs.map (·.1)=ss.map Sum.inr/\ss.length < 64/\∀(l:ZR) (ss':List ZQ),H l=none->ss'.Perm ss->sortedS ss'=true->Q (.ref l) (upd H l (.lst (ss'.map V.str)))):=by
 intro D s σ H xs Z Q I r h;obtain ⟨a,kvs,ss,rfl,P,C,n,q⟩:=h;obtain ⟨u,rfl,J⟩:=vals1 r;cases J;obtain ⟨F,M,d,v,S⟩:=kb I.hok P;obtain ⟨Y,E⟩:=S.dictAt;refine NY n (λ R O=>?_) λ m w c N ss' e U L g i p r=>?_
 ·have keys:d.map (·.1)=ss.map Sum.inr:=v.keys.symm.trans C;have K:d.length=ss.length:=by have:=ZT C7 keys;simpa using this
  refine j02 (PySem.W.kdl_dict M) (show X.A.in1.handled=none from I.ok.hd hcalm) E (by rw [<-v.length];exact F) λ w c a0 k f=>O w c _ k (uU (by rw [O0,f.1,K]) λ j u e=>?_);obtain ⟨y,x,T,G⟩:=f.2 j u (by rw [<-V2];exact e);have b:(d.map (·.1))[j]? = some y:=by rw [Z0,T];rfl
  rw [keys,Z0] at b;cases en:ss[j]? with
  | none=>rw [en] at b;cases b
  | some i=>
   rw [en] at b;have b:Sum.inr i=y:=Q1 b;subst b;rcases nz (show gN (.inr i) u=true from G) with ⟨_,_,z,_⟩|⟨i',t,z,rfl⟩
   ·cases z
   ·cases z;exact ⟨i,t,rfl,rfl⟩
 ·have B:Inv X D σ H { s with heap:=m }:=I.kept (t':=s.toks) U;refine ⟨.ref m.objs.size,_,B.laid (t':=c) (o:=.lst (ss'.map V.str)) L (o0 _) ⟨?_,N.toList,e,Dl i,by simpa using g⟩,rfl,q _ ss' (B.hok.fresh (o0 _)) p r⟩;rw [D0,p.length_eq];exact C0 (X2 n) '!'
end
def m_:V->List V->Hp->VK->Prop:=λ x vs H Q=>∃(l:ZR) (ss:List ZQ) (z:ZQ) (j:Nat),x=.ref l/\vs=[.str z]/\H l=some (.lst (ss.map V.str))/\ss.length<=1000/\ss[j]? = some z/\(∀m,m < j->ss[m]?≠some z)/\Q (.int (j:Nat)) H
section
def Og {ss:List ZQ} :∀{us:List ZF},aI (ss.map V.str) us->∀(j:Nat) (u:ZF),us[j]? = some u->∃y t,ss[j]? = some y/\u=Z6 y t:=by
 induction ss with
 | nil=>intro us r j u e;rw [j6] at r;cases r;simp at e
 | cons n ss ih=>
  intro us r j u e;rw [G1] at r;cases r with
  | cons r1 r2=>
   obtain ⟨t,rfl⟩:=r1;cases j with
   | zero=>rw [E3] at e;cases e;exact ⟨n,t,rfl,rfl⟩
   | succ j=>rw [N2] at e;exact ih r2 j u e
theorem NA:wR X "list.index" m_:=by
 intro K s σ H x N v L Q I A C h;obtain ⟨l,B,z,j,rfl,rfl,D,J,k,g,q⟩:=h;cases A;obtain ⟨u,rfl,w⟩:=C.one;obtain ⟨t,rfl⟩:=w;obtain ⟨M,b,n,r,O,e⟩:=I.lstM D;have lt:j < b.length:=by rw [<-r.length,D0];exact (List.getElem?_eq_some_iff.mp k).1
 let ev:ZF->Bool:=λ y=>match y with | .str a _=>a == z|_=>false
 have at_ :∀m (g:m < b.toArray.size),∃y d,B[m]? = some y/\b.toArray[m]=Z6 y d:=λ m g=>Og r m _ ((F0 (show m < b.length by simpa using g)).trans (by simp));refine j5f F.slot_list_index ⟨_,e,rfl⟩ F.entry_list_index (F.args_list_index_2 _ _) (SeqAt.list_indexAt l b.toArray n none #[] (.str z t) ev j (by simpa using lt) ?_ ?_ ?_) ⟨e,λ y G=>?_,?_⟩
 ·have:=(List.getElem?_eq_some_iff.mp k).1;have:(j:Int) < 1000:=by lia
  exact Int.lt_trans this '!'
 ·obtain ⟨y,d,c,f⟩:=at_ j (by simpa using lt);rw [f];rw [k] at c;cases c;exact beq_self_eq_true z
 ·intro m i E;obtain ⟨y,d,c,f⟩:=at_ m i;rw [f];refine beq_eq_false_iff_ne.mpr λ e=>g m E ?_;rw [c,e]
 ·obtain ⟨m,i,o⟩:=Array.mem_iff_getElem.mp G;obtain ⟨p,d,c,f⟩:=at_ m i;rw [f] at o;subst o;exact j44 p d z t
 ·exact ⟨.int (j:Nat),H,I.tok _,⟨_,rfl⟩,q⟩
def FI {o:ZM} {es:List ZM} {to:TE} {t:TA} {apos cpos:ZO} (ho:PE X o to) (ha:PA X (e :: es) t)
  (hbase:M4 o "index" X.env (U3 o X.env)=U3 o X.env:=by rfl)
  (hfew:((J4 cpos (S1 (e :: es) X.env)).all (λ x=>!x.1) && (j1h cpos (U7 [] X.env)).all (λ x=>x.1.isSome) && decide ((e :: es).length + ([]:List m7).length + (if ([]:List m7).isEmpty then 0 else 1) < 30))=true:=by rfl)
  (hline:(apos.endLine == cpos.line)=true:=by rfl) (hs:S1 (e :: es) X.env=(false,U3 e X.env) :: S1 es X.env:=by rfl) (hplain:(J4 cpos (S1 es X.env)).any (·.1)=false:=by rfl) :
  PE X (.Call (.Attribute o "index" apos) (e :: es) [] cpos) (tD X.K "list" m_ to t):=mU A6 PySem.F.slot_list_index PySem.F.type_list_index NA ho ha hbase hfew hline hs hplain
end
noncomputable def fP (xs:List V) (lo hi st:Option Int):List V:=(sliceRange (C3 lo hi st xs.length).1 (C3 lo hi st xs.length).2.1 (C3 lo hi st xs.length).2.2).filterMap λ i=>xs[i]?
variable {xs:List V}
def IB {lo hi st:Option Int} {y:V} (h:y∈fP xs lo hi st):y∈xs:=by obtain ⟨i,_,e⟩:=List.mem_filterMap.mp h;exact S0 e
theorem Iy {us:List ZF} (r:aI xs us) :∀is:List Nat,aI (is.filterMap λ i=>xs[i]?) (is.filterMap λ i=>us[i]?)
 | []=>.nil
 | i :: is=>by
  have a:=Iy r is;have c:=r.length;cases e:xs[i]? with
  | none=>have d:us[i]? = none:=L4 (by rw [<-c];exact List.getElem?_eq_none_iff.mp e);rw [j4b e,j4b d];exact a
  | some x=>obtain ⟨u,b,f⟩:=r.get e;rw [j4a e,j4a b];exact .cons f a
theorem Nt {lo hi:Option Int} {k:Int} (hk:0 < k):(fP xs lo hi (some k)).length<=xs.length:=by
 refine C0 (M8 _ _) ?_;have c:(C3 lo hi (some k) xs.length).2.2=k:=rfl;have e:0<=(C3 lo hi (some k) xs.length).1:=by
  cases lo with
  | none=>show 0<=(if k > 0 then (0:Int) else _);rw [ZZ hk];exact j30 _
  | some i=>show 0<=(if k > 0 then max (0:Int) _ else _);rw [ZZ hk];exact Int.le_max_left _ _
 have d:(C3 lo hi (some k) xs.length).2.1<=(xs.length:Int):=by
  cases hi with
  | none=>show (if k > 0 then (xs.length:Int) else _)<=_;rw [ZZ hk];exact j30 _
  | some i=>show (if k > 0 then max (0:Int) (min _ (xs.length:Int)) else _)<=_;rw [ZZ hk];lia
 rw [c];generalize (C3 lo hi (some k) xs.length).1=a at e⊢;generalize (C3 lo hi (some k) xs.length).2.1=b at d⊢;unfold sliceRange;rw [D0,B2,ZZ hk];by_cases z:a < b
 ·rw [ZZ z];have:(b - a + k - 1) / k < b - a + 1:=by
   apply Int.ediv_lt_of_lt_mul hk;have:(b - a + 1) * k=(b - a) * k + k:=by rw [Int.add_mul,Int.one_mul]
   have f:b - a<=(b - a) * k:=by
    have:=Int.mul_le_mul_of_nonneg_left (show (1:Int)<=k by lia) (show 0<=b - a by lia)
    lia
   lia
  lia
 ·rw [Z_ z];exact J1 _
def Cb (K:c0) (te:TE) (tl th ts:TO):TE:=λ σ H Q=>te σ H λ x H1=>tl σ H1 λ l H2=>th σ H2 λ u H3=>ts σ H3 λ k H4=>∃a xs,x=.ref a/\aH K H4 a xs/\k≠some 0/\(fP xs l u k).length<=ZE/\∀p,H4 p=none->Q (.ref p) (upd H4 p (.lst (fP xs l u k)))
theorem Kw {lo hi:Option ZM} {st:ZM} {tl th ts:TO} {p2:ZO} (he:PE X e te) (hl:PO X lo tl) (hu:PO X hi th) (hs:PO X (some st) ts):PE X (.Subscript e (.Slice lo hi (some st) p2) pos) (Cb X.K te tl th ts):=by
 intro d s σ H Q I h;refine j5j (ba (he d s σ H _ I h) λ v D zz=>?_);obtain ⟨x,H1,I1,r1,q1⟩:=zz;refine wpAny_Slice (ba (hl d D σ H1 _ I1 q1) λ p B ⟨l,H2,I2,pl,q2⟩=>ba (hu d B σ H2 _ I2 q2) λ m z ⟨u,H3,I3,pu,q3⟩=>ba (hs d z σ H3 _ I3 q3) λ n c zz=>?_);obtain ⟨k,H4,I4,pk,a,xs,ex,hx,k0,hz,q⟩:=zz;subst ex;cases r1;have f:Inv X d σ H4 { c with heap:=c.heap.push { cls:=.type "slice",data:=.fields #[p,m,n] } }:=I4.kept (t':=c.toks) λ b y q=>B0 _ q;obtain ⟨j,r,g,E⟩:=f.list hx;have C:=r.length;refine (show W0 (B1 X.prog X.w) X.A (j2b e (.Slice lo hi (some st) p2) (.ref a) (.ref c.heap.objs.size)) (EP X d σ Q) X.xe { c with heap:=c.heap.push { cls:=.type "slice",data:=.fields #[p,m,n] } } from ?_);refine j5b (ops:=[.ref a,.ref c.heap.objs.size]) g.isList.typeIs slot_list_getitem.lookup ?_ (by with_unfolding_all rfl);refine wpAny_getItem_list_slice g.isList (j31 ..) pl pu pk k0 ?_ (by rw [M0];lia);have t:slicePick j.toArray l u k=((sliceRange (C3 l u k xs.length).1 (C3 l u k xs.length).2.1 (C3 l u k xs.length).2.2).filterMap λ i=>j[i]?).toArray:=by unfold slicePick;rw [M0,<-C];simp only [W9]
 rw [t];exact ⟨.ref _,_,f.laid (t':=c.toks) (o:=.lst (fP xs l u k)) (λ b y q=>B0 _ q) (o0 _) ⟨hz,_,0,Iy r _,j1 _ rfl⟩,rfl,q _ (f.hok.fresh (o0 _))⟩
def uP (K:c0):R2:=λ x y H Q=>∃a b xs ys,x=.ref a/\y=.ref b/\aG K H a xs/\aG K H b ys/\xs.length + ys.length<=ZE/\∀p H',af H H'->aG K H' p (xs++ys)->Q (.ref p) H'
def xT:ei X (G5 .Add) (uP X.K):=by
 intro f s σ H x y v u Q I i g h;obtain ⟨a,b,c,k,rfl,rfl,e,d,j,q⟩:=h;by_cases hy:k=[]
 ·subst hy;cases c with
  | nil=>exact Il f s σ H _ _ v u Q I i g ⟨a,b,[],rfl,rfl,e,d,q b H (af.refl H) d⟩
  | cons x c=>exact ux f s σ H _ _ v u Q I i g ⟨a,b,x :: c,[],rfl,rfl,e,d,by simp,j,λ _=>q a H (af.refl H) (by rw [A3];exact e),λ z=>ZU rfl z⟩
 ·exact eN f s σ H _ _ v u Q I i g ⟨a,b,c,k,rfl,rfl,e,d,hy,j,q⟩
def og {c:ZM} {a b:List ZK} {t:TT} {ta tb:TS} (hc:PT X c t) (ha:oC X a ta) (hb:oC X b tb):QS X (.If c a b pos) (kG t ta tb):=⟨aJ hc ha.run hb.run⟩
theorem D_:∀{ys:List V},(∀y∈ys,∃i:Int,y=.int i)->∃ms:List Int,ys=ms.map V.int
 | [],_=>⟨[],rfl⟩
 | y :: ys,h=>by obtain ⟨i,rfl⟩:=h y R0;obtain ⟨ms,rfl⟩:=D_ λ z a=>h z (Y0 _ a);exact ⟨i :: ms,rfl⟩
def Rg {f:List V->Hp->VK->Prop} {tb:TE} {r:R2} {σ:St} {Q:Bool->Hp->Prop} (h:te σ H λ x H1=>f [x] H1 λ y H2=>tb σ H2 λ z H3=>r y z H3 λ b H4=>∃k,b=.bl k/\Q k H4):oS (jK r (nU f (eu te gz)) tb) σ H Q:=h
variable {D:Ends}
def vf {c:TT} {a b:TS} {σ:St} (h:c σ H λ k H1=>if k=true then a D σ H1 else b D σ H1):kG c a b D σ H:=h
variable {K:c0} {a:ZR}
def Lp (hq:aH K H1 a xs):iq af (kY K a) H1 xs.length (λ i v H=>∃x p,xs[i]? = some x/\v=.ref p/\H p=some (.tup [.int (i:Nat),x])):=by refine ⟨λ i b H s=>⟨xs,xs[i],s.seq hq,by simp [b]⟩,λ H s=>⟨xs,s.seq hq,rfl⟩,λ i b H v e s y=>?_⟩;obtain ⟨p,c,rfl,f⟩:=y;obtain ⟨x,d,rfl⟩:=f xs (s.seq hq);exact ⟨af.upd c,x,p,d,rfl,ab⟩
variable {σ:L2.St}
def Ap {tl:TE} {Q:VK} (p:Nat->Bool) (R:Nat->V->Hp->Prop) (hR :∀i y H H',af H H'->R i y H->R i y H') (htl :∀R:VK,R (.ref a) H1->tl σ H R) (hq:aH K H1 a xs) (hn:xs.length<=ZE)
  (body :∀i,i < xs.length->∀v H,af H1 H->xs[i]? = some v->∀(KT:VK) (KF:Hp->Prop),(p i=true->∀y H',af H H'->R i y H'->KT y H')->(p i=false->∀H',af H H'->KF H')->
   g v (aL σ fr (A2 m none)) H λ σ6 H6=>∃us,us.length=m/\σ6=aL σ fr us/\tc (aL σ fr us) H6 λ b H2=>if b=true then te (aL σ fr us) H2 KT else KF H2)
  (hQ :∀l H' ys,af H1 H'->H' l=none->av (λ i y=>R i y H') ((L1 xs.length).filter p) ys->Q (.ref l) (upd H' l (.lst ys))):cH (ij K tl) m fr g tc te σ H Q:=
 htl _ ⟨a,rfl,⟨xs,hq⟩,rX (af.refl _) (λ _ _ _ a b=>a.trans b) p R hR (Gz (S:=af) (λ _ _=>af.refl _) λ H s=>s.seq hq) hn body hQ⟩
def Rq {ta:TA} {Q:VK} (p:Nat->Bool) (R:Nat->V->Hp->Prop) (hR :∀i y H H',af H H'->R i y H->R i y H') (hta :∀T:List V->Hp->Prop,T [.ref a] H1->ta σ H T) (hq:aH K H1 a xs) (hn:xs.length<=ZE)
  (body :∀i,i < xs.length->∀v H,af H1 H->(∃x p,xs[i]? = some x/\v=.ref p/\H p=some (.tup [.int (i:Nat),x]))->∀(KT:VK) (KF:Hp->Prop),(p i=true->∀y H',af H H'->R i y H'->KT y H')->(p i=false->∀H',af H H'->KF H')->
   g v (aL σ fr (A2 m none)) H λ σ6 H6=>∃us,us.length=m/\σ6=aL σ fr us/\tc (aL σ fr us) H6 λ b H2=>if b=true then te (aL σ fr us) H2 KT else KF H2)
  (hQ :∀l H' ys,af H1 H'->H' l=none->av (λ i y=>R i y H') ((L1 xs.length).filter p) ys->Q (.ref l) (upd H' l (.lst ys))):cH (FK K ta) m fr g tc te σ H Q:=
 hta _ ⟨a,xs,rfl,hq,rX (af.refl _) (λ _ _ _ a b=>a.trans b) p R hR (Lp hq) hn body hQ⟩
def sg {tl:TE} {Q:VK} (p:Nat->Bool) (R:Nat->V->Hp->Prop) (hR :∀i y H H',af H H'->R i y H->R i y H') (htl :∀R:VK,R (.ref a) H1->tl σ H R) (hq:aG K H1 a xs) (hn:xs.length<=ZE)
  (body :∀i,i < xs.length->∀v H,af H1 H->xs[i]? = some v->∀(KT:VK) (KF:Hp->Prop),(p i=true->∀y H',af H H'->R i y H'->KT y H')->(p i=false->∀H',af H H'->KF H')->
   g v (aL σ fr (A2 m none)) H λ σ6 H6=>∃us,us.length=m/\σ6=aL σ fr us/\tc (aL σ fr us) H6 λ b H2=>if b=true then te (aL σ fr us) H2 KT else KF H2)
  (hQ :∀l H' ys,af H1 H'->H' l=none->av (λ i y=>R i y H') ((L1 xs.length).filter p) ys->Q (.ref l) (upd H' l (.lst ys))):cH (qJ K tl) m fr g tc te σ H Q:=
 htl _ ⟨a,rfl,⟨xs,hq⟩,rX (af.refl _) (λ _ _ _ a b=>a.trans b) p R hR (EH (S:=af) (λ _ _=>af.refl _) λ H s=>s.seqT hq) hn body hQ⟩
def mW {f:List V->Hp->VK->Prop} {Q:VK} (h:te σ H λ x H1=>f [x] H1 Q):nU f (eu te gz) σ H Q:=h
def nM {t u:TT} {Q:Bool->Hp->Prop} (h:t σ H λ c H1=>if c=true then Q true H1 else u σ H1 Q):Ia t u σ H Q:=h
def gL {c:TT} {a b rest:TS} (h:c σ H λ k H1=>if k=true then a { D with nx:=rest D } σ H1 else b { D with nx:=rest D } σ H1):gD (kG c a b) rest D σ H:=h
def gv (h:te σ H D.rt):kW te D σ H:=h
section
variable {pins:List (ZR×ZP)} {σ:St} {s:A0} {u v:HO}
def Inv.retold (I:Inv X pins σ H s) (e:H a=some u) (nt :∀xs,u≠.tup xs) (nb :∀ps,u≠.tbl ps) (no :∀c,u≠.own c) (nf :∀o w,X.H₀ a≠some (.frz o w)) (ok:bb X.prog X.w (upd H a v) s.heap a v):Inv X pins σ (upd H a v) s:=by
 have d :∀{b:ZR},H b=none->b≠a:=λ n z=>by rw [z,e] at n;cases n
 refine ⟨I.ok,I.os,I.bare,⟨I.base.keep,I.base.slot,λ b o q n k=>?_,I.base.there,λ b xs q=>?_,λ b o w q=>?_,λ b ps q=>?_⟩,I.loc,I.cell,?_,λ x c q=>?_,λ p j=>?_,λ b o q=>?_,I.len⟩
 ·have z:=I.base.free b o q n k;rw [ak (d z)];exact z
 ·have z:=I.base.tups b xs q;rw [ak (λ y=>by rw [y,e] at z;exact nt xs (Q1 z))];exact z
 ·have z:=I.base.frzs b o w q;rw [ak (λ y=>by rw [y] at q;exact nf o w q)];exact z
 ·obtain ⟨i,z⟩:=I.base.tbls b ps q;exact ⟨i,by rw [ak (λ y=>by rw [y,e] at z;exact nb _ (Q1 z))];exact z⟩
 ·rw [ak (d I.free)];exact I.free
 ·rw [ak (d (I.freeC x c q))];exact I.freeC x c q
 ·obtain ⟨h,f,g⟩:=I.pin p j;exact ⟨h,by rw [ak (d f)];exact f,g⟩
 ·by_cases z:b=a
  ·subst z;rw [ab] at q;cases q;exact ok
  ·rw [ak z] at q;refine (I.hok b o q).stay (λ _ _ _ y=>y) (λ c y=>?_) λ c xs y=>?_
   ·rw [ak (λ x=>by rw [x,e] at y;exact no b (Q1 y))];exact y
   ·rw [ak (λ x=>by rw [x,e] at y;exact nt xs (Q1 y))];exact y
end
def BU {Q:List V->Hp->Prop} (h:te σ H λ y H1=>Q [y] H1):eu te gz σ H Q:=h
section
def tG (K:c0):R2:=λ x y H Q=>∃a b xs,x=.ref a/\y=.ref b/\aH K H a xs/\aH K H b []/\Q (.bl (decide (xs≠[]))) H
def FW {k:Nat} (hr:bL k X.A):ei X (T2 .NotEq) (tG X.K):=by
 intro B s σ H x y v u Q I o i h;obtain ⟨a,b,n,rfl,rfl,r,p,q⟩:=h;cases o;cases i;obtain ⟨C,g,f,_⟩:=I.list r;obtain ⟨D,m,d,_⟩:=I.list p;cases m;have c:X.A.units < ZD:=Nat.lt_of_succ_lt (cQ hr);have t:=g.length;cases n with
 | nil=>cases g;exact SeqAt.RcNeAt.lists (e:=λ _=>true) f.isList d.isList rfl c (λ j l _=>ZU l (C4 _)) X.prog X.w _ _ ⟨.bl _,H,I,rfl,q⟩
 | cons z zs=>refine SeqAt.RcNeAt.lists_lengths f.isList d.isList ?_ c X.prog X.w _ _ ⟨.bl _,H,I,rfl,q⟩;rw [M0,<-t];rfl
end
structure I_ (h:ZL) (z T U i j a b:ZR) (n:Nat) (f:ZF):Prop where
 z:IsZip h z T U f
 t:IsPair h T (.ref i) (.ref j)
 u :∃p q,IsPair h U p q
 i:h.IsListIter i a n
 j:h.IsListIter j b n
noncomputable def jl (c:Nat):List (List Nat)->List Nat
 | []=>[]
 | [a]=>a
 | a :: b :: r=>a++c :: jl c (b :: r)
open PySem.NumText
end L2
open PySem PySem.W PyProof.Rows
namespace TJ
section
variable (p:ZI) (w:X0) (n₀:Nat) (ann:Option ZF) (code:Code) (q:ZO)
theorem JY {n m:Nat} :∀{s s' s'':A0} {t t' t'':j5i},segGo P3 p w n₀ ann 1 n s t=some (s',t')->segGo P3 p w n₀ ann 1 m s' t'=some (s'',t'')->
  segGo P3 p w n₀ ann 1 (n + m) s t=some (s'',t''):=by
 induction n with
 | zero=>
  intro s s' s'' t t' t'' h k;obtain ⟨rfl,rfl⟩:s=s'/\t=t':=by simpa [segGo] using h
  rw [S4];exact k
 | succ n ih=>
  intro s s' s'' t t' t'' h k;rw [show n + 1 + m=n + m + 1 by omega];unfold segGo at h⊢;cases he:endAt 1 t with
  | some f=>rw [he] at h;cases h
  | none=>
   rw [he] at h;cases hk:stepOk n₀ ann t with
   | false=>rw [hk] at h;cases h
   | true=>
    rw [hk] at h;cases hs:step (denote P3) p w s t with
    | halt o s₂=>rw [hs] at h;cases h
    | go s₂ t₂=>rw [hs] at h;exact ih h k
def eV (c:Nat) (s:A0) (t:j5i) (s':A0) (t':j5i):Prop:=∃n,n<=c/\segGo P3 p w n₀ ann 1 n s t=some (s',t')
def Goes {α:Type} (c:Nat) (x:ZN α) (s:A0) (pos:ZO) (a:α) (s':A0) (pos':ZO):Prop:=
 ∀(K:α->ZN Fin) (H:ZF->ZN Fin) (gd:Bool->Bool) (lv:List ZF->List ZF),
  eV p w n₀ ann c s ⟨x.wrap K H gd lv,code,pos,[topFrame q]⟩ s' ⟨K a,code,pos',[topFrame q]⟩
end
variable {ann part:Option ZF} {c n₀:Nat} {code:Code} {o:ZP} {p:ZI} {pos pos' q:ZO} {s s':A0} {t:j5i} {w:X0}
section
theorem eV.trans {d:Nat} {s'':A0} {t' t'':j5i} (h:eV p w n₀ ann c s t s' t') (k:eV p w n₀ ann d s' t' s'' t''):eV p w n₀ ann (c + d) s t s'' t'':=by obtain ⟨n,b,h⟩:=h;obtain ⟨m,a,k⟩:=k;exact ⟨n + m,by omega,JY p w n₀ ann h k⟩
def eV.refl:eV p w n₀ ann 0 s t s t:=⟨0,o0 _,rfl⟩
def eV.le {d:Nat} {t':j5i} (h:eV p w n₀ ann c s t s' t') (l:c<=d):eV p w n₀ ann d s t s' t':=let ⟨n,a,b⟩:=h;⟨n,C0 a l,b⟩
def eV.one {t':j5i} (he:endAt 1 t=none) (hk:stepOk n₀ ann t=true) (hs:step (denote P3) p w s t=.go s' t'):eV p w n₀ ann 1 s t s' t':=by refine ⟨1,o0 _,?_⟩;unfold segGo;rw [he,hk,hs];rfl
variable {α β:Type} {s'':A0} {pos'':ZO} {a:α} {b:β} {d:Nat}
def Goes.pure:Goes p w n₀ ann code q 0 (j4i a:ZN α) s pos a s pos:=λ _ _ _ _=>.refl
def Goes.le {x:ZN α} (h:Goes p w n₀ ann code q c x s pos a s' pos') (l:c<=d):Goes p w n₀ ann code q d x s pos a s' pos':=λ K H e b=>(h K H e b).le l
def Goes.bind {x:ZN α} {f:α->ZN β} (h:Goes p w n₀ ann code q c x s pos a s' pos') (k:Goes p w n₀ ann code q d (f a) s' pos' b s'' pos''):Goes p w n₀ ann code q (c + d) (x >>= f) s pos b s'' pos'':=by
 intro K H i g;have e:(x >>= f).wrap K H i g=x.wrap (λ a=>(f a).wrap K H i g) H i g:=by rw [Sem.bind_eq_wrap',Sem.wrap_wrap];rfl
 rw [e];exact (h _ H i g).trans (k K H i g)
def Goes.keep {x:ZN α} {vs:List ZF} (h:Goes p w n₀ ann code q c x s pos a s' pos'):Goes p w n₀ ann code q c (x.keep vs) s pos a s' pos':=by intro K H d b;rw [Sem.keep_eq_wrap,Sem.wrap_wrap];exact h K H _ _
def Goes.holding {x:ZN α} {vs:List ZF} (h:Goes p w n₀ ann code q c x s pos a s' pos'):Goes p w n₀ ann code q c (j35 vs x) s pos a s' pos':=by rw [holding_eq_keep];exact h.keep
def Goes.rule {tag:String}:Goes p w n₀ ann code q 1 (PySem.rule tag) s pos () s pos:=λ _ _ _ _=>.one rfl rfl rfl
def Goes.at' {pos₁:ZO}:Goes p w n₀ ann code q 1 (j52 pos₁) s pos () s pos₁:=λ _ _ _ _=>.one rfl rfl rfl
def Goes.loadPart {A:ZR} (ho:s.heap.get? A=some o):Goes p w n₀ ann code q 1 (loadPart A part) s pos o s pos:=λ K H e a=>.one rfl rfl (by obtain ⟨heap,d,f,c,b⟩:=s;show (match heap.get? A with|some o=>Step.go _ _|none=>_)=_;have ho:heap.get? A=some o:=ho;rw [ho];rfl)
def Goes.updatePart {A:ZR} {f:ZP->ZP} (ho:s.heap.get? A=some o) (hn:Nat.ble n₀ A=true):Goes p w n₀ ann code q 1 (updatePart A part f) s pos () { s with heap:=s.heap.update A f } pos:=λ K H e a=>
 .one rfl (by
  show (_ && (Nat.ble n₀ A || _ || _ || _))=true;rw [hn];rfl) (by
  obtain ⟨heap,d,g,c,b⟩:=s;have ho:heap.get? A=some o:=ho;show (if (heap.get? A).isSome=true then Step.go _ _ else _)=_;rw [ho];rfl)
def Goes.leaf {x:ZN α} {sT sT':SharedT} (n:Nat) (h :∀K H gd lv,segGoT P3 p w n₀ ann 1 n sT ⟨x.wrap K H gd lv,code,pos,[topFrame q]⟩=some (sT',⟨K a,code,pos',[topFrame q]⟩)) :
  Goes p w n₀ ann code q n x sT.abs pos a sT'.abs pos':=λ K H gd lv=>⟨n,o0 _,segGo_of (h K H gd lv)⟩
end
variable {a d:ZR} {cq ep:Nat} {es:Array ZG}
section
theorem Goes.forIn {γ β:Type} {f:γ->β->ZN (ForInStep β)} {b:β} :∀{l:List γ},(∀x∈l,Goes p w n₀ ann code q c (f x b) s pos (.yield b) s pos)->Goes p w n₀ ann code q (l.length * c) (ForIn.forIn l b f) s pos b s pos
 | [],_=>by rw [n5];exact Goes.pure.le (J1 _)
 | x :: l,h=>by rw [A4];have k:=Goes.forIn (l:=l) λ y a=>h y (Y0 _ a);have e:=Goes.bind (f:=λ r=>match r with | .done b=>(j4i b:ZN β) | .yield b=>ForIn.forIn l b f) (h x R0) k;exact e.le (by rw [U0,Nat.add_mul];omega)
def Goes.entries (ho:s.heap.get? d=some o) (hd:o.data=.dict es ep):Goes p w n₀ ann code q 1 (dictEntries d part) s pos es s pos:=by unfold dictEntries;refine (Goes.bind (d:=0) (Goes.loadPart ho) ?_);rw [hd];exact Goes.pure
def Goes.epoch (ho:s.heap.get? d=some o) (hd:o.data=.dict es ep):Goes p w n₀ ann code q 1 (dictEpoch d part) s pos ep s pos:=by unfold dictEpoch;refine (Goes.bind (d:=0) (Goes.loadPart ho) ?_);rw [hd];exact Goes.pure
def Goes.mayTell {stored:List ZF} (hq:Goes p w n₀ ann code q cq (T4 8 (.ref a)) s pos true s pos) (hs :∀v∈stored,Goes p w n₀ ann code q cq (T4 8 v) s pos true s pos) :
  Goes p w n₀ ann code q (cq + stored.length * cq) (tableMayTell (.ref a) stored) s pos false s pos:=by
 unfold tableMayTell;split
 ·exact Goes.pure.le (J1 _)
 ·refine Goes.bind hq ?_;simp only [B6,m3,if_false];refine (Goes.bind (a:=(none,())) (d:=0) (Goes.forIn λ v b=>?_) ?_).le (o0 _)
  ·refine (Goes.bind (d:=0) (hs v b) ?_).le (o0 _);simp only [B6,m3,if_false];exact Goes.pure
  ·exact Goes.pure
theorem Goes.find_none {h:Int} {ce:Nat} (ho:s.heap.get? d=some o) (hd:o.data=.dict es ep)
  (hq:Goes p w n₀ ann code q cq (T4 8 (.ref a)) s pos true s pos)
  (hk :∀e∈es.toList,∃b,e.key=.ref b/\b≠a/\Goes p w n₀ ann code q cq (T4 8 (.ref b)) s pos true s pos/\Goes p w n₀ ann code q ce (eqBool (.ref b) (.ref a)) s pos false s pos) :
  Goes p w n₀ ann code q (2 + cq + es.size * (cq + ce + 10)) (dictFind d (.ref a) h) s pos none s pos:=by
 have n :∀(i:Nat) (e:ZG),es[i]? = some e->e∈es.toList:=λ i e B=>Array.mem_toList_iff.mpr (Array.mem_of_getElem? B);have x:¬ (es.any λ e=>e.key == P0 a && e.hash != h)=true:=by rw [<-Array.any_toList,Z8];rintro ⟨e,hin,hc⟩;obtain ⟨b,f,g,_⟩:=hk e hin;simp only [f,Z2,beq_iff_eq,Value.ref.injEq] at hc;exact g hc.1
 have l :∀v∈(i7 es.size (λ i=>es[i]?.map (·.hash)) h).filterMap (λ i=>es[i]?.map (·.key)),∃b,v=.ref b/\b≠a/\Goes p w n₀ ann code q cq (T4 8 v) s pos true s pos:=by
  intro v k;obtain ⟨i,_,j⟩:=List.mem_filterMap.mp k;cases hei:es[i]? with
  | none=>rw [hei] at j;cases j
  | some e=>
   rw [hei] at j;obtain rfl:e.key=v:=by simpa using j
   obtain ⟨b,f,g,r,_⟩:=hk e (n i e hei);exact ⟨b,f,g,f ▸ r⟩
 have m:(i7 es.size (λ i=>es[i]?.map (·.hash)) h).length<=es.size:=by unfold i7;exact C0 (K3 _ _) (by rw [B2];exact o0 _)
 have A:((i7 es.size (λ i=>es[i]?.map (·.hash)) h).filterMap (λ i=>es[i]?.map (·.key))).length<=es.size:=C0 (M8 _ _) m;unfold dictFind;refine Goes.holding ?_;refine (Goes.bind (d:=1 + cq + es.size * (cq + ce + 10)) (Goes.entries ho hd) ?_).le (by omega);dsimp only;rw [Z_ (show ¬ ((P0 a :: (i7 es.size (λ i=>es[i]?.map (·.hash)) h).filterMap (λ i=>es[i]?.map (·.key))).all carriedByValue)=true by simp [carriedByValue])];rw [Z_ x];have y:¬ (((i7 es.size (λ i=>es[i]?.map (·.hash)) h).filterMap (λ i=>es[i]?.map (·.key))) == [P0 a])=true:=by intro e;have e:=eq_of_beq e;obtain ⟨b,f,g,_⟩:=l (.ref a) (by rw [e];exact List.mem_singleton.mpr rfl);exact g (by injection f with f;exact f.symm)
 rw [Z_ y];refine (Goes.bind (d:=1 + es.size * (ce + 10)) (Goes.mayTell hq λ v k=>(let ⟨_,_,_,z⟩:=l v k;z)) ?_).le ?_
 ·rw [Z_ (by simp)];refine (Goes.bind (a:=(none,none)) (d:=0) (Goes.forIn (c:=ce + 10) λ i j=>?_) ?_).le ?_
  ·cases hei:es[i]? with
   | none=>exact Goes.pure.le (J1 _)
   | some e=>
    dsimp only;split
    ·obtain ⟨b,f,g,_,u⟩:=hk e (n i e hei);rw [f];refine (Goes.bind (d:=ce + 2) (Goes.epoch ho hd) (Goes.bind (d:=2) u (Goes.bind (d:=1) (Goes.epoch ho hd) ?_))).le (by omega);rw [Z_ (by simp)];rw [Z_ (by simp)];refine Goes.bind (d:=0) Goes.rule ?_;rw [Z_ (by simp)];exact Goes.pure
    ·exact Goes.pure.le (J1 _)
  ·exact Goes.pure
  ·have:=G7 (ce + 10) m;omega
 ·have:=G7 cq A;have t:es.size * (cq + ce + 10)=es.size * cq + es.size * (ce + 10):=by rw [<-Nat.mul_add,U8]
  rw [t];omega
end
noncomputable abbrev cE (es:Array ZG) (ep:Nat):ZP:={ cls:=.type "dict",data:=.dict es ep }
noncomputable abbrev wA:=ZR×ZF×Int
noncomputable def ent (x:wA):ZG:=⟨x.2.2,.ref x.1,x.2.1⟩
noncomputable def sL (a:ZR):ZN ZF:=do rule "hash.unhashable";raiseError "TypeError" s!"unhashable type: '{← typeNameOf (.ref a)}'"
noncomputable def xx (d:ZR) (vs:List (ZF×ZF)):ZN PUnit:=N5 vs j15 λ (x:ZF×ZF) (_:PUnit)=>(do dictSet d x.1 x.2;Y1 (U2 j15):ZN (ForInStep PUnit))
variable {N:Nat} {env:Env}
section
variable {F:ZP->Nat->SharedT} 
structure xf (n₀:Nat) (d:ZR) (F:ZP->Nat->SharedT):Prop where
 le:Nat.ble n₀ d=true
 get :∀es ep tk,(F (cE es ep) tk).abs.heap.get? d=some (cE es ep)
 upd :∀es ep tk (e:ZG),({ (F (cE es ep) tk).abs with heap:=(F (cE es ep) tk).abs.heap.update d (S9 (·.push e)) }:A0)=(F (cE (es.push e) (ep + 1)) tk).abs
theorem Goes.updKeys (Z:xf n₀ d F) {tk:Nat} {e:ZG} (hsz:es.size < ZE) :
  Goes p w n₀ ann code q 3 (updateDictKeys d (·.push e) part) (F (cE es ep) tk).abs pos () (F (cE (es.push e) (ep + 1)) tk).abs pos:=by
 unfold updateDictKeys;refine (Goes.bind (d:=2) (Goes.loadPart (Z.get es ep tk)) ?_);dsimp only;have u:=Goes.updatePart (p:=p) (w:=w) (ann:=ann) (code:=code) (q:=q) (pos:=pos) (part:=part) (f:=S9 (·.push e)) (Z.get es ep tk) Z.le;rw [Z.upd es ep tk e] at u;refine Goes.bind (d:=1) u ?_;unfold lookBehind;refine Goes.bind (d:=0) (Goes.loadPart (Z.get _ _ tk)) ?_;have a:(cE (es.push e) (ep + 1)).data.pastItsLine=none:=by unfold Data.pastItsLine;dsimp only;rw [Z_ (by rw [Array.size_push];omega)]
 rw [a];exact Goes.pure
theorem Goes.set (Z:xf n₀ d F) {v:ZF} {tk k cp ce:Nat} {hsh:Int} (hsz:es.size < ZE)
  (hpy:Goes p w n₀ ann code q cp (pyHash (.ref a)) (F (cE es ep) tk).abs pos hsh (F (cE es ep) (tk + k)).abs pos)
  (hq:Goes p w n₀ ann code q cq (T4 8 (.ref a)) (F (cE es ep) (tk + k)).abs pos true (F (cE es ep) (tk + k)).abs pos)
  (hk :∀e∈es.toList,∃b,e.key=.ref b/\b≠a/\Goes p w n₀ ann code q cq (T4 8 (.ref b)) (F (cE es ep) (tk + k)).abs pos true (F (cE es ep) (tk + k)).abs pos/\
   Goes p w n₀ ann code q ce (eqBool (.ref b) (.ref a)) (F (cE es ep) (tk + k)).abs pos false (F (cE es ep) (tk + k)).abs pos) :
  Goes p w n₀ ann code q (cp + (2 + cq + es.size * (cq + ce + 10)) + 4) (dictSet d (.ref a) v) (F (cE es ep) tk).abs pos () (F (cE (es.push ⟨hsh,.ref a,v⟩) (ep + 1)) (tk + k)).abs pos:=by
 unfold dictSet;refine Goes.holding ?_;refine (Goes.bind (d:=(2 + cq + es.size * (cq + ce + 10)) + 4) hpy ?_).le (by omega);unfold dictSetHashed;refine Goes.holding ?_;refine Goes.bind (d:=4) (Goes.find_none (h:=hsh) (Z.get es ep (tk + k)) rfl hq hk) ?_;exact Goes.bind (d:=3) Goes.rule (Goes.updKeys Z hsz)
def NT {γ β:Type} {f:γ->β->ZN (ForInStep β)} {x:γ} {xs:List γ} {b b' b'':β} {c':Nat} {s'':A0} (h:Goes p w n₀ ann code q c (f x b) s pos (.yield b') s' pos) (k:Goes p w n₀ ann code q c' (N5 xs b' f) s' pos b'' s'' pos) :
  Goes p w n₀ ann code q (c + c') (N5 (x :: xs) b f) s pos b'' s'' pos:=by
 rw [A4];exact Goes.bind (f:=λ r=>match r with | .done b=>(j4i b:ZN β) | .yield b=>N5 xs b f) h k
theorem Goes.loop (Z:xf n₀ d F) {cp ce:Nat} (all:List wA) (hN:all.length<=N) (hN':N < ZE) (hnd:(all.map (·.1)).Nodup)
  (hQ :∀x∈all,∀oD tk,Goes p w n₀ ann code q cq (T4 8 (.ref x.1)) (F oD tk).abs pos true (F oD tk).abs pos)
  (hE:all.Pairwise λ x y=>∀oD tk,Goes p w n₀ ann code q ce (eqBool (.ref x.1) (.ref y.1)) (F oD tk).abs pos false (F oD tk).abs pos)
  (hH :∀x∈all,∀oD tk,Goes p w n₀ ann code q cp (pyHash (.ref x.1)) (F oD tk).abs pos x.2.2 (F oD (tk + 3)).abs pos) :
  ∀(todo done:List wA) (tk:Nat),all=done++todo->
   Goes p w n₀ ann code q (todo.length * (cp + (2 + cq + N * (cq + ce + 10)) + 4)) (xx d (todo.map λ x=>(P0 x.1,x.2.1)))
    (F (cE (done.map ent).toArray done.length) tk).abs pos () (F (cE (all.map ent).toArray all.length) (tk + 3 * todo.length)).abs pos:=by
 intro todo;induction todo with
 | nil=>intro done tk e;rw [A3] at e;subst e;unfold xx;rw [j6,n5];exact Goes.pure.le (J1 _)
 | cons x todo ih=>
  intro done tk e;have h:x∈all:=by rw [e];exact F1 _ R0
  have f:=ih (done++[x]) (tk + 3) (by rw [e,V1];rfl);unfold xx at f⊢;rw [G1];have c:(done.map ent).toArray.size<=N:=by rw [M0,D0];rw [e,L0] at hN;omega
  have g:=Goes.set (p:=p) (w:=w) (ann:=ann) (code:=code) (q:=q) (pos:=pos) (v:=x.2.1) (ep:=done.length) Z (U1 c hN') (hH x h _ tk) (hQ x h _ _) (es:=(done.map ent).toArray) (ce:=ce) (by
   intro s r;obtain ⟨y,a,rfl⟩:=List.mem_map.mp r;have k:y∈all:=by rw [e];exact A7 _ a
   have m:y.1≠x.1:=by rw [e,N1,G1] at hnd;intro q;exact (List.nodup_append.mp hnd).2.2 y.1 (List.mem_map.mpr ⟨y,a,rfl⟩) x.1 R0 q
   rw [e] at hE;exact ⟨y.1,rfl,m,hQ y k _ _,(List.pairwise_append.mp hE).2.2 y a x R0 _ _⟩)
  have o:((done.map ent).toArray.push ⟨x.2.2,.ref x.1,x.2.1⟩)=((done++[x]).map ent).toArray:=by rw [List.push_toArray,N1];rfl
  have n:done.length + 1=(done++[x]).length:=by rw [L0];rfl
  rw [o,n] at g;have j:tk + 3 * (x :: todo).length=(tk + 3) + 3 * todo.length:=by rw [U0];omega
  rw [j];have l:Goes p w n₀ ann code q (_ + 0) (do dictSet d (P0 x.1,x.2.1).1 (P0 x.1,x.2.1).2;j4i (U2 j15):ZN (ForInStep PUnit)) _ pos (U2 j15) _ pos:=Goes.bind g Goes.pure;have i:=NT (b:=j15) (xs:=todo.map λ x=>(P0 x.1,x.2.1)) l f;refine i.le ?_;rw [U0,Nat.add_mul];have:=G7 (cq + ce + 10) c;omega
noncomputable def B_ (acc:Nat):Int:=if acc == 2 ^ 64 - 1 then 1546275796 else if acc < 2 ^ 63 then acc else (acc:Int) - (2 ^ 64:Nat)
theorem Ol (acc:Nat) (h:acc < 2 ^ 64):-(2:Int) ^ 63<=B_ acc/\B_ acc < 2 ^ 63:=by
 unfold B_;split
 ·constructor<;>decide
 ·split
  ·constructor<;>omega
  ·constructor<;>omega
def OQ (hs:List Int):-(2:Int) ^ 63<=t0 hs/\t0 hs < 2 ^ 63:=
 Ol _ (Nat.mod_lt _ '!')
def Goes.pyHashT {hs:List Int} {tok:Tok} (h1:Goes p w n₀ ann code q 1 (cRoomFor "hash" [.ref a]) s pos () s pos)
  (h2:Goes p w n₀ ann code q 1 (specialOf (.ref a) "__hash__") s pos (some (.builtin "tuple.__hash__")) s pos)
  (h3:Goes p w n₀ ann code q 22 (V7 (.ref a) "__hash__" (sL a)) s pos (some (.int (t0 hs) tok)) s' pos) :
  Goes p w n₀ ann code q 25 (pyHash (.ref a)) s pos (T1 (t0 hs)) s' pos:=by
 have e:pyHash (.ref a)=pyHashByItsType (.ref a):=rfl;rw [e];unfold pyHashByItsType;refine Goes.bind (d:=24) h1 ?_;refine Goes.bind (d:=23) h2 ?_;rw [Z_ (by rw [beq_builtin_none];exact N0)];refine Goes.bind (d:=22) h2 ?_;show Goes p w n₀ ann code q 22 (V7 (.ref a) "__hash__" (sL a) >>= _) s pos _ s' pos;refine Goes.bind (d:=0) h3 ?_;have r:(decide (-(2:Int) ^ 63<=t0 hs) && decide (t0 hs < 2 ^ 63))=true:=by have r:=OQ hs;rw [ZY r.1,ZY r.2];rfl
 show Goes p w n₀ ann code q 0 (if (decide (-(2:Int) ^ 63<=t0 hs) && decide (t0 hs < 2 ^ 63))=true then _ else _) s' pos _ s' pos;have b:T1 (t0 hs)=(if (t0 hs == -1)=true then -2 else t0 hs):=by unfold T1;rw [ZZ r]
 rw [ZZ r,b];exact Goes.pure
def Goes.subDict {pairs:List (ZN ZF×ZN ZF)} {s₁:A0} {vs:List (ZF×ZF)} {c':Nat} {d:ZR} (hlen:pairs.length<=15) (hd:s.heap.objs.size=d)
  (h1:Goes p w n₀ ann code q c (evalPairs pairs) { s with heap:=s.heap.push { cls:=.type "dict",data:=.dict #[] } } pos vs s₁ pos)
  (h2:Goes p w n₀ ann code q c' (xx d vs) s₁ pos () s' pos):Goes p w n₀ ann code q (1 + (c + c')) (subDict pairs) s pos d s' pos:=by
 subst hd;unfold PySem.subDict;refine Goes.bind (a:=s.heap.objs.size) (λ _ _ _ _=>.one rfl rfl rfl) ?_;refine (Goes.bind (d:=0) (a:=()) (Goes.holding ?_) Goes.pure);rw [ZZ hlen];refine Goes.bind h1 ?_;exact Goes.holding (Goes.bind (d:=0) h2 Goes.pure)
def Goes.execs1 {st:ZK} (h:Goes p w n₀ ann code q c (exec st env) s pos .next s' pos'):Goes p w n₀ ann code q c (execs [st] env) s pos .next s' pos':=by rw [execs_cons];exact Goes.bind (d:=0) h Goes.pure
theorem Goes.seg {l:List ZK} (h:Goes p w n₀ ann code q c (execs l env) s pos .next s' pos') :∃n,n<=c + 1/\segRun P3 p w n₀ ann 1 n s (piecesOf l env code pos [topFrame q])=some (.next,s',code,pos'):=by obtain ⟨n,a,h⟩:=h doneF deadEnd id id;exact ⟨n + 1,by omega,seg_go h rfl⟩
end
def NS {q:ZI} {loose:List ZQ} {Xt:A0->Bool} {α:Type} {Yf:A0->α} {Ya:X0->α} {H₀:Q0->ZL} {gs₀:Array GenState} {d₀:Drawn} {k₀ m₀:Nat} {S:X0->B3->A0}
  (opens :∀w:X0,(fencedOpening P3 p w N).map (λ s=>(s.heap,s.gens,s.drawn,s.toks))=some (H₀ w.params,gs₀,d₀,k₀))
  (sizes :∀w:X0,(((H₀ w.params).isNs N3 && gs₀.size == 0),(H₀ w.params).objs.size,(H₀ w.params).nsMap N3 "__annotations__")=(true,m₀,ann))
  (runs :∀(w:X0) (os:B3),∃M,M<=N/\topRun P3 p w m₀ ann M ⟨H₀ w.params,gs₀,d₀,k₀,os⟩ (topStub p)=some (S w os))
  (looks1 :∀(w:X0) (os:B3),(staticsOk (i8 p.main.body) (H₀ w.params) (S w os).heap && namesBound p (S w os).heap && gensDone (S w os) && laidKept (H₀ w.params) (S w os).heap)=true)
  (looks2 :∀(w:X0) (os:B3),openSeen q loose (i8 p.main.body) Xt true (S w os)=openGood q loose) (looks3 :∀(w:X0) (os:B3),Yf (S w os)=Ya w):LeftO p q loose Xt Yf Ya N:=by
 intro w;obtain ⟨⟨h,i,b,k,os⟩,e,a⟩:=Option.map_eq_some_iff.mp (opens w);simp only [Prod.mk.injEq] at a;obtain ⟨rfl,rfl,rfl,rfl⟩:=a;have z:=sizes w;simp only [Prod.mk.injEq] at z;obtain ⟨g,c,f⟩:=z;obtain ⟨M,d,r⟩:=runs w os;have r:=topRun_mono (N - M) _ _ _ _ r;rw [Nat.add_sub_cancel' d] at r;have t:topFrom P3 p w N ⟨H₀ w.params,i,b,k,os⟩=some (S w os):=by unfold topFrom;dsimp only;rw [g,c,f,r];show (match (staticsOk (i8 p.main.body) (H₀ w.params) (S w os).heap && namesBound p (S w os).heap && gensDone (S w os) && laidKept (H₀ w.params) (S w os).heap) with|true=>some (S w os)|false=>none)=_;rw [looks1 w os]
 unfold openEnds;rw [e];show (topFrom P3 p w N _).map _=_;rw [t];show some (_,_)=some (_,_);rw [looks2 w os,looks3 w os]
theorem Mh {r:A0} {l rest:List ZK} {b:Code} (h:Goes p w n₀ ann b q c (execs l env) s pos .next s' pos')
  (k:topRun P3 p w n₀ ann N s' (restOf rest env b pos' [topFrame q])=some r) :∃M,M<=c + 1 + N/\topRun P3 p w n₀ ann M s (restOf (l++rest) env b pos [topFrame q])=some r:=by
 obtain ⟨n,a,g⟩:=Goes.seg h;exact ⟨n + N,by omega,piece_app g k⟩
end TJ
open PySem.Spec
namespace L2
noncomputable abbrev fnX (x q:ZQ) (s:ZK) (m:ZQ) (k c:Nat):ZH:=K6 x q (vv s) (qM s) (cg s) .none .none .none (.str m k) none (.ref c) .none
noncomputable abbrev fY (x q:ZQ) (s:ZK):=fnX x q s "law_talejudge_k60_stuck_papers_told" 716
noncomputable abbrev fO (x q:ZQ) (s:ZK) (m:ZQ) (k c:Nat):ZP:=⟨.type "function",none,.func (fnX x q s m k c),#[]⟩
noncomputable abbrev fL (x q:ZQ) (s:ZK):=fO x q s "law_talejudge_k60_stuck_papers_told" 716
noncomputable abbrev cO (x q:ZQ) (i l n a j:Nat):ZP:=
 ⟨.type "code",none,.fields #[.str x i,.str q (i + 1),.str "/claim/cut.py" (i + 2),.int l 0,.int n 0,.int 0 0,.int 0 0,.int 3 0,.ref a,.bool true,.int 181 0,.ref (a + 1),.none,.ref (a + 2),.ref (a + 3),.ref (a + 4),.int j 0,.int l 0,.str "/claim/cut.py" (j + 1)],#[]⟩
noncomputable abbrev cP (x q:ZQ) (i l n a j:Nat):ZP:=
 ⟨.type "code",none,.fields #[.str x i,.str q (i + 1),.str "/claim/cut.py" (i + 2),.int l 0,.int n 0,.int 0 0,.int 0 0,.int 3 0,.ref a,.bool true,.int 181 0,.ref (a + 1),.none,.none,.none,.ref (a + 2),.int j 0,.int l 0,.str "/claim/cut.py" (j + 1)],#[]⟩
noncomputable abbrev kR (P:Q0) (x:ZQ) (i a:Nat):ZG:=⟨d0 P x,.str x i,.ref a⟩
variable {K:c0} {i:Nat} {w:X0}
section
variable {P:ZI} {w:X0} {K:c0} {mg:ZQ->Option ZF} {base:ZL} {x q:ZQ} {st:ZK} {f:ZR} {fd:ZH} {k:Nat} {ps:List ZQ} {sp:Sp}
def de {m:ZQ} {c:Nat} (l:K.lookup f=some (fO x q st m i c):=by kernel_rfl) (hc:N9 K (.ref c) q=true:=by kernel_rfl) (hk:V3 K (.ref f)=true:=by kernel_rfl):cA K x q st f (fnX x q st m i c):=rf l hc hk
def ph (T:TX K mg) (F:cA K x q st f fd) (g:F7 K N3 x=some (some (.ref f))) (b:Binds K fd ps []) (G:fH P w K mg base CX0 k f fd ps sp):wh P w K mg base x ps k sp:=⟨⟨f,fd,G,T.of g,F.kp,b⟩⟩
end
section
variable {p:List ZF->Prop}
theorem usZ (h:p []):∀us:List ZF,us.length=0->p us | [],_=>h
theorem usS {n:Nat} (h:∀a us,us.length=n->p (a::us)):∀us:List ZF,us.length=n+1->p us | a::us,e=>h a us (Nat.succ.inj e)
theorem kX (h :∀a,p [a]) :∀us:List ZF,us.length=1->p us:=usS λ a=>usZ (p:=λ us=>p (a::us)) (h a)
theorem gi (h :∀a b,p [a,b]) :∀us:List ZF,us.length=2->p us:=usS λ a=>kX (p:=λ us=>p (a::us)) (h a)
theorem su (h :∀a b c,p [a,b,c]) :∀us:List ZF,us.length=3->p us:=usS λ a=>gi (p:=λ us=>p (a::us)) (h a)
theorem wU (h :∀a b c d,p [a,b,c,d]) :∀us:List ZF,us.length=4->p us:=usS λ a=>su (p:=λ us=>p (a::us)) (h a)
theorem I8 (h :∀a b c d e f,p [a,b,c,d,e,f]) :∀us:List ZF,us.length=6->p us:=usS λ a=>usS (p:=λ us=>p (a::us)) λ b=>usS (p:=λ us=>p (a::b::us)) λ c=>usS (p:=λ us=>p (a::b::c::us)) λ d=>usS (p:=λ us=>p (a::b::c::d::us)) λ e=>usS (p:=λ us=>p (a::b::c::d::e::us)) λ f=>usZ (p:=λ us=>p (a::b::c::d::e::f::us)) (h a b c d e f)
end
variable {X:Cx}
section
def vV (K:c0):R2:=λ x y H Q=>∃a b xs,x=.ref a/\y=.ref b/\aH K H a xs/\aH K H b []/\Q (.bl (decide (xs=[]))) H
def Pu {k:Nat} (hr:bL k X.A):ei X (T2 .Eq) (vV X.K):=by
 intro B s σ H x y v u Q I o i h;obtain ⟨a,b,n,rfl,rfl,r,p,q⟩:=h;cases o;cases i;obtain ⟨C,g,f,_⟩:=I.list r;obtain ⟨D,m,d,_⟩:=I.list p;cases m;have c:X.A.units < ZD:=Nat.lt_of_succ_lt (cQ hr);have t:=g.length;cases n with
 | nil=>cases g;exact SeqAt.RcAt.lists (e:=λ _=>true) f.isList d.isList rfl c (λ j l _=>ZU l (C4 _)) X.prog X.w _ _ ⟨.bl _,H,I,rfl,q⟩
 | cons z zs=>refine SeqAt.RcAt.lists_lengths f.isList d.isList ?_ c X.prog X.w _ _ ⟨.bl _,H,I,rfl,q⟩;rw [M0,<-t];rfl
end
mutual
noncomputable def bK:ZJ->Bool
 | .int _=>true
 | .str _=>false
 | .tuple xs=>bE xs
 | .none=>false
 | .bool _=>false
 | .list _=>false
 | .dict _=>false
noncomputable def bE:List ZJ->Bool
 | []=>true
 | x :: xs=>bK x && bE xs
end
mutual
noncomputable def hS:ZJ->Int
 | .int i=>hashInt i
 | .str _=>0
 | .tuple xs=>T1 (t0 (gS xs))
 | .none=>0
 | .bool _=>0
 | .list _=>0
 | .dict _=>0
noncomputable def gS:List ZJ->List Int
 | []=>[]
 | x :: xs=>hS x :: gS xs
end
mutual
noncomputable def js:ZJ->Nat
 | .tuple xs=>gY xs + 1
 | .int _=>1
 | .str _=>1
 | .none=>1
 | .bool _=>1
 | .list _=>1
 | .dict _=>1
noncomputable def gY:List ZJ->Nat
 | []=>0
 | x :: xs=>js x + gY xs
end
mutual
theorem xD {h h':ZL} (k :∀b o vs n,h.get? b=some o->o.cls=.type "tuple"->o.data=.seq vs n->h'.get? b=some o) :∀(d:ZJ) (v:ZF) (as:List ZR),bK d=true->j47 h v d as->j47 h' v d as
 | .int i,v,as,_,r=>by cases r;exact .int _ _
 | .str _,_,_,hk,_=>by cases hk
 | .tuple xs,v,as,hk,r=>by
  cases r with
  | tuple e c d r=>exact .tuple (k _ _ _ _ e c d) c d (Gx k xs _ _ hk r)
 | .none,_,_,hk,_=>by cases hk
 | .bool _,_,_,hk,_=>by cases hk
 | .list _,_,_,hk,_=>by cases hk
 | .dict _,_,_,hk,_=>by cases hk
theorem Gx {h h':ZL} (k :∀b o vs n,h.get? b=some o->o.cls=.type "tuple"->o.data=.seq vs n->h'.get? b=some o) :∀(ds:List ZJ) (vs:List ZF) (as:List ZR),bE ds=true->Y7 h vs ds as->Y7 h' vs ds as
 | [],_,_,_,r=>by cases r;exact .nil
 | d :: ds,_,_,c,r=>by
  have c:=Bool.and_eq_true_iff.mp (show (bK d && bE ds)=true from c);cases r with
  | cons a r=>exact .cons (xD k d _ _ c.1 a) (Gx k ds _ _ c.2 r)
end
mutual
theorem qd:∀d:ZJ,bK d=true->bC d=true
 | .int _,_=>rfl
 | .str _,hk=>by cases hk
 | .tuple xs,h=>EJ xs h
 | .none,hk=>by cases hk
 | .bool _,hk=>by cases hk
 | .list _,hk=>by cases hk
 | .dict _,hk=>by cases hk
theorem EJ:∀ds:List ZJ,bE ds=true->ir ds=true
 | [],_=>rfl
 | d :: ds,a=>by have a:=Bool.and_eq_true_iff.mp (show (bK d && bE ds)=true from a);show (bC d && ir ds)=true;rw [qd d a.1,EJ ds a.2];rfl
end
mutual
theorem oH:∀d:ZJ,bK d=true->d.canLay0=true
 | .int _,_=>rfl
 | .str _,hk=>by cases hk
 | .tuple xs,h=>GD xs h
 | .none,hk=>by cases hk
 | .bool _,hk=>by cases hk
 | .list _,hk=>by cases hk
 | .dict _,hk=>by cases hk
theorem GD:∀ds:List ZJ,bE ds=true->n8 ds=true
 | [],_=>rfl
 | d :: ds,a=>by have a:=Bool.and_eq_true_iff.mp (show (bK d && bE ds)=true from a);show (d.canLay0 && n8 ds)=true;rw [oH d a.1,GD ds a.2];rfl
end
variable {A:j2} {E:ZF->A0->Prop} {Q:Bool->A0->Prop} {m n:Nat} {prog:ZI} {s:A0}
section
mutual
theorem CT:∀(d:ZJ) (v:ZF) (as:List ZR) (A:j2) (s:A0) (Q:Int->A0->Prop),bK d=true->j47 s.heap v d as->A.units + d.depth < ZD->Q (hS d) { s with toks:=s.toks + js d }->W0 (B1 prog w) A (pyHash v) Q E s
 | .int i,v,as,A,s,Q,_,r,_,q=>by cases r;exact wpAny_pyHash_int q
 | .str _,_,_,_,_,_,hk,_,_,_=>by cases hk
 | .tuple xs,v,as,A,s,Q,hk,r,b,q=>by
  cases r with
  | @tuple a o vs n _ _ e c d r=>
   have b:A.units + (D2 xs + 1) < ZD:=b;have ty:s.TypeIs (.ref a) "tuple":=⟨o,e,c⟩
   refine W.pyHash_slot (v:=.ref a) ty F.slot_tuple_hash F.entry_tuple_hash (F.args_tuple_hash_1 _) rfl (.inr '%') ?_;refine j0 (G0 ?_);refine j0 (j2f e d ?_);refine j0 ?_;rw [<-Z7];refine Ic xs vs.toList _ #[] A.in1 s _ hk r (show A.units + 1 + D2 xs < ZD by lia) ?_;refine j0 (wpAny_mkInt (G0 ⟨_,_,rfl,?_⟩));simpa [hS,js,U8] using q
 | .none,_,_,_,_,_,hk,_,_,_=>by cases hk
 | .bool _,_,_,_,_,_,hk,_,_,_=>by cases hk
 | .list _,_,_,_,_,_,hk,_,_,_=>by cases hk
 | .dict _,_,_,_,_,_,hk,_,_,_=>by cases hk
theorem Ic:∀(ds:List ZJ) (vs:List ZF) (as:List ZR) (hs:Array Int) (A:j2) (s:A0) (Q:Array Int->A0->Prop),bE ds=true->Y7 s.heap vs ds as->A.units + D2 ds < ZD->Q (hs++(gS ds).toArray) { s with toks:=s.toks + gY ds }->
  W0 (B1 prog w) A (N5 vs hs λ x hs=>do let h <-pyHash x;Y1 (U2 (hs.push h))) Q E s
 | [],_,_,hs,A,s,Q,_,r,_,q=>by cases r;rw [n5];exact G0 (by simpa [gS,gY] using q)
 | d :: ds,_,_,hs,A,s,Q,b,r,c,q=>by
  have b:=Bool.and_eq_true_iff.mp (show (bK d && bE ds)=true from b);have c:A.units + max d.depth (D2 ds) < ZD:=c;cases r with
  | @cons v vs _ _ as bs a r=>rw [A4];refine j0 (j0 (CT d v as A s _ b.1 a '%' (G0 ?_)));refine Ic ds vs bs (hs.push (hS d)) A { s with toks:=s.toks + js d } Q b.2 r '%' ?_;simpa [gS,gY,U8] using q
end
def JX {a:ZR} {o:ZP} {vs:Array ZF} (e:s.heap.get? a=some o) (c:o.cls=.type "tuple") (d:o.data=.seq vs m)
  (h:W0 (B1 prog w) A (N5 vs.toList ((none:Option Bool),()) λ y _=>do
    let b <-T4 n y
    if (!b)=true then Y1 (u9 (some false,())) else Y1 (U2 (none,())))
   (λ r s'=>r.1=none/\Q true s') E s):W0 (B1 prog w) A (T4 (n + 1) (.ref a)) Q E s:=by
 rw [eqIsQuiet.eq_2];have ty:s.TypeIs (.ref a) "tuple":=⟨o,e,c⟩
 refine j0 (j4f (r:=some (.builtin "tuple.__eq__")) ty (by rfl) ?_);refine j0 (Z9 (T:="tuple") ty isSubtype_tuple_tuple ?_);simp only [B6,m3,if_false];refine j0 (j58 e d (j0 ?_));show W0 _ _ (N5 vs _ _) _ _ _;rw [<-Z7];refine L3 h (λ r s' h=>?_) (λ _ _ h=>h);obtain ⟨i,j⟩:=r;obtain ⟨f,g⟩:=h;cases (show i=none from f);exact G0 g
mutual
theorem Fk:∀(d:ZJ) (v:ZF) (as:List ZR) (n:Nat) (A:j2) (s:A0) (Q:Bool->A0->Prop),bK d=true->j47 s.heap v d as->d.depth<=n->Q true s->W0 (B1 prog w) A (T4 n v) Q E s
 | .int i,v,as,n,A,s,Q,_,r,_,q=>by cases r;rw [eqIsQuiet.eq_3];exact G0 q;intro a h;cases h
 | .str _,_,_,_,_,_,_,hk,_,_,_=>by cases hk
 | .tuple xs,v,as,n,A,s,Q,hk,r,b,q=>by
  cases r with
  | @tuple a o vs m _ _ e c d r=>
   have b:D2 xs + 1<=n:=b;obtain ⟨n,rfl⟩ :∃k,n=k + 1:=⟨n - 1,by lia⟩
   exact JX e c d (Gf xs vs.toList _ n A s _ hk r '%' ⟨rfl,q⟩)
 | .none,_,_,_,_,_,_,hk,_,_,_=>by cases hk
 | .bool _,_,_,_,_,_,_,hk,_,_,_=>by cases hk
 | .list _,_,_,_,_,_,_,hk,_,_,_=>by cases hk
 | .dict _,_,_,_,_,_,_,hk,_,_,_=>by cases hk
theorem Gf:∀(ds:List ZJ) (vs:List ZF) (as:List ZR) (n:Nat) (A:j2) (s:A0) (Q:Option Bool×Unit->A0->Prop),bE ds=true->Y7 s.heap vs ds as->D2 ds<=n->Q (none,()) s->
  W0 (B1 prog w) A (N5 vs ((none:Option Bool),()) λ y _=>do
    let b <-T4 n y
    if (!b)=true then Y1 (u9 (some false,())) else Y1 (U2 (none,()))) Q E s
 | [],_,_,n,A,s,Q,_,r,_,q=>by cases r;rw [n5];exact G0 q
 | d :: ds,_,_,n,A,s,Q,c,r,e,q=>by
  have c:=Bool.and_eq_true_iff.mp (show (bK d && bE ds)=true from c);have e:max d.depth (D2 ds)<=n:=e;cases r with
  | @cons v vs _ _ as bs a r=>rw [A4];refine j0 (j0 (Fk d v as n A s _ c.1 a '%' ?_));exact G0 (Gf ds vs bs n A s Q c.2 r '%' q)
end
end
open Classical in
noncomputable instance:DecidableEq ZJ:=λ a b=>y6 (a=b)
noncomputable def uG (prog:ZI) (w:X0):HeapKind prog w ZJ where
 is h d a:=bK d=true/\d.depth<=7/\∃as,j47 h (.ref a) d as
 hash:=hS
 draws:=js
 room A:=A.units + 8 < ZD
 inj:=λ {h a x y} hx hy=>by obtain ⟨kx,_,as,rx⟩:=hx;obtain ⟨_,_,bs,ry⟩:=hy;exact SeqAt.Reads.unique x y _ as bs (oH x kx) rx ry
 keeps:=λ {h h' k a d o es ep} hk e hd sb=>by
  obtain ⟨k1,k2,as,r⟩:=hk;refine ⟨k1,k2,as,xD (λ b o' vs n eb _ eo=>?_) k _ as k1 r⟩;have nb:b≠d:=λ z=>by rw [z,e] at eb;cases eb;rw [hd] at eo;cases eo
  rw [sb.2 b nb];exact eb
 pyHash:=λ {A E s k a Q} hr hk q=>by obtain ⟨k1,k2,as,r⟩:=hk;exact CT k _ as A s Q k1 r '%' q
 eqBool:=λ {A E s x y a b Q} hr hx hy q=>by obtain ⟨x1,x2,as,rx⟩:=hx;obtain ⟨y1,y2,bs,ry⟩:=hy;refine R8 x y A s _ _ as bs rx ry (oH x x1) (oH y y1) (by have:=U9 x.depth y.depth;lia) prog w E Q ?_;rw [xG (p:=x=y) (qd x x1) (qd y y1) Iff.rfl];exact q
 quiet:=λ {A E s k a Q} hk q=>by obtain ⟨k1,k2,as,r⟩:=hk;exact Fk k _ as 8 A s Q k1 r '%' q
variable {ep:Nat} {es:Array ZG}
section
def iy (h:ZL) (d:ZR) (es:Array ZG) (ep:Nat):Prop:=∃o,h.get? d=some o/\o.ExactDict/\o.data=.dict es ep
def CW {d:ZR} {Q:ZF->A0->Prop} (hd:(d == T3)=false) (h:iy s.heap d es ep)
  (q:Q (.ref s.heap.objs.size) { s with heap:=s.heap.push { cls:=.type "dict_keyiterator",data:=.fields #[.ref d,.int 0 0,.int es.size 0,.int ep 0] } }):W0 (B1 prog w) A (pyIter (.ref d)) Q E s:=by
 obtain ⟨o,a,⟨i,k,j⟩,f⟩:=h;have b:s.TypeIs (.ref d) "dict":=⟨o,a,i⟩
 refine wpAny_pyIter_slot b F.slot_dict_iter (X3 F.slot_dict_iter b F.entry_dict_iter ?_ (F.args_dict_iter_1 _));unfold D9.«dict.__iter__»;refine j0 (show W0 _ _ (R7 "__iter__" ⟨[.ref d],[]⟩ >>= _) _ _ _ from j0 ?_);have g:W0 (B1 prog w) A.in1 (R7 "__iter__" ⟨[.ref d],[]⟩) (λ _ c=>c=s) E s:=by unfold R7;rw [ZZ (by decide +kernel)];refine j0 (j07 b ?_);rw [Z_ '!'];exact G0 rfl
 refine L3 g (λ _ c e=>?_) λ _ _ z=>z;subst e;refine (show W0 _ _ (Y1 (P0 d)) _ _ _ from G0 ?_);refine (show W0 _ _ (Y1 d >>= _) _ _ _ from j0 (G0 ?_));refine j0 ?_;unfold Builtin.Dict.showsAll;rw [Z_ (by rw [hd];decide)];refine G0 (j0 (j33 a f (j0 (j4g a f ?_))));refine j0 (M3 ?_ (by size_fits));refine G0 ⟨_,rfl,"dict_keyiterator",_,⟨_,j1 _ rfl,rfl⟩,F.slot_dict_keyiterator_next.lookup,q⟩
theorem DW {it d:ZR} {e:ZG} {Q:Option ZF->A0->Prop} (hi:s.heap.IsKeyIter it d i es.size ep) (h:iy s.heap d es ep) (he:es[i]? = some e)
  (q :∀h',h'.IsKeyIter it d (i + 1) es.size ep->R6 it s.heap h'->Q (some e.key) { s with heap:=h' }):W0 (B1 prog w) A (j5d (.ref it)) Q E s:=by
 have a:=hi.typeIs;obtain ⟨u,f,t,g⟩:=hi;obtain ⟨o,k,C,l⟩:=h;obtain ⟨y,B,r,z⟩:=u;cases (show y=_ from t);cases (show r=_ from g);unfold j5d;refine j0 (j2a (F5 (name:=X7 "__next__") a P5 (X3 P5 a j3e ?_ (j38 _))));unfold D9.«dict_keyiterator.__next__»;refine (show W0 _ _ (j05 "__next__" ⟨[.ref it],[]⟩ >>= _) _ _ _ from j0 ?_);refine (show W0 _ _ (Y1 (P0 it)) _ _ _ from G0 ?_);refine j0 ?_;refine (show W0 _ _ ((j0g (.ref it) >>= _) >>= _) _ _ _ from j0 (j0 (M5 a (G0 ?_))));have n:(if C9 "dict_keyiterator" = true then 2 else 0)=0:=Z_ (by decide +kernel);rw [n];refine j0 (wpAny_fieldsOf f g ?_);show W0 _ _ (if (P0 d == Value.none)=true then _ else _) _ _ _;rw [Z_ (by simp)];refine (show W0 _ _ (Y1 d >>= _) _ _ _ from j0 (G0 ?_));refine j0 (j33 k l ?_);rw [Z_ (by simp)];refine (show W0 _ _ (Y1 d >>= _) _ _ _ from j0 (G0 ?_));refine j0 (j4g k l ?_);rw [Z_ (by simp)];refine G0 ?_;dsimp only;rw [Z_ '%',W6,he];dsimp only;refine j0 (show W0 _ _ (j0g (.ref it) >>= _) _ _ _ from j0 (M5 a (G0 ?_)));rw [n];refine j0 (wpAny_isOneOf_keyiter a ?_);refine j0 (j1c f g (by simp) ?_);have m:(s.heap.update it (j4j (·.setIfInBounds 1 (j3f ((i:Int) + 1))))).IsKeyIter it d (i + 1) es.size ep:=by refine ⟨_,X9 _ f rfl,rfl,?_⟩;simp [j4j,j3f]
 have key :∀b:Bool,b=false->W0 (B1 prog w) A.in1 (j35 [e.key,e.val] (do
   let c <-Y9 (.ref it) ["dict_keyiterator","dict_reversekeyiterator"]
   if c=true then Y1 e.key else do
    let c <-Y9 (.ref it) ["dict_valueiterator","dict_reversevalueiterator"]
    if c=true then Y1 e.val else Builtin.Dict_items.pairFromOwner (.ref it) 6 e.key e.val) >>= λ v=>ret v)
   (λ p j=>∃v,p=Fin.done (Flow.ret v)/\W0 (B1 prog w) A (Y1 (some v)) Q E j)
   (λ e j=>W0 (B1 prog w) A (do if <-isInstance e (.type "StopIteration") then Y1 none else throw e) Q E j)
   { s with heap:=s.heap.update it (j4j (·.setIfInBounds 1 (j3f (if b=true then (i:Int) - 1 else (i:Int) + 1)))) }:=λ b x=>by
  subst x;refine j0 (y4 (j0 (wpAny_isOneOf_keyiter m.typeIs ?_)));rw [ZZ (by decide +kernel)];exact G0 (G0 ⟨_,rfl,G0 (q _ m (F3 ..))⟩)
 exact key _ (by decide +kernel)
theorem mN {it d:ZR} {Q:Option ZF->A0->Prop} (hh:A.handled=none) (hi:s.heap.IsKeyIter it d i es.size ep) (h:iy s.heap d es ep) (he:es[i]? = none)
  (q :∀h',Heap.ExtBut it s.heap h'->Q none { s with heap:=h' }):W0 (B1 prog w) A (j5d (.ref it)) Q E s:=by
 have a:=hi.typeIs;obtain ⟨n,j,p,g⟩:=hi;obtain ⟨o,f,r,c⟩:=h;unfold j5d;refine j0 (j2a (F5 (name:=X7 "__next__") a P5 (X3 P5 a j3e ?_ (j38 _))));unfold D9.«dict_keyiterator.__next__»;refine (show W0 _ _ (j05 "__next__" ⟨[.ref it],[]⟩ >>= _) _ _ _ from j0 ?_);refine (show W0 _ _ (Y1 (P0 it)) _ _ _ from G0 ?_);refine j0 ?_;refine (show W0 _ _ ((j0g (.ref it) >>= _) >>= _) _ _ _ from j0 (j0 (M5 a (G0 ?_))));have l:(if C9 "dict_keyiterator" = true then 2 else 0)=0:=Z_ (by decide +kernel);rw [l];refine j0 (wpAny_fieldsOf j g ?_);show W0 _ _ (if (P0 d == Value.none)=true then _ else _) _ _ _;rw [Z_ (by simp)];refine (show W0 _ _ (Y1 d >>= _) _ _ _ from j0 (G0 ?_));refine j0 (j33 f c ?_);rw [Z_ (by simp)];refine (show W0 _ _ (Y1 d >>= _) _ _ _ from j0 (G0 ?_));refine j0 (j4g f c ?_);rw [Z_ (by simp)];refine G0 ?_;dsimp only;rw [Z_ '%',W6,he];dsimp only;refine j0 (show W0 _ _ (j0g (.ref it) >>= _) _ _ _ from j0 (M5 a (G0 ?_)));rw [l];refine j0 (j1c j g (by simp) ?_);refine uj hh λ h' k=>q h' ?_;exact λ b o m e=>k b o (((F3 ..).2 b m).trans e)
def MD (hh:A.handled=none) (I d:ZR) (nd:d≠I) (es:Array ZG) (ep:Nat):Walks prog w A I [I,d] [I] es.size (λ i v=>∃e,es[i]? = some e/\v=e.key) (λ i h=>h.IsKeyIter I d i es.size ep/\iy h d es ep) where
 sub:=λ b n=>by rw [List.mem_singleton.mp n];exact R0
 frame:=λ i h a ⟨h1,o,h2,c⟩ k=>⟨h1.at (k I R0),o,k d (by simp) o h2,c⟩
 item:=λ i s Q E j ⟨h1,h2⟩ q=>by
  refine DW h1 h2 (W1 j) λ a g l=>q _ a _ ⟨_,W1 j,rfl⟩ ⟨g,?_⟩ λ b o f e=>?_
  ·obtain ⟨o,c,m⟩:=h2;exact ⟨o,(l.2 d nd).trans c,m⟩
  ·exact (l.2 b (λ z=>f (by rw [z];exact List.mem_singleton.mpr rfl))).trans e
 done:=λ s Q E ⟨h1,h2⟩ q=>mN hh h1 h2 (j51 (o0 _)) λ a k=>q a _ λ b o f e=>k b o (λ z=>f (by rw [z];exact List.mem_singleton.mpr rfl)) e
 self:=λ i s Q E ⟨h1,_⟩ q=>wpAny_pyIter_keyiter h1 q
def LH {r:ZR} (hT:s.TypeIs (.ref r) "dict") (h:Q false s):W0 (B1 prog w) A (j18 (.ref r)) Q E s:=by unfold j18;refine j0 (j4f hT PySem.F.slot_dict_len.lookup ?_);generalize uu:("dict.__len__" : String)=id0;wp_delta;rw [show splitId id0=some ("dict","__len__") from by subst uu;decide +kernel];subst uu;refine j0 (Z9 (T:="dict") (b:=true) hT (by rfl) ?_);refine wpAny_ite_split (λ a=>ZU a '!') (λ _=>wpAny_ite_split (λ _=>?_) (λ a=>ZU (by decide +kernel) a));exact j0 (j07 hT (G0 h))
def lQ {d:ZR} (hd:(d == T3)=false):W.KdlSrc prog w "dict" d d es.size (λ i v=>∃e,es[i]? = some e/\v=e.key) (λ h=>iy h d es ep) where
 type:=λ s ⟨o,a,b,_⟩=>⟨o,a,b.1⟩
 there:=λ h ⟨o,a,_⟩=>⟨V0 a,V0 a⟩
 keep:=λ h c ⟨o,a,b⟩ k=>⟨o,k d (.inl rfl) o a,b⟩
 notList:=by decide
 notTuple:=by decide
 hint:=λ A E s Q ⟨o,a,b,_⟩ q=>LH ⟨o,a,b.1⟩ q
 iter:=λ A s f h=>by
  refine ⟨{ cls:=.type "dict_keyiterator",data:=.fields #[.ref d,.int 0 0,.int es.size 0,.int ep 0] },λ i c=>c.IsKeyIter s.heap.objs.size d i es.size ep/\iy c d es ep,λ E Q q=>CW hd h q,MD f _ d ?_ es ep,⟨_,j1 _ rfl,rfl,rfl⟩,?_⟩
  ·obtain ⟨o,a,_⟩:=h;exact P1 (V0 a)
  ·obtain ⟨o,a,b⟩:=h;exact ⟨o,B0 _ a,b⟩
end
def fE (n:Nat) (p:Array Nat):Prop:=p.toList.Perm (L1 n)
variable {j:Nat} {p:Array Nat}
def Gi (h:fE n p):fE n (p.swapIfInBounds i j):=by
 rw [Array.swapIfInBounds_def];split
 ·split
  ·exact (Array.perm_iff_toList_perm.mp (Array.swap_perm _ _)).trans h
  ·exact h
 ·exact h
theorem AI {f:Array Nat->Nat->Array Nat} (hf :∀p k,fE n p->fE n (f p k)) :∀(l:List Nat) (p:Array Nat),fE n p->fE n (l.foldl f p)
 | [],p,h=>h
 | k :: l,p,h=>AI hf l (f p k) (hf p k h)
def pE (h:fE n p):fE n (PySem.W.kas_rev p i j):=by unfold PySem.W.kas_rev;rw [mirror.eq_def];exact AI (λ _ _ h=>Gi h) _ _ h
def NH (h:fE n p):fE n (bubble p i j):=by rw [bubble.eq_def];exact AI (λ _ _ h=>Gi h) _ _ h
def fE.size (h:fE n p):p.size=n:=by
 have:=h.length_eq
 rwa [B2,O0] at this
mutual
noncomputable def eg:ZJ->ZJ->Option Bool
 | .int i,e=>match e with
  | .int j=>some (decide (i < j))
  | _=>none
 | .tuple xs,e=>match e with
  | .tuple ys=>dA xs ys
  | _=>none
 | .none,_=>none
 | .bool _,_=>none
 | .str _,_=>none
 | .list _,_=>none
 | .dict _,_=>none
noncomputable def dA:List ZJ->List ZJ->Option Bool
 | [],ys=>some (decide (0 < ys.length))
 | x :: xs,ys=>match ys with
  | []=>some false
  | y :: ys=>if x=y then dA xs ys else eg x y
end
variable {h:ZL}
theorem qm:∀{vs:List ZF} {ds:List ZJ} {as:List ZR},Y7 h vs ds as->vs.length=ds.length
 | _,_,_,.nil=>rfl
 | _,_,_,.cons _ r=>by rw [U0,U0,qm r]
section
def int_lt {i j:Int} {a b:Tok} {R:ZF->A0->Prop} (q:R (.bool (decide (i < j))) s):W0 (B1 prog w) A (j1f .Lt (.int i a) (.int j b)) R E s:=(show W0 _ _ (T2 .Lt _ _) _ _ _ from lt_int q)
theorem o_ {p p2:ZR} {o o2:ZP} {xs ys:Array ZF} {n2:Nat} {Q:ZF->A0->Prop} (ho:s.heap.get? p=some o) (hc:o.cls=.type "tuple") (hd:o.data=.seq xs n) (ho2:s.heap.get? p2=some o2) (hc2:o2.cls=.type "tuple") (hd2:o2.data=.seq ys n2) (hu:A.units + 1 < ZD)
  (h:W0 (B1 prog w) A.in1 (N5 (xs.toList.zip ys.toList) ((none:Option b7),()) λ x _=>do
    let b <-eqBool x.fst x.snd
    if (!b)=true then do
     rule "tuple.compare.by-the-first-pair-that-differs"
     let r <-j1f CmpOp.Lt x.fst x.snd
     let r <-ret r
     Y1 (u9 (some r,()))
    else Y1 (U2 (none,()))) (λ r s'=>∃b,(r.1=some (Fin.done (Flow.ret (.bool b)))\/r.1=none/\b=decide (xs.size < ys.size))/\Q (.bool b) s') E s):W0 (B1 prog w) A (j1f .Lt (.ref p) (.ref p2)) Q E s:=by
 refine wpAny_richCompare_same_room (op:=.Lt) (T:="tuple") ⟨o,ho,hc⟩ ⟨o2,ho2,hc2⟩ F.slot_tuple_lt (X3 F.slot_tuple_lt ⟨o,ho,hc⟩ F.entry_tuple_lt ?_ (F.args_tuple_lt_2 _ _)) '%';refine (show W0 _ _ (isInstance (.ref p2) (.type "tuple") >>= _) _ _ s from j0 (Z9 (T:="tuple") ⟨o2,ho2,hc2⟩ isSubtype_tuple_tuple ?_));simp only [B6,m3,if_false];refine j0 (j2f ho hd (j0 (j2f ho2 hd2 (j0 ?_))));refine L3 h (λ r s' c=>?_) λ _ _ z=>z;obtain ⟨r,⟨⟩⟩:=r;obtain ⟨b,a,q⟩:=c;rcases a with a|⟨a,rfl⟩
 ·cases (show r=_ from a);exact G0 ⟨_,rfl,(λ z=>nomatch z),q⟩
 ·cases (show r=_ from a);exact G0 ⟨_,rfl,(λ z=>nomatch z),q⟩
mutual
theorem ng:∀(d e:ZJ) (v z:ZF) (as bs:List ZR) (b:Bool) (A:j2) (s:A0) (Q:ZF->A0->Prop),bK d=true->bK e=true->j47 s.heap v d as->j47 s.heap z e bs->eg d e=some b->A.units + d.depth + 1 < ZD->Q (.bool b) s->W0 (B1 prog w) A (j1f .Lt v z) Q E s
 | .int i,e,v,z,as,bs,b,A,s,Q,_,_,r,r2,h,_,q=>by
  cases e with
  | int j=>cases r;cases r2;cases (show some (decide (i < j))=some b from h);exact int_lt q
  | _=>cases (show (none:Option Bool)=some b from h)
 | .tuple xs,e,v,z,as,bs,b,A,s,Q,hd,he,r,r2,h,c,q=>by
  cases e with
  | tuple ys=>
   cases r with
   | @tuple a o vs n _ _ h1 h2 h3 h4=>
    cases r2 with
    | @tuple a' o' vs' n' _ _ g1 g2 g3 g4=>have c:A.units + (D2 xs + 1) + 1 < ZD:=c;refine o_ h1 h2 h3 g1 g2 g3 '%' ?_;have g:=qm h4;have k:=qm g4;refine GL xs ys vs.toList vs'.toList _ _ b A.in1 s _ hd he h4 g4 h (show A.units + 1 + D2 xs + 1 < ZD by lia) (λ r f=>⟨b,f.imp id (λ z=>⟨z.1,?_⟩),q⟩);rw [z.2,<-g,<-k,O0,O0]
  | _=>cases (show (none:Option Bool)=some b from h)
 | .none,_,_,_,_,_,_,_,_,_,hk,_,_,_,_,_,_=>by cases hk
 | .bool _,_,_,_,_,_,_,_,_,_,hk,_,_,_,_,_,_=>by cases hk
 | .str _,_,_,_,_,_,_,_,_,_,hk,_,_,_,_,_,_=>by cases hk
 | .list _,_,_,_,_,_,_,_,_,_,hk,_,_,_,_,_,_=>by cases hk
 | .dict _,_,_,_,_,_,_,_,_,_,hk,_,_,_,_,_,_=>by cases hk
theorem GL:∀(ds es:List ZJ) (vs us:List ZF) (as bs:List ZR) (b:Bool) (A:j2) (s:A0) (R:Option b7×Unit->A0->Prop),bE ds=true->bE es=true->Y7 s.heap vs ds as->Y7 s.heap us es bs->dA ds es=some b->A.units + D2 ds + 1 < ZD->
  (∀r,(r=some (Fin.done (Flow.ret (.bool b)))\/r=none/\b=decide (ds.length < es.length))->R (r,()) s)->
  W0 (B1 prog w) A (N5 (vs.zip us) ((none:Option b7),()) λ x _=>do
    let b <-eqBool x.fst x.snd
    if (!b)=true then do
     rule "tuple.compare.by-the-first-pair-that-differs"
     let r <-j1f CmpOp.Lt x.fst x.snd
     let r <-ret r
     Y1 (u9 (some r,()))
    else Y1 (U2 (none,()))) R E s
 | [],es,vs,us,as,bs,b,A,s,R,_,_,r,_,h,_,q=>by cases r;rw [List.zip_nil_left,n5];cases (show some (decide (0 < es.length))=some b from h);exact G0 (q none (.inr ⟨rfl,rfl⟩))
 | d :: ds,es,vs,us,as,bs,b,A,s,R,a,c,r,r2,h,f,q=>by
  cases es with
  | nil=>cases r2;rw [List.zip_nil_right,n5];cases (show some false=some b from h);exact G0 (q none (.inr ⟨rfl,rfl⟩))
  | cons e es=>
   have a:=Bool.and_eq_true_iff.mp (show (bK d && bE ds)=true from a);have c:=Bool.and_eq_true_iff.mp (show (bK e && bE es)=true from c);have f:A.units + max d.depth (D2 ds) + 1 < ZD:=f;cases r with
   | @cons v vs _ _ as as' a1 a2=>
    cases r2 with
    | @cons u us _ _ bs bs' b1 b2=>
     have h:(if d=e then dA ds es else eg d e)=some b:=h;rw [a8,A4];refine j0 (j0 (R8 d e A s v u as bs a1 b1 (oH d a.1) (oH e c.1) (by have:=U9 d.depth e.depth;lia) prog w E _ ?_));rw [xG (p:=d=e) (qd d a.1) (qd e c.1) Iff.rfl];by_cases z:d=e
     ·rw [ZZ z] at h;rw [ZY z];simp only [B6,m3,if_false];refine G0 (GL ds es vs us as' bs' b A s R a.2 c.2 a2 b2 h '%' λ r g=>q r (g.imp id λ y=>⟨y.1,y.2.trans (by simp)⟩))
     ·rw [Z_ z] at h;rw [ZX z];simp only [Bool.not_false,if_true];exact j0 (j59 (j0 (ng d e v u as bs b A s _ a.1 c.1 a1 b1 h '%' (j0 (G0 (G0 (G0 (q _ (.inl rfl)))))))))
end
end
noncomputable def s_:Bool->ZA->Array ZA->Nat->Nat->Nat->StateT Zz ZN (Option Nat):=sortPriv% PySem.Builtin.gallop
noncomputable def xJ:Nat->StateT Zz ZN Unit:=sortPriv% PySem.Builtin.setMinGallop
noncomputable def DT:Array ZA->Array ZA->StateT Zz ZN (Array ZA):=sortPriv% PySem.Builtin.mergeLo
noncomputable def Hs:Array ZA->Array ZA->StateT Zz ZN (Array ZA):=sortPriv% PySem.Builtin.mergeHi
noncomputable def Em (left:Bool) (key:ZA) (arr:Array ZA) (base i:Nat):StateT Zz ZN (Option Bool):=do
 let x <-Y6 arr (base + i)
 if left then lt' x key else return (<-lt' key x).map (!·)
structure SI where
 a:Array Nat
 p:Array (Nat×Nat×Nat)
 g:Nat
noncomputable abbrev SV:=SortKind×(Nat->ZA)
noncomputable abbrev lB (e:SV) (t:SI):Zz:=C5 e.1 (t.a.map e.2) t.p t.g none
def Ask (prog:ZI) (w:X0) (A:j2) (c:Nat->Nat->Bool) (n:Nat) (e:SV) (s:A0):Prop:=∀i j,i < n->j < n->∀(Q:Bool->A0->Prop) (E:ZF->A0->Prop),Q (c i j) s->W0 (B1 prog w) A (keyLt' e.1 (e.2 i).1 (e.2 j).1) Q E s
def cG (c:Nat->Nat->Bool) (n:Nat) {α β:Type} (m:SV->StateT Zz ZN α) (cz:SV->β->α) (R:β->SI->Prop) (t:SI):Prop:=
 ∃r t',R r t'/\∀prog w A E e s,Ask prog w A c n e s->wpS (B1 prog w) A E s (m e) (λ x y=>x=cz e r/\y=lB e t') (lB e t)
noncomputable def ff {α β:Type} (cz:SV->β->α) (e:SV):ForInStep β->ForInStep α
 | .done b=>.done (cz e b)
 | .yield b=>.yield (cz e b)
noncomputable def qh {β:Type} (R I:β->SI->Prop):ForInStep β->SI->Prop
 | .done b,t=>R b t
 | .yield b,t=>I b t
variable {c:Nat->Nat->Bool} {lo:Nat} {t:SI} {xs:Array Nat}
section
variable {α β γ δ:Type} 
def dR {x:SV->α} {cz:SV->β->α} {R:β->SI->Prop} (r:β) (hx :∀e,x e=cz e r) (h:R r t):cG c n (λ e=>Y1 (x e)) cz R t:=
 ⟨r,t,h,λ _ _ _ _ e _ _=>j56 ⟨hx e,rfl⟩⟩
def bW {m:SV->StateT Zz ZN α} {f:SV->α->StateT Zz ZN γ} {cz:SV->β->α} {cz':SV->δ->γ} {R:δ->SI->Prop} (h:cG c n m cz (λ r t'=>cG c n (λ e=>f e (cz e r)) cz' R t') t):cG c n (λ e=>m e >>= f e) cz' R t:=by obtain ⟨r,p,⟨k,g,l,j⟩,i⟩:=h;refine ⟨k,g,l,λ b w A E e s d=>j57 (wpS_mono (i b w A E e s d) λ a o ⟨e1,e2⟩=>?_)⟩;subst e1 e2;exact j b w A E e s d
def kz {m:SV->StateT Zz ZN α} {cz:SV->β->α} {R R':β->SI->Prop} (h:cG c n m cz R t) (hr :∀r t',R r t'->R' r t'):cG c n m cz R' t:=by obtain ⟨r,d,b,a⟩:=h;exact ⟨r,d,hr _ _ b,a⟩
def nO {R:SI->SI->Prop} (h:R t t):cG c n (λ _=>get) lB R t:=⟨t,t,h,λ _ _ _ _ _ _ _=>wpS_get ⟨rfl,rfl⟩⟩
def sA {f:SV->Zz->Zz} {R:PUnit->SI->Prop} (t':SI) (hf :∀e,f e (lB e t)=lB e t') (h:R ⟨⟩ t'):cG c n (λ e=>modify (f e)) (λ _ u=>u) R t:=
 ⟨⟨⟩,t',h,λ _ _ _ _ e _ _=>wpS_modify ⟨rfl,hf e⟩⟩
def JS {x:SV->Zz} {R:PUnit->SI->Prop} (t':SI) (hf :∀e,x e=lB e t') (h:R ⟨⟩ t'):cG c n (λ e=>set (x e)) (λ _ u=>u) R t:=
 ⟨⟨⟩,t',h,λ _ _ _ _ e _ _=>by show wpS _ _ _ _ (modify λ _=>x e:StateT Zz ZN PUnit) _ _;exact wpS_modify ⟨rfl,hf e⟩⟩
def tQ {z:String} {R:Unit->SI->Prop} (h:R () t):cG c n (λ _=>(liftM (rule z):StateT Zz ZN Unit)) (λ _ u=>u) R t:=
 ⟨(),t,h,λ _ _ _ _ _ _ _=>wpS_lift (j59 ⟨rfl,rfl,rfl⟩)⟩
def sy {arr:SV->Array ZA} {k:Nat} {R:Nat->SI->Prop} (ha :∀e,arr e=xs.map e.2) (hk:xs[i]? = some k) (h:R k t):cG c n (λ e=>Y6 (arr e) i) (λ e k=>e.2 k) R t:=
 ⟨k,t,h,λ _ _ _ _ e _ _=>by show wpS _ _ _ _ (Y6 (arr e) i) _ _;rw [elem'_eq,ha e,Array.getElem?_map,hk];exact j56 ⟨rfl,rfl⟩⟩
def gW {R:Option Bool->SI->Prop} (hi:i < n) (hj:j < n) (h:R (some (c i j)) t):cG c n (λ e=>lt' (e.2 i) (e.2 j)) (λ _ b=>b) R t:=
 ⟨some (c i j),t,h,λ d w A E e s a=>by show wpS _ _ _ _ (lt' (e.2 i) (e.2 j)) _ _;rw [lt'_eq];refine j57 (wpS_get (j57 (wpS_lift (j2a (a i j hi hj _ _ ?_)))));exact ⟨rfl,j56 ⟨rfl,rfl⟩⟩⟩
theorem GU {f:SV->Nat->α->StateT Zz ZN (ForInStep α)} {cz:SV->β->α} {R:β->SI->Prop} (I:List Nat->β->SI->Prop)
  (hs :∀x rest b t,I (x :: rest) b t->cG c n (λ e=>f e x (cz e b)) (ff cz) (qh R (I rest)) t)
  (he :∀b t,I [] b t->R b t) :∀(l:List Nat) (b:β) (t:SI),I l b t->cG c n (λ e=>N5 l (cz e b) (f e)) cz R t
 | [],b,t,h=>⟨b,t,he b t h,λ _ _ _ _ e _ _=>by show wpS _ _ _ _ (N5 ([]:List Nat) (cz e b) (f e)) _ _;rw [n5];exact j56 ⟨rfl,rfl⟩⟩
 | x :: rest,b,t,h=>by
  obtain ⟨r,k,j,i⟩:=hs x rest b t h;cases r with
  | done b'=>refine ⟨b',k,j,λ d w A E e s g=>?_⟩;show wpS _ _ _ _ (N5 (x :: rest) (cz e b) (f e)) _ _;rw [A4];refine j57 (wpS_mono (i d w A E e s g) λ a p ⟨e1,e2⟩=>?_);subst e1 e2;exact j56 ⟨rfl,rfl⟩
  | yield b'=>obtain ⟨u,m,o,q⟩:=GU I hs he rest b' k j;refine ⟨u,m,o,λ d w A E e s g=>?_⟩;show wpS _ _ _ _ (N5 (x :: rest) (cz e b) (f e)) _ _;rw [A4];refine j57 (wpS_mono (i d w A E e s g) λ a p ⟨e1,e2⟩=>?_);subst e1 e2;exact q d w A E e s g
theorem kM {hi:Nat} {f:SV->Nat->α->StateT Zz ZN (ForInStep α)} {cz:SV->β->α} {R:β->SI->Prop} (I:Nat->β->SI->Prop) {b:β} {init:SV->α} (hb :∀e,init e=cz e b) (h0:I lo b t)
  (hs :∀i b t,lo<=i->i < hi->I i b t->cG c n (λ e=>f e i (cz e b)) (ff cz) (qh R (I (i + 1))) t)
  (he :∀b t,I (max lo hi) b t->R b t):cG c n (λ e=>N5 [lo:hi] (init e) (f e)) cz R t:=by
 have k:(λ e=>(N5 [lo:hi] (init e) (f e):StateT Zz ZN α))=λ e=>N5 (List.range' lo (hi - lo)) (cz e b) (f e):=by
  funext e;rw [Std.Legacy.Range.forIn_eq_forIn_range',hb e];have o:([lo:hi]:Std.Legacy.Range).size=hi - lo:=by simp [Std.Legacy.Range.size]
  rw [o]
 rw [k];refine GU (λ l b t=>∃i,l=List.range' i (max lo hi - i)/\lo<=i/\i<=max lo hi/\I i b t) (λ x rest b t h=>?_) (λ b t h=>?_) _ b t ⟨lo,?_,o0 _,Nat.le_max_left _ _,h0⟩
 ·obtain ⟨i,a,j,p,d⟩:=h;obtain ⟨m,g⟩ :∃m,max lo hi - i=m + 1:=by
   cases hq:max lo hi - i with
   | zero=>rw [hq] at a;cases a
   | succ m=>exact ⟨m,rfl⟩
  rw [g,List.range'_succ] at a;injection a with hx hr;subst hx;refine kz (hs _ b t j '%' d) λ r s q=>?_;cases r with
  | done b'=>exact q
  | yield b'=>exact ⟨x + 1,by rw [hr];congr 1;lia,by lia,by lia,q⟩
 ·obtain ⟨i,a,j,p,d⟩:=h;have hi:i=max lo hi:=by
   rcases Q2 i (max lo hi) with z|z
   ·obtain ⟨m,g⟩ :∃m,max lo hi - i=m + 1:=⟨max lo hi - i - 1,by lia⟩
    rw [g,List.range'_succ] at a;cases a
   ·lia
  rw [<-hi] at he;exact he b t d
 ·congr 1
  lia
end
section
def dv {α β:Type} {p:Prop} {d:SV->Decidable p} {x y:SV->StateT Zz ZN α} {cz:SV->β->α} {R:β->SI->Prop} (h1:p->cG c n x cz R t) (h2:¬ p->cG c n y cz R t):cG c n (λ e=>@ite _ p (d e) (x e) (y e)) cz R t:=by
 by_cases h:p
 ·simp only [ZZ h];exact h1 h
 ·simp only [Z_ h];exact h2 h
def gP {α β:Type} {m m':SV->StateT Zz ZN α} {cz:SV->β->α} {R:β->SI->Prop} (h :∀e,m e=m' e) (hd:cG c n m' cz R t):cG c n m cz R t:=by rw [show m=m' from funext h];exact hd
def bR {α β:Type} {f:SV->ZA->StateT Zz ZN α} {cz:SV->β->α} {R:β->SI->Prop} (hi:i < xs.size) (h:cG c n (λ e=>f e (e.2 xs[i])) cz R t):cG c n (λ e=>Y6 (xs.map e.2) i >>= f e) cz R t:=
 bW (cz:=λ e k=>e.2 k) (sy (λ _=>rfl) (W1 hi) h)
end
noncomputable def cR (ρ:Nat->Nat) (i j:Nat):Bool:=decide (ρ i < ρ j)
noncomputable def kv (ρ:Nat->Nat) (a:Array Nat) (x:Nat):Nat:=ρ (a[x]?.getD 0)
def Sd (f:Nat->Nat) (i j:Nat):Prop:=∀x y,i<=x->x<=y->y < j->f x<=f y
variable {R:Option Nat->SI->Prop} {a:Array Nat} {ρ:Nat->Nat}
section
def ie {x k:Nat} (h:a[x]? = some k):kv ρ a x=ρ k:=by unfold kv;rw [h];rfl
def bx {x:Nat} (h:x < a.size):kv ρ a x=ρ a[x]:=ie (W1 h)
def xW {left:Bool} {key:Nat} {base:Nat} {R:Option Bool->SI->Prop} (hk:key < n) (hx :∃k,xs[base + i]? = some k/\k < n) (h :∀b,(b=true↔kv ρ xs (base + i) + left.toNat<=ρ key)->R (some b) t):cG (cR ρ) n (λ e=>Em left (e.2 key) (xs.map e.2) base i) (λ _ b=>b) R t:=by
 obtain ⟨k,hx,a⟩:=hx;rw [ie hx] at h;unfold Em;refine bW (cz:=λ e k=>e.2 k) (sy (λ _=>rfl) hx ?_);cases left with
 | true=>exact gW a hk (h _ (by unfold cR;rw [decide_eq_true_iff];exact Iff.rfl))
 | false=>exact bW (cz:=λ _ b=>b) (gW hk a (dR (some (!cR ρ key k)) (λ _=>rfl) (h _ (by unfold cR;rw [Bool.not_eq_true',decide_eq_false_iff_not,Nat.not_lt];exact Iff.rfl))))
theorem sQ {left:Bool} {key:Nat} {base hint:Nat} (hk:key < n) (hx :∀i,i < m->∃k,xs[base + i]? = some k/\k < n) (hh:hint < m) (hs:Sd (kv ρ xs) base (base + m))
  (h :∀k,k<=m->(∀i,i < k->kv ρ xs (base + i) + left.toNat<=ρ key)->(∀i,k<=i->i < m->ρ key < kv ρ xs (base + i) + left.toNat)->R (some k) t):cG (cR ρ) n (λ e=>s_ left (e.2 key) (xs.map e.2) base m hint) (λ _ r=>r) R t:=by
 have g :∀x y,x<=y->y < m->kv ρ xs (base + x)<=kv ρ xs (base + y):=λ x y o f=>hs _ _ '%' '%' '%';refine gP (m':=λ e=>_ >>= _) (λ _=>rfl) ?_;dsimp only;refine bW (cz:=λ _ b=>b) (xW hk (hx _ hh) λ b c=>?_);dsimp only;refine dv (λ z=>?g1) λ z=>?g2
 case' g1=>
  have z:=c.mp z;refine bW (cz:=λ _ r=>r) (kz (R:=λ r a=>a=t/\∃l k,r=(none,l,k)/\l < k/\hint + l < m/\kv ρ xs (base + (hint + l)) + left.toNat<=ρ key/\(m<=hint + k\/ρ key < kv ρ xs (base + (hint + k)) + left.toNat)) (kM (β:=Option (Option Nat)×Nat×Nat) (λ i b a=>a=t/\∃l k,b=(none,l,k)/\l < k/\i + 1<=k/\hint + l < m/\kv ρ xs (base + (hint + l)) + left.toNat<=ρ key) (b:=(none,0,1)) (λ _=>rfl) ⟨rfl,0,1,rfl,'!','!',hh,z⟩ ?_ ?_) ?_)
  ·rintro i b a _ _ ⟨rfl,l,k,rfl,a1,a2,a3,a4⟩;dsimp only;refine dv (λ z=>dR (.done (none,l,k)) (λ _=>rfl) ⟨rfl,l,k,rfl,a1,a3,a4,.inl '%'⟩) λ A=>bW (cz:=λ _ b=>b) (xW hk (hx _ '%') λ b c=>?_);dsimp only;refine dv (λ z=>dR (.done (none,l,k)) (λ _=>rfl) ⟨rfl,l,k,rfl,a1,a3,a4,.inr ?_⟩) λ z=>dR (.yield (none,k,2 * k + 1)) (λ _=>rfl) ⟨rfl,_,_,rfl,by lia,by lia,by lia,?_⟩
   ·cases b with
    | true=>cases z
    | false=>exact Nat.not_le.mp λ q=>ZU (c.mpr q) '!'
   ·exact c.mp (by cases b<;>simp_all)
  ·rintro b a ⟨rfl,l,k,rfl,a1,a2,a3,a4⟩;exact ⟨rfl,l,k,rfl,a1,a3,a4,.inl (by have:=R3 (J1 m);lia)⟩
  rintro r a ⟨rfl,l,k,rfl,a1,a3,a4,a5⟩;have u:hint + l + 1<=hint + min k (m - hint):=by lia
  have s:hint + min k (m - hint)<=m:=by lia
  have w :∀i,i < hint + l + 1->kv ρ xs (base + i) + left.toNat<=ρ key:=λ i p=>by have:=g i (hint + l) '%' a3;lia
  have v :∀i,hint + min k (m - hint)<=i->i < m->ρ key < kv ρ xs (base + i) + left.toNat:=λ i o f=>by
   rcases a5 with a5|a5
   ·lia
   ·have:=g (hint + k) i '%' f;lia
 case' g2=>
  have z:=Nat.not_le.mp λ q=>z (c.mpr q);refine bW (cz:=λ _ r=>r) (kz (R:=λ r a=>a=t/\∃l k,r=(none,l,k)/\l < k/\l<=hint/\ρ key < kv ρ xs (base + (hint - l)) + left.toNat/\(hint < k\/kv ρ xs (base + (hint - k)) + left.toNat<=ρ key)) (kM (β:=Option (Option Nat)×Nat×Nat) (λ i b a=>a=t/\∃l k,b=(none,l,k)/\l < k/\i + 1<=k/\l<=hint/\ρ key < kv ρ xs (base + (hint - l)) + left.toNat) (b:=(none,0,1)) (λ _=>rfl) ⟨rfl,0,1,rfl,'!','!',J1 _,z⟩ ?_ ?_) ?_)
  ·rintro i b a _ _ ⟨rfl,l,k,rfl,a1,a2,a3,a4⟩;dsimp only;refine dv (λ z=>dR (.done (none,l,k)) (λ _=>rfl) ⟨rfl,l,k,rfl,a1,a3,a4,.inl '%'⟩) λ A=>bW (cz:=λ _ b=>b) (xW hk (hx _ '%') λ b c=>?_);dsimp only;refine dv (λ z=>dR (.done (none,l,k)) (λ _=>rfl) ⟨rfl,l,k,rfl,a1,a3,a4,.inr (c.mp z)⟩) λ z=>dR (.yield (none,k,2 * k + 1)) (λ _=>rfl) ⟨rfl,_,_,rfl,by lia,by lia,by lia,Nat.not_le.mp λ q=>z (c.mpr q)⟩
  ·rintro b a ⟨rfl,l,k,rfl,a1,a2,a3,a4⟩;exact ⟨rfl,l,k,rfl,a1,a3,a4,.inl (by have:=R3 (J1 m);lia)⟩
  rintro r a ⟨rfl,l,k,rfl,a1,a3,a4,a5⟩;have u:hint + 1 - min k (hint + 1)<=hint - l:=by lia
  have s:hint - l<=m:=by lia
  have w :∀i,i < hint + 1 - min k (hint + 1)->kv ρ xs (base + i) + left.toNat<=ρ key:=λ i p=>by
   rcases a5 with a5|a5
   ·lia
   ·have:=g i (hint - k) '%' '%';lia
  have v :∀i,hint - l<=i->i < m->ρ key < kv ρ xs (base + i) + left.toNat:=λ i o f=>by have:=g (hint - l) i o f;lia
 all_goals
  dsimp only;refine bW (cz:=λ _ r=>r) (kz (R:=λ r d=>d=a/\∃l k,r=(none,l,k)/\k<=l/\k<=m/\(∀i,i < l->kv ρ xs (base + i) + left.toNat<=ρ key)/\∀i,k<=i->i < m->ρ key < kv ρ xs (base + i) + left.toNat) (kM (β:=Option (Option Nat)×Nat×Nat) (λ i b d=>d=a/\∃l k,b=(none,l,k)/\l<=k/\k<=m/\k + i<=l + m/\(∀i,i < l->kv ρ xs (base + i) + left.toNat<=ρ key)/\∀i,k<=i->i < m->ρ key < kv ρ xs (base + i) + left.toNat) (λ _=>rfl) ⟨rfl,_,_,rfl,u,s,by lia,w,v⟩ ?_ ?_) ?_)
  ·rintro i b d _ _ ⟨rfl,l,k,rfl,a1,a2,a3,a4,a5⟩;dsimp only;refine dv (λ z=>dR (.done (none,l,k)) (λ _=>rfl) ⟨rfl,l,k,rfl,z,a2,a4,a5⟩) λ A=>bW (cz:=λ _ b=>b) (xW hk (hx _ '%') λ b c=>?_);dsimp only;refine dv (λ z=>dR (.yield (none,_,_)) (λ _=>rfl) ⟨rfl,_,_,rfl,by lia,a2,by lia,λ j D=>?_,a5⟩) λ z=>dR (.yield (none,_,_)) (λ _=>rfl) ⟨rfl,_,_,rfl,by lia,by lia,by lia,a4,λ j o f=>?_⟩
   ·have B:=c.mp z;have C:=g j (l + (k - l) / 2) '%' '%'
    lia
   ·have B:=Nat.not_le.mp λ q=>z (c.mpr q);have C:=g (l + (k - l) / 2) j o f
    lia
  ·rintro b d ⟨rfl,l,k,rfl,a1,a2,a3,a4,a5⟩;exact ⟨rfl,l,k,rfl,by have:=R3 (J1 m);lia,a2,a4,a5⟩
  ·rintro r d ⟨rfl,l,k,rfl,a1,a2,a3,a4⟩;exact dR (some k) (λ _=>rfl) (h k a2 (λ i p=>a3 i '%') a4)
end
variable {f:Nat->ZA} {ia ib:Nat} {o x xa xb:Array Nat}
section
def sG {k:Nat}:(o.map f).push (f k)=(o.push k).map f:=by simp
def Fq {k:Nat}:#[f k] = #[k].map f:=by simp
def sM:o.map f++p.map f=(o++p).map f:=by simp
def oZ:(o.map f).extract i j=(o.extract i j).map f:=by simp
def jE:(o.map f).reverse=o.reverse.map f:=by simp
def So (ρ:Nat->Nat) (l:List Nat):Prop:=l.Pairwise λ x y=>ρ x<=ρ y
theorem c_ (hj:j<=x.size) (h:Sd (kv ρ x) i j):So ρ (x.extract i j).toList:=by refine List.pairwise_iff_getElem.mpr λ a b d c e=>?_;rw [O0,F6] at d c;have:=h (i + a) (i + b) '%' '%' '%';rw [bx '%',bx '%'] at this;simpa using this
theorem br {y:Nat} (hj:j<=x.size) (h:y∈(x.extract i j).toList) :∃q,i<=q/\q < j/\ρ y=kv ρ x q:=by obtain ⟨a,b,rfl⟩:=List.mem_iff_getElem.mp h;rw [O0,F6] at b;refine ⟨i + a,by lia,by lia,?_⟩;rw [bx '%'];simp
def yF (h:i < x.size):o.push x[i]=o++x.extract i (i + 1):=by apply Array.toList_inj.mp;rw [Array.toList_push,u1,j3,P2,o9,r6 (by simpa using h)];simp
def kK (ρ:Nat->Nat) (xa xb:Array Nat) (ia ib:Nat) (o:Array Nat):Prop:=o.toList.Perm (xa.toList.take ia++xb.toList.take ib)/\So ρ o.toList/\∀x∈o.toList,(∀j,ia<=j->j < xa.size->ρ x<=kv ρ xa j)/\∀j,ib<=j->j < xb.size->ρ x<=kv ρ xb j
def Du {l:List Nat} {k:Nat}:l.take i++(l.drop i).take k=l.take (i + k):=List.take_add.symm
theorem lO (sa:Sd (kv ρ xa) 0 xa.size) (sb:Sd (kv ρ xb) 0 xb.size) {k:Nat} (h:kK ρ xa xb ia ib o) (hk:ia + k<=xa.size) (hx :∀j,ia<=j->j < ia + k->ib < xb.size->kv ρ xa j<=kv ρ xb ib):kK ρ xa xb (ia + k) ib (o++xa.extract ia (ia + k)):=by
 obtain ⟨h,i,d⟩:=h;refine ⟨?_,?_,?_⟩
 ·rw [u1,j3,P2,<-Du,o9,V1];refine (h.append_right _).trans ?_;rw [V1];exact u3 _ K4
 all_goals rw [u1]
 ·exact List.pairwise_append.mpr ⟨i,c_ hk λ x y a b c=>sa x y '%' b '%',λ x hx y l=>by obtain ⟨q,f,g,e⟩:=br (ρ:=ρ) hk l;rw [e];exact (d x hx).1 q f '%'⟩
 ·intro x m;rcases List.mem_append.mp m with m|m
  ·exact ⟨λ j a b=>(d x m).1 j '%' b,(d x m).2⟩
  ·obtain ⟨q,f,g,e⟩:=br (ρ:=ρ) hk m;rw [e];exact ⟨λ j a b=>sa q j '%' '%' b,λ j a b=>C0 (hx q f g '%') (sb ib j '%' a b)⟩
theorem mH (sa:Sd (kv ρ xa) 0 xa.size) (sb:Sd (kv ρ xb) 0 xb.size) {k:Nat} (h:kK ρ xa xb ia ib o) (hk:ib + k<=xb.size) (hx :∀j,ib<=j->j < ib + k->ia < xa.size->kv ρ xb j<=kv ρ xa ia):kK ρ xa xb ia (ib + k) (o++xb.extract ib (ib + k)):=by
 obtain ⟨h,i,d⟩:=h;refine ⟨?_,?_,?_⟩
 ·rw [u1,j3,P2,<-Du,o9,<-V1];exact h.append_right _
 all_goals rw [u1]
 ·exact List.pairwise_append.mpr ⟨i,c_ hk λ x y a b c=>sb x y '%' b '%',λ x hx y l=>by obtain ⟨q,f,g,e⟩:=br (ρ:=ρ) hk l;rw [e];exact (d x hx).2 q f '%'⟩
 ·intro x m;rcases List.mem_append.mp m with m|m
  ·exact ⟨(d x m).1,λ j a b=>(d x m).2 j '%' b⟩
  ·obtain ⟨q,f,g,e⟩:=br (ρ:=ρ) hk m;rw [e];exact ⟨λ j a b=>C0 (hx q f g '%') (sa ia j '%' a b),λ j a b=>sb q j '%' '%' b⟩
theorem lL (sa:Sd (kv ρ xa) 0 xa.size) (sb:Sd (kv ρ xb) 0 xb.size) (h:kK ρ xa xb ia ib o) (hi:ia < xa.size) (hx:ib < xb.size->kv ρ xa ia<=kv ρ xb ib):kK ρ xa xb (ia + 1) ib (o.push xa[ia]):=by rw [yF hi];exact lO sa sb h hi λ j a b z=>by rw [show j=ia by lia];exact hx z
theorem mT (sa:Sd (kv ρ xa) 0 xa.size) (sb:Sd (kv ρ xb) 0 xb.size) (h:kK ρ xa xb ia ib o) (hi:ib < xb.size) (hx:ia < xa.size->kv ρ xb ib<=kv ρ xa ia):kK ρ xa xb ia (ib + 1) (o.push xb[ib]):=by rw [yF hi];exact mH sa sb h hi λ j a b z=>by rw [show j=ib by lia];exact hx z
abbrev hM (ρ:Nat->Nat) (xa xb o:Array Nat):Prop:=o.toList.Perm (xa.toList++xb.toList)/\So ρ o.toList
def wo:(x.extract i x.size).toList=x.toList.drop i:=by rw [j3,P2,D4];simp
theorem tJ (sa:Sd (kv ρ xa) 0 xa.size) (sb:Sd (kv ρ xb) 0 xb.size) (h:kK ρ xa xb ia ib o) (z:ia=xa.size\/ib=xb.size):hM ρ xa xb (o++xa.extract ia xa.size++xb.extract ib xb.size):=by
 obtain ⟨h,l,k⟩:=h;constructor
 ·rw [u1,u1,wo,wo];refine ((h.append_right _).append_right _).trans ?_
  conv=>rhs;rw [<-O2 ia xa.toList,<-O2 ib xb.toList]
  simp only [V1];refine u3 _ ?_;simp only [<-V1];exact X4 _ K4
 ·rw [u1,u1];refine List.pairwise_append.mpr ⟨List.pairwise_append.mpr ⟨l,c_ (o0 _) λ x y a b c=>sa x y '%' b c,λ x d y j=>?_⟩,c_ (o0 _) λ x y a b c=>sb x y '%' b c,λ x d y j=>?_⟩
  ·obtain ⟨q,g,i,e⟩:=br (ρ:=ρ) (o0 _) j;rw [e];exact (k x d).1 q g i
  ·obtain ⟨q,g,i,e⟩:=br (ρ:=ρ) (o0 _) j;rcases List.mem_append.mp d with d|d
   ·rw [e];exact (k x d).2 q g i
   ·obtain ⟨r,n,m,f⟩:=br (ρ:=ρ) (o0 _) d
    lia
theorem wY (sa:Sd (kv ρ xa) 0 xa.size) (sb:Sd (kv ρ xb) 0 xb.size) (hl :∀j,j < xb.size->kv ρ xb j<=kv ρ xa (xa.size - 1)) (h:kK ρ xa xb ia ib o) (z:ia + 1=xa.size):hM ρ xa xb (o++xb.extract ib xb.size++xa.extract ia xa.size):=by
 obtain ⟨h,m,l⟩:=h;constructor
 ·rw [u1,u1,wo,wo];refine ((h.append_right _).append_right _).trans ?_
  conv=>rhs;rw [<-O2 ia xa.toList,<-O2 ib xb.toList]
  simp only [V1];refine u3 _ ?_;rw [<-V1];exact K4
 ·rw [u1,u1];refine List.pairwise_append.mpr ⟨List.pairwise_append.mpr ⟨m,c_ (o0 _) λ x y a b c=>sb x y '%' b c,λ x d y k=>?_⟩,c_ (o0 _) λ x y a b c=>sa x y '%' b c,λ x d y k=>?_⟩
  ·obtain ⟨q,g,i,e⟩:=br (ρ:=ρ) (o0 _) k;rw [e];exact (l x d).2 q g i
  ·obtain ⟨q,g,i,e⟩:=br (ρ:=ρ) (o0 _) k;rw [e];rcases List.mem_append.mp d with d|d
   ·exact (l x d).1 q g i
   ·obtain ⟨r,p,n,f⟩:=br (ρ:=ρ) (o0 _) d;rw [f,show q=xa.size - 1 by lia];exact hl r n
theorem Kh (sb:Sd (kv ρ xb) 0 xb.size) (hf :∀j,j < xa.size->kv ρ xb 0<=kv ρ xa j) (hb:0 < xb.size):kK ρ xa xb 0 1 #[xb[0]]:=by
 refine ⟨?_,L6 _ _,λ x c=>?_⟩
 ·rw [j23 (l:=xb.toList) (by simpa using hb)];simp
 ·obtain rfl:x=xb[0]:=by simpa using c
  rw [<-bx (ρ:=ρ) hb];exact ⟨λ j _ b=>hf j b,λ j a b=>sb 0 j '%' '%' b⟩
def z_ {g:Nat} {R:Unit->SI->Prop} (h:R () ⟨t.a,t.p,g⟩):cG c n (λ _=>xJ g) (λ _ u=>u) R t:=sA ⟨t.a,t.p,g⟩ (λ _=>rfl) h
def vq (ρ:Nat->Nat) (xa xb:Array Nat) (t:SI) {T:Type} (b:Option (Array Nat)×T) (t':SI):Prop:=
 (∃g,t'=⟨t.a,t.p,g⟩)/\∃z q,b=(some z,q)/\hM ρ xa xb z
end
noncomputable abbrev dG:SV->Nat->Nat:=λ _ x=>x
noncomputable abbrev gI:SV->Array Nat->Array ZA:=λ e o=>o.map e.2
noncomputable abbrev Ms (K A B C T:Type):=Option (Array K)×A×B×C×T
variable {q:Nat}
section
variable {A B C A' B' C' T:Type} {t1:SI} {P:Nat->A'->B'->C'->Prop} {fa:SV->A'->A} {fb:SV->B'->B} {fc:SV->C'->C}
noncomputable abbrev kQ (fa:SV->A'->A) (fb:SV->B'->B) (fc:SV->C'->C) (e:SV) (b:Ms Nat A' B' C' T):Ms ZA A B C T:=(b.1.map (W8 e.2),fa e b.2.1,fb e b.2.2.1,fc e b.2.2.2.1,b.2.2.2.2)
def iZ (P:Nat->A'->B'->C'->Prop) (t:SI) (m:Nat) (b:Ms Nat A' B' C' T) (t':SI):Prop:=
 (∃g,t'=⟨t.a,t.p,g⟩)/\∃x y z q,b=(none,x,y,z,q)/\P m x y z
abbrev gm (ρ:Nat->Nat) (xa xb:Array Nat) (P:Nat->A'->B'->C'->Prop) (t:SI) (m:Nat):ForInStep (Ms Nat A' B' C' T)->SI->Prop:=
 qh (λ r t'=>vq ρ xa xb t r t'\/iZ P t m r t') (iZ P t m)
variable (fa fb fc) in
def ky {w:Array Nat} {x:A'} {y:B'} {z:C'} {q:T} {g:Nat} (h:hM ρ xa xb w):cG (cR ρ) n (λ e=>Y1 (.done (some (w.map e.2),fa e x,fb e y,fc e z,q))) (ff (kQ fa fb fc)) (gm ρ xa xb P t m) ⟨t.a,t.p,g⟩:=dR (.done (some w,x,y,z,q)) (λ _=>rfl) (.inl ⟨⟨_,rfl⟩,_,_,rfl,h⟩)
variable (fa fb fc) in
def gu {p:Prop} {d:SV->Decidable p} {x:A'} {y:B'} {z:C'} {q:T} {g:Nat} (h:P m x y z):cG (cR ρ) n (λ e=>@ite _ p (d e) (Y1 (.done (none,fa e x,fb e y,fc e z,q))) (Y1 (.yield (none,fa e x,fb e y,fc e z,q)))) (ff (kQ fa fb fc)) (gm ρ xa xb P t m) ⟨t.a,t.p,g⟩:=
 have b:iZ P t m (none,x,y,z,q) ⟨t.a,t.p,g⟩:=⟨⟨_,rfl⟩,_,_,_,_,rfl,h⟩
 dv (λ _=>dR (.done (none,x,y,z,q)) (λ _=>rfl) (.inr b)) λ _=>dR (.yield (none,x,y,z,q)) (λ _=>rfl) b
noncomputable def mO (tot:Nat) (f1:Nat->Nat->Ms ZA A B C (Nat×Nat)->StateT Zz ZN (ForInStep (Ms ZA A B C (Nat×Nat)))) (f3:Nat->Ms ZA A B C (Nat×Nat×Nat)->StateT Zz ZN (ForInStep (Ms ZA A B C (Nat×Nat×Nat)))) (_:Nat) (s:Ms ZA A B C Nat):StateT Zz ZN (ForInStep (Ms ZA A B C Nat)):=do
 let s1 <-N5 [0:tot] ((none,s.2.1,s.2.2.1,s.2.2.2.1,0,0):Ms ZA A B C (Nat×Nat)) (f1 s.2.2.2.2)
 match s1.1 with
 | some r=>Y1 (.done (some r,s1.2.1,s1.2.2.1,s1.2.2.2.1,s.2.2.2.2))
 | none=>do
  rule "list.sort.gallop"
  let s2 <-N5 [0:tot] ((none,s1.2.1,s1.2.2.1,s1.2.2.2.1,s.2.2.2.2 + 1,s1.2.2.2.2.1,s1.2.2.2.2.2):Ms ZA A B C (Nat×Nat×Nat)) f3
  match s2.1 with
  | some r=>Y1 (.done (some r,s2.2.1,s2.2.2.1,s2.2.2.2.1,s2.2.2.2.2.1))
  | none=>do
   xJ (s2.2.2.2.2.1 + 1)
   Y1 (.yield (none,s2.2.1,s2.2.2.1,s2.2.2.2.1,s2.2.2.2.2.1 + 1))
noncomputable def mF (tot:Nat) (f1:Nat->Nat->Ms ZA A B C (Nat×Nat)->StateT Zz ZN (ForInStep (Ms ZA A B C (Nat×Nat)))) (f3:Nat->Ms ZA A B C (Nat×Nat×Nat)->StateT Zz ZN (ForInStep (Ms ZA A B C (Nat×Nat×Nat)))) (i:Ms ZA A B C Nat):StateT Zz ZN (Array ZA):=do
 let r <-N5 [0:tot] i (mO tot f1 f3)
 match r.1 with
 | some r=>Y1 r
 | none=>unsupported "internal:list.sort.merge-bound"
variable {tot:Nat} {f1:SV->Nat->Nat->Ms ZA A B C (Nat×Nat)->StateT Zz ZN (ForInStep (Ms ZA A B C (Nat×Nat)))} {f3:SV->Nat->Ms ZA A B C (Nat×Nat×Nat)->StateT Zz ZN (ForInStep (Ms ZA A B C (Nat×Nat×Nat)))} (ht:0 < tot) (le :∀m k x y z,k<=m->P m x y z->P k x y z)
 (h1 :∀g i m b t1,iZ P t m b t1->cG (cR ρ) n (λ e=>f1 e g i (kQ fa fb fc e b)) (ff (kQ fa fb fc)) (gm ρ xa xb P t (m + 1)) t1)
 (h3 :∀i m b t1,iZ P t m b t1->cG (cR ρ) n (λ e=>f3 e i (kQ fa fb fc e b)) (ff (kQ fa fb fc)) (gm ρ xa xb P t m) t1)
include ht le h1 h3
theorem pY {b:Ms Nat A' B' C' Nat} (h:iZ P t m b t1):cG (cR ρ) n (λ e=>mO tot (f1 e) (f3 e) i (kQ fa fb fc e b)) (ff (kQ fa fb fc)) (qh (vq ρ xa xb t) (iZ P t (m + 1))) t1:=by
 obtain ⟨⟨g,rfl⟩,x,y,z,q,rfl,f⟩:=h;unfold mO;dsimp only;have lt :∀{m k:Nat} {T:Type} {b:Ms Nat A' B' C' T} {t1:SI},iZ P t m b t1->k<=m->iZ P t k b t1:=λ ⟨hg,x,y,z,q,e,h⟩ hk=>⟨hg,x,y,z,q,e,le _ _ _ _ _ hk h⟩
 refine bW (cz:=kQ fa fb fc) (kz (R:=λ r a=>vq ρ xa xb t r a\/iZ P t (m + 1) r a) (kM (λ j b a=>iZ P t (m + min j 1) b a) (b:=(none,x,y,z,0,0)) (λ _=>rfl) ⟨⟨_,rfl⟩,_,_,_,_,rfl,f⟩ (λ j b d _ _ c=>kz (h1 _ _ _ b _ c) λ r a h=>?_) λ b a h=>.inr (lt h '%')) ?_)
 ·cases r with
  | done b=>exact h.imp id λ h=>lt h '%'
  | yield b=>exact lt h '%'
 rintro r d (⟨⟨g2,rfl⟩,w,⟨x2,y2,z2,q2⟩,rfl,hz⟩|⟨⟨g2,rfl⟩,x2,y2,z2,q2,rfl,c⟩)
 ·exact dR (.done (some w,x2,y2,z2,q)) (λ _=>rfl) ⟨⟨_,rfl⟩,_,_,rfl,hz⟩
 dsimp only [Option.map_none];refine bW (cz:=λ _ u=>u) (tQ ?_);refine bW (cz:=kQ fa fb fc) (kz (R:=λ r a=>vq ρ xa xb t r a\/iZ P t (m + 1) r a) (kM (λ j b a=>iZ P t (m + 1) b a) (b:=(none,x2,y2,z2,_,_,_)) (λ _=>rfl) ⟨⟨_,rfl⟩,_,_,_,_,rfl,c⟩ (λ j b d _ _ c=>h3 _ _ b _ c) λ b a h=>.inr h) ?_);rintro r d (⟨⟨g2,rfl⟩,w,⟨x2,y2,z2,q2⟩,rfl,hz⟩|⟨⟨g2,rfl⟩,x2,y2,z2,q2,rfl,c⟩)
 ·exact dR (.done (some w,x2,y2,z2,q2.1)) (λ _=>rfl) ⟨⟨_,rfl⟩,_,_,rfl,hz⟩
 dsimp only [Option.map_none];exact bW (cz:=λ _ u=>u) (z_ (dR (.yield (none,x2,y2,z2,q2.1 + 1)) (λ _=>rfl) ⟨⟨_,rfl⟩,_,_,_,_,rfl,c⟩))
def l_ {x:A'} {y:B'} {z:C'} {R:Array Nat->SI->Prop} (h0:P 1 x y z) (bad :∀x y z,¬ P (tot + 1) x y z) (h :∀r g,hM ρ xa xb r->R r ⟨t.a,t.p,g⟩):cG (cR ρ) n (λ e=>mF tot (f1 e) (f3 e) (none,fa e x,fb e y,fc e z,q)) (λ e r=>r.map e.2) R t:=by
 unfold mF;refine bW (cz:=kQ fa fb fc) (kz (R:=vq ρ xa xb t) (kM (λ i b c=>iZ P t (i + 1) b c) (b:=(none,x,y,z,q)) (λ _=>rfl) ⟨⟨t.g,rfl⟩,_,_,_,_,rfl,h0⟩ (λ j b k _ _ d=>pY ht le h1 h3 d) ?_) ?_)
 ·rintro b f ⟨-,x,y,z,q,rfl,hp⟩;rw [R3 (J1 _)] at hp;exact ZU hp (bad _ _ _)
 ·rintro r f ⟨⟨g,rfl⟩,z,q,rfl,hz⟩;exact dR z (λ _=>rfl) (h _ _ hz)
end
def lu {α:Type} {f g:Nat->α->StateT Zz ZN (ForInStep α)} {i:α} {a b:Nat} (h :∀k s,f k s=g k s):N5 [a:b] i f=N5 [a:b] i g:=by rw [show f=g from funext λ k=>funext λ s=>h k s]
def lh {α β:Type} {x y:StateT Zz ZN α} {f g:α->StateT Zz ZN β} (h1:x=y) (h2 :∀a,f a=g a):x >>= f=y >>= g:=by rw [h1,funext h2]
variable {na nb:Nat}
section
def jA (ρ:Nat->Nat) (xa xb:Array Nat) (na nb:Nat) (o:Array Nat):Prop:=o.toList.Perm (xa.toList.drop na++xb.toList.drop nb)/\(o.toList.Pairwise λ x y=>ρ y<=ρ x)/\∀x∈o.toList,(∀j,j < na->kv ρ xa j<=ρ x)/\∀j,j < nb->kv ρ xb j<=ρ x
theorem lM (sa:Sd (kv ρ xa) 0 xa.size) {k:Nat} (h:jA ρ xa xb na nb o) (hk:k<=na) (hn:na<=xa.size) (hx :∀j i,k<=j->j < na->i < nb->kv ρ xb i<=kv ρ xa j):jA ρ xa xb k nb (o++(xa.extract k na).reverse):=by
 obtain ⟨h,l,d⟩:=h;refine ⟨?_,?_,?_⟩
 ·have e:xa.toList.drop k=(xa.extract k na).toList++xa.toList.drop na:=by
   rw [j3,P2]
   conv=>lhs;rw [<-O2 (na - k) (j2d k xa.toList)]
   rw [d8,show k + (na - k)=na by lia]
  rw [u1,Q3,e,V1];refine (h.append_right _).trans (List.perm_append_comm.trans ?_);exact X4 _ (G8 _)
 all_goals rw [u1,Q3]
 ·refine List.pairwise_append.mpr ⟨l,List.pairwise_reverse.mpr (c_ hn λ x y a b c=>sa x y '%' b '%'),λ x hx y n=>?_⟩;obtain ⟨q,g,f,e⟩:=br (ρ:=ρ) hn (List.mem_reverse.mp n);rw [e];exact (d x hx).1 q f
 ·intro x m;rcases List.mem_append.mp m with m|m
  ·exact ⟨λ j a=>(d x m).1 j '%',(d x m).2⟩
  ·obtain ⟨q,g,f,e⟩:=br (ρ:=ρ) hn (List.mem_reverse.mp m);rw [e];exact ⟨λ j a=>sa j q '%' '%' '%',λ j a=>hx q j g f a⟩
theorem lN (sb:Sd (kv ρ xb) 0 xb.size) {k:Nat} (h:jA ρ xa xb na nb o) (hk:k<=nb) (hn:nb<=xb.size) (hx :∀j i,k<=j->j < nb->i < na->kv ρ xa i<=kv ρ xb j):jA ρ xa xb na k (o++(xb.extract k nb).reverse):=by
 obtain ⟨h,l,d⟩:=h;refine ⟨?_,?_,?_⟩
 ·have e:xb.toList.drop k=(xb.extract k nb).toList++xb.toList.drop nb:=by
   rw [j3,P2]
   conv=>lhs;rw [<-O2 (nb - k) (j2d k xb.toList)]
   rw [d8,show k + (nb - k)=nb by lia]
  rw [u1,Q3,e];refine (h.append_right _).trans ?_;rw [V1];refine u3 _ (List.perm_append_comm.trans ?_);exact X4 _ (G8 _)
 all_goals rw [u1,Q3]
 ·refine List.pairwise_append.mpr ⟨l,List.pairwise_reverse.mpr (c_ hn λ x y a b c=>sb x y '%' b '%'),λ x hx y n=>?_⟩;obtain ⟨q,g,f,e⟩:=br (ρ:=ρ) hn (List.mem_reverse.mp n);rw [e];exact (d x hx).2 q f
 ·intro x m;rcases List.mem_append.mp m with m|m
  ·exact ⟨(d x m).1,λ j a=>(d x m).2 j '%'⟩
  ·obtain ⟨q,g,f,e⟩:=br (ρ:=ρ) hn (List.mem_reverse.mp m);rw [e];exact ⟨λ j a=>hx q j g f a,λ j a=>sb j q '%' '%' '%'⟩
def FU (h:i < x.size):o.push x[i]=o++(x.extract i (i + 1)).reverse:=by have e:#[].push x[i] = #[]++x.extract i (i + 1):=yF h;rw [Array.empty_append] at e;rw [<-e];simp
theorem mY (sa:Sd (kv ρ xa) 0 xa.size) (h:jA ρ xa xb (na + 1) nb o) (hi:na < xa.size) (hx :∀i,i < nb->kv ρ xb i<=kv ρ xa na):jA ρ xa xb na nb (o.push xa[na]):=by rw [FU hi];exact lM sa h '%' hi λ j i a b z=>by rw [show j=na by lia];exact hx i z
theorem mE (sb:Sd (kv ρ xb) 0 xb.size) (h:jA ρ xa xb na (nb + 1) o) (hi:nb < xb.size) (hx :∀i,i < na->kv ρ xa i<=kv ρ xb nb):jA ρ xa xb na nb (o.push xb[nb]):=by rw [FU hi];exact lN sb h '%' hi λ j i a b z=>by rw [show j=nb by lia];exact hx i z
def wX:(x.extract 0 i).toList=x.toList.take i:=by rw [j3,P2];simp
theorem wz (sa:Sd (kv ρ xa) 0 xa.size) (sb:Sd (kv ρ xb) 0 xb.size) (h:jA ρ xa xb na nb o) (ma:na<=xa.size) (mb:nb<=xb.size) (z:na=0\/nb=0):hM ρ xa xb (xa.extract 0 na++xb.extract 0 nb++o.reverse):=by
 obtain ⟨h,l,j⟩:=h;constructor
 ·rw [u1,u1,wX,wX,Q3];refine (u3 _ ((G8 _).trans h)).trans ?_
  conv=>rhs;rw [<-O2 na xa.toList,<-O2 nb xb.toList]
  simp only [V1];refine u3 _ ?_;simp only [<-V1];exact X4 _ K4
 ·rw [u1,u1,Q3];refine List.pairwise_append.mpr ⟨List.pairwise_append.mpr ⟨c_ ma λ x y a b c=>sa x y a b '%',c_ mb λ x y a b c=>sb x y a b '%',λ x d y i=>?_⟩,List.pairwise_reverse.mpr l,λ x d y i=>?_⟩
  ·obtain ⟨q,m,n,e⟩:=br (ρ:=ρ) mb i;obtain ⟨r,k,g,f⟩:=br (ρ:=ρ) ma d
   lia
  ·rcases List.mem_append.mp d with d|d
   ·obtain ⟨r,k,g,f⟩:=br (ρ:=ρ) ma d;rw [f];exact (j y (List.mem_reverse.mp i)).1 r g
   ·obtain ⟨r,k,g,f⟩:=br (ρ:=ρ) mb d;rw [f];exact (j y (List.mem_reverse.mp i)).2 r g
theorem wO (sa:Sd (kv ρ xa) 0 xa.size) (sb:Sd (kv ρ xb) 0 xb.size) (hf :∀j,j < xa.size->kv ρ xb 0<=kv ρ xa j) (h:jA ρ xa xb na nb o) (ma:na<=xa.size) (mb:nb<=xb.size) (z:nb=1):hM ρ xa xb (xb.extract 0 nb++xa.extract 0 na++o.reverse):=by
 obtain ⟨h,m,k⟩:=h;constructor
 ·rw [u1,u1,wX,wX,Q3];refine (u3 _ ((G8 _).trans h)).trans ?_
  conv=>rhs;rw [<-O2 na xa.toList,<-O2 nb xb.toList]
  refine ((K4).append_right _).trans ?_;simp only [V1];refine u3 _ ?_;simp only [<-V1];exact X4 _ K4
 ·rw [u1,u1,Q3];refine List.pairwise_append.mpr ⟨List.pairwise_append.mpr ⟨c_ mb λ x y a b c=>sb x y a b '%',c_ ma λ x y a b c=>sa x y a b '%',λ x d y i=>?_⟩,List.pairwise_reverse.mpr m,λ x d y i=>?_⟩
  ·obtain ⟨q,n,p,e⟩:=br (ρ:=ρ) ma i;obtain ⟨r,l,g,f⟩:=br (ρ:=ρ) mb d;rw [e,f,show r=0 by lia];exact hf q '%'
  ·rcases List.mem_append.mp d with d|d
   ·obtain ⟨r,l,g,f⟩:=br (ρ:=ρ) mb d;rw [f];exact (k y (List.mem_reverse.mp i)).2 r g
   ·obtain ⟨r,l,g,f⟩:=br (ρ:=ρ) ma d;rw [f];exact (k y (List.mem_reverse.mp i)).1 r g
theorem Kv (sa:Sd (kv ρ xa) 0 xa.size) (hl :∀j,j < xb.size->kv ρ xb j<=kv ρ xa (xa.size - 1)) (ha:0 < xa.size):jA ρ xa xb (xa.size - 1) xb.size #[xa[xa.size - 1]]:=by
 refine ⟨?_,L6 _ _,λ x b=>?_⟩
 ·rw [r6 (by simp;lia)];simp
  lia
 ·obtain rfl:x=xa[xa.size - 1]:=by simpa using b
  rw [<-bx (ρ:=ρ) '%'];exact ⟨λ j a=>sa j _ '%' '%' '%',hl⟩
noncomputable abbrev pV (T:Type):=Ms ZA Nat Nat (Array ZA) T
noncomputable abbrev kj (a b o:Array ZA) (na nb:Nat):=a.extract 0 na++b.extract 0 nb++o.reverse
noncomputable def wH (a b:Array ZA) (na nb:Nat) (o:Array ZA) (g ac bc:Nat):StateT Zz ZN (ForInStep (pV (Nat×Nat×Nat))):=do
 let x <-Y6 a (na - 1)
 if (na - 1 == 0)=true then Y1 (.done (some (kj a b (o.push x) (na - 1) nb),na - 1,nb,o.push x,g,ac,bc))
 else if (decide (ac < 7) && decide (bc < 7))=true then Y1 (.done (none,na - 1,nb,o.push x,g,ac,bc)) else Y1 (.yield (none,na - 1,nb,o.push x,g,ac,bc))
noncomputable def xj (a b:Array ZA) (na nb:Nat) (o:Array ZA) (g ac bc:Nat):StateT Zz ZN (ForInStep (pV (Nat×Nat×Nat))):=do
 let x <-Y6 b (nb - 1)
 if (nb - 1 == 1)=true then Y1 (.done (some (kj b a (o.push x) (nb - 1) na),na,nb - 1,o.push x,g,ac,bc))
 else do
  let y <-Y6 a (na - 1)
  let r <-s_ true y b 0 (nb - 1) (nb - 1 - 1)
  match r with
  | some k=>
   if nb - 1 - k > 0 then
    if (k == 1)=true then Y1 (.done (some (kj b a (o.push x++(b.extract k (nb - 1)).reverse) k na),na,k,o.push x++(b.extract k (nb - 1)).reverse,g,ac,nb - 1 - k))
    else if (k == 0)=true then Y1 (.done (some (kj a b (o.push x++(b.extract k (nb - 1)).reverse) na k),na,k,o.push x++(b.extract k (nb - 1)).reverse,g,ac,nb - 1 - k))
    else wH a b na k (o.push x++(b.extract k (nb - 1)).reverse) g ac (nb - 1 - k)
   else wH a b na (nb - 1) (o.push x) g ac (nb - 1 - k)
  | none=>Y1 (.done (some (kj a b (o.push x) na (nb - 1)),na,nb - 1,o.push x,g,ac,bc))
noncomputable def wN (a b:Array ZA) (na nb:Nat) (o:Array ZA) (g ac bc:Nat):StateT Zz ZN (ForInStep (pV (Nat×Nat×Nat))):=do
 xJ g
 let x <-Y6 b (nb - 1)
 let r <-s_ false x a 0 na (na - 1)
 match r with
 | some k=>
  if na - k > 0 then
   if (k == 0)=true then Y1 (.done (some (kj a b (o++(a.extract k na).reverse) k nb),k,nb,o++(a.extract k na).reverse,g,na - k,bc))
   else xj a b k nb (o++(a.extract k na).reverse) g (na - k) bc
  else xj a b na nb o g (na - k) bc
 | none=>Y1 (.done (some (kj a b o na nb),na,nb,o,g,ac,bc))
noncomputable def wV (a b:Array ZA) (_:Nat) (s:pV (Nat×Nat×Nat)):StateT Zz ZN (ForInStep (pV (Nat×Nat×Nat))):=
 if s.2.2.2.2.1 > 1 then wN a b s.2.1 s.2.2.1 s.2.2.2.1 (s.2.2.2.2.1 - 1) s.2.2.2.2.2.1 s.2.2.2.2.2.2 else wN a b s.2.1 s.2.2.1 s.2.2.2.1 s.2.2.2.2.1 s.2.2.2.2.2.1 s.2.2.2.2.2.2
noncomputable def zY (a b:Array ZA) (g:Nat) (_:Nat) (s:pV (Nat×Nat)):StateT Zz ZN (ForInStep (pV (Nat×Nat))):=do
 let x <-Y6 b (s.2.2.1 - 1)
 let y <-Y6 a (s.2.1 - 1)
 let r <-lt' x y
 match r with
 | some w=>
  if w=true then do
   let x <-Y6 a (s.2.1 - 1)
   if (s.2.1 - 1 == 0)=true then Y1 (.done (some (kj a b (s.2.2.2.1.push x) (s.2.1 - 1) s.2.2.1),s.2.1 - 1,s.2.2.1,s.2.2.2.1.push x,s.2.2.2.2.1 + 1,0))
   else if s.2.2.2.2.1 + 1 ≥ g then Y1 (.done (none,s.2.1 - 1,s.2.2.1,s.2.2.2.1.push x,s.2.2.2.2.1 + 1,0)) else Y1 (.yield (none,s.2.1 - 1,s.2.2.1,s.2.2.2.1.push x,s.2.2.2.2.1 + 1,0))
  else do
   let x <-Y6 b (s.2.2.1 - 1)
   if (s.2.2.1 - 1 == 1)=true then Y1 (.done (some (kj b a (s.2.2.2.1.push x) (s.2.2.1 - 1) s.2.1),s.2.1,s.2.2.1 - 1,s.2.2.2.1.push x,0,s.2.2.2.2.2 + 1))
   else if s.2.2.2.2.2 + 1 ≥ g then Y1 (.done (none,s.2.1,s.2.2.1 - 1,s.2.2.2.1.push x,0,s.2.2.2.2.2 + 1)) else Y1 (.yield (none,s.2.1,s.2.2.1 - 1,s.2.2.2.1.push x,0,s.2.2.2.2.2 + 1))
 | none=>Y1 (.done (some (kj a b s.2.2.2.1 s.2.1 s.2.2.1),s.2.1,s.2.2.1,s.2.2.2.1,s.2.2.2.2.1,s.2.2.2.2.2))
end
def Lh (a b:Array ZA):Hs a b=(do
 rule "list.sort.merge-hi"
 let x <-Y6 a (a.size - 1)
 if (a.size - 1 == 0)=true then Y1 (kj a b #[x] (a.size - 1) b.size)
 else if (b.size == 1)=true then Y1 (kj b a #[x] b.size (a.size - 1))
 else do
  let s <-get
  mF (a.size + b.size) (zY a b) (wV a b) (none,a.size - 1,b.size,#[x],gallopOf s)):=by
 show (_ >>= _:StateT Zz ZN (Array ZA))=_;dsimp only;refine ZS λ _=>ZS λ x=>ite_congr rfl (λ _=>rfl) λ _=>ite_congr rfl (λ _=>rfl) λ _=>ZS λ s=>?_;refine lh (lu λ _ s=>?_) λ s=>by rcases s with ⟨_|r,s⟩<;>rfl
 refine lh (lu λ _ s=>ZS λ _=>ZS λ _=>ZS λ r=>by cases r<;>rfl) λ d=>?_;rcases d with ⟨_|r,d⟩
 ·refine ZS λ _=>lh (lu λ _ s=>?_) λ c=>by rcases c with ⟨_|r,c⟩<;>rfl
  unfold wV;refine ite_congr rfl (λ _=>?_) λ _=>?_
  all_goals
   refine ZS λ _=>ZS λ _=>ZS λ r=>?_;cases r with
   | none=>rfl
   | some k=>
    refine ite_congr rfl (λ _=>ite_congr rfl (λ _=>rfl) λ _=>?_) λ _=>?_
    all_goals
     refine ZS λ _=>ite_congr rfl (λ _=>rfl) λ _=>ZS λ _=>ZS λ r=>?_;cases r<;>rfl
 ·rfl
section
noncomputable abbrev rP {T:Type}:SV->Ms Nat Nat Nat (Array Nat) T->Ms ZA Nat Nat (Array ZA) T:=kQ dG dG gI
def PH (ρ:Nat->Nat) (xa xb:Array Nat) (m na nb:Nat) (o:Array Nat):Prop:=jA ρ xa xb na nb o/\0 < na/\1 < nb/\na<=xa.size/\nb<=xb.size/\m + na + nb<=xa.size + xb.size
def tH {b:Array Nat} :kj (a.map f) (b.map f) (o.map f) i j=(a.extract 0 i++b.extract 0 j++o.reverse).map f:=by unfold kj;simp only [oZ,jE,sM]
section
variable {g ac bc g0:Nat} (sa:Sd (kv ρ xa) 0 xa.size) (sb:Sd (kv ρ xb) 0 xb.size) (hf :∀j,j < xa.size->kv ρ xb 0<=kv ρ xa j) (la :∀i (hi:i < xa.size),xa[i] < n) (lb :∀i (hi:i < xb.size),xb[i] < n)
include sa sb
theorem DM (hI:jA ρ xa xb (na + 1) nb o) (h1:1 < nb) (ma:na + 1<=xa.size) (mb:nb<=xb.size) (hm:m + na + nb<=xa.size + xb.size) (hx :∀i,i < nb->kv ρ xb i<=kv ρ xa na):cG (cR ρ) n (λ e=>wH (xa.map e.2) (xb.map e.2) (na + 1) nb (o.map e.2) g ac bc) (ff rP) (gm ρ xa xb (PH ρ xa xb) t m) ⟨t.a,t.p,g0⟩:=by unfold wH;simp only [t8];refine bR '%' ?_;have b:=mY sa hI ma hx;simp only [sG,tH,beq_iff_eq];exact dv (λ z=>ky dG dG gI (wz sa sb b '%' mb (.inl z))) λ c=>gu dG dG gI ⟨b,by lia,h1,by lia,mb,hm⟩
include hf la lb
theorem Eg (hI:jA ρ xa xb (na + 1) (nb + 1) o) (h1:0 < nb) (ma:na + 1<=xa.size) (mb:nb + 1<=xb.size) (hm:m + na + 1 + nb + 1<=xa.size + xb.size) (hx :∀i,i < na + 1->kv ρ xa i<=kv ρ xb nb):cG (cR ρ) n (λ e=>xj (xa.map e.2) (xb.map e.2) (na + 1) (nb + 1) (o.map e.2) g ac bc) (ff rP) (gm ρ xa xb (PH ρ xa xb) t m) ⟨t.a,t.p,g0⟩:=by
 unfold xj;simp only [t8];refine bR '%' ?_;have q:=mE sb hI mb hx;simp only [sG,tH,oZ,jE,sM,beq_iff_eq];refine dv (λ z=>ky dG dG gI (wO sa sb hf q ma '%' z)) λ w=>bR '%' (bW (cz:=λ _ r=>r) (sQ (la _ _) (λ i d=>⟨_,W1 '%',lb _ _⟩) '%' (λ x y a b c=>sb x y a b '%') λ k v h f=>?_));dsimp only;rw [<-bx (ρ:=ρ) '%'] at h f;have h :∀i,i < k->kv ρ xb i + 1<=kv ρ xa na:=λ i d=>by have:=h i d;rwa [S4] at this
 have f :∀i,k<=i->i < nb->kv ρ xa na < kv ρ xb i + 1:=λ i d u=>by have:=f i d u;rwa [S4] at this
 have l:=lN sb q v '%' λ j i a b c=>by have:=f j a b;have:=sa i na '%' '%' '%';lia
 have s :∀i,i < k->kv ρ xb i<=kv ρ xa na:=λ i d=>by have:=h i d;lia
 refine dv (λ _=>dv (λ z=>ky dG dG gI (wO sa sb hf l ma '%' z)) λ _=>dv (λ z=>ky dG dG gI (wz sa sb l ma '%' (.inr z))) λ _=>?_) λ _=>?_
 ·exact DM sa sb l '%' ma '%' '%' s
 ·exact DM sa sb q '%' ma '%' '%' λ i d=>s i '%'
theorem Ke (hI:jA ρ xa xb (na + 1) (nb + 1) o) (h1:0 < nb) (ma:na + 1<=xa.size) (mb:nb + 1<=xb.size) (hm:m + na + 1 + nb + 1<=xa.size + xb.size):cG (cR ρ) n (λ e=>wN (xa.map e.2) (xb.map e.2) (na + 1) (nb + 1) (o.map e.2) g ac bc) (ff rP) (gm ρ xa xb (PH ρ xa xb) t m) ⟨t.a,t.p,g0⟩:=by
 unfold wN;simp only [t8];refine bW (cz:=λ _ u=>u) (z_ (bR '%' (bW (cz:=λ _ r=>r) (sQ (lb _ _) (λ i d=>⟨_,W1 '%',la _ _⟩) '%' (λ x y a b c=>sa x y a b '%') λ k s f h=>?_))));rw [<-bx (ρ:=ρ) '%'] at f h;have f :∀i,i < k->kv ρ xa i<=kv ρ xb nb:=λ i d=>by have:=f i d;rwa [S4] at this
 have h :∀i,k<=i->i < na + 1->kv ρ xb nb < kv ρ xa i:=λ i d q=>by have:=h i d q;rwa [S4] at this
 simp only [tH,oZ,jE,sM,beq_iff_eq];have l:=lM sa hI s '%' λ j i a b c=>by have:=h j a b;have:=sb i nb '%' '%' '%';lia
 refine dv (λ _=>dv (λ z=>ky dG dG gI (wz sa sb l '%' '%' (.inl z))) λ v=>?_) λ _=>?_
 ·obtain ⟨k,rfl⟩:=u4 v;exact Eg sa sb hf la lb l h1 '%' mb '%' f
 ·exact Eg sa sb hf la lb hI h1 ma mb hm λ i d=>f i '%'
theorem Ri (i m:Nat) (b:Ms Nat Nat Nat (Array Nat) (Nat×Nat×Nat)) (t1:SI) (h:iZ (PH ρ xa xb) t m b t1):cG (cR ρ) n (λ e=>wV (xa.map e.2) (xb.map e.2) i (rP e b)) (ff rP) (gm ρ xa xb (PH ρ xa xb) t m) t1:=by
 obtain ⟨⟨g,rfl⟩,c,a,o,q,rfl,k,f,p,j,d,l⟩:=h;obtain ⟨c,rfl⟩:=u4 (Nat.pos_iff_ne_zero.1 f);obtain ⟨a,rfl⟩:=u4 (by lia:a≠0);unfold wV;dsimp only;refine dv (λ _=>?_) λ _=>?_
 all_goals exact Ke sa sb hf la lb k '%' j d '%'
theorem Ro (g i m:Nat) (b:Ms Nat Nat Nat (Array Nat) (Nat×Nat)) (t1:SI) (h:iZ (PH ρ xa xb) t m b t1):cG (cR ρ) n (λ e=>zY (xa.map e.2) (xb.map e.2) g i (rP e b)) (ff rP) (gm ρ xa xb (PH ρ xa xb) t (m + 1)) t1:=by
 obtain ⟨⟨u,rfl⟩,j,d,o,q,rfl,p,c,s,l,a,v⟩:=h;obtain ⟨j,rfl⟩:=u4 (Nat.pos_iff_ne_zero.1 c);obtain ⟨d,rfl⟩:=u4 (by lia:d≠0);unfold zY;simp only [Nat.succ_eq_add_one,t8];refine bR '%' (bR '%' (bW (cz:=λ _ b=>b) (gW (lb _ _) (la _ _) ?_)));dsimp only;refine dv (λ w=>bR '%' ?_) λ w=>bR '%' ?_
 all_goals simp only [sG,tH,beq_iff_eq]
 ·have w:=ZW w;rw [<-bx (ρ:=ρ) '%',<-bx (ρ:=ρ) '%'] at w;have k:=mY sa p l λ i r=>by have:=sb i d '%' '%' '%';lia
  exact dv (λ z=>ky dG dG gI (wz sa sb k '%' a (.inl z))) λ c=>gu dG dG gI ⟨k,by lia,s,by lia,a,by lia⟩
 ·have w:=ZV (Bool.eq_false_iff.mpr w);rw [<-bx (ρ:=ρ) '%',<-bx (ρ:=ρ) '%'] at w;have f:=mE sb p a λ i r=>by have:=sa i j '%' '%' '%';lia
  exact dv (λ z=>ky dG dG gI (wO sa sb hf f l '%' z)) λ c=>gu dG dG gI ⟨f,by lia,by lia,by lia,by lia,by lia⟩
end
theorem QY {R:Array Nat->SI->Prop} (sa:Sd (kv ρ xa) 0 xa.size) (sb:Sd (kv ρ xb) 0 xb.size) (hf :∀j,j < xa.size->kv ρ xb 0<=kv ρ xa j) (hl :∀j,j < xb.size->kv ρ xb j<=kv ρ xa (xa.size - 1)) (ha:0 < xa.size) (hb:0 < xb.size) (na :∀k∈xa,k < n) (nb :∀k∈xb,k < n) (h :∀r g,hM ρ xa xb r->R r ⟨t.a,t.p,g⟩):cG (cR ρ) n (λ e=>Hs (xa.map e.2) (xb.map e.2)) (λ e r=>r.map e.2) R t:=by
 have f :∀i (b:i < xa.size),xa[i] < n:=λ i b=>na _ (A8 b);have d :∀i (b:i < xb.size),xb[i] < n:=λ i b=>nb _ (A8 b);simp only [Lh,j4];refine bW (cz:=λ _ u=>u) (tQ (bR '%' ?_));simp only [Fq,tH,beq_iff_eq];have c:=Kv sa hl ha;refine dv (λ z=>dR _ (λ _=>rfl) (h _ t.g (wz sa sb c '%' (o0 _) (.inl z)))) λ o=>dv (λ z=>dR _ (λ _=>rfl) (h _ t.g (wO sa sb hf c '%' (o0 _) z))) λ s=>bW (nO ?_);have l:0 < xa.size - 1/\1 < xb.size/\xa.size - 1<=xa.size/\xb.size<=xb.size/\1 + (xa.size - 1) + xb.size<=xa.size + xb.size:=by lia
 exact l_ (P:=PH ρ xa xb) (fa:=dG) (fb:=dG) (fc:=gI) '%' (λ m k x y z q ⟨p1,p2,p3,p4,p5,p6⟩=>⟨p1,p2,p3,p4,p5,by lia⟩) (Ro sa sb hf f d) (Ri sa sb hf f d) ⟨c,l⟩ (λ x y z p=>by have:=p.2.2.2.2.2;have:=p.2.1;lia) h
end
noncomputable abbrev qG (T:Type):=Ms ZA (Array ZA) Nat Nat T
noncomputable abbrev kd (a b o:Array ZA) (ia ib:Nat):=o++a.extract ia a.size++b.extract ib b.size
noncomputable def xA (a b:Array ZA) (o:Array ZA) (ia ib:Nat) (g ac bc:Nat):StateT Zz ZN (ForInStep (qG (Nat×Nat×Nat))):=do
 let x <-Y6 a ia
 if (ia + 1 + 1 == a.size)=true then Y1 (.done (some (kd b a (o.push x) ib (ia + 1)),o.push x,ia + 1,ib,g,ac,bc))
 else if (decide (ac < 7) && decide (bc < 7))=true then Y1 (.done (none,o.push x,ia + 1,ib,g,ac,bc)) else Y1 (.yield (none,o.push x,ia + 1,ib,g,ac,bc))
noncomputable def xY (a b:Array ZA) (o:Array ZA) (ia ib:Nat) (g ac bc:Nat):StateT Zz ZN (ForInStep (qG (Nat×Nat×Nat))):=do
 let x <-Y6 b ib
 if (ib + 1 == b.size)=true then Y1 (.done (some (kd a b (o.push x) ia (ib + 1)),o.push x,ia,ib + 1,g,ac,bc))
 else do
  let y <-Y6 a ia
  let r <-s_ true y b (ib + 1) (b.size - (ib + 1)) 0
  match r with
  | some k=>
   if k > 0 then
    if (ib + 1 + k == b.size)=true then Y1 (.done (some (kd a b (o.push x++b.extract (ib + 1) (ib + 1 + k)) ia (ib + 1 + k)),o.push x++b.extract (ib + 1) (ib + 1 + k),ia,ib + 1 + k,g,ac,k))
    else xA a b (o.push x++b.extract (ib + 1) (ib + 1 + k)) ia (ib + 1 + k) g ac k
   else xA a b (o.push x) ia (ib + 1) g ac k
  | none=>Y1 (.done (some (kd a b (o.push x) ia (ib + 1)),o.push x,ia,ib + 1,g,ac,bc))
noncomputable def xq (a b:Array ZA) (o:Array ZA) (ia ib:Nat) (g ac bc:Nat):StateT Zz ZN (ForInStep (qG (Nat×Nat×Nat))):=do
 xJ g
 let x <-Y6 b ib
 let r <-s_ false x a ia (a.size - ia) 0
 match r with
 | some k=>
  if k > 0 then
   if (ia + k + 1 == a.size)=true then Y1 (.done (some (kd b a (o++a.extract ia (ia + k)) ib (ia + k)),o++a.extract ia (ia + k),ia + k,ib,g,k,bc))
   else if (ia + k == a.size)=true then Y1 (.done (some (kd a b (o++a.extract ia (ia + k)) (ia + k) ib),o++a.extract ia (ia + k),ia + k,ib,g,k,bc))
   else xY a b (o++a.extract ia (ia + k)) (ia + k) ib g k bc
  else xY a b o ia ib g k bc
 | none=>Y1 (.done (some (kd a b o ia ib),o,ia,ib,g,ac,bc))
noncomputable def xH (a b:Array ZA) (_:Nat) (s:qG (Nat×Nat×Nat)):StateT Zz ZN (ForInStep (qG (Nat×Nat×Nat))):=
 if s.2.2.2.2.1 > 1 then xq a b s.2.1 s.2.2.1 s.2.2.2.1 (s.2.2.2.2.1 - 1) s.2.2.2.2.2.1 s.2.2.2.2.2.2 else xq a b s.2.1 s.2.2.1 s.2.2.2.1 s.2.2.2.2.1 s.2.2.2.2.2.1 s.2.2.2.2.2.2
noncomputable def lo1 (a b:Array ZA) (g:Nat) (_:Nat) (s:qG (Nat×Nat)):StateT Zz ZN (ForInStep (qG (Nat×Nat))):=do
 let x <-Y6 b s.2.2.2.1
 let y <-Y6 a s.2.2.1
 let r <-lt' x y
 match r with
 | some w=>
  if w=true then do
   let x <-Y6 b s.2.2.2.1
   if (s.2.2.2.1 + 1 == b.size)=true then Y1 (.done (some (kd a b (s.2.1.push x) s.2.2.1 (s.2.2.2.1 + 1)),s.2.1.push x,s.2.2.1,s.2.2.2.1 + 1,0,s.2.2.2.2.2 + 1))
   else if s.2.2.2.2.2 + 1 ≥ g then Y1 (.done (none,s.2.1.push x,s.2.2.1,s.2.2.2.1 + 1,0,s.2.2.2.2.2 + 1)) else Y1 (.yield (none,s.2.1.push x,s.2.2.1,s.2.2.2.1 + 1,0,s.2.2.2.2.2 + 1))
  else do
   let x <-Y6 a s.2.2.1
   if (s.2.2.1 + 1 + 1 == a.size)=true then Y1 (.done (some (kd b a (s.2.1.push x) s.2.2.2.1 (s.2.2.1 + 1)),s.2.1.push x,s.2.2.1 + 1,s.2.2.2.1,s.2.2.2.2.1 + 1,0))
   else if s.2.2.2.2.1 + 1 ≥ g then Y1 (.done (none,s.2.1.push x,s.2.2.1 + 1,s.2.2.2.1,s.2.2.2.2.1 + 1,0)) else Y1 (.yield (none,s.2.1.push x,s.2.2.1 + 1,s.2.2.2.1,s.2.2.2.2.1 + 1,0))
 | none=>Y1 (.done (some (kd a b s.2.1 s.2.2.1 s.2.2.2.1),s.2.1,s.2.2.1,s.2.2.2.1,s.2.2.2.2.1,s.2.2.2.2.2))
def Pn (a b:Array ZA):DT a b=(do
 rule "list.sort.merge-lo"
 let x <-Y6 b 0
 if (1 == b.size)=true then Y1 (kd a b #[x] 0 1)
 else if (0 + 1 == a.size)=true then Y1 (kd b a #[x] 1 0)
 else do
  let s <-get
  mF (a.size + b.size) (lo1 a b) (xH a b) (none,#[x],0,1,gallopOf s)):=by
 show (_ >>= _:StateT Zz ZN (Array ZA))=_;dsimp only;refine ZS λ _=>ZS λ x=>ite_congr rfl (λ _=>rfl) λ _=>ite_congr rfl (λ _=>rfl) λ _=>ZS λ s=>?_;refine lh (lu λ _ s=>?_) λ s=>by rcases s with ⟨_|r,s⟩<;>rfl
 refine lh (lu λ _ s=>ZS λ _=>ZS λ _=>ZS λ r=>by cases r<;>rfl) λ d=>?_;rcases d with ⟨_|r,d⟩
 ·refine ZS λ _=>lh (lu λ _ s=>?_) λ c=>by rcases c with ⟨_|r,c⟩<;>rfl
  unfold xH;refine ite_congr rfl (λ _=>?_) λ _=>?_
  all_goals
   refine ZS λ _=>ZS λ _=>ZS λ r=>?_;cases r with
   | none=>rfl
   | some k=>
    refine ite_congr rfl (λ _=>ite_congr rfl (λ _=>rfl) λ _=>ite_congr rfl (λ _=>rfl) λ _=>?_) λ _=>?_
    all_goals
     refine ZS λ _=>ite_congr rfl (λ _=>rfl) λ _=>ZS λ _=>ZS λ r=>?_;cases r<;>rfl
 ·rfl
section
noncomputable abbrev rG {T:Type}:SV->Ms Nat (Array Nat) Nat Nat T->Ms ZA (Array ZA) Nat Nat T:=kQ gI dG dG
def PM (ρ:Nat->Nat) (xa xb:Array Nat) (m:Nat) (o:Array Nat) (ia ib:Nat):Prop:=kK ρ xa xb ia ib o/\ia + 1 < xa.size/\ib < xb.size/\m<=ia + ib
def u_ {b:Array Nat} :kd (a.map f) (b.map f) (o.map f) i j=(o++a.extract i a.size++b.extract j b.size).map f:=by unfold kd;simp only [j4,oZ,sM]
section
variable {g ac bc g0:Nat} (sa:Sd (kv ρ xa) 0 xa.size) (sb:Sd (kv ρ xb) 0 xb.size) (hl :∀j,j < xb.size->kv ρ xb j<=kv ρ xa (xa.size - 1)) (la :∀i (hi:i < xa.size),xa[i] < n) (lb :∀i (hi:i < xb.size),xb[i] < n) (hI:kK ρ xa xb ia ib o) (h0:ia + 1 < xa.size) (h1:ib < xb.size) (hm:m<=ia + ib + 1)
include sa sb hl hI h0 h1 hm
theorem DN (hx:kv ρ xa ia<=kv ρ xb ib):cG (cR ρ) n (λ e=>xA (xa.map e.2) (xb.map e.2) (o.map e.2) ia ib g ac bc) (ff rG) (gm ρ xa xb (PM ρ xa xb) t m) ⟨t.a,t.p,g0⟩:=by unfold xA;refine bR '%' ?_;have b:=lL sa sb hI '%' λ _=>hx;simp only [sG,u_,beq_iff_eq,j4];exact dv (λ z=>ky gI dG dG (wY sa sb hl b z)) λ c=>gu gI dG dG ⟨b,by lia,h1,by lia⟩
include la lb
theorem Ee (hx:kv ρ xb ib<=kv ρ xa ia):cG (cR ρ) n (λ e=>xY (xa.map e.2) (xb.map e.2) (o.map e.2) ia ib g ac bc) (ff rG) (gm ρ xa xb (PM ρ xa xb) t m) ⟨t.a,t.p,g0⟩:=by
 unfold xY;refine bR '%' ?_;have h:=mT sa sb hI h1 λ _=>hx;simp only [sG,u_,oZ,sM,beq_iff_eq,j4];refine dv (λ z=>ky gI dG dG (tJ sa sb h (.inr z))) λ _=>bR '%' (bW (cz:=λ _ r=>r) (sQ (la _ _) (λ i q=>⟨_,W1 '%',lb _ _⟩) '%' (λ x y a b c=>sb x y '%' b '%') λ k s f d=>?_));dsimp only;rw [<-bx (ρ:=ρ) '%'] at f d;have f :∀i,i < k->kv ρ xb (ib + 1 + i) + 1<=kv ρ xa ia:=f;have d :∀i,k<=i->i < xb.size - (ib + 1)->kv ρ xa ia < kv ρ xb (ib + 1 + i) + 1:=d;have l:=mH (k:=k) sa sb h '%' λ j a b _=>by have:=f (j - (ib + 1)) '%';rw [show ib + 1 + (j - (ib + 1))=j by lia] at this;lia
 refine dv (λ _=>dv (λ z=>ky gI dG dG (tJ sa sb l (.inr z))) λ _=>?_) λ _=>?_
 ·exact DN sa sb hl l '%' '%' '%' (by have:=d k (o0 _) '%';lia)
 ·exact DN sa sb hl h '%' '%' '%' (by have:kv ρ xa ia < kv ρ xb (ib + 1) + 1:=d 0 '%' '%';lia)
theorem Kg:cG (cR ρ) n (λ e=>xq (xa.map e.2) (xb.map e.2) (o.map e.2) ia ib g ac bc) (ff rG) (gm ρ xa xb (PM ρ xa xb) t m) ⟨t.a,t.p,g0⟩:=by
 unfold xq;refine bW (cz:=λ _ u=>u) (z_ (bR '%' ?_));simp only [j4];refine bW (cz:=λ _ r=>r) (sQ (lb _ _) (λ i l=>⟨_,W1 '%',la _ _⟩) '%' (λ x y a b c=>sa x y '%' b '%') λ k q f d=>?_);simp only [u_,oZ,sM,beq_iff_eq];rw [<-bx (ρ:=ρ) '%'] at f d;have f :∀i,i < k->kv ρ xa (ia + i)<=kv ρ xb ib:=f;have d :∀i,k<=i->i < xa.size - ia->kv ρ xb ib < kv ρ xa (ia + i):=d;have h:=lO (k:=k) sa sb hI '%' λ j a b _=>by have:=f (j - ia) '%';rwa [show ia + (j - ia)=j by lia] at this
 refine dv (λ _=>dv (λ z=>ky gI dG dG (wY sa sb hl h z)) λ _=>dv (λ z=>ky gI dG dG (tJ sa sb h (.inl z))) λ _=>?_) λ _=>?_
 ·exact Ee sa sb hl la lb h '%' h1 '%' (X2 (d k (o0 _) '%'))
 ·exact Ee sa sb hl la lb hI h0 h1 hm (by have:=d 0 '%' '%';rw [Nat.add_zero] at this;lia)
end
section
variable (sa:Sd (kv ρ xa) 0 xa.size) (sb:Sd (kv ρ xb) 0 xb.size) (hl :∀j,j < xb.size->kv ρ xb j<=kv ρ xa (xa.size - 1)) (la :∀i (hi:i < xa.size),xa[i] < n) (lb :∀i (hi:i < xb.size),xb[i] < n)
include sa sb hl la lb
theorem Pc (i m:Nat) (b:Ms Nat (Array Nat) Nat Nat (Nat×Nat×Nat)) (t1:SI) (h:iZ (PM ρ xa xb) t m b t1):cG (cR ρ) n (λ e=>xH (xa.map e.2) (xb.map e.2) i (rG e b)) (ff rG) (gm ρ xa xb (PM ρ xa xb) t m) t1:=by
 obtain ⟨⟨g,rfl⟩,o,k,f,q,rfl,d,c,a,j⟩:=h;unfold xH;dsimp only;refine dv (λ _=>?_) λ _=>?_
 all_goals exact Kg sa sb hl la lb d c a '%'
theorem KM (g i m:Nat) (b:Ms Nat (Array Nat) Nat Nat (Nat×Nat)) (t1:SI) (h:iZ (PM ρ xa xb) t m b t1):cG (cR ρ) n (λ e=>lo1 (xa.map e.2) (xb.map e.2) g i (rG e b)) (ff rG) (gm ρ xa xb (PM ρ xa xb) t (m + 1)) t1:=by
 obtain ⟨⟨l,rfl⟩,o,s,p,q,rfl,f,j,c,r⟩:=h;unfold lo1;dsimp only [dG];refine bR '%' (bR '%' (bW (cz:=λ _ b=>b) (gW (lb _ _) (la _ _) ?_)));dsimp only;refine dv (λ w=>bR '%' ?_) λ w=>bR '%' ?_
 all_goals simp only [sG,u_,beq_iff_eq,j4]
 ·have w:=ZW w;rw [<-bx (ρ:=ρ) '%',<-bx (ρ:=ρ) '%'] at w;have a:=mT sa sb f c λ _=>X2 w;exact dv (λ z=>ky gI dG dG (tJ sa sb a (.inr z))) λ k=>gu gI dG dG ⟨a,j,by lia,by lia⟩
 ·have w:=ZV (Bool.eq_false_iff.mpr w);rw [<-bx (ρ:=ρ) '%',<-bx (ρ:=ρ) '%'] at w;have d:=lL sa sb f '%' λ _=>Nat.not_lt.mp w;exact dv (λ z=>ky gI dG dG (wY sa sb hl d z)) λ k=>gu gI dG dG ⟨d,by lia,c,by lia⟩
end
theorem Qc {R:Array Nat->SI->Prop} (sa:Sd (kv ρ xa) 0 xa.size) (sb:Sd (kv ρ xb) 0 xb.size) (hf :∀j,j < xa.size->kv ρ xb 0<=kv ρ xa j) (hl :∀j,j < xb.size->kv ρ xb j<=kv ρ xa (xa.size - 1)) (ha:0 < xa.size) (hb:0 < xb.size) (na :∀k∈xa,k < n) (nb :∀k∈xb,k < n) (h :∀r g,hM ρ xa xb r->R r ⟨t.a,t.p,g⟩):cG (cR ρ) n (λ e=>DT (xa.map e.2) (xb.map e.2)) (λ e r=>r.map e.2) R t:=by
 have f :∀i (b:i < xa.size),xa[i] < n:=λ i b=>na _ (A8 b);have d :∀i (b:i < xb.size),xb[i] < n:=λ i b=>nb _ (A8 b);simp only [Pn,j4];refine bW (cz:=λ _ u=>u) (tQ (bR hb ?_));simp only [Fq,u_,beq_iff_eq];have c:=Kh sb hf hb;refine dv (λ z=>dR _ (λ _=>rfl) (h _ t.g (tJ sa sb c (.inr z)))) λ o=>dv (λ z=>dR _ (λ _=>rfl) (h _ t.g (wY sa sb hl c z))) λ s=>bW (nO ?_);have l:0 + 1 < xa.size/\1 < xb.size/\1<=0 + 1:=by lia
 exact l_ (P:=PM ρ xa xb) (fa:=gI) (fb:=dG) (fc:=dG) '%' (λ m k x y z q ⟨p1,p2,p3,p4⟩=>⟨p1,p2,p3,by lia⟩) (KM sa sb hl f d) (Pc sa sb hl f d) ⟨c,l⟩ (λ x y z p=>by have:=p.2;lia) h
end
noncomputable def nW (lo a nrem:Nat):StateT Zz ZN AscSt:=
 N5 [a:nrem] ((none,a):AscSt) λ _ s=>do
  let x <-ltAt' (lo + s.2) (lo + s.2 - 1)
  match x with
  | some w=>if w=true then Y1 (.done (none,s.2)) else Y1 (.yield (none,s.2 + 1))
  | none=>Y1 (.done (some none,s.2))
noncomputable def jX (lo n nrem:Nat):StateT Zz ZN (Option Nat):=do
 F9 lo (lo + n)
 let s <-nW lo n nrem
 match s.1 with
 | some r=>Y1 r
 | none=>Y1 (some s.2)
noncomputable def mP (lo n nrem:Nat):StateT Zz ZN DescSt:=
 N5 [n:nrem] ((none,n,0):DescSt) λ _ s=>do
  let x <-ltAt' (lo + s.2.1) (lo + s.2.1 - 1)
  match x with
  | some w=>
   if w=true then
    if s.2.2 > 0 then do
     F9 (lo + s.2.1 - (s.2.2 + 1)) (lo + s.2.1)
     Y1 (.yield (none,s.2.1 + 1,0))
    else Y1 (.yield (none,s.2.1 + 1,0))
   else do
    let x <-ltAt' (lo + s.2.1 - 1) (lo + s.2.1)
    match x with
    | some w=>if w=true then Y1 (.done (none,s.2.1,s.2.2)) else Y1 (.yield (none,s.2.1 + 1,s.2.2 + 1))
    | none=>Y1 (.done (some none,s.2.1,s.2.2))
  | none=>Y1 (.done (some none,s.2.1,s.2.2))
noncomputable def ig (lo n nrem:Nat):StateT Zz ZN (Option Nat):=do
 rule "list.sort.descending-run"
 let s <-mP lo (n + 1) nrem
 match s.1 with
 | some r=>Y1 r
 | none=>
  if s.2.2 > 0 then do
   F9 (lo + s.2.1 - (s.2.2 + 1)) (lo + s.2.1)
   jX lo s.2.1 nrem
  else jX lo s.2.1 nrem
def Lr (lo nrem:Nat):countRun' lo nrem=(do
  let s <-nW lo 1 nrem
  match s.1 with
  | some r=>Y1 r
  | none=>
   if (s.2 == nrem)=true then Y1 (some s.2)
   else if s.2 > 1 then do
    let x <-ltAt' lo (lo + s.2 - 1)
    match x with
    | some w=>if w=true then Y1 (some s.2) else do
      F9 lo (lo + s.2)
      ig lo s.2 nrem
    | none=>Y1 none
   else ig lo s.2 nrem):=by
 rw [countRun'_eq];dsimp only;refine lh (lu λ k s=>ZS λ x=>by cases x<;>rfl) λ s=>?_;obtain ⟨r,n⟩:=s;cases r with
 | some r=>rfl
 | none=>
  dsimp only;refine ite_congr rfl (λ _=>rfl) λ _=>?_;refine ite_congr rfl (λ _=>ZS λ x=>?_) λ _=>?_
  ·cases x with
   | none=>rfl
   | some w=>
    refine ite_congr rfl (λ _=>rfl) λ _=>ZS λ _=>?_;unfold ig;refine ZS λ _=>lh (lu λ k s=>ZS λ x=>?_) λ s=>?_
    ·cases x with
     | none=>rfl
     | some w=>exact ite_congr rfl (λ _=>rfl) λ _=>ZS λ x=>by cases x<;>rfl
    ·rcases s with ⟨_|r,s⟩
     ·refine ite_congr rfl (λ _=>ZS λ _=>ZS λ _=>?_) λ _=>ZS λ _=>?_
      all_goals exact lh (lu λ k s=>ZS λ x=>by cases x<;>rfl) λ s=>by rcases s with ⟨_|r,s⟩<;>rfl
     ·rfl
  ·unfold ig;refine ZS λ _=>lh (lu λ k s=>ZS λ x=>?_) λ s=>?_
   ·cases x with
    | none=>rfl
    | some w=>exact ite_congr rfl (λ _=>rfl) λ _=>ZS λ x=>by cases x<;>rfl
   ·rcases s with ⟨_|r,s⟩
    ·refine ite_congr rfl (λ _=>ZS λ _=>ZS λ _=>?_) λ _=>ZS λ _=>?_
     all_goals exact lh (lu λ k s=>ZS λ x=>by cases x<;>rfl) λ s=>by rcases s with ⟨_|r,s⟩<;>rfl
    ·rfl
variable {nrem:Nat}
section
def Kp (n:Nat) (t t':SI):Prop:=fE n t'.a/\t'.p=t.p/\t'.g=t.g
def gs (h:fE n a) (hi:i < n) :∃k,a[i]? = some k/\k < n:=by
 have b:i < a.size:=by rw [h.size];exact hi
 exact ⟨_,W1 b,List.mem_range.mp (h.mem_iff.mp (j41 b))⟩
def vF {R:Option Bool->SI->Prop} (hp:fE n t.a) (hi:i < n) (hj:j < n) (h :∀b,(b=true↔kv ρ t.a i < kv ρ t.a j)->R (some b) t):cG (cR ρ) n (λ _=>ltAt' i j) (λ _ b=>b) R t:=by simp only [ltAt'_eq];obtain ⟨k,c,f⟩:=gs hp hi;obtain ⟨m,d,g⟩:=gs hp hj;rw [ie c,ie d] at h;exact bW (nO (bW (cz:=λ e k=>e.2 k) (sy (λ _=>rfl) c (bW (cz:=λ e k=>e.2 k) (sy (λ _=>rfl) d (gW f g (h _ decide_eq_true_iff)))))))
def xg {R:Unit->SI->Prop} (hp:fE n t.a) (hj:j<=n) (h :∀t',Kp n t t'->(∀x,kv ρ t'.a x=if i<=x/\x < j then kv ρ t.a (i + j - 1 - x) else kv ρ t.a x)->R () t'):cG (cR ρ) n (λ _=>F9 i j) (λ _ u=>u) R t:=by
 simp only [reverseSlice'_eq];refine sA ⟨mirror t.a i j ((j - i) / 2),t.p,t.g⟩ (λ e=>?_) (h _ ⟨pE hp,rfl,rfl⟩ λ x=>?_)
 ·show C5 _ (mirror (t.a.map e.2) i j ((j - i) / 2)) _ _ _=_;rw [show mirror (t.a.map e.2) i j ((j - i) / 2)=(mirror t.a i j ((j - i) / 2)).map e.2 from j48 e.2 (λ k=>i + k) (λ k=>j - 1 - k) _ t.a]
 ·unfold kv;rw [getElem?_mirror_all (by rw [hp.size];exact hj)];split<;>rfl
theorem JE {R:Unit->SI->Prop} (hp:fE n t.a) (hi:i < n) (hj:j<=i) (h :∀t',Kp n t t'->(∀x,kv ρ t'.a x=if x=j then kv ρ t.a i else if j < x/\x<=i then kv ρ t.a (x - 1) else kv ρ t.a x)->R () t'):cG (cR ρ) n (λ _=>moveDown' i j) (λ _ u=>u) R t:=by
 simp only [moveDown'_eq];refine sA ⟨bubble t.a i (i - j),t.p,t.g⟩ (λ e=>?_) (h _ ⟨NH hp,rfl,rfl⟩ λ x=>?_)
 ·show C5 _ (bubble (t.a.map e.2) i (i - j)) _ _ _=_;rw [show bubble (t.a.map e.2) i (i - j)=(bubble t.a i (i - j)).map e.2 from j48 e.2 (λ k=>i - k) (λ k=>i - k - 1) _ t.a]
 ·unfold kv;rw [getElem?_bubble (by rw [hp.size];exact hi) _ (Nat.sub_le _ _),show i - (i - j)=j by lia];split
  ·rfl
  ·split<;>rfl
def Kp.trans {t1 t2:SI} (h1:Kp n t t1) (h2:Kp n t1 t2):Kp n t t2:=⟨h2.1,h2.2.1.trans h1.2.1,h2.2.2.trans h1.2.2⟩
def Kp.refl (h:fE n t.a):Kp n t t:=⟨h,rfl,rfl⟩
def Dd (f:Nat->Nat) (i j:Nat):Prop:=∀x y,i<=x->x<=y->y < j->f y<=f x
def Bl (ρ:Nat->Nat) (lo:Nat) (t t':SI):Prop:=∀x,x < lo->kv ρ t'.a x=kv ρ t.a x
def Bl.trans {t1 t2:SI} (h1:Bl ρ lo t t1) (h2:Bl ρ lo t1 t2):Bl ρ lo t t2:=λ x a=>(h2 x a).trans (h1 x a)
theorem CL {a:Nat} {R:AscSt->SI->Prop} (hp:fE n t.a) (ha:1<=a) (hn:lo + nrem<=n) (hr:a<=nrem) (hs:Sd (kv ρ t.a) lo (lo + a)) (h :∀m,a<=m->m<=nrem->Sd (kv ρ t.a) lo (lo + m)->(m < nrem->kv ρ t.a (lo + m) < kv ρ t.a (lo + m - 1))->R (none,m) t):cG (cR ρ) n (λ _=>nW lo a nrem) (λ _ r=>r) R t:=by
 unfold nW;refine kM (λ i b c=>c=t/\b=(none,i)/\Sd (kv ρ t.a) lo (lo + i)) (λ _=>rfl) ⟨rfl,rfl,hs⟩ ?_ ?_
 ·rintro i b c g k ⟨rfl,rfl,h3⟩;dsimp only;refine bW (cz:=λ _ b=>b) (vF hp '%' '%' λ b e=>?_);dsimp only;refine dv (λ z=>dR (.done (none,_)) (λ _=>rfl) (h i g '%' h3 λ _=>e.mp z)) λ z=>dR (.yield (none,_)) (λ _=>rfl) ⟨rfl,rfl,λ x y d f j=>?_⟩;have z:=Nat.not_lt.mp λ q=>z (e.mpr q);rcases Q2 y (lo + i) with w|w
  ·exact h3 x y d f w
  ·rcases Q2 x (lo + i) with v|v
   ·have:=h3 x (lo + i - 1) d '%' '%';rw [show y=lo + i by lia]
    lia
   ·rw [show x=y by lia];exact o0 _
 ·rintro b c ⟨rfl,rfl,h3⟩;rw [R3 hr] at h3⊢;exact h _ hr (o0 _) h3 λ q=>ZU q (Y3 _)
theorem DV {a:Nat} (hp:fE n t.a) (ha:1<=a) (hn:lo + nrem<=n) (hr:a<=nrem) (hs:Dd (kv ρ t.a) lo (lo + a)) (h :∀m t',1<=m->m<=nrem->Kp n t t'->Bl ρ lo t t'->Sd (kv ρ t'.a) lo (lo + m)->R (some m) t'):cG (cR ρ) n (λ _=>jX lo a nrem) (λ _ r=>r) R t:=by
 unfold jX;refine bW (cz:=λ _ u=>u) (xg (ρ:=ρ) hp '%' λ e c b=>?_);refine bW (cz:=λ _ r=>r) (CL c.1 ha hn hr (λ x y g i k=>?_) λ m j f d _=>?_)
 ·rw [b,b,ZZ '%',ZZ '%'];exact hs _ _ '%' '%' '%'
 ·exact dR (some m) (λ _=>rfl) (h m e '%' f c (λ x l=>by rw [b,Z_ '%']) d)
theorem jS {f f':Nat->Nat} (e :∀x,f' x=if i<=x/\x < j then f (i + j - 1 - x) else f x) (q :∀x,i<=x->x < j->f x=f (j - 1)) (x:Nat):f' x=f x:=by
 rw [e];split
 ·rw [q x '%' '%',q _ '%' '%']
 ·rfl
theorem Qx {a:Nat} {R:DescSt->SI->Prop} (hp:fE n t.a) (ha:1<=a) (hn:lo + nrem<=n) (hr:a<=nrem) (hs:Dd (kv ρ t.a) lo (lo + a))
  (h :∀m q t',a<=m->m<=nrem->Kp n t t'->Bl ρ lo t t'->Dd (kv ρ t'.a) lo (lo + m)->(q + 1<=m/\∀x,lo + m - (q + 1)<=x->x < lo + m->kv ρ t'.a x=kv ρ t'.a (lo + m - 1))->R (none,m,q) t'):cG (cR ρ) n (λ _=>mP lo a nrem) (λ _ r=>r) R t:=by
 unfold mP;refine kM (λ i b t'=>Kp n t t'/\Bl ρ lo t t'/\Dd (kv ρ t'.a) lo (lo + i)/\∃q,b=(none,i,q)/\q + 1<=i/\∀x,lo + i - (q + 1)<=x->x < lo + i->kv ρ t'.a x=kv ρ t'.a (lo + i - 1)) (λ _=>rfl) ⟨Kp.refl hp,λ _ _=>rfl,hs,0,rfl,ha,λ x c d=>by rw [show x=lo + a - 1 by lia]⟩ ?_ ?_
 ·rintro i b t' k o ⟨k1,b1,d1,q,rfl,l1,e1⟩;dsimp only;have ext:kv ρ t'.a (lo + i)<=kv ρ t'.a (lo + i - 1)->Dd (kv ρ t'.a) lo (lo + (i + 1)):=λ z x y c d g=>by
   rcases Q2 y (lo + i) with w|w
   ·exact d1 x y c d w
   ·rcases Q2 x (lo + i) with v|v
    ·have:=d1 x (lo + i - 1) c '%' '%';rw [show y=lo + i by lia]
     lia
    ·rw [show x=y by lia];exact o0 _
  refine bW (cz:=λ _ b=>b) (vF k1.1 '%' '%' λ b f=>?_);dsimp only;refine dv (λ z=>dv (λ _=>?_) λ _=>?_) λ z=>?_
  ·have z:=ext (X2 (f.mp z));refine bW (cz:=λ _ u=>u) (xg (ρ:=ρ) k1.1 '%' λ l j e=>dR (.yield (none,_,_)) (λ _=>rfl) ?_);have e:=jS e e1;refine ⟨k1.trans j,b1.trans λ x _=>e x,λ x y c d g=>?_,0,rfl,by lia,λ x c d=>by rw [show x=lo + (i + 1) - 1 by lia]⟩;rw [e,e];exact z x y c d g
  ·exact dR (.yield (none,_,_)) (λ _=>rfl) ⟨k1,b1,ext (X2 (f.mp z)),0,rfl,by lia,λ x c d=>by rw [show x=lo + (i + 1) - 1 by lia]⟩
  ·have z:=Nat.not_lt.mp λ q=>z (f.mpr q);refine bW (cz:=λ _ b=>b) (vF k1.1 '%' '%' λ b f=>?_);dsimp only;refine dv (λ _=>dR (.done (none,_,_)) (λ _=>rfl) (h i q _ k '%' k1 b1 d1 ⟨l1,e1⟩)) λ w=>?_;have w:=Nat.not_lt.mp λ q=>w (f.mpr q);refine dR (.yield (none,_,_)) (λ _=>rfl) ⟨k1,b1,ext w,q + 1,rfl,by lia,λ x c d=>?_⟩;rw [show lo + (i + 1) - 1=lo + i by lia];rcases Q2 x (lo + i) with v|v
   ·rw [e1 x '%' v]
    lia
   ·rw [show x=lo + i by lia]
 ·rintro b t' ⟨k1,b1,d1,q,rfl,l1,e1⟩;rw [R3 hr] at *;exact h _ _ _ hr (o0 _) k1 b1 d1 ⟨l1,e1⟩
theorem Fh {a:Nat} (hp:fE n t.a) (hn:lo + nrem<=n) (hr:a + 1<=nrem) (hs:Dd (kv ρ t.a) lo (lo + (a + 1))) (h :∀m t',1<=m->m<=nrem->Kp n t t'->Bl ρ lo t t'->Sd (kv ρ t'.a) lo (lo + m)->R (some m) t'):cG (cR ρ) n (λ _=>ig lo a nrem) (λ _ r=>r) R t:=by
 unfold ig;refine bW (cz:=λ _ u=>u) (tQ ?_);refine bW (cz:=λ _ r=>r) (Qx hp '%' hn hr hs λ m q z w i c j l p=>?_);dsimp only;refine dv (λ _=>?_) λ _=>?_
 ·refine bW (cz:=λ _ u=>u) (xg (ρ:=ρ) c.1 '%' λ A k b=>?_);have b:=jS b p.2;exact DV k.1 '%' hn i (λ x y o s v=>by rw [b,b];exact l x y o s v) λ m t' d f g e=>h m t' d f ((c.trans k).trans g) ((j.trans λ x _=>b x).trans e)
 ·exact DV c.1 '%' hn i l λ m t' d f g e=>h m t' d f (c.trans g) (j.trans e)
theorem Nr (hp:fE n t.a) (hn:lo + nrem<=n) (hr:1<=nrem) (h :∀m t',1<=m->m<=nrem->Kp n t t'->Bl ρ lo t t'->Sd (kv ρ t'.a) lo (lo + m)->R (some m) t'):cG (cR ρ) n (λ _=>countRun' lo nrem) (λ _ r=>r) R t:=by
 simp only [Lr];refine bW (cz:=λ _ r=>r) (CL hp (o0 _) hn hr (λ x y c i p=>by rw [show x=y by lia];exact o0 _) λ m k l d f=>?_);dsimp only;simp only [beq_iff_eq];refine dv (λ _=>dR (some m) (λ _=>rfl) (h m t k l (Kp.refl hp) (λ _ _=>rfl) d)) λ z=>dv (λ _=>?_) λ _=>?_
 ·refine bW (cz:=λ _ b=>b) (vF hp '%' '%' λ b s=>?_);dsimp only;refine dv (λ _=>dR (some m) (λ _=>rfl) (h m t k l (Kp.refl hp) (λ _ _=>rfl) d)) λ w=>?_;have w:=Nat.not_lt.mp λ q=>w (s.mpr q);have f:=f '%';refine bW (cz:=λ _ u=>u) (xg (ρ:=ρ) hp '%' λ C o e=>?_);have e:=jS e λ x c i=>by
   have g:=d lo x (o0 _) c i;have j:=d x (lo + m - 1) c '%' '%'
   lia
  refine Fh o.1 hn '%' (λ x y c i p=>?_) λ m t' g j B A=>h m t' g j (o.trans B) (Bl.trans (λ x _=>e x) A);rw [e,e];rcases Q2 y (lo + m) with v|v
  ·have g:=d lo x (o0 _) c '%';have j:=d y (lo + m - 1) '%' '%' '%'
   lia
  ·rcases Q2 x (lo + m) with u|u
   ·have g:=d lo x (o0 _) c '%';rw [show y=lo + m by lia]
    lia
   ·rw [show x=y by lia];exact o0 _
 ·refine Fh hp hn '%' (λ x y c i p=>?_) h;have f:=f '%';rcases Q2 x y with u|u
  ·rw [show y=lo + m by lia,show x=lo + m - 1 by lia]
   lia
  ·rw [show x=y by lia];exact o0 _
theorem ME {ok:Nat} {R:Bool->SI->Prop} (hp:fE n t.a) (hn:lo + m<=n) (h1:1<=ok) (hok:ok<=m) (hs:Sd (kv ρ t.a) lo (lo + ok)) (h :∀t',Kp n t t'->Bl ρ lo t t'->Sd (kv ρ t'.a) lo (lo + m)->R true t'):cG (cR ρ) n (λ _=>binarySort' lo m ok) (λ _ r=>r) R t:=by
 simp only [binarySort'_eq];rw [Nat.max_eq_left h1];refine bW (cz:=λ _ r=>r) (kz (R:=λ r t'=>Kp n t t'/\Bl ρ lo t t'/\Sd (kv ρ t'.a) lo (lo + m)/\r=(none,())) (kM (β:=Option Bool×Unit) (λ k b t'=>Kp n t t'/\Bl ρ lo t t'/\Sd (kv ρ t'.a) lo (lo + k)/\b=(none,())) (λ _=>rfl) ⟨Kp.refl hp,λ _ _=>rfl,hs,rfl⟩ ?_ λ b t' h=>by rwa [R3 hok] at h) ?_)
 ·rintro k b c h1 B ⟨k1,b1,d1,rfl⟩;refine bW (cz:=λ _ r=>r) (kz (R:=λ r t'=>t'=c/\∃l q,r=(none,l,q)/\l<=k/\(∀x,x < l->kv ρ c.a (lo + x)<=kv ρ c.a (lo + k))/\∀x,l<=x->x < k->kv ρ c.a (lo + k)<=kv ρ c.a (lo + x)) (kM (β:=Option Bool×Nat×Nat) (λ i b t'=>t'=c/\∃l q,b=(none,l,q)/\l<=q/\q<=k/\q + i<=l + k/\(∀x,x < l->kv ρ c.a (lo + x)<=kv ρ c.a (lo + k))/\∀x,q<=x->x < k->kv ρ c.a (lo + k)<=kv ρ c.a (lo + x)) (λ _=>rfl) ⟨rfl,0,k,rfl,by lia,o0 _,by lia,λ x q=>ZU q '%',λ x d e=>ZU d '%'⟩ ?_ ?_) ?_)
  ·rintro i b g _ _ ⟨rfl,l,q,rfl,c1,f,j,c4,c5⟩;dsimp only;refine dv (λ z=>dR (.done (none,_,_)) (λ _=>rfl) ⟨rfl,_,_,rfl,by lia,c4,λ x d e=>c5 x '%' e⟩) λ _=>?_;refine bW (cz:=λ _ b=>b) (vF k1.1 '%' '%' λ b p=>?_);dsimp only;refine dv (λ z=>dR (.yield (none,_,_)) (λ _=>rfl) ⟨rfl,_,_,rfl,by lia,by lia,by lia,c4,λ x d e=>?_⟩) λ z=>dR (.yield (none,_,_)) (λ _=>rfl) ⟨rfl,_,_,rfl,by lia,f,by lia,λ x d=>?_,c5⟩
   ·have w:=p.mp z;have A:=d1 (lo + (l + q) / 2) (lo + x) '%' '%' '%'
    lia
   ·have w:=Nat.not_lt.mp λ q=>z (p.mpr q);have A:=d1 (lo + x) (lo + (l + q) / 2) '%' '%' '%'
    lia
  ·rintro b g ⟨rfl,l,q,rfl,c1,f,j,c4,c5⟩;have:=R3 (J1 k);exact ⟨rfl,_,_,rfl,by lia,c4,λ x d e=>c5 x '%' e⟩
  ·rintro r g ⟨rfl,l,q,rfl,c1,f,j⟩;dsimp only;refine bW (cz:=λ _ u=>u) (JE (ρ:=ρ) k1.1 '%' '%' λ C s o=>dR (.yield (none,())) (λ _=>rfl) ⟨k1.trans s,b1.trans λ x E=>by rw [o,Z_ '%',Z_ '%'],λ x y d e D=>?_,rfl⟩);have f :∀x,lo<=x->x < lo + l->kv ρ g.a x<=kv ρ g.a (lo + k):=λ x d e=>by have:=f (x - lo) '%';rwa [show lo + (x - lo)=x by lia] at this
   have j :∀x,lo + l<=x->x < lo + k->kv ρ g.a (lo + k)<=kv ρ g.a x:=λ x d e=>by have:=j (x - lo) '%' '%';rwa [show lo + (x - lo)=x by lia] at this
   rw [o,o];rcases L8 x (lo + l) with u|u|u
   ·rw [Z_ '%',Z_ '%'];rcases L8 y (lo + l) with v|v|v
    ·rw [Z_ '%',Z_ '%'];exact d1 x y d e '%'
    ·rw [ZZ v];exact f x d u
    ·rw [Z_ '%',ZZ '%'];exact d1 x (y - 1) d '%' '%'
   ·rw [ZZ u];rcases Q2 x y with v|v
    ·rw [Z_ '%',ZZ '%'];exact j (y - 1) '%' '%'
    ·rw [ZZ '%'];exact o0 _
   ·rw [Z_ '%',ZZ '%',Z_ '%',ZZ '%'];exact d1 (x - 1) (y - 1) '%' '%' '%'
 ·rintro r c ⟨k1,b1,d1,rfl⟩;exact dR true (λ _=>rfl) (h c k1 b1 d1)
end
theorem Ez {α:Type} {s:Nat} :∀(m:List α) (k:Nat) (a:Array α),s + k + m.length<=a.size->((m.zipIdx k).foldl (λ a (x:α×Nat)=>a.setIfInBounds (s + x.2) x.1) a).toList=a.toList.take (s + k)++m++a.toList.drop (s + k + m.length)
 | [],k,a,h=>by simp
 | x :: m,k,a,h=>by
  rw [U0] at h;rw [List.zipIdx_cons,j2j,Ez m (k + 1) _ (by rw [Array.size_setIfInBounds];lia)];have b:s + k < a.toList.length:=by rw [O0];lia
  have e:(a.setIfInBounds (s + k) x).toList=(a.toList.take (s + k)++[x])++a.toList.drop (s + k + 1):=by rw [Array.toList_setIfInBounds,N6,ZZ b];simp
  have c:(a.toList.take (s + k)++[x]).length=s + (k + 1):=by rw [L0,Y2,V9 (X2 b)];rfl
  show List.take (s + (k + 1)) (a.setIfInBounds (s + k) x).toList++m++j2d (s + (k + 1) + m.length) (a.setIfInBounds (s + k) x).toList=_;rw [e,<-c,List.take_left,List.drop_length_add_append,d8];rw [U0,V1,V1,V1,show s + k + 1 + m.length=s + k + (m.length + 1) by lia];rfl
noncomputable abbrev lr {α:Type} (s:Nat) (m:Array α) (a:Array α):Array α:=m.toList.zipIdx.foldl (λ a (x:α×Nat)=>a.setIfInBounds (s + x.2) x.1) a
theorem wG {α:Type} {s:Nat} {m a:Array α} (h:s + m.size<=a.size):(lr s m a).toList=a.toList.take s++m.toList++a.toList.drop (s + m.size):=by have:=Ez (s:=s) m.toList 0 a (by rw [O0];lia);rw [O0] at this;exact this
def JD {α β:Type} {s:Nat} {m a:Array α} {f:α->β} (h:s + m.size<=a.size):lr s (m.map f) (a.map f)=(lr s m a).map f:=by apply Array.toList_inj.mp;rw [wG (by rw [j4,j4];exact h),Array.toList_map (xs:=lr s m a),wG h];simp
theorem pO {s l:Nat} {m:Array Nat} (hp:fE n a) (h:s + l<=n) (hm:m.toList.Perm ((a.toList.drop s).take l)):fE n (lr s m a):=by
 have c:=hp.size;have b:m.size=l:=by
  have:=hm.length_eq;rw [O0,Y2,Z4,O0] at this
  lia
 unfold fE at *;rw [wG '%',b];refine ((u3 _ hm).append_right _).trans ?_;rw [V1,<-d8,O2,O2];exact hp
section
theorem OE {k:Nat} (hi:i<=j) (hk:j<=k):(a.extract i j).toList++(a.extract j k).toList=(a.toList.drop i).take (k - i):=by rw [j3,j3,P2,P2];rw [show k - i=(j - i) + (k - j) by lia,List.take_add,d8,show i + (j - i)=j by lia]
def wM {k:Nat} (hp:fE n a) (h:k∈a.extract i j):k < n:=by have h:=Array.mem_toList_iff.mpr h;rw [j3,P2] at h;exact List.mem_range.mp (hp.mem_iff.mp (List.mem_of_mem_drop (j65 h)))
theorem fC {x:Nat} (h:i + x < j) (hj:j<=a.size):kv ρ (a.extract i j) x=kv ρ a (i + x):=by rw [bx (by rw [F6];lia),bx '%'];simp
theorem pH {s x:Nat} {m:Array Nat} (h:s + m.size<=a.size):kv ρ (lr s m a) x=if s<=x/\x < s + m.size then kv ρ m (x - s) else kv ρ a x:=by
 have b:(a.toList.take s).length=s:=by rw [Y2,O0];lia
 have e:(lr s m a)[x]? = if s<=x/\x < s + m.size then m[x - s]? else a[x]?:=by
  rw [<-V2,wG h,V1];split
  ·rw [X1 '%',b,F2 (by rw [O0];lia),V2]
  ·rename_i z;rcases Q2 x s with v|v
   ·rw [F2 '%',List.getElem?_take,ZZ v,V2]
   ·rw [X1 '%',b,X1 (by rw [O0];lia),O0,List.getElem?_drop,V2];congr 1
    lia
 unfold kv;rw [e];split<;>rfl
theorem Pw {sa pw pw2:Nat} {R:Bool->SI->Prop} (hp:fE n t.a) (h1:t.p[i]? = some (sa,na,pw)) (h2:t.p[i + 1]? = some (sa + na,nb,pw2)) (ha:0 < na) (hb:0 < nb) (hn:sa + na + nb<=n) (d1:Sd (kv ρ t.a) sa (sa + na)) (d2:Sd (kv ρ t.a) (sa + na) (sa + na + nb))
  (h :∀t',fE n t'.a->t'.p=(t.p.setIfInBounds i (sa,na + nb,pw)).eraseIdxIfInBounds (i + 1)->(∀x,x < sa\/sa + na + nb<=x->kv ρ t'.a x=kv ρ t.a x)->Sd (kv ρ t'.a) sa (sa + na + nb)->R true t'):cG (cR ρ) n (λ _=>mergeAt' i) (λ _ r=>r) R t:=by
 have sz:=hp.size;refine gP (m':=λ e=>_ >>= _) (λ _=>rfl) (bW (nO ?_));dsimp only;have P :∀e,Z3 (lB e t)=t.p:=λ _=>rfl;have X :∀e,j1i (lB e t)=t.a.map e.2:=λ _=>rfl;simp only [P,X,h1,h2];refine bW (cz:=λ _ u=>u) (JS ⟨t.a,(t.p.setIfInBounds i (sa,na + nb,pw)).eraseIdxIfInBounds (i + 1),t.g⟩ (λ _=>rfl) ?_);obtain ⟨k1,N,U⟩:=gs hp (show sa + na < n by lia);have v1:=ie (ρ:=ρ) N;refine bW (cz:=λ e k=>e.2 k) (sy (λ _=>rfl) N ?_);refine bW (cz:=λ _ r=>r) (sQ (ρ:=ρ) U (λ j H=>gs hp '%') ha d1 λ k hk o s=>?_);rw [<-v1] at o s;have o :∀x,sa<=x->x < sa + k->kv ρ t.a x<=kv ρ t.a (sa + na):=λ x b d=>by have:=o (x - sa) '%';rwa [show sa + (x - sa)=x by lia] at this
 have s :∀x,sa + k<=x->x < sa + na->kv ρ t.a (sa + na) < kv ρ t.a x:=λ x b d=>by have:=s (x - sa) '%' '%';rwa [show sa + (x - sa)=x by lia] at this
 simp only [beq_iff_eq];refine dv (λ z=>dR true (λ _=>rfl) (h _ hp rfl (λ _ _=>rfl) λ x y b d f=>?_)) λ z=>?_
 ·rcases Q2 y (sa + na) with v|v
  ·exact d1 x y b d v
  ·rcases Q2 x (sa + na) with u|u
   ·exact C0 (o x b '%') (d2 _ y (o0 _) v f)
   ·exact d2 x y u d f
 obtain ⟨k2,L,Z⟩:=gs hp (show sa + k + (na - k) - 1 < n by lia);have M:=ie (ρ:=ρ) L;rw [show sa + k + (na - k) - 1=sa + na - 1 by lia] at M;refine bW (cz:=λ e k=>e.2 k) (sy (λ _=>rfl) L ?_);refine bW (cz:=λ _ r=>r) (sQ (ρ:=ρ) Z (λ j H=>gs hp '%') '%' d2 λ c a0 E C=>?_);rw [<-M] at E C;have E :∀x,sa + na<=x->x < sa + na + c->kv ρ t.a x + 1<=kv ρ t.a (sa + na - 1):=λ x b d=>by have:=E (x - (sa + na)) '%';rwa [show sa + na + (x - (sa + na))=x by lia] at this
 have C :∀x,sa + na + c<=x->x < sa + na + nb->kv ρ t.a (sa + na - 1) < kv ρ t.a x + 1:=λ x b d=>by have:=C (x - (sa + na)) '%' '%';rwa [show sa + na + (x - (sa + na))=x by lia] at this
 simp only [oZ];refine dv (λ z'=>dR true (λ _=>rfl) (h _ hp rfl (λ _ _=>rfl) λ x y b d f=>?_)) λ z'=>?_
 ·rcases Q2 y (sa + na) with v|v
  ·exact d1 x y b d v
  ·rcases Q2 x (sa + na) with u|u
   ·have W:=d1 x (sa + na - 1) b '%' '%';have a2:=C y '%' f;show kv ρ t.a x<=kv ρ t.a y
    lia
   ·exact d2 x y u d f
 have T:sa + k + (c + (na - k))<=n:=by lia
 have Q :∀r,hM ρ (t.a.extract (sa + k) (sa + na)) (t.a.extract (sa + na) (sa + na + c)) r->fE n (lr (sa + k) r t.a)/\r.size=c + (na - k)/\(∀x,x < sa\/sa + na + nb<=x->kv ρ (lr (sa + k) r t.a) x=kv ρ t.a x)/\Sd (kv ρ (lr (sa + k) r t.a)) sa (sa + na + nb):=λ r l=>by
  obtain ⟨l,Y⟩:=l;have K :∀y,y < r.size->∃x,sa + k<=x/\x < sa + na + c/\kv ρ r y=kv ρ t.a x:=λ y O=>by
   have:=l.mem_iff.mp (j41 O);rw [bx O];rcases List.mem_append.mp this with q|q
   ·obtain ⟨x,w,B,m⟩:=br (ρ:=ρ) '%' q;exact ⟨x,w,by lia,m⟩
   ·obtain ⟨x,w,B,m⟩:=br (ρ:=ρ) '%' q;exact ⟨x,by lia,B,m⟩
  rw [OE '%' '%',show sa + na + c - (sa + k)=c + (na - k) by lia] at l;have S:r.size=c + (na - k):=by
   have:=l.length_eq;rw [O0,Y2,Z4,O0] at this
   lia
  have J:=λ x=>pH (ρ:=ρ) (x:=x) (show sa + k + r.size<=t.a.size by lia);have V :∀x,sa + k<=x->x < sa + na + c->kv ρ t.a (sa + na)<=kv ρ t.a x:=λ x b d=>by
   rcases Q2 x (sa + na) with u|u
   ·exact X2 (s x b u)
   ·exact d2 _ x (o0 _) u '%'
  refine ⟨pO hp T l,S,λ x hx=>by rw [J,Z_ '%'],λ x y b d f=>?_⟩;rw [J,J];by_cases c1:sa + k<=x/\x < sa + k + r.size
  ·rw [ZZ c1];by_cases c2:sa + k<=y/\y < sa + k + r.size
   ·rw [ZZ c2,bx '%',bx '%'];rcases Q2 x y with u|u
    ·have:=List.pairwise_iff_getElem.mp Y (x - (sa + k)) (y - (sa + k)) (by rw [O0];lia) (by rw [O0];lia) '%';simpa using this
    ·simp only [show x=y by lia];exact o0 _
   ·rw [Z_ c2];obtain ⟨A,w,B,m⟩:=K (x - (sa + k)) '%';rw [m];have a2:=C y '%' f;rcases Q2 A (sa + na) with u|u
    ·have W:=d1 A (sa + na - 1) '%' '%' '%'
     lia
    ·exact d2 A y u '%' f
  ·rw [Z_ c1];by_cases c2:sa + k<=y/\y < sa + k + r.size
   ·rw [ZZ c2];obtain ⟨A,w,B,m⟩:=K (y - (sa + k)) '%';rw [m];exact C0 (o x b '%') (V A w B)
   ·rw [Z_ c2];rcases Q2 x (sa + k) with u|u
    ·rcases Q2 y (sa + k) with v|v
     ·exact d1 x y b d '%'
     ·exact C0 (o x b u) (d2 _ y (o0 _) '%' f)
    ·exact d2 x y '%' d f
 have s1:(t.a.extract (sa + k) (sa + na)).size=na - k:=by rw [F6];lia
 have s2:(t.a.extract (sa + na) (sa + na + c)).size=c:=by rw [F6];lia
 have G:Sd (kv ρ (t.a.extract (sa + k) (sa + na))) 0 (t.a.extract (sa + k) (sa + na)).size:=λ x y b d f=>by rw [fC '%' '%',fC '%' '%'];exact d1 _ _ '%' '%' '%'
 have I:Sd (kv ρ (t.a.extract (sa + na) (sa + na + c))) 0 (t.a.extract (sa + na) (sa + na + c)).size:=λ x y b d f=>by rw [fC '%' '%',fC '%' '%'];exact d2 _ _ '%' '%' '%'
 have F :∀j,j < (t.a.extract (sa + k) (sa + na)).size->kv ρ (t.a.extract (sa + na) (sa + na + c)) 0<=kv ρ (t.a.extract (sa + k) (sa + na)) j:=λ j H=>by rw [fC '%' '%',fC '%' '%'];exact X2 (s _ '%' '%')
 have D :∀j,j < (t.a.extract (sa + na) (sa + na + c)).size->kv ρ (t.a.extract (sa + na) (sa + na + c)) j<=kv ρ (t.a.extract (sa + k) (sa + na)) ((t.a.extract (sa + k) (sa + na)).size - 1):=λ j H=>by
  rw [fC '%' '%',fC '%' '%',s1,show sa + k + (na - k - 1)=sa + na - 1 by lia];have:=E (sa + na + j) '%' '%'
  lia
 refine dv (λ _=>bW (Qc G I F D '%' '%' (λ _=>wM hp) (λ _=>wM hp) λ r g l=>?_)) λ _=>bW (QY G I F D '%' '%' (λ _=>wM hp) (λ _=>wM hp) λ r g l=>?_)
 all_goals
  obtain ⟨G,I,F,D⟩:=Q r l;refine bW (cz:=λ _ u=>u) (sA ⟨lr (sa + k) r t.a,(t.p.setIfInBounds i (sa,na + nb,pw)).eraseIdxIfInBounds (i + 1),g⟩ (λ e=>?_) ?_)
  ·show C5 e.1 (lr (sa + k) (r.map e.2) (t.a.map e.2)) _ g none=_;rw [JD '%']
  ·exact bW (nO (dR true (λ _=>rfl) (h _ G rfl F D)))
end
noncomputable def Ct (f:Nat->Nat):Nat->List (Nat×Nat×Nat)->Nat->Prop
 | s,[],e=>s=e
 | s,x :: l,e=>x.1=s/\0 < x.2.1/\Sd f s (s + x.2.1)/\Ct f (s + x.2.1) l e
theorem Ct.le {f:Nat->Nat} :∀{l:List (Nat×Nat×Nat)} {s e:Nat},Ct f s l e->s + l.length<=e
 | [],_,_,h=>K5 h
 | _ :: l,_,_,⟨_,_,_,h⟩=>by have:=h.le;rw [U0];lia
theorem Ct.push {f:Nat->Nat} {x:Nat×Nat×Nat} :∀{l:List (Nat×Nat×Nat)} {s e:Nat},Ct f s l e->x.1=e->0 < x.2.1->Sd f e (e + x.2.1)->Ct f s (l++[x]) (e + x.2.1)
 | [],_,_,rfl,h1,h2,h3=>⟨h1,h2,h3,rfl⟩
 | _ :: _,_,_,⟨a,b,d,h⟩,h1,h2,h3=>⟨a,b,d,h.push h1 h2 h3⟩
theorem Ct.congr {f f':Nat->Nat} :∀{l:List (Nat×Nat×Nat)} {s e:Nat},Ct f s l e->(∀x,s<=x->x < e->f' x=f x)->Ct f' s l e
 | [],_,_,h,_=>h
 | x :: l,s,e,⟨a,b,d,h⟩,k=>⟨a,b,λ p q c g i=>by have:=h.le;rw [k p c '%',k q '%' '%'];exact d p q c g i,h.congr λ y c g=>k y '%' g⟩
theorem Ct.power {f:Nat->Nat} {g:Nat×Nat×Nat->Nat×Nat×Nat} (hf :∀x,(g x).1=x.1/\(g x).2.1=x.2.1) :∀{l:List (Nat×Nat×Nat)} {i s e:Nat},Ct f s l e->Ct f s (l.modify i g) e
 | [],0,_,_,h=>h
 | [],_ + 1,_,_,h=>h
 | x :: l,0,s,e,⟨a,b,h⟩=>by rw [List.modify_zero_cons];refine ⟨by rw [(hf x).1];exact a,by rw [(hf x).2];exact b,by rw [(hf x).2];exact h⟩
 | x :: l,i + 1,s,e,⟨a,b,d,h⟩=>by rw [List.modify_succ_cons];exact ⟨a,b,d,Ct.power hf h⟩
theorem Ct.merge {f:Nat->Nat} :∀{l:List (Nat×Nat×Nat)} {i s e:Nat},Ct f s l e->i + 1 < l.length->∃sa na nb pw pw2,l[i]? = some (sa,na,pw)/\l[i + 1]? = some (sa + na,nb,pw2)/\0 < na/\0 < nb/\s<=sa/\sa + na + nb<=e/\Sd f sa (sa + na)/\Sd f (sa + na) (sa + na + nb)/\∀f',(∀x,x < sa\/sa + na + nb<=x->f' x=f x)->Sd f' sa (sa + na + nb)->Ct f' s ((l.set i (sa,na + nb,pw)).eraseIdx (i + 1)) e
 | [],_,_,_,_,h=>ZU h (by simp)
 | [x],_,_,_,_,h=>ZU h (by simp)
 | ⟨a,m,p⟩ :: ⟨b,k,q⟩ :: l,0,s,e,⟨c,h2,d1,d,h4,d2,h5⟩,_=>by have c:a=s:=c;have d:b=s + m:=d;have E:s + m + k + l.length<=e:=h5.le;subst c d;refine ⟨a,m,k,p,q,rfl,rfl,h2,h4,o0 _,by lia,d1,d2,λ f' g j=>⟨rfl,by show 0 < m + k;lia,by rw [<-U8];exact j,?_⟩⟩;rw [<-U8];exact h5.congr λ x o _=>g x (.inr o)
 | x :: y :: l,i + 1,s,e,⟨c,h2,d1,d⟩,h=>by obtain ⟨sa,na,nb,pw,pw2,z,n,t,A,F,u,D,r,B⟩:=Ct.merge (i:=i) d (by simpa using h);refine ⟨sa,na,nb,pw,pw2,z,n,t,A,by lia,u,D,r,λ f' g j=>⟨c,h2,λ p q v w C=>?_,B f' g j⟩⟩;rw [g p (.inl '%'),g q (.inl '%')];exact d1 p q v w C
section
def Rn (ρ:Nat->Nat) (n e:Nat) (t:SI):Prop:=fE n t.a/\Ct (kv ρ t.a) 0 t.p.toList e/\e<=n
theorem Hk {e:Nat} {R:Bool->SI->Prop} (hr:Rn ρ n e t) (hi:i + 1 < t.p.size) (h :∀t',Rn ρ n e t'->(∀x,e<=x->kv ρ t'.a x=kv ρ t.a x)->t'.p.size + 1=t.p.size->R true t'):cG (cR ρ) n (λ _=>mergeAt' i) (λ _ r=>r) R t:=by
 obtain ⟨w,y,B⟩:=hr;obtain ⟨c,d,m,f,C,k,b,u,z,_,D,A,q,v⟩:=y.merge (i:=i) (by rw [O0];exact hi);rw [V2] at k b;refine Pw w k b u z '%' A q λ t' o j l s=>?_;have g:((t.p.setIfInBounds i (c,d + m,f)).eraseIdxIfInBounds (i + 1)).toList=(t.p.toList.set i (c,d + m,f)).eraseIdx (i + 1):=by simp
 refine h t' ⟨o,?_,B⟩ (λ x E=>l x (.inr '%')) ?_
 ·rw [j,g];exact v _ l s
 ·rw [j,<-O0,g,List.length_eraseIdx_of_lt (by rw [K7,O0];exact hi),K7,O0]
  lia
def rS {p:Prop} [Decidable p] {a b s:Nat} (h1:a + 1 < s) (h2:b + 1 < s):(if p then a else b) + 1 < s:=by
 split
 ·exact h1
 ·exact h2
def Rn.push (h:Rn ρ n lo t) (h1:1<=q) (h2:lo + q<=n) (h3:Sd (kv ρ t.a) lo (lo + q)):Rn ρ n (lo + q) ⟨t.a,t.p.push (lo,q,0),t.g⟩:=by refine ⟨h.1,?_,h2⟩;show Ct _ 0 (t.p.push (lo,q,0)).toList (lo + q);rw [Array.toList_push];exact Ct.push (x:=(lo,q,0)) h.2.1 rfl h1 h3
noncomputable def yY (n pw:Nat) (_:Nat) (_:Option Unit×Unit):StateT Zz ZN (ForInStep (Option Unit×Unit)):=do
 let s <-get
 match if (Z3 s).size > 1 then (Z3 s)[(Z3 s).size - 2]? else none with
 | some (_,_,older)=>
  if older<=pw then Y1 (.done (none,()))
  else do
   let r <-mergeAt' ((Z3 s).size - 2)
   if (!r)=true then Y1 (.done (some (),())) else Y1 (.yield (none,()))
 | none=>Y1 (.done (none,()))
noncomputable def Fs (n lo q:Nat):StateT Zz ZN (ForInStep (Option Unit×Nat)):=do
 let s <-get
 match (Z3 s).back? with
 | some (s1,n1,_)=>do
  let r <-N5 [0:n] ((none,()):Option Unit×Unit) (yY n (power' n (2 * s1 + n1) (2 * s1 + n1 + n1 + q) n))
  match r.1 with
  | some r=>Y1 (.done (some r,lo))
  | none=>do
   modify λ s=>j5c s ((Z3 s).modify ((Z3 s).size - 1) λ x=>(x.1,x.2.1,power' n (2 * s1 + n1) (2 * s1 + n1 + n1 + q) n))
   modify λ s=>j5c s ((Z3 s).push (lo,q,0))
   Y1 (.yield (none,lo + q))
 | none=>do
  modify λ s=>j5c s ((Z3 s).push (lo,q,0))
  Y1 (.yield (none,lo + q))
theorem KL {pw:Nat} {b:Option Unit×Unit} {f:Nat->Nat} (r:Rn ρ n lo t) (b0 :∀x,lo<=x->kv ρ t.a x=f x):cG (cR ρ) n (λ _=>yY n pw i b) (ff λ _ r=>r) (qh (λ r t'=>(Rn ρ n lo t'/\∀x,lo<=x->kv ρ t'.a x=f x)/\r=(none,())) λ r t'=>(Rn ρ n lo t'/\∀x,lo<=x->kv ρ t'.a x=f x)/\r=(none,())) t:=by
 unfold yY;refine bW (nO ?_);have g :∀e t,Z3 (lB e t)=t.p:=λ _ _=>rfl;simp only [g];by_cases hz:t.p.size > 1
 ·obtain ⟨⟨x,y,z⟩,c⟩ :∃x,t.p[t.p.size - 2]? = some x:=⟨_,W1 '%'⟩
  simp only [ZZ hz,c];refine dv (λ _=>dR (.done (none,())) (λ _=>rfl) ⟨⟨r,b0⟩,rfl⟩) λ _=>bW (cz:=λ _ r=>r) (Hk r '%' λ j h d _=>?_);simp only [B6,m3,if_false];exact dR (.yield (none,())) (λ _=>rfl) ⟨⟨h,λ x c=>(d x c).trans (b0 x c)⟩,rfl⟩
 ·simp only [Z_ hz];exact dR (.done (none,())) (λ _=>rfl) ⟨⟨r,b0⟩,rfl⟩
theorem DF (r:Rn ρ n lo t) (h1:1<=q) (h2:lo + q<=n) (hs:Sd (kv ρ t.a) lo (lo + q)) (hl:i<=lo):cG (cR ρ) n (λ _=>Fs n lo q) (ff λ _ r=>r) (qh (λ r t'=>Rn ρ n n t'/\r=(none,n)) λ b t'=>∃lo,i + 1<=lo/\Rn ρ n lo t'/\b=(none,lo)) t:=by
 unfold Fs;refine bW (nO ?_);have w :∀e t,Z3 (lB e t)=t.p:=λ _ _=>rfl;simp only [w];have l :∀t',Rn ρ n lo t'->(∀x,lo<=x->kv ρ t'.a x=kv ρ t.a x)->cG (cR ρ) n (λ _=>(do modify λ s=>j5c s ((Z3 s).push (lo,q,0));Y1 (.yield (none,lo + q)):StateT Zz ZN (ForInStep (Option Unit×Nat)))) (ff λ _ r=>r) (qh (λ r t'=>Rn ρ n n t'/\r=(none,n)) λ b t'=>∃lo,i + 1<=lo/\Rn ρ n lo t'/\b=(none,lo)) t':=λ t' z k=>bW (cz:=λ _ u=>u) (sA ⟨t'.a,t'.p.push (lo,q,0),t'.g⟩ (λ _=>rfl) (dR (.yield (none,lo + q)) (λ _=>rfl) ⟨lo + q,by lia,z.push h1 h2 λ x y f o v=>by rw [k x f,k y '%'];exact hs x y f o v,rfl⟩));cases hb:t.p.back? with
 | none=>exact l t r λ _ _=>rfl
 | some x=>obtain ⟨m,d,A⟩:=x;dsimp only;generalize power' n (2 * m + d) (2 * m + d + d + q) n=pw;refine bW (cz:=λ _ r=>r) (kz (R:=λ r t'=>(Rn ρ n lo t'/\∀x,lo<=x->kv ρ t'.a x=kv ρ t.a x)/\r=(none,())) (kM (β:=Option Unit×Unit) (λ _ b t'=>(Rn ρ n lo t'/\∀x,lo<=x->kv ρ t'.a x=kv ρ t.a x)/\b=(none,())) (λ _=>rfl) ⟨⟨r,λ _ _=>rfl⟩,rfl⟩ (λ j b c _ _ h=>KL h.1.1 h.1.2) λ _ _ h=>h) ?_);rintro _ c ⟨⟨r4,b4⟩,rfl⟩;refine bW (cz:=λ _ u=>u) (sA ⟨c.a,c.p.modify (c.p.size - 1) λ x=>(x.1,x.2.1,pw),c.g⟩ (λ _=>rfl) (l _ ⟨r4.1,?_,r4.2.2⟩ b4));show Ct _ 0 (c.p.modify (c.p.size - 1) λ x=>(x.1,x.2.1,pw)).toList lo;rw [Array.toList_modify];exact Ct.power (g:=λ x=>(x.1,x.2.1,pw)) (λ x=>⟨rfl,rfl⟩) r4.2.1
def Rn.kp {t':SI} (r:Rn ρ n lo t) (k:Kp n t t') (b:Bl ρ lo t t'):Rn ρ n lo t':=⟨k.1,by rw [k.2.1];exact r.2.1.congr λ x _ a=>b x a,r.2.2⟩
theorem NZ (hp:fE n t.a) (h0:t.p = #[]):cG (cR ρ) n (λ _=>sortRuns') (λ _ u=>u) (λ _ t'=>fE n t'.a/\Sd (kv ρ t'.a) 0 n) t:=by
 simp only [sortRuns'_eq];refine bW (nO ?_);have D :∀e t,Z3 (lB e t)=t.p:=λ _ _=>rfl;have I :∀e,(j1i (lB e t)).size=n:=λ e=>by show (t.a.map e.2).size=n;rw [j4,hp.size]
 simp only [I];generalize minRun' n n 0=mr;have C:Rn ρ n 0 t:=⟨hp,by rw [h0];rfl,J1 _⟩
 refine bW (cz:=λ _ r=>r) (kz (R:=λ r t'=>Rn ρ n n t'/\r=(none,n)) (kM (β:=Option Unit×Nat) (λ i b t'=>∃lo,i<=lo/\Rn ρ n lo t'/\b=(none,lo)) (λ _=>rfl) ⟨0,o0 _,C,rfl⟩ ?_ ?_) ?_)
 ·rintro i b w - hi ⟨lo,hl,r1,rfl⟩;dsimp only;refine dv (λ z=>dR (.done (none,lo)) (λ _=>rfl) ?_) λ z=>?_
  ·have:=r1.2.2;obtain rfl:lo=n:=by lia
   exact ⟨r1,rfl⟩
  refine bW (cz:=λ _ r=>r) (Nr r1.1 '%' '%' λ m J A O v L B=>?_);dsimp only;have f:Rn ρ n lo J:=r1.kp v L;refine dv (λ G=>bW (cz:=λ _ u=>u) (tQ (bW (cz:=λ _ r=>r) (ME v.1 '%' A '%' B λ S F H K=>dv (λ h=>ZU h '!') λ _=>gP (λ e=>?_) (DF (q:=min (n - lo) mr) (f.kp F H) '%' '%' K hl))))) λ G=>gP (λ e=>?_) (DF f A '%' B hl)
  all_goals
   refine ZS λ s=>?_;generalize (Z3 s).back? = o;rcases o with _|⟨s1,n1,p1⟩
   ·rfl
   refine lh (lu λ k b=>ZS λ s=>?_) λ r=>by rcases r with ⟨_|_,_⟩<;>rfl
   generalize (if (Z3 s).size > 1 then (Z3 s)[(Z3 s).size - 2]? else none)=o;rcases o with _|⟨_,_,_⟩<;>rfl
 ·rintro b w ⟨lo,hl,r1,rfl⟩;have:=r1.2.2;rw [R3 (J1 _)] at hl;obtain rfl:lo=n:=by lia
  exact ⟨r1,rfl⟩
 ·rintro r w ⟨r1,rfl⟩;dsimp only;refine bW (cz:=λ _ r=>r) (kz (R:=λ r t'=>Rn ρ n n t'/\t'.p.size<=1/\r=(none,())) (kM (β:=Option Unit×Unit) (λ i b t'=>Rn ρ n n t'/\t'.p.size + i<=n/\b=(none,())) (λ _=>rfl) ⟨r1,by have:=r1.2.1.le;rw [O0] at this;lia,rfl⟩ ?_ λ _ _ h=>⟨h.1,by have:=h.2.1;have:=R3 (J1 n);lia,h.2.2⟩) ?_)
  ·rintro j b c - - ⟨r4,s4,rfl⟩;refine bW (nO ?_);simp only [D];refine dv (λ z=>dR (.done (none,())) (λ _=>rfl) ⟨r4,z,rfl⟩) λ P=>?_;refine bW (cz:=λ _ r=>r) (gP (m':=λ _=>mergeAt' (if Option.any (λ x=>decide (x < (c.p[c.p.size - 2 + 1]?.elim 0 λ x=>x.2.1))) (if c.p.size - 2 > 0 then j10 (λ x=>x.2.1) c.p[c.p.size - 2 - 1]? else none)=true then c.p.size - 2 - 1 else c.p.size - 2)) (λ _=>rfl) (Hk r4 ?_ λ N M _ Q=>?_))
   ·exact rS '%' '%'
   ·simp only [B6,m3,if_false];exact dR (.yield (none,())) (λ _=>rfl) ⟨M,by lia,rfl⟩
  ·rintro r c ⟨r4,s4,rfl⟩;refine dR () (λ _=>rfl) ⟨r4.1,?_⟩;have d:=r4.2.1;rw [<-O0] at s4;generalize c.p.toList=l at d s4;rcases l with _|⟨x,_|⟨y,l⟩⟩
   ·obtain rfl:0=n:=d;exact λ x y _ _ h=>ZU h (C4 _)
   ·obtain ⟨_,_,g,E⟩:=d;rw [(show 0 + x.2.1=n from E)] at g;exact g
   ·exact ZU s4 (by simp)
end
def sP (ρ:Nat->Nat) (n:Nat) :∃p:Array Nat,fE n p/\So ρ p.toList/\∀prog w A E (e:SV) s,Ask prog w A (cR ρ) n e s->wpS (B1 prog w) A E s sortRuns' (λ _ st=>j1i st=p.map e.2/\failedOf st=none) (C5 e.1 ((L1 n).toArray.map e.2) #[] 7 none):=by
 obtain ⟨_,c,⟨b,d⟩,g⟩:=NZ (ρ:=ρ) (n:=n) (t:=⟨(L1 n).toArray,#[],7⟩) (List.Perm.refl _) rfl;refine ⟨c.a,b,?_,λ prog w A E e s f=>wpS_mono (g prog w A E e s f) ?_⟩
 ·have:=c_ (x:=c.a) (i:=0) (j:=n) (by rw [b.size];exact o0 _) d
  rwa [<-b.size,wo,Z5] at this
 ·rintro x y ⟨-,rfl⟩;exact ⟨rfl,rfl⟩
mutual
theorem CA:∀d:ZJ,eg d d≠some true
 | .int i=>λ h=>by have h:some (decide (i < i))=some true:=h;rw [ZX (Int.lt_irrefl i)] at h;cases h
 | .tuple xs=>Dc xs
 | .none=>λ h=>nomatch h
 | .bool _=>λ h=>nomatch h
 | .str _=>λ h=>nomatch h
 | .list _=>λ h=>nomatch h
 | .dict _=>λ h=>nomatch h
theorem Dc:∀xs:List ZJ,dA xs xs≠some true
 | []=>λ h=>nomatch h
 | x :: xs=>λ h=>by have h:(if x=x then dA xs xs else eg x x)=some true:=h;rw [ZZ rfl] at h;exact Dc xs h
end
mutual
theorem jJ:∀a b c:ZJ,eg a b=some true->eg b c=some true->eg a c=some true
 | .int i,b,c=>λ d e=>by
  cases b with
  | int j=>
   cases c with
   | int k=>have d:i < j:=ZW (Q1 d);have e:j < k:=ZW (Q1 e);exact ZT some (ZY (Int.lt_trans d e))
   | _=>cases e
  | _=>cases d
 | .tuple xs,b,c=>λ d e=>by
  cases b with
  | tuple ys=>
   cases c with
   | tuple zs=>exact GY xs ys zs d e
   | _=>cases e
  | _=>cases d
 | .none,_,_=>λ h=>nomatch h
 | .bool _,_,_=>λ h=>nomatch h
 | .str _,_,_=>λ h=>nomatch h
 | .list _,_,_=>λ h=>nomatch h
 | .dict _,_,_=>λ h=>nomatch h
theorem GY:∀xs ys zs:List ZJ,dA xs ys=some true->dA ys zs=some true->dA xs zs=some true
 | [],ys,zs=>λ b a=>by
  cases zs with
  | nil=>
   cases ys with
   | nil=>exact b
   | cons y ys=>cases a
  | cons z zs=>rfl
 | x :: xs,ys,zs=>λ b a=>by
  cases ys with
  | nil=>cases b
  | cons y ys=>
   cases zs with
   | nil=>cases a
   | cons z zs=>
    have b:(if x=y then dA xs ys else eg x y)=some true:=b;have a:(if y=z then dA ys zs else eg y z)=some true:=a;show (if x=z then dA xs zs else eg x z)=some true;by_cases e1:x=y
    ·subst e1;rw [ZZ rfl] at b;by_cases e2:x=z
     ·rw [ZZ e2] at a⊢;exact GY xs ys zs b a
     ·rw [Z_ e2] at a⊢;exact a
    ·rw [Z_ e1] at b;by_cases e2:y=z
     ·subst e2;rw [Z_ e1];exact b
     ·rw [Z_ e2] at a;have c:=jJ x y z b a;rw [Z_ λ e=>by rw [e] at c;exact CA z c];exact c
end
mutual
theorem yr:∀a b:ZJ,eg a b=some false->a≠b->eg b a=some true
 | .int i,b=>λ h n=>by
  cases b with
  | int j=>have h:¬ i < j:=ZV (Q1 h);exact ZT some (ZY (show j < i by have:i≠j:=λ e=>n (by rw [e]);lia))
  | _=>cases h
 | .tuple xs,b=>λ h n=>by
  cases b with
  | tuple ys=>exact DY xs ys h λ e=>n (by rw [e])
  | _=>cases h
 | .none,_=>λ h=>nomatch h
 | .bool _,_=>λ h=>nomatch h
 | .str _,_=>λ h=>nomatch h
 | .list _,_=>λ h=>nomatch h
 | .dict _,_=>λ h=>nomatch h
theorem DY:∀xs ys:List ZJ,dA xs ys=some false->xs≠ys->dA ys xs=some true
 | [],ys=>λ h n=>by
  cases ys with
  | nil=>exact ZU rfl n
  | cons y ys=>cases h
 | x :: xs,ys=>λ h n=>by
  cases ys with
  | nil=>rfl
  | cons y ys=>
   have h:(if x=y then dA xs ys else eg x y)=some false:=h;show (if y=x then dA ys xs else eg y x)=some true;by_cases e:x=y
   ·rw [ZZ e] at h;rw [ZZ e.symm];exact DY xs ys h λ a=>n (by rw [e,a])
   ·rw [Z_ e] at h;rw [Z_ (F4 e)];exact yr x y h e
end
mutual
theorem NF:∀d:ZJ,bK d=true->eg d d=some false
 | .int i,_=>by show some (decide (i < i))=some false;rw [ZX (Int.lt_irrefl i)]
 | .tuple xs,h=>Eb xs h
 | .none,h=>nomatch h
 | .bool _,h=>nomatch h
 | .str _,h=>nomatch h
 | .list _,h=>nomatch h
 | .dict _,h=>nomatch h
theorem Eb:∀xs:List ZJ,bE xs=true->dA xs xs=some false
 | [],_=>rfl
 | x :: xs,h=>by show (if x=x then dA xs xs else eg x x)=some false;rw [ZZ rfl];exact Eb xs (Bool.and_eq_true_iff.mp (show (bK x && bE xs)=true from h)).2
end
theorem Dj {α:Type} {r:α->α->Prop} (irr :∀a,¬ r a a) (tr :∀a b c,r a b->r b c->r a c) :∀{l m:List α},l.Pairwise r->m.Pairwise r->(∀x,x∈l↔x∈m)->l=m
 | [],[],_,_,_=>rfl
 | [],y :: m,_,_,h=>ZU ((h y).mpr R0) u0
 | x :: l,[],_,_,h=>ZU ((h x).mp R0) u0
 | x :: l,y :: m,h1,h2,h=>by
  have d:=List.pairwise_cons.mp h1;have g:=List.pairwise_cons.mp h2;have e:x=y:=by
   rcases List.mem_cons.mp ((h x).mp R0) with z|z
   ·exact z
   ·rcases List.mem_cons.mp ((h y).mpr R0) with w|w
    ·exact w.symm
    ·exact ZU (tr _ _ _ (d.1 y w) (g.1 x z)) (irr _)
  subst e;rw [Dj irr tr d.2 g.2 λ z=>?_];have one :∀{l m:List α},(∀y∈l,r x y)->(z∈x :: l->z∈x :: m)->z∈l->z∈m:=λ h f i=>by
   rcases List.mem_cons.mp (f (Y0 _ i)) with w|w
   ·subst w;exact ZU (h _ i) (irr _)
   ·exact w
  exact ⟨one d.1 (h z).mp,one g.1 (h z).mpr⟩
theorem lH {α:Type} {p q:α->Bool} :∀{l:List α},(∀x∈l,p x=true->q x=true)->(∃x∈l,q x=true/\p x=false)->l.countP p < l.countP q
 | [],_,h=>by obtain ⟨x,h,_⟩:=h;cases h
 | y :: l,h1,h2=>by
  have mono:l.countP p<=l.countP q:=List.countP_mono_left λ x a=>h1 x (Y0 _ a);rw [List.countP_cons,List.countP_cons];by_cases z:q y=true/\p y=false
  ·rw [ZZ z.1,z.2];simp
   lia
  ·obtain ⟨x,a,c,b⟩:=h2;have a:x∈l:=by
    rcases List.mem_cons.mp a with e|a
    ·subst e;exact ZU ⟨c,b⟩ z
    ·exact a
   have:=lH (λ x a=>h1 x (Y0 _ a)) ⟨x,a,c,b⟩;have d:=h1 y R0;cases hp:p y with
   | true=>rw [d hp];simp;lia
   | false=>cases q y<;>simp<;>lia
noncomputable def kC (ds:List ZJ) (i:Nat):Nat:=ds.countP λ x=>decide (eg x (ds.getD i .none)=some true)
def kH (ds:List ZJ):Prop:=∀d∈ds,∀e∈ds,d≠e->(eg d e).isSome=true
variable {ds:List ZJ}
def oe (hi:i < ds.length):ds.getD i .none∈ds:=by rw [A1,F0 hi];exact c7 _
def mM (cm:kH ds) (hi:i < ds.length) (hj:j < ds.length):kC ds i < kC ds j↔eg (ds.getD i .none) (ds.getD j .none)=some true:=by
 have a :∀i j,i < ds.length->eg (ds.getD i .none) (ds.getD j .none)=some true->kC ds i < kC ds j:=λ i j hi h=>lH (λ x _ d=>ZY (jJ _ _ _ (ZW d) h)) ⟨ds.getD i .none,oe hi,ZY h,ZX (CA _)⟩;refine ⟨λ h=>?_,a i j hi⟩;by_cases e:ds.getD i .none=ds.getD j .none
 ·unfold kC at h;rw [e] at h;exact ZU h (Y3 _)
 obtain ⟨b,c⟩:=Option.isSome_iff_exists.mp (cm _ (oe hi) _ (oe hj) e);cases b with
 | true=>exact c
 | false=>exact ZU h (Nat.lt_asymm (a j i hj (yr _ _ c e)))
def ql (cm:kH ds) (hk :∀d∈ds,bK d=true) (hi:i < ds.length) (hj:j < ds.length):eg (ds.getD i .none) (ds.getD j .none)=some (cR (kC ds) i j):=by
 have h:=mM cm hi hj;have a :∃b,eg (ds.getD i .none) (ds.getD j .none)=some b:=by
  by_cases e:ds.getD i .none=ds.getD j .none
  ·rw [e];exact ⟨_,NF _ (hk _ (oe hj))⟩
  ·exact Option.isSome_iff_exists.mp (cm _ (oe hi) _ (oe hj) e)
 obtain ⟨b,a⟩:=a;rw [a] at h⊢;cases b with
 | true=>exact ZT some (ZY (h.mpr rfl)).symm
 | false=>exact ZT some (ZX λ z=>nomatch h.mp z).symm
noncomputable def b_ (ds:List ZJ):List Nat:=if ds.length < 2 then L1 ds.length else (j16 (sP (kC ds) ds.length)).toList
def nI (ds:List ZJ):(b_ ds).Perm (L1 ds.length):=by
 unfold b_;split
 ·exact List.Perm.refl _
 ·exact (V8 (sP (kC ds) ds.length)).1
theorem HP (cm:kH ds) (nd:ds.Nodup):((b_ ds).map λ i=>ds.getD i .none).Pairwise λ a b=>eg a b=some true:=by
 have g:=nI ds;have m:So (kC ds) (b_ ds):=by
  unfold b_;split
  ·rename_i h;have:ds.length=0\/ds.length=1:=by lia
   rcases this with e|e
   ·rw [e];exact .nil
   ·rw [e];exact L6 _ _
  ·exact (V8 (sP (kC ds) ds.length)).2.1
 have l:(b_ ds).Nodup:=g.nodup_iff.mpr List.nodup_range;have lt :∀i∈b_ ds,i < ds.length:=λ i c=>List.mem_range.mp (g.mem_iff.mp c);rw [List.pairwise_map];refine (List.Pairwise.and_mem.mp (List.Pairwise.and (List.nodup_iff_pairwise_ne.mp l) m)).imp ?_;rintro i j ⟨c,d,ne,le⟩;have c:=lt i c;have d:=lt j d;have f:ds.getD i .none≠ds.getD j .none:=λ e=>ne (by rw [A1,A1,F0 c,F0 d] at e;exact (List.getElem_inj nd).mp e);obtain ⟨b,k⟩:=Option.isSome_iff_exists.mp (cm _ (oe c) _ (oe d) f);cases b with
 | true=>exact k
 | false=>exact ZU ((mM cm d c).mpr (yr _ _ k f)) (Nat.not_lt.mpr le)
variable {vs:List ZF}
section
theorem HW {κ:SortKind} {kv:List ZF} {Q:Unit×Zz->A0->Prop} (hl:kv.length=vs.length) (lk:ds.length=vs.length) (h2:2<=vs.length) (cm:kH ds) (hk :∀d∈ds,bK d=true)
  (ask :∀i j b,i < vs.length->j < vs.length->eg (ds.getD i .none) (ds.getD j .none)=some b->∀(Q:Bool->A0->Prop) (E:ZF->A0->Prop),Q b s->W0 (B1 prog w) A (keyLt' κ (kv.getD i Value.none) (kv.getD j Value.none)) Q E s)
  (q :∀st',failedOf st'=none->W8 (λ x=>x.snd) (j1i st')=((b_ ds).map λ i=>vs.getD i Value.none).toArray->Q ((),st') s) :
  W0 (B1 prog w) A (sortRuns'.run (C5 κ (kv.toArray.zip vs.toArray) #[] 7 none)) Q E s:=by
 obtain ⟨h,_,f⟩:=V8 (sP (kC ds) ds.length);have c:b_ ds=(j16 (sP (kC ds) ds.length)).toList:=by unfold b_;rw [Z_ '%']
 generalize j16 (sP (kC ds) ds.length)=p at h f c;have o:C5 κ (kv.toArray.zip vs.toArray) #[] 7 none=C5 κ ((L1 ds.length).toArray.map (V6 (kv.toArray.zip vs.toArray))) #[] 7 none:=by have e:=PySem.W.kas_range (kv.toArray.zip vs.toArray);rw [show (kv.toArray.zip vs.toArray).size=ds.length by simp [lk,hl]] at e;rw [e]
 have run:=f prog w A E (κ,V6 (kv.toArray.zip vs.toArray)) s (λ i j g l Q n q=>by
  have a :∀i,(V6 (kv.toArray.zip vs.toArray) i).1=kv.getD i Value.none:=λ i=>by rw [PySem.W.kat_item hl]
  show W0 _ _ (keyLt' κ (V6 _ i).1 (V6 _ j).1) _ _ _;rw [a,a];exact ask i j _ '%' '%' (ql cm hk g l) Q n q)
 rw [o];refine L3 run (λ r t z=>?_) λ _ _ z=>z;obtain ⟨⟨⟩,st'⟩:=r;obtain ⟨rfl,m,k⟩:=z;exact q st' k (by rw [c];exact PySem.W.kat_snds hl m)
end
noncomputable def nv (k:ZJ×ZR):ZG:={ hash:=hS k.1,key:=.ref k.2,val:=.bool true }
noncomputable def cc (a:ZR) (ks:List (ZJ×ZR)):HO:=.ext λ h=>(a == T3)=false/\ks.length<=ZE/\(ks.map (·.1)).Nodup/\∃ep,iy h a (ks.map nv).toArray ep
def jf (K:c0) (H:Hp) (a:ZR) (ks:List (ZJ×ZR)):Prop:=Rd H a (cc a ks)/\∀k∈ks,bK k.1=true/\k.1.depth<=7/\dy K H k.1 (.ref k.2)
noncomputable def putN (ks:List (ZJ×ZR)) (d:ZJ) (b:ZR):List (ZJ×ZR):=if d∈ks.map (·.1) then ks else ks++[(d,b)]
variable {H:Hp} {d:ZJ} {ks:List (ZJ×ZR)} {pins:List (ZR×ZP)} {σ:St}
section
variable {a b:ZR} 
def ko (I:Inv X pins σ H s) (hk:bK d=true) (hd:d.depth<=7) (h:dy X.K H d (.ref b)):(uG X.prog X.w).is s.heap d b:=by obtain ⟨a,r⟩:=oy I d (.ref b) (.ref b) h rfl;exact ⟨hk,hd,a,r⟩
def uR (I:Inv X pins σ H s) (h:jf X.K H a ks):(a == T3)=false/\ks.length<=ZE/\(ks.map (·.1)).Nodup/\(∃ep,iy s.heap a (ks.map nv).toArray ep)/\s.heap.DictOfH (uG X.prog X.w) a (ks.map λ k=>(k.1,k.2,R4 true)):=by
 obtain ⟨i,p⟩:=h;obtain ⟨⟨g,d,b,ep,c⟩,_⟩:=(show bb X.prog X.w H s.heap a (cc a ks) from i.ok I.hok)
 refine ⟨g,d,b,⟨ep,c⟩,?_⟩;obtain ⟨o,f,n,m⟩:=c;refine ⟨o,_,ep,f,n,m,?_,λ x j=>?_,?_⟩
 ·rw [S2];rfl
 ·obtain ⟨k,l,rfl⟩:=List.mem_map.mp j;obtain ⟨q,e,r⟩:=p k l;exact ko I q e r
 ·rw [S2];exact b
def ox:(j00 (ks.map λ k=>(k.1,k.2,R4 true)) d).isSome=decide (d∈ks.map (·.1)):=by
 unfold j00;rw [o8,Bool.eq_iff_iff,List.find?_isSome,decide_eq_true_iff];constructor
 ·rintro ⟨x,hx,e⟩;obtain ⟨k,a,rfl⟩:=List.mem_map.mp hx;exact List.mem_map.mpr ⟨k,a,ZW e⟩
 ·intro h;obtain ⟨k,a,e⟩:=List.mem_map.mp h;exact ⟨_,List.mem_map.mpr ⟨k,a,rfl⟩,ZY e⟩
def Dm:storedH (ks.map λ k=>(k.1,k.2,R4 true)) d b (.bool true)=(putN ks d b).map λ k=>(k.1,k.2,R4 true):=by
 unfold storedH putN;rw [ox];by_cases z:d∈ks.map (·.1)
 ·rw [ZZ (ZY z),ZZ z,S2];refine O7 λ k a=>?_;show putAt d (.bool true) (k.1,k.2,R4 true)=_;unfold putAt;split<;>rfl
 ·rw [Z_ (by rw [ZX z];decide),Z_ z,N1];rfl
theorem vR:(putN ks d b).length<=ks.length + 1:=by
 unfold putN;split
 ·lia
 ·rw [L0];exact o0 _
theorem qS {Q:Unit->A0->Prop} (hu:A.units + 9 < ZD) (I:Inv X pins σ H s) (ha:H a=some (cc a ks)) (h:jf X.K H a ks) (hl:ks.length < ZE) (hk:bK d=true) (hd:d.depth<=7) (hb:dy X.K H d (.ref b)) (q :∀s',Inv X pins σ (upd H a (cc a (putN ks d b))) s'->Q () s'):W0 (B1 X.prog X.w) A (setItem (.ref a) (.ref b) (.bool true)) Q E s:=by
 obtain ⟨B,i,G,_,v⟩:=uR I h;refine wpAny_setItem_heap (knd:=uG X.prog X.w) (hsz:=by rw [D0];exact i) (show A.units + 1 + 8 < ZD by lia) (ko I hk hd hb) v λ M g y=>q _ ?_;rw [Dm] at g;obtain ⟨o,n,j,c,r,l,m,_,f⟩:=g;have t:n=((putN ks d b).map nv).toArray:=by apply Array.ext';rw [m,S2];rfl
 subst t;refine sU I (by rw [ha];exact True.intro) y ⟨o,c⟩ ⟨⟨B,by have:=vR (ks:=ks) (d:=d) (b:=b);lia,?_,j,o,c,r,l⟩,⟨o,c⟩,λ J L p k=>?_⟩
 ·rw [S2] at f;exact f
 ·obtain ⟨D,F,x,z,e,C,u⟩:=p;exact ⟨D,F,x,z,e,k e C,u⟩
end
def rM:TE:=λ _ H Q=>∀p,H p=none->Q (.ref p) (upd H p (cc p []))
def Av (K:c0) (neg:Bool):R2:=λ y x H Q=>∃a b ks d,x=.ref a/\y=.ref b/\jf K H a ks/\bK d=true/\d.depth<=7/\dy K H d (.ref b)/\Q (.bl (xor neg (decide (d∈ks.map (·.1))))) H
def tF (K:c0) (td ty tv:TE):TS:=λ D σ H=>tv σ H λ v H1=>td σ H1 λ x H2=>ty σ H2 λ y H3=>∃a b ks d,v=.bl true/\x=.ref a/\y=.ref b/\H3 a=some (cc a ks)/\jf K H3 a ks/\ks.length < ZE/\bK d=true/\d.depth<=7/\dy K H3 d (.ref b)/\D.nx σ (upd H3 a (cc a (putN ks d b)))
variable {pos:ZO}
section
def Di {P:ZI} (h:ZL) (hb:T3 < h.objs.size):bb P w H (h.push { cls:=.type "dict",data:=.dict #[] }) h.objs.size (cc h.objs.size []):=by refine ⟨⟨beq_eq_false_iff_ne.mpr (F4 (P1 hb)),J1 _,List.nodup_nil,0,_,j1 _ rfl,⟨rfl,rfl,rfl⟩,rfl⟩,⟨_,j1 _ rfl⟩,λ i j p k=>?_⟩;obtain ⟨d,e,b,f,a,c,g⟩:=p;exact ⟨d,e,b,f,a,k a c,g⟩
def EO:PE X (.Dict [] [] pos) rM:=λ b s σ H Q I h=>wpAny_Dict_empty ⟨.ref s.heap.objs.size,_,I.laid (a:=s.heap.objs.size) (o:=cc s.heap.objs.size []) (t':=s.toks) (λ _ _ q=>B0 _ q) (o0 _) (Di s.heap I.big),rfl,h _ (I.hok.fresh (o0 _))⟩
theorem CH {k:Nat} (hr:bL k X.A):ei X (T2 .NotIn) (Av X.K true):=by intro o s σ H y x u v Q I e i h;obtain ⟨a,b,p,d,rfl,rfl,f,g,l,c,q⟩:=h;cases e;cases i;have t:=hr.units;obtain ⟨m,n,r,_,j⟩:=uR I f;refine wpAny_notIn_heap (knd:=uG X.prog X.w) (show X.A.units + 1 + 8 < ZD by lia) (ko I g l c) m j ?_;rw [ox];rw [Bool.true_xor] at q;exact ⟨.bl _,H,I.tok _,rfl,q⟩
theorem Al {o i value:ZM} {pos':ZO} {td ty tv:TE} {k:Nat} (hr:bL k X.A) (ho:PE X o td) (hi:PE X i ty) (hv:PE X value tv) (hs:M7 value (some (.Subscript o i pos')) pos.line X.env=Y1 false) :
  PS X (.Assign [.Subscript o i pos'] value pos) (tF X.K td ty tv):=by
 intro c s σ H D I h;refine wpAny_Assign_Subscript (ba (hv c s σ H _ I h) λ r f ⟨v,H1,I1,rv,q1⟩=>ba (ho c f σ H1 _ I1 q1) λ u g ⟨x,H2,I2,rx,q2⟩=>ba (hi c g σ H2 _ I2 q2) λ j m zz=>?_) hs;obtain ⟨y,H3,I3,ry,a,b,ks,d,ev,ex,ey,h0,h1,h2,h3,h4,h5,q3⟩:=zz;subst ev ex ey;obtain rfl:u=P0 a:=rx;obtain rfl:j=P0 b:=ry;obtain rfl:r=R4 true:=rv;have l:=hr.units;exact qS '%' I3 h0 h1 h2 h3 h4 h5 λ n e=>⟨σ,_,e,q3⟩
end
def hB (h:ZL) (v:ZF) (d:ZJ):Prop:=bK d=true/\d.depth<=7/\(∃xs ys,d=.tuple (.tuple xs :: ys))/\∃as,j47 h v d as
variable {v:ZF}
def hB.kept {h':ZL} {c:ZR} {oc:ZP} (q:hB h v d) (e:h.get? c=some oc) (nc:oc.cls≠.type "tuple") (k :∀b o,b≠c->h.get? b=some o->h'.get? b=some o):hB h' v d:=by obtain ⟨f,m,i,g,j⟩:=q;exact ⟨f,m,i,g,xD (λ b o p n a l _=>k b o (λ z=>by rw [z,e] at a;cases a;exact nc l) a) d v g f j⟩
variable {P:b7->A0->Prop}
section
theorem BR {c:Bool} :∀(ds es:List ZJ) (vs us:List ZF) (as bs:List ZR) (i:Nat) (b fin:Bool) (Q:Bool->A0->Prop),(c && i == 0)=false->bE ds=true->bE es=true->Y7 s.heap vs ds as->Y7 s.heap us es bs->dA ds es=some b->fin=decide (ds.length < es.length)->A.units + D2 ds + 1 < ZD->Q b s->PySem.W.KatLex prog w A c fin Q (vs.zip us) i s
 | [],es,vs,us,as,bs,i,b,fin,Q,_,_,_,r,_,h,hf,_,q=>by cases r;rw [List.zip_nil_left];cases (show some (decide (0 < es.length))=some b from h);exact PySem.W.kat_nil (by rw [hf];exact q)
 | d :: ds,es,vs,us,as,bs,i,b,fin,Q,hc,a,f,r,r2,h,hf,g,q=>by
  cases es with
  | nil=>cases r2;rw [List.zip_nil_right];cases (show some false=some b from h);exact PySem.W.kat_nil (by rw [hf];exact q)
  | cons e es=>
   have a:=Bool.and_eq_true_iff.mp (show (bK d && bE ds)=true from a);have f:=Bool.and_eq_true_iff.mp (show (bK e && bE es)=true from f);have g:A.units + max d.depth (D2 ds) + 1 < ZD:=g;cases r with
   | @cons v vs _ _ as as' a1 a2=>
    cases r2 with
    | @cons u us _ _ bs bs' b1 b2=>
     have h:(if d=e then dA ds es else eg d e)=some b:=h;rw [a8];refine PySem.W.kat_cons (R8 d e A s v u as bs a1 b1 (oH d a.1) (oH e f.1) (by have:=U9 d.depth e.depth;lia) prog w _ _ ?_);rw [xG (p:=d=e) (qd d a.1) (qd e f.1) Iff.rfl];by_cases z:d=e
     ·rw [ZZ z] at h;rw [ZY z];exact PySem.W.kat_yes (BR ds es vs us as' bs' (i + 1) b fin Q (by simp) a.2 f.2 a2 b2 h (by rw [hf];simp) '%' q)
     ·rw [Z_ z] at h;rw [ZX z];refine PySem.W.kat_no ?_;rw [hc,oneLt'_eq];simp only [S6,m3,if_false];exact j0 (ng d e v u as bs b A s _ a.1 f.1 a1 b1 h '%' (G0 q))
theorem QZ {z:ZF} {e:ZJ} {b:Bool} (hx:hB s.heap v d) (hy:hB s.heap z e) (h:eg d e=some b) (hu:A.units + 9 < ZD) (q:Q b s):W0 (B1 prog w) A (keyLt' (tuples' false) v z) Q E s:=by
 obtain ⟨i,c,⟨l,k,rfl⟩,t,f⟩:=hx;obtain ⟨g,m,⟨p,r,rfl⟩,bs,j⟩:=hy;cases f with
 | @tuple a o vs n _ _ e1 e2 e3 e4=>
  cases j with
  | @tuple a' o' vs' n' _ _ f1 f2 f3 f4=>have c:D2 (.tuple l :: k) + 1<=7:=c;refine PySem.W.kat_lt e1 e3 f1 f3 (BR _ _ _ _ _ _ 0 b _ Q rfl i g e4 f4 h ?_ '%' q);rw [<-qm e4,<-qm f4,O0,O0]
theorem FL:∀{vs:List ZF} {ds:List ZJ},av (λ v d=>hB h v d) vs ds->∃fs,j29 h vs fs/\fs.length=vs.length/\∀f∈fs,PySem.W.Looks (B1 prog w) h (typeOf f) (.type "tuple")
 | _,_,.nil=>⟨[],trivial,rfl,λ _ h=>ZU h u0⟩
 | _,_,.cons a r=>by
  obtain ⟨fs,i,m,e⟩:=FL r;obtain ⟨_,_,⟨u,t,rfl⟩,p,c⟩:=a;cases c with
  | @tuple a o vs n _ _ e1 e2 e3 e4=>
   generalize hl:vs.toList=l at e4;cases e4 with
   | @cons f l _ _ _ _ r1 r2=>
    have j:vs[0]? = some f:=by rw [<-V2,hl];rfl
    refine ⟨f :: fs,j28 e1 e2 e3 j i,by rw [U0,U0,m],λ g b=>?_⟩;rcases List.mem_cons.mp b with rfl|b
    ·cases r1 with
     | tuple g1 g2 g3 g4=>exact λ A Q E s k q=>j07 (T:="tuple") ⟨_,k _ _ g1,g2⟩ q
    ·exact e g b
theorem Nn {a:ZR} {n0:Nat} (ho:s.heap.get? a=some (W2 "list" vs.toArray n0)) (sz:vs.length<=ZE) (al:av (λ v d=>hB s.heap v d) vs ds) (nd:ds.Nodup) (cm :∀d∈ds,∀e∈ds,d≠e->(eg d e).isSome=true) (hu:A.units + 9 < ZD)
  (h :∀(h':ZL) (e:Nat),(∀b o,b≠a->s.heap.get? b=some o->h'.get? b=some o)->h'.get? a=some (W2 "list" ((b_ ds).map λ i=>vs.getD i Value.none).toArray e)->P (.done (.ret .none)) { s with heap:=h' }) :
  W0 (B1 prog w) A (D9.«list.sort» ⟨[.ref a],[]⟩) P E s:=by
 have t:ds.length=vs.length:=cD al;have Z:a < s.heap.objs.size:=V0 ho;obtain ⟨u,J⟩ :∃u,(s.heap.update a (C2 λ _=>(#[]:Array ZF))).get? a=some (W2 "list" #[] u):=⟨_,j8 ho λ _=>#[]⟩
 rw [list_sort_plain];refine j0 (listItems_at ho rfl (j0 (O6 ho rfl (j0 (j1e J rfl (j0 (wpAny_newTuple (j0 (Q7 (y4 ?_) (J1 _))) (by simpa using sz))))) (by simpa using sz) (J1 _))));dsimp only;generalize hh3:((s.heap.update a (C2 λ _=>(#[]:Array ZF))).push (W2 "tuple" vs.toArray 0)).push (W2 "list" #[] 0)=h3;have X:=F3 s.heap a (C2 λ _=>(#[]:Array ZF));have F :∀b o,b≠a->s.heap.get? b=some o->h3.get? b=some o:=λ b o n e=>by rw [<-hh3];exact B0 _ (B0 _ ((X.2 b n).trans e))
 have l:h3.get? a=some (W2 "list" #[] u):=by rw [<-hh3];exact B0 _ (B0 _ J)
 have r:av (λ v k=>hB h3 v k) vs ds:=bG (λ _ _ z=>z.kept ho (show C6 "list"≠.type "tuple" by decide) F) al;have y :∀(g:Array ZF),g=((b_ ds).map λ i=>vs.getD i Value.none).toArray->P (.done (.ret .none)) { s with heap:=h3.update a (C2 λ _=>g) }:=λ g f=>by
  obtain ⟨p,C⟩ :∃p,(h3.update a (C2 λ _=>g)).get? a=some (W2 "list" g p):=⟨_,j8 l λ _=>g⟩
  rw [f] at C⊢;exact h _ p (λ b o n e=>(B9 _ _ (F4 n)).trans (F b o n e)) C
 have D:((b_ ds).map λ i=>vs.getD i Value.none).toArray.size<=ZE + 1:=by rw [M0,D0,(nI ds).length_eq,B2,t];exact C0 sz (S3 _)
 by_cases c:vs.toArray.size < 2
 ·rw [ZZ c];have H:vs.length < 2:=by simpa using c
  have V:(L1 vs.length).map (λ i=>vs.getD i Value.none)=vs:=by
   apply d7
   ·simp
   ·intro i M c;simp [A1,F0 c]
  have O:b_ ds=L1 vs.length:=by unfold b_;rw [ZZ '%',t]
  refine j0 (G0 ?_);rw [ZZ c];refine (show W0 _ _ (Y1 ((),C5 general' (vs.toArray.zip vs.toArray) #[] 7 none) >>= _) _ _ _ from j0 (G0 ?_));dsimp only;have f:W8 (λ x=>x.snd) (j1i (C5 general' (vs.toArray.zip vs.toArray) #[] 7 none))=((b_ ds).map λ i=>vs.getD i Value.none).toArray:=by
   rw [O,V];show W8 (λ x=>x.snd) (vs.toArray.zip vs.toArray)=vs.toArray;apply Array.ext
   ·simp
   ·intro i M c;simp
  refine j0 (j1e l rfl (j0 (O6 l rfl ?_ (J1 _) ?_)))
  ·simp only [bne_self_eq_false,m3,if_false];exact G0 (y _ f)
  ·rw [f];exact D
 ·rw [Z_ c];have H:2<=vs.length:=by simpa using Nat.not_lt.mp c
  obtain ⟨fs,N,lf,S⟩:=FL (prog:=prog) (w:=w) r;refine j0 (PySem.W.kat_kind (T:=.type "tuple") N '%' S '!' ?_);rw [Z_ c];rw [show (C6 "tuple" != C6 "tuple")=false by decide];have G :∀i,i < vs.length->hB h3 (vs.getD i Value.none) (ds.getD i .none):=λ i m=>by have B:ds[i]? = some (ds[i]'(by lia)):=F0 '%';obtain ⟨v,L,z⟩:=fJ r B;rw [A1,A1,L,B];exact z
  refine j0 (HW (s:={ s with heap:=h3 }) rfl t H cm (λ d K=>?_) (λ i j b m R U Q E' q=>QZ (s:={ s with heap:=h3 }) (G i m) (G j R) U hu q) λ Y I f=>?_)
  ·obtain ⟨i,m⟩:=List.mem_iff_getElem?.mp K;obtain ⟨_,_,z⟩:=fJ r m;exact z.1
  dsimp only at I f⊢;refine j0 (j1e l rfl (j0 (O6 l rfl ?_ (J1 _) ?_)))
  ·rw [I];simp only [bne_self_eq_false,m3,if_false];exact G0 (y _ f)
  ·rw [f];exact D
end
section
theorem mQ {acc:Array ZF} (i1:acc.size=ks.length) (i2 :∀(j:Nat) (v:ZF),acc[j]? = some v->∃e,(ks.map nv).toArray[j]? = some e/\v=e.key):acc.toList=ks.map λ k=>P0 k.2:=by
 apply K8;intro j;by_cases hj:j < ks.length
 ·have a:j < acc.size:=by rw [i1];exact hj
  obtain ⟨e,b,c⟩:=i2 j _ (W1 a);rw [V2,W1 a,Z0,c];rw [W9,Z0,F0 hj] at b;rw [F0 hj];cases b;rfl
 ·rw [L4 (by rw [O0,i1];lia),L4 (by rw [D0];lia)]
def Do:∀p:List Nat,(∀i∈p,i < ks.length)->aI (p.map λ i=>V.ref (ks.getD i (.none,0)).2) (p.map λ i=>(ks.map λ k=>P0 k.2).getD i Value.none):=by
 intro p;induction p with
 | nil=>intro _;exact .nil
 | cons i p ih=>intro a;refine .cons ?_ (ih λ j c=>a j (.tail _ c));have b:=a i (.head _);show RelV (V.ref (ks.getD i (.none,0)).2) ((ks.map λ k=>P0 k.2).getD i Value.none);rw [A1,A1,Z0,F0 b];rfl
theorem KQ {k:Nat} (hr:bL k X.A):ck X (.builtin "sorted") (λ xs H Q=>∃a ks,xs=[.ref a]/\jf X.K H a ks/\(∀k∈ks,∃xs ys,k.1=.tuple (.tuple xs :: ys))/\(∀k∈ks,∀k'∈ks,k.1≠k'.1->(eg k.1 k'.1).isSome=true)/\
  ∀l:ZR,H l=none->Q (.ref l) (upd H l (.lst ((b_ (ks.map (·.1))).map λ i=>V.ref (ks.getD i (.none,0)).2)))):=by
 intro M s σ H xs us Q I rv h;obtain ⟨a,ks,rfl,D,tt,P,q⟩:=h;obtain ⟨u,rfl,U⟩:=vals1 rv;cases U;have a1:=hr.units;obtain ⟨g1,g,O,⟨ep,g4⟩,_⟩:=uR I D;have B:(ks.map nv).toArray.size=ks.length:=by rw [M0,D0]
 refine u8 j43 j34 j36 (args_sorted1 _) ?_;unfold D9.«sorted»;refine j0 (m:=j5e "sorted" 1 1 _) (G0 (j0 (j02 (lQ g1) (show X.A.in1.handled=none from hr.hd) g4 (by rw [B];exact g) λ c j a0 k1 y=>?_)));have Y:a0.toList=ks.map λ k=>P0 k.2:=mQ (y.1.trans B) y.2;rw [Y];have w:Inv X M σ H { s with heap:=c,toks:=j }:=I.kept (t':=j) k1;have F:(c.push (W2 "list" (ks.map λ k=>P0 k.2).toArray 0)).get? c.objs.size=some (W2 "list" (ks.map λ k=>P0 k.2).toArray 0):=j1 _ rfl;have S :∀(h:ZL),(∀b o,c.get? b=some o->h.get? b=some o)->∀l:List (ZJ×ZR),(∀k∈l,k∈ks)->av (λ v d=>hB h v d) (l.map λ k=>P0 k.2) (l.map (·.1)):=λ h t l=>by
  induction l with
  | nil=>intro _;exact .nil
  | cons k l ih=>intro f;obtain ⟨E,J,n3⟩:=D.2 k (f k R0);obtain ⟨T,r⟩:=oy w k.1 (.ref k.2) (.ref k.2) n3 rfl;exact .cons ⟨E,J,tt k (f k R0),T,xD (λ b o vs n e _ _=>t b o e) _ _ _ E r⟩ (ih λ x hx=>f x (Y0 _ hx))
 have C:(ks.map λ k=>P0 k.2).length=ks.length:=D0 ..;refine j0 (Q7 (j0 (y4 (X3 j1d ⟨_,F,rfl⟩ j0i (Nn (s:={ s with heap:=c.push (W2 "list" (ks.map λ k=>P0 k.2).toArray 0),toks:=j }) (ds:=ks.map (·.1)) F (by rw [C];exact g) (S _ (λ b o e=>B0 _ e) ks λ _ h=>h) O (λ d G e he Z=>?_) (show X.A.units + 1 + 1 + 9 < ZD by lia) λ h' e t f=>⟨_,rfl,?_⟩) (j5g _)))) (by rw [C];exact g))
 ·obtain ⟨k,L,rfl⟩:=List.mem_map.mp G;obtain ⟨k',R,rfl⟩:=List.mem_map.mp he;exact P k L k' R Z
 have W :∀b o,c.get? b=some o->h'.get? b=some o:=λ b o z=>t b o (P1 (V0 z)) (B0 _ z);have p:=nI (ks.map (·.1));rw [D0] at p;refine G0 ⟨_,rfl,.ref c.objs.size,_,w.laid (t':=j) (o:=.lst ((b_ (ks.map (·.1))).map λ i=>V.ref (ks.getD i (.none,0)).2)) W (o0 _) ⟨?_,_,e,Do _ (λ i N=>List.mem_range.mp (p.mem_iff.mp N)),f⟩,rfl,q _ (w.hok.fresh (o0 _))⟩;rw [D0,p.length_eq,B2];exact g
end
noncomputable def yx (a:ZR) (ob:ZP) (ks:List (ZJ×ZR)):It:=
 ⟨λ i H=>H a=some (.frz ob (cc a ks))/\i < ks.length,λ i H x H'=>H'=H/\∃k,ks[i]? = some k/\x=.ref k.2,λ i H=>H a=some (.frz ob (cc a ks))/\ks.length<=i⟩
variable {ob:ZP}
def CK {a:ZR} (I:Inv X pins σ H s) (hob:ob.data=.dict es ep) (e:H a=some (.frz ob (cc a ks))) :
  iy s.heap a (ks.map nv).toArray ep:=by
 obtain ⟨b,⟨_,_,_,g,o,d,f,c⟩,_⟩:=(show bb X.prog X.w H s.heap a (.frz ob (cc a ks)) from I.hok a _ e)
 rw [b] at d;cases d;rw [hob] at c;cases c;exact ⟨ob,b,f,hob⟩
def vI (ks:List (ZJ×ZR)):(ks.map nv).toArray.size=ks.length:=by rw [M0,D0]
variable {tg:ZM}
def PJ {P:ZI} {a it:ZR} (hob:ob.data=.dict es ep):Turn P w K tg (yx a ob ks) [it] it (λ i h=>h.IsKeyIter it a i ks.length ep) where
 mem:=by simp
 obj:=λ i h f b g=>by
  obtain rfl:b=it:=by simpa using g
  obtain ⟨o,e,c,d⟩:=f;exact ⟨o,e,λ v z=>by rw [d] at z;cases z⟩
 keep:=λ i h l f k=>by obtain ⟨o,e,r⟩:=f;exact ⟨o,k it (by simp) o e,r⟩
 item:=by intro X F n m L i J s σ H E I j f x;subst F n m;obtain ⟨B,t⟩:=x;have u:=CK I hob B;obtain ⟨q,A,M,D,C,y⟩:=j it (by simp);have G:ks[i]? = some ks[i]:=F0 t;rw [<-vI ks] at f;refine DW (e:=nv ks[i]) f u (by rw [W9,Z0,G];rfl) λ l p O=>?_;have Q:Inv X J σ H { s with heap:=l }:=I.turned (t':=s.toks) (λ b o g e=>(O.2 b g).trans e) q A D C y;obtain ⟨o,e,c,d⟩:=id p;rw [vI ks] at p;exact ⟨_,rfl,ji (s:={ s with heap:=l }) e c d '!' ⟨.ref ks[i].2,H,Q,rfl,⟨rfl,_,G,rfl⟩,p,λ b g=>(j b g).1⟩⟩
 done:=by intro X F n m L i J s σ H E I j f x;subst F n m;obtain ⟨B,t⟩:=x;have u:=CK I hob B;obtain ⟨q,A,M,D,C,y⟩:=j it (by simp);rw [<-vI ks] at f;exact mN (I.ok.hd L) f u (j51 (by rw [vI];exact t)) λ l N=>⟨rfl,I.turned (t':=s.toks) (λ b o g e=>N b o g e) q A D C y⟩
 self:=λ _ _ _ _ _ f h=>wpAny_pyIter_keyiter f h
def mI (td:TE):TI:=λ σ H R=>td σ H λ x H1=>∃a ks,x=.ref a/\H1 a=some (cc a ks)/\∀ob,R (yx a ob ks) (upd H1 a (.frz ob (cc a ks)))
variable {to:TE}
def QU {o:ZM} (ho:PE X o to):PI X tg o (mI to):=by
 intro g s σ H R I h;refine ba (ho g s σ H _ I h) λ v c zz=>?_;obtain ⟨x,H1,I1,r1,a,ks,ex,ea,q⟩:=zz;subst ex;cases r1;obtain ⟨⟨j,k,p,m,d⟩,t,r⟩:=(show bb X.prog X.w H1 c.heap a (cc a ks) from I1.hok a _ ea)
 obtain ⟨i,y,A,n⟩:=id d;have l :∀o w,X.H₀ a≠some (.frz o w):=λ o w q=>by have z:=I1.base.frzs a o w q;rw [ea] at z;cases z
 have f:Inv X g σ (upd H1 a (.frz i (cc a ks))) c:=I1.retold ea (λ _ z=>by cases z) (λ _ z=>by cases z) (λ _ z=>by cases z) l ⟨y,⟨j,k,p,m,d⟩,t,r⟩;refine CW j d ?_;refine ⟨c.heap.objs.size,[c.heap.objs.size],_,_,_,rfl,f.kept (t':=c.toks) λ b o e=>B0 _ e,PJ n,⟨_,j1 _ rfl,rfl,by rw [vI];rfl⟩,λ b u=>?_,q i⟩;obtain rfl:b=c.heap.objs.size:=by simpa using u
 exact f.fpOk (o0 _) (f.hok.fresh (o0 _))
noncomputable def mJ (a:ZR) (n:Nat):It:=
 ⟨λ i H=>i < n/\∃xs,H a=some (.lst xs)/\xs.length=n,λ i H x H'=>H'=H/\∀xs,H a=some (.lst xs)->xs[n - 1 - i]? = some x,λ i H=>i=n⟩
theorem PP {P:ZI} (a it:ZR) (n:Nat):Turn P w K tg (mJ a n) [it] it (λ i h=>h.IsRevIter it a ((n:Int) - 1 - (i:Nat))) where
 mem:=by simp
 obj:=λ i h f b g=>by
  obtain rfl:b=it:=by simpa using g
  obtain ⟨o,e,c,d⟩:=f;exact ⟨o,e,λ v z=>by rw [d] at z;cases z⟩
 keep:=λ i h m f k=>by obtain ⟨o,e,r⟩:=f;exact ⟨o,k it (by simp) o e,r⟩
 item:=by
  intro X A t q O i L s σ H E I l f j;subst A t q;obtain ⟨hi,M,J,hx⟩:=j;obtain ⟨Z,N,p,hz⟩:=I.list (aH.of J);obtain ⟨y,C,S,F,D,B⟩:=l it (by simp);have Y:=N.length;have lt:n - 1 - i < M.length:=by lia
  obtain ⟨u,R,Q⟩:=N.get (F0 lt);rw [show (n:Int) - 1 - (i:Nat)=((n - 1 - i:Nat):Int) by lia] at f;refine wpAny_pyNext_rev_item f p.isList (by simpa using R) λ m x U=>?_;have V:Inv X L σ H { s with heap:=m }:=I.turned (t':=s.toks) (λ b o g e=>(U.2 b g).trans e) y C F D B;obtain ⟨o,e,c,d⟩:=id x;rw [show ((n - 1 - i:Nat):Int) - 1=(n:Int) - 1 - ((i + 1:Nat):Int) by lia] at x;refine ⟨_,rfl,ji (s:={ s with heap:=m }) e c d '!' ⟨M[n - 1 - i],H,V,Q,⟨rfl,λ W G=>?_⟩,x,λ b g=>(l b g).1⟩⟩;rw [J] at G;cases G;exact F0 lt
 done:=by intro X A t q O i L s σ H E I l f j;subst A t q;obtain ⟨y,C,S,F,D,B⟩:=l it (by simp);have j:i=n:=j;rw [show (n:Int) - 1 - (i:Nat)=-1 by lia] at f;exact wpAny_pyNext_rev_end (I.ok.hd O) f λ m T=>⟨rfl,I.turned (t':=s.toks) (λ b o g e=>T b o g e) y C F D B⟩
 self:=λ _ _ _ _ _ f h=>wpAny_pyIter_revIter f h
def wg (tl:TE):TI:=λ σ H R=>tl σ H λ x H1=>∃a xs,x=.ref a/\H1 a=some (.lst xs)/\R (mJ a xs.length) H1
variable {e:ZM}
theorem MK {te:TE} {p2 c2:ZO} (g2:Gl X "reversed") (m2:X.mg "reversed" = none) (ha:PE X e te) (he:S1 [e] X.env=[(false,U3 e X.env)]:=by rfl):PI X tg (.Call (.Name "reversed" p2) [e] [] c2) (wg te):=by
 intro k s σ H R I h;refine Call_ (fo I g2 m2 boot_reversed (o4 ?_ he rfl));rw [he];refine (show W0 _ _ (spliced ((false,U3 e X.env) :: [])) _ _ s from E6 (ba (ha k s σ H _ I h) λ u c zz=>?_));obtain ⟨x,H1,I1,r1,a,xs,ex,sq,q⟩:=zz;subst ex;cases r1;refine z8 ?_;obtain ⟨d,i,j,m⟩:=I1.list (aH.of sq);have g:=i.length;refine call_reversed_list j.isList ?_;have f:(c.heap.push (revObj a ((d.toArray.size:Int) - 1))).IsRevIter c.heap.objs.size a ((d.toArray.size:Int) - 1):=⟨_,j1 _ rfl,rfl,rfl⟩
 refine wpAny_pyIter_revIter f ?_;refine ⟨c.heap.objs.size,[c.heap.objs.size],_,_,H1,rfl,I1.kept (t':=c.toks) λ b o e=>B0 _ e,PP a _ _,?_,λ b l=>?_,q⟩
 ·rw [show (xs.length:Int) - 1 - ((0:Nat):Int)=(d.toArray.size:Int) - 1 by rw [M0,<-g];lia];exact f
 obtain rfl:b=c.heap.objs.size:=by simpa using l
 exact I1.fpOk (o0 _) (I1.hok.fresh (o0 _))
theorem Od {a:ZR} {xs:List V} {g:TG} {tb:TS} {D:Ends} (Pv:Nat->St->Hp->Prop) (h0:Pv 0 σ H) (hl :∀i σ H,Pv i σ H->H a=some (.lst xs))
  (hs :∀i x σ H,xs.reverse[i]? = some x->Pv i σ H->g x σ H λ σ2 H2=>tb { D with nx:=Pv (i + 1),ct:=Pv (i + 1),bk:=D.nx } σ2 H2) (hd :∀σ H,Pv xs.length σ H->D.nx σ H) :
  ∃W:Nat->Nat->St->Hp->Prop,(∃m,W 0 m σ H)/\∀i m σ H,W i m σ H->
   ((mJ a xs.length).stop i H/\D.nx σ H)\/((mJ a xs.length).go i H/\∃N:St->Hp->Prop,(∀σ' H',N σ' H'->∃m',m' < m/\W (i + 1) m' σ' H')/\∀x H',(mJ a xs.length).yld i H x H'->g x σ H' λ σ2 H2=>tb { D with nx:=N,ct:=N,bk:=D.nx } σ2 H2):=by
 refine ⟨λ i m σ H=>m=xs.length - i/\i<=xs.length/\Pv i σ H,⟨xs.length,by simp,J1 _,h0⟩,?_⟩;rintro i m σ H ⟨rfl,hi,p⟩;have q:=hl i σ H p;by_cases hlt:i < xs.length
 ·refine .inr ⟨⟨hlt,xs,q,rfl⟩,Pv (i + 1),λ σ' H' b=>⟨xs.length - (i + 1),by lia,rfl,hlt,b⟩,λ x H' y=>?_⟩;obtain ⟨rfl,y⟩:=y;refine hs i x σ _ ?_ p;rw [List.getElem?_reverse hlt];exact y xs q
 ·obtain rfl:i=xs.length:=by lia
  exact .inl ⟨rfl,hd σ H p⟩
section
def Gm {o:ZM} {apos cpos:ZO} (ho:PE X o to) (hbase:M4 o "pop" X.env (U3 o X.env)=U3 o X.env:=by rfl) (hline:(apos.endLine == cpos.line)=true:=by rfl):PE X (.Call (.Attribute o "pop" apos) [] [] cpos) (vA X.K "list" uF to):=
 pC A6 PySem.F.slot_list_pop PySem.F.type_list_pop ri ho hbase hline
def OH {o:ZM} {es:List ZM} {t:TA} {apos cpos:ZO} (ho:PE X o to) (ha:PA X (e :: es) t)
  (hbase:M4 o "extend" X.env (U3 o X.env)=U3 o X.env:=by rfl)
  (hfew:((J4 cpos (S1 (e :: es) X.env)).all (λ x=>!x.1) && (j1h cpos (U7 [] X.env)).all (λ x=>x.1.isSome) && decide ((e :: es).length + ([]:List m7).length + (if ([]:List m7).isEmpty then 0 else 1) < 30))=true:=by rfl)
  (hline:(apos.endLine == cpos.line)=true:=by rfl) (hs:S1 (e :: es) X.env=(false,U3 e X.env) :: S1 es X.env:=by rfl) (hplain:(J4 cpos (S1 es X.env)).any (·.1)=false:=by rfl) :
  PE X (.Call (.Attribute o "extend" apos) (e :: es) [] cpos) (tD X.K "list" CQ to t):=mU A6 PySem.F.slot_list_extend PySem.F.type_list_extend Jy ho ha hbase hfew hline hs hplain
end
section
variable {a b:ZR} 
theorem qp {Q:Unit->A0->Prop} (hu:A.units + 8 < ZD) (I:Inv X pins σ H s) (ha:H a=some (cc a ks)) (h:jf X.K H a ks) (hl:ks.length < ZE) (hk:bK d=true) (hd:d.depth<=7) (hb:dy X.K H d (.ref b)) (q :∀s',Inv X pins σ (upd H a (cc a (putN ks d b))) s'->Q () s'):W0 (B1 X.prog X.w) A (dictSet a (.ref b) (.bool true)) Q E s:=by
 obtain ⟨B,i,G,_,v⟩:=uR I h;refine wpAny_dictSet_heap (knd:=uG X.prog X.w) (hsz:=by rw [D0];exact i) hu (ko I hk hd hb) v λ M g y=>q _ ?_;rw [Dm] at g;obtain ⟨o,n,j,c,r,l,m,_,f⟩:=g;have t:n=((putN ks d b).map nv).toArray:=by apply Array.ext';rw [m,S2];rfl
 subst t;refine sU I (by rw [ha];exact True.intro) y ⟨o,c⟩ ⟨⟨B,by have:=vR (ks:=ks) (d:=d) (b:=b);lia,?_,j,o,c,r,l⟩,⟨o,c⟩,λ J L p k=>?_⟩
 ·rw [S2] at f;exact f
 ·obtain ⟨D,F,x,z,e,C,u⟩:=p;exact ⟨D,F,x,z,e,k e C,u⟩
end
def Md (K:c0) (tk tv:TE):TE:=λ σ H Q=>∀p,H p=none->tk σ (upd H p (cc p [])) λ x H1=>tv σ H1 λ v H2=>∃b d,v=.bl true/\x=.ref b/\H2 p=some (cc p [])/\bK d=true/\d.depth<=7/\dy K H2 d (.ref b)/\Q (.ref p) (upd H2 p (cc p [(d,b)]))
theorem Ka {k v:ZM} {tk tv:TE} (hr:bL n X.A) (hk:PE X k tk) (hv:PE X v tv):PE X (.Dict [some k] [v] pos) (Md X.K tk tv):=by intro c s σ H Q I h;have j:=hr.units;have f:=I.laid (a:=s.heap.objs.size) (o:=cc s.heap.objs.size []) (t':=s.toks) (λ _ _ q=>B0 _ q) (o0 _) (Di s.heap I.big);refine wpAny_Dict_any rfl rfl (by simp) (show 1<=15 by decide) (pairTrees_cons_walk (ba (hk c _ σ _ _ f (h _ (I.hok.fresh (o0 _)))) λ u e ⟨x,H1,I1,rx,q1⟩=>ba (hv c e σ H1 _ I1 q1) λ i m ⟨y,H2,I2,ry,b,d,ev,ex,h0,h1,h2,h3,q2⟩=>pairTrees_nil_walk ?_));subst ev ex;obtain rfl:u=P0 b:=rx;obtain rfl:i=R4 true:=ry;unfold storeAll;rw [A4];refine j0 (j0 (qp '%' I2 h0 ⟨.inl h0,λ k hk=>ZU hk u0⟩ (show 0 < ZE by decide) h1 h2 h3 λ l g=>?_));refine G0 ?_;exact G0 ⟨.ref s.heap.objs.size,_,g,rfl,q2⟩
def IJ {S:Hp->Hp->Prop} {a:ZR} {H1:Hp} (hs :∀H,S H1 H->S H H) (hq :∀H,S H1 H->H a=some (.frz ob (cc a ks))):iq S (yx a ob ks) H1 ks.length (λ i v _=>∃k,ks[i]? = some k/\v=.ref k.2):=
 ⟨λ i b H s=>⟨hq H s,b⟩,λ H s=>⟨hq H s,o0 _⟩,λ i b H v c s y=>by obtain ⟨e,y⟩:=y;subst e;exact ⟨hs _ s,y⟩⟩
def rV {td te:TE} {tc:TT} {g:TG} {fr:List (Nat×ZQ)} {Q:VK} (Pr:ZR->List (ZJ×ZR)->Hp->Prop) (p:List (ZJ×ZR)->Nat->Bool) (R:List (ZJ×ZR)->Nat->V->Prop) (htd :∀T:VK,(∀a ks H1,Pr a ks H1->T (.ref a) H1)->td σ H T) (hp :∀a ks H1,Pr a ks H1->H1 a=some (cc a ks)/\ks.length<=ZE)
  (body :∀a ks H0 ob,Pr a ks H0->∀i k,ks[i]? = some k->∀H1,af (upd H0 a (.frz ob (cc a ks))) H1->∀(KT:VK) (KF:Hp->Prop),(p ks i=true->∀y H',af H1 H'->R ks i y->KT y H')->(p ks i=false->∀H',af H1 H'->KF H')->
   g (.ref k.2) (aL σ fr (A2 m none)) H1 λ σ6 H6=>∃us,us.length=m/\σ6=aL σ fr us/\tc (aL σ fr us) H6 λ b H2=>if b=true then te (aL σ fr us) H2 KT else KF H2)
  (hQ :∀a ks H0 ob l H' ys,Pr a ks H0->af (upd H0 a (.frz ob (cc a ks))) H'->H' l=none->av (R ks) ((L1 ks.length).filter (p ks)) ys->Q (.ref l) (upd H' l (.lst ys))):cH (mI td) m fr g tc te σ H Q:=by
 refine htd _ λ a ks H0 c=>⟨a,ks,rfl,(hp _ _ _ c).1,λ ob=>?_⟩
 refine rX (S:=af) (H1:=upd H0 a (.frz ob (cc a ks))) (fr:=fr) (g:=g) (tc:=tc) (te:=te) (σ:=σ) (m:=m) (af.refl _) (λ _ _ _ a b=>a.trans b) (p ks) (λ i y _=>R ks i y) (λ _ _ _ _ _ z=>z) (IJ (S:=af) (λ _ _=>af.refl _) λ H s=>s _ _ ab) (hp _ _ _ c).2 (λ i r v H1 q e KT KF h o=>?_) λ l H' ys n f d=>hQ a ks H0 ob l H' ys c n f d;obtain ⟨k,j,rfl⟩:=e;exact body a ks H0 ob c i k j H1 q KT KF h o
noncomputable def gg (n:Int) (d:ZJ):ZJ:=.tuple [.int n,d]
def lK {n m:Int} {e:ZJ}:eg (gg n d) (gg m e)=if n=m then (if d=e then some false else eg d e) else some (decide (n < m)):=by
 show (if PyData.int n=.int m then (if d=e then some (decide (0 < 0)) else eg d e) else some (decide (n < m)))=_;by_cases z:n=m
 ·rw [ZZ z,ZZ (by rw [z])];rfl
 ·rw [Z_ z,Z_ λ e=>z (PyData.int.inj e)]
def lU {f:ZJ->Int} (cm:kH ds):kH (ds.map λ d=>gg (f d) d):=λ j b i h a=>by
 obtain ⟨d,g,rfl⟩:=List.mem_map.mp b;obtain ⟨e,c,rfl⟩:=List.mem_map.mp h;have a:d≠e:=λ z=>a (by rw [z]);rw [lK];by_cases z:f d=f e
 ·rw [ZZ z,Z_ a];exact cm d g e c a
 ·rw [Z_ z];rfl
section
def kI (h:ZL) (v:ZF) (d:ZJ):Prop:=bK d=true/\d.depth<=8/\(∃n y,d=gg n y)/\∃as,j47 h v d as
theorem Nm {z:ZF} {e:ZJ} {b:Bool} (hx:kI s.heap v d) (hy:kI s.heap z e) (h:eg d e=some b) (hu:A.units + 10 < ZD) (q:Q b s):W0 (B1 prog w) A (keyLt' (tuples' true) v z) Q E s:=by
 obtain ⟨f,r,⟨n,d,rfl⟩,x,i⟩:=hx;obtain ⟨c,u,⟨m,e,rfl⟩,bs,j⟩:=hy;have f:(bK d && true)=true:=f;have c:(bK e && true)=true:=c;rw [j4e] at f c;have r:max 0 (max d.depth 0) + 1<=8:=r;unfold gg at i j;cases i with
 | @tuple a o vs k _ _ e1 e2 e3 e4=>
  cases j with
  | @tuple a' o' vs' k' _ _ f1 f2 f3 f4=>
   have sz:decide (vs.size < vs'.size)=false:=by have g:=qm e4;have t:=qm f4;rw [O0] at g t;rw [g,t];rfl
   refine PySem.W.kat_lt e1 e3 f1 f3 ?_;rw [sz];generalize vs.toList=l at e4;generalize vs'.toList=l' at f4;cases e4 with
   | cons r1 r2=>
    cases r1;cases f4 with
    | cons t1 t2=>
     cases t1;rw [a8];refine PySem.W.kat_cons (R8 (.int n) (.int m) A s _ _ _ _ (.int _ _) (.int _ _) rfl rfl (by show A.units + min 0 0 < ZD;lia) prog w _ _ ?_);rw [xG (p:=PyData.int n=.int m) rfl rfl Iff.rfl];have h:(if PyData.int n=.int m then dA [d] [e] else eg (.int n) (.int m))=some b:=h;by_cases z:PyData.int n=.int m
     ·rw [ZZ z] at h;rw [ZY z];exact PySem.W.kat_yes (BR [d] [e] _ _ _ _ _ b _ Q (by simp) (by show (bK d && true)=true;rw [f];rfl) (by show (bK e && true)=true;rw [c];rfl) r2 t2 h rfl (by show A.units + max d.depth 0 + 1 < ZD;lia) q)
     ·rw [Z_ z] at h;rw [ZX z];cases (show some (decide (n < m))=some b from h);exact PySem.W.kat_no (oneLt_int q)
theorem Ek:∀{vs:List ZF} {ds:List ZJ},av (λ v d=>kI h v d) vs ds->∃fs,j29 h vs fs/\fs.length=vs.length/\∀f∈fs,PySem.W.Looks (B1 prog w) h (typeOf f) (.type "int")
 | _,_,.nil=>⟨[],trivial,rfl,λ _ h=>ZU h u0⟩
 | _,_,.cons a r=>by
  obtain ⟨fs,i,m,e⟩:=Ek r;obtain ⟨_,_,⟨n,y,rfl⟩,p,c⟩:=a;unfold gg at c;cases c with
  | @tuple a o vs k _ _ e1 e2 e3 e4=>
   generalize hl:vs.toList=l at e4;cases e4 with
   | @cons f l _ _ _ _ r1 r2=>
    have j:vs[0]? = some f:=by rw [<-V2,hl];rfl
    refine ⟨f :: fs,j28 e1 e2 e3 j i,by rw [U0,U0,m],λ g b=>?_⟩;rcases List.mem_cons.mp b with rfl|b
    ·cases r1;exact λ A Q E s k q=>j07 (T:="int") (typeIs_int s _ _) q
    ·exact e g b
end
theorem CI {α β:Type} {R:α->β->Prop} {x:α} {y:β} (h:R x y) :∀{xs:List α} {ys:List β},av R xs ys->av R (xs++[x]) (ys++[y])
 | _,_,.nil=>.cons h .nil
 | _,_,.cons a r=>.cons a (CI h r)
section
def Inv.track {a:ZR} {o:HO} (I:Inv X pins σ H s) (hf:fG X pins H a) (new:bb X.prog X.w (upd H a o) s.heap a o):Inv X pins σ (upd H a o) s:=by
 have h:=hf.1;have f :∀b u,H b=some u->upd H a o b=some u:=λ b u e=>by rw [ak (fK e h)];exact e
 refine I.step (h':=s.heap) (t':=s.toks) (g':=s.gens) (d':=s.drawn) (ch:=[a]) (λ b d=>?_) (λ b o _ _ _ e _=>e) (λ b o _ _ _ e _=>⟨o.slots,e⟩) (λ b u d e n=>?_) (λ b o _ e=>⟨o,e⟩) (λ _ _ e=>f _ _ e) (λ _ _ _ e=>f _ _ e) (λ b i e=>⟨#[],by rw [f _ _ e];simp⟩) (λ m g=>g) (λ b u e=>?_) I.bare
 ·cases List.mem_singleton.mp d;exact ⟨hf.2.2.2.1,hf.2.1,hf.2.2.2.2.1,hf.2.2.2.2.2⟩
 ·rw [ak λ z=>d (List.mem_singleton.mpr z)];exact n
 ·by_cases d:b=a
  ·subst d;rw [ab] at e;cases e;exact new
  ·rw [ak d] at e;exact (I.hok b u e).stay (λ c v _ q=>q) (λ c q=>f _ _ q) λ c j q=>f _ _ q
theorem On {a kS:ZR} {keys:Array ZF} {e e1:Nat}
  (I:Inv X pins σ H s) (fa:fG X pins H a) (fk:fG X pins H kS) (hka:kS≠a) (ek:s.heap.get? kS=some (W2 "list" keys e)) (ea:s.heap.get? a=some (W2 "list" #[] e1))
  (hk:av (λ v d=>kI s.heap v d) keys.toList ds) (lk:ds.length=vs.length) (cm:kH ds) (sz:vs.length<=ZE) (hu:A.units + 10 < ZD)
  (h :∀h' tk c,Inv X pins σ H { s with heap:=h',toks:=tk }->h'.get? a=some (W2 "list" ((b_ ds).map λ i=>vs.getD i Value.none).toArray c)->P (.done (.ret .none)) { s with heap:=h',toks:=tk }) :
  W0 (B1 X.prog X.w) A (ksk_end a false vs.toArray e1 (.ref kS) keys) P E s:=by
 have u:keys.toList.length=vs.length:=(cD hk).symm.trans lk;have C:keys.size=vs.length:=by rw [<-O0];exact u
 have O:((b_ ds).map λ i=>vs.getD i Value.none).toArray.size<=ZE + 1:=by rw [M0,D0,(nI ds).length_eq,B2,lk];exact C0 sz (S3 _)
 have t :∀f:Zz,failedOf f=none->W8 (λ x=>x.snd) (j1i f)=((b_ ds).map λ i=>vs.getD i Value.none).toArray->W0 (B1 X.prog X.w) A (ksk_tail a false e1 (.ref kS) f) P E s:=by
  intro f Z l;have F:=F3 s.heap kS (C2 λ _=>(#[]:Array ZF));have r:(s.heap.update kS (C2 λ _=>(#[]:Array ZF))).get? a=some (W2 "list" #[] e1):=(F.2 a hka.symm).trans ea;have V:=F3 (s.heap.update kS (C2 λ _=>(#[]:Array ZF))) a (C2 λ _=>(j1i f).map (·.2));obtain ⟨p,L⟩ :∃p,((s.heap.update kS (C2 λ _=>(#[]:Array ZF))).update a (C2 λ _=>(j1i f).map (·.2))).get? a=some (W2 "list" ((j1i f).map (·.2)) p):=
   ⟨_,j8 r λ _=>(j1i f).map (·.2)⟩
  unfold ksk_tail
  try dsimp only
  refine j0 (O6 ek rfl ?_ (by rw [C];exact C0 sz (o0 _)) (J1 _));refine j0 (wpAny_letGo ?_);refine j0 (j1e r rfl ?_);refine j0 (O6 r rfl ?_ (J1 _) (by show ((j1i f).map (·.2)).size<=_;rw [l];exact O));rw [Z];simp only [bne_self_eq_false,m3,if_false];have J:=I.turnedL (fp:=[kS,a]) (h':=(s.heap.update kS (C2 λ _=>(#[]:Array ZF))).update a (C2 λ _=>(j1i f).map (·.2))) (t':=s.toks) (λ b o k q=>(V.2 b λ z=>k (z ▸ .tail _ (.head _))).trans ((F.2 b λ z=>k (z ▸ .head _)).trans q)) (λ b k=>by
   rcases List.mem_cons.mp k with rfl|k
   ·exact fk
   ·rw [List.mem_singleton.mp k];exact fa)
  exact G0 (h _ _ p J (l ▸ L))
 unfold ksk_end
 try dsimp only
 rw [Z_ N0];by_cases g:vs.toArray.size < 2
 ·rw [ZZ g,ZZ g];have D:vs.length < 2:=by simpa using g
  refine j0 (G0 ?_);rw [StateT.run_pure];refine j0 (G0 ?_)
  try dsimp only
  refine t (C5 general' (if false=true then (keys.zip vs.toArray).reverse else keys.zip vs.toArray) #[] 7 none) rfl ?_;have R:b_ ds=L1 vs.length:=by unfold b_;rw [ZZ '%',lk]
  rw [R];show W8 (λ x=>x.snd) (keys.zip vs.toArray)=_;apply Array.ext
  ·simp [C]
  ·intro i N g;simp at N g⊢;rw [F0 '%'];rfl
 ·rw [Z_ g,Z_ g];have D:2<=vs.length:=by simpa using Nat.not_lt.mp g
  obtain ⟨fs,n,lf,U⟩:=Ek (prog:=X.prog) (w:=X.w) hk;have n:j29 s.heap keys.toList fs:=n;refine j0 ?_;rw [<-Array.toArray_toList (xs:=keys)];refine PySem.W.kat_kind (T:=.type "int") n '%' U '!' ?_;rw [show (C6 "int" != C6 "tuple")=true by decide];have B :∀i,i < vs.length->kI s.heap (keys.toList.getD i Value.none) (ds.getD i .none):=λ i m=>by have y:ds[i]? = some (ds[i]'(by lia)):=F0 '%';obtain ⟨v,K,z⟩:=fJ hk y;rw [A1,A1,K,y];exact z
  refine j0 (HW u lk D cm (λ d G=>?_) (λ i j b m S k Q E' q=>Nm (B i m) (B j S) k hu q) λ M Y l=>t M Y l);obtain ⟨i,m⟩:=List.mem_iff_getElem?.mp G;obtain ⟨_,_,z⟩:=fJ hk m;exact z.1
theorem MI {a:ZR} {f:ZJ->Int} {fn:ZF} 
  (I:Inv X pins σ H s) (fa:fG X pins H a) (ea:s.heap.get? a=some (W2 "list" (ks.map λ k=>P0 k.2).toArray n)) (sz:ks.length<=ZE) (hu:A.units + 10 < ZD) (cm:kH (ks.map λ k=>gg (f k.1) k.1))
  (hk :∀k∈ks,bK k.1=true/\k.1.depth<=7/\dy X.K H k.1 (.ref k.2))
  (turn :∀k∈ks,∀(pins':List (ZR×ZP)) (H1:Hp) (s1:A0),af H H1->Inv X (pins++pins') σ H1 s1->W0 (B1 X.prog X.w) A (call fn [.ref k.2]) (λ u s2=>∃p H2,u=.ref p/\af H1 H2/\H2 p=some (.tup [.int (f k.1),.ref k.2])/\Inv X (pins++pins') σ H2 s2) (λ _ _=>False) s1)
  (h :∀s' H' c,af H H'->H' a=none->Inv X pins σ H' s'->s'.heap.get? a=some (W2 "list" ((b_ (ks.map λ k=>gg (f k.1) k.1)).map λ i=>(ks.map λ k=>P0 k.2).getD i Value.none).toArray c)->P (.done (.ret .none)) s') :
  W0 (B1 X.prog X.w) A (ksk_tree a fn false) P E s:=by
 have ha:a < s.heap.objs.size:=V0 ea;have B:(ks.map λ k=>P0 k.2).length=ks.length:=D0 ..;have s1:=F3 s.heap a (C2 λ _=>(#[]:Array ZF));obtain ⟨t,T⟩ :∃t,(s.heap.update a (C2 λ _=>(#[]:Array ZF))).get? a=some (W2 "list" #[] t):=⟨_,j8 ea λ _=>#[]⟩
 have O:((s.heap.update a (C2 λ _=>(#[]:Array ZF))).push (W2 "tuple" (ks.map λ k=>P0 k.2).toArray 0)).objs.size=s.heap.objs.size + 1:=by rw [size_push',Heap.size_update]
 unfold ksk_tree;refine j0 (listItems_at ea rfl ?_);refine j0 (O6 ea rfl ?_ (by rw [M0,B];exact sz) (J1 _));refine j0 (j1e T rfl ?_);refine j0 (wpAny_newTuple ?_ (by show (ks.map λ k=>P0 k.2).length<=_;rw [B];exact sz));refine j0 (Q7 ?_ (J1 _));refine y4 ?_;have Q:(((s.heap.update a (C2 λ _=>(#[]:Array ZF))).push (W2 "tuple" (ks.map λ k=>P0 k.2).toArray 0)).push (W2 "list" #[] 0)).get? ((s.heap.update a (C2 λ _=>(#[]:Array ZF))).push (W2 "tuple" (ks.map λ k=>P0 k.2).toArray 0)).objs.size=some (W2 "list" #[] 0):=j1 _ rfl;have Y:(((s.heap.update a (C2 λ _=>(#[]:Array ZF))).push (W2 "tuple" (ks.map λ k=>P0 k.2).toArray 0)).push (W2 "list" #[] 0)).get? a=some (W2 "list" #[] t):=B0 _ (B0 _ T);have J:Inv X pins σ H { s with heap:=((s.heap.update a (C2 λ _=>(#[]:Array ZF))).push (W2 "tuple" (ks.map λ k=>P0 k.2).toArray 0)).push (W2 "list" #[] 0),toks:=s.toks }:=I.turnedL (fp:=[a]) (λ b o g q=>B0 _ (B0 _ ((s1.2 b λ z=>g (z ▸ .head _)).trans q))) (λ b g=>by rw [List.mem_singleton.mp g];exact fa);have m:fG X pins H ((s.heap.update a (C2 λ _=>(#[]:Array ZF))).push (W2 "tuple" (ks.map λ k=>P0 k.2).toArray 0)).objs.size:=I.fpOk (by rw [O];lia) (I.hok.fresh (by rw [O];lia));have G:((s.heap.update a (C2 λ _=>(#[]:Array ZF))).push (W2 "tuple" (ks.map λ k=>P0 k.2).toArray 0)).objs.size≠a:=by rw [O];exact E4 (G2 ha)
 generalize ((s.heap.update a (C2 λ _=>(#[]:Array ZF))).push (W2 "tuple" (ks.map λ k=>P0 k.2).toArray 0)).objs.size=kS at Q m G⊢;generalize ((s.heap.update a (C2 λ _=>(#[]:Array ZF))).push (W2 "tuple" (ks.map λ k=>P0 k.2).toArray 0)).push (W2 "list" #[] 0)=h3 at Q Y J⊢;have a3 :∀{H':Hp},H' kS=none->H' a=none->∀b∈[kS,a],fG X pins H' b:=λ N V b g=>by
  rcases List.mem_cons.mp g with rfl|g
  ·exact ⟨N,m.2⟩
  ·rw [List.mem_singleton.mp g];exact ⟨V,fa.2⟩
 unfold ksk_rest;refine j0 (j59 ?_);first
  | rw [List.forIn_toArray]
  | (rw [<-Z7];simp only [List.toList_toArray])
  | rw [<-Z7]
 refine j0 (ksk_fold (λ i s'=>∃kA e Hi,af H Hi/\Hi kS=none/\Hi a=none/\Inv X pins σ Hi s'/\s'.heap.get? kS=some (W2 "list" kA e)/\s'.heap.get? a=some (W2 "list" #[] t)/\av (λ (v:ZF) (k:ZJ×ZR)=>∃p,v=.ref p/\Hi p=some (.tup [.int (f k.1),.ref k.2])) kA.toList (ks.take i)) (ks.map λ k=>P0 k.2) 0 _
  ⟨#[],0,H,af.refl _,m.1,fa.1,J,Q,Y,.nil⟩ ?step ?done)
 case step=>
  rintro j x s' C ⟨kA,e,Hi,si,n1,n2,J',ek,ea',hk'⟩;simp only [S4] at hk'⊢;rw [Z0] at C;obtain ⟨k,W,rfl⟩:=Option.map_eq_some_iff.mp C;have U:kA.size<=ks.length:=by
   have N:=cD hk';rw [Y2] at N;have V:=O0 (xs:=kA)
   lia
  have Jp:=J'.pinned (fp:=[kS,a]) (a3 n1 n2) (λ b g=>by
   rcases List.mem_cons.mp g with rfl|g
   ·exact ⟨_,ek,λ v z=>by cases z⟩
   ·rw [List.mem_singleton.mp g];exact ⟨_,ea',λ v z=>by cases z⟩)
  refine j0 (j2a (L3 (turn k (S0 W) _ Hi s' si Jp) (λ v M he=>?_) λ _ _ hF=>hF.elim));obtain ⟨p,H2,rfl,s2,F,L⟩:=he
  try dsimp only
  have D:=L.pin (kS,W2 "list" kA e) (F1 _ (F1 _ (sN (.head _) ek)));have Z:=L.pin (a,W2 "list" #[] t) (F1 _ (F1 _ (sN (.tail _ (.head _)) ea')));have J3:=L.unpinned;have s1:=F3 M.heap kS (C2 (·.push (.ref p)));obtain ⟨R,a1⟩ :∃R,(M.heap.update kS (C2 (·.push (.ref p)))).get? kS=some (W2 "list" (kA.push (.ref p)) R):=⟨_,j8 D.1 (·.push (.ref p))⟩
  have a0:ks.take (j + 1)=ks.take j++[k]:=by rw [Q6,W];simp
  have a2:(kA.push (P0 p)).toList=kA.toList++[P0 p]:=by simp
  refine j0 (O6 D.1 rfl ?_ (by exact C0 U (C0 sz (o0 _))) (C0 (K5 (Array.size_push ..)) (o6 (C0 U sz))));refine G0 ⟨rfl,kA.push (.ref p),R,H2,si.trans s2,D.2.1,Z.2.1,J3.turnedL (fp:=[kS]) (t':=M.toks) (λ b o g q=>(s1.2 b λ z=>g (z ▸ .head _)).trans q) (λ b g=>by rw [List.mem_singleton.mp g];exact ⟨D.2.1,m.2⟩),a1,(s1.2 a G.symm).trans Z.1,?_⟩;rw [a2,a0];exact CI ⟨p,rfl,F⟩ (bG (λ _ _ ⟨p,z1,z2⟩=>⟨p,z1,s2 _ _ z2⟩) hk')
 case done=>
  rintro s' ⟨kA,e,Hi,si,n1,n2,J',ek,ea',hk'⟩;rw [S4,B,i6] at hk'
  try dsimp only
  refine j0 (listItems_at ek rfl ?_);refine On (ds:=ks.map λ k=>gg (f k.1) k.1) J' ⟨n2,fa.2⟩ ⟨n1,m.2⟩ G ek ea' ?_ (by rw [D0,D0]) cm (by rw [B];exact sz) hu λ h' tk c K0 K1=>h _ Hi c si n2 K0 K1;have a4 :∀{y:List ZF} {l:List (ZJ×ZR)},av (λ (v:ZF) (k:ZJ×ZR)=>∃p,v=.ref p/\Hi p=some (.tup [.int (f k.1),.ref k.2])) y l->(∀k∈l,k∈ks)->av (λ v d=>kI s'.heap v d) y (l.map λ k=>gg (f k.1) k.1):=by
   intro y l al;induction al with
   | nil=>exact λ _=>.nil
   | @cons v k y l a r ih=>
    intro S;obtain ⟨p,rfl,F⟩:=a;obtain ⟨k1,k2,k3⟩:=hk k (S k R0);refine .cons ⟨?_,?_,⟨_,_,rfl⟩,?_⟩ (ih λ x C=>S x (Y0 _ C))
    ·show (bK k.1 && true)=true;rw [k1];rfl
    ·show max 0 (max k.1.depth 0) + 1<=8
     lia
    ·exact oy J' (gg (f k.1) k.1) (.ref p) (.ref p) ⟨p,_,rfl,aG.of F,_,_,rfl,rfl,_,_,rfl,k3.same si,rfl⟩ rfl
  exact a4 hk' λ _ z=>z
def rW (K:c0) (sp:Sp) (ta:TA):TE:=λ σ H Q=>ta σ H λ vs H1=>∃(a:ZR) (ks:List (ZJ×ZR)) (f:ZJ->Int),vs=[.ref a]/\jf K H1 a ks/\kH (ks.map λ k=>gg (f k.1) k.1)/\(∀k∈ks,∀H2,af H1 H2->sp [.ref k.2] H2 (λ v H3=>∃p,v=.ref p/\af H2 H3/\H3 p=some (.tup [.int (f k.1),.ref k.2])) E0)/\
 ∀D H2,(ks.map (·.1)).Nodup->af H1 H2->H2 D=none->Q (.ref D) (upd H2 D (.lst ((b_ (ks.map λ k=>gg (f k.1) k.1)).map λ i=>V.ref (ks.getD i (.none,0)).2)))
theorem Qz {ta:TA} {p fp kp:ZO} {fx:ZQ} {ps:List ZQ} {k:Nat} {sp:Sp} (c:wh X.prog X.w X.K X.mg X.base fx ps k sp) (hr:bL (k + 2) X.A) (hg:Gl X "sorted") (hm:X.mg "sorted" = none) (hgf:Gl X fx) (ha:PA X [e] ta) (hdb:(fx == ("__debug__" : ZQ))=false:=by decide)
  (he:J4 pos (S1 [e] X.env)=(false,U3 e X.env) :: J4 pos (S1 [] X.env):=by rfl) (hpl:(J4 pos (S1 [e] X.env)).any (·.1)=false:=by rfl) :
  PE X (.Call (.Name "sorted" p) [e] [⟨some "key",.Name fx fp,kp⟩] pos) (rW X.K sp ta):=by
 obtain ⟨T,fd,F,a0,n,hb⟩:=c.ex;intro t s σ H Q I h;refine O5 (fo I hg hm W7 (callWith_kw (ba (ha pos t s σ H _ I h) λ us S ⟨vs,H1,I1,r,q⟩=>kws_cons (wC I1 hgf a0 (kws_nil ?_) hdb)) he hpl));obtain ⟨a,d,f,rfl,L,cm,a2,q⟩:=q;obtain ⟨u,rfl,rx⟩:=vals1 r;cases rx;have a4:=hr.units;obtain ⟨g1,l,g3,⟨ep,g4⟩,_⟩:=uR I1 L;have D:(d.map nv).toArray.size=d.length:=by rw [M0,D0]
 refine call_function_entry_kw j43 j34 j36 (ksk_s1 _ _) ?_;unfold D9.«sorted»;refine j0 (m:=j5e "sorted" 1 1 _) (G0 (j0 (j02 (lQ g1) (show X.A.in1.handled=none from hr.hd) g4 (by rw [D];exact l) λ g x a1 k1 C=>?_)));have ea:a1.toList=d.map λ k=>P0 k.2:=mQ (C.1.trans D) C.2;rw [ea];have B:Inv X t σ H1 { S with heap:=g,toks:=x }:=I1.kept (t':=x) k1;have P:(g.push (W2 "list" (d.map λ k=>P0 k.2).toArray 0)).get? g.objs.size=some (W2 "list" (d.map λ k=>P0 k.2).toArray 0):=j1 _ rfl;have V:Inv X t σ H1 { S with heap:=g.push (W2 "list" (d.map λ k=>P0 k.2).toArray 0),toks:=x }:=B.kept (t':=x) λ b o e=>B0 _ e;have O:fG X t H1 g.objs.size:=B.fpOk (o0 _) (B.hok.fresh (o0 _));have lv:(d.map λ k=>P0 k.2).length=d.length:=D0 ..;refine j0 (Q7 (j0 (y4 (wpAny_call_entry_kw j1d ⟨_,P,rfl⟩ j0i ?body (ksk_l1 _ _)))) (by show (d.map λ k=>P0 k.2).length<=_;rw [lv];exact l))
 case body=>
  show W0 (B1 X.prog X.w) X.A.in1.in1 (D9.«list.sort» ⟨[.ref g.objs.size],[(X7 "key",.ref T)]⟩) _ _ _;rw [ksk_t1];refine MI (f:=f) V O P l (show X.A.units + 1 + 1 + 10 < ZD by lia) cm (λ k n=>L.2 k n) (λ k n a3 E M z J=>?_) λ s' R c z G J e=>⟨_,rfl,G0 ⟨_,rfl,.ref g.objs.size,_,J.track ⟨G,O.2⟩ ?_,rfl,q _ _ g3 z G⟩⟩
  ·have N:=a2 k n E z;have U:[P0 k.2].length=ps.length:=(by have:=F.len _ _ _ _ N;simpa using this)
   refine wpAny_call (j0a (F.run X.A.in1.in1 X.stack M E ⟨[.ref k.2],[]⟩ [.ref k.2] [.ref k.2] _ E0 hr.in1.in1 J.env0.in1.in1 (by have:=hb M [.ref k.2] J.kIn (by simpa using U);simpa using this) (.cons rfl .nil) N) λ r s' j=>?_);cases r with
   | error e=>exact j.elim
   | ok fl=>
    cases fl with
    | ret u=>obtain ⟨v,R,W,rv,p,rfl,s3,Y⟩:=J.after j;cases rv;exact ⟨p,R,rfl,s3,Y,W⟩
    | next=>exact O3 j
    | brk=>exact O3 j
    | cont=>exact O3 j
  ·have y:=nI (d.map λ k=>gg (f k.1) k.1);rw [D0] at y;refine ⟨?_,_,c,Do _ (λ i Z=>List.mem_range.mp (y.mem_iff.mp Z)),e⟩;rw [D0,y.length_eq,B2];exact l
end
def uu {P:Prop} (h :∀G:Prop,(P->G)->G):P:=h P id
end L2
namespace K60
open TJ L2
noncomputable abbrev PX:ZI:=PySem.Challenge.pw_talejudge_k60_stuck_papers_told
noncomputable abbrev iO:Option ZF:=some (.ref 6)
noncomputable def tp (a b:ZQ) (t:Nat):ZP:={ cls:=.type "tuple",data:=.seq #[.str a t,.str b (t + 1)] 0 }
noncomputable def tups:List ZP:=[tp "register" "read" 391,tp "register" "write" 393,tp "counter" "read" 395,tp "counter" "add" 397,tp "queue" "put" 399,tp "queue" "take" 401,tp "set" "put" 403,tp "set" "cut" 405,tp "set" "has" 407,tp "cell" "read" 409,tp "cell" "write" 411,tp "cell" "swap" 413]
noncomputable def ml:List ZP->Nat->BT->BT
 | [],_,t=>t
 | x :: r,n,t=>ml r (n + 1) (t.ins n x)
noncomputable def gX (P:Q0) (oD:ZP):BT:=ml tups 153 ((K60.pre.tree_169 P).ins 152 oD)
noncomputable def FX (w:X0) (os:B3) (oD:ZP) (tk:Nat):SharedT:=⟨gX w.params oD,165,{},⟨[]⟩,{},tk,os⟩
noncomputable abbrev kL:Code:=.body (behindTheImports PX) K60.pre.env_1
noncomputable abbrev qX:ZO:=⟨0,0,0,0⟩
noncomputable abbrev BX:List Frame:=[topFrame qX]
noncomputable abbrev GX {α:Type} (w:X0) (c:Nat) (x:ZN α) (s:A0) (pos:ZO) (a:α) (s':A0) (pos':ZO):Prop:=Goes PX w 11 iO kL qX c x s pos a s' pos'
def LX (n:Nat) {α:Type} (x:ZN α) (w:X0) (pos:ZO) (s:B3->ZP->Nat->SharedT) (a:Nat->α) (s':B3->ZP->Nat->SharedT) (pos':ZO):Prop:=
 ∀(os:B3) (oD:ZP) (tk:Nat) (K:α->ZN b7) (H:ZF->ZN b7) (gd:Bool->Bool) (lv:List ZF->List ZF),
  PySem.W.Fast.tw10295753902157049106 d9 PX w 11 iO 1 n (s os oD tk) ⟨x.wrap K H gd lv,kL,pos,BX⟩=some (s' os oD tk,⟨K (a tk),kL,pos',BX⟩)
def LX.goes {n:Nat} {α:Type} {x:ZN α} {w:X0} {pos pos':ZO} {s s':B3->ZP->Nat->SharedT} {a:Nat->α} (h:LX n x w pos s a s' pos') (os:B3) (oD:ZP) (tk:Nat):GX w n x (s os oD tk).abs pos (a tk) (s' os oD tk).abs pos':=by refine Goes.leaf n λ K H c b=>?_;have e:=h os oD tk K H c b;rw [<-PySem.W.Fast.te10295753902157049106,<-U5] at e;exact e
noncomputable abbrev stay (w:X0):B3->ZP->Nat->SharedT:=FX w
noncomputable abbrev kf (w:X0):B3->ZP->Nat->SharedT:=λ os oD tk=>FX w os oD (tk + 3)
def lF (a:ZR) (h :∀(w:X0) (pos:ZO),LX 3 (PySem.W.Fast.tw13066428366354244818 8 (.ref a)) w pos (stay w) (λ _=>true) (stay w) pos:=by intro w pos os oD tk K H gd lv;kernel_rfl) (w:X0) (pos:ZO):LX 3 (T4 8 (.ref a)) w pos (stay w) (λ _=>true) (stay w) pos:=by rw [PySem.W.Fast.te13066428366354244818];exact h w pos
noncomputable def Q_:=lF 153
noncomputable def Rt:=lF 154
noncomputable def IK:=lF 155
noncomputable def LW:=lF 156
noncomputable def Ql:=lF 157
noncomputable def KD:=lF 158
noncomputable def MR:=lF 159
noncomputable def Ju:=lF 160
noncomputable def MZ:=lF 161
noncomputable def PK:=lF 162
noncomputable def zD:=lF 163
noncomputable def Aj:=lF 164
def cf (n:Nat) (a b:ZR) (hf :∀(w:X0) (pos:ZO),LX n (S5 (.ref a) (.ref b)) (w.withFollow "special-get-raises" false) pos (stay (w.withFollow "special-get-raises" false)) (λ _=>false) (stay (w.withFollow "special-get-raises" false)) pos:=by intro w pos os oD tk K H gd lv;kernel_rfl) (ht :∀(w:X0) (pos:ZO),LX n (S5 (.ref a) (.ref b)) (w.withFollow "special-get-raises" true) pos (stay (w.withFollow "special-get-raises" true)) (λ _=>false) (stay (w.withFollow "special-get-raises" true)) pos:=by intro w pos os oD tk K H gd lv;kernel_rfl) (w:X0) (pos:ZO):LX n (eqBool (.ref a) (.ref b)) w pos (stay w) (λ _=>false) (stay w) pos:=by rw [PySem.W.Fast.te13926502685295537346];exact byRow2 "special-get-raises" (P:=λ w=>LX n (S5 (.ref a) (.ref b)) w pos (stay w) (λ _=>false) (stay w) pos) (λ w=>hf w pos) (λ w=>ht w pos) w
noncomputable def uZ:=cf 20 153 154
noncomputable def vp:=cf 16 153 155
noncomputable def wd:=cf 16 153 156
noncomputable def vw:=cf 16 153 157
noncomputable def um:=cf 16 153 158
noncomputable def vN:=cf 16 153 159
noncomputable def ue:=cf 16 153 160
noncomputable def wb:=cf 16 153 161
noncomputable def uI:=cf 16 153 162
noncomputable def ro:=cf 16 153 163
noncomputable def qz:=cf 16 153 164
noncomputable def vc:=cf 16 154 155
noncomputable def tq:=cf 16 154 156
noncomputable def sZ:=cf 16 154 157
noncomputable def vX:=cf 16 154 158
noncomputable def tO:=cf 16 154 159
noncomputable def tM:=cf 16 154 160
noncomputable def vm:=cf 16 154 161
noncomputable def vE:=cf 16 154 162
noncomputable def pX:=cf 16 154 163
noncomputable def qQ:=cf 16 154 164
noncomputable def uY:=cf 20 155 156
noncomputable def uk:=cf 16 155 157
noncomputable def sY:=cf 16 155 158
noncomputable def tX:=cf 16 155 159
noncomputable def tT:=cf 16 155 160
noncomputable def vr:=cf 16 155 161
noncomputable def uh:=cf 16 155 162
noncomputable def rF:=cf 16 155 163
noncomputable def pU:=cf 16 155 164
noncomputable def uT:=cf 16 156 157
noncomputable def vB:=cf 16 156 158
noncomputable def we:=cf 16 156 159
noncomputable def t_:=cf 16 156 160
noncomputable def vO:=cf 16 156 161
noncomputable def vG:=cf 16 156 162
noncomputable def qZ:=cf 16 156 163
noncomputable def pT:=cf 16 156 164
noncomputable def tR:=cf 20 157 158
noncomputable def wu:=cf 16 157 159
noncomputable def vo:=cf 16 157 160
noncomputable def vg:=cf 16 157 161
noncomputable def uX:=cf 16 157 162
noncomputable def pJ:=cf 16 157 163
noncomputable def rb:=cf 16 157 164
noncomputable def vk:=cf 16 158 159
noncomputable def uO:=cf 16 158 160
noncomputable def vh:=cf 16 158 161
noncomputable def wq:=cf 16 158 162
noncomputable def pe:=cf 16 158 163
noncomputable def pA:=cf 16 158 164
noncomputable def uW:=cf 20 159 160
noncomputable def tP:=cf 20 159 161
noncomputable def uy:=cf 16 159 162
noncomputable def qy:=cf 16 159 163
noncomputable def r_:=cf 16 159 164
noncomputable def uA:=cf 20 160 161
noncomputable def wm:=cf 16 160 162
noncomputable def qO:=cf 16 160 163
noncomputable def qk:=cf 16 160 164
noncomputable def uM:=cf 16 161 162
noncomputable def rY:=cf 16 161 163
noncomputable def pS:=cf 16 161 164
noncomputable def pD:=cf 20 162 163
noncomputable def qi:=cf 20 162 164
noncomputable def Kc:=cf 20 163 164
def ll (a:ZR) (hf :∀(w:X0) (pos:ZO),LX 1 (T5 "hash" [.ref a]) (w.withFollow "special-get-raises" false) pos (stay (w.withFollow "special-get-raises" false)) (λ _=>()) (stay (w.withFollow "special-get-raises" false)) pos:=by intro w pos os oD tk K H gd lv;kernel_rfl) (ht :∀(w:X0) (pos:ZO),LX 1 (T5 "hash" [.ref a]) (w.withFollow "special-get-raises" true) pos (stay (w.withFollow "special-get-raises" true)) (λ _=>()) (stay (w.withFollow "special-get-raises" true)) pos:=by intro w pos os oD tk K H gd lv;kernel_rfl) (w:X0) (pos:ZO):LX 1 (cRoomFor "hash" [.ref a]) w pos (stay w) (λ _=>()) (stay w) pos:=by rw [PySem.W.Fast.te13383273872528276517];exact byRow2 "special-get-raises" (P:=λ w=>LX 1 (T5 "hash" [.ref a]) w pos (stay w) (λ _=>()) (stay w) pos) (λ w=>hf w pos) (λ w=>ht w pos) w
def lg (a:ZR) (hf :∀(w:X0) (pos:ZO),LX 1 (Y5 (.ref a) "__hash__") (w.withFollow "special-get-raises" false) pos (stay (w.withFollow "special-get-raises" false)) (λ _=>some (.builtin "tuple.__hash__")) (stay (w.withFollow "special-get-raises" false)) pos:=by intro w pos os oD tk K H gd lv;kernel_rfl) (ht :∀(w:X0) (pos:ZO),LX 1 (Y5 (.ref a) "__hash__") (w.withFollow "special-get-raises" true) pos (stay (w.withFollow "special-get-raises" true)) (λ _=>some (.builtin "tuple.__hash__")) (stay (w.withFollow "special-get-raises" true)) pos:=by intro w pos os oD tk K H gd lv;kernel_rfl) (w:X0) (pos:ZO):LX 1 (specialOf (.ref a) "__hash__") w pos (stay w) (λ _=>some (.builtin "tuple.__hash__")) (stay w) pos:=by rw [PySem.W.Fast.te4214721358667687652];exact byRow2 "special-get-raises" (P:=λ w=>LX 1 (Y5 (.ref a) "__hash__") w pos (stay w) (λ _=>some (.builtin "tuple.__hash__")) (stay w) pos) (λ w=>hf w pos) (λ w=>ht w pos) w
def k_ (a:ZR) (k l:ZQ) (hf :∀(w:X0) (pos:ZO),LX 22 (R5 (.ref a) "__hash__" (sL a)) (w.withFollow "special-get-raises" false) pos (stay (w.withFollow "special-get-raises" false)) (λ tk=>some (.int (t0 [d0 (w.withFollow "special-get-raises" false).params k,d0 (w.withFollow "special-get-raises" false).params l]) (tk + 2))) (kf (w.withFollow "special-get-raises" false)) pos:=by intro w pos os oD tk K H gd lv;kernel_rfl) (ht :∀(w:X0) (pos:ZO),LX 22 (R5 (.ref a) "__hash__" (sL a)) (w.withFollow "special-get-raises" true) pos (stay (w.withFollow "special-get-raises" true)) (λ tk=>some (.int (t0 [d0 (w.withFollow "special-get-raises" true).params k,d0 (w.withFollow "special-get-raises" true).params l]) (tk + 2))) (kf (w.withFollow "special-get-raises" true)) pos:=by intro w pos os oD tk K H gd lv;kernel_rfl) (w:X0) (pos:ZO):LX 22 (V7 (.ref a) "__hash__" (sL a)) w pos (stay w) (λ tk=>some (.int (t0 [d0 w.params k,d0 w.params l]) (tk + 2))) (kf w) pos:=by rw [PySem.W.Fast.te16697807410369149715];exact byRow2 "special-get-raises" (P:=λ w=>LX 22 (R5 (.ref a) "__hash__" (sL a)) w pos (stay w) (λ tk=>some (.int (t0 [d0 w.params k,d0 w.params l]) (tk + 2))) (kf w) pos) (λ w=>hf w pos) (λ w=>ht w pos) w
noncomputable def Oo:=ll 153
noncomputable def Ky:=lg 153
noncomputable def La:=k_ 153 "register" "read"
noncomputable def Pz:=ll 154
noncomputable def Nq:=lg 154
noncomputable def Ox:=k_ 154 "register" "write"
noncomputable def Jn:=ll 155
noncomputable def IE:=lg 155
noncomputable def Kz:=k_ 155 "counter" "read"
noncomputable def Mx:=ll 156
noncomputable def OX:=lg 156
noncomputable def QM:=k_ 156 "counter" "add"
noncomputable def NO:=ll 157
noncomputable def Py:=lg 157
noncomputable def JW:=k_ 157 "queue" "put"
noncomputable def KZ:=ll 158
noncomputable def OK:=lg 158
noncomputable def Rk:=k_ 158 "queue" "take"
noncomputable def IX:=ll 159
noncomputable def LF:=lg 159
noncomputable def Jf:=k_ 159 "set" "put"
noncomputable def Jb:=ll 160
noncomputable def Rl:=lg 160
noncomputable def LQ:=k_ 160 "set" "cut"
noncomputable def MY:=ll 161
noncomputable def OR:=lg 161
noncomputable def NG:=k_ 161 "set" "has"
noncomputable def Om:=ll 162
noncomputable def Ot:=lg 162
noncomputable def Qp:=k_ 162 "cell" "read"
noncomputable def BH:=ll 163
noncomputable def Ab:=lg 163
noncomputable def BD:=k_ 163 "cell" "write"
noncomputable def Cf:=ll 164
noncomputable def Cg:=lg 164
noncomputable def xZ:=k_ 164 "cell" "swap"
noncomputable def iM (P:Q0):List wA:=[(153,(.ref 97),(T1 (t0 [d0 P "register",d0 P "read"]))),(154,(.ref 104),(T1 (t0 [d0 P "register",d0 P "write"]))),(155,(.ref 97),(T1 (t0 [d0 P "counter",d0 P "read"]))),(156,(.ref 111),(T1 (t0 [d0 P "counter",d0 P "add"]))),(157,(.ref 118),(T1 (t0 [d0 P "queue",d0 P "put"]))),(158,(.ref 125),(T1 (t0 [d0 P "queue",d0 P "take"]))),(159,(.ref 132),(T1 (t0 [d0 P "set",d0 P "put"]))),(160,(.ref 137),(T1 (t0 [d0 P "set",d0 P "cut"]))),(161,(.ref 144),(T1 (t0 [d0 P "set",d0 P "has"]))),(162,(.ref 97),(T1 (t0 [d0 P "cell",d0 P "read"]))),(163,(.ref 104),(T1 (t0 [d0 P "cell",d0 P "write"]))),(164,(.ref 151),(T1 (t0 [d0 P "cell",d0 P "swap"])))]
def Kq (w:X0) (os:B3) (pos:ZO):(iM w.params).Pairwise λ x y=>∀oD tk,GX w 20 (eqBool (.ref x.1) (.ref y.1)) (FX w os oD tk).abs pos false (FX w os oD tk).abs pos:=by
 unfold iM;refine
 .cons (λ y a oD tk=>(by
  revert y;simp only [K2,u0,false_implies,implies_true,and_true];exact ⟨(uZ w pos).goes os oD tk |>.le '!',(vp w pos).goes os oD tk |>.le '!',(wd w pos).goes os oD tk |>.le '!',(vw w pos).goes os oD tk |>.le '!',(um w pos).goes os oD tk |>.le '!',(vN w pos).goes os oD tk |>.le '!',(ue w pos).goes os oD tk |>.le '!',(wb w pos).goes os oD tk |>.le '!',(uI w pos).goes os oD tk |>.le '!',(ro w pos).goes os oD tk |>.le '!',(qz w pos).goes os oD tk |>.le '!'⟩))
  (.cons (λ y a oD tk=>(by
  revert y;simp only [K2,u0,false_implies,implies_true,and_true];exact ⟨(vc w pos).goes os oD tk |>.le '!',(tq w pos).goes os oD tk |>.le '!',(sZ w pos).goes os oD tk |>.le '!',(vX w pos).goes os oD tk |>.le '!',(tO w pos).goes os oD tk |>.le '!',(tM w pos).goes os oD tk |>.le '!',(vm w pos).goes os oD tk |>.le '!',(vE w pos).goes os oD tk |>.le '!',(pX w pos).goes os oD tk |>.le '!',(qQ w pos).goes os oD tk |>.le '!'⟩))
  (.cons (λ y a oD tk=>(by
  revert y;simp only [K2,u0,false_implies,implies_true,and_true];exact ⟨(uY w pos).goes os oD tk |>.le '!',(uk w pos).goes os oD tk |>.le '!',(sY w pos).goes os oD tk |>.le '!',(tX w pos).goes os oD tk |>.le '!',(tT w pos).goes os oD tk |>.le '!',(vr w pos).goes os oD tk |>.le '!',(uh w pos).goes os oD tk |>.le '!',(rF w pos).goes os oD tk |>.le '!',(pU w pos).goes os oD tk |>.le '!'⟩))
  (.cons (λ y a oD tk=>(by
  revert y;simp only [K2,u0,false_implies,implies_true,and_true];exact ⟨(uT w pos).goes os oD tk |>.le '!',(vB w pos).goes os oD tk |>.le '!',(we w pos).goes os oD tk |>.le '!',(t_ w pos).goes os oD tk |>.le '!',(vO w pos).goes os oD tk |>.le '!',(vG w pos).goes os oD tk |>.le '!',(qZ w pos).goes os oD tk |>.le '!',(pT w pos).goes os oD tk |>.le '!'⟩))
  (.cons (λ y a oD tk=>(by
  revert y;simp only [K2,u0,false_implies,implies_true,and_true];exact ⟨(tR w pos).goes os oD tk |>.le '!',(wu w pos).goes os oD tk |>.le '!',(vo w pos).goes os oD tk |>.le '!',(vg w pos).goes os oD tk |>.le '!',(uX w pos).goes os oD tk |>.le '!',(pJ w pos).goes os oD tk |>.le '!',(rb w pos).goes os oD tk |>.le '!'⟩))
  (.cons (λ y a oD tk=>(by
  revert y;simp only [K2,u0,false_implies,implies_true,and_true];exact ⟨(vk w pos).goes os oD tk |>.le '!',(uO w pos).goes os oD tk |>.le '!',(vh w pos).goes os oD tk |>.le '!',(wq w pos).goes os oD tk |>.le '!',(pe w pos).goes os oD tk |>.le '!',(pA w pos).goes os oD tk |>.le '!'⟩))
  (.cons (λ y a oD tk=>(by
  revert y;simp only [K2,u0,false_implies,implies_true,and_true];exact ⟨(uW w pos).goes os oD tk |>.le '!',(tP w pos).goes os oD tk |>.le '!',(uy w pos).goes os oD tk |>.le '!',(qy w pos).goes os oD tk |>.le '!',(r_ w pos).goes os oD tk |>.le '!'⟩))
  (.cons (λ y a oD tk=>(by
  revert y;simp only [K2,u0,false_implies,implies_true,and_true];exact ⟨(uA w pos).goes os oD tk |>.le '!',(wm w pos).goes os oD tk |>.le '!',(qO w pos).goes os oD tk |>.le '!',(qk w pos).goes os oD tk |>.le '!'⟩))
  (.cons (λ y a oD tk=>(by
  revert y;simp only [K2,u0,false_implies,implies_true,and_true];exact ⟨(uM w pos).goes os oD tk |>.le '!',(rY w pos).goes os oD tk |>.le '!',(pS w pos).goes os oD tk |>.le '!'⟩))
  (.cons (λ y a oD tk=>(by
  revert y;simp only [K2,u0,false_implies,implies_true,and_true];exact ⟨(pD w pos).goes os oD tk |>.le '!',(qi w pos).goes os oD tk |>.le '!'⟩))
  (.cons (λ y a oD tk=>(by
  revert y;simp only [K2,u0,false_implies,implies_true,and_true];exact (Kc w pos).goes os oD tk |>.le '!'))
  (.cons (λ y a=>nomatch a)
  (j3d))))))))))))
def qV (w:X0) (os:B3) (pos:ZO) :∀x∈iM w.params,∀oD tk,GX w 3 (T4 8 (.ref x.1)) (FX w os oD tk).abs pos true (FX w os oD tk).abs pos:=by unfold iM;simp only [K2,u0,false_implies,implies_true,and_true];exact ⟨λ oD tk=>(Q_ w pos).goes os oD tk,λ oD tk=>(Rt w pos).goes os oD tk,λ oD tk=>(IK w pos).goes os oD tk,λ oD tk=>(LW w pos).goes os oD tk,λ oD tk=>(Ql w pos).goes os oD tk,λ oD tk=>(KD w pos).goes os oD tk,λ oD tk=>(MR w pos).goes os oD tk,λ oD tk=>(Ju w pos).goes os oD tk,λ oD tk=>(MZ w pos).goes os oD tk,λ oD tk=>(PK w pos).goes os oD tk,λ oD tk=>(zD w pos).goes os oD tk,λ oD tk=>(Aj w pos).goes os oD tk⟩
def qb (w:X0) (os:B3) (pos:ZO) :∀x∈iM w.params,∀oD tk,GX w 25 (pyHash (.ref x.1)) (FX w os oD tk).abs pos x.2.2 (FX w os oD (tk + 3)).abs pos:=by unfold iM;simp only [K2,u0,false_implies,implies_true,and_true];exact ⟨λ oD tk=>Goes.pyHashT ((Oo w pos).goes os oD tk) ((Ky w pos).goes os oD tk) ((La w pos).goes os oD tk),λ oD tk=>Goes.pyHashT ((Pz w pos).goes os oD tk) ((Nq w pos).goes os oD tk) ((Ox w pos).goes os oD tk),λ oD tk=>Goes.pyHashT ((Jn w pos).goes os oD tk) ((IE w pos).goes os oD tk) ((Kz w pos).goes os oD tk),λ oD tk=>Goes.pyHashT ((Mx w pos).goes os oD tk) ((OX w pos).goes os oD tk) ((QM w pos).goes os oD tk),λ oD tk=>Goes.pyHashT ((NO w pos).goes os oD tk) ((Py w pos).goes os oD tk) ((JW w pos).goes os oD tk),λ oD tk=>Goes.pyHashT ((KZ w pos).goes os oD tk) ((OK w pos).goes os oD tk) ((Rk w pos).goes os oD tk),λ oD tk=>Goes.pyHashT ((IX w pos).goes os oD tk) ((LF w pos).goes os oD tk) ((Jf w pos).goes os oD tk),λ oD tk=>Goes.pyHashT ((Jb w pos).goes os oD tk) ((Rl w pos).goes os oD tk) ((LQ w pos).goes os oD tk),λ oD tk=>Goes.pyHashT ((MY w pos).goes os oD tk) ((OR w pos).goes os oD tk) ((NG w pos).goes os oD tk),λ oD tk=>Goes.pyHashT ((Om w pos).goes os oD tk) ((Ot w pos).goes os oD tk) ((Qp w pos).goes os oD tk),λ oD tk=>Goes.pyHashT ((BH w pos).goes os oD tk) ((Ab w pos).goes os oD tk) ((BD w pos).goes os oD tk),λ oD tk=>Goes.pyHashT ((Cf w pos).goes os oD tk) ((Cg w pos).goes os oD tk) ((xZ w pos).goes os oD tk)⟩
def Ce (w:X0) (os:B3):xf 11 152 (FX w os):=by
 have g :∀c,(gX w.params c).get 152=some c:=λ c=>by kernel_rfl
 refine ⟨'!',λ a b d=>abs_get (show 152 < 165 by decide) (g _),λ a b d e=>?_⟩;have u:(absHeap (gX w.params (cE a b)) 165 {}).update 152 (S9 (·.push e))=absHeap (gX w.params (cE (a.push e) (b + 1))) 165 {}:=by
  rw [<-absHeap_set (g _)];have v:(gX w.params (cE a b)).set 152 (S9 (·.push e))=gX w.params (cE (a.push e) (b + 1)):=by kernel_rfl
  rw [v]
 exact ZT (λ h=>(⟨h,⟨[]⟩,{},d,os⟩:A0)) u
noncomputable def kF:ZK:=(behindTheImports PX).getD 23 (.Pass ⟨0,0,0,0⟩)
noncomputable def rQ:List ZK:=(behindTheImports PX).drop 24
def wy:behindTheImports PX=K60.pre.sts_7++(K60.pre.sts_61++(K60.pre.sts_80++(K60.pre.sts_104++([kF]++rQ)))):=by kernel_rfl
noncomputable def kh:ZK->List (Option ZM)
 | .Assign _ (.Dict ks _ _) _=>ks
 | _=>[]
noncomputable def j_:ZK->List ZM
 | .Assign _ (.Dict _ vs _) _=>vs
 | _=>[]
noncomputable def AU:ZK->ZO
 | .Assign _ (.Dict _ _ p) _=>p
 | _=>⟨0,0,0,0⟩
noncomputable def zC:ZK->ZO
 | .Assign _ _ p=>p
 | _=>⟨0,0,0,0⟩
noncomputable abbrev Es:ZO:=zC kF
noncomputable abbrev jv:ZO:=AU kF
noncomputable abbrev sJ:ZO:=⟨50,0,50,5⟩
noncomputable def nC:List (ZN ZF×ZN ZF):=(((evalEachOpt (kh kF) K60.pre.env_1).zip ((evalEach (j_ kF) K60.pre.env_1).map λ v=>do let x <-v;j52 jv;Y1 x))).filterMap λ x=>x.1.map (·,x.2)
def qP:kF=.Assign [.Name "DOERS" sJ] (.Dict (kh kF) (j_ kF) jv) Es:=by kernel_rfl
def J6:U3 (.Dict (kh kF) (j_ kF) jv) K60.pre.env_1=(do j52 jv;let r <-(do let x <-subDict nC;Y1 (some x));match r with|some x=>Y1 (P0 x)|none=>newDict):=by kernel_rfl
def Ni:M7 (.Dict (kh kF) (j_ kF) jv) (some (.Name "DOERS" sJ)) Es.line K60.pre.env_1=Y1 false:=by kernel_rfl
noncomputable def wW (w:X0) (os:B3):SharedT:=⟨K60.pre.tree_169 w.params,152,{},⟨[]⟩,{},391,os⟩
noncomputable def Fn (w:X0) (os:B3):SharedT:=⟨(K60.pre.tree_169 w.params).ins 152 (cE #[] 0),153,{},⟨[]⟩,{},391,os⟩
noncomputable def Dk:List (ZF×ZF):=[(.ref 153,(.ref 97)),(.ref 154,(.ref 104)),(.ref 155,(.ref 97)),(.ref 156,(.ref 111)),(.ref 157,(.ref 118)),(.ref 158,(.ref 125)),(.ref 159,(.ref 132)),(.ref 160,(.ref 137)),(.ref 161,(.ref 144)),(.ref 162,(.ref 97)),(.ref 163,(.ref 104)),(.ref 164,(.ref 151))]
def Pg (w:X0):LX 84 (evalPairs nC) w jv (λ os _ _=>Fn w os) (λ _=>Dk) (λ os _ _=>FX w os (cE #[] 0) 415) jv:=by rw [PySem.W.Fast.te1788576489739465902];exact λ os c b K H d a=>by kernel_rfl
noncomputable def ym (w:X0) (os:B3) (oD:ZP) (tk:Nat):SharedT:=⟨(gX w.params oD).set 3 (Obj.putName "DOERS" (d0 w.params "DOERS") (.str "DOERS" tk) (.ref 152)),165,{},⟨[]⟩,{},tk + 1,os⟩
def Mo (w:X0) (pos:ZO):LX 6 (bindName K60.pre.env_1 "DOERS" (.ref 152)) w pos (stay w) (λ _=>()) (λ os oD tk=>ym w os oD tk) pos:=by
 rw [PySem.W.Fast.te7536695828754713326];exact byRow2 "special-get-raises" (P:=λ w=>LX 6 (PySem.W.Fast.tw7536695828754713326 K60.pre.env_1 "DOERS" (.ref 152)) w pos (stay w) (λ _=>()) (λ os oD tk=>ym w os oD tk) pos)
  (λ w os oD tk K H b a=>by kernel_rfl) (λ w os oD tk K H b a=>by kernel_rfl) w
noncomputable abbrev Cj (P:Q0):ZP:=cE ((iM P).map ent).toArray 12
noncomputable abbrev wD (w:X0) (os:B3):SharedT:=ym w os (Cj w.params) 451
def oW (w:X0) (os:B3) (pos:ZO):GX w 100000 (exec kF K60.pre.env_1) (wW w os).abs pos .next (wD w os).abs sJ:=by
 rw [qP,exec_Assign_Name _ _ _ _ _ Ni];have l:=Goes.loop (p:=PX) (w:=w) (ann:=iO) (code:=kL) (q:=qX) (pos:=jv) (Ce w os) (N:=12) (iM w.params) (show 12<=12 by decide) '!' (show ([153,154,155,156,157,158,159,160,161,162,163,164]:List Nat).Nodup by decide) (qV w os jv) (Kq w os jv) (qb w os jv) (iM w.params) [] 415 rfl;have b:=(Pg w).goes os (cE #[] 0) 0;have d:GX w _ (subDict nC) (wW w os).abs jv 152 (FX w os (Cj w.params) 451).abs jv:=
  Goes.subDict (by decide +kernel) (absHeap_size _ _ _) (show GX w _ (evalPairs nC) _ jv Dk _ jv from by
   have e:({ (wW w os).abs with heap:=(wW w os).abs.heap.push { cls:=.type "dict",data:=.dict #[] } }:A0)=(Fn w os).abs:=by have i:=absHeap_ins (t:=K60.pre.tree_169 w.params) (n:=152) (life:={}) (o:=cE #[] 0) (by kernel_rfl);exact ZT (λ h=>(⟨h,⟨[]⟩,{},391,os⟩:A0)) i.symm
   rw [e];exact b) l
 refine (Goes.bind Goes.at' (Goes.bind (a:=P0 152) (pos':=jv) ?_ (Goes.bind Goes.at' (Goes.bind (f:=λ _=>Y1 Flow.next) ((Mo w sJ).goes os (Cj w.params) 451) Goes.pure)))).le (c:=1 + (((1 + ((1 + (84 + 12 * (25 + (2 + 3 + 12 * (3 + 20 + 10)) + 4))) + 0 + 0)) + (1 + (6 + 0))))) '!';rw [J6];exact Goes.bind Goes.at' (Goes.bind (Goes.bind d Goes.pure) Goes.pure)
noncomputable abbrev zf:ZO:=⟨354,0,362,15⟩
noncomputable def yp (w:X0) (os:B3):Option (Flow×SharedT×Code×ZO):=PySem.W.Fast.tw10110043849684766642 d9 PX w 11 iO 1 1759 (wD w os) ⟨(PySem.W.Fast.tw12563942051412417395 rQ K60.pre.env_1).wrap doneF deadEnd id id,kL,sJ,BX⟩
noncomputable def lS (w:X0) (os:B3):SharedT:=match yp w os with|some r=>r.2.1|none=>wD w os
def qU (w:X0) (os:B3):yp w os=some (.next,lS w os,kL,zf):=by kernel_rfl
def OC (w:X0) (os:B3):segRun P3 PX w 11 iO 1 1759 (wD w os).abs (piecesOf rQ K60.pre.env_1 kL sJ BX)=some (.next,(lS w os).abs,kL,zf):=by have e:=qU w os;unfold yp at e;rw [<-PySem.W.Fast.te10110043849684766642,<-U5,<-PySem.W.Fast.te12563942051412417395] at e;exact segRun_of e
noncomputable def Bx (w:X0) (os:B3):SharedT:=⟨K60.pre.tree_6 w.params,15,{},⟨[]⟩,{},187,os⟩
def pK (w:X0) (os:B3):topGo P3 PX w 11 iO 12 ⟨boot_heap w.params,Array.mk [],boot_drawn,boot_toks,os⟩ (topStub PX)=some ((Bx w os).abs,⟨denote P3 kL,kL,qX,BX⟩):=by rw [PySem.W.Fast.te15667345088766844465,U5,PySem.W.Fast.te11892475500146522536];kernel_rfl
theorem OW (w:X0) (os:B3) :∃M,M<=200000/\topRun P3 PX w 11 iO M ⟨boot_heap w.params,Array.mk [],boot_drawn,boot_toks,os⟩ (topStub PX)=some (lS w os).abs:=by have f:topRun P3 PX w 11 iO 2 (lS w os).abs (restOf [] K60.pre.env_1 kL zf BX)=some (lS w os).abs:=rfl;have a:=piece_app (OC w os) f;rw [A3] at a;obtain ⟨M,h,g⟩:=Mh (Goes.execs1 (oW w os ⟨46,0,49,21⟩)) a;have b:=K60.pre.chain PX (behindTheImports PX) w os _ M _ g;rw [<-wy] at b;have c:segRun P3 PX w 11 iO 1 1 (Bx w os).abs (blockOf (behindTheImports PX) K60.pre.env_1 kL qX BX)=some (.next,(Bx w os).abs,kL,qX):=rfl;have d:=piece_block c b;have e:=go_top (pK w os) d;refine ⟨_,?_,e⟩;simp only [Nat.add_eq];omega
noncomputable def looseX:List ZQ:=[("_wall" : ZQ),("GREATEST_WORTH" : ZQ),("is_whole" : ZQ),("is_within" : ZQ),("is_worth" : ZQ),("is_tuple_of" : ZQ),("TaleError" : ZQ),("NoDeed" : ZQ),("NoStrictness" : ZQ),("FIRST_STATES" : ZQ),("WORTHS_OF_VERBS" : ZQ),("read_state" : ZQ),("write_state" : ZQ),("add_to_number" : ZQ),("put_behind" : ZQ),("take_first" : ZQ),("put_into_set" : ZQ),("cut_from_set" : ZQ),("has_in_set" : ZQ),("swap_state" : ZQ),("DOERS" : ZQ),("is_kind" : ZQ),("first_state" : ZQ),("is_deed" : ZQ),("do" : ZQ),("deeds" : ZQ),("STRICTNESSES" : ZQ),("has_to" : ZQ),("check_strictness" : ZQ),("goes_ahead" : ZQ),("Candidate" : ZQ),("Board" : ZQ),("step_of" : ZQ),("ended_numbers" : ZQ),("holds_all" : ZQ),("first_place" : ZQ),("all_places" : ZQ),("next_layer" : ZQ),("judged" : ZQ),("stuck_paper" : ZQ),("_law_cell_at" : ZQ),("_law_take" : ZQ),("_law_do" : ZQ),("_law_first" : ZQ),("_law_worth" : ZQ),("_law_verb" : ZQ),("_law_things" : ZQ),("_law_applied" : ZQ),("_law_tale" : ZQ),("_law_deeds" : ZQ),("_law_is_ahead" : ZQ),("_law_may_be_next" : ZQ),("_law_nexts" : ZQ),("_law_is_full" : ZQ),("_law_places" : ZQ),("_law_is_good" : ZQ),("_law_due" : ZQ),("_law_rank" : ZQ),("_law_told" : ZQ)]
noncomputable def viewX:ZI:={ PX with main:={ PX.main with body:=(PX.main.body[68]?).toList } }
noncomputable def top (i:Nat):ZK:=PX.main.body.getD i (.Pass ⟨0,0,0,0⟩)
noncomputable def fT (s:ZK) (j:Nat):ZK:=match s with
 | .ClassDef _ _ _ b _ _ _ _ _ _ _=>b.getD j s
 | _=>s
noncomputable def Pj:List ZR:=[3,27,28,34,35,41,42,48,49,50,52,57,58,59,63,65,70,71,72,75,77,82,83,84,87,88,89,90,96,97,103,104,110,111,117,118,124,125,131,132,136,137,143,144,150,151,152,153,154,155,156,157,158,159,160,161,162,163,164,170,171,177,178,182,183,189,190,196,197,198,204,205,211,212,218,219,220,222,230,231,237,238,239,240,241,246,248,256,257,263,264,270,271,279,280,281,291,292,296,297,301,302,306,307,313,314,320,321,327,328,334,335,341,342,348,349,353,354,358,359,365,366,372,373,377,378,382,383,387,388,394,395,401,402,408,409,415,416,420,421,427,428,432,433,439,440,446,447,453,454,460,461]
noncomputable def KX (P:Q0):Frag:=[
 (3,⟨(.type "dict"),none,(.dict #[⟨(d0 P "__name__"),(.str "__name__" 165),(.str "law_talejudge_k60_stuck_papers_told" 716)⟩,⟨(d0 P "__doc__"),(.str "__doc__" 166),.none⟩,⟨(d0 P "__package__"),(.str "__package__" 167),.none⟩,⟨(d0 P "__loader__"),(.str "__loader__" 168),(.builtin "__main__.__loader__#opaque")⟩,⟨(d0 P "__spec__"),(.str "__spec__" 169),.none⟩,kR P "__annotations__" 170 6,kR P "__builtins__" 171 4,⟨(d0 P "__file__"),(.str "__file__" 173),(.str "/claim/cut.py" 172)⟩,⟨(d0 P "__cached__"),(.str "__cached__" 174),.none⟩,kR P "_wall" 193 21,⟨(d0 P "GREATEST_WORTH"),(.str "GREATEST_WORTH" 197),(.int (1000000000) 196)⟩,kR P "is_whole" 204 28,kR P "is_within" 212 35,kR P "is_worth" 219 42,kR P "is_tuple_of" 227 49,kR P "TaleError" 247 59,kR P "NoDeed" 263 72,kR P "NoStrictness" 279 84,kR P "FIRST_STATES" 295 87,kR P "WORTHS_OF_VERBS" 320 90,kR P "read_state" 328 97,kR P "write_state" 336 104,kR P "add_to_number" 344 111,kR P "put_behind" 352 118,kR P "take_first" 360 125,kR P "put_into_set" 368 132,kR P "cut_from_set" 374 137,kR P "has_in_set" 382 144,kR P "swap_state" 390 151,kR P "DOERS" 451 152,kR P "is_kind" 458 171,kR P "first_state" 465 178,kR P "is_deed" 471 183,kR P "do" 482 190,kR P "deeds" 497 197,kR P "STRICTNESSES" 503 198,kR P "has_to" 517 205,kR P "check_strictness" 524 212,kR P "goes_ahead" 533 219,kR P "Candidate" 579 241,kR P "Board" 636 281,kR P "step_of" 648 292,kR P "ended_numbers" 654 297,kR P "holds_all" 660 302,kR P "first_place" 666 307,kR P "all_places" 677 314,kR P "next_layer" 688 321,kR P "judged" 705 328,kR P "stuck_paper" 715 335,kR P "_law_cell_at" 725 342,kR P "_law_take" 735 349,kR P "_law_do" 741 354,kR P "_law_first" 747 359,kR P "_law_worth" 754 366,kR P "_law_verb" 764 373,kR P "_law_things" 770 378,kR P "_law_applied" 776 383,kR P "_law_tale" 782 388,kR P "_law_deeds" 793 395,kR P "_law_is_ahead" 802 402,kR P "_law_may_be_next" 813 409,kR P "_law_nexts" 829 416,kR P "_law_is_full" 835 421,kR P "_law_places" 850 428,kR P "_law_is_good" 856 433,kR P "_law_due" 864 440,kR P "_law_rank" 871 447,kR P "_law_told" 881 454,kR P "law" 891 461] 69),#[]⟩),
 (27,cO "is_whole" "is_whole" 198 6 1 22 202),
 (28,fO "is_whole" "is_whole" (top 3) "talejudge.basics" 194 27),
 (34,cO "is_within" "is_within" 205 8 2 29 210),
 (35,fO "is_within" "is_within" (top 4) "talejudge.basics" 194 34),
 (41,cO "is_worth" "is_worth" 213 10 1 36 217),
 (42,fO "is_worth" "is_worth" (top 5) "talejudge.basics" 194 41),
 (48,cO "is_tuple_of" "is_tuple_of" 220 12 2 43 225),
 (49,fO "is_tuple_of" "is_tuple_of" (top 6) "talejudge.basics" 194 48),
 (50,⟨(.type "tuple"),none,(.seq #[(.type "ValueError")] 0),#[]⟩),
 (52,⟨(.type "dict"),none,(.dict #[⟨(d0 P "__module__"),(.str "__module__" 237),(.str "talejudge.errors" 228)⟩,⟨(d0 P "__qualname__"),(.str "__qualname__" 239),(.str "TaleError" 238)⟩,⟨(d0 P "__firstlineno__"),(.str "__firstlineno__" 241),(.int (15) 240)⟩,kR P "__static_attributes__" 242 57] 4),#[]⟩),
 (57,⟨(.type "tuple"),none,(.seq #[] 0),#[]⟩),
 (58,⟨(.type "dict"),none,(.dict #[⟨(d0 P "__module__"),(.str "__module__" 237),(.str "talejudge.errors" 228)⟩,⟨(d0 P "__firstlineno__"),(.str "__firstlineno__" 241),(.int (15) 240)⟩,kR P "__static_attributes__" 242 57,kR P "__weakref__" 244 60,⟨(d0 P "__doc__"),(.str "__doc__" 245),.none⟩] 3),#[]⟩),
 (59,⟨(.type "type"),none,(.cls ⟨"TaleError",[(.type "ValueError")],[(.ref 59),(.type "ValueError"),(.type "Exception"),(.type "BaseException"),(.type "object")],58,"TaleError",true,[],[(.ref 72),(.ref 84)],false,none,false⟩),#[some (.ref 50),none,some (.str "TaleError" 230),some (.str "TaleError" 238),some (.builtin "ValueError.__new__"),some (.bool true)]⟩),
 (63,⟨(.type "tuple"),none,(.seq #[(.ref 59)] 0),#[]⟩),
 (65,⟨(.type "dict"),none,(.dict #[⟨(d0 P "__module__"),(.str "__module__" 255),(.str "talejudge.errors" 228)⟩,⟨(d0 P "__qualname__"),(.str "__qualname__" 257),(.str "NoDeed" 256)⟩,⟨(d0 P "__firstlineno__"),(.str "__firstlineno__" 259),(.int (17) 258)⟩,kR P "__static_attributes__" 260 70] 4),#[]⟩),
 (70,⟨(.type "tuple"),none,(.seq #[] 0),#[]⟩),
 (71,⟨(.type "dict"),none,(.dict #[⟨(d0 P "__module__"),(.str "__module__" 255),(.str "talejudge.errors" 228)⟩,⟨(d0 P "__firstlineno__"),(.str "__firstlineno__" 259),(.int (17) 258)⟩,kR P "__static_attributes__" 260 70,⟨(d0 P "__doc__"),(.str "__doc__" 261),.none⟩] 2),#[]⟩),
 (72,⟨(.type "type"),none,(.cls ⟨"NoDeed",[(.ref 59)],[(.ref 72),(.ref 59),(.type "ValueError"),(.type "Exception"),(.type "BaseException"),(.type "object")],71,"NoDeed",true,[],[],false,none,false⟩),#[some (.ref 63),none,some (.str "NoDeed" 248),some (.str "NoDeed" 256),some (.builtin "ValueError.__new__"),some (.bool true)]⟩),
 (75,⟨(.type "tuple"),none,(.seq #[(.ref 59)] 0),#[]⟩),
 (77,⟨(.type "dict"),none,(.dict #[⟨(d0 P "__module__"),(.str "__module__" 271),(.str "talejudge.errors" 228)⟩,⟨(d0 P "__qualname__"),(.str "__qualname__" 273),(.str "NoStrictness" 272)⟩,⟨(d0 P "__firstlineno__"),(.str "__firstlineno__" 275),(.int (19) 274)⟩,kR P "__static_attributes__" 276 82] 4),#[]⟩),
 (82,⟨(.type "tuple"),none,(.seq #[] 0),#[]⟩),
 (83,⟨(.type "dict"),none,(.dict #[⟨(d0 P "__module__"),(.str "__module__" 271),(.str "talejudge.errors" 228)⟩,⟨(d0 P "__firstlineno__"),(.str "__firstlineno__" 275),(.int (19) 274)⟩,kR P "__static_attributes__" 276 82,⟨(d0 P "__doc__"),(.str "__doc__" 277),.none⟩] 2),#[]⟩),
 (84,⟨(.type "type"),none,(.cls ⟨"NoStrictness",[(.ref 59)],[(.ref 84),(.ref 59),(.type "ValueError"),(.type "Exception"),(.type "BaseException"),(.type "object")],83,"NoStrictness",true,[],[],false,none,false⟩),#[some (.ref 75),none,some (.str "NoStrictness" 264),some (.str "NoStrictness" 272),some (.builtin "ValueError.__new__"),some (.bool true)]⟩),
 (87,⟨(.type "dict"),none,(.dict #[⟨(d0 P "register"),(.str "register" 282),(.int (0) 283)⟩,⟨(d0 P "counter"),(.str "counter" 284),(.int (0) 285)⟩,kR P "queue" 286 88,kR P "set" 287 89,⟨(d0 P "cell"),(.str "cell" 288),(.int (0) 289)⟩] 5),#[]⟩),
 (88,⟨(.type "tuple"),none,(.seq #[] 0),#[]⟩),
 (89,⟨(.type "tuple"),none,(.seq #[] 0),#[]⟩),
 (90,⟨(.type "dict"),none,(.dict #[⟨(d0 P "read"),(.str "read" 296),(.int (0) 297)⟩,⟨(d0 P "take"),(.str "take" 298),(.int (0) 299)⟩,⟨(d0 P "write"),(.str "write" 300),(.int (1) 301)⟩,⟨(d0 P "add"),(.str "add" 302),(.int (1) 303)⟩,⟨(d0 P "put"),(.str "put" 304),(.int (1) 305)⟩,⟨(d0 P "cut"),(.str "cut" 306),(.int (1) 307)⟩,⟨(d0 P "has"),(.str "has" 308),(.int (1) 309)⟩,⟨(d0 P "swap"),(.str "swap" 310),(.int (2) 311)⟩] 8),#[]⟩),
 (96,cO "read_state" "read_state" 321 24 2 91 326),
 (97,fO "read_state" "read_state" (top 14) "talejudge.store" 280 96),
 (103,cO "write_state" "write_state" 329 26 2 98 334),
 (104,fO "write_state" "write_state" (top 15) "talejudge.store" 280 103),
 (110,cO "add_to_number" "add_to_number" 337 28 2 105 342),
 (111,fO "add_to_number" "add_to_number" (top 16) "talejudge.store" 280 110),
 (117,cO "put_behind" "put_behind" 345 30 2 112 350),
 (118,fO "put_behind" "put_behind" (top 17) "talejudge.store" 280 117),
 (124,cO "take_first" "take_first" 353 32 2 119 358),
 (125,fO "take_first" "take_first" (top 18) "talejudge.store" 280 124),
 (131,cO "put_into_set" "put_into_set" 361 36 2 126 366),
 (132,fO "put_into_set" "put_into_set" (top 19) "talejudge.store" 280 131),
 (136,cP "cut_from_set" "cut_from_set" 369 40 2 133 372),
 (137,fO "cut_from_set" "cut_from_set" (top 20) "talejudge.store" 280 136),
 (143,cO "has_in_set" "has_in_set" 375 44 2 138 380),
 (144,fO "has_in_set" "has_in_set" (top 21) "talejudge.store" 280 143),
 (150,cO "swap_state" "swap_state" 383 46 2 145 388),
 (151,fO "swap_state" "swap_state" (top 22) "talejudge.store" 280 150),
 (152,⟨(.type "dict"),none,(.dict #[⟨(T1 (t0 [d0 P "register",d0 P "read"])),(.ref 153),(.ref 97)⟩,⟨(T1 (t0 [d0 P "register",d0 P "write"])),(.ref 154),(.ref 104)⟩,⟨(T1 (t0 [d0 P "counter",d0 P "read"])),(.ref 155),(.ref 97)⟩,⟨(T1 (t0 [d0 P "counter",d0 P "add"])),(.ref 156),(.ref 111)⟩,⟨(T1 (t0 [d0 P "queue",d0 P "put"])),(.ref 157),(.ref 118)⟩,⟨(T1 (t0 [d0 P "queue",d0 P "take"])),(.ref 158),(.ref 125)⟩,⟨(T1 (t0 [d0 P "set",d0 P "put"])),(.ref 159),(.ref 132)⟩,⟨(T1 (t0 [d0 P "set",d0 P "cut"])),(.ref 160),(.ref 137)⟩,⟨(T1 (t0 [d0 P "set",d0 P "has"])),(.ref 161),(.ref 144)⟩,⟨(T1 (t0 [d0 P "cell",d0 P "read"])),(.ref 162),(.ref 97)⟩,⟨(T1 (t0 [d0 P "cell",d0 P "write"])),(.ref 163),(.ref 104)⟩,⟨(T1 (t0 [d0 P "cell",d0 P "swap"])),(.ref 164),(.ref 151)⟩] 12),#[]⟩),
 (153,⟨(.type "tuple"),none,(.seq #[(.str "register" 391),(.str "read" 392)] 0),#[]⟩),
 (154,⟨(.type "tuple"),none,(.seq #[(.str "register" 393),(.str "write" 394)] 0),#[]⟩),
 (155,⟨(.type "tuple"),none,(.seq #[(.str "counter" 395),(.str "read" 396)] 0),#[]⟩),
 (156,⟨(.type "tuple"),none,(.seq #[(.str "counter" 397),(.str "add" 398)] 0),#[]⟩),
 (157,⟨(.type "tuple"),none,(.seq #[(.str "queue" 399),(.str "put" 400)] 0),#[]⟩),
 (158,⟨(.type "tuple"),none,(.seq #[(.str "queue" 401),(.str "take" 402)] 0),#[]⟩),
 (159,⟨(.type "tuple"),none,(.seq #[(.str "set" 403),(.str "put" 404)] 0),#[]⟩),
 (160,⟨(.type "tuple"),none,(.seq #[(.str "set" 405),(.str "cut" 406)] 0),#[]⟩),
 (161,⟨(.type "tuple"),none,(.seq #[(.str "set" 407),(.str "has" 408)] 0),#[]⟩),
 (162,⟨(.type "tuple"),none,(.seq #[(.str "cell" 409),(.str "read" 410)] 0),#[]⟩),
 (163,⟨(.type "tuple"),none,(.seq #[(.str "cell" 411),(.str "write" 412)] 0),#[]⟩),
 (164,⟨(.type "tuple"),none,(.seq #[(.str "cell" 413),(.str "swap" 414)] 0),#[]⟩),
 (170,cO "is_kind" "is_kind" 452 51 1 165 456),
 (171,fO "is_kind" "is_kind" (top 24) "talejudge.store" 280 170),
 (177,cO "first_state" "first_state" 459 53 1 172 463),
 (178,fO "first_state" "first_state" (top 25) "talejudge.store" 280 177),
 (182,cP "is_deed" "is_deed" 466 57 3 179 469),
 (183,fO "is_deed" "is_deed" (top 26) "talejudge.store" 280 182),
 (189,cO "do" "do" 472 66 4 184 480),
 (190,fO "do" "do" (top 27) "talejudge.store" 280 189),
 (196,cO "deeds" "deeds" 485 72 1 191 495),
 (197,fO "deeds" "deeds" (top 29) "talejudge.tales" 483 196),
 (198,⟨(.type "tuple"),none,(.seq #[(.str "strict" 500),(.str "hands" 501),(.str "bare" 502)] 0),#[]⟩),
 (204,cO "has_to" "has_to" 504 86 2 199 515),
 (205,fO "has_to" "has_to" (top 32) "talejudge.orders" 498 204),
 (211,cO "check_strictness" "check_strictness" 518 95 1 206 522),
 (212,fO "check_strictness" "check_strictness" (top 33) "talejudge.orders" 498 211),
 (218,cO "goes_ahead" "goes_ahead" 525 98 3 213 531),
 (219,fO "goes_ahead" "goes_ahead" (top 34) "talejudge.orders" 498 218),
 (220,⟨(.type "tuple"),none,(.seq #[] 0),#[]⟩),
 (222,⟨(.type "dict"),none,(.dict #[⟨(d0 P "__module__"),(.str "__module__" 543),(.str "talejudge.places" 534)⟩,⟨(d0 P "__qualname__"),(.str "__qualname__" 545),(.str "Candidate" 544)⟩,⟨(d0 P "__firstlineno__"),(.str "__firstlineno__" 547),(.int (105) 546)⟩,kR P "__init__" 553 231,kR P "may_stand" 563 238,kR P "__static_attributes__" 572 239] 6),#[]⟩),
 (230,cP "__init__" "Candidate.__init__" 548 107 6 227 551),
 (231,fO "__init__" "Candidate.__init__" (fT (top 36) 0) "talejudge.places" 534 230),
 (237,cO "may_stand" "Candidate.may_stand" 554 117 2 232 561),
 (238,fO "may_stand" "Candidate.may_stand" (fT (top 36) 1) "talejudge.places" 534 237),
 (239,⟨(.type "tuple"),none,(.seq #[(.str "aheads" 564),(.str "answer" 565),(.str "behinds" 566),(.str "kind" 567),(.str "number" 568),(.str "thing" 569),(.str "verb" 570),(.str "worth" 571)] 0),#[]⟩),
 (240,⟨(.type "dict"),none,(.dict #[⟨(d0 P "__module__"),(.str "__module__" 543),(.str "talejudge.places" 534)⟩,⟨(d0 P "__firstlineno__"),(.str "__firstlineno__" 547),(.int (105) 546)⟩,kR P "__init__" 553 231,kR P "may_stand" 563 238,kR P "__static_attributes__" 572 239,kR P "__dict__" 574 242,kR P "__weakref__" 576 243,⟨(d0 P "__doc__"),(.str "__doc__" 577),.none⟩] 4),#[]⟩),
 (241,⟨(.type "type"),none,(.cls ⟨"Candidate",[(.type "object")],[(.ref 241),(.type "object")],240,"Candidate",true,[],[],false,none,false⟩),#[none,none,some (.str "Candidate" 536),some (.str "Candidate" 544),some (.builtin "object.__new__"),some (.bool true)]⟩),
 (246,⟨(.type "tuple"),none,(.seq #[] 0),#[]⟩),
 (248,⟨(.type "dict"),none,(.dict #[⟨(d0 P "__module__"),(.str "__module__" 587),(.str "talejudge.places" 534)⟩,⟨(d0 P "__qualname__"),(.str "__qualname__" 589),(.str "Board" 588)⟩,⟨(d0 P "__firstlineno__"),(.str "__firstlineno__" 591),(.int (127) 590)⟩,kR P "__init__" 597 257,kR P "steps_from" 608 264,kR P "ends_at" 616 271,kR P "has_place" 624 278,kR P "__static_attributes__" 629 279] 8),#[]⟩),
 (256,cP "__init__" "Board.__init__" 592 129 3 253 595),
 (257,fO "__init__" "Board.__init__" (fT (top 37) 0) "talejudge.places" 534 256),
 (263,cO "steps_from" "Board.steps_from" 598 141 2 258 606),
 (264,fO "steps_from" "Board.steps_from" (fT (top 37) 1) "talejudge.places" 534 263),
 (270,cO "ends_at" "Board.ends_at" 609 150 2 265 614),
 (271,fO "ends_at" "Board.ends_at" (fT (top 37) 2) "talejudge.places" 534 270),
 (279,⟨(.type "tuple"),none,(.seq #[(.str "candidates" 625),(.str "ended" 626),(.str "first" 627),(.str "kinds" 628)] 0),#[]⟩),
 (280,⟨(.type "dict"),none,(.dict #[⟨(d0 P "__module__"),(.str "__module__" 587),(.str "talejudge.places" 534)⟩,⟨(d0 P "__firstlineno__"),(.str "__firstlineno__" 591),(.int (127) 590)⟩,kR P "__init__" 597 257,kR P "steps_from" 608 264,kR P "ends_at" 616 271,kR P "has_place" 624 278,kR P "__static_attributes__" 629 279,kR P "__dict__" 631 282,kR P "__weakref__" 633 283,⟨(d0 P "__doc__"),(.str "__doc__" 634),.none⟩] 4),#[]⟩),
 (281,⟨(.type "type"),none,(.cls ⟨"Board",[(.type "object")],[(.ref 281),(.type "object")],280,"Board",true,[],[],false,none,false⟩),#[none,none,some (.str "Board" 580),some (.str "Board" 588),some (.builtin "object.__new__"),some (.bool true)]⟩),
 (291,cO "step_of" "step_of" 637 155 2 286 646),
 (292,fO "step_of" "step_of" (top 38) "talejudge.places" 534 291),
 (296,cP "ended_numbers" "ended_numbers" 649 161 1 293 652),
 (297,fO "ended_numbers" "ended_numbers" (top 39) "talejudge.places" 534 296),
 (301,cP "holds_all" "holds_all" 655 163 2 298 658),
 (302,fO "holds_all" "holds_all" (top 40) "talejudge.places" 534 301),
 (306,cP "first_place" "first_place" 661 165 1 303 664),
 (307,fO "first_place" "first_place" (top 41) "talejudge.places" 534 306),
 (313,cO "all_places" "all_places" 667 167 2 308 675),
 (314,fO "all_places" "all_places" (top 42) "talejudge.places" 534 313),
 (320,cO "next_layer" "next_layer" 678 175 2 315 686),
 (321,fO "next_layer" "next_layer" (top 43) "talejudge.places" 534 320),
 (327,cO "judged" "judged" 691 182 2 322 703),
 (328,fO "judged" "judged" (top 45) "talejudge.judge" 689 327),
 (334,cO "stuck_paper" "stuck_paper" 708 196 2 329 713),
 (335,fO "stuck_paper" "stuck_paper" (top 47) "talejudge.stuck" 706 334),
 (341,cO "_law_cell_at" "_law_cell_at" 718 201 2 336 723),
 (342,fL "_law_cell_at" "_law_cell_at" (top 49) 341),
 (348,cO "_law_take" "_law_take" 726 205 2 343 733),
 (349,fL "_law_take" "_law_take" (top 50) 348),
 (353,cP "_law_do" "_law_do" 736 214 4 350 739),
 (354,fL "_law_do" "_law_do" (top 51) 353),
 (358,cP "_law_first" "_law_first" 742 237 1 355 745),
 (359,fL "_law_first" "_law_first" (top 52) 358),
 (365,cO "_law_worth" "_law_worth" 748 239 1 360 752),
 (366,fL "_law_worth" "_law_worth" (top 53) 365),
 (372,cO "_law_verb" "_law_verb" 755 241 2 367 762),
 (373,fL "_law_verb" "_law_verb" (top 54) 372),
 (377,cP "_law_things" "_law_things" 765 251 1 374 768),
 (378,fL "_law_things" "_law_things" (top 55) 377),
 (382,cP "_law_applied" "_law_applied" 771 257 3 379 774),
 (383,fL "_law_applied" "_law_applied" (top 56) 382),
 (387,cP "_law_tale" "_law_tale" 777 262 2 384 780),
 (388,fL "_law_tale" "_law_tale" (top 57) 387),
 (394,cO "_law_deeds" "_law_deeds" 783 290 1 389 791),
 (395,fL "_law_deeds" "_law_deeds" (top 58) 394),
 (401,cO "_law_is_ahead" "_law_is_ahead" 794 302 3 396 800),
 (402,fL "_law_is_ahead" "_law_is_ahead" (top 59) 401),
 (408,cO "_law_may_be_next" "_law_may_be_next" 803 306 4 403 811),
 (409,fL "_law_may_be_next" "_law_may_be_next" (top 60) 408),
 (415,cO "_law_nexts" "_law_nexts" 814 313 4 410 827),
 (416,fL "_law_nexts" "_law_nexts" (top 61) 415),
 (420,cP "_law_is_full" "_law_is_full" 830 323 2 417 833),
 (421,fL "_law_is_full" "_law_is_full" (top 62) 420),
 (427,cO "_law_places" "_law_places" 836 325 2 422 848),
 (428,fL "_law_places" "_law_places" (top 63) 427),
 (432,cP "_law_is_good" "_law_is_good" 851 336 2 429 854),
 (433,fL "_law_is_good" "_law_is_good" (top 64) 432),
 (439,cO "_law_due" "_law_due" 857 339 2 434 862),
 (440,fL "_law_due" "_law_due" (top 65) 439),
 (446,cO "_law_rank" "_law_rank" 865 343 1 441 869),
 (447,fL "_law_rank" "_law_rank" (top 66) 446),
 (453,cO "_law_told" "_law_told" 872 345 3 448 879),
 (454,fL "_law_told" "_law_told" (top 67) 453),
 (460,cO "law" "law" 882 354 1 455 889),
 (461,fL "law" "law" (top 68) 460)]
noncomputable def HX:Hook:=kHook KX Pj (λ _=>by kernel_rfl)
noncomputable abbrev XtX:A0->Bool:=λ s=>xlAt viewX [] s && recOk (RowW.records (OpenRow.toRowW PySem.Challenge.rw_talejudge_k60_stuck_papers_told.row)) s
def tm (w:X0) (os:B3):(staticsOk (i8 PX.main.body) (boot_heap w.params) (lS w os).abs.heap && namesBound PX (lS w os).abs.heap && gensDone (lS w os).abs && laidKept (boot_heap w.params) (lS w os).abs.heap)=true:=by kernel_rfl
def uK (w:X0) (os:B3):openSeen viewX looseX (i8 PX.main.body) XtX true (lS w os).abs=openGood viewX looseX:=by rw [PySem.W.Fast.te4187177175401517315];kernel_rfl
def uS (w:X0) (os:B3):Hook.obs HX (lS w os).abs=Hook.val HX w:=by kernel_rfl
def leftX:LeftO PX viewX looseX XtX (Hook.obs HX) (Hook.val HX) 200000:=
 NS (H₀:=boot_heap) (gs₀:=Array.mk []) (boot_open (by kernel_rfl) '!' (λ s=>rfl)) (λ w=>by kernel_rfl) OW tm uK uS
end K60
namespace L2
def ay.k {N P:List ZQ} {sc:ZC} (a:sc.kind=.function:=by exact rfl) (b:sc.isCoroutine=false:=by exact rfl) (c:sc.isGenerator=false:=by exact rfl) (d:N.Nodup:=by decide +kernel) (e:N.take P.length=P:=by exact rfl) (f :∀x∈P,sc.names.lookup x=some .local\/sc.names.lookup x=some .cell:=by decide +kernel) (g :∀y∈sc.names,y.2≠.free:=by decide +kernel):ay N P sc:=⟨a,b,c,d,e,f,g⟩
def eZ {H:Hp} {p:ZR} (o:HO) (h:H p=none) :∃H',H'=upd H p o/\af H H'/\H' p=some o:=⟨_,rfl,af.upd h,ab⟩
def bB {c A B:Prop} [Decidable c] (h:B) (hc:¬ c:=by decide +kernel):if c then A else B:=bH hc h
def bT {X:Cx} {scope:ZC} {cl:List (ZQ×ZR)} {N:List ZQ} {C:ZR} {s₂:A0} {H₂:Hp} {fp:List ZR} {x:ZQ} {px:ZO} (i:Nat) (hN:N.Nodup:=by decide +kernel) (hi:N[i]? = some x:=by exact rfl) (hx:scope.names.lookup x=some .local:=by exact rfl):PG (cB X scope cl N C s₂ H₂ fp) (.Name x px) (bu i):=JI i hN hi hx
def eE {X:Cx} {xs:List ZQ} {tg:ZM} {g:TG} {pos:ZO} {elt iter:ZM} {ifs:List ZM} {scope:ZC} {fr:List (Nat×ZQ)} {wi:TI} {tc:TT} {te:TE} (hi:PI X tg iter wi)
  (hg :∀cl C s₂ H₂ fp,PG (cB X scope cl (xs++fr.map (·.2)) C s₂ H₂ fp) tg g)
  (ht :∀cl C s₂ H₂ fp,PF (cB X scope cl (xs++fr.map (·.2)) C s₂ H₂ fp) ifs tc) (he :∀cl C s₂ H₂ fp,PE (cB X scope cl (xs++fr.map (·.2)) C s₂ H₂ fp) elt te) (hcalm:X.calm=true:=by exact rfl)
  (hfr :∀p∈fr,X.N[p.1]? = some p.2/\(X.env.kindOf p.2=some .cell\/X.env.kindOf p.2=some .free):=by first|exact λ _ z=>ZU z u0|(intro p hp;obtain rfl:=List.mem_singleton.mp hp;first|exact ⟨rfl,.inl rfl⟩|exact ⟨rfl,.inr rfl⟩))
  (hin:(scope.names.all λ y=>y.2 != E2 || fr.any λ p=>p.2 == y.1)=true:=by decide +kernel)
  (hfs :∀p∈fr,(p.2,E2)∈scope.names/\((A9 scope X.env).names.lookup p.2=some .cell\/(A9 scope X.env).names.lookup p.2=some .free):=by first|exact λ _ z=>ZU z u0|(intro p hp;obtain rfl:=List.mem_singleton.mp hp;exact ⟨by decide +kernel,by first|exact .inl rfl|exact .inr rfl⟩))
  (hcell :∀y∈scope.names,y.2≠NameKind.cell:=by decide +kernel) (hkind:scope.kind=.function:=by exact rfl) (hnames :∀y∈scope.names,y.2=NameKind.local->scope.names.lookup y.1=some .local:=by decide +kernel)
  (hs :∀x,c6 iter X.env x=Y1 x:=by intro _;rfl):PE X (.ListComp elt [⟨tg,iter,ifs,0⟩] scope pos) (cH wi xs.length fr g tc te):=
 CS hcalm hi hfr (λ y a e=>by
  have h:=List.all_eq_true.mp hin y a;rw [e] at h;obtain ⟨p,hp,z⟩:=List.any_eq_true.mp (show fr.any (λ p=>p.2 == y.1)=true from h);have:=(hfr p hp).2
  rwa [eq_of_beq z] at this) hfs hcell hkind hnames hg ht he hs
end L2
namespace K60
open TJ L2
abbrev Gg (n:ZQ) (a:ZR):Prop:=∀P,F7 (KX P) N3 n=some (some (.ref a))
abbrev Gn (n:ZQ):Prop:=∀P,F7 (KX P) N3 n=some none
noncomputable abbrev kx (w:X0):=KX w.params
noncomputable abbrev Ca (P:ZI) (w:X0) (mg:ZQ->Option ZF) (base:ZL):=wh P w (KX w.params) mg base
noncomputable abbrev RF (P:ZI) (w:X0) (mg:ZQ->Option ZF) (base:ZL):=Aq P w (KX w.params) mg base
noncomputable abbrev Fo (P:ZI) (w:X0) (mg:ZQ->Option ZF) (base:ZL):=fH P w (KX w.params) mg base
def oK:Gn "isinstance":=λ _=>by kernel_rfl
def dq:Gn "len":=λ _=>by kernel_rfl
def oI:Gn "all":=λ _=>by kernel_rfl
def uo:Gn "max":=λ _=>by kernel_rfl
def tU:Gn "min":=λ _=>by kernel_rfl
def jZ:Gn "int":=λ _=>by kernel_rfl
def lV:Gn "str":=λ _=>by kernel_rfl
def pI:Gn "bool":=λ _=>by kernel_rfl
def lG:Gn "tuple":=λ _=>by kernel_rfl
def rm:Gn "list":=λ _=>by kernel_rfl
def sk:Gn "range":=λ _=>by kernel_rfl
def qv:Gn "sorted":=λ _=>by kernel_rfl
def wc:Gn "sum":=λ _=>by kernel_rfl
def uH:Gn "enumerate":=λ _=>by kernel_rfl
def Jc:Gn "reversed":=λ _=>by kernel_rfl
def Qd (P:Q0):F7 (KX P) N3 "GREATEST_WORTH" = some (some (.int (1000000000) 196)):=by kernel_rfl
def Oe:Gg "is_whole" 28:=λ _=>by kernel_rfl
def Qn:Gg "is_within" 35:=λ _=>by kernel_rfl
def NJ:Gg "is_worth" 42:=λ _=>by kernel_rfl
def OD:Gg "is_tuple_of" 49:=λ _=>by kernel_rfl
def Fj:Gg "FIRST_STATES" 87:=λ _=>by kernel_rfl
def PR:Gg "WORTHS_OF_VERBS" 90:=λ _=>by kernel_rfl
def GE:Gg "read_state" 97:=λ _=>by kernel_rfl
def Ga:Gg "write_state" 104:=λ _=>by kernel_rfl
def Hm:Gg "add_to_number" 111:=λ _=>by kernel_rfl
def Fw:Gg "put_behind" 118:=λ _=>by kernel_rfl
def Dy:Gg "take_first" 125:=λ _=>by kernel_rfl
def CN:Gg "put_into_set" 132:=λ _=>by kernel_rfl
def Iq:Gg "cut_from_set" 137:=λ _=>by kernel_rfl
def FH:Gg "has_in_set" 144:=λ _=>by kernel_rfl
def GJ:Gg "swap_state" 151:=λ _=>by kernel_rfl
def GF:Gg "DOERS" 152:=λ _=>by kernel_rfl
def LG:Gg "is_kind" 171:=λ _=>by kernel_rfl
def PL:Gg "first_state" 178:=λ _=>by kernel_rfl
def LN:Gg "is_deed" 183:=λ _=>by kernel_rfl
def yh:Gg "do" 190:=λ _=>by kernel_rfl
def Lw:Gg "deeds" 197:=λ _=>by kernel_rfl
def KY:Gg "STRICTNESSES" 198:=λ _=>by kernel_rfl
def LU:Gg "has_to" 205:=λ _=>by kernel_rfl
def Oi:Gg "check_strictness" 212:=λ _=>by kernel_rfl
def Ls:Gg "goes_ahead" 219:=λ _=>by kernel_rfl
def NK:Gg "Candidate" 241:=λ _=>by kernel_rfl
def FB:Gg "Board" 281:=λ _=>by kernel_rfl
def Nh:Gg "step_of" 292:=λ _=>by kernel_rfl
def MP:Gg "ended_numbers" 297:=λ _=>by kernel_rfl
def Ji:Gg "holds_all" 302:=λ _=>by kernel_rfl
def MO:Gg "first_place" 307:=λ _=>by kernel_rfl
def JH:Gg "all_places" 314:=λ _=>by kernel_rfl
def Nu:Gg "next_layer" 321:=λ _=>by kernel_rfl
def KG:Gg "judged" 328:=λ _=>by kernel_rfl
def LO:Gg "stuck_paper" 335:=λ _=>by kernel_rfl
def JF:Gg "_law_cell_at" 342:=λ _=>by kernel_rfl
def Oz:Gg "_law_take" 349:=λ _=>by kernel_rfl
def Kb:Gg "_law_do" 354:=λ _=>by kernel_rfl
def JU:Gg "_law_first" 359:=λ _=>by kernel_rfl
def NX:Gg "_law_worth" 366:=λ _=>by kernel_rfl
def Pq:Gg "_law_verb" 373:=λ _=>by kernel_rfl
def Pd:Gg "_law_things" 378:=λ _=>by kernel_rfl
def Pe:Gg "_law_applied" 383:=λ _=>by kernel_rfl
def JT:Gg "_law_tale" 388:=λ _=>by kernel_rfl
def Mi:Gg "_law_deeds" 395:=λ _=>by kernel_rfl
def OF:Gg "_law_is_ahead" 402:=λ _=>by kernel_rfl
def IT:Gg "_law_may_be_next" 409:=λ _=>by kernel_rfl
def LP:Gg "_law_nexts" 416:=λ _=>by kernel_rfl
def LD:Gg "_law_is_full" 421:=λ _=>by kernel_rfl
def OS:Gg "_law_places" 428:=λ _=>by kernel_rfl
def OB:Gg "_law_is_good" 433:=λ _=>by kernel_rfl
def Oc:Gg "_law_due" 440:=λ _=>by kernel_rfl
def KP:Gg "_law_rank" 447:=λ _=>by kernel_rfl
def LL:Gg "_law_told" 454:=λ _=>by kernel_rfl
def g_law:Gg "law" 461:=λ _=>by kernel_rfl
noncomputable def bh:List (ZQ×V):=[("register",.int (0)),("counter",.int (0)),("queue",.ref 88),("set",.ref 89),("cell",.int (0))]
def GH (P:Q0):h_ (KX P) P 87 bh:=⟨⟨#[⟨(d0 P "register"),(.str "register" 282),(.int (0) 283)⟩,⟨(d0 P "counter"),(.str "counter" 284),(.int (0) 285)⟩,⟨(d0 P "queue"),(.str "queue" 286),(.ref 88)⟩,⟨(d0 P "set"),(.str "set" 287),(.ref 89)⟩,⟨(d0 P "cell"),(.str "cell" 288),(.int (0) 289)⟩],5,by kernel_rfl,(.cons ⟨⟨_,rfl⟩,rfl,⟨_,rfl⟩⟩ (.cons ⟨⟨_,rfl⟩,rfl,⟨_,rfl⟩⟩ (.cons ⟨⟨_,rfl⟩,rfl,rfl⟩ (.cons ⟨⟨_,rfl⟩,rfl,rfl⟩ (.cons ⟨⟨_,rfl⟩,rfl,⟨_,rfl⟩⟩ .nil)))))⟩,'!'⟩
noncomputable def aY:List (ZQ×V):=[("read",.int (0)),("take",.int (0)),("write",.int (1)),("add",.int (1)),("put",.int (1)),("cut",.int (1)),("has",.int (1)),("swap",.int (2))]
def Ry (P:Q0):h_ (KX P) P 90 aY:=⟨⟨#[⟨(d0 P "read"),(.str "read" 296),(.int (0) 297)⟩,⟨(d0 P "take"),(.str "take" 298),(.int (0) 299)⟩,⟨(d0 P "write"),(.str "write" 300),(.int (1) 301)⟩,⟨(d0 P "add"),(.str "add" 302),(.int (1) 303)⟩,⟨(d0 P "put"),(.str "put" 304),(.int (1) 305)⟩,⟨(d0 P "cut"),(.str "cut" 306),(.int (1) 307)⟩,⟨(d0 P "has"),(.str "has" 308),(.int (1) 309)⟩,⟨(d0 P "swap"),(.str "swap" 310),(.int (2) 311)⟩],8,by kernel_rfl,(.cons ⟨⟨_,rfl⟩,rfl,⟨_,rfl⟩⟩ (.cons ⟨⟨_,rfl⟩,rfl,⟨_,rfl⟩⟩ (.cons ⟨⟨_,rfl⟩,rfl,⟨_,rfl⟩⟩ (.cons ⟨⟨_,rfl⟩,rfl,⟨_,rfl⟩⟩ (.cons ⟨⟨_,rfl⟩,rfl,⟨_,rfl⟩⟩ (.cons ⟨⟨_,rfl⟩,rfl,⟨_,rfl⟩⟩ (.cons ⟨⟨_,rfl⟩,rfl,⟨_,rfl⟩⟩ (.cons ⟨⟨_,rfl⟩,rfl,⟨_,rfl⟩⟩ .nil))))))))⟩,'!'⟩
noncomputable def dP:List ((ZQ×ZQ)×V):=[(("register","read"),.ref 97),(("register","write"),.ref 104),(("counter","read"),.ref 97),(("counter","add"),.ref 111),(("queue","put"),.ref 118),(("queue","take"),.ref 125),(("set","put"),.ref 132),(("set","cut"),.ref 137),(("set","has"),.ref 144),(("cell","read"),.ref 97),(("cell","write"),.ref 104),(("cell","swap"),.ref 151)]
def Ew (P:Q0):gQ (KX P) P 152 dP:=⟨⟨#[⟨(T1 (t0 [d0 P "register",d0 P "read"])),(.ref 153),(.ref 97)⟩,⟨(T1 (t0 [d0 P "register",d0 P "write"])),(.ref 154),(.ref 104)⟩,⟨(T1 (t0 [d0 P "counter",d0 P "read"])),(.ref 155),(.ref 97)⟩,⟨(T1 (t0 [d0 P "counter",d0 P "add"])),(.ref 156),(.ref 111)⟩,⟨(T1 (t0 [d0 P "queue",d0 P "put"])),(.ref 157),(.ref 118)⟩,⟨(T1 (t0 [d0 P "queue",d0 P "take"])),(.ref 158),(.ref 125)⟩,⟨(T1 (t0 [d0 P "set",d0 P "put"])),(.ref 159),(.ref 132)⟩,⟨(T1 (t0 [d0 P "set",d0 P "cut"])),(.ref 160),(.ref 137)⟩,⟨(T1 (t0 [d0 P "set",d0 P "has"])),(.ref 161),(.ref 144)⟩,⟨(T1 (t0 [d0 P "cell",d0 P "read"])),(.ref 162),(.ref 97)⟩,⟨(T1 (t0 [d0 P "cell",d0 P "write"])),(.ref 163),(.ref 104)⟩,⟨(T1 (t0 [d0 P "cell",d0 P "swap"])),(.ref 164),(.ref 151)⟩],12,by kernel_rfl,(.cons ⟨⟨153,391,392,0,rfl,by kernel_rfl⟩,rfl,rfl⟩ (.cons ⟨⟨154,393,394,0,rfl,by kernel_rfl⟩,rfl,rfl⟩ (.cons ⟨⟨155,395,396,0,rfl,by kernel_rfl⟩,rfl,rfl⟩ (.cons ⟨⟨156,397,398,0,rfl,by kernel_rfl⟩,rfl,rfl⟩ (.cons ⟨⟨157,399,400,0,rfl,by kernel_rfl⟩,rfl,rfl⟩ (.cons ⟨⟨158,401,402,0,rfl,by kernel_rfl⟩,rfl,rfl⟩ (.cons ⟨⟨159,403,404,0,rfl,by kernel_rfl⟩,rfl,rfl⟩ (.cons ⟨⟨160,405,406,0,rfl,by kernel_rfl⟩,rfl,rfl⟩ (.cons ⟨⟨161,407,408,0,rfl,by kernel_rfl⟩,rfl,rfl⟩ (.cons ⟨⟨162,409,410,0,rfl,by kernel_rfl⟩,rfl,rfl⟩ (.cons ⟨⟨163,411,412,0,rfl,by kernel_rfl⟩,rfl,rfl⟩ (.cons ⟨⟨164,413,414,0,rfl,by kernel_rfl⟩,rfl,rfl⟩ .nil))))))))))))⟩,by decide +kernel,'!'⟩
noncomputable abbrev GQ:ZK:=top 3
noncomputable abbrev yg:ZH:=fnX "is_whole" "is_whole" (top 3) "talejudge.basics" 194 27
def Bc (P:Q0):cA (KX P) "is_whole" "is_whole" GQ 28 yg:=de
def Qq (P:Q0):Binds (KX P) yg ["value"] []:=(Bc P).binds λ _ _ _ _ _ _=>kX λ _=>rfl
def NU:ay ["value"] ["value"] (cg GQ):=.k
noncomputable abbrev ER:ZK:=top 4
noncomputable abbrev yX:ZH:=fnX "is_within" "is_within" (top 4) "talejudge.basics" 194 34
def yd (P:Q0):cA (KX P) "is_within" "is_within" ER 35 yX:=de
def LV (P:Q0):Binds (KX P) yX ["value","greatest"] []:=(yd P).binds λ _ _ _ _ _ _=>gi λ _ _=>rfl
def Mj:ay ["value","greatest"] ["value","greatest"] (cg ER):=.k
noncomputable abbrev Et:ZK:=top 5
noncomputable abbrev yV:ZH:=fnX "is_worth" "is_worth" (top 5) "talejudge.basics" 194 41
def yW (P:Q0):cA (KX P) "is_worth" "is_worth" Et 42 yV:=de
def QJ (P:Q0):Binds (KX P) yV ["value"] []:=(yW P).binds λ _ _ _ _ _ _=>kX λ _=>rfl
def zev:ay ["value"] ["value"] (cg Et):=.k
noncomputable abbrev GV:ZK:=top 6
noncomputable abbrev Bb:ZH:=fnX "is_tuple_of" "is_tuple_of" (top 6) "talejudge.basics" 194 48
def zP (P:Q0):cA (KX P) "is_tuple_of" "is_tuple_of" GV 49 Bb:=de
def Qf (P:Q0):Binds (KX P) Bb ["value","many"] []:=(zP P).binds λ _ _ _ _ _ _=>gi λ _ _=>rfl
def NI:ay ["value","many"] ["value","many"] (cg GV):=.k
noncomputable abbrev CZ:ZK:=top 14
noncomputable abbrev BZ:ZH:=fnX "read_state" "read_state" (top 14) "talejudge.store" 280 96
def Au (P:Q0):cA (KX P) "read_state" "read_state" CZ 97 BZ:=de
def Rz (P:Q0):Binds (KX P) BZ ["state","worth"] []:=(Au P).binds λ _ _ _ _ _ _=>gi λ _ _=>rfl
def Nk:ay ["state","worth"] ["state","worth"] (cg CZ):=.k
noncomputable abbrev Fb:ZK:=top 15
noncomputable abbrev yL:ZH:=fnX "write_state" "write_state" (top 15) "talejudge.store" 280 103
def yE (P:Q0):cA (KX P) "write_state" "write_state" Fb 104 yL:=de
def NC (P:Q0):Binds (KX P) yL ["state","worth"] []:=(yE P).binds λ _ _ _ _ _ _=>gi λ _ _=>rfl
def Mb:ay ["state","worth"] ["state","worth"] (cg Fb):=.k
noncomputable abbrev DB:ZK:=top 16
noncomputable abbrev Cc:ZH:=fnX "add_to_number" "add_to_number" (top 16) "talejudge.store" 280 110
def BF (P:Q0):cA (KX P) "add_to_number" "add_to_number" DB 111 Cc:=de
def Of (P:Q0):Binds (KX P) Cc ["state","worth"] []:=(BF P).binds λ _ _ _ _ _ _=>gi λ _ _=>rfl
def Qu:ay ["state","worth"] ["state","worth"] (cg DB):=.k
noncomputable abbrev Hn:ZK:=top 17
noncomputable abbrev Bh:ZH:=fnX "put_behind" "put_behind" (top 17) "talejudge.store" 280 117
def ze (P:Q0):cA (KX P) "put_behind" "put_behind" Hn 118 Bh:=de
def Lq (P:Q0):Binds (KX P) Bh ["state","worth"] []:=(ze P).binds λ _ _ _ _ _ _=>gi λ _ _=>rfl
def OT:ay ["state","worth"] ["state","worth"] (cg Hn):=.k
noncomputable abbrev GN:ZK:=top 18
noncomputable abbrev zq:ZH:=fnX "take_first" "take_first" (top 18) "talejudge.store" 280 124
def Cn (P:Q0):cA (KX P) "take_first" "take_first" GN 125 zq:=de
def Mf (P:Q0):Binds (KX P) zq ["state","worth"] []:=(Cn P).binds λ _ _ _ _ _ _=>gi λ _ _=>rfl
def Nf:ay ["state","worth"] ["state","worth"] (cg GN):=.k
noncomputable abbrev Hz:ZK:=top 19
noncomputable abbrev AQ:ZH:=fnX "put_into_set" "put_into_set" (top 19) "talejudge.store" 280 131
def yf (P:Q0):cA (KX P) "put_into_set" "put_into_set" Hz 132 AQ:=de
def J_ (P:Q0):Binds (KX P) AQ ["state","worth"] []:=(yf P).binds λ _ _ _ _ _ _=>gi λ _ _=>rfl
def OP:ay ["state","worth"] ["state","worth"] (cg Hz):=.k
noncomputable abbrev Gc:ZK:=top 20
noncomputable abbrev zg:ZH:=fnX "cut_from_set" "cut_from_set" (top 20) "talejudge.store" 280 136
def BO (P:Q0):cA (KX P) "cut_from_set" "cut_from_set" Gc 137 zg:=de
def Ll (P:Q0):Binds (KX P) zg ["state","worth"] []:=(BO P).binds λ _ _ _ _ _ _=>gi λ _ _=>rfl
def IV:ay ["state","worth"] ["state","worth"] (cg Gc):=.k
noncomputable abbrev GZ:ZK:=top 21
noncomputable abbrev Br:ZH:=fnX "has_in_set" "has_in_set" (top 21) "talejudge.store" 280 143
def Bi (P:Q0):cA (KX P) "has_in_set" "has_in_set" GZ 144 Br:=de
def Pm (P:Q0):Binds (KX P) Br ["state","worth"] []:=(Bi P).binds λ _ _ _ _ _ _=>gi λ _ _=>rfl
def Mu:ay ["state","worth"] ["state","worth"] (cg GZ):=.k
noncomputable abbrev FC:ZK:=top 22
noncomputable abbrev BV:ZH:=fnX "swap_state" "swap_state" (top 22) "talejudge.store" 280 150
def AY (P:Q0):cA (KX P) "swap_state" "swap_state" FC 151 BV:=de
def Os (P:Q0):Binds (KX P) BV ["state","worth"] []:=(AY P).binds λ _ _ _ _ _ _=>gi λ _ _=>rfl
def MS:ay ["state","worth"] ["state","worth"] (cg FC):=.k
noncomputable abbrev DX:ZK:=top 24
noncomputable abbrev Bt:ZH:=fnX "is_kind" "is_kind" (top 24) "talejudge.store" 280 170
def yB (P:Q0):cA (KX P) "is_kind" "is_kind" DX 171 Bt:=de
def KJ (P:Q0):Binds (KX P) Bt ["kind"] []:=(yB P).binds λ _ _ _ _ _ _=>kX λ _=>rfl
def Qg:ay ["kind"] ["kind"] (cg DX):=.k
noncomputable abbrev HY:ZK:=top 25
noncomputable abbrev Cr:ZH:=fnX "first_state" "first_state" (top 25) "talejudge.store" 280 177
def BS (P:Q0):cA (KX P) "first_state" "first_state" HY 178 Cr:=de
def M_ (P:Q0):Binds (KX P) Cr ["kind"] []:=(BS P).binds λ _ _ _ _ _ _=>kX λ _=>rfl
def Jg:ay ["kind"] ["kind"] (cg HY):=.k
noncomputable abbrev Ed:ZK:=top 26
noncomputable abbrev zc:ZH:=fnX "is_deed" "is_deed" (top 26) "talejudge.store" 280 182
def Az (P:Q0):cA (KX P) "is_deed" "is_deed" Ed 183 zc:=de
def NM (P:Q0):Binds (KX P) zc ["kind","verb","worth"] []:=(Az P).binds λ _ _ _ _ _ _=>su λ _ _ _=>rfl
def gO:ay ["kind","verb","worth","many"] ["kind","verb","worth"] (cg Ed):=.k
noncomputable abbrev yo:ZK:=top 27
noncomputable abbrev zh:ZH:=fnX "do" "do" (top 27) "talejudge.store" 280 189
def rE (P:Q0):cA (KX P) "do" "do" yo 190 zh:=de
def ya (P:Q0):Binds (KX P) zh ["kind","state","verb","worth"] []:=(rE P).binds λ _ _ _ _ _ _=>wU λ _ _ _ _=>rfl
def ou:ay ["kind","state","verb","worth","doer"] ["kind","state","verb","worth"] (cg yo):=.k
noncomputable abbrev Fc:ZK:=top 29
noncomputable abbrev Co:ZH:=fnX "deeds" "deeds" (top 29) "talejudge.tales" 483 196
def zW (P:Q0):cA (KX P) "deeds" "deeds" Fc 197 Co:=de
def JC (P:Q0):Binds (KX P) Co ["tale"] []:=(zW P).binds λ _ _ _ _ _ _=>kX λ _=>rfl
def dN:ay ["tale","told","numbers","place","event","number","begun"] ["tale"] (cg Fc):=.k
noncomputable abbrev DA:ZK:=top 32
noncomputable abbrev zy:ZH:=fnX "has_to" "has_to" (top 32) "talejudge.orders" 498 204
def CB (P:Q0):cA (KX P) "has_to" "has_to" DA 205 zy:=de
def MC (P:Q0):Binds (KX P) zy ["tale","strictness"] []:=(CB P).binds λ _ _ _ _ _ _=>gi λ _ _=>rfl
def cZ:ay ["tale","strictness","told","pairs","ahead","one","behind","other"] ["tale","strictness"] (cg DA):=.k
noncomputable abbrev HA:ZK:=top 33
noncomputable abbrev AB:ZH:=fnX "check_strictness" "check_strictness" (top 33) "talejudge.orders" 498 211
def zo (P:Q0):cA (KX P) "check_strictness" "check_strictness" HA 212 AB:=de
def Jd (P:Q0):Binds (KX P) AB ["strictness"] []:=(zo P).binds λ _ _ _ _ _ _=>kX λ _=>rfl
def Kn:ay ["strictness"] ["strictness"] (cg HA):=.k
noncomputable abbrev EX:ZK:=top 34
noncomputable abbrev Bu:ZH:=fnX "goes_ahead" "goes_ahead" (top 34) "talejudge.orders" 498 218
def BK (P:Q0):cA (KX P) "goes_ahead" "goes_ahead" EX 219 Bu:=de
def Nc (P:Q0):Binds (KX P) Bu ["one","other","strictness"] []:=(BK P).binds λ _ _ _ _ _ _=>su λ _ _ _=>rfl
def Ly:ay ["one","other","strictness"] ["one","other","strictness"] (cg EX):=.k
noncomputable abbrev Fl:ZK:=top 38
noncomputable abbrev AK:ZH:=fnX "step_of" "step_of" (top 38) "talejudge.places" 534 291
def yO (P:Q0):cA (KX P) "step_of" "step_of" Fl 292 AK:=de
def QN (P:Q0):Binds (KX P) AK ["candidate","place"] []:=(yO P).binds λ _ _ _ _ _ _=>gi λ _ _=>rfl
def dW:ay ["candidate","place","thing","states","done","numbers"] ["candidate","place"] (cg Fl):=.k
noncomputable abbrev FV:ZK:=top 39
noncomputable abbrev zu:ZH:=fnX "ended_numbers" "ended_numbers" (top 39) "talejudge.places" 534 296
def BG (P:Q0):cA (KX P) "ended_numbers" "ended_numbers" FV 297 zu:=de
def NQ (P:Q0):Binds (KX P) zu ["told"] []:=(BG P).binds λ _ _ _ _ _ _=>kX λ _=>rfl
def Qo:ay ["told"] ["told"] (cg FV):=.k
noncomputable abbrev Ex:ZK:=top 40
noncomputable abbrev yv:ZH:=fnX "holds_all" "holds_all" (top 40) "talejudge.places" 534 301
def y_ (P:Q0):cA (KX P) "holds_all" "holds_all" Ex 302 yv:=de
def MB (P:Q0):Binds (KX P) yv ["done","numbers"] []:=(y_ P).binds λ _ _ _ _ _ _=>gi λ _ _=>rfl
def Jx:ay ["done","numbers"] ["done","numbers"] (cg Ex):=.k
noncomputable abbrev FE:ZK:=top 41
noncomputable abbrev Ag:ZH:=fnX "first_place" "first_place" (top 41) "talejudge.places" 534 306
def yA (P:Q0):cA (KX P) "first_place" "first_place" FE 307 Ag:=de
def LB (P:Q0):Binds (KX P) Ag ["tale"] []:=(yA P).binds λ _ _ _ _ _ _=>kX λ _=>rfl
def Lv:ay ["tale"] ["tale"] (cg FE):=.k
noncomputable abbrev Fx:ZK:=top 42
noncomputable abbrev zZ:ZH:=fnX "all_places" "all_places" (top 42) "talejudge.places" 534 313
def Bf (P:Q0):cA (KX P) "all_places" "all_places" Fx 314 zZ:=de
def OG (P:Q0):Binds (KX P) zZ ["tale","strictness"] []:=(Bf P).binds λ _ _ _ _ _ _=>gi λ _ _=>rfl
def cu:ay ["tale","strictness","board","found","layer"] ["tale","strictness"] (cg Fx):=.k
noncomputable abbrev Iu:ZK:=top 43
noncomputable abbrev Ao:ZH:=fnX "next_layer" "next_layer" (top 43) "talejudge.places" 534 320
def zS (P:Q0):cA (KX P) "next_layer" "next_layer" Iu 321 Ao:=de
def Oh (P:Q0):Binds (KX P) Ao ["board","layer"] []:=(zS P).binds λ _ _ _ _ _ _=>gi λ _ _=>rfl
def df:ay ["board","layer","reached","place","step"] ["board","layer"] (cg Iu):=.k
noncomputable abbrev Hg:ZK:=top 45
noncomputable abbrev Cw:ZH:=fnX "judged" "judged" (top 45) "talejudge.judge" 689 327
def A_ (P:Q0):cA (KX P) "judged" "judged" Hg 328 Cw:=de
def IW (P:Q0):Binds (KX P) Cw ["tale","strictness"] []:=(A_ P).binds λ _ _ _ _ _ _=>gi λ _ _=>rfl
def cC:ay ["tale","strictness","board","seen","waiting","reached","number","answer","place"] ["tale","strictness"] (cg Hg):=.k
noncomputable abbrev EC:ZK:=top 47
noncomputable abbrev yD:ZH:=fnX "stuck_paper" "stuck_paper" (top 47) "talejudge.stuck" 706 334
def Bg (P:Q0):cA (KX P) "stuck_paper" "stuck_paper" EC 335 yD:=de
def LI (P:Q0):Binds (KX P) yD ["tale","strictness"] []:=(Bg P).binds λ _ _ _ _ _ _=>gi λ _ _=>rfl
def PU:ay ["tale","strictness"] ["tale","strictness"] (cg EC):=.k
noncomputable abbrev HF:ZK:=top 49
noncomputable abbrev AG:ZH:=fY "_law_cell_at" "_law_cell_at" (top 49) 341
def BM (P:Q0):cA (KX P) "_law_cell_at" "_law_cell_at" HF 342 AG:=de
def KN (P:Q0):Binds (KX P) AG ["script","k"] []:=(BM P).binds λ _ _ _ _ _ _=>gi λ _ _=>rfl
def NL:ay ["script","k"] ["script","k"] (cg HF):=.k
noncomputable abbrev CY:ZK:=top 50
noncomputable abbrev zV:ZH:=fY "_law_take" "_law_take" (top 50) 348
def Cs (P:Q0):cA (KX P) "_law_take" "_law_take" CY 349 zV:=de
def LJ (P:Q0):Binds (KX P) zV ["deck","many"] []:=(Cs P).binds λ _ _ _ _ _ _=>gi λ _ _=>rfl
def dH:ay ["deck","many","told","number"] ["deck","many"] (cg CY):=.k
noncomputable abbrev F_:ZK:=top 51
noncomputable abbrev AD:ZH:=fY "_law_do" "_law_do" (top 51) 353
def CC (P:Q0):cA (KX P) "_law_do" "_law_do" F_ 354 AD:=de
def Qt (P:Q0):Binds (KX P) AD ["kind","state","verb","worth"] []:=(CC P).binds λ _ _ _ _ _ _=>wU λ _ _ _ _=>rfl
def gM:ay ["kind","state","verb","worth","there"] ["kind","state","verb","worth"] (cg F_):=.k
noncomputable abbrev EB:ZK:=top 52
noncomputable abbrev Cv:ZH:=fY "_law_first" "_law_first" (top 52) 358
def BA (P:Q0):cA (KX P) "_law_first" "_law_first" EB 359 Cv:=de
def PV (P:Q0):Binds (KX P) Cv ["things"] []:=(BA P).binds λ _ _ _ _ _ _=>kX λ _=>rfl
def JQ:ay ["things"] ["things"] (cg EB):=.k
noncomputable abbrev Ej:ZK:=top 53
noncomputable abbrev x_:ZH:=fY "_law_worth" "_law_worth" (top 53) 365
def yy (P:Q0):cA (KX P) "_law_worth" "_law_worth" Ej 366 x_:=de
def II (P:Q0):Binds (KX P) x_ ["deck"] []:=(yy P).binds λ _ _ _ _ _ _=>kX λ _=>rfl
def Kk:ay ["deck"] ["deck"] (cg Ej):=.k
noncomputable abbrev Dx:ZK:=top 54
noncomputable abbrev BC:ZH:=fY "_law_verb" "_law_verb" (top 54) 372
def zv (P:Q0):cA (KX P) "_law_verb" "_law_verb" Dx 373 BC:=de
def PQ (P:Q0):Binds (KX P) BC ["deck","kind"] []:=(zv P).binds λ _ _ _ _ _ _=>gi λ _ _=>rfl
def eS:ay ["deck","kind","some","verb"] ["deck","kind"] (cg Dx):=.k
noncomputable abbrev Io:ZK:=top 55
noncomputable abbrev yH:ZH:=fY "_law_things" "_law_things" (top 55) 377
def Aa (P:Q0):cA (KX P) "_law_things" "_law_things" Io 378 yH:=de
def NN (P:Q0):Binds (KX P) yH ["deck"] []:=(Aa P).binds λ _ _ _ _ _ _=>kX λ _=>rfl
def cI:ay ["deck","words","told","k"] ["deck"] (cg Io):=.k
noncomputable abbrev EG:ZK:=top 56
noncomputable abbrev Ah:ZH:=fY "_law_applied" "_law_applied" (top 56) 382
def BL (P:Q0):cA (KX P) "_law_applied" "_law_applied" EG 383 Ah:=de
def Mt (P:Q0):Binds (KX P) Ah ["things","states","own"] []:=(BL P).binds λ _ _ _ _ _ _=>su λ _ _ _=>rfl
def cx:ay ["things","states","own","at","state","answer"] ["things","states","own"] (cg EG):=.k
noncomputable abbrev EN:ZK:=top 57
noncomputable abbrev AA:ZH:=fY "_law_tale" "_law_tale" (top 57) 387
def BN (P:Q0):cA (KX P) "_law_tale" "_law_tale" EN 388 AA:=de
def Nw (P:Q0):Binds (KX P) AA ["script","most"] []:=(BN P).binds λ _ _ _ _ _ _=>gi λ _ _=>rfl
def aE:ay ["script","most","way","deck","things","hands","spoil","states","events","under_way","k","hand","own","answer","name","kind","verb","worth"] ["script","most"] (cg EN):=.k
noncomputable abbrev Hf:ZK:=top 58
noncomputable abbrev Ci:ZH:=fY "_law_deeds" "_law_deeds" (top 58) 394
def zA (P:Q0):cA (KX P) "_law_deeds" "_law_deeds" Hf 395 Ci:=de
def MG (P:Q0):Binds (KX P) Ci ["tale"] []:=(zA P).binds λ _ _ _ _ _ _=>kX λ _=>rfl
def cj:ay ["tale","told","last","at","event"] ["tale"] (cg Hf):=.k
noncomputable abbrev Eh:ZK:=top 59
noncomputable abbrev yJ:ZH:=fY "_law_is_ahead" "_law_is_ahead" (top 59) 401
def Cq (P:Q0):cA (KX P) "_law_is_ahead" "_law_is_ahead" Eh 402 yJ:=de
def Le (P:Q0):Binds (KX P) yJ ["strictness","one","other"] []:=(Cq P).binds λ _ _ _ _ _ _=>su λ _ _ _=>rfl
def LR:ay ["strictness","one","other"] ["strictness","one","other"] (cg Eh):=.k
noncomputable abbrev FJ:ZK:=top 60
noncomputable abbrev Ck:ZH:=fY "_law_may_be_next" "_law_may_be_next" (top 60) 408
def AZ (P:Q0):cA (KX P) "_law_may_be_next" "_law_may_be_next" FJ 409 Ck:=de
def LY (P:Q0):Binds (KX P) Ck ["some","strictness","done","number"] []:=(AZ P).binds λ _ _ _ _ _ _=>wU λ _ _ _ _=>rfl
def dE:ay ["some","strictness","done","number","other"] ["some","strictness","done","number"] (cg FJ):=.k
noncomputable abbrev Ei:ZK:=top 61
noncomputable abbrev Cp:ZH:=fY "_law_nexts" "_law_nexts" (top 61) 415
def AR (P:Q0):cA (KX P) "_law_nexts" "_law_nexts" Ei 416 Cp:=de
def KS (P:Q0):Binds (KX P) Cp ["tale","some","strictness","place"] []:=(AR P).binds λ _ _ _ _ _ _=>wU λ _ _ _ _=>rfl
def bD:ay ["tale","some","strictness","place","told","done","states","number","own","behind"] ["tale","some","strictness","place"] (cg Ei):=.k
noncomputable abbrev Ii:ZK:=top 62
noncomputable abbrev zk:ZH:=fY "_law_is_full" "_law_is_full" (top 62) 420
def AW (P:Q0):cA (KX P) "_law_is_full" "_law_is_full" Ii 421 zk:=de
def Pa (P:Q0):Binds (KX P) zk ["some","place"] []:=(AW P).binds λ _ _ _ _ _ _=>gi λ _ _=>rfl
def Je:ay ["some","place"] ["some","place"] (cg Ii):=.k
noncomputable abbrev Dq:ZK:=top 63
noncomputable abbrev BE:ZH:=fY "_law_places" "_law_places" (top 63) 427
def BI (P:Q0):cA (KX P) "_law_places" "_law_places" Dq 428 BE:=de
def Nv (P:Q0):Binds (KX P) BE ["tale","strictness"] []:=(BI P).binds λ _ _ _ _ _ _=>gi λ _ _=>rfl
def aZ:ay ["tale","strictness","some","first","told","pile","number","answer","place"] ["tale","strictness"] (cg Dq):=.k
noncomputable abbrev Ho:ZK:=top 64
noncomputable abbrev zH:ZH:=fY "_law_is_good" "_law_is_good" (top 64) 432
def Ar (P:Q0):cA (KX P) "_law_is_good" "_law_is_good" Ho 433 zH:=de
def Rx (P:Q0):Binds (KX P) zH ["tale","strictness"] []:=(Ar P).binds λ _ _ _ _ _ _=>gi λ _ _=>rfl
def eU:ay ["tale","strictness","some"] ["tale","strictness"] (cg Ho):=.k
noncomputable abbrev Eo:ZK:=top 65
noncomputable abbrev Cy:ZH:=fY "_law_due" "_law_due" (top 65) 439
def Bm (P:Q0):cA (KX P) "_law_due" "_law_due" Eo 440 Cy:=de
def QL (P:Q0):Binds (KX P) Cy ["tale","strictness"] []:=(Bm P).binds λ _ _ _ _ _ _=>gi λ _ _=>rfl
def KA:ay ["tale","strictness"] ["tale","strictness"] (cg Eo):=.k
noncomputable abbrev Ec:ZK:=top 66
noncomputable abbrev yz:ZH:=fY "_law_rank" "_law_rank" (top 66) 446
def zJ (P:Q0):cA (KX P) "_law_rank" "_law_rank" Ec 447 yz:=de
def Np (P:Q0):Binds (KX P) yz ["place"] []:=(zJ P).binds λ _ _ _ _ _ _=>kX λ _=>rfl
def Rb:ay ["place"] ["place"] (cg Ec):=.k
noncomputable abbrev CD:ZK:=top 67
noncomputable abbrev Bk:ZH:=fY "_law_told" "_law_told" (top 67) 453
def An (P:Q0):cA (KX P) "_law_told" "_law_told" CD 454 Bk:=de
def MJ (P:Q0):Binds (KX P) Bk ["tale","strictness","due"] []:=(An P).binds λ _ _ _ _ _ _=>su λ _ _ _=>rfl
def gp:ay ["tale","strictness","due","told"] ["tale","strictness","due"] (cg CD):=.k
noncomputable abbrev He:ZK:=top 68
noncomputable abbrev fd_law:ZH:=fY "law" "law" (top 68) 460
def vM (P:Q0):cA (KX P) "law" "law" He 461 fd_law:=de
def iJ:ay ["script","tale","strictness","due"] ["script"] (cg He):=.k
noncomputable abbrev HR:ZK:=fT (top 36) 0
noncomputable abbrev wB:ZH:=fnX "__init__" "Candidate.__init__" (fT (top 36) 0) "talejudge.places" 534 230
def FR (P:Q0):cA (KX P) "__init__" "Candidate.__init__" HR 231 wB:=de
def Lc (P:Q0):Binds (KX P) wB ["self","number","deed","thing","kind","pairs"] []:=(FR P).binds λ _ _ _ _ _ _=>I8 λ _ _ _ _ _ _=>rfl
def Lu:ay ["self","number","deed","thing","kind","pairs"] ["self","number","deed","thing","kind","pairs"] (cg HR):=.k
def QT (P:Q0):Mk (KX P) 241 231:=⟨by kernel_rfl,by kernel_rfl,by kernel_rfl,by kernel_rfl⟩
def hP (P:Q0):jM (KX P) 241:=⟨by kernel_rfl,by kernel_rfl,by kernel_rfl,by kernel_rfl⟩
def xE (P:Q0):aN (KX P) 241 "number":=by unfold aN;kernel_rfl
def Ds (P:Q0):aN (KX P) 241 "thing":=by unfold aN;kernel_rfl
def DU (P:Q0):aN (KX P) 241 "kind":=by unfold aN;kernel_rfl
def Hd (P:Q0):aN (KX P) 241 "verb":=by unfold aN;kernel_rfl
def FF (P:Q0):aN (KX P) 241 "worth":=by unfold aN;kernel_rfl
def Bj (P:Q0):aN (KX P) 241 "answer":=by unfold aN;kernel_rfl
def EW (P:Q0):aN (KX P) 241 "aheads":=by unfold aN;kernel_rfl
def Ir (P:Q0):aN (KX P) 241 "behinds":=by unfold aN;kernel_rfl
noncomputable abbrev DP:ZK:=fT (top 36) 1
noncomputable abbrev wI:ZH:=fnX "may_stand" "Candidate.may_stand" (fT (top 36) 1) "talejudge.places" 534 237
def GC (P:Q0):cA (KX P) "may_stand" "Candidate.may_stand" DP 238 wI:=de
def QI (P:Q0):Binds (KX P) wI ["self","done"] []:=(GC P).binds λ _ _ _ _ _ _=>gi λ _ _=>rfl
def bP:ay ["self","done","ahead","behind"] ["self","done"] (cg DP):=.k
def Ob (P:Q0):mZ (KX P) 241 "may_stand" 238:=⟨by kernel_rfl,by kernel_rfl,by kernel_rfl⟩
noncomputable abbrev CG:ZK:=fT (top 37) 0
noncomputable abbrev uQ:ZH:=fnX "__init__" "Board.__init__" (fT (top 37) 0) "talejudge.places" 534 256
def DG (P:Q0):cA (KX P) "__init__" "Board.__init__" CG 257 uQ:=de
def GG (P:Q0):Binds (KX P) uQ ["self","tale","strictness"] []:=(DG P).binds λ _ _ _ _ _ _=>su λ _ _ _=>rfl
def aV:ay ["self","tale","strictness","pairs","told","names","number","deed","thing"] ["self","tale","strictness"] (cg CG):=.k
def El (P:Q0):Mk (KX P) 281 257:=⟨by kernel_rfl,by kernel_rfl,by kernel_rfl,by kernel_rfl⟩
def kP (P:Q0):jM (KX P) 281:=⟨by kernel_rfl,by kernel_rfl,by kernel_rfl,by kernel_rfl⟩
def De (P:Q0):aN (KX P) 281 "kinds":=by unfold aN;kernel_rfl
def yi (P:Q0):aN (KX P) 281 "first":=by unfold aN;kernel_rfl
def Dg (P:Q0):aN (KX P) 281 "ended":=by unfold aN;kernel_rfl
def As (P:Q0):aN (KX P) 281 "candidates":=by unfold aN;kernel_rfl
noncomputable abbrev Iw:ZK:=fT (top 37) 1
noncomputable abbrev tZ:ZH:=fnX "steps_from" "Board.steps_from" (fT (top 37) 1) "talejudge.places" 534 263
def Ge (P:Q0):cA (KX P) "steps_from" "Board.steps_from" Iw 264 tZ:=de
def DS (P:Q0):Binds (KX P) tZ ["self","place"] []:=(Ge P).binds λ _ _ _ _ _ _=>gi λ _ _=>rfl
def bI:ay ["self","place","steps","candidate","step"] ["self","place"] (cg Iw):=.k
def HI (P:Q0):mZ (KX P) 281 "steps_from" 264:=⟨by kernel_rfl,by kernel_rfl,by kernel_rfl⟩
noncomputable abbrev Gj:ZK:=fT (top 37) 2
noncomputable abbrev xu:ZH:=fnX "ends_at" "Board.ends_at" (fT (top 37) 2) "talejudge.places" 534 270
def Ey (P:Q0):cA (KX P) "ends_at" "Board.ends_at" Gj 271 xu:=de
def QF (P:Q0):Binds (KX P) xu ["self","place"] []:=(Ey P).binds λ _ _ _ _ _ _=>gi λ _ _=>rfl
def Js:ay ["self","place"] ["self","place"] (cg Gj):=.k
def Rf (P:Q0):mZ (KX P) 281 "ends_at" 271:=⟨by kernel_rfl,by kernel_rfl,by kernel_rfl⟩
variable {H H' H1 H2:Hp} {K:c0} {P:ZI} {base:ZL} {h:Int} {hs:List Int} {i j m n:Nat} {kvs:List (Key×V)} {l:ZR} {mg:ZQ->Option ZF} {o:HO} {v x y:V} {w:X0}
section
def Gq:Sp:=λ vs H Q _=>∃x T,vs=[x]/\bA H x T/\Q (.bl (decide (T = "int"))) H
def MQ (T:TX (kx w) mg):Fo P w mg base CX0 1 28 yg ["value"] Gq:=by
 refine (Bc w.params).ok NU (λ b H Q E h=>?_) (λ e A d s H b Q E c h=>?_)
 ·obtain ⟨x,t,rfl,_⟩:=h;rfl
 ·obtain ⟨x,t,rfl,a,q⟩:=h;refine ⟨_,(aT (aq (eF (fg oQ rfl (T.no (oK _)) U4 (ao (pv 0) (ao (oE (v:=.ty "int") rfl (T.no (jZ _)) boot_int rfl) ae))) (eO (rn (fg oQ rfl (T.no (oK _)) U4 (ao (pv 0) (ao (oE (v:=.ty "bool") rfl (T.no (pI _)) boot_bool rfl) ae)))))))),?_⟩;refine ⟨_,rfl,_,_,_,rfl,a,'!',_,rfl,?_⟩;by_cases h1:hW t "int" = true
  ·rw [ZZ h1];refine ⟨_,rfl,_,_,_,rfl,a,'!',_,rfl,?_⟩;rw [xN a '!'];have:(!decide (t = "bool"))=decide (t = "int"):=by rcases a.one with rfl|rfl|rfl|rfl|rfl|rfl|rfl<;>revert h1<;>decide
   rw [this];exact q
  ·rw [Z_ h1];have:decide (t = "int")=false:=by rcases a.one with rfl|rfl|rfl|rfl|rfl|rfl|rfl<;>revert h1<;>decide
   rw [this] at q;exact q
def Hr:Sp:=λ vs H Q _=>∃x T g,vs=[x,.int g]/\bA H x T/\Q (.bl (iG x g)) H
def Rj (T:TX (kx w) mg) (c0:Ca P w mg base "is_whole" ["value"] 1 Gq):Fo P w mg base CX0 2 35 yX ["value","greatest"] Hr:=by
 refine (yd w.params).ok Mj (λ c H Q E h=>?_) (λ e A d s H c Q E b h=>?_)
 ·obtain ⟨x,t,g,rfl,_⟩:=h;rfl
 ·obtain ⟨x,t,g,rfl,a,q⟩:=h;refine ⟨_,(aT (aq (eF (aB c0 (b.mono '!') rfl (ao (pv 0) ae)) (eO (IQ oa oa (mq jW (pv 1)) (pv 0) (pv 1)))))),?_⟩;refine ⟨_,rfl,x,t,rfl,a,_,rfl,?_⟩;by_cases h1:t = "int"
  ·subst h1;obtain ⟨i,rfl⟩:=a.int;refine cN ?_;refine ⟨_,rfl,_,rfl,_,rfl,_,_,rfl,rfl,_,rfl,?_⟩;unfold iG at q;dsimp only at q;by_cases h2:-g<=i
   ·rw [ZY h2] at q⊢;refine cN ⟨_,rfl,_,_,rfl,rfl,?_⟩;rw [O8] at q;exact q
   ·rw [ZX h2] at q⊢;refine cK ?_;rw [S6] at q;exact q
  ·rw [ZX h1];refine cK ?_;rw [vQ a h1] at q;exact q
def Dh:Sp:=λ vs H Q _=>∃x T,vs=[x]/\bA H x T/\Q (.bl (iG x 1000000000)) H
def Kd (T:TX (kx w) mg) (c0:Ca P w mg base "is_within" ["value","greatest"] 2 Hr):Fo P w mg base CX0 3 42 yV ["value"] Dh:=by
 refine (yW w.params).ok zev (λ c H Q E h=>?_) (λ e A d s H c Q E a h=>?_)
 ·obtain ⟨x,t,rfl,_⟩:=h;rfl
 ·obtain ⟨x,t,rfl,b,q⟩:=h;refine ⟨_,(aT (aq (aB c0 (a.mono '!') rfl (ao (pv 0) (ao (qB (v:=.int (1000000000)) rfl (T.of (Qd _)) ⟨_,rfl⟩) ae))))),?_⟩;exact ⟨_,rfl,x,t,1000000000,rfl,b,q⟩
def DC:Sp:=λ vs H Q _=>∃x T m,vs=[x,.int m]/\bA H x T/\Q (.bl (match cW H x with|some xs=>decide ((xs.length:Int)=m)|none=>false)) H
def Na (T:TX (kx w) mg):Fo P w mg base CX0 1 49 Bb ["value","many"] DC:=by
 refine (zP w.params).ok NI (λ i H Q E h=>?_) (λ l A k s H i Q E j h=>?_)
 ·obtain ⟨x,t,g,rfl,_⟩:=h;rfl
 ·obtain ⟨x,t,g,rfl,b,q⟩:=h;refine ⟨_,(aT (aq (eF (fg oQ rfl (T.no (oK _)) U4 (ao (pv 0) (ao (oE (v:=.ty "tuple") rfl (T.no (lG _)) A5 rfl) ae))) (eO (iA cv (fg jo rfl (T.no (dq _)) O4 (ao (pv 0) ae)) (pv 1) (aD _)))))),?_⟩;refine ⟨_,rfl,_,_,_,rfl,b,'!',_,rfl,?_⟩;rw [xN b '!'];by_cases h1:t = "tuple"
  ·subst h1;obtain ⟨a,c,rfl,d⟩:=b.tuple;refine cN ⟨_,rfl,.inl ⟨a,c,rfl,.inr (aG.of d),_,rfl,rfl,?_⟩⟩;have e:cW H (.ref a)=some c:=by unfold cW;dsimp only;rw [d]
   rw [e] at q;have f:decide (V.int (c.length:Int)=V.int g)=decide ((c.length:Int)=g):=by simp
   rw [f];exact q
  ·rw [ZX h1];refine cK ?_;rw [vH b h1] at q;exact q
noncomputable def kindB (x:V):Bool:=match x with
 | .str z=>(bh.lookup z).isSome
 | _=>false
def zX:Sp:=λ vs H Q _=>∃x T,vs=[x]/\bA H x T/\Q (.bl (kindB x)) H
def JG (T:TX (kx w) mg):Fo P w mg base CX0 1 171 Bt ["kind"] zX:=by
 refine (yB w.params).ok Qg (λ b H Q E h=>?_) (λ e A d s H b Q E c h=>?_)
 ·obtain ⟨x,t,rfl,_⟩:=h;rfl
 ·obtain ⟨x,t,rfl,a,q⟩:=h;refine ⟨_,(aT (aq (eF (fg oQ rfl (T.no (oK _)) U4 (ao (pv 0) (ao (oE (v:=.ty "str") rfl (T.no (lV _)) boot_str rfl) ae))) (eO (iA (Kx (GH _)) (pv 0) (qB (v:=.ref 87) rfl (T.of (Fj _)) rfl) (by with_unfolding_all rfl)))))),?_⟩;refine ⟨_,rfl,_,_,_,rfl,a,'!',_,rfl,?_⟩;rw [xN a '!'];by_cases h1:t = "str"
  ·subst h1;obtain ⟨z,rfl⟩:=a.str;exact cN ⟨_,rfl,z,rfl,rfl,q⟩
  ·rw [ZX h1];refine cK ?_;cases x with
   | str z=>exact ZU a h1
   | _=>exact q
noncomputable def formOf (k v:ZQ):Int:=match dP.lookup (k,v) with
 | none=>-1
 | some _=>(match aY.lookup v with|some (.int i)=>i|_=>-1)
noncomputable def cJ (H:Hp) (k v x:V):Bool:=match k,v with
 | .str a,.str b=>if formOf a b=0 then decide (x=.non) else if formOf a b=1 then iG x 1000000000 else if formOf a b=2 then
   (match cW H x with|some xs=>decide (xs.length=2) && xs.all λ y=>iG y 1000000000|none=>false) else false
 | _,_=>false
def Hv {a b:ZQ} (h:dP.lookup (a,b)=some v):(bh.lookup a).isSome=true/\∃i,aY.lookup b=some (.int i)/\(i=0\/i=1\/i=2):=by
 have m:=Pb h;have all :∀p∈dP,(bh.lookup p.1.1).isSome=true/\(aY.lookup p.1.2=some (.int 0)\/aY.lookup p.1.2=some (.int 1)\/aY.lookup p.1.2=some (.int 2)):=by decide +kernel
 obtain ⟨d,c⟩:=all _ m;refine ⟨d,?_⟩;rcases c with c|c|c
 ·exact ⟨0,c,.inl rfl⟩
 ·exact ⟨1,c,.inr (.inl rfl)⟩
 ·exact ⟨2,c,.inr (.inr rfl)⟩
def FM:Sp:=λ vs H Q _=>∃k v x Tk Tv Tx,vs=[k,v,x]/\bA H k Tk/\bA H v Tv/\bA H x Tx/\Flat H x/\∀H',af H H'->Q (.bl (cJ H k v x)) H'
theorem Ow (T:TX (kx w) mg) (c0:Ca P w mg base "is_kind" ["kind"] 1 zX) (c1:Ca P w mg base "is_worth" ["value"] 3 Dh) (c2:Ca P w mg base "is_tuple_of" ["value","many"] 1 DC):Fo P w mg base CX0 4 183 zc ["kind","verb","worth"] FM:=by
 refine (Az w.params).ok gO (λ Z H Q E h=>?_) (λ a2 A a1 s H Z Q E m h=>?_)
 ·obtain ⟨k,v,x,M,S,B,rfl,_⟩:=h;rfl
 ·obtain ⟨k,v,x,M,S,B,rfl,U,o,F,hf,q⟩:=h;refine ⟨_,(aU (aJ (PW.pt (gB (eR (bS (aB c0 (m.mono '!') rfl (ao (pv 0) ae)) (λ _=>rfl))) (gB (eR (bS (fg oQ rfl (T.no (oK _)) U4 (ao (pv 1) (ao (oE (v:=.ty "str") rfl (T.no (lV _)) boot_str rfl) ae))) (λ _=>rfl))) (gc (cL (OU (cQ m) (Ew _)) (az (ao (pv 0) (ao (pv 1) ae))) (qB (v:=.ref 152) rfl (T.of (GF _)) rfl) (by with_unfolding_all rfl))))))
   (aT (aq dm))
   dD)
   (aU (aC (i:=3) gO.nd rfl (E1 rfl) (au (oG (Ry _)) (qB (v:=.ref 90) rfl (T.of (PR _)) rfl) (pv 1) (λ _ _=>rfl)))
   (aU (aJ (cL cv (pv 3) ag (aD _))
   (aT (aq (iA gy (pv 2) bw (aD _))))
   dD)
   (aU (aJ (cL cv (pv 3) ag (aD _))
   (aT (aq (aB c1 (m.mono '!') rfl (ao (pv 2) ae))))
   dD)
   (aT (aq (eF (aB c2 (m.mono '!') rfl (ao (pv 2) (ao (pv 3) ae))) (eO (fg (Gy rfl) rfl (T.no (oI _)) boot_all (ao (eE (xs:=["part"]) (g:=bu 0) (fr:=[]) (fD (pv 2)) (λ _ _ _ _ _=>(bT (N:=["part"]) 0)) (λ _ _ _ _ _=>fF) (λ _ _ _ _ _=>(aB c1 (m.mono '!') rfl (ao (pv 0) ae)))) ae)))))))))),?_⟩
  refine ⟨_,rfl,k,M,rfl,U,_,rfl,?_⟩;have I:cJ H k v x=false->Q (.bl false) H:=λ e=>by have:=q H (af.refl H);rw [e] at this;exact this
  by_cases j :∃a,k=.str a/\(bh.lookup a).isSome=true
  ·obtain ⟨a,rfl,j⟩:=j;have Y:kindB (.str a)=true:=j;rw [Y];refine cK ?_;refine ⟨_,rfl,_,_,_,rfl,o,'!',_,rfl,?_⟩;rw [xN o '!'];by_cases r:S = "str"
   ·subst r;obtain ⟨b,rfl⟩:=o.str;refine cK ?_;refine ⟨_,rfl,_,rfl,?_⟩;refine ⟨cV,λ p hp=>⟨p,a,b,rfl,ab,rfl,_,rfl,?_⟩⟩;have d:af H (upd H p (.tup [.str a,.str b])):=af.upd hp;cases h3:dP.lookup (a,b) with
    | none=>
     refine cN ?_;have:=q _ d;have e:cJ H (.str a) (.str b) x=false:=by unfold cJ formOf;dsimp only;rw [h3];rfl
     rw [e] at this;exact this
    | some z=>
     refine cK ?_;obtain ⟨_,i,J,X⟩:=Hv h3;have t:formOf a b=i:=by unfold formOf;rw [h3];dsimp only;rw [J]
     refine ⟨_,rfl,b,.int i,rfl,rfl,J,?_⟩;refine ⟨_,rfl,rfl,_,rfl,?_⟩;rcases X with rfl|rfl|rfl
     ·refine cN ⟨_,rfl,rfl,?_⟩;have:=q _ d;have e:cJ H (.str a) (.str b) x=decide (x=.non):=by unfold cJ;dsimp only;rw [t];rfl
      rw [e] at this;exact this
     ·refine cK ⟨_,rfl,rfl,_,rfl,?_⟩;refine cN ⟨_,rfl,x,B,rfl,F.same d,?_⟩;have:=q _ d;have e:cJ H (.str a) (.str b) x=iG x 1000000000:=by unfold cJ;dsimp only;rw [t];rfl
      rw [e] at this;exact this
     ·refine cK ⟨_,rfl,rfl,_,rfl,?_⟩;refine cK ⟨_,rfl,_,rfl,x,B,2,rfl,F.same d,_,rfl,?_⟩;rw [Px F d];have e:cJ H (.str a) (.str b) x=(match cW H x with|some xs=>decide (xs.length=2) && xs.all λ y=>iG y 1000000000|none=>false):=by unfold cJ;dsimp only;rw [t];rfl
      rw [e] at q;cases ht:cW H x with
      | none=>rw [ht] at q;exact cK (q _ d)
      | some xs=>
       rw [ht] at q;dsimp only at q⊢;by_cases n:xs.length=2
       ·have C:((xs.length:Nat):Int)=2:=by lia
        rw [ZZ (ZY C)];rw [ZY n,O8] at q;obtain ⟨c,rfl,hc⟩:=IA ht;have a0:xs.length<=ZE:=by rw [n];decide
        refine mW ?_;refine sg (K:=KX w.params) (a:=c) (xs:=xs) (H1:=upd H p (.tup [.str a,.str b])) (λ _=>true) (λ i y _=>y=.bl (iG (xs[i]?.getD .non) 1000000000)) (λ _ _ _ _ _ z=>z) (λ R h=>⟨_,rfl,h⟩) (aG.of (d _ _ hc)) a0 ?_ ?_
        ·intro i G u H' D O KT KF k1 k2;obtain ⟨W,ty⟩:=(hf xs ht).2 u (S0 O);refine ⟨[some u],rfl,rfl,cN ?_⟩;exact ⟨_,rfl,u,W,rfl,(ty.same d).same D,k1 rfl _ _ (af.refl _) (by rw [O];rfl)⟩
        ·intro l H' ys D n L;rw [List.filter_eq_self.mpr (λ _ _=>rfl)] at L;have ey:ys=xs.map λ y=>V.bl (iG y 1000000000):=by
          rw [yT (f:=λ i=>V.bl (iG (xs[i]?.getD .non) 1000000000)) L];apply d7
          ·simp
          ·intro i j r;have G:i < xs.length:=by simpa using j
           simp [F0 G]
         subst ey;refine ⟨l,_,rfl,aH.of ab,λ y hy=>?_,?_⟩
         ·obtain ⟨z,_,rfl⟩:=List.mem_map.mp hy;exact ⟨_,rfl⟩
         ·have e9:((xs.map λ y=>V.bl (iG y 1000000000)).all λ y=>decide (y=V.bl true))=xs.all λ y=>iG y 1000000000:=by rw [List.all_map];congr 1;funext y;simp
          rw [e9];exact q _ ((d.trans D).trans (af.upd n))
       ·have C:¬ ((xs.length:Nat):Int)=2:=by lia
        rw [Z_ (by rw [ZX C];exact N0)];rw [ZX n,S6] at q;exact q _ d
   ·rw [ZX r];refine cN ?_;exact I (by unfold cJ;cases v with|str z=>exact ZU o r|_=>rfl)
  ·have e1:kindB k=false:=by
    cases k with
    | str z=>exact Bool.eq_false_iff.mpr λ e=>j ⟨z,rfl,e⟩
    | _=>rfl
   rw [e1];refine cN ?_;refine I ?_;cases k with
   | str a=>
    cases v with
    | str b=>
     unfold cJ formOf;dsimp only;cases h3:dP.lookup (a,b) with
     | none=>rfl
     | some z=>exact ZU ⟨a,rfl,(Hv h3).1⟩ j
    | _=>rfl
   | _=>rfl
def iT {a b:ZQ} (h:formOf a b=0):cJ H (.str a) (.str b) x=decide (x=.non):=by unfold cJ;dsimp only;rw [h];rfl
def fW {a b:ZQ} (h:formOf a b=1):cJ H (.str a) (.str b) x=iG x 1000000000:=by unfold cJ;dsimp only;rw [h];rfl
def qf {a b:ZQ} {xs:List V} (h:formOf a b=2) (e:cW H x=some xs):cJ H (.str a) (.str b) x=(decide (xs.length=2) && xs.all λ y=>iG y 1000000000):=by unfold cJ;dsimp only;rw [h,e];rfl
def yC:Sp:=λ vs H Q _=>∃st x,vs=[st,x]/\∀p,H p=none->Q (.ref p) (upd H p (.tup [st,st]))
def P_ (T:TX (kx w) mg):Fo P w mg base CX0 1 97 BZ ["state","worth"] yC:=by
 refine (Au w.params).ok Nk (λ b H Q E h=>?_) (λ e A d s H b Q E c h=>?_)
 ·obtain ⟨a,x,rfl,_⟩:=h;rfl
 ·obtain ⟨a,x,rfl,q⟩:=h;refine ⟨_,(aT (aq (az (ao (pv 0) (ao (pv 0) ae))))),?_⟩;exact ⟨_,rfl,_,rfl,cV,q⟩
def Ae:Sp:=λ vs H Q _=>∃st x,vs=[st,x]/\∀p,H p=none->Q (.ref p) (upd H p (.tup [x,.str "ok"]))
def Pp (T:TX (kx w) mg):Fo P w mg base CX0 1 104 yL ["state","worth"] Ae:=by
 refine (yE w.params).ok Mb (λ b H Q E h=>?_) (λ e A d s H b Q E c h=>?_)
 ·obtain ⟨a,x,rfl,_⟩:=h;rfl
 ·obtain ⟨a,x,rfl,q⟩:=h;refine ⟨_,(aT (aq (az (ao (pv 1) (ao aA ae))))),?_⟩;exact ⟨_,rfl,cV,q⟩
def Bn:Sp:=λ vs H Q _=>∃i j:Int,vs=[.int i,.int j]/\∀p,H p=none->Q (.ref p) (upd H p (.tup [.int (i + j),.int i]))
def NR (T:TX (kx w) mg):Fo P w mg base CX0 1 111 Cc ["state","worth"] Bn:=by
 refine (BF w.params).ok Qu (λ a H Q E h=>?_) (λ d A c s H a Q E b h=>?_)
 ·obtain ⟨e,x,rfl,_⟩:=h;rfl
 ·obtain ⟨i,j,rfl,q⟩:=h;refine ⟨_,(aT (aq (az (ao (aO eA (pv 0) (pv 1)) (ao (pv 0) ae))))),?_⟩;exact ⟨_,rfl,_,rfl,.inl ⟨_,_,rfl,rfl,_,rfl,cV,q⟩⟩
def zE (K:c0):Sp:=λ vs H Q _=>∃(i a b:Int) (t:ZR),vs=[.int i,.ref t]/\aG K H t [.int a,.int b]/\∀p,H p=none->Q (.ref p) (upd H p (.tup (if i=a then [.int b,.int 1] else [.int i,.int 0])))
def Qy (T:TX (kx w) mg):Fo P w mg base CX0 1 151 BV ["state","worth"] (zE (kx w)):=by
 refine (AY w.params).ok MS (λ d H Q E h=>?_) (λ j A g s H d Q E f h=>?_)
 ·obtain ⟨i,a,b,t,rfl,_⟩:=h;rfl
 ·obtain ⟨i,a,b,t,rfl,c,q⟩:=h;refine ⟨_,(aU (aJ (cL cv (pv 0) (au aj (pv 1) ag (λ _ _=>rfl)) (aD _))
   (aT (aq (az (ao (au aj (pv 1) ag (λ _ _=>rfl)) (ao ag ae)))))
   dD)
   (aT (aq (az (ao (pv 0) (ao ag ae)))))),?_⟩
  refine ⟨_,rfl,_,rfl,.inr (.inl ⟨t,_,0,.int a,rfl,rfl,c,rfl,rfl,_,rfl,?_⟩)⟩;by_cases e:i=a
  ·subst e;rw [ZY rfl];simp only [if_true] at q;exact cN ⟨_,rfl,.inr (.inl ⟨t,_,1,.int b,rfl,rfl,c,rfl,cV,q⟩)⟩
  ·rw [ZX (λ z=>e (by cases z;rfl))];simp only [Z_ e] at q;exact cK ⟨_,rfl,cV,q⟩
def Ad (K:c0):Sp:=λ vs H Q _=>∃(t:ZR) (ns:List V) (x:V),vs=[.ref t,x]/\aG K H t ns/\ns.length < 1000/\∀p p' H',af H H'->H' p=some (.tup [.ref p',.str "ok"])->aG K H' p' (ns++[x])->Q (.ref p) H'
def KB (T:TX (kx w) mg):Fo P w mg base CX0 1 118 Bh ["state","worth"] (Ad (kx w)):=by
 refine (ze w.params).ok OT (λ i H Q E h=>?_) (λ u A p s H i Q E n h=>?_)
 ·obtain ⟨t,a,x,rfl,_⟩:=h;rfl
 ·obtain ⟨t,a,x,rfl,m,d,q⟩:=h;refine ⟨_,(aT (aq (az (ao (aO eN (pv 0) (az (ao (pv 1) ae))) (ao aA ae))))),?_⟩;refine ⟨_,rfl,_,rfl,lC,λ k f=>?_⟩;have c:=af.upd (o:=.tup [x]) f;refine ⟨t,k,a,[x],rfl,rfl,c.seqT m,aG.of ab,by simp,C0 (Nat.add_le_add_right (X2 d) _) (show 1000 + 1<=ZE by decide),λ l r j g=>?_⟩;refine ⟨cV,λ e b=>?_⟩;exact q e l _ ((c.trans j).trans (af.upd b)) ab ((af.upd b).seqT g)
def yb (K:c0):Sp:=λ vs H Q _=>∃(t:ZR) (ns:List V) (x:V),vs=[.ref t,x]/\aG K H t ns/\
 (ns=[]->∀p H',af H H'->H' p=some (.tup [.ref t,.str "none"])->Q (.ref p) H')/\(∀n r,ns=n :: r->∀p p' H',af H H'->H' p=some (.tup [.ref p',n])->aG K H' p' r->Q (.ref p) H')
theorem JZ (T:TX (kx w) mg):Fo P w mg base CX0 1 125 zq ["state","worth"] (yb (kx w)):=by
 refine (Cn w.params).ok Nf (λ k H Q E h=>?_) (λ y A v s H k Q E u h=>?_)
 ·obtain ⟨t,a,x,rfl,_⟩:=h;rfl
 ·obtain ⟨t,a,x,rfl,b,f,e⟩:=h;refine ⟨_,(aU (aJ (cL cv (fg jo rfl (T.no (dq _)) O4 (ao (pv 0) ae)) ag (aD _))
   (aT (aq (az (ao (pv 0) (ao aA ae)))))
   dD)
   (aT (aq (az (ao (nQ gn (pv 0) (lq ag) nP) (ao (au aj (pv 0) ag (λ _ _=>rfl)) ae)))))),?_⟩
  refine ⟨_,rfl,.inl ⟨t,a,rfl,.inr b,rfl,_,rfl,?_⟩⟩;cases a with
  | nil=>exact cN ⟨_,rfl,cV,λ p l=>f rfl p _ (af.upd l) ab⟩
  | cons n r=>
   rw [ZX (show ¬ V.int (((n :: r).length:Nat):Int)=V.int 0 from λ z=>by injection z with z;rw [U0] at z;lia)];refine cK ⟨_,rfl,_,rfl,.inr (.inl ⟨t,_,rfl,b,?_,λ m g=>?_⟩)⟩
   ·intro z;have:HT.sIx (n :: r).length 0 (some 1)=1:=by rw [U0];simp [HT.sIx]
    lia
   ·have d:=af.upd (o:=.tup (cw (n :: r) (some 1) none)) g;have i:cw (n :: r) (some 1) none=r:=by unfold cw;simp [HT.sIx]
    refine ⟨_,rfl,.inr (.inl ⟨t,_,0,n,rfl,rfl,d.seqT b,bF (j:=0) rfl,cV,λ q c=>?_⟩)⟩;refine e n r rfl q m _ (d.trans (af.upd c)) ab ((af.upd c).seqT (aG.of ?_));rw [ab,i]
def my (i j:Int):decide (V.int i=V.int j)=decide (i=j):=by simp
theorem xP {q:Int->Bool} :∀(ns:List Int) (ys:List V),av (λ (i:Nat) y=>ns[i]?.map V.int=some y) ((L1 ns.length).filter λ i=>(ns[i]?.map q).getD false) ys->ys=(ns.filter q).map V.int
 | [],ys,h=>by cases h;rfl
 | n :: ns,ys,h=>by
  have un :∀{is:List Nat} {ys:List V},av (λ (i:Nat) y=>(n :: ns)[i]?.map V.int=some y) (is.map Nat.succ) ys->av (λ (i:Nat) y=>ns[i]?.map V.int=some y) is ys:=λ {is}=>by
   induction is with
   | nil=>intro ys h;cases h;exact .nil
   | cons i is ih=>intro ys h;cases h with|cons a r=>exact .cons a (ih r)
  rw [U0,List.range_succ_eq_map,z5,List.filter_map] at h;rw [z5];by_cases z:q n=true
  ·rw [ZZ (show (j10 q (n :: ns)[0]?).getD false=true from z)] at h;rw [ZZ z,G1];cases h with
   | cons a r=>rw [<-xP ns _ (un r),<-Q1 a]
  ·rw [Z_ (show ¬ (j10 q (n :: ns)[0]?).getD false=true from z)] at h;rw [Z_ z];exact xP ns _ (un h)
def zj (K:c0):Sp:=λ vs H Q _=>∃(t:ZR) (ns:List Int) (i:Int),vs=[.ref t,.int i]/\aG K H t (ns.map V.int)/\ns.length < 63/\
 (i∈ns->∀p H',af H H'->H' p=some (.tup [.ref t,.int 0])->Q (.ref p) H')/\(i∉ns->∀(p p':ZR) (ns':List Int) (H':Hp),af H H'->H' p=some (.tup [.ref p',.int 1])->aG K H' p' (ns'.map V.int)->ns'.Perm (ns++[i])->ns'.Pairwise (·<=·)->Q (.ref p) H')
def QH (T:TX (kx w) mg):Fo P w mg base CX0 1 132 AQ ["state","worth"] (zj (kx w)):=by
 refine (yf w.params).ok OP (λ x H Q E h=>?_) (λ K A I s H x Q E G h=>?_)
 ·obtain ⟨t,a,i,rfl,_⟩:=h;rfl
 ·obtain ⟨t,a,i,rfl,e,b,n,j⟩:=h;refine ⟨_,(aU (aJ (cL oJ (pv 1) (pv 0) (by with_unfolding_all rfl))
   (aT (aq (az (ao (pv 0) (ao ag ae)))))
   dD)
   (aT (aq (az (ao (kO ny rfl (T.no (lG _)) A5 (ao (fg xo rfl (T.no (qv _)) W7 (ao (aO eN (pv 0) (az (ao (pv 1) ae))) ae)) ae)) (ao ag ae)))))),?_⟩
  refine ⟨_,rfl,_,rfl,t,_,rfl,.inr e,rfl,sd a,_,rfl,?_⟩;rw [Z_ N0,sf];by_cases hi:i∈a
  ·rw [ZY hi];exact cN ⟨_,rfl,cV,λ p B=>n hi p _ (af.upd B) ab⟩
  ·rw [ZX hi];refine cK ⟨_,rfl,_,rfl,lC,λ C u=>?_⟩;have g:=af.upd (o:=.tup [.int i]) u;refine ⟨t,C,a.map V.int,[.int i],rfl,rfl,g.seqT e,aG.of ab,by simp,?_,λ D J z c=>?_⟩
   ·rw [D0];exact C0 (Nat.succ_le_of_lt (G2 b)) '!'
   rw [show a.map V.int++[V.int i]=(a++[i]).map V.int by rw [N1];rfl] at c;refine ⟨D,a++[i],rfl,.inr c,by rw [L0];exact Nat.succ_lt_succ b,λ l d r m q=>?_⟩;have y:=af.upd (o:=.lst (d.map V.int)) r;refine ⟨l,_,rfl,.inl ⟨aH.of ab,λ k v=>⟨cV,λ F f=>?_⟩⟩⟩;exact j hi F k d _ ((((g.trans z).trans y).trans (af.upd v)).trans (af.upd f)) ab (aG.of ((af.upd f) _ _ ab)) m q
def BQ (K:c0):Sp:=λ vs H Q _=>∃(t:ZR) (ns:List Int) (i:Int),vs=[.ref t,.int i]/\aG K H t (ns.map V.int)/\ns.length < 64/\
 (i∉ns->∀p H',af H H'->H' p=some (.tup [.ref t,.int 0])->Q (.ref p) H')/\(i∈ns->∀p p' H',af H H'->H' p=some (.tup [.ref p',.int 1])->aG K H' p' ((ns.filter λ j=>!decide (j=i)).map V.int)->Q (.ref p) H')
def KR (T:TX (kx w) mg):Fo P w mg base CX0 1 137 zg ["state","worth"] (BQ (kx w)):=by
 refine (BO w.params).ok IV (λ G H Q E h=>?_) (λ Z A X s H G Q E U h=>?_)
 ·obtain ⟨t,b,i,rfl,_⟩:=h;rfl
 ·obtain ⟨t,b,i,rfl,k,u,B,r⟩:=h;refine ⟨_,(aU (aJ (cL sh (pv 1) (pv 0) (by with_unfolding_all rfl))
   (aT (aq (az (ao (pv 0) (ao ag ae)))))
   dD)
   (aT (aq (az (ao (kO ny rfl (T.no (lG _)) A5 (ao (eE (xs:=["held"]) (g:=bu 0) (fr:=[(1,"worth")]) (fD (pv 0)) (λ _ _ _ _ _=>(bT (N:=["held","worth"]) 0)) (λ _ _ _ _ _=>(fq (cL tN (pv 0) (pv 1) (aD _)))) (λ _ _ _ _ _=>(pv 0))) ae)) (ao ag ae)))))),?_⟩
  refine ⟨_,rfl,_,rfl,t,_,rfl,.inr k,rfl,sd b,_,rfl,?_⟩;rw [ZZ rfl,sf];by_cases hi:i∈b
  ·rw [ZY hi];refine cK ?_;have D:(b.map V.int).length<=ZE:=by rw [D0];exact C0 (X2 u) '!'
   refine qI ?_;simp only [kW,kN,nU,eu,gz];refine sg (K:=KX w.params) (a:=t) (xs:=b.map V.int) (H1:=H) (λ j=>(b[j]?.map λ n=>!decide (n=i)).getD false) (λ j y _=>b[j]?.map V.int=some y) (λ _ _ _ _ _ z=>z) (λ R h=>⟨_,rfl,h⟩) k D (λ j Y v O f c KT W m e=>?_) λ l O M f C d=>?_
   ·rw [Z0] at c;obtain ⟨n,J,rfl⟩:=Option.map_eq_some_iff.mp c;rw [J] at m e;refine ⟨[some (.int n)],rfl,rfl,_,rfl,_,rfl,rfl,_,rfl,?_⟩;rw [my];exact gf (λ z=>⟨_,rfl,m z _ _ (af.refl _) rfl⟩) λ z=>e (Bool.eq_false_iff.mpr z) _ (af.refl _)
   ·rw [D0] at d;rw [xP b M d];have I:=af.upd (o:=.lst ((b.filter λ j=>!decide (j=i)).map V.int)) C;refine ⟨l,_,rfl,.inl ⟨aH.of ab,λ x F=>⟨cV,λ S q=>?_⟩⟩⟩;exact r hi S x _ (((f.trans I).trans (af.upd F)).trans (af.upd q)) ab (aG.of ((af.upd q) _ _ ab))
  ·rw [ZX hi];exact cN ⟨_,rfl,cV,λ p L=>B hi p _ (af.upd L) ab⟩
def yN (K:c0):Sp:=λ vs H Q _=>∃(t:ZR) (ns:List Int) (i:Int),vs=[.ref t,.int i]/\aG K H t (ns.map V.int)/\∀p H',af H H'->H' p=some (.tup [.ref t,.int (if i∈ns then 1 else 0)])->Q (.ref p) H'
def MM (T:TX (kx w) mg):Fo P w mg base CX0 1 144 Br ["state","worth"] (yN (kx w)):=by
 refine (Bi w.params).ok Mu (λ c H Q E h=>?_) (λ g A f s H c Q E e h=>?_)
 ·obtain ⟨t,a,i,rfl,_⟩:=h;rfl
 ·obtain ⟨t,a,i,rfl,d,q⟩:=h;refine ⟨_,(aT (aq (az (ao (pv 0) (ao (Ru (cL oJ (pv 1) (pv 0) (by with_unfolding_all rfl)) ag ag) ae))))),?_⟩;refine ⟨_,rfl,_,rfl,_,rfl,t,_,rfl,.inr d,rfl,sd a,_,rfl,?_⟩;rw [Z_ N0,sf];by_cases hi:i∈a
  ·rw [ZZ hi] at q;rw [ZY hi];exact cN ⟨cV,λ p b=>q p _ (af.upd b) ab⟩
  ·rw [Z_ hi] at q;rw [ZX hi];exact cK ⟨cV,λ p b=>q p _ (af.upd b) ab⟩
def rh (K:c0) (f:ZR) (sp:Sp):Prop:=(f=97/\sp=yC)\/(f=104/\sp=Ae)\/(f=111/\sp=Bn)\/(f=118/\sp=Ad K)\/(f=125/\sp=yb K)\/(f=132/\sp=zj K)\/(f=137/\sp=BQ K)\/(f=144/\sp=yN K)\/(f=151/\sp=zE K)
def eT {x:ZQ} {ps:List ZQ} {k f:Nat} {sp:Sp} (c:wh P w K mg base x ps k sp) (e:mg x=some (.ref f)) :∃fd ps,fH P w K mg base CX0 k f fd ps sp/\V3 K (.ref f)=true/\Binds K fd ps []:=by obtain ⟨h,fd,g,a,d,b⟩:=c.ex;rw [e] at a;cases a;exact ⟨fd,ps,g,d,b⟩
def lT (K:c0):Sp:=λ vs H Q _=>∃(k v:ZQ) (st x:V) (f:ZR) (sp:Sp) (Tx:String),vs=[.str k,st,.str v,x]/\bA H x Tx/\Flat H x/\cJ H (.str k) (.str v) x=true/\dP.lookup (k,v)=some (.ref f)/\rh K f sp/\∀H',af H H'->sp [st,x] H' Q E0
def vZ (T:TX (kx w) mg) (c0:Ca P w mg base "is_deed" ["kind","verb","worth"] 4 FM) (c1:Ca P w mg base "read_state" ["state","worth"] 1 yC) (c2:Ca P w mg base "write_state" ["state","worth"] 1 Ae) (c3:Ca P w mg base "add_to_number" ["state","worth"] 1 Bn) (c4:Ca P w mg base "put_behind" ["state","worth"] 1 (Ad (kx w))) (c5:Ca P w mg base "take_first" ["state","worth"] 1 (yb (kx w))) (c6:Ca P w mg base "put_into_set" ["state","worth"] 1 (zj (kx w))) (c7:Ca P w mg base "cut_from_set" ["state","worth"] 1 (BQ (kx w))) (c8:Ca P w mg base "has_in_set" ["state","worth"] 1 (yN (kx w))) (c9:Ca P w mg base "swap_state" ["state","worth"] 1 (zE (kx w))):Fo P w mg base CX0 5 190 zh ["kind","state","verb","worth"] (lT (kx w)):=by
 refine (rE w.params).ok ou (λ t H Q E h=>?_) (λ B A I s H t Q E g h=>?_)
 ·obtain ⟨k,v,C,x,f,j,l,rfl,_⟩:=h;rfl
 ·obtain ⟨k,v,C,x,f,j,l,rfl,u,r,m,n,o,q⟩:=h;have G :∀f j,rh (kx w) f j->∃k a b,Fo P w mg base CX0 k f a b j/\bL k (A.deeper (j09 "do" (cg yo) s.heap.objs.size 190 B))/\V3 (kx w) (.ref f)=true/\Binds (kx w) a b []:=λ f j z=>by
   rcases z with ⟨rfl,rfl⟩|⟨rfl,rfl⟩|⟨rfl,rfl⟩|⟨rfl,rfl⟩|⟨rfl,rfl⟩|⟨rfl,rfl⟩|⟨rfl,rfl⟩|⟨rfl,rfl⟩|⟨rfl,rfl⟩
   ·obtain ⟨a,b,c,d,e⟩:=eT c1 (T.of (GE _));exact ⟨1,a,b,c,g.mono '!',d,e⟩
   ·obtain ⟨a,b,c,d,e⟩:=eT c2 (T.of (Ga _));exact ⟨1,a,b,c,g.mono '!',d,e⟩
   ·obtain ⟨a,b,c,d,e⟩:=eT c3 (T.of (Hm _));exact ⟨1,a,b,c,g.mono '!',d,e⟩
   ·obtain ⟨a,b,c,d,e⟩:=eT c4 (T.of (Fw _));exact ⟨1,a,b,c,g.mono '!',d,e⟩
   ·obtain ⟨a,b,c,d,e⟩:=eT c5 (T.of (Dy _));exact ⟨1,a,b,c,g.mono '!',d,e⟩
   ·obtain ⟨a,b,c,d,e⟩:=eT c6 (T.of (CN _));exact ⟨1,a,b,c,g.mono '!',d,e⟩
   ·obtain ⟨a,b,c,d,e⟩:=eT c7 (T.of (Iq _));exact ⟨1,a,b,c,g.mono '!',d,e⟩
   ·obtain ⟨a,b,c,d,e⟩:=eT c8 (T.of (FH _));exact ⟨1,a,b,c,g.mono '!',d,e⟩
   ·obtain ⟨a,b,c,d,e⟩:=eT c9 (T.of (GJ _));exact ⟨1,a,b,c,g.mono '!',d,e⟩
  refine ⟨_,(aU (aJ (eR (bS (aB c0 (g.mono '!') rfl (ao (pv 0) (ao (pv 2) (ao (pv 3) ae)))) (λ _=>rfl)))
   (aT AH)
   dD)
   (aU (aC (i:=4) ou.nd rfl (E1 rfl) (au (rB (cQ g) (Ew _)) (qB (v:=.ref 152) rfl (T.of (GF _)) rfl) (az (ao (pv 0) (ao (pv 2) ae))) (λ _ _=>rfl)))
   (aT (aq (IZ (rh (kx w)) (i:=4) rfl (by first|exact E1 rfl|exact C1 (E1 rfl)) G (ao (pv 1) (ao (pv 3) ae))))))),?_⟩
  refine ⟨_,rfl,_,rfl,_,rfl,.str k,.str v,x,"str","str",l,rfl,rfl,rfl,u,r,λ F D=>⟨_,rfl,?_⟩⟩;rw [m];refine cK ?_;refine ⟨_,rfl,_,rfl,cV,λ p y=>⟨p,k,v,.ref f,rfl,rfl,ab,n,?_⟩⟩;exact ⟨f,j,rfl,o,_,rfl,_,rfl,q _ (D.trans (af.upd y))⟩
def HJ:Sp:=λ vs H Q _=>∃(k:ZQ) (v:V),vs=[.str k]/\bh.lookup k=some v/\Q v H
def IY (T:TX (kx w) mg) (c0:Ca P w mg base "is_kind" ["kind"] 1 zX):Fo P w mg base CX0 2 178 Cr ["kind"] HJ:=by
 refine (BS w.params).ok Jg (λ c H Q E h=>?_) (λ f A d s H c Q E b h=>?_)
 ·obtain ⟨k,v,rfl,_⟩:=h;rfl
 ·obtain ⟨k,v,rfl,a,q⟩:=h;refine ⟨_,(aU (aJ (eR (bS (aB c0 (b.mono '!') rfl (ao (pv 0) ae)) (λ _=>rfl)))
   (aT AH)
   dD)
   (aT (aq (au (oG (GH _)) (qB (v:=.ref 87) rfl (T.of (Fj _)) rfl) (pv 0) (λ _ _=>rfl))))),?_⟩
  refine ⟨_,rfl,.str k,"str",rfl,rfl,_,rfl,?_⟩;have e:kindB (.str k)=true:=by unfold kindB;dsimp only;rw [a];rfl
  rw [e];exact cK ⟨_,rfl,k,v,rfl,rfl,a,q⟩
inductive Ev
 | beg (h:Int) (n v x:V)
 | fin (h:Int) (a:V)
noncomputable def gE (K:c0) (H:Hp):Ev->V->Prop
 | .beg h n v x,y=>∃p,y=.ref p/\aG K H p [.str "begin",.int h,n,v,x]
 | .fin h a,y=>∃p,y=.ref p/\aG K H p [.str "end",.int h,a]
structure Rc where
 h:Int
 n:V
 v:V
 x:V
 a:V
 b:Nat
 e:Option Nat
noncomputable def fe:Option Nat->V
 | none=>.non
 | some i=>.int i
def RcAt (K:c0) (H:Hp) (r:Rc) (y:V):Prop:=∃p,y=.ref p/\aG K H p [.int r.h,r.n,r.v,r.x,r.a,.int r.b,fe r.e]
def bN (K:c0) (H H':Hp):Prop:=∀a xs,aG K H a xs->aG K H' a xs
def bN.of (s:af H H'):bN K H H':=λ _ _ q=>s.seqT q
def bN.trans (a:bN K H H1) (b:bN K H1 H2):bN K H H2:=λ _ _ q=>b _ _ (a _ _ q)
def bN.lst {zs:List V} (e:H l=some (.lst zs)):bN K H (upd H l o):=λ _ _ q=>q.wrote e
def bN.dict (e:H l=some (.dK kvs)):bN K H (upd H l o):=λ a b h=>by
 rcases h with (h|⟨ob,h⟩)|h
 ·exact .inl (.inl (by rw [ak (ip h e (by intro z;cases z))];exact h))
 ·exact .inl (.inr ⟨ob,by rw [ak (ip h e (by intro z;cases z))];exact h⟩)
 ·exact .inr h
theorem RC (h:j < n):nA n (j:Nat)=some j:=by unfold nA;rw [ZZ '%',ZZ '%'];rfl
def af.keep (s:af H H') (n:H l=none):af H (upd H' l o):=λ a x e=>by rw [ak (fK e n)];exact s a x e
theorem mw {α β:Type} {R:α->β->Prop} {x:α} {y:β} :∀{xs:List α} {ys:List β},av R xs ys->R x y->av R (xs++[x]) (ys++[y])
 | _,_,.nil,h=>.cons h .nil
 | _,_,.cons a r,h=>.cons a (mw r h)
theorem DE {κ:Type} [DecidableEq κ] {kvs:List (κ×V)} {k:κ} :(putK kvs k v).length<=kvs.length + 1:=by
 unfold putK;by_cases z:(kvs.any λ kv=>decide (kv.1=k))=true
 ·rw [ZZ z,D0];lia
 ·rw [Z_ z,L0];exact o0 _
noncomputable def cX (h:Int) (hs:List Int):Option Nat:=(hs.foldl (λ (acc:Nat×Option Nat) k=>(acc.1 + 1,if k=h then some acc.1 else acc.2)) (0,none)).2
theorem uf (h:Int) :∀hs:List Int,(hs.foldl (λ (acc:Nat×Option Nat) k=>(acc.1 + 1,if k=h then some acc.1 else acc.2)) (0,none)).1=hs.length:=by
 have b :∀(hs:List Int) (a:Nat×Option Nat),(hs.foldl (λ (acc:Nat×Option Nat) k=>(acc.1 + 1,if k=h then some acc.1 else acc.2)) a).1=a.1 + hs.length:=by
  intro hs;induction hs with
  | nil=>intro a;rfl
  | cons k hs ih=>intro a;rw [j2j,ih,U0];show a.1 + 1 + hs.length=_;lia
 intro hs;rw [b hs (0,none)];simp
def xt (h k:Int) (hs:List Int):cX h (hs++[k])=if k=h then some hs.length else cX h hs:=by unfold cX;rw [j25];show (if k=h then some _ else _)=_;rw [uf]
theorem wL (e:cX h hs=some j):j < hs.length:=by
 have c :∀(hs:List Int) (a:Nat×Option Nat),(∀j,a.2=some j->j < a.1)->∀j,(hs.foldl (λ (acc:Nat×Option Nat) k=>(acc.1 + 1,if k=h then some acc.1 else acc.2)) a).2=some j->j < a.1 + hs.length:=by
  intro hs;induction hs with
  | nil=>intro a b j e;exact b j e
  | cons k hs ih=>
   intro a b j e;rw [j2j] at e;have:=ih (a.1 + 1,if k=h then some a.1 else a.2) (λ j e=>by
    dsimp only at e⊢;by_cases z:k=h
    ·rw [ZZ z] at e;cases e;lia
    ·rw [Z_ z] at e;have:=b j e;lia) j e
   rw [U0];dsimp only at this
   lia
 have:=c hs (0,none) (λ j e=>by cases e) j e;simpa using this
noncomputable def bJ (i:Nat) (rs:List Rc):Ev->List Rc
 | .beg h n v x=>rs++[⟨h,n,v,x,.non,i,none⟩]
 | .fin h a=>match cX h (rs.map Rc.h) with|some j=>rs.modify j (λ r=>{ r with a:=a,e:=some i })|none=>rs
noncomputable def aR:Nat->List Rc->List Ev->List Rc
 | _,rs,[]=>rs
 | i,rs,e :: es=>aR (i + 1) (bJ i rs e) es
noncomputable def rO:Nat->List Rc->List Ev->Prop
 | _,_,[]=>True
 | i,rs,e :: es=>(∀h a,e=.fin h a->(cX h (rs.map Rc.h)).isSome=true)/\rO (i + 1) (bJ i rs e) es
def RcAt.tups {r:Rc} (t:bN K H H') (h:RcAt K H r y):RcAt K H' r y:=h.elim λ p z=>⟨p,z.1,t _ _ z.2⟩
theorem gE.tups (t:bN K H H') :∀{e:Ev} {y:V},gE K H e y->gE K H' e y
 | .beg h n v x,_,z=>z.elim λ p z=>⟨p,z.1,t _ _ z.2⟩
 | .fin h a,_,z=>z.elim λ p z=>⟨p,z.1,t _ _ z.2⟩
theorem EU {α β:Type} {R:α->β->Prop} {f:α->α} {y:β} :∀{xs:List α} {ys:List β} {j:Nat} {x:α},av R xs ys->xs[j]? = some x->R (f x) y->av R (xs.modify j f) (ys.set j y)
 | _,_,_,_,.nil,e,_=>by simp at e
 | _,_,0,x,.cons a r,e,h=>by rw [E3] at e;cases e;exact .cons h r
 | _,_,j + 1,x,.cons a r,e,h=>by rw [N2] at e;exact .cons a (EU r e h)
theorem hV {α β:Type} {R:α->β->Prop} :∀{xs:List α} {ys:List β} {i:Nat} {x:α},av R xs ys->xs[i]? = some x->∃y,ys[i]? = some y/\R x y
 | _,_,i,x,.nil,e=>by simp at e
 | _,_,0,x,.cons a _,e=>by rw [E3] at e;cases e;exact ⟨_,E3,a⟩
 | _,_,i + 1,x,.cons _ r,e=>by rw [N2] at e;obtain ⟨y,b,c⟩:=hV r e;exact ⟨y,by rw [N2];exact b,c⟩
def zT (K:c0):Sp:=λ vs H Q _=>∃(t te:ZR) (th:V) (ys:List V) (es:List Ev),vs=[.ref t]/\aG K H t [th,.ref te]/\aG K H te ys/\av (gE K H) es ys/\es.length<=100/\rO 0 [] es/\
 ∀l zs H',af H H'->H l=none->H' l=some (.lst zs)->av (RcAt K H') (aR 0 [] es) zs->Q (.ref l) H'
theorem Jt (T:TX (kx w) mg):Fo P w mg base CX0 1 197 Co ["tale"] (zT (kx w)):=by
 refine (zW w.params).ok dN (λ vs H Q E h=>?_) (λ c5 A c4 s H vs Q E hr h=>?_)
 ·obtain ⟨t,te,th,ys,C,rfl,_⟩:=h;rfl
 ·obtain ⟨t,te,th,ys,C,rfl,st,se,al,hl,wf,q⟩:=h;refine ⟨_,(aU (aC (i:=1) dN.nd rfl (E1 rfl) (aW ae))
   (aU (aC (i:=2) dN.nd rfl (E1 rfl) xI)
   (aU (bY Z1 rfl (ON rfl (T.no (uH _)) (ao (au aj (pv 0) ag (λ _ _=>rfl)) ae)) (bQ rfl (eW (fm (i:=3) dN.nd rfl (E1 rfl)) (eW (fm (i:=4) dN.nd rfl (E1 rfl)) iW)))
   (aT (aJ (cL cv (au aj (pv 4) ag (λ _ _=>rfl)) aA (aD _))
   (aU (xM (cQ hr) (pv 2) (au aj (pv 4) ag (λ _ _=>rfl)) (fg jo rfl (T.no (dq _)) O4 (ao (pv 1) ae)) rfl)
   (aT (kD (lJ (pv 1) (ao (aO eA (nQ gn (pv 4) (lq ag) nP) (az (ao bw (ao (pv 3) (ao bw ae))))) ae)))))
   (aU (aC (i:=5) dN.nd rfl (E1 rfl) (oX (cQ hr) (pv 2) (au aj (pv 4) ag (λ _ _=>rfl)) (λ _ _=>rfl)))
   (aU (aC (i:=6) dN.nd rfl (E1 rfl) (au aj (pv 1) (pv 5) (λ _ _=>rfl)))
   (aT (dU (aO eA (nQ gn (pv 6) nP (lq ag)) (az (ao (au aj (pv 4) ag (λ _ _=>rfl)) (ao (au aj (pv 6) ag (λ _ _=>rfl)) (ao (pv 3) ae))))) (fQ (pv 1) (pv 5) qN))))))))
   (aT (aq (pv 1)))))),?_⟩
  refine ⟨jq,λ l a0=>?_⟩;intro d a4;have O:l≠d:=fK ab a4;have s0:upd H l (.lst []) d=none->H d=none:=λ z=>by rwa [ak O.symm] at z
  have s2:af H (upd (upd H l (.lst [])) d (.dK [])):=(af.upd a0).trans (af.upd a4);have e1:upd (upd H l (.lst [])) d (.dK []) l=some (.lst []):=by rw [ak O];exact ab
  have e2:upd (upd H l (.lst [])) d (.dK []) d=some (.dK []):=ab;generalize upd (upd H l (.lst [])) d (.dK [])=H2 at s2 e1 e2⊢;have b8:=cD al;refine ⟨_,rfl,.inr (.inl ⟨t,_,1,.ref te,rfl,rfl,s2.seqT st,bF (j:=1) rfl,te,ys,rfl,s2.seqT se,?_⟩)⟩;refine PD (K:=KX w.params) (a:=te) (xs:=ys) (λ i σ R=>∃c f g,R l=some (.lst f)/\av (RcAt (kx w) R) c f/\R d=some (.dK g)/\g.length<=i/\c.length<=i/\(∀h,bM g (.inl h)=(cX h (c.map Rc.h)).map λ j=>V.int (j:Nat))/\aR i c (C.drop i)=aR 0 [] C/\rO i c (C.drop i)/\af H R/\∃x3 x4 x5 x6,σ=[some (.ref t),some (.ref l),some (.ref d),x3,x4,x5,x6])
   ⟨[],[],[],e1,.nil,e2,o0 _,o0 _,λ h=>rfl,by rw [Z5],by rw [Z5];exact wf,s2,_,_,_,_,rfl⟩ (λ i σ R h=>?_) ?_ ?_
  ·obtain ⟨c,f,g,_,_,_,_,_,_,_,_,s',_⟩:=h;exact s'.seqT se
  ·intro i y σ H3 p hy z0 hp;refine uu λ _ N=>?_;obtain ⟨c,f,g,el,ar,ed,hk,b0,hv,F,dw,s3,x3,x4,x5,x6,rfl⟩:=z0;refine N ?_;clear N;obtain ⟨e,he,ev⟩:=fJ al hy;obtain ⟨hi,ee⟩:=List.getElem?_eq_some_iff.mp he;have dr:C.drop i=e :: C.drop (i + 1):=by rw [r6 hi,ee]
   rw [dr] at F dw;have s4:=s3.trans (af.upd (o:=.tup [.int i,y]) hp);have S:=(af.upd (o:=.tup [.int i,y]) hp) _ _ el;have U:=(af.upd (o:=.tup [.int i,y]) hp) _ _ ed;have X:=bG (λ a b z=>RcAt.tups (.of (af.upd (o:=.tup [.int i,y]) hp)) z) ar;have b3:upd H3 p (.tup [.int i,y]) p=some (.tup [.int i,y]):=ab;generalize upd H3 p (.tup [.int i,y])=H4 at s4 S U X b3⊢;have a6:=gE.tups (.of s4) ev;refine ⟨p,_,rfl,aG.of b3,rfl,.int i,_,rfl,y,_,rfl,rfl,?_⟩;have lz:f.length=c.length:=cD X;have b4:100<=ZE:=by decide
   have a7:i < 100:=O1 hi hl;cases e with
   | beg h n v x=>
    obtain ⟨J,rfl,I⟩:=a6;refine ⟨_,rfl,.inr (.inl ⟨J,_,0,.str "begin",rfl,rfl,I,bF (j:=0) rfl,rfl,_,rfl,bz (ZY rfl) ?_⟩)⟩;refine ⟨_,rfl,.inl ⟨l,f,rfl,.inl (aH.of S),⟨_,rfl,⟨_,rfl,.inr (.inl ⟨J,_,1,.int h,rfl,rfl,I,bF (j:=1) rfl,d,_,rfl,hJ.k (k:=.inl h) U (U1 hk (O1 a7 b4)),?_⟩)⟩⟩⟩⟩;have c0:H d=none:=s0 a4;have t5:bN (kx w) H4 (upd H4 d (.dK (putK g (.inl h) (.int (f.length:Nat))))):=bN.dict U;have s5:=af.keep (o:=.dK (putK g (.inl h) (.int (f.length:Nat)))) s4 c0;have a5:upd H4 d (.dK (putK g (.inl h) (.int (f.length:Nat)))) l=some (.lst f):=by rw [ak O];exact S
    have b5:upd H4 d (.dK (putK g (.inl h) (.int (f.length:Nat)))) d=some (.dK (putK g (.inl h) (.int (f.length:Nat)))):=ab;generalize upd H4 d (.dK (putK g (.inl h) (.int (f.length:Nat))))=H5 at t5 s5 a5 b5⊢;have b7:=t5 _ _ I;have c2:=bG (λ a b z=>RcAt.tups t5 z) X;refine ⟨_,rfl,.inl ⟨rfl,f,aH.of a5⟩,⟨_,rfl,1,rfl,.inr (.inl ⟨J,_,rfl,b7,λ z=>ZU z.1 (show ¬ HT.sIx 5 0 (some 1)=0 by decide),λ G Y=>?_⟩)⟩⟩;have c1:cw [V.str "begin",.int h,n,v,x] (some 1) none=[.int h,n,v,x]:=rfl;rw [c1];refine ⟨_,rfl,nk,λ D L=>.inr (.inr (.inr ⟨G,D,_,_,rfl,rfl,(af.upd L).seqT (aG.of ab),aG.of ab,by simp,xk,λ z=>(by cases z),λ _ u a2=>?_⟩))⟩;have B:af H5 (upd (upd (upd H5 G (.tup [.int h,n,v,x])) D (.tup [.non,.int i,.non])) u (.tup ([.int h,n,v,x]++[.non,.int i,.non]))):=((af.upd Y).trans (af.upd L)).trans (af.upd a2);have M:upd (upd (upd H5 G (.tup [.int h,n,v,x])) D (.tup [.non,.int i,.non])) u (.tup ([.int h,n,v,x]++[.non,.int i,.non])) u=some (.tup ([.int h,n,v,x]++[.non,.int i,.non])):=ab;generalize upd (upd (upd H5 G (.tup [.int h,n,v,x])) D (.tup [.non,.int i,.non])) u (.tup ([.int h,n,v,x]++[.non,.int i,.non]))=H6 at B M⊢;have Z:=B _ _ a5;have a3:=B _ _ b5;have a1:=bG (λ a b z=>RcAt.tups (.of B) z) c2;have W:bN (kx w) H6 (upd H6 l (.lst (f++[.ref u]))):=bN.lst Z;refine ⟨l,f,_,rfl,rfl,Z,U1 (C0 (K5 lz) b0) (O1 a7 b4),?_⟩;refine ⟨c++[⟨h,n,v,x,.non,i,none⟩],f++[.ref u],putK g (.inl h) (.int (f.length:Nat)),ab,?_,?_,?_,?_,?_,(show aR (i + 1) (bJ i c (.beg h n v x)) _=_ from F),dw.2,af.keep (s5.trans B) a0,_,_,_,_,rfl⟩
    ·exact mw (bG (λ a b z=>RcAt.tups W z) a1) ⟨u,rfl,W _ _ (aG.of M)⟩
    ·rw [ak O.symm];exact a3
    ·exact C0 DE '%'
    ·rw [L0];show c.length + 1<=i + 1;lia
    ·intro k;rw [qY,N1];show _=j10 _ (cX k (c.map Rc.h++[h]));rw [xt,hv k,D0,lz];by_cases z:h=k
     ·rw [ZZ z,ZZ (by rw [z])];rfl
     ·rw [Z_ z,Z_ (λ y=>z (L9 y).symm)]
   | fin h a=>
    obtain ⟨J,rfl,I⟩:=a6;obtain ⟨j,hj⟩:=Option.isSome_iff_exists.mp (dw.1 h a rfl);have c3:bM g (.inl h)=some (.int (j:Nat)):=by rw [hv h,hj];rfl
    have a9:j < c.length:=by have:=wL hj;rwa [D0] at this
    have b1:c[j]? = some c[j]:=F0 a9;obtain ⟨yj,b9,pj,rfl,sj⟩:=hV X b1;have b6:d_ H4 d (.int h) (some (.int (j:Nat))):=c3 ▸ d_.k (k:=.inl h) U;refine ⟨_,rfl,.inr (.inl ⟨J,_,0,.str "end",rfl,rfl,I,bF (j:=0) rfl,rfl,_,rfl,bB ?_⟩)⟩;refine ⟨_,rfl,⟨_,rfl,.inr (.inl ⟨J,_,1,.int h,rfl,rfl,I,bF (j:=1) rfl,d,_,rfl,b6,?_⟩)⟩⟩;refine ⟨_,rfl,_,rfl,.inl ⟨l,f,j,.ref pj,rfl,rfl,aH.of S,bF b9,?_⟩⟩;refine ⟨_,rfl,4,rfl,.inr (.inl ⟨pj,_,rfl,sj,λ z=>ZU z.2 (show ¬ HT.sIx 7 7 (some 4)=7 by decide),λ G Y=>?_⟩)⟩;have c1:cw [.int c[j].h,c[j].n,c[j].v,c[j].x,c[j].a,.int c[j].b,fe c[j].e] none (some 4)=[.int c[j].h,c[j].n,c[j].v,c[j].x]:=rfl;rw [c1];refine ⟨_,rfl,.inr (.inl ⟨J,_,2,a,rfl,rfl,(af.upd Y).seqT I,bF (j:=2) rfl,?_⟩)⟩;refine ⟨_,rfl,.inr (.inl ⟨pj,_,5,.int c[j].b,rfl,rfl,(af.upd Y).seqT sj,bF (j:=5) rfl,?_⟩)⟩;refine ⟨_,rfl,nk,λ D L=>.inr (.inr (.inr ⟨G,D,_,_,rfl,rfl,(af.upd L).seqT (aG.of ab),aG.of ab,by simp,xk,λ z=>(by cases z),λ _ u a2=>?_⟩))⟩;have B:af H4 _:=((af.upd Y).trans (af.upd L)).trans (af.upd (o:=.tup ([.int c[j].h,c[j].n,c[j].v,c[j].x]++[a,.int c[j].b,.int (i:Nat)])) a2);have M:upd (upd (upd H4 G (.tup [.int c[j].h,c[j].n,c[j].v,c[j].x])) D (.tup [a,.int c[j].b,.int (i:Nat)])) u (.tup ([.int c[j].h,c[j].n,c[j].v,c[j].x]++[a,.int c[j].b,.int (i:Nat)])) u=some (.tup ([.int c[j].h,c[j].n,c[j].v,c[j].x]++[a,.int c[j].b,.int (i:Nat)])):=ab;generalize upd (upd (upd H4 G (.tup [.int c[j].h,c[j].n,c[j].v,c[j].x])) D (.tup [a,.int c[j].b,.int (i:Nat)])) u (.tup ([.int c[j].h,c[j].n,c[j].v,c[j].x]++[a,.int c[j].b,.int (i:Nat)]))=H6 at B M⊢;have Z:=B _ _ S;have a3:=B _ _ U;have a1:=bG (λ a b z=>RcAt.tups (.of B) z) X;have W:bN (kx w) H6 (upd H6 l (.lst (f.set j (.ref u)))):=bN.lst Z;refine ⟨_,rfl,_,rfl,l,f,j,j,rfl,rfl,Z,RC (show j < f.length by rw [lz];exact a9),?_⟩;have dd:bJ i c (.fin h a)=c.modify j (λ r=>{ r with a:=a,e:=some i }):=by unfold bJ;dsimp only;rw [hj]
    have b2:aR (i + 1) (bJ i c (.fin h a)) (j2d (i + 1) C)=_:=F;have a8:=dw.2;rw [dd] at b2 a8;have mh:(c.modify j (λ r=>{ r with a:=a,e:=some i })).map Rc.h=c.map Rc.h:=by
     apply K8;intro m;rw [Z0,Z0,E7];cases c[m]? with
     | none=>rfl
     | some r=>
      show some (if j=m then _ else r).h=some r.h;by_cases z:j=m
      ·rw [ZZ z]
      ·rw [Z_ z]
    refine ⟨_,f.set j (.ref u),g,ab,?_,?_,?_,?_,?_,b2,a8,af.keep (s4.trans B) a0,_,_,_,_,rfl⟩
    ·exact EU (bG (λ a b z=>RcAt.tups W z) a1) b1 ⟨u,rfl,W _ _ (aG.of M)⟩
    ·rw [ak O.symm];exact a3
    ·lia
    ·rw [G6];lia
    ·intro k;rw [mh];exact hv k
  ·intro σ H3 z0;refine uu λ _ N=>?_;obtain ⟨c,f,g,el,ar,ed,hk,b0,hv,F,dw,s3,x3,x4,x5,x6,rfl⟩:=z0;refine N ?_;clear N;have:C.drop ys.length=[]:=by rw [b8];exact List.drop_length
   rw [this] at F;have F:c=aR 0 [] C:=F;rw [<-F] at q;exact ⟨_,rfl,q l f H3 s3 a0 el ar⟩
noncomputable def fh:Nat->ZQ
 | 0=>"strict"
 | 1=>"hands"
 | _=>"bare"
noncomputable def vt:Option Nat->Nat->Bool
 | some a,b=>decide (a < b)
 | none,_=>false
noncomputable def cY:Nat->Rc->Rc->Bool
 | 0,r,q=>vt r.e q.b
 | 1,r,q=>decide (r.h=q.h) && decide (r.b < q.b)
 | _,_,_=>false
theorem dec_lt (a b:Nat):decide ((a:Int) < (b:Int))=decide (a < b):=decide_eq_decide.mpr '%'
def Ep (K:c0):Sp:=λ vs H Q _=>∃(x y:V) (r q:Rc) (m:Nat),vs=[x,y,.str (fh m)]/\RcAt K H r x/\RcAt K H q y/\Q (.bl (cY m r q)) H
def Jj (T:TX (kx w) mg):Fo P w mg base CX0 1 219 Bu ["one","other","strictness"] (Ep (kx w)):=by
 refine (BK w.params).ok Ly (λ g H Q E h=>?_) (λ l A k s H g Q E i h=>?_)
 ·obtain ⟨x,y,r,q,m,rfl,_⟩:=h;rfl
 ·obtain ⟨x,y,r,q,m,rfl,⟨c,rfl,a⟩,⟨f,rfl,d⟩,h⟩:=h;refine ⟨_,(aU (aJ (cL cv (pv 2) aA (aD _))
   (aT (aq (eF (iA pF (au aj (pv 0) ag (λ _ _=>rfl)) bw (aD _)) (eO (iA hZ (au aj (pv 0) ag (λ _ _=>rfl)) (au aj (pv 1) ag (λ _ _=>rfl)) (aD _))))))
   dD)
   (aU (aJ (cL cv (pv 2) aA (aD _))
   (aT (aq (eF (iA cv (au aj (pv 0) ag (λ _ _=>rfl)) (au aj (pv 1) ag (λ _ _=>rfl)) (aD _)) (eO (iA hZ (au aj (pv 0) ag (λ _ _=>rfl)) (au aj (pv 1) ag (λ _ _=>rfl)) (aD _))))))
   dD)
   (aT (aq dm)))),?_⟩
  match m,h with
  | 0,h=>
   refine ⟨_,rfl,rfl,_,rfl,bz (ZY rfl) ?_⟩;refine ⟨_,rfl,.inr (.inl ⟨c,_,6,fe r.e,rfl,rfl,a,bF (j:=6) rfl,rfl,_,rfl,?_⟩)⟩;cases re:r.e with
   | none=>
    refine bH (by show ¬ (!decide (V.non=V.non))=true;decide) ?_;have:cY 0 r q=false:=by show vt r.e q.b=_;rw [re];rfl
    rw [this] at h;exact h
   | some b=>
    refine bz rfl ?_;refine ⟨_,rfl,.inr (.inl ⟨c,_,6,.int (b:Nat),rfl,rfl,a,bF (j:=6) (by rw [re];rfl),?_⟩)⟩;refine ⟨_,rfl,.inr (.inl ⟨f,_,5,.int (q.b:Nat),rfl,rfl,d,bF (j:=5) rfl,b,q.b,rfl,rfl,?_⟩)⟩;have:cY 0 r q=decide (b < q.b):=by show vt r.e q.b=_;rw [re];rfl
    rw [this,<-dec_lt] at h;exact h
  | 1,h=>
   refine ⟨_,rfl,rfl,_,rfl,bB ?_⟩;refine ⟨_,rfl,rfl,_,rfl,bz (ZY rfl) ?_⟩;refine ⟨_,rfl,.inr (.inl ⟨c,_,0,.int r.h,rfl,rfl,a,bF (j:=0) rfl,?_⟩)⟩;refine ⟨_,rfl,.inr (.inl ⟨f,_,0,.int q.h,rfl,rfl,d,bF (j:=0) rfl,rfl,_,rfl,?_⟩)⟩;by_cases z:r.h=q.h
   ·refine bz (ZY (by rw [z])) ?_;refine ⟨_,rfl,.inr (.inl ⟨c,_,5,.int (r.b:Nat),rfl,rfl,a,bF (j:=5) rfl,?_⟩)⟩;refine ⟨_,rfl,.inr (.inl ⟨f,_,5,.int (q.b:Nat),rfl,rfl,d,bF (j:=5) rfl,r.b,q.b,rfl,rfl,?_⟩)⟩;have:cY 1 r q=decide (r.b < q.b):=by show (decide (r.h=q.h) && _)=_;rw [ZY z];rfl
    rw [this,<-dec_lt] at h;exact h
   ·refine bH (λ e=>z (V.int.inj (ZW e))) ?_;have:cY 1 r q=false:=by show (decide (r.h=q.h) && _)=_;rw [ZX z];rfl
    rw [this] at h;exact h
  | m + 2,h=>refine ⟨_,rfl,rfl,_,rfl,bH (show ¬ decide (V.str "bare" = V.str "strict")=true by decide +kernel) ?_⟩;refine ⟨_,rfl,rfl,_,rfl,bH (show ¬ decide (V.str "bare" = V.str "hands")=true by decide +kernel) ?_⟩;exact h
def Gp:Sp:=λ vs H Q _=>∃(m:Nat),vs=[.str (fh m)]/\Q .non H
def KU:aG (kx w) H 198 [.str "strict",.str "hands",.str "bare"]:=
 .inr ⟨⟨(.type "tuple"),none,(.seq #[(.str "strict" 500),(.str "hands" 501),(.str "bare" 502)] 0),#[]⟩,#[(.str "strict" 500),(.str "hands" 501),(.str "bare" 502)],0,by kernel_rfl,rfl,rfl,nk,.cons ⟨_,rfl⟩ (.cons ⟨_,rfl⟩ (.cons ⟨_,rfl⟩ .nil))⟩
def Jo (T:TX (kx w) mg):Fo P w mg base CX0 1 212 AB ["strictness"] Gp:=by
 refine (zo w.params).ok Kn (λ a H Q E h=>?_) (λ d A c s H a Q E b h=>?_)
 ·obtain ⟨m,rfl,_⟩:=h;rfl
 ·obtain ⟨m,rfl,h⟩:=h;refine ⟨_,(aT (aJ (PW.pt (gB (eR (bS (fg oQ rfl (T.no (oK _)) U4 (ao (pv 0) (ao (oE (v:=.ty "str") rfl (T.no (lV _)) boot_str rfl) ae))) (λ _=>rfl))) (gc (cL sh (pv 0) (qB (v:=.ref 198) rfl (T.of (KY _)) rfl) (by with_unfolding_all rfl)))))
   (aT AH)
   dD)),?_⟩
  refine ⟨_,rfl,_,_,"str",rfl,rfl,by decide +kernel,_,rfl,bH '!' ?_⟩;refine ⟨_,rfl,198,_,rfl,.inr KU,rfl,rfl,_,rfl,bH ?_ h⟩
  match m with
  | 0=>decide +kernel
  | 1=>decide +kernel
  | m + 2=>exact (by decide +kernel:¬ (if true=true then !md (.str "bare") [V.str "strict",.str "hands",.str "bare"] else md (.str "bare") [V.str "strict",.str "hands",.str "bare"])=true)
noncomputable def gw (m:Nat) (rs:List Rc) (a b:Nat):Bool:=match rs[a]?,rs[b]? with|some r,some q=>cY m r q|_,_=>false
noncomputable def fw (m:Nat) (rs:List Rc) (a j:Nat):List (Nat×Nat):=((L1 j).filter λ b=>gw m rs a b).map λ b=>(a,b)
noncomputable def lA (m:Nat) (rs:List Rc) (i:Nat):List (Nat×Nat):=(L1 i).flatMap λ a=>fw m rs a rs.length
def Im {rs:List Rc} {a:Nat}:fw m rs a (j + 1)=fw m rs a j++if gw m rs a j then [(a,j)] else []:=by
 unfold fw;rw [O9,c8,N1];by_cases z:gw m rs a j=true
 ·rw [ZZ z];simp [z]
 ·rw [Z_ z];simp [z]
def GT {rs:List Rc} :lA m rs (i + 1)=lA m rs i++fw m rs i rs.length:=by unfold lA;rw [O9,List.flatMap_append];simp
def FA {rs:List Rc} {a:Nat}:(fw m rs a j).length<=j:=by unfold fw;rw [D0];exact C0 (K3 _ _) (by rw [B2];exact o0 _)
theorem Bz {rs:List Rc} :∀i:Nat,(lA m rs i).length<=i * rs.length
 | 0=>by simp [lA]
 | i + 1=>by rw [GT,L0,Nat.add_mul,Nat.one_mul];exact Nat.add_le_add (Bz i) FA
def NV {rs:List Rc} {e:Ev}:(bJ i rs e).length<=rs.length + 1:=by
 cases e with
 | beg h n v x=>show (rs++[_]).length<=_;rw [L0];exact o0 _
 | fin h a=>
  unfold bJ;dsimp only;cases cX h (rs.map Rc.h) with
  | none=>exact S3 _
  | some j=>show (rs.modify j _).length<=_;rw [G6];exact S3 _
theorem Cm:∀{i:Nat} {rs:List Rc} (es:List Ev),(aR i rs es).length<=rs.length + es.length
 | _,_,[]=>o0 _
 | i,rs,e :: es=>by
  show (aR (i + 1) (bJ i rs e) es).length<=_;have:=Cm (i:=i + 1) (rs:=bJ i rs e) es;have:=NV (i:=i) (rs:=rs) (e:=e);rw [U0]
  lia
def cb (H:Hp) (p:Nat×Nat) (y:V):Prop:=∃a,y=.ref a/\H a=some (.tup [.int p.1,.int p.2])
def cb.same {p:Nat×Nat} (s:af H H') (h:cb H p y):cb H' p y:=h.elim λ a z=>⟨a,z.1,s _ _ z.2⟩
def cb.wrote {zs ws:List V} {p:Nat×Nat} (e:H l=some (.lst zs)) (h:cb H p y):cb (upd H l (.lst ws)) p y:=h.elim λ a z=>⟨a,z.1,by rw [ak (ip z.2 e (by intro z;cases z))];exact z.2⟩
def EE (K:c0):Sp:=λ vs H Q _=>∃(t te:ZR) (th:V) (ys:List V) (es:List Ev) (m:Nat),vs=[.ref t,.str (fh m)]/\aG K H t [th,.ref te]/\aG K H te ys/\av (gE K H) es ys/\es.length<=100/\rO 0 [] es/\
 ∀l zs H',af H H'->H l=none->H' l=some (.lst zs)->av (cb H') (lA m (aR 0 [] es) (aR 0 [] es).length) zs->Q (.ref l) H'
theorem Qa (T:TX (kx w) mg) (c0:Ca P w mg base "deeds" ["tale"] 1 (zT (kx w))) (c1:Ca P w mg base "check_strictness" ["strictness"] 1 Gp) (c2:Ca P w mg base "goes_ahead" ["one","other","strictness"] 1 (Ep (kx w))):Fo P w mg base CX0 2 205 zy ["tale","strictness"] (EE (kx w)):=by
 refine (CB w.params).ok cZ (λ vs H Q E h=>?_) (λ c3 A b7 s H vs Q E O h=>?_)
 ·obtain ⟨t,te,W,ys,B,m,rfl,_⟩:=h;rfl
 ·obtain ⟨t,te,W,ys,B,m,rfl,st,se,al,Z,wf,q⟩:=h;refine ⟨_,(aU (kD (aB c1 (O.mono '!') rfl (ao (pv 1) ae)))
   (aU (aC (i:=2) cZ.nd rfl (E1 rfl) (aB c0 (O.mono '!') rfl (ao (pv 0) ae)))
   (aU (aC (i:=3) cZ.nd rfl (E1 rfl) (aW ae))
   (aU (bY Z1 rfl (wJ rfl (T.no (uH _)) (ao (pv 2) ae)) (bQ rfl (eW (fm (i:=4) cZ.nd rfl (E1 rfl)) (eW (fm (i:=5) cZ.nd rfl (E1 rfl)) iW)))
   (aT (bY Z1 rfl (wJ rfl (T.no (uH _)) (ao (pv 2) ae)) (bQ rfl (eW (fm (i:=6) cZ.nd rfl (E1 rfl)) (eW (fm (i:=7) cZ.nd rfl (E1 rfl)) iW)))
   (aT (aJ (bS (aB c2 (O.mono '!') rfl (ao (pv 5) (ao (pv 7) (ao (pv 1) ae)))) (λ _=>rfl))
   (aT (kD (lJ (pv 3) (ao (az (ao (pv 4) (ao (pv 6) ae))) ae))))
   dD)))))
   (aT (aq (pv 3))))))),?_⟩
  refine ⟨_,rfl,m,rfl,?_⟩;refine ⟨_,rfl,t,te,W,ys,B,rfl,st,se,al,Z,wf,λ l g G s1 b9 V I=>?_⟩;generalize hrs:aR 0 [] B=rs at I q;have X:rs.length<=100:=by rw [<-hrs];have:=Cm (i:=0) (rs:=[]) B;simpa using C0 this (by simpa using Z)
  have n:g.length=rs.length:=cD I;refine ⟨jq,λ d v=>?_⟩;have a2:H d=none:=s1.free v;have nl:l≠d:=fK V v;have s2:af H (upd G d (.lst [])):=s1.trans (af.upd v);have R:upd G d (.lst []) l=some (.lst g):=(af.upd v) _ _ V;have U:=bG (λ a b z=>RcAt.tups (.of (af.upd (o:=.lst []) v)) z) I;have a7:upd G d (.lst []) d=some (.lst []):=ab;generalize upd G d (.lst [])=H2 at s2 R U a7⊢;refine ⟨_,rfl,l,g,rfl,aH.of R,?_⟩;refine Cu (K:=KX w.params) (a:=l) (xs:=g) (λ i σ c=>∃f,c l=some (.lst g)/\av (RcAt (kx w) c) rs g/\c d=some (.lst f)/\av (cb c) (lA m rs i) f/\af H c/\∃x4 x5 x6 x7,σ=[some (.ref t),some (.str (fh m)),some (.ref l),some (.ref d),x4,x5,x6,x7])
   ⟨[],R,U,a7,.nil,s2,_,_,_,_,rfl⟩ (λ i σ c h=>?_) ?_ ?_
  ·obtain ⟨f,e,_⟩:=h;exact aH.of e
  ·rintro i x σ H3 p hx ⟨f,e3,a3,f3,b3,s3,x4,x5,x6,x7,rfl⟩ hp;obtain ⟨H4,M,u,ep⟩:=eZ (.tup [.int i,x]) hp;rw [<-M];have e4:=u _ _ e3;have f4:=u _ _ f3;have a4:=bG (λ a b z=>RcAt.tups (.of u) z) a3;have b4:=bG (λ a b z=>cb.same u z) b3;have s4:=s3.trans u;refine ⟨p,_,rfl,aG.of ep,rfl,.int i,_,rfl,x,_,rfl,rfl,?_⟩;have b0:i < rs.length:=by rw [<-n];exact (List.getElem?_eq_some_iff.mp hx).1
   have pl:=Bz (m:=m) (rs:=rs) i;have pm:i * rs.length<=10000:=j0d (C0 (X2 b0) X) X;refine ⟨_,rfl,l,g,rfl,aH.of e4,?_⟩;refine Cu (K:=KX w.params) (a:=l) (xs:=g) (λ j σ c=>∃f,c l=some (.lst g)/\av (RcAt (kx w) c) rs g/\c d=some (.lst f)/\av (cb c) (lA m rs i++fw m rs i j) f/\af H c/\∃x6 x7,σ=[some (.ref t),some (.str (fh m)),some (.ref l),some (.ref d),some (.int (i:Nat)),some x,x6,x7])
    ⟨f,e4,a4,f4,by rw [show fw m rs i 0=[] from rfl,A3];exact b4,s4,_,_,rfl⟩ (λ j σ c h=>?_) ?_ ?_
   ·obtain ⟨f,e,_⟩:=h;exact aH.of e
   ·rintro j y σ J F hy ⟨zs3,e5,a5,f5,b5,s5,x6,x7,rfl⟩ hp';have k:=af.upd (o:=.tup [.int j,y]) hp';have a0:upd J F (.tup [.int j,y]) F=some (.tup [.int j,y]):=ab;generalize upd J F (.tup [.int j,y])=H6 at k a0⊢;have e6:=k _ _ e5;have L:=k _ _ f5;have D:=bG (λ a b z=>RcAt.tups (.of k) z) a5;have N:=bG (λ a b z=>cb.same k z) b5;have s6:=s5.trans k;refine ⟨F,_,rfl,aG.of a0,rfl,.int j,_,rfl,y,_,rfl,rfl,?_⟩;obtain ⟨r1,b1,a9⟩:=fJ D hx;obtain ⟨S,a1,b2⟩:=fJ D hy;have b8:j < rs.length:=(List.getElem?_eq_some_iff.mp a1).1;have ah:gw m rs i j=cY m r1 S:=by unfold gw;rw [b1,a1]
    refine ⟨_,rfl,_,rfl,_,rfl,x,y,r1,S,m,rfl,a9,b2,_,rfl,?_⟩;rw [<-ah];have rl:=FA (m:=m) (rs:=rs) (a:=i) (j:=j);have zl:zs3.length=(lA m rs i++fw m rs i j).length:=cD N;rw [L0] at zl;by_cases z:gw m rs i j=true
    ·refine bz z ?_;refine ⟨_,rfl,.inl ⟨rfl,zs3,aH.of L⟩,_,rfl,_,rfl,cV,λ Y a8=>?_⟩;obtain ⟨H7,M,r,e7⟩:=eZ (.tup [.int (i:Nat),.int (j:Nat)]) a8;rw [<-M];have C:=r _ _ L;refine ⟨d,zs3,_,rfl,rfl,C,U1 (m:=20000) '%' '!',?_⟩;refine ⟨zs3++[.ref Y],?_,?_,ab,?_,af.keep (s6.trans r) a2,_,_,rfl⟩
     ·rw [ak nl];exact r _ _ e6
     ·exact bG (λ a b z=>RcAt.tups ((bN.of r).trans (bN.lst C)) z) D
     ·rw [Im,ZZ z,<-V1];exact mw (bG (λ a b z=>cb.wrote C (cb.same r z)) N) (cb.wrote C ⟨Y,rfl,e7⟩)
    ·refine bH z ?_;exact ⟨zs3,e6,D,L,by rw [Im,Z_ z,A3];exact N,s6,_,_,rfl⟩
   ·rintro σ J ⟨zs3,e5,a5,f5,b5,s5,x6,x7,rfl⟩;exact ⟨zs3,e5,a5,f5,by rw [GT,<-n];rw [n] at b5;rw [n];exact b5,s5,_,_,_,_,rfl⟩
  ·rintro σ H3 ⟨f,e3,a3,f3,b3,s3,x4,x5,x6,x7,rfl⟩;rw [n] at b3;exact ⟨_,rfl,q d f H3 s3 a2 f3 b3⟩
end
variable {os:List Int}
section
noncomputable def fA (os:List Int):Ev->List Int
 | .beg h _ _ _=>os++[h]
 | .fin h _=>os.filter λ k=>decide (k≠h)
noncomputable def yS (os:List Int):Ev->Prop
 | .beg h _ _ _=>h∉os
 | .fin h _=>h∈os
noncomputable def kU:List Int->List Ev->Prop
 | _,[]=>True
 | os,e :: es=>yS os e/\kU (fA os e) es
theorem kU.snoc:∀{es:List Ev} {os:List Int} {e:Ev},kU os es->yS (es.foldl fA os) e->kU os (es++[e])
 | [],os,e,_,h=>⟨h,trivial⟩
 | x :: es,os,e,w,h=>⟨w.1,kU.snoc w.2 h⟩
theorem Pk (hs:List Int) :∀{j:Nat},cX h hs=some j->hs[j]? = some h/\∀k,j < k->hs[k]?≠some h:=by
 suffices key :∀n (hs:List Int),hs.length=n->∀{j:Nat},cX h hs=some j->hs[j]? = some h/\∀k,j < k->hs[k]?≠some h from λ {j} a=>key _ hs rfl a;intro n;induction n with
 | zero=>intro hs e j a;have:=wL a;lia
 | succ n ih=>
  intro hs e j a;have d:hs≠[]:=λ z=>by rw [z] at e;cases e
  obtain ⟨b,t,rfl⟩ :∃b t,hs=b++[t]:=⟨hs.dropLast,hs.getLast d,(B4 d).symm⟩
  rw [L0] at e;have e:b.length=n:=by simpa using e
  rw [xt] at a;by_cases z:t=h
  ·rw [ZZ z] at a;cases a;refine ⟨by simp [z],λ k c=>?_⟩;rw [L4 (by rw [L0];show b.length + 1<=k;lia)];intro y;cases y
  ·rw [Z_ z] at a;obtain ⟨f,g⟩:=ih b e a;have lt:=wL a;refine ⟨by rw [F2 lt];exact f,λ k c=>?_⟩;by_cases y:k < b.length
   ·rw [F2 y];exact g k c
   ·by_cases y2:k=b.length
    ·subst y2;rw [X1 (o0 _)];simp;exact z
    ·rw [L4 (by rw [L0];show b.length + 1<=k;lia)];intro y;cases y
def JM (hs:List Int) (hm:h∈hs):(cX h hs).isSome=true:=by
 suffices key :∀n (hs:List Int),hs.length=n->h∈hs->(cX h hs).isSome=true from key _ hs rfl hm;intro n;induction n with
 | zero=>intro hs e hm;rw [List.length_eq_zero_iff.mp e] at hm;cases hm
 | succ n ih=>
  intro hs e hm;have b:hs≠[]:=λ z=>by rw [z] at e;cases e
  obtain ⟨a,t,rfl⟩ :∃a t,hs=a++[t]:=⟨hs.dropLast,hs.getLast b,(B4 b).symm⟩
  rw [L0] at e;rw [xt];by_cases z:t=h
  ·rw [ZZ z];rfl
  ·rw [Z_ z];refine ih a (by simpa using e) ?_;rcases List.mem_append.mp hm with y|y
   ·exact y
   ·exact ZU (List.mem_singleton.mp y).symm z
structure eY (i:Nat) (rs:List Rc) (os:List Int):Prop where
 b :∀r∈rs,r.b < i
 e :∀r∈rs,∀e,r.e=some e->e < i
 p :∀(x y:Nat) (r q:Rc),x < y->rs[x]? = some r->rs[y]? = some q->r.b < q.b/\(r.h=q.h->∃e,r.e=some e/\e < q.b)
 o :∀r∈rs,r.h∉os->r.e.isSome=true
 m :∀h∈os,h∈rs.map Rc.h
def eY.nil:eY 0 [] []:=⟨λ _ h=>(by cases h),λ _ h=>(by cases h),λ x y r q _ h=>(by simp at h),λ _ h=>(by cases h),λ _ h=>(by cases h)⟩
def Ht {rs:List Rc} {f:Rc->Rc} (hf :∀r,(f r).h=r.h):(rs.modify j f).map Rc.h=rs.map Rc.h:=by
 apply K8;intro m;rw [Z0,Z0,E7];cases rs[m]? with
 | none=>rfl
 | some r=>
  show some (if j=m then f r else r).h=some r.h;by_cases z:j=m
  ·rw [ZZ z,hf]
  ·rw [Z_ z]
theorem eY.step {rs:List Rc} (I:eY i rs os) {e:Ev} (ok:yS os e):eY (i + 1) (bJ i rs e) (fA os e)/\∀h a,e=.fin h a->(cX h (rs.map Rc.h)).isSome=true:=by
 cases e with
 | beg h n v x=>
  have ok:h∉os:=ok;refine ⟨⟨λ r d=>?_,λ r d e c=>?_,λ t g r q E O C=>?_,λ r d A=>?_,λ k G=>?_⟩,λ h a e=>by cases e⟩
  ·rcases List.mem_append.mp d with z|z
   ·have:=I.b r z;lia
   ·rw [List.mem_singleton.mp z];exact i3 i
  ·rcases List.mem_append.mp d with z|z
   ·have:=I.e r z e c;lia
   ·rw [List.mem_singleton.mp z] at c;cases c
  ·have a1:g < (bJ i rs (.beg h n v x)).length:=(List.getElem?_eq_some_iff.mp C).1;have hl:(bJ i rs (.beg h n v x)).length=rs.length + 1:=by show (rs++[_]).length=_;rw [L0];rfl
   have X:rs[t]? = some r:=by
    have:(rs++[_])[t]? = some r:=O
    rwa [F2 '%'] at this
   by_cases z:g < rs.length
   ·have a0:rs[g]? = some q:=by
     have:(rs++[_])[g]? = some q:=C
     rwa [F2 z] at this
    exact I.p t g r q E X a0
   ·have F:(rs++[_])[g]? = some q:=C;have ey:g=rs.length:=by lia
    subst ey;rw [X1 (o0 _)] at F;simp at F;have L:=S0 X;rw [<-F];refine ⟨I.b r L,λ B=>?_⟩;have:r.e.isSome=true:=I.o r L (by rw [B];exact ok);obtain ⟨e,c⟩:=Option.isSome_iff_exists.mp this;exact ⟨e,c,I.e r L e c⟩
  ·rcases List.mem_append.mp d with z|z
   ·exact I.o r z λ y=>A (List.mem_append.mpr (.inl y))
   ·rw [List.mem_singleton.mp z] at A;exact ZU (List.mem_append.mpr (.inr (List.mem_singleton.mpr rfl))) A
  ·show k∈(rs++[_]).map Rc.h;rw [N1];rcases List.mem_append.mp G with z|z
   ·exact List.mem_append.mpr (.inl (I.m k z))
   ·rw [List.mem_singleton.mp z];exact List.mem_append.mpr (.inr (List.mem_singleton.mpr rfl))
 | fin h a=>
  have ok:h∈os:=ok;obtain ⟨j,M⟩:=Option.isSome_iff_exists.mp (JM _ (I.m h ok));refine ⟨?_,λ h' a' e=>by cases e;rw [M];rfl⟩;obtain ⟨V,P⟩:=Pk _ M;have Y:bJ i rs (.fin h a)=rs.modify j (λ r=>{ r with a:=a,e:=some i }):=by unfold bJ;dsimp only;rw [M]
  rw [Y];have hs:fA os (.fin h a)=os.filter λ k=>decide (k≠h):=rfl;rw [hs];rw [Z0] at V;obtain ⟨rj,S,T⟩:=Option.map_eq_some_iff.mp V;have get :∀m q,(rs.modify j (λ r=>{ r with a:=a,e:=some i }))[m]? = some q->∃r,rs[m]? = some r/\q.h=r.h/\q.b=r.b/\(m=j->q.e=some i)/\(m≠j->q=r):=λ m q R=>by
   rw [E7] at R;obtain ⟨r,d,e⟩:=Option.map_eq_some_iff.mp R;refine ⟨r,d,?_⟩;by_cases z:j=m
   ·rw [ZZ z] at e;rw [<-e];exact ⟨rfl,rfl,λ _=>rfl,λ y=>ZU z.symm y⟩
   ·rw [Z_ z] at e;rw [<-e];exact ⟨rfl,rfl,λ y=>ZU y.symm z,λ _=>rfl⟩
  refine ⟨λ r d=>?_,λ r d e c=>?_,λ t g r q E O C=>?_,λ r d A=>?_,λ k G=>?_⟩
  ·obtain ⟨m,D⟩:=List.mem_iff_getElem?.mp d;obtain ⟨s,u,_,h3,_⟩:=get m r D;have:=I.b s (S0 u)
   lia
  ·obtain ⟨m,D⟩:=List.mem_iff_getElem?.mp d;obtain ⟨s,u,_,_,H,J⟩:=get m r D;by_cases z:m=j
   ·rw [H z] at c;cases c;exact i3 i
   ·rw [J z] at c;have:=I.e s (S0 u) e c
    lia
  ·obtain ⟨s,K,Z,r3,r4,r5⟩:=get t r O;obtain ⟨U,Q,W,q3,_⟩:=get g q C;obtain ⟨p1,N⟩:=I.p t g s U E K Q;refine ⟨by lia,λ B=>?_⟩;by_cases z:t=j
   ·subst z;rw [S] at K;cases K;refine ZU ?_ (P g E);rw [Z0,Q];show some U.h=some h;rw [<-W,<-B,Z,T]
   ·rw [r5 z] at B⊢;rw [W] at B;obtain ⟨e,c,lt⟩:=N B;exact ⟨e,c,by lia⟩
  ·obtain ⟨m,D⟩:=List.mem_iff_getElem?.mp d;obtain ⟨s,u,h2,_,H,J⟩:=get m r D;by_cases z:m=j
   ·rw [H z];rfl
   ·rw [J z] at A⊢;by_cases y:s.h=h
    ·have lt:m < j:=by
      rcases Nat.lt_or_gt_of_ne z with l|l
      ·exact l
      ·exact ZU (by rw [Z0,u];show some s.h=_;rw [y]) (P m l)
     obtain ⟨_,N⟩:=I.p m j s rj lt u S;obtain ⟨e,c,_⟩:=N (by rw [y,T]);rw [c];rfl
    ·exact I.o s (S0 u) λ w=>A (List.mem_filter.mpr ⟨w,ZY y⟩)
  ·rw [Ht (f:=λ r=>{ r with a:=a,e:=some i }) (λ r=>rfl)];exact I.m k (List.mem_filter.mp G).1
theorem eY.all:∀{es:List Ev} {i:Nat} {rs:List Rc} {os:List Int},eY i rs os->kU os es->rO i rs es/\∃os',eY (i + es.length) (aR i rs es) os'
 | [],i,rs,os,I,_=>⟨trivial,os,I⟩
 | e :: es,i,rs,os,I,w=>by obtain ⟨c,a⟩:=I.step w.1;obtain ⟨b,os',d⟩:=eY.all c w.2;refine ⟨⟨a,b⟩,os',?_⟩;rw [U0,show i + (es.length + 1)=i + 1 + es.length by lia];exact d
def Qk:∀{os:List Int},kvs.map (·.1)=os.map Sum.inl->(cF kvs (.inl h)).map (·.1)=(os.filter λ k=>decide (k≠h)).map Sum.inl:=by
 induction kvs with
 | nil=>intro os e;cases os with|nil=>rfl|cons o os=>cases e
 | cons p r ih=>
  intro os e;cases os with
  | nil=>cases e
  | cons o os=>
   rw [G1,G1] at e;injection e with e1 e2;by_cases z:o=h
   ·rw [Gv (by rw [e1,z]),u5 (by simp [z])];exact ih e2
   ·rw [Fu (by rw [e1];exact λ y=>z (L9 y)),o5 (by simp [z]),G1,G1,e1,ih e2]
theorem DJ {α β:Type} {R S:α->β->Prop} :∀{xs:List α} {ys:List β},(∀a b,b∈ys->R a b->S a b)->av R xs ys->av S xs ys
 | _,_,_,.nil=>.nil
 | _,_,h,.cons a r=>.cons (h _ _ R0 a) (DJ (λ x y c z=>h x y (Y0 _ c) z) r)
theorem tK {α β:Type} {R:α->β->Prop} :∀{xs:List α} {ys:List β},ys.length=xs.length->(∀(k:Nat) a b,xs[k]? = some a->ys[k]? = some b->R a b)->av R xs ys
 | [],[],_,_=>.nil
 | [],y :: ys,h,_=>by cases h
 | x :: xs,[],h,_=>by cases h
 | x :: xs,y :: ys,h,f=>.cons (f 0 x y rfl rfl) (tK (by simpa using h) λ k a b d c=>f (k + 1) a b (by rw [N2];exact d) (by rw [N2];exact c))
end
section
def Ax {rs:List Rc} {a b:Nat} {r q:Rc} (ha:rs[a]? = some r) (hb:rs[b]? = some q):gw m rs a b=cY m r q:=by unfold gw;rw [ha,hb]
def ew {rs:List Rc} {p:Nat×Nat} :p∈lA m rs n↔p.1 < n/\p.2 < rs.length/\gw m rs p.1 p.2=true:=by
 unfold lA fw;rw [List.mem_flatMap];constructor
 ·rintro ⟨a,ha,h⟩;obtain ⟨b,e,rfl⟩:=List.mem_map.mp h;obtain ⟨d,c⟩:=List.mem_filter.mp e;exact ⟨List.mem_range.mp ha,List.mem_range.mp d,c⟩
 ·rintro ⟨d,c,h3⟩;exact ⟨p.1,List.mem_range.mpr d,List.mem_map.mpr ⟨p.2,List.mem_filter.mpr ⟨List.mem_range.mpr c,h3⟩,rfl⟩⟩
end
variable {L:List ZR} {p:ZR}
section
def near (i:Int):Prop:=-1000000000<=i/\i<=1000000000
inductive bp:ZQ->ZQ->Dt->Prop
 | regR:bp "register" "read" .non
 | regW {i:Int}:near i->bp "register" "write" (.int i)
 | cntR:bp "counter" "read" .non
 | cntA {i:Int}:near i->bp "counter" "add" (.int i)
 | quP {i:Int}:near i->bp "queue" "put" (.int i)
 | quT:bp "queue" "take" .non
 | setP {i:Int}:near i->bp "set" "put" (.int i)
 | setC {i:Int}:near i->bp "set" "cut" (.int i)
 | setH {i:Int}:near i->bp "set" "has" (.int i)
 | celR:bp "cell" "read" .non
 | celW {i:Int}:near i->bp "cell" "write" (.int i)
 | celS {i j:Int}:near i->near j->bp "cell" "swap" (.tup [.int i,.int j])
noncomputable def bU:List ZQ:=["register","counter","queue","set","cell"]
noncomputable def dY (k:ZQ):List ZQ:=if k = "register" then ["write","read"] else if k = "counter" then ["add","read"] else if k = "queue" then ["put","take"] else if k = "set" then ["put","cut","has"] else ["read","write","swap","swap"]
def qt (k v:ZQ):Prop:=((v = "read"\/v = "take")/\bp k v .non)\/(v = "swap"/\∀i j,near i->near j->bp k v (.tup [.int i,.int j]))\/(v≠"read"/\v≠"take"/\v≠"swap"/\∀i,near i->bp k v (.int i))
def Ja {k v:ZQ} (hk:k∈bU) (hv:v∈dY k):qt k v:=by
 unfold bU at hk;simp only [R1,u0,or_false] at hk;rcases hk with rfl|rfl|rfl|rfl|rfl
 ·rw [show dY "register" = (["write","read"]:List ZQ) by decide +kernel] at hv;simp only [R1,u0,or_false] at hv;rcases hv with rfl|rfl
  ·exact .inr (.inr ⟨by decide +kernel,by decide +kernel,by decide +kernel,λ i h=>.regW h⟩)
  ·exact .inl ⟨.inl rfl,.regR⟩
 ·rw [show dY "counter" = (["add","read"]:List ZQ) by decide +kernel] at hv;simp only [R1,u0,or_false] at hv;rcases hv with rfl|rfl
  ·exact .inr (.inr ⟨by decide +kernel,by decide +kernel,by decide +kernel,λ i h=>.cntA h⟩)
  ·exact .inl ⟨.inl rfl,.cntR⟩
 ·rw [show dY "queue" = (["put","take"]:List ZQ) by decide +kernel] at hv;simp only [R1,u0,or_false] at hv;rcases hv with rfl|rfl
  ·exact .inr (.inr ⟨by decide +kernel,by decide +kernel,by decide +kernel,λ i h=>.quP h⟩)
  ·exact .inl ⟨.inr rfl,.quT⟩
 ·rw [show dY "set" = (["put","cut","has"]:List ZQ) by decide +kernel] at hv;simp only [R1,u0,or_false] at hv;rcases hv with rfl|rfl|rfl
  ·exact .inr (.inr ⟨by decide +kernel,by decide +kernel,by decide +kernel,λ i h=>.setP h⟩)
  ·exact .inr (.inr ⟨by decide +kernel,by decide +kernel,by decide +kernel,λ i h=>.setC h⟩)
  ·exact .inr (.inr ⟨by decide +kernel,by decide +kernel,by decide +kernel,λ i h=>.setH h⟩)
 ·rw [show dY "cell" = (["read","write","swap","swap"]:List ZQ) by decide +kernel] at hv;simp only [R1,u0,or_false] at hv;rcases hv with rfl|rfl|rfl|rfl
  ·exact .inl ⟨.inl rfl,.celR⟩
  ·exact .inr (.inr ⟨by decide +kernel,by decide +kernel,by decide +kernel,λ i h=>.celW h⟩)
  ·exact .inr (.inl ⟨rfl,λ i j a b=>.celS a b⟩)
  ·exact .inr (.inl ⟨rfl,λ i j a b=>.celS a b⟩)
def ML (z:ZQ) (ws:List ZQ):md (.str z) (ws.map V.str)=decide (z∈ws):=by
 unfold md;rw [j55,Bool.eq_iff_iff,Z8,decide_eq_true_eq];constructor
 ·rintro ⟨x,hx,e⟩;have e:x=z:=eq_of_beq (show (x == z)=true from e);rw [<-e];exact hx
 ·exact λ h=>⟨z,h,(show (z == z)=true from beq_self_eq_true z)⟩
def MX (k:aK L H H') (n :∀l∈L,H l=none):af H H':=λ b o e=>k b o (λ z=>by rw [n b z] at e;cases e) e
structure gH (H:Hp) (p:ZR) (n:Nat) (f:ZQ->Option (List ZQ)):Prop where
 ex :∃kvs:List (Key×V),H p=some (.dK kvs)/\kvs.length<=n/\∀k ws,f k=some ws->∃l,bM kvs (.inr k)=some (.ref l)/\H l=some (.lst (ws.map V.str))
def HK (kvs:List (Key×V)) (k:Key) (v:V):(putK kvs k v).length<=kvs.length + 1:=by
 unfold putK;split
 ·rw [D0];exact S3 _
 ·rw [L0];exact o0 _
def gH.put {f:ZQ->Option (List ZQ)} {k:ZQ} {ws:List ZQ} (hl:H l=none) (e:H p=some (.dK kvs)) (hn:kvs.length<=n) (h :∀k ws,f k=some ws->∃l,bM kvs (.inr k)=some (.ref l)/\H l=some (.lst (ws.map V.str))) :
  ∃H',H'=upd (upd H l (.lst (ws.map V.str))) p (.dK (putK kvs (.inr k) (.ref l)))/\gH H' p (n + 1) (λ j=>if j=k then some ws else f j)/\aK [p] H H':=by
 have t:p≠l:=fK e hl;refine ⟨_,rfl,⟨_,ab,C0 (HK _ _ _) (o6 hn),λ j q a=>?_⟩,λ b o s d=>?_⟩
 ·by_cases z:j=k
  ·subst z;rw [ZZ rfl] at a;cases a;refine ⟨l,by rw [qY,ZZ rfl],?_⟩;rw [ak t.symm];exact ab
  ·rw [Z_ z] at a;obtain ⟨m,g,c⟩:=h j q a;refine ⟨m,by rw [qY,Z_ (λ y=>z (K9 y))];exact g,?_⟩;have i:m≠p:=λ y=>by rw [y,e] at c;cases c
   rw [ak i,ak (fK c hl)];exact c
 ·have r:b≠p:=λ z=>s (by rw [z];exact List.mem_singleton.mpr rfl);rw [ak r,ak (fK d hl)];exact d
def pZ {l1 l2 l3:ZR} {k1 k2 k3:ZQ} {w1 w2 w3:List ZQ} (hp:H p=none) (h1:upd H p (.dK []) l1=none) (h2:upd (upd H p (.dK [])) l1 (.lst (w1.map V.str)) l2=none)
  (h3:upd (upd (upd H p (.dK [])) l1 (.lst (w1.map V.str))) l2 (.lst (w2.map V.str)) l3=none) (n12:k1≠k2) (n13:k1≠k3) (n23:k2≠k3) :
  upd (upd (upd (upd H p (.dK [])) l1 (.lst (w1.map V.str))) l2 (.lst (w2.map V.str))) l3 (.lst (w3.map V.str)) p=some (.dK [])/\
  ∃H',H'=upd (upd (upd (upd (upd H p (.dK [])) l1 (.lst (w1.map V.str))) l2 (.lst (w2.map V.str))) l3 (.lst (w3.map V.str))) p (.dK [(.inr k1,.ref l1),(.inr k2,.ref l2),(.inr k3,.ref l3)])/\af H H'/\
   H' p=some (.dK [(.inr k1,.ref l1),(.inr k2,.ref l2),(.inr k3,.ref l3)])/\∀k ws,(if k=k1 then some w1 else if k=k2 then some w2 else if k=k3 then some w3 else none)=some ws->∃l,bM [((.inr k1:Key),V.ref l1),(.inr k2,.ref l2),(.inr k3,.ref l3)] (.inr k)=some (.ref l)/\H' l=some (.lst (ws.map V.str)):=by
 have c:p≠l1:=fK ab h1;have d:p≠l2:=fK (by rw [ak c];exact ab) h2;have i:p≠l3:=fK (by rw [ak d,ak c];exact ab) h3;have g:l1≠l2:=fK ab h2;have j:l1≠l3:=fK (by rw [ak g];exact ab) h3;have m:l2≠l3:=fK ab h3;refine ⟨by rw [ak i,ak d,ak c];exact ab,_,rfl,λ b o e=>?_,ab,λ k ws e=>?_⟩
 ·rw [ak (fK e hp)];exact ((((af.upd hp).trans (af.upd h1)).trans (af.upd h2)).trans (af.upd h3)) b o e
 ·have f :∀{a b:ZQ},a≠b->(Sum.inr a:Key)≠Sum.inr b:=λ h e=>h (K9 e);by_cases z1:k=k1
  ·rw [ZZ z1] at e;cases e;exact ⟨l1,by rw [z1];exact jb rfl,by rw [ak c.symm,ak j,ak g];exact ab⟩
  ·rw [Z_ z1] at e;by_cases z2:k=k2
   ·rw [ZZ z2] at e;cases e;exact ⟨l2,by rw [z2,iS (f n12)];exact jb rfl,by rw [ak d.symm,ak m];exact ab⟩
   ·rw [Z_ z2] at e;by_cases z3:k=k3
    ·rw [ZZ z3] at e;cases e;exact ⟨l3,by rw [z3,iS (f n13),iS (f n23)];exact jb rfl,by rw [ak i.symm];exact ab⟩
    ·rw [Z_ z3] at e;cases e
def cy (H:Hp) (d:Dt) (x:V):Prop:=∀a b:Int,d=.tup [.int a,.int b]->∃t,x=.ref t/\H t=some (.tup [.int a,.int b])
def e9:(10:Int) ^ (9:Int).toNat=1000000000:=by decide
def p9:wx 10 9:=⟨'!','!','!'⟩
end
variable {d:Dt} {ns:List Int}
section
inductive Sv
 | num (i:Int)
 | row (ns:List Int)
def cT (k:ZQ):Prop:=k = "queue"\/k = "set"
instance (k:ZQ):Decidable (cT k):=by unfold cT;infer_instance
noncomputable def uc (k v:ZQ):Nat:=if k = "queue" then (if v = "put" then 0 else 1) else if k = "set" then (if v = "put" then 2 else if v = "cut" then 3 else 4) else if v = "read" then 5 else if v = "add" then 6 else if v = "write" then 7 else 8
noncomputable def dI:Dt->Int
 | .int i=>i
 | _=>0
noncomputable def mx (ns:List Int):List Int:=ns.mergeSort λ a b=>decide (a<=b)
noncomputable def Dn:Nat->Dt->Sv->Sv×V
 | 0,d,.row ns=>(.row (ns++[dI d]),.str "ok")
 | 1,_,.row []=>(.row [],.str "none")
 | 1,_,.row (m :: r)=>(.row r,.int m)
 | 2,d,.row ns=>if dI d∈ns then (.row ns,.int 0) else (.row (mx (ns++[dI d])),.int 1)
 | 3,d,.row ns=>(.row (ns.filter λ j=>!decide (j=dI d)),.int (if dI d∈ns then 1 else 0))
 | 4,d,.row ns=>(.row ns,.int (if dI d∈ns then 1 else 0))
 | 5,_,.num i=>(.num i,.int i)
 | 6,d,.num i=>(.num (i + dI d),.int i)
 | 7,d,.num _=>(.num (dI d),.str "ok")
 | 8,.tup [.int a,.int b],.num i=>if i=a then (.num b,.int 1) else (.num i,.int 0)
 | _,_,s=>(s,.non)
noncomputable def dz (k v:ZQ) (d:Dt) (s:Sv):Sv×V:=Dn (uc k v) d s
def eL {k v:ZQ} {s:Sv} (h:uc k v=n):dz k v d s=Dn n d s:=by unfold dz;rw [h]
def jV {i:Int} :dz "queue" "put" (.int i) (.row ns)=(.row (ns++[i]),.str "ok"):=eL (n:=0) (by decide +kernel)
def y3:dz "queue" "take" d (.row [])=(.row [],.str "none"):=eL (n:=1) (by decide +kernel)
def jR {m:Int} {r:List Int}:dz "queue" "take" d (.row (m :: r))=(.row r,.int m):=eL (n:=1) (by decide +kernel)
def xX {i:Int} :dz "set" "put" (.int i) (.row ns)=if i∈ns then (.row ns,.int 0) else (.row (mx (ns++[i])),.int 1):=eL (n:=2) (by decide +kernel)
def zF {i:Int} :dz "set" "cut" (.int i) (.row ns)=(.row (ns.filter λ j=>!decide (j=i)),.int (if i∈ns then 1 else 0)):=eL (n:=3) (by decide +kernel)
def zm {i:Int} :dz "set" "has" (.int i) (.row ns)=(.row ns,.int (if i∈ns then 1 else 0)):=eL (n:=4) (by decide +kernel)
def yn {i:Int}:dz "register" "read" d (.num i)=(.num i,.int i):=eL (n:=5) (by decide +kernel)
def Aw {i:Int}:dz "counter" "read" d (.num i)=(.num i,.int i):=eL (n:=5) (by decide +kernel)
def Cd {i:Int}:dz "cell" "read" d (.num i)=(.num i,.int i):=eL (n:=5) (by decide +kernel)
def zr {i j:Int}:dz "counter" "add" (.int j) (.num i)=(.num (i + j),.int i):=eL (n:=6) (by decide +kernel)
def zI {i j:Int}:dz "register" "write" (.int j) (.num i)=(.num j,.str "ok"):=eL (n:=7) (by decide +kernel)
def zQ {i j:Int}:dz "cell" "write" (.int j) (.num i)=(.num j,.str "ok"):=eL (n:=7) (by decide +kernel)
def xp {i a b:Int}:dz "cell" "swap" (.tup [.int a,.int b]) (.num i)=if i=a then (.num b,.int 1) else (.num i,.int 0):=eL (n:=8) (by decide +kernel)
def ye (ns:List Int):(mx ns).Perm ns:=List.mergeSort_perm ns _
def AC (ns:List Int):(mx ns).Pairwise (·<=·):=by have:=j50 (le:=λ a b:Int=>decide (a<=b)) (λ a b c d e=>ZY (Int.le_trans (ZW d) (ZW e))) (λ a b=>by rcases Int.le_total a b with h|h<;>simp [h]) ns;exact this.imp λ h=>ZW h
def FT {xs ys:List Int} (p:xs.Perm ys) (hx:xs.Pairwise (·<=·)) (hy:ys.Pairwise (·<=·)):xs=ys:=p.eq_of_pairwise (le:=(·<=·)) (λ _ _ _ _ a b=>Int.le_antisymm a b) hx hy
theorem JB (h:ns.Pairwise (· < ·)):ns.Nodup:=h.imp λ z e=>by lia
noncomputable def cS (n:Nat) (k:ZQ):Sv->Prop
 | .row ns=>cT k/\ns.length<=n/\(∀i∈ns,near i)/\(k = "set"->ns.Pairwise (· < ·))
 | .num i=>¬ cT k/\-(1000000000 * (n:Int))<=i/\i<=1000000000 * (n:Int)
def jr (a:V):Prop:=a=.str "ok"\/a=.str "none"\/∃i:Int,a=.int i/\-100000000000<=i/\i<=100000000000
theorem cS.le {k:ZQ} :∀{s:Sv},n<=m->cS n k s->cS m k s
 | .row _,l,h=>⟨h.1,C0 h.2.1 l,h.2.2⟩
 | .num _,l,h=>⟨h.1,by have:=h.2.1;lia,by have:=h.2.2;lia⟩
theorem cS.isRow {k:ZQ} :∀{s:Sv},cS n k s->cT k->∃ns,s=.row ns/\ns.length<=n/\(∀i∈ns,near i)/\(k = "set"->ns.Pairwise (· < ·))
 | .row ns,h,_=>⟨ns,rfl,h.2⟩
 | .num _,h,hk=>ZU hk h.1
theorem cS.isNum {k:ZQ} :∀{s:Sv},cS n k s->¬ cT k->∃i,s=.num i/\-(1000000000 * (n:Int))<=i/\i<=1000000000 * (n:Int)
 | .row _,h,hk=>ZU h.1 hk
 | .num i,h,_=>⟨i,rfl,h.2⟩
def cS.row {k:ZQ} (h1:cT k) (h2:ns.length<=n) (h3 :∀i∈ns,near i) (h4:k = "set"->ns.Pairwise (· < ·)):cS n k (.row ns):=⟨h1,h2,h3,h4⟩
def cS.num {k:ZQ} {i:Int} (h1:¬ cT k) (h2:-(1000000000 * (n:Int))<=i) (h3:i<=1000000000 * (n:Int)):cS n k (.num i):=⟨h1,h2,h3⟩
def lZ {i:Int} (h0:-100000000000<=i) (h1:i<=100000000000):jr (.int i):=.inr (.inr ⟨i,rfl,h0,h1⟩)
def oq {p:Prop} [Decidable p]:jr (.int (if p then 1 else 0)):=by
 by_cases h:p
 ·rw [ZZ h];exact lZ '!' '!'
 ·rw [Z_ h];exact lZ '!' '!'
theorem hX {k v:ZQ} {s:Sv} (hd:bp k v d) (h:cS n k s) (hn:n < 63):cS (n + 1) k (dz k v d s).1/\jr (dz k v d s).2:=by
 have t:cT "queue":=.inl rfl;have q:cT "set":=.inr rfl;have A:("queue" : ZQ)≠"set":=by decide +kernel
 have u:¬ cT "register":=by decide +kernel
 have w:¬ cT "counter":=by decide +kernel
 have p:¬ cT "cell":=by decide +kernel
 cases hd with
 | quP ni=>
  obtain ⟨g,rfl,f,c,o⟩:=h.isRow t;rw [jV];refine ⟨.row t (by rw [L0];exact o6 f) (λ j l=>?_) λ z=>ZU z A,.inl rfl⟩;rcases List.mem_append.mp l with y|y
  ·exact c j y
  ·rw [List.mem_singleton.mp y];exact ni
 | quT=>
  obtain ⟨g,rfl,f,c,o⟩:=h.isRow t;cases g with
  | nil=>rw [y3];exact ⟨.row t (J1 _) (λ j l=>by cases l) (λ z=>ZU z A),.inr (.inl rfl)⟩
  | cons m r=>rw [jR];rw [U0] at f;have B:=c m R0;exact ⟨.row t '%' (λ j l=>c j (Y0 _ l)) (λ z=>ZU z A),lZ (by have:=B.1;lia) (by have:=B.2;lia)⟩
 | setP ni=>
  rename_i i;obtain ⟨g,rfl,f,c,o⟩:=h.isRow q;rw [xX];by_cases z:i∈g
  ·rw [ZZ z];exact ⟨.row q (V5 f) c o,lZ '!' '!'⟩
  ·rw [Z_ z];have x:=ye (g++[i]);refine ⟨.row q (by rw [x.length_eq,L0];exact o6 f) (λ j l=>?_) (λ _=>?_),lZ '!' '!'⟩
   ·rcases List.mem_append.mp (x.mem_iff.mp l) with y|y
    ·exact c j y
    ·rw [List.mem_singleton.mp y];exact ni
   ·have C:(mx (g++[i])).Nodup:=x.nodup_iff.mpr (by rw [Q4];exact ⟨JB (o rfl),by simp,λ a E b D e=>z (by rw [<-List.mem_singleton.mp D,<-e];exact E)⟩);exact ((AC (g++[i])).and C).imp λ h=>by have:=h.1;have:=h.2;lia
 | setC ni=>obtain ⟨g,rfl,f,c,o⟩:=h.isRow q;rw [zF];exact ⟨.row q (C0 (K3 _ _) (V5 f)) (λ j l=>c j (List.mem_filter.mp l).1) (λ z=>(o z).filter _),oq⟩
 | setH ni=>obtain ⟨g,rfl,f,c,o⟩:=h.isRow q;rw [zm];exact ⟨.row q (V5 f) c o,oq⟩
 | regR=>obtain ⟨a,rfl,f,c⟩:=h.isNum u;rw [yn];exact ⟨.num u '%' '%',lZ '%' '%'⟩
 | cntR=>obtain ⟨a,rfl,f,c⟩:=h.isNum w;rw [Aw];exact ⟨.num w '%' '%',lZ '%' '%'⟩
 | celR=>obtain ⟨a,rfl,f,c⟩:=h.isNum p;rw [Cd];exact ⟨.num p '%' '%',lZ '%' '%'⟩
 | cntA ni=>obtain ⟨a,rfl,f,c⟩:=h.isNum w;rw [zr];have:=ni.1;have:=ni.2;exact ⟨.num w '%' '%',lZ '%' '%'⟩
 | regW ni=>obtain ⟨a,rfl,f,c⟩:=h.isNum u;rw [zI];have:=ni.1;have:=ni.2;exact ⟨.num u '%' '%',.inl rfl⟩
 | celW ni=>obtain ⟨a,rfl,f,c⟩:=h.isNum p;rw [zQ];have:=ni.1;have:=ni.2;exact ⟨.num p '%' '%',.inl rfl⟩
 | celS ni nj=>
  rename_i i j;obtain ⟨a,rfl,f,c⟩:=h.isNum p;rw [xp];have:=nj.1;have:=nj.2;by_cases z:a=i
  ·rw [ZZ z];exact ⟨.num p '%' '%',lZ '!' '!'⟩
  ·rw [Z_ z];exact ⟨.num p '%' '%',lZ '!' '!'⟩
noncomputable def gK (K:c0) (H:Hp):Sv->V->Prop
 | .row ns,v=>∃p,v=.ref p/\aG K H p (ns.map V.int)
 | .num i,v=>v=.int i
theorem gK.tups (t:bN K H H') :∀{s:Sv} {v:V},gK K H s v->gK K H' s v
 | .row _,_,h=>h.elim λ p z=>⟨p,z.1,t _ _ z.2⟩
 | .num _,_,h=>h
noncomputable def aS (k:ZQ):Sv:=if cT k then .row [] else .num 0
theorem Dv (k:ZQ):cS 0 k (aS k):=by
 unfold aS;by_cases h:cT k
 ·rw [ZZ h];exact .row h (o0 _) (λ i a=>by cases a) (λ _=>.nil)
 ·rw [Z_ h];exact .num h '%' '%'
end
variable {Q:VK} {ts:List (ZQ×ZQ)}
section
structure Tt (K:c0) (H H':Hp):Prop where
 t:bN K H H'
 l :∀a xs,H a=some (.tup xs)->H' a=some (.tup xs)
def Tt.of (s:af H H'):Tt K H H':=⟨.of s,λ _ _ h=>s _ _ h⟩
def Tt.trans (a:Tt K H H1) (b:Tt K H1 H2):Tt K H H2:=⟨a.t.trans b.t,λ _ _ h=>b.l _ _ (a.l _ _ h)⟩
def jn (H:Hp) (l:ZR):Prop:=(∃zs,H l=some (.lst zs))\/∃kvs:List (Key×V),H l=some (.dK kvs)
def aK.tt (k:aK L H H') (m :∀l∈L,jn H l):Tt K H H':=by
 refine ⟨λ a b h=>?_,λ a b h=>k _ _ (λ z=>?_) h⟩
 ·rcases h with (h|⟨ob,h⟩)|h
  ·exact .inl (.inl (k _ _ (λ z=>by rcases m a z with ⟨_,e⟩|⟨_,e⟩<;>(rw [h] at e;cases e)) h))
  ·exact .inl (.inr ⟨ob,k _ _ (λ z=>by rcases m a z with ⟨_,e⟩|⟨_,e⟩<;>(rw [h] at e;cases e)) h⟩)
  ·exact .inr h
 ·rcases m a z with ⟨_,e⟩|⟨_,e⟩<;>(rw [h] at e;cases e)
def hO (H:Hp) (p:ZR) (ts:List (ZQ×ZQ)):Prop:=∃ys,H p=some (.tup ys)/\av (λ (t:ZQ×ZQ) y=>∃b,y=.ref b/\H b=some (.tup [.str t.1,.str t.2])) ts ys
structure nG (ts:List (ZQ×ZQ)):Prop where
 n0:0 < ts.length
 n6:ts.length<=6
 nd:(ts.map (·.1)).Nodup
 ks :∀t∈ts,t.2∈bU
def hO.tt (t:Tt K H H') (h:hO H p ts):hO H' p ts:=h.elim λ a z=>⟨a,t.l _ _ z.1,bG (λ _ _ y=>y.elim λ b x=>⟨b,x.1,t.l _ _ x.2⟩) z.2⟩
def oN (K:c0) (x y:V) (H:Hp):Prop:=∃(n k:ZQ) (b:ZR),x=.str n/\y=.ref b/\k∈bU/\H b=some (.tup [.str n,.str k])
theorem GO:∀{ks:List ZQ} {ys:List V},av (λ x y=>oN K x y H) (ks.map V.str) ys->∃ts:List (ZQ×ZQ),ts.map (·.1)=ks/\(∀t∈ts,t.2∈bU)/\av (λ (t:ZQ×ZQ) y=>∃b,y=.ref b/\H b=some (.tup [.str t.1,.str t.2])) ts ys
 | [],_,h=>by cases h;exact ⟨[],rfl,λ _ z=>ZU z u0,.nil⟩
 | n :: ks,_,h=>by
  cases h with
  | cons a r=>
   obtain ⟨ts,e,g,i⟩:=GO r;obtain ⟨m,k,b,l,c,d,j⟩:=a;cases l;refine ⟨(n,k) :: ts,by rw [G1,e],λ t f=>?_,.cons ⟨b,c,j⟩ i⟩;rcases List.mem_cons.mp f with z|z
   ·rw [z];exact d
   ·exact g t z
def cy.tt (t:Tt K H H') (h:cy H d x):cy H' d x:=λ a b e=>(h a b e).elim λ p z=>⟨p,z.1,t.l _ _ z.2⟩
theorem pP {k v:ZQ} {st:V} {sv:Sv} {E:XK} (so:cS n k sv) (sz:gK (kx w) H sv st) (hn:n < 63) (hd:bp k v d) (hx:bZ (kx w) H d x) (wi:cy H d x)
  (q :∀p st' H',af H H'->H' p=some (.tup [st',(dz k v d sv).2])->gK (kx w) H' (dz k v d sv).1 st'->Q (.ref p) H'):lT (kx w) [.str k,st,.str v,x] H Q E:=by
 have A :∀i:Int,Flat H (.int i):=λ i L e=>by cases e
 have F:Flat H .non:=λ L e=>by cases e
 have s :∀i:Int,near i->iG (.int i) 1000000000=true:=λ i h=>by unfold iG;dsimp only;rw [ZY h.1,ZY h.2];rfl
 have K:cT "queue":=.inl rfl;have G:cT "set":=.inr rfl;cases hd with
 | quP ni=>rename_i i;obtain ⟨o,rfl,D,_,_⟩:=so.isRow K;obtain ⟨t,rfl,l⟩:=sz;cases (show x=V.int i from hx);rw [jV] at q;refine ⟨_,_,_,_,_,_,_,rfl,rfl,A i,(fW (by decide +kernel)).trans (s i ni),by decide +kernel,.inr (.inr (.inr (.inl ⟨rfl,rfl⟩))),λ H' b=>⟨t,_,_,rfl,b.seqT l,by rw [D0];lia,λ p C B c f u=>q p _ _ (b.trans c) f ⟨C,rfl,?_⟩⟩⟩;rw [show (o++[i]).map V.int=o.map V.int++[V.int i] by rw [N1];rfl];exact u
 | quT=>
  obtain ⟨o,rfl,D,_,_⟩:=so.isRow K;obtain ⟨t,rfl,l⟩:=sz;cases (show x=V.non from hx);refine ⟨_,_,_,_,_,_,_,rfl,rfl,F,(iT (by decide +kernel)).trans rfl,by decide +kernel,.inr (.inr (.inr (.inr (.inl ⟨rfl,rfl⟩)))),λ H' b=>⟨t,o.map V.int,_,rfl,b.seqT l,λ e p B c f=>?_,λ m r e p C B c f u=>?_⟩⟩
  ·cases o with
   | nil=>rw [y3] at q;exact q p _ _ (b.trans c) f ⟨t,rfl,(b.trans c).seqT l⟩
   | cons m r=>cases e
  ·cases o with
   | nil=>cases e
   | cons m' r'=>rw [jR] at q;rw [G1] at e;injection e with e1 e3;subst e1 e3;exact q p _ _ (b.trans c) f ⟨C,rfl,u⟩
 | setP ni=>
  rename_i i;obtain ⟨o,rfl,D,_,I⟩:=so.isRow G;obtain ⟨t,rfl,l⟩:=sz;cases (show x=V.int i from hx);rw [xX] at q;refine ⟨_,_,_,_,_,_,_,rfl,rfl,A i,(fW (by decide +kernel)).trans (s i ni),by decide +kernel,.inr (.inr (.inr (.inr (.inr (.inl ⟨rfl,rfl⟩))))),λ H' b=>⟨t,o,_,rfl,b.seqT l,by lia,λ z p B c f=>?_,λ z p C R B c f u N O=>?_⟩⟩
  ·rw [ZZ z] at q;exact q p _ _ (b.trans c) f ⟨t,rfl,(b.trans c).seqT l⟩
  ·rw [Z_ z] at q;rw [FT (N.trans (ye _).symm) O (AC _)] at u;exact q p _ _ (b.trans c) f ⟨C,rfl,u⟩
 | setC ni=>
  rename_i i;obtain ⟨o,rfl,D,_,I⟩:=so.isRow G;obtain ⟨t,rfl,l⟩:=sz;cases (show x=V.int i from hx);rw [zF] at q;refine ⟨_,_,_,_,_,_,_,rfl,rfl,A i,(fW (by decide +kernel)).trans (s i ni),by decide +kernel,.inr (.inr (.inr (.inr (.inr (.inr (.inl ⟨rfl,rfl⟩)))))),λ H' b=>⟨t,o,_,rfl,b.seqT l,by lia,λ z p B c f=>?_,λ z p C B c f u=>?_⟩⟩
  ·rw [Z_ z,List.filter_eq_self.mpr (λ j P=>by simp;exact λ e=>z (e ▸ P))] at q;exact q p _ _ (b.trans c) f ⟨t,rfl,(b.trans c).seqT l⟩
  ·rw [ZZ z] at q;exact q p _ _ (b.trans c) f ⟨C,rfl,u⟩
 | setH ni=>rename_i i;obtain ⟨o,rfl,D,_,I⟩:=so.isRow G;obtain ⟨t,rfl,l⟩:=sz;cases (show x=V.int i from hx);rw [zm] at q;exact ⟨_,_,_,_,_,_,_,rfl,rfl,A i,(fW (by decide +kernel)).trans (s i ni),by decide +kernel,.inr (.inr (.inr (.inr (.inr (.inr (.inr (.inl ⟨rfl,rfl⟩))))))),λ H' b=>⟨t,o,_,rfl,b.seqT l,λ p B c f=>q p _ _ (b.trans c) f ⟨t,rfl,(b.trans c).seqT l⟩⟩⟩
 | regR=>obtain ⟨a,rfl,_⟩:=so.isNum (by decide +kernel);cases (show st=V.int a from sz);cases (show x=V.non from hx);rw [yn] at q;exact ⟨_,_,_,_,_,_,_,rfl,rfl,F,(iT (by decide +kernel)).trans rfl,by decide +kernel,.inl ⟨rfl,rfl⟩,λ H' b=>⟨_,_,rfl,λ p g=>q p _ _ (b.trans (af.upd g)) ab rfl⟩⟩
 | cntR=>obtain ⟨a,rfl,_⟩:=so.isNum (by decide +kernel);cases (show st=V.int a from sz);cases (show x=V.non from hx);rw [Aw] at q;exact ⟨_,_,_,_,_,_,_,rfl,rfl,F,(iT (by decide +kernel)).trans rfl,by decide +kernel,.inl ⟨rfl,rfl⟩,λ H' b=>⟨_,_,rfl,λ p g=>q p _ _ (b.trans (af.upd g)) ab rfl⟩⟩
 | celR=>obtain ⟨a,rfl,_⟩:=so.isNum (by decide +kernel);cases (show st=V.int a from sz);cases (show x=V.non from hx);rw [Cd] at q;exact ⟨_,_,_,_,_,_,_,rfl,rfl,F,(iT (by decide +kernel)).trans rfl,by decide +kernel,.inl ⟨rfl,rfl⟩,λ H' b=>⟨_,_,rfl,λ p g=>q p _ _ (b.trans (af.upd g)) ab rfl⟩⟩
 | cntA ni=>rename_i i;obtain ⟨a,rfl,_⟩:=so.isNum (by decide +kernel);cases (show st=V.int a from sz);cases (show x=V.int i from hx);rw [zr] at q;exact ⟨_,_,_,_,_,_,_,rfl,rfl,A i,(fW (by decide +kernel)).trans (s i ni),by decide +kernel,.inr (.inr (.inl ⟨rfl,rfl⟩)),λ H' b=>⟨_,_,rfl,λ p g=>q p _ _ (b.trans (af.upd g)) ab rfl⟩⟩
 | regW ni=>rename_i i;obtain ⟨a,rfl,_⟩:=so.isNum (by decide +kernel);cases (show st=V.int a from sz);cases (show x=V.int i from hx);rw [zI] at q;exact ⟨_,_,_,_,_,_,_,rfl,rfl,A i,(fW (by decide +kernel)).trans (s i ni),by decide +kernel,.inr (.inl ⟨rfl,rfl⟩),λ H' b=>⟨_,_,rfl,λ p g=>q p _ _ (b.trans (af.upd g)) ab rfl⟩⟩
 | celW ni=>rename_i i;obtain ⟨a,rfl,_⟩:=so.isNum (by decide +kernel);cases (show st=V.int a from sz);cases (show x=V.int i from hx);rw [zQ] at q;exact ⟨_,_,_,_,_,_,_,rfl,rfl,A i,(fW (by decide +kernel)).trans (s i ni),by decide +kernel,.inr (.inl ⟨rfl,rfl⟩),λ H' b=>⟨_,_,rfl,λ p g=>q p _ _ (b.trans (af.upd g)) ab rfl⟩⟩
 | celS ni nj=>
  rename_i i j;obtain ⟨a,rfl,_⟩:=so.isNum (by decide +kernel);cases (show st=V.int a from sz);obtain ⟨t,rfl,e⟩:=wi i j rfl;have J:cW H (.ref t)=some [.int i,.int j]:=by unfold cW;dsimp only;rw [e]
  rw [xp] at q;refine ⟨_,_,_,_,_,_,"tuple",rfl,.inr (.inl ⟨⟨_,e⟩,rfl⟩),λ L z=>?_,?_,by decide +kernel,.inr (.inr (.inr (.inr (.inr (.inr (.inr (.inr ⟨rfl,rfl⟩))))))),λ H' b=>⟨a,i,j,t,rfl,aG.of (b _ _ e),λ p g=>?_⟩⟩
  ·rw [J] at z;cases z;exact ⟨(show (2:Nat)<=1000 by decide),λ y M=>⟨"int",by simp only [R1,u0,or_false] at M;rcases M with rfl|rfl<;>rfl⟩⟩
  ·rw [qf (by decide +kernel) J];show (true && (iG (.int i) 1000000000 && (iG (.int j) 1000000000 && true)))=true;rw [s i ni,s j nj];rfl
  ·by_cases z:a=i
   ·rw [ZZ z] at q⊢;exact q p _ _ (b.trans (af.upd g)) ab rfl
   ·rw [Z_ z] at q⊢;exact q p _ _ (b.trans (af.upd g)) ab rfl
def nq (a:V):Prop:=(∃i,a=.int i)\/∃z,a=.str z
def jr.isA {a:V} (h:jr a):nq a:=by
 rcases h with rfl|rfl|⟨i,rfl,_⟩
 ·exact .inr ⟨_,rfl⟩
 ·exact .inr ⟨_,rfl⟩
 ·exact .inl ⟨_,rfl⟩
def nq.scal {a b:V} (ha:nq a\/a=.non) (hb:nq b\/b=.non):L2.scal a b=true:=by rcases ha with (⟨i,rfl⟩|⟨i,rfl⟩)|rfl<;>rcases hb with (⟨j,rfl⟩|⟨j,rfl⟩)|rfl<;>rfl
noncomputable def jO (K:c0) (H:Hp) (ts:List (ZQ×ZQ)):Ev->Prop
 | .beg _ n v x=>∃(nm k vb:ZQ) (dt:Dt),n=.str nm/\v=.str vb/\(nm,k)∈ts/\bp k vb dt/\bZ K H dt x/\cy H dt x
 | .fin _ a=>nq a
theorem jO.tt (t:Tt K H H') :∀{e:Ev},jO K H ts e->jO K H' ts e
 | .beg _ _ _ _,⟨nm,k,vb,dt,e1,e2,hm,dk,ix,wi⟩=>⟨nm,k,vb,dt,e1,e2,hm,dk,bZ.mono' t.t dt _ ix,wi.tt t⟩
 | .fin _ _,h=>h
structure DD where
 nm:ZQ
 k:ZQ
 vb:ZQ
 dt:Dt
def dQ (K:c0) (H:Hp) (ts:List (ZQ×ZQ)) (r:Rc) (p:DD):Prop:=r.n=.str p.nm/\r.v=.str p.vb/\(p.nm,p.k)∈ts/\bp p.k p.vb p.dt/\bZ K H p.dt r.x/\cy H p.dt r.x/\((r.e=none/\r.a=.non)\/(r.e.isSome=true/\nq r.a))
def dQ.tt {r:Rc} {p:DD} (t:Tt K H H') (h:dQ K H ts r p):dQ K H' ts r p:=⟨h.1,h.2.1,h.2.2.1,h.2.2.2.1,bZ.mono' t.t _ _ h.2.2.2.2.1,h.2.2.2.2.2.1.tt t,h.2.2.2.2.2.2⟩
theorem CP {α β:Type} {R:α->β->Prop} {f:α->α} (hf :∀x y,R x y->R (f x) y) :∀{xs:List α} {ys:List β} (j:Nat),av R xs ys->av R (xs.modify j f) ys
 | _,_,j,.nil=>by cases j<;>exact .nil
 | _,_,0,.cons a r=>.cons (hf _ _ a) r
 | _,_,j + 1,.cons a r=>.cons a (CP hf j r)
theorem kn:∀{es:List Ev} {i:Nat} {rs:List Rc} {ps:List DD},(∀e∈es,jO K H ts e)->av (dQ K H ts) rs ps->∃ps',av (dQ K H ts) (aR i rs es) ps'
 | [],_,_,ps,_,h=>⟨ps,h⟩
 | e :: es,i,rs,ps,g,h=>by
  have b:=g e R0;have c :∀x∈es,jO K H ts x:=λ x t=>g x (Y0 _ t);cases e with
  | beg hd n v x=>obtain ⟨o,k,m,d,p,r,l,s,q,f⟩:=b;exact kn (es:=es) c (mw (x:=(⟨hd,n,v,x,.non,i,none⟩:Rc)) (y:=(⟨o,k,m,d⟩:DD)) h ⟨p,r,l,s,q,f,.inl ⟨rfl,rfl⟩⟩)
  | fin hd a=>
   have b:nq a:=b;show∃ps',av _ (aR (i + 1) (bJ i rs (.fin hd a)) es) ps';unfold bJ;dsimp only;cases cX hd (rs.map Rc.h) with
   | none=>exact kn (es:=es) c h
   | some j=>exact kn (es:=es) c (CP (λ x y z=>⟨z.1,z.2.1,z.2.2.1,z.2.2.2.1,z.2.2.2.2.1,z.2.2.2.2.2.1,.inr ⟨rfl,b⟩⟩) j h)
end
variable {N:Nat} {c:Nat->Bool} {ps:List DD} {us:List V}
section
noncomputable def dM (ns:List Nat):List V:=ns.map λ (n:Nat)=>V.int (n:Int)
def rN (ns:List Nat):(dM ns).length=ns.length:=D0 ..
theorem da (i:Nat) (ns:List Nat):md (.int (i:Nat)) (dM ns)=decide (i∈ns):=by
 unfold md dM;rw [j55,Bool.eq_iff_iff,Z8,decide_eq_true_iff];constructor
 ·rintro ⟨n,hn,e⟩;have e:((n:Int))=i:=ZW e;rw [show i=n by lia];exact hn
 ·exact λ h=>⟨i,h,ZY rfl⟩
def nD (ns:List Nat):(dM ns).all fM=true:=by unfold dM;rw [List.all_map];exact List.all_eq_true.mpr λ _ _=>rfl
def LM {ns:List Nat} (h:av (λ (a:Nat) y=>y=V.int (a:Nat)) ns us):us=dM ns:=by
 induction h with
 | nil=>rfl
 | cons a r ih=>subst a;rw [ih];rfl
noncomputable def gk (ns:List Nat):List Nat:=ns.mergeSort λ a b=>decide (a<=b)
def HH (ns:List Nat):(gk ns).Perm ns:=List.mergeSort_perm ns _
def Kj (ns:List Nat):(gk ns).Pairwise (·<=·):=by have:=j50 (le:=λ a b:Nat=>decide (a<=b)) (λ a b c d e=>ZY (C0 (ZW d) (ZW e))) (λ a b=>by rcases Nat.le_total a b with h|h<;>simp [h]) ns;exact this.imp λ h=>ZW h
def Hh {ns':List Int} {xs:List Nat} (p:ns'.Perm (xs.map λ (n:Nat)=>(n:Int))) (s:ns'.Pairwise (·<=·)):ns'.map V.int=dM (gk xs):=by
 have e:ns'=(gk xs).map λ (n:Nat)=>(n:Int):=by refine (p.trans ((HH xs).symm.map _)).eq_of_pairwise (le:=(·<=·)) (λ _ _ _ _ c d=>Int.le_antisymm c d) s ?_;exact List.Pairwise.map _ (λ a b h=>Int.ofNat_le.mpr h) (Kj xs)
 rw [e];unfold dM;rw [S2];rfl
theorem idx_eq:∀{l:List ZQ} {x:ZQ} {i:Nat},l.Nodup->l[i]? = some x->l.idxOf x=i
 | [],_,_,_,h=>by cases h
 | y :: l,x,i,nd,h=>by
  rw [List.nodup_cons] at nd;rw [List.idxOf_cons];cases i with
  | zero=>rw [E3] at h;cases h;rw [beq_self_eq_true];rfl
  | succ i=>rw [N2] at h;have:¬ y=x:=λ z=>nd.1 (z ▸ S0 h);rw [beq_eq_false_iff_ne.mpr this];show l.idxOf x + 1=_;rw [idx_eq nd.2 h]
noncomputable abbrev Pl:=List Nat×List Sv
noncomputable abbrev nH:=Nat×V×Pl
noncomputable def gJ (ts:List (ZQ×ZQ)) (nm:ZQ):Nat:=(ts.map (·.1)).idxOf nm
noncomputable def ff (ts:List (ZQ×ZQ)) (r:Rc) (p:DD) (n:Nat) (pl:Pl):Option nH:=match pl.2[gJ ts p.nm]? with
 | some s=>if r.e.isNone || decide ((dz p.k p.vb p.dt s).2=r.a) then some (n,(dz p.k p.vb p.dt s).2,(gk (pl.1++[n]),pl.2.set (gJ ts p.nm) (dz p.k p.vb p.dt s).1)) else none
 | none=>none
noncomputable def dF (c:Nat->Bool) (ts:List (ZQ×ZQ)) (rs:List Rc) (ps:List DD) (pl:Pl) (n:Nat):Option nH:=if c n=true then (match rs[n]?,ps[n]? with|some r,some p=>ff ts r p n pl|_,_=>none) else none
noncomputable def eM (c:Nat->Bool) (ts:List (ZQ×ZQ)) (rs:List Rc) (ps:List DD) (pl:Pl) (i:Nat):List nH:=(L1 i).filterMap (dF c ts rs ps pl)
def tf {rs:List Rc} {pl:Pl} :eM c ts rs ps pl (i + 1)=eM c ts rs ps pl i++(dF c ts rs ps pl i).toList:=by unfold eM;rw [O9,List.filterMap_append];congr 1
def Bp {rs:List Rc} {pl:Pl} :(eM c ts rs ps pl i).length<=i:=by unfold eM;exact C0 (M8 _ _) (by rw [B2];exact o0 _)
noncomputable def cO (m:Nat) (rs:List Rc) (ns:List Nat) (n:Nat):Bool:=decide (n∉ns) && decide (∀a∈L1 rs.length,gw m rs a n=true->a∈ns)
noncomputable def cP (m:Nat) (rs:List Rc) (ns:List Nat) (n:Nat):Bool:=cO m rs ns n && decide (∀b∈L1 rs.length,gw m rs n b=true->b∉ns)
noncomputable def cM (m:Nat) (rs:List Rc) (ns:List Nat) (n:Nat):Bool:=decide (n∉ns) && decide (∀a∈L1 rs.length,gw m rs a n=true->(∃r,rs[a]? = some r/\r.e.isSome=true)->a∈ns) && decide (∀b∈ns,gw m rs n b=false)
def rp {rs:List Rc} {a b:Nat} (h:gw m rs a b=true):a < rs.length/\b < rs.length:=by
 unfold gw at h;cases ea:rs[a]? with
 | none=>rw [ea] at h;cases h
 | some r=>
  cases eb:rs[b]? with
  | none=>rw [ea,eb] at h;cases h
  | some q=>exact ⟨(List.getElem?_eq_some_iff.mp ea).1,(List.getElem?_eq_some_iff.mp eb).1⟩
theorem OZ {rs:List Rc} {a b:Nat} {r:Rc} (I:eY i rs os) (h:gw m rs a b=true) (ha:rs[a]? = some r):r.e.isSome=true:=by
 obtain ⟨_,f⟩:=rp h;have c:rs[b]? = some rs[b]:=F0 f;generalize rs[b]=q at c;rw [Ax ha c] at h
 match m,h with
 | 0,h=>
  have h:vt r.e q.b=true:=h;cases e:r.e with
  | none=>rw [e] at h;cases h
  | some x=>rfl
 | 1,h=>
  have h:(decide (r.h=q.h) && decide (r.b < q.b))=true:=h;rw [Z2,decide_eq_true_iff,decide_eq_true_iff] at h;have d:a < b:=by
   rcases L8 a b with z|z|z
   ·exact z
   ·subst z;rw [ha] at c;cases c;lia
   ·have:=(I.p b a q r z c ha).1;lia
  obtain ⟨x,g,_⟩:=(I.p a b r q d ha c).2 h.1;rw [g];rfl
 | m + 2,h=>cases (show false=true from h)
def uJ {rs:List Rc} (I:eY i rs os) {ns:List Nat} (lt :∀x∈ns,x < rs.length) :cM m rs ns n=cP m rs ns n:=by
 unfold cM cP cO;rw [Bool.eq_iff_iff];simp only [Z2,decide_eq_true_iff];constructor
 ·rintro ⟨⟨h1,h2⟩,h3⟩;refine ⟨⟨h1,λ a d h=>h2 a d h ?_⟩,λ b _ c z=>?_⟩
  ·have g:=List.mem_range.mp d;have f:rs[a]? = some rs[a]:=F0 g;exact ⟨_,f,OZ I h f⟩
  ·rw [h3 b z] at c;cases c
 ·rintro ⟨⟨h1,h2⟩,h3⟩;refine ⟨⟨h1,λ a d h _=>h2 a d h⟩,λ b c=>?_⟩;cases e:gw m rs n b with
  | false=>rfl
  | true=>exact ZU c (h3 b (List.mem_range.mpr (lt b c)) e)
structure eJ (ts:List (ZQ×ZQ)) (N n:Nat) (pl:Pl):Prop where
 nd:pl.1.Nodup
 lt :∀x∈pl.1,x < N
 so:av (λ (t:ZQ×ZQ) s=>cS n t.2 s) ts pl.2
 nb:n<=4\/n<=pl.1.length
theorem uv:∀(n:Nat) (ns:List Nat),ns.Nodup->(∀x∈ns,x < n)->ns.length<=n
 | 0,ns,_,h=>by
  cases ns with
  | nil=>exact o0 _
  | cons x r=>exact ZU (h x R0) (C4 _)
 | n + 1,ns,nd,h=>by
  have:=uv n (ns.erase n) (nd.erase n) λ x a=>by
   have a:=(List.Nodup.mem_erase_iff nd).mp a;have:=h x a.2
   lia
  by_cases m:n∈ns
  ·rw [List.length_erase_of_mem m] at this
   lia
  ·rw [List.erase_of_not_mem m] at this
   lia
theorem eJ.n63 {pl:Pl} (h:eJ ts N n pl) (N63:N<=63) (hj:j < N) (nj:j∉pl.1):n < 63/\pl.1.length < 63:=by
 have:=uv N (j :: pl.1) (List.nodup_cons.mpr ⟨nj,h.nd⟩) λ x a=>by
  rcases List.mem_cons.mp a with z|z
  ·lia
  ·exact h.lt x z
 rw [U0] at this;rcases h.nb with z|z<;>lia
end
variable {D:Ends} {b r t:ZR} {es:List Ev} {s:nH} {tb:TS} {vs:List V} {σ:L2.St}
section
def eD {f:ZQ} {fs:List (ZQ×V)}:(dj f v fs).lookup f=some v:=by rw [wZ,ZZ rfl]
def vJ {f g:ZQ} {fs:List (ZQ×V)} (h:g≠f):(dj f v fs).lookup g=fs.lookup g:=by rw [wZ,Z_ h]
def bt {f g:ZQ} {fs:List (ZQ×V)} {o:Option V} (e:fs.lookup g=o) (h:g≠f:=by decide +kernel):(dj f v fs).lookup g=o:=(vJ h).trans e
def Gb {x dx:ZR} {o1 o2:HO} (hx:H x=none) (hd:H dx=none) (k:Kept x (upd (upd H dx o1) x o2) H'):af H H':=λ p o e=>by
 have a:p≠x:=λ z=>by rw [z,hx] at e;cases e
 have b:p≠dx:=λ z=>by rw [z,hd] at e;cases e
 exact k p o a (by rw [ak a,ak b];exact e)
def mK {ta tv:TE} {f:ZQ} {rest:TS} (h:tv σ H λ y H1=>ta σ H1 λ x H2=>∃a C dx fs,x=.ref a/\H2 a=some (.ins C dx fs)/\jM K C/\aN K C f/\fs.length < 1000/\rest D σ (upd H2 a (.ins C dx (dj f y fs)))):gD (qw K ta tv f) rest D σ H:=h
def JL {ta tv:TE} {f:ZQ} (h:tv σ H λ y H1=>ta σ H1 λ x H2=>∃a C dx fs,x=.ref a/\H2 a=some (.ins C dx fs)/\jM K C/\aN K C f/\fs.length < 1000/\D.nx σ (upd H2 a (.ins C dx (dj f y fs)))):qw K ta tv f D σ H:=h
theorem GM (f:ZQ) (v:V) :∀fs:List (ZQ×V),(dj f v fs).length<=fs.length + 1
 | []=>o0 _
 | (g,x) :: r=>by
  unfold dj;split
  ·simp
  ·have:=GM f v r;simp only [U0]
   lia
theorem lE {x dx C:ZR} {fs:List (ZQ×V)} {R:L2.St->Hp->Prop} {f:ZQ} (k:Kept x H H1) (e:H1 x=some (.ins C dx fs)) (hv:σ[i]? = some (some (.ref x))) (c:jM K C) (na:aN K C f) (l:fs.length<=n) (hn:n < 100)
  (q :∀H2,Kept x H H2->(∀b o,b≠x->H1 b=some o->H2 b=some o)->H2 x=some (.ins C dx (dj f y fs))->(dj f y fs).length<=n + 1->R σ H2) :
  gT i σ H1 λ z H2=>∃a C dx fs,z=.ref a/\H2 a=some (.ins C dx fs)/\jM K C/\aN K C f/\fs.length < 1000/\R σ (upd H2 a (.ins C dx (dj f y fs))):=
 ⟨_,hv,x,C,dx,fs,rfl,e,c,na,by lia,q _ (k.trans .set) (λ b o d g=>by rw [ak d];exact g) ab (C0 (GM f y fs) '%')⟩
def dX {x C dx:ZR} {fs:List (ZQ×V)} (e:H x=some (.ins C dx fs)) (k:Kept x H H'):Tt K H H':=by
 refine ⟨λ a b h=>?_,λ a b h=>k _ _ (λ z=>by rw [z,e] at h;cases h) h⟩;rcases h with (h|⟨ob,h⟩)|h
 ·exact .inl (.inl (k _ _ (λ z=>by rw [z,e] at h;cases h) h))
 ·exact .inl (.inr ⟨ob,k _ _ (λ z=>by rw [z,e] at h;cases h) h⟩)
 ·exact .inr h
def FN {ps:List (Nat×Nat)} {q:Nat×Nat->Bool} {f:Nat×Nat->Nat} (h:av (λ (i:Nat) y=>∃p,ps[i]? = some p/\y=V.int (f p:Nat)) ((L1 ps.length).filter λ i=>(ps[i]?.map q).getD false) us) :∃as,us=dM as/\as.length<=ps.length/\∀a,a∈as↔∃p∈ps,q p=true/\f p=a:=by
 refine ⟨((L1 ps.length).filter λ i=>(ps[i]?.map q).getD false).map λ i=>f (ps[i]?.getD (0,0)),?_,?_,λ a=>?_⟩
 ·generalize (L1 ps.length).filter (λ i=>(ps[i]?.map q).getD false)=is at h;induction h with
  | nil=>rfl
  | cons a r ih=>obtain ⟨p,d,b⟩:=a;rw [ih,b,G1,d];rfl
 ·rw [D0];exact C0 (K3 _ _) (by rw [B2];exact o0 _)
 ·rw [List.mem_map];constructor
  ·rintro ⟨i,c,e⟩;obtain ⟨d,b⟩:=List.mem_filter.mp c;have j:=List.mem_range.mp d;have g:ps[i]? = some ps[i]:=F0 j;rw [g] at b e;exact ⟨_,S0 g,b,e⟩
  ·rintro ⟨p,g,d,b⟩;obtain ⟨i,c⟩:=List.mem_iff_getElem?.mp g;refine ⟨i,List.mem_filter.mpr ⟨List.mem_range.mpr (List.getElem?_eq_some_iff.mp c).1,?_⟩,?_⟩
   ·rw [c];exact d
   ·rw [c];exact b
theorem mL (i j:Nat):decide (V.int (i:Int)=V.int (j:Int))=decide (i=j):=decide_eq_decide.mpr ⟨λ e=>by have:=V.int.inj e;lia,λ e=>by rw [e]⟩
def Df (K:c0):Sp:=λ vs H Q _=>∃(x dx lp:ZR) (n:Nat) (iv kv y:V) (zs:List V) (ps:List (Nat×Nat)) (r:Rc),vs=[.ref x,.int n,y,iv,kv,.ref lp]/\H x=some (.ins 241 dx [])/\RcAt K H r y/\H lp=some (.lst zs)/\av (cb H) ps zs/\ps.length<=10000/\
 ∀fs la lb as bs H',Kept x H H'->H' x=some (.ins 241 dx fs)->fs.lookup ("number" : ZQ)=some (.int n)->fs.lookup ("thing" : ZQ)=some iv->fs.lookup ("kind" : ZQ)=some kv->fs.lookup ("verb" : ZQ)=some r.v->fs.lookup ("worth" : ZQ)=some r.x->fs.lookup ("answer" : ZQ)=some r.a->fs.lookup ("aheads" : ZQ)=some (.ref la)->fs.lookup ("behinds" : ZQ)=some (.ref lb)->fs.lookup ("may_stand" : ZQ)=none->H' la=some (.lst (dM as))->H' lb=some (.lst (dM bs))->(∀a,a∈as↔(a,n)∈ps)->(∀b,b∈bs↔(n,b)∈ps)->as.length<=10000->bs.length<=10000->H la=none->H lb=none->Q .non H'
theorem LK (T:TX (kx w) mg):Fo P w mg base (nV P w base) 1 231 wB ["self","number","deed","thing","kind","pairs"] (Df (kx w)):=by
 refine (FR w.params).okE Lu (λ vs H Q E h=>?_) (λ c1 A b8 s H vs Q E hr h=>?_)
 ·obtain ⟨x,dx,S,n,iv,kv,y,F,e,r,rfl,_⟩:=h;rfl
 ·obtain ⟨x,dx,S,n,iv,kv,y,F,e,r,rfl,C,⟨p,rfl,sq⟩,M,al,pl,q⟩:=h;refine ⟨_,(aU (dB (pv 0) (pv 1) rfl)
   (aU (dB (pv 0) (pv 3) rfl)
   (aU (dB (pv 0) (pv 4) rfl)
   (aU (dB (pv 0) (au aj (pv 2) ag (λ _ _=>rfl)) rfl)
   (aU (dB (pv 0) (au aj (pv 2) ag (λ _ _=>rfl)) rfl)
   (aU (dB (pv 0) (au aj (pv 2) ag (λ _ _=>rfl)) rfl)
   (aU (dB (pv 0) (eE (xs:=["ahead","behind"]) (g:=iK (kx w) 2 (dh (bu 0) (dh (bu 1) iC))) (fr:=[(1,"number")]) (lx (pv 5)) (λ _ _ _ _ _=>(bQ rfl (eW (bT (N:=["ahead","behind","number"]) 0) (eW (bT (N:=["ahead","behind","number"]) 1) iW)))) (λ _ _ _ _ _=>(fq (cL cv (pv 1) (pv 2) (aD _)))) (λ _ _ _ _ _=>(pv 0))) rfl)
   (aT (dB (pv 0) (eE (xs:=["ahead","behind"]) (g:=iK (kx w) 2 (dh (bu 0) (dh (bu 1) iC))) (fr:=[(1,"number")]) (lx (pv 5)) (λ _ _ _ _ _=>(bQ rfl (eW (bT (N:=["ahead","behind","number"]) 0) (eW (bT (N:=["ahead","behind","number"]) 1) iW)))) (λ _ _ _ _ _=>(fq (cL cv (pv 0) (pv 2) (aD _)))) (λ _ _ _ _ _=>(pv 1))) rfl))))))))),?_⟩
  have a8 :∀{H1 L:Hp} {l:ZR},Kept x H H1->Kept x H1 L->l≠x->L l=none->H l=none:=λ {H1 L l} k k' nl hl=>by
   cases z:H l with
   | none=>rfl
   | some o=>rw [k' l o nl (k l o nl z)] at hl;cases hl
  refine mK ⟨_,rfl,lE Kept.refl C rfl (hP _) (xE _) (n:=0) (o0 _) '!' λ H1 B _ e1 c=>?_⟩;refine mK ⟨_,rfl,lE B e1 rfl (hP _) (Ds _) c '!' λ L u _ e2 c=>?_⟩;refine mK ⟨_,rfl,lE u e2 rfl (hP _) (DU _) c '!' λ H3 k3 _ e3 c=>?_⟩;have t3:Tt (kx w) H H3:=dX C k3;refine mK ⟨_,rfl,.inr (.inl ⟨p,_,2,r.v,rfl,rfl,t3.t _ _ sq,bF (j:=2) rfl,lE k3 e3 rfl (hP _) (Hd _) c '!' λ H4 k4 _ e4 c=>?_⟩)⟩;refine mK ⟨_,rfl,.inr (.inl ⟨p,_,3,r.x,rfl,rfl,(dX C k4).t _ _ sq,bF (j:=3) rfl,lE k4 e4 rfl (hP _) (FF _) c '!' λ H5 k5 _ e5 c=>?_⟩)⟩;refine mK ⟨_,rfl,.inr (.inl ⟨p,_,4,r.a,rfl,rfl,(dX C k5).t _ _ sq,bF (j:=4) rfl,lE k5 e5 rfl (hP _) (Bj _) c '!' λ H6 V _ e6 c=>?_⟩)⟩;have a7:S≠x:=λ z=>by rw [z,C] at M;cases M
  have zl:F.length=e.length:=cD al;have a5 :∀{U:Hp},Kept x H U->av (cb U) e F:=λ k=>bG (λ _ _ z=>z.elim λ b y=>⟨b,y.1,(dX (K:=KX w.params) C k).l _ _ y.2⟩) al;refine mK ?_;refine Ap (K:=KX w.params) (a:=S) (xs:=F) (H1:=H6) (λ i=>(e[i]?.map λ p=>decide (p.2=n)).getD false) (λ i y _=>∃p,e[i]? = some p/\y=.int (((λ p:Nat×Nat=>p.1) p:Nat):Int)) (λ _ _ _ _ _ z=>z) (λ R h=>⟨_,rfl,h⟩) (aH.of (V _ _ a7 M)) (C0 (m:=10000) '%' '!') (λ i hi v U s' hv KT KF B u=>?_) λ G H7 us Y X a4=>?_
  ·obtain ⟨d,hp,b,rfl,eb⟩:=fJ (a5 V) hv;rw [hp] at B u;refine ⟨b,_,rfl,aG.of (s' _ _ eb),rfl,_,_,rfl,_,_,rfl,rfl,[some (.int d.1),some (.int d.2)],rfl,rfl,?_⟩;refine ⟨_,rfl,_,rfl,rfl,_,rfl,?_⟩;rw [mL];exact gf (λ z=>⟨_,rfl,B z _ _ (af.refl _) ⟨d,rfl,rfl⟩⟩) λ z=>u (Bool.eq_false_iff.mpr z) _ (af.refl _)
  rw [zl] at a4;obtain ⟨I,rfl,c0,b1⟩:=FN (q:=λ p=>decide (p.2=n)) (f:=λ p=>p.1) a4;have s8:=Y.trans (af.upd (o:=.lst (dM I)) X);have a2:upd H7 G (.lst (dM I)) G=some (.lst (dM I)):=ab;have a0:G≠x:=λ z=>by rw [z,Y _ _ e6] at X;cases X
  generalize upd H7 G (.lst (dM I))=H8 at s8 a2⊢;refine lE (V.trans s8.kept) (s8 _ _ e6) rfl (hP _) (EW _) c '!' λ H9 O b2 e9 c=>?_;have b3:=b2 _ _ a0 a2;refine JL ?_;refine Ap (K:=KX w.params) (a:=S) (xs:=F) (H1:=H9) (λ i=>(e[i]?.map λ p=>decide (p.1=n)).getD false) (λ i y _=>∃p,e[i]? = some p/\y=.int (((λ p:Nat×Nat=>p.2) p:Nat):Int)) (λ _ _ _ _ _ z=>z) (λ R h=>⟨_,rfl,h⟩) (aH.of (O _ _ a7 M)) (C0 (m:=10000) '%' '!') (λ i hi v U s' hv KT KF B u=>?_) λ D b0 us Z J a9=>?_
  ·obtain ⟨d,hp,b,rfl,eb⟩:=fJ (a5 O) hv;rw [hp] at B u;refine ⟨b,_,rfl,aG.of (s' _ _ eb),rfl,_,_,rfl,_,_,rfl,rfl,[some (.int d.1),some (.int d.2)],rfl,rfl,?_⟩;refine ⟨_,rfl,_,rfl,rfl,_,rfl,?_⟩;rw [mL];exact gf (λ z=>⟨_,rfl,B z _ _ (af.refl _) ⟨d,rfl,rfl⟩⟩) λ z=>u (Bool.eq_false_iff.mpr z) _ (af.refl _)
  rw [zl] at a9;obtain ⟨bs,rfl,b9,b5⟩:=FN (q:=λ p=>decide (p.1=n)) (f:=λ p=>p.2) a9;have W:=Z.trans (af.upd (o:=.lst (dM bs)) J);have a1:upd b0 D (.lst (dM bs)) D=some (.lst (dM bs)):=ab;have a6:D≠x:=λ z=>by rw [z,Z _ _ e9] at J;cases J
  generalize upd b0 D (.lst (dM bs))=H11 at W a1⊢;refine lE (O.trans W.kept) (W _ _ e9) rfl (hP _) (Ir _) c '!' λ b6 b7 a3 b4 c=>?_;refine q _ G D I bs b6 b7 b4 (bt (bt (bt (bt (bt (bt (bt eD))))))) (bt (bt (bt (bt (bt (bt eD)))))) (bt (bt (bt (bt (bt eD))))) (bt (bt (bt (bt eD)))) (bt (bt (bt eD))) (bt (bt eD)) (bt eD) eD (bt (bt (bt (bt (bt (bt (bt (bt rfl)))))))) (a3 _ _ a0 (W _ _ b3)) (a3 _ _ a6 a1) (λ a=>(b1 a).trans ⟨λ ⟨p,h1,h2,h3⟩=>?_,λ h=>⟨_,h,ZY rfl,rfl⟩⟩) (λ b=>(b5 b).trans ⟨λ ⟨p,h1,h2,h3⟩=>?_,λ h=>⟨_,h,ZY rfl,rfl⟩⟩) '%' '%' (a8 V (Y.kept (r:=x)) a0 X) (a8 O (Z.kept (r:=x)) a6 J)
  ·rw [<-h3,<-ZW h2];exact h1
  ·rw [<-h3,<-ZW h2];exact h1
def kJ (H:Hp) (m:Nat) (rs:List Rc) (ts:List (ZQ×ZQ)) (n:Nat) (r:Rc) (p:DD) (y:V):Prop:=∃x dx fs la lb as bs,y=.ref x/\H x=some (.ins 241 dx fs)/\fs.lookup ("number" : ZQ)=some (.int (n:Nat))/\fs.lookup ("thing" : ZQ)=some (.int (gJ ts p.nm:Nat))/\fs.lookup ("kind" : ZQ)=some (.str p.k)/\fs.lookup ("verb" : ZQ)=some r.v/\fs.lookup ("worth" : ZQ)=some r.x/\fs.lookup ("answer" : ZQ)=some r.a/\fs.lookup ("aheads" : ZQ)=some (.ref la)/\fs.lookup ("behinds" : ZQ)=some (.ref lb)/\fs.lookup ("may_stand" : ZQ)=none/\H la=some (.lst (dM as))/\H lb=some (.lst (dM bs))/\(∀a,a∈as↔gw m rs a n=true)/\(∀b,b∈bs↔gw m rs n b=true)/\as.length<=10000/\bs.length<=10000
def kJ.same {rs:List Rc} {r:Rc} {p:DD} (s:af H H') (h:kJ H m rs ts n r p y):kJ H' m rs ts n r p y:=by obtain ⟨x,j,fs,l,c,g,bs,e,i,u,d,f,b,z,q,a,v,o,t,k,w⟩:=h;exact ⟨x,j,fs,l,c,g,bs,e,s _ _ i,u,d,f,b,z,q,a,v,o,s _ _ t,s _ _ k,w⟩
def Ib (K:c0):Sp:=λ vs H Q _=>∃(y:V) (pa:ZR) (m n:Nat) (rs:List Rc) (ts:List (ZQ×ZQ)) (r:Rc) (p:DD) (ns:List Nat),vs=[y,.ref pa]/\kJ H m rs ts n r p y/\aG K H pa (dM ns)/\Q (.bl (cP m rs ns n)) H
theorem Rm (T:TX (kx w) mg):Fo P w mg base CX0 1 238 wI ["self","done"] (Ib (kx w)):=by
 refine (GC w.params).ok bP (λ Z H Q E h=>?_) (λ a1 A a0 s H Z Q E hr h=>?_)
 ·obtain ⟨y,f,m,n,o,ts,r,p,d,rfl,_⟩:=h;rfl
 ·obtain ⟨y,f,m,n,o,ts,r,p,d,rfl,⟨x,B,fs,N,M,g,bs,rfl,C,Y,f2,f3,f4,f5,f6,U,f8,f9,O,R,J,I,al,bl⟩,F,q⟩:=h;refine ⟨_,(aU (aJ (cL oJ (bV (pv 0) rfl) (pv 1) (by with_unfolding_all rfl))
   (aT (aq dm))
   dD)
   (aU (bY Z1 rfl (lx (bV (pv 0) rfl)) (fm (i:=2) bP.nd rfl (E1 rfl))
   (aT (aJ (cL sh (pv 2) (pv 1) (by with_unfolding_all rfl))
   (aT (aq dm))
   dD)))
   (aU (bY Z1 rfl (lx (bV (pv 0) rfl)) (fm (i:=3) bP.nd rfl (E1 rfl))
   (aT (aJ (cL oJ (pv 3) (pv 1) (by with_unfolding_all rfl))
   (aT (aq dm))
   dD)))
   (aT (aq dm))))),?_⟩
  refine gL ?_;refine ⟨_,rfl,x,_,B,fs,_,rfl,C,hP _,xE _,Y,_,rfl,f,_,rfl,.inr F,rfl,nD _,_,rfl,?_⟩;have q:=λ b (h:b=cP m o d n)=>(show Q (.bl b) H from h ▸ q)
  by_cases z1:n∈d
  ·refine bz ?_ (q _ ?_)
   ·rw [da];exact ZY z1
   ·unfold cP cO;rw [ZX (λ h=>h z1)];rfl
  refine bH (λ h=>z1 (ZW (by rw [da] at h;exact h))) ?_;refine cU ?_;have L :∀{g:List Nat} {j:Nat} {y:V},(dM g)[j]? = some y->∃a,g[j]? = some a/\y=.int (a:Nat):=λ h=>by unfold dM at h;rw [Z0] at h;obtain ⟨a,W,X⟩:=Option.map_eq_some_iff.mp h;exact ⟨a,W,X.symm⟩
  refine ⟨_,rfl,x,_,B,fs,_,rfl,C,hP _,EW _,U,N,rfl,⟨_,aH.of O⟩,?_⟩;refine pf (K:=KX w.params) (a:=N) (xs:=dM g) (λ i σ t=>t=H/\(∀k a,k < i->g[k]? = some a->a∈d)/\∃x2 x3,σ=[some (.ref x),some (.ref f),x2,x3]) ⟨rfl,λ k a c=>ZU c (C4 _),_,_,rfl⟩ (λ _ σ t _ h=>by rw [h.1];exact aH.of O) ?_ ?_
  ·rintro j y σ t G ⟨rfl,fj,x2,x3,rfl⟩;obtain ⟨a,l,rfl⟩:=L G;refine aF ⟨_,rfl,_,rfl,f,_,rfl,.inr F,rfl,nD _,_,rfl,?_⟩;by_cases z2:a∈d
   ·refine bH (λ h=>?_) ⟨rfl,λ k v c e=>?_,_,_,rfl⟩
    ·rw [da,ZY z2] at h;cases h
    ·by_cases z:k=j
     ·subst z;rw [l] at e;cases e;exact z2
     ·exact fj k v '%' e
   ·refine bz ?_ (q _ ?_)
    ·rw [da,ZX z2];rfl
    ·have h:=(J a).mp (S0 l);unfold cP cO;rw [ZX (p:=∀a∈L1 o.length,gw m o a n=true->a∈d) (λ D=>z2 (D a (List.mem_range.mpr (rp h).1) h)),j06,S6]
  rintro σ t ⟨rfl,fj,x2,x3,rfl⟩;refine cU ?_;have S:cO m o d n=true:=by unfold cO;rw [Z2,decide_eq_true_iff,decide_eq_true_iff];refine ⟨z1,λ a _ h=>?_⟩;obtain ⟨k,c⟩:=List.mem_iff_getElem?.mp ((J a).mpr h);exact fj k a (by rw [rN];exact (List.getElem?_eq_some_iff.mp c).1) c
  refine ⟨_,rfl,x,_,B,fs,_,rfl,C,hP _,Ir _,f8,M,rfl,⟨_,aH.of R⟩,?_⟩;refine pf (K:=KX w.params) (a:=M) (xs:=dM bs) (λ i σ u=>u=t/\(∀k a,k < i->bs[k]? = some a->a∉d)/\∃x2 x3,σ=[some (.ref x),some (.ref f),x2,x3]) ⟨rfl,λ k a c=>ZU c (C4 _),_,_,rfl⟩ (λ _ σ u _ h=>by rw [h.1];exact aH.of R) ?_ ?_
  ·rintro j y σ u G ⟨rfl,gj,x2,x3,rfl⟩;obtain ⟨a,l,rfl⟩:=L G;refine aF ⟨_,rfl,_,rfl,f,_,rfl,.inr F,rfl,nD _,_,rfl,?_⟩;by_cases z2:a∈d
   ·refine bz ?_ (q _ ?_)
    ·rw [da];exact ZY z2
    ·have h:=(I a).mp (S0 l);unfold cP;rw [ZX (λ D=>D a (List.mem_range.mpr (rp h).2) h z2),j06]
   ·refine bH (λ h=>?_) ⟨rfl,λ k v c e=>?_,_,_,rfl⟩
    ·rw [da] at h;exact z2 (ZW h)
    ·by_cases z:k=j
     ·subst z;rw [l] at e;cases e;exact z2
     ·exact gj k v '%' e
  rintro σ u ⟨rfl,gj,x2,x3,rfl⟩;refine cU (q _ ?_);unfold cP;rw [S,O8];refine (ZY λ b _ h=>?_).symm;obtain ⟨k,c⟩:=List.mem_iff_getElem?.mp ((I b).mpr h);exact gj k b (by rw [rN];exact (List.getElem?_eq_some_iff.mp c).1) c
def Jm {X:Cx} (hK:X.K=K):ei X (T2 .In) (xQ K false):=hK ▸ oJ
def iU (K:c0) (H:Hp) (p:ZR) (pl:Pl):Prop:=∃pa pb vs,aG K H p [.ref pa,.ref pb]/\aG K H pa (dM pl.1)/\aG K H pb vs/\av (gK K H) pl.2 vs
def iU.tups {pl:Pl} (t:bN K H H') (h:iU K H p pl):iU K H' p pl:=by obtain ⟨g,f,d,c,e,b,a⟩:=h;exact ⟨g,f,d,t _ _ c,t _ _ e,t _ _ b,bG (λ _ _ z=>gK.tups t z) a⟩
def e_ (K:c0) (H:Hp) (s:nH) (y:V):Prop:=∃b p,y=.ref b/\aG K H b [.int (s.1:Nat),s.2.1,.ref p]/\iU K H p s.2.2
def e_.tups (t:bN K H H') (h:e_ K H s y):e_ K H' s y:=by obtain ⟨b,p,c,d,a⟩:=h;exact ⟨b,p,c,t _ _ d,a.tups t⟩
structure jT (ts:List (ZQ×ZQ)):Prop where
 n6:ts.length<=6
 nd:(ts.map (·.1)).Nodup
 ks :∀t∈ts,t.2∈bU
def nG.thw (h:nG ts):jT ts:=⟨h.n6,h.nd,h.ks⟩
def Lx {k:ZQ} (hk:k∈bU) :∃v,bh.lookup k=some v/\gK (kx w) H (aS k) v:=by
 have a:aG (kx w) H 88 []:=.inr ⟨⟨.type "tuple",none,.seq #[] 0,#[]⟩,#[],0,by kernel_rfl,rfl,rfl,'!',.nil⟩;have b:aG (kx w) H 89 []:=.inr ⟨⟨.type "tuple",none,.seq #[] 0,#[]⟩,#[],0,by kernel_rfl,rfl,rfl,'!',.nil⟩;unfold bU at hk;simp only [R1,u0,or_false] at hk;unfold aS;rcases hk with rfl|rfl|rfl|rfl|rfl
 ·exact ⟨.int 0,by decide +kernel,by rw [Z_ (by decide +kernel)];rfl⟩
 ·exact ⟨.int 0,by decide +kernel,by rw [Z_ (by decide +kernel)];rfl⟩
 ·exact ⟨.ref 88,by decide +kernel,by rw [ZZ (by decide +kernel)];exact ⟨_,rfl,a⟩⟩
 ·exact ⟨.ref 89,by decide +kernel,by rw [ZZ (by decide +kernel)];exact ⟨_,rfl,b⟩⟩
 ·exact ⟨.int 0,by decide +kernel,by rw [Z_ (by decide +kernel)];rfl⟩
def fV (K:c0) (H:Hp) (t:ZR) (ts:List (ZQ×ZQ)) (es:List Ev):Prop:=∃pt te ys,H t=some (.tup [.ref pt,.ref te])/\hO H pt ts/\H te=some (.tup ys)/\av (gE K H) es ys
def fV.tt (x:Tt K H H') (h:fV K H t ts es):fV K H' t ts es:=by obtain ⟨pt,f,d,b,c,e,a⟩:=h;exact ⟨pt,f,d,x.l _ _ b,c.tt x,x.l _ _ e,bG (λ _ _ z=>gE.tups x.t z) a⟩
def oV (ok:jT ts) {t:ZQ×ZQ} (h:ts[i]? = some t):gJ ts t.1=i:=idx_eq ok.nd (by rw [Z0,h];rfl)
def iE (ok:jT ts) {nm k:ZQ} (h:(nm,k)∈ts):ts[gJ ts nm]? = some (nm,k):=by obtain ⟨i,a⟩:=List.mem_iff_getElem?.mp h;rw [show gJ ts nm=i from oV ok a];exact a
theorem qD {t1 t2 ti tv tj:TE} {pb:ZR} (h1 :∀(H':Hp) (R:VK),af H H'->R (.ref pb) H'->t1 σ H' R) (h2 :∀(H':Hp) (R:VK),af H H'->R (.ref pb) H'->t2 σ H' R) (hi :∀(H':Hp) (R:VK),af H H'->R (.int (i:Nat)) H'->ti σ H' R) (hv :∀(H':Hp) (R:VK),af H H'->R v H'->tv σ H' R) (hj :∀(H':Hp) (R:VK),af H H'->R (.int ((i:Int) + 1)) H'->tj σ H' R)
  (sq:aG K H pb vs) (il:i < vs.length) (l9:vs.length<=90) (q :∀p5 H',af H H'->aG K H' p5 (vs.set i v)->Q (.ref p5) H') :
  jK (λ x y H Q=>kg K x y H Q\/kr K x y H Q) (jK (λ x y H Q=>kg K x y H Q\/kr K x y H Q) (Ba (λ x lo hi H Q=>nB K x lo hi H Q\/nZ K x lo hi H Q\/nR x lo hi H Q) t1 Ay (mn ti)) (kN (eu tv gz))) (Ba (λ x lo hi H Q=>nB K x lo hi H Q\/nZ K x lo hi H Q\/nR x lo hi H Q) t2 (mn tj) Ay) σ H Q:=by
 refine h1 _ _ (af.refl _) (hi _ _ (af.refl _) ⟨i,rfl,.inr (.inl ⟨pb,vs,rfl,sq,λ z=>?_,λ f B=>?_⟩)⟩)
 ·have:=z.2;rw [HT.sIx_nat] at this
  lia
 have F:cw vs none (some (i:Int))=vs.take i:=by unfold cw;rw [HT.sIx_none,HT.sIx_nat,Z5,Nat.sub_zero,V9 '%']
 have j:=af.upd (o:=.tup (cw vs none (some (i:Int)))) B;have n:upd H f (.tup (cw vs none (some (i:Int)))) f=some (.tup (vs.take i)):=by rw [ab,F]
 generalize upd H f (.tup (cw vs none (some (i:Int))))=H1 at j n⊢;refine hv _ _ j ⟨lC,λ C w=>?_⟩;obtain ⟨J,E,k,u⟩:=eZ (.tup [v]) w;rw [<-E];refine .inl ⟨f,C,vs.take i,[v],rfl,rfl,aG.of (k _ _ n),aG.of u,by simp,C0 (m:=100) (by rw [Y2];show _ + 1<=100;lia) '!',λ l h t D=>?_⟩;have b:af H h:=(j.trans k).trans t;refine h2 _ _ b (hj _ _ b ⟨_,rfl,.inr (.inl ⟨pb,vs,rfl,b.seqT sq,λ z=>?_,λ a s=>?_⟩)⟩)
 ·have:=z.1;rw [show (i:Int) + 1=((i + 1:Nat):Int) from rfl,HT.sIx_nat] at this
  lia
 have A:cw vs (some ((i:Int) + 1)) none=vs.drop (i + 1):=by unfold cw;rw [show (i:Int) + 1=((i + 1:Nat):Int) from rfl,HT.sIx_none,HT.sIx_nat,V9 '%'];exact D4 (by rw [Z4];exact o0 _)
 have c:=af.upd (o:=.tup (cw vs (some ((i:Int) + 1)) none)) s;have g:upd h a (.tup (cw vs (some ((i:Int) + 1)) none)) a=some (.tup (vs.drop (i + 1))):=by rw [ab,A]
 generalize upd h a (.tup (cw vs (some ((i:Int) + 1)) none))=H4 at c g⊢;have e:vs.take i++[v]++vs.drop (i + 1)=vs.set i v:=by rw [N6,ZZ il,V1];rfl
 have d:=c.seqT D;have p:(vs.take i++[v]).length + (vs.drop (i + 1)).length<=ZE:=C0 (m:=100) (by rw [<-L0,e,K7];lia) '!';by_cases hd:vs.drop (i + 1)=[]
 ·refine .inr ⟨l,a,_,_,rfl,rfl,d,aG.of g,by simp,p,λ _=>?_,λ z=>ZU hd z⟩;rw [hd,A3] at e;rw [e] at d;exact q _ _ (b.trans c) d
 ·refine .inl ⟨l,a,_,_,rfl,rfl,d,aG.of g,hd,p,λ p5 I G r=>?_⟩;rw [e] at r;exact q _ _ ((b.trans c).trans G) r
def ID {α β:Type} {R:α->β->Prop} {xs:List α} {ys:List β} {x:α} {y:β} (h:av R xs ys) (hx:R x y) :∀i,av R (xs.set i x) (ys.set i y):=by
 induction h with
 | nil=>intro i;exact .nil
 | cons a r ih=>
  intro i;cases i with
  | zero=>exact .cons hx r
  | succ i=>exact .cons a (ih i)
noncomputable def qH (ts:List (ZQ×ZQ)) (p:DD) (n:Nat) (pl:Pl) (s:Sv):nH:=(n,(dz p.k p.vb p.dt s).2,(gk (pl.1++[n]),pl.2.set (gJ ts p.nm) (dz p.k p.vb p.dt s).1))
def jP {r:Rc} {p:DD} {pl:Pl} {s:Sv} (h:pl.2[gJ ts p.nm]? = some s):ff ts r p n pl=if r.e.isNone || decide ((dz p.k p.vb p.dt s).2=r.a) then some (qH ts p n pl s) else none:=by unfold ff;rw [h];rfl
def DQ (K:c0):Sp:=λ vs H Q _=>∃(y:V) (pp:ZR) (m n k N:Nat) (rs:List Rc) (ts:List (ZQ×ZQ)) (r:Rc) (p:DD) (pl:Pl),vs=[y,.ref pp]/\kJ H m rs ts n r p y/\dQ K H ts r p/\jT ts/\iU K H pp pl/\eJ ts N k pl/\N<=63/\n < N/\n∉pl.1/\
 ∀s b q H',pl.2[gJ ts p.nm]? = some s->cS k p.k s->af H H'->H' b=some (.tup [.int (n:Nat),(dz p.k p.vb p.dt s).2,.ref q])->e_ K H' (qH ts p n pl s) (.ref b)->Q (.ref b) H'
theorem Qm (T:TX (kx w) mg) (c0:Ca P w mg base "do" ["kind","state","verb","worth"] 5 (lT (kx w))):Fo P w mg base CX0 6 292 AK ["candidate","place"] (DQ (kx w)):=by
 refine (yO w.params).ok dW (λ d H Q E h=>?_) (λ c7 A c4 s H d Q E hr h=>?_)
 ·obtain ⟨y,K,m,n,k,N,rs,g,r,p,a,rfl,_⟩:=h;rfl
 ·obtain ⟨y,K,m,n,k,N,rs,g,r,p,a,rfl,⟨x,b,fs,la,lb,as,bs,rfl,c,f1,f2,f3,Z,f5,f6,f7,f8,f9,ea,eb,ma,mb,al,bl⟩,gd,ok,⟨Y,pb,d,sp,sa,sb,sz⟩,M,a9,hn,nn,q⟩:=h;refine ⟨_,(aU (aC (i:=2) dW.nd rfl (E1 rfl) (bV (pv 0) rfl))
   (aU (aC (i:=3) dW.nd rfl (E1 rfl) (au aj (pv 1) ag (λ _ _=>rfl)))
   (aU (aC (i:=4) dW.nd rfl (E1 rfl) (aB c0 (hr.mono '!') rfl (ao (bV (pv 0) rfl) (ao (au aj (pv 3) (pv 2) (λ _ _=>rfl)) (ao (bV (pv 0) rfl) (ao (bV (pv 0) rfl) ae))))))
   (aU (aC (i:=5) dW.nd rfl (E1 rfl) (kO ny rfl (T.no (lG _)) A5 (ao (fg xo rfl (T.no (qv _)) W7 (ao (aO eN (au aj (pv 1) ag (λ _ _=>rfl)) (az (ao (bV (pv 0) rfl) ae))) ae)) ae)))
   (aT (aq (az (ao (bV (pv 0) rfl) (ao (au aj (pv 4) ag (λ _ _=>rfl)) (ao (az (ao (pv 5) (ao (aO (eN.or ux) (aO (eN.or ux) (nQ gn (pv 3) nP (lq (pv 2))) (az (ao (au aj (pv 4) ag (λ _ _=>rfl)) ae))) (nQ gn (pv 3) (lq (aO eA (pv 2) ag)) nP)) ae))) ae)))))))))),?_⟩
  obtain ⟨g1,g2,hm,dk,ix,wi,ga⟩:=gd;have a8:=iE ok hm;obtain ⟨s,W,X⟩:=hV M.so a8;obtain ⟨v,hv,hz⟩:=hV sz W;obtain ⟨c2,c5⟩:=M.n63 a9 hn nn;have vl:d.length=a.2.length:=cD sz;have sl:a.2.length=g.length:=cD M.so;have it:gJ g p.nm < d.length:=(List.getElem?_eq_some_iff.mp hv).1;rw [g2] at Z;refine ⟨_,rfl,x,_,b,fs,_,rfl,c,hP _,Ds _,f2,?_⟩;refine aF (cU ?_);refine ⟨_,rfl,.inr (.inl ⟨K,_,1,.ref pb,rfl,rfl,sp,bF (j:=1) rfl,?_⟩)⟩;refine aF (cU ?_);refine ⟨_,rfl,x,_,b,fs,_,rfl,c,hP _,DU _,f3,?_⟩;refine ⟨_,rfl,_,rfl,.inr (.inl ⟨pb,d,_,v,rfl,rfl,sb,bF hv,?_⟩)⟩;refine ⟨_,rfl,x,_,b,fs,_,rfl,c,hP _,Hd _,Z,?_⟩;refine ⟨_,rfl,x,_,b,fs,_,rfl,c,hP _,FF _,f5,?_⟩;refine pP (w:=w) (E:=E0) X hz c2 dk ix wi λ p6 O S G e6 a7=>?_;refine aF (cU ?_);refine gC ?_;refine ⟨_,rfl,.inr (.inl ⟨K,_,0,.ref Y,rfl,rfl,G.seqT sp,bF (j:=0) rfl,?_⟩)⟩;refine ⟨_,rfl,x,_,b,fs,_,rfl,G _ _ c,hP _,xE _,f1,lC,λ F a4=>?_⟩;have r7:=G.trans (af.upd (o:=.tup [.int (n:Nat)]) a4);have U:=af.upd (o:=.tup [.int (n:Nat)]) a4;have e7:upd S F (.tup [.int (n:Nat)]) F=some (.tup [.int (n:Nat)]):=ab;generalize upd S F (.tup [.int (n:Nat)])=H7 at r7 U e7⊢;refine ⟨Y,F,dM a.1,[.int (n:Nat)],rfl,rfl,r7.seqT sa,aG.of e7,by simp,C0 (m:=100) (by rw [rN];show _ + 1<=100;lia) '!',λ b2 H8 r8 q8=>?_⟩;rw [show dM a.1++[.int (n:Nat)]=((a.1++[n]).map λ (n:Nat)=>(n:Int)).map V.int by unfold dM;rw [S2,N1];rfl] at q8;refine ⟨b2,_,rfl,.inr q8,by rw [D0,L0];show _ + 1 < 64;lia,λ l3 c6 b8 pm pw=>?_⟩;rw [Hh pm pw];obtain ⟨H9,t,r9,e9⟩:=eZ (.lst (dM (gk (a.1++[n])))) b8;rw [<-t];refine ⟨l3,_,rfl,.inl ⟨aH.of e9,λ u b3=>?_⟩⟩;obtain ⟨a6,t,b0,b7⟩:=eZ (.tup (dM (gk (a.1++[n])))) b3;rw [<-t];refine aF ?_;have D:af S a6:=((U.trans r8).trans r9).trans b0;have B:=G.trans D;refine gv ?_;refine ⟨_,rfl,x,_,b,fs,_,rfl,B _ _ c,hP _,xE _,f1,?_⟩;refine ⟨_,rfl,.inr (.inl ⟨p6,_,1,_,rfl,rfl,aG.of (D _ _ e6),bF (j:=1) rfl,?_⟩)⟩;refine ⟨_,rfl,BU (qD (i:=gJ g p.nm) (v:=O) (λ C R f h=>⟨_,rfl,h⟩) (λ C R f h=>⟨_,rfl,h⟩) (λ C R f h=>⟨_,rfl,h⟩) (λ C R f h=>⟨_,rfl,.inr (.inl ⟨p6,_,0,O,rfl,rfl,aG.of (f _ _ (D _ _ e6)),bF (j:=0) rfl,h⟩)⟩) (λ C R f h=>⟨_,rfl,.inl ⟨_,1,rfl,rfl,h⟩⟩) (B.seqT sb) it (by have:=ok.n6;lia) λ l a0 c1 b9=>?_)⟩;refine ⟨cV,λ e c3=>⟨nk,λ b6 a5=>?_⟩⟩;have J:=af.upd (o:=.tup [.ref u,.ref l]) c3;have a2:upd a0 e (.tup [.ref u,.ref l]) e=some (.tup [.ref u,.ref l]):=ab;generalize upd a0 e (.tup [.ref u,.ref l])=H12 at J a2 a5⊢;obtain ⟨a1,t,L,a3⟩:=eZ (.tup [.int (n:Nat),(dz p.k p.vb p.dt s).2,.ref e]) a5;rw [<-t];have I:af a6 a1:=(c1.trans J).trans L;refine q s b6 e a1 W X (B.trans I) a3 ⟨b6,e,rfl,aG.of a3,u,l,d.set (gJ g p.nm) O,aG.of (L _ _ a2),aG.of (I _ _ b7),(J.trans L).seqT b9,ID (bG (λ _ _ z=>gK.tups (.of (B.trans I)) z) sz) (a7.tups (.of (D.trans I))) _⟩
def uC (rs:List Rc) (es:List Nat):Prop:=es.length<=rs.length/\∀n,n∈es↔∃r,rs[n]? = some r/\r.e.isSome=true
def Gu (K:c0):Sp:=λ vs H Q _=>∃(l:ZR) (zs:List V) (rs:List Rc),vs=[.ref l]/\H l=some (.lst zs)/\av (RcAt K H) rs zs/\rs.length<=100/\
 ∀le es H',af H H'->H' le=some (.lst (dM es))->uC rs es->Q (.ref le) H'
theorem IC (T:TX (kx w) mg):Fo P w mg base CX0 1 297 zu ["told"] (Gu (kx w)):=by
 refine (BG w.params).ok Qo (λ L H Q E h=>?_) (λ Z A X s H L Q E S h=>?_)
 ·obtain ⟨l,f,k,rfl,_⟩:=h;rfl
 ·obtain ⟨l,f,k,rfl,J,o,rl,q⟩:=h;refine ⟨_,(aT (aq (eE (xs:=["number","deed"]) (g:=iK (kx w) 2 (dh (bu 0) (dh (bu 1) iC))) (fr:=[]) (wJ rfl (T.no (uH _)) (ao (pv 0) ae)) (λ _ _ _ _ _=>(bQ rfl (eW (bT (N:=["number","deed"]) 0) (eW (bT (N:=["number","deed"]) 1) iW)))) (λ _ _ _ _ _=>(fq (cL pF (au (ve (K:=KX w.params) rfl) (pv 1) ag (λ _ _=>rfl)) bw (aD _)))) (λ _ _ _ _ _=>(pv 0))))),?_⟩;have t:f.length=k.length:=cD o;refine gv ?_;refine Rq (K:=KX w.params) (a:=l) (xs:=f) (H1:=H) (λ i=>(k[i]?.map λ r=>r.e.isSome).getD false) (λ i y _=>y=.int (i:Nat)) (λ _ _ _ _ _ z=>z) (λ R h=>⟨_,rfl,h⟩) (aH.of J) (C0 (m:=100) '%' '!') ?_ ?_
  ·intro i U v I d O KT W c b;obtain ⟨x,M,u,rfl,G⟩:=O;obtain ⟨r,C,p,rfl,D⟩:=fJ o u;rw [C] at c b;refine ⟨M,_,rfl,aG.of G,rfl,_,_,rfl,_,_,rfl,rfl,[some (.int (i:Nat)),some (.ref p)],rfl,rfl,?_⟩;refine ⟨_,rfl,.inr (.inl ⟨p,_,6,fe r.e,rfl,rfl,d.seqT D,bF (j:=6) rfl,rfl,_,rfl,?_⟩)⟩;have c:=λ z=>c (show r.e.isSome=true from z);have b:=λ z=>b (show r.e.isSome=false from z);cases re:r.e with
   | none=>exact bH (by show ¬ (!decide (V.non=V.non))=true;decide) (b (by rw [re];rfl) _ (af.refl _))
   | some e=>exact bz rfl ⟨_,rfl,c (by rw [re];rfl) _ _ (af.refl _) rfl⟩
  intro le I Y d B F;rw [LM F];refine q le _ _ (d.trans (af.upd B)) ab ⟨?_,λ n=>?_⟩
  ·exact C0 (K3 _ _) (by rw [B2,t];exact o0 _)
  ·rw [List.mem_filter,List.mem_range,t];constructor
   ·rintro ⟨h1,h2⟩;rw [F0 h1] at h2;exact ⟨_,F0 h1,h2⟩
   ·rintro ⟨r,h1,h2⟩;exact ⟨(List.getElem?_eq_some_iff.mp h1).1,by rw [h1];exact h2⟩
def DZ (K:c0):Sp:=λ vs H Q _=>∃(pa le:ZR) (ns es:List Nat),vs=[.ref pa,.ref le]/\aG K H pa (dM ns)/\H le=some (.lst (dM es))/\es.length<=100/\∀b H',af H H'->(b=true↔∀n∈es,n∈ns)->Q (.bl b) H'
theorem IP (T:TX (kx w) mg):Fo P w mg base CX0 1 302 yv ["done","numbers"] (DZ (kx w)):=by
 refine (y_ w.params).ok Jx (λ J H Q E h=>?_) (λ Z A W s H J Q E S h=>?_)
 ·obtain ⟨B,le,r,l,rfl,_⟩:=h;rfl
 ·obtain ⟨B,le,r,l,rfl,D,I,Y,q⟩:=h;refine ⟨_,(aT (aq (fg (Gy rfl) rfl (T.no (oI _)) boot_all (ao (eE (xs:=["number"]) (g:=bu 0) (fr:=[(0,"done")]) (lx (pv 1)) (λ _ _ _ _ _=>(bT (N:=["number","done"]) 0)) (λ _ _ _ _ _=>fF) (λ _ _ _ _ _=>(iA (Jm (K:=KX w.params) rfl) (pv 0) (pv 1) (by with_unfolding_all rfl)))) ae)))),?_⟩;refine gv (mW ?_);refine Ap (K:=KX w.params) (a:=le) (xs:=dM l) (H1:=H) (λ _=>true) (λ i y _=>∃n,l[i]? = some n/\y=.bl (decide (n∈r))) (λ _ _ _ _ _ z=>z) (λ R h=>⟨_,rfl,h⟩) (aH.of I) (C0 (m:=100) (by rw [rN];lia) '!') ?_ ?_
  ·intro i b v G k f KT U O X;unfold dM at f;rw [Z0] at f;obtain ⟨n,d,rfl⟩:=Option.map_eq_some_iff.mp f;refine ⟨[some (.int (n:Nat))],rfl,rfl,cN ?_⟩;refine ⟨_,rfl,_,rfl,B,_,rfl,.inr (k.seqT D),rfl,nD _,?_⟩;exact O rfl _ _ (af.refl _) ⟨n,d,by rw [<-da];rfl⟩
  intro F G o k L c;rw [List.filter_eq_self.mpr (λ _ _=>rfl),rN] at c;have M:=cD c;rw [B2] at M;refine ⟨F,o,rfl,aH.of ab,λ y p=>?_,q _ _ (k.trans (af.upd L)) ?_⟩
  ·obtain ⟨i,b⟩:=List.mem_iff_getElem?.mp p;obtain ⟨j,_,n,_,e⟩:=fJ c b;exact ⟨_,e⟩
  ·rw [c9];constructor
   ·intro h n d;obtain ⟨i,b⟩:=List.mem_iff_getElem?.mp d;have C:=(List.getElem?_eq_some_iff.mp b).1;have u:o[i]? = some o[i]:=F0 '%';obtain ⟨j,x,n',t,e⟩:=fJ c u;rw [j11 C] at x;cases x;rw [b] at t;cases t;have:=ZW (h _ (S0 u));rw [e] at this;exact ZW (V.bl.inj this)
   ·intro h y p;obtain ⟨i,b⟩:=List.mem_iff_getElem?.mp p;obtain ⟨j,_,n,d,e⟩:=fJ c b;rw [e,ZY (h n (S0 d))];exact ZY rfl
def Jr (al:av (λ (i:Nat) y=>∃t,ts[i]? = some t/\gK K H (aS t.2) y) (L1 ts.length) vs):av (gK K H) (ts.map λ t=>aS t.2) vs:=by have a:=cD al;rw [B2] at a;refine tK (by rw [D0,a]) λ i z v e f=>?_;rw [Z0] at e;obtain ⟨t,c,rfl⟩:=Option.map_eq_some_iff.mp e;obtain ⟨j,b,h,d,g⟩:=fJ al f;rw [j11 (List.getElem?_eq_some_iff.mp c).1] at b;cases b;rw [c] at d;cases d;exact g
def ED (K:c0):Sp:=λ vs H Q _=>∃(t:ZR) (ts:List (ZQ×ZQ)) (es:List Ev),vs=[.ref t]/\fV K H t ts es/\jT ts/\∀p H',af H H'->iU K H' p ([],ts.map λ t=>aS t.2)->Q (.ref p) H'
def Li (T:TX (kx w) mg) (c0:Ca P w mg base "first_state" ["kind"] 2 HJ):Fo P w mg base CX0 3 307 Ag ["tale"] (ED (kx w)):=by
 refine (yA w.params).ok Lv (λ d H Q E h=>?_) (λ a7 A a4 s H d Q E F h=>?_)
 ·obtain ⟨t,C,M,rfl,_⟩:=h;rfl
 ·obtain ⟨t,C,M,rfl,⟨pt,te,ys,U,⟨yt,W,n⟩,a6,al⟩,ok,q⟩:=h;refine ⟨_,(aT (aq (az (ao (az ae) (ao (kO ny rfl (T.no (lG _)) A5 (ao (eE (xs:=["name","kind"]) (g:=iK (kx w) 2 (dh (bu 0) (dh (bu 1) iC))) (fr:=[]) (fD (au aj (pv 0) ag (λ _ _=>rfl))) (λ _ _ _ _ _=>(bQ rfl (eW (bT (N:=["name","kind"]) 0) (eW (bT (N:=["name","kind"]) 1) iW)))) (λ _ _ _ _ _=>fF) (λ _ _ _ _ _=>(aB c0 (F.mono '!') rfl (ao (pv 1) ae)))) ae)) ae))))),?_⟩;refine gv ?_;refine ⟨jq,λ D a2=>?_⟩;obtain ⟨V,c,f,I⟩:=eZ (.tup []) a2;rw [<-c];refine BU (mW ?_);refine sg (K:=KX w.params) (a:=pt) (xs:=yt) (H1:=V) (λ _=>true) (λ i y H'=>∃t,C[i]? = some t/\gK (kx w) H' (aS t.2) y) (λ _ _ _ _ s ⟨t,h1,h2⟩=>⟨t,h1,h2.tups (.of s)⟩) (λ R h=>⟨_,rfl,.inr (.inl ⟨t,_,0,.ref pt,rfl,rfl,aG.of (f _ _ U),bF (j:=0) rfl,h⟩)⟩) (f.seqT (aG.of W)) (C0 (m:=6) (by rw [cD n];exact ok.n6) '!') ?_ ?_
  ·intro i hi v l e k KT KF k1 k2;obtain ⟨t,r,b,rfl,eb⟩:=fJ n k;have Y:=(f.trans e) _ _ eb;obtain ⟨v,k,O⟩:=Lx (w:=w) (H:=l) (ok.ks t (S0 r));refine ⟨b,_,rfl,aG.of Y,rfl,_,_,rfl,_,_,rfl,rfl,[some (.str t.1),some (.str t.2)],rfl,rfl,cN ?_⟩;exact ⟨_,rfl,t.2,v,rfl,k,k1 rfl _ _ (af.refl _) ⟨t,r,O⟩⟩
  intro L l d e a1 x;rw [List.filter_eq_self.mpr (λ _ _=>rfl),cD n] at x;obtain ⟨H5,c,a3,G⟩:=eZ (.lst d) a1;rw [<-c];refine ⟨L,d,rfl,.inl ⟨aH.of G,λ B Z=>?_⟩⟩;obtain ⟨H6,c,J,X⟩:=eZ (.tup d) Z;rw [<-c];refine ⟨cV,λ p0 S=>?_⟩;obtain ⟨u,c,p,e7⟩:=eZ (.tup [.ref D,.ref B]) S;rw [<-c];have o:af l u:=(a3.trans J).trans p;exact q p0 u ((f.trans e).trans o) ⟨D,B,d,aG.of e7,aG.of ((e.trans o) _ _ I),aG.of (p _ _ X),Jr (bG (λ _ _ z=>z.elim λ t y=>⟨t,y.1,y.2.tups (.of o)⟩) x)⟩
noncomputable def hide (r:ZR) (H:Hp):Hp:=λ p=>if p=r then none else H p
def jy (n:p≠r) (e:H p=some o):hide r H p=some o:=by unfold hide;rw [Z_ n];exact e
def aM:af (hide r H) H:=λ p o e=>by
 unfold hide at e;by_cases z:p=r
 ·rw [ZZ z] at e;cases e
 ·rw [Z_ z] at e;exact e
def PN (e:hide r H p=some o):p≠r:=λ z=>by unfold hide at e;rw [ZZ z] at e;cases e
def pR (s:af H H'):af (hide r H) (hide r H'):=λ p o e=>jy (PN e) (s _ _ (aM _ _ e))
def uV:hide l (upd H l o)=hide l H:=by
 funext q;unfold hide;by_cases z:q=l
 ·rw [ZZ z,ZZ z]
 ·rw [Z_ z,Z_ z,ak z]
theorem uU {f:ZQ×ZQ->ZQ} (h:av (λ (i:Nat) y=>∃t,ts[i]? = some t/\y=V.str (f t)) (L1 ts.length) us):us=ts.map λ t=>V.str (f t):=by
 have b:=cD h;rw [B2] at b;apply K8;intro i;rw [Z0];cases hu:us[i]? with
 | none=>rw [L4 (by have:=List.getElem?_eq_none_iff.mp hu;lia)];rfl
 | some y=>obtain ⟨j,a,t,c,d⟩:=fJ h hu;rw [j11 (by have:=(List.getElem?_eq_some_iff.mp hu).1;lia)] at a;cases a;rw [c,d];rfl
def Fz (H:Hp) (m:Nat) (rs:List Rc) (ts:List (ZQ×ZQ)) (ps:List DD) (cs:List V):Prop:=∀n r p y,rs[n]? = some r->ps[n]? = some p->cs[n]? = some y->kJ H m rs ts n r p y
structure sI (K:c0) (H:Hp) (m:Nat) (rs:List Rc) (ts:List (ZQ×ZQ)) (ps:List DD) (fs:List (ZQ×V)):Prop where
 cand :∃lc cs,fs.lookup ("candidates" : ZQ)=some (.ref lc)/\H lc=some (.lst cs)/\cs.length=rs.length/\Fz H m rs ts ps cs
 first :∃p0,fs.lookup ("first" : ZQ)=some (.ref p0)/\iU K H p0 ([],ts.map λ t=>aS t.2)
 ended :∃le en,fs.lookup ("ended" : ZQ)=some (.ref le)/\H le=some (.lst (dM en))/\uC rs en
 kinds :∃lk,fs.lookup ("kinds" : ZQ)=some (.ref lk)/\H lk=some (.lst (ts.map λ t=>V.str t.2))
 nm :∀z:ZQ,z∈(["steps_from","ends_at","has_place"]:List ZQ)->fs.lookup z=none
def sI.same {rs:List Rc} {fs:List (ZQ×V)} (s:af H H') (h:sI K H m rs ts ps fs):sI K H' m rs ts ps fs:=
 ⟨h.cand.elim λ d z=>z.elim λ b y=>⟨d,b,y.1,s _ _ y.2.1,y.2.2.1,λ n r p v c e a=>(y.2.2.2 n r p v c e a).same s⟩,h.first.elim λ p z=>⟨p,z.1,z.2.tups (.of s)⟩,h.ended.elim λ le z=>z.elim λ g y=>⟨le,g,y.1,s _ _ y.2.1,y.2.2⟩,h.kinds.elim λ f z=>⟨f,z.1,s _ _ z.2⟩,h.nm⟩
def xS (K:c0):Sp:=λ vs H Q _=>∃(x dx t:ZR) (ts:List (ZQ×ZQ)) (es:List Ev) (ps:List DD) (m:Nat),vs=[.ref x,.ref t,.str (fh m)]/\H x=some (.ins 281 dx [])/\fV K H t ts es/\jT ts/\es.length<=63/\kU [] es/\av (dQ K H ts) (aR 0 [] es) ps/\
 ∀fs H',Kept x H H'->H' x=some (.ins 281 dx fs)->sI K H' m (aR 0 [] es) ts ps fs->Q .non H'
theorem Mg (T:TX (kx w) mg) (c0:Ca P w mg base "has_to" ["tale","strictness"] 2 (EE (kx w))) (c1:Ca P w mg base "deeds" ["tale"] 1 (zT (kx w))) (c2:Ca P w mg base "first_place" ["tale"] 3 (ED (kx w))) (c3:Ca P w mg base "ended_numbers" ["told"] 1 (Gu (kx w))) (c4:Fo P w mg base (nV P w base) 1 231 wB ["self","number","deed","thing","kind","pairs"] (Df (kx w))):Fo P w mg base (nV P w base) 5 257 uQ ["self","tale","strictness"] (xS (kx w)):=by
 refine (DG w.params).okE aV (λ vs H Q E h=>?_) (λ l4 A k8 s H vs Q E hr h=>?_)
 ·obtain ⟨x,dx,t,u,M,ps,m,rfl,_⟩:=h;rfl
 ·obtain ⟨x,dx,t,u,M,ps,m,rfl,ex,ta,ok,k6,wf,gd,q⟩:=h;refine ⟨_,(aU (aC (i:=3) aV.nd rfl (E1 rfl) (aB c0 (hr.mono '!') rfl (ao (pv 1) (ao (pv 2) ae))))
   (aU (aC (i:=4) aV.nd rfl (E1 rfl) (aB c1 (hr.mono '!') rfl (ao (pv 1) ae)))
   (aU (dB (pv 0) (eE (xs:=["name","kind"]) (g:=iK (kx w) 2 (dh (bu 0) (dh (bu 1) iC))) (fr:=[]) (fD (au aj (pv 1) ag (λ _ _=>rfl))) (λ _ _ _ _ _=>(bQ rfl (eW (bT (N:=["name","kind"]) 0) (eW (bT (N:=["name","kind"]) 1) iW)))) (λ _ _ _ _ _=>fF) (λ _ _ _ _ _=>(pv 1))) rfl)
   (aU (dB (pv 0) (aB c2 (hr.mono '!') rfl (ao (pv 1) ae)) rfl)
   (aU (dB (pv 0) (aB c3 (hr.mono '!') rfl (ao (pv 4) ae)) rfl)
   (aU (dB (pv 0) (aW ae) rfl)
   (aU (LS (i:=5) aV.nd rfl (E1 rfl) (xs:=["name","kind"]) (g:=iK (kx w) 2 (dh (bu 0) (dh (bu 1) iC))) (fr:=[]) rfl (fD (au aj (pv 1) ag (λ _ _=>rfl))) (λ _ z=>ZU z u0) (Mr rfl) (λ _ z=>ZU z u0) (by decide +kernel) rfl (by decide +kernel) (λ _ _ _ _ _=>(bQ rfl (eW (bT (N:=["name","kind"]) 0) (eW (bT (N:=["name","kind"]) 1) iW)))) (λ _ _ _ _ _=>fF) (λ _ _ _ _ _=>(pv 0)))
   (aT (PS.nox (bY Z1 rfl (wJ rfl (T.no (uH _)) (ao (pv 4) ae)) (bQ rfl (eW (fm (i:=6) aV.nd rfl (E1 rfl)) (eW (fm (i:=7) aV.nd rfl (E1 rfl)) iW)))
   (aU (aC (i:=8) aV.nd rfl (E1 rfl) (FI (pv 5) (ao (au aj (pv 7) ag (λ _ _=>rfl)) ae)))
   (aT (kD (lJ (bV (pv 0) rfl) (ao (zK (QT _) c4 (hr.mono '!') rfl (T.of (NK _)) (Lc _) .nil me (ao (pv 6) (ao (pv 7) (ao (pv 8) (ao (au aj (bV (pv 0) rfl) (pv 8) (λ _ _=>rfl)) (ao (pv 3) ae)))))) ae))))))))))))))),?_⟩
  obtain ⟨pt,te,ys,et,⟨yt,g0,X⟩,e0,al⟩:=id ta;obtain ⟨dw,os,DI⟩:=eY.all eY.nil wf;have rl:(aR 0 [] M).length<=63:=by have:=Cm (i:=0) (rs:=[]) M;simp only [Q9,S4] at this;lia
  refine ⟨_,rfl,_,rfl,t,te,.ref pt,ys,M,m,rfl,aG.of et,aG.of e0,al,by lia,dw,λ lp zp H1 s1 l0 c6 ap=>?_⟩;refine aF (cU ?_);refine ⟨_,rfl,t,te,.ref pt,ys,M,rfl,s1.seqT (aG.of et),s1.seqT (aG.of e0),bG (λ _ _ z=>gE.tups (.of s1) z) al,by lia,dw,λ lt zt C s2 l5 a1 ar=>?_⟩;refine aF (cU ?_);have U:=s1.trans s2;generalize aR 0 [] M=rs at *;have zl:zt.length=rs.length:=cD ar;have pl:=Bz (m:=m) (rs:=rs) rs.length;have pm:rs.length * rs.length<=63 * 63:=j0d rl rl;have g9 :∀{a:ZR} {o:HO} {L:Hp},L x=some (.ins 281 dx [])->L a=some o->(∀d f,o≠.ins 281 d f)->a≠x:=λ e1 e2 n z=>by rw [z,e1] at e2;cases e2;exact n _ _ rfl
  have a5:=U _ _ ex;have j9:lp≠x:=g9 a5 (s2 _ _ c6) λ _ _ z=>by cases z
  have d3:lt≠x:=g9 a5 a1 λ _ _ z=>by cases z
  refine mK ?_;refine sg (K:=KX w.params) (a:=pt) (xs:=yt) (H1:=C) (λ _=>true) (λ i y _=>∃t,u[i]? = some t/\y=.str t.2) (λ _ _ _ _ s z=>z) (λ R h=>⟨_,rfl,.inr (.inl ⟨t,_,0,.ref pt,rfl,rfl,aG.of (U _ _ et),bF (j:=0) rfl,h⟩)⟩) (U.seqT (aG.of g0)) (C0 (m:=6) (by rw [cD X];exact ok.n6) '!') ?_ ?_
  ·intro i hi v H3 s3 hv KT KF k1 k2;obtain ⟨t,ht,b,rfl,eb⟩:=fJ X hv;refine ⟨b,_,rfl,aG.of ((U.trans s3) _ _ eb),rfl,_,_,rfl,_,_,rfl,rfl,[some (.str t.1),some (.str t.2)],rfl,rfl,cN ?_⟩;exact ⟨_,rfl,k1 rfl _ _ (af.refl _) ⟨t,ht,rfl⟩⟩
  intro I H3 us s3 d2 d6;rw [List.filter_eq_self.mpr (λ _ _=>rfl),cD X] at d6;rw [uU (f:=λ t=>t.2) d6];have b9:=s3.trans (af.upd (o:=.lst (u.map λ t=>V.str t.2)) d2);have d0:upd H3 I (.lst (u.map λ t=>V.str t.2)) I=some (.lst (u.map λ t=>V.str t.2)):=ab;have e3:I≠x:=λ z=>by rw [z,s3 _ _ a5] at d2;cases d2
  generalize upd H3 I (.lst (u.map λ t=>V.str t.2))=H4 at b9 d0⊢;have s4:=U.trans b9;refine lE s4.kept (s4 _ _ ex) rfl (kP _) (De _) (n:=0) (o0 _) '!' λ H5 k5 g6 e5 Z=>?_;refine mK ?_;refine ⟨_,rfl,t,u,M,rfl,ta.tt (dX ex k5),ok,λ p0 H6 s6 pz=>?_⟩;refine lE (k5.trans s6.kept) (s6 _ _ e5) rfl (kP _) (yi _) Z '!' λ H7 k7 b8 e7 Z=>?_;refine mK ?_;have b3:Kept x C H7:=(b9.kept.trans g6).trans (s6.kept.trans b8);have j6:Tt (kx w) C H7:=dX a5 b3;refine ⟨_,rfl,lt,zt,rs,rfl,b3 _ _ d3 a1,bG (λ _ _ z=>RcAt.tups j6.t z) ar,by lia,λ le en H8 G b2 EL=>?_⟩;refine lE (k7.trans G.kept) (G _ _ e7) rfl (kP _) (Dg _) Z '!' λ H9 k9 Y e9 Z=>?_;refine mK ⟨jq,λ c a0=>?_⟩;have D:=af.upd (o:=.lst []) a0;have h0:upd H9 c (.lst []) c=some (.lst []):=ab;have b0:c≠x:=λ z=>by rw [z,e9] at a0;cases a0
  generalize upd H9 c (.lst [])=H10 at D h0⊢;refine lE (k9.trans D.kept) (D _ _ e9) rfl (kP _) (As _) Z '!' λ c5 e8 a6 d8 Z=>?_;have g8:=a6 _ _ b0 h0;have h6:Kept x C c5:=(b3.trans (G.kept.trans Y)).trans (D.kept.trans a6);have d4:Tt (kx w) H c5:=dX ex e8;refine gC ?_;refine sg (K:=KX w.params) (a:=pt) (xs:=yt) (H1:=c5) (λ _=>true) (λ i y _=>∃t,u[i]? = some t/\y=.str t.1) (λ _ _ _ _ s z=>z) (λ R h=>⟨_,rfl,.inr (.inl ⟨t,_,0,.ref pt,rfl,rfl,aG.of (d4.l _ _ et),bF (j:=0) rfl,h⟩)⟩) (d4.t _ _ (aG.of g0)) (C0 (m:=6) (by rw [cD X];exact ok.n6) '!') ?_ ?_
  ·intro i hi v c8 a7 hv KT KF k1 k2;obtain ⟨t,ht,b,rfl,eb⟩:=fJ X hv;refine ⟨b,_,rfl,aG.of (a7 _ _ (d4.l _ _ eb)),rfl,_,_,rfl,_,_,rfl,rfl,[some (.str t.1),some (.str t.2)],rfl,rfl,cN ?_⟩;exact ⟨_,rfl,k1 rfl _ _ (af.refl _) ⟨t,ht,rfl⟩⟩
  intro J c8 us a7 a2 d5;rw [List.filter_eq_self.mpr (λ _ _=>rfl),cD X] at d5;rw [uU (f:=λ t=>t.1) d5];have F:=a7.trans (af.upd (o:=.lst (u.map λ t=>V.str t.1)) a2);have g5:upd c8 J (.lst (u.map λ t=>V.str t.1)) J=some (.lst (u.map λ t=>V.str t.1)):=ab;have l2:J≠x:=λ z=>by rw [z,a7 _ _ d8] at a2;cases a2
  have j0:J≠c:=λ z=>by rw [z,a7 _ _ g8] at a2;cases a2
  generalize upd c8 J (.lst (u.map λ t=>V.str t.1))=HB at F g5⊢;refine aF ?_;have eB:=F _ _ d8;have d1:=F _ _ g8;have kB:Kept x H HB:=e8.trans F.kept;have a9:Kept x C HB:=h6.trans F.kept;have b5:C c=none:=by
   cases z:C c with
   | none=>rfl
   | some o=>have:=((b3.trans (G.kept.trans Y))) _ _ b0 z;rw [a0] at this;cases this
  have i4:H c=none:=U.free b5;have j8:lt≠c:=λ z=>by rw [z,b5] at a1;cases a1
  have j2:lp≠c:=λ z=>by have:=s2 _ _ c6;rw [z,b5] at this;cases this
  have w5:Kept x H4 H5:=g6;have g4:Kept x H4 H9:=(w5.trans (s6.kept.trans b8)).trans (G.kept.trans Y);have h5:I≠c:=λ z=>by have h:=g4 _ _ e3 d0;rw [z,a0] at h;cases h
  have d9:HB I=some (.lst (u.map λ t=>V.str t.2)):=((g4.trans (D.kept.trans a6)).trans F.kept) _ _ e3 d0;refine ⟨_,rfl,lt,zt,rfl,aH.of (a9 _ _ d3 a1),?_⟩;refine Cu (K:=KX w.params) (a:=lt) (xs:=zt) (λ i σ L=>∃B,aK [c] HB L/\L c=some (.lst B)/\B.length=i/\Fz (hide c L) m rs u ps B/\∃x6 x7 x8,σ=[some (.ref x),some (.ref t),some (.str (fh m)),some (.ref lp),some (.ref lt),some (.ref J),x6,x7,x8])
   ⟨[],aK.refl,d1,rfl,λ n r p y _ _ h=>(by cases h),_,_,_,rfl⟩ (λ i σ L h=>?_) ?_ ?_
  ·obtain ⟨B,kk,_⟩:=h;exact aH.of (kk _ _ (by simp [j8]) (a9 _ _ d3 a1))
  ·rintro i y σ b1 pq hy ⟨B,k13,e13,cl,ca,x6,x7,x8,rfl⟩ hpq;obtain ⟨a4,v_,sp,h9⟩:=eZ (.tup [.int i,y]) hpq;rw [<-v_];refine ⟨pq,_,rfl,aG.of h9,rfl,.int i,_,rfl,y,_,rfl,rfl,?_⟩;have l1:i < rs.length:=by rw [<-zl];exact (List.getElem?_eq_some_iff.mp hy).1
   obtain ⟨r,h4,py,rfl,g7⟩:=fJ ar hy;obtain ⟨O,i6,g1,g2,hm,dk,ix,wi,ga⟩:=hV gd h4;have mB :∀l∈[c],jn HB l:=λ l hl=>by rw [List.mem_singleton.mp hl];exact .inl ⟨_,d1⟩
   have j4:Tt (kx w) C HB:=dX a5 a9;have b6:Tt (kx w) C a4:=(j4.trans (aK.tt k13 mB)).trans (.of sp);have a8:aK [c] HB a4:=k13.trans sp.keptL;have d7:=b6.t _ _ g7;rw [g1] at d7;have b7:=iE ok hm;have k4:gJ u O.nm < u.length:=(List.getElem?_eq_some_iff.mp b7).1;have g3:(u.map (·.1))[gJ u O.nm]? = some O.nm:=by rw [Z0,b7];rfl
   have j5:u.map (λ t=>V.str t.1)=(u.map (·.1)).map V.str:=by rw [S2];rfl
   have c9:=a8 _ _ (by simp [j0]) g5;rw [j5] at c9;refine ⟨_,rfl,.inl ⟨rfl,_,aH.of c9⟩,_,rfl,.inr (.inl ⟨py,_,1,.str O.nm,rfl,rfl,d7,bF (j:=1) rfl,J,u.map (·.1),O.nm,gJ u O.nm,rfl,rfl,c9,C0 (m:=6) (by rw [D0];exact ok.n6) '!',g3,λ m' l3 e=>?_,?_⟩)⟩
   ·have:=(j24 (List.getElem?_eq_some_iff.mp e).1 ok.nd).mp (e.trans g3.symm)
    lia
   refine aF (cU ?_);have e6:=a8 _ _ (by simp [b0.symm]) eB;have a3:=sp _ _ e13;have k0:=a8 _ _ (by simp [h5]) d9;have j3:=a8 _ _ (by simp [j2]) (a9 _ _ j9 (s2 _ _ c6));refine ⟨_,rfl,x,_,dx,_,_,rfl,e6,kP _,As _,eD,.inl ⟨rfl,_,aH.of a3⟩,?_⟩;refine ⟨_,rfl,_,rfl,_,rfl,_,rfl,x,_,dx,_,_,rfl,e6,kP _,De _,bt (bt (bt eD)),?_⟩;refine ⟨_,rfl,.inl ⟨I,_,_,.str O.k,rfl,rfl,aH.of k0,bF (by rw [Z0,b7];rfl),?_⟩⟩;refine ⟨_,rfl,λ xc dc b4 e4 nc=>?_⟩;have sC:af a4 (upd (upd a4 dc (.own xc)) xc (.ins 241 dc [])):=(af.upd e4).trans (af.upd (by rw [ak nc.symm];exact b4));refine ⟨xc,dc,lp,i,_,_,.ref py,zp,lA m rs rs.length,r,rfl,ab,⟨py,rfl,sC.seqT (b6.t _ _ g7)⟩,sC _ _ j3,bG (λ _ _ z=>z.elim λ b y=>⟨b,y.1,sC _ _ (b6.l _ _ (s2 _ _ y.2))⟩) ap,by lia,λ fs la lb as bs k3 i3 i2 f1 f2 f3 f4 f5 f6 f7 f8 f9 ea eb ma mb i8 i5 fa fb=>⟨rfl,?_⟩⟩;have c7:af a4 k3:=Gb b4 e4 i3;have h7:=c7 _ _ a3;refine ⟨c,B,_,rfl,rfl,h7,U1 (m:=100) '%' '!',?_⟩;have j1:xc≠c:=λ z=>by rw [z,a3] at b4;cases b4
   have h8:la≠c:=λ z=>by rw [z,sC _ _ a3] at fa;cases fa
   have i7:lb≠c:=λ z=>by rw [z,sC _ _ a3] at fb;cases fb
   refine ⟨B++[.ref xc],(a8.trans c7.keptL).trans (aK.set (by simp)),ab,by rw [L0];show B.length + 1=_;lia,λ n r' p' y' W h2 S=>?_,_,_,_,rfl⟩;rw [uV];by_cases z:n < B.length
   ·rw [F2 z] at S;exact (ca n r' p' y' W h2 S).same (pR (sp.trans c7))
   ·have hn:n=B.length:=by
     have:=(List.getElem?_eq_some_iff.mp S).1;rw [L0] at this;have:n < B.length + 1:=this
     lia
    rw [hn,X1 (o0 _),Nat.sub_self] at S;cases S;rw [hn,cl] at W h2;rw [h4] at W;rw [i6] at h2;cases W;cases h2;rw [hn,cl];exact ⟨xc,dc,fs,la,lb,as,bs,rfl,jy j1 i2,f1,f2,f3,f4,f5,f6,f7,f8,f9,jy h8 ea,jy i7 eb,λ a=>(ma a).trans ⟨λ h=>(ew.mp h).2.2,λ h=>ew.mpr ⟨(rp h).1,(rp h).2,h⟩⟩,λ b=>(mb b).trans ⟨λ h=>(ew.mp h).2.2,λ h=>ew.mpr ⟨(rp h).1,(rp h).2,h⟩⟩,i8,i5⟩
  ·rintro σ b1 ⟨B,k13,e13,cl,ca,x6,x7,x8,rfl⟩;have j7 :∀b o,b≠x->b≠c->H8 b=some o->b1 b=some o:=λ b o n1 n2 e=>k13 _ _ (by simp [n2]) (F _ _ (a6 _ _ n1 (D _ _ (Y _ _ n1 e))));have f0:le≠x:=λ z=>by rw [z,G _ _ e7] at b2;cases b2
   have i1:le≠c:=λ z=>by have h:=Y _ _ f0 b2;rw [z,a0] at h;cases h
   have i9 :∀l∈[c],jn HB l:=λ l hl=>by rw [List.mem_singleton.mp hl];exact .inl ⟨_,d1⟩
   have i0:Tt (kx w) H6 b1:=((dX (s6 _ _ e5) b8).trans ((Tt.of G).trans ((dX (G _ _ e7) Y).trans ((Tt.of D).trans ((dX (D _ _ e9) a6).trans (.of F)))))).trans (aK.tt k13 i9);refine q _ b1 (λ b o nb e=>k13 _ _ (λ z=>by rw [List.mem_singleton.mp z,i4] at e;cases e) (kB b o nb e)) (k13 _ _ (by simp [b0.symm]) eB) ⟨⟨c,B,eD,e13,by lia,λ n r p y W h2 S=>(ca n r p y W h2 S).same aM⟩,⟨p0,bt (bt eD),pz.tups i0.t⟩,⟨le,en,bt eD,j7 _ _ f0 i1 b2,EL⟩,⟨I,bt (bt (bt eD)),k13 _ _ (by simp [h5]) d9⟩,λ z hz=>?_⟩;simp only [R1,u0,or_false] at hz;rcases hz with rfl|rfl|rfl<;>exact (bt (bt (bt (bt rfl))))
def AV {α β:Type} {R:α->β->Prop} {xs xs':List α} {ys ys':List β} (h:av R xs ys) (h':av R xs' ys'):av R (xs++xs') (ys++ys'):=by
 induction h with
 | nil=>exact h'
 | cons a r ih=>exact .cons a ih
def mD {tc:TT} {ta:TS} (R:Hp->Prop) (k :∀H',R H'->ta D σ H') (h:(∀H',R H'->ta D σ H')->kG tc ta tb D σ H):kG tc ta tb D σ H:=h k
def jk (K:c0) (H:Hp) (m:Nat) (rs:List Rc) (ts:List (ZQ×ZQ)) (ps:List DD) (b:ZR):Prop:=∃dx fs,H b=some (.ins 281 dx fs)/\sI K H m rs ts ps fs
def jk.same {rs:List Rc} (s:af H H') (h:jk K H m rs ts ps b):jk K H' m rs ts ps b:=h.elim λ a z=>z.elim λ fs y=>⟨a,fs,s _ _ y.1,y.2.same s⟩
def Be (K:c0):Sp:=λ vs H Q _=>∃(b pp:ZR) (m k:Nat) (rs:List Rc) (ts:List (ZQ×ZQ)) (ps:List DD) (pl:Pl),vs=[.ref b,.ref pp]/\jk K H m rs ts ps b/\av (dQ K H ts) rs ps/\jT ts/\iU K H pp pl/\eJ ts rs.length k pl/\rs.length<=63/\
 ∀l ys H',af H H'->H l=none->H' l=some (.lst ys)->av (e_ K H') (eM (cP m rs pl.1) ts rs ps pl rs.length) ys->Q (.ref l) H'
theorem QR (T:TX (kx w) mg) (c0:Fo P w mg base CX0 1 238 wI ["self","done"] (Ib (kx w))) (c1:Ca P w mg base "step_of" ["candidate","place"] 6 (DQ (kx w))):Fo P w mg base CX0 7 264 tZ ["self","place"] (Be (kx w)):=by
 refine (Ge w.params).ok bI (λ vs H Q E h=>?_) (λ a6 A a5 s H vs Q E hr h=>?_)
 ·obtain ⟨b,t,m,k,c,l,C,d,rfl,_⟩:=h;rfl
 ·obtain ⟨b,t,m,k,c,l,C,d,rfl,⟨dx,fs,eb,⟨⟨lc,cs,fc,ec,cl,ca⟩,_,_,_,fn⟩⟩,gd,ok,pz,po,rl,q⟩:=h;refine ⟨_,(aU (aC (i:=2) bI.nd rfl (E1 rfl) (aW ae))
   (aU (bY Z1 rfl (lx (bV (pv 0) rfl)) (fm (i:=3) bI.nd rfl (E1 rfl))
   (aT (aJ (bS (w_ (pv 3) (hP _) (Ob _) c0 (hr.mono '!') (QI _) .nil hU (ao (au aj (pv 1) ag (λ _ _=>rfl)) ae)) (λ _=>rfl))
   (aU (aC (i:=4) bI.nd rfl (E1 rfl) (aB c1 (hr.mono '!') rfl (ao (pv 3) (ao (pv 1) ae))))
   (aT (aJ (PW.pt (gB (cL gy (bV (pv 3) rfl) bw (aD _)) (gc (cL cv (bV (pv 3) rfl) (au aj (pv 4) ag (λ _ _=>rfl)) (aD _)))))
   (aT (kD (lJ (pv 2) (ao (pv 4) ae))))
   dD)))
   dD)))
   (aT (aq (pv 2))))),?_⟩
  refine ⟨jq,λ o a0=>?_⟩;obtain ⟨H1,v_,s1,F⟩:=eZ (.lst []) a0;rw [<-v_];refine aF (cU ?_);refine ⟨_,rfl,b,_,dx,fs,_,rfl,s1 _ _ eb,kP _,As _,fc,lc,rfl,⟨_,aH.of (s1 _ _ ec)⟩,?_⟩;refine pf (K:=KX w.params) (a:=lc) (xs:=cs) (λ i σ f=>∃ys,af H f/\f o=some (.lst ys)/\av (e_ (kx w) f) (eM (cP m c d.1) l c C d i) ys/\∃x3 x4,σ=[some (.ref b),some (.ref t),some (.ref o),x3,x4])
   ⟨[],s1,F,.nil,_,_,rfl⟩ (λ i σ f _ h=>aH.of (h.choose_spec.1 _ _ ec)) ?_ ?_
  ·rintro i y σ I hy ⟨ys,s2,e2,al2,x3,x4,rfl⟩;have W:i < c.length:=by rw [<-cl];exact (List.getElem?_eq_some_iff.mp hy).1
   have D:c[i]? = some c[i]:=F0 W;obtain ⟨p,N,g⟩:=hV gd D;generalize c[i]=r at D g;have L:=(ca i r p y D N hy).same s2;obtain ⟨J,pb,vs,sp,sa,sb,sz⟩:=id pz;refine aF ?_;have a1 :∀{f:Hp} {R:VK},af H f->R (.ref J) f->jK (oB (kx w)) (gT 1) (tC (.int 0)) [some (.ref b),some (.ref t),some (.ref o),some y,x4] f R:=λ B h=>⟨_,rfl,.inr (.inl ⟨t,_,0,.ref J,rfl,rfl,B.seqT sp,bF (j:=0) rfl,h⟩)⟩
   have skip:cP m c d.1 i=false\/ff l r p i d=none->∀{x3 x4:Option V} {f:Hp},af I f->∃ys,af H f/\f o=some (.lst ys)/\av (e_ (kx w) f) (eM (cP m c d.1) l c C d (i + 1)) ys/\∃x3' x4',[some (.ref b),some (.ref t),some (.ref o),x3,x4]=[some (.ref b),some (.ref t),some (.ref o),x3',x4']:=λ h {x3 x4 f} B=>by
    refine ⟨ys,s2.trans B,B _ _ e2,?_,_,_,rfl⟩;rw [tf,show dF (cP m c d.1) l c C d i=none by
     unfold dF;rcases h with h|h
     ·rw [h];rfl
     ·rw [D,N];split<;>first|exact h|rfl]
    rw [j0j,A3];exact bG (λ _ _ z=>e_.tups (.of B) z) al2
   obtain ⟨x,O,Y,la,lb,as,bs,rfl,M,f1,f2,f3,f4,f5,f6,f7,f8,f9,_⟩:=id L;refine ⟨_,rfl,x,O,Y,rfl,M,f9,a1 s2 ⟨.ref x,J,m,i,c,l,r,p,d.1,rfl,L,s2.seqT sa,_,rfl,?_⟩⟩;cases hc:cP m c d.1 i with
   | false=>exact cK (skip (.inl hc) (af.refl _))
   | true=>
   refine cN ?_;have ni:i∉d.1:=ZW (Bool.and_eq_true_iff.mp (Bool.and_eq_true_iff.mp hc).1).1;refine ⟨_,rfl,_,rfl,.ref x,t,m,i,k,c.length,c,l,r,p,d,rfl,L,g.tt (.of s2),ok,pz.tups (.of s2),po,rl,W,ni,λ sv X q6 U a2 so v e3 a4=>?_⟩;refine aF (cU ?_);have Z:=jP (r:=r) (n:=i) a2;refine mD (λ f=>U=f/\ff l r p i d=some (qH l p i d sv)) ?_ λ put=>?_;rotate_left
   ·refine nM ?_;refine ⟨_,rfl,x,_,O,Y,_,rfl,v _ _ M,hP _,Bj _,f6,rfl,_,rfl,?_⟩;have a3:=hX g.2.2.2.1 so (po.n63 rl W ni).1;rcases g.2.2.2.2.2.2 with ⟨G,u⟩|⟨G,u⟩
    ·refine bz (by rw [u];rfl) (cN (put _ ⟨rfl,?_⟩));rw [Z,G];rfl
    have na:¬ decide (r.a=V.non)=true:=λ h=>by have:=ZW h;rcases u with ⟨j,u⟩|⟨j,u⟩<;>(rw [u] at this;cases this)
    have F:r.e.isNone=false:=Option.isNone_eq_false_iff.mpr G;refine bH na ?_;refine ⟨_,rfl,x,_,O,Y,_,rfl,v _ _ M,hP _,Bj _,f6,?_⟩;refine ⟨_,rfl,.inr (.inl ⟨X,_,1,_,rfl,rfl,aG.of e3,bF (j:=1) rfl,nq.scal (.inl u) (.inl a3.2.isA),_,rfl,?_⟩)⟩;by_cases za:r.a=(dz p.k p.vb p.dt sv).2
    ·refine bz (ZY za) (put _ ⟨rfl,?_⟩);rw [Z,F,j4d,ZY za.symm];rfl
    ·refine bH (λ h=>za (ZW h)) (skip (.inr ?_) v);rw [Z,F,j4d,ZX (λ h=>za h.symm)];rfl
   rintro f ⟨rfl,hst⟩;have S:=v _ _ e2;have yl:ys.length<=i:=by rw [cD al2];exact Bp
   refine ⟨_,rfl,.inl ⟨rfl,_,aH.of S⟩,_,rfl,o,ys,_,rfl,rfl,S,U1 (m:=100) '%' '!',?_⟩;have tu:bN (kx w) U (upd U o (.lst (ys++[.ref X]))):=bN.lst S;refine ⟨ys++[.ref X],af.keep (s2.trans v) a0,ab,?_,_,_,rfl⟩;rw [tf,show dF (cP m c d.1) l c C d i=some (qH l p i d sv) by unfold dF;rw [ZZ hc,D,N];exact hst];exact AV (bG (λ _ _ z=>(e_.tups (.of v) z).tups tu) al2) (.cons (a4.tups tu) .nil)
  ·rintro σ I ⟨ys,s2,e2,al2,x3,x4,rfl⟩;rw [cl] at al2;exact ⟨_,rfl,q o ys I s2 a0 e2 al2⟩
end
variable {ys:List V}
section
theorem lR (h:m<=ys.length):cw ys none (some (m:Int))=ys.take m/\HT.sIx ys.length 0 none=0/\HT.sIx ys.length ys.length (some (m:Int))=m:=by
 have a:HT.sIx ys.length 0 none=0:=by simp [HT.sIx]
 have b:HT.sIx ys.length ys.length (some (m:Int))=m:=by simp [HT.sIx];rw [Z_ '%'];exact V9 h
 refine ⟨?_,a,b⟩;unfold cw;rw [a,b,Z5,Nat.sub_zero]
end
variable {G:Pl->Prop} {H0:Hp} {a:ZR} {f:ZL->Prop} {ks:List (ZJ×ZR)} {ss:List Sv}
section
def HZ (K:c0):Sp:=λ vs H Q _=>∃(a:ZR) (ns:List Int),vs=[.ref a,.int 0]/\aH K H a (ns.map V.int)/\∀i,Q (.int i) H
def QO (T:TX (kx w) mg):Fo P w mg base CX0 1 342 AG ["script","k"] (HZ (kx w)):=by
 refine (BM w.params).ok NL (λ d H Q E h=>?_) (λ g A f s H d Q E e h=>?_)
 ·obtain ⟨a,b,rfl,_⟩:=h;rfl
 ·obtain ⟨a,b,rfl,c,q⟩:=h;refine ⟨_,(aU (aJ (cL hZ (pv 1) (fg jo rfl (T.no (dq _)) O4 (ao (pv 0) ae)) (aD _))
   (aT (aq (au aj (pv 0) (pv 1) (λ _ _=>rfl))))
   dD)
   (aT (aq ag))),?_⟩
  refine ⟨_,rfl,_,rfl,.inl ⟨a,_,rfl,.inl c,_,_,rfl,rfl,_,rfl,?_⟩⟩;cases b with
  | nil=>exact cK (q 0)
  | cons n b=>rw [ZZ (by simp)];exact ⟨_,rfl,_,rfl,.inl ⟨a,_,0,.int n,rfl,rfl,c,bF (xs:=(n :: b).map V.int) (j:=0) rfl,q n⟩⟩
def bq (H:Hp) (r:ZR) (n:Nat):Prop:=∃a b c:Int,H r=some (.lst [.int a,.int b,.int c])/\0<=b/\b < 2/\0<=c/\c<=n
def bq.same (h:bq H r n) (s:af H H'):bq H' r n:=by obtain ⟨a,b,c,e,z⟩:=h;exact ⟨a,b,c,s _ _ e,z⟩
def bq.fresh (h:bq H r n) (e:H p=none):p≠r:=λ z=>by obtain ⟨a,b,c,d,_⟩:=h;rw [z,d] at e;cases e
structure Dw (r:ZR) (n:Nat) (H H':Hp):Prop where
 k:Kept r H H'
 r:bq H' r n
def Dw.trans (a:Dw r n H H1) (b:Dw r m H1 H2):Dw r m H H2:=⟨a.k.trans b.k,b.r⟩
def Dw.same (a:Dw r n H H1) (s:af H1 H2):Dw r n H H2:=⟨a.k.trans s.kept,a.r.same s⟩
def bq.dw (h:bq H r n):Dw r n H H:=⟨.refl,h⟩
def Dw.free (h:Dw r n H H') (e:H' p=none):H p=none:=by
 cases z:H p with
 | none=>rfl
 | some o=>rw [h.k _ _ (h.r.fresh e) z] at e;cases e
def tw:Sp:=λ vs H Q _=>∃(r:ZR) (m:Int) (n:Nat),vs=[.ref r,.int m]/\bq H r n/\n < 10000/\0 < m/\m < 2 ^ 64/\∀t H',Dw r (n + 1) H H'->0<=t->t < m->Q (.int t) H'
theorem Nj (T:TX (kx w) mg):Fo P w mg base CX0 1 349 zV ["deck","many"] tw:=by
 refine (Cs w.params).ok dH (λ p H Q E h=>?_) (λ D A v s H p Q E u h=>?_)
 ·obtain ⟨r,m,n,rfl,_⟩:=h;rfl
 ·obtain ⟨r,m,n,rfl,⟨a,b,c,e,k,j,l,B⟩,z,f,o,q⟩:=h;refine ⟨_,(aU (aJ (cL cv (au aj (pv 0) ag (λ _ _=>rfl)) ag (aD _))
   (aU (aC (i:=2) dH.nd rfl (E1 rfl) (aO gb (au aj (pv 0) ag (λ _ _=>rfl)) (pv 1)))
   (aU (dU (aO zO (au aj (pv 0) ag (λ _ _=>rfl)) (pv 1)) (fQ (pv 0) ag qN))
   (aT (aq (pv 2)))))
   dD)
   (aU (dU (aO eA (au aj (pv 0) ag (λ _ _=>rfl)) ag) (fQ (pv 0) ag qN))
   (aU (aC (i:=3) dH.nd rfl (E1 rfl) (aO gb (aO eA (aO fZ (aO gb (au aj (pv 0) ag (λ _ _=>rfl)) ag) (aO eA (aO fZ (au aj (pv 0) ag (λ _ _=>rfl)) (au aj (pv 0) ag (λ _ _=>rfl))) ag)) (au aj (pv 0) ag (λ _ _=>rfl))) ag))
   (aU (aC (i:=3) dH.nd rfl (E1 rfl) (aO gb (aO fZ (pv 3) (pv 3)) ag))
   (aT (aq (aO gb (aO zO (aO gb (aO fZ (pv 3) ag) ag) ag) (pv 1)))))))),?_⟩
  refine ⟨_,rfl,.inl ⟨r,_,1,.int b,rfl,rfl,aH.of e,rfl,rfl,_,rfl,?_⟩⟩;refine gf (λ _=>?_) λ _=>?_
  ·refine ⟨_,rfl,.inl ⟨r,_,0,.int a,rfl,rfl,aH.of e,rfl,_,rfl,_,_,rfl,rfl,f,?_⟩⟩;refine ⟨_,rfl,.inl ⟨r,_,0,.int a,rfl,rfl,aH.of e,rfl,_,rfl,_,_,rfl,rfl,⟨f,o⟩,?_⟩⟩;refine ⟨_,rfl,r,_,0,0,rfl,rfl,e,rfl,?_⟩;exact ⟨_,rfl,q _ _ ⟨.set,_,b,c,ab,k,j,l,by lia⟩ (P7 _ '%') (M6 _ f)⟩
  ·refine ⟨_,rfl,.inl ⟨r,_,2,.int c,rfl,rfl,aH.of e,rfl,.inl ⟨_,_,rfl,rfl,?_⟩⟩⟩;refine ⟨_,rfl,r,_,2,2,rfl,rfl,e,rfl,?_⟩;have d:upd H r (.lst ([V.int a,.int b,.int c].set 2 (.int (c + 1)))) r=some (.lst [.int a,.int b,.int (c + 1)]):=ab;have g:Kept r H (upd H r (.lst ([V.int a,.int b,.int c].set 2 (.int (c + 1))))):=.set;generalize upd H r (.lst ([V.int a,.int b,.int c].set 2 (.int (c + 1))))=H2 at d g⊢;have F:0<=a % 2147483647:=P7 _ '!';have y:a % 2147483647 < 2147483647:=M6 _ '!';refine ⟨_,rfl,.inl ⟨r,_,0,.int a,rfl,rfl,aH.of d,rfl,_,_,rfl,rfl,(show (0:Int) < 2147483647 by decide),?_⟩⟩;refine ⟨_,rfl,.inl ⟨r,_,2,.int (c + 1),rfl,rfl,aH.of d,rfl,_,rfl,.inl ⟨r,_,2,.int (c + 1),rfl,rfl,aH.of d,rfl,_,_,rfl,rfl,.inl ⟨by lia,by lia⟩,.inl ⟨_,_,rfl,rfl,?_⟩⟩⟩⟩;refine ⟨_,_,rfl,rfl,.inl ⟨by lia,by lia⟩,_,rfl,.inl ⟨r,_,2,.int (c + 1),rfl,rfl,aH.of d,rfl,.inl ⟨_,_,rfl,rfl,?_⟩⟩⟩;refine ⟨_,_,rfl,rfl,(show (0:Int) < 2147483629 by decide),?_⟩;generalize hx:(a % 2147483647 * ((c + 1) * (c + 1) + 48271) + (c + 1)) % 2147483629=x;have C:0<=x:=by rw [<-hx];exact P7 _ '!'
   have t:x < 2147483629:=by rw [<-hx];exact M6 _ '!'
   refine ⟨_,rfl,_,rfl,_,_,rfl,rfl,.inl ⟨by lia,by lia⟩,_,_,rfl,rfl,(show (0:Int) < 2147483587 by decide),?_⟩;refine ⟨_,rfl,_,_,rfl,rfl,.inr '!',_,_,rfl,rfl,(show (0:Int) < 2147483563 by decide),_,_,rfl,rfl,⟨'!','!'⟩,_,rfl,_,_,rfl,rfl,f,?_⟩;exact q _ _ ⟨g,a,b,c + 1,d,k,j,by lia,by lia⟩ (P7 _ '%') (M6 _ f)
def En:Sp:=λ vs H Q _=>∃(r:ZR) (n:Nat),vs=[.ref r]/\bq H r n/\n < 10000/\∀i H',Dw r (n + 1) H H'->near i->Q (.int i) H'
def MT (T:TX (kx w) mg) (c0:Ca P w mg base "_law_take" ["deck","many"] 1 tw):Fo P w mg base CX0 2 366 x_ ["deck"] En:=by
 refine (yy w.params).ok Kk (λ i H Q E h=>?_) (λ x A p s H i Q E d h=>?_)
 ·obtain ⟨r,n,rfl,_⟩:=h;rfl
 ·obtain ⟨r,n,rfl,R,m,q⟩:=h;refine n_ (nL (qc (jY aj (eG (eh (QE.mk ag) (eh (QE.mk ag) (eh (QE.mk ag) (eh (QE.mk ag) (eh (QE.mk ag) (eh (QE.mk ag) (eh (QE.mk (mq jW ag)) (eh (QE.mk (aO mj ag ag)) eI))))))))) (QE.mk (aB c0 (d.mono '!') rfl (ao (pv 0) (ao ag ae)))) (λ _ _=>rfl)))) ?_;refine ⟨_,rfl,_,_,rfl,rfl,p9,Fm,λ l a=>?_⟩;simp only [e9];refine ⟨_,rfl,r,8,n,rfl,R.same (af.upd a),m,'!','!',λ t u c j g=>?_⟩;obtain ⟨v,e,b⟩:=eP (xs:=[V.int 0,.int 1,.int 2,.int 3,.int 1,.int 2,.int (-1),.int 1000000000]) j g;refine .inl ⟨l,_,t,v,rfl,rfl,aH.of (c.k _ _ (R.fresh a) ab),e,?_⟩;have f:=(R.dw.same (af.upd (o:=.lst [V.int 0,.int 1,.int 2,.int 3,.int 1,.int 2,.int (-1),.int 1000000000]) a)).trans c;simp only [R1,u0,or_false] at b;rcases b with rfl|rfl|rfl|rfl|rfl|rfl|rfl|rfl<;>exact q _ _ f ⟨'!','!'⟩
def DH (K:c0):Sp:=λ vs H Q _=>∃(r:ZR) (k:ZQ) (n:Nat),vs=[.ref r,.str k]/\bq H r n/\n < 9000/\k∈bU/\∀p v x d H' m,Dw r m H H'->m<=n + 3->H' p=some (.tup [.str v,x])->H p=none->bp k v d->bZ K H' d x->cy H' d x->Q (.ref p) H'
theorem Me (T:TX (kx w) mg) (c0:Ca P w mg base "_law_take" ["deck","many"] 1 tw) (c1:Ca P w mg base "_law_worth" ["deck"] 2 En):Fo P w mg base CX0 3 373 BC ["deck","kind"] (DH (kx w)):=by
 refine (zv w.params).ok eS (λ vs H Q E h=>?_) (λ c2 A b6 s H vs Q E u h=>?_)
 ·obtain ⟨r,k,n,rfl,_⟩:=h;rfl
 ·obtain ⟨r,k,n,rfl,R,hn,W,q⟩:=h;refine n_ (gG (iR (i:=2) eS.nd rfl (E1 rfl) (Oy (AJ (QE.mk aA) (eG (eh (QE.mk aA) (eh (QE.mk aA) eI))) (AJ (QE.mk aA) (eG (eh (QE.mk aA) (eh (QE.mk aA) eI))) (AJ (QE.mk aA) (eG (eh (QE.mk aA) (eh (QE.mk aA) eI))) QD))) rfl rfl (by simp) '!'))
   (gG (Am (cQ u) (QE.mk (pv 2)) (QE.mk aA) (eG (eh (QE.mk aA) (eh (QE.mk aA) (eh (QE.mk aA) eI)))) rfl)
   (gG (Am (cQ u) (QE.mk (pv 2)) (QE.mk aA) (eG (eh (QE.mk aA) (eh (QE.mk aA) (eh (QE.mk aA) (eh (QE.mk aA) eI))))) rfl)
   (gG (QS.mk (aC (i:=3) eS.nd rfl (E1 rfl) (au aj (oX (cQ u) (pv 2) (pv 1) (λ _ _=>rfl)) (aB c0 (u.mono '!') rfl (ao (pv 0) (ao (fg jo rfl (T.no (dq _)) O4 (ao (oX (cQ u) (pv 2) (pv 1) (λ _ _=>rfl)) ae)) ae))) (λ _ _=>rfl))))
   (gG (QS.mk (aJ (cL cv (pv 3) aA (aD _))
   (aT (aq (az (ao (pv 3) (ao (az (ao (aB c1 (u.mono '!') rfl (ao (pv 0) ae)) (ao (aB c1 (u.mono '!') rfl (ao (pv 0) ae)) ae))) ae)))))
   dD))
   (gG (QS.mk (aJ (cL oJ (pv 3) (aW (ao aA (ao aA ae))) (by with_unfolding_all rfl))
   (aT (aq (az (ao (pv 3) (ao bw ae)))))
   dD))
   (nL (QS.mk (aq (az (ao (pv 3) (ao (aB c1 (u.mono '!') rfl (ao (pv 0) ae)) ae)))))))))))) ?_
  refine gC ?_;intro p hp;refine ⟨cV,λ S N=>⟨cV,λ l2 h2=>⟨cV,λ l3 Z=>?_⟩⟩⟩;obtain ⟨ep,H2,b2,s2,e2,f2⟩:=pZ (H:=H) (k1:="register") (k2:="counter") (k3:="queue") (w1:=["write","read"]) (w2:=["add","read"]) (w3:=["put","take"]) hp N h2 Z (by decide +kernel) (by decide +kernel) (by decide +kernel);refine ⟨ep,[(.inr "register",.ref S),(.inr "counter",.ref l2),(.inr "queue",.ref l3)],rfl,(show (3:Nat)<=15 by decide),?_⟩;rw [show f_ [] [((.inr "register" : Key),V.ref S),(.inr "counter",.ref l2),(.inr "queue",.ref l3)]=[(.inr "register",.ref S),(.inr "counter",.ref l2),(.inr "queue",.ref l3)] from rfl];refine aF ?_;refine (show∀A,H2=A->gD _ _ _ _ A from ?_) _ b2;intro A G;subst G;refine ⟨nk,λ l4 h4=>⟨_,rfl,p,_,rfl,hJ.k (k:=.inr "set") ((af.upd h4) _ _ e2) (show (3:Nat) < ZE by decide),?_⟩⟩;obtain ⟨H4,a7,W4,k4⟩:=gH.put (k:="set") (ws:=["put","cut","has"]) h4 e2 (n:=3) (o0 _) f2;refine (show∀A,H4=A->gD _ _ _ _ A from ?_) _ a7;intro A G;subst G;obtain ⟨b8,e4,n4,f4⟩:=W4.ex;refine ⟨sr,λ l5 h5=>⟨_,rfl,p,_,rfl,hJ.k (k:=.inr "cell") ((af.upd h5) _ _ e4) (U1 n4 '!'),?_⟩⟩;obtain ⟨M,a9,W5,k5⟩:=gH.put (k:="cell") (ws:=["read","write","swap","swap"]) h5 e4 n4 f4;refine (show∀A,M=A->gD _ _ _ _ A from ?_) _ a9;intro A G;subst G;have s5:af H M:=MX (L:=[p]) ((s2.keptL.trans k4).trans k5) (λ l hl=>by rw [List.mem_singleton.mp hl];exact hp);obtain ⟨b7,e5,_,f5⟩:=W5.ex;have X:=R.dw.same s5;have fk:(if k = "cell" then some ["read","write","swap","swap"] else if k = "set" then some ["put","cut","has"] else if k = "register" then some ["write","read"] else if k = "counter" then some ["add","read"] else if k = "queue" then some ["put","take"] else none:Option (List ZQ))=some (dY k):=by have B:=W;unfold bU at B;simp only [R1,u0,or_false] at B;rcases B with rfl|rfl|rfl|rfl|rfl<;>decide +kernel
  obtain ⟨C,v6,I⟩:=f5 k _ fk;have dg:d_ M p (.str k) (some (.ref C)):=by have:=d_.k (k:=.inr k) e5;rw [v6] at this;exact this
  refine ⟨_,rfl,_,rfl,p,.ref C,rfl,dg,_,rfl,_,rfl,_,rfl,p,.ref C,rfl,dg,.inl ⟨C,_,rfl,.inl (aH.of I),?_⟩⟩;have a5:0 < (dY k).length/\(dY k).length<=4:=by have B:=W;unfold bU at B;simp only [R1,u0,or_false] at B;rcases B with rfl|rfl|rfl|rfl|rfl<;>decide +kernel
  refine ⟨r,_,n,rfl,X.r,by lia,by rw [D0];lia,by rw [D0];lia,λ t7 H7 w7 b0 b1=>?_⟩;obtain ⟨v0,b5,b3⟩:=eP (xs:=(dY k).map V.str) b0 b1;obtain ⟨v,hv,rfl⟩:=List.mem_map.mp b3;have n6:C≠r:=λ z=>by
   obtain ⟨a,b,c,er,_⟩:=X.r;rw [z,er] at I;cases hws:dY k with
   | nil=>rw [hws] at a5;exact ZU a5.1 '!'
   | cons y ys=>rw [hws] at I;cases I
  refine .inl ⟨C,_,t7,_,rfl,rfl,aH.of (w7.k _ _ n6 I),b5,?_⟩;have a6:=X.trans w7;have fr :∀{m:Nat} {H':Hp} {p':ZR},Dw r m H H'->H' p'=none->H p'=none:=λ hw e=>hw.free e;have J:Dw r (n + 1) H H7:=a6;have a1 :∀(d:Dt) (x:V) (g:Hp) (m:Nat),Dw r m H g->m<=n + 3->bp k v d->bZ (kx w) g d x->cy g d x->∀p9,g p9=none->Q (.ref p9) (upd g p9 (.tup [.str v,x])):=λ d x g m f b4 dk ix wi p9 D=>q p9 v x d _ m (f.same (af.upd D)) b4 ab (f.free D) dk (ix.same (af.upd D)) (λ a b e=>(wi a b e).elim λ t z=>⟨t,z.1,(af.upd D) _ _ z.2⟩);rcases Ja W hv with ⟨a4,F⟩|⟨hsw,F⟩|⟨N,h2,Z,F⟩
  ·refine ⟨_,rfl,rfl,_,rfl,bH (by rcases a4 with rfl|rfl<;>decide +kernel) ?_⟩;refine ⟨_,rfl,cV,λ U Y=>⟨U,[V.str "read",.str "take"],rfl,.inl (aH.of ab),rfl,rfl,_,rfl,bz (by rcases a4 with rfl|rfl<;>decide +kernel) ?_⟩⟩;exact ⟨_,rfl,cV,λ p9 D=>a1 .non .non _ _ (J.same (af.upd Y)) '%' F rfl (λ _ _ e=>by cases e) p9 D⟩
  ·subst hsw;refine ⟨_,rfl,rfl,_,rfl,bz (ZY rfl) ?_⟩;refine ⟨_,rfl,_,rfl,r,_,rfl,J.r,by lia,λ i g f K=>⟨_,rfl,r,_,rfl,f.r,by lia,λ j b9 O nj=>⟨cV,λ a3 a8=>⟨cV,λ a2 a0=>?_⟩⟩⟩⟩;exact a1 (.tup [.int i,.int j]) (.ref a3) _ _ (((J.trans f).trans O).same (af.upd a8)) '%' (F i j K nj) (.mkT ab (.mk2 rfl rfl)) (λ a b e=>by cases e;exact ⟨a3,rfl,ab⟩) a2 a0
  ·refine ⟨_,rfl,rfl,_,rfl,bH (by rw [ZX λ e=>Z (by injection e)];decide) ?_⟩;refine ⟨_,rfl,cV,λ U Y=>⟨U,[V.str "read",.str "take"],rfl,.inl (aH.of ab),rfl,rfl,_,rfl,?_⟩⟩;have iv:md (.str v) [.str "read",.str "take"]=decide (v∈(["read","take"]:List ZQ)):=ML v ["read","take"];rw [Z_ N0,iv];refine bH (λ z=>?_) ?_
   ·have:=ZW z;simp only [R1,u0,or_false] at this;rcases this with z|z
    ·exact N z
    ·exact h2 z
   ·have f:=J.same (af.upd (o:=.lst [V.str "read",.str "take"]) Y);exact ⟨_,rfl,_,rfl,r,_,rfl,f.r,by lia,λ i g O K=>⟨cV,λ a2 a0=>a1 (.int i) (.int i) _ _ (f.trans O) '%' (F i K) rfl (λ _ _ e=>by cases e) a2 a0⟩⟩
theorem GB:∀ns:List Int,dS K H (ns.map PyData.int) (ns.map V.int)
 | []=>rfl
 | n :: ns=>⟨.int n,ns.map V.int,rfl,rfl,GB ns⟩
theorem GR:∀ns:List Int,ir (ns.map PyData.int)=true
 | []=>rfl
 | n :: ns=>by show (true && ir (ns.map PyData.int))=true;rw [GR ns];rfl
theorem CV:∀ns:List Int,D2 (ns.map PyData.int)<=1
 | []=>by decide
 | n :: ns=>by have:=CV ns;show max (j19 (.int n)) (D2 (ns.map PyData.int))<=1;exact Nat.max_le.mpr ⟨(show (0:Nat)<=1 by decide),this⟩
def Iv (K:c0):Sp:=λ vs H Q _=>∃(k v:ZQ) (st x:V) (d:Dt) (n:Nat) (sv:Sv),vs=[.str k,st,.str v,x]/\cS n k sv/\gK K H sv st/\n < 63/\bp k v d/\bZ K H d x/\cy H d x/\∀p st' H',af H H'->H' p=some (.tup [st',(dz k v d sv).2])->gK K H' (dz k v d sv).1 st'->Q (.ref p) H'
theorem Nb (T:TX (kx w) mg):Fo P w mg base CX0 1 354 AD ["kind","state","verb","worth"] (Iv (kx w)):=by
 refine (CC w.params).ok gM (λ vs H Q E h=>?_) (λ b4 A b3 s H vs Q E hr h=>?_)
 ·obtain ⟨k,v,G,x,d,n,sv,rfl,_⟩:=h;rfl
 ·obtain ⟨k,v,G,x,d,n,sv,rfl,C,sz,hn,hd,M,wi,q⟩:=h;refine ⟨_,(aU (aJ (cL cv (pv 2) aA (aD _))
   (aT (aq (az (ao (pv 1) (ao (pv 1) ae)))))
   dD)
   (aU (aJ (cL cv (pv 2) aA (aD _))
   (aT (aq (az (ao (pv 3) (ao aA ae)))))
   dD)
   (aU (aJ (cL cv (pv 2) aA (aD _))
   (aT (aq (az (ao (aO eA (pv 1) (pv 3)) (ao (pv 1) ae)))))
   dD)
   (aU (aJ (cL cv (pv 2) aA (aD _))
   (aT (aq (au aj (aW (ao (az (ao (pv 1) (ao ag ae))) (ao (az (ao (au aj (pv 3) ag (λ _ _=>rfl)) (ao ag ae))) ae))) (kO By rfl (T.no (jZ _)) boot_int (ao (iA cv (pv 1) (au aj (pv 3) ag (λ _ _=>rfl)) (aD _)) ae)) (λ _ _=>rfl))))
   dD)
   (aU (aJ (cL cv (pv 2) aA (aD _))
   (aU (aJ (cL (rH hr) (pv 1) (az ae) (aD _))
   (aT (aq (az (ao (pv 1) (ao aA ae)))))
   dD)
   (aT (aq (az (ao (nQ gn (pv 1) (lq ag) nP) (ao (au aj (pv 1) ag (λ _ _=>rfl)) ae))))))
   dD)
   (aU (aJ (cL cv (pv 0) aA (aD _))
   (aT (aq (az (ao (aO xT (pv 1) (az (ao (pv 3) ae))) (ao aA ae)))))
   dD)
   (aU (aC (i:=4) gM.nd rfl (E1 rfl) (iA oJ (pv 3) (pv 1) (by with_unfolding_all rfl)))
   (aU (aJ (PW.pt (gR (cL cv (pv 2) aA (aD _)) (xi (eR (bS (pv 4) (λ _=>rfl))))))
   (aT (aq (az (ao (kO ny rfl (T.no (lG _)) A5 (ao (fg xo rfl (T.no (qv _)) W7 (ao (aO xT (pv 1) (az (ao (pv 3) ae))) ae)) ae)) (ao ag ae)))))
   dD)
   (aU (aJ (cL cv (pv 2) aA (aD _))
   (aT (aq (az (ao (pv 1) (ao ag ae)))))
   dD)
   (aU (aJ (cL cv (pv 2) aA (aD _))
   (aT (aq (az (ao (kO ny rfl (T.no (lG _)) A5 (ao (eE (xs:=["one"]) (g:=bu 0) (fr:=[(3,"worth")]) (fD (pv 1)) (λ _ _ _ _ _=>(bT (N:=["one","worth"]) 0)) (λ _ _ _ _ _=>(fq (cL tN (pv 0) (pv 1) (aD _)))) (λ _ _ _ _ _=>(pv 0))) ae)) (ao (kO By rfl (T.no (jZ _)) boot_int (ao (pv 4) ae)) ae)))))
   dD)
   (aT (aq (az (ao (pv 1) (ao (kO By rfl (T.no (jZ _)) boot_int (ao (pv 4) ae)) ae))))))))))))))),?_⟩
  have big :∀{b:List Int},b.length<=n->(b.map V.int).length + 1<=ZE:=λ l=>by rw [D0];exact C0 (m:=64) '%' '!'
  have a2 :∀(b:List Int) (i:Int),b.map V.int++[V.int i]=(b++[i]).map V.int:=λ b i=>by rw [N1];rfl
  have a4:cT "queue":=.inl rfl;have Z:cT "set":=.inr rfl;cases hd with
  | regR=>
   have B:¬ cT "register":=by decide +kernel
   obtain ⟨a,rfl,_,_⟩:=C.isNum B;cases (show G=V.int a from sz);rw [yn] at q;refine ⟨_,rfl,rfl,_,rfl,bz (ZY rfl) ?_⟩;exact ⟨_,rfl,_,rfl,cV,λ p c=>q p _ _ (af.upd c) ab rfl⟩
  | cntR=>
   have B:¬ cT "counter":=by decide +kernel
   obtain ⟨a,rfl,_,_⟩:=C.isNum B;cases (show G=V.int a from sz);rw [Aw] at q;refine ⟨_,rfl,rfl,_,rfl,bz (ZY rfl) ?_⟩;exact ⟨_,rfl,_,rfl,cV,λ p c=>q p _ _ (af.upd c) ab rfl⟩
  | celR=>
   have B:¬ cT "cell":=by decide +kernel
   obtain ⟨a,rfl,_,_⟩:=C.isNum B;cases (show G=V.int a from sz);rw [Cd] at q;refine ⟨_,rfl,rfl,_,rfl,bz (ZY rfl) ?_⟩;exact ⟨_,rfl,_,rfl,cV,λ p c=>q p _ _ (af.upd c) ab rfl⟩
  | regW ni=>
   rename_i i;have B:¬ cT "register":=by decide +kernel
   obtain ⟨a,rfl,_,_⟩:=C.isNum B;cases (show G=V.int a from sz);cases (show x=V.int i from M);rw [zI] at q;refine ⟨_,rfl,rfl,_,rfl,bB ⟨_,rfl,rfl,_,rfl,bz (ZY rfl) ?_⟩⟩;exact ⟨_,rfl,cV,λ p c=>q p _ _ (af.upd c) ab rfl⟩
  | celW ni=>
   rename_i i;have B:¬ cT "cell":=by decide +kernel
   obtain ⟨a,rfl,_,_⟩:=C.isNum B;cases (show G=V.int a from sz);cases (show x=V.int i from M);rw [zQ] at q;refine ⟨_,rfl,rfl,_,rfl,bB ⟨_,rfl,rfl,_,rfl,bz (ZY rfl) ?_⟩⟩;exact ⟨_,rfl,cV,λ p c=>q p _ _ (af.upd c) ab rfl⟩
  | cntA ni=>
   rename_i i;have B:¬ cT "counter":=by decide +kernel
   obtain ⟨a,rfl,_,_⟩:=C.isNum B;cases (show G=V.int a from sz);cases (show x=V.int i from M);rw [zr] at q;refine ⟨_,rfl,rfl,_,rfl,bB ⟨_,rfl,rfl,_,rfl,bB ⟨_,rfl,rfl,_,rfl,bz (ZY rfl) ?_⟩⟩⟩;exact ⟨_,rfl,_,rfl,.inl ⟨a,i,rfl,rfl,_,rfl,cV,λ p c=>q p _ _ (af.upd c) ab rfl⟩⟩
  | celS ni nj=>
   rename_i i j;have B:¬ cT "cell":=by decide +kernel
   obtain ⟨a,rfl,_,_⟩:=C.isNum B;cases (show G=V.int a from sz);obtain ⟨t,rfl,et⟩:=wi i j rfl;refine ⟨_,rfl,rfl,_,rfl,bB ⟨_,rfl,rfl,_,rfl,bB ⟨_,rfl,rfl,_,rfl,bB ⟨_,rfl,rfl,_,rfl,bz (ZY rfl) ?_⟩⟩⟩⟩;refine ⟨_,rfl,cV,λ e L=>?_⟩;obtain ⟨H1,v_,D,X⟩:=eZ (.tup [.int a,.int 0]) L;rw [<-v_];refine ⟨_,rfl,.inr (.inl ⟨t,_,1,.int j,rfl,rfl,aG.of (D _ _ et),bF (j:=1) rfl,cV,λ u a9=>?_⟩)⟩;have J:=af.upd (o:=.tup [.int j,.int 1]) a9;have e2:upd H1 u (.tup [.int j,.int 1]) u=some (.tup [.int j,.int 1]):=ab;have a3:=J _ _ X;generalize upd H1 u (.tup [.int j,.int 1])=W at J e2 a3⊢;refine ⟨cV,λ l hl=>?_⟩;have F:=af.upd (o:=.lst [.ref e,.ref u]) hl;have Y:upd W l (.lst [.ref e,.ref u]) l=some (.lst [.ref e,.ref u]):=ab;have a5:=F _ _ a3;have a7:=F _ _ e2;generalize upd W l (.lst [.ref e,.ref u])=H3 at F Y a5 a7⊢;have sx:=(D.trans J).trans F;refine ⟨_,rfl,_,rfl,.inr (.inl ⟨t,_,0,.int i,rfl,rfl,aG.of (sx _ _ et),bF (j:=0) rfl,rfl,.inl (.inr ⟨_,rfl,?_⟩)⟩)⟩;by_cases z:decide (V.int a=V.int i)=true
   ·rw [xp,ZZ (V.int.inj (ZW z))] at q;exact .inl ⟨l,_,_,.ref u,rfl,rfl,aH.of Y,by rw [ZZ z];rfl,q u _ _ sx a7 rfl⟩
   ·rw [xp,Z_ λ y=>z (ZY (ZT V.int y))] at q;exact .inl ⟨l,_,_,.ref e,rfl,rfl,aH.of Y,by rw [Z_ z];rfl,q e _ _ sx a5 rfl⟩
  | quT=>
   obtain ⟨b,rfl,I,_,_⟩:=C.isRow a4;obtain ⟨t,rfl,f⟩:=sz;refine ⟨_,rfl,rfl,_,rfl,bB ⟨_,rfl,rfl,_,rfl,bB ⟨_,rfl,rfl,_,rfl,bB ⟨_,rfl,rfl,_,rfl,bB ⟨_,rfl,rfl,_,rfl,bz (ZY rfl) ?_⟩⟩⟩⟩⟩;refine ⟨_,rfl,jq,λ p0 b1=>?_⟩;have O:=af.upd (o:=.tup []) b1;refine ⟨.tuple (b.map PyData.int),.tuple [],⟨t,_,rfl,O.seqT f,GB b⟩,⟨p0,[],rfl,aG.of ab,rfl⟩,GR b,rfl,C0 (Nat.add_le_add_right (CV b) 1) '!',_,rfl,?_⟩;generalize upd H p0 (.tup [])=H0 at O⊢;have a0:=O.seqT f;cases b with
   | nil=>rw [y3] at q;exact bz rfl ⟨_,rfl,cV,λ p c=>q p _ _ (O.trans (af.upd c)) ab ⟨t,rfl,(af.upd c).seqT a0⟩⟩
   | cons m r=>
    refine bH N0 ?_;refine ⟨_,rfl,_,rfl,.inr (.inl ⟨t,_,rfl,a0,?_,λ e L=>?_⟩)⟩
    ·intro z;have:HT.sIx ((m :: r).map V.int).length 0 (some 1)=1:=by rw [D0,U0];simp [HT.sIx]
     lia
    ·have ec:cw ((m :: r).map V.int) (some 1) none=r.map V.int:=by unfold cw;simp [HT.sIx];exact D4 (by rw [D0];exact o0 _)
     have D:=af.upd (o:=.tup (cw ((m :: r).map V.int) (some 1) none)) L;have X:upd H0 e (.tup (cw ((m :: r).map V.int) (some 1) none)) e=some (.tup (r.map V.int)):=by rw [ab,ec]
     generalize upd H0 e (.tup (cw ((m :: r).map V.int) (some 1) none))=H1 at D X⊢;refine ⟨_,rfl,.inr (.inl ⟨t,_,0,.int m,rfl,rfl,D.seqT a0,bF (j:=0) rfl,cV,λ p c=>?_⟩)⟩;rw [jR] at q;exact q p _ _ ((O.trans D).trans (af.upd c)) ab ⟨e,rfl,(af.upd c).seqT (aG.of X)⟩
  | quP ni=>rename_i i;obtain ⟨b,rfl,I,_,_⟩:=C.isRow a4;obtain ⟨t,rfl,f⟩:=sz;cases (show x=V.int i from M);refine ⟨_,rfl,rfl,_,rfl,bB ⟨_,rfl,rfl,_,rfl,bB ⟨_,rfl,rfl,_,rfl,bB ⟨_,rfl,rfl,_,rfl,bB ⟨_,rfl,rfl,_,rfl,bB ⟨_,rfl,rfl,_,rfl,bz (ZY rfl) ?_⟩⟩⟩⟩⟩⟩;refine ⟨_,rfl,_,rfl,lC,λ e L=>?_⟩;have D:=af.upd (o:=.tup [.int i]) L;refine ⟨t,e,b.map V.int,[.int i],rfl,rfl,D.seqT f,aG.of ab,big I,λ u W J S=>?_⟩;rw [a2] at S;rw [jV] at q;exact ⟨cV,λ p3 a8=>q p3 _ _ ((D.trans J).trans (af.upd a8)) ab ⟨u,rfl,(af.upd a8).seqT S⟩⟩
  | setP ni=>
   rename_i i;obtain ⟨b,rfl,I,_,a6⟩:=C.isRow Z;obtain ⟨t,rfl,f⟩:=sz;cases (show x=V.int i from M);refine ⟨_,rfl,rfl,_,rfl,bB ⟨_,rfl,rfl,_,rfl,bB ⟨_,rfl,rfl,_,rfl,bB ⟨_,rfl,rfl,_,rfl,bB ⟨_,rfl,rfl,_,rfl,bB ⟨_,rfl,rfl,_,rfl,bB ?_⟩⟩⟩⟩⟩⟩;refine ⟨_,rfl,_,rfl,t,_,rfl,.inr f,rfl,sd b,?_⟩;rw [Z_ N0,sf];refine ⟨_,rfl,rfl,_,rfl,bz (ZY rfl) ⟨_,rfl,_,rfl,?_⟩⟩;by_cases hi:i∈b
   ·rw [ZY hi];refine bH '!' ⟨_,rfl,rfl,_,rfl,bz (ZY rfl) ?_⟩;rw [xX,ZZ hi] at q;exact ⟨_,rfl,cV,λ p c=>q p _ _ (af.upd c) ab ⟨t,rfl,(af.upd c).seqT f⟩⟩
   ·rw [ZX hi];refine bz rfl ?_;refine ⟨_,rfl,_,rfl,lC,λ e L=>?_⟩;have D:=af.upd (o:=.tup [.int i]) L;refine ⟨t,e,b.map V.int,[.int i],rfl,rfl,D.seqT f,aG.of ab,big I,λ u W J S=>?_⟩;rw [a2] at S;refine ⟨u,b++[i],rfl,.inr S,by rw [L0];exact (show b.length + 1 < 64 by lia),λ l b2 hl pm pw=>?_⟩;have F:=af.upd (o:=.lst (b2.map V.int)) hl;refine ⟨l,_,rfl,.inl ⟨aH.of ab,λ p4 a1=>⟨cV,λ p5 U=>?_⟩⟩⟩;rw [xX,Z_ hi] at q;rw [FT (pm.trans (ye _).symm) pw (AC _)] at *;exact q p5 _ _ ((((D.trans J).trans F).trans (af.upd a1)).trans (af.upd U)) ab ⟨p4,rfl,aG.of ((af.upd U) _ _ ab)⟩
  | setC ni=>
   rename_i i;obtain ⟨b,rfl,I,_,a6⟩:=C.isRow Z;obtain ⟨t,rfl,f⟩:=sz;cases (show x=V.int i from M);refine ⟨_,rfl,rfl,_,rfl,bB ⟨_,rfl,rfl,_,rfl,bB ⟨_,rfl,rfl,_,rfl,bB ⟨_,rfl,rfl,_,rfl,bB ⟨_,rfl,rfl,_,rfl,bB ⟨_,rfl,rfl,_,rfl,bB ?_⟩⟩⟩⟩⟩⟩;refine ⟨_,rfl,_,rfl,t,_,rfl,.inr f,rfl,sd b,?_⟩;rw [Z_ N0,sf];refine ⟨_,rfl,rfl,_,rfl,bB ?_⟩;refine bH N0 ⟨_,rfl,rfl,_,rfl,bB ⟨_,rfl,rfl,_,rfl,bz (ZY rfl) ?_⟩⟩;have zl:(b.map V.int).length<=ZE:=C0 (S3 _) (big I);simp only [kW,kN,nU,eu,gz];refine sg (K:=KX w.params) (a:=t) (xs:=b.map V.int) (H1:=H) (λ j=>(b[j]?.map λ n=>!decide (n=i)).getD false) (λ j y _=>b[j]?.map V.int=some y) (λ _ _ _ _ _ z=>z) (λ R h=>⟨_,rfl,h⟩) f zl (λ j hj v H' s' hv KT KF k1 k2=>?_) λ l H' ys s' b0 al=>?_
   ·rw [Z0] at hv;obtain ⟨n,hn,rfl⟩:=Option.map_eq_some_iff.mp hv;rw [hn] at k1 k2;refine ⟨[some (.int n)],rfl,rfl,_,rfl,_,rfl,rfl,_,rfl,?_⟩;rw [my];exact gf (λ z=>⟨_,rfl,k1 z _ _ (af.refl _) rfl⟩) λ z=>k2 (Bool.eq_false_iff.mpr z) _ (af.refl _)
   ·rw [D0] at al;rw [xP b ys al];have F:=af.upd (o:=.lst ((b.filter λ j=>!decide (j=i)).map V.int)) b0;refine ⟨l,_,rfl,.inl ⟨aH.of ab,λ p4 a1=>⟨_,rfl,.inl (.inr ⟨_,rfl,cV,λ p5 U=>?_⟩)⟩⟩⟩;rw [zF] at q;exact q p5 _ _ (((s'.trans F).trans (af.upd a1)).trans (af.upd U)) (ab.trans (by simp)) ⟨p4,rfl,aG.of ((af.upd U) _ _ ab)⟩
  | setH ni=>rename_i i;obtain ⟨b,rfl,I,_,a6⟩:=C.isRow Z;obtain ⟨t,rfl,f⟩:=sz;cases (show x=V.int i from M);refine ⟨_,rfl,rfl,_,rfl,bB ⟨_,rfl,rfl,_,rfl,bB ⟨_,rfl,rfl,_,rfl,bB ⟨_,rfl,rfl,_,rfl,bB ⟨_,rfl,rfl,_,rfl,bB ⟨_,rfl,rfl,_,rfl,bB ?_⟩⟩⟩⟩⟩⟩;refine ⟨_,rfl,_,rfl,t,_,rfl,.inr f,rfl,sd b,?_⟩;rw [Z_ N0,sf];refine ⟨_,rfl,rfl,_,rfl,bB ?_⟩;refine bH N0 ⟨_,rfl,rfl,_,rfl,bB ⟨_,rfl,rfl,_,rfl,bB ?_⟩⟩;rw [zm] at q;exact ⟨_,rfl,_,rfl,.inl (.inr ⟨_,rfl,cV,λ p c=>q p _ _ (af.upd c) (ab.trans (by simp)) ⟨t,rfl,(af.upd c).seqT f⟩⟩)⟩
def mX (a:V):Prop:=(∃i,a=.int i)\/a=.str "ok"\/a=.str "none"
def jr.ansI {a:V} (h:jr a):mX a:=by
 rcases h with h|h|⟨i,h,_⟩
 ·exact .inr (.inl h)
 ·exact .inr (.inr h)
 ·exact .inl ⟨i,h⟩
def iw (K:c0) (H:Hp) (p:ZR) (ts:List (ZQ×ZQ)) (n:Nat) (ss:List Sv):Prop:=∃vs,aG K H p vs/\av (gK K H) ss vs/\av (λ (t:ZQ×ZQ) s=>cS n t.2 s) ts ss
def iw.tups (t:bN K H H') (h:iw K H p ts n ss):iw K H' p ts n ss:=h.elim λ a z=>⟨a,t _ _ z.1,bG (λ _ _ y=>y.tups t) z.2.1,z.2.2⟩
def g_ (K:c0) (H:Hp) (p:ZR) (ts:List (ZQ×ZQ)) (n:Nat):Prop:=∃ss,iw K H p ts n ss
def g_.tups (t:bN K H H') (h:g_ K H p ts n):g_ K H' p ts n:=h.elim λ a z=>⟨a,z.tups t⟩
def g_.le (l:n<=m) (h:g_ K H p ts n):g_ K H p ts m:=h.elim λ a z=>⟨a,z.elim λ b y=>⟨b,y.1,y.2.1,bG (λ _ _ x=>cS.le l x) y.2.2⟩⟩
def iP (H:Hp) (k:ZQ) (v:V):Prop:=(cT k/\∃a,v=.ref a/\H a=some (.tup []))\/(¬ cT k/\v=.int 0)
def iP.same {k:ZQ} (s:af H H') (h:iP H k v):iP H' k v:=h.imp (λ z=>⟨z.1,z.2.elim λ a y=>⟨a,y.1,s _ _ y.2⟩⟩) id
def wt (H:Hp) (p:ZR) (ts:List (ZQ×ZQ)):Prop:=∃vs,H p=some (.tup vs)/\av (λ (t:ZQ×ZQ) y=>iP H t.2 y) ts vs
def iP.stz {k:ZQ} (h:iP H k v):gK K H (aS k) v:=by
 unfold aS;rcases h with ⟨b,a,rfl,c⟩|⟨b,rfl⟩
 ·rw [ZZ b];exact ⟨a,rfl,aG.of c⟩
 ·rw [Z_ b];rfl
def Mz {α β γ:Type} {R:β->γ->Prop} {f:α->β} {xs:List α} {ys:List γ} (h:av (λ x y=>R (f x) y) xs ys):av R (xs.map f) ys:=by
 induction h with
 | nil=>exact .nil
 | cons a r ih=>exact .cons a ih
theorem HS:∀{ts:List (ZQ×ZQ)},av (λ (t:ZQ×ZQ) s=>cS 0 t.2 s) ts (ts.map λ t=>aS t.2)
 | []=>.nil
 | _ :: _=>.cons (Dv _) HS
def wt.stz (h:wt H p ts):iw K H p ts 0 (ts.map λ t=>aS t.2):=h.elim λ a z=>⟨a,aG.of z.1,Mz (bG (λ _ _ y=>y.stz) z.2),HS⟩
def wt.sts (h:wt H p ts):g_ K H p ts 0:=⟨_,h.stz⟩
theorem Ih:∀{ts:List (ZQ×ZQ)} {ys zs:List V},av (λ (t:ZQ×ZQ) y=>∃b,y=.ref b/\H b=some (.tup [.str t.1,.str t.2])) ts ys->av (λ x y=>∃(n k:ZQ) (b:ZR),x=.ref b/\H b=some (.tup [.str n,.str k])/\iP H k y) ys zs->av (λ (t:ZQ×ZQ) y=>iP H t.2 y) ts zs
 | [],_,_,.nil,.nil=>.nil
 | t :: ts,_,_,.cons a r,.cons a' r'=>by
  refine .cons ?_ (Ih r r');obtain ⟨b,rfl,g⟩:=a;obtain ⟨n,k,i,d,c,f⟩:=a';cases d;rw [g] at c;injection c with c;injection c with c;have e:t.2=k:=by injection c with _ h;injection h with h _;injection h
  rw [e];exact f
def zd (K:c0):Sp:=λ vs H Q _=>∃(pt:ZR) (ts:List (ZQ×ZQ)),vs=[.ref pt]/\hO H pt ts/\ts.length<=6/\∀p H',af H H'->wt H' p ts->Q (.ref p) H'
def Mm (T:TX (kx w) mg):Fo P w mg base CX0 1 359 Cv ["things"] (zd (kx w)):=by
 refine (BA w.params).ok JQ (λ vs H Q E h=>?_) (λ a9 A a8 s H vs Q E Y h=>?_)
 ·obtain ⟨pt,X,rfl,_⟩:=h;rfl
 ·obtain ⟨pt,X,rfl,⟨O,a2,D⟩,a5,q⟩:=h;refine ⟨_,(aT (aq (kO ny rfl (T.no (lG _)) A5 (ao (eE (xs:=["name","kind"]) (g:=iK (kx w) 2 (dh (bu 0) (dh (bu 1) iC))) (fr:=[]) (fD (pv 0)) (λ _ _ _ _ _=>(bQ rfl (eW (bT (N:=["name","kind"]) 0) (eW (bT (N:=["name","kind"]) 1) iW)))) (λ _ _ _ _ _=>fF) (λ _ _ _ _ _=>(Lz (cQ Y) (GK (Bs aA (az ae) (Bs aA (az ae) Fp)) rfl rfl (by simp) '!') (pv 1) ag ⟨rfl,rfl,rfl,rfl⟩))) ae)))),?_⟩;refine FQ ?_;refine DO (S:=af) (K:=KX w.params) (a:=pt) (xs:=O) (λ x y H=>∃(n k:ZQ) (b:ZR),x=.ref b/\H b=some (.tup [.str n,.str k])/\iP H k y) (af.refl _) (λ _ _ _ a b=>a.trans b) (λ _ _=>af.refl _) ?_ (λ R h=>⟨_,rfl,h⟩) (λ H' s'=>s'.seqT (aG.of a2)) (C0 (K5 (cD D)) (C0 a5 '!')) ?_ ?_
  ·rintro x y j l i ⟨n,k,b,G,B,e3⟩;exact ⟨n,k,b,G,i _ _ B,e3.same i⟩
  ·intro v Z j u KT a6 KF;obtain ⟨m,hm⟩:=List.mem_iff_getElem?.mp Z;obtain ⟨t,ht,b,rfl,eb⟩:=fJ D hm;have I:=u _ _ eb;refine ⟨b,_,rfl,aG.of I,rfl,_,_,rfl,_,_,rfl,rfl,[some (.str t.1),some (.str t.2)],rfl,rfl,cN ?_⟩;intro p W;refine ⟨jq,λ f M=>⟨jq,λ d C=>?_⟩⟩;have F:p≠f:=fK ab M;have J:p≠d:=fK (by rw [ak F];exact ab) C;have a0:f≠d:=fK ab C;refine ⟨by rw [ak J,ak F];exact ab,[(.inr "queue",.ref f),(.inr "set",.ref d)],rfl,(show (2:Nat)<=15 by decide),?_⟩;rw [show f_ [] [((.inr "queue" : Key),V.ref f),(.inr "set",.ref d)]=[(.inr "queue",.ref f),(.inr "set",.ref d)] from rfl];generalize hH4:upd (upd (upd (upd j p (.dK [])) f (.tup [])) d (.tup [])) p (.dK [(.inr "queue",.ref f),(.inr "set",.ref d)])=l;have L:l p=some (.dK [(.inr "queue",.ref f),(.inr "set",.ref d)]):=by rw [<-hH4];exact ab
   have G:l f=some (.tup []):=by rw [<-hH4,ak F.symm,ak a0];exact ab
   have B:l d=some (.tup []):=by rw [<-hH4,ak J.symm];exact ab
   have i:af j l:=λ c o e=>by rw [<-hH4,ak (fK e W)];exact ((((af.upd W).trans (af.upd M)).trans (af.upd C))) c o e
   refine ⟨p,rfl,.inl ⟨_,.inl L⟩,_,rfl,_,d_.k (k:=.inr t.2) L,?_⟩;refine a6 _ _ i ⟨t.1,t.2,b,rfl,i _ _ I,?_⟩;by_cases z1:t.2 = "queue"
   ·rw [z1,jb rfl];exact .inl ⟨.inl rfl,_,rfl,G⟩
   ·rw [iS (λ e=>z1 (K9 e).symm)];by_cases z2:t.2 = "set"
    ·rw [z2,jb rfl];exact .inl ⟨.inr rfl,_,rfl,B⟩
    ·rw [iS (λ e=>z2 (K9 e).symm)];exact .inr ⟨λ h=>h.elim z1 z2,rfl⟩
  ·intro l3 j r u a7 a4;refine ⟨l3,r,rfl,.inl ⟨aH.of ab,λ p4 a3=>?_⟩⟩;have a1:av (λ (t:ZQ×ZQ) y=>∃b,y=.ref b/\j b=some (.tup [.str t.1,.str t.2])) X O:=bG (λ _ _ z=>z.elim λ b y=>⟨b,y.1,u _ _ y.2⟩) D;have U:=(af.upd (o:=.lst r) a7).trans (af.upd (o:=.tup r) a3);exact q p4 _ (u.trans U) ⟨r,ab,bG (λ _ _ z=>z.same U) (Ih a1 a4)⟩
def JA {tl:TE} {fr:List (Nat×ZQ)} {g:TG} {tc:TT} {te:TE} (Pr:ZR->Hp->Prop) (h1 :∀R:VK,(∀l H1,Pr l H1->R (.ref l) H1)->tl σ H R) (h2 :∀l H1,Pr l H1->cH (ij K λ _ _ R=>R (.ref l) H1) m fr g tc te σ H Q):cH (ij K tl) m fr g tc te σ H Q:=h1 _ λ l H1 p=>h2 l H1 p
def rK {N:String} {r:V->List V->Hp->VK->Prop} {to:TE} {t:TA} {g:TG} {rest:TS} (h:to σ H λ x H1=>wK K N x H1/\t σ H1 λ xs H2=>r x xs H2 λ y H3=>g y σ H3 (rest D)):gD (jF (tD K N r to t) g) rest D σ H:=h
def eK (K:c0) (H:Hp) (ts:List (ZQ×ZQ)) (p:ZR):Prop:=∃(nm vb:ZQ) (x a:V) (k:ZQ) (d:Dt),H p=some (.lst [.str nm,.str vb,x,a])/\(nm,k)∈ts/\bp k vb d/\bZ K H d x/\cy H d x/\(a=.non\/mX a)
theorem Ff:∀{ts:List (ZQ×ZQ)} {ys zs:List V},av (λ (t:ZQ×ZQ) y=>∃b,y=.ref b/\H b=some (.tup [.str t.1,.str t.2])) ts ys->av (λ x y=>∃(n k:ZQ) (b:ZR),x=.ref b/\H b=some (.tup [.str n,.str k])/\y=.str n) ys zs->zs=(ts.map (·.1)).map V.str
 | [],_,_,.nil,.nil=>rfl
 | t :: ts,_,_,.cons a r,.cons a' r'=>by
  rw [Ff r r'];obtain ⟨b,rfl,f⟩:=a;obtain ⟨n,k,g,d,c,rfl⟩:=a';cases d;rw [f] at c;injection c with c;injection c with c;have e:t.1=n:=by injection c with h _;injection h
  rw [<-e];rfl
theorem Hu {α β:Type} {R S:α->β->Prop} {y:β} :∀{xs:List α} {ys:List β} {j:Nat} {x:α},(∀a b,R a b->S a b)->av R xs ys->xs[j]? = some x->S x y->av S xs (ys.set j y)
 | _,_,_,_,_,.nil,e,_=>by simp at e
 | _,_,0,x,f,.cons a r,e,h=>by rw [E3] at e;cases e;exact .cons h (bG f r)
 | _,_,j + 1,x,f,.cons a r,e,h=>by rw [N2] at e;exact .cons (f _ _ a) (Hu f r e h)
theorem ES {α β:Type} {R S:α->β->Prop} {y:β} :∀{xs:List α} {ys:List β} {j:Nat} {x x':α},(∀a b,R a b->S a b)->av R xs ys->xs[j]? = some x'->S x y->av S (xs.set j x) (ys.set j y)
 | _,_,_,_,_,_,.nil,e,_=>by simp at e
 | _,_,0,x,_,f,.cons a r,_,h=>.cons h (bG f r)
 | _,_,j + 1,x,_,f,.cons a r,e,h=>by rw [N2] at e;exact .cons (f _ _ a) (ES f r e h)
theorem rZ (h:m < ys.length):cw ys none (some (m:Int))=ys.take m/\cw ys (some ((m:Int) + 1)) none=ys.drop (m + 1)/\HT.sIx ys.length ys.length (some (m:Int))=m/\HT.sIx ys.length 0 (some ((m:Int) + 1))=m + 1:=by
 obtain ⟨c,_,a⟩:=lR (X2 h);have b:HT.sIx ys.length 0 (some ((m:Int) + 1))=m + 1:=by
  simp [HT.sIx];rw [Z_ '%']
  lia
 refine ⟨c,?_,a,b⟩;unfold cw;rw [b,show HT.sIx ys.length ys.length none=ys.length by simp [HT.sIx]];exact D4 (by rw [Z4];exact o0 _)
def OA (h:m < ys.length):ys.take m++[y]++ys.drop (m + 1)=ys.set m y:=by rw [N6,ZZ h];simp
def AO (K:c0):Sp:=λ vs H Q _=>∃(pt ps po:ZR) (ts:List (ZQ×ZQ)) (n:Nat) (ss:List Sv) (nm vb:ZQ) (x a0:V) (k:ZQ) (d:Dt),vs=[.ref pt,.ref ps,.ref po]/\hO H pt ts/\jT ts/\iw K H ps ts n ss/\n < 63/\H po=some (.lst [.str nm,.str vb,x,a0])/\(nm,k)∈ts/\bp k vb d/\bZ K H d x/\cy H d x/\∀p H' s,ss[gJ ts nm]? = some s->aK [po] H H'->H' po=some (.lst [.str nm,.str vb,x,(dz k vb d s).2])->iw K H' p ts (n + 1) (ss.set (gJ ts nm) (dz k vb d s).1)->cS n k s->Q (.ref p) H'
theorem PZ (T:TX (kx w) mg) (c0:Ca P w mg base "_law_do" ["kind","state","verb","worth"] 1 (Iv (kx w))):Fo P w mg base CX0 2 383 Ah ["things","states","own"] (AO (kx w)):=by
 refine (BL w.params).ok cx (λ f H Q E h=>?_) (λ e0 A d8 s H f Q E hr h=>?_)
 ·obtain ⟨pt,W,l,B,n,ss,u,C,x,a0,k,d,rfl,_⟩:=h;rfl
 ·obtain ⟨pt,W,l,B,n,ss,u,C,x,a0,k,d,rfl,⟨yt,b3,U⟩,ok,⟨f,a6,a3,a1⟩,hn,M,hm,dk,ix,wi,q⟩:=h;refine ⟨_,(aU (aC (i:=3) cx.nd rfl (E1 rfl) (FI (eE (xs:=["name","kind"]) (g:=iK (kx w) 2 (dh (bu 0) (dh (bu 1) iC))) (fr:=[]) (fD (pv 0)) (λ _ _ _ _ _=>(bQ rfl (eW (bT (N:=["name","kind"]) 0) (eW (bT (N:=["name","kind"]) 1) iW)))) (λ _ _ _ _ _=>fF) (λ _ _ _ _ _=>(pv 0))) (ao (au aj (pv 2) ag (λ _ _=>rfl)) ae)))
   (aU (dU (aB c0 (hr.mono '!') rfl (ao (au aj (au aj (pv 0) (pv 3) (λ _ _=>rfl)) ag (λ _ _=>rfl)) (ao (au aj (pv 1) (pv 3) (λ _ _=>rfl)) (ao (au aj (pv 2) ag (λ _ _=>rfl)) (ao (au aj (pv 2) ag (λ _ _=>rfl)) ae))))) (bQ rfl (eW (fm (i:=4) cx.nd rfl (E1 rfl)) (eW (fm (i:=5) cx.nd rfl (E1 rfl)) iW))))
   (aU (dU (pv 5) (fQ (pv 2) ag qN))
   (aT (aq (aO xT (aO xT (nQ gn (pv 1) nP (lq (pv 3))) (az (ao (pv 4) ae))) (nQ gn (pv 1) (lq (aO eA (pv 3) ag)) nP))))))),?_⟩
  refine rK ?_;refine DO (S:=af) (K:=KX w.params) (a:=pt) (xs:=yt) (λ x y H=>∃(n k:ZQ) (b:ZR),x=.ref b/\H b=some (.tup [.str n,.str k])/\y=.str n) (af.refl _) (λ _ _ _ a b=>a.trans b) (λ _ _=>af.refl _) ?_ (λ R h=>⟨_,rfl,h⟩) (λ F s'=>s'.seqT (aG.of b3)) (C0 (K5 (cD U)) (C0 ok.n6 '!')) ?_ ?_
  ·rintro x y O H4 r ⟨n,k,b,e1,e2,e3⟩;exact ⟨n,k,b,e1,r _ _ e2,e3⟩
  ·intro v hv O L KT d7 KF;obtain ⟨m,hm⟩:=List.mem_iff_getElem?.mp hv;obtain ⟨t,ht,b,rfl,eb⟩:=fJ U hm;exact ⟨b,_,rfl,aG.of (L _ _ eb),rfl,_,_,rfl,_,_,rfl,rfl,[some (.str t.1),some (.str t.2)],rfl,rfl,cN ⟨_,rfl,d7 _ _ (af.refl _) ⟨t.1,t.2,b,rfl,L _ _ eb,rfl⟩⟩⟩
  intro Z O zs L c9 c5;have b9:av (λ (t:ZQ×ZQ) y=>∃b,y=.ref b/\O b=some (.tup [.str t.1,.str t.2])) B yt:=bG (λ _ _ z=>z.elim λ b y=>⟨b,y.1,L _ _ y.2⟩) U;have ez:=Ff b9 c5;subst ez;have sl:=af.upd (o:=.lst ((B.map (·.1)).map V.str)) c9;have el:upd O Z (.lst ((B.map (·.1)).map V.str)) Z=some (.lst ((B.map (·.1)).map V.str)):=ab;have r:=L.trans sl;generalize upd O Z (.lst ((B.map (·.1)).map V.str))=H4 at sl el r⊢;obtain ⟨j,J⟩:=List.mem_iff_getElem?.mp hm;have a5:(B.map (·.1))[j]? = some u:=by rw [Z0,J];rfl
  have d9:j < B.length:=(List.getElem?_eq_some_iff.mp J).1;refine ⟨.inl ⟨rfl,_,aH.of el⟩,_,rfl,.inl ⟨l,_,0,.str u,rfl,rfl,aH.of (r _ _ M),bF (j:=0) rfl,Z,B.map (·.1),u,j,rfl,rfl,el,by rw [D0];exact C0 ok.n6 '!',a5,λ m lt e=>?_,?_⟩⟩
  ·have:=(j24 (by rw [D0];lia) ok.nd).mp (e.trans a5.symm)
   lia
  refine aF ?_;obtain ⟨yj,d0,bj,rfl,b7⟩:=hV U J;obtain ⟨X,a2,so⟩:=hV a1 J;obtain ⟨vj,d6,sj⟩:=hV a3 a2;have b6:gJ B u=j:=idx_eq ok.nd a5;rw [b6] at q;refine ⟨_,rfl,_,rfl,.inr (.inl ⟨pt,yt,j,.ref bj,rfl,rfl,aG.of (r _ _ b3),bF d0,.inr (.inl ⟨bj,_,1,.str k,rfl,rfl,aG.of (r _ _ b7),bF (j:=1) rfl,?_⟩)⟩)⟩;refine ⟨_,rfl,_,rfl,.inr (.inl ⟨W,f,j,vj,rfl,rfl,r.seqT a6,bF d6,?_⟩)⟩;refine ⟨_,rfl,.inl ⟨l,_,1,.str C,rfl,rfl,aH.of (r _ _ M),bF (j:=1) rfl,?_⟩⟩;refine ⟨_,rfl,.inl ⟨l,_,2,x,rfl,rfl,aH.of (r _ _ M),bF (j:=2) rfl,?_⟩⟩;refine ⟨k,C,vj,x,d,n,X,rfl,so,sj.tups (.of r),hn,dk,ix.same r,wi.tt (.of (K:=KX w.params) r),λ p2 I D G e5 a7=>?_⟩;have q:=λ p F=>q p F X a2;have d2:=hX dk so hn;generalize hdz:dz k C d X=z at *;obtain ⟨z1,a⟩:=z;change D p2=some (.tup [I,a]) at e5;change gK (kx w) D z1 I at a7;change∀p F,aK [l] H F->F l=some (.lst [.str u,.str C,x,a])->iw (kx w) F p B (n + 1) (ss.set j z1)->cS n k X->Q (.ref p) F at q;have G:=r.trans G;refine ⟨p2,_,rfl,aG.of e5,rfl,_,_,rfl,_,_,rfl,rfl,?_⟩;refine ⟨_,rfl,_,rfl,l,_,3,3,rfl,rfl,G _ _ M,rfl,?_⟩;rw [show [V.str u,.str C,x,a0].set 3 a=[.str u,.str C,x,a] from rfl];have k6:aK [l] D (upd D l (.lst [.str u,.str C,x,a])):=aK.set (by simp);have T6:Tt (kx w) D (upd D l (.lst [.str u,.str C,x,a])):=aK.tt k6 λ c hc=>by rw [List.mem_singleton.mp hc];exact .inl ⟨_,G _ _ M⟩
  have e6:upd D l (.lst [.str u,.str C,x,a]) l=some (.lst [.str u,.str C,x,a]):=ab;generalize upd D l (.lst [.str u,.str C,x,a])=H6 at k6 T6 e6⊢;have b0:Tt (kx w) H H6:=Tt.trans (.of G) T6;have b5:=b0.t _ _ a6;have vl:f.length=B.length:=(cD a3).trans (cD a1);have b2:j < f.length:=by lia
  obtain ⟨c1,c2,c3,c4⟩:=rZ b2;refine ⟨_,rfl,_,rfl,_,rfl,.inr (.inl ⟨W,f,rfl,b5,λ z=>by have:=z.2;rw [c3] at this;lia,λ p7 c8=>?_⟩)⟩;rw [c1];obtain ⟨H7,v_,s7,e7⟩:=eZ (.tup (f.take j)) c8;rw [<-v_];refine ⟨_,rfl,lC,λ p8 d3=>?_⟩;have s8:=af.upd (o:=.tup [I]) d3;refine ⟨p7,p8,f.take j,[I],rfl,rfl,s8.seqT (aG.of e7),aG.of ab,?_,λ p9 H9 Y c6=>?_⟩
  ·rw [Y2];exact C0 (m:=10) (by have:=ok.n6;show min j f.length + 1<=10;lia) '!'
  have Y:=(s7.trans s8).trans Y;have d5:=Y.seqT b5;refine ⟨_,rfl,_,rfl,.inl ⟨_,_,rfl,rfl,_,rfl,.inr (.inl ⟨W,f,rfl,d5,λ z=>by have:=z.1;rw [c4] at this;lia,λ d1 c7=>?_⟩)⟩⟩;rw [c2];have a8:=af.upd (o:=.tup (f.drop (j + 1))) c7;refine ⟨p9,d1,f.take j++[I],f.drop (j + 1),rfl,rfl,a8.seqT c6,aG.of ab,?_,λ b8 a9 d4 b1=>?_⟩
  ·rw [L0,Y2,Z4];exact C0 (m:=20) (by have:=ok.n6;show min j f.length + 1 + (f.length - (j + 1))<=20;lia) '!'
  rw [OA b2] at b1;have a4:=(Y.trans a8).trans d4;have b4:Tt (kx w) H6 a9:=.of a4;refine q b8 a9 ((G.keptL.trans k6).trans a4.keptL) (a4 _ _ e6) ⟨_,b1,ES (λ _ _ z=>z.tups (b0.trans b4).t) a3 a2 (a7.tups (T6.trans b4).t),Hu (λ _ _ z=>cS.le (S3 _) z) a1 J d2.1⟩ so
def HL {R:ZR->Hp->Prop} {po:ZR} {nm vb:ZQ} {a:V} {k:ZQ} (hn:n < 63) (eo:H po=some (.lst [.str nm,.str vb,x,a])) (hm:(nm,k)∈ts) (dk:bp k vb d) (ix:bZ K H d x) (wi:cy H d x) (q :∀p H',aK [po] H H'->eK K H' ts po->(∃a xs,H' po=some (.lst (xs++[a]))/\xs.length=3/\mX a)->g_ K H' p ts (n + 1)->R p H') :∀p H' s,ss[gJ ts nm]? = some s->aK [po] H H'->H' po=some (.lst [.str nm,.str vb,x,(dz k vb d s).2])->iw K H' p ts (n + 1) (ss.set (gJ ts nm) (dz k vb d s).1)->cS n k s->R p H':=by
 intro p H' s j b e h i;have T:Tt K H H':=aK.tt b λ c g=>by rw [List.mem_singleton.mp g];exact .inl ⟨_,eo⟩
 have f:=(hX dk i hn).2.ansI;exact q p H' b ⟨nm,vb,x,_,k,d,e,hm,dk,bZ.mono' T.t _ _ ix,wi.tt T,.inr f⟩ ⟨_,[.str nm,.str vb,x],e,rfl,f⟩ ⟨_,h⟩
def dJ {k:Key}:(bM kvs k).isSome=true↔k∈kvs.map (·.1):=by
 induction kvs with
 | nil=>simp [bM]
 | cons p r ih=>
  obtain ⟨a,pv⟩:=p;by_cases y:a=k
  ·subst y;rw [jb rfl];simp
  ·rw [iS y,ih,G1,R1];exact ⟨λ z=>.inr z,λ z=>z.resolve_left λ x=>y x.symm⟩
def OO {k:Key} (h:k∈kvs.map (·.1)):(putK kvs k v).map (·.1)=kvs.map (·.1):=by
 unfold putK;obtain ⟨p,a,e⟩:=List.mem_map.mp h;rw [ZZ (List.any_eq_true.mpr ⟨p,a,ZY e⟩),S2];refine O7 λ q _=>?_;show (if q.1=k then (q.1,v) else q).1=q.1;by_cases y:q.1=k
 ·rw [ZZ y]
 ·rw [Z_ y]
def HU {k:Key} (h:k∉kvs.map (·.1)):putK kvs k v=kvs++[(k,v)]:=by unfold putK;rw [Z_];intro z;obtain ⟨p,a,e⟩:=List.any_eq_true.mp z;exact h (List.mem_map.mpr ⟨p,a,ZW e⟩)
def Dr:Sp:=λ vs H Q _=>∃(r:ZR) (n:Nat),vs=[.ref r]/\bq H r n/\n < 100/\∀p ts H',Dw r (n + 20) H H'->H p=none->hO H' p ts->nG ts->(∀t∈ts,X8 t.1=true/\t.1.length<=8)->Q (.ref p) H'
theorem bq.le (l:n<=m) (h:bq H r n):bq H r m:=by obtain ⟨a,b,c,e,f,g,d,i⟩:=h;exact ⟨a,b,c,e,f,g,d,by lia⟩
def Dw.le (l:n<=m) (h:Dw r n H H'):Dw r m H H':=⟨h.k,h.r.le l⟩
theorem Rr (T:TX (kx w) mg) (c0:Ca P w mg base "_law_take" ["deck","many"] 1 tw):Fo P w mg base CX0 2 378 yH ["deck"] Dr:=by
 refine (Aa w.params).ok cI (λ vs H Q E h=>?_) (λ d5 A d3 s H vs Q E I h=>?_)
 ·obtain ⟨r,n,rfl,_⟩:=h;rfl
 ·obtain ⟨r,n,rfl,R,hn,q⟩:=h;refine n_ (gG (iR (i:=1) cI.nd rfl (E1 rfl) (eG (eh (QE.mk aA) (eh (QE.mk aA) (eh (QE.mk aA) (eh (QE.mk aA) (eh (QE.mk aA) (eh (QE.mk aA) (eh (QE.mk aA) (eh (QE.mk aA) eI))))))))))
   (gG (QS.mk (aC (i:=2) cI.nd rfl (C1 rfl) xI))
   (gG (nh Z1 rfl (sH rfl (T.no (sk _)) (ao (aO eA ag (aB c0 (I.mono '!') rfl (ao (pv 0) (ao ag ae)))) ae)) (fm (i:=3) cI.nd rfl (E1 rfl))
   (nL (Am (cQ I) (QE.mk (pv 2)) (QE.mk (au aj (pv 1) (aB c0 (I.mono '!') rfl (ao (pv 0) (ao ag ae))) (λ _ _=>rfl))) (jY aj (eG (eh (QE.mk aA) (eh (QE.mk aA) (eh (QE.mk aA) (eh (QE.mk aA) (eh (QE.mk aA) eI)))))) (QE.mk (aB c0 (I.mono '!') rfl (ao (pv 0) (ao ag ae)))) (λ _ _=>rfl)) rfl)))
   (nL (QS.mk (aq (kO ny rfl (T.no (lG _)) A5 (ao (eE (xs:=["name"]) (g:=bu 0) (fr:=[(2,"told")]) (lx (fg (KO rfl) rfl (T.no (qv _)) W7 (ao (pv 2) ae))) (λ _ _ _ _ _=>(bT (N:=["name","told"]) 0)) (λ _ _ _ _ _=>fF) (λ _ _ _ _ _=>(az (ao (pv 0) (ao (oX (cQ I) (pv 1) (pv 0) (λ _ _=>rfl)) ae))))) ae)))))))) ?_
  refine gC ?_;refine ⟨Fm,λ l hl=>?_⟩;refine aF ?_;have nl:l≠r:=R.fresh hl;have X:=af.upd (o:=.lst [.str "q",.str "a",.str "zz",.str "begin",.str "reg",.str "abcdefgh",.str "b",.str "thing"]) hl;have e1:upd H l (.lst [.str "q",.str "a",.str "zz",.str "begin",.str "reg",.str "abcdefgh",.str "b",.str "thing"]) l=some (.lst ((["q","a","zz","begin","reg","abcdefgh","b","thing"]:List ZQ).map V.str)):=ab;generalize upd H l (.lst [.str "q",.str "a",.str "zz",.str "begin",.str "reg",.str "abcdefgh",.str "b",.str "thing"])=H1 at X e1⊢;refine gC ?_;intro d L;refine aF ?_;have U:d≠r:=(R.same X).fresh L;have a4:l≠d:=fK e1 L;have fd:H d=none:=X.free L;have s2:=af.upd (o:=.dK []) L;have e2:=s2 _ _ e1;have a6:upd H1 d (.dK []) d=some (.dK []):=ab;have a3:=X.trans s2;generalize upd H1 d (.dK [])=H2 at s2 e2 a6 a3⊢;have w2:Dw r n H H2:=R.dw.same a3;refine ⟨_,rfl,r,3,n,rfl,w2.r,by lia,'!','!',λ t H3 G d2 d4=>.inl ⟨1,t,rfl,rfl,1 + t,rfl,by lia,by lia,?_⟩⟩;have e3:=G.k _ _ nl e2;have a9:=G.k _ _ U a6;have G:=w2.trans G;have tn:(1 + t).toNat<=3:=by lia
  have tp:0 < (1 + t).toNat:=by lia
  generalize (1 + t).toNat=tt at tn tp⊢;refine vz (lo:=0) (n:=tt) (λ i σ M=>∃kvs ss,Dw r (n + 1 + 2 * i) H M/\M l=some (.lst ((["q","a","zz","begin","reg","abcdefgh","b","thing"]:List ZQ).map V.str))/\M d=some (.dK kvs)/\kvs.map (·.1)=ss.map Sum.inr/\ss.Nodup/\(∀z∈ss,X8 z=true/\z.length<=8)/\ss.length<=i/\(0 < i->0 < ss.length)/\(∀k v,bM kvs k=some v->∃z,z∈bU/\v=.str z)/\∃x3,σ=[some (.ref r),some (.ref l),some (.ref d),x3])
   ⟨[],[],G,e3,a9,rfl,.nil,λ _ z=>ZU z u0,o0 _,λ h=>h,(λ k v e=>by cases e),_,rfl⟩ ?_ ?_
  ·rintro i σ O hi ⟨kvs,ss,w4,e4,ed4,ek,sn,so,sl,sp,kv,x3,rfl⟩;refine aF ?_;refine ⟨Ef,λ j u=>⟨_,rfl,r,5,_,rfl,w4.r.same (af.upd u),by lia,'!','!',λ t5 Y C c7 c4=>?_⟩⟩;obtain ⟨v5,b0,c3⟩:=eP (xs:=bU.map V.str) c7 c4;obtain ⟨J,b2,rfl⟩:=List.mem_map.mp c3;refine .inl ⟨j,_,t5,_,rfl,rfl,aH.of (C.k _ _ (w4.r.fresh u) ab),b0,?_⟩;have e5:=C.k _ _ nl ((af.upd (o:=.lst (bU.map V.str)) u) _ _ e4);have a2:=C.k _ _ U ((af.upd (o:=.lst (bU.map V.str)) u) _ _ ed4);have C:=(w4.same (af.upd (o:=.lst (bU.map V.str)) u)).trans C;refine ⟨_,rfl,_,rfl,_,rfl,r,8,_,rfl,C.r,by lia,'!','!',λ t6 H6 D c2 b4=>?_⟩;obtain ⟨v6,c5,d0⟩:=eP (xs:=(["q","a","zz","begin","reg","abcdefgh","b","thing"]:List ZQ).map V.str) c2 b4;obtain ⟨c,b3,rfl⟩:=List.mem_map.mp d0;have b7:X8 c=true/\c.length<=8:=(by decide +kernel :∀z∈(["q","a","zz","begin","reg","abcdefgh","b","thing"]:List ZQ),X8 z=true/\z.length<=8) c b3;have e6:=D.k _ _ nl e5;have c6:=D.k _ _ U a2;have D:=C.trans D;have kl:kvs.length=ss.length:=by have:=ZT C7 ek;simpa using this
   refine .inl ⟨l,_,t6,_,rfl,rfl,aH.of e6,c5,d,_,rfl,hJ.k (k:=.inr c) c6 (U1 (m:=100) '%' '!'),?_⟩;have w7:Dw r (n + 1 + 2 * (i + 1)) H (upd H6 d (.dK (putK kvs (.inr c) (.str J)))):=by refine ⟨λ b o hb e=>by rw [ak (fK e fd)];exact D.k b o hb e,?_⟩;obtain ⟨a1,b1,c1,ee,F⟩:=D.r;exact ⟨a1,b1,c1,by rw [ak U.symm];exact ee,F.1,F.2.1,F.2.2.1,by have:=F.2.2.2;lia⟩
   have a5 :∀k v,bM (putK kvs (.inr c) (.str J)) k=some v->∃z,z∈bU/\v=.str z:=λ k v e=>by
    rw [qY] at e;by_cases z:k=.inr c
    ·rw [ZZ z] at e;cases e;exact ⟨J,b2,rfl⟩
    ·rw [Z_ z] at e;exact kv k v e
   by_cases z:c∈ss
   ·have kk:=OO (kvs:=kvs) (k:=(.inr c:Key)) (v:=.str J) (by rw [ek];exact List.mem_map.mpr ⟨c,z,rfl⟩);exact ⟨_,ss,w7,by rw [ak a4];exact e6,ab,kk.trans ek,sn,so,by lia,λ _=>List.length_pos_of_mem z,a5,_,rfl⟩
   ·have kk:=HU (kvs:=kvs) (k:=(.inr c:Key)) (v:=.str J) (by rw [ek];exact λ y=>z (by obtain ⟨a,ha,e⟩:=List.mem_map.mp y;cases e;exact ha));refine ⟨_,ss++[c],w7,by rw [ak a4];exact e6,ab,by rw [kk,N1,ek,N1];rfl,?_,λ z Z=>?_,?_,λ _=>?_,a5,_,rfl⟩
    ·rw [Q4];refine ⟨sn,by simp,λ a ha b hb=>?_⟩;rw [List.mem_singleton.mp hb];exact λ e=>z (e ▸ ha)
    ·rcases List.mem_append.mp Z with y|y
     ·exact so z y
     ·rw [List.mem_singleton.mp y];exact b7
    ·rw [L0];show ss.length + 1<=i + 1;lia
    ·rw [L0];exact Nat.succ_pos _
  ·rintro σ O ⟨kvs,ss,w4,e4,ed4,ek,sn,so,sl,sp,kv,x3,rfl⟩;refine cU (FQ ?_);refine JA (λ j Y=>∃f:List ZQ,O j=none/\f.Perm ss/\Y=upd O j (.lst (f.map V.str))) (λ R h=>⟨_,rfl,d,kvs,ss,rfl,ed4,ek,by lia,λ j f h5 B _=>h j _ ⟨f,h5,B,rfl⟩⟩) ?_;rintro j Y ⟨f,u,B,rfl⟩;have s5:=af.upd (o:=.lst (f.map V.str)) u;have a2:=s5 _ _ ed4;have e5:upd O j (.lst (f.map V.str)) j=some (.lst (f.map V.str)):=ab;have a8:f.length<=3:=by rw [B.length_eq];lia
   refine OI (S:=af) (K:=KX w.params) (a:=j) (xs:=f.map V.str) (oN (kx w)) (af.refl _) (λ _ _ _ a b=>a.trans b) (λ _ _=>af.refl _) ?_ (λ R h=>h) (λ M s'=>aH.of (s' _ _ e5)) (by rw [D0];exact C0 a8 '!') ?_ ?_
   ·rintro x y Ha Hb b9 ⟨p,k1,b1,F,z2,z3,z4⟩;exact ⟨p,k1,b1,F,z2,z3,b9 _ _ z4⟩
   ·intro v hv H6 s6 KT d1 KF;obtain ⟨p,b8,rfl⟩:=List.mem_map.mp hv;refine ⟨[some (.str p)],rfl,rfl,cN ?_⟩;have hs:(bM kvs (.inr p)).isSome=true:=dJ.mpr (by rw [ek];exact List.mem_map.mpr ⟨p,B.mem_iff.mp b8,rfl⟩);obtain ⟨v1,a7⟩:=Option.isSome_iff_exists.mp hs;obtain ⟨z,Z,rfl⟩:=kv _ _ a7;have dg:d_ H6 d (.str p) (some (.str z)):=by have:=d_.k (k:=.inr p) (s6 _ _ a2);rw [a7] at this;exact this
    exact ⟨_,rfl,_,rfl,_,rfl,d,_,rfl,dg,cV,λ p7 b6=>d1 _ _ (af.upd b6) ⟨p,z,p7,rfl,rfl,Z,ab⟩⟩
   ·intro l7 H7 W s7 c9 b5;obtain ⟨ts,f1,f2,c8⟩:=GO b5;have s8:=af.upd (o:=.lst W) c9;refine ⟨l7,W,rfl,.inl ⟨aH.of ab,λ p8 a0=>?_⟩⟩;have w8:=(w4.same (s5.trans s7)).same s8;have s9:=s8.trans (af.upd (o:=.tup W) a0);have tl:ts.length=f.length:=by rw [<-f1,D0]
    have pl:=B.length_eq;have:=sp tp;exact q p8 ts _ ((w8.same (af.upd a0)).le '%') (w8.free a0) ⟨W,ab,bG (λ _ _ z=>z.elim λ b y=>⟨b,y.1,s9 _ _ y.2⟩) c8⟩ ⟨by lia,by lia,by rw [f1];exact B.nodup_iff.mpr sn,f2⟩ (λ t ht=>so t.1 (B.mem_iff.mp (by rw [<-f1];exact List.mem_map.mpr ⟨t,ht,rfl⟩)))
def xh (K:c0) (H:Hp) (z:ZQ) (y:V):Prop:=∃(p:ZR) (r:List V),y=.ref p/\aG K H p (.str z :: r)
def xh.tups {z:ZQ} (t:bN K H H') (h:xh K H z y):xh K H' z y:=by obtain ⟨p,r,e,s⟩:=h;exact ⟨p,r,e,t _ _ s⟩
def eK.tt (t:Tt K H H') (e :∀o,H p=some o->H' p=some o) (h:eK K H ts p):eK K H' ts p:=by obtain ⟨g,f,x,a,k,d,i,l,c,b,j,m⟩:=h;exact ⟨g,f,x,a,k,d,e _ i,l,c,bZ.mono' t.t d x b,j.tt t,m⟩
def eK.mutAt (h:eK K H ts p):jn H p:=by obtain ⟨e,c,x,a,k,d,b,_⟩:=h;exact .inl ⟨_,b⟩
def bq.mutAt (h:bq H r n):jn H r:=by obtain ⟨a,b,c,e,_⟩:=h;exact .inl ⟨_,e⟩
def Dw.keptL (h:Dw r n H H') (hr:r∈L):aK L H H':=λ b o n e=>h.k b o (λ z=>n (z ▸ hr)) e
def Dw.tt (R:bq H r m) (h:Dw r n H H'):Tt K H H':=aK.tt (h.keptL (List.mem_singleton.mpr rfl)) λ l a=>by rw [List.mem_singleton.mp a];exact R.mutAt
def oR (s:af H H1) (k:aK L H1 H2) (n :∀l∈L,H l=none):af H H2:=λ c o e=>k c o (λ z=>by rw [n c z] at e;cases e) (s c o e)
def OV {k j:Key} (h:bM (cF kvs k) j=some v):bM kvs j=some v:=by
 induction kvs with
 | nil=>cases h
 | cons p r ih=>
  obtain ⟨a,pv⟩:=p;by_cases z:a=k
  ·rw [Gv z] at h;have b:j≠a:=λ y=>by
    have:(bM (cF r k) j).isSome=true:=by rw [h];rfl
    have:=dJ.mp this;obtain ⟨q,c,e⟩:=List.mem_map.mp this;have:=ZW (List.mem_filter.mp c).2;exact this (e.trans (y.trans z))
   rw [iS (λ e=>b e.symm)];exact ih h
  ·rw [Fu z] at h;by_cases y:a=j
   ·subst y;rw [jb rfl] at h⊢;exact h
   ·rw [iS y] at h⊢;exact ih h
noncomputable def sS:Ev->Int
 | .beg h _ _ _=>h
 | .fin h _=>h
def HE {e:Ev} (h :∀e∈es,sS e∈hs) (he:sS e∈hs) :∀x∈es++[e],sS x∈hs:=λ x a=>by
 rcases List.mem_append.mp a with z|z
 ·exact h x z
 ·rw [List.mem_singleton.mp z];exact he
noncomputable def gA:Ev->ZQ
 | .beg _ _ _ _=>"begin"
 | .fin _ _=>"end"
noncomputable def nJ (e:Ev):Bool:=decide (V.str (gA e)=V.str "begin")
def Er {n:V}:nJ (.beg h n v x)=true:=by show decide (V.str "begin" = V.str "begin")=true;decide +kernel
def HD {a:V}:nJ (.fin h a)=false:=by show decide (V.str "end" = V.str "begin")=false;decide +kernel
noncomputable def jg (es:List Ev):Nat:=(es.filter nJ).length
def Pi {a:V}:jg (es++[.fin h a])=jg es:=by unfold jg;rw [c8,L0];rw [u5 (by rw [HD];decide)];rfl
def Ny {n:V}:jg (es++[.beg h n v x])=jg es + 1:=by unfold jg;rw [c8,L0,o5 Er];rfl
theorem CJ {p:Ev->Bool} :∀{es:List Ev} {ys:List V},es.length=ys.length->((es.zip ys).filter λ a=>p a.1).length=(es.filter p).length
 | [],[],_=>rfl
 | e :: es,y :: ys,h=>by
  have b:=CJ (p:=p) (es:=es) (ys:=ys) (by simpa using h);rw [a8];cases c:p e with
  | true=>rw [o5 (by exact c),o5 c,U0,U0,b]
  | false=>rw [u5 (by show ¬ p e=true;rw [c];decide),u5 (by rw [c];decide),b]
theorem H_:∀{es:List Ev} {i:Nat} {rs:List Rc},(aR i rs es).length=rs.length + jg es
 | [],_,_=>rfl
 | e :: es,i,rs=>by
  have b:=H_ (es:=es) (i:=i + 1) (rs:=bJ i rs e);show (aR (i + 1) (bJ i rs e) es).length=_;rw [b];cases e with
  | beg hd n v x=>
   have c:(bJ i rs (.beg hd n v x)).length=rs.length + 1:=by show (rs++[_]).length=_;rw [L0];rfl
   have d:jg (Ev.beg hd n v x :: es)=jg es + 1:=by unfold jg;rw [o5 Er,U0]
   lia
  | fin hd a=>
   have c:(bJ i rs (.fin hd a)).length=rs.length:=by
    unfold bJ;dsimp only;cases cX hd (rs.map Rc.h) with
    | none=>rfl
    | some j=>exact G6 ..
   have d:jg (Ev.fin hd a :: es)=jg es:=by unfold jg;rw [u5 (by rw [HD];decide)]
   lia
structure lD (K:c0) (ts:List (ZQ×ZQ)) (H:Hp) (e:Ev) (y:V):Prop where
 a:gE K H e y
 w:xh K H (gA e) y
 n:jO K H ts e
def lD.tt {e:Ev} (t:Tt K H H') (h:lD K ts H e y):lD K ts H' e y:=⟨gE.tups t.t h.a,h.w.tups t.t,h.n.tt t⟩
theorem GS:∀{es:List Ev} {ys:List V},av (lD K ts H) es ys->av (λ (a:Ev×V) v=>a.2=v/\lD K ts H a.1 v) (es.zip ys) ys
 | _,_,.nil=>.nil
 | _,_,.cons a r=>.cons ⟨rfl,a⟩ (GS r)
def zU (K:c0) (H H0:Hp) (u l ha:ZR) (ts:List (ZQ×ZQ)) (m:Nat) (os:List Int):Prop:=∃kvs:List (Key×V),H u=some (.dK kvs)/\kvs.length<=m/\kvs.map (·.1)=os.map Sum.inl/\∀k v,bM kvs k=some v->∃p,v=.ref p/\eK K H ts p/\p≠l/\p≠ha/\H0 p=none
structure jt (K:c0) (H H0:Hp) (pt ps u l ha:ZR) (ts:List (ZQ×ZQ)) (hs:List Int) (i:Nat) (os:List Int) (es:List Ev):Prop where
 th:hO H pt ts
 st:g_ K H ps ts i
 uw:zU K H H0 u l ha ts i os
 ev :∃ys,H l=some (.lst ys)/\av (lD K ts H) es ys
 hn:H ha=some (.lst (hs.map V.int))
 ln:es.length<=i
 wf:kU [] es
 cn:jg es<=5
 hb :∀e∈es,sS e∈hs
def jt.tt {pt ps u ha:ZR} (t:Tt K H H') (L:List ZR) (k:aK L H H') (n:u∉L/\l∉L/\ha∉L) (po :∀p∈L,∀q:eK K H ts p,eK K H' ts p) (h:jt K H H0 pt ps u l ha ts hs i os es):jt K H' H0 pt ps u l ha ts hs i os es:=by
 refine ⟨h.th.tt t,h.st.tups t.t,?_,h.ev.elim λ r z=>⟨r,k _ _ n.2.1 z.1,bG (λ _ _ y=>y.tt t) z.2⟩,k _ _ n.2.2 h.hn,h.ln,h.wf,h.cn,h.hb⟩;obtain ⟨g,e,s,m,f⟩:=h.uw;refine ⟨g,k _ _ n.1 e,s,m,λ a v c=>?_⟩;obtain ⟨p,j,b,d⟩:=f a v c;refine ⟨p,j,?_,d⟩;rcases Classical.em (p∈L) with z|z
 ·exact po p z b
 ·exact b.tt t λ o e=>k _ _ z e
def jt.same {pt ps u ha:ZR} (s:af H H') (h:jt K H H0 pt ps u l ha ts hs i os es):jt K H' H0 pt ps u l ha ts hs i os es:=h.tt (.of s) [] s.keptL ⟨u0,u0,u0⟩ (λ _ z=>ZU z u0)
def jt.le {pt ps u ha:ZR} (h:jt K H H0 pt ps u l ha ts hs i os es):jt K H H0 pt ps u l ha ts hs (i + 1) os es:=⟨h.th,h.st.le (S3 _),h.uw.elim λ a z=>⟨a,z.1,V5 z.2.1,z.2.2⟩,h.ev,h.hn,V5 h.ln,h.wf,h.cn,h.hb⟩
def jt.dw {pt ps u ha:ZR} (R:bq H r n) (w:Dw r m H H') (nr:u≠r/\l≠r/\ha≠r) (h:jt K H H0 pt ps u l ha ts hs i os es):jt K H' H0 pt ps u l ha ts hs i os es:=by refine h.tt (w.tt R) [r] (w.keptL (by simp)) ⟨by simp [nr.1],by simp [nr.2.1],by simp [nr.2.2]⟩ λ p e o=>?_;rw [List.mem_singleton.mp e] at o⊢;obtain ⟨j,g,x,a,k,d,c,_⟩:=o;obtain ⟨q,f,s,b,_⟩:=R;rw [c] at b;cases b
def Hl (K:c0):Sp:=λ vs H Q _=>∃(sc:ZR) (ns:List Int),vs=[.ref sc,.int 5]/\aH K H sc (ns.map V.int)/\ns.length<=63/\
 ∀t pt te ys es ts H',af H H'->H' t=some (.tup [.ref pt,.ref te])->H' te=some (.tup ys)->hO H' pt ts->nG ts->(∀t∈ts,X8 t.1=true/\t.1.length<=8)->av (lD K ts H') es ys->es.length<=20->kU [] es->jg es<=5->(∀e∈es,0<=sS e/\sS e<=5)->Q (.ref t) H'
theorem Lf (T:TX (kx w) mg) (c0:Ca P w mg base "_law_cell_at" ["script","k"] 1 (HZ (kx w))) (c2:Ca P w mg base "_law_take" ["deck","many"] 1 tw) (c3:Ca P w mg base "_law_things" ["deck"] 2 Dr) (c4:Ca P w mg base "_law_first" ["things"] 1 (zd (kx w))) (c5:Ca P w mg base "_law_applied" ["things","states","own"] 2 (AO (kx w))) (c6:Ca P w mg base "_law_verb" ["deck","kind"] 3 (DH (kx w))):Fo P w mg base CX0 4 388 AA ["script","most"] (Hl (kx w)):=by
 refine (BN w.params).ok aE (λ vs H Q E h=>?_) (λ y2 A x1 s H vs Q E I h=>?_)
 ·obtain ⟨sc,O,rfl,_⟩:=h;rfl
 ·obtain ⟨sc,O,rfl,sq,hn,q⟩:=h;refine n_ (gG (QS.mk (aC (i:=2) aE.nd rfl (E1 rfl) (aO gb (aB c0 (I.mono '!') rfl (ao (pv 0) (ao ag ae))) ag)))
   (gG (QS.mk (aC (i:=3) aE.nd rfl (E1 rfl) (aW (ao (aO zO (aB c0 (I.mono '!') rfl (ao (pv 0) (ao ag ae))) ag) (ao (pv 2) (ao ag ae))))))
   (gG (QS.mk (aC (i:=4) aE.nd rfl (E1 rfl) (aB c3 (I.mono '!') rfl (ao (pv 3) ae))))
   (gG (QS.mk (aC (i:=5) aE.nd rfl (E1 rfl) (nQ gn (au aj (aW (ao (aW (ao ag (ao ag (ao ag (ao ag ae))))) (ao (aW (ao ag (ao ag (ao ag (ao ag ae))))) ae))) (aB c2 (I.mono '!') rfl (ao (pv 3) (ao ag ae))) (λ _ _=>rfl)) nP (lq (aO eA ag (aB c2 (I.mono '!') rfl (ao (pv 3) (ao ag ae))))))))
   (gG (iR (i:=6) aE.nd rfl (E1 rfl) (jY aj (eG (eh (QE.mk ag) (eh (QE.mk ag) (eh (QE.mk ag) (eh (QE.mk ag) eI))))) (QE.mk (aB c2 (I.mono '!') rfl (ao (pv 3) (ao ag ae)))) (λ _ _=>rfl)))
   (gG (QS.mk (aC (i:=7) aE.nd rfl (E1 rfl) (aB c4 (I.mono '!') rfl (ao (pv 4) ae))))
   (gG (QS.mk (aC (i:=8) aE.nd rfl (E1 rfl) (aW ae)))
   (gG (QS.mk (aC (i:=9) aE.nd rfl (E1 rfl) xI))
   (gG (nh Z1 rfl (sH rfl (T.no (sk _)) (ao (fg (PB rfl) rfl (T.no (tU _)) boot_min (ao (aO fZ ag (pv 1)) (ao (fg (Ln rfl) rfl (T.no (uo _)) boot_max (ao ag (ao (aO p_ (fg jo rfl (T.no (dq _)) O4 (ao (pv 0) ae)) ag) ae))) ae))) ae)) (fm (i:=10) aE.nd rfl (E1 rfl))
   (gG (QS.mk (aC (i:=3) aE.nd rfl (E1 rfl) (aW (ao (fg (Mq rfl) rfl (T.no (wc _)) boot_sum (ao (Kw (pv 0) (lq (aO eA ag (pv 10))) (lq ag) (lq (aO fZ ag (pv 1)))) ae)) (ao (pv 2) (ao (aO eA ag (aO fZ ag (pv 10))) ae))))))
   (gG (QS.mk (aC (i:=11) aE.nd rfl (E1 rfl) (au aj (pv 5) (aB c2 (I.mono '!') rfl (ao (pv 3) (ao (fg jo rfl (T.no (dq _)) O4 (ao (pv 5) ae)) ae))) (λ _ _=>rfl))))
   (nL (og (qR (qo (cQ I) (pv 11) (pv 9)) (by with_unfolding_all rfl))
   (gG (QS.mk (aC (i:=12) aE.nd rfl (E1 rfl) (RB (pv 9) (pv 11) ⟨rfl,rfl,rfl,rfl⟩)))
   (gG (QS.mk (aJ (cL gy (au aj (pv 12) ag (λ _ _=>rfl)) bw (aD _))
   (aT (aC (i:=7) aE.nd rfl (E1 rfl) (aB c5 (I.mono '!') rfl (ao (pv 4) (ao (pv 7) (ao (pv 12) ae))))))
   dD))
   (gG (QS.mk (aC (i:=13) aE.nd rfl (E1 rfl) (au aj (pv 12) ag (λ _ _=>rfl))))
   (gG (og (PW.pt (gB (bS (fg oQ rfl (T.no (oK _)) U4 (ao (pv 13) (ao (oE (v:=.ty "tuple") rfl (T.no (lG _)) A5 rfl) ae))) (λ _=>rfl)) (gc (cL cv (aB c2 (I.mono '!') rfl (ao (pv 3) (ao (pv 6) ae))) ag (aD _)))))
   (nL (iR (i:=13) aE.nd rfl (E1 rfl) (jY aj (eG (eh (QE.mk aA) (eh (QE.mk aA) (eh (QE.mk ag) (eh (QE.mk ag) (eh (QE.mk ag) (eh (QE.mk (aO mj ag ag)) (eh (QE.mk (mq jW ag)) eI)))))))) (QE.mk (aB c2 (I.mono '!') rfl (ao (pv 3) (ao ag ae)))) (λ _ _=>rfl))))
   (oC.mk dD))
   (nL (QS.mk (kD (lJ (pv 8) (ao (az (ao aA (ao (pv 11) (ao (pv 13) ae)))) ae)))))))))
   (nL (QS.mk (aJ (cL hZ (fg jo rfl (T.no (dq _)) O4 (ao (eE (xs:=["event"]) (g:=bu 0) (fr:=[]) (lx (pv 8)) (λ _ _ _ _ _=>(bT (N:=["event"]) 0)) (λ _ _ _ _ _=>(fq (cL cv (au (ve (K:=KX w.params) rfl) (pv 0) ag (λ _ _=>rfl)) aA (aD _)))) (λ _ _ _ _ _=>(pv 0))) ae)) (pv 1) (aD _))
   (aU (dU (au aj (pv 4) (aB c2 (I.mono '!') rfl (ao (pv 3) (ao (fg jo rfl (T.no (dq _)) O4 (ao (pv 4) ae)) ae))) (λ _ _=>rfl)) (bQ rfl (eW (fm (i:=14) aE.nd rfl (E1 rfl)) (eW (fm (i:=15) aE.nd rfl (E1 rfl)) iW))))
   (aU (dU (aB c6 (I.mono '!') rfl (ao (pv 3) (ao (pv 15) ae))) (bQ rfl (eW (fm (i:=16) aE.nd rfl (E1 rfl)) (eW (fm (i:=17) aE.nd rfl (E1 rfl)) iW))))
   (aU (kD (lJ (pv 8) (ao (az (ao aA (ao (pv 11) (ao (pv 14) (ao (pv 16) (ao (pv 17) ae)))))) ae)))
   (aU (xM (cQ I) (pv 9) (pv 11) (aW (ao (pv 14) (ao (pv 16) (ao (pv 17) (ao bw ae))))) rfl)
   (aT (aJ (cL cv (aB c2 (I.mono '!') rfl (ao (pv 3) (ao ag ae))) ag (aD _))
   (aT (aC (i:=7) aE.nd rfl (E1 rfl) (aB c5 (I.mono '!') rfl (ao (pv 4) (ao (pv 7) (ao (oX (cQ I) (pv 9) (pv 11) (λ _ _=>rfl)) ae))))))
   dD))))))
   dD))))))))
   (nL (QS.mk (aq (az (ao (pv 4) (ao (kO ny rfl (T.no (lG _)) A5 (ao (pv 8) ae)) ae))))))))))))))) ?_
  refine gC ?_;refine ⟨_,rfl,sc,O,rfl,sq,λ i0=>⟨_,_,rfl,rfl,(show (0:Int) < 2 by decide),?_⟩⟩;refine aF ?_;have y0:0<=i0 % 2:=P7 _ '!';have y1:i0 % 2 < 2:=M6 _ '!';refine gC ?_;refine ⟨_,rfl,sc,O,rfl,sq,λ i1=>⟨_,_,rfl,rfl,⟨'!','!'⟩,_,rfl,nk,λ X l0=>?_⟩⟩;refine aF ?_;have s1:=af.upd (o:=.lst [.int (i1 / 2),.int (i0 % 2),.int 0]) l0;have D1:bq (upd H X (.lst [.int (i1 / 2),.int (i0 % 2),.int 0])) X 0:=⟨_,_,_,ab,y0,y1,j30 _,j30 _⟩
  generalize upd H X (.lst [.int (i1 / 2),.int (i0 % 2),.int 0])=H1 at s1 D1⊢;have only :∀{n:Nat} {Ha Hb:Hp},af H Ha->Dw X n Ha Hb->af H Hb:=λ sa wa=>oR sa (wa.keptL (L:=[X]) (by simp)) λ c B=>by rw [List.mem_singleton.mp B];exact l0
  refine ⟨_,rfl,X,0,rfl,D1,'!',λ pt S H2 w2 x9 th ok r9=>?_⟩;have s2:=only s1 w2;refine aF (cU ?_);refine gC ?_;refine ⟨sr,λ G h1=>⟨sr,λ a2 h2=>⟨cV,λ a3 h3=>?_⟩⟩⟩;have q1:=af.upd (o:=.lst [V.int 0,.int 1,.int 2,.int 5]) h1;have q2:=af.upd (o:=.lst [V.int 5,.int 4,.int 3,.int 0]) h2;have q3:=af.upd (o:=.lst [.ref G,.ref a2]) h3;have f1:=q3 _ _ (q2 _ _ (ab (H:=H2) (a:=G) (o:=.lst [V.int 0,.int 1,.int 2,.int 5])));have f2:=q3 _ _ (ab (H:=upd H2 G (.lst [V.int 0,.int 1,.int 2,.int 5])) (a:=a2) (o:=.lst [V.int 5,.int 4,.int 3,.int 0]));have f3:=ab (H:=upd (upd H2 G (.lst [V.int 0,.int 1,.int 2,.int 5])) a2 (.lst [V.int 5,.int 4,.int 3,.int 0])) (a:=a3) (o:=.lst [.ref G,.ref a2]);have n1:G≠X:=w2.r.fresh h1;have n2:a2≠X:=(w2.r.same q1).fresh h2;have n3:a3≠X:=(w2.r.same (q1.trans q2)).fresh h3;have g9:=(q1.trans q2).trans q3;generalize upd (upd (upd H2 G (.lst [V.int 0,.int 1,.int 2,.int 5])) a2 (.lst [V.int 5,.int 4,.int 3,.int 0])) a3 (.lst [.ref G,.ref a2])=H3 at f1 f2 f3 g9⊢;have D3:=w2.r.same g9;have t1:=th.tt (.of (K:=KX w.params) g9);have s3:=s2.trans g9;refine ⟨_,rfl,X,2,_,rfl,D3,'!','!','!',λ t4 H4 w4 o4 o5=>?_⟩;obtain ⟨v4,t2,k9⟩:=eP (xs:=[V.ref G,.ref a2]) o4 o5;obtain ⟨aX,a8,rfl,eX,nX,lX,bX⟩ :∃(aX:ZR) (a8:List Int),v4=.ref aX/\H3 aX=some (.lst (a8.map V.int))/\aX≠X/\a8.length=4/\∀x∈a8,0<=x/\x<=5:=by
   simp only [R1,u0,or_false] at k9;rcases k9 with rfl|rfl
   ·exact ⟨G,[0,1,2,5],rfl,f1,n1,rfl,'!'⟩
   ·exact ⟨a2,[5,4,3,0],rfl,f2,n2,rfl,'!'⟩
  refine .inl ⟨a3,_,t4,_,rfl,rfl,aH.of (w4.k _ _ n3 f3),t2,?_⟩;have w1:=w4.k _ _ nX eX;have s4:=only s3 w4;have r8:=t1.tt (w4.tt (K:=KX w.params) D3);refine ⟨_,rfl,X,4,_,rfl,w4.r,'!','!','!',λ t5 H5 w5 v2 x6=>.inl ⟨1,t5,rfl,rfl,_,rfl,.inl ⟨aX,_,rfl,aH.of (w5.k _ _ nX w1),λ D h4=>?_⟩⟩⟩;have s5:=only s4 w5;have r4:=r8.tt (w5.tt (K:=KX w.params) w4.r);obtain ⟨m5,rfl⟩:=Int.eq_ofNat_of_zero_le v2;have ec:cw (a8.map V.int) none (some (1 + (m5:Int)))=(a8.take (1 + m5)).map V.int:=by rw [show (1:Int) + (m5:Int)=((1 + m5:Nat):Int) by lia,(lR (ys:=a8.map V.int) (m:=1 + m5) (by rw [D0];lia)).1,List.map_take]
  rw [ec];have v5:(a8.take (1 + m5)).length=1 + m5:=by rw [Y2];lia
  have j8 :∀x∈a8.take (1 + m5),0<=x/\x<=5:=λ x hx=>bX x (j65 hx);generalize a8.take (1 + m5)=hs at v5 j8⊢;refine aF ?_;have q6:=af.upd (o:=.lst (hs.map V.int)) h4;have e6:upd H5 D (.lst (hs.map V.int)) D=some (.lst (hs.map V.int)):=ab;have u2:D≠X:=w5.r.fresh h4;have x7:H D=none:=s5.free h4;generalize upd H5 D (.lst (hs.map V.int))=H6 at q6 e6⊢;have D6:=w5.r.same q6;have s6:=s5.trans q6;have u8:=r4.tt (.of (K:=KX w.params) q6);refine gC ?_;refine ⟨sr,λ a7 h7=>⟨_,rfl,X,4,_,rfl,D6.same (af.upd h7),'!','!','!',λ t7 H7 w7 u6 v0=>?_⟩⟩;obtain ⟨v7,u9,j6⟩:=eP (xs:=[V.int 3,.int 8,.int 40,.int 40]) u6 v0;obtain ⟨b6,rfl,u1,x4⟩ :∃b6:Int,v7=.int b6/\0 < b6/\b6<=40:=by simp only [R1,u0,or_false] at j6;rcases j6 with rfl|rfl|rfl|rfl<;>exact ⟨_,rfl,'!','!'⟩
  refine .inl ⟨a7,_,t7,_,rfl,rfl,aH.of (w7.k _ _ (D6.fresh h7) ab),u9,?_⟩;refine aF ?_;have e7:=w7.k _ _ u2 ((af.upd (o:=.lst [V.int 3,.int 8,.int 40,.int 40]) h7) _ _ e6);have k6:=(u8.tt (.of (K:=KX w.params) (af.upd (o:=.lst [V.int 3,.int 8,.int 40,.int 40]) h7))).tt (w7.tt (K:=KX w.params) (D6.same (af.upd h7)));have s7:=only (s6.trans (af.upd (o:=.lst [V.int 3,.int 8,.int 40,.int 40]) h7)) w7;refine ⟨_,rfl,pt,S,rfl,k6,ok.n6,λ W M s8 e0=>?_⟩;have e8:=s8 _ _ e7;have r1:=k6.tt (.of (K:=KX w.params) s8);have s8:=s7.trans s8;refine ⟨jq,λ l hl=>?_⟩;have q9:=af.upd (o:=.lst []) hl;have d0:upd M l (.lst []) l=some (.lst []):=ab;have j5:l≠D:=λ z=>by rw [z,e8] at hl;cases hl
  have fl:H l=none:=s8.free hl;have e9:=q9 _ _ e8;have m7:=r1.tt (.of (K:=KX w.params) q9);have g3:=(e0.sts (K:=KX w.params)).tups (.of q9);have s9:=s8.trans q9;generalize upd M l (.lst [])=H9 at q9 d0 e9 m7 g3 s9⊢;intro u hu;have a5:=af.upd (o:=.dK []) hu;have fu:H u=none:=s9.free hu;have d1:l≠u:=λ z=>by rw [<-z,d0] at hu;cases hu
  have i2:D≠u:=λ z=>by rw [<-z,e9] at hu;cases hu
  have J0:jt (kx w) (upd H9 u (.dK [])) H pt W u l D S hs 0 [] []:=⟨m7.tt (.of (K:=KX w.params) a5),g3.tups (.of a5),⟨[],ab,o0 _,rfl,λ k v e=>by cases e⟩,⟨[],a5 _ _ d0,.nil⟩,a5 _ _ e9,o0 _,trivial,J1 _,λ _ h=>ZU h u0⟩
  have f4:=s9.trans a5;generalize upd H9 u (.dK [])=a6 at J0 f4⊢;have hb :∀L:Int,0<=(if (if L > 0 then L else 0) < 2 * 5 then (if L > 0 then L else 0) else 2 * 5)/\(if (if L > 0 then L else 0) < 2 * 5 then (if L > 0 then L else 0) else 2 * 5)<=20:=λ L=>by split<;>split<;>lia
  obtain ⟨b1,b2⟩:=hb (((O.map V.int).length:Int) - 1);refine ⟨_,rfl,_,_,rfl,rfl,.inl ⟨'!','!'⟩,_,rfl,.inl ⟨sc,_,rfl,.inl (f4.seq sq),_,_,rfl,rfl,_,_,rfl,_,_,rfl,(if (if ((O.map V.int).length:Int) - 1 > 0 then ((O.map V.int).length:Int) - 1 else 0) < 2 * 5 then (if ((O.map V.int).length:Int) - 1 > 0 then ((O.map V.int).length:Int) - 1 else 0) else 2 * 5),rfl,by lia,by lia,?_⟩⟩;generalize (if (if ((O.map V.int).length:Int) - 1 > 0 then ((O.map V.int).length:Int) - 1 else 0) < 2 * 5 then (if ((O.map V.int).length:Int) - 1 > 0 then ((O.map V.int).length:Int) - 1 else 0) else 2 * 5)=JJ at b1 b2⊢;have tn:JJ.toNat<=20:=by lia
  generalize JJ.toNat=tt at tn⊢;refine vz (lo:=0) (n:=tt) (λ i σ H'=>∃W es,jt (kx w) H' H pt W u l D S hs i (es.foldl fA []) es/\af H H'/\∃x3 Z x11 x12 x13 x14 x15 x16 x17,σ=[some (.ref sc),some (.int 5),some (.int (i0 % 2)),x3,some (.ref pt),some (.ref D),some (.int b6),some (.ref W),some (.ref l),some (.ref u),Z,x11,x12,x13,x14,x15,x16,x17])
   ⟨W,[],J0,f4,_,_,_,_,_,_,_,_,_,rfl⟩ ?_ ?_
  ·rintro i σ H3 hi ⟨W,es,J,s3,x3,Z,x11,x12,x13,x14,x15,x16,x17,rfl⟩;rw [R9];refine aF ?_;obtain ⟨ms,em⟩ :∃ms:List Int,fP (O.map V.int) (some (1 + (i:Int))) (some 63) (some (2 * 5))=ms.map V.int:=D_ λ y hy=>by obtain ⟨c,_,rfl⟩:=List.mem_map.mp (IB hy);exact ⟨c,rfl⟩
   have pl:(fP (O.map V.int) (some (1 + (i:Int))) (some 63) (some (2 * 5))).length<=ZE:=C0 (Nt '%') (by rw [D0];exact C0 hn '!');refine gC ?_;refine ⟨_,rfl,_,rfl,.inl ⟨_,_,rfl,rfl,_,rfl,63,rfl,_,rfl,_,_,rfl,rfl,.inl ⟨'!','!'⟩,_,rfl,sc,_,rfl,s3.seq sq,(show (some (2 * 5:Int))≠some 0 from λ e=>by injection e with e;lia),pl,λ p4 n8=>?_⟩⟩;have q4:=af.upd (o:=.lst (fP (O.map V.int) (some (1 + (i:Int))) (some 63) (some (2 * 5)))) n8;refine ⟨p4,ms,rfl,aH.of (by rw [<-em];exact ab),?_⟩;refine ⟨_,rfl,_,rfl,_,_,rfl,rfl,.inl ⟨'!','!'⟩,.inl ⟨_,_,rfl,rfl,nk,λ C f5=>?_⟩⟩;refine aF ?_;have q5:=af.upd (o:=.lst [.int ms.sum,.int (i0 % 2),.int (9 + 5 * (i:Int))]) f5;have D5:bq (upd (upd H3 p4 (.lst (fP (O.map V.int) (some (1 + (i:Int))) (some 63) (some (2 * 5))))) C (.lst [.int ms.sum,.int (i0 % 2),.int (9 + 5 * (i:Int))])) C (9 + 5 * i):=⟨_,_,_,ab,y0,y1,by lia,by lia⟩
   have J5:=(J.same q4).same q5;have p5:H C=none:=(s3.trans q4).free f5;have s5:=(s3.trans q4).trans q5;generalize upd (upd H3 p4 (.lst (fP (O.map V.int) (some (1 + (i:Int))) (some 63) (some (2 * 5))))) C (.lst [.int ms.sum,.int (i0 % 2),.int (9 + 5 * (i:Int))])=H5 at D5 J5 s5⊢;have nd:u≠C/\l≠C/\D≠C:=by
    obtain ⟨G,b1,c1,e1,_⟩:=D5;refine ⟨λ z=>?_,λ z=>?_,λ z=>?_⟩
    ·obtain ⟨kv,e,_⟩:=(J.same q4).uw;rw [z,f5] at e;cases e
    ·obtain ⟨kv,e,_⟩:=(J.same q4).ev;rw [z,f5] at e;cases e
    ·have e:=(J.same q4).hn;rw [z,f5] at e;cases e
   have g1 :∀{n:Nat} {Ha Hb:Hp},af H Ha->Dw C n Ha Hb->af H Hb:=λ sa wa=>oR sa (wa.keptL (L:=[C]) (by simp)) λ c B=>by rw [List.mem_singleton.mp B];exact p5
   refine gC ?_;refine ⟨_,rfl,_,rfl,_,rfl,.inl ⟨D,_,rfl,.inl (aH.of J5.hn),C,_,_,rfl,D5,by lia,by rw [D0];lia,by rw [D0];lia,λ t6 H6 w6 o7 r3=>?_⟩⟩;obtain ⟨v6,t0,p2⟩:=eP (xs:=hs.map V.int) o7 r3;obtain ⟨b,l2,rfl⟩:=List.mem_map.mp p2;have Y:=J5.dw D5 w6 nd;have s6:=g1 s5 w6;have D6:=w6.r;refine .inl ⟨D,_,t6,_,rfl,rfl,aH.of Y.hn,t0,?_⟩;refine aF ?_;obtain ⟨b0,b4,p1,g7,m6⟩:=Y.uw;have dg:d_ H6 u (.int b) (bM b0 (.inl b)):=d_.k (k:=.inl b) b4;refine ⟨_,rfl,_,rfl,u,_,rfl,dg,_,rfl,?_⟩;cases hv:bM b0 (.inl b) with
   | some v=>
    refine bz rfl ?_;obtain ⟨f,rfl,ow,f6,g8,g0⟩:=m6 _ _ hv;refine gC ?_;refine ⟨_,rfl,u,rfl,.inl ⟨_,.inl b4⟩,_,rfl,b0,.inl b,.ref f,b4,rfl,hv,?_⟩;refine aF ?_;have k7:aK [u] H6 (upd H6 u (.dK (cF b0 (.inl b)))):=aK.set (by simp);have T7:Tt (kx w) H6 (upd H6 u (.dK (cF b0 (.inl b)))):=aK.tt k7 λ c B=>by rw [List.mem_singleton.mp B];exact .inr ⟨_,b4⟩
    have j4:upd H6 u (.dK (cF b0 (.inl b))) u=some (.dK (cF b0 (.inl b))):=ab;generalize upd H6 u (.dK (cF b0 (.inl b)))=H7 at k7 T7 j4⊢;obtain ⟨ys,c8,f0⟩:=Y.ev;have d1:l≠u:=λ z=>by rw [z,b4] at c8;cases c8
    have i2:D≠u:=λ z=>by have:=Y.hn;rw [z,b4] at this;cases this
    have d6 :∀{p:ZR},eK (kx w) H6 S p->p≠u:=λ o z=>by obtain ⟨_,_,_,_,_,_,e,_⟩:=o;rw [z,b4] at e;cases e
    have m9:b∈es.foldl fA []:=by have:(Sum.inl b:Key)∈b0.map (·.1):=dJ.mp (by rw [hv];rfl);rw [g7] at this;obtain ⟨k,hk,e⟩:=List.mem_map.mp this;exact L9 e ▸ hk
    have J7:jt (kx w) H7 H pt W u l D S hs i ((es.foldl fA []).filter λ k=>decide (k≠b)) es:=⟨Y.th.tt T7,Y.st.tups T7.t,⟨_,j4,C0 (FO _ _) p1,Qk g7,λ k v e=>by obtain ⟨p,h1,h2,h3⟩:=m6 k v (OV e);exact ⟨p,h1,h2.tt T7 λ o e=>k7 _ _ (by simp [d6 h2]) e,h3⟩⟩,⟨ys,k7 _ _ (by simp [d1]) c8,bG (λ _ _ y=>y.tt T7) f0⟩,k7 _ _ (by simp [i2]) Y.hn,Y.ln,Y.wf,Y.cn,Y.hb⟩
    have f7:=ow.tt T7 λ o e=>k7 _ _ (by simp [d6 ow]) e;have D7:bq H7 C (9 + 5 * i + 1):=by obtain ⟨G,b1,c1,e1,z1⟩:=D6;exact ⟨G,b1,c1,k7 _ _ (by simp [F4 nd.1]) e1,z1⟩
    have s7:af H H7:=oR s6 k7 λ c B=>by rw [List.mem_singleton.mp B];exact fu
    have i3:f≠C:=λ z=>by obtain ⟨_,_,_,_,_,_,e,_⟩:=f7;obtain ⟨G,b1,c1,e1,_⟩:=D7;rw [z,e1] at e;cases e
    obtain ⟨nm,vb,x,a,k,d,eo,hm,b8,ix,wi,an⟩:=id f7;refine Ai (λ σ1 M=>∃ps' a' xs,aK [f] H7 M/\eK (kx w) M S f/\M f=some (.lst (xs++[a']))/\xs.length=3/\mX a'/\g_ (kx w) M ps' S (i + 1)/\σ1=[some (.ref sc),some (.int 5),some (.int (i0 % 2)),some (.ref C),some (.ref pt),some (.ref D),some (.int b6),some (.ref ps'),some (.ref l),some (.ref u),some (.int (i:Int)),some (.int b),some (.ref f),x13,x14,x15,x16,x17]) ?_ (λ tl=>?_);rotate_left
    ·refine ⟨_,rfl,.inl ⟨f,_,3,a,rfl,rfl,aH.of eo,bF (j:=3) rfl,rfl,_,rfl,?_⟩⟩;by_cases za:a=.non
     ·refine bz (ZY za) ?_;obtain ⟨u3,p0⟩:=J7.st;refine ⟨_,rfl,_,rfl,_,rfl,pt,W,f,S,i,u3,nm,vb,x,a,k,d,rfl,J7.th,ok.thw,p0,by lia,eo,hm,b8,ix,wi,HL '%' eo hm b8 ix wi ?_⟩;rintro p' M k8 i7 ⟨a',xs,e8,l8,ai⟩ e0;exact tl _ _ ⟨p',a',xs,k8,i7,e8,l8,ai,e0,rfl⟩
     ·exact bH (by rw [ZX za];decide) (tl _ _ ⟨W,a,[.str nm,.str vb,x],aK.refl,f7,eo,rfl,an.resolve_left za,J7.st.le (S3 _),rfl⟩)
    rintro σ8 M ⟨ps',a',xs8,k8,i7,e8,l8,ai,e0,rfl⟩;have T8:Tt (kx w) H7 M:=aK.tt k8 λ c B=>by rw [List.mem_singleton.mp B];exact f7.mutAt
    have J8:jt (kx w) M H pt W u l D S hs i ((es.foldl fA []).filter λ k=>decide (k≠b)) es:=J7.tt T8 [f] k8 ⟨by simp [F4 (d6 ow)],by simp [F4 f6],by simp [F4 g8]⟩ λ p hp _=>by rw [List.mem_singleton.mp hp];exact i7
    have D8:bq M C (9 + 5 * i + 1):=by obtain ⟨G,b1,c1,e1,z1⟩:=D7;exact ⟨G,b1,c1,k8 _ _ (by simp [F4 i3]) e1,z1⟩
    have s8:af H M:=oR s7 k8 λ c B=>by rw [List.mem_singleton.mp B];exact g0
    refine gC ?_;refine ⟨_,rfl,.inl ⟨f,_,3,a',rfl,rfl,aH.of e8,bF (j:=3) (by rw [X1 '%',l8];rfl),?_⟩⟩;refine aF ?_;refine Ai (λ σ1 H9=>∃a9 n9,Dw C n9 M H9/\mX a9/\σ1=[some (.ref sc),some (.int 5),some (.int (i0 % 2)),some (.ref C),some (.ref pt),some (.ref D),some (.int b6),some (.ref ps'),some (.ref l),some (.ref u),some (.int (i:Int)),some (.int b),some (.ref f),some a9,x14,x15,x16,x17]) ?_ (λ j9=>?_);rotate_left
    ·obtain ⟨T0,tg,nt⟩ :∃T0,bA M a' T0/\hW T0 "tuple" = false:=by
      rcases ai with ⟨i9,rfl⟩|rfl|rfl
      ·exact ⟨"int",rfl,'!'⟩
      ·exact ⟨"str",rfl,'!'⟩
      ·exact ⟨"str",rfl,'!'⟩
     refine ⟨_,rfl,_,_,T0,rfl,tg,'!',_,rfl,?_⟩;rw [nt];refine cK ?_;refine ⟨_,rfl,_,rfl,C,b6,_,rfl,D8,by lia,u1,by lia,λ t9 H9 w9 _ _=>⟨rfl,_,rfl,gf (λ _=>?_) λ _=>j9 _ _ ⟨a',_,w9,ai,rfl⟩⟩⟩;refine ⟨_,_,rfl,rfl,p9,_,rfl,xk,λ l9 i6=>?_⟩;refine ⟨_,rfl,C,7,_,rfl,w9.r.same (af.upd i6),by lia,'!','!',λ w0 a6 e3 h0 h1=>?_⟩;obtain ⟨a0,n7,i4⟩:=eP (xs:=[V.str "ok",.str "none",.int 0,.int 1,.int 2,.int (10 ^ (9:Int).toNat),.int (-1)]) h0 h1;refine .inl ⟨l9,_,w0,a0,rfl,rfl,aH.of (e3.k _ _ (w9.r.fresh i6) ab),n7,j9 _ _ ⟨a0,_,(w9.same (af.upd i6)).trans e3,?_,rfl⟩⟩;simp only [R1,u0,or_false] at i4;rcases i4 with rfl|rfl|rfl|rfl|rfl|rfl|rfl
     ·exact .inr (.inl rfl)
     ·exact .inr (.inr rfl)
     ·exact .inl ⟨_,rfl⟩
     ·exact .inl ⟨_,rfl⟩
     ·exact .inl ⟨_,rfl⟩
     ·exact .inl ⟨_,rfl⟩
     ·exact .inl ⟨_,rfl⟩
    rintro σ9 H9 ⟨a9,n9,w9,ai9,rfl⟩;have J9:=J8.dw D8 w9 nd;have g3:=e0.tups (w9.tt D8).t;have s9:=g1 s8 w9;obtain ⟨U,d0,m2⟩:=J9.ev;have i5:U.length<=20:=by rw [cD m2];have:=J9.ln;lia
    refine ⟨_,rfl,.inl ⟨rfl,_,aH.of d0⟩,_,rfl,_,rfl,nk,λ a4 r2=>?_⟩;have a5:=af.upd (o:=.tup [.str "end",.int b,a9]) r2;have g5:upd H9 a4 (.tup [.str "end",.int b,a9]) a4=some (.tup [.str "end",.int b,a9]):=ab;have F:=J9.same a5;have l3:=g3.tups (.of a5);generalize upd H9 a4 (.tup [.str "end",.int b,a9])=a6 at a5 g5 F l3⊢;have e2:=a5 _ _ d0;have f9:=bG (λ _ _ z=>lD.tt (.of a5) z) m2;refine ⟨l,U,_,rfl,rfl,e2,U1 i5 '!',?_⟩;have d2:aK [l] a6 (upd a6 l (.lst (U++[.ref a4]))):=aK.set (by simp);have d5:Tt (kx w) a6 (upd a6 l (.lst (U++[.ref a4]))):=aK.tt d2 λ c B=>by rw [List.mem_singleton.mp B];exact .inl ⟨_,e2⟩
    have e5:upd a6 l (.lst (U++[.ref a4])) l=some (.lst (U++[.ref a4])):=ab;generalize upd a6 l (.lst (U++[.ref a4]))=b5 at d2 d5 e5⊢;obtain ⟨c7,f8,l5,g6,i8⟩:=F.uw;have g2:D≠l:=λ z=>j5 z.symm;have h9:u≠l:=λ z=>d1 z.symm;refine ⟨ps',es++[.fin b a9],⟨F.th.tt d5,l3.tups d5.t,⟨c7,d2 _ _ (by simp [h9]) f8,V5 l5,by rw [j25];exact g6,λ k v e=>?_⟩,⟨_,e5,?_⟩,d2 _ _ (by simp [g2]) F.hn,?_,kU.snoc (e:=.fin b a9) F.wf m9,C0 (K5 Pi) F.cn,HE (e:=.fin b a9) F.hb l2⟩,oR (s9.trans a5) d2 (λ c B=>by rw [List.mem_singleton.mp B];exact fl),_,_,_,_,_,_,_,_,_,rfl⟩
    ·obtain ⟨p,h1,h2,h3⟩:=i8 k v e;exact ⟨p,h1,h2.tt d5 λ o e=>d2 _ _ (by simp [h3.1]) e,h3⟩
    ·refine mw (bG (λ _ _ z=>lD.tt d5 z) f9) ?_;have se:=d5.l _ _ g5;refine ⟨⟨a4,rfl,aG.of se⟩,⟨a4,_,rfl,aG.of se⟩,?_⟩;rcases ai9 with ⟨i9,rfl⟩|rfl|rfl
     ·exact .inl ⟨_,rfl⟩
     ·exact .inr ⟨_,rfl⟩
     ·exact .inr ⟨_,rfl⟩
    ·rw [L0];exact o6 F.ln
   | none=>
    refine bH '!' ?_;obtain ⟨ys,c8,f0⟩:=Y.ev;have d1:l≠u:=λ z=>by rw [z,b4] at c8;cases c8
    have o3:ys.length<=20:=by rw [cD f0];have:=Y.ln;lia
    refine vf (Rg ?_);refine KI (α:=Ev×V) (K:=KX w.params) (l:=l) (rs:=es.zip ys) (xs:=ys) (RA:=λ H a v=>a.2=v/\lD (kx w) S H a.1 v) (.fin 0 .non,.non) (λ a=>decide (V.str (gA a.1)=V.str "begin")) (λ a=>a.2) (λ R h=>⟨_,rfl,h⟩) (aH.of c8) (λ H H' a v s z=>⟨z.1,z.2.tt (.of s)⟩) (GS f0) ?_ ?_ ?_
    ·exact C0 (by rw [List.length_zip];exact Nat.min_le_right _ _) (C0 o3 '!')
    ·rintro ⟨z,v⟩ _ v' H7 s7 ⟨rfl,⟨_,⟨p,r,rfl,sqp⟩,_⟩⟩ KT KF h1 h2;refine ⟨[some (.ref p)],rfl,rfl,?_⟩;refine ⟨_,rfl,.inr (.inl ⟨p,_,0,.str (gA z),rfl,rfl,sqp,bF (j:=0) rfl,rfl,_,rfl,?_⟩)⟩;by_cases y:decide (V.str (gA z)=V.str "begin")=true
     ·exact bz y ⟨_,rfl,h1 y _ (af.refl _)⟩
     ·exact bH y (h2 (by simpa using y) _ (af.refl _))
    intro l7 H7 q7 t3;have q8:=af.upd (o:=.lst (((es.zip ys).filter λ a=>decide (V.str (gA a.1)=V.str "begin")).map λ a=>a.2)) t3;refine .inl ⟨l7,_,rfl,.inl (aH.of ab),_,rfl,_,_,rfl,rfl,_,rfl,?_⟩;have J8:=Y.same (q7.trans q8);have D8:=D6.same (q7.trans q8);have s8:=s6.trans (q7.trans q8);generalize upd H7 l7 (.lst (((es.zip ys).filter λ a=>decide (V.str (gA a.1)=V.str "begin")).map λ a=>a.2))=M at J8 D8 s8⊢;refine gf (λ g4=>?_) λ _=>⟨W,es,J8.le,s8,_,_,_,_,_,_,_,_,_,rfl⟩
    have w8:jg es + 1<=5:=by have g4:=ZW g4;have hz:((es.zip ys).filter λ a=>decide (V.str (gA a.1)=V.str "begin")).length=jg es:=CJ (p:=nJ) (cD f0).symm;rw [D0,hz] at g4;exact Int.ofNat_lt.mp g4
    obtain ⟨yt,j7,m0⟩:=J8.th;have x5:yt.length=S.length:=cD m0;have x2:=ok.n0;have x0:=ok.n6;refine ⟨_,rfl,_,rfl,_,rfl,.inl ⟨pt,yt,rfl,.inr (aG.of j7),C,_,_,rfl,D8,by lia,by lia,by lia,λ t9 H9 w9 n5 v8=>?_⟩⟩;obtain ⟨v9,v1,p3⟩:=eP (xs:=yt) n5 v8;obtain ⟨j,hj⟩:=List.mem_iff_getElem?.mp p3;obtain ⟨t,ht,b9,rfl,e9⟩:=fJ m0 hj;have h5:=S0 ht;have T9:Tt (kx w) M H9:=w9.tt D8;refine .inr (.inl ⟨pt,yt,t9,_,rfl,rfl,aG.of (T9.l _ _ j7),v1,b9,_,rfl,aG.of (T9.l _ _ e9),rfl,_,_,rfl,_,_,rfl,rfl,?_⟩);refine ⟨_,rfl,_,rfl,C,t.2,_,rfl,w9.r,by lia,ok.ks t h5,λ a4 a0 Z m4 a6 r7 e3 i4 g5 _ b8 ix wi=>⟨a4,_,rfl,aG.of g5,rfl,_,_,rfl,_,_,rfl,rfl,?_⟩⟩;have l4:=w9.trans e3;have F:=J8.dw D8 l4 nd;have u4:=e3.r;have f4:=g1 s8 l4;obtain ⟨U,e2,f9⟩:=F.ev;have i5:U.length<=20:=by rw [cD f9];have:=F.ln;lia
    refine ⟨_,rfl,.inl ⟨rfl,_,aH.of e2⟩,_,rfl,_,rfl,_,rfl,_,rfl,Ef,λ c9 r5=>?_⟩;obtain ⟨b5,v_,d7,n4⟩:=eZ (.tup [.str "begin",.int b,.str t.1,.str a0,Z]) r5;rw [<-v_];have e5:=d7 _ _ e2;refine ⟨l,U,_,rfl,rfl,e5,U1 i5 '!',?_⟩;have d8:aK [l] b5 (upd b5 l (.lst (U++[.ref c9]))):=aK.set (by simp);have k3:Tt (kx w) b5 (upd b5 l (.lst (U++[.ref c9]))):=aK.tt d8 λ c B=>by rw [List.mem_singleton.mp B];exact .inl ⟨_,e5⟩
    have h6:upd b5 l (.lst (U++[.ref c9])) l=some (.lst (U++[.ref c9])):=ab;generalize upd b5 l (.lst (U++[.ref c9]))=H12 at d8 k3 h6⊢;obtain ⟨c7,f8,l5,g6,i8⟩:=F.uw;have g2:D≠l:=λ z=>j5 z.symm;have h9:u≠l:=λ z=>d1 z.symm;have j3:af H H12:=oR (f4.trans d7) d8 λ c B=>by rw [List.mem_singleton.mp B];exact fl
    have l1:=d8 _ _ (show u∉[l] by simp [h9]) (d7 _ _ f8);have s0:=d8 _ _ (show D∉[l] by simp [g2]) (d7 _ _ F.hn);refine ⟨_,rfl,_,rfl,_,rfl,sr,λ f b3=>?_⟩;have d3:=af.upd (o:=.lst [.str t.1,.str a0,Z,.non]) b3;have k0:upd H12 f (.lst [.str t.1,.str a0,Z,.non]) f=some (.lst [.str t.1,.str a0,Z,.non]):=ab;have f6:f≠l:=λ z=>by rw [z,h6] at b3;cases b3
    have g8:f≠D:=λ z=>by rw [z,s0] at b3;cases b3
    have d6:f≠u:=λ z=>by rw [z,l1] at b3;cases b3
    have g0:H f=none:=j3.free b3;generalize upd H12 f (.lst [.str t.1,.str a0,Z,.non])=H13 at d3 k0⊢;have k1:=d3 _ _ l1;refine ⟨_,rfl,_,rfl,u,_,rfl,hJ.k (k:=.inl b) k1 (U1 (m:=100) '%' '!'),?_⟩;have d9:aK [u] H13 (upd H13 u (.dK (putK c7 (.inl b) (.ref f)))):=aK.set (by simp);have m1:Tt (kx w) H13 (upd H13 u (.dK (putK c7 (.inl b) (.ref f)))):=aK.tt d9 λ c B=>by rw [List.mem_singleton.mp B];exact .inr ⟨_,k1⟩
    have j0:upd H13 u (.dK (putK c7 (.inl b) (.ref f))) u=some (.dK (putK c7 (.inl b) (.ref f))):=ab;generalize upd H13 u (.dK (putK c7 (.inl b) (.ref f)))=H14 at d9 m1 j0⊢;have k4:Tt (kx w) b5 H14:=(k3.trans (.of d3)).trans m1;have T:Tt (kx w) a6 H14:=Tt.trans (.of d7) k4;have kk:aK [l,u] a6 H14:=λ c o n e=>by simp only [R1,u0,or_false,not_or] at n;exact d9 _ _ (by simp [n]) (d3 _ _ (d8 _ _ (by simp [n]) (d7 _ _ e)))
    have v3:af H H14:=oR (j3.trans d3) d9 λ c B=>by rw [List.mem_singleton.mp B];exact fu
    have m8:=d9 _ _ (show f∉[u] by simp [d6]) k0;have l6:eK (kx w) H14 S f:=⟨t.1,a0,Z,.non,t.2,m4,m8,h5,b8,bZ.mono' T.t _ _ ix,wi.tt T,.inl rfl⟩
    have m3:(Sum.inl b:Key)∉b0.map (·.1):=λ z=>by have:=dJ.mpr z;rw [hv] at this;cases this
    have r0:b∉es.foldl fA []:=λ z=>m3 (by rw [g7];exact List.mem_map.mpr ⟨b,z,rfl⟩);have o2:jt (kx w) H14 H pt W u l D S hs (i + 1) ((es++[Ev.beg b (.str t.1) (.str a0) Z]).foldl fA []) (es++[.beg b (.str t.1) (.str a0) Z]):=by
     refine ⟨F.th.tt T,(F.st.tups T.t).le (S3 _),⟨_,j0,C0 (HK _ _ _) '%',?_,λ k v e=>?_⟩,⟨_,d9 _ _ (show l∉[u] by simp [d1]) (d3 _ _ h6),?_⟩,kk _ _ (by simp [g2,i2]) F.hn,?_,kU.snoc (e:=.beg b (.str t.1) (.str a0) Z) F.wf r0,C0 (K5 Ny) w8,HE (e:=.beg b (.str t.1) (.str a0) Z) F.hb l2⟩
     ·have p8:(Sum.inl b:Key)∉c7.map (·.1):=by rw [g6,<-g7];exact m3
      rw [j25,HU p8,N1,g6];show _=((es.foldl fA [])++[b]).map Sum.inl;rw [N1];rfl
     ·rw [qY] at e;by_cases z:k=.inl b
      ·rw [ZZ z] at e;cases e;exact ⟨f,rfl,l6,f6,g8,g0⟩
      ·rw [Z_ z] at e;obtain ⟨p,h1,h2,h3⟩:=i8 k v e;refine ⟨p,h1,h2.tt T λ o e=>kk _ _ ?_ e,h3⟩;have:p≠u:=λ y=>by obtain ⟨_,_,_,_,_,_,e,_⟩:=h2;rw [y,f8] at e;cases e
       simp [h3.1,this]
     ·refine mw (bG (λ _ _ z=>lD.tt T z) f9) ?_;have se:=k4.l _ _ n4;exact ⟨⟨c9,rfl,aG.of se⟩,⟨c9,_,rfl,aG.of se⟩,⟨t.1,t.2,a0,m4,rfl,rfl,h5,b8,bZ.mono' T.t _ _ ix,wi.tt T⟩⟩
     ·rw [L0];exact o6 F.ln
    have e4:bq H14 C r7:=by obtain ⟨G,b1,c1,e1,z1⟩:=u4;exact ⟨G,b1,c1,kk _ _ (by simp [F4 nd.1,F4 nd.2.1]) e1,z1⟩
    have i3:f≠C:=λ z=>by obtain ⟨G,b1,c1,e1,_⟩:=e4;rw [<-z,m8] at e1;cases e1
    refine ⟨_,rfl,C,2,_,rfl,e4,by lia,'!','!',λ x8 j2 d4 _ _=>⟨rfl,_,rfl,?_⟩⟩;have h8:=o2.dw e4 d4 nd;have k5:=g1 v3 d4;have o8:=d4.k _ _ nd.1 j0;have k2:eK (kx w) j2 S f:=l6.tt (d4.tt e4) λ o e=>d4.k _ _ i3 e;refine gf (λ _=>?_) λ _=>⟨W,_,h8,k5,_,_,_,_,_,_,_,_,_,rfl⟩
    have o9:d_ j2 u (.int b) (some (.ref f)):=by have:=d_.k (k:=.inl b) o8;rw [qY,ZZ rfl] at this;exact this
    obtain ⟨nm,vb,x,a,k,d,eo,hm,b8,ix,wi,an⟩:=id k2;obtain ⟨p6,t8⟩:=F.st.tups (T.trans (d4.tt e4)).t;refine ⟨_,rfl,_,rfl,_,rfl,_,rfl,u,.ref f,rfl,o9,pt,W,f,S,i,p6,nm,vb,x,a,k,d,rfl,h8.th,ok.thw,t8,by lia,eo,hm,b8,ix,wi,HL '%' eo hm b8 ix wi ?_⟩;rintro p' u5 j1 r6 _ u7;have q0:Tt (kx w) j2 u5:=aK.tt j1 λ c B=>by rw [List.mem_singleton.mp B];exact k2.mutAt
    have b7:=h8.tt q0 [f] j1 ⟨by simp [F4 d6],by simp [F4 f6],by simp [F4 g8]⟩ λ p hp _=>by rw [List.mem_singleton.mp hp];exact r6
    exact ⟨p',_,⟨b7.th,u7,b7.uw,b7.ev,b7.hn,b7.ln,b7.wf,b7.cn,b7.hb⟩,oR k5 j1 (λ c B=>by rw [List.mem_singleton.mp B];exact g0),_,_,_,_,_,_,_,_,_,rfl⟩
  ·rintro σ H3 ⟨W,es,J,s3,x3,Z,x11,x12,x13,x14,x15,x16,x17,rfl⟩;obtain ⟨ys,p7,w3⟩:=J.ev;refine ⟨_,rfl,_,rfl,l,ys,rfl,.inl ⟨aH.of p7,λ te o1=>⟨cV,λ t ht=>?_⟩⟩⟩;have sE:=af.upd (o:=.tup ys) o1;have sF:=sE.trans (af.upd (o:=.tup [.ref pt,.ref te]) ht);exact q t pt te ys es S _ (s3.trans sF) ab ((af.upd ht) _ _ ab) (J.th.tt (.of (K:=KX w.params) sF)) ok r9 (bG (λ _ _ z=>lD.tt (.of sF) z) w3) (C0 J.ln tn) J.wf J.cn (λ e he=>j8 _ (J.hb e he))
noncomputable def ku:Sv->ZJ
 | .num i=>.int i
 | .row ns=>.tuple (ns.map PyData.int)
noncomputable def bO (pl:Pl):ZJ:=.tuple [.tuple (pl.1.map λ (n:Nat)=>.int (n:Int)),.tuple (pl.2.map ku)]
theorem HC:∀ns:List Int,dS K H (ns.map PyData.int) (ns.map V.int)
 | []=>rfl
 | n :: ns=>⟨_,_,rfl,rfl,HC ns⟩
theorem Fe:∀ns:List Nat,dS K H (ns.map λ (n:Nat)=>.int (n:Int)) (dM ns)
 | []=>rfl
 | n :: ns=>⟨_,_,rfl,rfl,Fe ns⟩
theorem q_:∀{s:Sv} {v:V},gK K H s v->dy K H (ku s) v
 | .num _,_,h=>h
 | .row ns,_,h=>h.elim λ p z=>⟨p,_,z.1,z.2,HC ns⟩
def Qw (h:av (gK K H) ss vs):dS K H (ss.map ku) vs:=by
 induction h with
 | nil=>exact (rfl:([]:List V)=[])
 | cons a r ih=>exact ⟨_,_,rfl,q_ a,ih⟩
def gr {pl:Pl} (h:iU K H p pl):dy K H (bO pl) (.ref p):=by obtain ⟨f,e,g,c,d,b,a⟩:=h;exact ⟨p,_,rfl,c,_,_,rfl,⟨f,_,rfl,d,Fe _⟩,_,_,rfl,⟨e,_,rfl,b,Qw a⟩,rfl⟩
theorem wj {α:Type} {f:α->ZJ} :∀{xs:List α},(∀x∈xs,bC (f x)=true)->ir (xs.map f)=true
 | [],_=>rfl
 | x :: xs,h=>by show (bC (f x) && ir (xs.map f))=true;rw [h x R0,wj λ y a=>h y (Y0 _ a)];rfl
theorem vU {α:Type} {f:α->ZJ} {n:Nat} :∀{xs:List α},(∀x∈xs,(f x).depth<=n)->D2 (xs.map f)<=n
 | [],_=>J1 _
 | x :: xs,h=>by have b:=h x R0;have c:=vU (f:=f) (n:=n) (xs:=xs) λ y a=>h y (Y0 _ a);show max (f x).depth (D2 (xs.map f))<=n;omega
theorem CM (s:Sv):bC (ku s)=true/\(ku s).depth<=1:=by
 cases s with
 | num i=>exact ⟨rfl,J1 _⟩
 | row ns=>exact ⟨wj λ _ _=>rfl,by have:=vU (f:=PyData.int) (n:=0) (xs:=ns) (λ _ _=>o0 _);simp only [ku,j19];omega⟩
theorem yK (pl:Pl):bC (bO pl)=true/\(bO pl).depth<=3:=by
 have a:ir (pl.1.map λ (n:Nat)=>PyData.int (n:Int))=true:=wj λ _ _=>rfl;have b:ir (pl.2.map ku)=true:=wj λ s _=>(CM s).1;have d:=vU (f:=λ (n:Nat)=>PyData.int (n:Int)) (n:=0) (xs:=pl.1) (λ _ _=>o0 _);have c:=vU (f:=ku) (n:=1) (xs:=pl.2) (λ s _=>(CM s).2);refine ⟨?_,?_⟩
 ·show (ir _ && (ir _ && true))=true;rw [a,b];rfl
 ·unfold bO;simp only [j19,D2];omega
theorem OL {rs:List Rc} {pl:Pl} {k:Nat} (gd:av (dQ K H ts) rs ps) (ok:jT ts) (po:eJ ts N k pl) (rl:N<=63) (hN:N=rs.length) (hc :∀n,c n=true->n∉pl.1) (hi:i<=N) :∀s∈eM c ts rs ps pl i,jr s.2.1/\∃n r p sv,n < N/\c n=true/\rs[n]? = some r/\ps[n]? = some p/\pl.2[gJ ts p.nm]? = some sv/\cS k p.k sv/\s=qH ts p n pl sv:=by
 intro s b;unfold eM at b;obtain ⟨n,l,e⟩:=List.mem_filterMap.mp b;have l:=List.mem_range.mp l;unfold dF at e;cases h:c n with
 | false=>rw [h] at e;cases e
 | true=>
  have d:rs[n]? = some rs[n]:=F0 (by omega);obtain ⟨p,m,g⟩:=hV gd d;rw [ZZ h,d,m] at e;generalize rs[n]=r at d g e;have o:=iE ok g.2.2.1;obtain ⟨sv,b,f⟩:=hV po.so o;have e:ff ts r p n pl=some s:=e;rw [jP b] at e;cases hb:r.e.isNone || decide ((dz p.k p.vb p.dt sv).2=r.a) with
  | false=>rw [hb] at e;cases e
  | true=>rw [hb] at e;have e:qH ts p n pl sv=s:=Q1 e;have q:=hX g.2.2.2.1 f (po.n63 rl (j:=n) (by omega) (hc n h)).1;rw [<-e];exact ⟨q.2,n,r,p,sv,by omega,h,d,m,b,f,rfl⟩
def km {rs:List Rc} {ns:List Nat} (h:cP m rs ns n=true):n∉ns:=ZW (Bool.and_eq_true_iff.mp (Bool.and_eq_true_iff.mp h).1).1
def eQ (o:HO) (h:H p=none) :∃H',H'=upd H p o/\af H H'/\H' p=some o:=⟨_,rfl,af.upd h,ab⟩
def xO {rs:List Rc} {pl:Pl} (gd:av (dQ K H ts) rs ps) (ok:jT ts) (po:eJ ts rs.length pl.1.length pl) (rl:rs.length<=63) :∀s∈eM (cP m rs pl.1) ts rs ps pl rs.length,eJ ts rs.length s.2.2.1.length s.2.2/\s.2.2.1.length=pl.1.length + 1:=by
 intro s C;obtain ⟨_,n,r,p,y,u,L,w,I,B,E,rfl⟩:=OL (c:=cP m rs pl.1) gd ok po rl rfl (λ n h=>km h) (o0 _) s C;have v:=km L;have j:=HH (pl.1++[n]);have q:(gk (pl.1++[n])).length=pl.1.length + 1:=by rw [j.length_eq,L0];rfl
 obtain ⟨Q,l,g⟩:=hV gd w;rw [I] at l;cases l;have D:=hX g.2.2.2.1 E (po.n63 rl u v).1;show eJ ts rs.length (gk (pl.1++[n])).length (gk (pl.1++[n]),pl.2.set (gJ ts p.nm) (dz p.k p.vb p.dt y).1)/\(gk (pl.1++[n])).length=pl.1.length + 1;refine ⟨⟨?_,λ x N=>?_,?_,.inr (o0 _)⟩,q⟩
 ·refine j.nodup_iff.mpr ?_;rw [Q4];exact ⟨po.nd,by simp,λ a J b G e=>v (by rw [<-List.mem_singleton.mp G,<-e];exact J)⟩
 ·rcases List.mem_append.mp (j.mem_iff.mp N) with z|z
  ·exact po.lt x z
  ·rw [List.mem_singleton.mp z];exact u
 ·rw [q];have F:pl.2.length=ts.length:=cD po.so;refine tK (by rw [K7,F]) λ i t P f d=>?_;rw [List.getElem?_set] at d;by_cases z:gJ ts p.nm=i
  ·subst z;have A:=iE ok g.2.2.1;rw [A] at f;cases f;rw [ZZ rfl,ZZ (List.getElem?_eq_some_iff.mp B).1] at d;cases d;exact D.1
  ·rw [Z_ z] at d;obtain ⟨O,o,M⟩:=fJ po.so d;rw [f] at o;cases o;exact M.le (S3 _)
def Mn {rs:List Rc} {pl:Pl} (h:dF c ts rs ps pl i=some s):s.1=i/\c i=true:=by
 unfold dF at h;cases e:c i with
 | false=>rw [e] at h;cases h
 | true=>
  rw [ZZ e] at h;refine ⟨?_,rfl⟩;cases hr:rs[i]? with
  | none=>rw [hr] at h;cases h
  | some r=>
   cases hp:ps[i]? with
   | none=>rw [hr,hp] at h;cases h
   | some p=>
    rw [hr,hp] at h;have h:ff ts r p i pl=some s:=h;unfold ff at h;cases hs:pl.2[gJ ts p.nm]? with
    | none=>rw [hs] at h;cases h
    | some sv=>
     rw [hs] at h;dsimp only at h;split at h
     ·cases h;rfl
     ·cases h
theorem G_ {rs:List Rc} {pl:Pl} (nd:pl.1.Nodup) (lt :∀x∈pl.1,x < rs.length):pl.1.length + (eM (cP m rs pl.1) ts rs ps pl rs.length).length<=rs.length:=by
 have k :∀i,(((eM (cP m rs pl.1) ts rs ps pl i).map (·.1)).Nodup/\∀x∈(eM (cP m rs pl.1) ts rs ps pl i).map (·.1),x < i/\x∉pl.1):=λ i=>by
  induction i with
  | zero=>exact ⟨.nil,λ x c=>ZU c u0⟩
  | succ i ih=>
   rw [tf,N1];cases h:dF (cP m rs pl.1) ts rs ps pl i with
   | none=>rw [j0j,j6,A3];exact ⟨ih.1,λ x c=>⟨G2 (ih.2 x c).1,(ih.2 x c).2⟩⟩
   | some s=>
    obtain ⟨e,j⟩:=Mn h;rw [Option.toList_some,G1,j6,e];refine ⟨?_,λ x c=>?_⟩
    ·rw [Q4];refine ⟨ih.1,by simp,λ a f b d z=>?_⟩;have:=(ih.2 a f).1;rw [List.mem_singleton.mp d] at z;omega
    ·rcases List.mem_append.mp c with z|z
     ·exact ⟨G2 (ih.2 x z).1,(ih.2 x z).2⟩
     ·rw [List.mem_singleton.mp z];exact ⟨i3 i,km j⟩
 obtain ⟨l,g⟩:=k rs.length;have:=uv rs.length (pl.1++(eM (cP m rs pl.1) ts rs ps pl rs.length).map (·.1)) (by
  rw [Q4];exact ⟨nd,l,λ a f b d e=>(g b d).2 (e ▸ f)⟩) λ x c=>by
   rcases List.mem_append.mp c with z|z
   ·exact lt x z
   ·exact (g x z).1
 rwa [L0,D0] at this
theorem xF {α:Type} {f:α->ZJ} :∀{xs:List α},(∀x∈xs,bK (f x)=true)->bE (xs.map f)=true
 | [],_=>rfl
 | x :: xs,h=>by show (bK (f x) && bE (xs.map f))=true;rw [h x R0,xF λ y a=>h y (Y0 _ a)];rfl
def pG (s:Sv):bK (ku s)=true:=by
 cases s with
 | num i=>rfl
 | row ns=>exact xF λ _ _=>rfl
def fX (pl:Pl):bK (bO pl)=true:=by have a:bE (pl.1.map λ (n:Nat)=>PyData.int (n:Int))=true:=xF λ _ _=>rfl;have b:bE (pl.2.map ku)=true:=xF λ s _=>pG s;show (bE _ && (bE _ && true))=true;rw [a,b];rfl
def fS (pl:Pl):(bO pl).depth<=7:=C0 (yK pl).2 '!'
theorem xB:∀{xs ys:List ZJ},(∀(i:Nat) x y,xs[i]? = some x->ys[i]? = some y->(eg x y).isSome=true)->(dA xs ys).isSome=true
 | [],_,_=>by unfold dA;rfl
 | _ :: _,[],_=>by unfold dA;rfl
 | x :: xs,y :: ys,h=>by
  unfold dA;dsimp only;split
  ·exact xB λ i a b d c=>h (i + 1) a b d c
  ·exact h 0 x y rfl rfl
def EZ (xs ys:List Int):(eg (.tuple (xs.map PyData.int)) (.tuple (ys.map PyData.int))).isSome=true:=by unfold eg;refine xB λ i x y d c=>?_;rw [Z0] at d c;obtain ⟨a,_,rfl⟩:=Option.map_eq_some_iff.mp d;obtain ⟨b,_,rfl⟩:=Option.map_eq_some_iff.mp c;unfold eg;rfl
def vK {k:ZQ} {n':Nat} {s s':Sv} (h:cS n k s) (h':cS n' k s'):(eg (ku s) (ku s')).isSome=true:=by
 cases s with
 | num i=>
  cases s' with
  | num j=>show (eg (.int i) (.int j)).isSome=true;unfold eg;rfl
  | row ns=>exact ZU h'.1 h.1
 | row ns=>
  cases s' with
  | num j=>exact ZU h.1 h'.1
  | row ms=>exact EZ ns ms
def oh {n':Nat} {pl pl':Pl} (h:eJ ts N n pl) (h':eJ ts N n' pl'):(eg (bO pl) (bO pl')).isSome=true:=by
 unfold bO eg;refine xB λ i x y c d=>?_
 match i,c,d with
 | 0,c,d=>
  cases c;cases d;have e :∀f:List Nat,(f.map λ (n:Nat)=>PyData.int (n:Int))=(f.map λ (n:Nat)=>(n:Int)).map PyData.int:=λ f=>by rw [S2];rfl
  rw [e,e];exact EZ _ _
 | 1,c,d=>cases c;cases d;unfold eg;refine xB λ i x y c d=>?_;rw [Z0] at c d;obtain ⟨a,o,rfl⟩:=Option.map_eq_some_iff.mp c;obtain ⟨b,m,rfl⟩:=Option.map_eq_some_iff.mp d;obtain ⟨t,k,g⟩:=fJ h.so o;obtain ⟨p,j,l⟩:=fJ h'.so m;rw [k] at j;cases j;exact vK g l
 | i + 2,c,d=>cases c
def qF (pl:Pl) :∃xs ys,bO pl=.tuple (.tuple xs :: ys):=⟨_,_,rfl⟩
def xw (ts:List (ZQ×ZQ)) (N:Nat):eJ ts N 0 ([],ts.map λ t=>aS t.2):=⟨.nil,λ _ h=>ZU h u0,by refine tK (by rw [D0]) λ i t s b a=>?_;rw [Z0,b] at a;cases a;exact Dv _,.inl (J1 _)⟩
noncomputable def gF:Nat->Nat
 | 0=>1
 | n + 1=>1 + (n + 1) * (gF n + 1)
noncomputable def fI (N:Nat) (ws:List Pl):Nat:=(ws.map λ pl=>gF (N - pl.1.length)).sum
def vx {xs ys:List Pl}:fI N (xs++ys)=fI N xs + fI N ys:=by unfold fI;rw [N1,List.sum_append]
def sD {x:Pl}:fI N [x]=gF (N - x.1.length):=by unfold fI;simp
theorem Nd:∀{a b:Sv},ku a=ku b->a=b
 | .num i,.num j,h=>by injection h with h;rw [h]
 | .num _,.row _,h=>by cases h
 | .row _,.num _,h=>by cases h
 | .row xs,.row c,h=>by
  injection h with h;have:xs=c:=by
   have inj :∀{xs c:List Int},xs.map PyData.int=c.map PyData.int->xs=c:=λ {xs}=>by
    induction xs with
    | nil=>intro c h;cases c with|nil=>rfl|cons y r=>cases h
    | cons x r ih=>
     intro c h;cases c with
     | nil=>cases h
     | cons y s=>rw [G1,G1] at h;injection h with h1 h2;injection h1 with h1;rw [h1,ih h2]
   exact inj h
  rw [this]
theorem yI {α β:Type} {f:α->β} (hf :∀a b,f a=f b->a=b) :∀{xs ys:List α},xs.map f=ys.map f->xs=ys
 | [],[],_=>rfl
 | [],_ :: _,h=>by cases h
 | _ :: _,[],h=>by cases h
 | x :: xs,y :: ys,h=>by rw [G1,G1] at h;injection h with h1 h2;rw [hf _ _ h1,yI hf h2]
theorem tI {a b:Pl} (h:bO a=bO b):a=b:=by unfold bO at h;injection h with h;injection h with h1 h2;injection h2 with h2 _;injection h1 with h1;injection h2 with h2;have c:a.1=b.1:=yI (λ x y z=>by injection z with z;lia) h1;have d:a.2=b.2:=yI (λ x y z=>Nd z) h2;exact j64 c d
noncomputable abbrev Oa:=Nat×V
noncomputable abbrev gh (m:Nat) (ts:List (ZQ×ZQ)) (rs:List Rc) (ps:List DD) (pl:Pl):List nH:=eM (cP m rs pl.1) ts rs ps pl rs.length
inductive Wk (m:Nat) (ts:List (ZQ×ZQ)) (rs:List Rc) (ps:List DD):List Oa->Pl->Prop
 | nil:Wk m ts rs ps [] ([],ts.map λ t=>aS t.2)
 | snoc {o:List Oa} {pl:Pl} {s:nH}:Wk m ts rs ps o pl->s∈gh m ts rs ps pl->Wk m ts rs ps (o++[(s.1,s.2.1)]) s.2.2
def eC (rs:List Rc) (pl:Pl):Prop:=∀n r,rs[n]? = some r->r.e.isSome=true->n∈pl.1
theorem zM {rs:List Rc} (h0:G ([],ts.map λ t=>aS t.2)) (hs :∀pl,G pl->∀s∈gh m ts rs ps pl,G s.2.2) :∀{o:List Oa} {pl:Pl},Wk m ts rs ps o pl->G pl
 | _,_,.nil=>h0
 | _,_,.snoc w h=>hs _ (zM h0 hs w) _ h
def zN (h:D.nx σ H):mf D σ H:=h
def yR {c:TT} (W B:Nat->L2.St->Hp->Prop) (m0:Nat) (w0:W m0 σ H)
  (body :∀m σ H1,B m σ H1->tb { D with nx:=λ σ' H'=>∃m',m' < m/\W m' σ' H',ct:=λ σ' H'=>∃m',m' < m/\W m' σ' H',bk:=D.nx } σ H1)
  (cond :∀m σ H,W m σ H->(∀H1,B m σ H1->∃N:L2.St->Hp->Prop,(∀σ' H',N σ' H'->∃m',m' < m/\W m' σ' H')/\tb { D with nx:=N,ct:=N,bk:=D.nx } σ H1)->c σ H λ b H1=>if b=true then∃N:L2.St->Hp->Prop,(∀σ' H',N σ' H'->∃m',m' < m/\W m' σ' H')/\tb { D with nx:=N,ct:=N,bk:=D.nx } σ H1 else D.nx σ H1):iB c tb D σ H:=
 ⟨W,⟨m0,w0⟩,λ m σ H h=>cond m σ H h λ H1 b=>⟨_,λ _ _ z=>z,body m σ H1 b⟩⟩
def dZ (K:c0) (H:Hp) (G:Pl->Prop) (ks:List (ZJ×ZR)):Prop:=∀k∈ks,∃pl,k.1=bO pl/\iU K H k.2 pl/\G pl
def dZ.same (s:af H H') (h:dZ K H G ks):dZ K H' G ks:=λ k b=>(h k b).elim λ a z=>⟨a,z.1,z.2.1.tups (.of s),z.2.2⟩
def dZ.put {pl:Pl} (h:dZ K H G ks) (z:iU K H b pl) (g:G pl):dZ K H G (putN ks (bO pl) b):=λ k a=>by
 unfold L2.putN at a;split at a
 ·exact h k a
 ·rcases List.mem_append.mp a with y|y
  ·exact h k y
  ·rw [List.mem_singleton.mp y];exact ⟨pl,rfl,z,g⟩
def dZ.at_ (r:Rd H a (cc a ks)) (h:dZ K H G ks):jf K H a ks:=⟨r,λ k c=>by obtain ⟨b,e,z,_⟩:=h k c;rw [e];exact ⟨fX b,fS b,gr z⟩⟩
def IS (e:H r=some (.ext f)):bN K H (hide r H):=λ a b h=>by
 rcases h with (h|⟨ob,h⟩)|h
 ·exact .inl (.inl (jy (λ z=>by rw [z,e] at h;cases h) h))
 ·exact .inl (.inr ⟨ob,jy (λ z=>by rw [z,e] at h;cases h) h⟩)
 ·exact .inr h
def yk {c:TT} {rest:TS} (h:iB c tb { D with nx:=rest D } σ H):gD (iB c tb) rest D σ H:=h
noncomputable def a_ (a b:ZR) (H:Hp):Hp:=hide a (hide b H)
def xR (s:af H H'):af (a_ a b H) (a_ a b H'):=pR (pR s)
def aP:af (a_ a b H) H:=aM.trans aM
def ft:a_ a b (upd H b o)=a_ a b H:=by unfold a_;rw [uV]
def mV:a_ a b (upd H a o)=a_ a b H:=by
 funext p;unfold a_ hide;by_cases z:p=a
 ·rw [ZZ z,ZZ z]
 ·rw [Z_ z,Z_ z,ak z]
def nu (n1:p≠a) (n2:p≠b) (e:H p=some o):a_ a b H p=some o:=jy n1 (jy n2 e)
def HV (n1:H a=none) (n2:H b=none) (s:af H H'):af H (a_ a b H'):=λ p o e=>nu (λ z=>by rw [z,n1] at e;cases e) (λ z=>by rw [z,n2] at e;cases e) (s _ _ e)
def Da {xs:List V} (ea:H a=some (.ext f)) (eb:H b=some (.lst xs)):bN K H (a_ a b H):=λ p xs h=>by
 rcases h with (h|⟨ob,h⟩)|h
 ·exact .inl (.inl (nu (λ z=>by rw [z,ea] at h;cases h) (λ z=>by rw [z,eb] at h;cases h) h))
 ·exact .inl (.inr ⟨ob,nu (λ z=>by rw [z,ea] at h;cases h) (λ z=>by rw [z,eb] at h;cases h) h⟩)
 ·exact .inr h
theorem qj:∀n,1<=gF n
 | 0=>o0 _
 | n + 1=>by unfold gF;lia
theorem zL {N:Nat} :∀ws:List Pl,ws.length<=fI N ws
 | []=>J1 _
 | w :: ws=>by
  have a:=zL (N:=N) ws;have b:fI N (w :: ws)=gF (N - w.1.length) + fI N ws:=by
   have:=vx (N:=N) (xs:=[w]) (ys:=ws)
   rwa [sD] at this
  have c:=qj (N - w.1.length);rw [U0]
  lia
theorem Hq:∀{n j:Nat},j<=n->j * gF (n - 1) + j < gF n
 | 0,j,h=>by rw [Nat.le_zero.mp h];decide
 | n + 1,j,h=>by
  have:=G7 (gF n + 1) h;have e:j * (gF n + 1)=j * gF n + j:=Nat.mul_succ _ _;show j * gF n + j < 1 + (n + 1) * (gF n + 1)
  lia
def Lb {α β:Type} {R:α->β->Prop} {xs:List α} {ys:List β} (h:av R xs ys):av R xs.reverse ys.reverse:=by
 induction h with
 | nil=>exact .nil
 | cons a r ih=>rw [List.reverse_cons,List.reverse_cons];exact mw ih a
def dZ.mono {G':Pl->Prop} (g :∀pl,G pl->G' pl) (h:dZ K H G ks):dZ K H G' ks:=λ k a=>(h k a).elim λ pl z=>⟨pl,z.1,z.2.1,g pl z.2.2⟩
def AF {d:ZJ} :d∈(putN ks d b).map (·.1):=by
 unfold L2.putN;split
 ·assumption
 ·rw [N1];exact List.mem_append.mpr (.inr (List.mem_singleton.mpr rfl))
def sR {d e:ZJ} (h:e∈ks.map (·.1)):e∈(putN ks d b).map (·.1):=by
 unfold L2.putN;split
 ·exact h
 ·rw [N1];exact List.mem_append.mpr (.inl h)
def EI (K:c0):Sp:=λ vs H Q _=>∃(b pp:ZR) (m:Nat) (rs:List Rc) (ts:List (ZQ×ZQ)) (ps:List DD) (pl:Pl),vs=[.ref b,.ref pp]/\jk K H m rs ts ps b/\rs.length<=63/\iU K H pp pl/\∀b H',af H H'->(b=true↔eC rs pl)->Q (.bl b) H'
theorem OY (T:TX (kx w) mg) (c0:Ca P w mg base "holds_all" ["done","numbers"] 1 (DZ (kx w))):Fo P w mg base CX0 2 271 xu ["self","place"] (EI (kx w)):=by
 refine (Ey w.params).ok Js (λ f H Q E h=>?_) (λ M A K s H f Q E k h=>?_)
 ·obtain ⟨b,e,m,I,J,F,i,rfl,_⟩:=h;rfl
 ·obtain ⟨b,e,m,I,J,F,i,rfl,⟨x,fs,G,u⟩,O,⟨g,L,f,t,l,N,sz⟩,q⟩:=h;refine ⟨_,(aT (aq (aB c0 (k.mono '!') rfl (ao (au aj (pv 1) ag (λ _ _=>rfl)) (ao (bV (pv 0) rfl) ae))))),?_⟩;obtain ⟨le,o,p,v,d⟩:=u.ended;refine ⟨_,rfl,.inr (.inl ⟨e,_,0,.ref g,rfl,rfl,t,bF (j:=0) rfl,?_⟩)⟩;refine ⟨_,rfl,b,_,x,fs,_,rfl,G,kP _,Dg _,p,?_⟩;refine ⟨g,le,i.1,o,rfl,l,v,by have:=d.1;lia,λ z y B D=>q z y B (D.trans ⟨λ h n r a c=>h n ((d.2 n).mpr ⟨r,a,c⟩),λ h n C=>?_⟩)⟩;obtain ⟨r,a,c⟩:=(d.2 n).mp C;exact h n r a c
def kZ (K:c0) (H:Hp) (t:ZR) (ts:List (ZQ×ZQ)) (es:List Ev) (ps:List DD):Prop:=fV K H t ts es/\jT ts/\es.length<=63/\kU [] es/\av (dQ K H ts) (aR 0 [] es) ps/\(aR 0 [] es).length<=5
def kZ.same (s:af H H') (h:kZ K H t ts es ps):kZ K H' t ts es ps:=⟨h.1.tt (.of s),h.2.1,h.2.2.1,h.2.2.2.1,bG (λ _ _ z=>dQ.tt (.of s) z) h.2.2.2.2.1,h.2.2.2.2.2⟩
def Gk {rest:TS} {tA:TA} (tp:kZ (kx w) H t ts es ps) (ha :∀R:List V->Hp->Prop,R [.ref t,.str (fh m)] H->tA σ H R)
  (q :∀x dx fs H1,af H H1->(aR 0 [] es).length<=5->jT ts->av (dQ (kx w) H1 ts) (aR 0 [] es) ps->H1 x=some (.ins 281 dx fs)->sI (kx w) H1 m (aR 0 [] es) ts ps fs->rest D (σ.set i (some (.ref x))) H1):gD (jF (oz 281 (xS (kx w)) [] E0 tA) (bu i)) rest D σ H:=by
 obtain ⟨n,ok,f,j,c,o⟩:=tp;refine ha _ λ x dx e a p=>?_;have h:af H (upd (upd H dx (.own x)) x (.ins 281 dx [])):=(af.upd a).trans (af.upd (by rw [ak p.symm];exact e));have b:Tt (kx w) H (upd (upd H dx (.own x)) x (.ins 281 dx [])):=.of h;refine ⟨x,dx,t,ts,es,ps,m,rfl,ab,n.tt b,ok,f,j,bG (λ _ _ z=>dQ.tt b z) c,λ fs H1 l g k=>⟨rfl,?_⟩⟩;have d:af H H1:=Gb e a l;exact q x dx fs H1 d o ok (bG (λ _ _ z=>dQ.tt (.of d) z) c) g k
def mz (H:Hp) (o:Oa) (y:V):Prop:=∃p,y=.ref p/\H p=some (.tup [.int (o.1:Nat),o.2])
def mz.same {o:Oa} (s:af H H') (h:mz H o y):mz H' o y:=h.elim λ p z=>⟨p,z.1,s _ _ z.2⟩
def jL (K:c0) (H:Hp) (q:List Oa×Pl) (y:V):Prop:=∃p l p2 xs,y=.ref p/\H p=some (.tup [.ref l,.ref p2])/\H l=some (.lst xs)/\av (mz H) q.1 xs/\iU K H p2 q.2
def jL.same {q:List Oa×Pl} (s:af H H') (h:jL K H q y):jL K H' q y:=by obtain ⟨p,l,f,g,c,e,b,a,d⟩:=h;exact ⟨p,l,f,g,c,s _ _ e,s _ _ b,bG (λ _ _ z=>z.same s) a,d.tups (.of s)⟩
def CF {α β:Type} {R:α->β->Prop} {xs:List α} {ys:List β} {y:β} (h:av R xs (ys++[y])) :∃xr x,xs=xr++[x]/\av R xr ys/\R x y:=by
 induction ys generalizing xs with
 | nil=>
  cases h with
  | cons a r=>cases r;exact ⟨[],_,rfl,.nil,a⟩
 | cons z ys ih=>
  cases h with
  | cons a r=>obtain ⟨xr,x,rfl,b,c⟩:=ih r;exact ⟨_ :: xr,x,rfl,.cons a b,c⟩
theorem ke (h:n<=5):gF n<=651:=(by decide :∀n,n < 6->gF n<=651) n '%'
def nS (m:Nat) (ts:List (ZQ×ZQ)) (rs:List Rc) (ps:List DD) (q:List Oa×Pl):Prop:=eJ ts rs.length q.2.1.length q.2/\Wk m ts rs ps q.1 q.2/\q.1.length=q.2.1.length
structure Lk (m:Nat) (ts:List (ZQ×ZQ)) (rs:List Rc) (ps:List DD) (vis:List Pl) (ds:List ZJ):Prop where
 c :∀pl∈vis,¬ eC rs pl/\∀s∈gh m ts rs ps pl,bO s.2.2∈ds
def FG (K:c0):Sp:=λ vs H Q _=>∃(t:ZR) (ts:List (ZQ×ZQ)) (es:List Ev) (ps:List DD) (m:Nat),vs=[.ref t,.str (fh m)]/\kZ K H t ts es ps/\
 (∀H',af H H'->(∀o pl,Wk m ts (aR 0 [] es) ps o pl->¬ eC (aR 0 [] es) pl)->Q .non H')/\∀l xs o pl H',af H H'->H' l=some (.lst xs)->av (mz H') o xs->Wk m ts (aR 0 [] es) ps o pl->eC (aR 0 [] es) pl->Q (.ref l) H'
theorem Ma (T:TX (kx w) mg) (c0:Fo P w mg base (nV P w base) 5 257 uQ ["self","tale","strictness"] (xS (kx w))) (c1:Fo P w mg base CX0 2 271 xu ["self","place"] (EI (kx w))) (c2:Fo P w mg base CX0 7 264 tZ ["self","place"] (Be (kx w))):Fo P w mg base CX0 8 328 Cw ["tale","strictness"] (FG (kx w)):=by
 refine (A_ w.params).ok cC (λ vs H Q E h=>?_) (λ j3 A j1 s H vs Q E hr h=>?_)
 ·obtain ⟨t,ts,es,ps,m,rfl,_⟩:=h;rfl
 ·obtain ⟨t,ts,es,ps,m,rfl,tp,qn,q⟩:=h;refine ⟨_,(aU (aC (i:=2) cC.nd rfl (E1 rfl) (zK (El _) c0 (hr.mono '!') rfl (T.of (FB _)) (GG _) .nil me (ao (pv 0) (ao (pv 1) ae))))
   (aU (aC (i:=3) cC.nd rfl (E1 rfl) EO)
   (aU (aC (i:=4) cC.nd rfl (E1 rfl) (aW (ao (az (ao (aW ae) (ao (bV (pv 2) rfl) ae))) ae)))
   (aU (BJ Z1 (cL oj (fg jo rfl (T.no (dq _)) O4 (ao (pv 4) ae)) ag (aD _))
   (aU (aC (i:=5) cC.nd rfl (E1 rfl) (Gm (pv 4)))
   (aU (aJ (bS (w_ (pv 2) (kP _) (Rf _) c1 (hr.mono '!') (QF _) .nil hU (ao (au aj (pv 5) ag (λ _ _=>rfl)) ae)) (λ _=>rfl))
   (aT (aq (au aj (pv 5) ag (λ _ _=>rfl))))
   dD)
   (aT (bY Z1 rfl (MK rfl (T.no (Jc _)) (w_ (pv 2) (kP _) (HI _) c2 (hr.mono '!') (DS _) .nil hU (ao (au aj (pv 5) ag (λ _ _=>rfl)) ae))) (bQ rfl (eW (fm (i:=6) cC.nd rfl (E1 rfl)) (eW (fm (i:=7) cC.nd rfl (E1 rfl)) (eW (fm (i:=8) cC.nd rfl (E1 rfl)) iW))))
   (aT (aJ (cL (CH hr) (pv 8) (pv 3) (by with_unfolding_all rfl))
   (aU (Al hr (pv 3) (pv 8) dm rfl)
   (aT (kD (lJ (pv 4) (ao (az (ao (aO eA (au aj (pv 5) ag (λ _ _=>rfl)) (aW (ao (az (ao (pv 6) (ao (pv 7) ae))) ae))) (ao (pv 8) ae))) ae)))))
   dD)))))))
   (aT (aq bw)))))),?_⟩
  refine Gk tp (λ R h=>⟨_,rfl,_,rfl,h⟩) λ x dx fs O s1 rl ok d1 e1 bf=>?_;have bo:jk (kx w) O m (aR 0 [] es) ts ps x:=⟨dx,fs,e1,bf⟩
  obtain ⟨p0,f4,g9⟩:=bf.first;generalize aR 0 [] es=rs at rl d1 bo bf qn q;refine gC ?_;intro f d3;refine aF ?_;have s2:=af.upd (o:=cc f []) d3;have e2:upd O f (cc f []) f=some (cc f []):=ab;have f9:af O (hide f (upd O f (cc f []))):=λ p o e=>jy (λ z=>by rw [z,d3] at e;cases e) (s2 _ _ e);generalize upd O f (cc f [])=H2 at s2 e2 f9⊢;refine gC ?_;refine ⟨jq,λ K a7=>⟨_,rfl,x,_,dx,fs,_,rfl,(s2.trans (af.upd a7)) _ _ e1,kP _,yi _,f4,cV,λ F b7=>⟨lC,λ n W=>?_⟩⟩⟩;refine aF ?_;have f1:O n=none:=((s2.trans (af.upd a7)).trans (af.upd b7)).free W;have D:=af.upd (o:=.lst []) a7;have q1:=af.upd (o:=.tup [.ref K,.ref p0]) b7;have q2:=af.upd (o:=.lst [.ref F]) W;have f7:K≠f:=λ z=>by rw [z,e2] at a7;cases a7
  have i7:F≠f:=λ z=>by rw [z,D _ _ e2] at b7;cases b7
  have c5:f≠n:=λ z=>by rw [<-z,q1 _ _ (D _ _ e2)] at W;cases W
  have f3:K≠n:=λ z=>by rw [<-z,q1 _ _ ab] at W;cases W
  have h3:F≠n:=λ z=>by rw [<-z,ab] at W;cases W
  have g0:=q2 _ _ (q1 _ _ (ab (H:=H2) (a:=K) (o:=.lst [])));have g1:=q2 _ _ (ab (H:=upd H2 K (.lst [])) (a:=F) (o:=.tup [.ref K,.ref p0]));have g2:=ab (H:=upd (upd H2 K (.lst [])) F (.tup [.ref K,.ref p0])) (a:=n) (o:=.lst [.ref F]);have g3:=q2 _ _ (q1 _ _ (D _ _ e2));have s3:=HV d3 f1 (s2.trans ((D.trans q1).trans q2));generalize upd (upd (upd H2 K (.lst [])) F (.tup [.ref K,.ref p0])) n (.lst [.ref F])=H3 at g0 g1 g2 g3 s3⊢;refine yk (yR (λ k σ C=>∃ks zs ws vis x5 x6 x7 x8,k=fI rs.length (ws.map (·.2))/\af O (a_ f n C)/\C f=some (cc f ks)/\C n=some (.lst zs)/\dZ (kx w) (a_ f n C) (λ u=>u∈vis\/u∈ws.map (·.2)) ks/\av (jL (kx w) (a_ f n C)) ws zs/\(∀q∈ws,nS m ts rs ps q)/\Lk m ts rs ps vis (ks.map (·.1))/\(([],ts.map λ t=>aS t.2)∈vis\/([],ts.map λ t=>aS t.2)∈ws.map (·.2))/\ks.length + fI rs.length (ws.map (·.2))<=651/\σ=[some (.ref t),some (.str (fh m)),some (.ref x),some (.ref f),some (.ref n),x5,x6,x7,x8])
   (λ k σ C=>∃ks zs y ws D vis x5 x6 x7 x8,k=fI rs.length ((ws++[D]).map (·.2))/\af O (a_ f n C)/\C f=some (cc f ks)/\C n=some (.lst (zs++[y]))/\dZ (kx w) (a_ f n C) (λ u=>u∈vis\/u∈(ws++[D]).map (·.2)) ks/\av (jL (kx w) (a_ f n C)) ws zs/\jL (kx w) (a_ f n C) D y/\(∀q∈ws++[D],nS m ts rs ps q)/\Lk m ts rs ps vis (ks.map (·.1))/\(([],ts.map λ t=>aS t.2)∈vis\/([],ts.map λ t=>aS t.2)∈(ws++[D]).map (·.2))/\ks.length + fI rs.length ((ws++[D]).map (·.2))<=651/\σ=[some (.ref t),some (.str (fh m)),some (.ref x),some (.ref f),some (.ref n),x5,x6,x7,x8])
   (fI rs.length [([],ts.map λ t=>aS t.2)]) ⟨[],[.ref F],[([],([],ts.map λ t=>aS t.2))],[],_,_,_,_,rfl,s3,g3,g2,λ k hk=>ZU hk u0,.cons ⟨F,K,p0,[],rfl,nu i7 h3 g1,nu f7 f3 g0,.nil,g9.tups (.of s3)⟩ .nil,λ u hp=>by rw [List.mem_singleton.mp hp];exact ⟨xw ts _,.nil,rfl⟩,⟨λ _ h=>ZU h u0⟩,.inr (List.mem_singleton.mpr rfl),by show 0 + fI rs.length [([],ts.map λ t=>aS t.2)]<=651;rw [sD,S4];exact ke (C0 (Nat.sub_le _ _) rl),rfl⟩ ?_ ?_)
  ·rintro k σ H4 ⟨ks,zs,y,ws,⟨o,u⟩,vis,x5,x6,x7,x8,rfl,s4,es4,ew4,ki,aw,⟨p,l,p2,xs,rfl,ep,el,ax,pz⟩,Z,lk,fv,kw,rfl⟩;obtain ⟨Y,wk,ol⟩:=Z _ (List.mem_append.mpr (.inr (List.mem_singleton.mpr rfl)));change eJ ts rs.length u.1.length u at Y;change o.length=u.1.length at ol;have Z :∀q∈ws,nS m ts rs ps q:=λ q hq=>Z q (List.mem_append.mpr (.inl hq));have mm :∀{a:Pl},a∈vis\/a∈(ws++[(o,u)]).map (·.2)->a∈u :: vis\/a∈ws.map (·.2):=λ {a} h=>by
    rcases h with h|h
    ·exact .inl (Y0 _ h)
    ·rw [N1] at h;rcases List.mem_append.mp h with h|h
     ·exact .inr h
     ·rw [List.mem_singleton.mp h];exact .inl R0
   refine gC ?_;refine ⟨_,rfl,.inl ⟨rfl,_,aH.of ew4⟩,n,zs++[.ref p],.ref p,rfl,rfl,ew4,by simp,?_⟩;refine aF ?_;rw [j68];have h5:a_ f n (upd H4 n (.lst zs))=a_ f n H4:=ft;have d2:upd H4 n (.lst zs) f=some (cc f ks):=by rw [ak c5];exact es4
   have c8:upd H4 n (.lst zs) n=some (.lst zs):=ab;generalize upd H4 n (.lst zs)=H5 at h5 d2 c8⊢;rw [<-h5] at s4 ki aw ep el pz ax;have s5:af O H5:=s4.trans aP;have b4 :∀{C:Hp} {R:VK} {x6 x7 x8:Option V} {j:Nat} {v:V},af (a_ f n H5) C->([.ref l,.ref p2]:List V)[j]? = some v->R v C->jK (oB (kx w)) (gT 5) (tC (.int j)) [some (.ref t),some (.str (fh m)),some (.ref x),some (.ref f),some (.ref n),some (.ref p),x6,x7,x8] C R:=λ s' hj h=>⟨_,rfl,.inr (.inl ⟨p,_,_,_,rfl,rfl,aG.of (s' _ _ ep),bF hj,h⟩)⟩
   refine gL ?_;refine ⟨_,rfl,x,dx,fs,rfl,s5 _ _ e1,bf.nm _ (by simp),b4 (j:=1) aP rfl ⟨x,p2,m,rs,ts,ps,u,rfl,bo.same s5,by lia,pz.tups (.of aP),λ b6 H6 U e7=>⟨_,rfl,?_⟩⟩⟩;have a9:af (a_ f n H5) H6:=aP.trans U;refine gf (λ hb=>?_) λ hb=>?_
   ·exact b4 (j:=0) a9 rfl (q l xs o u _ (s1.trans (s5.trans U)) (a9 _ _ el) (bG (λ _ _ z=>z.same a9) ax) wk (e7.mp hb))
   have nf:¬ eC rs u:=λ z=>hb (e7.mpr z);refine zN (cU ?_);have i3:=bo.same (s5.trans U);have g6:=bG (λ _ _ z=>dQ.tt (.of (s5.trans U)) z) d1;refine ⟨_,rfl,x,dx,fs,rfl,(s5.trans U) _ _ e1,bf.nm _ (by simp),b4 (j:=1) a9 rfl ⟨x,p2,m,_,rs,ts,ps,u,rfl,i3,g6,ok,pz.tups (.of a9),Y,by lia,λ l7 y7 H7 s7 c3 e0 d0=>⟨l7,y7,rfl,e0,?_⟩⟩⟩;have c6:=U.trans s7;have e3:=c6 _ _ d2;have e5:=c6 _ _ c8;have b2:af (a_ f n H5) (a_ f n H7):=xR c6;have f8:l7≠f:=λ z=>by rw [z,U _ _ d2] at c3;cases c3
   have h4:l7≠n:=λ z=>by rw [z,U _ _ c8] at c3;cases c3
   have i0:=Lb (bG (λ _ _ z=>e_.tups (Da e3 e5) z) d0);have nx:=xO d1 ok Y '%' (m:=m);have i9:=G_ (m:=m) (ts:=ts) (ps:=ps) Y.nd Y.lt;have i4:y7.length<=rs.length - u.1.length:=by rw [cD d0];lia
   have c4:gF (rs.length - u.1.length - 1)<=651:=ke '%';have h6:fI rs.length ((ws++[(o,u)]).map (·.2))=fI rs.length (ws.map (·.2)) + gF (rs.length - u.1.length):=by rw [N1,vx];congr 1
   refine Od (a:=l7) (xs:=y7) (λ j σ C=>∃ks' zs' ws' jj,jj<=j/\af (a_ f n H7) (a_ f n C)/\C f=some (cc f ks')/\C n=some (.lst zs')/\dZ (kx w) (a_ f n C) (λ a=>a∈u :: vis\/a∈ws'.map (·.2)) ks'/\av (jL (kx w) (a_ f n C)) ws' zs'/\(∀q∈ws',nS m ts rs ps q)/\(∀d∈ks.map (·.1),d∈ks'.map (·.1))/\(∀s∈(gh m ts rs ps u).reverse.take j,bO s.2.2∈ks'.map (·.1))/\(([],ts.map λ t=>aS t.2)∈u :: vis\/([],ts.map λ t=>aS t.2)∈ws'.map (·.2))/\ks'.length<=ks.length + jj/\fI rs.length (ws'.map (·.2))=fI rs.length (ws.map (·.2)) + jj * gF (rs.length - u.1.length - 1)/\∃x6 x7 x8,σ=[some (.ref t),some (.str (fh m)),some (.ref x),some (.ref f),some (.ref n),some (.ref p),x6,x7,x8])
    ⟨ks,zs,ws,0,o0 _,af.refl _,e3,e5,(ki.same b2).mono λ a h=>mm h,bG (λ _ _ z=>z.same b2) aw,Z,λ _ h=>h,λ _ h=>ZU h (by rw [b8];exact u0),mm fv,o0 _,by rw [Nat.zero_mul];rfl,_,_,_,rfl⟩ (λ j σ C h=>?_) ?_ ?_
   ·obtain ⟨_,_,_,_,_,h,_⟩:=h;exact aP _ _ (h _ _ (nu f8 h4 e0))
   ·rintro j y σ X hy ⟨ks',zs',ws',jj,lj,s8,es8,ew8,ki8,aw8,po8,ko8,pr8,fv8,kl8,wk8,x6,x7,x8,rfl⟩;have jl:j < y7.length:=by have:=(List.getElem?_eq_some_iff.mp hy).1;rwa [List.length_reverse] at this
    obtain ⟨B,e4,b9,J,rfl,g5,h8⟩:=fJ i0 hy;have d8:B∈gh m ts rs ps u:=List.mem_reverse.mp (S0 e4);have c7:=nx B d8;have tk :∀s∈(gh m ts rs ps u).reverse.take (j + 1),s∈(gh m ts rs ps u).reverse.take j\/s=B:=λ s I=>by
     rw [Q6,e4] at I;rcases List.mem_append.mp I with z|z
     ·exact .inl z
     ·exact .inr (List.mem_singleton.mp z)
    have i5:af (a_ f n H7) X:=s8.trans aP;have b5:=h8.tups (.of s8);have j2:jj * gF (rs.length - u.1.length - 1)<=5 * 651:=j0d '%' c4;have zl:zs'.length < 10000:=by
     have h1:=zL (N:=rs.length) (ws'.map (·.2));rw [D0] at h1;rw [cD aw8]
     lia
    refine ⟨b9,_,rfl,i5.seqT g5,rfl,_,_,rfl,_,_,rfl,_,_,rfl,rfl,?_⟩;have d7:=(ki8.same aP).at_ (.inl es8);have e9:=gr (b5.tups (.of aP));refine ⟨_,rfl,_,rfl,f,J,ks',bO B.2.2,rfl,rfl,d7,fX _,fS _,e9,_,rfl,?_⟩;refine gf (λ _=>?_) λ f6=>⟨ks',zs',ws',jj,by lia,s8,es8,ew8,ki8,aw8,po8,ko8,λ s I=>?_,fv8,kl8,wk8,_,_,_,rfl⟩
    rotate_left
    ·rcases tk s I with z|z
     ·exact pr8 s z
     ·rw [z];by_cases M:bO B.2.2∈ks'.map (·.1)
      ·exact M
      ·exact ZU (by rw [ZX M];rfl) f6
    refine ⟨_,rfl,_,rfl,f,J,ks',bO B.2.2,rfl,rfl,rfl,es8,d7,U1 kl8 (O1 (m:=1000) '%' '!'),fX _,fS _,e9,cU ?_⟩;have h9:a_ f n (upd X f (cc f (putN ks' (bO B.2.2) J)))=a_ f n X:=mV;have a5:upd X f (cc f (putN ks' (bO B.2.2) J)) f=some (cc f (putN ks' (bO B.2.2) J)):=ab;have a4:upd X f (cc f (putN ks' (bO B.2.2) J)) n=some (.lst zs'):=by rw [ak c5.symm];exact ew8
    generalize upd X f (cc f (putN ks' (bO B.2.2) J))=H9 at h9 a5 a4⊢;rw [<-h9] at s8 ki8 aw8 b5;have d6:af (a_ f n H5) (a_ f n H9):=b2.trans s8;have f0:af (a_ f n H5) H9:=d6.trans aP;have h7:=f0 _ _ el;refine ⟨_,rfl,.inl ⟨rfl,_,aH.of a4⟩,b4 (j:=0) f0 rfl ?_⟩;refine ⟨_,rfl,_,rfl,cV,λ S b0=>?_⟩;obtain ⟨Ha,va,g4,ea⟩:=eQ (.tup [.int (B.1:Nat),B.2.1]) b0;rw [<-va];refine ⟨lC,λ i8 h2=>?_⟩;obtain ⟨c9,vb,e6,g8⟩:=eQ (.lst [.ref S]) h2;rw [<-vb];have a0:=g4.trans e6;have xl:xs.length<=5:=by rw [cD ax,ol];have:=uv _ _ Y.nd Y.lt;lia
    refine .inr (.inr (.inl ⟨l,i8,xs,[.ref S],rfl,rfl,a0 _ _ h7,g8,C0 (m:=100) (by show xs.length + 1<=100;lia) '!',λ L a8=>⟨_,rfl,cV,λ a3 a6=>?_⟩⟩));have b3:=af.upd (o:=.lst (xs++[.ref S])) a8;have d4:=af.upd (o:=.tup [.ref L,.ref J]) a6;have d9:=d4 _ _ (ab (H:=c9) (a:=L) (o:=.lst (xs++[.ref S])));have d5:=ab (H:=upd c9 L (.lst (xs++[.ref S]))) (a:=a3) (o:=.tup [.ref L,.ref J]);have i1:S≠f:=λ z=>by rw [z,a5] at b0;cases b0
    have g7:S≠n:=λ z=>by rw [z,a4] at b0;cases b0
    have h0:L≠f:=λ z=>by rw [z,a0 _ _ a5] at a8;cases a8
    have f5:L≠n:=λ z=>by rw [z,a0 _ _ a4] at a8;cases a8
    have i2:a3≠f:=λ z=>by rw [z,b3 _ _ (a0 _ _ a5)] at a6;cases a6
    have f2:a3≠n:=λ z=>by rw [z,b3 _ _ (a0 _ _ a4)] at a6;cases a6
    have e8:=d4 _ _ (b3 _ _ (e6 _ _ ea));have b1:=(a0.trans b3).trans d4;generalize upd (upd c9 L (.lst (xs++[.ref S]))) a3 (.tup [.ref L,.ref J])=H13 at e8 d9 d5 b1⊢;have M:=xR (a:=f) (b:=n) b1;refine ⟨n,zs',_,rfl,rfl,b1 _ _ a4,O1 zl '!',?_⟩;refine ⟨putN ks' (bO B.2.2) J,zs'++[.ref a3],ws'++[(o++[(B.1,B.2.1)],B.2.2)],jj + 1,by lia,?_,by rw [ak c5];exact b1 _ _ a5,ab,?_,?_,λ q' hp=>?_,λ d hd=>sR (ko8 d hd),λ s I=>?_,?_,C0 vR '%',?_,_,_,_,rfl⟩
    ·rw [ft];exact s8.trans M
    ·rw [ft];refine ((ki8.same M).mono λ a h=>h.imp id λ z=>?_).put (b5.tups (.of M)) (.inr ?_)
     ·rw [N1];exact List.mem_append.mpr (.inr (List.mem_singleton.mpr rfl))
     ·rw [N1];exact List.mem_append.mpr (.inl z)
    ·rw [ft];exact mw (bG (λ _ _ z=>z.same M) aw8) ⟨a3,L,J,_,rfl,nu i2 f2 d5,nu h0 f5 d9,mw (bG (λ _ _ z=>z.same (d6.trans M)) ax) ⟨S,rfl,nu i1 g7 e8⟩,b5.tups (.of M)⟩
    ·rcases List.mem_append.mp hp with z|z
     ·exact po8 q' z
     ·rw [List.mem_singleton.mp z];exact ⟨c7.1,.snoc wk d8,by show (o++[(B.1,B.2.1)]).length=B.2.2.1.length;rw [L0,c7.2];show o.length + 1=_;rw [ol]⟩
    ·rcases tk s I with z|z
     ·exact sR (pr8 s z)
     ·rw [z];exact AF
    ·exact fv8.imp id λ z=>by rw [N1];exact List.mem_append.mpr (.inl z)
    ·rw [N1,vx,wk8,Nat.succ_mul];have:fI rs.length ([(o++[(B.1,B.2.1)],B.2.2)].map (·.2))=gF (rs.length - u.1.length - 1):=by show fI rs.length [B.2.2]=_;rw [sD,c7.2,show rs.length - (u.1.length + 1)=rs.length - u.1.length - 1 by lia]
     lia
   ·rintro σ X ⟨ks',zs',ws',jj,lj,s8,es8,ew8,ki8,aw8,po8,ko8,pr8,fv8,kl8,wk8,x6,x7,x8,rfl⟩;have B:=Hq (C0 lj i4);rw [show y7.length=(gh m ts rs ps u).reverse.length by rw [List.length_reverse,cD d0],i6] at pr8;refine ⟨fI rs.length (ws'.map (·.2)),by rw [h6,wk8];lia,ks',zs',ws',u :: vis,_,_,_,_,rfl,(s4.trans b2).trans s8,es8,ew8,ki8,aw8,po8,⟨λ a ha=>?_⟩,fv8,by rw [wk8];lia,rfl⟩;rcases List.mem_cons.mp ha with z|z
    ·rw [z];exact ⟨nf,λ s I=>pr8 s (List.mem_reverse.mpr I)⟩
    ·exact ⟨(lk.c a z).1,λ s I=>ko8 _ ((lk.c a z).2 s I)⟩
  ·rintro k σ H4 ⟨ks,zs,ws,vis,x5,x6,x7,x8,rfl,s4,es4,ew4,ki,aw,Z,lk,fv,kw,rfl⟩ body;refine ⟨_,rfl,.inl ⟨n,zs,rfl,.inl (aH.of ew4),_,_,rfl,rfl,_,rfl,?_⟩⟩;refine gf (λ h=>?_) λ h=>?_
   ·have h:(0:Int) < (zs.length:Int):=ZW h;have hz:zs≠[]:=λ z=>by rw [z] at h;exact ZU h '!'
    have ez:=(B4 hz).symm;rw [ez] at aw ew4;obtain ⟨wr,D,rfl,F,a2⟩:=CF aw;exact body _ ⟨ks,_,_,wr,D,vis,x5,x6,x7,x8,rfl,s4,es4,ew4,ki,F,a2,Z,lk,fv,kw,rfl⟩
   ·have zn:zs=[]:=by
     cases zs with
     | nil=>rfl
     | cons z r=>exact ZU (ZY (show (0:Int) < ((z :: r).length:Int) by rw [U0];lia)) h
    subst zn;cases aw;refine qn _ (s1.trans (s4.trans aP)) λ o u wk=>(lk.c u ?_).1;refine zM (G:=λ u=>u∈vis) (fv.resolve_right u0) (λ u hp s I=>?_) wk;obtain ⟨k,hk,e⟩:=List.mem_map.mp ((lk.c u hp).2 s I);obtain ⟨j0,e',_,g⟩:=ki k hk;rw [tI (e.symm.trans e')];exact g.resolve_right u0
def kq {t u:TT} {Q:Bool->Hp->Prop} (h:t σ H λ c H1=>if c=true then u σ H1 Q else Q false H1):ua t u σ H Q:=h
def LC (K:c0) (H:Hp) (t:ZR) (es:List Ev):Prop:=∃ts,fV K H t ts es/\es.length<=63/\kU [] es
def dC (H:Hp) (r:Rc) (y:V):Prop:=∃p,y=.ref p/\H p=some (.lst [.int r.h,r.n,r.v,r.x,r.a,.int r.b,fe r.e])
def dC.same {r:Rc} (s:af H H') (h:dC H r y):dC H' r y:=h.elim λ p z=>⟨p,z.1,s _ _ z.2⟩
def dC.wrote {r:Rc} (n:y≠.ref l) (h:dC H r y):dC (upd H l o) r y:=h.elim λ p z=>⟨p,z.1,by rw [ak (λ e=>n (by rw [z.1,e]))];exact z.2⟩
def AX (K:c0):Sp:=λ vs H Q _=>∃(t:ZR) (es:List Ev),vs=[.ref t]/\LC K H t es/\∀l zs H',af H H'->H' l=some (.lst zs)->av (dC H') (aR 0 [] es) zs->Q (.ref l) H'
theorem Ks (T:TX (kx w) mg):Fo P w mg base CX0 1 395 Ci ["tale"] (AX (kx w)):=by
 refine (zA w.params).ok cj (λ vs H Q E h=>?_) (λ d1 A c9 s H vs Q E hr h=>?_)
 ·obtain ⟨t,g,rfl,_⟩:=h;rfl
 ·obtain ⟨t,g,rfl,⟨ts,⟨pt,M,F,et,th,c0,al⟩,c8,c1⟩,q⟩:=h;have st:aG (kx w) H t [.ref pt,.ref M]:=aG.of et;have se:aG (kx w) H M F:=aG.of c0;have hl:g.length<=100:=by lia
  obtain ⟨wf,_⟩:=eY.all eY.nil c1;refine ⟨_,(aU (aC (i:=1) cj.nd rfl (E1 rfl) (aW ae))
   (aU (aC (i:=2) cj.nd rfl (E1 rfl) xI)
   (aU (bY Z1 rfl (sH rfl (T.no (sk _)) (ao (fg jo rfl (T.no (dq _)) O4 (ao (au aj (pv 0) ag (λ _ _=>rfl)) ae)) ae)) (fm (i:=3) cj.nd rfl (E1 rfl))
   (aU (aC (i:=4) cj.nd rfl (E1 rfl) (au aj (au aj (pv 0) ag (λ _ _=>rfl)) (pv 3) (λ _ _=>rfl)))
   (aT (aJ (cL cv (au aj (pv 4) ag (λ _ _=>rfl)) aA (aD _))
   (aU (xM (cQ hr) (pv 2) (au aj (pv 4) ag (λ _ _=>rfl)) (fg jo rfl (T.no (dq _)) O4 (ao (pv 1) ae)) rfl)
   (aT (kD (lJ (pv 1) (ao (aW (ao (au aj (pv 4) ag (λ _ _=>rfl)) (ao (au aj (pv 4) ag (λ _ _=>rfl)) (ao (au aj (pv 4) ag (λ _ _=>rfl)) (ao (au aj (pv 4) ag (λ _ _=>rfl)) (ao bw (ao (pv 3) (ao bw ae)))))))) ae)))))
   (aU (dU (au aj (pv 4) ag (λ _ _=>rfl)) (fQ (au aj (pv 1) (oX (cQ hr) (pv 2) (au aj (pv 4) ag (λ _ _=>rfl)) (λ _ _=>rfl)) (λ _ _=>rfl)) ag qN))
   (aT (dU (pv 3) (fQ (au aj (pv 1) (oX (cQ hr) (pv 2) (au aj (pv 4) ag (λ _ _=>rfl)) (λ _ _=>rfl)) (λ _ _=>rfl)) ag qN))))))))
   (aT (aq (pv 1)))))),?_⟩
  refine ⟨jq,λ l b0=>?_⟩;intro d a4;have W:l≠d:=fK ab a4;have c2:H d=none:=by rwa [ak W.symm] at a4
  have s2:af H (upd (upd H l (.lst [])) d (.dK [])):=(af.upd b0).trans (af.upd a4);have N:upd (upd H l (.lst [])) d (.dK []) l=some (.lst []):=by rw [ak W];exact ab
  have D:upd (upd H l (.lst [])) d (.dK []) d=some (.dK []):=ab;generalize upd (upd H l (.lst [])) d (.dK [])=H2 at s2 N D⊢;have b9:=cD al;have d0:100<=ZE:=by decide
  refine ⟨_,rfl,.inr (.inl ⟨t,_,1,.ref M,rfl,rfl,s2.seqT st,bF (j:=1) rfl,.inl ⟨M,F,rfl,.inr (s2.seqT se),F.length,rfl,by lia,by lia,?_⟩⟩)⟩;refine vz (lo:=0) (n:=F.length) (λ i σ X=>∃rs zs kvs,X l=some (.lst zs)/\av (dC X) rs zs/\zs.Nodup/\(∀p,V.ref p∈zs->p≠l/\H p=none)/\X d=some (.dK kvs)/\kvs.length<=i/\rs.length<=i/\(∀h,bM kvs (.inl h)=(cX h (rs.map Rc.h)).map λ j=>V.int (j:Nat))/\aR i rs (g.drop i)=aR 0 [] g/\rO i rs (g.drop i)/\af H X/\∃x3 x4,σ=[some (.ref t),some (.ref l),some (.ref d),x3,x4])
   ⟨[],[],[],N,.nil,.nil,λ _ z=>ZU z u0,D,o0 _,o0 _,λ h=>rfl,by rw [Z5],by rw [Z5];exact wf,s2,_,_,rfl⟩ ?_ ?_
  ·rintro i σ u hi ⟨rs,zs,kvs,el4,ar4,nd,nzl,ed4,hk,hr',hv,B,dw,s4,x3,x4,rfl⟩;rw [R9];have b1:i < g.length:=by lia
   have hy:F[i]? = some F[i]:=F0 hi;obtain ⟨e,he,ev⟩:=fJ al hy;obtain ⟨_,ee⟩:=List.getElem?_eq_some_iff.mp he;have dr:g.drop i=e :: g.drop (i + 1):=by rw [r6 b1,ee]
   rw [dr] at B dw;have a2:=gE.tups (.of s4) ev;have c7:i < 100:=O1 b1 hl;have lz:zs.length=rs.length:=cD ar4;refine aF ?_;refine ⟨_,rfl,.inr (.inl ⟨t,_,1,.ref M,rfl,rfl,s4.seqT st,bF (j:=1) rfl,_,rfl,.inr (.inl ⟨M,F,i,F[i],rfl,rfl,s4.seqT se,bF hy,?_⟩)⟩)⟩;generalize F[i]=y at a2⊢;cases e with
   | beg h n v x=>
    obtain ⟨C,rfl,G⟩:=a2;refine ⟨_,rfl,.inr (.inl ⟨C,_,0,.str "begin",rfl,rfl,G,bF (j:=0) rfl,rfl,_,rfl,bz (ZY rfl) ?_⟩)⟩;refine ⟨_,rfl,.inl ⟨l,zs,rfl,.inl (aH.of el4),⟨_,rfl,⟨_,rfl,.inr (.inl ⟨C,_,1,.int h,rfl,rfl,G,bF (j:=1) rfl,d,_,rfl,hJ.k (k:=.inl h) ed4 (U1 (m:=100) '%' '!'),?_⟩)⟩⟩⟩⟩;have O:bN (kx w) u (upd u d (.dK (putK kvs (.inl h) (.int (zs.length:Nat))))):=bN.dict ed4;have s5:=af.keep (o:=.dK (putK kvs (.inl h) (.int (zs.length:Nat)))) s4 c2;have J:upd u d (.dK (putK kvs (.inl h) (.int (zs.length:Nat)))) l=some (.lst zs):=by rw [ak W];exact el4
    have U:upd u d (.dK (putK kvs (.inl h) (.int (zs.length:Nat)))) d=some (.dK (putK kvs (.inl h) (.int (zs.length:Nat)))):=ab;have a5:av (dC (upd u d (.dK (putK kvs (.inl h) (.int (zs.length:Nat)))))) rs zs:=bG (λ a b z=>z.wrote (λ e=>by obtain ⟨p,N,D⟩:=z;rw [N] at e;cases e;rw [ed4] at D;cases D)) ar4;generalize upd u d (.dK (putK kvs (.inl h) (.int (zs.length:Nat))))=H5 at O s5 J U a5⊢;have K:=O _ _ G;refine ⟨_,rfl,.inl ⟨rfl,zs,aH.of J⟩,?_⟩;refine ⟨_,rfl,.inr (.inl ⟨C,_,1,.int h,rfl,rfl,K,bF (j:=1) rfl,_,rfl,.inr (.inl ⟨C,_,2,n,rfl,rfl,K,bF (j:=2) rfl,_,rfl,.inr (.inl ⟨C,_,3,v,rfl,rfl,K,bF (j:=3) rfl,_,rfl,.inr (.inl ⟨C,_,4,x,rfl,rfl,K,bF (j:=4) rfl,_,rfl,xk,λ I R=>?_⟩)⟩)⟩)⟩)⟩;have S:=af.upd (o:=.lst [.int h,n,v,x,.non,.int (i:Nat),.non]) R;have e6:upd H5 I (.lst [.int h,n,v,x,.non,.int (i:Nat),.non]) I=some (.lst [.int h,n,v,x,.non,.int (i:Nat),.non]):=ab;have fr :∀z∈zs,z≠.ref I:=λ z hz e=>by obtain ⟨m,hm⟩:=List.mem_iff_getElem?.mp hz;obtain ⟨_,_,p,N,D⟩:=fJ a5 hm;rw [N] at e;cases e;rw [R] at D;cases D
    have b4:I≠l:=λ z=>by rw [z,J] at R;cases R
    generalize upd H5 I (.lst [.int h,n,v,x,.non,.int (i:Nat),.non])=H6 at S e6⊢;have c4:=S _ _ J;have c3:=S _ _ U;have b7:=bG (λ a b z=>dC.same S z) a5;refine ⟨l,zs,_,rfl,rfl,c4,U1 (m:=100) '%' '!',?_⟩;refine ⟨rs++[⟨h,n,v,x,.non,i,none⟩],zs++[.ref I],putK kvs (.inl h) (.int (zs.length:Nat)),ab,?_,?_,?_,?_,?_,?_,?_,(show aR (i + 1) (bJ i rs (.beg h n v x)) _=_ from B),dw.2,af.keep (s5.trans S) b0,_,_,rfl⟩
    ·refine mw ?_ ⟨I,rfl,by rw [ak b4];exact e6⟩;refine DJ (λ a b hb z=>dC.wrote (λ e=>(nzl l (e ▸ hb)).1 rfl) z) b7
    ·rw [Q4];refine ⟨nd,by simp,λ a ha b hb=>?_⟩;rw [List.mem_singleton.mp hb];exact fr a ha
    ·intro p hz;rcases List.mem_append.mp hz with y|y
     ·exact nzl p y
     ·have e:=List.mem_singleton.mp y;cases e;exact ⟨b4,s5.free R⟩
    ·rw [ak W.symm];exact c3
    ·exact C0 DE '%'
    ·rw [L0];show rs.length + 1<=i + 1;lia
    ·intro k;rw [qY,N1];show _=j10 _ (cX k (rs.map Rc.h++[h]));rw [xt,D0,lz];by_cases z:h=k
     ·rw [ZZ z,ZZ (by rw [z])];rfl
     ·rw [Z_ z,Z_ (λ y=>z (L9 y).symm)];exact hv k
   | fin h a=>
    obtain ⟨C,rfl,G⟩:=a2;obtain ⟨j,hj⟩:=Option.isSome_iff_exists.mp (dw.1 h a rfl);have c5:bM kvs (.inl h)=some (.int (j:Nat)):=by rw [hv h,hj];rfl
    have b8:j < rs.length:=by have:=wL hj;rwa [D0] at this
    have b2:rs[j]? = some rs[j]:=F0 b8;obtain ⟨yj,L,c,rfl,Z⟩:=hV ar4 b2;have a7 :∀{H5:Hp},H5 d=some (.dK kvs)->d_ H5 d (.int h) (some (.int (j:Nat))):=λ e5=>c5 ▸ d_.k (k:=.inl h) e5;refine ⟨_,rfl,.inr (.inl ⟨C,_,0,.str "end",rfl,rfl,G,bF (j:=0) rfl,rfl,_,rfl,bB ?_⟩)⟩;obtain ⟨a6,c6⟩:=nzl c (S0 L);have a8:c≠d:=λ z=>by rw [z,ed4] at Z;cases Z
    refine ⟨_,rfl,.inr (.inl ⟨C,_,2,a,rfl,rfl,G,bF (j:=2) rfl,?_⟩)⟩;refine ⟨_,rfl,_,rfl,_,rfl,.inr (.inl ⟨C,_,1,.int h,rfl,rfl,G,bF (j:=1) rfl,d,_,rfl,a7 ed4,.inl ⟨l,zs,j,.ref c,rfl,rfl,aH.of el4,bF L,c,_,4,4,rfl,rfl,Z,rfl,?_⟩⟩)⟩;rw [show [V.int rs[j].h,rs[j].n,rs[j].v,rs[j].x,rs[j].a,.int rs[j].b,fe rs[j].e].set 4 a=[.int rs[j].h,rs[j].n,rs[j].v,rs[j].x,a,.int rs[j].b,fe rs[j].e] from rfl];have k5:aK [c] u (upd u c (.lst [.int rs[j].h,rs[j].n,rs[j].v,rs[j].x,a,.int rs[j].b,fe rs[j].e])):=aK.set (by simp);have O:bN (kx w) u (upd u c (.lst [.int rs[j].h,rs[j].n,rs[j].v,rs[j].x,a,.int rs[j].b,fe rs[j].e])):=bN.lst Z;have b3:upd u c (.lst [.int rs[j].h,rs[j].n,rs[j].v,rs[j].x,a,.int rs[j].b,fe rs[j].e]) c=some (.lst [.int rs[j].h,rs[j].n,rs[j].v,rs[j].x,a,.int rs[j].b,fe rs[j].e]):=ab;generalize upd u c (.lst [.int rs[j].h,rs[j].n,rs[j].v,rs[j].x,a,.int rs[j].b,fe rs[j].e])=H5 at k5 O b3⊢;have J:=k5 _ _ (show l∉[c] by simp [a6.symm]) el4;have U:=k5 _ _ (show d∉[c] by simp [a8.symm]) ed4;have K:=O _ _ G;refine ⟨_,rfl,?_⟩;refine ⟨_,rfl,_,rfl,_,rfl,.inr (.inl ⟨C,_,1,.int h,rfl,rfl,K,bF (j:=1) rfl,d,_,rfl,a7 U,.inl ⟨l,zs,j,.ref c,rfl,rfl,aH.of J,bF L,c,_,6,6,rfl,rfl,b3,rfl,?_⟩⟩)⟩;rw [show [V.int rs[j].h,rs[j].n,rs[j].v,rs[j].x,a,.int rs[j].b,fe rs[j].e].set 6 (.int (i:Nat))=[.int rs[j].h,rs[j].n,rs[j].v,rs[j].x,a,.int rs[j].b,.int (i:Nat)] from rfl];have hd:bJ i rs (.fin h a)=rs.modify j (λ r=>{ r with a:=a,e:=some i }):=by unfold bJ;dsimp only;rw [hj]
    have B:aR (i + 1) (bJ i rs (.fin h a)) (g.drop (i + 1))=_:=B;have a9:rO (i + 1) (bJ i rs (.fin h a)) (g.drop (i + 1)):=dw.2;rw [hd] at B a9;have Y:aK [c] H5 (upd H5 c (.lst [.int rs[j].h,rs[j].n,rs[j].v,rs[j].x,a,.int rs[j].b,.int (i:Nat)])):=aK.set (by simp);have j7:upd H5 c (.lst [.int rs[j].h,rs[j].n,rs[j].v,rs[j].x,a,.int rs[j].b,.int (i:Nat)]) c=some (.lst [.int rs[j].h,rs[j].n,rs[j].v,rs[j].x,a,.int rs[j].b,.int (i:Nat)]):=ab;generalize upd H5 c (.lst [.int rs[j].h,rs[j].n,rs[j].v,rs[j].x,a,.int rs[j].b,.int (i:Nat)])=H7 at Y j7⊢;have b6:=k5.trans Y;refine ⟨rs.modify j (λ r=>{ r with a:=a,e:=some i }),zs,kvs,Y _ _ (by simp [a6.symm]) J,?_,nd,nzl,Y _ _ (by simp [a8.symm]) U,by lia,by rw [G6];lia,?_,B,a9,?_,_,_,rfl⟩
    ·refine tK (by rw [G6];exact cD ar4) λ k r y hk a1=>?_;rw [E7] at hk;obtain ⟨r',a3,a0⟩:=Option.map_eq_some_iff.mp hk;obtain ⟨y2,b5,p2,rfl,D⟩:=hV ar4 a3;rw [a1] at b5;cases b5;by_cases z:j=k
     ·subst z;rw [L] at a1;cases a1;rw [ZZ rfl] at a0;rw [b2] at a3;cases a3;subst a0;exact ⟨c,rfl,j7⟩
     ·rw [Z_ z] at a0;subst a0;refine ⟨p2,rfl,b6 _ _ (λ e=>z ?_) D⟩;have e:=List.mem_singleton.mp e;subst e;have h1:j < zs.length:=(List.getElem?_eq_some_iff.mp L).1;exact (j24 h1 nd).mp (L.trans a1.symm)
    ·intro k;rw [Ht (f:=λ r=>{ r with a:=a,e:=some i }) (λ r=>rfl)];exact hv k
    ·intro b o e;exact b6 b o (λ z=>by rw [List.mem_singleton.mp z,c6] at e;cases e) (s4 b o e)
  ·rintro σ H3 ⟨rs,zs,kvs,el,ar,_,_,_,_,_,_,B,_,s3,x3,x4,rfl⟩;have:g.drop F.length=[]:=by rw [b9];exact List.drop_length
   rw [this] at B;have B:rs=aR 0 [] g:=B;rw [<-B] at q;exact ⟨_,rfl,q l zs H3 s3 el ar⟩
def Gr:Sp:=λ vs H Q _=>∃(y z:V) (r q:Rc) (m:Nat),vs=[.str (fh m),y,z]/\dC H r y/\dC H q z/\Q (.bl (cY m r q)) H
def Ov (T:TX (kx w) mg):Fo P w mg base CX0 1 402 yJ ["strictness","one","other"] Gr:=by
 refine (Cq w.params).ok LR (λ g H Q E h=>?_) (λ l A k s H g Q E i h=>?_)
 ·obtain ⟨y,z,r,q,m,rfl,_⟩:=h;rfl
 ·obtain ⟨y,z,r,q,m,rfl,⟨c,rfl,a⟩,⟨f,rfl,d⟩,h⟩:=h;refine ⟨_,(aU (aJ (cL cv (pv 0) aA (aD _))
   (aT (aq (eF (iA pF (au aj (pv 1) ag (λ _ _=>rfl)) bw (aD _)) (eO (iA hZ (au aj (pv 1) ag (λ _ _=>rfl)) (au aj (pv 2) ag (λ _ _=>rfl)) (aD _))))))
   dD)
   (aT (aq (eF (iA cv (pv 0) aA (aD _)) (eF (iA cv (au aj (pv 1) ag (λ _ _=>rfl)) (au aj (pv 2) ag (λ _ _=>rfl)) (aD _)) (eO (iA hZ (au aj (pv 1) ag (λ _ _=>rfl)) (au aj (pv 2) ag (λ _ _=>rfl)) (aD _)))))))),?_⟩
  match m,h with
  | 0,h=>
   refine ⟨_,rfl,rfl,_,rfl,bz (ZY rfl) ?_⟩;refine ⟨_,rfl,.inl ⟨c,_,6,fe r.e,rfl,rfl,aH.of a,bF (j:=6) rfl,rfl,_,rfl,?_⟩⟩;have h:Q (.bl (vt r.e q.b)) H:=h;cases re:r.e with
   | none=>refine bH (by show ¬ (!decide (V.non=V.non))=true;decide) ?_;rw [re] at h;exact h
   | some b=>refine bz rfl ?_;refine ⟨_,rfl,.inl ⟨c,_,6,.int (b:Nat),rfl,rfl,aH.of a,bF (j:=6) (by rw [re];rfl),?_⟩⟩;refine ⟨_,rfl,.inl ⟨f,_,5,.int (q.b:Nat),rfl,rfl,aH.of d,bF (j:=5) rfl,b,q.b,rfl,rfl,?_⟩⟩;rw [re] at h;exact (show Q (.bl (decide ((b:Int) < (q.b:Int)))) H by rw [dec_lt];exact h)
  | 1,h=>
   refine ⟨_,rfl,rfl,_,rfl,bB ?_⟩;refine ⟨_,rfl,rfl,_,rfl,bz (ZY rfl) ?_⟩;refine ⟨_,rfl,.inl ⟨c,_,0,.int r.h,rfl,rfl,aH.of a,bF (j:=0) rfl,?_⟩⟩;refine ⟨_,rfl,.inl ⟨f,_,0,.int q.h,rfl,rfl,aH.of d,bF (j:=0) rfl,rfl,_,rfl,?_⟩⟩;have h:Q (.bl (decide (r.h=q.h) && decide (r.b < q.b))) H:=h;by_cases z:r.h=q.h
   ·refine bz (ZY (by rw [z])) ?_;refine ⟨_,rfl,.inl ⟨c,_,5,.int (r.b:Nat),rfl,rfl,aH.of a,bF (j:=5) rfl,?_⟩⟩;refine ⟨_,rfl,.inl ⟨f,_,5,.int (q.b:Nat),rfl,rfl,aH.of d,bF (j:=5) rfl,r.b,q.b,rfl,rfl,?_⟩⟩;rw [ZY z,O8,<-dec_lt] at h;exact h
   ·refine bH (λ e=>z (V.int.inj (ZW e))) ?_;rw [ZX z,S6] at h;exact h
  | m + 2,h=>refine ⟨_,rfl,rfl,_,rfl,bH (show ¬ decide (V.str "bare" = V.str "strict")=true by decide +kernel) ?_⟩;refine ⟨_,rfl,rfl,_,rfl,bH (show ¬ decide (V.str "bare" = V.str "hands")=true by decide +kernel) ?_⟩;exact h
def sW (m:Nat) (rs:List Rc) (ns:List Nat) (n x:Nat):Prop:=(x∈ns->gw m rs n x=false)/\(x∉ns->(∃r,rs[x]? = some r/\r.e.isSome=true)->gw m rs x n=false)
def vP {rs:List Rc} {ns:List Nat} (lt :∀x∈ns,x < rs.length) (h :∀x,x < rs.length->sW m rs ns n x):cM m rs ns n = !decide (n∈ns):=by
 unfold cM;rw [ZY (p:=∀a∈L1 rs.length,gw m rs a n=true->(∃r,rs[a]? = some r/\r.e.isSome=true)->a∈ns) (λ a g c f=>Decidable.byContradiction λ z=>by rw [(h a (List.mem_range.mp g)).2 z f] at c;cases c),ZY (p:=∀b∈ns,gw m rs n b=false) (λ b d=>(h b (lt b d)).1 d),j4e,j4e];by_cases z:n∈ns
 ·rw [ZY z,ZX (λ h=>h z)];rfl
 ·rw [ZX z,ZY z];rfl
def mC {rs:List Rc} {ns:List Nat} {x:Nat} (hx:x < rs.length) (h:¬ sW m rs ns n x):cM m rs ns n=false:=by
 cases e:cM m rs ns n with
 | false=>rfl
 | true=>
  refine ZU ?_ h;unfold cM at e;simp only [Z2,decide_eq_true_iff] at e;refine ⟨λ z=>e.2 x z,λ z a=>?_⟩;cases e2:gw m rs x n with
  | false=>rfl
  | true=>exact ZU (e.1.2 x (List.mem_range.mpr hx) e2 a) z
def Dp (K:c0):Sp:=λ vs H Q _=>∃(la pa:ZR) (zs:List V) (rs:List Rc) (ns:List Nat) (n m:Nat),vs=[.ref la,.str (fh m),.ref pa,.int (n:Nat)]/\H la=some (.lst zs)/\av (dC H) rs zs/\rs.length<=63/\aG K H pa (dM ns)/\(∀x∈ns,x < rs.length)/\n < rs.length/\Q (.bl (cM m rs ns n)) H
theorem ND (T:TX (kx w) mg) (c0:Ca P w mg base "_law_is_ahead" ["strictness","one","other"] 1 Gr):Fo P w mg base CX0 2 409 Ck ["some","strictness","done","number"] (Dp (kx w)):=by
 refine (AZ w.params).ok dE (λ X H Q E h=>?_) (λ a1 A a0 s H X Q E o h=>?_)
 ·obtain ⟨f,c,d,a,g,n,m,rfl,_⟩:=h;rfl
 ·obtain ⟨f,c,d,a,g,n,m,rfl,D,C,rl,t,lt,Y,q⟩:=h;refine ⟨_,(aU (bY Z1 rfl (sH rfl (T.no (sk _)) (ao (fg jo rfl (T.no (dq _)) O4 (ao (pv 0) ae)) ae)) (fm (i:=4) dE.nd rfl (E1 rfl))
   (aU (aJ (PW.pt (gR (cL oJ (pv 4) (pv 2) (by with_unfolding_all rfl)) (xi (bS (aB c0 (o.mono '!') rfl (ao (pv 1) (ao (au aj (pv 0) (pv 3) (λ _ _=>rfl)) (ao (au aj (pv 0) (pv 4) (λ _ _=>rfl)) ae)))) (λ _=>rfl)))))
   (aT (aq dm))
   dD)
   (aT (aJ (PW.pt (gR (cL sh (pv 4) (pv 2) (by with_unfolding_all rfl)) (gR (cL pF (au aj (au aj (pv 0) (pv 4) (λ _ _=>rfl)) ag (λ _ _=>rfl)) bw (aD _)) (xi (bS (aB c0 (o.mono '!') rfl (ao (pv 1) (ao (au aj (pv 0) (pv 4) (λ _ _=>rfl)) (ao (au aj (pv 0) (pv 3) (λ _ _=>rfl)) ae)))) (λ _=>rfl))))))
   (aT (aq dm))
   dD))))
   (aT (aq (iA sh (pv 3) (pv 2) (by with_unfolding_all rfl))))),?_⟩
  have lz:d.length=a.length:=cD C;have q:=λ b (h:b=cM m a g n)=>(show Q (.bl b) H from h ▸ q)
  have y:a[n]? = some a[n]:=F0 Y;obtain ⟨u,Z,J⟩:=hV C y;generalize a[n]=r0 at y J;refine ⟨_,rfl,.inl ⟨f,d,rfl,.inl (aH.of D),d.length,rfl,by lia,by lia,?_⟩⟩;refine vz (lo:=0) (n:=d.length) (λ i σ H'=>H'=H/\(∀x,x < i->sW m a g n x)/\∃x4,σ=[some (.ref f),some (.str (fh m)),some (.ref c),some (.int (n:Nat)),x4]) ⟨rfl,λ x K=>ZU K (C4 _),_,rfl⟩ ?_ ?_
  ·rintro i σ p hi ⟨rfl,fi,x4,rfl⟩;rw [R9];refine aF ?_;have F:i < a.length:=by lia
   have l:a[i]? = some a[i]:=F0 F;obtain ⟨G,W,v⟩:=hV C l;generalize a[i]=r1 at l v;have L :∀{R:VK} {x4:Option V},R u p->jK (oB (kx w)) (gT 0) (gT 3) [some (.ref f),some (.str (fh m)),some (.ref c),some (.int (n:Nat)),x4] p R:=λ h=>⟨_,rfl,_,rfl,.inl ⟨f,d,n,u,rfl,rfl,aH.of D,bF Z,h⟩⟩
   have B :∀{R:VK},R G p->jK (oB (kx w)) (gT 0) (gT 4) [some (.ref f),some (.str (fh m)),some (.ref c),some (.int (n:Nat)),some (.int (i:Nat))] p R:=λ h=>⟨_,rfl,_,rfl,.inl ⟨f,d,i,G,rfl,rfl,aH.of D,bF W,h⟩⟩
   have O:gw m a n i=cY m r0 r1:=Ax y l;have M:gw m a i n=cY m r1 r0:=Ax l y;have I:sW m a g n i->∀x,x < i + 1->sW m a g n x:=λ h x K=>by
    by_cases z:x=i
    ·rw [z];exact h
    ·exact fi x '%'
   refine gL (kq ?_);refine ⟨_,rfl,_,rfl,c,_,rfl,.inr t,rfl,nD _,_,rfl,?_⟩;by_cases z:i∈g
   ·refine bz (by rw [da];exact ZY z) ?_;refine ⟨_,rfl,L (B ⟨u,G,r0,r1,m,rfl,J,v,_,rfl,?_⟩)⟩;cases h:cY m r0 r1 with
    | true=>refine cN (q _ (mC F λ k=>?_).symm);have:=k.1 z;rw [O,h] at this;cases this
    | false=>refine cK (cU (vf (kq ?_)));refine ⟨_,rfl,_,rfl,c,_,rfl,.inr t,rfl,nD _,_,rfl,bH (by rw [da,ZY z];decide) (cK ?_)⟩;exact ⟨rfl,I ⟨λ _=>O.trans h,λ h'=>ZU z h'⟩,_,rfl⟩
   ·refine bH (λ h=>z (ZW (by rw [da] at h;exact h))) (cK (cU (vf (kq ?_))));refine ⟨_,rfl,_,rfl,c,_,rfl,.inr t,rfl,nD _,_,rfl,bz (by rw [da,ZX z];rfl) (kq ?_)⟩;obtain ⟨S,rfl,U⟩:=id v;refine B (.inl ⟨S,_,6,fe r1.e,rfl,rfl,aH.of U,bF (j:=6) rfl,rfl,_,rfl,?_⟩);cases he:r1.e with
    | none=>refine bH (by show ¬ (!decide (V.non=V.non))=true;decide) (cK ⟨rfl,I ⟨λ h=>ZU h z,λ _ h=>?_⟩,_,rfl⟩);obtain ⟨r,o,N⟩:=h;rw [l] at o;cases o;rw [he] at N;cases N
    | some e=>
     refine bz rfl ?_;refine ⟨_,rfl,B (L ⟨_,u,r1,r0,m,rfl,v,J,_,rfl,?_⟩)⟩;cases h:cY m r1 r0 with
     | true=>refine cN (q _ (mC F λ k=>?_).symm);have:=k.2 z ⟨r1,l,by rw [he];rfl⟩;rw [M,h] at this;cases this
     | false=>exact cK ⟨rfl,I ⟨λ h=>ZU h z,λ _ _=>M.trans h⟩,_,rfl⟩
  ·rintro σ p ⟨rfl,fi,x4,rfl⟩;refine ⟨_,rfl,_,rfl,c,_,rfl,.inr t,rfl,nD _,q _ ?_⟩;rw [vP lt λ x K=>fi x '%',da];rfl
def Rv {X:Cx} (hK:X.K=K):ei X (T2 .NotIn) (xQ K true):=hK ▸ sh
def QC {rs:List Rc} {pl:Pl} {r:Rc} {p:DD} (hr:rs[i]? = some r) (hp:ps[i]? = some p) (h:c i=false\/ff ts r p i pl=none):dF c ts rs ps pl i=none:=by
 unfold dF;rcases h with h|h
 ·rw [h];rfl
 ·rw [hr,hp];split<;>first|exact h|rfl
def Jk {rs:List Rc} {pl:Pl} {r:Rc} {p:DD} (hr:rs[i]? = some r) (hp:ps[i]? = some p) (hc:c i=true) (h:ff ts r p i pl=some s):dF c ts rs ps pl i=some s:=by unfold dF;rw [ZZ hc,hr,hp];exact h
def Ak {A B:TE} (h:A σ H λ x H1=>B σ H1 λ y H2=>(2:Nat)<=ZE/\∀p,H2 p=none->Q (.ref p) (upd H2 p (.tup [x,y]))):kN (eu A (eu B gz)) σ H Q:=h
theorem oU {tp tn:TE} {pa:ZR} {ns:List Nat} (hp :∀R:VK,R (.ref pa) H->tp σ H R) (hn :∀R:VK,R (.int (n:Nat)) H->tn σ H R) (sa:aG K H pa (dM ns)) (l63:ns.length < 63) (q :∀b4 H',af H H'->H' b4=some (.tup (dM (gk (ns++[n]))))->Q (.ref b4) H') :
  nU (λ xs H Q=>∃p ys,xs=[.ref p]/\((aH K H p ys/\∀l,H l=none->Q (.ref l) (upd H l (.tup ys)))\/(aG K H p ys/\Q (.ref p) H))) (eu (nU (λ xs H Q=>∃a ns,xs=[.ref a]/\(aH K H a (ns.map V.int)\/aG K H a (ns.map V.int))/\ns.length < 64/\Bq ns H Q) (eu (jK (kg K) tp (kN (eu tn gz))) gz)) gz) σ H Q:=by
 refine hp _ (hn _ ⟨lC,λ i o=>?_⟩);obtain ⟨y,b,c,g⟩:=eZ (.tup [.int (n:Nat)]) o;rw [<-b];refine ⟨pa,i,dM ns,[.int (n:Nat)],rfl,rfl,c.seqT sa,aG.of g,by simp,C0 (m:=100) (by rw [rN];show _ + 1<=100;lia) '!',λ r w j d=>?_⟩;rw [show dM ns++[.int (n:Nat)]=((ns++[n]).map λ (n:Nat)=>(n:Int)).map V.int by unfold dM;rw [S2,N1];rfl] at d;refine ⟨r,_,rfl,.inr d,by rw [D0,L0];show _ + 1 < 64;lia,λ k x s e f=>?_⟩;rw [Hh e f];obtain ⟨v,b,t,h⟩:=eZ (.lst (dM (gk (ns++[n])))) s;rw [<-b];exact ⟨k,_,rfl,.inl ⟨aH.of h,λ b4 u=>q b4 _ (((c.trans j).trans t).trans (af.upd u)) ab⟩⟩
def DK (K:c0):Sp:=λ vs H Q _=>∃(l p pa:ZR) (zs:List V) (rs:List Rc) (ns:List Nat) (x:V),vs=[.ref l,.ref p]/\H l=some (.lst zs)/\av (dC H) rs zs/\rs.length<=63/\aG K H p [.ref pa,x]/\aG K H pa (dM ns)/\∀b H',af H H'->(b=true↔∀n r,rs[n]? = some r->r.e.isSome=true->n∈ns)->Q (.bl b) H'
theorem Jl (T:TX (kx w) mg):Fo P w mg base CX0 1 421 zk ["some","place"] (DK (kx w)):=by
 refine (AW w.params).ok Je (λ vs H Q E h=>?_) (λ a3 A a2 s H vs Q E U h=>?_)
 ·obtain ⟨l,p,D,t,c,ns,x,rfl,_⟩:=h;rfl
 ·obtain ⟨l,p,D,t,c,ns,x,rfl,M,L,rl,sp,Z,q⟩:=h;refine ⟨_,(aT (aq (iA (Pu U) (CS (xs:=["number"]) (g:=bu 0) (fr:=[(1,"place"),(0,"some")]) rfl (sH rfl (T.no (sk _)) (ao (fg jo rfl (T.no (dq _)) O4 (ao (pv 0) ae)) ae)) (by intro p v;simp only [R1,u0,or_false] at v;rcases v with rfl|rfl<;>first|exact ⟨rfl,.inl rfl⟩|exact ⟨rfl,.inr rfl⟩) (K_ (ns:=["place","some"]) (by decide +kernel) (by intro n u k;simp only [R1,u0,or_false] at u;rcases u with rfl|rfl<;>first|exact .inl rfl|exact .inr rfl)) (by intro p v;simp only [R1,u0,or_false] at v;rcases v with rfl|rfl<;>exact ⟨by decide +kernel,by first|exact .inl rfl|exact .inr rfl⟩) (by decide +kernel) rfl (by decide +kernel) (λ _ _ _ _ _=>(bT (N:=["number","place","some"]) 0)) (λ _ _ _ _ _=>(fq (PW.pt (gR (cL pF (au (ve (K:=KX w.params) rfl) (au (ve (K:=KX w.params) rfl) (pv 2) (pv 0) (λ _ _=>rfl)) ag (λ _ _=>rfl)) bw (aD _)) (xi (cL (Rv (K:=KX w.params) rfl) (pv 0) (au (ve (K:=KX w.params) rfl) (pv 1) ag (λ _ _=>rfl)) (by with_unfolding_all rfl))))))) (λ _ _ _ _ _=>(pv 0))) (aW ae) (aD _)))),?_⟩;have lz:t.length=c.length:=cD L;refine gv ?_;refine MF (S:=af) (n:=t.length) (λ k=>((c[k]?.map λ r=>r.e.isSome).getD false) && !decide (k∈ns)) (λ k y _=>True) (af.refl _) (λ _ _ _ a b=>a.trans b) (λ _ _=>af.refl _) (λ _ _ _ _ _ z=>z) (λ R h=>⟨_,rfl,.inl ⟨l,t,rfl,.inl (aH.of M),h⟩⟩) (C0 (m:=63) '%' '!') (λ k C H7 d KT KF o i=>?_) λ W H7 us d a0 fa=>?_
  ·have G:k < c.length:=by lia
   obtain ⟨y,hy,O,rfl,Y⟩:=hV L (F0 G);have B:c[k]? = some c[k]:=F0 G;generalize c[k]=r at *;rw [B] at o i;refine ⟨[some (.int (k:Nat))],rfl,rfl,?_⟩;refine ⟨_,rfl,_,rfl,.inl ⟨l,t,k,.ref O,rfl,rfl,aH.of (d _ _ M),bF hy,.inl ⟨O,_,6,fe r.e,rfl,rfl,aH.of (d _ _ Y),bF (j:=6) rfl,rfl,_,rfl,?_⟩⟩⟩;cases re:r.e with
   | none=>refine bH (by show ¬ (!decide (V.non=V.non))=true;decide) (cK (i ?_ _ (af.refl _)));show (r.e.isSome && _)=false;rw [re];rfl
   | some e=>
    refine bz rfl ?_;refine ⟨_,rfl,_,rfl,.inr (.inl ⟨p,_,0,.ref D,rfl,rfl,d.seqT sp,bF (j:=0) rfl,D,_,rfl,.inr (d.seqT Z),rfl,nD _,_,rfl,?_⟩)⟩;rw [da];have o:=λ z=>o (show (r.e.isSome && _)=true from z);have i:=λ z=>i (show (r.e.isSome && _)=false from z);rw [re] at o i;cases hb:decide (k∈ns) with
    | true=>exact cK (i (by rw [hb];rfl) _ (af.refl _))
    | false=>exact cN ⟨_,rfl,o (by rw [hb];rfl) _ _ (af.refl _) trivial⟩
  ·refine ⟨jq,λ X I=>?_⟩;refine ⟨W,X,us,rfl,rfl,aH.of ((af.upd I) _ _ ab),aH.of ab,q _ _ (d.trans ((af.upd a0).trans (af.upd I))) ?_⟩;have F:=cD fa;rw [decide_eq_true_iff];constructor
   ·intro e n r u he;rw [e] at F;have lf:=List.eq_nil_of_length_eq_zero F.symm;have a1:=(List.getElem?_eq_some_iff.mp u).1;have:=List.filter_eq_nil_iff.mp lf n (List.mem_range.mpr '%');rw [u] at this;have this:¬ (r.e.isSome && !decide (n∈ns))=true:=this;rw [he,O8] at this;by_cases z:n∈ns
    ·exact z
    ·exact ZU (by rw [ZX z];rfl) this
   ·intro f;refine List.eq_nil_of_length_eq_zero (F.trans ?_);rw [List.length_eq_zero_iff,List.filter_eq_nil_iff];intro k C z;rw [Z2] at z;have C:=List.mem_range.mp C;have B:c[k]? = some c[k]:=F0 '%';rw [B] at z;have J:=z.2;rw [ZY (f k _ B z.1)] at J;cases J
def HM (K:c0):Sp:=λ vs H Q _=>∃(t la p pt te:ZR) (zs:List V) (ts:List (ZQ×ZQ)) (rs:List Rc) (ps:List DD) (di:Nat) (os:List Int) (pl:Pl) (m:Nat),vs=[.ref t,.ref la,.str (fh m),.ref p]/\H t=some (.tup [.ref pt,.ref te])/\hO H pt ts/\jT ts/\H la=some (.lst zs)/\av (dC H) rs zs/\av (dQ K H ts) rs ps/\rs.length<=63/\eY di rs os/\iU K H p pl/\eJ ts rs.length pl.1.length pl/\
 ∀l ys H',af H H'->H l=none->H' l=some (.lst ys)->av (e_ K H') (gh m ts rs ps pl) ys->Q (.ref l) H'
theorem MV (T:TX (kx w) mg) (c0:Ca P w mg base "_law_may_be_next" ["some","strictness","done","number"] 2 (Dp (kx w))) (c1:Ca P w mg base "_law_applied" ["things","states","own"] 2 (AO (kx w))):Fo P w mg base CX0 3 416 Cp ["tale","some","strictness","place"] (HM (kx w)):=by
 refine (AR w.params).ok bD (λ S H Q E h=>?_) (λ d7 A d6 s H S Q E hr h=>?_)
 ·obtain ⟨t,B,p,pt,te,D,ts,l,Z,di,os,pl,m,rfl,_⟩:=h;rfl
 ·obtain ⟨t,B,p,pt,te,D,ts,l,Z,di,os,⟨u,C⟩,m,rfl,et,th,ok,Y,X,gd,rl,DI,⟨F,I,S,sp,N,sb,sz⟩,M,q⟩:=h;refine ⟨_,(aU (aC (i:=4) bD.nd rfl (E1 rfl) (aW ae))
   (aU (dU (pv 3) (bQ rfl (eW (fm (i:=5) bD.nd rfl (E1 rfl)) (eW (fm (i:=6) bD.nd rfl (E1 rfl)) iW))))
   (aU (bY Z1 rfl (sH rfl (T.no (sk _)) (ao (fg jo rfl (T.no (dq _)) O4 (ao (pv 1) ae)) ae)) (fm (i:=7) bD.nd rfl (E1 rfl))
   (aT (aJ (bS (aB c0 (hr.mono '!') rfl (ao (pv 1) (ao (pv 2) (ao (pv 5) (ao (pv 7) ae))))) (λ _=>rfl))
   (aU (aC (i:=8) bD.nd rfl (E1 rfl) (aW (ao (au aj (au aj (pv 1) (pv 7) (λ _ _=>rfl)) ag (λ _ _=>rfl)) (ao (au aj (au aj (pv 1) (pv 7) (λ _ _=>rfl)) ag (λ _ _=>rfl)) (ao (au aj (au aj (pv 1) (pv 7) (λ _ _=>rfl)) ag (λ _ _=>rfl)) (ao bw ae))))))
   (aU (aC (i:=9) bD.nd rfl (E1 rfl) (aB c1 (hr.mono '!') rfl (ao (au aj (pv 0) ag (λ _ _=>rfl)) (ao (pv 6) (ao (pv 8) ae)))))
   (aT (aJ (PW.pt (gB (cL gy (au aj (au aj (pv 1) (pv 7) (λ _ _=>rfl)) ag (λ _ _=>rfl)) bw (aD _)) (gc (cL cv (au aj (pv 8) ag (λ _ _=>rfl)) (au aj (au aj (pv 1) (pv 7) (λ _ _=>rfl)) ag (λ _ _=>rfl)) (aD _)))))
   (aT (kD (lJ (pv 4) (ao (az (ao (pv 7) (ao (au aj (pv 8) ag (λ _ _=>rfl)) (ao (az (ao (kO ny rfl (T.no (lG _)) A5 (ao (fg xo rfl (T.no (qv _)) W7 (ao (aO eN (pv 5) (az (ao (pv 7) ae))) ae)) ae)) (ao (pv 9) ae))) ae)))) ae))))
   dD))))
   dD)))
   (aT (aq (pv 4)))))),?_⟩
  have lz:D.length=l.length:=cD X;have N:aG (kx w) H F (dM u):=N;have sz:av (gK (kx w) H) C S:=sz;have d0 :∀n,cM m l u n=cP m l u n:=λ n=>uJ DI M.lt;refine ⟨jq,λ lt a4=>?_⟩;obtain ⟨H1,v1,s1,e1⟩:=eQ (.lst []) a4;rw [<-v1];refine aF (cU ?_);refine ⟨_,rfl,p,_,rfl,s1.seqT sp,rfl,.ref F,_,rfl,.ref I,_,rfl,rfl,cU ?_⟩;refine ⟨_,rfl,.inl ⟨B,D,rfl,.inl (aH.of (s1 _ _ Y)),D.length,rfl,by lia,by lia,?_⟩⟩;refine vz (lo:=0) (n:=D.length) (λ i σ f=>∃ys,af H f/\f lt=some (.lst ys)/\av (e_ (kx w) f) (eM (cP m l u) ts l Z (u,C) i) ys/\∃x7 x8 x9,σ=[some (.ref t),some (.ref B),some (.str (fh m)),some (.ref p),some (.ref lt),some (.ref F),some (.ref I),x7,x8,x9]) ⟨[],s1,e1,.nil,_,_,_,rfl⟩ ?_ ?_
  ·rintro j σ H7 hj ⟨ys,s7,e7,al7,x7,x8,x9,rfl⟩;rw [R9];refine aF ?_;have a0:j < l.length:=by lia
   have K:l[j]? = some l[j]:=F0 a0;obtain ⟨y,hy,pk,rfl,U⟩:=hV X K;obtain ⟨d,a8,a9⟩:=hV gd K;generalize l[j]=r at K U a9;have skip:cP m l u j=false\/ff ts r d j (u,C)=none->∀{y8 y9:Option V} {f:Hp},af H7 f->∃ys,af H f/\f lt=some (.lst ys)/\av (e_ (kx w) f) (eM (cP m l u) ts l Z (u,C) (j + 1)) ys/\∃x7 x8 x9,[some (.ref t),some (.ref B),some (.str (fh m)),some (.ref p),some (.ref lt),some (.ref F),some (.ref I),some (.int (j:Nat)),y8,y9]=[some (.ref t),some (.ref B),some (.str (fh m)),some (.ref p),some (.ref lt),some (.ref F),some (.ref I),x7,x8,x9]:=λ h {y8 y9 f} G=>by refine ⟨ys,s7.trans G,G _ _ e7,?_,_,_,_,rfl⟩;rw [tf,QC K a8 h,j0j,A3];exact bG (λ _ _ z=>e_.tups (.of G) z) al7
   refine vf ⟨_,rfl,_,rfl,_,rfl,_,rfl,B,F,D,l,u,j,m,rfl,s7 _ _ Y,bG (λ _ _ z=>z.same s7) X,rl,s7.seqT N,M.lt,a0,_,rfl,?_⟩;rw [d0];cases hc:cP m l u j with
   | false=>exact cK (skip (.inl hc) (af.refl _))
   | true=>
   refine cN ?_;have c5:=km hc;obtain ⟨g1,g2,hm,dk,ix,wi,ga⟩:=a9;rw [g1,g2] at U;have J :∀{f:Hp} {R:VK} {x8 x9:Option V} {i:Nat} {v:V},af H f->([.int r.h,.str d.nm,.str d.vb,r.x,r.a,.int r.b,fe r.e]:List V)[i]? = some v->R v f->jK (oB (kx w)) (jK (oB (kx w)) (gT 1) (gT 7)) (tC (.int i)) [some (.ref t),some (.ref B),some (.str (fh m)),some (.ref p),some (.ref lt),some (.ref F),some (.ref I),some (.int (j:Nat)),x8,x9] f R:=λ G hi h=>⟨_,rfl,_,rfl,.inl ⟨B,D,j,.ref pk,rfl,rfl,aH.of (G _ _ Y),bF hy,.inl ⟨pk,_,_,_,rfl,rfl,aH.of (G _ _ U),bF hi,h⟩⟩⟩
   refine J (i:=1) s7 rfl (J (i:=2) s7 rfl (J (i:=3) s7 rfl ⟨sr,λ W b0=>?_⟩));obtain ⟨H8,v8,q8,e8⟩:=eQ (.lst [.str d.nm,.str d.vb,r.x,.non]) b0;rw [<-v8];refine aF (cU ?_);have s8:=s7.trans q8;have L:Tt (kx w) H H8:=.of s8;obtain ⟨b1,c6⟩:=M.n63 rl a0 c5;refine ⟨_,rfl,.inr (.inl ⟨t,_,0,.ref pt,rfl,rfl,aG.of (s8 _ _ et),bF (j:=0) rfl,_,rfl,_,rfl,?_⟩)⟩;refine ⟨pt,I,W,ts,_,C,d.nm,d.vb,r.x,.non,d.k,d.dt,rfl,th.tt L,ok,⟨S,s8.seqT sb,bG (λ _ _ z=>gK.tups L.t z) sz,M.so⟩,b1,e8,hm,dk,bZ.mono' L.t _ _ ix,wi.tt L,λ p9 H9 sv c7 k9 e9 b8 so=>?_⟩;refine aF (cU ?_);have O:af H7 H9:=λ c o e=>k9 c o (λ z=>by rw [List.mem_singleton.mp z,b0] at e;cases e) (q8 c o e);have s9:=s7.trans O;have c9:=hX dk so b1;have st:=jP (ts:=ts) (r:=r) (n:=j) (pl:=(u,C)) c7;refine mD (λ f=>H9=f/\ff ts r d j (u,C)=some (qH ts d j (u,C) sv)) ?_ λ put=>?_;rotate_left
   ·refine nM (J (i:=6) s9 rfl ⟨rfl,_,rfl,?_⟩);cases re:r.e with
    | none=>refine bz rfl (cN (put _ ⟨rfl,?_⟩));rw [st,re];rfl
    | some e=>
    refine bH (by simp [fe]) ?_;have rA:nq r.a:=by
     rcases ga with ⟨g,_⟩|⟨_,g⟩
     ·rw [re] at g;cases g
     ·exact g
    refine ⟨_,rfl,.inl ⟨W,_,3,_,rfl,rfl,aH.of e9,bF (j:=3) rfl,J (i:=4) s9 rfl ⟨nq.scal (.inl c9.2.isA) (.inl rA),_,rfl,?_⟩⟩⟩;by_cases za:(dz d.k d.vb d.dt sv).2=r.a
    ·refine bz (ZY za) (put _ ⟨rfl,?_⟩);rw [st,ZY za,Bool.or_true];rfl
    ·refine bH (λ h=>za (ZW h)) (skip (.inr ?_) O);rw [st,re,ZX za];rfl
   rintro f ⟨rfl,hst⟩;refine ⟨_,rfl,.inl ⟨rfl,_,aH.of (O _ _ e7)⟩,_,rfl,_,rfl,.inl ⟨W,_,3,_,rfl,rfl,aH.of e9,bF (j:=3) rfl,?_⟩⟩;refine BU (Ak (oU (n:=j) (λ R h=>⟨_,rfl,h⟩) (λ R h=>⟨_,rfl,h⟩) (s9.seqT N) c6 λ b4 d5 c2 b3=>⟨_,rfl,cV,λ b5 d3=>?_⟩));obtain ⟨d4,b2,a5,c4⟩:=eQ (.tup [.ref b4,.ref p9]) d3;rw [<-b2];refine ⟨nk,λ b6 d1=>?_⟩;obtain ⟨a7,c8,a2,b7⟩:=eQ (.tup [.int (j:Nat),(dz d.k d.vb d.dt sv).2,.ref b5]) d1;rw [<-c8];have a1:=(c2.trans a5).trans a2;have a3:=O.trans a1;have a6:=a3 _ _ e7;have yl:ys.length<=j:=by rw [cD al7];exact Bp
   refine ⟨lt,ys,_,rfl,rfl,a6,U1 (m:=100) '%' '!',?_⟩;have tu:bN (kx w) a7 (upd a7 lt (.lst (ys++[.ref b6]))):=bN.lst a6;refine ⟨ys++[.ref b6],af.keep (s7.trans a3) a4,ab,?_,_,_,_,rfl⟩;rw [tf,Jk K a8 hc hst];obtain ⟨b9,c3,d2,_⟩:=b8;exact AV (bG (λ _ _ z=>(e_.tups (.of a3) z).tups tu) al7) (.cons (e_.tups tu ⟨b6,b5,rfl,aG.of b7,b4,p9,b9,aG.of (a2 _ _ c4),aG.of ((a5.trans a2) _ _ b3),a1.seqT c3,bG (λ _ _ z=>gK.tups (.of a1) z) d2⟩) .nil)
  ·rintro σ H7 ⟨ys,s7,e7,al7,x7,x8,x9,rfl⟩;rw [lz] at al7;exact ⟨_,rfl,q _ _ _ s7 a4 e7 al7⟩
def jD (K:c0) (H:Hp) (pl:Pl) (y:V):Prop:=∃p,y=.ref p/\iU K H p pl
def jD.same {pl:Pl} (s:af H H') (h:jD K H pl y):jD K H' pl y:=h.elim λ p z=>⟨p,z.1,z.2.tups (.of s)⟩
def jw (m:Nat) (ts:List (ZQ×ZQ)) (rs:List Rc) (ps:List DD) (pl:Pl):Prop:=∃o,Wk m ts rs ps o pl
def Ac (K:c0):Sp:=λ vs H Q _=>∃(t:ZR) (ts:List (ZQ×ZQ)) (es:List Ev) (ps:List DD) (m:Nat),vs=[.ref t,.str (fh m)]/\kZ K H t ts es ps/\
 ∀d ks H',af H H'->H d=none->H' d=some (cc d ks)->ks.length<=1000->dZ K H' (jw m ts (aR 0 [] es) ps) ks->(∀pl,jw m ts (aR 0 [] es) ps pl->bO pl∈ks.map (·.1))->Q (.ref d) H'
theorem L_ (T:TX (kx w) mg) (c0:Ca P w mg base "_law_deeds" ["tale"] 1 (AX (kx w))) (c1:Ca P w mg base "_law_first" ["things"] 1 (zd (kx w))) (c2:Ca P w mg base "_law_nexts" ["tale","some","strictness","place"] 3 (HM (kx w))):Fo P w mg base CX0 4 428 BE ["tale","strictness"] (Ac (kx w)):=by
 refine (BI w.params).ok aZ (λ vs H Q E h=>?_) (λ g0 A f7 s H vs Q E I h=>?_)
 ·obtain ⟨t,ts,es,ps,m,rfl,_⟩:=h;rfl
 ·obtain ⟨t,ts,es,ps,m,rfl,⟨ta,ok,d9,wf,gd,rl⟩,q⟩:=h;refine ⟨_,(aU (aC (i:=2) aZ.nd rfl (E1 rfl) (aB c0 (I.mono '!') rfl (ao (pv 0) ae)))
   (aU (aC (i:=3) aZ.nd rfl (E1 rfl) (az (ao (az ae) (ao (aB c1 (I.mono '!') rfl (ao (au aj (pv 0) ag (λ _ _=>rfl)) ae)) ae))))
   (aU (aC (i:=4) aZ.nd rfl (E1 rfl) (Ka I (pv 3) dm))
   (aU (aC (i:=5) aZ.nd rfl (E1 rfl) (aW (ao (pv 3) ae)))
   (aU (BJ Z1 (cL (FW I) (pv 5) (aW ae) (aD _))
   (aT (bY Z1 rfl (lx (aB c2 (I.mono '!') rfl (ao (pv 0) (ao (pv 2) (ao (pv 1) (ao (Gm (pv 5)) ae)))))) (bQ rfl (eW (fm (i:=6) aZ.nd rfl (E1 rfl)) (eW (fm (i:=7) aZ.nd rfl (E1 rfl)) (eW (fm (i:=8) aZ.nd rfl (E1 rfl)) iW))))
   (aT (aJ (cL (CH I) (pv 8) (pv 4) (by with_unfolding_all rfl))
   (aU (Al I (pv 4) (pv 8) dm rfl)
   (aT (kD (lJ (pv 5) (ao (pv 8) ae)))))
   dD)))))
   (aT (aq (pv 4)))))))),?_⟩
  obtain ⟨_,os,DI⟩:=eY.all eY.nil wf;refine gC ⟨_,rfl,t,es,rfl,⟨ts,ta,d9,wf⟩,λ Y zs H0 s0 el aa=>?_⟩;refine aF ?_;obtain ⟨pt,te,ys,et,th,f8,al⟩:=ta;generalize aR 0 [] es=rs at gd rl DI aa q;refine gC ?_;refine ⟨jq,λ a0 f4=>?_⟩;obtain ⟨Ha,va,sa,ea⟩:=eQ (.tup []) f4;rw [<-va];have b2:=s0.trans sa;refine ⟨_,rfl,.inr (.inl ⟨t,_,0,.ref pt,rfl,rfl,aG.of (b2 _ _ et),bF (j:=0) rfl,pt,ts,rfl,th.tt (.of (K:=KX w.params) b2),ok.n6,λ pb Hb sb zb=>?_⟩)⟩;refine ⟨cV,λ r e5=>?_⟩;obtain ⟨M,v1,s1,e1⟩:=eQ (.tup [.ref a0,.ref pb]) e5;rw [<-v1];refine aF ?_;have a3:=sb.trans s1;have O:=b2.trans a3;obtain ⟨d1,q0,z0,_⟩:=zb.stz (K:=KX w.params);have b0:iU (kx w) M r ([],ts.map λ t=>aS t.2):=⟨a0,pb,d1,aG.of e1,aG.of (a3 _ _ ea),s1.seqT q0,bG (λ _ _ z=>gK.tups (.of s1) z) z0⟩
  have f0:=(sa.trans a3) _ _ el;have e4:=bG (λ _ _ z=>z.same (sa.trans a3)) aa;have c7:=bG (λ _ _ z=>dQ.tt (.of O) z) gd;have d8:=th.tt (.of (K:=KX w.params) O);have d6:=O _ _ et;clear el aa th et gd;refine gC ?_;intro c a4;obtain ⟨W,v2,s2,e2⟩:=eQ (cc c []) a4;rw [<-v2];have d2:dy (kx w) W (bO ([],ts.map λ t=>aS t.2)) (.ref r):=gr (b0.tups (.of s2));refine ⟨_,rfl,r,_,rfl,rfl,e2,fX _,fS _,d2,?_⟩;refine aF ?_;have e3:upd W c (cc c [(bO ([],ts.map λ t=>aS t.2),r)]) c=some (cc c [(bO ([],ts.map λ t=>aS t.2),r)]):=ab;have s3:af M (upd W c (cc c [(bO ([],ts.map λ t=>aS t.2),r)])):=af.keep s2 a4;generalize upd W c (cc c [(bO ([],ts.map λ t=>aS t.2),r)])=H3 at e3 s3⊢;refine gC ⟨_,rfl,lC,λ l V=>?_⟩;refine aF ?_;have f1:M l=none:=s3.free V;have a7:c≠l:=λ z=>by rw [<-z,e3] at V;cases V
  have g3:=(af.upd (o:=.lst [.ref r]) V) _ _ e3;have g2:=ab (H:=H3) (a:=l) (o:=.lst [.ref r]);have v:=HV a4 f1 (s3.trans (af.upd (o:=.lst [.ref r]) V));generalize upd H3 l (.lst [.ref r])=F at g3 g2 v⊢;refine yk (yR (λ k σ n=>∃ks zw ws,∃vis:List Pl,∃x6 x7 x8,k=fI rs.length ws/\af M (a_ c l n)/\n c=some (cc c ks)/\n l=some (.lst zw)/\dZ (kx w) (a_ c l n) (λ f=>f∈vis\/f∈ws) ks/\av (jD (kx w) (a_ c l n)) ws zw/\(∀f∈ws,eJ ts rs.length f.1.length f/\jw m ts rs ps f)/\(∀f∈vis,jw m ts rs ps f/\∀s∈gh m ts rs ps f,bO s.2.2∈ks.map (·.1))/\bO ([],ts.map λ t=>aS t.2)∈ks.map (·.1)/\ks.length + fI rs.length ws<=652/\σ=[some (.ref t),some (.str (fh m)),some (.ref Y),some (.ref r),some (.ref c),some (.ref l),x6,x7,x8])
   (λ k σ n=>∃ks zw y ws f,∃vis:List Pl,∃x6 x7 x8,k=fI rs.length (ws++[f])/\af M (a_ c l n)/\n c=some (cc c ks)/\n l=some (.lst (zw++[y]))/\dZ (kx w) (a_ c l n) (λ a=>a∈vis\/a∈ws++[f]) ks/\av (jD (kx w) (a_ c l n)) ws zw/\jD (kx w) (a_ c l n) f y/\(∀a∈ws++[f],eJ ts rs.length a.1.length a/\jw m ts rs ps a)/\(∀f∈vis,jw m ts rs ps f/\∀s∈gh m ts rs ps f,bO s.2.2∈ks.map (·.1))/\bO ([],ts.map λ t=>aS t.2)∈ks.map (·.1)/\ks.length + fI rs.length (ws++[f])<=652/\σ=[some (.ref t),some (.str (fh m)),some (.ref Y),some (.ref r),some (.ref c),some (.ref l),x6,x7,x8])
   (fI rs.length [([],ts.map λ t=>aS t.2)]) ⟨[(bO ([],ts.map λ t=>aS t.2),r)],[.ref r],[([],ts.map λ t=>aS t.2)],[],_,_,_,rfl,v,g3,g2,λ k hk=>?_,.cons ⟨r,rfl,b0.tups (.of v)⟩ .nil,λ f hp=>by rw [List.mem_singleton.mp hp];exact ⟨xw ts _,[],.nil⟩,λ _ h=>ZU h u0,List.mem_singleton.mpr rfl,by show 1 + fI rs.length [([],ts.map λ t=>aS t.2)]<=652;rw [sD];have:=ke (C0 (Nat.sub_le rs.length 0) rl);show 1 + gF (rs.length - 0)<=652;lia,rfl⟩ ?_ ?_)
  ·rw [List.mem_singleton.mp hk];exact ⟨_,rfl,b0.tups (.of v),.inr (List.mem_singleton.mpr rfl)⟩
  ·rintro k σ F ⟨ks,zw,y,ws,f,vis,x6,x7,x8,rfl,v,es4,ew4,ki,aw,⟨p,rfl,pz⟩,J,lk,fv,kw,rfl⟩;obtain ⟨X,L⟩:=J _ (List.mem_append.mpr (.inr (List.mem_singleton.mpr rfl)));have J :∀a∈ws,eJ ts rs.length a.1.length a/\jw m ts rs ps a:=λ a U=>J a (List.mem_append.mpr (.inl U));have mm :∀{a:Pl},a∈vis\/a∈ws++[f]->a∈f :: vis\/a∈ws:=λ {a} h=>by
    rcases h with h|h
    ·exact .inl (Y0 _ h)
    ·rcases List.mem_append.mp h with h|h
     ·exact .inr h
     ·rw [List.mem_singleton.mp h];exact .inl R0
   refine ⟨_,rfl,_,rfl,_,rfl,_,rfl,.inl ⟨rfl,_,aH.of ew4⟩,l,zw++[.ref p],.ref p,rfl,rfl,ew4,by simp,?_⟩;rw [j68];have h5:a_ c l (upd F l (.lst zw))=a_ c l F:=ft;have b3:upd F l (.lst zw) c=some (cc c ks):=by rw [ak a7];exact es4
   have a9:upd F l (.lst zw) l=some (.lst zw):=ab;generalize upd F l (.lst zw)=H5 at h5 b3 a9⊢;rw [<-h5] at v ki aw pz;have S:af M H5:=v.trans aP;refine ⟨t,Y,p,pt,te,zs,ts,rs,ps,_,os,f,m,rfl,S _ _ d6,d8.tt (.of (K:=KX w.params) S),ok,S _ _ f0,bG (λ _ _ z=>z.same S) e4,bG (λ _ _ z=>dQ.tt (.of S) z) c7,by lia,DI,pz.tups (.of aP),X,λ l7 Z H7 s7 a6 c5 b1=>⟨l7,rfl,⟨_,aH.of c5⟩,?_⟩⟩;have c6:=s7 _ _ b3;have c9:=s7 _ _ a9;have a8:af (a_ c l H5) (a_ c l H7):=xR s7;have d4:l7≠c:=λ z=>by rw [z,b3] at a6;cases a6
   have e0:l7≠l:=λ z=>by rw [z,a9] at a6;cases a6
   have e8:=bG (λ _ _ z=>e_.tups (Da c6 c9) z) b1;have nx:=xO c7 ok X '%' (m:=m);have f5:=G_ (m:=m) (ts:=ts) (ps:=ps) X.nd X.lt;have f2:Z.length<=rs.length - f.1.length:=by rw [cD b1];show (eM (cP m rs f.1) ts rs ps f rs.length).length<=_;lia
   have c4:gF (rs.length - f.1.length - 1)<=651:=ke '%';have e6:fI rs.length (ws++[f])=fI rs.length ws + gF (rs.length - f.1.length):=by rw [vx,sD]
   refine pf (K:=KX w.params) (a:=l7) (xs:=Z) (λ j σ n=>∃ks' zs' ws' jj,jj<=j/\af (a_ c l H7) (a_ c l n)/\n c=some (cc c ks')/\n l=some (.lst zs')/\dZ (kx w) (a_ c l n) (λ a=>a∈f :: vis\/a∈ws') ks'/\av (jD (kx w) (a_ c l n)) ws' zs'/\(∀a∈ws',eJ ts rs.length a.1.length a/\jw m ts rs ps a)/\(∀d∈ks.map (·.1),d∈ks'.map (·.1))/\(∀s∈(gh m ts rs ps f).take j,bO s.2.2∈ks'.map (·.1))/\ks'.length<=ks.length + jj/\fI rs.length ws'=fI rs.length ws + jj * gF (rs.length - f.1.length - 1)/\∃x6 x7 x8,σ=[some (.ref t),some (.str (fh m)),some (.ref Y),some (.ref r),some (.ref c),some (.ref l),x6,x7,x8])
    ⟨ks,zw,ws,0,o0 _,af.refl _,c6,c9,(ki.same a8).mono λ a h=>mm h,bG (λ _ _ z=>z.same a8) aw,J,λ _ h=>h,λ _ h=>ZU h (by rw [b8];exact u0),o0 _,by rw [Nat.zero_mul];rfl,_,_,_,rfl⟩ (λ j σ n _ h=>?_) ?_ ?_
   ·obtain ⟨_,_,_,_,_,h,_⟩:=h;exact aH.of (aP _ _ (h _ _ (nu d4 e0 c5)))
   ·rintro j y σ D hy ⟨ks',zs',ws',jj,lj,s8,es8,ew8,ki8,aw8,po8,ko8,pr8,kl8,wk8,x6,x7,x8,rfl⟩;have jl:j < Z.length:=(List.getElem?_eq_some_iff.mp hy).1;obtain ⟨u,c8,b9,B,rfl,d7,e7⟩:=fJ e8 hy;have b7:u∈gh m ts rs ps f:=S0 c8;have c3:=nx u b7;have tk :∀s∈(gh m ts rs ps f).take (j + 1),s∈(gh m ts rs ps f).take j\/s=u:=λ s x=>by
     rw [Q6,c8] at x;rcases List.mem_append.mp x with z|z
     ·exact .inl z
     ·exact .inr (List.mem_singleton.mp z)
    have f3:af (a_ c l H7) D:=s8.trans aP;have a5:=e7.tups (.of s8);have f9:jj * gF (rs.length - f.1.length - 1)<=5 * 651:=j0d '%' c4;have zl:zs'.length < 10000:=by
     have h1:=zL (N:=rs.length) ws';rw [cD aw8]
     lia
    refine ⟨b9,_,rfl,f3.seqT d7,rfl,_,_,rfl,_,_,rfl,_,_,rfl,rfl,?_⟩;have b6:=(ki8.same aP).at_ (.inl es8);have d0:=gr (a5.tups (.of aP));refine vf ⟨_,rfl,_,rfl,c,B,ks',bO u.2.2,rfl,rfl,b6,fX _,fS _,d0,_,rfl,?_⟩;refine gf (λ _=>?_) λ d3=>⟨ks',zs',ws',jj,by lia,s8,es8,ew8,ki8,aw8,po8,ko8,λ s x=>?_,kl8,wk8,_,_,_,rfl⟩
    rotate_left
    ·rcases tk s x with z|z
     ·exact pr8 s z
     ·rw [z];by_cases C:bO u.2.2∈ks'.map (·.1)
      ·exact C
      ·exact ZU (by rw [ZX C];rfl) d3
    refine ⟨_,rfl,_,rfl,c,B,ks',bO u.2.2,rfl,rfl,rfl,es8,b6,U1 kl8 (O1 (m:=1000) '%' '!'),fX _,fS _,d0,cU ?_⟩;have h9:a_ c l (upd D c (cc c (putN ks' (bO u.2.2) B)))=a_ c l D:=mV;have b5:upd D c (cc c (putN ks' (bO u.2.2) B)) c=some (cc c (putN ks' (bO u.2.2) B)):=ab;have b4:upd D c (cc c (putN ks' (bO u.2.2) B)) l=some (.lst zs'):=by rw [ak a7.symm];exact ew8
    generalize upd D c (cc c (putN ks' (bO u.2.2) B))=H9 at h9 b5 b4⊢;rw [<-h9] at s8 ki8 aw8 a5;refine ⟨_,rfl,.inl ⟨rfl,_,aH.of b4⟩,_,rfl,l,zs',_,rfl,rfl,b4,O1 zl '!',?_⟩;refine ⟨putN ks' (bO u.2.2) B,zs'++[.ref B],ws'++[u.2.2],jj + 1,by lia,by rw [ft];exact s8,by rw [ak a7];exact b5,ab,?_,?_,λ a U=>?_,λ d hd=>sR (ko8 d hd),λ s x=>?_,C0 vR '%',?_,_,_,_,rfl⟩
    ·rw [ft];exact (ki8.mono λ a h=>h.imp id λ z=>List.mem_append.mpr (.inl z)).put a5 (.inr (List.mem_append.mpr (.inr (List.mem_singleton.mpr rfl))))
    ·rw [ft];exact mw aw8 ⟨B,rfl,a5⟩
    ·rcases List.mem_append.mp U with z|z
     ·exact po8 a z
     ·rw [List.mem_singleton.mp z];exact ⟨c3.1,L.elim λ o z=>⟨_,.snoc z b7⟩⟩
    ·rcases tk s x with z|z
     ·exact sR (pr8 s z)
     ·rw [z];exact AF
    ·rw [vx,wk8,Nat.succ_mul,sD,c3.2,show rs.length - (f.1.length + 1)=rs.length - f.1.length - 1 by lia]
     lia
   ·rintro σ D ⟨ks',zs',ws',jj,lj,s8,es8,ew8,ki8,aw8,po8,ko8,pr8,kl8,wk8,x6,x7,x8,rfl⟩;have u:=Hq (C0 lj f2);rw [show Z.length=(gh m ts rs ps f).length from cD b1,i6] at pr8;refine ⟨fI rs.length ws',by rw [e6,wk8];lia,ks',zs',ws',f :: vis,_,_,_,rfl,(v.trans a8).trans s8,es8,ew8,ki8,aw8,po8,λ a U=>?_,ko8 _ fv,by rw [wk8];lia,rfl⟩;rcases List.mem_cons.mp U with z|z
    ·rw [z];exact ⟨L,pr8⟩
    ·exact ⟨(lk a z).1,λ s x=>ko8 _ ((lk a z).2 s x)⟩
  ·rintro k σ F ⟨ks,zw,ws,vis,x6,x7,x8,rfl,v,es4,ew4,ki,aw,J,lk,fv,kw,rfl⟩ body;refine ⟨_,rfl,jq,λ l9 d5=>?_⟩;obtain ⟨H9,v9,R,e9⟩:=eQ (.lst []) d5;rw [<-v9];have C:=xR (a:=c) (b:=l) R;refine ⟨l,l9,zw,rfl,rfl,aH.of (R _ _ ew4),aH.of e9,_,rfl,?_⟩;by_cases hz:zw=[]
   ·refine bH (by rw [hz];decide) ?_;subst hz;cases aw;have kc:dZ (kx w) H9 (jw m ts rs ps) ks:=(((ki.same C).same aP).mono λ a h=>(lk a (h.resolve_right u0)).1)
    refine ⟨_,rfl,q c ks H9 (O.trans ((v.trans C).trans aP)) (O.free a4) (R _ _ es4) '%' kc λ f L=>?_⟩;obtain ⟨o,L⟩:=L;refine zM (G:=λ f=>bO f∈ks.map (·.1)) fv (λ f hp s x=>?_) L;obtain ⟨k,hk,e⟩:=List.mem_map.mp hp;obtain ⟨f6,e',_,g⟩:=ki k hk;have:=tI (e.symm.trans e');subst this;exact (lk f (g.resolve_right u0)).2 s x
   ·refine bz (ZY hz) ?_;have ez:=(B4 hz).symm;rw [ez] at aw ew4;obtain ⟨wr,q0,rfl,a1,a2⟩:=CF aw;exact body _ ⟨ks,_,_,wr,q0,vis,x6,x7,x8,rfl,v.trans C,R _ _ es4,R _ _ ew4,ki.same C,bG (λ _ _ z=>z.same C) a1,a2.same C,J,lk,fv,kw,rfl⟩
def Jz (e:H a=some (.ext f)):bN K H (upd H a o):=λ p b h=>by
 rcases h with (h|⟨ob,h⟩)|h
 ·exact .inl (.inl (by rw [ak (λ z=>by rw [z,e] at h;cases h)];exact h))
 ·exact .inl (.inr ⟨ob,by rw [ak (λ z=>by rw [z,e] at h;cases h)];exact h⟩)
 ·exact .inr h
noncomputable def jh (rs:List Rc) (ks:List (ZJ×ZR)) (i:Nat):Bool:=(ks[i]?.map λ k=>@decide (∃pl,k.1=bO pl/\eC rs pl) (y6 _)).getD false
def yq {rs:List Rc} {k:ZJ×ZR} {pl:Pl} (h:ks[i]? = some k) (e:k.1=bO pl):jh rs ks i=true↔eC rs pl:=by
 unfold jh;rw [h];show @decide _ (y6 _)=true↔_;rw [@decide_eq_true_iff _ (y6 _)];constructor
 ·rintro ⟨pl',e',f⟩;rw [tI (e.symm.trans e')];exact f
 ·exact λ f=>⟨pl,e,f⟩
def Ip (K:c0):Sp:=λ vs H Q _=>∃(t:ZR) (ts:List (ZQ×ZQ)) (es:List Ev) (ps:List DD) (m:Nat),vs=[.ref t,.str (fh m)]/\kZ K H t ts es ps/\∀b H',af H H'->(b=true↔∃o pl,Wk m ts (aR 0 [] es) ps o pl/\eC (aR 0 [] es) pl)->Q (.bl b) H'
theorem Ra (T:TX (kx w) mg) (c0:Ca P w mg base "_law_deeds" ["tale"] 1 (AX (kx w))) (c1:Ca P w mg base "_law_places" ["tale","strictness"] 4 (Ac (kx w))) (c2:Ca P w mg base "_law_is_full" ["some","place"] 1 (DK (kx w))):Fo P w mg base CX0 5 433 zH ["tale","strictness"] (Ip (kx w)):=by
 refine (Ar w.params).ok eU (λ U H Q E h=>?_) (λ a3 A a2 s H U Q E B h=>?_)
 ·obtain ⟨t,y,j,F,m,rfl,_⟩:=h;rfl
 ·obtain ⟨t,y,j,F,m,rfl,tp,q⟩:=h;refine ⟨_,(aU (aC (i:=2) eU.nd rfl (C1 rfl) (aB c0 (B.mono '!') rfl (ao (pv 0) ae)))
   (aT (aq (iA (FW B) (eE (xs:=["place"]) (g:=bu 0) (fr:=[(2,"some")]) (QU (aB c1 (B.mono '!') rfl (ao (pv 0) (ao (pv 1) ae)))) (λ _ _ _ _ _=>(bT (N:=["place","some"]) 0)) (λ _ _ _ _ _=>(fq (bS (aB c2 (B.mono '!') rfl (ao (pv 1) (ao (pv 0) ae))) (λ _=>rfl)))) (λ _ _ _ _ _=>(pv 0))) (aW ae) (aD _))))),?_⟩
  refine gC ⟨_,rfl,t,j,rfl,⟨y,tp.1,tp.2.2.1,tp.2.2.2.1⟩,λ la zs I Z el aa=>?_⟩;refine aF ?_;have a0:=tp.same Z;have rl:=tp.2.2.2.2.2;refine gv ?_;refine rV (λ a e n=>af I n/\I a=none/\n a=some (cc a e)/\e.length<=1000/\dZ (kx w) n (jw m y (aR 0 [] j) F) e/\∀p,jw m y (aR 0 [] j) F p->bO p∈e.map (·.1)) (jh (aR 0 [] j)) (λ _ _ _=>True) (λ R h=>⟨_,rfl,_,rfl,t,y,j,F,m,rfl,a0,λ d e n x hd ed K v D=>h d e n ⟨x,hd,ed,K,v,D⟩⟩) (λ a e n h=>⟨h.2.2.1,C0 h.2.2.2.1 '!'⟩) ?_ ?_
  ·rintro a e n ob ⟨x,ha,ea,K,v,D⟩ i k r J s3 KT KF k1 k2;obtain ⟨p,u,⟨pa,pb,U,sp,sa,_⟩,_⟩:=v k (S0 r);have M:af I J:=(af.keep x ha).trans s3;have S:bN (kx w) n J:=λ c xs z=>s3.seqT (Jz ea _ _ z);refine ⟨[some (.ref k.2)],rfl,rfl,?_⟩;refine ⟨_,rfl,_,rfl,la,k.2,pa,zs,_,p.1,.ref pb,rfl,M _ _ el,bG (λ _ _ z=>z.same M) aa,by lia,S _ _ sp,S _ _ sa,λ b H4 O V=>⟨_,rfl,?_⟩⟩;have W:=yq (rs:=aR 0 [] j) r u;refine gf (λ h=>⟨_,rfl,k1 (W.mpr (V.mp h)) _ _ O trivial⟩) λ h=>k2 ?_ _ O;cases hz:jh (aR 0 [] j) e i with
   | false=>rfl
   | true=>exact ZU (V.mpr (W.mp hz)) h
  ·rintro a e n ob l J Y ⟨x,ha,ea,K,v,D⟩ s3 hl fa;obtain ⟨H4,v4,q4,e4⟩:=eQ (.lst Y) hl;rw [<-v4];refine ⟨jq,λ l5 a1=>?_⟩;obtain ⟨H5,v5,X,e5⟩:=eQ (.lst []) a1;rw [<-v5];refine ⟨l,l5,Y,rfl,rfl,aH.of (X _ _ e4),aH.of e5,q _ _ (Z.trans (((af.keep x ha).trans s3).trans (q4.trans X))) ?_⟩;have L:=cD fa;rw [decide_eq_true_iff];constructor
   ·intro ne;have hp:0 < ((L1 e.length).filter (jh (aR 0 [] j) e)).length:=by rw [<-L];exact List.length_pos_iff.mpr ne
    obtain ⟨i,C⟩:=j2h hp;obtain ⟨h1,h2⟩:=List.mem_filter.mp C;have r:=F0 (List.mem_range.mp h1);obtain ⟨p,u,_,o,G⟩:=v _ (S0 r);exact ⟨o,p,G,(yq r u).mp h2⟩
   ·rintro ⟨o,p,G,f⟩ z;rw [z] at L;obtain ⟨k,r,u⟩:=List.mem_map.mp (D p ⟨o,G⟩);obtain ⟨i,C⟩:=List.mem_iff_getElem?.mp r;have:=List.filter_eq_nil_iff.mp (List.eq_nil_of_length_eq_zero L.symm) i (List.mem_range.mpr (List.getElem?_eq_some_iff.mp C).1);exact this ((yq C u).mpr f)
end
section
def mv {rs:List Rc} {pl:Pl} :s∈gh m ts rs ps pl↔∃n r p,cP m rs pl.1 n=true/\rs[n]? = some r/\ps[n]? = some p/\ff ts r p n pl=some s:=by
 unfold gh eM;rw [List.mem_filterMap];constructor
 ·rintro ⟨n,_,e⟩;unfold dF at e;split at e
  ·rename_i h;split at e
   ·rename_i r p hr hp;exact ⟨n,r,p,h,hr,hp,e⟩
   ·cases e
  ·cases e
 ·rintro ⟨n,r,p,h,hr,hp,e⟩;refine ⟨n,List.mem_range.mpr (List.getElem?_eq_some_iff.mp hr).1,?_⟩;unfold dF;rw [ZZ h,hr,hp];exact e
def Ig {r:Rc} {p:DD} {pl:Pl} (e:ff ts r p n pl=some s):s.1=n:=by
 unfold ff at e;split at e
 ·split at e
  ·cases e;rfl
  ·cases e
 ·cases e
def OM {rs:List Rc} {pl:Pl} {s':nH} (h:s∈gh m ts rs ps pl) (h':s'∈gh m ts rs ps pl) (e:s.1=s'.1):s=s':=by
 obtain ⟨n,r,p,_,f,i,c⟩:=mv.mp h;obtain ⟨g,k,j,_,d,b,a⟩:=mv.mp h';have:n=g:=by rw [<-Ig c,<-Ig a,e]
 subst this;rw [f] at d;cases d;rw [i] at b;cases b;rw [c] at a;exact Q1 a
def iH {rs:List Rc} {o:List Oa} {a:Oa} {pl:Pl} (h:Wk m ts rs ps (o++[a]) pl) :∃pl' s,Wk m ts rs ps o pl'/\s∈gh m ts rs ps pl'/\a=(s.1,s.2.1)/\pl=s.2.2:=by
 generalize ho:o++[a]=o' at h;cases h with
 | nil=>exact ZU (ZT C7 ho) (by simp)
 | @snoc o1 pl1 s w hs=>obtain ⟨b,c⟩:=List.append_inj' ho rfl;subst b;exact ⟨pl1,s,w,hs,List.singleton_inj.mp c,rfl⟩
theorem wQ {α:Type} {l:List α} (h:l.length=n + 1) :∃r x,l=r++[x]/\r.length=n:=by
 have a:l≠[]:=λ z=>by rw [z] at h;cases h
 refine ⟨l.dropLast,l.getLast a,(B4 a).symm,?_⟩;rw [j66]
 lia
theorem Gd {rs:List Rc} :∀(n:Nat) {o o':List Oa} {pl pl':Pl},o.length=n->Wk m ts rs ps o pl->Wk m ts rs ps o' pl'->o.map (·.1)=o'.map (·.1)->pl=pl'
 | 0,o,o',pl,pl',hn,h,h',e=>by
  rw [List.eq_nil_of_length_eq_zero hn] at h e;have u:o'=[]:=by
   cases o' with
   | nil=>rfl
   | cons a r=>cases e
  rw [u] at h';have nil :∀{pl:Pl} {o:List Oa},Wk m ts rs ps o pl->o=[]->pl=([],ts.map λ t=>aS t.2):=λ h=>by
   cases h with
   | nil=>intro _;rfl
   | snoc _ _=>intro z;exact ZU (ZT C7 z) (by simp)
  rw [nil h rfl,nil h' rfl]
 | n + 1,o,o',pl,pl',hn,h,h',e=>by
  obtain ⟨A,a,rfl,g⟩:=wQ hn;have d:o'.length=n + 1:=by
   have:=ZT C7 e;rw [D0,D0] at this
   lia
  obtain ⟨w,b,rfl,x⟩:=wQ d;rw [N1,N1] at e;obtain ⟨q,f⟩:=List.append_inj' e rfl;obtain ⟨y,s,c,i,j,rfl⟩:=iH h;obtain ⟨B,k,v,l,p,rfl⟩:=iH h';have:=Gd n g c v q;subst this;have:s.1=k.1:=by have:=List.singleton_inj.mp f;rw [j,p] at this;exact this
  rw [OM i l this]
theorem oP {rs:List Rc} :∀(n:Nat) {o:List Oa} {pl:Pl},o.length=n->Wk m ts rs ps o pl->∀i,i < n->∃pl' s,Wk m ts rs ps (o.take i) pl'/\s∈gh m ts rs ps pl'/\o[i]? = some (s.1,s.2.1)/\Wk m ts rs ps (o.take (i + 1)) s.2.2
 | 0,_,_,_,_,i,hi=>ZU hi (C4 _)
 | n + 1,o,pl,hn,h,i,hi=>by
  obtain ⟨q,a,rfl,c⟩:=wQ hn;obtain ⟨j,s,b,f,k,rfl⟩:=iH h;rcases Nat.lt_succ_iff_lt_or_eq.mp hi with z|z
  ·obtain ⟨pl',l,g,p,e,d⟩:=oP n c b i z;refine ⟨pl',l,?_,p,?_,?_⟩
   ·rw [z7 '%'];exact g
   ·rw [F2 '%'];exact e
   ·rw [z7 '%'];exact d
  ·refine ⟨j,s,?_,f,?_,?_⟩
   ·rw [z7 '%',D4 '%'];exact b
   ·rw [X1 '%',show i - q.length=0 by lia,k];rfl
   ·rw [D4 (by rw [hn];lia)];exact h
def yG (m:Nat) (ts:List (ZQ×ZQ)) (rs:List Rc) (ps:List DD) (n:Nat) (pl:Pl):Prop:=∃o,Wk m ts rs ps o pl/\o.length=n
end
variable {fp pls:List Pl}
section
def My (ts:List (ZQ×ZQ)) (N d:Nat) (pl:Pl):Prop:=eJ ts N pl.1.length pl/\pl.1.length=d
def ju (K:c0) (H:Hp) (pl:Pl) (y:V):Prop:=∃p,y=.ref p/\iU K H p pl
def ju.same {pl:Pl} (s:af H H') (h:ju K H pl y):ju K H' pl y:=h.elim λ p z=>⟨p,z.1,z.2.tups (.of s)⟩
theorem AE (h:dZ K H G ks) :∀(is:List Nat),(∀i∈is,i < ks.length)->∃pls,av (ju K H) pls (is.map λ i=>V.ref (ks.getD i (.none,0)).2)/\(∀pl∈pls,G pl)/\pls.map bO=is.map λ i=>(ks.getD i (.none,0)).1
 | [],_=>⟨[],.nil,λ _ z=>ZU z u0,rfl⟩
 | i :: is,hi=>by
  obtain ⟨pls,c,d,a⟩:=AE h is λ j b=>hi j (Y0 _ b);have l:=hi i R0;obtain ⟨pl,e,z,g⟩:=h ks[i] (c7 l);refine ⟨pl :: pls,.cons ⟨_,rfl,?_⟩ c,λ p f=>?_,by rw [G1,G1,a,A1,F0 l];exact ZT (· :: _) e.symm⟩
  ·rw [A1,F0 l];exact z
  ·rcases List.mem_cons.mp f with y|y
   ·rw [y];exact g
   ·exact d p y
def Pt (e:H r=some (.lst us)):bN K H (hide r H):=λ a b h=>by
 rcases h with (h|⟨ob,h⟩)|h
 ·exact .inl (.inl (jy (λ z=>by rw [z,e] at h;cases h) h))
 ·exact .inl (.inr ⟨ob,jy (λ z=>by rw [z,e] at h;cases h) h⟩)
 ·exact .inr h
def MH {d:ZJ} (h:(ks.map (·.1)).Nodup):((putN ks d b).map (·.1)).Nodup:=by
 unfold L2.putN;split
 ·exact h
 ·rename_i z;rw [N1,Q4];exact ⟨h,by simp,λ a g c f e=>z (by have h:c=d:=List.mem_singleton.mp f;rw [<-h,<-e];exact g)⟩
def sO (a b:Pl):Prop:=eg (bO a) (bO b)=some true
def qa (m:Nat) (ts:List (ZQ×ZQ)) (rs:List Rc) (ps:List DD) (d:Nat) (pl:Pl):Prop:=My ts rs.length d pl/\yG m ts rs ps d pl
def Qj (nd:(ks.map (·.1)).Nodup) (cm:kH (ks.map (·.1))) (a3:pls.map bO=(b_ (ks.map (·.1))).map λ i=>(ks.getD i (.none,0)).1):pls.Pairwise sO:=by
 have b:=HP cm nd;rw [show ((b_ (ks.map (·.1))).map λ i=>(ks.map (·.1)).getD i .none)=pls.map bO from ?_] at b
 ·have b:=List.pairwise_map.mp b;exact b
 ·rw [a3];refine O7 λ i a=>?_;have a:=List.mem_range.mp ((nI _).mem_iff.mp a);rw [D0] at a;rw [A1,A1,Z0,F0 a];rfl
def Ft (K:c0):Sp:=λ vs H Q _=>∃(b l:ZR) (d:Nat) (rs:List Rc) (ts:List (ZQ×ZQ)) (ps:List DD) (pls:List Pl) (ys:List V) (m:Nat),vs=[.ref b,.ref l]/\jk K H m rs ts ps b/\av (dQ K H ts) rs ps/\jT ts/\rs.length<=5/\pls.length<=15625/\H l=some (.lst ys)/\av (ju K H) pls ys/\(∀pl∈pls,qa m ts rs ps d pl)/\
 ∀l' ys' pls' H',af H H'->H l'=none->H' l'=some (.lst ys')->av (ju K H') pls' ys'->(∀pl∈pls',qa m ts rs ps (d + 1) pl)->pls'.length<=pls.length * 5->pls'.Pairwise sO->(∀pl∈pls,∀s∈gh m ts rs ps pl,s.2.2∈pls')->Q (.ref l') H'
theorem JK (T:TX (kx w) mg) (c0:Fo P w mg base CX0 7 264 tZ ["self","place"] (Be (kx w))):Fo P w mg base CX0 8 321 Ao ["board","layer"] (Ft (kx w)):=by
 refine (zS w.params).ok df (λ vs H Q E h=>?_) (λ c4 A c3 s H vs Q E Y h=>?_)
 ·obtain ⟨b,l,d,x,t,n,D,M,m,rfl,_⟩:=h;rfl
 ·obtain ⟨b,l,d,x,t,n,D,M,m,rfl,bo,gd,ok,rl,lb,el,O,pg,q⟩:=h;refine ⟨_,(aU (aC (i:=2) df.nd rfl (E1 rfl) EO)
   (aU (bY Z1 rfl (lx (pv 1)) (fm (i:=3) df.nd rfl (E1 rfl))
   (aT (bY Z1 rfl (lx (w_ (pv 0) (kP _) (HI _) c0 (Y.mono '!') (DS _) .nil hU (ao (pv 3) ae))) (fm (i:=4) df.nd rfl (E1 rfl))
   (aT (Al Y (pv 2) (au aj (pv 4) ag (λ _ _=>rfl)) dm rfl)))))
   (aT (aq (fg (KQ Y) rfl (T.no (qv _)) W7 (ao (pv 2) ae)))))),?_⟩
  obtain ⟨dx,fs,eb,bf⟩:=id bo;refine gC ?_;intro c b2;refine aF ?_;have s1:=af.upd (o:=cc c []) b2;have e1:upd H c (cc c []) c=some (cc c []):=ab;have a5:af H (hide c (upd H c (cc c []))):=λ p o e=>jy (λ z=>by rw [z,b2] at e;cases e) (s1 _ _ e);generalize upd H c (cc c [])=H1 at s1 e1 a5⊢;refine ⟨_,rfl,l,rfl,⟨_,aH.of (s1 _ _ el)⟩,?_⟩;refine pf (K:=KX w.params) (a:=l) (xs:=M) (λ i σ u=>∃ks,af H (hide c u)/\u c=some (cc c ks)/\dZ (kx w) (hide c u) (qa m t x n (d + 1)) ks/\((ks.map (·.1)).Nodup/\ks.length<=i * 5)/\(∀a∈D.take i,∀s∈gh m t x n a,bO s.2.2∈ks.map (·.1))/\∃x3 x4,σ=[some (.ref b),some (.ref l),some (.ref c),x3,x4])
   ⟨[],a5,e1,(λ k v=>ZU v u0),⟨.nil,J1 _⟩,λ a F=>ZU F (by rw [b8];exact u0),_,_,rfl⟩ (λ i σ u _ h=>aH.of (aM _ _ (h.choose_spec.1 _ _ el))) ?_ ?_
  ·rintro i y σ R hy ⟨ks,s2,e2,ki,kl,ka,x3,x4,rfl⟩;obtain ⟨f,Z,p,rfl,pz⟩:=fJ O hy;have g:=pg f (S0 Z);have C:af H R:=s2.trans aM;refine aF ?_;refine ⟨_,rfl,b,dx,fs,rfl,C _ _ eb,bf.nm _ (by simp),_,rfl,b,p,m,_,x,t,n,f,rfl,bo.same C,bG (λ _ _ z=>dQ.tt (.of C) z) gd,ok,pz.tups (.of C),g.1.1,by lia,λ l3 L H3 G a9 a4 S=>⟨l3,rfl,⟨_,aH.of a4⟩,?_⟩⟩;have e3:=G _ _ e2;have b7:l3≠c:=λ z=>by rw [z,e2] at a9;cases a9
   have a6:=pR (r:=c) G;have c2:=bG (λ _ _ z=>e_.tups (IS e3) z) S;have y5:L.length<=5:=by rw [cD S];exact C0 Bp rl
   have i5:i < D.length:=(List.getElem?_eq_some_iff.mp Z).1;have nx:=xO gd ok g.1.1 '%' (m:=m);refine pf (K:=KX w.params) (a:=l3) (xs:=L) (λ j σ u=>∃ks,af (hide c H3) (hide c u)/\u c=some (cc c ks)/\dZ (kx w) (hide c u) (qa m t x n (d + 1)) ks/\((ks.map (·.1)).Nodup/\ks.length<=i * 5 + j)/\(∀a∈D.take i,∀s∈gh m t x n a,bO s.2.2∈ks.map (·.1))/\(∀s∈(gh m t x n f).take j,bO s.2.2∈ks.map (·.1))/\∃x4,σ=[some (.ref b),some (.ref l),some (.ref c),some (.ref p),x4])
    ⟨ks,af.refl _,e3,ki.same a6,kl,ka,λ s B=>ZU B (by rw [b8];exact u0),_,rfl⟩ (λ j σ u _ h=>aH.of (aM _ _ (h.choose_spec.1 _ _ (jy b7 a4)))) ?_ ?_
   ·rintro j y σ H4 a0 ⟨ks4,s4,e4,ki4,kl4,ka4,kb4,x4,rfl⟩;obtain ⟨X,U,b5,q5,rfl,b3,c1⟩:=fJ c2 a0;have a7:=nx X (S0 U);have j5:j < L.length:=(List.getElem?_eq_some_iff.mp a0).1;have b6:af (hide c H3) H4:=s4.trans aM;have b0:=c1.tups (.of s4);refine aF ?_;refine ⟨_,rfl,_,rfl,.inr (.inl ⟨b5,_,2,.ref q5,rfl,rfl,b6.seqT b3,bF (j:=2) rfl,c,q5,ks4,bO X.2.2,rfl,rfl,rfl,e4,(ki4.same aM).at_ (.inl e4),U1 (m:=78125) (by have:=kl4.2;lia) '!',fX _,fS _,gr (b0.tups (.of aM)),?_⟩)⟩;refine ⟨_,?_,ab,?_,⟨MH kl4.1,C0 vR (by have:=kl4.2;lia)⟩,λ a F s B=>sR (ka4 a F s B),λ s B=>?_,_,rfl⟩
    ·rw [uV];exact s4
    ·rw [uV];exact ki4.put b0 ⟨⟨a7.1,by rw [a7.2,g.1.2]⟩,g.2.elim λ o z=>⟨_,.snoc z.1 (S0 U),by rw [L0,z.2];rfl⟩⟩
    ·rw [Q6,show (gh m t x n f)[j]? = some X from U] at B;rcases List.mem_append.mp B with z|z
     ·exact sR (kb4 s z)
     ·rw [List.mem_singleton.mp z];exact AF
   ·rintro σ H4 ⟨ks4,s4,e4,ki4,kl4,ka4,kb4,x4,rfl⟩;rw [show L.length=(gh m t x n f).length from cD S,i6] at kb4;refine ⟨ks4,(s2.trans a6).trans s4,e4,ki4,⟨kl4.1,by have:=kl4.2;lia⟩,λ a F=>?_,_,_,rfl⟩;rw [Q6,Z] at F;rcases List.mem_append.mp F with z|z
    ·exact ka4 a z
    ·rw [List.mem_singleton.mp z];exact kb4
  ·rintro σ R ⟨ks,s2,e2,ki,kl,ka,x3,x4,rfl⟩;rw [show M.length=D.length from cD O,i6] at ka;have yl:M.length=D.length:=cD O;have cm:kH (ks.map (·.1)):=λ d' hd J he _=>by obtain ⟨k,v,rfl⟩:=List.mem_map.mp hd;obtain ⟨k',N,rfl⟩:=List.mem_map.mp he;obtain ⟨f,e,_,g⟩:=ki k v;obtain ⟨b4,J,_,g'⟩:=ki k' N;rw [e,J];exact oh g.1.1 g'.1.1
   refine ⟨_,rfl,c,ks,rfl,(ki.same aM).at_ (.inl e2),λ k v=>?_,λ k v k' N ne=>cm _ (List.mem_map_of_mem v) _ (List.mem_map_of_mem N) ne,λ l' a8=>?_⟩
   ·obtain ⟨f,e,_⟩:=ki k v;rw [e];exact qF f
   ·have W:=nI (ks.map (·.1));obtain ⟨b1,a1,a2,a3⟩:=AE (ki.same aM) (b_ (ks.map (·.1))) λ i I=>by
     have:=List.mem_range.mp (W.mem_iff.mp I)
     rwa [D0] at this
    have G:=af.upd (o:=.lst ((b_ (ks.map (·.1))).map λ i=>V.ref (ks.getD i (.none,0)).2)) a8;have C:af H R:=s2.trans aM;refine q l' _ b1 _ (C.trans G) (C.free a8) ab (bG (λ _ _ z=>z.same G) a1) a2 ?_ (Qj kl.1 cm a3) λ f hp s B=>?_
    ·have:=ZT C7 a3;rw [D0,D0,W.length_eq,B2,D0] at this;have:=kl.2
     lia
    ·obtain ⟨k,v,ek⟩:=List.mem_map.mp (ka f hp s B);obtain ⟨i,I⟩:=List.mem_iff_getElem?.mp v;have hm:bO s.2.2∈b1.map bO:=by rw [a3];refine List.mem_map.mpr ⟨i,W.mem_iff.mpr (List.mem_range.mpr (by rw [D0];exact (List.getElem?_eq_some_iff.mp I).1)),?_⟩;rw [A1,I];exact ek
     obtain ⟨b4,b9,J⟩:=List.mem_map.mp hm;rw [<-tI J];exact b9
def Fv (a b:Pl):Prop:=a.1.length < b.1.length\/a.1.length=b.1.length/\sO a b
structure AllP (m:Nat) (ts:List (ZQ×ZQ)) (rs:List Rc) (ps:List DD) (fp:List Pl):Prop where
 ok :∀pl∈fp,jw m ts rs ps pl
 all :∀pl,jw m ts rs ps pl->pl∈fp
 pw:fp.Pairwise Fv
theorem AllP.uniq {rs:List Rc} {fp':List Pl} (h:AllP m ts rs ps fp) (h':AllP m ts rs ps fp'):fp=fp':=by
 refine Dj (λ a z=>?_) (λ a b c z y=>?_) h.pw h'.pw λ x=>⟨λ z=>h'.all _ (h.ok _ z),λ z=>h.all _ (h'.ok _ z)⟩
 ·rcases z with z|z
  ·exact Y3 _ z
  ·exact CA _ z.2
 ·rcases z with z|z
  ·exact .inl (by rcases y with y|y<;>lia)
  ·rcases y with y|y
   ·exact .inl '%'
   ·exact .inr ⟨z.1.trans y.1,jJ _ _ _ z.2 y.2⟩
structure nN (m:Nat) (ts:List (ZQ×ZQ)) (rs:List Rc) (ps:List DD) (d:Nat) (fp pls:List Pl):Prop where
 ok :∀pl∈fp,jw m ts rs ps pl
 lo :∀n pl,yG m ts rs ps n pl->n < d->pl∈fp
 at_ :∀pl,yG m ts rs ps d pl->pl∈pls
 lt :∀pl∈fp,pl.1.length < d
 pw:fp.Pairwise Fv
def nN.first {rs:List Rc} :nN m ts rs ps 0 [] [([],ts.map λ t=>aS t.2)]:=by refine ⟨λ _ h=>ZU h u0,λ _ _ _ h=>ZU h (C4 _),λ a h=>?_,λ _ h=>ZU h u0,.nil⟩;obtain ⟨o,w,e⟩:=h;rw [List.eq_nil_of_length_eq_zero e] at w;rw [Gd 0 rfl w .nil rfl];exact List.mem_singleton.mpr rfl
theorem nN.next {rs:List Rc} {d:Nat} {pls':List Pl} (h:nN m ts rs ps d fp pls) (pg :∀pl∈pls,qa m ts rs ps d pl) (so:pls.Pairwise sO) (nx :∀pl∈pls,∀s∈gh m ts rs ps pl,s.2.2∈pls'):nN m ts rs ps (d + 1) (fp++pls) pls':=by
 refine ⟨λ pl i=>?_,λ n pl c t=>?_,λ pl c=>?_,λ pl i=>?_,?_⟩
 ·rcases List.mem_append.mp i with z|z
  ·exact h.ok pl z
  ·obtain ⟨g,o,w,_⟩:=pg pl z;exact ⟨o,w⟩
 ·rcases Nat.lt_succ_iff_lt_or_eq.mp t with z|z
  ·exact List.mem_append.mpr (.inl (h.lo n pl c z))
  ·rw [z] at c;exact List.mem_append.mpr (.inr (h.at_ pl c))
 ·obtain ⟨o,w,e⟩:=c;obtain ⟨r,a,rfl,l⟩:=wQ e;obtain ⟨k,s,p,q,_,rfl⟩:=iH w;exact nx k (h.at_ k ⟨r,p,l⟩) s q
 ·rcases List.mem_append.mp i with z|z
  ·exact G2 (h.lt pl z)
  ·have:=(pg pl z).1.2;lia
 ·rw [List.pairwise_append];refine ⟨h.pw,(List.Pairwise.and_mem.mp so).imp λ {a b} ⟨j,f,z⟩=>.inr ⟨by rw [(pg a j).1.2,(pg b f).1.2],z⟩,λ a j b f=>.inl ?_⟩;rw [(pg b f).1.2];exact h.lt a j
theorem nN.done {rs:List Rc} {d:Nat} (h:nN m ts rs ps d fp []):AllP m ts rs ps fp:=by
 refine ⟨h.ok,λ a ⟨o,w⟩=>?_,h.pw⟩;rcases L8 o.length d with z|z|z
 ·exact h.lo _ a ⟨o,w,rfl⟩ z
 ·exact ZU (h.at_ a ⟨o,w,z⟩) u0
 ·obtain ⟨b,s,c,_⟩:=oP _ rfl w d z;exact ZU (h.at_ b ⟨_,c,by rw [Y2];lia⟩) u0
def GI (K:c0):Sp:=λ vs H Q _=>∃(t:ZR) (ts:List (ZQ×ZQ)) (es:List Ev) (ps:List DD) (m:Nat),vs=[.ref t,.str (fh m)]/\kZ K H t ts es ps/\∀l ys fp H',af H H'->H l=none->H' l=some (.lst ys)->av (ju K H') fp ys->AllP m ts (aR 0 [] es) ps fp->fp.length<=15625->Q (.ref l) H'
theorem JN (T:TX (kx w) mg) (c0:Fo P w mg base (nV P w base) 5 257 uQ ["self","tale","strictness"] (xS (kx w))) (c1:Ca P w mg base "next_layer" ["board","layer"] 8 (Ft (kx w))):Fo P w mg base CX0 9 314 zZ ["tale","strictness"] (GI (kx w)):=by
 refine (Bf w.params).ok cu (λ vs H Q E h=>?_) (λ b5 A b3 s H vs Q E S h=>?_)
 ·obtain ⟨t,c,J,f,m,rfl,_⟩:=h;rfl
 ·obtain ⟨t,c,J,f,m,rfl,tp,q⟩:=h;refine ⟨_,(aU (aC (i:=2) cu.nd rfl (E1 rfl) (zK (El _) c0 (S.mono '!') rfl (T.of (FB _)) (GG _) .nil me (ao (pv 0) (ao (pv 1) ae))))
   (aU (aC (i:=3) cu.nd rfl (E1 rfl) (aW ae))
   (aU (aC (i:=4) cu.nd rfl (E1 rfl) (aW (ao (bV (pv 2) rfl) ae)))
   (aU (BJ Z1 (cL oj (fg jo rfl (T.no (dq _)) O4 (ao (pv 4) ae)) ag (aD _))
   (aU (kD (OH (pv 3) (ao (pv 4) ae)))
   (aT (aC (i:=4) cu.nd rfl (E1 rfl) (aB c1 (S.mono '!') rfl (ao (pv 2) (ao (pv 4) ae)))))))
   (aT (aq (pv 3))))))),?_⟩
  refine Gk tp (λ R h=>⟨_,rfl,_,rfl,h⟩) λ x Z fs v s1 V ok a1 e1 K=>?_;have bo:jk (kx w) v m (aR 0 [] J) c f x:=⟨Z,fs,e1,K⟩
  obtain ⟨l,a4,a6⟩:=K.first;generalize aR 0 [] J=rs at V a1 bo K q;refine gC ?_;refine ⟨jq,λ a L=>?_⟩;refine aF ?_;obtain ⟨M,v_,X,B⟩:=eZ (.lst []) L;rw [<-v_];refine gC ?_;refine ⟨_,rfl,x,_,Z,fs,_,rfl,X _ _ e1,kP _,yi _,a4,lC,λ r I=>?_⟩;refine aF ?_;have U:=af.upd (o:=.lst [.ref l]) I;have g1:upd M r (.lst [.ref l]) r=some (.lst [.ref l]):=ab;have a3:r≠a:=λ z=>by rw [z,B] at I;cases I
  have B:=U _ _ B;have N:af v (hide a (upd M r (.lst [.ref l]))):=λ p o e=>jy (λ z=>by rw [z,L] at e;cases e) ((X.trans U) _ _ e);generalize upd M r (.lst [.ref l])=H3 at B g1 N⊢;refine yk (yR (λ k σ b=>∃d pls ys fz l1 fp,nN m c rs f d fp pls/\av (ju (kx w) (hide a b)) fp fz/\k=7 - d/\d<=6/\af v (hide a b)/\b a=some (.lst fz)/\fz.length<=5 ^ d/\hide a b l1=some (.lst ys)/\av (ju (kx w) (hide a b)) pls ys/\(∀u∈pls,qa m c rs f d u)/\(pls.length<=5 ^ d/\pls.Pairwise sO)/\σ=[some (.ref t),some (.str (fh m)),some (.ref x),some (.ref a),some (.ref l1)])
   (λ k σ b=>∃d pls ys fz l1 fp,nN m c rs f d fp pls/\av (ju (kx w) (hide a b)) fp fz/\d<=5/\k=7 - d/\af v (hide a b)/\b a=some (.lst fz)/\fz.length<=5 ^ d/\hide a b l1=some (.lst ys)/\av (ju (kx w) (hide a b)) pls ys/\(∀u∈pls,qa m c rs f d u)/\(pls.length<=5 ^ d/\pls.Pairwise sO)/\σ=[some (.ref t),some (.str (fh m)),some (.ref x),some (.ref a),some (.ref l1)])
   7 ⟨0,[([],c.map λ t=>aS t.2)],[.ref l],[],r,[],.first,.nil,rfl,J1 _,N,B,J1 _,jy a3 g1,.cons ⟨l,rfl,a6.tups (.of N)⟩ .nil,λ u O=>by rw [List.mem_singleton.mp O];exact ⟨⟨xw c _,rfl⟩,[],.nil,rfl⟩,⟨o0 _,L6 _ _⟩,rfl⟩ ?_ ?_)
  ·rintro k σ C ⟨d,pls,ys,fz,l1,fp,ly,afp,d4,rfl,s4,ef,fl,el,al,pg,pn,rfl⟩;have yl:ys.length<=5 ^ d:=by rw [cD al];exact pn.1
   have G:5 ^ d<=5 ^ 5:=Nat.pow_le_pow_right '!' d4;have d6:5 ^ (d + 1)=5 ^ d * 5:=rfl;have a7:=aM _ _ el;refine ⟨_,rfl,.inl ⟨rfl,_,aH.of ef⟩,_,rfl,a,l1,fz,ys,rfl,rfl,ef,a7,C0 (m:=6250) (by rw [show (5:Nat) ^ 5=3125 from rfl] at G;lia) '!',cU ?_⟩;have Y:hide a (upd C a (.lst (fz++ys)))=hide a C:=uV;have F:upd C a (.lst (fz++ys)) a=some (.lst (fz++ys)):=ab;generalize upd C a (.lst (fz++ys))=H5 at Y F⊢;rw [<-Y] at s4 el al afp;have s5:af v H5:=s4.trans aM;refine ⟨_,rfl,_,rfl,x,l1,d,rs,c,f,pls,ys,m,rfl,bo.same s5,bG (λ _ _ z=>dQ.tt (.of s5) z) a1,ok,V,by rw [show (5:Nat) ^ 5=3125 from rfl] at G;have:=pn.1;lia,aM _ _ el,bG (λ _ _ z=>z.same aM) al,pg,λ W b0 a5 H6 D a0 a8 b1 b2 b4 a2 a9=>?_⟩;have nl:W≠a:=λ z=>by rw [z,F] at a0;cases a0
   exact ⟨7 - (d + 1),by lia,d + 1,a5,b0,_,W,fp++pls,ly.next pg pn.2 a9,AV (bG (λ _ _ z=>z.same (pR D)) afp) (bG (λ _ _ z=>z.same (pR D)) al),rfl,by lia,s4.trans (pR D),D _ _ F,by rw [L0];lia,jy nl a8,bG (λ _ _ z=>z.elim λ p y=>⟨p,y.1,y.2.tups (Pt (D _ _ F))⟩) b1,b2,⟨by have:=pn.1;lia,a2⟩,rfl⟩
  ·rintro k σ C ⟨d,pls,ys,fz,l1,fp,ly,afp,rfl,G,s4,ef,fl,el,al,pg,pn,rfl⟩ body;refine ⟨_,rfl,.inl ⟨l1,ys,rfl,.inl (aH.of (aM _ _ el)),_,_,rfl,rfl,_,rfl,?_⟩⟩;refine gf (λ h=>?_) λ h=>?_;rotate_left
   ·have z:pls=[]:=List.eq_nil_of_length_eq_zero (by rw [<-cD al];exact Nat.eq_zero_of_not_pos λ z=>h (ZY (by show (0:Int) < (ys.length:Nat);lia)));rw [z] at ly;exact ⟨_,rfl,q a fz fp _ (s1.trans (s4.trans aM)) (s1.free L) ef (bG (λ _ _ z=>z.same aM) afp) ly.done (C0 (by rw [<-cD afp];exact fl) (Nat.pow_le_pow_right (n:=5) (i:=d) (j:=6) '!' G))⟩
   have h:(0:Int) < (ys.length:Int):=ZW h;refine body _ ⟨d,pls,ys,fz,l1,fp,ly,afp,?_,rfl,s4,ef,fl,el,al,pg,pn,rfl⟩;obtain ⟨u,O⟩:=j2h (show 0 < pls.length by have:=cD al;lia);have g:=(pg u O).1;have:=uv _ _ g.1.nd g.1.lt;have:=g.2
   lia
def zi (K:c0):Sp:=λ vs H Q _=>∃(t:ZR) (ts:List (ZQ×ZQ)) (es:List Ev) (ps:List DD) (m:Nat),vs=[.ref t,.str (fh m)]/\kZ K H t ts es ps/\
 (∀H',af H H'->(∃o pl,Wk m ts (aR 0 [] es) ps o pl/\eC (aR 0 [] es) pl)->Q .non H')/\∀l ys fp H',af H H'->H l=none->H' l=some (.lst ys)->av (ju K H') fp ys->AllP m ts (aR 0 [] es) ps fp->fp.length<=15625->(¬∃o pl,Wk m ts (aR 0 [] es) ps o pl/\eC (aR 0 [] es) pl)->Q (.ref l) H'
def Rh (T:TX (kx w) mg) (c0:Ca P w mg base "judged" ["tale","strictness"] 8 (FG (kx w))) (c1:Ca P w mg base "all_places" ["tale","strictness"] 9 (GI (kx w))):Fo P w mg base CX0 10 335 yD ["tale","strictness"] (zi (kx w)):=by
 refine (Bg w.params).ok PU (λ B H Q E h=>?_) (λ I A F s H B Q E i h=>?_)
 ·obtain ⟨t,g,c,e,m,rfl,_⟩:=h;rfl
 ·obtain ⟨t,g,c,e,m,rfl,tp,n,q⟩:=h;refine ⟨_,(aU (aJ (cL pF (aB c0 (i.mono '!') rfl (ao (pv 0) (ao (pv 1) ae))) bw (aD _))
   (aT (aq bw))
   dD)
   (aT (aq (aB c1 (i.mono '!') rfl (ao (pv 0) (ao (pv 1) ae)))))),?_⟩
  refine ⟨_,rfl,_,rfl,t,g,c,e,m,rfl,tp,λ j a u=>⟨rfl,_,rfl,bH '!' ?_⟩,λ l G o f j a _ _ b d=>⟨rfl,_,rfl,bz (by rw [ZX (λ z=>by cases z)];rfl) (n j a ⟨o,f,b,d⟩)⟩⟩;exact ⟨_,rfl,_,rfl,t,g,c,e,m,rfl,tp.same a,λ l D r x C k y v p le=>q l D r x (a.trans C) (a.free k) y v p le λ ⟨o,f,b,d⟩=>u o f b d⟩
noncomputable def jc:ZJ->Int
 | .tuple (.tuple xs :: _)=>(xs.length:Nat)
 | _=>0
def jU (pl:Pl):jc (bO pl)=(pl.1.length:Nat):=by show ((pl.1.map λ (n:Nat)=>PyData.int (n:Int)).length:Int)=_;rw [D0]
def HG (K:c0):Sp:=λ vs H Q _=>∃(p:ZR) (pl:Pl),vs=[.ref p]/\iU K H p pl/\∀q,H q=none->Q (.ref q) (upd H q (.tup [.int (pl.1.length:Nat),.ref p]))
def QV (T:TX (kx w) mg):Fo P w mg base CX0 1 447 yz ["place"] (HG (kx w)):=by
 refine (zJ w.params).ok Rb (λ a H Q E h=>?_) (λ m A k s H a Q E i h=>?_)
 ·obtain ⟨p,g,rfl,_⟩:=h;rfl
 ·obtain ⟨p,g,rfl,⟨b,l,a,f,d,_⟩,q⟩:=h;refine ⟨_,(aT (aq (az (ao (fg jo rfl (T.no (dq _)) O4 (ao (au aj (pv 0) ag (λ _ _=>rfl)) ae)) (ao (pv 0) ae))))),?_⟩;refine ⟨_,rfl,.inr (.inl ⟨p,_,0,.ref b,rfl,rfl,f,bF (j:=0) rfl,.inl ⟨b,_,rfl,.inr d,⟨_,rfl,cV,λ c e=>?_⟩⟩⟩)⟩;rw [rN];exact q c e
def mG {rs:List Rc} {o:List Oa} {pl:Pl} (gd:av (dQ K H ts) rs ps) (ok:jT ts) (rl:rs.length<=63) (wk:Wk m ts rs ps o pl):eJ ts rs.length pl.1.length pl:=by
 induction wk with
 | nil=>exact xw ts _
 | snoc _ h ih=>exact (xO gd ok ih rl _ h).1
theorem MU {rs:List Rc} (nd:(ks.map (·.1)).Nodup) (cm:kH (ks.map (·.1))) (kc :∀pl,jw m ts rs ps pl->bO pl∈ks.map (·.1)) (a2 :∀pl∈pls,jw m ts rs ps pl)
  (a3:pls.map bO=(b_ (ks.map λ k=>gg (jc k.1) k.1)).map λ i=>(ks.getD i (.none,0)).1):AllP m ts rs ps pls:=by
 have e:(ks.map λ k=>gg (jc k.1) k.1)=(ks.map (·.1)).map λ d=>gg (jc d) d:=by rw [S2];rfl
 have f:=nI (ks.map λ k=>gg (jc k.1) k.1);rw [D0] at f;have h:(ks.map λ k=>gg (jc k.1) k.1).Nodup:=by rw [e,List.nodup_iff_pairwise_ne,List.pairwise_map];exact (List.nodup_iff_pairwise_ne.mp nd).imp λ q z=>q (by injection z with z;injection z with _ z;injection z)
 have g:=HP (by rw [e];exact lU cm) h;rw [show ((b_ (ks.map λ k=>gg (jc k.1) k.1)).map λ i=>(ks.map λ k=>gg (jc k.1) k.1).getD i .none)=pls.map λ pl=>gg (jc (bO pl)) (bO pl) from ?_] at g
 ·refine ⟨a2,λ pl r=>?_,(List.pairwise_map.mp g).imp λ {a b} z=>?_⟩
  ·obtain ⟨k,o,p⟩:=List.mem_map.mp (kc pl r);obtain ⟨i,c⟩:=List.mem_iff_getElem?.mp o;have j:bO pl∈pls.map bO:=by rw [a3];refine List.mem_map.mpr ⟨i,f.mem_iff.mpr (List.mem_range.mpr (List.getElem?_eq_some_iff.mp c).1),?_⟩;rw [A1,c];exact p
   obtain ⟨s,l,n⟩:=List.mem_map.mp j;rw [<-tI n];exact l
  ·rw [lK,jU,jU] at z;by_cases y:((a.1.length:Nat):Int)=(b.1.length:Nat)
   ·rw [ZZ y] at z;refine .inr ⟨by lia,?_⟩;by_cases x:bO a=bO b
    ·rw [ZZ x] at z;cases z
    ·rw [Z_ x] at z;exact z
   ·rw [Z_ y] at z;have:=ZW (Q1 z);exact .inl '%'
 ·rw [show (pls.map λ pl=>gg (jc (bO pl)) (bO pl))=(pls.map bO).map λ d=>gg (jc d) d by rw [S2];rfl,a3,S2];refine O7 λ i c=>?_;have c:=List.mem_range.mp (f.mem_iff.mp c);show _=gg (jc (ks.getD i (.none,0)).1) (ks.getD i (.none,0)).1;rw [A1,A1,Z0,F0 c];rfl
def FD (K:c0):Sp:=λ vs H Q _=>∃(t:ZR) (ts:List (ZQ×ZQ)) (es:List Ev) (ps:List DD) (m:Nat),vs=[.ref t,.str (fh m)]/\kZ K H t ts es ps/\
 (∀H',af H H'->(∃o pl,Wk m ts (aR 0 [] es) ps o pl/\eC (aR 0 [] es) pl)->Q .non H')/\∀l ys fp H',af H H'->H' l=some (.lst ys)->av (ju K H') fp ys->AllP m ts (aR 0 [] es) ps fp->(¬∃o pl,Wk m ts (aR 0 [] es) ps o pl/\eC (aR 0 [] es) pl)->Q (.ref l) H'
theorem IH (T:TX (kx w) mg) (c0:Ca P w mg base "_law_is_good" ["tale","strictness"] 5 (Ip (kx w))) (c1:Ca P w mg base "_law_places" ["tale","strictness"] 4 (Ac (kx w))) (c2:Ca P w mg base "_law_rank" ["place"] 1 (HG (kx w))):Fo P w mg base CX0 6 440 Cy ["tale","strictness"] (FD (kx w)):=by
 refine (Bm w.params).ok KA (λ vs H Q E h=>?_) (λ a5 A a4 s H vs Q E j h=>?_)
 ·obtain ⟨t,r,n,p,m,rfl,_⟩:=h;rfl
 ·obtain ⟨t,r,n,p,m,rfl,tp,J,q⟩:=h;refine ⟨_,(aU (aJ (bS (aB c0 (j.mono '!') rfl (ao (pv 0) (ao (pv 1) ae))) (λ _=>rfl))
   (aT (aq bw))
   dD)
   (aT (aq (Qz c2 (j.mono '!') rfl (T.no (qv _)) rfl (ao (aB c1 (j.mono '!') rfl (ao (pv 0) (ao (pv 1) ae))) ae))))),?_⟩
  refine ⟨_,rfl,_,rfl,t,r,n,p,m,rfl,tp,λ b N u C=>⟨_,rfl,?_⟩⟩;refine gf (λ h=>J N u (C.mp h)) λ h=>?_;refine ⟨_,rfl,_,rfl,t,r,n,p,m,rfl,tp.same u,λ d a H2 s2 v X kl c kc=>?_⟩;have B:kH (a.map (·.1)):=λ d' v F he _=>by obtain ⟨k,l,rfl⟩:=List.mem_map.mp v;obtain ⟨k',S,rfl⟩:=List.mem_map.mp he;obtain ⟨G,e,_,o,g⟩:=c k l;obtain ⟨a0,F,_,o',L⟩:=c k' S;have rl:=tp.2.2.2.2.2;rw [e,F];exact oh (mG tp.2.2.2.2.1 tp.2.1 '%' g) (mG tp.2.2.2.2.1 tp.2.1 '%' L)
  refine ⟨d,a,jc,rfl,c.at_ (.inl X),?_,λ k l U f=>?_,λ D U K f Y=>?_⟩
  ·rw [show (a.map λ k=>gg (jc k.1) k.1)=(a.map (·.1)).map λ d=>gg (jc d) d by rw [S2];rfl];exact lU B
  ·obtain ⟨G,M,pz,_⟩:=c k l;exact ⟨k.2,G,rfl,pz.tups (.of f),λ I R=>⟨I,rfl,af.upd R,by rw [M,jU];exact ab⟩⟩
  ·have x:=nI (a.map λ k=>gg (jc k.1) k.1);rw [D0] at x;obtain ⟨W,Z,a2,a3⟩:=AE (c.same f) (b_ (a.map λ k=>gg (jc k.1) k.1)) λ i O=>List.mem_range.mp (x.mem_iff.mp O);have y:=af.upd (o:=.lst ((b_ (a.map λ k=>gg (jc k.1) k.1)).map λ i=>V.ref (a.getD i (.none,0)).2)) Y;exact q D _ W _ (u.trans (s2.trans (f.trans y))) ab (bG (λ _ _ z=>z.same y) Z) (MU K B kc a2 a3) λ g=>h (C.mpr g)
def Qe {d:ZJ} (h:bC d=true):d.eqv d=true:=(yP d d h h).mpr rfl
def Gw (h:av (ju K H) pls ys):dS K H (pls.map bO) ys:=by
 induction h with
 | nil=>exact (rfl:([]:List V)=[])
 | cons a r ih=>obtain ⟨p,rfl,z⟩:=a;exact ⟨_,_,rfl,gr z,ih⟩
theorem Ml (pls:List Pl):bC (.list (pls.map bO))=true/\(PyData.list (pls.map bO)).depth<=60:=by
 refine ⟨wj λ a _=>(yK a).1,?_⟩;have:=vU (f:=bO) (n:=3) (xs:=pls) λ a _=>(yK a).2;simp only [j19]
 lia
def vd (K:c0) (m:Nat) (ts:List (ZQ×ZQ)) (rs:List Rc) (ps:List DD) (H:Hp) (v:V):Prop:=(v=.non/\∃o pl,Wk m ts rs ps o pl/\eC rs pl)\/∃l ys fp,v=.ref l/\H l=some (.lst ys)/\av (ju K H) fp ys/\AllP m ts rs ps fp/\¬∃o pl,Wk m ts rs ps o pl/\eC rs pl
def vd.same {rs:List Rc} (s:af H H') (h:vd K m ts rs ps H v):vd K m ts rs ps H' v:=by
 rcases h with h|⟨l,ys,fp,h1,h2,h3,h4⟩
 ·exact .inl h
 ·exact .inr ⟨l,ys,fp,h1,s _ _ h2,bG (λ _ _ z=>z.same s) h3,h4⟩
def Ea (K:c0):Sp:=λ vs H Q _=>∃(t:ZR) (ts:List (ZQ×ZQ)) (es:List Ev) (ps:List DD) (m:Nat) (v:V),vs=[.ref t,.str (fh m),v]/\kZ K H t ts es ps/\vd K m ts (aR 0 [] es) ps H v/\∀H',af H H'->Q (.bl true) H'
theorem IG (T:TX (kx w) mg) (c0:Ca P w mg base "stuck_paper" ["tale","strictness"] 10 (zi (kx w))):Fo P w mg base CX0 11 454 Bk ["tale","strictness","due"] (Ea (kx w)):=by
 refine (An w.params).ok gp (λ Y H Q E h=>?_) (λ a6 A a4 s H Y Q E p h=>?_)
 ·obtain ⟨t,G,B,F,m,v,rfl,_⟩:=h;rfl
 ·obtain ⟨t,G,B,F,m,v,rfl,tp,C,q⟩:=h;refine ⟨_,(aU (aC (i:=3) gp.nd rfl (E1 rfl) (aB c0 (p.mono '!') rfl (ao (pv 0) (ao (pv 1) ae))))
   (aU (aJ (cL gy (pv 2) bw (aD _))
   (aT (aq (iA gy (pv 3) bw (aD _))))
   dD)
   (aU (aJ (PW.pt (gB (eR (bS (fg oQ rfl (T.no (oK _)) U4 (ao (pv 3) (ao (oE (v:=.ty "list") rfl (T.no (rm _)) boot_list rfl) ae))) (λ _=>rfl))) (gc (cL (qL p) (pv 3) (pv 2) (aD _)))))
   (aT (aq dm))
   dD)
   (aU (kD (lJ (pv 3) (ao (au aj (pv 3) ag (λ _ _=>rfl)) ae)))
   (aU (dU (az (ao (az ae) (ao (az ae) ae))) (fQ (pv 3) ag qN))
   (aT (aq dm))))))),?_⟩
  refine gC ⟨_,rfl,_,rfl,t,G,B,F,m,rfl,tp,λ c e g=>aF ?_,λ b a f c e I d y r a5 n=>aF ?_⟩
  ·obtain ⟨rfl,_⟩:=C.resolve_right λ ⟨_,_,_,_,_,_,_,n⟩=>n g;exact gL ⟨_,rfl,rfl,_,rfl,bz '!' ⟨_,rfl,rfl,q c e⟩⟩
  ·obtain ⟨l,ys,fp,rfl,W,N,M,_⟩:=C.resolve_left λ z=>n z.2;have:=r.uniq M;subst this;have S:=e _ _ W;have K:=bG (λ _ _ z=>ju.same e z) N;have k:=Ml f;refine gL ⟨_,rfl,rfl,_,rfl,bH (by rw [ZX (λ z=>by cases z)];decide) (cU ?_)⟩;refine gL (nM ⟨_,rfl,_,"list",_,rfl,.inl ⟨⟨_,d⟩,rfl⟩,'!',_,rfl,bH '!' ?_⟩);refine ⟨_,rfl,_,rfl,.list (f.map bO),.list (f.map bO),⟨b,_,rfl,aH.of d,Gw y⟩,⟨l,_,rfl,aH.of S,Gw K⟩,k.1,k.1,k.2,_,rfl,bH (by rw [Qe k.1];decide) (cU ?_)⟩;have L:a.length=f.length:=cD y;cases a with
   | nil=>have:=r.all _ ⟨[],.nil⟩;rw [List.eq_nil_of_length_eq_zero L.symm] at this;exact ZU this u0
   | cons y0 a=>
   refine ⟨_,rfl,.inl ⟨rfl,_,aH.of d⟩,_,rfl,.inl ⟨b,_,0,y0,rfl,rfl,aH.of d,bF (j:=0) rfl,b,_,_,rfl,rfl,d,U1 (m:=15625) '%' '!',cU ?_⟩⟩;have D:af H (upd c b (.lst (y0 :: a++[y0]))):=af.keep e I;have u:upd c b (.lst (y0 :: a++[y0])) b=some (.lst (y0 :: a++[y0])):=ab;generalize upd c b (.lst (y0 :: a++[y0]))=H2 at D u⊢;have o:(0:Nat)<=ZE:=J1 _;refine ⟨o,λ V Z=>?_⟩;obtain ⟨H3,v1,J,f1⟩:=eQ (.tup []) Z;rw [<-v1];refine ⟨o,λ a2 R=>?_⟩;obtain ⟨H4,v2,X,f2⟩:=eQ (.tup []) R;rw [<-v2];refine ⟨cV,λ a3 a0=>?_⟩;obtain ⟨H5,U,O,f3⟩:=eQ (.tup [.ref V,.ref a2]) a0;rw [<-U];have x:=(J.trans X).trans O;refine ⟨_,rfl,b,_,0,0,rfl,rfl,x _ _ u,?_,?_⟩
   ·unfold nA;rw [ZZ '!',ZZ (by rw [L0];show (0:Int) < ((a.length + 1 + 1:Nat):Int);lia)];rfl
   exact q _ (af.keep (D.trans x) I)
def sp_law (K:c0):Sp:=λ vs H Q _=>∃(sc:ZR) (ns:List Int),vs=[.ref sc]/\aH K H sc (ns.map V.int)/\ns.length<=63/\∀H',Q (.bl true) H'
theorem qr (T:TX (kx w) mg) (c0:Ca P w mg base "_law_tale" ["script","most"] 4 (Hl (kx w))) (c1:Ca P w mg base "_law_due" ["tale","strictness"] 6 (FD (kx w))) (c2:Ca P w mg base "_law_told" ["tale","strictness","due"] 11 (Ea (kx w))) (c3:Ca P w mg base "stuck_paper" ["tale","strictness"] 10 (zi (kx w))):Fo P w mg base CX0 12 461 fd_law ["script"] (sp_law (kx w)):=by
 refine (vM w.params).ok iJ (λ vs H Q E h=>?_) (λ b3 A b1 s H vs Q E c h=>?_)
 ·obtain ⟨u,U,rfl,_⟩:=h;rfl
 ·obtain ⟨u,U,rfl,sq,nl,q⟩:=h;refine ⟨_,(aU (aC (i:=1) iJ.nd rfl (E1 rfl) (aB c0 (c.mono '!') rfl (ao (pv 0) (ao ag ae))))
   (aU (bY Z1 rfl (lx (aW (ao aA (ao aA (ao aA ae))))) (fm (i:=2) iJ.nd rfl (E1 rfl))
   (aU (aC (i:=3) iJ.nd rfl (E1 rfl) (aB c1 (c.mono '!') rfl (ao (pv 1) (ao (pv 2) ae))))
   (aU (aJ (PW.pt (gB (eR (bS (aB c2 (c.mono '!') rfl (ao (pv 1) (ao (pv 2) (ao (pv 3) ae)))) (λ _=>rfl))) (gc (eR (bS (aB c2 (c.mono '!') rfl (ao (pv 1) (ao (pv 2) (ao (pv 3) ae)))) (λ _=>rfl))))))
   (aT (aq dm))
   dD)
   (aT (aJ (cL pF (aB c3 (c.mono '!') rfl (ao (az (ao (az ae) (ao (az ae) ae))) (ao (pv 2) ae))) bw (aD _))
   (aT (aq dm))
   dD)))))
   (aT (aq dm)))),?_⟩
  refine ⟨_,rfl,u,U,rfl,sq,nl,λ t pt te F k f X s1 et a6 M ok a7 o L wf bg hb=>?_⟩;refine aF (cU ?_);have I :∀e∈k,jO (kx w) X f e:=λ e he=>by obtain ⟨i,hi⟩:=List.mem_iff_getElem?.mp he;obtain ⟨y,_,z⟩:=hV o hi;exact z.n
  obtain ⟨ps,Z⟩:=kn (i:=0) (rs:=[]) (ps:=[]) I .nil;have tp:kZ (kx w) X t f k ps:=⟨⟨pt,te,F,et,M,a6,bG (λ _ _ z=>z.a) o⟩,ok.thw,by lia,wf,Z,by rw [H_,Q9,S4];exact bg⟩
  clear o I M a7 Z;refine ⟨nk,λ N a4=>?_⟩;obtain ⟨H2,D,s2,O⟩:=eQ (.lst [V.str "strict",.str "hands",.str "bare"]) a4;rw [<-D];refine ⟨N,rfl,⟨_,aH.of O⟩,?_⟩;refine pf (K:=KX w.params) (a:=N) (xs:=[V.str "strict",.str "hands",.str "bare"]) (λ i σ b=>af H2 b/\∃p d,σ=[some (.ref u),some (.ref t),p,d])
   ⟨af.refl _,_,_,rfl⟩ (λ i σ b _ h=>aH.of (h.1 _ _ O)) ?_ (λ σ b _=>q b)
  rintro j y σ H3 hy ⟨s3,p,d,rfl⟩;obtain ⟨m,rfl⟩ :∃m,y=.str (fh m):=by
   have:=S0 hy;simp only [R1,u0,or_false] at this;rcases this with rfl|rfl|rfl
   ·exact ⟨0,rfl⟩
   ·exact ⟨1,rfl⟩
   ·exact ⟨2,rfl⟩
  refine aF ?_;have S:=tp.same (s2.trans s3);refine Ai (λ σ' b=>∃v,af H3 b/\vd (kx w) m f (aR 0 [] k) ps b v/\σ'=[some (.ref u),some (.ref t),some (.str (fh m)),some v]) ?_ (λ R=>?_);rotate_left
  ·exact ⟨_,rfl,_,rfl,t,f,k,ps,m,rfl,S,λ b x g=>aF (R _ _ ⟨_,x,.inl ⟨rfl,g⟩,rfl⟩),λ l F fp b x L o ap B=>aF (R _ _ ⟨_,x,.inr ⟨l,F,fp,rfl,L,o,ap,B⟩,rfl⟩)⟩
  rintro σ4 H4 ⟨v,s4,du,rfl⟩;have G:=S.same s4;refine gL (nM ⟨_,rfl,_,rfl,_,rfl,t,f,k,ps,m,v,rfl,G,du,λ H5 C=>⟨_,rfl,bH '!' ?_⟩⟩);refine ⟨_,rfl,_,rfl,_,rfl,t,f,k,ps,m,v,rfl,G.same C,du.same C,λ H6 s6=>⟨_,rfl,bH '!' (cU ?_)⟩⟩;have W:(0:Nat)<=ZE:=J1 _;refine ⟨W,λ J a9=>?_⟩;obtain ⟨H7,v1,x1,f1⟩:=eQ (.tup []) a9;rw [<-v1];refine ⟨W,λ Y a5=>?_⟩;obtain ⟨H8,D,p,f2⟩:=eQ (.tup []) a5;rw [<-D];refine ⟨cV,λ a3 b0=>?_⟩;obtain ⟨H9,v3,d,f3⟩:=eQ (.tup [.ref J,.ref Y]) b0;rw [<-v3];have a8:kZ (kx w) H9 a3 [] [] []:=⟨⟨J,Y,[],f3,⟨[],(p.trans d) _ _ f1,.nil⟩,d _ _ f2,.nil⟩,⟨'!',.nil,λ t ht=>ZU ht u0⟩,'!',trivial,.nil,'!'⟩
  have s9:=(s3.trans s4).trans ((C.trans s6).trans ((x1.trans p).trans d));refine ⟨_,rfl,a3,[],[],[],m,rfl,a8,λ b2 a0 _=>⟨rfl,_,rfl,bH '!' ⟨s9.trans a0,_,_,rfl⟩⟩,λ _ _ _ _ _ _ _ _ _ _ B=>ZU ⟨[],_,.nil,λ n r c=>by cases c⟩ B⟩
end
def all_law (T:TX (kx w) mg):Fo P w mg base CX0 12 461 fd_law ["script"] (sp_law (kx w)):=by have m:=@ph P w (kx w) mg base;have u:=m T (Bc _) (Oe _) (Qq _) (MQ T );have U:=m T (yd _) (Qn _) (LV _) (Rj T u);have Y:=m T (yW _) (NJ _) (QJ _) (Kd T U);have k:=m T (zP _) (OD _) (Qf _) (Na T );have i:=m T (yB _) (LG _) (KJ _) (JG T );have H:=m T (Az _) (LN _) (NM _) (Ow T i Y k);have q:=m T (Au _) (GE _) (Rz _) (P_ T );have A:=m T (yE _) (Ga _) (NC _) (Pp T );have R:=m T (BF _) (Hm _) (Of _) (NR T );have a2:=m T (AY _) (GJ _) (Os _) (Qy T );have J:=m T (ze _) (Fw _) (Lq _) (KB T );have v:=m T (Cn _) (Dy _) (Mf _) (JZ T );have G:=m T (yf _) (CN _) (J_ _) (QH T );have K:=m T (BO _) (Iq _) (Ll _) (KR T );have a4:=m T (Bi _) (FH _) (Pm _) (MM T );have E:=m T (rE _) (yh _) (ya _) (vZ T H q A R J v G K a4 a2);have n:=m T (BS _) (PL _) (M_ _) (IY T i);have e:=m T (zW _) (Lw _) (JC _) (Jt T );have D:=m T (BK _) (Ls _) (Nc _) (Jj T );have W:=m T (zo _) (Oi _) (Jd _) (Jo T );have C:=m T (CB _) (LU _) (MC _) (Qa T e W D);have I:=LK (P:=P) (w:=w) (base:=base) T;have x:=Rm (P:=P) (w:=w) (base:=base) T;have y:=m T (yO _) (Nh _) (QN _) (Qm T E);have O:=m T (BG _) (MP _) (NQ _) (IC T );have V:=m T (y_ _) (Ji _) (MB _) (IP T );have L:=m T (yA _) (MO _) (LB _) (Li T n);have g:=Mg (P:=P) (w:=w) (base:=base) T C e L O I;have j:=QR (P:=P) (w:=w) (base:=base) T x y;have l:=m T (BM _) (JF _) (KN _) (QO T );have a:=m T (Cs _) (Oz _) (LJ _) (Nj T );have z:=m T (yy _) (NX _) (II _) (MT T a);have N:=m T (zv _) (Pq _) (PQ _) (Me T a z);have t:=m T (CC _) (Kb _) (Qt _) (Nb T );have c:=m T (BA _) (JU _) (PV _) (Mm T );have f:=m T (BL _) (Pe _) (Mt _) (PZ T t);have X:=m T (Aa _) (Pd _) (NN _) (Rr T a);have Z:=m T (BN _) (JT _) (Nw _) (Lf T l a X c f N);have B:=OY (P:=P) (w:=w) (base:=base) T V;have S:=m T (A_ _) (KG _) (IW _) (Ma T g B j);have d:=m T (zA _) (Mi _) (MG _) (Ks T );have r:=m T (Cq _) (OF _) (Le _) (Ov T );have o:=m T (AZ _) (IT _) (LY _) (ND T r);have s:=m T (AW _) (LD _) (Pa _) (Jl T );have p:=m T (AR _) (LP _) (KS _) (MV T o f);have h:=m T (BI _) (OS _) (Nv _) (L_ T d c p);have a1:=m T (Ar _) (OB _) (Rx _) (Ra T d h s);have M:=m T (zS _) (Nu _) (Oh _) (JK T j);have F:=m T (Bf _) (JH _) (OG _) (JN T g M);have b:=m T (Bg _) (LO _) (LI _) (Rh T S F);have a3:=m T (zJ _) (KP _) (Np _) (QV T );have Q:=m T (Bm _) (Oc _) (QL _) (IH T a1 h a3);have a0:=m T (An _) (LL _) (MJ _) (IG T b);exact qr T Z Q a0 b
end K60
set_option maxRecDepth 100000 in
set_option maxHeartbeats 0 in
theorem PySem.Challenge.cw_talejudge_k60_stuck_papers_told_holds : PySem.Challenge.rw_talejudge_k60_stuck_papers_told.Holds := by
 w_on;o_law
 refine holds_open (q:=K60.viewX) (loose:=K60.looseX) (Xt:=K60.XtX) (XP:=XL K60.viewX []) (Yf:=Hook.obs K60.HX) (Ya:=Hook.val K60.HX) (YP:=Hook.says K60.HX) (N:=200000) K60.leftX (Hook.of K60.HX) (Hook.keeps K60.HX) (λ s e=>xl_of s (Bool.and_eq_true_iff.mp e).1) XL.keeps (by rfl) (by rfl) (by rfl) (λ s e=>recFacts_of (Bool.and_eq_true_iff.mp e).2) (by rfl) (by assumption) (by decide +kernel) ⟨rfl,rfl,rfl,rfl,rfl,by decide +kernel⟩ ?hw ?hc
 case hw=>w_witness2
 case hc=>
  refine L2.walk_of (l:=PySem.Challenge.rw_talejudge_k60_stuck_papers_told) (n:=63) (k:=12) (x:="script") (K:=K60.KX) (CX:=λ _=>L2.CX0) (sp:=λ w=>K60.sp_law (K60.KX w.params)) rfl '!' rfl ⟨rfl,'!','!',rfl⟩ (λ w h Y=>PySem.W.kIn_of Y) ?F ?S ?C
  case F=>intro w i o h KX G g;have T:=L2.TX.mk' KX G;have f:=g.symm.trans (T.of (K60.g_law _));cases f;exact ⟨K60.fd_law,λ s u=>.of_eq rfl,λ j m r=>K60.all_law T⟩
  case S=>exact λ w H a c b p d=>⟨a,c,rfl,d,b,λ _=>rfl⟩
  case C=>exact λ _ _ _ _ _ z=>z
