import PyProof.Rows.All
import Wide.All
import OpenK.AllK
import Wide.FinOn
import Lean
import PyProof.EqAt
import PyProof.EqKinds
import PyProof.TupleCall
import Open.Tops
import KE.KIntText
import PyProof.ZipIter
import PyProof.ReprRoads
import PyProof.Draws
import KE.KDictSum
import KE.KSortedM
import OpenK.KRaise
import OpenK.KOwn
import PyProof.ExcBaseAll.ValueError
import KE.KTryMore
import PyProof.NsDelKeeps
import KE.KDictOf
import KE.KEqDict
import PyProof.DictWalks
import PyProof.TupleKey
import PyProof.MinMaxWalk
import KE.KSortTup
import PyProof.StrWalks
import KE.KRevIter
import KE.KListMore
import PyProof.StrLawsTight
import PyProof.StrLawsChain
import PyProof.DictItems
import KE.KDictLaws
import PyProof.StrCalls
import PySem.Challenge.RW_talejudge_k42_whole_by_all_orders
open PySem renaming wpAny_bind->o0,wpAny_pure->A0,Shared->I0,wpAny->X0,model->P1,World->U1,starEach->A2,Params->B2,Around->P2,wpAny_holding->F3,wpAny_newObj_type->M3,wpAny_call_entry->N3,compareOp->O3,SetTable->X3,wpAny_callSpecial?_slot->K4,mainGlobals->M4,wpAny_setState_of->R4,eval->T4,boot_len->C5,attributeBase->F5,wpAny_mono->K5,wpAny_Call_Name_kw->M5,wpAny_truthy_bool->T5,codeAny_builtin->X5,Keyword->d6,backTo->r6,sysModules->z6,rawInt->F6,bootBuiltins->K6,Builtin->O6,keywordEach->P6,wpAny_setField->U6,binaryOp->V6,wpAny_field->i7,wpAny_typeNameOfWhole_itemiter->K7,wpAny_typeOf->N7,tupleKind_room_in1->O7,pyNext->P7,wpAny_passesOwn->W7,wpAny_attempt->Y7,wpAny_pyIter_list->c8,intKind->d8,OsState->f8,mem_of_lookup->g8,NameKind->F8,codeAny_mono->L8,codeAny->M8,wpAny_setEntries_of->T8,backToKw->b9,wpAny_setField_rec->q9,wpAny_pyIter_tuple->r9,call_meets->u9,IsItemIter->v9,treeTable->w9,wpAny_seqItems->B9,wpAny_pyNext_list_item->C9,wpAny_fieldsOf->F9,foldedSetIterable->G9,wpAny_pyNext_list_end->T9,wpAny_isInstance->Z9,sliceBounds->j04,importedModules->j0d,call_meetsIn->j14,wpAny_storeSet_of->j25,wpAny_pyIter_enum->j26,relabel->j27,behindInMarks->j2a,tupleKind->j30,wpAny_isOneOf_itemiter->j38,valueAt->j39,assignEach->j3a,wpAny_specialOf->j3c,wpAny_execs_nil->j3d,letOwnedTupleGo->j3e,wpAny_of_eq->j49,isSubtype_type->j4a,firstArgMember->j4b,codeAny_call_builtin->j4c,ReadsAll->j4d,Paired->j4f,spliced->j4h,setNext->j4i,getItem->j4j,wpAny_newList->j5c,plainId_quiet->j5d,Reads->j5e,wpAny_rule->j5j,pyIter->j60,IsPart->j64,wpAny_pyIter_slot->j6d,wpAny_dictEntries->j6e,wpAny_Call_method->j6f,setAddHashed->j6g,searchCouldBeSeen->j6h,ofAClassStatement->j6i,fits_of_scanBound->j6j,concat_meets->j70,callerA->j71,wpAny_askSetting->j7i,stored->j7j,noFill_tuple_add->j80,subscripted->j86,hashByValue->j87,wpAny_ite_split->j8i,wpAny_dictEpoch->j8j,wpAny_letOwnedTupleGo_items->j93,wpAny_runValue->j9a,wpAny_load->j9b,wpAny_letOwnedTupleGo_enum->j9c,typeIs_int->j9d,setAddHashedIn->j9f,relayAll->j9g,Result->j9j,evalArgs_none->k06
open List renaming length_map->q0,getElem?_eq_getElem->C0,length_append->F0,mem_of_getElem?->K0,range->N0,map_cons->O0,not_mem_nil->P0,size_toArray->Q0,length_cons->W0,mem_cons_self->Y0,mem_cons_of_mem->Z0,replicate->A1,getElem?_map->C1,append_nil->E1,length_range->Q1,mem_cons->X1,length_take->Y1,mem_append_right->C2,getElem?_append_left->F2,append_assoc->T2,flatMap_append->U2,take_length->W2,getElem?_cons_succ->X2,nodup_nil->B3,flatMap_cons->G3,nodup_cons->L3,length_drop->P3,map_append->Q3,getElem?_eq_none->R3,foldl_cons->U3,getElem?_cons_zero->B4,getElem?_append_right->C4,take_succ->N4,mem_append->O4,getD_eq_getElem?_getD->W4,length_filter_le->u5,mem_singleton->B5,mem_of_mem_take->J5,find?_cons_of_neg->O5,getElem?_range->P5,length_replicate->U5,filter_cons->Y5,getElem?_of_mem->o6,filter_cons_of_pos->u6,length_nil->v6,nodup_range->C6,take_append_drop->N6,pairwise_map->X6,map_map->Y6,getElem_mem->o7,getElem?_take->B7,find?_cons_of_pos->C7,filter_append->F7,getElem?_inj->Q7,mem_of_mem_drop->Z7,mem_append_left->b8,mem_of_find?_eq_some->o8,drop_eq_getElem_cons->t8,replicate_succ->y8,map_congr_left->z8,forIn_cons->N8,find?_cons->O8,take_of_length_le->c9,forIn_nil->d9,foldl_append->f9,filter_congr->g9,ext_getElem?->i9,mem_flatMap->z9,map_take->M9,map_drop->N9,of_mem_zip->V9,nil_append->W9,length_zip->X9,length_set->Y9,nodup_iff_pairwise_ne->j0a,length_eraseIdx_of_lt->j0b,getLastD_eq_getLast?->j0j,getElem?_zip_eq_some->j13,take_sublist->j18,take_add_one->j19,length->j1a,flatten_cons->j1b,any_cons->j1f,lookup_cons->j1j,getElem_inj->j20,getElem?_replicate->j21,ext_getElem->j22,map_nil->j28,range_succ->j2e,mem_filter->j2f,filter_map->j2g,take_zero->j33,length_take_le'->j34,erase_cons_tail->j35,erase_cons_head->j36,toList_toArray->j3h,filterMap_cons->j3i,zip_cons_cons->j46,getElem?_drop->j47,nodup_append->j50,mem_map->j51,eraseIdxIfInBounds_toArray->j59,getElem_map->j5f,all_eq_true->j5g,idxOf_lt_length_of_mem->j76,perm_ext_iff_of_nodup->j7f,lt_irrefl->j7g,drop_zero->j7h,length_erase_of_mem->j8e,pairwise_singleton->j91,filter_cons_of_neg->j92,range_succ_eq_map->j95,pairwise_lt_range->j96,getElem?_set_self->j97,flatMap_singleton->j98,getElem?_toArray->k03,perm_cons_erase->k0d,getElem?_set_ne->k0e
open PySem.W renaming Frag->B0,kia_one->o5,keepIn->c7,nsIn->u7,fnOf->U8,KasT->V8,kat_yes->K9,findIn->j01,kat_cons->j15,kas_sort->j16,kat_no->j2b,codeIn->j2c,methodObj->j3j,kas_desc->j4e,kat_one->j55,kas_rev->j56,instObj->j57,lookIn->j62,kitOne->j63,cellsFrom_some->j81,specialIn->k08,kitx_list->k09,kitx_dict->k0a
open PySem.Heap renaming get?_push_of_some->G0,lt_size->T0,get?_push_size->U0,get?_update_self->T3,SameBut->v4,size_push->v5,get?_update_other->G7,DictOf->X8,ExtBut->j65
open Nat renaming le_refl->L0,le_trans->M0,ne_of_lt->K1,lt_of_le_of_lt->W1,zero_le->K2,not_lt_zero->Z2,lt_of_lt_of_le->i3,lt_succ_of_lt->C3,ne_of_gt->J3,lt_or_ge->Y3,le_of_lt->y4,lt_succ_self->F4,lt_irrefl->N5,le_add_right->b6,le_of_lt_succ->b7,le_succ->z7,zero_add->i8,lt_trans->m8,le_of_not_lt->L9,min_eq_left->j02,add_comm->j06,lt_trichotomy->j1e,le_of_eq->j2d,mul_le_mul_right->j3b,min_le_left->j75,mod_lt->j83,succ_pos->k00,sub_self->k01,pow_succ->k02
open Array renaming length_toList->B1,getElem?_eq_getElem->T1,getElem?_toList->G2,getElem?_eq_none->L4,getD_eq_getD_getElem?->j03,forIn_toList->j09,all_eq_true_iff_forall_mem->j4g,replicate->j67,getD->j79,map->j8h
open PySem.SetTable renaming below->F1,grown->o4,sizeAbove->Q4,insertAt->X4,turns->U9,layClean->j3f,slot->j68,fits->j69,has->j7a,tooFull->k04,advance->k05
open Option.some renaming inj->G1
open Or renaming inr->N1,inl->O1
open Bool renaming false_ne_true->R1,and_eq_true->Z5,false_eq_true->j0c,and_false->j37,or_false->j44,not_eq_true->j5i,true_and->j8g,and_eq_true_iff->k0h
open PySem.PassesOwn renaming never->Z1
open PySem.PyData renaming keyHash->J2,depthAll->Q2,str->w5,int->J8,canLayAll0->j0f
open Classical renaming byContradiction->N2,choose_spec->y7,propDecidable->C8,choose->j40
open PySem.Value renaming ref->O2,none->Y2,type->U4,int->P8,str->j53,bool->j72,isInt->j9i
open PySem.NameKind renaming free->v3
open PySem.Heap.SameBut renaming update->y3,refl->j84
open PyProof.Rows renaming callWith_type1->K3,boot_isinstance->Y4,IntsAre->i6,callWith_builtin1->Q8,seqObj->j00,boot_sorted->j05,boot_list->j1d,AllBare->j29,boot_all->j31,slot_tuple_getitem->j32,envOfC->j61,StrsAre->j73,entry_list_sort->j90,slot_list_sort->j9e,args_list_sort->j9h
open PySem.Calls renaming spliced_cons->Z3,spliced_nil->c5,callWith_builtin->y6,evalArgs_plain->O9,call_function_entry->j0g,Name_function_global->j78
open PySem.Obj renaming mapFields->G4,putSet->M6,mapSeq->g7
open PySem.Str renaming ofString->P4,length_append->j6a
open List.Perm renaming refl->Z4,append_left->Y8,swap->R9,trans->k0f,of_eq->k0g
open ForInStep renaming yield->d5,done->j24
open Pure renaming pure->i5
open Int renaming toNat_natCast->Q5,emod_lt_of_pos->c6,emod_nonneg->Z6,lt_irrefl->j1i
open Ne renaming symm->W5
open PySem.F renaming plainAttrs_list->m6,slot_dict_get->B6,plainAttrs_dict->d7,slot_dict_itemiterator_next->L7,slot_tuple_iterator_next->u8,slot_dict_items->G8,entry_dict_get->W8,args_tuple_add_2->j0e,entry_tuple_add->j17,slot_tuple_add->j1h,slot_dict_setdefault->j58,args_dict_items_1->j6b,args_dict_itemiterator_next_1->j6c,entry_dict_items->j74,entry_dict_itemiterator_next->j77,type_dict_items->j7b,plain_list_iadd->j7c,args_dict_get_3->j7d,args_dict_get_2->j7e,plainAttrs_str->j82,args_tuple_iterator_next_1->j85,type_dict_get->j8d,entry_tuple_iterator_next->j8f
open PySem.SetTable.layClean renaming free->Q6
open Option renaming map_some->T6,map->j3g,isSome_map->j45
open PySem.SetTable.probe renaming go->m7
open PySem.Builtin.SmallTypes renaming nextOf->v7,ownedTupleFields->J7
open PySem.Builtin.Slice renaming slicePlaces->M7,sliceAdjust->Q9,sliceApplied->j41
open PySem.Builtin.Tuple renaming tupleExact->T7,tupleHashOf->P9
open PySem.Builtin.List renaming listTooLong->V7,listLengthHint->j42,listExtendWith->j43,listFitsIndex->j48
open False renaming elim->X7
open PySem.Shared renaming TypeIs->v8
open PySem.Builtin.Dict_items renaming ownsTuple->K8,ownedTupleIsFree->j0h,ownedTupleFields->j0i,pairFromOwner->j1g
open List.Nodup renaming length_le_of_subset->Z8
open PyProof.Rows.F renaming entry_set_update_loop->m9
open PySem.Code renaming builtin->o9
open PySem.Paired renaming length->y9
open PySem.SetTable.below renaming go->J9
open PySem.Data renaming cell->j07,fields->j1c
open PySem.Builtin.Str renaming occurrences->j08
open PySem.W.Fast renaming te14364793385576792824->j23
open List.Pairwise renaming nil->j2h
open PySem.Builtin.Frozenset renaming updateFrom->j2i
open PySem.Around renaming under_plainId->j2j,under_plain->k0i
open PySem.Builtin.Range renaming rangeSize->j52
open Sum renaming inl->j54
open PySem.Builtin.Dict renaming updateFrom->j5a,notOrdered->j5b,pairItems->j5h,showsAll->j66
open ForIn renaming forIn->j88
open PySem.StrLaws renaming glued_eq_join->j89
open PySem.SeqAt.EqAt renaming str_int->j8a,int_str->j8b,int_int->j8c
open PySem.Txt renaming slice->j94
open PySem.Heap.DictOf renaming new->j99
open Prod renaming snd->k0b,fst->k0c
open PySem renaming Addr->ZS,Str->ZR,Obj->ZQ,Pos->ZP,Expr->ZO,Heap->ZN,Stmt->ZM,PyData->ZL,Program->ZK,FuncData->ZJ,DictEntry->ZI,Value->ZH,sizeLine->ZG,cLine->ZF,Scope->ZE
set_option maxRecDepth 100000
set_option maxHeartbeats 0
namespace PySem.W.Fast
noncomputable def tw4708567853017983318:=0
noncomputable def tw17072796484646108439:=0
noncomputable def tw250040198417239808:=0
noncomputable def tw7691568257569735885:=0
noncomputable def tw10266111419290147408:=0
noncomputable def tw5480619133014508829:=0
noncomputable def tw14520855998891556195:=0
noncomputable def tw6635603711639011500:=0
end PySem.W.Fast
namespace K42
open_shared pre for PySem.Challenge.pw_talejudge_k42_whole_by_all_orders leaving 43
end K42
-- CHANGE: your row's module here,as the last of these rows
set_option Elab.async false
set_option linter.all false
namespace L2
open PySem PySem.Spec PyProof.Rows
noncomputable abbrev Key:=Sum Int ZR
noncomputable def fU:Key->ZH->Bool
 | .inl k,v=>j9i k v
 | .inr x,v=>Value.isStrOf x v
noncomputable def vA (w:U1):Key->Int
 | .inl k=>hashInt k
 | .inr x=>hashStr w x
theorem jD:∀{k:Key} {v:ZH},fU k v=true->(∃i t,k=j54 i/\v=P8 i t)\/(∃x t,k=Sum.inr x/\v=j53 x t)
 | .inl i,v,h=>by obtain ⟨t,e⟩:=Value.isInt_shape (k:=i) (v:=v) h;exact .inl ⟨i,t,rfl,e⟩
 | .inr x,v,h=>by obtain ⟨t,e⟩:=Value.isStrOf_shape (x:=x) (v:=v) h;exact .inr ⟨x,t,rfl,e⟩
def Gu (i:Int) (t:Tok):fU (.inl i) (.int i t)=true:=by simp [fU,j9i]
def ES (x:ZR) (t:Tok):fU (.inr x) (.str x t)=true:=by simp [fU,Value.isStrOf]
def mI (a b:Int):decide ((j54 a:Key)=j54 b)=(a == b):=by
 by_cases e:a=b
 ·subst e;simp
 ·have h:¬ (j54 a:Key)=j54 b:=λ q=>e (Sum.inl.inj q);rw [decide_eq_false h];exact (beq_eq_false_iff_ne.mpr e).symm
def n_ (a b:ZR):decide ((Sum.inr a:Key)=Sum.inr b)=decide (a=b):=by
 by_cases e:a=b
 ·subst e;simp
 ·have h:¬ (Sum.inr a:Key)=Sum.inr b:=λ q=>e (Sum.inr.inj q);rw [decide_eq_false h,decide_eq_false e]
def nQ (a:Int) (b:ZR):decide ((j54 a:Key)=Sum.inr b)=false:=decide_eq_false (λ q=>nomatch q)
def oF (a:ZR) (b:Int):decide ((Sum.inr a:Key)=j54 b)=false:=decide_eq_false (λ q=>nomatch q)
noncomputable def eJ (prog:ZK) (w:U1):PySem.KeyKind prog w Key where
 is:=fU
 hash:=vA w
 inj:=λ v a b ha hb=>by
  rcases jD ha with ⟨i,t,rfl,rfl⟩|⟨x,t,rfl,rfl⟩
  ·rcases jD hb with ⟨j,u,rfl,e⟩|⟨y,u,rfl,e⟩
   ·injection e with e1 _;rw [e1]
   ·exact nomatch e
  ·rcases jD hb with ⟨j,u,rfl,e⟩|⟨y,u,rfl,e⟩
   ·exact nomatch e
   ·injection e with e1 _;rw [e1]
 byValue:=λ k v h=>by rcases jD h with ⟨i,t,rfl,rfl⟩|⟨x,t,rfl,rfl⟩<;>rfl
 pyHash:=λ hv h=>by
  rcases jD hv with ⟨i,t,rfl,rfl⟩|⟨x,t,rfl,rfl⟩
  ·exact wpAny_pyHash_int h
  ·exact wpAny_pyHash_str h
 eqBool:=λ hu hv h=>by
  rcases jD hu with ⟨i,t,rfl,rfl⟩|⟨x,t,rfl,rfl⟩
  ·rcases jD hv with ⟨j,u,rfl,rfl⟩|⟨y,u,rfl,rfl⟩
   ·rw [mI] at h;exact wpAny_eqBool_int h
   ·rw [nQ] at h;exact j8b i t y u _ _ _ _ h
  ·rcases jD hv with ⟨j,u,rfl,rfl⟩|⟨y,u,rfl,rfl⟩
   ·rw [oF] at h;exact j8a x t j u _ _ _ _ h
   ·rw [n_] at h;exact wpAny_eqBool_str h
 «strs»:=λ k x t v h=>by
  rcases jD h with ⟨i,u,rfl,e⟩|⟨y,u,rfl,e⟩
  ·exact nomatch e
  ·injection e with e1 _;subst e1;cases v<;>rfl
def GE (prog:ZK) (w:U1) (i:Int) (t:Tok):(eJ prog w).is (.inl i) (.int i t)=true:=Gu i t
def EG (prog:ZK) (w:U1) (x:ZR) (t:Tok):(eJ prog w).is (.inr x) (.str x t)=true:=ES x t
inductive V where
 | non|bl (b:Bool)|int (i:Int)|str (x:ZR)|byt (b:Array UInt8)|flt (b:UInt64)|ref (a:ZS)|ty (n:String)
 deriving DecidableEq
noncomputable def RelV:V->ZH->Prop
 | .non,u=>u=Y2
 | .bl b,u=>u=j72 b
 | .int i,u=>∃t,u=P8 i t
 | .str x,u=>∃t,u=j53 x t
 | .byt b,u=>∃t,u=Value.bytes b t
 | .flt b,u=>∃t,u=Value.float b t
 | .ref a,u=>u=O2 a
 | .ty n,u=>u=U4 n
abbrev aD:List V->List ZH->Prop:=j4f RelV
variable {us:List ZH} {xs:List V}
def aD.length (r:aD xs us):xs.length=us.length:=y9 r
theorem aD.get:∀{xs:List V} {us:List ZH} {i:Nat} {x:V},aD xs us->xs[i]? = some x->∃u,us[i]? = some u/\RelV x u
 | _,_,_,_,.nil,e=>by simp at e
 | _,_,0,_,.cons r _,e=>by simp at e;subst e;exact ⟨_,rfl,r⟩
 | _,_,i + 1,x,.cons _ t,e=>by obtain ⟨u,b,a⟩:=aD.get (i:=i) (x:=x) t (by simpa using e);exact ⟨u,by simpa using b,a⟩
variable {u:ZH}
theorem aD.set {x:V} (r:RelV x u) :∀{xs:List V} {us:List ZH} (i:Nat),aD xs us->aD (xs.set i x) (us.set i u)
 | _,_,_,.nil=>.nil
 | _,_,0,.cons _ t=>.cons r t
 | _,_,i + 1,.cons q t=>.cons q (aD.set r i t)
theorem aD.append:∀{xs ys:List V} {us ws:List ZH},aD xs us->aD ys ws->aD (xs++ys) (us++ws)
 | _,_,_,_,.nil,s=>s
 | _,_,_,_,.cons r t,s=>.cons r (aD.append t s)
theorem aD.take:∀{xs:List V} {us:List ZH} (n:Nat),aD xs us->aD (xs.take n) (us.take n)
 | _,_,0,_=>.nil
 | _,_,_ + 1,.nil=>.nil
 | _,_,n + 1,.cons r t=>.cons r (aD.take n t)
theorem aD.drop:∀{xs:List V} {us:List ZH} (n:Nat),aD xs us->aD (xs.drop n) (us.drop n)
 | _,_,0,r=>r
 | _,_,_ + 1,.nil=>.nil
 | _,_,n + 1,.cons _ t=>aD.drop n t
noncomputable def dP:Option V->Option ZH->Prop
 | some v,some u=>RelV v u
 | none,none=>True
 | _,_=>False
def KV {κ:Type}:List (κ×V)->List (κ×ZH)->Prop:=j4f λ (p:κ×V) (q:κ×ZH)=>p.1=q.1/\RelV p.2 q.2
noncomputable def kV:Key->V
 | .inl i=>.int i
 | .inr x=>.str x
inductive HO where
 | lst (xs:List V)
 | tup (xs:List V)
 | dK (kvs:List (Key×V))|dT (kvs:List (List Key×V))
 | set (S:Int->Bool) (n:Nat)
 | ins (C dx:ZS) (fs:List (ZR×V))
 | own (x:ZS)
 | xd (fs:List (ZR×V))
 | met (f x:ZS)
 | rng (lo hi:Int)
 | frz (o:ZQ) (u:HO)
 | tbl (ps:Array ZH)
 | ext (φ:ZN->Prop)
noncomputable abbrev Hp:=ZS->Option HO
noncomputable def upd (H:Hp) (a:ZS) (o:HO):Hp:=λ b=>if b=a then some o else H b
variable {H:Hp} {a:ZS} {o:HO}
def aB:upd H a o a=some o:=by unfold upd;rw [if_pos rfl]
variable {b:ZS}
def ae (h:b≠a):upd H a o b=H b:=by unfold upd;rw [if_neg h]
def aK {u:HO} (h:H a=some o) (h':H b=some u) (d:o≠u):a≠b:=by intro e;subst e;rw [h] at h';exact d (G1 h')
def bZ (h:H a=some o) (h':H b=none):a≠b:=by intro e;subst e;rw [h] at h';cases h'
section
variable (P:ZK) (w:U1)
def eO (h:ZN) (a:ZS) (items:Array ZH):Prop:=IsTup h a items/\∃o,h.get? a=some o/\o.dict=none
def eO.new (h:ZN) (items:Array ZH):eO (h.push { cls:=.type "tuple",data:=.seq items }) h.objs.size items:=⟨IsTup.new _ _,_,U0 _ rfl,rfl⟩
noncomputable def aY (H:Hp) (h:ZN) (a:ZS):HO->Prop
 | .lst xs=>xs.length<=ZG/\∃(its:List ZH) (n:Nat),aD xs its/\h.get? a=some { cls:=.type "list",data:=.seq its.toArray n }
 | .tup xs=>xs.length<=ZG/\∃its:List ZH,aD xs its/\eO h a its.toArray
 | .dK kvs=>kvs.length<=ZG/\(a == z6)=false/\∃vs,KV kvs vs/\h.DictOf (eJ P w) a vs
 | .dT kvs=>kvs.length<=ZG/\(a == z6)=false/\∃xs:List (List Key×ZS×ZH),
   j4f (λ (p:List Key×V) (q:List Key×ZS×ZH)=>p.1=q.1/\H q.2.1=some (.tup (p.1.map kV))/\RelV p.2 q.2.2) kvs xs/\
   ∃o es ep,h.get? a=some o/\o.ExactDict/\o.data=.dict es ep/\es.toList=xs.map (entryOfKey (j30 (eJ P w)))/\(xs.map (·.1)).Nodup
 | .set S n=>h.SetOf (d8 P w) a S n
 | .ins C dx fs=>H dx=some (.own a)/\fs.length<=1000/\dx≠a/\h.get? a=some (j57 C dx)/\
   ∃mA,h.Ns1 dx mA/\(∀f,dP (fs.lookup f) (mA f))/\PySem.Within mA (fs.map (·.1))
 | .own _=>∃o,h.get? a=some o
 | .xd fs=>∃mA,h.Ns1 a mA/\∀f,dP (fs.lookup f) (mA f)
 | .rng lo hi=>∃t u v,h.get? a=some { cls:=.type "range",data:=.fields #[.int lo t,.int hi u,.int 1 v] }
 | .frz o u=>h.get? a=some o/\aY H h a u
 | .tbl ps=>h.get? a=some { cls:=.none,data:=.fields ps }
 | .met f x=>h.get? a=some (j3j (.ref f) (.ref x))
 | .ext φ=>φ h/\(∃o,h.get? a=some o)/\∀h1 h2:ZN,φ h1->(∀o,h1.get? a=some o->h2.get? a=some o)->φ h2
def eC (H:Hp) (h:ZN):Prop:=∀a o,H a=some o->aY P w H h a o
end
variable {H':Hp} {P:ZK} {h h':ZN} {w:U1}
section
def aY.lt (x:aY P w H h a o):a < h.objs.size:=by
 cases o with
 | lst xs=>obtain ⟨_,_,_,_,e⟩:=x;exact T0 e
 | tup xs=>obtain ⟨_,_,_,p⟩:=x;exact p.1.lt
 | dK kvs=>obtain ⟨_,_,_,_,o,_,_,e,_⟩:=x;exact T0 e
 | dT kvs=>obtain ⟨_,_,_,_,o,_,_,e,_⟩:=x;exact T0 e
 | set S n=>obtain ⟨o,_,_,_,e,_⟩:=x;exact T0 e
 | ins C dx fs=>obtain ⟨_,_,_,e,_⟩:=x;exact T0 e
 | own y=>obtain ⟨_,e⟩:=x;exact T0 e
 | xd fs=>obtain ⟨_,⟨_,_,_,e,_⟩,_⟩:=x;exact T0 e
 | rng lo hi=>obtain ⟨_,_,_,e⟩:=x;exact T0 e
 | frz ob u=>obtain ⟨e,_⟩:=x;exact T0 e
 | tbl ps=>exact T0 (show h.get? a=some _ from x)
 | met f y=>exact T0 (show h.get? a=some _ from x)
 | ext φ=>obtain ⟨_,⟨_,e⟩,_⟩:=x;exact T0 e
theorem Paired.mapP {α β:Type} {F G:α->β->Prop} :∀{l₁:List α} {l₂:List β},j4f F l₁ l₂->(∀a b,F a b->G a b)->j4f G l₁ l₂
 | _,_,.nil,_=>.nil
 | _,_,.cons r t,f=>.cons (f _ _ r) (Paired.mapP t f)
def aY.stay (x:aY P w H h a o) (k :∀b u,(b=a\/H b=some (.own a))->h.get? b=some u->h'.get? b=some u)
  (ho :∀b,H b=some (.own a)->H' b=some (.own a)) (ht :∀b xs,H b=some (.tup xs)->H' b=some (.tup xs)):aY P w H' h' a o:=by
 induction o with
 | lst xs=>obtain ⟨z,m,n,r,e⟩:=x;exact ⟨z,m,n,r,k _ _ (.inl rfl) e⟩
 | tup xs=>obtain ⟨z,m,r,⟨g,e,c⟩,D,A,F⟩:=x;exact ⟨z,m,r,⟨g,k _ _ (.inl rfl) e,c⟩,D,k _ _ (.inl rfl) A,F⟩
 | dK kvs=>obtain ⟨z,y,E,r,g,j,i,e,c⟩:=x;exact ⟨z,y,E,r,g,j,i,k _ _ (.inl rfl) e,c⟩
 | dT kvs=>obtain ⟨z,y,xs,r,g,j,i,e,c⟩:=x;exact ⟨z,y,xs,Paired.mapP r λ p q z=>⟨z.1,ht _ _ z.2.1,z.2.2⟩,g,j,i,k _ _ (.inl rfl) e,c⟩
 | set S n=>obtain ⟨g,j,i,t,e,c⟩:=x;exact ⟨g,j,i,t,k _ _ (.inl rfl) e,c⟩
 | ins C dx fs=>obtain ⟨d,z,ne,e,l,⟨s,j,i,A,c⟩,r⟩:=x;exact ⟨ho _ d,z,ne,k _ _ (.inl rfl) e,l,⟨s,j,i,k _ _ (.inr d) A,c⟩,r⟩
 | own y=>obtain ⟨g,e⟩:=x;exact ⟨g,k _ _ (.inl rfl) e⟩
 | xd fs=>obtain ⟨l,⟨s,j,i,e,c⟩,r⟩:=x;exact ⟨l,⟨s,j,i,k _ _ (.inl rfl) e,c⟩,r⟩
 | rng lo hi=>obtain ⟨t,u,v,e⟩:=x;exact ⟨t,u,v,k _ _ (.inl rfl) e⟩
 | frz g u ih=>obtain ⟨e,q⟩:=x;exact ⟨k _ _ (.inl rfl) e,ih q⟩
 | tbl ps=>have e:h.get? a=some { cls:=.none,data:=.fields ps }:=x;show h'.get? a=some { cls:=.none,data:=.fields ps };exact k a _ (.inl rfl) e
 | met f y=>have e:h.get? a=some (j3j (.ref f) (.ref y)):=x;show h'.get? a=some (j3j (.ref f) (.ref y));exact k a _ (.inl rfl) e
 | ext φ=>obtain ⟨p,⟨o,e⟩,B⟩:=x;exact ⟨B _ _ p λ o q=>k _ _ (.inl rfl) q,⟨o,k _ _ (.inl rfl) e⟩,B⟩
def eC.lt (x:eC P w H h) (e:H a=some o):a < h.objs.size:=(x a o e).lt
def eC.fresh (x:eC P w H h) (e:h.objs.size<=a):H a=none:=by
 cases q:H a with
 | none=>rfl
 | some u=>exact absurd (i3 (x.lt q) e) (N5 _)
def eC.kept (x:eC P w H h) (k :∀b u,h.get? b=some u->h'.get? b=some u):eC P w H h':=λ a o e=>(x a o e).stay (λ b u _ q=>k b u q) (λ _ q=>q) λ _ _ q=>q
def eC.laid (x:eC P w H h) (k :∀b u,h.get? b=some u->h'.get? b=some u) (hp:h.objs.size<=a) (new:aY P w (upd H a o) h' a o):eC P w (upd H a o) h':=λ b u e=>by
 have d:=x.fresh hp;by_cases hb:b=a
 ·subst hb;rw [aB] at e;cases e;exact new
 ·rw [ae hb] at e;exact (x b u e).stay (λ c v _ q=>k c v q) (λ c q=>by rw [ae (bZ q d)];exact q) λ c f q=>by rw [ae (bZ q d)];exact q
end
def Rd (H:Hp) (a:ZS) (u:HO):Prop:=H a=some u\/∃o,H a=some (.frz o u)
def Rd.ok {u:HO} (r:Rd H a u) (x:eC P w H h):aY P w H h a u:=by
 rcases r with r|⟨o,r⟩
 ·exact x a u r
 ·obtain ⟨_,q⟩:=x a _ r;exact q
noncomputable def pX:Option HO->Prop
 | some (.lst _)=>True
 | some (.dK _)=>True
 | some (.dT _)=>True
 | some (.set _ _)=>True
 | some (.ins _ _ _)=>True
 | some (.ext _)=>True
 | _=>False
section
variable {x e:ZS} {o':HO}
def eC.write (ok:eC P w H h) (mu:pX (H x)) (he:e=x\/H e=some (.own x)) (k :∀b u,b≠e->h.get? b=some u->h'.get? b=some u) (heo :∃u,h'.get? e=some u)
  (new:aY P w (upd H x o') h' x o'):eC P w (upd H x o') h':=λ b u q=>by
 have g :∀c y,H c=some (.own y)->c≠x:=λ c y r z=>by subst z;rw [r] at mu;exact mu
 have j :∀c a,H c=some (.tup a)->c≠x:=λ c a r z=>by subst z;rw [r] at mu;exact mu
 by_cases hb:b=x
 ·subst hb;rw [aB] at q;cases q;exact new
 ·rw [ae hb] at q;by_cases hbe:b=e
  ·have f:H b=some (.own x):=by
    rcases he with z|z
    ·exact absurd (hbe.trans z) hb
    ·rw [hbe];exact z
   rw [q] at f;cases f;obtain ⟨v,i⟩:=heo;exact ⟨v,by rw [hbe];exact i⟩
  ·refine (ok b u q).stay (λ c v d r=>k c v ?_ r) (λ c r=>by rw [ae (g c b r)];exact r) λ c a r=>by rw [ae (j c a r)];exact r
   rcases d with rfl|d
   ·exact hbe
   ·rintro rfl;rcases he with z|z
    ·exact g c b d z
    ·rw [d] at z;cases z;exact hb rfl
end
structure Un (fs ex:List ZS) (H H':Hp) (h h':ZN):Prop where
 keep :∀b o,h.get? b=some o->H b=none->b∉fs->b∉ex->h'.get? b=some o
 slot :∀b o,h.get? b=some o->H b=none->b∈fs->b∉ex->∃sl,h'.get? b=some { o with slots:=sl }
 free :∀b o,h.get? b=some o->H b=none->b∉ex->H' b=none
 there :∀b o,h.get? b=some o->b∉ex->∃o',h'.get? b=some o'
 tups :∀b xs,H b=some (.tup xs)->H' b=some (.tup xs)
 frzs :∀b o u,H b=some (.frz o u)->H' b=some (.frz o u)
 tbls :∀b ps,H b=some (.tbl ps)->∃more,H' b=some (.tbl (ps++more))
section
variable {fs fs' ex ex':List ZS} {H1 H2:Hp} {h1 h2:ZN} {x e:ZS} 
def Un.any (u:Un fs ex H H1 h h1) {ob:ZQ} (q:h.get? b=some ob) (n:H b=none) (hx:b∉ex) :∃sl,h1.get? b=some { ob with slots:=sl }:=by
 by_cases hb:b∈fs
 ·exact u.slot b ob q n hb hx
 ·exact ⟨ob.slots,u.keep b ob q n hb hx⟩
def Un.kept (k :∀b u,h.get? b=some u->h'.get? b=some u):Un fs ex H H h h':=
 ⟨λ b a q _ _ _=>k b a q,λ b a q _ _ _=>⟨a.slots,k b a q⟩,λ _ _ _ n _=>n,λ b a q _=>⟨a,k b a q⟩,λ _ _ q=>q,λ _ _ _ q=>q,λ _ c q=>⟨#[],by rw [q];simp⟩⟩
def Un.refl:Un fs ex H H h h:=Un.kept λ _ _ q=>q
def Un.laid (k :∀b u,h.get? b=some u->h'.get? b=some u) (hp:h.objs.size<=a) (hn:H a=none):Un fs ex H (upd H a o) h h' where
 keep:=λ b u q _ _ _=>k b u q
 slot:=λ b u q _ _ _=>⟨u.slots,k b u q⟩
 free:=λ b u q n _=>by rw [ae (K1 (i3 (T0 q) hp))];exact n
 there:=λ b u q _=>⟨u,k b u q⟩
 tups:=λ b c q=>by rw [ae (bZ q hn)];exact q
 frzs:=λ b u c q=>by rw [ae (bZ q hn)];exact q
 tbls:=λ b d q=>⟨#[],by rw [ae (bZ q hn),q];simp⟩
def Un.write (mu:pX (H x)) (he:e=x\/H e=some (.own x)) (k :∀b u,b≠e->h.get? b=some u->h'.get? b=some u) (heo :∃u,h'.get? e=some u):Un fs ex H (upd H x o) h h':=by
 have c :∀b,H b=none->b≠x:=λ b n z=>by subst z;rw [n] at mu;exact mu
 have d :∀b,H b=none->b≠e:=λ b n z=>by
  subst z;rcases he with r|r
  ·exact c b n r
  ·rw [n] at r;cases r
 have a :∀b u,H b=some u->¬ pX (some u)->b≠x:=λ b u q f z=>by subst z;rw [q] at mu;exact f mu
 refine ⟨λ b u q n _ _=>k b u (d b n) q,λ b u q n _ _=>⟨u.slots,k b u (d b n) q⟩,λ b u q n _=>by rw [ae (c b n)];exact n,λ b u q _=>?_,
  λ b g q=>by rw [ae (a b _ q λ z=>z)];exact q,λ b u g q=>by rw [ae (a b _ q λ z=>z)];exact q,λ b i q=>⟨#[],by rw [ae (a b _ q λ z=>z),q];simp⟩⟩
 by_cases hbe:b=e
 ·subst hbe;exact heo
 ·exact ⟨u,k b u hbe q⟩
end
noncomputable def sY (h:ZN) (H:Hp):List ZS:=(N0 h.objs.size).filter λ a=>(H a).isSome
noncomputable def gy (h:ZN) (H:Hp):ZN:=PySem.W.hideAll h (sY h H)
def IP (h:ZN) (H:Hp):(gy h H).objs.size=h.objs.size:=PySem.W.hideAll_size _ _
def FZ {o:ZQ} (e:h.get? b=some o) (n:H b=none):(gy h H).get? b=some o:=
 PySem.W.hideAll_get _ e λ a=>by have q:(H b).isSome=true:=(List.mem_filter.mp a).2;rw [n] at q;simp at q
def EL {o:ZQ} (e:(gy h H).get? b=some o):h.get? b=some o/\H b=none:=by
 have a:h.get? b=some o:=PySem.W.of_hideAll (sY h H) e;refine ⟨a,?_⟩;cases q:H b with
 | none=>rfl
 | some x=>have c:b∈sY h H:=List.mem_filter.mpr ⟨List.mem_range.mpr (T0 a),by simp [q]⟩;have z:(gy h H).get? b=none:=PySem.W.hideAll_none (sY h H) c;rw [z] at e;cases e
noncomputable def KN (g h:ZN) (L:ZS):List (ZS×ZQ):=(N0 h.objs.size).filterMap λ a=>if a=L\/(g.get? a).isSome=true then none else (h.get? a).map λ o=>(a,o)
noncomputable def rest (g h:ZN) (L d:ZS):List (ZS×ZQ):=(KN g h L).filter λ p=>decide (p.1≠d)
structure Mod (K:B0) (mg:ZR->Option ZH) (base:ZN):Prop where
 kin:K.In base
 glob:base.Ns M4 mg
 blt :∃mb,base.Ns builtinsNs mb/\∀x:ZR,x≠"__name__"->mb x=K6 x
 nolimit:base.NoLimit
structure Cx where
 prog:ZK
 w:U1
 K:B0
 mg:ZR->Option ZH
 base:ZN
 A:P2
 N:List ZR
 s₀:I0
 H₀:Hp
 env:Env
 outer:List Env
 stack:List Env
 ex:List ZS
 fn:ZR->Bool
 calm:Bool
 pn:List (ZS×ZQ)
 xe:ZH->I0->Prop
noncomputable def gT (l:List Env):List ZS:=l.filterMap (·.frame)
noncomputable abbrev Cx.fs (X:Cx):List ZS:=gT X.outer
def tS (sc:ZE) (x:ZR):Prop:=sc.names.lookup x=some .local\/sc.names.lookup x=some .cell\/sc.names.lookup x=some .free
def Loc (sc:ZE) (x:ZR):Prop:=sc.names.lookup x=some .local\/sc.names.lookup x=some .cell
def Look (env:Env) (h:ZN) (m:ZR->Option ZH) (x:ZR) (u:ZH):Prop:=
 (env.kindOf x=some .local/\m x=some u)\/((env.kindOf x=some .cell\/env.kindOf x=some .free)/\∃c,env.cells.lookup x=some c/\h.IsCell c (some u))
structure Cx.Ok (X:Cx):Prop where
 mod:Mod X.K X.mg X.base
 kind:X.env.scope.kind=.function
 glob:X.env.globals=M4
 blt:X.env.builtins=builtinsNs
 above:X.s₀.heap.objs.size<=X.env.locals
 inj :∀x y c,X.env.cells.lookup x=some c->X.env.cells.lookup y=some c->x=y
 has :∀x,(X.env.kindOf x=some .cell\/X.env.kindOf x=some .free)->∃c,X.env.cells.lookup x=some c
 cab :∀x c,X.fn x=true->X.env.cells.lookup x=some c->X.s₀.heap.objs.size<=c
 hd:X.calm=true->X.A.handled=none
 frames:X.A.frames=some X.stack
 stk:X.stack=X.outer\/(X.stack=X.env :: X.outer/\X.env.frame=some X.env.locals)
 exf :∀b∈X.ex,b≠X.env.locals/\∀x c,X.env.cells.lookup x=some c->c≠b
 bs :∀b o,X.base.get? b=some o->X.s₀.heap.get? b=some o/\X.H₀ b=none
 bsz:X.base.objs.size<=X.s₀.heap.objs.size
 noex :∀b o,X.base.get? b=some o->b∉X.ex
 exfs :∀b∈X.ex,b∉X.fs
 funs:X.s₀.heap.FunFrames X.base X.outer
 frf :∀b∈X.fs,X.H₀ b=none
structure Inv (X:Cx) (pins:List (ZS×ZQ)) (σ:List (Option V)) (H:Hp) (s:I0):Prop where
 ok:X.Ok
 os:s.os=X.s₀.os
 bare:j29 s.gens
 base:Un X.fs X.ex X.H₀ H X.s₀.heap s.heap
 loc :∃m,s.heap.Ns X.env.locals m/\∀(i:Nat) (x:ZR) (v:V),X.N[i]? = some x->σ[i]? = some (some v)->tS X.env.scope x->∃u,RelV v u/\Look X.env s.heap m x u
 cell :∀x c,X.env.cells.lookup x=some c->∃v,s.heap.IsCell c v
 free:H X.env.locals=none
 freeC :∀x c,X.env.cells.lookup x=some c->H c=none
 pin :∀p∈X.pn++pins,s.heap.get? p.1=some p.2/\H p.1=none/\p.1≠X.env.locals/\p.1∉X.fs/\∀v,p.2.data≠.cell v
 hok:eC X.prog X.w H s.heap
 len:σ.length=X.N.length
variable {A:P2} {E:ZH->I0->Prop} {M:Model} {X:Cx} {ch:List ZS} {i t':Nat} {pins:List (ZS×ZQ)} {s s':I0} {v:V} {x:ZR}
section
variable {σ:List (Option V)} 
def Cx.Ok.nofr (ok:X.Ok) {o:ZQ} (e:X.base.get? b=some o):b∉X.fs:=λ a=>by have:=(ok.funs.mem a).1;rw [e] at this;cases this
def Inv.bs (I:Inv X pins σ H s) :∀b o,X.base.get? b=some o->s.heap.get? b=some o/\H b=none:=λ b o e=>⟨I.base.keep b o (I.ok.bs b o e).1 (I.ok.bs b o e).2 (I.ok.nofr e) (I.ok.noex b o e),I.base.free b o (I.ok.bs b o e).1 (I.ok.bs b o e).2 (I.ok.noex b o e)⟩
def Inv.bk (I:Inv X pins σ H s) :∀b o,X.base.get? b=some o->s.heap.get? b=some o:=λ b o e=>(I.bs b o e).1
def Inv.mod (I:Inv X pins σ H s):Mod X.K X.mg X.base:=I.ok.mod
def Inv.kIn (I:Inv X pins σ H s):X.K.In s.heap:=I.ok.mod.kin.keeps I.bk
def Inv.lt (I:Inv X pins σ H s):X.env.locals < s.heap.objs.size:=let ⟨_,hn,_⟩:=I.loc;hn.lt
def Inv.sz (I:Inv X pins σ H s):X.s₀.heap.objs.size<=s.heap.objs.size:=M0 I.ok.above (y4 I.lt)
def Inv.nofs (I:Inv X pins σ H s) (h:s.heap.objs.size<=a):a∉X.fs:=λ b=>by obtain ⟨_,o,c,_⟩:=I.ok.funs.mem b;exact absurd (i3 (T0 c) (M0 I.sz h)) (N5 _)
def Inv.cne (I:Inv X pins σ H s) :∀x c,X.env.cells.lookup x=some c->c≠X.env.locals:=λ x c e z=>by obtain ⟨v,o,a,b⟩:=I.cell x c e;obtain ⟨m,⟨g,i,h,d,f,_⟩,_⟩:=I.loc;rw [z,d] at a;cases a;rw [f] at b;cases b
def Inv.funs (I:Inv X pins σ H s):s.heap.FunFrames X.base X.outer:=by
 have all :∀(l:List Env),(∀b∈gT l,b∈X.fs)->X.s₀.heap.FunFrames X.base l->s.heap.FunFrames X.base l:=by
  intro l;induction l with
  | nil=>intro _ _;trivial
  | cons env r ih=>intro f k;obtain ⟨m,⟨L,o,a,g,h,i⟩,j⟩:=k;have d:L∈X.fs:=f L (by unfold gT;rw [j3i,a];exact Y0);obtain ⟨n,e⟩:=I.base.slot L o h (I.ok.frf L d) d λ z=>I.ok.exfs L z d;exact ⟨m,⟨L,_,a,g,e,i⟩,ih (λ b c=>f b (by unfold gT;rw [j3i,a];exact Z0 _ c)) j⟩
 exact all X.outer (λ _ c=>c) I.ok.funs
def Inv.stack (I:Inv X pins σ H s):s.heap.FunFrames X.base X.stack:=by
 rcases I.ok.stk with e|⟨e,hf⟩
 ·rw [e];exact I.funs
 ·rw [e];obtain ⟨m,a,_⟩:=I.loc;refine .cons (by rw [I.ok.kind];decide) hf a ?_ I.funs;exact Heap.get?_none_of_le (M0 I.ok.bsz I.ok.above)
def Inv.stkSub (I:Inv X pins σ H s) :∀b∈gT X.stack,b∈X.env.locals :: X.fs:=λ b a=>by
 rcases I.ok.stk with e|⟨e,hf⟩
 ·rw [e] at a;exact Z0 _ a
 ·rw [e] at a;unfold gT at a;rw [j3i,hf] at a;exact a
def Inv.stkFree (I:Inv X pins σ H s) :∀b∈gT X.stack,H b=none:=λ b a=>by
 rcases List.mem_cons.mp (I.stkSub b a) with e|a
 ·rw [e];exact I.free
 ·obtain ⟨_,o,c,_⟩:=I.ok.funs.mem a;exact I.base.free b o c (I.ok.frf b a) λ z=>I.ok.exfs b z a
def Inv.step {g':Array GenState} {d':Drawn} (I:Inv X pins σ H s)
  (hch :∀b∈ch,(b∈X.ex\/X.s₀.heap.objs.size<=b)/\b≠X.env.locals/\(∀x c,X.env.cells.lookup x=some c->c≠b)/\∀p∈X.pn++pins,p.1≠b)
  (keep :∀b o,b≠X.env.locals->b∉X.fs->b∉ch->s.heap.get? b=some o->H b=none->h'.get? b=some o)
  (slot :∀b o,b≠X.env.locals->b∈X.fs->b∉ch->s.heap.get? b=some o->H b=none->∃sl,h'.get? b=some { o with slots:=sl }) (free :∀b o,b∉ch->s.heap.get? b=some o->H b=none->H' b=none)
  (there :∀b o,b∉ch->s.heap.get? b=some o->∃o',h'.get? b=some o')
  (tups :∀b xs,H b=some (.tup xs)->H' b=some (.tup xs)) (frzs :∀b o u,H b=some (.frz o u)->H' b=some (.frz o u)) (tbls :∀b ps,H b=some (.tbl ps)->∃more,H' b=some (.tbl (ps++more)))
  (ns :∀m,s.heap.Ns X.env.locals m->h'.Ns X.env.locals m) (hok:eC X.prog X.w H' h') (hg:j29 g') :
  Inv X pins σ H' { s with heap:=h',gens:=g',drawn:=d',toks:=t' }:=by
 have E :∀b o,X.s₀.heap.get? b=some o->b≠X.env.locals:=λ b o e=>K1 (i3 (T0 e) I.ok.above);have y :∀b o,X.s₀.heap.get? b=some o->b∉X.ex->b∉ch:=λ b o e a g=>by
  rcases (hch b g).1 with z|z
  ·exact a z
  ·exact absurd (i3 (T0 e) z) (N5 _)
 have D :∀x c,X.env.cells.lookup x=some c->∀v,s.heap.IsCell c v->h'.IsCell c v:=λ x c e v ⟨o,h,A⟩=>by
  have j:c∉ch:=λ z=>(hch c z).2.2.1 x c e rfl;by_cases hc:c∈X.fs
  ·obtain ⟨sl,q⟩:=slot c o (I.cne x c e) hc j h (I.freeC x c e);exact ⟨_,q,A⟩
  ·exact ⟨o,keep c o (I.cne x c e) hc j h (I.freeC x c e),A⟩
 refine ⟨I.ok,I.os,hg,⟨λ b o e n g a=>?_,λ b o e n g a=>?_,λ b o e n a=>?_,λ b o e a=>?_,λ b xs e=>tups b xs (I.base.tups b xs e),λ b o xs e=>frzs b o xs (I.base.frzs b o xs e),λ b ps e=>?_⟩,?_,λ x c e=>?_,?_,λ x c e=>?_,λ p B=>?_,hok,I.len⟩
 ·exact keep b o (E b o e) g (y b o e a) (I.base.keep b o e n g a) (I.base.free b o e n a)
 ·obtain ⟨sl,f⟩:=I.base.slot b o e n g a;obtain ⟨L,t⟩:=slot b _ (E b o e) g (y b o e a) f (I.base.free b o e n a);exact ⟨L,t⟩
 ·obtain ⟨o',f⟩:=I.base.there b o e a;exact free b o' (y b o e a) f (I.base.free b o e n a)
 ·obtain ⟨o',f⟩:=I.base.there b o e a;exact there b o' (y b o e a) f
 ·obtain ⟨F,f⟩:=I.base.tbls b ps e;obtain ⟨G,t⟩:=tbls b _ f;exact ⟨F++G,by rw [t,Array.append_assoc]⟩
 ·obtain ⟨m,K,M⟩:=I.loc;refine ⟨m,ns m K,λ i x v f t J=>?_⟩;obtain ⟨u,r,l⟩:=M i x v f t J;refine ⟨u,r,?_⟩;rcases l with l|⟨k,c,e,z⟩
  ·exact .inl l
  ·exact .inr ⟨k,c,e,D x c e _ z⟩
 ·obtain ⟨v,z⟩:=I.cell x c e;exact ⟨v,D x c e v z⟩
 ·obtain ⟨m,⟨o,_,_,h,_⟩,_⟩:=I.loc;exact free _ o (λ z=>(hch _ z).2.1 rfl) h I.free
 ·obtain ⟨v,o,h,A⟩:=I.cell x c e;exact free c o (λ z=>(hch c z).2.2.1 x c e rfl) h (I.freeC x c e)
 ·obtain ⟨e,n,ne,C,d⟩:=I.pin p B;have j:p.1∉ch:=λ z=>(hch p.1 z).2.2.2 p B rfl;exact ⟨keep p.1 p.2 ne C j e n,free p.1 p.2 j e n,ne,C,d⟩
def Inv.un (I:Inv X pins σ H s) (u:Un X.fs [] H H' s.heap h') (hok:eC X.prog X.w H' h'):Inv X pins σ H' { s with heap:=h',toks:=t' }:=by obtain ⟨m,⟨o,t,k,c,r⟩,_⟩:=id I.loc;obtain ⟨p,j⟩:=u.any c I.free (by simp);exact I.step (g':=s.gens) (d':=s.drawn) (ch:=[]) (λ _ z=>nomatch z) (λ b o _ a _ e n=>u.keep b o e n a (by simp)) (λ b o _ a _ e n=>u.slot b o e n a (by simp)) (λ b o _ e n=>u.free b o e n (by simp)) (λ b o _ e=>u.there b o e (by simp)) u.tups u.frzs u.tbls (λ l h=>by obtain ⟨q,g,f,d,i⟩:=h;rw [c] at d;cases d;exact ⟨_,g,f,j,i⟩) hok I.bare
def Inv.call {g':Array GenState} {d':Drawn} (I:Inv X pins σ H s) (u:Un (gT X.stack) ch H H' s.heap h') (hok:eC X.prog X.w H' h') (hg:j29 g')
  (hch :∀b∈ch,(b∈X.ex\/X.s₀.heap.objs.size<=b)/\b≠X.env.locals/\(∀x c,X.env.cells.lookup x=some c->c≠b)/\∀p∈X.pn++pins,p.1≠b) :
  Inv X pins σ H' { s with heap:=h',gens:=g',drawn:=d',toks:=t' }:=by
 obtain ⟨m,⟨o,A,q,f,r⟩,_⟩:=id I.loc;obtain ⟨v,d⟩:=u.any f I.free λ z=>(hch _ z).2.1 rfl;exact I.step (ch:=ch) hch (λ b o d i a e n=>u.keep b o e n (λ z=>(List.mem_cons.mp (I.stkSub b z)).elim d i) a) (λ b o _ _ a e n=>u.any e n a) (λ b o a e n=>u.free b o e n a) (λ b o a e=>u.there b o e a) u.tups u.frzs u.tbls (λ t k=>by obtain ⟨y,j,h,g,l⟩:=k;rw [f] at g;cases g;exact ⟨_,j,h,d,l⟩) hok hg
def Inv.turned {it:ZS} (I:Inv X pins σ H s) (k :∀b o,b≠it->s.heap.get? b=some o->h'.get? b=some o) (hn:H it=none) (hL:it≠X.env.locals)
  (h1:it∈X.ex\/X.s₀.heap.objs.size<=it) (h2 :∀x c,X.env.cells.lookup x=some c->c≠it) (h3 :∀p∈X.pn++pins,p.1≠it):Inv X pins σ H { s with heap:=h',toks:=t' }:=by
 have d :∀b u,H b=some u->b≠it:=λ b u e z=>by rw [z,hn] at e;cases e
 refine I.step (g':=s.gens) (d':=s.drawn) (ch:=[it]) (λ b i=>?_) (λ b o _ _ a e _=>k b o (λ z=>a (by simp [z])) e) (λ b o _ _ a e _=>⟨o.slots,k b o (λ z=>a (by simp [z])) e⟩) (λ _ _ _ _ n=>n)
  (λ b o a e=>⟨o,k b o (λ z=>a (by simp [z])) e⟩) (λ _ _ e=>e) (λ _ _ _ e=>e) (λ b l e=>⟨#[],by rw [e];simp⟩) (λ m f=>?_) (λ b u e=>?_) I.bare
 ·have e:b=it:=by simpa using i
  subst e;exact ⟨h1,hL,h2,h3⟩
 ·obtain ⟨o,j,h,g,r⟩:=f;exact ⟨o,j,h,k _ o (W5 hL) g,r⟩
 ·refine (I.hok b u e).stay (λ c v a q=>k c v ?_ q) (λ _ q=>q) λ _ _ q=>q;rcases a with z|z
  ·rw [z];exact d b u e
  ·exact d c _ z
def Inv.tok (I:Inv X pins σ H s) (t:Nat):Inv X pins σ H { s with toks:=t }:=I.un (h':=s.heap) (t':=t) Un.refl I.hok
def Inv.kept (I:Inv X pins σ H s) (k :∀b u,s.heap.get? b=some u->h'.get? b=some u):Inv X pins σ H { s with heap:=h',toks:=t' }:=I.un (Un.kept k) (I.hok.kept k)
def Inv.laid (I:Inv X pins σ H s) (k :∀b u,s.heap.get? b=some u->h'.get? b=some u) (hp:s.heap.objs.size<=a) (new:aY X.prog X.w (upd H a o) h' a o) :
  Inv X pins σ (upd H a o) { s with heap:=h',toks:=t' }:=I.un (Un.laid k hp (I.hok.fresh hp)) (I.hok.laid k hp new)
def Inv.write {x e:ZS} (I:Inv X pins σ H s) (mu:pX (H x)) (he:e=x\/H e=some (.own x)) (k :∀b u,b≠e->s.heap.get? b=some u->h'.get? b=some u) (heo :∃u,h'.get? e=some u)
  (new:aY X.prog X.w (upd H x o) h' x o):Inv X pins σ (upd H x o) { s with heap:=h',toks:=t' }:=I.un (Un.write mu he k heo) (I.hok.write mu he k heo new)
def Inv.weak {σ':List (Option V)} (I:Inv X pins σ H s) (hl:σ'.length=σ.length) (w :∀(i:Nat) v,σ'[i]? = some (some v)->σ[i]? = some (some v)):Inv X pins σ' H s:=
 ⟨I.ok,I.os,I.bare,I.base,let ⟨m,hn,hl'⟩:=I.loc;⟨m,hn,λ i x v b a c=>hl' i x v b (w i v a) c⟩,I.cell,I.free,I.freeC,I.pin,I.hok,hl.trans I.len⟩
def Inv.pins_of {pins':List (ZS×ZQ)} (I:Inv X pins σ H s) (h :∀p∈pins',s.heap.get? p.1=some p.2/\H p.1=none/\p.1≠X.env.locals/\p.1∉X.fs/\∀v,p.2.data≠.cell v):Inv X pins' σ H s:=
 ⟨I.ok,I.os,I.bare,I.base,I.loc,I.cell,I.free,I.freeC,λ p a=>(List.mem_append.mp a).elim (λ z=>I.pin p (b8 _ z)) (h p),I.hok,I.len⟩
def yc {N:List ZR} (hN:N.Nodup) {j:Nat} (a:N[i]? = some x) (b:N[j]? = some x):i=j:=by obtain ⟨f,d⟩:=List.getElem?_eq_some_iff.mp a;obtain ⟨e,c⟩:=List.getElem?_eq_some_iff.mp b;exact (j20 hN).mp (d.trans c.symm)
def Hv {Q:Unit->I0->Prop} (I:Inv X pins σ H s) (hN:X.N.Nodup) (hi:X.N[i]? = some x) (hx:Loc X.env.scope x) (r:RelV v u)
  (h :∀s',Inv X pins (σ.set i (some v)) H s'->(∃a,v4 a s.heap s'.heap/\(a=X.env.locals\/X.env.cells.lookup x=some a))->Q () s') (hf:X.fn x=true\/X.env.scope.names.lookup x=some .local:=by first|exact .inl rfl|exact .inr rfl|assumption):X0 M A (storeName X.env x u) Q E s:=by
 obtain ⟨m,K,hl⟩:=id I.loc;have a4:(X.env.scope.kind == .class || (X.env.scope.kind == .module && X.env.locals != X.env.globals))=false:=by rw [I.ok.kind];rfl
 have Z:i < σ.length:=by rw [I.len];exact (List.getElem?_eq_some_iff.mp hi).1
 have cne:=I.cne;have a0 :∀{a:ZS} {C:ZN},(∃o,s.heap.get? a=some o/\H a=none)->v4 a s.heap C->eC X.prog X.w H C:=λ {a C} ha f b ob e=>by
  obtain ⟨_,_,a1⟩:=ha;refine (I.hok b ob e).stay (λ c F l q=>(f.2 c ?_).trans q) (λ _ q=>q) λ _ _ q=>q;rintro rfl;rcases l with rfl|l
  ·rw [a1] at e;cases e
  ·rw [a1] at l;cases l
 rcases hx with hk|hk
 ·refine wpAny_storeName_local hk K (λ C a6 f=>?_) a4;obtain ⟨oL,_,_,a3,_⟩:=id K;refine h _ ⟨I.ok,I.os,I.bare,⟨λ b o e n B hx=>?_,λ b o e n B hx=>?_,I.base.free,λ b o e hx=>?_,I.base.tups,I.base.frzs,I.base.tbls⟩,⟨_,a6,λ j y O g t J=>?_⟩,λ y c e=>?_,I.free,I.freeC,λ p L=>?_,a0 ⟨oL,a3,I.free⟩ f,by simpa using I.len⟩ ⟨_,f,.inl rfl⟩
  ·exact (f.2 b (K1 (i3 (T0 e) I.ok.above))).trans (I.base.keep b o e n B hx)
  ·obtain ⟨R,g⟩:=I.base.slot b o e n B hx;exact ⟨R,(f.2 b (K1 (i3 (T0 e) I.ok.above))).trans g⟩
  ·obtain ⟨U,g⟩:=I.base.there b o e hx;exact ⟨U,(f.2 b (K1 (i3 (T0 e) I.ok.above))).trans g⟩
  ·by_cases hj:j=i
   ·subst hj;rw [hi] at g;cases g;rw [j97 Z] at t;cases t;exact ⟨u,r,.inl ⟨hk,by simp⟩⟩
   ·rw [k0e (W5 hj)] at t;obtain ⟨G,P,q⟩:=hl j y O g t J;refine ⟨G,P,?_⟩;rcases q with ⟨k,e⟩|⟨k,c,e,z⟩
    ·refine .inl ⟨k,?_⟩;have:y≠x:=λ e=>hj (yc hN g (e ▸ hi));simp [this,e]
    ·exact .inr ⟨k,c,e,z.sameBut f (cne y c e)⟩
  ·obtain ⟨F,z⟩:=I.cell y c e;exact ⟨F,z.sameBut f (cne y c e)⟩
  ·obtain ⟨e,n,ne,S,d⟩:=I.pin p L;exact ⟨(f.2 p.1 ne).trans e,n,ne,S,d⟩
 ·have T:X.fn x=true:=by
   rcases hf with z|z
   ·exact z
   ·rw [z] at hk;cases hk
  obtain ⟨c,l⟩:=I.ok.has x (.inl hk);obtain ⟨F,z⟩:=I.cell x c l;refine wpAny_storeName_cell I.ok.kind hk l z (λ C a2 f=>?_);obtain ⟨W,Y,a5⟩:=id z;refine h { s with heap:=C } ⟨I.ok,I.os,I.bare,⟨λ b o e n B hx=>?_,λ b o e n B hx=>?_,I.base.free,λ b o e hx=>?_,I.base.tups,I.base.frzs,I.base.tbls⟩,⟨m,K.sameBut f (W5 (cne x c l)),λ j y O g t J=>?_⟩,λ y D e=>?_,I.free,I.freeC,λ p L=>?_,a0 ⟨W,Y,I.freeC x c l⟩ f,by simpa using I.len⟩ ⟨c,f,.inr l⟩
  ·exact (f.2 b (K1 (i3 (T0 e) (I.ok.cab x c T l)))).trans (I.base.keep b o e n B hx)
  ·obtain ⟨R,g⟩:=I.base.slot b o e n B hx;exact ⟨R,(f.2 b (K1 (i3 (T0 e) (I.ok.cab x c T l)))).trans g⟩
  ·obtain ⟨U,g⟩:=I.base.there b o e hx;exact ⟨U,(f.2 b (K1 (i3 (T0 e) (I.ok.cab x c T l)))).trans g⟩
  ·by_cases hj:j=i
   ·subst hj;rw [hi] at g;cases g;rw [j97 Z] at t;cases t;exact ⟨u,r,.inr ⟨.inl hk,c,l,a2⟩⟩
   ·rw [k0e (W5 hj)] at t;obtain ⟨G,P,q⟩:=hl j y O g t J;refine ⟨G,P,?_⟩;rcases q with q|⟨k,D,e,z'⟩
    ·exact .inl q
    ·refine .inr ⟨k,D,e,z'.sameBut f ?_⟩;rintro rfl;exact hj (yc hN g (I.ok.inj _ _ _ e l ▸ hi))
  ·by_cases hcc:D=c
   ·subst hcc;exact ⟨_,a2⟩
   ·obtain ⟨w2,z2⟩:=I.cell y D e;exact ⟨w2,z2.sameBut f hcc⟩
  ·obtain ⟨e,n,ne,S,d⟩:=I.pin p L;refine ⟨(f.2 p.1 ?_).trans e,n,ne,S,d⟩;intro q;rw [q,Y] at e;have q':W=p.2:=G1 e;exact d F (by rw [<-q'];exact a5)
def yG {Q:Unit->I0->Prop} (I:Inv X pins σ H s) (hN:X.N.Nodup) (hi:X.N[i]? = some x) (hx:Loc X.env.scope x) (r:RelV v u)
  (h :∀s',Inv X pins (σ.set i (some v)) H s'->Q () s') (hf:X.fn x=true\/X.env.scope.names.lookup x=some .local:=by first|exact .inl rfl|exact .inr rfl|assumption):X0 M A (storeName X.env x u) Q E s:=
 Hv I hN hi hx r (λ s' a _=>h s' a) hf
def Inv.call' (I:Inv X pins σ H s) (ho:s'.os=s.os) (u:Un (gT X.stack) ch H H' s.heap s'.heap) (hok:eC X.prog X.w H' s'.heap) (hg:j29 s'.gens)
  (hch :∀b∈ch,(b∈X.ex\/X.s₀.heap.objs.size<=b)/\b≠X.env.locals/\(∀x c,X.env.cells.lookup x=some c->c≠b)/\∀p∈X.pn++pins,p.1≠b):Inv X pins σ H' s':=by
 obtain ⟨d,g',d',t',a⟩:=s';have e:a=s.os:=ho;subst e;exact I.call (g':=g') (t':=t') (d':=d') u hok hg hch
end
noncomputable abbrev XK:=ZH->Option ZS->Hp->Prop
noncomputable abbrev St:=List (Option V)
noncomputable abbrev VK:=V->Hp->Prop
noncomputable abbrev TE:=St->Hp->VK->Prop
noncomputable abbrev TT:=St->Hp->(Bool->Hp->Prop)->Prop
noncomputable abbrev TA:=St->Hp->(List V->Hp->Prop)->Prop
structure Ends where
 nx:St->Hp->Prop
 rt:VK
 bk:St->Hp->Prop:=λ _ _=>False
 ct:St->Hp->Prop:=λ _ _=>False
noncomputable abbrev TS:=Ends->St->Hp->Prop
def EP (X:Cx) (pins:List (ZS×ZQ)) (σ:St) (Q:VK) (u:ZH) (s':I0):Prop:=∃v H',Inv X pins σ H' s'/\RelV v u/\Q v H'
def TP (X:Cx) (pins:List (ZS×ZQ)) (σ:St) (Q:Bool->Hp->Prop) (b:Bool) (s':I0):Prop:=∃H',Inv X pins σ H' s'/\Q b H'
def AP (X:Cx) (pins:List (ZS×ZQ)) (σ:St) (Q:List V->Hp->Prop) (us:List ZH) (s':I0):Prop:=∃vs H',Inv X pins σ H' s'/\aD vs us/\Q vs H'
def SP (X:Cx) (pins:List (ZS×ZQ)) (D:Ends) (f:Flow) (s':I0):Prop:=
 match f with
 | .next=>∃σ' H',Inv X pins σ' H' s'/\D.nx σ' H'
 | .brk=>∃σ' H',Inv X pins σ' H' s'/\D.bk σ' H'
 | .cont=>∃σ' H',Inv X pins σ' H' s'/\D.ct σ' H'
 | .ret u=>∃v σ' H',Inv X pins σ' H' s'/\RelV v u/\D.rt v H'
def PE (X:Cx) (e:ZO) (t:TE):Prop:=
 ∀(pins:List (ZS×ZQ)) (s:I0) (σ:St) (H:Hp) (Q:VK),Inv X pins σ H s->t σ H Q->X0 (P1 X.prog X.w) X.A (T4 e X.env) (EP X pins σ Q) X.xe s
def PT (X:Cx) (e:ZO) (t:TT):Prop:=
 ∀(pins:List (ZS×ZQ)) (s:I0) (σ:St) (H:Hp) (Q:Bool->Hp->Prop),Inv X pins σ H s->t σ H Q->X0 (P1 X.prog X.w) X.A (isTrue e X.env (T4 e X.env)) (TP X pins σ Q) X.xe s
def PW (X:Cx) (e:ZO) (t:TT):Prop:=
 ∀(whole:Sem ZH) (pins:List (ZS×ZQ)) (s:I0) (σ:St) (H:Hp) (Q:Bool->Hp->Prop),Inv X pins σ H s->t σ H Q->X0 (P1 X.prog X.w) X.A (isTrue e X.env whole) (TP X pins σ Q) X.xe s
variable {e:ZO}
def PW.pt {t:TT} (h:PW X e t):PT X e t:=h _
def PA (X:Cx) (es:List ZO) (t:TA):Prop:=
 ∀(pos:ZP) (pins:List (ZS×ZQ)) (s:I0) (σ:St) (H:Hp) (Q:List V->Hp->Prop),Inv X pins σ H s->t σ H Q->X0 (P1 X.prog X.w) X.A (j4h (r6 pos (A2 es X.env))) (AP X pins σ Q) X.xe s
def PS (X:Cx) (st:ZM) (t:TS):Prop:=
 ∀(pins:List (ZS×ZQ)) (s:I0) (σ:St) (H:Hp) (D:Ends),Inv X pins σ H s->t D σ H->X0 (P1 X.prog X.w) X.A (exec st X.env) (SP X pins D) X.xe s
def iU (X:Cx) (st:List ZM) (t:TS):Prop:=
 ∀(pins:List (ZS×ZQ)) (s:I0) (σ:St) (H:Hp) (D:Ends),Inv X pins σ H s->t D σ H->X0 (P1 X.prog X.w) X.A (execs st X.env) (SP X pins D) X.xe s
def br {α:Type} {t:Sem α} {Q Q':α->I0->Prop} (h:X0 M A t Q E s) (hQ :∀a s,Q a s->Q' a s):X0 M A t Q' E s:=K5 h hQ λ _ _ x=>x
variable {Q:ZH->I0->Prop} {op:CmpOp} {pos:ZP} {ta:TE} {σ:St}
section
inductive xk (i:Nat) (σ:St) (H:Hp) (Q:VK):Prop
 | mk (v:V) (e:σ[i]? = some (some v)) (q:Q v H)
def qw (i:Nat):TE:=λ σ H Q=>xk i σ H Q
def tC (v:V):TE:=λ _ H Q=>Q v H
def n9 (hN:X.N[i]? = some x) (hv:tS X.env.scope x) (hd:(x == ("__debug__" : ZR))=false:=by decide) (hcd:(x == ("__classdict__" : ZR))=false:=by decide):PE X (.Name x pos) (qw i):=by
 intro g s σ H Q I h;obtain ⟨v,e,h⟩:=h;obtain ⟨m,d,j⟩:=I.loc;obtain ⟨u,r,l⟩:=j i x v hN e hv;have b:EP X g σ Q u s:=⟨v,H,I,r,h⟩
 rcases l with ⟨a,f⟩|⟨a,c,hc,hcell⟩
 ·exact wpAny_Name (wpAny_loadName_local I.ok.kind a d f b) hd
 ·rcases a with a|a
  ·exact wpAny_Name (wpAny_loadName_cell I.ok.kind a hc hcell b) hd
  ·exact wpAny_Name (wpAny_loadName_free I.ok.kind a hc hcell b hcd) hd
def ab {i j pos}:PE X (.Constant (.int i) j pos) (tC (.int i)):=λ _ _ _ H _ I h=>wpAny_Constant_int ⟨.int i,H,I.tok _,⟨_,rfl⟩,h⟩
def cG {b j pos}:PE X (.Constant (.bool b) j pos) (tC (.bl b)):=λ _ _ _ H _ I h=>Constant_bool ⟨.bl b,H,I,rfl,h⟩
def eF {j pos}:PE X (.Constant .none j pos) (tC .non):=λ _ _ _ H _ I h=>Constant_none ⟨.non,H,I,rfl,h⟩
def bf {x j pos}:PE X (.Constant (.str x) j pos) (tC (.str x)):=λ _ _ _ H _ I h=>Calls.Constant_str ⟨.str x,H,I.tok _,⟨_,rfl⟩,h⟩
def Gl (X:Cx) (x:ZR):Prop:=X.env.kindOf x=some .globalImplicit
def Ar (I:Inv X pins σ H s) (hg:Gl X x) (hm:X.mg x=some u) (h:Q u s)
  (hd:(x == ("__debug__" : ZR))=false:=by decide):X0 (P1 X.prog X.w) X.A (T4 (.Name x pos) X.env) Q E s:=
 j78 I.ok.kind hg (Calls.loadGlobal_global (by rw [I.ok.glob];exact I.mod.glob.keeps I.bk) hm h) hd
def cL (I:Inv X pins σ H s) (hg:Gl X x) (hm:X.mg x=none) (hv:K6 x=some u) (h:Q u s)
  (hn:x≠"__name__":=by decide) (hd:(x == ("__debug__" : ZR))=false:=by decide):X0 (P1 X.prog X.w) X.A (T4 (.Name x pos) X.env) Q E s:=by
 obtain ⟨c,b,a⟩:=I.mod.blt;exact j78 I.ok.kind hg (Calls.loadGlobal_builtin (by rw [I.ok.glob];exact I.mod.glob.keeps I.bk) hm (by rw [I.ok.blt];exact b.keeps I.bk) ((a x hn).trans hv) h) hd
def rE (hg:Gl X x) (hm:X.mg x=some u) (r:RelV v u) (hd:(x == ("__debug__" : ZR))=false:=by decide):PE X (.Name x pos) (tC v):=
 λ _ _ _ H _ I h=>Ar I hg hm ⟨v,H,I,r,h⟩ hd
def jB (hg:Gl X x) (hm:X.mg x=none) (hv:K6 x=some u) (r:RelV v u) (hn:x≠"__name__":=by decide) (hd:(x == ("__debug__" : ZR))=false:=by decide):PE X (.Name x pos) (tC v):=
 λ _ _ _ H _ I h=>cL I hg hm hv ⟨v,H,I,r,h⟩ hn hd
variable {a b:ZO} {tb:TE} 
def PC (X:Cx) (op:CmpOp) (a b:ZO) (t:TE):Prop:=
 ∀(pins:List (ZS×ZQ)) (s:I0) (σ:St) (H:Hp) (Q:VK),Inv X pins σ H s->t σ H Q->
  X0 (P1 X.prog X.w) X.A (T4 a X.env) (λ v s₁=>X0 (P1 X.prog X.w) X.A (T4 b X.env) (λ u s₂=>X0 (P1 X.prog X.w) X.A (O3 op v u) (EP X pins σ Q) X.xe s₂) X.xe s₁) X.xe s
def tB (t:TE):TT:=λ σ H Q=>t σ H λ x H1=>∃c,x=.bl c/\Q c H1
def gz {t:TE} (h:PC X op a b t) (h1:j2a op b=false:=by first|exact nobehind _ (by decide) (by decide)|rfl):PT X (.Compare a [op] [b] pos) (tB t):=by intro f s σ H Q I e;refine wpAny_isTrue_Compare1 (br (h f s σ H _ I e) λ v i h1=>br h1 λ u j g=>br g λ c k ⟨x,H1,I1,r1,q1⟩=>?_) h1;obtain ⟨d,rfl,q⟩:=q1;cases r1;exact T5 ⟨H1,I1,q⟩
def bz {t:TE} (h:PE X e t) (he :∀whole,isTrue e X.env whole=(do let v <-whole;standAt e.pos;holding [v] (truthy v)):=by intro _;rfl):PT X e (tB t):=by intro b s σ H Q I a;refine isTrue_plain (br (h b s σ H _ I a) λ v c ⟨x,H1,I1,r1,q1⟩=>?_) (he _);obtain ⟨d,rfl,q⟩:=q1;cases r1;exact T5 ⟨H1,I1,q⟩
variable {tA tB':TT} {rest:List ZO}
def se (t u:TT):TT:=λ σ H Q=>t σ H λ c H1=>if c=true then u σ H1 Q else Q false H1
def yD (t u:TT):TT:=λ σ H Q=>t σ H λ c H1=>if c=true then Q true H1 else u σ H1 Q
def rX (t:TT):TT:=λ σ H Q=>t σ H λ c H1=>Q (!c) H1
def nA (ha:PT X a tA):PW X (.BoolOp .And [a] pos) tA:=by
 intro f b s σ H Q I h;refine isTrue_and (br (ha b s σ H Q I h) λ c d e=>?_);cases c with
 | true=>exact isTrue_and_nil e
 | false=>exact e
def di (ha:PT X a tA):PW X (.BoolOp .Or [a] pos) tA:=by
 intro f b s σ H Q I h;refine isTrue_or (br (ha b s σ H Q I h) λ c d e=>?_);cases c with
 | false=>exact isTrue_or_nil e
 | true=>exact e
def eP (ha:PT X a tA) (hb:PW X (.BoolOp .And (b :: rest) pos) tB'):PW X (.BoolOp .And (a :: b :: rest) pos) (se tA tB'):=by
 intro f d s σ H Q I h;refine isTrue_and (br (ha d s σ H _ I h) λ c e ⟨H1,I1,q1⟩=>?_);cases c with
 | true=>exact hb f d e σ H1 Q I1 q1
 | false=>exact ⟨H1,I1,q1⟩
def dq (ha:PT X a tA) (hb:PW X (.BoolOp .Or (b :: rest) pos) tB'):PW X (.BoolOp .Or (a :: b :: rest) pos) (yD tA tB'):=by
 intro f d s σ H Q I h;refine isTrue_or (br (ha d s σ H _ I h) λ c e ⟨H1,I1,q1⟩=>?_);cases c with
 | true=>exact ⟨H1,I1,q1⟩
 | false=>exact hb f d e σ H1 Q I1 q1
def bE (ha:PT X a tA):PT X (.UnaryOp .Not a pos) (rX tA):=by intro b s σ H Q I h;exact isTrue_not (ha b s σ H (λ c d=>Q (!c) d) I h)
def rO (ta tb:TE):TE:=λ σ H Q=>ta σ H λ x H1=>∃c,x=.bl c/\if c=true then tb σ H1 Q else Q (.bl false) H1
def qP (ta:TE):TE:=λ σ H Q=>ta σ H λ x H1=>∃c,x=.bl c/\Q (.bl (!c)) H1
def dH {op} {t:TE} (h:PE X a t):PE X (.BoolOp op [a] pos) t:=λ c s σ H Q I b=>BoolOp_one (h c s σ H Q I b)
def cI (ha:PE X a ta) (hb:PE X (.BoolOp .And (b :: rest) pos) tb):PE X (.BoolOp .And (a :: b :: rest) pos) (rO ta tb):=by
 intro e s σ H Q I h;refine BoolOp_and (br (ha e s σ H _ I h) λ v f ⟨x,H1,I1,r1,d⟩=>?_);obtain ⟨c,rfl,d⟩:=d;cases r1;refine T5 ?_;cases c with
 | true=>exact hb e f σ H1 Q I1 d
 | false=>exact ⟨.bl false,H1,I1,rfl,d⟩
def oy (ha:PE X a ta):PE X (.UnaryOp .Not a pos) (qP ta):=by intro d s σ H Q I h;refine UnaryOp_ (br (ha d s σ H _ I h) λ v e ⟨x,H1,I1,r1,b⟩=>?_);obtain ⟨c,rfl,b⟩:=b;cases r1;exact not_of (T5 ⟨.bl (!c),H1,I1,rfl,b⟩)
end
def av (K:B0) (H:Hp) (a:ZS) (xs:List V):Prop:=
 Rd H a (.lst xs)\/
  ∃(o:ZQ) (its:Array ZH) (n:Nat),K.lookup a=some o/\o.cls=.type "list"/\o.dict=none/\o.data=.seq its n/\its.size<=ZG/\aD xs its.toList
def aG (K:B0) (H:Hp) (a:ZS) (xs:List V):Prop:=
 Rd H a (.tup xs)\/
  ∃(o:ZQ) (its:Array ZH) (n:Nat),K.lookup a=some o/\o.cls=.type "tuple"/\o.data=.seq its n/\its.size<=ZG/\aD xs its.toList
noncomputable def wb:ZH->Option V
 | .none=>some .non
 | .bool b=>some (.bl b)
 | .int i _=>some (.int i)
 | .str x _=>some (.str x)
 | .bytes b _=>some (.byt b)
 | .float b _=>some (.flt b)
 | .ref a=>some (.ref a)
 | .type n=>some (.ty n)
 | _=>none
def RelV.abs {x:V} (r:RelV x u):wb u=some x:=by
 cases x with
 | non=>cases r;rfl
 | bl _=>cases r;rfl
 | int _=>obtain ⟨t,rfl⟩:=r;rfl
 | str _=>obtain ⟨t,rfl⟩:=r;rfl
 | byt _=>obtain ⟨t,rfl⟩:=r;rfl
 | flt _=>obtain ⟨t,rfl⟩:=r;rfl
 | ref _=>cases r;rfl
 | ty _=>cases r;rfl
def RelV.inj {x y:V} (r:RelV x u) (q:RelV y u):x=y:=G1 (r.abs.symm.trans q.abs)
theorem aD.inj:∀{xs ys:List V} {us:List ZH},aD xs us->aD ys us->xs=ys
 | _,_,_,.nil,.nil=>rfl
 | _,_,_,.cons r t,.cons r' t'=>by rw [r.inj r',aD.inj t t']
variable {K:B0}
section
variable {ys:List V}
def av.of (h:H a=some (.lst xs)):av K H a xs:=.inl (.inl h)
def aG.of (h:H a=some (.tup xs)):aG K H a xs:=.inl (.inl h)
theorem Inv.list (I:Inv X pins σ H s) (h:av X.K H a xs) :∃its:List ZH,aD xs its/\PlainL s.heap a its.toArray/\xs.length<=ZG:=by
 rcases h with h|⟨o,its,n,hk,hc,hd,hs,hz,r⟩
 ·obtain ⟨z,its,n,r,e⟩:=h.ok I.hok;exact ⟨its,r,⟨_,n,e,rfl,rfl,rfl⟩,z⟩
 ·refine ⟨its.toList,r,⟨o,n,I.kIn a o hk,hc,hd,by simpa using hs⟩,?_⟩;have e:=r.length;simp only [B1] at e
  lia
theorem Inv.tuple (I:Inv X pins σ H s) (h:aG X.K H a xs) :∃its:List ZH,aD xs its/\IsTup s.heap a its.toArray/\xs.length<=ZG:=by
 rcases h with h|⟨o,its,n,hk,hc,hs,hz,r⟩
 ·obtain ⟨z,its,r,p⟩:=h.ok I.hok;exact ⟨its,r,p.1,z⟩
 ·refine ⟨its.toList,r,⟨o,I.kIn a o hk,hc,n,by simpa using hs⟩,?_⟩;have e:=r.length;simp only [B1] at e
  lia
def Inv.list_inj (I:Inv X pins σ H s) (h:av X.K H a xs) (h':av X.K H a ys):xs=ys:=by
 obtain ⟨g,r,⟨o,n,e,_,_,d⟩,_⟩:=I.list h;obtain ⟨i,f,⟨j,k,b,_,_,c⟩,_⟩:=I.list h';rw [e] at b;cases b;rw [d] at c;injection c with d1 _;have:g=i:=by simpa using congrArg Array.toList d1
 subst this;exact r.inj f
def Inv.tuple_inj (I:Inv X pins σ H s) (h:aG X.K H a xs) (h':aG X.K H a ys):xs=ys:=by
 obtain ⟨g,r,⟨o,e,_,n,d⟩,_⟩:=I.tuple h;obtain ⟨i,f,⟨j,b,_,k,c⟩,_⟩:=I.tuple h';rw [e] at b;cases b;rw [d] at c;injection c with d1 _;have:g=i:=by simpa using congrArg Array.toList d1
 subst this;exact r.inj f
end
noncomputable abbrev Cx.wish (X:Cx) (E:ZH->I0->Prop):Cx:={ X with xe:=E }
noncomputable abbrev Cx.nox (X:Cx):Cx:=X.wish λ _ _=>False
def Cx.Ok.wish (ok:X.Ok) (E:ZH->I0->Prop):(X.wish E).Ok:=
 ⟨ok.mod,ok.kind,ok.glob,ok.blt,ok.above,ok.inj,ok.has,ok.cab,ok.hd,ok.frames,ok.stk,ok.exf,ok.bs,ok.bsz,ok.noex,ok.exfs,ok.funs,ok.frf⟩
def Cx.Ok.unwish (ok:(X.wish E).Ok):X.Ok:=
 ⟨ok.mod,ok.kind,ok.glob,ok.blt,ok.above,ok.inj,ok.has,ok.cab,ok.hd,ok.frames,ok.stk,ok.exf,ok.bs,ok.bsz,ok.noex,ok.exfs,ok.funs,ok.frf⟩
variable {D:Ends}
section
def Inv.wish (I:Inv X pins σ H s) (E:ZH->I0->Prop):Inv (X.wish E) pins σ H s:=⟨I.ok.wish E,I.os,I.bare,I.base,I.loc,I.cell,I.free,I.freeC,I.pin,I.hok,I.len⟩
def Inv.unwish (I:Inv (X.wish E) pins σ H s):Inv X pins σ H s:=⟨I.ok.unwish,I.os,I.bare,I.base,I.loc,I.cell,I.free,I.freeC,I.pin,I.hok,I.len⟩
def SP.unwish {f:Flow} (h:SP (X.wish E) pins D f s'):SP X pins D f s':=by
 cases f with
 | next=>obtain ⟨a,b,I,q⟩:=h;exact ⟨a,b,I.unwish,q⟩
 | brk=>obtain ⟨a,b,I,q⟩:=h;exact ⟨a,b,I.unwish,q⟩
 | cont=>obtain ⟨a,b,I,q⟩:=h;exact ⟨a,b,I.unwish,q⟩
 | ret u=>obtain ⟨v,a,b,I,r,q⟩:=h;exact ⟨v,a,b,I.unwish,r,q⟩
def iU.nox {st:List ZM} {t:TS} (h:iU X.nox st t):iU X st t:=λ b s σ H D I a=>K5 (h b s σ H D (I.wish _) a) (λ _ _ q=>q.unwish) λ _ _ z=>X7 z
end
variable {c:ZO} {te:TE}
section
variable {st:ZM} {rest:List ZM} {t u:TS} 
def rS:TS:=λ D σ H=>D.nx σ H
def ir (t u:TS):TS:=λ D σ H=>t { D with nx:=u D } σ H
def dI:iU X [] rS:=λ _ _ σ H _ I h=>j3d ⟨σ,H,I,h⟩
def aR (h1:PS X st t) (h2:iU X rest u):iU X (st :: rest) (ir t u):=by
 intro a s σ H D I h;refine wpAny_execs_cons (br (h1 a s σ H { D with nx:=u D } I h) λ f b q=>?_);cases f with
 | next=>obtain ⟨d,e,c,q⟩:=q;exact h2 a b d e D c q
 | ret v=>exact q
 | brk=>exact q
 | cont=>exact q
def aV (h1:PS X st t):iU X [st] t:=by
 intro a s σ H D I h;refine wpAny_execs_cons (br (h1 a s σ H D I h) λ f b q=>?_);cases f with
 | next=>exact j3d q
 | ret v=>exact q
 | brk=>exact q
 | cont=>exact q
def Inv.quiet (I:Inv X pins σ H s):interactive X.env=false:=by simp [interactive,I.ok.kind]
def mr (te:TE):TS:=λ D σ H=>te σ H λ _ H1=>D.nx σ H1
def gv (he:PE X e te) (hs:swapsWith e none pos.line X.env=i5 false:=by rfl):PS X (.Expr e pos) (mr te):=by intro a s σ H D I h;exact wpAny_Expr_any (br (he a s σ H _ I h) λ v b ⟨x,H1,I1,r1,q1⟩=>⟨σ,H1,I1,q1⟩) I.quiet hs
def nP (te:TE):TS:=λ D σ H=>te σ H D.rt
def au (he:PE X e te):PS X (.Return (some e) pos) (nP te):=by intro a s σ H D I h;exact wpAny_Return_some (br (he a s σ H _ I h) λ v b ⟨x,H1,I1,r1,q1⟩=>⟨x,σ,H1,I1,r1,q1⟩)
def kY (c:TT) (t u:TS):TS:=λ D σ H=>c σ H λ b H1=>if b=true then t D σ H1 else u D σ H1
def aQ {a b:List ZM} {tc:TT} (hc:PT X c tc) (ha:iU X a t) (hb:iU X b u):PS X (.If c a b pos) (kY tc t u):=by
 intro e s σ H D I h;refine wpAny_If (br (hc e s σ H _ I h) λ d f ⟨H1,I1,q1⟩=>?_);cases d with
 | true=>exact ha e f σ H1 D I1 q1
 | false=>exact hb e f σ H1 D I1 q1
def nH:TS:=λ _ _ _=>False
def s_:PS X st nH:=λ _ _ _ _ _ _ h=>h.elim
end
noncomputable abbrev TG:=V->St->Hp->(St->Hp->Prop)->Prop
noncomputable abbrev oW:=List V->St->Hp->(St->Hp->Prop)->Prop
def PG (X:Cx) (target:ZO) (t:TG):Prop:=
 ∀(pins:List (ZS×ZQ)) (s:I0) (σ:St) (H:Hp) (v:V) (u:ZH) (Q:St->Hp->Prop),Inv X pins σ H s->RelV v u->t v σ H Q->
  X0 (P1 X.prog X.w) X.A (assign target X.env u) (λ _ s'=>∃σ' H',Inv X pins σ' H' s'/\Q σ' H') X.xe s
def tI (X:Cx) (ts:List ZO) (t:oW):Prop:=
 ∀(pins:List (ZS×ZQ)) (s:I0) (σ:St) (H:Hp) (vs:List V) (us:List ZH) (Q:St->Hp->Prop),Inv X pins σ H s->aD vs us->t vs σ H Q->
  X0 (P1 X.prog X.w) X.A (assignInOrder ((j3a ts X.env).map (·.2)) us) (λ _ s'=>∃σ' H',Inv X pins σ' H' s'/\Q σ' H') X.xe s
noncomputable abbrev nU:=V->V->V->Hp->(Hp->Prop)->Prop
def pT (X:Cx) (t:nU):Prop:=
 ∀(pins:List (ZS×ZQ)) (s:I0) (σ:St) (H:Hp) (o i v:V) (ov iv u:ZH) (Q:Hp->Prop),Inv X pins σ H s->RelV o ov->RelV i iv->RelV v u->t o i v H Q->
  X0 (P1 X.prog X.w) X.A (setItem ov iv u) (λ _ s'=>∃H',Inv X pins σ H' s'/\Q H') X.xe s
variable {body:List ZM} {es:List ZO} {n:Nat} {tb:TS} {tg:ZO}
section
def aI (i:Nat):TG:=λ v σ H Q=>Q (σ.set i (some v)) H
def cZ (hN:X.N.Nodup) (hi:X.N[i]? = some x) (hx:Loc X.env.scope x) (hf:X.fn x=true\/X.env.scope.names.lookup x=some .local:=by first|exact .inl rfl|exact .inr rfl|assumption):PG X (.Name x pos) (aI i):=by intro c s σ H v u Q I r h;exact wpAny_assign_Name (yG I hN hi hx r (λ b a=>⟨_,H,a,h⟩) hf)
noncomputable def hV:oW:=λ vs σ H Q=>vs=[]/\Q σ H
noncomputable def cg (t:TG) (u:oW):oW:=λ vs σ H Q=>∃v r,vs=v :: r/\t v σ H λ σ' H'=>u r σ' H' Q
def f_:tI X [] hV:=by intro b s σ H c a Q I r h;obtain ⟨e,h⟩:=h;subst e;cases r;exact assignInOrder_nil ⟨σ,H,I,h⟩
def cK {t:TG} {u:oW} (h1:PG X e t) (h2:tI X es u)
  (hs:(j3a (e :: es) X.env).map (·.2)=assign e X.env :: (j3a es X.env).map (·.2):=by rfl):tI X (e :: es) (cg t u):=by
 intro a s σ H g d Q I r h;obtain ⟨v,f,c,h⟩:=h;subst c;cases r with
 | cons r rr=>rw [hs];refine assignInOrder_cons (br (h1 a s σ H _ _ _ I r h) λ _ b ⟨σ1,H1,I1,q1⟩=>?_);exact h2 a b σ1 H1 _ _ Q I1 rr q1
def hX (K:B0) (n:Nat) (t:oW):TG:=λ v σ H Q=>∃a xs,v=.ref a/\aG K H a xs/\xs.length=n/\t xs σ H Q
def bx {k:Nat} {t:oW} (hc:X.calm=true) (h:tI X es t)
  (hn:(j3a es X.env).length=n:=by rfl) (hst:(j3a es X.env).findIdx? (·.1)=none:=by rfl):PG X (.Tuple es k pos) (hX X.K n t):=by
 intro d s σ H v u Q I r c;obtain ⟨a,w,i,m,q,c⟩:=c;subst i;cases r;obtain ⟨x,f,j,y⟩:=I.tuple m;refine assign_Tuple_tuple (I.ok.hd hc) j (by simp [hn,<-q,f.length]) hst λ p l=>?_;have g:Inv X d σ H { s with heap:=p }:=I.kept (t':=s.toks) λ b o e=>l b o (K1 (T0 e)) e;exact h d _ σ H w _ Q g (by simpa using f) c
def vO (to ti:TE) (t:nU):TG:=λ v σ H Q=>to σ H λ o H1=>ti σ H1 λ i H2=>t o i v H2 λ H3=>Q σ H3
def gC {o i:ZO} {to ti:TE} {t:nU} (ho:PE X o to) (hi:PE X i ti) (hs:pT X t)
  (ha :∀v,assign (.Subscript o i pos) X.env v=(do
   let ov <-holding [v] (T4 o X.env)
   let iv <-holding [v,ov] (T4 i X.env)
   standAt pos
   holding [v,ov,iv] (setItem ov iv v)
   release [v,ov,iv] []):=by intro _;rfl):PG X (.Subscript o i pos) (vO to ti t):=by
 intro a s σ H v u Q I r h;rw [ha];refine o0 (F3 (br (ho a s σ H _ I h) λ ov b ⟨x,H1,I1,r1,q1⟩=>?_));refine o0 (F3 (br (hi a b σ H1 _ I1 q1) λ iv c ⟨y,H2,I2,r2,q2⟩=>?_));refine o0 (wpAny_standAt (o0 (F3 (br (hs a c σ H2 x y v ov iv u _ I2 r1 r2 r q2) λ _ d ⟨H3,I3,q3⟩=>?_))));exact wpAny_release ⟨σ,H3,I3,q3⟩
def jz (te:TE) (g:TG):TS:=λ D σ H=>te σ H λ x H1=>g x σ H1 D.nx
def fH {g:TG} (he:PE X e te) (hg:PG X tg g) (hs:swapsWithSole [tg] e pos.line X.env=i5 false:=by rfl) (hw:swappedStores [tg] e X.env=i5 none:=by rfl)
  (h1:(j3a [tg] X.env).map (·.2)=[assign tg X.env]:=by rfl):PS X (.Assign [tg] e pos) (jz te g):=by
 intro a s σ H D I h;refine wpAny_Assign_stores (br (he a s σ H _ I h) λ v b ⟨x,H1,I1,r1,q1⟩=>?_) hs hw;rw [h1];exact br (hg a b σ H1 x v _ I1 r1 q1) λ _ c q=>q
def ar {pos':ZP} (hN:X.N.Nodup) (hi:X.N[i]? = some x) (hx:Loc X.env.scope x) (he:PE X e te) (hs:swapsWith e (some (.Name x pos')) pos.line X.env=i5 false:=by rfl) (hf:X.fn x=true\/X.env.scope.names.lookup x=some .local:=by first|exact .inl rfl|exact .inr rfl|assumption) :
  PS X (.Assign [.Name x pos'] e pos) (jz te (aI i)):=by
 intro b s σ H D I h;refine wpAny_Assign_Name (br (he b s σ H _ I h) λ v c ⟨y,H1,I1,r1,q1⟩=>?_) hs;exact yG I1 hN hi hx r1 (λ d a=>⟨_,H1,a,q1⟩) hf
def mO (c:TT) (tb:TS):TS:=λ D σ H=>∃W:Nat->St->Hp->Prop,(∃m,W m σ H)/\∀m σ H,W m σ H->
 c σ H λ b H1=>if b=true then∃N:St->Hp->Prop,(∀σ' H',N σ' H'->∃m',m' < m/\W m' σ' H')/\tb { D with nx:=N,ct:=N,bk:=D.nx } σ H1 else D.nx σ H1
def uU {tc:TT} (hp:PassesOwn (P1 X.prog X.w) X.A X.env X.xe) (hc:PT X c tc) (hb:iU X body tb):PS X (.While c body [] pos) (mO tc tb):=by
 intro i s σ H D I h;obtain ⟨W,⟨q,u⟩,x⟩:=h;refine wpAny_While (codeAny_whileLoop (λ n y=>∃σ' H',Inv X i σ' H' y/\W n σ' H') ?_ q ⟨σ,H,I,u⟩);rintro n t ⟨σ1,H1,I1,w1⟩;refine W7 hp (br (hc i t σ1 H1 _ I1 (x n σ1 H1 w1)) λ b r ⟨H2,I2,e⟩=>?_);cases b with
 | true=>
  obtain ⟨N,p,e⟩:=e;rw [if_pos rfl];refine W7 hp (br (hb i r σ1 H2 _ I2 e) λ f z g=>?_);cases f with
  | next=>obtain ⟨a,d,l,o⟩:=g;obtain ⟨k,j,m⟩:=p a d o;exact ⟨k,j,a,d,l,m⟩
  | cont=>obtain ⟨a,d,l,o⟩:=g;obtain ⟨k,j,m⟩:=p a d o;exact ⟨k,j,a,d,l,m⟩
  | brk=>exact g
  | ret v=>exact g
 | false=>rw [if_neg R1];exact j3d ⟨σ1,H2,I2,e⟩
end
structure It where
 go:Nat->Hp->Prop
 yld:Nat->Hp->V->Hp->Prop
 stop:Nat->Hp->Prop
def gb (X:Cx) (pins:List (ZS×ZQ)) (H:Hp) (b:ZS):Prop:=
 H b=none/\b≠X.env.locals/\b∉X.fs/\(b∈X.ex\/X.s₀.heap.objs.size<=b)/\(∀x c,X.env.cells.lookup x=some c->c≠b)/\∀p∈X.pn++pins,p.1≠b
def Inv.fpOk (I:Inv X pins σ H s) (hb:s.heap.objs.size<=b) (hn:H' b=none):gb X pins H' b:=by
 refine ⟨hn,J3 (i3 I.lt hb),I.nofs hb,.inr (M0 I.sz hb),λ x c e z=>?_,λ p a z=>?_⟩
 ·obtain ⟨v,q⟩:=I.cell x c e;exact absurd (i3 q.lt (by rw [z];exact hb)) (N5 _)
 ·exact absurd (i3 (T0 (I.pin p a).1) (by rw [z];exact hb)) (N5 _)
structure Turn (P:ZK) (w:U1) (K:B0) (tg:ZO) (J:It) (fp:List ZS) (it:ZS) (tn:Nat->ZN->Prop):Prop where
 mem:it∈fp
 obj :∀i h,tn i h->∀b∈fp,∃o,h.get? b=some o/\∀v,o.data≠.cell v
 keep :∀i h h',tn i h->(∀b∈fp,∀o,h.get? b=some o->h'.get? b=some o)->tn i h'
 item :∀(X:Cx),X.prog=P->X.w=w->X.K=K->X.calm=true->∀(i:Nat) (pins:List (ZS×ZQ)) (s:I0) (σ:St) (H:Hp) (E:ZH->I0->Prop),Inv X pins σ H s->(∀b∈fp,gb X pins H b)->tn i s.heap->J.go i H->
  X0 (P1 P w) X.A (P7 (.ref it)) (λ r s1=>∃u,r=some u/\
   X0 (P1 P w) X.A (j3e tg (.ref it) u) (λ _ s2=>∃x H',Inv X pins σ H' s2/\RelV x u/\J.yld i H x H'/\tn (i + 1) s2.heap/\∀b∈fp,H' b=none) E s1) E s
 done :∀(X:Cx),X.prog=P->X.w=w->X.K=K->X.calm=true->∀(i:Nat) (pins:List (ZS×ZQ)) (s:I0) (σ:St) (H:Hp) (E:ZH->I0->Prop),Inv X pins σ H s->(∀b∈fp,gb X pins H b)->tn i s.heap->J.stop i H->
  X0 (P1 P w) X.A (P7 (.ref it)) (λ r s1=>r=none/\Inv X pins σ H s1) E s
 self :∀(A:P2) (i:Nat) (s:I0) (Q:ZH->I0->Prop) (E:ZH->I0->Prop),tn i s.heap->Q (.ref it) s->X0 (P1 P w) A (j60 (.ref it)) Q E s
noncomputable abbrev TI:=St->Hp->(It->Hp->Prop)->Prop
def BI (X:Cx) (pins:List (ZS×ZQ)) (σ:St) (tg:ZO) (R:It->Hp->Prop) (itv:ZH) (s2:I0):Prop:=
 ∃(it:ZS) (fp:List ZS) (tn:Nat->ZN->Prop) (J:It) (H':Hp),itv=.ref it/\Inv X pins σ H' s2/\Turn X.prog X.w X.K tg J fp it tn/\tn 0 s2.heap/\(∀b∈fp,gb X pins H' b)/\R J H'
def PI (X:Cx) (tg iter:ZO) (wi:TI):Prop:=
 ∀(pins:List (ZS×ZQ)) (s:I0) (σ:St) (H:Hp) (R:It->Hp->Prop),Inv X pins σ H s->wi σ H R->
  X0 (P1 X.prog X.w) X.A (T4 iter X.env) (λ v s1=>X0 (P1 X.prog X.w) X.A (j60 v) (BI X pins σ tg R) X.xe s1) X.xe s
def ic {it:ZS} {o:ZQ} {n:String} {vs:Array ZH} {Q:Unit->I0->Prop} (ho:s.heap.get? it=some o) (hc:o.cls=.type n) (hd:o.data=.fields vs)
    (hn:["enumerate","zip","dict_itemiterator","dict_reverseitemiterator","odict_iterator","itertools.zip_longest","itertools.pairwise"].contains n=false) (hQ:Q () s):X0 M A (j3e tg (.ref it) u) Q E s:=by
  unfold j3e;cases tg<;>first
    | exact A0 hQ
    | (cases u<;>first
        | exact A0 hQ
        | (refine o0 (j9b ho ?_)
           rw [hc,hd];show X0 M A (if (["enumerate","zip","dict_itemiterator","dict_reverseitemiterator","odict_iterator","itertools.zip_longest","itertools.pairwise"].contains n && vs[0]? == some (F6 _))=true then _ else _) Q E s;rw [if_neg (by intro h;rw [hn,Bool.false_and] at h;cases h)];exact A0 hQ))
noncomputable def mw (K:B0) (a:ZS):It:=
 ⟨λ i H=>∃xs x,av K H a xs/\xs[i]? = some x,λ i H x H'=>H'=H/\∀xs,av K H a xs->xs[i]? = some x,λ i H=>∃xs,av K H a xs/\xs.length<=i⟩
noncomputable def pE (K:B0) (a:ZS):It:=
 ⟨λ i H=>∃xs x,aG K H a xs/\xs[i]? = some x,λ i H x H'=>H'=H/\∀xs,aG K H a xs->xs[i]? = some x,λ i H=>∃xs,aG K H a xs/\xs.length<=i⟩
noncomputable def nJ (lo:Int) (n:Nat):It:=⟨λ i _=>i < n,λ i H x H'=>H'=H/\x=.int (lo + i),λ i _=>n<=i⟩
theorem Ji (a it:ZS):Turn P w K tg (mw K a) [it] it (λ i h=>h.IsListIter it a i) where
 mem:=by simp
 obj:=λ i h f b g=>by
  have e:b=it:=by simpa using g
  subst e;obtain ⟨o,e,c,d⟩:=f;exact ⟨o,e,λ v z=>by rw [d] at z;cases z⟩
 keep:=λ i h m f k=>f.at λ o e=>k it (by simp) o e
 item:=by intro X D B n M i L s σ H E I l f r;subst D B n;obtain ⟨Y,x,j,A⟩:=r;obtain ⟨O,F,p,U⟩:=I.list j;obtain ⟨u,T,N⟩:=F.get A;obtain ⟨t,G,V,y,C,q⟩:=l it (by simp);refine C9 f p.isList (x:=u) (by simpa using T) λ m J W=>?_;have Q:Inv X L σ H { s with heap:=m }:=I.turned (t':=s.toks) (λ b o g e=>(W.2 b g).trans e) t G y C q;obtain ⟨o,e,c,d⟩:=id J;exact ⟨u,rfl,ic (s:={ s with heap:=m }) e c d (by decide) ⟨x,H,Q,N,⟨rfl,λ Z R=>by rw [I.list_inj R j];exact A⟩,J,λ b g=>(l b g).1⟩⟩
 done:=by intro X D B n M i L s σ H E I l f r;subst D B n;obtain ⟨Y,j,A⟩:=r;obtain ⟨O,F,p,U⟩:=I.list j;obtain ⟨t,G,V,y,C,q⟩:=l it (by simp);have hl:=F.length;exact T9 (I.ok.hd M) f p.isList (by simp;lia) λ m S=>⟨rfl,I.turned (t':=s.toks) (λ b o g e=>S b o g e) t G y C q⟩
 self:=λ _ _ _ _ _ f h=>wpAny_pyIter_listiter f h
theorem Kz (a it:ZS):Turn P w K tg (pE K a) [it] it (λ i h=>h.IsTupleIter it a i) where
 mem:=by simp
 obj:=λ i h f b g=>by
  have e:b=it:=by simpa using g
  subst e;obtain ⟨o,e,c,d⟩:=f;exact ⟨o,e,λ v z=>by rw [d] at z;cases z⟩
 keep:=λ i h m f k=>f.at λ o e=>k it (by simp) o e
 item:=by intro X F C n N i M s σ H E I l f t;subst F C n;obtain ⟨Y,x,j,B⟩:=t;obtain ⟨q,G,p,U⟩:=I.tuple j;obtain ⟨u,T,O⟩:=G.get B;obtain ⟨y,J,V,A,D,r⟩:=l it (by simp);refine wpAny_pyNext_tuple_item f (show s.heap.IsTuple a q.toArray from p) (x:=u) (by simpa using T) λ m L W=>?_;have Q:Inv X M σ H { s with heap:=m }:=I.turned (t':=s.toks) (λ b o g e=>(W.2 b g).trans e) y J A D r;obtain ⟨o,e,c,d⟩:=id L;exact ⟨u,rfl,ic (s:={ s with heap:=m }) e c d (by decide) ⟨x,H,Q,O,⟨rfl,λ Z R=>by rw [I.tuple_inj R j];exact B⟩,L,λ b g=>(l b g).1⟩⟩
 done:=by intro X F C n N i M s σ H E I l f t;subst F C n;obtain ⟨Y,j,B⟩:=t;obtain ⟨q,G,p,U⟩:=I.tuple j;obtain ⟨y,J,V,A,D,r⟩:=l it (by simp);have hl:=G.length;exact wpAny_pyNext_tuple_end (I.ok.hd N) f (show s.heap.IsTuple a q.toArray from p) (by simp;lia) λ m S=>⟨rfl,I.turned (t':=s.toks) (λ b o g e=>S b o g e) y J A D r⟩
 self:=λ _ _ _ _ _ f h=>wpAny_pyIter_tupleiter f h
theorem KD (it:ZS) (lo:Int) (n:Nat):Turn P w K tg (nJ lo n) [it] it (λ i h=>IsRangeIter h it (lo + (i:Nat) * 1) ((n:Int) - (i:Nat)) 1) where
 mem:=by simp
 obj:=λ i h a b c=>by
  have e:b=it:=by simpa using c
  subst e;exact ⟨_,a,λ v z=>by have L:j1c _=j07 v:=z;cases L⟩
 keep:=λ i h f a k=>k it (by simp) _ a
 item:=by intro X x r g q i B s σ H E I d a l;subst x r g;obtain ⟨m,y,J,p,u,j⟩:=d it (by simp);have W:=Walks.range (prog:=X.prog) (w:=X.w) (I.ok.hd q) it lo 1 n;refine W.item i s _ _ l a λ v f tk C A D=>?_;obtain ⟨t,rfl⟩:=C;have F:Inv X B σ H { s with heap:=f,toks:=tk }:=I.turned (λ b o c e=>D b o (by simpa using c) e) m y p u j;refine ⟨_,rfl,ic (s:={ s with heap:=f,toks:=tk }) (n:="range_iterator") A rfl rfl (by decide) ⟨.int (lo + i),H,F,⟨t,?_⟩,⟨rfl,rfl⟩,A,λ b c=>(d b c).1⟩⟩;rw [Int.mul_one]
 done:=by intro X x r g q i B s σ H E I d a l;subst x r g;obtain ⟨m,y,J,p,u,j⟩:=d it (by simp);exact wpAny_pyNext_range_end (I.ok.hd q) a (by have:n<=i:=l;lia) λ f G=>⟨rfl,I.turned (t':=s.toks) (λ b o c e=>G b o c e) m y p u j⟩
 self:=λ _ _ _ _ _ a h=>wpAny_pyIter_rangeiter a h
variable {fp:List ZS} {p:ZP}
section
def h_ (K:B0) (tl:TE):TI:=λ σ H R=>tl σ H λ x H1=>∃a,x=.ref a/\(∃xs,av K H1 a xs)/\R (mw K a) H1
def qL (K:B0) (tl:TE):TI:=λ σ H R=>tl σ H λ x H1=>∃a,x=.ref a/\(∃xs,aG K H1 a xs)/\R (pE K a) H1
def fZ {l:ZO} {tl:TE} (hl:PE X l tl):PI X tg l (h_ X.K tl):=by
 intro d s σ H R I h;refine br (hl d s σ H _ I h) λ v c ⟨x,H1,I1,r1,q1⟩=>?_;obtain ⟨a,e,⟨m,g⟩,q⟩:=q1;subst e;cases r1;obtain ⟨i,k,p,j⟩:=I1.list g;refine c8 p.isList ?_;refine ⟨c.heap.objs.size,[c.heap.objs.size],_,_,H1,rfl,I1.kept (t':=c.toks) λ b o e=>G0 _ e,Ji a _,⟨_,U0 _ rfl,rfl,rfl⟩,λ b f=>?_,q⟩;have e:b=c.heap.objs.size:=by simpa using f
 subst e;exact I1.fpOk (L0 _) (I1.hok.fresh (L0 _))
def fR {l:ZO} {tl:TE} (hl:PE X l tl):PI X tg l (qL X.K tl):=by
 intro d s σ H R I h;refine br (hl d s σ H _ I h) λ v c ⟨x,H1,I1,r1,q1⟩=>?_;obtain ⟨a,e,⟨m,i⟩,q⟩:=q1;subst e;cases r1;obtain ⟨g,k,p,j⟩:=I1.tuple i;refine r9 (show c.heap.IsTuple a g.toArray from p) ?_;refine ⟨c.heap.objs.size,[c.heap.objs.size],_,_,H1,rfl,I1.kept (t':=c.toks) λ b o e=>G0 _ e,Kz a _,⟨_,U0 _ rfl,rfl,rfl⟩,λ b f=>?_,q⟩;have e:b=c.heap.objs.size:=by simpa using f
 subst e;exact I1.fpOk (L0 _) (I1.hok.fresh (L0 _))
theorem FE {R:It->Hp->Prop} {lo hi:Int} {t u v:Tok} {tk:Nat} (I:Inv X pins σ H s) (h1:-(2 ^ 62)<=lo) (h2:lo < 2 ^ 62) (h3:-(2 ^ 62)<=hi) (h4:hi < 2 ^ 62)
  (q:R (nJ lo (hi - lo).toNat) H):X0 (P1 X.prog X.w) X.A (j60 (.ref s.heap.objs.size)) (BI X pins σ tg R) E { s with heap:=s.heap.push { cls:=.type "range",data:=.fields #[.int lo t,.int hi u,.int 1 v] },toks:=tk }:=by
 refine wpAny_pyIter_range (IsRange.new ..) (small_one h1 h2 h3 h4) ?_;have a:Inv X pins σ H { s with heap:=s.heap.push { cls:=.type "range",data:=.fields #[.int lo t,.int hi u,.int 1 v] },toks:=tk }:=I.kept λ b o e=>G0 _ e;refine ⟨(s.heap.push { cls:=.type "range",data:=.fields #[.int lo t,.int hi u,.int 1 v] }).objs.size,[(s.heap.push { cls:=.type "range",data:=.fields #[.int lo t,.int hi u,.int 1 v] }).objs.size],_,_,H,rfl,
  a.kept (t':=tk) λ b o e=>G0 _ e,KD _ lo (hi - lo).toNat,?_,λ b d=>?_,q⟩
 ·have f:lo + ((0:Nat):Int) * 1=lo:=by simp
  have c:(((hi - lo).toNat:Nat):Int) - ((0:Nat):Int)=j52 lo hi 1:=by rw [rangeSize_one];split<;>lia
  show IsRangeIter _ _ (lo + ((0:Nat):Int) * 1) ((((hi - lo).toNat:Nat):Int) - ((0:Nat):Int)) 1;rw [f,c];exact U0 _ rfl
 ·have e:b=(s.heap.push { cls:=.type "range",data:=.fields #[.int lo t,.int hi u,.int 1 v] }).objs.size:=by simpa using d
  subst e;exact a.fpOk (L0 _) (a.hok.fresh (L0 _))
def j_ (ta:TA):TI:=λ σ H R=>ta σ H λ vs H1=>∃j:Int,vs=[.int j]/\-(2 ^ 62)<=j/\j < 2 ^ 62/\R (nJ 0 j.toNat) H1
theorem kX {a:ZO} {ta:TA} (hg:Gl X "range") (hm:X.mg "range" = none) (ha:PA X [a] ta) (hs:A2 [a] X.env=[(false,T4 a X.env)]:=by rfl):PI X tg (.Call (.Name "range" p) [a] [] pos) (j_ ta):=by
 intro c s σ H R I h;refine Call_ (cL I hg hm boot_range (K3 (br (ha pos c s σ H _ I h) λ g f ⟨vs,H1,I1,r1,b⟩=>?_) hs rfl));obtain ⟨j,e,b,d,q⟩:=b;subst e;cases r1 with
 | cons r rr=>cases rr;obtain ⟨t,rfl⟩:=r;exact call_range_1 (FE I1 (by lia) (by lia) b d (by simpa using q))
def vP (wi:TI) (g:TG) (tb:TS):TS:=λ D σ H=>wi σ H λ J H1=>∃W:Nat->Nat->St->Hp->Prop,(∃m,W 0 m σ H1)/\∀i m σ H,W i m σ H->
 (J.stop i H/\D.nx σ H)\/(J.go i H/\∃N:St->Hp->Prop,(∀σ' H',N σ' H'->∃m',m' < m/\W (i + 1) m' σ' H')/\∀x H',J.yld i H x H'->g x σ H' λ σ2 H2=>tb { D with nx:=N,ct:=N,bk:=D.nx } σ2 H2)
noncomputable def dR (fp:List ZS) (h:ZN):List (ZS×ZQ):=fp.filterMap λ b=>(h.get? b).map λ o=>(b,o)
def sW {o:ZQ} (hb:b∈fp) (e:h.get? b=some o):(b,o)∈dR fp h:=List.mem_filterMap.mpr ⟨b,hb,by rw [e];rfl⟩
def BW {p:ZS×ZQ} (hp:p∈dR fp h):p.1∈fp/\h.get? p.1=some p.2:=by
 obtain ⟨b,a,e⟩:=List.mem_filterMap.mp hp;cases q:h.get? b with
 | none=>rw [q] at e;cases e
 | some o=>rw [q] at e;have c:(b,o)=p:=G1 e;subst c;exact ⟨a,q⟩
def Inv.pinned (I:Inv X pins σ H s) (hf :∀b∈fp,gb X pins H b) (ho :∀b∈fp,∃o,s.heap.get? b=some o/\∀v,o.data≠.cell v):Inv X (pins++dR fp s.heap) σ H s:=
 I.pins_of λ p f=>(List.mem_append.mp f).elim (λ z=>I.pin p (C2 _ z)) λ z=>by obtain ⟨c,e⟩:=BW z;obtain ⟨g,i,h,_⟩:=hf p.1 c;obtain ⟨o,a,d⟩:=ho p.1 c;rw [e] at a;cases a;exact ⟨e,g,i,h,d⟩
def Inv.unpinned {pl:List (ZS×ZQ)} (I:Inv X (pins++pl) σ H s):Inv X pins σ H s:=I.pins_of λ p a=>I.pin p (C2 _ (b8 _ a))
def aW {iter:ZO} {wi:TI} {g:TG} (hp:PassesOwn (P1 X.prog X.w) X.A X.env X.xe) (hc:X.calm=true) (hi:PI X tg iter wi) (hg:PG X tg g) (hb:iU X body tb)
  (hs :∀x,G9 iter X.env x=i5 x:=by intro _;rfl):PS X (.For tg iter body [] pos) (vP wi g tb):=by
 intro l s σ H D I h;refine wpAny_For (br (hi l s σ H _ I h) λ v s1 h1=>br h1 λ a2 s2 h2=>?_) hs;obtain ⟨it,p,B,J,R,e,I2,T,S,C,W,⟨M,w0⟩,a1⟩:=h2;subst e
 -- what stays true of the iterator's objects through the loop
 have t :∀{H':Hp},(∀b∈p,H' b=none)->∀b∈p,gb X l H' b:=λ O b hb=>⟨O b hb,(C b hb).2⟩
 refine codeAny_forLoop_any (λ n E=>∃i σ' H',Inv X l σ' H' E/\B i E.heap/\(∀b∈p,H' b=none)/\W i n σ' H') ?_ M ⟨0,σ,R,I2,S,λ b hb=>(C b hb).1,w0⟩;rintro n z ⟨i,σ3,H3,I3,st3,fr3,w3⟩;rcases a1 i n σ3 H3 w3 with ⟨a0,K⟩|⟨go,N,hN,step⟩
 ·refine W7 hp (br (T.done X rfl rfl rfl hc i l z σ3 H3 X.xe I3 (t fr3) st3 a0) λ r P ⟨hr,I4⟩=>?_);subst hr;exact j3d ⟨σ3,H3,I4,K⟩
 ·refine W7 hp (br (T.item X rfl rfl rfl hc i l z σ3 H3 X.xe I3 (t fr3) st3 go) λ r P ⟨u,hr,h4⟩=>?_);subst hr;refine W7 hp (br h4 λ _ G ⟨x,H5,I5,r5,y5,st5,fr5⟩=>?_);have U:=I5.pinned (t fr5) (T.obj _ _ st5);refine W7 hp (br (hg _ G σ3 H5 x u _ U r5 (step x H5 y5)) λ _ s6 ⟨σ6,H6,I6,q6⟩=>?_);refine W7 hp (br (hb _ s6 σ6 H6 _ I6 q6) λ f y k=>?_);have F :∀{c:St} {a:Hp},Inv X (l++dR p G.heap) c a y->N c a->∃m,m < n/\∃i σ' H',Inv X l σ' H' y/\B i y.heap/\(∀b∈p,H' b=none)/\W i m σ' H':=λ {c a} j q=>by obtain ⟨Y,Q,V⟩:=hN c a q;refine ⟨Y,Q,i + 1,c,a,j.unpinned,T.keep _ _ _ st5 λ b hb o e=>(j.pin (b,o) (C2 _ (C2 _ (sW hb e)))).1,λ b hb=>?_,V⟩;obtain ⟨o,e,d⟩:=T.obj _ _ st5 b hb;exact (j.pin (b,o) (C2 _ (C2 _ (sW hb e)))).2.1
  cases f with
  | next=>obtain ⟨c,a,j,q⟩:=k;exact F j q
  | cont=>obtain ⟨c,a,j,q⟩:=k;exact F j q
  | brk=>obtain ⟨c,a,j,k⟩:=k;exact ⟨c,a,j.unpinned,k⟩
  | ret v=>obtain ⟨Z,c,a,j,L,k⟩:=k;exact ⟨Z,c,a,j.unpinned,L,k⟩
end
theorem oo {g:TG} (Pv:Nat->St->Hp->Prop) (h0:Pv 0 σ H) (hl :∀i σ H,i<=xs.length->Pv i σ H->av K H a xs)
  (hs :∀i x σ H,xs[i]? = some x->Pv i σ H->g x σ H λ σ2 H2=>tb { D with nx:=Pv (i + 1),ct:=Pv (i + 1),bk:=D.nx } σ2 H2) (hd :∀σ H,Pv xs.length σ H->D.nx σ H) :
  ∃W:Nat->Nat->St->Hp->Prop,(∃m,W 0 m σ H)/\∀i m σ H,W i m σ H->
   ((mw K a).stop i H/\D.nx σ H)\/((mw K a).go i H/\∃N:St->Hp->Prop,(∀σ' H',N σ' H'->∃m',m' < m/\W (i + 1) m' σ' H')/\∀x H',(mw K a).yld i H x H'->g x σ H' λ σ2 H2=>tb { D with nx:=N,ct:=N,bk:=D.nx } σ2 H2):=by
 refine ⟨λ i m σ H=>m=xs.length - i/\i<=xs.length/\Pv i σ H,⟨xs.length,by simp,K2 _,h0⟩,?_⟩;rintro i m σ H ⟨rfl,hi,p⟩;have q:=hl i σ H hi p;by_cases hlt:i < xs.length
 ·refine .inr ⟨⟨xs,xs[i],q,by simp [hlt]⟩,Pv (i + 1),λ σ' H' b=>⟨xs.length - (i + 1),by lia,rfl,hlt,b⟩,λ x H' y=>?_⟩;obtain ⟨e,y⟩:=y;subst e;exact hs i x σ _ (y xs q) p
 ·have e:i=xs.length:=by lia
  subst e;exact .inl ⟨⟨xs,q,L0 _⟩,hd σ H p⟩
theorem tJ {g:TG} (Pv:Nat->St->Hp->Prop) (h0:Pv 0 σ H) (hl :∀i σ H,i<=xs.length->Pv i σ H->aG K H a xs)
  (hs :∀i x σ H,xs[i]? = some x->Pv i σ H->g x σ H λ σ2 H2=>tb { D with nx:=Pv (i + 1),ct:=Pv (i + 1),bk:=D.nx } σ2 H2) (hd :∀σ H,Pv xs.length σ H->D.nx σ H) :
  ∃W:Nat->Nat->St->Hp->Prop,(∃m,W 0 m σ H)/\∀i m σ H,W i m σ H->
   ((pE K a).stop i H/\D.nx σ H)\/((pE K a).go i H/\∃N:St->Hp->Prop,(∀σ' H',N σ' H'->∃m',m' < m/\W (i + 1) m' σ' H')/\∀x H',(pE K a).yld i H x H'->g x σ H' λ σ2 H2=>tb { D with nx:=N,ct:=N,bk:=D.nx } σ2 H2):=by
 refine ⟨λ i m σ H=>m=xs.length - i/\i<=xs.length/\Pv i σ H,⟨xs.length,by simp,K2 _,h0⟩,?_⟩;rintro i m σ H ⟨rfl,hi,p⟩;have q:=hl i σ H hi p;by_cases hlt:i < xs.length
 ·refine .inr ⟨⟨xs,xs[i],q,by simp [hlt]⟩,Pv (i + 1),λ σ' H' b=>⟨xs.length - (i + 1),by lia,rfl,hlt,b⟩,λ x H' y=>?_⟩;obtain ⟨e,y⟩:=y;subst e;exact hs i x σ _ (y xs q) p
 ·have e:i=xs.length:=by lia
  subst e;exact .inl ⟨⟨xs,q,L0 _⟩,hd σ H p⟩
theorem pH {lo:Int} {g:TG} (Pv:Nat->St->Hp->Prop) (h0:Pv 0 σ H)
  (hs :∀i σ H,i < n->Pv i σ H->g (.int (lo + i)) σ H λ σ2 H2=>tb { D with nx:=Pv (i + 1),ct:=Pv (i + 1),bk:=D.nx } σ2 H2) (hd :∀σ H,Pv n σ H->D.nx σ H) :
  ∃W:Nat->Nat->St->Hp->Prop,(∃m,W 0 m σ H)/\∀i m σ H,W i m σ H->
   ((nJ lo n).stop i H/\D.nx σ H)\/((nJ lo n).go i H/\∃N:St->Hp->Prop,(∀σ' H',N σ' H'->∃m',m' < m/\W (i + 1) m' σ' H')/\∀x H',(nJ lo n).yld i H x H'->g x σ H' λ σ2 H2=>tb { D with nx:=N,ct:=N,bk:=D.nx } σ2 H2):=by
 refine ⟨λ i m σ H=>m=n - i/\i<=n/\Pv i σ H,⟨n,by simp,K2 _,h0⟩,?_⟩;rintro i m σ H ⟨rfl,hi,p⟩;by_cases hlt:i < n
 ·refine .inr ⟨hlt,Pv (i + 1),λ σ' H' a=>⟨n - (i + 1),by lia,rfl,hlt,a⟩,λ x H' y=>?_⟩;obtain ⟨e,y⟩:=y;subst e y;exact hs i σ _ hlt p
 ·have e:i=n:=by lia
  subst e;exact .inl ⟨L0 _,hd σ H p⟩
noncomputable abbrev R2:=V->V->Hp->VK->Prop
def c_ (X:Cx) (f:ZH->ZH->Sem ZH) (r:R2):Prop:=
 ∀(pins:List (ZS×ZQ)) (s:I0) (σ:St) (H:Hp) (x y:V) (v u:ZH) (Q:VK),Inv X pins σ H s->RelV x v->RelV y u->r x y H Q->
  X0 (P1 X.prog X.w) X.A (f v u) (EP X pins σ Q) X.xe s
def uM (X:Cx) (f:ZH->Sem ZH) (r:V->Hp->VK->Prop):Prop:=
 ∀(pins:List (ZS×ZQ)) (s:I0) (σ:St) (H:Hp) (x:V) (v:ZH) (Q:VK),Inv X pins σ H s->RelV x v->r x H Q->
  X0 (P1 X.prog X.w) X.A (f v) (EP X pins σ Q) X.xe s
def cv (X:Cx) (f:ZH) (r:List V->Hp->VK->Prop):Prop:=
 ∀(pins:List (ZS×ZQ)) (s:I0) (σ:St) (H:Hp) (xs:List V) (us:List ZH) (Q:VK),Inv X pins σ H s->aD xs us->r xs H Q->
  X0 (P1 X.prog X.w) X.A (call f us) (EP X pins σ Q) X.xe s
def oj (r:R2) (ta tb:TE):TE:=λ σ H Q=>ta σ H λ x H1=>tb σ H1 λ y H2=>r x y H2 Q
def EM (r:V->Hp->VK->Prop) (ta:TE):TE:=λ σ H Q=>ta σ H λ x H1=>r x H1 Q
inductive RI (C:Int->Int->Prop) (g:Int->Int->V) (x y:V) (H:Hp) (Q:VK):Prop
 | mk (i j:Int) (a:x=.int i) (b:y=.int j) (c:C i j) (q:Q (g i j) H)
def rI (C:Int->Int->Prop) (g:Int->Int->V):R2:=λ x y H Q=>RI C g x y H Q
inductive Jn (g:Int->Int->V) (x y:V) (H:Hp) (Q:VK):Prop
 | mk (i j:Int) (a:x=.int i) (b:y=.int j) (q:Q (g i j) H)
def lP (g:Int->Int->V):R2:=λ x y H Q=>Jn g x y H Q
def rU (g:Int->V):V->Hp->VK->Prop:=λ x H Q=>∃i,x=.int i/\Q (g i) H
variable {f:ZH->ZH->Sem ZH} {r:R2}
section
variable {a b:ZO} {tb tc:TE} 
def mJ (ha:PE X a ta) (hb:PE X b tb) {R:V->V->Hp->Prop} (I:Inv X pins σ H s)
  (h:ta σ H λ x H1=>tb σ H1 λ y H2=>R x y H2) {Q:ZH->I0->Prop} {f:ZH->ZH->Sem ZH}
  (hf :∀v u s2 x y H2,Inv X pins σ H2 s2->RelV x v->RelV y u->R x y H2->X0 (P1 X.prog X.w) X.A (f v u) Q X.xe s2) :
  X0 (P1 X.prog X.w) X.A (T4 a X.env) (λ v s₁=>X0 (P1 X.prog X.w) X.A (T4 b X.env) (λ u s₂=>X0 (P1 X.prog X.w) X.A (f v u) Q X.xe s₂) X.xe s₁) X.xe s:=by
 refine br (ha pins s σ H _ I h) λ v c ⟨x,H1,I1,r1,q1⟩=>?_;refine br (hb pins c σ H1 _ I1 q1) λ u s2 ⟨y,H2,I2,r2,q2⟩=>?_;exact hf v u s2 x y H2 I2 r1 r2 q2
def aA {op:Operator} (ho:c_ X (V6 op) r) (ha:PE X a ta) (hb:PE X b tb):PE X (.BinOp a op b pos) (oj r ta tb):=by intro g s σ H Q I h;exact wpAny_BinOp (mJ ha hb I h λ v u i x y f c e d q=>ho g i σ f x y v u Q c e d q)
def qC {op:UnaryOp} {r:V->Hp->VK->Prop} (ho:uM X (unaryOp op) r) (ha:PE X a ta):PE X (.UnaryOp op a pos) (EM r ta):=by intro b s σ H Q I h;exact UnaryOp_ (br (ha b s σ H _ I h) λ v c ⟨x,H1,I1,r1,q1⟩=>ho b c σ H1 x v Q I1 r1 q1)
def tH {C:Int->Int->Prop} {g:Int->Int->Int}
  (rule :∀(i j:Int) (t u:Tok) (s:I0) (Q:ZH->I0->Prop) (E:ZH->I0->Prop),C i j->Q (.int (g i j) s.toks) { s with toks:=s.toks + 1 }->X0 (P1 X.prog X.w) X.A (f (.int i t) (.int j u)) Q E s) :
  c_ X f (rI C λ i j=>.int (g i j)):=by
 intro e s σ H x y v u Q I b a h;obtain ⟨i,j,rfl,rfl,d,q⟩:=h;obtain ⟨t,rfl⟩:=b;obtain ⟨c,rfl⟩:=a;exact rule i j t c s _ _ d ⟨.int (g i j),H,I.tok _,⟨_,rfl⟩,q⟩
def qQ {g:Int->Int->Int}
  (rule :∀(i j:Int) (t u:Tok) (s:I0) (Q:ZH->I0->Prop) (E:ZH->I0->Prop),Q (.int (g i j) s.toks) { s with toks:=s.toks + 1 }->X0 (P1 X.prog X.w) X.A (f (.int i t) (.int j u)) Q E s) :
  c_ X f (lP λ i j=>.int (g i j)):=by
 intro d s σ H x y v u Q I b a h;obtain ⟨i,j,rfl,rfl,q⟩:=h;obtain ⟨t,rfl⟩:=b;obtain ⟨c,rfl⟩:=a;exact rule i j t c s _ _ ⟨.int (g i j),H,I.tok _,⟨_,rfl⟩,q⟩
def lU {g:Int->Int->Bool}
  (rule :∀(i j:Int) (t u:Tok) (s:I0) (Q:ZH->I0->Prop) (E:ZH->I0->Prop),Q (.bool (g i j)) s->X0 (P1 X.prog X.w) X.A (f (.int i t) (.int j u)) Q E s) :
  c_ X f (lP λ i j=>.bl (g i j)):=by
 intro d s σ H x y v u Q I b a h;obtain ⟨i,j,rfl,rfl,q⟩:=h;obtain ⟨t,rfl⟩:=b;obtain ⟨c,rfl⟩:=a;exact rule i j t c s _ _ ⟨.bl (g i j),H,I,rfl,q⟩
def oD (i j:Int):Prop:=0<=j/\j<=1000000/\i.natAbs < 2 ^ 64
def pb (i j:Int):Prop:=(-(2 ^ 64) < i/\i < 2 ^ 64)\/(-(2 ^ 64) < j/\j < 2 ^ 64)
def pb.ok {i j:Int} (h:pb i j):IntMulOk i j:=by
 rcases h with ⟨b,a⟩|⟨b,a⟩
 ·exact .of_left (intBits_le_64 b a)
 ·exact .of_right (intBits_le_64 b a)
def oR:c_ X (V6 .Add) (lP λ i j=>.int (i + j)):=qQ λ _ _ _ _ _ _ _ q=>add_int q
def eG:c_ X (V6 .Sub) (lP λ i j=>.int (i - j)):=qQ λ _ _ _ _ _ _ _ q=>sub_int q
def dG:c_ X (V6 .Mult) (rI pb λ i j=>.int (i * j)):=tH λ _ _ _ _ _ _ _ a q=>mul_int q a.ok
theorem eK:c_ X (V6 .Mod) (rI (λ _ j=>0 < j) λ i j=>.int (i % j)):=tH λ i j _ _ _ _ _ a q=>by have b:(0:Int) < j:=a;exact mod_int' (by lia) (by rw [Int.fmod_eq_emod_of_nonneg i (by lia)];exact q)
def eH:c_ X (V6 .Pow) (rI oD λ i j=>.int (i ^ j.toNat)):=tH λ _ _ _ _ _ _ _ a q=>pow_int_small a.1 a.2.1 a.2.2 q
def Ld {f:ZH->Sem ZH} {g:Int->Int}
  (rule :∀(i:Int) (t:Tok) (s:I0) (Q:ZH->I0->Prop) (E:ZH->I0->Prop),Q (.int (g i) s.toks) { s with toks:=s.toks + 1 }->X0 (P1 X.prog X.w) X.A (f (.int i t)) Q E s) :
  uM X f (rU λ i=>.int (g i)):=by
 intro b s σ H x v Q I a h;obtain ⟨i,rfl,q⟩:=h;obtain ⟨t,rfl⟩:=a;exact rule i t s _ _ ⟨.int (g i),H,I.tok _,⟨_,rfl⟩,q⟩
def nE:uM X (unaryOp .USub) (rU λ i=>.int (-i)):=Ld λ _ _ _ _ _ q=>neg_int q
end
noncomputable def r7:V->V->Bool
 | .non,.non=>true | .non,.int _=>true | .int _,.non=>true | .non,.bl _=>true | .bl _,.non=>true | .non,.str _=>true | .str _,.non=>true
 | .int _,.int _=>true | .bl _,.bl _=>true | .str _,.str _=>true | .byt _,.byt _=>true
 | .int _,.str _=>true | .str _,.int _=>true | .bl _,.str _=>true | .str _,.bl _=>true
 | _,_=>false
def CB:R2:=λ x y H Q=>r7 x y=true/\Q (.bl (decide (x=y))) H
def AM:R2:=λ x y H Q=>r7 x y=true/\Q (.bl (!decide (x=y))) H
def Bc {i j:Int}:decide (V.int i=V.int j)=(i == j):=by rw [Bool.eq_iff_iff];simp
def kI {i j:Bool}:decide (V.bl i=V.bl j)=(i == j):=by rw [Bool.eq_iff_iff];simp
def CG {i j:ZR}:decide (V.str i=V.str j)=(i == j):=by rw [Bool.eq_iff_iff];simp
def yJ {i j:Array UInt8}:decide (V.byt i=V.byt j)=(i.toList == j.toList):=by rw [Bool.eq_iff_iff];cases i;cases j;simp
variable {r':R2}
section
variable {a b:ZO} {tb tc:TE} 
def aM {Q:VK} {k k':Bool} (I:Inv X pins σ H s) (q:Q (.bl k) H) (e:k=k'):EP X pins σ Q (.bool k') s:=by subst e;exact ⟨.bl k,H,I,rfl,q⟩
def pP:c_ X (O3 .Eq) CB:=by
 intro e s σ H x y v u Q I d a h;obtain ⟨c,q⟩:=h;cases x with
 | non=>
  cases d;cases y with
  | non=>cases a;exact PySem.EqNone.eq_none_none (aM I q (by simp))
  | bl j=>cases a;exact PySem.EqNone.eq_none_bool (aM I q (by simp))
  | int j=>obtain ⟨b,rfl⟩:=a;exact PySem.EqNone.eq_none_int (aM I q (by simp))
  | str j=>obtain ⟨b,rfl⟩:=a;exact PySem.EqNone.eq_none_str (aM I q (by simp))
  | _=>exact absurd (show false=true from c) R1
 | bl i=>
  cases d;cases y with
  | non=>cases a;exact PySem.EqNone.eq_bool_none (aM I q (by simp))
  | bl j=>cases a;exact eq_bool (aM I q kI)
  | str j=>obtain ⟨b,rfl⟩:=a;exact PySem.EqMixed.eq_bool_str (aM I q (by simp))
  | _=>exact absurd (show false=true from c) R1
 | int i=>
  obtain ⟨t,rfl⟩:=d;cases y with
  | non=>cases a;exact PySem.EqNone.eq_int_none (aM I q (by simp))
  | int j=>obtain ⟨b,rfl⟩:=a;exact eq_int (aM I q Bc)
  | str j=>obtain ⟨b,rfl⟩:=a;exact PySem.EqMixed.eq_int_str (aM I q (by simp))
  | _=>exact absurd (show false=true from c) R1
 | str i=>
  obtain ⟨t,rfl⟩:=d;cases y with
  | non=>cases a;exact PySem.EqNone.eq_str_none (aM I q (by simp))
  | bl j=>cases a;exact PySem.EqMixed.eq_str_bool (aM I q (by simp))
  | int j=>obtain ⟨b,rfl⟩:=a;exact PySem.EqMixed.eq_str_int (aM I q (by simp))
  | str j=>obtain ⟨b,rfl⟩:=a;exact eq_str (aM I q CG)
  | _=>exact absurd (show false=true from c) R1
 | byt i=>
  obtain ⟨t,rfl⟩:=d;cases y with
  | byt j=>obtain ⟨b,rfl⟩:=a;exact PySem.W.eq_bytes (aM I q yJ)
  | _=>exact absurd (show false=true from c) R1
 | _=>cases y<;>exact absurd (show false=true from c) R1
def qz:c_ X (O3 .NotEq) AM:=by
 intro e s σ H x y v u Q I d a h;obtain ⟨c,q⟩:=h;cases x with
 | non=>
  cases d;cases y with
  | non=>cases a;exact PySem.EqNone.ne_none_none (aM I q (by simp))
  | bl j=>cases a;exact PySem.EqNone.ne_none_bool (aM I q (by simp))
  | int j=>obtain ⟨b,rfl⟩:=a;exact PySem.EqNone.ne_none_int (aM I q (by simp))
  | str j=>obtain ⟨b,rfl⟩:=a;exact PySem.EqNone.ne_none_str (aM I q (by simp))
  | _=>exact absurd (show false=true from c) R1
 | bl i=>
  cases d;cases y with
  | non=>cases a;exact PySem.EqNone.ne_bool_none (aM I q (by simp))
  | bl j=>cases a;exact ne_bool (aM I q (congrArg not kI))
  | str j=>obtain ⟨b,rfl⟩:=a;exact PySem.EqMixed.ne_bool_str (aM I q (by simp))
  | _=>exact absurd (show false=true from c) R1
 | int i=>
  obtain ⟨t,rfl⟩:=d;cases y with
  | non=>cases a;exact PySem.EqNone.ne_int_none (aM I q (by simp))
  | int j=>obtain ⟨b,rfl⟩:=a;exact ne_int (aM I q (congrArg not Bc))
  | str j=>obtain ⟨b,rfl⟩:=a;exact PySem.EqMixed.ne_int_str (aM I q (by simp))
  | _=>exact absurd (show false=true from c) R1
 | str i=>
  obtain ⟨t,rfl⟩:=d;cases y with
  | non=>cases a;exact PySem.EqNone.ne_str_none (aM I q (by simp))
  | bl j=>cases a;exact PySem.EqMixed.ne_str_bool (aM I q (by simp))
  | int j=>obtain ⟨b,rfl⟩:=a;exact PySem.EqMixed.ne_str_int (aM I q (by simp))
  | str j=>obtain ⟨b,rfl⟩:=a;exact ne_str (aM I q (congrArg not CG))
  | _=>exact absurd (show false=true from c) R1
 | byt i=>
  obtain ⟨t,rfl⟩:=d;cases y with
  | byt j=>obtain ⟨b,rfl⟩:=a;exact PySem.W.ne_bytes (aM I q (congrArg not yJ))
  | _=>exact absurd (show false=true from c) R1
 | _=>cases y<;>exact absurd (show false=true from c) R1
def iO:c_ X (O3 .Lt) (lP λ i j=>.bl (decide (i < j))):=lU λ _ _ _ _ _ _ _ q=>lt_int q
def fF:c_ X (O3 .LtE) (lP λ i j=>.bl (decide (i<=j))):=lU λ _ _ _ _ _ _ _ q=>le_int q
def mH:c_ X (O3 .Gt) (lP λ i j=>.bl (decide (j < i))):=lU λ _ _ _ _ _ _ _ q=>gt_int q
def rQ:c_ X (O3 .GtE) (lP λ i j=>.bl (decide (j<=i))):=lU λ _ _ _ _ _ _ _ q=>ge_int q
def FF:c_ X (O3 .In) (λ x y H Q=>∃i j,x=.str i/\y=.str j/\Q (.bl (!(j08 j i 0 j.length 1).isEmpty)) H):=by intro d s σ H x y v u Q I b a h;obtain ⟨i,j,rfl,rfl,q⟩:=h;obtain ⟨t,rfl⟩:=b;obtain ⟨c,rfl⟩:=a;exact in_str (aM I q rfl)
def Aw:c_ X (O3 .IsNot) (λ x y H Q=>y=.non/\Q (.bl (!decide (x=.non))) H):=by
 intro c s σ H x y v u Q I a b h;obtain ⟨rfl,q⟩:=h;cases b;refine isnot_none_gen (aM I q ?_);cases x<;>first
  | (cases a;rfl)
  | (obtain ⟨t,rfl⟩:=a;rfl)
def c_.or (h:c_ X f r) (h':c_ X f r'):c_ X f (λ x y H Q=>r x y H Q\/r' x y H Q):=by
 intro c s σ H x y v u Q I b a q;rcases q with q|q
 ·exact h c s σ H x y v u Q I b a q
 ·exact h' c s σ H x y v u Q I b a q
def aC (b:ZO) (h:op≠.In:=by decide) (h2:op≠.NotIn:=by decide):j2a op b=false:=by
 have c:(op == CmpOp.In)=false:=by cases op<;>first|rfl|exact absurd rfl h
 have a:(op == CmpOp.NotIn)=false:=by cases op<;>first|rfl|exact absurd rfl h2
 cases b<;>simp [j2a,c,a]
def jv (ho:c_ X (O3 op) r) (ha:PE X a ta) (hb:PE X b tb) (hm:j2a op b=false):PE X (.Compare a [op] [b] pos) (oj r ta tb):=by intro g s σ H Q I h;exact wpAny_Compare1 (mJ ha hb I h λ v u i x y f c e d q=>ho g i σ f x y v u Q c e d q) hm
def kc (t:TE):TT:=λ σ H Q=>t σ H λ x H'=>∃k,x=.bl k/\Q k H'
def dj (ho:c_ X (O3 op) r) (ha:PE X a ta) (hb:PE X b tb) (hm:j2a op b=false):PT X (.Compare a [op] [b] pos) (kc (oj r ta tb)):=by
 intro d s σ H Q I h;refine wpAny_isTrue_Compare1 (br (ha d s σ H _ I h) λ v f ⟨x,H1,I1,r1,q1⟩=>br (hb d f σ H1 _ I1 q1) λ u g ⟨y,H2,I2,r2,q2⟩=>br (ho d g σ H2 x y v u _ I2 r1 r2 q2) λ c i ⟨z,H3,I3,r3,k,e,q3⟩=>?_) hm;subst e;cases r3;exact T5 ⟨H3,I3,q3⟩
def kM (r r':R2) (ta tb tc:TE):TE:=λ σ H Q=>ta σ H λ x H1=>tb σ H1 λ y H2=>r x y H2 λ z H3=>∃k,z=.bl k/\
 (if k=true then tc σ H3 λ w' H4=>r' y w' H4 Q else Q (.bl false) H3)
def KG {op':CmpOp} (ho:c_ X (O3 op) r) (ho':c_ X (O3 op') r') (ha:PE X a ta) (hb:PE X b tb) (hc:PE X c tc)
  (hm:lastMarks [op,op'] [b,c]=false:=by with_unfolding_all rfl):PE X (.Compare a [op,op'] [b,c] pos) (kM r r' ta tb tc):=by
 intro f s σ H Q I h;refine Compare_chain (br (ha f s σ H _ I h) λ v i ⟨x,H1,I1,r1,q1⟩=>chain_link (br (hb f i σ H1 _ I1 q1) λ u m ⟨y,H2,I2,r2,q2⟩=>br (ho f m σ H2 x y v u _ I2 r1 r2 q2) λ d l ⟨z,H3,I3,r3,k,e,q3⟩=>?_)) hm;subst e;cases r3;refine T5 ?_;cases k with
 | false=>exact ite_ff ⟨.bl false,H3,I3,rfl,q3⟩
 | true=>exact ite_tt (chain_last (br (hc f l σ H3 _ I3 q3) λ j g ⟨z',H4,I4,r4,q4⟩=>ho' f g σ H4 y z' u j Q I4 r2 r4 q4))
def xg {op':CmpOp} (ho:c_ X (O3 op) r) (ho':c_ X (O3 op') r') (ha:PE X a ta) (hb:PE X b tb) (hc:PE X c tc)
  (hm:lastMarks [op,op'] [b,c]=false:=by with_unfolding_all rfl):PT X (.Compare a [op,op'] [b,c] pos) (kc (kM r r' ta tb tc)):=by
 intro f s σ H Q I h;refine isTrue_chain (br (ha f s σ H _ I h) λ v l ⟨x,H1,I1,r1,q1⟩=>test_link (br (hb f l σ H1 _ I1 q1) λ u i ⟨y,H2,I2,r2,q2⟩=>br (ho f i σ H2 x y v u _ I2 r1 r2 q2) λ d g ⟨z,H3,I3,r3,k,e,q3⟩=>?_)) hm;subst e;cases r3;refine T5 ?_;cases k with
 | false=>obtain ⟨p,n,o⟩:=q3;cases n;exact ite_ff ⟨H3,I3,o⟩
 | true=>refine ite_tt (test_last (br (hc f g σ H3 _ I3 q3) λ m j ⟨z',H4,I4,r4,q4⟩=>br (ho' f j σ H4 y z' u m _ I4 r2 r4 q4) λ t q ⟨z2,H5,I5,r5,k2,e2,q5⟩=>?_));subst e2;cases r5;exact T5 ⟨H5,I5,q5⟩
def fq:(ZG:Nat) < 2 ^ 63:=by rw [sizeLine_eq];decide
def iD:c_ X (V6 .Add) (λ x y H Q=>∃i j,x=.str i/\y=.str j/\i.length + j.length<=ZG/\Q (.str (i++j)) H):=by intro e s σ H x y v u Q I b a h;obtain ⟨i,j,rfl,rfl,d,q⟩:=h;obtain ⟨t,rfl⟩:=b;obtain ⟨c,rfl⟩:=a;exact add_str (λ c tk=>⟨.str (i++j),H,I.tok _,⟨_,rfl⟩,q⟩) d
def vals1 {x:V} (r:aD [x] us) :∃u,us=[u]/\RelV x u:=by
 cases r with
 | cons r1 r2=>cases r2;exact ⟨_,rfl,r1⟩
def vals2 {x y:V} (r:aD [x,y] us) :∃u w',us=[u,w']/\RelV x u/\RelV y w':=by
 cases r with
 | cons r1 r2=>
  cases r2 with
  | cons r3 r4=>cases r4;exact ⟨_,_,rfl,r1,r3⟩
def DU (hc:X.calm=true):cv X (.builtin "max") (λ xs H Q=>∃i j,xs=[.int i,.int j]/\Q (.int (if j > i then j else i)) H):=by
 intro d s σ H xs c Q I r h;obtain ⟨i,j,rfl,q⟩:=h;obtain ⟨u,b,rfl,⟨t,rfl⟩,⟨a,rfl⟩⟩:=vals2 r;refine max_two_ints (I.ok.hd hc) λ e tk k=>⟨_,H,I.kept k,?_,q⟩
 by_cases hj:j > i
 ·rw [if_pos hj,if_pos hj];exact ⟨_,rfl⟩
 ·rw [if_neg hj,if_neg hj];exact ⟨_,rfl⟩
end
structure oe (h:ZN) (x dx C:ZS) (mA:ZR->Option ZH):Prop where
 obj:h.get? x=some (j57 C dx)
 ns:h.Ns1 dx mA
 ne:dx≠x
variable {dx:ZS}
def Hu {mA:ZR->Option ZH} (n:h.Ns1 dx mA) :∃od,h.get? dx=some od/\∀name,j62 name od=some (mA name):=by
 obtain ⟨o,b,l,g,j,k,_,d⟩:=n;refine ⟨o,g,λ name=>?_⟩;have e:=d name;unfold nsFind findBy at e;rw [<-Array.find?_toList] at e;unfold j62;rw [j];dsimp only;split
 ·rename_i y q;rw [q] at e;exact congrArg some e
 ·rename_i q;rw [q] at e;have a:b.toList.any (·.refKey)=false:=by rw [List.any_eq_false];intro y f;obtain ⟨z,t,i⟩:=k y (Array.mem_toList_iff.mp f);simp [DictEntry.refKey,i]
  have c:¬ b.toList.any (·.refKey)=true:=by rw [a];exact R1
  rw [if_neg c];exact congrArg some e
variable {C:ZS}
def oe.look {x:ZS} {mA:ZR->Option ZH} (I:oe h x dx C mA) :∃od,PySem.W.InstAt h x (j57 C dx) C (some od)/\∀name,j62 name od=some (mA name):=
 let ⟨od,ho,hl⟩:=Hu I.ns
 ⟨od,⟨I.obj,rfl,rfl,ho⟩,hl⟩
def dP.some_of {o:Option ZH} (r:dP (some v) o) :∃u,o=some u/\RelV v u:=by
 cases o with
 | none=>exact (show False from r).elim
 | some u=>exact ⟨u,rfl,r⟩
section
variable {fs fs':List (ZR×V)}
def Kp (hok:eC P w H h) (e:H a=some (.ins C dx fs)) :∃mA,oe h a dx C mA/\(∀f,dP (fs.lookup f) (mA f))/\PySem.Within mA (fs.map (·.1))/\fs.length<=1000/\H dx=some (.own a):=by
 obtain ⟨d,z,ne,b,mA,n,r,q⟩:=(show aY P w H h a (.ins C dx fs) from hok a _ e)
 exact ⟨mA,⟨b,n,ne⟩,r,q,z,d⟩
end
structure va (K:B0) (C:ZS):Prop where
 pg:PySem.W.plainGet K C Str.empty=true
 hd:PySem.W.hasDictIn K C=true
 po:PySem.W.plainOver K C=true
 sa:j01 K (.ref C) "__setattr__" = some (some (.builtin "object.__setattr__"))
def va.get (c:va K C) (f:ZR):PySem.W.plainGet K C f=true:=c.pg
structure Lm (K:B0) (C:ZS) (f:ZR) (v:V) (u:ZH):Prop where
 at_:j01 K (.ref C) f=some (some u)
 rel:RelV v u
 get:k08 K u "__get__" = some none
 cp:PySem.W.copiedNames.contains f=false
structure JQ (K:B0) (C:ZS) (m:ZR) (f:ZS):Prop where
 at_:j01 K (.ref C) m=some (some (.ref f))
 fn:PySem.W.isFn K (.ref f)=true
 kp:c7 K (.ref f)=true
section
variable {c:ZH} {b:Bool}
inductive fj (K:B0) (H:Hp):V->ZH->Prop where
 | non:fj K H .non (.type "NoneType")
 | bl (x:Bool):fj K H (.bl x) (.type "bool")
 | int (i:Int):fj K H (.int i) (.type "int")
 | str (x:ZR):fj K H (.str x) (.type "str")
 | flt (x:UInt64):fj K H (.flt x) (.type "float")
 | lst {a:ZS} {xs:List V} (e:H a=some (.lst xs)):fj K H (.ref a) (.type "list")
 | frz {a:ZS} {o:ZQ} {xs:List V} (e:H a=some (.frz o (.lst xs))):fj K H (.ref a) (.type "list")
 | tup {a:ZS} {xs:List V} (e:H a=some (.tup xs)):fj K H (.ref a) (.type "tuple")
 | dK {a:ZS} {kvs:List (Key×V)} (e:H a=some (.dK kvs)):fj K H (.ref a) (.type "dict")
 | dT {a:ZS} {kvs:List (List Key×V)} (e:H a=some (.dT kvs)):fj K H (.ref a) (.type "dict")
 | ins {a C dx:ZS} {fs:List (ZR×V)} (e:H a=some (.ins C dx fs)) (cl:va K C) (ha:j01 K (.ref C) "__class__" = some (some (.builtin "object.__class__")))
   (hn:k08 K (.builtin "object.__class__") "__get__" = some (some (.builtin "getset_descriptor.__get__"))) (htk:PySem.W.takesIn K (.builtin "object.__class__")=some true)
   (hm:PySem.W.mroIn K C (.type "object")=some true):fj K H (.ref a) (.ref C)
def yO {x:V} {t:ZH} (I:Inv X pins σ H s) (rx:RelV x u) (ty:fj X.K H x t) (e:j63 X.K t c=some b) (h :∀tk,Q (.bool b) { s with toks:=tk }) :
  X0 (P1 X.prog X.w) A (call (.builtin "isinstance") [u,c]) Q E s:=by
 cases ty with
 | non=>cases (show u=Y2 from rx);exact o5 PySem.W.kitx_none I.kIn True.intro e (λ z=>nomatch z) h
 | bl y=>cases (show u=j72 y from rx);exact o5 PySem.W.kitx_bool I.kIn True.intro e (λ z=>nomatch z) h
 | int i=>obtain ⟨t,q⟩:=(show∃t,u=P8 i t from rx);cases q;exact o5 PySem.W.kitx_int I.kIn True.intro e (λ z=>nomatch z) h
 | str y=>obtain ⟨t,q⟩:=(show∃t,u=j53 y t from rx);cases q;exact o5 PySem.W.kitx_str I.kIn True.intro e (λ z=>nomatch z) h
 | flt y=>obtain ⟨t,q⟩:=(show∃t,u=Value.float y t from rx);cases q;exact o5 PySem.W.kitx_float I.kIn True.intro e (λ z=>nomatch z) h
 | @lst a f ea=>
  cases (show u=O2 a from rx);obtain ⟨_,_,n,_,d⟩:=(show aY X.prog X.w H s.heap a (.lst f) from I.hok a _ ea)
  exact o5 k09 I.kIn ⟨_,d,rfl⟩ e (λ z=>nomatch z) h
 | @frz a ob f ea=>
  cases (show u=O2 a from rx);obtain ⟨_,_,_,n,_,d⟩:=(show aY X.prog X.w H s.heap a (.frz ob (.lst f)) from I.hok a _ ea)
  exact o5 k09 I.kIn ⟨_,d,rfl⟩ e (λ z=>nomatch z) h
 | @tup a f ea=>
  cases (show u=O2 a from rx);obtain ⟨_,_,_,p,_⟩:=(show aY X.prog X.w H s.heap a (.tup f) from I.hok a _ ea)
  obtain ⟨o,d,g,_⟩:=p;exact o5 PySem.W.kitx_tuple I.kIn ⟨o,d,g⟩ e (λ z=>nomatch z) h
 | @dK a kvs ea=>
  cases (show u=O2 a from rx);obtain ⟨_,_,r,_,p⟩:=(show aY X.prog X.w H s.heap a (.dK kvs) from I.hok a _ ea)
  obtain ⟨o,k,j,d,g,_⟩:=p;exact o5 k0a I.kIn ⟨o,d,g.1⟩ e (λ z=>nomatch z) h
 | @dT a kvs ea=>
  cases (show u=O2 a from rx);obtain ⟨_,_,f,_,o,k,j,d,g,_⟩:=(show aY X.prog X.w H s.heap a (.dT kvs) from I.hok a _ ea)
  exact o5 k0a I.kIn ⟨o,d,g.1⟩ e (λ z=>nomatch z) h
 | @ins a C dx fs ea cl ha hn htk hm=>cases (show u=O2 a from rx);obtain ⟨l,O,_⟩:=Kp I.hok ea;obtain ⟨m,J,_⟩:=O.look;exact o5 (PySem.W.kitx_own (cl.get _) cl.hd ha hn htk hm) I.kIn J e (λ z=>nomatch z) h
end
structure cF (k:Nat) (A:P2):Prop where
 hd:A.handled=none
 dp:A.depth + 3 * k + 5 < recursionLimit
 un:A.units + 16 * k + 200 < ZF
 gd:A.guards=some []
theorem cF.mono {j k:Nat} (r:cF k A) (h:j<=k):cF j A:=⟨r.hd,by have:=r.dp;lia,by have:=r.un;lia,r.gd⟩
theorem cF.deeper {k:Nat} (r:cF (k + 1) A) (env:Env):cF k (A.deeper env):=
 ⟨r.hd,by have:=r.dp;show A.depth + 1 + 3 * k + 5 < _;lia,by have:=r.un;show A.units + 3 + 16 * k + 200 < _;lia,r.gd⟩
theorem cF.depth {k:Nat} (r:cF k A):A.depth < recursionLimit:=by have:=r.dp;lia
theorem cF.units {k:Nat} (r:cF k A):A.units + 64 < ZF:=by have:=r.un;lia
def ig:TA:=λ _ H Q=>Q [] H
def fX (ta:TE) (tr:TA):TA:=λ σ H Q=>ta σ H λ x H1=>tr σ H1 λ xs H2=>Q (x :: xs) H2
section
variable {t:TA} 
def aa:PA X [] ig:=λ _ _ _ _ H Q I h=>c5 ⟨[],H,I,.nil,h⟩
def ah (ha:PE X e te) (hr:PA X es t) (hs:A2 (e :: es) X.env=(false,T4 e X.env) :: A2 es X.env:=by rfl):PA X (e :: es) (fX te t):=by intro b a s σ H Q I h;rw [hs];show X0 _ _ (j4h ((false,T4 e X.env) :: r6 b (A2 es X.env))) _ _ s;refine Z3 (br (ha a s σ H _ I h) λ u c ⟨x,H1,I1,r1,q1⟩=>?_);exact br (hr b a c σ H1 _ I1 q1) λ d f ⟨xs,H2,I2,r2,q2⟩=>⟨x :: xs,H2,I2,.cons r1 r2,q2⟩
def qJ (t:TA):TE:=λ σ H Q=>t σ H λ xs H1=>xs.length<=ZG/\∀p,H1 p=none->Q (.ref p) (upd H1 p (.tup xs))
def kz (t:TA):TE:=λ σ H Q=>t σ H λ xs H1=>xs.length<=ZG/\∀p,H1 p=none->Q (.ref p) (upd H1 p (.lst xs))
def bh {x1} (h:PA X es t):PE X (.Tuple es x1 pos) (qJ t):=by intro g s σ H Q I d;refine wpAny_Tuple_spliced (br (h pos g s σ H _ I d) λ c a ⟨xs,H1,I1,r,z,q⟩=>⟨by rw [<-r.length];exact z,?_⟩);have f:H1 a.heap.objs.size=none:=I1.hok.fresh (L0 _);refine ⟨.ref a.heap.objs.size,upd H1 a.heap.objs.size (.tup xs),I1.laid (t':=a.toks) (λ b u e=>G0 _ e) (L0 _) ?_,rfl,q _ f⟩;exact ⟨z,c,r,eO.new _ _⟩
def aO (h:PA X es t):PE X (.List es pos) (kz t):=by intro g s σ H Q I d;refine wpAny_List_spliced (br (h pos g s σ H _ I d) λ c a ⟨xs,H1,I1,r,z,q⟩=>⟨by rw [<-r.length];exact z,?_⟩);have f:H1 a.heap.objs.size=none:=I1.hok.fresh (L0 _);refine ⟨.ref a.heap.objs.size,upd H1 a.heap.objs.size (.lst xs),I1.laid (t':=a.toks) (λ b u e=>G0 _ e) (L0 _) ?_,rfl,q _ f⟩;exact ⟨z,c,0,r,U0 _ rfl⟩
end
noncomputable abbrev Sp:=List V->Hp->VK->XK->Prop
noncomputable abbrev lE:=List Env->Hp->I0->XK->ZH->I0->Prop
structure lD (P:ZK) (w:U1) (K:B0) (mg:ZR->Option ZH) (base:ZN) (A:P2) (outer:List Env) (s:I0) (H:Hp):Prop where
 frames:A.frames=some outer
 mod:Mod K mg base
 bs :∀b o,base.get? b=some o->s.heap.get? b=some o/\H b=none
 bsz:base.objs.size<=s.heap.objs.size
 funs:s.heap.FunFrames base outer
 frf :∀b∈gT outer,H b=none
 hok:eC P w H s.heap
 bare:j29 s.gens
def CE (outer:List Env) (P:ZK) (w:U1) (H:Hp) (s:I0) (Q:VK) (u:ZH) (s':I0):Prop:=
 ∃v H',s'.os=s.os/\j29 s'.gens/\Un (gT outer) [] H H' s.heap s'.heap/\eC P w H' s'.heap/\RelV v u/\Q v H'
def CR (CX:lE) (outer:List Env) (P:ZK) (w:U1) (H:Hp) (s:I0) (Q:VK) (E:XK) (r:j9j) (s':I0):Prop:=
 match r with
 | .ok (.ret u)=>CE outer P w H s Q u s'
 | .ok _=>False
 | .error e=>CX outer H s E e s'
structure gg (P:ZK) (w:U1) (K:B0) (mg:ZR->Option ZH) (base:ZN) (CX:lE) (k:Nat) (f:ZS) (fd:ZJ) (ps:List ZR) (sp:Sp):Prop where
 len :∀vs H Q E,sp vs H Q E->vs.length=ps.length
 run :∀(A:P2) (outer:List Env) (s:I0) (H:Hp) (args:Args) (us:List ZH) (vs:List V) (Q:VK) (E:XK),cF k A->lD P w K mg base A outer s H->BindsTo s fd args (ps.zip us)->aD vs us->sp vs H Q E->
  M8 (P1 P w) A (.call (.ref f) args) (CR CX outer P w H s Q E) s
section
def Inv.env0 (I:Inv X pins σ H s):lD X.prog X.w X.K X.mg X.base X.A X.stack s H:=
 ⟨I.ok.frames,I.ok.mod,I.bs,M0 I.ok.bsz I.sz,I.stack,I.stkFree,I.hok,I.bare⟩
def Inv.after {Q:VK} (I:Inv X pins σ H s) (h:CE X.stack X.prog X.w H s Q u s'):EP X pins σ Q u s':=by obtain ⟨v,i,a,e,un,c,r,q⟩:=h;obtain ⟨f,g,d,t,j⟩:=s';obtain rfl:j=s.os:=a;exact ⟨v,i,I.call (h':=f) (g':=g) (d':=d) (t':=t) (ch:=[]) un c e (λ b z=>absurd z (by simp)),r,q⟩
end
def jH (sp:Sp) (dvs:List V) (E:XK) (t:TA):TE:=λ σ H Q=>t σ H λ vs H1=>sp (vs++dvs) H1 Q E
def Binds (K:B0) (fd:ZJ) (ps:List ZR) (ds:List ZH):Prop:=
 ∀(s:I0) (us:List ZH),K.In s.heap->(us++ds).length=ps.length->BindsTo s fd ⟨us,[]⟩ (ps.zip (us++ds))
variable {fd:ZJ} {ps:List ZR}
def Binds.all (h :∀us:List ZH,us.length=ps.length->bindArgs fd ⟨us,[]⟩=i5 (ps.zip us)):Binds K fd ps []:=λ s us _ a=>by rw [E1] at a⊢;exact .of_eq (h us a)
def iH (CX:lE) (X:Cx) (E:XK):Prop:=∀(pins:List (ZS×ZQ)) (σ:St) (H:Hp) (s:I0) (e:ZH) (s':I0),Inv X pins σ H s->CX X.stack H s E e s'->X.xe e s'
variable {CX:lE}
section
variable {k:Nat} {f:ZS} {sp:Sp} {dvs:List V} {ds:List ZH} {E:XK} {m:ZR} {apos:ZP} {o:ZO} {t:TA}
def nj {Q:VK} {vs:List V} (F:gg X.prog X.w X.K X.mg X.base CX k f fd ps sp) (hr:cF k X.A) (hb:Binds X.K fd ps ds) (hd:aD dvs ds) (hx:iH CX X E)
  (I:Inv X pins σ H s) (r:aD vs us) (h:sp (vs++dvs) H Q E):X0 (P1 X.prog X.w) X.A (call (.ref f) us) (EP X pins σ Q) X.xe s:=by
 have b:aD (vs++dvs) (us++ds):=r.append hd;have c:(us++ds).length=ps.length:=by rw [<-b.length];exact F.len _ _ _ _ h
 refine wpAny_call (L8 (F.run X.A X.stack s H ⟨us,[]⟩ (us++ds) (vs++dvs) Q E hr I.env0 (hb s us I.kIn c) b h) λ r d a=>?_);cases r with
 | error e=>exact hx pins σ H s e d I a
 | ok fl=>
  cases fl with
  | ret u=>exact I.after a
  | next=>exact X7 a
  | brk=>exact X7 a
  | cont=>exact X7 a
def GK (F:gg X.prog X.w X.K X.mg X.base CX k f fd ps sp) (hr:cF k X.A) (hg:Gl X x) (hm:X.mg x=some (.ref f)) (hk:c7 X.K (.ref f)=true) (hb:Binds X.K fd ps ds) (hd:aD dvs ds) (hx:iH CX X E)
  (ha:PA X (e :: es) t) (hdb:(x == ("__debug__" : ZR))=false:=by decide) (he:A2 (e :: es) X.env=(false,T4 e X.env) :: A2 es X.env:=by rfl) (hpl:(r6 pos (A2 es X.env)).any (·.1)=false:=by rfl) :
  PE X (.Call (.Name x p) (e :: es) [] pos) (jH sp dvs E t):=by
 intro a s σ H Q I h;refine M5 (Ar I hg hm ?_ hdb);refine PySem.W.callWith_K (h₀:=X.base) I.ok.mod.kin hk (br (ha pos a s σ H _ I h) λ c b ⟨vs,H1,I1,r,q⟩=>⟨I1.kIn,?_⟩) he hpl;exact nj F hr hb hd hx I1 r q
structure Mk (K:B0) (C f:ZS):Prop where
 makes:PySem.W.makesIn K C=true
 init:j01 K (.ref C) "__init__" = some (some (.ref f))
 fn:PySem.W.isFn K (.ref f)=true
 kp:c7 K (.ref C)=true
end
def PK (X:Cx) (kws:List d6) (t:TA):Prop:=
 ∀(pos:ZP) (pins:List (ZS×ZQ)) (s:I0) (σ:St) (H:Hp) (Q:List V->Hp->Prop),Inv X pins σ H s->t σ H Q->X0 (P1 X.prog X.w) X.A (evalAll ((b9 pos (P6 kws X.env)).map (·.2))) (AP X pins σ Q) X.xe s
section
variable {k:Nat} {f:ZS} {ks:List ZR} {sp:Sp} {E:XK} {m:ZR} {apos kpos:ZP} {o:ZO} {kws:List d6} {t tk:TA} {nm:Option ZR}
structure uN (K:B0) (fd:ZJ) (ps ks:List ZR) (g:List ZH->List ZH->List ZH) (gV:List V->List V->List V):Prop where
 to :∀(s:I0) (us ws:List ZH),K.In s.heap->(g us ws).length=ps.length->BindsTo s fd ⟨us,ks.zip ws⟩ (ps.zip (g us ws))
 rel :∀{vs:List V} {us:List ZH} {zs:List V} {ws:List ZH},aD vs us->aD zs ws->aD (gV vs zs) (g us ws)
variable {g:List ZH->List ZH->List ZH} {gV:List V->List V->List V}
end
structure ax (N P:List ZR) (sc:ZE):Prop where
 kind:sc.kind=.function
 co:sc.isCoroutine=false
 gen:sc.isGenerator=false
 nd:N.Nodup
 pre:N.take P.length=P
 par :∀x∈P,sc.names.lookup x=some .local\/sc.names.lookup x=some .cell
 nofree :∀y∈sc.names,y.2≠.free
variable {kindOf:ZR->Option F8}
theorem yt:∀{binds:List (ZR×ZH)} {m:ZR->Option ZH},(∀v,(x,v)∉binds)->bindL kindOf binds m x=m x
 | [],_,_=>rfl
 | (n,v) :: r,m,h=>by
  unfold bindL;rw [yt λ w a=>h w (Z0 _ a)];split
  ·have:x≠n:=by rintro rfl;exact h v Y0
   simp [this]
  ·rfl
theorem yM:∀{binds:List (ZR×ZH)} {m:ZR->Option ZH},(∀v,(x,v)∉binds)->bindC kindOf binds m x=m x
 | [],_,_=>rfl
 | (n,v) :: r,m,h=>by
  unfold bindC;rw [yM λ w a=>h w (Z0 _ a)];split
  ·rfl
  ·have:x≠n:=by rintro rfl;exact h v Y0
   simp [this]
theorem BV {v:ZH} :∀{P:List ZR} {vs:List ZH} {i:Nat} {m:ZR->Option ZH},P.Nodup->P[i]? = some x->vs[i]? = some v->kindOf x=some .local->
  bindL kindOf (P.zip vs) m x=some v
 | [],_,_,_,_,h,_,_=>by simp at h
 | _ :: _,[],_,_,_,_,h,_=>by simp at h
 | p :: P,w :: vs,0,m,nd,h1,h2,hk=>by simp at h1 h2;subst h1;subst h2;show bindL kindOf ((p,w) :: P.zip vs) m p=_;unfold bindL;rw [yt λ v a=>(List.nodup_cons.mp nd).1 (V9 a).1,if_pos hk];simp
 | p :: P,w :: vs,i + 1,m,nd,h1,h2,hk=>by show bindL kindOf ((p,w) :: P.zip vs) m x=_;unfold bindL;exact BV (i:=i) (List.nodup_cons.mp nd).2 (by simpa using h1) (by simpa using h2) hk
theorem BR {v:ZH} :∀{P:List ZR} {vs:List ZH} {i:Nat} {m:ZR->Option ZH},P.Nodup->P[i]? = some x->vs[i]? = some v->kindOf x≠some .local->
  bindC kindOf (P.zip vs) m x=some v
 | [],_,_,_,_,h,_,_=>by simp at h
 | _ :: _,[],_,_,_,_,h,_=>by simp at h
 | p :: P,w :: vs,0,m,nd,h1,h2,hk=>by simp at h1 h2;subst h1;subst h2;show bindC kindOf ((p,w) :: P.zip vs) m p=_;unfold bindC;rw [yM λ v a=>(List.nodup_cons.mp nd).1 (V9 a).1,if_neg hk];simp
 | p :: P,w :: vs,i + 1,m,nd,h1,h2,hk=>by show bindC kindOf ((p,w) :: P.zip vs) m x=_;unfold bindC;exact BR (i:=i) (List.nodup_cons.mp nd).2 (by simpa using h1) (by simpa using h2) hk
noncomputable def start (N:List ZR) (vs:List V):St:=vs.map some++A1 (N.length - vs.length) none
noncomputable def je (CX:lE) (P:ZK) (w:U1) (K:B0) (mg:ZR->Option ZH) (base:ZN) (N:List ZR) (qual:ZR) (scope:ZE) (f:ZS) (cd:ZH) (A:P2) (outer:List Env) (s:I0) (H:Hp) (E:XK):Cx where
 prog:=P
 w:=w
 K:=K
 mg:=mg
 base:=base
 A:=A.deeper (j61 qual scope s.heap.objs.size f cd)
 N:=N
 s₀:=s
 H₀:=H
 env:=j61 qual scope s.heap.objs.size f cd
 outer:=outer
 stack:=j61 qual scope s.heap.objs.size f cd :: outer
 ex:=[]
 calm:=true
 fn:=λ _=>true
 pn:=[]
 xe:=λ e s'=>X0 (P1 P w) (A.deeper (j61 qual scope s.heap.objs.size f cd)) («leaving» (j61 qual scope s.heap.objs.size f cd) e) (λ _ s''=>CX outer H s E e s'') (λ e' s''=>CX outer H s E e' s'') s'
def CQ {sc:ZE} (h:sc.names.lookup x=some .cell) :∃c,(cellsFrom n sc.names []).lookup x=some c:=by have q:=j81 sc.names n [] (.inl h);exact Option.isSome_iff_exists.mp q
theorem JH {mg:ZR->Option ZH} {base:ZN} {N:List ZR} {qual:ZR} {scope:ZE} {f:ZS} {cd:ZH} {outer:List Env} {s1:I0} {E:XK} {vs:List V}
  (S:ax N ps scope) (hd:A.handled=none) (e0:lD P w K mg base A outer s H) (hl:vs.length=ps.length) (r:aD vs us)
  (x:InCallC s s.heap.objs.size (bindL (j61 qual scope s.heap.objs.size f cd).kindOf (ps.zip us) λ _=>none) (cellsFrom (s.heap.objs.size + 1) scope.names []) (bindC (j61 qual scope s.heap.objs.size f cd).kindOf (ps.zip us) λ _=>none) s1) :
  Inv (je CX P w K mg base N qual scope f cd A outer s H E) [] (start N vs) H s1:=by
 have G:ps.length<=N.length:=by have:=congrArg j1a S.pre;rw [Y1] at this;lia
 obtain ⟨l,tk,rfl,C⟩:=x.done;have o :∀b:ZS,b∉(je CX P w K mg base N qual scope f cd A outer s H E).ex:=λ b z=>absurd (show b∈([]:List ZS) from z) (by simp);refine ⟨⟨e0.mod,S.kind,rfl,rfl,L0 _,λ y z c l d=>?_,λ y g=>?_,λ y c _ h=>?_,λ _=>hd,Around.frames_deeper e0.frames,.inr ⟨rfl,rfl⟩,λ b z=>absurd z (o b),e0.bs,e0.bsz,λ b _ _=>o b,λ b z=>absurd z (o b),e0.funs,e0.frf⟩,
  rfl,e0.bare,Un.kept C,⟨_,x.toInCall.ns,λ i y v l d I=>?_⟩,λ y c h=>⟨_,x.cell y c h⟩,e0.hok.fresh (L0 _),λ y c h=>?_,λ p j=>absurd (show p∈([]:List (ZS×ZQ)) from j) (by simp),e0.hok.kept C,?_⟩
 ·exact name_of_addr x.apart (g8 l) (g8 d)
 ·have g:scope.names.lookup y=some .cell\/scope.names.lookup y=some .free:=g;rcases g with g|g
  ·exact CQ g
  ·exact absurd rfl (S.nofree _ (g8 g))
 ·exact y4 (x.above y c (g8 h))
 ·have m:i < vs.length:=by
   unfold start at d;by_cases m:i < vs.length
   ·exact m
   ·rw [C4 (by simpa using m)] at d;rw [j21] at d;split at d<;>cases d
  have F:vs[i]? = some v:=by
   unfold start at d;rw [F2 (by simpa using m),C1] at d;cases e:vs[i]? with
   | none=>rw [e] at d;cases d
   | some a=>rw [e] at d;cases d;rfl
  obtain ⟨u,B,D⟩:=r.get F;have j:ps[i]? = some y:=by rw [<-S.pre,List.getElem?_take_of_lt (by lia)];exact l
  have t:ps.Nodup:=by rw [<-S.pre];exact S.nd.sublist (j18 _ _)
  refine ⟨u,D,?_⟩;rcases S.par y (K0 j) with k|k
  ·exact .inl ⟨k,BV t j B k⟩
  ·obtain ⟨c,e⟩:=CQ (n:=s.heap.objs.size + 1) k;refine .inr ⟨.inl k,c,e,?_⟩;have q:=x.cell y c e;rw [BR t j B (by show scope.names.lookup y≠_;rw [k];decide)] at q;exact q
 ·exact e0.hok.fresh (y4 (x.above y c (g8 h)))
 ·unfold start;show _=N.length;rw [F0,q0,U5]
  lia
def qV {mg:ZR->Option ZH} {base:ZN} {k:Nat} {f:ZS} {name qual:ZR} {params:Arguments} {scope:ZE} {dV kV doc pm cdv ct oc:ZH} {an od:Option ZS}
  {osl:Array (Option ZH)} {N ps:List ZR} {sp:Sp} (lk:K.lookup f=some ⟨oc,od,.func (U8 name qual params body scope dV kV doc pm an cdv ct),osl⟩) (hcd:j2c K cdv qual=true) (S:ax N ps scope)
  (len :∀vs H Q E,sp vs H Q E->vs.length=ps.length)
  (hbody :∀(A:P2) (outer:List Env) (s:I0) (H:Hp) (vs:List V) (Q:VK) (E:XK),cF k (A.deeper (j61 qual scope s.heap.objs.size f cdv))->sp vs H Q E->
   ∃t,iU (je CX P w K mg base N qual scope f cdv A outer s H E) body t/\t { nx:=λ _ H'=>Q .non H',rt:=Q } (start N vs) H) :
  gg P w K mg base CX (k + 1) f (U8 name qual params body scope dV kV doc pm an cdv ct) ps sp:=by
 refine ⟨len,λ A outer s H O p vs Q E g c B r l=>?_⟩;have M:=len _ _ _ _ l;have KX:K.In s.heap:=c.mod.kin.keeps λ b o e=>(c.bs b o e).1;have F:s.heap.NoLimit:=c.mod.nolimit.keeps λ b o e=>(c.bs b o e).1;have G :∀y∈ps.zip p,scope.names.lookup y.1=some .local\/(scope.names.lookup y.1=some .cell/\((cellsFrom (s.heap.objs.size + 1) scope.names []).lookup y.1).isSome=true):=λ ⟨n,v⟩ hy=>by
  rcases S.par n (V9 hy).1 with q|q
  ·exact .inl q
  ·exact .inr ⟨q,j81 _ _ _ (.inl q)⟩
 refine codeAny_call_function g.depth (KX _ _ lk) rfl S.co S.gen rfl (PySem.W.codeRec_of KX hcd) (B _ _ _ _ ?_);refine wpAny_newFunctionEnv_cells S.kind G λ R z m x=>?_;subst z;refine ⟨F.keeps x.toInCall.keep,codeAny_func ?_⟩;obtain ⟨t,D,L⟩:=hbody A outer s H vs Q E (g.deeper _) l;have I:Inv (je CX P w K mg base N qual scope f cdv A outer s H E) [] (start N vs) H m:=JH S g.hd c M r x;refine K5 (D [] m (start N vs) H _ I L) (λ C i a=>?_) λ e i a=>a;have j :∀{d:St} {H':Hp} {v:V} {u:ZH},Inv (je CX P w K mg base N qual scope f cdv A outer s H E) [] d H' i->RelV v u->Q v H'->CE outer P w H s Q u i:=
  λ {d H' v u} J h q=>⟨v,H',J.os,J.bare,J.base,J.hok,h,q⟩
 cases C with
 | ret u=>obtain ⟨v,d,H',J,h,q⟩:=a;exact j J h q
 | next=>obtain ⟨d,H',J,q⟩:=a;exact j (v:=V.non) (u:=Y2) J rfl q
 | brk=>obtain ⟨_,_,_,q⟩:=a;exact X7 q
 | cont=>obtain ⟨_,_,_,q⟩:=a;exact X7 q
section
variable {t:TA} {id T:String} {r:List V->Hp->VK->Prop}
def sZ (r:List V->Hp->VK->Prop) (t:TA):TE:=λ σ H Q=>t σ H λ vs H1=>r vs H1 Q
def cX (hc:cv X (.builtin id) r) (hg:Gl X x) (hm:X.mg x=none) (hv:K6 x=some (.builtin id)) (ha:PA X (e :: es) t) (hn:x≠"__name__":=by decide) (hdb:(x == ("__debug__" : ZR))=false:=by decide)
  (he:A2 (e :: es) X.env=(false,T4 e X.env) :: A2 es X.env:=by rfl) (hpl:(r6 pos (A2 es X.env)).any (·.1)=false:=by rfl):PE X (.Call (.Name x p) (e :: es) [] pos) (sZ r t):=by
 intro a s σ H Q I h;refine M5 (cL I hg hm hv ?_ hn hdb);exact Q8 (br (ha pos a s σ H _ I h) λ c b ⟨vs,H1,I1,r1,q1⟩=>hc a b σ H1 vs c Q I1 r1 q1) he hpl
def ri (hc:cv X (.type T) r) (hg:Gl X x) (hm:X.mg x=none) (hv:K6 x=some (.type T)) (ha:PA X (e :: es) t) (hn:x≠"__name__":=by decide) (hdb:(x == ("__debug__" : ZR))=false:=by decide)
  (he:A2 (e :: es) X.env=(false,T4 e X.env) :: A2 es X.env:=by rfl) (hpl:(r6 pos (A2 es X.env)).any (·.1)=false:=by rfl):PE X (.Call (.Name x p) (e :: es) [] pos) (sZ r t):=by
 intro a s σ H Q I h;refine M5 (cL I hg hm hv ?_ hn hdb);exact K3 (br (ha pos a s σ H _ I h) λ c b ⟨vs,H1,I1,r1,q1⟩=>hc a b σ H1 vs c Q I1 r1 q1) he hpl
end
end L2
namespace HT
open PySem PyProof.Rows
section
variable {prog:ZK} {w:U1} {A:P2} {E:ZH->I0->Prop} {s:I0}
def cat_tup {t b:ZS} {vs ws:List ZH} {Q:ZH->I0->Prop} (ht:IsTup s.heap t vs.toArray) (hb:IsTup s.heap b ws.toArray) (hv:vs≠[])
  (h1:ws=[]->Q (.ref t) s) (h2:ws≠[]->Q (.ref s.heap.objs.size) { s with heap:=s.heap.push { cls:=.type "tuple",data:=.seq (vs++ws).toArray } })
  (hsz:vs.length + ws.length<=ZG):X0 (P1 prog w) A (V6 .Add (.ref t) (.ref b)) Q E s:=by
 obtain ⟨⟨cls,m,data,f⟩,a,j,n,g⟩:=id ht;obtain ⟨⟨p,i,o,h⟩,c,l,k,d⟩:=id hb;simp only at j g l d;subst j g l d;have e:vs.toArray++ws.toArray=(vs++ws).toArray:=by simp
 by_cases hw:ws=[]
 ·exact j70 ⟨_,a,rfl⟩ ⟨_,c,rfl⟩ j80 seq_tuple_add j1h j17 (j0e _ _)
   (tuple_addW1 t b vs.toArray ws.toArray n k m i f h (by simpa using hv) (by simp [hw])) ⟨a,c,h1 hw⟩
 ·refine j70 ⟨_,a,rfl⟩ ⟨_,c,rfl⟩ j80 seq_tuple_add j1h j17 (j0e _ _)
   (tuple_addW2 t b vs.toArray ws.toArray n k m i f h (by simpa using hv) (by simpa using hw) (by rw [Q0,Q0];exact hsz)) ⟨a,c,?_⟩
  rw [e];exact h2 hw
noncomputable def sIx (n d:Nat):Option Int->Nat
 | none=>d
 | some v=>if v < 0 then (v + (n:Int)).toNat else min v.toNat n
def sIx_none (n d:Nat):sIx n d none=d:=rfl
theorem sIx_nat (n d k:Nat):sIx n d (some (k:Int))=min k n:=by show (if (k:Int) < 0 then ((k:Int) + (n:Int)).toNat else min (k:Int).toNat n)=min k n;rw [if_neg (by lia),Q5]
theorem oi (n d:Nat) (hd:d<=n) (o:Option Int):sIx n d o<=n:=by
 cases o with
 | none=>exact hd
 | some v=>
  show (if v < 0 then (v + (n:Int)).toNat else min v.toNat n)<=n;by_cases hv:v < 0
  ·rw [if_pos hv];lia
  ·rw [if_neg hv];exact Nat.min_le_right _ _
theorem zH (v:Int) (n d:Nat):(if v < 0 then max (v + (n:Int)) 0 else min v (n:Int))=((sIx n d (some v):Nat):Int):=by
 show (if v < 0 then max (v + (n:Int)) 0 else min v (n:Int))=(((if v < 0 then (v + (n:Int)).toNat else min v.toNat n):Nat):Int);by_cases hv:v < 0
 ·simp only [if_pos hv];lia
 ·simp only [if_neg hv];lia
theorem HF (lo hi:Option Int) (n:Nat):Q9 lo hi 1 (n:Int)=(((sIx n 0 lo:Nat):Int),((sIx n n hi:Nat):Int)):=by
 have a:¬ ((1:Int) < 0):=by lia
 unfold Q9;simp only [a,if_false];refine Prod.ext ?_ ?_
 ·cases lo with
  | none=>rfl
  | some v=>exact zH v n 0
 ·cases hi with
  | none=>rfl
  | some v=>exact zH v n n
theorem Dm (i j:Nat):M7 (i:Int) (j:Int) 1=j - i:=by
 unfold M7;have a:(1:Int) > 0:=by lia
 simp only [a,if_true,Int.ediv_one];split<;>lia
def AS {v:ZH} {o:Option Int} {Q:Option Int->I0->Prop} (p:j64 v o) (h:Q o s):X0 (P1 prog w) A (Builtin.Slice.slicePartIndex v) Q E s:=by
 cases p with
 | none=>exact slicePart_none h
 | int i t=>exact slicePart_int h
def DA {sl:ZS} {vl vu:ZH} {lo hi:Option Int} {n:Nat} {Q:Int×Int×Nat->I0->Prop} (hs:s.heap.IsSliceOf sl vl vu .none) (pl:j64 vl lo) (pu:j64 vu hi)
  (h:Q (((sIx n 0 lo:Nat):Int),1,sIx n n hi - sIx n 0 lo) s):X0 (P1 prog w) A (j41 (.ref sl) (i5 (n:Int))) Q E s:=by
 obtain ⟨d,a,c,b⟩:=id hs;unfold j41 Builtin.Slice.sliceFields;refine o0 (o0 (i7 a b (x:=vl) rfl (o0 (i7 a b (x:=vu) rfl (o0 (i7 a b (x:=.none) rfl (A0 ?_)))))));refine o0 (slicePart_none ?_);show X0 _ _ (if ((1:Int) == 0)=true then _ else _) _ _ s;rw [if_neg (by decide)];refine o0 (AS pl (o0 (AS pu (o0 (A0 ?_)))));show X0 _ _ (match Q9 lo hi 1 (n:Int) with|(lo,hi)=>i5 (lo,(1:Int),M7 lo hi 1)) _ _ s;rw [HF lo hi n];show X0 _ _ (i5 (((sIx n 0 lo:Nat):Int),(1:Int),M7 ((sIx n 0 lo:Nat):Int) ((sIx n n hi:Nat):Int) 1)) _ _ s;rw [Dm];exact A0 h
theorem Jb (xs:Array ZH) (i k:Nat):((N0 k).filterMap λ (m:Nat)=>xs[((i:Int) + (m:Int) * 1).toNat]?).toArray=((xs.toList.drop i).take k).toArray:=by
 have e:(λ (m:Nat)=>xs[((i:Int) + (m:Int) * 1).toNat]?)=λ m=>xs[i + m]?:=by
  funext m;have:((i:Int) + (m:Int) * 1).toNat=i + m:=by lia
  rw [this]
 rw [e];have:=pick_run xs i k;rw [List.filterMap_map] at this;have a:((λ x=>xs[x]?) ∘ λ x=>i + x)=λ m=>xs[i + m]?:=rfl;rw [a] at this;rw [this]
theorem getItem_tuple_cut {t sl:ZS} {items:Array ZH} {vl vu:ZH} {lo hi:Option Int} {Q:ZH->I0->Prop} (ht:IsTup s.heap t items) (hs:s.heap.IsSliceOf sl vl vu .none) (pl:j64 vl lo) (pu:j64 vu hi)
  (hw:¬ (sIx items.size 0 lo=0/\sIx items.size items.size hi=items.size))
  (h:Q (.ref s.heap.objs.size) { s with heap:=s.heap.push { cls:=.type "tuple",data:=.seq ((items.toList.drop (sIx items.size 0 lo)).take (sIx items.size items.size hi - sIx items.size 0 lo)).toArray } })
  (hsz:items.size<=ZG):X0 (P1 prog w) A (j4j (.ref t) (.ref sl)) Q E s:=by
 have a:sizeOk (.seq ((items.toList.drop (sIx items.size 0 lo)).take (sIx items.size items.size hi - sIx items.size 0 lo)).toArray):=by
  show ((items.toList.drop (sIx items.size 0 lo)).take (sIx items.size items.size hi - sIx items.size 0 lo)).toArray.size<=ZG;rw [Q0,Y1,P3,B1]
  lia
 have j:sIx items.size items.size hi<=items.size:=oi _ _ (L0 _) hi;obtain ⟨f,e,b,g⟩:=id hs;have c:s.TypeIs (.ref sl) "slice":=⟨f,e,b⟩
 unfold j4j
 try with_reducible refine F3 ?_
 first|refine o0 (A0 ?_)|skip
 refine o0 (wpAny_sequenceKey ht.typeIs (by decide) ?_);refine o0 (K4 (name:=P4 "__getitem__") ht.typeIs j32
  (N3 j32 ht.typeIs entry_tuple_getitem ?_ (args_tuple_getitem _ _)))
 show X0 _ _ (Builtin.Tuple.tupleItemsOf (.ref t) >>= _) _ _ s;refine o0 (tupleItemsOf_ ht ?_);refine o0 (N7 c ?_);rw [if_pos (by decide)];refine o0 (DA hs pl pu ?_);have d:¬ ((((sIx items.size 0 lo:Nat):Int) == 0 && (1:Int) == 1 && (sIx items.size items.size hi - sIx items.size 0 lo) == items.size)=true):=by intro q;rw [Z5,Z5] at q;have i:((sIx items.size 0 lo:Nat):Int)=0:=eq_of_beq q.1.1;have k:sIx items.size items.size hi - sIx items.size 0 lo=items.size:=eq_of_beq q.2;exact hw ⟨by lia,by lia⟩
 show X0 _ _ (if (((sIx items.size 0 lo:Nat):Int) == 0 && (1:Int) == 1 && (sIx items.size items.size hi - sIx items.size 0 lo) == items.size)=true then _ else _) _ _ s;rw [if_neg d,Jb];first
  | exact o0 (m:=T7 _) (M3 (A0 ⟨_,rfl,A0 h⟩) a)
  | exact o0 (m:=T7 _) (M3 (o0 (A0 (A0 ⟨_,rfl,A0 h⟩))) a)
  | exact o0 (o0 (m:=T7 _) (M3 (A0 (A0 ⟨_,rfl,A0 h⟩)) a))
  | exact o0 (o0 (m:=T7 _) (M3 (A0 ⟨_,rfl,A0 h⟩) a))
end
end HT
def Z_:=@if_neg
def ZZ:=@if_pos
def ZY:=@decide_eq_true
def ZX:=@decide_eq_false
def ZW:=@of_decide_eq_true
def ZV:=@of_decide_eq_false
def ZU:=@absurd
def ZT:=@congrArg
namespace L2
open PySem PySem.Spec PyProof.Rows
noncomputable abbrev TO:=St->Hp->(Option Int->Hp->Prop)->Prop
def PO (X:Cx) (e:Option ZO) (t:TO):Prop:=
 ∀(pins:List (ZS×ZQ)) (s:I0) (σ:St) (H:Hp) (Q:Option Int->Hp->Prop),Inv X pins σ H s->t σ H Q->
  X0 (P1 X.prog X.w) X.A (evalPart e X.env) (λ u s'=>∃o H',Inv X pins σ H' s'/\j64 u o/\Q o H') X.xe s
def JW:TO:=λ _ H Q=>Q none H
def pQ (t:TE):TO:=λ σ H Q=>t σ H λ x H1=>∃i,x=.int i/\Q (some i) H1
def sX {ns:List Int} :∀{us:List ZH},aD (ns.map V.int) us->i6 us ns:=by
 induction ns with
 | nil=>intro us r;rw [j28] at r;cases r;exact .nil
 | cons n ns ih=>
  intro us r;rw [O0] at r;cases r with
  | cons r1 r2=>obtain ⟨t,e⟩:=r1;subst e;exact .cons n t (ih r2)
variable {X:Cx} {e:ZO} {pos:ZP}
section
variable {te:TE} {lo hi:Option ZO} {tl th:TO} {p2:ZP}
def jA:PO X none JW:=by intro a s σ H Q I h;rw [evalPart_none];exact A0 ⟨none,H,I,.none,h⟩
def iT (h:PE X e te):PO X (some e) (pQ te):=by intro b s σ H Q I a;rw [evalPart_some];refine br (h b s σ H _ I a) λ u c ⟨x,H1,I1,r1,q1⟩=>?_;obtain ⟨i,rfl,q⟩:=q1;obtain ⟨t,rfl⟩:=r1;exact ⟨some i,H1,I1,.int i t,q⟩
def k_ (X:Cx) (r:V->Option Int->Option Int->Hp->VK->Prop):Prop:=
 ∀(pins:List (ZS×ZQ)) (s:I0) (σ:St) (H:Hp) (x:V) (v vl vu:ZH) (lo hi:Option Int) (sl:ZS) (Q:VK),Inv X pins σ H s->RelV x v->s.heap.IsSliceOf sl vl vu .none->j64 vl lo->j64 vu hi->r x lo hi H Q->
  ∃T id,typeLookup (.type T) "__getitem__" = i5 (some (.builtin id))/\s.TypeIs v T/\X0 (P1 X.prog X.w) X.A (j4j v (.ref sl)) (EP X pins σ Q) X.xe s
def k_.or {r r':V->Option Int->Option Int->Hp->VK->Prop} (h:k_ X r) (h':k_ X r'):k_ X (λ x lo hi H Q=>r x lo hi H Q\/r' x lo hi H Q):=by
 intro g s σ H x v i a lo hi d Q I c e b f q;rcases q with q|q
 ·exact h g s σ H x v i a lo hi d Q I c e b f q
 ·exact h' g s σ H x v i a lo hi d Q I c e b f q
def Lf (r:V->Option Int->Option Int->Hp->VK->Prop) (te:TE) (tl th:TO):TE:=λ σ H Q=>te σ H λ x H1=>tl σ H1 λ l H2=>th σ H2 λ u H3=>r x l u H3 Q
def jq {r:V->Option Int->Option Int->Hp->VK->Prop} (hr:k_ X r) (he:PE X e te) (hl:PO X lo tl) (hu:PO X hi th):PE X (.Subscript e (.Slice lo hi none p2) pos) (Lf r te tl th):=by intro c s σ H Q I h;refine Subscript_ (br (he c s σ H _ I h) λ v j ⟨x,H1,I1,r1,q1⟩=>?_);refine wpAny_Slice (br (hl c j σ H1 _ I1 q1) λ d g ⟨l,H2,I2,pl,q2⟩=>br (hu c g σ H2 _ I2 q2) λ f a ⟨u,H3,I3,pu,q3⟩=>?_);rw [evalPart_none];refine A0 ?_;have n:Inv X c σ H3 { a with heap:=a.heap.push { cls:=.type "slice",data:=.fields #[d,f,.none] } }:=I3.kept (t':=a.toks) λ b o q=>G0 _ q;obtain ⟨T,id,k,m,i⟩:=hr c { a with heap:=a.heap.push { cls:=.type "slice",data:=.fields #[d,f,.none] } } σ H3 x v d f l u a.heap.objs.size Q n r1 (Heap.IsSliceOf.new ..) pl pu q3;show X0 (P1 X.prog X.w) X.A (subscriptTail e (.Slice lo hi none p2) v (.ref a.heap.objs.size)) (EP X c σ Q) X.xe { a with heap:=a.heap.push { cls:=.type "slice",data:=.fields #[d,f,.none] } };exact tail_any (ops:=[.ref a.heap.objs.size,v]) m k i (by with_unfolding_all rfl)
noncomputable def cj (xs:List V) (lo hi:Option Int):List V:=(xs.drop (HT.sIx xs.length 0 lo)).take (HT.sIx xs.length xs.length hi - HT.sIx xs.length 0 lo)
theorem Bb (xs:List V) (lo hi:Option Int):(cj xs lo hi).length<=xs.length:=by
 unfold cj;rw [Y1,P3]
 lia
def oY (K:B0):V->Option Int->Option Int->Hp->VK->Prop:=λ x lo hi H Q=>∃a xs,x=.ref a/\aG K H a xs/\
 ¬ (HT.sIx xs.length 0 lo=0/\HT.sIx xs.length xs.length hi=xs.length)/\∀p,H p=none->Q (.ref p) (upd H p (.tup (cj xs lo hi)))
def iJ:k_ X (oY X.K):=by
 intro u s σ H x v y z d f A Q I n l k t h;obtain ⟨a,c,rfl,m,p,q⟩:=h;cases n;obtain ⟨j,r,g,i⟩:=I.tuple m;have e:j.toArray.size=c.length:=by rw [Q0];exact r.length.symm
 refine ⟨"tuple",_,PyProof.Rows.slot_tuple_getitem.lookup,g.typeIs,?_⟩;refine HT.getItem_tuple_cut g l k t (by rw [e];exact p) ?_ (by rw [e];exact i);rw [e];refine ⟨.ref s.heap.objs.size,_,I.laid (t':=s.toks) (o:=.tup (cj c d f)) (λ b w q=>G0 _ q) (L0 _) ?_,rfl,q _ (I.hok.fresh (L0 _))⟩;exact ⟨M0 (Bb c d f) i,_,(r.drop (HT.sIx c.length 0 d)).take (HT.sIx c.length c.length f - HT.sIx c.length 0 d),eO.new _ _⟩
def mC (K:B0):R2:=λ x y H Q=>∃a b xs ys,x=.ref a/\y=.ref b/\aG K H a xs/\aG K H b ys/\xs≠[]/\xs.length + ys.length<=ZG/\
 (ys=[]->Q (.ref a) H)/\(ys≠[]->∀p,H p=none->Q (.ref p) (upd H p (.tup (xs++ys))))
def aD.nil_iff {xs:List V} {us:List ZH} (r:aD xs us):us=[]↔xs=[]:=by
 cases r with
 | nil=>simp
 | cons _ _=>simp
def zx:c_ X (V6 .Add) (mC X.K):=by intro A s σ H x y v u Q I m l h;obtain ⟨a,b,t,n,rfl,rfl,p,g,k,e,j,i⟩:=h;cases m;cases l;obtain ⟨B,d,f,_⟩:=I.tuple p;obtain ⟨C,c,r,_⟩:=I.tuple g;refine HT.cat_tup f r (λ z=>k (d.nil_iff.mp z)) (λ z=>⟨.ref a,H,I,rfl,j (c.nil_iff.mp z)⟩) (λ z=>?_) (by rw [<-d.length,<-c.length];exact e);refine ⟨.ref s.heap.objs.size,_,I.laid (t':=s.toks) (o:=.tup (t++n)) (λ b D q=>G0 _ q) (L0 _) ?_,rfl,i (λ w=>z (c.nil_iff.mpr w)) _ (I.hok.fresh (L0 _))⟩;exact ⟨by rw [F0];exact e,_,d.append c,eO.new _ _⟩
end
noncomputable def kh (n:Nat) (i:Int):Option Nat:=if 0<=i then (if i < n then some i.toNat else none) else if -(n:Int)<=i then some (i + n).toNat else none
noncomputable def jE {α:Type} (xs:List α) (i:Int):Option α:=(kh xs.length i).bind λ j=>xs[j]?
variable {n:Nat}
theorem xP {i:Int} {j:Nat} (h:kh n i=some j):seqIndex? i n=some j/\j < n/\-(n:Int)<=i/\i < n:=by
 unfold kh at h;by_cases h0:0<=i
 ·rw [ZZ h0] at h;by_cases h1:i < n
  ·rw [ZZ h1] at h;have e:i.toNat=j:=G1 h;exact ⟨by rw [seqIndex_of h0 h1,e],by lia,by lia,h1⟩
  ·rw [Z_ h1] at h;cases h
 ·rw [Z_ h0] at h;by_cases h1:-(n:Int)<=i
  ·rw [ZZ h1] at h;have e:(i + n).toNat=j:=G1 h;exact ⟨by rw [seqIndex_neg (by lia) h1,e],by lia,h1,by lia⟩
  ·rw [Z_ h1] at h;cases h
def xM {α:Type} {xs:List α} {i:Int} {v:α} (h:jE xs i=some v) :∃j,seqIndex? i xs.length=some j/\xs[j]? = some v/\j < xs.length/\-(xs.length:Int)<=i/\i < xs.length:=by
 unfold jE at h;cases e:kh xs.length i with
 | none=>rw [e] at h;cases h
 | some j=>rw [e] at h;obtain ⟨d,b,a,c⟩:=xP e;exact ⟨j,d,h,b,a,c⟩
theorem bU {α:Type} {xs:List α} {j:Nat} {v:α} (h:xs[j]? = some v):jE xs (j:Int)=some v:=by
 have a:j < xs.length:=(List.getElem?_eq_some_iff.mp h).1;have e:kh xs.length (j:Int)=some j:=by unfold kh;rw [ZZ (by lia),ZZ (by lia)];simp
 unfold jE;rw [e];exact h
def Jt (b:ZO):Prop:=∀o i,j86 b false o i=operate [o,i] (j4j o i)
def lA (X:Cx) (r:R2):Prop:=
 ∀(value slice:ZO) (pins:List (ZS×ZQ)) (s:I0) (σ:St) (H:Hp) (x y:V) (v u:ZH) (Q:VK),Inv X pins σ H s->RelV x v->RelV y u->r x y H Q->
  j86 slice false v u=operate [v,u] (j4j v u)->X0 (P1 X.prog X.w) X.A (subscriptTail value slice v u) (EP X pins σ Q) X.xe s
def GX (X:Cx) (id:String) (r:V->List V->Hp->VK->Prop):Prop:=
 ∀(pins:List (ZS×ZQ)) (s:I0) (σ:St) (H:Hp) (x:V) (xs:List V) (v:ZH) (us:List ZH) (Q:VK),Inv X pins σ H s->RelV x v->aD xs us->r x xs H Q->
  X0 (P1 X.prog X.w) X.A (call (.builtin id) (v :: us)) (EP X pins σ Q) X.xe s
variable {A:P2} {H:Hp} {T:String} {its:List ZH} {pins:List (ZS×ZQ)} {s:I0} {u v:ZH} {x y:V} {σ:St}
section
variable {a b:ZO} {ta tb:TE} 
def lA.or {r r':R2} (h:lA X r) (h':lA X r'):lA X (λ x y H Q=>r x y H Q\/r' x y H Q):=by
 intro e b f s σ H x y v u Q I a c q d;rcases q with q|q
 ·exact h e b f s σ H x y v u Q I a c q d
 ·exact h' e b f s σ H x y v u Q I a c q d
def ao {r:R2} (hr:lA X r) (ha:PE X a ta) (hb:PE X b tb) (hs:Jt b):PE X (.Subscript a b pos) (oj r ta tb):=by intro g s σ H Q I h;exact Subscript_ (mJ ha hb I h λ v u i x y f c e d q=>hr a b g i σ f x y v u Q c e d q (hs _ _))
inductive uE (K:B0) (x y:V) (H:Hp) (Q:VK):Prop
 | mk (p:ZS) (xs:List V) (i:Int) (v:V) (a:x=.ref p) (b:y=.int i) (c:av K H p xs) (d:jE xs i=some v) (q:Q v H)
def pY (K:B0):R2:=λ x y H Q=>uE K x y H Q
inductive vN (K:B0) (x y:V) (H:Hp) (Q:VK):Prop
 | mk (p:ZS) (xs:List V) (i:Int) (v:V) (a:x=.ref p) (b:y=.int i) (c:aG K H p xs) (d:jE xs i=some v) (q:Q v H)
def qq (K:B0):R2:=λ x y H Q=>vN K x y H Q
def qj:R2:=λ x y H Q=>∃z i c,x=.str z/\y=.int i/\z.length<=ZG/\jE z.cps.toList i=some c/\Q (.str ⟨#[c]⟩) H
theorem lJ:lA X (pY X.K):=by
 intro L M e s σ H x y v u Q I n o h f;obtain ⟨p,G,i,z,rfl,rfl,D,k,q⟩:=h;cases n;obtain ⟨t,rfl⟩:=o;obtain ⟨l,r,b,N⟩:=I.list D;obtain ⟨j,a,F,O,B,A⟩:=xM k;obtain ⟨w,g,m⟩:=r.get F;have E:=r.length;have J:=fq;have d:EP X e σ Q w s:=⟨z,H,I,m,q⟩
 by_cases h0:0<=i
 ·have c:i.toNat=j:=by rw [seqIndex_of h0 A] at a;exact G1 a
  exact item_listR b.isList h0 (by lia) (by rw [c];simpa using g) d f
 ·have c:(i + (l.toArray.size:Int)).toNat=j:=by rw [seqIndex_neg (by lia) B] at a;rw [Q0,<-E];exact G1 a
  exact subscriptTail_builtinR (x:=w) b.isList.typeIs slot_list_getitem.lookup
   (wpAny_getItem_list_neg (Q:=λ r C=>r=w/\EP X e σ Q r C) b.isList (by lia) (by rw [Q0]<;>lia) (by lia) (by rw [c];simpa using g) ⟨rfl,d⟩) f
theorem mR:lA X (qq X.K):=by
 intro F G a s σ H x y v u Q I g k h e;obtain ⟨p,D,i,z,rfl,rfl,o,d,q⟩:=h;cases g;obtain ⟨t,rfl⟩:=k;obtain ⟨C,r,b,M⟩:=I.tuple o;obtain ⟨j,l,B,N,L,J⟩:=xM d;obtain ⟨w,m,f⟩:=r.get B;have A:=r.length;have E:=fq;have c:EP X a σ Q w s:=⟨z,H,I,f,q⟩
 exact subscriptTail_builtinR (x:=w) b.typeIs slot_tuple_getitem.lookup
  (getItem_tuple (j:=j) (Q:=λ r n=>r=w/\EP X a σ Q r n) b (by lia) (by lia) (by rw [Q0,<-A];exact l) (by simpa using m) ⟨rfl,c⟩) e
theorem oE:lA X qj:=by
 intro A B p s σ H x y v u Q I f g h d;obtain ⟨z,i,c,rfl,rfl,C,b,q⟩:=h;obtain ⟨t,rfl⟩:=f;obtain ⟨w,rfl⟩:=g;obtain ⟨j,a,o,D,l,k⟩:=xM b;have n:z.cps.toList.length=z.length:=by simp [Str.length]
 rw [n] at a l k;have r:=fq;exact tail_any (typeIs_str s z t) slot_str_getitem.lookup (getItem_str (c:=c) (by have e:decide (i < -(2 ^ 63:Int))=false:=ZX (by lia);have m:decide (i ≥ 2 ^ 63)=false:=ZX (by lia);rw [e,m,j44]) (by rw [a];simpa using o) ⟨.str ⟨#[c]⟩,H,I.tok _,⟨_,rfl⟩,q⟩) d
def yH (K:B0):R2:=λ x y H Q=>pY K x y H Q\/qq K x y H Q\/qj x y H Q
def ak:lA X (yH X.K):=lJ.or (mR.or oE)
def GR (its:List ZH) (n j:Nat) (u:ZH):g7 (·.setIfInBounds j u) { cls:=.type "list",data:=.seq its.toArray n }={ cls:=.type "list",data:=.seq (its.set j u).toArray n }:=by simp [g7]
def Inv.lst {p:ZS} {xs:List V} (I:Inv X pins σ H s) (h:H p=some (.lst xs)) :
  ∃(its:List ZH) (n:Nat),aD xs its/\s.heap.get? p=some { cls:=.type "list",data:=.seq its.toArray n }/\xs.length<=ZG:=by
 obtain ⟨z,its,n,r,e⟩:=I.hok p _ h;exact ⟨its,n,r,e,z⟩
def Inv.lstUpd {p:ZS} {xs ys:List V} {its':List ZH} {n':Nat} {f:ZQ->ZQ} (I:Inv X pins σ H s) (h:H p=some (.lst xs))
  (ho:s.heap.get? p=some { cls:=.type "list",data:=.seq its.toArray n }) (hf:f { cls:=.type "list",data:=.seq its.toArray n }={ cls:=.type "list",data:=.seq its'.toArray n' }) (r:aD ys its') (hz:ys.length<=ZG) (t:Nat) :
  Inv X pins σ (upd H p (.lst ys)) { s with heap:=s.heap.update p f,toks:=t }:=by
 have e:(s.heap.update p f).get? p=some { cls:=.type "list",data:=.seq its'.toArray n' }:=by rw [T3 f ho (by rw [hf]<;>rfl),hf]
 refine I.write (x:=p) (e:=p) (by rw [h];trivial) (.inl rfl) (λ b u a q=>(G7 _ _ (W5 a)).trans q) ⟨_,e⟩ ?_;exact ⟨hz,its',n',r,e⟩
def qA:V->V->V->Hp->(Hp->Prop)->Prop:=λ o i v H Q=>∃p xs k j,o=.ref p/\i=.int k/\H p=some (.lst xs)/\kh xs.length k=some j/\Q (upd H p (.lst (xs.set j v)))
theorem tO:pT X qA:=by
 intro x s σ H o i v E D u Q I A w C h;obtain ⟨p,y,k,j,rfl,rfl,f,z,q⟩:=h;cases A;obtain ⟨t,rfl⟩:=w;obtain ⟨e,n,r,b,B⟩:=I.lst f;obtain ⟨a,G,m,g⟩:=xP z;have d:=r.length;have F:=fq;have l:Inv X x σ (upd H p (.lst (y.set j v))) { s with heap:=s.heap.update p (g7 (·.setIfInBounds j u)) }:=
  I.lstUpd f b (GR e n j u) (r.set C j) (by rw [Y9];exact B) s.toks
 by_cases h0:0<=k
 ·have c:k.toNat=j:=by rw [seqIndex_of h0 g] at a;exact G1 a
  exact PySem.W.ki_setAt b h0 (by lia) (by rw [Q0,<-d];exact g) (by rw [c];exact ⟨_,l,q⟩)
 ·have c:(k + (e.toArray.size:Int)).toNat=j:=by rw [seqIndex_neg (by lia) m] at a;rw [Q0,<-d];exact G1 a
  exact PySem.W.ki_setBack b (by lia) (by rw [Q0,<-d];exact m) (by lia) (by rw [c];exact ⟨_,l,q⟩)
theorem Gv (lo hi:Option Int) (n:Nat):(j04 lo hi none n).1=((HT.sIx n 0 lo:Nat):Int)/\(j04 lo hi none n).2.1=((HT.sIx n n hi:Nat):Int)/\(j04 lo hi none n).2.2=1:=by
 refine ⟨?_,?_,rfl⟩
 ·cases lo with
  | none=>simp [j04,HT.sIx]
  | some i=>
   simp only [j04,HT.sIx,Option.getD_none,show (1:Int) > 0 by decide,if_true];by_cases h:i < 0
   ·simp only [h,if_true]<;>lia
   ·simp only [h,if_false]<;>lia
 ·cases hi with
  | none=>simp [j04,HT.sIx]
  | some i=>
   simp only [j04,HT.sIx,Option.getD_none,show (1:Int) > 0 by decide,if_true];by_cases h:i < 0
   ·simp only [h,if_true]<;>lia
   ·simp only [h,if_false]<;>lia
def JS (its:List ZH) (lo hi:Option Int):slicePick its.toArray lo hi none=((its.drop (HT.sIx its.length 0 lo)).take (HT.sIx its.length its.length hi - HT.sIx its.length 0 lo)).toArray:=by obtain ⟨c,b,a⟩:=Gv lo hi its.toArray.size;unfold slicePick;rw [c,b,a];simp only [sliceRange_one,pick_run,Q0]<;>rfl
def nq (K:B0):V->Option Int->Option Int->Hp->VK->Prop:=λ x lo hi H Q=>∃a xs,x=.ref a/\av K H a xs/\∀p,H p=none->Q (.ref p) (upd H p (.lst (cj xs lo hi)))
theorem lQ:k_ X (nq X.K):=by intro p s σ H x v w y d e z Q I l j i m h;obtain ⟨a,c,rfl,k,q⟩:=h;cases l;obtain ⟨t,r,f,n⟩:=I.list k;have g:=r.length;refine ⟨"list",_,slot_list_getitem.lookup,f.isList.typeIs,?_⟩;refine wpAny_getItem_list_slice f.isList j i m .none (by simp) ?_ (by rw [Q0]<;>lia);rw [JS,<-g];refine ⟨.ref s.heap.objs.size,_,I.laid (t':=s.toks) (o:=.lst (cj c d e)) (λ b u q=>G0 _ q) (L0 _) ?_,rfl,q _ (I.hok.fresh (L0 _))⟩;exact ⟨M0 (Bb c d e) n,_,0,(r.drop (HT.sIx c.length 0 d)).take (HT.sIx c.length c.length e - HT.sIx c.length 0 d),U0 _ rfl⟩
noncomputable def dM:V->Bool
 | .non=>true
 | .bl _=>true
 | .int _=>true
 | .str _=>true
 | _=>false
noncomputable def lR:V->V->Bool
 | .non,.non=>true
 | .bl a,.bl b=>a == b
 | .bl a,.int b=>(if a then 1 else 0) == b
 | .int a,.bl b=>a == (if b then 1 else 0)
 | .int a,.int b=>a == b
 | .str a,.str b=>a == b
 | _,_=>false
def nh (ry:RelV y u) (rx:RelV x v) (fy:dM y=true) (fx:dM x=true):SeqAt.EqAt A s u v (lR y x):=by
 cases y with
 | non=>
  cases ry;cases x with
  | non=>cases rx;exact SeqAt.EqAt.same _
  | bl b=>cases rx;exact SeqAt.EqAt.none_bool b
  | int b=>obtain ⟨t,rfl⟩:=rx;exact SeqAt.EqAt.none_int b t
  | str b=>obtain ⟨t,rfl⟩:=rx;exact SeqAt.EqAt.none_str b t
  | _=>exact ZU (show false=true from fx) R1
 | bl a=>
  cases ry;cases x with
  | non=>cases rx;exact SeqAt.EqAt.bool_none a
  | bl b=>cases rx;exact SeqAt.EqAt.bool_bool a b
  | int b=>obtain ⟨t,rfl⟩:=rx;exact SeqAt.EqAt.bool_int a b t
  | str b=>obtain ⟨t,rfl⟩:=rx;exact SeqAt.EqAt.bool_str a b t
  | _=>exact ZU (show false=true from fx) R1
 | int a=>
  obtain ⟨c,rfl⟩:=ry;cases x with
  | non=>cases rx;exact SeqAt.EqAt.int_none a c
  | bl b=>cases rx;exact SeqAt.EqAt.int_bool a c b
  | int b=>obtain ⟨t,rfl⟩:=rx;exact j8c a c b t
  | str b=>obtain ⟨t,rfl⟩:=rx;exact j8b a c b t
  | _=>exact ZU (show false=true from fx) R1
 | str a=>
  obtain ⟨c,rfl⟩:=ry;cases x with
  | non=>cases rx;exact SeqAt.EqAt.str_none a c
  | bl b=>cases rx;exact SeqAt.EqAt.str_bool a c b
  | int b=>obtain ⟨t,rfl⟩:=rx;exact j8a a c b t
  | str b=>obtain ⟨t,rfl⟩:=rx;exact SeqAt.EqAt.str_str a c b t
  | _=>exact ZU (show false=true from fx) R1
 | _=>exact ZU (show false=true from fy) R1
noncomputable def iz (x:V) (u:ZH):Bool:=match u with
 | .none=>lR .non x
 | .bool b=>lR (.bl b) x
 | .int i _=>lR (.int i) x
 | .str z _=>lR (.str z) x
 | _=>false
def jX (r:RelV y u) (f:dM y=true):iz x u=lR y x:=by
 cases y with
 | non=>cases r;rfl
 | bl b=>cases r;rfl
 | int i=>obtain ⟨t,rfl⟩:=r;rfl
 | str z=>obtain ⟨t,rfl⟩:=r;rfl
 | _=>exact ZU (show false=true from f) R1
theorem qR:∀{xs:List V} {us:List ZH},aD xs us->xs.all dM=true->us.any (iz x)=xs.any λ y=>lR y x
 | _,_,.nil,_=>rfl
 | y :: xs,u :: us,.cons r t,f=>by rw [List.all_cons,Z5] at f;rw [j1f,j1f,jX r f.1,qR t f.2]
theorem rP (rx:RelV x v) (fx:dM x=true) :∀{xs:List V} {us:List ZH},aD xs us->xs.all dM=true->∀u∈us,SeqAt.EqAt A s u v (iz x u)
 | _,_,.nil,_=>λ u a=>by cases a
 | y :: xs,u :: us,.cons r t,f=>λ b a=>by
  rw [List.all_cons,Z5] at f;rcases List.mem_cons.mp a with rfl|a
  ·rw [jX r f.1];exact nh r rx f.1 fx
  ·exact rP rx fx t f.2 b a
noncomputable def js (x:V) (xs:List V):Bool:=xs.any λ y=>lR y x
def rL (K:B0) (neg:Bool):R2:=λ x y H Q=>∃p xs,y=.ref p/\(av K H p xs\/aG K H p xs)/\dM x=true/\xs.all dM=true/\Q (.bl (if neg then !js x xs else js x xs)) H
def uf:c_ X (O3 .In) (rL X.K false):=by
 intro j s σ H x y v u Q I e g h;obtain ⟨p,k,rfl,b,f,fs,q⟩:=h;cases g;rcases b with b|b
 ·obtain ⟨a,r,c,i⟩:=I.list b;refine SeqAt.in_listAt (iz x) c.isList (λ w d=>rP e f r fs w (by simpa using d)) ⟨.bl _,H,I,rfl,?_⟩;rw [show a.toArray.any (iz x)=a.any (iz x) by simp,qR r fs];exact q
 ·obtain ⟨a,r,c,i⟩:=I.tuple b;refine SeqAt.in_tupleAt (iz x) c (λ w d=>rP e f r fs w (by simpa using d)) ⟨.bl _,H,I,rfl,?_⟩;rw [show a.toArray.any (iz x)=a.any (iz x) by simp,qR r fs];exact q
def sS:c_ X (O3 .NotIn) (rL X.K true):=by
 intro j s σ H x y v u Q I e g h;obtain ⟨p,k,rfl,b,f,fs,q⟩:=h;cases g;rcases b with b|b
 ·obtain ⟨a,r,c,i⟩:=I.list b;refine SeqAt.notIn_listAt (iz x) c.isList (λ w d=>rP e f r fs w (by simpa using d)) ⟨.bl _,H,I,rfl,?_⟩;rw [show a.toArray.any (iz x)=a.any (iz x) by simp,qR r fs];exact q
 ·obtain ⟨a,r,c,i⟩:=I.tuple b;refine SeqAt.notIn_tupleAt (iz x) c (λ w d=>rP e f r fs w (by simpa using d)) ⟨.bl _,H,I,rfl,?_⟩;rw [show a.toArray.any (iz x)=a.any (iz x) by simp,qR r fs];exact q
theorem gB:cv X (.builtin "len") (λ xs H Q=>∃p ys,xs=[.ref p]/\(av X.K H p ys\/aG X.K H p ys)/\Q (.int ys.length) H):=by
 intro k s σ H xs j Q I r h;obtain ⟨p,ys,rfl,a,q⟩:=h;obtain ⟨u,rfl,e⟩:=vals1 r;cases e;have i:=fq;rcases a with a|a
 ·obtain ⟨g,b,c,f⟩:=I.list a;have d:=b.length;exact Calls.call_len_list c.isList (by simp only [Q0]<;>lia) ⟨.int ys.length,H,I.tok _,⟨s.toks + 1,by rw [Q0,d]⟩,q⟩
 ·obtain ⟨g,b,c,f⟩:=I.tuple a;have d:=b.length;exact len_tuple c (by simp only [Q0]<;>lia) ⟨.int ys.length,H,I.tok _,⟨s.toks + 1,by rw [Q0,d]⟩,q⟩
theorem IK:cv X (.builtin "len") (λ xs H Q=>∃z,xs=[.str z]/\z.length<=ZG/\Q (.int z.length) H):=by intro c s σ H xs b Q I r h;obtain ⟨z,rfl,d,q⟩:=h;obtain ⟨u,rfl,t,rfl⟩:=vals1 r;have a:=fq;exact len_str (by lia) ⟨.int z.length,H,I.tok _,⟨_,rfl⟩,q⟩
def cv.or {f:ZH} {r r':List V->Hp->VK->Prop} (h:cv X f r) (h':cv X f r'):cv X f (λ xs H Q=>r xs H Q\/r' xs H Q):=by
 intro c s σ H xs b Q I a q;rcases q with q|q
 ·exact h c s σ H xs b Q I a q
 ·exact h' c s σ H xs b Q I a q
theorem wX:cv X (.type "list") (λ xs H Q=>∃p ys,xs=[.ref p]/\(av X.K H p ys\/aG X.K H p ys)/\∀l,H l=none->Q (.ref l) (upd H l (.lst ys))):=by
 intro y s σ H xs B Q I r h;obtain ⟨p,ys,rfl,j,q⟩:=h;obtain ⟨u,rfl,A⟩:=vals1 r;cases A;have x :∀(c:List ZH),aD ys c->ys.length<=ZG->∀(a:ZN) (d:Nat),(∀b o',s.heap.get? b=some o'->a.get? b=some o')->
   a.get? s.heap.objs.size=some { cls:=.type "list",dict:=none,data:=.seq c.toArray d,slots:=#[] }->EP X y σ Q (.ref s.heap.objs.size) { s with heap:=a }:=λ c f i a d g e=>
  ⟨.ref s.heap.objs.size,_,I.laid (t':=s.toks) g (L0 _) (show aY X.prog X.w _ a _ (.lst ys) from ⟨i,c,d,f,e⟩),rfl,q _ (I.hok.fresh (L0 _))⟩
 rcases j with j|j
 ·obtain ⟨c,f,k,i⟩:=I.list j;have z:=f.length;obtain ⟨o,m,t,n,v⟩:=k.isList;exact call_list_seq p (.inl rfl) m t v (λ a d g e=>x c f i a d g e) (by simp only [Q0]<;>lia)
 ·obtain ⟨c,f,k,i⟩:=I.tuple j;have z:=f.length;obtain ⟨o,m,t,n,v⟩:=k;exact call_list_seq p (.inr rfl) m t v (λ a d g e=>x c f i a d g e) (by simp only [Q0]<;>lia)
theorem Fm:cv X (.type "tuple") (λ xs H Q=>∃p ys,xs=[.ref p]/\((av X.K H p ys/\∀l,H l=none->Q (.ref l) (upd H l (.tup ys)))\/(aG X.K H p ys/\Q (.ref p) H))):=by
 intro i s σ H xs v Q I r h;obtain ⟨p,ys,rfl,h⟩:=h;obtain ⟨u,rfl,n⟩:=vals1 r;cases n;rcases h with ⟨g,q⟩|⟨g,q⟩
 ·obtain ⟨c,f,d,k⟩:=I.list g;have x:=f.length;refine call_tuple_list d.isList (λ a m=>?_) (by simp only [Q0]<;>lia);have j:Inv X i σ H { s with heap:=a }:=I.kept (t':=s.toks) m;have t:Inv X i σ (upd H a.objs.size (.tup ys)) { s with heap:=a.push { cls:=.type "tuple",data:=.seq c.toArray } }:=
   j.laid (t':=s.toks) (λ b o e=>G0 _ e) (L0 _) (show aY X.prog X.w _ _ _ (.tup ys) from ⟨k,c,f,eO.new _ _⟩)
  exact ⟨.ref a.objs.size,_,t,rfl,q _ (j.hok.fresh (L0 _))⟩
 ·obtain ⟨c,f,d,k⟩:=I.tuple g;exact call_tuple_same d ⟨.ref p,H,I,rfl,q⟩
def sV (K:B0) (T:String) (x:V) (H:Hp):Prop:=match x with
 | .str _=>T = "str"
 | .int _=>T = "int"
 | .ref p=>(T = "list"/\∃xs,av K H p xs)\/(T = "tuple"/\∃o,K.lookup p=some o/\o.cls=.type "tuple"/\o.dict=none)\/
   (T = "dict"/\((∃kvs,H p=some (.dK kvs))\/∃kvs,H p=some (.dT kvs)))\/(T = "set"/\∃S n,H p=some (.set S n))
 | _=>False
def oB (I:Inv X pins σ H s) (r:RelV x v) (ty:sV X.K T x H) :
  s.TypeIs v T/\∀a,v=.ref a->∃ob,s.heap.get? a=some ob/\ob.dict=none:=by
 cases x with
 | str z=>obtain ⟨t,rfl⟩:=r;cases (show T = "str" from ty);exact ⟨typeIs_str s z t,λ _ e=>nomatch e⟩
 | int i=>obtain ⟨t,rfl⟩:=r;cases (show T = "int" from ty);exact ⟨j9d s i t,λ _ e=>nomatch e⟩
 | ref p=>
  cases r;rcases ty with ⟨rfl,l,k⟩|⟨rfl,o,b,hc,f⟩|⟨rfl,b⟩|⟨rfl,S,n,b⟩
  ·obtain ⟨m,_,h,_⟩:=I.list k;refine ⟨h.isList.typeIs,λ a e=>?_⟩;cases e;obtain ⟨o,n,e,c,f,_⟩:=h;exact ⟨o,e,f⟩
  ·refine ⟨⟨o,I.kIn p o b,hc⟩,λ a e=>?_⟩;cases e;exact ⟨o,I.kIn _ o b,f⟩
  ·have z :∃o,s.heap.get? p=some o/\o.ExactDict:=by
    rcases b with ⟨j,b⟩|⟨j,b⟩
    ·obtain ⟨_,_,_,_,o,_,_,e,d,_⟩:=I.hok p _ b;exact ⟨o,e,d⟩
    ·obtain ⟨_,_,_,_,o,_,_,e,d,_⟩:=I.hok p _ b;exact ⟨o,e,d⟩
   obtain ⟨o,e,d⟩:=z;refine ⟨⟨o,e,d.1⟩,λ a g=>?_⟩;cases g;exact ⟨o,e,d.2.1⟩
  ·obtain ⟨o,_,_,_,e,d,_⟩:=I.hok p _ b;refine ⟨⟨o,e,d.1⟩,λ a g=>?_⟩;cases g;exact ⟨o,e,d.2.1⟩
 | _=>exact X7 ty
def kW (K:B0) (T:String) (r:V->List V->Hp->VK->Prop) (to:TE) (t:TA):TE:=λ σ H Q=>to σ H λ x H1=>sV K T x H1/\t σ H1 λ xs H2=>r x xs H2 Q
variable {o:ZO} {es:List ZO} {to:TE} {t:TA} {name:ZR} {apos cpos:ZP} {id:String} {r:V->List V->Hp->VK->Prop}
def fA (pa:PlainAttrs T) (slot:Slot T name id) (hty:typeOf (.builtin id)=i5 (.type "method_descriptor")) (hm:GX X id r) (ho:PE X o to) (ha:PA X (e :: es) t)
  (hbase:F5 o name X.env (T4 o X.env)=T4 o X.env:=by rfl)
  (hfew:((r6 cpos (A2 (e :: es) X.env)).all (λ x=>!x.1) && (b9 cpos (P6 [] X.env)).all (λ x=>x.1.isSome)
   && decide ((e :: es).length + ([]:List d6).length + (if ([]:List d6).isEmpty then 0 else 1) < 30))=true:=by rfl)
  (hline:(apos.endLine == cpos.line)=true:=by rfl) (hs:A2 (e :: es) X.env=(false,T4 e X.env) :: A2 es X.env:=by rfl) (hplain:(r6 cpos (A2 es X.env)).any (·.1)=false:=by rfl) :
  PE X (.Call (.Attribute o name apos) (e :: es) [] cpos) (kW X.K T r to t):=by
 intro a s σ H Q I h;refine wpAny_Call_method_late hbase hfew hline rfl (br (ho a s σ H _ I h) λ v c ⟨x,H1,I1,r1,ty,q1⟩=>?_);obtain ⟨d,i⟩:=oB I1 r1 ty;refine ⟨T,id,pa,slot,hty,d,i,?_⟩;have b:=ha cpos a c σ H1 _ I1 q1;rw [hs] at b⊢;refine y6 (by show (false || (r6 cpos (A2 es X.env)).any (·.1))=false;rw [hplain]<;>rfl) (O9 ?_);exact br b λ g f ⟨vs,H2,I2,r2,q2⟩=>hm a f σ H2 x vs v g Q I2 r1 r2 q2
end
def lZ (X:Cx) (id:String) (r:V->List V->Hp->VK->Prop):Prop:=
 ∀(pins:List (ZS×ZQ)) (s:I0) (σ:St) (H:Hp) (x:V) (xs:List V) (v:ZH) (us:List ZH) (Q:VK),Inv X pins σ H s->RelV x v->aD xs us->r x xs H Q->
  X0 (P1 X.prog X.w) X.A (call (.builtin id) (v :: us)) (EP X pins σ Q) X.xe s
theorem aD.one:∀{x:V} {us:List ZH},aD [x] us->∃u,us=[u]/\RelV x u
 | _,_,.cons r .nil=>⟨_,rfl,r⟩
theorem aD.two:∀{x y:V} {us:List ZH},aD [x,y] us->∃u v,us=[u,v]/\RelV x u/\RelV y v
 | _,_,_,.cons r (.cons q .nil)=>⟨_,_,rfl,r,q⟩
theorem aD.eraseIdx:∀{xs:List V} {us:List ZH} (i:Nat),aD xs us->aD (xs.eraseIdx i) (us.eraseIdx i)
 | _,_,_,.nil=>.nil
 | _,_,0,.cons _ t=>t
 | _,_,i + 1,.cons r t=>.cons r (aD.eraseIdx i t)
theorem aD.rep {xs:List V} {us:List ZH} (h:aD xs us) :∀k:Nat,aD (A1 k xs).flatten (A1 k us).flatten
 | 0=>.nil
 | k + 1=>by rw [y8,y8,j1b,j1b];exact aD.append h (aD.rep h k)
theorem Ci {α:Type} :∀(l:List α) (i:Nat),(l.eraseIdx i).length<=l.length
 | [],_=>L0 _
 | _ :: _,0=>z7 _
 | _ :: r,i + 1=>Nat.succ_le_succ (Ci r i)
theorem BP (its:List ZH) :∀(k:Nat) (acc:List ZH),
  List.foldl (λ x1 x2=>x1++x2) acc.toArray (A1 k its.toArray)=(acc++(A1 k its).flatten).toArray
 | 0,acc=>by simp
 | k + 1,acc=>by
  have e:acc.toArray++its.toArray=(acc++its).toArray:=by simp
  have a:(acc++its)++(A1 k its).flatten=acc++(A1 (k + 1) its).flatten:=by rw [y8,j1b,T2]
  rw [<-a,<-BP its k (acc++its),<-e,y8,U3]
variable {b:ZS} {t':Nat}
section
variable {l:ZS} {xs ys zs:List V}
def Inv.lset {its':List ZH} {f:Array ZH->Array ZH} (I:Inv X pins σ H s) (hH:H l=some (.lst xs))
  (e:s.heap.get? l=some { cls:=.type "list",data:=.seq its.toArray n }) (hf:f its.toArray=its'.toArray) (hv:aD ys its') (hz:ys.length<=ZG) :
  Inv X pins σ (upd H l (.lst ys)) { s with heap:=s.heap.update l (g7 f),toks:=t' }:=by
 have q:=PySem.IsL.update e f;rw [hf] at q;refine I.write (x:=l) (e:=l) (by rw [hH];exact trivial) (.inl rfl) (λ c u b a=>(G7 s.heap (g7 f) (W5 b)).trans a) ⟨_,q⟩ ?_;exact ⟨hz,its',_,hv,q⟩
def Inv.lnew (I:Inv X pins σ H s) (hv:aD ys its) (hz:ys.length<=ZG) :
  Inv X pins σ (upd H s.heap.objs.size (.lst ys)) { s with heap:=s.heap.push { cls:=.type "list",data:=.seq its.toArray },toks:=t' }:=
 I.laid (λ _ _ q=>G0 _ q) (L0 _) ⟨hz,its,0,hv,U0 _ rfl⟩
def Inv.fresh (I:Inv X pins σ H s):H s.heap.objs.size=none:=I.hok.fresh (L0 _)
def Inv.lstM (I:Inv X pins σ H s) (hH:H l=some (.lst xs)):xs.length<=ZG/\∃(its:List ZH) (n:Nat),aD xs its/\xs.length=its.length/\s.heap.get? l=some { cls:=.type "list",data:=.seq its.toArray n }:=by obtain ⟨z,its,n,r,e⟩:=I.hok l _ hH;exact ⟨z,its,n,r,r.length,e⟩
theorem zv (h:n<=ZG):V7 n=false:=by unfold V7;exact ZX (by lia)
end
section
def sU:V->List V->Hp->VK->Prop:=λ x vs H Q=>∃l xs y,x=.ref l/\vs=[y]/\H l=some (.lst xs)/\xs.length < ZG/\Q .non (upd H l (.lst (xs++[y])))
theorem DG:lZ X "list.append" sU:=by
 intro i s σ H x j v g Q I d f h;obtain ⟨l,o,y,rfl,rfl,b,k,q⟩:=h;cases d;obtain ⟨u,rfl,c⟩:=f.one;obtain ⟨z,a,n,r,m,e⟩:=I.lstM b;refine u9 F.slot_list_append ⟨_,e,rfl⟩ F.entry_list_append (F.args_list_append_2 _ _) (PySem.list_append l a.toArray n u (by rw [Q0];lia)) ⟨e,?_⟩;refine ⟨.non,_,I.lset (its':=a++[u]) b e (by simp) (r.append (.cons c .nil)) ?_,rfl,q⟩;rw [F0,List.length_singleton]
 lia
def sF:V->List V->Hp->VK->Prop:=λ x vs H Q=>∃l b xs zs,x=.ref l/\vs=[.ref b]/\H l=some (.lst xs)/\H b=some (.lst zs)/\xs.length + zs.length<=ZG/\Q .non (upd H l (.lst (xs++zs)))
theorem IJ:lZ X "list.extend" sF:=by
 intro y s σ H x A v w Q I k m h;obtain ⟨l,b,B,E,rfl,rfl,d,f,G,q⟩:=h;cases k;obtain ⟨u,rfl,g⟩:=m.one;cases g;obtain ⟨z,a,n,r,J,e⟩:=I.lstM d;obtain ⟨C,c,i,t,D,p⟩:=I.lstM f;have j:a.toArray.size + c.toArray.size<=ZG:=by rw [Q0,Q0];lia
 have o:¬ (not a.toArray.isEmpty && V7 (a.toArray.size + c.toArray.size))=true:=by rw [zv j,j37];exact R1
 refine u9 F.slot_list_extend ⟨_,e,rfl⟩ F.entry_list_extend (F.args_list_extend_2 _ _)
  (AutoSeq1.list_extend_list_list_0 l a.toArray n b c.toArray i o (by rw [Q0];lia) (by lia)) ⟨e,p,?_⟩
 refine ⟨.non,_,I.lset (its':=a++c) d e (by simp) (r.append t) ?_,rfl,q⟩;rw [F0]
 lia
def kO:V->List V->Hp->VK->Prop:=λ x vs H Q=>∃l xs i k y,x=.ref l/\vs=[.int i]/\H l=some (.lst xs)/\-(2 ^ 63)<=i/\i < 2 ^ 63/\seqIndex? i xs.length=some k/\xs[k]? = some y/\Q y (upd H l (.lst (xs.eraseIdx k)))
theorem He:lZ X "list.pop" kO:=by
 intro E s σ H x G v D Q I j p h;obtain ⟨l,B,i,k,y,rfl,rfl,b,m,C,g,d,q⟩:=h;cases j;obtain ⟨u,rfl,c⟩:=p.one;obtain ⟨t,rfl⟩:=c;obtain ⟨z,a,n,r,A,e⟩:=I.lstM b;obtain ⟨w,o,f⟩:=r.get d;refine u9 F.slot_list_pop ⟨_,e,rfl⟩ F.entry_list_pop (F.args_list_pop_2 _ _)
  (MeetsSeq.list_pop_at l a.toArray n i t k w (fitsIndex_both m C) (by rw [Q0,<-A];exact g) (by rw [<-G2];exact o) (by rw [Q0];lia)) ⟨e,?_⟩
 refine ⟨y,_,I.lset (its':=a.eraseIdx k) b e ?_ (r.eraseIdx k) ?_,f,q⟩
 ·show a.toArray.eraseIdxIfInBounds k=(a.eraseIdx k).toArray;rw [j59]
 ·have:=Ci B k
  lia
def sh:R2:=λ x y H Q=>∃l b xs zs,x=.ref l/\y=.ref b/\H l=some (.lst xs)/\H b=some (.lst zs)/\xs.length + zs.length<=ZG/\∀p,H p=none->Q (.ref p) (upd H p (.lst (xs++zs)))
theorem mX:c_ X (V6 .Add) sh:=by
 intro o s σ H x y v u Q I g f h;obtain ⟨l,b,D,A,rfl,rfl,m,d,B,q⟩:=h;cases g;cases f;obtain ⟨z,a,n,r,C,e⟩:=I.lstM m;obtain ⟨t,c,p,k,w,j⟩:=I.lstM d;refine PySem.P.add_list e j ?_ (by rw [Q0,Q0];lia);have i:a.toArray++c.toArray=(a++c).toArray:=by simp
 rw [i];exact ⟨.ref _,_,I.lnew (t':=s.toks) (r.append k) (by rw [F0];lia),rfl,q _ I.fresh⟩
def vE:R2:=λ x y H Q=>∃l k xs,x=.ref l/\y=.int k/\H l=some (.lst xs)/\-(2 ^ 63)<=k/\k < 2 ^ 63/\xs.length * k.toNat<=ZG/\
 ∀p,H p=none->Q (.ref p) (upd H p (.lst (A1 k.toNat xs).flatten))
def Bj {α:Type} (xs:List α) (k:Nat):(A1 k xs).flatten.length=k * xs.length:=by
 induction k with
 | zero=>simp
 | succ k ih=>rw [y8,j1b,F0,ih,Nat.succ_mul,j06]
theorem oN:c_ X (V6 .Mult) vE:=by
 intro K s σ H x y v u Q I o p h;obtain ⟨l,k,L,rfl,rfl,J,w,G,f,q⟩:=h;cases o;obtain ⟨t,rfl⟩:=p;obtain ⟨z,b,n,r,E,e⟩:=I.lstM J;have g:b.toArray.size * k.toNat<=ZG:=by rw [Q0,<-E];exact f
 have A:¬ b.toArray.size * k.toNat > (2 ^ 63 - 1) / 8:=by
  have:(ZG:Nat)<=(2 ^ 63 - 1) / 8:=by decide
  lia
 have D:¬ (!Builtin.List.listFitsIndex k)=true:=by rw [fitsIndex_both w G];exact R1
 have B:¬ V7 (b.toArray.size * k.toNat)=true:=by rw [zv g];exact R1
 have j:List.foldl (λ c d=>c++d) #[] (A1 (if b.toArray.isEmpty=true then 0 else k.toNat) b.toArray)=(A1 k.toNat b).flatten.toArray:=by
  have i :∀m:Nat,List.foldl (λ c d=>c++d) #[] (A1 m b.toArray)=(A1 m b).flatten.toArray:=λ m=>by have:=BP b m [];rw [W9] at this;exact this
  rw [i];cases b with
  | nil=>simp
  | cons a r'=>rw [Z_ (by simp)]
 refine wpAny_binaryOp_repeat_ref (T:="list") (U:="int") (by decide) ⟨_,e,rfl⟩ (λ C=>j9d C k t) noFill_list_mul F.fills_int_mul F.slot_int_rmul repeat_list F.slot_int_index.lookup
  (u9 F.slot_int_rmul (j9d s k t) F.entry_int_rmul (F.args_int_rmul_2 _ _) (int___rmul___int_list k t l b.toArray n)
   ⟨e,rfl,⟨_,e,rfl⟩,u9 F.slot_list_mul ⟨_,e,rfl⟩ F.entry_list_mul (F.args_list_mul_2 _ _) (AutoListH.list___mul___list_int_3 l b.toArray n k t D A B) ⟨e,?_⟩⟩)
 rw [j];exact ⟨.ref _,_,I.lnew (t':=s.toks) (r.rep k.toNat) (by rw [Bj,Nat.mul_comm];exact f),rfl,q _ I.fresh⟩
end
variable {E:ZH->I0->Prop} {w:U1}
section
variable {prog:ZK} 
set_option maxRecDepth 100000 in
end
variable {o:Option V}
section
variable {κ:Type} [DecidableEq κ]
noncomputable def aH (kvs:List (κ×V)) (k:κ):Option V:=(kvs.find? λ kv=>decide (kv.1=k)).map (·.2)
noncomputable def putK (kvs:List (κ×V)) (k:κ) (v:V):List (κ×V):=
 if (kvs.any λ kv=>decide (kv.1=k))=true then kvs.map (λ kv=>if kv.1=k then (kv.1,v) else kv) else kvs++[(k,v)]
def jQ {p:κ×V} {r:List (κ×V)} {k:κ} (e:p.1=k):aH (p :: r) k=some p.2:=by simp [aH,O8,e]
def kH {p:κ×V} {r:List (κ×V)} {k:κ} (e:¬ p.1=k):aH (p :: r) k=aH r k:=by simp [aH,O8,e]
theorem r_ (k:κ) :∀kvs:List (κ×V),(kvs.any λ kv=>decide (kv.1=k))=(aH kvs k).isSome
 | []=>rfl
 | p :: r=>by
  rw [j1f];by_cases e:p.1=k
  ·simp only [jQ e,ZY e,Bool.true_or,Option.isSome_some]
  ·rw [kH e,ZX e,Bool.false_or];exact r_ k r
theorem zX (k j:κ) (y:V) :∀kvs:List (κ×V),aH (kvs.map λ kv=>if kv.1=k then (kv.1,y) else kv) j=(aH kvs j).map λ x=>if j=k then y else x
 | []=>rfl
 | p :: r=>by
  have a:=zX k j y r;rw [O0];by_cases h:p.1=k
  ·rw [ZZ h];by_cases e:p.1=j
   ·rw [jQ (p:=(p.1,y)) e,jQ e,T6,ZZ (e.symm.trans h)]
   ·rw [kH (p:=(p.1,y)) e,kH e,a]
  ·rw [Z_ h];by_cases e:p.1=j
   ·rw [jQ (p:=p) e,jQ e,T6,Z_ (λ z=>h (e.trans z))]
   ·rw [kH (p:=p) e,kH e,a]
theorem A_ (k j:κ) (y:V) :∀kvs:List (κ×V),aH kvs k=none->aH (kvs++[(k,y)]) j=if j=k then some y else aH kvs j
 | [],_=>by
  by_cases e:k=j
  ·rw [ZZ e.symm];exact jQ (p:=(k,y)) e
  ·rw [Z_ (λ z=>e z.symm)];exact kH (p:=(k,y)) e
 | p :: r,hn=>by
  rw [List.cons_append];have a:¬ p.1=k:=λ z=>by rw [jQ z] at hn;cases hn
  rw [kH a] at hn;have b:=A_ k j y r hn;by_cases e:p.1=j
  ·rw [jQ e,jQ e,Z_ (λ z=>a (e.trans z))]
  ·rw [kH e,kH e,b]
def rh (kvs:List (κ×V)) (k j:κ) (y:V):aH (putK kvs k y) j=if j=k then some y else aH kvs j:=by
 unfold putK;by_cases a:(kvs.any λ b=>decide (b.1=k))=true
 ·rw [ZZ a,zX];rw [r_] at a;by_cases e:j=k
  ·obtain ⟨x,c⟩:=Option.isSome_iff_exists.mp a;rw [ZZ e,e,c,T6,ZZ rfl]
  ·rw [Z_ e];cases aH kvs j with
   | none=>rfl
   | some x=>rw [T6,Z_ e]
 ·rw [Z_ a];refine A_ k j y kvs ?_;rw [r_] at a;cases q:aH kvs k with
  | none=>rfl
  | some x=>rw [q] at a;exact (a rfl).elim
theorem tQ (kvs:List (κ×V)) (k:κ) (v:V):(putK kvs k v).length<=kvs.length + 1:=by
 unfold putK;split
 ·rw [q0];lia
 ·rw [F0,W0,v6];lia
def Eb {kvs:List (κ×V)} {k:κ} (v:V) (h:aH kvs k=none):putK kvs k v=kvs++[(k,v)]:=by unfold putK;rw [r_,h];exact Z_ (by decide)
def dP.isSome_eq {u:Option ZH} (r:dP o u):o.isSome=u.isSome:=by
 cases o with
 | none=>cases u with
  | none=>rfl
  | some _=>exact (show False from r).elim
 | some _=>cases u with
  | none=>exact (show False from r).elim
  | some _=>rfl
def dP.getD {u:Option ZH} {d:V} {d':ZH} (r:dP o u) (rd:RelV d d'):RelV (o.getD d) (u.getD d'):=by
 cases o with
 | none=>cases u with
  | none=>exact rd
  | some _=>exact (show False from r).elim
 | some _=>cases u with
  | none=>exact (show False from r).elim
  | some _=>exact r
def KV.val {kvs:List (κ×V)} {vs:List (κ×ZH)} (r:KV kvs vs) (k:κ):dP (aH kvs k) (j39 vs k):=by
 unfold KV at r;induction r with
 | nil=>exact True.intro
 | @cons p q ps qs h t ih=>
  obtain ⟨c,d⟩:=h;by_cases e:p.1=k
  ·have a:q.1=k:=c.symm.trans e;have b:j39 (q :: qs) k=some q.2:=by simp [j39,O8,a]
   rw [jQ e,b];exact d
  ·have a:¬ q.1=k:=λ z=>e (c.trans z);have b:j39 (q :: qs) k=j39 qs k:=by simp [j39,O8,a]
   rw [kH e,b];exact ih
def KV.any {kvs:List (κ×V)} {vs:List (κ×ZH)} (r:KV kvs vs) (k:κ):(kvs.any λ kv=>decide (kv.1=k))=vs.any λ kv=>decide (kv.1=k):=by
 unfold KV at r;induction r with
 | nil=>rfl
 | cons h t ih=>rw [j1f,j1f,ih,h.1]
def KV.repl {kvs:List (κ×V)} {vs:List (κ×ZH)} (r:KV kvs vs) (k:κ) (ry:RelV y u) :
  KV (kvs.map λ kv=>if kv.1=k then (kv.1,y) else kv) (vs.map λ kv=>if kv.1=k then (kv.1,u) else kv):=by
 unfold KV at r⊢;induction r with
 | nil=>exact .nil
 | @cons p q ps qs h t ih=>
  rw [O0,O0];refine .cons ?_ ih;obtain ⟨a,b⟩:=h;by_cases e:p.1=k
  ·rw [ZZ e,ZZ (a.symm.trans e)];exact ⟨a,ry⟩
  ·rw [Z_ e,Z_ (λ z=>e (a.trans z))];exact ⟨a,b⟩
def KV.put {kvs:List (κ×V)} {vs:List (κ×ZH)} (r:KV kvs vs) (k:κ) (ry:RelV y u):KV (putK kvs k y) (j7j vs k u):=by
 unfold putK j7j;rw [r.any k];by_cases e:(vs.any λ a=>decide (a.1=k))=true
 ·rw [ZZ e,ZZ e];exact r.repl k ry
 ·rw [Z_ e,Z_ e];exact Paired.snoc r ⟨rfl,ry⟩
def KV.keys {kvs:List (κ×V)} {vs:List (κ×ZH)} (r:KV kvs vs):kvs.map (·.1)=vs.map (·.1):=by
 unfold KV at r;induction r with
 | nil=>rfl
 | cons h t ih=>rw [O0,O0,ih,h.1]
def KV.length {kvs:List (κ×V)} {vs:List (κ×ZH)} (r:KV kvs vs):kvs.length=vs.length:=y9 r
end
variable {P:ZK}
def eW {k:Key} (r:RelV (kV k) u):(eJ P w).is k u=true:=by
 cases k with
 | inl i=>obtain ⟨t,e⟩:=(show∃t,u=P8 i t from r);subst e;exact GE P w i t
 | inr x=>obtain ⟨t,e⟩:=(show∃t,u=j53 x t from r);subst e;exact EG P w x t
theorem Ap:∀{ks:List Key} {us:List ZH},aD (ks.map kV) us->ItemsAre (eJ P w) ks us
 | [],_,r=>by rw [j28] at r;cases r;exact .nil
 | k :: ks,_,r=>by
  rw [O0] at r;cases r with
  | cons h t=>exact .cons (eW h) (Ap t)
abbrev KT (H:Hp):List (List Key×V)->List (List Key×ZS×ZH)->Prop:=j4f λ p q=>p.1=q.1/\H q.2.1=some (.tup (p.1.map kV))/\RelV p.2 q.2.2
variable {kvs:List (List Key×V)} {xs:List (List Key×ZS×ZH)}
def KT.val (r:KT H kvs xs) (k:List Key):dP (aH kvs k) ((atKey xs k).map (·.2)):=by
 induction r with
 | nil=>exact True.intro
 | @cons p q ps qs h t ih=>
  obtain ⟨c,_,d⟩:=h;by_cases e:p.1=k
  ·have a:q.1=k:=c.symm.trans e;have b:atKey (q :: qs) k=some q.2:=by simp [atKey,O8,a]
   rw [jQ e,b];exact d
  ·have a:¬ q.1=k:=λ z=>e (c.trans z);have b:atKey (q :: qs) k=atKey qs k:=by simp [atKey,O8,a]
   rw [kH e,b];exact ih
def KT.repl (r:KT H kvs xs) (k:List Key) (ry:RelV y u) :
  KT H (kvs.map λ kv=>if kv.1=k then (kv.1,y) else kv) (xs.map (putAt k u)):=by
 induction r with
 | nil=>exact .nil
 | @cons p q ps qs h t ih=>
  rw [O0,O0];refine .cons ?_ ih;obtain ⟨a,b,c⟩:=h;unfold putAt;by_cases e:p.1=k
  ·rw [ZZ e,ZZ (a.symm.trans e)];exact ⟨a,b,ry⟩
  ·rw [Z_ e,Z_ (λ z=>e (a.trans z))];exact ⟨a,b,c⟩
def KT.put (r:KT H kvs xs) (k:List Key) (hb:H b=some (.tup (k.map kV))) (ry:RelV y u) :
  KT H (putK kvs k y) (storedH xs k b u):=by
 have e:(kvs.any λ a=>decide (a.1=k))=(atKey xs k).isSome:=by rw [r_,(r.val k).isSome_eq,j45]
 unfold putK storedH;rw [e];by_cases q:(atKey xs k).isSome=true
 ·rw [ZZ q,ZZ q];exact r.repl k ry
 ·rw [Z_ q,Z_ q];exact Paired.snoc r ⟨rfl,hb,ry⟩
variable {H':Hp}
def KT.keeps (r:KT H kvs xs) (ht :∀b ys,H b=some (.tup ys)->H' b=some (.tup ys)):KT H' kvs xs:=
 Paired.mapP r λ _ _ z=>⟨z.1,ht _ _ z.2.1,z.2.2⟩
variable {a:ZS}
section
variable {h:ZN} 
def mv {u:HO} (ok:eC P w H h) (e:Rd H a u):aY P w H h a u:=e.ok ok
def fw {kvs:List (Key×V)} (ok:eC P w H h) (e:Rd H a (.dK kvs)):kvs.length<=ZG/\(a == z6)=false/\∃vs,KV kvs vs/\h.DictOf (eJ P w) a vs:=
 show aY P w H h a (.dK kvs) from mv ok e
def fJ {kvs:List (Key×V)} (ok:eC P w H h) (e:H a=some (.dK kvs)):kvs.length<=ZG/\(a == z6)=false/\∃vs,KV kvs vs/\h.DictOf (eJ P w) a vs:=fw ok (.inl e)
def eL {ks:List Key} (ok:eC P w H h) (e:H a=some (.tup (ks.map kV))):(j30 (eJ P w)).is h ks a:=by
 obtain ⟨_,d,r,⟨o,b,f,n,c⟩,_⟩:=(show aY P w H h a (.tup (ks.map kV)) from ok a _ e)
 exact ⟨o,d.toArray,n,b,f,c,by simpa using Ap r⟩
def fu (ok:eC P w H h) (e:Rd H a (.dT kvs)):kvs.length<=ZG/\(a == z6)=false/\
  ∃xs,KT H kvs xs/\h.DictOfH (j30 (eJ P w)) a xs:=by
 obtain ⟨z,y,xs,r,o,k,i,c,j,g,f,d⟩:=(show aY P w H h a (.dT kvs) from mv ok e)
 refine ⟨z,y,xs,r,o,k,i,c,j,g,f,λ x b=>?_,d⟩;have all :∀{l:List (List Key×V)} {m:List (List Key×ZS×ZH)},KT H l m->∀x∈m,(j30 (eJ P w)).is h x.1 x.2.1:=by
  intro l m q;induction q with
  | nil=>intro x b;exact nomatch b
  | @cons p q ps qs hq t ih=>
   intro x b;rcases List.mem_cons.mp b with e|b
   ·subst e;exact eL ok (by rw [<-hq.1];exact hq.2.1)
   ·exact ih x b
 exact all r x b
def rJ (ok:eC P w H h) (e:H a=some (.dT kvs)):kvs.length<=ZG/\(a == z6)=false/\
  ∃xs,KT H kvs xs/\h.DictOfH (j30 (eJ P w)) a xs:=fu ok (.inl e)
end
def dh (H:Hp) (a:ZS) (y:V) (r:Option V):Prop:=
 (∃kvs k,Rd H a (.dK kvs)/\y=kV k/\r=aH kvs k)\/∃kvs k b,Rd H a (.dT kvs)/\y=.ref b/\H b=some (.tup (k.map kV))/\r=aH kvs k
def fS (H:Hp) (a:ZS) (y v:V) (H':Hp):Prop:=
 (∃kvs k,H a=some (.dK kvs)/\y=kV k/\kvs.length < ZG/\H'=upd H a (.dK (putK kvs k v)))\/
 ∃kvs k b,H a=some (.dT kvs)/\y=.ref b/\H b=some (.tup (k.map kV))/\kvs.length < ZG/\H'=upd H a (.dT (putK kvs k v))
def dh.k {kvs:List (Key×V)} {k:Key} (e:H a=some (.dK kvs)):dh H a (kV k) (aH kvs k):=.inl ⟨kvs,k,.inl e,rfl,rfl⟩
def fS.k {kvs:List (Key×V)} {k:Key} {v:V} (e:H a=some (.dK kvs)) (hl:kvs.length < ZG):fS H a (kV k) v (upd H a (.dK (putK kvs k v))):=.inl ⟨kvs,k,e,rfl,hl,rfl⟩
def fS.t {k:List Key} {v:V} (e:H a=some (.dT kvs)) (eb:H b=some (.tup (k.map kV))) (hl:kvs.length < ZG) :
  fS H a (.ref b) v (upd H a (.dT (putK kvs k v))):=.inr ⟨kvs,k,b,e,rfl,eb,hl,rfl⟩
variable {Q:ZH->I0->Prop}
section
variable {v:V} {r:ZH} 
def Inv.big (I:Inv X pins σ H s):z6 < s.heap.objs.size:=by have h:M4 < s.heap.objs.size:=(I.mod.glob.keeps I.bk).lt;exact m8 (by decide) h
def JX (hu:A.units + 1 < ZF) (I:Inv X pins σ H s) (g:dh H a y (some v)) (ry:RelV y u) (h :∀w' s',Inv X pins σ H s'->RelV v w'->Q w' s') :
  X0 (P1 X.prog X.w) A (j4j (.ref a) u) Q E s:=by
 rcases g with ⟨n,k,e,j,l⟩|⟨n,k,b,e,j,eb,l⟩
 ·subst j;obtain ⟨z,q,x,c,f⟩:=fw I.hok e;obtain ⟨w',d,i⟩:=dP.some_of (v:=v) (o:=j39 x k) (by rw [l];exact c.val k);exact wpAny_getItem_of (eW ry) f.mapOf d (h w' _ (I.tok _) i)
 ·subst j;cases (show u=O2 b from ry);obtain ⟨z,q,t,c,f⟩:=fu I.hok e;obtain ⟨w',d,i⟩:=dP.some_of (v:=v) (o:=(atKey t k).map (·.2)) (by rw [l];exact c.val k);obtain ⟨p,m,r⟩:=Option.map_eq_some_iff.mp d;refine wpAny_getItem_heap (O7 hu) (eL I.hok eb) f m ?_;rw [r];exact h w' _ (I.tok _) i
def um (hu:A.units + 1 < ZF) (I:Inv X pins σ H s) (g:dh H a y o) (ry:RelV y u) (h :∀s',Inv X pins σ H s'->Q (.bool o.isSome) s') :
  X0 (P1 X.prog X.w) A (O3 .In u (.ref a)) Q E s:=by
 rcases g with ⟨j,k,e,f,l⟩|⟨j,k,b,e,f,eb,l⟩
 ·subst f;obtain ⟨z,d,n,c,i⟩:=fw I.hok e;refine wpAny_in_of (eW ry) d i.mapOf ?_;rw [<-(c.val k).isSome_eq,<-l];exact h _ (I.tok _)
 ·subst f;cases (show u=O2 b from ry);obtain ⟨z,d,m,c,i⟩:=fu I.hok e;refine wpAny_in_heap (O7 hu) (eL I.hok eb) d i ?_;have q:=(c.val k).isSome_eq;rw [j45] at q;rw [<-q,<-l];exact h _ (I.tok _)
def Lj (hu:A.units + 1 < ZF) (I:Inv X pins σ H s) (g:dh H a y o) (ry:RelV y u) (h :∀s',Inv X pins σ H s'->Q (.bool (!o.isSome)) s') :
  X0 (P1 X.prog X.w) A (O3 .NotIn u (.ref a)) Q E s:=by
 rcases g with ⟨j,k,e,f,l⟩|⟨j,k,b,e,f,eb,l⟩
 ·subst f;obtain ⟨z,d,n,c,i⟩:=fw I.hok e;refine wpAny_notIn_of (eW ry) d i.mapOf ?_;rw [<-(c.val k).isSome_eq,<-l];exact h _ (I.tok _)
 ·subst f;cases (show u=O2 b from ry);obtain ⟨z,d,m,c,i⟩:=fu I.hok e;refine wpAny_notIn_heap (O7 hu) (eL I.hok eb) d i ?_;have q:=(c.val k).isSome_eq;rw [j45] at q;rw [<-q,<-l];exact h _ (I.tok _)
def xf {h':ZN} {ob:HO} (I:Inv X pins σ H s) (mu:pX (H a)) (hs:v4 a s.heap h') (he :∃q,h'.get? a=some q) (new:aY X.prog X.w (upd H a ob) h' a ob) :
  Inv X pins σ (upd H a ob) { s with heap:=h',toks:=t' }:=
 I.write (x:=a) (e:=a) mu (.inl rfl) (λ b q c z=>(hs.2 b c).trans z) he new
def iK {h':ZN} {kvs:List (Key×V)} {vs:List (Key×ZH)} (z:kvs.length<=ZG) (hd:(a == z6)=false) (rel:KV kvs vs) (dd:h'.DictOf (eJ P w) a vs) :
  aY P w H' h' a (.dK kvs):=⟨z,hd,vs,rel,dd⟩
theorem GN {Q:Unit->I0->Prop} (hu:A.units + 1 < ZF) (I:Inv X pins σ H s) (g:fS H a y v H') (ry:RelV y u) (rv:RelV v r) (h :∀s',Inv X pins σ H' s'->Q () s') :
  X0 (P1 X.prog X.w) A (setItem (.ref a) u r) Q E s:=by
 rcases g with ⟨f,k,e,m,l,o⟩|⟨f,k,b,e,m,eb,l,o⟩
 ·subst m o;obtain ⟨z,t,G,d,B⟩:=fJ I.hok e;have p:G.length<=ZG:=by rw [<-d.length];exact z
  have x:(putK f k v).length<=ZG:=by have:=tQ f k v;lia
  refine wpAny_setItem_pairs (hsz:=p) (eW ry) B λ C i n=>h _ ?_;have F :∃q,C.get? a=some q:=let ⟨q,_,_,j,_⟩:=i;⟨q,j⟩;exact xf I (by rw [e];exact True.intro) n F (iK x t (d.put k rv) i)
 ·subst m o;cases (show u=O2 b from ry);obtain ⟨z,t,N,d,B⟩:=rJ I.hok e;have p:N.length<=ZG:=by rw [<-y9 d];exact z
  have x:(putK f k v).length<=ZG:=by have:=tQ f k v;lia
  refine wpAny_setItem_heap (hsz:=p) (O7 hu) (eL I.hok eb) B λ C i n=>h _ ?_;obtain ⟨q,P,J,j,O,M,L,_,K⟩:=i;refine xf I (by rw [e];exact True.intro) n ⟨q,j⟩ ⟨x,t,_,(d.put k eb rv).keeps λ c R D=>?_,q,P,J,j,O,M,L,K⟩;rw [ae (aK D e (λ z=>nomatch z))];exact D
end
def pZ (i:ZO):Prop:=∀ov iv,j86 i false ov iv=operate [ov,iv] (j4j ov iv)
def Dw {prog:ZK} {env:Env} {value slice:ZO} {id:String} 
  (hl:typeLookup (.type T) "__getitem__" = i5 (some (.builtin id))) (hs:pZ slice)
  (h:X0 (P1 prog w) A (T4 value env) (λ o s₁=>X0 (P1 prog w) A (T4 slice env) (λ i s₂=>s₂.TypeIs o T/\X0 (P1 prog w) A (j4j o i) Q E s₂) E s₁) E s) :
  X0 (P1 prog w) A (T4 (.Subscript value slice pos) env) Q E s:=by
 refine Subscript_ (K5 h (λ o s₁ f=>K5 f (λ i s₂ b=>?_) λ _ _ x=>x) λ _ _ x=>x);obtain ⟨c,b⟩:=b;unfold subscriptTail;refine o0 ?_;rw [getitemInPython_of_ne c.not_modules];refine o0 (j3c c hl ?_);have a:X0 (P1 prog w) A (j86 slice false o i) (λ r d=>X0 (P1 prog w) A (letTemporaryGo value o r >>= λ _=>i5 r) Q E d) E s₂:=by rw [hs o i];exact wpAny_operating (K5 b (λ r d e=>o0 (wpAny_letTemporaryGo (A0 e))) λ _ _ x=>x)
 first
  | exact A0 (o0 a)
  | exact o0 (A0 (o0 a))
  | exact o0 a
def HM (I:Inv X pins σ H s) (g:dh H a y o):s.TypeIs (.ref a) "dict":=by
 rcases g with ⟨d,k,e,_,_⟩|⟨d,k,b,e,_,_,_⟩
 ·obtain ⟨_,_,f,_,c⟩:=fw I.hok e;exact c.typeIs
 ·obtain ⟨_,_,h,_,c⟩:=fu I.hok e;exact c.typeIs
def ro (td ty:TE):TE:=λ σ H Q=>td σ H λ x H1=>ty σ H1 λ y H2=>∃a v,x=.ref a/\dh H2 a y (some v)/\Q v H2
def uv (ty td:TE):TE:=λ σ H Q=>ty σ H λ y H1=>td σ H1 λ x H2=>∃a o,x=.ref a/\dh H2 a y o/\Q (.bl o.isSome) H2
def ED (ty td:TE):TE:=λ σ H Q=>ty σ H λ y H1=>td σ H1 λ x H2=>∃a o,x=.ref a/\dh H2 a y o/\Q (.bl (!o.isSome)) H2
def qN (td ty tv:TE):TS:=λ D σ H=>tv σ H λ v H1=>td σ H1 λ x H2=>ty σ H2 λ y H3=>∃a H4,x=.ref a/\fS H3 a y v H4/\D.nx σ H4
section
variable {o i value:ZO} {pos' tpos:ZP} {td ty tv:TE}
def mn (hu:X.A.units + 1 < ZF) (ho:PE X o td) (hi:PE X i ty) (hs:pZ i):PE X (.Subscript o i pos) (ro td ty):=by intro b s σ H Q I h;refine Dw PySem.F.slot_dict_getitem.lookup hs (br (ho b s σ H _ I h) λ u c ⟨x,H1,I1,rx,q1⟩=>br (hi b c σ H1 _ I1 q1) λ f l ⟨y,H2,I2,ry,a,v,ex,g,q2⟩=>?_);subst ex;obtain rfl:u=O2 a:=rx;exact ⟨HM I2 g,JX hu I2 g ry λ j k e d=>⟨v,H2,e,d,q2⟩⟩
def iw (hu:X.A.units + 1 < ZF) (hi:PE X i ty) (ho:PE X o td):PC X .In i o (uv ty td):=by intro b s σ H Q I h;refine br (hi b s σ H _ I h) λ e c ⟨y,H1,I1,ry,q1⟩=>br (ho b c σ H1 _ I1 q1) λ u j ⟨x,H2,I2,rx,a,ov,ex,g,q2⟩=>?_;subst ex;obtain rfl:u=O2 a:=rx;exact um hu I2 g ry λ f d=>⟨.bl ov.isSome,H2,d,rfl,q2⟩
def Hw (hu:X.A.units + 1 < ZF) (hi:PE X i ty) (ho:PE X o td):PC X .NotIn i o (ED ty td):=by intro b s σ H Q I h;refine br (hi b s σ H _ I h) λ e c ⟨y,H1,I1,ry,q1⟩=>br (ho b c σ H1 _ I1 q1) λ u j ⟨x,H2,I2,rx,a,ov,ex,g,q2⟩=>?_;subst ex;obtain rfl:u=O2 a:=rx;exact Lj hu I2 g ry λ f d=>⟨.bl (!ov.isSome),H2,d,rfl,q2⟩
def mj (hu:X.A.units + 1 < ZF) (ho:PE X o td) (hi:PE X i ty) (hv:PE X value tv) (hs:swapsWith value (some (.Subscript o i pos')) pos.line X.env=i5 false) :
  PS X (.Assign [.Subscript o i pos'] value pos) (qN td ty tv):=by
 intro b s σ H D I h;refine wpAny_Assign_Subscript (br (hv b s σ H _ I h) λ r c ⟨v,H1,I1,rv,q1⟩=>br (ho b c σ H1 _ I1 q1) λ u e ⟨x,H2,I2,rx,q2⟩=>br (hi b e σ H2 _ I2 q2) λ f k ⟨y,H3,I3,ry,a,H4,ex,g,q3⟩=>?_) hs;subst ex;obtain rfl:u=O2 a:=rx;exact GN hu I3 g ry rv λ j d=>⟨σ,H4,d,q3⟩
end
def Fp (h:ZN) (hb:z6 < h.objs.size):aY P w H (h.push { cls:=.type "dict",data:=.dict #[] }) h.objs.size (.dK []):=
 ⟨K2 _,beq_eq_false_iff_ne.mpr (W5 (K1 hb)),[],.nil,j99 h⟩
def Hb (h:ZN) (hb:z6 < h.objs.size):aY P w H (h.push { cls:=.type "dict",data:=.dict #[] }) h.objs.size (.dT []):=
 ⟨K2 _,beq_eq_false_iff_ne.mpr (W5 (K1 hb)),[],.nil,_,#[],0,U0 _ rfl,⟨rfl,rfl,rfl⟩,rfl,rfl,B3⟩
def nY:TE:=λ _ H Q=>∀p,H p=none->Q (.ref p) (upd H p (.dK []))
def mM:TE:=λ _ H Q=>∀p,H p=none->Q (.ref p) (upd H p (.dT []))
section
def lH:PE X (.Dict [] [] pos) nY:=λ b s σ H Q I h=>wpAny_Dict_empty ⟨.ref s.heap.objs.size,_,I.laid (a:=s.heap.objs.size) (o:=.dK []) (t':=s.toks) (λ _ _ q=>G0 _ q) (L0 _) (Fp s.heap I.big),rfl,h _ (I.hok.fresh (L0 _))⟩
def ya:PE X (.Dict [] [] pos) mM:=λ b s σ H Q I h=>wpAny_Dict_empty ⟨.ref s.heap.objs.size,_,I.laid (a:=s.heap.objs.size) (o:=.dT []) (t':=s.toks) (λ _ _ q=>G0 _ q) (L0 _) (Hb s.heap I.big),rfl,h _ (I.hok.fresh (L0 _))⟩
end
noncomputable def km:List (TE×TE)->St->Hp->(List (V×V)->Hp->Prop)->Prop
 | [],_,H,Q=>Q [] H
 | (tk,tv) :: r,σ,H,Q=>tk σ H λ x H1=>tv σ H1 λ y H2=>km r σ H2 λ ps H3=>Q ((x,y) :: ps) H3
abbrev VV:List (V×V)->List (ZH×ZH)->Prop:=j4f λ p q=>RelV p.1 q.1/\RelV p.2 q.2
def HA (X:Cx) (pos:ZP) (keys:List (Option ZO)) (values:List ZO) (trs:List (TE×TE)):Prop:=
 ∀(pins:List (ZS×ZQ)) (s:I0) (σ:St) (H:Hp) (Q:List (V×V)->Hp->Prop),Inv X pins σ H s->km trs σ H Q->
  X0 (P1 X.prog X.w) X.A (evalPairs (pairTrees keys values X.env pos)) (λ vs s'=>∃ps H',Inv X pins σ H' s'/\VV ps vs/\Q ps H') X.xe s
noncomputable def dW (kvs more:List (Key×V)):List (Key×V):=more.foldl (λ acc kv=>putK acc kv.1 kv.2) kvs
def KV.merge:∀{more:List (Key×V)} {rs:List (Key×ZH)} {kvs:List (Key×V)} {vs:List (Key×ZH)},KV more rs->KV kvs vs->KV (dW kvs more) (merged vs rs):=by
 intro more rs kvs vs r;unfold KV at r;induction r generalizing kvs vs with
 | nil=>intro q;exact q
 | @cons p q ps qs h t ih=>
  intro a;have e:KV (putK kvs p.1 p.2) (j7j vs q.1 q.2):=by have:=a.put p.1 h.2;rw [<-h.1];exact this
  exact ih e
structure M1 (X:Cx) (o:ZO) (m:ZR) (apos:ZP) (e:ZO) (cpos:ZP):Prop where
 base:F5 o m X.env (T4 o X.env)=T4 o X.env
 few:((r6 cpos (A2 [e] X.env)).all (λ x=>!x.1) && (b9 cpos (P6 [] X.env)).all (λ x=>x.1.isSome)
  && decide (([e]:List ZO).length + ([]:List d6).length + (if ([]:List d6).isEmpty then 0 else 1) < 30))=true
 line:(apos.endLine == cpos.line)=true
 trees:r6 cpos (A2 [e] X.env)=[(false,T4 e X.env)]
structure M2 (X:Cx) (o:ZO) (m:ZR) (apos:ZP) (e f:ZO) (cpos:ZP):Prop where
 base:F5 o m X.env (T4 o X.env)=T4 o X.env
 few:((r6 cpos (A2 [e,f] X.env)).all (λ x=>!x.1) && (b9 cpos (P6 [] X.env)).all (λ x=>x.1.isSome)
  && decide (([e,f]:List ZO).length + ([]:List d6).length + (if ([]:List d6).isEmpty then 0 else 1) < 30))=true
 line:(apos.endLine == cpos.line)=true
 trees:r6 cpos (A2 [e,f] X.env)=[(false,T4 e X.env),(false,T4 f X.env)]
def sx (H:Hp) (a:ZS):Prop:=(∃kvs,Rd H a (.dK kvs))\/∃kvs,Rd H a (.dT kvs)
def fm (I:Inv X pins σ H s) (d:sx H a) :
  s.TypeIs (.ref a) "dict"/\(∀b,O2 a=.ref b->∃ob,s.heap.get? b=some ob/\ob.dict=none)/\(a == z6)=false:=by
 rcases d with ⟨i,e⟩|⟨i,e⟩
 ·obtain ⟨_,g,k,_,c⟩:=fw I.hok e;refine ⟨c.typeIs,λ b q=>?_,g⟩;cases q;obtain ⟨ob,_,_,f,h,_⟩:=c;exact ⟨ob,f,h.2.1⟩
 ·obtain ⟨_,g,j,_,c⟩:=fu I.hok e;refine ⟨c.typeIs,λ b q=>?_,g⟩;cases q;obtain ⟨ob,_,_,f,h,_⟩:=c;exact ⟨ob,f,h.2.1⟩
section
variable {d:V} {r:ZH} 
def ou (hu:A.units + 1 < ZF) (I:Inv X pins σ H s) (g:dh H a y o) (ry:RelV y u) (h :∀w' s',Inv X pins σ H s'->RelV (o.getD .non) w'->Q w' s') :
  X0 (P1 X.prog X.w) A (call (.builtin "dict.get") [.ref a,u]) Q E s:=by
 rcases g with ⟨j,k,e,i,l⟩|⟨j,k,b,e,i,eb,l⟩
 ·subst i;obtain ⟨z,f,n,d,c⟩:=fw I.hok e;refine j14 B6 c.typeIs W8 (j7e _ _) (meets_dict_get (eJ X.prog X.w) a (eW ry) f) ⟨_,c.mapOf,h _ _ (I.tok _) ?_⟩;rw [l];exact (d.val k).getD rfl
 ·subst i;cases (show u=O2 b from ry);obtain ⟨z,f,m,d,c⟩:=fu I.hok e;refine j14 B6 c.typeIs W8 (j7e _ _) (meetsH_dict_get (j30 (eJ X.prog X.w)) a b f) ⟨O7 hu,k,m,eL I.hok eb,c,h _ _ (I.tok _) ?_⟩;rw [l];exact (d.val k).getD rfl
def oH (hu:A.units + 1 < ZF) (I:Inv X pins σ H s) (g:dh H a y o) (ry:RelV y u) (rd:RelV d r) (h :∀w' s',Inv X pins σ H s'->RelV (o.getD d) w'->Q w' s') :
  X0 (P1 X.prog X.w) A (call (.builtin "dict.get") [.ref a,u,r]) Q E s:=by
 rcases g with ⟨m,k,e,j,l⟩|⟨m,k,b,e,j,eb,l⟩
 ·subst j;obtain ⟨z,i,p,f,c⟩:=fw I.hok e;refine j14 B6 c.typeIs W8 (j7d _ _ _) (meets_dict_get_default (eJ X.prog X.w) a (eW ry) i r) ⟨_,c.mapOf,h _ _ (I.tok _) ?_⟩;rw [l];exact (f.val k).getD rd
 ·subst j;cases (show u=O2 b from ry);obtain ⟨z,i,n,f,c⟩:=fu I.hok e;refine j14 B6 c.typeIs W8 (j7d _ _ _) (meetsH_dict_get_default (j30 (eJ X.prog X.w)) a b i r) ⟨O7 hu,k,n,eL I.hok eb,c,h _ _ (I.tok _) ?_⟩;rw [l];exact (f.val k).getD rd
end
def nu (td ty:TE):TE:=λ σ H Q=>td σ H λ x H1=>∃a,x=.ref a/\sx H1 a/\ty σ H1 λ y H2=>∃o,dh H2 a y o/\Q (o.getD .non) H2
def oJ (td ty tx:TE):TE:=λ σ H Q=>td σ H λ x H1=>∃a,x=.ref a/\sx H1 a/\ty σ H1 λ y H2=>tx σ H2 λ z H3=>∃o,dh H3 a y o/\Q (o.getD z) H3
section
variable {o f:ZO} {apos cpos:ZP} {td ty tx:TE}
def sJ (hu:X.A.units + 1 < ZF) (ho:PE X o td) (he:PE X e ty) (m:M1 X o "get" apos e cpos):PE X (.Call (.Attribute o "get" apos) [e] [] cpos) (nu td ty):=by intro b s σ H Q I h;refine j6f m.base m.few m.line d7 B6 j8d (br (ho b s σ H _ I h) λ u c ⟨x,H1,I1,rx,a,ex,d,q1⟩=>?_);subst ex;obtain rfl:u=O2 a:=rx;obtain ⟨j,i,_⟩:=fm I1 d;refine ⟨j,i,?_⟩;rw [m.trees];refine y6 rfl (O9 (Z3 (br (he b c σ H1 _ I1 q1) λ l q ⟨y,H2,I2,ry,ov,g,q2⟩=>c5 ?_)));exact ou hu I2 g ry λ n p k f=>⟨_,H2,k,f,q2⟩
def sN (hu:X.A.units + 1 < ZF) (ho:PE X o td) (he:PE X e ty) (hf:PE X f tx) (m:M2 X o "get" apos e f cpos):PE X (.Call (.Attribute o "get" apos) [e,f] [] cpos) (oJ td ty tx):=by
 intro b s σ H Q I h;refine j6f m.base m.few m.line d7 B6 j8d (br (ho b s σ H _ I h) λ u i ⟨x,H1,I1,rx,a,ex,d,q1⟩=>?_);subst ex;obtain rfl:u=O2 a:=rx;obtain ⟨l,k,_⟩:=fm I1 d;refine ⟨l,k,?_⟩;rw [m.trees];refine y6 rfl (O9 (Z3 (br (he b i σ H1 _ I1 q1) λ p c ⟨y,H2,I2,ry,q2⟩=>Z3 (br (hf b c σ H2 _ I2 q2) λ v q ⟨z,H3,I3,rz,ov,g,q3⟩=>c5 ?_))));exact oH hu I3 g ry rz λ t r n j=>⟨_,H3,n,j,q3⟩
end
end L2
namespace Att
open PySem PySem.W PySem.Calls PyProof.Rows
def GZ {P:B2} {h:ZN} :∀(ns:List Int) (vs:List ZH),WellAll P h vs (ns.map WData.int)->i6 vs ns:=by
 intro ns;induction ns with
 | nil=>intro vs w;rw [j28] at w;cases w;exact .nil
 | cons n ns ih=>
  intro vs w;rw [O0] at w;cases w with
  | cons a b=>cases a;exact .cons _ _ (ih _ b)
theorem FB {l:OpenLaw} {n:Nat} (hn:l.most=some n) {P:B2} {h:ZN} {args:List WData} {vals:List ZH}
  (hpre:l.row.toRowW.claim.pre args=true) (hwl:WellAll P h vals args) :
  ∃a vs ns,vals=[O2 a]/\args=[WData.list (ns.map WData.int)]/\h.get? a=some { cls:=.type "list",data:=.seq vs.toArray }/\i6 vs ns/\ns.length<=n:=by
 have f:WShape.hasAll [] args [.list .int]=true:=(pre_splitW hpre).1;have e:l.pre.holds [] { args:=args }=true:=(pre_splitW hpre).2;obtain ⟨d,r,rfl,i,m⟩:=hasAllW_cons f;obtain rfl:=hasAllW_nil m;obtain ⟨o,rfl,j⟩:=hasW_list i;obtain ⟨ns,rfl⟩:=items_int j;have k:ns.length<=n:=by
  unfold OpenLaw.pre at e;have c:(WTm.not (.lt (.lit (.int (n:Int))) (.len (.arg 0)))).holds [] { args:=[.list (ns.map .int)] }=true:=by have c:=(holds_andW e).1;rw [hn] at c;exact c
  have b:=condW_of c (w_not (w_lt w_lit (w_len_list (w_arg rfl))));rw [q0] at b;refine L9 λ q=>?_;have g:(n:Int) < ((ns.length:Nat):Int):=by lia
  first
   | (rw [ZY g] at b;exact ZU b (by decide))
   | (simp at b;lia)
 cases hwl with
 | cons w1 w2=>
  cases w2;cases w1 with
  | list ho hall=>exact ⟨_,_,ns,rfl,rfl,ho,GZ ns _ hall,k⟩
def Ft (l:OpenLaw) (args:List WData):l.row.toRowW.claim.post args (.bool true) args=true:=
 postW_of (r:=l.row.toRowW) (X:=(true == true))
  (show WShape.has [] (.bool true) .bool=true by first|rfl|decide|simp [WShape.has,WShape.arms,WShape.armsAll])
  (show (WTm.eq .res (.lit (.bool true))).value [] { args:=args,res:=some (.bool true),after:=args }=some (.bool (true == true)) from w_eq_bool (w_res rfl) w_lit) rfl
def attach_call {l:OpenLaw} {n:Nat} {q:ZK} {loose:List ZR} {XP:(ZR->Option ZH)->ZN->Prop} {YP:U1->ZN->Prop} {d:DefRec}
  (hn:l.most=some n) (hdf:d.params.defaults=[])
  (call :∀(w:U1) (s₀ s₁:I0) (mg mb:ZR->Option ZH) (fa:ZS) (o:ZQ) (pm cd doc:ZH) (a:ZS) (vs:List ZH) (ns:List Int),
   Ground q loose [] XP w s₀ mg mb s₁.heap->YP w s₁.heap->
   s₁.heap.get? fa=some o->o.data=.func (docDef d.name d.params d.body d.scope pm cd doc)->s₁.heap.CodeRec cd d.name->mg d.name=some (.ref fa)->
   s₁.heap.get? a=some { cls:=.type "list",data:=.seq vs.toArray }->i6 vs ns->ns.length<=n->s₁.gens = #[]->
   M8 (P1 l.prog w) j71 (.call (.ref fa) ⟨[.ref a],[]⟩) (λ r s'=>r=.ok (.ret (.bool true))/\OldK s₁.heap s'.heap/\s'.os=s₁.os/\j29 s'.gens) s₁) :
  WalkO q loose XP YP l.row.toRowW d [] (λ f vs=>PySem.call f vs):=by
 intro w s₀ s₁ mg mb G Y fa o pm cd doc j kV i v k b e g B C E t F A s D;obtain rfl:j=.none:=Dflts.none b hdf;obtain rfl:kV=.none:=Dflts.noKw b;obtain ⟨a,vs,ns,rfl,rfl,p,y,c⟩:=FB hn t s;refine enter_call (L8 (call w s₀ s₁ mg mb fa o pm cd doc a vs ns G Y i (fd_plain v) k e p y c g) λ r s' u=>?_);obtain ⟨rfl,z,x,m⟩:=u;exact ⟨.inl ⟨.bool true,.bool true,[],rfl,λ _=>rfl,.bool true,Ft l _,λ _=>⟨j2h,λ _ h=>(nomatch h)⟩⟩,z,x,m⟩
end Att
namespace L2
open PySem PySem.Spec PyProof.Rows
theorem u_:∀{vs:List ZH} {ns:List Int},i6 vs ns->aD (ns.map V.int) vs
 | _,_,.nil=>.nil
 | _,_,.cons n t h=>.cons ⟨t,rfl⟩ (u_ h)
def mQ (H:Hp):Prop:=∀b,H b=none\/∃o xs,H b=some (.frz o (.lst xs))
variable {K:B0} {P:ZK} {a:ZS} {fd:ZJ} {mg:ZR->Option ZH} {ns:List Int} {sp:Sp} {vs:List ZH} {w:U1} {x:ZR}
def DN {mb:ZR->Option ZH} {CX:lE} {k:Nat} {fa:ZS} {s₁:I0} 
  (KX:K.In s₁.heap) (hns:s₁.heap.Ns M4 mg) (hb:s₁.heap.Ns builtinsNs mb) (hbb :∀x:ZR,x≠"__name__"->mb x=K6 x) (hlim:s₁.heap.NoLimit) (hg:s₁.gens = #[])
  (ha:s₁.heap.get? a=some { cls:=.type "list",data:=.seq vs.toArray }) (hi:i6 vs ns) (hl:ns.length<=ZG) (hr:cF k j71)
  (F :∀base:ZN,K.In base->base.Ns M4 mg->gg P w K mg base CX k fa fd [x] sp) (hbind :∀(s:I0) (u:ZH),BindsTo s fd ⟨[u],[]⟩ [(x,u)])
  (hsp :∀H:Hp,mQ H->av K H a (ns.map V.int)->sp [.ref a] H (λ v _=>v=.bl true) λ _ _ _=>False)
  (hCX :∀H e s',CX [] H s₁ (λ _ _ _=>False) e s'->False) :
  M8 (P1 P w) j71 (.call (.ref fa) ⟨[.ref a],[]⟩) (λ r s'=>r=.ok (.ret (.bool true))/\OldK s₁.heap s'.heap/\s'.os=s₁.os/\j29 s'.gens) s₁:=by
 have y:=u_ hi;have S:=hi.length
 -- from an abstract heap in which nothing but the script may be tracked
 have i :∀H:Hp,mQ H->av K H a (ns.map V.int)->eC P w H s₁.heap->(∀b,H b≠none->b=a)->(H a≠none->K.lookup a=none)->
   M8 (P1 P w) j71 (.call (.ref fa) ⟨[.ref a],[]⟩) (λ r s'=>r=.ok (.ret (.bool true))/\OldK s₁.heap s'.heap/\s'.os=s₁.os/\j29 s'.gens) s₁:=by
  intro H p G A j D;have t :∀{b:ZS} {o:ZQ},s₁.heap.get? b=some o->H b=none->(gy s₁.heap H).get? b=some o:=λ e n=>FZ e n;have I :∀{b:ZS} {o:ZQ} {es:Array ZI} {ep:Nat},s₁.heap.get? b=some o->o.data=.dict es ep->H b=none:=λ {b o es ep} e d=>by
   cases q:H b with
   | none=>rfl
   | some u=>have g:b=a:=j b (by rw [q];simp);subst g;rw [ha] at e;cases e;have O:Data.seq vs.toArray _=Data.dict es ep:=d;cases O
  have f :∀{b:ZS} {m:ZR->Option ZH},s₁.heap.Ns b m->(gy s₁.heap H).Ns b m:=λ {b m} ⟨o,es,ep,e,d,r⟩=>⟨o,es,ep,t e (I e d),d,r⟩
  have B:K.In (gy s₁.heap H):=λ b o e=>t (KX b o e) (by
   cases q:H b with
   | none=>rfl
   | some u=>have g:b=a:=j b (by rw [q];simp);subst g;rw [D (by rw [q];simp)] at e;cases e)
  have C:Mod K mg (gy s₁.heap H):=⟨B,f hns,⟨mb,f hb,hbb⟩,let ⟨mc,h1,h2⟩:=hlim;⟨mc,f h1,h2⟩⟩
  have L:lD P w K mg (gy s₁.heap H) j71 [] s₁ H:=⟨rfl,C,λ b o e=>EL e,j2d (IP _ _),trivial,λ b hb=>ZU (show b∈([]:List ZS) from hb) (by simp),A,.of_eq hg⟩
  refine L8 ((F _ B (f hns)).run j71 [] s₁ H ⟨[.ref a],[]⟩ [.ref a] [.ref a] _ _ hr L (hbind s₁ (.ref a)) (.cons rfl .nil) (hsp H p G)) λ r s' h=>?_;cases r with
  | error e=>exact (hCX H e s' h).elim
  | ok fl=>
   cases fl with
   | next=>exact X7 h
   | brk=>exact X7 h
   | cont=>exact X7 h
   | ret u=>
    obtain ⟨v,T,os,M,un,Q,J,q⟩:=h;have R:v=.bl true:=q;subst R;obtain rfl:u=j72 true:=J;refine ⟨rfl,OldK.of_keep λ b o e=>?_,os,M⟩;cases q:H b with
    | none=>exact un.keep b o e q (by intro z;exact ZU (show b∈([]:List ZS) from z) (by simp)) (by simp)
    | some u=>
     rcases p b with z|⟨ob,xs,z⟩
     ·rw [q] at z;cases z
     ·have E:=un.frzs b ob _ z;obtain ⟨l,_⟩:=A b _ z;obtain ⟨N,_⟩:=Q b _ E;rw [e] at l;cases l;exact N
 cases hk:K.lookup a with
 | some o=>
  -- the script is one of the module's own objects
  have e:=KX a o hk;rw [ha] at e;cases e;refine i (λ _=>none) (λ _=>.inl rfl) (.inr ⟨_,vs.toArray,_,hk,rfl,rfl,rfl,by rw [Q0,S];exact hl,by simpa using y⟩) (λ b u z=>by have c:(none:Option HO)=some u:=z;cases c) (λ b z=>ZU rfl z) λ z=>ZU rfl z
 | none=>
  refine i (λ b=>if b=a then some (.frz { cls:=.type "list",data:=.seq vs.toArray } (.lst (ns.map V.int))) else none) (λ b=>?_) (.inl (.inr ⟨{ cls:=.type "list",data:=.seq vs.toArray },ZZ rfl⟩)) (λ b u z=>?_) (λ b z=>?_) λ _=>hk
  ·by_cases hb:b=a
   ·exact .inr ⟨_,_,ZZ hb⟩
   ·exact .inl (Z_ hb)
  ·by_cases hb:b=a
   ·have c:=(ZZ hb).symm.trans z;cases c;subst hb;exact ⟨ha,by rw [q0];exact hl,vs,_,y,ha⟩
   ·have c:=(Z_ hb).symm.trans z;cases c
  ·by_cases hb:b=a
   ·exact hb
   ·exact ZU (Z_ hb) z
variable {n:Nat}
def walk_of {l:PySem.W.OpenLaw} {k:Nat} {q:ZK} {loose:List ZR} {XP:(ZR->Option ZH)->ZN->Prop} {YP:U1->ZN->Prop} {d:DefRec} {K:B2->B0} {CX:U1->lE} {sp:U1->Sp} 
  (hn:l.most=some n) (hn2:n<=ZG) (hdf:d.params.defaults=[]) (hr:cF k j71)
  (hY :∀(w:U1) (h:ZN),YP w h->(K w.params).In h)
  (F :∀(w:U1) (mg:ZR->Option ZH) (fa:ZS) (h:ZN),(K w.params).In h->h.Ns M4 mg->mg d.name=some (.ref fa)->
   ∃fd:ZJ,(∀(s:I0) (u:ZH),BindsTo s fd ⟨[u],[]⟩ [(x,u)])/\
    ∀base:ZN,(K w.params).In base->base.Ns M4 mg->gg l.prog w (K w.params) mg base (CX w) k fa fd [x] (sp w))
  (hsp :∀(w:U1) (H:Hp) (a:ZS) (ns:List Int),ns.length<=n->mQ H->av (K w.params) H a (ns.map V.int)->sp w [.ref a] H (λ v _=>v=.bl true) λ _ _ _=>False)
  (hCX :∀(w:U1) (H:Hp) (s:I0) (e:ZH) (s':I0),CX w [] H s (λ _ _ _=>False) e s'->False) :
  PySem.W.WalkO q loose XP YP l.row.toRowW d [] (λ f vs=>PySem.call f vs):=by
 refine Att.attach_call hn hdf λ w C p mg B fa o D L I a vs ns G Y E J M j y A c r=>?_;have KX:=hY w _ Y;obtain ⟨fd,i,m⟩:=F w mg fa _ KX G.T.g j;exact DN KX G.T.g G.T.b G.T.builtins G.T.nolimit r y A (M0 c hn2) hr m i (λ H z t=>hsp w H a ns c z t) λ H e s'=>hCX w H p e s'
noncomputable def qD (s:ZM):Arguments:=match s with
 | .FunctionDef _ a _ _ _ _ _ _ _ _=>a
 | _=>{ posonlyargs:=[],args:=[],vararg:=none,kwonlyargs:=[],kw_defaults:=[],kwarg:=none,defaults:=[] }
noncomputable def pA (s:ZM):List ZM:=match s with
 | .FunctionDef _ _ b _ _ _ _ _ _ _=>b
 | _=>[]
noncomputable def da (s:ZM):ZE:=match s with
 | .FunctionDef _ _ _ _ _ _ sc _ _ _=>sc
 | _=>{ kind:=.function,names:=[],isGenerator:=false,isCoroutine:=false }
noncomputable abbrev CX0:lE:=λ _ _ _ _ _ _=>False
noncomputable abbrev E0:XK:=λ _ _ _=>False
variable {X:Cx}
def rg:iH CX0 X E0:=λ _ _ _ _ _ _ _ h=>h.elim
structure df (K:B0) (x qual:ZR) (st:ZM) (f:ZS) (fd:ZJ):Prop where
 ex :∃(oc:ZH) (od:Option ZS) (kV doc pm:ZH) (an:Option ZS) (cdv ct:ZH) (osl:Array (Option ZH)),
  fd=U8 x qual (qD st) (pA st) (da st) .none kV doc pm an cdv ct/\K.lookup f=some ⟨oc,od,.func fd,osl⟩/\j2c K cdv qual=true
 kp:c7 K (.ref f)=true
variable {f:ZS} {ps:List ZR} {qual:ZR} {st:ZM}
section
variable {base:ZN}
def df.ok {N:List ZR} {k:Nat} (F:df K x qual st f fd) (S:ax N ps (da st)) (len :∀vs H Q E,sp vs H Q E->vs.length=ps.length)
  (hbody :∀(cdv:ZH) (A:P2) (outer:List Env) (s:I0) (H:Hp) (vs:List V) (Q:VK) (E:XK),cF k (A.deeper (j61 qual (da st) s.heap.objs.size f cdv))->sp vs H Q E->
   ∃t,iU (je CX0 P w K mg base N qual (da st) f cdv A outer s H E).nox (pA st) t/\t { nx:=λ _ H'=>Q .non H',rt:=Q } (start N vs) H):gg P w K mg base CX0 (k + 1) f fd ps sp:=by
 obtain ⟨e,n,kV,i,g,m,cdv,j,l,rfl,a,c⟩:=F.ex;refine qV a c S len λ A outer s H vs Q E b d=>?_;obtain ⟨t,h,q⟩:=hbody cdv A outer s H vs Q E b d;exact ⟨t,h.nox,q⟩
def df.binds (F:df K x qual st f fd)
  (h :∀(kV doc pm:ZH) (an:Option ZS) (cdv ct:ZH) (us:List ZH),us.length=ps.length->bindArgs (U8 x qual (qD st) (pA st) (da st) .none kV doc pm an cdv ct) ⟨us,[]⟩=i5 (ps.zip us)):Binds K fd ps []:=by
 obtain ⟨a,d,kV,doc,pm,an,cdv,ct,b,rfl,c,e⟩:=F.ex;exact .all (h kV doc pm an cdv ct)
def oK {oc:ZH} {od an:Option ZS} {osl:Array (Option ZH)} {kV doc pm cdv ct:ZH} (l:K.lookup f=some ⟨oc,od,.func (U8 x qual (qD st) (pA st) (da st) .none kV doc pm an cdv ct),osl⟩)
  (c:j2c K cdv qual=true) (k:c7 K (.ref f)=true):df K x qual st f (U8 x qual (qD st) (pA st) (da st) .none kV doc pm an cdv ct):=⟨⟨oc,od,kV,doc,pm,an,cdv,ct,osl,rfl,l,c⟩,k⟩
end
variable {A:P2}
def bu {k:Nat} (hr:cF k A):A.units + 1 < ZF:=W1 (Nat.add_le_add_left (by decide:1<=64) _) hr.units
variable {pos:ZP}
section
def pv (i:Nat) (hN:X.N[i]? = some x:=by rfl) (hv:tS X.env.scope x:=by first|exact O1 rfl|exact N1 (O1 rfl)|exact N1 (N1 rfl)) (hd:(x == ("__debug__" : ZR))=false:=by decide)
  (hcd:(x == ("__classdict__" : ZR))=false:=by decide):PE X (.Name x pos) (qw i):=n9 hN hv hd hcd
end
variable {B:Prop}
def gf {A:Prop} (h:B):if false=true then A else B:=by rw [Z_ R1];exact h
def dk {A:Prop} (h:A):if true=true then A else B:=by rw [ZZ rfl];exact h
def dw {c A:Prop} [Decidable c] (h1:c->A) (h2:¬ c->B):if c then A else B:=by
 by_cases h:c
 ·rw [ZZ h];exact h1 h
 ·rw [Z_ h];exact h2 h
def Same (H H':Hp):Prop:=∀b o,H b=some o->H' b=some o
def Same.refl (H:Hp):Same H H:=λ _ _ h=>h
variable {H H1:Hp}
def Same.trans {H2:Hp} (a:Same H H1) (b:Same H1 H2):Same H H2:=λ c o h=>b c o (a c o h)
variable {H':Hp}
def Same.free (e:Same H H') {l:ZS} (h:H' l=Option.none):H l=Option.none:=by
 cases q:H l with
 | none=>rfl
 | some o=>rw [e l o q] at h;cases h
variable {xs:List V}
def Same.seq (e:Same H H') (h:av K H a xs):av K H' a xs:=by
 rcases h with (h|⟨o,h⟩)|h
 ·exact .inl (.inl (e _ _ h))
 ·exact .inl (.inr ⟨o,e _ _ h⟩)
 ·exact .inr h
variable {prog:ZK} {s:I0}
section
variable {R:j9j->I0->Prop} 
def Eo {elt target iter:ZO} {ifs:List ZO} {scope:ZE} {pos:ZP} {it acc:ZH} {env:Env} (J:Nat->I0->Prop)
  (turn :∀n s,J n s->X0 (P1 prog w) A (P7 it) (λ r s₁=>match r with
   | none=>R (.ok .next) s₁
   | some v=>X0 (P1 prog w) A (j3e target it v) (λ _ s₂=>X0 (P1 prog w) A (assign target env v) (λ _ s₃=>
     X0 (P1 prog w) A (j88 ifs true λ c r=>if r=true then do let ok <-isTrue c env (T4 c env);i5 (d5 ok) else i5 (d5 r)) (λ ok s₄=>
      if ok=true then X0 (P1 prog w) A (T4 elt env) (λ x s₅=>X0 (P1 prog w) A (call (.builtin "list.append") [acc,x]) (λ _ s₆=>∃m,m < n/\J m s₆) (λ _ _=>False) s₅) (λ _ _=>False) s₄
      else∃m,m < n/\J m s₄) (λ _ _=>False) s₃) (λ _ _=>False) s₂) (λ _ _=>False) s₁) (λ _ _=>False) s)
  (n:Nat) (h:J n s):M8 (P1 prog w) A (.compLoop (.ListComp elt [⟨target,iter,ifs,0⟩] scope pos) 0 it acc env) R s:=by
 refine codeAny_loop rfl J (λ n s g=>?_) n h;show X0 _ A ((compTurn (.ListComp elt [⟨target,iter,ifs,0⟩] scope pos) 0 it acc env).onRaise (λ x=>do noteFrame x env;theTreesLotGoes x)) _ _ s;refine wpAny_noted ?_;rw [compTurn_list];refine o0 (wpAny_standAt (o0 (K5 (turn n s g) (λ r s₁ b=>?_) λ _ _ f=>f.elim)));cases r with
 | none=>exact A0 b
 | some v=>
  refine o0 (K5 b (λ _ s₂ e=>o0 (K5 e (λ _ s₃ i=>o0 (K5 i (λ ok s₄ a=>?_) λ _ _ f=>f.elim)) λ _ _ f=>f.elim)) λ _ _ f=>f.elim);cases ok with
  | false=>exact A0 ⟨rfl,a⟩
  | true=>exact o0 (o0 (K5 a (λ x s₅ j=>o0 (K5 j (λ _ s₆ d=>A0 (A0 ⟨rfl,d⟩)) λ _ _ f=>f.elim)) λ _ _ f=>f.elim))
end
variable {env:Env}
theorem tU:∀(names:List (ZR×F8)) (acc:List (ZR×ZS)),(∀y∈names,y.2=v3->∃c,env.cells.lookup y.1=some c)->(∀y c,acc.lookup y=some c->env.cells.lookup y=some c)->
  ∃cl,(j88 names acc λ (x:ZR×F8) (r:List (ZR×ZS))=>(match x with
    | (name,kind)=>if (kind == v3)=true then do let c <-cellOf env name;i5 (d5 ((name,c) :: r)) else i5 (d5 r):Sem (ForInStep (List (ZR×ZS)))))=i5 cl/\
   (∀y c,cl.lookup y=some c->env.cells.lookup y=some c)/\(∀y,((y,v3)∈names\/∃c,acc.lookup y=some c)->∃c,cl.lookup y=some c)
 | [],acc,_,ha=>⟨acc,by rw [d9],ha,λ y h=>h.elim (λ z=>nomatch z) id⟩
 | (n,k) :: r,acc,hf,ha=>by
  rw [N8];dsimp only;by_cases hk:k=v3
  ·subst hk;obtain ⟨c,j⟩:=hf (n,.free) Y0 rfl;have e:cellOf env n=i5 c:=by unfold cellOf;rw [j]
   rw [ZZ (by rfl),e];obtain ⟨cl,f,i,g⟩:=tU r ((n,c) :: acc) (λ y a=>hf y (Z0 _ a)) (λ y d b=>by
    rw [j1j] at b;by_cases a:(y == n)=true
    ·rw [a] at b;have:=eq_of_beq a;subst this;cases b;exact j
    ·rw [j5i] at a;rw [a] at b;exact ha y d b)
   refine ⟨cl,f,i,λ y a=>g y ?_⟩;rcases a with a|⟨d,b⟩
   ·rcases List.mem_cons.mp a with z|z
    ·cases z;exact .inr ⟨c,by rw [j1j];simp⟩
    ·exact .inl z
   ·refine .inr ?_;rw [j1j];by_cases a:(y == n)=true
    ·rw [a];exact ⟨c,rfl⟩
    ·rw [j5i] at a;rw [a];exact ⟨d,b⟩
  ·rw [Z_ (by simpa using hk)];obtain ⟨cl,f,i,g⟩:=tU r acc (λ y a=>hf y (Z0 _ a)) ha;refine ⟨cl,f,i,λ y a=>g y ?_⟩;rcases a with a|a
   ·rcases List.mem_cons.mp a with z|z
    ·cases z;exact ZU rfl hk
    ·exact .inl z
   ·exact .inr a
variable {scope:ZE}
def Jk (hf :∀y∈scope.names,y.2=v3->∃c,env.cells.lookup y.1=some c) :
  ∃cl,closureFor scope env=i5 cl/\(∀y c,cl.lookup y=some c->env.cells.lookup y=some c)/\(∀y,(y,v3)∈scope.names->∃c,cl.lookup y=some c):=by
 obtain ⟨cl,a,e,d⟩:=tU (env:=env) scope.names [] hf (λ _ _ z=>nomatch z);refine ⟨cl,?_,e,λ y b=>d y (.inl b)⟩;simp only [closureFor];rw [a];rfl
variable {y:ZR}
theorem mem_of_lookup {κ:Type} {k:κ} :∀{l:List (ZR×κ)},l.lookup y=some k->(y,k)∈l
 | (n,c) :: r,h=>by
  rw [j1j] at h;by_cases hy:(y == n)=true
  ·rw [hy] at h;cases h;rw [eq_of_beq hy];exact Y0
  ·rw [j5i] at hy;rw [hy] at h;exact Z0 _ (mem_of_lookup h)
def yK (hcell :∀y∈scope.names,y.2≠NameKind.cell) {k:F8} (h:(j27 scope env).names.lookup y=some k) (hk:k=.cell\/k=.free):(y,v3)∈scope.names:=by
 have m:=mem_of_lookup h;unfold j27 at m;obtain ⟨⟨n,c⟩,a,e⟩:=List.mem_map.mp m;dsimp only at e;by_cases hc:(c == v3)=true
 ·have:=eq_of_beq hc;subst this;split at e<;>(injection e with e1 e2;subst e1;exact a)
 ·rw [Z_ (by simp [hc])] at e;injection e with e1 e2;subst e1 e2;rcases hk with rfl|rfl
  ·exact ZU rfl (hcell _ a)
  ·exact ZU rfl hc
noncomputable abbrev ck (X:Cx) (scope:ZE) (cl:List (ZR×ZS)) (N:List ZR) (C:ZS) (s₂:I0) (H₂:Hp) (fp:List ZS):Cx:=
 { X with N:=N,s₀:=s₂,H₀:=H₂,env:=compEnvC scope cl C X.env,outer:=X.stack,stack:=X.stack,ex:=fp,fn:=λ _=>false,pn:=[],xe:=λ _ _=>False }
def PF (X:Cx) (ifs:List ZO) (t:TT):Prop:=
 ∀(pins:List (ZS×ZQ)) (s:I0) (σ:St) (H:Hp) (Q:Bool->Hp->Prop),Inv X pins σ H s->t σ H Q->
  X0 (P1 X.prog X.w) X.A (j88 ifs true λ c r=>if r=true then do let ok <-isTrue c X.env (T4 c X.env);i5 (d5 ok) else i5 (d5 r)) (TP X pins σ Q) X.xe s
def b_:PF X [] (λ _ H Q=>Q true H):=λ _ _ _ H _ I h=>wpAny_tests_nil ⟨H,I,h⟩
def dy {c:ZO} {t:TT} (h:PT X c t):PF X [c] t:=λ a s σ H Q I q=>wpAny_tests_one (h a s σ H Q I q)
def aD.snoc {us:List ZH} {x:V} {u:ZH} (r:aD xs us) (q:RelV x u):aD (xs++[x]) (us++[u]):=aD.append r (.cons q .nil)
def cR (H:Hp) (x:V) (T:String):Prop:=match x with
 | .non=>T = "NoneType"
 | .bl _=>T = "bool"
 | .int _=>T = "int"
 | .str _=>T = "str"
 | .ref a=>((∃xs,H a=some (.lst xs))/\T = "list")\/((∃xs,H a=some (.tup xs))/\T = "tuple")\/((∃kvs,H a=some (.dK kvs))/\T = "dict")
 | _=>False
noncomputable def fN (T C:String):Bool:=T == C || (T == "bool" && C == "int")
variable {T:String}
def cR.ty {x:V} (h:cR H x T):fj K H x (.type T):=by
 cases x with
 | non=>cases (show T = "NoneType" from h);exact .non
 | bl b=>cases (show T = "bool" from h);exact .bl b
 | int i=>cases (show T = "int" from h);exact .int i
 | str z=>cases (show T = "str" from h);exact .str z
 | ref a=>
  rcases h with ⟨⟨c,e⟩,rfl⟩|⟨⟨c,e⟩,rfl⟩|⟨⟨c,e⟩,rfl⟩
  ·exact .lst e
  ·exact .tup e
  ·exact .dK e
 | _=>exact h.elim
def cR.one {x:V} (h:cR H x T):T = "NoneType"\/T = "bool"\/T = "int"\/T = "str"\/T = "list"\/T = "tuple"\/T = "dict":=by
 cases x with
 | non=>exact .inl h
 | bl b=>exact .inr (.inl h)
 | int i=>exact .inr (.inr (.inl h))
 | str z=>exact .inr (.inr (.inr (.inl h)))
 | ref a=>rcases h with ⟨_,rfl⟩|⟨_,rfl⟩|⟨_,rfl⟩<;>simp
 | _=>exact h.elim
noncomputable def nF:List String:=["int","str","bool","tuple","list"]
def ox (K:B0) {C:String} (h:T = "NoneType"\/T = "bool"\/T = "int"\/T = "str"\/T = "list"\/T = "tuple"\/T = "dict") (hC:C∈nF):j63 K (.type T) (.type C)=some (fN T C):=by
 have hC:C = "int"\/C = "str"\/C = "bool"\/C = "tuple"\/C = "list":=by simpa [nF] using hC
 rcases h with rfl|rfl|rfl|rfl|rfl|rfl|rfl<;>rcases hC with rfl|rfl|rfl|rfl|rfl<;>kernel_rfl
section
def kQ:cv X (.builtin "isinstance") (λ xs H Q=>∃x C T,xs=[x,.ty C]/\cR H x T/\C∈nF/\Q (.bl (fN T C)) H):=by intro g s σ H xs f Q I r h;obtain ⟨x,C,T,rfl,a,e,q⟩:=h;obtain ⟨u,d,rfl,b,c⟩:=vals2 r;cases (show d=U4 C from c);exact yO I b a.ty (ox X.K a.one e) λ tk=>⟨.bl _,H,I.tok tk,rfl,q⟩
theorem KM {ys:List V} {its:List ZH} (rv:aD ys its) (hb :∀y∈ys,∃b,y=V.bl b):((N0 its.length).all λ i=>decide (ys[i]? = some (V.bl true)))=ys.all λ y=>decide (y=V.bl true):=by
 have e:=rv.length;rw [Bool.eq_iff_iff,j5g,j5g];constructor
 ·intro h y d;obtain ⟨i,a,rfl⟩:=List.getElem_of_mem d;have:=h i (List.mem_range.mpr (by lia));simpa [a] using this
 ·intro h i a;have c:i < ys.length:=by have:=List.mem_range.mp a;lia
  have:=h ys[i] (o7 c);simpa [c] using this
def mx (hc:X.calm=true):cv X (.builtin "all") (λ xs H Q=>∃p ys,xs=[.ref p]/\av X.K H p ys/\(∀y∈ys,∃b,y=V.bl b)/\Q (.bl (ys.all λ y=>decide (y=V.bl true))) H):=by
 intro G s σ H xs F Q I r h;obtain ⟨p,ys,rfl,D,g,q⟩:=h;obtain ⟨u,rfl,t⟩:=vals1 r;cases t;obtain ⟨j,f,c,M⟩:=I.list D;have C:p≠s.heap.objs.size:=by obtain ⟨o,e,_⟩:=c.isList;exact K1 (T0 e)
 refine call_all_walk (c8 c.isList ?_);refine ⟨s.heap.objs.size,_,_,_,_,_,λ i=>decide (ys[i]? = some (V.bl true)),rfl,Walks.list (show X.A.in1.handled=none from I.ok.hd hc) s.heap.objs.size p C j.toArray,⟨⟨_,U0 _ rfl,rfl,rfl⟩,c.isList.at λ o e=>G0 _ e⟩,?_,?_⟩
 ·intro i v N L J a B;have a:j[i]? = some v:=by simpa using a
  obtain ⟨E,e⟩:=List.getElem?_eq_some_iff.mp a;have d:i < ys.length:=by rw [f.length];exact E
  obtain ⟨b,k⟩:=g ys[i] (o7 d);obtain ⟨u,l,m⟩:=f.get (i:=i) (x:=ys[i]) (by simp [d]);rw [a] at l;cases l;rw [k] at m;cases (show v=j72 b from m);have:decide (ys[i]? = some (V.bl true))=b:=by rw [C0 d,k];cases b<;>simp
  exact T5 (this ▸ B)
 ·intro O tk n;have e:=KM f g;rw [<-Q0] at e;refine ⟨.bl _,H,I.kept (t':=tk) λ b o z=>n b o ?_ (G0 _ z),rfl,e.symm ▸ q⟩;intro w;rw [List.mem_singleton.mp w] at z;exact ZU (T0 z) (N5 _)
def rB (i j:Int):Prop:=0 < j/\j < 2 ^ 64
theorem AZ:c_ X (V6 .FloorDiv) (rI rB λ i j=>.int (i / j)):=tH λ i j _ _ _ _ _ a q=>by
 obtain ⟨b,c⟩:=a;refine floordiv_int (by lia) ?_ (.inl (PyProof.noPylong_of_log2 ?_))
 ·rw [Int.fdiv_eq_ediv_of_nonneg _ (by lia)];exact q
 ·have:j.natAbs.log2 < 64:=(Nat.log2_lt (by lia)).mpr (by lia)
  lia
structure Dj (K:B0) (P:B2) (a:ZS) (kvs:List (ZR×V)):Prop where
 ex :∃es n,K.lookup a=some ⟨.type "dict",none,.dict es n,#[]⟩/\j4f (λ (p:ZR×V) (e:ZI)=>(∃t,e.key=.str p.1 t)/\e.hash=J2 P p.1/\RelV p.2 e.val) kvs es.toList
 lo:(a == z6)=false
structure xG (K:B0) (P:B2) (a:ZS) (kvs:List ((ZR×ZR)×V)):Prop where
 ex :∃es n,K.lookup a=some ⟨.type "dict",none,.dict es n,#[]⟩/\j4f (λ (p:(ZR×ZR)×V) (e:ZI)=>(∃(b:ZS) (t t':Tok) (m:Nat),e.key=.ref b/\K.lookup b=some ⟨.type "tuple",none,.seq #[.str p.1.1 t,.str p.1.2 t'] m,#[]⟩)/\
  e.hash=reduceHash (P9 [J2 P p.1.1,J2 P p.1.2])/\RelV p.2 e.val) kvs es.toList
 nd:(kvs.map (·.1)).Nodup
 lo:(a == z6)=false
end
structure vf (P:ZK) (w:U1) (K:B0) (mg:ZR->Option ZH) (base:ZN) (x:ZR) (ps:List ZR) (k:Nat) (sp:Sp):Prop where
 ex :∃f fd,gg P w K mg base CX0 k f fd ps sp/\mg x=some (.ref f)/\c7 K (.ref f)=true/\Binds K fd ps []
variable {e:ZO}
section
variable {k:Nat} {es:List ZO} {t:TA} {p:ZP}
def aj (c:vf X.prog X.w X.K X.mg X.base x ps k sp) (hr:cF k X.A) (hg:Gl X x) (ha:PA X (e :: es) t) (hn:x≠"__name__":=by decide) (hdb:(x == ("__debug__" : ZR))=false:=by decide)
  (he:A2 (e :: es) X.env=(false,T4 e X.env) :: A2 es X.env:=by rfl) (hpl:(r6 pos (A2 es X.env)).any (·.1)=false:=by rfl):PE X (.Call (.Name x p) (e :: es) [] pos) (jH sp [] E0 t):=by
 obtain ⟨f,g,F,a,b,d⟩:=c.ex;exact GK F hr hg a b d .nil rg ha hdb he hpl
end
structure TX (K:B0) (mg:ZR->Option ZH):Prop where
 of :∀{n:ZR} {v:ZH},u7 K M4 n=some (some v)->mg n=some v
 no :∀{n:ZR},u7 K M4 n=some none->mg n=none
variable {h:ZN}
def TX.mk' (X:K.In h) (G:h.Ns M4 mg):TX K mg:=⟨λ e=>PySem.W.mg_of X G e,λ e=>PySem.W.mg_none_of X G e⟩
section
def mq (K:B0):R2:=λ x y H Q=>lP (λ i j=>.int (i + j)) x y H Q\/(∃i j,x=.str i/\y=.str j/\i.length + j.length<=ZG/\Q (.str (i++j)) H)\/sh x y H Q\/mC K x y H Q
def bM:c_ X (V6 .Add) (mq X.K):=oR.or (iD.or (mX.or zx))
def du:c_ X (O3 .Eq) CB:=pP
def iY:c_ X (O3 .NotEq) AM:=qz
def gG:cv X (.builtin "len") (λ xs H Q=>(∃p ys,xs=[.ref p]/\(av X.K H p ys\/aG X.K H p ys)/\Q (.int ys.length) H)\/∃z,xs=[.str z]/\z.length<=ZG/\Q (.int z.length) H):=gB.or IK
end
noncomputable def pL (x:V) (g:Int):Bool:=match x with
 | .int i=>decide (-g<=i) && decide (i<=g)
 | _=>false
noncomputable def ft (H:Hp) (x:V):Option (List V):=match x with
 | .ref a=>(match H a with|some (.tup xs)=>some xs|_=>none)
 | _=>none
def cR.tuple {x:V} (t:cR H x "tuple") :∃a xs,x=.ref a/\H a=some (.tup xs):=by
 cases x with
 | ref a=>
  rcases t with ⟨_,z⟩|⟨⟨xs,h⟩,_⟩|⟨_,z⟩
  ·exact ZU z (by decide)
  ·exact ⟨a,xs,rfl,h⟩
  ·exact ZU z (by decide)
 | non=>exact ZU (show "tuple" = "NoneType" from t) (by decide)
 | bl b=>exact ZU (show "tuple" = "bool" from t) (by decide)
 | int i=>exact ZU (show "tuple" = "int" from t) (by decide)
 | str z=>exact ZU (show "tuple" = "str" from t) (by decide)
 | _=>exact t.elim
def cR.int {x:V} (t:cR H x "int") :∃i,x=.int i:=by
 cases x with
 | ref a=>rcases t with ⟨_,z⟩|⟨_,z⟩|⟨_,z⟩<;>exact ZU z (by decide)
 | non=>exact ZU (show "int" = "NoneType" from t) (by decide)
 | bl b=>exact ZU (show "int" = "bool" from t) (by decide)
 | int i=>exact ⟨i,rfl⟩
 | str z=>exact ZU (show "int" = "str" from t) (by decide)
 | _=>exact t.elim
def rW {x:V} (t:cR H x T) (h:T≠"int") (g:Int):pL x g=false:=by
 cases x with
 | int i=>exact ZU t h
 | _=>rfl
def qi {x:V} (t:cR H x T) (h:T≠"tuple"):ft H x=none:=by
 cases x with
 | ref a=>
  rcases t with ⟨⟨b,e⟩,_⟩|⟨_,z⟩|⟨⟨b,e⟩,_⟩
  ·unfold ft;dsimp only;rw [e]
  ·exact ZU z h
  ·unfold ft;dsimp only;rw [e]
 | _=>rfl
def BQ {x:V} (t:cR H x T) {C:String} (h:C≠"int"):fN T C=decide (T=C):=by
 unfold fN;have:(C == "int")=false:=by simpa using h
 rw [this,j37,j44,Bool.beq_eq_decide_eq]
def EI {names:List (ZR×F8)} {Q:ZR×F8->Prop} (h:(names.all λ y=>y.2 != v3)=true) :∀y∈names,y.2=v3->Q y:=λ y a e=>by have:=List.all_eq_true.mp h y a;rw [e] at this;exact ZU this (by decide)
variable {o:HO}
def Same.upd {p:ZS} (h:H p=none):Same H (upd H p o):=λ b u e=>by rw [ae (bZ e h)];exact e
def Same.seqT (e:Same H H') (h:aG K H a xs):aG K H' a xs:=by
 rcases h with (h|⟨o,h⟩)|h
 ·exact .inl (.inl (e _ _ h))
 ·exact .inl (.inr ⟨o,e _ _ h⟩)
 ·exact .inr h
universe u
inductive E2 {α0 α1:Type} (p:α0->α1->Prop):Prop|mk (a0:α0) (a1:α1) (h:p a0 a1):E2 p
inductive E3 {α0 α1 α2:Type} (p:α0->α1->α2->Prop):Prop|mk (a0:α0) (a1:α1) (a2:α2) (h:p a0 a1 a2):E3 p
inductive E4 {α0 α1 α2 α3:Type} (p:α0->α1->α2->α3->Prop):Prop|mk (a0:α0) (a1:α1) (a2:α2) (a3:α3) (h:p a0 a1 a2 a3):E4 p
inductive E5 {α0 α1 α2 α3 α4:Type} (p:α0->α1->α2->α3->α4->Prop):Prop|mk (a0:α0) (a1:α1) (a2:α2) (a3:α3) (a4:α4) (h:p a0 a1 a2 a3 a4):E5 p
inductive E6 {α0 α1 α2 α3 α4 α5:Type} (p:α0->α1->α2->α3->α4->α5->Prop):Prop|mk (a0:α0) (a1:α1) (a2:α2) (a3:α3) (a4:α4) (a5:α5) (h:p a0 a1 a2 a3 a4 a5):E6 p
inductive E7 {α0 α1 α2 α3 α4 α5 α6:Type} (p:α0->α1->α2->α3->α4->α5->α6->Prop):Prop|mk (a0:α0) (a1:α1) (a2:α2) (a3:α3) (a4:α4) (a5:α5) (a6:α6) (h:p a0 a1 a2 a3 a4 a5 a6):E7 p
inductive E8 {α0 α1 α2 α3 α4 α5 α6 α7:Type} (p:α0->α1->α2->α3->α4->α5->α6->α7->Prop):Prop|mk (a0:α0) (a1:α1) (a2:α2) (a3:α3) (a4:α4) (a5:α5) (a6:α6) (a7:α7) (h:p a0 a1 a2 a3 a4 a5 a6 a7):E8 p
inductive E9 {α0 α1 α2 α3 α4 α5 α6 α7 α8:Type} (p:α0->α1->α2->α3->α4->α5->α6->α7->α8->Prop):Prop|mk (a0:α0) (a1:α1) (a2:α2) (a3:α3) (a4:α4) (a5:α5) (a6:α6) (a7:α7) (a8:α8) (h:p a0 a1 a2 a3 a4 a5 a6 a7 a8):E9 p
inductive AJ {α0 α1 α2 α3 α4 α5 α6 α7 α8 α9:Type} (p:α0->α1->α2->α3->α4->α5->α6->α7->α8->α9->Prop):Prop|mk (a0:α0) (a1:α1) (a2:α2) (a3:α3) (a4:α4) (a5:α5) (a6:α6) (a7:α7) (a8:α8) (a9:α9) (h:p a0 a1 a2 a3 a4 a5 a6 a7 a8 a9):AJ p
inductive Js {α0 α1 α2 α3 α4 α5 α6 α7 α8 α9 α10:Type} (p:α0->α1->α2->α3->α4->α5->α6->α7->α8->α9->α10->Prop):Prop|mk (a0:α0) (a1:α1) (a2:α2) (a3:α3) (a4:α4) (a5:α5) (a6:α6) (a7:α7) (a8:α8) (a9:α9) (a10:α10) (h:p a0 a1 a2 a3 a4 a5 a6 a7 a8 a9 a10):Js p
inductive xY {α0 α1 α2 α3 α4 α5 α6 α7 α8 α9 α10 α11:Type} (p:α0->α1->α2->α3->α4->α5->α6->α7->α8->α9->α10->α11->Prop):Prop|mk (a0:α0) (a1:α1) (a2:α2) (a3:α3) (a4:α4) (a5:α5) (a6:α6) (a7:α7) (a8:α8) (a9:α9) (a10:α10) (a11:α11) (h:p a0 a1 a2 a3 a4 a5 a6 a7 a8 a9 a10 a11):xY p
inductive Iv {α0 α1 α2 α3 α4 α5 α6 α7 α8 α9 α10 α11 α12:Type} (p:α0->α1->α2->α3->α4->α5->α6->α7->α8->α9->α10->α11->α12->Prop):Prop|mk (a0:α0) (a1:α1) (a2:α2) (a3:α3) (a4:α4) (a5:α5) (a6:α6) (a7:α7) (a8:α8) (a9:α9) (a10:α10) (a11:α11) (a12:α12) (h:p a0 a1 a2 a3 a4 a5 a6 a7 a8 a9 a10 a11 a12):Iv p
inductive Ku {α0 α1 α2 α3 α4 α5 α6 α7 α8 α9 α10 α11 α12 α13:Type} (p:α0->α1->α2->α3->α4->α5->α6->α7->α8->α9->α10->α11->α12->α13->Prop):Prop|mk (a0:α0) (a1:α1) (a2:α2) (a3:α3) (a4:α4) (a5:α5) (a6:α6) (a7:α7) (a8:α8) (a9:α9) (a10:α10) (a11:α11) (a12:α12) (a13:α13) (h:p a0 a1 a2 a3 a4 a5 a6 a7 a8 a9 a10 a11 a12 a13):Ku p
inductive IZ {α0 α1 α2 α3 α4 α5 α6 α7 α8 α9 α10 α11 α12 α13 α14:Type} (p:α0->α1->α2->α3->α4->α5->α6->α7->α8->α9->α10->α11->α12->α13->α14->Prop):Prop|mk (a0:α0) (a1:α1) (a2:α2) (a3:α3) (a4:α4) (a5:α5) (a6:α6) (a7:α7) (a8:α8) (a9:α9) (a10:α10) (a11:α11) (a12:α12) (a13:α13) (a14:α14) (h:p a0 a1 a2 a3 a4 a5 a6 a7 a8 a9 a10 a11 a12 a13 a14):IZ p
inductive A3 (p0 p1 p2:Prop):Prop|mk (h0:p0) (h1:p1) (h2:p2):A3 p0 p1 p2
inductive A4 (p0 p1 p2 p3:Prop):Prop|mk (h0:p0) (h1:p1) (h2:p2) (h3:p3):A4 p0 p1 p2 p3
inductive A5 (p0 p1 p2 p3 p4:Prop):Prop|mk (h0:p0) (h1:p1) (h2:p2) (h3:p3) (h4:p4):A5 p0 p1 p2 p3 p4
inductive A6 (p0 p1 p2 p3 p4 p5:Prop):Prop|mk (h0:p0) (h1:p1) (h2:p2) (h3:p3) (h4:p4) (h5:p5):A6 p0 p1 p2 p3 p4 p5
inductive A7 (p0 p1 p2 p3 p4 p5 p6:Prop):Prop|mk (h0:p0) (h1:p1) (h2:p2) (h3:p3) (h4:p4) (h5:p5) (h6:p6):A7 p0 p1 p2 p3 p4 p5 p6
inductive A8 (p0 p1 p2 p3 p4 p5 p6 p7:Prop):Prop|mk (h0:p0) (h1:p1) (h2:p2) (h3:p3) (h4:p4) (h5:p5) (h6:p6) (h7:p7):A8 p0 p1 p2 p3 p4 p5 p6 p7
inductive A9 (p0 p1 p2 p3 p4 p5 p6 p7 p8:Prop):Prop|mk (h0:p0) (h1:p1) (h2:p2) (h3:p3) (h4:p4) (h5:p5) (h6:p6) (h7:p7) (h8:p8):A9 p0 p1 p2 p3 p4 p5 p6 p7 p8
inductive Jv (p0 p1 p2 p3 p4 p5 p6 p7 p8 p9:Prop):Prop|mk (h0:p0) (h1:p1) (h2:p2) (h3:p3) (h4:p4) (h5:p5) (h6:p6) (h7:p7) (h8:p8) (h9:p9):Jv p0 p1 p2 p3 p4 p5 p6 p7 p8 p9
inductive tq (p0 p1 p2 p3 p4 p5 p6 p7 p8 p9 p10:Prop):Prop|mk (h0:p0) (h1:p1) (h2:p2) (h3:p3) (h4:p4) (h5:p5) (h6:p6) (h7:p7) (h8:p8) (h9:p9) (h10:p10):tq p0 p1 p2 p3 p4 p5 p6 p7 p8 p9 p10
inductive E_ (p0 p1 p2 p3 p4 p5 p6 p7 p8 p9 p10 p11:Prop):Prop|mk (h0:p0) (h1:p1) (h2:p2) (h3:p3) (h4:p4) (h5:p5) (h6:p6) (h7:p7) (h8:p8) (h9:p9) (h10:p10) (h11:p11):E_ p0 p1 p2 p3 p4 p5 p6 p7 p8 p9 p10 p11
inductive Bt (p0 p1 p2 p3 p4 p5 p6 p7 p8 p9 p10 p11 p12:Prop):Prop|mk (h0:p0) (h1:p1) (h2:p2) (h3:p3) (h4:p4) (h5:p5) (h6:p6) (h7:p7) (h8:p8) (h9:p9) (h10:p10) (h11:p11) (h12:p12):Bt p0 p1 p2 p3 p4 p5 p6 p7 p8 p9 p10 p11 p12
inductive DM (p0 p1 p2 p3 p4 p5 p6 p7 p8 p9 p10 p11 p12 p13:Prop):Prop|mk (h0:p0) (h1:p1) (h2:p2) (h3:p3) (h4:p4) (h5:p5) (h6:p6) (h7:p7) (h8:p8) (h9:p9) (h10:p10) (h11:p11) (h12:p12) (h13:p13):DM p0 p1 p2 p3 p4 p5 p6 p7 p8 p9 p10 p11 p12 p13
inductive Iu (p0 p1 p2 p3 p4 p5 p6 p7 p8 p9 p10 p11 p12 p13 p14:Prop):Prop|mk (h0:p0) (h1:p1) (h2:p2) (h3:p3) (h4:p4) (h5:p5) (h6:p6) (h7:p7) (h8:p8) (h9:p9) (h10:p10) (h11:p11) (h12:p12) (h13:p13) (h14:p14):Iu p0 p1 p2 p3 p4 p5 p6 p7 p8 p9 p10 p11 p12 p13 p14
inductive GD (p0 p1 p2 p3 p4 p5 p6 p7 p8 p9 p10 p11 p12 p13 p14 p15:Prop):Prop|mk (h0:p0) (h1:p1) (h2:p2) (h3:p3) (h4:p4) (h5:p5) (h6:p6) (h7:p7) (h8:p8) (h9:p9) (h10:p10) (h11:p11) (h12:p12) (h13:p13) (h14:p14) (h15:p15):GD p0 p1 p2 p3 p4 p5 p6 p7 p8 p9 p10 p11 p12 p13 p14 p15
open Builtin.Str (occurrences partsBetween strKind)
section
def BY {vl:ZH} {lo:Option Int} (p:j64 vl lo) :∃l:Option (Int×Tok),vl=partValue l/\l.map (·.1)=lo:=by
 cases p with
 | none=>exact ⟨none,rfl,rfl⟩
 | int i t=>exact ⟨some (i,t),rfl,rfl⟩
end
section
def ot:V->Option Int->Option Int->Hp->VK->Prop:=λ x lo hi H Q=>∃z,x=.str z/\z.length<=ZG/\Q (.str (j94 z lo hi)) H
def jN:k_ X ot:=by
 intro j s σ H x v m n r p o Q I e d a f h;obtain ⟨z,rfl,i,q⟩:=h;obtain ⟨t,rfl⟩:=e;obtain ⟨l,rfl,g⟩:=BY a;obtain ⟨u,rfl,c⟩:=BY f;subst g c;refine ⟨"str",_,F.slot_str_getitem.lookup,typeIs_str _ _ _,wpAny_getItem_str_slice (l:=l) (u:=u) (st:=none) d rfl
  (post_val_or_str ⟨M0 (Txt.slice_le z _ _) i,λ b k=>⟨.str (j94 z _ _),H,I.tok k,⟨b,rfl⟩,q⟩⟩)⟩
def eZ:k_ X (λ x lo hi H Q=>nq X.K x lo hi H Q\/oY X.K x lo hi H Q\/ot x lo hi H Q):=lQ.or (iJ.or jN)
end
def hF (H:Hp) (r:ZS):Prop:=∃a b c:Int,H r=some (.lst [.int a,.int b,.int c])/\0<=c/\c < 536870909
def Kept (r:ZS) (H H':Hp):Prop:=∀b o,b≠r->H b=some o->H' b=some o
variable {r:ZS}
def Kept.refl:Kept r H H:=λ _ _ _ h=>h
def Kept.trans {H2:Hp} (a:Kept r H H1) (b:Kept r H1 H2):Kept r H H2:=λ c o n h=>b c o n (a c o n h)
def Same.kept (s:Same H H'):Kept r H H':=λ b o _ h=>s b o h
def Kept.set:Kept r H (upd H r o):=λ b u n h=>by rw [ae n];exact h
structure Rw (r:ZS) (H H':Hp):Prop where
 k:Kept r H H'
 r:hF H' r
variable {D:Ends} {g:TG} {i:Nat} {ta:TA} {σ:St}
section
variable {H0:Hp} 
def pR {rest:TS} (h:kz ta σ H λ x H1=>g x σ H1 (rest D)):ir (jz (kz ta) g) rest D σ H:=h
def ai {v:V} {Q:St->Hp->Prop} (h:Q (σ.set i (some v)) H):aI i v σ H Q:=h
def cB {nx ct bk:St->Hp->Prop} {rt:VK} (h:nx σ H):Ends.nx { nx:=nx,rt:=rt,bk:=bk,ct:=ct } σ H:=h
def FL {lo hi:Option Int} {y:V} (h:y∈cj xs lo hi):y∈xs:=Z7 (J5 h)
end
variable {E:ZH->I0->Prop} {it:ZS}
section
def qu {t:ZS} {its:Array ZH} {x:ZH} {Q:ZH->I0->Prop} (a:s.heap.IsTupleIter it t i) (b:s.heap.IsTuple t its) (c:its[i]? = some x)
  (q :∀h',h'.IsTupleIter it t (i + 1)->v4 it s.heap h'->Q x { s with heap:=h' }):X0 (P1 prog w) A (v7 (.ref it)) Q E s:=by
 obtain ⟨o,e,h,d⟩:=id a;obtain ⟨p,g,_,n,f⟩:=b;unfold v7;refine o0 (K4 (name:=P4 "__next__") a.typeIs u8 (N3 u8 a.typeIs j8f (show X0 _ _ (field (.ref it) 0 >>= _) _ _ s from o0 (i7 e d (x:=.ref t) rfl ?_)) (j85 _)));show X0 _ _ (if (O2 t == Y2)=true then _ else (field (.ref it) 1 >>= _)) _ _ s;rw [Z_ (by exact R1)];refine o0 (i7 e d (x:=.int i 0) rfl (show X0 _ _ (seqItems? (.ref t) >>= _) _ _ s from o0 (B9 g f ?_)));simp only [Q5,c];refine o0 (U6 e d (by simp) (A0 ⟨x,rfl,A0 (q _ ⟨_,T3 _ e (Obj.isFreed_of_fields (Obj.data_mapFields d _)),(Obj.cls_mapFields ..).trans h,?_⟩ (y3 ..))⟩));rw [Obj.data_mapFields d];simp [F6]
def oG {t:ZS} {its:Array ZH} {Q:ZH->I0->Prop} (hh:A.handled=none) (a:s.heap.IsTupleIter it t i) (b:s.heap.IsTuple t its) (c:its[i]? = none)
  (q :∀h' e,j65 it s.heap h'->(∃o,h'.get? e=some o/\o.cls=.type "StopIteration")->E (.ref e) { s with heap:=h' }):X0 (P1 prog w) A (v7 (.ref it)) Q E s:=by
 obtain ⟨o,f,j,d⟩:=id a;obtain ⟨p,h,_,n,g⟩:=b;unfold v7;refine o0 (K4 (name:=P4 "__next__") a.typeIs u8 (N3 u8 a.typeIs j8f (show X0 _ _ (field (.ref it) 0 >>= _) _ _ s from o0 (i7 f d (x:=.ref t) rfl ?_)) (j85 _)));show X0 _ _ (if (O2 t == Y2)=true then _ else (field (.ref it) 1 >>= _)) _ _ s;rw [Z_ (by exact R1)];refine o0 (i7 f d (x:=.int i 0) rfl (show X0 _ _ (seqItems? (.ref t) >>= _) _ _ s from o0 (B9 h g ?_)));simp only [Q5,c];refine o0 (j5j (o0 (U6 f d (by simp) (show X0 _ _ (newExc (.type "StopIteration") [] >>= _) _ _ _ from o0 ?_))));simp only [newExc,newTuple];refine o0 (M3 (o0 (m:=j4b _ _) (j49 (a:=Y2) (by first|rfl|(simp only [j4b];rfl)) (M3 ?_ (by size_fits)))) (by size_fits));simp only [raiseNew];refine o0 (wpAny_handled ?_);first|rw [show A.in1.handled=none from hh]|rw [hh]
 exact o0 (A0 (wpAny_throw (q _ _ (((y3 ..).extBut.push _).push _) ⟨_,U0 _ rfl,rfl⟩)))
structure dz (z T U i j a b:ZS):Prop where
 dis:[z,T,U,i,j].Nodup
 fa:a∉[z,T,U,i,j]
 fb:b∉[z,T,U,i,j]
structure Lq (h:ZN) (z T U i j a b:ZS) (n:Nat) (f:ZH):Prop where
 z:IsZip h z T U f
 t:IsPair h T (.ref i) (.ref j)
 u :∃p q,IsPair h U p q
 i:h.IsTupleIter i a n
 j:h.IsTupleIter j b n
def dz.ne {z T U i j b:ZS} (D:dz z T U i j a b):(z≠T/\z≠U/\z≠i/\z≠j)/\(T≠U/\T≠i/\T≠j)/\(U≠i/\U≠j)/\i≠j:=by have d:=D.dis;simp only [L3,X1,P0,or_false,not_or,not_false_eq_true,B3,and_true] at d;exact ⟨d.1,d.2.1,d.2.2.1,d.2.2.2⟩
def dz.ofA {z T U i j b:ZS} (D:dz z T U i j a b):a≠z/\a≠T/\a≠U/\a≠i/\a≠j:=by have d:=D.fa;simp only [X1,P0,or_false,not_or] at d;exact d
def dz.ofB {z T U i j b:ZS} (D:dz z T U i j a b):b≠z/\b≠T/\b≠U/\b≠i/\b≠j:=by have d:=D.fb;simp only [X1,P0,or_false,not_or] at d;exact d
theorem Iq (n a b:Nat) (ha:a < n) (hb:b < n):([n + 4,n + 2,n + 3,n,n + 1]:List Nat).Nodup/\a∉([n + 4,n + 2,n + 3,n,n + 1]:List Nat)/\b∉([n + 4,n + 2,n + 3,n,n + 1]:List Nat):=by
 refine ⟨?_,?_,?_⟩
 ·simp only [L3,X1,P0,or_false,not_or,not_false_eq_true,B3,and_true]
  lia
 ·simp only [X1,P0,or_false,not_or]
  lia
 ·simp only [X1,P0,or_false,not_or]
  lia
def oq {n b:ZS} (ha:a < n) (hb:b < n):dz (n + 4) (n + 2) (n + 3) n (n + 1) a b:=
 have h:=Iq n a b ha hb
 ⟨h.1,h.2.1,h.2.2⟩
end
inductive Dt where
 | non|bl (b:Bool)|int (i:Int)|str (z:ZR)|tup (ds:List Dt)
mutual
noncomputable def xR (K:B0) (H:Hp):Dt->V->Prop
 | .non,v=>v=.non
 | .bl b,v=>v=.bl b
 | .int i,v=>v=.int i
 | .str z,v=>v=.str z
 | .tup ds,v=>∃a xs,v=.ref a/\aG K H a xs/\mF K H ds xs
noncomputable def mF (K:B0) (H:Hp):List Dt->List V->Prop
 | [],xs=>xs=[]
 | d :: ds,xs=>∃x r,xs=x :: r/\xR K H d x/\mF K H ds r
end
mutual
noncomputable def Dt.deep:Dt->Nat
 | .tup ds=>Dt.deeps ds + 1
 | _=>0
noncomputable def Dt.deeps:List Dt->Nat
 | []=>0
 | d :: ds=>max d.deep (Dt.deeps ds)
noncomputable def Dt.plain:Dt->Bool
 | .int _=>true
 | .str _=>true
 | .tup ds=>Dt.plains ds
 | _=>false
noncomputable def Dt.plains:List Dt->Bool
 | []=>true
 | d :: ds=>d.plain && Dt.plains ds
end
variable {fp:List ZS} {h':ZN} {pins:List (ZS×ZQ)}
section
def Inv.turnedL {t':Nat} (I:Inv X pins σ H s) (k :∀b o,b∉fp->s.heap.get? b=some o->h'.get? b=some o) (hf :∀b∈fp,gb X pins H b) :
  Inv X pins σ H { s with heap:=h',toks:=t' }:=by
 have f :∀b u,H b=some u->b∉fp:=λ b u e z=>by have:=(hf b z).1;rw [this] at e;cases e
 refine I.step (g':=s.gens) (d':=s.drawn) (ch:=fp) (λ b d=>⟨(hf b d).2.2.2.1,(hf b d).2.1,(hf b d).2.2.2.2.1,(hf b d).2.2.2.2.2⟩) (λ b o _ _ a e _=>k b o a e) (λ b o _ _ a e _=>⟨o.slots,k b o a e⟩) (λ _ _ _ _ n=>n)
  (λ b o a e=>⟨o,k b o a e⟩) (λ _ _ e=>e) (λ _ _ _ e=>e) (λ b l e=>⟨#[],by rw [e];simp⟩) (λ m g=>?_) (λ b u e=>?_) I.bare
 ·obtain ⟨o,j,i,h,r⟩:=g;exact ⟨o,j,i,k _ o (λ z=>(hf _ z).2.1 rfl) h,r⟩
 ·refine (I.hok b u e).stay (λ c v a q=>k c v ?_ q) (λ _ q=>q) λ _ _ q=>q;rcases a with z|z
  ·rw [z];exact f b u e
  ·exact f c _ z
def Inv.turnedLaid {t':Nat} (I:Inv X pins σ H s) (k :∀b o,b∉fp->s.heap.get? b=some o->h'.get? b=some o) (hf :∀b∈fp,gb X pins H b)
  (hp:s.heap.objs.size<=a) (new:aY X.prog X.w (upd H a o) h' a o):Inv X pins σ (upd H a o) { s with heap:=h',toks:=t' }:=by
 have h:H a=none:=I.hok.fresh hp;have g :∀b u,H b=some u->b∉fp:=λ b u e z=>by have:=(hf b z).1;rw [this] at e;cases e
 have old :∀b u,H b=some u->upd H a o b=some u:=λ b u e=>by rw [ae (bZ e h)];exact e
 refine I.step (g':=s.gens) (d':=s.drawn) (ch:=fp) (λ b d=>⟨(hf b d).2.2.2.1,(hf b d).2.1,(hf b d).2.2.2.2.1,(hf b d).2.2.2.2.2⟩) (λ b o _ _ f e _=>k b o f e) (λ b o _ _ f e _=>⟨o.slots,k b o f e⟩)
  (λ b u _ e n=>by rw [ae (λ z=>by subst z;exact ZU (T0 e) (Nat.not_lt.mpr hp))];exact n)
  (λ b o f e=>⟨o,k b o f e⟩) (λ _ _ e=>old _ _ e) (λ _ _ _ e=>old _ _ e) (λ b t e=>⟨#[],by rw [old _ _ e];simp⟩) (λ m i=>?_) (λ b u e=>?_) I.bare
 ·obtain ⟨o,p,l,j,r⟩:=i;exact ⟨o,p,l,k _ o (λ z=>(hf _ z).2.1 rfl) j,r⟩
 ·by_cases d:b=a
  ·subst d;rw [aB] at e;cases e;exact new
  ·rw [ae d] at e;refine (I.hok b u e).stay (λ c v f q=>k c v ?_ q) (λ c q=>old _ _ q) λ c x q=>old _ _ q;rcases f with z|z
   ·rw [z];exact g b u e
   ·exact g c _ z
def Kl:c_ X (V6 .Add) (λ x y H Q=>∃a b ys,x=.ref a/\y=.ref b/\aG X.K H a []/\aG X.K H b ys/\Q (.ref b) H):=by intro E s σ H x y v u Q I r t h;obtain ⟨a,b,ys,rfl,rfl,A,l,q⟩:=h;cases r;cases t;obtain ⟨J,o,m,_⟩:=I.tuple A;obtain ⟨z,D,p,_⟩:=I.tuple l;cases o;obtain ⟨⟨M,n,L,j⟩,d,e,B,i⟩:=id m;obtain ⟨⟨G,w,F,C⟩,c,f,k,g⟩:=id p;simp only at e i f g;subst e i f g;exact j70 ⟨_,d,rfl⟩ ⟨_,c,rfl⟩ j80 seq_tuple_add j1h j17 (j0e _ _) (tuple_addW0 a b ([]:List ZH).toArray z.toArray B k n w j C (by simp)) ⟨d,c,⟨.ref b,H,I,rfl,q⟩⟩
def jC {o:ZO} {es:List ZO} {to:TE} {t:TA} {apos cpos:ZP} (ho:PE X o to) (ha:PA X (e :: es) t)
  (hbase:F5 o "append" X.env (T4 o X.env)=T4 o X.env:=by rfl)
  (hfew:((r6 cpos (A2 (e :: es) X.env)).all (λ x=>!x.1) && (b9 cpos (P6 [] X.env)).all (λ x=>x.1.isSome)
   && decide ((e :: es).length + ([]:List d6).length + (if ([]:List d6).isEmpty then 0 else 1) < 30))=true:=by rfl)
  (hline:(apos.endLine == cpos.line)=true:=by rfl) (hs:A2 (e :: es) X.env=(false,T4 e X.env) :: A2 es X.env:=by rfl) (hplain:(r6 cpos (A2 es X.env)).any (·.1)=false:=by rfl) :
  PE X (.Call (.Attribute o "append" apos) (e :: es) [] cpos) (kW X.K "list" sU to t):=fA m6 PySem.F.slot_list_append PySem.F.type_list_append DG ho ha hbase hfew hline hs hplain
end
def aG.wrote {l:ZS} {zs:List V} (e:H l=some (.lst zs)) (h:aG K H a xs):aG K (upd H l o) a xs:=by
 rcases h with (h|⟨ob,h⟩)|h
 ·exact .inl (.inl (by rw [ae (aK h e (by intro z;cases z))];exact h))
 ·exact .inl (.inr ⟨ob,by rw [ae (aK h e (by intro z;cases z))];exact h⟩)
 ·exact .inr h
section
def Jj {v:ZH} {Q:ZH->I0->Prop} (hn:ns.length < 64)
  (hc :∀R:List ZH->I0->Prop,(∀h' tk vs,(∀b o,s.heap.get? b=some o->h'.get? b=some o)->i6 vs ns->R vs { s with heap:=h',toks:=tk })->X0 (P1 prog w) A.in1 (collect v) R E s)
  (h :∀(h1 h':ZN) (tk:Nat) (out:Array ZH) (ns':List Int) (e:Nat),(∀b o,s.heap.get? b=some o->h1.get? b=some o)->(∀b o,h1.get? b=some o->h'.get? b=some o)->h'.get? h1.objs.size=some { cls:=.type "list",data:=.seq out e }->i6 out.toList ns'->ns'.Perm ns->ns'.Pairwise (·<=·)->Q (.ref h1.objs.size) { s with heap:=h',toks:=tk }) :
  X0 (P1 prog w) A (call (.builtin "sorted") [v]) Q E s:=by
 refine j0g kind_sorted plain_sorted entry_sorted (args_sorted1 _) ?_;unfold O6.«sorted»;refine o0 (m:=checkCount "sorted" 1 1 _) (A0 (o0 (hc _ λ h1 tk vs k c=>?_)));have d:vs.length < 64:=by rw [c.length];exact hn
 refine o0 (j5c ?_ (M0 (y4 d) (by decide)));have a:(h1.push (j00 "list" vs.toArray 0)).get? h1.objs.size=some (j00 "list" vs.toArray 0):=U0 _ rfl;refine o0 (F3 (N3 j9e ⟨_,a,rfl⟩ j90 (list_sort_tree a c d λ out ns' l i g=>⟨_,rfl,?_⟩) (j9h _)));obtain ⟨e,j⟩:=sortedHeap_at (out:=out) a;refine A0 ⟨_,rfl,h h1 _ tk out ns' e k (λ b o f=>?_) j l i g⟩;have lt:=T0 f;refine (sortedHeap_old (K1 lt) ?_).trans (G0 _ f);rw [size_push'];exact C3 lt
end
section
def Cv (ns:List Int) (H:Hp) (Q:VK):Prop:=∀(l:ZS) (ns':List Int),H l=none->ns'.Perm ns->ns'.Pairwise (·<=·)->Q (.ref l) (upd H l (.lst (ns'.map V.int)))
def FK {Q:VK} {h1:ZN} {tk:Nat} {out:Array ZH} {ns':List Int} {e:Nat} (I:Inv X pins σ H s) (hn:ns.length < 64) (q:Cv ns H Q)
  (k1 :∀b o,s.heap.get? b=some o->h1.get? b=some o) (k2 :∀b o,h1.get? b=some o->h'.get? b=some o) (g:h'.get? h1.objs.size=some { cls:=.type "list",data:=.seq out e }) (i:i6 out.toList ns') (p:ns'.Perm ns) (r:ns'.Pairwise (·<=·)) :
  EP X pins σ Q (.ref h1.objs.size) { s with heap:=h',toks:=tk }:=by
 have a:Inv X pins σ H { s with heap:=h1 }:=I.kept (t':=s.toks) k1;refine ⟨.ref h1.objs.size,_,a.laid (t':=tk) (o:=.lst (ns'.map V.int)) k2 (L0 _) ⟨?_,out.toList,e,u_ i,by simpa using g⟩,rfl,q _ ns' (a.hok.fresh (L0 _)) p r⟩;rw [q0,p.length_eq];exact M0 (y4 hn) (by decide)
def tY:cv X (.builtin "sorted") (λ xs H Q=>∃a ns,xs=[.ref a]/\(av X.K H a (ns.map V.int)\/aG X.K H a (ns.map V.int))/\ns.length < 64/\Cv ns H Q):=by
 intro C s σ H xs B Q I r h;obtain ⟨a,ns,rfl,c,v,q⟩:=h;obtain ⟨u,rfl,y⟩:=vals1 r;cases y;refine Jj v (λ R w=>?_) λ F d tk E D e A z g i p r=>FK I v q A z g i p r;rcases c with c|c
 ·obtain ⟨x,b,f,m⟩:=I.list c;obtain ⟨o,j,l,n,t⟩:=f.isList;exact wpAny_collect_seq a (.inl rfl) j l t (λ d k=>w d s.toks _ k (by simpa using sX b)) (by rw [Q0,<-b.length];exact m)
 ·obtain ⟨x,b,f,m⟩:=I.tuple c;obtain ⟨o,j,l,n,t⟩:=f;exact wpAny_collect_seq a (.inr rfl) j l t (λ d k=>w d s.toks _ k (by simpa using sX b)) (by rw [Q0,<-b.length];exact m)
end
def cb {c A:Prop} [Decidable c] (hc:c) (h:A):if c then A else B:=by rw [ZZ hc];exact h
def bc {c A:Prop} [Decidable c] (hc:¬ c) (h:B):if c then A else B:=by rw [Z_ hc];exact h
def uB {names:List (ZR×F8)} {n:ZR} {Q:ZR×F8->Prop} (h:(names.all λ y=>y.2 != v3 || y.1 == n)=true) (q :∀k,Q (n,k)) :∀y∈names,y.2=v3->Q y:=λ y c e=>by
 have:=List.all_eq_true.mp h y c;rw [e] at this;have:(y.1 == n)=true:=by simpa using this
 obtain ⟨a,b⟩:=y;rw [beq_iff_eq] at this;have:a=n:=this;subst this;exact q b
noncomputable def DD (P:ZK) (w:U1) (base:ZN):lE:=λ outer H s E e s'=>∃(ea:ZS) (cls a0:ZH) (B:ZN) (H':Hp),e=.ref ea/\s'.os=s.os/\j29 s'.gens/\Un (gT outer) [] H H' s.heap s'.heap/\eC P w H' s'.heap/\H' ea=none/\
 base.StaysIn B/\Heap.FlyingW B outer ea cls a0 s'.heap/\(∀b o,s'.heap.get? b=some o->b∉gT outer->((∃u,H' b=some u)\/∃u,s.heap.get? b=some u)->B.get? b=some o)/\E cls none H'
structure wW (P:ZK) (w:U1) (K:B0) (mg:ZR->Option ZH) (base:ZN) (x:ZR) (ps:List ZR) (k:Nat) (sp:Sp):Prop where
 ex :∃f fd,gg P w K mg base (DD P w base) k f fd ps sp/\mg x=some (.ref f)/\c7 K (.ref f)=true/\Binds K fd ps []
open PySem.W PySem.Calls PySem.Builtin PySem.Builtin.ObjectAttr PySem.Builtin.Getset_descriptor
noncomputable def aE (σ:St) (fr:List (Nat×ZR)) (us:List (Option V)):St:=us++fr.map λ p=>(σ[p.1]?).join
def cu (wi:TI) (n:Nat) (fr:List (Nat×ZR)) (g:TG) (tc:TT) (te:TE):TE:=λ σ H Q=>wi σ H λ J H1=>∃W:Nat->Nat->List V->Hp->Prop,(∃m,W 0 m [] H1)/\∀i m ys H,W i m ys H->
 (J.stop i H/\ys.length<=ZG/\∀p,H p=none->Q (.ref p) (upd H p (.lst ys)))\/
 (J.go i H/\ys.length<=ZG/\∀v H',J.yld i H v H'->g v (aE σ fr (A1 n none)) H' λ σ6 H6=>∃us,us.length=n/\σ6=aE σ fr us/\tc (aE σ fr us) H6 λ b H2=>if b=true then te (aE σ fr us) H2 λ y H3=>∃m',m' < m/\W (i + 1) m' (ys++[y]) H3 else∃m',m' < m/\W (i + 1) m' ys H2)
variable {elt iter tg:ZO} {fr:List (Nat×ZR)} {ifs:List ZO} {tc:TT} {te:TE} {wi:TI}
section
def Hd {cl:List (ZR×ZS)} {N:List ZR} {C:ZS} {s₂:I0} {H₂:Hp} {px:ZP} (i:Nat) (hN:N.Nodup) (hi:N[i]? = some x) (hx:scope.names.lookup x=some .local):PG (ck X scope cl N C s₂ H₂ fp) (.Name x px) (aI i):=
 cZ hN hi (.inl (lookup_relabel_local hx)) (.inr (lookup_relabel_local hx))
theorem Bm {xs:List ZR} {use:Option (ZH->Sem Unit)} {QQ:ZH->I0->Prop} {Q:VK} {pp:ZP} (hcalm:X.calm=true) (hi:PI X tg iter wi)
  (hfr :∀p∈fr,X.N[p.1]? = some p.2/\(X.env.kindOf p.2=some .cell\/X.env.kindOf p.2=some .free))
  (hfree :∀y∈scope.names,y.2=v3->X.env.kindOf y.1=some .cell\/X.env.kindOf y.1=some .free)
  (hfs :∀p∈fr,(p.2,v3)∈scope.names/\((j27 scope X.env).names.lookup p.2=some .cell\/(j27 scope X.env).names.lookup p.2=some .free))
  (hcell :∀y∈scope.names,y.2≠NameKind.cell) (hkind:scope.kind=.function) (hnames :∀y∈scope.names,y.2=NameKind.local->scope.names.lookup y.1=some .local)
  (hg :∀cl C s₂ H₂ fp,PG (ck X scope cl (xs++fr.map (·.2)) C s₂ H₂ fp) tg g)
  (ht :∀cl C s₂ H₂ fp,PF (ck X scope cl (xs++fr.map (·.2)) C s₂ H₂ fp) ifs tc) (he :∀cl C s₂ H₂ fp,PE (ck X scope cl (xs++fr.map (·.2)) C s₂ H₂ fp) elt te)
  (hs :∀x,G9 iter X.env x=i5 x) (I:Inv X pins σ H s) (h:cu wi xs.length fr g tc te σ H Q)
  (hend :∀(D:ZS) (s4:I0) (H4:Hp),Inv X pins σ H4 s4->(∃m,s4.heap.Ns (D + 1) m)->H4 (D + 1)=none->D + 1≠X.env.locals->X.s₀.heap.objs.size<=D + 1->(D + 1∉X.fs/\(∀x c,X.env.cells.lookup x=some c->c≠D + 1)/\∀p∈X.pn++pins,p.1≠D + 1)->Q (.ref D) H4->compPost (P1 X.prog X.w) X.A X.xe use QQ (.ref D) (D + 1) (.ok .next) s4) :
  X0 (P1 X.prog X.w) X.A (comprehension (.ListComp elt [⟨tg,iter,ifs,0⟩] scope pos) scope X.env pp (newList []) false (firstIter [⟨tg,iter,ifs,0⟩] X.env) use) QQ X.xe s:=by
 obtain ⟨cl,f1,U,b0⟩:=Jk (scope:=scope) (env:=X.env) λ y R hk=>I.ok.has y.1 (hfree y R hk);refine wpAny_comprehension_free (use:=use) rfl hs f1 hkind hnames (br (hi pins s σ H _ I h) λ xv s₁ h₁=>br h₁ λ g1 s₂ h₂=>?_);obtain ⟨it,fp,tn,J,M,e,f,T,b9,L,W,⟨m0,w0⟩,e0⟩:=h₂;subst e
 -- the list that is filled,the block's names
 refine M3 (wpAny_newFunctionEnv hcell (by intro y R;simp at R) (λ h₁ a3 a0=>?_) hkind);dsimp only at a3 a0⊢;generalize hD:s₂.heap.objs.size=D at a3 a0⊢;generalize hG:s₂.heap.push { cls:=.type "list",dict:=none,data:=.seq ([]:List ZH).toArray }=G at a3 a0⊢;have hC:G.objs.size=D + 1:=by rw [<-hG,v5,hD]
 generalize hCC:G.objs.size=C at a3 a0 hC⊢;subst hC;have a6 :∀b∈fp,b < D:=λ b a=>by obtain ⟨o,e,_⟩:=T.obj _ _ b9 b a;rw [<-hD];exact T0 e
 have old :∀b o,s₂.heap.get? b=some o->h₁.get? b=some o:=λ b o e=>a0.extBut b o (K1 (C3 (by rw [<-hD];exact T0 e))) (G0 _ (hG ▸ G0 _ e));have e7:G.get? D=some { cls:=.type "list",dict:=none,data:=.seq ([]:List ZH).toArray }:=by rw [<-hG,<-hD];exact U0 _ rfl
 have f0:h₁.PlainList D #[]:=⟨0,a0.extBut _ _ (K1 (F4 D)) (G0 _ e7)⟩
 have f6 :∀y c,cl.lookup y=some c->c < D:=λ y c e=>by obtain ⟨v,q⟩:=f.cell y c (U y c e);rw [<-hD];exact q.lt
 have f9 :∀b∈gT X.stack,b < D:=λ b a=>by
  rcases List.mem_cons.mp (f.stkSub b a) with e|a
  ·rw [e,<-hD];exact f.lt
  ·rw [<-hD];exact Nat.lt_of_not_le λ z=>f.nofs z a
 have c7 :∀b∈fp,b∉gT X.stack:=λ b a e8=>by
  rcases List.mem_cons.mp (f.stkSub b e8) with e|z
  ·exact (L b a).2.1 e
  ·exact (L b a).2.2.1 z
 generalize hX':ck X scope cl (xs++fr.map (·.2)) (D + 1) s₂ M fp=X';have d8:X'.Ok:=by
  subst hX';refine ⟨f.ok.mod,hkind,f.ok.glob,f.ok.blt,(by show s₂.heap.objs.size<=D + 1;lia),λ y z c S O=>f.ok.inj y z c (U _ _ S) (U _ _ O),λ y R=>?_,(λ _ _ z=>Bool.noConfusion z),f.ok.hd,f.ok.frames,.inl rfl,λ b a=>⟨?_,λ y c e=>?_⟩,λ b o e=>f.bs b o e,?_,λ b o e a=>?_,c7,f.env0.funs,f.stkFree⟩
  ·rcases R with R|R
   ·exact b0 y (yK hcell R (.inl rfl))
   ·exact b0 y (yK hcell R (.inr rfl))
  ·exact K1 (C3 (a6 b a))
  ·exact (L b a).2.2.2.2.1 y c (U y c e)
  ·exact M0 f.ok.bsz f.sz
  ·rcases (L b a).2.2.2.1 with z|z
   ·exact f.ok.noex b o e z
   ·exact ZU (i3 (T0 (f.ok.bs b o e).1) z) (N5 _)
 have Y:X'.env.locals=D + 1:=by subst hX';rfl
 have a4:X'.env.cells=cl:=by subst hX';rfl
 have a8:X'.fs=gT X.stack:=by subst hX';rfl
 have b4:X'.pn=[]:=by subst hX';rfl
 have a2:X'.s₀=s₂:=by subst hX';rfl
 have d0:X'.H₀=M:=by subst hX';rfl
 have b3:X'.ex=fp:=by subst hX';rfl
 have c8:X'.N=xs++fr.map (·.2):=by subst hX';rfl
 have c9:X'.A=X.A:=by subst hX';rfl
 have F:X'.prog=X.prog/\X'.w=X.w/\X'.K=X.K/\X'.calm=true:=by subst hX';exact ⟨rfl,rfl,rfl,hcalm⟩
 have b1:X'.xe=λ _ _=>False:=by subst hX';rfl
 have c4:X'.env=compEnvC scope cl (D + 1) X.env:=by subst hX';rfl
 have d6:PF X' ifs tc:=hX' ▸ ht cl (D + 1) s₂ M fp;have f5:PE X' elt te:=hX' ▸ he cl (D + 1) s₂ M fp;have d5:PG X' tg g:=hX' ▸ hg cl (D + 1) s₂ M fp;have fresh :∀b,D<=b->M b=none:=λ b a=>f.hok.fresh (by rw [hD];exact a);have start :∀t,Inv X' [] (aE σ fr (A1 xs.length none)) M { s₂ with heap:=h₁,toks:=t }:=λ t=>by
  refine ⟨d8,by rw [a2],f.bare,?_,⟨_,by rw [Y];exact a3,λ i y v S O e3=>?_⟩,λ y c e=>?_,by rw [Y];exact fresh _ (z7 _),λ y c e=>?_,λ p B=>?_,?_,?_⟩
  ·rw [a8,b3,d0,a2];exact Un.kept old
  ·rw [c8] at S;by_cases a1:i < xs.length
   ·exfalso;unfold aE at O;rw [F2 (by rw [U5];exact a1),j21,ZZ a1] at O;cases O
   ·have a1:xs.length<=i:=L9 a1;rw [C4 a1,C1] at S;unfold aE at O;rw [C4 (by rw [U5];exact a1),U5,C1] at O;generalize i - xs.length=i at S O;cases ej:fr[i]? with
    | none=>rw [ej] at S;cases S
    | some p=>
     rw [ej] at S;obtain rfl:p.2=y:=G1 S;have a5:(σ[p.1]?).join=some v:=by rw [ej] at O;exact G1 O
     have d2:σ[p.1]? = some (some v):=by
      cases q:σ[p.1]? with
      | none=>rw [q] at a5;cases a5
      | some z=>rw [q] at a5;exact ZT some a5
     have B:=K0 ej;obtain ⟨m,hn,hl⟩:=f.loc;obtain ⟨u,r,l⟩:=hl p.1 p.2 v (hfr p B).1 d2 (by rcases (hfr p B).2 with z|z;exact .inr (.inl z);exact .inr (.inr z));refine ⟨u,r,.inr ⟨?_,?_⟩⟩
     ·rw [c4];exact (hfs p B).2
     ·rcases l with ⟨z,_⟩|⟨_,c,ec,q⟩
      ·exfalso;rcases (hfr p B).2 with z'|z'<;>(rw [z] at z';cases z')
      ·obtain ⟨c',c2⟩:=b0 p.2 (hfs p B).1;have:=U _ _ c2;rw [ec] at this;cases this;obtain ⟨o,ho,hd⟩:=q;exact ⟨c,by rw [a4];exact c2,o,old _ _ ho,hd⟩
  ·rw [a4] at e;obtain ⟨v,o,ho,hd⟩:=f.cell y c (U y c e);exact ⟨v,o,old _ _ ho,hd⟩
  ·rw [a4] at e;exact f.freeC y c (U y c e)
  ·rw [b4] at B;exact nomatch B
  ·rw [F.1,F.2.1];exact f.hok.kept old
  ·rw [c8];unfold aE;simp
 have FP :∀{pins':List (ZS×ZQ)} {H':Hp},(∀b∈fp,H' b=none)->(∀p∈pins',p.1=D)->∀b∈fp,gb X' pins' H' b:=λ hn B b a=>by
  refine ⟨hn b a,?_,?_,.inl (by rw [b3];exact a),λ y c e=>?_,λ p c6=>?_⟩
  ·rw [Y];exact K1 (C3 (a6 b a))
  ·rw [a8];exact c7 b a
  ·rw [a4] at e;exact (L b a).2.2.2.2.1 y c (U y c e)
  ·rw [b4] at c6;rw [B p c6];exact J3 (a6 b a)
 -- the turns
 have d1 :∀s₃:I0,s₃={ s₂ with heap:=h₁,toks:=s₂.toks + ([]:List (ZR×ZH)).length }->
   M8 (P1 X.prog X.w) X.A (.compLoop (.ListComp elt [⟨tg,iter,ifs,0⟩] scope pos) 0 (.ref it) (.ref D) (compEnvC scope cl (D + 1) X.env))
    (compPost (P1 X.prog X.w) X.A X.xe use QQ (.ref D) (D + 1)) s₃:=by
  rintro s₃ rfl;rw [<-c4,<-F.1,<-F.2.1,<-c9];refine Eo (λ k s'=>∃i ys its H',Inv X' [] (aE σ fr (A1 xs.length none)) H' s'/\tn i s'.heap/\(∀b∈fp,H' b=none)/\s'.heap.PlainList D its.toArray/\aD ys its/\H' D=none/\W i k ys H') ?_ m0
   ⟨0,[],[],M,start _,T.keep _ _ _ b9 λ b a o e=>old b o e,λ b a=>(L b a).1,f0,.nil,fresh _ (L0 _),w0⟩
  rintro n s3 ⟨i,ys,its,H3,I3,st3,fr3,ac3,rv3,hD3,w3⟩;obtain ⟨na,d7⟩:=id ac3;have c5:Inv X' [(D,{ cls:=.type "list",data:=.seq its.toArray na })] (aE σ fr (A1 xs.length none)) H3 s3:=I3.pins_of λ p B=>by rw [B5] at B;subst B;refine ⟨d7,hD3,by rw [Y];exact K1 (F4 D),by rw [a8];exact λ z=>N5 _ (f9 D z),λ v z=>nomatch z⟩
  have hT:=T;rw [<-F.1,<-F.2.1,<-F.2.2.1] at hT;rcases e0 i n ys H3 w3 with ⟨d4,b6,qn⟩|⟨go,b6,step⟩
  ·refine br (hT.done X' rfl rfl rfl F.2.2.2 i _ s3 _ H3 _ c5 (FP fr3 (by intro p B;rw [List.mem_singleton.mp B])) st3 d4) λ r s4 ⟨hr,I4⟩=>?_;subst hr;obtain ⟨m4,f8,_⟩:=id I4.loc;obtain ⟨Z,c1⟩ :∃Z,Z=s4.heap:=⟨_,rfl⟩
   have c3:v4 (D + 1) s4.heap Z:=by rw [c1];exact ⟨rfl,λ _ _=>rfl⟩
   have e4:D≠D + 1:=K1 (F4 D);have f4:=(I4.pin (D,_) (C2 _ Y0))
   have g0:Z.get? D=some { cls:=.type "list",data:=.seq its.toArray na }:=(c3.2 D e4).trans f4.1;have un:Un (gT X.stack) fp M H3 s₂.heap s4.heap:=by have:=I4.base;rw [a8,b3,d0,a2] at this;exact this
   have kp :∀b o,b≠D + 1->s4.heap.get? b=some o->Z.get? b=some o:=λ b o a e=>(c3.2 b a).trans e;have a9 :∀b o,s₂.heap.get? b=some o->b≠D + 1/\b≠D:=λ b o e=>by have:=T0 e;rw [hD] at this;exact ⟨K1 (C3 this),K1 this⟩
   have f3:Un (gT X.stack) fp M (upd H3 D (.lst ys)) s₂.heap Z:=by
    refine ⟨λ b o e n a hx=>kp b o (a9 b o e).1 (un.keep b o e n a hx),λ b o e n a hx=>?_,λ b o e n hx=>by rw [ae (a9 b o e).2];exact un.free b o e n hx,λ b o e hx=>?_,λ b xs e=>?_,λ b o u e=>?_,λ b ps e=>?_⟩
    ·obtain ⟨sl,z⟩:=un.slot b o e n a hx;exact ⟨sl,kp _ _ (a9 b o e).1 z⟩
    ·obtain ⟨o',z⟩:=un.there b o e hx;exact ⟨o',kp _ _ (a9 b o e).1 z⟩
    ·rw [ae (bZ e (fresh D (L0 _)))];exact un.tups b xs e
    ·rw [ae (bZ e (fresh D (L0 _)))];exact un.frzs b o u e
    ·rw [ae (bZ e (fresh D (L0 _)))];exact un.tbls b ps e
   have b7:H3 (D + 1)=none:=by have:=I4.free;rw [Y] at this;exact this
   have e5:eC X.prog X.w (upd H3 D (.lst ys)) Z:=λ b u e=>by
    by_cases a:b=D
    ·subst a;rw [aB] at e;cases e;exact ⟨b6,its,na,rv3,g0⟩
    ·rw [ae a] at e;have z:=I4.hok b u e;rw [F.1,F.2.1] at z;refine z.stay (λ c v hc q=>kp c v ?_ q) (λ c q=>by rw [ae (bZ q hD3)];exact q) λ c xs q=>by rw [ae (bZ q hD3)];exact q
     rintro rfl;rcases hc with rfl|hc
     ·rw [b7] at e;cases e
     ·rw [b7] at hc;cases hc
   subst c1;have I5:Inv X pins σ (upd H3 D (.lst ys)) s4:=f.call' (s':=s4) (ch:=fp) (by have:=I4.os;rw [a2] at this;exact this) f3 e5 I4.bare (λ b a=>⟨(L b a).2.2.2.1,(L b a).2.1,(L b a).2.2.2.2.1,(L b a).2.2.2.2.2⟩);show compPost (P1 X'.prog X'.w) X'.A X.xe use QQ (.ref D) (D + 1) (.ok .next) s4;rw [F.1,F.2.1,c9];refine hend D s4 _ I5 ⟨m4,Y ▸ f8⟩ ?_ ?_ ?_ ?_ (qn D hD3)
   ·rw [ae (J3 (F4 D))];exact b7
   ·exact J3 (C3 (by rw [<-hD];exact f.lt))
   ·exact M0 f.sz (by rw [hD];exact z7 D)
   ·refine ⟨λ z=>f.nofs (by rw [hD];exact z7 D) z,λ y c e=>?_,λ p B=>?_⟩
    ·obtain ⟨v,q⟩:=f.cell y c e;exact K1 (C3 (by rw [<-hD];exact q.lt))
    ·exact K1 (C3 (by rw [<-hD];exact T0 (f.pin p B).1))
  ·refine br (hT.item X' rfl rfl rfl F.2.2.2 i _ s3 _ H3 _ c5 (FP fr3 (by intro p B;rw [List.mem_singleton.mp B])) st3 go) λ r s4 ⟨u,hr,h4⟩=>?_;subst hr;refine br h4 λ _ s5 ⟨v,H5,I5,r5,y5,st5,fr5⟩=>?_;have d3:=I5.pinned (FP fr5 (by intro p B;rw [List.mem_singleton.mp B])) (T.obj _ _ st5);have g5:=d5 _ s5 (aE σ fr (A1 xs.length none)) H5 v u _ d3 r5 (step v H5 y5);rw [b1] at g5;refine br g5 λ _ s6 ⟨σ6,H6,I6,us,hus,e6,q6⟩=>?_;subst e6;have t6:=d6 _ s6 _ H6 _ I6 q6;rw [b1] at t6;refine br t6 λ ok s7 ⟨H7,I7,q7⟩=>?_;have back :∀{H8:Hp} {E:I0} {ys':List V} {its':List ZH} {pl:List (ZS×ZQ)},Inv X' (pl++dR fp s5.heap) (aE σ fr us) H8 E->E.heap.PlainList D its'.toArray->aD ys' its'->H8 D=none->(∃m',m' < n/\W (i + 1) m' ys' H8)->
     ∃m,m < n/\∃i ys its H',Inv X' [] (aE σ fr (A1 xs.length none)) H' E/\tn i E.heap/\(∀b∈fp,H' b=none)/\E.heap.PlainList D its.toArray/\aD ys its/\H' D=none/\W i m ys H':=λ {H8 E ys' its' pl} P b5 rv8 a7 ⟨m',hm,w8⟩=>by
    refine ⟨m',hm,i + 1,ys',its',H8,(P.pins_of (pins':=[]) (λ p B=>ZU B P0)).weak (by unfold aE;simp [hus]) ?_,T.keep _ _ _ st5 λ b a o e=>(P.pin (b,o) (C2 _ (C2 _ (sW a e)))).1,λ b a=>?_,b5,rv8,a7,w8⟩
    ·intro j z e;unfold aE at e⊢;by_cases hj:j < xs.length
     ·rw [F2 (by rw [U5];exact hj),j21,ZZ hj] at e;cases e
     ·have hj:xs.length<=j:=L9 hj;rw [C4 (by rw [U5];exact hj),U5] at e;rw [C4 (by rw [hus];exact hj),hus];exact e
    ·obtain ⟨o,e,d⟩:=T.obj _ _ st5 b a;exact (P.pin (b,o) (C2 _ (C2 _ (sW a e)))).2.1
   have b2 :∀{H8:Hp} {E:I0} {σ8:St},Inv X' ([(D,{ cls:=.type "list",data:=.seq its.toArray na })]++dR fp s5.heap) σ8 H8 E->E.heap.PlainList D its.toArray/\H8 D=none:=λ P=>
    have z:=P.pin (D,_) (C2 _ (b8 _ Y0))
    ⟨⟨na,z.1⟩,z.2.1⟩
   cases ok with
   | false=>rw [Z_ R1] at q7⊢;exact back I7 (b2 I7).1 rv3 (b2 I7).2 q7
   | true=>
    rw [ZZ rfl] at q7⊢;have t7:=f5 _ s7 _ H7 _ I7 q7;rw [b1] at t7;refine br t7 λ y E ⟨vy,H8,P,r8,q8⟩=>?_;obtain ⟨b5,a7⟩:=b2 P;refine wpAny_list_append_plain (hsz:=by have:=rv3.length;rw [Q0,<-this];exact b6) b5 λ h9 c0 f7=>?_;have I9:Inv X' ([]++dR fp s5.heap) (aE σ fr us) H8 E:=P.pins_of λ p B=>(P.pin p (C2 _ (C2 _ B)))
    have d9:Inv X' ([]++dR fp s5.heap) (aE σ fr us) H8 { E with heap:=h9 }:=by
     refine I9.turned (t':=E.toks) (it:=D) (λ b o a e=>(f7.2 b a).trans e) a7 (by rw [Y];exact K1 (F4 D)) (.inr (by rw [a2,hD];exact L0 _)) (λ y' c e=>?_) λ p B=>?_
     ·rw [a4] at e;exact K1 (f6 y' c e)
     ·rw [b4] at B;exact K1 (a6 _ (BW B).1)
    have e9:its.toArray.push y=(its++[y]).toArray:=by simp
    rw [e9] at c0;exact back d9 c0 (rv3.snoc r8) a7 q8
 exact codeAny_compStart_list (d1 _ rfl) (T.self _ 0 _ _ _ (T.keep _ _ _ b9 λ b a o e=>old b o e) (d1 _ rfl))
def wj {xs:List ZR} (hcalm:X.calm=true) (hi:PI X tg iter wi)
  (hfr :∀p∈fr,X.N[p.1]? = some p.2/\(X.env.kindOf p.2=some .cell\/X.env.kindOf p.2=some .free))
  (hfree :∀y∈scope.names,y.2=v3->X.env.kindOf y.1=some .cell\/X.env.kindOf y.1=some .free)
  (hfs :∀p∈fr,(p.2,v3)∈scope.names/\((j27 scope X.env).names.lookup p.2=some .cell\/(j27 scope X.env).names.lookup p.2=some .free))
  (hcell :∀y∈scope.names,y.2≠NameKind.cell) (hkind:scope.kind=.function) (hnames :∀y∈scope.names,y.2=NameKind.local->scope.names.lookup y.1=some .local)
  (hg :∀cl C s₂ H₂ fp,PG (ck X scope cl (xs++fr.map (·.2)) C s₂ H₂ fp) tg g)
  (ht :∀cl C s₂ H₂ fp,PF (ck X scope cl (xs++fr.map (·.2)) C s₂ H₂ fp) ifs tc) (he :∀cl C s₂ H₂ fp,PE (ck X scope cl (xs++fr.map (·.2)) C s₂ H₂ fp) elt te)
  (hs :∀x,G9 iter X.env x=i5 x:=by intro _;rfl):PE X (.ListComp elt [⟨tg,iter,ifs,0⟩] scope pos) (cu wi xs.length fr g tc te):=by
 intro r s σ H Q I h;rw [eval_ListComp];refine Bm hcalm hi hfr hfree hfs hcell hkind hnames hg ht he hs I h λ D d f n a k l i ⟨c,hc,hp⟩ q=>?_;obtain ⟨m,a⟩:=a;exact ⟨m,a,λ t j=>⟨.ref D,f,n.turned (t':=d.toks) (it:=D + 1) (λ b o c e=>(j.2 b c).trans e) k l (.inr i) hc hp,rfl,q⟩⟩
def pI {xs:List ZR} {py spos:ZP} (hNy:X.N.Nodup) (hiy:X.N[i]? = some y) (hy:Loc X.env.scope y) (hcalm:X.calm=true) (hi:PI X tg iter wi)
  (hfr :∀p∈fr,X.N[p.1]? = some p.2/\(X.env.kindOf p.2=some .cell\/X.env.kindOf p.2=some .free))
  (hfree :∀y∈scope.names,y.2=v3->X.env.kindOf y.1=some .cell\/X.env.kindOf y.1=some .free)
  (hfs :∀p∈fr,(p.2,v3)∈scope.names/\((j27 scope X.env).names.lookup p.2=some .cell\/(j27 scope X.env).names.lookup p.2=some .free))
  (hcell :∀y∈scope.names,y.2≠NameKind.cell) (hkind:scope.kind=.function) (hnames :∀y∈scope.names,y.2=NameKind.local->scope.names.lookup y.1=some .local)
  (hg :∀cl C s₂ H₂ fp,PG (ck X scope cl (xs++fr.map (·.2)) C s₂ H₂ fp) tg g)
  (ht :∀cl C s₂ H₂ fp,PF (ck X scope cl (xs++fr.map (·.2)) C s₂ H₂ fp) ifs tc) (he :∀cl C s₂ H₂ fp,PE (ck X scope cl (xs++fr.map (·.2)) C s₂ H₂ fp) elt te)
  (hs :∀x,G9 iter X.env x=i5 x:=by intro _;rfl) (hw:swapsWith (.ListComp elt [⟨tg,iter,ifs,0⟩] scope pos) (some (.Name y py)) spos.line X.env=i5 true:=by rfl) (hf:X.fn y=true\/X.env.scope.names.lookup y=some .local:=by first|exact .inl rfl|exact .inr rfl|assumption) :
  PS X (.Assign [.Name y py] (.ListComp elt [⟨tg,iter,ifs,0⟩] scope pos) spos) (jz (cu wi xs.length fr g tc te) (aI i)):=by
 intro f s σ H D I h;rw [exec_Assign_Name_used y py _ spos hw];refine o0 (wpAny_standAt (o0 ?_));show X0 _ _ (do let _ <-comprehension (.ListComp elt [⟨tg,iter,ifs,0⟩] scope pos) scope X.env (firstIterPos [⟨tg,iter,ifs,0⟩] pos) (newList []) (firstAsync [⟨tg,iter,ifs,0⟩]) (firstIter [⟨tg,iter,ifs,0⟩] X.env) (some (assign (.Name y py) X.env));i5 ()) _ _ _;refine o0 (Bm hcalm hi hfr hfree hfs hcell hkind hnames hg ht he hs I h λ A k l u d K r w ⟨c,hc,hp⟩ q=>?_);obtain ⟨m,d⟩:=d;obtain ⟨o,O,G,F,n,M,E⟩:=d;have B:Inv X ((A + 1,o) :: f) σ l k:=u.pins_of λ p a=>by
  rcases List.mem_cons.mp a with rfl|a
  ·exact ⟨F,K,r,c,λ v z=>by rw [n] at z;cases z⟩
  ·exact u.pin p (C2 _ a)
 refine br (cZ (pos:=py) hNy hiy hy hf _ k σ l (.ref A) (.ref A) D.nx B rfl q) λ _ t ⟨σ5,H5,I6,q6⟩=>?_;have j:=I6.pin (A + 1,o) (C2 _ Y0);have J:Inv X f σ5 H5 t:=I6.pins_of λ p a=>I6.pin p (C2 _ (Z0 _ a));refine ⟨m,⟨o,O,G,j.1,n,M,E⟩,λ P L=>?_⟩;exact A0 (A0 ⟨σ5,H5,J.turned (t':=t.toks) (it:=A + 1) (λ b o c e=>(L.2 b c).trans e) j.2.1 r (.inr w) hc hp,q6⟩)
end
def cy {rest:TS} (h:te σ H λ x H1=>g x σ H1 (rest D)):ir (jz te g) rest D σ H:=h
structure Runs (J:It) (H1:Hp) (n:Nat) (Item:Nat->V->Hp->Prop):Prop where
 go :∀i,i < n->∀H,Same H1 H->J.go i H
 stop :∀H,Same H1 H->J.stop n H
 item :∀i,i < n->∀H v H',Same H1 H->J.yld i H v H'->Same H H'/\Item i v H'
def sO (p:Nat->Bool) (n:Nat):(N0 (n + 1)).filter p=(N0 n).filter p++(if p n=true then [n] else []):=by rw [j2e,F7,Y5];cases p n<;>rfl
inductive af {α β:Type} (R:α->β->Prop):List α->List β->Prop
 | nil:af R [] []
 | cons {a:α} {b:β} {xs:List α} {ys:List β}:R a b->af R xs ys->af R (a :: xs) (b :: ys)
theorem vg {α β:Type} {R:α->β->Prop} :∀{xs:List α} {ys:List β} {x:α} {y:β},af R xs ys->R x y->af R (xs++[x]) (ys++[y])
 | [],_,x,y,.nil,h=>.cons h .nil
 | _ :: _,_,x,y,.cons a r,h=>.cons a (vg r h)
theorem bp {α β:Type} {R S:α->β->Prop} (h :∀a b,R a b->S a b) :∀{xs:List α} {ys:List β},af R xs ys->af S xs ys
 | [],_,.nil=>.nil
 | _ :: _,_,.cons a r=>.cons (h _ _ a) (bp h r)
theorem cz {α β:Type} {R:α->β->Prop} :∀{xs:List α} {ys:List β},af R xs ys->ys.length=xs.length
 | [],_,.nil=>rfl
 | _ :: _,_,.cons _ r=>ZT (· + 1) (cz r)
theorem pU {α β:Type} {f:α->β} :∀{xs:List α} {ys:List β},af (λ x y=>y=f x) xs ys->ys=xs.map f
 | [],_,.nil=>rfl
 | _ :: _,_,.cons a r=>by rw [O0,pU r,a]
variable {J:It} {m:Nat}
theorem Ga {Item:Nat->V->Hp->Prop} {Q:VK} (p:Nat->Bool) (R:Nat->V->Hp->Prop) (hR :∀i y H H',Same H H'->R i y H->R i y H') (r:Runs J H1 n Item) (hn:n<=ZG)
  (body :∀i,i < n->∀v H,Same H1 H->Item i v H->∀(KT:VK) (KF:Hp->Prop),(p i=true->∀y H',Same H H'->R i y H'->KT y H')->(p i=false->∀H',Same H H'->KF H')->
   g v (aE σ fr (A1 m none)) H λ σ6 H6=>∃us,us.length=m/\σ6=aE σ fr us/\tc (aE σ fr us) H6 λ b H2=>if b=true then te (aE σ fr us) H2 KT else KF H2)
  (hQ :∀l H' ys,Same H1 H'->H' l=none->af (λ i y=>R i y H') ((N0 n).filter p) ys->Q (.ref l) (upd H' l (.lst ys))) :
  ∃W:Nat->Nat->List V->Hp->Prop,(∃m,W 0 m [] H1)/\∀i k ys H,W i k ys H->
   (J.stop i H/\ys.length<=ZG/\∀p,H p=none->Q (.ref p) (upd H p (.lst ys)))\/
   (J.go i H/\ys.length<=ZG/\∀v H',J.yld i H v H'->g v (aE σ fr (A1 m none)) H' λ σ6 H6=>∃us,us.length=m/\σ6=aE σ fr us/\tc (aE σ fr us) H6 λ b H2=>if b=true then te (aE σ fr us) H2 λ y H3=>∃m',m' < k/\W (i + 1) m' (ys++[y]) H3 else∃m',m' < k/\W (i + 1) m' ys H2):=by
 refine ⟨λ i k ys H'=>k=n - i/\i<=n/\Same H1 H'/\af (λ i y=>R i y H') ((N0 i).filter p) ys,⟨n,by simp,K2 _,Same.refl H1,.nil⟩,?_⟩;rintro i k ys H' ⟨rfl,hi,sm,fa⟩;have h:ys.length<=ZG:=by
  rw [cz fa];have:=u5 p (N0 i);rw [Q1] at this
  lia
 by_cases hlt:i < n
 ·refine .inr ⟨r.go i hlt H' sm,h,λ v H2 y=>?_⟩;obtain ⟨d,q⟩:=r.item i hlt H' v H2 sm y;refine body i hlt v H2 (sm.trans d) q _ _ (λ f y H3 c j=>⟨n - (i + 1),by lia,rfl,hlt,(sm.trans d).trans c,?_⟩) (λ f H3 c=>⟨n - (i + 1),by lia,rfl,hlt,(sm.trans d).trans c,?_⟩)
  ·rw [sO,ZZ f];exact vg (bp (λ a b z=>hR a b _ _ (d.trans c) z) fa) j
  ·rw [sO,Z_ (by rw [f];decide),E1];exact bp (λ a b z=>hR a b _ _ (d.trans c) z) fa
 ·have e:i=n:=by lia
  subst e;exact .inl ⟨r.stop H' sm,h,λ l o=>hQ l H' ys sm o fa⟩
def Cc (hq:av K H1 a xs):Runs (mw K a) H1 xs.length (λ i v _=>xs[i]? = some v):=
 ⟨λ i b H s=>⟨xs,xs[i],s.seq hq,by simp [b]⟩,λ H s=>⟨xs,s.seq hq,L0 _⟩,λ i b H v c s y=>by obtain ⟨e,y⟩:=y;subst e;exact ⟨Same.refl _,y xs (s.seq hq)⟩⟩
def Du {α β:Type} (p:α->Bool) (f:α->β) (d:α) :∀xs:List α,((N0 xs.length).filter λ i=>p (xs[i]?.getD d)).map (λ i=>f (xs[i]?.getD d))=(xs.filter p).map f:=by
 intro xs;have h:(N0 xs.length).map (λ i=>xs[i]?.getD d)=xs:=by
  apply j22
  ·simp
  ·intro i b a;simp only [j5f,List.getElem_range,C0 a,Option.getD_some]
 have e:(xs.filter p).map f=((((N0 xs.length).map (λ i=>xs[i]?.getD d))).filter p).map f:=by rw [h]
 rw [e,j2g,Y6];rfl
theorem Di (ns:List Int) :∀j,j<=ns.length->preSum (λ i=>ns[i]?.getD 0) j=(ns.take j).sum
 | 0,_=>by rw [j33];rfl
 | j + 1,h=>by show preSum (λ i=>ns[i]?.getD 0) j + ns[j]?.getD 0=_;rw [Di ns j (Nat.le_of_succ_le h),List.take_succ_eq_append_getElem h,List.sum_append,C0 h];simp
structure QE (X:Cx) (e:ZO) (t:TE):Prop where
 run:PE X e t
structure QA (X:Cx) (es:List ZO) (t:TA):Prop where
 run:PA X es t
structure Lo (X:Cx) (pos:ZP) (ks:List (Option ZO)) (vs:List ZO) (t:List (TE×TE)):Prop where
 run:HA X pos ks vs t
structure QS (X:Cx) (st:ZM) (t:TS):Prop where
 run:PS X st t
structure Ln (X:Cx) (sts:List ZM) (t:TS):Prop where
 run:iU X sts t
def iQ (h:X.K=K):lA X (yH K):=h ▸ ak
def nS (h:X.K=K):c_ X (V6 .Add) (mq K):=h ▸ bM
def D_ {f:List V->Hp->VK->Prop} {rest:TS} (h:te σ H λ x H1=>f [x] H1 λ y H2=>g y σ H2 (rest D)):ir (jz (sZ f (fX te ig)) g) rest D σ H:=h
theorem dQ {α β:Type} {R:α->β->Prop} :∀{xs:List α} {ys:List β} {i:Nat} {y:β},af R xs ys->ys[i]? = some y->∃x,xs[i]? = some x/\R x y
 | _,_,i,y,.nil,e=>by simp at e
 | _,_,0,y,.cons a _,e=>by rw [B4] at e;cases e;exact ⟨_,B4,a⟩
 | _,_,i + 1,y,.cons _ r,e=>by rw [X2] at e;obtain ⟨x,c,b⟩:=dQ r e;exact ⟨x,by rw [X2];exact c,b⟩
def Dk {α:Type} {rs:List α} {RA:Hp->α->V->Prop} {Q:VK} (d:α) (p:α->Bool) (f:α->V) (r:Runs J H1 xs.length (λ i v _=>xs[i]? = some v)) (hm :∀H H' a v,Same H H'->RA H a v->RA H' a v) (al:af (RA H1) rs xs) (hn:rs.length<=ZG)
  (body :∀a∈rs,∀v H,Same H1 H->RA H a v->∀(KT:VK) (KF:Hp->Prop),(p a=true->∀H',Same H H'->KT (f a) H')->(p a=false->∀H',Same H H'->KF H')->
   g v (aE σ fr (A1 m none)) H λ σ6 H6=>∃us,us.length=m/\σ6=aE σ fr us/\tc (aE σ fr us) H6 λ b H2=>if b=true then te (aE σ fr us) H2 KT else KF H2)
  (hQ :∀l H',Same H1 H'->H' l=none->Q (.ref l) (upd H' l (.lst ((rs.filter p).map f)))) :
  ∃W:Nat->Nat->List V->Hp->Prop,(∃m,W 0 m [] H1)/\∀i k ys H,W i k ys H->
   (J.stop i H/\ys.length<=ZG/\∀p,H p=none->Q (.ref p) (upd H p (.lst ys)))\/
   (J.go i H/\ys.length<=ZG/\∀v H',J.yld i H v H'->g v (aE σ fr (A1 m none)) H' λ σ6 H6=>∃us,us.length=m/\σ6=aE σ fr us/\tc (aE σ fr us) H6 λ b H2=>if b=true then te (aE σ fr us) H2 λ y H3=>∃m',m' < k/\W (i + 1) m' (ys++[y]) H3 else∃m',m' < k/\W (i + 1) m' ys H2):=by
 have len:=cz al;refine Ga (λ i=>p (rs[i]?.getD d)) (λ i y _=>y=f (rs[i]?.getD d)) (λ _ _ _ _ _ h=>h) r (by rw [len];exact hn) (λ i z v H s u KT KF c n=>?_) λ l H' ys s t x=>?_
 ·obtain ⟨a,j,w⟩:=dQ al u;rw [j] at c n;exact body a (K0 j) v H s (hm _ _ _ _ s w) KT KF (λ q H' o=>c q _ H' o rfl) n
 ·have e:=pU x;rw [len,Du p f d rs] at e;rw [e];exact hQ l H' s t
def rm {α:Type} {l:ZS} {rs:List α} {RA:Hp->α->V->Prop} {tl:TE} {Q:VK} (d:α) (p:α->Bool) (f:α->V) (htl :∀R:VK,R (.ref l) H1->tl σ H R) (hq:av K H1 l xs) (hm :∀H H' a v,Same H H'->RA H a v->RA H' a v) (al:af (RA H1) rs xs) (hn:rs.length<=ZG)
  (body :∀a∈rs,∀v H,Same H1 H->RA H a v->∀(KT:VK) (KF:Hp->Prop),(p a=true->∀H',Same H H'->KT (f a) H')->(p a=false->∀H',Same H H'->KF H')->
   g v (aE σ fr (A1 m none)) H λ σ6 H6=>∃us,us.length=m/\σ6=aE σ fr us/\tc (aE σ fr us) H6 λ b H2=>if b=true then te (aE σ fr us) H2 KT else KF H2)
  (hQ :∀l H',Same H1 H'->H' l=none->Q (.ref l) (upd H' l (.lst ((rs.filter p).map f)))):cu (h_ K tl) m fr g tc te σ H Q:=
 htl _ ⟨l,rfl,⟨xs,hq⟩,Dk d p f (Cc hq) hm al hn body hQ⟩
section
def yh (hh:A.handled=none) (it t:ZS) (ne:t≠it) (items:Array ZH):Draws prog w A it [it,t] items.size (λ i v=>items[i]? = some v) (λ i h=>h.IsTupleIter it t i/\h.IsTuple t items) where
 live:=λ i h a=>a.1.elim λ o z=>⟨o,z.1⟩
 frame:=λ i h b a k=>⟨a.1.elim λ o z=>⟨o,k it (by simp) o z.1,z.2⟩,a.2.elim λ o z=>⟨o,k t (by simp) o z.1,z.2⟩⟩
 item:=λ i s Q E d a q=>qu a.1 a.2 (T1 d) λ b f c=>q _ b s.toks (T1 d) ⟨f,a.2.elim λ o z=>⟨o,(c.2 t ne).trans z.1,z.2⟩⟩ c
 done:=λ s Q E a q=>oG hh a.1 a.2 (by simp) λ b e x y=>q b e x y
def EZ (a:ZS) (xs:Array ZH):Meets (O6.«enumerate.__new__» ⟨[.type "enumerate",.ref a],[]⟩) (λ _ R s=>s.heap.IsTuple a xs/\R (.ok (.ret (.ref (s.heap.objs.size + 1))))
  { s with heap:=(s.heap.push { cls:=.type "tuple_iterator",data:=.fields #[.ref a,.int 0 0] }).push { cls:=.type "enumerate",data:=.fields #[.none,.bool false,.ref s.heap.objs.size,F6 0,.none,.none] } }):=
 .of_wp λ i w A R s h=>by
  obtain ⟨e,g,d,tk,j⟩:=s;obtain ⟨f,h⟩:=h;have sub:=sub_enumerate;have b:Heap.IsTuple (Shared.heap ⟨e,g,d,tk,j⟩) a xs:=f
  wp_walk using r9 b
  intro Γ p k;show X0 (P1 i w) A.in1 (i5 _) _ _ _;refine A0 ?_;generalize List.drop 1 ((Γ.code,p) :: Γ.below)=L;split
  ·rename_i c _ _ _ _;cases c == U4 "enumerate" with
   | true=>
    wp_walk using r9 b
    refine ⟨_,rfl,?_⟩;simpa [v5,J7] using h
   | false=>
    wp_walk using r9 b
    refine ⟨_,rfl,?_⟩;simpa [v5,J7] using h
  ·wp_walk using r9 b
   refine ⟨_,rfl,?_⟩;simpa [v5,J7] using h
def FI {xs:Array ZH} {Q:ZH->I0->Prop} (ha:s.heap.IsTuple a xs)
  (q :∀h',IsEnum h' (s.heap.objs.size + 1) s.heap.objs.size 0 .none->h'.IsTupleIter s.heap.objs.size a 0->h'.objs.size=s.heap.objs.size + 2->(∀c o,s.heap.get? c=some o->h'.get? c=some o)->Q (.ref (s.heap.objs.size + 1)) { s with heap:=h' }) :
  X0 (P1 prog w) A (call (.type "enumerate") [.ref a]) Q E s:=by
 refine callType_new F.called_enumerate (by decide) (F.typeCall_enumerate_1 _) (F.newCall_enumerate_1 _) (λ f=>F.args_object_init_2 f _) F.entry_enumerate_new (EZ a xs) ⟨ha,?_⟩;generalize hn:s.heap.objs.size=n at q⊢;generalize h0:s.heap.push { cls:=.type "tuple_iterator",data:=.fields #[.ref a,.int 0 0] }=k0;have b:k0.objs.size=n + 1:=by rw [<-h0,v5,hn]
 have g:k0.get? n=some { cls:=.type "tuple_iterator",data:=.fields #[.ref a,.int 0 0] }:=by rw [<-h0,<-hn];exact U0 _ rfl
 have d:(k0.push { cls:=.type "enumerate",data:=.fields #[.none,.bool false,.ref n,F6 0,.none,.none] }).get? (n + 1)=some { cls:=.type "enumerate",data:=.fields #[.none,.bool false,.ref n,F6 0,.none,.none] }:=by rw [<-b];exact U0 _ rfl
 exact ⟨⟨_,d,rfl⟩,q _ d ⟨_,G0 _ g,rfl,rfl⟩ (by rw [v5,b]) λ c o e=>G0 _ (by rw [<-h0];exact G0 _ e)⟩
end
noncomputable def jn (K:B0) (a:ZS):It:=
  ⟨λ i H=>∃xs x,av K H a xs/\xs[i]? = some x,
   λ i H v H'=>∃p,H p=none/\v=.ref p/\∀xs,av K H a xs->∃x,xs[i]? = some x/\H'=upd H p (.tup [.int i,x]),
   λ i H=>∃xs,av K H a xs/\xs.length=i⟩
def gj:(0:Nat)<=ZG:=by decide
def qS:(1:Nat)<=ZG:=by decide
def gp:(2:Nat)<=ZG:=by decide
def lO:(3:Nat)<=ZG:=by decide
def sr:(4:Nat)<=ZG:=by decide
def Dh:(5:Nat)<=ZG:=by decide
variable {elts:List ZO} {x1:Nat}
def EJ {e:ZS} (ne:e≠it) (nae:a≠e) (nai:a≠it):Turn P w K (.Tuple elts x1 pos) (jn K a) [e,it] e (λ n h=>(∃old,IsEnum h e it (n:Nat) old)/\h.IsListIter it a n) where
 mem:=by simp
 obj:=λ n h g c f=>by
  simp only [X1,P0,or_false] at f;rcases f with rfl|rfl
  ·obtain ⟨⟨old,z⟩,_⟩:=g;exact ⟨_,z,λ v z=>by cases (show j1c _=j07 v from z)⟩
  ·obtain ⟨_,o,e,_,d⟩:=g;exact ⟨o,e,λ v z=>by rw [d] at z;cases z⟩
 keep:=λ n h T g k=>by obtain ⟨⟨old,z⟩,o,e1,e2⟩:=g;exact ⟨⟨old,k e (by simp) _ z⟩,o,k it (by simp) _ e1,e2⟩
 item:=by
  intro X J G B f n a3 s σ H E I q g C;subst J G B;obtain ⟨U,x,p,R⟩:=C;obtain ⟨i,F,j,_⟩:=I.list p;have j:s.heap.IsList a i.toArray:=j.isList;obtain ⟨u,Q,Z⟩:=F.get R;have D:=Draws.list (prog:=X.prog) (w:=X.w) (A:=X.A.in1) (I.ok.hd f) it a nai i.toArray;have a8:n < i.toArray.size:=by have:=(List.getElem?_eq_some_iff.mp Q).1;simpa using this
  obtain ⟨⟨old,N⟩,S⟩:=g;refine wpAny_pyNext_enum_itemD D N ⟨S,j⟩ a8 ne (by simp [ne,nae.symm]) λ y T t m a6 a7 Y hz r=>?_;have m:i[n]? = some y:=by simpa using m
  rw [Q] at m;cases m;have a4:e < s.heap.objs.size:=T0 N;have a2:it < s.heap.objs.size:=by obtain ⟨o,z,_⟩:=S;exact T0 z
  have M:s.heap.objs.size≠e:=J3 a4;have nT:s.heap.objs.size∉[e,it]:=by simp only [X1,P0,or_false,not_or];exact ⟨M,J3 a2⟩
  refine ⟨_,rfl,j9c a6 λ V a0 L=>?_⟩;have k2 :∀b o,b∉[e,it]->s.heap.get? b=some o->V.get? b=some o:=λ b o l z=>by simp only [X1,P0,or_false,not_or] at l;exact (L.2 b l.1).trans (r b o l.1 l.2 z)
  have O:=(L.2 _ M).trans Y;have a5:=a7.1.elim λ o z=>(⟨o,(L.2 it ne.symm).trans z.1,z.2⟩:V.IsListIter it a (n + 1))
  have fr:H s.heap.objs.size=none:=I.hok.fresh (L0 _);refine ⟨.ref s.heap.objs.size,upd H s.heap.objs.size (.tup [.int n,x]),I.turnedLaid (t':=t + 1) k2 q (L0 _) ⟨gp,[.int n t,u],.cons ⟨t,rfl⟩ (.cons Z .nil),⟨_,O,rfl,_,rfl⟩,_,O,rfl⟩,rfl,⟨_,fr,rfl,λ a9 a1=>⟨x,?_,rfl⟩⟩,⟨⟨_,a0⟩,a5⟩,λ c f=>?_⟩
  ·rw [I.list_inj a1 p];exact R
  ·rw [ae (λ (z:c=s.heap.objs.size)=>nT (z ▸ f))];exact (q c f).1
 done:=by
  intro X J G B f n a3 s σ H E I q g C;subst J G B;obtain ⟨U,p,rfl⟩:=C;obtain ⟨i,F,j,_⟩:=I.list p;have j:s.heap.IsList a i.toArray:=j.isList;have D:=Draws.list (prog:=X.prog) (w:=X.w) (A:=X.A.in1) (I.ok.hd f) it a nai i.toArray;have W:=WalksT.enumerateD D e ne (by simp [ne,nae.symm]) (by simp);have la:i.toArray.size=U.length:=by simpa using F.length.symm
  exact W.done s _ E (by rw [la];exact ⟨g.1,g.2,j⟩) λ T tk r=>⟨rfl,I.turnedL (t':=tk) (λ c o f e=>r c o f e) q⟩
 self:=λ _ _ _ _ _ g h=>g.1.elim λ old z=>j26 z h
def Ad (K:B0) (ta:TA):TI:=λ σ H R=>ta σ H λ vs H1=>∃a xs,vs=[.ref a]/\av K H1 a xs/\R (jn K a) H1
def pG {tpos:ZP} {p:ZP} (hg:Gl X "enumerate") (hm:X.mg "enumerate" = none) (ha:PA X [e] ta) (hs:A2 [e] X.env=[(false,T4 e X.env)]:=by rfl) :
  PI X (.Tuple elts x1 tpos) (.Call (.Name "enumerate" p) [e] [] pos) (Ad X.K ta):=by
 intro n s σ H R I h;refine Call_ (cL I hg hm boot_enumerate (K3 (br (ha pos n s σ H _ I h) λ w b ⟨vs,H1,I1,r1,q1⟩=>?_) (by rw [hs];rfl) rfl));obtain ⟨a,z,k,t,q⟩:=q1;subst k;obtain ⟨u,rfl,l⟩:=vals1 r1;cases (show u=O2 a from l);obtain ⟨v,x,d,_⟩:=I1.list t;have d:b.heap.IsList a v.toArray:=d.isList;have g:a < b.heap.objs.size:=by obtain ⟨o,e,_⟩:=id d;exact T0 e
 refine call_enumerate_list d λ y f r _ m=>?_;refine j26 f ?_;refine ⟨_,_,_,_,H1,rfl,I1.kept (t':=b.toks) m,EJ (J3 (F4 _)) (K1 (C3 g)) (K1 g),⟨⟨_,f⟩,r⟩,λ c i=>?_,q⟩;have j:b.heap.objs.size<=c:=by
  simp only [X1,P0,or_false] at i;rcases i with rfl|rfl
  ·exact b6 _ _
  ·exact L0 _
 exact I1.fpOk j (I1.hok.fresh j)
theorem qa {tb:TS} (Pv:Nat->St->Hp->Prop) (h0:Pv 0 σ H) (hl :∀i σ H,Pv i σ H->av K H a xs)
  (hs :∀i x σ H p,xs[i]? = some x->Pv i σ H->H p=none->g (.ref p) σ (upd H p (.tup [.int i,x])) λ σ2 H2=>tb { D with nx:=Pv (i + 1),ct:=Pv (i + 1),bk:=D.nx } σ2 H2) (hd :∀σ H,Pv xs.length σ H->D.nx σ H) :
  ∃W:Nat->Nat->St->Hp->Prop,(∃m,W 0 m σ H)/\∀i m σ H,W i m σ H->
   ((jn K a).stop i H/\D.nx σ H)\/((jn K a).go i H/\∃N:St->Hp->Prop,(∀σ' H',N σ' H'->∃m',m' < m/\W (i + 1) m' σ' H')/\∀x H',(jn K a).yld i H x H'->g x σ H' λ σ2 H2=>tb { D with nx:=N,ct:=N,bk:=D.nx } σ2 H2):=by
 refine ⟨λ i m σ H=>m=xs.length - i/\i<=xs.length/\Pv i σ H,⟨xs.length,by simp,K2 _,h0⟩,?_⟩;rintro i m σ H ⟨rfl,hi,p⟩;have b:=hl i σ H p;by_cases hlt:i < xs.length
 ·refine .inr ⟨⟨xs,xs[i],b,by simp [hlt]⟩,Pv (i + 1),λ σ' H' f=>⟨xs.length - (i + 1),by lia,rfl,hlt,f⟩,λ v H' y=>?_⟩;obtain ⟨t,c,rfl,j⟩:=y;obtain ⟨h,d,rfl⟩:=j xs b;exact hs i h σ H t d p c
 ·have e:i=xs.length:=by lia
  subst e;exact .inl ⟨⟨xs,b,rfl⟩,hd σ H p⟩
noncomputable def jT (K:B0) (a:ZS):It:=
  ⟨λ i H=>∃xs x,aG K H a xs/\xs[i]? = some x,
   λ i H v H'=>∃p,H p=none/\v=.ref p/\∀xs,aG K H a xs->∃x,xs[i]? = some x/\H'=upd H p (.tup [.int i,x]),
   λ i H=>∃xs,aG K H a xs/\xs.length=i⟩
def Ew {e:ZS} (ne:e≠it) (nae:a≠e) (nai:a≠it):Turn P w K (.Tuple elts x1 pos) (jT K a) [e,it] e (λ n h=>(∃old,IsEnum h e it (n:Nat) old)/\h.IsTupleIter it a n) where
 mem:=by simp
 obj:=λ n h g c f=>by
  simp only [X1,P0,or_false] at f;rcases f with rfl|rfl
  ·obtain ⟨⟨old,z⟩,_⟩:=g;exact ⟨_,z,λ v z=>by cases (show j1c _=j07 v from z)⟩
  ·obtain ⟨_,o,e,_,d⟩:=g;exact ⟨o,e,λ v z=>by rw [d] at z;cases z⟩
 keep:=λ n h T g k=>by obtain ⟨⟨old,z⟩,o,e1,e2⟩:=g;exact ⟨⟨old,k e (by simp) _ z⟩,o,k it (by simp) _ e1,e2⟩
 item:=by
  intro X J G B f n a3 s σ H E I q g C;subst J G B;obtain ⟨U,x,p,R⟩:=C;obtain ⟨i,F,j,_⟩:=I.tuple p;have j:s.heap.IsTuple a i.toArray:=j;obtain ⟨u,Q,Z⟩:=F.get R;have D:=yh (prog:=X.prog) (w:=X.w) (A:=X.A.in1) (I.ok.hd f) it a nai i.toArray;have a8:n < i.toArray.size:=by have:=(List.getElem?_eq_some_iff.mp Q).1;simpa using this
  obtain ⟨⟨old,N⟩,S⟩:=g;refine wpAny_pyNext_enum_itemD D N ⟨S,j⟩ a8 ne (by simp [ne,nae.symm]) λ y T t m a6 a7 Y hz r=>?_;have m:i[n]? = some y:=by simpa using m
  rw [Q] at m;cases m;have a4:e < s.heap.objs.size:=T0 N;have a2:it < s.heap.objs.size:=by obtain ⟨o,z,_⟩:=S;exact T0 z
  have M:s.heap.objs.size≠e:=J3 a4;have nT:s.heap.objs.size∉[e,it]:=by simp only [X1,P0,or_false,not_or];exact ⟨M,J3 a2⟩
  refine ⟨_,rfl,j9c a6 λ V a0 L=>?_⟩;have k2 :∀b o,b∉[e,it]->s.heap.get? b=some o->V.get? b=some o:=λ b o l z=>by simp only [X1,P0,or_false,not_or] at l;exact (L.2 b l.1).trans (r b o l.1 l.2 z)
  have O:=(L.2 _ M).trans Y;have a5:=a7.1.elim λ o z=>(⟨o,(L.2 it ne.symm).trans z.1,z.2⟩:V.IsTupleIter it a (n + 1))
  have fr:H s.heap.objs.size=none:=I.hok.fresh (L0 _);refine ⟨.ref s.heap.objs.size,upd H s.heap.objs.size (.tup [.int n,x]),I.turnedLaid (t':=t + 1) k2 q (L0 _) ⟨gp,[.int n t,u],.cons ⟨t,rfl⟩ (.cons Z .nil),⟨_,O,rfl,_,rfl⟩,_,O,rfl⟩,rfl,⟨_,fr,rfl,λ a9 a1=>⟨x,?_,rfl⟩⟩,⟨⟨_,a0⟩,a5⟩,λ c f=>?_⟩
  ·rw [I.tuple_inj a1 p];exact R
  ·rw [ae (λ (z:c=s.heap.objs.size)=>nT (z ▸ f))];exact (q c f).1
 done:=by
  intro X J G B f n a3 s σ H E I q g C;subst J G B;obtain ⟨U,p,rfl⟩:=C;obtain ⟨i,F,j,_⟩:=I.tuple p;have j:s.heap.IsTuple a i.toArray:=j;have D:=yh (prog:=X.prog) (w:=X.w) (A:=X.A.in1) (I.ok.hd f) it a nai i.toArray;have W:=WalksT.enumerateD D e ne (by simp [ne,nae.symm]) (by simp);have la:i.toArray.size=U.length:=by simpa using F.length.symm
  exact W.done s _ E (by rw [la];exact ⟨g.1,g.2,j⟩) λ T tk r=>⟨rfl,I.turnedL (t':=tk) (λ c o f e=>r c o f e) q⟩
 self:=λ _ _ _ _ _ g h=>g.1.elim λ old z=>j26 z h
def KH (K:B0) (ta:TA):TI:=λ σ H R=>ta σ H λ vs H1=>∃a xs,vs=[.ref a]/\aG K H1 a xs/\R (jT K a) H1
def D8 {tpos:ZP} {p:ZP} (hg:Gl X "enumerate") (hm:X.mg "enumerate" = none) (ha:PA X [e] ta) (hs:A2 [e] X.env=[(false,T4 e X.env)]:=by rfl) :
  PI X (.Tuple elts x1 tpos) (.Call (.Name "enumerate" p) [e] [] pos) (KH X.K ta):=by
 intro n s σ H R I h;refine Call_ (cL I hg hm boot_enumerate (K3 (br (ha pos n s σ H _ I h) λ w b ⟨vs,H1,I1,r1,q1⟩=>?_) (by rw [hs];rfl) rfl));obtain ⟨a,z,k,t,q⟩:=q1;subst k;obtain ⟨u,rfl,l⟩:=vals1 r1;cases (show u=O2 a from l);obtain ⟨v,x,d,_⟩:=I1.tuple t;have d:b.heap.IsTuple a v.toArray:=d;have g:a < b.heap.objs.size:=by obtain ⟨o,e,_⟩:=id d;exact T0 e
 refine FI d λ y f r _ m=>?_;refine j26 f ?_;refine ⟨_,_,_,_,H1,rfl,I1.kept (t':=b.toks) m,Ew (J3 (F4 _)) (K1 (C3 g)) (K1 g),⟨⟨_,f⟩,r⟩,λ c i=>?_,q⟩;have j:b.heap.objs.size<=c:=by
  simp only [X1,P0,or_false] at i;rcases i with rfl|rfl
  ·exact b6 _ _
  ·exact L0 _
 exact I1.fpOk j (I1.hok.fresh j)
theorem Kx {tb:TS} (Pv:Nat->St->Hp->Prop) (h0:Pv 0 σ H) (hl :∀i σ H,Pv i σ H->aG K H a xs)
  (hs :∀i x σ H p,xs[i]? = some x->Pv i σ H->H p=none->g (.ref p) σ (upd H p (.tup [.int i,x])) λ σ2 H2=>tb { D with nx:=Pv (i + 1),ct:=Pv (i + 1),bk:=D.nx } σ2 H2) (hd :∀σ H,Pv xs.length σ H->D.nx σ H) :
  ∃W:Nat->Nat->St->Hp->Prop,(∃m,W 0 m σ H)/\∀i m σ H,W i m σ H->
   ((jT K a).stop i H/\D.nx σ H)\/((jT K a).go i H/\∃N:St->Hp->Prop,(∀σ' H',N σ' H'->∃m',m' < m/\W (i + 1) m' σ' H')/\∀x H',(jT K a).yld i H x H'->g x σ H' λ σ2 H2=>tb { D with nx:=N,ct:=N,bk:=D.nx } σ2 H2):=by
 refine ⟨λ i m σ H=>m=xs.length - i/\i<=xs.length/\Pv i σ H,⟨xs.length,by simp,K2 _,h0⟩,?_⟩;rintro i m σ H ⟨rfl,hi,p⟩;have b:=hl i σ H p;by_cases hlt:i < xs.length
 ·refine .inr ⟨⟨xs,xs[i],b,by simp [hlt]⟩,Pv (i + 1),λ σ' H' f=>⟨xs.length - (i + 1),by lia,rfl,hlt,f⟩,λ v H' y=>?_⟩;obtain ⟨t,c,rfl,j⟩:=y;obtain ⟨h,d,rfl⟩:=j xs b;exact hs i h σ H t d p c
 ·have e:i=xs.length:=by lia
  subst e;exact .inl ⟨⟨xs,b,rfl⟩,hd σ H p⟩
section
def HG (hc:X.calm=true):cv X (.builtin "sum") (λ xs H Q=>∃(p:ZS) (ns:List Int),xs=[.ref p]/\av X.K H p (ns.map V.int)/\Q (.int ns.sum) H):=by
 intro F s σ H xs E Q I r h;obtain ⟨p,ns,rfl,C,q⟩:=h;obtain ⟨u,rfl,w⟩:=vals1 r;cases w;obtain ⟨c,m,d,G⟩:=I.list C;have B:p≠s.heap.objs.size:=by obtain ⟨o,e,_⟩:=d.isList;exact K1 (T0 e)
 have n:c.length=ns.length:=by have:=m.length;rw [q0] at this;exact this.symm
 refine call_sum_walkAnyS (c8 d.isList ?_);refine ⟨s.heap.objs.size,_,_,_,_,_,_,λ i=>ns[i]?.getD 0,rfl,(Walks.list (show X.A.in1.handled=none from I.ok.hd hc) s.heap.objs.size p B c.toArray).toS,⟨⟨_,U0 _ rfl,rfl,rfl⟩,d.isList.at λ o e=>G0 _ e⟩,?_,?_,?_⟩
 ·intro b f;simp only [X1,P0,or_false] at f;rcases f with rfl|rfl
  ·rw [v5];exact F4 _
  ·obtain ⟨o,e,_⟩:=d.isList;exact T0 (G0 _ e)
 ·intro i v a;have a:c[i]? = some v:=by simpa using a
  obtain ⟨D,e⟩:=List.getElem?_eq_some_iff.mp a;have j:i < ns.length:=by rw [<-n];exact D
  obtain ⟨u,k,g⟩:=m.get (i:=i) (x:=.int ns[i]) (by simp [j]);rw [a] at k;cases k;obtain ⟨t,g⟩:=g;exact ⟨t,by show v=P8 (ns[i]?.getD 0) t;rw [C0 j];exact g⟩
 ·intro y t' l;have e:preSum (λ i=>ns[i]?.getD 0) c.toArray.size=ns.sum:=by rw [Q0,n,Di ns _ (L0 _),W2]
  rw [e,l.eq_with];refine ⟨.int _,H,I.kept (t':=y.toks) λ b o z=>l.heap b o ?_ (G0 _ z),⟨_,rfl⟩,q⟩;intro f;rw [List.mem_singleton.mp f] at z;exact ZU (T0 z) (N5 _)
def Kq {o:ZO} {es:List ZO} {to:TE} {t:TA} {apos cpos:ZP} (ho:PE X o to) (ha:PA X (e :: es) t)
  (hbase:F5 o "pop" X.env (T4 o X.env)=T4 o X.env:=by rfl)
  (hfew:((r6 cpos (A2 (e :: es) X.env)).all (λ x=>!x.1) && (b9 cpos (P6 [] X.env)).all (λ x=>x.1.isSome)
   && decide ((e :: es).length + ([]:List d6).length + (if ([]:List d6).isEmpty then 0 else 1) < 30))=true:=by rfl)
  (hline:(apos.endLine == cpos.line)=true:=by rfl) (hs:A2 (e :: es) X.env=(false,T4 e X.env) :: A2 es X.env:=by rfl) (hplain:(r6 cpos (A2 es X.env)).any (·.1)=false:=by rfl) :
  PE X (.Call (.Attribute o "pop" apos) (e :: es) [] cpos) (kW X.K "list" kO to t):=fA m6 PySem.F.slot_list_pop PySem.F.type_list_pop He ho ha hbase hfew hline hs hplain
end
mutual
noncomputable def bY (K:B0) (H:Hp):ZL->V->Prop
 | .none,v=>v=.non
 | .bool b,v=>v=.bl b
 | .int i,v=>v=.int i
 | .str z,v=>v=.str z
 | .list ds,v=>∃a xs,v=.ref a/\av K H a xs/\dJ K H ds xs
 | .tuple ds,v=>∃a xs,v=.ref a/\aG K H a xs/\dJ K H ds xs
 | .dict _,_=>False
noncomputable def dJ (K:B0) (H:Hp):List ZL->List V->Prop
 | [],xs=>xs=[]
 | d :: ds,xs=>∃x r,xs=x :: r/\bY K H d x/\dJ K H ds r
end
mutual
theorem bY.mono' {K:B0} {H H':Hp} (s :∀a xs,aG K H a xs->aG K H' a xs) (t :∀a xs,av K H a xs->av K H' a xs) :∀(d:ZL) (v:V),bY K H d v->bY K H' d v
 | .none,v,h=>h
 | .bool _,v,h=>h
 | .int _,v,h=>h
 | .str _,v,h=>h
 | .list ds,v,h=>by obtain ⟨a,xs,rfl,e,r⟩:=h;exact ⟨a,xs,rfl,t _ _ e,dJ.mono' s t ds xs r⟩
 | .tuple ds,v,h=>by obtain ⟨a,xs,rfl,e,r⟩:=h;exact ⟨a,xs,rfl,s _ _ e,dJ.mono' s t ds xs r⟩
 | .dict _,v,h=>h.elim
theorem dJ.mono' {K:B0} {H H':Hp} (s :∀a xs,aG K H a xs->aG K H' a xs) (t :∀a xs,av K H a xs->av K H' a xs) :∀(ds:List ZL) (xs:List V),dJ K H ds xs->dJ K H' ds xs
 | [],xs,h=>h
 | d :: ds,xs,h=>by obtain ⟨x,r,rfl,a,b⟩:=h;exact ⟨x,r,rfl,bY.mono' s t d x a,dJ.mono' s t ds r b⟩
end
def bY.same {d:ZL} {v:V} (h:bY K H d v) (s:Same H H'):bY K H' d v:=bY.mono' (λ _ _ q=>s.seqT q) (λ _ _ q=>s.seq q) d v h
section
mutual
theorem lF (I:Inv X pins σ H s) :∀(d:ZL) (v:V) (u:ZH),bY X.K H d v->RelV v u->∃as,j5e s.heap u d as
 | .none,v,u,h,r=>by cases (show v=.non from h);cases (show u=.none from r);exact ⟨_,.none⟩
 | .bool b,v,u,h,r=>by cases (show v=.bl b from h);cases (show u=.bool b from r);exact ⟨_,.bool b⟩
 | .int i,v,u,h,r=>by cases (show v=.int i from h);obtain ⟨t,rfl⟩:=r;exact ⟨_,.int i t⟩
 | .str z,v,u,h,r=>by cases (show v=.str z from h);obtain ⟨t,rfl⟩:=r;exact ⟨_,.str z t⟩
 | .list ds,v,u,h,r=>by obtain ⟨a,k,rfl,e,j⟩:=h;cases (show u=.ref a from r);obtain ⟨m,l,c,_⟩:=I.list e;obtain ⟨o,f,g,n,q⟩:=c.isList;obtain ⟨as,p⟩:=wV I ds k m j l;exact ⟨_,.list f g q p⟩
 | .tuple ds,v,u,h,r=>by obtain ⟨a,k,rfl,e,j⟩:=h;cases (show u=.ref a from r);obtain ⟨m,l,c,_⟩:=I.tuple e;obtain ⟨o,f,g,n,q⟩:=c;obtain ⟨as,p⟩:=wV I ds k m j l;exact ⟨_,.tuple f g q p⟩
 | .dict _,v,u,h,r=>h.elim
theorem wV (I:Inv X pins σ H s) :∀(ds:List ZL) (xs:List V) (us:List ZH),dJ X.K H ds xs->aD xs us->∃as,j4d s.heap us ds as
 | [],xs,us,h,r=>by cases (show xs=[] from h);cases r;exact ⟨_,.nil⟩
 | d :: ds,xs,us,h,r=>by
  obtain ⟨x,t,rfl,a,b⟩:=h;cases r with
  | cons r1 r2=>obtain ⟨as,e⟩:=lF I d x _ a r1;obtain ⟨bs,c⟩:=wV I ds t _ b r2;exact ⟨_,.cons e c⟩
end
end
mutual
noncomputable def bg:ZL->Bool
 | .none=>true
 | .bool _=>false
 | .int _=>true
 | .str z=>(w5 z).canLay0
 | .list ds=>g_ ds
 | .tuple ds=>g_ ds
 | .dict _=>false
noncomputable def g_:List ZL->Bool
 | []=>true
 | d :: ds=>bg d && g_ ds
end
mutual
theorem nM:∀d:ZL,bg d=true->d.canLay0=true
 | .none,_=>rfl
 | .bool _,h=>by cases h
 | .int _,_=>rfl
 | .str _,h=>h
 | .list ds,h=>rT ds h
 | .tuple ds,h=>rT ds h
 | .dict _,h=>by cases h
theorem rT:∀ds:List ZL,g_ ds=true->j0f ds=true
 | [],_=>rfl
 | d :: ds,h=>by have h:(bg d && g_ ds)=true:=h;rw [Z5] at h;show (d.canLay0 && j0f ds)=true;rw [nM d h.1,rT ds h.2];rfl
end
mutual
theorem pO:∀d e:ZL,bg d=true->bg e=true->(d.eqv e=true↔d=e)
 | .none,e,_,he=>by
  cases e with
  | none=>exact ⟨λ _=>rfl,λ _=>rfl⟩
  | bool b=>cases he
  | dict _=>cases he
  | _=>exact ⟨λ z=>(by cases z),λ z=>(by cases z)⟩
 | .bool _,e,hd,_=>by cases hd
 | .int i,e,_,he=>by
  cases e with
  | int j=>exact ⟨λ z=>ZT _ (eq_of_beq (show (i == j)=true from z)),λ z=>by cases z;exact beq_self_eq_true i⟩
  | bool b=>cases he
  | dict _=>cases he
  | _=>exact ⟨λ z=>(by cases z),λ z=>(by cases z)⟩
 | .str i,e,_,he=>by
  cases e with
  | str j=>exact ⟨λ z=>ZT _ (eq_of_beq (show (i == j)=true from z)),λ z=>by cases z;exact beq_self_eq_true i⟩
  | bool b=>cases he
  | dict _=>cases he
  | _=>exact ⟨λ z=>(by cases z),λ z=>(by cases z)⟩
 | .list ds,e,hd,he=>by
  cases e with
  | list es=>exact ⟨λ z=>ZT _ ((qG ds es hd he).mp z),λ z=>(qG ds es hd he).mpr (by cases z;rfl)⟩
  | bool b=>cases he
  | dict _=>cases he
  | _=>exact ⟨λ z=>(by cases z),λ z=>(by cases z)⟩
 | .tuple ds,e,hd,he=>by
  cases e with
  | tuple es=>exact ⟨λ z=>ZT _ ((qG ds es hd he).mp z),λ z=>(qG ds es hd he).mpr (by cases z;rfl)⟩
  | bool b=>cases he
  | dict _=>cases he
  | _=>exact ⟨λ z=>(by cases z),λ z=>(by cases z)⟩
 | .dict _,e,hd,_=>by cases hd
theorem qG:∀ds es:List ZL,g_ ds=true->g_ es=true->(PyData.eqvAll ds es=true↔ds=es)
 | [],[],_,_=>⟨λ _=>rfl,λ _=>rfl⟩
 | [],e :: es,_,_=>⟨λ z=>(by cases z),λ z=>(by cases z)⟩
 | d :: ds,[],_,_=>⟨λ z=>(by cases z),λ z=>(by cases z)⟩
 | d :: ds,e :: es,b,a=>by have b:(bg d && g_ ds)=true:=b;have a:(bg e && g_ es)=true:=a;rw [Z5] at b a;show (d.eqv e && PyData.eqvAll ds es)=true↔_;rw [Z5,pO d e b.1 a.1,qG ds es b.2 a.2];exact ⟨λ z=>by rw [z.1,z.2],λ z=>by cases z;exact ⟨rfl,rfl⟩⟩
end
def pk {d e:ZL} (hd:bg d=true) (he:bg e=true) {p:Prop} [Decidable p] (h:d=e↔p):d.eqv e=decide p:=by rw [Bool.eq_iff_iff,decide_eq_true_eq,pO d e hd he,h]
section
def uh (K:B0):R2:=λ x y H Q=>∃d e,bY K H d x/\bY K H e y/\bg d=true/\bg e=true/\d.depth<=60/\Q (.bl (d.eqv e)) H
def xq (K:B0):R2:=λ x y H Q=>∃d e,bY K H d x/\bY K H e y/\bg d=true/\bg e=true/\d.depth<=60/\Q (.bl (!d.eqv e)) H
def jO {k:Nat} (hr:cF k A) (h:m<=60):A.units + min m n < ZF:=W1 (Nat.add_le_add_left (M0 (j75 _ _) (M0 h (by decide:60<=64))) _) hr.units
theorem kU {k:Nat} (hr:cF k A) (h:n<=60):A.units + 1 + min m n < ZF:=by
 have b:=hr.units;have a:=Nat.min_le_right m n
 lia
def oT {k:Nat} (hr:cF k X.A):c_ X (O3 .Eq) (uh X.K):=by intro m s σ H x y v u Q I g f h;obtain ⟨d,e,l,a,pd,i,j,q⟩:=h;obtain ⟨n,c⟩:=lF I d x v l g;obtain ⟨bs,b⟩:=lF I e y u a f;exact SeqAt.compareEq_reads c b (nM _ pd) (nM _ i) (jO hr j) ⟨.bl _,H,I,rfl,q⟩
def gR {k:Nat} (hr:cF k X.A):c_ X (O3 .NotEq) (xq X.K):=by intro m s σ H x y v u Q I g f h;obtain ⟨d,e,l,a,pd,i,j,q⟩:=h;obtain ⟨n,c⟩:=lF I d x v l g;obtain ⟨bs,b⟩:=lF I e y u a f;exact SeqAt.compareNe_reads c b (nM _ pd) (nM _ i) (jO hr j) ⟨.bl _,H,I,rfl,q⟩
def xA (K:B0) (neg:Bool):R2:=λ x y H Q=>∃d ds,bY K H d x/\(bY K H (.list ds) y\/bY K H (.tuple ds) y)/\bg d=true/\g_ ds=true/\d.depth<=60/\Q (.bl (if neg then !(ds.any λ e=>e.eqv d) else ds.any λ e=>e.eqv d)) H
def kB {k:Nat} (hr:cF k X.A):c_ X (O3 .In) (xA X.K false):=by
 intro l s σ H x y v u Q I i f h;obtain ⟨d,m,j,a,pd,c,g,q⟩:=h;obtain ⟨n,e⟩:=lF I d x v j i;rcases a with a|a
 ·obtain ⟨bs,b⟩:=lF I _ y u a f;exact SeqAt.in_list_reads b e (rT _ c) (nM _ pd) (kU hr g) ⟨.bl _,H,I,rfl,q⟩
 ·obtain ⟨bs,b⟩:=lF I _ y u a f;exact SeqAt.in_tuple_reads b e (rT _ c) (nM _ pd) (kU hr g) ⟨.bl _,H,I,rfl,q⟩
end
variable {Q:Option ZH->I0->Prop} {items:Array ZH}
section
def Cy:entryFor table "dict.update.loop" = some O6.«dict.update.loop»:=by kernel_rfl
def EA {l:ZS} {sl:Array (Option ZH)} (h:s.heap.get? l=some { cls:=.type "list",data:=.seq items n,slots:=sl }) (hh:A.handled=none)
  (q :∀h' tk,(∀b o,s.heap.get? b=some o->h'.get? b=some o)->Q none { s with heap:=h',toks:=tk }):X0 (P1 prog w) A (getAttr? (.ref l) (P4 "keys")) Q E s:=by
 unfold getAttr?;refine o0 (wpAny_mkText ?_);unfold getAttrBy? getAttrBy;have a:v8 { s with toks:=s.toks + 1 } (.ref l) "list":=⟨_,h,rfl⟩
 refine o0 (Y7 (F3 (o0 (N7 a ?_))));rw [show typeLookup (U4 "list") (P4 "__getattribute__")=i5 (some (.builtin "list.__getattribute__")) from rfl];refine o0 (A0 ?_);show X0 _ _ (getAttrByItsOwn (.ref l) (.str (P4 "keys") s.toks) (.type "list") (.builtin "list.__getattribute__") false false) _ _ _;unfold getAttrByItsOwn;refine o0 (show X0 _ _ (i5 none) _ _ _ from A0 ?_);refine o0 (Y7 (F3 ?_));show X0 _ _ (boundAndCalled (.builtin "list.__getattribute__") (.ref l) (.str (P4 "keys") s.toks)) _ _ _;unfold boundAndCalled;rw [show bindSpecial (.builtin "list.__getattribute__") (.ref l)=i5 (Value.builtin "list.__getattribute__",[O2 l]) from rfl];refine o0 (A0 ?_);show X0 _ _ (call (.builtin "list.__getattribute__") [.ref l,.str (P4 "keys") s.toks]) _ _ _;refine u9 F.slot_list_getattribute a am_entry_list_getattribute (F.args_list_getattribute_2 _ _) (meets_getattribute_miss_list l items n sl (P4 "keys") s.toks rfl (by decide +kernel) (by decide +kernel)) ⟨h,hh,λ h' tk e ne=>?_⟩;obtain ⟨t,u,d⟩:=ne.there;have c:v8 { s with heap:=h',toks:=tk } (.ref e) "AttributeError":=⟨_,d,rfl⟩
 show X0 _ _ (getattributeRaised (.ref l) _ (.type "list") (.ref e) none false false) _ _ _;unfold getattributeRaised;refine o0 (Z9 c rfl ?_);show X0 _ _ (hookBehind (.type "list") none >>= _) _ _ _;rw [show hookBehind (.type "list") none=i5 none from rfl];refine o0 (A0 ?_);show X0 _ _ (throw (O2 e) >>= _) _ _ _;refine o0 (wpAny_throw ?_);show X0 _ _ (isInstance (.ref e) (.type "AttributeError") >>= _) _ _ _;refine o0 (Z9 c rfl ?_);exact A0 (q h' tk ne.keeps)
def y_ (a:Args):(o9 "dict.update.loop" a).quiet=true:=j5d (by decide +kernel) _
def cV (prog:ZK) (w:U1) (h:ZN) (p:Key×ZH) (u:ZH):Prop:=∃a kv,u=.ref a/\h.IsTuple a #[kv,p.2]/\(eJ prog w).is p.1 kv=true
def cV.kept {p:Key×ZH} {u:ZH} {L:List ZS} (k :∀b o,b∉L->h.get? b=some o->h'.get? b=some o) (nt :∀b∈L,∀o,h.get? b=some o->o.cls≠.type "tuple") (x:cV prog w h p u):cV prog w h' p u:=by obtain ⟨a,f,e,⟨o,c,d,n,g⟩,i⟩:=x;exact ⟨a,f,e,⟨o,k a o (λ z=>nt a z o c d) c,d,n,g⟩,i⟩
def Kf {Q:List ZH->I0->Prop} (h:s.heap.IsTuple a items) (q:Q items.toList s):X0 (P1 prog w) A (j5h (.ref a)) Q E s:=by obtain ⟨o,b,d,n,c⟩:=h;unfold j5h;refine o0 (N7 (T:="tuple") ⟨o,b,d⟩ ?_);show X0 _ _ (seqItems? (.ref a) >>= _) _ _ _;exact o0 (B9 b c (A0 q))
theorem Co {d l:ZS} (ndi:d≠it) (ndl:d≠l) (nil':it≠l) :∀(ps:List (Key×ZH)) (i:Nat) (kvs:List (Key×ZH)) (A:P2) (R:j9j->I0->Prop) (s:I0),A.handled=none->s.heap.IsListIter it l i->s.heap.IsList l items->
  af (cV prog w s.heap) ps (items.toList.drop i)->X8 (eJ prog w) s.heap d kvs->kvs.length + ps.length<=ZG->
  (∀h' tk,X8 (eJ prog w) h' d (ps.foldl (λ acc p=>j7j acc p.1 p.2) kvs)->(∀b o,b≠d->b≠it->s.heap.get? b=some o->h'.get? b=some o)->R (.ok (.ret .none)) { s with heap:=h',toks:=tk })->
  M8 (P1 prog w) A (o9 "dict.update.loop" { pos:=[.ref d,.ref it,.int (i:Nat) 0,.none],kw:=[] }) R s
 | [],i,kvs,A,R,s,hh,si,sl,al,r,hz,q=>by
  have T:items[i]? = none:=by
   cases hd:items.toList.drop i with
   | nil=>have:=List.drop_eq_nil_iff.mp hd;rw [B1] at this;exact L4 this
   | cons u us=>rw [hd] at al;cases al
  refine X5 Cy ?_;show X0 _ _ (P7 (.ref it) >>= _) _ _ s;refine o0 (T9 (show (A.under _).handled=none from hh) si sl T λ h' I=>?_);show X0 _ _ ((do Builtin.Dict.addKeywords d [];ret .none):Sem PySem.Fin) _ _ _;refine o0 (show X0 _ _ (i5 ()) _ _ _ from A0 ?_);have E:X8 (eJ prog w) h' d kvs:=by obtain ⟨o,t,v,g,m⟩:=r;exact ⟨o,t,v,I d o ndi g,m⟩
  exact A0 (q h' s.toks E λ b o _ k e=>I b o k e)
 | p :: ps,i,kvs,A,R,s,hh,si,sl,al,r,hz,q=>by
  cases hd:items.toList.drop i with
  | nil=>rw [hd] at al;cases al
  | cons u us=>
   rw [hd] at al;cases al with
   | cons pu al=>
    have hi:items.toList[i]? = some u:=by have:=ZT (λ l=>l[0]?) hd;simpa using this
    have W:items[i]? = some u:=by simpa using hi
    have a0:items.toList.drop (i + 1)=us:=by have:=ZT List.tail hd;simpa using this
    obtain ⟨a,D,rfl,ta,ik⟩:=pu;refine X5 Cy ?_;show X0 _ _ (P7 (.ref it) >>= _) _ _ s;refine o0 (C9 si sl W λ g a1 B=>?_);have L :∀o,s.heap.get? it=some o->o.cls≠.type "tuple":=λ o e z=>by obtain ⟨o',n,c,_⟩:=si;rw [e] at n;cases n;rw [z] at c;exact ZU c (by decide)
    have M :∀(h:ZN) (kvs:List (Key×ZH)),X8 (eJ prog w) h d kvs->∀o,h.get? d=some o->o.cls≠.type "tuple":=λ h kvs r o e z=>by obtain ⟨o',t,v,n,c,_⟩:=r;rw [e] at n;cases n;have:=c.1;rw [z] at this;exact ZU this (by decide)
    have F :∀b o,b∉[it]->s.heap.get? b=some o->g.get? b=some o:=λ b o k e=>(B.2 b (λ z=>k (by rw [z];exact List.mem_singleton.mpr rfl))).trans e;have Z:g.IsTuple a #[D,p.2]:=by obtain ⟨o,f,j,S⟩:=ta;exact ⟨o,F a o (λ z=>L o (List.mem_singleton.mp z ▸ f) j) f,j,S⟩
    have O:af (cV prog w g) ps us:=bp (λ x y z=>cV.kept F (λ b k o e=>L o (List.mem_singleton.mp k ▸ e)) z) al;have G:X8 (eJ prog w) g d kvs:=by obtain ⟨o,t,v,f,j⟩:=r;exact ⟨o,t,v,(B.2 d ndi).trans f,j⟩
    have Y:g.IsList l items:=by obtain ⟨o,f,j⟩:=sl;exact ⟨o,(B.2 l (W5 nil')).trans f,j⟩
    refine o0 (F3 (o0 (wpAny_tryCatch (Kf (s:={ s with heap:=g }) Z ?_))));show X0 _ _ (holding [D,p.2] (dictSet d D p.2)) _ _ _;refine F3 (wpAny_dictSet_pairs ik G (λ m Q C=>?_) (M0 (b6 _ _) hz));refine A0 ⟨y_ _,?_⟩;have K :∀b o,b∉[d]->g.get? b=some o->m.get? b=some o:=λ b o k e=>(C.2 b (λ z=>k (by rw [z];exact List.mem_singleton.mpr rfl))).trans e;have V:af (cV prog w m) ps us:=bp (λ x y z=>cV.kept K (λ b k o e=>M g kvs G o (List.mem_singleton.mp k ▸ e)) z) O;have X:m.IsListIter it l (i + 1):=by obtain ⟨o,f,j⟩:=a1;exact ⟨o,(C.2 it (W5 ndi)).trans f,j⟩
    have P:m.IsList l items:=by obtain ⟨o,f,j⟩:=Y;exact ⟨o,(C.2 l (W5 ndl)).trans f,j⟩
    have U:(j7j kvs p.1 p.2).length + ps.length<=ZG:=by
     have:(j7j kvs p.1 p.2).length<=kvs.length + 1:=by
      unfold j7j;split
      ·rw [q0];exact z7 _
      ·rw [F0];exact L0 _
     rw [W0] at hz
     lia
    exact Co ndi ndl nil' ps (i + 1) (j7j kvs p.1 p.2) A R { s with heap:=m,toks:=s.toks + 1 } hh X P (by rw [a0];exact V) Q U λ h' tk E N=>q h' tk E λ b o J H e=>N b o J H (K b o (λ z=>J (List.mem_singleton.mp z)) (F b o (λ z=>H (List.mem_singleton.mp z)) e))
def Ds {D:ZS} (e:h.get? D=some { cls:=.type "dict",data:=.dict #[] }):X8 (eJ prog w) h D []:=by obtain ⟨o,c,b,a,r⟩:=j99 (knd:=eJ prog w) h;rw [U0 _ rfl] at a;cases a;exact ⟨_,c,b,e,r⟩
def Kb {D l:ZS} {sl:Array (Option ZH)} {ps:List (Key×ZH)} {Q:I0->Prop} {A':P2} (hd:s.heap.get? D=some { cls:=.type "dict",data:=.dict #[] }) (hl:s.heap.get? l=some { cls:=.type "list",data:=.seq items n,slots:=sl }) (hh:A.handled=none) (hh':A'.handled=none)
  (al:af (cV prog w s.heap) ps items.toList) (hz:ps.length<=ZG)
  (q :∀h' tk,X8 (eJ prog w) h' D (merged [] ps)->(∀b o,b≠D->s.heap.get? b=some o->h'.get? b=some o)->Q { s with heap:=h',toks:=tk }) :
  X0 (P1 prog w) A (O6.«dict.__init__» { pos:=[.ref D,.ref l] }) (λ fin s'=>match fin with
   | .done f=>wants (λ r s₂=>r=Y2/\Q s₂) E (.ok f) s'
   | .again c'=>c'.quiet=true/\M8 (P1 prog w) A' c' (wants (λ r s₂=>r=Y2/\Q s₂) E) s') (λ e s'=>wants (λ r s₂=>r=Y2/\Q s₂) E (.error e) s') s:=by
 have i:D≠l:=λ z=>by rw [z,hl] at hd;exact ZU (show U4 "list" = U4 "dict" from ZT Obj.cls (G1 hd)) (by decide)
 unfold O6.«dict.__init__» Builtin.Dict.selfAndRest;refine o0 (o0 (wpAny_notOrdered_dict ⟨_,hd,rfl⟩ ?_));refine o0 (show X0 _ _ (i5 D) _ _ _ from A0 (A0 ?_));show X0 _ _ (j5a "dict.__init__" D (.ref l) [] .none) _ _ _;unfold j5a;refine o0 (N7 (T:="list") ⟨_,hl,rfl⟩ ?_);show X0 _ _ (getAttr? (.ref l) (P4 "keys") >>= _) _ _ _;refine o0 (EA hl hh λ h tk a=>?_);show X0 _ _ (rule _ >>= _) _ _ _;refine o0 (j5j (o0 (c8 (items:=items) ⟨_,a _ _ hl,rfl,_,rfl⟩ ?_)));refine A0 ⟨y_ _,?_⟩;have tZ:=T0 (a _ _ hd);have k:=T0 (a _ _ hl);have c :∀b o,s.heap.get? b=some o->(h.push { cls:=.type "list_iterator",data:=.fields #[.ref l,.int 0 0] }).get? b=some o:=λ b o e=>G0 _ (a b o e);refine Co (d:=D) (it:=h.objs.size) (l:=l) (items:=items) (K1 tZ) i (J3 k) ps 0 [] A' _ _ hh' ⟨_,U0 _ rfl,rfl,rfl⟩ ⟨_,c _ _ hl,rfl,_,rfl⟩ ?_ ?_ (by simpa using hz) λ h' j p m=>⟨rfl,q h' j p λ b o g e=>m b o g (λ z=>?_) (c b o e)⟩
 ·rw [j7h];exact bp (λ x y z=>cV.kept (L:=[]) (λ b o _ e=>c b o e) (λ b g=>ZU g P0) z) al
 ·exact Ds (c _ _ hd)
 ·rw [z] at e;exact ZU (T0 (a _ _ e)) (N5 _)
end
section
theorem zt (I:Inv X pins σ H s) :∀{kvs:List (Key×V)} {ys:List V} {its:List ZH},af (λ (p:Key×V) y=>∃b,y=.ref b/\aG X.K H b [kV p.1,p.2]) kvs ys->aD ys its->
  ∃ps,KV kvs ps/\af (cV X.prog X.w s.heap) ps its
 | [],_,_,.nil,r=>by cases r;exact ⟨[],.nil,.nil⟩
 | p :: kvs,_,_,.cons ⟨b,e,sb⟩ al,r=>by
  cases r with
  | cons r1 r2=>
   subst e;obtain ⟨ps,f,d⟩:=zt I al r2;obtain ⟨its,a,c,_⟩:=I.tuple sb;cases a with
   | cons ra a=>
    cases a with
    | cons rb a=>cases a;rename_i u1 u2;exact ⟨(p.1,u2) :: ps,.cons ⟨rfl,rb⟩ f,.cons ⟨b,u1,r1,c,eW ra⟩ d⟩
theorem yU (kvs:List (Key×V)) :∀more:List (Key×V),(dW kvs more).length<=kvs.length + more.length
 | []=>L0 _
 | p :: more=>by
  have b:=yU (putK kvs p.1 p.2) more;have a:=tQ kvs p.1 p.2;show (dW (putK kvs p.1 p.2) more).length<=_;rw [W0]
  lia
end
structure fv (S:Hp->Hp->Prop) (J:It) (H1:Hp) (n:Nat) (Item:Nat->V->Hp->Prop):Prop where
 go :∀i,i < n->∀H,S H1 H->J.go i H
 stop :∀H,S H1 H->J.stop n H
 item :∀i,i < n->∀H v H',S H1 H->J.yld i H v H'->S H H'/\Item i v H'
theorem mB {S:Hp->Hp->Prop} {Item:Nat->V->Hp->Prop} {Q:VK} (s0:S H1 H1) (st :∀a b c,S a b->S b c->S a c) (p:Nat->Bool) (R:Nat->V->Hp->Prop) (hR :∀i y H H',S H H'->R i y H->R i y H') (r:fv S J H1 n Item) (hn:n<=ZG)
  (body :∀i,i < n->∀v H,S H1 H->Item i v H->∀(KT:VK) (KF:Hp->Prop),(p i=true->∀y H',S H H'->R i y H'->KT y H')->(p i=false->∀H',S H H'->KF H')->
   g v (aE σ fr (A1 m none)) H λ σ6 H6=>∃us,us.length=m/\σ6=aE σ fr us/\tc (aE σ fr us) H6 λ b H2=>if b=true then te (aE σ fr us) H2 KT else KF H2)
  (hQ :∀l H' ys,S H1 H'->H' l=none->af (λ i y=>R i y H') ((N0 n).filter p) ys->Q (.ref l) (upd H' l (.lst ys))) :
  ∃W:Nat->Nat->List V->Hp->Prop,(∃m,W 0 m [] H1)/\∀i k ys H,W i k ys H->
   (J.stop i H/\ys.length<=ZG/\∀p,H p=none->Q (.ref p) (upd H p (.lst ys)))\/
   (J.go i H/\ys.length<=ZG/\∀v H',J.yld i H v H'->g v (aE σ fr (A1 m none)) H' λ σ6 H6=>∃us,us.length=m/\σ6=aE σ fr us/\tc (aE σ fr us) H6 λ b H2=>if b=true then te (aE σ fr us) H2 λ y H3=>∃m',m' < k/\W (i + 1) m' (ys++[y]) H3 else∃m',m' < k/\W (i + 1) m' ys H2):=by
 refine ⟨λ i k ys H'=>k=n - i/\i<=n/\S H1 H'/\af (λ i y=>R i y H') ((N0 i).filter p) ys,⟨n,by simp,K2 _,s0,.nil⟩,?_⟩;rintro i k ys H' ⟨rfl,hi,sm,fa⟩;have j:ys.length<=ZG:=by
  rw [cz fa];have:=u5 p (N0 i);rw [Q1] at this
  lia
 by_cases hlt:i < n
 ·refine .inr ⟨r.go i hlt H' sm,j,λ v H2 y=>?_⟩;obtain ⟨f,s⟩:=r.item i hlt H' v H2 sm y;refine body i hlt v H2 (st _ _ _ sm f) s _ _ (λ h y H3 d o=>⟨n - (i + 1),by lia,rfl,hlt,st _ _ _ (st _ _ _ sm f) d,?_⟩) (λ h H3 d=>⟨n - (i + 1),by lia,rfl,hlt,st _ _ _ (st _ _ _ sm f) d,?_⟩)
  ·rw [sO,ZZ h];exact vg (bp (λ a b z=>hR a b _ _ (st _ _ _ f d) z) fa) o
  ·rw [sO,Z_ (by rw [h];decide),E1];exact bp (λ a b z=>hR a b _ _ (st _ _ _ f d) z) fa
 ·have e:i=n:=by lia
  subst e;exact .inl ⟨r.stop H' sm,j,λ l q=>hQ l H' ys sm q fa⟩
def yV {S:Hp->Hp->Prop} (hs :∀H,S H1 H->S H H) (hq :∀H,S H1 H->av K H a xs):fv S (mw K a) H1 xs.length (λ i v _=>xs[i]? = some v):=
 ⟨λ i b H s=>⟨xs,xs[i],hq H s,by simp [b]⟩,λ H s=>⟨xs,hq H s,L0 _⟩,λ i b H v c s y=>by obtain ⟨e,y⟩:=y;subst e;exact ⟨hs _ s,y xs (hq _ s)⟩⟩
def KC {S:Hp->Hp->Prop} (hs :∀H,S H1 H->S H H) (hq :∀H,S H1 H->aG K H a xs):fv S (pE K a) H1 xs.length (λ i v _=>xs[i]? = some v):=
 ⟨λ i b H s=>⟨xs,xs[i],hq H s,by simp [b]⟩,λ H s=>⟨xs,hq H s,L0 _⟩,λ i b H v c s y=>by obtain ⟨e,y⟩:=y;subst e;exact ⟨hs _ s,y xs (hq _ s)⟩⟩
def Gr {S:Hp->Hp->Prop} (hs :∀H,S H1 H->S H H):fv S (nJ 0 n) H1 n (λ i v _=>v=.int (i:Nat)):=
 ⟨λ i a H s=>a,λ H s=>L0 _,λ i a H v b s y=>by obtain ⟨e,y⟩:=y;subst e;exact ⟨hs _ s,by rw [y,Int.zero_add]⟩⟩
def gu (xs:Array Nat):Prop:=xs.toList.Pairwise (· < ·)
def gu.lt {xs:Array Nat} (r:gu xs) {k:Nat} (h:i < k) (hk:k < xs.size):xs[i]'(m8 h hk) < xs[k]:=by have:=(List.pairwise_iff_getElem.mp r) i k (by simpa using m8 h hk) (by simpa using hk) h;simpa using this
def xQ {xs:Array Nat} {d:Nat} (h:i < xs.size):xs.getD i d=xs[i]:=by simp [j79,h]
variable {j:Nat}
theorem xl {xs:Array Nat} (r:gu xs) :∀(f lo hi:Nat),lo<=hi->hi<=xs.size->hi - lo<=f->(∀i (h:i < xs.size),i < lo->xs[i] < j)->(∀i (h:i < xs.size),hi<=i->j<=xs[i])->
  J9 xs j f lo hi<=xs.size/\(∀i (h:i < xs.size),i < J9 xs j f lo hi->xs[i] < j)/\(∀i (h:i < xs.size),J9 xs j f lo hi<=i->j<=xs[i])
 | 0,lo,hi,h1,h2,h3,ha,hb=>by
  have:lo=hi:=by lia
  subst this;exact ⟨h2,ha,hb⟩
 | f + 1,lo,hi,h1,h2,h3,ha,hb=>by
  unfold J9;by_cases z:lo < hi
  ·rw [ZZ z];have a:(lo + hi) / 2 < xs.size:=by lia
   dsimp only;rw [xQ a];by_cases y:xs[(lo + hi) / 2] < j
   ·rw [ZZ y];refine xl r f _ _ (by lia) h2 (by lia) (λ i h b=>?_) hb;by_cases e:i=(lo + hi) / 2
    ·subst e;exact y
    ·exact m8 (r.lt (by lia) a) y
   ·rw [Z_ y];refine xl r f _ _ (by lia) (by lia) (by lia) ha λ i h b=>?_;by_cases e:i=(lo + hi) / 2
    ·subst e;lia
    ·exact M0 (Nat.not_lt.mp y) (y4 (r.lt (by lia) h))
  ·rw [Z_ z];have:lo=hi:=by lia
   subst this;exact ⟨h2,ha,hb⟩
def qM {xs:Array Nat} (r:gu xs) (j:Nat):F1 xs j<=xs.size/\(∀i (h:i < xs.size),i < F1 xs j->xs[i] < j)/\(∀i (h:i < xs.size),F1 xs j<=i->j<=xs[i]):=
 xl r _ _ _ (K2 _) (L0 _) (L0 _) (λ i h z=>ZU z (Z2 _)) (λ i h z=>ZU h (Nat.not_lt.mpr z))
def uy {α:Type} (xs:Array α) (p:Nat) (x:α) (hp:p<=xs.size):(X4 xs p x).toList=xs.toList.take p++x :: xs.toList.drop p:=by unfold X4;simp [c9]
theorem gu.insert {xs:Array Nat} (r:gu xs) (h:¬ xs[F1 xs j]? = some j):gu (X4 xs (F1 xs j) j):=by
 obtain ⟨t,x,g⟩:=qM r j;unfold gu;rw [uy _ _ _ t];refine List.pairwise_append.mpr ⟨r.sublist (j18 _ _),List.pairwise_cons.mpr ⟨λ y q=>?_,r.sublist (List.drop_sublist _ _)⟩,λ a u b d=>?_⟩
 ·obtain ⟨i,f,e⟩:=List.mem_drop_iff_getElem.mp q;have m:F1 xs j + i < xs.size:=by simpa [j06] using f
  have c:xs[F1 xs j + i]=y:=by simpa using e
  have l:=g _ m (by lia);rw [c] at l;rcases Nat.lt_or_eq_of_le l with z|z
  ·exact z
  ·exfalso;have d:F1 xs j < xs.size:=by lia
   have A:=g _ d (L0 _);have:xs[F1 xs j]=j:=by
    by_cases i0:i=0
    ·subst i0;exact c.trans z.symm
    ·have:=r.lt (show F1 xs j < F1 xs j + i by lia) m;rw [c] at this
     lia
   exact h (by rw [T1 d,this])
 ·obtain ⟨i,f,e⟩:=List.mem_take_iff_getElem.mp u;have p:i < xs.size:=by have:=f;simp at this;lia
  have w:i < F1 xs j:=by have:=f;simp at this;lia
  have lt:=x i p w;have c:xs[i]=a:=by simpa using e
  rw [c] at lt;rcases List.mem_cons.mp d with z|z
  ·rw [z];exact lt
  ·obtain ⟨k,s,v⟩:=List.mem_drop_iff_getElem.mp z;have o:F1 xs j + k < xs.size:=by simpa [j06] using s
   have n:xs[F1 xs j + k]=b:=by simpa using v
   have:=g _ o (by lia);rw [n] at this
   lia
def HE (n:Nat):gu (Array.range n):=by unfold gu;rw [Array.toList_range];exact j96
def rZ (t:X3) (j:Nat):Prop:=¬ t.place[F1 t.place j]? = some j
def Av {t:X3} (h :∀i,t.slot j≠.live i):rZ t j:=λ e=>by refine h (F1 t.place j) ?_;unfold j68;dsimp only;rw [ZZ (by rw [e];exact beq_self_eq_true _)]
theorem vo {t:X3} {hs:Nat->Int} {h:Int} :∀(f:Nat) (p:SetTable.Probe) (j:Nat) (d:Option Nat),(∀k,p.dummy=some k->rZ t k)->m7 t hs h f p=some (.empty j d)->rZ t j/\∀k,d=some k->rZ t k
 | 0,p,j,d,hd,e=>by cases e
 | f + 1,p,j,d,hd,e=>by
  unfold m7 at e;cases q:t.slot p.j with
  | empty=>rw [q] at e;cases e;exact ⟨Av (λ i z=>by rw [q] at z;cases z),hd⟩
  | dummy=>rw [q] at e;refine vo f _ j d (λ k z=>?_) e;unfold k05 at z;dsimp only at z;split at z<;>(cases z;exact Av λ i z=>by rw [q] at z;cases z)
  | live i=>
   rw [q] at e;dsimp only at e;split at e
   ·cases e
   ·refine vo f _ j d (λ k z=>?_) e;unfold k05 at z;dsimp only at z;split at z<;>exact hd k z
def Dq {t:X3} {h:Int} {s:Nat} {b:Bool} (e:t.freeSlot h=some (s,b)):rZ t s:=by
 unfold SetTable.freeSlot at e;cases q:t.probe (λ _=>h + 1) h (t.probeStart h) with
 | none=>rw [q] at e;cases e
 | some m=>
  rw [q] at e;cases m with
  | candidate a b c=>cases e
  | empty j d=>
   have:=vo _ _ j d (λ k z=>by cases z) q;cases e;cases d with
   | none=>exact this.1
   | some k=>exact this.2 k rfl
def fo (l:Bool) (t:X3):Prop:=t.led=l/\gu t.place
variable {l:Bool}
def fo.standIn {t:X3} (h:fo l t) (n:Nat):fo l (t.standIn n):=⟨h.1,HE n⟩
def fo.layNew {t:X3} (h:fo l t) (es:Array (Int×ZH)) (k:Int) (x:ZH):fo l (layNew t es k x).2.1:=by
 unfold PySem.layNew;cases q:t.freeSlot k with
 | none=>exact h.standIn _
 | some s=>
  obtain ⟨s,b⟩:=s;dsimp only;have a:fo l (t.put s).1:=⟨h.1,gu.insert h.2 (Dq q)⟩
  unfold SetTable.orStandIn;split
  ·exact a
  ·exact a.standIn _
def fo.relayAll {t:X3} (h:fo l t) (es:Array (Int×ZH)) (n:Nat):fo l (j9g t es n).2.1:=by
 unfold PySem.relayAll;cases q:t.relaid (es.map (·.1)) n with
 | none=>exact h.standIn _
 | some p=>
  obtain ⟨m,o⟩:=p;dsimp only;split
  ·unfold SetTable.relaid SetTable.laid at q;cases q2:j3f (Q4 n - 1) (es.map (·.1)) with
   | none=>rw [q2] at q;cases q
   | some ow=>rw [q2] at q;cases q;refine ⟨h.1,?_⟩;show (List.map _ _).Pairwise _;rw [X6];refine List.Pairwise.filterMap _ (λ a b e c g d f=>?_) (j96);obtain ⟨k,_,j⟩:=Option.map_eq_some_iff.mp g;obtain ⟨r,_,i⟩:=Option.map_eq_some_iff.mp f;rw [<-j,<-i];exact e
  ·exact h.standIn _
theorem gu.next {xs:Array Nat} (r:gu xs) (h:i < xs.size):F1 xs (xs[i] + 1)=i + 1:=by
 obtain ⟨d,c,b⟩:=qM r (xs[i] + 1);apply Nat.le_antisymm
 ·apply L9;intro z;have a:i + 1 < xs.size:=by lia
  have:=c (i + 1) a z;have:=r.lt (show i < i + 1 by lia) a
  lia
 ·apply L9;intro z;have:=b i h (by lia)
  lia
theorem gu.first {xs:Array Nat} (r:gu xs):F1 xs 0=0:=by obtain ⟨c,a,b⟩:=qM r 0;apply Nat.eq_zero_of_not_pos;intro z;exact ZU (a 0 (by lia) z) (Z2 _)
noncomputable def intOf:ZH->Int
 | .int i _=>i
 | _=>0
def tw (h:i6 vs ns):ns=vs.map intOf/\∀v∈vs,∃i t,v=.int i t:=by
 induction h with
 | nil=>exact ⟨rfl,λ v a=>by cases a⟩
 | cons n t r ih=>
  refine ⟨by rw [ih.1];rfl,λ v a=>?_⟩;rcases List.mem_cons.mp a with e|a
  ·exact ⟨n,t,e⟩
  ·exact ih.2 v a
theorem BA:∀vs:List ZH,(∀v∈vs,∃i t,v=.int i t)->i6 vs (vs.map intOf)
 | [],_=>.nil
 | v :: vs,h=>by obtain ⟨i,t,e⟩:=h v (.head _);subst e;exact .cons i t (BA vs λ v a=>h v (.tail _ a))
def AE {vs':List ZH} (h:i6 vs ns) (p:vs'.Perm vs) :∃ns',i6 vs' ns'/\ns'.Perm ns:=by obtain ⟨e,k⟩:=tw h;refine ⟨vs'.map intOf,BA vs' λ v a=>k v (p.mem_iff.mp a),?_⟩;rw [e];exact p.map _
def As (h:i6 vs ns):ns.length=vs.length:=by rw [(tw h).1,q0]
def GB (h:i6 vs ns) (n:Int) (t:Tok):i6 (vs++[.int n t]) (ns++[n]):=by
 induction h with
 | nil=>exact .cons n t .nil
 | cons m u r ih=>exact .cons m u ih
variable {ep:Nat} {es:Array (Int×ZH)} {v:Int}
section
def eY (prog:ZK) (w:U1) (l:Bool) (h:ZN) (a:ZS) (ns:List Int):Prop:=
 ∃es ep t,h.get? a=some { cls:=.type "set",dict:=none,data:=.set es ep t,slots:=#[] }/\ElemsOf (d8 prog w) es.toList/\i6 (es.toList.map (·.2)) ns/\ns.Nodup/\es.size < scanBound/\t.fits es.size=true/\fo l t
def yk {es0:Array (Int×ZH)} {t0 t:X3} (ho:h.get? a=some { cls:=.type "set",dict:=none,data:=.set es0 ep t0,slots:=#[] })
  (hel:ElemsOf (d8 prog w) es.toList) (hi:i6 (es.toList.map (·.2)) ns) (nd:ns.Nodup) (hb:es.size < scanBound) (hf:t.fits es.size=true) (ht:fo l t) :
  (h.update a (M6 es t)).get? a=some { cls:=.type "set",dict:=none,data:=.set es (ep + 1) t,slots:=#[] }/\eY prog w l (h.update a (M6 es t)) a ns:=by
 have g:(h.update a (M6 es t)).get? a=some { cls:=.type "set",dict:=none,data:=.set es (ep + 1) t,slots:=#[] }:=T3 (M6 es t) ho rfl;exact ⟨g,es,ep + 1,t,g,hel,hi,nd,hb,hf,ht⟩
def DS {es:List (Int×ZH)} (hi:i6 (es.map (·.2)) ns) (h:es.findIdx? (λ e=>(d8 prog w).is v e.2)=none):¬ v∈ns:=λ b=>by
 obtain ⟨e,k⟩:=tw hi;rw [e] at b;obtain ⟨y,c,g⟩:=List.mem_map.mp b;obtain ⟨p,d,j⟩:=List.mem_map.mp c;obtain ⟨i,t,a⟩:=k y c;have:=List.findIdx?_eq_none_iff.mp h p d;have f:v=i:=by rw [<-g,a];rfl
 have:(d8 prog w).is v p.2=false:=by simpa using this
 rw [j,a,f,intKind_is] at this;cases this
def Fg {es:List (Int×ZH)} (hi:i6 (es.map (·.2)) ns) (h:es.findIdx? (λ e=>(d8 prog w).is v e.2)=some j):v∈ns:=by obtain ⟨a,b,_⟩:=List.findIdx?_eq_some_iff_getElem.mp h;obtain ⟨t,e⟩:=Value.isInt_shape (show j9i v es[j].2=true from b);rw [(tw hi).1];exact List.mem_map.mpr ⟨es[j].2,List.mem_map.mpr ⟨es[j],o7 a,rfl⟩,by rw [e];rfl⟩
def DX (h:ns.Nodup) (n:¬ v∈ns):(ns++[v]).Nodup:=by refine List.nodup_append.mpr ⟨h,by simp,λ a c b d e=>?_⟩;rw [List.mem_singleton.mp d] at e;exact n (e ▸ c)
noncomputable def dc (ns:List Int) (v:Int):List Int:=if v∈ns then ns else ns++[v]
def I8 {tk:Tok} {Q:Bool->I0->Prop} (hS:eY prog w l s.heap a ns) (hroom:ns.length + 1 < scanBound)
  (h :∀b h' ns',v4 a s.heap h'->eY prog w l h' a ns'->ns'.Perm (dc ns v)->Q b { s with heap:=h' }):X0 (P1 prog w) A (j6g a (.int v tk) ((d8 prog w).hash v)) Q E s:=by
 obtain ⟨f,ep,t,i,y,n,X,M,I,T⟩:=hS;have a0:f.size=ns.length:=by rw [As n,q0,B1]
 have U:(d8 prog w).is v (.int v tk)=true:=intKind_is prog w v tk;unfold j6g j9f;refine F3 (o0 (R4 i rfl I ?_));dsimp only;rw [byScan_of rfl M y];simp only [↓reduceIte];unfold setAddByScan;refine o0 (o0 (j5j (o0 (wpAny_setScan_of U i rfl I y ?_))));cases hr:List.findIdx? (λ e=>(d8 prog w).is v e.2) f.toList with
 | some j=>refine A0 (A0 ?_);have:=h false s.heap ns (j84 a s.heap) ⟨f,ep,t,i,y,n,X,M,I,T⟩ (by unfold dc;rw [ZZ (Fg n hr)]);exact this
 | none=>
  dsimp only;have g:=layNew_perm t f ((d8 prog w).hash v) (.int v tk);have H:=layNew_fits t f ((d8 prog w).hash v) (.int v tk);have p:=T.layNew f ((d8 prog w).hash v) (.int v tk);generalize layNew t f ((d8 prog w).hash v) (.int v tk)=L at g H p⊢;obtain ⟨c,d,wd,a3⟩:=L;dsimp only at g H p⊢;rw [Array.toList_push] at g;have N:ElemsOf (d8 prog w) c.toList:=(y.push U rfl).perm g;have u :∃m,i6 (c.toList.map (·.2)) m/\m.Perm (ns++[v]):=AE (GB n v tk) (by have:=g.map (λ e:Int×ZH=>e.2);rwa [Q3] at this);obtain ⟨m,u,G⟩:=u;have R:=DS n hr;have W:m.Nodup:=G.nodup_iff.mpr (DX X R);have V:dc ns v=ns++[v]:=Z_ R;have D:c.size < scanBound:=by rw [<-B1,g.length_eq,F0,B1,a0];exact hroom
  have P :∀(b:Bool) {B:I0} {Q':Unit->I0->Prop},Q' () B->X0 (P1 prog w) A (match b with|true=>rule "set.scan.the-table-gave-way" | false=>i5 ()) Q' E B:=λ b B Q' q=>by cases b with|false=>exact A0 q|true=>exact j5j q
  have last:X0 (P1 prog w) A (do
    storeSet a c d
    if (!wd && d.tooFull)=true then do
      (match (j9g d c (o4 c.size)).2.2 with|true=>rule "set.scan.the-table-gave-way" | false=>i5 ())
      storeSet a (j9g d c (o4 c.size)).1 (j9g d c (o4 c.size)).2.1
      i5 (some true)
     else i5 (some true)) (λ r k=>∃b,r=some b/\Q b k) E s:=by
   obtain ⟨S,S1⟩:=yk (prog:=prog) (w:=w) i N u W D H p;have Y:=y3 s.heap a (M6 c d);refine o0 (j25 i rfl ?_ (j6j D));split
   ·have o:=relayAll_perm d c (o4 c.size);have C:=relayAll_fits d c (o4 c.size);have F:=p.relayAll c (o4 c.size);generalize j9g d c (o4 c.size)=L2 at o C F⊢;obtain ⟨Z,t2,g2⟩:=L2;dsimp only at o C F⊢;obtain ⟨a2,a1,K⟩:=AE u (o.map (λ e:Int×ZH=>e.2));have O:Z.size < scanBound:=by rw [<-B1,o.length_eq,B1];exact D
    refine o0 (P g2 (o0 (j25 S rfl ?_ (j6j O))));obtain ⟨_,S2⟩:=yk (prog:=prog) (w:=w) S (N.perm o) a1 (K.nodup_iff.mpr W) O C F;exact A0 ⟨true,rfl,h true _ a2 (Y.trans (y3 _ a _)) S2 (by rw [V];exact K.trans G)⟩
   ·exact A0 ⟨true,rfl,h true _ m Y S1 (by rw [V];exact G)⟩
  refine o0 (P a3 ?_);have J:=K5 last (Q':=λ r k=>X0 (P1 prog w) A (match r with|some added=>i5 added|none=>j9f a (.int v tk) ((d8 prog w).hash v) 99999) Q E k) (E':=E) (λ r k x=>by obtain ⟨b,e,q⟩:=x;subst e;exact A0 q) (λ e k x=>x);by_cases z:d.plain=true
  ·rw [ZZ z];exact o0 (j49 (show j87 8 (P8 v tk)=i5 true from rfl) J)
  ·rw [Z_ z];exact o0 (A0 J)
end
def Dy {ms:List Int} (p:ns.Perm ms) (v:Int):(dc ns v).Perm (dc ms v):=by
 unfold dc;by_cases z:v∈ns
 ·rw [ZZ z,ZZ (p.mem_iff.mp z)];exact p
 ·rw [Z_ z,Z_ (λ y=>z (p.mem_iff.mpr y))];exact p.append_right [v]
theorem CI:∀(vs:List Int) {ns ms:List Int},ns.Perm ms->(vs.foldl dc ns).Perm (vs.foldl dc ms)
 | [],_,_,p=>p
 | v :: vs,_,_,p=>CI vs (Dy p v)
def Es (ns:List Int) (v:Int):(dc ns v).length<=ns.length + 1:=by
 unfold dc;split
 ·exact z7 _
 ·rw [F0];exact L0 _
section
def eY.at' (k :∀o,h.get? a=some o->h'.get? a=some o) (x:eY prog w l h a ns):eY prog w l h' a ns:=by obtain ⟨c,b,t,e,r⟩:=x;exact ⟨c,b,t,k _ e,r⟩
def zh (a:Args):(o9 "set.update.loop" a).quiet=true:=j5d (by decide +kernel) _
noncomputable def cQ (w:U1):ZQ:={ cls:=.type "set",dict:=none,data:=.set #[] 0 (.fresh 0 0 (!w.params.followText "set-order")) }
def zC (a:ZH) {Q₁:ZH->I0->Prop} (h:Q₁ (.ref s.heap.objs.size) { s with heap:=s.heap.push (cQ w) }):M8 (P1 prog w) A (.call (.builtin "set.__new__") ⟨[.type "set",a],[]⟩) (wants Q₁ E) s:=by refine j4c F.plain_set_new F.entry_set_new (j49 (F.newCall_set_1 a) ?_);show X0 _ _ (Builtin.Frozenset.newClass "set" ⟨[.type "set",a],[]⟩ >>= _) _ _ _;refine o0 (o0 (show X0 _ _ (i5 true) _ _ _ from A0 ?_));show X0 _ _ (isSubtype (.type "set") (.type "set") >>= _) _ _ _;refine o0 (j49 sub_set_self ?_);refine A0 ?_;show X0 _ _ (newSet (.type "set") >>= _) _ _ _;unfold newSet setsByText;refine o0 (o0 (o0 (j7i (A0 ?_))));exact o0 (wpAny_alloc (A0 (A0 h)))
def DY (e:h.get? a=some (cQ w)):eY prog w (!w.params.followText "set-order") h a []:=
 ⟨#[],0,_,e,λ x b=>by simp at b,.nil,B3,by decide,by rfl,rfl,j2h⟩
end
def cD:Slot "set_iterator" "__next__" "set_iterator.__next__":=.of (owner:="set_iterator") (n:="__next__") (by rw [typeLookup_type,builtinLookup_eq_fast];kernel_rfl) (by decide +kernel) (by decide +kernel) (by decide +kernel) (by first|exact .inl (by decide +kernel)|exact .inr (by decide +kernel)) (by rw [j4a];kernel_rfl)
def Cg:Slot "set_iterator" "__iter__" "set_iterator.__iter__":=.of (owner:="set_iterator") (n:="__iter__") (by rw [typeLookup_type,builtinLookup_eq_fast];kernel_rfl) (by decide +kernel) (by decide +kernel) (by decide +kernel) (by first|exact .inl (by decide +kernel)|exact .inr (by decide +kernel)) (by rw [j4a];kernel_rfl)
def sL:entryFor table "set_iterator.__next__" = some O6.«set_iterator.__next__»:=entryFor_of_tree (by kernel_rfl)
def GS:entryFor table "set_iterator.__iter__" = some O6.«dict_keyiterator.__iter__»:=entryFor_alias (id':="dict_keyiterator.__iter__") (by kernel_rfl) rfl (by decide +kernel) (by kernel_rfl)
def GI:entryFor table "set.__iter__" = some O6.«frozenset.__iter__»:=entryFor_alias (id':="frozenset.__iter__") (by kernel_rfl) rfl (by decide +kernel) (by kernel_rfl)
def Aa:Manifest.owners.lookup (String.ofList ['r','o','t','a','r','e','t','i','_','t','e','s'].reverse)=some Manifest.sig_set_iterator:=by kernel_rfl
def tR (a:ZH):argsOk "set_iterator.__next__" ⟨[a],[]⟩:=by unfold argsOk;rw [signature?_of (id:="set_iterator.__next__") (n:=['_','_','t','x','e','n','_','_']) (o:=['r','o','t','a','r','e','t','i','_','t','e','s']) (by kernel_rfl) Aa];kernel_rfl
def Kt (a:ZH):argsOk "set_iterator.__iter__" ⟨[a],[]⟩:=by unfold argsOk;rw [signature?_of (id:="set_iterator.__iter__") (n:=['_','_','r','e','t','i','_','_']) (o:=['r','o','t','a','r','e','t','i','_','t','e','s']) (by kernel_rfl) Aa];kernel_rfl
theorem wz {α:Type} :∀(xs:List α) (i:Nat) (h:i < xs.length),(xs[i] :: xs.eraseIdx i).Perm xs
 | x :: xs,0,_=>Z4 _
 | x :: xs,i + 1,h=>(R9 x _ _).trans ((wz xs i (by simpa using h)).cons x)
theorem zS {α:Type} (nx:Nat->Nat) :∀(f k:Nat) (xs:List α) (out:Array α),xs.length<=f->(pickOrder.go nx f k xs out).toList.Perm (out.toList++xs)
 | 0,k,xs,out,h=>by have:xs=[]:=List.length_eq_zero_iff.mp (Nat.le_zero.mp h);subst this;rw [E1];exact Z4 _
 | f + 1,k,xs,out,h=>by
  unfold pickOrder.go;cases xs with
  | nil=>rw [E1];exact Z4 _
  | cons x xs=>have lt:nx k % (x :: xs).length < (x :: xs).length:=j83 _ (by simp);rw [C0 lt];dsimp only;have:=zS nx f (k + 1) ((x :: xs).eraseIdx (nx k % (x :: xs).length)) (out.push (x :: xs)[nx k % (x :: xs).length]) (by rw [j0b lt];simp at h⊢;lia);refine this.trans ?_;rw [Array.toList_push,T2];refine Y8 _ ?_;exact wz _ _ lt
def GO {α:Type} (nx:Nat->Nat) (xs:Array α):(pickOrder nx xs).toList.Perm xs.toList:=by have:=zS nx xs.size 0 xs.toList #[] (by simp);simpa [pickOrder] using this
variable {S:ZS} {slot:Nat}
section
noncomputable abbrev fB (es:Array (Int×ZH)) (ep:Nat) (t:X3):ZQ:={ cls:=.type "set",dict:=none,data:=.set es ep t,slots:=#[] }
def sI {Q:Bool->I0->Prop} (q:Q (w.params.followText "set-order") s):X0 (P1 prog w) A setsByText Q E s:=by unfold setsByText;exact o0 (j7i (A0 q))
def zl {t:X3} {Q:Option (ZH×Nat)->I0->Prop} (hx:w.params.followText "set-order" = true) (ho:s.heap.get? S=some (fB es ep t)) (hf:t.fits es.size=true)
  (q:Q (((pickOrder (w.params.setOrder S ep) es)[i]?).map λ e=>(e.2,slot)) s):X0 (P1 prog w) A (j4i S slot i ep) Q E s:=by
 unfold j4i;refine o0 (R4 ho rfl hf (o0 (sI ?_)));rw [hx];dsimp only;rw [ZZ rfl,Z_ (by simp)];refine o0 ?_;unfold setWalk;refine o0 (R4 ho rfl hf (o0 (sI ?_)));rw [hx];refine o0 (j7i ?_);exact A0 (A0 q)
def yp {t:X3} {k:Nat} {Q:Option (ZH×Nat)->I0->Prop} (hx:w.params.followText "set-order" = false) (ho:s.heap.get? S=some (fB es ep t)) (hf:t.fits es.size=true) (hl:t.led=true)
  (hd:(!t.plain && decide (es.size > 1))=false) (hk:F1 t.place slot=k)
  (q:Q (match es[k]?,t.place[k]? with|some (_,x),some j=>some (x,j + 1)|_,_=>none) s):X0 (P1 prog w) A (j4i S slot i ep) Q E s:=by
 unfold j4i;refine o0 (R4 ho rfl hf (o0 (sI ?_)));rw [hx];dsimp only;rw [Z_ (by decide)];show X0 _ _ (if (!t.plain && decide (es.size > 1))=true then _ else _) _ _ _;rw [hd,Z_ (by decide)];show X0 _ _ ((if (!t.led && !es.isEmpty)=true then _ else _) >>= _) _ _ _;rw [hl,Z_ (by simp),hk];exact o0 (A0 (A0 q))
def kT {h1:ZN} (hh:A.handled=none) (q :∀h',(∀b o,h1.get? b=some o->h'.get? b=some o)->Q none { s with heap:=h' }) :
  X0 (P1 prog w) A.in1 (do raiseNew (<-newExc (.type "StopIteration") [])) (λ (fin:PySem.Fin) s'=>∃v,fin=.done (.ret v)/\X0 (P1 prog w) A (i5 (some v)) Q E s')
   (λ e s'=>X0 (P1 prog w) A (do if <-isInstance e (.type "StopIteration") then i5 none else throw e) Q E s') { s with heap:=h1 }:=by
 refine o0 ?_;simp only [newExc,newTuple];refine o0 (M3 (o0 (m:=j4b _ _) (j49 (a:=Y2) (by first|rfl|(simp only [j4b];rfl)) (M3 ?_ (by size_fits)))) (by size_fits));simp only [raiseNew];refine o0 (wpAny_handled ?_);rw [show A.in1.handled=none from hh];refine o0 (A0 (wpAny_throw ?_));refine o0 (Z9 (T:="StopIteration") (b:=true) ⟨_,U0 _ rfl,rfl⟩ isSubtype_stop ?_);exact A0 (q _ λ b o e=>G0 _ (G0 _ e))
noncomputable abbrev bX (first:ZH) (i:Nat) (S:ZS) (n ep:Nat):ZQ:={ cls:=.type "set_iterator",data:=.fields #[first,.int i 0,.ref S,.int n 0,.int ep 0] }
def IR {slot':Nat} {t:X3} {x:ZH} (hi:s.heap.get? it=some (bX (.int slot 0) i S es.size ep)) (ho:s.heap.get? S=some (fB es ep t)) (hf:t.fits es.size=true)
  (hn :∀(A:P2) (E:ZH->I0->Prop) (Q:Option (ZH×Nat)->I0->Prop),Q (some (x,slot')) s->X0 (P1 prog w) A (j4i S slot i ep) Q E s)
  (q :∀h',v4 it s.heap h'->h'.get? it=some (bX (.int slot' 0) (i + 1) S es.size ep)->Q (some x) { s with heap:=h' }):X0 (P1 prog w) A (P7 (.ref it)) Q E s:=by
 have a:s.TypeIs (.ref it) "set_iterator":=⟨_,hi,rfl⟩
 unfold P7;refine o0 (Y7 (K4 (name:=P4 "__next__") a cD (N3 cD a sL ?_ (tR _))));unfold O6.«set_iterator.__next__»;refine o0 (show X0 _ _ (i5 (O2 it,[])) _ _ _ from A0 ?_);refine o0 (F9 hi rfl ?_);dsimp only;refine o0 (T8 ho rfl hf ?_);rw [Z_ (by simp)];refine o0 (hn _ _ _ ?_);dsimp only;refine o0 (U6 hi rfl (by simp) ?_);have b:(s.heap.update it (G4 (·.setIfInBounds 0 (F6 slot')))).get? it=some (bX (.int slot' 0) i S es.size ep):=T3 _ hi rfl;refine o0 (U6 (s:={ s with heap:=s.heap.update it (G4 (·.setIfInBounds 0 (F6 slot'))) }) b rfl (by simp) ?_);have c:((s.heap.update it (G4 (·.setIfInBounds 0 (F6 slot')))).update it (G4 (·.setIfInBounds 1 (F6 ((i:Int) + 1))))).get? it=some (bX (.int slot' 0) (i + 1) S es.size ep):=T3 _ b rfl;exact A0 ⟨x,rfl,A0 (q _ ((y3 ..).trans (y3 ..)) c)⟩
def om {t:X3} (hh:A.handled=none) (hi:s.heap.get? it=some (bX (.int slot 0) i S es.size ep)) (ho:s.heap.get? S=some (fB es ep t)) (hf:t.fits es.size=true)
  (hn :∀(A:P2) (E:ZH->I0->Prop) (Q:Option (ZH×Nat)->I0->Prop),Q none s->X0 (P1 prog w) A (j4i S slot i ep) Q E s)
  (q :∀h',j65 it s.heap h'->Q none { s with heap:=h' }):X0 (P1 prog w) A (P7 (.ref it)) Q E s:=by
 have c:s.TypeIs (.ref it) "set_iterator":=⟨_,hi,rfl⟩
 unfold P7;refine o0 (Y7 (K4 (name:=P4 "__next__") c cD (N3 cD c sL ?_ (tR _))));unfold O6.«set_iterator.__next__»;refine o0 (show X0 _ _ (i5 (O2 it,[])) _ _ _ from A0 ?_);refine o0 (F9 hi rfl ?_);dsimp only;refine o0 (T8 ho rfl hf ?_);rw [Z_ (by simp)];refine o0 (hn _ _ _ ?_);dsimp only;refine o0 (U6 hi rfl (by simp) ?_);have d :∀b o,b≠it->s.heap.get? b=some o->(s.heap.update it (G4 (·.setIfInBounds 2 Y2))).get? b=some o:=λ b o a e=>((y3 s.heap it (G4 (·.setIfInBounds 2 Y2))).2 b a).trans e;generalize s.heap.update it (G4 (·.setIfInBounds 2 Y2))=h1 at d⊢;exact kT hh λ h' k=>q h' λ b o a e=>k b o (d b o a e)
def Ks {tp:ZS} {k:Nat} {t:X3} {hx:Int} {x:ZH} {ps:Array ZH} {o:ZQ} (hi:s.heap.get? it=some (bX (.ref tp) i S es.size ep)) (ho:s.heap.get? S=some (fB es ep t)) (hf:t.fits es.size=true)
  (ht:s.heap.get? tp=some o) (hd:o.data=.seq ps m) (hp:ps[i]? = some (.int k 0)) (hk:es[k]? = some (hx,x))
  (q :∀h',v4 it s.heap h'->h'.get? it=some (bX (.ref tp) (i + 1) S es.size ep)->Q (some x) { s with heap:=h' }):X0 (P1 prog w) A (P7 (.ref it)) Q E s:=by
 have a:s.TypeIs (.ref it) "set_iterator":=⟨_,hi,rfl⟩
 unfold P7;refine o0 (Y7 (K4 (name:=P4 "__next__") a cD (N3 cD a sL ?_ (tR _))));unfold O6.«set_iterator.__next__»;refine o0 (show X0 _ _ (i5 (O2 it,[])) _ _ _ from A0 ?_);refine o0 (F9 hi rfl ?_);dsimp only;refine o0 (T8 ho rfl hf ?_);rw [Z_ (by simp)];refine o0 (B9 ht hd ?_);dsimp only;rw [show (Int.toNat (i:Int))=i from Q5 i,hp];dsimp only;refine o0 ?_;unfold setNextDrawn;refine o0 (R4 ho rfl hf ?_);dsimp only;rw [Z_ (by simp),show (Int.toNat (k:Int))=k from Q5 k,hk];refine o0 (A0 (A0 ?_));refine o0 (U6 hi rfl (by simp) ?_);have b:(s.heap.update it (G4 (·.setIfInBounds 1 (F6 ((i:Int) + 1))))).get? it=some (bX (.ref tp) (i + 1) S es.size ep):=T3 _ hi rfl;exact A0 ⟨x,rfl,A0 (q _ (y3 ..) b)⟩
def DF {tp:ZS} {t:X3} {ps:Array ZH} {o:ZQ} (hh:A.handled=none) (hi:s.heap.get? it=some (bX (.ref tp) i S es.size ep)) (ho:s.heap.get? S=some (fB es ep t)) (hf:t.fits es.size=true)
  (ht:s.heap.get? tp=some o) (hd:o.data=.seq ps m) (hp:ps[i]? = none)
  (q :∀h',j65 it s.heap h'->Q none { s with heap:=h' }):X0 (P1 prog w) A (P7 (.ref it)) Q E s:=by
 have c:s.TypeIs (.ref it) "set_iterator":=⟨_,hi,rfl⟩
 unfold P7;refine o0 (Y7 (K4 (name:=P4 "__next__") c cD (N3 cD c sL ?_ (tR _))));unfold O6.«set_iterator.__next__»;refine o0 (show X0 _ _ (i5 (O2 it,[])) _ _ _ from A0 ?_);refine o0 (F9 hi rfl ?_);dsimp only;refine o0 (T8 ho rfl hf ?_);rw [Z_ (by simp)];refine o0 (B9 ht hd ?_);dsimp only;rw [show (Int.toNat (i:Int))=i from Q5 i,hp];dsimp only;refine o0 (U6 hi rfl (by simp) ?_);have f:(s.heap.update it (G4 (·.setIfInBounds 0 (F6 0)))).get? it=some (bX (.int 0 0) i S es.size ep):=T3 _ hi rfl;refine o0 (U6 (s:={ s with heap:=s.heap.update it (G4 (·.setIfInBounds 0 (F6 0))) }) f rfl (by simp) ?_);have d :∀b o,b≠it->s.heap.get? b=some o->((s.heap.update it (G4 (·.setIfInBounds 0 (F6 0)))).update it (G4 (·.setIfInBounds 2 Y2))).get? b=some o:=λ b o a e=>(((y3 s.heap it (G4 (·.setIfInBounds 0 (F6 0)))).trans (y3 _ it (G4 (·.setIfInBounds 2 Y2)))).2 b a).trans e;generalize (s.heap.update it (G4 (·.setIfInBounds 0 (F6 0)))).update it (G4 (·.setIfInBounds 2 Y2))=h1 at d⊢;exact kT hh λ h' k=>q h' λ b o a e=>k b o (d b o a e)
def AA {first:ZH} {Q:ZH->I0->Prop} (hi:s.heap.get? it=some (bX first i S n ep)) (q:Q (.ref it) s):X0 (P1 prog w) A (j60 (.ref it)) Q E s:=by
 have a:s.TypeIs (.ref it) "set_iterator":=⟨_,hi,rfl⟩
 refine j6d a Cg (N3 Cg a GS (show X0 _ _ (ret (.ref it)) _ _ s from ?_) (Kt _));exact A0 ⟨_,rfl,"set_iterator",_,a,cD.lookup,q⟩
end
section
def ny {src:Source} {Q:Nat->I0->Prop} (hn:n≠0) (q :∀i d,i < n->Q i { s with drawn:=d }):X0 (P1 prog w) A (choose src n) Q E s:=λ Γ p a=>⟨hn,q _ _ (j83 _ (Nat.pos_of_ne_zero hn))⟩
theorem Ax {α:Type} :∀(n:Nat) (xs:List α) (s:I0) (Q:List α->I0->Prop),xs.length<=n->(∀ys d,ys.Perm xs->Q ys { s with drawn:=d })->X0 (P1 prog w) A (drawOrder n xs) Q E s
 | 0,xs,s,Q,h,q=>by have:xs=[]:=List.length_eq_zero_iff.mp (Nat.le_zero.mp h);subst this;exact A0 (q [] s.drawn (Z4 _))
 | n + 1,[],s,Q,h,q=>A0 (q [] s.drawn (Z4 _))
 | n + 1,x :: xs,s,Q,h,q=>by unfold drawOrder;refine o0 (ny (by simp) λ i d a=>?_);rw [C0 a];dsimp only;refine o0 (Ax n _ _ _ (by rw [j0b a];simp at h⊢;lia) λ ys b p=>?_);exact A0 (q _ b ((p.cons _).trans (wz _ _ a)))
def JA {t:X3} {Q:Bool->I0->Prop} (ho:s.heap.get? S=some (fB es ep t)) (hf:t.fits es.size=true) (q:Q (!w.params.followText "set-order" && (!t.plain && decide (es.size > 1))) s):X0 (P1 prog w) A (setDrawn S) Q E s:=by unfold setDrawn;exact o0 (R4 ho rfl hf (o0 (sI (A0 q))))
def Fw {t:X3} {Q:ZH->I0->Prop} (ho:s.heap.get? S=some (fB es ep t)) (hf:t.fits es.size=true) (hz:es.size < scanBound)
  (q1:(!w.params.followText "set-order" && (!t.plain && decide (es.size > 1)))=false->Q (.ref s.heap.objs.size) { s with heap:=s.heap.push (bX (.int 0 0) 0 S es.size ep) })
  (q2 :∀(ps:List Nat) d,ps.Perm (N0 es.size)->Q (.ref (s.heap.objs.size + 1)) { s with heap:=(s.heap.push { cls:=.type "tuple",data:=.seq (ps.map λ i:Nat=>F6 i).toArray }).push (bX (.ref s.heap.objs.size) 0 S es.size ep),drawn:=d }) :
  X0 (P1 prog w) A (j60 (.ref S)) Q E s:=by
 have a:s.TypeIs (.ref S) "set":=⟨_,ho,rfl⟩
 refine j6d a F.slot_set_iter (N3 F.slot_set_iter a GI ?_ (F.args_set_iter_1 _));unfold O6.«frozenset.__iter__»;refine o0 (show X0 _ _ (i5 S) _ _ _ from A0 ?_);unfold Builtin.Frozenset.sizeOf;refine o0 (o0 (T8 ho rfl hf (A0 ?_)));refine o0 (JA ho hf ?_);by_cases z:(!w.params.followText "set-order" && (!t.plain && decide (es.size > 1)))=true
 ·rw [ZZ z];refine o0 (Ax _ _ _ _ (by simp) λ ps d p=>?_);have b:ps.length=es.size:=by rw [p.length_eq,Q1]
  unfold newTuple;refine o0 (M3 ?_ (show (ps.map λ i:Nat=>F6 i).toArray.size<=ZG by rw [Q0,q0,b];exact j6j hz));refine o0 (wpAny_setEpoch_of (s:={ s with heap:=s.heap.push { cls:=.type "tuple",data:=.seq (ps.map λ i:Nat=>F6 i).toArray },drawn:=d }) (G0 _ ho) rfl hf ?_);have c:(s.heap.push { cls:=.type "tuple",data:=.seq (ps.map λ i:Nat=>F6 i).toArray }).objs.size=s.heap.objs.size + 1:=v5 _ _;refine o0 (M3 (A0 ⟨_,rfl,"set_iterator",_,⟨_,U0 _ rfl,rfl⟩,cD.lookup,?_⟩));have:=q2 ps d p;rw [<-c] at this;exact this
 ·rw [Z_ z];refine o0 (A0 ?_);refine o0 (wpAny_setEpoch_of ho rfl hf ?_);exact o0 (M3 (A0 ⟨_,rfl,"set_iterator",_,⟨_,U0 _ rfl,rfl⟩,cD.lookup,q1 (Bool.eq_false_iff.mpr z)⟩))
def zD {I:ZS} {t:X3} (hh:A.handled=none) (hne:S≠I) (hf:t.fits es.size=true) (vs:List ZH) (sl:Nat->Nat)
  (hN :∀(i:Nat) (x:ZH),vs[i]? = some x->∀(s:I0) (A:P2) (E:ZH->I0->Prop) (Q:Option (ZH×Nat)->I0->Prop),s.heap.get? S=some (fB es ep t)->Q (some (x,sl (i + 1))) s->X0 (P1 prog w) A (j4i S (sl i) i ep) Q E s)
  (hE :∀(s:I0) (A:P2) (E:ZH->I0->Prop) (Q:Option (ZH×Nat)->I0->Prop),s.heap.get? S=some (fB es ep t)->Q none s->X0 (P1 prog w) A (j4i S (sl vs.length) vs.length ep) Q E s) :
  Walks prog w A I [I,S] [I] vs.length (λ i v=>vs[i]? = some v) (λ i h=>h.get? I=some (bX (.int (sl i) 0) i S es.size ep)/\h.get? S=some (fB es ep t)) where
 sub:=λ b c=>List.mem_cons.mpr (.inl (List.mem_singleton.mp c))
 frame:=λ i h d a k=>⟨k I (by simp) _ a.1,k S (by simp) _ a.2⟩
 item:=λ i s Q E j a q=>by refine IR a.1 a.2 hf (λ A E Q z=>hN i vs[i] (C0 j) s A E Q a.2 z) λ d f g=>?_;exact q _ d s.toks (C0 j) ⟨g,(f.2 S hne).trans a.2⟩ λ b o c e=>(f.2 b (λ z=>c (by simp [z]))).trans e
 done:=λ s Q E a q=>om hh a.1 a.2 hf (λ A E Q z=>hE s A E Q a.2 z) λ d l=>q d s.toks λ b o c e=>l b o (λ z=>c (by simp [z])) e
 self:=λ i s Q E a q=>AA a.1 q
def Gb {I tp:ZS} {t:X3} (hh:A.handled=none) (hne:S≠I) (hnt:tp≠I) (hf:t.fits es.size=true) (vs:List ZH) (ps:List Nat) (hl:ps.length=vs.length)
  (hN :∀(i:Nat) (x:ZH),vs[i]? = some x->∃k hx,ps[i]? = some k/\es[k]? = some (hx,x)) :
  Walks prog w A I [I,S,tp] [I] vs.length (λ i v=>vs[i]? = some v) (λ i h=>h.get? I=some (bX (.ref tp) i S es.size ep)/\h.get? S=some (fB es ep t)/\h.get? tp=some { cls:=.type "tuple",data:=.seq (ps.map λ i:Nat=>F6 i).toArray }) where
 sub:=λ b c=>List.mem_cons.mpr (.inl (List.mem_singleton.mp c))
 frame:=λ i h d a k=>⟨k I (by simp) _ a.1,k S (by simp) _ a.2.1,k tp (by simp) _ a.2.2⟩
 item:=λ i s Q E j a q=>by obtain ⟨k,hx,n,l⟩:=hN i vs[i] (C0 j);refine Ks a.1 a.2.1 hf a.2.2 rfl (by rw [k03,C1,n];rfl) l λ d f g=>?_;exact q _ d s.toks (C0 j) ⟨g,(f.2 S hne).trans a.2.1,(f.2 tp hnt).trans a.2.2⟩ λ b o c e=>(f.2 b (λ z=>c (by simp [z]))).trans e
 done:=λ s Q E a q=>DF hh a.1 a.2.1 hf a.2.2 rfl (by rw [k03,R3];simp [hl]) λ d m=>q d s.toks λ b o c e=>m b o (λ z=>c (by simp [z])) e
 self:=λ i s Q E a q=>AA a.1 q
noncomputable def slotAt (t:X3):Nat->Nat
 | 0=>0
 | i + 1=>t.place.getD i 0 + 1
theorem By {t:X3} (r:gu t.place) :∀{i:Nat},i<=t.place.size->F1 t.place (slotAt t i)=i
 | 0,_=>r.first
 | i + 1,h=>by show F1 t.place (t.place.getD i 0 + 1)=i + 1;rw [xQ h];exact r.next h
def Jq {t:X3} (h:t.fits n=true):t.place.size=n:=by unfold j69 at h;exact beq_iff_eq.mp (Bool.and_eq_true_iff.mp h).1
noncomputable def qo (es:Array (Int×ZH)) (k:Nat):ZH:=((es[k]?).map (·.2)).getD .none
def HS (es:Array (Int×ZH)):(N0 es.size).map (qo es)=es.toList.map (·.2):=by
 apply j22
 ·simp
 ·intro i b c;have a:i < es.size:=by simpa using b
  simp [qo,a]
end
section
def Ht {Q:Bool->I0->Prop} (hT:s.TypeIs (.ref r) "set") (h:Q false s):X0 (P1 prog w) A (j42 (.ref r)) Q E s:=by unfold j42;refine o0 (j3c hT PySem.F.slot_set_len.lookup ?_);generalize jR:("set.__len__" : String)=id0;wp_delta;rw [show splitId id0=some ("set","__len__") from by subst jR;decide +kernel];subst jR;refine o0 (Z9 (T:="set") (b:=true) hT sub_set_self ?_);refine j8i (λ a=>ZU a (by decide)) (λ _=>j8i (λ _=>?_) (λ a=>ZU (by decide +kernel) a));exact o0 (N7 hT (A0 h))
end
section
def Inv.drew (I:Inv X pins σ H s) (d:Drawn):Inv X pins σ H { s with drawn:=d }:=⟨I.ok,I.os,I.bare,I.base,I.loc,I.cell,I.free,I.freeC,I.pin,I.hok,I.len⟩
theorem uk:∀(vs ns:List Int),(vs.foldl dc ns).length<=ns.length + vs.length
 | [],ns=>L0 _
 | v :: vs,ns=>by
  have b:=uk vs (dc ns v);have a:=Es ns v;show (vs.foldl dc (dc ns v)).length<=_;rw [W0]
  lia
end
end L2
namespace HT
open PySem PySem.Spec PyProof.Rows L2
variable {prog:ZK} {w:U1} {A:P2} {E:ZH->I0->Prop} {s:I0}
end HT
namespace L2
open PySem PySem.Spec PyProof.Rows
variable {X:Cx}
section
def qy (K:B0):R2:=λ x y H Q=>∃a b xs ys,x=.ref a/\y=.ref b/\av K H a xs/\av K H b ys/\xs.length + ys.length<=ZG/\∀p,H p=none->Q (.ref p) (upd H p (.lst (xs++ys)))
theorem Ij:c_ X (V6 .Add) (qy X.K):=by intro G s σ H x y v u Q I A B h;obtain ⟨a,b,J,P,rfl,rfl,D,t,R,q⟩:=h;cases A;cases B;obtain ⟨c,i,w,_⟩:=I.list D;obtain ⟨d,e,z,_⟩:=I.list t;obtain ⟨⟨T,M,S,p⟩,E,j,k,m,n⟩:=id w;obtain ⟨⟨N,O,L,C⟩,r,f,o,l,g⟩:=id z;simp only at k m n o l g;subst k m n o l g;have p:=i.length;have C:=e.length;refine j70 ⟨_,j,rfl⟩ ⟨_,f,rfl⟩ noFill_list_add seq_list_add PySem.F.slot_list_add PySem.F.entry_list_add (PySem.F.args_list_add_2 _ _) (list_addW a b c.toArray d.toArray E r none none _ _ (by rw [Q0,Q0];lia)) ⟨j,f,?_⟩;rw [show c.toArray++d.toArray=(c++d).toArray by simp];exact ⟨.ref _,_,I.lnew (t':=s.toks) (i.append e) (by rw [F0];lia),rfl,q _ I.fresh⟩
end
def tM {names:List (ZR×F8)} {ns:List ZR} {Q:ZR×F8->Prop} (h:(names.all λ y=>y.2 != v3 || ns.contains y.1)=true) (q :∀n,n∈ns->∀k,Q (n,k)) :∀y∈names,y.2=v3->Q y:=λ y c e=>by
 have z:=List.all_eq_true.mp h y c;rw [e] at z;have z:ns.contains y.1=true:=by simpa using z
 obtain ⟨a,b⟩:=y;exact q a (by simpa using z) b
variable {H H1:Hp} {Q:VK} {fr:List (Nat×ZR)} {g:TG} {m:Nat} {tc:TT} {te:TE}
theorem pV {S:Hp->Hp->Prop} {ta:TA} {n:Nat} {σ:St} (p:Nat->Bool) (R:Nat->V->Hp->Prop) (s0:S H1 H1) (st :∀a b c,S a b->S b c->S a c) (hs :∀H,S H1 H->S H H) (hR :∀i y H H',S H H'->R i y H->R i y H')
  (hta :∀T:List V->Hp->Prop,T [.int (n:Nat)] H1->ta σ H T) (hn:n<=ZG)
  (body :∀i,i < n->∀H,S H1 H->∀(KT:VK) (KF:Hp->Prop),(p i=true->∀y H',S H H'->R i y H'->KT y H')->(p i=false->∀H',S H H'->KF H')->
   g (.int (i:Nat)) (aE σ fr (A1 m none)) H λ σ6 H6=>∃us,us.length=m/\σ6=aE σ fr us/\tc (aE σ fr us) H6 λ b H2=>if b=true then te (aE σ fr us) H2 KT else KF H2)
  (hQ :∀l H' ys,S H1 H'->H' l=none->af (λ i y=>R i y H') ((N0 n).filter p) ys->Q (.ref l) (upd H' l (.lst ys))):cu (j_ ta) m fr g tc te σ H Q:=by
 have b:(n:Int) < 2 ^ 62:=Int.lt_of_le_of_lt (Int.ofNat_le.mpr hn) (by decide);refine hta _ ⟨n,rfl,by lia,b,?_⟩;exact mB s0 st p R hR (Gr hs) hn (λ i e v H s f KT KF d h=>by subst f;exact body i e H s KT KF d h) hQ
variable {s:I0} {w:U1}
section
variable {prog:ZK} {A:P2} {E:ZH->I0->Prop} 
theorem AD:∀{vs:List ZH} {ss:List ZR},j73 vs ss->vs.length=ss.length
 | _,_,.nil=>rfl
 | _,_,.cons y t h=>by rw [W0,W0,AD h]
theorem BL:∀{vs:List ZH} {ss:List ZR},j73 vs ss->∀v∈vs,∃a,strKind.keyOf v=some a
 | _,_,.nil,v,h=>ZU h P0
 | _,_,.cons y t h,v,hv=>by
  rcases List.mem_cons.mp hv with rfl|hv
  ·exact ⟨_,rfl⟩
  ·exact BL h v hv
theorem zd:∀{vs:List ZH} {ss:List ZR},j73 vs ss->aD (ss.map V.str) vs
 | _,_,.nil=>.nil
 | _,_,.cons n t h=>.cons ⟨t,rfl⟩ (zd h)
theorem CZ:∀{ss:List ZR} {us:List ZH},us.length=ss.length->(∀(j:Nat) (u:ZH),us[j]? = some u->∃(i:ZR) (t:Tok),ss[j]? = some i/\u=j53 i t)->j73 us ss
 | [],us,hl,_=>by have z:us=[]:=List.eq_nil_of_length_eq_zero hl;subst z;exact .nil
 | n :: ss,us,hl,h=>by
  cases us with
  | nil=>cases hl
  | cons u us=>obtain ⟨i,t,e,rfl⟩:=h 0 u rfl;have e:n=i:=G1 e;subst e;exact .cons n t (CZ (Nat.succ.inj hl) λ j v e=>h (j + 1) v (by simpa using e))
def Iy {v:ZH} {Q:ZH->I0->Prop} {ss:List ZR} (hn:ss.length < 64)
  (hc :∀R:List ZH->I0->Prop,(∀h' tk vs,(∀b o,s.heap.get? b=some o->h'.get? b=some o)->j73 vs ss->R vs { s with heap:=h',toks:=tk })->X0 (P1 prog w) A.in1 (collect v) R E s)
  (h :∀(h1 h':ZN) (tk:Nat) (out:Array ZH) (ss':List ZR) (e:Nat),(∀b o,s.heap.get? b=some o->h1.get? b=some o)->(∀b o,h1.get? b=some o->h'.get? b=some o)->h'.get? h1.objs.size=some { cls:=.type "list",data:=.seq out e }->j73 out.toList ss'->ss'.Perm ss->sortedS ss'=true->Q (.ref h1.objs.size) { s with heap:=h',toks:=tk }) :
  X0 (P1 prog w) A (call (.builtin "sorted") [v]) Q E s:=by
 refine j0g kind_sorted plain_sorted entry_sorted (args_sorted1 _) ?_;unfold O6.«sorted»;refine o0 (m:=checkCount "sorted" 1 1 _) (A0 (o0 (hc _ λ h1 tk vs y a=>?_)));have f:vs.length < 64:=by rw [AD a];exact hn
 refine o0 (j5c ?_ (M0 (y4 f) (by decide)));have c:(h1.push (j00 "list" vs.toArray 0)).get? h1.objs.size=some (j00 "list" vs.toArray 0):=U0 _ rfl;have t:KeysOf strKind (pairsOf vs):=λ p n=>by
  have:p.1∈vs:=by have:=(V9 (show (p.1,p.2)∈vs.zip vs by simpa [pairsOf] using n)).1;exact this
  exact BL a _ this
 refine o0 (F3 (N3 j9e ⟨_,c,rfl⟩ j90 (list_sort_treeK strKind_oneLt c t (λ B z r e=>by subst e;exact keyKind_strs a) f λ i j u=>⟨_,rfl,?_⟩) (j9h _)));obtain ⟨ss',k,l,q⟩:=sorted_out_str a j u;obtain ⟨e,g⟩:=sortedHeap_at (out:=j8h (λ x=>x.snd) (arrOf i)) c;refine A0 ⟨_,rfl,h h1 _ tk _ ss' e y (λ b o d=>?_) g k l q⟩;have lt:=T0 d;refine (sortedHeap_old (K1 lt) ?_).trans (G0 _ d);rw [size_push'];exact C3 lt
end
section
def wO (hcalm:X.calm=true):cv X (.builtin "sorted") (λ xs H Q=>∃a kvs ss,xs=[.ref a]/\H a=some (.dK kvs)/\kvs.map (·.1)=ss.map Sum.inr/\ss.length < 64/\∀(l:ZS) (ss':List ZR),H l=none->ss'.Perm ss->sortedS ss'=true->Q (.ref l) (upd H l (.lst (ss'.map V.str)))):=by
 intro B s σ H xs U Q I r h;obtain ⟨a,kvs,ss,rfl,N,J,f,q⟩:=h;obtain ⟨u,rfl,K⟩:=vals1 r;cases K;obtain ⟨M,P,c,n,T⟩:=fJ I.hok N;obtain ⟨Y,F⟩:=T.dictAt;refine Iy f (λ R D=>?_) λ m v tk E ss' e O L g i p r=>?_
 ·have keys:c.map (·.1)=ss.map Sum.inr:=n.keys.symm.trans J;have C:c.length=ss.length:=by have:=ZT j1a keys;simpa using this
  refine PySem.W.kdu_collect (PySem.W.kdl_dict P) (show X.A.in1.handled=none from I.ok.hd hcalm) F (by rw [<-n.length];exact M) λ v tk Z k w=>D v tk _ k (CZ (by rw [B1,w.1,C]) λ j u e=>?_);obtain ⟨y,x,G,S⟩:=w.2 j u (by rw [<-G2];exact e);have b:(c.map (·.1))[j]? = some y:=by rw [C1,G];rfl
  rw [keys,C1] at b;cases en:ss[j]? with
  | none=>rw [en] at b;cases b
  | some i=>
   rw [en] at b;have b:Sum.inr i=y:=G1 b;subst b;rcases jD (show fU (.inr i) u=true from S) with ⟨_,_,z,_⟩|⟨i',t,z,rfl⟩
   ·cases z
   ·cases z;exact ⟨i,t,rfl,rfl⟩
 ·have d:Inv X B σ H { s with heap:=m }:=I.kept (t':=s.toks) O;refine ⟨.ref m.objs.size,_,d.laid (t':=tk) (o:=.lst (ss'.map V.str)) L (L0 _) ⟨?_,E.toList,e,zd i,by simpa using g⟩,rfl,q _ ss' (d.hok.fresh (L0 _)) p r⟩;rw [q0,p.length_eq];exact M0 (y4 f) (by decide)
end
variable {D:Ends}
def oh {c:TT} {a b:TS} {σ:St} (h:c σ H λ k H1=>if k=true then a D σ H1 else b D σ H1):kY c a b D σ H:=h
variable {K:B0} {a:ZS} {xs:List V}
def Je (hq:av K H1 a xs):fv Same (jn K a) H1 xs.length (λ i v H=>∃x p,xs[i]? = some x/\v=.ref p/\H p=some (.tup [.int (i:Nat),x])):=by refine ⟨λ i b H s=>⟨xs,xs[i],s.seq hq,by simp [b]⟩,λ H s=>⟨xs,s.seq hq,rfl⟩,λ i b H v e s y=>?_⟩;obtain ⟨p,c,rfl,f⟩:=y;obtain ⟨x,d,rfl⟩:=f xs (s.seq hq);exact ⟨Same.upd c,x,p,d,rfl,aB⟩
def tf (hK:X.K=K):c_ X (O3 .In) (rL K false):=hK ▸ uf
variable {items:Array ZH} {l:ZS}
section
variable {prog:ZK} {A:P2} {E:ZH->I0->Prop} 
theorem Cj {S it:ZS} (nsi:S≠it) (nsl:S≠l) (nil':it≠l) (I:Nat->ZN->Prop) (kp :∀i h h',(∀o,h.get? S=some o->h'.get? S=some o)->I i h->I i h')
  (st :∀i v,items[i]? = some v->∀(A:P2) (s:I0) (Q:Bool->I0->Prop) (E:ZH->I0->Prop),I i s.heap->(∀b h2 tk,v4 S s.heap h2->I (i + 1) h2->Q b { s with heap:=h2,toks:=tk })->X0 (P1 prog w) A (setAdd S v) Q E s) :
  ∀(n i:Nat) (A:P2) (R:j9j->I0->Prop) (s:I0),items.size=i + n->A.handled=none->s.heap.IsListIter it l i->s.heap.IsList l items->I i s.heap->
  (∀h' tk,I items.size h'->(∀c o,c≠S->c≠it->s.heap.get? c=some o->h'.get? c=some o)->R (.ok (.ret .none)) { s with heap:=h',toks:=tk })->
  M8 (P1 prog w) A (o9 "set.update.loop" { pos:=[.ref S,.ref it],kw:=[] }) R s
 | 0,i,A,R,s,hn,hh,si,sl,dd,q=>by refine X5 m9 ?_;show X0 _ _ (P7 (.ref it) >>= _) _ _ s;refine o0 (T9 (show (A.under _).handled=none from hh) si sl (L4 (by lia)) λ h' m=>?_);exact A0 (q h' s.toks (by rw [hn];exact kp _ _ _ (λ o e=>m S o nsi e) dd) λ c o _ x e=>m c o x e)
 | n + 1,i,A,R,s,hn,hh,si,sl,dd,q=>by
  have F:i < items.size:=by lia
  have p:items[i]? = some items[i]:=T1 F;refine X5 m9 ?_;show X0 _ _ (P7 (.ref it) >>= _) _ _ s;refine o0 (C9 si sl p λ z G f=>?_);have C:z.IsList l items:=by obtain ⟨o,a,d⟩:=sl;exact ⟨o,(f.2 l (W5 nil')).trans a,d⟩
  refine o0 (F3 (st i _ p _ _ _ _ (kp _ _ _ (λ o e=>(f.2 S nsi).trans e) dd) λ b h2 tk g u=>?_));refine A0 ⟨zh _,?_⟩;have y:h2.IsListIter it l (i + 1):=by obtain ⟨o,a,d⟩:=G;exact ⟨o,(g.2 it (W5 nsi)).trans a,d⟩
  have t:h2.IsList l items:=by obtain ⟨o,a,d⟩:=C;exact ⟨o,(g.2 l (W5 nsl)).trans a,d⟩
  exact Cj nsi nsl nil' I kp st n (i + 1) A R { s with heap:=h2,toks:=tk } (by lia) hh y t u λ h' B D r=>q h' B D λ c o k j e=>r c o k j ((g.2 c k).trans ((f.2 c j).trans e))
def BG:isSubtype (.type "list") (.type "set")=i5 false:=by rw [j4a];kernel_rfl
def zR:isSubtype (.type "list") (.type "frozenset")=i5 false:=by rw [j4a];kernel_rfl
def Gh {Q:ZH->I0->Prop} (hh:A.handled=none) (ht:s.heap.IsList l items) (I:Nat->ZN->Prop) (i0 :∀h,h.get? s.heap.objs.size=some (cQ w)->I 0 h) (kp :∀i h h',(∀o,h.get? s.heap.objs.size=some o->h'.get? s.heap.objs.size=some o)->I i h->I i h')
  (st :∀i v,items[i]? = some v->∀(A:P2) (s':I0) (Q:Bool->I0->Prop) (E:ZH->I0->Prop),I i s'.heap->(∀b h2 tk,v4 s.heap.objs.size s'.heap h2->I (i + 1) h2->Q b { s' with heap:=h2,toks:=tk })->X0 (P1 prog w) A (setAdd s.heap.objs.size v) Q E s')
  (h :∀h' tk,I items.size h'->(∀b o,s.heap.get? b=some o->h'.get? b=some o)->Q (.ref s.heap.objs.size) { s with heap:=h',toks:=tk }) :
  X0 (P1 prog w) A (call (.type "set") [.ref l]) Q E s:=by
 obtain ⟨c,O,X⟩:=F.called_set.mro;have Y:=F.called_set.made;have a1:=F.called_set.sub;refine wpAny_call (codeAny_of_tree (show X0 _ _ (callAny (.type "set") _) _ _ _ from A0 ⟨Code.quiet_builtin _ (by decide +kernel),X5 F.entry_type_call ?_⟩));rw [k0i (weight_type_call_type "set" [.ref l] []) rfl];have V:=F.called_set.notType;have h2:=F.called_set.canCreate;have M:=F.typeCall_set_1 (.ref l)
 (repeat (any_goals (first|assumption|wp_step)));refine L8 (zC (.ref l) (E:=E) (Q₁:=λ q k=>q=.ref s.heap.objs.size/\k={ s with heap:=s.heap.push (cQ w) }) ⟨rfl,rfl⟩) λ r k d=>?_
 cases r with
 | error e=>exact d
 | ok fl=>
  cases fl with
  | next=>exact d.elim
  | brk=>exact d.elim
  | cont=>exact d.elim
  | ret q=>
   obtain ⟨rfl,rfl⟩:=d;have g:(s.heap.push (cQ w)).get? s.heap.objs.size=some (cQ w):=U0 _ rfl;have B:v8 { s with heap:=s.heap.push (cQ w) } (.ref s.heap.objs.size) "set":=⟨_,g,rfl⟩
   have R:=F.called_set.init.lookup;have T:=F.called_set.init.bind (.ref s.heap.objs.size)
   (repeat (any_goals (first|assumption|wp_step)))
   have D:M8 (P1 prog w) A.in1 (.call (.builtin "set.__init__") ⟨[.ref s.heap.objs.size,.ref l],[]⟩) (wants (λ r x=>r=.none/\Q (.ref s.heap.objs.size) x) E) { s with heap:=s.heap.push (cQ w) }:=by
    refine j4c F.called_set.init.plain F.entry_set_init (check_set_init_1 B ?_);obtain ⟨o,f,p,n,u⟩:=ht;obtain ⟨N,G,a0,C⟩:=o;dsimp only at p u;subst p u;have H:(s.heap.push (cQ w)).get? l=some { cls:=.type "list",dict:=G,data:=.seq items n,slots:=C }:=G0 _ f;have P:=BG;have W:=zR;have Z:(U4 "list" == U4 "dict")=false:=by decide
    have U:(s.heap.push (cQ w)).get? s.heap.objs.size=some { cls:=.type "set",dict:=none,data:=.set #[] 0 (.fresh 0 0 (!w.params.followText "set-order")),slots:=#[] }:=g;have z:(s.heap.push (cQ w)).IsList l items:=⟨_,H,rfl,n,rfl⟩
    have m:l < s.heap.objs.size:=T0 f;unfold O6.«set.__init__» noKeywords j2i;generalize hPI:j60=PI
    wp_walk
    subst hPI;refine c8 z (o0 (j9a ?_));have t :∀b o,s.heap.get? b=some o->((s.heap.push (cQ w)).push { cls:=.type "list_iterator",data:=.fields #[.ref l,.int 0 0] }).get? b=some o:=λ b o e=>G0 _ (G0 _ e);have j:(s.heap.push (cQ w)).objs.size=s.heap.objs.size + 1:=v5 _ _;refine Cj (S:=s.heap.objs.size) (it:=(s.heap.push (cQ w)).objs.size) (l:=l) (items:=items) (by rw [j];exact K1 (F4 _)) (J3 m) (by rw [j];exact J3 (C3 m)) I kp st items.size 0 _ _ _ (i8 _).symm (by simp [hh]) ⟨_,U0 _ rfl,rfl,rfl⟩ ⟨_,t _ _ f,rfl,n,rfl⟩ (i0 _ (G0 _ g)) λ h' tk L y=>?_;refine A0 (A0 ⟨rfl,h h' tk L λ b o e=>y b o (K1 (T0 e)) (by rw [j];exact K1 (C3 (T0 e))) (t b o e)⟩)
   refine L8 D λ J x a=>?_;cases J with
   | error e=>exact a
   | ok f2=>
    cases f2 with
    | next=>exact a.elim
    | brk=>exact a.elim
    | cont=>exact a.elim
    | ret r=>obtain ⟨rfl,K⟩:=a;exact A0 (A0 K)
theorem Hc {ns:List Int} {Q:ZH->I0->Prop} (hh:A.handled=none) (ht:s.heap.IsList l items) (hi:i6 items.toList ns) (hb:ns.length < scanBound)
  (h :∀h' tk ns',eY prog w (!w.params.followText "set-order") h' s.heap.objs.size ns'->ns'.Perm (ns.foldl dc [])->(∀b o,s.heap.get? b=some o->h'.get? b=some o)->Q (.ref s.heap.objs.size) { s with heap:=h',toks:=tk }) :
  X0 (P1 prog w) A (call (.type "set") [.ref l]) Q E s:=by
 have a :∀{us:List ZH} {ms:List Int},i6 us ms->us.length=ms.length/\∀(i:Nat) v,us[i]? = some v->∃m tk,ms[i]? = some m/\v=P8 m tk:=λ z=>by
  induction z with
  | nil=>exact ⟨rfl,λ i v e=>by simp at e⟩
  | cons m tk _ ih=>
   refine ⟨ZT (· + 1) ih.1,λ i v e=>?_⟩;cases i with
   | zero=>rw [B4] at e;cases e;exact ⟨m,tk,rfl,rfl⟩
   | succ i=>rw [X2] at e;rw [X2];exact ih.2 i v e
 obtain ⟨u,a⟩:=a hi;refine Gh hh ht (λ i h=>∃ns',eY prog w (!w.params.followText "set-order") h s.heap.objs.size ns'/\ns'.Perm ((ns.take i).foldl dc [])) (λ h e=>⟨[],DY e,.refl _⟩) (λ i h h' k ⟨ns',d,p⟩=>⟨ns',d.at' k,p⟩) (λ i v g A C Q E ⟨ns',d,p⟩ k=>?_) λ h' tk ⟨ns',d,p⟩ kk=>h h' tk ns' d (by rwa [<-B1,u,W2] at p) kk;obtain ⟨m,tk,f,rfl⟩:=a i v (by rw [G2];exact g);have n:=uk (ns.take i) [];rw [v6,i8,Y1] at n;have B:=p.length_eq;have y:=(List.getElem?_eq_some_iff.mp f).1;unfold setAdd;refine F3 (o0 ((d8 prog w).pyHash (k:=m) (intKind_is prog w m tk) ?_));refine I8 d (by lia) λ c x q r j t=>k c x _ r ⟨q,j,?_⟩;rw [N4,f,Option.toList_some,f9];exact t.trans (CI [m] p)
end
variable {e:ZO}
section
def md (K:B0) (te:TE):TE:=λ σ H Q=>te σ H λ x H1=>∃(a:ZS) (ns:List Int),x=.ref a/\av K H1 a (ns.map V.int)/\ns.length < 100/\Q (.int ((ns.foldl dc []).length:Nat)) H1
theorem HI {p1 p2 c1 c2:ZP} (hcalm:X.calm=true) (g1:Gl X "len") (m1:X.mg "len" = none) (g2:Gl X "set") (m2:X.mg "set" = none) (b1:K6 "len" = some (.builtin "len")) (b2:K6 "set" = some (.type "set")) (ha:PE X e te)
  (he:A2 [e] X.env=[(false,T4 e X.env)]:=by rfl):PE X (.Call (.Name "len" p1) [.Call (.Name "set" p2) [e] [] c2] [] c1) (md X.K te):=by
 intro c s σ H Q I h;have o:X.A.handled=none:=I.ok.hd hcalm;refine M5 (cL I g1 m1 b1 ?_ (by decide) (by decide));refine Q8 ?_ rfl rfl;refine (show X0 _ _ (j4h ((false,T4 (.Call (.Name "set" p2) [e] [] c2) X.env) :: [])) _ _ s from Z3 ?_);refine M5 (cL I g2 m2 b2 ?_ (by decide) (by decide));refine K3 ?_ he rfl;rw [he];refine (show X0 _ _ (j4h ((false,T4 e X.env) :: [])) _ _ s from Z3 (br (ha c s σ H _ I h) λ u f ⟨x,H1,I1,r1,a,ns,ex,sq,hl,q⟩=>?_));subst ex;cases r1;refine c5 ?_;obtain ⟨y,l,d,C⟩:=I1.list sq;refine Hc o d.isList (by simpa using sX l) (m8 hl (by decide)) λ p tk B j g k=>c5 ?_;obtain ⟨r,z,t,i,_,b,D,w,n,_⟩:=j;have m:r.size=(ns.foldl dc []).length:=by rw [<-g.length_eq,As b,q0,B1]
 have v:(ns.foldl dc []).length < 100:=by
  have:=uk ns [];rw [v6,i8] at this
  lia
 refine call_len_set (s:={ f with heap:=p,toks:=tk }) i ⟨rfl,rfl,rfl⟩ rfl n (by lia) ?_;rw [m];exact ⟨.int ((ns.foldl dc []).length:Nat),H1,(I1.kept (t':=tk + 1 + 1) k),⟨_,rfl⟩,q⟩
end
variable {tl:TE} {σ:L2.St}
def nZ (p:Nat->Bool) (R:Nat->V->Hp->Prop) (hR :∀i y H H',Same H H'->R i y H->R i y H') (htl :∀R:VK,R (.ref a) H1->tl σ H R) (hq:av K H1 a xs) (hn:xs.length<=ZG)
  (body :∀i,i < xs.length->∀v H,Same H1 H->xs[i]? = some v->∀(KT:VK) (KF:Hp->Prop),(p i=true->∀y H',Same H H'->R i y H'->KT y H')->(p i=false->∀H',Same H H'->KF H')->
   g v (aE σ fr (A1 m none)) H λ σ6 H6=>∃us,us.length=m/\σ6=aE σ fr us/\tc (aE σ fr us) H6 λ b H2=>if b=true then te (aE σ fr us) H2 KT else KF H2)
  (hQ :∀l H' ys,Same H1 H'->H' l=none->af (λ i y=>R i y H') ((N0 xs.length).filter p) ys->Q (.ref l) (upd H' l (.lst ys))):cu (h_ K tl) m fr g tc te σ H Q:=
 htl _ ⟨a,rfl,⟨xs,hq⟩,mB (Same.refl _) (λ _ _ _ a b=>a.trans b) p R hR (yV (S:=Same) (λ _ _=>Same.refl _) λ H s=>s.seq hq) hn body hQ⟩
def DJ {ta:TA} (p:Nat->Bool) (R:Nat->V->Hp->Prop) (hR :∀i y H H',Same H H'->R i y H->R i y H') (hta :∀T:List V->Hp->Prop,T [.ref a] H1->ta σ H T) (hq:av K H1 a xs) (hn:xs.length<=ZG)
  (body :∀i,i < xs.length->∀v H,Same H1 H->(∃x p,xs[i]? = some x/\v=.ref p/\H p=some (.tup [.int (i:Nat),x]))->∀(KT:VK) (KF:Hp->Prop),(p i=true->∀y H',Same H H'->R i y H'->KT y H')->(p i=false->∀H',Same H H'->KF H')->
   g v (aE σ fr (A1 m none)) H λ σ6 H6=>∃us,us.length=m/\σ6=aE σ fr us/\tc (aE σ fr us) H6 λ b H2=>if b=true then te (aE σ fr us) H2 KT else KF H2)
  (hQ :∀l H' ys,Same H1 H'->H' l=none->af (λ i y=>R i y H') ((N0 xs.length).filter p) ys->Q (.ref l) (upd H' l (.lst ys))):cu (Ad K ta) m fr g tc te σ H Q:=
 hta _ ⟨a,xs,rfl,hq,mB (Same.refl _) (λ _ _ _ a b=>a.trans b) p R hR (Je hq) hn body hQ⟩
def zY (Pr:ZS->List V->Hp->Prop) (htl :∀R:VK,(∀a xs H1,Pr a xs H1->R (.ref a) H1)->tl σ H R) (hq :∀a xs H1,Pr a xs H1->av K H1 a xs/\xs.length<=ZG)
  (p:Nat->Bool) (R:Nat->V->Hp->Prop) (hR :∀i y H H',Same H H'->R i y H->R i y H')
  (body :∀a xs H1,Pr a xs H1->∀i,i < xs.length->∀v H,Same H1 H->xs[i]? = some v->∀(KT:VK) (KF:Hp->Prop),(p i=true->∀y H',Same H H'->R i y H'->KT y H')->(p i=false->∀H',Same H H'->KF H')->
   g v (aE σ fr (A1 m none)) H λ σ6 H6=>∃us,us.length=m/\σ6=aE σ fr us/\tc (aE σ fr us) H6 λ b H2=>if b=true then te (aE σ fr us) H2 KT else KF H2)
  (hQ :∀a xs H1,Pr a xs H1->∀l H' ys,Same H1 H'->H' l=none->af (λ i y=>R i y H') ((N0 xs.length).filter p) ys->Q (.ref l) (upd H' l (.lst ys))):cu (h_ K tl) m fr g tc te σ H Q:=
 htl _ λ a xs H1 c=>⟨a,rfl,⟨xs,(hq a xs H1 c).1⟩,mB (Same.refl _) (λ _ _ _ a b=>a.trans b) p R hR (yV (S:=Same) (λ _ _=>Same.refl _) λ H s=>s.seq (hq a xs H1 c).1) (hq a xs H1 c).2 (body a xs H1 c) (hQ a xs H1 c)⟩
def GP (p:Nat->Bool) (R:Nat->V->Hp->Prop) (hR :∀i y H H',Same H H'->R i y H->R i y H') (htl :∀R:VK,R (.ref a) H1->tl σ H R) (hq:aG K H1 a xs) (hn:xs.length<=ZG)
  (body :∀i,i < xs.length->∀v H,Same H1 H->xs[i]? = some v->∀(KT:VK) (KF:Hp->Prop),(p i=true->∀y H',Same H H'->R i y H'->KT y H')->(p i=false->∀H',Same H H'->KF H')->
   g v (aE σ fr (A1 m none)) H λ σ6 H6=>∃us,us.length=m/\σ6=aE σ fr us/\tc (aE σ fr us) H6 λ b H2=>if b=true then te (aE σ fr us) H2 KT else KF H2)
  (hQ :∀l H' ys,Same H1 H'->H' l=none->af (λ i y=>R i y H') ((N0 xs.length).filter p) ys->Q (.ref l) (upd H' l (.lst ys))):cu (qL K tl) m fr g tc te σ H Q:=
 htl _ ⟨a,rfl,⟨xs,hq⟩,mB (Same.refl _) (λ _ _ _ a b=>a.trans b) p R hR (KC (S:=Same) (λ _ _=>Same.refl _) λ H s=>s.seqT hq) hn body hQ⟩
def eB {f:List V->Hp->VK->Prop} (h:te σ H λ x H1=>f [x] H1 Q):sZ f (fX te ig) σ H Q:=h
def uG {r:R2} {ta tb:TE} (h:ta σ H λ x H1=>tb σ H1 λ y H2=>r x y H2 Q):oj r ta tb σ H Q:=h
def mU (h:te σ H λ x H1=>∃(a:ZS) (ns:List Int),x=.ref a/\av K H1 a (ns.map V.int)/\ns.length < 100/\Q (.int ((ns.foldl dc []).length:Nat)) H1):md K te σ H Q:=h
def gc {t u:TT} {Q:Bool->Hp->Prop} (h:t σ H λ c H1=>if c=true then Q true H1 else u σ H1 Q):yD t u σ H Q:=h
def cC {c:TT} {a b rest:TS} (h:c σ H λ k H1=>if k=true then a { D with nx:=rest D } σ H1 else b { D with nx:=rest D } σ H1):ir (kY c a b) rest D σ H:=h
def cc (h:te σ H D.rt):nP te D σ H:=h
variable {kvs:List (Key×V)} {ob:ZQ}
section
variable {pins:List (ZS×ZQ)} {σ:St} {u v:HO}
def Inv.retold (I:Inv X pins σ H s) (e:H a=some u) (nt :∀xs,u≠.tup xs) (nb :∀ps,u≠.tbl ps) (no :∀c,u≠.own c) (nf :∀o w,X.H₀ a≠some (.frz o w)) (ok:aY X.prog X.w (upd H a v) s.heap a v):Inv X pins σ (upd H a v) s:=by
 have ne :∀{b:ZS},H b=none->b≠a:=λ n z=>by rw [z,e] at n;cases n
 refine ⟨I.ok,I.os,I.bare,⟨I.base.keep,I.base.slot,λ b o q n i=>?_,I.base.there,λ b xs q=>?_,λ b o w q=>?_,λ b ps q=>?_⟩,I.loc,I.cell,?_,λ x c q=>?_,λ p g=>?_,λ b o q=>?_,I.len⟩
 ·have z:=I.base.free b o q n i;rw [ae (ne z)];exact z
 ·have z:=I.base.tups b xs q;rw [ae (λ y=>by rw [y,e] at z;exact nt xs (G1 z))];exact z
 ·have z:=I.base.frzs b o w q;rw [ae (λ y=>by rw [y] at q;exact nf o w q)];exact z
 ·obtain ⟨more,z⟩:=I.base.tbls b ps q;exact ⟨more,by rw [ae (λ y=>by rw [y,e] at z;exact nb _ (G1 z))];exact z⟩
 ·rw [ae (ne I.free)];exact I.free
 ·rw [ae (ne (I.freeC x c q))];exact I.freeC x c q
 ·obtain ⟨f,d,h⟩:=I.pin p g;exact ⟨f,by rw [ae (ne d)];exact d,h⟩
 ·by_cases z:b=a
  ·subst z;rw [aB] at q;cases q;exact ok
  ·rw [ae z] at q;refine (I.hok b o q).stay (λ _ _ _ y=>y) (λ c y=>?_) λ c xs y=>?_
   ·rw [ae (λ x=>by rw [x,e] at y;exact no b (G1 y))];exact y
   ·rw [ae (λ x=>by rw [x,e] at y;exact nt xs (G1 y))];exact y
def Inv.noFrz (I:Inv X pins σ H s) (e:H a=some (.dK kvs)) :∀o w,X.H₀ a≠some (.frz o w):=λ o w q=>by have z:=I.base.frzs a o w q;rw [e] at z;cases z
def Inv.freeze (I:Inv X pins σ H s) (e:H a=some (.dK kvs)) (ho:s.heap.get? a=some ob):Inv X pins σ (upd H a (.frz ob (.dK kvs))) s:=
 I.retold e (λ _ z=>by cases z) (λ _ z=>by cases z) (λ _ z=>by cases z) (I.noFrz e) ⟨ho,(show aY X.prog X.w H s.heap a (.dK kvs) from I.hok a _ e)⟩
def Inv.thaw (I:Inv X pins σ H s) (nf :∀o w,X.H₀ a≠some (.frz o w)) (e:H a=some (.frz ob (.dK kvs))):Inv X pins σ (upd H a (.dK kvs)) s:=
 I.retold e (λ _ z=>by cases z) (λ _ z=>by cases z) (λ _ z=>by cases z) nf (show aY X.prog X.w H s.heap a (.frz ob (.dK kvs)) from I.hok a _ e).2
end
theorem tu {α β:Type} {F:α->β->Prop} :∀{l:List α} {m:List β} {i:Nat} {x:α},j4f F l m->l[i]? = some x->∃y,m[i]? = some y/\F x y
 | _,_,i,x,.nil,e=>by simp at e
 | _,_,0,x,.cons a _,e=>by rw [B4] at e;cases e;exact ⟨_,B4,a⟩
 | _,_,i + 1,x,.cons _ r,e=>by rw [X2] at e;obtain ⟨y,c,b⟩:=tu r e;exact ⟨y,by rw [X2];exact c,b⟩
def gA {pins:List (ZS×ZQ)} {σ:St} {es:Array ZI} {ep:Nat} (I:Inv X pins σ H s) (hob:ob.data=.dict es ep) (e:H a=some (.frz ob (.dK kvs))) :
  ∃vs,KV kvs vs/\vs.length=kvs.length/\s.heap.DictAt (eJ X.prog X.w) a vs ep:=by
 obtain ⟨g,_,_,vs,b,h⟩:=(show aY X.prog X.w H s.heap a (.frz ob (.dK kvs)) from I.hok a _ e)
 obtain ⟨j,f⟩:=h.dictAt;refine ⟨vs,b,b.length.symm,?_⟩;obtain ⟨o,i,c,l,d,k⟩:=id f;rw [g] at c;cases c;rw [hob] at d;cases d;exact f
section
def kD (t:TE):TE:=λ σ H Q=>∃a kvs,H a=some (.dK kvs)/\t σ H λ v H4=>(∃ob,H4 a=some (.frz ob (.dK kvs)))/\Q v (upd H4 a (.dK kvs))
def wt {t:TE} (h:PE X e t):PE X e (kD t):=by intro b s σ H Q I ⟨a,kvs,ea,q⟩;refine br (h b s σ H _ I q) λ u c ⟨v,H4,I4,r4,⟨ob,e4⟩,q4⟩=>?_;exact ⟨v,_,I4.thaw (I.noFrz ea) e4,r4,q4⟩
def qf (t:TS):TS:=λ D σ H=>∃a kvs,H a=some (.dK kvs)/\t { D with nx:=λ σ' H4=>(∃ob,H4 a=some (.frz ob (.dK kvs)))/\D.nx σ' (upd H4 a (.dK kvs)) } σ H
def Kj {st:ZM} {t:TS} (h:PS X st t):PS X st (qf t):=by
 intro e s σ H D I ⟨a,kvs,ea,q⟩;refine br (h e s σ H _ I q) λ f i z=>?_;cases f with
 | next=>obtain ⟨d,k,g,⟨j,b⟩,c⟩:=z;exact ⟨d,_,g.thaw (I.noFrz ea) b,c⟩
 | brk=>exact z
 | cont=>exact z
 | ret u=>exact z
end
noncomputable def fP {α:Type} (c:Nat->Nat->Bool) (n:Nat):V8 α->Option α
 | .ret a=>some a
 | .ask i j k=>if i < n/\j < n/\i≠j then fP c n (k (c i j)) else none
theorem Ak {α:Type} {c:Nat->Nat->Bool} {n:Nat} {cmp:Nat->Nat->(Bool->I0->Prop)->I0->Prop} {Q:α->I0->Prop} (hc :∀i j C,i < n->j < n->i≠j->C (c i j) s->cmp i j C s) :∀(t:V8 α) (a:α),fP c n t=some a->Q a s->t.kasWp cmp Q s
 | .ret b,a,h,q=>by cases h;exact q
 | .ask i j k,a,h,q=>by
  unfold fP at h;by_cases z:i < n/\j < n/\i≠j
  ·rw [ZZ z] at h;exact hc i j _ z.1 z.2.1 z.2.2 (Ak hc (k (c i j)) a h q)
  ·rw [Z_ z] at h;cases h
noncomputable def jf (a b:ZR):Bool:=decide (a.cps.toList < b.cps.toList)
def GQ {a b c:ZR} (h:jf a b=true) (k:jf b c=true):jf a c=true:=ZY (List.lt_trans (ZW h) (ZW k))
def yf {a b:ZR} (h:jf a b=false) (k:jf b a=false):a=b:=by have e:a.cps.toList=b.cps.toList:=List.le_antisymm (List.not_lt.mp (ZV k)) (List.not_lt.mp (ZV h));cases a;cases b;congr;exact Array.toList_inj.mp e
noncomputable def we (x:ZR):It:=⟨λ i _=>i < x.cps.size,λ i H v H'=>H'=H/\∃c,x.cps[i]? = some c/\v=.str ⟨#[c]⟩,λ i _=>x.cps.size<=i⟩
variable {x:ZR}
def Kg {P:ZK} {tg:ZO} {it:ZS} {t:Tok}:Turn P w K tg (we x) [it] it (λ i h=>h.IsStrIter it "str_ascii_iterator" x t i) where
 mem:=by simp
 obj:=λ i h a b f=>by
  obtain rfl:b=it:=by simpa using f
  obtain ⟨o,e,c,d⟩:=a;exact ⟨o,e,λ v z=>by rw [d] at z;cases z⟩
 keep:=λ i h j a k=>by obtain ⟨o,e,r⟩:=a;exact ⟨o,k it (by simp) o e,r⟩
 item:=by intro X A u l F i D s σ H E I g a n;subst A u l;obtain ⟨p,B,M,q,y,m⟩:=g it (by simp);have G:x.cps[i]? = some x.cps[i]:=T1 n;refine wpAny_pyNext_ascii_item a G λ j C N=>?_;have J:Inv X D σ H { s with heap:=j,toks:=s.toks + 1 }:=I.turned (t':=s.toks + 1) (λ b o f e=>(N.2 b f).trans e) p B q y m;obtain ⟨o,e,c,d⟩:=id C;exact ⟨_,rfl,ic (s:={ s with heap:=j,toks:=s.toks + 1 }) e c d (by decide) ⟨.str ⟨#[x.cps[i]]⟩,H,J,⟨_,rfl⟩,⟨rfl,_,G,rfl⟩,C,λ b f=>(g b f).1⟩⟩
 done:=by intro X A u l F i D s σ H E I g a n;subst A u l;obtain ⟨p,B,M,q,y,m⟩:=g it (by simp);exact wpAny_pyNext_ascii_end (I.ok.hd F) a (L4 n) λ j L=>⟨rfl,I.turned (t':=s.toks) (λ b o f e=>L b o f e) p B q y m⟩
 self:=λ _ _ _ _ _ a h=>wpAny_pyIter_striter_ascii a h
def qv (tl:TE):TI:=λ σ H R=>tl σ H λ v H1=>∃x:ZR,v=.str x/\x.cps.all (· < 128)=true/\R (we x) H1
def oM {tg l:ZO} (hl:PE X l tl):PI X tg l (qv tl):=by
 intro c s σ H R I h;refine br (hl c s σ H _ I h) λ v a ⟨y,H1,I1,r1,x,e,ha,q⟩=>?_;subst e;obtain ⟨t,rfl⟩:=r1;refine wpAny_pyIter_ascii ha ?_;refine ⟨a.heap.objs.size,[a.heap.objs.size],_,_,H1,rfl,I1.kept (t':=a.toks) λ b o e=>G0 _ e,Kg,⟨_,U0 _ rfl,rfl,rfl⟩,λ b d=>?_,q⟩;obtain rfl:b=a.heap.objs.size:=by simpa using d
 exact I1.fpOk (L0 _) (I1.hok.fresh (L0 _))
def IU:fv Same (we x) H1 x.cps.size (λ i v _=>∃c,x.cps[i]? = some c/\v=.str ⟨#[c]⟩):=
 ⟨λ i a H s=>a,λ H s=>L0 _,λ i a H v b s y=>by obtain ⟨e,y⟩:=y;subst e;exact ⟨Same.refl _,y⟩⟩
def nG (p:Nat->Bool) (R:Nat->V->Hp->Prop) (hR :∀i y H H',Same H H'->R i y H->R i y H') (htl :∀R:VK,R (.str x) H1->tl σ H R) (ha:x.cps.all (· < 128)=true) (hn:x.cps.size<=ZG)
  (body :∀i,i < x.cps.size->∀v H,Same H1 H->(∃c,x.cps[i]? = some c/\v=.str ⟨#[c]⟩)->∀(KT:VK) (KF:Hp->Prop),(p i=true->∀y H',Same H H'->R i y H'->KT y H')->(p i=false->∀H',Same H H'->KF H')->
   g v (aE σ fr (A1 m none)) H λ σ6 H6=>∃us,us.length=m/\σ6=aE σ fr us/\tc (aE σ fr us) H6 λ b H2=>if b=true then te (aE σ fr us) H2 KT else KF H2)
  (hQ :∀l H' ys,Same H1 H'->H' l=none->af (λ i y=>R i y H') ((N0 x.cps.size).filter p) ys->Q (.ref l) (upd H' l (.lst ys))):cu (qv tl) m fr g tc te σ H Q:=
 htl _ ⟨x,rfl,ha,mB (Same.refl _) (λ _ _ _ a b=>a.trans b) p R hR IU hn body hQ⟩
def gO {Q:Bool->Hp->Prop} (h:te σ H λ x H1=>∃c,x=.bl c/\Q (!c) H1):rX (tB te) σ H Q:=h
variable {apos cpos:ZP} {es:List ZO} {to:TE}
section
theorem Am:∀{ss:List ZR} {us:List ZH},aD (ss.map V.str) us->j73 us ss
 | [],_,.nil=>.nil
 | z :: ss,_,.cons r1 r2=>by obtain ⟨t,rfl⟩:=r1;exact .cons z t (Am r2)
def rJoin:V->List V->Hp->VK->Prop:=λ x vs H Q=>∃(z:ZR) (l:ZS) (ss:List ZR),x=.str z/\vs=[.ref l]/\H l=some (.lst (ss.map V.str))/\(ss.map (·.length)).sum + ss.length * z.length<=16777216/\Q (.str (Txt.join z ss)) H
def Lb:lZ X "str.join" rJoin:=by intro m s σ H x o v j Q I d f h;obtain ⟨z,l,p,rfl,rfl,i,g,q⟩:=h;obtain ⟨t,rfl⟩:=d;obtain ⟨u,rfl,a⟩:=f.one;cases a;obtain ⟨w,b,n,r,y,e⟩:=I.lstM i;exact join_list (items:=b.toArray) ⟨_,e,rfl,n,rfl⟩ (by simpa using Am r) g (λ c k=>⟨.str _,H,I.tok k,⟨c,rfl⟩,q⟩)
def JT {o:ZO} {t:TA} (ho:PE X o to) (ha:PA X (e :: es) t)
  (hbase:F5 o "join" X.env (T4 o X.env)=T4 o X.env:=by rfl)
  (hfew:((r6 cpos (A2 (e :: es) X.env)).all (λ x=>!x.1) && (b9 cpos (P6 [] X.env)).all (λ x=>x.1.isSome) && decide ((e :: es).length + ([]:List d6).length + (if ([]:List d6).isEmpty then 0 else 1) < 30))=true:=by rfl)
  (hline:(apos.endLine == cpos.line)=true:=by rfl) (hs:A2 (e :: es) X.env=(false,T4 e X.env) :: A2 es X.env:=by rfl) (hplain:(r6 cpos (A2 es X.env)).any (·.1)=false:=by rfl) :
  PE X (.Call (.Attribute o "join" apos) (e :: es) [] cpos) (kW X.K "str" rJoin to t):=fA j82 F.slot_str_join F.type_str_join Lb ho ha hbase hfew hline hs hplain
end
section
def zE {ns:List Int} :∀{us:List ZH},aD (ns.map V.int) us->∀(j:Nat) (u:ZH),us[j]? = some u->∃y t,ns[j]? = some y/\u=P8 y t:=by
 induction ns with
 | nil=>intro us r j u e;rw [j28] at r;cases r;simp at e
 | cons n ns ih=>
  intro us r j u e;rw [O0] at r;cases r with
  | cons r1 r2=>
   obtain ⟨t,rfl⟩:=r1;cases j with
   | zero=>rw [B4] at e;cases e;exact ⟨n,t,rfl,rfl⟩
   | succ j=>rw [X2] at e;exact ih r2 j u e
theorem Ae {α β:Type} (f:α->β) :∀(xs:List α) (j:Nat),(xs.map f).eraseIdx j=(xs.eraseIdx j).map f
 | [],_=>rfl
 | _ :: _,0=>rfl
 | x :: xs,j + 1=>ZT (f x :: ·) (Ae f xs j)
theorem wK:∀{ns:List Int} {k:Int},k∈ns->∃j,ns[j]? = some k/\(∀m,m < j->ns[m]?≠some k)/\ns.eraseIdx j=ns.erase k
 | n :: ns,k,h=>by
  by_cases z:n=k
  ·exact ⟨0,by rw [z];rfl,λ m a=>ZU a (Z2 _),by rw [z,j36];rfl⟩
  ·obtain ⟨j,b,d,c⟩:=wK (List.mem_of_ne_of_mem (W5 z) h);refine ⟨j + 1,b,λ m a=>?_,?_⟩
   ·cases m with
    | zero=>exact λ e=>z (G1 e)
    | succ m=>exact d m (Nat.lt_of_succ_lt_succ a)
   ·rw [j35 (by simpa using z),<-c];rfl
def Cn:V->List V->Hp->VK->Prop:=λ x vs H Q=>∃(l:ZS) (ns:List Int) (k:Int),x=.ref l/\vs=[.int k]/\H l=some (.lst (ns.map V.int))/\k∈ns/\Q .non (upd H l (.lst ((ns.erase k).map V.int)))
theorem GC:lZ X "list.remove" Cn:=by
 intro O s σ H x P v N Q I K M h;obtain ⟨l,f,k,rfl,rfl,B,J,q⟩:=h;cases K;obtain ⟨u,rfl,C⟩:=M.one;obtain ⟨t,rfl⟩:=C;obtain ⟨j,w,i,D⟩:=wK J;obtain ⟨z,b,n,r,R,e⟩:=I.lstM B;have lt:j < b.length:=by rw [<-r.length,q0];exact (List.getElem?_eq_some_iff.mp w).1
 let ev:ZH->Bool:=λ y=>match y with | .int a _=>a == k|_=>false
 have o :∀m (i:m < b.toArray.size),∃y c,f[m]? = some y/\b.toArray[m]=P8 y c:=λ m i=>zE r m _ ((C0 (show m < b.length by simpa using i)).trans (by simp));refine u9 F.slot_list_remove ⟨_,e,rfl⟩ F.entry_list_remove (F.args_list_remove_2 _ _) (MeetsSeq.list_remove l b.toArray n (.int k t) ev (λ y E=>?_) j (by simpa using lt) ?_ ?_ (by rw [Q0];lia)) ⟨e,?_⟩
 ·obtain ⟨m,p,A⟩:=Array.mem_iff_getElem.mp E;obtain ⟨G,c,d,g⟩:=o m p;rw [g] at A;subst A;exact MeetsSeq.EqGives.int G k c t
 ·obtain ⟨y,c,d,g⟩:=o j (by simpa using lt);rw [g];rw [w] at d;cases d;exact beq_self_eq_true k
 ·intro m p L;obtain ⟨y,c,d,g⟩:=o m p;rw [g];refine beq_eq_false_iff_ne.mpr λ e=>i m L ?_;rw [d,e]
 ·refine ⟨.non,_,I.lset (its':=b.eraseIdx j) (ys:=(f.erase k).map V.int) B e ?_ ?_ ?_,rfl,q⟩
  ·show b.toArray.eraseIdxIfInBounds j=(b.eraseIdx j).toArray;rw [j59]
  ·have z:=r.eraseIdx j;rw [show (f.map V.int).eraseIdx j=(f.erase k).map V.int by rw [<-D,Ae]] at z;exact z
  ·have:=List.length_erase_le (a:=k) (l:=f);rw [q0] at z⊢
   lia
def DP {o:ZO} {t:TA} (ho:PE X o to) (ha:PA X (e :: es) t)
  (hbase:F5 o "remove" X.env (T4 o X.env)=T4 o X.env:=by rfl)
  (hfew:((r6 cpos (A2 (e :: es) X.env)).all (λ x=>!x.1) && (b9 cpos (P6 [] X.env)).all (λ x=>x.1.isSome) && decide ((e :: es).length + ([]:List d6).length + (if ([]:List d6).isEmpty then 0 else 1) < 30))=true:=by rfl)
  (hline:(apos.endLine == cpos.line)=true:=by rfl) (hs:A2 (e :: es) X.env=(false,T4 e X.env) :: A2 es X.env:=by rfl) (hplain:(r6 cpos (A2 es X.env)).any (·.1)=false:=by rfl) :
  PE X (.Call (.Attribute o "remove" apos) (e :: es) [] cpos) (kW X.K "list" Cn to t):=fA m6 PySem.F.slot_list_remove PySem.F.type_list_remove GC ho ha hbase hfew hline hs hplain
end
def Gi {Q:List V->Hp->Prop} (h:te σ H λ y H1=>Q [y] H1):fX te ig σ H Q:=h
section
def rH (K:B0):R2:=λ x y H Q=>∃a b xs,x=.ref a/\y=.ref b/\av K H a xs/\av K H b []/\Q (.bl (decide (xs≠[]))) H
def vS {k:Nat} (hr:cF k X.A):c_ X (O3 .NotEq) (rH X.K):=by
 intro B s σ H x y v u Q I o n h;obtain ⟨a,b,t,rfl,rfl,r,m,q⟩:=h;cases o;cases n;obtain ⟨C,d,c,_⟩:=I.list r;obtain ⟨D,i,f,_⟩:=I.list m;cases i;have g:X.A.units < ZF:=Nat.lt_of_succ_lt (bu hr);have l:=d.length;cases t with
 | nil=>cases d;exact SeqAt.RcNeAt.lists (e:=λ _=>true) c.isList f.isList rfl g (λ j p _=>ZU p (Z2 _)) X.prog X.w _ _ ⟨.bl _,H,I,rfl,q⟩
 | cons z zs=>refine SeqAt.RcNeAt.lists_lengths c.isList f.isList ?_ g X.prog X.w _ _ ⟨.bl _,H,I,rfl,q⟩;rw [Q0,<-l];rfl
end
structure qk (h:ZN) (z T U i j a b:ZS) (n:Nat) (f:ZH):Prop where
 z:IsZip h z T U f
 t:IsPair h T (.ref i) (.ref j)
 u :∃p q,IsPair h U p q
 i:h.IsListIter i a n
 j:h.IsListIter j b n
def dz.zip {z T U i j b:ZS} (D:dz z T U i j a b):ZipApart z T U i j a b:=by obtain ⟨⟨t,m,v,e⟩,⟨o,f,h⟩,⟨k,r⟩,g⟩:=D.ne;obtain ⟨l,x,q,d,u⟩:=D.ofA;obtain ⟨n,w,p,s,c⟩:=D.ofB;exact ⟨t.symm,m.symm,v.symm,e.symm,o,f,h,k,r,g,l,q,d,u,n,p,s,c⟩
noncomputable def jK (K:B0) (a b:ZS):It:=
  ⟨λ i H=>∃xs ys x y,av K H a xs/\av K H b ys/\xs[i]? = some x/\ys[i]? = some y,
   λ i H v H'=>∃p,H p=none/\v=.ref p/\∀xs ys,av K H a xs->av K H b ys->∃x y,xs[i]? = some x/\ys[i]? = some y/\H'=upd H p (.tup [x,y]),
   λ i H=>∃xs ys,av K H a xs/\av K H b ys/\(xs.length<=i\/ys.length<=i)⟩
theorem Jl {P:ZK} {elts:List ZO} {x1:Nat} {pos:ZP} {z T U i j b:ZS} (D:dz z T U i j a b):Turn P w K (.Tuple elts x1 pos) (jK K a b) [z,T,U,i,j] z (λ n h=>qk h z T U i j a b n .none) where
 mem:=by simp
 obj:=λ n h f c g=>by
  simp only [X1,P0,or_false] at g;rcases g with rfl|rfl|rfl|rfl|rfl
  ·exact ⟨_,f.z,λ v z=>by cases (show j1c _=j07 v from z)⟩
  ·exact ⟨_,f.t,λ v z=>by cases (show Data.seq _ _=j07 v from z)⟩
  ·obtain ⟨p,q,e⟩:=f.u;exact ⟨_,e,λ v z=>by cases (show Data.seq _ _=j07 v from z)⟩
  ·obtain ⟨o,e,_,d⟩:=f.i;exact ⟨o,e,λ v z=>by rw [d] at z;cases z⟩
  ·obtain ⟨o,e,_,d⟩:=f.j;exact ⟨o,e,λ v z=>by rw [d] at z;cases z⟩
 keep:=λ n h h' f k=>by obtain ⟨p,q,e⟩:=f.u;obtain ⟨o,l,A⟩:=f.i;obtain ⟨Z,W,J⟩:=f.j;exact ⟨k z (by simp) _ f.z,k T (by simp) _ f.t,⟨p,q,k U (by simp) _ e⟩,⟨o,k i (by simp) _ l,A⟩,⟨Z,k j (by simp) _ W,J⟩⟩
 item:=by
  intro X Y V M g n a2 s σ H E I G f N;subst Y V M;obtain ⟨xs,ys,x,y,C,F,hx,hy⟩:=N;obtain ⟨ia,R,Q,_⟩:=I.list C;obtain ⟨ib,L,S,_⟩:=I.list F;obtain ⟨u,hu,ru⟩:=R.get hx;obtain ⟨v,hv,rv⟩:=L.get hy;obtain ⟨up,uq,O⟩:=f.u;refine wpAny_pyNext_zip_item D.zip f.z f.t O f.i f.j Q.isList S.isList (x:=u) (y:=v) (by simpa using hu) (by simpa using hv) λ h' c1 c2 c3 c4 pr _ B=>?_;have r:qk h' z T U i j a b (n + 1) (F6 s.heap.objs.size):=⟨c1,B _ _ D.zip.TIz D.zip.TITO D.zip.TIi1 D.zip.TIi2 f.t,⟨_,_,c2⟩,c3,c4⟩
  refine ⟨_,rfl,wpAny_letOwnedTupleGo_zip r.z λ h2 z2 m=>?_⟩;have nz:s.heap.objs.size≠z:=J3 (T0 f.z);have k2 :∀c o,c∉[z,T,U,i,j]->s.heap.get? c=some o->h2.get? c=some o:=λ c o g e=>by simp only [X1,P0,or_false,not_or] at g;exact m.extBut _ _ g.1 (B c o g.1 g.2.2.1 g.2.2.2.1 g.2.2.2.2 e)
  have a0:IsPair h2 s.heap.objs.size u v:=m.extBut _ _ nz pr;have fr:H s.heap.objs.size=none:=I.hok.fresh (L0 _);refine ⟨.ref s.heap.objs.size,upd H s.heap.objs.size (.tup [x,y]),I.turnedLaid (t':=s.toks) k2 G (L0 _) ⟨gp,[u,v],.cons ru (.cons rv .nil),⟨_,a0,rfl,_,rfl⟩,_,a0,rfl⟩,rfl,⟨_,fr,rfl,λ a5 a6 a1 a3=>⟨x,y,?_,?_,rfl⟩⟩,?_,λ c g=>?_⟩
  ·rw [I.list_inj a1 C];exact hx
  ·rw [I.list_inj a3 F];exact hy
  ·obtain ⟨⟨zT,zU,zi,zj⟩,_⟩:=D.ne;obtain ⟨p,q,e⟩:=r.u;obtain ⟨o,l,A⟩:=r.i;obtain ⟨Z,W,J⟩:=r.j;exact ⟨z2,m.extBut _ _ zT.symm r.t,⟨p,q,m.extBut _ _ zU.symm e⟩,⟨o,m.extBut _ _ zi.symm l,A⟩,⟨Z,m.extBut _ _ zj.symm W,J⟩⟩
  ·have a4:c < s.heap.objs.size:=by
    simp only [X1,P0,or_false] at g;rcases g with rfl|rfl|rfl|rfl|rfl
    ·exact T0 f.z
    ·exact T0 f.t
    ·obtain ⟨p,q,e⟩:=f.u;exact T0 e
    ·obtain ⟨o,l,A⟩:=f.i;exact T0 l
    ·obtain ⟨o,l,A⟩:=f.j;exact T0 l
   rw [ae (K1 a4)];exact (G c g).1
 done:=by
  intro X Y V M g n a2 s σ H E I G f N;subst Y V M;obtain ⟨xs,ys,C,F,hl⟩:=N;obtain ⟨ia,R,Q,_⟩:=I.list C;obtain ⟨ib,L,S,_⟩:=I.list F;have la:=R.length;have lb:=L.length;obtain ⟨up,uq,O⟩:=f.u;refine wpAny_pyNext_zip_end (I.ok.hd g) D.zip f.z f.t O f.i f.j Q.isList S.isList ?_ λ h' B=>⟨rfl,I.turnedL (t':=s.toks) (λ c o g e=>?_) G⟩
  ·rcases hl with hl|hl
   ·left;simp;lia
   ·right;simp;lia
  ·simp only [X1,P0,or_false,not_or] at g;exact B c o g.1 g.2.2.1 g.2.2.2.1 g.2.2.2.2 e
 self:=λ _ _ _ _ _ f h=>wpAny_pyIter_zip f.z h
section
def zF:V->List V->Hp->VK->Prop:=λ x vs H Q=>∃(l:ZS) (xs:List V) (k:Nat) (y:V),x=.ref l/\vs=[.int (k:Nat),y]/\H l=some (.lst xs)/\k<=xs.length/\xs.length < 1000/\Q .non (upd H l (.lst (xs.take k++y :: xs.drop k)))
theorem Ju:lZ X "list.insert" zF:=by
 intro A s σ H x B v w Q I g m h;obtain ⟨l,b,k,y,rfl,rfl,c,C,D,q⟩:=h;cases g;obtain ⟨u,v,rfl,d,j⟩:=m.two;obtain ⟨t,rfl⟩:=d;obtain ⟨z,a,n,r,E,e⟩:=I.lstM c;have sz:(1000:Nat)<=ZG:=by decide
 generalize hx:(k:Int)=x;have o:j48 x=true:=by unfold j48;rw [Z5];exact ⟨ZY (by lia),ZY (by lia)⟩
 have i:¬(!Builtin.List.listFitsIndex x)=true:=by rw [o];decide
 have p:a.toArray.size<=ZG:=by rw [Q0];lia
 refine u9 F.slot_list_insert ⟨_,e,rfl⟩ F.entry_list_insert (F.args_list_insert_3 _ _ _) (PySem.AutoSeq1.list_insert_list_int_val_1 l a.toArray n x t v i p) ⟨e,?_⟩;refine ⟨.non,_,I.lset (its':=a.take k++v :: a.drop k) (ys:=b.take k++y :: b.drop k) c e ?_ ((r.take k).append (.cons j (r.drop k))) ?_,rfl,q⟩
 ·have f:(if x < 0 then (x + (a.toArray.size:Int)).toNat else min x.toNat a.toArray.size)=k:=by
   rw [Z_ (by lia),Q0,<-hx,Q5]
   lia
  show (a.toArray.extract 0 (if x < 0 then (x + (a.toArray.size:Int)).toNat else min x.toNat a.toArray.size)).push v++a.toArray.extract (if x < 0 then (x + (a.toArray.size:Int)).toNat else min x.toNat a.toArray.size)=_;rw [f];exact PySem.W.kl_ins_eq a k v
 ·rw [F0,W0,Y1,P3]
  lia
def Ib {o:ZO} {t:TA} (ho:PE X o to) (ha:PA X (e :: es) t)
  (hbase:F5 o "insert" X.env (T4 o X.env)=T4 o X.env:=by rfl)
  (hfew:((r6 cpos (A2 (e :: es) X.env)).all (λ x=>!x.1) && (b9 cpos (P6 [] X.env)).all (λ x=>x.1.isSome) && decide ((e :: es).length + ([]:List d6).length + (if ([]:List d6).isEmpty then 0 else 1) < 30))=true:=by rfl)
  (hline:(apos.endLine == cpos.line)=true:=by rfl) (hs:A2 (e :: es) X.env=(false,T4 e X.env) :: A2 es X.env:=by rfl) (hplain:(r6 cpos (A2 es X.env)).any (·.1)=false:=by rfl) :
  PE X (.Call (.Attribute o "insert" apos) (e :: es) [] cpos) (kW X.K "list" zF to t):=fA m6 PySem.F.slot_list_insert PySem.F.type_list_insert Ju ho ha hbase hfew hline hs hplain
end
noncomputable def jl (c:Nat):List (List Nat)->List Nat
 | []=>[]
 | [a]=>a
 | a :: b :: r=>a++c :: jl c (b :: r)
open PySem.NumText
end L2
open PySem PySem.W PyProof.Rows
namespace TJ
noncomputable abbrev jS (es:Array ZI) (ep:Nat):ZQ:={ cls:=.type "dict",data:=.dict es ep }
section
variable {p:ZK} {w:U1} {n₀:Nat} {ann:Option ZH} {code:Code} {q:ZP} {pos:ZP} {F:ZQ->Nat->SharedT} {d:ZS}
structure Lr (n₀:Nat) (d:ZS) (F:ZQ->Nat->SharedT):Prop where
 le:Nat.ble n₀ d=true
 get :∀es ep tk,(F (jS es ep) tk).abs.heap.get? d=some (jS es ep)
 upd :∀es ep tk (e:ZI),({ (F (jS es ep) tk).abs with heap:=(F (jS es ep) tk).abs.heap.update d (Obj.mapDictKeys (·.push e)) }:I0)=(F (jS (es.push e) (ep + 1)) tk).abs
end
def Lg {p q:ZK} {loose:List ZR} {Xt:I0->Bool} {α:Type} {Yf:I0->α} {Ya:U1->α} {N:Nat} {H₀:B2->ZN} {gs₀:Array GenState} {d₀:Drawn} {k₀ m₀:Nat} {ann:Option ZH} {S:U1->f8->I0}
  (opens :∀w:U1,(fencedOpening w9 p w N).map (λ s=>(s.heap,s.gens,s.drawn,s.toks))=some (H₀ w.params,gs₀,d₀,k₀))
  (sizes :∀w:U1,(((H₀ w.params).isNs M4 && gs₀.size == 0),(H₀ w.params).objs.size,(H₀ w.params).nsMap M4 "__annotations__")=(true,m₀,ann))
  (runs :∀(w:U1) (os:f8),∃M,M<=N/\topRun w9 p w m₀ ann M ⟨H₀ w.params,gs₀,d₀,k₀,os⟩ (topStub p)=some (S w os))
  (looks1 :∀(w:U1) (os:f8),(staticsOk (j0d p.main.body) (H₀ w.params) (S w os).heap && namesBound p (S w os).heap && gensDone (S w os) && laidKept (H₀ w.params) (S w os).heap)=true)
  (looks2 :∀(w:U1) (os:f8),openSeen q loose (j0d p.main.body) Xt true (S w os)=openGood q loose) (looks3 :∀(w:U1) (os:f8),Yf (S w os)=Ya w):LeftO p q loose Xt Yf Ya N:=by
 intro w;obtain ⟨⟨h,gs,g,k,os⟩,e,a⟩:=Option.map_eq_some_iff.mp (opens w);simp only [Prod.mk.injEq] at a;obtain ⟨rfl,rfl,rfl,rfl⟩:=a;have z:=sizes w;simp only [Prod.mk.injEq] at z;obtain ⟨f,c,d⟩:=z;obtain ⟨M,b,r⟩:=runs w os;have r:=topRun_mono (N - M) _ _ _ _ r;rw [Nat.add_sub_cancel' b] at r;have t:topFrom w9 p w N ⟨H₀ w.params,gs,g,k,os⟩=some (S w os):=by unfold topFrom;dsimp only;rw [f,c,d,r];show (match (staticsOk (j0d p.main.body) (H₀ w.params) (S w os).heap && namesBound p (S w os).heap && gensDone (S w os) && laidKept (H₀ w.params) (S w os).heap) with|true=>some (S w os)|false=>none)=_;rw [looks1 w os]
 unfold openEnds;rw [e];show (topFrom w9 p w N _).map _=_;rw [t];show some (_,_)=some (_,_);rw [looks2 w os,looks3 w os]
end TJ
open PySem.Spec
namespace L2
noncomputable abbrev fnX (x q:ZR) (s:ZM) (m:ZR) (k c:Nat):ZJ:=U8 x q (qD s) (pA s) (da s) .none .none .none (.str m k) none (.ref c) .none
noncomputable abbrev fY (x q:ZR) (s:ZM):=fnX x q s "law_talejudge_k42_whole_by_all_orders" 488
noncomputable abbrev fO (x q:ZR) (s:ZM) (m:ZR) (k c:Nat):ZQ:=⟨.type "function",none,.func (fnX x q s m k c),#[]⟩
noncomputable abbrev fL (x q:ZR) (s:ZM):=fO x q s "law_talejudge_k42_whole_by_all_orders" 488
noncomputable abbrev cO (x q:ZR) (i l n a j:Nat):ZQ:=
 ⟨.type "code",none,.fields #[.str x i,.str q (i + 1),.str "/claim/cut.py" (i + 2),.int l 0,.int n 0,.int 0 0,.int 0 0,.int 3 0,.ref a,.bool true,.int 181 0,.ref (a + 1),.none,.ref (a + 2),.ref (a + 3),.ref (a + 4),.int j 0,.int l 0,.str "/claim/cut.py" (j + 1)],#[]⟩
noncomputable abbrev cP (x q:ZR) (i l n a j:Nat):ZQ:=
 ⟨.type "code",none,.fields #[.str x i,.str q (i + 1),.str "/claim/cut.py" (i + 2),.int l 0,.int n 0,.int 0 0,.int 0 0,.int 3 0,.ref a,.bool true,.int 181 0,.ref (a + 1),.none,.none,.none,.ref (a + 2),.int j 0,.int l 0,.str "/claim/cut.py" (j + 1)],#[]⟩
noncomputable abbrev kR (P:B2) (x:ZR) (i a:Nat):ZI:=⟨J2 P x,.str x i,.ref a⟩
variable {i:Nat}
section
variable {P:ZK} {w:U1} {K:B0} {mg:ZR->Option ZH} {base:ZN} {x q:ZR} {st:ZM} {f:ZS} {fd:ZJ} {k:Nat} {ps:List ZR} {sp:Sp}
def dD {m:ZR} {c:Nat} (l:K.lookup f=some (fO x q st m i c):=by kernel_rfl) (hc:j2c K (.ref c) q=true:=by kernel_rfl) (hk:c7 K (.ref f)=true:=by kernel_rfl):df K x q st f (fnX x q st m i c):=oK l hc hk
def nN (T:TX K mg) (F:df K x q st f fd) (g:u7 K M4 x=some (some (.ref f))) (b:Binds K fd ps []) (G:gg P w K mg base CX0 k f fd ps sp):vf P w K mg base x ps k sp:=⟨⟨f,fd,G,T.of g,F.kp,b⟩⟩
end
section
variable {p:List ZH->Prop}
theorem iR (h :∀a,p [a]) :∀us:List ZH,us.length=1->p us | [a],_=>h a
theorem iu (h :∀a b,p [a,b]) :∀us:List ZH,us.length=2->p us | [a,b],_=>h a b
theorem fT (h :∀a b c,p [a,b,c]) :∀us:List ZH,us.length=3->p us | [a,b,c],_=>h a b c
theorem su (h :∀a b c d,p [a,b,c,d]) :∀us:List ZH,us.length=4->p us | [a,b,c,d],_=>h a b c d
end
section
variable {X:Cx}
def qW (K:B0):R2:=λ x y H Q=>∃a b xs,x=.ref a/\y=.ref b/\av K H a xs/\av K H b []/\Q (.bl (decide (xs=[]))) H
def zg {k:Nat} (hr:cF k X.A):c_ X (O3 .Eq) (qW X.K):=by
 intro B s σ H x y v u Q I o n h;obtain ⟨a,b,t,rfl,rfl,r,m,q⟩:=h;cases o;cases n;obtain ⟨C,d,c,_⟩:=I.list r;obtain ⟨D,i,f,_⟩:=I.list m;cases i;have g:X.A.units < ZF:=Nat.lt_of_succ_lt (bu hr);have l:=d.length;cases t with
 | nil=>cases d;exact SeqAt.RcAt.lists (e:=λ _=>true) c.isList f.isList rfl g (λ j p _=>ZU p (Z2 _)) X.prog X.w _ _ ⟨.bl _,H,I,rfl,q⟩
 | cons z zs=>refine SeqAt.RcAt.lists_lengths c.isList f.isList ?_ g X.prog X.w _ _ ⟨.bl _,H,I,rfl,q⟩;rw [Q0,<-l];rfl
end
variable {X:Cx}
noncomputable def jk (a:ZS) (ob:ZQ) (kvs:List (Key×V)):It:=
 ⟨λ i H=>H a=some (.frz ob (.dK kvs))/\i < kvs.length,λ i H x H'=>∃p k v,H p=none/\x=.ref p/\kvs[i]? = some (k,v)/\H'=upd H p (.tup [kV k,v]),λ i H=>H a=some (.frz ob (.dK kvs))/\kvs.length<=i⟩
variable {K:B0} {P:ZK} {a it:ZS} {elts:List ZO} {ep x1:Nat} {es:Array ZI} {ob:ZQ} {pos:ZP} {w:U1}
theorem Ep {kvs:List (Key×V)} (hob:ob.data=.dict es ep):Turn P w K (.Tuple elts x1 pos) (jk a ob kvs) [it] it (λ i h=>∃ok ov,v9 h it a i kvs.length ep ok ov) where
 mem:=by simp
 obj:=λ i h d b f=>by
  obtain rfl:b=it:=by simpa using f
  obtain ⟨ok,ov,e⟩:=d;exact ⟨_,e,λ v z=>by cases (show j1c _=j07 v from z)⟩
 keep:=λ i h N d k=>by obtain ⟨ok,ov,e⟩:=d;exact ⟨ok,ov,k it (by simp) _ e⟩
 item:=by
  intro X B y m g i Y s σ H E I l d n;subst B y m;obtain ⟨A,M⟩:=n;obtain ⟨Z,D,j,p⟩:=gA I hob A;have O:kvs[i]? = some kvs[i]:=C0 M;obtain ⟨⟨Q,u⟩,hu,r,S⟩:=tu D O;obtain ⟨ok,ov,d⟩:=d;rw [<-j] at d;have U:it < s.heap.objs.size:=T0 d;have J:s.heap.objs.size≠it:=J3 U;refine wpAny_pyNext_items_item d p hu λ key N a0 a1 R hz T=>?_;refine ⟨_,rfl,j93 a1 λ h2 F L=>?_⟩;have rk:RelV (kV kvs[i].1) key:=by
   have r:kvs[i].1=Q:=r;rw [r];rcases jD a0 with ⟨i,t,q,C⟩|⟨x,t,q,C⟩
   ·rw [q,C];exact ⟨t,rfl⟩
   ·rw [q,C];exact ⟨t,rfl⟩
  have k2 :∀b o,b∉[it]->s.heap.get? b=some o->h2.get? b=some o:=λ b o f z=>by have f:b≠it:=λ z=>f (List.mem_singleton.mpr z);exact (L.2 b f).trans (T b o f z)
  have G:=(L.2 _ J).trans R;have fr:H s.heap.objs.size=none:=I.hok.fresh (L0 _);rw [j] at F;refine ⟨.ref s.heap.objs.size,upd H s.heap.objs.size (.tup [kV kvs[i].1,kvs[i].2]),I.turnedLaid (t':=s.toks) k2 l (L0 _) ⟨gp,[key,u],.cons rk (.cons S .nil),⟨_,G,rfl,_,rfl⟩,_,G,rfl⟩,rfl,⟨_,_,_,fr,rfl,O,rfl⟩,⟨_,_,F⟩,λ c g=>?_⟩;rw [ae (λ (z:c=s.heap.objs.size)=>J (z ▸ List.mem_singleton.mp g))];exact (l c g).1
 done:=by intro X B y m g i Y s σ H E I l d n;subst B y m;obtain ⟨A,M⟩:=n;obtain ⟨Z,D,j,p⟩:=gA I hob A;obtain ⟨f0,f1,f2,f3,f4,f5⟩:=l it (by simp);obtain ⟨ok,ov,d⟩:=d;rw [<-j] at d;exact wpAny_pyNext_items_end (I.ok.hd g) d p (by rw [R3];lia) λ N eb=>⟨rfl,I.turned (t':=s.toks) (λ b o f e=>eb b o f e) f0 f1 f3 f4 f5⟩
 self:=λ _ _ _ _ _ d h=>by obtain ⟨ok,ov,d⟩:=d;exact PySem.W.kcp_self d h
def kZ (td:TE):TI:=λ σ H R=>td σ H λ x H1=>∃a kvs,x=.ref a/\H1 a=some (.dK kvs)/\∀ob,R (jk a ob kvs) (upd H1 a (.frz ob (.dK kvs)))
variable {apos cpos tpos:ZP} {to:TE}
section
variable {X:Cx}
def sD {o:ZO} (ho:PE X o to) (hbase:F5 o "items" X.env (T4 o X.env)=T4 o X.env:=by rfl) (hline:(apos.endLine == cpos.line)=true:=by rfl):PI X (.Tuple elts x1 tpos) (.Call (.Attribute o "items" apos) [] [] cpos) (kZ to):=by
 intro f s σ H R I h;refine wpAny_Call_method0_late hbase hline (br (ho f s σ H _ I h) λ v c ⟨x,H1,I1,r1,a,kvs,ex,ea,q⟩=>?_);subst ex;cases r1;obtain ⟨l,z,D⟩:=fm I1 (.inl ⟨_,.inl ea⟩);obtain ⟨_,_,g,y,n⟩:=fJ I1.hok ea;obtain ⟨A,k⟩:=n.dictAt;obtain ⟨j,p,ho,E,B,_⟩:=id k;refine ⟨"dict","dict.items",d7,G8,j7b,l,z,y6 rfl (k06 ?_)⟩;refine j14 G8 l j74 (j6b _) (meets_dict_items (eJ X.prog X.w) a D) ⟨⟨_,n⟩,?_⟩;have m :∀b o,c.heap.get? b=some o->(c.heap.push { cls:=.type "dict_items",data:=.fields #[.ref a] }).get? b=some o:=λ b o e=>G0 _ e;have d:Inv X f σ (upd H1 a (.frz j (.dK kvs))) { c with heap:=c.heap.push { cls:=.type "dict_items",data:=.fields #[.ref a] } }:=(I1.freeze ea ho).kept (t':=c.toks) m;have i:(c.heap.push { cls:=.type "dict_items",data:=.fields #[.ref a] }).DictAt (eJ X.prog X.w) a g A:=by obtain ⟨o,p,C,r⟩:=k;exact ⟨o,p,m _ _ C,r⟩
 refine wpAny_pyIter_items (s:={ c with heap:=c.heap.push { cls:=.type "dict_items",data:=.fields #[.ref a] } }) ⟨_,U0 _ rfl,rfl,rfl⟩ i ?_;have u:g.length=kvs.length:=y.length.symm;generalize hh2:c.heap.push { cls:=.type "dict_items",data:=.fields #[.ref a] }=h2 at d i;refine ⟨h2.objs.size,[h2.objs.size],_,_,_,rfl,d.kept (t':=c.toks) λ b o e=>G0 _ e,Ep B,⟨_,_,by rw [<-u];exact U0 _ rfl⟩,λ b t=>?_,q j⟩;obtain rfl:b=h2.objs.size:=by simpa using t
 exact d.fpOk (L0 _) (d.hok.fresh (L0 _))
end
variable {D:Ends} {H:Hp} {g:TG} {σ:St}
theorem Bs {kvs:List (Key×V)} {tb:TS} (Pv:Nat->St->Hp->Prop) (h0:Pv 0 σ H) (fr :∀i σ H,Pv i σ H->H a=some (.frz ob (.dK kvs)))
  (hs :∀i k v σ H p,kvs[i]? = some (k,v)->Pv i σ H->H p=none->g (.ref p) σ (upd H p (.tup [kV k,v])) λ σ2 H2=>tb { D with nx:=Pv (i + 1),ct:=Pv (i + 1),bk:=D.nx } σ2 H2) (hd :∀σ H,Pv kvs.length σ H->D.nx σ H) :
  ∃W:Nat->Nat->St->Hp->Prop,(∃m,W 0 m σ H)/\∀i m σ H,W i m σ H->
   ((jk a ob kvs).stop i H/\D.nx σ H)\/((jk a ob kvs).go i H/\∃N:St->Hp->Prop,(∀σ' H',N σ' H'->∃m',m' < m/\W (i + 1) m' σ' H')/\∀x H',(jk a ob kvs).yld i H x H'->g x σ H' λ σ2 H2=>tb { D with nx:=N,ct:=N,bk:=D.nx } σ2 H2):=by
 refine ⟨λ i m σ H=>m=kvs.length - i/\i<=kvs.length/\Pv i σ H,⟨kvs.length,by simp,K2 _,h0⟩,?_⟩;rintro i m σ H ⟨rfl,hi,p⟩;by_cases hlt:i < kvs.length
 ·refine .inr ⟨⟨fr _ _ _ p,hlt⟩,Pv (i + 1),λ σ' H' q=>⟨kvs.length - (i + 1),by lia,rfl,hlt,q⟩,λ x H' y=>?_⟩;obtain ⟨b,k,v,d,rfl,c,rfl⟩:=y;exact hs i k v σ H b c p d
 ·obtain rfl:i=kvs.length:=by lia
  exact .inl ⟨⟨fr _ _ _ p,L0 _⟩,hd σ H p⟩
noncomputable def wB (a:ZS) (ob:ZQ) (kvs:List (Key×V)):It:=
 ⟨λ i H=>H a=some (.frz ob (.dK kvs))/\i < kvs.length,λ i H x H'=>H'=H/\∃k u,kvs[i]? = some (k,u)/\x=kV k,λ i H=>H a=some (.frz ob (.dK kvs))/\kvs.length<=i⟩
theorem H_ {tg:ZO} {kvs:List (Key×V)} (hob:ob.data=.dict es ep):Turn P w K tg (wB a ob kvs) [it] it (λ i h=>h.IsKeyIter it a i kvs.length ep) where
 mem:=by simp
 obj:=λ i h f b g=>by
  obtain rfl:b=it:=by simpa using g
  obtain ⟨o,e,c,d⟩:=f;exact ⟨o,e,λ v z=>by rw [d] at z;cases z⟩
 keep:=λ i h m f k=>by obtain ⟨o,e,r⟩:=f;exact ⟨o,k it (by simp) o e,r⟩
 item:=by
  intro X M G p S i Q s σ H E I l f y;subst M G p;obtain ⟨L,U⟩:=y;obtain ⟨Y,R,j,B⟩:=gA I hob L;obtain ⟨A,O,f2,C,J,q⟩:=l it (by simp);have T:kvs[i]? = some kvs[i]:=C0 U;obtain ⟨⟨W,u⟩,hu,F,ru⟩:=tu R T;rw [<-j] at f;refine wpAny_pyNext_dict_item f B hu λ key m a0 n sb=>?_;have Z:Inv X Q σ H { s with heap:=m }:=I.turned (t':=s.toks) (λ b o g e=>(sb.2 b g).trans e) A O C J q;obtain ⟨o,e,c,d⟩:=id n;rw [j] at n;have rk:L2.RelV (kV kvs[i].1) key:=by
   have F:kvs[i].1=W:=F;rw [F];rcases jD a0 with ⟨i,t,D,N⟩|⟨x,t,D,N⟩
   ·rw [D,N];exact ⟨t,rfl⟩
   ·rw [D,N];exact ⟨t,rfl⟩
  exact ⟨key,rfl,ic (s:={ s with heap:=m }) e c d (by decide) ⟨kV kvs[i].1,H,Z,rk,⟨rfl,kvs[i].1,kvs[i].2,T,rfl⟩,n,λ b g=>(l b g).1⟩⟩
 done:=by intro X M G p S i Q s σ H E I l f y;subst M G p;obtain ⟨L,U⟩:=y;obtain ⟨Y,R,j,B⟩:=gA I hob L;obtain ⟨A,O,f2,C,J,q⟩:=l it (by simp);rw [<-j] at f;exact wpAny_pyNext_dict_end (I.ok.hd S) f B (by rw [R3];lia) λ m eb=>⟨rfl,I.turned (t':=s.toks) (λ b o g e=>eb b o g e) A O C J q⟩
 self:=λ _ _ _ _ _ f h=>wpAny_pyIter_keyiter f h
def l_ (td:TE):TI:=λ σ H R=>td σ H λ x H1=>∃a kvs,x=.ref a/\H1 a=some (.dK kvs)/\∀ob,R (wB a ob kvs) (upd H1 a (.frz ob (.dK kvs)))
def Kr {X:Cx} {tg o:ZO} (ho:PE X o to):PI X tg o (l_ to):=by
 intro f s σ H R I h;refine br (ho f s σ H _ I h) λ v c ⟨x,H1,I1,r1,a,kvs,ex,ea,q⟩=>?_;subst ex;cases r1;obtain ⟨y,u,p⟩:=fm I1 (.inl ⟨_,.inl ea⟩);obtain ⟨_,_,k,m,r⟩:=fJ I1.hok ea;obtain ⟨w,i⟩:=r.dictAt;obtain ⟨g,z,ho,t,n,_⟩:=id i;have d:Inv X f σ (upd H1 a (.frz g (.dK kvs))) c:=I1.freeze ea ho;refine wpAny_pyIter_dict p i ?_;have l:k.length=kvs.length:=m.length.symm;refine ⟨c.heap.objs.size,[c.heap.objs.size],_,_,_,rfl,d.kept (t':=c.toks) λ b o e=>G0 _ e,H_ n,⟨_,U0 _ rfl,rfl,by rw [l];rfl⟩,λ b j=>?_,q g⟩;obtain rfl:b=c.heap.objs.size:=by simpa using j
 exact d.fpOk (L0 _) (d.hok.fresh (L0 _))
def Jr {S:Hp->Hp->Prop} {kvs:List (Key×V)} {H1:Hp} (hs :∀H,S H1 H->S H H) (hq :∀H,S H1 H->H a=some (.frz ob (.dK kvs))):fv S (wB a ob kvs) H1 kvs.length (λ i v _=>∃k u,kvs[i]? = some (k,u)/\v=kV k):=
 ⟨λ i b H s=>⟨hq H s,b⟩,λ H s=>⟨hq H s,L0 _⟩,λ i b H v c s y=>by obtain ⟨e,y⟩:=y;subst e;exact ⟨hs _ s,y⟩⟩
mutual
noncomputable def wI:ZL->Bool
 | .int _=>true
 | .str _=>false
 | .tuple xs=>mD xs
 | .none=>false
 | .bool _=>false
 | .list _=>false
 | .dict _=>false
noncomputable def mD:List ZL->Bool
 | []=>true
 | x :: xs=>wI x && mD xs
end
mutual
noncomputable def qm:ZL->Int
 | .int i=>hashInt i
 | .str _=>0
 | .tuple xs=>reduceHash (P9 (jU xs))
 | .none=>0
 | .bool _=>0
 | .list _=>0
 | .dict _=>0
noncomputable def jU:List ZL->List Int
 | []=>[]
 | x :: xs=>qm x :: jU xs
end
mutual
noncomputable def qb:ZL->Nat
 | .tuple xs=>kE xs + 1
 | .int _=>1
 | .str _=>1
 | .none=>1
 | .bool _=>1
 | .list _=>1
 | .dict _=>1
noncomputable def kE:List ZL->Nat
 | []=>0
 | x :: xs=>qb x + kE xs
end
variable {A:P2} {E:ZH->I0->Prop} {m n:Nat} {prog:ZK} {s:I0}
section
def GY {o:ZQ} {vs:Array ZH} {Q:Bool->I0->Prop} (e:s.heap.get? a=some o) (c:o.cls=.type "tuple") (d:o.data=.seq vs m)
  (h:X0 (P1 prog w) A (j88 vs.toList ((none:Option Bool),()) λ y _=>do
    let b <-eqIsQuiet n y
    if (!b)=true then i5 (j24 (some false,())) else i5 (d5 (none,())))
   (λ r s'=>r.1=none/\Q true s') E s):X0 (P1 prog w) A (eqIsQuiet (n + 1) (.ref a)) Q E s:=by
 rw [eqIsQuiet.eq_2];have ty:s.TypeIs (.ref a) "tuple":=⟨o,e,c⟩
 refine o0 (j3c (r:=some (.builtin "tuple.__eq__")) ty (by rfl) ?_);refine o0 (Z9 (T:="tuple") ty isSubtype_tuple_tuple ?_);simp only [Bool.not_true,j0c,if_false];refine o0 (B9 e d (o0 ?_));show X0 _ _ (j88 vs _ _) _ _ _;rw [<-j09];refine K5 h (λ r s' h=>?_) (λ _ _ h=>h);obtain ⟨g,j⟩:=r;obtain ⟨i,f⟩:=h;cases (show g=none from i);exact A0 f
end
open Classical in
noncomputable instance:DecidableEq ZL:=λ a b=>C8 (a=b)
section
def ki (h:ZN) (d:ZS) (es:Array ZI) (ep:Nat):Prop:=∃o,h.get? d=some o/\o.ExactDict/\o.data=.dict es ep
end
noncomputable def bw {α:Type} (n:Nat):V8 α->(α->Prop)->Prop
 | .ret a,Q=>Q a
 | .ask i j k,Q=>i < n/\j < n/\i≠j/\∀b,bw n (k b) Q
theorem bw.run {α:Type} {Q:α->Prop} (c:Nat->Nat->Bool) :∀{t:V8 α},bw n t Q->∃a,fP c n t=some a/\Q a
 | .ret a,h=>⟨a,rfl,h⟩
 | .ask i j k,⟨h1,h2,h3,h4⟩=>by unfold fP;rw [ZZ ⟨h1,h2,h3⟩];exact (h4 (c i j)).run c
theorem bw.mono {α:Type} {Q R:α->Prop} (f :∀a,Q a->R a) :∀{t:V8 α},bw n t Q->bw n t R
 | .ret a,h=>f a h
 | .ask i j k,⟨h1,h2,h3,h4⟩=>⟨h1,h2,h3,λ b=>(h4 b).mono f⟩
theorem bw.bind {α β:Type} {Q:β->Prop} {f:α->V8 β} :∀{t:V8 α},bw n t (λ a=>bw n (f a) Q)->bw n (t.bind f) Q
 | .ret a,h=>by rw [PySem.W.KasT.bind.eq_def];exact h
 | .ask i j k,⟨h1,h2,h3,h4⟩=>by rw [PySem.W.KasT.bind.eq_def];exact ⟨h1,h2,h3,λ b=>bw.bind (h4 b)⟩
def eS (n:Nat) (p:Array Nat):Prop:=p.toList.Perm (N0 n)
variable {j:Nat} {p:Array Nat}
def Df (h:eS n p):eS n (p.swapIfInBounds i j):=by
 rw [Array.swapIfInBounds_def];split
 ·split
  ·exact (Array.perm_iff_toList_perm.mp (Array.swap_perm _ _)).trans h
  ·exact h
 ·exact h
theorem uK {f:Array Nat->Nat->Array Nat} (hf :∀p k,eS n p->eS n (f p k)) :∀(l:List Nat) (p:Array Nat),eS n p->eS n (l.foldl f p)
 | [],p,h=>h
 | k :: l,p,h=>uK hf l (f p k) (hf p k h)
def fG (h:eS n p):eS n (j56 p i j):=by unfold j56;rw [mirror.eq_def];exact uK (λ _ _ h=>Df h) _ _ h
def Ka (h:eS n p):eS n (bubble p i j):=by rw [bubble.eq_def];exact uK (λ _ _ h=>Df h) _ _ h
def eS.size (h:eS n p):p.size=n:=by
 have:=h.length_eq
 rwa [Q1,B1] at this
def eS.at (h:eS n p) (hi:i < n):p.getD i 0 < n:=by
 have a:i < p.size:=by rw [h.size];exact hi
 rw [j03,T1 a];exact List.mem_range.mp (h.mem_iff.mp (Array.getElem_mem_toList a))
def eS.ne (h:eS n p) (hi:i < n) (hj:j < n) (e:i≠j):p.getD i 0≠p.getD j 0:=by
 have b:i < p.size:=by rw [h.size];exact hi
 have a:j < p.size:=by rw [h.size];exact hj
 have c:p.toList.Nodup:=h.nodup_iff.mpr C6;rw [j03,T1 b,j03,T1 a];intro z;have z:p[i]=p[j]:=z;exact e ((j20 (h₀:=by simpa using b) (h₁:=by simpa using a) c).mp (by simpa using z))
theorem iC (h:eS n p) :∀(f i:Nat),1<=i->i + f<=n->bw n (PySem.W.kas_asc p f i) (λ m=>i<=m/\m<=i + f)
 | 0,i,_,_=>by rw [PySem.W.kas_asc.eq_def];exact ⟨L0 _,L0 _⟩
 | f + 1,i,h1,h2=>by
  rw [PySem.W.kas_asc.eq_def];refine ⟨h.at (by lia),h.at (by lia),h.ne (by lia) (by lia) (by lia),λ b=>?_⟩;cases b with
  | true=>exact ⟨L0 _,by lia⟩
  | false=>exact (iC h f (i + 1) (by lia) (by lia)).mono λ m a=>⟨by lia,by lia⟩
theorem AK (h:eS n p) (h1:1<=m) (h2:m<=n):bw n (PySem.W.kas_tail3 m n p) (λ r=>1<=r.1/\r.1<=n/\eS n r.2):=by rw [PySem.W.kas_tail3.eq_def];exact bw.bind ((iC (fG h) (n - m) m h1 (by lia)).mono λ k a=>⟨by lia,by lia,fG h⟩)
theorem tN:∀(f:Nat) (p:Array Nat) (i q:Nat),eS n p->1<=i->i + f<=n->bw n (j4e f p i q) (λ r=>eS n r.1/\1<=r.2.1/\r.2.1<=n)
 | 0,p,i,q,h,h1,h2=>by rw [PySem.W.kas_desc.eq_def];exact ⟨h,h1,show i<=n by lia⟩
 | f + 1,p,i,q,h,h1,h2=>by
  rw [PySem.W.kas_desc.eq_def];refine ⟨h.at (by lia),h.at (by lia),h.ne (by lia) (by lia) (by lia),λ b=>?_⟩;cases b with
  | true=>
   show bw n (if q > 0 then j4e f (j56 p (i - (q + 1)) i) (i + 1) 0 else j4e f p (i + 1) 0) _;by_cases z:q > 0
   ·rw [ZZ z];exact tN f _ _ _ (fG h) (by lia) (by lia)
   ·rw [Z_ z];exact tN f _ _ _ h (by lia) (by lia)
  | false=>
   refine ⟨h.at (by lia),h.at (by lia),h.ne (by lia) (by lia) (by lia),λ b=>?_⟩;cases b with
   | true=>exact ⟨h,h1,show i<=n by lia⟩
   | false=>exact tN f _ _ _ h (by lia) (by lia)
theorem AW (h:eS n p) (h2:m + 1<=n):bw n (PySem.W.kas_descPart m n p) (λ r=>1<=r.1/\r.1<=n/\eS n r.2):=by
 rw [PySem.W.kas_descPart.eq_def];refine bw.bind ((tN (n - (m + 1)) p (m + 1) 0 h (by lia) (by lia)).mono λ r a=>?_);show bw n (if r.2.2 > 0 then _ else _) _;by_cases z:r.2.2 > 0
 ·rw [ZZ z];exact AK (fG a.1) a.2.1 a.2.2
 ·rw [Z_ z];exact AK a.1 a.2.1 a.2.2
theorem Gw (h:eS n p) (h2:2<=n):bw n (PySem.W.kas_count n p) (λ r=>1<=r.1/\r.1<=n/\eS n r.2):=by
 rw [PySem.W.kas_count.eq_def];refine bw.bind ((iC h (n - 1) 1 (L0 _) (by lia)).mono λ m a=>?_);show bw n (if (m == n)=true then _ else _) _;by_cases z:(m == n)=true
 ·rw [ZZ z];exact ⟨a.1,by lia,h⟩
 ·rw [Z_ z];have c:m≠n:=λ e=>z (by rw [e];exact beq_self_eq_true _);show bw n (if m > 1 then _ else _) _;by_cases y:m > 1
  ·rw [ZZ y];refine ⟨h.at (by lia),h.at (by lia),h.ne (by lia) (by lia) (by lia),λ b=>?_⟩;cases b with
   | true=>exact ⟨a.1,by lia,h⟩
   | false=>exact AW (fG h) (by lia)
  ·rw [Z_ y];exact AW h (by lia)
theorem tV {k:Nat} (h:eS n p) (hk:k < n) :∀(f l r:Nat),r<=k->bw n (PySem.W.kas_place p k f l r) (λ _=>True)
 | 0,l,r,_=>by rw [PySem.W.kas_place.eq_def];exact trivial
 | f + 1,l,r,hr=>by
  rw [PySem.W.kas_place.eq_def];show bw n (if l ≥ r then _ else _) _;by_cases z:l ≥ r
  ·rw [ZZ z];exact trivial
  ·rw [Z_ z];refine ⟨h.at hk,h.at (by lia),h.ne hk (by lia) (by lia),λ b=>?_⟩;cases b with
   | true=>exact tV h hk f l _ (by lia)
   | false=>exact tV h hk f _ r hr
theorem jY:∀(f:Nat) (p:Array Nat) (k:Nat),eS n p->k + f<=n->bw n (PySem.W.kas_bin f p k) (eS n)
 | 0,p,k,h,_=>by rw [PySem.W.kas_bin.eq_def];exact h
 | f + 1,p,k,h,hk=>by rw [PySem.W.kas_bin.eq_def];exact bw.bind ((tV h (by lia) k 0 k (L0 _)).mono λ l _=>jY f _ (k + 1) (Ka h) (by lia))
theorem EH (h2:2<=n):bw n (j16 n) (eS n):=by
 unfold j16;have b:eS n (N0 n).toArray:=Z4 _;refine bw.bind ((Gw b h2).mono λ r a=>?_);show bw n (if r.1 < n then _ else _) _;by_cases z:r.1 < n
 ·rw [ZZ z];exact jY _ _ _ a.2.2 (by have:=a.1;lia)
 ·rw [Z_ z];exact a.2.2
mutual
noncomputable def tZ:ZL->ZL->Option Bool
 | .int i,e=>match e with
  | .int j=>some (decide (i < j))
  | _=>none
 | .tuple xs,e=>match e with
  | .tuple ys=>rf xs ys
  | _=>none
 | .none,_=>none
 | .bool _,_=>none
 | .str _,_=>none
 | .list _,_=>none
 | .dict _,_=>none
noncomputable def rf:List ZL->List ZL->Option Bool
 | [],ys=>some (decide (0 < ys.length))
 | x :: xs,ys=>match ys with
  | []=>some false
  | y :: ys=>if x=y then rf xs ys else tZ x y
end
mutual
noncomputable def cU:ZL->Bool
 | .int _=>true
 | .str z=>(w5 z).canLay0
 | .tuple xs=>cY xs
 | .none=>true
 | .bool _=>false
 | .list _=>false
 | .dict _=>false
noncomputable def cY:List ZL->Bool
 | []=>true
 | x :: xs=>cU x && cY xs
end
mutual
noncomputable def bq (w:U1):ZL->Int
 | .int i=>hashInt i
 | .str z=>hashStr w z
 | .tuple xs=>reduceHash (P9 (fM w xs))
 | .none=>0xFCA86420
 | .bool _=>0
 | .list _=>0
 | .dict _=>0
noncomputable def fM (w:U1):List ZL->List Int
 | []=>[]
 | x :: xs=>bq w x :: fM w xs
end
mutual
noncomputable def fK:ZL->Nat
 | .tuple xs=>fV xs + 1
 | .int _=>1
 | .str _=>1
 | .none=>1
 | .bool _=>1
 | .list _=>1
 | .dict _=>1
noncomputable def fV:List ZL->Nat
 | []=>0
 | x :: xs=>fK x + fV xs
end
mutual
theorem wH {h h':ZN} (k :∀b o vs n,h.get? b=some o->o.cls=.type "tuple"->o.data=.seq vs n->h'.get? b=some o) :∀(d:ZL) (v:ZH) (as:List ZS),cU d=true->j5e h v d as->j5e h' v d as
 | .int i,v,as,_,r=>by cases r;exact .int _ _
 | .str _,_,_,_,r=>by cases r;exact .str _ _
 | .tuple xs,v,as,hk,r=>by
  cases r with
  | tuple e c d r=>exact .tuple (k _ _ _ _ e c d) c d (Ce k xs _ _ hk r)
 | .none,_,_,_,r=>by cases r;exact .none
 | .bool _,_,_,hk,_=>by cases hk
 | .list _,_,_,hk,_=>by cases hk
 | .dict _,_,_,hk,_=>by cases hk
theorem Ce {h h':ZN} (k :∀b o vs n,h.get? b=some o->o.cls=.type "tuple"->o.data=.seq vs n->h'.get? b=some o) :∀(ds:List ZL) (vs:List ZH) (as:List ZS),cY ds=true->j4d h vs ds as->j4d h' vs ds as
 | [],_,_,_,r=>by cases r;exact .nil
 | d :: ds,_,_,c,r=>by
  have c:=Bool.and_eq_true_iff.mp (show (cU d && cY ds)=true from c);cases r with
  | cons a r=>exact .cons (wH k d _ _ c.1 a) (Ce k ds _ _ c.2 r)
end
mutual
theorem qU:∀d:ZL,cU d=true->bg d=true
 | .int _,_=>rfl
 | .str _,h=>h
 | .tuple xs,h=>Bi xs h
 | .none,_=>rfl
 | .bool _,hk=>by cases hk
 | .list _,hk=>by cases hk
 | .dict _,hk=>by cases hk
theorem Bi:∀ds:List ZL,cY ds=true->g_ ds=true
 | [],_=>rfl
 | d :: ds,a=>by have a:=Bool.and_eq_true_iff.mp (show (cU d && cY ds)=true from a);show (bg d && g_ ds)=true;rw [qU d a.1,Bi ds a.2];rfl
end
mutual
theorem pN:∀d:ZL,cU d=true->d.canLay0=true
 | .int _,_=>rfl
 | .str _,h=>h
 | .tuple xs,h=>CF xs h
 | .none,_=>rfl
 | .bool _,hk=>by cases hk
 | .list _,hk=>by cases hk
 | .dict _,hk=>by cases hk
theorem CF:∀ds:List ZL,cY ds=true->j0f ds=true
 | [],_=>rfl
 | d :: ds,a=>by have a:=Bool.and_eq_true_iff.mp (show (cU d && cY ds)=true from a);show (d.canLay0 && j0f ds)=true;rw [pN d a.1,CF ds a.2];rfl
end
section
def HV {Q:Int->I0->Prop} (q:Q 0xFCA86420 { s with toks:=s.toks + 1 }):X0 (P1 prog w) A (pyHash .none) Q E s:=by have ty:s.TypeIs Y2 "NoneType":=rfl;refine W.pyHash_slot (v:=Y2) (T:="NoneType") ty F.slot_NoneType_hash F.entry_NoneType_hash (F.args_NoneType_hash_1 _) rfl (.inl rfl) ?_;have a:slotArgs "__hash__" 0 { pos:=[Y2] }=i5 (Y2,[]):=rfl;unfold O6.«NoneType.__hash__»;refine o0 ?_;rw [a];refine A0 ?_;unfold retInt;exact o0 (wpAny_mkInt (A0 ⟨_,_,rfl,q⟩))
mutual
theorem xu:∀(d:ZL) (v:ZH) (as:List ZS) (A:P2) (s:I0) (Q:Int->I0->Prop),cU d=true->j5e s.heap v d as->A.units + d.depth < ZF->Q (bq w d) { s with toks:=s.toks + fK d }->X0 (P1 prog w) A (pyHash v) Q E s
 | .int i,v,as,A,s,Q,_,r,_,q=>by cases r;exact wpAny_pyHash_int q
 | .str _,_,_,_,_,_,_,r,_,q=>by cases r;exact wpAny_pyHash_str q
 | .tuple xs,v,as,A,s,Q,hk,r,b,q=>by
  cases r with
  | @tuple a o vs n _ _ e c d r=>
   have b:A.units + (Q2 xs + 1) < ZF:=b;have ty:s.TypeIs (.ref a) "tuple":=⟨o,e,c⟩
   refine W.pyHash_slot (v:=.ref a) ty F.slot_tuple_hash F.entry_tuple_hash (F.args_tuple_hash_1 _) rfl (.inr (by lia)) ?_;refine o0 (A0 ?_);refine o0 (wpAny_tupleItemsOf e d ?_);refine o0 ?_;rw [<-j09];refine zJ xs vs.toList _ #[] A.in1 s _ hk r (show A.units + 1 + Q2 xs < ZF by lia) ?_;refine o0 (wpAny_mkInt (A0 ⟨_,_,rfl,?_⟩));simpa [bq,fK,Nat.add_assoc] using q
 | .none,_,_,_,_,_,_,r,_,q=>by cases r;exact HV q
 | .bool _,_,_,_,_,_,hk,_,_,_=>by cases hk
 | .list _,_,_,_,_,_,hk,_,_,_=>by cases hk
 | .dict _,_,_,_,_,_,hk,_,_,_=>by cases hk
theorem zJ:∀(ds:List ZL) (vs:List ZH) (as:List ZS) (hs:Array Int) (A:P2) (s:I0) (Q:Array Int->I0->Prop),cY ds=true->j4d s.heap vs ds as->A.units + Q2 ds < ZF->Q (hs++(fM w ds).toArray) { s with toks:=s.toks + fV ds }->
  X0 (P1 prog w) A (j88 vs hs λ x hs=>do let h <-pyHash x;i5 (d5 (hs.push h))) Q E s
 | [],_,_,hs,A,s,Q,_,r,_,q=>by cases r;rw [d9];exact A0 (by simpa [fM,fV] using q)
 | d :: ds,_,_,hs,A,s,Q,b,r,c,q=>by
  have b:=Bool.and_eq_true_iff.mp (show (cU d && cY ds)=true from b);have c:A.units + max d.depth (Q2 ds) < ZF:=c;cases r with
  | @cons v vs _ _ as bs a r=>rw [N8];refine o0 (o0 (xu d v as A s _ b.1 a (by lia) (A0 ?_)));refine zJ ds vs bs (hs.push (bq w d)) A { s with toks:=s.toks + fK d } Q b.2 r (by lia) ?_;simpa [fM,fV,Nat.add_assoc] using q
end
mutual
theorem sQ:∀(d:ZL) (v:ZH) (as:List ZS) (n:Nat) (A:P2) (s:I0) (Q:Bool->I0->Prop),cU d=true->j5e s.heap v d as->d.depth<=n->Q true s->X0 (P1 prog w) A (eqIsQuiet n v) Q E s
 | .int i,v,as,n,A,s,Q,_,r,_,q=>by cases r;rw [eqIsQuiet.eq_3];exact A0 q;intro a h;cases h
 | .str _,v,as,n,A,s,Q,_,r,_,q=>by cases r;rw [eqIsQuiet.eq_3];exact A0 q;intro a h;cases h
 | .tuple xs,v,as,n,A,s,Q,hk,r,b,q=>by
  cases r with
  | @tuple a o vs m _ _ e c d r=>
   have b:Q2 xs + 1<=n:=b;obtain ⟨n,rfl⟩ :∃k,n=k + 1:=⟨n - 1,by lia⟩
   exact GY e c d (Cr xs vs.toList _ n A s _ hk r (by lia) ⟨rfl,q⟩)
 | .none,v,as,n,A,s,Q,_,r,_,q=>by cases r;rw [eqIsQuiet.eq_3];exact A0 q;intro a h;cases h
 | .bool _,_,_,_,_,_,_,hk,_,_,_=>by cases hk
 | .list _,_,_,_,_,_,_,hk,_,_,_=>by cases hk
 | .dict _,_,_,_,_,_,_,hk,_,_,_=>by cases hk
theorem Cr:∀(ds:List ZL) (vs:List ZH) (as:List ZS) (n:Nat) (A:P2) (s:I0) (Q:Option Bool×Unit->I0->Prop),cY ds=true->j4d s.heap vs ds as->Q2 ds<=n->Q (none,()) s->
  X0 (P1 prog w) A (j88 vs ((none:Option Bool),()) λ y _=>do
    let b <-eqIsQuiet n y
    if (!b)=true then i5 (j24 (some false,())) else i5 (d5 (none,()))) Q E s
 | [],_,_,n,A,s,Q,_,r,_,q=>by cases r;rw [d9];exact A0 q
 | d :: ds,_,_,n,A,s,Q,c,r,e,q=>by
  have c:=Bool.and_eq_true_iff.mp (show (cU d && cY ds)=true from c);have e:max d.depth (Q2 ds)<=n:=e;cases r with
  | @cons v vs _ _ as bs a r=>rw [N8];refine o0 (o0 (sQ d v as n A s _ c.1 a (by lia) ?_));exact A0 (Cr ds vs bs n A s Q c.2 r (by lia) q)
end
end
noncomputable def pS (prog:ZK) (w:U1):HeapKind prog w ZL where
 is h d a:=cU d=true/\d.depth<=7/\∃as,j5e h (.ref a) d as
 hash:=bq w
 draws:=fK
 room A:=A.units + 8 < ZF
 inj:=λ {h a x y} hx hy=>by obtain ⟨kx,_,as,rx⟩:=hx;obtain ⟨_,_,bs,ry⟩:=hy;exact SeqAt.Reads.unique x y _ as bs (pN x kx) rx ry
 keeps:=λ {h h' k a d o es ep} hk e hd sb=>by
  obtain ⟨k1,k2,as,r⟩:=hk;refine ⟨k1,k2,as,wH (λ b o' vs n eb _ eo=>?_) k _ as k1 r⟩;have nb:b≠d:=λ z=>by rw [z,e] at eb;cases eb;rw [hd] at eo;cases eo
  rw [sb.2 b nb];exact eb
 pyHash:=λ {A E s k a Q} hr hk q=>by obtain ⟨k1,k2,as,r⟩:=hk;exact xu k _ as A s Q k1 r (by lia) q
 eqBool:=λ {A E s x y a b Q} hr hx hy q=>by obtain ⟨x1,x2,as,rx⟩:=hx;obtain ⟨y1,y2,bs,ry⟩:=hy;refine SeqAt.eqAt_reads x y A s _ _ as bs rx ry (pN x x1) (pN y y1) (by have:=j75 x.depth y.depth;lia) prog w E Q ?_;rw [pk (p:=x=y) (qU x x1) (qU y y1) Iff.rfl];exact q
 quiet:=λ {A E s k a Q} hk q=>by obtain ⟨k1,k2,as,r⟩:=hk;exact sQ k _ as 8 A s Q k1 r (by lia) q
open PySem.SetTable (bits runEnd leap turns Probe Met)
noncomputable def lM (mask:Nat) (p:Probe):Probe:=if p.more > 0 then { p with j:=p.j + 1,more:=p.more - 1 } else { p with j:=(leap mask p.i p.perturb).1,more:=runEnd mask (leap mask p.i p.perturb).1 - (leap mask p.i p.perturb).1,i:=(leap mask p.i p.perturb).1,perturb:=(leap mask p.i p.perturb).2 }
noncomputable def pq (mask:Nat) (h:Int):Nat->Probe
 | 0=>{ j:=bits h % (mask + 1),more:=runEnd mask (bits h % (mask + 1)) - bits h % (mask + 1),i:=bits h % (mask + 1),perturb:=bits h,dummy:=none }
 | n + 1=>lM mask (pq mask h n)
noncomputable abbrev pJ (mask:Nat) (h:Int) (n:Nat):Nat:=(pq mask h n).j
noncomputable def bl (mask:Nat) (h:Int):Nat->Nat×Nat
 | 0=>(bits h % (mask + 1),bits h)
 | m + 1=>leap mask (bl mask h m).1 (bl mask h m).2
noncomputable abbrev rn (mask i:Nat):Nat:=runEnd mask i - i
noncomputable def bs (mask:Nat) (x:Nat×Nat) (r:Nat):Probe:={ j:=x.1 + r,more:=rn mask x.1 - r,i:=x.1,perturb:=x.2,dummy:=none }
theorem sk (mask i:Nat):rn mask i<=9:=by unfold rn runEnd;split<;>lia
variable {mask:Nat}
theorem kG {r:Nat} (h:i<=mask) (hr:r<=rn mask i):i + r<=mask:=by unfold rn runEnd at hr;split at hr<;>lia
theorem jI (mask:Nat) (h:Int) :∀m,(bl mask h m).1<=mask
 | 0=>b7 (j83 _ (k00 _))
 | _ + 1=>b7 (j83 _ (k00 _))
variable {h:Int}
section
theorem iI (e:pq mask h n=bs mask (bl mask h m) 0) :∀r,r<=rn mask (bl mask h m).1->pq mask h (n + r)=bs mask (bl mask h m) r
 | 0,_=>e
 | r + 1,hr=>by show lM mask (pq mask h (n + r))=_;rw [iI e r (by lia)];unfold lM bs;rw [ZZ (by show rn mask _ - r > 0;lia)];congr 1
theorem yo (e:pq mask h n=bs mask (bl mask h m) 0):pq mask h (n + rn mask (bl mask h m).1 + 1)=bs mask (bl mask h (m + 1)) 0:=by show lM mask (pq mask h (n + rn mask (bl mask h m).1))=_;rw [iI e _ (L0 _)];unfold lM bs;rw [Z_ (by show ¬ rn mask _ - rn mask _ > 0;lia)];congr 1
theorem lX:∀m,∃n,n<=10 * m/\pq mask h n=bs mask (bl mask h m) 0
 | 0=>⟨0,L0 _,rfl⟩
 | m + 1=>by obtain ⟨n,b,a⟩:=lX m;have:=sk mask (bl mask h m).1;exact ⟨_,by lia,yo a⟩
theorem AU:∀m,(bl mask h m).2=bits h / 32 ^ m
 | 0=>(Nat.div_one _).symm
 | m + 1=>by show (bl mask h m).2 / 32=_;rw [AU m,Nat.div_div_eq_div_mul,k02]
theorem El:bits h < 2 ^ 64:=by
 unfold bits;have b:=Z6 h (show (2 ^ 64:Int)≠0 by decide);have a:=c6 h (show (0:Int) < 2 ^ 64 by decide)
 lia
def JJ (m:Nat):(bl mask h (13 + m)).2=0:=by rw [AU,Nat.pow_add];refine Nat.div_eq_of_lt (i3 El ?_);exact M0 (show 2 ^ 64<=32 ^ 13 by decide) (Nat.le_mul_of_pos_right _ (Nat.pow_pos (by decide)))
end
noncomputable def ip (P:Nat):Nat->Nat
 | 0=>0
 | m + 1=>(ip P m * 5 + 1) % P
noncomputable def lI (P:Nat):Nat->Nat->List Nat
 | 0,_=>[]
 | f + 1,i=>i :: lI P f ((i * 5 + 1) % P)
theorem Ct {P:Nat} :∀(f a:Nat),j∈lI P f (ip P a)->∃m,a<=m/\m < a + f/\ip P m=j
 | 0,_,h=>ZU h P0
 | f + 1,a,h=>by
  rcases List.mem_cons.mp h with e|h
  ·exact ⟨a,L0 _,by lia,e.symm⟩
  ·obtain ⟨m,d,c,b⟩:=Ct f (a + 1) h;exact ⟨m,by lia,by lia,b⟩
def lC (mask:Nat):Prop:=mask=7\/mask=31\/mask=127\/mask=511
theorem Ej (hm:lC mask):(∀j,j<=mask->∃m,m<=mask/\ip (mask + 1) m=j)/\ip (mask + 1) (mask + 1)=0:=by
 have key :∀P,(N0 P).all (λ j=>(lI P P 0).contains j)=true->∀j,j < P->∃m,m < P/\ip P m=j:=λ P h j a=>by have:=List.all_eq_true.mp h j (List.mem_range.mpr a);obtain ⟨m,_,b,c⟩:=Ct P 0 (show j∈lI P P (ip P 0) from List.contains_iff_mem.mp this);exact ⟨m,by lia,c⟩
 have d :∀j,j<=mask->∃m,m<=mask/\ip (mask + 1) m=j:=λ j a=>by obtain ⟨m,e,b⟩:=key (mask + 1) (by rcases hm with rfl|rfl|rfl|rfl<;>decide +kernel) j (by lia);exact ⟨m,by lia,b⟩
 exact ⟨d,by rcases hm with rfl|rfl|rfl|rfl<;>decide +kernel⟩
theorem Ba {P:Nat} (h:ip P P=0) :∀m,ip P (m + P)=ip P m
 | 0=>by rw [i8,h];rfl
 | m + 1=>by rw [Nat.add_right_comm];show (ip P (m + P) * 5 + 1) % P=_;rw [Ba h m];rfl
section
theorem iG {a:Nat} (e:(bl mask h 13).1=ip (mask + 1) a) :∀m,(bl mask h (13 + m)).1=ip (mask + 1) (a + m)
 | 0=>e
 | m + 1=>by show ((bl mask h (13 + m)).1 * 5 + 1 + (bl mask h (13 + m)).2 / 32) % (mask + 1)=(ip (mask + 1) (a + m) * 5 + 1) % (mask + 1);rw [iG e m,JJ]
theorem kn (hm:lC mask) (hj:j<=mask) :∃m,m < turns mask/\(bl mask h m).1=j:=by
 obtain ⟨e,f⟩:=Ej hm;obtain ⟨a,g,c⟩:=e _ (jI mask h 13);obtain ⟨b,i,d⟩:=e _ hj;rcases Y3 b a with z|z
 ·refine ⟨13 + (b + (mask + 1) - a),by unfold turns;lia,?_⟩;rw [iG c.symm,show a + (b + (mask + 1) - a)=b + (mask + 1) by lia,Ba f,d]
 ·refine ⟨13 + (b - a),by unfold turns;lia,?_⟩;rw [iG c.symm,show a + (b - a)=b by lia,d]
theorem nv (hm:lC mask) (hj:j<=mask) :∃n,n < 10 * turns mask/\pJ mask h n=j:=by obtain ⟨m,c,b⟩:=kn (h:=h) hm hj;obtain ⟨n,d,a⟩:=lX (mask:=mask) (h:=h) m;refine ⟨n,by lia,?_⟩;show (pq mask h n).j=j;rw [a];exact b
theorem kj:∀n,∃m r,r<=rn mask (bl mask h m).1/\pq mask h n=bs mask (bl mask h m) r
 | 0=>⟨0,0,K2 _,rfl⟩
 | n + 1=>by
  obtain ⟨m,r,b,a⟩:=kj n;rcases Y3 r (rn mask (bl mask h m).1) with z|z
  ·refine ⟨m,r + 1,z,?_⟩;show lM mask (pq mask h n)=_;rw [a];unfold lM bs;rw [ZZ (by show rn mask _ - r > 0;lia)];congr 1
  ·refine ⟨m + 1,0,K2 _,?_⟩;show lM mask (pq mask h n)=_;rw [a];unfold lM bs;rw [Z_ (by show ¬ rn mask _ - r > 0;lia)];congr 1
def my (n:Nat):pJ mask h n<=mask:=by obtain ⟨m,r,b,a⟩:=kj (mask:=mask) (h:=h) n;show (pq mask h n).j<=mask;rw [a];exact kG (jI mask h m) b
def HW (n:Nat):(pq mask h n).dummy=none:=by obtain ⟨m,r,b,a⟩:=kj (mask:=mask) (h:=h) n;rw [a];rfl
end
structure de (t:X3) (hs:List Int):Prop where
 msk:lC t.mask
 ris:gu t.place
 le :∀j∈t.place.toList,j<=t.mask
 dum:t.dummies = #[]
 sz:t.place.size=hs.length
 few:hs.length * 5 < t.mask * 3
 rch :∀x∈hs.zip t.place.toList,∃n,pJ t.mask x.1 n=x.2/\∀n',n' < n->pJ t.mask x.1 n'∈t.place.toList
theorem Jp {xs:Array Nat} (r:gu xs) (e:xs[i]? = some j):F1 xs j=i:=by
 obtain ⟨a,e⟩:=Array.getElem?_eq_some_iff.mp e;obtain ⟨d,c,b⟩:=qM r j;rcases j1e (F1 xs j) i with z|z|z
 ·have:=b _ (m8 z a) (L0 _);have:=r.lt z a
  lia
 ·exact z
 ·have:=c i a z
  lia
variable {N:Nat} {hs:List Int}
section
variable {t:X3} 
def de.live (T:de t hs) (e:t.place[i]? = some j):t.slot j=.live i:=by unfold j68;rw [Jp T.ris e];dsimp only;rw [e,ZZ (beq_self_eq_true _)]
def de.free (T:de t hs) (h:¬ j∈t.place.toList):t.slot j=.empty:=by
 unfold j68;dsimp only;rw [Z_,Z_]
 ·unfold j7a;rw [T.dum];simp
 ·intro e;have e:t.place[F1 t.place j]? = some j:=eq_of_beq e;rw [<-G2] at e;exact h (K0 e)
theorem de.empty (T:de t hs) :∃j,j<=t.mask/\¬ j∈t.place.toList:=by
 refine N2 λ z=>?_;have z :∀j,j<=t.mask->j∈t.place.toList:=λ j a=>N2 λ y=>z ⟨j,a,y⟩;have:(N0 (t.mask + 1)).length<=t.place.toList.length:=by refine (Z8 C6 λ j a=>z j (b7 (List.mem_range.mp a)))
 rw [Q1,B1,T.sz] at this;have:=T.few
 lia
def de.first (T:de t hs) (h:Int) :∃N,N < 10 * turns t.mask/\¬ pJ t.mask h N∈t.place.toList/\∀n,n < N->pJ t.mask h n∈t.place.toList:=by
 obtain ⟨j,f,e⟩:=T.empty;obtain ⟨n,d,c⟩:=nv (h:=h) T.msk f;rw [<-c] at e;clear c;induction n using Nat.strongRecOn with
 | ind n ih=>
  by_cases z :∀b,b < n->pJ t.mask h b∈t.place.toList
  ·exact ⟨n,d,e,z⟩
  ·obtain ⟨b,a⟩:=Classical.not_forall.mp z;obtain ⟨a,g⟩:=Classical.not_imp.mp a;exact ih b a g (m8 a d)
theorem de.go (T:de t hs) {ha:Nat->Int} (e0:¬ pJ t.mask h N∈t.place.toList) (eN :∀n,n < N->pJ t.mask h n∈t.place.toList) :∀(f n:Nat),n<=N->N < n + f->
  (m7 t ha h f (pq t.mask h n)=some (.empty (pJ t.mask h N) none)/\∀n' i,n<=n'->n' < N->t.place[i]? = some (pJ t.mask h n')->ha i≠h)\/
  ∃n1 i,n<=n1/\n1 < N/\t.place[i]? = some (pJ t.mask h n1)/\ha i=h/\m7 t ha h f (pq t.mask h n)=some (.candidate (pJ t.mask h n1) i (pq t.mask h (n1 + 1)))/\∀n' i,n<=n'->n' < n1->t.place[i]? = some (pJ t.mask h n')->ha i≠h
 | 0,n,h1,h2=>ZU h2 (by lia)
 | f + 1,n,h1,h2=>by
  unfold m7;by_cases z:n=N
  ·subst z;rw [T.free e0];dsimp only;rw [HW];exact .inl ⟨rfl,λ n' i a b=>ZU b (by lia)⟩
  ·obtain ⟨i,m,g⟩:=List.mem_iff_getElem.mp (eN n (by lia));have g:t.place[i]? = some (pJ t.mask h n):=by rw [<-G2,C0 m,g]
   have one :∀n' d,t.place[d]? = some (pJ t.mask h n')->n'=n->d=i:=λ n' d e z=>by subst z;have:=T.live e;rw [T.live g] at this;cases this;rfl
   rw [T.live g];dsimp only;by_cases y:ha i=h
   ·rw [ZZ (by rw [y];exact beq_self_eq_true _)];exact .inr ⟨n,i,L0 _,by lia,g,y,rfl,λ n' i a b=>ZU b (by lia)⟩
   ·rw [Z_ (by rw [beq_iff_eq];exact y)];have more :∀{n' d:Nat},n<=n'->t.place[d]? = some (pJ t.mask h n')->(n + 1<=n'->ha d≠h)->ha d≠h:=λ {n' d} a e k=>by
     rcases Y3 n n' with b|b
     ·exact k b
     ·rw [one n' d e (by lia)];exact y
    rcases T.go (ha:=ha) e0 eN f (n + 1) (by lia) (by lia) with ⟨l,j⟩|⟨n1,i1,l,j,g3,g4,g5,g6⟩
    ·exact .inl ⟨l,λ n' d a b c=>more a c λ q=>j n' d q b c⟩
    ·exact .inr ⟨n1,i1,by lia,j,g3,g4,g5,λ n' d a b c=>more a c λ q=>g6 n' d q b c⟩
def de.met (T:de t hs) (e0:¬ pJ t.mask h N∈t.place.toList) (eh:hs[i]? = some h) (ej:t.place[i]? = some j) :∃n,n < N/\pJ t.mask h n=j:=by
 obtain ⟨n,a,b⟩:=T.rch (h,j) (K0 (i:=i) (by rw [j13];exact ⟨eh,by rw [G2];exact ej⟩));refine ⟨n,?_,a⟩;rcases j1e n N with z|z|z
 ·exact z
 ·subst z;have a:pJ t.mask h n=j:=a;rw [a] at e0;exact ZU (K0 (by rw [G2];exact ej)) e0
 ·exact ZU (b N z) e0
def Fu {α β:Type} {l:List α} {m:List β} {p:Nat} {a:α} {b:β} (e:l.length=m.length):(l.take p++a :: l.drop p).zip (m.take p++b :: m.drop p)=(l.zip m).take p++(a,b) :: (l.zip m).drop p:=by rw [List.zip_append (by rw [Y1,Y1,e]),j46];simp only [List.zip_eq_zipWith,List.take_zipWith,List.drop_zipWith]
theorem de.put (T:de t hs) (e0:¬ pJ t.mask h N∈t.place.toList) (eN :∀n,n < N->pJ t.mask h n∈t.place.toList) :
  (t.put (pJ t.mask h N)).2<=hs.length/\(t.put (pJ t.mask h N)).1.mask=t.mask/\(t.put (pJ t.mask h N)).1.place.size=hs.length + 1/\(t.put (pJ t.mask h N)).1.dummies = #[]/\gu (t.put (pJ t.mask h N)).1.place/\(t.put (pJ t.mask h N)).1.led=t.led/\
   (t.put (pJ t.mask h N)).1.moves=t.moves/\((hs.length + 1) * 5 < t.mask * 3->de (t.put (pJ t.mask h N)).1 (hs.take (t.put (pJ t.mask h N)).2++h :: hs.drop (t.put (pJ t.mask h N)).2)):=by
 have g:pJ t.mask h N<=t.mask:=my N;generalize hj:pJ t.mask h N=j at e0 g;have p:F1 t.place j<=t.place.size:=(qM T.ris j).1;have un:¬ t.place[F1 t.place j]? = some j:=λ e=>e0 (K0 (by rw [G2];exact e));have l:(if j7a t.dummies j=true then SetTable.eraseAt t.dummies (F1 t.dummies j) else t.dummies) = #[]:=by rw [Z_,T.dum];unfold j7a;rw [T.dum];simp
 have d:=uy t.place (F1 t.place j) j p;have i:=T.ris.insert un;have sz:=T.sz;have k:(X4 t.place (F1 t.place j) j).size=hs.length + 1:=by
  rw [<-B1,d,F0,W0,Y1,P3,B1]
  lia
 have f :∀x,x∈(X4 t.place (F1 t.place j) j).toList↔x=j\/x∈t.place.toList:=λ x=>by
  rw [d,O4,X1]
  conv=>rhs;rw [<-N6 (F1 t.place j) t.place.toList,O4]
  exact ⟨λ z=>z.elim (λ z=>.inr (.inl z)) λ z=>z.elim .inl λ z=>.inr (.inr z),λ z=>z.elim (λ z=>.inr (.inl z)) λ z=>z.elim .inl λ z=>.inr (.inr z)⟩
 refine ⟨by show F1 t.place j<=_;lia,rfl,k,l,i,rfl,rfl,λ q=>⟨T.msk,i,λ x a=>?_,l,?_,?_,λ x a=>?_⟩⟩
 ·rcases (f x).mp a with rfl|a
  ·exact g
  ·exact T.le x a
 ·show (X4 t.place (F1 t.place j) j).size=_;rw [k,F0,W0,Y1,P3];show _=min (F1 t.place j) hs.length + (hs.length - F1 t.place j + 1)
  lia
 ·rw [F0,W0,Y1,P3];show (min (F1 t.place j) hs.length + (hs.length - F1 t.place j + 1)) * 5 < t.mask * 3
  lia
 ·have a:x∈(hs.take (F1 t.place j)++h :: hs.drop (F1 t.place j)).zip (X4 t.place (F1 t.place j) j).toList:=a;rw [d,Fu (by simpa using sz.symm)] at a;show∃n,pJ t.mask x.1 n=x.2/\∀b,b < n->pJ t.mask x.1 b∈(X4 t.place (F1 t.place j) j).toList;have old:x∈hs.zip t.place.toList->∃n,pJ t.mask x.1 n=x.2/\∀b,b < n->pJ t.mask x.1 b∈(X4 t.place (F1 t.place j) j).toList:=λ a=>by obtain ⟨n,m,o⟩:=T.rch x a;exact ⟨n,m,λ b c=>(f _).mpr (.inr (o b c))⟩
  rcases List.mem_append.mp a with a|a
  ·exact old (J5 a)
  ·rcases List.mem_cons.mp a with rfl|a
   ·exact ⟨N,hj,λ b c=>(f _).mpr (.inr (eN b c))⟩
   ·exact old (Z7 a)
end
def m_ (f m:Nat) (l:Bool):de (.fresh f m l) []:=
 ⟨.inl rfl,j2h,λ _ h=>ZU h P0,rfl,rfl,(by show 0 * 5 < 7 * 3;decide),λ _ h=>ZU h (by simp)⟩
variable {o:Array (Option Nat)}
section
structure fQ (mask:Nat) (hs:List Int) (o:Array (Option Nat)):Prop where
 sz:o.size=mask + 1
 at' :∀j k:Nat,o[j]? = some (some k)->∃h,hs[k]? = some h/\∃n,pJ mask h n=j/\∀n',n' < n->∃k',o[pJ mask h n']? = some (some k')
 all :∀k:Nat,k < hs.length->∃j:Nat,o[j]? = some (some k)
 one :∀j j' k:Nat,o[j]? = some (some k)->o[j']? = some (some k)->j=j'
theorem fQ.room (O:fQ mask hs o) (hl:hs.length<=mask) :∃j,j<=mask/\o[j]? = some none:=by
 refine N2 λ z=>?_;have l :∀j:Nat,∃k,j<=mask->o[j]? = some (some k):=λ j=>by
  by_cases d:j<=mask
  ·have m:j < o.size:=by rw [O.sz];lia
   cases e:o[j] with
   | none=>exact ZU ⟨j,d,by rw [T1 m,e]⟩ z
   | some k=>exact ⟨k,λ _=>by rw [T1 m,e]⟩
  ·exact ⟨0,λ q=>ZU q d⟩
 let f:Nat->Nat:=λ j=>j40 (l j)
 have i :∀j,j<=mask->o[j]? = some (some (f j)):=λ j=>y7 (l j);have p:((N0 (mask + 1)).map f).Nodup:=by rw [j0a,X6];refine (List.nodup_iff_pairwise_ne.mp C6).imp_of_mem λ {a b} g c ne e=>ne ?_;have g:=i a (b7 (List.mem_range.mp g));have c:=i b (b7 (List.mem_range.mp c));rw [<-e] at c;exact O.one a b _ g c
 have:=Z8 (l₂:=N0 hs.length) p λ k n=>by obtain ⟨j,d,rfl⟩:=List.mem_map.mp n;obtain ⟨h,e,_⟩:=O.at' j _ (i j (b7 (List.mem_range.mp d)));exact List.mem_range.mpr (List.getElem?_eq_some_iff.mp e).1
 rw [q0,Q1,Q1] at this
 lia
noncomputable def Sx (mask:Nat) (h:Int):Nat->Nat
 | 0=>0
 | m + 1=>Sx mask h m + rn mask (bl mask h m).1 + 1
theorem qI:∀m,pq mask h (Sx mask h m)=bs mask (bl mask h m) 0
 | 0=>rfl
 | m + 1=>yo (qI m)
theorem zq (sz:o.size=mask + 1) {M:Nat} (hM:o[(bl mask h M).1]? = some none) :∀(f m:Nat),m<=M->M < m + f->(∀n,n < Sx mask h m->∃k,o[pJ mask h n]? = some (some k))->
  ∃n,Q6 mask o f (bl mask h m).1 (bl mask h m).2=some (pJ mask h n)/\o[pJ mask h n]? = some none/\∀n',n' < n->∃k,o[pJ mask h n']? = some (some k)
 | 0,m,h1,h2,_=>ZU h2 (by lia)
 | f + 1,m,h1,h2,hn=>by
  unfold Q6;have at' :∀r,r<=rn mask (bl mask h m).1->∃x,o[(bl mask h m).1 + r]? = some x/\o.getD ((bl mask h m).1 + r) (some 0)=x:=λ r a=>by
   have:(bl mask h m).1 + r < o.size:=by have:=kG (jI mask h m) a;lia
   exact ⟨_,T1 this,by simp [j79,this]⟩
  have d :∀r,r<=rn mask (bl mask h m).1->pJ mask h (Sx mask h m + r)=(bl mask h m).1 + r:=λ r a=>by show (pq mask h _).j=_;rw [iI (qI m) r a];rfl
  have len :∀r,r < runEnd mask (bl mask h m).1 + 1 - (bl mask h m).1↔r<=rn mask (bl mask h m).1:=λ r=>by unfold rn runEnd;split<;>lia
  cases e:(N0 (runEnd mask (bl mask h m).1 + 1 - (bl mask h m).1)).find? λ k=>(o.getD ((bl mask h m).1 + k) (some 0)).isNone with
  | some k=>
   dsimp only;obtain ⟨s,p,B,g,u⟩:=List.find?_eq_some_iff_append.mp e;have b:k < runEnd mask (bl mask h m).1 + 1 - (bl mask h m).1:=List.mem_range.mp (by rw [g];simp);have b:=(len k).mp b;obtain ⟨x,v,w⟩:=at' k b;rw [w] at s;have t:x=none:=Option.isNone_iff_eq_none.mp s;subst t;refine ⟨Sx mask h m + k,by rw [d k b],by rw [d k b];exact v,λ n' D=>?_⟩;rcases Y3 n' (Sx mask h m) with z|z
   ·exact hn n' z
   ·have a:n' - Sx mask h m<=rn mask (bl mask h m).1:=by lia
    obtain ⟨y,i,l⟩:=at' _ a;have A:n' - Sx mask h m∈p:=by
     have L:=ZT j1a g;rw [Q1,F0,W0] at L;have C:k=p.length:=by
      have:(N0 (runEnd mask (bl mask h m).1 + 1 - (bl mask h m).1))[p.length]? = some k:=by rw [g];simp
      rw [P5 (by lia)] at this;exact (G1 this).symm
     have:(N0 (runEnd mask (bl mask h m).1 + 1 - (bl mask h m).1))[n' - Sx mask h m]? = some (n' - Sx mask h m):=P5 (by lia);rw [g,F2 (by lia)] at this;exact K0 this
    have:=u _ A;rw [l] at this;have c:=d _ a;rw [show Sx mask h m + (n' - Sx mask h m)=n' by lia] at c;rw [c,i];cases y with
    | none=>cases this
    | some k=>exact ⟨k,rfl⟩
  | none=>
   dsimp only;have no :∀r,r<=rn mask (bl mask h m).1->∃k,o[(bl mask h m).1 + r]? = some (some k):=λ r a=>by
    have:=List.find?_eq_none.mp e r (List.mem_range.mpr ((len r).mpr a));obtain ⟨y,i,l⟩:=at' r a;rw [l] at this;rw [i];cases y with
    | none=>exact ZU rfl this
    | some k=>exact ⟨k,rfl⟩
   have ne:m≠M:=λ z=>by subst z;obtain ⟨k,b⟩:=no 0 (K2 _);rw [Nat.add_zero,hM] at b;cases b
   exact zq sz hM f (m + 1) (by lia) (by lia) λ n q=>by
    have q:n < Sx mask h m + rn mask (bl mask h m).1 + 1:=q;rcases Y3 n (Sx mask h m) with z|z
    ·exact hn n z
    ·have a:n - Sx mask h m<=rn mask (bl mask h m).1:=by lia
     have c:=d _ a;rw [show Sx mask h m + (n - Sx mask h m)=n by lia] at c;rw [c];exact no _ a
theorem fQ.step (hm:lC mask) (O:fQ mask hs o) (hl:hs.length<=mask) (h:Int) :∃j,Q6 mask o (turns mask) (bits h % (mask + 1)) (bits h)=some j/\fQ mask (hs++[h]) (o.setIfInBounds j (some hs.length)):=by
 obtain ⟨C,v,A⟩:=O.room hl;obtain ⟨M,B,w⟩:=kn (h:=h) hm v;obtain ⟨n,u,p,t⟩:=zq (h:=h) O.sz (M:=M) (by rw [w];exact A) (turns mask) 0 (K2 _) (by lia) λ n q=>ZU q (Z2 _);refine ⟨_,u,?_⟩;have jl:pJ mask h n < o.size:=by rw [O.sz];exact Nat.lt_succ_of_le (my n)
 generalize hj:pJ mask h n=j at p jl;have at' :∀x:Nat,(o.setIfInBounds j (some hs.length))[x]? = if j=x then some (some hs.length) else o[x]?:=λ x=>by
  rw [Array.getElem?_setIfInBounds];by_cases z:j=x
  ·subst z;rw [ZZ rfl,ZZ rfl,ZZ jl]
  ·rw [Z_ z,Z_ z]
 have old :∀(x k:Nat),o[x]? = some (some k)->(o.setIfInBounds j (some hs.length))[x]? = some (some k):=λ x k e=>by rw [at',Z_ λ z=>by rw [<-z,p] at e;cases e];exact e
 have f :∀(x k:Nat),o[x]? = some (some k)->k < hs.length:=λ x k e=>by obtain ⟨g,a,_⟩:=O.at' x k e;exact (List.getElem?_eq_some_iff.mp a).1
 refine ⟨by rw [Array.size_setIfInBounds];exact O.sz,λ x k e=>?_,λ k r=>?_,λ x y k a b=>?_⟩
 ·rw [at'] at e;by_cases z:j=x
  ·rw [ZZ z] at e;cases e;refine ⟨h,List.getElem?_concat_length ..,n,hj.trans z,λ l d=>?_⟩;obtain ⟨c,i⟩:=t l d;exact ⟨c,old _ _ i⟩
  ·rw [Z_ z] at e;obtain ⟨g,a,m,b,s⟩:=O.at' x k e;refine ⟨g,?_,m,b,λ l d=>?_⟩
   ·rw [F2 (f x k e)];exact a
   ·obtain ⟨c,i⟩:=s l d;exact ⟨c,old _ _ i⟩
 ·rw [F0] at r;rcases Y3 k hs.length with z|z
  ·obtain ⟨x,e⟩:=O.all k z;exact ⟨x,old _ _ e⟩
  ·have:k=hs.length:=by have:k < hs.length + 1:=r;lia
   subst this;exact ⟨j,by rw [at',ZZ rfl]⟩
 ·rw [at'] at a b;by_cases z1:j=x
  ·by_cases z2:j=y
   ·exact z1.symm.trans z2
   ·rw [ZZ z1] at a;rw [Z_ z2] at b;cases a;exact ZU (f _ _ b) (N5 _)
  ·rw [Z_ z1] at a;by_cases z2:j=y
   ·rw [ZZ z2] at b;cases b;exact ZU (f _ _ a) (N5 _)
   ·rw [Z_ z2] at b;exact O.one x y k a b
noncomputable abbrev qE (mask:Nat) (acc:Option (Array (Option Nat)×Nat)) (h:Int):Option (Array (Option Nat)×Nat):=do
 let (owner,k) <-acc
 let j <-Q6 mask owner (turns mask) (bits h % (mask + 1)) (bits h)
 i5 (owner.setIfInBounds j (some k),k + 1)
theorem Ck (hm:lC mask) :∀(gs hs:List Int) (o:Array (Option Nat)),fQ mask hs o->hs.length + gs.length<=mask->∃o',gs.foldl (qE mask) (some (o,hs.length))=some (o',(hs++gs).length)/\fQ mask (hs++gs) o'
 | [],hs,o,O,_=>⟨o,by rw [E1];rfl,by rw [E1];exact O⟩
 | g :: gs,hs,o,O,hl=>by rw [W0] at hl;obtain ⟨j,c,d⟩:=O.step hm (by lia) g;obtain ⟨o',b,a⟩:=Ck hm gs (hs++[g]) _ d (by rw [F0];show hs.length + 1 + gs.length<=mask;lia);rw [T2] at b a;refine ⟨o',?_,a⟩;rw [U3];refine Eq.trans ?_ b;congr 1;show (do let j <-Q6 mask o (turns mask) (bits g % (mask + 1)) (bits g);i5 (o.setIfInBounds j (some hs.length),hs.length + 1))=_;rw [c];show some _=some _;rw [F0];rfl
def og:fQ mask [] (j67 (mask + 1) none):=by
 have no :∀j k:Nat,¬ (j67 (mask + 1) (none:Option Nat))[j]? = some (some k):=λ j k e=>by rw [Array.getElem?_replicate] at e;split at e<;>cases e
 exact ⟨Array.size_replicate,λ j k e=>ZU e (no j k),λ k a=>ZU a (Z2 _),λ j b k e=>ZU e (no j k)⟩
theorem oA (hm:lC mask) (hs:Array Int) (hl:hs.size<=mask) :∃o,j3f mask hs=some o/\fQ mask hs.toList o:=by obtain ⟨o,b,a⟩:=Ck hm hs.toList [] _ (og (mask:=mask)) (by rw [B1];show 0 + hs.size<=mask;lia);refine ⟨o,?_,a⟩;unfold j3f;rw [<-Array.foldl_toList];show j3g _ (hs.toList.foldl (qE mask) (some (j67 (mask + 1) none,0)))=_;rw [show (0:Nat)=([]:List Int).length from rfl,b];rfl
noncomputable abbrev eX (mask:Nat) (o:Array (Option Nat)):List (Nat×Nat):=(N0 (mask + 1)).filterMap λ j=>(o.getD j none).map (j,·)
def mS (O:fQ mask hs o) {x:Nat×Nat}:x∈eX mask o↔o[x.1]? = some (some x.2):=by
 obtain ⟨j,k⟩:=x;rw [List.mem_filterMap];constructor
 ·rintro ⟨j',h1,h2⟩;obtain ⟨f,a,d⟩:=Option.map_eq_some_iff.mp h2;cases d;have:j < o.size:=by rw [O.sz];exact List.mem_range.mp h1
  show o[j]? = some (some k);rw [T1 this];have a:o.getD j none=some k:=a;rw [<-a];simp [j79,this]
 ·intro e;have e:o[j]? = some (some k):=e;obtain ⟨b,c⟩:=Array.getElem?_eq_some_iff.mp e;refine ⟨j,List.mem_range.mpr (by rw [<-O.sz];exact b),?_⟩;have:o.getD j none=some k:=by simp [j79,b,c]
  rw [this];rfl
def Br (o:Array (Option Nat)):((eX mask o).map (·.1)).Pairwise (· < ·):=by rw [X6,List.pairwise_filterMap];refine List.pairwise_lt_range.imp λ {a b} hab x hx y hy=>?_;obtain ⟨_,_,rfl⟩:=Option.map_eq_some_iff.mp hx;obtain ⟨_,_,rfl⟩:=Option.map_eq_some_iff.mp hy;exact hab
def KP (O:fQ mask hs o):((eX mask o).map (·.2)).Perm (N0 hs.length):=by
 have g:((eX mask o).map (·.2)).Nodup:=by rw [j0a,X6];have:=Br (mask:=mask) o;rw [X6] at this;refine this.imp_of_mem λ {a b} d c lt e=>?_;have d:=(mS O).mp d;have c:=(mS O).mp c;rw [<-e] at c;exact K1 lt (O.one _ _ _ d c)
 refine (j7f g C6).mpr λ k=>?_;rw [List.mem_range,j51];constructor
 ·rintro ⟨x,hx,rfl⟩;obtain ⟨h,e,_⟩:=O.at' _ _ ((mS O).mp hx);exact (List.getElem?_eq_some_iff.mp e).1
 ·intro f;obtain ⟨j,e⟩:=O.all k f;exact ⟨(j,k),(mS O).mpr e,rfl⟩
end
theorem tW {α:Type} (es:Array α) :∀l:List Nat,(∀k∈l,k < es.size)->∃xs:List α,l.filterMap (es[·]?)=xs/\xs.length=l.length/\∀i k:Nat,l[i]? = some k->xs[i]? = es[k]?
 | [],_=>⟨[],rfl,rfl,λ i k e=>by simp at e⟩
 | k :: l,h=>by
  obtain ⟨xs,d,g,f⟩:=tW es l λ x c=>h x (Z0 _ c);have a:=h k Y0;refine ⟨es[k] :: xs,?_,by rw [W0,W0,g],λ i b e=>?_⟩
  ·rw [List.filterMap_cons_some (T1 a),d]
  ·cases i with
   | zero=>cases e;rw [T1 a];rfl
   | succ i=>exact f i b e
theorem EN {t:X3} {es:Array (Int×ZH)} {wanted:Nat} (hm:lC (Q4 wanted - 1)) (hl:es.size * 5 < (Q4 wanted - 1) * 3) :
  ∃t' order,t.relaid (es.map (·.1)) wanted=some (t',order)/\t'.led=t.led/\(order.filterMap (es[·]?)).toList.Perm es.toList/\de t' ((order.filterMap (es[·]?)).toList.map (·.1)):=by
 obtain ⟨o,L,O⟩:=oA hm (es.map (·.1)) (by rw [Array.size_map];lia);generalize hM:Q4 wanted - 1=mask at *;have R:(es.map (·.1)).toList.length=es.size:=by rw [B1,Array.size_map]
 have b:=KP O;rw [R] at b;have I:t.relaid (es.map (·.1)) wanted=some (({ mask,place:=((eX mask o).map (·.1)).toArray,dummies:=#[],finger:=t.finger,led:=t.led,moves:=t.movedTo mask,plain:=t.plain }:X3),((eX mask o).map (·.2)).toArray):=by unfold SetTable.relaid SetTable.laid;rw [hM,L];rfl
 obtain ⟨u,w,q,H⟩:=tW es ((eX mask o).map (·.2)) λ k g=>List.mem_range.mp (b.mem_iff.mp g);have m:(((eX mask o).map (·.2)).toArray.filterMap (es[·]?)).toList=u:=by rw [<-w];simp
 have F:(eX mask o).length=es.size:=by
  have:=b.length_eq
  rwa [q0,Q1] at this
 refine ⟨_,_,I,rfl,?_,?_⟩
 ·rw [m,<-w];refine (b.filterMap _).trans ?_;obtain ⟨S,J,B,G⟩:=tW es (N0 es.size) λ k g=>List.mem_range.mp g;rw [J];refine k0g (i9 λ i=>?_);by_cases l:i < es.size
  ·rw [G i i (P5 l),G2]
  ·rw [R3 (by rw [B,Q1];lia),R3 (by rw [B1];lia)]
 ·rw [m];refine ⟨hm,?_,λ j c=>?_,rfl,?_,?_,λ x d=>?_⟩
  ·show List.Pairwise _ ((eX mask o).map (·.1)).toArray.toList;rw [j3h];exact Br o
  ·have c:j∈((eX mask o).map (·.1)).toArray.toList:=c;rw [j3h] at c;obtain ⟨y,E,rfl⟩:=List.mem_map.mp c;have:=(Array.getElem?_eq_some_iff.mp ((mS O).mp E)).1;rw [O.sz] at this;exact b7 this
  ·show ((eX mask o).map (·.1)).toArray.size=_;rw [Q0,q0,q0,q,q0]
  ·rw [q0,q,q0,F];exact hl
  ·have d:x∈(u.map (·.1)).zip ((eX mask o).map (·.1)).toArray.toList:=d;show∃n,pJ mask x.1 n=x.2/\∀a,a < n->pJ mask x.1 a∈((eX mask o).map (·.1)).toArray.toList;rw [j3h] at d⊢;obtain ⟨i,l⟩:=o6 d;obtain ⟨v,r⟩:=List.getElem?_zip_eq_some.mp l;rw [C1] at v r;obtain ⟨y,p,P⟩:=Option.map_eq_some_iff.mp r;obtain ⟨z,K,f⟩:=Option.map_eq_some_iff.mp v;have C:=(mS O).mp (K0 p);obtain ⟨h,e,n,M,N⟩:=O.at' _ _ C;have s:=H i y.2 (by rw [C1,p];rfl);rw [K] at s;rw [G2,Array.getElem?_map,<-s] at e;have e:z.1=h:=G1 e;rw [e] at f;refine ⟨n,by rw [<-f,M,P],λ a D=>?_⟩;obtain ⟨A,Q⟩:=N a D;rw [<-f];exact List.mem_map.mpr ⟨(pJ mask h a,A),(mS O).mpr Q,rfl⟩
theorem Dn (hm:lC mask) (h1:n * 5 < mask * 3) (h2:¬ (n + 1) * 5 < mask * 3) (h3:n + 1<=306):lC (Q4 (o4 (n + 1)) - 1)/\(n + 1) * 5 < (Q4 (o4 (n + 1)) - 1) * 3/\Q4 (o4 (n + 1))<=ZG:=by
 have:n=4\/n=18\/n=76:=by rcases hm with rfl|rfl|rfl|rfl<;>lia
 have b:Q4 (o4 (4 + 1))=32:=by decide +kernel
 have oO:Q4 (o4 (18 + 1))=128:=by decide +kernel
 have a:Q4 (o4 (76 + 1))=512:=by decide +kernel
 rcases this with rfl|rfl|rfl
 ·rw [b];exact ⟨.inr (.inl rfl),by decide,by decide⟩
 ·rw [oO];exact ⟨.inr (.inr (.inl rfl)),by decide,by decide⟩
 ·rw [a];exact ⟨.inr (.inr (.inr rfl)),by decide,by decide⟩
variable {d:ZL} {v:ZH}
section
def De {o:ZQ} {vs:Array ZH} {Q:Option (Array ZH)->I0->Prop} (e:s.heap.get? a=some o) (d:o.data=.seq vs n) (q:Q (some vs) s):X0 (P1 prog w) A (seqItems? (.ref a)) Q E s:=by refine (show X0 _ _ (load a >>= _) _ _ _ from o0 (j9b e ?_));rw [d];exact A0 q
mutual
theorem vW:∀(d:ZL) (v:ZH) (as:List ZS) (n:Nat) (A:P2) (s:I0) (Q:Bool->I0->Prop),cU d=true->j5e s.heap v d as->d.depth<=n->Q false s->X0 (P1 prog w) A (j6i n v) Q E s
 | .int i,v,as,n,A,s,Q,_,r,_,q=>by cases r;cases n<;>exact A0 q
 | .str _,v,as,n,A,s,Q,_,r,_,q=>by cases r;cases n<;>exact A0 q
 | .none,v,as,n,A,s,Q,_,r,_,q=>by cases r;cases n<;>exact A0 q
 | .tuple xs,v,as,n,A,s,Q,hk,r,b,q=>by
  cases r with
  | @tuple a o vs m _ _ e c d r=>
   have b:Q2 xs + 1<=n:=b;obtain ⟨n,rfl⟩ :∃k,n=k + 1:=⟨n - 1,by lia⟩
   have ty:s.TypeIs (.ref a) "tuple":=⟨o,e,c⟩
   unfold j6i;refine o0 (N7 ty ?_);dsimp only;rw [ZZ (by decide)];refine o0 (A0 ?_);rw [Z_ (by decide)];refine o0 (De e d ?_);dsimp only;refine o0 ?_;rw [<-j09];exact Ay xs vs.toList _ n A s _ hk r (by lia) (A0 q)
 | .bool _,_,_,_,_,_,_,hk,_,_,_=>by cases hk
 | .list _,_,_,_,_,_,_,hk,_,_,_=>by cases hk
 | .dict _,_,_,_,_,_,_,hk,_,_,_=>by cases hk
theorem Ay:∀(ds:List ZL) (vs:List ZH) (as:List ZS) (n:Nat) (A:P2) (s:I0) (Q:Option Bool×Unit->I0->Prop),cY ds=true->j4d s.heap vs ds as->Q2 ds<=n->Q (none,()) s->
  X0 (P1 prog w) A (j88 vs ((none:Option Bool),()) λ y _=>do
    let b <-j6i n y
    if b=true then i5 (j24 (some true,())) else i5 (d5 (none,()))) Q E s
 | [],_,_,n,A,s,Q,_,r,_,q=>by cases r;rw [d9];exact A0 q
 | d :: ds,_,_,n,A,s,Q,c,r,e,q=>by
  have c:=Bool.and_eq_true_iff.mp (show (cU d && cY ds)=true from c);have e:max d.depth (Q2 ds)<=n:=e;cases r with
  | @cons v vs _ _ as bs a r=>rw [N8];refine o0 (o0 (vW d v as n A s _ c.1 a (by lia) ?_));exact A0 (Ay ds vs bs n A s Q c.2 r (by lia) q)
end
mutual
theorem zp:∀(d:ZL) (v:ZH) (as:List ZS) (n:Nat) (A:P2) (s:I0) (Q:Bool->I0->Prop),cU d=true->j5e s.heap v d as->d.depth<=n->(∀b,Q b s)->X0 (P1 prog w) A (j87 n v) Q E s
 | .int i,v,as,n,A,s,Q,_,r,_,q=>by cases r;cases n<;>exact A0 (q _)
 | .str _,v,as,n,A,s,Q,_,r,_,q=>by cases r;cases n<;>exact A0 (q _)
 | .none,v,as,n,A,s,Q,_,r,_,q=>by cases r;cases n<;>exact A0 (q _)
 | .tuple xs,v,as,n,A,s,Q,hk,r,f,q=>by
  cases r with
  | @tuple a o vs m _ _ e c d r=>
   have f:Q2 xs + 1<=n:=f;obtain ⟨n,rfl⟩ :∃k,n=k + 1:=⟨n - 1,by lia⟩
   have ty:s.TypeIs (.ref a) "tuple":=⟨o,e,c⟩
   unfold j87;refine o0 (j3c (r:=some (.builtin "tuple.__hash__")) ty (by rfl) ?_);dsimp only;refine o0 (De e d ?_);refine o0 ?_;show X0 _ _ (j88 vs _ _) _ _ _;rw [<-j09];exact Bu xs vs.toList _ n A s _ hk r (by lia) (λ b=>A0 (q _)) (A0 (q _))
 | .bool _,_,_,_,_,_,_,hk,_,_,_=>by cases hk
 | .list _,_,_,_,_,_,_,hk,_,_,_=>by cases hk
 | .dict _,_,_,_,_,_,_,hk,_,_,_=>by cases hk
theorem Bu:∀(ds:List ZL) (vs:List ZH) (as:List ZS) (n:Nat) (A:P2) (s:I0) (Q:Option Bool×Unit->I0->Prop),cY ds=true->j4d s.heap vs ds as->Q2 ds<=n->(∀b,Q (some b,()) s)->Q (none,()) s->
  X0 (P1 prog w) A (j88 vs ((none:Option Bool),()) λ y _=>do
    let b <-j87 n y
    if (!b)=true then i5 (j24 (some false,())) else i5 (d5 (none,()))) Q E s
 | [],_,_,n,A,s,Q,_,r,_,_,q=>by cases r;rw [d9];exact A0 q
 | d :: ds,_,_,n,A,s,Q,c,r,e,q1,q=>by
  have c:=Bool.and_eq_true_iff.mp (show (cU d && cY ds)=true from c);have e:max d.depth (Q2 ds)<=n:=e;cases r with
  | @cons v vs _ _ as bs a r=>
   rw [N8];refine o0 (o0 (zp d v as n A s _ c.1 a (by lia) λ b=>?_));cases b with
   | false=>exact A0 (A0 (q1 _))
   | true=>exact A0 (Bu ds vs bs n A s Q c.2 r (by lia) q1 q)
end
def bK (h:ZN) (v:ZH) (d:ZL):Prop:=cU d=true/\d.depth<=7/\∃b as,v=.ref b/\j5e h v d as
def bK.keep {h h':ZN} (k :∀b o vs n,h.get? b=some o->o.cls=.type "tuple"->o.data=.seq vs n->h'.get? b=some o) (x:bK h v d):bK h' v d:=by obtain ⟨a,f,b,c,e,r⟩:=x;exact ⟨a,f,b,c,e,wH k d v c a r⟩
theorem DW {x:ZH} {Q:Bool->I0->Prop} (hx:bK s.heap x d) :∀ys:List ZH,(∀y∈ys,∃e,bK s.heap y e)->Q false s->X0 (P1 prog w) A (j6h x ys) Q E s:=by
 intro ys g q;unfold j6h;refine o0 ?_;obtain ⟨f,l,b,j,rfl,r⟩:=hx;induction ys with
 | nil=>rw [d9];exact A0 (A0 q)
 | cons y ys a=>
  obtain ⟨e,i,m,c,bs,rfl,h⟩:=g y Y0;have a:=a λ z k=>g z (Z0 _ k);rw [N8];refine o0 ?_;dsimp only;by_cases z:b=c
  ·subst z;rw [ZZ (by simp)];exact A0 a
  ·rw [Z_ (by simp [z,carriedByValue])];refine o0 (sQ d _ j 8 A s _ f r (by lia) ?_);rw [Z_ (by decide)];refine o0 (sQ e _ bs 8 A s _ i h (by lia) ?_);rw [Z_ (by decide)];refine o0 (vW d _ j 8 A s _ f r (by lia) ?_);rw [Z_ (by decide)];refine o0 (vW e _ bs 8 A s _ i h (by lia) ?_);rw [Z_ (by decide)];exact A0 a
end
variable {ds:List ZL}
section
def dE (w:U1) (G:ZH->ZL->Prop) (l:Bool) (h:ZN) (a:ZS) (ds:List ZL):Prop:=
 ∃es ep t,h.get? a=some { cls:=.type "set",dict:=none,data:=.set es ep t,slots:=#[] }/\es.toList.map (·.1)=ds.map (bq w)/\af (λ v d=>bK h v d/\G v d) (es.toList.map (·.2)) ds/\ds.Nodup/\de t (ds.map (bq w))/\t.led=l
theorem wq {t:X3} (T:de t hs) (e:n=hs.length):t.fits n=true:=by
 unfold j69 SetTable.fill;rw [T.dum,T.sz,e];have:=T.few;simp
 lia
def oI {t:X3} (T:de t hs):t.gaveWay=false:=by unfold SetTable.gaveWay;rcases T.msk with e|e|e|e<;>rw [e]<;>rfl
theorem k8 {α β:Type} {R:α->β->Prop} :∀{l:List α} {m:List β} {i:Nat} {a:α},af R l m->l[i]? = some a->∃b,m[i]? = some b/\R a b
 | _,_,_,_,.nil,e=>by simp at e
 | _,_,0,_,.cons r _,e=>by cases e;exact ⟨_,rfl,r⟩
 | _,_,i + 1,_,.cons _ t,e=>k8 (i:=i) t e
theorem yq {a:ZS} {es:Array (Int×ZH)} {t:X3} {x:ZH} {Q:SetFound->I0->Prop} (hu:A.units + 9 < ZF)
  (ho:s.heap.get? a=some { cls:=.type "set",dict:=none,data:=.set es ep t,slots:=#[] }) (eh:es.toList.map (·.1)=ds.map (bq w)) (el:af (bK s.heap) (es.toList.map (·.2)) ds) (T:de t (ds.map (bq w))) (hx:bK s.heap x d)
  (e0:¬ pJ t.mask (bq w d) N∈t.place.toList) (eN :∀n,n < N->pJ t.mask (bq w d) n∈t.place.toList) (h10:N < 10 * U9 t.mask) (q1:d∈ds->Q (.there none) s) (q2:¬ d∈ds->Q (.free (pJ t.mask (bq w d) N) false) s) :
  ∀(f n:Nat) (st:Option SetTable.Probe),st.getD (t.probeStart (bq w d))=pq t.mask (bq w d) n->n<=N->N < n + f->(∀n' i:Nat,n' < n->t.place[i]? = some (pJ t.mask (bq w d) n')->ds[i]?≠some d)->X0 (P1 prog w) A (setSearchFrom a x (bq w d) true f st) Q E s
 | 0,n,st,_,q,I,_=>ZU I (by lia)
 | f + 1,n,st,es',q,I,hn=>by
  have V:es.size=(ds.map (bq w)).length:=by rw [<-eh,q0,B1]
  have X:=wq T V;have G :∀i:Nat,i < es.size->∃g y h,es[i]? = some (g,y)/\ds[i]? = some h/\g=bq w h/\bK s.heap y h:=λ i p=>by have k:es[i]? = some es[i]:=T1 p;obtain ⟨h,q,I⟩:=k8 (i:=i) (a:=es[i].2) el (by rw [C1,G2,k];rfl);refine ⟨es[i].1,es[i].2,h,k,q,?_,I⟩;have:=ZT (λ l=>l[i]?) eh;simp only [C1,G2,k,q] at this;exact G1 this
  have O :∀i j:Nat,t.place[i]? = some j->i < es.size:=λ i j e=>by
   have:=(Array.getElem?_eq_some_iff.mp e).1;rw [T.sz] at this
   lia
  unfold setSearchFrom;refine o0 (R4 ho rfl X ?_);dsimp only;rw [oI T,Z_ (by decide),es']
  conv in (SetTable.probe _ _ _ _)=>change m7 t (λ i=>(es[i]?.map (·.1)).getD 0) (bq w d) (10 * U9 t.mask) (pq t.mask (bq w d) n)
  rcases T.go (ha:=λ i=>(es[i]?.map (·.1)).getD 0) e0 eN (10 * U9 t.mask) n q (by lia) with ⟨R,M⟩|⟨n1,i,R,M,g3,g4,g5,g6⟩
  ·rw [R];dsimp only;refine A0 (q2 λ hd=>?_);obtain ⟨i,p⟩:=o6 hd;have a4:i < es.size:=by rw [V,q0];exact (List.getElem?_eq_some_iff.mp p).1
   have P:i < t.place.size:=by rw [T.sz];lia
   obtain ⟨n',m1,m2⟩:=T.met (i:=i) e0 (by rw [C1,p];rfl) (T1 P);have S:t.place[i]? = some (pJ t.mask (bq w d) n'):=by rw [m2];exact T1 P
   rcases Y3 n' n with z|z
   ·exact hn n' i z S p
   ·refine M n' i z m1 S ?_;obtain ⟨g,y,h,H,B,U,_⟩:=G i a4;rw [p] at B;cases B;show (es[i]?.map (·.1)).getD 0=_;rw [H];exact U
  ·rw [g5];dsimp only;obtain ⟨g,y,h,H,B,U,Z⟩:=G i (O i _ g3);have a0 :∀{m:Sem SetFound},X0 (P1 prog w) A m Q E s->X0 (P1 prog w) A (if (!t.led)=true then (do
     let r <-j6h x ((es.filter (λ e=>e.1 == bq w d)).toList.map (·.2))
     if r=true then (do unsupported "set:the-search-would-show-the-table";m) else m) else m) Q E s:=λ {m} hm=>by
    split
    ·refine o0 (DW hx _ (λ z hz=>?_) ?_)
     ·obtain ⟨e,k,rfl⟩:=List.mem_map.mp hz;obtain ⟨j,K⟩:=o6 (List.mem_filter.mp (by simpa using k:e∈es.toList.filter (λ e=>e.1 == bq w d))).1;rw [G2] at K;obtain ⟨g',y',W,o,J,Y,L⟩:=G j (Array.getElem?_eq_some_iff.mp K).1;rw [K] at o;have o:=G1 o;exact ⟨W,by rw [o];exact L⟩
     ·rw [Z_ (by decide)];exact hm
    ·exact hm
   refine a0 ?_;rw [H];dsimp only;obtain ⟨x1,x2,b,as,rfl,rx⟩:=id hx;obtain ⟨y1,y2,c,bs,rfl,ry⟩:=id Z;refine o0 (F3 ?_);refine (pS prog w).eqBool (x:=h) (y:=d) (show A.units + 8 < ZF by lia) ⟨y1,y2,bs,ry⟩ ⟨x1,x2,as,rx⟩ ?_;refine o0 (R4 ho rfl X ?_);dsimp only;by_cases z:h=d
   ·rw [ZY z];simp only [Bool.and_self,if_true];exact A0 (q1 (by rw [<-z];exact K0 B))
   ·rw [ZX z];simp only [j37,j0c,if_false];have sm:t.sameMemory t.moves t.mask=some true:=by unfold SetTable.sameMemory;rw [ZZ (beq_self_eq_true _)]
    rw [sm];dsimp only;rw [ZZ rfl,T.live g3];dsimp only;rw [H];dsimp only;refine o0 (wpAny_isSame_ref_self ?_);rw [ZZ rfl];refine o0 (A0 ?_);dsimp only;refine yq hu ho eh el T hx e0 eN h10 q1 q2 f (n1 + 1) (some (pq t.mask (bq w d) (n1 + 1))) rfl (by lia) (by lia) λ n' C a1 F D=>?_;rcases Y3 n' n with v|v
    ·exact hn n' C v F D
    ·rcases Y3 n' n1 with u|u
     ·refine g6 n' C v u F ?_;obtain ⟨g',y',W,o,J,Y,L⟩:=G C (O C _ F);rw [D] at J;cases J;show (es[C]?.map (·.1)).getD 0=_;rw [o];exact Y
     ·have:n'=n1:=by lia
      subst this;have k:=T.live F;rw [T.live g3] at k;cases k;rw [B] at D;exact z (G1 D)
end
noncomputable def dN (ds:List ZL) (d:ZL):List ZL:=if d∈ds then ds else ds++[d]
def EV {ns ms:List ZL} (p:ns.Perm ms) (v:ZL):(dN ns v).Perm (dN ms v):=by
 unfold dN;by_cases z:v∈ns
 ·rw [ZZ z,ZZ (p.mem_iff.mp z)];exact p
 ·rw [Z_ z,Z_ (λ y=>z (p.mem_iff.mpr y))];exact p.append_right [v]
theorem Ah:∀(vs:List ZL) {ns ms:List ZL},ns.Perm ms->(vs.foldl dN ns).Perm (vs.foldl dN ms)
 | [],_,_,p=>p
 | v :: vs,_,_,p=>Ah vs (EV p v)
def yN (ns:List ZL) (v:ZL):(dN ns v).length<=ns.length + 1:=by
 unfold dN;split
 ·exact z7 _
 ·rw [F0];exact L0 _
theorem yR:∀(vs ns:List ZL),(vs.foldl dN ns).length<=ns.length + vs.length
 | [],ns=>L0 _
 | v :: vs,ns=>by
  have b:=yR vs (dN ns v);have a:=yN ns v;rw [U3,W0]
  lia
theorem Ac {x:ZL} :∀(vs ns:List ZL),x∈vs.foldl dN ns↔x∈ns\/x∈vs
 | [],ns=>by simp
 | v :: vs,ns=>by
  rw [U3,Ac vs,X1];unfold dN;split
  ·rename_i z;exact ⟨λ q=>q.elim .inl λ q=>.inr (.inr q),λ q=>q.elim .inl λ q=>q.elim (λ q=>.inl (q ▸ z)) .inr⟩
  ·rw [O4,B5];exact ⟨λ q=>q.elim (λ q=>q.elim .inl λ q=>.inr (.inl q)) λ q=>.inr (.inr q),λ q=>q.elim (λ q=>.inl (.inl q)) λ q=>q.elim (λ q=>.inl (.inr q)) .inr⟩
def FM {ns:List ZL} (h:ns.Nodup) (v:ZL):(dN ns v).Nodup:=by
 unfold dN;split
 ·exact h
 ·rename_i z;refine List.nodup_append.mpr ⟨h,by simp,λ a c b d e=>?_⟩;rw [List.mem_singleton.mp d] at e;exact z (e ▸ c)
def de.same {t t2:X3} (T:de t hs) (e1:t2.mask=t.mask) (e2:t2.place=t.place) (e3:t2.dummies=t.dummies):de t2 hs:=by obtain ⟨c,f,a,g,d,e,b⟩:=T;rw [<-e1] at c a e b;rw [<-e2] at f a d b;exact ⟨c,f,a,e3.trans g,d,e,b⟩
theorem mT {α β:Type} {R:α->β->Prop} :∀{l:List α} {m:List β} (p:Nat),af R l m->af R (l.take p) (m.take p)/\af R (l.drop p) (m.drop p)
 | _,_,0,h=>⟨.nil,h⟩
 | _,_,_ + 1,.nil=>⟨.nil,.nil⟩
 | _,_,p + 1,.cons a r=>⟨.cons a (mT p r).1,(mT p r).2⟩
theorem k7 {α β:Type} {R:α->β->Prop} :∀{l l':List α} {m m':List β},af R l m->af R l' m'->af R (l++l') (m++m')
 | _,_,_,_,.nil,h=>h
 | _,_,_,_,.cons a r,h=>.cons a (k7 r h)
variable {G:ZH->ZL->Prop} {l:Bool}
section
def HJ {R:ZH->ZL->Prop} {es es':List (Int×ZH)} (p:es'.Perm es) (eh:es.map (·.1)=ds.map (bq w)) (el:af R (es.map (·.2)) ds) :∃ds',ds'.Perm ds/\es'.map (·.1)=ds'.map (bq w)/\af R (es'.map (·.2)) ds':=by
 induction p generalizing ds with
 | nil=>exact ⟨ds,Z4 _,eh,el⟩
 | @cons x l l' _ ih=>
  rw [O0] at el eh;cases el with
  | cons a r=>rw [O0] at eh;injection eh with e1 e2;obtain ⟨ds',c,f,h⟩:=ih e2 r;exact ⟨_ :: ds',c.cons _,by rw [O0,O0,e1,f],.cons a h⟩
 | swap x y l=>
  rw [O0,O0] at el eh;cases el with
  | cons a r=>
   cases r with
   | cons b r=>rw [O0,O0] at eh;injection eh with e1 e2;injection e2 with e2 e3;exact ⟨_,R9 _ _ _,by rw [O0,O0,O0,O0,e1,e2,e3],.cons b (.cons a r)⟩
 | trans _ _ ih1 ih2=>obtain ⟨n,g,j,k⟩:=ih2 eh el;obtain ⟨i,d,e,m⟩:=ih1 j k;exact ⟨i,d.trans g,e,m⟩
theorem FG {x:ZH} {Q:Bool->I0->Prop} (hu:A.units + 9 < ZF) (hS:dE w G l s.heap a ds) (hx:bK s.heap x d) (gx:G x d) (hroom:ds.length + 1<=306)
  (h :∀b h' ds',v4 a s.heap h'->dE w G l h' a ds'->ds'.Perm (dN ds d)->Q b { s with heap:=h' }):X0 (P1 prog w) A (j6g a x (bq w d)) Q E s:=by
 have a7:=hS;obtain ⟨es,H,t,m,O,a1,nd,T,hl⟩:=hS;have el:af (bK s.heap) (es.toList.map (·.2)) ds:=bp (λ _ _ z=>z.1) a1;have ln:es.size=(ds.map (bq w)).length:=by rw [<-O,q0,B1]
 have a0:es.size=ds.length:=by rw [ln,q0]
 have hf:=wq T ln;have hm:10 * U9 t.mask<=5260:=by unfold U9;rcases T.msk with e|e|e|e<;>rw [e]<;>decide
 have Z:=T.few;rw [q0] at Z;unfold j6g j9f;refine F3 (o0 (R4 m rfl hf ?_));dsimp only;obtain ⟨x1,x2,b,as,rfl,rx⟩:=id hx;rw [Z_ (by unfold byScan;simp [Value.scannable])];obtain ⟨N,hN,e0,eN⟩:=T.first (bq w d);unfold setSearch;refine o0 (yq hu m O el T hx e0 eN hN (λ M=>?_) (λ M=>?_) 100000 0 none rfl (K2 _) (by lia) λ n' i hn=>ZU hn (Z2 _))
 ·refine A0 ?_;exact h false s.heap ds (j84 a s.heap) a7 (by unfold dN;rw [ZZ M])
 dsimp only;refine o0 (R4 m rfl hf ?_);dsimp only;obtain ⟨S,q,o,R,p5,D,p7,I⟩:=T.put e0 eN;rw [q0] at S o I;generalize hP:t.put (pJ t.mask (bq w d) N)=P at S q o R p5 D p7 I;obtain ⟨g,p⟩:=P;dsimp only at S q o R p5 D p7 I⊢;have V:dN ds d=ds++[d]:=Z_ M;generalize hes:X4 es p (bq w d,O2 b)=es1;have U:es1.toList=es.toList.take p++(bq w d,O2 b) :: es.toList.drop p:=by rw [<-hes];exact uy es p _ (by lia)
 have y:es1.size=ds.length + 1:=by
  rw [<-B1,U,F0,W0,Y1,P3,B1]
  lia
 have pd:(ds.take p++d :: ds.drop p).Perm (ds++[d]):=by refine List.perm_middle.trans ?_;rw [N6];exact (List.perm_append_comm (l₂:=[d])).symm
 have a5:(ds.take p++d :: ds.drop p).Nodup:=by refine pd.nodup_iff.mpr ?_;rw [<-V];exact FM nd d
 have a9 :∀c r,s.heap.get? c=some r->r.cls=.type "tuple"->c≠a:=λ c r u W z=>by rw [z,m] at u;cases u;exact ZU (show U4 "set" = U4 "tuple" from W) (by decide)
 have k1 :∀h',v4 a s.heap h'->∀v e,bK s.heap v e->bK h' v e:=λ h' j v e=>bK.keep λ c r vs n u W _=>(j.2 c (a9 c r u W)).trans u;have a3:es1.toList.map (·.1)=(ds.take p++d :: ds.drop p).map (bq w):=by rw [U,Q3,O0,Q3,O0,M9,N9,O,M9,N9]
 have a2 :∀h',v4 a s.heap h'->af (λ v d=>bK h' v d/\G v d) (es1.toList.map (·.2)) (ds.take p++d :: ds.drop p):=λ h' j=>by rw [U,Q3,O0,M9,N9];have:=mT p a1;exact bp (λ v e z=>⟨k1 h' j v e z.1,z.2⟩) (k7 this.1 (.cons ⟨hx,gx⟩ this.2))
 have last :∀f:X3,f.mask=g.mask->f.place=g.place->f.dummies=g.dummies->f.led=g.led->X0 (P1 prog w) A (do
   storeSet a es1 f
   if (!false && f.tooFull)=true then do
    setRelay a (o4 (es.size + 1))
    i5 true
   else i5 true) Q E s:=λ f F L q3 Y=>by
  have B:(s.heap.update a (M6 es1 f)).get? a=some { cls:=.type "set",dict:=none,data:=.set es1 (H + 1) f,slots:=#[] }:=T3 (M6 es1 f) m rfl;have j:=y3 s.heap a (M6 es1 f);have J:f.fill=ds.length + 1:=by unfold SetTable.fill;rw [L,q3,o,R];rfl
  refine o0 (j25 m rfl ?_ (by rw [y];exact M0 hroom (by decide)));by_cases z:(ds.length + 1) * 5 < t.mask * 3
  ·rw [Z_ (by unfold k04;rw [J,F,q];simp;lia)];refine A0 (h true _ (ds.take p++d :: ds.drop p) j ⟨es1,H + 1,f,B,a3,a2 _ j,a5,?_,Y.trans (D.trans hl)⟩ (by rw [V];exact pd));have:=(I z).same F L q3
   rwa [Q3,O0,M9,N9]
  ·rw [ZZ (by unfold k04;rw [J,F,q];simp;lia)];obtain ⟨gm,X,gs⟩:=Dn T.msk Z z hroom;rw [<-a0] at gm X gs;refine o0 ?_;unfold setRelay;have a6:f.fits es1.size=true:=by
    unfold j69;rw [J,F,q,L,o,y];simp
    lia
   refine o0 (R4 B rfl a6 ?_);dsimp only;rw [Z_ (by lia)];obtain ⟨k,C,r1,r2,K,r4⟩:=EN (t:=f) (es:=es1) (wanted:=o4 (es.size + 1)) gm (by rw [y,<-a0];exact X);rw [r1];refine o0 (show X0 _ _ (if ((C.filterMap (es1[·]?)).size != es1.size)=true then _ else i5 (C.filterMap (es1[·]?),k)) _ _ _ from ?_);have sz:(C.filterMap (es1[·]?)).size=es1.size:=by rw [<-B1,K.length_eq,B1]
   rw [Z_ (by rw [sz];simp)];refine A0 ?_;dsimp only;generalize hes2:C.filterMap (es1[·]?)=es2 at K r4 sz;have g2:((s.heap.update a (M6 es1 f)).update a (M6 es2 k)).get? a=some { cls:=.type "set",dict:=none,data:=.set es2 (H + 1 + 1) k,slots:=#[] }:=T3 (M6 es2 k) B rfl;have a4:=j.trans (y3 (s.heap.update a (M6 es1 f)) a (M6 es2 k));refine j25 B rfl ?_ (by rw [sz,y];exact M0 hroom (by decide));obtain ⟨a8,d1,d2,d3⟩:=HJ (w:=w) K a3 (a2 _ a4);refine A0 (h true _ a8 a4 ⟨es2,H + 1 + 1,k,g2,d2,d3,d1.nodup_iff.mpr a5,?_,r2.trans (Y.trans (D.trans hl))⟩ (by rw [V];exact d1.trans pd));rw [<-d2];exact r4
 by_cases z:g.plain=true
 ·rw [ZZ z];refine o0 (zp d _ as 8 A s _ x1 rx (by lia) λ bv=>?_);cases bv with
  | true=>exact last g rfl rfl rfl rfl
  | false=>exact last { g with plain:=false } rfl rfl rfl rfl
 ·rw [Z_ z];exact o0 (A0 (last g rfl rfl rfl rfl))
end
structure dF where
 a:Int
 b:Int
 k:ZR
 n:Option ZR
 deriving DecidableEq
noncomputable def nD:Option ZR->ZL
 | none=>.none
 | some z=>.str z
noncomputable def bR (r:dF):ZL:=.tuple [.int r.a,.int r.b,.str r.k,nD r.n]
structure Ll {α:Type} (r:α->α->Prop):Prop where
 irr :∀a,¬ r a a
 tr :∀a b c,r a b->r b c->r a c
 tri :∀a b,r a b\/a=b\/r b a
def Lx {α β:Type} (r:α->α->Prop) (s:β->β->Prop) (x y:α×β):Prop:=r x.1 y.1\/x.1=y.1/\s x.2 y.2
noncomputable abbrev RK:=Int×Int×List Nat×List Nat
noncomputable def nK:Option ZR->List Nat
 | none=>[]
 | some z=>0 :: z.cps.toList
noncomputable def jo (r:dF):RK:=(r.a,r.b,r.k.cps.toList,nK r.n)
def qK:RK->RK->Prop:=Lx (· < ·) (Lx (· < ·) (Lx (· < ·) (· < ·)))
def kA (x y:dF):Prop:=qK (jo x) (jo y)
def K_ {x y:ZR} (h:x.cps.toList=y.cps.toList):x=y:=by obtain ⟨a⟩:=x;obtain ⟨b⟩:=y;exact ZT Str.mk (Array.toList_inj.mp h)
open Classical in
def kK (x y:dF):Prop:=x.k=y.k->x.n.isSome=y.n.isSome
section
theorem sy {e:ZL} {u:ZH} {as bs:List ZS} {Q:Bool->I0->Prop} (hd:cU d=true) (he:cU e=true) (h0:d.depth=0) (r:j5e s.heap v d as) (r2:j5e s.heap u e bs) (hu:A.units + 9 < ZF) (q:Q (decide (d=e)) s):X0 (P1 prog w) A (eqBool v u) Q E s:=by refine SeqAt.eqAt_reads d e A s v u as bs r r2 (pN d hd) (pN e he) (by have:=j75 d.depth e.depth;lia) prog w E Q ?_;rw [pk (p:=d=e) (qU d hd) (qU e he) Iff.rfl];exact q
def iM {h:ZN} {r:dF} (x:bK h v (bR r)) :∃a o vs m t1 t2 t3 u as,v=.ref a/\h.get? a=some o/\o.cls=.type "tuple"/\o.data=.seq vs m/\vs.toList=[.int r.a t1,.int r.b t2,.str r.k t3,u]/\j5e h u (nD r.n) as/\(w5 r.k).canLay0=true/\cU (nD r.n)=true:=by
 obtain ⟨e,f,b,as,rfl,d⟩:=x;have c:(true && (true && ((w5 r.k).canLay0 && (cU (nD r.n) && true))))=true:=e;simp only [j8g,Bool.and_true,Z5] at c;unfold bR at d;cases d with
 | @tuple a o vs n _ _ e1 e2 e3 e4=>
  generalize hl:vs.toList=l at e4;cases e4 with
  | cons g1 r1=>cases g1;cases r1 with
   | cons g2 r2=>cases g2;cases r2 with
    | cons g3 r3=>cases g3;cases r3 with
     | cons g4 r4=>cases r4;exact ⟨_,_,_,_,_,_,_,_,_,rfl,e1,e2,e3,hl,g4,c.1,c.2⟩
open Classical in
def nB {x y:dF} {z:ZH} {Q:Bool->I0->Prop} (hx:bK s.heap v (bR x)) (hy:bK s.heap z (bR y)) (hc:kK x y) (hu:A.units + 9 < ZF) (q:Q (decide (kA x y)) s):X0 (P1 prog w) A (keyLt' (tuples' true) v z) Q E s:=by
 obtain ⟨a,o,B,m,X,R,U,u,Y,rfl,I,e2,C,j,f,J,G⟩:=iM hx;obtain ⟨a',Z,D,T,N,a0,S,M,O,rfl,L,V,H,t,g,K,F⟩:=iM hy;refine PySem.W.kat_lt I C L H ?_;have sz:decide (B.size < D.size)=false:=by have l:=ZT j1a j;have r:=ZT j1a t;rw [B1] at l r;rw [l,r];rfl
 rw [j,t,sz];refine j15 (sy (d:=.int x.a) (e:=.int y.a) rfl rfl rfl (.int _ _) (.int _ _) hu ?_);by_cases z1:x.a=y.a
 ·rw [ZY (by rw [z1])];refine K9 (j15 (sy (d:=.int x.b) (e:=.int y.b) rfl rfl rfl (.int _ _) (.int _ _) hu ?_));by_cases z2:x.b=y.b
  ·rw [ZY (by rw [z2])];refine K9 (j15 (sy (d:=.str x.k) (e:=.str y.k) J K rfl (.str _ _) (.str _ _) hu ?_));by_cases z3:x.k=y.k
   ·rw [ZY (by rw [z3])];refine K9 (j15 (sy (d:=nD x.n) (e:=nD y.n) G F (by cases x.n<;>rfl) f g hu ?_));have c:=hc z3;have i:kA x y↔nK x.n < nK y.n:=by
     unfold kA qK Lx jo;rw [z1,z2,z3];constructor
     ·rintro (h|⟨_,h|⟨_,h|⟨_,h⟩⟩⟩)
      ·exact ZU h (j1i _)
      ·exact ZU h (j1i _)
      ·exact ZU h (j7g _)
      ·exact h
     ·exact λ h=>.inr ⟨rfl,.inr ⟨rfl,.inr ⟨rfl,h⟩⟩⟩
    cases hn1:x.n with
    | none=>
     cases hn2:y.n with
     | some _=>rw [hn1,hn2] at c;cases c
     | none=>
      rw [ZY rfl];refine K9 (PySem.W.kat_nil ?_);rw [ZX] at q
      ·exact q
      ·rw [i,hn1,hn2];exact j7g _
    | some p=>
     cases hn2:y.n with
     | none=>rw [hn1,hn2] at c;cases c
     | some p'=>
      rw [hn1] at f;rw [hn2] at g;cases f;cases g;by_cases z4:p=p'
      ·subst z4;rw [ZY rfl];refine K9 (PySem.W.kat_nil ?_);rw [ZX] at q
       ·exact q
       ·rw [i,hn1,hn2];exact j7g _
      ·rw [ZX λ e=>z4 (by injection e)];refine j2b (j55 _ _ (PySem.P.lt_str ?_));rw [show decide (p.cps.toList < p'.cps.toList)=decide (kA x y) from ?_]
       ·exact q
       ·rw [Bool.eq_iff_iff,decide_eq_true_iff,decide_eq_true_iff,i,hn1,hn2];exact (List.cons_lt_cons_self (a:=0)).symm
   ·rw [ZX λ e=>z3 (by injection e)];refine j2b (j55 _ _ (PySem.P.lt_str ?_));rw [show decide (x.k.cps.toList < y.k.cps.toList)=decide (kA x y) from ?_]
    ·exact q
    ·rw [Bool.eq_iff_iff,decide_eq_true_iff,decide_eq_true_iff];unfold kA qK Lx jo;rw [z1,z2];constructor
     ·exact λ h=>.inr ⟨rfl,.inr ⟨rfl,.inl h⟩⟩
     ·rintro (h|⟨_,h|⟨_,h|⟨h,_⟩⟩⟩)
      ·exact ZU h (j1i _)
      ·exact ZU h (j1i _)
      ·exact h
      ·exact ZU (K_ h) z3
  ·rw [ZX λ e=>z2 (by injection e)];refine j2b (j55 _ _ (PyProof.Rows.lt_int ?_));rw [show decide (x.b < y.b)=decide (kA x y) from ?_]
   ·exact q
   ·rw [Bool.eq_iff_iff,decide_eq_true_iff,decide_eq_true_iff];unfold kA qK Lx jo;rw [z1];constructor
    ·exact λ h=>.inr ⟨rfl,.inl h⟩
    ·rintro (h|⟨_,h|⟨h,_⟩⟩)
     ·exact ZU h (j1i _)
     ·exact h
     ·exact ZU h z2
 ·rw [ZX λ e=>z1 (by injection e)];refine j2b (oneLt_int ?_);rw [show decide (x.a < y.a)=decide (kA x y) from ?_]
  ·exact q
  ·rw [Bool.eq_iff_iff,decide_eq_true_iff,decide_eq_true_iff];unfold kA qK Lx jo;constructor
   ·exact λ h=>.inl h
   ·rintro (h|⟨h,_⟩)
    ·exact h
    ·exact ZU h z1
end
def hU (vs us:List ZH):Prop:=vs=us
variable {us:List ZH}
def Im {vs:List ZH} (h:hU vs us):us.length=vs.length:=by rw [show vs=us from h]
def CM {vs vs':List ZH} (h:hU vs us) (p:vs'.Perm vs) :∃us',hU vs' us'/\us'.Perm us:=⟨vs',rfl,by rw [<-(show vs=us from h)];exact p⟩
def iq (l:Bool) (h:ZN) (a:ZS) (us:List ZH):Prop:=∃es ep t,h.get? a=some { cls:=.type "set",dict:=none,data:=.set es ep t,slots:=#[] }/\hU (es.toList.map (·.2)) us/\es.size < scanBound/\t.fits es.size=true/\fo l t
def iq.at' {h h':ZN} (k :∀o,h.get? a=some o->h'.get? a=some o) (x:iq l h a us):iq l h' a us:=by obtain ⟨c,b,t,e,r⟩:=x;exact ⟨c,b,t,k _ e,r⟩
variable {Q:ZH->I0->Prop} {S:ZS} {ns:List ZH}
section
def DR (hh:A.handled=none) (hS:iq (!w.params.followText "set-order") s.heap S ns)
  (q :∀(I:ZS) (fp:List ZS) (h':ZN) (d:Drawn) (vs:List ZH) (ms:List ZH) (St:Nat->ZN->Prop),s.heap.objs.size<=I->(∀b∈fp,b=S\/s.heap.objs.size<=b)->(∀b o,s.heap.get? b=some o->h'.get? b=some o)->
   (∀A':P2,A'.handled=none->Walks prog w A' I fp [I] vs.length (λ i v=>vs[i]? = some v) St)->St 0 h'->hU vs ms->ms.Perm ns->Q (.ref I) { s with heap:=h',drawn:=d }) :
  X0 (P1 prog w) A (j60 (.ref S)) Q E s:=by
 obtain ⟨a,B,t,c,J,g,j,r⟩:=hS;have G:=T0 c;refine Fw c j g (λ z=>?_) λ m d p=>?_
 ·have l :∀b o,s.heap.get? b=some o->(s.heap.push (bX (.int 0 0) 0 S a.size B)).get? b=some o:=λ b o e=>G0 _ e;have L :∀b∈[s.heap.objs.size,S],b=S\/s.heap.objs.size<=b:=λ b g=>by
   rcases List.mem_cons.mp g with e|e
   ·exact .inr (j2d e.symm)
   ·exact .inl (List.mem_singleton.mp e)
  cases hx:w.params.followText "set-order" with
  | true=>
   have F:=(GO (w.params.setOrder S B) a).map (λ e:Int×ZH=>e.2);obtain ⟨ms,C,D⟩:=CM J F;refine q s.heap.objs.size [s.heap.objs.size,S] _ s.drawn _ ms _ (L0 _) L l (λ A' n=>zD n (K1 G) j ((pickOrder (w.params.setOrder S B) a).toList.map (·.2)) (λ _=>0) (λ i x e s A E Q c q=>zl hx c j ?_) (λ s A E Q c q=>zl hx c j ?_)) ⟨U0 _ rfl,l _ _ c⟩ C D
   ·rw [C1,G2] at e;obtain ⟨y,f,u⟩:=Option.map_eq_some_iff.mp e;rw [f,T6,u];exact q
   ·rw [L4 (by simp)];exact q
  | false=>
   rw [hx] at z r;have K:(!t.plain && decide (a.size > 1))=false:=by simpa using z
   have sz:=Jq j;refine q s.heap.objs.size [s.heap.objs.size,S] _ s.drawn _ ns _ (L0 _) L l (λ A' n=>zD n (K1 G) j (a.toList.map (·.2)) (slotAt t) (λ i x e s A E Q c q=>?_) (λ s A E Q c q=>?_)) ⟨U0 _ rfl,l _ _ c⟩ J (Z4 _)
   ·rw [C1,G2] at e;obtain ⟨y,f,u⟩:=Option.map_eq_some_iff.mp e;have N:i < a.size:=by
     cases Y3 i a.size with
     | inl h=>exact h
     | inr h=>rw [L4 h] at f;cases f
    have H:i < t.place.size:=by rw [sz];exact N
    refine yp (k:=i) hx c j r.1 K (By r.2 (y4 H)) ?_;rw [f,T1 H];have:slotAt t (i + 1)=t.place[i] + 1:=by show t.place.getD i 0 + 1=_;rw [xQ H]
    rw [this,<-u] at q;exact q
   ·refine yp (k:=(a.toList.map (·.2)).length) hx c j r.1 K (By r.2 (by simp [sz])) ?_;rw [L4 (by simp)];exact q
 ·have l :∀b o,s.heap.get? b=some o->((s.heap.push { cls:=.type "tuple",data:=.seq (m.map λ i:Nat=>F6 i).toArray }).push (bX (.ref s.heap.objs.size) 0 S a.size B)).get? b=some o:=λ b o e=>G0 _ (G0 _ e);have f:(s.heap.push { cls:=.type "tuple",data:=.seq (m.map λ i:Nat=>F6 i).toArray }).objs.size=s.heap.objs.size + 1:=v5 _ _;have F:(m.map (qo a)).Perm (a.toList.map (·.2)):=by rw [<-HS];exact p.map _
  obtain ⟨ms,C,D⟩:=CM J F;refine q (s.heap.objs.size + 1) [s.heap.objs.size + 1,S,s.heap.objs.size] _ d _ ms _ (z7 _) (λ b g=>?_) l (λ A' n=>Gb (tp:=s.heap.objs.size) n (K1 (C3 G)) (K1 (F4 _)) j (m.map (qo a)) m (by simp) (λ i x e=>?_)) ⟨?_,l _ _ c,G0 _ (U0 _ rfl)⟩ C D
  ·rcases List.mem_cons.mp g with e|g
   ·exact .inr (by rw [e];exact z7 _)
   ·rcases List.mem_cons.mp g with e|g
    ·exact .inl e
    ·exact .inr (j2d (List.mem_singleton.mp g).symm)
  ·rw [C1] at e;obtain ⟨k,f,u⟩:=Option.map_eq_some_iff.mp e;have M:k < a.size:=List.mem_range.mp (p.mem_iff.mp (K0 f));refine ⟨k,a[k].1,f,?_⟩;rw [<-u];simp [qo,M]
  ·show Heap.get? _ (s.heap.objs.size + 1)=_;rw [<-f];exact U0 _ rfl
theorem Jc {D:ZS} {R:j9j->I0->Prop} (hh:A.handled=none) (hS:iq (!w.params.followText "set-order") s.heap S ns) (hD:s.heap.get? D=some { cls:=.type "list",data:=.seq #[] }) (hn:ns.length<=ZG)
  (hR :∀h' tk d acc c ms,(∀b o,b≠D->s.heap.get? b=some o->h'.get? b=some o)->h'.get? D=some { cls:=.type "list",dict:=none,data:=.seq acc c,slots:=#[] }->hU acc.toList ms->ms.Perm ns->R (.ok (.ret (.ref D))) { s with heap:=h',toks:=tk,drawn:=d }) :
  X0 (P1 prog w) A.in1 (j43 (.ref D) (.ref S) (.ref D))
   (λ fin s'=>match fin with | .done f=>R (.ok f) s' | .again c'=>c'.quiet=true/\M8 (P1 prog w) A c' R s') (λ e s'=>R (.error e) s') s:=by
 have O:s.TypeIs (.ref S) "set":=by obtain ⟨H,v,t,h,_⟩:=hS;exact ⟨_,h,rfl⟩
 have E:D≠S:=λ z=>by obtain ⟨H,v,t,h,_⟩:=hS;rw [<-z,hD] at h;exact ZU (show U4 "list" = U4 "set" from ZT Obj.cls (G1 h)) (by decide)
 unfold j43;refine o0 (N7 (T:="set") O ?_);rw [Z_ (by simp [Builtin.List.listSameRef,E])];refine o0 (DR (A:=A.in1) hh hS λ I K h' d l ms St M L k W U n r=>?_);have N:v8 { s with heap:=h',drawn:=d } (.ref S) "set":=by obtain ⟨H,v,t,h,_⟩:=hS;exact ⟨_,k _ _ h,rfl⟩
 refine o0 (F3 (Ht N ?_));have B:D∉K:=λ z=>by
  rcases L D z with e|e
  ·exact E e
  ·exact ZU (T0 hD) (Nat.not_lt.mpr e)
 have X:l.length<=ZG:=by rw [<-Im n,r.length_eq];exact hn
 have go :∀(j:ZN) (m:Nat),(∀b o,b≠D->h'.get? b=some o->j.get? b=some o)->j.get? D=some { cls:=.type "list",data:=.seq #[] m }->M8 (P1 prog w) A (.builtin "list.extend.loop" ⟨[.ref D,.ref I,.ref D],[]⟩) R { s with heap:=j,drawn:=d }:=by
  intro j m C P;refine codeAny_extend_loopS (s:={ s with heap:=j,drawn:=d }) (W A.in1 hh).toS X D B (.ref D) l.length 0 #[] m rfl (K2 _) ((W A.in1 hh).frame 0 h' j U λ b g o e=>C b o (λ z=>B (z ▸ g)) e) P (ItemsOf.nil _) λ s' acc c u J G=>?_;rw [Moved.eq_with u];refine hR s'.heap s'.toks d acc c ms (λ b o g e=>u.heap b o (λ z=>?_) (C b o g (k b o e))) J ?_ r
  ·rcases List.mem_cons.mp z with y|y
   ·exact g y
   ·exact ZU (T0 e) (by rw [List.mem_singleton.mp y];exact Nat.not_lt.mpr M)
  ·have:acc.toList=l:=by
    apply i9;intro i;by_cases z:i < acc.size
    ·have x:acc[i]? = some acc[i]:=T1 z;rw [G2,x];exact (G.2 i _ x).symm
    ·have V:l.length<=i:=by have:=G.1;lia
     rw [G2,L4 (Nat.not_lt.mp z),R3 V]
   rw [this];exact n
 have p :∀a:Args,(o9 "list.extend.loop" a).quiet=true:=λ a=>j5d PySem.F.plain_extend_loop _;refine j8i (λ _=>?_) (λ _=>A0 ⟨p _,go h' 0 (λ b o _ e=>e) (k _ _ hD)⟩);refine o0 (j5j (o0 (show X0 _ _ (updateSeq D (·.push .none) >>= λ _=>updateSeq D (·.pop)) _ _ _ from o0 (wpAny_updateSeq (k _ _ hD) rfl ?_))));have q:=T3 (g7 (·.push Y2)) (k _ _ hD) rfl;refine wpAny_updateSeq (hz:=by seq_fits) q rfl (A0 ⟨p _,?_⟩);have Q:=T3 (g7 (·.pop)) q rfl;exact go _ _ (λ b o g e=>(G7 _ _ (W5 g)).trans ((G7 _ _ (W5 g)).trans e)) Q
def Ic {R:List ZH->I0->Prop} (hh:A.handled=none) (hS:iq (!w.params.followText "set-order") s.heap S ns) (hn:ns.length<=ZG)
  (h :∀h' tk d vs ms,(∀b o,s.heap.get? b=some o->h'.get? b=some o)->hU vs ms->ms.Perm ns->R vs { s with heap:=h',toks:=tk,drawn:=d }):X0 (P1 prog w) A (collect (.ref S)) R E s:=by
 unfold collect;refine o0 (j9a (X5 entry_proto_collect' ?_));rw [j2j PySem.F.plain_proto_collect _];refine (show X0 _ A.in1 (newList [] >>= λ l=>again (.builtin "list.__iadd__" ⟨[l,.ref S],[]⟩)) _ _ s from o0 (M3 (A0 ⟨j5d j7c _,X5 entry_list_iadd' ?_⟩)));rw [j2j j7c _];have p:(s.heap.push { cls:=.type "list",data:=.seq ([]:List ZH).toArray }).get? s.heap.objs.size=some { cls:=.type "list",data:=.seq #[] }:=U0 _ rfl;have key:=Jc (prog:=prog) (A:=A) (s:={ s with heap:=s.heap.push { cls:=.type "list",data:=.seq ([]:List ZH).toArray } }) (S:=S) (D:=s.heap.objs.size) (ns:=ns)
  (R:=λ (q:j9j) (m:I0)=>∃(h':ZN) (tk:Nat) (d:Drawn) (a:Array ZH) (c:Nat) (ms:List ZH),q=.ok (.ret (.ref s.heap.objs.size))/\m={ s with heap:=h',toks:=tk,drawn:=d }/\(∀b o,s.heap.get? b=some o->h'.get? b=some o)/\h'.get? s.heap.objs.size=some { cls:=.type "list",dict:=none,data:=.seq a c,slots:=#[] }/\hU a.toList ms/\ms.Perm ns)
  hh (hS.at' λ o e=>G0 _ e) p hn λ h' tk d a c ms k g j i=>⟨h',tk,d,a,c,ms,rfl,rfl,λ b o e=>k b o (K1 (T0 e)) (G0 _ e),g,j,i⟩
 refine K5 key (λ f m x=>?_) λ e m x=>?_
 ·cases f with
  | done f=>obtain ⟨h',tk,d,a,c,ms,e,rfl,k,g,j,i⟩:=x;cases e;refine (show X0 _ A (load s.heap.objs.size >>= _) _ _ _ from o0 (j9b g (A0 (h h' tk d a.toList ms k j i))))
  | again c₁=>refine ⟨x.1,L8 x.2 λ q r y=>?_⟩;obtain ⟨h',tk,d,a,c,ms,rfl,rfl,k,g,j,i⟩:=y;refine (show X0 _ A (load s.heap.objs.size >>= _) _ _ _ from o0 (j9b g (A0 (h h' tk d a.toList ms k j i))))
 ·obtain ⟨_,_,_,_,_,_,n,_⟩:=x;cases n
def dE.at' {h h':ZN} (k :∀o,h.get? a=some o->h'.get? a=some o) (kt :∀b o vs n,h.get? b=some o->o.cls=.type "tuple"->o.data=.seq vs n->h'.get? b=some o) (x:dE w G l h a ds):dE w G l h' a ds:=by obtain ⟨g,f,t,e,c,d,r⟩:=x;exact ⟨g,f,t,k _ e,c,bp (λ _ _ z=>⟨z.1.keep kt,z.2⟩) d,r⟩
def dE.cls {h:ZN} (x:dE w G l h a ds) :∃o,h.get? a=some o/\o.cls=.type "set":=by obtain ⟨c,b,t,e,_⟩:=x;exact ⟨_,e,rfl⟩
theorem ka {b:Bool} {l:ZS} {items:Array ZH} (nsi:S≠it) (nsl:S≠l) (nil':it≠l) :∀(ms:List ZL) (i:Nat) (ns:List ZL) (A:P2) (R:j9j->I0->Prop) (s:I0),A.handled=none->A.units + 20 < ZF->s.heap.IsListIter it l i->s.heap.IsList l items->
  af (λ v d=>bK s.heap v d/\G v d) (items.toList.drop i) ms->dE w G b s.heap S ns->ns.length + ms.length<=306->
  (∀h' tk ns',dE w G b h' S ns'->ns'.Perm (ms.foldl dN ns)->(∀c o,c≠S->c≠it->s.heap.get? c=some o->h'.get? c=some o)->R (.ok (.ret .none)) { s with heap:=h',toks:=tk })->
  M8 (P1 prog w) A (o9 "set.update.loop" { pos:=[.ref S,.ref it],kw:=[] }) R s
 | [],i,ns,A,R,s,hh,hu,si,sl,al,dd,hz,q=>by
  have L:items[i]? = none:=by
   cases hd:items.toList.drop i with
   | nil=>have:=List.drop_eq_nil_iff.mp hd;rw [B1] at this;exact L4 this
   | cons u us=>rw [hd] at al;cases al
  refine X5 m9 ?_;show X0 _ _ (P7 (.ref it) >>= _) _ _ s;obtain ⟨Z,r,y,_⟩:=id si;refine o0 (T9 (show (A.under _).handled=none from hh) si sl L λ h' t=>?_);refine A0 (q h' s.toks ns (dd.at' (λ o e=>t S o nsi e) λ c o g n a f _=>t c o (λ z=>?_) a) (Z4 _) λ c o _ P e=>t c o P e);rw [z,r] at a;cases a;rw [y] at f;exact ZU f (by decide)
 | m :: ms,i,ns,A,R,s,hh,hu,si,sl,al,dd,hz,q=>by
  cases hd:items.toList.drop i with
  | nil=>rw [hd] at al;cases al
  | cons u us=>
   rw [hd] at al;cases al with
   | cons ku al=>
    have hi:items.toList[i]? = some u:=by have:=ZT (λ l=>l[0]?) hd;simpa using this
    have O:items[i]? = some u:=by simpa using hi
    have a0:items.toList.drop (i + 1)=us:=by have:=ZT List.tail hd;simpa using this
    refine X5 m9 ?_;show X0 _ _ (P7 (.ref it) >>= _) _ _ s;obtain ⟨Z,r,y,_⟩:=id si;refine o0 (C9 si sl O λ h a1 j=>?_);have x :∀c o g n,s.heap.get? c=some o->o.cls=.type "tuple"->o.data=.seq g n->h.get? c=some o:=λ c o g n a f _=>(j.2 c λ z=>by rw [z,r] at a;cases a;rw [y] at f;exact ZU f (by decide)).trans a;have X:h.IsList l items:=by obtain ⟨o,a,f⟩:=sl;exact ⟨o,(j.2 l (W5 nil')).trans a,f⟩
    have B:dE w G b h S ns:=dd.at' (λ o e=>(j.2 S nsi).trans e) x;rw [W0] at hz;refine o0 (F3 (show X0 _ _ (setAdd S u) _ _ _ from ?_));unfold setAdd;have C:=ku.1.keep x;obtain ⟨M,x2,bb,as,rfl,U⟩:=id C;have un:(A.under (o9 "set.update.loop" { pos:=[.ref S,.ref it],kw:=[] })).units<=A.units + 1:=by rw [j2j (by decide +kernel) _];exact L0 _
    refine F3 (o0 (xu m _ as _ _ _ M U (by lia) ?_));refine FG (s:={ s with heap:=h,toks:=s.toks + fK m }) (by lia) B C ku.2 (by lia) λ c p F k K H=>?_;refine A0 ⟨zh _,?_⟩;obtain ⟨oS,Q,cS⟩:=B.cls;have W :∀c o g n,h.get? c=some o->o.cls=.type "tuple"->o.data=.seq g n->p.get? c=some o:=λ c o g n a f _=>(k.2 c λ z=>by rw [z,Q] at a;cases a;rw [cS] at f;exact ZU f (by decide)).trans a;have T:p.IsListIter it l (i + 1):=by obtain ⟨o,a,f⟩:=a1;exact ⟨o,(k.2 it (W5 nsi)).trans a,f⟩
    have J:p.IsList l items:=by obtain ⟨o,a,f⟩:=X;exact ⟨o,(k.2 l (W5 nsl)).trans a,f⟩
    have l2:F.length<=ns.length + 1:=by rw [H.length_eq];exact yN ns m
    refine ka nsi nsl nil' ms (i + 1) F A R { s with heap:=p,toks:=s.toks + fK m } hh hu T J (by rw [a0];exact bp (λ _ _ z=>⟨(z.1.keep x).keep W,z.2⟩) al) K (by lia) λ h' V ns' Y N I=>q h' V ns' Y (N.trans (Ah ms H)) λ c o E D e=>I c o E D ((k.2 c E).trans ((j.2 c D).trans e))
def Ey {h:ZN} (e:h.get? a=some (cQ w)):dE w G (!w.params.followText "set-order") h a []:=
 ⟨#[],0,_,e,rfl,.nil,B3,m_ _ _ _,rfl⟩
theorem DH {l:ZS} {items:Array ZH} {ns:List ZL} (hh:A.handled=none) (ht:s.heap.IsList l items) (hi:af (λ v d=>bK s.heap v d/\G v d) items.toList ns) (hu:A.units + 30 < ZF) (hb:ns.length<=306)
  (h :∀h' tk ns',dE w G (!w.params.followText "set-order") h' s.heap.objs.size ns'->ns'.Perm (ns.foldl dN [])->(∀b o,s.heap.get? b=some o->h'.get? b=some o)->Q (.ref s.heap.objs.size) { s with heap:=h',toks:=tk }) :
  X0 (P1 prog w) A (call (.type "set") [.ref l]) Q E s:=by
 obtain ⟨c,T,a1⟩:=F.called_set.mro;have a2:=F.called_set.made;have a5:=F.called_set.sub;refine wpAny_call (codeAny_of_tree (show X0 _ _ (callAny (.type "set") _) _ _ _ from A0 ⟨Code.quiet_builtin _ (by decide +kernel),X5 F.entry_type_call ?_⟩));rw [k0i (weight_type_call_type "set" [.ref l] []) rfl];have Z:=F.called_set.notType;have h2:=F.called_set.canCreate;have P:=F.typeCall_set_1 (.ref l)
 (repeat (any_goals (first|assumption|wp_step)));refine L8 (zC (.ref l) (E:=E) (Q₁:=λ t m=>t=.ref s.heap.objs.size/\m={ s with heap:=s.heap.push (cQ w) }) ⟨rfl,rfl⟩) λ r m f=>?_
 cases r with
 | error e=>exact f
 | ok fl=>
  cases fl with
  | next=>exact f.elim
  | brk=>exact f.elim
  | cont=>exact f.elim
  | ret t=>
   obtain ⟨rfl,rfl⟩:=f;have i:(s.heap.push (cQ w)).get? s.heap.objs.size=some (cQ w):=U0 _ rfl;have C:v8 { s with heap:=s.heap.push (cQ w) } (.ref s.heap.objs.size) "set":=⟨_,i,rfl⟩
   have V:=F.called_set.init.lookup;have X:=F.called_set.init.bind (.ref s.heap.objs.size)
   (repeat (any_goals (first|assumption|wp_step)))
   have J:M8 (P1 prog w) A.in1 (.call (.builtin "set.__init__") ⟨[.ref s.heap.objs.size,.ref l],[]⟩) (wants (λ r x=>r=.none/\Q (.ref s.heap.objs.size) x) E) { s with heap:=s.heap.push (cQ w) }:=by
    refine j4c F.called_set.init.plain F.entry_set_init (check_set_init_1 C ?_);obtain ⟨o,g,q,n,u⟩:=ht;obtain ⟨R,K,a4,D⟩:=o;dsimp only at q u;subst q u;have L:(s.heap.push (cQ w)).get? l=some { cls:=.type "list",dict:=K,data:=.seq items n,slots:=D }:=G0 _ g;have U:=BG;have a0:=zR;have a3:(U4 "list" == U4 "dict")=false:=by decide
    have Y:(s.heap.push (cQ w)).get? s.heap.objs.size=some { cls:=.type "set",dict:=none,data:=.set #[] 0 (.fresh 0 0 (!w.params.followText "set-order")),slots:=#[] }:=i;have B:(s.heap.push (cQ w)).IsList l items:=⟨_,L,rfl,n,rfl⟩
    have p:l < s.heap.objs.size:=T0 g;unfold O6.«set.__init__» noKeywords j2i;generalize hPI:j60=PI
    wp_walk
    subst hPI;refine c8 B (o0 (j9a ?_));have k :∀b o,s.heap.get? b=some o->((s.heap.push (cQ w)).push { cls:=.type "list_iterator",data:=.fields #[.ref l,.int 0 0] }).get? b=some o:=λ b o e=>G0 _ (G0 _ e);have j:(s.heap.push (cQ w)).objs.size=s.heap.objs.size + 1:=v5 _ _;refine ka (G:=G) (S:=s.heap.objs.size) (it:=(s.heap.push (cQ w)).objs.size) (l:=l) (items:=items) (by rw [j];exact K1 (F4 _)) (J3 p) (by rw [j];exact J3 (C3 p)) ns 0 [] _ _ _ (by simp [hh]) (by first|(simp only [units_in1];lia)|(show A.units + 1 + 1 + 1 + 20 < ZF;lia)|(show A.units + 1 + 1 + 20 < ZF;lia)|(show A.units + 1 + 20 < ZF;lia)) ⟨_,U0 _ rfl,rfl,rfl⟩ ⟨_,k _ _ g,rfl,n,rfl⟩ (by rw [j7h];exact bp (λ _ _ z=>⟨z.1.keep λ c o W n I _ _=>k c o I,z.2⟩) hi) (Ey (G0 _ i)) (by simpa using hb) λ h' tk ns' O H y=>?_;refine A0 (A0 ⟨rfl,h h' tk ns' O H λ b o e=>y b o (K1 (T0 e)) (by rw [j];exact K1 (C3 (T0 e))) (k b o e)⟩)
   refine L8 J λ M x a=>?_;cases M with
   | error e=>exact a
   | ok f2=>
    cases f2 with
    | next=>exact a.elim
    | brk=>exact a.elim
    | cont=>exact a.elim
    | ret r=>obtain ⟨rfl,N⟩:=a;exact A0 (A0 N)
end
noncomputable def mP:dF:=⟨0,0,⟨#[]⟩,none⟩
section
theorem BU {h:ZN} :∀{vs:List ZH} {rs:List dF},af (λ v r=>bK h v (bR r)) vs rs->∃fs,PySem.W.KatTups h vs fs/\fs.length=vs.length/\∀f∈fs,PySem.W.Looks (P1 prog w) h (typeOf f) (.type "int")
 | _,_,.nil=>⟨[],trivial,rfl,λ _ h=>ZU h P0⟩
 | _,_,.cons (b:=r0) a r=>by
  obtain ⟨fs,l,x,p⟩:=BU r;obtain ⟨b,o,vs,m,n,y,z,u,B,rfl,j,t,e,d,_⟩:=iM a;have i:vs[0]? = some (.int r0.a n):=by rw [<-G2,d];rfl
  refine ⟨_ :: fs,PySem.W.KatTups.cons j t e i l,by rw [W0,W0,x],λ g c=>?_⟩;rcases List.mem_cons.mp c with rfl|c
  ·exact λ A Q E s k q=>N7 (T:="int") (j9d s _ _) q
  ·exact p g c
open Classical in
noncomputable def pW (rs:List dF) (i j:Nat):Bool:=decide (kA (rs.getD i mP) (rs.getD j mP))
theorem Hh {vs:List ZH} {rs:List dF} {n0:Nat} {P:PySem.Fin->I0->Prop} (ho:s.heap.get? a=some (j00 "list" vs.toArray n0)) (l64:vs.length < 64) (al:af (λ v r=>bK s.heap v (bR r)) vs rs) (nd:rs.Nodup) (cm :∀x∈rs,∀y∈rs,kK x y) (hu:A.units + 9 < ZF)
  (h :∀(h':ZN) (e:Nat) (p:List Nat),p.Perm (N0 vs.length)->(∀b o,b≠a->s.heap.get? b=some o->h'.get? b=some o)->h'.get? a=some (j00 "list" (p.map λ i=>vs.getD i Y2).toArray e)->P (.done (.ret .none)) { s with heap:=h' }) :
  X0 (P1 prog w) A (O6.«list.sort» ⟨[.ref a],[]⟩) P E s:=by
 have sz:vs.length<=ZG:=M0 (y4 l64) (by decide);have lk:rs.length=vs.length:=cz al;have la:a < s.heap.objs.size:=T0 ho;obtain ⟨g,X⟩ :∃g,(s.heap.update a (g7 λ _=>(#[]:Array ZH))).get? a=some (j00 "list" #[] g):=⟨_,get?_update_seq ho λ _=>#[]⟩
 rw [list_sort_plain];refine o0 (listItems_at ho rfl (o0 (listUpdate_at ho rfl (o0 (seqEpoch_at X rfl (o0 (wpAny_newTuple (o0 (j5c (F3 ?_) (K2 _))) (by simpa using sz))))) (by simpa using sz) (K2 _))));dsimp only;generalize hh3:((s.heap.update a (g7 λ _=>(#[]:Array ZH))).push (j00 "tuple" vs.toArray 0)).push (j00 "list" #[] 0)=h3;have s1:=y3 s.heap a (g7 λ _=>(#[]:Array ZH));have U :∀b o,b≠a->s.heap.get? b=some o->h3.get? b=some o:=λ b o n e=>by rw [<-hh3];exact G0 _ (G0 _ ((s1.2 b n).trans e))
 have l:h3.get? a=some (j00 "list" #[] g):=by rw [<-hh3];exact G0 _ (G0 _ X)
 have N:af (λ v r=>bK h3 v (bR r)) vs rs:=bp (λ _ _ z=>z.keep λ b o vs n g e2 _=>U b o (λ z=>by rw [z,ho] at g;cases g;exact ZU (show U4 "list" = U4 "tuple" from e2) (by decide)) g) al;have H :∀(k:Array ZH) (p:List Nat),p.Perm (N0 vs.length)->k=(p.map λ i=>vs.getD i Y2).toArray->P (.done (.ret .none)) { s with heap:=h3.update a (g7 λ _=>k) }:=λ k p B f=>by
  obtain ⟨F,K⟩ :∃F,(h3.update a (g7 λ _=>k)).get? a=some (j00 "list" k F):=⟨_,get?_update_seq l λ _=>k⟩
  rw [f] at K⊢;exact h _ F p B (λ b o n e=>(G7 _ _ (W5 n)).trans (U b o n e)) K
 have J :∀p:List Nat,p.Perm (N0 vs.length)->(p.map λ i=>vs.getD i Y2).toArray.size<=ZG + 1:=λ p B=>by rw [Q0,q0,B.length_eq,Q1];exact M0 sz (z7 _)
 by_cases d:vs.toArray.size < 2
 ·rw [ZZ d];have G:vs.length < 2:=by simpa using d
  have D:(N0 vs.length).map (λ i=>vs.getD i Y2)=vs:=by
   apply j22
   ·simp
   ·intro i h1 d;simp [W4,C0 d]
  refine o0 (A0 ?_);rw [ZZ d];refine (show X0 _ _ (i5 ((),SortSt.mk' general' (vs.toArray.zip vs.toArray) #[] 7 none) >>= _) _ _ _ from o0 (A0 ?_));dsimp only;have f:j8h (λ x=>x.snd) (arrOf (SortSt.mk' general' (vs.toArray.zip vs.toArray) #[] 7 none))=((N0 vs.length).map λ i=>vs.getD i Y2).toArray:=by
   rw [D];show j8h (λ x=>x.snd) (vs.toArray.zip vs.toArray)=vs.toArray;apply Array.ext
   ·simp
   ·intro i h1 d;simp
  refine o0 (seqEpoch_at l rfl (o0 (listUpdate_at l rfl ?_ (K2 _) ?_)))
  ·simp only [bne_self_eq_false,j0c,if_false];exact A0 (H _ _ (Z4 _) f)
  ·rw [f];exact J _ (Z4 _)
 ·rw [Z_ d];have G:2<=vs.length:=by simpa using Nat.not_lt.mp d
  obtain ⟨fs,kt,lf,a0⟩:=BU (prog:=prog) (w:=w) N;refine o0 (PySem.W.kat_kind (T:=.type "int") kt (by lia) a0 (by decide) ?_);rw [Z_ d];obtain ⟨p,D,L⟩:=(EH (n:=vs.length) G).run (pW rs);rw [show (U4 "int" != U4 "tuple")=true by decide];have O :∀i,i < vs.length->bK h3 (vs.getD i Y2) (bR (rs.getD i mP)):=λ i u=>by have V:rs[i]? = some (rs[i]'(by lia)):=C0 (by lia);obtain ⟨v,Y,z⟩:=dQ N V;rw [W4,W4,Y,V];exact z
  have S :∀i,i < vs.length->rs.getD i mP∈rs:=λ i u=>by rw [W4,C0 (show i < rs.length by lia)];exact o7 _
  have Z:(j16 vs.length).kasWp (PySem.W.kas_ask prog w A (tuples' true) vs) (λ M m=>m={ s with heap:=h3 }/\M=p) { s with heap:=h3 }:=Ak (c:=pW rs) (n:=vs.length) (λ i j C u R ne q=>nB (s:={ s with heap:=h3 }) (O i u) (O j R) (cm _ (S i u) _ (S j R)) hu q) (j16 vs.length) p D ⟨rfl,rfl⟩;refine o0 (K5 (PySem.W.kat_run (κ:=tuples' true) (ks:=vs) (vs:=vs) (Q:=λ t m=>m={ s with heap:=h3 }/\failedOf t=none/\j8h (λ x=>x.snd) (arrOf t)=(p.toList.map λ i=>vs.getD i Y2).toArray) rfl G l64 (λ M t m a1 a2 a3 I=>⟨I.1,a3,by rw [<-I.2];exact PySem.W.kat_snds rfl a2⟩) Z) ?_ λ _ _ z=>z);rintro ⟨⟨⟩,t⟩ m ⟨rfl,hf,f⟩;dsimp only at hf f⊢;refine o0 (seqEpoch_at l rfl (o0 (listUpdate_at l rfl ?_ (K2 _) ?_)))
  ·rw [hf];simp only [bne_self_eq_false,j0c,if_false];exact A0 (H _ _ L f)
  ·rw [f];exact J _ L
def vh {x y:dF} (h:bR x=bR y):x=y:=by obtain ⟨a,b,k,n⟩:=x;obtain ⟨e,f,d,c⟩:=y;unfold bR at h;injection h with h;injection h with h1 h;injection h with h2 h;injection h with h3 h;injection h with h4 _;injection h1 with h1;injection h2 with h2;injection h3 with h3;dsimp only at h1 h2 h3 h4;rw [h1,h2,h3];cases n<;>cases c<;>cases h4<;>rfl
theorem G_ {rs:List dF} (hh:A.handled=none) (hu:A.units + 30 < ZF) (hS:dE w G (!w.params.followText "set-order") s.heap S ds) (hd :∀d,d∈ds->∃r∈rs,d=bR r) (cm :∀x∈rs,∀y∈rs,kK x y) (hn:ds.length < 64)
  (h :∀(h1 h':ZN) (tk:Nat) (dr:Drawn) (out:List ZH) (rs':List dF) (e:Nat),(∀b o,s.heap.get? b=some o->h1.get? b=some o)->(∀b o,h1.get? b=some o->h'.get? b=some o)->h'.get? h1.objs.size=some (j00 "list" out.toArray e)->af (λ v r=>G v (bR r)) out rs'->rs'.Nodup->(∀r,r∈rs'↔bR r∈ds)->Q (.ref h1.objs.size) { s with heap:=h',toks:=tk,drawn:=dr }) :
  X0 (P1 prog w) A (call (.builtin "sorted") [.ref S]) Q E s:=by
 obtain ⟨P,ep,t,ho,eh,Y,Z,T,hl⟩:=hS;have F:P.size=ds.length:=by rw [<-B1,<-q0 (f:=(·.2)),cz Y]
 have SV:iq (!w.params.followText "set-order") s.heap S (P.toList.map (·.2)):=⟨P,ep,t,ho,rfl,by rw [F];exact m8 hn (by decide),wq T (by rw [q0];exact F),hl,T.ris⟩
 refine j0g kind_sorted plain_sorted entry_sorted (args_sorted1 _) ?_;unfold O6.«sorted»;refine o0 (m:=checkCount "sorted" 1 1 _) (A0 (o0 (Ic (A:=A.in1) hh SV (by rw [q0,B1,F];exact M0 (y4 hn) (by decide)) λ h1 tk dr k ms k1 i1 X=>?_)));obtain rfl:k=ms:=i1;have kt :∀b o u n,s.heap.get? b=some o->o.cls=.type "tuple"->o.data=.seq u n->h1.get? b=some o:=λ b o _ _ e _ _=>k1 b o e;have a6 :∀(u:List ZH) (ds:List ZL),af (λ v d=>bK s.heap v d/\G v d) u ds->(∀d,d∈ds->∃r∈rs,d=bR r)->∃c:List dF,c.map bR=ds/\af (λ v r=>bK h1 v (bR r)/\G v (bR r)) u c/\∀r∈c,r∈rs:=λ u ds q=>by
  induction q with
  | nil=>exact λ _=>⟨[],rfl,.nil,λ _ h=>ZU h P0⟩
  | cons a _ ih=>
   intro hd;obtain ⟨c,D,J,L⟩:=ih λ d B=>hd d (Z0 _ B);obtain ⟨r,M,e⟩:=hd _ Y0;subst e;refine ⟨r :: c,by rw [O0,D],.cons ⟨a.1.keep kt,a.2⟩ J,λ x B=>?_⟩;rcases List.mem_cons.mp B with rfl|B
   ·exact M
   ·exact L x B
 have a4 :∀{u us':List ZH} {c:List dF} {R:ZH->dF->Prop},us'.Perm u->af R u c->∃I,I.Perm c/\af R us' I:=λ {u us' c R} p q=>by
  induction p generalizing c with
  | nil=>exact ⟨c,Z4 _,q⟩
  | cons x _ ih=>
   cases q with
   | cons a r=>obtain ⟨I,h1,O⟩:=ih r;exact ⟨_ :: I,h1.cons _,.cons a O⟩
  | swap x y l=>
   cases q with
   | cons a r=>cases r with
    | cons b r=>exact ⟨_,R9 _ _ _,.cons b (.cons a r)⟩
  | trans _ _ ih1 ih2=>obtain ⟨d1,C,a1⟩:=ih2 q;obtain ⟨d2,p2,a2⟩:=ih1 a1;exact ⟨d2,p2.trans C,a2⟩
 obtain ⟨a7,D,J,L⟩:=a6 _ _ Y hd;obtain ⟨c,C,q⟩:=a4 X J;have U:c.Nodup:=C.nodup_iff.mpr (by rw [<-D,j0a,X6] at Z;exact List.nodup_iff_pairwise_ne.mpr (Z.imp λ z e=>z (ZT bR e)));have a0 :∀r∈c,r∈rs:=λ r M=>L r (C.mem_iff.mp M);have a5 :∀r,r∈c↔bR r∈ds:=λ r=>by rw [C.mem_iff,<-D,j51];exact ⟨λ h=>⟨r,h,rfl⟩,λ ⟨x,B,e⟩=>vh e ▸ B⟩
 have V:k.length=ds.length:=by rw [X.length_eq,q0,B1,F]
 have a3:k.length<=ZG:=by rw [V];exact M0 (y4 hn) (by decide)
 refine o0 (j5c ?_ a3);have W:(h1.push (j00 "list" k.toArray 0)).get? h1.objs.size=some (j00 "list" k.toArray 0):=U0 _ rfl;refine o0 (F3 (N3 j9e ⟨_,W,rfl⟩ j90 (Hh (s:={ s with heap:=h1.push (j00 "list" k.toArray 0),toks:=tk,drawn:=dr }) W (by rw [V];exact hn) (bp (λ _ _ z=>z.1.keep λ b o _ _ e _ _=>G0 _ e) q) U (λ x B y hy=>cm x (a0 x B) y (a0 y hy)) (show A.units + 1 + 1 + 9 < ZF by lia) λ h' e p K k2 g=>⟨_,rfl,?_⟩) (j9h _)));have lq:c.length=k.length:=cz q;have N:(p.map λ i=>c.getD i mP).Perm c:=by
  refine (K.map _).trans (k0g ?_);apply j22
  ·rw [q0,Q1,lq]
  ·intro i h1 O;simp [W4,C0 O]
 refine A0 ⟨_,rfl,h h1 h' tk dr (p.map λ i=>k.getD i Y2) (p.map λ i=>c.getD i mP) e k1 (λ b o e=>k2 b o (K1 (T0 e)) (G0 _ e)) g ?_ (N.nodup_iff.mpr U) λ r=>?_⟩
 ·have H :∀i∈p,i < k.length:=λ i H=>List.mem_range.mp (K.mem_iff.mp H);clear K N g;induction p with
  | nil=>exact .nil
  | cons i p ih=>have h0:=H i Y0;refine .cons ?_ (ih λ j hj=>H j (Z0 _ hj));obtain ⟨v,hv,z⟩:=dQ q (show c[i]? = some (c[i]'(by lia)) from C0 (by lia));show G (k.getD i Y2) (bR (c.getD i mP));rw [W4,W4,hv,C0 (show i < c.length by lia)];exact z.2
 ·rw [<-a5 r];exact N.mem_iff
end
def n8 (K:B0) (te:TE):TE:=λ σ H Q=>te σ H λ x H1=>∃(a:ZS) (vs:List V) (rs:List dF),x=.ref a/\av K H1 a vs/\af (λ v r=>bY K H1 (bR r) v) vs rs/\(∀r∈rs,cU (bR r)=true)/\(∀x∈rs,∀y∈rs,kK x y)/\rs.length < 64/\
 ∀(l:ZS) (vs':List V) (rs':List dF),H1 l=none->af (λ v r=>bY K H1 (bR r) v) vs' rs'->rs'.Nodup->(∀r,r∈rs'↔r∈rs)->Q (.ref l) (upd H1 l (.lst vs'))
variable {e:ZO} {te:TE}
section
variable {X:Cx}
def EX {r:dF} {v:V} (h:bY K H (bR r) v) :∃b,v=.ref b:=by
 obtain ⟨a,c,e,_⟩:=(show∃a c,v=V.ref a/\_ from h)
 exact ⟨a,e⟩
theorem HL {p1 p2 c1 c2:ZP} {k:Nat} (hr:cF k X.A) (hcalm:X.calm=true) (g1:Gl X "sorted") (m1:X.mg "sorted" = none) (g2:Gl X "set") (m2:X.mg "set" = none) (b1:K6 "sorted" = some (.builtin "sorted")) (b2:K6 "set" = some (.type "set")) (ha:PE X e te)
  (he:A2 [e] X.env=[(false,T4 e X.env)]:=by rfl):PE X (.Call (.Name "sorted" p1) [.Call (.Name "set" p2) [e] [] c2] [] c1) (n8 X.K te):=by
 intro J s σ H Q I h;have P:X.A.handled=none:=I.ok.hd hcalm;have a1:=hr.units;refine M5 (cL I g1 m1 b1 ?_ (by decide) (by decide));refine Q8 ?_ rfl rfl;refine (show X0 _ _ (j4h ((false,T4 (.Call (.Name "set" p2) [e] [] c2) X.env) :: [])) _ _ s from Z3 ?_);refine M5 (cL I g2 m2 b2 ?_ (by decide) (by decide));refine K3 ?_ he rfl;rw [he];refine (show X0 _ _ (j4h ((false,T4 e X.env) :: [])) _ _ s from Z3 (br (ha J s σ H _ I h) λ u m ⟨x,H1,I1,r1,a,i,rs,ex,sq,w,p,cm,hl,q⟩=>?_));subst ex;cases r1;refine c5 ?_;obtain ⟨S,f,T,hz⟩:=I1.list sq;have dp :∀r:dF,(bR r).depth<=7:=λ r=>by cases hn:r.n<;>simp [bR,nD,hn,PyData.depth,Q2]
 have all :∀(i:List V) (l:List ZH) (rs:List dF),aD i l->af (λ v r=>bY X.K H1 (bR r) v) i rs->(∀r∈rs,cU (bR r)=true)->af (λ v d=>bK m.heap v d/\∃b,v=O2 b/\bY X.K H1 d (.ref b)) l (rs.map bR):=λ i l rs f w=>by
  induction w generalizing l with
  | nil=>intro _;cases f;exact .nil
  | cons a _ ih=>
   intro p;cases f with
   | cons r1 f=>obtain ⟨b,rfl⟩:=EX a;cases r1;obtain ⟨as,rd⟩:=lF I1 _ (.ref b) (.ref b) a rfl;exact .cons ⟨⟨p _ Y0,dp _,b,as,rfl,rd⟩,b,rfl,a⟩ (ih _ f λ r hr=>p r (Z0 _ hr))
 refine DH (G:=λ v d=>∃b,v=O2 b/\bY X.K H1 d (.ref b)) P T.isList (by simpa using all i S rs f w p) (by lia) (by rw [q0];exact M0 (y4 hl) (by decide)) λ h2 tk Z U L Y=>c5 ?_;have D :∀d,d∈Z↔d∈rs.map bR:=λ d=>by rw [L.mem_iff,Ac];simp
 refine G_ (rs:=rs) (s:={ m with heap:=h2,toks:=tk }) P (by lia) U (λ d hd=>?_) cm ?_ λ O h4 W d M B e k3 R g a0 t E=>?_
 ·obtain ⟨r,hr,e⟩:=List.mem_map.mp ((D d).mp hd);exact ⟨r,hr,e.symm⟩
 ·rw [L.length_eq];have:=yR (rs.map bR) [];rw [q0,v6,i8] at this
  lia
 have N:Inv X J σ H1 { m with heap:=O,drawn:=d }:=(I1.drew d).kept (t':=m.toks) λ b o z=>k3 b o (Y b o z);obtain ⟨c,F,j⟩ :∃c,aD c M/\af (λ v r=>bY X.K H1 (bR r) v) c B:=by
  clear g t E;induction a0 with
  | nil=>exact ⟨[],.nil,.nil⟩
  | cons a _ ih=>obtain ⟨c,F,j⟩:=ih;obtain ⟨b,rfl,z⟩:=a;exact ⟨.ref b :: c,.cons rfl F,.cons z j⟩
 have ml:B.length < 64:=by refine W1 (Z8 t λ r hr=>?_) hl;obtain ⟨r2,C,y⟩:=List.mem_map.mp ((D _).mp ((E r).mp hr));exact vh y ▸ C
 refine ⟨.ref O.objs.size,_,N.laid (t':=W) (o:=.lst c) R (L0 _) ⟨?_,M,e,F,g⟩,rfl,q _ c B (N.hok.fresh (L0 _)) j t λ r=>?_⟩
 ·rw [<-cz j];exact M0 (y4 ml) (by decide)
 ·rw [E r,D];constructor
  ·intro z;obtain ⟨r2,C,y⟩:=List.mem_map.mp z;exact vh y ▸ C
  ·exact λ z=>List.mem_map.mpr ⟨r,z,rfl⟩
end
def kF (td ty tx:TE):TE:=λ σ H Q=>td σ H λ x H1=>∃a,x=.ref a/\sx H1 a/\ty σ H1 λ y H2=>tx σ H2 λ z H3=>∃kvs k,H3 a=some (.dK kvs)/\y=kV k/\kvs.length < ZG/\
 (∀v,aH kvs k=some v->Q v H3)/\(aH kvs k=none->Q z (upd H3 a (.dK (putK kvs k z))))
section
variable {X:Cx} {o f:ZO} {td ty tx:TE}
theorem tG (ho:PE X o td) (he:PE X e ty) (hf:PE X f tx) (m:M2 X o "setdefault" apos e f cpos):PE X (.Call (.Attribute o "setdefault" apos) [e,f] [] cpos) (kF td ty tx):=by
 intro g s σ H Q I h;refine j6f m.base m.few m.line d7 j58 PySem.F.type_dict_setdefault (br (ho g s σ H _ I h) λ u B ⟨x,H1,I1,rx,a,ex,d,q1⟩=>?_);subst ex;obtain rfl:u=O2 a:=rx;obtain ⟨L,D,_⟩:=fm I1 d;refine ⟨L,D,?_⟩;rw [m.trees];refine y6 rfl (O9 (Z3 (br (he g B σ H1 _ I1 q1) λ O t ⟨y,H2,I2,ry,q2⟩=>Z3 (br (hf g t σ H2 _ I2 q2) λ K P ⟨z,H3,I3,rz,kvs,k,ea,ey,hl,q3,q4⟩=>c5 ?_))));subst ey;obtain ⟨J,l,i,c,n⟩:=fJ I3.hok ea;have M:i.length<=ZG:=by rw [<-c.length];exact J
 refine j14 j58 n.typeIs PySem.F.entry_dict_setdefault (PySem.F.args_dict_setdefault_3 _ _ _) (kt_meets_setdefault (eJ X.prog X.w) a (eW ry) l K) ⟨i,n,M,λ v p=>?_,λ A N j C=>?_⟩
 ·have r:=c.val k;rw [p] at r;cases b:aH kvs k with
  | none=>rw [b] at r;exact ZU r (by simp [dP])
  | some v'=>rw [b] at r;exact ⟨v',H3,I3.tok _,r,q3 v' b⟩
 ·have r:=c.val k;rw [A] at r;have b:aH kvs k=none:=by
   cases b:aH kvs k with
   | none=>rfl
   | some v'=>rw [b] at r;exact ZU r (by simp [dP])
  have G:(putK kvs k z).length<=ZG:=by have:=tQ kvs k z;lia
  have E :∃q,N.get? a=some q:=let ⟨q,_,_,hq,_⟩:=j;⟨q,hq⟩;exact ⟨z,_,xf I3 (by rw [ea];exact True.intro) C E (iK G l (c.put k rz) j),rz,q4 b⟩
end
def mi:V->List V->Hp->VK->Prop:=λ x vs H Q=>∃y z,x=.str y/\vs=[.str z]/\Q (.int (Txt.find y z)) H
section
variable {X:Cx}
def EF:lZ X "str.find" mi:=by intro f s σ H x c v e Q I a b h;obtain ⟨y,z,rfl,rfl,q⟩:=h;obtain ⟨t,rfl⟩:=a;obtain ⟨u,rfl,d,rfl⟩:=b.one;exact SC.find ⟨.int _,H,I.tok _,⟨_,rfl⟩,q⟩
def HY {o:ZO} {es:List ZO} {t:TA} (ho:PE X o to) (ha:PA X (e :: es) t)
  (hbase:F5 o "find" X.env (T4 o X.env)=T4 o X.env:=by rfl)
  (hfew:((r6 cpos (A2 (e :: es) X.env)).all (λ x=>!x.1) && (b9 cpos (P6 [] X.env)).all (λ x=>x.1.isSome) && decide ((e :: es).length + ([]:List d6).length + (if ([]:List d6).isEmpty then 0 else 1) < 30))=true:=by rfl)
  (hline:(apos.endLine == cpos.line)=true:=by rfl) (hs:A2 (e :: es) X.env=(false,T4 e X.env) :: A2 es X.env:=by rfl) (hplain:(r6 cpos (A2 es X.env)).any (·.1)=false:=by rfl) :
  PE X (.Call (.Attribute o "find" apos) (e :: es) [] cpos) (kW X.K "str" mi to t):=fA j82 F.slot_str_find F.type_str_find EF ho ha hbase hfew hline hs hplain
end
section
theorem Dx {v d:ZS} (hv:s.heap.IsItemsView v d) (hm:ki s.heap d es ep)
  (hQ:Q (.ref s.heap.objs.size) { s with heap:=s.heap.push { cls:=.type "dict_itemiterator",data:=.fields #[.none,.bool false,.ref d,.int 0 0,.int es.size 0,.int ep 0,.none,.none] } }):X0 (P1 prog w) A (j60 (.ref v)) Q E s:=by
 obtain ⟨g,e,h,c⟩:=id hv;obtain ⟨o,a,_,b⟩:=hm;refine j6d hv.typeIs F.slot_dict_items_iter (N3 F.slot_dict_items_iter hv.typeIs F.entry_dict_items_iter ?_ (F.args_dict_items_iter_1 _));unfold O6.«dict_items.__iter__»;refine o0 (A0 (o0 ?_));unfold Builtin.Dict_items.dictOf;refine o0 (i7 e c (x:=.ref d) rfl (A0 (o0 ?_)));unfold Builtin.Dict_items.newIterator;refine o0 (j6e a b (o0 (j8j a b ?_)));have f:K8 "dict_itemiterator" = true:=by decide
 simp only [f,if_true];refine M3 (A0 ⟨_,rfl,"dict_itemiterator",_,⟨_,U0 _ rfl,rfl⟩,F.slot_dict_itemiterator_next.lookup,?_⟩)
  (by simp only [sizeOk,j0i,Q0,F0,W0,v6,sizeLine_eq];lia)
 simpa [F6,j0i] using hQ
theorem JF {d:ZS} {e:ZI} {ok ov:ZH} {Q:Option ZH->I0->Prop} (hit:v9 s.heap it d i es.size ep ok ov) (hm:ki s.heap d es ep) (hx:es[i]? = some e)
  (hQ :∀h',IsItemIterOut h' it d (i + 1) es.size ep e.key e.val s.heap.objs.size->h'.get? s.heap.objs.size=some { cls:=.type "tuple",data:=.seq #[e.key,e.val] }->h'.objs.size=s.heap.objs.size + 1->(∀b o,b≠it->s.heap.get? b=some o->h'.get? b=some o)->Q (some (.ref s.heap.objs.size)) { s with heap:=h' }) :
  X0 (P1 prog w) A (P7 (.ref it)) Q E s:=by
 obtain ⟨a,g,q,tk,p⟩:=s;obtain ⟨P,J,_,K⟩:=hm;have l:v8 ⟨a,g,q,tk,p⟩ (.ref it) "dict_itemiterator":=⟨_,hit,rfl⟩
 have N:K8 "dict_itemiterator" = true:=by decide
 unfold P7;refine o0 (Y7 (K4 (name:=P4 "__next__") l L7 (N3 L7 l j77 ?_ (j6c _))));refine o0 (A0 (o0 (o0 ?_)));refine o0 (K7 l (A0 ?_));refine o0 (F9 hit rfl ?_);simp only [N,if_true];show X0 _ _ (if (O2 d == Y2)=true then _ else _) _ _ _;rw [Z_ (by simp)];refine o0 (A0 (o0 (j6e J K ?_)));rw [Z_ (by simp)];refine o0 (A0 (o0 (j8j J K ?_)));rw [Z_ (by simp)];refine A0 ?_;simp only [show ¬ ((i:Int) < 0) from by lia,if_false,Q5,hx];refine o0 (o0 (K7 l (A0 ?_)));refine o0 (j38 l ?_);show X0 _ _ (setField (.ref it) 3 (F6 ((i:Int) + 1)) >>= _) _ _ ⟨a,g,q,tk,p⟩;refine o0 (q9 hit (by simp) λ c k h=>?_);replace h:v4 it a c:=h;replace k:v9 c it d (i + 1) es.size ep ok ov:=by
  have e:((i + 1:Nat):Int)=(i:Int) + 1:=by lia
  unfold v9;rw [e];simpa [F6] using k
 have F:v8 ⟨c,g,q,tk,p⟩ (.ref it) "dict_itemiterator":=⟨_,k,rfl⟩
 refine o0 (F3 (o0 (j38 F (o0 (j38 F ?_)))));show X0 _ _ (j1g (.ref it) 6 e.key e.val) _ _ ⟨c,g,q,tk,p⟩;unfold j1g;refine o0 (wpAny_newTuple ?_);have r:v9 (c.push { cls:=.type "tuple",data:=.seq #[e.key,e.val] }) it d (i + 1) es.size ep ok ov:=G0 _ k;generalize hh₂:c.push { cls:=.type "tuple",data:=.seq #[e.key,e.val] }=h₂ at r;have u:c.objs.size=a.objs.size:=h.1;have v:it < a.objs.size:=T0 hit;have O:h₂.get? a.objs.size=some { cls:=.type "tuple",data:=.seq #[e.key,e.val] }:=by rw [<-hh₂,<-u];exact U0 _ rfl
 have M:h₂.objs.size=a.objs.size + 1:=by rw [<-hh₂,v5,u]
 have L :∀b o,b≠it->a.get? b=some o->h₂.get? b=some o:=λ b o f e=>by rw [<-hh₂];exact G0 _ (h.extBut b o f e)
 show X0 _ _ (j0h (.ref it) >>= _) _ _ ⟨h₂,g,q,tk,p⟩;rw [u];clear hh₂ k h F u c;refine o0 ?_;unfold j0h;refine o0 (i7 r rfl (x:=.none) rfl (A0 ?_));simp only [if_true];refine o0 (i7 r rfl (x:=ok) rfl (o0 (i7 r rfl (x:=ov) rfl ?_)));refine o0 (q9 r (by simp) λ I z n=>?_);replace n:v4 it h₂ I:=n;replace z:v9 I it d (i + 1) es.size ep e.key ov:=z;refine o0 (q9 z (by simp) λ H D t=>?_);replace t:v4 it I H:=t;replace D:v9 H it d (i + 1) es.size ep e.key e.val:=D;refine o0 (q9 D (by simp) λ B C j=>?_);replace j:v4 it H B:=j;replace C:IsItemIterOut B it d (i + 1) es.size ep e.key e.val a.objs.size:=C;refine o0 (q9 C (by simp) λ y G m=>?_);replace m:v4 it B y:=m;replace G:IsItemIterOut y it d (i + 1) es.size ep e.key e.val a.objs.size:=G;refine o0 (wpAny_letGo (A0 (A0 ⟨_,rfl,A0 (hQ y G ?_ ?_ ?_)⟩)))
 ·exact m.extBut _ _ (J3 v) (j.extBut _ _ (J3 v) (t.extBut _ _ (J3 v) (n.extBut _ _ (J3 v) O)))
 ·show y.objs.size=a.objs.size + 1;rw [m.1,j.1,t.1,n.1,M]
 ·exact λ b o f e=>m.extBut b o f (j.extBut b o f (t.extBut b o f (n.extBut b o f (L b o f e))))
theorem nO {d:ZS} {ok ov:ZH} {Q:Option ZH->I0->Prop} (hh:A.handled=none) (hit:v9 s.heap it d i es.size ep ok ov) (hm:ki s.heap d es ep) (hx:es[i]? = none)
  (hQ :∀h',j65 it s.heap h'->Q none { s with heap:=h' }):X0 (P1 prog w) A (P7 (.ref it)) Q E s:=by
 obtain ⟨j,f,_,c⟩:=hm;have a:s.TypeIs (.ref it) "dict_itemiterator":=⟨_,hit,rfl⟩
 have h:K8 "dict_itemiterator" = true:=by decide
 unfold P7;refine o0 (Y7 (K4 (name:=P4 "__next__") a L7 (N3 L7 a j77 ?_ (j6c _))));refine o0 (A0 (o0 (o0 ?_)));refine o0 (K7 a (A0 ?_));refine o0 (F9 hit rfl ?_);simp only [h,if_true];show X0 _ _ (if (O2 d == Y2)=true then _ else _) _ _ s;rw [Z_ (by simp)];refine o0 (A0 (o0 (j6e f c ?_)));rw [Z_ (by simp)];refine o0 (A0 (o0 (j8j f c ?_)));rw [Z_ (by simp)];refine A0 ?_;simp only [show ¬ ((i:Int) < 0) from by lia,if_false,Q5,hx];refine o0 (o0 (K7 a (A0 ?_)));show X0 _ _ (setField (.ref it) 2 .none >>= _) _ _ s;refine o0 (U6 hit rfl (by simp) ?_);refine kT hh λ h' k=>hQ h' ?_;exact λ b o g e=>k b o (((y3 ..).2 b g).trans e)
end
variable {kvs:List (List Key×V)}
section
variable {X:Cx} {pins:List (ZS×ZQ)} 
def Inv.noFrzT (I:Inv X pins σ H s) (e:H a=some (.dT kvs)) :∀o w,X.H₀ a≠some (.frz o w):=λ o w q=>by have z:=I.base.frzs a o w q;rw [e] at z;cases z
def Inv.freezeT (I:Inv X pins σ H s) (e:H a=some (.dT kvs)) (ho:s.heap.get? a=some ob):Inv X pins σ (upd H a (.frz ob (.dT kvs))) s:=
 I.retold e (λ _ z=>by cases z) (λ _ z=>by cases z) (λ _ z=>by cases z) (I.noFrzT e) ⟨ho,by
  obtain ⟨z,y,h,r,o,j,g,b,i,f,d,c⟩:=(show aY X.prog X.w H s.heap a (.dT kvs) from I.hok a _ e)
  exact ⟨z,y,h,Paired.mapP r λ p q w=>⟨w.1,by rw [ae (aK w.2.1 e λ z=>nomatch z)];exact w.2.1,w.2.2⟩,o,j,g,b,i,f,d,c⟩⟩
def AV (I:Inv X pins σ H s) (hob:ob.data=.dict es ep) (e:H a=some (.frz ob (.dT kvs))):ki s.heap a es ep/\es.size=kvs.length/\∀(i:Nat) k v,kvs[i]? = some (k,v)->∃en b,es[i]? = some en/\en.key=.ref b/\H b=some (.tup (k.map kV))/\RelV v en.val:=by
 obtain ⟨f,_,_,x,r,o,p,t,c,m,g,d,u⟩:=(show aY X.prog X.w H s.heap a (.frz ob (.dT kvs)) from I.hok a _ e)
 rw [f] at c;cases c;rw [hob] at g;cases g;refine ⟨⟨_,f,m,hob⟩,?_,λ i k v h=>?_⟩
 ·rw [<-B1,d,q0];exact (y9 r).symm
 ·obtain ⟨q,j,y,l,n⟩:=tu r h;refine ⟨_,q.2.1,by rw [<-G2,d,C1,j];rfl,rfl,l,n⟩
end
noncomputable def hJ (a:ZS) (ob:ZQ) (kvs:List (List Key×V)):It:=
 ⟨λ i H=>H a=some (.frz ob (.dT kvs))/\i < kvs.length,λ i H x H'=>∃p b k v,H p=none/\x=.ref p/\kvs[i]? = some (k,v)/\H b=some (.tup (k.map kV))/\H'=upd H p (.tup [.ref b,v]),λ i H=>H a=some (.frz ob (.dT kvs))/\kvs.length<=i⟩
theorem Ez (hob:ob.data=.dict es ep):Turn P w K (.Tuple elts x1 pos) (hJ a ob kvs) [it] it (λ i h=>∃ok ov,v9 h it a i kvs.length ep ok ov) where
 mem:=by simp
 obj:=λ i h d b f=>by
  obtain rfl:b=it:=by simpa using f
  obtain ⟨ok,ov,e⟩:=d;exact ⟨_,e,λ v z=>by cases (show j1c _=j07 v from z)⟩
 keep:=λ i h D d k=>by obtain ⟨ok,ov,e⟩:=d;exact ⟨ok,ov,k it (by simp) _ e⟩
 item:=by
  intro X t q m g i Q s σ H E I l d n;subst t q m;obtain ⟨r,C⟩:=n;obtain ⟨p,j,at'⟩:=AV I hob r;have F:kvs[i]? = some kvs[i]:=C0 C;obtain ⟨x,b,M,O,f,J⟩:=at' i _ _ F;obtain ⟨ok,ov,d⟩:=d;rw [<-j] at d;have N:it < s.heap.objs.size:=T0 d;have A:s.heap.objs.size≠it:=J3 N;refine JF d p M λ D T G hz L=>?_;refine ⟨_,rfl,j93 T λ h2 u B=>?_⟩;have k2 :∀b o,b∉[it]->s.heap.get? b=some o->h2.get? b=some o:=λ b o f z=>by have f:b≠it:=λ z=>f (List.mem_singleton.mpr z);exact (B.2 b f).trans (L b o f z)
  have y:=(B.2 _ A).trans G;have fr:H s.heap.objs.size=none:=I.hok.fresh (L0 _);rw [j] at u;refine ⟨.ref s.heap.objs.size,upd H s.heap.objs.size (.tup [.ref b,kvs[i].2]),I.turnedLaid (t':=s.toks) k2 l (L0 _) ⟨gp,[x.key,x.val],.cons O (.cons J .nil),⟨_,y,rfl,_,rfl⟩,_,y,rfl⟩ ,rfl,⟨_,b,_,_,fr,rfl,F,f,rfl⟩,⟨_,_,u⟩,λ c g=>?_⟩;rw [ae (λ (z:c=s.heap.objs.size)=>A (z ▸ List.mem_singleton.mp g))];exact (l c g).1
 done:=by intro X t q m g i Q s σ H E I l d n;subst t q m;obtain ⟨r,C⟩:=n;obtain ⟨p,j,_⟩:=AV I hob r;obtain ⟨S,f1,f2,Y,Z,R⟩:=l it (by simp);obtain ⟨ok,ov,d⟩:=d;rw [<-j] at d;exact nO (I.ok.hd g) d p (L4 (by lia)) λ D U=>⟨rfl,I.turned (t':=s.toks) (λ b o f e=>U b o f e) S f1 Y Z R⟩
 self:=λ _ _ _ _ _ d h=>by obtain ⟨ok,ov,d⟩:=d;exact PySem.W.kcp_self d h
def IH (td:TE):TI:=λ σ H R=>td σ H λ x H1=>∃a kvs,x=.ref a/\H1 a=some (.dT kvs)/\∀ob,R (hJ a ob kvs) (upd H1 a (.frz ob (.dT kvs)))
section
variable {X:Cx}
def JB {d:ZS} (hd:(d == z6)=false) (h:ki s.heap d es ep)
  (q:Q (.ref s.heap.objs.size) { s with heap:=s.heap.push { cls:=.type "dict_items",data:=.fields #[.ref d] } }):X0 (P1 prog w) A (call (.builtin "dict.items") [.ref d]) Q E s:=by
 obtain ⟨o,c,⟨f,j,g⟩,i⟩:=h;have b:s.TypeIs (.ref d) "dict":=⟨o,c,f⟩
 refine N3 G8 b j74 ?_ (j6b _);unfold O6.«dict.items»;refine o0 ?_;unfold Builtin.Dict.noArgs;have no:X0 (P1 prog w) A.in1 (j5b "items" ⟨[.ref d],[]⟩) (λ _ a=>a=s) (λ _ _=>False) s:=by unfold j5b;rw [ZZ (by decide +kernel)];refine o0 (N7 b ?_);rw [Z_ (by decide)];exact A0 rfl
 refine o0 (K5 no (λ _ a e=>?_) λ _ _ z=>z.elim);subst e;refine (show X0 _ _ (i5 d) _ _ _ from A0 ?_);show X0 _ _ (j66 d >>= _) _ _ _;unfold j66;rw [Z_ (by rw [hd];decide)];refine o0 (A0 ?_);exact o0 (M3 (A0 ⟨_,rfl,q⟩))
def Gm {o:ZO} (ho:PE X o to) (hbase:F5 o "items" X.env (T4 o X.env)=T4 o X.env:=by rfl) (hline:(apos.endLine == cpos.line)=true:=by rfl):PI X (.Tuple elts x1 tpos) (.Call (.Attribute o "items" apos) [] [] cpos) (IH to):=by
 intro j s σ H R I h;refine wpAny_Call_method0_late hbase hline (br (ho j s σ H _ I h) λ v c ⟨x,H1,I1,r1,a,kvs,ex,ea,q⟩=>?_);subst ex;cases r1;obtain ⟨y,r,B⟩:=fm I1 (.inr ⟨_,.inl ea⟩);obtain ⟨_,u,C,p,d,z,A,i,k,g,t,D⟩:=(show aY X.prog X.w H1 c.heap a (.dT kvs) from I1.hok a _ ea)
 refine ⟨"dict","dict.items",d7,G8,j7b,y,r,y6 rfl (k06 ?_)⟩;refine JB u ⟨d,i,k,g⟩ ?_;have l :∀b o,c.heap.get? b=some o->(c.heap.push { cls:=.type "dict_items",data:=.fields #[.ref a] }).get? b=some o:=λ b o e=>G0 _ e;have f:Inv X j σ (upd H1 a (.frz d (.dT kvs))) { c with heap:=c.heap.push { cls:=.type "dict_items",data:=.fields #[.ref a] } }:=(I1.freezeT ea i).kept (t':=c.toks) l;have n:z.size=kvs.length:=by rw [<-B1,t,q0];exact (y9 p).symm
 refine Dx (s:={ c with heap:=c.heap.push { cls:=.type "dict_items",data:=.fields #[.ref a] } }) ⟨_,U0 _ rfl,rfl,rfl⟩ ⟨d,l _ _ i,k,g⟩ ?_;generalize hh2:c.heap.push { cls:=.type "dict_items",data:=.fields #[.ref a] }=h2 at f;refine ⟨h2.objs.size,[h2.objs.size],_,_,_,rfl,f.kept (t':=c.toks) λ b o e=>G0 _ e,Ez g,⟨_,_,by rw [<-n];exact U0 _ rfl⟩,λ b m=>?_,q d⟩;obtain rfl:b=h2.objs.size:=by simpa using m
 exact f.fpOk (L0 _) (f.hok.fresh (L0 _))
end
theorem Hl {tb:TS} (Pv:Nat->St->Hp->Prop) (h0:Pv 0 σ H) (fr :∀i σ H,Pv i σ H->H a=some (.frz ob (.dT kvs)))
  (hs :∀i k v σ H p b,kvs[i]? = some (k,v)->Pv i σ H->H p=none->H b=some (.tup (k.map kV))->g (.ref p) σ (upd H p (.tup [.ref b,v])) λ σ2 H2=>tb { D with nx:=Pv (i + 1),ct:=Pv (i + 1),bk:=D.nx } σ2 H2) (hd :∀σ H,Pv kvs.length σ H->D.nx σ H) :
  ∃W:Nat->Nat->St->Hp->Prop,(∃m,W 0 m σ H)/\∀i m σ H,W i m σ H->
   ((hJ a ob kvs).stop i H/\D.nx σ H)\/((hJ a ob kvs).go i H/\∃N:St->Hp->Prop,(∀σ' H',N σ' H'->∃m',m' < m/\W (i + 1) m' σ' H')/\∀x H',(hJ a ob kvs).yld i H x H'->g x σ H' λ σ2 H2=>tb { D with nx:=N,ct:=N,bk:=D.nx } σ2 H2):=by
 refine ⟨λ i m σ H=>m=kvs.length - i/\i<=kvs.length/\Pv i σ H,⟨kvs.length,by simp,K2 _,h0⟩,?_⟩;rintro i m σ H ⟨rfl,hi,p⟩;by_cases hlt:i < kvs.length
 ·refine .inr ⟨⟨fr _ _ _ p,hlt⟩,Pv (i + 1),λ σ' H' q=>⟨kvs.length - (i + 1),by lia,rfl,hlt,q⟩,λ x H' y=>?_⟩;obtain ⟨c,b,k,v,f,rfl,d,e,rfl⟩:=y;exact hs i k v σ H c b d p f e
 ·obtain rfl:i=kvs.length:=by lia
  exact .inl ⟨⟨fr _ _ _ p,L0 _⟩,hd σ H p⟩
def Hi {kvs:List (Key×V)} {H1:Hp} (hq :∀H,Same H1 H->H a=some (.frz ob (.dK kvs))):fv Same (jk a ob kvs) H1 kvs.length (λ i x H=>∃p k v,x=.ref p/\kvs[i]? = some (k,v)/\H p=some (.tup [kV k,v])):=
 ⟨λ i b H s=>⟨hq H s,b⟩,λ H s=>⟨hq H s,L0 _⟩,λ i b H v e s y=>by obtain ⟨p,k,v,c,rfl,d,rfl⟩:=y;exact ⟨Same.upd c,p,k,v,rfl,d,aB⟩⟩
section
variable {kvs:List (Key×V)} {td:TE} {tc:TT} {fr:List (Nat×ZR)} {σ:L2.St} {Q:VK}
def AI {H':Hp} {l:ZS} {o:HO} (ea:H a=some (.dK kvs)) (s':Same (upd H a (.frz ob (.dK kvs))) H') (hl:H' l=none):Same H (upd (upd H' l o) a (.dK kvs))/\H l=none/\l≠a:=by
 have f:H' a=some (.frz ob (.dK kvs)):=s' _ _ aB;have d:l≠a:=λ z=>by rw [z,f] at hl;cases hl
 refine ⟨λ b o e=>?_,?_,d⟩
 ·by_cases z:b=a
  ·rw [z] at e⊢;rw [ea] at e;cases e;exact aB
  ·have c:H' b=some o:=s' b o (by rw [ae z];exact e);rw [ae z,ae (λ y=>by rw [y,hl] at c;cases c)];exact c
 ·cases hx:H l with
  | none=>rfl
  | some o=>have:=s' l o (by rw [ae d];exact hx);rw [hl] at this;cases this
def kC (p:Nat->Bool) (R:Nat->V->Hp->Prop) (hR :∀i y H1 H2,Same H1 H2->R i y H1->R i y H2) (htd :∀R:VK,R (.ref a) H->td σ H R) (ea:H a=some (.dK kvs)) (hn:kvs.length<=ZG)
  (body :∀ob i k v q,kvs[i]? = some (k,v)->∀H1,Same (upd H a (.frz ob (.dK kvs))) H1->H1 q=some (.tup [kV k,v])->∀(KT:VK) (KF:Hp->Prop),(p i=true->∀y H',Same H1 H'->R i y H'->KT y H')->(p i=false->∀H',Same H1 H'->KF H')->
   g (.ref q) (aE σ fr (A1 m none)) H1 λ σ6 H6=>∃us,us.length=m/\σ6=aE σ fr us/\tc (aE σ fr us) H6 λ b H2=>if b=true then te (aE σ fr us) H2 KT else KF H2)
  (hQ :∀ob l H' ys,Same (upd H a (.frz ob (.dK kvs))) H'->H' l=none->Same H (upd (upd H' l (.lst ys)) a (.dK kvs))->H l=none->l≠a->af (λ i y=>R i y H') ((N0 kvs.length).filter p) ys->Q (.ref l) (upd (upd H' l (.lst ys)) a (.dK kvs))):kD (cu (kZ td) m fr g tc te) σ H Q:=by
 refine ⟨a,kvs,ea,htd _ ⟨a,kvs,rfl,ea,λ ob=>?_⟩⟩;have f :∀{H':Hp},Same (upd H a (.frz ob (.dK kvs))) H'->H' a=some (.frz ob (.dK kvs)):=λ s=>s _ _ aB;refine mB (S:=Same) (H1:=upd H a (.frz ob (.dK kvs))) (Q:=λ v e=>(∃ob,e a=some (.frz ob (.dK kvs)))/\Q v (upd e a (.dK kvs))) (fr:=fr) (g:=g) (tc:=tc) (te:=te) (σ:=σ) (m:=m) (Same.refl _) (λ _ _ _ a b=>a.trans b) p R hR (Hi λ H s=>f s) hn (λ i C v H1 j w KT KF n r=>?_) λ l H' ys c h B=>?_
 ·obtain ⟨q,k,u,rfl,x,z⟩:=w;exact body ob i k u q x H1 j z KT KF n r
 ·obtain ⟨A,t,d⟩:=AI (o:=.lst ys) ea c h;exact ⟨⟨ob,by rw [ae d.symm];exact f c⟩,hQ ob l H' ys c h A t d B⟩
def oz (p:Nat->Bool) (R:Nat->V->Hp->Prop) (hR :∀i y H1 H2,Same H1 H2->R i y H1->R i y H2) (htd :∀R:VK,R (.ref a) H->td σ H R) (ea:H a=some (.dK kvs)) (hn:kvs.length<=ZG)
  (body :∀ob i k v,kvs[i]? = some (k,v)->∀H1,Same (upd H a (.frz ob (.dK kvs))) H1->∀(KT:VK) (KF:Hp->Prop),(p i=true->∀y H',Same H1 H'->R i y H'->KT y H')->(p i=false->∀H',Same H1 H'->KF H')->
   g (kV k) (aE σ fr (A1 m none)) H1 λ σ6 H6=>∃us,us.length=m/\σ6=aE σ fr us/\tc (aE σ fr us) H6 λ b H2=>if b=true then te (aE σ fr us) H2 KT else KF H2)
  (hQ :∀ob l H' ys,Same (upd H a (.frz ob (.dK kvs))) H'->H' l=none->Same H (upd (upd H' l (.lst ys)) a (.dK kvs))->H l=none->l≠a->af (λ i y=>R i y H') ((N0 kvs.length).filter p) ys->Q (.ref l) (upd (upd H' l (.lst ys)) a (.dK kvs))):kD (cu (l_ td) m fr g tc te) σ H Q:=by
 refine ⟨a,kvs,ea,htd _ ⟨a,kvs,rfl,ea,λ ob=>?_⟩⟩;have f :∀{H':Hp},Same (upd H a (.frz ob (.dK kvs))) H'->H' a=some (.frz ob (.dK kvs)):=λ s=>s _ _ aB;refine mB (S:=Same) (H1:=upd H a (.frz ob (.dK kvs))) (Q:=λ v e=>(∃ob,e a=some (.frz ob (.dK kvs)))/\Q v (upd e a (.dK kvs))) (fr:=fr) (g:=g) (tc:=tc) (te:=te) (σ:=σ) (m:=m) (Same.refl _) (λ _ _ _ a b=>a.trans b) p R hR (Jr (S:=Same) (λ _ _=>Same.refl _) λ H s=>f s) hn (λ i A v H1 j t KT KF n q=>?_) λ l H' ys c h z=>?_
 ·obtain ⟨k,u,w,rfl⟩:=t;exact body ob i k u w H1 j KT KF n q
 ·obtain ⟨x,r,d⟩:=AI (o:=.lst ys) ea c h;exact ⟨⟨ob,by rw [ae d.symm];exact f c⟩,hQ ob l H' ys c h x r d z⟩
end
def pj (K:B0) (H:Hp) (kvs:List (Key×V)) (rows:List (Key×List Int)):Prop:=af (λ (kv:Key×V) (r:Key×List Int)=>kv.1=r.1/\∃l,kv.2=.ref l/\av K H l (r.2.map V.int)) kvs rows
theorem AQ {k:Key} {ns:List Int} :∀{kvs:List (Key×V)} {rows:List (Key×List Int)},pj K H kvs rows->(rows.map (·.1)).Nodup->(k,ns)∈rows->∃l,aH kvs k=some (.ref l)/\av K H l (ns.map V.int)
 | _,_,.nil,_,h=>ZU h P0
 | (k',v) :: kvs,(k2,ns2) :: rows,.cons a r,nd,h=>by
  obtain ⟨c,l,b,g⟩:=a;have c:k'=k2:=c;have b:v=.ref l:=b;subst c b;rw [O0,L3] at nd;rcases List.mem_cons.mp h with e|h
  ·cases e;exact ⟨l,by unfold aH;rw [C7 (by simp)];rfl,g⟩
  ·have ne:k≠k':=λ z=>nd.1 (List.mem_map.mpr ⟨_,h,z⟩);obtain ⟨i,d,f⟩:=AQ r nd.2 h;refine ⟨i,?_,f⟩;unfold aH at d⊢;rw [O5 (by simp;exact λ z=>ne z.symm)];exact d
section
variable {X:Cx}
def uz {o:ZO} {es:List ZO} {t:TA} (ho:PE X o to) (ha:PA X (e :: es) t)
  (hbase:F5 o "extend" X.env (T4 o X.env)=T4 o X.env:=by rfl)
  (hfew:((r6 cpos (A2 (e :: es) X.env)).all (λ x=>!x.1) && (b9 cpos (P6 [] X.env)).all (λ x=>x.1.isSome) && decide ((e :: es).length + ([]:List d6).length + (if ([]:List d6).isEmpty then 0 else 1) < 30))=true:=by rfl)
  (hline:(apos.endLine == cpos.line)=true:=by rfl) (hs:A2 (e :: es) X.env=(false,T4 e X.env) :: A2 es X.env:=by rfl) (hplain:(r6 cpos (A2 es X.env)).any (·.1)=false:=by rfl) :
  PE X (.Call (.Attribute o "extend" apos) (e :: es) [] cpos) (kW X.K "list" sF to t):=fA m6 PySem.F.slot_list_extend PySem.F.type_list_extend IJ ho ha hbase hfew hline hs hplain
end
section
variable {X:Cx}
def nX (K:B0):List V->Hp->VK->Prop:=λ xs H Q=>∃a ys kvs,xs=[.ref a]/\H a=some (.lst ys)/\af (λ (p:Key×V) y=>∃b,y=.ref b/\aG K H b [kV p.1,p.2]) kvs ys/\∀p,H p=none->Q (.ref p) (upd H p (.dK (dW [] kvs)))
def HC (hc:X.calm=true):cv X (.type "dict") (nX X.K):=by
 intro v s σ H P N Q I r h;obtain ⟨a,E,d,rfl,M,k,q⟩:=h;obtain ⟨u,rfl,t⟩:=vals1 r;cases (show u=O2 a from t);have m:X.A.handled=none:=I.ok.hd hc;have C:H s.heap.objs.size=none:=I.hok.fresh (L0 _);have big:=I.big;have p :∀(c:List (Key×ZH)) (h':ZN) (tk:Nat),KV d c->d.length<=ZG->X8 (eJ X.prog X.w) h' s.heap.objs.size (merged [] c)->(∀b o,b≠s.heap.objs.size->(s.heap.push { cls:=.type "dict",data:=.dict #[] }).get? b=some o->h'.get? b=some o)->
   EP X v σ Q (.ref s.heap.objs.size) { s with heap:=h',toks:=tk }:=λ c h' tk f G i g=>by
  refine ⟨.ref s.heap.objs.size,_,I.laid (a:=s.heap.objs.size) (o:=.dK (dW [] d)) (h':=h') (t':=tk) (λ b o e=>g b o (K1 (T0 e)) (G0 _ e)) (L0 _) ?_,rfl,q _ C⟩;exact iK (M0 (yU [] d) (by simpa using G)) (beq_eq_false_iff_ne.mpr (W5 (K1 big))) (KV.merge f .nil) i
 have len:E.length=d.length:=cz k;obtain ⟨z,O,n,J,R,e⟩:=I.lstM M;obtain ⟨c,f,D⟩:=zt I k J;refine callType_codes F.kt_called_dict (F.kt_typeCall_dict_1 _) F.entry_dict_init (kt_code_dict_new _ (Q₁:=λ l j=>l=.ref s.heap.objs.size/\j={ s with heap:=s.heap.push { cls:=.type "dict",data:=.dict #[] } }) ⟨rfl,rfl⟩) ?_;rintro l j ⟨rfl,rfl⟩;refine ⟨⟨_,U0 _ rfl,rfl⟩,F.args_dict_init_2 _ _,?_⟩;refine Kb (s:={ s with heap:=s.heap.push { cls:=.type "dict",data:=.dict #[] } }) (U0 _ rfl) (G0 _ e) m m (by simpa using bp (λ x y z=>cV.kept (L:=[]) (λ b o _ e=>G0 _ e) (λ b B=>ZU B P0) z) D) (by rw [<-y9 f,<-len];exact z) λ h' tk i g=>p c h' tk f (by rw [<-len];exact z) i g
end
def jR {P:Prop} (h :∀G:Prop,(P->G)->G):P:=h P id
def yj {t rest:TS} (R:St->Hp->Prop) (hr :∀σ1 H1,R σ1 H1->rest D σ1 H1) (h :∀D':Ends,(∀σ1 H1,R σ1 H1->D'.nx σ1 H1)->t D' σ H):ir t rest D σ H:=h { D with nx:=rest D } hr
section
variable {X:Cx}
def oa (K:B0) (ta:TA):TI:=λ σ H R=>ta σ H λ vs H1=>∃a b xs ys,vs=[.ref a,.ref b]/\av K H1 a xs/\av K H1 b ys/\R (jK K a b) H1
def Gy {f:ZO} {ta:TA} {p:ZP} (hg:Gl X "zip") (hm:X.mg "zip" = none) (ha:PA X [e,f] ta) (hs:A2 [e,f] X.env=[(false,T4 e X.env),(false,T4 f X.env)]:=by rfl) (hs2:A2 [f] X.env=[(false,T4 f X.env)]:=by rfl) :
  PI X (.Tuple elts x1 tpos) (.Call (.Name "zip" p) [e,f] [] pos) (oa X.K ta):=by
 intro g s σ H R I h;refine Call_ (cL I hg hm boot_zip (K3 (br (ha pos g s σ H _ I h) λ F d ⟨vs,H1,I1,r1,q1⟩=>?_) (by rw [hs,hs2]) (by rw [hs2];rfl)));obtain ⟨a,b,P,L,n,A,D,q⟩:=q1;subst n;obtain ⟨u,v,rfl,r,B⟩:=vals2 r1;cases (show u=O2 a from r);cases (show v=O2 b from B);have fC :∀c,c∈[d.heap.objs.size + 4,d.heap.objs.size + 2,d.heap.objs.size + 3,d.heap.objs.size,d.heap.objs.size + 1]->gb X g H1 c:=λ c k=>by
  have m:d.heap.objs.size<=c:=by
   simp only [X1,P0,or_false] at k;rcases k with rfl|rfl|rfl|rfl|rfl
   ·exact b6 _ _
   ·exact b6 _ _
   ·exact b6 _ _
   ·exact L0 _
   ·exact b6 _ _
  exact I1.fpOk m (I1.hok.fresh m)
 obtain ⟨M,J,i,_⟩:=I1.list A;obtain ⟨N,G,l,_⟩:=I1.list D;have z:a < d.heap.objs.size:=by obtain ⟨o,e,_⟩:=i.isList;exact T0 e
 have C:b < d.heap.objs.size:=by obtain ⟨o,e,_⟩:=l.isList;exact T0 e
 refine call_zip_2 i.isList l.isList λ O j y E w x _ t=>wpAny_pyIter_zip j ?_;exact ⟨_,_,_,_,H1,rfl,I1.kept (t':=d.toks) t,Jl (oq z C),⟨j,y,⟨_,_,E⟩,w,x⟩,fC,q⟩
theorem yw:∀{ns:List Int} {ys:List ZH},CarriedAll ys (ns.map J8)->aD (ns.map V.int) ys
 | [],_,h=>by cases h;exact .nil
 | n :: ns,_,h=>by
  cases h with
  | cons a r=>cases a;exact .cons ⟨_,rfl⟩ (yw r)
noncomputable def hA (n:Nat):List V:=((N0 n).map λ i=>((i:Nat):Int)).map V.int
def rA (te:TE):TE:=λ σ H Q=>te σ H λ x H1=>∃n:Nat,x=.int (n:Nat)/\n<=1000/\∀p,H1 p=none->Q (.ref p) (upd H1 p (.lst (hA n)))
theorem Cp {p1 p2 c1 c2:ZP} (hcalm:X.calm=true) (g1:Gl X "list") (m1:X.mg "list" = none) (g2:Gl X "range") (m2:X.mg "range" = none) (b1:K6 "list" = some (.type "list")) (ha:PE X e te)
  (he:A2 [e] X.env=[(false,T4 e X.env)]:=by rfl):PE X (.Call (.Name "list" p1) [.Call (.Name "range" p2) [e] [] c2] [] c1) (rA te):=by
 intro f s σ H Q I h;have y:X.A.handled=none:=I.ok.hd hcalm;refine M5 (cL I g1 m1 b1 ?_ (by decide) (by decide));refine K3 ?_ rfl rfl;refine (show X0 _ _ (j4h ((false,T4 (.Call (.Name "range" p2) [e] [] c2) X.env) :: [])) _ _ s from Z3 ?_);refine M5 (cL I g2 m2 boot_range ?_ (by decide) (by decide));refine K3 ?_ he rfl;rw [he];refine (show X0 _ _ (j4h ((false,T4 e X.env) :: [])) _ _ s from Z3 (br (ha f s σ H _ I h) λ u a ⟨x,H1,I1,r1,n,ex,hn,q⟩=>?_));subst ex;obtain ⟨t,rfl⟩:=r1;refine c5 ?_;refine call_range_1 (c5 ?_);have d:Inv X f σ H1 { a with heap:=a.heap.push { cls:=.type "range",data:=.fields #[.int 0 a.toks,.int (n:Nat) t,.int 1 (a.toks + 1)] },toks:=a.toks + 1 + 1 }:=I1.kept λ b o e=>G0 _ e;obtain ⟨m,v,_⟩:=d.loc;have sz:j52 0 ((n:Nat):Int) 1=((n:Nat):Int):=by rw [rangeSize_one];split<;>omega
 refine list_rangeD (h₀:={ objs:=#[] }) (L:=X.env.locals) (m:=m) (news:=[]) y ⟨v,λ b o e=>by simp [Heap.get?] at e,K2 _⟩ (λ p h=>ZU h P0) (IsRange.new ..) (small_one (by omega) (by omega) (by omega) (by omega)) sz (M0 hn (by decide)) λ D tk k _ _ l _ C w z=>?_;obtain ⟨c,r⟩:=w.1;have j:aD (hA n) k:=by
  have:=yw z;unfold rangeInts at this;unfold hA
  rwa [z8 (g:=λ i=>((i:Nat):Int)) (λ i _=>by omega)] at this
 have B:=j.length;refine ⟨.ref _,_,d.laid (t':=tk) (o:=.lst (hA n)) l (L0 _) ⟨?_,k,c,j,r⟩,rfl,q _ (d.hok.fresh (L0 _))⟩;unfold hA;rw [q0,q0,Q1];exact M0 hn (by decide)
end
def rR (K:B0):R2:=λ x y H Q=>∃a b kvs kvs' rows rows',x=.ref a/\y=.ref b/\H a=some (.dK kvs)/\H b=some (.dK kvs')/\pj K H kvs rows/\pj K H kvs' rows'/\(rows'.map (·.1)).Nodup/\∀e:Bool,(e=true↔rows.length=rows'.length/\∀r∈rows,r∈rows')->Q (.bl e) H
theorem Ao {k:Key} :∀{kvs:List (Key×V)} {rows:List (Key×List Int)},pj K H kvs rows->¬ k∈rows.map (·.1)->aH kvs k=none
 | _,_,.nil,_=>rfl
 | (k',v) :: kvs,(k2,ns2) :: rows,.cons a r,h=>by have b:k'=k2:=a.1;subst b;rw [O0,X1] at h;have:=Ao r λ z=>h (.inr z);unfold aH at this⊢;rw [O5 (by simp;exact λ z=>h (.inl z.symm))];exact this
section
variable {X:Cx}
theorem Lh {k:Nat} (hr:cF k X.A):c_ X (O3 .Eq) (rR X.K):=by
 intro a4 s σ H x y u v Q I rx ry h;obtain ⟨a,b,z,a6,a1,D,rfl,rfl,ea,eb,B,E,i,q⟩:=h;cases rx;cases ry;have a8:=hr.un;obtain ⟨za,sa,n,m,R⟩:=fJ I.hok ea;obtain ⟨zb,sb,vb,J,a3⟩:=fJ I.hok eb;have Z:n.length=a1.length:=by rw [<-m.length,cz B]
 have lb:vb.length=D.length:=by rw [<-J.length,cz E]
 have M :∀{l:ZS} {o:List Int},av X.K H l (o.map V.int)->∃vs:List ZH,s.heap.IsList l vs.toArray/\i6 vs o:=λ {l o} sq=>by obtain ⟨S,g,U,_⟩:=I.list sq;exact ⟨S,U.isList,by simpa using sX g⟩
 have a0 :∀{z:List (Key×V)} {n:List (Key×ZH)} {d:List (Key×List Int)},KV z n->pj X.K H z d->∃e:Bool,PySem.W.KeqHits X.A.in1 s vb n e/\(e=true↔∀r∈d,r∈D):=λ {z n d} m B=>by
  induction B generalizing n with
  | nil=>cases m;exact ⟨true,.nil,⟨λ _ _ h=>ZU h P0,λ _=>rfl⟩⟩
  | @cons kv r z d a _ ih=>
   cases m with
   | @cons _ p _ n j m=>
    obtain ⟨N,u0⟩:=p;obtain ⟨e1,l,e2,T⟩:=a;obtain ⟨C,L⟩:=j;have C:kv.1=N:=C;rw [e2] at L;cases L;have g:=J.val r.1;rw [e1] at C;subst C;obtain ⟨e,O,P⟩:=ih m;by_cases hm:r.1∈D.map (·.1)
    ·obtain ⟨⟨k1,o⟩,G,F⟩:=List.mem_map.mp hm;have F:k1=r.1:=F;subst F;obtain ⟨l2,h3,h4⟩:=AQ E i G;rw [h3] at g;cases hv:j39 vb r.1 with
     | none=>rw [hv] at g;exact ZU g (by simp [dP])
     | some y=>
      rw [hv] at g;cases (show y=O2 l2 from g);obtain ⟨a5,i1,j1⟩:=M T;obtain ⟨a7,i2,Y⟩:=M h4;have a2:=PySem.W.keq_ints (A:=X.A) (s:=s) i1 j1 i2 Y (show X.A.units + 1 + 64 < ZF by lia);have go :∀(d:List (Key×List Int)),(d.map (·.1)).Nodup->(r.1,o)∈d->(r.1,r.2)∈d->r.2=o:=λ d=>by
       induction d with
       | nil=>intro _ h;cases h
       | cons c d ih=>
        intro i j w;rw [O0,L3] at i;rcases List.mem_cons.mp j with e|j<;>rcases List.mem_cons.mp w with f|w
        ·rw [<-e] at f;exact ZT k0b f
        ·exact ZU (List.mem_map.mpr ⟨_,w,rfl⟩) (by rw [<-e] at i;exact i.1)
        ·exact ZU (List.mem_map.mpr ⟨_,j,rfl⟩) (by rw [<-f] at i;exact i.1)
        ·exact ih i.2 j w
      refine ⟨_,PySem.W.KeqHits.hit (kb:=vb) (k:=r.1) hv a2 O,?_⟩;rw [k0h,decide_eq_true_iff,P];refine ⟨λ h q t=>?_,λ h=>⟨go D i G (h r Y0),λ q t=>h q (Z0 _ t)⟩⟩;rcases List.mem_cons.mp t with t|t
      ·rw [t,show r=(r.1,o) by rw [<-h.1]];exact G
      ·exact h.2 q t
    ·rw [Ao E hm] at g;cases hv:j39 vb r.1 with
     | none=>exact ⟨false,.miss hv,⟨(λ h=>nomatch h),λ h=>ZU (List.mem_map.mpr ⟨r,h r Y0,rfl⟩) hm⟩⟩
     | some y=>rw [hv] at g;exact ZU g (by simp [dP])
 obtain ⟨e,j,w⟩:=a0 m B;refine PySem.W.keq_eq sa sb R a3 (by lia) (λ _=>j) ?_;rw [Z,lb];exact ⟨.bl _,H,I,rfl,q _ (by rw [k0h,beq_iff_eq,w])⟩
end
end L2
namespace K42
open TJ L2
noncomputable abbrev PX:ZK:=PySem.Challenge.pw_talejudge_k42_whole_by_all_orders
noncomputable abbrev jr:Option ZH:=some (.ref 6)
noncomputable abbrev lW:Code:=.body (behindTheImports PX) K42.pre.env_1
noncomputable abbrev qX:ZP:=⟨0,0,0,0⟩
noncomputable abbrev BX:List Frame:=[topFrame qX]
noncomputable def mV:List ZM:=(behindTheImports PX).drop 12
def rF:behindTheImports PX=K42.pre.sts_7++(K42.pre.sts_59++mV):=by kernel_rfl
noncomputable abbrev yy:ZP:=⟨20,0,21,8⟩
noncomputable abbrev vJ (w:U1) (os:f8):SharedT:=⟨K42.pre.tree_75 w.params,73,{},⟨[]⟩,{},267,os⟩
noncomputable abbrev vc:ZP:=⟨298,0,306,15⟩
noncomputable def wN (w:U1) (os:f8):Option (Flow×SharedT×Code×ZP):=PySem.W.Fast.tw10110043849684766642 PySem.W.Fast.tw14364793385576792824 PX w 11 jr 1 1190 (vJ w os) ⟨(PySem.W.Fast.tw12563942051412417395 mV K42.pre.env_1).wrap doneF deadEnd id id,lW,yy,BX⟩
noncomputable def jL (w:U1) (os:f8):SharedT:=match wN w os with|some r=>r.2.1|none=>vJ w os
def nC (w:U1) (os:f8):wN w os=some (.next,jL w os,lW,vc):=by kernel_rfl
def GV (w:U1) (os:f8):segRun w9 PX w 11 jr 1 1190 (vJ w os).abs (piecesOf mV K42.pre.env_1 lW yy BX)=some (.next,(jL w os).abs,lW,vc):=by have e:=nC w os;unfold wN at e;rw [<-PySem.W.Fast.te10110043849684766642,<-j23,<-PySem.W.Fast.te12563942051412417395] at e;exact segRun_of e
noncomputable def ud (w:U1) (os:f8):SharedT:=⟨K42.pre.tree_6 w.params,15,{},⟨[]⟩,{},187,os⟩
def mZ (w:U1) (os:f8):topGo w9 PX w 11 jr 12 ⟨boot_heap w.params,Array.mk [],boot_drawn,boot_toks,os⟩ (topStub PX)=some ((ud w os).abs,⟨denote w9 lW,lW,qX,BX⟩):=by rw [PySem.W.Fast.te15667345088766844465,j23,PySem.W.Fast.te11892475500146522536];kernel_rfl
theorem KS (w:U1) (os:f8) :∃M,M<=200000/\topRun w9 PX w 11 jr M ⟨boot_heap w.params,Array.mk [],boot_drawn,boot_toks,os⟩ (topStub PX)=some (jL w os).abs:=by have f:topRun w9 PX w 11 jr 2 (jL w os).abs (restOf [] K42.pre.env_1 lW vc BX)=some (jL w os).abs:=rfl;have b:=piece_app (GV w os) f;rw [E1] at b;have a:=K42.pre.chain PX (behindTheImports PX) w os _ _ _ b;rw [<-rF] at a;have e:segRun w9 PX w 11 jr 1 1 (ud w os).abs (blockOf (behindTheImports PX) K42.pre.env_1 lW qX BX)=some (.next,(ud w os).abs,lW,qX):=rfl;have d:=piece_block e a;have c:=go_top (mZ w os) d;refine ⟨_,?_,c⟩;simp only [Nat.add_eq];omega
noncomputable def looseX:List ZR:=[("GREATEST_WORTH" : ZR),("LONGEST_NAME" : ZR),("SMALL_LETTERS" : ZR),("is_whole" : ZR),("is_within" : ZR),("is_worth" : ZR),("is_name" : ZR),("is_tuple_of" : ZR),("TaleError" : ZR),("NoDealings" : ZR),("keeps_to" : ZR),("MOST_DEALINGS" : ZR),("VERBS" : ZR),("check_dealings" : ZR),("is_dealing" : ZR),("is_part" : ZR),("is_version" : ZR),("fit_together" : ZR),("written_by" : ZR),("is_whole_row" : ZR),("writers" : ZR),("next_writers" : ZR),("reads_ahead" : ZR),("reasons" : ZR),("reasons_of_versions" : ZR),("reasons_of_reads" : ZR),("reasons_of_time" : ZR),("first_lost" : ZR),("is_lost" : ZR),("judged_dealings" : ZR),("ring_among" : ZR),("is_verdict" : ZR),("are_numbers" : ZR),("is_order_of" : ZR),("is_ring" : ZR),("is_reason" : ZR),("_law_cell_at" : ZR),("_law_jar" : ZR),("_law_take" : ZR),("_law_names" : ZR),("_law_turns" : ZR),("_law_doings" : ZR),("_law_dealt" : ZR),("_law_writer" : ZR),("_law_other_read" : ZR),("_law_bent" : ZR),("_law_stands" : ZR),("_law_orders" : ZR),("_law_right" : ZR)]
noncomputable def viewX:ZK:={ PX with main:={ PX.main with body:=(PX.main.body[54]?).toList } }
noncomputable def top (i:Nat):ZM:=PX.main.body.getD i (.Pass ⟨0,0,0,0⟩)
noncomputable def FH:List ZS:=[3,11,13,15,17,18,20,21,22,24,25,27,28,29,31,32,34,35,36,39,40,41,43,44,46,47,48,50,51,53,55,56,57,61,63,64,66,68,69,70,73,76,77,78,79,82,83,84,87,88,89,91,92,94,95,96,99,100,101,104,105,106,108,109,111,112,113,115,116,118,119,120,122,123,125,126,127,129,130,132,133,134,136,137,139,140,141,144,145,146,148,149,151,152,153,155,156,158,159,160,162,163,165,166,167,169,170,172,173,174,176,177,179,180,181,184,185,186,189,190,191,193,194,196,197,198,201,202,203,206,207,208,211,212,213,215,216,218,219,220,222,223,225,226,227,229,230,232,233,234,236,237,239,240,241,244,245,246,249,250,251,254,255,256,259,260,261,263,264,266,267,268,271,272,273,275,276,278,279,280,283,284,285,288,289,290,293,294,295,297,298,300,301]
noncomputable def KX (P:B2):Frag:=[
 (3,⟨(.type "dict"),none,(.dict #[⟨(J2 P "__name__"),(.str "__name__" 165),(.str "law_talejudge_k42_whole_by_all_orders" 488)⟩,⟨(J2 P "__doc__"),(.str "__doc__" 166),.none⟩,⟨(J2 P "__package__"),(.str "__package__" 167),.none⟩,⟨(J2 P "__loader__"),(.str "__loader__" 168),(.builtin "__main__.__loader__#opaque")⟩,⟨(J2 P "__spec__"),(.str "__spec__" 169),.none⟩,kR P "__annotations__" 170 6,kR P "__builtins__" 171 4,⟨(J2 P "__file__"),(.str "__file__" 173),(.str "/claim/cut.py" 172)⟩,⟨(J2 P "__cached__"),(.str "__cached__" 174),.none⟩,⟨(J2 P "GREATEST_WORTH"),(.str "GREATEST_WORTH" 190),(.int (1000000000) 189)⟩,⟨(J2 P "LONGEST_NAME"),(.str "LONGEST_NAME" 192),(.int (8) 191)⟩,⟨(J2 P "SMALL_LETTERS"),(.str "SMALL_LETTERS" 194),(.str "abcdefghijklmnopqrstuvwxyz" 193)⟩,kR P "is_whole" 201 21,kR P "is_within" 209 28,kR P "is_worth" 216 35,kR P "is_name" 222 40,kR P "is_tuple_of" 230 47,kR P "TaleError" 250 57,kR P "NoDealings" 266 70,kR P "keeps_to" 274 77,⟨(J2 P "MOST_DEALINGS"),(.str "MOST_DEALINGS" 278),(.int (12) 277)⟩,kR P "VERBS" 281 78,kR P "check_dealings" 287 83,kR P "is_dealing" 293 88,kR P "is_part" 300 95,kR P "is_version" 306 100,kR P "fit_together" 312 105,kR P "written_by" 323 112,kR P "is_whole_row" 331 119,kR P "writers" 344 126,kR P "next_writers" 358 133,kR P "reads_ahead" 370 140,kR P "reasons" 376 145,kR P "reasons_of_versions" 388 152,kR P "reasons_of_reads" 402 159,kR P "reasons_of_time" 414 166,kR P "first_lost" 427 173,kR P "is_lost" 437 180,kR P "judged_dealings" 443 185,kR P "ring_among" 449 190,kR P "is_verdict" 461 197,kR P "are_numbers" 467 202,kR P "is_order_of" 473 207,kR P "is_ring" 479 212,kR P "is_reason" 487 219,kR P "_law_cell_at" 497 226,kR P "_law_jar" 505 233,kR P "_law_take" 514 240,kR P "_law_names" 520 245,kR P "_law_turns" 526 250,kR P "_law_doings" 532 255,kR P "_law_dealt" 538 260,kR P "_law_writer" 548 267,kR P "_law_other_read" 554 272,kR P "_law_bent" 570 279,kR P "_law_stands" 576 284,kR P "_law_orders" 582 289,kR P "_law_right" 588 294,kR P "law" 601 301] 59),#[]⟩),
 (11,⟨(.type "tuple"),none,(.seq #[] 0),#[]⟩),
 (13,⟨(.type "code"),none,(.fields #[(.str "<module>" 182),(.str "<module>" 183),(.str "/claim/cut.py" 184),(.int (1) 0),(.int (0) 0),(.int (0) 0),(.int (0) 0),(.int (0) 0),(.ref 11),(.bool false),(.int (181) 0),(.ref 12),.none,.none,.none,.none,(.int (185) 0),(.int (1) 0),(.str "/claim/cut.py" 186)]),#[]⟩),
 (15,⟨(.type "tuple"),none,(.seq #[] 0),#[]⟩),
 (17,⟨(.type "tuple"),none,(.seq #[(.str "value" 198)] 0),#[]⟩),
 (18,⟨(.type "tuple"),none,(.seq #[] 0),#[]⟩),
 (20,cO "is_whole" "is_whole" 195 5 1 15 199),
 (21,fO "is_whole" "is_whole" (top 4) "talejudge.basics" 187 20),
 (22,⟨(.type "tuple"),none,(.seq #[] 0),#[]⟩),
 (24,⟨(.type "tuple"),none,(.seq #[(.str "value" 205),(.str "greatest" 206)] 0),#[]⟩),
 (25,⟨(.type "tuple"),none,(.seq #[] 0),#[]⟩),
 (27,cO "is_within" "is_within" 202 7 2 22 207),
 (28,fO "is_within" "is_within" (top 5) "talejudge.basics" 187 27),
 (29,⟨(.type "tuple"),none,(.seq #[] 0),#[]⟩),
 (31,⟨(.type "tuple"),none,(.seq #[(.str "value" 213)] 0),#[]⟩),
 (32,⟨(.type "tuple"),none,(.seq #[] 0),#[]⟩),
 (34,cO "is_worth" "is_worth" 210 9 1 29 214),
 (35,fO "is_worth" "is_worth" (top 6) "talejudge.basics" 187 34),
 (36,⟨(.type "tuple"),none,(.seq #[] 0),#[]⟩),
 (39,cP "is_name" "is_name" 217 11 1 36 220),
 (40,fO "is_name" "is_name" (top 7) "talejudge.basics" 187 39),
 (41,⟨(.type "tuple"),none,(.seq #[] 0),#[]⟩),
 (43,⟨(.type "tuple"),none,(.seq #[(.str "value" 226),(.str "many" 227)] 0),#[]⟩),
 (44,⟨(.type "tuple"),none,(.seq #[] 0),#[]⟩),
 (46,cO "is_tuple_of" "is_tuple_of" 223 15 2 41 228),
 (47,fO "is_tuple_of" "is_tuple_of" (top 8) "talejudge.basics" 187 46),
 (48,⟨(.type "tuple"),none,(.seq #[(.type "ValueError")] 0),#[]⟩),
 (50,⟨(.type "dict"),none,(.dict #[⟨(J2 P "__module__"),(.str "__module__" 240),(.str "talejudge.errors" 231)⟩,⟨(J2 P "__qualname__"),(.str "__qualname__" 242),(.str "TaleError" 241)⟩,⟨(J2 P "__firstlineno__"),(.str "__firstlineno__" 244),(.int (18) 243)⟩,kR P "__static_attributes__" 245 55] 4),#[]⟩),
 (51,⟨(.type "tuple"),none,(.seq #[] 0),#[]⟩),
 (53,⟨(.type "code"),none,(.fields #[(.str "TaleError" 235),(.str "TaleError" 236),(.str "/claim/cut.py" 237),(.int (18) 0),(.int (0) 0),(.int (0) 0),(.int (0) 0),(.int (0) 0),(.ref 51),(.bool false),(.int (181) 0),(.ref 52),.none,.none,.none,.none,(.int (238) 0),(.int (18) 0),(.str "/claim/cut.py" 239)]),#[]⟩),
 (55,⟨(.type "tuple"),none,(.seq #[] 0),#[]⟩),
 (56,⟨(.type "dict"),none,(.dict #[⟨(J2 P "__module__"),(.str "__module__" 240),(.str "talejudge.errors" 231)⟩,⟨(J2 P "__firstlineno__"),(.str "__firstlineno__" 244),(.int (18) 243)⟩,kR P "__static_attributes__" 245 55,kR P "__weakref__" 247 58,⟨(J2 P "__doc__"),(.str "__doc__" 248),.none⟩] 3),#[]⟩),
 (57,⟨(.type "type"),none,(.cls ⟨"TaleError",[(.type "ValueError")],[(.ref 57),(.type "ValueError"),(.type "Exception"),(.type "BaseException"),(.type "object")],56,"TaleError",true,[],[(.ref 70)],false,none,false⟩),#[some (.ref 48),none,some (.str "TaleError" 233),some (.str "TaleError" 241),some (.builtin "ValueError.__new__"),some (.bool true)]⟩),
 (61,⟨(.type "tuple"),none,(.seq #[(.ref 57)] 0),#[]⟩),
 (63,⟨(.type "dict"),none,(.dict #[⟨(J2 P "__module__"),(.str "__module__" 258),(.str "talejudge.errors" 231)⟩,⟨(J2 P "__qualname__"),(.str "__qualname__" 260),(.str "NoDealings" 259)⟩,⟨(J2 P "__firstlineno__"),(.str "__firstlineno__" 262),(.int (20) 261)⟩,kR P "__static_attributes__" 263 68] 4),#[]⟩),
 (64,⟨(.type "tuple"),none,(.seq #[] 0),#[]⟩),
 (66,⟨(.type "code"),none,(.fields #[(.str "NoDealings" 253),(.str "NoDealings" 254),(.str "/claim/cut.py" 255),(.int (20) 0),(.int (0) 0),(.int (0) 0),(.int (0) 0),(.int (0) 0),(.ref 64),(.bool false),(.int (181) 0),(.ref 65),.none,.none,.none,.none,(.int (256) 0),(.int (20) 0),(.str "/claim/cut.py" 257)]),#[]⟩),
 (68,⟨(.type "tuple"),none,(.seq #[] 0),#[]⟩),
 (69,⟨(.type "dict"),none,(.dict #[⟨(J2 P "__module__"),(.str "__module__" 258),(.str "talejudge.errors" 231)⟩,⟨(J2 P "__firstlineno__"),(.str "__firstlineno__" 262),(.int (20) 261)⟩,kR P "__static_attributes__" 263 68,⟨(J2 P "__doc__"),(.str "__doc__" 264),.none⟩] 2),#[]⟩),
 (70,⟨(.type "type"),none,(.cls ⟨"NoDealings",[(.ref 57)],[(.ref 70),(.ref 57),(.type "ValueError"),(.type "Exception"),(.type "BaseException"),(.type "object")],69,"NoDealings",true,[],[],false,none,false⟩),#[some (.ref 61),none,some (.str "NoDealings" 251),some (.str "NoDealings" 259),some (.builtin "ValueError.__new__"),some (.bool true)]⟩),
 (73,⟨(.type "tuple"),none,(.seq #[] 0),#[]⟩),
 (76,cP "keeps_to" "keeps_to" 269 23 2 73 272),
 (77,fO "keeps_to" "keeps_to" (top 13) "talejudge.orders" 267 76),
 (78,⟨(.type "tuple"),none,(.seq #[(.str "read" 279),(.str "write" 280)] 0),#[]⟩),
 (79,⟨(.type "tuple"),none,(.seq #[] 0),#[]⟩),
 (82,cP "check_dealings" "check_dealings" 282 30 2 79 285),
 (83,fO "check_dealings" "check_dealings" (top 17) "talejudge.dealings" 275 82),
 (84,⟨(.type "tuple"),none,(.seq #[] 0),#[]⟩),
 (87,cP "is_dealing" "is_dealing" 288 39 1 84 291),
 (88,fO "is_dealing" "is_dealing" (top 18) "talejudge.dealings" 275 87),
 (89,⟨(.type "tuple"),none,(.seq #[] 0),#[]⟩),
 (91,⟨(.type "tuple"),none,(.seq #[(.str "deed" 297)] 0),#[]⟩),
 (92,⟨(.type "tuple"),none,(.seq #[] 0),#[]⟩),
 (94,cO "is_part" "is_part" 294 45 1 89 298),
 (95,fO "is_part" "is_part" (top 19) "talejudge.dealings" 275 94),
 (96,⟨(.type "tuple"),none,(.seq #[] 0),#[]⟩),
 (99,cP "is_version" "is_version" 301 49 2 96 304),
 (100,fO "is_version" "is_version" (top 20) "talejudge.dealings" 275 99),
 (101,⟨(.type "tuple"),none,(.seq #[] 0),#[]⟩),
 (104,cP "fit_together" "fit_together" 307 51 2 101 310),
 (105,fO "fit_together" "fit_together" (top 21) "talejudge.dealings" 275 104),
 (106,⟨(.type "tuple"),none,(.seq #[] 0),#[]⟩),
 (108,⟨(.type "tuple"),none,(.seq #[(.str "dealing" 316),(.str "found" 317),(.str "verb" 318),(.str "name" 319),(.str "worth" 320)] 0),#[]⟩),
 (109,⟨(.type "tuple"),none,(.seq #[] 0),#[]⟩),
 (111,cO "written_by" "written_by" 313 61 1 106 321),
 (112,fO "written_by" "written_by" (top 22) "talejudge.dealings" 275 111),
 (113,⟨(.type "tuple"),none,(.seq #[] 0),#[]⟩),
 (115,⟨(.type "tuple"),none,(.seq #[(.str "row" 327),(.str "worths" 328)] 0),#[]⟩),
 (116,⟨(.type "tuple"),none,(.seq #[] 0),#[]⟩),
 (118,cO "is_whole_row" "is_whole_row" 324 67 2 113 329),
 (119,fO "is_whole_row" "is_whole_row" (top 23) "talejudge.dealings" 275 118),
 (120,⟨(.type "tuple"),none,(.seq #[] 0),#[]⟩),
 (122,⟨(.type "tuple"),none,(.seq #[(.str "dealings" 335),(.str "found" 336),(.str "number" 337),(.str "dealing" 338),(.str "verb" 339),(.str "name" 340),(.str "worth" 341)] 0),#[]⟩),
 (123,⟨(.type "tuple"),none,(.seq #[] 0),#[]⟩),
 (125,cO "writers" "writers" 332 69 1 120 342),
 (126,fO "writers" "writers" (top 24) "talejudge.dealings" 275 125),
 (127,⟨(.type "tuple"),none,(.seq #[] 0),#[]⟩),
 (129,⟨(.type "tuple"),none,(.seq #[(.str "dealings" 348),(.str "versions" 349),(.str "written" 350),(.str "found" 351),(.str "name" 352),(.str "row" 353),(.str "worth" 354),(.str "newer" 355)] 0),#[]⟩),
 (130,⟨(.type "tuple"),none,(.seq #[] 0),#[]⟩),
 (132,cO "next_writers" "next_writers" 345 76 2 127 356),
 (133,fO "next_writers" "next_writers" (top 25) "talejudge.dealings" 275 132),
 (134,⟨(.type "tuple"),none,(.seq #[] 0),#[]⟩),
 (136,⟨(.type "tuple"),none,(.seq #[(.str "dealing" 362),(.str "own" 363),(.str "found" 364),(.str "verb" 365),(.str "name" 366),(.str "worth" 367)] 0),#[]⟩),
 (137,⟨(.type "tuple"),none,(.seq #[] 0),#[]⟩),
 (139,cO "reads_ahead" "reads_ahead" 359 83 1 134 368),
 (140,fO "reads_ahead" "reads_ahead" (top 26) "talejudge.dealings" 275 139),
 (141,⟨(.type "tuple"),none,(.seq #[] 0),#[]⟩),
 (144,cP "reasons" "reasons" 371 92 3 141 374),
 (145,fO "reasons" "reasons" (top 27) "talejudge.dealings" 275 144),
 (146,⟨(.type "tuple"),none,(.seq #[] 0),#[]⟩),
 (148,⟨(.type "tuple"),none,(.seq #[(.str "dealings" 380),(.str "versions" 381),(.str "written" 382),(.str "found" 383),(.str "version" 384),(.str "other" 385)] 0),#[]⟩),
 (149,⟨(.type "tuple"),none,(.seq #[] 0),#[]⟩),
 (151,cO "reasons_of_versions" "reasons_of_versions" 377 98 2 146 386),
 (152,fO "reasons_of_versions" "reasons_of_versions" (top 28) "talejudge.dealings" 275 151),
 (153,⟨(.type "tuple"),none,(.seq #[] 0),#[]⟩),
 (155,⟨(.type "tuple"),none,(.seq #[(.str "dealings" 392),(.str "versions" 393),(.str "written" 394),(.str "behind" 395),(.str "found" 396),(.str "number" 397),(.str "dealing" 398),(.str "version" 399)] 0),#[]⟩),
 (156,⟨(.type "tuple"),none,(.seq #[] 0),#[]⟩),
 (158,cO "reasons_of_reads" "reasons_of_reads" 389 104 2 153 400),
 (159,fO "reasons_of_reads" "reasons_of_reads" (top 29) "talejudge.dealings" 275 158),
 (160,⟨(.type "tuple"),none,(.seq #[] 0),#[]⟩),
 (162,⟨(.type "tuple"),none,(.seq #[(.str "dealings" 406),(.str "found" 407),(.str "one" 408),(.str "dealing" 409),(.str "other" 410),(.str "later" 411)] 0),#[]⟩),
 (163,⟨(.type "tuple"),none,(.seq #[] 0),#[]⟩),
 (165,cO "reasons_of_time" "reasons_of_time" 403 113 1 160 412),
 (166,fO "reasons_of_time" "reasons_of_time" (top 30) "talejudge.dealings" 275 165),
 (167,⟨(.type "tuple"),none,(.seq #[] 0),#[]⟩),
 (169,⟨(.type "tuple"),none,(.seq #[(.str "dealings" 418),(.str "written" 419),(.str "number" 420),(.str "dealing" 421),(.str "own" 422),(.str "place" 423),(.str "deed" 424)] 0),#[]⟩),
 (170,⟨(.type "tuple"),none,(.seq #[] 0),#[]⟩),
 (172,cO "first_lost" "first_lost" 415 120 1 167 425),
 (173,fO "first_lost" "first_lost" (top 31) "talejudge.dealings" 275 172),
 (174,⟨(.type "tuple"),none,(.seq #[] 0),#[]⟩),
 (176,⟨(.type "tuple"),none,(.seq #[(.str "number" 431),(.str "deed" 432),(.str "own" 433),(.str "written" 434)] 0),#[]⟩),
 (177,⟨(.type "tuple"),none,(.seq #[] 0),#[]⟩),
 (179,cO "is_lost" "is_lost" 428 130 4 174 435),
 (180,fO "is_lost" "is_lost" (top 32) "talejudge.dealings" 275 179),
 (181,⟨(.type "tuple"),none,(.seq #[] 0),#[]⟩),
 (184,cP "judged_dealings" "judged_dealings" 438 134 3 181 441),
 (185,fO "judged_dealings" "judged_dealings" (top 33) "talejudge.dealings" 275 184),
 (186,⟨(.type "tuple"),none,(.seq #[] 0),#[]⟩),
 (189,cP "ring_among" "ring_among" 444 149 2 186 447),
 (190,fO "ring_among" "ring_among" (top 34) "talejudge.dealings" 275 189),
 (191,⟨(.type "tuple"),none,(.seq #[] 0),#[]⟩),
 (193,⟨(.type "tuple"),none,(.seq #[(.str "dealings" 453),(.str "versions" 454),(.str "timed" 455),(.str "told" 456),(.str "found" 457),(.str "lost" 458)] 0),#[]⟩),
 (194,⟨(.type "tuple"),none,(.seq #[] 0),#[]⟩),
 (196,cO "is_verdict" "is_verdict" 450 158 4 191 459),
 (197,fO "is_verdict" "is_verdict" (top 35) "talejudge.dealings" 275 196),
 (198,⟨(.type "tuple"),none,(.seq #[] 0),#[]⟩),
 (201,cP "are_numbers" "are_numbers" 462 168 1 198 465),
 (202,fO "are_numbers" "are_numbers" (top 36) "talejudge.dealings" 275 201),
 (203,⟨(.type "tuple"),none,(.seq #[] 0),#[]⟩),
 (206,cP "is_order_of" "is_order_of" 468 170 3 203 471),
 (207,fO "is_order_of" "is_order_of" (top 37) "talejudge.dealings" 275 206),
 (208,⟨(.type "tuple"),none,(.seq #[] 0),#[]⟩),
 (211,cP "is_ring" "is_ring" 474 174 2 208 477),
 (212,fO "is_ring" "is_ring" (top 38) "talejudge.dealings" 275 211),
 (213,⟨(.type "tuple"),none,(.seq #[] 0),#[]⟩),
 (215,⟨(.type "tuple"),none,(.seq #[(.str "found" 483),(.str "value" 484)] 0),#[]⟩),
 (216,⟨(.type "tuple"),none,(.seq #[] 0),#[]⟩),
 (218,cO "is_reason" "is_reason" 480 180 2 213 485),
 (219,fO "is_reason" "is_reason" (top 39) "talejudge.dealings" 275 218),
 (220,⟨(.type "tuple"),none,(.seq #[] 0),#[]⟩),
 (222,⟨(.type "tuple"),none,(.seq #[(.str "script" 493),(.str "k" 494)] 0),#[]⟩),
 (223,⟨(.type "tuple"),none,(.seq #[] 0),#[]⟩),
 (225,cO "_law_cell_at" "_law_cell_at" 490 185 2 220 495),
 (226,fL "_law_cell_at" "_law_cell_at" (top 41) 225),
 (227,⟨(.type "tuple"),none,(.seq #[] 0),#[]⟩),
 (229,⟨(.type "tuple"),none,(.seq #[(.str "cell" 501),(.str "low" 502)] 0),#[]⟩),
 (230,⟨(.type "tuple"),none,(.seq #[] 0),#[]⟩),
 (232,cO "_law_jar" "_law_jar" 498 189 1 227 503),
 (233,fL "_law_jar" "_law_jar" (top 42) 232),
 (234,⟨(.type "tuple"),none,(.seq #[] 0),#[]⟩),
 (236,⟨(.type "tuple"),none,(.seq #[(.str "jar" 509),(.str "many" 510),(.str "got" 511)] 0),#[]⟩),
 (237,⟨(.type "tuple"),none,(.seq #[] 0),#[]⟩),
 (239,cO "_law_take" "_law_take" 506 195 2 234 512),
 (240,fL "_law_take" "_law_take" (top 43) 239),
 (241,⟨(.type "tuple"),none,(.seq #[] 0),#[]⟩),
 (244,cP "_law_names" "_law_names" 515 202 1 241 518),
 (245,fL "_law_names" "_law_names" (top 44) 244),
 (246,⟨(.type "tuple"),none,(.seq #[] 0),#[]⟩),
 (249,cP "_law_turns" "_law_turns" 521 207 2 246 524),
 (250,fL "_law_turns" "_law_turns" (top 45) 249),
 (251,⟨(.type "tuple"),none,(.seq #[] 0),#[]⟩),
 (254,cP "_law_doings" "_law_doings" 527 213 4 251 530),
 (255,fL "_law_doings" "_law_doings" (top 46) 254),
 (256,⟨(.type "tuple"),none,(.seq #[] 0),#[]⟩),
 (259,cP "_law_dealt" "_law_dealt" 533 226 2 256 536),
 (260,fL "_law_dealt" "_law_dealt" (top 47) 259),
 (261,⟨(.type "tuple"),none,(.seq #[] 0),#[]⟩),
 (263,⟨(.type "tuple"),none,(.seq #[(.str "some" 542),(.str "name" 543),(.str "worth" 544),(.str "number" 545)] 0),#[]⟩),
 (264,⟨(.type "tuple"),none,(.seq #[] 0),#[]⟩),
 (266,cO "_law_writer" "_law_writer" 539 238 3 261 546),
 (267,fL "_law_writer" "_law_writer" (top 48) 266),
 (268,⟨(.type "tuple"),none,(.seq #[] 0),#[]⟩),
 (271,cP "_law_other_read" "_law_other_read" 549 243 3 268 552),
 (272,fL "_law_other_read" "_law_other_read" (top 49) 271),
 (273,⟨(.type "tuple"),none,(.seq #[] 0),#[]⟩),
 (275,⟨(.type "tuple"),none,(.seq #[(.str "jar" 558),(.str "some" 559),(.str "versions" 560),(.str "kind" 561),(.str "number" 562),(.str "begin" 563),(.str "name" 564),(.str "worths" 565),(.str "at" 566),(.str "both" 567)] 0),#[]⟩),
 (276,⟨(.type "tuple"),none,(.seq #[] 0),#[]⟩),
 (278,cO "_law_bent" "_law_bent" 555 251 3 273 568),
 (279,fL "_law_bent" "_law_bent" (top 50) 278),
 (280,⟨(.type "tuple"),none,(.seq #[] 0),#[]⟩),
 (283,cP "_law_stands" "_law_stands" 571 266 4 280 574),
 (284,fL "_law_stands" "_law_stands" (top 51) 283),
 (285,⟨(.type "tuple"),none,(.seq #[] 0),#[]⟩),
 (288,cP "_law_orders" "_law_orders" 577 281 1 285 580),
 (289,fL "_law_orders" "_law_orders" (top 52) 288),
 (290,⟨(.type "tuple"),none,(.seq #[] 0),#[]⟩),
 (293,cP "_law_right" "_law_right" 583 289 3 290 586),
 (294,fL "_law_right" "_law_right" (top 53) 293),
 (295,⟨(.type "tuple"),none,(.seq #[] 0),#[]⟩),
 (297,⟨(.type "tuple"),none,(.seq #[(.str "script" 592),(.str "cell" 593),(.str "jar" 594),(.str "some" 595),(.str "versions" 596),(.str "turns" 597),(.str "j" 598)] 0),#[]⟩),
 (298,⟨(.type "tuple"),none,(.seq #[] 0),#[]⟩),
 (300,cO "law" "law" 589 298 1 295 599),
 (301,fL "law" "law" (top 54) 300)]
noncomputable def HX:Hook:=kHook KX FH (λ _=>by kernel_rfl)
noncomputable abbrev XtX:I0->Bool:=λ s=>xlAt viewX [] s && recOk (RowW.records (OpenRow.toRowW PySem.Challenge.rw_talejudge_k42_whole_by_all_orders.row)) s
def qp (w:U1) (os:f8):(staticsOk (j0d PX.main.body) (boot_heap w.params) (jL w os).abs.heap && namesBound PX (jL w os).abs.heap && gensDone (jL w os).abs && laidKept (boot_heap w.params) (jL w os).abs.heap)=true:=by kernel_rfl
def q_ (w:U1) (os:f8):openSeen viewX looseX (j0d PX.main.body) XtX true (jL w os).abs=openGood viewX looseX:=by rw [PySem.W.Fast.te4187177175401517315];kernel_rfl
def ql (w:U1) (os:f8):Hook.obs HX (jL w os).abs=Hook.val HX w:=by kernel_rfl
def leftX:LeftO PX viewX looseX XtX (Hook.obs HX) (Hook.val HX) 200000:=
 Lg (H₀:=boot_heap) (gs₀:=Array.mk []) (boot_open (by kernel_rfl) (by decide) (λ s=>rfl)) (λ w=>by kernel_rfl) KS qp q_ ql
end K42
namespace L2
def ax.k {N P:List ZR} {sc:ZE} (a:sc.kind=.function:=by exact rfl) (b:sc.isCoroutine=false:=by exact rfl) (c:sc.isGenerator=false:=by exact rfl) (d:N.Nodup:=by decide +kernel) (e:N.take P.length=P:=by exact rfl) (f :∀x∈P,sc.names.lookup x=some .local\/sc.names.lookup x=some .cell:=by decide +kernel) (g :∀y∈sc.names,y.2≠.free:=by decide +kernel):ax N P sc:=⟨a,b,c,d,e,f,g⟩
def wo {H:Hp} {p:ZS} (o:HO) (h:H p=none) :∃H',H'=upd H p o/\Same H H'/\H' p=some o:=⟨_,rfl,Same.upd h,aB⟩
def JI {c A B:Prop} [Decidable c] (h:B) (hc:¬ c:=by decide +kernel):if c then A else B:=bc hc h
def aU {X:Cx} {scope:ZE} {cl:List (ZR×ZS)} {N:List ZR} {C:ZS} {s₂:I0} {H₂:Hp} {fp:List ZS} {x:ZR} {px:ZP} (i:Nat) (hN:N.Nodup:=by decide +kernel) (hi:N[i]? = some x:=by exact rfl) (hx:scope.names.lookup x=some .local:=by exact rfl):PG (ck X scope cl N C s₂ H₂ fp) (.Name x px) (aI i):=Hd i hN hi hx
def cH {X:Cx} {xs:List ZR} {tg:ZO} {g:TG} {pos:ZP} {elt iter:ZO} {ifs:List ZO} {scope:ZE} {fr:List (Nat×ZR)} {wi:TI} {tc:TT} {te:TE} (hi:PI X tg iter wi)
  (hg :∀cl C s₂ H₂ fp,PG (ck X scope cl (xs++fr.map (·.2)) C s₂ H₂ fp) tg g)
  (ht :∀cl C s₂ H₂ fp,PF (ck X scope cl (xs++fr.map (·.2)) C s₂ H₂ fp) ifs tc) (he :∀cl C s₂ H₂ fp,PE (ck X scope cl (xs++fr.map (·.2)) C s₂ H₂ fp) elt te) (hcalm:X.calm=true:=by exact rfl)
  (hfr :∀p∈fr,X.N[p.1]? = some p.2/\(X.env.kindOf p.2=some .cell\/X.env.kindOf p.2=some .free):=by first|exact λ _ z=>ZU z P0|(intro p hp;obtain rfl:=List.mem_singleton.mp hp;first|exact ⟨rfl,.inl rfl⟩|exact ⟨rfl,.inr rfl⟩))
  (hin:(scope.names.all λ y=>y.2 != v3 || fr.any λ p=>p.2 == y.1)=true:=by decide +kernel)
  (hfs :∀p∈fr,(p.2,v3)∈scope.names/\((j27 scope X.env).names.lookup p.2=some .cell\/(j27 scope X.env).names.lookup p.2=some .free):=by first|exact λ _ z=>ZU z P0|(intro p hp;obtain rfl:=List.mem_singleton.mp hp;exact ⟨by decide +kernel,by first|exact .inl rfl|exact .inr rfl⟩))
  (hcell :∀y∈scope.names,y.2≠NameKind.cell:=by decide +kernel) (hkind:scope.kind=.function:=by exact rfl) (hnames :∀y∈scope.names,y.2=NameKind.local->scope.names.lookup y.1=some .local:=by decide +kernel)
  (hs :∀x,G9 iter X.env x=i5 x:=by intro _;rfl):PE X (.ListComp elt [⟨tg,iter,ifs,0⟩] scope pos) (cu wi xs.length fr g tc te):=
 wj hcalm hi hfr (λ y a e=>by
  have h:=List.all_eq_true.mp hin y a;rw [e] at h;obtain ⟨p,hp,z⟩:=List.any_eq_true.mp (show fr.any (λ p=>p.2 == y.1)=true from h);have:=(hfr p hp).2
  rwa [eq_of_beq z] at this) hfs hcell hkind hnames hg ht he hs
end L2
namespace K42
open TJ L2
abbrev Gg (n:ZR) (a:ZS):Prop:=∀P,u7 (KX P) M4 n=some (some (.ref a))
abbrev Gn (n:ZR):Prop:=∀P,u7 (KX P) M4 n=some none
noncomputable abbrev kx (w:U1):=KX w.params
noncomputable abbrev Ca (P:ZK) (w:U1) (mg:ZR->Option ZH) (base:ZN):=vf P w (KX w.params) mg base
noncomputable abbrev Lp (P:ZK) (w:U1) (mg:ZR->Option ZH) (base:ZN):=wW P w (KX w.params) mg base
noncomputable abbrev Fo (P:ZK) (w:U1) (mg:ZR->Option ZH) (base:ZN):=gg P w (KX w.params) mg base
def jG:Gn "isinstance":=λ _=>by kernel_rfl
def bW:Gn "len":=λ _=>by kernel_rfl
def fz:Gn "all":=λ _=>by kernel_rfl
def qT:Gn "max":=λ _=>by kernel_rfl
def rY:Gn "int":=λ _=>by kernel_rfl
def iW:Gn "str":=λ _=>by kernel_rfl
def oX:Gn "bool":=λ _=>by kernel_rfl
def vw:Gn "tuple":=λ _=>by kernel_rfl
def dU:Gn "list":=λ _=>by kernel_rfl
def i_:Gn "range":=λ _=>by kernel_rfl
def oP:Gn "sorted":=λ _=>by kernel_rfl
def rC:Gn "zip":=λ _=>by kernel_rfl
def qH:Gn "sum":=λ _=>by kernel_rfl
def jZ:Gn "dict":=λ _=>by kernel_rfl
def ma:Gn "set":=λ _=>by kernel_rfl
def o_:Gn "enumerate":=λ _=>by kernel_rfl
def EU (P:B2):u7 (KX P) M4 "GREATEST_WORTH" = some (some (.int (1000000000) 189)):=by kernel_rfl
def Ki (P:B2):u7 (KX P) M4 "LONGEST_NAME" = some (some (.int (8) 191)):=by kernel_rfl
def JM (P:B2):u7 (KX P) M4 "SMALL_LETTERS" = some (some (.str "abcdefghijklmnopqrstuvwxyz" 193)):=by kernel_rfl
def EE:Gg "is_whole" 21:=λ _=>by kernel_rfl
def Gz:Gg "is_within" 28:=λ _=>by kernel_rfl
def Jy:Gg "is_worth" 35:=λ _=>by kernel_rfl
def FN:Gg "is_name" 40:=λ _=>by kernel_rfl
def Ha:Gg "is_tuple_of" 47:=λ _=>by kernel_rfl
def Hy:Gg "keeps_to" 77:=λ _=>by kernel_rfl
def DI (P:B2):u7 (KX P) M4 "MOST_DEALINGS" = some (some (.int (12) 277)):=by kernel_rfl
def FT:Gg "VERBS" 78:=λ _=>by kernel_rfl
def GG:Gg "check_dealings" 83:=λ _=>by kernel_rfl
def Fq:Gg "is_dealing" 88:=λ _=>by kernel_rfl
def Gq:Gg "is_part" 95:=λ _=>by kernel_rfl
def Hg:Gg "is_version" 100:=λ _=>by kernel_rfl
def Fx:Gg "fit_together" 105:=λ _=>by kernel_rfl
def HZ:Gg "written_by" 112:=λ _=>by kernel_rfl
def JV:Gg "is_whole_row" 119:=λ _=>by kernel_rfl
def F_:Gg "writers" 126:=λ _=>by kernel_rfl
def Fl:Gg "next_writers" 133:=λ _=>by kernel_rfl
def IS:Gg "reads_ahead" 140:=λ _=>by kernel_rfl
def DQ:Gg "reasons" 145:=λ _=>by kernel_rfl
def Ed:Gg "reasons_of_versions" 152:=λ _=>by kernel_rfl
def HN:Gg "reasons_of_reads" 159:=λ _=>by kernel_rfl
def DC:Gg "reasons_of_time" 166:=λ _=>by kernel_rfl
def IY:Gg "first_lost" 173:=λ _=>by kernel_rfl
def J4:Gg "is_lost" 180:=λ _=>by kernel_rfl
def Hj:Gg "judged_dealings" 185:=λ _=>by kernel_rfl
def La:Gg "ring_among" 190:=λ _=>by kernel_rfl
def Ko:Gg "is_verdict" 197:=λ _=>by kernel_rfl
def JG:Gg "are_numbers" 202:=λ _=>by kernel_rfl
def DT:Gg "is_order_of" 207:=λ _=>by kernel_rfl
def Jz:Gg "is_ring" 212:=λ _=>by kernel_rfl
def Il:Gg "_law_jar" 233:=λ _=>by kernel_rfl
def Io:Gg "_law_take" 240:=λ _=>by kernel_rfl
def Hn:Gg "_law_names" 245:=λ _=>by kernel_rfl
def Ff:Gg "_law_turns" 250:=λ _=>by kernel_rfl
def KJ:Gg "_law_doings" 255:=λ _=>by kernel_rfl
def FA:Gg "_law_dealt" 260:=λ _=>by kernel_rfl
def Ek:Gg "_law_writer" 267:=λ _=>by kernel_rfl
def Dz:Gg "_law_other_read" 272:=λ _=>by kernel_rfl
def FV:Gg "_law_bent" 279:=λ _=>by kernel_rfl
def JK:Gg "_law_stands" 284:=λ _=>by kernel_rfl
def FR:Gg "_law_orders" 289:=λ _=>by kernel_rfl
def Ie:Gg "_law_right" 294:=λ _=>by kernel_rfl
def g_law:Gg "law" 301:=λ _=>by kernel_rfl
noncomputable abbrev x_:ZM:=top 4
noncomputable abbrev xJ:ZJ:=fnX "is_whole" "is_whole" (top 4) "talejudge.basics" 187 20
def w_ (P:B2):df (KX P) "is_whole" "is_whole" x_ 21 xJ:=dD
def Gj (P:B2):Binds (KX P) xJ ["value"] []:=(w_ P).binds λ _ _ _ _ _ _=>iR λ _=>rfl
def KW:ax ["value"] ["value"] (da x_):=.k
noncomputable abbrev yv:ZM:=top 5
noncomputable abbrev uX:ZJ:=fnX "is_within" "is_within" (top 5) "talejudge.basics" 187 27
def uF (P:B2):df (KX P) "is_within" "is_within" yv 28 uX:=dD
def IE (P:B2):Binds (KX P) uX ["value","greatest"] []:=(uF P).binds λ _ _ _ _ _ _=>iu λ _ _=>rfl
def IA:ax ["value","greatest"] ["value","greatest"] (da yv):=.k
noncomputable abbrev yY:ZM:=top 6
noncomputable abbrev xi:ZJ:=fnX "is_worth" "is_worth" (top 6) "talejudge.basics" 187 34
def ui (P:B2):df (KX P) "is_worth" "is_worth" yY 35 xi:=dD
def Ky (P:B2):Binds (KX P) xi ["value"] []:=(ui P).binds λ _ _ _ _ _ _=>iR λ _=>rfl
def Ii:ax ["value"] ["value"] (da yY):=.k
noncomputable abbrev Dg:ZM:=top 7
noncomputable abbrev ug:ZJ:=fnX "is_name" "is_name" (top 7) "talejudge.basics" 187 39
def wg (P:B2):df (KX P) "is_name" "is_name" Dg 40 ug:=dD
def JR (P:B2):Binds (KX P) ug ["value"] []:=(wg P).binds λ _ _ _ _ _ _=>iR λ _=>rfl
def IV:ax ["value"] ["value"] (da Dg):=.k
noncomputable abbrev Cw:ZM:=top 8
noncomputable abbrev vL:ZJ:=fnX "is_tuple_of" "is_tuple_of" (top 8) "talejudge.basics" 187 46
def xp (P:B2):df (KX P) "is_tuple_of" "is_tuple_of" Cw 47 vL:=dD
def Ex (P:B2):Binds (KX P) vL ["value","many"] []:=(xp P).binds λ _ _ _ _ _ _=>iu λ _ _=>rfl
def Ef:ax ["value","many"] ["value","many"] (da Cw):=.k
noncomputable abbrev Aq:ZM:=top 13
noncomputable abbrev xy:ZJ:=fnX "keeps_to" "keeps_to" (top 13) "talejudge.orders" 267 76
def vp (P:B2):df (KX P) "keeps_to" "keeps_to" Aq 77 xy:=dD
def IL (P:B2):Binds (KX P) xy ["pairs","numbers"] []:=(vp P).binds λ _ _ _ _ _ _=>iu λ _ _=>rfl
def dZ:ax ["pairs","numbers","stands","both"] ["pairs","numbers"] (da Aq):=.k
noncomputable abbrev ye:ZM:=top 17
noncomputable abbrev xr:ZJ:=fnX "check_dealings" "check_dealings" (top 17) "talejudge.dealings" 275 82
def xD (P:B2):df (KX P) "check_dealings" "check_dealings" ye 83 xr:=dD
def KL (P:B2):Binds (KX P) xr ["dealings","versions"] []:=(xD P).binds λ _ _ _ _ _ _=>iu λ _ _=>rfl
def KQ:ax ["dealings","versions"] ["dealings","versions"] (da ye):=.k
noncomputable abbrev AX:ZM:=top 18
noncomputable abbrev wc:ZJ:=fnX "is_dealing" "is_dealing" (top 18) "talejudge.dealings" 275 87
def uO (P:B2):df (KX P) "is_dealing" "is_dealing" AX 88 wc:=dD
def KA (P:B2):Binds (KX P) wc ["dealing"] []:=(uO P).binds λ _ _ _ _ _ _=>iR λ _=>rfl
def IC:ax ["dealing"] ["dealing"] (da AX):=.k
noncomputable abbrev CS:ZM:=top 19
noncomputable abbrev wG:ZJ:=fnX "is_part" "is_part" (top 19) "talejudge.dealings" 275 94
def uJ (P:B2):df (KX P) "is_part" "is_part" CS 95 wG:=dD
def Hm (P:B2):Binds (KX P) wG ["deed"] []:=(uJ P).binds λ _ _ _ _ _ _=>iR λ _=>rfl
def Kw:ax ["deed"] ["deed"] (da CS):=.k
noncomputable abbrev Au:ZM:=top 20
noncomputable abbrev ur:ZJ:=fnX "is_version" "is_version" (top 20) "talejudge.dealings" 275 99
def vH (P:B2):df (KX P) "is_version" "is_version" Au 100 ur:=dD
def KY (P:B2):Binds (KX P) ur ["name","row"] []:=(vH P).binds λ _ _ _ _ _ _=>iu λ _ _=>rfl
def IQ:ax ["name","row"] ["name","row"] (da Au):=.k
noncomputable abbrev yu:ZM:=top 21
noncomputable abbrev wU:ZJ:=fnX "fit_together" "fit_together" (top 21) "talejudge.dealings" 275 104
def xa (P:B2):df (KX P) "fit_together" "fit_together" yu 105 wU:=dD
def Et (P:B2):Binds (KX P) wU ["dealings","versions"] []:=(xa P).binds λ _ _ _ _ _ _=>iu λ _ _=>rfl
def bS:ax ["dealings","versions","written","dealing","name","own"] ["dealings","versions"] (da yu):=.k
noncomputable abbrev AO:ZM:=top 22
noncomputable abbrev uL:ZJ:=fnX "written_by" "written_by" (top 22) "talejudge.dealings" 275 111
def wZ (P:B2):df (KX P) "written_by" "written_by" AO 112 uL:=dD
def Jo (P:B2):Binds (KX P) uL ["dealing"] []:=(wZ P).binds λ _ _ _ _ _ _=>iR λ _=>rfl
def cf:ax ["dealing","found","verb","name","worth"] ["dealing"] (da AO):=.k
noncomputable abbrev CY:ZM:=top 23
noncomputable abbrev xK:ZJ:=fnX "is_whole_row" "is_whole_row" (top 23) "talejudge.dealings" 275 118
def uj (P:B2):df (KX P) "is_whole_row" "is_whole_row" CY 119 xK:=dD
def Iz (P:B2):Binds (KX P) xK ["row","worths"] []:=(uj P).binds λ _ _ _ _ _ _=>iu λ _ _=>rfl
def Ir:ax ["row","worths"] ["row","worths"] (da CY):=.k
noncomputable abbrev yT:ZM:=top 24
noncomputable abbrev vD:ZJ:=fnX "writers" "writers" (top 24) "talejudge.dealings" 275 125
def uS (P:B2):df (KX P) "writers" "writers" yT 126 vD:=dD
def JC (P:B2):Binds (KX P) vD ["dealings"] []:=(uS P).binds λ _ _ _ _ _ _=>iR λ _=>rfl
def cq:ax ["dealings","found","number","dealing","verb","name","worth"] ["dealings"] (da yT):=.k
noncomputable abbrev yQ:ZM:=top 25
noncomputable abbrev vi:ZJ:=fnX "next_writers" "next_writers" (top 25) "talejudge.dealings" 275 132
def uY (P:B2):df (KX P) "next_writers" "next_writers" yQ 133 vi:=dD
def HD (P:B2):Binds (KX P) vi ["dealings","versions"] []:=(uY P).binds λ _ _ _ _ _ _=>iu λ _ _=>rfl
def bo:ax ["dealings","versions","written","found","name","row","worth","newer"] ["dealings","versions"] (da yQ):=.k
noncomputable abbrev yb:ZM:=top 26
noncomputable abbrev wD:ZJ:=fnX "reads_ahead" "reads_ahead" (top 26) "talejudge.dealings" 275 139
def vn (P:B2):df (KX P) "reads_ahead" "reads_ahead" yb 140 wD:=dD
def IW (P:B2):Binds (KX P) wD ["dealing"] []:=(vn P).binds λ _ _ _ _ _ _=>iR λ _=>rfl
def bL:ax ["dealing","own","found","verb","name","worth"] ["dealing"] (da yb):=.k
noncomputable abbrev BO:ZM:=top 27
noncomputable abbrev wm:ZJ:=fnX "reasons" "reasons" (top 27) "talejudge.dealings" 275 144
def tX (P:B2):df (KX P) "reasons" "reasons" BO 145 wm:=dD
def Jg (P:B2):Binds (KX P) wm ["dealings","versions","timed"] []:=(tX P).binds λ _ _ _ _ _ _=>fT λ _ _ _=>rfl
def fW:ax ["dealings","versions","timed","found"] ["dealings","versions","timed"] (da BO):=.k
noncomputable abbrev yX:ZM:=top 28
noncomputable abbrev vt:ZJ:=fnX "reasons_of_versions" "reasons_of_versions" (top 28) "talejudge.dealings" 275 151
def uu (P:B2):df (KX P) "reasons_of_versions" "reasons_of_versions" yX 152 vt:=dD
def Jf (P:B2):Binds (KX P) vt ["dealings","versions"] []:=(uu P).binds λ _ _ _ _ _ _=>iu λ _ _=>rfl
def aT:ax ["dealings","versions","written","found","version","other"] ["dealings","versions"] (da yX):=.k
noncomputable abbrev zW:ZM:=top 29
noncomputable abbrev wF:ZJ:=fnX "reasons_of_reads" "reasons_of_reads" (top 29) "talejudge.dealings" 275 158
def wx (P:B2):df (KX P) "reasons_of_reads" "reasons_of_reads" zW 159 wF:=dD
def HR (P:B2):Binds (KX P) wF ["dealings","versions"] []:=(wx P).binds λ _ _ _ _ _ _=>iu λ _ _=>rfl
def aJ:ax ["dealings","versions","written","behind","found","number","dealing","version"] ["dealings","versions"] (da zW):=.k
noncomputable abbrev Cq:ZM:=top 30
noncomputable abbrev uZ:ZJ:=fnX "reasons_of_time" "reasons_of_time" (top 30) "talejudge.dealings" 275 165
def vR (P:B2):df (KX P) "reasons_of_time" "reasons_of_time" Cq 166 uZ:=dD
def Ea (P:B2):Binds (KX P) uZ ["dealings"] []:=(vR P).binds λ _ _ _ _ _ _=>iR λ _=>rfl
def aX:ax ["dealings","found","one","dealing","other","later"] ["dealings"] (da Cq):=.k
noncomputable abbrev C_:ZM:=top 31
noncomputable abbrev vM:ZJ:=fnX "first_lost" "first_lost" (top 31) "talejudge.dealings" 275 172
def xB (P:B2):df (KX P) "first_lost" "first_lost" C_ 173 vM:=dD
def Ec (P:B2):Binds (KX P) vM ["dealings"] []:=(xB P).binds λ _ _ _ _ _ _=>iR λ _=>rfl
def bG:ax ["dealings","written","number","dealing","own","place","deed"] ["dealings"] (da C_):=.k
noncomputable abbrev yr:ZM:=top 32
noncomputable abbrev vz:ZJ:=fnX "is_lost" "is_lost" (top 32) "talejudge.dealings" 275 179
def uD (P:B2):df (KX P) "is_lost" "is_lost" yr 180 vz:=dD
def FX (P:B2):Binds (KX P) vz ["number","deed","own","written"] []:=(uD P).binds λ _ _ _ _ _ _=>su λ _ _ _ _=>rfl
def HP:ax ["number","deed","own","written"] ["number","deed","own","written"] (da yr):=.k
noncomputable abbrev yL:ZM:=top 33
noncomputable abbrev vZ:ZJ:=fnX "judged_dealings" "judged_dealings" (top 33) "talejudge.dealings" 275 184
def xc (P:B2):df (KX P) "judged_dealings" "judged_dealings" yL 185 vZ:=dD
def I_ (P:B2):Binds (KX P) vZ ["dealings","versions","timed"] []:=(xc P).binds λ _ _ _ _ _ _=>fT λ _ _ _=>rfl
def aP:ax ["dealings","versions","timed","found","lost","order","left","held_up","ready"] ["dealings","versions","timed"] (da yL):=.k
noncomputable abbrev yg:ZM:=top 34
noncomputable abbrev xT:ZJ:=fnX "ring_among" "ring_among" (top 34) "talejudge.dealings" 275 189
def wC (P:B2):df (KX P) "ring_among" "ring_among" yg 190 xT:=dD
def Ia (P:B2):Binds (KX P) xT ["left","found"] []:=(wC P).binds λ _ _ _ _ _ _=>iu λ _ _=>rfl
def bT:ax ["left","found","current","walked","back","last"] ["left","found"] (da yg):=.k
noncomputable abbrev Bx:ZM:=top 35
noncomputable abbrev uQ:ZJ:=fnX "is_verdict" "is_verdict" (top 35) "talejudge.dealings" 275 196
def vr (P:B2):df (KX P) "is_verdict" "is_verdict" Bx 197 uQ:=dD
def JY (P:B2):Binds (KX P) uQ ["dealings","versions","timed","told"] []:=(vr P).binds λ _ _ _ _ _ _=>su λ _ _ _ _=>rfl
def dt:ax ["dealings","versions","timed","told","found","lost"] ["dealings","versions","timed","told"] (da Bx):=.k
noncomputable abbrev Cs:ZM:=top 36
noncomputable abbrev uP:ZJ:=fnX "are_numbers" "are_numbers" (top 36) "talejudge.dealings" 275 201
def xI (P:B2):df (KX P) "are_numbers" "are_numbers" Cs 202 uP:=dD
def Fd (P:B2):Binds (KX P) uP ["values"] []:=(xI P).binds λ _ _ _ _ _ _=>iR λ _=>rfl
def Hs:ax ["values"] ["values"] (da Cs):=.k
noncomputable abbrev Bz:ZM:=top 37
noncomputable abbrev vY:ZJ:=fnX "is_order_of" "is_order_of" (top 37) "talejudge.dealings" 275 206
def vj (P:B2):df (KX P) "is_order_of" "is_order_of" Bz 207 vY:=dD
def Ee (P:B2):Binds (KX P) vY ["many","found","numbers"] []:=(vj P).binds λ _ _ _ _ _ _=>fT λ _ _ _=>rfl
def Ei:ax ["many","found","numbers"] ["many","found","numbers"] (da Bz):=.k
noncomputable abbrev zG:ZM:=top 38
noncomputable abbrev xj:ZJ:=fnX "is_ring" "is_ring" (top 38) "talejudge.dealings" 275 211
def xx (P:B2):df (KX P) "is_ring" "is_ring" zG 212 xj:=dD
def KB (P:B2):Binds (KX P) xj ["found","ring"] []:=(xx P).binds λ _ _ _ _ _ _=>iu λ _ _=>rfl
def GM:ax ["found","ring","ones","others"] ["found","ring"] (da zG):=.k
noncomputable abbrev An:ZM:=top 42
noncomputable abbrev uA:ZJ:=fY "_law_jar" "_law_jar" (top 42) 232
def vx (P:B2):df (KX P) "_law_jar" "_law_jar" An 233 uA:=dD
def DE (P:B2):Binds (KX P) uA ["cell"] []:=(vx P).binds λ _ _ _ _ _ _=>iR λ _=>rfl
def dX:ax ["cell","low"] ["cell"] (da An):=.k
noncomputable abbrev Cb:ZM:=top 43
noncomputable abbrev wJ:ZJ:=fY "_law_take" "_law_take" (top 43) 239
def xN (P:B2):df (KX P) "_law_take" "_law_take" Cb 240 wJ:=dD
def Ge (P:B2):Binds (KX P) wJ ["jar","many"] []:=(xN P).binds λ _ _ _ _ _ _=>iu λ _ _=>rfl
def fc:ax ["jar","many","got"] ["jar","many"] (da Cb):=.k
noncomputable abbrev BH:ZM:=top 44
noncomputable abbrev wu:ZJ:=fY "_law_names" "_law_names" (top 44) 244
def wR (P:B2):df (KX P) "_law_names" "_law_names" BH 245 wu:=dD
def Gc (P:B2):Binds (KX P) wu ["jar"] []:=(wR P).binds λ _ _ _ _ _ _=>iR λ _=>rfl
def cM:ax ["jar","letters","base","first"] ["jar"] (da BH):=.k
noncomputable abbrev Cm:ZM:=top 45
noncomputable abbrev tT:ZJ:=fY "_law_turns" "_law_turns" (top 45) 249
def xF (P:B2):df (KX P) "_law_turns" "_law_turns" Cm 250 tT:=dD
def FC (P:B2):Binds (KX P) tT ["jar","many"] []:=(xF P).binds λ _ _ _ _ _ _=>iu λ _ _=>rfl
def dv:ax ["jar","many","left","turns"] ["jar","many"] (da Cm):=.k
noncomputable abbrev AN:ZM:=top 46
noncomputable abbrev xE:ZJ:=fY "_law_doings" "_law_doings" (top 46) 254
def uI (P:B2):df (KX P) "_law_doings" "_law_doings" AN 255 xE:=dD
def GF (P:B2):Binds (KX P) xE ["jar","names","store","versions"] []:=(uI P).binds λ _ _ _ _ _ _=>su λ _ _ _ _=>rfl
def bQ:ax ["jar","names","store","versions","doings","k","name","count","worth"] ["jar","names","store","versions"] (da AN):=.k
noncomputable abbrev BE:ZM:=top 47
noncomputable abbrev ue:ZJ:=fY "_law_dealt" "_law_dealt" (top 47) 259
def xw (P:B2):df (KX P) "_law_dealt" "_law_dealt" BE 260 ue:=dD
def Jx (P:B2):Binds (KX P) ue ["jar","most"] []:=(xw P).binds λ _ _ _ _ _ _=>iu λ _ _=>rfl
def aS:ax ["jar","most","names","turns","times","store","versions","some","at","doings","begin"] ["jar","most"] (da BE):=.k
noncomputable abbrev CT:ZM:=top 48
noncomputable abbrev vk:ZJ:=fY "_law_writer" "_law_writer" (top 48) 266
def vF (P:B2):df (KX P) "_law_writer" "_law_writer" CT 267 vk:=dD
def Jh (P:B2):Binds (KX P) vk ["some","name","worth"] []:=(vF P).binds λ _ _ _ _ _ _=>fT λ _ _ _=>rfl
def dS:ax ["some","name","worth","number"] ["some","name","worth"] (da CT):=.k
noncomputable abbrev zO:ZM:=top 49
noncomputable abbrev uc:ZJ:=fY "_law_other_read" "_law_other_read" (top 49) 271
def xV (P:B2):df (KX P) "_law_other_read" "_law_other_read" zO 272 uc:=dD
def Fh (P:B2):Binds (KX P) uc ["jar","doings","versions"] []:=(xV P).binds λ _ _ _ _ _ _=>fT λ _ _ _=>rfl
def bt:ax ["jar","doings","versions","reads","at","worths","worth"] ["jar","doings","versions"] (da zO):=.k
noncomputable abbrev yC:ZM:=top 50
noncomputable abbrev uH:ZJ:=fY "_law_bent" "_law_bent" (top 50) 278
def vK (P:B2):df (KX P) "_law_bent" "_law_bent" yC 279 uH:=dD
def ET (P:B2):Binds (KX P) uH ["jar","some","versions"] []:=(vK P).binds λ _ _ _ _ _ _=>fT λ _ _ _=>rfl
def bC:ax ["jar","some","versions","kind","number","begin","name","worths","at","both"] ["jar","some","versions"] (da yC):=.k
noncomputable abbrev BM:ZM:=top 51
noncomputable abbrev wQ:ZJ:=fY "_law_stands" "_law_stands" (top 51) 283
def xh (P:B2):df (KX P) "_law_stands" "_law_stands" BM 284 wQ:=dD
def Jm (P:B2):Binds (KX P) wQ ["some","versions","timed","order"] []:=(xh P).binds λ _ _ _ _ _ _=>su λ _ _ _ _=>rfl
def ba:ax ["some","versions","timed","order","store","rising","number","verb","name","worth","k"] ["some","versions","timed","order"] (da BM):=.k
noncomputable abbrev zc:ZM:=top 52
noncomputable abbrev vQ:ZJ:=fY "_law_orders" "_law_orders" (top 52) 288
def vI (P:B2):df (KX P) "_law_orders" "_law_orders" zc 289 vQ:=dD
def Gp (P:B2):Binds (KX P) vQ ["many"] []:=(vI P).binds λ _ _ _ _ _ _=>iR λ _=>rfl
def bP:ax ["many","orders","k","longer","order"] ["many"] (da zc):=.k
noncomputable abbrev z_:ZM:=top 53
noncomputable abbrev vT:ZJ:=fY "_law_right" "_law_right" (top 53) 293
def wa (P:B2):df (KX P) "_law_right" "_law_right" z_ 294 vT:=dD
def HU (P:B2):Binds (KX P) vT ["some","versions","timed"] []:=(wa P).binds λ _ _ _ _ _ _=>fT λ _ _ _=>rfl
def cN:ax ["some","versions","timed","told","good","order"] ["some","versions","timed"] (da z_):=.k
noncomputable abbrev AG:ZM:=top 54
noncomputable abbrev fd_law:ZJ:=fY "law" "law" (top 54) 300
def rV (P:B2):df (KX P) "law" "law" AG 301 fd_law:=dD
def eI:ax ["script","cell","jar","some","versions","turns","j"] ["script"] (da AG):=.k
section
variable {P:ZK} {w:U1} {mg:ZR->Option ZH} {base:ZN}
def sA:Sp:=λ vs H Q _=>E2 λ x T=>A3 (vs=[x]) (cR H x T) (Q (.bl (decide (T = "int"))) H)
def Eh (T:TX (kx w) mg):Fo P w mg base CX0 1 21 xJ ["value"] sA:=by
 refine (w_ w.params).ok KW (λ b H Q E h=>?_) (λ d A c s H b Q E e h=>?_)
 ·obtain ⟨x,t,rfl,_⟩:=h;rfl
 ·obtain ⟨x,t,rfl,a,q⟩:=h;refine ⟨_,(aV (au (cI (cX kQ rfl (T.no (jG _)) Y4 (ah (pv 0) (ah (jB (v:=.ty "int") rfl (T.no (rY _)) boot_int rfl) aa))) (dH (oy (cX kQ rfl (T.no (jG _)) Y4 (ah (pv 0) (ah (jB (v:=.ty "bool") rfl (T.no (oX _)) boot_bool rfl) aa)))))))),?_⟩;refine ⟨_,rfl,_,_,_,rfl,a,by decide,_,rfl,?_⟩;by_cases h1:fN t "int" = true
  ·rw [ZZ h1];refine ⟨_,rfl,_,_,_,rfl,a,by decide,_,rfl,?_⟩;rw [BQ a (by decide)];have:(!decide (t = "bool"))=decide (t = "int"):=by rcases a.one with rfl|rfl|rfl|rfl|rfl|rfl|rfl<;>revert h1<;>decide
   rw [this];exact q
  ·rw [Z_ h1];have:decide (t = "int")=false:=by rcases a.one with rfl|rfl|rfl|rfl|rfl|rfl|rfl<;>revert h1<;>decide
   rw [this] at q;exact q
def BF:Sp:=λ vs H Q _=>E3 λ x T g=>A3 (vs=[x,.int g]) (cR H x T) (Q (.bl (pL x g)) H)
def Em (T:TX (kx w) mg) (c0:Ca P w mg base "is_whole" ["value"] 1 sA):Fo P w mg base CX0 2 28 uX ["value","greatest"] BF:=by
 refine (uF w.params).ok IA (λ c H Q E h=>?_) (λ e A d s H c Q E b h=>?_)
 ·obtain ⟨x,t,g,rfl,_⟩:=h;rfl
 ·obtain ⟨x,t,g,rfl,a,q⟩:=h;refine ⟨_,(aV (au (cI (aj c0 (b.mono (by decide)) rfl (ah (pv 0) aa)) (dH (KG fF fF (qC nE (pv 1)) (pv 0) (pv 1)))))),?_⟩;refine ⟨_,rfl,x,t,rfl,a,_,rfl,?_⟩;by_cases h1:t = "int"
  ·subst h1;obtain ⟨i,rfl⟩:=a.int;refine dk ?_;refine ⟨_,rfl,_,rfl,_,rfl,_,_,rfl,rfl,_,rfl,?_⟩;unfold pL at q;dsimp only at q;by_cases h2:-g<=i
   ·rw [ZY h2] at q⊢;refine dk ⟨_,rfl,_,_,rfl,rfl,?_⟩;rw [j8g] at q;exact q
   ·rw [ZX h2] at q⊢;refine gf ?_;rw [Bool.false_and] at q;exact q
  ·rw [ZX h1];refine gf ?_;rw [rW a h1] at q;exact q
def wY:Sp:=λ vs H Q _=>E2 λ x T=>A3 (vs=[x]) (cR H x T) (Q (.bl (pL x 1000000000)) H)
def JL (T:TX (kx w) mg) (c0:Ca P w mg base "is_within" ["value","greatest"] 2 BF):Fo P w mg base CX0 3 35 xi ["value"] wY:=by
 refine (ui w.params).ok Ii (λ c H Q E h=>?_) (λ e A d s H c Q E b h=>?_)
 ·obtain ⟨x,t,rfl,_⟩:=h;rfl
 ·obtain ⟨x,t,rfl,a,q⟩:=h;refine ⟨_,(aV (au (aj c0 (b.mono (by decide)) rfl (ah (pv 0) (ah (rE (v:=.int (1000000000)) rfl (T.of (EU _)) ⟨_,rfl⟩) aa))))),?_⟩;exact ⟨_,rfl,x,t,1000000000,rfl,a,q⟩
def sM:Sp:=λ vs H Q _=>E3 λ x T m=>A3 (vs=[x,.int m]) (cR H x T) (Q (.bl (match ft H x with|some xs=>decide ((xs.length:Int)=m)|none=>false)) H)
def FQ (T:TX (kx w) mg):Fo P w mg base CX0 1 47 vL ["value","many"] sM:=by
 refine (xp w.params).ok Ef (λ f H Q E h=>?_) (λ j A k s H f Q E l h=>?_)
 ·obtain ⟨x,t,g,rfl,_⟩:=h;rfl
 ·obtain ⟨x,t,g,rfl,b,q⟩:=h;refine ⟨_,(aV (au (cI (cX kQ rfl (T.no (jG _)) Y4 (ah (pv 0) (ah (jB (v:=.ty "tuple") rfl (T.no (vw _)) boot_tuple rfl) aa))) (dH (jv du (cX gG rfl (T.no (bW _)) C5 (ah (pv 0) aa)) (pv 1) (aC _)))))),?_⟩;refine ⟨_,rfl,_,_,_,rfl,b,by decide,_,rfl,?_⟩;rw [BQ b (by decide)];by_cases h1:t = "tuple"
  ·subst h1;obtain ⟨a,c,rfl,d⟩:=b.tuple;refine dk ⟨_,rfl,.inl ⟨a,c,rfl,.inr (aG.of d),_,rfl,rfl,?_⟩⟩;have e:ft H (.ref a)=some c:=by unfold ft;dsimp only;rw [d]
   rw [e] at q;have i:decide (V.int (c.length:Int)=V.int g)=decide ((c.length:Int)=g):=by simp
   rw [i];exact q
  ·rw [ZX h1];refine gf ?_;rw [qi b h1] at q;exact q
structure aF (z:ZR):Prop where
 l1:1<=z.length
 l8:z.length<=8
 s :∀c∈z.cps.toList,97<=c/\c<=122
theorem aF.ascii {z:ZR} (h:aF z):z.cps.all (· < 128)=true:=by rw [j4g];intro c a;have:=h.s c (Array.mem_toList_iff.mpr a);exact ZY (by lia)
def DL:∀k:Fin 26,(j08 ("abcdefghijklmnopqrstuvwxyz" : ZR) ⟨#[97 + k.val]⟩ 0 ("abcdefghijklmnopqrstuvwxyz" : ZR).length 1).isEmpty=false:=by decide +kernel
theorem HQ {c:Nat} (h:97<=c/\c<=122):(j08 ("abcdefghijklmnopqrstuvwxyz" : ZR) ⟨#[c]⟩ 0 ("abcdefghijklmnopqrstuvwxyz" : ZR).length 1).isEmpty=false:=by have:=DL ⟨c - 97,by lia⟩;rw [show 97 + (c - 97)=c by lia] at this;exact this
def xt:Sp:=λ vs H Q _=>∃z:ZR,vs=[.str z]/\aF z/\∀H',Same H H'->Q (.bl true) H'
theorem zev (T:TX (kx w) mg):Fo P w mg base CX0 1 40 ug ["value"] xt:=by
 refine (wg w.params).ok IV (λ n H Q E h=>?_) (λ B A D s H n Q E G h=>?_)
 ·obtain ⟨z,rfl,_⟩:=h;rfl
 ·obtain ⟨z,rfl,b,q⟩:=h;refine ⟨_,(aR (aQ (PW.pt (dq (bE (bz (cX kQ rfl (T.no (jG _)) Y4 (ah (pv 0) (ah (jB (v:=.ty "str") rfl (T.no (iW _)) boot_str rfl) aa))) (λ _=>rfl))) (di (bE (xg fF fF ab (cX gG rfl (T.no (bW _)) C5 (ah (pv 0) aa)) (rE (v:=.int (8)) rfl (T.of (Ki _)) ⟨_,rfl⟩))))))
   (aV (au cG))
   dI)
   (aV (au (cX (mx rfl) rfl (T.no (fz _)) j31 (ah (cH (xs:=["sign"]) (g:=aI 0) (fr:=[]) (oM (pv 0)) (λ _ _ _ _ _=>(aU (N:=["sign"]) 0)) (λ _ _ _ _ _=>b_) (λ _ _ _ _ _=>(jv FF (pv 0) (rE (v:=.str "abcdefghijklmnopqrstuvwxyz") rfl (T.of (JM _)) ⟨_,rfl⟩) (by with_unfolding_all rfl)))) aa))))),?_⟩
  have F:=b.l1;have f:=b.l8;refine cC (gc ?_);refine ⟨_,rfl,_,_,"str",rfl,rfl,by decide,_,rfl,bc (by decide) ?_⟩;refine ⟨_,rfl,.inr ⟨z,rfl,M0 f (by decide),_,_,rfl,rfl,_,rfl,?_⟩⟩;refine cb (ZY (by lia)) ?_;refine ⟨_,_,rfl,rfl,_,rfl,bc (by rw [ZY (show (z.length:Int)<=8 by lia)];decide) ?_⟩;refine cB (cc (eB ?_));refine nG (x:=z) (H1:=H) (λ _=>true) (λ _ y _=>y=.bl true) (λ _ _ _ _ _ z=>z) (λ R h=>⟨_,rfl,h⟩) b.ascii (M0 (m:=8) f (by decide)) ?_ ?_
  ·intro i J v H1 e j KT C u I;obtain ⟨c,r,rfl⟩:=j;have p:c∈z.cps.toList:=Array.mem_toList_iff.mpr (Array.mem_of_getElem? r);refine ⟨[some (.str ⟨#[c]⟩)],rfl,rfl,dk ?_⟩;refine ⟨_,rfl,_,_,rfl,rfl,?_⟩;rw [HQ (b.s c p)];exact u rfl _ _ (Same.refl _) rfl
  intro l H1 bs e t k;have d :∀y∈bs,y=.bl true:=λ y a=>by obtain ⟨m,o⟩:=List.mem_iff_getElem?.mp a;obtain ⟨_,_,z⟩:=dQ k o;exact z
  refine ⟨l,bs,rfl,av.of aB,λ y a=>⟨true,d y a⟩,?_⟩;rw [List.all_eq_true.mpr (λ y a=>ZY (d y a))];exact q _ (e.trans (Same.upd t))
def sR {H:Hp} {p:ZS} {xs:List V} (e:H p=some (.tup xs)):ft H (.ref p)=some xs:=by unfold ft;dsimp only;rw [e]
def Same.keep {H H':Hp} {l:ZS} {o:HO} (s:Same H H') (n:H l=none):Same H (upd H' l o):=λ a x e=>by rw [ae (bZ e n)];exact s a x e
theorem pK {α β:Type} {R:α->β->Prop} {x:α} {y:β} :∀{xs:List α} {ys:List β},af R xs ys->R x y->af R (xs++[x]) (ys++[y])
 | _,_,.nil,h=>.cons h .nil
 | _,_,.cons a r,h=>.cons a (pK r h)
theorem pC {κ:Type} [DecidableEq κ] {kvs:List (κ×V)} {k:κ} {v:V}:(putK kvs k v).length<=kvs.length + 1:=by
 unfold putK;by_cases z:(kvs.any λ a=>decide (a.1=k))=true
 ·rw [ZZ z,q0];lia
 ·rw [Z_ z,F0];exact L0 _
theorem vG {q:Int->Bool} :∀(ns:List Int) (ys:List V),af (λ (i:Nat) y=>ns[i]?.map V.int=some y) ((N0 ns.length).filter λ i=>(ns[i]?.map q).getD false) ys->ys=(ns.filter q).map V.int
 | [],ys,h=>by cases h;rfl
 | n :: ns,ys,h=>by
  have un :∀{is:List Nat} {ys:List V},af (λ (i:Nat) y=>(n :: ns)[i]?.map V.int=some y) (is.map Nat.succ) ys->af (λ (i:Nat) y=>ns[i]?.map V.int=some y) is ys:=λ {is}=>by
   induction is with
   | nil=>intro ys h;cases h;exact .nil
   | cons i is ih=>intro ys h;cases h with|cons a r=>exact .cons a (ih r)
  rw [W0,j95,Y5,j2g] at h;rw [Y5];by_cases z:q n=true
  ·rw [ZZ (show (j3g q (n :: ns)[0]?).getD false=true from z)] at h;rw [ZZ z,O0];cases h with
   | cons a r=>rw [<-vG ns _ (un r),<-G1 a]
  ·rw [Z_ (show ¬ (j3g q (n :: ns)[0]?).getD false=true from z)] at h;rw [Z_ z];exact vG ns _ (un h)
def Gf {a b c:ZR} (h:jf b a=false) (k:jf c b=false):jf c a=false:=by
 cases e:jf c a with
 | false=>rfl
 | true=>
  cases f:jf a b with
  | true=>rw [GQ e f] at k;cases k
  | false=>rw [yf f h] at e;rw [e] at k;cases k
theorem zy:∀(p:ZR) (l:List ZR),risingS p l=true->(p :: l).Pairwise λ a b=>jf b a=false
 | p,[],_=>j91 _ _
 | p,x :: r,h=>by
  have h:(!ltCps x.cps.toList p.cps.toList && risingS x r)=true:=h;obtain ⟨d,g⟩:=Bool.and_eq_true_iff.mp h;have e:=zy x r g;have f:jf x p=false:=by rw [ltCps_eq] at d;show decide _=false;exact Bool.not_eq_true' _ ▸ d
  refine List.pairwise_cons.mpr ⟨λ y c=>?_,e⟩;rcases List.mem_cons.mp c with rfl|c
  ·exact f
  ·exact Gf f ((List.pairwise_cons.mp e).1 y c)
theorem BZ:∀{l:List ZR},sortedS l=true->l.Pairwise λ a b=>jf b a=false
 | [],_=>.nil
 | p :: l,h=>zy p l h
structure Dd where
 w:Bool
 n:ZR
 x:Int
 deriving DecidableEq
noncomputable def vb (b:Bool):ZR:=if b=true then "write" else "read"
structure Dl where
 b:Int
 e:Int
 ds:List Dd
 deriving DecidableEq
def cT (H:Hp) (d:Dd) (y:V):Prop:=∃p,y=.ref p/\H p=some (.tup [.str (vb d.w),.str d.n,.int d.x])
def bJ (H:Hp) (d:Dl) (y:V):Prop:=∃p q vs,y=.ref p/\H p=some (.tup [.int d.b,.int d.e,.ref q])/\H q=some (.tup vs)/\af (cT H) d.ds vs
def cT.same {H H':Hp} {d:Dd} {y:V} (s:Same H H') (h:cT H d y):cT H' d y:=h.elim λ p z=>⟨p,z.1,s _ _ z.2⟩
def bJ.same {H H':Hp} {d:Dl} {y:V} (s:Same H H') (h:bJ H d y):bJ H' d y:=by obtain ⟨p,q,c,e,f,a,b⟩:=h;exact ⟨p,q,c,e,s _ _ f,s _ _ a,bp (λ _ _ z=>z.same s) b⟩
structure iZ (d:Dd):Prop where
 n:aF d.n
 lo:-1000000000<=d.x
 hi:d.x<=1000000000
structure iN (d:Dl):Prop where
 b0:0<=d.b
 lt:d.b < d.e
 ln:d.ds.length<=4
 ds :∀x∈d.ds,iZ x
def Km {H:Hp}:aG (kx w) H 78 [.str "read",.str "write"]:=
 .inr ⟨⟨(.type "tuple"),none,(.seq #[(.str "read" 279),(.str "write" 280)] 0),#[]⟩,#[(.str "read" 279),(.str "write" 280)],0,by kernel_rfl,rfl,rfl,gp,.cons ⟨_,rfl⟩ (.cons ⟨_,rfl⟩ .nil)⟩
def qg (b:Bool):js (.str (vb b)) [V.str "read",.str "write"]=true:=by cases b<;>decide +kernel
def zN {x g:Int} (h1:-g<=x) (h2:x<=g):pL (.int x) g=true:=by unfold pL;dsimp only;rw [ZY h1,ZY h2];rfl
def sE {K:B0} {H:Hp} {l:ZS} {is:List Nat} {bs:List V} {Q:VK} (al:af (λ (_:Nat) y=>y=V.bl true) is bs) (el:av K H l bs) (q:Q (.bl true) H) :∃p ys,[V.ref l]=[.ref p]/\av K H p ys/\(∀y∈ys,∃b,y=V.bl b)/\Q (.bl (ys.all λ y=>decide (y=V.bl true))) H:=by
 have c :∀y∈bs,y=.bl true:=λ y a=>by obtain ⟨m,d⟩:=List.mem_iff_getElem?.mp a;obtain ⟨_,_,z⟩:=dQ al d;exact z
 refine ⟨l,bs,rfl,el,λ y a=>⟨true,c y a⟩,?_⟩;rw [List.all_eq_true.mpr λ y a=>ZY (c y a)];exact q
def zV:Sp:=λ vs H Q _=>E2 λ d y=>A4 (vs=[y]) (cT H d y) (iZ d) (∀H',Same H H'->Q (.bl true) H')
def Fe (T:TX (kx w) mg) (c0:Ca P w mg base "is_tuple_of" ["value","many"] 1 sM) (c1:Ca P w mg base "is_name" ["value"] 1 xt) (c2:Ca P w mg base "is_worth" ["value"] 3 wY):Fo P w mg base CX0 4 95 wG ["deed"] zV:=by
 refine (uJ w.params).ok Kw (λ e H Q E h=>?_) (λ g A f s H e Q E b h=>?_)
 ·obtain ⟨d,y,rfl,_⟩:=h;rfl
 ·obtain ⟨d,y,rfl,⟨p,rfl,a⟩,ok,q⟩:=h;refine ⟨_,(aR (aQ (PW.pt (dq (bE (bz (aj c0 (b.mono (by decide)) rfl (ah (pv 0) (ah ab aa))) (λ _=>rfl))) (dq (bE (bz (cX kQ rfl (T.no (jG _)) Y4 (ah (ao ak (pv 0) ab (λ _ _=>rfl)) (ah (jB (v:=.ty "str") rfl (T.no (iW _)) boot_str rfl) aa))) (λ _=>rfl))) (di (dj sS (ao ak (pv 0) ab (λ _ _=>rfl)) (rE (v:=.ref 78) rfl (T.of (FT _)) rfl) (by with_unfolding_all rfl))))))
   (aV (au cG))
   dI)
   (aV (au (cI (aj c1 (b.mono (by decide)) rfl (ah (ao ak (pv 0) ab (λ _ _=>rfl)) aa)) (dH (aj c2 (b.mono (by decide)) rfl (ah (ao ak (pv 0) ab (λ _ _=>rfl)) aa))))))),?_⟩
  refine cC (gc ?_);refine ⟨_,rfl,_,"tuple",3,rfl,.inr (.inl ⟨⟨_,a⟩,rfl⟩),?_⟩;rw [sR a];refine ⟨_,rfl,bc (by simp) ?_⟩;refine ⟨_,rfl,.inr (.inl ⟨p,_,0,.str (vb d.w),rfl,rfl,aG.of a,bU (j:=0) rfl,?_⟩)⟩;refine ⟨_,_,"str",rfl,rfl,by decide,_,rfl,bc (by decide) ?_⟩;refine ⟨_,rfl,.inr (.inl ⟨p,_,0,.str (vb d.w),rfl,rfl,aG.of a,bU (j:=0) rfl,?_⟩)⟩;refine ⟨78,_,rfl,.inr Km,rfl,rfl,_,rfl,bc ?_ ?_⟩
  ·rw [ZZ rfl,qg];decide
  refine cB (cc ?_);refine ⟨_,rfl,.inr (.inl ⟨p,_,1,.str d.n,rfl,rfl,aG.of a,bU (j:=1) rfl,d.n,rfl,ok.n,λ i c=>⟨true,rfl,cb rfl ?_⟩⟩)⟩;refine ⟨_,rfl,.inr (.inl ⟨p,_,2,.int d.x,rfl,rfl,aG.of (c _ _ a),bU (j:=2) rfl,_,"int",rfl,rfl,?_⟩)⟩;rw [zN ok.lo ok.hi];exact q _ c
def yA:Sp:=λ vs H Q _=>E2 λ d y=>A4 (vs=[y]) (bJ H d y) (iN d) (∀H',Same H H'->Q (.bl true) H')
def Ho (T:TX (kx w) mg) (c0:Ca P w mg base "is_tuple_of" ["value","many"] 1 sM) (c1:Ca P w mg base "is_whole" ["value"] 1 sA) (c2:Ca P w mg base "is_part" ["deed"] 4 zV):Fo P w mg base CX0 5 88 wc ["dealing"] yA:=by
 refine (uO w.params).ok IC (λ C H Q E h=>?_) (λ K A O s H C Q E f h=>?_)
 ·obtain ⟨d,y,rfl,_⟩:=h;rfl
 ·obtain ⟨d,y,rfl,⟨p,r,l,rfl,c,n,m⟩,ok,q⟩:=h;have G:=ok.b0;have lt:=ok.lt;refine ⟨_,(aR (aQ (PW.pt (dq (bE (bz (aj c0 (f.mono (by decide)) rfl (ah (pv 0) (ah ab aa))) (λ _=>rfl))) (dq (bE (bz (aj c1 (f.mono (by decide)) rfl (ah (ao ak (pv 0) ab (λ _ _=>rfl)) aa)) (λ _=>rfl))) (di (bE (bz (aj c1 (f.mono (by decide)) rfl (ah (ao ak (pv 0) ab (λ _ _=>rfl)) aa)) (λ _=>rfl)))))))
   (aV (au cG))
   dI)
   (aR (aQ (PW.pt (dq (bE (xg fF iO ab (ao ak (pv 0) ab (λ _ _=>rfl)) (ao ak (pv 0) ab (λ _ _=>rfl)))) (di (bE (bz (cX kQ rfl (T.no (jG _)) Y4 (ah (ao ak (pv 0) ab (λ _ _=>rfl)) (ah (jB (v:=.ty "tuple") rfl (T.no (vw _)) boot_tuple rfl) aa))) (λ _=>rfl))))))
   (aV (au cG))
   dI)
   (aV (au (cX (mx rfl) rfl (T.no (fz _)) j31 (ah (cH (xs:=["deed"]) (g:=aI 0) (fr:=[]) (fR (ao ak (pv 0) ab (λ _ _=>rfl))) (λ _ _ _ _ _=>(aU (N:=["deed"]) 0)) (λ _ _ _ _ _=>b_) (λ _ _ _ _ _=>(aj c2 (f.mono (by decide)) rfl (ah (pv 0) aa)))) aa)))))),?_⟩
  refine cC (gc ?_);refine ⟨_,rfl,_,"tuple",3,rfl,.inr (.inl ⟨⟨_,c⟩,rfl⟩),?_⟩;rw [sR c];refine ⟨_,rfl,bc (by simp) ?_⟩;refine ⟨_,rfl,.inr (.inl ⟨p,_,0,.int d.b,rfl,rfl,aG.of c,bU (j:=0) rfl,?_⟩)⟩;refine ⟨_,"int",rfl,rfl,_,rfl,bc (by decide) ?_⟩;refine ⟨_,rfl,.inr (.inl ⟨p,_,1,.int d.e,rfl,rfl,aG.of c,bU (j:=1) rfl,?_⟩)⟩;refine ⟨_,"int",rfl,rfl,_,rfl,bc (by decide) ?_⟩;refine cB (cC (gc ?_));refine ⟨_,rfl,.inr (.inl ⟨p,_,0,.int d.b,rfl,rfl,aG.of c,bU (j:=0) rfl,_,_,rfl,rfl,_,rfl,cb (ZY G) ?_⟩)⟩;refine ⟨_,rfl,.inr (.inl ⟨p,_,1,.int d.e,rfl,rfl,aG.of c,bU (j:=1) rfl,_,_,rfl,rfl,_,rfl,bc (by rw [ZY lt];decide) ?_⟩)⟩;refine ⟨_,rfl,.inr (.inl ⟨p,_,2,.ref r,rfl,rfl,aG.of c,bU (j:=2) rfl,?_⟩)⟩;refine ⟨_,_,"tuple",rfl,.inr (.inl ⟨⟨_,n⟩,rfl⟩),by decide,_,rfl,bc (by decide) ?_⟩;refine cB (cc (eB ?_));have u:l.length<=ZG:=by rw [cz m];exact M0 ok.ln (by decide)
  refine GP (a:=r) (xs:=l) (H1:=H) (λ _=>true) (λ _ y _=>y=.bl true) (λ _ _ _ _ _ z=>z) (λ R h=>⟨_,rfl,.inr (.inl ⟨p,_,2,.ref r,rfl,rfl,aG.of c,bU (j:=2) rfl,h⟩)⟩) (aG.of n) u ?_ ?_
  ·intro i V v H1 k t KT M J U;obtain ⟨x,F,o⟩:=dQ m t;refine ⟨[some v],rfl,rfl,dk ?_⟩;exact ⟨_,rfl,x,v,rfl,o.same k,ok.ds x (K0 F),λ S D=>J rfl _ _ D rfl⟩
  intro L H1 bs k I B;exact sE B (av.of aB) (q _ (k.trans (Same.upd I)))
def hF (H:Hp) (ns:List Int) (l:ZS):Prop:=H l=some (.lst (ns.map V.int))
def mE (ns:List Int):Prop:=ns.length<=60/\∀x∈ns,-1000000000<=x/\x<=1000000000
def yx:Sp:=λ vs H Q _=>E3 λ z l ns=>A5 (vs=[.str z,.ref l]) (hF H ns l) (aF z) (mE ns) (∀H',Same H H'->Q (.bl true) H')
def EO (T:TX (kx w) mg) (c0:Ca P w mg base "is_name" ["value"] 1 xt) (c1:Ca P w mg base "is_worth" ["value"] 3 wY):Fo P w mg base CX0 4 100 ur ["name","row"] yx:=by
 refine (vH w.params).ok IQ (λ p H Q E h=>?_) (λ x A D s H p Q E j h=>?_)
 ·obtain ⟨z,l,k,rfl,_⟩:=h;rfl
 ·obtain ⟨z,l,k,rfl,f,o,ok,q⟩:=h;refine ⟨_,(aV (au (cI (aj c0 (j.mono (by decide)) rfl (ah (pv 0) aa)) (cI (cX kQ rfl (T.no (jG _)) Y4 (ah (pv 1) (ah (jB (v:=.ty "list") rfl (T.no (dU _)) j1d rfl) aa))) (dH (cX (mx rfl) rfl (T.no (fz _)) j31 (ah (cH (xs:=["worth"]) (g:=aI 0) (fr:=[]) (fZ (pv 1)) (λ _ _ _ _ _=>(aU (N:=["worth"]) 0)) (λ _ _ _ _ _=>b_) (λ _ _ _ _ _=>(aj c1 (j.mono (by decide)) rfl (ah (pv 0) aa)))) aa))))))),?_⟩;refine cc ?_;refine ⟨_,rfl,z,rfl,o,λ H1 c=>⟨true,rfl,cb rfl ?_⟩⟩;refine ⟨_,rfl,_,_,"list",rfl,.inl ⟨⟨_,c _ _ f⟩,rfl⟩,by decide,_,rfl,cb (by decide) ?_⟩;refine eB ?_;refine nZ (a:=l) (xs:=k.map V.int) (H1:=H1) (λ _=>true) (λ _ y _=>y=.bl true) (λ _ _ _ _ _ z=>z) (λ R h=>⟨_,rfl,h⟩) (av.of (c _ _ f)) (by rw [q0];exact M0 ok.1 (by decide)) ?_ ?_
  ·intro i G v r e d KT C u F;rw [C1] at d;obtain ⟨n,b,rfl⟩:=Option.map_eq_some_iff.mp d;have b:=ok.2 n (K0 b);refine ⟨[some (.int n)],rfl,rfl,dk ?_⟩;refine ⟨_,rfl,_,"int",rfl,rfl,?_⟩;rw [zN b.1 b.2];exact u rfl _ _ (Same.refl _) rfl
  intro B r bs e t m;exact sE m (av.of aB) (q _ (c.trans (e.trans (Same.upd t))))
theorem sC (x:Int) :∀ns:List Int,js (.int x) (ns.map V.int)=decide (x∈ns)
 | []=>by rw [ZX P0];rfl
 | n :: r=>by
  show ((n == x) || js (.int x) (r.map V.int))=_;rw [sC x r];by_cases e:n=x
  ·rw [beq_iff_eq.mpr e,Bool.true_or,ZY (List.mem_cons.mpr (.inl e.symm))]
  ·rw [Bool.eq_false_iff.mpr (λ h=>e (beq_iff_eq.mp h)),Bool.false_or];by_cases m:x∈r
   ·rw [ZY m,ZY (List.mem_cons.mpr (.inr m))]
   ·rw [ZX m,ZX (λ h=>(List.mem_cons.mp h).elim (λ y=>e y.symm) m)]
theorem tP:∀ns:List Int,(ns.map V.int).all dM=true
 | []=>rfl
 | _ :: r=>by show (true && (r.map V.int).all dM)=true;rw [tP r];rfl
theorem Dc:∀(us ns:List Int),us.Nodup->(∀u∈us,u∉ns)->(us.foldl dc ns).length=ns.length + us.length
 | [],ns,_,_=>rfl
 | u :: us,ns,nd,h=>by
  rw [L3] at nd;have e:dc ns u=ns++[u]:=by unfold dc;rw [Z_ (h u (.head _))]
  rw [U3,e,Dc us (ns++[u]) nd.2 λ v a z=>?_]
  ·simp only [F0,W0,v6];lia
  ·rcases List.mem_append.mp z with z|z
   ·exact h v (.tail _ a) z
   ·rw [List.mem_singleton.mp z] at a;exact nd.1 a
def kL {a b:List Int} (h1:a.Pairwise (·<=·)) (h2:b.Pairwise (·<=·)) (p:a.Perm b):a=b:=List.Perm.eq_of_pairwise (λ _ _ _ _ h1 h2=>Int.le_antisymm h1 h2) h1 h2 p
def mW {K:B0} {H:Hp} {l:ZS} {ns:List Int} (h:av K H l (ns.map V.int)):bY K H (.list (ns.map J8)) (.ref l):=by
 refine ⟨l,_,rfl,h,?_⟩;clear h;induction ns with
 | nil=>rfl
 | cons n ns ih=>exact ⟨_,_,rfl,rfl,ih⟩
theorem rG:∀ns:List Int,bg (.list (ns.map J8))=true/\(PyData.list (ns.map J8)).depth<=60
 | []=>⟨rfl,by decide⟩
 | n :: ns=>by
  obtain ⟨b,a⟩:=rG ns;refine ⟨b,?_⟩;have a:Q2 (ns.map J8) + 1<=60:=a;show max 0 (Q2 (ns.map J8)) + 1<=60
  lia
def CJ:Sp:=λ vs H Q _=>E4 λ l m ns ms=>A8 (vs=[.ref l,.ref m]) (hF H ns l) (hF H ms m) (ns.Perm ms) (¬ (0:Int)∈ns) (ns.Nodup) (ns.length<=60) (∀H',Same H H'->Q (.bl true) H')
theorem IB (T:TX (kx w) mg):Fo P w mg base CX0 1 119 xK ["row","worths"] CJ:=by
 refine (uj w.params).ok Ir (λ v H Q E h=>?_) (λ J A K s H v Q E D h=>?_)
 ·obtain ⟨l,m,a,j,rfl,_⟩:=h;rfl
 ·obtain ⟨l,m,a,j,rfl,k,u,i,z,F,L,q⟩:=h;refine ⟨_,(aV (au (cI (jv (oT D) (cX tY rfl (T.no (oP _)) j05 (ah (pv 0) aa)) (cX tY rfl (T.no (oP _)) j05 (ah (pv 1) aa)) (aC _)) (cI (jv sS ab (pv 0) (by with_unfolding_all rfl)) (dH (jv du (HI rfl rfl (T.no (bW _)) rfl (T.no (ma _)) C5 boot_set (pv 0)) (cX gG rfl (T.no (bW _)) C5 (ah (pv 0) aa)) (aC _))))))),?_⟩;refine cc ?_;refine ⟨_,rfl,l,a,rfl,.inl (av.of k),by lia,λ I n B t y=>?_⟩;have g:=Same.upd (o:=.lst (n.map V.int)) B;refine ⟨_,rfl,m,j,rfl,.inl (av.of (g _ _ u)),by have:=i.length_eq;lia,λ M f C G x=>?_⟩;have d:=Same.upd (o:=.lst (f.map V.int)) C;have r:f=n:=kL x y ((G.trans i.symm).trans t.symm);subst r;have b:=rG f;refine ⟨_,_,mW (av.of (d _ _ aB)),mW (av.of aB),b.1,b.1,b.2,_,rfl,cb ?_ ?_⟩
  ·rw [pk (p:=True) b.1 b.1 (by simp)];rfl
  have c:=d _ _ (g _ _ k);refine ⟨_,rfl,l,_,rfl,.inl (av.of c),rfl,tP a,_,rfl,cb ?_ ?_⟩
  ·rw [ZZ rfl,sC,ZX z];rfl
  refine uG (mU ⟨_,rfl,_,_,rfl,av.of c,by lia,?_⟩);refine eB ⟨_,rfl,.inl ⟨l,_,rfl,.inl (av.of c),rfl,?_⟩⟩;rw [Dc a [] F λ _ _=>P0];have e:decide (V.int (([]:List Int).length + a.length:Nat)=V.int ((a.map V.int).length:Nat))=true:=by rw [q0];simp
  rw [e];exact q _ (g.trans d)
noncomputable abbrev bA:=List (ZR×List Int)
noncomputable def bI (rows:bA) (n:ZR) (ms:List Int):bA:=if n∈rows.map (·.1) then rows.map (λ r=>if r.1=n then (r.1,r.2++ms) else r) else rows++[(n,ms)]
structure bV (H0 H:Hp) (f:ZS) (rows:bA) (kvs:List (Key×V)):Prop where
 sm:Same H0 H
 fr:H0 f=none
 at':H f=some (.dK kvs)
 al:af (λ (kv:Key×V) (r:ZR×List Int)=>kv.1=.inr r.1/\∃l,kv.2=.ref l/\H0 l=none/\H l=some (.lst (r.2.map V.int))) kvs rows
 nl:(kvs.map (·.2)).Nodup
 nk:(rows.map (·.1)).Nodup
def bV.no (D:bV H0 H f rows kvs) (h:¬ n∈rows.map (·.1)):aH kvs (.inr n)=none:=by
 have b:=D.al;clear D;induction b with
 | nil=>rfl
 | @cons kv r kvs rows a _ ih=>
  rw [O0,X1,not_or] at h;have:=ih h.2;unfold aH at this⊢;rw [O5]
  ·exact this
  ·rw [a.1];simp;exact λ e=>h.1 e.symm
def bV.has (D:bV H0 H f rows kvs) (h:(n,ns)∈rows) :∃l,aH kvs (.inr n)=some (.ref l)/\H0 l=none/\H l=some (.lst (ns.map V.int)):=by
 have k:=D.al;have b:=D.nk;clear D;induction k with
 | nil=>cases h
 | @cons kv r kvs rows a _ ih=>
  rw [O0,L3] at b;obtain ⟨c,l,j,i,g⟩:=a;rcases List.mem_cons.mp h with e|h
  ·subst e;refine ⟨l,?_,i,g⟩;unfold aH;rw [C7 (by rw [c];simp),T6,j]
  ·obtain ⟨o,d,m⟩:=ih h b.2;refine ⟨o,?_,m⟩;unfold aH at d⊢;rw [O5]
   ·exact d
   ·rw [c];simp;exact λ e=>b.1 (List.mem_map.mpr ⟨_,h,e.symm⟩)
def bV.len (D:bV H0 H f rows kvs):kvs.length=rows.length:=(cz D.al).symm
def Bo:(bI rows n ms).map (·.1)=if n∈rows.map (·.1) then rows.map (·.1) else rows.map (·.1)++[n]:=by
 unfold bI;split
 ·rw [Y6];refine z8 λ r _=>?_;show (if r.1=n then (r.1,r.2++ms) else r).1=r.1;split<;>rfl
 ·rw [Q3];rfl
def fi (h:(rows.map (·.1)).Nodup):((bI rows n ms).map (·.1)).Nodup:=by
 rw [Bo];split
 ·exact h
 ·rename_i z;refine List.nodup_append.mpr ⟨h,by simp,λ a c b d e=>?_⟩;rw [List.mem_singleton.mp d] at e;exact z (e ▸ c)
def bV.grow (D:bV H0 H f rows kvs) (h:(n,ns)∈rows) (ms:List Int) :∃l,aH kvs (.inr n)=some (.ref l)/\H0 l=none/\H l=some (.lst (ns.map V.int))/\bV H0 (upd H l (.lst ((ns++ms).map V.int))) f (bI rows n ms) kvs:=by
 obtain ⟨l,b,C,B⟩:=D.has h;have w:f≠l:=aK D.at' B λ z=>nomatch z
 have y:n∈rows.map (·.1):=List.mem_map.mpr ⟨_,h,rfl⟩;refine ⟨l,b,C,B,λ a o e=>?_,D.fr,by rw [ae w];exact D.at',?_,D.nl,fi D.nk⟩
 ·rw [ae (bZ e C)];exact D.sm a o e
 ·unfold bI;rw [ZZ y];have p:=D.al;have i:=D.nl;have g:=D.nk;clear D y w;induction p with
  | nil=>exact .nil
  | @cons kv r kvs rows a p ih=>
   rw [O0,L3] at i g;obtain ⟨q,d,j,x,I⟩:=a;rw [O0];rcases List.mem_cons.mp h with e|h
   ·subst e;have K:d=l:=by unfold aH at b;rw [C7 (by rw [q];simp),T6,j] at b;cases b;rfl
    subst K;rw [ZZ rfl];refine .cons ⟨q,d,j,x,aB⟩ ?_;have ne :∀c∈kvs,c.2≠.ref d:=λ c v z=>i.1 (by rw [j,<-z];exact List.mem_map.mpr ⟨_,v,rfl⟩);have k :∀r∈rows,r.1≠n:=λ r u z=>g.1 (List.mem_map.mpr ⟨_,u,z⟩);clear ih b i g h;induction p with
    | nil=>exact .nil
    | @cons c r' kvs rows a p ih2=>obtain ⟨t,A,m,G,J⟩:=a;rw [O0,Z_ (k r' Y0)];have F:A≠d:=λ z=>ne c Y0 (by rw [m,z]);exact .cons ⟨t,A,m,G,by rw [ae F];exact J⟩ (ih2 (λ c v=>ne c (Z0 _ v)) λ r u=>k r (Z0 _ u))
   ·have k:r.1≠n:=λ z=>g.1 (List.mem_map.mpr ⟨_,h,z.symm⟩);rw [Z_ k];have s:aH kvs (.inr n)=some (.ref l):=by unfold aH at b⊢;rw [O5 (by rw [q];simp;exact k)] at b;exact b
    have E:d≠l:=λ z=>i.1 (by rw [j,z];unfold aH at s;obtain ⟨L,t,m⟩:=Option.map_eq_some_iff.mp s;rw [<-m];exact List.mem_map.mpr ⟨_,o8 t,rfl⟩);exact .cons ⟨q,d,j,x,by rw [ae E];exact I⟩ (ih h s i.2 g.2)
def bV.more (D:bV H0 H f rows kvs) (h:¬ n∈rows.map (·.1)) (ms:List Int) (hp0:H0 p=none) (hpf:p≠f) (hpl :∀kv∈kvs,kv.2≠.ref p) (hp:H p=some (.lst (ms.map V.int))):bV H0 (upd H f (.dK (putK kvs (.inr n) (.ref p)))) f (bI rows n ms) (putK kvs (.inr n) (.ref p)):=by
 rw [Eb _ (D.no h)];refine ⟨λ a o e=>?_,D.fr,aB,?_,?_,fi D.nk⟩
 ·rw [ae (bZ e D.fr)];exact D.sm a o e
 ·unfold bI;rw [Z_ h];refine pK (bp (λ kv r z=>?_) D.al) ⟨rfl,p,rfl,hp0,by rw [ae hpf];exact hp⟩;obtain ⟨k,l,c,m,d⟩:=z;exact ⟨k,l,c,m,by rw [ae (aK d D.at' λ z=>nomatch z)];exact d⟩
 ·rw [Q3];refine List.nodup_append.mpr ⟨D.nl,by simp,λ a i b g e=>?_⟩;rw [O0,j28,B5] at g;obtain ⟨kv,j,c⟩:=List.mem_map.mp i;exact hpl kv j (by rw [c,e,g])
def bV.beside (D:bV H0 H f rows kvs) (s:Same H H'):bV H0 H' f rows kvs:=
 ⟨D.sm.trans s,D.fr,s _ _ D.at',bp (λ _ _ z=>⟨z.1,z.2.elim λ l y=>⟨l,y.1,y.2.1,s _ _ y.2.2⟩⟩) D.al,D.nl,D.nk⟩
def qr {α β:Type} {R:α->β->Prop} {xs:List α} {ys:List β} (h:af R xs ys) {x:α} (hx:x∈xs) :∃y∈ys,R x y:=by
 induction h with
 | nil=>cases hx
 | cons a r ih=>
  rcases List.mem_cons.mp hx with rfl|hx
  ·exact ⟨_,.head _,a⟩
  ·obtain ⟨y,b,h⟩:=ih hx;exact ⟨y,.tail _ b,h⟩
def cJ {rows:bA} {n:ZR} (h:n∈rows.map (·.1)) :∃ns,(n,ns)∈rows:=by obtain ⟨r,a,rfl⟩:=List.mem_map.mp h;exact ⟨r.2,a⟩
def bV.set {H0 H:Hp} {f:ZS} {rows:bA} {kvs:List (Key×V)} (D:bV H0 H f rows kvs) (n:ZR) (ms:List Int) (hb:rows.length < ZG) {Qv:V->Hp->Prop} {p:ZS} (hp:H p=none)
  (q :∀l ns H',H0 l=none->H' l=some (.lst (ns.map V.int))->(∀a xs,H a=some (.lst xs)->a≠l->H' a=some (.lst xs))->((n,ns)∈rows\/ns=[])->(∃kvs',bV H0 (upd H' l (.lst ((ns++ms).map V.int))) f (bI rows n ms) kvs')->Qv (.ref l) H') :
  ∃kvs k,upd H p (.lst []) f=some (.dK kvs)/\V.str n=kV k/\kvs.length < ZG/\(∀v,aH kvs k=some v->Qv v (upd H p (.lst [])))/\(aH kvs k=none->Qv (.ref p) (upd (upd H p (.lst [])) f (.dK (putK kvs k (.ref p))))):=by
 have j:=Same.upd (o:=.lst []) hp;have t:=D.beside j;have u:H0 p=none:=D.sm.free hp;have i:p≠f:=(bZ D.at' hp).symm;refine ⟨kvs,.inr n,t.at',rfl,by rw [D.len];exact hb,λ v c=>?_,λ c=>?_⟩
 ·have h:n∈rows.map (·.1):=N2 λ z=>by rw [D.no z] at c;cases c
  obtain ⟨ns,g⟩:=cJ h;obtain ⟨l,d,F,B,A⟩:=t.grow g ms;rw [c] at d;cases d;exact q l ns _ F B (λ a xs e _=>j _ _ e) (.inl g) ⟨_,A⟩
 ·have h:¬ n∈rows.map (·.1):=λ z=>by obtain ⟨ns,g⟩:=cJ z;obtain ⟨l,d,_⟩:=D.has g;rw [c] at d;cases d
  have w :∀s∈kvs,s.2≠.ref p:=λ s E z=>by obtain ⟨r,_,_,l,C,_,m⟩:=qr D.al E;rw [C] at z;cases z;rw [hp] at m;cases m
  refine q p [] _ u (by rw [ae i];exact aB) (λ a xs e _=>by rw [ae (aK e D.at' λ z=>nomatch z)];exact j _ _ e) (.inr rfl) ⟨putK kvs (.inr n) (.ref p),?_⟩;have y:bV H0 (upd H p (.lst (ms.map V.int))) f rows kvs:=D.beside (Same.upd hp);have x:=y.more h ms u i w aB;have e:upd (upd (upd H p (.lst [])) f (.dK (putK kvs (.inr n) (.ref p)))) p (.lst (([]++ms).map V.int))=upd (upd H p (.lst (ms.map V.int))) f (.dK (putK kvs (.inr n) (.ref p))):=by
   funext b;unfold upd;by_cases z1:b=p
   ·rw [ZZ z1,Z_ (by rw [z1];exact i),ZZ z1];rfl
   ·rw [Z_ z1,Z_ z1,Z_ z1]
  rw [e];exact x
def xS {K:B0} {td ty:TE} {ta:TA} {σ:L2.St} {Q:VK} {H0 H:Hp} {f:ZS} {rows:bA} {kvs:List (Key×V)} {n:ZR} {x:Int} (D:bV H0 H f rows kvs) (htd :∀R:VK,R (.ref f) H->td σ H R) (hty :∀R:VK,R (.str n) H->ty σ H R) (hta :∀H' (R:List V->Hp->Prop),R [.int x] H'->ta σ H' R)
  (hb:rows.length < ZG) (hr :∀r∈rows,r.2.length < ZG) (q :∀H' kvs',bV H0 H' f (bI rows n [x]) kvs'->Q .non H'):kW K "list" sU (kF td ty (kz ig)) ta σ H Q:=by
 refine htd _ ⟨f,rfl,.inl ⟨kvs,.inl D.at'⟩,hty _ ⟨gj,λ p g=>?_⟩⟩;refine D.set (Qv:=λ v d=>sV K "list" v d/\ta σ d λ i b=>sU v i b Q) n [x] hb g λ l j b _ c _ a e=>⟨.inl ⟨rfl,_,av.of c⟩,hta _ _ ⟨l,_,_,rfl,rfl,c,?_,?_⟩⟩
 ·rw [q0];rcases a with a|a
  ·exact hr _ a
  ·rw [a];decide
 ·rw [Q3] at e;exact e.elim λ kvs' h=>q _ kvs' h
def Lc {K:B0} {td ty:TE} {ta:TA} {σ:L2.St} {Q:VK} {H0 H:Hp} {f m:ZS} {rows:bA} {kvs:List (Key×V)} {n:ZR} {ms:List Int} (D:bV H0 H f rows kvs) (hm:H0 m=some (.lst (ms.map V.int))) (htd :∀R:VK,R (.ref f) H->td σ H R) (hty :∀R:VK,R (.str n) H->ty σ H R) (hta :∀H' (R:List V->Hp->Prop),R [.ref m] H'->ta σ H' R)
  (hb:rows.length < ZG) (hr :∀r∈rows,r.2.length + ms.length<=ZG) (hm2:ms.length<=ZG) (q :∀H' kvs',bV H0 H' f (bI rows n ms) kvs'->Q .non H'):kW K "list" sF (kF td ty (kz ig)) ta σ H Q:=by
 refine htd _ ⟨f,rfl,.inl ⟨kvs,.inl D.at'⟩,hty _ ⟨gj,λ p i=>?_⟩⟩;refine D.set (Qv:=λ v c=>sV K "list" v c/\ta σ c λ o b=>sF v o b Q) n ms hb i λ l s b g d k a e=>?_;have h:m≠l:=bZ hm g;refine ⟨.inl ⟨rfl,_,av.of d⟩,hta _ _ ⟨l,m,_,_,rfl,rfl,d,k _ _ (D.sm _ _ hm) h,?_,?_⟩⟩
 ·rw [q0,q0];rcases a with a|a
  ·exact hr _ a
  ·rw [a];simpa using hm2
 ·rw [Q3] at e;exact e.elim λ kvs' j=>q _ kvs' j
def RB (k:Nat) (rows:bA):Prop:=rows.length<=k/\∀r∈rows,r.2.length<=k
theorem RB.ext (h:RB k rows) (n:ZR) (ms:List Int) (j:Nat) (h1:1<=j) (hj:ms.length<=j):RB (k + j) (bI rows n ms):=by
 unfold bI;split
 ·refine ⟨by rw [q0];have:=h.1;lia,λ r a=>?_⟩;obtain ⟨b,c,rfl⟩:=List.mem_map.mp a;have:=h.2 b c;split
  ·show (b.2++ms).length<=_;rw [F0]
   lia
  ·lia
 ·refine ⟨by rw [F0];have:=h.1;show rows.length + 1<=_;lia,λ r a=>?_⟩;rcases List.mem_append.mp a with a|a
  ·have:=h.2 r a
   lia
  ·rw [List.mem_singleton.mp a];show ms.length<=_
   lia
noncomputable def wrR (ds:List Dd):bA:=ds.foldl (λ rows d=>if d.w=true then bI rows d.n [d.x] else rows) []
def tD (ds:List Dd) (d:Dd):wrR (ds++[d])=if d.w=true then bI (wrR ds) d.n [d.x] else wrR ds:=by unfold wrR;rw [f9];rfl
theorem gK (ds:List Dd):RB ds.length (wrR ds):=by
 have go :∀(ds:List Dd) (a:bA) (k:Nat),RB k a->RB (k + ds.length) (ds.foldl (λ a d=>if d.w=true then bI a d.n [d.x] else a) a):=λ ds=>by
  induction ds with
  | nil=>exact λ a k h=>h
  | cons d ds ih=>
   intro a k h;rw [U3,W0,show k + (ds.length + 1)=(k + 1) + ds.length by lia];refine ih _ _ ?_;split
   ·exact h.ext _ _ 1 (L0 _) (L0 _)
   ·exact ⟨by have:=h.1;lia,λ r b=>by have:=h.2 r b;lia⟩
 have:=go ds [] 0 ⟨L0 _,λ _ h=>nomatch h⟩
 rwa [i8] at this
def gk (b:Bool):decide (V.str (vb b)=V.str "write")=b:=by cases b<;>decide +kernel
def AB:Sp:=λ vs H Q _=>E2 λ d y=>A4 (vs=[y]) (bJ H d y) (d.ds.length<=4) (∀f H' kvs,bV H H' f (wrR d.ds) kvs->Q (.ref f) H')
theorem KO (T:TX (kx w) mg):Fo P w mg base CX0 1 112 uL ["dealing"] AB:=by
 refine (wZ w.params).ok cf (λ I H Q E h=>?_) (λ V A W s H I Q E B h=>?_)
 ·obtain ⟨d,y,rfl,_⟩:=h;rfl
 ·obtain ⟨d,y,rfl,⟨p,r,m,rfl,L,C,v⟩,Y,q⟩:=h;refine ⟨_,(aR (ar (i:=1) cf.nd rfl (O1 rfl) lH)
   (aR (aW Z1 rfl (fR (ao ak (pv 0) ab (λ _ _=>rfl))) (bx rfl (cK (cZ (i:=2) cf.nd rfl (O1 rfl)) (cK (cZ (i:=3) cf.nd rfl (O1 rfl)) (cK (cZ (i:=4) cf.nd rfl (O1 rfl)) f_))))
   (aV (aQ (dj du (pv 2) bf (aC _))
   (aV (gv (jC (tG (pv 1) (pv 3) (aO aa) ⟨rfl,rfl,rfl,rfl⟩) (ah (pv 4) aa))))
   dI)))
   (aV (au (pv 1))))),?_⟩
  refine cy ?_;intro f F;refine ai ?_;have e:bV H (upd H f (.dK [])) f [] []:=⟨Same.upd F,F,aB,.nil,B3,B3⟩
  refine ⟨_,rfl,.inr (.inl ⟨p,_,2,.ref r,rfl,rfl,aG.of (e.sm _ _ L),bU (j:=2) rfl,r,rfl,⟨m,aG.of (e.sm _ _ C)⟩,?_⟩)⟩;refine tJ (K:=KX w.params) (a:=r) (xs:=m) (λ i σ b=>(∃kvs,bV H b f (wrR (d.ds.take i)) kvs)/\(E3 λ k g l=>σ=[some (.ref p),some (.ref f),k,g,l])) ⟨⟨_,e⟩,_,_,_,rfl⟩ (λ i σ b _ z=>aG.of (z.1.elim λ _ D=>D.sm _ _ C)) ?_ ?_
  ·rintro i x σ b M ⟨⟨kvs,D⟩,k,g,l,rfl⟩;obtain ⟨c,U,⟨J,rfl,S⟩⟩:=dQ v M;have tk:d.ds.take (i + 1)=d.ds.take i++[c]:=by rw [N4,U];rfl
   refine ⟨J,_,rfl,aG.of (D.sm _ _ S),rfl,_,_,rfl,_,_,rfl,_,_,rfl,rfl,?_⟩;refine ⟨_,rfl,rfl,_,rfl,?_⟩;rw [gk];by_cases zw:c.w=true
   ·refine cb zw ?_;have N:wrR (d.ds.take (i + 1))=bI (wrR (d.ds.take i)) c.n [c.x]:=by rw [tk,tD,ZZ zw]
    have o:=gK (d.ds.take i);have u:(d.ds.take i).length<=4:=by rw [Y1];lia
    have t:4 < ZG:=by decide
    refine xS D (λ R h=>⟨_,rfl,h⟩) (λ R h=>⟨_,rfl,h⟩) (λ b R h=>⟨_,rfl,h⟩) (W1 (M0 o.1 u) t) (λ r B=>W1 (M0 (o.2 r B) u) t) λ X O G=>?_;exact ⟨⟨O,by rw [N];exact G⟩,_,_,_,rfl⟩
   ·refine bc zw ?_;exact ⟨⟨kvs,by rw [tk,tD,Z_ zw];exact D⟩,_,_,_,rfl⟩
  rintro σ b ⟨⟨kvs,D⟩,k,g,l,rfl⟩;rw [cz v,W2] at D;exact ⟨_,rfl,q _ _ _ D⟩
noncomputable def fE (kvs:List (Key×V)) (f:ZS) (H:Hp):Hp:=λ a=>if a=f\/V.ref a∈kvs.map (·.2) then none else H a
def oZ:fE kvs f H f=none:=by unfold fE;rw [ZZ (.inl rfl)]
def oC (h:V.ref l∈kvs.map (·.2)):fE kvs f H l=none:=by unfold fE;rw [ZZ (.inr h)]
def wM (h1:a≠f) (h2:¬ V.ref a∈kvs.map (·.2)):fE kvs f H a=H a:=by unfold fE;rw [Z_ λ z=>z.elim h1 h2]
def JZ:Same (fE kvs f H) H:=λ a o e=>by
 unfold fE at e;split at e
 ·cases e
 ·exact e
def bV.self (D:bV H0 H f rows kvs):bV (fE kvs f H) H f rows kvs/\Same H0 (fE kvs f H):=by
 refine ⟨⟨JZ,oZ,D.at',?_,D.nl,D.nk⟩,λ a o e=>?_⟩
 ·have n:=D.al;have :∀b∈kvs,b∈kvs:=λ _ h=>h;generalize d:fE kvs f H=B;have j :∀l,V.ref l∈kvs.map (·.2)->B l=none:=λ l m=>by rw [<-d];exact oC m
  clear d D this;have :∀b∈kvs,∀l,b.2=.ref l->B l=none:=λ b h l e=>j l (by rw [<-e];exact List.mem_map.mpr ⟨_,h,rfl⟩);clear j;induction n with
  | nil=>exact .nil
  | cons a _ ih=>obtain ⟨p,l,c,g,k⟩:=a;exact .cons ⟨p,l,c,this _ Y0 l c,k⟩ (ih λ b h=>this b (Z0 _ h))
 ·rw [wM]
  ·exact D.sm a o e
  ·exact bZ e D.fr
  ·intro z;obtain ⟨b,d,i⟩:=List.mem_map.mp z;obtain ⟨r,_,_,l,c,g,_⟩:=qr D.al d;rw [c] at i;cases i;rw [e] at g;cases g
def bV.onto (D:bV B H f rows kvs) (s:Same H0 B):bV H0 H f rows kvs:=
 ⟨s.trans D.sm,s.free D.fr,D.at',bp (λ _ _ z=>⟨z.1,z.2.elim λ l y=>⟨l,y.1,s.free y.2.1,y.2.2⟩⟩) D.al,D.nl,D.nk⟩
def bV.off (D:bV H0 H f rows kvs) (hg0:H0 g=none) (hg:H g=some (.dK kv2)) (nf:g≠f):bV H0 (upd H g o) f rows kvs:=by
 refine ⟨λ a x e=>?_,D.fr,by rw [ae nf.symm];exact D.at',bp (λ i r z=>?_) D.al,D.nl,D.nk⟩
 ·rw [ae (bZ e hg0)];exact D.sm a x e
 ·obtain ⟨d,l,c,h,b⟩:=z;exact ⟨d,l,c,h,by rw [ae (aK b hg λ z=>nomatch z)];exact b⟩
structure eA (H:Hp) (v:ZS) (rows:bA) (kvs:List (Key×V)):Prop where
 at':H v=some (.dK kvs)
 al:af (λ (kv:Key×V) (r:ZR×List Int)=>kv.1=.inr r.1/\∃l,kv.2=.ref l/\H l=some (.lst (r.2.map V.int))) kvs rows
 nk:(rows.map (·.1)).Nodup
def eA.same (s:Same H H') (h:eA H v rows kvs):eA H' v rows kvs:=
 ⟨s _ _ h.at',bp (λ _ _ z=>⟨z.1,z.2.elim λ l y=>⟨l,y.1,s _ _ y.2⟩⟩) h.al,h.nk⟩
def eA.has (D:eA H v rows kvs) (h:(n,ns)∈rows) :∃l,aH kvs (.inr n)=some (.ref l)/\H l=some (.lst (ns.map V.int)):=by
 have i:=D.al;have b:=D.nk;clear D;induction i with
 | nil=>cases h
 | @cons kv r kvs rows a _ ih=>
  rw [O0,L3] at b;obtain ⟨c,l,g,f⟩:=a;rcases List.mem_cons.mp h with e|h
  ·subst e;refine ⟨l,?_,f⟩;unfold aH;rw [C7 (by rw [c];simp),T6,g]
  ·obtain ⟨k,d,j⟩:=ih h b.2;refine ⟨k,?_,j⟩;unfold aH at d⊢;rw [O5]
   ·exact d
   ·rw [c];simp;exact λ e=>b.1 (List.mem_map.mpr ⟨_,h,e.symm⟩)
noncomputable def addAll (rows rs:bA):bA:=rs.foldl (λ a r=>bI a r.1 r.2) rows
noncomputable def wrAll (ds:List Dl):bA:=ds.foldl (λ a d=>addAll a (wrR d.ds)) []
structure rp (ds:List Dl) (rows:bA):Prop where
 own :∀d∈ds,∀r∈wrR d.ds,∃ns,(r.1,ns)∈rows/\r.2=ns.filter λ x=>decide (x∈r.2)
 keys:((wrAll ds).map (·.1)).Perm (rows.map (·.1))
 row :∀r∈wrAll ds,∀ns,(r.1,ns)∈rows->ns.Perm r.2/\¬ (0:Int)∈ns/\ns.Nodup
def yi:Sp:=λ vs H Q _=>E6 λ a v us ds rows kvs=>tq (vs=[.ref a,.ref v]) (H a=some (.lst us)) (af (bJ H) ds us) (eA H v rows kvs) (ds.length<=12) ((∀d∈ds,d.ds.length<=4)) (rp ds rows) (rows.length<=48) ((∀r∈rows,r.2.length<=60)) ((∀r∈rows,aF r.1)) (∀H',Same H H'->Q (.bl true) H')
def DV (rows rs:bA) (r:ZR×List Int):addAll rows (rs++[r])=bI (addAll rows rs) r.1 r.2:=by unfold addAll;rw [f9];rfl
def EY (ds:List Dl) (d:Dl):wrAll (ds++[d])=addAll (wrAll ds) (wrR d.ds):=by unfold wrAll;rw [f9];rfl
theorem yP (h1:1<=j) :∀(rs rows:bA),RB k rows->(∀r∈rs,r.2.length<=j)->RB (k + j * rs.length) (addAll rows rs):=λ rs=>by
 induction rs generalizing k with
 | nil=>exact λ rows h _=>h
 | cons r rs ih=>intro rows h a;have:=ih (bI rows r.1 r.2) (h.ext r.1 r.2 j h1 (a r Y0)) λ x b=>a x (Z0 _ b);rw [W0,Nat.mul_succ,show k + (j * rs.length + j)=k + j + j * rs.length by lia];exact this
def RB.mono (h:RB k rows) (hk:k<=j):RB j rows:=⟨M0 h.1 hk,λ r a=>M0 (h.2 r a) hk⟩
theorem yz:∀(ds:List Dl),(∀d∈ds,d.ds.length<=4)->RB (16 * ds.length) (wrAll ds):=λ ds=>by
 have go :∀(ds:List Dl) (b:bA) (k:Nat),RB k b->(∀d∈ds,d.ds.length<=4)->RB (k + 16 * ds.length) (ds.foldl (λ a d=>addAll a (wrR d.ds)) b):=λ ds=>by
  induction ds with
  | nil=>exact λ b k h _=>h
  | cons d ds ih=>intro b k h c;have w:=gK d.ds;have f:=c d Y0;have e:=yP (k:=k) (j:=4) (by decide) (wrR d.ds) b h λ r g=>M0 (w.2 r g) f;have l:=ih _ (k + 16) (e.mono (by have:=w.1;lia)) λ x i=>c x (Z0 _ i);rw [U3,W0,show k + 16 * (ds.length + 1)=k + 16 + 16 * ds.length by lia];exact l
 intro c;have:=go ds [] 0 ⟨L0 _,λ _ h=>nomatch h⟩ c
 rwa [i8] at this
def KZ (h1:sortedS a=true) (h2:sortedS b=true) (p:a.Perm b):a=b:=List.Perm.eq_of_pairwise (λ _ _ _ _ h1 h2=>yf h2 h1) (BZ h1) (BZ h2) p
theorem FW (h:aF z):PyData.strOk z=true:=by unfold PyData.strOk;rw [j4g];intro c a;have:=h.s c (Array.mem_toList_iff.mpr a);exact ZY (by lia)
def vq (h:aF z):(w5 z).canLay0=true:=FW h
def yS {K:B0} {H:Hp} {l:ZS} {ns:List ZR} (h:av K H l (ns.map V.str)):bY K H (.list (ns.map w5)) (.ref l):=by
 refine ⟨l,_,rfl,h,?_⟩;clear h;induction ns with
 | nil=>rfl
 | cons n ns ih=>exact ⟨_,_,rfl,rfl,ih⟩
theorem zK:∀ns:List ZR,(∀n∈ns,aF n)->bg (.list (ns.map w5))=true/\(PyData.list (ns.map w5)).depth<=60
 | [],_=>⟨rfl,by decide⟩
 | n :: ns,h=>by
  obtain ⟨b,a⟩:=zK ns λ x d=>h x (Z0 _ d);have c:(w5 n).canLay0=true:=vq (h n Y0);refine ⟨?_,?_⟩
  ·show ((w5 n).canLay0 && g_ (ns.map w5))=true;rw [c,j8g];exact b
  ·have a:Q2 (ns.map w5) + 1<=60:=a;show max 0 (Q2 (ns.map w5)) + 1<=60
   lia
theorem DK (T:TX (kx w) mg) (c0:Ca P w mg base "written_by" ["dealing"] 1 AB) (c1:Ca P w mg base "is_whole_row" ["row","worths"] 1 CJ):Fo P w mg base CX0 2 105 wU ["dealings","versions"] yi:=by
 refine (xa w.params).ok bS (λ vs H Q E h=>?_) (λ d2 A d5 s H vs Q E I h=>?_)
 ·obtain ⟨a,v,us,t,a7,kvs,rfl,_⟩:=h;rfl
 ·obtain ⟨a,v,us,t,a7,kvs,rfl,ea,M,V0,d4,l4,F,lr,b0,b3,q⟩:=h;refine ⟨_,(aR (ar (i:=2) bS.nd rfl (O1 rfl) lH)
   (aR (aW Z1 rfl (fZ (pv 0)) (cZ (i:=3) bS.nd rfl (O1 rfl))
   (aV (aW Z1 rfl (sD (aj c0 (I.mono (by decide)) rfl (ah (pv 3) aa))) (bx rfl (cK (cZ (i:=4) bS.nd rfl (O1 rfl)) (cK (cZ (i:=5) bS.nd rfl (N1 rfl)) f_)))
   (aR (gv (uz (tG (pv 2) (pv 4) (aO aa) ⟨rfl,rfl,rfl,rfl⟩) (ah (pv 5) aa)))
   (aV (aQ (dj (gR I) (pv 5) (cH (xs:=["worth"]) (g:=aI 0) (fr:=[(5,"own")]) (fZ (sN (bu I) (pv 1) (pv 4) (aO aa) ⟨rfl,rfl,rfl,rfl⟩)) (λ _ _ _ _ _=>(aU (N:=["worth","own"]) 0)) (λ _ _ _ _ _=>(dy (dj (tf (K:=KX w.params) rfl) (pv 0) (pv 1) (by with_unfolding_all rfl)))) (λ _ _ _ _ _=>(pv 0))) (aC _))
   (aV (au cG))
   dI))))))
   (aR (aQ (dj (gR I) (cX (wO rfl) rfl (T.no (oP _)) j05 (ah (pv 2) aa)) (cX (wO rfl) rfl (T.no (oP _)) j05 (ah (pv 1) aa)) (aC _))
   (aV (au cG))
   dI)
   (aV (au (cX (mx rfl) rfl (T.no (fz _)) j31 (ah (wt (cH (xs:=["name","worths"]) (g:=hX (kx w) 2 (cg (aI 0) (cg (aI 1) hV))) (fr:=[(1,"versions")]) (sD (pv 2)) (λ _ _ _ _ _=>(bx rfl (cK (aU (N:=["name","worths","versions"]) 0) (cK (aU (N:=["name","worths","versions"]) 1) f_)))) (λ _ _ _ _ _=>b_) (λ _ _ _ _ _=>(aj c1 (I.mono (by decide)) rfl (ah (mn (bu I) (pv 2) (pv 0) (λ _ _=>rfl)) (ah (pv 1) aa)))))) aa))))))),?_⟩
  refine cy ?_;intro f hf;refine ai ?_;have D0:bV H (upd H f (.dK [])) f [] []:=⟨Same.upd hf,hf,aB,.nil,B3,B3⟩
  refine ⟨_,rfl,a,rfl,⟨us,av.of (D0.sm _ _ ea)⟩,?_⟩;have lu:us.length=t.length:=cz M;refine oo (K:=KX w.params) (a:=a) (xs:=us) (λ i σ C=>(∃kv,bV H C f (wrAll (t.take i)) kv)/\(E3 λ x3 O U=>σ=[some (.ref a),some (.ref v),some (.ref f),x3,O,U])) ⟨⟨_,D0⟩,_,_,_,rfl⟩ (λ i σ C _ z=>av.of (z.1.elim λ _ D=>D.sm _ _ ea)) ?_ ?_
  ·rintro i x σ C hx ⟨⟨kv,D⟩,x3,O,U,rfl⟩;obtain ⟨c,b8,dx⟩:=dQ M hx;have a3:c∈t:=K0 b8;have tk:t.take (i + 1)=t.take i++[c]:=by rw [N4,b8];rfl
   have a9:RB 192 (wrAll (t.take i)):=(yz (t.take i) λ d hd=>l4 d (J5 hd)).mono (by rw [Y1];lia);refine ⟨_,rfl,c,x,rfl,dx.same D.sm,l4 c a3,λ g H1 Y J=>⟨g,Y,rfl,J.at',λ ob=>?_⟩⟩;have c3:g≠f:=(bZ D.at' J.fr).symm;have D2:=(D.beside J.sm).off (o:=.frz ob (.dK Y)) (D.sm.free J.fr) J.at' c3;obtain ⟨DB,sB⟩:=D2.self;generalize hB:fE kv f (upd H1 g (.frz ob (.dK Y)))=B at DB sB;have b9 :∀l,V.ref l∈kv.map (·.2)->∃xs,C l=some (.lst xs):=λ l hl=>by obtain ⟨y,hy,e⟩:=List.mem_map.mp hl;obtain ⟨r,_,_,l',e2,_,e4⟩:=qr D.al hy;rw [e2] at e;cases e;exact ⟨_,e4⟩
   have Bg:B g=some (.frz ob (.dK Y)):=by
    rw [<-hB,wM c3 λ z=>?_]
    ·exact aB
    ·obtain ⟨xs,e⟩:=b9 g z;rw [J.fr] at e;cases e
   have Bl :∀r∈wrR c.ds,∀l,C l=none->H1 l=some (.lst (r.2.map V.int))->B l=some (.lst (r.2.map V.int)):=λ r _ l h0 e=>by
    rw [<-hB,wM (bZ D.at' h0).symm λ z=>?_]
    ·rw [ae (aK e J.at' λ z=>nomatch z)];exact e
    ·obtain ⟨xs,e⟩:=b9 l z;rw [h0] at e;cases e
   have w4:=gK c.ds;have lw:(wrR c.ds).length<=4:=M0 w4.1 (l4 c a3);have d1:Y.length=(wrR c.ds).length:=J.len;refine Bs (a:=g) (ob:=ob) (kvs:=Y) (λ j σ C=>(∃kv,bV B C f (addAll (wrAll (t.take i)) ((wrR c.ds).take j)) kv)/\(E2 λ O U=>σ=[some (.ref a),some (.ref v),some (.ref f),some x,O,U])) ⟨⟨kv,DB⟩,_,_,rfl⟩ (λ j σ C z=>z.1.elim λ _ D=>D.sm _ _ Bg) ?_ ?_
   ·rintro j k u σ H2 pp hk ⟨⟨kv2,D2⟩,O,U,rfl⟩ hpp;obtain ⟨r,a5,W,l,S,l0,e1⟩:=k8 J.al hk;have W:k=.inr r.1:=W;have S:u=.ref l:=S;subst W S;have a0:r∈wrR c.ds:=K0 a5;have bl:=Bl r a0 l l0 e1;have d0:(wrR c.ds).take (j + 1)=(wrR c.ds).take j++[r]:=by rw [N4,a5];rfl
    have D3:=D2.beside (Same.upd (o:=.tup [kV (.inr r.1),.ref l]) hpp);refine ⟨pp,_,rfl,aG.of aB,rfl,_,_,rfl,_,_,rfl,rfl,?_⟩;have b2:RB 208 (addAll (wrAll (t.take i)) ((wrR c.ds).take j)):=(yP (j:=4) (by decide) _ _ a9 λ r I=>M0 (w4.2 r (J5 I)) (l4 c a3)).mono (by rw [Y1];lia);have l5:212 < ZG:=by decide
    have d3:r.2.length<=4:=M0 (w4.2 r a0) (l4 c a3);refine Lc (m:=l) (ms:=r.2) (n:=r.1) D3 bl (λ R h=>⟨_,rfl,h⟩) (λ R h=>⟨_,rfl,h⟩) (λ C R h=>⟨_,rfl,h⟩) (by have:=b2.1;lia) (λ x hx=>by have:=b2.2 x hx;lia) (by lia) λ H4 c8 D4=>?_;have b6:=D4.sm _ _ bl;obtain ⟨X,a1,c6⟩:=F.own c a3 r a0;have V4:=V0.same (sB.trans D4.sm);obtain ⟨lv,a8,a4⟩:=V4.has a1;refine ⟨_,rfl,?_⟩;refine zY (K:=KX w.params) (λ b xs H1=>b=lv/\xs=X.map V.int/\Same H4 H1) (λ R h=>⟨_,rfl,v,rfl,.inl ⟨kvs,.inl V4.at'⟩,_,rfl,gj,λ p hp=>⟨some (.ref lv),.inl ⟨kvs,.inr r.1,.inl (Same.upd hp _ _ V4.at'),rfl,a8.symm⟩,h lv _ _ ⟨rfl,rfl,Same.upd hp⟩⟩⟩)
     (λ b xs H1 z=>by obtain ⟨rfl,rfl,s1⟩:=z;exact ⟨av.of (s1 _ _ a4),by rw [q0];exact M0 (b0 _ a1) (by decide)⟩)
     (λ i=>(X[i]?.map λ x=>decide (x∈r.2)).getD false) (λ i y _=>X[i]?.map V.int=some y) (λ _ _ _ _ _ z=>z) ?_ ?_
    ·rintro b xs H5 ⟨rfl,rfl,s5⟩ i hi y H6 Z hv KT KF k1 k2;rw [C1] at hv;obtain ⟨n,hn,rfl⟩:=Option.map_eq_some_iff.mp hv;rw [hn] at k1 k2;refine ⟨[some (.int n)],rfl,rfl,_,rfl,_,rfl,l,_,rfl,.inl (av.of (Z _ _ (s5 _ _ b6))),rfl,tP r.2,_,rfl,?_⟩;rw [Z_ (by decide),sC];exact dw (λ z=>⟨_,rfl,k1 z _ _ (Same.refl _) rfl⟩) λ z=>k2 (Bool.eq_false_iff.mpr z) _ (Same.refl _)
    ·rintro b xs H5 ⟨rfl,rfl,s5⟩ l1 H6 ys Z b7 a6;rw [q0] at a6;have ey:=vG X ys a6;rw [<-c6] at ey;subst ey;have G:=rG r.2;have b4:=(s5.trans Z).trans (Same.upd (o:=.lst (r.2.map V.int)) b7);refine ⟨_,_,mW (av.of (b4 _ _ b6)),mW (av.of aB),G.1,G.1,G.2,_,rfl,bc ?_ ?_⟩
     ·rw [pk (p:=True) G.1 G.1 (by simp)];decide
     ·exact ⟨⟨c8,by rw [d0,DV];exact D4.beside b4⟩,_,_,rfl⟩
   ·rintro σ H2 ⟨⟨kv2,D2⟩,O,U,rfl⟩;rw [d1,W2,<-EY,<-tk] at D2;exact ⟨⟨kv2,D2.onto sB⟩,_,_,_,rfl⟩
  rintro σ C ⟨⟨kv,D⟩,x3,O,U,rfl⟩;rw [lu,W2] at D;have VD:=V0.same D.sm;have a9:=yz t l4;have b1:(wrAll t).length=a7.length:=by have:=F.keys.length_eq;rwa [q0,q0] at this
  have c4:kv.map (·.1)=((wrAll t).map (·.1)).map Sum.inr:=by
   have M:=D.al;clear a9 b1 D;generalize wrAll t=ww at M;induction M with
   | nil=>rfl
   | cons a _ ih=>rw [O0,O0,O0,ih,a.1]
  have c9:kvs.map (·.1)=(a7.map (·.1)).map Sum.inr:=by
   have M:=VD.al;clear VD V0 F lr b0 b3 b1;induction M with
   | nil=>rfl
   | cons a _ ih=>rw [O0,O0,O0,ih,a.1]
  refine ⟨_,rfl,f,kv,_,rfl,D.at',c4,by rw [q0];lia,λ s1 b5 h1 p1 o1=>?_⟩;have j1:=Same.upd (o:=.lst (b5.map V.str)) h1;refine ⟨_,rfl,v,kvs,_,rfl,j1 _ _ VD.at',c9,by rw [q0];lia,λ s2 a2 h2 p2 o2=>?_⟩;have j2:=Same.upd (o:=.lst (a2.map V.str)) h2;have c5:a2=b5:=KZ o2 o1 ((p2.trans F.keys.symm).trans p1.symm);subst c5;have G:=zK a2 λ n hn=>by obtain ⟨r,I,rfl⟩:=List.mem_map.mp (p2.mem_iff.mp hn);exact b3 r I
  have c2:=j1.trans j2;refine ⟨_,_,yS (av.of (j2 _ _ aB)),yS (av.of aB),G.1,G.1,G.2,_,rfl,bc ?_ ?_⟩
  ·rw [pk (p:=True) G.1 G.1 (by simp)];decide
  refine cB (cc (eB ?_));have L:=D.beside c2;have V5:=VD.same c2;generalize upd (upd C s1 (.lst (a2.map V.str))) s2 (.lst (a2.map V.str))=H5 at L V5⊢;refine kC (a:=f) (kvs:=kv) (λ _=>true) (λ _ y _=>y=.bl true) (λ _ _ _ _ _ z=>z) (λ R h=>⟨_,rfl,h⟩) L.at' (by rw [L.len,b1];exact M0 lr (by decide)) ?_ ?_
  ·intro ob i k u g hk H6 Z eg KT KF k1 k2;obtain ⟨r,a5,W,l,S,l0,e1⟩:=k8 L.al hk;have W:k=.inr r.1:=W;have S:u=.ref l:=S;subst W S;have a0:r∈wrAll t:=K0 a5;obtain ⟨X,a1⟩:=cJ (F.keys.mem_iff.mp (List.mem_map.mpr ⟨r,a0,rfl⟩));obtain ⟨g1,g2,g3⟩:=F.row r a0 X a1;obtain ⟨lv,a8,a4⟩:=V5.has a1;have up :∀b o,H5 b=some o->b≠f->H6 b=some o:=λ b o e n=>Z _ _ (by rw [ae n];exact e);have c7:v≠f:=bZ V0.at' hf;refine ⟨g,_,rfl,aG.of eg,rfl,_,_,rfl,_,_,rfl,rfl,[some (.str r.1),some (.ref l)],rfl,rfl,dk ?_⟩;refine ⟨_,rfl,_,rfl,v,.ref lv,rfl,.inl ⟨kvs,.inr r.1,.inl (up _ _ V5.at' c7),rfl,a8.symm⟩,_,rfl,?_⟩;refine ⟨lv,l,X,r.2,rfl,up _ _ a4 (aK a4 L.at' λ z=>nomatch z),up _ _ e1 (aK e1 L.at' λ z=>nomatch z),g1,g2,g3,b0 _ a1,λ H7 s7=>k1 rfl _ _ s7 rfl⟩
  ·intro ob l1 H6 bs Z b7 t1 t2 t3 a6;exact sE a6 (av.of (by rw [ae t3];exact aB)) (q _ (L.sm.trans t1))
def GT {X:Cx}:cv X (.builtin "isinstance") (λ xs H Q=>∃x T,xs=[x,.ty "dict"]/\cR H x T/\Q (.bl (fN T "dict")) H):=by
 intro f s σ H xs e Q I r h;obtain ⟨x,T,rfl,a,q⟩:=h;obtain ⟨u,d,rfl,b,c⟩:=vals2 r;cases (show d=U4 "dict" from c);refine yO I b a.ty (?_:j63 X.K (.type T) (.type "dict")=some (fN T "dict")) λ tk=>⟨.bl _,H,I.tok tk,rfl,q⟩
 rcases a.one with rfl|rfl|rfl|rfl|rfl|rfl|rfl<;>kernel_rfl
def gI {is:List Nat} {bs:List V} (al:af (λ (_:Nat) y=>y=V.bl true) is bs):(∀y∈bs,∃b,y=V.bl b)/\(bs.all λ y=>decide (y=V.bl true))=true:=by
 have c :∀y∈bs,y=.bl true:=λ y a=>by obtain ⟨m,d⟩:=List.mem_iff_getElem?.mp a;obtain ⟨_,_,z⟩:=dQ al d;exact z
 exact ⟨λ y a=>⟨true,c y a⟩,List.all_eq_true.mpr λ y a=>ZY (c y a)⟩
structure Gd (ds:List Dl) (rows:bA):Prop where
 l1:1<=ds.length
 l12:ds.length<=12
 ok :∀d∈ds,iN d
 fit:rp ds rows
 lr:rows.length<=48
 row :∀r∈rows,aF r.1/\mE r.2
 tot:(rows.flatMap (·.2)).length<=16
 l4:ds.length<=4
def zz:Sp:=λ vs H Q _=>E6 λ a v us ds rows kvs=>A6 (vs=[.ref a,.ref v]) (H a=some (.lst us)) (af (bJ H) ds us) (eA H v rows kvs) (Gd ds rows) (∀H',Same H H'->Q .non H')
theorem FO (T:TX (kx w) mg) (c0:Ca P w mg base "is_dealing" ["dealing"] 5 yA) (c1:Ca P w mg base "is_version" ["name","row"] 4 yx) (c2:Ca P w mg base "fit_together" ["dealings","versions"] 2 yi):Fo P w mg base CX0 6 83 xr ["dealings","versions"] zz:=by
 refine (xD w.params).ok KQ (λ vs H Q E h=>?_) (λ a3 A a4 s H vs Q E b h=>?_)
 ·obtain ⟨a,v,c,I,n,kvs,rfl,_⟩:=h;rfl
 ·obtain ⟨a,v,c,I,n,kvs,rfl,j,C,t,G,q⟩:=h;refine ⟨_,(aR (aQ (PW.pt (dq (bE (bz (cX kQ rfl (T.no (jG _)) Y4 (ah (pv 0) (ah (jB (v:=.ty "list") rfl (T.no (dU _)) j1d rfl) aa))) (λ _=>rfl))) (di (bE (xg fF fF ab (cX gG rfl (T.no (bW _)) C5 (ah (pv 0) aa)) (rE (v:=.int (12)) rfl (T.of (DI _)) ⟨_,rfl⟩))))))
   (aV s_)
   dI)
   (aR (aQ (bE (bz (cX (mx rfl) rfl (T.no (fz _)) j31 (ah (cH (xs:=["dealing"]) (g:=aI 0) (fr:=[]) (fZ (pv 0)) (λ _ _ _ _ _=>(aU (N:=["dealing"]) 0)) (λ _ _ _ _ _=>b_) (λ _ _ _ _ _=>(aj c0 (b.mono (by decide)) rfl (ah (pv 0) aa)))) aa)) (λ _=>rfl)))
   (aV s_)
   dI)
   (aR (aQ (PW.pt (dq (bE (bz (cX GT rfl (T.no (jG _)) Y4 (ah (pv 1) (ah (jB (v:=.ty "dict") rfl (T.no (jZ _)) boot_dict rfl) aa))) (λ _=>rfl))) (di (bE (bz (cX (mx rfl) rfl (T.no (fz _)) j31 (ah (wt (cH (xs:=["name","row"]) (g:=hX (kx w) 2 (cg (aI 0) (cg (aI 1) hV))) (fr:=[]) (sD (pv 1)) (λ _ _ _ _ _=>(bx rfl (cK (aU (N:=["name","row"]) 0) (cK (aU (N:=["name","row"]) 1) f_)))) (λ _ _ _ _ _=>b_) (λ _ _ _ _ _=>(aj c1 (b.mono (by decide)) rfl (ah (pv 0) (ah (pv 1) aa)))))) aa)) (λ _=>rfl))))))
   (aV s_)
   dI)
   (aV (aQ (bE (bz (aj c2 (b.mono (by decide)) rfl (ah (pv 0) (ah (pv 1) aa))) (λ _=>rfl)))
   (aV s_)
   dI))))),?_⟩
  have l1:=G.l1;have X:=G.l12;have lu:c.length=I.length:=cz C;refine cC (gc ?_);refine ⟨_,rfl,_,_,"list",rfl,.inl ⟨⟨_,j⟩,rfl⟩,by decide,_,rfl,bc (by decide) ?_⟩;refine ⟨_,rfl,.inl ⟨a,c,rfl,.inl (av.of j),_,_,rfl,rfl,_,rfl,cb (ZY (by lia)) ?_⟩⟩;refine ⟨_,_,rfl,rfl,_,rfl,bc (by rw [ZY (show (c.length:Int)<=12 by lia)];decide) ?_⟩;refine cB (cC (gO (eB ?_)));refine nZ (a:=a) (xs:=c) (H1:=H) (λ _=>true) (λ _ y _=>y=.bl true) (λ _ _ _ _ _ z=>z) (λ R h=>⟨_,rfl,h⟩) (av.of j) (by rw [lu];exact M0 X (by decide)) ?_ ?_
  ·intro i hi x H1 p hx KT KF J k2;obtain ⟨d,K,dx⟩:=dQ C hx;refine ⟨[some x],rfl,rfl,dk ?_⟩;exact ⟨_,rfl,d,x,rfl,dx.same p,G.ok d (K0 K),λ H2 f=>J rfl _ _ f rfl⟩
  intro O H1 bs p a1 L;refine ⟨O,bs,rfl,av.of aB,(gI L).1,?_⟩;rw [(gI L).2];refine ⟨_,rfl,bc (by decide) ?_⟩;have f:=p.trans (Same.upd (o:=.lst bs) a1);generalize upd H1 O (.lst bs)=H2 at f⊢;have m:=t.same f;refine cB (cC (gc ?_));refine ⟨_,rfl,_,"dict",rfl,.inr (.inr ⟨⟨_,m.at'⟩,rfl⟩),_,rfl,bc (by decide) ?_⟩;refine gO (eB ?_);have a0:kvs.length=n.length:=(cz t.al).symm;refine kC (a:=v) (kvs:=kvs) (λ _=>true) (λ _ y _=>y=.bl true) (λ _ _ _ _ _ z=>z) (λ R h=>⟨_,rfl,h⟩) m.at' (by rw [a0];exact M0 G.lr (by decide)) ?_ ?_
  ·intro ob i k u g hk B Z eg KT KF J k2;obtain ⟨r,a2,D,l,F,U⟩:=k8 m.al hk;have D:k=.inr r.1:=D;have F:u=.ref l:=F;subst D F;have M:r∈n:=K0 a2;have e6:B l=some (.lst (r.2.map V.int)):=Z _ _ (by rw [ae (aK U m.at' λ z=>nomatch z)];exact U);refine ⟨g,_,rfl,aG.of eg,rfl,_,_,rfl,_,_,rfl,rfl,[some (.str r.1),some (.ref l)],rfl,rfl,dk ?_⟩;exact ⟨_,rfl,_,rfl,r.1,l,r.2,rfl,e6,(G.row r M).1,(G.row r M).2,λ H7 s7=>J rfl _ _ s7 rfl⟩
  intro ob S B Y Z a5 t1 t2 t3 W;refine ⟨S,Y,rfl,av.of (by rw [ae t3];exact aB),(gI W).1,?_⟩;rw [(gI W).2];refine ⟨_,rfl,bc (by decide) ?_⟩;have e:=f.trans t1;generalize upd (upd B S (.lst Y)) v (.dK kvs)=H3 at e⊢;refine cB ?_;have V3:=t.same e;refine ⟨_,rfl,_,rfl,a,v,c,I,n,kvs,rfl,e _ _ j,bp (λ _ _ z=>z.same e) C,V3,X,λ d K=>(G.ok d K).ln,G.fit,G.lr,λ r b=>(G.row r b).2.1,λ r b=>(G.row r b).1,λ H4 s4=>⟨_,rfl,bc (by decide) ?_⟩⟩;exact q _ (e.trans s4)
noncomputable def fk (ds:List Dl) (i:Nat):List (Nat×Dd):=(N0 i).flatMap λ k=>((ds[k]?.map (·.ds)).getD []).map λ c=>(k,c)
def JE (ds:List Dl) (i:Nat) {d:Dl} (h:ds[i]? = some d):fk ds (i + 1)=fk ds i++d.ds.map λ c=>(i,c):=by unfold fk;rw [j2e,U2,j98,h];rfl
noncomputable abbrev eV (n:ZR) (x:Int):List Key:=[.inr n,.inl x]
structure WL (L:List (Nat×Dd)) (kvs:List (List Key×V)):Prop where
 len:kvs.length<=L.length
 of :∀n x v,aH kvs (eV n x)=some v->∃i:Nat,v=.int i/\(i,⟨true,n,x⟩)∈L
 all :∀(n:ZR) (x:Int) (i:Nat),(i,⟨true,n,x⟩)∈L->(aH kvs (eV n x)).isSome=true
theorem WL.skip (h:WL L kvs) (hc:¬ c.w=true):WL (L++[(i,c)]) kvs:=by
 refine ⟨by rw [F0];have:=h.len;lia,λ n x v e=>?_,λ n x j m=>?_⟩
 ·obtain ⟨i,b,a⟩:=h.of n x v e;exact ⟨i,b,List.mem_append.mpr (.inl a)⟩
 ·rcases List.mem_append.mp m with m|m
  ·exact h.all n x j m
  ·have e:=List.mem_singleton.mp m;have:(⟨true,n,x⟩:Dd)=c:=ZT k0b e;rw [<-this] at hc;exact ZU rfl hc
theorem WL.put (h:WL L kvs) {i:Nat} (hc:c.w=true):WL (L++[(i,c)]) (putK kvs (eV c.n c.x) (.int i)):=by
 have b:(⟨true,c.n,c.x⟩:Dd)=c:=by obtain ⟨w,n,x⟩:=c;cases hc;rfl
 refine ⟨by rw [F0];have:=h.len;have:=pC (kvs:=kvs) (k:=eV c.n c.x) (v:=.int i);show _<=L.length + 1;lia,λ n x v e=>?_,λ n x j m=>?_⟩
 ·rw [rh] at e;split at e
  ·rename_i z;cases e;injection z with z1 z;injection z with z2 _;injection z1 with z1;injection z2 with z2;refine ⟨i,rfl,List.mem_append.mpr (.inr ?_)⟩;rw [z1,z2,b];exact List.mem_singleton.mpr rfl
  ·obtain ⟨i,d,a⟩:=h.of n x v e;exact ⟨i,d,List.mem_append.mpr (.inl a)⟩
 ·rw [rh];split
  ·rfl
  ·rename_i z;rcases List.mem_append.mp m with m|m
   ·exact h.all n x j m
   ·have e:=List.mem_singleton.mp m;have:(⟨true,n,x⟩:Dd)=c:=ZT k0b e;exact ZU (by rw [<-this]) z
def qY:Sp:=λ vs H Q _=>E3 λ a us ds=>A6 (vs=[.ref a]) (H a=some (.lst us)) (af (bJ H) ds us) (ds.length<=12) ((∀d∈ds,d.ds.length<=4)) (∀f H' kvs,Same H H'->H f=none->H' f=some (.dT kvs)->WL (fk ds ds.length) kvs->Q (.ref f) H')
theorem Cd {ds:List Dl} (h :∀d∈ds,d.ds.length<=4) :∀i,(fk ds i).length<=4 * i
 | 0=>L0 _
 | i + 1=>by
  have a:=Cd h i;unfold fk at a⊢;rw [j2e,U2,j98,F0,q0];cases e:ds[i]? with
  | none=>show _ + 0<=_;lia
  | some d=>have:=h d (K0 e);show _ + d.ds.length<=_;lia
theorem FS (T:TX (kx w) mg):Fo P w mg base CX0 1 126 vD ["dealings"] qY:=by
 refine (uS w.params).ok cq (λ vs H Q E h=>?_) (λ a3 A a5 s H vs Q E hr h=>?_)
 ·obtain ⟨a,C,u,rfl,_⟩:=h;rfl
 ·obtain ⟨a,C,u,rfl,Z,U,a7,R,q⟩:=h;refine ⟨_,(aR (ar (i:=1) cq.nd rfl (O1 rfl) ya)
   (aR (aW Z1 rfl (pG rfl (T.no (o_ _)) (ah (pv 0) aa)) (bx rfl (cK (cZ (i:=2) cq.nd rfl (O1 rfl)) (cK (cZ (i:=3) cq.nd rfl (O1 rfl)) f_)))
   (aV (aW Z1 rfl (fR (ao ak (pv 3) ab (λ _ _=>rfl))) (bx rfl (cK (cZ (i:=4) cq.nd rfl (O1 rfl)) (cK (cZ (i:=5) cq.nd rfl (O1 rfl)) (cK (cZ (i:=6) cq.nd rfl (O1 rfl)) f_))))
   (aV (aQ (dj du (pv 4) bf (aC _))
   (aV (mj (bu hr) (pv 1) (bh (ah (pv 5) (ah (pv 6) aa))) (pv 2) rfl))
   dI)))))
   (aV (au (pv 1))))),?_⟩
  refine cy ?_;intro f L;refine ai ?_;have V:=Same.upd (o:=.dT []) L;have lu:C.length=u.length:=cz U;refine ⟨_,rfl,a,C,rfl,av.of (V _ _ Z),?_⟩;refine qa (K:=KX w.params) (a:=a) (xs:=C) (λ i σ d=>(∃kvs,Same H d/\d f=some (.dT kvs)/\WL (fk u i) kvs)/\(E5 λ I G r l g=>σ=[some (.ref a),some (.ref f),I,G,r,l,g])) ⟨⟨[],V,aB,⟨K2 _,(λ n x v e=>nomatch e),(λ n x i m=>nomatch m)⟩⟩,_,_,_,_,_,rfl⟩ (λ i σ d z=>av.of (z.1.elim λ _ D=>D.1 _ _ Z)) ?_ ?_
  ·rintro i x σ d p hx ⟨⟨kvs,s1,ef,W⟩,I,G,r,l,g,rfl⟩ hp;obtain ⟨B,J,dx⟩:=dQ U hx;have a1:B∈u:=K0 J;have a8:i < 12:=by have:=(List.getElem?_eq_some_iff.mp J).1;lia
   have S:=Same.upd (o:=.tup [.int (i:Nat),x]) hp;have F:=s1.trans S;have a0:=S _ _ ef;obtain ⟨pd,M,O,rfl,ed,eq,X⟩:=dx;refine ⟨p,_,rfl,aG.of aB,rfl,_,_,rfl,_,_,rfl,rfl,?_⟩;generalize upd d p (.tup [.int (i:Nat),.ref pd])=H2 at F a0⊢;refine ⟨_,rfl,.inr (.inl ⟨pd,_,2,.ref M,rfl,rfl,aG.of (F _ _ ed),bU (j:=2) rfl,M,rfl,⟨O,aG.of (F _ _ eq)⟩,?_⟩)⟩;have lT:=Cd R i;have a4:=R B a1;refine tJ (K:=KX w.params) (a:=M) (xs:=O) (λ j σ d=>(∃kvs,Same H d/\d f=some (.dT kvs)/\WL (fk u i++(B.ds.take j).map λ c=>(i,c)) kvs)/\(E3 λ r l g=>σ=[some (.ref a),some (.ref f),some (.int (i:Nat)),some (.ref pd),r,l,g])) ⟨⟨kvs,F,a0,by simpa using W⟩,_,_,_,rfl⟩ (λ j σ d _ z=>aG.of (z.1.elim λ _ D=>D.1 _ _ eq)) ?_ ?_
   ·rintro j y σ H3 hy ⟨⟨kv3,s3,ef3,W3⟩,r,l,g,rfl⟩;obtain ⟨c,hc,⟨pp,rfl,a2⟩⟩:=dQ X hy;have tk:(B.ds.take (j + 1)).map (λ c=>(i,c))=(B.ds.take j).map (λ c=>(i,c))++[(i,c)]:=by rw [N4,hc,Q3];rfl
    refine ⟨pp,_,rfl,aG.of (s3 _ _ a2),rfl,_,_,rfl,_,_,rfl,_,_,rfl,rfl,?_⟩;refine ⟨_,rfl,rfl,_,rfl,?_⟩;rw [gk];by_cases zw:c.w=true
    ·refine cb zw ?_;refine ⟨_,rfl,_,rfl,_,rfl,_,rfl,gp,λ t Y=>?_⟩;have N:=Same.upd (o:=.tup [.str c.n,.int c.x]) Y;have a6:f≠t:=bZ ef3 Y;have lk:kv3.length < ZG:=by have:=W3.len;rw [F0,q0,Y1] at this;exact W1 (m:=60) (by lia) (by decide)
     refine ⟨f,_,rfl,fS.t (k:=eV c.n c.x) (N _ _ ef3) aB lk,?_⟩;refine ⟨⟨_,λ b o e=>?_,aB,by rw [tk,<-T2];exact W3.put zw⟩,_,_,_,rfl⟩;rw [ae (bZ e L)];exact N _ _ (s3 _ _ e)
    ·refine bc zw ?_;exact ⟨⟨kv3,s3,ef3,by rw [tk,<-T2];exact W3.skip zw⟩,_,_,_,rfl⟩
   ·rintro σ H3 ⟨⟨kv3,s3,ef3,W3⟩,r,l,g,rfl⟩;rw [cz X,W2,<-JE u i J] at W3;exact ⟨⟨kv3,s3,ef3,W3⟩,_,_,_,_,_,rfl⟩
  rintro σ d ⟨⟨kvs,s1,ef,W⟩,I,G,r,l,g,rfl⟩;rw [lu] at W;exact ⟨_,rfl,q f d kvs s1 L ef W⟩
noncomputable def gW (ds:List Dd):List ZR×List (ZR×Int):=ds.foldl (λ (acc:List ZR×List (ZR×Int)) d=>if d.w=true then (acc.1++[d.n],acc.2) else if d.n∈acc.1 then acc else (acc.1,acc.2++[(d.n,d.x)])) ([],[])
noncomputable abbrev gX (ds:List Dd):List (ZR×Int):=(gW ds).2
def wy (ds:List Dd) (d:Dd):gW (ds++[d])=if d.w=true then ((gW ds).1++[d.n],(gW ds).2) else if d.n∈(gW ds).1 then gW ds else ((gW ds).1,(gW ds).2++[(d.n,d.x)]):=by unfold gW;rw [f9];rfl
def CA (H:Hp) (c:ZR×Int) (y:V):Prop:=∃p,y=.ref p/\H p=some (.tup [.str c.1,.int c.2])
def zP:Sp:=λ vs H Q _=>E2 λ d y=>A4 (vs=[y]) (bJ H d y) (d.ds.length<=4) (∀l H' ys,Same H H'->H l=none->H' l=some (.lst ys)->af (CA H') (gX d.ds) ys->Q (.ref l) H')
theorem EW (T:TX (kx w) mg):Fo P w mg base CX0 1 140 wD ["dealing"] zP:=by
 refine (vn w.params).ok bL (λ vs H Q E h=>?_) (λ a2 A a3 s H vs Q E W h=>?_)
 ·obtain ⟨d,y,rfl,_⟩:=h;rfl
 ·obtain ⟨d,y,rfl,⟨p,r,O,rfl,ep,Z,S⟩,ln,q⟩:=h;refine ⟨_,(aR (ar (i:=1) bL.nd rfl (O1 rfl) lH)
   (aR (ar (i:=2) bL.nd rfl (O1 rfl) (aO aa))
   (aR (aW Z1 rfl (fR (ao ak (pv 0) ab (λ _ _=>rfl))) (bx rfl (cK (cZ (i:=3) bL.nd rfl (O1 rfl)) (cK (cZ (i:=4) bL.nd rfl (O1 rfl)) (cK (cZ (i:=5) bL.nd rfl (O1 rfl)) f_))))
   (aV (aQ (dj du (pv 3) bf (aC _))
   (aV (mj (bu W) (pv 1) (pv 4) cG rfl))
   (aV (aQ (gz (Hw (bu W) (pv 4) (pv 1)) (by with_unfolding_all rfl))
   (aV (gv (jC (pv 2) (ah (bh (ah (pv 4) (ah (pv 5) aa))) aa))))
   dI)))))
   (aV (au (pv 2)))))),?_⟩
  refine cy ?_;intro f hf;refine ai ?_;have G:=Same.upd (o:=.dK []) hf;refine cy ?_;refine ⟨gj,λ l N=>ai ?_⟩;have F:=Same.upd (o:=.lst []) N;have R:f≠l:=bZ aB N;have X:H l=none:=G.free N;refine ⟨_,rfl,.inr (.inl ⟨p,_,2,.ref r,rfl,rfl,aG.of (F _ _ (G _ _ ep)),bU (j:=2) rfl,r,rfl,⟨O,aG.of (F _ _ (G _ _ Z))⟩,?_⟩)⟩;refine tJ (K:=KX w.params) (a:=r) (xs:=O) (λ i σ g=>(∃kvs ys,Same H g/\g f=some (.dK kvs)/\kvs.length<=i/\(∀n:ZR,(aH kvs (.inr n)).isSome=decide (n∈(gW (d.ds.take i)).1))/\g l=some (.lst ys)/\ys.length<=i/\af (CA g) (gX (d.ds.take i)) ys)/\(E3 λ I M L=>σ=[some (.ref p),some (.ref f),some (.ref l),I,M,L])) ⟨⟨[],[],G.trans F,F _ _ aB,L0 _,λ _=>rfl,aB,L0 _,.nil⟩,_,_,_,rfl⟩ (λ i σ g _ z=>aG.of (z.1.elim λ _ z=>z.elim λ _ D=>D.1 _ _ Z)) ?_ ?_
  ·rintro i x σ g hx ⟨⟨kvs,ys,s2,ef,lk,hk,el,ly,ay⟩,I,M,L,rfl⟩;obtain ⟨c,U,⟨pp,rfl,a1⟩⟩:=dQ S hx;have tk:d.ds.take (i + 1)=d.ds.take i++[c]:=by rw [N4,U];rfl
   have i4:i < 4:=by have:=(List.getElem?_eq_some_iff.mp U).1;lia
   refine ⟨pp,_,rfl,aG.of (s2 _ _ a1),rfl,_,_,rfl,_,_,rfl,_,_,rfl,rfl,?_⟩;refine ⟨_,rfl,rfl,_,rfl,?_⟩;rw [gk];have u:=wy (d.ds.take i) c;rw [<-tk] at u;by_cases zw:c.w=true
   ·refine cb zw ?_;rw [ZZ zw] at u;refine ⟨_,rfl,_,rfl,f,_,rfl,fS.k (k:=.inr c.n) ef (W1 (m:=4) (by lia) (by decide)),?_⟩;have B :∀b o,b≠f->g b=some o->upd g f (.dK (putK kvs (.inr c.n) (.bl true))) b=some o:=λ b o n e=>by rw [ae n];exact e
    refine ⟨⟨_,ys,λ b o e=>B b o (bZ e hf) (s2 _ _ e),aB,by have:=pC (kvs:=kvs) (k:=(.inr c.n:Key)) (v:=.bl true);lia,λ n=>?_,B _ _ R.symm el,by lia,?_⟩,_,_,_,rfl⟩
    ·rw [rh,u];by_cases z:(Sum.inr n:Key)=.inr c.n
     ·have J:n=c.n:=by injection z
      rw [ZZ z,ZY (List.mem_append.mpr (.inr (by rw [J];exact List.mem_singleton.mpr rfl)))];rfl
     ·rw [Z_ z,hk n];have J:n≠c.n:=λ q=>z (by rw [q]);rw [decide_eq_decide,O4,B5];exact ⟨.inl,λ q=>q.elim id λ q=>ZU q J⟩
    ·show af _ (gW _).2 ys;rw [u];exact bp (λ c y z=>z.elim λ p w=>⟨p,w.1,B _ _ (aK w.2 ef λ z=>nomatch z) w.2⟩) ay
   ·refine bc zw ?_;rw [Z_ zw] at u;refine ⟨_,rfl,_,rfl,f,aH kvs (.inr c.n),rfl,dh.k (k:=.inr c.n) ef,_,rfl,?_⟩;rw [hk c.n];by_cases zn:c.n∈(gW (d.ds.take i)).1
    ·rw [ZZ zn] at u;refine bc (by rw [ZY zn];decide) ?_;exact ⟨⟨kvs,ys,s2,ef,by lia,by rw [u];exact hk,el,by lia,by show af _ (gW _).2 ys;rw [u];exact ay⟩,_,_,_,rfl⟩
    ·rw [Z_ zn] at u;refine cb (by rw [ZX zn];rfl) ?_;refine ⟨_,rfl,.inl ⟨rfl,_,av.of el⟩,_,rfl,_,rfl,gp,λ t V=>?_⟩;have C:=Same.upd (o:=.tup [.str c.n,.int c.x]) V;refine ⟨l,ys,_,rfl,rfl,C _ _ el,W1 (m:=4) (by lia) (by decide),?_⟩;have B :∀b o,b≠l->upd g t (.tup [.str c.n,.int c.x]) b=some o->upd (upd g t (.tup [.str c.n,.int c.x])) l (.lst (ys++[.ref t])) b=some o:=λ b o n e=>by rw [ae n];exact e
     refine ⟨⟨kvs,ys++[.ref t],λ b o e=>B b o (bZ e X) (C _ _ (s2 _ _ e)),B _ _ R (C _ _ ef),by lia,by rw [u];exact hk,aB,by rw [F0];show _ + 1<=_;lia,?_⟩,_,_,_,rfl⟩;show af _ (gW _).2 _;rw [u];have a0:t≠l:=(bZ el V).symm;refine pK (bp (λ c y z=>?_) ay) ⟨t,rfl,B _ _ a0 aB⟩;obtain ⟨p,e1,e3⟩:=z;have Y:=C _ _ e3;exact ⟨p,e1,B _ _ (aK Y (C _ _ el) λ z=>nomatch z) Y⟩
  rintro σ g ⟨⟨kvs,ys,s2,ef,lk,hk,el,ly,ay⟩,I,M,L,rfl⟩;rw [cz S,W2] at ay;exact ⟨_,rfl,q l g ys s2 X el ay⟩
def cont (rows:bA) (n:ZR) (x:Int):Prop:=∃ns,(n,ns)∈rows/\x∈ns
def CU:cont (bI rows m ms) n x↔cont rows n x\/(n=m/\x∈ms):=by
 unfold bI;split
 ·rename_i hm;constructor
  ·rintro ⟨a,h,hx⟩;obtain ⟨r,b,e⟩:=List.mem_map.mp h;split at e
   ·rename_i z;injection e with e1 e2;rw [<-e2] at hx;rcases List.mem_append.mp hx with hx|hx
    ·exact .inl ⟨r.2,by rw [<-e1];exact b,hx⟩
    ·exact .inr ⟨by rw [<-e1,z],hx⟩
   ·rw [e] at b;exact .inl ⟨a,b,hx⟩
  ·rintro (⟨a,h,hx⟩|⟨rfl,hx⟩)
   ·by_cases z:n=m
    ·exact ⟨a++ms,List.mem_map.mpr ⟨_,h,by rw [ZZ z]⟩,List.mem_append.mpr (.inl hx)⟩
    ·exact ⟨a,List.mem_map.mpr ⟨_,h,by rw [Z_ z]⟩,hx⟩
   ·obtain ⟨a,h⟩:=cJ hm;exact ⟨a++ms,List.mem_map.mpr ⟨_,h,by rw [ZZ rfl]⟩,List.mem_append.mpr (.inr hx)⟩
 ·constructor
  ·rintro ⟨a,h,hx⟩;rcases List.mem_append.mp h with h|h
   ·exact .inl ⟨a,h,hx⟩
   ·have e:=List.mem_singleton.mp h;injection e with e1 e2;exact .inr ⟨e1,e2 ▸ hx⟩
  ·rintro (⟨a,h,hx⟩|⟨rfl,hx⟩)
   ·exact ⟨a,List.mem_append.mpr (.inl h),hx⟩
   ·exact ⟨ms,List.mem_append.mpr (.inr (List.mem_singleton.mpr rfl)),hx⟩
def KR (ds:List Dd):cont (wrR ds) n x↔(⟨true,n,x⟩:Dd)∈ds:=by
 have go :∀(ds:List Dd) (a:bA),cont (ds.foldl (λ a d=>if d.w=true then bI a d.n [d.x] else a) a) n x↔cont a n x\/(⟨true,n,x⟩:Dd)∈ds:=λ ds=>by
  induction ds with
  | nil=>intro a;simp
  | cons d ds ih=>
   intro a;rw [U3,ih,X1];by_cases z:d.w=true
   ·rw [ZZ z,CU];have e:(⟨true,n,x⟩:Dd)=d↔n=d.n/\x∈[d.x]:=by obtain ⟨w,m,y⟩:=d;cases z;simp
    rw [e,or_assoc]
   ·rw [Z_ z];have e:¬ (⟨true,n,x⟩:Dd)=d:=λ e=>z (by rw [<-e]);exact ⟨λ q=>q.elim .inl λ q=>.inr (.inr q),λ q=>q.elim .inl λ q=>q.elim (λ q=>ZU q e) .inr⟩
 have:=go ds [];unfold wrR;rw [this];exact ⟨λ q=>q.elim (λ q=>by obtain ⟨_,h,_⟩:=q;cases h) id,.inr⟩
def Le:∀(rs rows:bA),cont (addAll rows rs) n x↔cont rows n x\/cont rs n x:=λ rs=>by
 induction rs with
 | nil=>exact λ rows=>⟨.inl,λ q=>q.elim id λ q=>by obtain ⟨_,h,_⟩:=q;cases h⟩
 | cons r rs ih=>
  intro rows;show cont (addAll (bI rows r.1 r.2) rs) n x↔_;rw [ih,CU,or_assoc];have e:cont (r :: rs) n x↔(n=r.1/\x∈r.2)\/cont rs n x:=by
   constructor
   ·rintro ⟨ns,h,hx⟩;rcases List.mem_cons.mp h with h|h
    ·exact .inl ⟨ZT k0c h,by rw [<-h];exact hx⟩
    ·exact .inr ⟨ns,h,hx⟩
   ·rintro (⟨e,hx⟩|⟨ns,h,hx⟩)
    ·exact ⟨r.2,by rw [e];exact Y0,hx⟩
    ·exact ⟨ns,Z0 _ h,hx⟩
  rw [e]
def Do (ds:List Dl):cont (wrAll ds) n x↔∃d∈ds,(⟨true,n,x⟩:Dd)∈d.ds:=by
 have go :∀(ds:List Dl) (b:bA),cont (ds.foldl (λ a d=>addAll a (wrR d.ds)) b) n x↔cont b n x\/∃d∈ds,(⟨true,n,x⟩:Dd)∈d.ds:=λ ds=>by
  induction ds with
  | nil=>intro b;simp
  | cons d ds ih=>intro b;rw [U3,ih,Le,KR,or_assoc];simp
 have:=go ds [];unfold wrAll;rw [this];exact ⟨λ q=>q.elim (λ q=>by obtain ⟨_,h,_⟩:=q;cases h) id,.inr⟩
def JO:(i,c)∈fk ds m↔i < m/\∃d,ds[i]? = some d/\c∈d.ds:=by
 unfold fk;rw [z9];constructor
 ·rintro ⟨k,hk,h⟩;obtain ⟨b,a,e⟩:=List.mem_map.mp h;injection e with e1 e2;subst e1 e2;refine ⟨List.mem_range.mp hk,?_⟩;cases hd:ds[k]? with
  | none=>rw [hd] at a;cases a
  | some d=>rw [hd] at a;exact ⟨d,rfl,a⟩
 ·rintro ⟨hi,d,hd,a⟩;exact ⟨i,List.mem_range.mpr hi,List.mem_map.mpr ⟨c,by rw [hd];exact a,rfl⟩⟩
def Wr (ds:List Dl) (i:Nat) (n:ZR) (x:Int):Prop:=∃d,ds[i]? = some d/\(⟨true,n,x⟩:Dd)∈d.ds
def gD {ds:List Dl} {i:Nat} {n:ZR} {x:Int}:(i,(⟨true,n,x⟩:Dd))∈fk ds ds.length↔Wr ds i n x:=by rw [JO];exact ⟨λ h=>h.2,λ h=>⟨by obtain ⟨d,e,_⟩:=h;exact (List.getElem?_eq_some_iff.mp e).1,h⟩⟩
def rp.cont (F:rp ds rows):K42.cont rows n x↔∃i,Wr ds i n x:=by
 have e:(∃i,Wr ds i n x)↔K42.cont (wrAll ds) n x:=by
  rw [Do];constructor
  ·rintro ⟨i,d,hd,hx⟩;exact ⟨d,K0 hd,hx⟩
  ·rintro ⟨d,hd,hx⟩;obtain ⟨i,f⟩:=o6 hd;exact ⟨i,d,f,hx⟩
 rw [e];constructor
 ·rintro ⟨b,h,hx⟩;obtain ⟨c,a⟩:=cJ (F.keys.mem_iff.mpr (List.mem_map.mpr ⟨_,h,rfl⟩));exact ⟨c,a,(F.row _ a b h).1.mem_iff.mp hx⟩
 ·rintro ⟨c,a,hx⟩;obtain ⟨b,h⟩:=cJ (F.keys.mem_iff.mp (List.mem_map.mpr ⟨_,a,rfl⟩));exact ⟨b,h,(F.row _ a b h).1.mem_iff.mpr hx⟩
theorem Kv {K:B0} {a b:ZS} {xs ys:List V} {g:TG} {tb:TS} {D:Ends} {σ:L2.St} {H:Hp} (Pv:Nat->L2.St->Hp->Prop) (h0:Pv 0 σ H) (hl :∀i σ H,Pv i σ H->av K H a xs/\av K H b ys) (hlen:ys.length<=xs.length)
  (hs :∀i x y σ H p,xs[i]? = some x->ys[i]? = some y->Pv i σ H->H p=none->g (.ref p) σ (upd H p (.tup [x,y])) λ σ2 H2=>tb { D with nx:=Pv (i + 1),ct:=Pv (i + 1),bk:=D.nx } σ2 H2) (hd :∀σ H,Pv ys.length σ H->D.nx σ H) :
  ∃W:Nat->Nat->L2.St->Hp->Prop,(∃m,W 0 m σ H)/\∀i m σ H,W i m σ H->
   ((jK K a b).stop i H/\D.nx σ H)\/((jK K a b).go i H/\∃N:L2.St->Hp->Prop,(∀σ' H',N σ' H'->∃m',m' < m/\W (i + 1) m' σ' H')/\∀x H',(jK K a b).yld i H x H'->g x σ H' λ σ2 H2=>tb { D with nx:=N,ct:=N,bk:=D.nx } σ2 H2):=by
 refine ⟨λ i m σ H=>m=ys.length - i/\i<=ys.length/\Pv i σ H,⟨ys.length,by simp,K2 _,h0⟩,?_⟩;rintro i m σ H ⟨rfl,hi,p⟩;obtain ⟨c,d⟩:=hl i σ H p;by_cases hlt:i < ys.length
 ·have q:i < xs.length:=by lia
  refine .inr ⟨⟨xs,ys,xs[i],ys[i],c,d,by simp [q],by simp [hlt]⟩,Pv (i + 1),λ σ' H' k=>⟨ys.length - (i + 1),by lia,rfl,hlt,k⟩,λ v H' y=>?_⟩;obtain ⟨t,f,rfl,n⟩:=y;obtain ⟨l,h,j,o,rfl⟩:=n xs ys c d;exact hs i l h σ H t j o p f
 ·have e:i=ys.length:=by lia
  subst e;exact .inl ⟨⟨xs,ys,c,d,.inr (L0 _)⟩,hd σ H p⟩
noncomputable def cA (r:ZR×List Int):List (ZR×Int×Int):=((0 :: r.2).zip r.2).map λ p=>(r.1,p.1,p.2)
structure WN (N:List (ZR×Int×Int)) (ds:List Dl) (kvs:List (List Key×V)):Prop where
 len:kvs.length<=N.length
 mem :∀kv∈kvs,∃(n:ZR) (x y:Int) (i:Nat),kv=(eV n x,.int i)/\(n,x,y)∈N/\Wr ds i n y
 all :∀(n:ZR) (x y:Int),(n,x,y)∈N->(aH kvs (eV n x)).isSome=true
def Af {κ:Type} [DecidableEq κ] {kvs:List (κ×V)} {k:κ} {v:V} {kv:κ×V} (h:kv∈putK kvs k v):kv=(k,v)\/kv∈kvs:=by
 unfold putK at h;split at h
 ·obtain ⟨x,a,e⟩:=List.mem_map.mp h;split at e
  ·rename_i z;exact .inl (by rw [<-e,z])
  ·exact .inr (e ▸ a)
 ·rcases List.mem_append.mp h with h|h
  ·exact .inr h
  ·exact .inl (List.mem_singleton.mp h)
theorem WN.put {N:List (ZR×Int×Int)} {ds:List Dl} {kvs:List (List Key×V)} (h:WN N ds kvs) {n:ZR} {x y:Int} {i:Nat} (hw:Wr ds i n y):WN (N++[(n,x,y)]) ds (putK kvs (eV n x) (.int i)):=by
 refine ⟨by rw [F0];have:=h.len;have:=pC (kvs:=kvs) (k:=eV n x) (v:=.int i);show _<=N.length + 1;lia,λ g d=>?_,λ a c b m=>?_⟩
 ·rcases Af d with e|d
  ·exact ⟨n,x,y,i,e,List.mem_append.mpr (.inr (List.mem_singleton.mpr rfl)),hw⟩
  ·obtain ⟨a,c,b,j,e,f,l⟩:=h.mem g d;exact ⟨a,c,b,j,e,List.mem_append.mpr (.inl f),l⟩
 ·rw [rh];split
  ·rfl
  ·rename_i z;rcases List.mem_append.mp m with m|m
   ·exact h.all a c b m
   ·have e:=List.mem_singleton.mp m;injection e with e1 e;injection e with e2 _;exact ZU (by rw [e1,e2]) z
theorem Ih {α β:Type} {f:α->List β} {m k:Nat} :∀{l:List α},l.length<=k->(∀x∈l,(f x).length<=m)->(l.flatMap f).length<=k * m:=λ {l}=>by
 induction l generalizing k with
 | nil=>exact λ _ _=>K2 _
 | cons x l ih=>
  intro b a;obtain ⟨k,rfl⟩ :∃j,k=j + 1:=⟨k - 1,by rw [W0] at b;lia⟩
  have d:=ih (k:=k) (by rw [W0] at b;lia) λ y c=>a y (Z0 _ c);have e:=a x Y0;rw [G3,F0,Nat.succ_mul]
  lia
def vX:Sp:=λ vs H Q _=>E6 λ a v us ds rows kvs=>A6 (vs=[.ref a,.ref v]) (H a=some (.lst us)) (af (bJ H) ds us) (eA H v rows kvs) (Gd ds rows) (∀f H' kvs',Same H H'->H f=none->H' f=some (.dT kvs')->WN (rows.flatMap cA) ds kvs'->Q (.ref f) H')
theorem EC (T:TX (kx w) mg) (c0:Ca P w mg base "writers" ["dealings"] 1 qY):Fo P w mg base CX0 2 133 vi ["dealings","versions"] vX:=by
 refine (uY w.params).ok bo (λ vs H Q E h=>?_) (λ c2 A c5 s H vs Q E R h=>?_)
 ·obtain ⟨a,v,us,U,g,kvs,rfl,_⟩:=h;rfl
 ·obtain ⟨a,v,us,U,g,kvs,rfl,ea,al,V0,G,q⟩:=h;refine ⟨_,(aR (ar (i:=2) bo.nd rfl (O1 rfl) (aj c0 (R.mono (by decide)) rfl (ah (pv 0) aa)))
   (aR (ar (i:=3) bo.nd rfl (O1 rfl) ya)
   (aR (Kj (aW Z1 rfl (sD (pv 1)) (bx rfl (cK (cZ (i:=4) bo.nd rfl (O1 rfl)) (cK (cZ (i:=5) bo.nd rfl (O1 rfl)) f_)))
   (aV (aW Z1 rfl (Gy rfl (T.no (rC _)) (ah (aA bM (aO (ah ab aa)) (pv 5)) (ah (pv 5) aa))) (bx rfl (cK (cZ (i:=6) bo.nd rfl (O1 rfl)) (cK (cZ (i:=7) bo.nd rfl (O1 rfl)) f_)))
   (aV (mj (bu R) (pv 3) (bh (ah (pv 4) (ah (pv 6) aa))) (mn (bu R) (pv 2) (bh (ah (pv 4) (ah (pv 7) aa))) (λ _ _=>rfl)) rfl))))))
   (aV (au (pv 3)))))),?_⟩
  refine cy ?_;refine ⟨_,rfl,a,us,U,rfl,ea,al,G.l12,λ d hd=>(G.ok d hd).ln,λ J S kw Z c4 ew W=>ai ?_⟩;refine cy ?_;intro f O;refine ai ?_;have L:=V0.same Z;have a0:v≠f:=bZ L.at' O;have c3:J≠f:=bZ ew O;have b0:v≠J:=aK L.at' ew λ z=>nomatch z
  have s2:=Same.upd (o:=.dT []) O;refine ⟨v,kvs,s2 _ _ L.at',?_⟩;refine ⟨_,rfl,v,kvs,rfl,s2 _ _ L.at',λ ob=>?_⟩;have b8:kvs.length=g.length:=(cz V0.al).symm;have X :∀b o,b≠v->S b=some o->upd S v (.frz ob (.dK kvs)) b=some o:=λ b o n e=>by rw [ae n];exact e
  generalize hB:upd S v (.frz ob (.dK kvs))=B at X;have Bf:B f=none:=by rw [<-hB,ae a0.symm];exact O
  have Bv:B v=some (.frz ob (.dK kvs)):=by rw [<-hB];exact aB
  have Bw:B J=some (.dT kw):=X _ _ b0.symm ew;have b7:upd (upd S f (.dT [])) v (.frz ob (.dK kvs))=upd B f (.dT []):=by
   rw [<-hB];funext b;unfold upd;by_cases z1:b=v
   ·rw [ZZ z1,Z_ (by rw [z1];exact a0),ZZ z1]
   ·rw [Z_ z1,Z_ z1]
  rw [b7];refine Bs (a:=v) (ob:=ob) (kvs:=kvs) (λ i σ c=>(∃kf,Same B c/\c f=some (.dT kf)/\WN ((g.take i).flatMap cA) U kf)/\(E4 λ x4 x5 I C=>σ=[some (.ref a),some (.ref v),some (.ref J),some (.ref f),x4,x5,I,C])) ⟨⟨[],Same.upd Bf,aB,⟨K2 _,(λ kv h=>nomatch h),(λ n x y m=>nomatch m)⟩⟩,_,_,_,_,rfl⟩ (λ i σ c z=>z.1.elim λ _ D=>D.1 _ _ Bv) ?_ ?_
  ·rintro i k u σ H3 p hk ⟨⟨kf,s3,ef,W3⟩,x4,x5,I,C,rfl⟩ hp;obtain ⟨r,a7,ek,l,el,e1⟩:=k8 L.al hk;have ek:k=.inr r.1:=ek;have el:u=.ref l:=el;subst ek el;have a4:r∈g:=K0 a7;have c6:=(G.row r a4).2.1;have b3:l≠v:=aK e1 L.at' λ z=>nomatch z
   have Bl:B l=some (.lst (r.2.map V.int)):=X _ _ b3 e1;have Y:=s3.trans (Same.upd (o:=.tup [kV (.inr r.1),.ref l]) hp);have a5:=Same.upd (o:=.tup [kV (.inr r.1),.ref l]) hp _ _ ef;refine ⟨p,_,rfl,aG.of aB,rfl,_,_,rfl,_,_,rfl,rfl,?_⟩;generalize upd H3 p (.tup [kV (.inr r.1),.ref l])=H4 at Y a5⊢;refine ⟨qS,λ p0 b4=>⟨_,rfl,?_⟩⟩;have j0:=Same.upd (o:=.lst [.int 0]) b4;refine .inr (.inr (.inl ⟨p0,l,_,_,rfl,rfl,aB,j0 _ _ (Y _ _ Bl),?_,λ M b2=>?_⟩))
   ·rw [q0];exact M0 (m:=61) (by show 1 + r.2.length<=61;lia) (by decide)
   have j1:=Same.upd (o:=.lst ([.int 0]++r.2.map V.int)) b2;have s5:=(Y.trans j0).trans j1;have a6:=j1 _ _ (j0 _ _ a5);have e5:upd (upd H4 p0 (.lst [.int 0])) M (.lst ([.int 0]++r.2.map V.int)) M=some (.lst ((0 :: r.2).map V.int)):=aB;refine ⟨_,rfl,M,l,_,_,rfl,av.of e5,av.of (s5 _ _ Bl),?_⟩;generalize upd (upd H4 p0 (.lst [.int 0])) M (.lst ([.int 0]++r.2.map V.int))=H5 at s5 a6 e5⊢;have b6:(g.take (i + 1)).flatMap cA=(g.take i).flatMap cA++cA r:=by rw [N4,a7,U2];simp
   have lN:(cA r).length=r.2.length:=by unfold cA;rw [q0,X9,W0];lia
   refine Kv (K:=KX w.params) (a:=M) (b:=l) (xs:=(0 :: r.2).map V.int) (ys:=r.2.map V.int) (λ j σ c=>(∃kf,Same B c/\c f=some (.dT kf)/\c M=some (.lst ((0 :: r.2).map V.int))/\WN ((g.take i).flatMap cA++(cA r).take j) U kf)/\(E2 λ I C=>σ=[some (.ref a),some (.ref v),some (.ref J),some (.ref f),some (.str r.1),some (.ref l),I,C])) ⟨⟨kf,s5,a6,e5,by simpa using W3⟩,_,_,rfl⟩ (λ j σ c z=>by obtain ⟨⟨_,h1,_,h3,_⟩,_⟩:=z;exact ⟨av.of h3,av.of (h1 _ _ Bl)⟩) (by rw [q0,q0,W0];lia) ?_ ?_
   ·rintro j x y σ H6 t hx hy ⟨⟨kg,s6,ef6,ep6,W6⟩,I,C,rfl⟩ ht;rw [C1] at hx hy;obtain ⟨N,b5,rfl⟩:=Option.map_eq_some_iff.mp hx;obtain ⟨F,a9,rfl⟩:=Option.map_eq_some_iff.mp hy;have hN:(cA r)[j]? = some (r.1,N,F):=by unfold cA;rw [C1,(j13 (z:=(N,F))).mpr ⟨b5,a9⟩];rfl
    have tk:(cA r).take (j + 1)=(cA r).take j++[(r.1,N,F)]:=by rw [N4,hN];rfl
    obtain ⟨i0,b1⟩:=G.fit.cont.mp ⟨r.2,a4,K0 a9⟩;obtain ⟨v0,a8⟩:=Option.isSome_iff_exists.mp (W.all r.1 F i0 (gD.mpr b1));obtain ⟨i1,rfl,a1⟩:=W.of _ _ _ a8;have a1:=gD.mp a1;have j6:=Same.upd (o:=.tup [.int N,.int F]) ht;refine ⟨t,_,rfl,aG.of aB,rfl,_,_,rfl,_,_,rfl,rfl,?_⟩;refine ⟨_,rfl,_,rfl,_,rfl,gp,λ t2 b9=>?_⟩;have j7:=Same.upd (o:=.tup [.str r.1,.int F]) b9;have s7:=(s6.trans j6).trans j7;refine ⟨J,.int i1,rfl,.inr ⟨kw,eV r.1 F,t2,.inl (s7 _ _ Bw),rfl,aB,a8.symm⟩,_,rfl,_,rfl,_,rfl,gp,λ t3 c1=>?_⟩;have j8:=Same.upd (o:=.tup [.str r.1,.int N]) c1;have s8:=s7.trans j8;have a2:=j8 _ _ (j7 _ _ (j6 _ _ ef6));have a3:=j8 _ _ (j7 _ _ (j6 _ _ ep6));have lk:kg.length < ZG:=by
     have h1:=W6.len;rw [F0,Y1] at h1;have h2:((g.take i).flatMap cA).length<=48 * 60:=by
      refine Ih (m:=60) ?_ λ r R=>?_
      ·rw [Y1];have:=G.lr
       lia
      ·unfold cA;rw [q0,X9];have:=(G.row r (J5 R)).2.1
       lia
     exact W1 (m:=48 * 60 + 60) (by lia) (by decide)
    refine ⟨f,_,rfl,fS.t (k:=eV r.1 N) a2 aB lk,?_⟩;refine ⟨⟨_,λ b o e=>?_,aB,?_,by rw [tk,<-T2];exact W6.put a1⟩,_,_,rfl⟩
    ·rw [ae (bZ e Bf)];exact s8 _ _ e
    ·rw [ae (aK a3 a2 λ z=>nomatch z)];exact a3
   ·rintro σ H6 ⟨⟨kg,s6,ef6,_,W6⟩,I,C,rfl⟩;rw [q0,<-lN,W2,<-b6] at W6;exact ⟨⟨kg,s6,ef6,W6⟩,_,_,_,_,rfl⟩
  rintro σ c ⟨⟨kf,s3,ef,W3⟩,x4,x5,I,C,rfl⟩;rw [b8,W2] at W3;refine ⟨⟨ob,s3 _ _ Bv⟩,_,rfl,q f _ kf (λ b o e=>?_) (Z.free O) (by rw [ae a0.symm];exact ef) W3⟩;by_cases z:b=v
  ·subst z;rw [V0.at'] at e;cases e;exact aB
  ·rw [ae z];exact s3 _ _ (X _ _ z (Z _ _ e))
end
section
variable {P:ZK} {w:U1} {mg:ZR->Option ZH} {base:ZN}
def UW (ds:List Dl):Prop:=∀i j n x,Wr ds i n x->Wr ds j n x->i=j
open Classical in
noncomputable def ff (ds:List Dl) (n:ZR) (x:Int):Option Nat:=if h :∃i,Wr ds i n x then some (j40 h) else none
def jm (U:UW ds):ff ds n x=some i↔Wr ds i n x:=by
 unfold ff;constructor
 ·intro h;split at h
  ·rename_i z;cases h;exact y7 z
  ·cases h
 ·intro h;have z :∃i,Wr ds i n x:=⟨i,h⟩
  rw [dif_pos z];exact ZT some (U _ _ _ _ (y7 z) h)
def hZ:ff ds n x=none↔∀i,¬ Wr ds i n x:=by
 unfold ff;constructor
 ·intro h i a;rw [dif_pos ⟨i,a⟩] at h;cases h
 ·intro h;rw [dif_neg λ ⟨i,a⟩=>h i a]
noncomputable def oV:Option Nat->V
 | none=>.non
 | some i=>.int i
noncomputable def nV:Option ZR->V
 | none=>.non
 | some z=>.str z
structure ie where
 a:Option Nat
 b:Option Nat
 k:ZR
 n:Option ZR
def cE (H:Hp) (r:ie) (y:V):Prop:=∃p,y=.ref p/\H p=some (.tup [oV r.a,oV r.b,.str r.k,nV r.n])
def cE.same (s:Same H H') (h:cE H r y):cE H' r y:=h.elim λ p z=>⟨p,z.1,s _ _ z.2⟩
def WL.get (U:UW ds) (W:WL (fk ds ds.length) kw) (n:ZR) (x:Int):(aH kw (eV n x)).getD .non=oV (ff ds n x):=by
 cases hv:aH kw (eV n x) with
 | none=>
  have e:ff ds n x=none:=hZ.mpr λ i a=>by have:=W.all n x i (gD.mpr a);rw [hv] at this;cases this
  rw [e];rfl
 | some v=>obtain ⟨i,rfl,a⟩:=W.of n x v hv;rw [(jm U).mpr (gD.mp a)];rfl
theorem Fc (r:ZR×List Int):(cA r).length=r.2.length:=by unfold cA;rw [q0,X9,W0];lia
def qt (rows:bA):(rows.flatMap cA).length=(rows.flatMap (·.2)).length:=by
 induction rows with
 | nil=>rfl
 | cons r rows ih=>rw [G3,G3,F0,F0,ih,Fc]
def CK {n n':ZR} {x x':Int} (h:eV n x=eV n' x'):n=n'/\x=x':=by injection h with h1 h2;injection h2 with h2 _;injection h1 with h1;injection h2 with h2;exact ⟨h1,h2⟩
def kS {rows:bA} {n:ZR} {x y:Int}:(n,x,y)∈rows.flatMap cA↔∃ns,(n,ns)∈rows/\∃j:Nat,(0 :: ns)[j]? = some x/\ns[j]? = some y:=by
 rw [z9];constructor
 ·rintro ⟨r,hr,h⟩;unfold cA at h;obtain ⟨p,c,e⟩:=List.mem_map.mp h;injection e with e1 e;injection e with e2 e3;obtain ⟨j,d⟩:=o6 c;obtain ⟨a,b⟩:=List.getElem?_zip_eq_some.mp d;exact ⟨r.2,by rw [<-e1];exact hr,j,by rw [a,e2],by rw [b,e3]⟩
 ·rintro ⟨ns,hr,j,a,b⟩;refine ⟨(n,ns),hr,List.mem_map.mpr ⟨(x,y),K0 (i:=j) (List.getElem?_zip_eq_some.mpr ⟨a,b⟩),rfl⟩⟩
def Gd.row2 (G:Gd ds rows) (h:(n,ns)∈rows):¬ (0:Int)∈ns/\ns.Nodup:=by obtain ⟨b,a⟩:=cJ (G.fit.keys.mem_iff.mpr (List.mem_map.mpr ⟨_,h,rfl⟩));exact (G.fit.row _ a ns h).2
def zI {α β:Type} {l:List (α×β)} (h:(l.map (·.1)).Nodup) {a:α} {b c:β} (h1:(a,b)∈l) (h2:(a,c)∈l):b=c:=by
 induction l with
 | nil=>cases h1
 | cons x l ih=>
  rw [O0,L3] at h;rcases List.mem_cons.mp h1 with e1|h1
  ·rcases List.mem_cons.mp h2 with e2|h2
   ·rw [<-e1] at e2;injection e2 with _ e;exact e.symm
   ·exact ZU (List.mem_map.mpr ⟨_,h2,(ZT k0c e1:a=x.1)⟩) h.1
  ·rcases List.mem_cons.mp h2 with e2|h2
   ·exact ZU (List.mem_map.mpr ⟨_,h1,(ZT k0c e2:a=x.1)⟩) h.1
   ·exact ih h.2 h1 h2
def mz {ds:List Dl} {rows:bA} (G:Gd ds rows) (nk:(rows.map (·.1)).Nodup) {n:ZR} {x y y':Int} (h1:(n,x,y)∈rows.flatMap cA) (h2:(n,x,y')∈rows.flatMap cA):y=y':=by obtain ⟨h,a,j,i,g⟩:=kS.mp h1;obtain ⟨o,f,k,l,b⟩:=kS.mp h2;have e:=zI nk a f;subst e;have d:(0 :: h).Nodup:=List.nodup_cons.mpr ⟨(G.row2 a).1,(G.row2 a).2⟩;obtain ⟨q,m⟩:=List.getElem?_eq_some_iff.mp i;obtain ⟨p,c⟩:=List.getElem?_eq_some_iff.mp l;have e:j=k:=(j20 d).mp (m.trans c.symm);subst e;rw [g] at b;exact G1 b
def Bq {α β:Type} {R:α->β->Prop} {xs:List α} {ys:List β} (h:af R xs ys) {y:β} (hy:y∈ys) :∃x∈xs,R x y:=by
 induction h with
 | nil=>cases hy
 | cons a r ih=>
  rcases List.mem_cons.mp hy with rfl|hy
  ·exact ⟨_,.head _,a⟩
  ·obtain ⟨x,b,h⟩:=ih hy;exact ⟨x,.tail _ b,h⟩
def nW (ds:List Dl) (rows:bA) (r:ie):Prop:=∃(n:ZR) (x y:Int) (i:Nat),(n,x,y)∈rows.flatMap cA/\Wr ds i n y/\r=⟨ff ds n x,some i,"after",some n⟩
def Aj:Sp:=λ vs H Q _=>E6 λ a v us ds rows kvs=>A7 (vs=[.ref a,.ref v]) (H a=some (.lst us)) (af (bJ H) ds us) (eA H v rows kvs) (Gd ds rows) (UW ds) (∀l H' ys L,Same H H'->H l=none->H' l=some (.lst ys)->af (cE H') L ys->L.length<=16->(∀r,r∈L↔nW ds rows r)->Q (.ref l) H')
theorem Hx (T:TX (kx w) mg) (c0:Ca P w mg base "writers" ["dealings"] 1 qY) (c1:Ca P w mg base "next_writers" ["dealings","versions"] 2 vX):Fo P w mg base CX0 3 152 vt ["dealings","versions"] Aj:=by
 refine (uu w.params).ok aT (λ vs H Q E h=>?_) (λ c2 A c4 s H vs Q E O h=>?_)
 ·obtain ⟨a,v,us,C,a2,kvs,rfl,_⟩:=h;rfl
 ·obtain ⟨a,v,us,C,a2,kvs,rfl,ea,al,V0,G,U,q⟩:=h;refine ⟨_,(aR (ar (i:=2) aT.nd rfl (O1 rfl) (aj c0 (O.mono (by decide)) rfl (ah (pv 0) aa)))
   (aR (ar (i:=3) aT.nd rfl (O1 rfl) (aO aa))
   (aR (aW Z1 rfl (Gm (aj c1 (O.mono (by decide)) rfl (ah (pv 0) (ah (pv 1) aa)))) (bx rfl (cK (cZ (i:=4) aT.nd rfl (O1 rfl)) (cK (cZ (i:=5) aT.nd rfl (O1 rfl)) f_)))
   (aV (gv (jC (pv 3) (ah (bh (ah (sJ (bu O) (pv 2) (pv 4) ⟨rfl,rfl,rfl,rfl⟩) (ah (pv 5) (ah bf (ah (ao ak (pv 4) ab (λ _ _=>rfl)) aa))))) aa)))))
   (aV (au (pv 3)))))),?_⟩
  refine cy ?_;refine ⟨_,rfl,a,us,C,rfl,ea,al,G.l12,λ d hd=>(G.ok d hd).ln,λ M H1 X s1 c3 ew W=>ai ?_⟩;refine cy ?_;refine ⟨gj,λ l hl=>ai ?_⟩;have j1:=Same.upd (o:=.lst []) hl;have K:=s1.trans j1;have a3:M≠l:=bZ ew hl;have a9:H l=none:=s1.free hl;refine ⟨_,rfl,_,rfl,a,v,us,C,a2,kvs,rfl,K _ _ ea,bp (λ _ _ z=>z.same K) al,V0.same K,G,λ f I g s3 R ef a1=>⟨f,g,rfl,ef,λ ob=>?_⟩⟩;have a4:I l=some (.lst []):=s3 _ _ aB;have b1:I M=some (.dT X):=s3 _ _ (j1 _ _ ew);have a8:f≠l:=aK ef a4 λ z=>nomatch z
  have b3:M≠f:=λ z=>by rw [<-z,j1 _ _ ew] at R;cases R
  have b4:g.length<=16:=by have:=a1.len;rw [qt] at this;exact M0 this G.tot
  have ub :∀b o,b≠f->I b=some o->upd I f (.frz ob (.dT g)) b=some o:=λ b o n e=>by rw [ae n];exact e
  have b0:=ub _ _ a8.symm a4;have a0:=ub _ _ b3 b1;have a5:upd I f (.frz ob (.dT g)) f=some (.frz ob (.dT g)):=aB;have s4 :∀b o,H b=some o->upd I f (.frz ob (.dT g)) b=some o:=λ b o e=>ub b o (λ z=>by rw [z] at e;rw [K _ _ e] at R;cases R) (s3 _ _ (K _ _ e));generalize upd I f (.frz ob (.dT g))=B at b0 a0 a5 s4;refine Hl (a:=f) (ob:=ob) (kvs:=g) (λ i σ Y=>(∃ys L,(∀b o,b≠l->B b=some o->Y b=some o)/\Y l=some (.lst ys)/\af (cE Y) L ys/\af (λ (Z:List Key×V) (r:ie)=>∃(n:ZR) (x y:Int) (i:Nat),Z=(eV n x,.int i)/\(n,x,y)∈a2.flatMap cA/\Wr C i n y/\r=⟨ff C n x,some i,"after",some n⟩) (g.take i) L)/\(E2 λ x4 x5=>σ=[some (.ref a),some (.ref v),some (.ref M),some (.ref l),x4,x5])) ⟨⟨[],[],λ _ _ _ e=>e,b0,.nil,.nil⟩,_,_,rfl⟩ (λ i σ Y z=>by obtain ⟨⟨_,_,J,_⟩,_⟩:=z;exact J _ _ a8 a5) ?_ ?_
  ·rintro i k u σ N p b hk ⟨⟨ys,L,s5,el5,ay,aL⟩,x4,x5,rfl⟩ hp S;obtain ⟨n,x,y,F,a7,hN,hW⟩:=a1.mem _ (K0 hk);have b8:k=eV n x:=ZT k0c a7;have b6:u=.int F:=ZT k0b a7;subst b8 b6;have tk:g.take (i + 1)=g.take i++[(eV n x,.int F)]:=by rw [N4,hk];rfl
   have D:=Same.upd (o:=.tup [.ref b,.int F]) hp;have S:N b=some (.tup [.str n,.int x]):=S;refine ⟨p,_,rfl,aG.of aB,rfl,_,_,rfl,_,_,rfl,rfl,?_⟩;refine ⟨_,rfl,.inl ⟨rfl,_,av.of (D _ _ el5)⟩,_,rfl,M,rfl,.inr ⟨X,.inl (D _ _ (s5 _ _ a3 a0))⟩,_,rfl,aH X (eV n x),.inr ⟨X,eV n x,b,.inl (D _ _ (s5 _ _ a3 a0)),rfl,D _ _ S,rfl⟩,?_⟩;rw [W.get U n x];refine ⟨_,rfl,_,rfl,.inr (.inl ⟨b,_,0,.str n,rfl,rfl,aG.of (D _ _ S),bU (j:=0) rfl,sr,λ t ht=>?_⟩)⟩;have jt:=Same.upd (o:=.tup [oV (ff C n x),.int F,.str "after",.str n]) ht;have lL:=cz aL;have lY:=cz ay;have il:i < g.length:=(List.getElem?_eq_some_iff.mp hk).1;rw [Y1] at lL;refine ⟨l,ys,_,rfl,rfl,jt _ _ (D _ _ el5),W1 (m:=48) (by lia) (by decide),?_⟩;have b2:t≠l:=(bZ (D _ _ el5) ht).symm;have up :∀c o,c≠l->N c=some o->upd (upd (upd N p (.tup [.ref b,.int F])) t (.tup [oV (ff C n x),.int F,.str "after",.str n])) l (.lst (ys++[.ref t])) c=some o:=λ c o n e=>by rw [ae n];exact jt _ _ (D _ _ e)
   refine ⟨⟨ys++[.ref t],L++[⟨ff C n x,some F,"after",some n⟩],λ c o n e=>up c o n (s5 _ _ n e),aB,pK (bp (λ r y z=>?_) ay) ⟨t,rfl,by rw [ae b2];exact aB⟩,by rw [tk];exact pK aL ⟨n,x,y,F,rfl,hN,hW,rfl⟩⟩,_,_,rfl⟩;obtain ⟨c,e1,e2⟩:=z;exact ⟨c,e1,up _ _ (aK e2 el5 λ z=>nomatch z) e2⟩
  rintro σ N ⟨⟨ys,L,s5,el5,ay,aL⟩,x4,x5,rfl⟩;rw [W2] at aL;refine ⟨_,rfl,q l N ys L (λ b o e=>s5 _ _ (bZ e a9) (s4 _ _ e)) a9 el5 ay (by rw [cz aL];exact b4) λ r=>⟨λ h=>?_,λ h=>?_⟩⟩
  ·obtain ⟨Z,_,n,x,y,i,_,J,h2,h3⟩:=Bq aL h;exact ⟨n,x,y,i,J,h2,h3⟩
  ·obtain ⟨n,x,y,i,J,h2,rfl⟩:=h;obtain ⟨v1,hv⟩:=Option.isSome_iff_exists.mp (a1.all n x y J);unfold aH at hv;obtain ⟨Z,g1,g2⟩:=Option.map_eq_some_iff.mp hv;have b7:=o8 g1;have a6:Z.1=eV n x:=ZW (by have:=List.find?_some g1;exact this);obtain ⟨r,O,n',x',y',i',e1,b5,b9,rfl⟩:=qr aL b7;rw [e1] at a6;obtain ⟨en,ex⟩:=CK a6;subst en ex;have ey:=mz G V0.nk J b5;subst ey;rw [U _ _ _ _ h2 b9];exact O
end
section
variable {P:ZK} {w:U1} {mg:ZR->Option ZH} {base:ZN}
open Classical in
noncomputable def lK (ds:List Dl) (rows:bA) (n:ZR) (x:Int):Option Nat:=if h :∃i y,(n,x,y)∈rows.flatMap cA/\Wr ds i n y then some (j40 h) else none
def tj (U:UW ds) (G:Gd ds rows) (nk:(rows.map (·.1)).Nodup):lK ds rows n x=some i↔∃y,(n,x,y)∈rows.flatMap cA/\Wr ds i n y:=by
 unfold lK;constructor
 ·intro h;split at h
  ·rename_i z;cases h;exact y7 z
  ·cases h
 ·rintro ⟨y,h1,h2⟩;have z :∃i y,(n,x,y)∈rows.flatMap cA/\Wr ds i n y:=⟨i,y,h1,h2⟩
  rw [dif_pos z];obtain ⟨c,b,a⟩:=y7 z;have e:=mz G nk h1 b;subst e;exact ZT some (U _ _ _ _ a h2)
def WN.get (U:UW ds) (G:Gd ds rows) (nk:(rows.map (·.1)).Nodup) (W:WN (rows.flatMap cA) ds kf) (n:ZR) (x:Int):(aH kf (eV n x)).getD .non=oV (lK ds rows n x):=by
 cases hv:aH kf (eV n x) with
 | none=>
  have e:lK ds rows n x=none:=by unfold lK;refine dif_neg ?_;rintro ⟨i,y,a,_⟩;have:=W.all n x y a;rw [hv] at this;cases this
  rw [e];rfl
 | some v=>have d:=hv;unfold aH at d;obtain ⟨c,g,f⟩:=Option.map_eq_some_iff.mp d;have b:c.1=eV n x:=ZW (by have:=List.find?_some g;exact this);obtain ⟨o,p,h,q,l,a,k⟩:=W.mem c (o8 g);rw [l] at b f;obtain ⟨m,j⟩:=CK b;subst m j;rw [(tj U G nk).mpr ⟨h,a,k⟩];exact f.symm
theorem FJ (ds:List Dd):(gX ds).length<=ds.length:=by
 have go :∀(ds:List Dd) (a:List ZR×List (ZR×Int)),(ds.foldl (λ (a:List ZR×List (ZR×Int)) d=>if d.w=true then (a.1++[d.n],a.2) else if d.n∈a.1 then a else (a.1,a.2++[(d.n,d.x)])) a).2.length<=a.2.length + ds.length:=λ ds=>by
  induction ds with
  | nil=>exact λ _=>L0 _
  | cons d ds ih=>
   intro a;rw [U3,W0];refine M0 (ih _) ?_;split
   ·show a.2.length + _<=_;lia
   ·split
    ·lia
    ·show (a.2++[(d.n,d.x)]).length + _<=_;rw [F0];show a.2.length + 1 + _<=_
     lia
 have:=go ds ([],[])
 rwa [show (([],[]):List ZR×List (ZR×Int)).2.length=0 from rfl,i8] at this
def vU (ds:List Dl) (rows:bA) (k:Nat) (c:ZR×Int) (r:ie):Prop:=r=⟨ff ds c.1 c.2,some k,"seen",some c.1⟩\/r=⟨some k,lK ds rows c.1 c.2,"missed",some c.1⟩
def ju (ds:List Dl) (rows:bA) (i:Nat) (r:ie):Prop:=∃k d c,k < i/\ds[k]? = some d/\c∈gX d.ds/\vU ds rows k c r
theorem ju.succ (h:ds[i]? = some d) (r:ie):ju ds rows (i + 1) r↔ju ds rows i r\/∃c∈gX d.ds,vU ds rows i c r:=by
 constructor
 ·rintro ⟨k,d',c,h1,h2,h3,h4⟩;rcases Y3 k i with z|z
  ·exact .inl ⟨k,d',c,z,h2,h3,h4⟩
  ·have e:k=i:=by lia
   subst e;rw [h] at h2;cases h2;exact .inr ⟨c,h3,h4⟩
 ·rintro (⟨k,d',c,h1,h2,h3,h4⟩|⟨c,h3,h4⟩)
  ·exact ⟨k,d',c,by lia,h2,h3,h4⟩
  ·exact ⟨i,d,c,by lia,h,h3,h4⟩
def cE.more (el:H l=some (.lst ys)) (ay:af (cE H) L ys) (up :∀c o,c≠l->H c=some o->H' c=some o) (et:cE H' r (.ref t)):af (cE H') (L++[r]) (ys++[.ref t]):=
 pK (bp (λ r y z=>by obtain ⟨c,b,a⟩:=z;exact ⟨c,b,up _ _ (aK a el λ z=>nomatch z) a⟩) ay) et
def CW:Sp:=λ vs H Q _=>E6 λ a v us ds rows kvs=>A7 (vs=[.ref a,.ref v]) (H a=some (.lst us)) (af (bJ H) ds us) (eA H v rows kvs) (Gd ds rows) (UW ds) (∀l H' ys L,Same H H'->H l=none->H' l=some (.lst ys)->af (cE H') L ys->L.length<=32->(∀r,r∈L↔ju ds rows ds.length r)->Q (.ref l) H')
theorem GL (T:TX (kx w) mg) (c0:Ca P w mg base "writers" ["dealings"] 1 qY) (c1:Ca P w mg base "next_writers" ["dealings","versions"] 2 vX) (c2:Ca P w mg base "reads_ahead" ["dealing"] 1 zP):Fo P w mg base CX0 3 159 wF ["dealings","versions"] CW:=by
 refine (wx w.params).ok aJ (λ vs H Q E h=>?_) (λ e1 A e8 s H vs Q E hr h=>?_)
 ·obtain ⟨a,v,S,g,J,c6,rfl,_⟩:=h;rfl
 ·obtain ⟨a,v,S,g,J,c6,rfl,ea,al,V0,G,U,q⟩:=h;refine ⟨_,(aR (ar (i:=2) aJ.nd rfl (O1 rfl) (aj c0 (hr.mono (by decide)) rfl (ah (pv 0) aa)))
   (aR (ar (i:=3) aJ.nd rfl (O1 rfl) (aj c1 (hr.mono (by decide)) rfl (ah (pv 0) (ah (pv 1) aa))))
   (aR (ar (i:=4) aJ.nd rfl (O1 rfl) (aO aa))
   (aR (aW Z1 rfl (pG rfl (T.no (o_ _)) (ah (pv 0) aa)) (bx rfl (cK (cZ (i:=5) aJ.nd rfl (O1 rfl)) (cK (cZ (i:=6) aJ.nd rfl (O1 rfl)) f_)))
   (aV (aW Z1 rfl (fZ (aj c2 (hr.mono (by decide)) rfl (ah (pv 6) aa))) (cZ (i:=7) aJ.nd rfl (O1 rfl))
   (aR (gv (jC (pv 4) (ah (bh (ah (sJ (bu hr) (pv 2) (pv 7) ⟨rfl,rfl,rfl,rfl⟩) (ah (pv 5) (ah bf (ah (ao ak (pv 7) ab (λ _ _=>rfl)) aa))))) aa)))
   (aV (gv (jC (pv 4) (ah (bh (ah (pv 5) (ah (sJ (bu hr) (pv 3) (pv 7) ⟨rfl,rfl,rfl,rfl⟩) (ah bf (ah (ao ak (pv 7) ab (λ _ _=>rfl)) aa))))) aa))))))))
   (aV (au (pv 4))))))),?_⟩
  refine cy ?_;refine ⟨_,rfl,a,S,g,rfl,ea,al,G.l12,λ d hd=>(G.ok d hd).ln,λ wd H1 kw X e7 ew W=>ai ?_⟩;refine cy ?_;refine ⟨_,rfl,_,rfl,a,v,S,g,J,c6,rfl,X _ _ ea,bp (λ _ _ z=>z.same X) al,V0.same X,G,λ f H2 kf s2 e2 ef d3=>ai ?_⟩;refine cy ?_;refine ⟨gj,λ l hl=>ai ?_⟩;have j1:=Same.upd (o:=.lst []) hl;have s3:=(X.trans s2).trans j1;have c5:H l=none:=(X.trans s2).free hl;have a6:=j1 _ _ (s2 _ _ ew);have a8:=j1 _ _ ef;have a2:upd H2 l (.lst []) l=some (.lst []):=aB;generalize upd H2 l (.lst [])=B at s3 a6 a8 a2;have b4:wd≠l:=aK a6 a2 λ z=>nomatch z
  have a7:f≠l:=aK a8 a2 λ z=>nomatch z
  have lu:S.length=g.length:=cz al;have c7 :∀d∈g,d.ds.length<=4:=λ d hd=>(G.ok d hd).ln;have e5:=G.l12;have n4:=G.l4;have bs :∀{y:Hp},(∀b o,b≠l->B b=some o->y b=some o)->∀b o,H b=some o->y b=some o:=λ h b o e=>h b o (bZ e c5) (s3 _ _ e);refine ⟨_,rfl,a,S,rfl,av.of (s3 _ _ ea),?_⟩;refine qa (K:=KX w.params) (a:=a) (xs:=S) (λ i σ y=>(∃F L,(∀b o,b≠l->B b=some o->y b=some o)/\y l=some (.lst F)/\af (cE y) L F/\L.length<=8 * i/\∀r,r∈L↔ju g J i r)/\(E3 λ x5 x6 N=>σ=[some (.ref a),some (.ref v),some (.ref wd),some (.ref f),some (.ref l),x5,x6,N])) ⟨⟨[],[],λ _ _ _ e=>e,a2,.nil,L0 _,λ r=>⟨(λ h=>nomatch h),λ ⟨k,_,_,h,_⟩=>ZU h (Z2 _)⟩⟩,_,_,_,rfl⟩ (λ i σ y z=>by obtain ⟨⟨_,_,D,_⟩,_⟩:=z;exact av.of (bs D _ _ ea)) ?_ ?_
  ·intro i x σ H4 p hx O hp;refine jR λ _ C=>?_;obtain ⟨⟨F,L,s4,a5,ay,lL,mL⟩,x5,x6,N,rfl⟩:=O;refine C ?_;clear C;obtain ⟨M,b1,dx⟩:=dQ al hx;have b9:M∈g:=K0 b1;have e0:i < 12:=by have:=(List.getElem?_eq_some_iff.mp b1).1;lia
   have jp:=Same.upd (o:=.tup [.int (i:Nat),x]) hp;refine ⟨p,_,rfl,aG.of aB,rfl,_,_,rfl,_,_,rfl,rfl,?_⟩;have sH:Same H H4:=λ b o e=>bs s4 b o e;refine ⟨_,rfl,M,x,rfl,dx.same (sH.trans jp),c7 M b9,λ lr H5 zs s5 b5 b7 az=>⟨lr,rfl,⟨zs,av.of b7⟩,?_⟩⟩;have a9:=jp.trans s5;have c4:=a9 _ _ a5;have d7:af (cE H5) L F:=bp (λ _ _ z=>z.same a9) ay;have d9:lr≠l:=λ z=>by rw [z,jp _ _ a5] at b5;cases b5
   have b0 :∀b o,b≠l->B b=some o->H5 b=some o:=λ b o n e=>a9 _ _ (s4 b o n e);have l4:=FJ M.ds;have e6:=c7 M b9;refine oo (K:=KX w.params) (a:=lr) (xs:=zs) (λ j σ y=>(∃F L,(∀b o,b≠l->H5 b=some o->y b=some o)/\y l=some (.lst F)/\af (cE y) L F/\L.length<=8 * i + 2 * j/\∀r,r∈L↔ju g J i r\/∃c∈(gX M.ds).take j,vU g J i c r)/\(∃N,σ=[some (.ref a),some (.ref v),some (.ref wd),some (.ref f),some (.ref l),some (.int (i:Nat)),some x,N])) ⟨⟨F,L,λ _ _ _ e=>e,c4,d7,by lia,λ r=>by rw [mL r];simp⟩,_,rfl⟩ (λ j σ y _ z=>by obtain ⟨⟨_,_,D,_⟩,_⟩:=z;exact av.of (D _ _ d9 b7)) ?_ ?_
   ·intro j z σ Z hz O;refine jR λ _ C=>?_;obtain ⟨⟨I,L6,R,V,a4,d4,a3⟩,N,rfl⟩:=O;refine C ?_;clear C;obtain ⟨c,hc,⟨b,rfl,eb⟩⟩:=dQ az hz;have e4:j < 4:=by have:=(List.getElem?_eq_some_iff.mp hc).1;lia
    have tk:(gX M.ds).take (j + 1)=(gX M.ds).take j++[c]:=by rw [N4,hc];rfl
    have b8:b≠l:=aK eb c4 λ z=>nomatch z
    have b2:=R _ _ b8 eb;have c8:=R _ _ b4 (b0 _ _ b4 a6);have d5:=R _ _ a7 (b0 _ _ a7 a8);have e3:=cz a4;refine ⟨_,rfl,.inl ⟨rfl,_,av.of V⟩,_,rfl,wd,rfl,.inr ⟨kw,.inl c8⟩,_,rfl,aH kw (eV c.1 c.2),.inr ⟨kw,eV c.1 c.2,b,.inl c8,rfl,b2,rfl⟩,?_⟩;rw [W.get U c.1 c.2];refine ⟨_,rfl,_,rfl,.inr (.inl ⟨b,_,0,.str c.1,rfl,rfl,aG.of b2,bU (j:=0) rfl,sr,λ t ht=>?_⟩)⟩;have jt:=Same.upd (o:=.tup [oV (ff g c.1 c.2),.int (i:Nat),.str "seen",.str c.1]) ht;refine ⟨l,I,_,rfl,rfl,jt _ _ V,W1 (m:=120) (by lia) (by decide),?_⟩;have d2:t≠l:=(bZ V ht).symm;have a1 :∀u o,u≠l->Z u=some o->upd (upd Z t (.tup [oV (ff g c.1 c.2),.int (i:Nat),.str "seen",.str c.1])) l (.lst (I++[.ref t])) u=some o:=λ u o n e=>by rw [ae n];exact jt _ _ e
    have b6:=cE.more (r:=⟨ff g c.1 c.2,some i,"seen",some c.1⟩) (t:=t) V a4 a1 ⟨t,rfl,by rw [ae d2];exact aB⟩;have a0:upd (upd Z t (.tup [oV (ff g c.1 c.2),.int (i:Nat),.str "seen",.str c.1])) l (.lst (I++[.ref t])) l=some (.lst (I++[.ref t])):=aB;generalize upd (upd Z t (.tup [oV (ff g c.1 c.2),.int (i:Nat),.str "seen",.str c.1])) l (.lst (I++[.ref t]))=H7 at a1 b6 a0⊢;have d1:=a1 _ _ b8 b2;have c3:=a1 _ _ a7 d5;refine ⟨_,rfl,.inl ⟨rfl,_,av.of a0⟩,_,rfl,_,rfl,f,rfl,.inr ⟨kf,.inl c3⟩,_,rfl,aH kf (eV c.1 c.2),.inr ⟨kf,eV c.1 c.2,b,.inl c3,rfl,d1,rfl⟩,?_⟩;rw [d3.get U G V0.nk c.1 c.2];refine ⟨_,rfl,.inr (.inl ⟨b,_,0,.str c.1,rfl,rfl,aG.of d1,bU (j:=0) rfl,sr,λ Y d0=>?_⟩)⟩;have c9:=Same.upd (o:=.tup [.int (i:Nat),oV (lK g J c.1 c.2),.str "missed",.str c.1]) d0;refine ⟨l,I++[.ref t],_,rfl,rfl,c9 _ _ a0,?_,?_⟩
    ·rw [F0];exact W1 (m:=120) (by show _ + 1<=120;lia) (by decide)
    have d6:Y≠l:=(bZ a0 d0).symm;have b3 :∀u o,u≠l->H7 u=some o->upd (upd H7 Y (.tup [.int (i:Nat),oV (lK g J c.1 c.2),.str "missed",.str c.1])) l (.lst (I++[.ref t]++[.ref Y])) u=some o:=λ u o n e=>by rw [ae n];exact c9 _ _ e
    have d8:=cE.more (r:=⟨some i,lK g J c.1 c.2,"missed",some c.1⟩) (t:=Y) a0 b6 b3 ⟨Y,rfl,by rw [ae d6];exact aB⟩;refine ⟨⟨_,_,λ u o n e=>b3 _ _ n (a1 _ _ n (R _ _ n e)),aB,d8,by rw [F0,F0];show _ + 1 + 1<=_;lia,λ r=>?_⟩,_,rfl⟩;rw [O4,O4,a3 r,B5,B5,tk,or_assoc,or_assoc];constructor
    ·rintro (h|⟨u,D,h2⟩|h|h)
     ·exact .inl h
     ·exact .inr ⟨u,List.mem_append.mpr (.inl D),h2⟩
     ·exact .inr ⟨c,List.mem_append.mpr (.inr (List.mem_singleton.mpr rfl)),.inl h⟩
     ·exact .inr ⟨c,List.mem_append.mpr (.inr (List.mem_singleton.mpr rfl)),.inr h⟩
    ·rintro (h|⟨u,D,h2⟩)
     ·exact .inl h
     ·rcases List.mem_append.mp D with D|D
      ·exact .inr (.inl ⟨u,D,h2⟩)
      ·rw [List.mem_singleton.mp D] at h2;exact h2.elim (λ h=>.inr (.inr (.inl h))) λ h=>.inr (.inr (.inr h))
   ·intro σ Z O;refine jR λ _ C=>?_;obtain ⟨⟨I,L6,R,V,a4,d4,a3⟩,N,rfl⟩:=O;refine C ?_;clear C;rw [cz az,W2] at a3;have:=cz az;refine ⟨⟨I,L6,λ b o n e=>R _ _ n (b0 _ _ n e),V,a4,by lia,λ r=>by rw [a3 r,ju.succ b1]⟩,_,_,_,rfl⟩
  intro σ H4 O;refine jR λ _ C=>?_;obtain ⟨⟨F,L,s4,a5,ay,lL,mL⟩,x5,x6,N,rfl⟩:=O;refine C ?_;clear C;rw [lu] at mL lL;exact ⟨_,rfl,q l H4 F L (bs s4) c5 a5 ay (by lia) mL⟩
def pF (ds:List Dl) (r:ie):Prop:=∃i j d e,ds[i]? = some d/\ds[j]? = some e/\d.e < e.b/\r=⟨some i,some j,"time",none⟩
def yl:Sp:=λ vs H Q _=>E3 λ a us ds=>A6 (vs=[.ref a]) (H a=some (.lst us)) (af (bJ H) ds us) (ds.length<=4) (∀d∈ds,d.b < d.e) (∀l H' ys L,Same H H'->H l=none->H' l=some (.lst ys)->af (cE H') L ys->L.length<=12->(∀r,r∈L↔pF ds r)->Q (.ref l) H')
theorem Jd (T:TX (kx w) mg):Fo P w mg base CX0 1 166 uZ ["dealings"] yl:=by
 refine (vR w.params).ok aX (λ vs H Q E h=>?_) (λ b2 A b7 s H vs Q E hr h=>?_)
 ·obtain ⟨a,F,f,rfl,_⟩:=h;rfl
 ·obtain ⟨a,F,f,rfl,Z,al,b5,lt,q⟩:=h;refine ⟨_,(aR (ar (i:=1) aX.nd rfl (O1 rfl) (aO aa))
   (aR (aW Z1 rfl (pG rfl (T.no (o_ _)) (ah (pv 0) aa)) (bx rfl (cK (cZ (i:=2) aX.nd rfl (O1 rfl)) (cK (cZ (i:=3) aX.nd rfl (O1 rfl)) f_)))
   (aV (aW Z1 rfl (pG rfl (T.no (o_ _)) (ah (pv 0) aa)) (bx rfl (cK (cZ (i:=4) aX.nd rfl (O1 rfl)) (cK (cZ (i:=5) aX.nd rfl (O1 rfl)) f_)))
   (aV (aQ (dj iO (ao ak (pv 3) ab (λ _ _=>rfl)) (ao ak (pv 5) ab (λ _ _=>rfl)) (aC _))
   (aV (gv (jC (pv 1) (ah (bh (ah (pv 2) (ah (pv 4) (ah bf (ah eF aa))))) aa))))
   dI)))))
   (aV (au (pv 1))))),?_⟩
  refine cy ?_;refine ⟨gj,λ l hl=>ai ?_⟩;have s0:=Same.upd (o:=.lst []) hl;have X:F.length=f.length:=cz al;refine ⟨_,rfl,a,F,rfl,av.of (s0 _ _ Z),?_⟩;refine qa (K:=KX w.params) (a:=a) (xs:=F) (λ i σ u=>(∃g L,Same H u/\u l=some (.lst g)/\af (cE u) L g/\L.length<=3 * i/\∀r,r∈L↔∃k j d e,k < i/\f[k]? = some d/\f[j]? = some e/\d.e < e.b/\r=⟨some k,some j,"time",none⟩)/\(E4 λ x2 x3 B C=>σ=[some (.ref a),some (.ref l),x2,x3,B,C])) ⟨⟨[],[],s0,aB,.nil,L0 _,λ r=>⟨(λ h=>nomatch h),λ ⟨k,_,_,_,h,_⟩=>ZU h (Z2 _)⟩⟩,_,_,_,_,rfl⟩ (λ i σ u z=>by obtain ⟨⟨_,_,v,_⟩,_⟩:=z;exact av.of (v _ _ Z)) ?_ ?_
  ·intro i x σ H4 p hx D hp;refine jR λ _ c=>?_;obtain ⟨⟨g,L,s4,a1,ay,lL,mL⟩,x2,x3,B,C,rfl⟩:=D;refine c ?_;clear c;obtain ⟨y,O,dx⟩:=dQ al hx;obtain ⟨pd,qd,vd,rfl,ed,eq,ad⟩:=dx;have a6:i < f.length:=(List.getElem?_eq_some_iff.mp O).1;have Y:=Same.upd (o:=.tup [.int (i:Nat),.ref pd]) hp;have s5:=s4.trans Y;have a3:=Y _ _ a1;have a4:af (cE _) L g:=bp (λ _ _ z=>z.same Y) ay;refine ⟨p,_,rfl,aG.of aB,rfl,_,_,rfl,_,_,rfl,rfl,?_⟩;generalize upd H4 p (.tup [.int (i:Nat),.ref pd])=H5 at Y s5 a3 a4⊢;refine ⟨_,rfl,a,F,rfl,av.of (s5 _ _ Z),?_⟩;refine qa (K:=KX w.params) (a:=a) (xs:=F) (λ j σ u=>(∃g L,Same H u/\u l=some (.lst g)/\af (cE u) L g/\L.length<=3 * i + (if i < j then j - 1 else j)/\∀r,r∈L↔(∃k j d e,k < i/\f[k]? = some d/\f[j]? = some e/\d.e < e.b/\r=⟨some k,some j,"time",none⟩)\/∃m e,m < j/\f[m]? = some e/\y.e < e.b/\r=⟨some i,some m,"time",none⟩)/\(E2 λ B C=>σ=[some (.ref a),some (.ref l),some (.int (i:Nat)),some (.ref pd),B,C])) ⟨⟨g,L,s5,a3,a4,M0 lL (b6 _ _),λ r=>by rw [mL r];exact ⟨.inl,λ h=>h.elim id λ ⟨m,_,h,_⟩=>ZU h (Z2 _)⟩⟩,_,_,rfl⟩ (λ i σ u z=>by obtain ⟨⟨_,_,v,_⟩,_⟩:=z;exact av.of (v _ _ Z)) ?_ ?_
   ·intro j x' σ H6 p' a9 D a7;refine jR λ _ c=>?_;obtain ⟨⟨I,U,s6,a2,a0,M,V⟩,B,C,rfl⟩:=D;refine c ?_;clear c;obtain ⟨dm,N,a8⟩:=dQ al a9;obtain ⟨pe,qe,ve,rfl,ee,b4,b8⟩:=a8;have b1:j < 4:=by have:=(List.getElem?_eq_some_iff.mp N).1;lia
    have R:=Same.upd (o:=.tup [.int (j:Nat),.ref pe]) a7;have J:=s6.trans R;have G:=R _ _ a2;have S:af (cE _) U I:=bp (λ _ _ z=>z.same R) a0;refine ⟨p',_,rfl,aG.of aB,rfl,_,_,rfl,_,_,rfl,rfl,?_⟩;generalize upd H6 p' (.tup [.int (j:Nat),.ref pe])=H7 at R J G S⊢;refine ⟨_,rfl,.inr (.inl ⟨pd,_,1,.int y.e,rfl,rfl,aG.of (J _ _ ed),bU (j:=1) rfl,?_⟩)⟩;refine ⟨_,rfl,.inr (.inl ⟨pe,_,0,.int dm.b,rfl,rfl,aG.of (J _ _ ee),bU (j:=0) rfl,_,_,rfl,rfl,_,rfl,?_⟩)⟩;have split :∀r,(∃m e,m < j + 1/\f[m]? = some e/\y.e < e.b/\r=(⟨some i,some m,"time",none⟩:ie))↔(∃m e,m < j/\f[m]? = some e/\y.e < e.b/\r=(⟨some i,some m,"time",none⟩:ie))\/(y.e < dm.b/\r=⟨some i,some j,"time",none⟩):=λ r=>by
     constructor
     ·rintro ⟨m,e,v,h2,h3,h4⟩;rcases Y3 m j with z|z
      ·exact .inl ⟨m,e,z,h2,h3,h4⟩
      ·have em:m=j:=by lia
       subst em;rw [N] at h2;cases h2;exact .inr ⟨h3,h4⟩
     ·rintro (⟨m,e,v,h2,h3,h4⟩|⟨h3,h4⟩)
      ·exact ⟨m,e,by lia,h2,h3,h4⟩
      ·exact ⟨j,dm,by lia,N,h3,h4⟩
    refine dw (λ z=>?_) λ z=>?_
    ·have z:=ZW z;have b3:i≠j:=λ e=>by
      subst e;rw [O] at N;cases N;have:=lt y (K0 O)
      lia
     refine ⟨_,rfl,.inl ⟨rfl,_,av.of G⟩,_,rfl,_,rfl,sr,λ t ht=>?_⟩;have jt:=Same.upd (o:=.tup [.int (i:Nat),.int (j:Nat),.str "time",.non]) ht;have lY:=cz S;refine ⟨l,I,_,rfl,rfl,jt _ _ G,W1 (m:=144) (by split at M<;>lia) (by decide),?_⟩;have a5:t≠l:=(bZ G ht).symm;have up :∀W o,W≠l->H7 W=some o->upd (upd H7 t (.tup [.int (i:Nat),.int (j:Nat),.str "time",.non])) l (.lst (I++[.ref t])) W=some o:=λ W o n e=>by rw [ae n];exact jt _ _ e
     have b0:=cE.more (r:=⟨some i,some j,"time",none⟩) (t:=t) G S up ⟨t,rfl,by rw [ae a5];exact aB⟩;refine ⟨⟨_,_,λ b o e=>up _ _ (bZ e hl) (J _ _ e),aB,b0,by rw [F0];show _ + 1<=_;split at M<;>split<;>lia,λ r=>?_⟩,_,_,rfl⟩;rw [O4,V r,B5,split r,or_assoc];exact ⟨λ h=>h.elim .inl λ h=>h.elim (λ h=>.inr (.inl h)) λ h=>.inr (.inr ⟨z,h⟩),λ h=>h.elim .inl λ h=>h.elim (λ h=>.inr (.inl h)) λ h=>.inr (.inr h.2)⟩
    ·have z:=ZV (Bool.eq_false_iff.mpr z);refine ⟨⟨I,U,J,G,S,by split at M<;>split<;>lia,λ r=>?_⟩,_,_,rfl⟩;rw [V r,split r];exact ⟨λ h=>h.elim .inl λ h=>.inr (.inl h),λ h=>h.elim .inl λ h=>h.elim .inr λ h=>ZU h.1 z⟩
   ·intro σ H6 D;refine jR λ _ c=>?_;obtain ⟨⟨I,U,s6,a2,a0,M,V⟩,B,C,rfl⟩:=D;refine c ?_;clear c;refine ⟨⟨I,U,s6,a2,a0,by rw [X,ZZ a6] at M;lia,λ r=>?_⟩,_,_,_,_,rfl⟩;rw [V r];constructor
    ·rintro (⟨k,j,d,e,v,h2⟩|⟨m,e,v,h2,h3,h4⟩)
     ·exact ⟨k,j,d,e,by lia,h2⟩
     ·exact ⟨i,m,y,e,by lia,O,h2,h3,h4⟩
    ·rintro ⟨k,j,d,e,v,h2,h3,h4,h5⟩;rcases Y3 k i with z|z
     ·exact .inl ⟨k,j,d,e,z,h2,h3,h4,h5⟩
     ·have ek:k=i:=by lia
      subst ek;rw [O] at h2;cases h2;exact .inr ⟨j,e,by rw [X];exact (List.getElem?_eq_some_iff.mp h3).1,h3,h4,h5⟩
  intro σ H4 D;refine jR λ _ c=>?_;obtain ⟨⟨g,L,s4,a1,ay,lL,mL⟩,x2,x3,B,C,rfl⟩:=D;refine c ?_;clear c;refine ⟨_,rfl,q l H4 g L s4 hl a1 ay (by rw [X] at lL;lia) λ r=>?_⟩;rw [mL r];constructor
  ·rintro ⟨k,j,d,e,_,h2⟩;exact ⟨k,j,d,e,h2⟩
  ·rintro ⟨k,j,d,e,h2,h3⟩;exact ⟨k,j,d,e,by rw [X];exact (List.getElem?_eq_some_iff.mp h2).1,h2,h3⟩
end
section
variable {P:ZK} {w:U1} {mg:ZR->Option ZH} {base:ZN}
def wA {X:Cx} {K:B0} (h:X.K=K):c_ X (O3 .NotIn) (rL K true):=h ▸ sS
def jJ {X:Cx} {K:B0} (hK:X.K=K):k_ X (λ x lo hi H Q=>nq K x lo hi H Q\/oY K x lo hi H Q\/ot x lo hi H Q):=hK ▸ eZ
noncomputable def jc (r:ie):Bool:=match r.a,r.b with
 | some i,some j=>!decide (i=j)
 | _,_=>false
noncomputable def lV (r:ie):dF:=⟨(r.a.getD 0:Nat),(r.b.getD 0:Nat),r.k,r.n⟩
def jx (ds:List Dl) (rows:bA) (t:Bool) (r:dF):Prop:=∃q:ie,(nW ds rows q\/ju ds rows ds.length q\/(t=true/\pF ds q))/\jc q=true/\lV q=r
theorem oU {α:Type} {g:α->Bool} {R:α->V->Prop} :∀(L:List α) (ys:List V),af (λ (i:Nat) y=>∃r,L[i]? = some r/\R r y) ((N0 L.length).filter λ i=>(L[i]?.map g).getD false) ys->af R (L.filter g) ys
 | [],ys,h=>by cases h;exact .nil
 | n :: ns,ys,h=>by
  have un :∀{is:List Nat} {ys:List V},af (λ (i:Nat) y=>∃r,(n :: ns)[i]? = some r/\R r y) (is.map Nat.succ) ys->af (λ (i:Nat) y=>∃r,ns[i]? = some r/\R r y) is ys:=λ {is}=>by
   induction is with
   | nil=>intro ys h;cases h;exact .nil
   | cons i is ih=>intro ys h;cases h with|cons a r=>exact .cons a (ih r)
  rw [W0,j95,Y5,j2g] at h;rw [Y5];by_cases z:g n=true
  ·rw [ZZ (show (j3g g (n :: ns)[0]?).getD false=true from z)] at h;rw [ZZ z];cases h with
   | cons a r=>obtain ⟨c,e,b⟩:=a;cases e;exact .cons b (oU ns _ (un r))
  ·rw [Z_ (show ¬ (j3g g (n :: ns)[0]?).getD false=true from z)] at h;rw [Z_ z];exact oU ns _ (un h)
structure gH (r:ie):Prop where
 nm :∀z,r.n=some z->aF z
 kd:r.k = "after"\/r.k = "seen"\/r.k = "missed"\/r.k = "time"
 nt:r.n=none↔r.k = "time"
def nW.ok (G:Gd ds rows) (h:nW ds rows r):gH r:=by obtain ⟨n,x,y,i,a,_,rfl⟩:=h;obtain ⟨c,b,_⟩:=kS.mp a;exact ⟨λ z e=>by cases e;exact (G.row _ b).1,.inl rfl,⟨(λ e=>nomatch e),λ e=>ZU (show ("after" : ZR) = "time" from e) (by decide +kernel)⟩⟩
def IX (h:c∈gX ds) :∃d∈ds,d.n=c.1:=by
 have go :∀(ds:List Dd) (a:List ZR×List (ZR×Int)),c∈(ds.foldl (λ (a:List ZR×List (ZR×Int)) d=>if d.w=true then (a.1++[d.n],a.2) else if d.n∈a.1 then a else (a.1,a.2++[(d.n,d.x)])) a).2->c∈a.2\/∃d∈ds,d.n=c.1:=λ ds=>by
  induction ds with
  | nil=>exact λ _ h=>.inl h
  | cons d ds ih=>
   intro a h;rw [U3] at h;rcases ih _ h with h|⟨e,he,h⟩
   ·split at h
    ·exact .inl h
    ·split at h
     ·exact .inl h
     ·rcases List.mem_append.mp h with h|h
      ·exact .inl h
      ·exact .inr ⟨d,Y0,by rw [List.mem_singleton.mp h]⟩
   ·exact .inr ⟨e,Z0 _ he,h⟩
 rcases go ds ([],[]) h with h|h
 ·cases h
 ·exact h
def ju.ok (G:Gd ds rows) (h:ju ds rows ds.length r):gH r:=by
 obtain ⟨k,d,c,_,i,g,b⟩:=h;obtain ⟨e,f,j⟩:=IX g;have a:aF c.1:=j ▸ ((G.ok d (K0 i)).ds e f).n;rcases b with rfl|rfl
 ·exact ⟨λ z e=>by cases e;exact a,.inr (.inl rfl),⟨(λ e=>nomatch e),λ e=>ZU (show ("seen" : ZR) = "time" from e) (by decide +kernel)⟩⟩
 ·exact ⟨λ z e=>by cases e;exact a,.inr (.inr (.inl rfl)),⟨(λ e=>nomatch e),λ e=>ZU (show ("missed" : ZR) = "time" from e) (by decide +kernel)⟩⟩
def pF.ok (h:pF ds r):gH r:=by obtain ⟨i,j,d,e,_,_,_,rfl⟩:=h;exact ⟨(λ z e=>nomatch e),.inr (.inr (.inr rfl)),⟨λ _=>rfl,λ _=>rfl⟩⟩
def gH.key (h:gH r):cU (bR (lV r))=true:=by
 show (true && (true && ((w5 r.k).canLay0 && (cU (nD r.n) && true))))=true;have b:(w5 r.k).canLay0=true:=by rcases h.kd with e|e|e|e<;>rw [e]<;>decide +kernel
 have a:cU (nD r.n)=true:=by
  cases hn:r.n with
  | none=>rfl
  | some z=>exact vq (h.nm z hn)
 rw [b,a];rfl
def gH.cm (h:gH r) (k:gH q):kK (lV r) (lV q):=λ e=>by
 have e:r.k=q.k:=e;show r.n.isSome=q.n.isSome;cases hr:r.n with
 | none=>have:=k.nt.mpr (e ▸ h.nt.mp hr);rw [this]
 | some z=>
  cases hq:q.n with
  | none=>have:=h.nt.mpr (e.symm ▸ k.nt.mp hq);rw [hr] at this;cases this
  | some _=>rfl
def cE.pd {K:B0} {H:Hp} {r:ie} {y:V} (g:jc r=true) (h:cE H r y):bY K H (bR (lV r)) y:=by
 obtain ⟨p,rfl,e⟩:=h;obtain ⟨a,b,k,n⟩:=r;cases a with
 | none=>cases g
 | some i=>
  cases b with
  | none=>cases g
  | some j=>refine ⟨p,_,rfl,aG.of e,_,_,rfl,rfl,_,_,rfl,rfl,_,_,rfl,rfl,_,_,rfl,?_,rfl⟩;cases n<;>rfl
theorem BB {α β γ:Type} {R:α->β->Prop} {S:β->γ->Prop} {f:α->γ} :∀{xs:List α} {ys:List β},(∀x y,x∈xs->R x y->S y (f x))->af R xs ys->af S ys (xs.map f)
 | _,_,_,.nil=>.nil
 | _,_,h,.cons a r=>.cons (h _ _ (.head _) a) (BB (λ x y b=>h x y (.tail _ b)) r)
theorem gq {α:Type} [DecidableEq α] :∀{l m:List α},l.Nodup->(∀x∈l,x∈m)->l.length<=m.length
 | [],_,_,_=>K2 _
 | a :: l,m,nd,h=>by
  rw [L3] at nd;have d:=gq (m:=m.erase a) nd.2 λ x c=>(List.mem_erase_of_ne λ e=>nd.1 (by rw [<-e];exact c)).mpr (h x (Z0 _ c));have b:=h a Y0;rw [j8e b] at d;have:=List.length_pos_of_mem b;rw [W0]
  lia
def uC (K:B0):Sp:=λ vs H Q _=>E7 λ a v us ds rows kvs t=>A7 (vs=[.ref a,.ref v,.bl t]) (H a=some (.lst us)) (af (bJ H) ds us) (eA H v rows kvs) (Gd ds rows) (UW ds) (∀l H' ys rs,Same H H'->H l=none->H' l=some (.lst ys)->af (λ y r=>bY K H' (bR r) y) ys rs->rs.Nodup->rs.length<=288->(∀r,r∈rs↔jx ds rows t r)->Q (.ref l) H')
theorem J_ (T:TX (kx w) mg) (c0:Ca P w mg base "check_dealings" ["dealings","versions"] 6 zz) (c1:Ca P w mg base "reasons_of_versions" ["dealings","versions"] 3 Aj) (c2:Ca P w mg base "reasons_of_reads" ["dealings","versions"] 3 CW) (c3:Ca P w mg base "reasons_of_time" ["dealings"] 1 yl):Fo P w mg base CX0 7 145 wm ["dealings","versions","timed"] (uC (kx w)):=by
 refine (tX w.params).ok fW (λ vs H Q E h=>?_) (λ b6 A b8 s H vs Q E f h=>?_)
 ·obtain ⟨a,v,F,u,W,a1,t,rfl,_⟩:=h;rfl
 ·obtain ⟨a,v,F,u,W,a1,t,rfl,ea,al,V0,G,U,q⟩:=h;refine ⟨_,(aR (gv (aj c0 (f.mono (by decide)) rfl (ah (pv 0) (ah (pv 1) aa))))
   (aR (ar (i:=3) fW.nd rfl (O1 rfl) (aA bM (aj c1 (f.mono (by decide)) rfl (ah (pv 0) (ah (pv 1) aa))) (aj c2 (f.mono (by decide)) rfl (ah (pv 0) (ah (pv 1) aa)))))
   (aR (aQ (bz (pv 2) (λ _=>rfl))
   (aV (gv (uz (pv 3) (ah (aj c3 (f.mono (by decide)) rfl (ah (pv 0) aa)) aa))))
   dI)
   (aV (au (HL f rfl rfl (T.no (oP _)) rfl (T.no (ma _)) j05 boot_set (cH (xs:=["reason"]) (g:=aI 0) (fr:=[]) (fZ (pv 3)) (λ _ _ _ _ _=>(aU (N:=["reason"]) 0)) (λ _ _ _ _ _=>(dy (PW.pt (eP (dj iY (ao (iQ (K:=KX w.params) rfl) (pv 0) ab (λ _ _=>rfl)) (ao (iQ (K:=KX w.params) rfl) (pv 0) ab (λ _ _=>rfl)) (aC _)) (nA (dj (wA (K:=KX w.params) rfl) eF (jq (jJ (K:=KX w.params) rfl) (pv 0) jA (iT ab)) (by with_unfolding_all rfl))))))) (λ _ _ _ _ _=>(pv 0))))))))),?_⟩
  refine ⟨_,rfl,_,rfl,a,v,F,u,W,a1,rfl,ea,al,V0,G,λ H1 I=>?_⟩;refine cB (cy ?_);have b0:af (bJ H1) u F:=bp (λ _ _ z=>z.same I) al;refine ⟨_,rfl,_,rfl,a,v,F,u,W,a1,rfl,I _ _ ea,b0,V0.same I,G,U,λ l1 H2 M L1 Y n2 e2 a2 h2 m2=>?_⟩;have b4:af (bJ H2) u F:=bp (λ _ _ z=>z.same Y) b0;refine ⟨_,rfl,_,rfl,a,v,F,u,W,a1,rfl,Y _ _ (I _ _ ea),b4,(V0.same I).same Y,G,U,λ l2 H3 J L2 s3 n3 e3 a3 h3 m3=>?_⟩;have b9:=cz a2;have c4:=cz a3;refine .inr (.inr (.inl ⟨l1,l2,_,_,rfl,rfl,s3 _ _ e2,e3,M0 (m:=144) (by lia) (by decide),λ p hp=>ai ?_⟩));have jp:=Same.upd (o:=.lst (M++J)) hp;have a4:af (cE (upd H3 p (.lst (M++J)))) (L1++L2) (M++J):=bp (λ _ _ z=>z.same jp) (k7 (bp (λ _ _ z=>z.same s3) a2) a3);have Z:=((I.trans Y).trans s3).trans jp;have b3:H p=none:=by
   cases e:H p with
   | none=>rfl
   | some o=>rw [((I.trans Y).trans s3) _ _ e] at hp;cases hp
  have e4:upd H3 p (.lst (M++J)) p=some (.lst (M++J)):=aB;generalize upd H3 p (.lst (M++J))=H4 at jp a4 Z e4⊢;generalize hB:nP _=B;have a8 :∀(zs:List V) (L:List ie) (D:Hp),Same H D->D p=some (.lst zs)->af (cE D) L zs->L.length<=60->(∀r,r∈L↔(nW u W r\/ju u W u.length r\/(t=true/\pF u r)))->B { nx:=λ x C=>Q V.non C,rt:=Q } [some (V.ref a),some (V.ref v),some (V.bl t),some (V.ref p)] D:=by
   intro zs L D S e5 a5 h5 m5;subst hB;have l5:=cz a5;refine cc ?_;refine nZ (K:=KX w.params) (a:=p) (xs:=zs) (H1:=D) (λ i=>(L[i]?.map jc).getD false) (λ i y C=>∃r,L[i]? = some r/\cE C r y) (λ i y H C s z=>by obtain ⟨r,z1,z2⟩:=z;exact ⟨r,z1,z2.same s⟩) (λ R h=>⟨_,rfl,h⟩) (av.of e5) (M0 (m:=288) (by lia) (by decide)) ?_ ?_
   ·intro i hi y H6 s6 hy KT KF k1 k2;obtain ⟨r,f,X,rfl,ep⟩:=dQ a5 hy;have a0:=s6 _ _ ep;rw [f] at k1 k2;have k1:jc r=true->∀C,Same H6 C->KT (.ref X) C:=λ e C s=>k1 e _ _ s ⟨r,rfl,X,rfl,s _ _ a0⟩;have k2:jc r=false->∀C,Same H6 C->KF C:=k2;refine ⟨[some (.ref X)],rfl,rfl,?_⟩;refine ⟨_,rfl,.inr (.inl ⟨X,_,0,oV r.a,rfl,rfl,aG.of a0,bU (j:=0) rfl,?_⟩)⟩;refine ⟨_,rfl,.inr (.inl ⟨X,_,1,oV r.b,rfl,rfl,aG.of a0,bU (j:=1) rfl,?_⟩)⟩;refine ⟨by cases r.a<;>cases r.b<;>rfl,_,rfl,?_⟩;refine dw (λ z=>?_) λ z=>?_
    ·refine ⟨_,rfl,_,rfl,.inr (.inl ⟨X,_,rfl,aG.of a0,?_,λ p7 h7=>⟨p7,_,rfl,.inr (aG.of aB),rfl,?_,_,rfl,?_⟩⟩)⟩
     ·show ¬ (_/\(2:Nat)=4);exact λ h=>ZU h.2 (by decide)
     ·show ([oV r.a,oV r.b]:List V).all dM=true;cases r.a<;>cases r.b<;>rfl
     have j7:=Same.upd (o:=.tup (cj [oV r.a,oV r.b,.str r.k,nV r.n] none (some 2))) h7;have eq:jc r = !js .non [oV r.a,oV r.b]:=by
      obtain ⟨a',b',k',n'⟩:=r;cases a' with
      | none=>rfl
      | some i'=>
       cases b' with
       | none=>rfl
       | some j'=>show (!decide (i'=j'))=true;rw [Bool.not_eq_true',decide_eq_false_iff_not];intro e;subst e;have z:(!decide ((V.int (i':Nat))=.int (i':Nat)))=true:=z;rw [show (!decide ((V.int (i':Nat))=.int (i':Nat)))=false by rw [ZY rfl];rfl] at z;cases z
     exact dw (λ y=>⟨_,rfl,k1 (eq.trans y) _ j7⟩) λ y=>k2 (eq.trans (Bool.eq_false_iff.mpr y)) _ j7
    ·refine k2 ?_ _ (Same.refl _);have z:decide (oV r.a=oV r.b)=true:=by
      cases h:decide (oV r.a=oV r.b) with
      | true=>rfl
      | false=>rw [h] at z;exact ZU rfl z
     have z:=ZW z;obtain ⟨a',b',k',n'⟩:=r;cases a' with
     | none=>rfl
     | some i'=>
      cases b' with
      | none=>rfl
      | some j'=>
       have z:V.int (i':Nat)=.int (j':Nat):=z;injection z with z;have z:i'=j':=by lia
       show (!decide (i'=j'))=false;rw [ZY z];rfl
   intro l6 H6 ys s6 n6 a7;have a7:af (cE H6) (L.filter jc) ys:=oU _ _ (by rw [<-l5];exact a7);have a6 :∀r∈L,gH r:=λ r f=>by
    rcases (m5 r).mp f with h|h|h
    ·exact h.ok G
    ·exact h.ok G
    ·exact h.2.ok
   have j6:=Same.upd (o:=.lst ys) n6;have pd:af (λ y r=>bY (kx w) (upd H6 l6 (.lst ys)) (bR r) y) ys ((L.filter jc).map lV):=BB (λ r y f h=>bY.same (cE.pd (List.mem_filter.mp f).2 h) j6) a7;refine ⟨l6,ys,(L.filter jc).map lV,rfl,av.of aB,pd,?_,?_,?_,λ l7 b1 a9 n7 b5 pw me=>?_⟩
   ·intro r f;obtain ⟨O,h0,rfl⟩:=List.mem_map.mp f;exact (a6 O (List.mem_filter.mp h0).1).key
   ·intro x hx y hy;obtain ⟨x0,h0,rfl⟩:=List.mem_map.mp hx;obtain ⟨y0,h1,rfl⟩:=List.mem_map.mp hy;exact (a6 x0 (List.mem_filter.mp h0).1).cm (a6 y0 (List.mem_filter.mp h1).1)
   ·rw [q0];have:=u5 jc L
    lia
   have j7:=Same.upd (o:=.lst b1) n7;have s7:=(S.trans s6).trans (j6.trans j7);refine q l7 _ b1 a9 s7 ?_ aB (bp (λ _ _ z=>bY.same z j7) b5) pw ?_ λ r=>?_
   ·cases e:H l7 with
    | none=>rfl
    | some o=>rw [((S.trans s6).trans j6) _ _ e] at n7;cases n7
   ·have:=gq (l:=a9) pw λ r f=>(me r).mp f;rw [q0] at this;have:=u5 jc L
    lia
   rw [me r,j51];constructor
   ·rintro ⟨O,h0,rfl⟩;obtain ⟨h1,h2⟩:=List.mem_filter.mp h0;exact ⟨O,(m5 O).mp h1,h2,rfl⟩
   ·rintro ⟨O,h1,h2,rfl⟩;exact ⟨O,List.mem_filter.mpr ⟨(m5 O).mpr h1,h2⟩,rfl⟩
  refine ⟨_,rfl,t,rfl,?_⟩;refine dw (λ ht=>?_) λ ht=>?_
  ·subst ht;have b2:af (bJ H4) u F:=bp (λ _ _ z=>z.same Z) al;refine ⟨_,rfl,.inl ⟨rfl,_,av.of e4⟩,_,rfl,a,F,u,rfl,Z _ _ ea,b2,G.l4,(λ d hd=>(G.ok d hd).lt),λ l5 D y5 L5 S n5 e5 a5 h5 m5=>?_⟩;have b7:=cz a5;refine ⟨p,l5,_,_,rfl,rfl,S _ _ e4,e5,M0 (m:=288) (by rw [F0];lia) (by decide),?_⟩;have up :∀c' o,c'≠p->D c'=some o->upd D p (.lst (M++J++y5)) c'=some o:=λ c' o n e=>by rw [ae n];exact e
   refine a8 _ (L1++L2++L5) _ (λ b o e=>up _ _ (bZ e b3) (S _ _ (Z _ _ e))) aB (bp (λ r y z=>by obtain ⟨c,e1,e2⟩:=z;exact ⟨c,e1,up _ _ (aK e2 (S _ _ e4) λ z=>nomatch z) e2⟩) (k7 (bp (λ _ _ z=>z.same S) a4) a5)) (by rw [F0,F0];lia) λ r=>?_;rw [O4,O4,m2 r,m3 r,m5 r,or_assoc];exact ⟨λ h=>h.imp id λ h=>h.imp id λ h=>⟨rfl,h⟩,λ h=>h.imp id λ h=>h.imp id λ h=>h.2⟩
  ·refine a8 _ (L1++L2) _ Z e4 a4 (by rw [F0];lia) λ r=>?_;rw [O4,m2 r,m3 r];exact ⟨λ h=>h.imp id .inl,λ h=>h.imp id λ h=>h.elim id λ h=>ZU h.1 ht⟩
end
theorem AC:∀{cs:List Nat},Txt.join ("" : ZR) (cs.map λ c=>(⟨#[c]⟩:ZR))=⟨cs.toArray⟩
 | []=>rfl
 | c :: cs=>by
  have a:=AC (cs:=cs);show Builtin.Str.glued ("" : ZR) _=_;rw [j89];have a:Str.join ("" : ZR) (cs.map λ c=>(⟨#[c]⟩:ZR))=⟨cs.toArray⟩:=by rw [<-j89];exact a
  rw [O0,show ("" : ZR)=⟨#[]⟩ from rfl] at *;rw [join_nil_cons,a];show (⟨_⟩:ZR)=⟨_⟩;congr 1;simp
def Fk:∀k:Fin 26,jE ("abcdefghijklmnopqrstuvwxyz" : ZR).cps.toList (k.val:Int)=some (97 + k.val):=by decide +kernel
theorem vm {i:Int} (h0:0<=i) (h1:i < 26):jE ("abcdefghijklmnopqrstuvwxyz" : ZR).cps.toList i=some (97 + i.toNat):=by have:=Fk ⟨i.toNat,by lia⟩;rw [show ((⟨i.toNat,by lia⟩:Fin 26).val:Int)=i from Int.toNat_of_nonneg h0] at this;exact this
theorem zQ:∀{is:List Nat} {ys:List V},af (λ (_:Nat) y=>∃c:Nat,97<=c/\c<=122/\y=V.str ⟨#[c]⟩) is ys->∃cs:List Nat,ys=(cs.map λ c=>(⟨#[c]⟩:ZR)).map V.str/\cs.length=is.length/\∀c∈cs,97<=c/\c<=122
 | _,_,.nil=>⟨[],rfl,rfl,λ _ h=>ZU h P0⟩
 | _,_,.cons ⟨c,h1,h2,e⟩ r=>by
  obtain ⟨cs,b,l,h⟩:=zQ r;refine ⟨c :: cs,by rw [e,b];rfl,by rw [W0,W0,l],λ d a=>?_⟩;rcases List.mem_cons.mp a with rfl|a
  ·exact ⟨h1,h2⟩
  ·exact h d a
theorem xX:∀cs:List Nat,((cs.map λ c=>(⟨#[c]⟩:ZR)).map (·.length)).sum=cs.length
 | []=>rfl
 | c :: cs=>by
  rw [O0,O0,List.sum_cons,xX cs,W0];show 1 + cs.length=_
  lia
section
variable {P:ZK} {w:U1} {mg:ZR->Option ZH} {base:ZN}
def p9:oD 10 9:=⟨by decide,by decide,by decide⟩
def oO:(10:Int) ^ (18:Int).toNat=1000000000000000000:=by decide
def mY:oD 10 18:=⟨by decide,by decide,by decide⟩
def aZ (H:Hp) (r:ZS):Prop:=∃a b:Int,H r=some (.lst [.int a,.int b])/\0<=a/\(b=0\/(b=1/\a < 998244353))
structure Jw (r:ZS) (H H':Hp):Prop where
 k:Kept r H H'
 r:aZ H' r
def Jw.trans {r:ZS} {H H1 H2:Hp} (a:Jw r H H1) (b:Jw r H1 H2):Jw r H H2:=⟨a.k.trans b.k,b.r⟩
def aZ.same (h:aZ H r) (s:Same H H'):aZ H' r:=by obtain ⟨a,b,e,h⟩:=h;exact ⟨a,b,s _ _ e,h⟩
def Jw.same {r:ZS} {H H1 H2:Hp} (a:Jw r H H1) (s:Same H1 H2):Jw r H H2:=⟨a.k.trans s.kept,a.r.same s⟩
def aZ.jw (h:aZ H r):Jw r H H:=⟨.refl,h⟩
def aZ.fresh (h:aZ H r) (e:H p=none):p≠r:=λ z=>by obtain ⟨a,b,c,_⟩:=h;rw [<-z,e] at c;cases c
def xZ:Sp:=λ vs H Q _=>∃c:Int,vs=[.int c]/\∀p (a b:Int),H p=none->aZ (upd H p (.lst [.int a,.int b])) p->Q (.ref p) (upd H p (.lst [.int a,.int b]))
theorem IF (T:TX (kx w) mg):Fo P w mg base CX0 1 233 uA ["cell"] xZ:=by
 refine (vx w.params).ok dX (λ b H Q E h=>?_) (λ d A g s H b Q E k h=>?_)
 ·obtain ⟨c,rfl,_⟩:=h;rfl
 ·obtain ⟨c,rfl,q⟩:=h;refine ⟨_,(aR (aQ (dj rQ (pv 0) (aA eH ab ab) (aC _))
   (aV (au (aO (ah (aA eG (pv 0) (aA eH ab ab)) (ah ab aa)))))
   dI)
   (aR (ar (i:=1) dX.nd rfl (O1 rfl) (aA eK (pv 0) ab))
   (aR (ar (i:=1) dX.nd rfl (O1 rfl) (aA eK (aA dG (pv 1) (pv 1)) ab))
   (aV (au (aO (ah (aA eK (aA dG (pv 1) (aA bM (pv 1) ab)) ab) (ah ab aa)))))))),?_⟩
  refine cC ?_;refine ⟨_,rfl,_,_,rfl,rfl,mY,_,_,rfl,rfl,_,rfl,?_⟩;rw [oO];by_cases z:1000000000000000000<=c
  ·refine cb (ZY z) ?_;refine ⟨_,rfl,_,_,rfl,rfl,mY,_,_,rfl,rfl,gp,λ p a=>?_⟩;rw [oO];exact q p _ _ a ⟨_,_,aB,by lia,.inl rfl⟩
  ·refine bc (λ e=>z (ZW e)) ?_;refine cB (cy ?_);have f:0<=c % 998244353:=Z6 _ (by decide);have j:c % 998244353 < 998244353:=c6 _ (by decide);refine ⟨_,rfl,_,_,rfl,rfl,(show (0:Int) < 998244353 by decide),?_⟩;refine ai ?_;refine cy ?_;refine ⟨_,rfl,_,rfl,_,_,rfl,rfl,.inl ⟨by lia,by lia⟩,_,_,rfl,rfl,(show (0:Int) < 998244353 by decide),?_⟩;have m:0<=(c % 998244353 * (c % 998244353)) % 998244353:=Z6 _ (by decide);have l:(c % 998244353 * (c % 998244353)) % 998244353 < 998244353:=c6 _ (by decide);refine ai ?_;refine ⟨_,rfl,_,rfl,.inl ⟨_,_,rfl,rfl,_,_,rfl,rfl,.inl ⟨by lia,by lia⟩,_,_,rfl,rfl,(show (0:Int) < 998244353 by decide),gp,λ p a=>?_⟩⟩;exact q p _ _ a ⟨_,_,aB,Z6 _ (by decide),.inr ⟨rfl,c6 _ (by decide)⟩⟩
def mG:Sp:=λ vs H Q _=>E2 λ (r:ZS) (m:Int)=>A5 (vs=[.ref r,.int m]) (aZ H r) (0 < m) (m < 2 ^ 64) (∀t H',Jw r H H'->0<=t->t < m->Q (.int t) H')
theorem FY (T:TX (kx w) mg):Fo P w mg base CX0 1 240 wJ ["jar","many"] mG:=by
 refine (xN w.params).ok fc (λ f H Q E h=>?_) (λ n A o s H f Q E p h=>?_)
 ·obtain ⟨r,m,rfl,_⟩:=h;rfl
 ·obtain ⟨r,m,rfl,⟨a,b,e,j,d⟩,c,l,q⟩:=h;refine ⟨_,(aR (aQ (dj du (ao ak (pv 0) ab (λ _ _=>rfl)) ab (aC _))
   (aR (ar (i:=2) fc.nd rfl (O1 rfl) (aA eK (ao ak (pv 0) ab (λ _ _=>rfl)) (pv 1)))
   (aR (fH (aA AZ (ao ak (pv 0) ab (λ _ _=>rfl)) (pv 1)) (gC (pv 0) ab tO))
   (aV (au (pv 2)))))
   dI)
   (aR (fH (aA eK (aA dG (aA bM (ao ak (pv 0) ab (λ _ _=>rfl)) ab) (aA bM (ao ak (pv 0) ab (λ _ _=>rfl)) ab)) ab) (gC (pv 0) ab tO))
   (aV (au (aA eK (aA AZ (aA dG (ao ak (pv 0) ab (λ _ _=>rfl)) (aA eH ab ab)) ab) (pv 1)))))),?_⟩
  refine cC ?_;refine ⟨_,rfl,.inl ⟨r,_,1,.int b,rfl,rfl,av.of e,rfl,rfl,_,rfl,?_⟩⟩;rcases d with rfl|⟨rfl,a1⟩
  ·refine cb (by decide) ?_;refine cy ?_;refine ⟨_,rfl,.inl ⟨r,_,0,.int a,rfl,rfl,av.of e,rfl,_,rfl,_,_,rfl,rfl,c,?_⟩⟩;refine ai ?_;refine ⟨_,rfl,.inl ⟨r,_,0,.int a,rfl,rfl,av.of e,rfl,_,rfl,_,_,rfl,rfl,⟨c,l⟩,?_⟩⟩;refine ⟨_,rfl,r,_,0,0,rfl,rfl,e,rfl,?_⟩;exact ⟨_,rfl,q _ _ ⟨.set,_,_,aB,Int.ediv_nonneg j (by lia),.inl rfl⟩ (Z6 _ (by lia)) (c6 _ c)⟩
  ·refine bc (by decide) ?_;have g:0<=((a + 73939133) * (a + 1046527)) % 998244353:=Z6 _ (by decide);have k:((a + 73939133) * (a + 1046527)) % 998244353 < 998244353:=c6 _ (by decide);refine cB ?_;refine ⟨_,rfl,.inl ⟨r,_,0,.int a,rfl,rfl,av.of e,rfl,.inl ⟨_,_,rfl,rfl,?_⟩⟩⟩;refine ⟨_,rfl,.inl ⟨r,_,0,.int a,rfl,rfl,av.of e,rfl,.inl ⟨_,_,rfl,rfl,?_⟩⟩⟩;refine ⟨_,_,rfl,rfl,.inl ⟨by lia,by lia⟩,_,_,rfl,rfl,(show (0:Int) < 998244353 by decide),?_⟩;refine ⟨_,rfl,r,_,0,0,rfl,rfl,e,rfl,?_⟩;refine ⟨_,rfl,.inl ⟨r,_,0,.int _,rfl,rfl,av.of aB,rfl,?_⟩⟩;refine ⟨_,_,rfl,rfl,⟨by decide,by decide,by decide⟩,_,_,rfl,rfl,.inl ⟨by lia,by lia⟩,_,_,rfl,rfl,⟨by decide,by decide⟩,_,rfl,_,_,rfl,rfl,c,?_⟩;exact q _ _ ⟨.set,_,_,aB,g,.inr ⟨rfl,k⟩⟩ (Z6 _ (by lia)) (c6 _ c)
def Kept.keep (k:Kept r H H') (h:H d=none):Kept r H (upd H' d o):=λ b u n e=>by rw [ae (λ z=>by rw [z,h] at e;cases e)];exact k b u n e
def aZ.keep (R:aZ H r) (n:d≠r):aZ (upd H d o) r:=by obtain ⟨a,b,e,z⟩:=R;exact ⟨a,b,by rw [ae (W5 n)];exact e,z⟩
def Jw.keep {r d:ZS} {H H':Hp} {o:HO} (k:Jw r H H') (h:H d=none) (n:d≠r):Jw r H (upd H' d o):=⟨Kept.keep k.k h,k.r.keep n⟩
def Jw.free {r d:ZS} {H H':Hp} (k:Jw r H H') (h:H' d=none):H d=none:=by
 cases e:H d with
 | none=>rfl
 | some o=>have:=k.k d o (k.r.fresh h) e;rw [h] at this;cases this
def dY (H H':Hp):Prop:=∀p xs,H p=some (.tup xs)->H' p=some (.tup xs)
def dY.trans (a:dY H H1) (b:dY H1 H2):dY H H2:=λ p c z=>b p c (a p c z)
def dY.of (s:Same H H'):dY H H':=λ p a z=>s p _ z
def Jw.tupk {r:ZS} {H H':Hp} (k:Jw r H H') (R:aZ H r):dY H H':=λ p d e=>k.k p _ (λ z=>by obtain ⟨a,b,c,_⟩:=R;rw [z,c] at e;cases e) e
def dY.lst {H:Hp} {l:ZS} {ys zs:List V} (h:H l=some (.lst ys)):dY H (upd H l (.lst zs)):=λ p a e=>by rw [ae (λ z=>by rw [z,h] at e;cases e)];exact e
theorem Be {α:Type} :∀{xs:List α} {k:Nat} {y:α},xs[k]? = some y->(y :: xs.eraseIdx k).Perm xs
 | x :: xs,0,y,h=>by have:x=y:=G1 h;subst this;exact .refl _
 | x :: xs,k + 1,y,h=>by have a:=Be (xs:=xs) (k:=k) (y:=y) (by simpa using h);exact (R9 x y (xs.eraseIdx k)).trans (a.cons x)
def EB {S:Hp->Hp->Prop} {ta:TA} {te:TE} {tc:TT} {g:TG} {m:Nat} {fr:List (Nat×ZR)} {σ:L2.St} {H:Hp} {Q:VK} (Pr:Nat->Hp->Prop) (hta :∀T:List V->Hp->Prop,(∀n H1,Pr n H1->T [.int (n:Nat)] H1)->ta σ H T) (p:Nat->Bool) (R:Nat->V->Hp->Prop)
  (st :∀a b c,S a b->S b c->S a c) (hs :∀n H1,Pr n H1->n<=ZG/\S H1 H1) (hs' :∀H1 H,S H1 H->S H H) (hR :∀i y H H',S H H'->R i y H->R i y H')
  (body :∀n H1,Pr n H1->∀i,i < n->∀H,S H1 H->∀(KT:VK) (KF:Hp->Prop),(p i=true->∀y H',S H H'->R i y H'->KT y H')->(p i=false->∀H',S H H'->KF H')->
   g (.int (i:Nat)) (aE σ fr (A1 m none)) H λ σ6 H6=>∃us,us.length=m/\σ6=aE σ fr us/\tc (aE σ fr us) H6 λ b H2=>if b=true then te (aE σ fr us) H2 KT else KF H2)
  (hQ :∀n H1 l H' ys,Pr n H1->S H1 H'->H' l=none->af (λ i y=>R i y H') ((N0 n).filter p) ys->Q (.ref l) (upd H' l (.lst ys))):cu (j_ ta) m fr g tc te σ H Q:=
 hta _ λ n H1 h=>pV (H:=H) (ta:=λ _ _ T=>T [.int (n:Nat)] H1) p R (hs n H1 h).2 st (λ H=>hs' H1 H) hR (λ _ h=>h) (hs n H1 h).1 (body n H1 h) λ l H' ys=>hQ n H1 l H' ys h
theorem Lk {s:ZR} {c:Nat} (hs:aF s) (h7:s.length<=7) (hc:97<=c/\c<=122):aF ((⟨#[c]⟩:ZR)++j94 s (some 1) none):=by
 have f:s.cps.toList.length=s.length:=rfl;have g:=hs.l1;rw [slice_from_eq (x:=s) (i:=1) (b:=s.length) (by lia) (by lia) rfl];have e:(((⟨#[c]⟩:ZR)++⟨((s.cps.toList.drop (1:Int).toNat).take ((s.length:Int) - 1).toNat).toArray⟩:ZR)).cps.toList=c :: ((s.cps.toList.drop 1).take ((s.length:Int) - 1).toNat):=by show (#[c]++((s.cps.toList.drop 1).take _).toArray).toList=_;simp
 refine ⟨?_,?_,λ d a=>?_⟩
 ·show 1<=(((⟨#[c]⟩:ZR)++_:ZR)).cps.toList.length;rw [e,W0]
  lia
 ·show (((⟨#[c]⟩:ZR)++_:ZR)).cps.toList.length<=8;rw [e,W0,Y1,P3,f]
  lia
 ·rw [e] at a;rcases List.mem_cons.mp a with rfl|a
  ·exact hc
  ·exact hs.s d (Z7 (J5 a))
theorem Ja {z:ZR} {c:Nat} (h:aF z) (h7:z.length<=7) (hc:97<=c/\c<=122):aF (z++(⟨#[c]⟩:ZR)):=by
 have e:(z++(⟨#[c]⟩:ZR)).length=z.length + 1:=by rw [j6a];rfl
 refine ⟨by lia,by lia,λ d a=>?_⟩;have a:d∈(z.cps++#[c]).toList:=a;rw [Array.toList_append] at a;rcases List.mem_append.mp a with a|a
 ·exact h.s d a
 ·have:d=c:=by simpa using a
  exact this ▸ hc
def ym:Sp:=λ vs H Q _=>∃r,A3 (vs=[.ref r]) (aZ H r) (∀l z1 z2 z3 H',Jw r H H'->H l=none->H' l=some (.lst [.str z1,.str z2,.str z3])->aF z1->aF z2->aF z3->Q (.ref l) H')
theorem HK (T:TX (kx w) mg) (c2:Ca P w mg base "_law_take" ["jar","many"] 1 mG):Fo P w mg base CX0 2 245 wu ["jar"] ym:=by
 refine (wR w.params).ok cM (λ vs H Q E h=>?_) (λ a4 A a5 s H vs Q E u h=>?_)
 ·obtain ⟨r,rfl,_⟩:=h;rfl
 ·obtain ⟨r,rfl,R,q⟩:=h;refine ⟨_,(aR (ar (i:=1) cM.nd rfl (N1 rfl) bf)
   (aR (ar (i:=2) cM.nd rfl (O1 rfl) (JT bf (ah (wj (xs:=["k"]) (g:=aI 0) (fr:=[(1,"letters"),(0,"jar")]) rfl (kX rfl (T.no (i_ _)) (ah (aA bM ab (aj c2 (u.mono (by decide)) rfl (ah (pv 0) (ah ab aa)))) aa)) (by intro p d;simp only [X1,P0,or_false] at d;rcases d with rfl|rfl<;>first|exact ⟨rfl,.inl rfl⟩|exact ⟨rfl,.inr rfl⟩) (tM (ns:=["letters","jar"]) (by decide +kernel) (by intro n I k;simp only [X1,P0,or_false] at I;rcases I with rfl|rfl<;>first|exact .inl rfl|exact .inr rfl)) (by intro p d;simp only [X1,P0,or_false] at d;rcases d with rfl|rfl<;>exact ⟨by decide +kernel,by first|exact .inl rfl|exact .inr rfl⟩) (by decide +kernel) rfl (by decide +kernel) (λ _ _ _ _ _=>(aU (N:=["k","letters","jar"]) 0)) (λ _ _ _ _ _=>b_) (λ _ _ _ _ _=>(ao (iQ (K:=KX w.params) rfl) (pv 1) (aj c2 (u.mono (by decide)) rfl (ah (pv 2) (ah ab aa))) (λ _ _=>rfl)))) aa)))
   (aR (ar (i:=3) cM.nd rfl (O1 rfl) (HY (pv 1) (ah (ao ak (pv 2) ab (λ _ _=>rfl)) aa)))
   (aV (au (aO (ah (pv 2) (ah (aA bM (pv 2) (ao ak (pv 1) (aj c2 (u.mono (by decide)) rfl (ah (pv 0) (ah ab aa))) (λ _ _=>rfl))) (ah (aA bM (ao ak (pv 1) (aA eK (aA bM (aA bM (pv 3) ab) (aj c2 (u.mono (by decide)) rfl (ah (pv 0) (ah ab aa)))) ab) (λ _ _=>rfl)) (jq jN (pv 2) (iT ab) jA)) aa))))))))),?_⟩
  have B:("abcdefghijklmnopqrstuvwxyz" : ZR).length<=ZG:=by decide +kernel
  refine cy ?_;refine ai ?_;refine cy ?_;refine ⟨rfl,Gi ?_⟩;refine EB (S:=Jw r) (λ n x=>Jw r H x/\1<=n/\n<=7) (λ T h=>⟨_,rfl,r,7,rfl,R,by decide,by decide,λ M L k2 b0 b1=>.inl ⟨_,_,rfl,rfl,?_⟩⟩) (λ _=>true) (λ _ y _=>∃c:Nat,97<=c/\c<=122/\y=V.str ⟨#[c]⟩) (λ _ _ _ a b=>a.trans b) (λ n x h=>⟨M0 (m:=7) (by lia) (by decide),h.1.r.jw⟩) (λ _ _ z=>z.r.jw) (λ _ _ _ _ _ z=>z) ?_ ?_
  ·obtain ⟨f,a0⟩ :∃f:Nat,1 + M=f:=⟨(1 + M).toNat,by lia⟩
   rw [a0];exact h f L ⟨k2,by lia,by lia⟩
  ·intro n x d i hi Z D KT KF f1 _;refine ⟨[some (.int i)],rfl,rfl,dk ?_⟩;refine ⟨_,rfl,_,rfl,r,26,rfl,D.r,by decide,by decide,λ Y H4 l C F=>?_⟩;exact .inr (.inr ⟨_,Y,97 + Y.toNat,rfl,rfl,B,vm C F,f1 rfl _ _ l ⟨_,by lia,by lia,rfl⟩⟩)
  intro f L X Z ys d D a1 al;obtain ⟨e,rfl,J,hc⟩:=zQ al;rw [List.filter_eq_self.mpr (λ _ _=>rfl),Q1] at J;have l:=(d.1.trans D).same (Same.upd (o:=.lst ((e.map λ c=>(⟨#[c]⟩:ZR)).map V.str)) a1);refine ⟨"",X,_,rfl,rfl,aB,?_,?_⟩
  ·rw [show ("" : ZR).length=0 from rfl,Nat.mul_zero,xX]
   lia
  refine ai ?_;rw [AC];have t:aF ⟨e.toArray⟩:=⟨by show 1<=e.toArray.size;rw [Q0];lia,by show e.toArray.size<=8;rw [Q0];lia,λ c a3=>hc c (by simpa using a3)⟩
  have lst:(⟨e.toArray⟩:ZR).length=f:=by show e.toArray.size=f;rw [Q0];exact J
  generalize (⟨e.toArray⟩:ZR)=st at t lst⊢;generalize upd Z X (.lst ((e.map λ c=>(⟨#[c]⟩:ZR)).map V.str))=H4 at l⊢;refine cy ?_;have l0:0 < st.cps.toList.length:=by show 0 < st.length;lia
  refine ⟨_,rfl,rfl,_,rfl,.inr (.inr ⟨st,0,st.cps.toList[0],rfl,rfl,M0 (m:=8) (by lia) (by decide),bU (j:=0) (C0 l0),_,_,rfl,rfl,?_⟩)⟩;generalize Txt.find _ _=fd;refine ai ?_;refine cc ?_;refine ⟨_,rfl,_,rfl,_,rfl,_,rfl,r,26,rfl,l.r,by decide,by decide,λ W H5 U C F=>?_⟩;refine .inr (.inr ⟨_,W,97 + W.toNat,rfl,rfl,B,vm C F,?_⟩);have z3 :∀c:Nat,(⟨#[c]⟩:ZR).length=1:=λ _=>rfl;refine .inr (.inl ⟨_,_,rfl,rfl,M0 (m:=100) (by rw [z3];lia) (by decide),?_⟩);refine ⟨_,rfl,_,rfl,.inl ⟨_,_,rfl,rfl,_,rfl,r,25,rfl,U.r,by decide,by decide,λ v H6 k6 d0 d1=>.inl ⟨_,_,rfl,rfl,_,_,rfl,rfl,(show (0:Int) < 26 by decide),?_⟩⟩⟩;have ex:(fd + 1 + v) % 26 < 26:=c6 _ (by decide);have a2:0<=(fd + 1 + v) % 26:=Z6 _ (by decide);refine .inr (.inr ⟨_,_,97 + ((fd + 1 + v) % 26).toNat,rfl,rfl,B,vm a2 ex,?_⟩);have G:aF ((⟨#[97 + ((fd + 1 + v) % 26).toNat]⟩:ZR)++j94 st (some 1) none):=Lk t (by lia) ⟨by lia,by lia⟩;have fl:=G.l8;rw [j6a] at fl;refine ⟨_,rfl,_,rfl,st,rfl,M0 (m:=8) (by lia) (by decide),.inr (.inl ⟨_,_,rfl,rfl,M0 (m:=8) (by lia) (by decide),?_⟩)⟩;refine ⟨lO,λ p d=>?_⟩;have O:=((l.trans U).trans k6)
  exact q p _ _ _ _ (O.same (Same.upd d)) (O.free d) aB t (Ja t (by lia) ⟨by lia,by lia⟩) G
theorem CN {α β:Type} (f:α->β) :∀(xs:List α) (k:Nat),(xs.map f).eraseIdx k=(xs.eraseIdx k).map f
 | [],_=>rfl
 | _ :: _,0=>rfl
 | x :: xs,k + 1=>by show f x :: (xs.map f).eraseIdx k=f x :: _;rw [CN f xs k]
noncomputable def nI (n:Nat):V:=.int n
def CO (r l7 lt:ZS) (H:Hp) (n:Nat) (σ0:L2.St) (m:Nat) (σ:L2.St) (H':Hp):Prop:=σ=σ0/\∃(ls ts:List Nat),m=ls.length/\Jw r H H'/\H' l7=some (.lst (ls.map nI))/\H' lt=some (.lst (ts.map nI))/\(ls++ts).Perm (N0 n)
def yW:Sp:=λ vs H Q _=>E2 λ r n=>A4 (vs=[.ref r,.int (n:Nat)]) (aZ H r) (n<=12) (∀l (ts:List Nat) H',Jw r H H'->H l=none->H' l=some (.lst (ts.map nI))->ts.Perm (N0 n)->Q (.ref l) H')
theorem Fj (T:TX (kx w) mg) (c0:Ca P w mg base "_law_take" ["jar","many"] 1 mG):Fo P w mg base CX0 2 250 tT ["jar","many"] yW:=by
 refine (xF w.params).ok dv (λ vs H Q E h=>?_) (λ a8 A b0 s H vs Q E W h=>?_)
 ·obtain ⟨r,n,rfl,_⟩:=h;rfl
 ·obtain ⟨r,n,rfl,R,hn,q⟩:=h;refine ⟨_,(aR (pI (i:=2) dv.nd rfl (O1 rfl) (xs:=["k"]) (g:=aI 0) (fr:=[]) rfl (kX rfl (T.no (i_ _)) (ah (pv 1) aa)) (λ _ z=>ZU z P0) (EI rfl) (λ _ z=>ZU z P0) (by decide +kernel) rfl (by decide +kernel) (λ _ _ _ _ _=>(aU (N:=["k"]) 0)) (λ _ _ _ _ _=>b_) (λ _ _ _ _ _=>(pv 0)))
   (aR (ar (i:=3) dv.nd rfl (O1 rfl) (aO aa))
   (aR (uU Z1 (dj (vS W) (pv 2) (aO aa) (aC _))
   (aV (gv (jC (pv 3) (ah (Kq (pv 2) (ah (aj c0 (W.mono (by decide)) rfl (ah (pv 0) (ah (cX gG rfl (T.no (bW _)) C5 (ah (pv 2) aa)) aa))) aa)) aa)))))
   (aV (au (pv 3)))))),?_⟩
  refine cy ?_;refine pV (S:=Same) (n:=n) (H1:=H) (λ _=>true) (λ i y _=>y=nI i) (Same.refl _) (λ _ _ _ a b=>a.trans b) (λ _ _=>Same.refl _) (λ _ _ _ _ _ z=>z) (λ T h=>⟨_,rfl,h⟩) (M0 (m:=12) (by lia) (by decide)) ?_ ?_
  ·intro i hi H3 k3 KT KF f1 _;exact ⟨[some (.int i)],rfl,rfl,dk ⟨_,rfl,f1 rfl _ _ (Same.refl _) rfl⟩⟩
  intro d I ys B D a1;rw [List.filter_eq_self.mpr (λ _ _=>rfl)] at a1;have ey:ys=(N0 n).map nI:=pU (f:=nI) a1;subst ey;have t:=(R.jw.same B).same (Same.upd (o:=.lst ((N0 n).map nI)) D);have f7:H d=none:=(R.jw.same B).free D;have M:d≠r:=(R.same B).fresh D;have x:upd I d (.lst ((N0 n).map nI)) d=some (.lst ((N0 n).map nI)):=aB;generalize upd I d (.lst ((N0 n).map nI))=H8 at t x⊢;refine ai ?_;refine pR ?_;refine ⟨gj,λ lt p=>?_⟩;refine ai ?_;have F:=Same.upd (o:=.lst []) p;have Y:=t.same F;have O:=F _ _ x;have V:upd H8 lt (.lst []) lt=some (.lst []):=aB;have L:lt≠d:=λ z=>by rw [z,x] at p;cases p
  have J:lt≠r:=t.r.fresh p;have X:H lt=none:=t.free p;generalize upd H8 lt (.lst [])=H11 at F Y O V⊢;refine ⟨CO r d lt H n [some (.ref r),some (.int (n:Nat)),some (.ref d),some (.ref lt)],⟨_,rfl,N0 n,[],rfl,Y,O,V,by rw [E1]⟩,?_⟩;rintro m σ a5 ⟨rfl,nms,ts,rfl,k12,e,j,pm⟩;have U:=pm.length_eq;rw [F0,Q1] at U;refine ⟨_,rfl,gj,λ K a6=>?_⟩;have l:=Same.upd (o:=.lst []) a6;refine ⟨d,K,_,rfl,rfl,av.of (l _ _ e),av.of aB,_,rfl,?_⟩;have u:=k12.same l;have e:=l _ _ e;have j:=l _ _ j;generalize upd a5 K (.lst [])=H13 at l u e j⊢;cases nms with
  | nil=>refine bc (by decide) ?_;exact ⟨_,rfl,q lt ts _ u X j pm⟩
  | cons z zs=>
   refine cb (ZY (by simp)) ?_;generalize hnm:z :: zs=nms at e pm U⊢;have a9:0 < nms.length:=by rw [<-hnm];exact Nat.zero_lt_succ _
   refine ⟨λ σ' H'=>∃m',m' < nms.length/\CO r d lt H n [some (.ref r),some (.int (n:Nat)),some (.ref d),some (.ref lt)] m' σ' H',λ _ _ h=>h,?_⟩;refine ⟨_,rfl,.inl ⟨rfl,_,av.of j⟩,?_⟩;refine ⟨_,rfl,.inl ⟨rfl,_,av.of e⟩,?_⟩;refine ⟨_,rfl,_,rfl,.inl ⟨d,_,rfl,.inl (av.of e),?_⟩⟩;rw [q0];refine ⟨r,(nms.length:Int),rfl,u.r,by lia,by lia,λ c v G g0 g1=>?_⟩;have C:c.toNat < nms.length:=by lia
   have a3:=G.k _ _ M e;have a7:kh nms.length c=some c.toNat:=by unfold kh;rw [ZZ g0,ZZ g1]
   refine ⟨d,_,c,c.toNat,nI nms[c.toNat],rfl,rfl,a3,by lia,by lia,by rw [q0];exact (xP a7).1,by rw [C1,C0 C];rfl,?_⟩;have hz:=Be (C0 C);rw [CN];have a4:(nms.eraseIdx c.toNat).length < nms.length:=by rw [j0b C];lia
   have Z:=(u.trans G).keep (o:=.lst ((nms.eraseIdx c.toNat).map nI)) f7 M;have a0:upd v d (.lst ((nms.eraseIdx c.toNat).map nI)) d=some (.lst ((nms.eraseIdx c.toNat).map nI)):=aB;have a2:upd v d (.lst ((nms.eraseIdx c.toNat).map nI)) lt=some (.lst (ts.map nI)):=by rw [ae L];exact G.k _ _ J j
   generalize upd v d (.lst ((nms.eraseIdx c.toNat).map nI))=H15 at Z a0 a2⊢;refine ⟨lt,ts.map nI,_,rfl,rfl,a2,W1 (m:=12) (by rw [q0];lia) (by decide),?_⟩;refine ⟨_,a4,rfl,nms.eraseIdx c.toNat,ts++[nms[c.toNat]],rfl,Z.keep X J,by rw [ae L.symm];exact a0,by rw [Q3];exact aB,?_⟩;have p1:(nms.eraseIdx c.toNat++(ts++[nms[c.toNat]])).Perm (nms[c.toNat] :: (nms.eraseIdx c.toNat++ts)):=by rw [<-T2];exact List.perm_append_singleton _ _
   exact (p1.trans (hz.append_right _)).trans pm
end
section
noncomputable def bH (ds:List Dd) (n:ZR):List Int:=ds.flatMap λ d=>if d.w=true/\d.n=n then [d.x] else []
noncomputable def a_ (rows:bA) (n:ZR):List Int:=rows.flatMap λ r=>if r.1=n then r.2 else []
def nR (a b:List Dd) (n:ZR):bH (a++b) n=bH a n++bH b n:=U2
def Fy (a b:bA) (n:ZR):a_ (a++b) n=a_ a n++a_ b n:=U2
theorem mN:∀{rows:bA},¬ n∈rows.map (·.1)->a_ rows n=[]
 | [],_=>rfl
 | r :: rows,h=>by show (if r.1=n then r.2 else [])++a_ rows n=[];rw [Z_ λ e=>h (by rw [<-e];exact Y0),mN λ e=>h (Z0 _ e)];rfl
theorem ji:∀{rows:bA},(rows.map (·.1)).Nodup->(n,ns)∈rows->a_ rows n=ns
 | r :: rows,h,hm=>by
  rw [O0,L3] at h;show (if r.1=n then r.2 else [])++a_ rows n=ns;rcases List.mem_cons.mp hm with e|hm
  ·subst e;rw [ZZ rfl,mN h.1,E1]
  ·rw [Z_ λ e=>h.1 (by rw [e];exact List.mem_map.mpr ⟨_,hm,rfl⟩),ji h.2 hm];rfl
def yF (h:x∈a_ rows n) :∃ns,(n,ns)∈rows/\x∈ns:=by
 obtain ⟨r,b,a⟩:=List.mem_flatMap.mp h;split at a
 ·rename_i e;exact ⟨r.2,by rw [<-e];exact b,a⟩
 ·cases a
theorem vV {f:List Int->List Int} :∀{rows:bA},(rows.map (·.1)).Nodup->n∈rows.map (·.1)->a_ (rows.map λ r=>if r.1=n then (r.1,f r.2) else r) m=if m=n then f (a_ rows n) else a_ rows m
 | r :: rows,h,b=>by
  rw [O0,L3] at h;show (if (if r.1=n then (r.1,f r.2) else r).1=m then (if r.1=n then (r.1,f r.2) else r).2 else [])++a_ (rows.map λ r=>if r.1=n then (r.1,f r.2) else r) m=if m=n then f ((if r.1=n then r.2 else [])++a_ rows n) else (if r.1=m then r.2 else [])++a_ rows m
  by_cases z:r.1=n
  ·have a:¬ n∈rows.map (·.1):=by rw [<-z];exact h.1
   have id:(rows.map λ r=>if r.1=n then (r.1,f r.2) else r)=rows:=by refine (z8 λ q c=>?_).trans (List.map_id' _);rw [Z_ λ e=>a (by rw [<-e];exact List.mem_map.mpr ⟨_,c,rfl⟩)]
   rw [id,ZZ z,ZZ z,mN a,E1];by_cases y:m=n
   ·rw [ZZ (by rw [y];exact z),ZZ y,y,mN a,E1]
   ·rw [Z_ λ e=>y (e.symm.trans z),Z_ y,Z_ λ e=>y (e.symm.trans z)]
  ·have b:n∈rows.map (·.1):=by
    rcases List.mem_cons.mp b with e|e
    ·exact ZU e.symm z
    ·exact e
   rw [Z_ z,Z_ z,vV h.2 b];by_cases y:m=n
   ·rw [ZZ y,ZZ y,Z_ λ e=>z (e.trans y)];rfl
   ·rw [Z_ y,Z_ y]
def rN (h:(rows.map (·.1)).Nodup) (n m:ZR) (ms:List Int):a_ (bI rows n ms) m=a_ rows m++if m=n then ms else []:=by
 unfold bI;split
 ·rename_i hn;rw [vV (f:=(·++ms)) h hn];split
  ·rename_i e;rw [e]
  ·rw [E1]
 ·rw [Fy];show a_ rows m++((if n=m then ms else [])++[])=_;rw [E1];by_cases e:m=n
  ·rw [ZZ e,ZZ e.symm]
  ·rw [Z_ e,Z_ λ z=>e z.symm]
theorem zZ:∀(rs rows:bA),(rows.map (·.1)).Nodup->((addAll rows rs).map (·.1)).Nodup
 | [],_,h=>h
 | r :: rs,rows,h=>zZ rs (bI rows r.1 r.2) (fi h)
theorem AR (m:ZR) :∀(rs rows:bA),(rows.map (·.1)).Nodup->a_ (addAll rows rs) m=a_ rows m++a_ rs m
 | [],rows,_=>(E1 _).symm
 | r :: rs,rows,h=>by
  show a_ (addAll (bI rows r.1 r.2) rs) m=_;rw [AR m rs _ (fi h),rN h,T2];congr 1;show _=(if r.1=m then r.2 else [])++a_ rs m;by_cases e:m=r.1
  ·rw [ZZ e,ZZ e.symm]
  ·rw [Z_ e,Z_ λ z=>e z.symm]
theorem gN (m:ZR) :∀(ds:List Dd) (rows:bA),(rows.map (·.1)).Nodup->((ds.foldl (λ rows d=>if d.w=true then bI rows d.n [d.x] else rows) rows).map (·.1)).Nodup/\a_ (ds.foldl (λ rows d=>if d.w=true then bI rows d.n [d.x] else rows) rows) m=a_ rows m++bH ds m
 | [],rows,h=>⟨h,(E1 _).symm⟩
 | d :: ds,rows,h=>by
  rw [U3];show _/\_=a_ rows m++((if d.w=true/\d.n=m then [d.x] else [])++bH ds m);by_cases z:d.w=true
  ·rw [ZZ z];obtain ⟨b,a⟩:=gN m ds (bI rows d.n [d.x]) (fi h);refine ⟨b,?_⟩;rw [a,rN h,T2];congr 2;by_cases e:m=d.n
   ·rw [ZZ e,ZZ ⟨z,e.symm⟩]
   ·rw [Z_ e,Z_ λ y=>e y.2.symm]
  ·rw [Z_ z];obtain ⟨b,a⟩:=gN m ds rows h;refine ⟨b,?_⟩;rw [a,Z_ λ y=>z y.1];rfl
def kP (ds:List Dd):((wrR ds).map (·.1)).Nodup:=(gN "" ds [] B3).1
def tE (ds:List Dd) (m:ZR):a_ (wrR ds) m=bH ds m:=(gN m ds [] B3).2
theorem ux (m:ZR) :∀(ds:List Dl) (rows:bA),(rows.map (·.1)).Nodup->((ds.foldl (λ a d=>addAll a (wrR d.ds)) rows).map (·.1)).Nodup/\a_ (ds.foldl (λ a d=>addAll a (wrR d.ds)) rows) m=a_ rows m++(ds.map (·.ds)).flatMap λ d=>bH d m
 | [],rows,h=>⟨h,(E1 _).symm⟩
 | d :: ds,rows,h=>by rw [U3];obtain ⟨c,b⟩:=ux m ds (addAll rows (wrR d.ds)) (zZ _ _ h);refine ⟨c,?_⟩;rw [b,AR m _ _ h,tE,T2];rfl
def xU (ds:List Dl):((wrAll ds).map (·.1)).Nodup:=(ux "" ds [] B3).1
def BC (ds:List Dl) (m:ZR):a_ (wrAll ds) m=(ds.map (·.ds)).flatMap λ d=>bH d m:=(ux m ds [] B3).2
def NE (rows:bA):Prop:=∀r∈rows,r.2≠[]
def NE.ext (h:NE rows) (hm:ms≠[]):NE (bI rows n ms):=by
 unfold bI;split
 ·intro r a;obtain ⟨q,b,rfl⟩:=List.mem_map.mp a;split
  ·exact λ e=>hm (List.append_eq_nil_iff.mp e).2
  ·exact h q b
 ·intro r a;rcases List.mem_append.mp a with a|a
  ·exact h r a
  ·rw [List.mem_singleton.mp a];exact hm
theorem NE.addAll:∀(rs rows:bA),NE rows->NE rs->NE (addAll rows rs)
 | [],_,h,_=>h
 | r :: rs,rows,h,k=>NE.addAll rs (bI rows r.1 r.2) (h.ext (k r Y0)) λ q a=>k q (Z0 _ a)
def NE.wrR (ds:List Dd):NE (wrR ds):=by
 have go :∀(ds:List Dd) (a:bA),NE a->NE (ds.foldl (λ a d=>if d.w=true then bI a d.n [d.x] else a) a):=λ ds=>by
  induction ds with
  | nil=>exact λ _ h=>h
  | cons d ds ih=>
   intro a h;rw [U3];refine ih _ ?_;split
   ·exact h.ext λ z=>nomatch z
   ·exact h
 exact go ds [] λ _ h=>nomatch h
def NE.wrAll (ds:List Dl):NE (wrAll ds):=by
 have go :∀(ds:List Dl) (b:bA),NE b->NE (ds.foldl (λ a d=>K42.addAll a (K42.wrR d.ds)) b):=λ ds=>by
  induction ds with
  | nil=>exact λ _ h=>h
  | cons d ds ih=>intro b h;rw [U3];exact ih _ (NE.addAll _ _ h (NE.wrR _))
 exact go ds [] λ _ h=>nomatch h
def qB (nk:(rows.map (·.1)).Nodup) (ne:NE rows):n∈rows.map (·.1)↔a_ rows n≠[]:=by
 constructor
 ·intro h;obtain ⟨b,a⟩:=cJ h;rw [ji nk a];exact ne _ a
 ·intro h;refine N2 λ z=>h (mN z)
structure Inv (dss:List (List Dd)) (rows:bA):Prop where
 nk:(rows.map (·.1)).Nodup
 ne:NE rows
 pm :∀n,(a_ rows n).Perm (dss.flatMap λ d=>bH d n)
 nd :∀n,(a_ rows n).Nodup/\¬ (0:Int)∈a_ rows n
 own :∀d∈dss,∀n,bH d n=(a_ rows n).filter λ x=>decide (x∈bH d n)
def Inv.fit (I:Inv (ds.map (·.ds)) rows):rp ds rows:=by
 refine ⟨λ d i r b=>?_,?_,λ r b f a=>?_⟩
 ·have c:bH d.ds r.1=r.2:=by rw [<-tE,ji (kP _) (show (r.1,r.2)∈wrR d.ds from b)]
  have o:=I.own d.ds (List.mem_map.mpr ⟨d,i,rfl⟩) r.1;have g:=NE.wrR d.ds r b;have j:r.1∈rows.map (·.1):=(qB I.nk I.ne).mpr λ z=>by rw [z,c] at o;exact g o
  obtain ⟨f,a⟩:=cJ j;refine ⟨f,a,?_⟩;rw [c,ji I.nk a] at o;exact o
 ·rw [j7f (xU ds) I.nk];intro n;rw [qB (xU ds) (NE.wrAll ds),qB I.nk I.ne,BC];have p:=I.pm n;constructor
  ·intro h z;rw [z] at p;exact h p.symm.eq_nil
  ·intro h z;rw [z] at p;exact h p.eq_nil
 ·have c:a_ (wrAll ds) r.1=r.2:=ji (xU ds) (show (r.1,r.2)∈wrAll ds from b);have e:=ji I.nk a;have p:=I.pm r.1;rw [<-BC,c,e] at p;have:=I.nd r.1;rw [e] at this;exact ⟨p,this.2,this.1⟩
def eU:x∈bH ds n↔(⟨true,n,x⟩:Dd)∈ds:=by
 unfold bH;rw [z9];constructor
 ·rintro ⟨⟨w,m,y⟩,hd,hx⟩;split at hx
  ·rename_i z;obtain ⟨a,b⟩:=z;have c:=List.mem_singleton.mp hx;cases a;cases b;cases c;exact hd
  ·cases hx
 ·intro h;exact ⟨_,h,by rw [ZZ ⟨rfl,rfl⟩];exact Y0⟩
def Inv.uw (I:Inv (ds.map (·.ds)) rows):UW ds:=by
 intro i j n x ⟨d,hd,h1⟩ ⟨e,he,h2⟩;have a:((ds.map (·.ds)).flatMap λ d=>bH d n).Nodup:=(I.pm n).nodup_iff.mp (I.nd n).1;have go :∀(ds:List Dl) (i j:Nat),((ds.map (·.ds)).flatMap λ d=>bH d n).Nodup->ds[i]? = some d->ds[j]? = some e->i=j:=λ ds=>by
  induction ds with
  | nil=>intro i j _ h;cases h
  | cons c ds ih=>
   intro i j a b f;rw [O0,G3,j50] at a;have g :∀{q:Dl} {k:Nat},(⟨true,n,x⟩:Dd)∈c.ds->ds[k]? = some q->(⟨true,n,x⟩:Dd)∈q.ds->False:=λ {q k} h3 h4 h5=>a.2.2 x (eU.mpr h3) x (List.mem_flatMap.mpr ⟨q.ds,List.mem_map.mpr ⟨q,K0 h4,rfl⟩,eU.mpr h5⟩) rfl;cases i with
   | zero=>
    cases b;cases j with
    | zero=>rfl
    | succ j=>exact (g h1 f h2).elim
   | succ i=>
    cases j with
    | zero=>cases f;exact (g h2 b h1).elim
    | succ j=>rw [ih i j a.2.1 b f]
 exact go ds i j a hd he
def Inv.perm (I:Inv a rows) (p:a.Perm b):Inv b rows:=
 ⟨I.nk,I.ne,λ n=>(I.pm n).trans (p.flatMap_right _),I.nd,λ d c=>I.own d (p.mem_iff.mpr c)⟩
def Inv.nil:Inv [] []:=⟨B3,λ _ h=>(nomatch h),λ _=>.nil,λ _=>⟨B3,λ h=>nomatch h⟩,λ _ h=>nomatch h⟩
def Inv.new (I:Inv a rows):Inv (a++[[]]) rows:=by
 refine ⟨I.nk,I.ne,λ n=>?_,I.nd,λ d b n=>?_⟩
 ·rw [U2];show (a_ rows n).Perm (_++[]);rw [E1];exact I.pm n
 ·rcases List.mem_append.mp b with b|b
  ·exact I.own d b n
  ·rw [List.mem_singleton.mp b];exact (List.filter_eq_nil_iff.mpr λ x _ h=>nomatch (ZW h)).symm
def Inv.alike (I:Inv a rows) (h:af (λ x y=>∀n,bH y n=bH x n) a b):Inv b rows:=by
 refine ⟨I.nk,I.ne,λ n=>?_,I.nd,λ d f n=>?_⟩
 ·have e:(b.flatMap λ d=>bH d n)=a.flatMap λ d=>bH d n:=by
   have p:True:=trivial;clear I p;induction h with
   | nil=>rfl
   | cons z _ ih=>rw [G3,G3,ih,z n]
  rw [e];exact I.pm n
 ·obtain ⟨c,g,z⟩:=Bq h f;rw [z n];exact I.own c g n
def Inv.sub (I:Inv a rows) (hd:d∈a) (hx:x∈bH d n):x∈a_ rows n:=(I.pm n).mem_iff.mpr (List.mem_flatMap.mpr ⟨d,hd,hx⟩)
def IG (d:List Dd) (m:ZR) (x:Int) (n:ZR):bH (d++[⟨false,m,x⟩]) n=bH d n:=by rw [nR];show bH d n++((if false=true/\m=n then [x] else [])++[])=_;rw [Z_ λ z=>nomatch z.1];exact E1 _
def zu (d:List Dd) (m:ZR) (x:Int) (n:ZR):bH (d++[⟨true,m,x⟩]) n=bH d n++if n=m then [x] else []:=by
 rw [nR];show bH d n++((if true=true/\m=n then [x] else [])++[])=_;rw [E1];by_cases e:n=m
 ·rw [ZZ e,ZZ ⟨rfl,e.symm⟩]
 ·rw [Z_ e,Z_ λ y=>e y.2.symm]
theorem xC {α:Type} {R:α->α->Prop} (h :∀x,R x x) :∀a:List α,af R a a
 | []=>.nil
 | x :: a=>.cons (h x) (xC h a)
def Inv.read (I:Inv (a++[ps]) rows) (m:ZR) (x:Int):Inv (a++[ps++[⟨false,m,x⟩]]) rows:=
 I.alike (k7 (xC (λ _ _=>rfl) a) (.cons (λ n=>IG ps m x n) .nil))
def Inv.write (I:Inv (a++[ps]) rows) (x0:x≠0) (fr :∀n,¬ x∈a_ rows n):Inv (a++[ps++[⟨true,m,x⟩]]) (bI rows m [x]):=by
 refine ⟨fi I.nk,I.ne.ext (λ z=>nomatch z),λ n=>?_,λ n=>?_,λ d c n=>?_⟩
 ·rw [rN I.nk,U2];have p:=I.pm n;rw [U2] at p;show (a_ rows n++_).Perm ((a.flatMap λ d=>bH d n)++(bH (ps++[⟨true,m,x⟩]) n++[]));rw [zu,E1,<-T2];refine List.Perm.append_right _ (p.trans ?_);show ((a.flatMap λ d=>bH d n)++(bH ps n++[])).Perm _;rw [E1]
 ·rw [rN I.nk];obtain ⟨g,i⟩:=I.nd n;split
  ·refine ⟨List.nodup_append.mpr ⟨g,j91 _ _,λ y b z o e=>?_⟩,λ h=>?_⟩
   ·rw [e,List.mem_singleton.mp o] at b;exact fr n b
   ·rcases List.mem_append.mp h with h|h
    ·exact i h
    ·exact x0 (List.mem_singleton.mp h).symm
  ·rw [E1];exact ⟨g,i⟩
 ·rw [rN I.nk,F7];rcases List.mem_append.mp c with c|c
  ·have f:d∈a++[ps]:=b8 _ c;have e:=I.own d f n;have:List.filter (λ x=>decide (x∈bH d n)) (if n=m then [x] else [])=[]:=List.filter_eq_nil_iff.mpr λ y b h=>by
    split at b
    ·rw [List.mem_singleton.mp b] at h;exact fr n (I.sub f (ZW h))
    ·cases b
   rw [this,E1];exact e
  ·rw [List.mem_singleton.mp c,zu];have f:ps∈a++[ps]:=C2 _ Y0;have e:=I.own ps f n;have j :∀l:List Int,(l=a_ rows n)->l.filter (λ y=>decide (y∈bH ps n++if n=m then [x] else []))=l.filter λ y=>decide (y∈bH ps n):=λ l k=>g9 λ y b=>by
    have:(y∈bH ps n++if n=m then [x] else [])↔y∈bH ps n:=by
     rw [O4];refine ⟨λ h=>h.elim id λ h=>?_,.inl⟩;split at h
     ·rw [List.mem_singleton.mp h,k] at b;exact ZU b (fr n)
     ·cases h
    exact decide_eq_decide.mpr this
   rw [j _ rfl,<-e];congr 1;refine (List.filter_eq_self.mpr λ y b=>ZY ?_).symm;exact C2 _ b
end
section
def uW {rows:bA} {n:ZR} {f:List Int->List Int}:(rows.map λ r=>if r.1=n then (r.1,f r.2) else r).map (·.1)=rows.map (·.1):=by rw [Y6];refine z8 λ r _=>?_;show (if r.1=n then (r.1,f r.2) else r).1=r.1;split<;>rfl
def Ig (h:¬ (p x=true/\p y=true)) (a b:List Int):(a++y :: x :: b).filter p=(a++x :: y :: b).filter p:=by rw [F7,F7];congr 1;rw [Y5,Y5,Y5,Y5];cases hx:p x<;>cases hy:p y<;>simp;exact ZU ⟨hx,hy⟩ h
def swap_perm (a b:List Int):(a++y :: x :: b).Perm (a++x :: y :: b):=Y8 _ (R9 _ _ _)
def Inv.swap {dss:List (List Dd)} {rows:bA} (I:Inv dss rows) {n:ZR} {x y:Int} {a b:List Int} (hm:(n,a++x :: y :: b)∈rows) (ap :∀d∈dss,¬ (x∈bH d n/\y∈bH d n)):Inv dss (rows.map λ r=>if r.1=n then (r.1,a++y :: x :: b) else r):=by
 have k:n∈rows.map (·.1):=List.mem_map.mpr ⟨_,hm,rfl⟩;have c:=ji I.nk hm;have e :∀m,a_ (rows.map λ r=>if r.1=n then (r.1,a++y :: x :: b) else r) m=if m=n then a++y :: x :: b else a_ rows m:=λ m=>vV (f:=λ _=>a++y :: x :: b) I.nk k
 refine ⟨by rw [uW (f:=λ _=>a++y :: x :: b)];exact I.nk,λ r j=>?_,λ m=>?_,λ m=>?_,λ d g m=>?_⟩
 ·obtain ⟨q,i,rfl⟩:=List.mem_map.mp j;split
  ·intro z;have z:a++y :: x :: b=[]:=z;cases (List.append_eq_nil_iff.mp z).2
  ·exact I.ne q i
 ·rw [e m];split
  ·rename_i z;subst z;have p:=I.pm m;rw [c] at p;exact (swap_perm a b).trans p
  ·exact I.pm m
 ·rw [e m];split
  ·rename_i z;subst z;have p:=I.nd m;rw [c] at p;exact ⟨(swap_perm a b).nodup_iff.mpr p.1,λ h=>p.2 ((swap_perm a b).mem_iff.mp h)⟩
  ·exact I.nd m
 ·rw [e m];split
  ·rename_i z;subst z;have p:=I.own d g m;rw [c] at p;rw [Ig (λ h=>ap d g ⟨ZW h.1,ZW h.2⟩)];exact p
  ·exact I.own d g m
def fC (c:Nat) (x:Int):Prop:=x=c\/x=0 - c\/x=c * 9999991\/x=1000000001 - c\/x=c - 1 - 1000000000
theorem xn (h:fC c x) (h1:1<=c) (h2:c<=48):x≠0/\-1000000000<=x/\x<=1000000000:=by
 unfold fC at h
 lia
theorem IT (h:fC c x) (k:fC e x) (h1:1<=c) (h2:c<=48) (k1:1<=e) (k2:e<=48):c=e:=by
 unfold fC at h k
 lia
noncomputable def tot (rows:bA):Nat:=(rows.flatMap (·.2)).length
def mh (r:ZR×List Int) (rows:bA):tot (r :: rows)=r.2.length + tot rows:=by unfold tot;rw [G3,F0]
def J1 (a b:bA):tot (a++b)=tot a + tot b:=by unfold tot;rw [U2,F0]
theorem Cz:∀{rows:bA},(rows.map (·.1)).Nodup->n∈rows.map (·.1)->tot (rows.map λ r=>if r.1=n then (r.1,r.2++ms) else r)=tot rows + ms.length
 | r :: rows,h,a=>by
  rw [O0,L3] at h;rw [O0,mh,mh];by_cases z:r.1=n
  ·have b:¬ n∈rows.map (·.1):=by rw [<-z];exact h.1
   have id:(rows.map λ r=>if r.1=n then (r.1,r.2++ms) else r)=rows:=by refine (z8 λ q c=>?_).trans (List.map_id' _);rw [Z_ λ e=>b (by rw [<-e];exact List.mem_map.mpr ⟨_,c,rfl⟩)]
   rw [id,ZZ z];show (r.2++ms).length + _=_;rw [F0]
   lia
  ·have a:n∈rows.map (·.1):=by
    rcases List.mem_cons.mp a with e|e
    ·exact ZU e.symm z
    ·exact e
   rw [Z_ z,Cz h.2 a]
   lia
theorem CH (h:(rows.map (·.1)).Nodup) (n:ZR) (ms:List Int):tot (bI rows n ms)=tot rows + ms.length:=by
 unfold bI;split
 ·rename_i hn;exact Cz h hn
 ·rw [J1,mh];show _ + (ms.length + 0)=_
  lia
theorem sT (h:r∈rows):r.2.length<=tot rows:=by
 induction rows with
 | nil=>cases h
 | cons q rows ih=>
  rw [mh];rcases List.mem_cons.mp h with rfl|h
  ·lia
  ·have:=ih h
   lia
theorem sP (h:NE rows):rows.length<=tot rows:=by
 induction rows with
 | nil=>exact K2 _
 | cons q rows ih=>
  rw [mh,W0];have:=ih λ r a=>h r (Z0 _ a);have:=List.length_pos_iff.mpr (h q Y0)
  lia
def Ag (rows:bA):Prop:=∀r∈rows,∀x∈r.2,∃c,1<=c/\c<=tot rows/\fC c x
def Fb (h:r∈bI rows n [y]) (hx:x∈r.2):x=y\/∃q∈rows,x∈q.2:=by
 unfold bI at h;split at h
 ·obtain ⟨q,a,rfl⟩:=List.mem_map.mp h;split at hx
  ·rcases List.mem_append.mp hx with hx|hx
   ·exact .inr ⟨q,a,hx⟩
   ·exact .inl (List.mem_singleton.mp hx)
  ·exact .inr ⟨q,a,hx⟩
 ·rcases List.mem_append.mp h with h|h
  ·exact .inr ⟨r,h,hx⟩
  ·rw [List.mem_singleton.mp h] at hx;exact .inl (List.mem_singleton.mp hx)
theorem Ag.ext (A:Ag rows) (nk:(rows.map (·.1)).Nodup) (h:fC (tot rows + 1) x):Ag (bI rows n [x]):=by
 intro r e y a;rw [CH nk];rcases Fb e a with rfl|⟨q,hq,a⟩
 ·exact ⟨tot rows + 1,by lia,L0 _,h⟩
 ·obtain ⟨c,b,f,d⟩:=A q hq y a;exact ⟨c,b,by show c<=tot rows + 1;lia,d⟩
theorem Ag.fresh (A:Ag rows) (ht:tot rows < 48) (h:fC (tot rows + 1) x) (n:ZR):¬ x∈a_ rows n:=λ e=>by
 obtain ⟨i,b,f⟩:=yF e;obtain ⟨c,d,g,a⟩:=A _ b x f;have:=IT h a (by lia) (by lia) d (by lia)
 lia
structure Bd (a:List (List Dd)) (ps:List Dd) (rows:bA):Prop where
 inv:Inv (a++[ps]) rows
 ag:Ag rows
 tt:tot rows<=4 * a.length + ps.length
 nm :∀r∈rows,aF r.1
 ok :∀x∈ps,iZ x
theorem Bd.read (B:Bd a ps rows) (h:iZ ⟨false,n,x⟩):Bd a (ps++[⟨false,n,x⟩]) rows:=
 ⟨B.inv.read n x,B.ag,M0 B.tt (by rw [F0];lia),B.nm,λ y b=>(List.mem_append.mp b).elim (B.ok y) λ b=>by rw [List.mem_singleton.mp b];exact h⟩
theorem Bd.write (B:Bd a ps rows) (ha:a.length < 12) (hp:ps.length < 4) (h:aF n) (hx:fC (tot rows + 1) x):Bd a (ps++[⟨true,n,x⟩]) (bI rows n [x]):=by
 have t:=B.tt;have k:=xn hx (by lia) (by lia);refine ⟨B.inv.write k.1 λ m=>B.ag.fresh (by lia) hx m,B.ag.ext B.inv.nk hx,?_,λ r f=>?_,λ y c=>(List.mem_append.mp c).elim (B.ok y) λ c=>by rw [List.mem_singleton.mp c];exact ⟨h,k.2.1,k.2.2⟩⟩
 ·rw [CH B.inv.nk,F0];show tot rows + 1<=4 * a.length + (ps.length + 1)
  lia
 ·have b:r.1∈(bI rows n [x]).map (·.1):=List.mem_map.mpr ⟨r,f,rfl⟩;rw [Bo] at b;have old:r.1∈rows.map (·.1)->aF r.1:=λ h=>by obtain ⟨q,d,e⟩:=List.mem_map.mp h;rw [<-e];exact B.nm q d
  split at b
  ·exact old b
  ·rcases List.mem_append.mp b with b|b
   ·exact old b
   ·rw [List.mem_singleton.mp b];exact h
structure Gs (ds:List Dl) (rows:bA):Prop where
 l1:1<=ds.length
 l12:ds.length<=4
 ok :∀d∈ds,iN d
 inv:Inv (ds.map (·.ds)) rows
 nm :∀r∈rows,aF r.1
 bd :∀r∈rows,∀x∈r.2,-1000000000<=x/\x<=1000000000
 tt:tot rows<=16
theorem Gs.gd (G:Gs ds rows):Gd ds rows:=
 ⟨G.l1,M0 G.l12 (by decide),G.ok,G.inv.fit,M0 (M0 (sP G.inv.ne) G.tt) (by decide),λ r a=>⟨G.nm r a,by have:=sT a;have:=G.tt;lia,G.bd r a⟩,G.tt,G.l12⟩
def bV.draw (D:bV H0 H f rows kvs) (R:aZ H0 r) (J:Jw r H H') :∃H0',Jw r H0 H0'/\bV H0' H' f rows kvs:=by
 obtain ⟨a,b,e,z⟩:=J.r;obtain ⟨s,t,d,_⟩:=R;refine ⟨upd H0 r (.lst [.int a,.int b]),⟨.set,a,b,aB,z⟩,λ c o h=>?_,?_,J.k _ _ (bZ d D.fr).symm D.at',bp (λ u q y=>?_) D.al,D.nl,D.nk⟩
 ·by_cases n:c=r
  ·rw [n,aB] at h;rw [n,e];exact h
  ·rw [ae n] at h;exact J.k _ _ n (D.sm _ _ h)
 ·rw [ae (bZ d D.fr).symm];exact D.fr
 ·obtain ⟨j,l,p,g,m⟩:=y;have i:l≠r:=(bZ d g).symm;exact ⟨j,l,p,by rw [ae i];exact g,J.k _ _ i m⟩
def bV.both (D:bV H0 H f rows kvs) (h:H0 l=some o):bV (upd H0 l o') (upd H l o') f rows kvs:=by
 have b:f≠l:=(bZ h D.fr).symm;refine ⟨λ c x e=>?_,by rw [ae b];exact D.fr,by rw [ae b];exact D.at',bp (λ k q y=>?_) D.al,D.nl,D.nk⟩
 ·by_cases n:c=l
  ·rw [n,aB] at e⊢;exact e
  ·rw [ae n] at e⊢;exact D.sm _ _ e
 ·obtain ⟨j,m,i,d,g⟩:=y;have a:m≠l:=(bZ h d).symm;exact ⟨j,m,i,by rw [ae a];exact d,by rw [ae a];exact g⟩
def bV.fresh (D:bV H0 H f rows kvs) (h:H p=none):bV (upd H0 p o) (upd H p o) f rows kvs:=by
 have d:f≠p:=bZ D.at' h;refine ⟨λ c x e=>?_,by rw [ae d];exact D.fr,by rw [ae d];exact D.at',bp (λ k q y=>?_) D.al,D.nl,D.nk⟩
 ·by_cases n:c=p
  ·rw [n,aB] at e⊢;exact e
  ·rw [ae n] at e⊢;exact D.sm _ _ e
 ·obtain ⟨i,m,g,j,b⟩:=y;have a:m≠p:=bZ b h;exact ⟨i,m,g,by rw [ae a];exact j,by rw [ae a];exact b⟩
end
section
variable {P:ZK} {w:U1} {mg:ZR->Option ZH} {base:ZN}
def tF {X:Cx} {K:B0} (hK:X.K=K):cv X (.builtin "len") (λ xs H Q=>(∃p ys,xs=[.ref p]/\(av K H p ys\/aG K H p ys)/\Q (.int ys.length) H)\/∃z,xs=[.str z]/\z.length<=ZG/\Q (.int z.length) H):=hK ▸ gG
def pM (r g:ZS) (H H':Hp):Prop:=∀b o,b≠r->b≠g->H b=some o->H' b=some o
def gi (st:List (Key×V)):Prop:=∀kv∈st,∃x:Int,kv.2=.int x/\-1000000000<=x/\x<=1000000000
def cT.tk (k:dY H H') (h:cT H d y):cT H' d y:=h.elim λ p z=>⟨p,z.1,k _ _ z.2⟩
def bJ.tk (k:dY H H') (h:bJ H d y):bJ H' d y:=by obtain ⟨p,q,c,e,f,a,b⟩:=h;exact ⟨p,q,c,e,k _ _ f,k _ _ a,bp (λ _ _ z=>z.tk k) b⟩
structure jF (r nl g v ld:ZS) (zs:List V) (a:List (List Dd)) (HH H0 H:Hp) (st:List (Key×V)) (ps:List Dd) (ys:List V) (rows:bA) (kvs:List (Key×V)):Prop where
 kp:pM r g HH H0
 R:aZ H0 r
 nr:nl≠r
 lr:ld≠r
 en:H0 nl=some (.lst zs)
 eg:H0 g=some (.dK st)
 so:gi st
 sl:st.length<=4 * a.length + ps.length
 fl:HH ld=none
 el:H0 ld=some (.lst ys)
 nn:nl≠ld
 al:af (cT H0) ps ys
 D:bV H0 H v rows kvs
 B:Bd a ps rows
def fh {H:Hp} {r g:ZS} {st:List (Key×V)} (R:aZ H r) (e:H g=some (.dK st)):g≠r:=by obtain ⟨x,y,a,_⟩:=R;exact aK e a λ z=>nomatch z
def jF.draw {r nl g v ld:ZS} {zs:List V} {a:List (List Dd)} {HH H0 H H':Hp} {st:List (Key×V)} {ps:List Dd} {ys:List V} {rows:bA} {kvs:List (Key×V)} (S:jF r nl g v ld zs a HH H0 H st ps ys rows kvs) (J:Jw r H H') :∃H0',jF r nl g v ld zs a HH H0' H' st ps ys rows kvs:=by obtain ⟨H0',c,f⟩:=S.D.draw S.R J;exact ⟨H0',λ b o d h e=>c.k _ _ d (S.kp b o d h e),c.r,S.nr,S.lr,c.k _ _ S.nr S.en,c.k _ _ (fh S.R S.eg) S.eg,S.so,S.sl,S.fl,c.k _ _ S.lr S.el,S.nn,bp (λ _ _ z=>cT.tk (c.tupk S.R) z) S.al,f,S.B⟩
def jF.jar {r nl g v ld:ZS} {zs:List V} {a:List (List Dd)} {HH H0 H:Hp} {st:List (Key×V)} {ps:List Dd} {ys:List V} {rows:bA} {kvs:List (Key×V)} (S:jF r nl g v ld zs a HH H0 H st ps ys rows kvs):aZ H r:=S.R.same S.D.sm
def jF.same {r nl g v ld:ZS} {zs:List V} {a:List (List Dd)} {HH H0 H H':Hp} {st:List (Key×V)} {ps:List Dd} {ys:List V} {rows:bA} {kvs:List (Key×V)} (S:jF r nl g v ld zs a HH H0 H st ps ys rows kvs) (s:Same H H'):jF r nl g v ld zs a HH H0 H' st ps ys rows kvs:={ S with D:=S.D.beside s }
def jF.more {r nl g v ld p:ZS} {zs:List V} {a:List (List Dd)} {HH H0 H:Hp} {st:List (Key×V)} {ps:List Dd} {ys:List V} {rows:bA} {kvs:List (Key×V)} (S:jF r nl g v ld zs a HH H0 H st ps ys rows kvs) (hp:H p=none) (d:Dd) :
  (upd H p (.tup [.str (vb d.w),.str d.n,.int d.x])) ld=some (.lst ys)/\∃H0',H0' r=H0 r/\pM r g HH H0'/\H0' nl=some (.lst zs)/\H0' g=some (.dK st)/\H0' ld=some (.lst (ys++[.ref p]))/\af (cT H0') (ps++[d]) (ys++[.ref p])/\bV H0' (upd (upd H p (.tup [.str (vb d.w),.str d.n,.int d.x])) ld (.lst (ys++[.ref p]))) v rows kvs:=by
 have i:H0 p=none:=S.D.sm.free hp;have c:=Same.upd (o:=.tup [.str (vb d.w),.str d.n,.int d.x]) i;have h:=S.D.fresh (o:=.tup [.str (vb d.w),.str d.n,.int d.x]) hp;have f:=c _ _ S.el;have k:upd H0 p (.tup [.str (vb d.w),.str d.n,.int d.x]) p=some (.tup [.str (vb d.w),.str d.n,.int d.x]):=aB;refine ⟨h.sm _ _ f,upd (upd H0 p (.tup [.str (vb d.w),.str d.n,.int d.x])) ld (.lst (ys++[.ref p])),?_,λ b o j l e=>?_,?_,?_,aB,?_,h.both f⟩
 ·obtain ⟨x,y,e,_⟩:=S.R;rw [ae S.lr.symm,ae (bZ e i)]
 ·rw [ae (bZ e S.fl)];exact c _ _ (S.kp b o j l e)
 ·rw [ae S.nn];exact c _ _ S.en
 ·rw [ae (aK S.eg S.el λ z=>nomatch z)];exact c _ _ S.eg
 ·have tk:=dY.lst (zs:=ys++[.ref p]) f;exact k7 (bp (λ _ _ z=>cT.tk ((dY.of c).trans tk) z) S.al) (.cons ⟨p,rfl,tk _ _ k⟩ .nil)
def gi.put {st:List (Key×V)} (h:gi st) {k:Key} {x:Int} (h1:-1000000000<=x) (h2:x<=1000000000):gi (putK st k (.int x)):=λ b a=>by
 rcases Af a with rfl|a
 ·exact ⟨x,rfl,h1,h2⟩
 ·exact h b a
def gi.get {st:List (Key×V)} (h:gi st) (k:Key) :∃x:Int,(aH st k).getD (.int 0)=.int x/\-1000000000<=x/\x<=1000000000:=by
 cases e:aH st k with
 | none=>exact ⟨0,rfl,by decide,by decide⟩
 | some v=>
  unfold aH at e;cases f:st.find? (λ a=>decide (a.1=k)) with
  | none=>rw [f] at e;cases e
  | some a=>rw [f] at e;cases e;exact h a (o8 f)
theorem zA:∀rows:bA,(rows.map λ r=>(r.2.length:Int)).sum=(tot rows:Nat)
 | []=>rfl
 | r :: rows=>by
  rw [O0,List.sum_cons,zA rows,mh]
  lia
def GW {rows:bA} {kvs:List (Key×V)} {ys:List V} (hl:kvs.length=rows.length) (h:af (λ (i:Nat) y=>∃r,rows[i]? = some r/\y=V.int (r.2.length:Nat)) (N0 kvs.length) ys):ys=(rows.map λ r=>(r.2.length:Int)).map V.int:=by
 rw [hl] at h;have b:af (λ (i:Nat) y=>∃r,rows[i]? = some r/\y=V.int (r.2.length:Nat)) ((N0 rows.length).filter λ i=>(rows[i]?.map λ _=>true).getD false) ys:=by rw [List.filter_eq_self.mpr λ i c=>by rw [C0 (List.mem_range.mp c)];rfl];exact h
 have a:=oU (g:=λ _=>true) (R:=λ r y=>y=V.int (r.2.length:Nat)) rows ys b;rw [List.filter_eq_self.mpr λ _ _=>rfl] at a;rw [pU (f:=λ r:ZR×List Int=>V.int (r.2.length:Nat)) a,Y6];rfl
theorem Cf {α β:Type} {R:α->β->Prop} :∀{xs:List α} {ys:List β} {i:Nat} {x:α},af R xs ys->xs[i]? = some x->∃y,ys[i]? = some y/\R x y
 | _,_,i,x,.nil,e=>by simp at e
 | _,_,0,x,.cons a _,e=>by cases e;exact ⟨_,rfl,a⟩
 | _,_,i + 1,x,.cons _ r,e=>Cf (i:=i) r e
def ky {te:TE} {D:Ends} {σ:L2.St} {H:Hp} (h:te σ H λ _ H1=>D.nx σ H1):mr te D σ H:=h
def wh {r:R2} {x:V} {tb:TE} {σ:L2.St} {H:Hp} {Q:VK} (h:tb σ H λ y H1=>r x y H1 Q):oj r (tC x) tb σ H Q:=h
def AY:Sp:=λ vs H Q _=>xY λ r nl g v z1 z2 z3 st rows kvs H0 a=>Bt (vs=[.ref r,.ref nl,.ref g,.ref v]) (aZ H0 r) (H0 nl=some (.lst [.str z1,.str z2,.str z3])) (aF z1) (aF z2) (aF z3) (H0 g=some (.dK st)) (gi st) (st.length<=4 * a.length) (bV H0 H v rows kvs) (Bd a [] rows) (a.length < 12) (∀q ps ys st' rows' kvs' H0' H',pM r g H0 H0'->aZ H0' r->H0' g=some (.dK st')->gi st'->st'.length<=4 * a.length + ps.length->H0' q=some (.tup ys)->H0 q=none->af (cT H0') ps ys->ps.length<=4->bV H0' H' v rows' kvs'->Bd a ps rows'->Q (.ref q) H')
theorem KI {z1 z2 z3:ZR} (n1:aF z1) (n2:aF z2) (n3:aF z3) {i:Int} (h0:0<=i) (h1:i < 3) :∃z,jE [V.str z1,.str z2,.str z3] i=some (.str z)/\aF z:=by
 obtain ⟨n,rfl⟩ :∃n:Nat,i=n:=⟨i.toNat,by lia⟩
 have h1:n < 3:=by lia
 match n,h1 with
 | 0,_=>exact ⟨_,rfl,n1⟩
 | 1,_=>exact ⟨_,rfl,n2⟩
 | 2,_=>exact ⟨_,rfl,n3⟩
theorem Iw {c:Nat} {i:Int} (h0:0<=i) (h1:i < 5) :∃x,jE [V.int c,.int (0 - c),.int (c * 9999991),.int (1000000001 - c),.int (c - 1 - 1000000000)] i=some (.int x)/\fC c x:=by
 obtain ⟨n,rfl⟩ :∃n:Nat,i=n:=⟨i.toNat,by lia⟩
 have h1:n < 5:=by lia
 match n,h1 with
 | 0,_=>exact ⟨_,rfl,.inl rfl⟩
 | 1,_=>exact ⟨_,rfl,.inr (.inl rfl)⟩
 | 2,_=>exact ⟨_,rfl,.inr (.inr (.inl rfl))⟩
 | 3,_=>exact ⟨_,rfl,.inr (.inr (.inr (.inl rfl)))⟩
 | 4,_=>exact ⟨_,rfl,.inr (.inr (.inr (.inr rfl)))⟩
theorem KU (T:TX (kx w) mg) (c2:Ca P w mg base "_law_take" ["jar","many"] 1 mG):Fo P w mg base CX0 2 255 xE ["jar","names","store","versions"] AY:=by
 refine (uI w.params).ok bQ (λ vs H Q E h=>?_) (λ c6 A d5 s H vs Q E F h=>?_)
 ·obtain ⟨r,I,g,v,z1,z2,z3,st,a2,kvs,t,a,rfl,_⟩:=h;rfl
 ·obtain ⟨r,I,g,v,z1,z2,z3,st,a2,kvs,t,a,rfl,R,a1,n1,n2,n3,eg,so,sl,D,B,ha,q⟩:=h;refine ⟨_,(aR (ar (i:=4) bQ.nd rfl (O1 rfl) (aO aa))
   (aR (aW Z1 rfl (kX rfl (T.no (i_ _)) (ah (aj c2 (F.mono (by decide)) rfl (ah (pv 0) (ah ab aa))) aa)) (cZ (i:=5) bQ.nd rfl (O1 rfl))
   (aR (ar (i:=6) bQ.nd rfl (O1 rfl) (ao ak (pv 1) (aj c2 (F.mono (by decide)) rfl (ah (pv 0) (ah ab aa))) (λ _ _=>rfl)))
   (aV (aQ (dj du (aj c2 (F.mono (by decide)) rfl (ah (pv 0) (ah ab aa))) ab (aC _))
   (aV (gv (jC (pv 4) (ah (bh (ah bf (ah (pv 6) (ah (sN (bu F) (pv 2) (pv 6) ab ⟨rfl,rfl,rfl,rfl⟩) aa)))) aa))))
   (aR (ar (i:=7) bQ.nd rfl (O1 rfl) (aA bM ab (cX (HG rfl) rfl (T.no (qH _)) boot_sum (ah (wt (cH (xs:=["one"]) (g:=aI 0) (fr:=[(3,"versions")]) (Kr (pv 3)) (λ _ _ _ _ _=>(aU (N:=["one","versions"]) 0)) (λ _ _ _ _ _=>b_) (λ _ _ _ _ _=>(cX (tF (K:=KX w.params) rfl) rfl (T.no (bW _)) C5 (ah (mn (bu F) (pv 1) (pv 0) (λ _ _=>rfl)) aa))))) aa))))
   (aR (ar (i:=8) bQ.nd rfl (O1 rfl) (ao ak (aO (ah (pv 7) (ah (aA eG ab (pv 7)) (ah (aA dG (pv 7) ab) (ah (aA eG (aA bM (aA eH ab ab) ab) (pv 7)) (ah (aA eG (aA eG (pv 7) ab) (aA eH ab ab)) aa)))))) (aj c2 (F.mono (by decide)) rfl (ah (pv 0) (ah ab aa))) (λ _ _=>rfl)))
   (aR (gv (jC (pv 4) (ah (bh (ah bf (ah (pv 6) (ah (pv 8) aa)))) aa)))
   (aR (mj (bu F) (pv 2) (pv 6) (pv 8) rfl)
   (aV (gv (jC (tG (pv 3) (pv 6) (aO aa) ⟨rfl,rfl,rfl,rfl⟩) (ah (pv 8) aa))))))))))))
   (aV (au (ri Fm rfl (T.no (vw _)) boot_tuple (ah (pv 4) aa)))))),?_⟩
  refine pR ?_;refine ⟨gj,λ f a4=>ai ?_⟩;have a0:t f=none:=D.sm.free a4;have Y:=Same.upd (o:=.lst []) a0;have M:jF r I g v f [.str z1,.str z2,.str z3] a t (upd t f (.lst [])) (upd H f (.lst [])) st [] [] a2 kvs:=by refine ⟨λ b o _ _ e=>Y _ _ e,R.same Y,?_,R.fresh a0,Y _ _ a1,Y _ _ eg,so,sl,a0,aB,bZ a1 a0,.nil,D.fresh a4,B⟩;obtain ⟨x,y,e,_⟩:=R;exact aK a1 e λ z=>by injection z with z;injection z with z;cases z
  generalize upd t f (.lst [])=H01 at M;generalize upd H f (.lst [])=H1 at M⊢;refine ⟨_,rfl,r,5,rfl,M.jar,by decide,by decide,λ t2 H2 k2 b0 b1=>⟨t2,rfl,by lia,by lia,?_⟩⟩;obtain ⟨b4,S2⟩:=M.draw k2;clear M;refine pH (λ i σ H'=>(∃G st' ps ys rows' kvs',ps.length=i/\jF r I g v f [.str z1,.str z2,.str z3] a t G H' st' ps ys rows' kvs')/\(E4 λ x5 x6 x7 x8=>σ=[some (.ref r),some (.ref I),some (.ref g),some (.ref v),some (.ref f),x5,x6,x7,x8])) ⟨⟨b4,st,[],[],a2,kvs,rfl,S2⟩,_,_,_,_,rfl⟩ ?_ ?_
  ·rintro i σ H3 hi ⟨⟨H03,st3,ps,ys,rows3,kvs3,rfl,S3⟩,x5,x6,x7,x8,rfl⟩;refine ai ?_;refine cy ?_;refine ⟨_,rfl,_,rfl,r,3,rfl,S3.jar,by decide,by decide,λ t4 H4 k4 c0 c1=>?_⟩;obtain ⟨d7,S⟩:=S3.draw k4;obtain ⟨z,hz,nz⟩:=KI n1 n2 n3 c0 c1;refine .inl ⟨I,_,t4,.str z,rfl,rfl,av.of (S.D.sm _ _ S.en),hz,ai ?_⟩;refine ⟨_,rfl,r,2,rfl,S.jar,by decide,by decide,λ t5 H5 k5 d0 d1=>?_⟩;obtain ⟨d4,d⟩:=S.draw k5;clear S3 S;have ly:ys.length=ps.length:=cz d.al;refine ⟨rfl,_,rfl,?_⟩;refine dw (λ hc=>?_) λ hc=>?_
   ·obtain ⟨x,hx,x1,x2⟩:=d.so.get (.inr z);refine ⟨_,rfl,.inl ⟨rfl,_,av.of (d.D.sm _ _ d.el)⟩,?_⟩;refine ⟨_,rfl,_,rfl,g,rfl,.inl ⟨_,.inl (d.D.sm _ _ d.eg)⟩,_,rfl,_,dh.k (k:=.inr z) (d.D.sm _ _ d.eg),?_⟩;rw [hx];refine ⟨lO,λ p L=>?_⟩;obtain ⟨e1,G,a3,h2,h3,l,W,h6,C⟩:=d.more L ⟨false,z,x⟩;refine ⟨f,ys,_,rfl,rfl,e1,W1 (m:=5) (by lia) (by decide),?_⟩;refine ⟨⟨G,st3,ps++[⟨false,z,x⟩],_,rows3,kvs3,by rw [F0];rfl,h2,?_,d.nr,d.lr,h3,l,d.so,by rw [F0];have:=d.sl;lia,d.fl,W,d.nn,h6,C,d.B.read ⟨nz,x1,x2⟩⟩,_,_,_,_,rfl⟩;obtain ⟨u1,u2,u3,u4⟩:=d.R;exact ⟨u1,u2,by rw [a3];exact u3,u4⟩
   ·refine cy ?_;refine wh (eB ?_);have lk:kvs3.length=rows3.length:=d.D.len;have tt:=d.B.tt;have c7:=sP d.B.inv.ne;refine oz (a:=v) (kvs:=kvs3) (λ _=>true) (λ i y _=>∃q,rows3[i]? = some q/\y=V.int (q.2.length:Nat)) (λ _ _ _ _ _ z=>z) (λ R h=>⟨_,rfl,h⟩) d.D.at' (M0 (m:=52) (by lia) (by decide)) ?_ ?_
    ·intro ob i k u hk H6 s6 KT KF f1 _;obtain ⟨J,a5,ek,l6,eu,d3,e3⟩:=Cf d.D.al hk;have ek:k=.inr J.1:=ek;have eu:u=.ref l6:=eu;subst ek;subst eu;obtain ⟨l7,hv,_,e7⟩:=d.D.has (n:=J.1) (ns:=J.2) (K0 a5);refine ⟨[some (kV (.inr J.1))],rfl,rfl,dk ?_⟩;refine ⟨_,rfl,_,rfl,v,.ref l7,rfl,.inl ⟨kvs3,.inr J.1,.inr ⟨ob,s6 _ _ aB⟩,rfl,hv.symm⟩,?_⟩;refine .inl ⟨l7,_,rfl,.inl (av.of (s6 _ _ (by rw [ae (aK e7 d.D.at' λ z=>nomatch z)];exact e7))),?_⟩;rw [q0];exact f1 rfl _ _ (Same.refl _) ⟨J,a5,rfl⟩
    intro ob l6 H6 d6 s6 c9 s7 c5 b2 a9;rw [List.filter_eq_self.mpr λ _ _=>rfl] at a9;have e6:=GW lk a9;subst e6;refine ⟨l6,_,rfl,av.of (by rw [ae b2];exact aB),.inl ⟨_,_,rfl,rfl,ai ?_⟩⟩;rw [zA];have Z:=d.same s7;generalize upd (upd H6 l6 _) v (.dK kvs3)=H7 at Z⊢;clear d;obtain ⟨c,b7⟩ :∃c:Nat,c=tot rows3 + 1:=⟨_,rfl⟩
    rw [show (1:Int) + ((tot rows3:Nat):Int)=(c:Nat) by lia];refine cy ?_;refine ⟨_,rfl,_,rfl,_,_,rfl,rfl,_,rfl,_,_,rfl,rfl,.inl ⟨by lia,by lia⟩,_,_,rfl,rfl,p9,.inl ⟨_,_,rfl,rfl,_,rfl,_,_,rfl,rfl,_,rfl,_,_,rfl,rfl,_,_,rfl,rfl,p9,_,_,rfl,rfl,Dh,λ p5 a6=>?_⟩⟩;have S8:=Z.same (Same.upd (o:=.lst [V.int (c:Nat),.int (0 - (c:Nat)),.int ((c:Nat) * 9999991),.int (10 ^ (9:Int).toNat + 1 - (c:Nat)),.int ((c:Nat) - 1 - 10 ^ (9:Int).toNat)]) a6);refine ⟨_,rfl,r,5,rfl,S8.jar,by decide,by decide,λ t9 H9 k9 g0 g1=>?_⟩;obtain ⟨d2,j⟩:=S8.draw k9;obtain ⟨x,hx,W⟩:=Iw (c:=c) g0 g1;have b6:p5≠r:=Z.jar.fresh a6;refine .inl ⟨p5,_,t9,.int x,rfl,rfl,av.of (k9.k _ _ b6 aB),hx,ai ?_⟩;clear Z S8;have xo:=xn W (by lia) (by lia);refine ⟨_,rfl,.inl ⟨rfl,_,av.of (j.D.sm _ _ j.el)⟩,?_⟩;refine ⟨_,rfl,_,rfl,lO,λ p L=>?_⟩;obtain ⟨e1,G,a3,h2,h3,l,a7,h6,C⟩:=j.more L ⟨true,z,x⟩;refine ⟨f,ys,_,rfl,rfl,e1,W1 (m:=5) (by lia) (by decide),?_⟩;have R0:aZ G r:=by obtain ⟨u1,u2,u3,u4⟩:=j.R;exact ⟨u1,u2,by rw [a3];exact u3,u4⟩
    have C:bV G (upd (upd H9 p (.tup [.str "write",.str z,.int x])) f (.lst (ys++[.ref p]))) v rows3 kvs3:=C;generalize upd (upd H9 p (.tup [.str "write",.str z,.int x])) f (.lst (ys++[.ref p]))=H10 at C⊢;have sl:=j.sl;refine cB ?_;refine ⟨_,rfl,_,rfl,_,rfl,g,_,rfl,.inl ⟨st3,.inr z,C.sm _ _ l,rfl,W1 (m:=52) (by lia) (by decide),rfl⟩,?_⟩;have a8:=C.both (o':=.dK (putK st3 (.inr z) (.int x))) l;generalize upd H10 g (.dK (putK st3 (.inr z) (.int x)))=H11 at a8⊢;refine cB (ky ?_);refine xS (n:=z) (x:=x) a8 (λ R h=>⟨_,rfl,h⟩) (λ R h=>⟨_,rfl,h⟩) (λ H' R h=>⟨_,rfl,h⟩) (W1 (m:=52) (by lia) (by decide)) (λ q hq=>W1 (m:=52) (by have:=sT hq;lia) (by decide)) λ c8 b5 b8=>?_;have b3:g≠f:=aK l a7 λ z=>nomatch z
    have b9:I≠g:=(aK l h3 λ z=>nomatch z).symm;refine ⟨⟨_,_,ps++[⟨true,z,x⟩],_,_,b5,by rw [F0];rfl,λ b o m1 X e=>by rw [ae X];exact h2 b o m1 X e,R0.keep (fh R0 l),j.nr,j.lr,by rw [ae b9];exact h3,aB,j.so.put xo.2.1 xo.2.2,?_,j.fl,by rw [ae b3.symm];exact a7,j.nn,bp (λ _ _ z=>cT.tk (λ b o e=>by rw [ae (aK l e λ z=>nomatch z).symm];exact e) z) h6,b8,j.B.write ha (by lia) nz (b7 ▸ W)⟩,_,_,_,_,rfl⟩;rw [F0];have:=pC (kvs:=st3) (k:=(.inr z:Key)) (v:=.int x);show _<=4 * a.length + (ps.length + 1)
    lia
  ·rintro σ H3 ⟨⟨H03,st3,ps,ys,rows3,kvs3,hi,S3⟩,x5,x6,x7,x8,rfl⟩;refine ⟨_,rfl,f,ys,rfl,.inl ⟨av.of (S3.D.sm _ _ S3.el),λ p L=>?_⟩⟩;have O:H03 p=none:=S3.D.sm.free L;have U:=Same.upd (o:=.tup ys) O;refine q p ps ys st3 rows3 kvs3 (upd H03 p (.tup ys)) _ (λ b o m1 X e=>U _ _ (S3.kp b o m1 X e)) (S3.R.same U) (U _ _ S3.eg) S3.so S3.sl aB ?_ (bp (λ _ _ z=>z.same U) S3.al) (by lia) (S3.D.fresh L) S3.B;cases e:t p with
   | none=>rfl
   | some o=>have c4:p≠r:=S3.R.fresh O;have c3:p≠g:=(bZ S3.eg O).symm;rw [S3.kp _ _ c4 c3 e] at O;cases O
theorem Bd.next {a:List (List Dd)} {ps:List Dd} {rows:bA} (B:Bd a ps rows) (h:ps.length<=4):Bd (a++[ps]) [] rows:=
 ⟨B.inv.new,B.ag,by have:=B.tt;rw [F0];show _<=4 * (a.length + 1) + 0;lia,B.nm,λ _ h=>nomatch h⟩
def Bd.nil:Bd [] [] []:=⟨Inv.nil.new,(λ _ h=>nomatch h),L0 _,(λ _ h=>nomatch h),λ _ h=>nomatch h⟩
def Inv.old {a:List (List Dd)} {rows:bA} (I:Inv (a++[[]]) rows):Inv a rows:=by refine ⟨I.nk,I.ne,λ n=>?_,I.nd,λ d b=>I.own d (b8 _ b)⟩;have:=I.pm n;rw [U2] at this;have this:(a_ rows n).Perm ((a.flatMap λ d=>bH d n)++[]):=this;rw [E1] at this;exact this
theorem Bd.gs {ds ds':List Dl} {rows:bA} (B:Bd (ds.map (·.ds)) [] rows) (l1:1<=ds.length) (l12:ds.length<=4) (ok :∀d∈ds,iN d) (p:ds'.Perm ds):Gs ds' rows:=by have i:=p.length_eq;have a:=B.tt;rw [q0] at a;have a:tot rows<=4 * ds.length + 0:=a;refine ⟨by lia,by lia,λ d e=>ok d (p.mem_iff.mp e),B.inv.old.perm (p.map _).symm,B.nm,λ r g x h=>?_,by lia⟩;obtain ⟨c,f,j,b⟩:=B.ag r g x h;exact (xn b f (by lia)).2
noncomputable def eE (ts:List Nat) (us:List V):List (Key×V):=(ts.zip us).map λ p=>((.inl (p.1:Int):Key),p.2)
theorem iF:∀{ts:List Nat} {us:List V} {j k:Nat} {u:V},ts.Nodup->ts[j]? = some k->us[j]? = some u->aH (eE ts us) (.inl (k:Int))=some u
 | t :: ts,y :: us,0,k,u,_,a,h2=>by cases a;cases h2;unfold aH eE;rw [j46,O0,C7 (by simp)];rfl
 | t :: ts,y :: us,j + 1,k,u,nd,a,h2=>by rw [L3] at nd;have a:ts[j]? = some k:=a;have ne:t≠k:=λ e=>nd.1 (e ▸ K0 a);have:=iF nd.2 a (show us[j]? = some u from h2);unfold aH eE at this⊢;rw [j46,O0,O5 (by simp;lia)];exact this
 | [],_,_,_,_,_,a,_=>by simp at a
 | _ :: _,[],_,_,_,_,_,h2=>by simp at h2
theorem jP {ts:List Nat} {us:List V} {t:Nat} {u:V} (hl:ts.length=us.length) (h:¬ t∈ts):putK (eE ts us) (.inl (t:Int)) u=eE (ts++[t]) (us++[u]):=by
 unfold putK;rw [Z_]
 ·unfold eE;rw [List.zip_append hl,Q3];rfl
 ·intro z;obtain ⟨d,b,a⟩:=List.any_eq_true.mp z;obtain ⟨p,c,rfl⟩:=List.mem_map.mp b;have a:=ZW a;injection a with a;have:p.1=t:=by lia
  exact h (this ▸ (V9 c).1)
theorem ni {ts:List Nat} {us:List V}:(eE ts us).length<=us.length:=by
 unfold eE;rw [q0,X9]
 lia
def Ip {α β:Type} {g:α->β} {l m:List β} (h:l.Perm m) :∀zs:List α,m=zs.map g->∃zs':List α,zs'.Perm zs/\l=zs'.map g:=by
 induction h with
 | nil=>exact λ zs e=>⟨zs,.refl _,e⟩
 | cons x _ ih=>
  intro zs e;cases zs with
  | nil=>cases e
  | cons z zs=>injection e with e1 e2;obtain ⟨zs',c,f⟩:=ih zs e2;exact ⟨z :: zs',c.cons z,by rw [O0,<-e1,<-f]⟩
 | swap x y _=>
  intro zs e
  match zs,e with
  | a :: b :: zs,e=>injection e with e1 e2;injection e2 with e2 e3;exact ⟨b :: a :: zs,.swap _ _ _,by rw [O0,O0,<-e1,<-e2,<-e3]⟩
 | trans _ _ ih1 ih2=>intro zs e;obtain ⟨k,j,n⟩:=ih2 zs e;obtain ⟨i,d,o⟩:=ih1 k n;exact ⟨i,d.trans j,o⟩
theorem IM {ts ks:List Nat} (p:ks.Perm ts) (nd:ts.Nodup) {ds:List Dl} {us us':List V} {R:Dl->V->Prop} (lt:ts.length=ds.length) (al:af R ds us) (h:af (λ (k:Nat) u=>∃j:Nat,ts[j]? = some k/\us[j]? = some u) ks us') :∃ds':List Dl,ds'.Perm ds/\af R ds' us':=by
 have e:ts=(ts.zip ds).map (·.1):=by rw [List.map_fst_zip (by lia)]
 obtain ⟨b,c,w⟩:=Ip p (ts.zip ds) e;refine ⟨b.map (·.2),?_,?_⟩
 ·have:=c.map (·.2);rw [List.map_snd_zip (by lia)] at this;exact this
 ·subst w;have sub :∀z∈b,z∈ts.zip ds:=λ z f=>c.mem_iff.mp f;clear c p e;induction b generalizing us' with
  | nil=>cases h;exact .nil
  | cons z b ih=>
   cases h with
   | cons a r=>refine .cons ?_ (ih r λ z f=>sub z (Z0 _ f));obtain ⟨j,v,s⟩:=a;obtain ⟨i,t⟩:=o6 (sub z Y0);obtain ⟨q,m⟩:=List.getElem?_zip_eq_some.mp t;obtain ⟨x,n⟩:=List.getElem?_eq_some_iff.mp v;obtain ⟨y,o⟩:=List.getElem?_eq_some_iff.mp q;have e:i=j:=(j20 nd).mp (o.trans n.symm);subst e;obtain ⟨d,g,l⟩:=dQ al s;rw [m] at g;cases g;exact l
structure jj (r nl g v sd tl:ZS) (zs:List V) (ts:List Nat) (HH H0 H:Hp) (st:List (Key×V)) (ds:List Dl) (us:List V) (ps:List Dd) (rows:bA) (kvs:List (Key×V)):Prop where
 kp:Kept r HH H0
 R:aZ H0 r
 nr:nl≠r
 tr:tl≠r
 en:H0 nl=some (.lst zs)
 et:H0 tl=some (.lst (ts.map nI))
 eg:H0 g=some (.dK st)
 es:H0 sd=some (.dK (eE (ts.take ds.length) us))
 gs:g≠sd
 fg:HH g=none
 fs:HH sd=none
 so:gi st
 sl:st.length<=4 * ds.length + ps.length
 ok :∀d∈ds,iN d
 al:af (bJ H0) ds us
 D:bV H0 H v rows kvs
 B:Bd (ds.map (·.ds)) ps rows
def jj.draw {r nl g v sd tl:ZS} {zs:List V} {ts:List Nat} {HH H0 H H':Hp} {st:List (Key×V)} {ds:List Dl} {us:List V} {ps:List Dd} {rows:bA} {kvs:List (Key×V)} (S:jj r nl g v sd tl zs ts HH H0 H st ds us ps rows kvs) (J:Jw r H H') :∃H0',dY H0 H0'/\jj r nl g v sd tl zs ts HH H0' H' st ds us ps rows kvs:=by obtain ⟨H0',a,c⟩:=S.D.draw S.R J;exact ⟨H0',a.tupk S.R,λ b o n e=>a.k _ _ n (S.kp b o n e),a.r,S.nr,S.tr,a.k _ _ S.nr S.en,a.k _ _ S.tr S.et,a.k _ _ (fh S.R S.eg) S.eg,a.k _ _ (fh S.R S.es) S.es,S.gs,S.fg,S.fs,S.so,S.sl,S.ok,bp (λ _ _ z=>bJ.tk (a.tupk S.R) z) S.al,c,S.B⟩
def jj.jar {r nl g v sd tl:ZS} {zs:List V} {ts:List Nat} {HH H0 H:Hp} {st:List (Key×V)} {ds:List Dl} {us:List V} {ps:List Dd} {rows:bA} {kvs:List (Key×V)} (S:jj r nl g v sd tl zs ts HH H0 H st ds us ps rows kvs):aZ H r:=S.R.same S.D.sm
theorem jj.done {r nl g v sd tl q p:ZS} {zs ys:List V} {ts:List Nat} {HH H0 H:Hp} {st:List (Key×V)} {ds:List Dl} {us:List V} {ps:List Dd} {rows:bA} {kvs:List (Key×V)} (S:jj r nl g v sd tl zs ts HH H0 H st ds us ps rows kvs) (eq:H0 q=some (.tup ys)) (aq:af (cT H0) ps ys) (lp:ps.length<=4) (hp:H p=none) {b e:Int} (b0:0<=b) (be:b < e) {t:Nat} (ht:ts[ds.length]? = some t) (nd:ts.Nodup) :
  (upd H p (.tup [.int b,.int e,.ref q])) sd=some (.dK (eE (ts.take ds.length) us))/\∃H0',jj r nl g v sd tl zs ts HH H0' (upd (upd H p (.tup [.int b,.int e,.ref q])) sd (.dK (putK (eE (ts.take ds.length) us) (.inl (t:Int)) (.ref p)))) st (ds++[⟨b,e,ps⟩]) (us++[.ref p]) [] rows kvs:=by
 have s:H0 p=none:=S.D.sm.free hp;have a:=Same.upd (o:=.tup [.int b,.int e,.ref q]) s;have j:=S.D.fresh (o:=.tup [.int b,.int e,.ref q]) hp;have i:=a _ _ S.es;have l:upd H0 p (.tup [.int b,.int e,.ref q]) p=some (.tup [.int b,.int e,.ref q]):=aB;refine ⟨j.sm _ _ i,?_⟩;have w:us.length=ds.length:=cz S.al;have x:ds.length < ts.length:=(List.getElem?_eq_some_iff.mp ht).1;have k:ts.take (ds.length + 1)=ts.take ds.length++[t]:=by rw [N4,ht];rfl
 have u:¬ t∈ts.take ds.length:=by have:=nd.sublist (j18 (ds.length + 1) ts);rw [k,j50] at this;exact λ h=>this.2.2 t h t (List.mem_singleton.mpr rfl) rfl
 rw [jP (by rw [Y1];lia) u,<-k];have o':=j.both (o':=.dK (eE (ts.take (ds.length + 1)) (us++[.ref p]))) i;have m:sd≠r:=fh S.R S.es;have f:dY H0 (upd (upd H0 p (.tup [.int b,.int e,.ref q])) sd (.dK (eE (ts.take (ds.length + 1)) (us++[.ref p])))):=λ b o e=>by rw [ae (aK e S.es λ z=>nomatch z)];exact a _ _ e
 refine ⟨_,λ b o n e=>by rw [ae (bZ e S.fs)];exact a _ _ (S.kp b o n e),(S.R.same a).keep m,S.nr,S.tr,by rw [ae (aK S.en S.es λ z=>nomatch z)];exact a _ _ S.en,by rw [ae (aK S.et S.es λ z=>nomatch z)];exact a _ _ S.et,by rw [ae S.gs];exact a _ _ S.eg,by rw [F0];exact aB,S.gs,S.fg,S.fs,S.so,?_,λ d c=>?_,?_,o',?_⟩
 ·have:=S.sl;rw [F0];show st.length<=4 * (ds.length + 1) + 0
  lia
 ·rcases List.mem_append.mp c with c|c
  ·exact S.ok d c
  ·rw [List.mem_singleton.mp c];exact ⟨b0,be,lp,S.B.ok⟩
 ·refine k7 (bp (λ _ _ z=>bJ.tk f z) S.al) (.cons ⟨p,q,ys,rfl,?_,f _ _ eq,bp (λ _ _ z=>z.tk f) aq⟩ .nil);rw [ae (aK l i λ z=>nomatch z)];exact l
 ·rw [Q3];exact S.B.next lp
def vv {r l:ZS} {H H0:Hp} (k:Kept r H H0) (n:l≠r) (h:H0 l=none):H l=none:=by
 cases e:H l with
 | none=>rfl
 | some o=>rw [k _ _ n e] at h;cases h
def pM.tk {r g:ZS} {H H':Hp} {st:List (Key×V)} (k:pM r g H H') (R:aZ H r) (eg:H g=some (.dK st)):dY H H':=λ p b e=>by obtain ⟨x,y,a,_⟩:=R;exact k p _ (aK e a λ z=>nomatch z) (aK e eg λ z=>nomatch z) e
def jj.doings {r nl g v sd tl:ZS} {zs:List V} {ts:List Nat} {HH H0 H H0' H':Hp} {st st':List (Key×V)} {ds:List Dl} {us:List V} {ps:List Dd} {rows rows':bA} {kvs kvs':List (Key×V)} (S:jj r nl g v sd tl zs ts HH H0 H st ds us [] rows kvs) (k:pM r g H0 H0') (R':aZ H0' r) (eg:H0' g=some (.dK st')) (so:gi st') (sl:st'.length<=4 * (ds.map (·.ds)).length + ps.length) (D':bV H0' H' v rows' kvs') (B':Bd (ds.map (·.ds)) ps rows'):jj r nl g v sd tl zs ts HH H0' H' st' ds us ps rows' kvs':=by have tk:=k.tk S.R S.eg;rw [q0] at sl;exact ⟨λ b o n e=>k b o n (bZ e S.fg) (S.kp b o n e),R',S.nr,S.tr,k _ _ S.nr (aK S.en S.eg λ z=>nomatch z) S.en,k _ _ S.tr (aK S.et S.eg λ z=>nomatch z) S.et,eg,k _ _ (fh S.R S.es) S.gs.symm S.es,S.gs,S.fg,S.fs,so,sl,S.ok,bp (λ _ _ z=>bJ.tk tk z) S.al,D',B'⟩
theorem JP {i:Int} (h0:0<=i) (h1:i < 5) :∃x:Int,jE [V.int 1,.int 1,.int 7,.int (10 ^ (9:Int).toNat + 7),.int (10 ^ (50:Int).toNat)] i=some (.int x)/\1<=x:=by
 obtain ⟨n,rfl⟩ :∃n:Nat,i=n:=⟨i.toNat,by lia⟩
 have h1:n < 5:=by lia
 match n,h1 with
 | 0,_=>exact ⟨_,rfl,by decide⟩
 | 1,_=>exact ⟨_,rfl,by decide⟩
 | 2,_=>exact ⟨_,rfl,by decide⟩
 | 3,_=>exact ⟨_,rfl,by decide +kernel⟩
 | 4,_=>exact ⟨_,rfl,by decide +kernel⟩
def qO {ta:TE} {tr:TA} {σ:L2.St} {H:Hp} {Q:VK} (h:ta σ H λ x H1=>tr σ H1 λ xs H2=>(x :: xs).length<=ZG/\∀p,H2 p=none->Q (.ref p) (upd H2 p (.tup (x :: xs)))):qJ (fX ta tr) σ H Q:=h
def Al:Sp:=λ vs H Q _=>∃r,A3 (vs=[.ref r,.int 4]) (aZ H r) (∀t a v u us ds rows kvs ts H0 H',Kept r H H0->aZ H0 r->H0 t=some (.tup [.ref a,.ref v,.ref u])->H a=none->H0 a=some (.lst us)->af (bJ H0) ds us->bV H0 H' v rows kvs->Gs ds rows->H0 u=some (.lst ts)->Q (.ref t) H')
theorem FU (T:TX (kx w) mg) (c2:Ca P w mg base "_law_take" ["jar","many"] 1 mG) (c3:Ca P w mg base "_law_names" ["jar"] 2 ym) (c4:Ca P w mg base "_law_turns" ["jar","many"] 2 yW) (c5:Ca P w mg base "_law_doings" ["jar","names","store","versions"] 2 AY):Fo P w mg base CX0 3 260 ue ["jar","most"] Al:=by
 refine (xw w.params).ok aS (λ vs H Q E h=>?_) (λ f3 A g0 s H vs Q E d h=>?_)
 ·obtain ⟨r,rfl,_⟩:=h;rfl
 ·obtain ⟨r,rfl,R,q⟩:=h;refine ⟨_,(aR (ar (i:=2) aS.nd rfl (O1 rfl) (aj c3 (d.mono (by decide)) rfl (ah (pv 0) aa)))
   (aR (ar (i:=3) aS.nd rfl (O1 rfl) (aj c4 (d.mono (by decide)) rfl (ah (pv 0) (ah (aA bM ab (aj c2 (d.mono (by decide)) rfl (ah (pv 0) (ah (pv 1) aa)))) aa))))
   (aR (ar (i:=4) aS.nd rfl (O1 rfl) (ao ak (aO (ah ab (ah ab (ah ab (ah (aA bM (aA eH ab ab) ab) (ah (aA eH ab ab) aa)))))) (aj c2 (d.mono (by decide)) rfl (ah (pv 0) (ah ab aa))) (λ _ _=>rfl)))
   (aR (ar (i:=5) aS.nd rfl (O1 rfl) lH)
   (aR (ar (i:=6) aS.nd rfl (O1 rfl) lH)
   (aR (ar (i:=7) aS.nd rfl (N1 rfl) lH)
   (aR (aW Z1 rfl (kX rfl (T.no (i_ _)) (ah (cX gG rfl (T.no (bW _)) C5 (ah (pv 3) aa)) aa)) (cZ (i:=8) aS.nd rfl (O1 rfl))
   (aR (ar (i:=9) aS.nd rfl (O1 rfl) (aj c5 (d.mono (by decide)) rfl (ah (pv 0) (ah (pv 2) (ah (pv 5) (ah (pv 6) aa))))))
   (aR (ar (i:=10) aS.nd rfl (O1 rfl) (aA dG (cX (DU rfl) rfl (T.no (qT _)) boot_max (ah ab (ah (aA eG (aA dG ab (pv 8)) (aj c2 (d.mono (by decide)) rfl (ah (pv 0) (ah ab aa)))) aa))) (pv 4)))
   (aV (mj (bu d) (pv 7) (ao ak (pv 3) (pv 8) (λ _ _=>rfl)) (bh (ah (pv 10) (ah (aA dG (aA bM (aA bM (aA dG ab (pv 8)) ab) (aj c2 (d.mono (by decide)) rfl (ah (pv 0) (ah ab aa)))) (pv 4)) (ah (pv 9) aa)))) rfl)))))
   (aV (au (bh (ah (cH (xs:=["k"]) (g:=aI 0) (fr:=[(7,"some")]) (kX rfl (T.no (i_ _)) (ah (cX gG rfl (T.no (bW _)) C5 (ah (pv 3) aa)) aa)) (λ _ _ _ _ _=>(aU (N:=["k","some"]) 0)) (λ _ _ _ _ _=>b_) (λ _ _ _ _ _=>(mn (bu d) (pv 1) (pv 0) (λ _ _=>rfl)))) (ah (pv 6) (ah (pv 3) aa))))))))))))),?_⟩
  refine cy ?_;refine ⟨_,rfl,r,rfl,R,λ U z1 z2 z3 H1 k1 c7 e1 n1 n2 n3=>ai ?_⟩;refine cy ?_;refine ⟨_,rfl,_,rfl,_,rfl,r,4,rfl,k1.r,by decide,by decide,λ t2 H2 W a0 a1=>?_⟩;obtain ⟨m,rfl⟩ :∃m:Nat,t2=m:=⟨t2.toNat,by lia⟩
  refine .inl ⟨_,_,rfl,rfl,r,m + 1,by rw [show (1:Int) + (m:Nat)=((m + 1:Nat):Int) by lia];rfl,W.r,by lia,λ c ts H3 Y b4 e3 pm=>ai ?_⟩;have lt:ts.length=m + 1:=by rw [pm.length_eq,Q1]
  have nd:ts.Nodup:=pm.nodup_iff.mpr C6;refine cy ?_;refine ⟨10,9,rfl,rfl,⟨by decide,by decide,by decide⟩,.inl ⟨_,_,rfl,rfl,10,50,rfl,rfl,⟨by decide,by decide,by decide⟩,Dh,λ p4 a7=>?_⟩⟩;have J:=Same.upd (o:=.lst [V.int 1,.int 1,.int 7,.int (10 ^ (9:Int).toNat + 7),.int (10 ^ (50:Int).toNat)]) a7;refine ⟨_,rfl,r,5,rfl,Y.r.same J,by decide,by decide,λ t5 F I c0 c1=>?_⟩;obtain ⟨x,b9,e9⟩:=JP c0 c1;have d3:p4≠r:=Y.r.fresh a7;refine .inl ⟨p4,_,t5,.int x,rfl,rfl,av.of (I.k _ _ d3 aB),b9,ai ?_⟩;have a4:U≠r:=R.fresh c7;have c8:c≠r:=W.r.fresh b4;have d2:=I.k _ _ a4 (J _ _ (Y.k _ _ a4 (W.k _ _ a4 e1)));have d5:=I.k _ _ c8 (J _ _ e3);have a9:Kept r H F:=k1.k.trans (W.k.trans (Y.k.trans (J.kept.trans I.k)));have R5:=I.r;clear k1 W Y I e1 e3 J b9 a7 c7 b4;refine cy ?_;refine λ g hg=>ai ?_;refine cy ?_;refine λ v hv=>ai ?_;refine cy ?_;refine λ f b5=>ai ?_;have M:jj r U g v f c [.str z1,.str z2,.str z3] ts H (upd (upd F g (.dK [])) f (.dK [])) (upd (upd (upd F g (.dK [])) v (.dK [])) f (.dK [])) [] [] [] [] [] []:=by
   have G:=Same.upd (o:=.dK []) hg;have D0:bV (upd F g (.dK [])) (upd (upd F g (.dK [])) v (.dK [])) v [] []:=⟨Same.upd hv,hv,aB,.nil,B3,B3⟩
   have a3:=D0.sm.free b5;have K:=Same.upd (o:=.dK []) a3;refine ⟨λ b o n e=>K _ _ (G _ _ (a9 b o n e)),(R5.same G).same K,a4,c8,K _ _ (G _ _ d2),K _ _ (G _ _ d5),K _ _ aB,?_,bZ aB a3,vv a9 (R5.fresh hg) hg,vv a9 (R5.fresh (G.free a3)) (G.free a3),(λ _ h=>nomatch h),K2 _,(λ _ h=>nomatch h),.nil,D0.fresh b5,Bd.nil⟩;unfold eE;rw [List.zip_nil_right];exact aB
  generalize upd (upd F g (.dK [])) f (.dK [])=H06 at M;generalize upd (upd (upd F g (.dK [])) v (.dK [])) f (.dK [])=H6 at M⊢;have lm:(ts.map nI).length=ts.length:=q0 _;refine ⟨_,rfl,.inl ⟨c,_,rfl,.inl (av.of (M.D.sm _ _ M.et)),((ts.map nI).length:Nat),rfl,by lia,by lia,?_⟩⟩;refine pH (λ i σ H'=>(∃H0' st ds us rows kvs,ds.length=i/\jj r U g v f c [.str z1,.str z2,.str z3] ts H H0' H' st ds us [] rows kvs)/\(E3 λ x8 x9 a6=>σ=[some (.ref r),some (.int 4),some (.ref U),some (.ref c),some (.int x),some (.ref g),some (.ref v),some (.ref f),x8,x9,a6])) ⟨⟨H06,[],[],[],[],[],rfl,M⟩,_,_,_,rfl⟩ ?_ ?_
  ·rintro i σ H7 hi ⟨⟨H07,st7,ds,us,rows,kvs,rfl,S7⟩,x8,x9,a6,rfl⟩;have hi:ds.length < (ts.map nI).length:=hi;rw [show (0:Int) + (ds.length:Nat)=(ds.length:Nat) by lia];refine ai ?_;refine cy ?_;have e2:=S7.sl;refine ⟨_,rfl,_,rfl,_,rfl,_,rfl,r,U,g,v,z1,z2,z3,st7,rows,kvs,H07,ds.map (·.ds),rfl,S7.R,S7.en,n1,n2,n3,S7.eg,S7.so,by rw [q0];exact e2,S7.D,S7.B,by rw [q0];lia,λ q' ps X f8 f5 f2 f6 H8 b6 R8 c9 b8 b3 e6 f4 d9 d8 O B8=>ai ?_⟩;have S8:=S7.doings b6 R8 c9 b8 b3 O B8;clear S7 b6 R8 c9 b8 b3 O B8;refine cy ?_;refine ⟨_,rfl,10,_,rfl,rfl,.inl ⟨by decide,by decide⟩,_,rfl,r,25,rfl,S8.jar,by decide,by decide,λ t9 H9 k9 d0 d1=>⟨_,_,rfl,rfl,0,10 * ((ds.length:Nat):Int) - t9,rfl,?_⟩⟩;obtain ⟨f7,c6,S9⟩:=S8.draw k9;obtain ⟨C,d4,b0,b1⟩ :∃C:Int,(if 10 * ((ds.length:Nat):Int) - t9 > 0 then 10 * ((ds.length:Nat):Int) - t9 else 0)=C/\0<=C/\C<=10 * ((ds.length:Nat):Int):=⟨_,rfl,by split<;>lia,by split<;>lia⟩
   rw [d4];refine ⟨_,rfl,C,x,rfl,rfl,.inl ⟨by lia,by lia⟩,ai ?_⟩;refine ⟨_,rfl,_,rfl,10,_,rfl,rfl,.inl ⟨by decide,by decide⟩,.inl ⟨_,_,rfl,rfl,_,rfl,r,25,rfl,S9.jar,by decide,by decide,λ a5 f9 e0 f0 f1=>.inl ⟨_,_,rfl,rfl,_,rfl,10 * ((ds.length:Nat):Int) + 1 + a5,x,rfl,rfl,.inl ⟨by lia,by lia⟩,_,rfl,lO,λ p hp=>?_⟩⟩⟩;obtain ⟨g1,b7,a2⟩:=S9.draw e0;have L:=C0 (show ds.length < ts.length by lia);obtain ⟨e8,d6,e7⟩:=a2.done (b7 _ _ (c6 _ _ e6)) (bp (λ _ _ z=>(z.tk c6).tk b7) d9) d8 hp (b:=C * x) (e:=(10 * ((ds.length:Nat):Int) + 1 + a5) * x) (Int.mul_nonneg b0 (by lia)) (Int.mul_lt_mul_of_pos_right (by lia) (by lia)) L nd;have sp:=Same.upd (o:=.tup [.int (C * x),.int ((10 * ((ds.length:Nat):Int) + 1 + a5) * x),.ref q']) hp;have ls:=ni (ts:=ts.take ds.length) (us:=us);have lu:=cz a2.al;refine ⟨_,rfl,_,rfl,_,rfl,.inl ⟨c,_,(ds.length:Nat),nI (ts[ds.length]'(by lia)),rfl,rfl,av.of (sp _ _ (a2.D.sm _ _ a2.et)),bU (by rw [C1,L];rfl),?_⟩⟩;exact ⟨f,_,rfl,.inl ⟨_,.inl ((ts[ds.length]'(by lia):Nat):Int),e8,rfl,W1 (m:=60) (by lia) (by decide),rfl⟩,⟨d6,_,_,_,_,_,by rw [F0];rfl,e7⟩,_,_,_,rfl⟩
  ·rintro σ H7 ⟨⟨H07,st7,ds,us,rows,kvs,hl,S7⟩,x8,x9,a6,rfl⟩;have hl:ds.length=(ts.map nI).length:=hl;refine cB (cc (qO ?_));refine pV (S:=Same) (n:=ts.length) (H1:=H7) (λ _=>true) (λ i y H'=>∃j:Nat,ts[j]? = some i/\us[j]? = some y) (Same.refl _) (λ _ _ _ a b=>a.trans b) (λ _ _=>Same.refl _) (λ _ _ _ _ _ z=>z) (λ T h=>⟨_,rfl,.inl ⟨c,_,rfl,.inl (av.of (S7.D.sm _ _ S7.et)),by rw [lm];exact h⟩⟩) (M0 (m:=60) (by lia) (by decide)) ?_ ?_
   ·intro i hi H8 s8 KT KF f1 _;refine ⟨[some (.int i)],rfl,rfl,dk ?_⟩;have hm:i∈ts:=pm.mem_iff.mpr (List.mem_range.mpr (by lia));obtain ⟨j,hj⟩:=o6 hm;have e4:j < us.length:=by have:=(List.getElem?_eq_some_iff.mp hj).1;have:=cz S7.al;lia
    have hu:=C0 e4;have es:=s8 _ _ (S7.D.sm _ _ S7.es);rw [show ts.take ds.length=ts by rw [hl,lm];exact W2] at es;have dg:=dh.k (k:=.inl (i:Int)) es;rw [iF nd hj hu] at dg;exact ⟨_,rfl,_,rfl,f,_,rfl,dg,f1 rfl _ _ (Same.refl _) ⟨j,hj,hu⟩⟩
   intro l H8 X s8 b2 Z;rw [List.filter_eq_self.mpr λ _ _=>rfl] at Z;have Z:af (λ (k:Nat) u=>∃j:Nat,ts[j]? = some k/\us[j]? = some u) (N0 ts.length) X:=Z;rw [lt] at Z;obtain ⟨d7,pd,ad⟩:=IM pm.symm nd (by lia) S7.al Z;have O:=S7.D.beside s8;have a8:H07 l=none:=O.sm.free b2;have sl:=Same.upd (o:=.lst X) a8;have D9:=O.fresh (o:=.lst X) b2;refine ⟨_,rfl,_,rfl,lO,λ t L=>?_⟩;have e5:=D9.sm.free L;have st:=Same.upd (o:=.tup [.ref l,.ref v,.ref c]) e5;have s9:=sl.trans st;exact q t l v c X d7 rows kvs (ts.map nI) _ _ (λ b o n e=>s9 _ _ (S7.kp b o n e)) (S7.R.same s9) aB (vv S7.kp (S7.R.fresh a8) a8) (st _ _ aB) (bp (λ _ _ z=>z.same s9) ad) (D9.fresh L) (S7.B.gs (by lia) (by lia) S7.ok pd) (s9 _ _ S7.et)
noncomputable def jh (d:Dd):ZL:=.tuple [.str (vb d.w),.str d.n,.int d.x]
def mK (h:vb a=vb b):a=b:=by
 cases a<;>cases b
 ·rfl
 ·exact ZU h (by decide +kernel)
 ·exact ZU h (by decide +kernel)
 ·rfl
def Ik (h:jh d=jh e):d=e:=by obtain ⟨a,b,c⟩:=d;obtain ⟨j,l,k⟩:=e;injection h with h;injection h with f h;injection h with i h;injection h with g h;injection f with f;injection i with i;injection g with g;have f:a=j:=mK f;have i:b=l:=i;have g:c=k:=g;rw [f,i,g]
def pB {d:Dd} (h:aF d.n):bg (jh d)=true:=by show ((w5 (vb d.w)).canLay0 && ((w5 d.n).canLay0 && (true && true)))=true;rw [vq h];cases d.w<;>decide +kernel
def cT.pd {K:B0} {H:Hp} {d:Dd} {y:V} (h:cT H d y):bY K H (jh d) y:=by obtain ⟨p,rfl,e⟩:=h;exact ⟨p,_,rfl,aG.of e,_,_,rfl,rfl,_,_,rfl,rfl,_,_,rfl,rfl,rfl⟩
theorem kr {K:B0} {H:Hp} :∀{ds:List Dd} {ys:List V},af (cT H) ds ys->dJ K H (ds.map jh) ys
 | [],_,.nil=>rfl
 | _ :: _,_,.cons a r=>⟨_,_,rfl,a.pd,kr r⟩
theorem zk:∀{ds:List Dd},(∀d∈ds,aF d.n)->g_ (ds.map jh)=true
 | [],_=>rfl
 | d :: ds,h=>by show (bg (jh d) && g_ (ds.map jh))=true;rw [pB (h d Y0),zk λ e a=>h e (Z0 _ a)];rfl
def FD {ds:List Dd} (h :∀d∈ds,aF d.n) {c:Dd} (hc:aF c.n):((ds.map jh).any λ e=>e.eqv (jh c))=decide (c∈ds):=by
 rw [Bool.eq_iff_iff,List.any_eq_true,decide_eq_true_eq];constructor
 ·rintro ⟨e,he,q⟩;obtain ⟨d,a,rfl⟩:=List.mem_map.mp he;rw [pO _ _ (pB (h d a)) (pB hc)] at q;exact Ik q ▸ a
 ·intro b;exact ⟨_,List.mem_map.mpr ⟨c,b,rfl⟩,(pO _ _ (pB hc) (pB hc)).mpr rfl⟩
def CP:Sp:=λ vs H Q _=>E5 λ a us ds n x=>A8 (vs=[.ref a,.str n,.int x]) (H a=some (.lst us)) (af (bJ H) ds us) (ds.length<=12) ((∀d∈ds,∀c∈d.ds,aF c.n)) (aF n) (UW ds) (∀H',Same H H'->Q (oV (ff ds n x)) H')
theorem Dr (T:TX (kx w) mg):Fo P w mg base CX0 1 267 vk ["some","name","worth"] CP:=by
 refine (vF w.params).ok dS (λ v H Q E h=>?_) (λ Y A Z s H v Q E R h=>?_)
 ·obtain ⟨a,b,k,n,x,rfl,_⟩:=h;rfl
 ·obtain ⟨a,b,k,n,x,rfl,F,C,a0,W,D,U,q⟩:=h;refine ⟨_,(aR (aW Z1 rfl (kX rfl (T.no (i_ _)) (ah (cX gG rfl (T.no (bW _)) C5 (ah (pv 0) aa)) aa)) (cZ (i:=3) dS.nd rfl (O1 rfl))
   (aV (aQ (dj (kB R) (bh (ah bf (ah (pv 1) (ah (pv 2) aa)))) (ao ak (ao ak (pv 0) (pv 3) (λ _ _=>rfl)) ab (λ _ _=>rfl)) (by with_unfolding_all rfl))
   (aV (au (pv 3)))
   dI)))
   (aV (au eF))),?_⟩
  have X:b.length=k.length:=cz C;refine ⟨_,rfl,.inl ⟨a,b,rfl,.inl (av.of F),(b.length:Nat),rfl,by lia,by lia,?_⟩⟩;refine pH (λ i σ K=>(Same H K/\∀j,j < i->¬ Wr k j n x)/\(∃x3,σ=[some (.ref a),some (.str n),some (.int x),x3])) ⟨⟨Same.refl _,λ j h=>ZU h (Z2 _)⟩,_,rfl⟩ ?_ ?_
  ·rintro i σ m u ⟨⟨s1,no⟩,x3,rfl⟩;have u:i < b.length:=u;rw [show (0:Int) + (i:Nat)=(i:Nat) by lia];refine ai ?_;obtain ⟨d,l,p,r,v,M,V,L,N⟩:=dQ C (C0 u);refine ⟨_,rfl,_,rfl,lO,λ t O=>?_⟩;have f:=s1.trans (Same.upd (o:=.tup [.str "write",.str n,.int x]) O);have J:upd m t (.tup [.str "write",.str n,.int x]) t=some (.tup [.str "write",.str n,.int x]):=aB;generalize upd m t (.tup [.str "write",.str n,.int x])=H2 at f J⊢;refine ⟨_,rfl,_,rfl,.inl ⟨a,b,i,.ref p,rfl,rfl,av.of (f _ _ F),bU (by rw [C0 u,M]),?_⟩⟩;refine .inr (.inl ⟨p,_,2,.ref r,rfl,rfl,aG.of (f _ _ V),bU (j:=2) rfl,?_⟩);have G:=W d (K0 l);have S:cT H2 ⟨true,n,x⟩ (.ref t):=⟨t,rfl,J⟩
   refine ⟨jh ⟨true,n,x⟩,d.ds.map jh,S.pd,.inr ⟨r,v,rfl,aG.of (f _ _ L),kr (bp (λ _ _ z=>z.same f) N)⟩,pB D,zk G,(show _<=60 by simp [jh,PyData.depth,Q2]),_,rfl,?_⟩;rw [Z_ (by decide),FD G (c:=⟨true,n,x⟩) D];have I:Wr k i n x↔(⟨true,n,x⟩:Dd)∈d.ds:=⟨λ ⟨e,he,B⟩=>by rw [l] at he;cases he;exact B,λ B=>⟨d,l,B⟩⟩
   refine dw (λ z=>?_) λ z=>?_
   ·have:=(jm U).mpr (I.mpr (ZW z));have q:=q H2 f;rw [this] at q;exact ⟨_,rfl,q⟩
   ·refine ⟨⟨f,λ j hj g=>?_⟩,_,rfl⟩;rcases Y3 j i with y|y
    ·exact no j y g
    ·have:j=i:=by lia
     subst this;exact z (ZY (I.mp g))
  ·rintro σ m ⟨⟨s1,no⟩,x3,rfl⟩;have:=hZ.mpr λ i (g:Wr k i n x)=>no i (by
    obtain ⟨d,l,_⟩:=g;have:=(List.getElem?_eq_some_iff.mp l).1;show i < b.length
    lia) g
   have q:=q m s1;rw [this] at q;exact q
def qc:R2:=λ x y H Q=>∃a b xs ys,x=.ref a/\y=.ref b/\H a=some (.tup xs)/\H b=some (.tup ys)/\xs.length + ys.length<=ZG/\∀z H',Same H H'->H' z=some (.tup (xs++ys))->Q (.ref z) H'
def xW {X:Cx}:c_ X (V6 .Add) qc:=by
 intro e s σ H x y v u Q I g f h;obtain ⟨a,b,j,i,rfl,rfl,d,c,m,q⟩:=h;by_cases hx:j=[]
 ·subst hx;exact Kl e s σ H _ _ v u Q I g f ⟨a,b,i,rfl,rfl,aG.of d,aG.of c,q b H (Same.refl _) c⟩
 ·exact zx e s σ H _ _ v u Q I g f ⟨a,b,j,i,rfl,rfl,aG.of d,aG.of c,hx,m,λ l=>q a H (Same.refl _) (by rw [l,E1];exact d),λ _ p k=>q p _ (Same.upd k) aB⟩
def bV.adopt (D:bV H0 H f rows kvs) (e:H p=some (.tup xs)):Same H0 (upd H0 p (.tup xs))/\bV (upd H0 p (.tup xs)) H f rows kvs:=by
 have d:f≠p:=aK D.at' e λ z=>nomatch z
 refine ⟨λ b o h=>?_,λ b o h=>?_,by rw [ae d];exact D.fr,D.at',bp (λ j q y=>?_) D.al,D.nl,D.nk⟩
 ·by_cases n:b=p
  ·rw [n] at h⊢;rw [aB,<-e];exact D.sm _ _ h
  ·rw [ae n];exact h
 ·by_cases n:b=p
  ·rw [n,aB] at h;rw [n,e];exact h
  ·rw [ae n] at h;exact D.sm _ _ h
 ·obtain ⟨g,m,c,i,a⟩:=y;exact ⟨g,m,c,by rw [ae (aK a e λ z=>nomatch z)];exact i,a⟩
def iy {xs:List V} {k:Nat} (h:k<=xs.length):cj xs none (some (k:Int))=xs.take k:=by unfold cj;rw [HT.sIx_nat,HT.sIx_none,j02 h,Nat.sub_zero,j7h]
theorem xO {xs:List V} {k:Nat} (h:k<=xs.length):cj xs (some (k:Int)) none=xs.drop k:=by unfold cj;rw [HT.sIx_nat,HT.sIx_none,j02 h];exact c9 (by rw [P3];lia)
theorem mT {α β:Type} {R:α->β->Prop} :∀{xs:List α} {ys:List β} (n:Nat),af R xs ys->af R (xs.take n) (ys.take n)
 | _,_,0,_=>.nil
 | _,_,n + 1,.nil=>.nil
 | _,_,n + 1,.cons a r=>.cons a (mT n r)
theorem CC {α β:Type} {R:α->β->Prop} :∀{xs:List α} {ys:List β} (n:Nat),af R xs ys->af R (xs.drop n) (ys.drop n)
 | _,_,0,h=>h
 | _,_,n + 1,.nil=>.nil
 | _,_,n + 1,.cons _ r=>CC n r
def ER {ps:List Dd} {k:Nat} {d:Dd} (hd:ps[k]? = some d) (hw:d.w=false) (x:Int) (n:ZR):bH (ps.take k++[⟨false,d.n,x⟩]++ps.drop (k + 1)) n=bH ps n:=by
 have f:k < ps.length:=(List.getElem?_eq_some_iff.mp hd).1;have e:ps=ps.take k++[d]++ps.drop (k + 1):=by rw [T2,List.singleton_append,<-(List.getElem?_eq_some_iff.mp hd).2,List.getElem_cons_drop,N6]
 rw [nR,nR];have z :∀c:Dd,c.w=false->bH [c] n=[]:=λ c b=>by show (if c.w=true/\c.n=n then [c.x] else [])++[]=[];rw [Z_ λ y=>by rw [b] at y;exact nomatch y.1];rfl
 rw [z _ rfl];have a:=ZT (λ l=>bH l n) e;have a:bH ps n=bH (ps.take k++[d]++ps.drop (k + 1)) n:=a;rw [a,nR,nR,z _ hw]
def CD:Sp:=λ vs H Q _=>E8 λ r q v us ps rows kvs H0=>A9 (vs=[.ref r,.ref q,.ref v]) (aZ H0 r) (H0 q=some (.tup us)) (af (cT H0) ps us) (ps.length<=4) ((∀d∈ps,iZ d)) (bV H0 H v rows kvs) ((∀r∈rows,r.2.length<=48/\∀x∈r.2,-1000000000<=x/\x<=1000000000)) (∀q' us' ps' H0' H',Kept r H0 H0'->aZ H0' r->H0' q'=some (.tup us')->af (cT H0') ps' us'->(∀n,bH ps' n=bH ps n)->ps'.length<=4->(∀d∈ps',iZ d)->bV H0' H' v rows kvs->Q (.ref q') H')
theorem HB (T:TX (kx w) mg) (c2:Ca P w mg base "_law_take" ["jar","many"] 1 mG):Fo P w mg base CX0 2 272 uc ["jar","doings","versions"] CD:=by
 refine (xV w.params).ok bt (λ vs H Q E h=>?_) (λ j0 A j5 s H vs Q E hr h=>?_)
 ·obtain ⟨r,q,v,t,B,d9,c7,M,rfl,_⟩:=h;rfl
 ·obtain ⟨r,L,v,t,B,d9,c7,M,rfl,R,eq,al,l4,ok,D,rb,q⟩:=h;refine ⟨_,(aR (pI (i:=3) bt.nd rfl (O1 rfl) (xs:=["k"]) (g:=aI 0) (fr:=[(1,"doings")]) rfl (kX rfl (T.no (i_ _)) (ah (cX (tF (K:=KX w.params) rfl) rfl (T.no (bW _)) C5 (ah (pv 1) aa)) aa)) (by intro p hp;obtain rfl:=List.mem_singleton.mp hp;first|exact ⟨rfl,.inl rfl⟩|exact ⟨rfl,.inr rfl⟩) (uB (n:="doings") (by decide +kernel) (λ _=>by first|exact .inl rfl|exact .inr rfl)) (by intro p hp;obtain rfl:=List.mem_singleton.mp hp;exact ⟨by decide +kernel,by first|exact .inl rfl|exact .inr rfl⟩) (by decide +kernel) rfl (by decide +kernel) (λ _ _ _ _ _=>(aU (N:=["k","doings"]) 0)) (λ _ _ _ _ _=>(dy (dj du (ao (iQ (K:=KX w.params) rfl) (ao (iQ (K:=KX w.params) rfl) (pv 1) (pv 0) (λ _ _=>rfl)) ab (λ _ _=>rfl)) bf (aC _)))) (λ _ _ _ _ _=>(pv 0)))
   (aR (aQ (dj (zg hr) (pv 3) (aO aa) (aC _))
   (aV (au (pv 1)))
   dI)
   (aR (ar (i:=4) bt.nd rfl (O1 rfl) (ao ak (pv 3) (aj c2 (hr.mono (by decide)) rfl (ah (pv 0) (ah (cX (tF (K:=KX w.params) rfl) rfl (T.no (bW _)) C5 (ah (pv 3) aa)) aa))) (λ _ _=>rfl)))
   (aR (ar (i:=5) bt.nd rfl (O1 rfl) (aA bM (aO (ah ab (ah (aA bM ab (aj c2 (hr.mono (by decide)) rfl (ah (pv 0) (ah ab aa)))) aa))) (aA oN (sN (bu hr) (pv 2) (ao ak (ao ak (pv 1) (pv 4) (λ _ _=>rfl)) ab (λ _ _=>rfl)) (aO aa) ⟨rfl,rfl,rfl,rfl⟩) ab)))
   (aR (ar (i:=6) bt.nd rfl (O1 rfl) (ao ak (pv 5) (aj c2 (hr.mono (by decide)) rfl (ah (pv 0) (ah (cX (tF (K:=KX w.params) rfl) rfl (T.no (bW _)) C5 (ah (pv 5) aa)) aa))) (λ _ _=>rfl)))
   (aV (au (aA xW (aA xW (jq iJ (pv 1) jA (iT (pv 4))) (bh (ah (bh (ah bf (ah (ao ak (ao ak (pv 1) (pv 4) (λ _ _=>rfl)) ab (λ _ _=>rfl)) (ah (pv 6) aa)))) aa))) (jq iJ (pv 1) (iT (aA bM (pv 4) ab)) jA))))))))),?_⟩
  have lu:t.length=B.length:=cz al;refine cy ?_;refine pV (S:=Same) (n:=t.length) (H1:=H) (λ i=>(B[i]?.map λ d=>!d.w).getD false) (λ i y _=>y=nI i) (Same.refl _) (λ _ _ _ a b=>a.trans b) (λ _ _=>Same.refl _) (λ _ _ _ _ _ z=>z) (λ T h=>⟨_,rfl,.inl ⟨L,t,rfl,.inr (aG.of (D.sm _ _ eq)),h⟩⟩) (M0 (m:=4) (by lia) (by decide)) ?_ ?_
  ·intro i hi H3 s3 KT KF f1 f2;have j1:i < B.length:=by lia
   obtain ⟨d,hd,p,e1,e2⟩:=dQ al (C0 hi);refine ⟨[some (.int i)],rfl,rfl,?_⟩;refine ⟨_,rfl,_,rfl,.inr (.inl ⟨L,t,i,.ref p,rfl,rfl,aG.of (s3 _ _ (D.sm _ _ eq)),bU (by rw [C0 hi,e1]),?_⟩)⟩;refine .inr (.inl ⟨p,_,0,.str (vb d.w),rfl,rfl,aG.of (s3 _ _ (D.sm _ _ e2)),bU (j:=0) rfl,rfl,_,rfl,?_⟩);rw [hd] at f1 f2;have ev:decide (V.str (vb d.w)=V.str "read") = !d.w:=by cases d.w<;>decide +kernel
   rw [ev];exact dw (λ z=>⟨_,rfl,f1 z _ _ (Same.refl _) rfl⟩) λ z=>f2 (Bool.eq_false_iff.mpr z) _ (Same.refl _)
  intro F H7 ys s7 d7 e8;have ey:=pU (f:=nI) e8;subst ey;generalize hrd:(N0 t.length).filter (λ i=>(B[i]?.map λ d=>!d.w).getD false)=rd at e8⊢;have D7:=(D.beside s7).fresh (o:=.lst (rd.map nI)) d7;have f3:M F=none:=(D.sm.trans s7).free d7;have a9:=Same.upd (o:=.lst (rd.map nI)) f3;have h4:F≠r:=R.fresh f3;have a8:upd M F (.lst (rd.map nI)) F=some (.lst (rd.map nI)):=aB;have R7:=R.same a9;have b5:Kept r M (upd M F (.lst (rd.map nI))):=a9.kept;have b2:=a9 _ _ eq;have b0:af (cT _) B t:=bp (λ _ _ z=>z.same a9) al;generalize upd M F (.lst (rd.map nI))=H07 at D7 a9 a8 R7 b5 b2 b0;generalize upd H7 F (.lst (rd.map nI))=H8 at D7⊢;refine ai ?_;refine cC ?_;refine ⟨_,rfl,gj,λ le i2=>?_⟩;have Y:=Same.upd (o:=.lst []) i2;refine ⟨F,le,_,rfl,rfl,av.of (Y _ _ (D7.sm _ _ a8)),av.of aB,_,rfl,?_⟩;have Z:=D7.beside Y;generalize upd H8 le (.lst [])=H9 at Z⊢;cases rd with
  | nil=>refine cb (by decide) ?_;exact ⟨_,rfl,q L t B H07 H9 b5 R7 b2 b0 (λ _=>rfl) l4 ok Z⟩
  | cons z zs=>
   refine bc (λ e=>by simp at e) ?_;generalize hz:z :: zs=rd at hrd a8⊢;have i8:0 < rd.length:=by rw [<-hz];exact Nat.zero_lt_succ _
   have rl:rd.length<=4:=by
    rw [<-hrd];refine M0 (u5 _ _) ?_;rw [Q1]
    lia
   refine cB (cy ?_);refine ⟨_,rfl,_,rfl,_,rfl,.inl ⟨F,_,rfl,.inl (av.of (Z.sm _ _ a8)),?_⟩⟩;rw [q0];refine ⟨r,(rd.length:Int),rfl,R7.same Z.sm,by lia,by lia,λ a6 j4 g8 c0 c1=>?_⟩;obtain ⟨j6,a2,b3⟩:=Z.draw R7 g8;have ht:a6.toNat < rd.length:=by lia
   obtain ⟨at',e5⟩ :∃n,n=rd[a6.toNat]:=⟨_,rfl⟩
   have d2:at'∈rd:=by rw [e5];exact o7 ht
   rw [<-hrd,j2f,List.mem_range] at d2;refine .inl ⟨F,_,a6,nI at',rfl,rfl,av.of (b3.sm _ _ (a2.k _ _ h4 a8)),?_,ai ?_⟩
   ·obtain ⟨m,rfl⟩ :∃m:Nat,a6=m:=⟨a6.toNat,by lia⟩
    have g3:m < rd.length:=by lia
    exact bU (by rw [C1,C0 g3,e5];rfl)
   have b6:at' < t.length:=d2.1;obtain ⟨d,hd,pd,f6,ed⟩:=dQ b0 (C0 b6);have hw:d.w=false:=by
    have h2:=d2.2;rw [hd] at h2;have h2:(!d.w)=true:=h2;cases hdw:d.w with
    | false=>rfl
    | true=>rw [hdw] at h2;cases h2
   have h6:=a2.tupk R7;refine cy ?_;refine ⟨_,rfl,r,900,rfl,a2.r.same b3.sm,by decide,by decide,λ G e6 i0 d0 d1=>.inl ⟨_,_,rfl,rfl,gp,λ b1 g4=>?_⟩⟩;obtain ⟨i9,a1,e7⟩:=b3.draw a2.r i0;have c3:=h6.trans (a1.tupk a2.r);have d4:=Same.upd (o:=.lst [.int 0,.int (77 + G)]) g4;have O:upd e6 b1 (.lst [.int 0,.int (77 + G)]) b1=some (.lst [.int 0,.int (77 + G)]):=aB;have a3:=e7.beside d4;generalize upd e6 b1 (.lst [.int 0,.int (77 + G)])=H12 at d4 O a3⊢;have g6:=c3 _ _ b2;have g0:=c3 _ _ ed;refine ⟨_,rfl,v,rfl,.inl ⟨c7,.inl a3.at'⟩,?_⟩;refine ⟨_,rfl,_,rfl,.inr (.inl ⟨L,t,at',.ref pd,rfl,rfl,aG.of (a3.sm _ _ g6),bU (by rw [C0 b6,f6]),?_⟩)⟩;refine .inr (.inl ⟨pd,_,1,.str d.n,rfl,rfl,aG.of (a3.sm _ _ g0),bU (j:=1) rfl,?_⟩);refine ⟨gj,λ a7 h7=>?_⟩;have Y:=Same.upd (o:=.lst []) h7;have d5:upd H12 a7 (.lst []) a7=some (.lst []):=aB;have O:=Y _ _ O;have U:=a3.beside Y;generalize upd H12 a7 (.lst [])=H13 at Y d5 O U⊢;have i3 :∃(X:ZS) (u:List Int),(aH c7 (.inr d.n)).getD (.ref a7)=.ref X/\H13 X=some (.lst (u.map V.int))/\u.length<=48/\∀x∈u,-1000000000<=x/\x<=(1000000000:Int):=by
    by_cases hk:d.n∈d9.map (·.1)
    ·obtain ⟨u,hn⟩:=cJ hk;obtain ⟨X,h1,_,h3⟩:=U.has hn;exact ⟨X,u,by rw [h1];rfl,h3,rb _ hn⟩
    ·exact ⟨a7,[],by rw [U.no hk];rfl,d5,K2 _,λ _ h=>nomatch h⟩
   obtain ⟨X,u,hg,ex,j2,g1⟩:=i3;refine ⟨_,dh.k (k:=.inr d.n) U.at',?_⟩;rw [hg];refine ⟨X,3,_,rfl,rfl,ex,by decide,by decide,M0 (m:=144) (by rw [q0];show u.length * 3<=144;lia) (by decide),λ b4 c4=>?_⟩;have O:=Same.upd (o:=.lst (A1 (3:Int).toNat (u.map V.int)).flatten) c4 _ _ O;have j3:(A1 (3:Int).toNat (u.map V.int)).flatten.length<=144:=by rw [Bj,q0];show 3 * u.length<=144;lia
   refine .inr (.inr (.inl ⟨b1,b4,_,_,rfl,rfl,O,aB,M0 (m:=146) (by show 2 + _<=146;lia) (by decide),λ a0 e4=>ai ?_⟩));have a5:=(U.beside (Same.upd (o:=.lst (A1 (3:Int).toNat (u.map V.int)).flatten) c4)).beside (Same.upd (o:=.lst ([.int 0,.int (77 + G)]++(A1 (3:Int).toNat (u.map V.int)).flatten)) e4);have f7:a0≠r:=(a1.r.same (U.beside (Same.upd (o:=.lst (A1 (3:Int).toNat (u.map V.int)).flatten) c4)).sm).fresh e4;have d6 :∀y∈([.int 0,.int (77 + G)]++(A1 (3:Int).toNat (u.map V.int)).flatten:List V),∃x:Int,y=.int x/\-1000000000<=x/\x<=1000000000:=λ y C=>by
    rcases List.mem_append.mp C with C|C
    ·rcases List.mem_cons.mp C with rfl|C
     ·exact ⟨0,rfl,by decide,by decide⟩
     ·exact ⟨77 + G,List.mem_singleton.mp C,by lia,by lia⟩
    ·obtain ⟨l,hl,C⟩:=List.mem_flatten.mp C;rw [(List.mem_replicate.mp hl).2] at C;obtain ⟨x,hx,rfl⟩:=List.mem_map.mp C;exact ⟨x,rfl,g1 x hx⟩
   have i5:([.int 0,.int (77 + G)]++(A1 (3:Int).toNat (u.map V.int)).flatten:List V).length<=146:=by rw [F0];show 2 + _<=146;lia
   have f8:0 < ([.int 0,.int (77 + G)]++(A1 (3:Int).toNat (u.map V.int)).flatten:List V).length:=by rw [F0];show 0 < 2 + _;lia
   generalize ([.int 0,.int (77 + G)]++(A1 (3:Int).toNat (u.map V.int)).flatten:List V)=Ws at a5 d6 i5 f8⊢;have b7:upd (upd H13 b4 (.lst (A1 (3:Int).toNat (u.map V.int)).flatten)) a0 (.lst Ws) a0=some (.lst Ws):=aB;generalize upd (upd H13 b4 (.lst (A1 (3:Int).toNat (u.map V.int)).flatten)) a0 (.lst Ws)=H14 at a5 b7⊢;refine cy ?_;refine ⟨_,rfl,_,rfl,_,rfl,.inl ⟨a0,_,rfl,.inl (av.of b7),r,(Ws.length:Int),rfl,a1.r.same a5.sm,by lia,by lia,λ f4 j7 d8 f0 f1=>?_⟩⟩;obtain ⟨f5,b8,a4⟩:=a5.draw a1.r d8;have c5:=c3.trans (b8.tupk a1.r);obtain ⟨m,rfl⟩ :∃m:Nat,f4=m:=⟨f4.toNat,by lia⟩
   have hm:m < Ws.length:=by lia
   obtain ⟨x,hx,x1,x2⟩:=d6 Ws[m] (o7 hm);refine .inl ⟨a0,Ws,m,.int x,rfl,rfl,av.of (d8.k _ _ f7 b7),bU (by rw [C0 hm,hx]),ai ?_⟩;have c9:=c5 _ _ b2;have i7:=c5 _ _ ed;have i1:af (cT f5) B t:=bp (λ _ _ z=>cT.tk c5 z) b0;have i6:Kept r M f5:=((b5.trans a2.k).trans a1.k).trans b8.k;have f9:=b8.r;have g7:=ok d (K0 hd);clear D7 Z b3 e7 a3 U a5;refine cc ?_;have l5:at' < B.length:=by lia
   have ei:((at':Nat):Int) + 1=((at' + 1:Nat):Int):=rfl;refine ⟨_,rfl,_,rfl,_,rfl,L,t,rfl,aG.of (a4.sm _ _ c9),?_,λ g2 g9=>?_⟩
   ·rintro ⟨_,h⟩;have h:HT.sIx t.length t.length (some ((at':Nat):Int))=t.length:=h;rw [HT.sIx_nat] at h
    lia
   rw [show cj t none (some ((at':Nat):Int))=t.take at' from iy (by lia)];obtain ⟨d3,v_,c6,h9⟩:=wo (.tup (t.take at')) g9;rw [<-v_];refine ⟨_,rfl,_,rfl,.inr (.inl ⟨L,t,at',.ref pd,rfl,rfl,aG.of (c6 _ _ (a4.sm _ _ c9)),bU (by rw [C0 b6,f6]),?_⟩)⟩;refine .inr (.inl ⟨pd,_,1,.str d.n,rfl,rfl,aG.of (c6 _ _ (a4.sm _ _ i7)),bU (j:=1) rfl,?_⟩);refine ⟨_,rfl,lO,λ J i4=>⟨qS,λ mY h8=>?_⟩⟩;have g5:=Same.upd (o:=.tup [.str "read",.str d.n,.int x]) i4;have W:=Same.upd (o:=.tup [.ref J]) h8;have e9:=W _ _ (show upd d3 J (.tup [.str "read",.str d.n,.int x]) J=_ from aB);have oO:upd (upd d3 J (.tup [.str "read",.str d.n,.int x])) mY (.tup [.ref J]) mY=some (.tup [.ref J]):=aB;have W:=g5.trans W;generalize upd (upd d3 J (.tup [.str "read",.str d.n,.int x])) mY (.tup [.ref J])=H18 at W e9 oO⊢;refine ⟨g2,mY,_,_,rfl,rfl,W _ _ h9,oO,M0 (m:=10) (by rw [Y1];show _ + 1<=10;lia) (by decide),λ pz Hz sz ez=>?_⟩;have e3:=c6.trans (W.trans sz);refine ⟨_,rfl,_,rfl,.inl ⟨_,_,rfl,rfl,_,rfl,L,t,rfl,aG.of (e3 _ _ (a4.sm _ _ c9)),?_,λ h5 h0=>?_⟩⟩
   ·rintro ⟨h,_⟩;rw [ei,HT.sIx_nat] at h
    lia
   rw [ei,xO (by lia)];have c8:=Same.upd (o:=.tup (t.drop (at' + 1))) h0;refine ⟨pz,h5,_,_,rfl,rfl,c8 _ _ ez,aB,M0 (m:=10) (by rw [F0,Y1,P3];show _ + 1 + _<=10;lia) (by decide),λ pf Hf sf ef=>?_⟩;obtain ⟨sa,Da⟩:=(a4.beside (e3.trans (c8.trans sf))).adopt ((sz.trans (c8.trans sf)) _ _ e9);obtain ⟨sb,Db⟩:=Da.adopt ef;have b9:=sa.trans sb;have e0:af (cT _) B t:=bp (λ _ _ z=>z.same b9) i1;exact q pf _ (B.take at'++[⟨false,d.n,x⟩]++B.drop (at' + 1)) _ Hf (i6.trans b9.kept) (f9.same b9) aB (k7 (k7 (mT _ e0) (.cons ⟨J,rfl,sb _ _ aB⟩ .nil)) (CC _ e0)) (ER hd hw x) (by rw [F0,F0,Y1,P3];show _ + 1 + _<=4;lia) (λ c I=>by
     rcases List.mem_append.mp I with I|I
     ·rcases List.mem_append.mp I with I|I
      ·exact ok c (J5 I)
      ·rw [List.mem_singleton.mp I];exact ⟨g7.n,x1,x2⟩
     ·exact ok c (Z7 I)) Db
end
section
theorem Ab:∀{kvs:List (Key×V)},(kvs.map (·.1)).Nodup->(kvs.map (·.2)).Nodup->(∀kv∈kvs,kv.2≠.ref p)->((kvs.map λ kv=>if kv.1=k then (kv.1,V.ref p) else kv).map (·.2)).Nodup
 | [],_,_,_=>B3
 | kv :: kvs,h1,h2,h3=>by
  rw [O0,L3] at h1 h2;have d :∀q∈kvs,q.2≠.ref p:=λ q a=>h3 q (Z0 _ a);have g:=Ab (k:=k) h1.2 h2.2 d;rw [O0,O0,L3];refine ⟨λ f=>?_,g⟩;obtain ⟨q,a,e⟩:=List.mem_map.mp f;obtain ⟨c,b,rfl⟩:=List.mem_map.mp a;by_cases z:kv.1=k
  ·rw [ZZ z] at e;have h:c.1≠k:=λ y=>h1.1 (List.mem_map.mpr ⟨c,b,by rw [y,z]⟩);rw [Z_ h] at e;exact d c b e
  ·rw [Z_ z] at e;split at e
   ·exact h3 kv Y0 e.symm
   ·exact h2.1 (List.mem_map.mpr ⟨c,b,e⟩)
def bV.keys (D:bV H0 H f rows kvs):kvs.map (·.1)=(rows.map (·.1)).map Sum.inr:=by
 have b:=D.al;clear D;induction b with
 | nil=>rfl
 | cons a _ ih=>rw [O0,O0,O0,ih,a.1]
def bV.change (D:bV H0 H f rows kvs) (hk:n∈rows.map (·.1)) (hp0:H0 p=none) (hpl :∀kv∈kvs,kv.2≠.ref p) (hp:H p=some (.lst (ms.map V.int))) :
  bV H0 (upd H f (.dK (putK kvs (.inr n) (.ref p)))) f (rows.map λ r=>if r.1=n then (r.1,ms) else r) (putK kvs (.inr n) (.ref p)):=by
 have q:=D.keys;have any:(kvs.any λ kv=>decide (kv.1=.inr n))=true:=by
  have:(Sum.inr n:Key)∈kvs.map (·.1):=by rw [q];exact List.mem_map.mpr ⟨n,hk,rfl⟩
  obtain ⟨kv,w,A⟩:=List.mem_map.mp this;exact List.any_eq_true.mpr ⟨kv,w,ZY A⟩
 have j:putK kvs (.inr n) (.ref p)=kvs.map λ kv=>if kv.1=(.inr n:Key) then (kv.1,V.ref p) else kv:=by unfold putK;rw [ZZ any]
 have c :∀b o,b≠f->H b=some o->upd H f (.dK (putK kvs (.inr n) (.ref p))) b=some o:=λ b o m e=>by rw [ae m];exact e
 have t:p≠f:=aK hp D.at' λ z=>nomatch z
 obtain ⟨u,g⟩ :∃k,k=kvs:=⟨_,rfl⟩
 rw [<-g] at c;refine ⟨λ b o e=>(g ▸ c) b o (bZ e D.fr) (D.sm _ _ e),D.fr,aB,?_,?_,?_⟩
 ·have go :∀{kvs:List (Key×V)} {rows:bA},af (λ (kv:Key×V) (r:ZR×List Int)=>kv.1=.inr r.1/\∃l,kv.2=.ref l/\H0 l=none/\H l=some (.lst (r.2.map V.int))) kvs rows->af (λ (kv:Key×V) (r:ZR×List Int)=>kv.1=.inr r.1/\∃l,kv.2=.ref l/\H0 l=none/\upd H f (.dK (putK u (.inr n) (.ref p))) l=some (.lst (r.2.map V.int))) (kvs.map λ kv=>if kv.1=(.inr n:Key) then (kv.1,V.ref p) else kv) (rows.map λ r=>if r.1=n then (r.1,ms) else r):=λ {kvs rows} al=>by
   induction al with
   | nil=>exact .nil
   | @cons kv r _ _ a _ ih=>
    obtain ⟨d,l,x,v,s⟩:=a;rw [O0,O0];refine .cons ?_ ih;by_cases z:r.1=n
    ·have i:kv.1=(.inr n:Key):=by rw [d,z]
     rw [ZZ z,ZZ i];exact ⟨d,p,rfl,hp0,c _ _ t hp⟩
    ·have i:¬ kv.1=(.inr n:Key):=λ y=>z (by rw [d] at y;injection y);rw [Z_ z,Z_ i];exact ⟨d,l,x,v,c _ _ (aK s D.at' λ z=>nomatch z) s⟩
  have:=go D.al;rw [g,<-j] at this;exact this
 ·rw [j];exact Ab (by rw [q];exact List.pairwise_map.mpr (List.Pairwise.imp (λ h e=>h (by injection e)) D.nk)) D.nl hpl
 ·rw [uW (f:=λ _=>ms)];exact D.nk
end
section
variable {P:ZK} {w:U1} {mg:ZR->Option ZH} {base:ZN}
structure eT (r a v:ZS) (HH H0 H:Hp) (us:List V) (ds:List Dl) (rows:bA) (kvs:List (Key×V)):Prop where
 kp :∀b o,b≠r->b≠a->HH b=some o->H0 b=some o
 R:aZ H0 r
 ea:H0 a=some (.lst us)
 na:a≠r
 al:af (bJ H0) ds us
 D:bV H0 H v rows kvs
 G:Gs ds rows
def eT.draw (S:eT r a v HH H0 H us ds rows kvs) (J:Jw r H H') :∃H0',eT r a v HH H0' H' us ds rows kvs:=by obtain ⟨H0',c,f⟩:=S.D.draw S.R J;exact ⟨H0',λ b o d g e=>c.k _ _ d (S.kp b o d g e),c.r,c.k _ _ S.na S.ea,S.na,bp (λ _ _ z=>bJ.tk (c.tupk S.R) z) S.al,f,S.G⟩
def eT.draw2 (S:eT r a v HH H0 H us ds rows kvs) (J:Jw r H H') :∃H0',Jw r H0 H0'/\eT r a v HH H0' H' us ds rows kvs:=by obtain ⟨H0',c,f⟩:=S.D.draw S.R J;exact ⟨H0',c,λ b o d g e=>c.k _ _ d (S.kp b o d g e),c.r,c.k _ _ S.na S.ea,S.na,bp (λ _ _ z=>bJ.tk (c.tupk S.R) z) S.al,f,S.G⟩
def eT.jar {r a v:ZS} {HH H0 H:Hp} {us:List V} {ds:List Dl} {rows:bA} {kvs:List (Key×V)} (S:eT r a v HH H0 H us ds rows kvs):aZ H r:=S.R.same S.D.sm
def eT.same (S:eT r a v HH H0 H us ds rows kvs) (s:Same H H'):eT r a v HH H0 H' us ds rows kvs:={ S with D:=S.D.beside s }
theorem zB {α β:Type} {R:α->β->Prop} {x:α} {y:β} (h:R x y) :∀{xs:List α} {ys:List β} (i:Nat),af R xs ys->af R (xs.set i x) (ys.set i y)
 | _,_,_,.nil=>.nil
 | _,_,0,.cons _ r=>.cons h r
 | _,_,i + 1,.cons a r=>.cons a (zB h i r)
def Gs.set (G:Gs ds rows) (hd:ds[i]? = some d) (ok:iN e) (hw :∀n,bH e.ds n=bH d.ds n):Gs (ds.set i e) rows:=by
 refine ⟨by rw [Y9];exact G.l1,by rw [Y9];exact G.l12,λ c a=>?_,?_,G.nm,G.bd,G.tt⟩
 ·rcases List.mem_or_eq_of_mem_set a with a|rfl
  ·exact G.ok c a
  ·exact ok
 ·have go :∀(ds:List Dl) (i:Nat),ds[i]? = some d->af (λ x y=>∀n,bH y n=bH x n) (ds.map (·.ds)) ((ds.set i e).map (·.ds)):=λ ds=>by
   induction ds with
   | nil=>intro i h;cases h
   | cons c ds ih=>
    intro i h;cases i with
    | zero=>cases h;exact .cons hw (xC (λ _ _=>rfl) _)
    | succ i=>exact .cons (λ _=>rfl) (ih i h)
  exact G.inv.alike (go ds i hd)
def eT.set {r a v:ZS} {HH H0 H:Hp} {us:List V} {ds:List Dl} {rows:bA} {kvs:List (Key×V)} (S:eT r a v HH H0 H us ds rows kvs) {i:Nat} {d e:Dl} {y:V} (hd:ds[i]? = some d) (ok:iN e) (hw :∀n,bH e.ds n=bH d.ds n) (hy:bJ H0 e y):eT r a v HH (upd H0 a (.lst (us.set i y))) (upd H a (.lst (us.set i y))) (us.set i y) (ds.set i e) rows kvs:=by have tk:=dY.lst (zs:=us.set i y) S.ea;exact ⟨λ b o f c z=>by rw [ae c];exact S.kp b o f c z,S.R.keep S.na,aB,S.na,zB (hy.tk tk) i (bp (λ _ _ z=>bJ.tk tk z) S.al),S.D.both S.ea,S.G.set hd ok hw⟩
def eT.fresh (S:eT r a v HH H0 H us ds rows kvs) (hp:H p=none):eT r a v HH (upd H0 p o) (upd H p o) us ds rows kvs:=by have s:=Same.upd (o:=o) (S.D.sm.free hp);exact ⟨λ b o c d z=>s _ _ (S.kp b o c d z),S.R.same s,s _ _ S.ea,S.na,bp (λ _ _ z=>z.same s) S.al,S.D.fresh hp,S.G⟩
def eT.adopt (S:eT r a v HH H0 H us ds rows kvs) (e:H p=some (.tup xs)):Same H0 (upd H0 p (.tup xs))/\eT r a v HH (upd H0 p (.tup xs)) H us ds rows kvs:=by obtain ⟨s,D⟩:=S.D.adopt e;exact ⟨s,λ b o c d z=>s _ _ (S.kp b o c d z),S.R.same s,s _ _ S.ea,S.na,bp (λ _ _ z=>z.same s) S.al,D,S.G⟩
def eT.kept (S:eT r a v HH H0 H us ds rows kvs) (J0:Jw r H0 H0') (D':bV H0' H' v rows kvs):eT r a v HH H0' H' us ds rows kvs:=
 ⟨λ b o c d e=>J0.k _ _ c (S.kp b o c d e),J0.r,J0.k _ _ S.na S.ea,S.na,bp (λ _ _ z=>bJ.tk (J0.tupk S.R) z) S.al,D',S.G⟩
theorem Hk {xs:List V} {j:Nat} (h:j + 1 < xs.length):cj xs (some (j:Int)) (some ((j:Int) + 2))=[xs[j],xs[j + 1]]:=by unfold cj;rw [show ((j:Nat):Int) + 2=((j + 2:Nat):Int) from rfl,HT.sIx_nat,HT.sIx_nat,j02 (by lia),j02 (by lia),show j + 2 - j=2 by lia,t8 (by lia),t8 (by lia)];rfl
def ng {tc:TT} {ta tb:TS} {D:Ends} {σ:L2.St} {H:Hp} (R:Hp->Prop) (k :∀H',R H'->ta D σ H') (h:(∀H',R H'->ta D σ H')->kY tc ta tb D σ H):kY tc ta tb D σ H:=h k
theorem AH:∀{rows:bA},(∀r∈rows,(f r).2.length=r.2.length)->tot (rows.map f)=tot rows
 | [],_=>rfl
 | r :: rows,h=>by rw [O0,mh,mh,h r Y0,AH λ q a=>h q (Z0 _ a)]
def Gs.swap {ds:List Dl} {rows:bA} (G:Gs ds rows) {n:ZR} {x y:Int} {as bs:List Int} (hm:(n,as++x :: y :: bs)∈rows) (ap:ff ds n x≠ff ds n y):Gs ds (rows.map λ r=>if r.1=n then (r.1,as++y :: x :: bs) else r):=by
 have U:=G.inv.uw;have j :∀r∈rows,r.1=n->r.2=as++x :: y :: bs:=λ r a e=>zI G.inv.nk (show (n,r.2)∈rows by rw [<-e];exact a) hm;refine ⟨G.l1,G.l12,G.ok,G.inv.swap hm λ d k h=>?_,λ r a=>?_,λ r a z f=>?_,?_⟩
 ·obtain ⟨c,l,rfl⟩:=List.mem_map.mp k;obtain ⟨i,g⟩:=List.mem_iff_getElem?.mp l;exact ap (((jm U).mpr ⟨c,g,eU.mp h.1⟩).trans ((jm U).mpr ⟨c,g,eU.mp h.2⟩).symm)
 ·obtain ⟨q,b,rfl⟩:=List.mem_map.mp a;split
  ·exact G.nm q b
  ·exact G.nm q b
 ·obtain ⟨q,b,rfl⟩:=List.mem_map.mp a;split at f
  ·rename_i e;exact G.bd q b z (by rw [j q b e];exact (swap_perm as bs).mem_iff.mp f)
  ·exact G.bd q b z f
 ·rw [AH]
  ·exact G.tt
  ·intro r a;split
   ·rename_i e;rw [j r a e];exact (swap_perm as bs).length_eq
   ·rfl
def eT.swap {r a v p:ZS} {HH H0 H:Hp} {us:List V} {ds:List Dl} {rows:bA} {kvs:List (Key×V)} (S:eT r a v HH H0 H us ds rows kvs) {n:ZR} {x y:Int} {as bs:List Int} (hm:(n,as++x :: y :: bs)∈rows) (ap:ff ds n x≠ff ds n y) (hp:H p=none) {zs:List V} (ez:zs=(as++y :: x :: bs).map V.int) :
  ∃rows',rows'.map (·.1)=rows.map (·.1)/\eT r a v HH H0 (upd (upd H p (.lst zs)) v (.dK (putK kvs (.inr n) (.ref p)))) us ds rows' (putK kvs (.inr n) (.ref p)):=by
 subst ez;have s:=S.same (Same.upd (o:=.lst ((as++y :: x :: bs).map V.int)) hp);refine ⟨_,uW (f:=λ _=>as++y :: x :: bs),s.kp,s.R,s.ea,s.na,s.al,s.D.change (List.mem_map.mpr ⟨_,hm,rfl⟩) (S.D.sm.free hp) (λ g d e=>?_) aB,s.G.swap hm ap⟩;obtain ⟨q,_,_,l,c,_,b⟩:=qr S.D.al d;rw [c] at e;injection e with e;rw [e,hp] at b;cases b
def yZ:Sp:=λ vs H Q _=>E8 λ r a v us ds rows kvs H0=>A8 (vs=[.ref r,.ref a,.ref v]) (aZ H0 r) (H0 a=some (.lst us)) (a≠r) (af (bJ H0) ds us) (bV H0 H v rows kvs) (Gs ds rows) (∀us' ds' rows' kvs' H0' H',(∀b o,b≠r->b≠a->H0 b=some o->H0' b=some o)->aZ H0' r->H0' a=some (.lst us')->af (bJ H0') ds' us'->bV H0' H' v rows' kvs'->Gs ds' rows'->Q .non H')
theorem Fn (T:TX (kx w) mg) (c2:Ca P w mg base "_law_take" ["jar","many"] 1 mG) (c3:Ca P w mg base "_law_other_read" ["jar","doings","versions"] 2 CD) (c4:Ca P w mg base "_law_writer" ["some","name","worth"] 1 CP):Fo P w mg base CX0 3 279 uH ["jar","some","versions"] yZ:=by
 refine (vK w.params).ok bC (λ vs H Q E h=>?_) (λ h5 A i4 s H vs Q E L h=>?_)
 ·obtain ⟨r,a,v,I,ds,O,Z,H0,rfl,_⟩:=h;rfl
 ·obtain ⟨r,a,v,I,ds,O,Z,H0,rfl,R,ea,g8,al,D,G,q⟩:=h;refine ⟨_,(aR (ar (i:=3) bC.nd rfl (O1 rfl) (aj c2 (L.mono (by decide)) rfl (ah (pv 0) (ah ab aa))))
   (aR (ar (i:=4) bC.nd rfl (O1 rfl) (aj c2 (L.mono (by decide)) rfl (ah (pv 0) (ah (cX gG rfl (T.no (bW _)) C5 (ah (pv 1) aa)) aa))))
   (aR (aQ (dj du (pv 3) ab (aC _))
   (aR (ar (i:=5) bC.nd rfl (O1 rfl) (aj c2 (L.mono (by decide)) rfl (ah (pv 0) (ah ab aa))))
   (aV (fH (bh (ah (pv 5) (ah (aA bM (aA bM (pv 5) ab) (aj c2 (L.mono (by decide)) rfl (ah (pv 0) (ah ab aa)))) (ah (ao ak (ao ak (pv 1) (pv 4) (λ _ _=>rfl)) ab (λ _ _=>rfl)) aa)))) (gC (pv 1) (pv 4) tO))))
   dI)
   (aR (aQ (PW.pt (dq (dj du (pv 3) ab (aC _)) (di (dj du (pv 3) ab (aC _)))))
   (aV (fH (aA xW (jq eZ (ao ak (pv 1) (pv 4) (λ _ _=>rfl)) jA (iT ab)) (bh (ah (aj c3 (L.mono (by decide)) rfl (ah (pv 0) (ah (ao ak (ao ak (pv 1) (pv 4) (λ _ _=>rfl)) ab (λ _ _=>rfl)) (ah (pv 2) aa)))) aa))) (gC (pv 1) (pv 4) tO)))
   dI)
   (aV (aW Z1 rfl (fZ (cX (wO rfl) rfl (T.no (oP _)) j05 (ah (pv 2) aa))) (cZ (i:=6) bC.nd rfl (O1 rfl))
   (aR (ar (i:=7) bC.nd rfl (O1 rfl) (mn (bu L) (pv 2) (pv 6) (λ _ _=>rfl)))
   (aV (aQ (PW.pt (eP (dj du (pv 3) ab (aC _)) (nA (dj mH (cX gG rfl (T.no (bW _)) C5 (ah (pv 7) aa)) ab (aC _)))))
   (aR (ar (i:=8) bC.nd rfl (O1 rfl) (aj c2 (L.mono (by decide)) rfl (ah (pv 0) (ah (aA eG (cX gG rfl (T.no (bW _)) C5 (ah (pv 7) aa)) ab) aa))))
   (aR (ar (i:=9) bC.nd rfl (O1 rfl) (jq eZ (pv 7) (iT (pv 8)) (iT (aA bM (pv 8) ab))))
   (aV (aQ (dj iY (aj c4 (L.mono (by decide)) rfl (ah (pv 1) (ah (pv 6) (ah (ao ak (pv 9) ab (λ _ _=>rfl)) aa)))) (aj c4 (L.mono (by decide)) rfl (ah (pv 1) (ah (pv 6) (ah (ao ak (pv 9) ab (λ _ _=>rfl)) aa)))) (aC _))
   (aV (mj (bu L) (pv 2) (pv 6) (aA bM (aA bM (jq eZ (pv 7) jA (iT (pv 8))) (aO (ah (ao ak (pv 9) ab (λ _ _=>rfl)) (ah (ao ak (pv 9) ab (λ _ _=>rfl)) aa)))) (jq eZ (pv 7) (iT (aA bM (pv 8) ab)) jA)) rfl))
   dI))))
   dI))))))))),?_⟩
  have S0:eT r a v H0 H0 H I ds O Z:=⟨λ _ _ _ _ e=>e,R,ea,g8,al,D,G⟩
  refine cy ?_;refine ⟨_,rfl,r,4,rfl,S0.jar,by decide,by decide,λ kd H1 k1 a0 a1=>ai ?_⟩;obtain ⟨i5,S1⟩:=S0.draw k1;have lu:I.length=ds.length:=cz al;have l1:=G.l1;have i3:=G.l12;refine cy ?_;refine ⟨_,rfl,_,rfl,.inl ⟨a,I,rfl,.inl (av.of (S1.D.sm _ _ S1.ea)),r,(I.length:Int),rfl,S1.jar,by lia,by lia,λ nb H2 k2 b0 b1=>ai ?_⟩⟩;obtain ⟨h3,S2⟩:=S1.draw k2;obtain ⟨m,rfl⟩ :∃m:Nat,nb=m:=⟨nb.toNat,by lia⟩
  have hm:m < I.length:=by lia
  refine yj (λ σ1 W=>E4 λ x5 M fT x=>A3 (fT.length=I.length) (eT r a v H0 M W fT x O Z) (σ1=[some (.ref r),some (.ref a),some (.ref v),some (.int kd),some (.int (m:Nat)),x5,none,none,none,none])) ?_ ?_
  ·rintro σ1 W ⟨x5,M,fT,x,lu3,t,rfl⟩;refine yj (λ σ1 W=>E4 λ x5 M fT x=>A3 (fT.length=I.length) (eT r a v H0 M W fT x O Z) (σ1=[some (.ref r),some (.ref a),some (.ref v),some (.int kd),some (.int (m:Nat)),x5,none,none,none,none])) ?_ ?_
   ·rintro σ1 W ⟨x5,M,fT,x,lu3,t,rfl⟩;have ek:=t.D.keys;have lr:=sP t.G.inv.ne;have tt:=t.G.tt;refine ⟨_,rfl,v,Z,O.map (·.1),rfl,t.D.at',ek,by rw [q0];lia,λ l ss hl pm _=>?_⟩;have C:=t.fresh (o:=.lst (ss.map V.str)) hl;have g9:l≠r:=t.jar.fresh hl;have i2:l≠a:=(bZ (t.D.sm _ _ t.ea) hl).symm;refine ⟨l,rfl,⟨_,av.of aB⟩,?_⟩;have f2:upd M l (.lst (ss.map V.str)) l=some (.lst (ss.map V.str)):=aB;generalize upd M l (.lst (ss.map V.str))=f4 at C f2;generalize upd W l (.lst (ss.map V.str))=H4 at C⊢;refine oo (K:=KX w.params) (a:=l) (xs:=ss.map V.str) (λ i σ H'=>(∃a9 kvs' H0',a9.map (·.1)=O.map (·.1)/\eT r a v H0 H0' H' fT x a9 kvs'/\H0' l=some (.lst (ss.map V.str)))/\(E4 λ x6 x7 x8 x9=>σ=[some (.ref r),some (.ref a),some (.ref v),some (.int kd),some (.int (m:Nat)),x5,x6,x7,x8,x9])) ⟨⟨O,Z,f4,rfl,C,f2⟩,_,_,_,_,rfl⟩ (λ i σ H' _ z=>by obtain ⟨⟨_,_,_,_,S,e⟩,_⟩:=z;exact av.of (S.D.sm _ _ e)) ?_ ?_
    ·rintro i y σ H5 hy ⟨⟨rows5,kvs5,H05,ek5,g,el5⟩,x6,x7,x8,x9,rfl⟩;obtain ⟨n,hn,rfl⟩:=List.mem_map.mp (K0 hy);have hk:n∈rows5.map (·.1):=by rw [ek5];exact pm.mem_iff.mp hn
     obtain ⟨f,a3⟩:=cJ hk;obtain ⟨lw,hv,i6,d7⟩:=g.D.has a3;refine ai ?_;refine cy ?_;refine ⟨_,rfl,_,rfl,v,.ref lw,rfl,hv ▸ dh.k (k:=.inr n) g.D.at',ai ?_⟩;refine oh ?_;refine ⟨_,rfl,rfl,_,rfl,?_⟩;refine dw (λ z3=>?_) λ z3=>?_;rotate_left
     ·exact bc (by decide) ⟨⟨rows5,kvs5,H05,ek5,g,el5⟩,_,_,_,_,rfl⟩
     refine ⟨_,rfl,.inl ⟨lw,_,rfl,.inl (av.of d7),_,_,rfl,rfl,_,rfl,?_⟩⟩;refine dw (λ z1=>?_) λ z1=>?_;rotate_left
     ·exact ⟨⟨rows5,kvs5,H05,ek5,g,el5⟩,_,_,_,_,rfl⟩
     have z1:1 < f.length:=by
      have:=ZW z1;rw [q0] at this
      lia
     have h7:f.length<=48:=M0 (M0 (sT a3) g.G.tt) (by decide);refine cy ?_;refine ⟨_,rfl,_,rfl,.inl ⟨lw,_,rfl,.inl (av.of d7),_,_,rfl,rfl,?_⟩⟩;rw [q0];refine ⟨r,(f.length:Int) - 1,rfl,g.jar,by lia,by lia,λ d6 H6 k6 c0 c1=>ai ?_⟩;obtain ⟨b9,J6,N⟩:=g.draw2 k6;have h0:=J6.k _ _ g9 el5;obtain ⟨i1,f3,h6,g6⟩:=N.D.has a3;rw [hv] at f3;cases f3;obtain ⟨j,rfl⟩ :∃j:Nat,d6=j:=⟨d6.toNat,by lia⟩
     have hj:j + 1 < f.length:=by lia
     refine cy ?_;refine ⟨_,rfl,_,rfl,_,rfl,_,rfl,.inl ⟨_,_,rfl,rfl,_,rfl,.inl ⟨lw,_,rfl,av.of g6,λ J a6=>ai ?_⟩⟩⟩;have ec:cj (f.map V.int) (some ((j:Nat):Int)) (some (((j:Nat):Int) + 2))=[.int f[j],.int f[j + 1]]:=by rw [Hk (by rw [q0];exact hj),j5f,j5f]
     rw [ec];have u:=N.fresh (o:=.lst [.int f[j],.int f[j + 1]]) a6;have s7:=Same.upd (o:=.lst [.int f[j],.int f[j + 1]]) (N.D.sm.free a6);have c6:=s7 _ _ h0;have e7:upd b9 J (.lst [.int f[j],.int f[j + 1]]) J=some (.lst [.int f[j],.int f[j + 1]]):=aB;generalize upd b9 J (.lst [.int f[j],.int f[j + 1]])=H07 at u s7 c6 e7;generalize upd H6 J (.lst [.int f[j],.int f[j + 1]])=H7 at u⊢;have nn:aF n:=u.G.nm _ a3;have U7:=u.G.inv.uw;have c9 :∀d∈x,∀c∈d.ds,aF c.n:=λ d Y c hc=>((u.G.ok d Y).ds c hc).n;refine oh ?_;refine ⟨_,rfl,_,rfl,_,rfl,.inl ⟨J,_,0,.int f[j],rfl,rfl,av.of (u.D.sm _ _ e7),bU (j:=0) rfl,?_⟩⟩;refine ⟨a,fT,x,n,f[j],rfl,u.D.sm _ _ u.ea,bp (λ _ _ z=>z.same u.D.sm) u.al,M0 u.G.l12 (by decide),c9,nn,U7,λ H8 s8=>?_⟩;have B:=u.same s8;refine ⟨_,rfl,_,rfl,_,rfl,.inl ⟨J,_,1,.int f[j + 1],rfl,rfl,av.of (B.D.sm _ _ e7),bU (j:=1) rfl,?_⟩⟩;refine ⟨a,fT,x,n,f[j + 1],rfl,B.D.sm _ _ B.ea,bp (λ _ _ z=>z.same B.D.sm) B.al,M0 B.G.l12 (by decide),c9,nn,U7,λ H9 s9=>?_⟩;have S9:=B.same s9;refine ⟨by cases ff x n f[j]<;>cases ff x n f[j + 1]<;>rfl,_,rfl,?_⟩;refine dw (λ zw=>?_) λ zw=>?_;rotate_left
     ·exact ⟨⟨rows5,kvs5,H07,ek5,S9,c6⟩,_,_,_,_,rfl⟩
     have ap:ff x n f[j]≠ff x n f[j + 1]:=λ e=>by rw [e] at zw;rw [ZY rfl] at zw;cases zw
     obtain ⟨h4,e9,h8,e4⟩:=S9.D.has a3;rw [hv] at e9;cases e9;have hm:(n,f.take j++f[j] :: f[j + 1] :: f.drop (j + 2))∈rows5:=by rw [<-t8,<-t8,N6];exact a3
     have lm:(f.map V.int).length=f.length:=q0 _;refine ⟨_,rfl,_,rfl,_,rfl,.inl ⟨lw,_,rfl,av.of e4,λ b5 g4=>?_⟩⟩;rw [show cj (f.map V.int) none (some ((j:Nat):Int))=(f.map V.int).take j from iy (by lia)];have c5:=Same.upd (o:=.lst ((f.map V.int).take j)) g4;have b2:=S9.same c5;have d9:upd H9 b5 (.lst ((f.map V.int).take j)) b5=some (.lst ((f.map V.int).take j)):=aB;have e0:=c5 _ _ e4;generalize upd H9 b5 (.lst ((f.map V.int).take j))=H10 at c5 b2 d9 e0⊢;refine ⟨_,rfl,.inl ⟨J,_,1,.int f[j + 1],rfl,rfl,av.of (b2.D.sm _ _ e7),bU (j:=1) rfl,?_⟩⟩;refine ⟨_,rfl,.inl ⟨J,_,0,.int f[j],rfl,rfl,av.of (b2.D.sm _ _ e7),bU (j:=0) rfl,?_⟩⟩;refine ⟨gp,λ b4 f7=>?_⟩;have a8:=Same.upd (o:=.lst [.int f[j + 1],.int f[j]]) f7;have f0:=b2.same a8;have d2:upd H10 b4 (.lst [.int f[j + 1],.int f[j]]) b4=some (.lst [.int f[j + 1],.int f[j]]):=aB;have f1:=a8 _ _ e0;generalize upd H10 b4 (.lst [.int f[j + 1],.int f[j]])=H11 at a8 f0 d2 f1⊢;refine .inr (.inr (.inl ⟨b5,b4,_,_,rfl,rfl,a8 _ _ d9,d2,M0 (m:=60) (by rw [Y1];show _ + 2<=60;lia) (by decide),λ b3 g2=>?_⟩));have b6:=Same.upd (o:=.lst ((f.map V.int).take j++[.int f[j + 1],.int f[j]])) g2;have d8:=f0.same b6;have c7:upd H11 b3 (.lst ((f.map V.int).take j++[.int f[j + 1],.int f[j]])) b3=some (.lst ((f.map V.int).take j++[.int f[j + 1],.int f[j]])):=aB;have d3:=b6 _ _ f1;generalize upd H11 b3 (.lst ((f.map V.int).take j++[.int f[j + 1],.int f[j]]))=H12 at b6 d8 c7 d3⊢;refine ⟨_,rfl,_,rfl,.inl ⟨_,_,rfl,rfl,_,rfl,.inl ⟨lw,_,rfl,av.of d3,λ a7 f9=>?_⟩⟩⟩;rw [show cj (f.map V.int) (some (((j:Nat):Int) + 2)) none=(f.map V.int).drop (j + 2) from xO (k:=j + 2) (by lia)];have b8:=Same.upd (o:=.lst ((f.map V.int).drop (j + 2))) f9;have a2:=d8.same b8;have f5:upd H12 a7 (.lst ((f.map V.int).drop (j + 2))) a7=some (.lst ((f.map V.int).drop (j + 2))):=aB;have c8:=b8 _ _ c7;generalize upd H12 a7 (.lst ((f.map V.int).drop (j + 2)))=H13 at b8 a2 f5 c8⊢;refine .inr (.inr (.inl ⟨b3,a7,_,_,rfl,rfl,c8,f5,M0 (m:=60) (by rw [F0,Y1,P3];show _ + 2 + _<=60;lia) (by decide),λ h9 d5=>?_⟩));have lk:=a2.D.len;have i0:=sP a2.G.inv.ne;have h2:=a2.G.tt;obtain ⟨a9,g0,S'⟩:=a2.swap hm ap d5 (zs:=(f.map V.int).take j++[.int f[j + 1],.int f[j]]++(f.map V.int).drop (j + 2)) (by rw [Q3,O0,O0,M9,N9,T2];rfl);have h1:=Same.upd (o:=.lst ((f.map V.int).take j++[.int f[j + 1],.int f[j]]++(f.map V.int).drop (j + 2))) d5 _ _ a2.D.at';exact ⟨_,rfl,_,rfl,v,_,rfl,.inl ⟨kvs5,.inr n,h1,rfl,W1 (m:=60) (by lia) (by decide),rfl⟩,⟨a9,_,H07,g0.trans ek5,S',c6⟩,_,_,_,_,rfl⟩
    ·rintro σ H5 ⟨⟨rows5,kvs5,H05,ek5,g,el5⟩,x6,x7,x8,x9,rfl⟩;exact q fT x rows5 kvs5 H05 H5 g.kp g.R g.ea g.al g.D g.G
   ·intro D1 a5;have b7:m < fT.length:=by lia
    obtain ⟨d,Y,p,F,vs,e1,e2,e3,ad⟩:=dQ t.al (C0 b7);have X:=t.G.ok d (K0 Y);refine ng (λ H'=>H'=W) ?_ λ d4=>?_
    ·rintro _ rfl;refine ⟨_,rfl,_,rfl,.inl ⟨a,fT,m,.ref p,rfl,rfl,av.of (t.D.sm _ _ t.ea),bU (by rw [C0 b7,e1]),?_⟩⟩;refine ⟨_,rfl,.inr (.inl ⟨p,_,rfl,aG.of (t.D.sm _ _ e2),?_,λ p5 a4=>?_⟩)⟩
     ·show ¬ (_/\(2:Nat)=3);exact λ h=>ZU h.2 (by decide)
     have s5:=Same.upd (o:=.tup (cj [.int d.b,.int d.e,.ref F] none (some 2))) (t.D.sm.free a4);have g:=t.fresh (o:=.tup (cj [.int d.b,.int d.e,.ref F] none (some 2))) a4;refine ⟨_,rfl,_,rfl,_,rfl,.inl ⟨a,fT,m,.ref p,rfl,rfl,av.of (g.D.sm _ _ g.ea),bU (by rw [C0 b7,e1]),?_⟩⟩;refine .inr (.inl ⟨p,_,2,.ref F,rfl,rfl,aG.of (g.D.sm _ _ (s5 _ _ e2)),bU (j:=2) rfl,?_⟩);refine ⟨_,rfl,r,F,v,vs,d.ds,O,Z,_,rfl,g.R,s5 _ _ e3,bp (λ _ _ z=>z.same s5) ad,X.ln,X.ds,g.D,λ q hq=>⟨by have:=sT hq;have:=g.G.tt;lia,g.G.bd q hq⟩,λ q' g1 f8 b9 H6 k6 R6 e6 g7 w6 l6 g5 D6=>?_⟩;have N:=g.kept ⟨k6,R6⟩ D6;have g3:p5≠r:=t.jar.fresh a4;have e5:=k6 _ _ g3 (show upd M p5 (.tup (cj [.int d.b,.int d.e,.ref F] none (some 2))) p5=some (.tup [.int d.b,.int d.e]) from aB);refine ⟨qS,λ J a6=>?_⟩;have s7:=Same.upd (o:=.tup [.ref q']) (N.D.sm.free a6);have u:=N.fresh (o:=.tup [.ref q']) a6;refine ⟨p5,J,_,_,rfl,rfl,u.D.sm _ _ (s7 _ _ e5),aB,lO,λ p8 H8 f6 e8=>?_⟩;obtain ⟨s8,B⟩:=(u.same f6).adopt e8;have S9:=B.set (e:=⟨d.b,d.e,f8⟩) (y:=.ref p8) Y ⟨X.b0,X.lt,l6,g5⟩ w6 ⟨p8,q',g1,rfl,aB,s8 _ _ (s7 _ _ e6),bp (λ _ _ z=>(z.same s7).same s8) g7⟩;refine ⟨_,rfl,_,rfl,a,fT,m,m,rfl,rfl,B.D.sm _ _ B.ea,?_,?_⟩
     ·unfold kh;rw [ZZ (by lia),ZZ (by lia)];rfl
     exact a5 _ _ ⟨_,_,_,_,by rw [Y9];exact lu3,S9,rfl⟩
    refine oh ?_;refine ⟨_,rfl,rfl,_,rfl,?_⟩;refine dw (λ z=>cb rfl (d4 _ rfl)) λ z=>?_;refine ⟨_,rfl,rfl,_,rfl,?_⟩;exact dw (λ z=>d4 _ rfl) λ z=>a5 _ _ ⟨_,_,_,_,lu3,t,rfl⟩
  ·intro D1 a5;refine oh ?_;refine ⟨_,rfl,rfl,_,rfl,?_⟩;refine dw (λ z=>?_) λ z=>?_
   ·refine cy ?_;refine ⟨_,rfl,r,130,rfl,S2.jar,by decide,by decide,λ U W k3 c0 c1=>ai ?_⟩;obtain ⟨M,t⟩:=S2.draw k3;refine ⟨_,rfl,_,rfl,.inl ⟨_,_,rfl,rfl,_,rfl,r,12,rfl,t.jar,by decide,by decide,λ t4 H4 k4 d0 d1=>.inl ⟨_,_,rfl,rfl,?_⟩⟩⟩;obtain ⟨f4,C⟩:=t.draw k4;obtain ⟨d,Y,p,F,vs,e1,e2,e3,ad⟩:=dQ C.al (C0 hm);refine ⟨_,rfl,_,rfl,.inl ⟨a,I,m,.ref p,rfl,rfl,av.of (C.D.sm _ _ C.ea),bU (by rw [C0 hm,e1]),?_⟩⟩;refine .inr (.inl ⟨p,_,2,.ref F,rfl,rfl,aG.of (C.D.sm _ _ e2),bU (j:=2) rfl,lO,λ p5 a4=>?_⟩);have s5:=Same.upd (o:=.tup [.int U,.int (U + 1 + t4),.ref F]) (C.D.sm.free a4);have g:=C.fresh (o:=.tup [.int U,.int (U + 1 + t4),.ref F]) a4;have X:=C.G.ok d (K0 Y);have N:=g.set (e:=⟨U,U + 1 + t4,d.ds⟩) (y:=.ref p5) Y ⟨c0,by show U < U + 1 + t4;lia,X.ln,X.ds⟩ (λ _=>rfl) ⟨p5,F,vs,rfl,aB,s5 _ _ e3,bp (λ _ _ z=>z.same s5) ad⟩;refine ⟨_,rfl,_,rfl,a,I,m,m,rfl,rfl,g.D.sm _ _ g.ea,?_,?_⟩
    ·unfold kh;rw [ZZ (by lia),ZZ (by lia)];rfl
    exact a5 _ _ ⟨_,_,_,_,by rw [Y9],N,rfl⟩
   ·exact a5 _ _ ⟨_,_,_,_,rfl,S2,rfl⟩
end
section
structure wL (N:Nat) (own:Nat->ZR->List Int) (V:ZR->List Int):Prop where
 fit :∀i n,own i n=(V n).filter λ v=>decide (v∈own i n)
 all :∀n v,v∈V n->∃i,i < N/\v∈own i n
 one :∀i j n v,v∈own i n->v∈own j n->i=j
 nd :∀n,(V n).Nodup
 n0 :∀n,(0:Int)∉V n
noncomputable def fD (own:Nat->ZR->List Int) (o:List Nat) (p:Nat) (n:ZR):List Int:=(o.take p).flatMap λ i=>own i n
noncomputable def dA (l:List Int):Int:=l.getLastD 0
inductive tL (own:Nat->ZR->List Int) (V:ZR->List Int) (out:Nat->List (ZR×Int)):Nat->Nat->Prop
 | after {a b k:Nat} {n:ZR} {v w:Int}:(V n)[k]? = some v->(V n)[k + 1]? = some w->v∈own a n->w∈own b n->tL own V out a b
 | seen {a b:Nat} {n:ZR} {x:Int}:(n,x)∈out b->x∈own a n->tL own V out a b
 | missed {a b k:Nat} {n:ZR} {x w:Int}:(n,x)∈out a->(0 :: V n)[k]? = some x->(V n)[k]? = some w->w∈own b n->tL own V out a b
def pD (own:Nat->ZR->List Int) (V:ZR->List Int) (out:Nat->List (ZR×Int)) (o:List Nat):Prop:=∀a b,tL own V out a b->a≠b->∀(p q:Nat),o[p]? = some a->o[q]? = some b->p < q
def uT (own:Nat->ZR->List Int) (out:Nat->List (ZR×Int)) (N:Nat):Prop:=∀i,i < N->∀c∈out i,c.2=0\/∃j,j≠i/\c.2∈own j c.1
def sv (own:Nat->ZR->List Int) (V:ZR->List Int) (out:Nat->List (ZR×Int)) (o:List Nat):Prop:=(∀(p i:Nat),o[p]? = some i->∀c∈out i,c.2=dA (fD own o p c.1))/\∀n,fD own o o.length n=V n
variable {N:Nat} {own:Nat->ZR->List Int} {V:ZR->List Int} {out:Nat->List (ZR×Int)} {o:List Nat}
def DZ {p q:Nat} {n:ZR} (h:p<=q):fD own o p n <+: fD own o q n:=by
 unfold fD;have e:o.take p=(o.take q).take p:=by rw [List.take_take,j02 h]
 rw [e]
 conv=>rhs;rw [<-N6 p (o.take q)]
 rw [U2];exact List.prefix_append _ _
def iP {p:Nat} {n:ZR} {v:Int}:v∈fD own o p n↔∃q i,q < p/\o[q]? = some i/\v∈own i n:=by
 unfold fD;rw [z9];constructor
 ·rintro ⟨i,hi,hv⟩;obtain ⟨q,a⟩:=List.mem_iff_getElem?.mp hi;rw [B7] at a;split at a
  ·exact ⟨q,i,by assumption,a,hv⟩
  ·cases a
 ·rintro ⟨q,i,a,hi,hv⟩;exact ⟨i,List.mem_iff_getElem?.mpr ⟨q,by rw [B7,ZZ a];exact hi⟩,hv⟩
theorem fI {l m:List Int} {k:Nat} {v:Int} (h:m <+: l) (nd:l.Nodup) (hk:l[k]? = some v):v∈m↔k < m.length:=by
 obtain ⟨t,rfl⟩:=h;constructor
 ·intro b;obtain ⟨j,a⟩:=List.mem_iff_getElem?.mp b;have jl:=(List.getElem?_eq_some_iff.mp a).1;have e:(m++t)[j]? = some v:=by rw [F2 jl];exact a
  have:=(Q7 (List.getElem?_eq_some_iff.mp e).1 nd).mp (e.trans hk.symm)
  lia
 ·intro lt;rw [F2 lt] at hk;exact K0 hk
def gJ {m:List Int}:m≠[]->m[m.length - 1]? = some (dA m):=λ h=>by unfold dA;rw [j0j,List.getLast?_eq_some_getLast h];rw [List.getLast_eq_getElem h];exact C0 _
theorem sv.kps (S:wL N own V) (po :∀i,i < N->∃p:Nat,o[p]? = some i) (nd:o.Nodup) (h:sv own V out o):pD own V out o/\uT own out N:=by
 have l :∀p n,p<=o.length->fD own o p n <+: V n:=λ p n d=>by rw [<-h.2 n];exact DZ d
 have H :∀{p q i:Nat},o[p]? = some i->o[q]? = some i->p=q:=λ {p q i} h1 h2=>(Q7 (List.getElem?_eq_some_iff.mp h1).1 nd).mp (h1.trans h2.symm)
 -- whose write stands ahead of a place
 have m :∀{p q j:Nat} {n:ZR} {v:Int},o[q]? = some j->v∈own j n->(v∈fD own o p n↔q < p):=λ {p q j n v} f g=>by
  rw [iP];constructor
  ·rintro ⟨q',i,lt,A,hv'⟩;have:=S.one _ _ _ _ g hv';subst this;rw [H f A];exact lt
  ·exact λ lt=>⟨q,j,lt,f,g⟩
 constructor
 ·intro a b r ne p q d f;have C:=(List.getElem?_eq_some_iff.mp d).1;have G:=(List.getElem?_eq_some_iff.mp f).1;cases r with
  | @after k n v w h1 h2 h3 h4=>
   -- v stands ahead of w
   have x:=(fI (l (q + 1) n G) (S.nd n) h2).mp ((m f h4).mpr (F4 q));have y:=(m (p:=q + 1) d h3).mp ((fI (l (q + 1) n G) (S.nd n) h1).mpr (by lia));have:p≠q:=λ z=>ne (by rw [z,f] at d;exact (G1 d).symm)
   lia
  | @seen n x h1 h2=>have e:=h.1 q b f _ h1;have e:x=dA (fD own o q n):=e;have I:x≠0:=λ z=>S.n0 n (by rw [<-z];rw [S.fit a n] at h2;exact (List.mem_filter.mp h2).1);have s:fD own o q n≠[]:=λ z=>I (by rw [e,z];rfl);refine (m d h2).mp ?_;rw [e];exact K0 (gJ s)
  | @missed k n x w h1 h2 h3 h4=>
   have e:x=dA (fD own o p n):=h.1 p a d _ h1;rcases Y3 p q with z|z
   ·exact z
   ·exfalso;have M:q≠p:=λ z=>ne (by rw [z,d] at f;exact G1 f);have u:=(m (p:=p) f h4).mpr (by lia);have L:=(fI (l p n (y4 C)) (S.nd n) h3).mp u;have s:fD own o p n≠[]:=λ z=>by rw [z] at u;cases u
    have E:=gJ s;rw [<-e] at E;obtain ⟨t,K⟩:=l p n (y4 C);have B:(V n)[(fD own o p n).length - 1]? = some x:=by rw [<-K,F2 (by lia)];exact E
    cases k with
    | zero=>rw [B4] at h2;exact S.n0 n (by rw [G1 h2];exact K0 B)
    | succ k=>
     rw [X2] at h2;have:=(Q7 (List.getElem?_eq_some_iff.mp h2).1 (S.nd n)).mp (h2.trans B.symm)
     lia
 ·intro i A c J;obtain ⟨p,d⟩:=po i A;have e:=h.1 p i d c J;by_cases z:fD own o p c.1=[]
  ·exact .inl (by rw [e,z];rfl)
  ·have D:=K0 (gJ z);rw [<-e] at D;obtain ⟨q,j,lt,F,g⟩:=iP.mp D;exact .inr ⟨j,λ y=>by rw [y] at F;have:=H F d;lia,g⟩
theorem Ai {f:Int->Nat} :∀(M:Nat) (l:List Int),l.Pairwise (λ a b=>f a<=f b)->(N0 M).flatMap (λ p=>l.filter λ v=>decide (f v=p))=l.filter λ v=>decide (f v < M)
 | 0,l,_=>by rw [List.filter_eq_nil_iff.mpr λ v _=>by simp];rfl
 | M + 1,l,h=>by
  rw [j2e,U2,Ai M l h];simp only [G3,List.flatMap_nil,E1];induction l with
  | nil=>rfl
  | cons a l c=>
   rw [List.pairwise_cons] at h;have c:=c h.2;rcases j1e (f a) M with z|z|z
   ·rw [u6 (by simp;lia),j92 (by simp;lia),u6 (by simp;lia),List.cons_append,c]
   ·have no:l.filter (λ v=>decide (f v < M))=[]:=List.filter_eq_nil_iff.mpr λ v d=>by have:=h.1 v d;simp;lia
    rw [j92 (by simp;lia),u6 (by simp;lia),u6 (by simp;lia),no,W9];rw [no,W9] at c;rw [c]
   ·have no :∀(q:Int->Bool),(∀v,q v=true->f v<=M)->(a :: l).filter q=[]:=λ q g=>List.filter_eq_nil_iff.mpr λ v d y=>by
     have:=g v y;rcases List.mem_cons.mp d with e|e
     ·rw [e] at this;lia
     ·have:=h.1 v e;lia
    rw [no _ λ v y=>by have:=ZW y;lia,no _ λ v y=>by have:=ZW y;lia,no _ λ v y=>by have:=ZW y;lia];rfl
theorem pD.std (S:wL N own V) (po :∀i,i < N->∃p:Nat,o[p]? = some i) (nd:o.Nodup) (lt :∀i∈o,i < N) (h:pD own V out o) (nl:uT own out N):sv own V out o:=by
 have P :∀{p q i:Nat},o[p]? = some i->o[q]? = some i->p=q:=λ {p q i} C E=>(Q7 (List.getElem?_eq_some_iff.mp C).1 nd).mp (C.trans E.symm)
 -- the place of a version's writer
 have J :∀n v,v∈V n->∃q i:Nat,o[q]? = some i/\v∈own i n:=λ n v g=>by obtain ⟨i,u,A⟩:=S.all n v g;obtain ⟨q,B⟩:=po i u;exact ⟨q,i,B,A⟩
 have js :∀{i n v},v∈own i n->v∈V n:=λ {i n v} g=>by rw [S.fit i n] at g;exact (List.mem_filter.mp g).1
 obtain ⟨f,D⟩ :∃f:ZR->Int->Nat,∀n v,v∈V n->∃i,o[f n v]? = some i/\v∈own i n:=by
  classical
  refine ⟨λ n v=>if g:v∈V n then (J n v g).choose else 0,λ n v g=>?_⟩;show∃i,o[(if g:v∈V n then (J n v g).choose else 0)]? = some i/\_;rw [dif_pos g];exact (J n v g).choose_spec
 have fe :∀{q i:Nat} {n v},o[q]? = some i->(v∈own i n↔v∈V n/\f n v=q):=λ {q i n v} B=>by
  constructor
  ·intro g;obtain ⟨j,s,A⟩:=D n v (js g);have:=S.one _ _ _ _ g A;subst this;exact ⟨js g,P s B⟩
  ·rintro ⟨g,e⟩;obtain ⟨j,s,A⟩:=D n v g;rw [e,B] at s;cases s;exact A
 have step :∀n (k:Nat) v w,(V n)[k]? = some v->(V n)[k + 1]? = some w->f n v<=f n w:=λ n k v w C E=>by
  obtain ⟨i,u,g⟩:=D n v (K0 C);obtain ⟨j,s,A⟩:=D n w (K0 E);by_cases e:i=j
  ·subst e;exact j2d (P u s)
  ·exact y4 (h i j (.after C E g A) e _ _ u s)
 have U :∀n,(V n).Pairwise λ a b=>f n a<=f n b:=λ n=>by
  rw [List.pairwise_iff_getElem];intro i j u s a2;have key :∀d (W:i + d < (V n).length),f n (V n)[i]<=f n ((V n)[i + d]):=λ d=>by
   induction d with
   | zero=>exact λ _=>L0 _
   | succ d ih=>exact λ W=>M0 (ih (by lia)) (step n (i + d) _ _ (C0 (by lia)) (C0 W))
  have:=key (j - i) (by lia);simpa [show i + (j - i)=j by lia] using this
 -- what is written ahead of a place
 have R :∀p n,p<=o.length->fD own o p n=(V n).filter λ v=>decide (f n v < p):=λ p n F=>by
  rw [<-Ai p (V n) (U n)];unfold fD;have e:o.take p=(N0 p).map λ q=>o[q]?.getD 0:=by
   apply i9;intro q;rw [B7,C1];by_cases z:q < p
   ·rw [ZZ z,P5 z];show o[q]? = some (o[q]?.getD 0);rw [C0 (by lia)];rfl
   ·rw [Z_ z,R3 (by rw [Q1];lia)];rfl
  rw [e,List.flatMap_map];have :∀q∈N0 p,own (o[q]?.getD 0) n=(V n).filter λ v=>decide (f n v=q):=λ q B=>by have B:=List.mem_range.mp B;have u:o[q]? = some (o[q]'(by lia)):=C0 (by lia);rw [u];show own (o[q]'(by lia)) n=_;rw [S.fit];refine g9 λ v g=>decide_eq_decide.mpr ?_;rw [fe u];exact ⟨λ z=>z.2,λ z=>⟨g,z⟩⟩
  clear e;generalize N0 p=l at this;induction l with
  | nil=>rfl
  | cons a l ih=>rw [G3,G3,this a Y0,ih λ q B=>this q (Z0 _ B)]
 -- that is a beginning of the versions
 have a1 :∀p n,(V n).filter (λ v=>decide (f n v < p)) <+: V n:=λ p n=>by
  have r:=U n;generalize V n=l at r;induction l with
  | nil=>exact List.nil_prefix
  | cons a l ih=>
   rw [List.pairwise_cons] at r;by_cases z:f n a < p
   ·rw [u6 (by simp;lia)];exact List.cons_prefix_cons.mpr ⟨rfl,ih r.2⟩
   ·rw [List.filter_eq_nil_iff.mpr λ v g y=>z (by
     have y:=ZW y;rcases List.mem_cons.mp g with e|e
     ·rw [<-e];exact y
     ·have:=r.1 v e;lia)]
    exact List.nil_prefix
 constructor
 ·intro p i F c L;obtain ⟨n,x⟩:=c;have Y:=(List.getElem?_eq_some_iff.mp F).1;have u:=lt i (K0 F);show x=dA (fD own o p n);rw [R p n (y4 Y)];have O:=a1 p n;generalize hm:(V n).filter (λ v=>decide (f n v < p))=m at O;have X :∀v,v∈m↔v∈V n/\f n v < p:=λ v=>by rw [<-hm,j2f,decide_eq_true_iff]
  -- the next version behind x is not ahead
  have Q :∀(k:Nat) w,(0 :: V n)[k]? = some x->(V n)[k]? = some w->¬ k < m.length:=λ k w C E lk=>by
   have A:=(X w).mp ((fI O (S.nd n) E).mpr lk);obtain ⟨j,s,K⟩:=D n w A.1;by_cases e:i=j
   ·subst e;have:=P s F
    lia
   ·have:=h i j (.missed L C E K) e p _ F s
    lia
  obtain ⟨t,G⟩:=O;rcases nl i u (n,x) L with z|⟨j,ne,s⟩
  ·have z:x=0:=z;cases g:m with
   | nil=>rw [z];rfl
   | cons a r=>exfalso;refine Q 0 a (by rw [z];rfl) (by rw [<-G,g];rfl) (by rw [g];exact k00 _)
  ·have s:x∈own j n:=s;have M:=js s;obtain ⟨q,B,K⟩:=D n x M;have e:=S.one _ _ _ _ s K;have lq:=h j i (.seen L s) ne _ _ (by rw [e];exact B) F;have xm:=(X x).mpr ⟨M,lq⟩;obtain ⟨k,H⟩:=List.mem_iff_getElem?.mp M;have I:=(fI ⟨t,G⟩ (S.nd n) H).mp xm;have last:¬ k + 1 < m.length:=λ y=>by have A:(V n)[k + 1]? = some ((V n)[k + 1]'(by rw [<-G,F0];lia)):=C0 _;exact Q (k + 1) _ (by rw [X2];exact H) A y
   have a0:m≠[]:=λ y=>by rw [y] at I;exact ZU I (Z2 _)
   have T:=gJ a0;have Z:m[k]? = some x:=by rw [<-G,F2 I] at H;exact H
   rw [show m.length - 1=k by lia,Z] at T;exact G1 T
 ·intro n;rw [R o.length n (L0 _)];refine List.filter_eq_self.mpr λ v g=>ZY ?_;obtain ⟨i,u,_⟩:=D n v g;exact (List.getElem?_eq_some_iff.mp u).1
end
section
variable {ds:List Dl} {rows:bA} {o:List Nat}
noncomputable def d_ (ds:List Dl) (i:Nat) (n:ZR):List Int:=bH ((ds[i]?.map (·.ds)).getD []) n
noncomputable def outD (ds:List Dl) (i:Nat):List (ZR×Int):=gX ((ds[i]?.map (·.ds)).getD [])
def bO {i:Nat} {n:ZR} {x:Int}:x∈d_ ds i n↔Wr ds i n x:=by
 unfold d_ Wr;cases h:ds[i]? with
 | none=>exact ⟨λ z=>(by cases z),λ ⟨_,e,_⟩=>(by cases e)⟩
 | some d=>exact eU.trans ⟨λ z=>⟨d,rfl,z⟩,λ ⟨_,e,z⟩=>(by cases e;exact z)⟩
def jW (I:Inv (ds.map (·.ds)) rows) (U:UW ds):wL ds.length (d_ ds) (a_ rows) where
 fit i n:=by
  unfold d_;cases h:ds[i]? with
  | none=>exact (List.filter_eq_nil_iff.mpr λ v _ z=>by cases ZW z).symm
  | some d=>exact I.own d.ds (List.mem_map.mpr ⟨d,K0 h,rfl⟩) n
 all n v hv:=by obtain ⟨a,c,f⟩:=List.mem_flatMap.mp ((I.pm n).mem_iff.mp hv);obtain ⟨d,e,rfl⟩:=List.mem_map.mp c;obtain ⟨i,b⟩:=List.mem_iff_getElem?.mp e;exact ⟨i,(List.getElem?_eq_some_iff.mp b).1,by unfold d_;rw [b];exact f⟩
 one i j n v h1 h2:=U i j n v (bO.mp h1) (bO.mp h2)
 nd n:=(I.nd n).1
 n0 n:=(I.nd n).2
def iX (nk:(rows.map (·.1)).Nodup) {n:ZR} {x y:Int}:(n,x,y)∈rows.flatMap cA↔∃k:Nat,(0 :: a_ rows n)[k]? = some x/\(a_ rows n)[k]? = some y:=by
 rw [z9];constructor
 ·rintro ⟨⟨m,g⟩,hr,h⟩;obtain ⟨⟨a,b⟩,f,e⟩:=List.mem_map.mp h;cases e;rw [ji nk hr];obtain ⟨k,d⟩:=List.mem_iff_getElem?.mp f;rw [j13] at d;exact ⟨k,d⟩
 ·rintro ⟨k,h1,h2⟩;obtain ⟨g,c,_⟩:=yF (K0 h2);rw [ji nk c] at h1 h2;exact ⟨_,c,List.mem_map.mpr ⟨(x,y),List.mem_iff_getElem?.mpr ⟨k,List.getElem?_zip_eq_some.mpr ⟨h1,h2⟩⟩,rfl⟩⟩
def Gk (I:Inv (ds.map (·.ds)) rows) (U:UW ds) (G:Gd ds rows):(∀a b k n,a≠b->(nW ds rows ⟨some a,some b,k,n⟩\/ju ds rows ds.length ⟨some a,some b,k,n⟩)->∀p q:Nat,o[p]? = some a->o[q]? = some b->p < q)↔pD (d_ ds) (a_ rows) (outD ds) o:=by
 have l:=I.nk;constructor
 ·intro h a b r ne p q s t;cases r with
  | @after k n v w c f h3 h4=>refine h a b "after" (some n) ne (.inl ⟨n,v,w,b,(iX l).mpr ⟨k + 1,by rw [X2];exact c,f⟩,bO.mp h4,?_⟩) p q s t;rw [(jm U).mpr (bO.mp h3)]
  | @seen n x c f=>
   have ⟨d,hd⟩ :∃d,ds[b]? = some d:=by
    unfold outD at c;cases e:ds[b]? with
    | none=>rw [e] at c;cases c
    | some d=>exact ⟨d,rfl⟩
   unfold outD at c;rw [hd] at c;refine h a b "seen" (some n) ne (.inr ⟨b,d,(n,x),(List.getElem?_eq_some_iff.mp hd).1,hd,c,.inl ?_⟩) p q s t;rw [(jm U).mpr (bO.mp f)]
  | @missed k n x w c f h3 h4=>
   have ⟨d,hd⟩ :∃d,ds[a]? = some d:=by
    unfold outD at c;cases e:ds[a]? with
    | none=>rw [e] at c;cases c
    | some d=>exact ⟨d,rfl⟩
   unfold outD at c;rw [hd] at c;refine h a b "missed" (some n) ne (.inr ⟨a,d,(n,x),(List.getElem?_eq_some_iff.mp hd).1,hd,c,.inr ?_⟩) p q s t;rw [(tj U G l).mpr ⟨w,(iX l).mpr ⟨k,f,h3⟩,bO.mp h4⟩]
 ·intro h a b k n ne r p q s t;refine h a b ?_ ne p q s t;rcases r with ⟨m,x,y,i,c,f,e⟩|⟨i,d,⟨m,x⟩,_,hd,hc,e|e⟩
  ·injection e with e1 e2;cases e2;have A:=(jm U).mp e1.symm;obtain ⟨j,g,u⟩:=(iX l).mp c;cases j with
   | zero=>rw [B4] at g;have B:(0:Int)=x:=G1 g;exact ZU ((jW I U).fit a m ▸ bO.mpr (B ▸ A)) λ z=>(I.nd m).2 (List.mem_filter.mp z).1
   | succ j=>rw [X2] at g;exact .after g u (bO.mpr A) (bO.mpr f)
  ·injection e with e1 e2;cases e2;exact .seen (n:=m) (x:=x) (by unfold outD;rw [hd];exact hc) (bO.mpr ((jm U).mp e1.symm))
  ·injection e with e1 e2;cases e1;obtain ⟨y,c,f⟩:=(tj U G l).mp e2.symm;obtain ⟨j,g,u⟩:=(iX l).mp c;exact .missed (n:=m) (x:=x) (by unfold outD;rw [hd];exact hc) g u (bO.mpr f)
end
section
variable {ds:List Dd}
def uV (ds:List Dd) (d:Dd) (n:ZR):bH (ds++[d]) n=bH ds n++if d.w=true/\d.n=n then [d.x] else []:=by unfold bH;rw [U2];simp
theorem jV:∀k,∀n,n∈(gW (ds.take k)).1↔bH (ds.take k) n≠[]:=by
 intro k;induction k with
 | zero=>intro n;rw [j33];exact ⟨λ h=>(by cases h),λ h=>ZU rfl h⟩
 | succ k ih=>
  intro n;cases hd:ds[k]? with
  | none=>rw [c9 (by have:=List.getElem?_eq_none_iff.mp hd;lia)];have:=ih n;rwa [c9 (by have:=List.getElem?_eq_none_iff.mp hd;lia)] at this
  | some d=>
   have e:ds.take (k + 1)=ds.take k++[d]:=by rw [j19,hd];rfl
   rw [e,wy,uV];by_cases w:d.w=true
   ·rw [ZZ w];show n∈(gW (ds.take k)).1++[d.n]↔_;rw [O4,B5,ih n];by_cases y:d.n=n
    ·rw [ZZ ⟨w,y⟩];exact ⟨λ _=>by simp,λ _=>.inr y.symm⟩
    ·rw [Z_ λ z=>y z.2,E1];exact ⟨λ z=>z.resolve_right λ z=>y z.symm,.inl⟩
   ·rw [Z_ (show ¬ (d.w=true/\d.n=n) from λ z=>w z.1),E1,<-ih n,Z_ w];split<;>exact Iff.rfl
theorem sG:∀k,∀c:ZR×Int,c∈gX (ds.take k)↔∃p:Nat,p < k/\ds[p]? = some ⟨false,c.1,c.2⟩/\bH (ds.take p) c.1=[]:=by
 intro k;induction k with
 | zero=>intro c;rw [j33];exact ⟨λ h=>(by cases h),λ ⟨_,h,_⟩=>ZU h (Z2 _)⟩
 | succ k ih=>
  intro c;have old:(∃p:Nat,p < k/\ds[p]? = some ⟨false,c.1,c.2⟩/\bH (ds.take p) c.1=[])->∃p:Nat,p < k + 1/\ds[p]? = some ⟨false,c.1,c.2⟩/\bH (ds.take p) c.1=[]:=λ ⟨p,a,b⟩=>⟨p,by lia,b⟩
  have new :∀{P:Prop},(∃p:Nat,p < k + 1/\ds[p]? = some ⟨false,c.1,c.2⟩/\bH (ds.take p) c.1=[])->(ds[k]? = some ⟨false,c.1,c.2⟩->bH (ds.take k) c.1=[]->P)->((∃p:Nat,p < k/\ds[p]? = some ⟨false,c.1,c.2⟩/\bH (ds.take p) c.1=[])->P)->P:=λ ⟨p,a,b1,b2⟩ h1 h2=>by
   rcases Nat.lt_succ_iff_lt_or_eq.mp a with z|z
   ·exact h2 ⟨p,z,b1,b2⟩
   ·subst z;exact h1 b1 b2
  cases hd:ds[k]? with
  | none=>
   have e:ds.take (k + 1)=ds.take k:=by rw [j19,hd];simp
   rw [e,ih c];exact ⟨old,λ h=>new h (λ z=>by rw [hd] at z;cases z) id⟩
  | some d=>
   have e:ds.take (k + 1)=ds.take k++[d]:=by rw [j19,hd];rfl
   rw [e];show c∈(gW (ds.take k++[d])).2↔_;rw [wy];by_cases w:d.w=true
   ·rw [ZZ w];show c∈gX (ds.take k)↔_;rw [ih c];exact ⟨old,λ h=>new h (λ z=>by rw [hd] at z;cases z;cases w) id⟩
   ·rw [Z_ w];by_cases y:d.n∈(gW (ds.take k)).1
    ·rw [ZZ y];show c∈gX (ds.take k)↔_;rw [ih c];exact ⟨old,λ h=>new h (λ z f=>by rw [hd] at z;cases z;exact ZU f ((jV k _).mp y)) id⟩
    ·rw [Z_ y];show c∈gX (ds.take k)++[(d.n,d.x)]↔_;rw [O4,B5,ih c];constructor
     ·rintro (h|h)
      ·exact old h
      ·refine ⟨k,F4 k,?_,?_⟩
       ·rw [hd,h];obtain ⟨g,i,j⟩:=d;cases g with
        | true=>exact ZU rfl w
        | false=>rfl
       ·rw [h];exact N2 λ z=>y ((jV k _).mpr z)
     ·intro h;refine new h (λ z _=>?_) .inl;rw [hd] at z;cases z;exact .inr rfl
def qh (ds:List Dd):Prop:=∀(p:Nat) n x,ds[p]? = some ⟨false,n,x⟩->bH (ds.take p) n≠[]->x=dA (bH (ds.take p) n)
noncomputable def jy (st:ZR->Int) (ds:List Dd) (n:ZR):Int:=if bH ds n=[] then st n else dA (bH ds n)
def gw {st:ZR->Int}:(∀(p:Nat) n x,ds[p]? = some ⟨false,n,x⟩->x=jy st (ds.take p) n)↔qh ds/\∀c∈gX ds,c.2=st c.1:=by
 have b:ds.take ds.length=ds:=W2;constructor
 ·intro h;refine ⟨λ p n x a e=>by rw [h p n x a];exact Z_ e,λ c d=>?_⟩;rw [<-b] at d;obtain ⟨p,_,a,f⟩:=(sG ds.length c).mp d;rw [h p _ _ a];exact ZZ f
 ·rintro ⟨h1,h2⟩ p n x a;unfold jy;by_cases z:bH (ds.take p) n=[]
  ·rw [ZZ z];refine h2 (n,x) ?_;rw [<-b];exact (sG ds.length (n,x)).mpr ⟨p,(List.getElem?_eq_some_iff.mp a).1,a,z⟩
  ·rw [Z_ z];exact h1 p n x a z
def AL {a b:List Int}:dA (a++b)=if b=[] then dA a else dA b:=by
 unfold dA;by_cases z:b=[]
 ·rw [ZZ z,z,E1]
 ·rw [Z_ z,j0j,j0j,List.getLast?_append];cases h:b.getLast? with
  | none=>exact ZU (List.getLast?_eq_none_iff.mp h) z
  | some x=>rfl
end
section
variable {P:ZK} {w:U1} {mg:ZR->Option ZH} {base:ZN}
def iE (ko:List (Key×V)) (pre:List Dd):Prop:=∀n:ZR,aH ko (.inr n)=if bH pre n=[] then none else some (.int (dA (bH pre n)))
def iE.nil:iE [] []:=λ _=>rfl
def kN {ds:List Dd} {d:Dd} {n:ZR} (h:¬ (d.w=true/\d.n=n)):bH (ds++[d]) n=bH ds n:=by rw [uV,Z_ h,E1]
def iE.skip {ko:List (Key×V)} {pre:List Dd} {d:Dd} (h:iE ko pre) (hw:¬ d.w=true):iE ko (pre++[d]):=λ n=>by rw [kN λ z=>hw z.1];exact h n
def iE.put {ko:List (Key×V)} {pre:List Dd} {d:Dd} (h:iE ko pre) (hw:d.w=true):iE (putK ko (.inr d.n) (.int d.x)) (pre++[d]):=λ n=>by
 rw [rh];by_cases z:d.n=n
 ·have e:bH (pre++[d]) n=bH pre n++[d.x]:=by rw [uV,ZZ (⟨hw,z⟩:d.w=true/\d.n=n)]
  rw [ZZ (show (Sum.inr n:Key)=Sum.inr d.n by rw [z]),e,AL,Z_ (show ¬ bH pre n++[d.x]=[] by simp),Z_ (show ¬ [d.x]=[] by simp)];rfl
 ·rw [Z_ (show ¬ (Sum.inr n:Key)=Sum.inr d.n from λ e=>z (Sum.inr.inj e).symm),kN λ e=>z e.2];exact h n
def iV (ds:List Dl) (i:Nat) (pre:List Dd) (d:Dd):Prop:=(bH pre d.n≠[]/\d.x≠dA (bH pre d.n))\/(bH pre d.n=[]/\d.x≠0/\∀j,Wr ds j d.n d.x->j=i)
def zf:Sp:=λ vs H Q _=>∃(i:Nat) (y:V) (d:Dd) (od wd:ZS) (ko:List (Key×V)) (kw:List (List Key×V)) (pre:List Dd) (ds:List Dl),vs=[.int i,y,.ref od,.ref wd]/\cT H d y/\H od=some (.dK ko)/\iE ko pre/\H wd=some (.dT kw)/\WL (fk ds ds.length) kw/\UW ds/\∀b H',Same H H'->(b=true↔iV ds i pre d)->Q (.bl b) H'
def gh (ds:List Dl):Prop:=∀(i:Nat) d,ds[i]? = some d->∀(p:Nat) n x,d.ds[p]? = some ⟨false,n,x⟩->¬ iV ds i (d.ds.take p) ⟨false,n,x⟩
def gh.iff {ds:List Dl}:gh ds↔(∀d∈ds,qh d.ds)/\uT (d_ ds) (outD ds) ds.length:=by
 constructor
 ·intro h;refine ⟨λ d a p n x f g=>?_,λ i o c b=>?_⟩
  ·obtain ⟨i,o⟩:=List.mem_iff_getElem?.mp a;exact N2 λ z=>h i d o p n x f (.inl ⟨g,z⟩)
  ·have a:ds[i]? = some ds[i]:=C0 o;unfold outD at b;rw [a] at b;have b:c∈gX ds[i].ds:=b;rw [<-W2 (l:=ds[i].ds)] at b;obtain ⟨p,_,f,k⟩:=(sG _ c).mp b;refine N2 λ z=>h i _ a p _ _ f (.inr ⟨k,λ e=>z (.inl e),λ j m=>N2 λ ne=>z (.inr ⟨j,ne,bO.mpr m⟩)⟩)
 ·rintro ⟨h1,h2⟩ i d a p n x f (⟨g,z⟩|⟨k,x0,u⟩)
  ·exact z (h1 d (K0 a) p n x f g)
  ·have b:(n,x)∈outD ds i:=by unfold outD;rw [a];show (n,x)∈gX d.ds;rw [<-W2 (l:=d.ds)];exact (sG _ (n,x)).mpr ⟨p,(List.getElem?_eq_some_iff.mp f).1,f,k⟩
   rcases h2 i (List.getElem?_eq_some_iff.mp a).1 _ b with z|⟨j,ne,m⟩
   ·exact x0 z
   ·exact ne (u j (bO.mp m))
def vC:Sp:=λ vs H Q _=>∃(a:ZS) (us:List V) (ds:List Dl),vs=[.ref a]/\H a=some (.lst us)/\af (bJ H) ds us/\ds.length<=12/\(∀d∈ds,d.ds.length<=4)/\UW ds/\
 (∀H',Same H H'->gh ds->Q .non H')/\∀t (i p:Nat) H',Same H H'->H' t=some (.tup [.str "lost",.int (i:Nat),.int (p:Nat)])->¬ gh ds->Q (.ref t) H'
end
section
variable {ds:List Dl} {rows:bA} {o:List Nat}
def rD (ds:List Dl) (rows:bA) (o:List Nat):Prop:=(∀(p i:Nat) d,o[p]? = some i->ds[i]? = some d->∀(q:Nat) n x,d.ds[q]? = some ⟨false,n,x⟩->x=jy (λ m=>dA (fD (d_ ds) o p m)) (d.ds.take q) n)/\∀n,fD (d_ ds) o o.length n=a_ rows n
def zM (I:Inv (ds.map (·.ds)) rows) (U:UW ds) (pm:o.Perm (N0 ds.length)):rD ds rows o↔gh ds/\pD (d_ ds) (a_ rows) (outD ds) o:=by
 have S:=jW I U;have n:o.Nodup:=pm.nodup_iff.mpr C6;have lt :∀i∈o,i < ds.length:=λ i e=>List.mem_range.mp (pm.mem_iff.mp e);have l :∀i,i < ds.length->∃p:Nat,o[p]? = some i:=λ i e=>List.mem_iff_getElem?.mp (pm.mem_iff.mpr (List.mem_range.mpr e));have m :∀{i:Nat} {d:Dl},ds[i]? = some d->outD ds i=gX d.ds:=λ h=>by unfold outD;rw [h];rfl
 rw [gh.iff];constructor
 ·rintro ⟨h1,h2⟩;have g:sv (d_ ds) (a_ rows) (outD ds) o:=⟨λ p i b c f=>by have a:ds[i]? = some (ds[i]'(lt i (K0 b))):=C0 _;rw [m a] at f;exact (gw.mp (h1 p i _ b a)).2 c f,h2⟩
  obtain ⟨k,j⟩:=g.kps S l n;refine ⟨⟨λ d a=>?_,j⟩,k⟩;obtain ⟨i,e⟩:=List.mem_iff_getElem?.mp a;obtain ⟨p,b⟩:=l i (List.getElem?_eq_some_iff.mp e).1;exact (gw.mp (h1 p i d b e)).1
 ·rintro ⟨⟨h1,j⟩,k⟩;have g:=k.std S l n lt j;refine ⟨λ p i d b a=>gw.mpr ⟨h1 d (K0 a),λ c f=>?_⟩,g.2⟩;rw [<-m a] at f;exact g.1 p i b c f
end
section
variable {α:Type} {one oth:α->Nat} {L:List α} {N:Nat}
noncomputable def dB (one oth:α->Nat) (L:List α) (l:List Nat):List Nat:=(L.filter λ r=>decide (one r∈l)).map oth
noncomputable def bF (one oth:α->Nat) (L:List α) (l:List Nat):List Nat:=l.filter λ x=>decide (x∉dB one oth L l)
def BK {l:List Nat} {x:Nat}:x∈dB one oth L l↔∃r∈L,one r∈l/\oth r=x:=by unfold dB;rw [j51];exact ⟨λ ⟨r,h,e⟩=>⟨r,(List.mem_filter.mp h).1,ZW (List.mem_filter.mp h).2,e⟩,λ ⟨r,h1,h2,e⟩=>⟨r,List.mem_filter.mpr ⟨h1,ZY h2⟩,e⟩⟩
def dC {l:List Nat} {x:Nat}:x∈bF one oth L l↔x∈l/\∀r∈L,one r∈l->oth r≠x:=by unfold bF;rw [j2f,decide_eq_true_iff,BK];exact ⟨λ h=>⟨h.1,λ r a b e=>h.2 ⟨r,a,b,e⟩⟩,λ h=>⟨h.1,λ ⟨r,a,b,e⟩=>h.2 r a b e⟩⟩
inductive Kn (one oth:α->Nat) (L:List α) (N:Nat):List Nat->List Nat->Prop
 | nil:Kn one oth L N [] (N0 N)
 | step {o l:List Nat} {x:Nat}:Kn one oth L N o l->(bF one oth L l).head? = some x->Kn one oth L N (o++[x]) (l.erase x)
def Kn.perm {o l:List Nat} (h:Kn one oth L N o l):(o++l).Perm (N0 N):=by
 induction h with
 | nil=>exact .refl _
 | @step o l x _ a ih=>have a:=List.mem_of_head? a;refine k0f ?_ ih;rw [T2];exact Y8 o (k0d (dC.mp a).1).symm
theorem Li {l o:List Nat} (hl:l≠[]) (hr:bF one oth L l=[]) (all :∀x∈l,∃p:Nat,o[p]? = some x) (kp :∀r∈L,∀p q:Nat,o[p]? = some (one r)->o[q]? = some (oth r)->p < q):False:=by
 have key :∀(n:Nat) (x p:Nat),x∈l->o[p]? = some x->p<=n->False:=by
  intro n;induction n with
  | zero=>
   intro x p c d h;have g:x∉bF one oth L l:=by rw [hr];exact P0
   have :∃r∈L,one r∈l/\oth r=x:=N2 λ y=>g (dC.mpr ⟨c,λ r b a e=>y ⟨r,b,a,e⟩⟩);obtain ⟨r,b,a,e⟩:=this;obtain ⟨q,f⟩:=all _ a;have:=kp r b q p f (by rw [e];exact d)
   lia
  | succ n ih=>
   intro x p c d h;have g:x∉bF one oth L l:=by rw [hr];exact P0
   have :∃r∈L,one r∈l/\oth r=x:=N2 λ y=>g (dC.mpr ⟨c,λ r b a e=>y ⟨r,b,a,e⟩⟩);obtain ⟨r,b,a,e⟩:=this;obtain ⟨q,f⟩:=all _ a;exact ih (one r) q a f (by have:=kp r b q p f (by rw [e];exact d);lia)
 obtain ⟨x,c⟩:=List.exists_mem_of_ne_nil l hl;obtain ⟨p,d⟩:=all x c;exact key p x p c d (L0 _)
structure lG (one oth:α->Nat) (L:List α) (l:List Nat) (w:List α) (c:Nat):Prop where
 m :∀r∈w,r∈L/\one r∈l/\oth r∈l
 nd:(w.map oth).Nodup
 i:c∈l
 h :∀r,w.head? = some r->one r=c
 s :∀(k:Nat) r q,w[k]? = some r->w[k + 1]? = some q->oth r=one q
def lG.nil {l:List Nat} {c:Nat} (h:c∈l):lG one oth L l [] c:=⟨λ _ h=>ZU h P0,.nil,h,λ r h=>(by cases h),λ k r q h=>(by cases h)⟩
def lG.back {l:List Nat} {w:List α} {c:Nat} (h:lG one oth L l w c) {r:α} (hr:r∈L) (ho:oth r=c) (hl:one r∈l) (nc:c∉w.map oth):lG one oth L l (r :: w) (one r):=by
 refine ⟨λ q d=>?_,?_,hl,λ q d=>?_,λ k q f a b=>?_⟩
 ·rcases List.mem_cons.mp d with e|e
  ·rw [e];exact ⟨hr,hl,by rw [ho];exact h.i⟩
  ·exact h.m q e
 ·rw [O0,L3,ho];exact ⟨nc,h.nd⟩
 ·rw [List.head?_cons] at d;rw [G1 d]
 ·cases k with
  | zero=>rw [B4] at a;rw [X2] at b;have a:=G1 a;subst a;rw [ho];exact (h.h f (by rw [List.head?_eq_getElem?];exact b)).symm
  | succ k=>rw [X2] at a b;exact h.s k q f a b
theorem lG.ring {l:List Nat} {w:List α} {c j:Nat} (h:lG one oth L l w c) (hj:(w.map oth)[j]? = some c):((w.take (j + 1)).map oth)=((w.take (j + 1)).map one).drop 1++((w.take (j + 1)).map one).take 1/\((w.take (j + 1)).map one).Nodup/\(w.take (j + 1))≠[]/\∀r∈w.take (j + 1),r∈L:=by
 have jl:j < w.length:=by have:=(List.getElem?_eq_some_iff.mp hj).1;rwa [q0] at this
 obtain ⟨d,t,g⟩ :∃d t,w=d :: t:=by
  cases w with
  | nil=>exact ZU jl (Z2 _)
  | cons a t=>exact ⟨a,t,rfl⟩
 have q:one d=c:=h.h d (by rw [g];rfl);have n:((w.take (j + 1)).map oth)=((w.take (j + 1)).map one).drop 1++((w.take (j + 1)).map one).take 1:=by
  apply i9;intro k;have f:(w.take (j + 1)).length=j + 1:=by rw [Y1];lia
  have i:(((w.take (j + 1)).map one).drop 1).length=j:=by rw [P3,q0,f];lia
  rcases j1e k j with z|z|z
  ·rw [F2 (by lia),j47,C1,C1,B7,B7,ZZ (by lia),ZZ (by lia)];have a:w[k]? = some (w[k]'(by lia)):=C0 (by lia);have b:w[k + 1]? = some (w[k + 1]'(by lia)):=C0 (by lia);rw [j06 1 k,a,b];show some _=some _;rw [h.s k _ _ a b]
  ·subst z;rw [C4 (by lia),i,k01,C1,B7,ZZ (by lia),<-C1,hj,g];show some c=some (one d);rw [q]
  ·rw [R3 (by rw [q0,f];lia),R3 (by rw [F0,i,Y1,q0,f];lia)]
 refine ⟨n,?_,λ e=>?_,λ r u=>(h.m r (J5 u)).1⟩
 ·have o:((w.take (j + 1)).map oth).Nodup:=by rw [M9];exact h.nd.sublist (j18 _ _)
  rw [n] at o;have p:(((w.take (j + 1)).map one).drop 1++((w.take (j + 1)).map one).take 1).Perm ((w.take (j + 1)).map one):=by refine List.perm_append_comm.trans ?_;rw [N6]
  exact p.nodup_iff.mp o
 ·have:=ZT j1a e;rw [Y1,v6] at this
  lia
noncomputable def bB (N:Nat):Nat->List (List Nat)
 | 0=>[[]]
 | k + 1=>(bB N k).flatMap λ o=>((N0 N).filter λ x=>decide (x∉o)).map λ x=>o++[x]
def AF {o:List Nat} {x:Nat}:((N0 N).filter λ y=>decide (y∉o)).erase x=(N0 N).filter λ y=>decide (y∉o++[x]):=by rw [List.Nodup.erase_eq_filter (List.nodup_range.filter _),List.filter_filter];refine g9 λ y _=>?_;by_cases h1:y∈o<;>by_cases h2:y=x<;>simp [h1,h2]
theorem w7:∀{k:Nat} {o:List Nat},o∈bB N k->o.length=k/\(o++(N0 N).filter λ y=>decide (y∉o)).Perm (N0 N)
 | 0,o,h=>by rw [List.mem_singleton.mp h];exact ⟨rfl,by rw [W9,List.filter_eq_self.mpr λ x _=>ZY P0]⟩
 | k + 1,o,h=>by obtain ⟨c,d,f⟩:=List.mem_flatMap.mp h;obtain ⟨x,e,rfl⟩:=List.mem_map.mp f;obtain ⟨a,b⟩:=w7 d;refine ⟨by rw [F0,a];rfl,k0f ?_ b⟩;rw [<-AF,T2];exact Y8 c (k0d e).symm
theorem qF {o:List Nat} (h:o∈bB N N):o.Perm (N0 N):=by obtain ⟨a,b⟩:=w7 h;have l:=b.length_eq;rw [F0,Q1,a] at l;have e:((N0 N).filter λ y=>decide (y∉o))=[]:=List.eq_nil_of_length_eq_zero (by lia);rw [e,E1] at b;exact b
theorem wk:∀k:Nat,(bB N k).length<=N ^ k
 | 0=>L0 _
 | k + 1=>by
  have b:=wk k;have go :∀l:List (List Nat),(l.flatMap λ o=>((N0 N).filter λ x=>decide (x∉o)).map λ x=>o++[x]).length<=l.length * N:=λ l=>by
   induction l with
   | nil=>exact K2 _
   | cons a l b=>
    rw [G3,F0,q0,W0,Nat.add_mul,Nat.one_mul,j06];refine Nat.add_le_add b ?_;have:=u5 (λ x=>decide (x∉a)) (N0 N)
    rwa [Q1] at this
  have:=go (bB N k);have c:(bB N k).length * N<=N ^ k * N:=j3b _ b;rw [k02];exact M0 this c
def PK (one oth:α->Nat) (L:List α) (o:List Nat):Prop:=∀r∈L,∀q:Nat,o[q]? = some (oth r)->∃p:Nat,p < q/\o[p]? = some (one r)
theorem PK.init {o:List Nat} {x:Nat} (h:PK one oth L (o++[x])):PK one oth L o:=λ r d q a=>by have b:=(List.getElem?_eq_some_iff.mp a).1;obtain ⟨p,c,e⟩:=h r d q (by rw [F2 b];exact a);exact ⟨p,c,by rw [F2 (by lia)] at e;exact e⟩
theorem PK.snoc {o:List Nat} {x:Nat} (h:PK one oth L o) (k :∀r∈L,oth r=x->one r∈o):PK one oth L (o++[x]):=λ r d q a=>by
 rcases Y3 q o.length with z|z
 ·rw [F2 z] at a;obtain ⟨p,b,e⟩:=h r d q a;exact ⟨p,b,by rw [F2 (by lia)];exact e⟩
 ·rw [C4 z] at a;have e:q=o.length:=by
   have:=(List.getElem?_eq_some_iff.mp a).1;simp only [W0,v6] at this
   lia
  subst e;rw [k01] at a;obtain ⟨p,b⟩:=List.mem_iff_getElem?.mp (k r d (G1 a).symm);have c:=(List.getElem?_eq_some_iff.mp b).1;exact ⟨p,c,by rw [F2 c];exact b⟩
def PK.last {o:List Nat} {x:Nat} (h:PK one oth L (o++[x])) :∀r∈L,oth r=x->one r∈o:=λ r a e=>by obtain ⟨p,b,e⟩:=h r a o.length (by rw [C4 (L0 _),k01,e];rfl);rw [F2 b] at e;exact K0 e
def Kn.left {o l:List Nat} (h:Kn one oth L N o l):l=(N0 N).filter λ x=>decide (x∉o):=by
 induction h with
 | nil=>exact (List.filter_eq_self.mpr λ x _=>ZY P0).symm
 | @step o l x k hx ih=>rw [ih,AF]
def Kn.first {o l:List Nat} (h:Kn one oth L N o l) (hN :∀r∈L,one r < N) {f:List Nat->Bool} (hf :∀o,f o=true↔PK one oth L o):((bB N o.length).filter f).head? = some o:=by
 induction h with
 | nil=>show ([[]].filter f).head? = _;rw [u6 ((hf _).mpr λ r _ q s=>by cases s)];rfl
 | @step o l x k hx ih=>
  rw [F0];show ((((bB N o.length).flatMap λ o=>((N0 N).filter λ x=>decide (x∉o)).map λ x=>o++[x])).filter f).head? = _;rw [List.head?_filter,List.find?_eq_some_iff_append] at ih;obtain ⟨c,p,bs,e,i⟩:=ih;have c:=(hf o).mp c;rw [e,U2,F7];have n:(p.flatMap λ o=>((N0 N).filter λ x=>decide (x∉o)).map λ x=>o++[x]).filter f=[]:=List.filter_eq_nil_iff.mpr λ A v j=>by obtain ⟨g,d,t⟩:=List.mem_flatMap.mp v;obtain ⟨y,_,rfl⟩:=List.mem_map.mp t;have:=i g d;rw [(hf g).mpr ((hf _).mp j).init] at this;cases this
  rw [n,W9,G3,F7,j2g,<-k.left];have u:l.filter (f ∘ λ x=>o++[x])=bF one oth L l:=by
   unfold bF;refine g9 λ y w=>?_;rw [Bool.eq_iff_iff,decide_eq_true_iff,BK];show f (o++[y])=true↔_;rw [hf];have m :∀z,z < N->z∈o\/z∈l:=λ z b=>List.mem_append.mp (k.perm.mem_iff.mpr (List.mem_range.mpr b));have no :∀z,z∈l->z∉o:=λ z b=>by rw [k.left] at b;exact ZW (List.mem_filter.mp b).2
   constructor
   ·rintro h ⟨r,a,h1,d⟩;exact no _ h1 (h.last r a d)
   ·intro h;exact c.snoc λ r a e=>(m _ (hN r a)).resolve_right λ z=>h ⟨r,a,z,e⟩
  rw [u];cases hR:bF one oth L l with
  | nil=>rw [hR] at hx;cases hx
  | cons y ys=>rw [hR] at hx;have:y=x:=G1 hx;subst this;rfl
theorem ij {o:List Nat} (pm:o.Perm (N0 N)) (hN :∀r∈L,one r < N/\one r≠oth r):PK one oth L o↔∀r∈L,∀p q:Nat,o[p]? = some (one r)->o[q]? = some (oth r)->p < q:=by
 have e:o.Nodup:=pm.nodup_iff.mpr C6;constructor
 ·intro h r b p q a c;obtain ⟨f,lt,d⟩:=h r b q c;have:=(Q7 (List.getElem?_eq_some_iff.mp a).1 e).mp (a.trans d.symm)
  lia
 ·intro h r b q c;obtain ⟨p,a⟩:=List.mem_iff_getElem?.mp (pm.mem_iff.mpr (List.mem_range.mpr (hN r b).1));exact ⟨p,h r b p q a c,a⟩
end
section
variable {ds:List Dl} {rows:bA} {t:Bool} {rs:List dF} {o:List Nat}
noncomputable def aN (r:dF):Nat:=r.a.toNat
noncomputable def bN (r:dF):Nat:=r.b.toNat
def Wr.lt {i:Nat} {n:ZR} {x:Int} (h:Wr ds i n x):i < ds.length:=h.elim λ _ z=>(List.getElem?_eq_some_iff.mp z.1).1
def kJ {q:ie} (G:Gd ds rows) (U:UW ds) (nk:(rows.map (·.1)).Nodup) (h:nW ds rows q\/ju ds rows ds.length q\/(t=true/\pF ds q)) (g:jc q=true) :∃i j:Nat,q.a=some i/\q.b=some j/\i≠j/\i < ds.length/\j < ds.length:=by
 obtain ⟨a,b,k,n⟩:=q;cases a with
 | none=>cases g
 | some i=>
  cases b with
  | none=>cases g
  | some j=>
   have ne:i≠j:=λ e=>by have g:(!decide (i=j))=true:=g;rw [ZY e] at g;cases g
   refine ⟨i,j,rfl,rfl,ne,?_⟩;rcases h with ⟨m,x,y,l,_,f,e⟩|⟨l,d,c,lt,hd,_,e|e⟩|⟨_,l,m,d,e,h1,f,_,h4⟩
   ·injection e with e1 e2;cases e2;exact ⟨((jm U).mp e1.symm).lt,f.lt⟩
   ·injection e with e1 e2;cases e2;exact ⟨((jm U).mp e1.symm).lt,lt⟩
   ·injection e with e1 e2;cases e1;obtain ⟨_,_,z⟩:=(tj U G nk).mp e2.symm;exact ⟨lt,z.lt⟩
   ·cases h4;exact ⟨(List.getElem?_eq_some_iff.mp h1).1,(List.getElem?_eq_some_iff.mp f).1⟩
structure iA (N:Nat) (r:dF):Prop where
 a:r.a=(aN r:Nat)
 b:r.b=(bN r:Nat)
 ne:aN r≠bN r
 la:aN r < N
 lb:bN r < N
def eM {r:dF} (G:Gd ds rows) (U:UW ds) (nk:(rows.map (·.1)).Nodup) (h:jx ds rows t r):iA ds.length r:=by obtain ⟨q,c,g,rfl⟩:=h;obtain ⟨i,j,l,e,ne,d,f⟩:=kJ G U nk c g;obtain ⟨a,b,k,n⟩:=q;cases l;cases e;exact ⟨rfl,rfl,ne,d,f⟩
def tK (ds:List Dl) (o:List Nat):Prop:=∀(i j:Nat) d e,ds[i]? = some d->ds[j]? = some e->d.e < e.b->∀p q:Nat,o[p]? = some i->o[q]? = some j->p < q
def ke {i j:Nat} {k:ZR} {n:Option ZR} (h:i≠j):jc ⟨some i,some j,k,n⟩=true:=by show (!decide (i=j))=true;rw [ZX h];rfl
theorem Fi (I:Inv (ds.map (·.ds)) rows) (U:UW ds) (G:Gd ds rows) (me :∀r,r∈rs↔jx ds rows t r):(∀r∈rs,∀p q:Nat,o[p]? = some (aN r)->o[q]? = some (bN r)->p < q)↔pD (d_ ds) (a_ rows) (outD ds) o/\(t=true->tK ds o):=by
 rw [<-Gk I U G];constructor
 ·intro h;refine ⟨λ a b k n ne r p q c f=>?_,λ u i j d e s m lt p q c f=>?_⟩
  ·exact h (lV ⟨some a,some b,k,n⟩) ((me _).mpr ⟨_,r.imp id .inl,ke ne,rfl⟩) p q c f
  ·have ne:i≠j:=λ z=>by
    subst z;rw [s] at m;cases m;have:=(G.ok d (K0 s)).lt
    lia
   exact h (lV ⟨some i,some j,"time",none⟩) ((me _).mpr ⟨_,.inr (.inr ⟨u,i,j,d,e,s,m,lt,rfl⟩),ke ne,rfl⟩) p q c f
 ·rintro ⟨h1,h2⟩ r hr p q c f;obtain ⟨z,l,g,rfl⟩:=(me r).mp hr;obtain ⟨i,j,w,v,ne,_,_⟩:=kJ G U I.nk l g;obtain ⟨a,b,k,n⟩:=z;cases w;cases v;rcases l with l|l|⟨u,i',j',d,e,s,m,lt,e3⟩
  ·exact h1 i j k n ne (.inl l) p q c f
  ·exact h1 i j k n ne (.inr l) p q c f
  ·cases e3;exact h2 u i j d e s m lt p q c f
def mf (ds:List Dl) (rows:bA) (t:Bool) (o:List Nat):Prop:=rD ds rows o/\(t=true->tK ds o)
def iB (I:Inv (ds.map (·.ds)) rows) (U:UW ds) (G:Gd ds rows) (me :∀r,r∈rs↔jx ds rows t r) (pm:o.Perm (N0 ds.length)):mf ds rows t o↔gh ds/\PK aN bN rs o:=by rw [ij pm λ r a=>⟨(eM G U I.nk ((me r).mp a)).la,(eM G U I.nk ((me r).mp a)).ne⟩,Fi I U G me,mf,zM I U pm,and_assoc]
end
section
variable {P:ZK} {w:U1} {mg:ZR->Option ZH} {base:ZN}
theorem Eu (T:TX (kx w) mg):Fo P w mg base CX0 1 180 vz ["number","deed","own","written"] zf:=by
 refine (uD w.params).ok HP (λ D H Q E h=>?_) (λ S A X s H D Q E l h=>?_)
 ·obtain ⟨i,y,d,m,u,L,r,g,c,rfl,_⟩:=h;rfl
 ·obtain ⟨i,y,d,m,u,L,r,g,c,rfl,K,C,O,v,W,U,q⟩:=h;refine ⟨_,(aR (aQ (gz (iw (bu l) (ao ak (pv 1) ab (λ _ _=>rfl)) (pv 2)) (by with_unfolding_all rfl))
   (aV (au (jv iY (mn (bu l) (pv 2) (ao ak (pv 1) ab (λ _ _=>rfl)) (λ _ _=>rfl)) (ao ak (pv 1) ab (λ _ _=>rfl)) (aC _))))
   dI)
   (aV (au (cI (jv iY (ao ak (pv 1) ab (λ _ _=>rfl)) ab (aC _)) (dH (jv uf (sJ (bu l) (pv 3) (bh (ah (ao ak (pv 1) ab (λ _ _=>rfl)) (ah (ao ak (pv 1) ab (λ _ _=>rfl)) aa))) ⟨rfl,rfl,rfl,rfl⟩) (bh (ah eF (ah (pv 0) aa))) (by with_unfolding_all rfl))))))),?_⟩
  obtain ⟨p,rfl,a⟩:=K;have b:=O d.n;refine ⟨_,rfl,.inr (.inl ⟨p,_,1,.str d.n,rfl,rfl,aG.of a,bU (j:=1) rfl,?_⟩)⟩;refine ⟨_,rfl,m,_,rfl,dh.k (k:=.inr d.n) C,_,rfl,?_⟩;by_cases z:bH g d.n=[]
  ·rw [ZZ z] at b;refine bc (by rw [b];exact λ z=>nomatch z) ?_;refine ⟨_,rfl,.inr (.inl ⟨p,_,2,.int d.x,rfl,rfl,aG.of a,bU (j:=2) rfl,?_⟩)⟩;refine ⟨rfl,_,rfl,?_⟩;by_cases x0:d.x=0
   ·refine bc (by rw [x0];decide) (q _ _ (.refl _) ⟨(λ z=>nomatch z),λ h=>?_⟩);rcases h with h|h
    ·exact ZU z h.1
    ·exact ZU x0 h.2.1
   ·refine cb (by simp [x0]) ?_;refine ⟨_,rfl,u,rfl,.inr ⟨_,.inl v⟩,?_⟩;refine ⟨_,rfl,.inr (.inl ⟨p,_,1,.str d.n,rfl,rfl,aG.of a,bU (j:=1) rfl,?_⟩)⟩;refine ⟨_,rfl,.inr (.inl ⟨p,_,2,.int d.x,rfl,rfl,aG.of a,bU (j:=2) rfl,?_⟩)⟩;refine ⟨(show 2<=ZG by decide),λ t J=>?_⟩;have f:=Same.upd (o:=.tup [V.str d.n,.int d.x]) J;refine ⟨_,.inr ⟨r,eV d.n d.x,t,.inl (f _ _ v),rfl,aB,rfl⟩,?_⟩;rw [W.get U];generalize upd H t (.tup [V.str d.n,.int d.x])=B at f⊢;refine ⟨_,rfl,(show 2<=ZG by decide),λ G R=>?_⟩;have F:=Same.upd (o:=.tup [V.non,.int (i:Nat)]) R;have M:iV c i g d↔∀j,Wr c j d.n d.x->j=i:=⟨λ h=>h.elim (λ h=>ZU z h.1) λ h=>h.2.2,λ h=>.inr ⟨z,x0,h⟩⟩
    refine ⟨G,_,rfl,.inr (aG.of aB),?_,rfl,q _ _ (f.trans F) (Iff.trans ?_ M.symm)⟩
    ·cases ff c d.n d.x<;>rfl
    ·cases hv:ff c d.n d.x with
     | none=>exact ⟨(λ _ j I=>nomatch ((jm U).mpr I).symm.trans hv),λ _=>rfl⟩
     | some j=>
      constructor
      ·intro h k N;have:j=i:=by
        have h:(lR (.int (i:Nat)) (.int (j:Nat)) || false)=true:=h;rw [j44] at h;have h:((i:Int) == (j:Int))=true:=h;have:=eq_of_beq h
        lia
       rw [<-this];exact U _ _ _ _ N ((jm U).mp hv)
      ·intro h;have:=h j ((jm U).mp hv);subst this;show (((j:Int) == (j:Int)) || false)=true;rw [j44];exact beq_self_eq_true _
  ·rw [Z_ z] at b;refine cb (by rw [b];rfl) ?_;refine ⟨_,rfl,_,rfl,.inr (.inl ⟨p,_,1,.str d.n,rfl,rfl,aG.of a,bU (j:=1) rfl,?_⟩)⟩;refine ⟨m,_,rfl,b ▸ dh.k (k:=.inr d.n) C,?_⟩;refine ⟨_,rfl,.inr (.inl ⟨p,_,2,.int d.x,rfl,rfl,aG.of a,bU (j:=2) rfl,?_⟩)⟩;refine ⟨rfl,q _ _ (.refl _) ?_⟩;constructor
   ·intro h;exact .inl ⟨z,λ e=>by rw [e] at h;simp at h⟩
   ·rintro (h|h)
    ·simp [W5 h.2]
    ·exact ZU h.1 z
def Bn (ds:List Dl) (i:Nat) (d:Dl) (m:Nat):Prop:=∀(p:Nat) n x,p < m->d.ds[p]? = some ⟨false,n,x⟩->¬ iV ds i (d.ds.take p) ⟨false,n,x⟩
theorem Dv (T:TX (kx w) mg) (c0:Ca P w mg base "writers" ["dealings"] 1 qY) (c1:Ca P w mg base "is_lost" ["number","deed","own","written"] 1 zf):Fo P w mg base CX0 2 173 vM ["dealings"] vC:=by
 refine (xB w.params).ok bG (λ vs H Q E h=>?_) (λ a5 A a8 s H vs Q E hr h=>?_)
 ·obtain ⟨a,L,q,rfl,_⟩:=h;rfl
 ·obtain ⟨a,L,q,rfl,ea,al,a4,l4,U,q1,q2⟩:=h;refine ⟨_,(aR (ar (i:=1) bG.nd rfl (O1 rfl) (aj c0 (hr.mono (by decide)) rfl (ah (pv 0) aa)))
   (aR (aW Z1 rfl (pG rfl (T.no (o_ _)) (ah (pv 0) aa)) (bx rfl (cK (cZ (i:=2) bG.nd rfl (O1 rfl)) (cK (cZ (i:=3) bG.nd rfl (O1 rfl)) f_)))
   (aR (ar (i:=4) bG.nd rfl (O1 rfl) lH)
   (aV (aW Z1 rfl (D8 rfl (T.no (o_ _)) (ah (ao ak (pv 3) ab (λ _ _=>rfl)) aa)) (bx rfl (cK (cZ (i:=5) bG.nd rfl (O1 rfl)) (cK (cZ (i:=6) bG.nd rfl (O1 rfl)) f_)))
   (aV (aQ (dj du (ao ak (pv 6) ab (λ _ _=>rfl)) bf (aC _))
   (aV (mj (bu hr) (pv 4) (ao ak (pv 6) ab (λ _ _=>rfl)) (ao ak (pv 6) ab (λ _ _=>rfl)) rfl))
   (aV (aQ (bz (aj c1 (hr.mono (by decide)) rfl (ah (pv 2) (ah (pv 6) (ah (pv 4) (ah (pv 1) aa))))) (λ _=>rfl))
   (aV (au (bh (ah bf (ah (pv 2) (ah (pv 5) aa))))))
   dI))))))))
   (aV (au eF)))),?_⟩
  refine cy ?_;refine ⟨_,rfl,a,L,q,rfl,ea,al,a4,l4,λ I H1 kw s1 a7 ew W=>ai ?_⟩;have lu:L.length=q.length:=cz al;refine ⟨_,rfl,a,L,rfl,av.of (s1 _ _ ea),?_⟩;refine qa (K:=KX w.params) (a:=a) (xs:=L) (λ i σ f=>(Same H f/\f I=some (.dT kw)/\∀k d,k < i->q[k]? = some d->Bn q k d d.ds.length)/\(E5 λ x2 x3 x4 r u=>σ=[some (.ref a),some (.ref I),x2,x3,x4,r,u])) ⟨⟨s1,ew,λ k d h=>ZU h (Z2 _)⟩,_,_,_,_,_,rfl⟩ (λ i σ f z=>av.of (z.1.1 _ _ ea)) ?_ ?_
  ·rintro i x σ f p hx ⟨⟨s2,ew2,no⟩,x2,x3,x4,r,u,rfl⟩ F;obtain ⟨l,a0,dx⟩:=dQ al hx;have a3:=K0 a0;have sp:=Same.upd (o:=.tup [.int (i:Nat),x]) F;have G:=s2.trans sp;have a1:=sp _ _ ew2;obtain ⟨pd,qd,vd,rfl,ed,eq,ad⟩:=dx;refine ⟨p,_,rfl,aG.of aB,rfl,_,_,rfl,_,_,rfl,rfl,?_⟩;generalize upd f p (.tup [.int (i:Nat),.ref pd])=H2 at G a1⊢;refine cy ?_;intro o ho;refine ai ?_;have Y:=Same.upd (o:=.dK []) ho;have a2:H o=none:=G.free ho;have a6:=l4 l a3;refine ⟨_,rfl,.inr (.inl ⟨pd,_,2,.ref qd,rfl,rfl,aG.of (Y _ _ (G _ _ ed)),bU (j:=2) rfl,qd,vd,rfl,aG.of (Y _ _ (G _ _ eq)),?_⟩)⟩;refine Kx (K:=KX w.params) (a:=qd) (xs:=vd) (λ j σ f=>(∃ko,Same H f/\f I=some (.dT kw)/\f o=some (.dK ko)/\ko.length<=j/\iE ko (l.ds.take j)/\Bn q i l j)/\(E2 λ r u=>σ=[some (.ref a),some (.ref I),some (.int (i:Nat)),some (.ref pd),some (.ref o),r,u])) ⟨⟨[],G.trans Y,Y _ _ a1,aB,L0 _,iE.nil,λ p n x h=>ZU h (Z2 _)⟩,_,_,rfl⟩ (λ j σ f z=>aG.of (z.1.elim λ _ D=>D.1 _ _ eq)) ?_ ?_
   ·rintro j y σ H3 t hy ⟨⟨ko,s4,ew4,eo4,lk,O,nd⟩,r,u,rfl⟩ ht;obtain ⟨c,N,⟨B,rfl,S⟩⟩:=dQ ad hy;have tk:l.ds.take (j + 1)=l.ds.take j++[c]:=by rw [N4,N];rfl
    have j4:j < 4:=by have:=(List.getElem?_eq_some_iff.mp N).1;lia
    have Z:=Same.upd (o:=.tup [.int (j:Nat),.ref B]) ht;have g:=s4.trans Z;have M:=Z _ _ ew4;have R:=Z _ _ eo4;refine ⟨t,_,rfl,aG.of aB,rfl,_,_,rfl,_,_,rfl,rfl,?_⟩;generalize upd H3 t (.tup [.int (j:Nat),.ref B])=H4 at g M R⊢;refine ⟨_,rfl,.inr (.inl ⟨B,_,0,.str (vb c.w),rfl,rfl,aG.of (g _ _ S),bU (j:=0) rfl,?_⟩)⟩;refine ⟨rfl,_,rfl,?_⟩;rw [gk];by_cases zw:c.w=true
    ·refine cb zw ?_;refine ⟨_,rfl,.inr (.inl ⟨B,_,2,.int c.x,rfl,rfl,aG.of (g _ _ S),bU (j:=2) rfl,?_⟩)⟩;refine ⟨_,rfl,_,rfl,.inr (.inl ⟨B,_,1,.str c.n,rfl,rfl,aG.of (g _ _ S),bU (j:=1) rfl,?_⟩)⟩;refine ⟨o,_,rfl,fS.k (k:=.inr c.n) R (W1 (m:=4) (by lia) (by decide)),?_⟩;have up :∀b J,b≠o->H4 b=some J->upd H4 o (.dK (putK ko (.inr c.n) (.int c.x))) b=some J:=λ b J n e=>by rw [ae n];exact e
     refine ⟨⟨_,λ b J e=>up b J (bZ e a2) (g _ _ e),up _ _ (aK M R λ z=>nomatch z) M,aB,by have:=pC (kvs:=ko) (k:=(.inr c.n:Key)) (v:=.int c.x);lia,tk ▸ O.put zw,λ p n x F e=>?_⟩,_,_,rfl⟩;rcases Y3 p j with z|z
     ·exact nd p n x z e
     ·have:p=j:=by lia
      subst this;rw [N] at e;cases e;cases zw
    ·refine bc zw ?_;refine ⟨_,rfl,_,rfl,_,rfl,_,rfl,i,_,c,o,I,ko,kw,l.ds.take j,q,rfl,⟨B,rfl,g _ _ S⟩,R,O,M,W,U,λ b H5 X hb=>?_⟩;have ec:c=⟨false,c.n,c.x⟩:=by
      obtain ⟨cw,cn,cx⟩:=c;cases cw
      ·rfl
      ·exact ZU rfl zw
     refine ⟨_,rfl,?_⟩;by_cases zb:b=true
     ·refine cb zb ?_;refine ⟨_,rfl,_,rfl,(show 3<=ZG by decide),λ t3 h3=>?_⟩;have s7:=Same.upd (o:=.tup [V.str "lost",.int (i:Nat),.int (j:Nat)]) h3;exact q2 t3 i j _ ((g.trans X).trans s7) aB λ z=>z i l a0 j c.n c.x (ec ▸ N) (ec ▸ hb.mp zb)
     ·refine bc zb ?_;refine ⟨⟨ko,g.trans X,X _ _ M,X _ _ R,by lia,tk ▸ O.skip zw,λ p n x F e=>?_⟩,_,_,rfl⟩;rcases Y3 p j with z|z
      ·exact nd p n x z e
      ·have:p=j:=by lia
       subst this;rw [N] at e;cases e;exact λ z=>zb (hb.mpr z)
   ·rintro σ H3 ⟨⟨ko,s4,ew4,eo4,lk,O,nd⟩,r,u,rfl⟩;refine ⟨⟨s4,ew4,λ k d hk C=>?_⟩,_,_,_,_,_,rfl⟩;rcases Y3 k i with z|z
    ·exact no k d z C
    ·have e:k=i:=by lia
     subst e;rw [a0] at C;cases C;rw [cz ad] at nd;exact nd
  ·rintro σ f ⟨⟨s2,ew2,no⟩,x2,x3,x4,r,u,rfl⟩;exact q1 _ s2 λ i d C p n x F=>no i d (by rw [lu];exact (List.getElem?_eq_some_iff.mp C).1) C p n x (List.getElem?_eq_some_iff.mp F).1 F
end
section
def yE:V->List V->Hp->VK->Prop:=λ x vs H Q=>∃(l:ZS) (ss:List Int) (z:Int) (j:Nat),x=.ref l/\vs=[.int z]/\H l=some (.lst (ss.map V.int))/\ss.length<=1000/\ss[j]? = some z/\(∀m,m < j->ss[m]?≠some z)/\Q (.int (j:Nat)) H
variable {X:Cx}
theorem DO:lZ X "list.index" yE:=by
 intro L s σ H x M v K Q I D G h;obtain ⟨l,A,z,j,rfl,rfl,J,P,k,g,q⟩:=h;cases D;obtain ⟨u,rfl,w⟩:=G.one;obtain ⟨t,rfl⟩:=w;obtain ⟨N,b,n,r,O,e⟩:=I.lstM J;have lt:j < b.length:=by rw [<-r.length,q0];exact (List.getElem?_eq_some_iff.mp k).1
 let ev:ZH->Bool:=λ y=>match y with | .int a _=>a == z|_=>false
 have i :∀m (g:m < b.toArray.size),∃y c,A[m]? = some y/\b.toArray[m]=P8 y c:=λ m g=>zE r m _ ((C0 (show m < b.length by simpa using g)).trans (by simp));refine u9 F.slot_list_index ⟨_,e,rfl⟩ F.entry_list_index (F.args_list_index_2 _ _) (SeqAt.list_indexAt l b.toArray n none #[] (.int z t) ev j (by simpa using lt) ?_ ?_ ?_) ⟨e,λ y B=>?_,?_⟩
 ·have:=(List.getElem?_eq_some_iff.mp k).1;have:(j:Int) < 1000:=by lia
  exact Int.lt_trans this (by decide)
 ·obtain ⟨y,c,d,f⟩:=i j (by simpa using lt);rw [f];rw [k] at d;cases d;exact beq_self_eq_true z
 ·intro m o E;obtain ⟨y,c,d,f⟩:=i m o;rw [f];refine beq_eq_false_iff_ne.mpr λ e=>g m E ?_;rw [d,e]
 ·obtain ⟨m,o,p⟩:=Array.mem_iff_getElem.mp B;obtain ⟨C,c,d,f⟩:=i m o;rw [f] at p;subst p;exact j8c C c z t
 ·exact ⟨.int (j:Nat),H,I.tok _,⟨_,rfl⟩,q⟩
def GJ {o e:ZO} {es:List ZO} {to:TE} {t:TA} {apos cpos:ZP} (ho:PE X o to) (ha:PA X (e :: es) t)
  (hbase:F5 o "index" X.env (T4 o X.env)=T4 o X.env:=by rfl)
  (hfew:((r6 cpos (A2 (e :: es) X.env)).all (λ x=>!x.1) && (b9 cpos (P6 [] X.env)).all (λ x=>x.1.isSome) && decide ((e :: es).length + ([]:List d6).length + (if ([]:List d6).isEmpty then 0 else 1) < 30))=true:=by rfl)
  (hline:(apos.endLine == cpos.line)=true:=by rfl) (hs:A2 (e :: es) X.env=(false,T4 e X.env) :: A2 es X.env:=by rfl) (hplain:(r6 cpos (A2 es X.env)).any (·.1)=false:=by rfl) :
  PE X (.Call (.Attribute o "index" apos) (e :: es) [] cpos) (kW X.K "list" yE to t):=fA m6 PySem.F.slot_list_index PySem.F.type_list_index DO ho ha hbase hfew hline hs hplain
end
section
variable {P:ZK} {w:U1} {mg:ZR->Option ZH} {base:ZN}
def tf {X:Cx} {K:B0} (h:X.K=K):c_ X (O3 .In) (rL K false):=h ▸ uf
def eR (ns:List Nat):ns.map nI=(ns.map λ (n:Nat)=>(n:Int)).map V.int:=by rw [Y6];rfl
theorem qZ (x:Nat) (ns:List Nat):js (nI x) (ns.map nI)=decide (x∈ns):=by
 rw [eR];show js (.int (x:Int)) _=_;rw [sC];refine decide_eq_decide.mpr ⟨λ h=>?_,λ h=>List.mem_map.mpr ⟨x,h,rfl⟩⟩;obtain ⟨y,a,e⟩:=List.mem_map.mp h;have:y=x:=by lia
 exact this ▸ a
def p_ (ns:List Nat):(ns.map nI).all dM=true:=by rw [eR];exact tP _
def cW (K:B0) (H:Hp) (r:dF) (y:V):Prop:=bY K H (bR r) y
def cW.same {K:B0} {H H':Hp} {r:dF} {y:V} (h:cW K H r y) (s:Same H H'):cW K H' r y:=bY.same h s
def cW.tup {K:B0} {H:Hp} {r:dF} {y:V} {N:Nat} (h:cW K H r y) (ok:iA N r) :∃p n,y=.ref p/\aG K H p [nI (aN r),nI (bN r),.str r.k,n]:=by obtain ⟨p,_,rfl,c,_,_,rfl,f,_,_,rfl,d,_,_,rfl,g,_,n,rfl,_,rfl⟩:=h;have i:V.int r.a=nI (aN r):=ZT V.int ok.a;have e:V.int r.b=nI (bN r):=ZT V.int ok.b;cases f;cases d;cases g;rw [i,e] at c;exact ⟨p,_,rfl,c⟩
def cW.wrote {K:B0} {H:Hp} {r:dF} {y:V} {l:ZS} {zs:List V} {o:HO} (e:H l=some (.lst zs)) (h:cW K H r y):cW K (upd H l o) r y:=by obtain ⟨p,_,rfl,b,_,_,rfl,d,_,_,rfl,c,_,_,rfl,f,_,n,rfl,a,rfl⟩:=h;refine ⟨p,_,rfl,b.wrote e,_,_,rfl,d,_,_,rfl,c,_,_,rfl,f,_,_,rfl,?_,rfl⟩;cases hn:r.n<;>rw [hn] at a<;>exact a
theorem xH {α β:Type} {R:α->β->Prop} :∀{xs:List α} {ys:List β},af R xs ys->af (λ y x=>R x y) ys xs
 | _,_,.nil=>.nil
 | _,_,.cons a r=>.cons a (xH r)
structure CV (rs w:List dF):Prop where
 g:w.map bN=(w.map aN).drop 1++(w.map aN).take 1
 nd:(w.map aN).Nodup
 ne:w≠[]
 m :∀r∈w,r∈rs
def zm (K:B0):Sp:=λ vs H Q _=>E6 λ a l ls ys rs N=>tq (vs=[.ref a,.ref l]) (H a=some (.lst (ls.map nI))) (H l=some (.lst ys)) (af (cW K H) rs ys) (∀r∈rs,iA N r) (rs.length<=288) (ls≠[]) (ls.length<=12) (bF aN bN rs ls=[]) True (∀x H' ws w,Same H H'->H' x=some (.lst ws)->af (cW K H') w ws->CV rs w->Q (.ref x) H')
def B_ (K:B0) (H:Hp) (a l lw:ZS) (ls:List Nat) (rs:List dF) (m:Nat) (σ:L2.St) (H':Hp):Prop:=E4 λ (w:List dF) (ws:List V) (c:Nat) (xb:Option V)=>A6 (σ=[some (.ref a),some (.ref l),some (nI c),some (.ref lw),xb,none]) (Same H H') (H' lw=some (.lst ws)) (af (cW K H') w ws) (lG aN bN rs ls w c) (m + w.length=ls.length)
theorem JD (T:TX (kx w) mg):Fo P w mg base CX0 1 190 xT ["left","found"] (zm (kx w)):=by
 refine (wC w.params).ok bT (λ vs H Q E h=>?_) (λ c8 A d0 s H vs Q E f h=>?_)
 ·obtain ⟨a,l,d,ys,rs,N,rfl,_⟩:=h;rfl
 ·obtain ⟨a,l,d,ys,rs,N,rfl,ea,el,al,ok,d1,ne,c9,nr,_,q⟩:=h;refine ⟨_,(aR (ar (i:=2) bT.nd rfl (N1 rfl) (ao ak (pv 0) ab (λ _ _=>rfl)))
   (aR (ar (i:=3) bT.nd rfl (O1 rfl) (aO aa))
   (aR (uU Z1 (dj sS (pv 2) (cH (xs:=["one","other","kind","name"]) (g:=hX (kx w) 4 (cg (aI 0) (cg (aI 1) (cg (aI 2) (cg (aI 3) hV))))) (fr:=[]) (fZ (pv 3)) (λ _ _ _ _ _=>(bx rfl (cK (aU (N:=["one","other","kind","name"]) 0) (cK (aU (N:=["one","other","kind","name"]) 1) (cK (aU (N:=["one","other","kind","name"]) 2) (cK (aU (N:=["one","other","kind","name"]) 3) f_)))))) (λ _ _ _ _ _=>b_) (λ _ _ _ _ _=>(pv 1))) (by with_unfolding_all rfl))
   (aR (pI (i:=4) bT.nd rfl (O1 rfl) (xs:=["reason"]) (g:=aI 0) (fr:=[(2,"current"),(0,"left")]) rfl (fZ (pv 1)) (by intro p U;simp only [X1,P0,or_false] at U;rcases U with rfl|rfl<;>first|exact ⟨rfl,.inl rfl⟩|exact ⟨rfl,.inr rfl⟩) (tM (ns:=["current","left"]) (by decide +kernel) (by intro n hn k;simp only [X1,P0,or_false] at hn;rcases hn with rfl|rfl<;>first|exact .inl rfl|exact .inr rfl)) (by intro p U;simp only [X1,P0,or_false] at U;rcases U with rfl|rfl<;>exact ⟨by decide +kernel,by first|exact .inl rfl|exact .inr rfl⟩) (by decide +kernel) rfl (by decide +kernel) (λ _ _ _ _ _=>(aU (N:=["reason","current","left"]) 0)) (λ _ _ _ _ _=>(dy (PW.pt (eP (dj du (ao (iQ (K:=KX w.params) rfl) (pv 0) ab (λ _ _=>rfl)) (pv 1) (aC _)) (nA (dj (tf (K:=KX w.params) rfl) (ao (iQ (K:=KX w.params) rfl) (pv 0) ab (λ _ _=>rfl)) (pv 2) (by with_unfolding_all rfl))))))) (λ _ _ _ _ _=>(pv 0)))
   (aR (gv (Ib (pv 3) (ah ab (ah (ao ak (pv 4) ab (λ _ _=>rfl)) aa))))
   (aV (ar (i:=2) bT.nd rfl (N1 rfl) (ao ak (ao ak (pv 4) ab (λ _ _=>rfl)) ab (λ _ _=>rfl)))))))
   (aR (ar (i:=5) bT.nd rfl (O1 rfl) (GJ (cH (xs:=["one","other","kind","name"]) (g:=hX (kx w) 4 (cg (aI 0) (cg (aI 1) (cg (aI 2) (cg (aI 3) hV))))) (fr:=[]) (fZ (pv 3)) (λ _ _ _ _ _=>(bx rfl (cK (aU (N:=["one","other","kind","name"]) 0) (cK (aU (N:=["one","other","kind","name"]) 1) (cK (aU (N:=["one","other","kind","name"]) 2) (cK (aU (N:=["one","other","kind","name"]) 3) f_)))))) (λ _ _ _ _ _=>b_) (λ _ _ _ _ _=>(pv 1))) (ah (pv 2) aa)))
   (aV (au (jq eZ (pv 3) jA (iT (aA bM (pv 5) ab))))))))),?_⟩
  have c5:ys.length=rs.length:=cz al;obtain ⟨c0,b3⟩ :∃c0,d[0]? = some c0:=by
   cases d with
   | nil=>exact ZU rfl ne
   | cons c t=>exact ⟨c,rfl⟩
  refine cy ?_;refine ⟨_,rfl,.inl ⟨a,_,0,nI c0,rfl,rfl,av.of ea,bU (j:=0) (by rw [C1,b3];rfl),ai ?_⟩⟩;refine pR ?_;refine ⟨gj,λ u b5=>ai ?_⟩;have s0:=Same.upd (o:=.lst []) b5;refine ⟨B_ (kx w) H a l u d rs,⟨_,[],[],c0,_,rfl,s0,aB,.nil,lG.nil (K0 b3),rfl⟩,?_⟩;rintro m σ H1 ⟨w1,ws,c,xb,rfl,s1,ew,aw,W,lm⟩;have b2 :∀r∈w1,iA N r:=λ r f=>ok r (W.m r f).1;have b1:w1.length<=ZG:=M0 (m:=12) (by lia) (by decide);refine ⟨_,rfl,?_⟩;refine rm (K:=KX w.params) (l:=u) (rs:=w1) (xs:=ws) (RA:=cW (kx w)) ⟨0,0,"",none⟩ (λ _=>true) (λ r=>nI (bN r)) (λ R h=>⟨_,rfl,h⟩) (av.of ew) (λ _ _ _ _ s z=>z.same s) aw b1 ?_ ?_
  ·intro r f v H2 s2 hv KT KF Y k2;obtain ⟨p,n,rfl,X⟩:=hv.tup (b2 r f);exact ⟨p,_,rfl,X,rfl,_,_,rfl,_,_,rfl,_,_,rfl,_,_,rfl,rfl,[some (nI (aN r)),some (nI (bN r)),some (.str r.k),some n],rfl,rfl,dk ⟨_,rfl,Y rfl _ (Same.refl _)⟩⟩
  intro C H2 s2 a3;rw [List.filter_eq_self.mpr λ _ _=>rfl,show (w1.map λ r=>nI (bN r))=(w1.map bN).map nI by rw [Y6];rfl];have s3:=s2.trans (Same.upd (o:=.lst ((w1.map bN).map nI)) a3);have e3:upd H2 C (.lst ((w1.map bN).map nI)) C=some (.lst ((w1.map bN).map nI)):=aB;generalize upd H2 C (.lst ((w1.map bN).map nI))=H3 at s3 e3⊢;have a0:=s1.trans s3;have a1:=s3 _ _ ew;have a8:af (cW (kx w) H3) w1 ws:=bp (λ _ _ z=>z.same s3) aw;refine ⟨C,_,rfl,.inl (av.of e3),rfl,p_ _,_,rfl,?_⟩;rw [ZZ rfl,qZ];by_cases hc:c∈w1.map bN
  ·refine bc (by rw [ZY hc];decide) ?_;clear a3 e3 C;refine cB (cy ?_);refine rm (K:=KX w.params) (l:=u) (rs:=w1) (xs:=ws) (RA:=cW (kx w)) ⟨0,0,"",none⟩ (λ _=>true) (λ r=>nI (bN r)) (λ R h=>⟨_,rfl,h⟩) (av.of a1) (λ _ _ _ _ s z=>z.same s) a8 b1 ?_ ?_
   ·intro r f v H2 s2 hv KT KF Y k2;obtain ⟨p,n,rfl,X⟩:=hv.tup (b2 r f);exact ⟨p,_,rfl,X,rfl,_,_,rfl,_,_,rfl,_,_,rfl,_,_,rfl,rfl,[some (nI (aN r)),some (nI (bN r)),some (.str r.k),some n],rfl,rfl,dk ⟨_,rfl,Y rfl _ (Same.refl _)⟩⟩
   intro C F J a3;rw [List.filter_eq_self.mpr λ _ _=>rfl,show (w1.map λ r=>nI (bN r))=((w1.map bN).map λ (n:Nat)=>(n:Int)).map V.int by rw [Y6,Y6];rfl];have D:=J.trans (Same.upd (o:=.lst (((w1.map bN).map λ (n:Nat)=>(n:Int)).map V.int)) a3);have O:upd F C (.lst (((w1.map bN).map λ (n:Nat)=>(n:Int)).map V.int)) C=some (.lst (((w1.map bN).map λ (n:Nat)=>(n:Int)).map V.int)):=aB;generalize upd F C (.lst (((w1.map bN).map λ (n:Nat)=>(n:Int)).map V.int))=H5 at D O⊢;obtain ⟨j,Z,hm,_⟩:=wK (ns:=(w1.map bN).map λ (n:Nat)=>(n:Int)) (k:=(c:Int)) (List.mem_map.mpr ⟨c,hc,rfl⟩);refine ⟨.inl ⟨rfl,_,av.of O⟩,_,rfl,C,_,(c:Int),j,rfl,rfl,O,by rw [q0,q0];lia,Z,hm,ai ?_⟩;have Z:(w1.map bN)[j]? = some c:=by
    rw [C1] at Z;obtain ⟨c',I,L⟩:=Option.map_eq_some_iff.mp Z;rw [I];congr 1
    lia
   have lj:j < w1.length:=by have:=(List.getElem?_eq_some_iff.mp Z).1;rwa [q0] at this
   have c4:ws.length=w1.length:=cz aw;obtain ⟨g1,g2,g3,g4⟩:=W.ring Z;have S:=D _ _ a1;refine cc ?_;refine ⟨_,rfl,_,rfl,.inl ⟨_,_,rfl,rfl,_,rfl,.inl ⟨u,ws,rfl,av.of S,λ lr b7=>?_⟩⟩⟩;have ec:cj ws none (some ((j:Nat) + 1:Int))=ws.take (j + 1):=iy (k:=j + 1) (by lia);rw [ec];have s6:=Same.upd (o:=.lst (ws.take (j + 1))) b7;exact q lr _ _ (w1.take (j + 1)) (a0.trans (D.trans s6)) aB (mT (j + 1) (bp (λ _ _ z=>(z.same D).same s6) a8)) ⟨g1,g2,g3,g4⟩
  ·refine cb (by rw [ZX hc];rfl) ?_;refine ⟨λ σ' H'=>∃m',m' < m/\B_ (kx w) H a l u d rs m' σ' H',λ _ _ h=>h,?_⟩;refine cy ?_;refine nZ (K:=KX w.params) (a:=l) (xs:=ys) (H1:=H3) (λ i=>(rs[i]?.map λ r=>decide (bN r=c) && decide (aN r∈d)).getD false) (λ i y H'=>∃r,rs[i]? = some r/\cW (kx w) H' r y) (λ _ _ _ _ s z=>z.elim λ r y=>⟨r,y.1,y.2.same s⟩) (λ R h=>⟨_,rfl,h⟩) (av.of (a0 _ _ el)) (M0 (m:=288) (by lia) (by decide)) ?_ ?_
   ·intro i hi v F J hv KT KF Y k2;obtain ⟨r,f,U⟩:=dQ al hv;have b4:=U.same (a0.trans J);obtain ⟨p,n,rfl,X⟩:=b4.tup (ok r (K0 f));rw [f] at Y k2;refine ⟨[some (.ref p)],rfl,rfl,?_⟩;refine ⟨_,rfl,.inr (.inl ⟨p,_,1,nI (bN r),rfl,rfl,X,bU (j:=1) rfl,?_⟩)⟩;refine ⟨_,rfl,rfl,_,rfl,?_⟩;by_cases I:bN r=c
    ·refine cb (ZY (by rw [I])) ?_;refine ⟨_,rfl,.inr (.inl ⟨p,_,0,nI (aN r),rfl,rfl,X,bU (j:=0) rfl,?_⟩)⟩;refine ⟨_,rfl,a,_,rfl,.inl (av.of ((a0.trans J) _ _ ea)),rfl,p_ _,_,rfl,?_⟩;rw [Z_ (by decide),qZ];by_cases L:aN r∈d
     ·exact cb (ZY L) ⟨_,rfl,Y (by show (decide _ && decide _)=true;rw [ZY I,ZY L];rfl) _ _ (Same.refl _) ⟨r,rfl,b4⟩⟩
     ·exact bc (by rw [ZX L];decide) (k2 (by show (decide _ && decide _)=false;rw [ZX L,j37]) _ (Same.refl _))
    ·exact bc (by rw [ZX λ z=>I (by injection z with z;lia)];decide) (gf (k2 (by show (decide _ && decide _)=false;rw [ZX I];rfl) _ (Same.refl _)))
   intro M F bs J a9 a2;have a2:af (cW (kx w) F) (rs.filter λ r=>decide (bN r=c) && decide (aN r∈d)) bs:=oU _ _ (by rw [<-c5];exact a2);obtain ⟨r1,b8,c7,c2⟩ :∃r∈rs,aN r∈d/\bN r=c:=N2 λ z=>by have:c∈bF aN bN rs d:=dC.mpr ⟨W.i,λ r f I L=>z ⟨r,f,I,L⟩⟩;rw [nr] at this;cases this
   obtain ⟨B,t0,ht⟩ :∃B t0,(rs.filter λ r=>decide (bN r=c) && decide (aN r∈d))=B :: t0:=by
    cases e:(rs.filter λ r=>decide (bN r=c) && decide (aN r∈d)) with
    | cons B t0=>exact ⟨B,t0,rfl⟩
    | nil=>have:=(List.filter_eq_nil_iff.mp e) r1 b8;rw [ZY c2,ZY c7] at this;exact ZU rfl this
   have h0:=List.mem_filter.mp (show B∈(rs.filter λ r=>decide (bN r=c) && decide (aN r∈d)) by rw [ht];exact Y0);obtain ⟨a7,a4⟩:=Bool.and_eq_true_iff.mp h0.2;have a7:=ZW a7;have a4:=ZW a4;rw [ht] at a2;obtain ⟨b,G,rfl,b6⟩ :∃b G,bs=b :: G/\cW (kx w) F B b:=by
    cases a2 with
    | cons x _=>exact ⟨_,_,rfl,x⟩
   have D:=J.trans (Same.upd (o:=.lst (b :: G)) a9);have O:upd F M (.lst (b :: G)) M=some (.lst (b :: G)):=aB;have a5:=b6.same (Same.upd (o:=.lst (b :: G)) a9);generalize upd F M (.lst (b :: G))=H5 at D O a5⊢;refine ai ?_;have S:=D _ _ a1;refine ⟨_,rfl,.inl ⟨rfl,_,av.of S⟩,?_⟩;refine ⟨_,rfl,.inl ⟨M,_,0,b,rfl,rfl,av.of O,bU (j:=0) rfl,?_⟩⟩;have c4:ws.length=w1.length:=cz aw;refine ⟨u,ws,0,b,rfl,rfl,S,K2 _,by lia,?_⟩;have c6:u≠M:=bZ (J _ _ a1) a9;have s6:Same H (upd H5 u (.lst (b :: ws))):=K42.Same.keep (a0.trans D) b5;have e6:upd H5 u (.lst (b :: ws)) M=some (.lst (b :: G)):=by rw [ae c6.symm];exact O
   have a6:af (cW (kx w) (upd H5 u (.lst (b :: ws)))) (B :: w1) (b :: ws):=.cons (a5.wrote S) (bp (λ _ _ z=>(z.same D).wrote S) a8);have c3:upd H5 u (.lst (b :: ws)) u=some (.lst (b :: ws)):=aB;have c1:=a5.wrote (o:=.lst (b :: ws)) S;obtain ⟨p0,n0,rfl,b9⟩:=c1.tup (ok B h0.1);refine cB ⟨_,rfl,.inl ⟨M,_,0,.ref p0,rfl,rfl,av.of e6,bU (j:=0) rfl,.inr (.inl ⟨p0,_,0,nI (aN B),rfl,rfl,b9,bU (j:=0) rfl,ai ?_⟩)⟩⟩;have Wb:=W.back h0.1 a7 a4 hc;have lt:w1.length < d.length:=by
    have:=gq (l:=c :: w1.map bN) (m:=d) (List.nodup_cons.mpr ⟨hc,W.nd⟩) λ x hx=>by
     rcases List.mem_cons.mp hx with e|hx
     ·rw [e];exact W.i
     ·obtain ⟨r,f,rfl⟩:=List.mem_map.mp hx;exact (W.m r f).2.2
    rw [W0,q0] at this
    lia
   exact ⟨m - 1,by lia,B :: w1,.ref p0 :: ws,aN B,_,rfl,s6,c3,a6,Wb,by rw [W0];lia⟩
theorem yd (x:Nat) :∀ls:List Nat,(ls.map λ (n:Nat)=>(n:Int)).erase (x:Int)=(ls.erase x).map λ (n:Nat)=>(n:Int)
 | []=>rfl
 | a :: ls=>by
  rw [O0];by_cases h:a=x
  ·subst h;rw [j36,j36]
  ·rw [j35 (by simp;lia),j35 (by simp;lia),O0,yd x ls]
theorem uo {α β:Type} (f:α->β) :∀xs:List α,af (λ x y=>y=f x) xs (xs.map f)
 | []=>.nil
 | _ :: xs=>.cons rfl (uo f xs)
inductive Az (K:B0) (ds:List Dl) (rows:bA) (t:Bool) (H:Hp) (x:ZS):Prop
 | lost (n:¬ gh ds) (i p:Nat) (e:H x=some (.tup [.str "lost",.int (i:Nat),.int (p:Nat)]))
 | order (n:gh ds) (rs:List dF) (me :∀r,r∈rs↔jx ds rows t r) (o:List Nat) (l:ZS) (k:Kn aN bN rs ds.length o []) (e:H x=some (.tup [.str "order",.ref l])) (el:H l=some (.lst (o.map nI)))
 | ring (n:gh ds) (rs:List dF) (me :∀r,r∈rs↔jx ds rows t r) (o ls:List Nat) (k:Kn aN bN rs ds.length o ls) (ne:ls≠[]) (nr:bF aN bN rs ls=[]) (l:ZS) (ws:List V) (w:List dF) (e:H x=some (.tup [.str "ring",.ref l])) (el:H l=some (.lst ws)) (al:af (cW K H) w ws) (g:CV rs w)
def Bh (K:B0):Sp:=λ vs H Q _=>E7 λ a v us ds rows kvs t=>A8 (vs=[.ref a,.ref v,.bl t]) (H a=some (.lst us)) (af (bJ H) ds us) (eA H v rows kvs) (Gd ds rows) (UW ds) ((rows.map (·.1)).Nodup) (∀x H',Same H H'->Az K ds rows t H' x->Q (.ref x) H')
def BD (H:Hp) (a v lf lo ll:ZS) (t:Bool) (rs:List dF) (N m:Nat) (σ:L2.St) (H':Hp):Prop:=E4 λ (o ls:List Nat) x7 x8=>A6 (σ=[some (.ref a),some (.ref v),some (.bl t),some (.ref lf),some .non,some (.ref lo),some (.ref ll),x7,x8]) (Same H H') (H' lo=some (.lst (o.map nI))) (H' ll=some (.lst (ls.map nI))) (Kn aN bN rs N o ls) (m=ls.length)
theorem GA (T:TX (kx w) mg) (c0:Ca P w mg base "reasons" ["dealings","versions","timed"] 7 (uC (kx w))) (c1:Ca P w mg base "first_lost" ["dealings"] 2 vC) (c2:Ca P w mg base "ring_among" ["left","found"] 1 (zm (kx w))):Fo P w mg base CX0 8 185 vZ ["dealings","versions","timed"] (Bh (kx w)):=by
 refine (xc w.params).ok aP (λ vs H Q E h=>?_) (λ d0 A d2 s H vs Q E D h=>?_)
 ·obtain ⟨a,v,J,b,a8,b4,t,rfl,_⟩:=h;rfl
 ·obtain ⟨a,v,J,b,a8,b4,t,rfl,ea,al,V0,G,U,nk,q⟩:=h;refine ⟨_,(aR (ar (i:=3) aP.nd rfl (O1 rfl) (aj c0 (D.mono (by decide)) rfl (ah (pv 0) (ah (pv 1) (ah (pv 2) aa)))))
   (aR (ar (i:=4) aP.nd rfl (O1 rfl) (aj c1 (D.mono (by decide)) rfl (ah (pv 0) aa)))
   (aR (aQ (dj Aw (pv 4) eF (aC _))
   (aV (au (pv 4)))
   dI)
   (aR (ar (i:=5) aP.nd rfl (O1 rfl) (aO aa))
   (aR (ar (i:=6) aP.nd rfl (N1 rfl) (Cp rfl rfl (T.no (dU _)) rfl (T.no (i_ _)) j1d (cX gG rfl (T.no (bW _)) C5 (ah (pv 0) aa))))
   (aR (uU Z1 (dj mH (cX gG rfl (T.no (bW _)) C5 (ah (pv 6) aa)) ab (aC _))
   (aR (ar (i:=7) aP.nd rfl (N1 rfl) (cH (xs:=["one","other","kind","name"]) (g:=hX (kx w) 4 (cg (aI 0) (cg (aI 1) (cg (aI 2) (cg (aI 3) hV))))) (fr:=[(6,"left")]) (fZ (pv 3)) (λ _ _ _ _ _=>(bx rfl (cK (aU (N:=["one","other","kind","name","left"]) 0) (cK (aU (N:=["one","other","kind","name","left"]) 1) (cK (aU (N:=["one","other","kind","name","left"]) 2) (cK (aU (N:=["one","other","kind","name","left"]) 3) f_)))))) (λ _ _ _ _ _=>(dy (dj (tf (K:=KX w.params) rfl) (pv 0) (pv 4) (by with_unfolding_all rfl)))) (λ _ _ _ _ _=>(pv 1))))
   (aR (pI (i:=8) aP.nd rfl (O1 rfl) (xs:=["number"]) (g:=aI 0) (fr:=[(7,"held_up")]) rfl (fZ (pv 6)) (by intro p hp;obtain rfl:=List.mem_singleton.mp hp;first|exact ⟨rfl,.inl rfl⟩|exact ⟨rfl,.inr rfl⟩) (uB (n:="held_up") (by decide +kernel) (λ _=>by first|exact .inl rfl|exact .inr rfl)) (by intro p hp;obtain rfl:=List.mem_singleton.mp hp;exact ⟨by decide +kernel,by first|exact .inl rfl|exact .inr rfl⟩) (by decide +kernel) rfl (by decide +kernel) (λ _ _ _ _ _=>(aU (N:=["number","held_up"]) 0)) (λ _ _ _ _ _=>(dy (dj (wA (K:=KX w.params) rfl) (pv 0) (pv 1) (by with_unfolding_all rfl)))) (λ _ _ _ _ _=>(pv 0)))
   (aR (aQ (dj du (cX gG rfl (T.no (bW _)) C5 (ah (pv 8) aa)) ab (aC _))
   (aV (au (bh (ah bf (ah (aj c2 (D.mono (by decide)) rfl (ah (pv 6) (ah (pv 3) aa))) aa)))))
   dI)
   (aR (gv (jC (pv 5) (ah (ao ak (pv 8) ab (λ _ _=>rfl)) aa)))
   (aV (gv (DP (pv 6) (ah (ao ak (pv 8) ab (λ _ _=>rfl)) aa)))))))))
   (aV (au (bh (ah bf (ah (pv 5) aa))))))))))),?_⟩
  have c6:=G.l12;have lu:J.length=b.length:=cz al;refine cy ?_;refine ⟨_,rfl,_,rfl,_,rfl,a,v,J,b,a8,b4,t,rfl,ea,al,V0,G,U,λ Y H1 L rs W c9 c8 a0 pw b6 me=>ai ?_⟩;have ok :∀r∈rs,iA b.length r:=λ r D=>eM G U nk ((me r).mp D);have a0:af (cW (kx w) H1) rs L:=xH a0;refine cy ?_;refine ⟨_,rfl,a,J,b,rfl,W _ _ ea,bp (λ _ _ z=>z.same W) al,c6,λ d hd=>(G.ok d hd).ln,U,λ C M nl=>ai ?_,λ tl i p C M et nl=>ai ?_⟩;rotate_left
  ·exact cC ⟨_,rfl,rfl,_,rfl,cb rfl ⟨_,rfl,q tl _ (W.trans M) (.lost nl i p et)⟩⟩
  refine cC ⟨_,rfl,rfl,_,rfl,bc (by decide) ?_⟩;have a1:=W.trans M;refine cB (pR ⟨gj,λ c a7=>ai ?_⟩);have s3:=Same.upd (o:=.lst []) a7;refine cy ?_;refine ⟨_,rfl,.inl ⟨a,J,rfl,.inl (av.of (s3 _ _ (a1 _ _ ea))),J.length,rfl,by lia,λ f a5=>ai ?_⟩⟩;rw [lu,show hA b.length=(N0 b.length).map nI from (eR _).symm];have s4:=Same.upd (o:=.lst ((N0 b.length).map nI)) a5;have b9:C f=none:=s3.free a5;have a6:c≠f:=bZ (aB (H:=C)) a5;have b7:=M _ _ c8;have c5:af (cW (kx w) C) rs L:=bp (λ _ _ z=>z.same M) a0;have d3:L.length=rs.length:=cz a0;refine ⟨BD C a v Y c f t rs b.length,⟨_,[],N0 b.length,_,_,rfl,s3.trans s4,s4 _ _ aB,aB,.nil,rfl⟩,?_⟩;rintro m σ H5 ⟨o,ls,x7,x8,rfl,s5,eo,els,k,rfl⟩;have d1:o.length + ls.length=b.length:=by have:=k.perm.length_eq;rwa [F0,Q1] at this
  refine ⟨_,rfl,.inl ⟨f,_,rfl,.inl (av.of els),_,_,rfl,rfl,_,rfl,?_⟩⟩;rw [q0];by_cases ne:ls=[]
  ·refine bc (by rw [ne];decide) (cB (cc ?_));refine ⟨_,rfl,gp,λ x B=>?_⟩;have I:=Same.upd (o:=.tup [.str "order",.ref c]) B;subst ne;exact q x _ (a1.trans (s5.trans I)) (.order nl rs me o c k aB (I _ _ eo))
  have pl:0 < ls.length:=List.length_pos_iff.mpr ne;refine cb (ZY (by lia)) ?_;refine ⟨λ σ' H'=>∃m',m' < ls.length/\BD C a v Y c f t rs b.length m' σ' H',λ _ _ h=>h,?_⟩;refine cy ?_;have b8:af (cW (kx w) H5) rs L:=bp (λ _ _ z=>z.same s5) c5;refine rm (K:=KX w.params) (l:=Y) (rs:=rs) (xs:=L) (RA:=cW (kx w)) ⟨0,0,"",none⟩ (λ r=>decide (aN r∈ls)) (λ r=>nI (bN r)) (λ R h=>⟨_,rfl,h⟩) (av.of (s5 _ _ b7)) (λ _ _ _ _ s z=>z.same s) b8 (M0 (m:=288) b6 (by decide)) ?_ ?_
  ·intro r D v' H6 I hv KT KF k1 k2;obtain ⟨p,n,rfl,sq⟩:=hv.tup (ok r D);refine ⟨p,_,rfl,sq,rfl,_,_,rfl,_,_,rfl,_,_,rfl,_,_,rfl,rfl,[some (nI (aN r)),some (nI (bN r)),some (.str r.k),some n],rfl,rfl,?_⟩;refine ⟨_,rfl,_,rfl,f,_,rfl,.inl (av.of (I _ _ els)),rfl,p_ _,_,rfl,?_⟩;rw [Z_ (by decide),qZ];exact dw (λ z=>⟨_,rfl,k1 z _ (Same.refl _)⟩) λ z=>k2 (Bool.eq_false_iff.mpr z) _ (Same.refl _)
  intro X H6 I c4;rw [show ((rs.filter λ r=>decide (aN r∈ls)).map λ r=>nI (bN r))=(dB aN bN rs ls).map nI by unfold dB;rw [Y6];rfl];have O:=I.trans (Same.upd (o:=.lst ((dB aN bN rs ls).map nI)) c4);have eh:upd H6 X (.lst ((dB aN bN rs ls).map nI)) X=some (.lst ((dB aN bN rs ls).map nI)):=aB;generalize upd H6 X (.lst ((dB aN bN rs ls).map nI))=H7 at O eh⊢;refine ai ?_;refine cy ?_;refine rm (K:=KX w.params) (l:=f) (rs:=ls) (xs:=ls.map nI) (RA:=λ _ n y=>y=nI n) 0 (λ x=>decide (x∉dB aN bN rs ls)) nI (λ R h=>⟨_,rfl,h⟩) (av.of (O _ _ els)) (λ _ _ _ _ _ z=>z) (uo nI ls) (M0 (m:=12) (by lia) (by decide)) ?_ ?_
  ·rintro x B _ H8 V rfl KT KF k1 k2;refine ⟨[some (nI x)],rfl,rfl,?_⟩;refine ⟨_,rfl,_,rfl,X,_,rfl,.inl (av.of (V _ _ eh)),rfl,p_ _,_,rfl,?_⟩;rw [ZZ rfl,qZ];have e:(!decide (x∈dB aN bN rs ls))=decide (x∉dB aN bN rs ls):=by simp
   rw [e];exact dw (λ z=>⟨_,rfl,k1 z _ (Same.refl _)⟩) λ z=>k2 (Bool.eq_false_iff.mpr z) _ (Same.refl _)
  intro u H8 V a4;rw [show ((ls.filter λ x=>decide (x∉dB aN bN rs ls)).map nI)=(bF aN bN rs ls).map nI from rfl];have F:=O.trans (V.trans (Same.upd (o:=.lst ((bF aN bN rs ls).map nI)) a4));have S:upd H8 u (.lst ((bF aN bN rs ls).map nI)) u=some (.lst ((bF aN bN rs ls).map nI)):=aB;have d4:f≠u:=bZ (V _ _ (O _ _ els)) a4;have c3:c≠u:=bZ (V _ _ (O _ _ eo)) a4;generalize upd H8 u (.lst ((bF aN bN rs ls).map nI))=H9 at F S⊢;refine ai ?_;refine cC ?_;refine ⟨_,rfl,.inl ⟨u,_,rfl,.inl (av.of S),rfl,_,rfl,?_⟩⟩;rw [q0];have b0:=F _ _ els;have a9:=F _ _ eo;by_cases nr:bF aN bN rs ls=[]
  ·refine cb (by rw [nr];rfl) ?_;have b1:=s5.trans F;refine ⟨_,rfl,_,rfl,f,Y,ls,L,rs,b.length,rfl,b0,b1 _ _ b7,bp (λ _ _ z=>z.same F) b8,ok,b6,ne,by lia,nr,trivial,λ lw c7 ws w1 Z ew aw g=>?_⟩;refine ⟨gp,λ x B=>?_⟩;have a3:=Same.upd (o:=.tup [.str "ring",.ref lw]) B;exact q x _ (a1.trans (b1.trans (Z.trans a3))) (.ring nl rs me o ls k ne nr lw ws w1 aB (a3 _ _ ew) (bp (λ _ _ z=>z.same a3) aw) g)
  obtain ⟨x,xs,B⟩ :∃x xs,bF aN bN rs ls=x :: xs:=by
   cases e:bF aN bN rs ls with
   | nil=>exact ZU e nr
   | cons x xs=>exact ⟨x,xs,rfl⟩
  rw [B] at S⊢;refine bc (λ z=>?_) ?_
  ·have z:=ZW z;injection z with z;rw [W0] at z
   lia
  have b5:=(dC.mp (show x∈bF aN bN rs ls by rw [B];exact Y0)).1;refine cB ?_;refine ⟨_,rfl,.inl ⟨rfl,_,av.of a9⟩,?_⟩;refine ⟨_,rfl,.inl ⟨u,_,0,nI x,rfl,rfl,av.of S,bU (j:=0) rfl,?_⟩⟩;refine ⟨c,o.map nI,_,rfl,rfl,a9,W1 (m:=12) (by rw [q0];lia) (by decide),?_⟩;rw [show o.map nI++[nI x]=(o++[x]).map nI by rw [Q3];rfl];have a2:upd H9 c (.lst ((o++[x]).map nI)) f=some (.lst (ls.map nI)):=by rw [ae a6.symm];exact b0
  have b3:upd H9 c (.lst ((o++[x]).map nI)) u=some (.lst ((x :: xs).map nI)):=by rw [ae c3.symm];exact S
  have b2:upd H9 c (.lst ((o++[x]).map nI)) c=some (.lst ((o++[x]).map nI)):=aB;have Z:Same C (upd H9 c (.lst ((o++[x]).map nI))):=K42.Same.keep (s5.trans F) a7;generalize upd H9 c (.lst ((o++[x]).map nI))=c7 at a2 b3 b2 Z⊢;refine cB ?_;refine ⟨_,rfl,.inl ⟨rfl,_,av.of a2⟩,?_⟩;refine ⟨_,rfl,.inl ⟨u,_,0,nI x,rfl,rfl,av.of b3,bU (j:=0) rfl,?_⟩⟩;refine ⟨f,ls.map λ (n:Nat)=>(n:Int),(x:Int),rfl,rfl,by rw [<-eR];exact a2,List.mem_map.mpr ⟨x,b5,rfl⟩,?_⟩;rw [yd,<-eR];have pe:=j8e b5;exact ⟨_,by lia,o++[x],ls.erase x,_,_,rfl,K42.Same.keep Z b9,by rw [ae a6];exact b2,aB,.step k (by rw [B];rfl),rfl⟩
theorem BJ:∀{b a:List Nat} {ub ua:List V},(a++b).Nodup->a.length=ua.length->dW (eE a ua) (eE b ub)=eE (a++b.take ub.length) (ua++ub.take b.length)
 | [],a,ub,ua,_,_=>by rw [List.take_nil,E1];show eE a ua=eE a (ua++[]);rw [E1]
 | t :: b,a,[],ua,_,_=>by show eE a ua=eE (a++[]) (ua++[]);rw [E1,E1]
 | t :: b,a,u :: ub,ua,nd,hl=>by
  have c:¬ t∈a:=λ h=>by rw [j50] at nd;exact nd.2.2 t h t Y0 rfl
  show dW (putK (eE a ua) (.inl (t:Int)) u) (eE b ub)=_;rw [jP hl c,BJ (by rw [T2];exact nd) (by rw [F0,F0,hl];rfl),T2,T2];rfl
def Fs {b:List Nat} {ub:List V} (nd:b.Nodup) (hl:b.length=ub.length):dW [] (eE b ub)=eE b ub:=by have:=BJ (a:=[]) (ua:=[]) (b:=b) (ub:=ub) nd rfl;rw [<-hl,W2,hl,W2] at this;exact this
theorem zL {α β:Type} {R:α->β->Prop} :∀{xs:List α} {ys:List β},ys.length=xs.length->(∀(k:Nat) a b,xs[k]? = some a->ys[k]? = some b->R a b)->af R xs ys
 | [],[],_,_=>.nil
 | x :: xs,y :: ys,l,h=>.cons (h 0 x y rfl rfl) (zL (Nat.succ.inj l) λ k a b d c=>h (k + 1) a b d c)
 | [],_ :: _,l,_=>nomatch l
 | _ :: _,[],l,_=>nomatch l
theorem ph {xs ys:List V} (h:af (λ (i:Nat) y=>xs[i]? = some y) ((N0 xs.length).filter λ _=>true) ys):ys=xs:=by
 rw [List.filter_eq_self.mpr λ _ _=>rfl] at h;have l:=cz h;rw [Q1] at l;refine i9 λ i=>?_;by_cases z:i < xs.length
 ·obtain ⟨y,a,e⟩:=k8 h (P5 z);rw [a,e]
 ·rw [R3 (by lia),R3 (by lia)]
def er (H:Hp) (p:Nat×Nat) (y:V):Prop:=∃a,y=.ref a/\H a=some (.tup [nI p.1,nI p.2])
def er.same {H H':Hp} {p:Nat×Nat} {y:V} (s:Same H H') (h:er H p y):er H' p y:=h.elim λ a z=>⟨a,z.1,s _ _ z.2⟩
def qx (ps:List (Nat×Nat)) (ns:List Nat):Prop:=∀p∈ps,∀i j:Nat,ns[i]? = some p.1->ns[j]? = some p.2->i < j
def gE {ns:List Nat} {n:Nat} (h:n∈ns):ns[ns.idxOf n]? = some n:=by have:=j76 h;rw [C0 this,List.getElem_idxOf this]
def z5:Sp:=λ vs H Q _=>E5 λ lp ln zs ps ns=>A9 (vs=[.ref lp,.ref ln]) (H lp=some (.lst zs)) (af (er H) ps zs) (ps.length<=288) (H ln=some (.lst (ns.map nI))) (ns.Nodup) (ns.length<=12) (∀p∈ps,p.1∈ns/\p.2∈ns) (∀b H',Same H H'->(b=true↔qx ps ns)->Q (.bl b) H')
theorem Hq (T:TX (kx w) mg):Fo P w mg base CX0 1 77 xy ["pairs","numbers"] z5:=by
 refine (vp w.params).ok dZ (λ vs H Q E h=>?_) (λ b1 A b3 s H vs Q E Z h=>?_)
 ·obtain ⟨lp,ln,W,ps,c,rfl,_⟩:=h;rfl
 ·obtain ⟨lp,ln,W,ps,c,rfl,ep,ap,p4,en,nd,b2,mm,q⟩:=h;refine ⟨_,(aR (ar (i:=2) dZ.nd rfl (N1 rfl) (ri (HC rfl) rfl (T.no (jZ _)) boot_dict (ah (cH (xs:=["place","number"]) (g:=hX (kx w) 2 (cg (aI 0) (cg (aI 1) hV))) (fr:=[]) (pG rfl (T.no (o_ _)) (ah (pv 1) aa)) (λ _ _ _ _ _=>(bx rfl (cK (aU (N:=["place","number"]) 0) (cK (aU (N:=["place","number"]) 1) f_)))) (λ _ _ _ _ _=>b_) (λ _ _ _ _ _=>(bh (ah (pv 1) (ah (pv 0) aa))))) aa)))
   (aR (pI (i:=3) dZ.nd rfl (O1 rfl) (xs:=["pair"]) (g:=aI 0) (fr:=[(2,"stands")]) rfl (fZ (pv 0)) (by intro p d;obtain rfl:=List.mem_singleton.mp d;first|exact ⟨rfl,.inl rfl⟩|exact ⟨rfl,.inr rfl⟩) (uB (n:="stands") (by decide +kernel) (λ _=>by first|exact .inl rfl|exact .inr rfl)) (by intro p d;obtain rfl:=List.mem_singleton.mp d;exact ⟨by decide +kernel,by first|exact .inl rfl|exact .inr rfl⟩) (by decide +kernel) rfl (by decide +kernel) (λ _ _ _ _ _=>(aU (N:=["pair","stands"]) 0)) (λ _ _ _ _ _=>(dy (PW.pt (eP (gz (iw (bu Z) (ao (iQ (K:=KX w.params) rfl) (pv 0) ab (λ _ _=>rfl)) (pv 1)) (by with_unfolding_all rfl)) (nA (gz (iw (bu Z) (ao (iQ (K:=KX w.params) rfl) (pv 0) ab (λ _ _=>rfl)) (pv 1)) (by with_unfolding_all rfl))))))) (λ _ _ _ _ _=>(pv 0)))
   (aV (au (cX (mx rfl) rfl (T.no (fz _)) j31 (ah (cH (xs:=["ahead","behind"]) (g:=hX (kx w) 2 (cg (aI 0) (cg (aI 1) hV))) (fr:=[(2,"stands")]) (fZ (pv 3)) (λ _ _ _ _ _=>(bx rfl (cK (aU (N:=["ahead","behind","stands"]) 0) (cK (aU (N:=["ahead","behind","stands"]) 1) f_)))) (λ _ _ _ _ _=>b_) (λ _ _ _ _ _=>(jv iO (mn (bu Z) (pv 2) (pv 0) (λ _ _=>rfl)) (mn (bu Z) (pv 2) (pv 1) (λ _ _=>rfl)) (aC _)))) aa)))))),?_⟩
  have lz:W.length=ps.length:=cz ap;have lv:(c.map nI).length=c.length:=q0 ..;refine D_ ?_;refine DJ (K:=KX w.params) (a:=ln) (xs:=c.map nI) (H1:=H) (λ _=>true) (λ i y H'=>∃n b,c[i]? = some n/\y=.ref b/\H' b=some (.tup [nI n,nI i])) (λ _ _ _ _ s ⟨n,b,e1,F,t⟩=>⟨n,b,e1,F,s _ _ t⟩) (λ R h=>⟨_,rfl,h⟩) (av.of en) (M0 (m:=12) (by lia) (by decide)) ?_ ?_
  ·intro i B v H1 s1 hx KT KF I k2;obtain ⟨x,p0,C,rfl,e0⟩:=hx;obtain ⟨n,hn,rfl⟩:=Option.map_eq_some_iff.mp ((C1 ..).symm.trans C);refine ⟨p0,_,rfl,aG.of e0,rfl,_,_,rfl,_,_,rfl,rfl,[some (nI i),some (nI n)],rfl,rfl,dk ?_⟩;exact ⟨_,rfl,_,rfl,gp,λ p1 a6=>I rfl _ _ (Same.upd a6) ⟨n,p1,hn,rfl,aB⟩⟩
  intro L H1 r s1 a9 a0;rw [List.filter_eq_self.mpr (λ _ _=>rfl),lv] at a0;have G:=Same.upd (o:=.lst r) a9;have F:upd H1 L (.lst r) L=some (.lst r):=aB;have lr:c.length=((N0 c.length).map nI).length:=by rw [q0,Q1]
  have a4:af (λ (p:Key×V) y=>∃b,y=.ref b/\aG (kx w) (upd H1 L (.lst r)) b [kV p.1,p.2]) (eE c ((N0 c.length).map nI)) r:=by
   have ly:=cz a0;rw [Q1] at ly;refine zL (by unfold eE;rw [q0,X9,<-lr];lia) λ i p y d D=>?_;obtain ⟨j,X,n,b,e1,F,t⟩:=dQ a0 D;have B:i < c.length:=by rw [<-ly];exact (List.getElem?_eq_some_iff.mp D).1
   rw [P5 B] at X;cases X;unfold eE at d;have hz:(c.zip ((N0 c.length).map nI))[i]? = some (n,nI i):=List.getElem?_zip_eq_some.mpr ⟨e1,by rw [C1,P5 B];rfl⟩;rw [C1,hz] at d;cases d;exact ⟨b,F,aG.of (G _ _ t)⟩
  generalize upd H1 L (.lst r)=H2 at G F a4⊢;have G:=s1.trans G;refine ⟨L,r,_,rfl,F,a4,λ pd a8=>?_⟩;rw [Fs nd lr];have O:=G.trans (Same.upd (o:=.dK (eE c ((N0 c.length).map nI))) a8);have t:upd H2 pd (.dK (eE c ((N0 c.length).map nI))) pd=some (.dK (eE c ((N0 c.length).map nI))):=aB;generalize upd H2 pd (.dK (eE c ((N0 c.length).map nI)))=H3 at O t⊢;refine ai ?_;have Y :∀{f:Hp} {n:Nat},Same H3 f->n∈c->dh f pd (nI n) (some (nI (c.idxOf n))):=λ {f n} e h=>by have:=dh.k (k:=.inl (n:Int)) (e _ _ t);rw [iF nd (gE h) (u:=nI (c.idxOf n)) (by rw [C1,P5 (j76 h)];rfl)] at this;exact this
  refine cy ?_;refine nZ (K:=KX w.params) (a:=lp) (xs:=W) (H1:=H3) (λ _=>true) (λ i y _=>W[i]? = some y) (λ _ _ _ _ _ z=>z) (λ R h=>⟨_,rfl,h⟩) (av.of (O _ _ ep)) (M0 (m:=288) (by lia) (by decide)) ?_ ?_
  ·intro i B v f e C KT KF I k2;obtain ⟨p,d,b,rfl,M⟩:=dQ ap C;have a3:=(O.trans e) _ _ M;have J:=mm p (K0 d);refine ⟨[some (.ref b)],rfl,rfl,?_⟩;refine ⟨_,rfl,.inr (.inl ⟨b,_,0,nI p.1,rfl,rfl,aG.of a3,bU (j:=0) rfl,_,rfl,pd,_,rfl,Y e J.1,_,rfl,cb rfl ?_⟩)⟩;refine ⟨_,rfl,.inr (.inl ⟨b,_,1,nI p.2,rfl,rfl,aG.of a3,bU (j:=1) rfl,_,rfl,pd,_,rfl,Y e J.2,_,rfl,cb rfl ?_⟩)⟩;exact ⟨_,rfl,I rfl _ _ (Same.refl _) C⟩
  intro U f bs e a7 a5;have M:=ph a5;subst M;have j5:=Same.upd (o:=.lst bs) a7;have s5:=e.trans j5;have a2:upd f U (.lst bs) U=some (.lst bs):=aB;generalize upd f U (.lst bs)=H5 at j5 s5 a2⊢;have a1:=O.trans s5;refine ai ?_;refine cc (eB ?_);refine rm (K:=KX w.params) (l:=U) (rs:=ps) (xs:=bs) (RA:=er) (0,0) (λ _=>true) (λ p=>V.bl (decide (c.idxOf p.1 < c.idxOf p.2))) (λ R h=>⟨_,rfl,h⟩) (av.of a2) (λ _ _ _ _ s z=>z.same s) (bp (λ _ _ z=>z.same a1) ap) (M0 (m:=288) p4 (by decide)) ?_ ?_
  ·intro p d v H6 S C KT KF I k2;obtain ⟨b,rfl,M⟩:=C;have J:=mm p d;refine ⟨b,_,rfl,aG.of M,rfl,_,_,rfl,_,_,rfl,rfl,[some (nI p.1),some (nI p.2)],rfl,rfl,dk ?_⟩;refine ⟨_,rfl,_,rfl,pd,_,rfl,Y (s5.trans S) J.1,_,rfl,_,rfl,pd,_,rfl,Y (s5.trans S) J.2,_,_,rfl,rfl,?_⟩;have:=I rfl _ (Same.refl _);rw [show decide (c.idxOf p.1 < c.idxOf p.2)=decide (((c.idxOf p.1:Nat):Int) < ((c.idxOf p.2:Nat):Int)) from decide_eq_decide.mpr (by lia)] at this;exact this
  intro l6 H6 S b0;rw [List.filter_eq_self.mpr λ _ _=>rfl];refine ⟨l6,_,rfl,av.of aB,λ y D=>?_,?_⟩
  ·obtain ⟨p,_,rfl⟩:=List.mem_map.mp D;exact ⟨_,rfl⟩
  refine q _ _ (a1.trans (S.trans (Same.upd b0))) ?_;rw [j5g];have ix :∀{i n:Nat},c[i]? = some n->i=c.idxOf n:=λ {i n} h=>(Q7 (List.getElem?_eq_some_iff.mp h).1 nd).mp (h.trans (gE (K0 h)).symm);constructor
  ·intro h p d i j B X;have:=ZW (h _ (List.mem_map.mpr ⟨p,d,rfl⟩));injection this with this;rw [ix B,ix X];exact ZW this
  ·intro h y D;obtain ⟨p,d,rfl⟩:=List.mem_map.mp D;have:=h p d _ _ (gE (mm p d).1) (gE (mm p d).2);rw [ZY this];exact ZY rfl
def vB:Sp:=λ vs H Q _=>E2 λ l (ns:List Nat)=>A4 (vs=[.ref l]) (H l=some (.lst (ns.map nI))) (ns.length<=12) (∀H',Same H H'->Q (.bl true) H')
def EK (T:TX (kx w) mg) (c0:Ca P w mg base "is_whole" ["value"] 1 sA):Fo P w mg base CX0 2 202 uP ["values"] vB:=by
 refine (xI w.params).ok Hs (λ f H Q E h=>?_) (λ u A D s H f Q E p h=>?_)
 ·obtain ⟨l,d,rfl,_⟩:=h;rfl
 ·obtain ⟨l,d,rfl,o,r,q⟩:=h;refine ⟨_,(aV (au (cX (mx rfl) rfl (T.no (fz _)) j31 (ah (cH (xs:=["value"]) (g:=aI 0) (fr:=[]) (fZ (pv 0)) (λ _ _ _ _ _=>(aU (N:=["value"]) 0)) (λ _ _ _ _ _=>b_) (λ _ _ _ _ _=>(aj c0 (p.mono (by decide)) rfl (ah (pv 0) aa)))) aa)))),?_⟩;refine cc (eB ?_);refine nZ (K:=KX w.params) (a:=l) (xs:=d.map nI) (H1:=H) (λ _=>true) (λ _ y _=>y=.bl true) (λ _ _ _ _ _ z=>z) (λ R h=>⟨_,rfl,h⟩) (av.of o) (M0 (m:=12) (by rw [q0];exact r) (by decide)) ?_ ?_
  ·intro i G v j c b KT B t F;rw [C1] at b;obtain ⟨n,C,rfl⟩:=Option.map_eq_some_iff.mp b;exact ⟨[some (nI n)],rfl,rfl,dk ⟨_,rfl,_,"int",rfl,rfl,t rfl _ _ (Same.refl _) rfl⟩⟩
  intro x j bs c k e;exact sE e (av.of aB) (q _ (c.trans (Same.upd k)))
theorem t_ {α β γ:Type} {R:γ->β->Prop} {f:α->γ} :∀{xs:List α} {ys:List β},af (λ x y=>R (f x) y) xs ys->af R (xs.map f) ys
 | _,_,.nil=>.nil
 | _,_,.cons a r=>.cons a (t_ r)
def Dp {sp:Sp} {E:XK} {t1 t2:TE} {σ:L2.St} {H:Hp} {Q:VK} (h:t1 σ H λ x H1=>t2 σ H1 λ y H2=>sp [x,y] H2 Q E):jH sp [] E (fX t1 (fX t2 ig)) σ H Q:=h
theorem JN (N:Nat):((N0 N).map λ (n:Nat)=>(n:Int)).Pairwise (·<=·):=List.pairwise_map.mpr (List.pairwise_lt_range.imp λ h=>by lia)
def BS (K:B0):Sp:=λ vs H Q _=>E6 λ l ln ys (rs:List dF) (o:List Nat) (N:Nat)=>A9 (vs=[.int (N:Nat),.ref l,.ref ln]) (H l=some (.lst ys)) (af (cW K H) rs ys) (∀r∈rs,iA N r) (rs.length<=288) (H ln=some (.lst (o.map nI))) (o.Perm (N0 N)) (N<=12) (∀b H',Same H H'->(b=true↔∀r∈rs,∀p q:Nat,o[p]? = some (aN r)->o[q]? = some (bN r)->p < q)->Q (.bl b) H')
theorem II (T:TX (kx w) mg) (c0:Ca P w mg base "are_numbers" ["values"] 2 vB) (c1:Ca P w mg base "keeps_to" ["pairs","numbers"] 1 z5):Fo P w mg base CX0 3 207 vY ["many","found","numbers"] (BS (kx w)):=by
 refine (vj w.params).ok Ei (λ vs H Q E h=>?_) (λ a4 A a5 s H vs Q E c h=>?_)
 ·obtain ⟨l,B,D,d,o,N,rfl,_⟩:=h;rfl
 ·obtain ⟨l,B,D,d,o,N,rfl,el,M,ok,a2,G,t,a6,q⟩:=h;refine ⟨_,(aR (aQ (PW.pt (dq (bE (bz (aj c0 (c.mono (by decide)) rfl (ah (pv 2) aa)) (λ _=>rfl))) (di (dj (gR c) (cX tY rfl (T.no (oP _)) j05 (ah (pv 2) aa)) (Cp rfl rfl (T.no (dU _)) rfl (T.no (i_ _)) j1d (pv 0)) (aC _)))))
   (aV (au cG))
   dI)
   (aV (au (aj c1 (c.mono (by decide)) rfl (ah (cH (xs:=["reason"]) (g:=aI 0) (fr:=[]) (fZ (pv 1)) (λ _ _ _ _ _=>(aU (N:=["reason"]) 0)) (λ _ _ _ _ _=>b_) (λ _ _ _ _ _=>(jq (jJ (K:=KX w.params) rfl) (pv 0) jA (iT ab)))) (ah (pv 2) aa)))))),?_⟩
  have lo:o.length=N:=by rw [t.length_eq,Q1]
  have a1:D.length=d.length:=cz M;refine cC (gc ?_);refine ⟨_,rfl,B,o,rfl,G,by lia,λ H1 J=>⟨_,rfl,bc (by decide) ?_⟩⟩;refine ⟨_,rfl,B,o.map λ (n:Nat)=>(n:Int),rfl,.inl (av.of (by rw [<-eR];exact J _ _ G)),by rw [q0];lia,λ l1 a3 h1 Z W=>?_⟩;have e1:a3=(N0 N).map λ (n:Nat)=>(n:Int):=kL W (JN N) (Z.trans (t.map _));subst e1;have j1:=Same.upd (o:=.lst (((N0 N).map λ (n:Nat)=>(n:Int)).map V.int)) h1;refine ⟨_,rfl,N,rfl,by lia,λ l2 h2=>?_⟩;have L:=Same.upd (o:=.lst (hA N)) h2;have f:=rG ((N0 N).map λ (n:Nat)=>(n:Int));refine ⟨_,_,mW (av.of (L _ _ aB)),mW (av.of aB),f.1,f.1,f.2,_,rfl,bc ?_ ?_⟩
  ·rw [pk (p:=True) f.1 f.1 (by simp)];decide
  have k:=J.trans (j1.trans L);generalize upd (upd H1 l1 (.lst (((N0 N).map λ (n:Nat)=>(n:Int)).map V.int))) l2 (.lst (hA N))=H2 at k⊢;refine cB (cc (Dp ?_));refine nZ (K:=KX w.params) (a:=l) (xs:=D) (H1:=H2) (λ i=>(d[i]?.map λ _=>true).getD false) (λ i y H'=>∃r,d[i]? = some r/\er H' (aN r,bN r) y) (λ _ _ _ _ s z=>z.elim λ r y=>⟨r,y.1,y.2.same s⟩) (λ R h=>⟨_,rfl,h⟩) (av.of (k _ _ el)) (M0 (m:=288) (by lia) (by decide)) ?_ ?_
  ·intro i hi v F C X KT KF U k2;obtain ⟨r,c,j⟩:=dQ M X;obtain ⟨p,n,rfl,sq⟩:=(j.same (k.trans C)).tup (ok r (K0 c));rw [c] at U;refine ⟨[some (.ref p)],rfl,rfl,dk ?_⟩;refine ⟨_,rfl,_,rfl,.inr (.inl ⟨p,_,rfl,sq,?_,λ Y h7=>U rfl _ _ (Same.upd h7) ⟨r,rfl,Y,rfl,aB⟩⟩)⟩;show ¬ (_/\(2:Nat)=4);exact λ h=>ZU h.2 (by decide)
  intro l3 F u C a0 e;have e:af (λ r y=>er F (aN r,bN r) y) (d.filter λ _=>true) u:=oU _ _ (by rw [<-a1];exact e);rw [List.filter_eq_self.mpr λ _ _=>rfl] at e;have e:af (er F) (d.map λ r=>(aN r,bN r)) u:=t_ e;have S:=Same.upd (o:=.lst u) a0;have I:=k.trans (C.trans S);have O :∀x,x < N->x∈o:=λ x hx=>t.mem_iff.mpr (List.mem_range.mpr hx);refine ⟨_,rfl,l3,B,u,_,o,rfl,aB,bp (λ _ _ z=>z.same S) e,by rw [q0];exact a2,I _ _ G,t.nodup_iff.mpr C6,by lia,λ p j=>?_,λ b H5 s5 hb=>q b H5 (I.trans s5) (hb.trans ⟨λ h r c=>h _ (List.mem_map.mpr ⟨r,c,rfl⟩),λ h p j=>?_⟩)⟩
  ·obtain ⟨r,c,rfl⟩:=List.mem_map.mp j;exact ⟨O _ (ok r c).la,O _ (ok r c).lb⟩
  ·obtain ⟨r,c,rfl⟩:=List.mem_map.mp j;exact h r c
def yB:Sp:=λ _ _ _ _=>False
def Gx (T:TX (kx w) mg):Fo P w mg base CX0 1 212 xj ["found","ring"] yB:=(xx w.params).ok GM (λ a H Q E h=>h.elim) (λ c A b s H a Q E d h=>h.elim)
def yI:Sp:=λ vs H Q _=>AJ λ a v us ds rows kvs t x lo (o:List Nat)=>tq (vs=[.ref a,.ref v,.bl t,.ref x]) (H a=some (.lst us)) (af (bJ H) ds us) (eA H v rows kvs) (Gd ds rows) (UW ds) (Inv (ds.map (·.ds)) rows) (H x=some (.tup [.str "order",.ref lo])) (H lo=some (.lst (o.map nI))) (o.Perm (N0 ds.length)) (∀b H',Same H H'->(b=true↔mf ds rows t o)->Q (.bl b) H')
def Fv (T:TX (kx w) mg) (c0:Ca P w mg base "reasons" ["dealings","versions","timed"] 7 (uC (kx w))) (c1:Ca P w mg base "first_lost" ["dealings"] 2 vC) (c2:Ca P w mg base "is_tuple_of" ["value","many"] 1 sM) (c3:Ca P w mg base "are_numbers" ["values"] 2 vB) (c4:Ca P w mg base "is_order_of" ["many","found","numbers"] 3 (BS (kx w))) (c5:Ca P w mg base "is_ring" ["found","ring"] 1 yB):Fo P w mg base CX0 8 197 uQ ["dealings","versions","timed","told"] yI:=by
 refine (vr w.params).ok dt (λ vs H Q E h=>?_) (λ a2 A a3 s H vs Q E c h=>?_)
 ·obtain ⟨a,v,k,g,S,R,t,x,n,o,rfl,_⟩:=h;rfl
 ·obtain ⟨a,v,k,g,S,R,t,x,n,o,rfl,D,C,V0,G,U,I,J,K,B,q⟩:=h;refine ⟨_,(aR (ar (i:=4) dt.nd rfl (O1 rfl) (aj c0 (c.mono (by decide)) rfl (ah (pv 0) (ah (pv 1) (ah (pv 2) aa)))))
   (aR (ar (i:=5) dt.nd rfl (O1 rfl) (aj c1 (c.mono (by decide)) rfl (ah (pv 0) aa)))
   (aR (aQ (dj Aw (pv 5) eF (aC _))
   (aV (au (cI (aj c2 (c.mono (by decide)) rfl (ah (pv 3) (ah ab aa))) (cI (cX kQ rfl (T.no (jG _)) Y4 (ah (ao ak (pv 3) ab (λ _ _=>rfl)) (ah (jB (v:=.ty "str") rfl (T.no (iW _)) boot_str rfl) aa))) (cI (aj c3 (c.mono (by decide)) rfl (ah (jq eZ (pv 3) (iT ab) jA) aa)) (dH (jv du (pv 3) (pv 5) (aC _))))))))
   dI)
   (aR (aQ (PW.pt (dq (bE (bz (aj c2 (c.mono (by decide)) rfl (ah (pv 3) (ah ab aa))) (λ _=>rfl))) (dq (bE (bz (cX kQ rfl (T.no (jG _)) Y4 (ah (ao ak (pv 3) ab (λ _ _=>rfl)) (ah (jB (v:=.ty "str") rfl (T.no (iW _)) boot_str rfl) aa))) (λ _=>rfl))) (di (bE (bz (cX kQ rfl (T.no (jG _)) Y4 (ah (ao ak (pv 3) ab (λ _ _=>rfl)) (ah (jB (v:=.ty "list") rfl (T.no (dU _)) j1d rfl) aa))) (λ _=>rfl)))))))
   (aV (au cG))
   dI)
   (aR (aQ (dj du (ao ak (pv 3) ab (λ _ _=>rfl)) bf (aC _))
   (aV (au (aj c4 (c.mono (by decide)) rfl (ah (cX gG rfl (T.no (bW _)) C5 (ah (pv 0) aa)) (ah (pv 4) (ah (ao ak (pv 3) ab (λ _ _=>rfl)) aa))))))
   dI)
   (aV (au (cI (jv du (ao ak (pv 3) ab (λ _ _=>rfl)) bf (aC _)) (dH (aj c5 (c.mono (by decide)) rfl (ah (pv 4) (ah (ao ak (pv 3) ab (λ _ _=>rfl)) aa)))))))))))),?_⟩
  have M:=G.l12;have V:k.length=g.length:=cz C;refine cy ?_;refine ⟨_,rfl,_,rfl,_,rfl,a,v,k,g,S,R,t,rfl,D,C,V0,G,U,λ W X O u m a4 a1 F pw a0 L=>ai ?_⟩;have ok :∀r∈u,iA g.length r:=λ r c=>eM G U I.nk ((L r).mp c);have F:af (cW (kx w) X) u O:=xH F;have N:=iB (t:=t) I U G L B;refine cy ?_;refine ⟨_,rfl,a,k,g,rfl,m _ _ D,bp (λ _ _ z=>z.same m) C,M,λ d hd=>(G.ok d hd).ln,U,λ H2 l y=>ai ?_,λ tl i p H2 l et y=>ai ?_⟩;rotate_left
  ·have f:=m.trans l;have e:=f _ _ J;refine cC ⟨_,rfl,rfl,_,rfl,cb rfl ?_⟩;refine ⟨_,rfl,_,"tuple",3,rfl,.inr (.inl ⟨⟨_,e⟩,rfl⟩),?_⟩;rw [sR e];exact ⟨_,rfl,bc (by simp) (q _ _ f ⟨(λ h=>nomatch h),λ h=>ZU (N.mp h).1 y⟩)⟩
  have f:=m.trans l;have e:=f _ _ J;refine cC ⟨_,rfl,rfl,_,rfl,bc (by decide) ?_⟩;refine cB (cC (gc ?_));refine ⟨_,rfl,_,"tuple",2,rfl,.inr (.inl ⟨⟨_,e⟩,rfl⟩),?_⟩;rw [sR e];refine ⟨_,rfl,bc (by simp) ?_⟩;refine ⟨_,rfl,.inr (.inl ⟨x,_,0,.str "order",rfl,rfl,aG.of e,bU (j:=0) rfl,?_⟩)⟩;refine ⟨_,_,"str",rfl,rfl,by decide,_,rfl,bc (by decide) ?_⟩;refine ⟨_,rfl,.inr (.inl ⟨x,_,1,.ref n,rfl,rfl,aG.of e,bU (j:=1) rfl,?_⟩)⟩;refine ⟨_,_,"list",rfl,.inl ⟨⟨_,f _ _ K⟩,rfl⟩,by decide,_,rfl,bc (by decide) ?_⟩;refine cB (cC ?_);refine ⟨_,rfl,.inr (.inl ⟨x,_,0,.str "order",rfl,rfl,aG.of e,bU (j:=0) rfl,?_⟩)⟩;refine ⟨rfl,_,rfl,cb (by decide) ?_⟩;refine ⟨_,rfl,.inl ⟨a,k,rfl,.inl (av.of (f _ _ D)),?_⟩⟩;rw [V];refine ⟨_,rfl,_,rfl,.inr (.inl ⟨x,_,1,.ref n,rfl,rfl,aG.of e,bU (j:=1) rfl,?_⟩)⟩;refine ⟨W,n,O,u,o,g.length,rfl,l _ _ a1,bp (λ _ _ z=>z.same l) F,ok,a0,f _ _ K,B,M,λ b H3 Z Y=>q b H3 (f.trans Z) (Y.trans ?_)⟩;rw [N,ij B λ r c=>⟨(ok r c).la,(ok r c).ne⟩];exact ⟨λ h=>⟨y,h⟩,λ h=>h.2⟩
end
section
variable {ds:List Dl} {rows:bA} {o:List Nat}
noncomputable def gL (ds:List Dl) (o:List Nat) (p:Nat):List Dd:=(o.take p).flatMap λ i=>(ds[i]?.map (·.ds)).getD []
def iL {p:Nat} {n:ZR}:bH (gL ds o p) n=fD (d_ ds) o p n:=by unfold gL fD d_ bH;rw [List.flatMap_assoc]
def GH {p i:Nat} {d:Dl} (h:o[p]? = some i) (hd:ds[i]? = some d):gL ds o (p + 1)=gL ds o p++d.ds:=by unfold gL;rw [j19,h,U2];show _++((ds[i]?.map (·.ds)).getD []++[])=_;rw [hd,E1];rfl
def oQ {p:Nat} {pre:List Dd} {n:ZR}:jy (λ m=>dA (fD (d_ ds) o p m)) pre n=dA (bH (gL ds o p++pre) n):=by rw [nR,AL,iL];rfl
def iE.get {ko:List (Key×V)} {pre:List Dd} (h:iE ko pre) (n:ZR):(aH ko (.inr n)).getD (.int 0)=.int (dA (bH pre n)):=by
 rw [h n];by_cases z:bH pre n=[]
 ·rw [ZZ z,z];rfl
 ·rw [Z_ z];rfl
def rK (ds:List Dl) (o:List Nat) (m:Nat):Prop:=∀(p i:Nat) d,p < m->o[p]? = some i->ds[i]? = some d->∀(q:Nat) n x,d.ds[q]? = some ⟨false,n,x⟩->x=jy (λ m=>dA (fD (d_ ds) o p m)) (d.ds.take q) n
def CL (ds:List Dl) (o:List Nat) (p:Nat) (d:Dl) (j:Nat):Prop:=∀(q:Nat) n x,q < j->d.ds[q]? = some ⟨false,n,x⟩->x=jy (λ m=>dA (fD (d_ ds) o p m)) (d.ds.take q) n
def rK.step {p i:Nat} {d:Dl} (h:rK ds o p) (hp:o[p]? = some i) (hd:ds[i]? = some d) (q:CL ds o p d d.ds.length):rK ds o (p + 1):=λ e f g lt a c j n x b=>by
 rcases Nat.lt_succ_iff_lt_or_eq.mp lt with z|z
 ·exact h e f g z a c j n x b
 ·subst z;rw [hp] at a;cases a;rw [hd] at c;cases c;exact q j n x (List.getElem?_eq_some_iff.mp b).1 b
theorem Kc {rs:bA} (k1:(rs.map (·.1)).Nodup) (n1:NE rs) (k2:(rows.map (·.1)).Nodup) (n2:NE rows):(rs.length=rows.length/\∀r∈rs,r∈rows)↔∀n,a_ rs n=a_ rows n:=by
 constructor
 ·rintro ⟨l,h⟩ n;by_cases hn:n∈rs.map (·.1)
  ·obtain ⟨i,d⟩:=cJ hn;rw [ji k1 d,ji k2 (h _ d)]
  ·have sub :∀x∈rs.map (·.1),x∈rows.map (·.1):=λ x c=>by obtain ⟨r,f,rfl⟩:=List.mem_map.mp c;exact List.mem_map.mpr ⟨r,h r f,rfl⟩
   have g:¬ n∈rows.map (·.1):=λ z=>by
    have:=gq (l:=n :: rs.map (·.1)) (m:=rows.map (·.1)) (List.nodup_cons.mpr ⟨hn,k1⟩) λ x c=>by
     rcases List.mem_cons.mp c with e|c
     ·rw [e];exact z
     ·exact sub x c
    rw [W0,q0,q0] at this
    lia
   rw [mN hn,mN g]
 ·intro h;have key :∀n,n∈rs.map (·.1)↔n∈rows.map (·.1):=λ n=>by rw [qB k1 n1,qB k2 n2,h n]
  refine ⟨?_,λ r f=>?_⟩
  ·have a:=gq k1 λ x c=>(key x).mp c;have b:=gq k2 λ x c=>(key x).mpr c;rw [q0,q0] at a b
   lia
  ·obtain ⟨n,i⟩:=r;obtain ⟨j,d⟩:=cJ ((key n).mp (List.mem_map.mpr ⟨_,f,rfl⟩));have:=h n;rw [ji k1 f,ji k2 d] at this;rw [this];exact d
noncomputable def bD (ds:List Dl) (i:Nat):Int:=(ds[i]?.map (·.b)).getD 0
noncomputable def eD (ds:List Dl) (i:Nat):Int:=(ds[i]?.map (·.e)).getD 0
def rM (ds:List Dl) (o:List Nat) (k:Nat):Prop:=∀q:Nat,q < k->∀j,o[q]? = some j->∀i∈o.drop q,¬ eD ds i < bD ds j
theorem rM.iff (lt :∀i∈o,i < ds.length):rM ds o o.length↔tK ds o:=by
 constructor
 ·intro h i j d e b a x p q k f;refine N2 λ z=>h q (List.getElem?_eq_some_iff.mp f).1 j f i ?_ ?_
  ·exact List.mem_iff_getElem?.mpr ⟨p - q,by rw [j47,show q + (p - q)=p by lia];exact k⟩
  ·unfold eD bD;rw [b,a];exact x
 ·intro h q f j g i l x;obtain ⟨m,c⟩:=List.mem_iff_getElem?.mp l;rw [j47] at c;have b:=C0 (lt i (K0 c));have a:=C0 (lt j (K0 g));unfold eD bD at x;rw [b,a] at x;have:=h i j _ _ b a x _ _ c g
  lia
structure lS (g f:ZS) (H H0 H':Hp) (pre:List Dd) (kst kvs:List (Key×V)):Prop where
 s:Same H H0
 gn:H g=none
 eg:H0 g=some (.dK kst)
 ow:iE kst pre
 kl:kst.length<=pre.length
 D:bV H0 H' f (wrR pre) kvs
def lS.skip {g f:ZS} {H H0 H':Hp} {pre:List Dd} {kst kvs:List (Key×V)} {d:Dd} (h:lS g f H H0 H' pre kst kvs) (hw:¬ d.w=true):lS g f H H0 H' (pre++[d]) kst kvs:=
 ⟨h.s,h.gn,h.eg,h.ow.skip hw,by rw [F0];exact M0 h.kl (b6 _ _),by rw [tD,Z_ hw];exact h.D⟩
def lS.all {g f:ZS} {H H0 H':Hp} {pre:List Dd} {kst kvs:List (Key×V)} (h:lS g f H H0 H' pre kst kvs):Same H H':=h.s.trans h.D.sm
theorem nL (h4 :∀d∈ds,d.ds.length<=4) :∀p,(gL ds o p).length<=4 * p:=λ p=>by
 unfold gL;have go :∀l:List Nat,(l.flatMap λ i=>((ds[i]?.map (·.ds)).getD [])).length<=4 * l.length:=λ l=>by
  induction l with
  | nil=>exact L0 _
  | cons a l ih=>
   rw [G3,F0,W0];have:((ds[a]?.map (·.ds)).getD []).length<=4:=by
    cases e:ds[a]? with
    | none=>exact K2 _
    | some d=>exact h4 d (K0 e)
   lia
 have:=go (o.take p);rw [Y1] at this
 lia
def jM {r:R2} {t1 t2:TE} {σ:L2.St} {H:Hp} {Q:Bool->Hp->Prop} (h:t1 σ H λ x H1=>t2 σ H1 λ y H2=>r x y H2 λ z H3=>∃c,z=.bl c/\Q c H3):kc (oj r t1 t2) σ H Q:=h
def ID {α:Type} {K:B0} {rs:List α} {xs:List V} {RA:Hp->α->V->Prop} {tl te:TE} {tc:TT} {g:TG} {m:Nat} {fr:List (Nat×ZR)} {σ:L2.St} {H:Hp} {Q:VK} (d:α) (p:α->Bool) (f:α->V) (htl :∀R:VK,(∀l H1,Same H H1->H1 l=some (.lst xs)->R (.ref l) H1)->tl σ H R) (hm :∀H H' a v,Same H H'->RA H a v->RA H' a v) (al:af (RA H) rs xs) (hn:rs.length<=ZG)
  (body :∀a∈rs,∀v H',Same H H'->RA H' a v->∀(KT:VK) (KF:Hp->Prop),(p a=true->∀H2,Same H' H2->KT (f a) H2)->(p a=false->∀H2,Same H' H2->KF H2)->
   g v (aE σ fr (A1 m none)) H' λ σ6 H6=>∃us,us.length=m/\σ6=aE σ fr us/\tc (aE σ fr us) H6 λ b H2=>if b=true then te (aE σ fr us) H2 KT else KF H2)
  (hQ :∀l H',Same H H'->H' l=none->Q (.ref l) (upd H' l (.lst ((rs.filter p).map f)))):cu (h_ K tl) m fr g tc te σ H Q:=
 htl _ λ l H1 s e=>⟨l,rfl,⟨xs,av.of e⟩,Dk (J:=mw K l) d p f (Cc (av.of e)) hm (bp (λ _ _ z=>hm _ _ _ _ s z) al) hn (λ a h v H' c=>body a h v H' (s.trans c)) λ i H' c=>hQ i H' (s.trans c)⟩
def kq {K:B0} {H:Hp} {kvs:List (Key×V)} {rows:bA} (al:af (λ (kv:Key×V) (r:ZR×List Int)=>kv.1=.inr r.1/\∃l,kv.2=.ref l/\H l=some (.lst (r.2.map V.int))) kvs rows):pj K H kvs (rows.map λ r=>((.inr r.1:Key),r.2)):=by
 induction al with
 | nil=>exact .nil
 | cons a _ ih=>exact .cons ⟨a.1,a.2.elim λ l z=>⟨l,z.1,av.of z.2⟩⟩ ih
def Ke {rows:bA} (h:(rows.map (·.1)).Nodup):((rows.map λ r=>((.inr r.1:Key),r.2)).map (·.1)).Nodup:=by rw [Y6];rw [List.Nodup,X6] at h⊢;exact h.imp λ z e=>z (by injection e)
def uR {t rest:TS} {D:Ends} {σ:L2.St} {H:Hp} (R:L2.St->Hp->Prop) (hr :∀σ1 H1,R σ1 H1->rest D σ1 H1) (h :∀D':Ends,(∀σ1 H1,R σ1 H1->D'.nx σ1 H1)->(∀v H1,D.rt v H1->D'.rt v H1)->t D' σ H):ir t rest D σ H:=h { D with nx:=rest D } hr λ _ _ z=>z
def iS {t u:TT} {σ:L2.St} {H:Hp} {Q:Bool->Hp->Prop} (h:t σ H λ c H1=>if c=true then u σ H1 Q else Q false H1):se t u σ H Q:=h
def rj (b:Bool):decide (V.str (vb b)=V.str "read") = !b:=by cases b<;>decide +kernel
end
section
variable {P:ZK} {w:U1} {mg:ZR->Option ZH} {base:ZN}
def ze:Sp:=λ vs H Q _=>E9 λ a v us ds rows kvs t lo (o:List Nat)=>A9 (vs=[.ref a,.ref v,.bl t,.ref lo]) (H a=some (.lst us)) (af (bJ H) ds us) (eA H v rows kvs) (Gd ds rows) (Inv (ds.map (·.ds)) rows) (H lo=some (.lst (o.map nI))) (o.Perm (N0 ds.length)) (∀b H',Same H H'->(b=true↔mf ds rows t o)->Q (.bl b) H')
theorem Fz (T:TX (kx w) mg):Fo P w mg base CX0 1 284 wQ ["some","versions","timed","order"] ze:=by
 refine (xh w.params).ok ba (λ vs H Q E h=>?_) (λ b4 A b9 s H vs Q E O h=>?_)
 ·obtain ⟨a,v,X,ds,a1,kvs,t,L,o,rfl,_⟩:=h;rfl
 ·obtain ⟨a,v,X,ds,a1,kvs,t,L,o,rfl,ea,al,V0,G,I,W,pm,q⟩:=h;refine ⟨_,(aR (ar (i:=4) ba.nd rfl (O1 rfl) lH)
   (aR (ar (i:=5) ba.nd rfl (O1 rfl) lH)
   (aR (aW Z1 rfl (fZ (pv 3)) (cZ (i:=6) ba.nd rfl (O1 rfl))
   (aV (aW Z1 rfl (fR (ao ak (ao ak (pv 0) (pv 6) (λ _ _=>rfl)) ab (λ _ _=>rfl))) (bx rfl (cK (cZ (i:=7) ba.nd rfl (O1 rfl)) (cK (cZ (i:=8) ba.nd rfl (O1 rfl)) (cK (cZ (i:=9) ba.nd rfl (O1 rfl)) f_))))
   (aR (aQ (PW.pt (eP (dj du (pv 7) bf (aC _)) (nA (dj iY (sN (bu O) (pv 4) (pv 8) ab ⟨rfl,rfl,rfl,rfl⟩) (pv 9) (aC _)))))
   (aV (au cG))
   dI)
   (aV (aQ (dj du (pv 7) bf (aC _))
   (aR (mj (bu O) (pv 4) (pv 8) (pv 9) rfl)
   (aV (gv (jC (tG (pv 5) (pv 8) (aO aa) ⟨rfl,rfl,rfl,rfl⟩) (ah (pv 9) aa)))))
   dI))))))
   (aR (aQ (bz (pv 2) (λ _=>rfl))
   (aV (aW Z1 rfl (kX rfl (T.no (i_ _)) (ah (cX gG rfl (T.no (bW _)) C5 (ah (pv 3) aa)) aa)) (cZ (i:=10) ba.nd rfl (N1 rfl))
   (aV (aQ (dj (vS O) (wj (xs:=["other"]) (g:=aI 0) (fr:=[(0,"some"),(3,"order"),(10,"k")]) rfl (fZ (jq eZ (pv 3) (iT (pv 10)) jA)) (by intro p u;simp only [X1,P0,or_false] at u;rcases u with rfl|rfl|rfl<;>first|exact ⟨rfl,.inl rfl⟩|exact ⟨rfl,.inr rfl⟩) (tM (ns:=["some","order","k"]) (by decide +kernel) (by intro n hn k;simp only [X1,P0,or_false] at hn;rcases hn with rfl|rfl|rfl<;>first|exact .inl rfl|exact .inr rfl)) (by intro p u;simp only [X1,P0,or_false] at u;rcases u with rfl|rfl|rfl<;>exact ⟨by decide +kernel,by first|exact .inl rfl|exact .inr rfl⟩) (by decide +kernel) rfl (by decide +kernel) (λ _ _ _ _ _=>(aU (N:=["other","some","order","k"]) 0)) (λ _ _ _ _ _=>(dy (dj iO (ao (iQ (K:=KX w.params) rfl) (ao (iQ (K:=KX w.params) rfl) (pv 1) (pv 0) (λ _ _=>rfl)) ab (λ _ _=>rfl)) (ao (iQ (K:=KX w.params) rfl) (ao (iQ (K:=KX w.params) rfl) (pv 1) (ao (iQ (K:=KX w.params) rfl) (pv 2) (pv 3) (λ _ _=>rfl)) (λ _ _=>rfl)) ab (λ _ _=>rfl)) (aC _)))) (λ _ _ _ _ _=>(pv 0))) (aO aa) (aC _))
   (aV (au cG))
   dI))))
   dI)
   (aV (au (jv (Lh O) (pv 5) (pv 1) (aC _)))))))),?_⟩
  have lu:X.length=ds.length:=cz al;have b8:=G.l12;have h4 :∀d∈ds,d.ds.length<=4:=λ d B=>(G.ok d B).ln;have b7:o.length=ds.length:=by rw [pm.length_eq,Q1]
  have lt :∀i∈o,i < ds.length:=λ i M=>List.mem_range.mp (pm.mem_iff.mp M);have lm:(o.map nI).length=o.length:=q0 _;refine cy ?_;intro g hg;refine ai ?_;refine cy ?_;intro f hf;refine ai ?_;have S0:lS g f H (upd H g (.dK [])) (upd (upd H g (.dK [])) f (.dK [])) (gL ds o 0) [] []:=⟨Same.upd hg,hg,aB,iE.nil,L0 _,⟨Same.upd hf,hf,aB,.nil,B3,B3⟩⟩
  generalize upd H g (.dK [])=H01 at S0;generalize upd H01 f (.dK [])=H1 at S0⊢;refine uR (λ σ F=>(∃H0 kst kvs',lS g f H H0 F (gL ds o o.length) kst kvs')/\rK ds o o.length/\∃x6 x7 x8 x9 x10,σ=[some (.ref a),some (.ref v),some (.bl t),some (.ref L),some (.ref g),some (.ref f),x6,x7,x8,x9,x10]) ?_ λ D' go gr=>?_;rotate_left
  ·refine ⟨_,rfl,L,rfl,⟨_,av.of (S0.all _ _ W)⟩,?_⟩;refine oo (K:=KX w.params) (a:=L) (xs:=o.map nI) (λ p σ F=>(∃H0 kst kvs',lS g f H H0 F (gL ds o p) kst kvs')/\rK ds o p/\∃x6 x7 x8 x9 x10,σ=[some (.ref a),some (.ref v),some (.bl t),some (.ref L),some (.ref g),some (.ref f),x6,x7,x8,x9,x10]) ⟨⟨_,_,_,S0⟩,λ p i d h=>ZU h (Z2 _),_,_,_,_,_,rfl⟩ (λ p σ F _ z=>av.of (z.1.elim λ _ z=>z.elim λ _ z=>z.elim λ _ z=>z.all _ _ W)) ?_ ?_
   ·rintro p y σ V hy ⟨⟨H02,kst2,kvs2,S2⟩,rd,x6,x7,x8,x9,x10,rfl⟩;rw [C1] at hy;obtain ⟨i,u,rfl⟩:=Option.map_eq_some_iff.mp hy;have M:=lt i (K0 u);have pl:p < 12:=by have:=(List.getElem?_eq_some_iff.mp u).1;lia
    have B:ds[i]? = some ds[i]:=C0 M;generalize ds[i]=d at B;have b0:=K0 B;obtain ⟨_,hu,pd,qd,vd,rfl,ed,eq,ad⟩:=k8 al B;have d4:=h4 d b0;have b3:=nL (o:=o) h4 p;have J:=S2.all;refine ai ?_;refine ⟨_,rfl,_,rfl,.inl ⟨a,X,(i:Nat),.ref pd,rfl,rfl,av.of (J _ _ ea),bU hu,.inr (.inl ⟨pd,_,2,.ref qd,rfl,rfl,aG.of (J _ _ ed),bU (j:=2) rfl,qd,rfl,⟨vd,aG.of (J _ _ eq)⟩,?_⟩)⟩⟩;refine tJ (K:=KX w.params) (a:=qd) (xs:=vd) (λ j σ F=>(∃H0 kst kvs',lS g f H H0 F (gL ds o p++d.ds.take j) kst kvs')/\CL ds o p d j/\∃x7 x8 x9 x10,σ=[some (.ref a),some (.ref v),some (.bl t),some (.ref L),some (.ref g),some (.ref f),some (nI i),x7,x8,x9,x10]) ⟨⟨_,_,_,by rw [j33,E1];exact S2⟩,λ q n x h=>ZU h (Z2 _),_,_,_,_,rfl⟩ (λ p σ F _ z=>aG.of (z.1.elim λ _ z=>z.elim λ _ z=>z.elim λ _ z=>z.all _ _ eq)) ?_ ?_
    ·rintro j y σ H3 a9 ⟨⟨H03,kst3,kvs3,S3⟩,rq,x7,x8,x9,x10,rfl⟩;obtain ⟨c,Y,⟨pp,rfl,a8⟩⟩:=dQ ad a9;have tk:gL ds o p++d.ds.take (j + 1)=(gL ds o p++d.ds.take j)++[c]:=by rw [N4,Y,T2];rfl
     have jl:=(List.getElem?_eq_some_iff.mp Y).1;have C:=S3.all;have l3:(gL ds o p++d.ds.take j).length < 52:=by
      rw [F0];have:=j34 j d.ds
      lia
     have b5:52 < ZG:=by decide
     refine ⟨pp,_,rfl,aG.of (C _ _ a8),rfl,_,_,rfl,_,_,rfl,_,_,rfl,rfl,?_⟩;have a0:=S3.D.sm _ _ S3.eg;refine cC (iS ?_);refine ⟨_,rfl,rfl,_,rfl,?_⟩;rw [rj];cases hw:c.w with
     | false=>
      have ec:c=⟨false,c.n,c.x⟩:=by obtain ⟨cw,cn,cx⟩:=c;cases hw;rfl
      refine dk ?_;refine ⟨_,rfl,g,rfl,.inl ⟨_,.inl a0⟩,_,rfl,_,dh.k (k:=.inr c.n) a0,?_⟩;rw [S3.ow.get];refine ⟨_,rfl,rfl,_,rfl,?_⟩;have hl:=oQ (ds:=ds) (o:=o) (p:=p) (pre:=d.ds.take j) (n:=c.n);refine dw (λ z=>?_) λ z=>?_
      ·refine gr _ _ (q false _ C ⟨(λ z=>nomatch z),λ h=>?_⟩);have:=h.1.1 p i d u B j c.n c.x (ec ▸ Y);rw [hl] at this;rw [<-this,ZY rfl] at z;cases z
      ·have z:dA (bH (gL ds o p++d.ds.take j) c.n)=c.x:=by refine N2 λ ne=>z ?_;rw [ZX λ e=>ne (by injection e)];rfl
       refine cB ?_;refine ⟨_,rfl,rfl,_,rfl,?_⟩;rw [gk];refine gf ?_;refine ⟨⟨_,_,_,by rw [tk];exact S3.skip λ z=>by rw [hw] at z;cases z⟩,λ q n x lq e=>?_,_,_,_,_,rfl⟩;rcases Nat.lt_succ_iff_lt_or_eq.mp lq with y|y
       ·exact rq q n x y e
       ·subst y;rw [Y,ec] at e;cases e;rw [hl];exact z.symm
     | true=>
      refine gf (gf (cB ?_));refine ⟨_,rfl,rfl,_,rfl,?_⟩;rw [gk];refine dk ?_;refine ⟨_,rfl,_,rfl,_,rfl,g,_,rfl,fS.k (k:=.inr c.n) a0 (W1 S3.kl (by lia)),?_⟩;have D4:=S3.D.both (o':=.dK (putK kst3 (.inr c.n) (.int c.x))) S3.eg;have sg:Same H (upd H03 g (.dK (putK kst3 (.inr c.n) (.int c.x)))):=K42.Same.keep S3.s S3.gn;refine cB (ky ?_);have rb:=gK (gL ds o p++d.ds.take j);refine xS (n:=c.n) (x:=c.x) D4 (λ R h=>⟨_,rfl,h⟩) (λ R h=>⟨_,rfl,h⟩) (λ F R h=>⟨_,rfl,h⟩) (W1 rb.1 (by lia)) (λ r O=>W1 (rb.2 r O) (by lia)) λ H5 a6 D5=>?_;refine ⟨⟨upd H03 g (.dK (putK kst3 (.inr c.n) (.int c.x))),putK kst3 (.inr c.n) (.int c.x),a6,?_⟩,λ q n x lq e=>?_,_,_,_,_,rfl⟩
      ·rw [tk];refine ⟨sg,S3.gn,aB,S3.ow.put hw,?_,by rw [tD,ZZ hw];exact D5⟩;have:=pC (kvs:=kst3) (k:=(.inr c.n:Key)) (v:=.int c.x);have:=S3.kl;rw [F0];show _<=_ + 1
       lia
      ·rcases Nat.lt_succ_iff_lt_or_eq.mp lq with y|y
       ·exact rq q n x y e
       ·subst y;rw [Y] at e;cases e;cases hw
    ·rintro σ H3 ⟨⟨H03,kst3,kvs3,S3⟩,rq,x7,x8,x9,x10,rfl⟩;rw [cz ad,W2,<-GH u B] at S3;rw [cz ad] at rq;exact ⟨⟨_,_,_,S3⟩,rd.step u B rq,_,_,_,_,_,rfl⟩
   ·rintro σ V z;rw [lm] at z;exact go _ _ z
  ·rintro σ1 H1 ⟨⟨H0,kst,kvs1,S⟩,rd,x6,x7,x8,x9,x10,rfl⟩;refine uR (λ σ F=>Same H1 F/\(t=true->tK ds o)/\∃x10,σ=[some (.ref a),some (.ref v),some (.bl t),some (.ref L),some (.ref g),some (.ref f),x6,x7,x8,x9,x10]) ?_ λ D' go gr=>?_
   ·rintro σ2 V ⟨J,tm,x10,rfl⟩;have s:=S.all.trans J;have V2:=V0.same s;have D2:=S.D.beside J;refine cc ?_;refine ⟨_,rfl,_,rfl,f,v,kvs1,kvs,_,_,rfl,rfl,D2.at',V2.at',kq (bp (λ _ _ z=>⟨z.1,z.2.elim λ l y=>⟨l,y.1,y.2.2⟩⟩) D2.al),kq V2.al,?_,λ e U=>q e V s ?_⟩
    ·exact Ke V2.nk
    rw [q0,q0] at U;have U:e=true↔(wrR (gL ds o o.length)).length=a1.length/\∀r∈wrR (gL ds o o.length),r∈a1:=U.trans ⟨λ h=>⟨h.1,λ r O=>?_⟩,λ h=>⟨h.1,λ r O=>?_⟩⟩
    ·rw [U,Kc (kP _) (NE.wrR _) I.nk I.ne];constructor
     ·intro h;exact ⟨⟨λ p i d u B=>rd p i d (List.getElem?_eq_some_iff.mp u).1 u B,λ n=>by rw [<-iL,<-tE];exact h n⟩,tm⟩
     ·intro h n;rw [tE,iL];exact h.1.2 n
    ·obtain ⟨r',a3,e'⟩:=List.mem_map.mp (h.2 _ (List.mem_map.mpr ⟨r,O,rfl⟩));injection e' with e1 e2;injection e1 with e1;rw [show r=r' from Prod.ext e1.symm e2.symm];exact a3
    ·obtain ⟨r',a3,rfl⟩:=List.mem_map.mp O;exact List.mem_map.mpr ⟨r',h.2 _ a3,rfl⟩
   ·refine ⟨_,rfl,t,rfl,?_⟩;have s1:=S.all;cases t with
    | false=>exact gf (go _ _ ⟨Same.refl _,(λ z=>nomatch z),_,rfl⟩)
    | true=>
     refine dk ?_;refine ⟨_,rfl,.inl ⟨L,_,rfl,.inl (av.of (s1 _ _ W)),((o.map nI).length:Nat),rfl,by lia,by lia,?_⟩⟩;refine pH (λ k σ F=>Same H1 F/\rM ds o k/\∃x10,σ=[some (.ref a),some (.ref v),some (.bl true),some (.ref L),some (.ref g),some (.ref f),x6,x7,x8,x9,x10]) ⟨Same.refl _,λ q h=>ZU h (Z2 _),_,rfl⟩ ?_ ?_
     ·rintro k σ V Z ⟨J,tk,x10,rfl⟩;have Z:k < o.length:=by rw [<-lm];exact Z
      rw [show (0:Int) + (k:Nat)=(k:Nat) by lia];have hj:=C0 Z;have jl:=lt _ (o7 Z);generalize o[k]=j at hj jl;have a4:=s1.trans J;refine ai (oh (jM ?_));refine ID (K:=KX w.params) (rs:=o.drop k) (xs:=(o.drop k).map nI) (RA:=λ _ n y=>y=nI n) 0 (λ i=>decide (eD ds i < bD ds j)) nI (λ R h=>?_) (λ _ _ _ _ _ z=>z) (uo nI (o.drop k)) (M0 (m:=12) (by rw [P3];lia) (by decide)) ?_ ?_
      ·refine ⟨_,rfl,_,rfl,_,rfl,.inl ⟨L,_,rfl,av.of (a4 _ _ W),λ p u=>h p _ (Same.upd u) ?_⟩⟩;rw [xO (by rw [lm];lia),<-N9];exact aB
      ·rintro i M _ H3 C rfl KT KF k1 k2;have il:=lt _ (Z7 M);have B:=C0 il;have U:=C0 jl;have C:=a4.trans C;obtain ⟨_,hu,pd,qd,vd,rfl,ed,_,_⟩:=k8 al B;obtain ⟨_,b1,a5,b6,c0,rfl,b2,_,_⟩:=k8 al U;have ei:eD ds i=ds[i].e:=by unfold eD;rw [B];rfl
       have bj:bD ds j=ds[j].b:=by unfold bD;rw [U];rfl
       rw [ei,bj] at k1 k2;refine ⟨[some (nI i)],rfl,rfl,?_⟩;refine ⟨_,rfl,_,rfl,.inl ⟨a,X,(i:Nat),.ref pd,rfl,rfl,av.of (C _ _ ea),bU hu,.inr (.inl ⟨pd,_,1,.int ds[i].e,rfl,rfl,aG.of (C _ _ ed),bU (j:=1) rfl,?_⟩)⟩⟩;refine ⟨_,rfl,_,rfl,_,rfl,.inl ⟨L,_,(k:Nat),nI j,rfl,rfl,av.of (C _ _ W),bU (by rw [C1,hj];rfl),.inl ⟨a,X,(j:Nat),.ref a5,rfl,rfl,av.of (C _ _ ea),bU b1,.inr (.inl ⟨a5,_,0,.int ds[j].b,rfl,rfl,aG.of (C _ _ b2),bU (j:=0) rfl,?_⟩)⟩⟩⟩;refine ⟨_,_,rfl,rfl,_,rfl,?_⟩;exact dw (λ z=>⟨_,rfl,k1 z _ (Same.refl _)⟩) λ z=>k2 (Bool.eq_false_iff.mpr z) _ (Same.refl _)
      intro lf H3 C a7;have s4:=C.trans (Same.upd (o:=.lst (((o.drop k).filter λ i=>decide (eD ds i < bD ds j)).map nI)) a7);refine ⟨gj,λ l0 h0=>?_⟩;have j0:=Same.upd (o:=.lst []) h0;refine ⟨lf,l0,_,rfl,rfl,av.of (j0 _ _ aB),av.of aB,_,rfl,?_⟩;have s5:=J.trans (s4.trans j0);refine dw (λ z=>?_) λ z=>?_
      ·refine gr _ _ (q false _ (s1.trans s5) ⟨(λ z=>nomatch z),λ h=>?_⟩);have z:=ZW z;refine ZU ?_ z;rw [List.filter_eq_nil_iff.mpr λ i M y=>(rM.iff lt).mpr (h.2 rfl) k Z j hj i M (ZW y)];rfl
      ·refine ⟨s5,λ q hq j' a2 i M y=>?_,_,rfl⟩;rcases Nat.lt_succ_iff_lt_or_eq.mp hq with x|x
       ·exact tk q x j' a2 i M y
       ·subst x;rw [hj] at a2;cases a2;refine z (ZY λ e=>?_);have e:=List.map_eq_nil_iff.mp e;exact List.filter_eq_nil_iff.mp e i M (ZY y)
     ·rintro σ V ⟨J,tk,x10,rfl⟩;rw [lm] at tk;exact go _ _ ⟨J,λ _=>(rM.iff lt).mp tk,_,rfl⟩
def dO (H:Hp) (o:List Nat) (y:V):Prop:=∃l,y=.ref l/\H l=some (.lst (o.map nI))
def dO.same {H H':Hp} {o:List Nat} {y:V} (s:Same H H') (h:dO H o y):dO H' o y:=h.elim λ l z=>⟨l,z.1,s _ _ z.2⟩
def e_ (w:ZS) (H:Hp) (o:List Nat) (y:V):Prop:=∃l,y=.ref l/\l≠w/\H l=some (.lst (o.map nI))
def e_.same {w:ZS} {H H':Hp} {o:List Nat} {y:V} (s:Same H H') (h:e_ w H o y):e_ w H' o y:=h.elim λ l z=>⟨l,z.1,z.2.1,s _ _ z.2.2⟩
def e_.off {w:ZS} {H:Hp} {o:List Nat} {y:V} {z:HO} (h:e_ w H o y):e_ w (upd H w z) o y:=h.elim λ l x=>⟨l,x.1,x.2.1,by rw [ae x.2.1];exact x.2.2⟩
def e_.at {w:ZS} {H:Hp} {o:List Nat} {y:V} (h:e_ w H o y):dO H o y:=h.elim λ l x=>⟨l,x.1,x.2.2⟩
noncomputable def hI (N:Nat) (o:List Nat):List (List Nat):=((N0 N).filter λ x=>decide (x∉o)).map λ x=>o++[x]
def En {N:Nat} {o:List Nat}:(hI N o).length<=N:=by
 unfold hI;rw [q0];have:=u5 (λ x=>decide (x∉o)) (N0 N)
 rwa [Q1] at this
theorem yn {N:Nat} :∀l:List (List Nat),(l.flatMap (hI N)).length<=l.length * N
 | []=>K2 _
 | a :: l=>by rw [G3,F0,W0,Nat.add_mul,Nat.one_mul,j06];exact Nat.add_le_add (yn l) En
def Kk {N k:Nat} (h:N<=4) (hk:k<=4):(bB N k).length<=256:=M0 (wk k) (M0 (Nat.pow_le_pow_left h k) (Nat.pow_le_pow_right (by decide) hk))
def BN:Sp:=λ vs H Q _=>∃N:Nat,A3 (vs=[.int (N:Nat)]) (N<=4) (∀l ys H',Same H H'->H' l=some (.lst ys)->af (dO H') (bB N N) ys->Q (.ref l) H')
theorem JU (T:TX (kx w) mg):Fo P w mg base CX0 1 289 vQ ["many"] BN:=by
 refine (vI w.params).ok bP (λ vs H Q E h=>?_) (λ a7 A b0 s H vs Q E hr h=>?_)
 ·obtain ⟨N,rfl,_⟩:=h;rfl
 ·obtain ⟨N,rfl,U,q⟩:=h;refine ⟨_,(aR (ar (i:=1) bP.nd rfl (O1 rfl) (aO (ah (aO aa) aa)))
   (aR (aW Z1 rfl (kX rfl (T.no (i_ _)) (ah (pv 0) aa)) (cZ (i:=2) bP.nd rfl (O1 rfl))
   (aR (ar (i:=3) bP.nd rfl (O1 rfl) (aO aa))
   (aR (aW Z1 rfl (fZ (pv 1)) (cZ (i:=4) bP.nd rfl (N1 rfl))
   (aV (gv (uz (pv 3) (ah (cH (xs:=["number"]) (g:=aI 0) (fr:=[(4,"order")]) (kX rfl (T.no (i_ _)) (ah (pv 0) aa)) (λ _ _ _ _ _=>(aU (N:=["number","order"]) 0)) (λ _ _ _ _ _=>(dy (dj (wA (K:=KX w.params) rfl) (pv 0) (pv 1) (by with_unfolding_all rfl)))) (λ _ _ _ _ _=>(aA (nS (K:=KX w.params) rfl) (pv 1) (aO (ah (pv 0) aa))))) aa)))))
   (aV (ar (i:=1) bP.nd rfl (O1 rfl) (pv 3))))))
   (aV (au (pv 1))))),?_⟩
  refine cy ?_;refine ⟨gj,λ f h0=>⟨qS,λ C F=>ai ?_⟩⟩;have s0:=(Same.upd (o:=.lst []) h0).trans (Same.upd (o:=.lst [.ref f]) F);have Y:upd (upd H f (.lst [])) C (.lst [.ref f]) f=some (.lst []):=Same.upd F _ _ aB;have e1:upd (upd H f (.lst [])) C (.lst [.ref f]) C=some (.lst [.ref f]):=aB;generalize upd (upd H f (.lst [])) C (.lst [.ref f])=H1 at s0 Y e1⊢;refine ⟨_,rfl,N,rfl,by lia,by lia,?_⟩;refine pH (λ i σ d=>(E2 λ l k=>A3 (Same H d) (d l=some (.lst k)) (af (dO d) (bB N i) k/\∃x2 x3 x4,σ=[some (.int (N:Nat)),some (.ref l),x2,x3,x4]))) ⟨C,[.ref f],s0,e1,.cons ⟨f,rfl,Y⟩ .nil,_,_,_,rfl⟩ ?_ ?_
  ·rintro i σ B hi ⟨l,k,s2,el,al,x2,x3,x4,rfl⟩;have hi:i < N:=by lia
   refine ai ?_;refine pR ⟨gj,λ c G=>ai ?_⟩;have L:=Same.upd (o:=.lst []) G;have a4:H c=none:=s2.free G;have ew:upd B c (.lst []) c=some (.lst []):=aB;have nl:l≠c:=bZ el G;have R:af (e_ c (upd B c (.lst []))) (bB N i) k:=bp (λ o y z=>by obtain ⟨p,z1,z2⟩:=z;exact ⟨p,z1,bZ z2 G,L _ _ z2⟩) al;have W:=s2.trans L;have I:=L _ _ el;clear al el;generalize upd B c (.lst [])=H3 at ew R W I⊢;have ly:k.length=(bB N i).length:=cz R;refine ⟨_,rfl,l,rfl,⟨_,av.of I⟩,?_⟩;refine oo (K:=KX w.params) (a:=l) (xs:=k) (λ j σ d=>(∃zs,Same H d/\d l=some (.lst k)/\d c=some (.lst zs)/\af (e_ c d) (bB N i) k/\af (e_ c d) (((bB N i).take j).flatMap (hI N)) zs)/\∃x4,σ=[some (.int (N:Nat)),some (.ref l),some (.int ((0:Int) + (i:Nat))),some (.ref c),x4]) ⟨⟨[],W,I,ew,R,.nil⟩,_,rfl⟩ (λ j σ d _ z=>av.of z.1.choose_spec.2.1) ?_ ?_
   ·rintro j y σ X hy ⟨⟨zs,s4,el4,ew4,al4,az4⟩,x4,rfl⟩;obtain ⟨o,Z,lo,rfl,a6,eo⟩:=dQ al4 hy;have hm:=K0 Z;have tk:(bB N i).take (j + 1)=(bB N i).take j++[o]:=by rw [N4,Z];rfl
    have a9:o.length<=4:=by rw [(w7 hm).1];lia
    refine ai ?_;refine ⟨_,rfl,.inl ⟨rfl,_,av.of ew4⟩,?_⟩;refine pV (S:=Same) (n:=N) (H1:=X) (λ x=>decide (x∉o)) (λ x y d=>e_ c d (o++[x]) y) (Same.refl _) (λ _ _ _ a b=>a.trans b) (λ _ _=>Same.refl _) (λ _ _ _ _ s z=>z.same s) (λ T h=>⟨_,rfl,h⟩) (M0 U (by decide)) ?_ ?_
    ·intro x hx M u KT KF k1 k2;refine ⟨[some (.int x)],rfl,rfl,?_⟩;have a3:=u _ _ eo;refine ⟨_,rfl,_,rfl,lo,_,rfl,.inl (av.of a3),rfl,p_ _,_,rfl,?_⟩;rw [ZZ rfl,show js (.int ((x:Nat):Int)) (o.map nI)=decide (x∈o) from qZ x o];have e:(!decide (x∈o))=decide (x∉o):=by simp
     rw [e];refine dw (λ z=>?_) λ z=>k2 (Bool.eq_false_iff.mpr z) _ (Same.refl _);refine ⟨_,rfl,_,rfl,qS,λ p hp=>?_⟩;have O:=Same.upd (o:=.lst [V.int (x:Nat)]) hp;refine .inr (.inr (.inl ⟨lo,p,_,_,rfl,rfl,O _ _ a3,aB,M0 (m:=5) (by rw [q0];show o.length + 1<=5;lia) (by decide),λ p2 a2=>?_⟩));have a5:p2≠c:=(bZ (O _ _ (u _ _ ew4)) a2).symm;exact k1 z _ _ (O.trans (Same.upd a2)) ⟨p2,rfl,a5,by rw [Q3];exact aB⟩
    intro J M r u a0 t;have D:=Same.upd (o:=.lst r) a0;have a1:=D _ _ (u _ _ ew4);have b1:J≠c:=(bZ (u _ _ ew4) a0).symm;have lz:zs.length<=256:=by rw [cz az4];have F:=yn (N:=N) ((bB N i).take j);have h2:((bB N i).take j).length<=(bB N i).length:=j34 _ _;have h3:=wk (N:=N) i;have h4:(bB N i).length * N<=N ^ i * N:=j3b _ h3;have h5:N ^ i * N=N ^ (i + 1):=(k02 ..).symm;have h6:N ^ (i + 1)<=4 ^ (i + 1):=Nat.pow_le_pow_left U _;have h7:4 ^ (i + 1)<=4 ^ 4:=Nat.pow_le_pow_right (by decide) (by lia);have h8:((bB N i).take j).length * N<=(bB N i).length * N:=j3b _ h2;exact M0 F (M0 h8 (M0 h4 (M0 (j2d h5) (M0 h6 h7))))
    have t:af (λ x y=>e_ c M (o++[x]) y) ((N0 N).filter λ x=>decide (x∉o)) r:=t;have a8:r.length<=4:=by
     rw [cz t];have:=u5 (λ x=>decide (x∉o)) (N0 N);rw [Q1] at this
     lia
    refine ⟨c,J,zs,r,rfl,rfl,a1,aB,M0 (m:=260) (by lia) (by decide),?_⟩;have v:=u.trans D;generalize upd M J (.lst r)=H6 at a1 D v⊢;have t:af (e_ c H6) (hI N o) r:=t_ (bp (λ _ _ z=>z.same D) t);refine ⟨⟨zs++r,K42.Same.keep (s4.trans v) a4,by rw [ae nl];exact v _ _ el4,aB,bp (λ _ _ z=>(z.same v).off) al4,?_⟩,_,rfl⟩;rw [tk,U2];refine k7 (bp (λ _ _ z=>(z.same v).off) az4) ?_;rw [G3,List.flatMap_nil,E1];exact bp (λ _ _ z=>z.off) t
   ·rintro σ X ⟨⟨zs,s4,el4,ew4,al4,az4⟩,x4,rfl⟩;refine cB ?_;refine ⟨_,rfl,ai ?_⟩;rw [ly,W2] at az4;exact ⟨c,zs,s4,ew4,bp (λ _ _ z=>z.at) az4,_,_,_,rfl⟩
  ·rintro σ B ⟨l,k,s2,el,al,x2,x3,x4,rfl⟩;exact ⟨_,rfl,q l k B s2 el al⟩
end
section
variable {P:ZK} {w:U1} {mg:ZR->Option ZH} {base:ZN}
open Classical in
noncomputable def lB (ds:List Dl) (rows:bA) (t:Bool):List (List Nat):=(bB ds.length ds.length).filter λ o=>decide (mf ds rows t o)
open Classical in
def Kh {ds:List Dl} {rows:bA} {t:Bool} {o:List Nat}:o∈lB ds rows t↔o∈bB ds.length ds.length/\mf ds rows t o:=by unfold lB;rw [j2f,decide_eq_true_iff]
open Classical in
def Eg {K:B0} {ds:List Dl} {rows:bA} {t:Bool} {H:Hp} {x:ZS} (I:Inv (ds.map (·.ds)) rows) (U:UW ds) (G:Gd ds rows) (j:Az K ds rows t H x):(∃o l,(lB ds rows t).head? = some o/\H x=some (.tup [.str "order",.ref l])/\H l=some (.lst (o.map nI)))\/(lB ds rows t=[]/\∃z rest,H x=some (.tup (.str z :: rest))/\z≠"order"):=by
 have no:(∀o∈bB ds.length ds.length,¬ mf ds rows t o)->lB ds rows t=[]:=λ h=>List.filter_eq_nil_iff.mpr λ o d z=>h o d (ZW z);cases j with
 | lost n i p e=>exact .inr ⟨no λ o d h=>n ((zM I U (qF d)).mp h.1).1,_,_,e,by decide⟩
 | order n rs me o l k e el=>
  refine .inl ⟨o,l,?_,e,el⟩;have s:o.length=ds.length:=by have:=k.perm.length_eq;rwa [E1,Q1] at this
  have f:=k.first (λ r a=>(eM G U I.nk ((me r).mp a)).la) (f:=λ o=>decide (PK aN bN rs o)) λ o=>decide_eq_true_iff;rw [s] at f;rw [<-f];unfold lB;congr 1;refine g9 λ q c=>?_;refine decide_eq_decide.mpr ((iB I U G me (qF c)).trans ?_);exact ⟨λ h=>h.2,λ h=>⟨n,h⟩⟩
 | ring n rs me o ls k ne nr l ws w e el al g=>refine .inr ⟨no λ q c h=>?_,_,_,e,by decide⟩;have b:=qF c;have m:=((iB I U G me b).mp h).2;rw [ij b λ r a=>⟨(eM G U I.nk ((me r).mp a)).la,(eM G U I.nk ((me r).mp a)).ne⟩] at m;exact Li ne nr (λ x u=>List.mem_iff_getElem?.mp (b.mem_iff.mpr (k.perm.mem_iff.mp (C2 _ u)))) m
noncomputable def dn (o:List Nat):ZL:=.list ((o.map λ (n:Nat)=>(n:Int)).map J8)
def gM {K:B0} {H:Hp} {l:ZS} {o:List Nat} (h:H l=some (.lst (o.map nI))):bY K H (dn o) (.ref l):=mW (av.of (by rw [<-eR];exact h))
def eQ (o:List Nat):bg (dn o)=true/\(dn o).depth<=1:=by
 refine ⟨(rG _).1,?_⟩;unfold dn;generalize (o.map λ (n:Nat)=>(n:Int))=ns;have:Q2 (ns.map J8)=0:=by
  induction ns with
  | nil=>rfl
  | cons n ns ih=>show max 0 (Q2 (ns.map J8))=0;rw [ih];rfl
 show Q2 _ + 1<=1;rw [this];exact L0 _
theorem Er {o o':List Nat} (h:dn o=dn o'):o=o':=by injection h with h;have h:=(List.map_inj_right λ a b e=>by injection e).mp h;exact (List.map_inj_right λ (a b:Nat) (e:(a:Int)=b)=>by lia).mp h
def Bk {o o':List Nat}:(dn o).eqv (dn o')=decide (o=o'):=by rw [Bool.eq_iff_iff,pO _ _ (eQ o).1 (eQ o').1,decide_eq_true_iff];exact ⟨Er,λ h=>by rw [h]⟩
theorem Cu {K:B0} {H:Hp} :∀{os:List (List Nat)} {ys:List V},af (dO H) os ys->dJ K H (os.map dn) ys
 | _,_,.nil=>rfl
 | _,_,.cons ⟨l,e,h⟩ r=>⟨_,_,rfl,e ▸ gM h,Cu r⟩
def Kd (os:List (List Nat)):g_ (os.map dn)=true:=by
 induction os with
 | nil=>rfl
 | cons o os ih=>show (bg (dn o) && g_ (os.map dn))=true;rw [(eQ o).1,ih];rfl
def Hr {os:List (List Nat)} {o:List Nat}:((os.map dn).any λ e=>e.eqv (dn o))=decide (o∈os):=by
 rw [Bool.eq_iff_iff,decide_eq_true_iff,List.any_eq_true];constructor
 ·rintro ⟨d,hd,e⟩;obtain ⟨b,a,rfl⟩:=List.mem_map.mp hd;rw [Bk] at e;rw [<-ZW e];exact a
 ·exact λ h=>⟨_,List.mem_map.mpr ⟨o,h,rfl⟩,by rw [Bk];exact ZY rfl⟩
def Bp:Sp:=λ vs H Q _=>E7 λ a v us ds rows kvs t=>A9 (vs=[.ref a,.ref v,.bl t]) (H a=some (.lst us)) (af (bJ H) ds us) (eA H v rows kvs) (Gd ds rows) (UW ds) (Inv (ds.map (·.ds)) rows) (ds.length<=4) (∀H',Same H H'->Q (.bl true) H')
theorem GU (T:TX (kx w) mg) (c0:Ca P w mg base "judged_dealings" ["dealings","versions","timed"] 8 (Bh (kx w))) (c1:Ca P w mg base "_law_orders" ["many"] 1 BN) (c2:Ca P w mg base "_law_stands" ["some","versions","timed","order"] 1 ze) (c3:Ca P w mg base "is_verdict" ["dealings","versions","timed","told"] 8 yI):Fo P w mg base CX0 9 294 vT ["some","versions","timed"] Bp:=by
 refine (wa w.params).ok cN (λ vs H Q E h=>?_) (λ c4 A c6 s H vs Q E u h=>?_)
 ·obtain ⟨a,v,d,c,m,a0,t,rfl,_⟩:=h;rfl
 ·obtain ⟨a,v,d,c,m,a0,t,rfl,S,F,V0,G,U,I,n4,q⟩:=h;refine ⟨_,(aR (ar (i:=3) cN.nd rfl (O1 rfl) (aj c0 (u.mono (by decide)) rfl (ah (ri wX rfl (T.no (dU _)) j1d (ah (pv 0) aa)) (ah (pv 1) (ah (pv 2) aa)))))
   (aR (pI (i:=4) cN.nd rfl (O1 rfl) (xs:=["order"]) (g:=aI 0) (fr:=[(0,"some"),(1,"versions"),(2,"timed")]) rfl (fZ (aj c1 (u.mono (by decide)) rfl (ah (cX gG rfl (T.no (bW _)) C5 (ah (pv 0) aa)) aa))) (by intro p D;simp only [X1,P0,or_false] at D;rcases D with rfl|rfl|rfl<;>first|exact ⟨rfl,.inl rfl⟩|exact ⟨rfl,.inr rfl⟩) (tM (ns:=["some","versions","timed"]) (by decide +kernel) (by intro n hn k;simp only [X1,P0,or_false] at hn;rcases hn with rfl|rfl|rfl<;>first|exact .inl rfl|exact .inr rfl)) (by intro p D;simp only [X1,P0,or_false] at D;rcases D with rfl|rfl|rfl<;>exact ⟨by decide +kernel,by first|exact .inl rfl|exact .inr rfl⟩) (by decide +kernel) rfl (by decide +kernel) (λ _ _ _ _ _=>(aU (N:=["order","some","versions","timed"]) 0)) (λ _ _ _ _ _=>(dy (bz (aj c2 (u.mono (by decide)) rfl (ah (pv 1) (ah (pv 2) (ah (pv 3) (ah (pv 0) aa))))) (λ _=>rfl)))) (λ _ _ _ _ _=>(pv 0)))
   (aR (aQ (PW.pt (dq (PW.pt (eP (dj (vS u) (pv 4) (aO aa) (aC _)) (nA (dj (gR u) (pv 3) (bh (ah bf (ah (ao ak (pv 4) ab (λ _ _=>rfl)) aa))) (aC _))))) (di (PW.pt (eP (dj (zg u) (pv 4) (aO aa) (aC _)) (nA (dj du (ao ak (pv 3) ab (λ _ _=>rfl)) bf (aC _))))))))
   (aV (au cG))
   dI)
   (aR (aW Z1 rfl (fZ (aj c1 (u.mono (by decide)) rfl (ah (cX gG rfl (T.no (bW _)) C5 (ah (pv 0) aa)) aa))) (cZ (i:=5) cN.nd rfl (O1 rfl))
   (aV (aQ (dj iY (aj c3 (u.mono (by decide)) rfl (ah (ri wX rfl (T.no (dU _)) j1d (ah (pv 0) aa)) (ah (pv 1) (ah (pv 2) (ah (bh (ah bf (ah (ri wX rfl (T.no (dU _)) j1d (ah (pv 5) aa)) aa))) aa))))) (jv (kB u) (pv 5) (pv 4) (by with_unfolding_all rfl)) (aC _))
   (aV (au cG))
   dI)))
   (aV (au cG)))))),?_⟩
  have lu:d.length=c.length:=cz F;refine cy ?_;refine ⟨_,rfl,a,d,rfl,.inl (av.of S),λ lh b4=>⟨_,rfl,_,rfl,?_⟩⟩;have s1:=Same.upd (o:=.lst d) b4;refine ⟨lh,v,d,c,m,a0,t,rfl,aB,bp (λ _ _ z=>z.same s1) F,V0.same s1,G,U,I.nk,λ x H2 M jd=>ai ?_⟩;have jg:=Eg I U G jd;have M:=s1.trans M;clear jd;refine cy ?_;refine zY (K:=KX w.params) (λ l xs f=>Same H2 f/\f l=some (.lst xs)/\af (dO f) (bB c.length c.length) xs) (λ R h=>⟨_,rfl,.inl ⟨a,d,rfl,.inl (av.of (M _ _ S)),d.length,rfl,by lia,λ l ys f s e F=>h l ys f ⟨s,e,lu ▸ F⟩⟩⟩) (λ l xs f z=>⟨av.of z.2.1,by rw [cz z.2.2];exact M0 (Kk n4 n4) (by decide)⟩) (λ i=>((bB c.length c.length)[i]?.map λ o=>@decide (mf c m t o) (C8 _)).getD false) (λ i y f=>∃o,(bB c.length c.length)[i]? = some o/\dO f o y) (λ _ _ _ _ s z=>z.elim λ o y=>⟨o,y.1,y.2.same s⟩) ?_ ?_
  ·rintro l xs H3 ⟨s3,el,J⟩ i hi y H4 s4 hy KT KF k1 k2;obtain ⟨o,Y,W,rfl,O⟩:=dQ J hy;have a3:=M.trans (s3.trans s4);rw [Y] at k1 k2;refine ⟨[some (.ref W)],rfl,rfl,?_⟩;refine ⟨_,rfl,_,rfl,_,rfl,_,rfl,a,v,d,c,m,a0,t,W,o,rfl,a3 _ _ S,bp (λ _ _ z=>z.same a3) F,V0.same a3,G,I,s4 _ _ O,qF (K0 Y),λ b H5 s5 Z=>⟨_,rfl,?_⟩⟩;refine dw (λ z=>?_) λ z=>?_
   ·exact ⟨_,rfl,k1 (@ZY _ (C8 _) (Z.mp z)) _ _ s5 ⟨o,rfl,W,rfl,s5 _ _ (s4 _ _ O)⟩⟩
   ·exact k2 (@ZX _ (C8 _) λ y=>z (Z.mpr y)) _ s5
  rintro l xs H3 ⟨s3,el,J⟩ lg H4 zs s4 hlg C;have C:af (dO H4) (lB c m t) zs:=oU _ _ (by rw [<-cz J];exact C);have sg:=Same.upd (o:=.lst zs) hlg;have C:=bp (λ _ _ z=>z.same sg) C;have X:upd H4 lg (.lst zs) lg=some (.lst zs):=aB;have a6:=s3.trans (s4.trans sg);generalize upd H4 lg (.lst zs)=H5 at C X a6⊢;refine ai ?_;refine uR (λ σ f=>Same H5 f/\σ=[some (.ref a),some (.ref v),some (.bl t),some (.ref x),some (.ref lg),none]) ?_ λ D' go gr=>?_;rotate_left
  ·refine gc (iS ?_);refine ⟨_,rfl,gj,λ l0 h0=>?_⟩;have B:=Same.upd (o:=.lst []) h0;refine ⟨lg,l0,zs,rfl,rfl,av.of (B _ _ X),av.of aB,_,rfl,?_⟩;have a1:=B _ _ X;have V:=bp (λ _ _ z=>z.same B) C;have a5:=a6.trans B;generalize upd H5 l0 (.lst [])=H6 at B a1 V a5⊢;rcases jg with ⟨o,lx,hh,ex,b7⟩|⟨hn,z,rest,ex,zo⟩
   ·obtain ⟨z0,zr,rfl,lz,rfl,ez⟩ :∃z0 zr,zs=z0 :: zr/\dO H6 o z0:=by
     cases hgo:lB c m t with
     | nil=>rw [hgo] at hh;cases hh
     | cons o' r=>
      rw [hgo] at hh V;cases hh;cases V with
      | cons a r=>exact ⟨_,_,rfl,a⟩
    refine cb (ZY λ z=>nomatch z) ?_;refine ⟨_,rfl,_,rfl,.inl ⟨lg,_,0,.ref lz,rfl,rfl,av.of a1,bU (j:=0) rfl,gp,λ p D=>?_⟩⟩;have jp:=Same.upd (o:=.tup [.str "order",.ref lz]) D;have sp:=a5.trans jp;have pl:bg (.tuple [.str "order",dn o])=true:=by show (bg (.str "order") && (bg (dn o) && true))=true;rw [(eQ o).1];decide +kernel
    have dp:(PyData.tuple [.str "order",dn o]).depth<=60:=by
     have:=(eQ o).2;show max 0 (max (dn o).depth 0) + 1<=60
     lia
    refine ⟨.tuple [.str "order",dn o],.tuple [.str "order",dn o],⟨x,_,rfl,aG.of (sp _ _ ex),_,_,rfl,rfl,_,_,rfl,gM (sp _ _ b7),rfl⟩,⟨p,_,rfl,aG.of aB,_,_,rfl,rfl,_,_,rfl,gM (jp _ _ ez),rfl⟩,pl,pl,dp,_,rfl,bc (by rw [(pO _ _ pl pl).mpr rfl];decide) (iS ?_)⟩;refine ⟨_,rfl,gj,λ l7 h7=>?_⟩;have L:=Same.upd (o:=.lst []) h7;refine ⟨lg,l7,_,rfl,rfl,av.of (L _ _ (jp _ _ a1)),av.of aB,_,rfl,bc (by simp) (gf (go _ _ ⟨B.trans (jp.trans L),rfl⟩))⟩
   ·have ez:zs=[]:=by rw [hn] at V;cases V;rfl
    subst ez;refine bc (by decide) (gf (iS ?_));refine ⟨_,rfl,gj,λ l7 h7=>?_⟩;have L:=Same.upd (o:=.lst []) h7;refine ⟨lg,l7,_,rfl,rfl,av.of (L _ _ a1),av.of aB,_,rfl,cb (by decide) ?_⟩;refine ⟨_,rfl,.inr (.inl ⟨x,_,0,.str z,rfl,rfl,aG.of ((a5.trans L) _ _ ex),bU (j:=0) rfl,?_⟩)⟩;exact ⟨rfl,_,rfl,bc (by simp [zo]) (go _ _ ⟨B.trans L,rfl⟩)⟩
  ·rintro σ H6 ⟨s6,rfl⟩;have b3:=a6.trans s6;have sa:=M.trans b3;have b8:=bp (λ _ _ z=>z.same s6) C;have b2:=s6 _ _ X;refine ⟨_,rfl,.inl ⟨a,d,rfl,.inl (av.of (sa _ _ S)),d.length,rfl,by lia,λ l ys H7 s7 el J=>⟨l,rfl,⟨_,av.of el⟩,?_⟩⟩⟩;rw [lu] at J;refine oo (K:=KX w.params) (a:=l) (xs:=ys) (λ i σ f=>Same H7 f/\∃x5,σ=[some (.ref a),some (.ref v),some (.bl t),some (.ref x),some (.ref lg),x5]) ⟨Same.refl _,_,rfl⟩ (λ i σ f _ z=>av.of (z.1 _ _ el)) ?_ ?_
   ·rintro i y σ H8 hy ⟨s8,x5,rfl⟩;obtain ⟨o,Y,W,rfl,O⟩:=dQ J hy;have hm:=K0 Y;refine ai (oh (jM ?_));have a7:=sa.trans (s7.trans s8);refine ⟨_,rfl,a,d,rfl,.inl (av.of (a7 _ _ S)),λ l9 h9=>⟨_,rfl,_,rfl,?_⟩⟩;have j9:=Same.upd (o:=.lst d) h9;refine ⟨_,rfl,W,_,rfl,.inl (av.of (j9 _ _ (s8 _ _ O))),λ b0 b5=>⟨gp,λ b9 b6=>?_⟩⟩;have a9:=Same.upd (o:=.lst (o.map nI)) b5;have a4:=Same.upd (o:=.tup [.str "order",.ref b0]) b6;have j:=j9.trans (a9.trans a4);have sj:=a7.trans j;refine ⟨l9,v,d,c,m,a0,t,b9,b0,o,rfl,(a9.trans a4) _ _ aB,bp (λ _ _ z=>z.same sj) F,V0.same sj,G,U,I,aB,a4 _ _ aB,qF hm,λ b c5 b1 Z=>?_⟩;have a2:=s8.trans (j.trans b1);have a8:=s7.trans a2;refine ⟨_,rfl,_,rfl,dn o,(lB c m t).map dn,gM (a2 _ _ O),.inl ⟨lg,zs,rfl,av.of (a8 _ _ b2),Cu (bp (λ _ _ z=>z.same a8) b8)⟩,(eQ o).1,Kd _,M0 (eQ o).2 (by decide),?_⟩;rw [Z_ (by decide),Hr];have eb:b=decide (o∈lB c m t):=by rw [Bool.eq_iff_iff,Z,decide_eq_true_iff,Kh];exact ⟨λ h=>⟨hm,h⟩,λ h=>h.2⟩
    rw [<-eb];exact ⟨by cases b<;>rfl,_,rfl,bc (by simp) ⟨a2,_,rfl⟩⟩
   ·rintro σ H8 ⟨s8,x5,rfl⟩;exact q _ (sa.trans (s7.trans s8))
end
section
variable {P:ZK} {w:U1} {mg:ZR->Option ZH} {base:ZN}
def sp_law (K:B0):Sp:=λ vs H Q _=>E2 λ (a:ZS) (ns:List Int)=>A4 (vs=[.ref a]) (av K H a (ns.map V.int)) (ns.length<=63) (∀H',Q (.bl true) H')
theorem o3 (T:TX (kx w) mg) (c0:Ca P w mg base "_law_jar" ["cell"] 1 xZ) (c1:Ca P w mg base "_law_dealt" ["jar","most"] 3 Al) (c2:Ca P w mg base "_law_take" ["jar","many"] 1 mG) (c3:Ca P w mg base "_law_bent" ["jar","some","versions"] 3 yZ) (c4:Ca P w mg base "_law_right" ["some","versions","timed"] 9 Bp):Fo P w mg base CX0 10 301 fd_law ["script"] (sp_law (kx w)):=by
 refine (rV w.params).ok eI (λ vs H Q E h=>?_) (λ b7 A b8 s H vs Q E x h=>?_)
 ·obtain ⟨a,d,rfl,_⟩:=h;rfl
 ·obtain ⟨a,d,rfl,hq,hn,q⟩:=h;refine ⟨_,(aR (aW Z1 rfl (fZ (aA Ij (aO (ah ab (ah ab aa))) (jq eZ (pv 0) jA (iT ab)))) (cZ (i:=1) eI.nd rfl (O1 rfl))
   (aR (ar (i:=2) eI.nd rfl (O1 rfl) (aj c0 (x.mono (by decide)) rfl (ah (pv 1) aa)))
   (aR (fH (aj c1 (x.mono (by decide)) rfl (ah (pv 2) (ah ab aa))) (bx rfl (cK (cZ (i:=3) eI.nd rfl (O1 rfl)) (cK (cZ (i:=4) eI.nd rfl (O1 rfl)) (cK (cZ (i:=5) eI.nd rfl (O1 rfl)) f_)))))
   (aR (aW Z1 rfl (kX rfl (T.no (i_ _)) (ah (aj c2 (x.mono (by decide)) rfl (ah (pv 2) (ah ab aa))) aa)) (cZ (i:=6) eI.nd rfl (O1 rfl))
   (aV (gv (aj c3 (x.mono (by decide)) rfl (ah (pv 2) (ah (pv 3) (ah (pv 4) aa)))))))
   (aV (aQ (PW.pt (dq (bE (bz (aj c4 (x.mono (by decide)) rfl (ah (pv 3) (ah (pv 4) (ah cG aa)))) (λ _=>rfl))) (di (bE (bz (aj c4 (x.mono (by decide)) rfl (ah (pv 3) (ah (pv 4) (ah cG aa)))) (λ _=>rfl))))))
   (aV (au cG))
   dI))))))
   (aV (au cG))),?_⟩
  refine ⟨gp,λ O h0=>?_⟩;have s0:=Same.upd (o:=.lst [V.int 0,.int 3]) h0;refine ⟨_,rfl,_,rfl,.inl ⟨a,_,rfl,s0.seq hq,λ p hp=>?_⟩⟩;have sp:=Same.upd (o:=.lst (cj (d.map V.int) none (some 10))) hp;have lc:(cj (d.map V.int) none (some 10)).length<=63:=by
   unfold cj;refine M0 (j34 _ _) ?_;rw [P3,q0]
   lia
  refine ⟨O,p,_,_,rfl,rfl,av.of (sp _ _ aB),av.of aB,M0 (m:=65) (by rw [W0,W0,v6];lia) (by decide),λ C h2=>?_⟩;have n:=Same.upd (o:=.lst ([V.int 0,.int 3]++cj (d.map V.int) none (some 10))) h2;have N:upd (upd (upd H O (.lst [V.int 0,.int 3])) p (.lst (cj (d.map V.int) none (some 10)))) C (.lst ([V.int 0,.int 3]++cj (d.map V.int) none (some 10))) C=some (.lst ([V.int 0,.int 3]++cj (d.map V.int) none (some 10))):=aB;have a0 :∀y∈[V.int 0,.int 3]++cj (d.map V.int) none (some 10),∃c:Int,y=.int c:=λ y X=>by
   rcases List.mem_append.mp X with z|z
   ·rcases List.mem_cons.mp z with z|z
    ·exact ⟨_,z⟩
    ·exact ⟨_,List.mem_singleton.mp z⟩
   ·obtain ⟨c,_,e⟩:=List.mem_map.mp (FL z);exact ⟨c,e.symm⟩
  generalize [V.int 0,.int 3]++cj (d.map V.int) none (some 10)=xs at n N a0⊢;generalize upd (upd (upd H O _) p _) C (.lst xs)=H2 at N⊢;clear s0 sp n;refine ⟨C,rfl,⟨_,av.of N⟩,?_⟩;refine oo (K:=KX w.params) (a:=C) (xs:=xs) (λ i σ L=>Same H2 L/\(E6 λ U Y x3 W Z g=>σ=[some (.ref a),U,Y,x3,W,Z,g])) ⟨Same.refl _,_,_,_,_,_,_,rfl⟩ (λ i σ L _ z=>av.of (z.1 _ _ N)) ?_ ?_
  ·rintro i y σ B X ⟨s1,U,Y,x3,W,Z,g,rfl⟩;obtain ⟨c,rfl⟩:=a0 y (K0 X);refine ai ?_;refine cy ?_;refine ⟨_,rfl,c,rfl,λ r ja jb J R=>ai ?_⟩;have n:=Same.upd (o:=.lst [.int ja,.int jb]) J;generalize upd B r (.lst [.int ja,.int jb])=H3 at n R⊢;refine cy ?_;refine ⟨_,rfl,r,rfl,R,λ t f v u us ds a3 b3 ts H0 H3 kp S et a1 a9 al D G eu=>?_⟩;refine ⟨t,_,rfl,aG.of (D.sm _ _ et),rfl,_,_,rfl,_,_,rfl,_,_,rfl,rfl,?_⟩;have k0:Same B H0:=λ b o e=>kp b o (bZ e J) (n _ _ e);have b2:B f=none:=n.free a1;have a2:f≠r:=R.fresh a1;refine ⟨_,rfl,r,4,rfl,S.same D.sm,by decide,by decide,λ t4 H4 k4 b0 b1=>⟨t4,rfl,by lia,by lia,?_⟩⟩;obtain ⟨b6,I,D4⟩:=D.draw S k4;refine pH (λ j σ L=>(∃H0' us' ds' rows' kvs',Same B H0'/\aZ H0' r/\H0' f=some (.lst us')/\af (bJ H0') ds' us'/\bV H0' L v rows' kvs'/\Gs ds' rows')/\(∃g,σ=[some (.ref a),some (.int c),some (.ref r),some (.ref f),some (.ref v),some (.ref u),g])) ⟨⟨b6,us,ds,a3,b3,λ b o e=>I.k _ _ (bZ e J) (k0 _ _ e),I.r,I.k _ _ a2 a9,bp (λ _ _ z=>bJ.tk (I.tupk S) z) al,D4,G⟩,_,rfl⟩ ?_ ?_
   ·rintro j σ H5 hj ⟨⟨H05,us5,ds5,rows5,kvs5,k5,R5,ela5,al5,D5,G5⟩,g,rfl⟩;refine ai ?_;refine ⟨_,rfl,_,rfl,_,rfl,r,f,v,us5,ds5,rows5,kvs5,H05,rfl,R5,ela5,a2,al5,D5,G5,λ a8 b4 b5 a6 a7 H6 a5 R6 a4 M D6 G6=>?_⟩;exact ⟨⟨a7,a8,b4,b5,a6,λ b o e=>a5 b o (bZ e J) (bZ e b2) (k5 _ _ e),R6,a4,M,D6,G6⟩,_,rfl⟩
   ·rintro σ H5 ⟨⟨H05,us5,ds5,rows5,kvs5,k5,R5,ela5,al5,D5,G5⟩,g,rfl⟩;have M:af (bJ H5) ds5 us5:=bp (λ _ _ z=>z.same D5.sm) al5;have V5:eA H5 v rows5 kvs5:=⟨D5.at',bp (λ _ _ z=>⟨z.1,z.2.elim λ l y=>⟨l,y.1,y.2.2⟩⟩) D5.al,D5.nk⟩
    refine cB (oh (gc ?_));refine gO ⟨_,rfl,_,rfl,f,v,us5,ds5,rows5,kvs5,false,rfl,D5.sm _ _ ela5,M,V5,G5.gd,G5.inv.uw,G5.inv,G5.l12,λ H6 F=>?_⟩;refine ⟨_,rfl,bc (by decide) ?_⟩;refine gO ⟨_,rfl,_,rfl,f,v,us5,ds5,rows5,kvs5,true,rfl,F _ _ (D5.sm _ _ ela5),bp (λ _ _ z=>z.same F) M,V5.same F,G5.gd,G5.inv.uw,G5.inv,G5.l12,λ H7 s7=>?_⟩;refine ⟨_,rfl,bc (by decide) ?_⟩;exact ⟨s1.trans λ b o e=>s7 _ _ (F _ _ (D5.sm _ _ (k5 _ _ e))),_,_,_,_,_,_,rfl⟩
  ·rintro σ B ⟨s1,U,Y,x3,W,Z,g,rfl⟩;exact q _
end
def all_law {P:ZK} {w:U1} {mg:ZR->Option ZH} {base:ZN} (T:TX (kx w) mg):Fo P w mg base CX0 10 301 fd_law ["script"] (sp_law (kx w)):=by have m:=@nN P w (kx w) mg base;have d:=m T (w_ _) (EE _) (Gj _) (Eh T );have q:=m T (uF _) (Gz _) (IE _) (Em T d);have f:=m T (ui _) (Jy _) (Ky _) (JL T q);have c:=m T (xp _) (Ha _) (Ex _) (FQ T );have g:=m T (wg _) (FN _) (JR _) (zev T );have u:=m T (uJ _) (Gq _) (Hm _) (Fe T c g f);have Q:=m T (uO _) (Fq _) (KA _) (Ho T c d u);have K:=m T (vH _) (Hg _) (KY _) (EO T g f);have x:=m T (uj _) (JV _) (Iz _) (IB T );have o:=m T (wZ _) (HZ _) (Jo _) (KO T );have l:=m T (xa _) (Fx _) (Et _) (DK T o x);have O:=m T (xD _) (GG _) (KL _) (FO T Q K l);have b:=m T (uS _) (F_ _) (JC _) (FS T );have z:=m T (vn _) (IS _) (IW _) (EW T );have j:=m T (uY _) (Fl _) (HD _) (EC T b);have D:=m T (uu _) (Ed _) (Jf _) (Hx T b j);have N:=m T (wx _) (HN _) (HR _) (GL T b j z);have B:=m T (vR _) (DC _) (Ea _) (Jd T );have e:=m T (tX _) (DQ _) (Jg _) (J_ T O D N B);have A:=m T (vx _) (Il _) (DE _) (IF T );have a:=m T (xN _) (Io _) (Ge _) (FY T );have L:=m T (wR _) (Hn _) (Gc _) (HK T a);have r:=m T (xF _) (Ff _) (FC _) (Fj T a);have I:=m T (uI _) (KJ _) (GF _) (KU T a);have p:=m T (xw _) (FA _) (Jx _) (FU T a L r I);have E:=m T (vF _) (Ek _) (Jh _) (Dr T );have n:=m T (xV _) (Dz _) (Fh _) (HB T a);have H:=m T (vK _) (FV _) (ET _) (Fn T a n E);have F:=m T (uD _) (J4 _) (FX _) (Eu T );have h:=m T (xB _) (IY _) (Ec _) (Dv T b F);have t:=m T (wC _) (La _) (Ia _) (JD T );have G:=m T (xc _) (Hj _) (I_ _) (GA T e h t);have s:=m T (vp _) (Hy _) (IL _) (Hq T );have i:=m T (xI _) (JG _) (Fd _) (EK T d);have k:=m T (vj _) (DT _) (Ee _) (II T i s);have J:=m T (xx _) (Jz _) (KB _) (Gx T );have M:=m T (vr _) (Ko _) (JY _) (Fv T e h c i k J);have v:=m T (xh _) (JK _) (Jm _) (Fz T );have y:=m T (vI _) (FR _) (Gp _) (JU T );have C:=m T (wa _) (Ie _) (HU _) (GU T G y v M);exact o3 T A p a H C
end K42
set_option maxRecDepth 100000 in
set_option maxHeartbeats 0 in
theorem PySem.Challenge.cw_talejudge_k42_whole_by_all_orders_holds : PySem.Challenge.rw_talejudge_k42_whole_by_all_orders.Holds := by
 w_on;o_law
 refine holds_open (q:=K42.viewX) (loose:=K42.looseX) (Xt:=K42.XtX) (XP:=XL K42.viewX []) (Yf:=Hook.obs K42.HX) (Ya:=Hook.val K42.HX) (YP:=Hook.says K42.HX) (N:=200000) K42.leftX (Hook.of K42.HX) (Hook.keeps K42.HX) (λ s e=>xl_of s (Bool.and_eq_true_iff.mp e).1) XL.keeps (by rfl) (by rfl) (by rfl) (λ s e=>recFacts_of (Bool.and_eq_true_iff.mp e).2) (by rfl) (by assumption) (by decide +kernel) ⟨rfl,rfl,rfl,rfl,rfl,by decide +kernel⟩ ?hw ?hc
 case hw=>w_witness2
 case hc=>
  refine L2.walk_of (l:=PySem.Challenge.rw_talejudge_k42_whole_by_all_orders) (n:=63) (k:=10) (x:="script") (K:=K42.KX) (CX:=λ _=>L2.CX0) (sp:=λ w=>K42.sp_law (K42.KX w.params)) rfl (by decide) rfl ⟨rfl,by decide,by decide,rfl⟩ (λ w h Y=>PySem.W.kIn_of Y) ?F ?S ?C
  case F=>intro w m r h KX G b;have T:=L2.TX.mk' KX G;have d:=b.symm.trans (T.of (K42.g_law _));cases d;exact ⟨K42.fd_law,λ s u=>.of_eq rfl,λ j i o=>K42.all_law T⟩
  case S=>exact λ w H a f g p c=>⟨a,f,rfl,c,g,λ _=>rfl⟩
  case C=>exact λ _ _ _ _ _ z=>z
