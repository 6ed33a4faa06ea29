import PyProof.Rows.All
import Wide.All
import OpenK.AllK
import Wide.FinOn
import Lean
import PyProof.EqAt
import PyProof.EqKinds
import PyProof.TupleCall
import Open.Tops
import KE.KIntText
import PyProof.ZipIter
import PyProof.ReprRoads
import PyProof.Draws
import KE.KDictSum
import KE.KSortedM
import OpenK.KRaise
import OpenK.KOwn
import PyProof.ExcBaseAll.ValueError
import KE.KTryMore
import PyProof.NsDelKeeps
import KE.KDictOf
import KE.KEqDict
import PyProof.DictWalks
import PyProof.TupleKey
import PyProof.MinMaxWalk
import KE.KSortTup
import PyProof.StrWalks
import KE.KRevIter
import KE.KListMore
import PyProof.StrLawsTight
import PyProof.StrLawsChain
import PySem.Challenge.RW_talejudge_k65_whole_strict_by_parts
open PySem.W renaming Frag->b0,kia_one->E3,keepIn->Q3,findIn->R3,instObj->F4,fnOf->C6,kas_item->R6,nsIn->B7,callWith_K->L7,plainGet->t8,lookIn->z9,codeIn->A9,plainGet_of->P9,methodObj->j0a,hasDictIn->j0b,takerIn->j1e,isFn->j39,cellsFrom_some->j3a,kas_swaps_map->j3h,kdu_collect->j4e,specialIn->j5c,plainOver->j5d,kitx_list->j5e,kitx_dict->j5f
open PySem.PyData renaming keyHash->c0,depthAll->Y1,canLayAll0->d8,strOk->O8,depth->j3j
open PySem renaming wpAny_bind->d0,Shared->A0,wpAny_pure->L0,Params->Q0,World->U0,wpAny->V0,model->F1,starEach->N1,reduceHash->P1,Around->B2,compareOp->V2,OsState->Y2,sliceBounds->Z2,wpAny_call_entry->B3,wpAny_mono->G3,wpAny_newObj_type->J3,mainGlobals->K3,treeTable->M3,eval->O3,sysModules->P3,attributeBase->u4,backTo->J4,eqIsQuiet->P4,wpAny_truthy_bool->R4,boot_len->S4,wpAny_holding->Z4,wpAny_callSpecial?_slot->u5,binaryOp->z5,wpAny_typeNameOfWhole_keyiter->E5,wpAny_passesOwn->V5,foldedSetIterable->Z5,mem_of_lookup->j6,NameKind->u6,Keyword->A6,wpAny_pyIter_tuple->P6,wpAny_Call_Name_kw->Q6,tupleKind->U6,keywordEach->V6,placesWithHash->d7,swapsWith->K7,wpAny_field->P7,callSpecialIfBoundUnlessNone?->Q7,ReadsAll->S7,importedModules->b8,bootBuiltins->n8,tupleKind_room_in1->K8,Fin->M8,wpAny_pyIter_enum->W8,relabel->X8,behindInMarks->j9,wpAny_isInstance->M9,backToKw->N9,atKey->O9,wpAny_typeOf->W9,strKind_is->X9,assignEach->Z9,Paired->j00,wpAny_execs_nil->j03,typeNameOfWhole->j04,letOwnedTupleGo->j05,wpAny_setField->j10,richCompare->j11,firstArgMember->j12,valueAt->j14,getItem->j15,codeAny->j16,Builtin->j1c,wpAny_newList->j1h,wpAny_tupleItemsOf->j23,IsPart->j26,wpAny_pyIter_list->j2c,wpAny_dictEntries->j2d,holding->j2e,codeAny_mono->j2f,callerA->j2g,rawInt->j37,noFill_tuple_add->j38,subscripted->j3d,wpAny_specialOf->j43,wpAny_dictEpoch->j44,Within->j46,standAt->j4c,wpAny_seqItems->j4j,wpAny_letOwnedTupleGo_enum->j50,pyNext->j54,call_meets->j55,Thread->j58
open PySem.Builtin.Tuple renaming tupleHashOf->o0,tupleExact->N5
open List renaming not_mem_nil->t0,getElem?_eq_getElem->B0,length_map->C0,length_append->G0,mem_of_getElem?->K0,getElem?_map->M0,size_toArray->N0,length_cons->P0,mem_cons_self->R0,mem_cons_of_mem->W0,map_append->u1,range->B1,map_cons->C1,mem_cons->K1,getElem?_append_right->L1,append_assoc->O1,mem_append_right->Q1,replicate->X1,getElem?_append_left->A2,append_nil->D2,forall_mem_cons->E2,length_range->F2,getElem?_cons_succ->G2,take_append_drop->N2,filter_cons_of_pos->O2,filter_cons_of_neg->P2,extract_eq_take_drop->Q2,length_filter_le->U2,getElem?_modify->W2,getElem?_cons_zero->d3,getD_eq_getElem?_getD->m3,map_map->v3,length_take->A3,perm_append_comm->F3,filter_append->N3,take_of_length_le->S3,drop_eq_getElem_cons->U3,length_replicate->W3,forIn_cons->A4,dropLast_concat_getLast->B4,getElem?_eq_none->E4,find?_cons->K4,take_succ_eq_append_getElem->M4,lookup_cons->U4,length_drop->V4,forIn_nil->X4,filter_cons->Y4,length_modify->n5,nodup_append->K5,map_nil->c6,getElem_mem->i6,set_eq_take_append_cons_drop->F6,getElem?_set_self->M6,drop_zero->N6,take_length->Y6,ext_getElem->Z6,any_eq_true->b7,all_eq_true->c7,take_append_of_le_length->o7,mem_append_left->z7,lookup->A7,range_succ->E7,length_nil->F7,zip_cons_cons->U7,take_zero->V7,getElem?_drop->W7,drop_drop->X7,take_add_one->z8,length->A8,getElem?_inj->B8,ext_getElem?->C8,length_filterMap_le->E8,filterMap_cons_some->F8,any_cons->G8,getElem?_replicate->P8,of_mem_zip->C9,getElem?_toArray->G9,getElem?_set_ne->U9,getElem?_range->j08,filterMap_cons->j09,getElem_range->j0i,reverse_perm->j18,foldl_append->j19,filter_congr->j1a,getElem_map->j20,drop->j21,exists_mem_of_length_pos->j25,length_set->j27,foldl_cons->j28,filter_map->j29,tail_drop->j34,filterMap_cons_none->j40,pairwise_singleton->j49,pairwise_mergeSort->j4a,any_map->j4g,filterMap_append->j5a,mem_of_mem_take->j5h,length_dropLast->j5i,dropLast_concat->j5j
open Nat renaming le_refl->u0,le_trans->D0,ne_of_lt->G1,lt_of_lt_of_le->J1,zero_le->S1,lt_of_le_of_lt->T1,lt_succ_of_lt->K2,lt_succ_self->S2,le_succ->C3,le_of_lt->T3,ne_of_gt->X3,lt_irrefl->Y3,exists_eq_succ_of_ne_zero->o4,not_lt_zero->L4,zero_add->A5,le_succ_of_le->S5,le_of_eq->m6,succ_le_succ->i7,mul_le_mul_right->C7,min_eq_left->M7,max_eq_right->U8,sub_self->B9,min_le_left->F9,mul_le_mul->j01,add_assoc->j0h,add_sub_cancel->j13,add_zero->j1f,le_of_not_lt->j24,add_sub_cancel_left->j4f
open PySem.Heap renaming get?_push_of_some->F0,lt_size->S0,get?_push_size->Z0,size_push->D4,SameBut->O6,get?_update_other->Z8,get?_update_self->K9
open Bool renaming false_ne_true->O0,and_eq_true->J2,false_eq_true->u3,not_true->z6,false_and->Y7,and_false->Z7,true_and->j0g,not_eq_true->j22,false_or->j42
open Or renaming inr->X0,inl->Y0
open Option.some renaming inj->A1
open PySem.Value renaming ref->E1,bool->N4,str->X6,type->R7,isStrOf->o8,int->L8,float->j57
open Array renaming length_toList->R1,getElem?_eq_getElem->V1,toList_append->C2,toList_extract->i3,size_map->Z3,getElem?_toList->C5,toList_push->L6,getElem_mem->m8,toList_reverse->S9,map->j1g,getElem?_eq_none->j4b,getElem_toList->j5b
open PySem.PassesOwn renaming never->U1
open Pure renaming pure->W1,pure->j47
open PySem.NameKind renaming free->Z1
open ForInStep renaming yield->T2,done->V8
open List.Perm renaming append_left->X2,append_right->T4
open PyProof.Rows renaming pendingOf->V3,callWith_type1->i4,boot_tuple->G4,boot_isinstance->Q4,elem'->W6,seqObj->a8,boot_sorted->Y8,AllBare->d9,reverseSlice'->g9,slot_tuple_getitem->Q9,envOfC->Y9,IntsAre->j02,subscriptTail->j1i,listUpdate_at->j1j,entry_list_sort->j45,StrsAre->j4d,wpS_pure->j4h,wpS_bind->j4i,tail_any->j51,slot_list_sort->j52,setPending->j53,args_list_sort->j56,Subscript_->j59
open False renaming elim->y4
open Ne renaming symm->C4
open PySem.F renaming plainAttrs_list->O4,slot_dict_keyiterator_next->L5,slot_tuple_iterator_next->o6,args_tuple_add_2->c8,entry_tuple_add->u8,slot_tuple_add->N8,slot_dict_get->R8,type_list_extend->j2h,slot_list_extend->j2i,args_dict_keyiterator_next_1->j2j,plainAttrs_dict->j31,args_dict_get_3->j32,entry_dict_keyiterator_next->j36,entry_dict_get->j3b,args_tuple_iterator_next_1->j3c,slot_dict_pop->j3i,entry_tuple_iterator_next->j41
open PySem.Builtin.SmallTypes renaming nextOf->c5,ownedTupleFields->o5
open PySem.Builtin.Slice renaming slicePlaces->B5,sliceAdjust->m7,sliceApplied->j0d
open ForIn renaming forIn->F5
open PySem.Heap.SameBut renaming update->G5
open Classical renaming choose->M5,propDecidable->r6,choose_spec->G6
open PySem.W.Fast renaming tw16697807410369149715->O5,tw13926502685295537346->P5,tw13383273872528276517->Q5,te14364793385576792824->R5,tw4214721358667687652->X5,tw14364793385576792824->Q8
open Decidable renaming byContradiction->U5
open PySem.Obj renaming mapSeq->Y5,mapDictKeys->E9,mapFields->j48
open PyProof.Rows.SortSt renaming mk'->y6
open PySem.Calls renaming spliced_cons->B6,callWith_builtin->K6,call_function_entry->i8,spliced_nil->j8,evalArgs_plain->R9,Name_function_global->j30
open Int renaming emod_lt_of_pos->E6,toNat_natCast->S6,emod_nonneg->N7,zero_add->D9,le_refl->j2a
open PySem.Builtin.List renaming listTooLong->G7,listLengthHint->j0e,listExtendWith->j0f
open PySem.Builtin.Dict renaming notOrdered->O7
open Option renaming isSome_map->g8,map_some->S8,toList_none->j06,map->j07,getD_some->j17
open PySem.Builtin.Dict_items renaming ownsTuple->c9,isOneOf->L9,slot0->V9
open Sum.inr renaming inj->m9
open Sum.inl renaming inj->o9
open PySem.Str renaming ofString->u9
open PUnit renaming unit->j0c
open PySem.Around renaming under->j0j
open PySem.Code renaming isFrame->j1b,frames->j61
open PySem.SeqAt renaming eqAt_reads->j1d
open PySem.Heap.IsSliceOf renaming new->j2b
open PySem.Paired renaming length->j33
open List.Pairwise renaming nil->j35
open PySem.SeqAt.EqAt renaming str_str->j3e,str_int->j3f,int_str->j3g
open Prod renaming ext->j5g
open PySem.Data renaming fields->j60
open PySem renaming Addr->ZS,Str->ZR,Obj->ZQ,Pos->ZP,Sem->ZO,Expr->ZN,Heap->ZM,Stmt->ZL,PyData->ZK,Program->ZJ,FuncData->ZI,DictEntry->ZH,Value->ZG,sizeLine->ZF,cLine->ZE,Scope->ZD
open PyProof.Rows renaming Keyed->ZC,SortSt->ZA
set_option maxRecDepth 100000
set_option maxHeartbeats 0
namespace PySem.W.Fast
noncomputable def tw9413334640842590828:=0
noncomputable def tw3684105976920679101:=0
noncomputable def tw18123248931786946713:=0
noncomputable def tw15497367393316078824:=0
noncomputable def tw8151099208384199603:=0
noncomputable def tw4695131524317808543:=0
noncomputable def tw12227505933818199389:=0
noncomputable def tw2032024524019625231:=0
noncomputable def tw15757335396796429906:=0
noncomputable def tw418079316756873214:=0
noncomputable def tw14860355672492398166:=0
noncomputable def tw18378088350073307531:=0
noncomputable def tw16107749084415438959:=0
noncomputable def tw19119268673597141:=0
noncomputable def tw12125990383827509654:=0
noncomputable def tw5624477137107999385:=0
noncomputable def tw15497370759974365960:=0
end PySem.W.Fast
namespace K65
open_shared pre for PySem.Challenge.pw_talejudge_k65_whole_strict_by_parts leaving 46
end K65
-- CHANGE: your row's module here,as the last of these rows
set_option Elab.async false
set_option linter.all false
namespace L2
open PySem PySem.Spec PyProof.Rows
noncomputable abbrev Key:=Sum Int ZR
noncomputable def hJ:Key->ZG->Bool
 | .inl k,v=>Value.isInt k v
 | .inr x,v=>o8 x v
noncomputable def zV (w:U0):Key->Int
 | .inl k=>hashInt k
 | .inr x=>hashStr w x
theorem nF:∀{k:Key} {v:ZG},hJ k v=true->(∃i t,k=Sum.inl i/\v=L8 i t)\/(∃x t,k=Sum.inr x/\v=X6 x t)
 | .inl i,v,h=>by obtain ⟨t,e⟩:=Value.isInt_shape (k:=i) (v:=v) h;exact .inl ⟨i,t,rfl,e⟩
 | .inr x,v,h=>by obtain ⟨t,e⟩:=Value.isStrOf_shape (x:=x) (v:=v) h;exact .inr ⟨x,t,rfl,e⟩
def Og (i:Int) (t:Tok):hJ (.inl i) (.int i t)=true:=by simp [hJ,Value.isInt]
def Mu (x:ZR) (t:Tok):hJ (.inr x) (.str x t)=true:=by simp [hJ,o8]
def rZ (a b:Int):decide ((Sum.inl a:Key)=Sum.inl b)=(a == b):=by
 by_cases e:a=b
 ·subst e;simp
 ·have h:¬ (Sum.inl a:Key)=Sum.inl b:=λ q=>e (o9 q);rw [decide_eq_false h];exact (beq_eq_false_iff_ne.mpr e).symm
def rk (a b:ZR):decide ((Sum.inr a:Key)=Sum.inr b)=decide (a=b):=by
 by_cases e:a=b
 ·subst e;simp
 ·have h:¬ (Sum.inr a:Key)=Sum.inr b:=λ q=>e (m9 q);rw [decide_eq_false h,decide_eq_false e]
def qE (a:Int) (b:ZR):decide ((Sum.inl a:Key)=Sum.inr b)=false:=decide_eq_false (λ q=>nomatch q)
def sA (a:ZR) (b:Int):decide ((Sum.inr a:Key)=Sum.inl b)=false:=decide_eq_false (λ q=>nomatch q)
noncomputable def jm (prog:ZJ) (w:U0):PySem.KeyKind prog w Key where
 is:=hJ
 hash:=zV w
 inj:=λ v a b ha hb=>by
  rcases nF ha with ⟨i,t,rfl,rfl⟩|⟨x,t,rfl,rfl⟩
  ·rcases nF hb with ⟨j,u,rfl,e⟩|⟨y,u,rfl,e⟩
   ·injection e with e1 _;rw [e1]
   ·exact nomatch e
  ·rcases nF hb with ⟨j,u,rfl,e⟩|⟨y,u,rfl,e⟩
   ·exact nomatch e
   ·injection e with e1 _;rw [e1]
 byValue:=λ k v h=>by rcases nF h with ⟨i,t,rfl,rfl⟩|⟨x,t,rfl,rfl⟩<;>rfl
 pyHash:=λ hv h=>by
  rcases nF hv with ⟨i,t,rfl,rfl⟩|⟨x,t,rfl,rfl⟩
  ·exact wpAny_pyHash_int h
  ·exact wpAny_pyHash_str h
 eqBool:=λ hu hv h=>by
  rcases nF hu with ⟨i,t,rfl,rfl⟩|⟨x,t,rfl,rfl⟩
  ·rcases nF hv with ⟨j,u,rfl,rfl⟩|⟨y,u,rfl,rfl⟩
   ·rw [rZ] at h;exact wpAny_eqBool_int h
   ·rw [qE] at h;exact j3g i t y u _ _ _ _ h
  ·rcases nF hv with ⟨j,u,rfl,rfl⟩|⟨y,u,rfl,rfl⟩
   ·rw [sA] at h;exact j3f x t j u _ _ _ _ h
   ·rw [rk] at h;exact wpAny_eqBool_str h
 «strs»:=λ k x t v h=>by
  rcases nF h with ⟨i,u,rfl,e⟩|⟨y,u,rfl,e⟩
  ·exact nomatch e
  ·injection e with e1 _;subst e1;cases v<;>rfl
def Nn (prog:ZJ) (w:U0) (i:Int) (t:Tok):(jm prog w).is (.inl i) (.int i t)=true:=Og i t
def J_ (prog:ZJ) (w:U0) (x:ZR) (t:Tok):(jm prog w).is (.inr x) (.str x t)=true:=Mu x t
inductive V where
 | non|bl (b:Bool)|int (i:Int)|str (x:ZR)|byt (b:Array UInt8)|flt (b:UInt64)|ref (a:ZS)|ty (n:String)
 deriving DecidableEq
noncomputable def RelV:V->ZG->Prop
 | .non,u=>u=Value.none
 | .bl b,u=>u=N4 b
 | .int i,u=>∃t,u=L8 i t
 | .str x,u=>∃t,u=X6 x t
 | .byt b,u=>∃t,u=Value.bytes b t
 | .flt b,u=>∃t,u=j57 b t
 | .ref a,u=>u=E1 a
 | .ty n,u=>u=R7 n
abbrev aJ:List V->List ZG->Prop:=j00 RelV
variable {us:List ZG} {xs:List V}
def aJ.length (r:aJ xs us):xs.length=us.length:=j33 r
theorem aJ.get:∀{xs:List V} {us:List ZG} {i:Nat} {x:V},aJ xs us->xs[i]? = some x->∃u,us[i]? = some u/\RelV x u
 | _,_,_,_,.nil,e=>by simp at e
 | _,_,0,_,.cons r _,e=>by simp at e;subst e;exact ⟨_,rfl,r⟩
 | _,_,i + 1,x,.cons _ t,e=>by obtain ⟨u,b,a⟩:=aJ.get (i:=i) (x:=x) t (by simpa using e);exact ⟨u,by simpa using b,a⟩
variable {u:ZG}
theorem aJ.set {x:V} (r:RelV x u) :∀{xs:List V} {us:List ZG} (i:Nat),aJ xs us->aJ (xs.set i x) (us.set i u)
 | _,_,_,.nil=>.nil
 | _,_,0,.cons _ t=>.cons r t
 | _,_,i + 1,.cons q t=>.cons q (aJ.set r i t)
theorem aJ.append:∀{xs ys:List V} {us ws:List ZG},aJ xs us->aJ ys ws->aJ (xs++ys) (us++ws)
 | _,_,_,_,.nil,s=>s
 | _,_,_,_,.cons r t,s=>.cons r (aJ.append t s)
theorem aJ.take:∀{xs:List V} {us:List ZG} (n:Nat),aJ xs us->aJ (xs.take n) (us.take n)
 | _,_,0,_=>.nil
 | _,_,_ + 1,.nil=>.nil
 | _,_,n + 1,.cons r t=>.cons r (aJ.take n t)
theorem aJ.drop:∀{xs:List V} {us:List ZG} (n:Nat),aJ xs us->aJ (xs.drop n) (us.drop n)
 | _,_,0,r=>r
 | _,_,_ + 1,.nil=>.nil
 | _,_,n + 1,.cons _ t=>aJ.drop n t
noncomputable def de:Option V->Option ZG->Prop
 | some v,some u=>RelV v u
 | none,none=>True
 | _,_=>False
def KV {κ:Type}:List (κ×V)->List (κ×ZG)->Prop:=j00 λ (p:κ×V) (q:κ×ZG)=>p.1=q.1/\RelV p.2 q.2
noncomputable def kV:Key->V
 | .inl i=>.int i
 | .inr x=>.str x
inductive HO where
 | lst (xs:List V)
 | tup (xs:List V)
 | dK (kvs:List (Key×V))|dT (kvs:List (List Key×V))
 | set (S:Int->Bool) (n:Nat)
 | ins (C dx:ZS) (fs:List (ZR×V))
 | own (x:ZS)
 | xd (fs:List (ZR×V))
 | met (f x:ZS)
 | rng (lo hi:Int)
 | frz (o:ZQ) (u:HO)
 | tbl (ps:Array ZG)
 | ext (φ:ZM->Prop)
noncomputable abbrev Hp:=ZS->Option HO
noncomputable def upd (H:Hp) (a:ZS) (o:HO):Hp:=λ b=>if b=a then some o else H b
variable {H:Hp} {a:ZS} {o:HO}
def ab:upd H a o a=some o:=by unfold upd;rw [if_pos rfl]
variable {b:ZS}
def ak (h:b≠a):upd H a o b=H b:=by unfold upd;rw [if_neg h]
def iy {u:HO} (h:H a=some o) (h':H b=some u) (d:o≠u):a≠b:=by intro e;subst e;rw [h] at h';exact d (A1 h')
def fM (h:H a=some o) (h':H b=none):a≠b:=by intro e;subst e;rw [h] at h';cases h'
section
variable (P:ZJ) (w:U0)
def gg (h:ZM) (a:ZS) (items:Array ZG):Prop:=IsTup h a items/\∃o,h.get? a=some o/\o.dict=none
def gg.new (h:ZM) (items:Array ZG):gg (h.push { cls:=.type "tuple",data:=.seq items }) h.objs.size items:=⟨IsTup.new _ _,_,Z0 _ rfl,rfl⟩
noncomputable def br (H:Hp) (h:ZM) (a:ZS):HO->Prop
 | .lst xs=>xs.length<=ZF/\∃(its:List ZG) (n:Nat),aJ xs its/\h.get? a=some { cls:=.type "list",data:=.seq its.toArray n }
 | .tup xs=>xs.length<=ZF/\∃its:List ZG,aJ xs its/\gg h a its.toArray
 | .dK kvs=>kvs.length<=ZF/\(a == P3)=false/\∃vs,KV kvs vs/\h.DictOf (jm P w) a vs
 | .dT kvs=>kvs.length<=ZF/\(a == P3)=false/\∃xs:List (List Key×ZS×ZG),
   j00 (λ (p:List Key×V) (q:List Key×ZS×ZG)=>p.1=q.1/\H q.2.1=some (.tup (p.1.map kV))/\RelV p.2 q.2.2) kvs xs/\
   ∃o es ep,h.get? a=some o/\o.ExactDict/\o.data=.dict es ep/\es.toList=xs.map (entryOfKey (U6 (jm P w)))/\(xs.map (·.1)).Nodup
 | .set S n=>h.SetOf (intKind P w) a S n
 | .ins C dx fs=>H dx=some (.own a)/\fs.length<=1000/\dx≠a/\h.get? a=some (F4 C dx)/\
   ∃mA,h.Ns1 dx mA/\(∀f,de (fs.lookup f) (mA f))/\j46 mA (fs.map (·.1))
 | .own _=>∃o,h.get? a=some o
 | .xd fs=>∃mA,h.Ns1 a mA/\∀f,de (fs.lookup f) (mA f)
 | .rng lo hi=>∃t u v,h.get? a=some { cls:=.type "range",data:=.fields #[.int lo t,.int hi u,.int 1 v] }
 | .frz o u=>h.get? a=some o/\br H h a u
 | .tbl ps=>h.get? a=some { cls:=.none,data:=.fields ps }
 | .met f x=>h.get? a=some (j0a (.ref f) (.ref x))
 | .ext φ=>φ h/\(∃o,h.get? a=some o)/\∀h1 h2:ZM,φ h1->(∀o,h1.get? a=some o->h2.get? a=some o)->φ h2
def fN (H:Hp) (h:ZM):Prop:=∀a o,H a=some o->br P w H h a o
end
variable {H':Hp} {P:ZJ} {h h':ZM} {w:U0}
section
def br.lt (x:br P w H h a o):a < h.objs.size:=by
 cases o with
 | lst xs=>obtain ⟨_,_,_,_,e⟩:=x;exact S0 e
 | tup xs=>obtain ⟨_,_,_,p⟩:=x;exact p.1.lt
 | dK kvs=>obtain ⟨_,_,_,_,o,_,_,e,_⟩:=x;exact S0 e
 | dT kvs=>obtain ⟨_,_,_,_,o,_,_,e,_⟩:=x;exact S0 e
 | set S n=>obtain ⟨o,_,_,_,e,_⟩:=x;exact S0 e
 | ins C dx fs=>obtain ⟨_,_,_,e,_⟩:=x;exact S0 e
 | own y=>obtain ⟨_,e⟩:=x;exact S0 e
 | xd fs=>obtain ⟨_,⟨_,_,_,e,_⟩,_⟩:=x;exact S0 e
 | rng lo hi=>obtain ⟨_,_,_,e⟩:=x;exact S0 e
 | frz ob u=>obtain ⟨e,_⟩:=x;exact S0 e
 | tbl ps=>exact S0 (show h.get? a=some _ from x)
 | met f y=>exact S0 (show h.get? a=some _ from x)
 | ext φ=>obtain ⟨_,⟨_,e⟩,_⟩:=x;exact S0 e
theorem Paired.mapP {α β:Type} {F G:α->β->Prop} :∀{l₁:List α} {l₂:List β},j00 F l₁ l₂->(∀a b,F a b->G a b)->j00 G l₁ l₂
 | _,_,.nil,_=>.nil
 | _,_,.cons r t,f=>.cons (f _ _ r) (Paired.mapP t f)
def br.stay (x:br P w H h a o) (k :∀b u,(b=a\/H b=some (.own a))->h.get? b=some u->h'.get? b=some u)
  (ho :∀b,H b=some (.own a)->H' b=some (.own a)) (ht :∀b xs,H b=some (.tup xs)->H' b=some (.tup xs)):br P w H' h' a o:=by
 induction o with
 | lst xs=>obtain ⟨z,l,n,r,e⟩:=x;exact ⟨z,l,n,r,k _ _ (.inl rfl) e⟩
 | tup xs=>obtain ⟨z,l,r,⟨g,e,c⟩,F,s,G⟩:=x;exact ⟨z,l,r,⟨g,k _ _ (.inl rfl) e,c⟩,F,k _ _ (.inl rfl) s,G⟩
 | dK kvs=>obtain ⟨z,y,D,r,g,i,j,e,c⟩:=x;exact ⟨z,y,D,r,g,i,j,k _ _ (.inl rfl) e,c⟩
 | dT kvs=>obtain ⟨z,y,xs,r,g,i,j,e,c⟩:=x;exact ⟨z,y,xs,Paired.mapP r λ p q z=>⟨z.1,ht _ _ z.2.1,z.2.2⟩,g,i,j,k _ _ (.inl rfl) e,c⟩
 | set S n=>obtain ⟨g,i,j,t,e,c⟩:=x;exact ⟨g,i,j,t,k _ _ (.inl rfl) e,c⟩
 | ins C dx fs=>obtain ⟨d,z,E,e,m,⟨A,i,j,s,c⟩,r⟩:=x;exact ⟨ho _ d,z,E,k _ _ (.inl rfl) e,m,⟨A,i,j,k _ _ (.inr d) s,c⟩,r⟩
 | own y=>obtain ⟨g,e⟩:=x;exact ⟨g,k _ _ (.inl rfl) e⟩
 | xd fs=>obtain ⟨m,⟨A,i,j,e,c⟩,r⟩:=x;exact ⟨m,⟨A,i,j,k _ _ (.inl rfl) e,c⟩,r⟩
 | rng lo hi=>obtain ⟨t,u,v,e⟩:=x;exact ⟨t,u,v,k _ _ (.inl rfl) e⟩
 | frz g u ih=>obtain ⟨e,q⟩:=x;exact ⟨k _ _ (.inl rfl) e,ih q⟩
 | tbl ps=>have e:h.get? a=some { cls:=.none,data:=.fields ps }:=x;show h'.get? a=some { cls:=.none,data:=.fields ps };exact k a _ (.inl rfl) e
 | met f y=>have e:h.get? a=some (j0a (.ref f) (.ref y)):=x;show h'.get? a=some (j0a (.ref f) (.ref y));exact k a _ (.inl rfl) e
 | ext φ=>obtain ⟨p,⟨o,e⟩,B⟩:=x;exact ⟨B _ _ p λ o q=>k _ _ (.inl rfl) q,⟨o,k _ _ (.inl rfl) e⟩,B⟩
def fN.lt (x:fN P w H h) (e:H a=some o):a < h.objs.size:=(x a o e).lt
def fN.fresh (x:fN P w H h) (e:h.objs.size<=a):H a=none:=by
 cases q:H a with
 | none=>rfl
 | some u=>exact absurd (J1 (x.lt q) e) (Y3 _)
def fN.kept (x:fN P w H h) (k :∀b u,h.get? b=some u->h'.get? b=some u):fN P w H h':=λ a o e=>(x a o e).stay (λ b u _ q=>k b u q) (λ _ q=>q) λ _ _ q=>q
def fN.laid (x:fN P w H h) (k :∀b u,h.get? b=some u->h'.get? b=some u) (hp:h.objs.size<=a) (new:br P w (upd H a o) h' a o):fN P w (upd H a o) h':=λ b u e=>by
 have d:=x.fresh hp;by_cases hb:b=a
 ·subst hb;rw [ab] at e;cases e;exact new
 ·rw [ak hb] at e;exact (x b u e).stay (λ c v _ q=>k c v q) (λ c q=>by rw [ak (fM q d)];exact q) λ c f q=>by rw [ak (fM q d)];exact q
end
def Rd (H:Hp) (a:ZS) (u:HO):Prop:=H a=some u\/∃o,H a=some (.frz o u)
def Rd.ok {u:HO} (r:Rd H a u) (x:fN P w H h):br P w H h a u:=by
 rcases r with r|⟨o,r⟩
 ·exact x a u r
 ·obtain ⟨_,q⟩:=x a _ r;exact q
noncomputable def uc:Option HO->Prop
 | some (.lst _)=>True
 | some (.dK _)=>True
 | some (.dT _)=>True
 | some (.set _ _)=>True
 | some (.ins _ _ _)=>True
 | some (.ext _)=>True
 | _=>False
section
variable {x e:ZS} {o':HO}
def fN.write (ok:fN P w H h) (mu:uc (H x)) (he:e=x\/H e=some (.own x)) (k :∀b u,b≠e->h.get? b=some u->h'.get? b=some u) (heo :∃u,h'.get? e=some u)
  (new:br P w (upd H x o') h' x o'):fN P w (upd H x o') h':=λ b u q=>by
 have f :∀c y,H c=some (.own y)->c≠x:=λ c y r z=>by subst z;rw [r] at mu;exact mu
 have j :∀c d,H c=some (.tup d)->c≠x:=λ c d r z=>by subst z;rw [r] at mu;exact mu
 by_cases hb:b=x
 ·subst hb;rw [ab] at q;cases q;exact new
 ·rw [ak hb] at q;by_cases hbe:b=e
  ·have g:H b=some (.own x):=by
    rcases he with z|z
    ·exact absurd (hbe.trans z) hb
    ·rw [hbe];exact z
   rw [q] at g;cases g;obtain ⟨v,i⟩:=heo;exact ⟨v,by rw [hbe];exact i⟩
  ·refine (ok b u q).stay (λ c v a r=>k c v ?_ r) (λ c r=>by rw [ak (f c b r)];exact r) λ c d r=>by rw [ak (j c d r)];exact r
   rcases a with rfl|a
   ·exact hbe
   ·rintro rfl;rcases he with z|z
    ·exact f c b a z
    ·rw [a] at z;cases z;exact hb rfl
end
structure Un (fs ex:List ZS) (H H':Hp) (h h':ZM):Prop where
 keep :∀b o,h.get? b=some o->H b=none->b∉fs->b∉ex->h'.get? b=some o
 slot :∀b o,h.get? b=some o->H b=none->b∈fs->b∉ex->∃sl,h'.get? b=some { o with slots:=sl }
 free :∀b o,h.get? b=some o->H b=none->b∉ex->H' b=none
 there :∀b o,h.get? b=some o->b∉ex->∃o',h'.get? b=some o'
 tups :∀b xs,H b=some (.tup xs)->H' b=some (.tup xs)
 frzs :∀b o u,H b=some (.frz o u)->H' b=some (.frz o u)
 tbls :∀b ps,H b=some (.tbl ps)->∃more,H' b=some (.tbl (ps++more))
section
variable {fs fs' ex ex':List ZS} {H1 H2:Hp} {h1 h2:ZM} {x e:ZS} 
def Un.any (u:Un fs ex H H1 h h1) {ob:ZQ} (q:h.get? b=some ob) (n:H b=none) (hx:b∉ex) :∃sl,h1.get? b=some { ob with slots:=sl }:=by
 by_cases hb:b∈fs
 ·exact u.slot b ob q n hb hx
 ·exact ⟨ob.slots,u.keep b ob q n hb hx⟩
def Un.kept (k :∀b u,h.get? b=some u->h'.get? b=some u):Un fs ex H H h h':=
 ⟨λ b a q _ _ _=>k b a q,λ b a q _ _ _=>⟨a.slots,k b a q⟩,λ _ _ _ n _=>n,λ b a q _=>⟨a,k b a q⟩,λ _ _ q=>q,λ _ _ _ q=>q,λ _ c q=>⟨#[],by rw [q];simp⟩⟩
def Un.refl:Un fs ex H H h h:=Un.kept λ _ _ q=>q
def Un.laid (k :∀b u,h.get? b=some u->h'.get? b=some u) (hp:h.objs.size<=a) (hn:H a=none):Un fs ex H (upd H a o) h h' where
 keep:=λ b u q _ _ _=>k b u q
 slot:=λ b u q _ _ _=>⟨u.slots,k b u q⟩
 free:=λ b u q n _=>by rw [ak (G1 (J1 (S0 q) hp))];exact n
 there:=λ b u q _=>⟨u,k b u q⟩
 tups:=λ b c q=>by rw [ak (fM q hn)];exact q
 frzs:=λ b u c q=>by rw [ak (fM q hn)];exact q
 tbls:=λ b d q=>⟨#[],by rw [ak (fM q hn),q];simp⟩
def Un.write (mu:uc (H x)) (he:e=x\/H e=some (.own x)) (k :∀b u,b≠e->h.get? b=some u->h'.get? b=some u) (heo :∃u,h'.get? e=some u):Un fs ex H (upd H x o) h h':=by
 have d :∀b,H b=none->b≠x:=λ b n z=>by subst z;rw [n] at mu;exact mu
 have c :∀b,H b=none->b≠e:=λ b n z=>by
  subst z;rcases he with r|r
  ·exact d b n r
  ·rw [n] at r;cases r
 have a :∀b u,H b=some u->¬ uc (some u)->b≠x:=λ b u q f z=>by subst z;rw [q] at mu;exact f mu
 refine ⟨λ b u q n _ _=>k b u (c b n) q,λ b u q n _ _=>⟨u.slots,k b u (c b n) q⟩,λ b u q n _=>by rw [ak (d b n)];exact n,λ b u q _=>?_,
  λ b g q=>by rw [ak (a b _ q λ z=>z)];exact q,λ b u g q=>by rw [ak (a b _ q λ z=>z)];exact q,λ b i q=>⟨#[],by rw [ak (a b _ q λ z=>z),q];simp⟩⟩
 by_cases hbe:b=e
 ·subst hbe;exact heo
 ·exact ⟨u,k b u hbe q⟩
end
noncomputable def ye (h:ZM) (H:Hp):List ZS:=(B1 h.objs.size).filter λ a=>(H a).isSome
noncomputable def iP (h:ZM) (H:Hp):ZM:=PySem.W.hideAll h (ye h H)
def KC (h:ZM) (H:Hp):(iP h H).objs.size=h.objs.size:=PySem.W.hideAll_size _ _
def KD {o:ZQ} (e:h.get? b=some o) (n:H b=none):(iP h H).get? b=some o:=
 PySem.W.hideAll_get _ e λ a=>by have q:(H b).isSome=true:=(List.mem_filter.mp a).2;rw [n] at q;simp at q
def Jo {o:ZQ} (e:(iP h H).get? b=some o):h.get? b=some o/\H b=none:=by
 have a:h.get? b=some o:=PySem.W.of_hideAll (ye h H) e;refine ⟨a,?_⟩;cases q:H b with
 | none=>rfl
 | some x=>have c:b∈ye h H:=List.mem_filter.mpr ⟨List.mem_range.mpr (S0 a),by simp [q]⟩;have z:(iP h H).get? b=none:=PySem.W.hideAll_none (ye h H) c;rw [z] at e;cases e
noncomputable def Mj (g h:ZM) (L:ZS):List (ZS×ZQ):=(B1 h.objs.size).filterMap λ a=>if a=L\/(g.get? a).isSome=true then none else (h.get? a).map λ o=>(a,o)
noncomputable def rest (g h:ZM) (L d:ZS):List (ZS×ZQ):=(Mj g h L).filter λ p=>decide (p.1≠d)
structure Mod (K:b0) (mg:ZR->Option ZG) (base:ZM):Prop where
 kin:K.In base
 glob:base.Ns K3 mg
 blt :∃mb,base.Ns builtinsNs mb/\∀x:ZR,x≠"__name__"->mb x=n8 x
 nolimit:base.NoLimit
structure Cx where
 prog:ZJ
 w:U0
 K:b0
 mg:ZR->Option ZG
 base:ZM
 A:B2
 N:List ZR
 s₀:A0
 H₀:Hp
 env:Env
 outer:List Env
 stack:List Env
 ex:List ZS
 fn:ZR->Bool
 calm:Bool
 pn:List (ZS×ZQ)
 xe:ZG->A0->Prop
noncomputable def jg (l:List Env):List ZS:=l.filterMap (·.frame)
noncomputable abbrev Cx.fs (X:Cx):List ZS:=jg X.outer
def wY (sc:ZD) (x:ZR):Prop:=sc.names.lookup x=some .local\/sc.names.lookup x=some .cell\/sc.names.lookup x=some .free
def Loc (sc:ZD) (x:ZR):Prop:=sc.names.lookup x=some .local\/sc.names.lookup x=some .cell
def Look (env:Env) (h:ZM) (m:ZR->Option ZG) (x:ZR) (u:ZG):Prop:=
 (env.kindOf x=some .local/\m x=some u)\/((env.kindOf x=some .cell\/env.kindOf x=some .free)/\∃c,env.cells.lookup x=some c/\h.IsCell c (some u))
structure Cx.Ok (X:Cx):Prop where
 mod:Mod X.K X.mg X.base
 kind:X.env.scope.kind=.function
 glob:X.env.globals=K3
 blt:X.env.builtins=builtinsNs
 above:X.s₀.heap.objs.size<=X.env.locals
 inj :∀x y c,X.env.cells.lookup x=some c->X.env.cells.lookup y=some c->x=y
 has :∀x,(X.env.kindOf x=some .cell\/X.env.kindOf x=some .free)->∃c,X.env.cells.lookup x=some c
 cab :∀x c,X.fn x=true->X.env.cells.lookup x=some c->X.s₀.heap.objs.size<=c
 hd:X.calm=true->X.A.handled=none
 frames:X.A.frames=some X.stack
 stk:X.stack=X.outer\/(X.stack=X.env :: X.outer/\X.env.frame=some X.env.locals)
 exf :∀b∈X.ex,b≠X.env.locals/\∀x c,X.env.cells.lookup x=some c->c≠b
 bs :∀b o,X.base.get? b=some o->X.s₀.heap.get? b=some o/\X.H₀ b=none
 bsz:X.base.objs.size<=X.s₀.heap.objs.size
 noex :∀b o,X.base.get? b=some o->b∉X.ex
 exfs :∀b∈X.ex,b∉X.fs
 funs:X.s₀.heap.FunFrames X.base X.outer
 frf :∀b∈X.fs,X.H₀ b=none
structure Inv (X:Cx) (pins:List (ZS×ZQ)) (σ:List (Option V)) (H:Hp) (s:A0):Prop where
 ok:X.Ok
 os:s.os=X.s₀.os
 bare:d9 s.gens
 base:Un X.fs X.ex X.H₀ H X.s₀.heap s.heap
 loc :∃m,s.heap.Ns X.env.locals m/\∀(i:Nat) (x:ZR) (v:V),X.N[i]? = some x->σ[i]? = some (some v)->wY X.env.scope x->∃u,RelV v u/\Look X.env s.heap m x u
 cell :∀x c,X.env.cells.lookup x=some c->∃v,s.heap.IsCell c v
 free:H X.env.locals=none
 freeC :∀x c,X.env.cells.lookup x=some c->H c=none
 pin :∀p∈X.pn++pins,s.heap.get? p.1=some p.2/\H p.1=none/\p.1≠X.env.locals/\p.1∉X.fs/\∀v,p.2.data≠.cell v
 hok:fN X.prog X.w H s.heap
 len:σ.length=X.N.length
variable {A:B2} {E:ZG->A0->Prop} {M:Model} {X:Cx} {ch:List ZS} {i t':Nat} {pins:List (ZS×ZQ)} {s s':A0} {v:V} {x:ZR}
section
variable {σ:List (Option V)} 
def Cx.Ok.nofr (ok:X.Ok) {o:ZQ} (e:X.base.get? b=some o):b∉X.fs:=λ a=>by have:=(ok.funs.mem a).1;rw [e] at this;cases this
def Inv.bs (I:Inv X pins σ H s) :∀b o,X.base.get? b=some o->s.heap.get? b=some o/\H b=none:=λ b o e=>⟨I.base.keep b o (I.ok.bs b o e).1 (I.ok.bs b o e).2 (I.ok.nofr e) (I.ok.noex b o e),I.base.free b o (I.ok.bs b o e).1 (I.ok.bs b o e).2 (I.ok.noex b o e)⟩
def Inv.bk (I:Inv X pins σ H s) :∀b o,X.base.get? b=some o->s.heap.get? b=some o:=λ b o e=>(I.bs b o e).1
def Inv.mod (I:Inv X pins σ H s):Mod X.K X.mg X.base:=I.ok.mod
def Inv.kIn (I:Inv X pins σ H s):X.K.In s.heap:=I.ok.mod.kin.keeps I.bk
def Inv.lt (I:Inv X pins σ H s):X.env.locals < s.heap.objs.size:=let ⟨_,hn,_⟩:=I.loc;hn.lt
def Inv.sz (I:Inv X pins σ H s):X.s₀.heap.objs.size<=s.heap.objs.size:=D0 I.ok.above (T3 I.lt)
def Inv.nofs (I:Inv X pins σ H s) (h:s.heap.objs.size<=a):a∉X.fs:=λ b=>by obtain ⟨_,o,c,_⟩:=I.ok.funs.mem b;exact absurd (J1 (S0 c) (D0 I.sz h)) (Y3 _)
def Inv.cne (I:Inv X pins σ H s) :∀x c,X.env.cells.lookup x=some c->c≠X.env.locals:=λ x c e z=>by obtain ⟨v,o,b,a⟩:=I.cell x c e;obtain ⟨m,⟨h,g,i,d,f,_⟩,_⟩:=I.loc;rw [z,d] at b;cases b;rw [f] at a;cases a
def Inv.funs (I:Inv X pins σ H s):s.heap.FunFrames X.base X.outer:=by
 have all :∀(l:List Env),(∀b∈jg l,b∈X.fs)->X.s₀.heap.FunFrames X.base l->s.heap.FunFrames X.base l:=by
  intro l;induction l with
  | nil=>intro _ _;trivial
  | cons env r ih=>intro f i;obtain ⟨k,⟨L,o,c,h,j,g⟩,m⟩:=i;have a:L∈X.fs:=f L (by unfold jg;rw [j09,c];exact R0);obtain ⟨n,e⟩:=I.base.slot L o j (I.ok.frf L a) a λ z=>I.ok.exfs L z a;exact ⟨k,⟨L,_,c,h,e,g⟩,ih (λ b d=>f b (by unfold jg;rw [j09,c];exact W0 _ d)) m⟩
 exact all X.outer (λ _ d=>d) I.ok.funs
def Inv.stack (I:Inv X pins σ H s):s.heap.FunFrames X.base X.stack:=by
 rcases I.ok.stk with e|⟨e,hf⟩
 ·rw [e];exact I.funs
 ·rw [e];obtain ⟨m,a,_⟩:=I.loc;refine .cons (by rw [I.ok.kind];decide) hf a ?_ I.funs;exact Heap.get?_none_of_le (D0 I.ok.bsz I.ok.above)
def Inv.stkSub (I:Inv X pins σ H s) :∀b∈jg X.stack,b∈X.env.locals :: X.fs:=λ b a=>by
 rcases I.ok.stk with e|⟨e,hf⟩
 ·rw [e] at a;exact W0 _ a
 ·rw [e] at a;unfold jg at a;rw [j09,hf] at a;exact a
def Inv.stkFree (I:Inv X pins σ H s) :∀b∈jg X.stack,H b=none:=λ b a=>by
 rcases List.mem_cons.mp (I.stkSub b a) with e|a
 ·rw [e];exact I.free
 ·obtain ⟨_,o,c,_⟩:=I.ok.funs.mem a;exact I.base.free b o c (I.ok.frf b a) λ z=>I.ok.exfs b z a
def Inv.step {g':Array GenState} {d':Drawn} (I:Inv X pins σ H s)
  (hch :∀b∈ch,(b∈X.ex\/X.s₀.heap.objs.size<=b)/\b≠X.env.locals/\(∀x c,X.env.cells.lookup x=some c->c≠b)/\∀p∈X.pn++pins,p.1≠b)
  (keep :∀b o,b≠X.env.locals->b∉X.fs->b∉ch->s.heap.get? b=some o->H b=none->h'.get? b=some o)
  (slot :∀b o,b≠X.env.locals->b∈X.fs->b∉ch->s.heap.get? b=some o->H b=none->∃sl,h'.get? b=some { o with slots:=sl }) (free :∀b o,b∉ch->s.heap.get? b=some o->H b=none->H' b=none)
  (there :∀b o,b∉ch->s.heap.get? b=some o->∃o',h'.get? b=some o')
  (tups :∀b xs,H b=some (.tup xs)->H' b=some (.tup xs)) (frzs :∀b o u,H b=some (.frz o u)->H' b=some (.frz o u)) (tbls :∀b ps,H b=some (.tbl ps)->∃more,H' b=some (.tbl (ps++more)))
  (ns :∀m,s.heap.Ns X.env.locals m->h'.Ns X.env.locals m) (hok:fN X.prog X.w H' h') (hg:d9 g') :
  Inv X pins σ H' { s with heap:=h',gens:=g',drawn:=d',toks:=t' }:=by
 have D :∀b o,X.s₀.heap.get? b=some o->b≠X.env.locals:=λ b o e=>G1 (J1 (S0 e) I.ok.above);have y :∀b o,X.s₀.heap.get? b=some o->b∉X.ex->b∉ch:=λ b o e a g=>by
  rcases (hch b g).1 with z|z
  ·exact a z
  ·exact absurd (J1 (S0 e) z) (Y3 _)
 have F :∀x c,X.env.cells.lookup x=some c->∀v,s.heap.IsCell c v->h'.IsCell c v:=λ x c e v ⟨o,h,A⟩=>by
  have t:c∉ch:=λ z=>(hch c z).2.2.1 x c e rfl;by_cases hc:c∈X.fs
  ·obtain ⟨sl,q⟩:=slot c o (I.cne x c e) hc t h (I.freeC x c e);exact ⟨_,q,A⟩
  ·exact ⟨o,keep c o (I.cne x c e) hc t h (I.freeC x c e),A⟩
 refine ⟨I.ok,I.os,hg,⟨λ b o e n g a=>?_,λ b o e n g a=>?_,λ b o e n a=>?_,λ b o e a=>?_,λ b xs e=>tups b xs (I.base.tups b xs e),λ b o xs e=>frzs b o xs (I.base.frzs b o xs e),λ b ps e=>?_⟩,?_,λ x c e=>?_,?_,λ x c e=>?_,λ p C=>?_,hok,I.len⟩
 ·exact keep b o (D b o e) g (y b o e a) (I.base.keep b o e n g a) (I.base.free b o e n a)
 ·obtain ⟨sl,f⟩:=I.base.slot b o e n g a;obtain ⟨G,j⟩:=slot b _ (D b o e) g (y b o e a) f (I.base.free b o e n a);exact ⟨G,j⟩
 ·obtain ⟨o',f⟩:=I.base.there b o e a;exact free b o' (y b o e a) f (I.base.free b o e n a)
 ·obtain ⟨o',f⟩:=I.base.there b o e a;exact there b o' (y b o e a) f
 ·obtain ⟨M,f⟩:=I.base.tbls b ps e;obtain ⟨J,j⟩:=tbls b _ f;exact ⟨M++J,by rw [j,Array.append_assoc]⟩
 ·obtain ⟨m,L,N⟩:=I.loc;refine ⟨m,ns m L,λ i x v f j K=>?_⟩;obtain ⟨u,r,l⟩:=N i x v f j K;refine ⟨u,r,?_⟩;rcases l with l|⟨k,c,e,z⟩
  ·exact .inl l
  ·exact .inr ⟨k,c,e,F x c e _ z⟩
 ·obtain ⟨v,z⟩:=I.cell x c e;exact ⟨v,F x c e v z⟩
 ·obtain ⟨m,⟨o,_,_,h,_⟩,_⟩:=I.loc;exact free _ o (λ z=>(hch _ z).2.1 rfl) h I.free
 ·obtain ⟨v,o,h,A⟩:=I.cell x c e;exact free c o (λ z=>(hch c z).2.2.1 x c e rfl) h (I.freeC x c e)
 ·obtain ⟨e,n,B,E,d⟩:=I.pin p C;have t:p.1∉ch:=λ z=>(hch p.1 z).2.2.2 p C rfl;exact ⟨keep p.1 p.2 B E t e n,free p.1 p.2 t e n,B,E,d⟩
def Inv.un (I:Inv X pins σ H s) (u:Un X.fs [] H H' s.heap h') (hok:fN X.prog X.w H' h'):Inv X pins σ H' { s with heap:=h',toks:=t' }:=by obtain ⟨m,⟨o,k,p,c,r⟩,_⟩:=id I.loc;obtain ⟨t,j⟩:=u.any c I.free (by simp);exact I.step (g':=s.gens) (d':=s.drawn) (ch:=[]) (λ _ z=>nomatch z) (λ b o _ a _ e n=>u.keep b o e n a (by simp)) (λ b o _ a _ e n=>u.slot b o e n a (by simp)) (λ b o _ e n=>u.free b o e n (by simp)) (λ b o _ e=>u.there b o e (by simp)) u.tups u.frzs u.tbls (λ q g=>by obtain ⟨l,i,h,d,f⟩:=g;rw [c] at d;cases d;exact ⟨_,i,h,j,f⟩) hok I.bare
def Inv.call {g':Array GenState} {d':Drawn} (I:Inv X pins σ H s) (u:Un (jg X.stack) ch H H' s.heap h') (hok:fN X.prog X.w H' h') (hg:d9 g')
  (hch :∀b∈ch,(b∈X.ex\/X.s₀.heap.objs.size<=b)/\b≠X.env.locals/\(∀x c,X.env.cells.lookup x=some c->c≠b)/\∀p∈X.pn++pins,p.1≠b) :
  Inv X pins σ H' { s with heap:=h',gens:=g',drawn:=d',toks:=t' }:=by
 obtain ⟨m,⟨o,q,v,f,r⟩,_⟩:=id I.loc;obtain ⟨A,d⟩:=u.any f I.free λ z=>(hch _ z).2.1 rfl;exact I.step (ch:=ch) hch (λ b o d j a e n=>u.keep b o e n (λ z=>(List.mem_cons.mp (I.stkSub b z)).elim d j) a) (λ b o _ _ a e n=>u.any e n a) (λ b o a e n=>u.free b o e n a) (λ b o a e=>u.there b o e a) u.tups u.frzs u.tbls (λ y i=>by obtain ⟨t,l,k,g,h⟩:=i;rw [f] at g;cases g;exact ⟨_,l,k,d,h⟩) hok hg
def Inv.turned {it:ZS} (I:Inv X pins σ H s) (k :∀b o,b≠it->s.heap.get? b=some o->h'.get? b=some o) (hn:H it=none) (hL:it≠X.env.locals)
  (h1:it∈X.ex\/X.s₀.heap.objs.size<=it) (h2 :∀x c,X.env.cells.lookup x=some c->c≠it) (h3 :∀p∈X.pn++pins,p.1≠it):Inv X pins σ H { s with heap:=h',toks:=t' }:=by
 have d :∀b u,H b=some u->b≠it:=λ b u e z=>by rw [z,hn] at e;cases e
 refine I.step (g':=s.gens) (d':=s.drawn) (ch:=[it]) (λ b h=>?_) (λ b o _ _ a e _=>k b o (λ z=>a (by simp [z])) e) (λ b o _ _ a e _=>⟨o.slots,k b o (λ z=>a (by simp [z])) e⟩) (λ _ _ _ _ n=>n)
  (λ b o a e=>⟨o,k b o (λ z=>a (by simp [z])) e⟩) (λ _ _ e=>e) (λ _ _ _ e=>e) (λ b l e=>⟨#[],by rw [e];simp⟩) (λ m g=>?_) (λ b u e=>?_) I.bare
 ·have e:b=it:=by simpa using h
  subst e;exact ⟨h1,hL,h2,h3⟩
 ·obtain ⟨o,f,i,j,r⟩:=g;exact ⟨o,f,i,k _ o (C4 hL) j,r⟩
 ·refine (I.hok b u e).stay (λ c v a q=>k c v ?_ q) (λ _ q=>q) λ _ _ q=>q;rcases a with z|z
  ·rw [z];exact d b u e
  ·exact d c _ z
def Inv.tok (I:Inv X pins σ H s) (t:Nat):Inv X pins σ H { s with toks:=t }:=I.un (h':=s.heap) (t':=t) Un.refl I.hok
def Inv.kept (I:Inv X pins σ H s) (k :∀b u,s.heap.get? b=some u->h'.get? b=some u):Inv X pins σ H { s with heap:=h',toks:=t' }:=I.un (Un.kept k) (I.hok.kept k)
def Inv.laid (I:Inv X pins σ H s) (k :∀b u,s.heap.get? b=some u->h'.get? b=some u) (hp:s.heap.objs.size<=a) (new:br X.prog X.w (upd H a o) h' a o) :
  Inv X pins σ (upd H a o) { s with heap:=h',toks:=t' }:=I.un (Un.laid k hp (I.hok.fresh hp)) (I.hok.laid k hp new)
def Inv.write {x e:ZS} (I:Inv X pins σ H s) (mu:uc (H x)) (he:e=x\/H e=some (.own x)) (k :∀b u,b≠e->s.heap.get? b=some u->h'.get? b=some u) (heo :∃u,h'.get? e=some u)
  (new:br X.prog X.w (upd H x o) h' x o):Inv X pins σ (upd H x o) { s with heap:=h',toks:=t' }:=I.un (Un.write mu he k heo) (I.hok.write mu he k heo new)
def Inv.weak {σ':List (Option V)} (I:Inv X pins σ H s) (hl:σ'.length=σ.length) (w :∀(i:Nat) v,σ'[i]? = some (some v)->σ[i]? = some (some v)):Inv X pins σ' H s:=
 ⟨I.ok,I.os,I.bare,I.base,let ⟨m,hn,hl'⟩:=I.loc;⟨m,hn,λ i x v b c a=>hl' i x v b (w i v c) a⟩,I.cell,I.free,I.freeC,I.pin,I.hok,hl.trans I.len⟩
def Inv.pins_of {pins':List (ZS×ZQ)} (I:Inv X pins σ H s) (h :∀p∈pins',s.heap.get? p.1=some p.2/\H p.1=none/\p.1≠X.env.locals/\p.1∉X.fs/\∀v,p.2.data≠.cell v):Inv X pins' σ H s:=
 ⟨I.ok,I.os,I.bare,I.base,I.loc,I.cell,I.free,I.freeC,λ p a=>(List.mem_append.mp a).elim (λ z=>I.pin p (z7 _ z)) (h p),I.hok,I.len⟩
def HI {N:List ZR} (hN:N.Nodup) {j:Nat} (a:N[i]? = some x) (b:N[j]? = some x):i=j:=by obtain ⟨e,d⟩:=List.getElem?_eq_some_iff.mp a;obtain ⟨f,c⟩:=List.getElem?_eq_some_iff.mp b;exact (List.getElem_inj hN).mp (d.trans c.symm)
def MP {Q:Unit->A0->Prop} (I:Inv X pins σ H s) (hN:X.N.Nodup) (hi:X.N[i]? = some x) (hx:Loc X.env.scope x) (r:RelV v u)
  (h :∀s',Inv X pins (σ.set i (some v)) H s'->(∃a,O6 a s.heap s'.heap/\(a=X.env.locals\/X.env.cells.lookup x=some a))->Q () s') (hf:X.fn x=true\/X.env.scope.names.lookup x=some .local:=by first|exact .inl rfl|exact .inr rfl|assumption):V0 M A (storeName X.env x u) Q E s:=by
 obtain ⟨m,S,hl⟩:=id I.loc;have a6:(X.env.scope.kind == .class || (X.env.scope.kind == .module && X.env.locals != X.env.globals))=false:=by rw [I.ok.kind];rfl
 have a1:i < σ.length:=by rw [I.len];exact (List.getElem?_eq_some_iff.mp hi).1
 have cne:=I.cne;have a0 :∀{a:ZS} {C:ZM},(∃o,s.heap.get? a=some o/\H a=none)->O6 a s.heap C->fN X.prog X.w H C:=λ {a C} ha f b ob e=>by
  obtain ⟨_,_,a3⟩:=ha;refine (I.hok b ob e).stay (λ c F l q=>(f.2 c ?_).trans q) (λ _ q=>q) λ _ _ q=>q;rintro rfl;rcases l with rfl|l
  ·rw [a3] at e;cases e
  ·rw [a3] at l;cases l
 rcases hx with hk|hk
 ·refine wpAny_storeName_local hk S (λ C a4 f=>?_) a6;obtain ⟨oL,_,_,a7,_⟩:=id S;refine h _ ⟨I.ok,I.os,I.bare,⟨λ b o e n B hx=>?_,λ b o e n B hx=>?_,I.base.free,λ b o e hx=>?_,I.base.tups,I.base.frzs,I.base.tbls⟩,⟨_,a4,λ j y T g t P=>?_⟩,λ y c e=>?_,I.free,I.freeC,λ p L=>?_,a0 ⟨oL,a7,I.free⟩ f,by simpa using I.len⟩ ⟨_,f,.inl rfl⟩
  ·exact (f.2 b (G1 (J1 (S0 e) I.ok.above))).trans (I.base.keep b o e n B hx)
  ·obtain ⟨U,g⟩:=I.base.slot b o e n B hx;exact ⟨U,(f.2 b (G1 (J1 (S0 e) I.ok.above))).trans g⟩
  ·obtain ⟨J,g⟩:=I.base.there b o e hx;exact ⟨J,(f.2 b (G1 (J1 (S0 e) I.ok.above))).trans g⟩
  ·by_cases hj:j=i
   ·subst hj;rw [hi] at g;cases g;rw [M6 a1] at t;cases t;exact ⟨u,r,.inl ⟨hk,by simp⟩⟩
   ·rw [U9 (C4 hj)] at t;obtain ⟨O,K,q⟩:=hl j y T g t P;refine ⟨O,K,?_⟩;rcases q with ⟨k,e⟩|⟨k,c,e,z⟩
    ·refine .inl ⟨k,?_⟩;have:y≠x:=λ e=>hj (HI hN g (e ▸ hi));simp [this,e]
    ·exact .inr ⟨k,c,e,z.sameBut f (cne y c e)⟩
  ·obtain ⟨F,z⟩:=I.cell y c e;exact ⟨F,z.sameBut f (cne y c e)⟩
  ·obtain ⟨e,n,D,R,d⟩:=I.pin p L;exact ⟨(f.2 p.1 D).trans e,n,D,R,d⟩
 ·have W:X.fn x=true:=by
   rcases hf with z|z
   ·exact z
   ·rw [z] at hk;cases hk
  obtain ⟨c,l⟩:=I.ok.has x (.inl hk);obtain ⟨F,z⟩:=I.cell x c l;refine wpAny_storeName_cell I.ok.kind hk l z (λ C Z f=>?_);obtain ⟨Y,a2,a5⟩:=id z;refine h { s with heap:=C } ⟨I.ok,I.os,I.bare,⟨λ b o e n B hx=>?_,λ b o e n B hx=>?_,I.base.free,λ b o e hx=>?_,I.base.tups,I.base.frzs,I.base.tbls⟩,⟨m,S.sameBut f (C4 (cne x c l)),λ j y T g t P=>?_⟩,λ y G e=>?_,I.free,I.freeC,λ p L=>?_,a0 ⟨Y,a2,I.freeC x c l⟩ f,by simpa using I.len⟩ ⟨c,f,.inr l⟩
  ·exact (f.2 b (G1 (J1 (S0 e) (I.ok.cab x c W l)))).trans (I.base.keep b o e n B hx)
  ·obtain ⟨U,g⟩:=I.base.slot b o e n B hx;exact ⟨U,(f.2 b (G1 (J1 (S0 e) (I.ok.cab x c W l)))).trans g⟩
  ·obtain ⟨J,g⟩:=I.base.there b o e hx;exact ⟨J,(f.2 b (G1 (J1 (S0 e) (I.ok.cab x c W l)))).trans g⟩
  ·by_cases hj:j=i
   ·subst hj;rw [hi] at g;cases g;rw [M6 a1] at t;cases t;exact ⟨u,r,.inr ⟨.inl hk,c,l,Z⟩⟩
   ·rw [U9 (C4 hj)] at t;obtain ⟨O,K,q⟩:=hl j y T g t P;refine ⟨O,K,?_⟩;rcases q with q|⟨k,G,e,z'⟩
    ·exact .inl q
    ·refine .inr ⟨k,G,e,z'.sameBut f ?_⟩;rintro rfl;exact hj (HI hN g (I.ok.inj _ _ _ e l ▸ hi))
  ·by_cases hcc:G=c
   ·subst hcc;exact ⟨_,Z⟩
   ·obtain ⟨w2,z2⟩:=I.cell y G e;exact ⟨w2,z2.sameBut f hcc⟩
  ·obtain ⟨e,n,D,R,d⟩:=I.pin p L;refine ⟨(f.2 p.1 ?_).trans e,n,D,R,d⟩;intro q;rw [q,a2] at e;have q':Y=p.2:=A1 e;exact d F (by rw [<-q'];exact a5)
def GU {Q:Unit->A0->Prop} (I:Inv X pins σ H s) (hN:X.N.Nodup) (hi:X.N[i]? = some x) (hx:Loc X.env.scope x) (r:RelV v u)
  (h :∀s',Inv X pins (σ.set i (some v)) H s'->Q () s') (hf:X.fn x=true\/X.env.scope.names.lookup x=some .local:=by first|exact .inl rfl|exact .inr rfl|assumption):V0 M A (storeName X.env x u) Q E s:=
 MP I hN hi hx r (λ s' a _=>h s' a) hf
def Inv.call' (I:Inv X pins σ H s) (ho:s'.os=s.os) (u:Un (jg X.stack) ch H H' s.heap s'.heap) (hok:fN X.prog X.w H' s'.heap) (hg:d9 s'.gens)
  (hch :∀b∈ch,(b∈X.ex\/X.s₀.heap.objs.size<=b)/\b≠X.env.locals/\(∀x c,X.env.cells.lookup x=some c->c≠b)/\∀p∈X.pn++pins,p.1≠b):Inv X pins σ H' s':=by
 obtain ⟨d,g',d',t',a⟩:=s';have e:a=s.os:=ho;subst e;exact I.call (g':=g') (t':=t') (d':=d') u hok hg hch
end
noncomputable abbrev XK:=ZG->Option ZS->Hp->Prop
noncomputable abbrev St:=List (Option V)
noncomputable abbrev VK:=V->Hp->Prop
noncomputable abbrev TE:=St->Hp->VK->Prop
noncomputable abbrev TT:=St->Hp->(Bool->Hp->Prop)->Prop
noncomputable abbrev TA:=St->Hp->(List V->Hp->Prop)->Prop
structure Ends where
 nx:St->Hp->Prop
 rt:VK
 bk:St->Hp->Prop:=λ _ _=>False
 ct:St->Hp->Prop:=λ _ _=>False
noncomputable abbrev TS:=Ends->St->Hp->Prop
def EP (X:Cx) (pins:List (ZS×ZQ)) (σ:St) (Q:VK) (u:ZG) (s':A0):Prop:=∃v H',Inv X pins σ H' s'/\RelV v u/\Q v H'
def TP (X:Cx) (pins:List (ZS×ZQ)) (σ:St) (Q:Bool->Hp->Prop) (b:Bool) (s':A0):Prop:=∃H',Inv X pins σ H' s'/\Q b H'
def AP (X:Cx) (pins:List (ZS×ZQ)) (σ:St) (Q:List V->Hp->Prop) (us:List ZG) (s':A0):Prop:=∃vs H',Inv X pins σ H' s'/\aJ vs us/\Q vs H'
def SP (X:Cx) (pins:List (ZS×ZQ)) (D:Ends) (f:Flow) (s':A0):Prop:=
 match f with
 | .next=>∃σ' H',Inv X pins σ' H' s'/\D.nx σ' H'
 | .brk=>∃σ' H',Inv X pins σ' H' s'/\D.bk σ' H'
 | .cont=>∃σ' H',Inv X pins σ' H' s'/\D.ct σ' H'
 | .ret u=>∃v σ' H',Inv X pins σ' H' s'/\RelV v u/\D.rt v H'
def PE (X:Cx) (e:ZN) (t:TE):Prop:=
 ∀(pins:List (ZS×ZQ)) (s:A0) (σ:St) (H:Hp) (Q:VK),Inv X pins σ H s->t σ H Q->V0 (F1 X.prog X.w) X.A (O3 e X.env) (EP X pins σ Q) X.xe s
def PT (X:Cx) (e:ZN) (t:TT):Prop:=
 ∀(pins:List (ZS×ZQ)) (s:A0) (σ:St) (H:Hp) (Q:Bool->Hp->Prop),Inv X pins σ H s->t σ H Q->V0 (F1 X.prog X.w) X.A (isTrue e X.env (O3 e X.env)) (TP X pins σ Q) X.xe s
def PW (X:Cx) (e:ZN) (t:TT):Prop:=
 ∀(whole:ZO ZG) (pins:List (ZS×ZQ)) (s:A0) (σ:St) (H:Hp) (Q:Bool->Hp->Prop),Inv X pins σ H s->t σ H Q->V0 (F1 X.prog X.w) X.A (isTrue e X.env whole) (TP X pins σ Q) X.xe s
variable {e:ZN}
def PW.pt {t:TT} (h:PW X e t):PT X e t:=h _
def PA (X:Cx) (es:List ZN) (t:TA):Prop:=
 ∀(pos:ZP) (pins:List (ZS×ZQ)) (s:A0) (σ:St) (H:Hp) (Q:List V->Hp->Prop),Inv X pins σ H s->t σ H Q->V0 (F1 X.prog X.w) X.A (spliced (J4 pos (N1 es X.env))) (AP X pins σ Q) X.xe s
def PS (X:Cx) (st:ZL) (t:TS):Prop:=
 ∀(pins:List (ZS×ZQ)) (s:A0) (σ:St) (H:Hp) (D:Ends),Inv X pins σ H s->t D σ H->V0 (F1 X.prog X.w) X.A (exec st X.env) (SP X pins D) X.xe s
def jI (X:Cx) (st:List ZL) (t:TS):Prop:=
 ∀(pins:List (ZS×ZQ)) (s:A0) (σ:St) (H:Hp) (D:Ends),Inv X pins σ H s->t D σ H->V0 (F1 X.prog X.w) X.A (execs st X.env) (SP X pins D) X.xe s
def bb {α:Type} {t:ZO α} {Q Q':α->A0->Prop} (h:V0 M A t Q E s) (hQ :∀a s,Q a s->Q' a s):V0 M A t Q' E s:=G3 h hQ λ _ _ x=>x
variable {Q:ZG->A0->Prop} {c:ZN} {op:CmpOp} {pos:ZP} {ta:TE} {σ:St}
section
inductive Ak (i:Nat) (σ:St) (H:Hp) (Q:VK):Prop
 | mk (v:V) (e:σ[i]? = some (some v)) (q:Q v H)
def hV (i:Nat):TE:=λ σ H Q=>Ak i σ H Q
def tC (v:V):TE:=λ _ H Q=>Q v H
def mY (hN:X.N[i]? = some x) (hv:wY X.env.scope x) (hd:(x == ("__debug__" : ZR))=false:=by decide) (hcd:(x == ("__classdict__" : ZR))=false:=by decide):PE X (.Name x pos) (hV i):=by
 intro j s σ H Q I h;obtain ⟨v,e,h⟩:=h;obtain ⟨m,d,f⟩:=I.loc;obtain ⟨u,r,l⟩:=f i x v hN e hv;have b:EP X j σ Q u s:=⟨v,H,I,r,h⟩
 rcases l with ⟨a,g⟩|⟨a,c,hc,hcell⟩
 ·exact wpAny_Name (wpAny_loadName_local I.ok.kind a d g b) hd
 ·rcases a with a|a
  ·exact wpAny_Name (wpAny_loadName_cell I.ok.kind a hc hcell b) hd
  ·exact wpAny_Name (wpAny_loadName_free I.ok.kind a hc hcell b hcd) hd
def ag {i j pos}:PE X (.Constant (.int i) j pos) (tC (.int i)):=λ _ _ _ H _ I h=>wpAny_Constant_int ⟨.int i,H,I.tok _,⟨_,rfl⟩,h⟩
def eC {b j pos}:PE X (.Constant (.bool b) j pos) (tC (.bl b)):=λ _ _ _ H _ I h=>Constant_bool ⟨.bl b,H,I,rfl,h⟩
def bx {j pos}:PE X (.Constant .none j pos) (tC .non):=λ _ _ _ H _ I h=>Constant_none ⟨.non,H,I,rfl,h⟩
def az {x j pos}:PE X (.Constant (.str x) j pos) (tC (.str x)):=λ _ _ _ H _ I h=>Calls.Constant_str ⟨.str x,H,I.tok _,⟨_,rfl⟩,h⟩
def Gl (X:Cx) (x:ZR):Prop:=X.env.kindOf x=some .globalImplicit
def Ac (I:Inv X pins σ H s) (hg:Gl X x) (hm:X.mg x=some u) (h:Q u s)
  (hd:(x == ("__debug__" : ZR))=false:=by decide):V0 (F1 X.prog X.w) X.A (O3 (.Name x pos) X.env) Q E s:=
 j30 I.ok.kind hg (Calls.loadGlobal_global (by rw [I.ok.glob];exact I.mod.glob.keeps I.bk) hm h) hd
def fV (I:Inv X pins σ H s) (hg:Gl X x) (hm:X.mg x=none) (hv:n8 x=some u) (h:Q u s)
  (hn:x≠"__name__":=by decide) (hd:(x == ("__debug__" : ZR))=false:=by decide):V0 (F1 X.prog X.w) X.A (O3 (.Name x pos) X.env) Q E s:=by
 obtain ⟨c,b,a⟩:=I.mod.blt;exact j30 I.ok.kind hg (Calls.loadGlobal_builtin (by rw [I.ok.glob];exact I.mod.glob.keeps I.bk) hm (by rw [I.ok.blt];exact b.keeps I.bk) ((a x hn).trans hv) h) hd
def qj (hg:Gl X x) (hm:X.mg x=some u) (r:RelV v u) (hd:(x == ("__debug__" : ZR))=false:=by decide):PE X (.Name x pos) (tC v):=
 λ _ _ _ H _ I h=>Ac I hg hm ⟨v,H,I,r,h⟩ hd
def oy (hg:Gl X x) (hm:X.mg x=none) (hv:n8 x=some u) (r:RelV v u) (hn:x≠"__name__":=by decide) (hd:(x == ("__debug__" : ZR))=false:=by decide):PE X (.Name x pos) (tC v):=
 λ _ _ _ H _ I h=>fV I hg hm hv ⟨v,H,I,r,h⟩ hn hd
variable {a b:ZN} {tb:TE} 
def PC (X:Cx) (op:CmpOp) (a b:ZN) (t:TE):Prop:=
 ∀(pins:List (ZS×ZQ)) (s:A0) (σ:St) (H:Hp) (Q:VK),Inv X pins σ H s->t σ H Q->
  V0 (F1 X.prog X.w) X.A (O3 a X.env) (λ v s₁=>V0 (F1 X.prog X.w) X.A (O3 b X.env) (λ u s₂=>V0 (F1 X.prog X.w) X.A (V2 op v u) (EP X pins σ Q) X.xe s₂) X.xe s₁) X.xe s
def tB (t:TE):TT:=λ σ H Q=>t σ H λ x H1=>∃c,x=.bl c/\Q c H1
def rL {t:TE} (h:PC X op a b t) (h1:j9 op b=false:=by first|exact nobehind _ (by decide) (by decide)|rfl):PT X (.Compare a [op] [b] pos) (tB t):=by intro g s σ H Q I f;refine wpAny_isTrue_Compare1 (bb (h g s σ H _ I f) λ v i h1=>bb h1 λ u j e=>bb e λ c k zz=>?_) h1;obtain ⟨x,H1,I1,r1,q1⟩:=zz;obtain ⟨d,rfl,q⟩:=q1;cases r1;exact R4 ⟨H1,I1,q⟩
def cA {t:TE} (h:PE X e t) (he :∀whole,isTrue e X.env whole=(do let v <-whole;j4c e.pos;j2e [v] (truthy v)):=by intro _;rfl):PT X e (tB t):=by intro b s σ H Q I a;refine isTrue_plain (bb (h b s σ H _ I a) λ v c zz=>?_) (he _);obtain ⟨x,H1,I1,r1,q1⟩:=zz;obtain ⟨d,rfl,q⟩:=q1;cases r1;exact R4 ⟨H1,I1,q⟩
variable {tA tB':TT} {rest:List ZN}
def vL (t u:TT):TT:=λ σ H Q=>t σ H λ c H1=>if c=true then u σ H1 Q else Q false H1
def DG (t u:TT):TT:=λ σ H Q=>t σ H λ c H1=>if c=true then Q true H1 else u σ H1 Q
def Ci (t:TT):TT:=λ σ H Q=>t σ H λ c H1=>Q (!c) H1
def xT (ha:PT X a tA):PW X (.BoolOp .And [a] pos) tA:=by
 intro d b s σ H Q I h;refine isTrue_and (bb (ha b s σ H Q I h) λ c f e=>?_);cases c with
 | true=>exact isTrue_and_nil e
 | false=>exact e
def gv (ha:PT X a tA):PW X (.BoolOp .Or [a] pos) tA:=by
 intro d b s σ H Q I h;refine isTrue_or (bb (ha b s σ H Q I h) λ c f e=>?_);cases c with
 | false=>exact isTrue_or_nil e
 | true=>exact e
def gT (ha:PT X a tA) (hb:PW X (.BoolOp .And (b :: rest) pos) tB'):PW X (.BoolOp .And (a :: b :: rest) pos) (vL tA tB'):=by
 intro e d s σ H Q I h;refine isTrue_and (bb (ha d s σ H _ I h) λ c f ⟨H1,I1,q1⟩=>?_);cases c with
 | true=>exact hb e d f σ H1 Q I1 q1
 | false=>exact ⟨H1,I1,q1⟩
def hU (ha:PT X a tA) (hb:PW X (.BoolOp .Or (b :: rest) pos) tB'):PW X (.BoolOp .Or (a :: b :: rest) pos) (DG tA tB'):=by
 intro e d s σ H Q I h;refine isTrue_or (bb (ha d s σ H _ I h) λ c f ⟨H1,I1,q1⟩=>?_);cases c with
 | true=>exact ⟨H1,I1,q1⟩
 | false=>exact hb e d f σ H1 Q I1 q1
def gs (ha:PT X a tA):PT X (.UnaryOp .Not a pos) (Ci tA):=by intro d s σ H Q I h;exact isTrue_not (ha d s σ H (λ c b=>Q (!c) b) I h)
def uh (ta tb:TE):TE:=λ σ H Q=>ta σ H λ x H1=>∃c,x=.bl c/\if c=true then tb σ H1 Q else Q (.bl false) H1
def uN (ta:TE):TE:=λ σ H Q=>ta σ H λ x H1=>∃c,x=.bl c/\Q (.bl (!c)) H1
def dP {op} {t:TE} (h:PE X a t):PE X (.BoolOp op [a] pos) t:=λ c s σ H Q I b=>BoolOp_one (h c s σ H Q I b)
def dv (ha:PE X a ta) (hb:PE X (.BoolOp .And (b :: rest) pos) tb):PE X (.BoolOp .And (a :: b :: rest) pos) (uh ta tb):=by
 intro e s σ H Q I h;refine BoolOp_and (bb (ha e s σ H _ I h) λ v f zz=>?_);obtain ⟨x,H1,I1,r1,d⟩:=zz;obtain ⟨c,rfl,d⟩:=d;cases r1;refine R4 ?_;cases c with
 | true=>exact hb e f σ H1 Q I1 d
 | false=>exact ⟨.bl false,H1,I1,rfl,d⟩
def qx (ha:PE X a ta):PE X (.UnaryOp .Not a pos) (uN ta):=by intro d s σ H Q I h;refine UnaryOp_ (bb (ha d s σ H _ I h) λ v e zz=>?_);obtain ⟨x,H1,I1,r1,b⟩:=zz;obtain ⟨c,rfl,b⟩:=b;cases r1;exact not_of (R4 ⟨.bl (!c),H1,I1,rfl,b⟩)
def Mi (t:TT) (ta tb:TE):TE:=λ σ H Q=>t σ H λ c H1=>if c=true then ta σ H1 Q else tb σ H1 Q
def Ka (hc:PT X c tA) (ha:PE X a ta) (hb:PE X b tb):PE X (.IfExp c a b pos) (Mi tA ta tb):=by
 intro e s σ H Q I h;refine wpAny_IfExp (bb (hc e s σ H _ I h) λ d f ⟨H1,I1,q1⟩=>?_);cases d with
 | true=>exact ha e f σ H1 Q I1 q1
 | false=>exact hb e f σ H1 Q I1 q1
end
def aK (K:b0) (H:Hp) (a:ZS) (xs:List V):Prop:=
 Rd H a (.lst xs)\/
  ∃(o:ZQ) (its:Array ZG) (n:Nat),K.lookup a=some o/\o.cls=.type "list"/\o.dict=none/\o.data=.seq its n/\its.size<=ZF/\aJ xs its.toList
def aH (K:b0) (H:Hp) (a:ZS) (xs:List V):Prop:=
 Rd H a (.tup xs)\/
  ∃(o:ZQ) (its:Array ZG) (n:Nat),K.lookup a=some o/\o.cls=.type "tuple"/\o.data=.seq its n/\its.size<=ZF/\aJ xs its.toList
noncomputable def CD:ZG->Option V
 | .none=>some .non
 | .bool b=>some (.bl b)
 | .int i _=>some (.int i)
 | .str x _=>some (.str x)
 | .bytes b _=>some (.byt b)
 | .float b _=>some (.flt b)
 | .ref a=>some (.ref a)
 | .type n=>some (.ty n)
 | _=>none
def RelV.abs {x:V} (r:RelV x u):CD u=some x:=by
 cases x with
 | non=>cases r;rfl
 | bl _=>cases r;rfl
 | int _=>obtain ⟨t,rfl⟩:=r;rfl
 | str _=>obtain ⟨t,rfl⟩:=r;rfl
 | byt _=>obtain ⟨t,rfl⟩:=r;rfl
 | flt _=>obtain ⟨t,rfl⟩:=r;rfl
 | ref _=>cases r;rfl
 | ty _=>cases r;rfl
variable {y:V}
def RelV.inj {x:V} (r:RelV x u) (q:RelV y u):x=y:=A1 (r.abs.symm.trans q.abs)
theorem aJ.inj:∀{xs ys:List V} {us:List ZG},aJ xs us->aJ ys us->xs=ys
 | _,_,_,.nil,.nil=>rfl
 | _,_,_,.cons r t,.cons r' t'=>by rw [r.inj r',aJ.inj t t']
variable {K:b0}
section
variable {ys:List V}
def aK.of (h:H a=some (.lst xs)):aK K H a xs:=.inl (.inl h)
def aH.of (h:H a=some (.tup xs)):aH K H a xs:=.inl (.inl h)
theorem Inv.list (I:Inv X pins σ H s) (h:aK X.K H a xs) :∃its:List ZG,aJ xs its/\PlainL s.heap a its.toArray/\xs.length<=ZF:=by
 rcases h with h|⟨o,its,n,hk,hc,hd,hs,hz,r⟩
 ·obtain ⟨z,its,n,r,e⟩:=h.ok I.hok;exact ⟨its,r,⟨_,n,e,rfl,rfl,rfl⟩,z⟩
 ·refine ⟨its.toList,r,⟨o,n,I.kIn a o hk,hc,hd,by simpa using hs⟩,?_⟩;have e:=r.length;simp only [R1] at e
  lia
theorem Inv.tuple (I:Inv X pins σ H s) (h:aH X.K H a xs) :∃its:List ZG,aJ xs its/\IsTup s.heap a its.toArray/\xs.length<=ZF:=by
 rcases h with h|⟨o,its,n,hk,hc,hs,hz,r⟩
 ·obtain ⟨z,its,r,p⟩:=h.ok I.hok;exact ⟨its,r,p.1,z⟩
 ·refine ⟨its.toList,r,⟨o,I.kIn a o hk,hc,n,by simpa using hs⟩,?_⟩;have e:=r.length;simp only [R1] at e
  lia
def Inv.list_inj (I:Inv X pins σ H s) (h:aK X.K H a xs) (h':aK X.K H a ys):xs=ys:=by
 obtain ⟨g,r,⟨o,n,e,_,_,d⟩,_⟩:=I.list h;obtain ⟨i,f,⟨k,j,b,_,_,c⟩,_⟩:=I.list h';rw [e] at b;cases b;rw [d] at c;injection c with d1 _;have:g=i:=by simpa using congrArg Array.toList d1
 subst this;exact r.inj f
def Inv.tuple_inj (I:Inv X pins σ H s) (h:aH X.K H a xs) (h':aH X.K H a ys):xs=ys:=by
 obtain ⟨g,r,⟨o,e,_,n,d⟩,_⟩:=I.tuple h;obtain ⟨i,f,⟨k,b,_,j,c⟩,_⟩:=I.tuple h';rw [e] at b;cases b;rw [d] at c;injection c with d1 _;have:g=i:=by simpa using congrArg Array.toList d1
 subst this;exact r.inj f
end
noncomputable abbrev Cx.wish (X:Cx) (E:ZG->A0->Prop):Cx:={ X with xe:=E }
noncomputable abbrev Cx.nox (X:Cx):Cx:=X.wish λ _ _=>False
def Cx.Ok.wish (ok:X.Ok) (E:ZG->A0->Prop):(X.wish E).Ok:=
 ⟨ok.mod,ok.kind,ok.glob,ok.blt,ok.above,ok.inj,ok.has,ok.cab,ok.hd,ok.frames,ok.stk,ok.exf,ok.bs,ok.bsz,ok.noex,ok.exfs,ok.funs,ok.frf⟩
def Cx.Ok.unwish (ok:(X.wish E).Ok):X.Ok:=
 ⟨ok.mod,ok.kind,ok.glob,ok.blt,ok.above,ok.inj,ok.has,ok.cab,ok.hd,ok.frames,ok.stk,ok.exf,ok.bs,ok.bsz,ok.noex,ok.exfs,ok.funs,ok.frf⟩
variable {D:Ends}
section
def Inv.wish (I:Inv X pins σ H s) (E:ZG->A0->Prop):Inv (X.wish E) pins σ H s:=⟨I.ok.wish E,I.os,I.bare,I.base,I.loc,I.cell,I.free,I.freeC,I.pin,I.hok,I.len⟩
def Inv.unwish (I:Inv (X.wish E) pins σ H s):Inv X pins σ H s:=⟨I.ok.unwish,I.os,I.bare,I.base,I.loc,I.cell,I.free,I.freeC,I.pin,I.hok,I.len⟩
def SP.unwish {f:Flow} (h:SP (X.wish E) pins D f s'):SP X pins D f s':=by
 cases f with
 | next=>obtain ⟨b,a,I,q⟩:=h;exact ⟨b,a,I.unwish,q⟩
 | brk=>obtain ⟨b,a,I,q⟩:=h;exact ⟨b,a,I.unwish,q⟩
 | cont=>obtain ⟨b,a,I,q⟩:=h;exact ⟨b,a,I.unwish,q⟩
 | ret u=>obtain ⟨v,b,a,I,r,q⟩:=h;exact ⟨v,b,a,I.unwish,r,q⟩
def jI.nox {st:List ZL} {t:TS} (h:jI X.nox st t):jI X st t:=λ b s σ H D I a=>G3 (h b s σ H D (I.wish _) a) (λ _ _ q=>q.unwish) λ _ _ z=>y4 z
end
variable {te:TE}
section
variable {st:ZL} {rest:List ZL} {t u:TS} 
def mR:TS:=λ D σ H=>D.nx σ H
def gE (t u:TS):TS:=λ D σ H=>t { D with nx:=u D } σ H
def dG:jI X [] mR:=λ _ _ σ H _ I h=>j03 ⟨σ,H,I,h⟩
def aV (h1:PS X st t) (h2:jI X rest u):jI X (st :: rest) (gE t u):=by
 intro a s σ H D I h;refine wpAny_execs_cons (bb (h1 a s σ H { D with nx:=u D } I h) λ f e q=>?_);cases f with
 | next=>obtain ⟨c,b,d,q⟩:=q;exact h2 a e c b D d q
 | ret v=>exact q
 | brk=>exact q
 | cont=>exact q
def aU (h1:PS X st t):jI X [st] t:=by
 intro a s σ H D I h;refine wpAny_execs_cons (bb (h1 a s σ H D I h) λ f b q=>?_);cases f with
 | next=>exact j03 q
 | ret v=>exact q
 | brk=>exact q
 | cont=>exact q
def Inv.quiet (I:Inv X pins σ H s):interactive X.env=false:=by simp [interactive,I.ok.kind]
def tQ (te:TE):TS:=λ D σ H=>te σ H λ _ H1=>D.nx σ H1
def lr (he:PE X e te) (hs:K7 e none pos.line X.env=W1 false:=by rfl):PS X (.Expr e pos) (tQ te):=by intro a s σ H D I h;exact wpAny_Expr_any (bb (he a s σ H _ I h) λ v b ⟨x,H1,I1,r1,q1⟩=>⟨σ,H1,I1,q1⟩) I.quiet hs
def kX (te:TE):TS:=λ D σ H=>te σ H D.rt
def au (he:PE X e te):PS X (.Return (some e) pos) (kX te):=by intro a s σ H D I h;exact wpAny_Return_some (bb (he a s σ H _ I h) λ v b ⟨x,H1,I1,r1,q1⟩=>⟨x,σ,H1,I1,r1,q1⟩)
def k_ (c:TT) (t u:TS):TS:=λ D σ H=>c σ H λ b H1=>if b=true then t D σ H1 else u D σ H1
def aN {a b:List ZL} {tc:TT} (hc:PT X c tc) (ha:jI X a t) (hb:jI X b u):PS X (.If c a b pos) (k_ tc t u):=by
 intro e s σ H D I h;refine wpAny_If (bb (hc e s σ H _ I h) λ d f ⟨H1,I1,q1⟩=>?_);cases d with
 | true=>exact ha e f σ H1 D I1 q1
 | false=>exact hb e f σ H1 D I1 q1
def si:TS:=λ _ _ _=>False
def wW:PS X st si:=λ _ _ _ _ _ _ h=>h.elim
end
noncomputable abbrev TG:=V->St->Hp->(St->Hp->Prop)->Prop
noncomputable abbrev qv:=List V->St->Hp->(St->Hp->Prop)->Prop
def PG (X:Cx) (target:ZN) (t:TG):Prop:=
 ∀(pins:List (ZS×ZQ)) (s:A0) (σ:St) (H:Hp) (v:V) (u:ZG) (Q:St->Hp->Prop),Inv X pins σ H s->RelV v u->t v σ H Q->
  V0 (F1 X.prog X.w) X.A (assign target X.env u) (λ _ s'=>∃σ' H',Inv X pins σ' H' s'/\Q σ' H') X.xe s
def yn (X:Cx) (ts:List ZN) (t:qv):Prop:=
 ∀(pins:List (ZS×ZQ)) (s:A0) (σ:St) (H:Hp) (vs:List V) (us:List ZG) (Q:St->Hp->Prop),Inv X pins σ H s->aJ vs us->t vs σ H Q->
  V0 (F1 X.prog X.w) X.A (assignInOrder ((Z9 ts X.env).map (·.2)) us) (λ _ s'=>∃σ' H',Inv X pins σ' H' s'/\Q σ' H') X.xe s
noncomputable abbrev rP:=V->V->V->Hp->(Hp->Prop)->Prop
def wj (X:Cx) (t:rP):Prop:=
 ∀(pins:List (ZS×ZQ)) (s:A0) (σ:St) (H:Hp) (o i v:V) (ov iv u:ZG) (Q:Hp->Prop),Inv X pins σ H s->RelV o ov->RelV i iv->RelV v u->t o i v H Q->
  V0 (F1 X.prog X.w) X.A (setItem ov iv u) (λ _ s'=>∃H',Inv X pins σ H' s'/\Q H') X.xe s
variable {body:List ZL} {es:List ZN} {n:Nat} {tb:TS} {tg:ZN}
section
def bh (i:Nat):TG:=λ v σ H Q=>Q (σ.set i (some v)) H
def eY (hN:X.N.Nodup) (hi:X.N[i]? = some x) (hx:Loc X.env.scope x) (hf:X.fn x=true\/X.env.scope.names.lookup x=some .local:=by first|exact .inl rfl|exact .inr rfl|assumption):PG X (.Name x pos) (bh i):=by intro b s σ H v u Q I r h;exact wpAny_assign_Name (GU I hN hi hx r (λ c a=>⟨_,H,a,h⟩) hf)
noncomputable def ig:qv:=λ vs σ H Q=>vs=[]/\Q σ H
noncomputable def cN (t:TG) (u:qv):qv:=λ vs σ H Q=>∃v r,vs=v :: r/\t v σ H λ σ' H'=>u r σ' H' Q
def iq:yn X [] ig:=by intro b s σ H c a Q I r h;obtain ⟨e,h⟩:=h;subst e;cases r;exact assignInOrder_nil ⟨σ,H,I,h⟩
def eJ {t:TG} {u:qv} (h1:PG X e t) (h2:yn X es u)
  (hs:(Z9 (e :: es) X.env).map (·.2)=assign e X.env :: (Z9 es X.env).map (·.2):=by rfl):yn X (e :: es) (cN t u):=by
 intro a s σ H d f Q I r h;obtain ⟨v,g,c,h⟩:=h;subst c;cases r with
 | cons r rr=>rw [hs];refine assignInOrder_cons (bb (h1 a s σ H _ _ _ I r h) λ _ b ⟨σ1,H1,I1,q1⟩=>?_);exact h2 a b σ1 H1 _ _ Q I1 rr q1
def ic (K:b0) (n:Nat) (t:qv):TG:=λ v σ H Q=>∃a xs,v=.ref a/\aH K H a xs/\xs.length=n/\t xs σ H Q
def bH {k:Nat} {t:qv} (hc:X.calm=true) (h:yn X es t)
  (hn:(Z9 es X.env).length=n:=by rfl) (hst:(Z9 es X.env).findIdx? (·.1)=none:=by rfl):PG X (.Tuple es k pos) (ic X.K n t):=by
 intro d s σ H v u Q I r c;obtain ⟨a,m,p,i,w,c⟩:=c;subst p;cases r;obtain ⟨x,f,l,y⟩:=I.tuple i;refine assign_Tuple_tuple (I.ok.hd hc) l (by simp [hn,<-w,f.length]) hst λ g q=>?_;have j:Inv X d σ H { s with heap:=g }:=I.kept (t':=s.toks) λ b o e=>q b o (G1 (S0 e)) e;exact h d _ σ H m _ Q j (by simpa using f) c
def Cs (to ti:TE) (t:rP):TG:=λ v σ H Q=>to σ H λ o H1=>ti σ H1 λ i H2=>t o i v H2 λ H3=>Q σ H3
def gu {o i:ZN} {to ti:TE} {t:rP} (ho:PE X o to) (hi:PE X i ti) (hs:wj X t)
  (ha :∀v,assign (.Subscript o i pos) X.env v=(do
   let ov <-j2e [v] (O3 o X.env)
   let iv <-j2e [v,ov] (O3 i X.env)
   j4c pos
   j2e [v,ov,iv] (setItem ov iv v)
   release [v,ov,iv] []):=by intro _;rfl):PG X (.Subscript o i pos) (Cs to ti t):=by
 intro a s σ H v u Q I r h;rw [ha];refine d0 (Z4 (bb (ho a s σ H _ I h) λ ov c zz=>?_));obtain ⟨x,H1,I1,r1,q1⟩:=zz;refine d0 (Z4 (bb (hi a c σ H1 _ I1 q1) λ iv b zz=>?_));obtain ⟨y,H2,I2,r2,q2⟩:=zz;refine d0 (wpAny_standAt (d0 (Z4 (bb (hs a b σ H2 x y v ov iv u _ I2 r1 r2 r q2) λ _ d ⟨H3,I3,q3⟩=>?_))));exact wpAny_release ⟨σ,H3,I3,q3⟩
def jR (te:TE) (g:TG):TS:=λ D σ H=>te σ H λ x H1=>g x σ H1 D.nx
def eG {g:TG} (he:PE X e te) (hg:PG X tg g) (hs:swapsWithSole [tg] e pos.line X.env=W1 false:=by rfl) (hw:swappedStores [tg] e X.env=W1 none:=by rfl)
  (h1:(Z9 [tg] X.env).map (·.2)=[assign tg X.env]:=by rfl):PS X (.Assign [tg] e pos) (jR te g):=by
 intro a s σ H D I h;refine wpAny_Assign_stores (bb (he a s σ H _ I h) λ v b zz=>?_) hs hw;obtain ⟨x,H1,I1,r1,q1⟩:=zz;rw [h1];exact bb (hg a b σ H1 x v _ I1 r1 q1) λ _ c q=>q
def aA {pos':ZP} (hN:X.N.Nodup) (hi:X.N[i]? = some x) (hx:Loc X.env.scope x) (he:PE X e te) (hs:K7 e (some (.Name x pos')) pos.line X.env=W1 false:=by rfl) (hf:X.fn x=true\/X.env.scope.names.lookup x=some .local:=by first|exact .inl rfl|exact .inr rfl|assumption) :
  PS X (.Assign [.Name x pos'] e pos) (jR te (bh i)):=by
 intro b s σ H D I h;refine wpAny_Assign_Name (bb (he b s σ H _ I h) λ v c zz=>?_) hs;obtain ⟨y,H1,I1,r1,q1⟩:=zz;exact GU I1 hN hi hx r1 (λ d a=>⟨_,H1,a,q1⟩) hf
def iG (c:TT) (tb:TS):TS:=λ D σ H=>∃W:Nat->St->Hp->Prop,(∃m,W m σ H)/\∀m σ H,W m σ H->
 c σ H λ b H1=>if b=true then∃N:St->Hp->Prop,(∀σ' H',N σ' H'->∃m',m' < m/\W m' σ' H')/\tb { D with nx:=N,ct:=N,bk:=D.nx } σ H1 else D.nx σ H1
def yD {tc:TT} (hp:PassesOwn (F1 X.prog X.w) X.A X.env X.xe) (hc:PT X c tc) (hb:jI X body tb):PS X (.While c body [] pos) (iG tc tb):=by
 intro j s σ H D I h;obtain ⟨W,⟨r,x⟩,q⟩:=h;refine wpAny_While (codeAny_whileLoop (λ n t=>∃σ' H',Inv X j σ' H' t/\W n σ' H') ?_ r ⟨σ,H,I,x⟩);rintro n u ⟨σ1,H1,I1,w1⟩;refine V5 hp (bb (hc j u σ1 H1 _ I1 (q n σ1 H1 w1)) λ b y ⟨H2,I2,e⟩=>?_);cases b with
 | true=>
  obtain ⟨N,p,e⟩:=e;rw [if_pos rfl];refine V5 hp (bb (hb j y σ1 H2 _ I2 e) λ f z g=>?_);cases f with
  | next=>obtain ⟨d,a,o,k⟩:=g;obtain ⟨m,l,i⟩:=p d a k;exact ⟨m,l,d,a,o,i⟩
  | cont=>obtain ⟨d,a,o,k⟩:=g;obtain ⟨m,l,i⟩:=p d a k;exact ⟨m,l,d,a,o,i⟩
  | brk=>exact g
  | ret v=>exact g
 | false=>rw [if_neg O0];exact j03 ⟨σ1,H2,I2,e⟩
end
structure It where
 go:Nat->Hp->Prop
 yld:Nat->Hp->V->Hp->Prop
 stop:Nat->Hp->Prop
def iN (X:Cx) (pins:List (ZS×ZQ)) (H:Hp) (b:ZS):Prop:=
 H b=none/\b≠X.env.locals/\b∉X.fs/\(b∈X.ex\/X.s₀.heap.objs.size<=b)/\(∀x c,X.env.cells.lookup x=some c->c≠b)/\∀p∈X.pn++pins,p.1≠b
def Inv.fpOk (I:Inv X pins σ H s) (hb:s.heap.objs.size<=b) (hn:H' b=none):iN X pins H' b:=by
 refine ⟨hn,X3 (J1 I.lt hb),I.nofs hb,.inr (D0 I.sz hb),λ x c e z=>?_,λ p a z=>?_⟩
 ·obtain ⟨v,q⟩:=I.cell x c e;exact absurd (J1 q.lt (by rw [z];exact hb)) (Y3 _)
 ·exact absurd (J1 (S0 (I.pin p a).1) (by rw [z];exact hb)) (Y3 _)
structure Turn (P:ZJ) (w:U0) (K:b0) (tg:ZN) (J:It) (fp:List ZS) (it:ZS) (tn:Nat->ZM->Prop):Prop where
 mem:it∈fp
 obj :∀i h,tn i h->∀b∈fp,∃o,h.get? b=some o/\∀v,o.data≠.cell v
 keep :∀i h h',tn i h->(∀b∈fp,∀o,h.get? b=some o->h'.get? b=some o)->tn i h'
 item :∀(X:Cx),X.prog=P->X.w=w->X.K=K->X.calm=true->∀(i:Nat) (pins:List (ZS×ZQ)) (s:A0) (σ:St) (H:Hp) (E:ZG->A0->Prop),Inv X pins σ H s->(∀b∈fp,iN X pins H b)->tn i s.heap->J.go i H->
  V0 (F1 P w) X.A (j54 (.ref it)) (λ r s1=>∃u,r=some u/\
   V0 (F1 P w) X.A (j05 tg (.ref it) u) (λ _ s2=>∃x H',Inv X pins σ H' s2/\RelV x u/\J.yld i H x H'/\tn (i + 1) s2.heap/\∀b∈fp,H' b=none) E s1) E s
 done :∀(X:Cx),X.prog=P->X.w=w->X.K=K->X.calm=true->∀(i:Nat) (pins:List (ZS×ZQ)) (s:A0) (σ:St) (H:Hp) (E:ZG->A0->Prop),Inv X pins σ H s->(∀b∈fp,iN X pins H b)->tn i s.heap->J.stop i H->
  V0 (F1 P w) X.A (j54 (.ref it)) (λ r s1=>r=none/\Inv X pins σ H s1) E s
 self :∀(A:B2) (i:Nat) (s:A0) (Q:ZG->A0->Prop) (E:ZG->A0->Prop),tn i s.heap->Q (.ref it) s->V0 (F1 P w) A (pyIter (.ref it)) Q E s
noncomputable abbrev TI:=St->Hp->(It->Hp->Prop)->Prop
def Ig (X:Cx) (pins:List (ZS×ZQ)) (σ:St) (tg:ZN) (R:It->Hp->Prop) (itv:ZG) (s2:A0):Prop:=
 ∃(it:ZS) (fp:List ZS) (tn:Nat->ZM->Prop) (J:It) (H':Hp),itv=.ref it/\Inv X pins σ H' s2/\Turn X.prog X.w X.K tg J fp it tn/\tn 0 s2.heap/\(∀b∈fp,iN X pins H' b)/\R J H'
def PI (X:Cx) (tg iter:ZN) (wi:TI):Prop:=
 ∀(pins:List (ZS×ZQ)) (s:A0) (σ:St) (H:Hp) (R:It->Hp->Prop),Inv X pins σ H s->wi σ H R->
  V0 (F1 X.prog X.w) X.A (O3 iter X.env) (λ v s1=>V0 (F1 X.prog X.w) X.A (pyIter v) (Ig X pins σ tg R) X.xe s1) X.xe s
def ju {it:ZS} {o:ZQ} {n:String} {vs:Array ZG} {Q:Unit->A0->Prop} (ho:s.heap.get? it=some o) (hc:o.cls=.type n) (hd:o.data=.fields vs)
    (hn:["enumerate","zip","dict_itemiterator","dict_reverseitemiterator","odict_iterator","itertools.zip_longest","itertools.pairwise"].contains n=false) (hQ:Q () s):V0 M A (j05 tg (.ref it) u) Q E s:=by
  unfold j05;cases tg<;>first
    | exact L0 hQ
    | (cases u<;>first
        | exact L0 hQ
        | (refine d0 (wpAny_load ho ?_)
           rw [hc,hd];show V0 M A (if (["enumerate","zip","dict_itemiterator","dict_reverseitemiterator","odict_iterator","itertools.zip_longest","itertools.pairwise"].contains n && vs[0]? == some (j37 _))=true then _ else _) Q E s;rw [if_neg (by intro h;rw [hn,Y7] at h;cases h)];exact L0 hQ))
noncomputable def su (K:b0) (a:ZS):It:=
 ⟨λ i H=>∃xs x,aK K H a xs/\xs[i]? = some x,λ i H x H'=>H'=H/\∀xs,aK K H a xs->xs[i]? = some x,λ i H=>∃xs,aK K H a xs/\xs.length<=i⟩
noncomputable def tw (K:b0) (a:ZS):It:=
 ⟨λ i H=>∃xs x,aH K H a xs/\xs[i]? = some x,λ i H x H'=>H'=H/\∀xs,aH K H a xs->xs[i]? = some x,λ i H=>∃xs,aH K H a xs/\xs.length<=i⟩
noncomputable def rN (lo:Int) (n:Nat):It:=⟨λ i _=>i < n,λ i H x H'=>H'=H/\x=.int (lo + i),λ i _=>n<=i⟩
theorem MS (a it:ZS):Turn P w K tg (su K a) [it] it (λ i h=>h.IsListIter it a i) where
 mem:=by simp
 obj:=λ i h f b g=>by
  have e:b=it:=by simpa using g
  subst e;obtain ⟨o,e,c,d⟩:=f;exact ⟨o,e,λ v z=>by rw [d] at z;cases z⟩
 keep:=λ i h j f k=>f.at λ o e=>k it (by simp) o e
 item:=by intro X A q G M i L s σ H E I m f n;subst A q G;obtain ⟨U,x,l,F⟩:=n;obtain ⟨O,B,p,R⟩:=I.list l;obtain ⟨u,Y,T⟩:=B.get F;obtain ⟨y,D,N,r,C,t⟩:=m it (by simp);refine wpAny_pyNext_list_item f p.isList (x:=u) (by simpa using Y) λ j J V=>?_;have Q:Inv X L σ H { s with heap:=j }:=I.turned (t':=s.toks) (λ b o g e=>(V.2 b g).trans e) y D r C t;obtain ⟨o,e,c,d⟩:=id J;exact ⟨u,rfl,ju (s:={ s with heap:=j }) e c d (by decide) ⟨x,H,Q,T,⟨rfl,λ Z W=>by rw [I.list_inj W l];exact F⟩,J,λ b g=>(m b g).1⟩⟩
 done:=by intro X A q G M i L s σ H E I m f n;subst A q G;obtain ⟨U,l,F⟩:=n;obtain ⟨O,B,p,R⟩:=I.list l;obtain ⟨y,D,N,r,C,t⟩:=m it (by simp);have hl:=B.length;exact wpAny_pyNext_list_end (I.ok.hd M) f p.isList (by simp;lia) λ j S=>⟨rfl,I.turned (t':=s.toks) (λ b o g e=>S b o g e) y D r C t⟩
 self:=λ _ _ _ _ _ f h=>wpAny_pyIter_listiter f h
theorem Qv (a it:ZS):Turn P w K tg (tw K a) [it] it (λ i h=>h.IsTupleIter it a i) where
 mem:=by simp
 obj:=λ i h f b g=>by
  have e:b=it:=by simpa using g
  subst e;obtain ⟨o,e,c,d⟩:=f;exact ⟨o,e,λ v z=>by rw [d] at z;cases z⟩
 keep:=λ i h j f k=>f.at λ o e=>k it (by simp) o e
 item:=by intro X B q J N i M s σ H E I m f n;subst B q J;obtain ⟨U,x,l,G⟩:=n;obtain ⟨r,C,p,R⟩:=I.tuple l;obtain ⟨u,Y,T⟩:=C.get G;obtain ⟨A,F,O,t,D,y⟩:=m it (by simp);refine wpAny_pyNext_tuple_item f (show s.heap.IsTuple a r.toArray from p) (x:=u) (by simpa using Y) λ j L V=>?_;have Q:Inv X M σ H { s with heap:=j }:=I.turned (t':=s.toks) (λ b o g e=>(V.2 b g).trans e) A F t D y;obtain ⟨o,e,c,d⟩:=id L;exact ⟨u,rfl,ju (s:={ s with heap:=j }) e c d (by decide) ⟨x,H,Q,T,⟨rfl,λ Z W=>by rw [I.tuple_inj W l];exact G⟩,L,λ b g=>(m b g).1⟩⟩
 done:=by intro X B q J N i M s σ H E I m f n;subst B q J;obtain ⟨U,l,G⟩:=n;obtain ⟨r,C,p,R⟩:=I.tuple l;obtain ⟨A,F,O,t,D,y⟩:=m it (by simp);have hl:=C.length;exact wpAny_pyNext_tuple_end (I.ok.hd N) f (show s.heap.IsTuple a r.toArray from p) (by simp;lia) λ j S=>⟨rfl,I.turned (t':=s.toks) (λ b o g e=>S b o g e) A F t D y⟩
 self:=λ _ _ _ _ _ f h=>wpAny_pyIter_tupleiter f h
theorem Oq (it:ZS) (lo:Int) (n:Nat):Turn P w K tg (rN lo n) [it] it (λ i h=>IsRangeIter h it (lo + (i:Nat) * 1) ((n:Int) - (i:Nat)) 1) where
 mem:=by simp
 obj:=λ i h a b c=>by
  have e:b=it:=by simpa using c
  subst e;exact ⟨_,a,λ v z=>by have L:j60 _=Data.cell v:=z;cases L⟩
 keep:=λ i h d a k=>k it (by simp) _ a
 item:=by intro X q j x y i C s σ H E I f a g;subst q j x;obtain ⟨p,u,D,l,r,m⟩:=f it (by simp);have W:=Walks.range (prog:=X.prog) (w:=X.w) (I.ok.hd y) it lo 1 n;refine W.item i s _ _ g a λ v d B M A G=>?_;obtain ⟨t,rfl⟩:=M;have F:Inv X C σ H { s with heap:=d,toks:=B }:=I.turned (λ b o c e=>G b o (by simpa using c) e) p u l r m;refine ⟨_,rfl,ju (s:={ s with heap:=d,toks:=B }) (n:="range_iterator") A rfl rfl (by decide) ⟨.int (lo + i),H,F,⟨t,?_⟩,⟨rfl,rfl⟩,A,λ b c=>(f b c).1⟩⟩;rw [Int.mul_one]
 done:=by intro X q j x y i C s σ H E I f a g;subst q j x;obtain ⟨p,u,D,l,r,m⟩:=f it (by simp);exact wpAny_pyNext_range_end (I.ok.hd y) a (by have:n<=i:=g;lia) λ d J=>⟨rfl,I.turned (t':=s.toks) (λ b o c e=>J b o c e) p u l r m⟩
 self:=λ _ _ _ _ _ a h=>wpAny_pyIter_rangeiter a h
variable {fp:List ZS} {p:ZP}
section
def iB (K:b0) (tl:TE):TI:=λ σ H R=>tl σ H λ x H1=>∃a,x=.ref a/\(∃xs,aK K H1 a xs)/\R (su K a) H1
def pN (K:b0) (tl:TE):TI:=λ σ H R=>tl σ H λ x H1=>∃a,x=.ref a/\(∃xs,aH K H1 a xs)/\R (tw K a) H1
def lN {l:ZN} {tl:TE} (hl:PE X l tl):PI X tg l (iB X.K tl):=by
 intro f s σ H R I h;refine bb (hl f s σ H _ I h) λ v c zz=>?_;obtain ⟨x,H1,I1,r1,q1⟩:=zz;obtain ⟨a,e,⟨k,d⟩,q⟩:=q1;subst e;cases r1;obtain ⟨i,m,p,j⟩:=I1.list d;refine j2c p.isList ?_;refine ⟨c.heap.objs.size,[c.heap.objs.size],_,_,H1,rfl,I1.kept (t':=c.toks) λ b o e=>F0 _ e,MS a _,⟨_,Z0 _ rfl,rfl,rfl⟩,λ b g=>?_,q⟩;have e:b=c.heap.objs.size:=by simpa using g
 subst e;exact I1.fpOk (u0 _) (I1.hok.fresh (u0 _))
def eF {l:ZN} {tl:TE} (hl:PE X l tl):PI X tg l (pN X.K tl):=by
 intro g s σ H R I h;refine bb (hl g s σ H _ I h) λ v c zz=>?_;obtain ⟨x,H1,I1,r1,q1⟩:=zz;obtain ⟨a,e,⟨k,f⟩,q⟩:=q1;subst e;cases r1;obtain ⟨d,m,p,j⟩:=I1.tuple f;refine P6 (show c.heap.IsTuple a d.toArray from p) ?_;refine ⟨c.heap.objs.size,[c.heap.objs.size],_,_,H1,rfl,I1.kept (t':=c.toks) λ b o e=>F0 _ e,Qv a _,⟨_,Z0 _ rfl,rfl,rfl⟩,λ b i=>?_,q⟩;have e:b=c.heap.objs.size:=by simpa using i
 subst e;exact I1.fpOk (u0 _) (I1.hok.fresh (u0 _))
theorem Qx {R:It->Hp->Prop} {lo hi:Int} {t u v:Tok} {tk:Nat} (I:Inv X pins σ H s) (h1:-(2 ^ 62)<=lo) (h2:lo < 2 ^ 62) (h3:-(2 ^ 62)<=hi) (h4:hi < 2 ^ 62)
  (q:R (rN lo (hi - lo).toNat) H):V0 (F1 X.prog X.w) X.A (pyIter (.ref s.heap.objs.size)) (Ig X pins σ tg R) E { s with heap:=s.heap.push { cls:=.type "range",data:=.fields #[.int lo t,.int hi u,.int 1 v] },toks:=tk }:=by
 refine wpAny_pyIter_range (IsRange.new ..) (small_one h1 h2 h3 h4) ?_;have a:Inv X pins σ H { s with heap:=s.heap.push { cls:=.type "range",data:=.fields #[.int lo t,.int hi u,.int 1 v] },toks:=tk }:=I.kept λ b o e=>F0 _ e;refine ⟨(s.heap.push { cls:=.type "range",data:=.fields #[.int lo t,.int hi u,.int 1 v] }).objs.size,[(s.heap.push { cls:=.type "range",data:=.fields #[.int lo t,.int hi u,.int 1 v] }).objs.size],_,_,H,rfl,
  a.kept (t':=tk) λ b o e=>F0 _ e,Oq _ lo (hi - lo).toNat,?_,λ b d=>?_,q⟩
 ·have f:lo + ((0:Nat):Int) * 1=lo:=by simp
  have c:(((hi - lo).toNat:Nat):Int) - ((0:Nat):Int)=Builtin.Range.rangeSize lo hi 1:=by rw [rangeSize_one];split<;>lia
  show IsRangeIter _ _ (lo + ((0:Nat):Int) * 1) ((((hi - lo).toNat:Nat):Int) - ((0:Nat):Int)) 1;rw [f,c];exact Z0 _ rfl
 ·have e:b=(s.heap.push { cls:=.type "range",data:=.fields #[.int lo t,.int hi u,.int 1 v] }).objs.size:=by simpa using d
  subst e;exact a.fpOk (u0 _) (a.hok.fresh (u0 _))
def oR (ta:TA):TI:=λ σ H R=>ta σ H λ vs H1=>∃j:Int,vs=[.int j]/\-(2 ^ 62)<=j/\j < 2 ^ 62/\R (rN 0 j.toNat) H1
theorem sZ {a:ZN} {ta:TA} (hg:Gl X "range") (hm:X.mg "range" = none) (ha:PA X [a] ta) (hs:N1 [a] X.env=[(false,O3 a X.env)]:=by rfl):PI X tg (.Call (.Name "range" p) [a] [] pos) (oR ta):=by
 intro d s σ H R I h;refine Call_ (fV I hg hm boot_range (i4 (bb (ha pos d s σ H _ I h) λ f g zz=>?_) hs rfl));obtain ⟨vs,H1,I1,r1,b⟩:=zz;obtain ⟨j,e,b,c,q⟩:=b;subst e;cases r1 with
 | cons r rr=>cases rr;obtain ⟨t,rfl⟩:=r;exact call_range_1 (Qx I1 (by lia) (by lia) b c (by simpa using q))
def wq (wi:TI) (g:TG) (tb:TS):TS:=λ D σ H=>wi σ H λ J H1=>∃W:Nat->Nat->St->Hp->Prop,(∃m,W 0 m σ H1)/\∀i m σ H,W i m σ H->
 (J.stop i H/\D.nx σ H)\/(J.go i H/\∃N:St->Hp->Prop,(∀σ' H',N σ' H'->∃m',m' < m/\W (i + 1) m' σ' H')/\∀x H',J.yld i H x H'->g x σ H' λ σ2 H2=>tb { D with nx:=N,ct:=N,bk:=D.nx } σ2 H2)
noncomputable def fo (fp:List ZS) (h:ZM):List (ZS×ZQ):=fp.filterMap λ b=>(h.get? b).map λ o=>(b,o)
def xh {o:ZQ} (hb:b∈fp) (e:h.get? b=some o):(b,o)∈fo fp h:=List.mem_filterMap.mpr ⟨b,hb,by rw [e];rfl⟩
def EA {p:ZS×ZQ} (hp:p∈fo fp h):p.1∈fp/\h.get? p.1=some p.2:=by
 obtain ⟨b,c,e⟩:=List.mem_filterMap.mp hp;cases q:h.get? b with
 | none=>rw [q] at e;cases e
 | some o=>rw [q] at e;have a:(b,o)=p:=A1 e;subst a;exact ⟨c,q⟩
def Inv.pinned (I:Inv X pins σ H s) (hf :∀b∈fp,iN X pins H b) (ho :∀b∈fp,∃o,s.heap.get? b=some o/\∀v,o.data≠.cell v):Inv X (pins++fo fp s.heap) σ H s:=
 I.pins_of λ p g=>(List.mem_append.mp g).elim (λ z=>I.pin p (Q1 _ z)) λ z=>by obtain ⟨c,e⟩:=EA z;obtain ⟨i,h,f,_⟩:=hf p.1 c;obtain ⟨o,a,d⟩:=ho p.1 c;rw [e] at a;cases a;exact ⟨e,i,h,f,d⟩
def Inv.unpinned {pl:List (ZS×ZQ)} (I:Inv X (pins++pl) σ H s):Inv X pins σ H s:=I.pins_of λ p a=>I.pin p (Q1 _ (z7 _ a))
def bO {iter:ZN} {wi:TI} {g:TG} (hp:PassesOwn (F1 X.prog X.w) X.A X.env X.xe) (hc:X.calm=true) (hi:PI X tg iter wi) (hg:PG X tg g) (hb:jI X body tb)
  (hs :∀x,Z5 iter X.env x=W1 x:=by intro _;rfl):PS X (.For tg iter body [] pos) (wq wi g tb):=by
 intro l s σ H D I h;refine wpAny_For (bb (hi l s σ H _ I h) λ v s1 V=>bb V λ a2 s2 K=>?_) hs;obtain ⟨it,p,B,J,H2,e,L,T,R,z,W,⟨S,w0⟩,M⟩:=K;subst e
 -- what stays true of the iterator's objects through the loop
 have t :∀{H':Hp},(∀b∈p,H' b=none)->∀b∈p,iN X l H' b:=λ Y b hb=>⟨Y b hb,(z b hb).2⟩
 refine codeAny_forLoop_any (λ n C=>∃i σ' H',Inv X l σ' H' C/\B i C.heap/\(∀b∈p,H' b=none)/\W i n σ' H') ?_ S ⟨0,σ,H2,L,R,λ b hb=>(z b hb).1,w0⟩;rintro n F ⟨i,σ3,H3,I3,st3,fr3,w3⟩;rcases M i n σ3 H3 w3 with ⟨a0,U⟩|⟨go,N,hN,step⟩
 ·refine V5 hp (bb (T.done X rfl rfl rfl hc i l F σ3 H3 X.xe I3 (t fr3) st3 a0) λ r s4 ⟨hr,I4⟩=>?_);subst hr;exact j03 ⟨σ3,H3,I4,U⟩
 ·refine V5 hp (bb (T.item X rfl rfl rfl hc i l F σ3 H3 X.xe I3 (t fr3) st3 go) λ r s4 ⟨u,hr,h4⟩=>?_);subst hr;refine V5 hp (bb h4 λ _ G zz=>?_);obtain ⟨x,H5,I5,r5,y5,st5,fr5⟩:=zz;have a1:=I5.pinned (t fr5) (T.obj _ _ st5);refine V5 hp (bb (hg _ G σ3 H5 x u _ a1 r5 (step x H5 y5)) λ _ s6 ⟨σ6,H6,I6,q6⟩=>?_);refine V5 hp (bb (hb _ s6 σ6 H6 _ I6 q6) λ f y k=>?_);have E :∀{c:St} {a:Hp},Inv X (l++fo p G.heap) c a y->N c a->∃m,m < n/\∃i σ' H',Inv X l σ' H' y/\B i y.heap/\(∀b∈p,H' b=none)/\W i m σ' H':=λ {c a} j q=>by obtain ⟨m',Q,Z⟩:=hN c a q;refine ⟨m',Q,i + 1,c,a,j.unpinned,T.keep _ _ _ st5 λ b hb o e=>(j.pin (b,o) (Q1 _ (Q1 _ (xh hb e)))).1,λ b hb=>?_,Z⟩;obtain ⟨o,e,d⟩:=T.obj _ _ st5 b hb;exact (j.pin (b,o) (Q1 _ (Q1 _ (xh hb e)))).2.1
  cases f with
  | next=>obtain ⟨c,a,j,q⟩:=k;exact E j q
  | cont=>obtain ⟨c,a,j,q⟩:=k;exact E j q
  | brk=>obtain ⟨c,a,j,k⟩:=k;exact ⟨c,a,j.unpinned,k⟩
  | ret v=>obtain ⟨P,c,a,j,O,k⟩:=k;exact ⟨P,c,a,j.unpinned,O,k⟩
end
theorem pT {g:TG} (Pv:Nat->St->Hp->Prop) (h0:Pv 0 σ H) (hl :∀i σ H,i<=xs.length->Pv i σ H->aK K H a xs)
  (hs :∀i x σ H,xs[i]? = some x->Pv i σ H->g x σ H λ σ2 H2=>tb { D with nx:=Pv (i + 1),ct:=Pv (i + 1),bk:=D.nx } σ2 H2) (hd :∀σ H,Pv xs.length σ H->D.nx σ H) :
  ∃W:Nat->Nat->St->Hp->Prop,(∃m,W 0 m σ H)/\∀i m σ H,W i m σ H->
   ((su K a).stop i H/\D.nx σ H)\/((su K a).go i H/\∃N:St->Hp->Prop,(∀σ' H',N σ' H'->∃m',m' < m/\W (i + 1) m' σ' H')/\∀x H',(su K a).yld i H x H'->g x σ H' λ σ2 H2=>tb { D with nx:=N,ct:=N,bk:=D.nx } σ2 H2):=by
 refine ⟨λ i m σ H=>m=xs.length - i/\i<=xs.length/\Pv i σ H,⟨xs.length,by simp,S1 _,h0⟩,?_⟩;rintro i m σ H ⟨rfl,hi,p⟩;have q:=hl i σ H hi p;by_cases hlt:i < xs.length
 ·refine .inr ⟨⟨xs,xs[i],q,by simp [hlt]⟩,Pv (i + 1),λ σ' H' b=>⟨xs.length - (i + 1),by lia,rfl,hlt,b⟩,λ x H' y=>?_⟩;obtain ⟨e,y⟩:=y;subst e;exact hs i x σ _ (y xs q) p
 ·have e:i=xs.length:=by lia
  subst e;exact .inl ⟨⟨xs,q,u0 _⟩,hd σ H p⟩
theorem GR {g:TG} (Pv:Nat->St->Hp->Prop) (h0:Pv 0 σ H) (hl :∀i σ H,i<=xs.length->Pv i σ H->aH K H a xs)
  (hs :∀i x σ H,xs[i]? = some x->Pv i σ H->g x σ H λ σ2 H2=>tb { D with nx:=Pv (i + 1),ct:=Pv (i + 1),bk:=D.nx } σ2 H2) (hd :∀σ H,Pv xs.length σ H->D.nx σ H) :
  ∃W:Nat->Nat->St->Hp->Prop,(∃m,W 0 m σ H)/\∀i m σ H,W i m σ H->
   ((tw K a).stop i H/\D.nx σ H)\/((tw K a).go i H/\∃N:St->Hp->Prop,(∀σ' H',N σ' H'->∃m',m' < m/\W (i + 1) m' σ' H')/\∀x H',(tw K a).yld i H x H'->g x σ H' λ σ2 H2=>tb { D with nx:=N,ct:=N,bk:=D.nx } σ2 H2):=by
 refine ⟨λ i m σ H=>m=xs.length - i/\i<=xs.length/\Pv i σ H,⟨xs.length,by simp,S1 _,h0⟩,?_⟩;rintro i m σ H ⟨rfl,hi,p⟩;have q:=hl i σ H hi p;by_cases hlt:i < xs.length
 ·refine .inr ⟨⟨xs,xs[i],q,by simp [hlt]⟩,Pv (i + 1),λ σ' H' b=>⟨xs.length - (i + 1),by lia,rfl,hlt,b⟩,λ x H' y=>?_⟩;obtain ⟨e,y⟩:=y;subst e;exact hs i x σ _ (y xs q) p
 ·have e:i=xs.length:=by lia
  subst e;exact .inl ⟨⟨xs,q,u0 _⟩,hd σ H p⟩
theorem ub {lo:Int} {g:TG} (Pv:Nat->St->Hp->Prop) (h0:Pv 0 σ H)
  (hs :∀i σ H,i < n->Pv i σ H->g (.int (lo + i)) σ H λ σ2 H2=>tb { D with nx:=Pv (i + 1),ct:=Pv (i + 1),bk:=D.nx } σ2 H2) (hd :∀σ H,Pv n σ H->D.nx σ H) :
  ∃W:Nat->Nat->St->Hp->Prop,(∃m,W 0 m σ H)/\∀i m σ H,W i m σ H->
   ((rN lo n).stop i H/\D.nx σ H)\/((rN lo n).go i H/\∃N:St->Hp->Prop,(∀σ' H',N σ' H'->∃m',m' < m/\W (i + 1) m' σ' H')/\∀x H',(rN lo n).yld i H x H'->g x σ H' λ σ2 H2=>tb { D with nx:=N,ct:=N,bk:=D.nx } σ2 H2):=by
 refine ⟨λ i m σ H=>m=n - i/\i<=n/\Pv i σ H,⟨n,by simp,S1 _,h0⟩,?_⟩;rintro i m σ H ⟨rfl,hi,p⟩;by_cases hlt:i < n
 ·refine .inr ⟨hlt,Pv (i + 1),λ σ' H' a=>⟨n - (i + 1),by lia,rfl,hlt,a⟩,λ x H' y=>?_⟩;obtain ⟨e,y⟩:=y;subst e y;exact hs i σ _ hlt p
 ·have e:i=n:=by lia
  subst e;exact .inl ⟨u0 _,hd σ H p⟩
noncomputable abbrev R2:=V->V->Hp->VK->Prop
def eA (X:Cx) (f:ZG->ZG->ZO ZG) (r:R2):Prop:=
 ∀(pins:List (ZS×ZQ)) (s:A0) (σ:St) (H:Hp) (x y:V) (v u:ZG) (Q:VK),Inv X pins σ H s->RelV x v->RelV y u->r x y H Q->
  V0 (F1 X.prog X.w) X.A (f v u) (EP X pins σ Q) X.xe s
def BV (X:Cx) (f:ZG->ZO ZG) (r:V->Hp->VK->Prop):Prop:=
 ∀(pins:List (ZS×ZQ)) (s:A0) (σ:St) (H:Hp) (x:V) (v:ZG) (Q:VK),Inv X pins σ H s->RelV x v->r x H Q->
  V0 (F1 X.prog X.w) X.A (f v) (EP X pins σ Q) X.xe s
def cc (X:Cx) (f:ZG) (r:List V->Hp->VK->Prop):Prop:=
 ∀(pins:List (ZS×ZQ)) (s:A0) (σ:St) (H:Hp) (xs:List V) (us:List ZG) (Q:VK),Inv X pins σ H s->aJ xs us->r xs H Q->
  V0 (F1 X.prog X.w) X.A (call f us) (EP X pins σ Q) X.xe s
def jQ (r:R2) (ta tb:TE):TE:=λ σ H Q=>ta σ H λ x H1=>tb σ H1 λ y H2=>r x y H2 Q
def Ry (r:V->Hp->VK->Prop) (ta:TE):TE:=λ σ H Q=>ta σ H λ x H1=>r x H1 Q
inductive RI (C:Int->Int->Prop) (g:Int->Int->V) (x y:V) (H:Hp) (Q:VK):Prop
 | mk (i j:Int) (a:x=.int i) (b:y=.int j) (c:C i j) (q:Q (g i j) H)
def rI (C:Int->Int->Prop) (g:Int->Int->V):R2:=λ x y H Q=>RI C g x y H Q
inductive Kj (g:Int->Int->V) (x y:V) (H:Hp) (Q:VK):Prop
 | mk (i j:Int) (a:x=.int i) (b:y=.int j) (q:Q (g i j) H)
def oW (g:Int->Int->V):R2:=λ x y H Q=>Kj g x y H Q
def rU (g:Int->V):V->Hp->VK->Prop:=λ x H Q=>∃i,x=.int i/\Q (g i) H
variable {f:ZG->ZG->ZO ZG} {r:R2}
section
variable {a b:ZN} {tb tc:TE} 
def sd (ha:PE X a ta) (hb:PE X b tb) {R:V->V->Hp->Prop} (I:Inv X pins σ H s)
  (h:ta σ H λ x H1=>tb σ H1 λ y H2=>R x y H2) {Q:ZG->A0->Prop} {f:ZG->ZG->ZO ZG}
  (hf :∀v u s2 x y H2,Inv X pins σ H2 s2->RelV x v->RelV y u->R x y H2->V0 (F1 X.prog X.w) X.A (f v u) Q X.xe s2) :
  V0 (F1 X.prog X.w) X.A (O3 a X.env) (λ v s₁=>V0 (F1 X.prog X.w) X.A (O3 b X.env) (λ u s₂=>V0 (F1 X.prog X.w) X.A (f v u) Q X.xe s₂) X.xe s₁) X.xe s:=by
 refine bb (ha pins s σ H _ I h) λ v c zz=>?_;obtain ⟨x,H1,I1,r1,q1⟩:=zz;refine bb (hb pins c σ H1 _ I1 q1) λ u s2 zz=>?_;obtain ⟨y,H2,I2,r2,q2⟩:=zz;exact hf v u s2 x y H2 I2 r1 r2 q2
def aQ {op:Operator} (ho:eA X (z5 op) r) (ha:PE X a ta) (hb:PE X b tb):PE X (.BinOp a op b pos) (jQ r ta tb):=by intro i s σ H Q I h;exact wpAny_BinOp (sd ha hb I h λ v u d x y g c e f q=>ho i d σ g x y v u Q c e f q)
def mP {op:UnaryOp} {r:V->Hp->VK->Prop} (ho:BV X (unaryOp op) r) (ha:PE X a ta):PE X (.UnaryOp op a pos) (Ry r ta):=by intro b s σ H Q I h;exact UnaryOp_ (bb (ha b s σ H _ I h) λ v c ⟨x,H1,I1,r1,q1⟩=>ho b c σ H1 x v Q I1 r1 q1)
def xA {C:Int->Int->Prop} {g:Int->Int->Int}
  (rule :∀(i j:Int) (t u:Tok) (s:A0) (Q:ZG->A0->Prop) (E:ZG->A0->Prop),C i j->Q (.int (g i j) s.toks) { s with toks:=s.toks + 1 }->V0 (F1 X.prog X.w) X.A (f (.int i t) (.int j u)) Q E s) :
  eA X f (rI C λ i j=>.int (g i j)):=by
 intro e s σ H x y v u Q I a c h;obtain ⟨i,j,rfl,rfl,d,q⟩:=h;obtain ⟨t,rfl⟩:=a;obtain ⟨b,rfl⟩:=c;exact rule i j t b s _ _ d ⟨.int (g i j),H,I.tok _,⟨_,rfl⟩,q⟩
def uu {g:Int->Int->Int}
  (rule :∀(i j:Int) (t u:Tok) (s:A0) (Q:ZG->A0->Prop) (E:ZG->A0->Prop),Q (.int (g i j) s.toks) { s with toks:=s.toks + 1 }->V0 (F1 X.prog X.w) X.A (f (.int i t) (.int j u)) Q E s) :
  eA X f (oW λ i j=>.int (g i j)):=by
 intro d s σ H x y v u Q I a c h;obtain ⟨i,j,rfl,rfl,q⟩:=h;obtain ⟨t,rfl⟩:=a;obtain ⟨b,rfl⟩:=c;exact rule i j t b s _ _ ⟨.int (g i j),H,I.tok _,⟨_,rfl⟩,q⟩
def pY {g:Int->Int->Bool}
  (rule :∀(i j:Int) (t u:Tok) (s:A0) (Q:ZG->A0->Prop) (E:ZG->A0->Prop),Q (.bool (g i j)) s->V0 (F1 X.prog X.w) X.A (f (.int i t) (.int j u)) Q E s) :
  eA X f (oW λ i j=>.bl (g i j)):=by
 intro d s σ H x y v u Q I a c h;obtain ⟨i,j,rfl,rfl,q⟩:=h;obtain ⟨t,rfl⟩:=a;obtain ⟨b,rfl⟩:=c;exact rule i j t b s _ _ ⟨.bl (g i j),H,I,rfl,q⟩
def uE (i j:Int):Prop:=0<=j/\j<=1000000/\i.natAbs < 2 ^ 64
def pG (i j:Int):Prop:=(-(2 ^ 64) < i/\i < 2 ^ 64)\/(-(2 ^ 64) < j/\j < 2 ^ 64)
def pG.ok {i j:Int} (h:pG i j):IntMulOk i j:=by
 rcases h with ⟨b,a⟩|⟨b,a⟩
 ·exact .of_left (intBits_le_64 b a)
 ·exact .of_right (intBits_le_64 b a)
def qM:eA X (z5 .Add) (oW λ i j=>.int (i + j)):=uu λ _ _ _ _ _ _ _ q=>add_int q
def rf:eA X (z5 .Sub) (oW λ i j=>.int (i - j)):=uu λ _ _ _ _ _ _ _ q=>sub_int q
def gb:eA X (z5 .Mult) (rI pG λ i j=>.int (i * j)):=xA λ _ _ _ _ _ _ _ a q=>mul_int q a.ok
theorem gc:eA X (z5 .Mod) (rI (λ _ j=>0 < j) λ i j=>.int (i % j)):=xA λ i j _ _ _ _ _ a q=>by have b:(0:Int) < j:=a;exact mod_int' (by lia) (by rw [Int.fmod_eq_emod_of_nonneg i (by lia)];exact q)
def mz:eA X (z5 .Pow) (rI uE λ i j=>.int (i ^ j.toNat)):=xA λ _ _ _ _ _ _ _ a q=>pow_int_small a.1 a.2.1 a.2.2 q
def KZ {f:ZG->ZO ZG} {g:Int->Int}
  (rule :∀(i:Int) (t:Tok) (s:A0) (Q:ZG->A0->Prop) (E:ZG->A0->Prop),Q (.int (g i) s.toks) { s with toks:=s.toks + 1 }->V0 (F1 X.prog X.w) X.A (f (.int i t)) Q E s) :
  BV X f (rU λ i=>.int (g i)):=by
 intro b s σ H x v Q I a h;obtain ⟨i,rfl,q⟩:=h;obtain ⟨t,rfl⟩:=a;exact rule i t s _ _ ⟨.int (g i),H,I.tok _,⟨_,rfl⟩,q⟩
def kb:BV X (unaryOp .USub) (rU λ i=>.int (-i)):=KZ λ _ _ _ _ _ q=>neg_int q
end
noncomputable def scal:V->V->Bool
 | .non,.non=>true | .non,.int _=>true | .int _,.non=>true | .non,.bl _=>true | .bl _,.non=>true | .non,.str _=>true | .str _,.non=>true
 | .int _,.int _=>true | .bl _,.bl _=>true | .str _,.str _=>true | .byt _,.byt _=>true
 | .int _,.str _=>true | .str _,.int _=>true | .bl _,.str _=>true | .str _,.bl _=>true
 | _,_=>false
def IF:R2:=λ x y H Q=>scal x y=true/\Q (.bl (decide (x=y))) H
def DB:R2:=λ x y H Q=>scal x y=true/\Q (.bl (!decide (x=y))) H
def Ex {i j:Int}:decide (V.int i=V.int j)=(i == j):=by rw [Bool.eq_iff_iff];simp
def nk {i j:Bool}:decide (V.bl i=V.bl j)=(i == j):=by rw [Bool.eq_iff_iff];simp
def Iy {i j:ZR}:decide (V.str i=V.str j)=(i == j):=by rw [Bool.eq_iff_iff];simp
def DP {i j:Array UInt8}:decide (V.byt i=V.byt j)=(i.toList == j.toList):=by rw [Bool.eq_iff_iff];cases i;cases j;simp
section
variable {a b:ZN} {tb tc:TE} 
def aS {Q:VK} {k k':Bool} (I:Inv X pins σ H s) (q:Q (.bl k) H) (e:k=k'):EP X pins σ Q (.bool k') s:=by subst e;exact ⟨.bl k,H,I,rfl,q⟩
def vp:eA X (V2 .Eq) IF:=by
 intro e s σ H x y v u Q I d a h;obtain ⟨c,q⟩:=h;cases x with
 | non=>
  cases d;cases y with
  | non=>cases a;exact PySem.EqNone.eq_none_none (aS I q (by simp))
  | bl j=>cases a;exact PySem.EqNone.eq_none_bool (aS I q (by simp))
  | int j=>obtain ⟨b,rfl⟩:=a;exact PySem.EqNone.eq_none_int (aS I q (by simp))
  | str j=>obtain ⟨b,rfl⟩:=a;exact PySem.EqNone.eq_none_str (aS I q (by simp))
  | _=>exact absurd (show false=true from c) O0
 | bl i=>
  cases d;cases y with
  | non=>cases a;exact PySem.EqNone.eq_bool_none (aS I q (by simp))
  | bl j=>cases a;exact eq_bool (aS I q nk)
  | str j=>obtain ⟨b,rfl⟩:=a;exact PySem.EqMixed.eq_bool_str (aS I q (by simp))
  | _=>exact absurd (show false=true from c) O0
 | int i=>
  obtain ⟨t,rfl⟩:=d;cases y with
  | non=>cases a;exact PySem.EqNone.eq_int_none (aS I q (by simp))
  | int j=>obtain ⟨b,rfl⟩:=a;exact eq_int (aS I q Ex)
  | str j=>obtain ⟨b,rfl⟩:=a;exact PySem.EqMixed.eq_int_str (aS I q (by simp))
  | _=>exact absurd (show false=true from c) O0
 | str i=>
  obtain ⟨t,rfl⟩:=d;cases y with
  | non=>cases a;exact PySem.EqNone.eq_str_none (aS I q (by simp))
  | bl j=>cases a;exact PySem.EqMixed.eq_str_bool (aS I q (by simp))
  | int j=>obtain ⟨b,rfl⟩:=a;exact PySem.EqMixed.eq_str_int (aS I q (by simp))
  | str j=>obtain ⟨b,rfl⟩:=a;exact eq_str (aS I q Iy)
  | _=>exact absurd (show false=true from c) O0
 | byt i=>
  obtain ⟨t,rfl⟩:=d;cases y with
  | byt j=>obtain ⟨b,rfl⟩:=a;exact PySem.W.eq_bytes (aS I q DP)
  | _=>exact absurd (show false=true from c) O0
 | _=>cases y<;>exact absurd (show false=true from c) O0
def uK:eA X (V2 .NotEq) DB:=by
 intro e s σ H x y v u Q I d a h;obtain ⟨c,q⟩:=h;cases x with
 | non=>
  cases d;cases y with
  | non=>cases a;exact PySem.EqNone.ne_none_none (aS I q (by simp))
  | bl j=>cases a;exact PySem.EqNone.ne_none_bool (aS I q (by simp))
  | int j=>obtain ⟨b,rfl⟩:=a;exact PySem.EqNone.ne_none_int (aS I q (by simp))
  | str j=>obtain ⟨b,rfl⟩:=a;exact PySem.EqNone.ne_none_str (aS I q (by simp))
  | _=>exact absurd (show false=true from c) O0
 | bl i=>
  cases d;cases y with
  | non=>cases a;exact PySem.EqNone.ne_bool_none (aS I q (by simp))
  | bl j=>cases a;exact ne_bool (aS I q (congrArg not nk))
  | str j=>obtain ⟨b,rfl⟩:=a;exact PySem.EqMixed.ne_bool_str (aS I q (by simp))
  | _=>exact absurd (show false=true from c) O0
 | int i=>
  obtain ⟨t,rfl⟩:=d;cases y with
  | non=>cases a;exact PySem.EqNone.ne_int_none (aS I q (by simp))
  | int j=>obtain ⟨b,rfl⟩:=a;exact ne_int (aS I q (congrArg not Ex))
  | str j=>obtain ⟨b,rfl⟩:=a;exact PySem.EqMixed.ne_int_str (aS I q (by simp))
  | _=>exact absurd (show false=true from c) O0
 | str i=>
  obtain ⟨t,rfl⟩:=d;cases y with
  | non=>cases a;exact PySem.EqNone.ne_str_none (aS I q (by simp))
  | bl j=>cases a;exact PySem.EqMixed.ne_str_bool (aS I q (by simp))
  | int j=>obtain ⟨b,rfl⟩:=a;exact PySem.EqMixed.ne_str_int (aS I q (by simp))
  | str j=>obtain ⟨b,rfl⟩:=a;exact ne_str (aS I q (congrArg not Iy))
  | _=>exact absurd (show false=true from c) O0
 | byt i=>
  obtain ⟨t,rfl⟩:=d;cases y with
  | byt j=>obtain ⟨b,rfl⟩:=a;exact PySem.W.ne_bytes (aS I q (congrArg not DP))
  | _=>exact absurd (show false=true from c) O0
 | _=>cases y<;>exact absurd (show false=true from c) O0
def ij:eA X (V2 .Lt) (oW λ i j=>.bl (decide (i < j))):=pY λ _ _ _ _ _ _ _ q=>lt_int q
def oU:eA X (V2 .LtE) (oW λ i j=>.bl (decide (i<=j))):=pY λ _ _ _ _ _ _ _ q=>le_int q
def oM:eA X (V2 .Gt) (oW λ i j=>.bl (decide (j < i))):=pY λ _ _ _ _ _ _ _ q=>gt_int q
def gW:eA X (V2 .Is) (λ x y H Q=>y=.non/\Q (.bl (decide (x=.non))) H):=by
 intro c s σ H x y v u Q I a b h;obtain ⟨rfl,q⟩:=h;cases b;refine is_none_gen (aS I q ?_);cases x<;>first
  | (cases a;rfl)
  | (obtain ⟨t,rfl⟩:=a;rfl)
def oE:eA X (V2 .IsNot) (λ x y H Q=>y=.non/\Q (.bl (!decide (x=.non))) H):=by
 intro c s σ H x y v u Q I a b h;obtain ⟨rfl,q⟩:=h;cases b;refine isnot_none_gen (aS I q ?_);cases x<;>first
  | (cases a;rfl)
  | (obtain ⟨t,rfl⟩:=a;rfl)
def eA.or {r':R2} (h:eA X f r) (h':eA X f r'):eA X f (λ x y H Q=>r x y H Q\/r' x y H Q):=by
 intro c s σ H x y v u Q I a b q;rcases q with q|q
 ·exact h c s σ H x y v u Q I a b q
 ·exact h' c s σ H x y v u Q I a b q
def aC (b:ZN) (h:op≠.In:=by decide) (h2:op≠.NotIn:=by decide):j9 op b=false:=by
 have c:(op == CmpOp.In)=false:=by cases op<;>first|rfl|exact absurd rfl h
 have a:(op == CmpOp.NotIn)=false:=by cases op<;>first|rfl|exact absurd rfl h2
 cases b<;>simp [j9,c,a]
def gU (ho:eA X (V2 op) r) (ha:PE X a ta) (hb:PE X b tb) (hm:j9 op b=false):PE X (.Compare a [op] [b] pos) (jQ r ta tb):=by intro i s σ H Q I h;exact wpAny_Compare1 (sd ha hb I h λ v u d x y g c e f q=>ho i d σ g x y v u Q c e f q) hm
def oT (t:TE):TT:=λ σ H Q=>t σ H λ x H'=>∃k,x=.bl k/\Q k H'
def cI (ho:eA X (V2 op) r) (ha:PE X a ta) (hb:PE X b tb) (hm:j9 op b=false):PT X (.Compare a [op] [b] pos) (oT (jQ r ta tb)):=by
 intro d s σ H Q I h;refine wpAny_isTrue_Compare1 (bb (ha d s σ H _ I h) λ v f ⟨x,H1,I1,r1,q1⟩=>bb (hb d f σ H1 _ I1 q1) λ u g ⟨y,H2,I2,r2,q2⟩=>bb (ho d g σ H2 x y v u _ I2 r1 r2 q2) λ c i zz=>?_) hm;obtain ⟨z,H3,I3,r3,k,e,q3⟩:=zz;subst e;cases r3;exact R4 ⟨H3,I3,q3⟩
def rC (r r':R2) (ta tb tc:TE):TE:=λ σ H Q=>ta σ H λ x H1=>tb σ H1 λ y H2=>r x y H2 λ z H3=>∃k,z=.bl k/\
 (if k=true then tc σ H3 λ w' H4=>r' y w' H4 Q else Q (.bl false) H3)
def Mb {op':CmpOp} {r':R2} (ho:eA X (V2 op) r) (ho':eA X (V2 op') r') (ha:PE X a ta) (hb:PE X b tb) (hc:PE X c tc)
  (hm:lastMarks [op,op'] [b,c]=false:=by with_unfolding_all rfl):PE X (.Compare a [op,op'] [b,c] pos) (rC r r' ta tb tc):=by
 intro f s σ H Q I h;refine Compare_chain (bb (ha f s σ H _ I h) λ v g ⟨x,H1,I1,r1,q1⟩=>chain_link (bb (hb f g σ H1 _ I1 q1) λ u l ⟨y,H2,I2,r2,q2⟩=>bb (ho f l σ H2 x y v u _ I2 r1 r2 q2) λ d m zz=>?_)) hm;obtain ⟨z,H3,I3,r3,k,e,q3⟩:=zz;subst e;cases r3;refine R4 ?_;cases k with
 | false=>exact ite_ff ⟨.bl false,H3,I3,rfl,q3⟩
 | true=>exact ite_tt (chain_last (bb (hc f m σ H3 _ I3 q3) λ i j ⟨z',H4,I4,r4,q4⟩=>ho' f j σ H4 y z' u i Q I4 r2 r4 q4))
def gw:(ZF:Nat) < 2 ^ 63:=by rw [sizeLine_eq];decide
def j_:eA X (z5 .Add) (λ x y H Q=>∃i j,x=.str i/\y=.str j/\i.length + j.length<=ZF/\Q (.str (i++j)) H):=by intro f s σ H x y v u Q I c a h;obtain ⟨i,j,rfl,rfl,b,q⟩:=h;obtain ⟨t,rfl⟩:=c;obtain ⟨d,rfl⟩:=a;exact add_str (λ d e=>⟨.str (i++j),H,I.tok _,⟨_,rfl⟩,q⟩) b
def vals1 {x:V} (r:aJ [x] us) :∃u,us=[u]/\RelV x u:=by
 cases r with
 | cons r1 r2=>cases r2;exact ⟨_,rfl,r1⟩
def vals2 {x:V} (r:aJ [x,y] us) :∃u w',us=[u,w']/\RelV x u/\RelV y w':=by
 cases r with
 | cons r1 r2=>
  cases r2 with
  | cons r3 r4=>cases r4;exact ⟨_,_,rfl,r1,r3⟩
def ON (hc:X.calm=true):cc X (.builtin "max") (λ xs H Q=>∃i j,xs=[.int i,.int j]/\Q (.int (if j > i then j else i)) H):=by
 intro f s σ H xs b Q I r h;obtain ⟨i,j,rfl,q⟩:=h;obtain ⟨u,a,rfl,⟨t,rfl⟩,⟨d,rfl⟩⟩:=vals2 r;refine max_two_ints (I.ok.hd hc) λ c e k=>⟨_,H,I.kept k,?_,q⟩
 by_cases hj:j > i
 ·rw [if_pos hj,if_pos hj];exact ⟨_,rfl⟩
 ·rw [if_neg hj,if_neg hj];exact ⟨_,rfl⟩
def RZ (hc:X.calm=true):cc X (.builtin "min") (λ xs H Q=>∃i j,xs=[.int i,.int j]/\Q (.int (if j < i then j else i)) H):=by
 intro f s σ H xs b Q I r h;obtain ⟨i,j,rfl,q⟩:=h;obtain ⟨u,a,rfl,⟨t,rfl⟩,⟨d,rfl⟩⟩:=vals2 r;refine min_two_ints (I.ok.hd hc) λ c e k=>⟨_,H,I.kept k,?_,q⟩
 by_cases hj:j < i
 ·rw [if_pos hj,if_pos hj];exact ⟨_,rfl⟩
 ·rw [if_neg hj,if_neg hj];exact ⟨_,rfl⟩
def kW:cc X (.type "int") (λ xs H Q=>(∃i,xs=[.int i]/\Q (.int i) H)\/∃k,xs=[.bl k]/\Q (.int (if k then 1 else 0)) H):=by
 intro c s σ H xs b Q I r h;rcases h with ⟨i,rfl,q⟩|⟨k,rfl,q⟩
 ·obtain ⟨u,rfl,t,rfl⟩:=vals1 r;exact call_int_int ⟨.int i,H,I,⟨_,rfl⟩,q⟩
 ·obtain ⟨u,rfl,a⟩:=vals1 r;cases a;exact call_int_bool ⟨.int (if k then 1 else 0),H,I.tok _,⟨_,rfl⟩,q⟩
end
structure jV (h:ZM) (x dx C:ZS) (mA:ZR->Option ZG):Prop where
 obj:h.get? x=some (F4 C dx)
 ns:h.Ns1 dx mA
 ne:dx≠x
variable {dx:ZS} {mA:ZR->Option ZG}
def LB (n:h.Ns1 dx mA) :∃od,h.get? dx=some od/\∀name,z9 name od=some (mA name):=by
 obtain ⟨o,b,l,k,f,j,_,d⟩:=n;refine ⟨o,k,λ name=>?_⟩;have e:=d name;unfold nsFind findBy at e;rw [<-Array.find?_toList] at e;unfold z9;rw [f];dsimp only;split
 ·rename_i y q;rw [q] at e;exact congrArg some e
 ·rename_i q;rw [q] at e;have a:b.toList.any (·.refKey)=false:=by rw [List.any_eq_false];intro y g;obtain ⟨z,t,i⟩:=j y (Array.mem_toList_iff.mp g);simp [DictEntry.refKey,i]
  have c:¬ b.toList.any (·.refKey)=true:=by rw [a];exact O0
  rw [if_neg c];exact congrArg some e
variable {C:ZS}
def jV.look {x:ZS} (I:jV h x dx C mA) :∃od,PySem.W.InstAt h x (F4 C dx) C (some od)/\∀name,z9 name od=some (mA name):=
 let ⟨od,ho,hl⟩:=LB I.ns
 ⟨od,⟨I.obj,rfl,rfl,ho⟩,hl⟩
variable {kw:List (ZR×ZG)} {pl:ZO Bool}
section
variable {prog:ZJ} {x f:ZS} {name:ZR} {v:ZG}
def PV {expr:Bool} (X:K.In s.heap) (I:jV s.heap x dx C mA) (hg:t8 K C name=true) (hh:j0b K C=true)
  (ha:R3 K (.ref C) name=some none) (hv:mA name=some v) (hv':PySem.W.handedIn v=true) (h:Q v { s with toks:=s.toks + 1 }) :
  V0 (F1 prog w) A (getAttr (.ref x) name expr) Q E s:=by
 obtain ⟨b,J,a⟩:=I.look;exact PySem.W.get_value X J (P9 hg).1 (PySem.W.findObj_own hh ha rfl (by rw [a,hv])) hv' h
def Pk {Q:ZG×List ZG->A0->Prop} (X:K.In s.heap) (I:jV s.heap x dx C mA) (hg:t8 K C name=true)
  (hf:R3 K (.ref C) name=some (some (.ref f))) (ht:j39 K (.ref f)=true) (hv:mA name=none) (h:Q (.ref f,[.ref x]) s) :
  V0 (F1 prog w) A (getMethod (.ref x) name pl) Q E s:=by
 obtain ⟨a,J,b⟩:=I.look;exact PySem.W.method_fn X J (P9 hg).1 (P9 hg).2 hf (beq_iff_eq.mp ht) (by show (z9 name a).map (·.isSome)=some false;rw [b,hv];rfl) h
theorem LV {ns:List ZR} {Q:Unit->A0->Prop} (X:K.In s.heap) (I:jV s.heap x dx C mA)
  (hs:R3 K (.ref C) "__setattr__" = some (some (.builtin "object.__setattr__"))) (hp:j5d K C=true) (ht:j1e K C name=some none) (hh:j0b K C=true)
  (hw:j46 mA ns) (hsz:ns.length<=ZF)
  (h :∀h',jV h' x dx C (λ y=>if y=name then some v else mA y)->O6 dx s.heap h'->Q () { s with heap:=h',toks:=s.toks + 2 }) :
  V0 (F1 prog w) A (setAttr (.ref x) name v) Q E s:=by
 obtain ⟨l,J,m⟩:=I.look;refine PySem.W.set_plain X J hs (PySem.W.osa_open (s:={ s with toks:=s.toks + 1 }) (r:=none) X J hp ht λ b=>?_);obtain ⟨n,i,j⟩:=PySem.W.any_some hh;have g:s.heap.get? x=some ⟨.ref C,some dx,.plain,#[]⟩:=I.obj;refine d0 (L0 (d0 (d0 (wpAny_loadPart g (d0 (PySem.W.Looks.here (s:={ s with toks:=s.toks + 1 }) (PySem.W.looks_clsIn X i) ?_))))));rw [j];refine L0 (a:=some dx) (d0 (L0 (d0 ?_)));refine wpAny_nsSet1 (s:={ s with toks:=s.toks + 1 }) I.ns λ h' d c=>?_;obtain ⟨o,q,p,f,e,k⟩:=d.count (PySem.Within.cons name v hw);refine d0 (wpAny_lookBehind f (by rw [e];exact pastItsLine_dict (D0 k (by rw [P0];lia))) ?_);exact L0 (h _ ⟨(c.2 _ (C4 I.ne)).trans I.obj,d,I.ne⟩ c)
def OT {R:Result->A0->Prop} {vs:List ZG} (X:K.In s.heap) (hm:PySem.W.makesIn K C=true)
  (hi:R3 K (.ref C) "__init__" = some (some (.ref f))) (hf:PySem.W.typeIn K (.ref f)=some (.type "function"))
  (h:j16 (F1 prog w) (A.under (.builtin "type.__call__" ⟨.ref C :: vs,kw⟩)) (.call (.ref f) ⟨.ref (s.heap.objs.size + 1) :: vs,kw⟩) (PySem.W.InitBack (s.heap.objs.size + 1) R)
   { s with heap:=(s.heap.push PySem.W.emptyDict).push (F4 C s.heap.objs.size) }) :
  j16 (F1 prog w) A (.call (.ref C) ⟨vs,kw⟩) R s:=by
 obtain ⟨b,g,d,t,c⟩:=s;exact PySem.W.make_core (PySem.W.makes_of X hm) (PySem.W.looks_findIn X hi) (λ a=>PySem.W.bind_fn X a hf) (.inl rfl) h
end
noncomputable def dj (f:ZR) (v:V):List (ZR×V)->List (ZR×V)
 | []=>[(f,v)]
 | (g,x) :: r=>if g=f then (g,v) :: r else (g,x) :: dj f v r
theorem yg (f g:ZR) (v:V) :∀fs:List (ZR×V),(dj f v fs).lookup g=if g=f then some v else fs.lookup g
 | []=>by
  show A7 g [(f,v)]=_;by_cases h:g=f
  ·have a:(g == f)=true:=beq_iff_eq.mpr h;simp only [A7,a,if_pos h]
  ·have a:(g == f)=false:=beq_eq_false_iff_ne.mpr h;simp only [A7,a,if_neg h]
 | (k,x) :: r=>by
  have b:=yg f g v r;rw [show dj f v ((k,x) :: r)=(if k=f then (k,v) :: r else (k,x) :: dj f v r) from rfl];by_cases hk:k=f
  ·rw [if_pos hk];by_cases h:g=k
   ·have a:(g == k)=true:=beq_iff_eq.mpr h;simp only [A7,a,if_pos (h.trans hk)]
   ·have a:(g == k)=false:=beq_eq_false_iff_ne.mpr h;simp only [A7,a,if_neg (λ e:g=f=>h (e.trans hk.symm))]
  ·rw [if_neg hk];by_cases h:g=k
   ·have a:(g == k)=true:=beq_iff_eq.mpr h;simp only [A7,a,if_neg (λ e:g=f=>hk (h.symm.trans e))]
   ·have a:(g == k)=false:=beq_eq_false_iff_ne.mpr h;simp only [A7,a];exact b
theorem Bw (f:ZR) (v:V) :∀fs:List (ZR×V),f∈(dj f v fs).map (·.1)/\∀g,g∈fs.map (·.1)->g∈(dj f v fs).map (·.1)
 | []=>⟨by simp [dj],λ g h=>by simp at h⟩
 | (k,x) :: r=>by
  obtain ⟨b,a⟩:=Bw f v r;rw [show dj f v ((k,x) :: r)=(if k=f then (k,v) :: r else (k,x) :: dj f v r) from rfl];by_cases hk:k=f
  ·rw [if_pos hk];subst hk;exact ⟨by simp,λ g h=>by simpa using h⟩
  ·rw [if_neg hk];refine ⟨?_,λ g h=>?_⟩
   ·rw [C1];exact W0 _ b
   ·rw [C1] at h⊢;rcases List.mem_cons.mp h with e|e
    ·exact List.mem_cons.mpr (.inl e)
    ·exact W0 _ (a g e)
theorem Em (f:ZR) (v:V) :∀fs:List (ZR×V),(dj f v fs).length<=fs.length + 1
 | []=>by simp [dj]
 | (k,x) :: r=>by
  have a:=Em f v r;rw [show dj f v ((k,x) :: r)=(if k=f then (k,v) :: r else (k,x) :: dj f v r) from rfl];by_cases hk:k=f
  ·rw [if_pos hk,P0,P0];lia
  ·rw [if_neg hk,P0,P0];lia
def de.some_of {o:Option ZG} (r:de (some v) o) :∃u,o=some u/\RelV v u:=by
 cases o with
 | none=>exact (show False from r).elim
 | some u=>exact ⟨u,rfl,r⟩
def de.none_of {o:Option ZG} (r:de none o):o=none:=by
 cases o with
 | none=>rfl
 | some u=>exact (show False from r).elim
def NF (r:RelV v u):PySem.W.handedIn u=true:=by
 cases v with
 | non=>cases (show u=Value.none from r);rfl
 | bl b=>cases (show u=N4 b from r);rfl
 | int i=>obtain ⟨t,e⟩:=(show∃t,u=L8 i t from r);cases e;rfl
 | str x=>obtain ⟨t,e⟩:=(show∃t,u=X6 x t from r);cases e;rfl
 | byt b=>obtain ⟨t,e⟩:=(show∃t,u=Value.bytes b t from r);cases e;rfl
 | flt b=>obtain ⟨t,e⟩:=(show∃t,u=j57 b t from r);cases e;rfl
 | ref a=>cases (show u=E1 a from r);rfl
 | ty n=>cases (show u=R7 n from r);rfl
section
variable {fs fs':List (ZR×V)}
def xW (hok:fN P w H h) (e:H a=some (.ins C dx fs)) :∃mA,jV h a dx C mA/\(∀f,de (fs.lookup f) (mA f))/\j46 mA (fs.map (·.1))/\fs.length<=1000/\H dx=some (.own a):=by
 obtain ⟨d,z,b,c,mA,n,r,q⟩:=(show br P w H h a (.ins C dx fs) from hok a _ e)
 exact ⟨mA,⟨c,n,b⟩,r,q,z,d⟩
end
structure jX (K:b0) (C:ZS):Prop where
 pg:t8 K C Str.empty=true
 hd:j0b K C=true
 po:j5d K C=true
 sa:R3 K (.ref C) "__setattr__" = some (some (.builtin "object.__setattr__"))
def jX.get (c:jX K C) (f:ZR):t8 K C f=true:=c.pg
def aP (K:b0) (C:ZS) (f:ZR):Prop:=R3 K (.ref C) f=some none
def aP.taker {f:ZR} (n:aP K C f):j1e K C f=some none:=by unfold j1e;rw [show R3 K (.ref C) f=some none from n];rfl
structure Sg (K:b0) (C:ZS) (f:ZR) (v:V) (u:ZG):Prop where
 at_:R3 K (.ref C) f=some (some u)
 rel:RelV v u
 get:j5c K u "__get__" = some none
 cp:PySem.W.copiedNames.contains f=false
structure nu (K:b0) (C:ZS) (m:ZR) (f:ZS):Prop where
 at_:R3 K (.ref C) m=some (some (.ref f))
 fn:j39 K (.ref f)=true
 kp:Q3 K (.ref f)=true
variable {m:ZR}
section
variable {fs:List (ZR×V)} {f:ZR} 
def Kx {b:Bool} (I:Inv X pins σ H s) (e:H a=some (.ins C dx fs)) (c:jX X.K C) (n:aP X.K C f) (l:fs.lookup f=some v)
  (h :∀u s',Inv X pins σ H s'->RelV v u->Q u s'):V0 (F1 X.prog X.w) A (getAttr (.ref a) f b) Q E s:=by
 obtain ⟨g,O,r,_,_,_⟩:=xW I.hok e;obtain ⟨u,i,d⟩:=de.some_of (v:=v) (o:=g f) (by rw [<-l];exact r f);exact PV I.kIn O (c.get f) c.hd n i (NF d) (h u _ (I.tok _) d)
def LY {g:ZS} {Q:ZG×List ZG->A0->Prop} (I:Inv X pins σ H s) (e:H a=some (.ins C dx fs)) (c:jX X.K C) (k:nu X.K C m g) (l:fs.lookup m=none)
  (h:Q (.ref g,[.ref a]) s):V0 (F1 X.prog X.w) A (getMethod (.ref a) m pl) Q E s:=by
 obtain ⟨d,O,r,_,_,_⟩:=xW I.hok e;have b:d m=none:=de.none_of (by rw [<-l];exact r m);exact Pk I.kIn O (c.get m) k.at_ k.fn b h
theorem Ru {Q:Unit->A0->Prop} (I:Inv X pins σ H s) (e:H a=some (.ins C dx fs)) (c:jX X.K C) (n:aP X.K C f) (hl:fs.length < 1000) (ry:RelV y u)
  (h :∀s',Inv X pins σ (upd H a (.ins C dx (dj f y fs))) s'->Q () s'):V0 (F1 X.prog X.w) A (setAttr (.ref a) f u) Q E s:=by
 obtain ⟨i,O,r,j,_,k⟩:=xW I.hok e;have p:(fs.map (·.1)).length<=ZF:=by rw [C0,sizeLine_eq];lia
 refine LV I.kIn O c.sa c.po n.taker c.hd j p λ t d B=>h _ ?_;have m :∃o,t.get? dx=some o:=let ⟨o,_,_,e',_⟩:=d.ns;⟨o,e'⟩;refine I.write (x:=a) (e:=dx) (by rw [e];exact True.intro) (.inr k) (λ b q v z=>(B.2 b v).trans z) m ?_;refine ⟨by rw [ak O.ne];exact k,?_,O.ne,d.obj,_,d.ns,λ g=>?_,λ g l=>?_⟩
 ·have:=Em f y fs;lia
 ·show de ((dj f y fs).lookup g) (if g=f then some u else i g);rw [yg];by_cases q:g=f
  ·rw [if_pos q,if_pos q];exact ry
  ·rw [if_neg q,if_neg q];exact r g
 ·by_cases q:g=f
  ·rw [q];exact (Bw f y fs).1
  ·refine (Bw f y fs).2 g (j g λ z=>l ?_);show (if g=f then some u else i g)=none;rw [if_neg q];exact z
def Inv.made (I:Inv X pins σ H s):Inv X pins σ (upd (upd H s.heap.objs.size (.own (s.heap.objs.size + 1))) (s.heap.objs.size + 1) (.ins C s.heap.objs.size []))
  { s with heap:=(s.heap.push PySem.W.emptyDict).push (F4 C s.heap.objs.size) }:=by
 have d:(s.heap.push PySem.W.emptyDict).get? s.heap.objs.size=some PySem.W.emptyDict:=Z0 s.heap rfl;have g:((s.heap.push PySem.W.emptyDict).push (F4 C s.heap.objs.size)).get? (s.heap.objs.size + 1)=some (F4 C s.heap.objs.size):=by
  have:=Z0 (s.heap.push PySem.W.emptyDict) (o:=F4 C s.heap.objs.size) rfl
  rwa [D4] at this
 have f:(s.heap.push PySem.W.emptyDict).Ns s.heap.objs.size (λ _=>none):=⟨PySem.W.emptyDict,#[],_,d,rfl,(λ e h=>absurd h (by simp)),λ _=>rfl⟩
 have i:=I.laid (a:=s.heap.objs.size) (o:=.own (s.heap.objs.size + 1)) (h':=s.heap.push PySem.W.emptyDict) (t':=s.toks) (λ b u q=>F0 _ q) (u0 _) ⟨_,d⟩;refine i.laid (a:=s.heap.objs.size + 1) (o:=.ins C s.heap.objs.size []) (t':=s.toks) (λ b u q=>F0 _ q) (m6 (D4 _ _)) ?_;have c:s.heap.objs.size≠s.heap.objs.size + 1:=G1 (S2 _);refine ⟨by rw [ak c,ab],S1 _,c,g,λ _=>none,(Heap.Ns1.of_empty f).at λ o q=>F0 _ q,λ _=>True.intro,λ y j=>absurd rfl j⟩
def NC {prog:ZJ} {env:Env} {f:ZR} (hb:u4 e f env (O3 e env)=O3 e env)
  (h:V0 (F1 prog w) A (O3 e env) (λ o s₁=>V0 (F1 prog w) A (getAttr o f true) Q E s₁) E s):V0 (F1 prog w) A (O3 (.Attribute e f pos) env) Q E s:=
 Attribute_any_ h (by rw [arm_eval_Attribute,hb])
end
def zX (K:b0) (ta:TE) (f:ZR):TE:=λ σ H Q=>ta σ H λ x H1=>∃a C dx fs v,x=.ref a/\H1 a=some (.ins C dx fs)/\jX K C/\aP K C f/\fs.lookup f=some v/\Q v H1
def pE (K:b0) (ta tv:TE) (f:ZR):TS:=λ D σ H=>tv σ H λ y H1=>ta σ H1 λ x H2=>∃a C dx fs,x=.ref a/\H2 a=some (.ins C dx fs)/\jX K C/\aP K C f/\fs.length < 1000/\
 D.nx σ (upd H2 a (.ins C dx (dj f y fs)))
section
variable {o value:ZN} {f:ZR} {pos' tpos:ZP} {tv:TE}
def bS (he:PE X e ta) (hb:u4 e f X.env (O3 e X.env)=O3 e X.env):PE X (.Attribute e f pos) (zX X.K ta f):=by intro g s σ H Q I h;refine NC hb (bb (he g s σ H _ I h) λ u k zz=>?_);obtain ⟨x,H1,I1,rx,a,C,dx,fs,v,ex,ea,c,n,l,q⟩:=zz;subst ex;obtain rfl:u=E1 a:=rx;exact Kx I1 ea c n l λ j i b d=>⟨v,H1,b,d,q⟩
def du (ha:PE X o ta) (hv:PE X value tv) (hs:K7 value (some (.Attribute o f pos')) pos.line X.env=W1 false):PS X (.Assign [.Attribute o f pos'] value pos) (pE X.K ta tv f):=by intro b s σ H D I h;refine plainObj_wpAny_Assign_Attribute (bb (hv b s σ H _ I h) λ u g ⟨y,H1,I1,ry,q⟩=>bb (ha b g σ H1 _ I1 q) λ d i zz=>?_) hs;obtain ⟨x,H2,I2,rx,a,C,dx,fs,ex,ea,c,n,l,q2⟩:=zz;subst ex;obtain rfl:d=E1 a:=rx;exact Ru I2 ea c n l ry λ j e=>⟨σ,_,e,q2⟩
end
section
variable {c:ZG} {b:Bool}
inductive gy (K:b0) (H:Hp):V->ZG->Prop where
 | non:gy K H .non (.type "NoneType")
 | bl (x:Bool):gy K H (.bl x) (.type "bool")
 | int (i:Int):gy K H (.int i) (.type "int")
 | str (x:ZR):gy K H (.str x) (.type "str")
 | flt (x:UInt64):gy K H (.flt x) (.type "float")
 | lst {a:ZS} {xs:List V} (e:H a=some (.lst xs)):gy K H (.ref a) (.type "list")
 | frz {a:ZS} {o:ZQ} {xs:List V} (e:H a=some (.frz o (.lst xs))):gy K H (.ref a) (.type "list")
 | tup {a:ZS} {xs:List V} (e:H a=some (.tup xs)):gy K H (.ref a) (.type "tuple")
 | dK {a:ZS} {kvs:List (Key×V)} (e:H a=some (.dK kvs)):gy K H (.ref a) (.type "dict")
 | dT {a:ZS} {kvs:List (List Key×V)} (e:H a=some (.dT kvs)):gy K H (.ref a) (.type "dict")
 | ins {a C dx:ZS} {fs:List (ZR×V)} (e:H a=some (.ins C dx fs)) (cl:jX K C) (ha:R3 K (.ref C) "__class__" = some (some (.builtin "object.__class__")))
   (hn:j5c K (.builtin "object.__class__") "__get__" = some (some (.builtin "getset_descriptor.__get__"))) (htk:PySem.W.takesIn K (.builtin "object.__class__")=some true)
   (hm:PySem.W.mroIn K C (.type "object")=some true):gy K H (.ref a) (.ref C)
def Qn {x:V} {t:ZG} (I:Inv X pins σ H s) (rx:RelV x u) (ty:gy X.K H x t) (e:PySem.W.kitOne X.K t c=some b) (h :∀tk,Q (.bool b) { s with toks:=tk }) :
  V0 (F1 X.prog X.w) A (call (.builtin "isinstance") [u,c]) Q E s:=by
 cases ty with
 | non=>cases (show u=Value.none from rx);exact E3 PySem.W.kitx_none I.kIn True.intro e (λ z=>nomatch z) h
 | bl y=>cases (show u=N4 y from rx);exact E3 PySem.W.kitx_bool I.kIn True.intro e (λ z=>nomatch z) h
 | int i=>obtain ⟨t,q⟩:=(show∃t,u=L8 i t from rx);cases q;exact E3 PySem.W.kitx_int I.kIn True.intro e (λ z=>nomatch z) h
 | str y=>obtain ⟨t,q⟩:=(show∃t,u=X6 y t from rx);cases q;exact E3 PySem.W.kitx_str I.kIn True.intro e (λ z=>nomatch z) h
 | flt y=>obtain ⟨t,q⟩:=(show∃t,u=j57 y t from rx);cases q;exact E3 PySem.W.kitx_float I.kIn True.intro e (λ z=>nomatch z) h
 | @lst a f ea=>
  cases (show u=E1 a from rx);obtain ⟨_,_,n,_,d⟩:=(show br X.prog X.w H s.heap a (.lst f) from I.hok a _ ea)
  exact E3 j5e I.kIn ⟨_,d,rfl⟩ e (λ z=>nomatch z) h
 | @frz a ob f ea=>
  cases (show u=E1 a from rx);obtain ⟨_,_,_,n,_,d⟩:=(show br X.prog X.w H s.heap a (.frz ob (.lst f)) from I.hok a _ ea)
  exact E3 j5e I.kIn ⟨_,d,rfl⟩ e (λ z=>nomatch z) h
 | @tup a f ea=>
  cases (show u=E1 a from rx);obtain ⟨_,_,_,p,_⟩:=(show br X.prog X.w H s.heap a (.tup f) from I.hok a _ ea)
  obtain ⟨o,d,g,_⟩:=p;exact E3 PySem.W.kitx_tuple I.kIn ⟨o,d,g⟩ e (λ z=>nomatch z) h
 | @dK a kvs ea=>
  cases (show u=E1 a from rx);obtain ⟨_,_,r,_,p⟩:=(show br X.prog X.w H s.heap a (.dK kvs) from I.hok a _ ea)
  obtain ⟨o,j,k,d,g,_⟩:=p;exact E3 j5f I.kIn ⟨o,d,g.1⟩ e (λ z=>nomatch z) h
 | @dT a kvs ea=>
  cases (show u=E1 a from rx);obtain ⟨_,_,f,_,o,j,k,d,g,_⟩:=(show br X.prog X.w H s.heap a (.dT kvs) from I.hok a _ ea)
  exact E3 j5f I.kIn ⟨o,d,g.1⟩ e (λ z=>nomatch z) h
 | @ins a C dx fs ea cl ha hn htk hm=>cases (show u=E1 a from rx);obtain ⟨m,O,_⟩:=xW I.hok ea;obtain ⟨l,J,_⟩:=O.look;exact E3 (PySem.W.kitx_own (cl.get _) cl.hd ha hn htk hm) I.kIn J e (λ z=>nomatch z) h
end
structure bQ (k:Nat) (A:B2):Prop where
 hd:A.handled=none
 dp:A.depth + 3 * k + 5 < recursionLimit
 un:A.units + 16 * k + 200 < ZE
 gd:A.guards=some []
theorem bQ.mono {j k:Nat} (r:bQ k A) (h:j<=k):bQ j A:=⟨r.hd,by have:=r.dp;lia,by have:=r.un;lia,r.gd⟩
theorem bQ.deeper {k:Nat} (r:bQ (k + 1) A) (env:Env):bQ k (A.deeper env):=
 ⟨r.hd,by have:=r.dp;show A.depth + 1 + 3 * k + 5 < _;lia,by have:=r.un;show A.units + 3 + 16 * k + 200 < _;lia,r.gd⟩
def JG:(A.under (.builtin "type.__call__" ⟨.ref C :: us,kw⟩)).depth=A.depth + 1:=by first|rfl|simp [j0j,Code.weight,Code.isCreation,Code.isGuard,Code.isCaller,j61,j1b,guardIds]
def KM:(A.under (.builtin "type.__call__" ⟨.ref C :: us,kw⟩)).units=A.units + 1:=by first|rfl|simp [j0j,Code.cUnits,j61,j1b]
theorem bQ.make {k:Nat} (r:bQ (k + 1) A) (C:ZS) (us:List ZG) (kw:List (ZR×ZG)):bQ k (A.under (.builtin "type.__call__" ⟨.ref C :: us,kw⟩)):=
 ⟨r.hd,by have:=r.dp;rw [JG];lia,by have:=r.un;rw [KM];lia,by have h:=r.gd;first|exact h|simp [j0j,h,Code.weight,Code.isCreation,Code.isGuard,Code.isCaller,j61,j1b,guardIds]⟩
theorem bQ.depth {k:Nat} (r:bQ k A):A.depth < recursionLimit:=by have:=r.dp;lia
theorem bQ.units {k:Nat} (r:bQ k A):A.units + 64 < ZE:=by have:=r.un;lia
def gi:TA:=λ _ H Q=>Q [] H
def dD (ta:TE) (tr:TA):TA:=λ σ H Q=>ta σ H λ x H1=>tr σ H1 λ xs H2=>Q (x :: xs) H2
variable {t:TA}
section
def ae:PA X [] gi:=λ _ _ _ _ H Q I h=>j8 ⟨[],H,I,.nil,h⟩
def ao (ha:PE X e te) (hr:PA X es t) (hs:N1 (e :: es) X.env=(false,O3 e X.env) :: N1 es X.env:=by rfl):PA X (e :: es) (dD te t):=by intro a b s σ H Q I h;rw [hs];show V0 _ _ (spliced ((false,O3 e X.env) :: J4 a (N1 es X.env))) _ _ s;refine B6 (bb (ha b s σ H _ I h) λ u c zz=>?_);obtain ⟨x,H1,I1,r1,q1⟩:=zz;exact bb (hr a b c σ H1 _ I1 q1) λ f d ⟨xs,H2,I2,r2,q2⟩=>⟨x :: xs,H2,I2,.cons r1 r2,q2⟩
def kY (t:TA):TE:=λ σ H Q=>t σ H λ xs H1=>xs.length<=ZF/\∀p,H1 p=none->Q (.ref p) (upd H1 p (.tup xs))
def vQ (t:TA):TE:=λ σ H Q=>t σ H λ xs H1=>xs.length<=ZF/\∀p,H1 p=none->Q (.ref p) (upd H1 p (.lst xs))
def aD {x1} (h:PA X es t):PE X (.Tuple es x1 pos) (kY t):=by intro g s σ H Q I d;refine wpAny_Tuple_spliced (bb (h pos g s σ H _ I d) λ f a ⟨xs,H1,I1,r,z,q⟩=>⟨by rw [<-r.length];exact z,?_⟩);have c:H1 a.heap.objs.size=none:=I1.hok.fresh (u0 _);refine ⟨.ref a.heap.objs.size,upd H1 a.heap.objs.size (.tup xs),I1.laid (t':=a.toks) (λ b u e=>F0 _ e) (u0 _) ?_,rfl,q _ c⟩;exact ⟨z,f,r,gg.new _ _⟩
def aY (h:PA X es t):PE X (.List es pos) (vQ t):=by intro g s σ H Q I d;refine wpAny_List_spliced (bb (h pos g s σ H _ I d) λ f a ⟨xs,H1,I1,r,z,q⟩=>⟨by rw [<-r.length];exact z,?_⟩);have c:H1 a.heap.objs.size=none:=I1.hok.fresh (u0 _);refine ⟨.ref a.heap.objs.size,upd H1 a.heap.objs.size (.lst xs),I1.laid (t':=a.toks) (λ b u e=>F0 _ e) (u0 _) ?_,rfl,q _ c⟩;exact ⟨z,f,0,r,Z0 _ rfl⟩
end
noncomputable abbrev Sp:=List V->Hp->VK->XK->Prop
noncomputable abbrev oa:=List Env->Hp->A0->XK->ZG->A0->Prop
structure jP (P:ZJ) (w:U0) (K:b0) (mg:ZR->Option ZG) (base:ZM) (A:B2) (outer:List Env) (s:A0) (H:Hp):Prop where
 frames:A.frames=some outer
 mod:Mod K mg base
 bs :∀b o,base.get? b=some o->s.heap.get? b=some o/\H b=none
 bsz:base.objs.size<=s.heap.objs.size
 funs:s.heap.FunFrames base outer
 frf :∀b∈jg outer,H b=none
 hok:fN P w H s.heap
 bare:d9 s.gens
def CE (outer:List Env) (P:ZJ) (w:U0) (H:Hp) (s:A0) (Q:VK) (u:ZG) (s':A0):Prop:=
 ∃v H',s'.os=s.os/\d9 s'.gens/\Un (jg outer) [] H H' s.heap s'.heap/\fN P w H' s'.heap/\RelV v u/\Q v H'
def CR (CX:oa) (outer:List Env) (P:ZJ) (w:U0) (H:Hp) (s:A0) (Q:VK) (E:XK) (r:Result) (s':A0):Prop:=
 match r with
 | .ok (.ret u)=>CE outer P w H s Q u s'
 | .ok _=>False
 | .error e=>CX outer H s E e s'
structure fI (P:ZJ) (w:U0) (K:b0) (mg:ZR->Option ZG) (base:ZM) (CX:oa) (k:Nat) (f:ZS) (fd:ZI) (ps:List ZR) (sp:Sp):Prop where
 len :∀vs H Q E,sp vs H Q E->vs.length=ps.length
 run :∀(A:B2) (outer:List Env) (s:A0) (H:Hp) (args:Args) (us:List ZG) (vs:List V) (Q:VK) (E:XK),bQ k A->jP P w K mg base A outer s H->BindsTo s fd args (ps.zip us)->aJ vs us->sp vs H Q E->
  j16 (F1 P w) A (.call (.ref f) args) (CR CX outer P w H s Q E) s
variable {base:ZM} {mg:ZR->Option ZG}
def jP.make {outer:List Env} (e:jP P w K mg base A outer s H) (C:ZS) (us:List ZG) (kw:List (ZR×ZG)) :
  jP P w K mg base (A.under (.builtin "type.__call__" ⟨.ref C :: us,kw⟩)) outer s H:=⟨by first|exact e.frames|(simpa [j0j,Code.envs,j1b,pushEnvs] using e.frames),e.mod,e.bs,e.bsz,e.funs,e.frf,e.hok,e.bare⟩
section
def Inv.env0 (I:Inv X pins σ H s):jP X.prog X.w X.K X.mg X.base X.A X.stack s H:=
 ⟨I.ok.frames,I.ok.mod,I.bs,D0 I.ok.bsz I.sz,I.stack,I.stkFree,I.hok,I.bare⟩
def Inv.after {Q:VK} (I:Inv X pins σ H s) (h:CE X.stack X.prog X.w H s Q u s'):EP X pins σ Q u s':=by obtain ⟨v,c,j,a,un,f,r,q⟩:=h;obtain ⟨i,g,d,t,e⟩:=s';obtain rfl:e=s.os:=j;exact ⟨v,c,I.call (h':=i) (g':=g) (d':=d) (t':=t) (ch:=[]) un f a (λ b z=>absurd z (by simp)),r,q⟩
end
def oo (sp:Sp) (dvs:List V) (E:XK) (t:TA):TE:=λ σ H Q=>t σ H λ vs H1=>sp (vs++dvs) H1 Q E
def vi (C:ZS) (m:ZR) (sp:Sp) (dvs:List V) (E:XK) (ta:TE) (t:TA):TE:=λ σ H Q=>ta σ H λ x H1=>∃a dx fs,x=.ref a/\H1 a=some (.ins C dx fs)/\fs.lookup m=none/\
 t σ H1 λ vs H2=>sp (x :: (vs++dvs)) H2 Q E
def oY (C:ZS) (sp:Sp) (dvs:List V) (E:XK) (t:TA):TE:=λ σ H Q=>t σ H λ vs H1=>∀x dx,H1 x=none->H1 dx=none->dx≠x->
 sp (.ref x :: (vs++dvs)) (upd (upd H1 dx (.own x)) x (.ins C dx [])) (λ v H2=>v=.non/\Q (.ref x) H2) E
def Binds (K:b0) (fd:ZI) (ps:List ZR) (ds:List ZG):Prop:=
 ∀(s:A0) (us:List ZG),K.In s.heap->(us++ds).length=ps.length->BindsTo s fd ⟨us,[]⟩ (ps.zip (us++ds))
variable {fd:ZI} {ps:List ZR}
def Binds.all (h :∀us:List ZG,us.length=ps.length->bindArgs fd ⟨us,[]⟩=W1 (ps.zip us)):Binds K fd ps []:=λ s us _ a=>by rw [D2] at a⊢;exact .of_eq (h us a)
def fT (CX:oa) (X:Cx) (E:XK):Prop:=∀(pins:List (ZS×ZQ)) (σ:St) (H:Hp) (s:A0) (e:ZG) (s':A0),Inv X pins σ H s->CX X.stack H s E e s'->X.xe e s'
variable {CX:oa} {vs:List V}
section
variable {k:Nat} {f:ZS} {sp:Sp} {dvs:List V} {ds:List ZG} {E:XK} {apos:ZP} {o:ZN} 
def jU {Q:VK} (F:fI X.prog X.w X.K X.mg X.base CX k f fd ps sp) (hr:bQ k X.A) (hb:Binds X.K fd ps ds) (hd:aJ dvs ds) (hx:fT CX X E)
  (I:Inv X pins σ H s) (r:aJ vs us) (h:sp (vs++dvs) H Q E):V0 (F1 X.prog X.w) X.A (call (.ref f) us) (EP X pins σ Q) X.xe s:=by
 have b:aJ (vs++dvs) (us++ds):=r.append hd;have d:(us++ds).length=ps.length:=by rw [<-b.length];exact F.len _ _ _ _ h
 refine wpAny_call (j2f (F.run X.A X.stack s H ⟨us,[]⟩ (us++ds) (vs++dvs) Q E hr I.env0 (hb s us I.kIn d) b h) λ r c a=>?_);cases r with
 | error e=>exact hx pins σ H s e c I a
 | ok fl=>
  cases fl with
  | ret u=>exact I.after a
  | next=>exact y4 a
  | brk=>exact y4 a
  | cont=>exact y4 a
def Ls (F:fI X.prog X.w X.K X.mg X.base CX k f fd ps sp) (hr:bQ k X.A) (hg:Gl X x) (hm:X.mg x=some (.ref f)) (hk:Q3 X.K (.ref f)=true) (hb:Binds X.K fd ps ds) (hd:aJ dvs ds) (hx:fT CX X E)
  (ha:PA X (e :: es) t) (hdb:(x == ("__debug__" : ZR))=false:=by decide) (he:N1 (e :: es) X.env=(false,O3 e X.env) :: N1 es X.env:=by rfl) (hpl:(J4 pos (N1 es X.env)).any (·.1)=false:=by rfl) :
  PE X (.Call (.Name x p) (e :: es) [] pos) (oo sp dvs E t):=by
 intro a s σ H Q I h;refine Q6 (Ac I hg hm ?_ hdb);refine L7 (h₀:=X.base) I.ok.mod.kin hk (bb (ha pos a s σ H _ I h) λ b c ⟨vs,H1,I1,r,q⟩=>⟨I1.kIn,?_⟩) he hpl;exact jU F hr hb hd hx I1 r q
def xp (he:PE X o ta) (c:jX X.K C) (hm:nu X.K C m f) (F:fI X.prog X.w X.K X.mg X.base CX k f fd ps sp) (hr:bQ k X.A) (hb:Binds X.K fd ps ds) (hd:aJ dvs ds) (hx:fT CX X E) (ha:PA X (e :: es) t)
  (hst:N1 (e :: es) X.env=(false,O3 e X.env) :: N1 es X.env:=by rfl) (hpl:(J4 pos (N1 es X.env)).any (·.1)=false:=by rfl)
  (ht:O3 (.Call (.Attribute o m apos) (e :: es) [] pos) X.env=(do
   let ov <-O3 o X.env
   j4c apos.atName
   let (f,first) <-j2e [ov] (getMethod ov m pl)
   callWith pos f first (J4 pos (N1 (e :: es) X.env)) (N9 pos (V6 [] X.env))):=by rfl) :
  PE X (.Call (.Attribute o m apos) (e :: es) [] pos) (vi C m sp dvs E ta t):=by
 intro b s σ H Q I h;refine PySem.W.methodCall_KW (pl:=pl) (bb (he b s σ H _ I h) λ u d zz=>?_) ht;obtain ⟨x,H1,I1,rx,a,dx,fs,ex,ea,l,q⟩:=zz;subst ex;obtain rfl:u=E1 a:=rx;refine LY I1 ea c hm l ?_;refine L7 (first:=[.ref a]) (h₀:=X.base) I.ok.mod.kin hm.kp (bb (ha pos b d σ H1 _ I1 q) λ us g ⟨vs,H2,I2,r,q2⟩=>⟨I2.kIn,?_⟩) hst hpl;exact jU (us:=.ref a :: us) (vs:=.ref a :: vs) F hr hb hd hx I2 (.cons rfl r) q2
structure Mk (K:b0) (C f:ZS):Prop where
 makes:PySem.W.makesIn K C=true
 init:R3 K (.ref C) "__init__" = some (some (.ref f))
 fn:j39 K (.ref f)=true
 kp:Q3 K (.ref C)=true
def QJ {Q:VK} (M:Mk X.K C f) (F:fI X.prog X.w X.K X.mg X.base CX k f fd ps sp) (hr:bQ (k + 1) X.A) (hb:Binds X.K fd ps ds) (hd:aJ dvs ds)
  (hx:fT CX X E) (I:Inv X pins σ H s) (r:aJ vs us)
  (h :∀x dx,H x=none->H dx=none->dx≠x->sp (.ref x :: (vs++dvs)) (upd (upd H dx (.own x)) x (.ins C dx [])) (λ v H2=>v=.non/\Q (.ref x) H2) E) :
  V0 (F1 X.prog X.w) X.A (call (.ref C) us) (EP X pins σ Q) X.xe s:=by
 have d:=h (s.heap.objs.size + 1) s.heap.objs.size (I.hok.fresh (C3 _)) (I.hok.fresh (u0 _)) (G1 (S2 _));have b:=Inv.made (C:=C) I;have c:aJ (V.ref (s.heap.objs.size + 1) :: (vs++dvs)) (E1 (s.heap.objs.size + 1) :: (us++ds)):=.cons rfl (r.append hd);have j:(E1 (s.heap.objs.size + 1) :: us++ds).length=ps.length:=by have e:=c.length;rw [F.len _ _ _ _ d] at e;exact e.symm
 refine wpAny_call (OT (f:=f) I.kIn M.makes M.init (beq_iff_eq.mp M.fn) (j2f (F.run _ X.stack _ _ ⟨E1 (s.heap.objs.size + 1) :: us,[]⟩ (E1 (s.heap.objs.size + 1) :: (us++ds)) _ _ E (hr.make C us [])
  (b.env0.make C us []) (hb _ (E1 (s.heap.objs.size + 1) :: us) b.kIn j) c d) λ r o a=>?_))
 cases r with
 | error e=>exact hx pins σ _ _ e o b a
 | ok fl=>
  cases fl with
  | ret u=>obtain ⟨v,i,l,g,n,m⟩:=b.after a;subst n;exact ⟨g,⟨V.ref (s.heap.objs.size + 1),i,l,rfl,m⟩⟩
  | next=>exact y4 a
  | brk=>exact y4 a
  | cont=>exact y4 a
def CF (M:Mk X.K C f) (F:fI X.prog X.w X.K X.mg X.base CX k f fd ps sp) (hr:bQ (k + 1) X.A) (hg:Gl X x) (hm:X.mg x=some (.ref C)) (hb:Binds X.K fd ps ds) (hd:aJ dvs ds) (hx:fT CX X E)
  (ha:PA X (e :: es) t) (hdb:(x == ("__debug__" : ZR))=false:=by decide) (he:N1 (e :: es) X.env=(false,O3 e X.env) :: N1 es X.env:=by rfl) (hpl:(J4 pos (N1 es X.env)).any (·.1)=false:=by rfl) :
  PE X (.Call (.Name x p) (e :: es) [] pos) (oY C sp dvs E t):=by
 intro a s σ H Q I h;refine Q6 (Ac I hg hm ?_ hdb);refine L7 (h₀:=X.base) I.ok.mod.kin M.kp (bb (ha pos a s σ H _ I h) λ b c ⟨vs,H1,I1,r,q⟩=>⟨I1.kIn,?_⟩) he hpl;exact QJ M F hr hb hd hx I1 r q
end
section
variable {k:Nat} {f:ZS} {ks:List ZR} {sp:Sp} {E:XK} {apos kpos:ZP} {o:ZN} {kws:List A6} {tk:TA} {nm:Option ZR}
structure yB (K:b0) (fd:ZI) (ps ks:List ZR) (g:List ZG->List ZG->List ZG) (gV:List V->List V->List V):Prop where
 to :∀(s:A0) (us ws:List ZG),K.In s.heap->(g us ws).length=ps.length->BindsTo s fd ⟨us,ks.zip ws⟩ (ps.zip (g us ws))
 rel :∀{vs:List V} {us:List ZG} {zs:List V} {ws:List ZG},aJ vs us->aJ zs ws->aJ (gV vs zs) (g us ws)
variable {g:List ZG->List ZG->List ZG} {gV:List V->List V->List V}
end
structure ay (N P:List ZR) (sc:ZD):Prop where
 kind:sc.kind=.function
 co:sc.isCoroutine=false
 gen:sc.isGenerator=false
 nd:N.Nodup
 pre:N.take P.length=P
 par :∀x∈P,sc.names.lookup x=some .local\/sc.names.lookup x=some .cell
 nofree :∀y∈sc.names,y.2≠.free
variable {kindOf:ZR->Option u6}
theorem HN:∀{binds:List (ZR×ZG)} {m:ZR->Option ZG},(∀v,(x,v)∉binds)->bindL kindOf binds m x=m x
 | [],_,_=>rfl
 | (n,v) :: r,m,h=>by
  unfold bindL;rw [HN λ w a=>h w (W0 _ a)];split
  ·have:x≠n:=by rintro rfl;exact h v R0
   simp [this]
  ·rfl
theorem IV:∀{binds:List (ZR×ZG)} {m:ZR->Option ZG},(∀v,(x,v)∉binds)->bindC kindOf binds m x=m x
 | [],_,_=>rfl
 | (n,v) :: r,m,h=>by
  unfold bindC;rw [IV λ w a=>h w (W0 _ a)];split
  ·rfl
  ·have:x≠n:=by rintro rfl;exact h v R0
   simp [this]
theorem Hd {v:ZG} :∀{P:List ZR} {vs:List ZG} {i:Nat} {m:ZR->Option ZG},P.Nodup->P[i]? = some x->vs[i]? = some v->kindOf x=some .local->
  bindL kindOf (P.zip vs) m x=some v
 | [],_,_,_,_,h,_,_=>by simp at h
 | _ :: _,[],_,_,_,_,h,_=>by simp at h
 | p :: P,w :: vs,0,m,nd,h1,h2,hk=>by simp at h1 h2;subst h1;subst h2;show bindL kindOf ((p,w) :: P.zip vs) m p=_;unfold bindL;rw [HN λ v a=>(List.nodup_cons.mp nd).1 (C9 a).1,if_pos hk];simp
 | p :: P,w :: vs,i + 1,m,nd,h1,h2,hk=>by show bindL kindOf ((p,w) :: P.zip vs) m x=_;unfold bindL;exact Hd (i:=i) (List.nodup_cons.mp nd).2 (by simpa using h1) (by simpa using h2) hk
theorem EU {v:ZG} :∀{P:List ZR} {vs:List ZG} {i:Nat} {m:ZR->Option ZG},P.Nodup->P[i]? = some x->vs[i]? = some v->kindOf x≠some .local->
  bindC kindOf (P.zip vs) m x=some v
 | [],_,_,_,_,h,_,_=>by simp at h
 | _ :: _,[],_,_,_,_,h,_=>by simp at h
 | p :: P,w :: vs,0,m,nd,h1,h2,hk=>by simp at h1 h2;subst h1;subst h2;show bindC kindOf ((p,w) :: P.zip vs) m p=_;unfold bindC;rw [IV λ v a=>(List.nodup_cons.mp nd).1 (C9 a).1,if_neg hk];simp
 | p :: P,w :: vs,i + 1,m,nd,h1,h2,hk=>by show bindC kindOf ((p,w) :: P.zip vs) m x=_;unfold bindC;exact EU (i:=i) (List.nodup_cons.mp nd).2 (by simpa using h1) (by simpa using h2) hk
noncomputable def start (N:List ZR) (vs:List V):St:=vs.map some++X1 (N.length - vs.length) none
noncomputable def ke (CX:oa) (P:ZJ) (w:U0) (K:b0) (mg:ZR->Option ZG) (base:ZM) (N:List ZR) (qual:ZR) (scope:ZD) (f:ZS) (cd:ZG) (A:B2) (outer:List Env) (s:A0) (H:Hp) (E:XK):Cx where
 prog:=P
 w:=w
 K:=K
 mg:=mg
 base:=base
 A:=A.deeper (Y9 qual scope s.heap.objs.size f cd)
 N:=N
 s₀:=s
 H₀:=H
 env:=Y9 qual scope s.heap.objs.size f cd
 outer:=outer
 stack:=Y9 qual scope s.heap.objs.size f cd :: outer
 ex:=[]
 calm:=true
 fn:=λ _=>true
 pn:=[]
 xe:=λ e s'=>V0 (F1 P w) (A.deeper (Y9 qual scope s.heap.objs.size f cd)) («leaving» (Y9 qual scope s.heap.objs.size f cd) e) (λ _ s''=>CX outer H s E e s'') (λ e' s''=>CX outer H s E e' s'') s'
def GS {sc:ZD} (h:sc.names.lookup x=some .cell) :∃c,(cellsFrom n sc.names []).lookup x=some c:=by have q:=j3a sc.names n [] (.inl h);exact Option.isSome_iff_exists.mp q
theorem Qq {N:List ZR} {qual:ZR} {scope:ZD} {f:ZS} {cd:ZG} {outer:List Env} {s1:A0} {E:XK} 
  (S:ay N ps scope) (hd:A.handled=none) (e0:jP P w K mg base A outer s H) (hl:vs.length=ps.length) (r:aJ vs us)
  (x:InCallC s s.heap.objs.size (bindL (Y9 qual scope s.heap.objs.size f cd).kindOf (ps.zip us) λ _=>none) (cellsFrom (s.heap.objs.size + 1) scope.names []) (bindC (Y9 qual scope s.heap.objs.size f cd).kindOf (ps.zip us) λ _=>none) s1) :
  Inv (ke CX P w K mg base N qual scope f cd A outer s H E) [] (start N vs) H s1:=by
 have I:ps.length<=N.length:=by have:=congrArg A8 S.pre;rw [A3] at this;lia
 obtain ⟨l,J,rfl,B⟩:=x.done;have o :∀b:ZS,b∉(ke CX P w K mg base N qual scope f cd A outer s H E).ex:=λ b z=>absurd (show b∈([]:List ZS) from z) (by simp);refine ⟨⟨e0.mod,S.kind,rfl,rfl,u0 _,λ y z c l d=>?_,λ y g=>?_,λ y c _ h=>?_,λ _=>hd,Around.frames_deeper e0.frames,.inr ⟨rfl,rfl⟩,λ b z=>absurd z (o b),e0.bs,e0.bsz,λ b _ _=>o b,λ b z=>absurd z (o b),e0.funs,e0.frf⟩,
  rfl,e0.bare,Un.kept B,⟨_,x.toInCall.ns,λ i y v l d G=>?_⟩,λ y c h=>⟨_,x.cell y c h⟩,e0.hok.fresh (u0 _),λ y c h=>?_,λ p j=>absurd (show p∈([]:List (ZS×ZQ)) from j) (by simp),e0.hok.kept B,?_⟩
 ·exact name_of_addr x.apart (j6 l) (j6 d)
 ·have g:scope.names.lookup y=some .cell\/scope.names.lookup y=some .free:=g;rcases g with g|g
  ·exact GS g
  ·exact absurd rfl (S.nofree _ (j6 g))
 ·exact T3 (x.above y c (j6 h))
 ·have m:i < vs.length:=by
   unfold start at d;by_cases m:i < vs.length
   ·exact m
   ·rw [L1 (by simpa using m)] at d;rw [P8] at d;split at d<;>cases d
  have D:vs[i]? = some v:=by
   unfold start at d;rw [A2 (by simpa using m),M0] at d;cases e:vs[i]? with
   | none=>rw [e] at d;cases d
   | some a=>rw [e] at d;cases d;rfl
  obtain ⟨u,C,F⟩:=r.get D;have j:ps[i]? = some y:=by rw [<-S.pre,List.getElem?_take_of_lt (by lia)];exact l
  have t:ps.Nodup:=by rw [<-S.pre];exact S.nd.sublist (List.take_sublist _ _)
  refine ⟨u,F,?_⟩;rcases S.par y (K0 j) with k|k
  ·exact .inl ⟨k,Hd t j C k⟩
  ·obtain ⟨c,e⟩:=GS (n:=s.heap.objs.size + 1) k;refine .inr ⟨.inl k,c,e,?_⟩;have q:=x.cell y c e;rw [EU t j C (by show scope.names.lookup y≠_;rw [k];decide)] at q;exact q
 ·exact e0.hok.fresh (T3 (x.above y c (j6 h)))
 ·unfold start;show _=N.length;rw [G0,C0,W3]
  lia
def oS {k:Nat} {f:ZS} {name qual:ZR} {params:Arguments} {scope:ZD} {dV kV doc pm cdv ct oc:ZG} {an od:Option ZS}
  {osl:Array (Option ZG)} {N ps:List ZR} {sp:Sp} (lk:K.lookup f=some ⟨oc,od,.func (C6 name qual params body scope dV kV doc pm an cdv ct),osl⟩) (hcd:A9 K cdv qual=true) (S:ay N ps scope)
  (len :∀vs H Q E,sp vs H Q E->vs.length=ps.length)
  (hbody :∀(A:B2) (outer:List Env) (s:A0) (H:Hp) (vs:List V) (Q:VK) (E:XK),bQ k (A.deeper (Y9 qual scope s.heap.objs.size f cdv))->sp vs H Q E->
   ∃t,jI (ke CX P w K mg base N qual scope f cdv A outer s H E) body t/\t { nx:=λ _ H'=>Q .non H',rt:=Q } (start N vs) H) :
  fI P w K mg base CX (k + 1) f (C6 name qual params body scope dV kV doc pm an cdv ct) ps sp:=by
 refine ⟨len,λ A outer s H R F vs Q E h c G r j=>?_⟩;have M:=len _ _ _ _ j;have KX:K.In s.heap:=c.mod.kin.keeps λ b o e=>(c.bs b o e).1;have C:s.heap.NoLimit:=c.mod.nolimit.keeps λ b o e=>(c.bs b o e).1;have D :∀y∈ps.zip F,scope.names.lookup y.1=some .local\/(scope.names.lookup y.1=some .cell/\((cellsFrom (s.heap.objs.size + 1) scope.names []).lookup y.1).isSome=true):=λ ⟨n,v⟩ hy=>by
  rcases S.par n (C9 hy).1 with q|q
  ·exact .inl q
  ·exact .inr ⟨q,j3a _ _ _ (.inl q)⟩
 refine codeAny_call_function h.depth (KX _ _ lk) rfl S.co S.gen rfl (PySem.W.codeRec_of KX hcd) (G _ _ _ _ ?_);refine wpAny_newFunctionEnv_cells S.kind D λ O p l x=>?_;subst p;refine ⟨C.keeps x.toInCall.keep,codeAny_func ?_⟩;obtain ⟨t,B,z⟩:=hbody A outer s H vs Q E (h.deeper _) j;have I:Inv (ke CX P w K mg base N qual scope f cdv A outer s H E) [] (start N vs) H l:=Qq S h.hd c M r x;refine G3 (B [] l (start N vs) H _ I z) (λ L g a=>?_) λ e g a=>a;have m :∀{d:St} {H':Hp} {v:V} {u:ZG},Inv (ke CX P w K mg base N qual scope f cdv A outer s H E) [] d H' g->RelV v u->Q v H'->CE outer P w H s Q u g:=
  λ {d H' v u} J i q=>⟨v,H',J.os,J.bare,J.base,J.hok,i,q⟩
 cases L with
 | ret u=>obtain ⟨v,d,H',J,i,q⟩:=a;exact m J i q
 | next=>obtain ⟨d,H',J,q⟩:=a;exact m (v:=V.non) (u:=Value.none) J rfl q
 | brk=>obtain ⟨_,_,_,q⟩:=a;exact y4 q
 | cont=>obtain ⟨_,_,_,q⟩:=a;exact y4 q
section
variable {id T:String} {r:List V->Hp->VK->Prop}
def nA (r:List V->Hp->VK->Prop) (t:TA):TE:=λ σ H Q=>t σ H λ vs H1=>r vs H1 Q
def fD (hc:cc X (.builtin id) r) (hg:Gl X x) (hm:X.mg x=none) (hv:n8 x=some (.builtin id)) (ha:PA X (e :: es) t) (hn:x≠"__name__":=by decide) (hdb:(x == ("__debug__" : ZR))=false:=by decide)
  (he:N1 (e :: es) X.env=(false,O3 e X.env) :: N1 es X.env:=by rfl) (hpl:(J4 pos (N1 es X.env)).any (·.1)=false:=by rfl):PE X (.Call (.Name x p) (e :: es) [] pos) (nA r t):=by
 intro a s σ H Q I h;refine Q6 (fV I hg hm hv ?_ hn hdb);exact PyProof.Rows.callWith_builtin1 (bb (ha pos a s σ H _ I h) λ b c ⟨vs,H1,I1,r1,q1⟩=>hc a c σ H1 vs b Q I1 r1 q1) he hpl
def kK (hc:cc X (.type T) r) (hg:Gl X x) (hm:X.mg x=none) (hv:n8 x=some (.type T)) (ha:PA X (e :: es) t) (hn:x≠"__name__":=by decide) (hdb:(x == ("__debug__" : ZR))=false:=by decide)
  (he:N1 (e :: es) X.env=(false,O3 e X.env) :: N1 es X.env:=by rfl) (hpl:(J4 pos (N1 es X.env)).any (·.1)=false:=by rfl):PE X (.Call (.Name x p) (e :: es) [] pos) (nA r t):=by
 intro a s σ H Q I h;refine Q6 (fV I hg hm hv ?_ hn hdb);exact i4 (bb (ha pos a s σ H _ I h) λ b c ⟨vs,H1,I1,r1,q1⟩=>hc a c σ H1 vs b Q I1 r1 q1) he hpl
end
end L2
namespace HT
open PySem PyProof.Rows
section
variable {prog:ZJ} {w:U0} {A:B2} {E:ZG->A0->Prop} {s:A0}
def cat_tup {t b:ZS} {vs ws:List ZG} {Q:ZG->A0->Prop} (ht:IsTup s.heap t vs.toArray) (hb:IsTup s.heap b ws.toArray) (hv:vs≠[])
  (h1:ws=[]->Q (.ref t) s) (h2:ws≠[]->Q (.ref s.heap.objs.size) { s with heap:=s.heap.push { cls:=.type "tuple",data:=.seq (vs++ws).toArray } })
  (hsz:vs.length + ws.length<=ZF):V0 (F1 prog w) A (z5 .Add (.ref t) (.ref b)) Q E s:=by
 obtain ⟨⟨cls,g,data,f⟩,c,h,n,d⟩:=id ht;obtain ⟨⟨p,m,o,l⟩,a,j,k,i⟩:=id hb;simp only at h d j i;subst h d j i;have e:vs.toArray++ws.toArray=(vs++ws).toArray:=by simp
 by_cases hw:ws=[]
 ·exact concat_meets ⟨_,c,rfl⟩ ⟨_,a,rfl⟩ j38 seq_tuple_add N8 u8 (c8 _ _)
   (tuple_addW1 t b vs.toArray ws.toArray n k g m f l (by simpa using hv) (by simp [hw])) ⟨c,a,h1 hw⟩
 ·refine concat_meets ⟨_,c,rfl⟩ ⟨_,a,rfl⟩ j38 seq_tuple_add N8 u8 (c8 _ _)
   (tuple_addW2 t b vs.toArray ws.toArray n k g m f l (by simpa using hv) (by simpa using hw) (by rw [N0,N0];exact hsz)) ⟨c,a,?_⟩
  rw [e];exact h2 hw
noncomputable def sIx (n d:Nat):Option Int->Nat
 | none=>d
 | some v=>if v < 0 then (v + (n:Int)).toNat else min v.toNat n
def sIx_none (n d:Nat):sIx n d none=d:=rfl
theorem sIx_nat (n d k:Nat):sIx n d (some (k:Int))=min k n:=by show (if (k:Int) < 0 then ((k:Int) + (n:Int)).toNat else min (k:Int).toNat n)=min k n;rw [if_neg (by lia),S6]
theorem qO (n d:Nat) (hd:d<=n) (o:Option Int):sIx n d o<=n:=by
 cases o with
 | none=>exact hd
 | some v=>
  show (if v < 0 then (v + (n:Int)).toNat else min v.toNat n)<=n;by_cases hv:v < 0
  ·rw [if_pos hv];lia
  ·rw [if_neg hv];exact Nat.min_le_right _ _
theorem Ia (v:Int) (n d:Nat):(if v < 0 then max (v + (n:Int)) 0 else min v (n:Int))=((sIx n d (some v):Nat):Int):=by
 show (if v < 0 then max (v + (n:Int)) 0 else min v (n:Int))=(((if v < 0 then (v + (n:Int)).toNat else min v.toNat n):Nat):Int);by_cases hv:v < 0
 ·simp only [if_pos hv];lia
 ·simp only [if_neg hv];lia
theorem Nr (lo hi:Option Int) (n:Nat):m7 lo hi 1 (n:Int)=(((sIx n 0 lo:Nat):Int),((sIx n n hi:Nat):Int)):=by
 have a:¬ ((1:Int) < 0):=by lia
 unfold m7;simp only [a,if_false];refine j5g ?_ ?_
 ·cases lo with
  | none=>rfl
  | some v=>exact Ia v n 0
 ·cases hi with
  | none=>rfl
  | some v=>exact Ia v n n
theorem MO (i j:Nat):B5 (i:Int) (j:Int) 1=j - i:=by
 unfold B5;have a:(1:Int) > 0:=by lia
 simp only [a,if_true,Int.ediv_one];split<;>lia
def EY {v:ZG} {o:Option Int} {Q:Option Int->A0->Prop} (p:j26 v o) (h:Q o s):V0 (F1 prog w) A (Builtin.Slice.slicePartIndex v) Q E s:=by
 cases p with
 | none=>exact slicePart_none h
 | int i t=>exact slicePart_int h
def LD {sl:ZS} {vl vu:ZG} {lo hi:Option Int} {n:Nat} {Q:Int×Int×Nat->A0->Prop} (hs:s.heap.IsSliceOf sl vl vu .none) (pl:j26 vl lo) (pu:j26 vu hi)
  (h:Q (((sIx n 0 lo:Nat):Int),1,sIx n n hi - sIx n 0 lo) s):V0 (F1 prog w) A (j0d (.ref sl) (W1 (n:Int))) Q E s:=by
 obtain ⟨d,a,c,b⟩:=id hs;unfold j0d Builtin.Slice.sliceFields;refine d0 (d0 (P7 a b (x:=vl) rfl (d0 (P7 a b (x:=vu) rfl (d0 (P7 a b (x:=.none) rfl (L0 ?_)))))));refine d0 (slicePart_none ?_);show V0 _ _ (if ((1:Int) == 0)=true then _ else _) _ _ s;rw [if_neg (by decide)];refine d0 (EY pl (d0 (EY pu (d0 (L0 ?_)))));show V0 _ _ (match m7 lo hi 1 (n:Int) with|(lo,hi)=>W1 (lo,(1:Int),B5 lo hi 1)) _ _ s;rw [Nr lo hi n];show V0 _ _ (W1 (((sIx n 0 lo:Nat):Int),(1:Int),B5 ((sIx n 0 lo:Nat):Int) ((sIx n n hi:Nat):Int) 1)) _ _ s;rw [MO];exact L0 h
theorem NW (xs:Array ZG) (i k:Nat):((B1 k).filterMap λ (m:Nat)=>xs[((i:Int) + (m:Int) * 1).toNat]?).toArray=((xs.toList.drop i).take k).toArray:=by
 have e:(λ (m:Nat)=>xs[((i:Int) + (m:Int) * 1).toNat]?)=λ m=>xs[i + m]?:=by
  funext m;have:((i:Int) + (m:Int) * 1).toNat=i + m:=by lia
  rw [this]
 rw [e];have:=pick_run xs i k;rw [List.filterMap_map] at this;have a:((λ x=>xs[x]?) ∘ λ x=>i + x)=λ m=>xs[i + m]?:=rfl;rw [a] at this;rw [this]
theorem getItem_tuple_cut {t sl:ZS} {items:Array ZG} {vl vu:ZG} {lo hi:Option Int} {Q:ZG->A0->Prop} (ht:IsTup s.heap t items) (hs:s.heap.IsSliceOf sl vl vu .none) (pl:j26 vl lo) (pu:j26 vu hi)
  (hw:¬ (sIx items.size 0 lo=0/\sIx items.size items.size hi=items.size))
  (h:Q (.ref s.heap.objs.size) { s with heap:=s.heap.push { cls:=.type "tuple",data:=.seq ((items.toList.drop (sIx items.size 0 lo)).take (sIx items.size items.size hi - sIx items.size 0 lo)).toArray } })
  (hsz:items.size<=ZF):V0 (F1 prog w) A (j15 (.ref t) (.ref sl)) Q E s:=by
 have a:sizeOk (.seq ((items.toList.drop (sIx items.size 0 lo)).take (sIx items.size items.size hi - sIx items.size 0 lo)).toArray):=by
  show ((items.toList.drop (sIx items.size 0 lo)).take (sIx items.size items.size hi - sIx items.size 0 lo)).toArray.size<=ZF;rw [N0,A3,V4,R1]
  lia
 have k:sIx items.size items.size hi<=items.size:=qO _ _ (u0 _) hi;obtain ⟨f,c,d,g⟩:=id hs;have b:s.TypeIs (.ref sl) "slice":=⟨f,c,d⟩
 unfold j15
 try with_reducible refine Z4 ?_
 first|refine d0 (L0 ?_)|skip
 refine d0 (wpAny_sequenceKey ht.typeIs (by decide) ?_);refine d0 (u5 (name:=u9 "__getitem__") ht.typeIs Q9
  (B3 Q9 ht.typeIs entry_tuple_getitem ?_ (args_tuple_getitem _ _)))
 show V0 _ _ (Builtin.Tuple.tupleItemsOf (.ref t) >>= _) _ _ s;refine d0 (tupleItemsOf_ ht ?_);refine d0 (W9 b ?_);rw [if_pos (by decide)];refine d0 (LD hs pl pu ?_);have e:¬ ((((sIx items.size 0 lo:Nat):Int) == 0 && (1:Int) == 1 && (sIx items.size items.size hi - sIx items.size 0 lo) == items.size)=true):=by intro q;rw [J2,J2] at q;have j:((sIx items.size 0 lo:Nat):Int)=0:=eq_of_beq q.1.1;have i:sIx items.size items.size hi - sIx items.size 0 lo=items.size:=eq_of_beq q.2;exact hw ⟨by lia,by lia⟩
 show V0 _ _ (if (((sIx items.size 0 lo:Nat):Int) == 0 && (1:Int) == 1 && (sIx items.size items.size hi - sIx items.size 0 lo) == items.size)=true then _ else _) _ _ s;rw [if_neg e,NW];first
  | exact d0 (m:=N5 _) (J3 (L0 ⟨_,rfl,L0 h⟩) a)
  | exact d0 (m:=N5 _) (J3 (d0 (L0 (L0 ⟨_,rfl,L0 h⟩))) a)
  | exact d0 (d0 (m:=N5 _) (J3 (L0 (L0 ⟨_,rfl,L0 h⟩)) a))
  | exact d0 (d0 (m:=N5 _) (J3 (L0 ⟨_,rfl,L0 h⟩) a))
end
end HT
def Z_:=@if_neg
def ZZ:=@if_pos
def ZY:=@decide_eq_true
def ZX:=@decide_eq_false
def ZW:=@of_decide_eq_true
def ZV:=@absurd
def ZU:=@congrArg
def ZT:=@bind_congr
namespace L2
open PySem PySem.Spec PyProof.Rows
noncomputable abbrev TO:=St->Hp->(Option Int->Hp->Prop)->Prop
def PO (X:Cx) (e:Option ZN) (t:TO):Prop:=
 ∀(pins:List (ZS×ZQ)) (s:A0) (σ:St) (H:Hp) (Q:Option Int->Hp->Prop),Inv X pins σ H s->t σ H Q->
  V0 (F1 X.prog X.w) X.A (evalPart e X.env) (λ u s'=>∃o H',Inv X pins σ H' s'/\j26 u o/\Q o H') X.xe s
def AA:TO:=λ _ H Q=>Q none H
def nv (t:TE):TO:=λ σ H Q=>t σ H λ x H1=>∃i,x=.int i/\Q (some i) H1
def IA {ns:List Int} :∀{us:List ZG},aJ (ns.map V.int) us->j02 us ns:=by
 induction ns with
 | nil=>intro us r;rw [c6] at r;cases r;exact .nil
 | cons n ns ih=>
  intro us r;rw [C1] at r;cases r with
  | cons r1 r2=>obtain ⟨t,e⟩:=r1;subst e;exact .cons n t (ih r2)
variable {X:Cx} {e:ZN} {pos:ZP}
section
variable {te:TE} {lo hi:Option ZN} {tl th:TO} {p2:ZP}
def nE:PO X none AA:=by intro a s σ H Q I h;rw [evalPart_none];exact L0 ⟨none,H,I,.none,h⟩
def kZ (h:PE X e te):PO X (some e) (nv te):=by intro b s σ H Q I a;rw [evalPart_some];refine bb (h b s σ H _ I a) λ u c zz=>?_;obtain ⟨x,H1,I1,r1,q1⟩:=zz;obtain ⟨i,rfl,q⟩:=q1;obtain ⟨t,rfl⟩:=r1;exact ⟨some i,H1,I1,.int i t,q⟩
def nW (X:Cx) (r:V->Option Int->Option Int->Hp->VK->Prop):Prop:=
 ∀(pins:List (ZS×ZQ)) (s:A0) (σ:St) (H:Hp) (x:V) (v vl vu:ZG) (lo hi:Option Int) (sl:ZS) (Q:VK),Inv X pins σ H s->RelV x v->s.heap.IsSliceOf sl vl vu .none->j26 vl lo->j26 vu hi->r x lo hi H Q->
  ∃T id,typeLookup (.type T) "__getitem__" = W1 (some (.builtin id))/\s.TypeIs v T/\V0 (F1 X.prog X.w) X.A (j15 v (.ref sl)) (EP X pins σ Q) X.xe s
def nW.or {r r':V->Option Int->Option Int->Hp->VK->Prop} (h:nW X r) (h':nW X r'):nW X (λ x lo hi H Q=>r x lo hi H Q\/r' x lo hi H Q):=by
 intro g s σ H x v b a lo hi c Q I f e i d q;rcases q with q|q
 ·exact h g s σ H x v b a lo hi c Q I f e i d q
 ·exact h' g s σ H x v b a lo hi c Q I f e i d q
def Ar (r:V->Option Int->Option Int->Hp->VK->Prop) (te:TE) (tl th:TO):TE:=λ σ H Q=>te σ H λ x H1=>tl σ H1 λ l H2=>th σ H2 λ u H3=>r x l u H3 Q
def nD {r:V->Option Int->Option Int->Hp->VK->Prop} (hr:nW X r) (he:PE X e te) (hl:PO X lo tl) (hu:PO X hi th):PE X (.Subscript e (.Slice lo hi none p2) pos) (Ar r te tl th):=by intro c s σ H Q I h;refine j59 (bb (he c s σ H _ I h) λ v k zz=>?_);obtain ⟨x,H1,I1,r1,q1⟩:=zz;refine wpAny_Slice (bb (hl c k σ H1 _ I1 q1) λ f n ⟨l,H2,I2,pl,q2⟩=>bb (hu c n σ H2 _ I2 q2) λ d a zz=>?_);obtain ⟨u,H3,I3,pu,q3⟩:=zz;rw [evalPart_none];refine L0 ?_;have j:Inv X c σ H3 { a with heap:=a.heap.push { cls:=.type "slice",data:=.fields #[f,d,.none] } }:=I3.kept (t':=a.toks) λ b o q=>F0 _ q;obtain ⟨T,id,m,i,g⟩:=hr c { a with heap:=a.heap.push { cls:=.type "slice",data:=.fields #[f,d,.none] } } σ H3 x v f d l u a.heap.objs.size Q j r1 (j2b ..) pl pu q3;show V0 (F1 X.prog X.w) X.A (j1i e (.Slice lo hi none p2) v (.ref a.heap.objs.size)) (EP X c σ Q) X.xe { a with heap:=a.heap.push { cls:=.type "slice",data:=.fields #[f,d,.none] } };exact j51 (ops:=[.ref a.heap.objs.size,v]) i m g (by with_unfolding_all rfl)
noncomputable def bY (xs:List V) (lo hi:Option Int):List V:=(xs.drop (HT.sIx xs.length 0 lo)).take (HT.sIx xs.length xs.length hi - HT.sIx xs.length 0 lo)
theorem Hh (xs:List V) (lo hi:Option Int):(bY xs lo hi).length<=xs.length:=by
 unfold bY;rw [A3,V4]
 lia
def og (K:b0):V->Option Int->Option Int->Hp->VK->Prop:=λ x lo hi H Q=>∃a xs,x=.ref a/\aH K H a xs/\
 ¬ (HT.sIx xs.length 0 lo=0/\HT.sIx xs.length xs.length hi=xs.length)/\∀p,H p=none->Q (.ref p) (upd H p (.tup (bY xs lo hi)))
def qt:nW X (og X.K):=by
 intro y s σ H x v w u d f z Q I l n t m h;obtain ⟨a,c,rfl,p,j,q⟩:=h;cases l;obtain ⟨k,r,g,i⟩:=I.tuple p;have e:k.toArray.size=c.length:=by rw [N0];exact r.length.symm
 refine ⟨"tuple",_,PyProof.Rows.slot_tuple_getitem.lookup,g.typeIs,?_⟩;refine HT.getItem_tuple_cut g n t m (by rw [e];exact j) ?_ (by rw [e];exact i);rw [e];refine ⟨.ref s.heap.objs.size,_,I.laid (t':=s.toks) (o:=.tup (bY c d f)) (λ b A q=>F0 _ q) (u0 _) ?_,rfl,q _ (I.hok.fresh (u0 _))⟩;exact ⟨D0 (Hh c d f) i,_,(r.drop (HT.sIx c.length 0 d)).take (HT.sIx c.length c.length f - HT.sIx c.length 0 d),gg.new _ _⟩
def kP (K:b0):R2:=λ x y H Q=>∃a b xs ys,x=.ref a/\y=.ref b/\aH K H a xs/\aH K H b ys/\xs≠[]/\xs.length + ys.length<=ZF/\
 (ys=[]->Q (.ref a) H)/\(ys≠[]->∀p,H p=none->Q (.ref p) (upd H p (.tup (xs++ys))))
def aJ.nil_iff {xs:List V} {us:List ZG} (r:aJ xs us):us=[]↔xs=[]:=by
 cases r with
 | nil=>simp
 | cons _ _=>simp
def vz:eA X (z5 .Add) (kP X.K):=by intro B s σ H x y v u Q I l i h;obtain ⟨a,b,m,k,rfl,rfl,f,p,r,e,j,g⟩:=h;cases l;cases i;obtain ⟨A,d,n,_⟩:=I.tuple f;obtain ⟨C,c,t,_⟩:=I.tuple p;refine HT.cat_tup n t (λ z=>r (d.nil_iff.mp z)) (λ z=>⟨.ref a,H,I,rfl,j (c.nil_iff.mp z)⟩) (λ z=>?_) (by rw [<-d.length,<-c.length];exact e);refine ⟨.ref s.heap.objs.size,_,I.laid (t':=s.toks) (o:=.tup (m++k)) (λ b D q=>F0 _ q) (u0 _) ?_,rfl,g (λ w=>z (c.nil_iff.mpr w)) _ (I.hok.fresh (u0 _))⟩;exact ⟨by rw [G0];exact e,_,d.append c,gg.new _ _⟩
end
noncomputable def nZ (n:Nat) (i:Int):Option Nat:=if 0<=i then (if i < n then some i.toNat else none) else if -(n:Int)<=i then some (i + n).toNat else none
noncomputable def oq {α:Type} (xs:List α) (i:Int):Option α:=(nZ xs.length i).bind λ j=>xs[j]?
variable {n:Nat}
theorem Ij {i:Int} {j:Nat} (h:nZ n i=some j):seqIndex? i n=some j/\j < n/\-(n:Int)<=i/\i < n:=by
 unfold nZ at h;by_cases h0:0<=i
 ·rw [ZZ h0] at h;by_cases h1:i < n
  ·rw [ZZ h1] at h;have e:i.toNat=j:=A1 h;exact ⟨by rw [seqIndex_of h0 h1,e],by lia,by lia,h1⟩
  ·rw [Z_ h1] at h;cases h
 ·rw [Z_ h0] at h;by_cases h1:-(n:Int)<=i
  ·rw [ZZ h1] at h;have e:(i + n).toNat=j:=A1 h;exact ⟨by rw [seqIndex_neg (by lia) h1,e],by lia,h1,by lia⟩
  ·rw [Z_ h1] at h;cases h
def yI {α:Type} {xs:List α} {i:Int} {v:α} (h:oq xs i=some v) :∃j,seqIndex? i xs.length=some j/\xs[j]? = some v/\j < xs.length/\-(xs.length:Int)<=i/\i < xs.length:=by
 unfold oq at h;cases e:nZ xs.length i with
 | none=>rw [e] at h;cases h
 | some j=>rw [e] at h;obtain ⟨c,b,d,a⟩:=Ij e;exact ⟨j,c,h,b,d,a⟩
theorem bG {α:Type} {xs:List α} {j:Nat} {v:α} (h:xs[j]? = some v):oq xs (j:Int)=some v:=by
 have a:j < xs.length:=(List.getElem?_eq_some_iff.mp h).1;have e:nZ xs.length (j:Int)=some j:=by unfold nZ;rw [ZZ (by lia),ZZ (by lia)];simp
 unfold oq;rw [e];exact h
def Io (b:ZN):Prop:=∀o i,j3d b false o i=operate [o,i] (j15 o i)
def lB (X:Cx) (r:R2):Prop:=
 ∀(value slice:ZN) (pins:List (ZS×ZQ)) (s:A0) (σ:St) (H:Hp) (x y:V) (v u:ZG) (Q:VK),Inv X pins σ H s->RelV x v->RelV y u->r x y H Q->
  j3d slice false v u=operate [v,u] (j15 v u)->V0 (F1 X.prog X.w) X.A (j1i value slice v u) (EP X pins σ Q) X.xe s
def FL (X:Cx) (id:String) (r:V->List V->Hp->VK->Prop):Prop:=
 ∀(pins:List (ZS×ZQ)) (s:A0) (σ:St) (H:Hp) (x:V) (xs:List V) (v:ZG) (us:List ZG) (Q:VK),Inv X pins σ H s->RelV x v->aJ xs us->r x xs H Q->
  V0 (F1 X.prog X.w) X.A (call (.builtin id) (v :: us)) (EP X pins σ Q) X.xe s
variable {A:B2} {H:Hp} {T:String} {its:List ZG} {pins:List (ZS×ZQ)} {s:A0} {u v:ZG} {x y:V} {σ:St}
section
variable {a b:ZN} {ta tb:TE} 
def lB.or {r r':R2} (h:lB X r) (h':lB X r'):lB X (λ x y H Q=>r x y H Q\/r' x y H Q):=by
 intro a e f s σ H x y v u Q I c d q b;rcases q with q|q
 ·exact h a e f s σ H x y v u Q I c d q b
 ·exact h' a e f s σ H x y v u Q I c d q b
def aq {r:R2} (hr:lB X r) (ha:PE X a ta) (hb:PE X b tb) (hs:Io b):PE X (.Subscript a b pos) (jQ r ta tb):=by intro i s σ H Q I h;exact j59 (sd ha hb I h λ v u d x y g c e f q=>hr a b i d σ g x y v u Q c e f q (hs _ _))
inductive Bc (K:b0) (x y:V) (H:Hp) (Q:VK):Prop
 | mk (p:ZS) (xs:List V) (i:Int) (v:V) (a:x=.ref p) (b:y=.int i) (c:aK K H p xs) (d:oq xs i=some v) (q:Q v H)
def uq (K:b0):R2:=λ x y H Q=>Bc K x y H Q
inductive Av (K:b0) (x y:V) (H:Hp) (Q:VK):Prop
 | mk (p:ZS) (xs:List V) (i:Int) (v:V) (a:x=.ref p) (b:y=.int i) (c:aH K H p xs) (d:oq xs i=some v) (q:Q v H)
def wM (K:b0):R2:=λ x y H Q=>Av K x y H Q
def vr:R2:=λ x y H Q=>∃z i c,x=.str z/\y=.int i/\z.length<=ZF/\oq z.cps.toList i=some c/\Q (.str ⟨#[c]⟩) H
theorem nQ:lB X (uq X.K):=by
 intro N O d s σ H x y v u Q I C o h e;obtain ⟨p,L,i,z,rfl,rfl,A,m,q⟩:=h;cases C;obtain ⟨t,rfl⟩:=o;obtain ⟨n,r,c,J⟩:=I.list A;obtain ⟨j,a,k,G,B,E⟩:=yI m;obtain ⟨w,g,l⟩:=r.get k;have F:=r.length;have M:=gw;have f:EP X d σ Q w s:=⟨z,H,I,l,q⟩
 by_cases h0:0<=i
 ·have b:i.toNat=j:=by rw [seqIndex_of h0 E] at a;exact A1 a
  exact item_listR c.isList h0 (by lia) (by rw [b];simpa using g) f e
 ·have b:(i + (n.toArray.size:Int)).toNat=j:=by rw [seqIndex_neg (by lia) B] at a;rw [N0,<-F];exact A1 a
  exact subscriptTail_builtinR (x:=w) c.isList.typeIs slot_list_getitem.lookup
   (wpAny_getItem_list_neg (Q:=λ r D=>r=w/\EP X d σ Q r D) c.isList (by lia) (by rw [N0]<;>lia) (by lia) (by rw [b];simpa using g) ⟨rfl,f⟩) e
theorem qp:lB X (wM X.K):=by
 intro M N a s σ H x y v u Q I k f h n;obtain ⟨p,G,i,z,rfl,rfl,g,e,q⟩:=h;cases k;obtain ⟨t,rfl⟩:=f;obtain ⟨D,r,b,F⟩:=I.tuple g;obtain ⟨j,m,c,C,E,L⟩:=yI e;obtain ⟨w,B,d⟩:=r.get c;have A:=r.length;have J:=gw;have o:EP X a σ Q w s:=⟨z,H,I,d,q⟩
 exact subscriptTail_builtinR (x:=w) b.typeIs slot_tuple_getitem.lookup
  (getItem_tuple (j:=j) (Q:=λ r l=>r=w/\EP X a σ Q r l) b (by lia) (by lia) (by rw [N0,<-A];exact m) (by simpa using B) ⟨rfl,o⟩) n
theorem rK:lB X vr:=by
 intro C D w s σ H x y v u Q I k e h l;obtain ⟨z,i,c,rfl,rfl,A,d,q⟩:=h;obtain ⟨t,rfl⟩:=k;obtain ⟨r,rfl⟩:=e;obtain ⟨j,a,b,p,g,n⟩:=yI d;have o:z.cps.toList.length=z.length:=by simp [Str.length]
 rw [o] at a g n;have B:=gw;exact j51 (typeIs_str s z t) slot_str_getitem.lookup (getItem_str (c:=c) (by have m:decide (i < -(2 ^ 63:Int))=false:=ZX (by lia);have f:decide (i ≥ 2 ^ 63)=false:=ZX (by lia);rw [m,f,Bool.or_false]) (by rw [a];simpa using b) ⟨.str ⟨#[c]⟩,H,I.tok _,⟨_,rfl⟩,q⟩) l
def oP (K:b0):R2:=λ x y H Q=>uq K x y H Q\/wM K x y H Q\/vr x y H Q
def aj:lB X (oP X.K):=nQ.or (qp.or rK)
def Mg (its:List ZG) (n j:Nat) (u:ZG):Y5 (·.setIfInBounds j u) { cls:=.type "list",data:=.seq its.toArray n }={ cls:=.type "list",data:=.seq (its.set j u).toArray n }:=by simp [Y5]
def Inv.lst {p:ZS} {xs:List V} (I:Inv X pins σ H s) (h:H p=some (.lst xs)) :
  ∃(its:List ZG) (n:Nat),aJ xs its/\s.heap.get? p=some { cls:=.type "list",data:=.seq its.toArray n }/\xs.length<=ZF:=by
 obtain ⟨z,its,n,r,e⟩:=I.hok p _ h;exact ⟨its,n,r,e,z⟩
def Inv.lstUpd {p:ZS} {xs ys:List V} {its':List ZG} {n':Nat} {f:ZQ->ZQ} (I:Inv X pins σ H s) (h:H p=some (.lst xs))
  (ho:s.heap.get? p=some { cls:=.type "list",data:=.seq its.toArray n }) (hf:f { cls:=.type "list",data:=.seq its.toArray n }={ cls:=.type "list",data:=.seq its'.toArray n' }) (r:aJ ys its') (hz:ys.length<=ZF) (t:Nat) :
  Inv X pins σ (upd H p (.lst ys)) { s with heap:=s.heap.update p f,toks:=t }:=by
 have e:(s.heap.update p f).get? p=some { cls:=.type "list",data:=.seq its'.toArray n' }:=by rw [K9 f ho (by rw [hf]<;>rfl),hf]
 refine I.write (x:=p) (e:=p) (by rw [h];trivial) (.inl rfl) (λ b u a q=>(Z8 _ _ (C4 a)).trans q) ⟨_,e⟩ ?_;exact ⟨hz,its',n',r,e⟩
def tO:V->V->V->Hp->(Hp->Prop)->Prop:=λ o i v H Q=>∃p xs k j,o=.ref p/\i=.int k/\H p=some (.lst xs)/\nZ xs.length k=some j/\Q (upd H p (.lst (xs.set j v)))
theorem sP:wj X tO:=by
 intro x s σ H o i v E G u Q I w C B h;obtain ⟨p,A,k,j,rfl,rfl,g,z,q⟩:=h;cases w;obtain ⟨t,rfl⟩:=C;obtain ⟨f,n,r,c,y⟩:=I.lst g;obtain ⟨a,D,e,l⟩:=Ij z;have d:=r.length;have F:=gw;have m:Inv X x σ (upd H p (.lst (A.set j v))) { s with heap:=s.heap.update p (Y5 (·.setIfInBounds j u)) }:=
  I.lstUpd g c (Mg f n j u) (r.set B j) (by rw [j27];exact y) s.toks
 by_cases h0:0<=k
 ·have b:k.toNat=j:=by rw [seqIndex_of h0 l] at a;exact A1 a
  exact PySem.W.ki_setAt c h0 (by lia) (by rw [N0,<-d];exact l) (by rw [b];exact ⟨_,m,q⟩)
 ·have b:(k + (f.toArray.size:Int)).toNat=j:=by rw [seqIndex_neg (by lia) e] at a;rw [N0,<-d];exact A1 a
  exact PySem.W.ki_setBack c (by lia) (by rw [N0,<-d];exact e) (by lia) (by rw [b];exact ⟨_,m,q⟩)
theorem Ov (lo hi:Option Int) (n:Nat):(Z2 lo hi none n).1=((HT.sIx n 0 lo:Nat):Int)/\(Z2 lo hi none n).2.1=((HT.sIx n n hi:Nat):Int)/\(Z2 lo hi none n).2.2=1:=by
 refine ⟨?_,?_,rfl⟩
 ·cases lo with
  | none=>simp [Z2,HT.sIx]
  | some i=>
   simp only [Z2,HT.sIx,Option.getD_none,show (1:Int) > 0 by decide,if_true];by_cases h:i < 0
   ·simp only [h,if_true]<;>lia
   ·simp only [h,if_false]<;>lia
 ·cases hi with
  | none=>simp [Z2,HT.sIx]
  | some i=>
   simp only [Z2,HT.sIx,Option.getD_none,show (1:Int) > 0 by decide,if_true];by_cases h:i < 0
   ·simp only [h,if_true]<;>lia
   ·simp only [h,if_false]<;>lia
def NH (its:List ZG) (lo hi:Option Int):slicePick its.toArray lo hi none=((its.drop (HT.sIx its.length 0 lo)).take (HT.sIx its.length its.length hi - HT.sIx its.length 0 lo)).toArray:=by obtain ⟨b,a,c⟩:=Ov lo hi its.toArray.size;unfold slicePick;rw [b,a,c];simp only [sliceRange_one,pick_run,N0]<;>rfl
def nH (K:b0):V->Option Int->Option Int->Hp->VK->Prop:=λ x lo hi H Q=>∃a xs,x=.ref a/\aK K H a xs/\∀p,H p=none->Q (.ref p) (upd H p (.lst (bY xs lo hi)))
theorem nS:nW X (nH X.K):=by intro w s σ H x v t p d e y Q I j l n k h;obtain ⟨a,c,rfl,m,q⟩:=h;cases j;obtain ⟨u,r,f,i⟩:=I.list m;have g:=r.length;refine ⟨"list",_,slot_list_getitem.lookup,f.isList.typeIs,?_⟩;refine wpAny_getItem_list_slice f.isList l n k .none (by simp) ?_ (by rw [N0]<;>lia);rw [NH,<-g];refine ⟨.ref s.heap.objs.size,_,I.laid (t':=s.toks) (o:=.lst (bY c d e)) (λ b z q=>F0 _ q) (u0 _) ?_,rfl,q _ (I.hok.fresh (u0 _))⟩;exact ⟨D0 (Hh c d e) i,_,0,(r.drop (HT.sIx c.length 0 d)).take (HT.sIx c.length c.length e - HT.sIx c.length 0 d),Z0 _ rfl⟩
noncomputable def fh:V->Bool
 | .non=>true
 | .bl _=>true
 | .int _=>true
 | .str _=>true
 | _=>false
noncomputable def oG:V->V->Bool
 | .non,.non=>true
 | .bl a,.bl b=>a == b
 | .bl a,.int b=>(if a then 1 else 0) == b
 | .int a,.bl b=>a == (if b then 1 else 0)
 | .int a,.int b=>a == b
 | .str a,.str b=>a == b
 | _,_=>false
def rD (ry:RelV y u) (rx:RelV x v) (fy:fh y=true) (fx:fh x=true):SeqAt.EqAt A s u v (oG y x):=by
 cases y with
 | non=>
  cases ry;cases x with
  | non=>cases rx;exact SeqAt.EqAt.same _
  | bl b=>cases rx;exact SeqAt.EqAt.none_bool b
  | int b=>obtain ⟨t,rfl⟩:=rx;exact SeqAt.EqAt.none_int b t
  | str b=>obtain ⟨t,rfl⟩:=rx;exact SeqAt.EqAt.none_str b t
  | _=>exact ZV (show false=true from fx) O0
 | bl a=>
  cases ry;cases x with
  | non=>cases rx;exact SeqAt.EqAt.bool_none a
  | bl b=>cases rx;exact SeqAt.EqAt.bool_bool a b
  | int b=>obtain ⟨t,rfl⟩:=rx;exact SeqAt.EqAt.bool_int a b t
  | str b=>obtain ⟨t,rfl⟩:=rx;exact SeqAt.EqAt.bool_str a b t
  | _=>exact ZV (show false=true from fx) O0
 | int a=>
  obtain ⟨c,rfl⟩:=ry;cases x with
  | non=>cases rx;exact SeqAt.EqAt.int_none a c
  | bl b=>cases rx;exact SeqAt.EqAt.int_bool a c b
  | int b=>obtain ⟨t,rfl⟩:=rx;exact SeqAt.EqAt.int_int a c b t
  | str b=>obtain ⟨t,rfl⟩:=rx;exact j3g a c b t
  | _=>exact ZV (show false=true from fx) O0
 | str a=>
  obtain ⟨c,rfl⟩:=ry;cases x with
  | non=>cases rx;exact SeqAt.EqAt.str_none a c
  | bl b=>cases rx;exact SeqAt.EqAt.str_bool a c b
  | int b=>obtain ⟨t,rfl⟩:=rx;exact j3f a c b t
  | str b=>obtain ⟨t,rfl⟩:=rx;exact j3e a c b t
  | _=>exact ZV (show false=true from fx) O0
 | _=>exact ZV (show false=true from fy) O0
noncomputable def jO (x:V) (u:ZG):Bool:=match u with
 | .none=>oG .non x
 | .bool b=>oG (.bl b) x
 | .int i _=>oG (.int i) x
 | .str z _=>oG (.str z) x
 | _=>false
def ml (r:RelV y u) (f:fh y=true):jO x u=oG y x:=by
 cases y with
 | non=>cases r;rfl
 | bl b=>cases r;rfl
 | int i=>obtain ⟨t,rfl⟩:=r;rfl
 | str z=>obtain ⟨t,rfl⟩:=r;rfl
 | _=>exact ZV (show false=true from f) O0
theorem tW:∀{xs:List V} {us:List ZG},aJ xs us->xs.all fh=true->us.any (jO x)=xs.any λ y=>oG y x
 | _,_,.nil,_=>rfl
 | y :: xs,u :: us,.cons r t,f=>by rw [List.all_cons,J2] at f;rw [G8,G8,ml r f.1,tW t f.2]
theorem ug (rx:RelV x v) (fx:fh x=true) :∀{xs:List V} {us:List ZG},aJ xs us->xs.all fh=true->∀u∈us,SeqAt.EqAt A s u v (jO x u)
 | _,_,.nil,_=>λ u a=>by cases a
 | y :: xs,u :: us,.cons r t,f=>λ b a=>by
  rw [List.all_cons,J2] at f;rcases List.mem_cons.mp a with rfl|a
  ·rw [ml r f.1];exact rD r rx f.1 fx
  ·exact ug rx fx t f.2 b a
noncomputable def lg (x:V) (xs:List V):Bool:=xs.any λ y=>oG y x
def xQ (K:b0) (neg:Bool):R2:=λ x y H Q=>∃p xs,y=.ref p/\(aK K H p xs\/aH K H p xs)/\fh x=true/\xs.all fh=true/\Q (.bl (if neg then !lg x xs else lg x xs)) H
def oO:eA X (V2 .In) (xQ X.K false):=by
 intro j s σ H x y v u Q I e g h;obtain ⟨p,k,rfl,b,f,fs,q⟩:=h;cases g;rcases b with b|b
 ·obtain ⟨a,r,d,i⟩:=I.list b;refine SeqAt.in_listAt (jO x) d.isList (λ w c=>ug e f r fs w (by simpa using c)) ⟨.bl _,H,I,rfl,?_⟩;rw [show a.toArray.any (jO x)=a.any (jO x) by simp,tW r fs];exact q
 ·obtain ⟨a,r,d,i⟩:=I.tuple b;refine SeqAt.in_tupleAt (jO x) d (λ w c=>ug e f r fs w (by simpa using c)) ⟨.bl _,H,I,rfl,?_⟩;rw [show a.toArray.any (jO x)=a.any (jO x) by simp,tW r fs];exact q
def sJ:eA X (V2 .NotIn) (xQ X.K true):=by
 intro j s σ H x y v u Q I e g h;obtain ⟨p,k,rfl,b,f,fs,q⟩:=h;cases g;rcases b with b|b
 ·obtain ⟨a,r,d,i⟩:=I.list b;refine SeqAt.notIn_listAt (jO x) d.isList (λ w c=>ug e f r fs w (by simpa using c)) ⟨.bl _,H,I,rfl,?_⟩;rw [show a.toArray.any (jO x)=a.any (jO x) by simp,tW r fs];exact q
 ·obtain ⟨a,r,d,i⟩:=I.tuple b;refine SeqAt.notIn_tupleAt (jO x) d (λ w c=>ug e f r fs w (by simpa using c)) ⟨.bl _,H,I,rfl,?_⟩;rw [show a.toArray.any (jO x)=a.any (jO x) by simp,tW r fs];exact q
theorem iH:cc X (.builtin "len") (λ xs H Q=>∃p ys,xs=[.ref p]/\(aK X.K H p ys\/aH X.K H p ys)/\Q (.int ys.length) H):=by
 intro k s σ H xs i Q I r h;obtain ⟨p,ys,rfl,a,q⟩:=h;obtain ⟨u,rfl,g⟩:=vals1 r;cases g;have j:=gw;rcases a with a|a
 ·obtain ⟨f,b,d,e⟩:=I.list a;have c:=b.length;exact Calls.call_len_list d.isList (by simp only [N0]<;>lia) ⟨.int ys.length,H,I.tok _,⟨s.toks + 1,by rw [N0,c]⟩,q⟩
 ·obtain ⟨f,b,d,e⟩:=I.tuple a;have c:=b.length;exact len_tuple d (by simp only [N0]<;>lia) ⟨.int ys.length,H,I.tok _,⟨s.toks + 1,by rw [N0,c]⟩,q⟩
theorem RN:cc X (.builtin "len") (λ xs H Q=>∃z,xs=[.str z]/\z.length<=ZF/\Q (.int z.length) H):=by intro d s σ H xs a Q I r h;obtain ⟨z,rfl,b,q⟩:=h;obtain ⟨u,rfl,t,rfl⟩:=vals1 r;have c:=gw;exact len_str (by lia) ⟨.int z.length,H,I.tok _,⟨_,rfl⟩,q⟩
def cc.or {f:ZG} {r r':List V->Hp->VK->Prop} (h:cc X f r) (h':cc X f r'):cc X f (λ xs H Q=>r xs H Q\/r' xs H Q):=by
 intro c s σ H xs b Q I a q;rcases q with q|q
 ·exact h c s σ H xs b Q I a q
 ·exact h' c s σ H xs b Q I a q
theorem nh:cc X (.type "tuple") (λ xs H Q=>∃p ys,xs=[.ref p]/\((aK X.K H p ys/\∀l,H l=none->Q (.ref l) (upd H l (.tup ys)))\/(aH X.K H p ys/\Q (.ref p) H))):=by
 intro j s σ H xs x Q I r h;obtain ⟨p,ys,rfl,h⟩:=h;obtain ⟨u,rfl,n⟩:=vals1 r;cases n;rcases h with ⟨d,q⟩|⟨d,q⟩
 ·obtain ⟨c,f,g,k⟩:=I.list d;have v:=f.length;refine call_tuple_list g.isList (λ a t=>?_) (by simp only [N0]<;>lia);have i:Inv X j σ H { s with heap:=a }:=I.kept (t':=s.toks) t;have m:Inv X j σ (upd H a.objs.size (.tup ys)) { s with heap:=a.push { cls:=.type "tuple",data:=.seq c.toArray } }:=
   i.laid (t':=s.toks) (λ b o e=>F0 _ e) (u0 _) (show br X.prog X.w _ _ _ (.tup ys) from ⟨k,c,f,gg.new _ _⟩)
  exact ⟨.ref a.objs.size,_,m,rfl,q _ (i.hok.fresh (u0 _))⟩
 ·obtain ⟨c,f,g,k⟩:=I.tuple d;exact call_tuple_same g ⟨.ref p,H,I,rfl,q⟩
def xM (K:b0) (T:String) (x:V) (H:Hp):Prop:=match x with
 | .str _=>T = "str"
 | .int _=>T = "int"
 | .ref p=>(T = "list"/\∃xs,aK K H p xs)\/(T = "tuple"/\∃o,K.lookup p=some o/\o.cls=.type "tuple"/\o.dict=none)\/
   (T = "dict"/\((∃kvs,H p=some (.dK kvs))\/∃kvs,H p=some (.dT kvs)))\/(T = "set"/\∃S n,H p=some (.set S n))
 | _=>False
def mN (I:Inv X pins σ H s) (r:RelV x v) (ty:xM X.K T x H) :
  s.TypeIs v T/\∀a,v=.ref a->∃ob,s.heap.get? a=some ob/\ob.dict=none:=by
 cases x with
 | str z=>obtain ⟨t,rfl⟩:=r;cases (show T = "str" from ty);exact ⟨typeIs_str s z t,λ _ e=>nomatch e⟩
 | int i=>obtain ⟨t,rfl⟩:=r;cases (show T = "int" from ty);exact ⟨typeIs_int s i t,λ _ e=>nomatch e⟩
 | ref p=>
  cases r;rcases ty with ⟨rfl,m,k⟩|⟨rfl,o,b,hc,f⟩|⟨rfl,b⟩|⟨rfl,S,n,b⟩
  ·obtain ⟨l,_,h,_⟩:=I.list k;refine ⟨h.isList.typeIs,λ a e=>?_⟩;cases e;obtain ⟨o,n,e,c,f,_⟩:=h;exact ⟨o,e,f⟩
  ·refine ⟨⟨o,I.kIn p o b,hc⟩,λ a e=>?_⟩;cases e;exact ⟨o,I.kIn _ o b,f⟩
  ·have z :∃o,s.heap.get? p=some o/\o.ExactDict:=by
    rcases b with ⟨j,b⟩|⟨j,b⟩
    ·obtain ⟨_,_,_,_,o,_,_,e,d,_⟩:=I.hok p _ b;exact ⟨o,e,d⟩
    ·obtain ⟨_,_,_,_,o,_,_,e,d,_⟩:=I.hok p _ b;exact ⟨o,e,d⟩
   obtain ⟨o,e,d⟩:=z;refine ⟨⟨o,e,d.1⟩,λ a g=>?_⟩;cases g;exact ⟨o,e,d.2.1⟩
  ·obtain ⟨o,_,_,_,e,d,_⟩:=I.hok p _ b;refine ⟨⟨o,e,d.1⟩,λ a g=>?_⟩;cases g;exact ⟨o,e,d.2.1⟩
 | _=>exact y4 ty
def tV (K:b0) (T:String) (r:V->List V->Hp->VK->Prop) (to:TE):TE:=λ σ H Q=>to σ H λ x H1=>xM K T x H1/\r x [] H1 Q
def sN (K:b0) (T:String) (r:V->List V->Hp->VK->Prop) (to:TE) (t:TA):TE:=λ σ H Q=>to σ H λ x H1=>xM K T x H1/\t σ H1 λ xs H2=>r x xs H2 Q
variable {o:ZN} {es:List ZN} {to:TE} {t:TA} {name:ZR} {apos cpos:ZP} {id:String} {r:V->List V->Hp->VK->Prop}
def rW (pa:PlainAttrs T) (slot:Slot T name id) (hty:typeOf (.builtin id)=W1 (.type "method_descriptor")) (hm:FL X id r) (ho:PE X o to)
  (hbase:u4 o name X.env (O3 o X.env)=O3 o X.env:=by rfl) (hline:(apos.endLine == cpos.line)=true:=by rfl):PE X (.Call (.Attribute o name apos) [] [] cpos) (tV X.K T r to):=by
 intro a s σ H Q I h;refine wpAny_Call_method0_late hbase hline (bb (ho a s σ H _ I h) λ v b zz=>?_);obtain ⟨x,H1,I1,r1,ty,q1⟩:=zz;obtain ⟨d,c⟩:=mN I1 r1 ty;exact ⟨T,id,pa,slot,hty,d,c,K6 rfl (PySem.evalArgs_none (hm a b σ H1 x [] v [] Q I1 r1 .nil q1))⟩
def kO (pa:PlainAttrs T) (slot:Slot T name id) (hty:typeOf (.builtin id)=W1 (.type "method_descriptor")) (hm:FL X id r) (ho:PE X o to) (ha:PA X (e :: es) t)
  (hbase:u4 o name X.env (O3 o X.env)=O3 o X.env:=by rfl)
  (hfew:((J4 cpos (N1 (e :: es) X.env)).all (λ x=>!x.1) && (N9 cpos (V6 [] X.env)).all (λ x=>x.1.isSome)
   && decide ((e :: es).length + ([]:List A6).length + (if ([]:List A6).isEmpty then 0 else 1) < 30))=true:=by rfl)
  (hline:(apos.endLine == cpos.line)=true:=by rfl) (hs:N1 (e :: es) X.env=(false,O3 e X.env) :: N1 es X.env:=by rfl) (hplain:(J4 cpos (N1 es X.env)).any (·.1)=false:=by rfl) :
  PE X (.Call (.Attribute o name apos) (e :: es) [] cpos) (sN X.K T r to t):=by
 intro a s σ H Q I h;refine wpAny_Call_method_late hbase hfew hline rfl (bb (ho a s σ H _ I h) λ v c zz=>?_);obtain ⟨x,H1,I1,r1,ty,q1⟩:=zz;obtain ⟨f,d⟩:=mN I1 r1 ty;refine ⟨T,id,pa,slot,hty,f,d,?_⟩;have b:=ha cpos a c σ H1 _ I1 q1;rw [hs] at b⊢;refine K6 (by show (false || (J4 cpos (N1 es X.env)).any (·.1))=false;rw [hplain]<;>rfl) (R9 ?_);exact bb b λ i g ⟨vs,H2,I2,r2,q2⟩=>hm a g σ H2 x vs v i Q I2 r1 r2 q2
end
def wG (X:Cx) (id:String) (r:V->List V->Hp->VK->Prop):Prop:=
 ∀(pins:List (ZS×ZQ)) (s:A0) (σ:St) (H:Hp) (x:V) (xs:List V) (v:ZG) (us:List ZG) (Q:VK),Inv X pins σ H s->RelV x v->aJ xs us->r x xs H Q->
  V0 (F1 X.prog X.w) X.A (call (.builtin id) (v :: us)) (EP X pins σ Q) X.xe s
theorem aJ.one:∀{x:V} {us:List ZG},aJ [x] us->∃u,us=[u]/\RelV x u
 | _,_,.cons r .nil=>⟨_,rfl,r⟩
theorem aJ.zero:∀{us:List ZG},aJ [] us->us=[]
 | _,.nil=>rfl
def aJ.dropLast {xs:List V} {us:List ZG} (h:aJ xs us):aJ xs.dropLast us.dropLast:=by
 induction h with
 | nil=>exact .nil
 | cons r t ih=>
  cases t with
  | nil=>exact .nil
  | cons q t'=>exact .cons r ih
theorem LJ {α:Type} (l:List α):l.eraseIdx (l.length - 1)=l.dropLast:=by
 induction l with
 | nil=>rfl
 | cons a r ih=>
  cases r with
  | nil=>rfl
  | cons b r=>
   have e:(a :: b :: r).length - 1=((b :: r).length - 1) + 1:=by
    have d:(a :: b :: r).length=r.length + 2:=rfl;have c:(b :: r).length=r.length + 1:=rfl
    lia
   rw [e,List.eraseIdx_cons_succ,ih]
   all_goals rfl
variable {t':Nat}
section
variable {l b:ZS} {xs ys zs:List V}
def Inv.lset {its':List ZG} {f:Array ZG->Array ZG} (I:Inv X pins σ H s) (hH:H l=some (.lst xs))
  (e:s.heap.get? l=some { cls:=.type "list",data:=.seq its.toArray n }) (hf:f its.toArray=its'.toArray) (hv:aJ ys its') (hz:ys.length<=ZF) :
  Inv X pins σ (upd H l (.lst ys)) { s with heap:=s.heap.update l (Y5 f),toks:=t' }:=by
 have q:=PySem.IsL.update e f;rw [hf] at q;refine I.write (x:=l) (e:=l) (by rw [hH];exact trivial) (.inl rfl) (λ c u a b=>(Z8 s.heap (Y5 f) (C4 a)).trans b) ⟨_,q⟩ ?_;exact ⟨hz,its',_,hv,q⟩
def Inv.lnew (I:Inv X pins σ H s) (hv:aJ ys its) (hz:ys.length<=ZF) :
  Inv X pins σ (upd H s.heap.objs.size (.lst ys)) { s with heap:=s.heap.push { cls:=.type "list",data:=.seq its.toArray },toks:=t' }:=
 I.laid (λ _ _ q=>F0 _ q) (u0 _) ⟨hz,its,0,hv,Z0 _ rfl⟩
def Inv.fresh (I:Inv X pins σ H s):H s.heap.objs.size=none:=I.hok.fresh (u0 _)
def Inv.lstM (I:Inv X pins σ H s) (hH:H l=some (.lst xs)):xs.length<=ZF/\∃(its:List ZG) (n:Nat),aJ xs its/\xs.length=its.length/\s.heap.get? l=some { cls:=.type "list",data:=.seq its.toArray n }:=by obtain ⟨z,its,n,r,e⟩:=I.hok l _ hH;exact ⟨z,its,n,r,r.length,e⟩
theorem EB (h:n<=ZF):G7 n=false:=by unfold G7;exact ZX (by lia)
end
section
def HY:V->List V->Hp->VK->Prop:=λ x vs H Q=>∃l xs y,x=.ref l/\vs=[y]/\H l=some (.lst xs)/\xs.length < ZF/\Q .non (upd H l (.lst (xs++[y])))
theorem NX:wG X "list.append" HY:=by
 intro g s σ H x i v k Q I c f h;obtain ⟨l,m,y,rfl,rfl,b,j,q⟩:=h;cases c;obtain ⟨u,rfl,d⟩:=f.one;obtain ⟨z,a,n,r,o,e⟩:=I.lstM b;refine j55 F.slot_list_append ⟨_,e,rfl⟩ F.entry_list_append (F.args_list_append_2 _ _) (PySem.list_append l a.toArray n u (by rw [N0];lia)) ⟨e,?_⟩;refine ⟨.non,_,I.lset (its':=a++[u]) b e (by simp) (r.append (.cons d .nil)) ?_,rfl,q⟩;rw [G0,List.length_singleton]
 lia
def G_:V->List V->Hp->VK->Prop:=λ x vs H Q=>∃l b xs zs,x=.ref l/\vs=[.ref b]/\H l=some (.lst xs)/\H b=some (.lst zs)/\xs.length + zs.length<=ZF/\Q .non (upd H l (.lst (xs++zs)))
theorem Pw:wG X "list.extend" G_:=by
 intro w s σ H x y v B Q I m t h;obtain ⟨l,b,C,G,rfl,rfl,d,i,A,q⟩:=h;cases m;obtain ⟨u,rfl,o⟩:=t.one;cases o;obtain ⟨z,a,n,r,J,e⟩:=I.lstM d;obtain ⟨D,c,p,k,E,j⟩:=I.lstM i;have g:a.toArray.size + c.toArray.size<=ZF:=by rw [N0,N0];lia
 have f:¬ (not a.toArray.isEmpty && G7 (a.toArray.size + c.toArray.size))=true:=by rw [EB g,Z7];exact O0
 refine j55 F.slot_list_extend ⟨_,e,rfl⟩ F.entry_list_extend (F.args_list_extend_2 _ _)
  (AutoSeq1.list_extend_list_list_0 l a.toArray n b c.toArray p f (by rw [N0];lia) (by lia)) ⟨e,j,?_⟩
 refine ⟨.non,_,I.lset (its':=a++c) d e (by simp) (r.append k) ?_,rfl,q⟩;rw [G0]
 lia
def vo:V->List V->Hp->VK->Prop:=λ x vs H Q=>∃l xs y,x=.ref l/\vs=[]/\H l=some (.lst xs)/\xs[xs.length - 1]? = some y/\Q y (upd H l (.lst xs.dropLast))
theorem qW:wG X "list.pop" vo:=by
 intro o s σ H x p v t Q I d i h;obtain ⟨l,w,y,rfl,rfl,b,m,q⟩:=h;cases d;have c:=i.zero;subst c;obtain ⟨z,a,n,r,j,e⟩:=I.lstM b;obtain ⟨u,k,f⟩:=r.get m;have g:a.toArray[a.toArray.size - 1]? = some u:=by show a.toArray[a.length - 1]? = some u;rw [<-C5,<-j];exact k
 refine j55 F.slot_list_pop ⟨_,e,rfl⟩ F.entry_list_pop (F.args_list_pop_1 _) (MeetsSeq.list_pop_last l a.toArray n u g (by rw [N0];lia)) ⟨e,?_⟩;refine ⟨y,_,I.lset (its':=a.dropLast) b e ?_ r.dropLast ?_,f,q⟩
 ·show a.toArray.eraseIdxIfInBounds (a.toArray.size - 1)=a.dropLast.toArray;rw [N0,List.eraseIdxIfInBounds_toArray,LJ]
 ·rw [j5i]
  lia
def uj:R2:=λ x y H Q=>∃l b xs zs,x=.ref l/\y=.ref b/\H l=some (.lst xs)/\H b=some (.lst zs)/\xs.length + zs.length<=ZF/\∀p,H p=none->Q (.ref p) (upd H p (.lst (xs++zs)))
theorem q_:eA X (z5 .Add) uj:=by
 intro o s σ H x y v u Q I j f h;obtain ⟨l,b,w,C,rfl,rfl,m,d,p,q⟩:=h;cases j;cases f;obtain ⟨z,a,n,r,D,e⟩:=I.lstM m;obtain ⟨A,c,t,i,B,g⟩:=I.lstM d;refine PySem.P.add_list e g ?_ (by rw [N0,N0];lia);have k:a.toArray++c.toArray=(a++c).toArray:=by simp
 rw [k];exact ⟨.ref _,_,I.lnew (t':=s.toks) (r.append i) (by rw [G0];lia),rfl,q _ I.fresh⟩
end
variable {E:ZG->A0->Prop} {w:U0}
section
variable {prog:ZJ} 
set_option maxRecDepth 100000 in
end
variable {o:Option V}
section
variable {κ:Type} [DecidableEq κ]
noncomputable def bJ (kvs:List (κ×V)) (k:κ):Option V:=(kvs.find? λ kv=>decide (kv.1=k)).map (·.2)
noncomputable def putK (kvs:List (κ×V)) (k:κ) (v:V):List (κ×V):=
 if (kvs.any λ kv=>decide (kv.1=k))=true then kvs.map (λ kv=>if kv.1=k then (kv.1,v) else kv) else kvs++[(k,v)]
noncomputable def cR (kvs:List (κ×V)) (k:κ):List (κ×V):=kvs.filter λ kv=>decide (kv.1≠k)
def jf {p:κ×V} {r:List (κ×V)} {k:κ} (e:p.1=k):bJ (p :: r) k=some p.2:=by simp [bJ,K4,e]
def ja {p:κ×V} {r:List (κ×V)} {k:κ} (e:¬ p.1=k):bJ (p :: r) k=bJ r k:=by simp [bJ,K4,e]
theorem xG (k:κ) :∀kvs:List (κ×V),(kvs.any λ kv=>decide (kv.1=k))=(bJ kvs k).isSome
 | []=>rfl
 | p :: r=>by
  rw [G8];by_cases e:p.1=k
  ·simp only [jf e,ZY e,Bool.true_or,Option.isSome_some]
  ·rw [ja e,ZX e,j42];exact xG k r
theorem GI (k j:κ) (y:V) :∀kvs:List (κ×V),bJ (kvs.map λ kv=>if kv.1=k then (kv.1,y) else kv) j=(bJ kvs j).map λ x=>if j=k then y else x
 | []=>rfl
 | p :: r=>by
  have a:=GI k j y r;rw [C1];by_cases h:p.1=k
  ·rw [ZZ h];by_cases e:p.1=j
   ·rw [jf (p:=(p.1,y)) e,jf e,S8,ZZ (e.symm.trans h)]
   ·rw [ja (p:=(p.1,y)) e,ja e,a]
  ·rw [Z_ h];by_cases e:p.1=j
   ·rw [jf (p:=p) e,jf e,S8,Z_ (λ z=>h (e.trans z))]
   ·rw [ja (p:=p) e,ja e,a]
theorem EV (k j:κ) (y:V) :∀kvs:List (κ×V),bJ kvs k=none->bJ (kvs++[(k,y)]) j=if j=k then some y else bJ kvs j
 | [],_=>by
  by_cases e:k=j
  ·rw [ZZ e.symm];exact jf (p:=(k,y)) e
  ·rw [Z_ (λ z=>e z.symm)];exact ja (p:=(k,y)) e
 | p :: r,hn=>by
  rw [List.cons_append];have a:¬ p.1=k:=λ z=>by rw [jf z] at hn;cases hn
  rw [ja a] at hn;have b:=EV k j y r hn;by_cases e:p.1=j
  ·rw [jf e,jf e,Z_ (λ z=>a (e.trans z))]
  ·rw [ja e,ja e,b]
def rX (kvs:List (κ×V)) (k j:κ) (y:V):bJ (putK kvs k y) j=if j=k then some y else bJ kvs j:=by
 unfold putK;by_cases a:(kvs.any λ b=>decide (b.1=k))=true
 ·rw [ZZ a,GI];rw [xG] at a;by_cases e:j=k
  ·obtain ⟨x,c⟩:=Option.isSome_iff_exists.mp a;rw [ZZ e,e,c,S8,ZZ rfl]
  ·rw [Z_ e];cases bJ kvs j with
   | none=>rfl
   | some x=>rw [S8,Z_ e]
 ·rw [Z_ a];refine EV k j y kvs ?_;rw [xG] at a;cases q:bJ kvs k with
  | none=>rfl
  | some x=>rw [q] at a;exact (a rfl).elim
theorem AK (kvs:List (κ×V)) (k:κ) (v:V):(putK kvs k v).length<=kvs.length + 1:=by
 unfold putK;split
 ·rw [C0];lia
 ·rw [G0,P0,F7];lia
def de.isSome_eq {u:Option ZG} (r:de o u):o.isSome=u.isSome:=by
 cases o with
 | none=>cases u with
  | none=>rfl
  | some _=>exact (show False from r).elim
 | some _=>cases u with
  | none=>exact (show False from r).elim
  | some _=>rfl
def de.getD {u:Option ZG} {d:V} {d':ZG} (r:de o u) (rd:RelV d d'):RelV (o.getD d) (u.getD d'):=by
 cases o with
 | none=>cases u with
  | none=>exact rd
  | some _=>exact (show False from r).elim
 | some _=>cases u with
  | none=>exact (show False from r).elim
  | some _=>exact r
def KV.val {kvs:List (κ×V)} {vs:List (κ×ZG)} (r:KV kvs vs) (k:κ):de (bJ kvs k) (j14 vs k):=by
 unfold KV at r;induction r with
 | nil=>exact True.intro
 | @cons p q ps qs h t ih=>
  obtain ⟨c,d⟩:=h;by_cases e:p.1=k
  ·have a:q.1=k:=c.symm.trans e;have b:j14 (q :: qs) k=some q.2:=by simp [j14,K4,a]
   rw [jf e,b];exact d
  ·have a:¬ q.1=k:=λ z=>e (c.trans z);have b:j14 (q :: qs) k=j14 qs k:=by simp [j14,K4,a]
   rw [ja e,b];exact ih
def KV.any {kvs:List (κ×V)} {vs:List (κ×ZG)} (r:KV kvs vs) (k:κ):(kvs.any λ kv=>decide (kv.1=k))=vs.any λ kv=>decide (kv.1=k):=by
 unfold KV at r;induction r with
 | nil=>rfl
 | cons h t ih=>rw [G8,G8,ih,h.1]
def KV.repl {kvs:List (κ×V)} {vs:List (κ×ZG)} (r:KV kvs vs) (k:κ) (ry:RelV y u) :
  KV (kvs.map λ kv=>if kv.1=k then (kv.1,y) else kv) (vs.map λ kv=>if kv.1=k then (kv.1,u) else kv):=by
 unfold KV at r⊢;induction r with
 | nil=>exact .nil
 | @cons p q ps qs h t ih=>
  rw [C1,C1];refine .cons ?_ ih;obtain ⟨a,b⟩:=h;by_cases e:p.1=k
  ·rw [ZZ e,ZZ (a.symm.trans e)];exact ⟨a,ry⟩
  ·rw [Z_ e,Z_ (λ z=>e (a.trans z))];exact ⟨a,b⟩
def KV.put {kvs:List (κ×V)} {vs:List (κ×ZG)} (r:KV kvs vs) (k:κ) (ry:RelV y u):KV (putK kvs k y) (stored vs k u):=by
 unfold putK stored;rw [r.any k];by_cases e:(vs.any λ a=>decide (a.1=k))=true
 ·rw [ZZ e,ZZ e];exact r.repl k ry
 ·rw [Z_ e,Z_ e];exact Paired.snoc r ⟨rfl,ry⟩
def KV.drop {kvs:List (κ×V)} {vs:List (κ×ZG)} (r:KV kvs vs) (k:κ):KV (cR kvs k) (without vs k):=by
 unfold KV at r⊢;unfold cR without;induction r with
 | nil=>exact .nil
 | @cons p q ps qs h t ih=>
  obtain ⟨c,d⟩:=h;rw [Y4,Y4];by_cases e:p.1=k
  ·have a:¬ decide (p.1≠k)=true:=by simp [e]
   have b:¬ decide (q.1≠k)=true:=by simp [c.symm.trans e]
   rw [Z_ a,Z_ b];exact ih
  ·have f:¬ q.1=k:=λ z=>e (c.trans z);have a:decide (p.1≠k)=true:=by simp [e]
   have b:decide (q.1≠k)=true:=by simp [f]
   rw [ZZ a,ZZ b];exact .cons ⟨c,d⟩ ih
def KV.keys {kvs:List (κ×V)} {vs:List (κ×ZG)} (r:KV kvs vs):kvs.map (·.1)=vs.map (·.1):=by
 unfold KV at r;induction r with
 | nil=>rfl
 | cons h t ih=>rw [C1,C1,ih,h.1]
def KV.length {kvs:List (κ×V)} {vs:List (κ×ZG)} (r:KV kvs vs):kvs.length=vs.length:=j33 r
def Dn (kvs:List (κ×V)) (k:κ):(cR kvs k).length<=kvs.length:=U2 _ _
end
variable {P:ZJ}
def hP {k:Key} (r:RelV (kV k) u):(jm P w).is k u=true:=by
 cases k with
 | inl i=>obtain ⟨t,e⟩:=(show∃t,u=L8 i t from r);subst e;exact Nn P w i t
 | inr x=>obtain ⟨t,e⟩:=(show∃t,u=X6 x t from r);subst e;exact J_ P w x t
theorem FU:∀{ks:List Key} {us:List ZG},aJ (ks.map kV) us->ItemsAre (jm P w) ks us
 | [],_,r=>by rw [c6] at r;cases r;exact .nil
 | k :: ks,_,r=>by
  rw [C1] at r;cases r with
  | cons h t=>exact .cons (hP h) (FU t)
abbrev KT (H:Hp):List (List Key×V)->List (List Key×ZS×ZG)->Prop:=j00 λ p q=>p.1=q.1/\H q.2.1=some (.tup (p.1.map kV))/\RelV p.2 q.2.2
variable {kvs:List (List Key×V)} {xs:List (List Key×ZS×ZG)}
def KT.val (r:KT H kvs xs) (k:List Key):de (bJ kvs k) ((O9 xs k).map (·.2)):=by
 induction r with
 | nil=>exact True.intro
 | @cons p q ps qs h t ih=>
  obtain ⟨c,_,d⟩:=h;by_cases e:p.1=k
  ·have a:q.1=k:=c.symm.trans e;have b:O9 (q :: qs) k=some q.2:=by simp [O9,K4,a]
   rw [jf e,b];exact d
  ·have a:¬ q.1=k:=λ z=>e (c.trans z);have b:O9 (q :: qs) k=O9 qs k:=by simp [O9,K4,a]
   rw [ja e,b];exact ih
def KT.repl (r:KT H kvs xs) (k:List Key) (ry:RelV y u) :
  KT H (kvs.map λ kv=>if kv.1=k then (kv.1,y) else kv) (xs.map (putAt k u)):=by
 induction r with
 | nil=>exact .nil
 | @cons p q ps qs h t ih=>
  rw [C1,C1];refine .cons ?_ ih;obtain ⟨a,b,c⟩:=h;unfold putAt;by_cases e:p.1=k
  ·rw [ZZ e,ZZ (a.symm.trans e)];exact ⟨a,b,ry⟩
  ·rw [Z_ e,Z_ (λ z=>e (a.trans z))];exact ⟨a,b,c⟩
def KT.put (r:KT H kvs xs) (k:List Key) {b:ZS} (hb:H b=some (.tup (k.map kV))) (ry:RelV y u) :
  KT H (putK kvs k y) (storedH xs k b u):=by
 have e:(kvs.any λ a=>decide (a.1=k))=(O9 xs k).isSome:=by rw [xG,(r.val k).isSome_eq,g8]
 unfold putK storedH;rw [e];by_cases q:(O9 xs k).isSome=true
 ·rw [ZZ q,ZZ q];exact r.repl k ry
 ·rw [Z_ q,Z_ q];exact Paired.snoc r ⟨rfl,hb,ry⟩
variable {H':Hp}
def KT.keeps (r:KT H kvs xs) (ht :∀b ys,H b=some (.tup ys)->H' b=some (.tup ys)):KT H' kvs xs:=
 Paired.mapP r λ _ _ z=>⟨z.1,ht _ _ z.2.1,z.2.2⟩
variable {a:ZS}
section
variable {h:ZM} 
def oC {u:HO} (ok:fN P w H h) (e:Rd H a u):br P w H h a u:=e.ok ok
def ip {kvs:List (Key×V)} (ok:fN P w H h) (e:Rd H a (.dK kvs)):kvs.length<=ZF/\(a == P3)=false/\∃vs,KV kvs vs/\h.DictOf (jm P w) a vs:=
 show br P w H h a (.dK kvs) from oC ok e
def kH {kvs:List (Key×V)} (ok:fN P w H h) (e:H a=some (.dK kvs)):kvs.length<=ZF/\(a == P3)=false/\∃vs,KV kvs vs/\h.DictOf (jm P w) a vs:=ip ok (.inl e)
def hF {ks:List Key} (ok:fN P w H h) (e:H a=some (.tup (ks.map kV))):(U6 (jm P w)).is h ks a:=by
 obtain ⟨_,f,r,⟨o,c,b,n,d⟩,_⟩:=(show br P w H h a (.tup (ks.map kV)) from ok a _ e)
 exact ⟨o,f.toArray,n,c,b,d,by simpa using FU r⟩
def iF (ok:fN P w H h) (e:Rd H a (.dT kvs)):kvs.length<=ZF/\(a == P3)=false/\
  ∃xs,KT H kvs xs/\h.DictOfH (U6 (jm P w)) a xs:=by
 obtain ⟨z,y,xs,r,o,c,k,d,g,f,j,i⟩:=(show br P w H h a (.dT kvs) from oC ok e)
 refine ⟨z,y,xs,r,o,c,k,d,g,f,j,λ x b=>?_,i⟩;have all :∀{l:List (List Key×V)} {m:List (List Key×ZS×ZG)},KT H l m->∀x∈m,(U6 (jm P w)).is h x.1 x.2.1:=by
  intro l m q;induction q with
  | nil=>intro x b;exact nomatch b
  | @cons p q ps qs hq t ih=>
   intro x b;rcases List.mem_cons.mp b with e|b
   ·subst e;exact hF ok (by rw [<-hq.1];exact hq.2.1)
   ·exact ih x b
 exact all r x b
def uo (ok:fN P w H h) (e:H a=some (.dT kvs)):kvs.length<=ZF/\(a == P3)=false/\
  ∃xs,KT H kvs xs/\h.DictOfH (U6 (jm P w)) a xs:=iF ok (.inl e)
end
def d_ (H:Hp) (a:ZS) (y:V) (r:Option V):Prop:=
 (∃kvs k,Rd H a (.dK kvs)/\y=kV k/\r=bJ kvs k)\/∃kvs k b,Rd H a (.dT kvs)/\y=.ref b/\H b=some (.tup (k.map kV))/\r=bJ kvs k
def hZ (H:Hp) (a:ZS) (y v:V) (H':Hp):Prop:=
 (∃kvs k,H a=some (.dK kvs)/\y=kV k/\kvs.length < ZF/\H'=upd H a (.dK (putK kvs k v)))\/
 ∃kvs k b,H a=some (.dT kvs)/\y=.ref b/\H b=some (.tup (k.map kV))/\kvs.length < ZF/\H'=upd H a (.dT (putK kvs k v))
def d_.k {kvs:List (Key×V)} {k:Key} (e:H a=some (.dK kvs)):d_ H a (kV k) (bJ kvs k):=.inl ⟨kvs,k,.inl e,rfl,rfl⟩
def hZ.k {kvs:List (Key×V)} {k:Key} {v:V} (e:H a=some (.dK kvs)) (hl:kvs.length < ZF):hZ H a (kV k) v (upd H a (.dK (putK kvs k v))):=.inl ⟨kvs,k,e,rfl,hl,rfl⟩
variable {Q:ZG->A0->Prop}
section
variable {v:V} {r:ZG} 
def Inv.big (I:Inv X pins σ H s):P3 < s.heap.objs.size:=by have h:K3 < s.heap.objs.size:=(I.mod.glob.keeps I.bk).lt;exact Nat.lt_trans (by decide) h
def Ky (hu:A.units + 1 < ZE) (I:Inv X pins σ H s) (g:d_ H a y (some v)) (ry:RelV y u) (h :∀w' s',Inv X pins σ H s'->RelV v w'->Q w' s') :
  V0 (F1 X.prog X.w) A (j15 (.ref a) u) Q E s:=by
 rcases g with ⟨t,k,e,c,l⟩|⟨t,k,b,e,c,eb,l⟩
 ·subst c;obtain ⟨z,n,x,i,j⟩:=ip I.hok e;obtain ⟨w',f,d⟩:=de.some_of (v:=v) (o:=j14 x k) (by rw [l];exact i.val k);exact wpAny_getItem_of (hP ry) j.mapOf f (h w' _ (I.tok _) d)
 ·subst c;cases (show u=E1 b from ry);obtain ⟨z,n,r,i,j⟩:=iF I.hok e;obtain ⟨w',f,d⟩:=de.some_of (v:=v) (o:=(O9 r k).map (·.2)) (by rw [l];exact i.val k);obtain ⟨p,q,m⟩:=Option.map_eq_some_iff.mp f;refine wpAny_getItem_heap (K8 hu) (hF I.hok eb) j q ?_;rw [m];exact h w' _ (I.tok _) d
def Bl (hu:A.units + 1 < ZE) (I:Inv X pins σ H s) (g:d_ H a y o) (ry:RelV y u) (h :∀s',Inv X pins σ H s'->Q (.bool o.isSome) s') :
  V0 (F1 X.prog X.w) A (V2 .In u (.ref a)) Q E s:=by
 rcases g with ⟨j,k,e,c,l⟩|⟨j,k,b,e,c,eb,l⟩
 ·subst c;obtain ⟨z,d,n,f,i⟩:=ip I.hok e;refine wpAny_in_of (hP ry) d i.mapOf ?_;rw [<-(f.val k).isSome_eq,<-l];exact h _ (I.tok _)
 ·subst c;cases (show u=E1 b from ry);obtain ⟨z,d,m,f,i⟩:=iF I.hok e;refine wpAny_in_heap (K8 hu) (hF I.hok eb) d i ?_;have q:=(f.val k).isSome_eq;rw [g8] at q;rw [<-q,<-l];exact h _ (I.tok _)
def s_ {h':ZM} {ob:HO} (I:Inv X pins σ H s) (mu:uc (H a)) (hs:O6 a s.heap h') (he :∃q,h'.get? a=some q) (new:br X.prog X.w (upd H a ob) h' a ob) :
  Inv X pins σ (upd H a ob) { s with heap:=h',toks:=t' }:=
 I.write (x:=a) (e:=a) mu (.inl rfl) (λ b q c z=>(hs.2 b c).trans z) he new
def jT {h':ZM} {kvs:List (Key×V)} {vs:List (Key×ZG)} (z:kvs.length<=ZF) (hd:(a == P3)=false) (rel:KV kvs vs) (dd:h'.DictOf (jm P w) a vs) :
  br P w H' h' a (.dK kvs):=⟨z,hd,vs,rel,dd⟩
theorem LK {Q:Unit->A0->Prop} (hu:A.units + 1 < ZE) (I:Inv X pins σ H s) (g:hZ H a y v H') (ry:RelV y u) (rv:RelV v r) (h :∀s',Inv X pins σ H' s'->Q () s') :
  V0 (F1 X.prog X.w) A (setItem (.ref a) u r) Q E s:=by
 rcases g with ⟨f,k,e,m,l,x⟩|⟨f,k,b,e,m,eb,l,x⟩
 ·subst m x;obtain ⟨z,n,M,d,o⟩:=kH I.hok e;have p:M.length<=ZF:=by rw [<-d.length];exact z
  have B:(putK f k v).length<=ZF:=by have:=AK f k v;lia
  refine wpAny_setItem_pairs (hsz:=p) (hP ry) o λ C j t=>h _ ?_;have K :∃q,C.get? a=some q:=let ⟨q,_,_,i,_⟩:=j;⟨q,i⟩;exact s_ I (by rw [e];exact True.intro) t K (jT B n (d.put k rv) j)
 ·subst m x;cases (show u=E1 b from ry);obtain ⟨z,n,O,d,o⟩:=uo I.hok e;have p:O.length<=ZF:=by rw [<-j33 d];exact z
  have B:(putK f k v).length<=ZF:=by have:=AK f k v;lia
  refine wpAny_setItem_heap (hsz:=p) (K8 hu) (hF I.hok eb) o λ C j t=>h _ ?_;obtain ⟨q,F,L,i,G,J,N,_,P⟩:=j;refine s_ I (by rw [e];exact True.intro) t ⟨q,i⟩ ⟨B,n,_,(d.put k eb rv).keeps λ c R D=>?_,q,F,L,i,G,J,N,P⟩;rw [ak (iy D e (λ z=>nomatch z))];exact D
end
section
variable {kvs:List (Key×V)} {k:Key} 
def uH {v:V} {more:List ZG} (I:Inv X pins σ H s) (e:H a=some (.dK kvs)) (ry:RelV (kV k) u) (l:bJ kvs k=some v) (hm:more=[]\/∃x,more=[x])
  (h :∀w' s',Inv X pins σ (upd H a (.dK (cR kvs k))) s'->RelV v w'->Q w' s'):V0 (F1 X.prog X.w) A (call (.builtin "dict.pop") (.ref a :: u :: more)) Q E s:=by
 obtain ⟨z,j,d,b,f⟩:=kH I.hok e;obtain ⟨w',r,n⟩:=de.some_of (v:=v) (o:=j14 d k) (by rw [<-l];exact b.val k);have g:(keyPart u).isSome=true:=by
  cases k with
  | inl i=>obtain ⟨t,q⟩:=(show∃t,u=L8 i t from ry);subst q;rfl
  | inr x=>obtain ⟨t,q⟩:=(show∃t,u=X6 x t from ry);subst q;rfl
 have m:argsOk "dict.pop" ⟨.ref a :: u :: more,[]⟩:=by
  rcases hm with q|⟨x,q⟩
  ·subst q;exact PySem.F.args_dict_pop_2 _ _
  ·subst q;exact PySem.F.args_dict_pop_3 _ _ _
 refine call_meetsIn j3i f.typeIs PySem.F.entry_dict_pop m (meets_dict_pop_there (jm X.prog X.w) a (hP ry) more hm g)
  ⟨d,w',f,by rw [<-b.length];exact z,r,λ p c B=>h w' _ ?_ n⟩
 have y :∃q,p.get? a=some q:=let ⟨q,_,_,hq,_⟩:=c;⟨q,hq⟩;exact s_ I (by rw [e];exact True.intro) B y (jT (D0 (Dn kvs k) z) j (b.drop k) c)
end
def ue (i:ZN):Prop:=∀ov iv,j3d i false ov iv=operate [ov,iv] (j15 ov iv)
def RE {prog:ZJ} {env:Env} {value slice:ZN} {id:String} 
  (hl:typeLookup (.type T) "__getitem__" = W1 (some (.builtin id))) (hs:ue slice)
  (h:V0 (F1 prog w) A (O3 value env) (λ o s₁=>V0 (F1 prog w) A (O3 slice env) (λ i s₂=>s₂.TypeIs o T/\V0 (F1 prog w) A (j15 o i) Q E s₂) E s₁) E s) :
  V0 (F1 prog w) A (O3 (.Subscript value slice pos) env) Q E s:=by
 refine j59 (G3 h (λ o s₁ e=>G3 e (λ i s₂ b=>?_) λ _ _ x=>x) λ _ _ x=>x);obtain ⟨d,b⟩:=b;unfold j1i;refine d0 ?_;rw [getitemInPython_of_ne d.not_modules];refine d0 (j43 d hl ?_);have a:V0 (F1 prog w) A (j3d slice false o i) (λ r c=>V0 (F1 prog w) A (letTemporaryGo value o r >>= λ _=>W1 r) Q E c) E s₂:=by rw [hs o i];exact wpAny_operating (G3 b (λ r c f=>d0 (wpAny_letTemporaryGo (L0 f))) λ _ _ x=>x)
 first
  | exact L0 (d0 a)
  | exact d0 (L0 (d0 a))
  | exact d0 a
def NI (I:Inv X pins σ H s) (g:d_ H a y o):s.TypeIs (.ref a) "dict":=by
 rcases g with ⟨d,k,e,_,_⟩|⟨d,k,b,e,_,_,_⟩
 ·obtain ⟨_,_,h,_,c⟩:=ip I.hok e;exact c.typeIs
 ·obtain ⟨_,_,f,_,c⟩:=iF I.hok e;exact c.typeIs
def vm (td ty:TE):TE:=λ σ H Q=>td σ H λ x H1=>ty σ H1 λ y H2=>∃a v,x=.ref a/\d_ H2 a y (some v)/\Q v H2
def zf (ty td:TE):TE:=λ σ H Q=>ty σ H λ y H1=>td σ H1 λ x H2=>∃a o,x=.ref a/\d_ H2 a y o/\Q (.bl o.isSome) H2
def oV (td ty tv:TE):TS:=λ D σ H=>tv σ H λ v H1=>td σ H1 λ x H2=>ty σ H2 λ y H3=>∃a H4,x=.ref a/\hZ H3 a y v H4/\D.nx σ H4
section
variable {o i value:ZN} {pos' tpos:ZP} {td ty tv:TE}
def qC (hu:X.A.units + 1 < ZE) (ho:PE X o td) (hi:PE X i ty) (hs:ue i):PE X (.Subscript o i pos) (vm td ty):=by intro b s σ H Q I h;refine RE PySem.F.slot_dict_getitem.lookup hs (bb (ho b s σ H _ I h) λ u e ⟨x,H1,I1,rx,q1⟩=>bb (hi b e σ H1 _ I1 q1) λ k j zz=>?_);obtain ⟨y,H2,I2,ry,a,v,ex,g,q2⟩:=zz;subst ex;obtain rfl:u=E1 a:=rx;exact ⟨NI I2 g,Ky hu I2 g ry λ f l d c=>⟨v,H2,d,c,q2⟩⟩
def pF (hu:X.A.units + 1 < ZE) (hi:PE X i ty) (ho:PE X o td):PC X .In i o (zf ty td):=by intro b s σ H Q I h;refine bb (hi b s σ H _ I h) λ f d ⟨y,H1,I1,ry,q1⟩=>bb (ho b d σ H1 _ I1 q1) λ u e zz=>?_;obtain ⟨x,H2,I2,rx,a,ov,ex,g,q2⟩:=zz;subst ex;obtain rfl:u=E1 a:=rx;exact Bl hu I2 g ry λ j c=>⟨.bl ov.isSome,H2,c,rfl,q2⟩
def xf (hu:X.A.units + 1 < ZE) (ho:PE X o td) (hi:PE X i ty) (hv:PE X value tv) (hs:K7 value (some (.Subscript o i pos')) pos.line X.env=W1 false) :
  PS X (.Assign [.Subscript o i pos'] value pos) (oV td ty tv):=by
 intro b s σ H D I h;refine wpAny_Assign_Subscript (bb (hv b s σ H _ I h) λ r e ⟨v,H1,I1,rv,q1⟩=>bb (ho b e σ H1 _ I1 q1) λ u c ⟨x,H2,I2,rx,q2⟩=>bb (hi b c σ H2 _ I2 q2) λ j k zz=>?_) hs;obtain ⟨y,H3,I3,ry,a,H4,ex,g,q3⟩:=zz;subst ex;obtain rfl:u=E1 a:=rx;exact LK hu I3 g ry rv λ f d=>⟨σ,H4,d,q3⟩
end
def EI (h:ZM) (hb:P3 < h.objs.size):br P w H (h.push { cls:=.type "dict",data:=.dict #[] }) h.objs.size (.dK []):=
 ⟨S1 _,beq_eq_false_iff_ne.mpr (C4 (G1 hb)),[],.nil,Heap.DictOf.new h⟩
def sf:TE:=λ _ H Q=>∀p,H p=none->Q (.ref p) (upd H p (.dK []))
section
def yq:PE X (.Dict [] [] pos) sf:=λ b s σ H Q I h=>wpAny_Dict_empty ⟨.ref s.heap.objs.size,_,I.laid (a:=s.heap.objs.size) (o:=.dK []) (t':=s.toks) (λ _ _ q=>F0 _ q) (u0 _) (EI s.heap I.big),rfl,h _ (I.hok.fresh (u0 _))⟩
end
noncomputable def jS:List (TE×TE)->St->Hp->(List (V×V)->Hp->Prop)->Prop
 | [],_,H,Q=>Q [] H
 | (tk,tv) :: r,σ,H,Q=>tk σ H λ x H1=>tv σ H1 λ y H2=>jS r σ H2 λ ps H3=>Q ((x,y) :: ps) H3
abbrev VV:List (V×V)->List (ZG×ZG)->Prop:=j00 λ p q=>RelV p.1 q.1/\RelV p.2 q.2
def tU (X:Cx) (pos:ZP) (keys:List (Option ZN)) (values:List ZN) (trs:List (TE×TE)):Prop:=
 ∀(pins:List (ZS×ZQ)) (s:A0) (σ:St) (H:Hp) (Q:List (V×V)->Hp->Prop),Inv X pins σ H s->jS trs σ H Q->
  V0 (F1 X.prog X.w) X.A (evalPairs (pairTrees keys values X.env pos)) (λ vs s'=>∃ps H',Inv X pins σ H' s'/\VV ps vs/\Q ps H') X.xe s
def IU:tU X pos [] [] []:=λ a s σ H Q I h=>pairTrees_nil_walk ⟨[],H,I,.nil,h⟩
def yA {k v:ZN} {ks:List (Option ZN)} {vs:List ZN} {tk tv:TE} {trs:List (TE×TE)} (hk:PE X k tk) (hv:PE X v tv) (hr:tU X pos ks vs trs) :
  tU X pos (some k :: ks) (v :: vs) ((tk,tv) :: trs):=λ a s σ H Q I h=>
 pairTrees_cons_walk (bb (hk a s σ H _ I h) λ u c ⟨x,H1,I1,rx,q1⟩=>bb (hv a c σ H1 _ I1 q1) λ e b ⟨y,H2,I2,ry,q2⟩=>bb (hr a b σ H2 _ I2 q2) λ f d ⟨ps,H3,I3,rel,q3⟩=>⟨(x,y) :: ps,H3,I3,.cons ⟨rx,ry⟩ rel,q3⟩)
noncomputable def fU (kvs more:List (Key×V)):List (Key×V):=more.foldl (λ acc kv=>putK acc kv.1 kv.2) kvs
def KV.merge:∀{more:List (Key×V)} {rs:List (Key×ZG)} {kvs:List (Key×V)} {vs:List (Key×ZG)},KV more rs->KV kvs vs->KV (fU kvs more) (merged vs rs):=by
 intro more rs kvs vs r;unfold KV at r;induction r generalizing kvs vs with
 | nil=>intro q;exact q
 | @cons p q ps qs h t ih=>
  intro a;have e:KV (putK kvs p.1 p.2) (stored vs q.1 q.2):=by have:=a.put p.1 h.2;rw [<-h.1];exact this
  exact ih e
theorem FE:∀(more kvs:List (Key×V)),(fU kvs more).length<=kvs.length + more.length
 | [],kvs=>by show kvs.length<=kvs.length + 0;lia
 | p :: r,kvs=>by have b:=FE r (putK kvs p.1 p.2);have a:=AK kvs p.1 p.2;show (fU (putK kvs p.1 p.2) r).length<=_;rw [P0];lia
theorem Ht {P:ZJ} {w:U0} :∀{kvs:List (Key×V)} {ws:List (ZG×ZG)},VV (kvs.map λ kv=>(kV kv.1,kv.2)) ws->∃rs,Carries (jm P w) ws rs/\KV kvs rs
 | [],_,r=>by rw [c6] at r;cases r;exact ⟨[],True.intro,.nil⟩
 | p :: kvs,_,r=>by
  rw [C1] at r;cases r with
  | @cons a b as bs h t=>obtain ⟨rs,c,q⟩:=Ht (P:=P) (w:=w) t;obtain ⟨e,d⟩:=b;exact ⟨(p.1,d) :: rs,⟨hP h.1,rfl,c⟩,.cons ⟨rfl,h.2⟩ q⟩
def oH (trs:List (TE×TE)):TE:=λ σ H Q=>∀p,H p=none->jS trs σ (upd H p (.dK [])) λ ps H2=>H2 p=some (.dK [])/\∃kvs:List (Key×V),ps=kvs.map (λ kv=>(kV kv.1,kv.2))/\kvs.length<=15/\Q (.ref p) (upd H2 p (.dK (fU [] kvs)))
theorem DW {keys:List (Option ZN)} {values:List ZN} {trs:List (TE×TE)} (h:tU X pos keys values trs) (hall:keys.all (·.isSome)=true) (hl:keys.length=values.length) (h0:keys≠[])
  (h15:keys.length<=15):PE X (.Dict keys values pos) (oH trs):=by
 intro j s σ H Q I q;have p:=I.hok.fresh (u0 s.heap.objs.size);have i:=I.laid (a:=s.heap.objs.size) (o:=.dK []) (h':=s.heap.push { cls:=.type "dict",data:=.dict #[] }) (t':=s.toks) (λ _ _ q=>F0 _ q) (u0 _) (EI s.heap I.big);refine wpAny_Dict_walk (knd:=jm X.prog X.w) hall hl h0 h15 (bb (h j _ σ _ _ i (q _ p)) λ v x zz=>?_);obtain ⟨ps,H2,I2,rel,e,kvs,ep,lk,q2⟩:=zz;subst ep;obtain ⟨d,c,m⟩:=Ht (P:=X.prog) (w:=X.w) rel;obtain ⟨z,f,u,t,k⟩:=kH I2.hok e;cases t;refine ⟨d,c,k,λ h' b r=>⟨.ref s.heap.objs.size,_,?_,rfl,q2⟩⟩;have l:(fU [] kvs).length<=ZF:=by have n:=FE kvs [];rw [F7] at n;rw [sizeLine_eq];lia
 have g :∃q,h'.get? s.heap.objs.size=some q:=let ⟨q,_,_,hq,_⟩:=b;⟨q,hq⟩;exact s_ I2 (by rw [e];exact True.intro) r g (jT l f (m.merge .nil) b)
structure M1 (X:Cx) (o:ZN) (m:ZR) (apos:ZP) (e:ZN) (cpos:ZP):Prop where
 base:u4 o m X.env (O3 o X.env)=O3 o X.env
 few:((J4 cpos (N1 [e] X.env)).all (λ x=>!x.1) && (N9 cpos (V6 [] X.env)).all (λ x=>x.1.isSome)
  && decide (([e]:List ZN).length + ([]:List A6).length + (if ([]:List A6).isEmpty then 0 else 1) < 30))=true
 line:(apos.endLine == cpos.line)=true
 trees:J4 cpos (N1 [e] X.env)=[(false,O3 e X.env)]
structure M2 (X:Cx) (o:ZN) (m:ZR) (apos:ZP) (e f:ZN) (cpos:ZP):Prop where
 base:u4 o m X.env (O3 o X.env)=O3 o X.env
 few:((J4 cpos (N1 [e,f] X.env)).all (λ x=>!x.1) && (N9 cpos (V6 [] X.env)).all (λ x=>x.1.isSome)
  && decide (([e,f]:List ZN).length + ([]:List A6).length + (if ([]:List A6).isEmpty then 0 else 1) < 30))=true
 line:(apos.endLine == cpos.line)=true
 trees:J4 cpos (N1 [e,f] X.env)=[(false,O3 e X.env),(false,O3 f X.env)]
def Bv (H:Hp) (a:ZS):Prop:=(∃kvs,Rd H a (.dK kvs))\/∃kvs,Rd H a (.dT kvs)
def m_ (I:Inv X pins σ H s) (d:Bv H a) :
  s.TypeIs (.ref a) "dict"/\(∀b,E1 a=.ref b->∃ob,s.heap.get? b=some ob/\ob.dict=none)/\(a == P3)=false:=by
 rcases d with ⟨i,e⟩|⟨i,e⟩
 ·obtain ⟨_,h,k,_,c⟩:=ip I.hok e;refine ⟨c.typeIs,λ b q=>?_,h⟩;cases q;obtain ⟨ob,_,_,g,f,_⟩:=c;exact ⟨ob,g,f.2.1⟩
 ·obtain ⟨_,h,j,_,c⟩:=iF I.hok e;refine ⟨c.typeIs,λ b q=>?_,h⟩;cases q;obtain ⟨ob,_,_,g,f,_⟩:=c;exact ⟨ob,g,f.2.1⟩
section
variable {d:V} {r:ZG} 
def ql (hu:A.units + 1 < ZE) (I:Inv X pins σ H s) (g:d_ H a y o) (ry:RelV y u) (rd:RelV d r) (h :∀w' s',Inv X pins σ H s'->RelV (o.getD d) w'->Q w' s') :
  V0 (F1 X.prog X.w) A (call (.builtin "dict.get") [.ref a,u,r]) Q E s:=by
 rcases g with ⟨n,k,e,f,l⟩|⟨n,k,b,e,f,eb,l⟩
 ·subst f;obtain ⟨z,i,p,j,c⟩:=ip I.hok e;refine call_meetsIn R8 c.typeIs j3b (j32 _ _ _) (meets_dict_get_default (jm X.prog X.w) a (hP ry) i r) ⟨_,c.mapOf,h _ _ (I.tok _) ?_⟩;rw [l];exact (j.val k).getD rd
 ·subst f;cases (show u=E1 b from ry);obtain ⟨z,i,m,j,c⟩:=iF I.hok e;refine call_meetsIn R8 c.typeIs j3b (j32 _ _ _) (meetsH_dict_get_default (U6 (jm X.prog X.w)) a b i r) ⟨K8 hu,k,m,hF I.hok eb,c,h _ _ (I.tok _) ?_⟩;rw [l];exact (j.val k).getD rd
end
def qZ (td ty tx:TE):TE:=λ σ H Q=>td σ H λ x H1=>∃a,x=.ref a/\Bv H1 a/\ty σ H1 λ y H2=>tx σ H2 λ z H3=>∃o,d_ H3 a y o/\Q (o.getD z) H3
def sg (td ty:TE):TE:=λ σ H Q=>td σ H λ x H1=>∃a,x=.ref a/\Bv H1 a/\ty σ H1 λ y H2=>∃kvs k v,H2 a=some (.dK kvs)/\y=kV k/\bJ kvs k=some v/\Q v (upd H2 a (.dK (cR kvs k)))
section
variable {o f:ZN} {apos cpos:ZP} {td ty tx:TE}
def Po (hu:X.A.units + 1 < ZE) (ho:PE X o td) (he:PE X e ty) (hf:PE X f tx) (m:M2 X o "get" apos e f cpos):PE X (.Call (.Attribute o "get" apos) [e,f] [] cpos) (qZ td ty tx):=by
 intro b s σ H Q I h;refine wpAny_Call_method m.base m.few m.line j31 R8 PySem.F.type_dict_get (bb (ho b s σ H _ I h) λ u l zz=>?_);obtain ⟨x,H1,I1,rx,a,ex,d,q1⟩:=zz;subst ex;obtain rfl:u=E1 a:=rx;obtain ⟨j,i,_⟩:=m_ I1 d;refine ⟨j,i,?_⟩;rw [m.trees];refine K6 rfl (R9 (B6 (bb (he b l σ H1 _ I1 q1) λ v n ⟨y,H2,I2,ry,q2⟩=>B6 (bb (hf b n σ H2 _ I2 q2) λ p q ⟨z,H3,I3,rz,ov,g,q3⟩=>j8 ?_))));exact ql hu I3 g ry rz λ r t k c=>⟨_,H3,k,c,q3⟩
def KH (ho:PE X o td) (he:PE X e ty) (m:M1 X o "pop" apos e cpos):PE X (.Call (.Attribute o "pop" apos) [e] [] cpos) (sg td ty):=by intro b s σ H Q I h;refine wpAny_Call_method m.base m.few m.line j31 j3i PySem.F.type_dict_pop (bb (ho b s σ H _ I h) λ u j zz=>?_);obtain ⟨x,H1,I1,rx,a,ex,d,q1⟩:=zz;subst ex;obtain rfl:u=E1 a:=rx;obtain ⟨i,g,_⟩:=m_ I1 d;refine ⟨i,g,?_⟩;rw [m.trees];refine K6 rfl (R9 (B6 (bb (he b j σ H1 _ I1 q1) λ q p ⟨y,H2,I2,ry,kvs,k,v,ea,ey,l,q2⟩=>j8 ?_)));subst ey;exact uH I2 ea ry l (.inl rfl) λ n r f c=>⟨v,_,f,c,q2⟩
end
end L2
namespace Att
open PySem PySem.W PySem.Calls PyProof.Rows
def I_ {P:Q0} {h:ZM} :∀(ns:List Int) (vs:List ZG),WellAll P h vs (ns.map WData.int)->j02 vs ns:=by
 intro ns;induction ns with
 | nil=>intro vs w;rw [c6] at w;cases w;exact .nil
 | cons n ns ih=>
  intro vs w;rw [C1] at w;cases w with
  | cons a b=>cases a;exact .cons _ _ (ih _ b)
theorem KU {l:OpenLaw} {n:Nat} (hn:l.most=some n) {P:Q0} {h:ZM} {args:List WData} {vals:List ZG}
  (hpre:l.row.toRowW.claim.pre args=true) (hwl:WellAll P h vals args) :
  ∃a vs ns,vals=[E1 a]/\args=[WData.list (ns.map WData.int)]/\h.get? a=some { cls:=.type "list",data:=.seq vs.toArray }/\j02 vs ns/\ns.length<=n:=by
 have k:WShape.hasAll [] args [.list .int]=true:=(pre_splitW hpre).1;have e:l.pre.holds [] { args:=args }=true:=(pre_splitW hpre).2;obtain ⟨d,r,rfl,g,f⟩:=hasAllW_cons k;obtain rfl:=hasAllW_nil f;obtain ⟨o,rfl,i⟩:=hasW_list g;obtain ⟨ns,rfl⟩:=items_int i;have j:ns.length<=n:=by
  unfold OpenLaw.pre at e;have c:(WTm.not (.lt (.lit (.int (n:Int))) (.len (.arg 0)))).holds [] { args:=[.list (ns.map .int)] }=true:=by have c:=(holds_andW e).1;rw [hn] at c;exact c
  have b:=condW_of c (w_not (w_lt w_lit (w_len_list (w_arg rfl))));rw [C0] at b;refine j24 λ q=>?_;have m:(n:Int) < ((ns.length:Nat):Int):=by lia
  first
   | (rw [ZY m] at b;exact ZV b (by decide))
   | (simp at b;lia)
 cases hwl with
 | cons w1 w2=>
  cases w2;cases w1 with
  | list ho hall=>exact ⟨_,_,ns,rfl,rfl,ho,I_ ns _ hall,j⟩
def NZ (l:OpenLaw) (args:List WData):l.row.toRowW.claim.post args (.bool true) args=true:=
 postW_of (r:=l.row.toRowW) (X:=(true == true))
  (show WShape.has [] (.bool true) .bool=true by first|rfl|decide|simp [WShape.has,WShape.arms,WShape.armsAll])
  (show (WTm.eq .res (.lit (.bool true))).value [] { args:=args,res:=some (.bool true),after:=args }=some (.bool (true == true)) from w_eq_bool (w_res rfl) w_lit) rfl
def attach_call {l:OpenLaw} {n:Nat} {q:ZJ} {loose:List ZR} {XP:(ZR->Option ZG)->ZM->Prop} {YP:U0->ZM->Prop} {d:DefRec}
  (hn:l.most=some n) (hdf:d.params.defaults=[])
  (call :∀(w:U0) (s₀ s₁:A0) (mg mb:ZR->Option ZG) (fa:ZS) (o:ZQ) (pm cd doc:ZG) (a:ZS) (vs:List ZG) (ns:List Int),
   Ground q loose [] XP w s₀ mg mb s₁.heap->YP w s₁.heap->
   s₁.heap.get? fa=some o->o.data=.func (docDef d.name d.params d.body d.scope pm cd doc)->s₁.heap.CodeRec cd d.name->mg d.name=some (.ref fa)->
   s₁.heap.get? a=some { cls:=.type "list",data:=.seq vs.toArray }->j02 vs ns->ns.length<=n->s₁.gens = #[]->
   j16 (F1 l.prog w) j2g (.call (.ref fa) ⟨[.ref a],[]⟩) (λ r s'=>r=.ok (.ret (.bool true))/\OldK s₁.heap s'.heap/\s'.os=s₁.os/\d9 s'.gens) s₁) :
  WalkO q loose XP YP l.row.toRowW d [] (λ f vs=>PySem.call f vs):=by
 intro w s₀ s₁ mg mb G Y fa o pm cd doc y kV x j k b m c E D C u F B h A;obtain rfl:y=.none:=Dflts.none b hdf;obtain rfl:kV=.none:=Dflts.noKw b;obtain ⟨a,vs,ns,rfl,rfl,z,v,i⟩:=KU hn u h;refine enter_call (j2f (call w s₀ s₁ mg mb fa o pm cd doc a vs ns G Y x (fd_plain j) k m z v i c) λ r s' p=>?_);obtain ⟨rfl,e,g,t⟩:=p;exact ⟨.inl ⟨.bool true,.bool true,[],rfl,λ _=>rfl,.bool true,NZ l _,λ _=>⟨j35,λ _ s=>(nomatch s)⟩⟩,e,g,t⟩
end Att
namespace L2
open PySem PySem.Spec PyProof.Rows
theorem Bz:∀{vs:List ZG} {ns:List Int},j02 vs ns->aJ (ns.map V.int) vs
 | _,_,.nil=>.nil
 | _,_,.cons n t h=>.cons ⟨t,rfl⟩ (Bz h)
def qq (H:Hp):Prop:=∀b,H b=none\/∃o xs,H b=some (.frz o (.lst xs))
variable {K:b0} {P:ZJ} {a:ZS} {fd:ZI} {mg:ZR->Option ZG} {ns:List Int} {sp:Sp} {w:U0} {x:ZR}
def IY {mb:ZR->Option ZG} {CX:oa} {k:Nat} {fa:ZS} {s₁:A0} {vs:List ZG} 
  (KX:K.In s₁.heap) (hns:s₁.heap.Ns K3 mg) (hb:s₁.heap.Ns builtinsNs mb) (hbb :∀x:ZR,x≠"__name__"->mb x=n8 x) (hlim:s₁.heap.NoLimit) (hg:s₁.gens = #[])
  (ha:s₁.heap.get? a=some { cls:=.type "list",data:=.seq vs.toArray }) (hi:j02 vs ns) (hl:ns.length<=ZF) (hr:bQ k j2g)
  (F :∀base:ZM,K.In base->base.Ns K3 mg->fI P w K mg base CX k fa fd [x] sp) (hbind :∀(s:A0) (u:ZG),BindsTo s fd ⟨[u],[]⟩ [(x,u)])
  (hsp :∀H:Hp,qq H->aK K H a (ns.map V.int)->sp [.ref a] H (λ v _=>v=.bl true) λ _ _ _=>False)
  (hCX :∀H e s',CX [] H s₁ (λ _ _ _=>False) e s'->False) :
  j16 (F1 P w) j2g (.call (.ref fa) ⟨[.ref a],[]⟩) (λ r s'=>r=.ok (.ret (.bool true))/\OldK s₁.heap s'.heap/\s'.os=s₁.os/\d9 s'.gens) s₁:=by
 have p:=Bz hi;have O:=hi.length
 -- from an abstract heap in which nothing but the script may be tracked
 have l :∀H:Hp,qq H->aK K H a (ns.map V.int)->fN P w H s₁.heap->(∀b,H b≠none->b=a)->(H a≠none->K.lookup a=none)->
   j16 (F1 P w) j2g (.call (.ref fa) ⟨[.ref a],[]⟩) (λ r s'=>r=.ok (.ret (.bool true))/\OldK s₁.heap s'.heap/\s'.os=s₁.os/\d9 s'.gens) s₁:=by
  intro H y G A j R;have B :∀{b:ZS} {o:ZQ},s₁.heap.get? b=some o->H b=none->(iP s₁.heap H).get? b=some o:=λ e n=>KD e n;have E :∀{b:ZS} {o:ZQ} {es:Array ZH} {ep:Nat},s₁.heap.get? b=some o->o.data=.dict es ep->H b=none:=λ {b o es ep} e d=>by
   cases q:H b with
   | none=>rfl
   | some u=>have g:b=a:=j b (by rw [q];simp);subst g;rw [ha] at e;cases e;have C:Data.seq vs.toArray _=Data.dict es ep:=d;cases C
  have f :∀{b:ZS} {m:ZR->Option ZG},s₁.heap.Ns b m->(iP s₁.heap H).Ns b m:=λ {b m} ⟨o,es,ep,e,d,r⟩=>⟨o,es,ep,B e (E e d),d,r⟩
  have i:K.In (iP s₁.heap H):=λ b o e=>B (KX b o e) (by
   cases q:H b with
   | none=>rfl
   | some u=>have g:b=a:=j b (by rw [q];simp);subst g;rw [R (by rw [q];simp)] at e;cases e)
  have Q:Mod K mg (iP s₁.heap H):=⟨i,f hns,⟨mb,f hb,hbb⟩,let ⟨mc,h1,h2⟩:=hlim;⟨mc,f h1,h2⟩⟩
  have D:jP P w K mg (iP s₁.heap H) j2g [] s₁ H:=⟨rfl,Q,λ b o e=>Jo e,m6 (KC _ _),trivial,λ b hb=>ZV (show b∈([]:List ZS) from hb) (by simp),A,.of_eq hg⟩
  refine j2f ((F _ i (f hns)).run j2g [] s₁ H ⟨[.ref a],[]⟩ [.ref a] [.ref a] _ _ hr D (hbind s₁ (.ref a)) (.cons rfl .nil) (hsp H y G)) λ r s' h=>?_;cases r with
  | error e=>exact (hCX H e s' h).elim
  | ok fl=>
   cases fl with
   | next=>exact y4 h
   | brk=>exact y4 h
   | cont=>exact y4 h
   | ret u=>
    obtain ⟨v,T,os,M,un,S,I,q⟩:=h;have L:v=.bl true:=q;subst L;obtain rfl:u=N4 true:=I;refine ⟨rfl,OldK.of_keep λ b o e=>?_,os,M⟩;cases q:H b with
    | none=>exact un.keep b o e q (by intro z;exact ZV (show b∈([]:List ZS) from z) (by simp)) (by simp)
    | some u=>
     rcases y b with z|⟨ob,xs,z⟩
     ·rw [q] at z;cases z
     ·have N:=un.frzs b ob _ z;obtain ⟨t,_⟩:=A b _ z;obtain ⟨J,_⟩:=S b _ N;rw [e] at t;cases t;exact J
 cases hk:K.lookup a with
 | some o=>
  -- the script is one of the module's own objects
  have e:=KX a o hk;rw [ha] at e;cases e;refine l (λ _=>none) (λ _=>.inl rfl) (.inr ⟨_,vs.toArray,_,hk,rfl,rfl,rfl,by rw [N0,O];exact hl,by simpa using p⟩) (λ b u z=>by have c:(none:Option HO)=some u:=z;cases c) (λ b z=>ZV rfl z) λ z=>ZV rfl z
 | none=>
  refine l (λ b=>if b=a then some (.frz { cls:=.type "list",data:=.seq vs.toArray } (.lst (ns.map V.int))) else none) (λ b=>?_) (.inl (.inr ⟨{ cls:=.type "list",data:=.seq vs.toArray },ZZ rfl⟩)) (λ b u z=>?_) (λ b z=>?_) λ _=>hk
  ·by_cases hb:b=a
   ·exact .inr ⟨_,_,ZZ hb⟩
   ·exact .inl (Z_ hb)
  ·by_cases hb:b=a
   ·have c:=(ZZ hb).symm.trans z;cases c;subst hb;exact ⟨ha,by rw [C0];exact hl,vs,_,p,ha⟩
   ·have c:=(Z_ hb).symm.trans z;cases c
  ·by_cases hb:b=a
   ·exact hb
   ·exact ZV (Z_ hb) z
variable {n:Nat}
def walk_of {l:PySem.W.OpenLaw} {k:Nat} {q:ZJ} {loose:List ZR} {XP:(ZR->Option ZG)->ZM->Prop} {YP:U0->ZM->Prop} {d:DefRec} {K:Q0->b0} {CX:U0->oa} {sp:U0->Sp} 
  (hn:l.most=some n) (hn2:n<=ZF) (hdf:d.params.defaults=[]) (hr:bQ k j2g)
  (hY :∀(w:U0) (h:ZM),YP w h->(K w.params).In h)
  (F :∀(w:U0) (mg:ZR->Option ZG) (fa:ZS) (h:ZM),(K w.params).In h->h.Ns K3 mg->mg d.name=some (.ref fa)->
   ∃fd:ZI,(∀(s:A0) (u:ZG),BindsTo s fd ⟨[u],[]⟩ [(x,u)])/\
    ∀base:ZM,(K w.params).In base->base.Ns K3 mg->fI l.prog w (K w.params) mg base (CX w) k fa fd [x] (sp w))
  (hsp :∀(w:U0) (H:Hp) (a:ZS) (ns:List Int),ns.length<=n->qq H->aK (K w.params) H a (ns.map V.int)->sp w [.ref a] H (λ v _=>v=.bl true) λ _ _ _=>False)
  (hCX :∀(w:U0) (H:Hp) (s:A0) (e:ZG) (s':A0),CX w [] H s (λ _ _ _=>False) e s'->False) :
  PySem.W.WalkO q loose XP YP l.row.toRowW d [] (λ f vs=>PySem.call f vs):=by
 refine Att.attach_call hn hdf λ w B t mg E fa o I M L a vs ns G Y J C D j A p c i=>?_;have KX:=hY w _ Y;obtain ⟨fd,r,z⟩:=F w mg fa _ KX G.T.g j;exact IY KX G.T.g G.T.b G.T.builtins G.T.nolimit i A p (D0 c hn2) hr z r (λ H y m=>hsp w H a ns c y m) λ H e s'=>hCX w H t e s'
noncomputable def vD (s:ZL):Arguments:=match s with
 | .FunctionDef _ a _ _ _ _ _ _ _ _=>a
 | _=>{ posonlyargs:=[],args:=[],vararg:=none,kwonlyargs:=[],kw_defaults:=[],kwarg:=none,defaults:=[] }
noncomputable def pH (s:ZL):List ZL:=match s with
 | .FunctionDef _ _ b _ _ _ _ _ _ _=>b
 | _=>[]
noncomputable def ck (s:ZL):ZD:=match s with
 | .FunctionDef _ _ _ _ _ _ sc _ _ _=>sc
 | _=>{ kind:=.function,names:=[],isGenerator:=false,isCoroutine:=false }
noncomputable abbrev CX0:oa:=λ _ _ _ _ _ _=>False
noncomputable abbrev E0:XK:=λ _ _ _=>False
variable {X:Cx}
def ir:fT CX0 X E0:=λ _ _ _ _ _ _ _ h=>h.elim
structure cE (K:b0) (x qual:ZR) (st:ZL) (f:ZS) (fd:ZI):Prop where
 ex :∃(oc:ZG) (od:Option ZS) (kV doc pm:ZG) (an:Option ZS) (cdv ct:ZG) (osl:Array (Option ZG)),
  fd=C6 x qual (vD st) (pH st) (ck st) .none kV doc pm an cdv ct/\K.lookup f=some ⟨oc,od,.func fd,osl⟩/\A9 K cdv qual=true
 kp:Q3 K (.ref f)=true
variable {N ps:List ZR} {f:ZS} {qual:ZR} {st:ZL}
section
variable {base:ZM}
def cE.ok {k:Nat} (F:cE K x qual st f fd) (S:ay N ps (ck st)) (len :∀vs H Q E,sp vs H Q E->vs.length=ps.length)
  (hbody :∀(cdv:ZG) (A:B2) (outer:List Env) (s:A0) (H:Hp) (vs:List V) (Q:VK) (E:XK),bQ k (A.deeper (Y9 qual (ck st) s.heap.objs.size f cdv))->sp vs H Q E->
   ∃t,jI (ke CX0 P w K mg base N qual (ck st) f cdv A outer s H E).nox (pH st) t/\t { nx:=λ _ H'=>Q .non H',rt:=Q } (start N vs) H):fI P w K mg base CX0 (k + 1) f fd ps sp:=by
 obtain ⟨g,e,kV,m,j,n,cdv,l,i,rfl,c,b⟩:=F.ex;refine oS c b S len λ A outer s H vs Q E d a=>?_;obtain ⟨t,h,q⟩:=hbody cdv A outer s H vs Q E d a;exact ⟨t,h.nox,q⟩
def cE.binds (F:cE K x qual st f fd)
  (h :∀(kV doc pm:ZG) (an:Option ZS) (cdv ct:ZG) (us:List ZG),us.length=ps.length->bindArgs (C6 x qual (vD st) (pH st) (ck st) .none kV doc pm an cdv ct) ⟨us,[]⟩=W1 (ps.zip us)):Binds K fd ps []:=by
 obtain ⟨b,a,kV,doc,pm,an,cdv,ct,d,rfl,e,c⟩:=F.ex;exact .all (h kV doc pm an cdv ct)
def rY {oc:ZG} {od an:Option ZS} {osl:Array (Option ZG)} {kV doc pm cdv ct:ZG} (l:K.lookup f=some ⟨oc,od,.func (C6 x qual (vD st) (pH st) (ck st) .none kV doc pm an cdv ct),osl⟩)
  (c:A9 K cdv qual=true) (k:Q3 K (.ref f)=true):cE K x qual st f (C6 x qual (vD st) (pH st) (ck st) .none kV doc pm an cdv ct):=⟨⟨oc,od,kV,doc,pm,an,cdv,ct,osl,rfl,l,c⟩,k⟩
end
variable {A:B2}
def cQ {k:Nat} (hr:bQ k A):A.units + 1 < ZE:=T1 (Nat.add_le_add_left (by decide:1<=64) _) hr.units
variable {pos:ZP}
section
def pv (i:Nat) (hN:X.N[i]? = some x:=by rfl) (hv:wY X.env.scope x:=by first|exact Y0 rfl|exact X0 (Y0 rfl)|exact X0 (X0 rfl)) (hd:(x == ("__debug__" : ZR))=false:=by decide)
  (hcd:(x == ("__classdict__" : ZR))=false:=by decide):PE X (.Name x pos) (hV i):=mY hN hv hd hcd
end
variable {B:Prop}
def cF {A:Prop} (h:B):if false=true then A else B:=by rw [Z_ O0];exact h
def cG {A:Prop} (h:A):if true=true then A else B:=by rw [ZZ rfl];exact h
def gm {c A:Prop} [Decidable c] (h1:c->A) (h2:¬ c->B):if c then A else B:=by
 by_cases h:c
 ·rw [ZZ h];exact h1 h
 ·rw [Z_ h];exact h2 h
def af (H H':Hp):Prop:=∀b o,H b=some o->H' b=some o
def af.refl (H:Hp):af H H:=λ _ _ h=>h
variable {H H1:Hp}
def af.trans {H2:Hp} (a:af H H1) (b:af H1 H2):af H H2:=λ c o h=>b c o (a c o h)
variable {H':Hp} {l:ZS}
def af.free (e:af H H') (h:H' l=Option.none):H l=Option.none:=by
 cases q:H l with
 | none=>rfl
 | some o=>rw [e l o q] at h;cases h
variable {xs:List V}
def af.seq (e:af H H') (h:aK K H a xs):aK K H' a xs:=by
 rcases h with (h|⟨o,h⟩)|h
 ·exact .inl (.inl (e _ _ h))
 ·exact .inl (.inr ⟨o,e _ _ h⟩)
 ·exact .inr h
section
variable {κ:Type} [DecidableEq κ]
def Ey {p:κ×V} {r:List (κ×V)} {k:κ} (e:p.1=k):cR (p :: r) k=cR r k:=by unfold cR;rw [Y4,Z_ (by simp [e])]
def Ej {p:κ×V} {r:List (κ×V)} {k:κ} (e:¬ p.1=k):cR (p :: r) k=p :: cR r k:=by unfold cR;rw [Y4,ZZ (by simp [e])]
end
variable {prog:ZJ} {s:A0}
section
variable {R:Result->A0->Prop} 
def RL {elt target iter:ZN} {ifs:List ZN} {scope:ZD} {pos:ZP} {it acc:ZG} {env:Env} (J:Nat->A0->Prop)
  (turn :∀n s,J n s->V0 (F1 prog w) A (j54 it) (λ r s₁=>match r with
   | none=>R (.ok .next) s₁
   | some v=>V0 (F1 prog w) A (j05 target it v) (λ _ s₂=>V0 (F1 prog w) A (assign target env v) (λ _ s₃=>
     V0 (F1 prog w) A (F5 ifs true λ c r=>if r=true then do let ok <-isTrue c env (O3 c env);W1 (T2 ok) else W1 (T2 r)) (λ ok s₄=>
      if ok=true then V0 (F1 prog w) A (O3 elt env) (λ x s₅=>V0 (F1 prog w) A (call (.builtin "list.append") [acc,x]) (λ _ s₆=>∃m,m < n/\J m s₆) (λ _ _=>False) s₅) (λ _ _=>False) s₄
      else∃m,m < n/\J m s₄) (λ _ _=>False) s₃) (λ _ _=>False) s₂) (λ _ _=>False) s₁) (λ _ _=>False) s)
  (n:Nat) (h:J n s):j16 (F1 prog w) A (.compLoop (.ListComp elt [⟨target,iter,ifs,0⟩] scope pos) 0 it acc env) R s:=by
 refine codeAny_loop rfl J (λ n s j=>?_) n h;show V0 _ A ((compTurn (.ListComp elt [⟨target,iter,ifs,0⟩] scope pos) 0 it acc env).onRaise (λ x=>do noteFrame x env;theTreesLotGoes x)) _ _ s;refine wpAny_noted ?_;rw [compTurn_list];refine d0 (wpAny_standAt (d0 (G3 (turn n s j) (λ r s₁ a=>?_) λ _ _ f=>f.elim)));cases r with
 | none=>exact L0 a
 | some v=>
  refine d0 (G3 a (λ _ s₂ i=>d0 (G3 i (λ _ s₃ e=>d0 (G3 e (λ ok s₄ b=>?_) λ _ _ f=>f.elim)) λ _ _ f=>f.elim)) λ _ _ f=>f.elim);cases ok with
  | false=>exact L0 ⟨rfl,b⟩
  | true=>exact d0 (d0 (G3 b (λ x s₅ d=>d0 (G3 d (λ _ s₆ g=>L0 (L0 ⟨rfl,g⟩)) λ _ _ f=>f.elim)) λ _ _ f=>f.elim))
end
variable {env:Env}
theorem CJ:∀(names:List (ZR×u6)) (acc:List (ZR×ZS)),(∀y∈names,y.2=Z1->∃c,env.cells.lookup y.1=some c)->(∀y c,acc.lookup y=some c->env.cells.lookup y=some c)->
  ∃cl,(F5 names acc λ (x:ZR×u6) (r:List (ZR×ZS))=>(match x with
    | (name,kind)=>if (kind == Z1)=true then do let c <-cellOf env name;W1 (T2 ((name,c) :: r)) else W1 (T2 r):ZO (ForInStep (List (ZR×ZS)))))=W1 cl/\
   (∀y c,cl.lookup y=some c->env.cells.lookup y=some c)/\(∀y,((y,Z1)∈names\/∃c,acc.lookup y=some c)->∃c,cl.lookup y=some c)
 | [],acc,_,ha=>⟨acc,by rw [X4],ha,λ y h=>h.elim (λ z=>nomatch z) id⟩
 | (n,k) :: r,acc,hf,ha=>by
  rw [A4];dsimp only;by_cases hk:k=Z1
  ·subst hk;obtain ⟨c,j⟩:=hf (n,.free) R0 rfl;have e:cellOf env n=W1 c:=by unfold cellOf;rw [j]
   rw [ZZ (by rfl),e];obtain ⟨cl,g,f,i⟩:=CJ r ((n,c) :: acc) (λ y a=>hf y (W0 _ a)) (λ y d b=>by
    rw [U4] at b;by_cases a:(y == n)=true
    ·rw [a] at b;have:=eq_of_beq a;subst this;cases b;exact j
    ·rw [j22] at a;rw [a] at b;exact ha y d b)
   refine ⟨cl,g,f,λ y a=>i y ?_⟩;rcases a with a|⟨d,b⟩
   ·rcases List.mem_cons.mp a with z|z
    ·cases z;exact .inr ⟨c,by rw [U4];simp⟩
    ·exact .inl z
   ·refine .inr ?_;rw [U4];by_cases a:(y == n)=true
    ·rw [a];exact ⟨c,rfl⟩
    ·rw [j22] at a;rw [a];exact ⟨d,b⟩
  ·rw [Z_ (by simpa using hk)];obtain ⟨cl,g,f,i⟩:=CJ r acc (λ y a=>hf y (W0 _ a)) ha;refine ⟨cl,g,f,λ y a=>i y ?_⟩;rcases a with a|a
   ·rcases List.mem_cons.mp a with z|z
    ·cases z;exact ZV rfl hk
    ·exact .inl z
   ·exact .inr a
variable {scope:ZD}
def MA (hf :∀y∈scope.names,y.2=Z1->∃c,env.cells.lookup y.1=some c) :
  ∃cl,closureFor scope env=W1 cl/\(∀y c,cl.lookup y=some c->env.cells.lookup y=some c)/\(∀y,(y,Z1)∈scope.names->∃c,cl.lookup y=some c):=by
 obtain ⟨cl,b,a,d⟩:=CJ (env:=env) scope.names [] hf (λ _ _ z=>nomatch z);refine ⟨cl,?_,a,λ y e=>d y (.inl e)⟩;simp only [closureFor];rw [b];rfl
variable {y:ZR}
theorem mem_of_lookup {κ:Type} {k:κ} :∀{l:List (ZR×κ)},l.lookup y=some k->(y,k)∈l
 | (n,c) :: r,h=>by
  rw [U4] at h;by_cases hy:(y == n)=true
  ·rw [hy] at h;cases h;rw [eq_of_beq hy];exact R0
  ·rw [j22] at hy;rw [hy] at h;exact W0 _ (mem_of_lookup h)
def Dc (hcell :∀y∈scope.names,y.2≠NameKind.cell) {k:u6} (h:(X8 scope env).names.lookup y=some k) (hk:k=.cell\/k=.free):(y,Z1)∈scope.names:=by
 have m:=mem_of_lookup h;unfold X8 at m;obtain ⟨⟨n,c⟩,a,e⟩:=List.mem_map.mp m;dsimp only at e;by_cases hc:(c == Z1)=true
 ·have:=eq_of_beq hc;subst this;split at e<;>(injection e with e1 e2;subst e1;exact a)
 ·rw [Z_ (by simp [hc])] at e;injection e with e1 e2;subst e1 e2;rcases hk with rfl|rfl
  ·exact ZV rfl (hcell _ a)
  ·exact ZV rfl hc
noncomputable abbrev cB (X:Cx) (scope:ZD) (cl:List (ZR×ZS)) (N:List ZR) (C:ZS) (s₂:A0) (H₂:Hp) (fp:List ZS):Cx:=
 { X with N:=N,s₀:=s₂,H₀:=H₂,env:=compEnvC scope cl C X.env,outer:=X.stack,stack:=X.stack,ex:=fp,fn:=λ _=>false,pn:=[],xe:=λ _ _=>False }
def PF (X:Cx) (ifs:List ZN) (t:TT):Prop:=
 ∀(pins:List (ZS×ZQ)) (s:A0) (σ:St) (H:Hp) (Q:Bool->Hp->Prop),Inv X pins σ H s->t σ H Q->
  V0 (F1 X.prog X.w) X.A (F5 ifs true λ c r=>if r=true then do let ok <-isTrue c X.env (O3 c X.env);W1 (T2 ok) else W1 (T2 r)) (TP X pins σ Q) X.xe s
def fE:PF X [] (λ _ H Q=>Q true H):=λ _ _ _ H _ I h=>wpAny_tests_nil ⟨H,I,h⟩
def eO {c:ZN} {t:TT} (h:PT X c t):PF X [c] t:=λ a s σ H Q I q=>wpAny_tests_one (h a s σ H Q I q)
def aJ.snoc {us:List ZG} {x:V} {u:ZG} (r:aJ xs us) (q:RelV x u):aJ (xs++[x]) (us++[u]):=aJ.append r (.cons q .nil)
def bz (H:Hp) (x:V) (T:String):Prop:=match x with
 | .non=>T = "NoneType"
 | .bl _=>T = "bool"
 | .int _=>T = "int"
 | .str _=>T = "str"
 | .ref a=>((∃xs,H a=some (.lst xs))/\T = "list")\/((∃xs,H a=some (.tup xs))/\T = "tuple")\/((∃kvs,H a=some (.dK kvs))/\T = "dict")
 | _=>False
noncomputable def iA (T C:String):Bool:=T == C || (T == "bool" && C == "int")
variable {T:String}
def bz.ty {x:V} (h:bz H x T):gy K H x (.type T):=by
 cases x with
 | non=>cases (show T = "NoneType" from h);exact .non
 | bl b=>cases (show T = "bool" from h);exact .bl b
 | int i=>cases (show T = "int" from h);exact .int i
 | str z=>cases (show T = "str" from h);exact .str z
 | ref a=>
  rcases h with ⟨⟨c,e⟩,rfl⟩|⟨⟨c,e⟩,rfl⟩|⟨⟨c,e⟩,rfl⟩
  ·exact .lst e
  ·exact .tup e
  ·exact .dK e
 | _=>exact h.elim
def bz.one {x:V} (h:bz H x T):T = "NoneType"\/T = "bool"\/T = "int"\/T = "str"\/T = "list"\/T = "tuple"\/T = "dict":=by
 cases x with
 | non=>exact .inl h
 | bl b=>exact .inr (.inl h)
 | int i=>exact .inr (.inr (.inl h))
 | str z=>exact .inr (.inr (.inr (.inl h)))
 | ref a=>rcases h with ⟨_,rfl⟩|⟨_,rfl⟩|⟨_,rfl⟩<;>simp
 | _=>exact h.elim
noncomputable def qA:List String:=["int","str","bool","tuple","list"]
def qg (K:b0) {C:String} (h:T = "NoneType"\/T = "bool"\/T = "int"\/T = "str"\/T = "list"\/T = "tuple"\/T = "dict") (hC:C∈qA):PySem.W.kitOne K (.type T) (.type C)=some (iA T C):=by
 have hC:C = "int"\/C = "str"\/C = "bool"\/C = "tuple"\/C = "list":=by simpa [qA] using hC
 rcases h with rfl|rfl|rfl|rfl|rfl|rfl|rfl<;>rcases hC with rfl|rfl|rfl|rfl|rfl<;>kernel_rfl
variable {h:ZM} {kvs:List ((ZR×ZR)×V)} {p:ZS} {pins:List (ZS×ZQ)} {σ:St}
section
def pd:cc X (.builtin "isinstance") (λ xs H Q=>∃x C T,xs=[x,.ty C]/\bz H x T/\C∈qA/\Q (.bl (iA T C)) H):=by intro i s σ H xs g Q I r h;obtain ⟨x,C,T,rfl,a,e,q⟩:=h;obtain ⟨u,b,rfl,c,d⟩:=vals2 r;cases (show b=R7 C from d);exact Qn I c a.ty (qg X.K a.one e) λ f=>⟨.bl _,H,I.tok f,rfl,q⟩
theorem JA {ys:List V} {its:List ZG} (rv:aJ ys its) (hb :∀y∈ys,∃b,y=V.bl b):((B1 its.length).all λ i=>decide (ys[i]? = some (V.bl true)))=ys.all λ y=>decide (y=V.bl true):=by
 have e:=rv.length;rw [Bool.eq_iff_iff,c7,c7];constructor
 ·intro h y d;obtain ⟨i,a,rfl⟩:=List.getElem_of_mem d;have:=h i (List.mem_range.mpr (by lia));simpa [a] using this
 ·intro h i a;have c:i < ys.length:=by have:=List.mem_range.mp a;lia
  have:=h ys[i] (i6 c);simpa [c] using this
def IR (hc:X.calm=true):cc X (.builtin "all") (λ xs H Q=>∃p ys,xs=[.ref p]/\aK X.K H p ys/\(∀y∈ys,∃b,y=V.bl b)/\Q (.bl (ys.all λ y=>decide (y=V.bl true))) H):=by
 intro J s σ H xs N Q I r h;obtain ⟨p,ys,rfl,n,l,q⟩:=h;obtain ⟨u,rfl,B⟩:=vals1 r;cases B;obtain ⟨g,c,f,L⟩:=I.list n;have E:p≠s.heap.objs.size:=by obtain ⟨o,e,_⟩:=f.isList;exact G1 (S0 e)
 refine call_all_walk (j2c f.isList ?_);refine ⟨s.heap.objs.size,_,_,_,_,_,λ i=>decide (ys[i]? = some (V.bl true)),rfl,Walks.list (show X.A.in1.handled=none from I.ok.hd hc) s.heap.objs.size p E g.toArray,⟨⟨_,Z0 _ rfl,rfl,rfl⟩,f.isList.at λ o e=>F0 _ e⟩,?_,?_⟩
 ·intro i v P O M a w;have a:g[i]? = some v:=by simpa using a
  obtain ⟨C,e⟩:=List.getElem?_eq_some_iff.mp a;have d:i < ys.length:=by rw [c.length];exact C
  obtain ⟨b,k⟩:=l ys[i] (i6 d);obtain ⟨u,m,j⟩:=c.get (i:=i) (x:=ys[i]) (by simp [d]);rw [a] at m;cases m;rw [k] at j;cases (show v=N4 b from j);have:decide (ys[i]? = some (V.bl true))=b:=by rw [B0 d,k];cases b<;>simp
  exact R4 (this ▸ w)
 ·intro G t D;have e:=JA c l;rw [<-N0] at e;refine ⟨.bl _,H,I.kept (t':=t) λ b o z=>D b o ?_ (F0 _ z),rfl,e.symm ▸ q⟩;intro F;rw [List.mem_singleton.mp F] at z;exact ZV (S0 z) (Y3 _)
def uT (i j:Int):Prop:=0 < j/\j < 2 ^ 64
theorem zy:eA X (z5 .FloorDiv) (rI uT λ i j=>.int (i / j)):=xA λ i j _ _ _ _ _ a q=>by
 obtain ⟨b,c⟩:=a;refine floordiv_int (by lia) ?_ (.inl (PyProof.noPylong_of_log2 ?_))
 ·rw [Int.fdiv_eq_ediv_of_nonneg _ (by lia)];exact q
 ·have:j.natAbs.log2 < 64:=(Nat.log2_lt (by lia)).mpr (by lia)
  lia
structure iz (K:b0) (P:Q0) (a:ZS) (kvs:List (ZR×V)):Prop where
 ex :∃es n,K.lookup a=some ⟨.type "dict",none,.dict es n,#[]⟩/\j00 (λ (p:ZR×V) (e:ZH)=>(∃t,e.key=.str p.1 t)/\e.hash=c0 P p.1/\RelV p.2 e.val) kvs es.toList
 lo:(a == P3)=false
def Ph {kvs:List (ZR×V)} {P:Q0} :∀{es:List ZH},j00 (λ (p:ZR×V) (e:ZH)=>(∃t,e.key=.str p.1 t)/\e.hash=c0 P p.1/\RelV p.2 e.val) kvs es->∀z,
  de (kvs.lookup z) (findBy o8 es.toArray z):=by
 intro es r;induction r with
 | nil=>intro z;exact True.intro
 | @cons p e kvs es h t a=>
  intro z;obtain ⟨⟨g,d⟩,f,c⟩:=h;have a:=a z;unfold findBy at a⊢;rw [List.find?_toArray] at a⊢;rw [K4,U4];have b:o8 z e.key=(z == p.1):=by rw [d];show (p.1 == z)=_;rw [Bool.eq_iff_iff,beq_iff_eq,beq_iff_eq];exact ⟨λ q=>q.symm,λ q=>q.symm⟩
  cases hz:(z == p.1) with
  | true=>rw [b,hz];exact c
  | false=>rw [b,hz];exact a
def iz.mapOf {kvs:List (ZR×V)} (D:iz X.K X.w.params a kvs) (k:X.K.In h) :∃f,h.MapOf (strKind X.prog X.w) a f/\∀z,de (kvs.lookup z) (f z):=by
 obtain ⟨b,n,d,r⟩:=D.ex;have c:PySem.W.KeysLit X.w.params b.toList:=by
  clear d D;generalize b.toList=l at r;induction r with
  | nil=>exact True.intro
  | cons h t ih=>obtain ⟨⟨i,c⟩,g,j⟩:=h;exact ⟨⟨_,i,c,g⟩,ih⟩
 have e :∀z,de (kvs.lookup z) (findBy o8 b.toList.toArray z):=Ph r;exact ⟨_,PySem.W.mapOf_K (prog:=X.prog) k d c,λ z=>by simpa using e z⟩
def NO {kvs:List (ZR×V)} (D:iz X.K X.w.params a kvs):eA X (V2 .In) (λ x y H Q=>∃z,x=.str z/\y=.ref a/\Q (.bl (kvs.lookup z).isSome) H):=by intro g s σ H x y v u Q I c d h;obtain ⟨z,rfl,rfl,q⟩:=h;obtain ⟨t,rfl⟩:=c;cases d;obtain ⟨f,b,e⟩:=D.mapOf I.kIn;refine wpAny_in_of (X9 X.prog X.w z t) D.lo b ⟨.bl _,H,I.tok _,rfl,?_⟩;have:=e z;rw [de.isSome_eq this] at q;exact q
def oJ {kvs:List (ZR×V)} (D:iz X.K X.w.params a kvs):lB X (λ x y H Q=>∃z v,x=.ref a/\y=.str z/\kvs.lookup z=some v/\Q v H):=by
 intro l m k s σ H x y v u Q I g d h i;obtain ⟨z,r,rfl,rfl,e,q⟩:=h;cases g;obtain ⟨t,rfl⟩:=d;obtain ⟨f,c,j⟩:=D.mapOf I.kIn;have b:=j z;rw [e] at b;cases ef:f z with
 | none=>rw [ef] at b;exact b.elim
 | some u=>rw [ef] at b;exact j51 c.typeIs slot_dict_getitem.lookup (wpAny_getItem_of (X9 X.prog X.w z t) c ef ⟨r,H,I.tok _,b,q⟩) i
structure hO (K:b0) (P:Q0) (a:ZS) (kvs:List ((ZR×ZR)×V)):Prop where
 ex :∃es n,K.lookup a=some ⟨.type "dict",none,.dict es n,#[]⟩/\j00 (λ (p:(ZR×ZR)×V) (e:ZH)=>(∃(b:ZS) (t t':Tok) (m:Nat),e.key=.ref b/\K.lookup b=some ⟨.type "tuple",none,.seq #[.str p.1.1 t,.str p.1.2 t'] m,#[]⟩)/\
  e.hash=P1 (o0 [c0 P p.1.1,c0 P p.1.2])/\RelV p.2 e.val) kvs es.toList
 nd:(kvs.map (·.1)).Nodup
 lo:(a == P3)=false
def OX (k:K.In h) :∀{kvs:List ((ZR×ZR)×V)} {es:List ZH},
  j00 (λ (p:(ZR×ZR)×V) (e:ZH)=>(∃(b:ZS) (t t':Tok) (m:Nat),e.key=.ref b/\K.lookup b=some ⟨.type "tuple",none,.seq #[.str p.1.1 t,.str p.1.2 t'] m,#[]⟩)/\
   e.hash=P1 (o0 [c0 w.params p.1.1,c0 w.params p.1.2])/\RelV p.2 e.val) kvs es->
  ∃xs:List (List ZR×ZS×ZG),es=xs.map (entryOfKey (U6 (strKind prog w)))/\(∀x∈xs,(U6 (strKind prog w)).is h x.1 x.2.1)/\xs.map (·.1)=kvs.map (λ p=>[p.1.1,p.1.2])/\
   ∀a b,de (kvs.lookup (a,b)) ((O9 xs [a,b]).map (·.2)):=by
 intro kvs es r;induction r with
 | nil=>exact ⟨[],rfl,λ x f=>ZV f t0,rfl,λ a b=>True.intro⟩
 | @cons p e kvs es hpe t ih=>
  obtain ⟨xs,v,n,o,u⟩:=ih;obtain ⟨⟨b,D,B,m,l,A⟩,j,y⟩:=hpe;refine ⟨([p.1.1,p.1.2],b,e.val) :: xs,?_,?_,?_,?_⟩
  ·rw [C1,<-v];congr 1;obtain ⟨q,s,C⟩:=e;have l:s=.ref b:=l;have j:q=_:=j;subst l j;rfl
  ·intro x f;rcases List.mem_cons.mp f with rfl|f
   ·exact ⟨_,_,m,k _ _ A,rfl,rfl,.cons (X9 prog w _ _) (.cons (X9 prog w _ _) .nil)⟩
   ·exact n x f
  ·rw [C1,C1,o]
  ·intro c d;have:=u c d;rw [U4];unfold O9 at this⊢;rw [K4];by_cases hcd:(c,d)=p.1
   ·have i:((c,d) == p.1)=true:=by rw [beq_iff_eq];exact hcd
    rw [i];have g:decide ([p.1.1,p.1.2]=[c,d])=true:=by rw [<-hcd];simp
    rw [g];exact y
   ·have i:((c,d) == p.1)=false:=by rw [beq_eq_false_iff_ne];exact hcd
    rw [i];have g:decide ([p.1.1,p.1.2]=[c,d])=false:=by rw [decide_eq_false_iff_not];intro z;injection z with z1 z;injection z with z2 _;exact hcd (j5g z1.symm z2.symm)
    rw [g];exact this
theorem GN:∀{l:List (ZR×ZR)},l.Nodup->(l.map λ p=>[p.1,p.2]).Nodup
 | [],_=>List.nodup_nil
 | p :: r,h=>by obtain ⟨b,a⟩:=List.nodup_cons.mp h;rw [C1];refine List.nodup_cons.mpr ⟨λ m=>b ?_,GN a⟩;obtain ⟨q,c,e⟩:=List.mem_map.mp m;injection e with e1 e;injection e with e2 _;have:q=p:=j5g e1 e2;exact this ▸ c
def hO.dict (D:hO X.K X.w.params a kvs) (k:X.K.In h) :∃xs,h.DictOfH (U6 (strKind X.prog X.w)) a xs/\∀c d,de (kvs.lookup (c,d)) ((O9 xs [c,d]).map (·.2)):=by obtain ⟨b,n,j,r⟩:=D.ex;obtain ⟨xs,f,e,g,i⟩:=OX (prog:=X.prog) (w:=X.w) k r;refine ⟨xs,⟨_,b,n,k _ _ j,⟨rfl,rfl,rfl⟩,rfl,f,e,?_⟩,i⟩;rw [g];have:=GN D.nd;rw [v3] at this;exact this
def Ep {c d:ZR} (I:Inv X pins σ H s) (hp:H p=some (.tup [.str c,.str d])):(U6 (strKind X.prog X.w)).is s.heap [c,d] p:=by
 obtain ⟨_,h,a,⟨o,f,e,n,b⟩,_⟩:=(show br X.prog X.w H s.heap p (.tup [.str c,.str d]) from I.hok p _ hp)
 cases a with
 | cons r1 a=>
  cases a with
  | cons r2 a=>cases a;obtain ⟨i,rfl⟩:=r1;obtain ⟨g,rfl⟩:=r2;exact ⟨o,_,n,f,e,b,.cons (X9 X.prog X.w _ _) (.cons (X9 X.prog X.w _ _) .nil)⟩
def Lq (hu:X.A.units + 1 < ZE) (D:hO X.K X.w.params a kvs) :
  eA X (V2 .NotIn) (λ x y H Q=>∃p c d,x=.ref p/\H p=some (.tup [.str c,.str d])/\y=.ref a/\Q (.bl (!(kvs.lookup (c,d)).isSome)) H):=by
 intro l s σ H x y v u Q I f g h;obtain ⟨p,c,d,rfl,e,rfl,q⟩:=h;cases f;cases g;obtain ⟨j,b,i⟩:=D.dict I.kIn;refine wpAny_notIn_heap (k:=[c,d]) hu (Ep I e) D.lo b ⟨.bl _,H,I.tok _,rfl,?_⟩;have:=de.isSome_eq (i c d);rw [g8] at this;rw [this] at q;exact q
def qr (hu:X.A.units + 1 < ZE) (D:hO X.K X.w.params a kvs) :
  lB X (λ x y H Q=>∃p c d v,x=.ref a/\y=.ref p/\H p=some (.tup [.str c,.str d])/\kvs.lookup (c,d)=some v/\Q v H):=by
 intro t B o s σ H x y v u Q I j g h m;obtain ⟨p,c,d,r,rfl,rfl,i,e,q⟩:=h;cases j;cases g;obtain ⟨l,f,n⟩:=D.dict I.kIn;have b:=n c d;rw [e] at b;cases ef:O9 l [c,d] with
 | none=>rw [ef] at b;exact b.elim
 | some z=>rw [ef] at b;exact j51 f.typeIs slot_dict_getitem.lookup (wpAny_getItem_heap (k:=[c,d]) hu (Ep I i) f ef ⟨r,H,I.tok _,b,q⟩) m
end
structure xq (P:ZJ) (w:U0) (K:b0) (mg:ZR->Option ZG) (base:ZM) (x:ZR) (ps:List ZR) (k:Nat) (sp:Sp):Prop where
 ex :∃f fd,fI P w K mg base CX0 k f fd ps sp/\mg x=some (.ref f)/\Q3 K (.ref f)=true/\Binds K fd ps []
variable {e:ZN} {es:List ZN} {t:TA}
section
variable {k:Nat} {p:ZP}
def aB (c:xq X.prog X.w X.K X.mg X.base x ps k sp) (hr:bQ k X.A) (hg:Gl X x) (ha:PA X (e :: es) t) (hn:x≠"__name__":=by decide) (hdb:(x == ("__debug__" : ZR))=false:=by decide)
  (he:N1 (e :: es) X.env=(false,O3 e X.env) :: N1 es X.env:=by rfl) (hpl:(J4 pos (N1 es X.env)).any (·.1)=false:=by rfl):PE X (.Call (.Name x p) (e :: es) [] pos) (oo sp [] E0 t):=by
 obtain ⟨f,g,F,a,d,b⟩:=c.ex;exact Ls F hr hg a d b .nil ir ha hdb he hpl
end
structure TX (K:b0) (mg:ZR->Option ZG):Prop where
 of :∀{n:ZR} {v:ZG},B7 K K3 n=some (some v)->mg n=some v
 no :∀{n:ZR},B7 K K3 n=some none->mg n=none
def TX.mk' (X:K.In h) (G:h.Ns K3 mg):TX K mg:=⟨λ e=>PySem.W.mg_of X G e,λ e=>PySem.W.mg_none_of X G e⟩
section
def uJ (K:b0):R2:=λ x y H Q=>oW (λ i j=>.int (i + j)) x y H Q\/(∃i j,x=.str i/\y=.str j/\i.length + j.length<=ZF/\Q (.str (i++j)) H)\/uj x y H Q\/kP K x y H Q
def ei:eA X (z5 .Add) (uJ X.K):=qM.or (j_.or (q_.or vz))
def bP:eA X (V2 .Eq) IF:=vp
def nO:eA X (V2 .NotEq) DB:=uK
def jG:cc X (.builtin "len") (λ xs H Q=>(∃p ys,xs=[.ref p]/\(aK X.K H p ys\/aH X.K H p ys)/\Q (.int ys.length) H)\/∃z,xs=[.str z]/\z.length<=ZF/\Q (.int z.length) H):=iH.or RN
end
noncomputable def iU (x:V) (g:Int):Bool:=match x with
 | .int i=>decide (-g<=i) && decide (i<=g)
 | _=>false
noncomputable def cW (H:Hp) (x:V):Option (List V):=match x with
 | .ref a=>(match H a with|some (.tup xs)=>some xs|_=>none)
 | _=>none
def Ks {x:V} (t:bz H x T) (e:af H H'):cW H' x=cW H x:=by
 cases x with
 | ref a=>rcases t with ⟨⟨b,h⟩,_⟩|⟨⟨b,h⟩,_⟩|⟨⟨b,h⟩,_⟩<;>(unfold cW;dsimp only;rw [h,e a _ h])
 | _=>rfl
def bz.same {x:V} (t:bz H x T) (e:af H H'):bz H' x T:=by
 cases x with
 | ref a=>
  rcases t with ⟨⟨b,h⟩,z⟩|⟨⟨b,h⟩,z⟩|⟨⟨b,h⟩,z⟩
  ·exact .inl ⟨⟨b,e a _ h⟩,z⟩
  ·exact .inr (.inl ⟨⟨b,e a _ h⟩,z⟩)
  ·exact .inr (.inr ⟨⟨b,e a _ h⟩,z⟩)
 | _=>exact t
def bz.tuple {x:V} (t:bz H x "tuple") :∃a xs,x=.ref a/\H a=some (.tup xs):=by
 cases x with
 | ref a=>
  rcases t with ⟨_,z⟩|⟨⟨xs,h⟩,_⟩|⟨_,z⟩
  ·exact ZV z (by decide)
  ·exact ⟨a,xs,rfl,h⟩
  ·exact ZV z (by decide)
 | non=>exact ZV (show "tuple" = "NoneType" from t) (by decide)
 | bl b=>exact ZV (show "tuple" = "bool" from t) (by decide)
 | int i=>exact ZV (show "tuple" = "int" from t) (by decide)
 | str z=>exact ZV (show "tuple" = "str" from t) (by decide)
 | _=>exact t.elim
def bz.int {x:V} (t:bz H x "int") :∃i,x=.int i:=by
 cases x with
 | ref a=>rcases t with ⟨_,z⟩|⟨_,z⟩|⟨_,z⟩<;>exact ZV z (by decide)
 | non=>exact ZV (show "int" = "NoneType" from t) (by decide)
 | bl b=>exact ZV (show "int" = "bool" from t) (by decide)
 | int i=>exact ⟨i,rfl⟩
 | str z=>exact ZV (show "int" = "str" from t) (by decide)
 | _=>exact t.elim
def bz.str {x:V} (t:bz H x "str") :∃z,x=.str z:=by
 cases x with
 | ref a=>rcases t with ⟨_,z⟩|⟨_,z⟩|⟨_,z⟩<;>exact ZV z (by decide)
 | non=>exact ZV (show "str" = "NoneType" from t) (by decide)
 | bl b=>exact ZV (show "str" = "bool" from t) (by decide)
 | int i=>exact ZV (show "str" = "int" from t) (by decide)
 | str z=>exact ⟨z,rfl⟩
 | _=>exact t.elim
def tS {x:V} (t:bz H x T) (h:T≠"int") (g:Int):iU x g=false:=by
 cases x with
 | int i=>exact ZV t h
 | _=>rfl
def wL {x:V} (t:bz H x T) (h:T≠"tuple"):cW H x=none:=by
 cases x with
 | ref a=>
  rcases t with ⟨⟨b,e⟩,_⟩|⟨_,z⟩|⟨⟨b,e⟩,_⟩
  ·unfold cW;dsimp only;rw [e]
  ·exact ZV z h
  ·unfold cW;dsimp only;rw [e]
 | _=>rfl
def xx {x:V} (t:bz H x T) {C:String} (h:C≠"int"):iA T C=decide (T=C):=by
 unfold iA;have:(C == "int")=false:=by simpa using h
 rw [this,Z7,Bool.or_false,Bool.beq_eq_decide_eq]
def Flat (H:Hp) (x:V):Prop:=∀xs,cW H x=some xs->xs.length<=1000/\∀y∈xs,∃T,bz H y T
def QL {α β:Type} [BEq α] [LawfulBEq α] {l:List (α×β)} {a:α} {b:β} (h:l.lookup a=some b):(a,b)∈l:=by
 induction l with
 | nil=>cases h
 | cons p r ih=>
  obtain ⟨c,d⟩:=p;rw [U4] at h;cases hc:(a == c) with
  | true=>rw [hc] at h;cases h;rw [eq_of_beq hc];exact R0
  | false=>rw [hc] at h;exact W0 _ (ih h)
def Nu {names:List (ZR×u6)} {Q:ZR×u6->Prop} (h:(names.all λ y=>y.2 != Z1)=true) :∀y∈names,y.2=Z1->Q y:=λ y a e=>by have:=List.all_eq_true.mp h y a;rw [e] at this;exact ZV this (by decide)
variable {o:HO}
def af.upd (h:H p=none):af H (upd H p o):=λ b u e=>by rw [ak (fM e h)];exact e
def af.seqT (e:af H H') (h:aH K H a xs):aH K H' a xs:=by
 rcases h with (h|⟨o,h⟩)|h
 ·exact .inl (.inl (e _ _ h))
 ·exact .inl (.inr ⟨o,e _ _ h⟩)
 ·exact .inr h
def Sd {x:V} (h:cW H x=some xs) :∃a,x=.ref a/\H a=some (.tup xs):=by
 unfold cW at h;cases x with
 | ref a=>
  dsimp only at h;split at h
  ·rename_i ys e;exact ⟨a,rfl,by rw [e,A1 h]⟩
  ·cases h
 | _=>cases h
open Builtin.Str (occurrences partsBetween strKind)
section
def Hi {vl:ZG} {lo:Option Int} (p:j26 vl lo) :∃l:Option (Int×Tok),vl=partValue l/\l.map (·.1)=lo:=by
 cases p with
 | none=>exact ⟨none,rfl,rfl⟩
 | int i t=>exact ⟨some (i,t),rfl,rfl⟩
end
section
def nV:V->Option Int->Option Int->Hp->VK->Prop:=λ x lo hi H Q=>∃z,x=.str z/\z.length<=ZF/\Q (.str (Txt.slice z lo hi)) H
def qh:nW X nV:=by
 intro o s σ H x v m j n p r Q I d f g e h;obtain ⟨z,rfl,c,q⟩:=h;obtain ⟨t,rfl⟩:=d;obtain ⟨l,rfl,a⟩:=Hi g;obtain ⟨u,rfl,i⟩:=Hi e;subst a i;refine ⟨"str",_,F.slot_str_getitem.lookup,typeIs_str _ _ _,wpAny_getItem_str_slice (l:=l) (u:=u) (st:=none) f rfl
  (post_val_or_str ⟨D0 (Txt.slice_le z _ _) c,λ b k=>⟨.str (Txt.slice z _ _),H,I.tok k,⟨b,rfl⟩,q⟩⟩)⟩
def fP:nW X (λ x lo hi H Q=>nH X.K x lo hi H Q\/og X.K x lo hi H Q\/nV x lo hi H Q):=nS.or (qt.or qh)
def Pd:cc X (.type "int") (λ xs H Q=>∃z n,xs=[.str z]/\PySem.intText? z=some n/\z.length<=640/\Q (.int n) H):=by intro d s σ H xs c Q I r h;obtain ⟨z,n,rfl,a,b,q⟩:=h;obtain ⟨u,rfl,t,rfl⟩:=vals1 r;exact PySem.W.KIN.call_text a b ⟨.int n,H,I.tok _,⟨_,rfl⟩,q⟩
def Bm:cc X (.type "int") (λ xs H Q=>((∃i,xs=[.int i]/\Q (.int i) H)\/∃k,xs=[.bl k]/\Q (.int (if k then 1 else 0)) H)\/∃z n,xs=[.str z]/\PySem.intText? z=some n/\z.length<=640/\Q (.int n) H):=kW.or Pd
end
def vf (H:Hp) (r:ZS):Prop:=∃a b c:Int,H r=some (.lst [.int a,.int b,.int c])/\0<=c/\c < 536870909
def Kept (r:ZS) (H H':Hp):Prop:=∀b o,b≠r->H b=some o->H' b=some o
variable {r:ZS}
def Kept.refl:Kept r H H:=λ _ _ _ h=>h
def Kept.trans {H2:Hp} (a:Kept r H H1) (b:Kept r H1 H2):Kept r H H2:=λ c o n h=>b c o n (a c o n h)
def af.kept (s:af H H'):Kept r H H':=λ b o _ h=>s b o h
def Kept.set:Kept r H (upd H r o):=λ b u n h=>by rw [ak n];exact h
structure Rw (r:ZS) (H H':Hp):Prop where
 k:Kept r H H'
 r:vf H' r
theorem eT {α:Type} {xs:List α} {t:Int} (h0:0<=t) (h1:t < xs.length) :∃v,oq xs t=some v/\v∈xs:=by
 have a:t.toNat < xs.length:=by lia
 refine ⟨xs[t.toNat],?_,i6 a⟩;have:=bG (xs:=xs) (j:=t.toNat) (v:=xs[t.toNat]) (by simp [a]);rw [Int.toNat_of_nonneg h0] at this;exact this
variable {i:Nat}
section
variable {H0:Hp} 
def aF {v:V} {Q:St->Hp->Prop} (h:Q (σ.set i (some v)) H):bh i v σ H Q:=h
def dh {nx ct bk:St->Hp->Prop} {rt:VK} (h:nx σ H):Ends.nx { nx:=nx,rt:=rt,bk:=bk,ct:=ct } σ H:=h
def rH {nx ct bk:St->Hp->Prop} {rt:VK} (h:nx σ H):mR { nx:=nx,rt:=rt,bk:=bk,ct:=ct } σ H:=h
end
variable {E Q:ZG->A0->Prop} {it:ZS}
section
def vc {t:ZS} {its:Array ZG} {x:ZG} (a:s.heap.IsTupleIter it t i) (b:s.heap.IsTuple t its) (c:its[i]? = some x)
  (q :∀h',h'.IsTupleIter it t (i + 1)->O6 it s.heap h'->Q x { s with heap:=h' }):V0 (F1 prog w) A (c5 (.ref it)) Q E s:=by
 obtain ⟨o,e,f,d⟩:=id a;obtain ⟨p,g,_,n,h⟩:=b;unfold c5;refine d0 (u5 (name:=u9 "__next__") a.typeIs o6 (B3 o6 a.typeIs j41 (show V0 _ _ (field (.ref it) 0 >>= _) _ _ s from d0 (P7 e d (x:=.ref t) rfl ?_)) (j3c _)));show V0 _ _ (if (E1 t == Value.none)=true then _ else (field (.ref it) 1 >>= _)) _ _ s;rw [Z_ (by exact O0)];refine d0 (P7 e d (x:=.int i 0) rfl (show V0 _ _ (seqItems? (.ref t) >>= _) _ _ s from d0 (j4j g h ?_)));simp only [S6,c];refine d0 (j10 e d (by simp) (L0 ⟨x,rfl,L0 (q _ ⟨_,K9 _ e (Obj.isFreed_of_fields (Obj.data_mapFields d _)),(Obj.cls_mapFields ..).trans f,?_⟩ (G5 ..))⟩));rw [Obj.data_mapFields d];simp [j37]
def rT {t:ZS} {its:Array ZG} (hh:A.handled=none) (a:s.heap.IsTupleIter it t i) (b:s.heap.IsTuple t its) (c:its[i]? = none)
  (q :∀h' e,Heap.ExtBut it s.heap h'->(∃o,h'.get? e=some o/\o.cls=.type "StopIteration")->E (.ref e) { s with heap:=h' }):V0 (F1 prog w) A (c5 (.ref it)) Q E s:=by
 obtain ⟨o,d,j,f⟩:=id a;obtain ⟨p,g,_,n,h⟩:=b;unfold c5;refine d0 (u5 (name:=u9 "__next__") a.typeIs o6 (B3 o6 a.typeIs j41 (show V0 _ _ (field (.ref it) 0 >>= _) _ _ s from d0 (P7 d f (x:=.ref t) rfl ?_)) (j3c _)));show V0 _ _ (if (E1 t == Value.none)=true then _ else (field (.ref it) 1 >>= _)) _ _ s;rw [Z_ (by exact O0)];refine d0 (P7 d f (x:=.int i 0) rfl (show V0 _ _ (seqItems? (.ref t) >>= _) _ _ s from d0 (j4j g h ?_)));simp only [S6,c];refine d0 (wpAny_rule (d0 (j10 d f (by simp) (show V0 _ _ (newExc (.type "StopIteration") [] >>= _) _ _ _ from d0 ?_))));simp only [newExc,newTuple];refine d0 (J3 (d0 (m:=j12 _ _) (wpAny_of_eq (a:=Value.none) (by first|rfl|(simp only [j12];rfl)) (J3 ?_ (by size_fits)))) (by size_fits));simp only [raiseNew];refine d0 (wpAny_handled ?_);first|rw [show A.in1.handled=none from hh]|rw [hh]
 exact d0 (L0 (wpAny_throw (q _ _ (((G5 ..).extBut.push _).push _) ⟨_,Z0 _ rfl,rfl⟩)))
structure Cy (z T U i j a b:ZS):Prop where
 dis:[z,T,U,i,j].Nodup
 fa:a∉[z,T,U,i,j]
 fb:b∉[z,T,U,i,j]
structure Se (h:ZM) (z T U i j a b:ZS) (n:Nat) (f:ZG):Prop where
 z:IsZip h z T U f
 t:IsPair h T (.ref i) (.ref j)
 u :∃p q,IsPair h U p q
 i:h.IsTupleIter i a n
 j:h.IsTupleIter j b n
end
inductive Dt where
 | non|bl (b:Bool)|int (i:Int)|str (z:ZR)|tup (ds:List Dt)
mutual
noncomputable def bV (K:b0) (H:Hp):Dt->V->Prop
 | .non,v=>v=.non
 | .bl b,v=>v=.bl b
 | .int i,v=>v=.int i
 | .str z,v=>v=.str z
 | .tup ds,v=>∃a xs,v=.ref a/\aH K H a xs/\dW K H ds xs
noncomputable def dW (K:b0) (H:Hp):List Dt->List V->Prop
 | [],xs=>xs=[]
 | d :: ds,xs=>∃x r,xs=x :: r/\bV K H d x/\dW K H ds r
end
mutual
theorem bV.same' {K:b0} {H H':Hp} (s:af H H') :∀(d:Dt) (v:V),bV K H d v->bV K H' d v
 | .non,v,h=>h
 | .bl b,v,h=>h
 | .int i,v,h=>h
 | .str z,v,h=>h
 | .tup ds,v,h=>by obtain ⟨a,c,rfl,e,r⟩:=h;exact ⟨a,c,rfl,s.seqT e,dW.same' s ds c r⟩
theorem dW.same' {K:b0} {H H':Hp} (s:af H H') :∀(d:List Dt) (v:List V),dW K H d v->dW K H' d v
 | [],xs,h=>h
 | d :: ds,xs,h=>by obtain ⟨x,r,rfl,a,b⟩:=h;exact ⟨x,r,rfl,bV.same' s d x a,dW.same' s ds r b⟩
end
def bV.same {d:Dt} {v:V} (h:bV K H d v) (s:af H H'):bV K H' d v:=bV.same' s d v h
def dW.mk2 {d e:Dt} {x y:V} (a:bV K H d x) (b:bV K H e y):dW K H [d,e] [x,y]:=⟨x,[y],rfl,a,y,[],rfl,b,rfl⟩
def bV.mkT {ds:List Dt} (h:H p=some (.tup xs)) (r:dW K H ds xs):bV K H (.tup ds) (.ref p):=⟨p,xs,rfl,aH.of h,r⟩
mutual
noncomputable def Dt.deep:Dt->Nat
 | .tup ds=>Dt.deeps ds + 1
 | _=>0
noncomputable def Dt.deeps:List Dt->Nat
 | []=>0
 | d :: ds=>max d.deep (Dt.deeps ds)
noncomputable def Dt.plain:Dt->Bool
 | .int _=>true
 | .str _=>true
 | .tup ds=>Dt.plains ds
 | _=>false
noncomputable def Dt.plains:List Dt->Bool
 | []=>true
 | d :: ds=>d.plain && Dt.plains ds
end
variable {fp:List ZS} {h':ZM}
section
def Qw {p:ZP} (tb:ZS->Sp->Prop) (hN:X.N[i]? = some x) (hv:wY X.env.scope x)
  (G :∀f sp,tb f sp->∃k fd ps,fI X.prog X.w X.K X.mg X.base CX0 k f fd ps sp/\bQ k X.A/\Q3 X.K (.ref f)=true/\Binds X.K fd ps [])
  (ha:PA X (e :: es) t) (hd:(x == ("__debug__" : ZR))=false:=by decide) (hcd:(x == ("__classdict__" : ZR))=false:=by decide)
  (he:N1 (e :: es) X.env=(false,O3 e X.env) :: N1 es X.env:=by rfl) (hpl:(J4 pos (N1 es X.env)).any (·.1)=false:=by rfl) :
  PE X (.Call (.Name x p) (e :: es) [] pos) (λ σ H Q=>∃f sp,σ[i]? = some (some (.ref f))/\tb f sp/\t σ H λ vs H1=>sp vs H1 Q E0):=by
 intro a s σ H Q I h;obtain ⟨f,sp,m,c,h⟩:=h;obtain ⟨k,fd,ps,F,g,d,j⟩:=G f sp c;refine Q6 (bb (mY hN hv hd hcd a s σ H (λ v b=>v=.ref f/\b=H) I ⟨_,m,rfl,rfl⟩) λ u l zz=>?_);obtain ⟨v,H0,I0,r0,ev,eH⟩:=zz;subst ev eH;obtain rfl:u=E1 f:=r0;refine L7 (h₀:=X.base) I0.ok.mod.kin d (bb (ha pos a l σ _ _ I0 h) λ n o ⟨vs,H1,I1,r,q⟩=>⟨I1.kIn,?_⟩) he hpl;exact jU F g j .nil ir I1 r (by rw [D2];exact q)
def Inv.turnedL {t':Nat} (I:Inv X pins σ H s) (k :∀b o,b∉fp->s.heap.get? b=some o->h'.get? b=some o) (hf :∀b∈fp,iN X pins H b) :
  Inv X pins σ H { s with heap:=h',toks:=t' }:=by
 have f :∀b u,H b=some u->b∉fp:=λ b u e z=>by have:=(hf b z).1;rw [this] at e;cases e
 refine I.step (g':=s.gens) (d':=s.drawn) (ch:=fp) (λ b d=>⟨(hf b d).2.2.2.1,(hf b d).2.1,(hf b d).2.2.2.2.1,(hf b d).2.2.2.2.2⟩) (λ b o _ _ a e _=>k b o a e) (λ b o _ _ a e _=>⟨o.slots,k b o a e⟩) (λ _ _ _ _ n=>n)
  (λ b o a e=>⟨o,k b o a e⟩) (λ _ _ e=>e) (λ _ _ _ e=>e) (λ b l e=>⟨#[],by rw [e];simp⟩) (λ m h=>?_) (λ b u e=>?_) I.bare
 ·obtain ⟨o,g,i,j,r⟩:=h;exact ⟨o,g,i,k _ o (λ z=>(hf _ z).2.1 rfl) j,r⟩
 ·refine (I.hok b u e).stay (λ c v a q=>k c v ?_ q) (λ _ q=>q) λ _ _ q=>q;rcases a with z|z
  ·rw [z];exact f b u e
  ·exact f c _ z
def Inv.turnedLaid {t':Nat} (I:Inv X pins σ H s) (k :∀b o,b∉fp->s.heap.get? b=some o->h'.get? b=some o) (hf :∀b∈fp,iN X pins H b)
  (hp:s.heap.objs.size<=a) (new:br X.prog X.w (upd H a o) h' a o):Inv X pins σ (upd H a o) { s with heap:=h',toks:=t' }:=by
 have p:H a=none:=I.hok.fresh hp;have h :∀b u,H b=some u->b∉fp:=λ b u e z=>by have:=(hf b z).1;rw [this] at e;cases e
 have g :∀b u,H b=some u->upd H a o b=some u:=λ b u e=>by rw [ak (fM e p)];exact e
 refine I.step (g':=s.gens) (d':=s.drawn) (ch:=fp) (λ b d=>⟨(hf b d).2.2.2.1,(hf b d).2.1,(hf b d).2.2.2.2.1,(hf b d).2.2.2.2.2⟩) (λ b o _ _ f e _=>k b o f e) (λ b o _ _ f e _=>⟨o.slots,k b o f e⟩)
  (λ b u _ e n=>by rw [ak (λ z=>by subst z;exact ZV (S0 e) (Nat.not_lt.mpr hp))];exact n)
  (λ b o f e=>⟨o,k b o f e⟩) (λ _ _ e=>g _ _ e) (λ _ _ _ e=>g _ _ e) (λ b x e=>⟨#[],by rw [g _ _ e];simp⟩) (λ m l=>?_) (λ b u e=>?_) I.bare
 ·obtain ⟨o,i,j,t,r⟩:=l;exact ⟨o,i,j,k _ o (λ z=>(hf _ z).2.1 rfl) t,r⟩
 ·by_cases d:b=a
  ·subst d;rw [ab] at e;cases e;exact new
  ·rw [ak d] at e;refine (I.hok b u e).stay (λ c v f q=>k c v ?_ q) (λ c q=>g _ _ q) λ c y q=>g _ _ q;rcases f with z|z
   ·rw [z];exact h b u e
   ·exact h c _ z
def Iw:eA X (z5 .Add) (λ x y H Q=>∃a b ys,x=.ref a/\y=.ref b/\aH X.K H a []/\aH X.K H b ys/\Q (.ref b) H):=by intro F s σ H x y v u Q I o l h;obtain ⟨a,b,ys,rfl,rfl,j,z,q⟩:=h;cases o;cases l;obtain ⟨E,w,k,_⟩:=I.tuple j;obtain ⟨r,M,n,_⟩:=I.tuple z;cases w;obtain ⟨⟨L,m,G,B⟩,e,f,C,d⟩:=id k;obtain ⟨⟨J,t,D,A⟩,i,c,p,g⟩:=id n;simp only at f d c g;subst f d c g;exact concat_meets ⟨_,e,rfl⟩ ⟨_,i,rfl⟩ j38 seq_tuple_add N8 u8 (c8 _ _) (tuple_addW0 a b ([]:List ZG).toArray r.toArray C p m t B A (by simp)) ⟨e,i,⟨.ref b,H,I,rfl,q⟩⟩
def kq (K:b0):R2:=λ x y H Q=>∃a b xs ys,x=.ref a/\y=.ref b/\aH K H a xs/\aH K H b ys/\ys≠[]/\xs.length + ys.length<=ZF/\∀p H',af H H'->aH K H' p (xs++ys)->Q (.ref p) H'
def eP:eA X (z5 .Add) (kq X.K):=by
 intro g s σ H x y v u Q I j f h;obtain ⟨a,b,c,i,rfl,rfl,e,d,m,l,q⟩:=h;cases c with
 | nil=>exact Iw g s σ H _ _ v u Q I j f ⟨a,b,i,rfl,rfl,e,d,q b H (af.refl H) d⟩
 | cons x c=>exact vz g s σ H _ _ v u Q I j f ⟨a,b,x :: c,i,rfl,rfl,e,d,by simp,l,λ z=>ZV z m,λ _ p k=>q p _ (af.upd k) (aH.of ab)⟩
def nC {o:ZN} {to:TE} {apos cpos:ZP} (ho:PE X o to) (ha:PA X (e :: es) t)
  (hbase:u4 o "append" X.env (O3 o X.env)=O3 o X.env:=by rfl)
  (hfew:((J4 cpos (N1 (e :: es) X.env)).all (λ x=>!x.1) && (N9 cpos (V6 [] X.env)).all (λ x=>x.1.isSome)
   && decide ((e :: es).length + ([]:List A6).length + (if ([]:List A6).isEmpty then 0 else 1) < 30))=true:=by rfl)
  (hline:(apos.endLine == cpos.line)=true:=by rfl) (hs:N1 (e :: es) X.env=(false,O3 e X.env) :: N1 es X.env:=by rfl) (hplain:(J4 cpos (N1 es X.env)).any (·.1)=false:=by rfl) :
  PE X (.Call (.Attribute o "append" apos) (e :: es) [] cpos) (sN X.K "list" HY to t):=kO O4 PySem.F.slot_list_append PySem.F.type_list_append NX ho ha hbase hfew hline hs hplain
end
def aL (L:List ZS) (H H':Hp):Prop:=∀b o,b∉L->H b=some o->H' b=some o
variable {L:List ZS}
def aL.refl:aL L H H:=λ _ _ _ h=>h
def aL.trans {H2:Hp} (a:aL L H H1) (b:aL L H1 H2):aL L H H2:=λ c o n h=>b c o n (a c o n h)
def af.keptL (s:af H H'):aL L H H':=λ b o _ h=>s b o h
def aL.set (h:l∈L):aL L H (upd H l o):=λ b u n e=>by rw [ak (λ z=>n (by rw [z];exact h))];exact e
mutual
theorem bV.mono' {K:b0} {H H':Hp} (s :∀a xs,aH K H a xs->aH K H' a xs) :∀(d:Dt) (v:V),bV K H d v->bV K H' d v
 | .non,v,h=>h
 | .bl b,v,h=>h
 | .int i,v,h=>h
 | .str z,v,h=>h
 | .tup ds,v,h=>by obtain ⟨a,xs,rfl,e,r⟩:=h;exact ⟨a,xs,rfl,s _ _ e,dW.mono' s ds xs r⟩
theorem dW.mono' {K:b0} {H H':Hp} (s :∀a xs,aH K H a xs->aH K H' a xs) :∀(d:List Dt) (v:List V),dW K H d v->dW K H' d v
 | [],xs,h=>h
 | d :: ds,xs,h=>by obtain ⟨x,r,rfl,a,b⟩:=h;exact ⟨x,r,rfl,bV.mono' s d x a,dW.mono' s ds r b⟩
end
def aH.wrote {zs:List V} (e:H l=some (.lst zs)) (h:aH K H a xs):aH K (upd H l o) a xs:=by
 rcases h with (h|⟨ob,h⟩)|h
 ·exact .inl (.inl (by rw [ak (iy h e (by intro z;cases z))];exact h))
 ·exact .inl (.inr ⟨ob,by rw [ak (iy h e (by intro z;cases z))];exact h⟩)
 ·exact .inr h
section
def JB {v:ZG} (hn:ns.length < 64)
  (hc :∀R:List ZG->A0->Prop,(∀h' tk vs,(∀b o,s.heap.get? b=some o->h'.get? b=some o)->j02 vs ns->R vs { s with heap:=h',toks:=tk })->V0 (F1 prog w) A.in1 (collect v) R E s)
  (h :∀(h1 h':ZM) (tk:Nat) (out:Array ZG) (ns':List Int) (e:Nat),(∀b o,s.heap.get? b=some o->h1.get? b=some o)->(∀b o,h1.get? b=some o->h'.get? b=some o)->h'.get? h1.objs.size=some { cls:=.type "list",data:=.seq out e }->j02 out.toList ns'->ns'.Perm ns->ns'.Pairwise (·<=·)->Q (.ref h1.objs.size) { s with heap:=h',toks:=tk }) :
  V0 (F1 prog w) A (call (.builtin "sorted") [v]) Q E s:=by
 refine i8 kind_sorted plain_sorted entry_sorted (args_sorted1 _) ?_;unfold j1c.«sorted»;refine d0 (m:=checkCount "sorted" 1 1 _) (L0 (d0 (hc _ λ h1 tk vs g d=>?_)));have f:vs.length < 64:=by rw [d.length];exact hn
 refine d0 (j1h ?_ (D0 (T3 f) (by decide)));have a:(h1.push (a8 "list" vs.toArray 0)).get? h1.objs.size=some (a8 "list" vs.toArray 0):=Z0 _ rfl;refine d0 (Z4 (B3 j52 ⟨_,a,rfl⟩ j45 (list_sort_tree a d f λ out ns' l j i=>⟨_,rfl,?_⟩) (j56 _)));obtain ⟨e,k⟩:=sortedHeap_at (out:=out) a;refine L0 ⟨_,rfl,h h1 _ tk out ns' e g (λ b o c=>?_) k l j i⟩;have lt:=S0 c;refine (sortedHeap_old (G1 lt) ?_).trans (F0 _ c);rw [size_push'];exact K2 lt
end
section
def AH (ns:List Int) (H:Hp) (Q:VK):Prop:=∀(l:ZS) (ns':List Int),H l=none->ns'.Perm ns->ns'.Pairwise (·<=·)->Q (.ref l) (upd H l (.lst (ns'.map V.int)))
def Mh {Q:VK} {h1:ZM} {tk:Nat} {out:Array ZG} {ns':List Int} {e:Nat} (I:Inv X pins σ H s) (hn:ns.length < 64) (q:AH ns H Q)
  (k1 :∀b o,s.heap.get? b=some o->h1.get? b=some o) (k2 :∀b o,h1.get? b=some o->h'.get? b=some o) (g:h'.get? h1.objs.size=some { cls:=.type "list",data:=.seq out e }) (i:j02 out.toList ns') (p:ns'.Perm ns) (r:ns'.Pairwise (·<=·)) :
  EP X pins σ Q (.ref h1.objs.size) { s with heap:=h',toks:=tk }:=by
 have a:Inv X pins σ H { s with heap:=h1 }:=I.kept (t':=s.toks) k1;refine ⟨.ref h1.objs.size,_,a.laid (t':=tk) (o:=.lst (ns'.map V.int)) k2 (u0 _) ⟨?_,out.toList,e,Bz i,by simpa using g⟩,rfl,q _ ns' (a.hok.fresh (u0 _)) p r⟩;rw [C0,p.length_eq];exact D0 (T3 hn) (by decide)
def yo:cc X (.builtin "sorted") (λ xs H Q=>∃a ns,xs=[.ref a]/\(aK X.K H a (ns.map V.int)\/aH X.K H a (ns.map V.int))/\ns.length < 64/\AH ns H Q):=by
 intro D s σ H xs E Q I r h;obtain ⟨a,ns,rfl,b,v,q⟩:=h;obtain ⟨u,rfl,z⟩:=vals1 r;cases z;refine JB v (λ R w=>?_) λ F d B C G e y A g i p r=>Mh I v q y A g i p r;rcases b with b|b
 ·obtain ⟨x,c,t,j⟩:=I.list b;obtain ⟨o,l,m,n,f⟩:=t.isList;exact wpAny_collect_seq a (.inl rfl) l m f (λ d k=>w d s.toks _ k (by simpa using IA c)) (by rw [N0,<-c.length];exact j)
 ·obtain ⟨x,c,t,j⟩:=I.tuple b;obtain ⟨o,l,m,n,f⟩:=t;exact wpAny_collect_seq a (.inr rfl) l m f (λ d k=>w d s.toks _ k (by simpa using IA c)) (by rw [N0,<-c.length];exact j)
end
def bw {c A:Prop} [Decidable c] (hc:c) (h:A):if c then A else B:=by rw [ZZ hc];exact h
def bM {c A:Prop} [Decidable c] (hc:¬ c) (h:B):if c then A else B:=by rw [Z_ hc];exact h
def sM (i:Int) (ns:List Int):lg (.int i) (ns.map V.int)=decide (i∈ns):=by
 unfold lg;rw [j4g,Bool.eq_iff_iff,b7,decide_eq_true_eq];constructor
 ·rintro ⟨x,hx,e⟩;have e:(x == i)=true:=e;rw [beq_iff_eq] at e;exact e ▸ hx
 ·intro h;exact ⟨i,h,by show (i == i)=true;simp⟩
def tD (ns:List Int):(ns.map V.int).all fh=true:=by rw [c7];intro x a;obtain ⟨i,_,rfl⟩:=List.mem_map.mp a;rfl
def Sh {names:List (ZR×u6)} {n:ZR} {Q:ZR×u6->Prop} (h:(names.all λ y=>y.2 != Z1 || y.1 == n)=true) (q :∀k,Q (n,k)) :∀y∈names,y.2=Z1->Q y:=λ y c e=>by
 have:=List.all_eq_true.mp h y c;rw [e] at this;have:(y.1 == n)=true:=by simpa using this
 obtain ⟨a,b⟩:=y;rw [beq_iff_eq] at this;have:a=n:=this;subst this;exact q b
noncomputable def oh (P:ZJ) (w:U0) (base:ZM):oa:=λ outer H s E e s'=>∃(ea:ZS) (cls a0:ZG) (B:ZM) (H':Hp),e=.ref ea/\s'.os=s.os/\d9 s'.gens/\Un (jg outer) [] H H' s.heap s'.heap/\fN P w H' s'.heap/\H' ea=none/\
 base.StaysIn B/\Heap.FlyingW B outer ea cls a0 s'.heap/\(∀b o,s'.heap.get? b=some o->b∉jg outer->((∃u,H' b=some u)\/∃u,s.heap.get? b=some u)->B.get? b=some o)/\E cls none H'
def l_:fT (oh X.prog X.w X.base) X E0:=by intro _ _ _ _ _ _ _ h;obtain ⟨_,_,_,_,_,_,_,_,_,_,_,_,_,_,z⟩:=h;exact z.elim
def PS.nox {t:TS} (h:PS X.nox st t):PS X st t:=λ b s σ H D I a=>G3 (h b s σ H D (I.wish _) a) (λ _ _ q=>q.unwish) λ _ _ z=>y4 z
section
variable {base:ZM} {cd:ZG} {outer:List Env} {E:XK}
def cE.okE {k:Nat} (F:cE K x qual st f fd) (S:ay N ps (ck st)) (len :∀vs H Q E,sp vs H Q E->vs.length=ps.length)
  (hbody :∀(cdv:ZG) (A:B2) (outer:List Env) (s:A0) (H:Hp) (vs:List V) (Q:VK) (E:XK),bQ k (A.deeper (Y9 qual (ck st) s.heap.objs.size f cdv))->sp vs H Q E->
   ∃t,jI (ke (oh P w base) P w K mg base N qual (ck st) f cdv A outer s H E) (pH st) t/\t { nx:=λ _ H'=>Q .non H',rt:=Q } (start N vs) H):fI P w K mg base (oh P w base) (k + 1) f fd ps sp:=by
 obtain ⟨g,e,kV,l,i,m,cdv,j,h,rfl,c,b⟩:=F.ex;exact oS c b S len λ A outer s H vs Q E d a=>hbody cdv A outer s H vs Q E d a
end
structure zQ (P:ZJ) (w:U0) (K:b0) (mg:ZR->Option ZG) (base:ZM) (x:ZR) (ps:List ZR) (k:Nat) (sp:Sp):Prop where
 ex :∃f fd,fI P w K mg base (oh P w base) k f fd ps sp/\mg x=some (.ref f)/\Q3 K (.ref f)=true/\Binds K fd ps []
open PySem.W PySem.Calls PySem.Builtin PySem.Builtin.ObjectAttr PySem.Builtin.Getset_descriptor
noncomputable def aM (σ:St) (fr:List (Nat×ZR)) (us:List (Option V)):St:=us++fr.map λ p=>(σ[p.1]?).join
def cx (wi:TI) (n:Nat) (fr:List (Nat×ZR)) (g:TG) (tc:TT) (te:TE):TE:=λ σ H Q=>wi σ H λ J H1=>∃W:Nat->Nat->List V->Hp->Prop,(∃m,W 0 m [] H1)/\∀i m ys H,W i m ys H->
 (J.stop i H/\ys.length<=ZF/\∀p,H p=none->Q (.ref p) (upd H p (.lst ys)))\/
 (J.go i H/\ys.length<=ZF/\∀v H',J.yld i H v H'->g v (aM σ fr (X1 n none)) H' λ σ6 H6=>∃us,us.length=n/\σ6=aM σ fr us/\tc (aM σ fr us) H6 λ b H2=>if b=true then te (aM σ fr us) H2 λ y H3=>∃m',m' < m/\W (i + 1) m' (ys++[y]) H3 else∃m',m' < m/\W (i + 1) m' ys H2)
variable {elt iter tg:ZN} {fr:List (Nat×ZR)} {g:TG} {ifs:List ZN} {tc:TT} {te:TE} {wi:TI}
section
def QR {cl:List (ZR×ZS)} {C:ZS} {s₂:A0} {H₂:Hp} {px:ZP} (i:Nat) (hN:N.Nodup) (hi:N[i]? = some x) (hx:scope.names.lookup x=some .local):PG (cB X scope cl N C s₂ H₂ fp) (.Name x px) (bh i):=
 eY hN hi (.inl (lookup_relabel_local hx)) (.inr (lookup_relabel_local hx))
theorem EX {xs:List ZR} {use:Option (ZG->ZO Unit)} {QQ:ZG->A0->Prop} {Q:VK} {pp:ZP} (hcalm:X.calm=true) (hi:PI X tg iter wi)
  (hfr :∀p∈fr,X.N[p.1]? = some p.2/\(X.env.kindOf p.2=some .cell\/X.env.kindOf p.2=some .free))
  (hfree :∀y∈scope.names,y.2=Z1->X.env.kindOf y.1=some .cell\/X.env.kindOf y.1=some .free)
  (hfs :∀p∈fr,(p.2,Z1)∈scope.names/\((X8 scope X.env).names.lookup p.2=some .cell\/(X8 scope X.env).names.lookup p.2=some .free))
  (hcell :∀y∈scope.names,y.2≠NameKind.cell) (hkind:scope.kind=.function) (hnames :∀y∈scope.names,y.2=NameKind.local->scope.names.lookup y.1=some .local)
  (hg :∀cl C s₂ H₂ fp,PG (cB X scope cl (xs++fr.map (·.2)) C s₂ H₂ fp) tg g)
  (ht :∀cl C s₂ H₂ fp,PF (cB X scope cl (xs++fr.map (·.2)) C s₂ H₂ fp) ifs tc) (he :∀cl C s₂ H₂ fp,PE (cB X scope cl (xs++fr.map (·.2)) C s₂ H₂ fp) elt te)
  (hs :∀x,Z5 iter X.env x=W1 x) (I:Inv X pins σ H s) (h:cx wi xs.length fr g tc te σ H Q)
  (hend :∀(D:ZS) (s4:A0) (H4:Hp),Inv X pins σ H4 s4->(∃m,s4.heap.Ns (D + 1) m)->H4 (D + 1)=none->D + 1≠X.env.locals->X.s₀.heap.objs.size<=D + 1->(D + 1∉X.fs/\(∀x c,X.env.cells.lookup x=some c->c≠D + 1)/\∀p∈X.pn++pins,p.1≠D + 1)->Q (.ref D) H4->compPost (F1 X.prog X.w) X.A X.xe use QQ (.ref D) (D + 1) (.ok .next) s4) :
  V0 (F1 X.prog X.w) X.A (comprehension (.ListComp elt [⟨tg,iter,ifs,0⟩] scope pos) scope X.env pp (newList []) false (firstIter [⟨tg,iter,ifs,0⟩] X.env) use) QQ X.xe s:=by
 obtain ⟨cl,g1,U,b5⟩:=MA (scope:=scope) (env:=X.env) λ y R hk=>I.ok.has y.1 (hfree y R hk);refine wpAny_comprehension_free (use:=use) rfl hs g1 hkind hnames (bb (hi pins s σ H _ I h) λ xv s₁ h₁=>bb h₁ λ g2 s₂ h₂=>?_);obtain ⟨it,fp,tn,J,O,e,f,T,b7,L,W,⟨m0,w0⟩,e5⟩:=h₂;subst e
 -- the list that is filled,the block's names
 refine J3 (wpAny_newFunctionEnv hcell (by intro y R;simp at R) (λ h₁ a4 a1=>?_) hkind);dsimp only at a4 a1⊢;generalize hD:s₂.heap.objs.size=D at a4 a1⊢;generalize hG:s₂.heap.push { cls:=.type "list",dict:=none,data:=.seq ([]:List ZG).toArray }=G at a4 a1⊢;have hC:G.objs.size=D + 1:=by rw [<-hG,D4,hD]
 generalize hCC:G.objs.size=C at a4 a1 hC⊢;subst hC;have a7 :∀b∈fp,b < D:=λ b a=>by obtain ⟨o,e,_⟩:=T.obj _ _ b7 b a;rw [<-hD];exact S0 e
 have a2 :∀b o,s₂.heap.get? b=some o->h₁.get? b=some o:=λ b o e=>a1.extBut b o (G1 (K2 (by rw [<-hD];exact S0 e))) (F0 _ (hG ▸ F0 _ e));have f3:G.get? D=some { cls:=.type "list",dict:=none,data:=.seq ([]:List ZG).toArray }:=by rw [<-hG,<-hD];exact Z0 _ rfl
 have d6:h₁.PlainList D #[]:=⟨0,a1.extBut _ _ (G1 (S2 D)) (F0 _ f3)⟩
 have f6 :∀y c,cl.lookup y=some c->c < D:=λ y c e=>by obtain ⟨v,q⟩:=f.cell y c (U y c e);rw [<-hD];exact q.lt
 have g0 :∀b∈jg X.stack,b < D:=λ b a=>by
  rcases List.mem_cons.mp (f.stkSub b a) with e|a
  ·rw [e,<-hD];exact f.lt
  ·rw [<-hD];exact Nat.lt_of_not_le λ z=>f.nofs z a
 have c5 :∀b∈fp,b∉jg X.stack:=λ b a d8=>by
  rcases List.mem_cons.mp (f.stkSub b d8) with e|z
  ·exact (L b a).2.1 e
  ·exact (L b a).2.2.1 z
 generalize hX':cB X scope cl (xs++fr.map (·.2)) (D + 1) s₂ O fp=X';have d5:X'.Ok:=by
  subst hX';refine ⟨f.ok.mod,hkind,f.ok.glob,f.ok.blt,(by show s₂.heap.objs.size<=D + 1;lia),λ y z c P M=>f.ok.inj y z c (U _ _ P) (U _ _ M),λ y R=>?_,(λ _ _ z=>Bool.noConfusion z),f.ok.hd,f.ok.frames,.inl rfl,λ b a=>⟨?_,λ y c e=>?_⟩,λ b o e=>f.bs b o e,?_,λ b o e a=>?_,c5,f.env0.funs,f.stkFree⟩
  ·rcases R with R|R
   ·exact b5 y (Dc hcell R (.inl rfl))
   ·exact b5 y (Dc hcell R (.inr rfl))
  ·exact G1 (K2 (a7 b a))
  ·exact (L b a).2.2.2.2.1 y c (U y c e)
  ·exact D0 f.ok.bsz f.sz
  ·rcases (L b a).2.2.2.1 with z|z
   ·exact f.ok.noex b o e z
   ·exact ZV (J1 (S0 (f.ok.bs b o e).1) z) (Y3 _)
 have a0:X'.env.locals=D + 1:=by subst hX';rfl
 have a6:X'.env.cells=cl:=by subst hX';rfl
 have a9:X'.fs=jg X.stack:=by subst hX';rfl
 have b6:X'.pn=[]:=by subst hX';rfl
 have a5:X'.s₀=s₂:=by subst hX';rfl
 have c3:X'.H₀=O:=by subst hX';rfl
 have b8:X'.ex=fp:=by subst hX';rfl
 have c9:X'.N=xs++fr.map (·.2):=by subst hX';rfl
 have d0:X'.A=X.A:=by subst hX';rfl
 have E:X'.prog=X.prog/\X'.w=X.w/\X'.K=X.K/\X'.calm=true:=by subst hX';exact ⟨rfl,rfl,rfl,hcalm⟩
 have c0:X'.xe=λ _ _=>False:=by subst hX';rfl
 have c2:X'.env=compEnvC scope cl (D + 1) X.env:=by subst hX';rfl
 have f8:PF X' ifs tc:=hX' ▸ ht cl (D + 1) s₂ O fp;have e7:PE X' elt te:=hX' ▸ he cl (D + 1) s₂ O fp;have d3:PG X' tg g:=hX' ▸ hg cl (D + 1) s₂ O fp;have fresh :∀b,D<=b->O b=none:=λ b a=>f.hok.fresh (by rw [hD];exact a);have start :∀t,Inv X' [] (aM σ fr (X1 xs.length none)) O { s₂ with heap:=h₁,toks:=t }:=λ t=>by
  refine ⟨d5,by rw [a5],f.bare,?_,⟨_,by rw [a0];exact a4,λ i y v P M e3=>?_⟩,λ y c e=>?_,by rw [a0];exact fresh _ (C3 _),λ y c e=>?_,λ p B=>?_,?_,?_⟩
  ·rw [a9,b8,c3,a5];exact Un.kept a2
  ·rw [c9] at P;by_cases a3:i < xs.length
   ·exfalso;unfold aM at M;rw [A2 (by rw [W3];exact a3),P8,ZZ a3] at M;cases M
   ·have a3:xs.length<=i:=j24 a3;rw [L1 a3,M0] at P;unfold aM at M;rw [L1 (by rw [W3];exact a3),W3,M0] at M;generalize i - xs.length=i at P M;cases ej:fr[i]? with
    | none=>rw [ej] at P;cases P
    | some p=>
     rw [ej] at P;obtain rfl:p.2=y:=A1 P;have b0:(σ[p.1]?).join=some v:=by rw [ej] at M;exact A1 M
     have d9:σ[p.1]? = some (some v):=by
      cases q:σ[p.1]? with
      | none=>rw [q] at b0;cases b0
      | some z=>rw [q] at b0;exact ZU some b0
     have B:=K0 ej;obtain ⟨m,hn,hl⟩:=f.loc;obtain ⟨u,r,l⟩:=hl p.1 p.2 v (hfr p B).1 d9 (by rcases (hfr p B).2 with z|z;exact .inr (.inl z);exact .inr (.inr z));refine ⟨u,r,.inr ⟨?_,?_⟩⟩
     ·rw [c2];exact (hfs p B).2
     ·rcases l with ⟨z,_⟩|⟨_,c,ec,q⟩
      ·exfalso;rcases (hfr p B).2 with z'|z'<;>(rw [z] at z';cases z')
      ·obtain ⟨c',c6⟩:=b5 p.2 (hfs p B).1;have:=U _ _ c6;rw [ec] at this;cases this;obtain ⟨o,ho,hd⟩:=q;exact ⟨c,by rw [a6];exact c6,o,a2 _ _ ho,hd⟩
  ·rw [a6] at e;obtain ⟨v,o,ho,hd⟩:=f.cell y c (U y c e);exact ⟨v,o,a2 _ _ ho,hd⟩
  ·rw [a6] at e;exact f.freeC y c (U y c e)
  ·rw [b6] at B;exact nomatch B
  ·rw [E.1,E.2.1];exact f.hok.kept a2
  ·rw [c9];unfold aM;simp
 have FP :∀{pins':List (ZS×ZQ)} {H':Hp},(∀b∈fp,H' b=none)->(∀p∈pins',p.1=D)->∀b∈fp,iN X' pins' H' b:=λ hn B b a=>by
  refine ⟨hn b a,?_,?_,.inl (by rw [b8];exact a),λ y c e=>?_,λ p c7=>?_⟩
  ·rw [a0];exact G1 (K2 (a7 b a))
  ·rw [a9];exact c5 b a
  ·rw [a6] at e;exact (L b a).2.2.2.2.1 y c (U y c e)
  ·rw [b6] at c7;rw [B p c7];exact X3 (a7 b a)
 -- the turns
 have loop :∀s₃:A0,s₃={ s₂ with heap:=h₁,toks:=s₂.toks + ([]:List (ZR×ZG)).length }->
   j16 (F1 X.prog X.w) X.A (.compLoop (.ListComp elt [⟨tg,iter,ifs,0⟩] scope pos) 0 (.ref it) (.ref D) (compEnvC scope cl (D + 1) X.env))
    (compPost (F1 X.prog X.w) X.A X.xe use QQ (.ref D) (D + 1)) s₃:=by
  rintro s₃ rfl;rw [<-c2,<-E.1,<-E.2.1,<-d0];refine RL (λ k s'=>∃i ys its H',Inv X' [] (aM σ fr (X1 xs.length none)) H' s'/\tn i s'.heap/\(∀b∈fp,H' b=none)/\s'.heap.PlainList D its.toArray/\aJ ys its/\H' D=none/\W i k ys H') ?_ m0
   ⟨0,[],[],O,start _,T.keep _ _ _ b7 λ b a o e=>a2 b o e,λ b a=>(L b a).1,d6,.nil,fresh _ (u0 _),w0⟩
  rintro n s3 ⟨i,ys,its,H3,I3,st3,fr3,ac3,rv3,hD3,w3⟩;obtain ⟨na,f5⟩:=id ac3;have c4:Inv X' [(D,{ cls:=.type "list",data:=.seq its.toArray na })] (aM σ fr (X1 xs.length none)) H3 s3:=I3.pins_of λ p B=>by rw [List.mem_singleton] at B;subst B;refine ⟨f5,hD3,by rw [a0];exact G1 (S2 D),by rw [a9];exact λ z=>Y3 _ (g0 D z),λ v z=>nomatch z⟩
  have hT:=T;rw [<-E.1,<-E.2.1,<-E.2.2.1] at hT;rcases e5 i n ys H3 w3 with ⟨f0,b9,qn⟩|⟨go,b9,step⟩
  ·refine bb (hT.done X' rfl rfl rfl E.2.2.2 i _ s3 _ H3 _ c4 (FP fr3 (by intro p B;rw [List.mem_singleton.mp B])) st3 f0) λ r s4 ⟨hr,I4⟩=>?_;subst hr;obtain ⟨m4,d4,_⟩:=id I4.loc;obtain ⟨Y,c1⟩ :∃Y,Y=s4.heap:=⟨_,rfl⟩
   have d1:O6 (D + 1) s4.heap Y:=by rw [c1];exact ⟨rfl,λ _ _=>rfl⟩
   have e0:D≠D + 1:=G1 (S2 D);have f9:=(I4.pin (D,_) (Q1 _ R0))
   have e8:Y.get? D=some { cls:=.type "list",data:=.seq its.toArray na }:=(d1.2 D e0).trans f9.1;have un:Un (jg X.stack) fp O H3 s₂.heap s4.heap:=by have:=I4.base;rw [a9,b8,c3,a5] at this;exact this
   have kp :∀b o,b≠D + 1->s4.heap.get? b=some o->Y.get? b=some o:=λ b o a e=>(d1.2 b a).trans e;have b1 :∀b o,s₂.heap.get? b=some o->b≠D + 1/\b≠D:=λ b o e=>by have:=S0 e;rw [hD] at this;exact ⟨G1 (K2 this),G1 this⟩
   have e4:Un (jg X.stack) fp O (upd H3 D (.lst ys)) s₂.heap Y:=by
    refine ⟨λ b o e n a Z=>kp b o (b1 b o e).1 (un.keep b o e n a Z),λ b o e n a Z=>?_,λ b o e n Z=>by rw [ak (b1 b o e).2];exact un.free b o e n Z,λ b o e Z=>?_,λ b xs e=>?_,λ b o u e=>?_,λ b ps e=>?_⟩
    ·obtain ⟨sl,z⟩:=un.slot b o e n a Z;exact ⟨sl,kp _ _ (b1 b o e).1 z⟩
    ·obtain ⟨o',z⟩:=un.there b o e Z;exact ⟨o',kp _ _ (b1 b o e).1 z⟩
    ·rw [ak (fM e (fresh D (u0 _)))];exact un.tups b xs e
    ·rw [ak (fM e (fresh D (u0 _)))];exact un.frzs b o u e
    ·rw [ak (fM e (fresh D (u0 _)))];exact un.tbls b ps e
   have b2:H3 (D + 1)=none:=by have:=I4.free;rw [a0] at this;exact this
   have f1:fN X.prog X.w (upd H3 D (.lst ys)) Y:=λ b u e=>by
    by_cases a:b=D
    ·subst a;rw [ab] at e;cases e;exact ⟨b9,its,na,rv3,e8⟩
    ·rw [ak a] at e;have z:=I4.hok b u e;rw [E.1,E.2.1] at z;refine z.stay (λ c v hc q=>kp c v ?_ q) (λ c q=>by rw [ak (fM q hD3)];exact q) λ c xs q=>by rw [ak (fM q hD3)];exact q
     rintro rfl;rcases hc with rfl|hc
     ·rw [b2] at e;cases e
     ·rw [b2] at hc;cases hc
   subst c1;have I5:Inv X pins σ (upd H3 D (.lst ys)) s4:=f.call' (s':=s4) (ch:=fp) (by have:=I4.os;rw [a5] at this;exact this) e4 f1 I4.bare (λ b a=>⟨(L b a).2.2.2.1,(L b a).2.1,(L b a).2.2.2.2.1,(L b a).2.2.2.2.2⟩);show compPost (F1 X'.prog X'.w) X'.A X.xe use QQ (.ref D) (D + 1) (.ok .next) s4;rw [E.1,E.2.1,d0];refine hend D s4 _ I5 ⟨m4,a0 ▸ d4⟩ ?_ ?_ ?_ ?_ (qn D hD3)
   ·rw [ak (X3 (S2 D))];exact b2
   ·exact X3 (K2 (by rw [<-hD];exact f.lt))
   ·exact D0 f.sz (by rw [hD];exact C3 D)
   ·refine ⟨λ z=>f.nofs (by rw [hD];exact C3 D) z,λ y c e=>?_,λ p B=>?_⟩
    ·obtain ⟨v,q⟩:=f.cell y c e;exact G1 (K2 (by rw [<-hD];exact q.lt))
    ·exact G1 (K2 (by rw [<-hD];exact S0 (f.pin p B).1))
  ·refine bb (hT.item X' rfl rfl rfl E.2.2.2 i _ s3 _ H3 _ c4 (FP fr3 (by intro p B;rw [List.mem_singleton.mp B])) st3 go) λ r s4 ⟨u,hr,h4⟩=>?_;subst hr;refine bb h4 λ _ s5 zz=>?_;obtain ⟨v,H5,I5,r5,y5,st5,fr5⟩:=zz;have d7:=I5.pinned (FP fr5 (by intro p B;rw [List.mem_singleton.mp B])) (T.obj _ _ st5);have g5:=d3 _ s5 (aM σ fr (X1 xs.length none)) H5 v u _ d7 r5 (step v H5 y5);rw [c0] at g5;refine bb g5 λ _ s6 zz=>?_;obtain ⟨σ6,H6,I6,us,hus,e6,q6⟩:=zz;subst e6;have t6:=f8 _ s6 _ H6 _ I6 q6;rw [c0] at t6;refine bb t6 λ ok s7 ⟨H7,I7,q7⟩=>?_;have d2 :∀{H8:Hp} {F:A0} {ys':List V} {its':List ZG} {pl:List (ZS×ZQ)},Inv X' (pl++fo fp s5.heap) (aM σ fr us) H8 F->F.heap.PlainList D its'.toArray->aJ ys' its'->H8 D=none->(∃m',m' < n/\W (i + 1) m' ys' H8)->
     ∃m,m < n/\∃i ys its H',Inv X' [] (aM σ fr (X1 xs.length none)) H' F/\tn i F.heap/\(∀b∈fp,H' b=none)/\F.heap.PlainList D its.toArray/\aJ ys its/\H' D=none/\W i m ys H':=λ {H8 F ys' its' pl} S b3 rv8 a8 ⟨m',hm,w8⟩=>by
    refine ⟨m',hm,i + 1,ys',its',H8,(S.pins_of (pins':=[]) (λ p B=>ZV B t0)).weak (by unfold aM;simp [hus]) ?_,T.keep _ _ _ st5 λ b a o e=>(S.pin (b,o) (Q1 _ (Q1 _ (xh a e)))).1,λ b a=>?_,b3,rv8,a8,w8⟩
    ·intro j z e;unfold aM at e⊢;by_cases hj:j < xs.length
     ·rw [A2 (by rw [W3];exact hj),P8,ZZ hj] at e;cases e
     ·have hj:xs.length<=j:=j24 hj;rw [L1 (by rw [W3];exact hj),W3] at e;rw [L1 (by rw [hus];exact hj),hus];exact e
    ·obtain ⟨o,e,d⟩:=T.obj _ _ st5 b a;exact (S.pin (b,o) (Q1 _ (Q1 _ (xh a e)))).2.1
   have b4 :∀{H8:Hp} {F:A0} {σ8:St},Inv X' ([(D,{ cls:=.type "list",data:=.seq its.toArray na })]++fo fp s5.heap) σ8 H8 F->F.heap.PlainList D its.toArray/\H8 D=none:=λ S=>
    have z:=S.pin (D,_) (Q1 _ (z7 _ R0))
    ⟨⟨na,z.1⟩,z.2.1⟩
   cases ok with
   | false=>rw [Z_ O0] at q7⊢;exact d2 I7 (b4 I7).1 rv3 (b4 I7).2 q7
   | true=>
    rw [ZZ rfl] at q7⊢;have t7:=e7 _ s7 _ H7 _ I7 q7;rw [c0] at t7;refine bb t7 λ y F zz=>?_;obtain ⟨vy,H8,S,r8,q8⟩:=zz;obtain ⟨b3,a8⟩:=b4 S;refine wpAny_list_append_plain (hsz:=by have:=rv3.length;rw [N0,<-this];exact b9) b3 λ h9 c8 f4=>?_;have I9:Inv X' ([]++fo fp s5.heap) (aM σ fr us) H8 F:=S.pins_of λ p B=>(S.pin p (Q1 _ (Q1 _ B)))
    have f7:Inv X' ([]++fo fp s5.heap) (aM σ fr us) H8 { F with heap:=h9 }:=by
     refine I9.turned (t':=F.toks) (it:=D) (λ b o a e=>(f4.2 b a).trans e) a8 (by rw [a0];exact G1 (S2 D)) (.inr (by rw [a5,hD];exact u0 _)) (λ y' c e=>?_) λ p B=>?_
     ·rw [a6] at e;exact G1 (f6 y' c e)
     ·rw [b6] at B;exact G1 (a7 _ (EA B).1)
    have e9:its.toArray.push y=(its++[y]).toArray:=by simp
    rw [e9] at c8;exact d2 f7 c8 (rv3.snoc r8) a8 q8
 exact codeAny_compStart_list (loop _ rfl) (T.self _ 0 _ _ _ (T.keep _ _ _ b7 λ b a o e=>a2 b o e) (loop _ rfl))
def En {xs:List ZR} (hcalm:X.calm=true) (hi:PI X tg iter wi)
  (hfr :∀p∈fr,X.N[p.1]? = some p.2/\(X.env.kindOf p.2=some .cell\/X.env.kindOf p.2=some .free))
  (hfree :∀y∈scope.names,y.2=Z1->X.env.kindOf y.1=some .cell\/X.env.kindOf y.1=some .free)
  (hfs :∀p∈fr,(p.2,Z1)∈scope.names/\((X8 scope X.env).names.lookup p.2=some .cell\/(X8 scope X.env).names.lookup p.2=some .free))
  (hcell :∀y∈scope.names,y.2≠NameKind.cell) (hkind:scope.kind=.function) (hnames :∀y∈scope.names,y.2=NameKind.local->scope.names.lookup y.1=some .local)
  (hg :∀cl C s₂ H₂ fp,PG (cB X scope cl (xs++fr.map (·.2)) C s₂ H₂ fp) tg g)
  (ht :∀cl C s₂ H₂ fp,PF (cB X scope cl (xs++fr.map (·.2)) C s₂ H₂ fp) ifs tc) (he :∀cl C s₂ H₂ fp,PE (cB X scope cl (xs++fr.map (·.2)) C s₂ H₂ fp) elt te)
  (hs :∀x,Z5 iter X.env x=W1 x:=by intro _;rfl):PE X (.ListComp elt [⟨tg,iter,ifs,0⟩] scope pos) (cx wi xs.length fr g tc te):=by
 intro t s σ H Q I h;rw [eval_ListComp];refine EX hcalm hi hfr hfree hfs hcell hkind hnames hg ht he hs I h λ D j f i a n l d ⟨c,hc,hp⟩ q=>?_;obtain ⟨m,a⟩:=a;exact ⟨m,a,λ r k=>⟨.ref D,f,i.turned (t':=j.toks) (it:=D + 1) (λ b o c e=>(k.2 b c).trans e) n l (.inr d) hc hp,rfl,q⟩⟩
def LU {xs:List ZR} {py spos:ZP} (hNy:X.N.Nodup) (hiy:X.N[i]? = some y) (hy:Loc X.env.scope y) (hcalm:X.calm=true) (hi:PI X tg iter wi)
  (hfr :∀p∈fr,X.N[p.1]? = some p.2/\(X.env.kindOf p.2=some .cell\/X.env.kindOf p.2=some .free))
  (hfree :∀y∈scope.names,y.2=Z1->X.env.kindOf y.1=some .cell\/X.env.kindOf y.1=some .free)
  (hfs :∀p∈fr,(p.2,Z1)∈scope.names/\((X8 scope X.env).names.lookup p.2=some .cell\/(X8 scope X.env).names.lookup p.2=some .free))
  (hcell :∀y∈scope.names,y.2≠NameKind.cell) (hkind:scope.kind=.function) (hnames :∀y∈scope.names,y.2=NameKind.local->scope.names.lookup y.1=some .local)
  (hg :∀cl C s₂ H₂ fp,PG (cB X scope cl (xs++fr.map (·.2)) C s₂ H₂ fp) tg g)
  (ht :∀cl C s₂ H₂ fp,PF (cB X scope cl (xs++fr.map (·.2)) C s₂ H₂ fp) ifs tc) (he :∀cl C s₂ H₂ fp,PE (cB X scope cl (xs++fr.map (·.2)) C s₂ H₂ fp) elt te)
  (hs :∀x,Z5 iter X.env x=W1 x:=by intro _;rfl) (hw:K7 (.ListComp elt [⟨tg,iter,ifs,0⟩] scope pos) (some (.Name y py)) spos.line X.env=W1 true:=by rfl) (hf:X.fn y=true\/X.env.scope.names.lookup y=some .local:=by first|exact .inl rfl|exact .inr rfl|assumption) :
  PS X (.Assign [.Name y py] (.ListComp elt [⟨tg,iter,ifs,0⟩] scope pos) spos) (jR (cx wi xs.length fr g tc te) (bh i)):=by
 intro j s σ H D I h;rw [exec_Assign_Name_used y py _ spos hw];refine d0 (wpAny_standAt (d0 ?_));show V0 _ _ (do let _ <-comprehension (.ListComp elt [⟨tg,iter,ifs,0⟩] scope pos) scope X.env (firstIterPos [⟨tg,iter,ifs,0⟩] pos) (newList []) (firstAsync [⟨tg,iter,ifs,0⟩]) (firstIter [⟨tg,iter,ifs,0⟩] X.env) (some (assign (.Name y py) X.env));W1 ()) _ _ _;refine d0 (EX hcalm hi hfr hfree hfs hcell hkind hnames hg ht he hs I h λ A r l n c G t B ⟨d,hc,hp⟩ q=>?_);obtain ⟨m,c⟩:=c;obtain ⟨o,w,E,L,f,K,F⟩:=c;have J:Inv X ((A + 1,o) :: j) σ l r:=n.pins_of λ p a=>by
  rcases List.mem_cons.mp a with rfl|a
  ·exact ⟨L,G,t,d,λ v z=>by rw [f] at z;cases z⟩
  ·exact n.pin p (Q1 _ a)
 refine bb (eY (pos:=py) hNy hiy hy hf _ r σ l (.ref A) (.ref A) D.nx J rfl q) λ _ u ⟨σ5,H5,I6,q6⟩=>?_;have k:=I6.pin (A + 1,o) (Q1 _ R0);have M:Inv X j σ5 H5 u:=I6.pins_of λ p a=>I6.pin p (Q1 _ (W0 _ a));refine ⟨m,⟨o,w,E,k.1,f,K,F⟩,λ P O=>?_⟩;exact L0 (L0 ⟨σ5,H5,M.turned (t':=u.toks) (it:=A + 1) (λ b o d e=>(O.2 b d).trans e) k.2.1 t (.inr B) hc hp,q6⟩)
end
variable {D:Ends}
def Ap {t rest:TS} (R:St->Hp->Prop) (hr :∀σ1 H1,R σ1 H1->rest D σ1 H1) (h:(∀σ1 H1,R σ1 H1->rest D σ1 H1)->t { D with nx:=rest D } σ H):gE t rest D σ H:=h hr
def gB {rest:TS} (h:te σ H λ x H1=>g x σ H1 (rest D)):gE (jR te g) rest D σ H:=h
structure Runs (J:It) (H1:Hp) (n:Nat) (Item:Nat->V->Hp->Prop):Prop where
 go :∀i,i < n->∀H,af H1 H->J.go i H
 stop :∀H,af H1 H->J.stop n H
 item :∀i,i < n->∀H v H',af H1 H->J.yld i H v H'->af H H'/\Item i v H'
def xU (p:Nat->Bool) (n:Nat):(B1 (n + 1)).filter p=(B1 n).filter p++(if p n=true then [n] else []):=by rw [E7,N3,Y4];cases p n<;>rfl
inductive av {α β:Type} (R:α->β->Prop):List α->List β->Prop
 | nil:av R [] []
 | cons {a:α} {b:β} {xs:List α} {ys:List β}:R a b->av R xs ys->av R (a :: xs) (b :: ys)
theorem As {α β:Type} {R:α->β->Prop} :∀{xs:List α} {ys:List β} {x:α} {y:β},av R xs ys->R x y->av R (xs++[x]) (ys++[y])
 | [],_,x,y,.nil,h=>.cons h .nil
 | _ :: _,_,x,y,.cons a r,h=>.cons a (As r h)
theorem bI {α β:Type} {R S:α->β->Prop} (h :∀a b,R a b->S a b) :∀{xs:List α} {ys:List β},av R xs ys->av S xs ys
 | [],_,.nil=>.nil
 | _ :: _,_,.cons a r=>.cons (h _ _ a) (bI h r)
theorem cH {α β:Type} {R:α->β->Prop} :∀{xs:List α} {ys:List β},av R xs ys->ys.length=xs.length
 | [],_,.nil=>rfl
 | _ :: _,_,.cons _ r=>ZU (· + 1) (cH r)
theorem AM {α β:Type} {f:α->β} :∀{xs:List α} {ys:List β},av (λ x y=>y=f x) xs ys->ys=xs.map f
 | [],_,.nil=>rfl
 | _ :: _,_,.cons a r=>by rw [C1,AM r,a]
variable {J:It} {m:Nat}
theorem Ou {Item:Nat->V->Hp->Prop} {Q:VK} (p:Nat->Bool) (R:Nat->V->Hp->Prop) (hR :∀i y H H',af H H'->R i y H->R i y H') (r:Runs J H1 n Item) (hn:n<=ZF)
  (body :∀i,i < n->∀v H,af H1 H->Item i v H->∀(KT:VK) (KF:Hp->Prop),(p i=true->∀y H',af H H'->R i y H'->KT y H')->(p i=false->∀H',af H H'->KF H')->
   g v (aM σ fr (X1 m none)) H λ σ6 H6=>∃us,us.length=m/\σ6=aM σ fr us/\tc (aM σ fr us) H6 λ b H2=>if b=true then te (aM σ fr us) H2 KT else KF H2)
  (hQ :∀l H' ys,af H1 H'->H' l=none->av (λ i y=>R i y H') ((B1 n).filter p) ys->Q (.ref l) (upd H' l (.lst ys))) :
  ∃W:Nat->Nat->List V->Hp->Prop,(∃m,W 0 m [] H1)/\∀i k ys H,W i k ys H->
   (J.stop i H/\ys.length<=ZF/\∀p,H p=none->Q (.ref p) (upd H p (.lst ys)))\/
   (J.go i H/\ys.length<=ZF/\∀v H',J.yld i H v H'->g v (aM σ fr (X1 m none)) H' λ σ6 H6=>∃us,us.length=m/\σ6=aM σ fr us/\tc (aM σ fr us) H6 λ b H2=>if b=true then te (aM σ fr us) H2 λ y H3=>∃m',m' < k/\W (i + 1) m' (ys++[y]) H3 else∃m',m' < k/\W (i + 1) m' ys H2):=by
 refine ⟨λ i k ys H'=>k=n - i/\i<=n/\af H1 H'/\av (λ i y=>R i y H') ((B1 i).filter p) ys,⟨n,by simp,S1 _,af.refl H1,.nil⟩,?_⟩;rintro i k ys H' ⟨rfl,hi,sm,fa⟩;have h:ys.length<=ZF:=by
  rw [cH fa];have:=U2 p (B1 i);rw [F2] at this
  lia
 by_cases hlt:i < n
 ·refine .inr ⟨r.go i hlt H' sm,h,λ v H2 y=>?_⟩;obtain ⟨c,q⟩:=r.item i hlt H' v H2 sm y;refine body i hlt v H2 (sm.trans c) q _ _ (λ f y H3 d o=>⟨n - (i + 1),by lia,rfl,hlt,(sm.trans c).trans d,?_⟩) (λ f H3 d=>⟨n - (i + 1),by lia,rfl,hlt,(sm.trans c).trans d,?_⟩)
  ·rw [xU,ZZ f];exact As (bI (λ a b z=>hR a b _ _ (c.trans d) z) fa) o
  ·rw [xU,Z_ (by rw [f];decide),D2];exact bI (λ a b z=>hR a b _ _ (c.trans d) z) fa
 ·have e:i=n:=by lia
  subst e;exact .inl ⟨r.stop H' sm,h,λ l j=>hQ l H' ys sm j fa⟩
def NT (hq:aK K H1 a xs):Runs (su K a) H1 xs.length (λ i v _=>xs[i]? = some v):=
 ⟨λ i b H s=>⟨xs,xs[i],s.seq hq,by simp [b]⟩,λ H s=>⟨xs,s.seq hq,u0 _⟩,λ i b H v c s y=>by obtain ⟨e,y⟩:=y;subst e;exact ⟨af.refl _,y xs (s.seq hq)⟩⟩
def PJ {α β:Type} (p:α->Bool) (f:α->β) (d:α) :∀xs:List α,((B1 xs.length).filter λ i=>p (xs[i]?.getD d)).map (λ i=>f (xs[i]?.getD d))=(xs.filter p).map f:=by
 intro xs;have h:(B1 xs.length).map (λ i=>xs[i]?.getD d)=xs:=by
  apply Z6
  ·simp
  ·intro i b a;simp only [j20,j0i,B0 a,j17]
 have e:(xs.filter p).map f=((((B1 xs.length).map (λ i=>xs[i]?.getD d))).filter p).map f:=by rw [h]
 rw [e,j29,v3];rfl
theorem Fb (ns:List Int) :∀j,j<=ns.length->preSum (λ i=>ns[i]?.getD 0) j=(ns.take j).sum
 | 0,_=>by rw [V7];rfl
 | j + 1,h=>by show preSum (λ i=>ns[i]?.getD 0) j + ns[j]?.getD 0=_;rw [Fb ns j (Nat.le_of_succ_le h),M4 h,List.sum_append,B0 h];simp
structure QE (X:Cx) (e:ZN) (t:TE):Prop where
 run:PE X e t
structure QA (X:Cx) (es:List ZN) (t:TA):Prop where
 run:PA X es t
structure xP (X:Cx) (pos:ZP) (ks:List (Option ZN)) (vs:List ZN) (t:List (TE×TE)):Prop where
 run:tU X pos ks vs t
structure QS (X:Cx) (st:ZL) (t:TS):Prop where
 run:PS X st t
structure oB (X:Cx) (sts:List ZL) (t:TS):Prop where
 run:jI X sts t
variable {tb:TS}
section
def n_ {sts:List ZL} {t:TS} {G:TS->Prop} (q:oB X sts t) (g:G t) :∃t,jI X sts t/\G t:=⟨t,q.run,g⟩
def nM {t:TS} (h:QS X st t):oB X [st] t:=⟨aU h.run⟩
def gN {rest:List ZL} {t u:TS} (h:QS X st t) (r:oB X rest u):oB X (st :: rest) (gE t u):=⟨aV h.run r.run⟩
def iS {pos':ZP} (hN:X.N.Nodup) (hi:X.N[i]? = some x) (hx:Loc X.env.scope x) (he:QE X e te) (hs:K7 e (some (.Name x pos')) pos.line X.env=W1 false:=by rfl) (hf:X.fn x=true\/X.env.scope.names.lookup x=some .local:=by first|exact .inl rfl|exact .inr rfl|assumption) :
  QS X (.Assign [.Name x pos'] e pos) (jR te (bh i)):=⟨aA hN hi hx he.run hs hf⟩
def Ae {o i value:ZN} {td ty tv:TE} {pos':ZP} (hu:X.A.units + 1 < ZE) (ho:QE X o td) (hi:QE X i ty) (hv:QE X value tv) (hs:K7 value (some (.Subscript o i pos')) pos.line X.env=W1 false) :
  QS X (.Assign [.Subscript o i pos'] value pos) (oV td ty tv):=⟨xf hu ho.run hi.run hv.run hs⟩
def lY {body:List ZL} (hp:PassesOwn (F1 X.prog X.w) X.A X.env X.xe) (hc:X.calm=true) (hi:PI X tg iter wi) (hg:PG X tg g) (hb:oB X body tb)
  (hs :∀x,Z5 iter X.env x=W1 x:=by intro _;rfl):QS X (.For tg iter body [] pos) (wq wi g tb):=⟨bO hp hc hi hg hb.run hs⟩
def eI (h:QA X es t):QE X (.List es pos) (vQ t):=⟨aY h.run⟩
def eE:QA X [] gi:=⟨ae⟩
def eg (ha:QE X e te) (hr:QA X es t) (hs:N1 (e :: es) X.env=(false,O3 e X.env) :: N1 es X.env:=by rfl):QA X (e :: es) (dD te t):=⟨ao ha.run hr.run hs⟩
def NK:xP X pos [] [] []:=⟨IU⟩
def yG {k v:ZN} {ks:List (Option ZN)} {vs:List ZN} {tk tv:TE} {trs:List (TE×TE)} (hk:QE X k tk) (hv:QE X v tv) (hr:xP X pos ks vs trs):xP X pos (some k :: ks) (v :: vs) ((tk,tv) :: trs):=⟨yA hk.run hv.run hr.run⟩
def QW {keys:List (Option ZN)} {values:List ZN} {trs:List (TE×TE)} (h:xP X pos keys values trs) (hall:keys.all (·.isSome)=true) (hl:keys.length=values.length) (h0:keys≠[]) (h15:keys.length<=15):QE X (.Dict keys values pos) (oH trs):=⟨DW h.run hall hl h0 h15⟩
def kn {a b:ZN} {ta tb:TE} {r:R2} (hr:lB X r) (ha:QE X a ta) (hb:QE X b tb) (hs:Io b):QE X (.Subscript a b pos) (jQ r ta tb):=⟨aq hr ha.run hb.run hs⟩
end
def vT (h:X.K=K):lB X (oP K):=h ▸ aj
def Ea {f:List V->Hp->VK->Prop} (h:te σ H λ x H1=>f [x] H1 D.rt):kX (nA f (dD te gi)) D σ H:=h
theorem fF {α β:Type} {R:α->β->Prop} :∀{xs:List α} {ys:List β} {i:Nat} {y:β},av R xs ys->ys[i]? = some y->∃x,xs[i]? = some x/\R x y
 | _,_,i,y,.nil,e=>by simp at e
 | _,_,0,y,.cons a _,e=>by rw [d3] at e;cases e;exact ⟨_,d3,a⟩
 | _,_,i + 1,y,.cons _ r,e=>by rw [G2] at e;obtain ⟨x,c,b⟩:=fF r e;exact ⟨x,by rw [G2];exact c,b⟩
def Ra {α:Type} {rs:List α} {RA:Hp->α->V->Prop} {Q:VK} (d:α) (p:α->Bool) (f:α->V) (r:Runs J H1 xs.length (λ i v _=>xs[i]? = some v)) (hm :∀H H' a v,af H H'->RA H a v->RA H' a v) (al:av (RA H1) rs xs) (hn:rs.length<=ZF)
  (body :∀a∈rs,∀v H,af H1 H->RA H a v->∀(KT:VK) (KF:Hp->Prop),(p a=true->∀H',af H H'->KT (f a) H')->(p a=false->∀H',af H H'->KF H')->
   g v (aM σ fr (X1 m none)) H λ σ6 H6=>∃us,us.length=m/\σ6=aM σ fr us/\tc (aM σ fr us) H6 λ b H2=>if b=true then te (aM σ fr us) H2 KT else KF H2)
  (hQ :∀l H',af H1 H'->H' l=none->Q (.ref l) (upd H' l (.lst ((rs.filter p).map f)))) :
  ∃W:Nat->Nat->List V->Hp->Prop,(∃m,W 0 m [] H1)/\∀i k ys H,W i k ys H->
   (J.stop i H/\ys.length<=ZF/\∀p,H p=none->Q (.ref p) (upd H p (.lst ys)))\/
   (J.go i H/\ys.length<=ZF/\∀v H',J.yld i H v H'->g v (aM σ fr (X1 m none)) H' λ σ6 H6=>∃us,us.length=m/\σ6=aM σ fr us/\tc (aM σ fr us) H6 λ b H2=>if b=true then te (aM σ fr us) H2 λ y H3=>∃m',m' < k/\W (i + 1) m' (ys++[y]) H3 else∃m',m' < k/\W (i + 1) m' ys H2):=by
 have o:=cH al;refine Ou (λ i=>p (rs[i]?.getD d)) (λ i y _=>y=f (rs[i]?.getD d)) (λ _ _ _ _ _ h=>h) r (by rw [o];exact hn) (λ i A v H s z KT KF c j=>?_) λ l H' ys s u w=>?_
 ·obtain ⟨a,n,q⟩:=fF al z;rw [n] at c j;exact body a (K0 n) v H s (hm _ _ _ _ s q) KT KF (λ t H' x=>c t _ H' x rfl) j
 ·have e:=AM w;rw [o,PJ p f d rs] at e;rw [e];exact hQ l H' s u
variable {tl:TE}
def My {α:Type} {rs:List α} {RA:Hp->α->V->Prop} {Q:VK} (d:α) (p:α->Bool) (f:α->V) (htl :∀R:VK,R (.ref l) H1->tl σ H R) (hq:aK K H1 l xs) (hm :∀H H' a v,af H H'->RA H a v->RA H' a v) (al:av (RA H1) rs xs) (hn:rs.length<=ZF)
  (body :∀a∈rs,∀v H,af H1 H->RA H a v->∀(KT:VK) (KF:Hp->Prop),(p a=true->∀H',af H H'->KT (f a) H')->(p a=false->∀H',af H H'->KF H')->
   g v (aM σ fr (X1 m none)) H λ σ6 H6=>∃us,us.length=m/\σ6=aM σ fr us/\tc (aM σ fr us) H6 λ b H2=>if b=true then te (aM σ fr us) H2 KT else KF H2)
  (hQ :∀l H',af H1 H'->H' l=none->Q (.ref l) (upd H' l (.lst ((rs.filter p).map f)))):cx (iB K tl) m fr g tc te σ H Q:=
 htl _ ⟨l,rfl,⟨xs,hq⟩,Ra d p f (NT hq) hm al hn body hQ⟩
section
def Eg (hh:A.handled=none) (it t:ZS) (ne:t≠it) (items:Array ZG):Draws prog w A it [it,t] items.size (λ i v=>items[i]? = some v) (λ i h=>h.IsTupleIter it t i/\h.IsTuple t items) where
 live:=λ i h a=>a.1.elim λ o z=>⟨o,z.1⟩
 frame:=λ i h b a k=>⟨a.1.elim λ o z=>⟨o,k it (by simp) o z.1,z.2⟩,a.2.elim λ o z=>⟨o,k t (by simp) o z.1,z.2⟩⟩
 item:=λ i s Q E c a q=>vc a.1 a.2 (V1 c) λ b f d=>q _ b s.toks (V1 c) ⟨f,a.2.elim λ o z=>⟨o,(d.2 t ne).trans z.1,z.2⟩⟩ d
 done:=λ s Q E a q=>rT hh a.1 a.2 (by simp) λ b e x y=>q b e x y
def KL (a:ZS) (xs:Array ZG):Meets (j1c.«enumerate.__new__» ⟨[.type "enumerate",.ref a],[]⟩) (λ _ R s=>s.heap.IsTuple a xs/\R (.ok (.ret (.ref (s.heap.objs.size + 1))))
  { s with heap:=(s.heap.push { cls:=.type "tuple_iterator",data:=.fields #[.ref a,.int 0 0] }).push { cls:=.type "enumerate",data:=.fields #[.none,.bool false,.ref s.heap.objs.size,j37 0,.none,.none] } }):=
 .of_wp λ e w A R s h=>by
  obtain ⟨f,g,d,j,k⟩:=s;obtain ⟨i,h⟩:=h;have m:=sub_enumerate;have b:Heap.IsTuple (Shared.heap ⟨f,g,d,j,k⟩) a xs:=i
  wp_walk using P6 b
  intro Γ p l;show V0 (F1 e w) A.in1 (W1 _) _ _ _;refine L0 ?_;generalize j21 1 ((Γ.code,p) :: Γ.below)=L;split
  ·rename_i c _ _ _ _;cases c == R7 "enumerate" with
   | true=>
    wp_walk using P6 b
    refine ⟨_,rfl,?_⟩;simpa [D4,o5] using h
   | false=>
    wp_walk using P6 b
    refine ⟨_,rfl,?_⟩;simpa [D4,o5] using h
  ·wp_walk using P6 b
   refine ⟨_,rfl,?_⟩;simpa [D4,o5] using h
def Nz {xs:Array ZG} (ha:s.heap.IsTuple a xs)
  (q :∀h',IsEnum h' (s.heap.objs.size + 1) s.heap.objs.size 0 .none->h'.IsTupleIter s.heap.objs.size a 0->h'.objs.size=s.heap.objs.size + 2->(∀c o,s.heap.get? c=some o->h'.get? c=some o)->Q (.ref (s.heap.objs.size + 1)) { s with heap:=h' }) :
  V0 (F1 prog w) A (call (.type "enumerate") [.ref a]) Q E s:=by
 refine callType_new F.called_enumerate (by decide) (F.typeCall_enumerate_1 _) (F.newCall_enumerate_1 _) (λ g=>F.args_object_init_2 g _) F.entry_enumerate_new (KL a xs) ⟨ha,?_⟩;generalize hn:s.heap.objs.size=n at q⊢;generalize h0:s.heap.push { cls:=.type "tuple_iterator",data:=.fields #[.ref a,.int 0 0] }=k0;have d:k0.objs.size=n + 1:=by rw [<-h0,D4,hn]
 have f:k0.get? n=some { cls:=.type "tuple_iterator",data:=.fields #[.ref a,.int 0 0] }:=by rw [<-h0,<-hn];exact Z0 _ rfl
 have b:(k0.push { cls:=.type "enumerate",data:=.fields #[.none,.bool false,.ref n,j37 0,.none,.none] }).get? (n + 1)=some { cls:=.type "enumerate",data:=.fields #[.none,.bool false,.ref n,j37 0,.none,.none] }:=by rw [<-d];exact Z0 _ rfl
 exact ⟨⟨_,b,rfl⟩,q _ b ⟨_,F0 _ f,rfl,rfl⟩ (by rw [D4,d]) λ c o e=>F0 _ (by rw [<-h0];exact F0 _ e)⟩
end
noncomputable def lA (K:b0) (a:ZS):It:=
  ⟨λ i H=>∃xs x,aK K H a xs/\xs[i]? = some x,
   λ i H v H'=>∃p,H p=none/\v=.ref p/\∀xs,aK K H a xs->∃x,xs[i]? = some x/\H'=upd H p (.tup [.int i,x]),
   λ i H=>∃xs,aK K H a xs/\xs.length=i⟩
def jk:(0:Nat)<=ZF:=by decide
def lC:(1:Nat)<=ZF:=by decide
def cZ:(2:Nat)<=ZF:=by decide
def nL:(3:Nat)<=ZF:=by decide
def tI:(4:Nat)<=ZF:=by decide
def Gj:(5:Nat)<=ZF:=by decide
def xw:(7:Nat)<=ZF:=by decide
def Eo:(8:Nat)<=ZF:=by decide
variable {elts:List ZN} {x1:Nat}
def Oj {e:ZS} (ne:e≠it) (nae:a≠e) (nai:a≠it):Turn P w K (.Tuple elts x1 pos) (lA K a) [e,it] e (λ n h=>(∃old,IsEnum h e it (n:Nat) old)/\h.IsListIter it a n) where
 mem:=by simp
 obj:=λ n h f c g=>by
  simp only [K1,t0,or_false] at g;rcases g with rfl|rfl
  ·obtain ⟨⟨old,z⟩,_⟩:=f;exact ⟨_,z,λ v z=>by cases (show j60 _=Data.cell v from z)⟩
  ·obtain ⟨_,o,e,_,d⟩:=f;exact ⟨o,e,λ v z=>by rw [d] at z;cases z⟩
 keep:=λ n h N f k=>by obtain ⟨⟨old,z⟩,o,e1,e2⟩:=f;exact ⟨⟨old,k e (by simp) _ z⟩,o,k it (by simp) _ e1,e2⟩
 item:=by
  intro X G B L g n a2 s σ H E I l f r;subst G B L;obtain ⟨S,x,p,T⟩:=r;obtain ⟨i,J,j,_⟩:=I.list p;have j:s.heap.IsList a i.toArray:=j.isList;obtain ⟨u,V,ru⟩:=J.get T;have D:=Draws.list (prog:=X.prog) (w:=X.w) (A:=X.A.in1) (I.ok.hd g) it a nai i.toArray;have a6:n < i.toArray.size:=by have:=(List.getElem?_eq_some_iff.mp V).1;simpa using this
  obtain ⟨⟨old,O⟩,R⟩:=f;refine wpAny_pyNext_enum_itemD D O ⟨R,j⟩ a6 ne (by simp [ne,nae.symm]) λ y N t q a1 a5 tT hz C=>?_;have q:i[n]? = some y:=by simpa using q
  rw [V] at q;cases q;have a4:e < s.heap.objs.size:=S0 O;have Z:it < s.heap.objs.size:=by obtain ⟨o,z,_⟩:=R;exact S0 z
  have Q:s.heap.objs.size≠e:=X3 a4;have nT:s.heap.objs.size∉[e,it]:=by simp only [K1,t0,or_false,not_or];exact ⟨Q,X3 Z⟩
  refine ⟨_,rfl,j50 a1 λ M Y F=>?_⟩;have k2 :∀b o,b∉[e,it]->s.heap.get? b=some o->M.get? b=some o:=λ b o m z=>by simp only [K1,t0,or_false,not_or] at m;exact (F.2 b m.1).trans (C b o m.1 m.2 z)
  have U:=(F.2 _ Q).trans tT;have a3:=a5.1.elim λ o z=>(⟨o,(F.2 it ne.symm).trans z.1,z.2⟩:M.IsListIter it a (n + 1))
  have fr:H s.heap.objs.size=none:=I.hok.fresh (u0 _);refine ⟨.ref s.heap.objs.size,upd H s.heap.objs.size (.tup [.int n,x]),I.turnedLaid (t':=t + 1) k2 l (u0 _) ⟨cZ,[.int n t,u],.cons ⟨t,rfl⟩ (.cons ru .nil),⟨_,U,rfl,_,rfl⟩,_,U,rfl⟩,rfl,⟨_,fr,rfl,λ a7 a0=>⟨x,?_,rfl⟩⟩,⟨⟨_,Y⟩,a3⟩,λ c g=>?_⟩
  ·rw [I.list_inj a0 p];exact T
  ·rw [ak (λ (z:c=s.heap.objs.size)=>nT (z ▸ g))];exact (l c g).1
 done:=by
  intro X G B L g n a2 s σ H E I l f r;subst G B L;obtain ⟨S,p,rfl⟩:=r;obtain ⟨i,J,j,_⟩:=I.list p;have j:s.heap.IsList a i.toArray:=j.isList;have D:=Draws.list (prog:=X.prog) (w:=X.w) (A:=X.A.in1) (I.ok.hd g) it a nai i.toArray;have W:=WalksT.enumerateD D e ne (by simp [ne,nae.symm]) (by simp);have la:i.toArray.size=S.length:=by simpa using J.length.symm
  exact W.done s _ E (by rw [la];exact ⟨f.1,f.2,j⟩) λ N tk C=>⟨rfl,I.turnedL (t':=tk) (λ c o g e=>C c o g e) l⟩
 self:=λ _ _ _ _ _ f h=>f.1.elim λ old z=>W8 z h
def FZ (K:b0) (ta:TA):TI:=λ σ H R=>ta σ H λ vs H1=>∃a xs,vs=[.ref a]/\aK K H1 a xs/\R (lA K a) H1
def xH {tpos:ZP} {ta:TA} {p:ZP} (hg:Gl X "enumerate") (hm:X.mg "enumerate" = none) (ha:PA X [e] ta) (hs:N1 [e] X.env=[(false,O3 e X.env)]:=by rfl) :
  PI X (.Tuple elts x1 tpos) (.Call (.Name "enumerate" p) [e] [] pos) (FZ X.K ta):=by
 intro l s σ H R I h;refine Call_ (fV I hg hm boot_enumerate (i4 (bb (ha pos l s σ H _ I h) λ x d zz=>?_) (by rw [hs];rfl) rfl));obtain ⟨vs,H1,I1,r1,q1⟩:=zz;obtain ⟨a,y,n,v,q⟩:=q1;subst n;obtain ⟨u,rfl,t⟩:=vals1 r1;cases (show u=E1 a from t);obtain ⟨k,z,b,_⟩:=I1.list v;have b:d.heap.IsList a k.toArray:=b.isList;have g:a < d.heap.objs.size:=by obtain ⟨o,e,_⟩:=id b;exact S0 e
 refine call_enumerate_list b λ w i r _ m=>?_;refine W8 i ?_;refine ⟨_,_,_,_,H1,rfl,I1.kept (t':=d.toks) m,Oj (X3 (S2 _)) (G1 (K2 g)) (G1 g),⟨⟨_,i⟩,r⟩,λ c j=>?_,q⟩;have f:d.heap.objs.size<=c:=by
  simp only [K1,t0,or_false] at j;rcases j with rfl|rfl
  ·exact Nat.le_add_right _ _
  ·exact u0 _
 exact I1.fpOk f (I1.hok.fresh f)
theorem Cw (Pv:Nat->St->Hp->Prop) (h0:Pv 0 σ H) (hl :∀i σ H,Pv i σ H->aK K H a xs)
  (hs :∀i x σ H p,xs[i]? = some x->Pv i σ H->H p=none->g (.ref p) σ (upd H p (.tup [.int i,x])) λ σ2 H2=>tb { D with nx:=Pv (i + 1),ct:=Pv (i + 1),bk:=D.nx } σ2 H2) (hd :∀σ H,Pv xs.length σ H->D.nx σ H) :
  ∃W:Nat->Nat->St->Hp->Prop,(∃m,W 0 m σ H)/\∀i m σ H,W i m σ H->
   ((lA K a).stop i H/\D.nx σ H)\/((lA K a).go i H/\∃N:St->Hp->Prop,(∀σ' H',N σ' H'->∃m',m' < m/\W (i + 1) m' σ' H')/\∀x H',(lA K a).yld i H x H'->g x σ H' λ σ2 H2=>tb { D with nx:=N,ct:=N,bk:=D.nx } σ2 H2):=by
 refine ⟨λ i m σ H=>m=xs.length - i/\i<=xs.length/\Pv i σ H,⟨xs.length,by simp,S1 _,h0⟩,?_⟩;rintro i m σ H ⟨rfl,hi,p⟩;have b:=hl i σ H p;by_cases hlt:i < xs.length
 ·refine .inr ⟨⟨xs,xs[i],b,by simp [hlt]⟩,Pv (i + 1),λ σ' H' h=>⟨xs.length - (i + 1),by lia,rfl,hlt,h⟩,λ v H' y=>?_⟩;obtain ⟨t,c,rfl,d⟩:=y;obtain ⟨j,f,rfl⟩:=d xs b;exact hs i j σ H t f p c
 ·have e:i=xs.length:=by lia
  subst e;exact .inl ⟨⟨xs,b,rfl⟩,hd σ H p⟩
noncomputable def kT (K:b0) (a:ZS):It:=
  ⟨λ i H=>∃xs x,aH K H a xs/\xs[i]? = some x,
   λ i H v H'=>∃p,H p=none/\v=.ref p/\∀xs,aH K H a xs->∃x,xs[i]? = some x/\H'=upd H p (.tup [.int i,x]),
   λ i H=>∃xs,aH K H a xs/\xs.length=i⟩
def LN {e:ZS} (ne:e≠it) (nae:a≠e) (nai:a≠it):Turn P w K (.Tuple elts x1 pos) (kT K a) [e,it] e (λ n h=>(∃old,IsEnum h e it (n:Nat) old)/\h.IsTupleIter it a n) where
 mem:=by simp
 obj:=λ n h f c g=>by
  simp only [K1,t0,or_false] at g;rcases g with rfl|rfl
  ·obtain ⟨⟨old,z⟩,_⟩:=f;exact ⟨_,z,λ v z=>by cases (show j60 _=Data.cell v from z)⟩
  ·obtain ⟨_,o,e,_,d⟩:=f;exact ⟨o,e,λ v z=>by rw [d] at z;cases z⟩
 keep:=λ n h N f k=>by obtain ⟨⟨old,z⟩,o,e1,e2⟩:=f;exact ⟨⟨old,k e (by simp) _ z⟩,o,k it (by simp) _ e1,e2⟩
 item:=by
  intro X G B L g n a2 s σ H E I l f r;subst G B L;obtain ⟨S,x,p,T⟩:=r;obtain ⟨i,J,j,_⟩:=I.tuple p;have j:s.heap.IsTuple a i.toArray:=j;obtain ⟨u,V,ru⟩:=J.get T;have D:=Eg (prog:=X.prog) (w:=X.w) (A:=X.A.in1) (I.ok.hd g) it a nai i.toArray;have a6:n < i.toArray.size:=by have:=(List.getElem?_eq_some_iff.mp V).1;simpa using this
  obtain ⟨⟨old,O⟩,R⟩:=f;refine wpAny_pyNext_enum_itemD D O ⟨R,j⟩ a6 ne (by simp [ne,nae.symm]) λ y N t q a1 a5 tT hz C=>?_;have q:i[n]? = some y:=by simpa using q
  rw [V] at q;cases q;have a4:e < s.heap.objs.size:=S0 O;have Z:it < s.heap.objs.size:=by obtain ⟨o,z,_⟩:=R;exact S0 z
  have Q:s.heap.objs.size≠e:=X3 a4;have nT:s.heap.objs.size∉[e,it]:=by simp only [K1,t0,or_false,not_or];exact ⟨Q,X3 Z⟩
  refine ⟨_,rfl,j50 a1 λ M Y F=>?_⟩;have k2 :∀b o,b∉[e,it]->s.heap.get? b=some o->M.get? b=some o:=λ b o m z=>by simp only [K1,t0,or_false,not_or] at m;exact (F.2 b m.1).trans (C b o m.1 m.2 z)
  have U:=(F.2 _ Q).trans tT;have a3:=a5.1.elim λ o z=>(⟨o,(F.2 it ne.symm).trans z.1,z.2⟩:M.IsTupleIter it a (n + 1))
  have fr:H s.heap.objs.size=none:=I.hok.fresh (u0 _);refine ⟨.ref s.heap.objs.size,upd H s.heap.objs.size (.tup [.int n,x]),I.turnedLaid (t':=t + 1) k2 l (u0 _) ⟨cZ,[.int n t,u],.cons ⟨t,rfl⟩ (.cons ru .nil),⟨_,U,rfl,_,rfl⟩,_,U,rfl⟩,rfl,⟨_,fr,rfl,λ a7 a0=>⟨x,?_,rfl⟩⟩,⟨⟨_,Y⟩,a3⟩,λ c g=>?_⟩
  ·rw [I.tuple_inj a0 p];exact T
  ·rw [ak (λ (z:c=s.heap.objs.size)=>nT (z ▸ g))];exact (l c g).1
 done:=by
  intro X G B L g n a2 s σ H E I l f r;subst G B L;obtain ⟨S,p,rfl⟩:=r;obtain ⟨i,J,j,_⟩:=I.tuple p;have j:s.heap.IsTuple a i.toArray:=j;have D:=Eg (prog:=X.prog) (w:=X.w) (A:=X.A.in1) (I.ok.hd g) it a nai i.toArray;have W:=WalksT.enumerateD D e ne (by simp [ne,nae.symm]) (by simp);have la:i.toArray.size=S.length:=by simpa using J.length.symm
  exact W.done s _ E (by rw [la];exact ⟨f.1,f.2,j⟩) λ N tk C=>⟨rfl,I.turnedL (t':=tk) (λ c o g e=>C c o g e) l⟩
 self:=λ _ _ _ _ _ f h=>f.1.elim λ old z=>W8 z h
def Gb (K:b0) (ta:TA):TI:=λ σ H R=>ta σ H λ vs H1=>∃a xs,vs=[.ref a]/\aH K H1 a xs/\R (kT K a) H1
def Ds {tpos:ZP} {ta:TA} {p:ZP} (hg:Gl X "enumerate") (hm:X.mg "enumerate" = none) (ha:PA X [e] ta) (hs:N1 [e] X.env=[(false,O3 e X.env)]:=by rfl) :
  PI X (.Tuple elts x1 tpos) (.Call (.Name "enumerate" p) [e] [] pos) (Gb X.K ta):=by
 intro l s σ H R I h;refine Call_ (fV I hg hm boot_enumerate (i4 (bb (ha pos l s σ H _ I h) λ x d zz=>?_) (by rw [hs];rfl) rfl));obtain ⟨vs,H1,I1,r1,q1⟩:=zz;obtain ⟨a,y,n,v,q⟩:=q1;subst n;obtain ⟨u,rfl,t⟩:=vals1 r1;cases (show u=E1 a from t);obtain ⟨k,z,b,_⟩:=I1.tuple v;have b:d.heap.IsTuple a k.toArray:=b;have g:a < d.heap.objs.size:=by obtain ⟨o,e,_⟩:=id b;exact S0 e
 refine Nz b λ w i r _ m=>?_;refine W8 i ?_;refine ⟨_,_,_,_,H1,rfl,I1.kept (t':=d.toks) m,LN (X3 (S2 _)) (G1 (K2 g)) (G1 g),⟨⟨_,i⟩,r⟩,λ c j=>?_,q⟩;have f:d.heap.objs.size<=c:=by
  simp only [K1,t0,or_false] at j;rcases j with rfl|rfl
  ·exact Nat.le_add_right _ _
  ·exact u0 _
 exact I1.fpOk f (I1.hok.fresh f)
theorem MW (Pv:Nat->St->Hp->Prop) (h0:Pv 0 σ H) (hl :∀i σ H,Pv i σ H->aH K H a xs)
  (hs :∀i x σ H p,xs[i]? = some x->Pv i σ H->H p=none->g (.ref p) σ (upd H p (.tup [.int i,x])) λ σ2 H2=>tb { D with nx:=Pv (i + 1),ct:=Pv (i + 1),bk:=D.nx } σ2 H2) (hd :∀σ H,Pv xs.length σ H->D.nx σ H) :
  ∃W:Nat->Nat->St->Hp->Prop,(∃m,W 0 m σ H)/\∀i m σ H,W i m σ H->
   ((kT K a).stop i H/\D.nx σ H)\/((kT K a).go i H/\∃N:St->Hp->Prop,(∀σ' H',N σ' H'->∃m',m' < m/\W (i + 1) m' σ' H')/\∀x H',(kT K a).yld i H x H'->g x σ H' λ σ2 H2=>tb { D with nx:=N,ct:=N,bk:=D.nx } σ2 H2):=by
 refine ⟨λ i m σ H=>m=xs.length - i/\i<=xs.length/\Pv i σ H,⟨xs.length,by simp,S1 _,h0⟩,?_⟩;rintro i m σ H ⟨rfl,hi,p⟩;have b:=hl i σ H p;by_cases hlt:i < xs.length
 ·refine .inr ⟨⟨xs,xs[i],b,by simp [hlt]⟩,Pv (i + 1),λ σ' H' h=>⟨xs.length - (i + 1),by lia,rfl,hlt,h⟩,λ v H' y=>?_⟩;obtain ⟨t,c,rfl,d⟩:=y;obtain ⟨j,f,rfl⟩:=d xs b;exact hs i j σ H t f p c
 ·have e:i=xs.length:=by lia
  subst e;exact .inl ⟨⟨xs,b,rfl⟩,hd σ H p⟩
section
def MV (hc:X.calm=true):cc X (.builtin "sum") (λ xs H Q=>∃(p:ZS) (ns:List Int),xs=[.ref p]/\aK X.K H p (ns.map V.int)/\Q (.int ns.sum) H):=by
 intro E s σ H xs G Q I r h;obtain ⟨p,ns,rfl,w,q⟩:=h;obtain ⟨u,rfl,y⟩:=vals1 r;cases y;obtain ⟨a,k,f,F⟩:=I.list w;have D:p≠s.heap.objs.size:=by obtain ⟨o,e,_⟩:=f.isList;exact G1 (S0 e)
 have n:a.length=ns.length:=by have:=k.length;rw [C0] at this;exact this.symm
 refine call_sum_walkAnyS (j2c f.isList ?_);refine ⟨s.heap.objs.size,_,_,_,_,_,_,λ i=>ns[i]?.getD 0,rfl,(Walks.list (show X.A.in1.handled=none from I.ok.hd hc) s.heap.objs.size p D a.toArray).toS,⟨⟨_,Z0 _ rfl,rfl,rfl⟩,f.isList.at λ o e=>F0 _ e⟩,?_,?_,?_⟩
 ·intro b d;simp only [K1,t0,or_false] at d;rcases d with rfl|rfl
  ·rw [D4];exact S2 _
  ·obtain ⟨o,e,_⟩:=f.isList;exact S0 (F0 _ e)
 ·intro i v c;have c:a[i]? = some v:=by simpa using c
  obtain ⟨C,e⟩:=List.getElem?_eq_some_iff.mp c;have l:i < ns.length:=by rw [<-n];exact C
  obtain ⟨u,m,g⟩:=k.get (i:=i) (x:=.int ns[i]) (by simp [l]);rw [c] at m;cases m;obtain ⟨t,g⟩:=g;exact ⟨t,by show v=L8 (ns[i]?.getD 0) t;rw [B0 l];exact g⟩
 ·intro B t' j;have e:preSum (λ i=>ns[i]?.getD 0) a.toArray.size=ns.sum:=by rw [N0,n,Fb ns _ (u0 _),Y6]
  rw [e,j.eq_with];refine ⟨.int _,H,I.kept (t':=B.toks) λ b o z=>j.heap b o ?_ (F0 _ z),⟨_,rfl⟩,q⟩;intro d;rw [List.mem_singleton.mp d] at z;exact ZV (S0 z) (Y3 _)
end
mutual
noncomputable def gr (K:b0) (H:Hp):ZK->V->Prop
 | .none,v=>v=.non
 | .bool b,v=>v=.bl b
 | .int i,v=>v=.int i
 | .str z,v=>v=.str z
 | .list ds,v=>∃a xs,v=.ref a/\aK K H a xs/\gC K H ds xs
 | .tuple ds,v=>∃a xs,v=.ref a/\aH K H a xs/\gC K H ds xs
 | .dict _,_=>False
noncomputable def gC (K:b0) (H:Hp):List ZK->List V->Prop
 | [],xs=>xs=[]
 | d :: ds,xs=>∃x r,xs=x :: r/\gr K H d x/\gC K H ds r
end
section
mutual
theorem uG (I:Inv X pins σ H s) :∀(d:ZK) (v:V) (u:ZG),gr X.K H d v->RelV v u->∃as,Reads s.heap u d as
 | .none,v,u,h,r=>by cases (show v=.non from h);cases (show u=.none from r);exact ⟨_,.none⟩
 | .bool b,v,u,h,r=>by cases (show v=.bl b from h);cases (show u=.bool b from r);exact ⟨_,.bool b⟩
 | .int i,v,u,h,r=>by cases (show v=.int i from h);obtain ⟨t,rfl⟩:=r;exact ⟨_,.int i t⟩
 | .str z,v,u,h,r=>by cases (show v=.str z from h);obtain ⟨t,rfl⟩:=r;exact ⟨_,.str z t⟩
 | .list ds,v,u,h,r=>by obtain ⟨a,m,rfl,e,p⟩:=h;cases (show u=.ref a from r);obtain ⟨k,f,q,_⟩:=I.list e;obtain ⟨o,l,j,n,c⟩:=q.isList;obtain ⟨as,g⟩:=yC I ds m k p f;exact ⟨_,.list l j c g⟩
 | .tuple ds,v,u,h,r=>by obtain ⟨a,m,rfl,e,p⟩:=h;cases (show u=.ref a from r);obtain ⟨k,f,q,_⟩:=I.tuple e;obtain ⟨o,l,j,n,c⟩:=q;obtain ⟨as,g⟩:=yC I ds m k p f;exact ⟨_,.tuple l j c g⟩
 | .dict _,v,u,h,r=>h.elim
theorem yC (I:Inv X pins σ H s) :∀(ds:List ZK) (xs:List V) (us:List ZG),gC X.K H ds xs->aJ xs us->∃as,S7 s.heap us ds as
 | [],xs,us,h,r=>by cases (show xs=[] from h);cases r;exact ⟨_,.nil⟩
 | d :: ds,xs,us,h,r=>by
  obtain ⟨x,t,rfl,a,b⟩:=h;cases r with
  | cons r1 r2=>obtain ⟨as,c⟩:=uG I d x _ a r1;obtain ⟨bs,e⟩:=yC I ds t _ b r2;exact ⟨_,.cons c e⟩
end
end
mutual
noncomputable def bR:ZK->Bool
 | .none=>true
 | .bool _=>false
 | .int _=>true
 | .str z=>(PyData.str z).canLay0
 | .list ds=>iR ds
 | .tuple ds=>iR ds
 | .dict _=>false
noncomputable def iR:List ZK->Bool
 | []=>true
 | d :: ds=>bR d && iR ds
end
mutual
theorem zB:∀d:ZK,bR d=true->d.canLay0=true
 | .none,_=>rfl
 | .bool _,h=>by cases h
 | .int _,_=>rfl
 | .str _,h=>h
 | .list ds,h=>CG ds h
 | .tuple ds,h=>CG ds h
 | .dict _,h=>by cases h
theorem CG:∀ds:List ZK,iR ds=true->d8 ds=true
 | [],_=>rfl
 | d :: ds,h=>by have h:(bR d && iR ds)=true:=h;rw [J2] at h;show (d.canLay0 && d8 ds)=true;rw [zB d h.1,CG ds h.2];rfl
end
mutual
theorem Ih:∀d e:ZK,bR d=true->bR e=true->(d.eqv e=true↔d=e)
 | .none,e,_,he=>by
  cases e with
  | none=>exact ⟨λ _=>rfl,λ _=>rfl⟩
  | bool b=>cases he
  | dict _=>cases he
  | _=>exact ⟨λ z=>(by cases z),λ z=>(by cases z)⟩
 | .bool _,e,hd,_=>by cases hd
 | .int i,e,_,he=>by
  cases e with
  | int j=>exact ⟨λ z=>ZU _ (eq_of_beq (show (i == j)=true from z)),λ z=>by cases z;exact beq_self_eq_true i⟩
  | bool b=>cases he
  | dict _=>cases he
  | _=>exact ⟨λ z=>(by cases z),λ z=>(by cases z)⟩
 | .str i,e,_,he=>by
  cases e with
  | str j=>exact ⟨λ z=>ZU _ (eq_of_beq (show (i == j)=true from z)),λ z=>by cases z;exact beq_self_eq_true i⟩
  | bool b=>cases he
  | dict _=>cases he
  | _=>exact ⟨λ z=>(by cases z),λ z=>(by cases z)⟩
 | .list ds,e,hd,he=>by
  cases e with
  | list es=>exact ⟨λ z=>ZU _ ((wN ds es hd he).mp z),λ z=>(wN ds es hd he).mpr (by cases z;rfl)⟩
  | bool b=>cases he
  | dict _=>cases he
  | _=>exact ⟨λ z=>(by cases z),λ z=>(by cases z)⟩
 | .tuple ds,e,hd,he=>by
  cases e with
  | tuple es=>exact ⟨λ z=>ZU _ ((wN ds es hd he).mp z),λ z=>(wN ds es hd he).mpr (by cases z;rfl)⟩
  | bool b=>cases he
  | dict _=>cases he
  | _=>exact ⟨λ z=>(by cases z),λ z=>(by cases z)⟩
 | .dict _,e,hd,_=>by cases hd
theorem wN:∀ds es:List ZK,iR ds=true->iR es=true->(PyData.eqvAll ds es=true↔ds=es)
 | [],[],_,_=>⟨λ _=>rfl,λ _=>rfl⟩
 | [],e :: es,_,_=>⟨λ z=>(by cases z),λ z=>(by cases z)⟩
 | d :: ds,[],_,_=>⟨λ z=>(by cases z),λ z=>(by cases z)⟩
 | d :: ds,e :: es,a,b=>by have a:(bR d && iR ds)=true:=a;have b:(bR e && iR es)=true:=b;rw [J2] at a b;show (d.eqv e && PyData.eqvAll ds es)=true↔_;rw [J2,Ih d e a.1 b.1,wN ds es a.2 b.2];exact ⟨λ z=>by rw [z.1,z.2],λ z=>by cases z;exact ⟨rfl,rfl⟩⟩
end
def CT {d e:ZK} (hd:bR d=true) (he:bR e=true) {p:Prop} [Decidable p] (h:d=e↔p):d.eqv e=decide p:=by rw [Bool.eq_iff_iff,decide_eq_true_eq,Ih d e hd he,h]
section
def yW (K:b0):R2:=λ x y H Q=>∃d e,gr K H d x/\gr K H e y/\bR d=true/\bR e=true/\d.depth<=60/\Q (.bl (d.eqv e)) H
def pX {k:Nat} (hr:bQ k A) (h:m<=60):A.units + min m n < ZE:=T1 (Nat.add_le_add_left (D0 (F9 _ _) (D0 h (by decide:60<=64))) _) hr.units
def ra {k:Nat} (hr:bQ k X.A):eA X (V2 .Eq) (yW X.K):=by intro n s σ H x y v u Q I g f h;obtain ⟨d,e,b,c,l,a,m,q⟩:=h;obtain ⟨o,i⟩:=uG I d x v b g;obtain ⟨bs,j⟩:=uG I e y u c f;exact SeqAt.compareEq_reads i j (zB _ l) (zB _ a) (pX hr m) ⟨.bl _,H,I,rfl,q⟩
end
structure hS (S:Hp->Hp->Prop) (J:It) (H1:Hp) (n:Nat) (Item:Nat->V->Hp->Prop):Prop where
 go :∀i,i < n->∀H,S H1 H->J.go i H
 stop :∀H,S H1 H->J.stop n H
 item :∀i,i < n->∀H v H',S H1 H->J.yld i H v H'->S H H'/\Item i v H'
variable {S:Hp->Hp->Prop}
theorem oF {Item:Nat->V->Hp->Prop} {Q:VK} (s0:S H1 H1) (st :∀a b c,S a b->S b c->S a c) (p:Nat->Bool) (R:Nat->V->Hp->Prop) (hR :∀i y H H',S H H'->R i y H->R i y H') (r:hS S J H1 n Item) (hn:n<=ZF)
  (body :∀i,i < n->∀v H,S H1 H->Item i v H->∀(KT:VK) (KF:Hp->Prop),(p i=true->∀y H',S H H'->R i y H'->KT y H')->(p i=false->∀H',S H H'->KF H')->
   g v (aM σ fr (X1 m none)) H λ σ6 H6=>∃us,us.length=m/\σ6=aM σ fr us/\tc (aM σ fr us) H6 λ b H2=>if b=true then te (aM σ fr us) H2 KT else KF H2)
  (hQ :∀l H' ys,S H1 H'->H' l=none->av (λ i y=>R i y H') ((B1 n).filter p) ys->Q (.ref l) (upd H' l (.lst ys))) :
  ∃W:Nat->Nat->List V->Hp->Prop,(∃m,W 0 m [] H1)/\∀i k ys H,W i k ys H->
   (J.stop i H/\ys.length<=ZF/\∀p,H p=none->Q (.ref p) (upd H p (.lst ys)))\/
   (J.go i H/\ys.length<=ZF/\∀v H',J.yld i H v H'->g v (aM σ fr (X1 m none)) H' λ σ6 H6=>∃us,us.length=m/\σ6=aM σ fr us/\tc (aM σ fr us) H6 λ b H2=>if b=true then te (aM σ fr us) H2 λ y H3=>∃m',m' < k/\W (i + 1) m' (ys++[y]) H3 else∃m',m' < k/\W (i + 1) m' ys H2):=by
 refine ⟨λ i k ys H'=>k=n - i/\i<=n/\S H1 H'/\av (λ i y=>R i y H') ((B1 i).filter p) ys,⟨n,by simp,S1 _,s0,.nil⟩,?_⟩;rintro i k ys H' ⟨rfl,hi,sm,fa⟩;have j:ys.length<=ZF:=by
  rw [cH fa];have:=U2 p (B1 i);rw [F2] at this
  lia
 by_cases hlt:i < n
 ·refine .inr ⟨r.go i hlt H' sm,j,λ v H2 y=>?_⟩;obtain ⟨d,s⟩:=r.item i hlt H' v H2 sm y;refine body i hlt v H2 (st _ _ _ sm d) s _ _ (λ h y H3 f q=>⟨n - (i + 1),by lia,rfl,hlt,st _ _ _ (st _ _ _ sm d) f,?_⟩) (λ h H3 f=>⟨n - (i + 1),by lia,rfl,hlt,st _ _ _ (st _ _ _ sm d) f,?_⟩)
  ·rw [xU,ZZ h];exact As (bI (λ a b z=>hR a b _ _ (st _ _ _ d f) z) fa) q
  ·rw [xU,Z_ (by rw [h];decide),D2];exact bI (λ a b z=>hR a b _ _ (st _ _ _ d f) z) fa
 ·have e:i=n:=by lia
  subst e;exact .inl ⟨r.stop H' sm,j,λ l o=>hQ l H' ys sm o fa⟩
def Dz (hs :∀H,S H1 H->S H H) (hq :∀H,S H1 H->aK K H a xs):hS S (su K a) H1 xs.length (λ i v _=>xs[i]? = some v):=
 ⟨λ i b H s=>⟨xs,xs[i],hq H s,by simp [b]⟩,λ H s=>⟨xs,hq H s,u0 _⟩,λ i b H v c s y=>by obtain ⟨e,y⟩:=y;subst e;exact ⟨hs _ s,y xs (hq _ s)⟩⟩
def HW (hs :∀H,S H1 H->S H H) (hq :∀H,S H1 H->aH K H a xs):hS S (tw K a) H1 xs.length (λ i v _=>xs[i]? = some v):=
 ⟨λ i b H s=>⟨xs,xs[i],hq H s,by simp [b]⟩,λ H s=>⟨xs,hq H s,u0 _⟩,λ i b H v c s y=>by obtain ⟨e,y⟩:=y;subst e;exact ⟨hs _ s,y xs (hq _ s)⟩⟩
def zev {Q:VK} (R:V->V->Hp->Prop) (s0:S H1 H1) (st :∀a b c,S a b->S b c->S a c) (hs :∀H,S H1 H->S H H) (hR :∀x y H H',S H H'->R x y H->R x y H')
  (htl :∀R:VK,R (.ref a) H1->tl σ H R) (hq :∀H,S H1 H->aK K H a xs) (hn:xs.length<=ZF)
  (body :∀v∈xs,∀H,S H1 H->∀KT:VK,(∀y H',S H H'->R v y H'->KT y H')->∀KF:Hp->Prop,
   g v (aM σ fr (X1 m none)) H λ σ6 H6=>∃us,us.length=m/\σ6=aM σ fr us/\tc (aM σ fr us) H6 λ b H2=>if b=true then te (aM σ fr us) H2 KT else KF H2)
  (hQ :∀l H' ys,S H1 H'->H' l=none->av (λ x y=>R x y H') xs ys->Q (.ref l) (upd H' l (.lst ys))):cx (iB K tl) m fr g tc te σ H Q:=by
 refine htl _ ⟨a,rfl,⟨xs,hq _ s0⟩,oF s0 st (λ _=>true) (λ i y H=>R (xs[i]?.getD .non) y H) (λ i y H H' s z=>hR _ _ _ _ s z) (Dz hs hq) hn (λ i u v H s n KT KF f j=>?_) λ l H' ys s p k=>hQ l H' ys s p ?_⟩
 ·refine body v (K0 n) H s KT (λ y H' t q=>f rfl y H' t ?_) KF;rw [n];exact q
 ·rw [List.filter_eq_self.mpr (λ _ _=>rfl)] at k;have o :∀(d:List Nat) (ys:List V),av (λ i y=>R (xs[i]?.getD .non) y H') d ys->av (λ x y=>R x y H') (d.map λ i=>xs[i]?.getD .non) ys:=by
   intro d;induction d with
   | nil=>intro ys h;cases h;exact .nil
   | cons i d ih=>intro ys h;cases h with|cons a r=>exact .cons a (ih _ r)
  have h:=o _ _ k;have e:(B1 xs.length).map (λ i=>xs[i]?.getD V.non)=xs:=by
   apply Z6
   ·simp
   ·intro i f j;simp only [j20,j0i,B0 j,j17]
  rwa [e] at h
def Jv (hs :∀H,S H1 H->S H H):hS S (rN 0 n) H1 n (λ i v _=>v=.int (i:Nat)):=
 ⟨λ i a H s=>a,λ H s=>u0 _,λ i a H v b s y=>by obtain ⟨e,y⟩:=y;subst e;exact ⟨hs _ s,by rw [y,D9]⟩⟩
def Jr {R:V->V->Prop} {ys:List V} (fa:av (λ (i:Nat) y=>R (xs[i]?.getD .non) y) (B1 xs.length) ys):av R xs ys:=by
 have d :∀(b:List Nat) (ys:List V),av (λ i y=>R (xs[i]?.getD .non) y) b ys->av R (b.map λ i=>xs[i]?.getD .non) ys:=by
  intro b;induction b with
  | nil=>intro ys h;cases h;exact .nil
  | cons i b ih=>intro ys h;cases h with|cons a r=>exact .cons a (ih _ r)
 have h:=d _ _ fa;have e:(B1 xs.length).map (λ i=>xs[i]?.getD V.non)=xs:=by
  apply Z6
  ·simp
  ·intro i f c;simp only [j20,j0i,B0 c,j17]
 rwa [e] at h
def Fc {Q:VK} (R:V->V->Hp->Prop) (s0:S H1 H1) (st :∀a b c,S a b->S b c->S a c) (hs :∀H,S H1 H->S H H) (hR :∀x y H H',S H H'->R x y H->R x y H')
  (htl :∀R:VK,R (.ref a) H1->tl σ H R) (hq :∀H,S H1 H->aH K H a xs) (hn:xs.length<=ZF)
  (body :∀v∈xs,∀H,S H1 H->∀KT:VK,(∀y H',S H H'->R v y H'->KT y H')->∀KF:Hp->Prop,
   g v (aM σ fr (X1 m none)) H λ σ6 H6=>∃us,us.length=m/\σ6=aM σ fr us/\tc (aM σ fr us) H6 λ b H2=>if b=true then te (aM σ fr us) H2 KT else KF H2)
  (hQ :∀l H' ys,S H1 H'->H' l=none->av (λ x y=>R x y H') xs ys->Q (.ref l) (upd H' l (.lst ys))):cx (pN K tl) m fr g tc te σ H Q:=by
 refine htl _ ⟨a,rfl,⟨xs,hq _ s0⟩,oF s0 st (λ _=>true) (λ i y H=>R (xs[i]?.getD .non) y H) (λ i y H H' s z=>hR _ _ _ _ s z) (HW hs hq) hn (λ i o v H s e KT KF f n=>?_) λ l H' ys s h d=>hQ l H' ys s h ?_⟩
 ·refine body v (K0 e) H s KT (λ y H' k j=>f rfl y H' k ?_) KF;rw [e];exact j
 ·rw [List.filter_eq_self.mpr (λ _ _=>rfl)] at d;exact Jr (R:=λ x y=>R x y H') d
section
def vE {h1:ZM} {Q:Option ZG->A0->Prop} (hh:A.handled=none) (q :∀h',(∀b o,h1.get? b=some o->h'.get? b=some o)->Q none { s with heap:=h' }) :
  V0 (F1 prog w) A.in1 (do raiseNew (<-newExc (.type "StopIteration") [])) (λ (fin:M8) s'=>∃v,fin=.done (.ret v)/\V0 (F1 prog w) A (W1 (some v)) Q E s')
   (λ e s'=>V0 (F1 prog w) A (do if <-isInstance e (.type "StopIteration") then W1 none else throw e) Q E s') { s with heap:=h1 }:=by
 refine d0 ?_;simp only [newExc,newTuple];refine d0 (J3 (d0 (m:=j12 _ _) (wpAny_of_eq (a:=Value.none) (by first|rfl|(simp only [j12];rfl)) (J3 ?_ (by size_fits)))) (by size_fits));simp only [raiseNew];refine d0 (wpAny_handled ?_);rw [show A.in1.handled=none from hh];refine d0 (L0 (wpAny_throw ?_));refine d0 (M9 (T:="StopIteration") (b:=true) ⟨_,Z0 _ rfl,rfl⟩ isSubtype_stop ?_);exact L0 (q _ λ b o e=>F0 _ (F0 _ e))
end
end L2
namespace HT
open PySem PySem.Spec PyProof.Rows L2
variable {prog:ZJ} {w:U0} {A:B2} {E:ZG->A0->Prop} {s:A0}
end HT
namespace L2
open PySem PySem.Spec PyProof.Rows
def MJ {names:List (ZR×u6)} {ns:List ZR} {Q:ZR×u6->Prop} (h:(names.all λ y=>y.2 != Z1 || ns.contains y.1)=true) (q :∀n,n∈ns->∀k,Q (n,k)) :∀y∈names,y.2=Z1->Q y:=λ y c e=>by
 have z:=List.all_eq_true.mp h y c;rw [e] at z;have z:ns.contains y.1=true:=by simpa using z
 obtain ⟨a,b⟩:=y;exact q a (by simpa using z) b
variable {H H1:Hp} {Q:VK} {fr:List (Nat×ZR)} {g:TG} {m:Nat} {ta:TA} {tc:TT} {te:TE}
theorem Jn {S:Hp->Hp->Prop} {n:Nat} {σ:St} (p:Nat->Bool) (R:Nat->V->Hp->Prop) (s0:S H1 H1) (st :∀a b c,S a b->S b c->S a c) (hs :∀H,S H1 H->S H H) (hR :∀i y H H',S H H'->R i y H->R i y H')
  (hta :∀T:List V->Hp->Prop,T [.int (n:Nat)] H1->ta σ H T) (hn:n<=ZF)
  (body :∀i,i < n->∀H,S H1 H->∀(KT:VK) (KF:Hp->Prop),(p i=true->∀y H',S H H'->R i y H'->KT y H')->(p i=false->∀H',S H H'->KF H')->
   g (.int (i:Nat)) (aM σ fr (X1 m none)) H λ σ6 H6=>∃us,us.length=m/\σ6=aM σ fr us/\tc (aM σ fr us) H6 λ b H2=>if b=true then te (aM σ fr us) H2 KT else KF H2)
  (hQ :∀l H' ys,S H1 H'->H' l=none->av (λ i y=>R i y H') ((B1 n).filter p) ys->Q (.ref l) (upd H' l (.lst ys))):cx (oR ta) m fr g tc te σ H Q:=by
 have b:(n:Int) < 2 ^ 62:=Int.lt_of_le_of_lt (Int.ofNat_le.mpr hn) (by decide);refine hta _ ⟨n,rfl,by lia,b,?_⟩;exact oF s0 st p R hR (Jv hs) hn (λ i f v H s h KT KF e d=>by subst h;exact body i f H s KT KF e d) hQ
variable {X:Cx} {e:ZN} {pos:ZP}
def qU (h:QE X e te):QS X (.Return (some e) pos) (kX te):=⟨au h.run⟩
variable {f:List V->Hp->VK->Prop}
def Mq {σ:St} {Q:List V->Hp->Prop} (h:te σ H λ x H1=>f [x] H1 λ y H2=>ta σ H2 λ ys H3=>Q (y :: ys) H3):dD (nA f (dD te gi)) ta σ H Q:=h
section
variable {prog:ZJ} {w:U0} {A:B2} {E:ZG->A0->Prop} {s:A0}
theorem HA:∀{vs:List ZG} {ss:List ZR},j4d vs ss->vs.length=ss.length
 | _,_,.nil=>rfl
 | _,_,.cons y t h=>by rw [P0,P0,HA h]
theorem HU:∀{vs:List ZG} {ss:List ZR},j4d vs ss->∀v∈vs,∃a,strKind.keyOf v=some a
 | _,_,.nil,v,h=>ZV h t0
 | _,_,.cons y t h,v,hv=>by
  rcases List.mem_cons.mp hv with rfl|hv
  ·exact ⟨_,rfl⟩
  ·exact HU h v hv
theorem GE:∀{vs:List ZG} {ss:List ZR},j4d vs ss->aJ (ss.map V.str) vs
 | _,_,.nil=>.nil
 | _,_,.cons n t h=>.cons ⟨t,rfl⟩ (GE h)
theorem vC:∀{ss:List ZR} {us:List ZG},us.length=ss.length->(∀(j:Nat) (u:ZG),us[j]? = some u->∃(i:ZR) (t:Tok),ss[j]? = some i/\u=X6 i t)->j4d us ss
 | [],us,hl,_=>by have z:us=[]:=List.eq_nil_of_length_eq_zero hl;subst z;exact .nil
 | n :: ss,us,hl,h=>by
  cases us with
  | nil=>cases hl
  | cons u us=>obtain ⟨i,t,e,rfl⟩:=h 0 u rfl;have e:n=i:=A1 e;subst e;exact .cons n t (vC (Nat.succ.inj hl) λ j v e=>h (j + 1) v (by simpa using e))
def KY {v:ZG} {Q:ZG->A0->Prop} {ss:List ZR} (hn:ss.length < 64)
  (hc :∀R:List ZG->A0->Prop,(∀h' tk vs,(∀b o,s.heap.get? b=some o->h'.get? b=some o)->j4d vs ss->R vs { s with heap:=h',toks:=tk })->V0 (F1 prog w) A.in1 (collect v) R E s)
  (h :∀(h1 h':ZM) (tk:Nat) (out:Array ZG) (ss':List ZR) (e:Nat),(∀b o,s.heap.get? b=some o->h1.get? b=some o)->(∀b o,h1.get? b=some o->h'.get? b=some o)->h'.get? h1.objs.size=some { cls:=.type "list",data:=.seq out e }->j4d out.toList ss'->ss'.Perm ss->sortedS ss'=true->Q (.ref h1.objs.size) { s with heap:=h',toks:=tk }) :
  V0 (F1 prog w) A (call (.builtin "sorted") [v]) Q E s:=by
 refine i8 kind_sorted plain_sorted entry_sorted (args_sorted1 _) ?_;unfold j1c.«sorted»;refine d0 (m:=checkCount "sorted" 1 1 _) (L0 (d0 (hc _ λ h1 tk vs q a=>?_)));have f:vs.length < 64:=by rw [HA a];exact hn
 refine d0 (j1h ?_ (D0 (T3 f) (by decide)));have c:(h1.push (a8 "list" vs.toArray 0)).get? h1.objs.size=some (a8 "list" vs.toArray 0):=Z0 _ rfl;have u:KeysOf strKind (pairsOf vs):=λ p t=>by
  have:p.1∈vs:=by have:=(C9 (show (p.1,p.2)∈vs.zip vs by simpa [pairsOf] using t)).1;exact this
  exact HU a _ this
 refine d0 (Z4 (B3 j52 ⟨_,c,rfl⟩ j45 (list_sort_treeK strKind_oneLt c u (λ z B r e=>by subst e;exact keyKind_strs a) f λ k y i=>⟨_,rfl,?_⟩) (j56 _)));obtain ⟨ss',g,j,l⟩:=sorted_out_str a y i;obtain ⟨e,n⟩:=sortedHeap_at (out:=j1g (λ x=>x.snd) (arrOf k)) c;refine L0 ⟨_,rfl,h h1 _ tk _ ss' e q (λ b o d=>?_) n g j l⟩;have lt:=S0 d;refine (sortedHeap_old (G1 lt) ?_).trans (F0 _ d);rw [size_push'];exact K2 lt
end
section
def MX (hcalm:X.calm=true):cc X (.builtin "sorted") (λ xs H Q=>∃a kvs ss,xs=[.ref a]/\H a=some (.dK kvs)/\kvs.map (·.1)=ss.map Sum.inr/\ss.length < 64/\∀(l:ZS) (ss':List ZR),H l=none->ss'.Perm ss->sortedS ss'=true->Q (.ref l) (upd H l (.lst (ss'.map V.str)))):=by
 intro G s σ H xs Z Q I r h;obtain ⟨a,kvs,ss,rfl,C,T,w,q⟩:=h;obtain ⟨u,rfl,N⟩:=vals1 r;cases N;obtain ⟨L,E,d,v,K⟩:=kH I.hok C;obtain ⟨Y,O⟩:=K.dictAt;refine KY w (λ R U=>?_) λ n f c F ss' e J P g i p r=>?_
 ·have keys:d.map (·.1)=ss.map Sum.inr:=v.keys.symm.trans T;have D:d.length=ss.length:=by have:=ZU A8 keys;simpa using this
  refine j4e (PySem.W.kdl_dict E) (show X.A.in1.handled=none from I.ok.hd hcalm) O (by rw [<-v.length];exact L) λ f c a0 k B=>U f c _ k (vC (by rw [R1,B.1,D]) λ j u e=>?_);obtain ⟨y,x,S,M⟩:=B.2 j u (by rw [<-C5];exact e);have b:(d.map (·.1))[j]? = some y:=by rw [M0,S];rfl
  rw [keys,M0] at b;cases en:ss[j]? with
  | none=>rw [en] at b;cases b
  | some i=>
   rw [en] at b;have b:Sum.inr i=y:=A1 b;subst b;rcases nF (show hJ (.inr i) u=true from M) with ⟨_,_,z,_⟩|⟨i',t,z,rfl⟩
   ·cases z
   ·cases z;exact ⟨i,t,rfl,rfl⟩
 ·have m:Inv X G σ H { s with heap:=n }:=I.kept (t':=s.toks) J;refine ⟨.ref n.objs.size,_,m.laid (t':=c) (o:=.lst (ss'.map V.str)) P (u0 _) ⟨?_,F.toList,e,GE i,by simpa using g⟩,rfl,q _ ss' (m.hok.fresh (u0 _)) p r⟩;rw [C0,p.length_eq];exact D0 (T3 w) (by decide)
end
def mX:V->List V->Hp->VK->Prop:=λ x vs H Q=>∃(l:ZS) (ss:List ZR) (z:ZR) (j:Nat),x=.ref l/\vs=[.str z]/\H l=some (.lst (ss.map V.str))/\ss.length<=1000/\ss[j]? = some z/\(∀m,m < j->ss[m]?≠some z)/\Q (.int (j:Nat)) H
section
def Lv {ss:List ZR} :∀{us:List ZG},aJ (ss.map V.str) us->∀(j:Nat) (u:ZG),us[j]? = some u->∃y t,ss[j]? = some y/\u=X6 y t:=by
 induction ss with
 | nil=>intro us r j u e;rw [c6] at r;cases r;simp at e
 | cons n ss ih=>
  intro us r j u e;rw [C1] at r;cases r with
  | cons r1 r2=>
   obtain ⟨t,rfl⟩:=r1;cases j with
   | zero=>rw [d3] at e;cases e;exact ⟨n,t,rfl,rfl⟩
   | succ j=>rw [G2] at e;exact ih r2 j u e
theorem Of:wG X "list.index" mX:=by
 intro J s σ H x K v L Q I w B h;obtain ⟨l,G,z,j,rfl,rfl,C,O,k,g,q⟩:=h;cases w;obtain ⟨u,rfl,A⟩:=B.one;obtain ⟨t,rfl⟩:=A;obtain ⟨M,c,n,r,N,e⟩:=I.lstM C;have lt:j < c.length:=by rw [<-r.length,C0];exact (List.getElem?_eq_some_iff.mp k).1
 let ev:ZG->Bool:=λ y=>match y with | .str a _=>a == z|_=>false
 have at_ :∀m (g:m < c.toArray.size),∃y d,G[m]? = some y/\c.toArray[m]=X6 y d:=λ m g=>Lv r m _ ((B0 (show m < c.length by simpa using g)).trans (by simp));refine j55 F.slot_list_index ⟨_,e,rfl⟩ F.entry_list_index (F.args_list_index_2 _ _) (SeqAt.list_indexAt l c.toArray n none #[] (.str z t) ev j (by simpa using lt) ?_ ?_ ?_) ⟨e,λ y E=>?_,?_⟩
 ·have:=(List.getElem?_eq_some_iff.mp k).1;have:(j:Int) < 1000:=by lia
  exact Int.lt_trans this (by decide)
 ·obtain ⟨y,d,f,b⟩:=at_ j (by simpa using lt);rw [b];rw [k] at f;cases f;exact beq_self_eq_true z
 ·intro m i p;obtain ⟨y,d,f,b⟩:=at_ m i;rw [b];refine beq_eq_false_iff_ne.mpr λ e=>g m p ?_;rw [f,e]
 ·obtain ⟨m,i,o⟩:=Array.mem_iff_getElem.mp E;obtain ⟨D,d,f,b⟩:=at_ m i;rw [b] at o;subst o;exact j3e D d z t
 ·exact ⟨.int (j:Nat),H,I.tok _,⟨_,rfl⟩,q⟩
def Eb {o:ZN} {es:List ZN} {to:TE} {t:TA} {apos cpos:ZP} (ho:PE X o to) (ha:PA X (e :: es) t)
  (hbase:u4 o "index" X.env (O3 o X.env)=O3 o X.env:=by rfl)
  (hfew:((J4 cpos (N1 (e :: es) X.env)).all (λ x=>!x.1) && (N9 cpos (V6 [] X.env)).all (λ x=>x.1.isSome) && decide ((e :: es).length + ([]:List A6).length + (if ([]:List A6).isEmpty then 0 else 1) < 30))=true:=by rfl)
  (hline:(apos.endLine == cpos.line)=true:=by rfl) (hs:N1 (e :: es) X.env=(false,O3 e X.env) :: N1 es X.env:=by rfl) (hplain:(J4 cpos (N1 es X.env)).any (·.1)=false:=by rfl) :
  PE X (.Call (.Attribute o "index" apos) (e :: es) [] cpos) (sN X.K "list" mX to t):=kO O4 PySem.F.slot_list_index PySem.F.type_list_index Of ho ha hbase hfew hline hs hplain
end
noncomputable def fK (xs:List V) (lo hi st:Option Int):List V:=(sliceRange (Z2 lo hi st xs.length).1 (Z2 lo hi st xs.length).2.1 (Z2 lo hi st xs.length).2.2).filterMap λ i=>xs[i]?
variable {xs:List V}
def QZ {lo hi st:Option Int} {y:V} (h:y∈fK xs lo hi st):y∈xs:=by obtain ⟨i,_,e⟩:=List.mem_filterMap.mp h;exact K0 e
theorem HE {us:List ZG} (r:aJ xs us) :∀is:List Nat,aJ (is.filterMap λ i=>xs[i]?) (is.filterMap λ i=>us[i]?)
 | []=>.nil
 | i :: is=>by
  have a:=HE r is;have b:=r.length;cases e:xs[i]? with
  | none=>have c:us[i]? = none:=E4 (by rw [<-b];exact List.getElem?_eq_none_iff.mp e);rw [j40 e,j40 c];exact a
  | some x=>obtain ⟨u,f,d⟩:=r.get e;rw [F8 e,F8 f];exact .cons d a
theorem MG {lo hi:Option Int} {k:Int} (hk:0 < k):(fK xs lo hi (some k)).length<=xs.length:=by
 refine D0 (E8 _ _) ?_;have c:(Z2 lo hi (some k) xs.length).2.2=k:=rfl;have e:0<=(Z2 lo hi (some k) xs.length).1:=by
  cases lo with
  | none=>show 0<=(if k > 0 then (0:Int) else _);rw [ZZ hk];exact j2a _
  | some i=>show 0<=(if k > 0 then max (0:Int) _ else _);rw [ZZ hk];exact Int.le_max_left _ _
 have d:(Z2 lo hi (some k) xs.length).2.1<=(xs.length:Int):=by
  cases hi with
  | none=>show (if k > 0 then (xs.length:Int) else _)<=_;rw [ZZ hk];exact j2a _
  | some i=>show (if k > 0 then max (0:Int) (min _ (xs.length:Int)) else _)<=_;rw [ZZ hk];lia
 rw [c];generalize (Z2 lo hi (some k) xs.length).1=a at e⊢;generalize (Z2 lo hi (some k) xs.length).2.1=b at d⊢;unfold sliceRange;rw [C0,F2,ZZ hk];by_cases z:a < b
 ·rw [ZZ z];have:(b - a + k - 1) / k < b - a + 1:=by
   apply Int.ediv_lt_of_lt_mul hk;have:(b - a + 1) * k=(b - a) * k + k:=by rw [Int.add_mul,Int.one_mul]
   have f:b - a<=(b - a) * k:=by
    have:=Int.mul_le_mul_of_nonneg_left (show (1:Int)<=k by lia) (show 0<=b - a by lia)
    lia
   lia
  lia
 ·rw [Z_ z];exact S1 _
def Au (K:b0) (te:TE) (tl th ts:TO):TE:=λ σ H Q=>te σ H λ x H1=>tl σ H1 λ l H2=>th σ H2 λ u H3=>ts σ H3 λ k H4=>∃a xs,x=.ref a/\aK K H4 a xs/\k≠some 0/\(fK xs l u k).length<=ZF/\∀p,H4 p=none->Q (.ref p) (upd H4 p (.lst (fK xs l u k)))
theorem NN {lo hi:Option ZN} {st:ZN} {tl th ts:TO} {p2:ZP} (he:PE X e te) (hl:PO X lo tl) (hu:PO X hi th) (hs:PO X (some st) ts):PE X (.Subscript e (.Slice lo hi (some st) p2) pos) (Au X.K te tl th ts):=by
 intro d s σ H Q I h;refine j59 (bb (he d s σ H _ I h) λ v B zz=>?_);obtain ⟨x,H1,I1,r1,q1⟩:=zz;refine wpAny_Slice (bb (hl d B σ H1 _ I1 q1) λ j C ⟨l,H2,I2,pl,q2⟩=>bb (hu d C σ H2 _ I2 q2) λ g z ⟨u,H3,I3,pu,q3⟩=>bb (hs d z σ H3 _ I3 q3) λ n c zz=>?_);obtain ⟨k,H4,I4,pk,a,xs,ex,hx,k0,hz,q⟩:=zz;subst ex;cases r1;have f:Inv X d σ H4 { c with heap:=c.heap.push { cls:=.type "slice",data:=.fields #[j,g,n] } }:=I4.kept (t':=c.toks) λ b D q=>F0 _ q;obtain ⟨m,r,p,E⟩:=f.list hx;have t:=r.length;refine (show V0 (F1 X.prog X.w) X.A (j1i e (.Slice lo hi (some st) p2) (.ref a) (.ref c.heap.objs.size)) (EP X d σ Q) X.xe { c with heap:=c.heap.push { cls:=.type "slice",data:=.fields #[j,g,n] } } from ?_);refine j51 (ops:=[.ref a,.ref c.heap.objs.size]) p.isList.typeIs slot_list_getitem.lookup ?_ (by with_unfolding_all rfl);refine wpAny_getItem_list_slice p.isList (j2b ..) pl pu pk k0 ?_ (by rw [N0];lia);have y:slicePick m.toArray l u k=((sliceRange (Z2 l u k xs.length).1 (Z2 l u k xs.length).2.1 (Z2 l u k xs.length).2.2).filterMap λ i=>m[i]?).toArray:=by unfold slicePick;rw [N0,<-t];simp only [G9]
 rw [y];exact ⟨.ref _,_,f.laid (t':=c.toks) (o:=.lst (fK xs l u k)) (λ b D q=>F0 _ q) (u0 _) ⟨hz,_,0,HE r _,Z0 _ rfl⟩,rfl,q _ (f.hok.fresh (u0 _))⟩
def vK (K:b0):R2:=λ x y H Q=>∃a b xs ys,x=.ref a/\y=.ref b/\aH K H a xs/\aH K H b ys/\xs.length + ys.length<=ZF/\∀p H',af H H'->aH K H' p (xs++ys)->Q (.ref p) H'
def xB:eA X (z5 .Add) (vK X.K):=by
 intro g s σ H x y v u Q I i f h;obtain ⟨a,b,d,j,rfl,rfl,c,e,k,q⟩:=h;by_cases hy:j=[]
 ·subst hy;cases d with
  | nil=>exact Iw g s σ H _ _ v u Q I i f ⟨a,b,[],rfl,rfl,c,e,q b H (af.refl H) e⟩
  | cons x d=>exact vz g s σ H _ _ v u Q I i f ⟨a,b,x :: d,[],rfl,rfl,c,e,by simp,k,λ _=>q a H (af.refl H) (by rw [D2];exact c),λ z=>ZV rfl z⟩
 ·exact eP g s σ H _ _ v u Q I i f ⟨a,b,d,j,rfl,rfl,c,e,hy,k,q⟩
def pe {c:ZN} {a b:List ZL} {t:TT} {ta tb:TS} (hc:PT X c t) (ha:oB X a ta) (hb:oB X b tb):QS X (.If c a b pos) (k_ t ta tb):=⟨aN hc ha.run hb.run⟩
theorem FI:∀{ys:List V},(∀y∈ys,∃i:Int,y=.int i)->∃ms:List Int,ys=ms.map V.int
 | [],_=>⟨[],rfl⟩
 | y :: ys,h=>by obtain ⟨i,rfl⟩:=h y R0;obtain ⟨ms,rfl⟩:=FI λ z a=>h z (W0 _ a);exact ⟨i :: ms,rfl⟩
def OZ {tb:TE} {r:R2} {σ:St} {Q:Bool->Hp->Prop} (h:te σ H λ x H1=>f [x] H1 λ y H2=>tb σ H2 λ z H3=>r y z H3 λ b H4=>∃k,b=.bl k/\Q k H4):oT (jQ r (nA f (dD te gi)) tb) σ H Q:=h
variable {D:Ends}
def vA {c:TT} {a b:TS} {σ:St} (h:c σ H λ k H1=>if k=true then a D σ H1 else b D σ H1):k_ c a b D σ H:=h
section
def FD (K:b0):V->List V->Hp->VK->Prop:=λ x vs H Q=>∃l b xs zs,x=.ref l/\vs=[.ref b]/\H l=some (.lst xs)/\aH K H b zs/\xs.length + zs.length<=ZF/\Q .non (upd H l (.lst (xs++zs)))
theorem Pp:wG X "list.extend" (FD X.K):=by
 intro A s σ H x B v G Q I m t h;obtain ⟨l,b,J,M,rfl,rfl,f,k,D,q⟩:=h;cases m;obtain ⟨u,rfl,o⟩:=t.one;cases o;obtain ⟨z,a,n,r,N,e⟩:=I.lstM f;obtain ⟨d,c,j,y⟩:=I.tuple k;obtain ⟨C,g,w,E,p⟩:=id j;have L:=c.length;refine B3 F.slot_list_extend ⟨_,e,rfl⟩ F.entry_list_extend ?_ (F.args_list_extend_2 _ _);refine (show V0 _ _ (j0f (.ref l) (.ref b) .none) _ _ s from ?_);unfold j0f;refine d0 (W9 (T:="tuple") ⟨_,g,w⟩ ?_);rw [ZZ (by simp)];refine d0 (listItems_at g p (d0 (listItems_at e rfl ?_)));have i:a.toArray.size + d.toArray.size<=ZF:=by rw [N0,N0];lia
 rw [Z_ (by rw [EB i,Z7];exact O0)];refine d0 (j1j e rfl (L0 ⟨_,rfl,?_⟩) (by rw [N0];lia) (by rw [Array.size_append];lia));refine ⟨.non,_,I.lset (its':=a++d) f e (by simp) (r.append c) ?_,rfl,q⟩;rw [G0];lia
def PZ {o:ZN} {es:List ZN} {to:TE} {t:TA} {apos cpos:ZP} (ho:PE X o to) (ha:PA X (e :: es) t)
  (hbase:u4 o "extend" X.env (O3 o X.env)=O3 o X.env:=by rfl)
  (hfew:((J4 cpos (N1 (e :: es) X.env)).all (λ x=>!x.1) && (N9 cpos (V6 [] X.env)).all (λ x=>x.1.isSome) && decide ((e :: es).length + ([]:List A6).length + (if ([]:List A6).isEmpty then 0 else 1) < 30))=true:=by rfl)
  (hline:(apos.endLine == cpos.line)=true:=by rfl) (hs:N1 (e :: es) X.env=(false,O3 e X.env) :: N1 es X.env:=by rfl) (hplain:(J4 cpos (N1 es X.env)).any (·.1)=false:=by rfl) :
  PE X (.Call (.Attribute o "extend" apos) (e :: es) [] cpos) (sN X.K "list" (FD X.K) to t):=kO O4 j2i j2h Pp ho ha hbase hfew hline hs hplain
end
variable {K:b0} {a:ZS}
def Ld (hq:aH K H1 a xs):hS af (kT K a) H1 xs.length (λ i v H=>∃x p,xs[i]? = some x/\v=.ref p/\H p=some (.tup [.int (i:Nat),x])):=by refine ⟨λ i b H s=>⟨xs,xs[i],s.seqT hq,by simp [b]⟩,λ H s=>⟨xs,s.seqT hq,rfl⟩,λ i b H v e s y=>?_⟩;obtain ⟨p,c,rfl,f⟩:=y;obtain ⟨x,d,rfl⟩:=f xs (s.seqT hq);exact ⟨af.upd c,x,p,d,rfl,ab⟩
def LH (hq:aK K H1 a xs):hS af (lA K a) H1 xs.length (λ i v H=>∃x p,xs[i]? = some x/\v=.ref p/\H p=some (.tup [.int (i:Nat),x])):=by refine ⟨λ i b H s=>⟨xs,xs[i],s.seq hq,by simp [b]⟩,λ H s=>⟨xs,s.seq hq,rfl⟩,λ i b H v e s y=>?_⟩;obtain ⟨p,c,rfl,f⟩:=y;obtain ⟨x,d,rfl⟩:=f xs (s.seq hq);exact ⟨af.upd c,x,p,d,rfl,ab⟩
def QF {σ:St} (p:Nat->Bool) (R:Nat->V->Hp->Prop) (hR :∀i y H H',af H H'->R i y H->R i y H') (hta :∀T:List V->Hp->Prop,T [.ref a] H1->ta σ H T) (hq:aH K H1 a xs) (hn:xs.length<=ZF)
  (body :∀i,i < xs.length->∀v H,af H1 H->(∃x p,xs[i]? = some x/\v=.ref p/\H p=some (.tup [.int (i:Nat),x]))->∀(KT:VK) (KF:Hp->Prop),(p i=true->∀y H',af H H'->R i y H'->KT y H')->(p i=false->∀H',af H H'->KF H')->
   g v (aM σ fr (X1 m none)) H λ σ6 H6=>∃us,us.length=m/\σ6=aM σ fr us/\tc (aM σ fr us) H6 λ b H2=>if b=true then te (aM σ fr us) H2 KT else KF H2)
  (hQ :∀l H' ys,af H1 H'->H' l=none->av (λ i y=>R i y H') ((B1 xs.length).filter p) ys->Q (.ref l) (upd H' l (.lst ys))):cx (Gb K ta) m fr g tc te σ H Q:=
 hta _ ⟨a,xs,rfl,hq,oF (af.refl _) (λ _ _ _ a b=>a.trans b) p R hR (Ld hq) hn body hQ⟩
variable {σ:L2.St}
def CA {tl:TE} (p:Nat->Bool) (R:Nat->V->Hp->Prop) (hR :∀i y H H',af H H'->R i y H->R i y H') (htl :∀R:VK,R (.ref a) H1->tl σ H R) (hq:aK K H1 a xs) (hn:xs.length<=ZF)
  (body :∀i,i < xs.length->∀v H,af H1 H->xs[i]? = some v->∀(KT:VK) (KF:Hp->Prop),(p i=true->∀y H',af H H'->R i y H'->KT y H')->(p i=false->∀H',af H H'->KF H')->
   g v (aM σ fr (X1 m none)) H λ σ6 H6=>∃us,us.length=m/\σ6=aM σ fr us/\tc (aM σ fr us) H6 λ b H2=>if b=true then te (aM σ fr us) H2 KT else KF H2)
  (hQ :∀l H' ys,af H1 H'->H' l=none->av (λ i y=>R i y H') ((B1 xs.length).filter p) ys->Q (.ref l) (upd H' l (.lst ys))):cx (iB K tl) m fr g tc te σ H Q:=
 htl _ ⟨a,rfl,⟨xs,hq⟩,oF (af.refl _) (λ _ _ _ a b=>a.trans b) p R hR (Dz (S:=af) (λ _ _=>af.refl _) λ H s=>s.seq hq) hn body hQ⟩
def MI (p:Nat->Bool) (R:Nat->V->Hp->Prop) (hR :∀i y H H',af H H'->R i y H->R i y H') (hta :∀T:List V->Hp->Prop,T [.ref a] H1->ta σ H T) (hq:aK K H1 a xs) (hn:xs.length<=ZF)
  (body :∀i,i < xs.length->∀v H,af H1 H->(∃x p,xs[i]? = some x/\v=.ref p/\H p=some (.tup [.int (i:Nat),x]))->∀(KT:VK) (KF:Hp->Prop),(p i=true->∀y H',af H H'->R i y H'->KT y H')->(p i=false->∀H',af H H'->KF H')->
   g v (aM σ fr (X1 m none)) H λ σ6 H6=>∃us,us.length=m/\σ6=aM σ fr us/\tc (aM σ fr us) H6 λ b H2=>if b=true then te (aM σ fr us) H2 KT else KF H2)
  (hQ :∀l H' ys,af H1 H'->H' l=none->av (λ i y=>R i y H') ((B1 xs.length).filter p) ys->Q (.ref l) (upd H' l (.lst ys))):cx (FZ K ta) m fr g tc te σ H Q:=
 hta _ ⟨a,xs,rfl,hq,oF (af.refl _) (λ _ _ _ a b=>a.trans b) p R hR (LH hq) hn body hQ⟩
def tf {tl:TE} (p:Nat->Bool) (R:Nat->V->Hp->Prop) (hR :∀i y H H',af H H'->R i y H->R i y H') (htl :∀R:VK,R (.ref a) H1->tl σ H R) (hq:aH K H1 a xs) (hn:xs.length<=ZF)
  (body :∀i,i < xs.length->∀v H,af H1 H->xs[i]? = some v->∀(KT:VK) (KF:Hp->Prop),(p i=true->∀y H',af H H'->R i y H'->KT y H')->(p i=false->∀H',af H H'->KF H')->
   g v (aM σ fr (X1 m none)) H λ σ6 H6=>∃us,us.length=m/\σ6=aM σ fr us/\tc (aM σ fr us) H6 λ b H2=>if b=true then te (aM σ fr us) H2 KT else KF H2)
  (hQ :∀l H' ys,af H1 H'->H' l=none->av (λ i y=>R i y H') ((B1 xs.length).filter p) ys->Q (.ref l) (upd H' l (.lst ys))):cx (pN K tl) m fr g tc te σ H Q:=
 htl _ ⟨a,rfl,⟨xs,hq⟩,oF (af.refl _) (λ _ _ _ a b=>a.trans b) p R hR (HW (S:=af) (λ _ _=>af.refl _) λ H s=>s.seqT hq) hn body hQ⟩
def mI (h:te σ H λ x H1=>f [x] H1 Q):nA f (dD te gi) σ H Q:=h
def qB {t u:TT} {Q:Bool->Hp->Prop} (h:t σ H λ c H1=>if c=true then Q true H1 else u σ H1 Q):DG t u σ H Q:=h
def kr {c:TT} {a b rest:TS} (h:c σ H λ k H1=>if k=true then a { D with nx:=rest D } σ H1 else b { D with nx:=rest D } σ H1):gE (k_ c a b) rest D σ H:=h
def fZ (h:te σ H D.rt):kX te D σ H:=h
section
variable {pins:List (ZS×ZQ)} {σ:St} {s:A0} {u v:HO}
def Inv.retold (I:Inv X pins σ H s) (e:H a=some u) (nt :∀xs,u≠.tup xs) (nb :∀ps,u≠.tbl ps) (no :∀c,u≠.own c) (nf :∀o w,X.H₀ a≠some (.frz o w)) (ok:br X.prog X.w (upd H a v) s.heap a v):Inv X pins σ (upd H a v) s:=by
 have d :∀{b:ZS},H b=none->b≠a:=λ n z=>by rw [z,e] at n;cases n
 refine ⟨I.ok,I.os,I.bare,⟨I.base.keep,I.base.slot,λ b o q n k=>?_,I.base.there,λ b xs q=>?_,λ b o w q=>?_,λ b ps q=>?_⟩,I.loc,I.cell,?_,λ x c q=>?_,λ p j=>?_,λ b o q=>?_,I.len⟩
 ·have z:=I.base.free b o q n k;rw [ak (d z)];exact z
 ·have z:=I.base.tups b xs q;rw [ak (λ y=>by rw [y,e] at z;exact nt xs (A1 z))];exact z
 ·have z:=I.base.frzs b o w q;rw [ak (λ y=>by rw [y] at q;exact nf o w q)];exact z
 ·obtain ⟨i,z⟩:=I.base.tbls b ps q;exact ⟨i,by rw [ak (λ y=>by rw [y,e] at z;exact nb _ (A1 z))];exact z⟩
 ·rw [ak (d I.free)];exact I.free
 ·rw [ak (d (I.freeC x c q))];exact I.freeC x c q
 ·obtain ⟨g,f,h⟩:=I.pin p j;exact ⟨g,by rw [ak (d f)];exact f,h⟩
 ·by_cases z:b=a
  ·subst z;rw [ab] at q;cases q;exact ok
  ·rw [ak z] at q;refine (I.hok b o q).stay (λ _ _ _ y=>y) (λ c y=>?_) λ c xs y=>?_
   ·rw [ak (λ x=>by rw [x,e] at y;exact no b (A1 y))];exact y
   ·rw [ak (λ x=>by rw [x,e] at y;exact nt xs (A1 y))];exact y
end
def AL {Q:List V->Hp->Prop} (h:te σ H λ y H1=>Q [y] H1):dD te gi σ H Q:=h
section
def wg (K:b0):R2:=λ x y H Q=>∃a b xs,x=.ref a/\y=.ref b/\aK K H a xs/\aK K H b []/\Q (.bl (decide (xs≠[]))) H
def EH {k:Nat} (hr:bQ k X.A):eA X (V2 .NotEq) (wg X.K):=by
 intro C s σ H x y v u Q I n m h;obtain ⟨a,b,o,rfl,rfl,l,r,q⟩:=h;cases n;cases m;obtain ⟨B,f,c,_⟩:=I.list l;obtain ⟨D,t,d,_⟩:=I.list r;cases t;have g:X.A.units < ZE:=Nat.lt_of_succ_lt (cQ hr);have i:=f.length;cases o with
 | nil=>cases f;exact SeqAt.RcNeAt.lists (e:=λ _=>true) c.isList d.isList rfl g (λ j p _=>ZV p (L4 _)) X.prog X.w _ _ ⟨.bl _,H,I,rfl,q⟩
 | cons z zs=>refine SeqAt.RcNeAt.lists_lengths c.isList d.isList ?_ g X.prog X.w _ _ ⟨.bl _,H,I,rfl,q⟩;rw [N0,<-i];rfl
end
structure NM (h:ZM) (z T U i j a b:ZS) (n:Nat) (f:ZG):Prop where
 z:IsZip h z T U f
 t:IsPair h T (.ref i) (.ref j)
 u :∃p q,IsPair h U p q
 i:h.IsListIter i a n
 j:h.IsListIter j b n
noncomputable def jl (c:Nat):List (List Nat)->List Nat
 | []=>[]
 | [a]=>a
 | a :: b :: r=>a++c :: jl c (b :: r)
open PySem.NumText
end L2
open PySem PySem.W PyProof.Rows
namespace TJ
section
variable (p:ZJ) (w:U0) (n₀:Nat) (ann:Option ZG) (code:Code) (q:ZP)
theorem OF {n m:Nat} :∀{s s' s'':A0} {t t' t'':j58},segGo M3 p w n₀ ann 1 n s t=some (s',t')->segGo M3 p w n₀ ann 1 m s' t'=some (s'',t'')->
  segGo M3 p w n₀ ann 1 (n + m) s t=some (s'',t''):=by
 induction n with
 | zero=>
  intro s s' s'' t t' t'' h k;obtain ⟨rfl,rfl⟩:s=s'/\t=t':=by simpa [segGo] using h
  rw [A5];exact k
 | succ n ih=>
  intro s s' s'' t t' t'' h k;rw [show n + 1 + m=n + m + 1 by omega];unfold segGo at h⊢;cases he:endAt 1 t with
  | some f=>rw [he] at h;cases h
  | none=>
   rw [he] at h;cases hk:stepOk n₀ ann t with
   | false=>rw [hk] at h;cases h
   | true=>
    rw [hk] at h;cases hs:step (denote M3) p w s t with
    | halt o s₂=>rw [hs] at h;cases h
    | go s₂ t₂=>rw [hs] at h;exact ih h k
def eW (c:Nat) (s:A0) (t:j58) (s':A0) (t':j58):Prop:=∃n,n<=c/\segGo M3 p w n₀ ann 1 n s t=some (s',t')
def Goes {α:Type} (c:Nat) (x:ZO α) (s:A0) (pos:ZP) (a:α) (s':A0) (pos':ZP):Prop:=
 ∀(K:α->ZO Fin) (H:ZG->ZO Fin) (gd:Bool->Bool) (lv:List ZG->List ZG),
  eW p w n₀ ann c s ⟨x.wrap K H gd lv,code,pos,[topFrame q]⟩ s' ⟨K a,code,pos',[topFrame q]⟩
end
variable {ann:Option ZG} {c n₀:Nat} {code:Code} {o:ZQ} {p:ZJ} {pos pos' q:ZP} {s s':A0} {t:j58} {w:U0}
section
theorem eW.trans {d:Nat} {s'':A0} {t' t'':j58} (h:eW p w n₀ ann c s t s' t') (k:eW p w n₀ ann d s' t' s'' t''):eW p w n₀ ann (c + d) s t s'' t'':=by obtain ⟨n,a,h⟩:=h;obtain ⟨m,b,k⟩:=k;exact ⟨n + m,by omega,OF p w n₀ ann h k⟩
def eW.refl:eW p w n₀ ann 0 s t s t:=⟨0,u0 _,rfl⟩
def eW.le {d:Nat} {t':j58} (h:eW p w n₀ ann c s t s' t') (l:c<=d):eW p w n₀ ann d s t s' t':=let ⟨n,a,b⟩:=h;⟨n,D0 a l,b⟩
def eW.one {t':j58} (he:endAt 1 t=none) (hk:stepOk n₀ ann t=true) (hs:step (denote M3) p w s t=.go s' t'):eW p w n₀ ann 1 s t s' t':=by refine ⟨1,u0 _,?_⟩;unfold segGo;rw [he,hk,hs];rfl
variable {α β:Type} {s'':A0} {pos'':ZP} {a:α} {b:β} {d:Nat}
def Goes.pure:Goes p w n₀ ann code q 0 (j47 a:ZO α) s pos a s pos:=λ _ _ _ _=>.refl
def Goes.le {x:ZO α} (h:Goes p w n₀ ann code q c x s pos a s' pos') (l:c<=d):Goes p w n₀ ann code q d x s pos a s' pos':=λ K H e b=>(h K H e b).le l
def Goes.bind {x:ZO α} {f:α->ZO β} (h:Goes p w n₀ ann code q c x s pos a s' pos') (k:Goes p w n₀ ann code q d (f a) s' pos' b s'' pos''):Goes p w n₀ ann code q (c + d) (x >>= f) s pos b s'' pos'':=by
 intro K H i g;have e:(x >>= f).wrap K H i g=x.wrap (λ a=>(f a).wrap K H i g) H i g:=by rw [Sem.bind_eq_wrap',Sem.wrap_wrap];rfl
 rw [e];exact (h _ H i g).trans (k K H i g)
def Goes.keep {x:ZO α} {vs:List ZG} (h:Goes p w n₀ ann code q c x s pos a s' pos'):Goes p w n₀ ann code q c (x.keep vs) s pos a s' pos':=by intro K H d b;rw [Sem.keep_eq_wrap,Sem.wrap_wrap];exact h K H _ _
def Goes.holding {x:ZO α} {vs:List ZG} (h:Goes p w n₀ ann code q c x s pos a s' pos'):Goes p w n₀ ann code q c (j2e vs x) s pos a s' pos':=by rw [holding_eq_keep];exact h.keep
def Goes.rule {tag:String}:Goes p w n₀ ann code q 1 (PySem.rule tag) s pos () s pos:=λ _ _ _ _=>.one rfl rfl rfl
def Goes.at' {pos₁:ZP}:Goes p w n₀ ann code q 1 (j4c pos₁) s pos () s pos₁:=λ _ _ _ _=>.one rfl rfl rfl
def Goes.loadPart {A:ZS} {part:Option ZG} (ho:s.heap.get? A=some o):Goes p w n₀ ann code q 1 (loadPart A part) s pos o s pos:=λ K H d c=>.one rfl rfl (by obtain ⟨heap,b,e,a,f⟩:=s;show (match heap.get? A with|some o=>Step.go _ _|none=>_)=_;have ho:heap.get? A=some o:=ho;rw [ho];rfl)
def Goes.updatePart {A:ZS} {f:ZQ->ZQ} {part:Option ZG} (ho:s.heap.get? A=some o) (hn:Nat.ble n₀ A=true):Goes p w n₀ ann code q 1 (updatePart A part f) s pos () { s with heap:=s.heap.update A f } pos:=λ K H d c=>
 .one rfl (by
  show (_ && (Nat.ble n₀ A || _ || _ || _))=true;rw [hn];rfl) (by
  obtain ⟨heap,b,e,a,g⟩:=s;have ho:heap.get? A=some o:=ho;show (if (heap.get? A).isSome=true then Step.go _ _ else _)=_;rw [ho];rfl)
def Goes.leaf {x:ZO α} {sT sT':SharedT} (n:Nat) (h :∀K H gd lv,segGoT M3 p w n₀ ann 1 n sT ⟨x.wrap K H gd lv,code,pos,[topFrame q]⟩=some (sT',⟨K a,code,pos',[topFrame q]⟩)) :
  Goes p w n₀ ann code q n x sT.abs pos a sT'.abs pos':=λ K H gd lv=>⟨n,u0 _,segGo_of (h K H gd lv)⟩
end
variable {a d:ZS} {cq ep:Nat} {es:Array ZH}
section
theorem Goes.forIn {γ β:Type} {f:γ->β->ZO (ForInStep β)} {b:β} :∀{l:List γ},(∀x∈l,Goes p w n₀ ann code q c (f x b) s pos (.yield b) s pos)->Goes p w n₀ ann code q (l.length * c) (ForIn.forIn l b f) s pos b s pos
 | [],_=>by rw [X4];exact Goes.pure.le (S1 _)
 | x :: l,h=>by rw [A4];have k:=Goes.forIn (l:=l) λ y a=>h y (W0 _ a);have e:=Goes.bind (f:=λ r=>match r with | .done b=>(j47 b:ZO β) | .yield b=>ForIn.forIn l b f) (h x R0) k;exact e.le (by rw [P0,Nat.add_mul];omega)
def Goes.entries {part:Option ZG} (ho:s.heap.get? d=some o) (hd:o.data=.dict es ep):Goes p w n₀ ann code q 1 (dictEntries d part) s pos es s pos:=by unfold dictEntries;refine (Goes.bind (d:=0) (Goes.loadPart ho) ?_);rw [hd];exact Goes.pure
def Goes.epoch {part:Option ZG} (ho:s.heap.get? d=some o) (hd:o.data=.dict es ep):Goes p w n₀ ann code q 1 (dictEpoch d part) s pos ep s pos:=by unfold dictEpoch;refine (Goes.bind (d:=0) (Goes.loadPart ho) ?_);rw [hd];exact Goes.pure
def Goes.mayTell {stored:List ZG} (hq:Goes p w n₀ ann code q cq (P4 8 (.ref a)) s pos true s pos) (hs :∀v∈stored,Goes p w n₀ ann code q cq (P4 8 v) s pos true s pos) :
  Goes p w n₀ ann code q (cq + stored.length * cq) (tableMayTell (.ref a) stored) s pos false s pos:=by
 unfold tableMayTell;split
 ·exact Goes.pure.le (S1 _)
 ·refine Goes.bind hq ?_;simp only [z6,u3,if_false];refine (Goes.bind (a:=(none,())) (d:=0) (Goes.forIn λ v b=>?_) ?_).le (u0 _)
  ·refine (Goes.bind (d:=0) (hs v b) ?_).le (u0 _);simp only [z6,u3,if_false];exact Goes.pure
  ·exact Goes.pure
theorem Goes.find_none {h:Int} {ce:Nat} (ho:s.heap.get? d=some o) (hd:o.data=.dict es ep)
  (hq:Goes p w n₀ ann code q cq (P4 8 (.ref a)) s pos true s pos)
  (hk :∀e∈es.toList,∃b,e.key=.ref b/\b≠a/\Goes p w n₀ ann code q cq (P4 8 (.ref b)) s pos true s pos/\Goes p w n₀ ann code q ce (eqBool (.ref b) (.ref a)) s pos false s pos) :
  Goes p w n₀ ann code q (2 + cq + es.size * (cq + ce + 10)) (dictFind d (.ref a) h) s pos none s pos:=by
 have n :∀(i:Nat) (e:ZH),es[i]? = some e->e∈es.toList:=λ i e u=>Array.mem_toList_iff.mpr (Array.mem_of_getElem? u);have B:¬ (es.any λ e=>e.key == E1 a && e.hash != h)=true:=by rw [<-Array.any_toList,b7];rintro ⟨e,hin,hc⟩;obtain ⟨b,f,g,_⟩:=hk e hin;simp only [f,J2,beq_iff_eq,Value.ref.injEq] at hc;exact g hc.1
 have l :∀v∈(d7 es.size (λ i=>es[i]?.map (·.hash)) h).filterMap (λ i=>es[i]?.map (·.key)),∃b,v=.ref b/\b≠a/\Goes p w n₀ ann code q cq (P4 8 v) s pos true s pos:=by
  intro v k;obtain ⟨i,_,j⟩:=List.mem_filterMap.mp k;cases hei:es[i]? with
  | none=>rw [hei] at j;cases j
  | some e=>
   rw [hei] at j;obtain rfl:e.key=v:=by simpa using j
   obtain ⟨b,f,g,y,_⟩:=hk e (n i e hei);exact ⟨b,f,g,f ▸ y⟩
 have m:(d7 es.size (λ i=>es[i]?.map (·.hash)) h).length<=es.size:=by unfold d7;exact D0 (U2 _ _) (by rw [F2];exact u0 _)
 have r:((d7 es.size (λ i=>es[i]?.map (·.hash)) h).filterMap (λ i=>es[i]?.map (·.key))).length<=es.size:=D0 (E8 _ _) m;unfold dictFind;refine Goes.holding ?_;refine (Goes.bind (d:=1 + cq + es.size * (cq + ce + 10)) (Goes.entries ho hd) ?_).le (by omega);dsimp only;rw [Z_ (show ¬ ((E1 a :: (d7 es.size (λ i=>es[i]?.map (·.hash)) h).filterMap (λ i=>es[i]?.map (·.key))).all carriedByValue)=true by simp [carriedByValue])];rw [Z_ B];have t:¬ (((d7 es.size (λ i=>es[i]?.map (·.hash)) h).filterMap (λ i=>es[i]?.map (·.key))) == [E1 a])=true:=by intro e;have e:=eq_of_beq e;obtain ⟨b,f,g,_⟩:=l (.ref a) (by rw [e];exact List.mem_singleton.mpr rfl);exact g (by injection f with f;exact f.symm)
 rw [Z_ t];refine (Goes.bind (d:=1 + es.size * (ce + 10)) (Goes.mayTell hq λ v k=>(let ⟨_,_,_,z⟩:=l v k;z)) ?_).le ?_
 ·rw [Z_ (by simp)];refine (Goes.bind (a:=(none,none)) (d:=0) (Goes.forIn (c:=ce + 10) λ i j=>?_) ?_).le ?_
  ·cases hei:es[i]? with
   | none=>exact Goes.pure.le (S1 _)
   | some e=>
    dsimp only;split
    ·obtain ⟨b,f,g,_,x⟩:=hk e (n i e hei);rw [f];refine (Goes.bind (d:=ce + 2) (Goes.epoch ho hd) (Goes.bind (d:=2) x (Goes.bind (d:=1) (Goes.epoch ho hd) ?_))).le (by omega);rw [Z_ (by simp)];rw [Z_ (by simp)];refine Goes.bind (d:=0) Goes.rule ?_;rw [Z_ (by simp)];exact Goes.pure
    ·exact Goes.pure.le (S1 _)
  ·exact Goes.pure
  ·have:=C7 (ce + 10) m;omega
 ·have:=C7 cq r;have A:es.size * (cq + ce + 10)=es.size * cq + es.size * (ce + 10):=by rw [<-Nat.mul_add,j0h]
  rw [A];omega
end
noncomputable abbrev cS (es:Array ZH) (ep:Nat):ZQ:={ cls:=.type "dict",data:=.dict es ep }
noncomputable abbrev yh:=ZS×ZG×Int
noncomputable def ent (x:yh):ZH:=⟨x.2.2,.ref x.1,x.2.1⟩
noncomputable def sL (a:ZS):ZO ZG:=do rule "hash.unhashable";raiseError "TypeError" s!"unhashable type: '{← typeNameOf (.ref a)}'"
noncomputable def xu (d:ZS) (vs:List (ZG×ZG)):ZO PUnit:=F5 vs j0c λ (x:ZG×ZG) (_:PUnit)=>(do dictSet d x.1 x.2;W1 (T2 j0c):ZO (ForInStep PUnit))
variable {N:Nat} {env:Env}
section
variable {F:ZQ->Nat->SharedT} 
structure wX (n₀:Nat) (d:ZS) (F:ZQ->Nat->SharedT):Prop where
 le:Nat.ble n₀ d=true
 get :∀es ep tk,(F (cS es ep) tk).abs.heap.get? d=some (cS es ep)
 upd :∀es ep tk (e:ZH),({ (F (cS es ep) tk).abs with heap:=(F (cS es ep) tk).abs.heap.update d (E9 (·.push e)) }:A0)=(F (cS (es.push e) (ep + 1)) tk).abs
theorem Goes.updKeys (Z:wX n₀ d F) {tk:Nat} {e:ZH} {part:Option ZG} (hsz:es.size < ZF) :
  Goes p w n₀ ann code q 3 (updateDictKeys d (·.push e) part) (F (cS es ep) tk).abs pos () (F (cS (es.push e) (ep + 1)) tk).abs pos:=by
 unfold updateDictKeys;refine (Goes.bind (d:=2) (Goes.loadPart (Z.get es ep tk)) ?_);dsimp only;have u:=Goes.updatePart (p:=p) (w:=w) (ann:=ann) (code:=code) (q:=q) (pos:=pos) (part:=part) (f:=E9 (·.push e)) (Z.get es ep tk) Z.le;rw [Z.upd es ep tk e] at u;refine Goes.bind (d:=1) u ?_;unfold lookBehind;refine Goes.bind (d:=0) (Goes.loadPart (Z.get _ _ tk)) ?_;have a:(cS (es.push e) (ep + 1)).data.pastItsLine=none:=by unfold Data.pastItsLine;dsimp only;rw [Z_ (by rw [Array.size_push];omega)]
 rw [a];exact Goes.pure
theorem Goes.set (Z:wX n₀ d F) {v:ZG} {tk k cp ce:Nat} {hsh:Int} (hsz:es.size < ZF)
  (hpy:Goes p w n₀ ann code q cp (pyHash (.ref a)) (F (cS es ep) tk).abs pos hsh (F (cS es ep) (tk + k)).abs pos)
  (hq:Goes p w n₀ ann code q cq (P4 8 (.ref a)) (F (cS es ep) (tk + k)).abs pos true (F (cS es ep) (tk + k)).abs pos)
  (hk :∀e∈es.toList,∃b,e.key=.ref b/\b≠a/\Goes p w n₀ ann code q cq (P4 8 (.ref b)) (F (cS es ep) (tk + k)).abs pos true (F (cS es ep) (tk + k)).abs pos/\
   Goes p w n₀ ann code q ce (eqBool (.ref b) (.ref a)) (F (cS es ep) (tk + k)).abs pos false (F (cS es ep) (tk + k)).abs pos) :
  Goes p w n₀ ann code q (cp + (2 + cq + es.size * (cq + ce + 10)) + 4) (dictSet d (.ref a) v) (F (cS es ep) tk).abs pos () (F (cS (es.push ⟨hsh,.ref a,v⟩) (ep + 1)) (tk + k)).abs pos:=by
 unfold dictSet;refine Goes.holding ?_;refine (Goes.bind (d:=(2 + cq + es.size * (cq + ce + 10)) + 4) hpy ?_).le (by omega);unfold dictSetHashed;refine Goes.holding ?_;refine Goes.bind (d:=4) (Goes.find_none (h:=hsh) (Z.get es ep (tk + k)) rfl hq hk) ?_;exact Goes.bind (d:=3) Goes.rule (Goes.updKeys Z hsz)
def IZ {γ β:Type} {f:γ->β->ZO (ForInStep β)} {x:γ} {xs:List γ} {b b' b'':β} {c':Nat} {s'':A0} (h:Goes p w n₀ ann code q c (f x b) s pos (.yield b') s' pos) (k:Goes p w n₀ ann code q c' (F5 xs b' f) s' pos b'' s'' pos) :
  Goes p w n₀ ann code q (c + c') (F5 (x :: xs) b f) s pos b'' s'' pos:=by
 rw [A4];exact Goes.bind (f:=λ r=>match r with | .done b=>(j47 b:ZO β) | .yield b=>F5 xs b f) h k
theorem Goes.loop (Z:wX n₀ d F) {cp ce:Nat} (all:List yh) (hN:all.length<=N) (hN':N < ZF) (hnd:(all.map (·.1)).Nodup)
  (hQ :∀x∈all,∀oD tk,Goes p w n₀ ann code q cq (P4 8 (.ref x.1)) (F oD tk).abs pos true (F oD tk).abs pos)
  (hE:all.Pairwise λ x y=>∀oD tk,Goes p w n₀ ann code q ce (eqBool (.ref x.1) (.ref y.1)) (F oD tk).abs pos false (F oD tk).abs pos)
  (hH :∀x∈all,∀oD tk,Goes p w n₀ ann code q cp (pyHash (.ref x.1)) (F oD tk).abs pos x.2.2 (F oD (tk + 3)).abs pos) :
  ∀(todo done:List yh) (tk:Nat),all=done++todo->
   Goes p w n₀ ann code q (todo.length * (cp + (2 + cq + N * (cq + ce + 10)) + 4)) (xu d (todo.map λ x=>(E1 x.1,x.2.1)))
    (F (cS (done.map ent).toArray done.length) tk).abs pos () (F (cS (all.map ent).toArray all.length) (tk + 3 * todo.length)).abs pos:=by
 intro todo;induction todo with
 | nil=>intro done tk e;rw [D2] at e;subst e;unfold xu;rw [c6,X4];exact Goes.pure.le (S1 _)
 | cons x todo ih=>
  intro done tk e;have h:x∈all:=by rw [e];exact Q1 _ R0
  have f:=ih (done++[x]) (tk + 3) (by rw [e,O1];rfl);unfold xu at f⊢;rw [C1];have c:(done.map ent).toArray.size<=N:=by rw [N0,C0];rw [e,G0] at hN;omega
  have g:=Goes.set (p:=p) (w:=w) (ann:=ann) (code:=code) (q:=q) (pos:=pos) (v:=x.2.1) (ep:=done.length) Z (T1 c hN') (hH x h _ tk) (hQ x h _ _) (es:=(done.map ent).toArray) (ce:=ce) (by
   intro s i;obtain ⟨y,a,rfl⟩:=List.mem_map.mp i;have o:y∈all:=by rw [e];exact z7 _ a
   have l:y.1≠x.1:=by rw [e,u1,C1] at hnd;intro q;exact (List.nodup_append.mp hnd).2.2 y.1 (List.mem_map.mpr ⟨y,a,rfl⟩) x.1 R0 q
   rw [e] at hE;exact ⟨y.1,rfl,l,hQ y o _ _,(List.pairwise_append.mp hE).2.2 y a x R0 _ _⟩)
  have m:((done.map ent).toArray.push ⟨x.2.2,.ref x.1,x.2.1⟩)=((done++[x]).map ent).toArray:=by rw [List.push_toArray,u1];rfl
  have j:done.length + 1=(done++[x]).length:=by rw [G0];rfl
  rw [m,j] at g;have k:tk + 3 * (x :: todo).length=(tk + 3) + 3 * todo.length:=by rw [P0];omega
  rw [k];have n:Goes p w n₀ ann code q (_ + 0) (do dictSet d (E1 x.1,x.2.1).1 (E1 x.1,x.2.1).2;j47 (T2 j0c):ZO (ForInStep PUnit)) _ pos (T2 j0c) _ pos:=Goes.bind g Goes.pure;have r:=IZ (b:=j0c) (xs:=todo.map λ x=>(E1 x.1,x.2.1)) n f;refine r.le ?_;rw [P0,Nat.add_mul];have:=C7 (cq + ce + 10) c;omega
noncomputable def Cg (acc:Nat):Int:=if acc == 2 ^ 64 - 1 then 1546275796 else if acc < 2 ^ 63 then acc else (acc:Int) - (2 ^ 64:Nat)
theorem Ot (acc:Nat) (h:acc < 2 ^ 64):-(2:Int) ^ 63<=Cg acc/\Cg acc < 2 ^ 63:=by
 unfold Cg;split
 ·constructor<;>decide
 ·split
  ·constructor<;>omega
  ·constructor<;>omega
def RX (hs:List Int):-(2:Int) ^ 63<=o0 hs/\o0 hs < 2 ^ 63:=
 Ot _ (Nat.mod_lt _ (by decide))
def Goes.pyHashT {hs:List Int} {tok:Tok} (h1:Goes p w n₀ ann code q 1 (cRoomFor "hash" [.ref a]) s pos () s pos)
  (h2:Goes p w n₀ ann code q 1 (specialOf (.ref a) "__hash__") s pos (some (.builtin "tuple.__hash__")) s pos)
  (h3:Goes p w n₀ ann code q 22 (Q7 (.ref a) "__hash__" (sL a)) s pos (some (.int (o0 hs) tok)) s' pos) :
  Goes p w n₀ ann code q 25 (pyHash (.ref a)) s pos (P1 (o0 hs)) s' pos:=by
 have e:pyHash (.ref a)=pyHashByItsType (.ref a):=rfl;rw [e];unfold pyHashByItsType;refine Goes.bind (d:=24) h1 ?_;refine Goes.bind (d:=23) h2 ?_;rw [Z_ (by rw [beq_builtin_none];exact O0)];refine Goes.bind (d:=22) h2 ?_;show Goes p w n₀ ann code q 22 (Q7 (.ref a) "__hash__" (sL a) >>= _) s pos _ s' pos;refine Goes.bind (d:=0) h3 ?_;have r:(decide (-(2:Int) ^ 63<=o0 hs) && decide (o0 hs < 2 ^ 63))=true:=by have r:=RX hs;rw [ZY r.1,ZY r.2];rfl
 show Goes p w n₀ ann code q 0 (if (decide (-(2:Int) ^ 63<=o0 hs) && decide (o0 hs < 2 ^ 63))=true then _ else _) s' pos _ s' pos;have b:P1 (o0 hs)=(if (o0 hs == -1)=true then -2 else o0 hs):=by unfold P1;rw [ZZ r]
 rw [ZZ r,b];exact Goes.pure
def Goes.subDict {pairs:List (ZO ZG×ZO ZG)} {s₁:A0} {vs:List (ZG×ZG)} {c':Nat} {d:ZS} (hlen:pairs.length<=15) (hd:s.heap.objs.size=d)
  (h1:Goes p w n₀ ann code q c (evalPairs pairs) { s with heap:=s.heap.push { cls:=.type "dict",data:=.dict #[] } } pos vs s₁ pos)
  (h2:Goes p w n₀ ann code q c' (xu d vs) s₁ pos () s' pos):Goes p w n₀ ann code q (1 + (c + c')) (subDict pairs) s pos d s' pos:=by
 subst hd;unfold PySem.subDict;refine Goes.bind (a:=s.heap.objs.size) (λ _ _ _ _=>.one rfl rfl rfl) ?_;refine (Goes.bind (d:=0) (a:=()) (Goes.holding ?_) Goes.pure);rw [ZZ hlen];refine Goes.bind h1 ?_;exact Goes.holding (Goes.bind (d:=0) h2 Goes.pure)
def Goes.execs1 {st:ZL} (h:Goes p w n₀ ann code q c (exec st env) s pos .next s' pos'):Goes p w n₀ ann code q c (execs [st] env) s pos .next s' pos':=by rw [execs_cons];exact Goes.bind (d:=0) h Goes.pure
theorem Goes.seg {l:List ZL} (h:Goes p w n₀ ann code q c (execs l env) s pos .next s' pos') :∃n,n<=c + 1/\segRun M3 p w n₀ ann 1 n s (piecesOf l env code pos [topFrame q])=some (.next,s',code,pos'):=by obtain ⟨n,a,h⟩:=h doneF deadEnd id id;exact ⟨n + 1,by omega,seg_go h rfl⟩
end
def KW {q:ZJ} {loose:List ZR} {Xt:A0->Bool} {α:Type} {Yf:A0->α} {Ya:U0->α} {H₀:Q0->ZM} {gs₀:Array GenState} {d₀:Drawn} {k₀ m₀:Nat} {S:U0->Y2->A0}
  (opens :∀w:U0,(fencedOpening M3 p w N).map (λ s=>(s.heap,s.gens,s.drawn,s.toks))=some (H₀ w.params,gs₀,d₀,k₀))
  (sizes :∀w:U0,(((H₀ w.params).isNs K3 && gs₀.size == 0),(H₀ w.params).objs.size,(H₀ w.params).nsMap K3 "__annotations__")=(true,m₀,ann))
  (runs :∀(w:U0) (os:Y2),∃M,M<=N/\topRun M3 p w m₀ ann M ⟨H₀ w.params,gs₀,d₀,k₀,os⟩ (topStub p)=some (S w os))
  (looks1 :∀(w:U0) (os:Y2),(staticsOk (b8 p.main.body) (H₀ w.params) (S w os).heap && namesBound p (S w os).heap && gensDone (S w os) && laidKept (H₀ w.params) (S w os).heap)=true)
  (looks2 :∀(w:U0) (os:Y2),openSeen q loose (b8 p.main.body) Xt true (S w os)=openGood q loose) (looks3 :∀(w:U0) (os:Y2),Yf (S w os)=Ya w):LeftO p q loose Xt Yf Ya N:=by
 intro w;obtain ⟨⟨h,f,i,k,os⟩,e,a⟩:=Option.map_eq_some_iff.mp (opens w);simp only [Prod.mk.injEq] at a;obtain ⟨rfl,rfl,rfl,rfl⟩:=a;have z:=sizes w;simp only [Prod.mk.injEq] at z;obtain ⟨g,d,b⟩:=z;obtain ⟨M,c,r⟩:=runs w os;have r:=topRun_mono (N - M) _ _ _ _ r;rw [Nat.add_sub_cancel' c] at r;have t:topFrom M3 p w N ⟨H₀ w.params,f,i,k,os⟩=some (S w os):=by unfold topFrom;dsimp only;rw [g,d,b,r];show (match (staticsOk (b8 p.main.body) (H₀ w.params) (S w os).heap && namesBound p (S w os).heap && gensDone (S w os) && laidKept (H₀ w.params) (S w os).heap) with|true=>some (S w os)|false=>none)=_;rw [looks1 w os]
 unfold openEnds;rw [e];show (topFrom M3 p w N _).map _=_;rw [t];show some (_,_)=some (_,_);rw [looks2 w os,looks3 w os]
theorem MY {r:A0} {l rest:List ZL} {b:Code} (h:Goes p w n₀ ann b q c (execs l env) s pos .next s' pos')
  (k:topRun M3 p w n₀ ann N s' (restOf rest env b pos' [topFrame q])=some r) :∃M,M<=c + 1 + N/\topRun M3 p w n₀ ann M s (restOf (l++rest) env b pos [topFrame q])=some r:=by
 obtain ⟨n,a,g⟩:=Goes.seg h;exact ⟨n + N,by omega,piece_app g k⟩
end TJ
open PySem.Spec
namespace L2
noncomputable abbrev fnX (x q:ZR) (s:ZL) (m:ZR) (k c:Nat):ZI:=C6 x q (vD s) (pH s) (ck s) .none .none .none (.str m k) none (.ref c) .none
noncomputable abbrev fY (x q:ZR) (s:ZL):=fnX x q s "law_talejudge_k65_whole_strict_by_parts" 749
noncomputable abbrev fO (x q:ZR) (s:ZL) (m:ZR) (k c:Nat):ZQ:=⟨.type "function",none,.func (fnX x q s m k c),#[]⟩
noncomputable abbrev fL (x q:ZR) (s:ZL):=fO x q s "law_talejudge_k65_whole_strict_by_parts" 749
noncomputable abbrev cO (x q:ZR) (i l n a j:Nat):ZQ:=
 ⟨.type "code",none,.fields #[.str x i,.str q (i + 1),.str "/claim/cut.py" (i + 2),.int l 0,.int n 0,.int 0 0,.int 0 0,.int 3 0,.ref a,.bool true,.int 181 0,.ref (a + 1),.none,.ref (a + 2),.ref (a + 3),.ref (a + 4),.int j 0,.int l 0,.str "/claim/cut.py" (j + 1)],#[]⟩
noncomputable abbrev cP (x q:ZR) (i l n a j:Nat):ZQ:=
 ⟨.type "code",none,.fields #[.str x i,.str q (i + 1),.str "/claim/cut.py" (i + 2),.int l 0,.int n 0,.int 0 0,.int 0 0,.int 3 0,.ref a,.bool true,.int 181 0,.ref (a + 1),.none,.none,.none,.ref (a + 2),.int j 0,.int l 0,.str "/claim/cut.py" (j + 1)],#[]⟩
noncomputable abbrev kR (P:Q0) (x:ZR) (i a:Nat):ZH:=⟨c0 P x,.str x i,.ref a⟩
variable {i:Nat}
section
variable {P:ZJ} {w:U0} {K:b0} {mg:ZR->Option ZG} {base:ZM} {x q:ZR} {st:ZL} {f:ZS} {fd:ZI} {k:Nat} {ps:List ZR} {sp:Sp}
def df {m:ZR} {c:Nat} (l:K.lookup f=some (fO x q st m i c):=by kernel_rfl) (hc:A9 K (.ref c) q=true:=by kernel_rfl) (hk:Q3 K (.ref f)=true:=by kernel_rfl):cE K x q st f (fnX x q st m i c):=rY l hc hk
def rR (T:TX K mg) (F:cE K x q st f fd) (g:B7 K K3 x=some (some (.ref f))) (b:Binds K fd ps []) (G:fI P w K mg base CX0 k f fd ps sp):xq P w K mg base x ps k sp:=⟨⟨f,fd,G,T.of g,F.kp,b⟩⟩
end
section
variable {p:List ZG->Prop}
theorem usZ (h:p []):∀us:List ZG,us.length=0->p us | [],_=>h
theorem usS {n:Nat} (h:∀a us,us.length=n->p (a::us)):∀us:List ZG,us.length=n+1->p us | a::us,e=>h a us (Nat.succ.inj e)
theorem lO (h :∀a,p [a]) :∀us:List ZG,us.length=1->p us:=usS λ a=>usZ (p:=λ us=>p (a::us)) (h a)
theorem gh (h :∀a b,p [a,b]) :∀us:List ZG,us.length=2->p us:=usS λ a=>lO (p:=λ us=>p (a::us)) (h a)
theorem vx (h :∀a b c,p [a,b,c]) :∀us:List ZG,us.length=3->p us:=usS λ a=>gh (p:=λ us=>p (a::us)) (h a)
theorem xj (h :∀a b c d,p [a,b,c,d]) :∀us:List ZG,us.length=4->p us:=usS λ a=>vx (p:=λ us=>p (a::us)) (h a)
theorem JC (h :∀a b c d e f,p [a,b,c,d,e,f]) :∀us:List ZG,us.length=6->p us:=usS λ a=>usS (p:=λ us=>p (a::us)) λ b=>usS (p:=λ us=>p (a::b::us)) λ c=>usS (p:=λ us=>p (a::b::c::us)) λ d=>usS (p:=λ us=>p (a::b::c::d::us)) λ e=>usS (p:=λ us=>p (a::b::c::d::e::us)) λ f=>usZ (p:=λ us=>p (a::b::c::d::e::f::us)) (h a b c d e f)
end
variable {X:Cx}
section
def tY (K:b0):R2:=λ x y H Q=>∃a b xs,x=.ref a/\y=.ref b/\aK K H a xs/\aK K H b []/\Q (.bl (decide (xs=[]))) H
def Sb {k:Nat} (hr:bQ k X.A):eA X (V2 .Eq) (tY X.K):=by
 intro C s σ H x y v u Q I n m h;obtain ⟨a,b,o,rfl,rfl,l,r,q⟩:=h;cases n;cases m;obtain ⟨B,f,c,_⟩:=I.list l;obtain ⟨D,t,d,_⟩:=I.list r;cases t;have g:X.A.units < ZE:=Nat.lt_of_succ_lt (cQ hr);have i:=f.length;cases o with
 | nil=>cases f;exact SeqAt.RcAt.lists (e:=λ _=>true) c.isList d.isList rfl g (λ j p _=>ZV p (L4 _)) X.prog X.w _ _ ⟨.bl _,H,I,rfl,q⟩
 | cons z zs=>refine SeqAt.RcAt.lists_lengths c.isList d.isList ?_ g X.prog X.w _ _ ⟨.bl _,H,I,rfl,q⟩;rw [N0,<-i];rfl
end
mutual
noncomputable def cj:ZK->Bool
 | .int _=>true
 | .str _=>false
 | .tuple xs=>bC xs
 | .none=>false
 | .bool _=>false
 | .list _=>false
 | .dict _=>false
noncomputable def bC:List ZK->Bool
 | []=>true
 | x :: xs=>cj x && bC xs
end
mutual
noncomputable def iE:ZK->Int
 | .int i=>hashInt i
 | .str _=>0
 | .tuple xs=>P1 (o0 (gR xs))
 | .none=>0
 | .bool _=>0
 | .list _=>0
 | .dict _=>0
noncomputable def gR:List ZK->List Int
 | []=>[]
 | x :: xs=>iE x :: gR xs
end
mutual
noncomputable def jE:ZK->Nat
 | .tuple xs=>gY xs + 1
 | .int _=>1
 | .str _=>1
 | .none=>1
 | .bool _=>1
 | .list _=>1
 | .dict _=>1
noncomputable def gY:List ZK->Nat
 | []=>0
 | x :: xs=>jE x + gY xs
end
mutual
theorem xE {h h':ZM} (k :∀b o vs n,h.get? b=some o->o.cls=.type "tuple"->o.data=.seq vs n->h'.get? b=some o) :∀(d:ZK) (v:ZG) (as:List ZS),cj d=true->Reads h v d as->Reads h' v d as
 | .int i,v,as,_,r=>by cases r;exact .int _ _
 | .str _,_,_,hk,_=>by cases hk
 | .tuple xs,v,as,hk,r=>by
  cases r with
  | tuple e c d r=>exact .tuple (k _ _ _ _ e c d) c d (Gs k xs _ _ hk r)
 | .none,_,_,hk,_=>by cases hk
 | .bool _,_,_,hk,_=>by cases hk
 | .list _,_,_,hk,_=>by cases hk
 | .dict _,_,_,hk,_=>by cases hk
theorem Gs {h h':ZM} (k :∀b o vs n,h.get? b=some o->o.cls=.type "tuple"->o.data=.seq vs n->h'.get? b=some o) :∀(ds:List ZK) (vs:List ZG) (as:List ZS),bC ds=true->S7 h vs ds as->S7 h' vs ds as
 | [],_,_,_,r=>by cases r;exact .nil
 | d :: ds,_,_,c,r=>by
  have c:=Bool.and_eq_true_iff.mp (show (cj d && bC ds)=true from c);cases r with
  | cons a r=>exact .cons (xE k d _ _ c.1 a) (Gs k ds _ _ c.2 r)
end
mutual
theorem rQ:∀d:ZK,cj d=true->bR d=true
 | .int _,_=>rfl
 | .str _,hk=>by cases hk
 | .tuple xs,h=>Gc xs h
 | .none,hk=>by cases hk
 | .bool _,hk=>by cases hk
 | .list _,hk=>by cases hk
 | .dict _,hk=>by cases hk
theorem Gc:∀ds:List ZK,bC ds=true->iR ds=true
 | [],_=>rfl
 | d :: ds,a=>by have a:=Bool.and_eq_true_iff.mp (show (cj d && bC ds)=true from a);show (bR d && iR ds)=true;rw [rQ d a.1,Gc ds a.2];rfl
end
mutual
theorem o_:∀d:ZK,cj d=true->d.canLay0=true
 | .int _,_=>rfl
 | .str _,hk=>by cases hk
 | .tuple xs,h=>HV xs h
 | .none,hk=>by cases hk
 | .bool _,hk=>by cases hk
 | .list _,hk=>by cases hk
 | .dict _,hk=>by cases hk
theorem HV:∀ds:List ZK,bC ds=true->d8 ds=true
 | [],_=>rfl
 | d :: ds,a=>by have a:=Bool.and_eq_true_iff.mp (show (cj d && bC ds)=true from a);show (d.canLay0 && d8 ds)=true;rw [o_ d a.1,HV ds a.2];rfl
end
variable {A:B2} {E:ZG->A0->Prop} {Q:Bool->A0->Prop} {m n:Nat} {prog:ZJ} {s:A0} {w:U0}
section
mutual
theorem Dh:∀(d:ZK) (v:ZG) (as:List ZS) (A:B2) (s:A0) (Q:Int->A0->Prop),cj d=true->Reads s.heap v d as->A.units + d.depth < ZE->Q (iE d) { s with toks:=s.toks + jE d }->V0 (F1 prog w) A (pyHash v) Q E s
 | .int i,v,as,A,s,Q,_,r,_,q=>by cases r;exact wpAny_pyHash_int q
 | .str _,_,_,_,_,_,hk,_,_,_=>by cases hk
 | .tuple xs,v,as,A,s,Q,hk,r,b,q=>by
  cases r with
  | @tuple a o vs n _ _ e c d r=>
   have b:A.units + (Y1 xs + 1) < ZE:=b;have ty:s.TypeIs (.ref a) "tuple":=⟨o,e,c⟩
   refine W.pyHash_slot (v:=.ref a) ty F.slot_tuple_hash F.entry_tuple_hash (F.args_tuple_hash_1 _) rfl (.inr (by lia)) ?_;refine d0 (L0 ?_);refine d0 (j23 e d ?_);refine d0 ?_;rw [<-Array.forIn_toList];refine D_ xs vs.toList _ #[] A.in1 s _ hk r (show A.units + 1 + Y1 xs < ZE by lia) ?_;refine d0 (wpAny_mkInt (L0 ⟨_,_,rfl,?_⟩));simpa [iE,jE,j0h] using q
 | .none,_,_,_,_,_,hk,_,_,_=>by cases hk
 | .bool _,_,_,_,_,_,hk,_,_,_=>by cases hk
 | .list _,_,_,_,_,_,hk,_,_,_=>by cases hk
 | .dict _,_,_,_,_,_,hk,_,_,_=>by cases hk
theorem D_:∀(ds:List ZK) (vs:List ZG) (as:List ZS) (hs:Array Int) (A:B2) (s:A0) (Q:Array Int->A0->Prop),bC ds=true->S7 s.heap vs ds as->A.units + Y1 ds < ZE->Q (hs++(gR ds).toArray) { s with toks:=s.toks + gY ds }->
  V0 (F1 prog w) A (F5 vs hs λ x hs=>do let h <-pyHash x;W1 (T2 (hs.push h))) Q E s
 | [],_,_,hs,A,s,Q,_,r,_,q=>by cases r;rw [X4];exact L0 (by simpa [gR,gY] using q)
 | d :: ds,_,_,hs,A,s,Q,b,r,c,q=>by
  have b:=Bool.and_eq_true_iff.mp (show (cj d && bC ds)=true from b);have c:A.units + max d.depth (Y1 ds) < ZE:=c;cases r with
  | @cons v vs _ _ as bs a r=>rw [A4];refine d0 (d0 (Dh d v as A s _ b.1 a (by lia) (L0 ?_)));refine D_ ds vs bs (hs.push (iE d)) A { s with toks:=s.toks + jE d } Q b.2 r (by lia) ?_;simpa [gR,gY,j0h] using q
end
def Qh {a:ZS} {o:ZQ} {vs:Array ZG} (e:s.heap.get? a=some o) (c:o.cls=.type "tuple") (d:o.data=.seq vs m)
  (h:V0 (F1 prog w) A (F5 vs.toList ((none:Option Bool),()) λ y _=>do
    let b <-P4 n y
    if (!b)=true then W1 (V8 (some false,())) else W1 (T2 (none,())))
   (λ r s'=>r.1=none/\Q true s') E s):V0 (F1 prog w) A (P4 (n + 1) (.ref a)) Q E s:=by
 rw [eqIsQuiet.eq_2];have ty:s.TypeIs (.ref a) "tuple":=⟨o,e,c⟩
 refine d0 (j43 (r:=some (.builtin "tuple.__eq__")) ty (by rfl) ?_);refine d0 (M9 (T:="tuple") ty isSubtype_tuple_tuple ?_);simp only [z6,u3,if_false];refine d0 (j4j e d (d0 ?_));show V0 _ _ (F5 vs _ _) _ _ _;rw [<-Array.forIn_toList];refine G3 h (λ r s' h=>?_) (λ _ _ h=>h);obtain ⟨i,j⟩:=r;obtain ⟨g,f⟩:=h;cases (show i=none from g);exact L0 f
mutual
theorem Ie:∀(d:ZK) (v:ZG) (as:List ZS) (n:Nat) (A:B2) (s:A0) (Q:Bool->A0->Prop),cj d=true->Reads s.heap v d as->d.depth<=n->Q true s->V0 (F1 prog w) A (P4 n v) Q E s
 | .int i,v,as,n,A,s,Q,_,r,_,q=>by cases r;rw [eqIsQuiet.eq_3];exact L0 q;intro a h;cases h
 | .str _,_,_,_,_,_,_,hk,_,_,_=>by cases hk
 | .tuple xs,v,as,n,A,s,Q,hk,r,b,q=>by
  cases r with
  | @tuple a o vs m _ _ e c d r=>
   have b:Y1 xs + 1<=n:=b;obtain ⟨n,rfl⟩ :∃k,n=k + 1:=⟨n - 1,by lia⟩
   exact Qh e c d (IB xs vs.toList _ n A s _ hk r (by lia) ⟨rfl,q⟩)
 | .none,_,_,_,_,_,_,hk,_,_,_=>by cases hk
 | .bool _,_,_,_,_,_,_,hk,_,_,_=>by cases hk
 | .list _,_,_,_,_,_,_,hk,_,_,_=>by cases hk
 | .dict _,_,_,_,_,_,_,hk,_,_,_=>by cases hk
theorem IB:∀(ds:List ZK) (vs:List ZG) (as:List ZS) (n:Nat) (A:B2) (s:A0) (Q:Option Bool×Unit->A0->Prop),bC ds=true->S7 s.heap vs ds as->Y1 ds<=n->Q (none,()) s->
  V0 (F1 prog w) A (F5 vs ((none:Option Bool),()) λ y _=>do
    let b <-P4 n y
    if (!b)=true then W1 (V8 (some false,())) else W1 (T2 (none,()))) Q E s
 | [],_,_,n,A,s,Q,_,r,_,q=>by cases r;rw [X4];exact L0 q
 | d :: ds,_,_,n,A,s,Q,c,r,e,q=>by
  have c:=Bool.and_eq_true_iff.mp (show (cj d && bC ds)=true from c);have e:max d.depth (Y1 ds)<=n:=e;cases r with
  | @cons v vs _ _ as bs a r=>rw [A4];refine d0 (d0 (Ie d v as n A s _ c.1 a (by lia) ?_));exact L0 (IB ds vs bs n A s Q c.2 r (by lia) q)
end
end
open Classical in
noncomputable instance:DecidableEq ZK:=λ a b=>r6 (a=b)
noncomputable def wy (prog:ZJ) (w:U0):HeapKind prog w ZK where
 is h d a:=cj d=true/\d.depth<=7/\∃as,Reads h (.ref a) d as
 hash:=iE
 draws:=jE
 room A:=A.units + 8 < ZE
 inj:=λ {h a x y} hx hy=>by obtain ⟨kx,_,as,rx⟩:=hx;obtain ⟨_,_,bs,ry⟩:=hy;exact SeqAt.Reads.unique x y _ as bs (o_ x kx) rx ry
 keeps:=λ {h h' k a d o es ep} hk e hd sb=>by
  obtain ⟨k1,k2,as,r⟩:=hk;refine ⟨k1,k2,as,xE (λ b o' vs n eb _ eo=>?_) k _ as k1 r⟩;have nb:b≠d:=λ z=>by rw [z,e] at eb;cases eb;rw [hd] at eo;cases eo
  rw [sb.2 b nb];exact eb
 pyHash:=λ {A E s k a Q} hr hk q=>by obtain ⟨k1,k2,as,r⟩:=hk;exact Dh k _ as A s Q k1 r (by lia) q
 eqBool:=λ {A E s x y a b Q} hr hx hy q=>by obtain ⟨x1,x2,as,rx⟩:=hx;obtain ⟨y1,y2,bs,ry⟩:=hy;refine j1d x y A s _ _ as bs rx ry (o_ x x1) (o_ y y1) (by have:=F9 x.depth y.depth;lia) prog w E Q ?_;rw [CT (p:=x=y) (rQ x x1) (rQ y y1) Iff.rfl];exact q
 quiet:=λ {A E s k a Q} hk q=>by obtain ⟨k1,k2,as,r⟩:=hk;exact Ie k _ as 8 A s Q k1 r (by lia) q
variable {ep:Nat} {es:Array ZH}
section
def jb (h:ZM) (d:ZS) (es:Array ZH) (ep:Nat):Prop:=∃o,h.get? d=some o/\o.ExactDict/\o.data=.dict es ep
def HF {d:ZS} {Q:ZG->A0->Prop} (hd:(d == P3)=false) (h:jb s.heap d es ep)
  (q:Q (.ref s.heap.objs.size) { s with heap:=s.heap.push { cls:=.type "dict_keyiterator",data:=.fields #[.ref d,.int 0 0,.int es.size 0,.int ep 0] } }):V0 (F1 prog w) A (pyIter (.ref d)) Q E s:=by
 obtain ⟨o,a,⟨g,j,k⟩,c⟩:=h;have b:s.TypeIs (.ref d) "dict":=⟨o,a,g⟩
 refine wpAny_pyIter_slot b F.slot_dict_iter (B3 F.slot_dict_iter b F.entry_dict_iter ?_ (F.args_dict_iter_1 _));unfold j1c.«dict.__iter__»;refine d0 (show V0 _ _ (O7 "__iter__" ⟨[.ref d],[]⟩ >>= _) _ _ _ from d0 ?_);have i:V0 (F1 prog w) A.in1 (O7 "__iter__" ⟨[.ref d],[]⟩) (λ _ f=>f=s) E s:=by unfold O7;rw [ZZ (by decide +kernel)];refine d0 (W9 b ?_);rw [Z_ (by decide)];exact L0 rfl
 refine G3 i (λ _ f e=>?_) λ _ _ z=>z;subst e;refine (show V0 _ _ (W1 (E1 d)) _ _ _ from L0 ?_);refine (show V0 _ _ (W1 d >>= _) _ _ _ from d0 (L0 ?_));refine d0 ?_;unfold Builtin.Dict.showsAll;rw [Z_ (by rw [hd];decide)];refine L0 (d0 (j2d a c (d0 (j44 a c ?_))));refine d0 (J3 ?_ (by size_fits));refine L0 ⟨_,rfl,"dict_keyiterator",_,⟨_,Z0 _ rfl,rfl⟩,F.slot_dict_keyiterator_next.lookup,q⟩
theorem HL {it d:ZS} {e:ZH} {Q:Option ZG->A0->Prop} (hi:s.heap.IsKeyIter it d i es.size ep) (h:jb s.heap d es ep) (he:es[i]? = some e)
  (q :∀h',h'.IsKeyIter it d (i + 1) es.size ep->O6 it s.heap h'->Q (some e.key) { s with heap:=h' }):V0 (F1 prog w) A (j54 (.ref it)) Q E s:=by
 have a:=hi.typeIs;obtain ⟨p,j,u,g⟩:=hi;obtain ⟨o,n,B,k⟩:=h;obtain ⟨y,z,r,C⟩:=p;cases (show y=_ from u);cases (show r=_ from g);unfold j54;refine d0 (wpAny_attempt (u5 (name:=u9 "__next__") a L5 (B3 L5 a j36 ?_ (j2j _))));unfold j1c.«dict_keyiterator.__next__»;refine (show V0 _ _ (V9 "__next__" ⟨[.ref it],[]⟩ >>= _) _ _ _ from d0 ?_);refine (show V0 _ _ (W1 (E1 it)) _ _ _ from L0 ?_);refine d0 ?_;refine (show V0 _ _ ((j04 (.ref it) >>= _) >>= _) _ _ _ from d0 (d0 (E5 a (L0 ?_))));have m:(if c9 "dict_keyiterator" = true then 2 else 0)=0:=Z_ (by decide +kernel);rw [m];refine d0 (wpAny_fieldsOf j g ?_);show V0 _ _ (if (E1 d == Value.none)=true then _ else _) _ _ _;rw [Z_ (by simp)];refine (show V0 _ _ (W1 d >>= _) _ _ _ from d0 (L0 ?_));refine d0 (j2d n k ?_);rw [Z_ (by simp)];refine (show V0 _ _ (W1 d >>= _) _ _ _ from d0 (L0 ?_));refine d0 (j44 n k ?_);rw [Z_ (by simp)];refine L0 ?_;dsimp only;rw [Z_ (by lia),S6,he];dsimp only;refine d0 (show V0 _ _ (j04 (.ref it) >>= _) _ _ _ from d0 (E5 a (L0 ?_)));rw [m];refine d0 (wpAny_isOneOf_keyiter a ?_);refine d0 (j10 j g (by simp) ?_);have l:(s.heap.update it (j48 (·.setIfInBounds 1 (j37 ((i:Int) + 1))))).IsKeyIter it d (i + 1) es.size ep:=by refine ⟨_,K9 _ j rfl,rfl,?_⟩;simp [j48,j37]
 have key :∀b:Bool,b=false->V0 (F1 prog w) A.in1 (j2e [e.key,e.val] (do
   let c <-L9 (.ref it) ["dict_keyiterator","dict_reversekeyiterator"]
   if c=true then W1 e.key else do
    let c <-L9 (.ref it) ["dict_valueiterator","dict_reversevalueiterator"]
    if c=true then W1 e.val else Builtin.Dict_items.pairFromOwner (.ref it) 6 e.key e.val) >>= λ v=>ret v)
   (λ x f=>∃v,x=Fin.done (Flow.ret v)/\V0 (F1 prog w) A (W1 (some v)) Q E f)
   (λ e f=>V0 (F1 prog w) A (do if <-isInstance e (.type "StopIteration") then W1 none else throw e) Q E f)
   { s with heap:=s.heap.update it (j48 (·.setIfInBounds 1 (j37 (if b=true then (i:Int) - 1 else (i:Int) + 1)))) }:=λ b t=>by
  subst t;refine d0 (Z4 (d0 (wpAny_isOneOf_keyiter l.typeIs ?_)));rw [ZZ (by decide +kernel)];exact L0 (L0 ⟨_,rfl,L0 (q _ l (G5 ..))⟩)
 exact key _ (by decide +kernel)
theorem mx {it d:ZS} {Q:Option ZG->A0->Prop} (hh:A.handled=none) (hi:s.heap.IsKeyIter it d i es.size ep) (h:jb s.heap d es ep) (he:es[i]? = none)
  (q :∀h',Heap.ExtBut it s.heap h'->Q none { s with heap:=h' }):V0 (F1 prog w) A (j54 (.ref it)) Q E s:=by
 have a:=hi.typeIs;obtain ⟨n,f,r,j⟩:=hi;obtain ⟨o,l,p,c⟩:=h;unfold j54;refine d0 (wpAny_attempt (u5 (name:=u9 "__next__") a L5 (B3 L5 a j36 ?_ (j2j _))));unfold j1c.«dict_keyiterator.__next__»;refine (show V0 _ _ (V9 "__next__" ⟨[.ref it],[]⟩ >>= _) _ _ _ from d0 ?_);refine (show V0 _ _ (W1 (E1 it)) _ _ _ from L0 ?_);refine d0 ?_;refine (show V0 _ _ ((j04 (.ref it) >>= _) >>= _) _ _ _ from d0 (d0 (E5 a (L0 ?_))));have g:(if c9 "dict_keyiterator" = true then 2 else 0)=0:=Z_ (by decide +kernel);rw [g];refine d0 (wpAny_fieldsOf f j ?_);show V0 _ _ (if (E1 d == Value.none)=true then _ else _) _ _ _;rw [Z_ (by simp)];refine (show V0 _ _ (W1 d >>= _) _ _ _ from d0 (L0 ?_));refine d0 (j2d l c ?_);rw [Z_ (by simp)];refine (show V0 _ _ (W1 d >>= _) _ _ _ from d0 (L0 ?_));refine d0 (j44 l c ?_);rw [Z_ (by simp)];refine L0 ?_;dsimp only;rw [Z_ (by lia),S6,he];dsimp only;refine d0 (show V0 _ _ (j04 (.ref it) >>= _) _ _ _ from d0 (E5 a (L0 ?_)));rw [g];refine d0 (j10 f j (by simp) ?_);refine vE hh λ h' k=>q h' ?_;exact λ b o m e=>k b o (((G5 ..).2 b m).trans e)
def Ll (hh:A.handled=none) (I d:ZS) (nd:d≠I) (es:Array ZH) (ep:Nat):Walks prog w A I [I,d] [I] es.size (λ i v=>∃e,es[i]? = some e/\v=e.key) (λ i h=>h.IsKeyIter I d i es.size ep/\jb h d es ep) where
 sub:=λ b n=>by rw [List.mem_singleton.mp n];exact R0
 frame:=λ i h a ⟨h1,o,h2,c⟩ k=>⟨h1.at (k I R0),o,k d (by simp) o h2,c⟩
 item:=λ i s Q E j ⟨h1,h2⟩ q=>by
  refine HL h1 h2 (V1 j) λ a g l=>q _ a _ ⟨_,V1 j,rfl⟩ ⟨g,?_⟩ λ b o f e=>?_
  ·obtain ⟨o,c,m⟩:=h2;exact ⟨o,(l.2 d nd).trans c,m⟩
  ·exact (l.2 b (λ z=>f (by rw [z];exact List.mem_singleton.mpr rfl))).trans e
 done:=λ s Q E ⟨h1,h2⟩ q=>mx hh h1 h2 (j4b (u0 _)) λ a k=>q a _ λ b o f e=>k b o (λ z=>f (by rw [z];exact List.mem_singleton.mpr rfl)) e
 self:=λ i s Q E ⟨h1,_⟩ q=>wpAny_pyIter_keyiter h1 q
def QD {r:ZS} (hT:s.TypeIs (.ref r) "dict") (h:Q false s):V0 (F1 prog w) A (j0e (.ref r)) Q E s:=by unfold j0e;refine d0 (j43 hT PySem.F.slot_dict_len.lookup ?_);generalize me:("dict.__len__" : String)=id0;wp_delta;rw [show splitId id0=some ("dict","__len__") from by subst me;decide +kernel];subst me;refine d0 (M9 (T:="dict") (b:=true) hT (by rfl) ?_);refine wpAny_ite_split (λ a=>ZV a (by decide)) (λ _=>wpAny_ite_split (λ _=>?_) (λ a=>ZV (by decide +kernel) a));exact d0 (W9 hT (L0 h))
def qk {d:ZS} (hd:(d == P3)=false):W.KdlSrc prog w "dict" d d es.size (λ i v=>∃e,es[i]? = some e/\v=e.key) (λ h=>jb h d es ep) where
 type:=λ s ⟨o,a,b,_⟩=>⟨o,a,b.1⟩
 there:=λ h ⟨o,a,_⟩=>⟨S0 a,S0 a⟩
 keep:=λ h c ⟨o,a,b⟩ k=>⟨o,k d (.inl rfl) o a,b⟩
 notList:=by decide
 notTuple:=by decide
 hint:=λ A E s Q ⟨o,a,b,_⟩ q=>QD ⟨o,a,b.1⟩ q
 iter:=λ A s f h=>by
  refine ⟨{ cls:=.type "dict_keyiterator",data:=.fields #[.ref d,.int 0 0,.int es.size 0,.int ep 0] },λ i c=>c.IsKeyIter s.heap.objs.size d i es.size ep/\jb c d es ep,λ E Q q=>HF hd h q,Ll f _ d ?_ es ep,⟨_,Z0 _ rfl,rfl,rfl⟩,?_⟩
  ·obtain ⟨o,a,_⟩:=h;exact G1 (S0 a)
  ·obtain ⟨o,a,b⟩:=h;exact ⟨o,F0 _ a,b⟩
end
def ft (n:Nat) (p:Array Nat):Prop:=p.toList.Perm (B1 n)
variable {j:Nat} {p:Array Nat}
def Dr (h:ft n p):ft n (p.swapIfInBounds i j):=by
 rw [Array.swapIfInBounds_def];split
 ·split
  ·exact (Array.perm_iff_toList_perm.mp (Array.swap_perm _ _)).trans h
  ·exact h
 ·exact h
theorem zP {f:Array Nat->Nat->Array Nat} (hf :∀p k,ft n p->ft n (f p k)) :∀(l:List Nat) (p:Array Nat),ft n p->ft n (l.foldl f p)
 | [],p,h=>h
 | k :: l,p,h=>zP hf l (f p k) (hf p k h)
def pJ (h:ft n p):ft n (PySem.W.kas_rev p i j):=by unfold PySem.W.kas_rev;rw [mirror.eq_def];exact zP (λ _ _ h=>Dr h) _ _ h
def NR (h:ft n p):ft n (bubble p i j):=by rw [bubble.eq_def];exact zP (λ _ _ h=>Dr h) _ _ h
def ft.size (h:ft n p):p.size=n:=by
 have:=h.length_eq
 rwa [F2,R1] at this
mutual
noncomputable def ie:ZK->ZK->Option Bool
 | .int i,e=>match e with
  | .int j=>some (decide (i < j))
  | _=>none
 | .tuple xs,e=>match e with
  | .tuple ys=>gH xs ys
  | _=>none
 | .none,_=>none
 | .bool _,_=>none
 | .str _,_=>none
 | .list _,_=>none
 | .dict _,_=>none
noncomputable def gH:List ZK->List ZK->Option Bool
 | [],ys=>some (decide (0 < ys.length))
 | x :: xs,ys=>match ys with
  | []=>some false
  | y :: ys=>if x=y then gH xs ys else ie x y
end
variable {h:ZM}
theorem wK:∀{vs:List ZG} {ds:List ZK} {as:List ZS},S7 h vs ds as->vs.length=ds.length
 | _,_,_,.nil=>rfl
 | _,_,_,.cons _ r=>by rw [P0,P0,wK r]
section
def int_lt {i j:Int} {a b:Tok} {R:ZG->A0->Prop} (q:R (.bool (decide (i < j))) s):V0 (F1 prog w) A (j11 .Lt (.int i a) (.int j b)) R E s:=(show V0 _ _ (V2 .Lt _ _) _ _ _ from lt_int q)
theorem sD {p p2:ZS} {o o2:ZQ} {xs ys:Array ZG} {n2:Nat} {Q:ZG->A0->Prop} (ho:s.heap.get? p=some o) (hc:o.cls=.type "tuple") (hd:o.data=.seq xs n) (ho2:s.heap.get? p2=some o2) (hc2:o2.cls=.type "tuple") (hd2:o2.data=.seq ys n2) (hu:A.units + 1 < ZE)
  (h:V0 (F1 prog w) A.in1 (F5 (xs.toList.zip ys.toList) ((none:Option M8),()) λ x _=>do
    let b <-eqBool x.fst x.snd
    if (!b)=true then do
     rule "tuple.compare.by-the-first-pair-that-differs"
     let r <-j11 CmpOp.Lt x.fst x.snd
     let r <-ret r
     W1 (V8 (some r,()))
    else W1 (T2 (none,()))) (λ r s'=>∃b,(r.1=some (Fin.done (Flow.ret (.bool b)))\/r.1=none/\b=decide (xs.size < ys.size))/\Q (.bool b) s') E s):V0 (F1 prog w) A (j11 .Lt (.ref p) (.ref p2)) Q E s:=by
 refine wpAny_richCompare_same_room (op:=.Lt) (T:="tuple") ⟨o,ho,hc⟩ ⟨o2,ho2,hc2⟩ F.slot_tuple_lt (B3 F.slot_tuple_lt ⟨o,ho,hc⟩ F.entry_tuple_lt ?_ (F.args_tuple_lt_2 _ _)) (by lia);refine (show V0 _ _ (isInstance (.ref p2) (.type "tuple") >>= _) _ _ s from d0 (M9 (T:="tuple") ⟨o2,ho2,hc2⟩ isSubtype_tuple_tuple ?_));simp only [z6,u3,if_false];refine d0 (j23 ho hd (d0 (j23 ho2 hd2 (d0 ?_))));refine G3 h (λ r s' c=>?_) λ _ _ z=>z;obtain ⟨r,⟨⟩⟩:=r;obtain ⟨b,a,q⟩:=c;rcases a with a|⟨a,rfl⟩
 ·cases (show r=_ from a);exact L0 ⟨_,rfl,(λ z=>nomatch z),q⟩
 ·cases (show r=_ from a);exact L0 ⟨_,rfl,(λ z=>nomatch z),q⟩
mutual
theorem mj:∀(d e:ZK) (v z:ZG) (as bs:List ZS) (b:Bool) (A:B2) (s:A0) (Q:ZG->A0->Prop),cj d=true->cj e=true->Reads s.heap v d as->Reads s.heap z e bs->ie d e=some b->A.units + d.depth + 1 < ZE->Q (.bool b) s->V0 (F1 prog w) A (j11 .Lt v z) Q E s
 | .int i,e,v,z,as,bs,b,A,s,Q,_,_,r,r2,h,_,q=>by
  cases e with
  | int j=>cases r;cases r2;cases (show some (decide (i < j))=some b from h);exact int_lt q
  | _=>cases (show (none:Option Bool)=some b from h)
 | .tuple xs,e,v,z,as,bs,b,A,s,Q,hd,he,r,r2,h,c,q=>by
  cases e with
  | tuple ys=>
   cases r with
   | @tuple a o vs n _ _ h1 h2 h3 h4=>
    cases r2 with
    | @tuple a' o' vs' n' _ _ g1 g2 g3 g4=>have c:A.units + (Y1 xs + 1) + 1 < ZE:=c;refine sD h1 h2 h3 g1 g2 g3 (by lia) ?_;have g:=wK h4;have f:=wK g4;refine DK xs ys vs.toList vs'.toList _ _ b A.in1 s _ hd he h4 g4 h (show A.units + 1 + Y1 xs + 1 < ZE by lia) (λ r k=>⟨b,k.imp id (λ z=>⟨z.1,?_⟩),q⟩);rw [z.2,<-g,<-f,R1,R1]
  | _=>cases (show (none:Option Bool)=some b from h)
 | .none,_,_,_,_,_,_,_,_,_,hk,_,_,_,_,_,_=>by cases hk
 | .bool _,_,_,_,_,_,_,_,_,_,hk,_,_,_,_,_,_=>by cases hk
 | .str _,_,_,_,_,_,_,_,_,_,hk,_,_,_,_,_,_=>by cases hk
 | .list _,_,_,_,_,_,_,_,_,_,hk,_,_,_,_,_,_=>by cases hk
 | .dict _,_,_,_,_,_,_,_,_,_,hk,_,_,_,_,_,_=>by cases hk
theorem DK:∀(ds es:List ZK) (vs us:List ZG) (as bs:List ZS) (b:Bool) (A:B2) (s:A0) (R:Option M8×Unit->A0->Prop),bC ds=true->bC es=true->S7 s.heap vs ds as->S7 s.heap us es bs->gH ds es=some b->A.units + Y1 ds + 1 < ZE->
  (∀r,(r=some (Fin.done (Flow.ret (.bool b)))\/r=none/\b=decide (ds.length < es.length))->R (r,()) s)->
  V0 (F1 prog w) A (F5 (vs.zip us) ((none:Option M8),()) λ x _=>do
    let b <-eqBool x.fst x.snd
    if (!b)=true then do
     rule "tuple.compare.by-the-first-pair-that-differs"
     let r <-j11 CmpOp.Lt x.fst x.snd
     let r <-ret r
     W1 (V8 (some r,()))
    else W1 (T2 (none,()))) R E s
 | [],es,vs,us,as,bs,b,A,s,R,_,_,r,_,h,_,q=>by cases r;rw [List.zip_nil_left,X4];cases (show some (decide (0 < es.length))=some b from h);exact L0 (q none (.inr ⟨rfl,rfl⟩))
 | d :: ds,es,vs,us,as,bs,b,A,s,R,a,c,r,r2,h,f,q=>by
  cases es with
  | nil=>cases r2;rw [List.zip_nil_right,X4];cases (show some false=some b from h);exact L0 (q none (.inr ⟨rfl,rfl⟩))
  | cons e es=>
   have a:=Bool.and_eq_true_iff.mp (show (cj d && bC ds)=true from a);have c:=Bool.and_eq_true_iff.mp (show (cj e && bC es)=true from c);have f:A.units + max d.depth (Y1 ds) + 1 < ZE:=f;cases r with
   | @cons v vs _ _ as as' a1 a2=>
    cases r2 with
    | @cons u us _ _ bs bs' b1 b2=>
     have h:(if d=e then gH ds es else ie d e)=some b:=h;rw [U7,A4];refine d0 (d0 (j1d d e A s v u as bs a1 b1 (o_ d a.1) (o_ e c.1) (by have:=F9 d.depth e.depth;lia) prog w E _ ?_));rw [CT (p:=d=e) (rQ d a.1) (rQ e c.1) Iff.rfl];by_cases z:d=e
     ·rw [ZZ z] at h;rw [ZY z];simp only [z6,u3,if_false];refine L0 (DK ds es vs us as' bs' b A s R a.2 c.2 a2 b2 h (by lia) λ r g=>q r (g.imp id λ y=>⟨y.1,y.2.trans (by simp)⟩))
     ·rw [Z_ z] at h;rw [ZX z];simp only [Bool.not_false,if_true];exact d0 (wpAny_rule (d0 (mj d e v u as bs b A s _ a.1 c.1 a1 b1 h (by lia) (d0 (L0 (L0 (L0 (q _ (.inl rfl)))))))))
end
end
noncomputable def vF:Bool->ZC->Array ZC->Nat->Nat->Nat->StateT ZA ZO (Option Nat):=sortPriv% PySem.Builtin.gallop
noncomputable def yp:Nat->StateT ZA ZO Unit:=sortPriv% PySem.Builtin.setMinGallop
noncomputable def GC:Array ZC->Array ZC->StateT ZA ZO (Array ZC):=sortPriv% PySem.Builtin.mergeLo
noncomputable def Ft:Array ZC->Array ZC->StateT ZA ZO (Array ZC):=sortPriv% PySem.Builtin.mergeHi
noncomputable def FM (left:Bool) (key:ZC) (arr:Array ZC) (base i:Nat):StateT ZA ZO (Option Bool):=do
 let x <-W6 arr (base + i)
 if left then lt' x key else return (<-lt' key x).map (!·)
structure SI where
 a:Array Nat
 p:Array (Nat×Nat×Nat)
 g:Nat
noncomputable abbrev SV:=SortKind×(Nat->ZC)
noncomputable abbrev lP (e:SV) (t:SI):ZA:=y6 e.1 (t.a.map e.2) t.p t.g none
def Ask (prog:ZJ) (w:U0) (A:B2) (c:Nat->Nat->Bool) (n:Nat) (e:SV) (s:A0):Prop:=∀i j,i < n->j < n->∀(Q:Bool->A0->Prop) (E:ZG->A0->Prop),Q (c i j) s->V0 (F1 prog w) A (keyLt' e.1 (e.2 i).1 (e.2 j).1) Q E s
def cK (c:Nat->Nat->Bool) (n:Nat) {α β:Type} (m:SV->StateT ZA ZO α) (cz:SV->β->α) (R:β->SI->Prop) (t:SI):Prop:=
 ∃r t',R r t'/\∀prog w A E e s,Ask prog w A c n e s->wpS (F1 prog w) A E s (m e) (λ x y=>x=cz e r/\y=lP e t') (lP e t)
noncomputable def eQ {α β:Type} (cz:SV->β->α) (e:SV):ForInStep β->ForInStep α
 | .done b=>.done (cz e b)
 | .yield b=>.yield (cz e b)
noncomputable def rS {β:Type} (R I:β->SI->Prop):ForInStep β->SI->Prop
 | .done b,t=>R b t
 | .yield b,t=>I b t
variable {c:Nat->Nat->Bool} {lo:Nat} {t:SI} {xs:Array Nat}
section
variable {α β γ δ:Type} 
def eh {x:SV->α} {cz:SV->β->α} {R:β->SI->Prop} (r:β) (hx :∀e,x e=cz e r) (h:R r t):cK c n (λ e=>W1 (x e)) cz R t:=
 ⟨r,t,h,λ _ _ _ _ e _ _=>j4h ⟨hx e,rfl⟩⟩
def bU {m:SV->StateT ZA ZO α} {f:SV->α->StateT ZA ZO γ} {cz:SV->β->α} {cz':SV->δ->γ} {R:δ->SI->Prop} (h:cK c n m cz (λ r t'=>cK c n (λ e=>f e (cz e r)) cz' R t') t):cK c n (λ e=>m e >>= f e) cz' R t:=by obtain ⟨r,p,⟨j,k,l,g⟩,i⟩:=h;refine ⟨j,k,l,λ d w A E e s b=>j4i (wpS_mono (i d w A E e s b) λ a o ⟨e1,e2⟩=>?_)⟩;subst e1 e2;exact g d w A E e s b
def lE {m:SV->StateT ZA ZO α} {cz:SV->β->α} {R R':β->SI->Prop} (h:cK c n m cz R t) (hr :∀r t',R r t'->R' r t'):cK c n m cz R' t:=by obtain ⟨r,b,a,d⟩:=h;exact ⟨r,b,hr _ _ a,d⟩
def nK {R:SI->SI->Prop} (h:R t t):cK c n (λ _=>get) lP R t:=⟨t,t,h,λ _ _ _ _ _ _ _=>wpS_get ⟨rfl,rfl⟩⟩
def sY {f:SV->ZA->ZA} {R:PUnit->SI->Prop} (t':SI) (hf :∀e,f e (lP e t)=lP e t') (h:R ⟨⟩ t'):cK c n (λ e=>modify (f e)) (λ _ u=>u) R t:=
 ⟨⟨⟩,t',h,λ _ _ _ _ e _ _=>wpS_modify ⟨rfl,hf e⟩⟩
def Nc {x:SV->ZA} {R:PUnit->SI->Prop} (t':SI) (hf :∀e,x e=lP e t') (h:R ⟨⟩ t'):cK c n (λ e=>set (x e)) (λ _ u=>u) R t:=
 ⟨⟨⟩,t',h,λ _ _ _ _ e _ _=>by show wpS _ _ _ _ (modify λ _=>x e:StateT ZA ZO PUnit) _ _;exact wpS_modify ⟨rfl,hf e⟩⟩
def vk {z:String} {R:Unit->SI->Prop} (h:R () t):cK c n (λ _=>(liftM (rule z):StateT ZA ZO Unit)) (λ _ u=>u) R t:=
 ⟨(),t,h,λ _ _ _ _ _ _ _=>wpS_lift (wpAny_rule ⟨rfl,rfl,rfl⟩)⟩
def tL {arr:SV->Array ZC} {k:Nat} {R:Nat->SI->Prop} (ha :∀e,arr e=xs.map e.2) (hk:xs[i]? = some k) (h:R k t):cK c n (λ e=>W6 (arr e) i) (λ e k=>e.2 k) R t:=
 ⟨k,t,h,λ _ _ _ _ e _ _=>by show wpS _ _ _ _ (W6 (arr e) i) _ _;rw [elem'_eq,ha e,Array.getElem?_map,hk];exact j4h ⟨rfl,rfl⟩⟩
def gP {R:Option Bool->SI->Prop} (hi:i < n) (hj:j < n) (h:R (some (c i j)) t):cK c n (λ e=>lt' (e.2 i) (e.2 j)) (λ _ b=>b) R t:=
 ⟨some (c i j),t,h,λ d w A E e s a=>by show wpS _ _ _ _ (lt' (e.2 i) (e.2 j)) _ _;rw [lt'_eq];refine j4i (wpS_get (j4i (wpS_lift (wpAny_attempt (a i j hi hj _ _ ?_)))));exact ⟨rfl,j4h ⟨rfl,rfl⟩⟩⟩
theorem FQ {f:SV->Nat->α->StateT ZA ZO (ForInStep α)} {cz:SV->β->α} {R:β->SI->Prop} (I:List Nat->β->SI->Prop)
  (hs :∀x rest b t,I (x :: rest) b t->cK c n (λ e=>f e x (cz e b)) (eQ cz) (rS R (I rest)) t)
  (he :∀b t,I [] b t->R b t) :∀(l:List Nat) (b:β) (t:SI),I l b t->cK c n (λ e=>F5 l (cz e b) (f e)) cz R t
 | [],b,t,h=>⟨b,t,he b t h,λ _ _ _ _ e _ _=>by show wpS _ _ _ _ (F5 ([]:List Nat) (cz e b) (f e)) _ _;rw [X4];exact j4h ⟨rfl,rfl⟩⟩
 | x :: rest,b,t,h=>by
  obtain ⟨r,k,j,i⟩:=hs x rest b t h;cases r with
  | done b'=>refine ⟨b',k,j,λ g w A E e s d=>?_⟩;show wpS _ _ _ _ (F5 (x :: rest) (cz e b) (f e)) _ _;rw [A4];refine j4i (wpS_mono (i g w A E e s d) λ a o ⟨e1,e2⟩=>?_);subst e1 e2;exact j4h ⟨rfl,rfl⟩
  | yield b'=>obtain ⟨p,q,u,m⟩:=FQ I hs he rest b' k j;refine ⟨p,q,u,λ g w A E e s d=>?_⟩;show wpS _ _ _ _ (F5 (x :: rest) (cz e b) (f e)) _ _;rw [A4];refine j4i (wpS_mono (i g w A E e s d) λ a o ⟨e1,e2⟩=>?_);subst e1 e2;exact m g w A E e s d
theorem lK {hi:Nat} {f:SV->Nat->α->StateT ZA ZO (ForInStep α)} {cz:SV->β->α} {R:β->SI->Prop} (I:Nat->β->SI->Prop) {b:β} {init:SV->α} (hb :∀e,init e=cz e b) (h0:I lo b t)
  (hs :∀i b t,lo<=i->i < hi->I i b t->cK c n (λ e=>f e i (cz e b)) (eQ cz) (rS R (I (i + 1))) t)
  (he :∀b t,I (max lo hi) b t->R b t):cK c n (λ e=>F5 [lo:hi] (init e) (f e)) cz R t:=by
 have p:(λ e=>(F5 [lo:hi] (init e) (f e):StateT ZA ZO α))=λ e=>F5 (List.range' lo (hi - lo)) (cz e b) (f e):=by
  funext e;rw [Std.Legacy.Range.forIn_eq_forIn_range',hb e];have o:([lo:hi]:Std.Legacy.Range).size=hi - lo:=by simp [Std.Legacy.Range.size]
  rw [o]
 rw [p];refine FQ (λ l b t=>∃i,l=List.range' i (max lo hi - i)/\lo<=i/\i<=max lo hi/\I i b t) (λ x rest b t h=>?_) (λ b t h=>?_) _ b t ⟨lo,?_,u0 _,Nat.le_max_left _ _,h0⟩
 ·obtain ⟨i,a,j,k,d⟩:=h;obtain ⟨m,g⟩ :∃m,max lo hi - i=m + 1:=by
   cases hq:max lo hi - i with
   | zero=>rw [hq] at a;cases a
   | succ m=>exact ⟨m,rfl⟩
  rw [g,List.range'_succ] at a;injection a with hx hr;subst hx;refine lE (hs _ b t j (by omega) d) λ r s q=>?_;cases r with
  | done b'=>exact q
  | yield b'=>exact ⟨x + 1,by rw [hr];congr 1;omega,by omega,by omega,q⟩
 ·obtain ⟨i,a,j,k,d⟩:=h;have hi:i=max lo hi:=by
   rcases Nat.lt_or_ge i (max lo hi) with z|z
   ·obtain ⟨m,g⟩ :∃m,max lo hi - i=m + 1:=⟨max lo hi - i - 1,by omega⟩
    rw [g,List.range'_succ] at a;cases a
   ·omega
  rw [<-hi] at he;exact he b t d
 ·congr 1;omega
end
variable {R:Option Nat->SI->Prop}
section
def dA {α β:Type} {p:Prop} {d:SV->Decidable p} {x y:SV->StateT ZA ZO α} {cz:SV->β->α} {R:β->SI->Prop} (h1:p->cK c n x cz R t) (h2:¬ p->cK c n y cz R t):cK c n (λ e=>@ite _ p (d e) (x e) (y e)) cz R t:=by
 by_cases h:p
 ·simp only [ZZ h];exact h1 h
 ·simp only [Z_ h];exact h2 h
def hB {α β:Type} {m m':SV->StateT ZA ZO α} {cz:SV->β->α} {R:β->SI->Prop} (h :∀e,m e=m' e) (hd:cK c n m' cz R t):cK c n m cz R t:=by rw [show m=m' from funext h];exact hd
def bN {α β:Type} {f:SV->ZC->StateT ZA ZO α} {cz:SV->β->α} {R:β->SI->Prop} (hi:i < xs.size) (h:cK c n (λ e=>f e (e.2 xs[i])) cz R t):cK c n (λ e=>W6 (xs.map e.2) i >>= f e) cz R t:=
 bU (cz:=λ e k=>e.2 k) (tL (λ _=>rfl) (V1 hi) h)
def CN {left:Bool} {key:Nat} {base:Nat} {R:Option Bool->SI->Prop} (hk:key < n) (hx :∃k,xs[base + i]? = some k/\k < n) (h :∀b,R (some b) t):cK c n (λ e=>FM left (e.2 key) (xs.map e.2) base i) (λ _ b=>b) R t:=by
 obtain ⟨k,hx,a⟩:=hx;unfold FM;refine bU (cz:=λ e k=>e.2 k) (tL (λ _=>rfl) hx ?_);cases left with
 | true=>exact gP a hk (h _)
 | false=>exact bU (cz:=λ _ b=>b) (gP hk a (eh (some (!c key k)) (λ _=>rfl) (h _)))
theorem tH {left:Bool} {key:Nat} {base hint:Nat} (hk:key < n) (hx :∀i,i < m->∃k,xs[base + i]? = some k/\k < n) (hh:hint < m) (h :∀k,k<=m->R (some k) t):cK c n (λ e=>vF left (e.2 key) (xs.map e.2) base m hint) (λ _ r=>r) R t:=by
 refine hB (m':=λ e=>_ >>= _) (λ _=>rfl) ?_;dsimp only;refine bU (cz:=λ _ b=>b) (CN hk (hx _ hh) λ b=>?_);dsimp only;refine dA (λ _=>?_) λ _=>?_
 all_goals
  refine bU (cz:=λ _ r=>r) (lE (R:=λ r a=>a=t/\∃l k,r=(none,l,k)/\1<=k) (lK (β:=Option (Option Nat)×Nat×Nat) (λ _ b a=>a=t/\∃l k,b=(none,l,k)/\1<=k) (b:=(none,0,1)) (λ _=>rfl) ⟨rfl,0,1,rfl,by decide⟩ ?_ λ b a h=>h) ?_)
  ·rintro i b a _ _ ⟨rfl,l,k,rfl,hk'⟩;dsimp only;refine dA (λ _=>eh (.done (none,l,k)) (λ _=>rfl) ⟨rfl,l,k,rfl,hk'⟩) λ f=>bU (cz:=λ _ b=>b) (CN hk (hx _ (by omega)) λ b=>?_);dsimp only;exact dA (λ _=>eh (.done (none,l,k)) (λ _=>rfl) ⟨rfl,l,k,rfl,hk'⟩) λ _=>eh (.yield (none,k,2 * k + 1)) (λ _=>rfl) ⟨rfl,_,_,rfl,by omega⟩
  rintro r a ⟨rfl,l,k,rfl,hk'⟩;dsimp only;refine bU (cz:=λ _ r=>r) (lE (R:=λ r d=>d=a/\∃l k,r=(none,l,k)/\k<=m) (lK (β:=Option (Option Nat)×Nat×Nat) (λ _ b d=>d=a/\∃l k,b=(none,l,k)/\k<=m) (λ _=>rfl) ⟨rfl,_,_,rfl,by omega⟩ ?_ λ b d h=>h) ?_)
  ·rintro i b d _ _ ⟨rfl,l,k,rfl,hk'⟩;dsimp only;refine dA (λ _=>eh (.done (none,l,k)) (λ _=>rfl) ⟨rfl,l,k,rfl,hk'⟩) λ f=>bU (cz:=λ _ b=>b) (CN hk (hx _ (by omega)) λ b=>?_);dsimp only;exact dA (λ _=>eh (.yield (none,_,_)) (λ _=>rfl) ⟨rfl,_,_,rfl,hk'⟩) λ _=>eh (.yield (none,_,_)) (λ _=>rfl) ⟨rfl,_,_,rfl,by omega⟩
  ·rintro r d ⟨rfl,l,k,rfl,hk'⟩;exact eh (some k) (λ _=>rfl) (h k hk')
end
variable {f:Nat->ZC} {g ia ib:Nat} {o xa xb:Array Nat}
section
def sO {k:Nat}:(o.map f).push (f k)=(o.push k).map f:=by simp
def IG {k:Nat}:#[f k] = #[k].map f:=by simp
def sV:o.map f++p.map f=(o++p).map f:=by simp
def qf:(o.map f).extract i j=(o.extract i j).map f:=by simp
def jL:(o.map f).reverse=o.reverse.map f:=by simp
def iD (xa xb:Array Nat) (ia ib:Nat) (o:Array Nat):Prop:=o.toList.Perm (xa.toList.take ia++xb.toList.take ib)
theorem lW (h:iD xa xb ia ib o) (hi:ia < xa.size):iD xa xb (ia + 1) ib (o.push xa[ia]):=by unfold iD at *;rw [M4 (by simpa using hi),L6];simp only [j5b,O1];refine (h.append_right _).trans ?_;rw [O1];exact X2 _ F3
theorem mD (h:iD xa xb ia ib o) (hi:ib < xb.size):iD xa xb ia (ib + 1) (o.push xb[ib]):=by unfold iD at *;rw [M4 (l:=xb.toList) (by simpa using hi),L6];simp only [j5b,<-O1];exact h.append_right _
def F_ {l:List Nat} {k:Nat}:l.take i++(l.drop i).take k=l.take (i + k):=List.take_add.symm
theorem sG {k:Nat} (h:iD xa xb ia ib o):iD xa xb (ia + k) ib (o++xa.extract ia (ia + k)):=by unfold iD at *;rw [C2,i3,Q2,<-F_,j4f,O1];refine (h.append_right _).trans ?_;rw [O1];exact X2 _ F3
theorem qw {k:Nat} (h:iD xa xb ia ib o):iD xa xb ia (ib + k) (o++xb.extract ib (ib + k)):=by unfold iD at *;rw [C2,i3,Q2,<-F_,j4f,<-O1];exact h.append_right _
abbrev gn (xa xb o:Array Nat):Prop:=o.toList.Perm (xa.toList++xb.toList)
def wZ {x:Array Nat} :(x.extract i x.size).toList=x.toList.drop i:=by rw [i3,Q2,S3];simp
theorem uD (h:iD xa xb ia ib o):gn xa xb (o++xa.extract ia xa.size++xb.extract ib xb.size):=by
 unfold iD gn at *;rw [C2,C2,wZ,wZ];refine ((h.append_right _).append_right _).trans ?_
 conv=>rhs;rw [<-N2 ia xa.toList,<-N2 ib xb.toList]
 simp only [O1];refine X2 _ ?_;simp only [<-O1];exact T4 _ F3
theorem xg (h:iD xa xb ia ib o):gn xa xb (o++xb.extract ib xb.size++xa.extract ia xa.size):=by
 unfold iD gn at *;rw [C2,C2,wZ,wZ];refine ((h.append_right _).append_right _).trans ?_
 conv=>rhs;rw [<-N2 ia xa.toList,<-N2 ib xb.toList]
 simp only [O1];refine X2 _ ?_;rw [<-O1];exact F3
def zJ (hb:0 < xb.size):iD xa xb 0 1 #[xb[0]]:=by unfold iD;rw [M4 (l:=xb.toList) (by simpa using hb)];simp
def Cm {R:Unit->SI->Prop} (h:R () ⟨t.a,t.p,g⟩):cK c n (λ _=>yp g) (λ _ u=>u) R t:=sY ⟨t.a,t.p,g⟩ (λ _=>rfl) h
def vH (xa xb:Array Nat) (t:SI) {T:Type} (b:Option (Array Nat)×T) (t':SI):Prop:=
 (∃g,t'=⟨t.a,t.p,g⟩)/\∃z q,b=(some z,q)/\gn xa xb z
end
noncomputable abbrev dM:SV->Nat->Nat:=λ _ x=>x
noncomputable abbrev gK:SV->Array Nat->Array ZC:=λ e o=>o.map e.2
noncomputable abbrev Ms (K A B C T:Type):=Option (Array K)×A×B×C×T
variable {q:Nat}
section
variable {A B C A' B' C' T:Type} {t1:SI} {P:Nat->A'->B'->C'->Prop} {fa:SV->A'->A} {fb:SV->B'->B} {fc:SV->C'->C}
noncomputable abbrev ll (fa:SV->A'->A) (fb:SV->B'->B) (fc:SV->C'->C) (e:SV) (b:Ms Nat A' B' C' T):Ms ZC A B C T:=(b.1.map (j1g e.2),fa e b.2.1,fb e b.2.2.1,fc e b.2.2.2.1,b.2.2.2.2)
def jh (P:Nat->A'->B'->C'->Prop) (t:SI) (m:Nat) (b:Ms Nat A' B' C' T) (t':SI):Prop:=
 (∃g,t'=⟨t.a,t.p,g⟩)/\∃x y z q,b=(none,x,y,z,q)/\P m x y z
abbrev gp (xa xb:Array Nat) (P:Nat->A'->B'->C'->Prop) (t:SI) (m:Nat):ForInStep (Ms Nat A' B' C' T)->SI->Prop:=
 rS (λ r t'=>vH xa xb t r t'\/jh P t m r t') (jh P t m)
variable (fa fb fc) in
def km {w:Array Nat} {x:A'} {y:B'} {z:C'} {q:T} (h:gn xa xb w):cK c n (λ e=>W1 (.done (some (w.map e.2),fa e x,fb e y,fc e z,q))) (eQ (ll fa fb fc)) (gp xa xb P t m) ⟨t.a,t.p,g⟩:=eh (.done (some w,x,y,z,q)) (λ _=>rfl) (.inl ⟨⟨_,rfl⟩,_,_,rfl,h⟩)
variable (fa fb fc) in
def gz {p:Prop} {d:SV->Decidable p} {x:A'} {y:B'} {z:C'} {q:T} (h:P m x y z):cK c n (λ e=>@ite _ p (d e) (W1 (.done (none,fa e x,fb e y,fc e z,q))) (W1 (.yield (none,fa e x,fb e y,fc e z,q)))) (eQ (ll fa fb fc)) (gp xa xb P t m) ⟨t.a,t.p,g⟩:=
 have b:jh P t m (none,x,y,z,q) ⟨t.a,t.p,g⟩:=⟨⟨_,rfl⟩,_,_,_,_,rfl,h⟩
 dA (λ _=>eh (.done (none,x,y,z,q)) (λ _=>rfl) (.inr b)) λ _=>eh (.yield (none,x,y,z,q)) (λ _=>rfl) b
noncomputable def mO (tot:Nat) (f1:Nat->Nat->Ms ZC A B C (Nat×Nat)->StateT ZA ZO (ForInStep (Ms ZC A B C (Nat×Nat)))) (f3:Nat->Ms ZC A B C (Nat×Nat×Nat)->StateT ZA ZO (ForInStep (Ms ZC A B C (Nat×Nat×Nat)))) (_:Nat) (s:Ms ZC A B C Nat):StateT ZA ZO (ForInStep (Ms ZC A B C Nat)):=do
 let s1 <-F5 [0:tot] ((none,s.2.1,s.2.2.1,s.2.2.2.1,0,0):Ms ZC A B C (Nat×Nat)) (f1 s.2.2.2.2)
 match s1.1 with
 | some r=>W1 (.done (some r,s1.2.1,s1.2.2.1,s1.2.2.2.1,s.2.2.2.2))
 | none=>do
  rule "list.sort.gallop"
  let s2 <-F5 [0:tot] ((none,s1.2.1,s1.2.2.1,s1.2.2.2.1,s.2.2.2.2 + 1,s1.2.2.2.2.1,s1.2.2.2.2.2):Ms ZC A B C (Nat×Nat×Nat)) f3
  match s2.1 with
  | some r=>W1 (.done (some r,s2.2.1,s2.2.2.1,s2.2.2.2.1,s2.2.2.2.2.1))
  | none=>do
   yp (s2.2.2.2.2.1 + 1)
   W1 (.yield (none,s2.2.1,s2.2.2.1,s2.2.2.2.1,s2.2.2.2.2.1 + 1))
noncomputable def mF (tot:Nat) (f1:Nat->Nat->Ms ZC A B C (Nat×Nat)->StateT ZA ZO (ForInStep (Ms ZC A B C (Nat×Nat)))) (f3:Nat->Ms ZC A B C (Nat×Nat×Nat)->StateT ZA ZO (ForInStep (Ms ZC A B C (Nat×Nat×Nat)))) (i:Ms ZC A B C Nat):StateT ZA ZO (Array ZC):=do
 let r <-F5 [0:tot] i (mO tot f1 f3)
 match r.1 with
 | some r=>W1 r
 | none=>unsupported "internal:list.sort.merge-bound"
variable {tot:Nat} {f1:SV->Nat->Nat->Ms ZC A B C (Nat×Nat)->StateT ZA ZO (ForInStep (Ms ZC A B C (Nat×Nat)))} {f3:SV->Nat->Ms ZC A B C (Nat×Nat×Nat)->StateT ZA ZO (ForInStep (Ms ZC A B C (Nat×Nat×Nat)))} (ht:0 < tot) (le :∀m k x y z,k<=m->P m x y z->P k x y z)
 (h1 :∀g i m b t1,jh P t m b t1->cK c n (λ e=>f1 e g i (ll fa fb fc e b)) (eQ (ll fa fb fc)) (gp xa xb P t (m + 1)) t1)
 (h3 :∀i m b t1,jh P t m b t1->cK c n (λ e=>f3 e i (ll fa fb fc e b)) (eQ (ll fa fb fc)) (gp xa xb P t m) t1)
include ht le h1 h3
theorem ri {b:Ms Nat A' B' C' Nat} (h:jh P t m b t1):cK c n (λ e=>mO tot (f1 e) (f3 e) i (ll fa fb fc e b)) (eQ (ll fa fb fc)) (rS (vH xa xb t) (jh P t (m + 1))) t1:=by
 obtain ⟨⟨g,rfl⟩,x,y,z,q,rfl,l⟩:=h;unfold mO;dsimp only;have lt :∀{m k:Nat} {T:Type} {b:Ms Nat A' B' C' T} {t1:SI},jh P t m b t1->k<=m->jh P t k b t1:=λ ⟨hg,x,y,z,q,e,h⟩ hk=>⟨hg,x,y,z,q,e,le _ _ _ _ _ hk h⟩
 refine bU (cz:=ll fa fb fc) (lE (R:=λ r a=>vH xa xb t r a\/jh P t (m + 1) r a) (lK (λ j b a=>jh P t (m + min j 1) b a) (b:=(none,x,y,z,0,0)) (λ _=>rfl) ⟨⟨_,rfl⟩,_,_,_,_,rfl,l⟩ (λ j b f _ _ d=>lE (h1 _ _ _ b _ d) λ r a h=>?_) λ b a h=>.inr (lt h (by omega))) ?_)
 ·cases r with
  | done b=>exact h.imp id λ h=>lt h (by omega)
  | yield b=>exact lt h (by omega)
 rintro r f (⟨⟨g2,rfl⟩,w,⟨x2,y2,z2,q2⟩,rfl,hz⟩|⟨⟨g2,rfl⟩,x2,y2,z2,q2,rfl,d⟩)
 ·exact eh (.done (some w,x2,y2,z2,q)) (λ _=>rfl) ⟨⟨_,rfl⟩,_,_,rfl,hz⟩
 dsimp only [Option.map_none];refine bU (cz:=λ _ u=>u) (vk ?_);refine bU (cz:=ll fa fb fc) (lE (R:=λ r a=>vH xa xb t r a\/jh P t (m + 1) r a) (lK (λ j b a=>jh P t (m + 1) b a) (b:=(none,x2,y2,z2,_,_,_)) (λ _=>rfl) ⟨⟨_,rfl⟩,_,_,_,_,rfl,d⟩ (λ j b f _ _ d=>h3 _ _ b _ d) λ b a h=>.inr h) ?_);rintro r f (⟨⟨g2,rfl⟩,w,⟨x2,y2,z2,q2⟩,rfl,hz⟩|⟨⟨g2,rfl⟩,x2,y2,z2,q2,rfl,d⟩)
 ·exact eh (.done (some w,x2,y2,z2,q2.1)) (λ _=>rfl) ⟨⟨_,rfl⟩,_,_,rfl,hz⟩
 dsimp only [Option.map_none];exact bU (cz:=λ _ u=>u) (Cm (eh (.yield (none,x2,y2,z2,q2.1 + 1)) (λ _=>rfl) ⟨⟨_,rfl⟩,_,_,_,_,rfl,d⟩))
def mn {x:A'} {y:B'} {z:C'} {R:Array Nat->SI->Prop} (h0:P 1 x y z) (bad :∀x y z,¬ P (tot + 1) x y z) (h :∀r g,gn xa xb r->R r ⟨t.a,t.p,g⟩):cK c n (λ e=>mF tot (f1 e) (f3 e) (none,fa e x,fb e y,fc e z,q)) (λ e r=>r.map e.2) R t:=by
 unfold mF;refine bU (cz:=ll fa fb fc) (lE (R:=vH xa xb t) (lK (λ i b f=>jh P t (i + 1) b f) (b:=(none,x,y,z,q)) (λ _=>rfl) ⟨⟨t.g,rfl⟩,_,_,_,_,rfl,h0⟩ (λ j b l _ _ d=>ri ht le h1 h3 d) ?_) ?_)
 ·rintro b k ⟨-,x,y,z,q,rfl,hp⟩;rw [U8 (S1 _)] at hp;exact ZV hp (bad _ _ _)
 ·rintro r k ⟨⟨g,rfl⟩,z,q,rfl,hz⟩;exact eh z (λ _=>rfl) (h _ _ hz)
end
def lQ {α:Type} {f g:Nat->α->StateT ZA ZO (ForInStep α)} {i:α} {a b:Nat} (h :∀k s,f k s=g k s):F5 [a:b] i f=F5 [a:b] i g:=by rw [show f=g from funext λ k=>funext λ s=>h k s]
def lT {α β:Type} {x y:StateT ZA ZO α} {f g:α->StateT ZA ZO β} (h1:x=y) (h2 :∀a,f a=g a):x >>= f=y >>= g:=by rw [h1,funext h2]
variable {na nb:Nat}
section
def hX (xa xb:Array Nat) (na nb:Nat) (o:Array Nat):Prop:=o.toList.Perm (xa.toList.drop na++xb.toList.drop nb)
theorem pV {k:Nat} (h:hX xa xb na nb o) (hk:k<=na):hX xa xb k nb (o++(xa.extract k na).reverse):=by
 unfold hX at *;have e:xa.toList.drop k=(xa.extract k na).toList++xa.toList.drop na:=by
  rw [i3,Q2]
  conv=>lhs;rw [<-N2 (na - k) (j21 k xa.toList)]
  rw [X7,show k + (na - k)=na by omega]
 rw [C2,S9,e,O1];refine (h.append_right _).trans (List.perm_append_comm.trans ?_);exact T4 _ (j18 _)
theorem qT {k:Nat} (h:hX xa xb na nb o) (hk:k<=nb):hX xa xb na k (o++(xb.extract k nb).reverse):=by
 unfold hX at *;have e:xb.toList.drop k=(xb.extract k nb).toList++xb.toList.drop nb:=by
  rw [i3,Q2]
  conv=>lhs;rw [<-N2 (nb - k) (j21 k xb.toList)]
  rw [X7,show k + (nb - k)=nb by omega]
 rw [C2,S9,e];refine (h.append_right _).trans ?_;rw [O1];refine X2 _ (List.perm_append_comm.trans ?_);exact T4 _ (j18 _)
theorem mZ (h:hX xa xb (na + 1) nb o) (hi:na < xa.size):hX xa xb na nb (o.push xa[na]):=by unfold hX at *;rw [U3 (by simpa using hi),L6];exact (h.append_right _).trans (F3 (l₂:=[xa[na]]))
theorem nq (h:hX xa xb na (nb + 1) o) (hi:nb < xb.size):hX xa xb na nb (o.push xb[nb]):=by unfold hX at *;rw [U3 (l:=xb.toList) (by simpa using hi),L6];refine (h.append_right _).trans ?_;rw [O1];exact X2 _ (F3 (l₂:=[xb[nb]]))
def GQ {x:Array Nat} :(x.extract 0 i).toList=x.toList.take i:=by rw [i3,Q2];simp
theorem tM (h:hX xa xb na nb o):gn xa xb (xa.extract 0 na++xb.extract 0 nb++o.reverse):=by
 unfold hX gn at *;rw [C2,C2,GQ,GQ,S9];refine (X2 _ ((j18 _).trans h)).trans ?_
 conv=>rhs;rw [<-N2 na xa.toList,<-N2 nb xb.toList]
 simp only [O1];refine X2 _ ?_;simp only [<-O1];exact T4 _ F3
def xS (h:hX xa xb na nb o):gn xa xb (xb.extract 0 nb++xa.extract 0 na++o.reverse):=by refine .trans ?_ (tM h);rw [C2,C2,C2,C2];exact T4 _ F3
theorem BM (ha:0 < xa.size):hX xa xb (xa.size - 1) xb.size #[xa[xa.size - 1]]:=by unfold hX;rw [U3 (by simp;omega)];simp;omega
noncomputable abbrev rn (T:Type):=Ms ZC Nat Nat (Array ZC) T
noncomputable abbrev kD (a b o:Array ZC) (na nb:Nat):=a.extract 0 na++b.extract 0 nb++o.reverse
noncomputable def yf (a b:Array ZC) (na nb:Nat) (o:Array ZC) (g ac bc:Nat):StateT ZA ZO (ForInStep (rn (Nat×Nat×Nat))):=do
 let x <-W6 a (na - 1)
 if (na - 1 == 0)=true then W1 (.done (some (kD a b (o.push x) (na - 1) nb),na - 1,nb,o.push x,g,ac,bc))
 else if (decide (ac < 7) && decide (bc < 7))=true then W1 (.done (none,na - 1,nb,o.push x,g,ac,bc)) else W1 (.yield (none,na - 1,nb,o.push x,g,ac,bc))
noncomputable def xO (a b:Array ZC) (na nb:Nat) (o:Array ZC) (g ac bc:Nat):StateT ZA ZO (ForInStep (rn (Nat×Nat×Nat))):=do
 let x <-W6 b (nb - 1)
 if (nb - 1 == 1)=true then W1 (.done (some (kD b a (o.push x) (nb - 1) na),na,nb - 1,o.push x,g,ac,bc))
 else do
  let y <-W6 a (na - 1)
  let r <-vF true y b 0 (nb - 1) (nb - 1 - 1)
  match r with
  | some k=>
   if nb - 1 - k > 0 then
    if (k == 1)=true then W1 (.done (some (kD b a (o.push x++(b.extract k (nb - 1)).reverse) k na),na,k,o.push x++(b.extract k (nb - 1)).reverse,g,ac,nb - 1 - k))
    else if (k == 0)=true then W1 (.done (some (kD a b (o.push x++(b.extract k (nb - 1)).reverse) na k),na,k,o.push x++(b.extract k (nb - 1)).reverse,g,ac,nb - 1 - k))
    else yf a b na k (o.push x++(b.extract k (nb - 1)).reverse) g ac (nb - 1 - k)
   else yf a b na (nb - 1) (o.push x) g ac (nb - 1 - k)
  | none=>W1 (.done (some (kD a b (o.push x) na (nb - 1)),na,nb - 1,o.push x,g,ac,bc))
noncomputable def xV (a b:Array ZC) (na nb:Nat) (o:Array ZC) (g ac bc:Nat):StateT ZA ZO (ForInStep (rn (Nat×Nat×Nat))):=do
 yp g
 let x <-W6 b (nb - 1)
 let r <-vF false x a 0 na (na - 1)
 match r with
 | some k=>
  if na - k > 0 then
   if (k == 0)=true then W1 (.done (some (kD a b (o++(a.extract k na).reverse) k nb),k,nb,o++(a.extract k na).reverse,g,na - k,bc))
   else xO a b k nb (o++(a.extract k na).reverse) g (na - k) bc
  else xO a b na nb o g (na - k) bc
 | none=>W1 (.done (some (kD a b o na nb),na,nb,o,g,ac,bc))
noncomputable def xJ (a b:Array ZC) (_:Nat) (s:rn (Nat×Nat×Nat)):StateT ZA ZO (ForInStep (rn (Nat×Nat×Nat))):=
 if s.2.2.2.2.1 > 1 then xV a b s.2.1 s.2.2.1 s.2.2.2.1 (s.2.2.2.2.1 - 1) s.2.2.2.2.2.1 s.2.2.2.2.2.2 else xV a b s.2.1 s.2.2.1 s.2.2.2.1 s.2.2.2.2.1 s.2.2.2.2.2.1 s.2.2.2.2.2.2
noncomputable def By (a b:Array ZC) (g:Nat) (_:Nat) (s:rn (Nat×Nat)):StateT ZA ZO (ForInStep (rn (Nat×Nat))):=do
 let x <-W6 b (s.2.2.1 - 1)
 let y <-W6 a (s.2.1 - 1)
 let r <-lt' x y
 match r with
 | some w=>
  if w=true then do
   let x <-W6 a (s.2.1 - 1)
   if (s.2.1 - 1 == 0)=true then W1 (.done (some (kD a b (s.2.2.2.1.push x) (s.2.1 - 1) s.2.2.1),s.2.1 - 1,s.2.2.1,s.2.2.2.1.push x,s.2.2.2.2.1 + 1,0))
   else if s.2.2.2.2.1 + 1 ≥ g then W1 (.done (none,s.2.1 - 1,s.2.2.1,s.2.2.2.1.push x,s.2.2.2.2.1 + 1,0)) else W1 (.yield (none,s.2.1 - 1,s.2.2.1,s.2.2.2.1.push x,s.2.2.2.2.1 + 1,0))
  else do
   let x <-W6 b (s.2.2.1 - 1)
   if (s.2.2.1 - 1 == 1)=true then W1 (.done (some (kD b a (s.2.2.2.1.push x) (s.2.2.1 - 1) s.2.1),s.2.1,s.2.2.1 - 1,s.2.2.2.1.push x,0,s.2.2.2.2.2 + 1))
   else if s.2.2.2.2.2 + 1 ≥ g then W1 (.done (none,s.2.1,s.2.2.1 - 1,s.2.2.2.1.push x,0,s.2.2.2.2.2 + 1)) else W1 (.yield (none,s.2.1,s.2.2.1 - 1,s.2.2.2.1.push x,0,s.2.2.2.2.2 + 1))
 | none=>W1 (.done (some (kD a b s.2.2.2.1 s.2.1 s.2.2.1),s.2.1,s.2.2.1,s.2.2.2.1,s.2.2.2.2.1,s.2.2.2.2.2))
end
def Ja (a b:Array ZC):Ft a b=(do
 rule "list.sort.merge-hi"
 let x <-W6 a (a.size - 1)
 if (a.size - 1 == 0)=true then W1 (kD a b #[x] (a.size - 1) b.size)
 else if (b.size == 1)=true then W1 (kD b a #[x] b.size (a.size - 1))
 else do
  let s <-get
  mF (a.size + b.size) (By a b) (xJ a b) (none,a.size - 1,b.size,#[x],gallopOf s)):=by
 show (_ >>= _:StateT ZA ZO (Array ZC))=_;dsimp only;refine ZT λ _=>ZT λ x=>ite_congr rfl (λ _=>rfl) λ _=>ite_congr rfl (λ _=>rfl) λ _=>ZT λ s=>?_;refine lT (lQ λ _ s=>?_) λ s=>by rcases s with ⟨_|r,s⟩<;>rfl
 refine lT (lQ λ _ s=>ZT λ _=>ZT λ _=>ZT λ r=>by cases r<;>rfl) λ d=>?_;rcases d with ⟨_|r,d⟩
 ·refine ZT λ _=>lT (lQ λ _ s=>?_) λ c=>by rcases c with ⟨_|r,c⟩<;>rfl
  unfold xJ;refine ite_congr rfl (λ _=>?_) λ _=>?_
  all_goals
   refine ZT λ _=>ZT λ _=>ZT λ r=>?_;cases r with
   | none=>rfl
   | some k=>
    refine ite_congr rfl (λ _=>ite_congr rfl (λ _=>rfl) λ _=>?_) λ _=>?_
    all_goals
     refine ZT λ _=>ite_congr rfl (λ _=>rfl) λ _=>ZT λ _=>ZT λ r=>?_;cases r<;>rfl
 ·rfl
variable {a:Array Nat}
section
noncomputable abbrev rm {T:Type}:SV->Ms Nat Nat Nat (Array Nat) T->Ms ZC Nat Nat (Array ZC) T:=ll dM dM gK
def PH (xa xb:Array Nat) (m na nb:Nat) (o:Array Nat):Prop:=hX xa xb na nb o/\0 < na/\1 < nb/\na<=xa.size/\nb<=xb.size/\m + na + nb<=xa.size + xb.size
def uV {b:Array Nat} :kD (a.map f) (b.map f) (o.map f) i j=(a.extract 0 i++b.extract 0 j++o.reverse).map f:=by unfold kD;simp only [qf,jL,sV]
section
variable {ac bc g0:Nat} (la :∀i (hi:i < xa.size),xa[i] < n) (lb :∀i (hi:i < xb.size),xb[i] < n)
theorem Gp (hI:hX xa xb (na + 1) nb o) (h1:1 < nb) (ma:na + 1<=xa.size) (mb:nb<=xb.size) (hm:m + na + nb<=xa.size + xb.size):cK c n (λ e=>yf (xa.map e.2) (xb.map e.2) (na + 1) nb (o.map e.2) g ac bc) (eQ rm) (gp xa xb (PH xa xb) t m) ⟨t.a,t.p,g0⟩:=by unfold yf;simp only [j13];refine bN (by omega) ?_;have b:=mZ hI ma;simp only [sO,uV,beq_iff_eq];exact dA (λ _=>km dM dM gK (tM b)) λ d=>gz dM dM gK ⟨b,by omega,h1,by omega,mb,hm⟩
include la lb
theorem ED (hI:hX xa xb (na + 1) (nb + 1) o) (h1:0 < nb) (ma:na + 1<=xa.size) (mb:nb + 1<=xb.size) (hm:m + na + 1 + nb + 1<=xa.size + xb.size):cK c n (λ e=>xO (xa.map e.2) (xb.map e.2) (na + 1) (nb + 1) (o.map e.2) g ac bc) (eQ rm) (gp xa xb (PH xa xb) t m) ⟨t.a,t.p,g0⟩:=by
 unfold xO;simp only [j13];refine bN (by omega) ?_;have d:=nq hI mb;simp only [sO,uV,qf,jL,sV,beq_iff_eq];refine dA (λ _=>km dM dM gK (xS d)) λ j=>bN (by omega) (bU (cz:=λ _ r=>r) (tH (la _ _) (λ i h=>⟨_,V1 (by omega),lb _ _⟩) (by omega) λ k f=>?_));dsimp only;have b:=qT d f;refine dA (λ _=>dA (λ _=>km dM dM gK (xS b)) λ _=>dA (λ _=>km dM dM gK (tM b)) λ _=>?_) λ _=>?_
 ·exact Gp b (by omega) ma (by omega) (by omega)
 ·exact Gp d (by omega) ma (by omega) (by omega)
theorem RQ (hI:hX xa xb (na + 1) (nb + 1) o) (h1:0 < nb) (ma:na + 1<=xa.size) (mb:nb + 1<=xb.size) (hm:m + na + 1 + nb + 1<=xa.size + xb.size):cK c n (λ e=>xV (xa.map e.2) (xb.map e.2) (na + 1) (nb + 1) (o.map e.2) g ac bc) (eQ rm) (gp xa xb (PH xa xb) t m) ⟨t.a,t.p,g0⟩:=by
 unfold xV;refine bU (cz:=λ _ u=>u) (Cm (bN (by omega) (bU (cz:=λ _ r=>r) (tH (lb _ _) (λ i h=>⟨_,V1 (by omega),la _ _⟩) (by omega) λ k f=>?_))));simp only [uV,qf,jL,sV,beq_iff_eq];have b:=pV hI f;refine dA (λ _=>dA (λ _=>km dM dM gK (tM b)) λ d=>?_) λ _=>?_
 ·obtain ⟨k,rfl⟩:=o4 d;exact ED la lb b h1 (by omega) mb (by omega)
 ·exact ED la lb hI h1 ma mb hm
theorem Qe (i m:Nat) (b:Ms Nat Nat Nat (Array Nat) (Nat×Nat×Nat)) (t1:SI) (h:jh (PH xa xb) t m b t1):cK c n (λ e=>xJ (xa.map e.2) (xb.map e.2) i (rm e b)) (eQ rm) (gp xa xb (PH xa xb) t m) t1:=by
 obtain ⟨⟨g,rfl⟩,k,a,o,q,rfl,f,l,p,d,j,r⟩:=h;obtain ⟨k,rfl⟩:=o4 (Nat.pos_iff_ne_zero.1 l);obtain ⟨a,rfl⟩:=o4 (by omega:a≠0);unfold xJ;dsimp only;refine dA (λ _=>?_) λ _=>?_
 all_goals exact RQ la lb f (by omega) d j (by omega)
theorem Na (g i m:Nat) (b:Ms Nat Nat Nat (Array Nat) (Nat×Nat)) (t1:SI) (h:jh (PH xa xb) t m b t1):cK c n (λ e=>By (xa.map e.2) (xb.map e.2) g i (rm e b)) (eQ rm) (gp xa xb (PH xa xb) t (m + 1)) t1:=by
 obtain ⟨⟨v,rfl⟩,s,d,o,q,rfl,f,a,r,p,j,u⟩:=h;obtain ⟨s,rfl⟩:=o4 (Nat.pos_iff_ne_zero.1 a);obtain ⟨d,rfl⟩:=o4 (by omega:d≠0);unfold By;simp only [Nat.succ_eq_add_one,j13];have l:=mZ f p;have k:=nq f j;refine bN (by omega) (bN (by omega) (bU (cz:=λ _ b=>b) (gP (lb _ _) (la _ _) ?_)));dsimp only;refine dA (λ _=>bN (by omega) ?_) λ _=>bN (by omega) ?_
 all_goals simp only [sO,uV,beq_iff_eq]
 ·exact dA (λ _=>km dM dM gK (tM l)) λ a=>gz dM dM gK ⟨l,by omega,r,by omega,j,by omega⟩
 ·exact dA (λ _=>km dM dM gK (xS k)) λ a=>gz dM dM gK ⟨k,by omega,by omega,by omega,by omega,by omega⟩
end
theorem OH {R:Array Nat->SI->Prop} (ha:0 < xa.size) (hb:0 < xb.size) (na :∀k∈xa,k < n) (nb :∀k∈xb,k < n) (h :∀r g,gn xa xb r->R r ⟨t.a,t.p,g⟩):cK c n (λ e=>Ft (xa.map e.2) (xb.map e.2)) (λ e r=>r.map e.2) R t:=by
 have d :∀i (b:i < xa.size),xa[i] < n:=λ i b=>na _ (m8 b);have f :∀i (b:i < xb.size),xb[i] < n:=λ i b=>nb _ (m8 b);simp only [Ja,Z3];refine bU (cz:=λ _ u=>u) (vk (bN (by omega) ?_));simp only [IG,uV,beq_iff_eq];refine dA (λ _=>eh _ (λ _=>rfl) (h _ t.g (tM (BM ha)))) λ o=>dA (λ _=>eh _ (λ _=>rfl) (h _ t.g (xS (BM ha)))) λ l=>bU (nK ?_);have j:0 < xa.size - 1/\1 < xb.size/\xa.size - 1<=xa.size/\xb.size<=xb.size/\1 + (xa.size - 1) + xb.size<=xa.size + xb.size:=by omega
 exact mn (P:=PH xa xb) (fa:=dM) (fb:=dM) (fc:=gK) (by omega) (λ m k x y z q ⟨p1,p2,p3,p4,p5,p6⟩=>⟨p1,p2,p3,p4,p5,by omega⟩) (Na d f) (Qe d f) ⟨BM ha,j⟩ (λ x y z p=>by have:=p.2.2.2.2.2;have:=p.2.1;omega) h
end
noncomputable abbrev qP (T:Type):=Ms ZC (Array ZC) Nat Nat T
noncomputable abbrev kh (a b o:Array ZC) (ia ib:Nat):=o++a.extract ia a.size++b.extract ib b.size
noncomputable def xF (a b:Array ZC) (o:Array ZC) (ia ib:Nat) (g ac bc:Nat):StateT ZA ZO (ForInStep (qP (Nat×Nat×Nat))):=do
 let x <-W6 a ia
 if (ia + 1 + 1 == a.size)=true then W1 (.done (some (kh b a (o.push x) ib (ia + 1)),o.push x,ia + 1,ib,g,ac,bc))
 else if (decide (ac < 7) && decide (bc < 7))=true then W1 (.done (none,o.push x,ia + 1,ib,g,ac,bc)) else W1 (.yield (none,o.push x,ia + 1,ib,g,ac,bc))
noncomputable def yc (a b:Array ZC) (o:Array ZC) (ia ib:Nat) (g ac bc:Nat):StateT ZA ZO (ForInStep (qP (Nat×Nat×Nat))):=do
 let x <-W6 b ib
 if (ib + 1 == b.size)=true then W1 (.done (some (kh a b (o.push x) ia (ib + 1)),o.push x,ia,ib + 1,g,ac,bc))
 else do
  let y <-W6 a ia
  let r <-vF true y b (ib + 1) (b.size - (ib + 1)) 0
  match r with
  | some k=>
   if k > 0 then
    if (ib + 1 + k == b.size)=true then W1 (.done (some (kh a b (o.push x++b.extract (ib + 1) (ib + 1 + k)) ia (ib + 1 + k)),o.push x++b.extract (ib + 1) (ib + 1 + k),ia,ib + 1 + k,g,ac,k))
    else xF a b (o.push x++b.extract (ib + 1) (ib + 1 + k)) ia (ib + 1 + k) g ac k
   else xF a b (o.push x) ia (ib + 1) g ac k
  | none=>W1 (.done (some (kh a b (o.push x) ia (ib + 1)),o.push x,ia,ib + 1,g,ac,bc))
noncomputable def xC (a b:Array ZC) (o:Array ZC) (ia ib:Nat) (g ac bc:Nat):StateT ZA ZO (ForInStep (qP (Nat×Nat×Nat))):=do
 yp g
 let x <-W6 b ib
 let r <-vF false x a ia (a.size - ia) 0
 match r with
 | some k=>
  if k > 0 then
   if (ia + k + 1 == a.size)=true then W1 (.done (some (kh b a (o++a.extract ia (ia + k)) ib (ia + k)),o++a.extract ia (ia + k),ia + k,ib,g,k,bc))
   else if (ia + k == a.size)=true then W1 (.done (some (kh a b (o++a.extract ia (ia + k)) (ia + k) ib),o++a.extract ia (ia + k),ia + k,ib,g,k,bc))
   else yc a b (o++a.extract ia (ia + k)) (ia + k) ib g k bc
  else yc a b o ia ib g k bc
 | none=>W1 (.done (some (kh a b o ia ib),o,ia,ib,g,ac,bc))
noncomputable def yd (a b:Array ZC) (_:Nat) (s:qP (Nat×Nat×Nat)):StateT ZA ZO (ForInStep (qP (Nat×Nat×Nat))):=
 if s.2.2.2.2.1 > 1 then xC a b s.2.1 s.2.2.1 s.2.2.2.1 (s.2.2.2.2.1 - 1) s.2.2.2.2.2.1 s.2.2.2.2.2.2 else xC a b s.2.1 s.2.2.1 s.2.2.2.1 s.2.2.2.2.1 s.2.2.2.2.2.1 s.2.2.2.2.2.2
noncomputable def lo1 (a b:Array ZC) (g:Nat) (_:Nat) (s:qP (Nat×Nat)):StateT ZA ZO (ForInStep (qP (Nat×Nat))):=do
 let x <-W6 b s.2.2.2.1
 let y <-W6 a s.2.2.1
 let r <-lt' x y
 match r with
 | some w=>
  if w=true then do
   let x <-W6 b s.2.2.2.1
   if (s.2.2.2.1 + 1 == b.size)=true then W1 (.done (some (kh a b (s.2.1.push x) s.2.2.1 (s.2.2.2.1 + 1)),s.2.1.push x,s.2.2.1,s.2.2.2.1 + 1,0,s.2.2.2.2.2 + 1))
   else if s.2.2.2.2.2 + 1 ≥ g then W1 (.done (none,s.2.1.push x,s.2.2.1,s.2.2.2.1 + 1,0,s.2.2.2.2.2 + 1)) else W1 (.yield (none,s.2.1.push x,s.2.2.1,s.2.2.2.1 + 1,0,s.2.2.2.2.2 + 1))
  else do
   let x <-W6 a s.2.2.1
   if (s.2.2.1 + 1 + 1 == a.size)=true then W1 (.done (some (kh b a (s.2.1.push x) s.2.2.2.1 (s.2.2.1 + 1)),s.2.1.push x,s.2.2.1 + 1,s.2.2.2.1,s.2.2.2.2.1 + 1,0))
   else if s.2.2.2.2.1 + 1 ≥ g then W1 (.done (none,s.2.1.push x,s.2.2.1 + 1,s.2.2.2.1,s.2.2.2.2.1 + 1,0)) else W1 (.yield (none,s.2.1.push x,s.2.2.1 + 1,s.2.2.2.1,s.2.2.2.2.1 + 1,0))
 | none=>W1 (.done (some (kh a b s.2.1 s.2.2.1 s.2.2.2.1),s.2.1,s.2.2.1,s.2.2.2.1,s.2.2.2.2.1,s.2.2.2.2.2))
def NJ (a b:Array ZC):GC a b=(do
 rule "list.sort.merge-lo"
 let x <-W6 b 0
 if (1 == b.size)=true then W1 (kh a b #[x] 0 1)
 else if (0 + 1 == a.size)=true then W1 (kh b a #[x] 1 0)
 else do
  let s <-get
  mF (a.size + b.size) (lo1 a b) (yd a b) (none,#[x],0,1,gallopOf s)):=by
 show (_ >>= _:StateT ZA ZO (Array ZC))=_;dsimp only;refine ZT λ _=>ZT λ x=>ite_congr rfl (λ _=>rfl) λ _=>ite_congr rfl (λ _=>rfl) λ _=>ZT λ s=>?_;refine lT (lQ λ _ s=>?_) λ s=>by rcases s with ⟨_|r,s⟩<;>rfl
 refine lT (lQ λ _ s=>ZT λ _=>ZT λ _=>ZT λ r=>by cases r<;>rfl) λ d=>?_;rcases d with ⟨_|r,d⟩
 ·refine ZT λ _=>lT (lQ λ _ s=>?_) λ c=>by rcases c with ⟨_|r,c⟩<;>rfl
  unfold yd;refine ite_congr rfl (λ _=>?_) λ _=>?_
  all_goals
   refine ZT λ _=>ZT λ _=>ZT λ r=>?_;cases r with
   | none=>rfl
   | some k=>
    refine ite_congr rfl (λ _=>ite_congr rfl (λ _=>rfl) λ _=>ite_congr rfl (λ _=>rfl) λ _=>?_) λ _=>?_
    all_goals
     refine ZT λ _=>ite_congr rfl (λ _=>rfl) λ _=>ZT λ _=>ZT λ r=>?_;cases r<;>rfl
 ·rfl
section
noncomputable abbrev qz {T:Type}:SV->Ms Nat (Array Nat) Nat Nat T->Ms ZC (Array ZC) Nat Nat T:=ll gK dM dM
def PM (xa xb:Array Nat) (m:Nat) (o:Array Nat) (ia ib:Nat):Prop:=iD xa xb ia ib o/\ia + 1 < xa.size/\ib < xb.size/\m<=ia + ib
def uO {b:Array Nat} :kh (a.map f) (b.map f) (o.map f) i j=(o++a.extract i a.size++b.extract j b.size).map f:=by unfold kh;simp only [Z3,qf,sV]
section
variable {ac bc g0:Nat} (la :∀i (hi:i < xa.size),xa[i] < n) (lb :∀i (hi:i < xb.size),xb[i] < n) (hI:iD xa xb ia ib o) (h0:ia + 1 < xa.size) (h1:ib < xb.size) (hm:m<=ia + ib + 1)
include hI h0 h1 hm
theorem DC:cK c n (λ e=>xF (xa.map e.2) (xb.map e.2) (o.map e.2) ia ib g ac bc) (eQ qz) (gp xa xb (PM xa xb) t m) ⟨t.a,t.p,g0⟩:=by unfold xF;refine bN (by omega) ?_;have b:=lW hI (by omega);simp only [sO,uO,beq_iff_eq,Z3];exact dA (λ _=>km gK dM dM (xg b)) λ d=>gz gK dM dM ⟨b,by omega,h1,by omega⟩
include la lb
theorem EK:cK c n (λ e=>yc (xa.map e.2) (xb.map e.2) (o.map e.2) ia ib g ac bc) (eQ qz) (gp xa xb (PM xa xb) t m) ⟨t.a,t.p,g0⟩:=by
 unfold yc;refine bN (by omega) ?_;have b:=mD hI h1;simp only [sO,uO,qf,sV,beq_iff_eq,Z3];refine dA (λ _=>km gK dM dM (uD b)) λ _=>bN (by omega) (bU (cz:=λ _ r=>r) (tH (la _ _) (λ i f=>⟨_,V1 (by omega),lb _ _⟩) (by omega) λ k h=>?_));dsimp only;have d:=qw (k:=k) b;refine dA (λ _=>dA (λ _=>km gK dM dM (uD d)) λ _=>?_) λ _=>?_
 ·exact DC d (by omega) (by omega) (by omega)
 ·exact DC b (by omega) (by omega) (by omega)
theorem OV:cK c n (λ e=>xC (xa.map e.2) (xb.map e.2) (o.map e.2) ia ib g ac bc) (eQ qz) (gp xa xb (PM xa xb) t m) ⟨t.a,t.p,g0⟩:=by
 unfold xC;refine bU (cz:=λ _ u=>u) (Cm (bN (by omega) ?_));simp only [Z3];refine bU (cz:=λ _ r=>r) (tH (lb _ _) (λ i d=>⟨_,V1 (by omega),la _ _⟩) (by omega) λ k f=>?_);simp only [uO,qf,sV,beq_iff_eq];have b:=sG (k:=k) hI;refine dA (λ _=>dA (λ _=>km gK dM dM (xg b)) λ _=>dA (λ _=>km gK dM dM (uD b)) λ _=>?_) λ _=>?_
 ·exact EK la lb b (by omega) h1 (by omega)
 ·exact EK la lb hI h0 h1 hm
end
section
variable (la :∀i (hi:i < xa.size),xa[i] < n) (lb :∀i (hi:i < xb.size),xb[i] < n)
include la lb
theorem Mw (i m:Nat) (b:Ms Nat (Array Nat) Nat Nat (Nat×Nat×Nat)) (t1:SI) (h:jh (PM xa xb) t m b t1):cK c n (λ e=>yd (xa.map e.2) (xb.map e.2) i (qz e b)) (eQ qz) (gp xa xb (PM xa xb) t m) t1:=by
 obtain ⟨⟨g,rfl⟩,o,l,k,q,rfl,d,f,a,j⟩:=h;unfold yd;dsimp only;refine dA (λ _=>?_) λ _=>?_
 all_goals exact OV la lb d f a (by omega)
theorem Li (g i m:Nat) (b:Ms Nat (Array Nat) Nat Nat (Nat×Nat)) (t1:SI) (h:jh (PM xa xb) t m b t1):cK c n (λ e=>lo1 (xa.map e.2) (xb.map e.2) g i (qz e b)) (eQ qz) (gp xa xb (PM xa xb) t (m + 1)) t1:=by
 obtain ⟨⟨r,rfl⟩,o,u,s,q,rfl,d,l,a,p⟩:=h;unfold lo1;dsimp only [dM];have j:=lW d (by omega);have f:=mD d a;refine bN (by omega) (bN (by omega) (bU (cz:=λ _ b=>b) (gP (lb _ _) (la _ _) ?_)));dsimp only;refine dA (λ _=>bN (by omega) ?_) λ _=>bN (by omega) ?_
 all_goals simp only [sO,uO,beq_iff_eq,Z3]
 ·exact dA (λ _=>km gK dM dM (uD f)) λ k=>gz gK dM dM ⟨f,l,by omega,by omega⟩
 ·exact dA (λ _=>km gK dM dM (xg j)) λ k=>gz gK dM dM ⟨j,by omega,a,by omega⟩
end
theorem Np {R:Array Nat->SI->Prop} (ha:0 < xa.size) (hb:0 < xb.size) (na :∀k∈xa,k < n) (nb :∀k∈xb,k < n) (h :∀r g,gn xa xb r->R r ⟨t.a,t.p,g⟩):cK c n (λ e=>GC (xa.map e.2) (xb.map e.2)) (λ e r=>r.map e.2) R t:=by
 have d :∀i (b:i < xa.size),xa[i] < n:=λ i b=>na _ (m8 b);have f :∀i (b:i < xb.size),xb[i] < n:=λ i b=>nb _ (m8 b);simp only [NJ,Z3];refine bU (cz:=λ _ u=>u) (vk (bN hb ?_));simp only [IG,uO,beq_iff_eq];refine dA (λ _=>eh _ (λ _=>rfl) (h _ t.g (uD (zJ hb)))) λ o=>dA (λ _=>eh _ (λ _=>rfl) (h _ t.g (xg (zJ hb)))) λ l=>bU (nK ?_);have j:0 + 1 < xa.size/\1 < xb.size/\1<=0 + 1:=by omega
 exact mn (P:=PM xa xb) (fa:=gK) (fb:=dM) (fc:=dM) (by omega) (λ m k x y z q ⟨p1,p2,p3,p4⟩=>⟨p1,p2,p3,by omega⟩) (Li d f) (Mw d f) ⟨zJ hb,j⟩ (λ x y z p=>by have:=p.2;omega) h
end
noncomputable def nJ (lo a nrem:Nat):StateT ZA ZO AscSt:=
 F5 [a:nrem] ((none,a):AscSt) λ _ s=>do
  let x <-ltAt' (lo + s.2) (lo + s.2 - 1)
  match x with
  | some w=>if w=true then W1 (.done (none,s.2)) else W1 (.yield (none,s.2 + 1))
  | none=>W1 (.done (some none,s.2))
noncomputable def kG (lo n nrem:Nat):StateT ZA ZO (Option Nat):=do
 g9 lo (lo + n)
 let s <-nJ lo n nrem
 match s.1 with
 | some r=>W1 r
 | none=>W1 (some s.2)
noncomputable def mM (lo n nrem:Nat):StateT ZA ZO DescSt:=
 F5 [n:nrem] ((none,n,0):DescSt) λ _ s=>do
  let x <-ltAt' (lo + s.2.1) (lo + s.2.1 - 1)
  match x with
  | some w=>
   if w=true then
    if s.2.2 > 0 then do
     g9 (lo + s.2.1 - (s.2.2 + 1)) (lo + s.2.1)
     W1 (.yield (none,s.2.1 + 1,0))
    else W1 (.yield (none,s.2.1 + 1,0))
   else do
    let x <-ltAt' (lo + s.2.1 - 1) (lo + s.2.1)
    match x with
    | some w=>if w=true then W1 (.done (none,s.2.1,s.2.2)) else W1 (.yield (none,s.2.1 + 1,s.2.2 + 1))
    | none=>W1 (.done (some none,s.2.1,s.2.2))
  | none=>W1 (.done (some none,s.2.1,s.2.2))
noncomputable def iw (lo n nrem:Nat):StateT ZA ZO (Option Nat):=do
 rule "list.sort.descending-run"
 let s <-mM lo (n + 1) nrem
 match s.1 with
 | some r=>W1 r
 | none=>
  if s.2.2 > 0 then do
   g9 (lo + s.2.1 - (s.2.2 + 1)) (lo + s.2.1)
   kG lo s.2.1 nrem
  else kG lo s.2.1 nrem
def Qg (lo nrem:Nat):countRun' lo nrem=(do
  let s <-nJ lo 1 nrem
  match s.1 with
  | some r=>W1 r
  | none=>
   if (s.2 == nrem)=true then W1 (some s.2)
   else if s.2 > 1 then do
    let x <-ltAt' lo (lo + s.2 - 1)
    match x with
    | some w=>if w=true then W1 (some s.2) else do
      g9 lo (lo + s.2)
      iw lo s.2 nrem
    | none=>W1 none
   else iw lo s.2 nrem):=by
 rw [countRun'_eq];dsimp only;refine lT (lQ λ k s=>ZT λ x=>by cases x<;>rfl) λ s=>?_;obtain ⟨r,n⟩:=s;cases r with
 | some r=>rfl
 | none=>
  dsimp only;refine ite_congr rfl (λ _=>rfl) λ _=>?_;refine ite_congr rfl (λ _=>ZT λ x=>?_) λ _=>?_
  ·cases x with
   | none=>rfl
   | some w=>
    refine ite_congr rfl (λ _=>rfl) λ _=>ZT λ _=>?_;unfold iw;refine ZT λ _=>lT (lQ λ k s=>ZT λ x=>?_) λ s=>?_
    ·cases x with
     | none=>rfl
     | some w=>exact ite_congr rfl (λ _=>rfl) λ _=>ZT λ x=>by cases x<;>rfl
    ·rcases s with ⟨_|r,s⟩
     ·refine ite_congr rfl (λ _=>ZT λ _=>ZT λ _=>?_) λ _=>ZT λ _=>?_
      all_goals exact lT (lQ λ k s=>ZT λ x=>by cases x<;>rfl) λ s=>by rcases s with ⟨_|r,s⟩<;>rfl
     ·rfl
  ·unfold iw;refine ZT λ _=>lT (lQ λ k s=>ZT λ x=>?_) λ s=>?_
   ·cases x with
    | none=>rfl
    | some w=>exact ite_congr rfl (λ _=>rfl) λ _=>ZT λ x=>by cases x<;>rfl
   ·rcases s with ⟨_|r,s⟩
    ·refine ite_congr rfl (λ _=>ZT λ _=>ZT λ _=>?_) λ _=>ZT λ _=>?_
     all_goals exact lT (lQ λ k s=>ZT λ x=>by cases x<;>rfl) λ s=>by rcases s with ⟨_|r,s⟩<;>rfl
    ·rfl
variable {nrem:Nat}
section
def Kp (n:Nat) (t t':SI):Prop:=ft n t'.a/\t'.p=t.p/\t'.g=t.g
def gx (h:ft n a) (hi:i < n) :∃k,a[i]? = some k/\k < n:=by
 have b:i < a.size:=by rw [h.size];exact hi
 exact ⟨_,V1 b,List.mem_range.mp (h.mem_iff.mp (Array.getElem_mem_toList b))⟩
def wF {R:Option Bool->SI->Prop} (hp:ft n t.a) (hi:i < n) (hj:j < n) (h :∀b,R (some b) t):cK c n (λ _=>ltAt' i j) (λ _ b=>b) R t:=by simp only [ltAt'_eq];obtain ⟨k,l,g⟩:=gx hp hi;obtain ⟨m,f,d⟩:=gx hp hj;exact bU (nK (bU (cz:=λ e k=>e.2 k) (tL (λ _=>rfl) l (bU (cz:=λ e k=>e.2 k) (tL (λ _=>rfl) f (gP g d (h _)))))))
def xN {R:Unit->SI->Prop} (hp:ft n t.a) (h :∀t',Kp n t t'->R () t'):cK c n (λ _=>g9 i j) (λ _ u=>u) R t:=by simp only [reverseSlice'_eq];refine sY ⟨mirror t.a i j ((j - i) / 2),t.p,t.g⟩ (λ e=>?_) (h _ ⟨pJ hp,rfl,rfl⟩);show y6 _ (mirror (t.a.map e.2) i j ((j - i) / 2)) _ _ _=_;rw [show mirror (t.a.map e.2) i j ((j - i) / 2)=(mirror t.a i j ((j - i) / 2)).map e.2 from j3h e.2 (λ k=>i + k) (λ k=>j - 1 - k) _ t.a]
def Mc {R:Unit->SI->Prop} (hp:ft n t.a) (h :∀t',Kp n t t'->R () t'):cK c n (λ _=>moveDown' i j) (λ _ u=>u) R t:=by simp only [moveDown'_eq];refine sY ⟨bubble t.a i (i - j),t.p,t.g⟩ (λ e=>?_) (h _ ⟨NR hp,rfl,rfl⟩);show y6 _ (bubble (t.a.map e.2) i (i - j)) _ _ _=_;rw [show bubble (t.a.map e.2) i (i - j)=(bubble t.a i (i - j)).map e.2 from j3h e.2 (λ k=>i - k) (λ k=>i - k - 1) _ t.a]
def Kp.trans {t1 t2:SI} (h1:Kp n t t1) (h2:Kp n t1 t2):Kp n t t2:=⟨h2.1,h2.2.1.trans h1.2.1,h2.2.2.trans h1.2.2⟩
def Kp.refl (h:ft n t.a):Kp n t t:=⟨h,rfl,rfl⟩
theorem Eu {a:Nat} {R:AscSt->SI->Prop} (hp:ft n t.a) (ha:1<=a) (hn:lo + nrem<=n) (hr:a<=nrem) (h :∀m,a<=m->m<=nrem->R (none,m) t):cK c n (λ _=>nJ lo a nrem) (λ _ r=>r) R t:=by
 unfold nJ;refine lK (λ i b d=>d=t/\b=(none,i)) (λ _=>rfl) ⟨rfl,rfl⟩ ?_ ?_
 ·rintro i b d e f ⟨rfl,rfl⟩;dsimp only;refine bU (cz:=λ _ b=>b) (wF hp (by omega) (by omega) λ b=>?_);dsimp only;exact dA (λ _=>eh (.done (none,_)) (λ _=>rfl) (h i e (by omega))) λ _=>eh (.yield (none,_)) (λ _=>rfl) ⟨rfl,rfl⟩
 ·rintro b d ⟨rfl,rfl⟩;rw [U8 hr];exact h _ hr (u0 _)
theorem Gi {a:Nat} (hp:ft n t.a) (ha:1<=a) (hn:lo + nrem<=n) (hr:a<=nrem) (h :∀m t',1<=m->m<=nrem->Kp n t t'->R (some m) t'):cK c n (λ _=>kG lo a nrem) (λ _ r=>r) R t:=by unfold kG;refine bU (cz:=λ _ u=>u) (xN hp λ e b=>?_);refine bU (cz:=λ _ r=>r) (Eu b.1 ha hn hr λ m f d=>?_);exact eh (some m) (λ _=>rfl) (h m e (by omega) d b)
theorem Md {a:Nat} {R:DescSt->SI->Prop} (hp:ft n t.a) (ha:1<=a) (hn:lo + nrem<=n) (hr:a<=nrem) (h :∀m q t',a<=m->m<=nrem->Kp n t t'->R (none,m,q) t'):cK c n (λ _=>mM lo a nrem) (λ _ r=>r) R t:=by
 unfold mM;refine lK (λ i b t'=>Kp n t t'/\∃q,b=(none,i,q)) (λ _=>rfl) ⟨Kp.refl hp,_,rfl⟩ ?_ ?_
 ·rintro i b t' d f ⟨k1,q,rfl⟩;dsimp only;refine bU (cz:=λ _ b=>b) (wF k1.1 (by omega) (by omega) λ b=>?_);dsimp only;refine dA (λ _=>dA (λ _=>?_) λ _=>?_) λ _=>?_
  ·exact bU (cz:=λ _ u=>u) (xN k1.1 λ g e=>eh (.yield (none,_,_)) (λ _=>rfl) ⟨k1.trans e,_,rfl⟩)
  ·exact eh (.yield (none,_,_)) (λ _=>rfl) ⟨k1,_,rfl⟩
  ·refine bU (cz:=λ _ b=>b) (wF k1.1 (by omega) (by omega) λ b=>?_);dsimp only;exact dA (λ _=>eh (.done (none,_,_)) (λ _=>rfl) (h i q _ d (by omega) k1)) λ _=>eh (.yield (none,_,_)) (λ _=>rfl) ⟨k1,_,rfl⟩
 ·rintro b t' ⟨k1,q,rfl⟩;rw [U8 hr];exact h _ _ _ hr (u0 _) k1
theorem DZ {a:Nat} (hp:ft n t.a) (hn:lo + nrem<=n) (hr:a + 1<=nrem) (h :∀m t',1<=m->m<=nrem->Kp n t t'->R (some m) t'):cK c n (λ _=>iw lo a nrem) (λ _ r=>r) R t:=by
 unfold iw;refine bU (cz:=λ _ u=>u) (vk ?_);refine bU (cz:=λ _ r=>r) (Md hp (by omega) hn hr λ m q l j g b=>?_);dsimp only;refine dA (λ _=>?_) λ _=>?_
 ·exact bU (cz:=λ _ u=>u) (xN b.1 λ k i=>Gi i.1 (by omega) hn g λ m t' f e d=>h m t' f e ((b.trans i).trans d))
 ·exact Gi b.1 (by omega) hn g λ m t' f e d=>h m t' f e (b.trans d)
theorem RR (hp:ft n t.a) (hn:lo + nrem<=n) (hr:1<=nrem) (h :∀m t',1<=m->m<=nrem->Kp n t t'->R (some m) t'):cK c n (λ _=>countRun' lo nrem) (λ _ r=>r) R t:=by
 simp only [Qg];refine bU (cz:=λ _ r=>r) (Eu hp (u0 _) hn hr λ m e d=>?_);dsimp only;simp only [beq_iff_eq];refine dA (λ _=>eh (some m) (λ _=>rfl) (h m t e d (Kp.refl hp))) λ _=>dA (λ _=>?_) λ _=>?_
 ·refine bU (cz:=λ _ b=>b) (wF hp (by omega) (by omega) λ b=>?_);dsimp only;refine dA (λ _=>eh (some m) (λ _=>rfl) (h m t e d (Kp.refl hp))) λ _=>?_;exact bU (cz:=λ _ u=>u) (xN hp λ k f=>DZ f.1 hn (by omega) λ m t' j i g=>h m t' j i (f.trans g))
 ·exact DZ hp hn (by omega) h
theorem JN {ok:Nat} {R:Bool->SI->Prop} (hp:ft n t.a) (hn:lo + m<=n) (h :∀t',Kp n t t'->R true t'):cK c n (λ _=>binarySort' lo m ok) (λ _ r=>r) R t:=by
 simp only [binarySort'_eq];refine bU (cz:=λ _ r=>r) (lE (R:=λ r t'=>Kp n t t'/\r=(none,())) (lK (β:=Option Bool×Unit) (λ _ b t'=>Kp n t t'/\b=(none,())) (λ _=>rfl) ⟨Kp.refl hp,rfl⟩ ?_ λ b t' h=>h) ?_)
 ·rintro k b d j g ⟨k1,rfl⟩;refine bU (cz:=λ _ r=>r) (lE (R:=λ r t'=>t'=d/\∃l q,r=(none,l,q)) (lK (β:=Option Bool×Nat×Nat) (λ _ b t'=>t'=d/\∃l q,b=(none,l,q)/\q<=k) (λ _=>rfl) ⟨rfl,_,_,rfl,u0 _⟩ ?_ ?_) ?_)
  ·rintro i b e _ _ ⟨rfl,l,q,rfl,hq⟩;dsimp only;refine dA (λ _=>eh (.done (none,_,_)) (λ _=>rfl) ⟨rfl,_,_,rfl⟩) λ _=>?_;refine bU (cz:=λ _ b=>b) (wF k1.1 (by omega) (by omega) λ b=>?_);dsimp only;exact dA (λ _=>eh (.yield (none,_,_)) (λ _=>rfl) ⟨rfl,_,_,rfl,by omega⟩) λ _=>eh (.yield (none,_,_)) (λ _=>rfl) ⟨rfl,_,_,rfl,hq⟩
  ·rintro b e ⟨rfl,l,q,rfl,_⟩;exact ⟨rfl,_,_,rfl⟩
  ·rintro r e ⟨rfl,l,q,rfl⟩;dsimp only;exact bU (cz:=λ _ u=>u) (Mc k1.1 λ o f=>eh (.yield (none,())) (λ _=>rfl) ⟨k1.trans f,rfl⟩)
 ·rintro r d ⟨k1,rfl⟩;exact eh true (λ _=>rfl) (h d k1)
end
theorem EJ {α:Type} {s:Nat} :∀(m:List α) (k:Nat) (a:Array α),s + k + m.length<=a.size->((m.zipIdx k).foldl (λ a (x:α×Nat)=>a.setIfInBounds (s + x.2) x.1) a).toList=a.toList.take (s + k)++m++a.toList.drop (s + k + m.length)
 | [],k,a,h=>by simp
 | x :: m,k,a,h=>by
  rw [P0] at h;rw [List.zipIdx_cons,j28,EJ m (k + 1) _ (by rw [Array.size_setIfInBounds];omega)];have b:s + k < a.toList.length:=by rw [R1];omega
  have e:(a.setIfInBounds (s + k) x).toList=(a.toList.take (s + k)++[x])++a.toList.drop (s + k + 1):=by rw [Array.toList_setIfInBounds,F6,ZZ b];simp
  have c:(a.toList.take (s + k)++[x]).length=s + (k + 1):=by rw [G0,A3,M7 (T3 b)];rfl
  show List.take (s + (k + 1)) (a.setIfInBounds (s + k) x).toList++m++j21 (s + (k + 1) + m.length) (a.setIfInBounds (s + k) x).toList=_;rw [e,<-c,List.take_left,List.drop_length_add_append,X7];rw [P0,O1,O1,O1,show s + k + 1 + m.length=s + k + (m.length + 1) by omega];rfl
noncomputable abbrev oI {α:Type} (s:Nat) (m:Array α) (a:Array α):Array α:=m.toList.zipIdx.foldl (λ a (x:α×Nat)=>a.setIfInBounds (s + x.2) x.1) a
theorem BZ {α:Type} {s:Nat} {m a:Array α} (h:s + m.size<=a.size):(oI s m a).toList=a.toList.take s++m.toList++a.toList.drop (s + m.size):=by have:=EJ (s:=s) m.toList 0 a (by rw [R1];omega);rw [R1] at this;exact this
def Qa {α β:Type} {s:Nat} {m a:Array α} {f:α->β} (h:s + m.size<=a.size):oI s (m.map f) (a.map f)=(oI s m a).map f:=by apply Array.toList_inj.mp;rw [BZ (by rw [Z3,Z3];exact h),Array.toList_map (xs:=oI s m a),BZ h];simp
theorem qY {s l:Nat} {m:Array Nat} (hp:ft n a) (h:s + l<=n) (hm:m.toList.Perm ((a.toList.drop s).take l)):ft n (oI s m a):=by
 have c:=hp.size;have b:m.size=l:=by have:=hm.length_eq;rw [R1,A3,V4,R1] at this;omega
 unfold ft at *;rw [BZ (by omega),b];refine ((X2 _ hm).append_right _).trans ?_;rw [O1,<-X7,N2,N2];exact hp
section
theorem Qt {k:Nat} (hi:i<=j) (hk:j<=k):(a.extract i j).toList++(a.extract j k).toList=(a.toList.drop i).take (k - i):=by rw [i3,i3,Q2,Q2];rw [show k - i=(j - i) + (k - j) by omega,List.take_add,X7,show i + (j - i)=j by omega]
def ym {k:Nat} (hp:ft n a) (h:k∈a.extract i j):k < n:=by have h:=Array.mem_toList_iff.mpr h;rw [i3,Q2] at h;exact List.mem_range.mp (hp.mem_iff.mp (List.mem_of_mem_drop (j5h h)))
theorem Oz {sa pw pw2:Nat} {R:Bool->SI->Prop} (hp:ft n t.a) (h1:t.p[i]? = some (sa,na,pw)) (h2:t.p[i + 1]? = some (sa + na,nb,pw2)) (ha:0 < na) (hb:0 < nb) (hn:sa + na + nb<=n)
  (h :∀t',ft n t'.a->t'.p=(t.p.setIfInBounds i (sa,na + nb,pw)).eraseIdxIfInBounds (i + 1)->R true t'):cK c n (λ _=>mergeAt' i) (λ _ r=>r) R t:=by
 have sz:=hp.size;refine hB (m':=λ e=>_ >>= _) (λ _=>rfl) (bU (nK ?_));dsimp only;have o :∀e,V3 (lP e t)=t.p:=λ _=>rfl;have x :∀e,arrOf (lP e t)=t.a.map e.2:=λ _=>rfl;simp only [o,x,h1,h2];refine bU (cz:=λ _ u=>u) (Nc ⟨t.a,(t.p.setIfInBounds i (sa,na + nb,pw)).eraseIdxIfInBounds (i + 1),t.g⟩ (λ _=>rfl) ?_);obtain ⟨E,w,A⟩:=gx hp (show sa + na < n by omega);refine bU (cz:=λ e k=>e.2 k) (tL (λ _=>rfl) w ?_);refine bU (cz:=λ _ r=>r) (tH A (λ j s=>gx hp (by omega)) ha λ k H=>?_);simp only [beq_iff_eq];refine dA (λ _=>eh true (λ _=>rfl) (h _ hp rfl)) λ z=>?_;obtain ⟨G,q,y⟩:=gx hp (show sa + k + (na - k) - 1 < n by omega);refine bU (cz:=λ e k=>e.2 k) (tL (λ _=>rfl) q ?_);refine bU (cz:=λ _ r=>r) (tH y (λ j s=>gx hp (by omega)) (by omega) λ d D=>?_);simp only [qf];refine dA (λ _=>eh true (λ _=>rfl) (h _ hp rfl)) λ F=>?_;have m:sa + k + (d + (na - k))<=n:=by omega
 have C :∀r,gn (t.a.extract (sa + k) (sa + na)) (t.a.extract (sa + na) (sa + na + d)) r->ft n (oI (sa + k) r t.a)/\sa + k + r.size<=t.a.size:=λ r b=>by unfold gn at b;rw [Qt (by omega) (by omega),show sa + na + d - (sa + k)=d + (na - k) by omega] at b;refine ⟨qY hp m b,?_⟩;have:=b.length_eq;rw [R1,A3,V4,R1] at this;omega
 have f:0 < (t.a.extract (sa + k) (sa + na)).size:=by rw [Array.size_extract];omega
 have l:0 < (t.a.extract (sa + na) (sa + na + d)).size:=by rw [Array.size_extract];omega
 refine dA (λ _=>bU (Np f l (λ _=>ym hp) (λ _=>ym hp) λ r g b=>?_)) λ _=>bU (OH f l (λ _=>ym hp) (λ _=>ym hp) λ r g b=>?_)
 all_goals
  obtain ⟨v,B⟩:=C r b;refine bU (cz:=λ _ u=>u) (sY ⟨oI (sa + k) r t.a,(t.p.setIfInBounds i (sa,na + nb,pw)).eraseIdxIfInBounds (i + 1),g⟩ (λ e=>?_) ?_)
  ·show y6 e.1 (oI (sa + k) (r.map e.2) (t.a.map e.2)) _ g none=_;rw [Qa B]
  ·exact bU (nK (eh true (λ _=>rfl) (h _ v rfl)))
end
noncomputable def Ct:Nat->List (Nat×Nat×Nat)->Nat->Prop
 | s,[],e=>s=e
 | s,x :: l,e=>x.1=s/\0 < x.2.1/\Ct (s + x.2.1) l e
theorem Ct.le:∀{l:List (Nat×Nat×Nat)} {s e:Nat},Ct s l e->s<=e
 | [],_,_,h=>m6 h
 | _ :: _,_,_,⟨_,_,h⟩=>by have:=h.le;omega
theorem Ct.push {x:Nat×Nat×Nat} :∀{l:List (Nat×Nat×Nat)} {s e:Nat},Ct s l e->x.1=e->0 < x.2.1->Ct s (l++[x]) (e + x.2.1)
 | [],_,_,rfl,h1,h2=>⟨h1,h2,rfl⟩
 | _ :: _,_,_,⟨a,b,h⟩,h1,h2=>⟨a,b,h.push h1 h2⟩
theorem Ct.power {f:Nat×Nat×Nat->Nat×Nat×Nat} (hf :∀x,(f x).1=x.1/\(f x).2.1=x.2.1) :∀{l:List (Nat×Nat×Nat)} {i s e:Nat},Ct s l e->Ct s (l.modify i f) e
 | [],0,_,_,h=>h
 | [],_ + 1,_,_,h=>h
 | x :: l,0,s,e,⟨a,b,h⟩=>by rw [List.modify_zero_cons];refine ⟨by rw [(hf x).1];exact a,by rw [(hf x).2];exact b,by rw [(hf x).2];exact h⟩
 | x :: l,i + 1,s,e,⟨a,b,h⟩=>by rw [List.modify_succ_cons];exact ⟨a,b,Ct.power hf h⟩
theorem Ct.merge:∀{l:List (Nat×Nat×Nat)} {i s e:Nat},Ct s l e->i + 1 < l.length->∃sa na nb pw pw2,l[i]? = some (sa,na,pw)/\l[i + 1]? = some (sa + na,nb,pw2)/\0 < na/\0 < nb/\sa + na + nb<=e/\Ct s ((l.set i (sa,na + nb,pw)).eraseIdx (i + 1)) e
 | [],_,_,_,_,h=>ZV h (by simp)
 | [x],_,_,_,_,h=>ZV h (by simp)
 | ⟨a,m,p⟩ :: ⟨b,k,q⟩ :: l,0,s,e,⟨d,h2,c,h4,h5⟩,_=>by have d:a=s:=d;have c:b=s + m:=c;have o:s + m + k<=e:=h5.le;subst d c;exact ⟨a,m,k,p,q,rfl,rfl,h2,h4,o,rfl,by show 0 < m + k;omega,by rw [<-j0h];exact h5⟩
 | x :: y :: l,i + 1,s,e,⟨d,h2,c⟩,h=>by obtain ⟨sa,na,nb,pw,pw2,f,n,g,j,r,t⟩:=Ct.merge (i:=i) c (by simpa using h);exact ⟨sa,na,nb,pw,pw2,f,n,g,j,r,d,h2,t⟩
section
def Rn (n e:Nat) (t:SI):Prop:=ft n t.a/\Ct 0 t.p.toList e/\e<=n
theorem Hr {e:Nat} {R:Bool->SI->Prop} (hr:Rn n e t) (hi:i + 1 < t.p.size) (h :∀t',Rn n e t'->R true t'):cK c n (λ _=>mergeAt' i) (λ _ r=>r) R t:=by
 obtain ⟨l,u,q⟩:=hr;obtain ⟨j,f,a,d,x,b,g,k,m,y,w⟩:=u.merge (i:=i) (by rw [R1];exact hi);rw [C5] at b g;refine Oz l b g k m (by omega) λ t' s o=>h t' ⟨s,?_,q⟩;rw [o];have v:((t.p.setIfInBounds i (j,f + a,d)).eraseIdxIfInBounds (i + 1)).toList=(t.p.toList.set i (j,f + a,d)).eraseIdx (i + 1):=by simp
 rw [v];exact w
def sH {p:Prop} [Decidable p] {a b s:Nat} (h1:a + 1 < s) (h2:b + 1 < s):(if p then a else b) + 1 < s:=by
 split
 ·exact h1
 ·exact h2
def Rn.push (h:Rn n lo t) (h1:1<=q) (h2:lo + q<=n):Rn n (lo + q) ⟨t.a,t.p.push (lo,q,0),t.g⟩:=by refine ⟨h.1,?_,h2⟩;show Ct 0 (t.p.push (lo,q,0)).toList (lo + q);rw [L6];exact Ct.push (x:=(lo,q,0)) h.2.1 rfl h1
noncomputable def AY (n pw:Nat) (_:Nat) (_:Option Unit×Unit):StateT ZA ZO (ForInStep (Option Unit×Unit)):=do
 let s <-get
 match if (V3 s).size > 1 then (V3 s)[(V3 s).size - 2]? else none with
 | some (_,_,older)=>
  if older<=pw then W1 (.done (none,()))
  else do
   let r <-mergeAt' ((V3 s).size - 2)
   if (!r)=true then W1 (.done (some (),())) else W1 (.yield (none,()))
 | none=>W1 (.done (none,()))
noncomputable def Ip (n lo q:Nat):StateT ZA ZO (ForInStep (Option Unit×Nat)):=do
 let s <-get
 match (V3 s).back? with
 | some (s1,n1,_)=>do
  let r <-F5 [0:n] ((none,()):Option Unit×Unit) (AY n (power' n (2 * s1 + n1) (2 * s1 + n1 + n1 + q) n))
  match r.1 with
  | some r=>W1 (.done (some r,lo))
  | none=>do
   modify λ s=>j53 s ((V3 s).modify ((V3 s).size - 1) λ x=>(x.1,x.2.1,power' n (2 * s1 + n1) (2 * s1 + n1 + n1 + q) n))
   modify λ s=>j53 s ((V3 s).push (lo,q,0))
   W1 (.yield (none,lo + q))
 | none=>do
  modify λ s=>j53 s ((V3 s).push (lo,q,0))
  W1 (.yield (none,lo + q))
theorem Ql {pw:Nat} {b:Option Unit×Unit} (r:Rn n lo t):cK c n (λ _=>AY n pw i b) (eQ λ _ r=>r) (rS (λ r t'=>Rn n lo t'/\r=(none,())) λ r t'=>Rn n lo t'/\r=(none,())) t:=by
 unfold AY;refine bU (nK ?_);have d :∀e t,V3 (lP e t)=t.p:=λ _ _=>rfl;simp only [d];by_cases hz:t.p.size > 1
 ·obtain ⟨⟨x,y,z⟩,f⟩ :∃x,t.p[t.p.size - 2]? = some x:=⟨_,V1 (by omega)⟩
  simp only [ZZ hz,f];refine dA (λ _=>eh (.done (none,())) (λ _=>rfl) ⟨r,rfl⟩) λ _=>bU (cz:=λ _ r=>r) (Hr r (by omega) λ g a=>?_);simp only [z6,u3,if_false];exact eh (.yield (none,())) (λ _=>rfl) ⟨a,rfl⟩
 ·simp only [Z_ hz];exact eh (.done (none,())) (λ _=>rfl) ⟨r,rfl⟩
theorem EN (r:Rn n lo t) (h1:1<=q) (h2:lo + q<=n) (hl:i<=lo):cK c n (λ _=>Ip n lo q) (eQ λ _ r=>r) (rS (λ r t'=>Rn n n t'/\r=(none,n)) λ b t'=>∃lo,i + 1<=lo/\Rn n lo t'/\b=(none,lo)) t:=by
 unfold Ip;refine bU (nK ?_);have v :∀e t,V3 (lP e t)=t.p:=λ _ _=>rfl;simp only [v];have l :∀t',Rn n lo t'->cK c n (λ _=>(do modify λ s=>j53 s ((V3 s).push (lo,q,0));W1 (.yield (none,lo + q)):StateT ZA ZO (ForInStep (Option Unit×Nat)))) (eQ λ _ r=>r) (rS (λ r t'=>Rn n n t'/\r=(none,n)) λ b t'=>∃lo,i + 1<=lo/\Rn n lo t'/\b=(none,lo)) t':=λ t' o=>bU (cz:=λ _ u=>u) (sY ⟨t'.a,t'.p.push (lo,q,0),t'.g⟩ (λ _=>rfl) (eh (.yield (none,lo + q)) (λ _=>rfl) ⟨lo + q,by omega,o.push h1 h2,rfl⟩));cases hb:t.p.back? with
 | none=>exact l t r
 | some x=>obtain ⟨m,k,w⟩:=x;dsimp only;generalize power' n (2 * m + k) (2 * m + k + k + q) n=pw;refine bU (cz:=λ _ r=>r) (lE (R:=λ r t'=>Rn n lo t'/\r=(none,())) (lK (β:=Option Unit×Unit) (λ _ b t'=>Rn n lo t'/\b=(none,())) (λ _=>rfl) ⟨r,rfl⟩ (λ j b d _ _ h=>Ql h.1) λ _ _ h=>h) ?_);rintro _ d ⟨r4,rfl⟩;refine bU (cz:=λ _ u=>u) (sY ⟨d.a,d.p.modify (d.p.size - 1) λ x=>(x.1,x.2.1,pw),d.g⟩ (λ _=>rfl) (l _ ⟨r4.1,?_,r4.2.2⟩));show Ct 0 (d.p.modify (d.p.size - 1) λ x=>(x.1,x.2.1,pw)).toList lo;rw [Array.toList_modify];exact Ct.power (f:=λ x=>(x.1,x.2.1,pw)) (λ x=>⟨rfl,rfl⟩) r4.2.1
theorem Rv (hp:ft n t.a) (h0:t.p = #[]):cK c n (λ _=>sortRuns') (λ _ u=>u) (λ _ t'=>ft n t'.a) t:=by
 simp only [sortRuns'_eq];refine bU (nK ?_);have y :∀e t,V3 (lP e t)=t.p:=λ _ _=>rfl;have D :∀e,(arrOf (lP e t)).size=n:=λ e=>by show (t.a.map e.2).size=n;rw [Z3,hp.size]
 simp only [D];generalize minRun' n n 0=mr;have C:Rn n 0 t:=⟨hp,by rw [h0];rfl,S1 _⟩
 refine bU (cz:=λ _ r=>r) (lE (R:=λ r t'=>Rn n n t'/\r=(none,n)) (lK (β:=Option Unit×Nat) (λ i b t'=>∃lo,i<=lo/\Rn n lo t'/\b=(none,lo)) (λ _=>rfl) ⟨0,u0 _,C,rfl⟩ ?_ ?_) ?_)
 ·rintro i b l - hi ⟨lo,hl,r1,rfl⟩;dsimp only;refine dA (λ z=>eh (.done (none,lo)) (λ _=>rfl) ?_) λ z=>?_
  ·have:=r1.2.2;obtain rfl:lo=n:=by omega
   exact ⟨r1,rfl⟩
  refine bU (cz:=λ _ r=>r) (RR r1.1 (by omega) (by omega) λ m w E H g=>?_);dsimp only;have f:Rn n lo w:=⟨g.1,g.2.1 ▸ r1.2.1,r1.2.2⟩
  refine dA (λ B=>bU (cz:=λ _ u=>u) (vk (bU (cz:=λ _ r=>r) (JN g.1 (by omega) λ F v=>dA (λ h=>ZV h (by decide)) λ _=>hB (λ e=>?_) (EN (q:=min (n - lo) mr) ⟨v.1,v.2.1 ▸ f.2.1,f.2.2⟩ (by omega) (by omega) hl))))) λ B=>hB (λ e=>?_) (EN f E (by omega) hl)
  all_goals
   refine ZT λ s=>?_;generalize (V3 s).back? = o;rcases o with _|⟨s1,n1,p1⟩
   ·rfl
   refine lT (lQ λ k b=>ZT λ s=>?_) λ r=>by rcases r with ⟨_|_,_⟩<;>rfl
   generalize (if (V3 s).size > 1 then (V3 s)[(V3 s).size - 2]? else none)=o;rcases o with _|⟨_,_,_⟩<;>rfl
 ·rintro b l ⟨lo,hl,r1,rfl⟩;have:=r1.2.2;rw [U8 (S1 _)] at hl;obtain rfl:lo=n:=by omega
  exact ⟨r1,rfl⟩
 ·rintro r l ⟨r1,rfl⟩;dsimp only;refine bU (cz:=λ _ r=>r) (lE (R:=λ r t'=>Rn n n t'/\r=(none,())) (lK (β:=Option Unit×Unit) (λ _ b t'=>Rn n n t'/\b=(none,())) (λ _=>rfl) ⟨r1,rfl⟩ ?_ λ _ _ h=>h) ?_)
  ·rintro j b d - - ⟨r4,rfl⟩;refine bU (nK ?_);simp only [y];refine dA (λ _=>eh (.done (none,())) (λ _=>rfl) ⟨r4,rfl⟩) λ G=>?_;refine bU (cz:=λ _ r=>r) (hB (m':=λ _=>mergeAt' (if Option.any (λ x=>decide (x < (d.p[d.p.size - 2 + 1]?.elim 0 λ x=>x.2.1))) (if d.p.size - 2 > 0 then j07 (λ x=>x.2.1) d.p[d.p.size - 2 - 1]? else none)=true then d.p.size - 2 - 1 else d.p.size - 2)) (λ _=>rfl) (Hr r4 ?_ λ I A=>?_))
   ·exact sH (by omega) (by omega)
   ·simp only [z6,u3,if_false];exact eh (.yield (none,())) (λ _=>rfl) ⟨A,rfl⟩
  ·rintro r d ⟨r4,rfl⟩;exact eh () (λ _=>rfl) r4.1
end
def wd (c:Nat->Nat->Bool) (n:Nat) :∃p:Array Nat,ft n p/\∀prog w A E (e:SV) s,Ask prog w A c n e s->wpS (F1 prog w) A E s sortRuns' (λ _ st=>arrOf st=p.map e.2/\failedOf st=none) (y6 e.1 ((B1 n).toArray.map e.2) #[] 7 none):=by obtain ⟨_,g,d,b⟩:=Rv (c:=c) (n:=n) (t:=⟨(B1 n).toArray,#[],7⟩) (List.Perm.refl _) rfl;refine ⟨g.a,d,λ prog w A E e s f=>wpS_mono (b prog w A E e s f) ?_⟩;rintro x y ⟨-,rfl⟩;exact ⟨rfl,rfl⟩
noncomputable def oK (k:ZK×ZS):ZH:={ hash:=iE k.1,key:=.ref k.2,val:=.bool true }
noncomputable def cb (a:ZS) (ks:List (ZK×ZS)):HO:=.ext λ h=>(a == P3)=false/\ks.length<=ZF/\(ks.map (·.1)).Nodup/\∃ep,jb h a (ks.map oK).toArray ep
def kf (K:b0) (H:Hp) (a:ZS) (ks:List (ZK×ZS)):Prop:=Rd H a (cb a ks)/\∀k∈ks,cj k.1=true/\k.1.depth<=7/\gr K H k.1 (.ref k.2)
noncomputable def putN (ks:List (ZK×ZS)) (d:ZK) (b:ZS):List (ZK×ZS):=if d∈ks.map (·.1) then ks else ks++[(d,b)]
variable {H:Hp} {d:ZK} {ks:List (ZK×ZS)} {pins:List (ZS×ZQ)} {σ:St}
section
variable {a b:ZS} 
def kj (I:Inv X pins σ H s) (hk:cj d=true) (hd:d.depth<=7) (h:gr X.K H d (.ref b)):(wy X.prog X.w).is s.heap d b:=by obtain ⟨a,r⟩:=uG I d (.ref b) (.ref b) h rfl;exact ⟨hk,hd,a,r⟩
def xy (I:Inv X pins σ H s) (h:kf X.K H a ks):(a == P3)=false/\ks.length<=ZF/\(ks.map (·.1)).Nodup/\(∃ep,jb s.heap a (ks.map oK).toArray ep)/\s.heap.DictOfH (wy X.prog X.w) a (ks.map λ k=>(k.1,k.2,N4 true)):=by
 obtain ⟨f,e⟩:=h;obtain ⟨⟨i,n,b,ep,c⟩,_⟩:=(show br X.prog X.w H s.heap a (cb a ks) from f.ok I.hok)
 refine ⟨i,n,b,⟨ep,c⟩,?_⟩;obtain ⟨o,p,j,d⟩:=c;refine ⟨o,_,ep,p,j,d,?_,λ x q=>?_,?_⟩
 ·rw [v3];rfl
 ·obtain ⟨k,r,rfl⟩:=List.mem_map.mp q;obtain ⟨g,l,m⟩:=e k r;exact kj I g l m
 ·rw [v3];exact b
def om:(O9 (ks.map λ k=>(k.1,k.2,N4 true)) d).isSome=decide (d∈ks.map (·.1)):=by
 unfold O9;rw [g8,Bool.eq_iff_iff,List.find?_isSome,decide_eq_true_iff];constructor
 ·rintro ⟨x,hx,e⟩;obtain ⟨k,a,rfl⟩:=List.mem_map.mp hx;exact List.mem_map.mpr ⟨k,a,ZW e⟩
 ·intro h;obtain ⟨k,a,e⟩:=List.mem_map.mp h;exact ⟨_,List.mem_map.mpr ⟨k,a,rfl⟩,ZY e⟩
def Hk:storedH (ks.map λ k=>(k.1,k.2,N4 true)) d b (.bool true)=(putN ks d b).map λ k=>(k.1,k.2,N4 true):=by
 unfold storedH putN;rw [om];by_cases z:d∈ks.map (·.1)
 ·rw [ZZ (ZY z),ZZ z,v3];refine List.map_congr_left λ k a=>?_;show putAt d (.bool true) (k.1,k.2,N4 true)=_;unfold putAt;split<;>rfl
 ·rw [Z_ (by rw [ZX z];decide),Z_ z,u1];rfl
theorem wA:(putN ks d b).length<=ks.length + 1:=by
 unfold putN;split
 ·lia
 ·rw [G0];exact u0 _
theorem rh {Q:Unit->A0->Prop} (hu:A.units + 9 < ZE) (I:Inv X pins σ H s) (ha:H a=some (cb a ks)) (h:kf X.K H a ks) (hl:ks.length < ZF) (hk:cj d=true) (hd:d.depth<=7) (hb:gr X.K H d (.ref b)) (q :∀s',Inv X pins σ (upd H a (cb a (putN ks d b))) s'->Q () s'):V0 (F1 X.prog X.w) A (setItem (.ref a) (.ref b) (.bool true)) Q E s:=by
 obtain ⟨m,C,J,_,F⟩:=xy I h;refine wpAny_setItem_heap (knd:=wy X.prog X.w) (hsz:=by rw [C0];exact C) (show A.units + 1 + 8 < ZE by lia) (kj I hk hd hb) F λ L f y=>q _ ?_;rw [Hk] at f;obtain ⟨o,i,j,c,r,t,u,_,g⟩:=f;have B:i=((putN ks d b).map oK).toArray:=by apply Array.ext';rw [u,v3];rfl
 subst B;refine s_ I (by rw [ha];exact True.intro) y ⟨o,c⟩ ⟨⟨m,by have:=wA (ks:=ks) (d:=d) (b:=b);lia,?_,j,o,c,r,t⟩,⟨o,c⟩,λ M G p k=>?_⟩
 ·rw [v3] at g;exact g
 ·obtain ⟨x,D,n,z,e,v,l⟩:=p;exact ⟨x,D,n,z,e,k e v,l⟩
end
def pS:TE:=λ _ H Q=>∀p,H p=none->Q (.ref p) (upd H p (cb p []))
def yQ (K:b0) (neg:Bool):R2:=λ y x H Q=>∃a b ks d,x=.ref a/\y=.ref b/\kf K H a ks/\cj d=true/\d.depth<=7/\gr K H d (.ref b)/\Q (.bl (xor neg (decide (d∈ks.map (·.1))))) H
def uC (K:b0) (td ty tv:TE):TS:=λ D σ H=>tv σ H λ v H1=>td σ H1 λ x H2=>ty σ H2 λ y H3=>∃a b ks d,v=.bl true/\x=.ref a/\y=.ref b/\H3 a=some (cb a ks)/\kf K H3 a ks/\ks.length < ZF/\cj d=true/\d.depth<=7/\gr K H3 d (.ref b)/\D.nx σ (upd H3 a (cb a (putN ks d b)))
variable {P:ZJ} {pos:ZP}
section
def Fg (h:ZM) (hb:P3 < h.objs.size):br P w H (h.push { cls:=.type "dict",data:=.dict #[] }) h.objs.size (cb h.objs.size []):=by refine ⟨⟨beq_eq_false_iff_ne.mpr (C4 (G1 hb)),S1 _,List.nodup_nil,0,_,Z0 _ rfl,⟨rfl,rfl,rfl⟩,rfl⟩,⟨_,Z0 _ rfl⟩,λ j i p k=>?_⟩;obtain ⟨e,f,d,g,a,c,b⟩:=p;exact ⟨e,f,d,g,a,k a c,b⟩
def Fy:PE X (.Dict [] [] pos) pS:=λ b s σ H Q I h=>wpAny_Dict_empty ⟨.ref s.heap.objs.size,_,I.laid (a:=s.heap.objs.size) (o:=cb s.heap.objs.size []) (t':=s.toks) (λ _ _ q=>F0 _ q) (u0 _) (Fg s.heap I.big),rfl,h _ (I.hok.fresh (u0 _))⟩
theorem FN {k:Nat} (hr:bQ k X.A):eA X (V2 .NotIn) (yQ X.K true):=by intro o s σ H y x u v Q I f j h;obtain ⟨a,b,r,d,rfl,rfl,l,c,e,i,q⟩:=h;cases f;cases j;have p:=hr.units;obtain ⟨g,t,n,_,m⟩:=xy I l;refine wpAny_notIn_heap (knd:=wy X.prog X.w) (show X.A.units + 1 + 8 < ZE by lia) (kj I c e i) g m ?_;rw [om];rw [Bool.true_xor] at q;exact ⟨.bl _,H,I.tok _,rfl,q⟩
theorem zC {o i value:ZN} {pos':ZP} {td ty tv:TE} {k:Nat} (hr:bQ k X.A) (ho:PE X o td) (hi:PE X i ty) (hv:PE X value tv) (hs:K7 value (some (.Subscript o i pos')) pos.line X.env=W1 false) :
  PS X (.Assign [.Subscript o i pos'] value pos) (uC X.K td ty tv):=by
 intro c s σ H D I h;refine wpAny_Assign_Subscript (bb (hv c s σ H _ I h) λ r j ⟨v,H1,I1,rv,q1⟩=>bb (ho c j σ H1 _ I1 q1) λ u e ⟨x,H2,I2,rx,q2⟩=>bb (hi c e σ H2 _ I2 q2) λ g n zz=>?_) hs;obtain ⟨y,H3,I3,ry,a,b,ks,d,ev,ex,ey,h0,h1,h2,h3,h4,h5,q3⟩:=zz;subst ev ex ey;obtain rfl:u=E1 a:=rx;obtain rfl:g=E1 b:=ry;obtain rfl:r=N4 true:=rv;have m:=hr.units;exact rh (by lia) I3 h0 h1 h2 h3 h4 h5 λ l f=>⟨σ,_,f,q3⟩
end
noncomputable def lh (ds:List ZK) (i j:Nat):Bool:=(ie (ds.getD i .none) (ds.getD j .none)).getD false
noncomputable def gq (ds:List ZK):List Nat:=if ds.length < 2 then B1 ds.length else (M5 (wd (lh ds) ds.length)).toList
def z_ (ds:List ZK):(gq ds).Perm (B1 ds.length):=by
 unfold gq;split
 ·exact List.Perm.refl _
 ·exact (G6 (wd (lh ds) ds.length)).1
mutual
theorem Qu:∀d:ZK,cj d=true->ie d d=some false
 | .int i,_=>by show some (decide (i < i))=some false;rw [ZX (Int.lt_irrefl i)]
 | .tuple xs,h=>H_ xs h
 | .none,h=>nomatch h
 | .bool _,h=>nomatch h
 | .str _,h=>nomatch h
 | .list _,h=>nomatch h
 | .dict _,h=>nomatch h
theorem H_:∀xs:List ZK,bC xs=true->gH xs xs=some false
 | [],_=>rfl
 | x :: xs,h=>by show (if x=x then gH xs xs else ie x x)=some false;rw [ZZ rfl];exact H_ xs (Bool.and_eq_true_iff.mp (show (cj x && bC xs)=true from h)).2
end
def h_ (h:ZM) (v:ZG) (d:ZK):Prop:=cj d=true/\d.depth<=7/\(∃xs ys,d=.tuple (.tuple xs :: ys))/\∃as,Reads h v d as
def h_.kept {h':ZM} {v:ZG} {c:ZS} {oc:ZQ} (q:h_ h v d) (e:h.get? c=some oc) (nc:oc.cls≠.type "tuple") (k :∀b o,b≠c->h.get? b=some o->h'.get? b=some o):h_ h' v d:=by obtain ⟨f,i,j,g,m⟩:=q;exact ⟨f,i,j,g,xE (λ b o p n a l _=>k b o (λ z=>by rw [z,e] at a;cases a;exact nc l) a) d v g f m⟩
section
theorem FW:∀(ds es:List ZK) (vs us:List ZG) (as bs:List ZS) (i:Nat) (b fin:Bool) (Q:Bool->A0->Prop),bC ds=true->bC es=true->S7 s.heap vs ds as->S7 s.heap us es bs->gH ds es=some b->fin=decide (ds.length < es.length)->A.units + Y1 ds + 1 < ZE->Q b s->PySem.W.KatLex prog w A false fin Q (vs.zip us) i s
 | [],es,vs,us,as,bs,i,b,fin,Q,_,_,r,_,h,hf,_,q=>by cases r;rw [List.zip_nil_left];cases (show some (decide (0 < es.length))=some b from h);exact PySem.W.kat_nil (by rw [hf];exact q)
 | d :: ds,es,vs,us,as,bs,i,b,fin,Q,a,c,r,r2,h,hf,f,q=>by
  cases es with
  | nil=>cases r2;rw [List.zip_nil_right];cases (show some false=some b from h);exact PySem.W.kat_nil (by rw [hf];exact q)
  | cons e es=>
   have a:=Bool.and_eq_true_iff.mp (show (cj d && bC ds)=true from a);have c:=Bool.and_eq_true_iff.mp (show (cj e && bC es)=true from c);have f:A.units + max d.depth (Y1 ds) + 1 < ZE:=f;cases r with
   | @cons v vs _ _ as as' a1 a2=>
    cases r2 with
    | @cons u us _ _ bs bs' b1 b2=>
     have h:(if d=e then gH ds es else ie d e)=some b:=h;rw [U7];refine PySem.W.kat_cons (j1d d e A s v u as bs a1 b1 (o_ d a.1) (o_ e c.1) (by have:=F9 d.depth e.depth;lia) prog w _ _ ?_);rw [CT (p:=d=e) (rQ d a.1) (rQ e c.1) Iff.rfl];by_cases z:d=e
     ·rw [ZZ z] at h;rw [ZY z];exact PySem.W.kat_yes (FW ds es vs us as' bs' (i + 1) b fin Q a.2 c.2 a2 b2 h (by rw [hf];simp) (by lia) q)
     ·rw [Z_ z] at h;rw [ZX z];refine PySem.W.kat_no ?_;rw [oneLt'_eq];simp only [Y7,u3,if_false];exact d0 (mj d e v u as bs b A s _ a.1 c.1 a1 b1 h (by lia) (L0 q))
theorem JO {v z:ZG} {e:ZK} {b:Bool} (hx:h_ s.heap v d) (hy:h_ s.heap z e) (h:ie d e=some b) (hu:A.units + 9 < ZE) (q:Q b s):V0 (F1 prog w) A (keyLt' (tuples' false) v z) Q E s:=by
 obtain ⟨g,c,⟨k,l,rfl⟩,p,i⟩:=hx;obtain ⟨f,r,⟨m,t,rfl⟩,bs,j⟩:=hy;cases i with
 | @tuple a o vs n _ _ e1 e2 e3 e4=>
  cases j with
  | @tuple a' o' vs' n' _ _ f1 f2 f3 f4=>have c:Y1 (.tuple k :: l) + 1<=7:=c;refine PySem.W.kat_lt e1 e3 f1 f3 (FW _ _ _ _ _ _ 0 b _ Q g f e4 f4 h ?_ (by lia) q);rw [<-wK e4,<-wK f4,R1,R1]
theorem DJ:∀{vs:List ZG} {ds:List ZK},av (λ v d=>h_ h v d) vs ds->∃fs,PySem.W.KatTups h vs fs/\fs.length=vs.length/\∀f∈fs,PySem.W.Looks (F1 prog w) h (typeOf f) (.type "tuple")
 | _,_,.nil=>⟨[],trivial,rfl,λ _ h=>ZV h t0⟩
 | _,_,.cons a r=>by
  obtain ⟨fs,e,c,i⟩:=DJ r;obtain ⟨_,_,⟨t,u,rfl⟩,p,m⟩:=a;cases m with
  | @tuple a o vs n _ _ e1 e2 e3 e4=>
   generalize hl:vs.toList=l at e4;cases e4 with
   | @cons f l _ _ _ _ r1 r2=>
    have j:vs[0]? = some f:=by rw [<-C5,hl];rfl
    refine ⟨f :: fs,PySem.W.KatTups.cons e1 e2 e3 j e,by rw [P0,P0,c],λ g b=>?_⟩;rcases List.mem_cons.mp b with rfl|b
    ·cases r1 with
     | tuple g1 g2 g3 g4=>exact λ A Q E s k q=>W9 (T:="tuple") ⟨_,k _ _ g1,g2⟩ q
    ·exact i g b
theorem Kw {a:ZS} {vs:List ZG} {ds:List ZK} {n0:Nat} {P:M8->A0->Prop} (ho:s.heap.get? a=some (a8 "list" vs.toArray n0)) (sz:vs.length<=ZF) (al:av (λ v d=>h_ s.heap v d) vs ds) (nd:ds.Nodup) (cm :∀d∈ds,∀e∈ds,d≠e->(ie d e).isSome=true) (hu:A.units + 9 < ZE)
  (h :∀(h':ZM) (e:Nat),(∀b o,b≠a->s.heap.get? b=some o->h'.get? b=some o)->h'.get? a=some (a8 "list" ((gq ds).map λ i=>vs.getD i Value.none).toArray e)->P (.done (.ret .none)) { s with heap:=h' }) :
  V0 (F1 prog w) A (j1c.«list.sort» ⟨[.ref a],[]⟩) P E s:=by
 have B:ds.length=vs.length:=cH al;have la:a < s.heap.objs.size:=S0 ho;obtain ⟨F,K⟩ :∃F,(s.heap.update a (Y5 λ _=>(#[]:Array ZG))).get? a=some (a8 "list" #[] F):=⟨_,get?_update_seq ho λ _=>#[]⟩
 rw [list_sort_plain];refine d0 (listItems_at ho rfl (d0 (j1j ho rfl (d0 (seqEpoch_at K rfl (d0 (wpAny_newTuple (d0 (j1h (Z4 ?_) (S1 _))) (by simpa using sz))))) (by simpa using sz) (S1 _))));dsimp only;generalize hh3:((s.heap.update a (Y5 λ _=>(#[]:Array ZG))).push (a8 "tuple" vs.toArray 0)).push (a8 "list" #[] 0)=h3;have Z:=G5 s.heap a (Y5 λ _=>(#[]:Array ZG));have M :∀b o,b≠a->s.heap.get? b=some o->h3.get? b=some o:=λ b o n e=>by rw [<-hh3];exact F0 _ (F0 _ ((Z.2 b n).trans e))
 have l:h3.get? a=some (a8 "list" #[] F):=by rw [<-hh3];exact F0 _ (F0 _ K)
 have I:av (λ v k=>h_ h3 v k) vs ds:=bI (λ _ _ z=>z.kept ho (show R7 "list"≠.type "tuple" by decide) M) al;have R :∀(g:Array ZG),g=((gq ds).map λ i=>vs.getD i Value.none).toArray->P (.done (.ret .none)) { s with heap:=h3.update a (Y5 λ _=>g) }:=λ g f=>by
  obtain ⟨D,H⟩ :∃D,(h3.update a (Y5 λ _=>g)).get? a=some (a8 "list" g D):=⟨_,get?_update_seq l λ _=>g⟩
  rw [f] at H⊢;exact h _ D (λ b o n e=>(Z8 _ _ (C4 n)).trans (M b o n e)) H
 have J:((gq ds).map λ i=>vs.getD i Value.none).toArray.size<=ZF + 1:=by rw [N0,C0,(z_ ds).length_eq,F2,B];exact D0 sz (C3 _)
 by_cases c:vs.toArray.size < 2
 ·rw [ZZ c];have l2:vs.length < 2:=by simpa using c
  have m:(B1 vs.length).map (λ i=>vs.getD i Value.none)=vs:=by
   apply Z6
   ·simp
   ·intro i X c;simp [m3,B0 c]
  have t:gq ds=B1 vs.length:=by unfold gq;rw [ZZ (by lia),B]
  refine d0 (L0 ?_);rw [ZZ c];refine (show V0 _ _ (W1 ((),y6 general' (vs.toArray.zip vs.toArray) #[] 7 none) >>= _) _ _ _ from d0 (L0 ?_));dsimp only;have f:j1g (λ x=>x.snd) (arrOf (y6 general' (vs.toArray.zip vs.toArray) #[] 7 none))=((gq ds).map λ i=>vs.getD i Value.none).toArray:=by
   rw [t,m];show j1g (λ x=>x.snd) (vs.toArray.zip vs.toArray)=vs.toArray;apply Array.ext
   ·simp
   ·intro i X c;simp
  refine d0 (seqEpoch_at l rfl (d0 (j1j l rfl ?_ (S1 _) ?_)))
  ·simp only [bne_self_eq_false,u3,if_false];exact L0 (R _ f)
  ·rw [f];exact J
 ·rw [Z_ c];have l2:2<=vs.length:=by simpa using Nat.not_lt.mp c
  obtain ⟨fs,Y,lf,a0⟩:=DJ (prog:=prog) (w:=w) I;refine d0 (PySem.W.kat_kind (T:=.type "tuple") Y (by lia) a0 (by decide) ?_);rw [Z_ c];obtain ⟨U,m⟩:=G6 (wd (lh ds) ds.length);have t:gq ds=(M5 (wd (lh ds) ds.length)).toList:=by unfold gq;rw [Z_ (by omega)]
  generalize M5 (wd (lh ds) ds.length)=p at U m t;rw [show (R7 "tuple" != R7 "tuple")=false by decide];have y :∀i,i < vs.length->h_ h3 (vs.getD i Value.none) (ds.getD i .none):=λ i N=>by have O:ds[i]? = some (ds[i]'(by lia)):=B0 (by lia);obtain ⟨v,hv,z⟩:=fF I O;rw [m3,m3,hv,O];exact z
  have L :∀i,i < vs.length->ds.getD i .none∈ds:=λ i N=>by rw [m3,B0 (show i < ds.length by lia)];exact i6 _
  have S:y6 (tuples' false) (vs.toArray.zip vs.toArray) #[] 7 none=y6 (tuples' false) ((B1 ds.length).toArray.map (R6 (vs.toArray.zip vs.toArray))) #[] 7 none:=by have e:=PySem.W.kas_range (vs.toArray.zip vs.toArray);rw [show (vs.toArray.zip vs.toArray).size=ds.length by simp [B]] at e;rw [e]
  have V:=m prog w A E (tuples' false,R6 (vs.toArray.zip vs.toArray)) { s with heap:=h3 } (λ i j N hj Q E' q=>by
   have G :∀i,(R6 (vs.toArray.zip vs.toArray) i).1=vs.getD i Value.none:=λ i=>by rw [PySem.W.kat_item rfl]
   show V0 _ _ (keyLt' (tuples' false) (R6 _ i).1 (R6 _ j).1) _ _ _;rw [G,G];have u :∃b,ie (ds.getD i .none) (ds.getD j .none)=some b:=by
    by_cases ne:ds.getD i .none=ds.getD j .none
    ·rw [ne];exact ⟨_,Qu _ (y j (by omega)).1⟩
    ·exact Option.isSome_iff_exists.mp (cm _ (L i (by omega)) _ (L j (by omega)) ne)
   obtain ⟨b,u⟩:=u;unfold lh at q;rw [u] at q;exact JO (s:={ s with heap:=h3 }) (y i (by omega)) (y j (by omega)) u hu q)
  rw [S];refine d0 (G3 (G3 (Q':=λ r C=>C={ s with heap:=h3 }/\failedOf r.2=none/\j1g (λ x=>x.snd) (arrOf r.2)=(p.toList.map λ i=>vs.getD i Value.none).toArray) V (λ r C z=>⟨z.1,z.2.2,PySem.W.kat_snds rfl z.2.1⟩) λ _ _ z=>z) ?_ λ _ _ z=>z);rintro ⟨⟨⟩,a1⟩ C ⟨rfl,hf,f⟩;rw [<-t] at f;dsimp only at hf f⊢;refine d0 (seqEpoch_at l rfl (d0 (j1j l rfl ?_ (S1 _) ?_)))
  ·rw [hf];simp only [bne_self_eq_false,u3,if_false];exact L0 (R _ f)
  ·rw [f];exact J
end
section
theorem Me {k:Nat} (hr:bQ k X.A):cc X (.builtin "sorted") (λ xs H Q=>∃a ks,xs=[.ref a]/\kf X.K H a ks/\(∀k∈ks,∃xs ys,k.1=.tuple (.tuple xs :: ys))/\(∀k∈ks,∀k'∈ks,k.1≠k'.1->(ie k.1 k'.1).isSome=true)/\
  ∀l:ZS,H l=none->Q (.ref l) (upd H l (.lst ((gq (ks.map (·.1))).map λ i=>V.ref (ks.getD i (.none,0)).2)))):=by
 intro Z s σ H xs us Q I rv h;obtain ⟨a,ks,rfl,M,tt,cm,q⟩:=h;obtain ⟨u,rfl,rx⟩:=vals1 rv;cases rx;have a0:=hr.units;obtain ⟨g1,w,T,⟨ep,g4⟩,_⟩:=xy I M;have D:(ks.map oK).toArray.size=ks.length:=by rw [N0,C0]
 refine i8 kind_sorted plain_sorted entry_sorted (args_sorted1 _) ?_;unfold j1c.«sorted»;refine d0 (m:=checkCount "sorted" 1 1 _) (L0 (d0 (j4e (qk g1) (show X.A.in1.handled=none from hr.hd) g4 (by rw [D];exact w) λ c t R k1 F=>?_)));have ea:R.toList=ks.map λ k=>E1 k.2:=by
  apply C8;intro j;by_cases f:j < ks.length
  ·have O:j < R.size:=by rw [F.1,D];exact f
   obtain ⟨e,N,e2⟩:=F.2 j _ (V1 O);rw [C5,V1 O,M0,e2];rw [G9,M0,B0 f] at N;rw [B0 f];cases N;rfl
  ·rw [E4 (by rw [R1,F.1,D];lia),E4 (by rw [C0];lia)]
 rw [ea];have y:Inv X Z σ H { s with heap:=c,toks:=t }:=I.kept (t':=t) k1;have J:(c.push (a8 "list" (ks.map λ k=>E1 k.2).toArray 0)).get? c.objs.size=some (a8 "list" (ks.map λ k=>E1 k.2).toArray 0):=Z0 _ rfl;have al :∀(h:ZM),(∀b o,c.get? b=some o->h.get? b=some o)->∀l:List (ZK×ZS),(∀k∈l,k∈ks)->av (λ v d=>h_ h v d) (l.map λ k=>E1 k.2) (l.map (·.1)):=λ h B l=>by
  induction l with
  | nil=>intro _;exact .nil
  | cons k l ih=>intro g;obtain ⟨P,n2,n3⟩:=M.2 k (g k R0);obtain ⟨as,r⟩:=uG y k.1 (.ref k.2) (.ref k.2) n3 rfl;exact .cons ⟨P,n2,tt k (g k R0),as,xE (λ b o vs n e _ _=>B b o e) _ _ _ P r⟩ (ih λ x hx=>g x (W0 _ hx))
 have G:(ks.map λ k=>E1 k.2).length=ks.length:=C0 ..;refine d0 (j1h (d0 (Z4 (B3 j52 ⟨_,J,rfl⟩ j45 (Kw (s:={ s with heap:=c.push (a8 "list" (ks.map λ k=>E1 k.2).toArray 0),toks:=t }) (ds:=ks.map (·.1)) J (by rw [G];exact w) (al _ (λ b o e=>F0 _ e) ks λ _ h=>h) T (λ d U e Y ne=>?_) (show X.A.units + 1 + 1 + 9 < ZE by lia) λ W e B g=>⟨_,rfl,?_⟩) (j56 _)))) (by rw [G];exact w))
 ·obtain ⟨k,hk,rfl⟩:=List.mem_map.mp U;obtain ⟨k',S,rfl⟩:=List.mem_map.mp Y;exact cm k hk k' S ne
 have k2 :∀b o,c.get? b=some o->W.get? b=some o:=λ b o z=>B b o (G1 (S0 z)) (F0 _ z);have C:=z_ (ks.map (·.1));rw [C0] at C;have vg :∀p:List Nat,(∀i∈p,i < ks.length)->aJ (p.map λ i=>V.ref (ks.getD i (.none,0)).2) (p.map λ i=>(ks.map λ k=>E1 k.2).getD i Value.none):=by
  intro p;induction p with
  | nil=>intro _;exact .nil
  | cons i p ih=>intro L;refine .cons ?_ (ih λ j f=>L j (.tail _ f));have E:=L i (.head _);show RelV (V.ref (ks.getD i (.none,0)).2) ((ks.map λ k=>E1 k.2).getD i Value.none);rw [m3,m3,M0,B0 E];rfl
 refine L0 ⟨_,rfl,.ref c.objs.size,_,y.laid (t':=t) (o:=.lst ((gq (ks.map (·.1))).map λ i=>V.ref (ks.getD i (.none,0)).2)) k2 (u0 _) ⟨?_,_,e,vg _ (λ i E=>List.mem_range.mp (C.mem_iff.mp E)),g⟩,rfl,q _ (y.hok.fresh (u0 _))⟩;rw [C0,C.length_eq,F2];exact w
end
noncomputable def yJ (a:ZS) (ob:ZQ) (ks:List (ZK×ZS)):It:=
 ⟨λ i H=>H a=some (.frz ob (cb a ks))/\i < ks.length,λ i H x H'=>H'=H/\∃k,ks[i]? = some k/\x=.ref k.2,λ i H=>H a=some (.frz ob (cb a ks))/\ks.length<=i⟩
variable {ob:ZQ}
def Ib {a:ZS} (I:Inv X pins σ H s) (hob:ob.data=.dict es ep) (e:H a=some (.frz ob (cb a ks))) :
  jb s.heap a (ks.map oK).toArray ep:=by
 obtain ⟨d,⟨_,_,_,g,o,b,f,c⟩,_⟩:=(show br X.prog X.w H s.heap a (.frz ob (cb a ks)) from I.hok a _ e)
 rw [d] at b;cases b;rw [hob] at c;cases c;exact ⟨ob,d,f,hob⟩
def vO (ks:List (ZK×ZS)):(ks.map oK).toArray.size=ks.length:=by rw [N0,C0]
variable {tg:ZN}
def Jx {K:b0} {a it:ZS} (hob:ob.data=.dict es ep):Turn P w K tg (yJ a ob ks) [it] it (λ i h=>h.IsKeyIter it a i ks.length ep) where
 mem:=by simp
 obj:=λ i h f b g=>by
  obtain rfl:b=it:=by simpa using g
  obtain ⟨o,e,c,d⟩:=f;exact ⟨o,e,λ v z=>by rw [d] at z;cases z⟩
 keep:=λ i h j f k=>by obtain ⟨o,e,r⟩:=f;exact ⟨o,k it (by simp) o e,r⟩
 item:=by intro X y p F L i G s σ H E I l f m;subst y p F;obtain ⟨D,B⟩:=m;have u:=Ib I hob D;obtain ⟨x,C,M,q,A,t⟩:=l it (by simp);have J:ks[i]? = some ks[i]:=B0 B;rw [<-vO ks] at f;refine HL (e:=oK ks[i]) f u (by rw [G9,M0,J];rfl) λ j n Q=>?_;have N:Inv X G σ H { s with heap:=j }:=I.turned (t':=s.toks) (λ b o g e=>(Q.2 b g).trans e) x C q A t;obtain ⟨o,e,c,d⟩:=id n;rw [vO ks] at n;exact ⟨_,rfl,ju (s:={ s with heap:=j }) e c d (by decide) ⟨.ref ks[i].2,H,N,rfl,⟨rfl,_,J,rfl⟩,n,λ b g=>(l b g).1⟩⟩
 done:=by intro X y p F L i G s σ H E I l f m;subst y p F;obtain ⟨D,B⟩:=m;have u:=Ib I hob D;obtain ⟨x,C,M,q,A,t⟩:=l it (by simp);rw [<-vO ks] at f;exact mx (I.ok.hd L) f u (j4b (by rw [vO];exact B)) λ j O=>⟨rfl,I.turned (t':=s.toks) (λ b o g e=>O b o g e) x C q A t⟩
 self:=λ _ _ _ _ _ f h=>wpAny_pyIter_keyiter f h
def mT (td:TE):TI:=λ σ H R=>td σ H λ x H1=>∃a ks,x=.ref a/\H1 a=some (cb a ks)/\∀ob,R (yJ a ob ks) (upd H1 a (.frz ob (cb a ks)))
variable {to:TE}
def JV {o:ZN} (ho:PE X o to):PI X tg o (mT to):=by
 intro g s σ H R I h;refine bb (ho g s σ H _ I h) λ v c zz=>?_;obtain ⟨x,H1,I1,r1,a,ks,ex,ea,q⟩:=zz;subst ex;cases r1;obtain ⟨⟨i,u,k,l,f⟩,y,t⟩:=(show br X.prog X.w H1 c.heap a (cb a ks) from I1.hok a _ ea)
 obtain ⟨j,r,A,m⟩:=id f;have n :∀o w,X.H₀ a≠some (.frz o w):=λ o w q=>by have z:=I1.base.frzs a o w q;rw [ea] at z;cases z
 have d:Inv X g σ (upd H1 a (.frz j (cb a ks))) c:=I1.retold ea (λ _ z=>by cases z) (λ _ z=>by cases z) (λ _ z=>by cases z) n ⟨r,⟨i,u,k,l,f⟩,y,t⟩;refine HF i f ?_;refine ⟨c.heap.objs.size,[c.heap.objs.size],_,_,_,rfl,d.kept (t':=c.toks) λ b o e=>F0 _ e,Jx m,⟨_,Z0 _ rfl,rfl,by rw [vO];rfl⟩,λ b p=>?_,q j⟩;obtain rfl:b=c.heap.objs.size:=by simpa using p
 exact d.fpOk (u0 _) (d.hok.fresh (u0 _))
noncomputable def mE (a:ZS) (n:Nat):It:=
 ⟨λ i H=>i < n/\∃xs,H a=some (.lst xs)/\xs.length=n,λ i H x H'=>H'=H/\∀xs,H a=some (.lst xs)->xs[n - 1 - i]? = some x,λ i H=>i=n⟩
theorem Pe {K:b0} (a it:ZS) (n:Nat):Turn P w K tg (mE a n) [it] it (λ i h=>h.IsRevIter it a ((n:Int) - 1 - (i:Nat))) where
 mem:=by simp
 obj:=λ i h f b g=>by
  obtain rfl:b=it:=by simpa using g
  obtain ⟨o,e,c,d⟩:=f;exact ⟨o,e,λ v z=>by rw [d] at z;cases z⟩
 keep:=λ i h l f k=>by obtain ⟨o,e,r⟩:=f;exact ⟨o,k it (by simp) o e,r⟩
 item:=by
  intro X B t F O i J s σ H E I m f j;subst B t F;obtain ⟨hi,L,G,hx⟩:=j;obtain ⟨W,M,p,Y⟩:=I.list (aK.of G);obtain ⟨A,D,Q,x,C,y⟩:=m it (by simp);have hl:=M.length;have lt:n - 1 - i < L.length:=by lia
  obtain ⟨u,V,T⟩:=M.get (B0 lt);rw [show (n:Int) - 1 - (i:Nat)=((n - 1 - i:Nat):Int) by lia] at f;refine wpAny_pyNext_rev_item f p.isList (by simpa using V) λ l q U=>?_;have R:Inv X J σ H { s with heap:=l }:=I.turned (t':=s.toks) (λ b o g e=>(U.2 b g).trans e) A D x C y;obtain ⟨o,e,c,d⟩:=id q;rw [show ((n - 1 - i:Nat):Int) - 1=(n:Int) - 1 - ((i + 1:Nat):Int) by lia] at q;refine ⟨_,rfl,ju (s:={ s with heap:=l }) e c d (by decide) ⟨L[n - 1 - i],H,R,T,⟨rfl,λ Z N=>?_⟩,q,λ b g=>(m b g).1⟩⟩;rw [G] at N;cases N;exact B0 lt
 done:=by intro X B t F O i J s σ H E I m f j;subst B t F;obtain ⟨A,D,Q,x,C,y⟩:=m it (by simp);have j:i=n:=j;rw [show (n:Int) - 1 - (i:Nat)=-1 by lia] at f;exact wpAny_pyNext_rev_end (I.ok.hd O) f λ l S=>⟨rfl,I.turned (t':=s.toks) (λ b o g e=>S b o g e) A D x C y⟩
 self:=λ _ _ _ _ _ f h=>wpAny_pyIter_revIter f h
def uL (tl:TE):TI:=λ σ H R=>tl σ H λ x H1=>∃a xs,x=.ref a/\H1 a=some (.lst xs)/\R (mE a xs.length) H1
theorem Nw {e:ZN} {te:TE} {p2 c2:ZP} (g2:Gl X "reversed") (m2:X.mg "reversed" = none) (ha:PE X e te) (he:N1 [e] X.env=[(false,O3 e X.env)]:=by rfl):PI X tg (.Call (.Name "reversed" p2) [e] [] c2) (uL te):=by
 intro k s σ H R I h;refine Call_ (fV I g2 m2 boot_reversed (i4 ?_ he rfl));rw [he];refine (show V0 _ _ (spliced ((false,O3 e X.env) :: [])) _ _ s from B6 (bb (ha k s σ H _ I h) λ u c zz=>?_));obtain ⟨x,H1,I1,r1,a,xs,ex,sq,q⟩:=zz;subst ex;cases r1;refine j8 ?_;obtain ⟨d,g,l,m⟩:=I1.list (aK.of sq);have i:=g.length;refine call_reversed_list l.isList ?_;have f:(c.heap.push (revObj a ((d.toArray.size:Int) - 1))).IsRevIter c.heap.objs.size a ((d.toArray.size:Int) - 1):=⟨_,Z0 _ rfl,rfl,rfl⟩
 refine wpAny_pyIter_revIter f ?_;refine ⟨c.heap.objs.size,[c.heap.objs.size],_,_,H1,rfl,I1.kept (t':=c.toks) λ b o e=>F0 _ e,Pe a _ _,?_,λ b j=>?_,q⟩
 ·rw [show (xs.length:Int) - 1 - ((0:Nat):Int)=(d.toArray.size:Int) - 1 by rw [N0,<-i];lia];exact f
 obtain rfl:b=c.heap.objs.size:=by simpa using j
 exact I1.fpOk (u0 _) (I1.hok.fresh (u0 _))
theorem JU {a:ZS} {xs:List V} {g:TG} {tb:TS} {D:Ends} (Pv:Nat->St->Hp->Prop) (h0:Pv 0 σ H) (hl :∀i σ H,Pv i σ H->H a=some (.lst xs))
  (hs :∀i x σ H,xs.reverse[i]? = some x->Pv i σ H->g x σ H λ σ2 H2=>tb { D with nx:=Pv (i + 1),ct:=Pv (i + 1),bk:=D.nx } σ2 H2) (hd :∀σ H,Pv xs.length σ H->D.nx σ H) :
  ∃W:Nat->Nat->St->Hp->Prop,(∃m,W 0 m σ H)/\∀i m σ H,W i m σ H->
   ((mE a xs.length).stop i H/\D.nx σ H)\/((mE a xs.length).go i H/\∃N:St->Hp->Prop,(∀σ' H',N σ' H'->∃m',m' < m/\W (i + 1) m' σ' H')/\∀x H',(mE a xs.length).yld i H x H'->g x σ H' λ σ2 H2=>tb { D with nx:=N,ct:=N,bk:=D.nx } σ2 H2):=by
 refine ⟨λ i m σ H=>m=xs.length - i/\i<=xs.length/\Pv i σ H,⟨xs.length,by simp,S1 _,h0⟩,?_⟩;rintro i m σ H ⟨rfl,hi,p⟩;have q:=hl i σ H p;by_cases hlt:i < xs.length
 ·refine .inr ⟨⟨hlt,xs,q,rfl⟩,Pv (i + 1),λ σ' H' b=>⟨xs.length - (i + 1),by lia,rfl,hlt,b⟩,λ x H' y=>?_⟩;obtain ⟨rfl,y⟩:=y;refine hs i x σ _ ?_ p;rw [List.getElem?_reverse hlt];exact y xs q
 ·obtain rfl:i=xs.length:=by lia
  exact .inl ⟨rfl,hd σ H p⟩
section
def Ff {o:ZN} {apos cpos:ZP} (ho:PE X o to) (hbase:u4 o "pop" X.env (O3 o X.env)=O3 o X.env:=by rfl) (hline:(apos.endLine == cpos.line)=true:=by rfl):PE X (.Call (.Attribute o "pop" apos) [] [] cpos) (tV X.K "list" vo to):=
 rW O4 PySem.F.slot_list_pop PySem.F.type_list_pop qW ho hbase hline
def RU {o e:ZN} {es:List ZN} {t:TA} {apos cpos:ZP} (ho:PE X o to) (ha:PA X (e :: es) t)
  (hbase:u4 o "extend" X.env (O3 o X.env)=O3 o X.env:=by rfl)
  (hfew:((J4 cpos (N1 (e :: es) X.env)).all (λ x=>!x.1) && (N9 cpos (V6 [] X.env)).all (λ x=>x.1.isSome) && decide ((e :: es).length + ([]:List A6).length + (if ([]:List A6).isEmpty then 0 else 1) < 30))=true:=by rfl)
  (hline:(apos.endLine == cpos.line)=true:=by rfl) (hs:N1 (e :: es) X.env=(false,O3 e X.env) :: N1 es X.env:=by rfl) (hplain:(J4 cpos (N1 es X.env)).any (·.1)=false:=by rfl) :
  PE X (.Call (.Attribute o "extend" apos) (e :: es) [] cpos) (sN X.K "list" G_ to t):=kO O4 j2i j2h Pw ho ha hbase hfew hline hs hplain
end
section
variable {a b:ZS} 
theorem qc {Q:Unit->A0->Prop} (hu:A.units + 8 < ZE) (I:Inv X pins σ H s) (ha:H a=some (cb a ks)) (h:kf X.K H a ks) (hl:ks.length < ZF) (hk:cj d=true) (hd:d.depth<=7) (hb:gr X.K H d (.ref b)) (q :∀s',Inv X pins σ (upd H a (cb a (putN ks d b))) s'->Q () s'):V0 (F1 X.prog X.w) A (dictSet a (.ref b) (.bool true)) Q E s:=by
 obtain ⟨m,C,J,_,F⟩:=xy I h;refine wpAny_dictSet_heap (knd:=wy X.prog X.w) (hsz:=by rw [C0];exact C) hu (kj I hk hd hb) F λ L f y=>q _ ?_;rw [Hk] at f;obtain ⟨o,i,j,c,r,t,u,_,g⟩:=f;have B:i=((putN ks d b).map oK).toArray:=by apply Array.ext';rw [u,v3];rfl
 subst B;refine s_ I (by rw [ha];exact True.intro) y ⟨o,c⟩ ⟨⟨m,by have:=wA (ks:=ks) (d:=d) (b:=b);omega,?_,j,o,c,r,t⟩,⟨o,c⟩,λ M G p k=>?_⟩
 ·rw [v3] at g;exact g
 ·obtain ⟨x,D,n,z,e,v,l⟩:=p;exact ⟨x,D,n,z,e,k e v,l⟩
end
def MH (K:b0) (tk tv:TE):TE:=λ σ H Q=>∀p,H p=none->tk σ (upd H p (cb p [])) λ x H1=>tv σ H1 λ v H2=>∃b d,v=.bl true/\x=.ref b/\H2 p=some (cb p [])/\cj d=true/\d.depth<=7/\gr K H2 d (.ref b)/\Q (.ref p) (upd H2 p (cb p [(d,b)]))
theorem Pq {k v:ZN} {tk tv:TE} (hr:bQ n X.A) (hk:PE X k tk) (hv:PE X v tv):PE X (.Dict [some k] [v] pos) (MH X.K tk tv):=by intro c s σ H Q I h;have j:=hr.units;have g:=I.laid (a:=s.heap.objs.size) (o:=cb s.heap.objs.size []) (t':=s.toks) (λ _ _ q=>F0 _ q) (u0 _) (Fg s.heap I.big);refine wpAny_Dict_any rfl rfl (by simp) (show 1<=15 by decide) (pairTrees_cons_walk (bb (hk c _ σ _ _ g (h _ (I.hok.fresh (u0 _)))) λ u i ⟨x,H1,I1,rx,q1⟩=>bb (hv c i σ H1 _ I1 q1) λ e l ⟨y,H2,I2,ry,b,d,ev,ex,h0,h1,h2,h3,q2⟩=>pairTrees_nil_walk ?_));subst ev ex;obtain rfl:u=E1 b:=rx;obtain rfl:e=N4 true:=ry;unfold storeAll;rw [A4];refine d0 (d0 (qc (by omega) I2 h0 ⟨.inl h0,λ k hk=>ZV hk t0⟩ (show 0 < ZF by decide) h1 h2 h3 λ m f=>?_));refine L0 ?_;exact L0 ⟨.ref s.heap.objs.size,_,f,rfl,q2⟩
def Rb {S:Hp->Hp->Prop} {a:ZS} {H1:Hp} (hs :∀H,S H1 H->S H H) (hq :∀H,S H1 H->H a=some (.frz ob (cb a ks))):hS S (yJ a ob ks) H1 ks.length (λ i v _=>∃k,ks[i]? = some k/\v=.ref k.2):=
 ⟨λ i b H s=>⟨hq H s,b⟩,λ H s=>⟨hq H s,u0 _⟩,λ i b H v c s y=>by obtain ⟨e,y⟩:=y;subst e;exact ⟨hs _ s,y⟩⟩
def pK {td te:TE} {tc:TT} {g:TG} {fr:List (Nat×ZR)} {Q:VK} (Pr:ZS->List (ZK×ZS)->Hp->Prop) (p:List (ZK×ZS)->Nat->Bool) (R:List (ZK×ZS)->Nat->V->Prop) (htd :∀T:VK,(∀a ks H1,Pr a ks H1->T (.ref a) H1)->td σ H T) (hp :∀a ks H1,Pr a ks H1->H1 a=some (cb a ks)/\ks.length<=ZF)
  (body :∀a ks H0 ob,Pr a ks H0->∀i k,ks[i]? = some k->∀H1,af (upd H0 a (.frz ob (cb a ks))) H1->∀(KT:VK) (KF:Hp->Prop),(p ks i=true->∀y H',af H1 H'->R ks i y->KT y H')->(p ks i=false->∀H',af H1 H'->KF H')->
   g (.ref k.2) (aM σ fr (X1 m none)) H1 λ σ6 H6=>∃us,us.length=m/\σ6=aM σ fr us/\tc (aM σ fr us) H6 λ b H2=>if b=true then te (aM σ fr us) H2 KT else KF H2)
  (hQ :∀a ks H0 ob l H' ys,Pr a ks H0->af (upd H0 a (.frz ob (cb a ks))) H'->H' l=none->av (R ks) ((B1 ks.length).filter (p ks)) ys->Q (.ref l) (upd H' l (.lst ys))):cx (mT td) m fr g tc te σ H Q:=by
 refine htd _ λ a ks H0 c=>⟨a,ks,rfl,(hp _ _ _ c).1,λ ob=>?_⟩
 refine oF (S:=af) (H1:=upd H0 a (.frz ob (cb a ks))) (fr:=fr) (g:=g) (tc:=tc) (te:=te) (σ:=σ) (m:=m) (af.refl _) (λ _ _ _ a b=>a.trans b) (p ks) (λ i y _=>R ks i y) (λ _ _ _ _ _ z=>z) (Rb (S:=af) (λ _ _=>af.refl _) λ H s=>s _ _ ab) (hp _ _ _ c).2 (λ i r v H1 o f KT KF e d=>?_) λ l H' ys q j n=>hQ a ks H0 ob l H' ys c q j n;obtain ⟨k,h,rfl⟩:=f;exact body a ks H0 ob c i k h H1 o KT KF e d
def me {P:Prop} (h :∀G:Prop,(P->G)->G):P:=h P id
end L2
namespace K65
open TJ L2
noncomputable abbrev PX:ZJ:=PySem.Challenge.pw_talejudge_k65_whole_strict_by_parts
noncomputable abbrev iX:Option ZG:=some (.ref 6)
noncomputable def tp (a b:ZR) (t:Nat):ZQ:={ cls:=.type "tuple",data:=.seq #[.str a t,.str b (t + 1)] 0 }
noncomputable def tups:List ZQ:=[tp "register" "read" 407,tp "register" "write" 409,tp "counter" "read" 411,tp "counter" "add" 413,tp "queue" "put" 415,tp "queue" "take" 417,tp "set" "put" 419,tp "set" "cut" 421,tp "set" "has" 423,tp "cell" "read" 425,tp "cell" "write" 427,tp "cell" "swap" 429]
noncomputable def mf:List ZQ->Nat->BT->BT
 | [],_,t=>t
 | x :: r,n,t=>mf r (n + 1) (t.ins n x)
noncomputable def g_ (P:Q0) (oD:ZQ):BT:=mf tups 165 ((K65.pre.tree_194 P).ins 164 oD)
noncomputable def FX (w:U0) (os:Y2) (oD:ZQ) (tk:Nat):SharedT:=⟨g_ w.params oD,177,{},⟨[]⟩,{},tk,os⟩
noncomputable abbrev kS:Code:=.body (behindTheImports PX) K65.pre.env_1
noncomputable abbrev qX:ZP:=⟨0,0,0,0⟩
noncomputable abbrev BX:List Frame:=[topFrame qX]
noncomputable abbrev GX {α:Type} (w:U0) (c:Nat) (x:ZO α) (s:A0) (pos:ZP) (a:α) (s':A0) (pos':ZP):Prop:=Goes PX w 11 iX kS qX c x s pos a s' pos'
def LX (n:Nat) {α:Type} (x:ZO α) (w:U0) (pos:ZP) (s:Y2->ZQ->Nat->SharedT) (a:Nat->α) (s':Y2->ZQ->Nat->SharedT) (pos':ZP):Prop:=
 ∀(os:Y2) (oD:ZQ) (tk:Nat) (K:α->ZO M8) (H:ZG->ZO M8) (gd:Bool->Bool) (lv:List ZG->List ZG),
  PySem.W.Fast.tw10295753902157049106 Q8 PX w 11 iX 1 n (s os oD tk) ⟨x.wrap K H gd lv,kS,pos,BX⟩=some (s' os oD tk,⟨K (a tk),kS,pos',BX⟩)
def LX.goes {n:Nat} {α:Type} {x:ZO α} {w:U0} {pos pos':ZP} {s s':Y2->ZQ->Nat->SharedT} {a:Nat->α} (h:LX n x w pos s a s' pos') (os:Y2) (oD:ZQ) (tk:Nat):GX w n x (s os oD tk).abs pos (a tk) (s' os oD tk).abs pos':=by refine Goes.leaf n λ K H c b=>?_;have e:=h os oD tk K H c b;rw [<-PySem.W.Fast.te10295753902157049106,<-R5] at e;exact e
noncomputable abbrev stay (w:U0):Y2->ZQ->Nat->SharedT:=FX w
noncomputable abbrev kN (w:U0):Y2->ZQ->Nat->SharedT:=λ os oD tk=>FX w os oD (tk + 3)
def lF (a:ZS) (h :∀(w:U0) (pos:ZP),LX 3 (PySem.W.Fast.tw13066428366354244818 8 (.ref a)) w pos (stay w) (λ _=>true) (stay w) pos:=by intro w pos os oD tk K H gd lv;kernel_rfl) (w:U0) (pos:ZP):LX 3 (P4 8 (.ref a)) w pos (stay w) (λ _=>true) (stay w) pos:=by rw [PySem.W.Fast.te13066428366354244818];exact h w pos
noncomputable def QY:=lF 165
noncomputable def Jf:=lF 166
noncomputable def QM:=lF 167
noncomputable def QK:=lF 168
noncomputable def Oy:=lF 169
noncomputable def JW:=lF 170
noncomputable def Oo:=lF 171
noncomputable def Ki:=lF 172
noncomputable def PK:=lF 173
noncomputable def Lm:=lF 174
noncomputable def zx:=lF 175
noncomputable def AB:=lF 176
def b_ (n:Nat) (a b:ZS) (hf :∀(w:U0) (pos:ZP),LX n (P5 (.ref a) (.ref b)) (w.withFollow "special-get-raises" false) pos (stay (w.withFollow "special-get-raises" false)) (λ _=>false) (stay (w.withFollow "special-get-raises" false)) pos:=by intro w pos os oD tk K H gd lv;kernel_rfl) (ht :∀(w:U0) (pos:ZP),LX n (P5 (.ref a) (.ref b)) (w.withFollow "special-get-raises" true) pos (stay (w.withFollow "special-get-raises" true)) (λ _=>false) (stay (w.withFollow "special-get-raises" true)) pos:=by intro w pos os oD tk K H gd lv;kernel_rfl) (w:U0) (pos:ZP):LX n (eqBool (.ref a) (.ref b)) w pos (stay w) (λ _=>false) (stay w) pos:=by rw [PySem.W.Fast.te13926502685295537346];exact byRow2 "special-get-raises" (P:=λ w=>LX n (P5 (.ref a) (.ref b)) w pos (stay w) (λ _=>false) (stay w) pos) (λ w=>hf w pos) (λ w=>ht w pos) w
noncomputable def um:=b_ 20 165 166
noncomputable def wD:=b_ 16 165 167
noncomputable def vX:=b_ 16 165 168
noncomputable def uZ:=b_ 16 165 169
noncomputable def wV:=b_ 16 165 170
noncomputable def vR:=b_ 16 165 171
noncomputable def vt:=b_ 16 165 172
noncomputable def wJ:=b_ 16 165 173
noncomputable def wo:=b_ 16 165 174
noncomputable def qe:=b_ 16 165 175
noncomputable def pQ:=b_ 16 165 176
noncomputable def wt:=b_ 16 166 167
noncomputable def uW:=b_ 16 166 168
noncomputable def vW:=b_ 16 166 169
noncomputable def wc:=b_ 16 166 170
noncomputable def wQ:=b_ 16 166 171
noncomputable def wB:=b_ 16 166 172
noncomputable def ud:=b_ 16 166 173
noncomputable def uy:=b_ 16 166 174
noncomputable def sI:=b_ 16 166 175
noncomputable def pR:=b_ 16 166 176
noncomputable def uR:=b_ 20 167 168
noncomputable def uA:=b_ 16 167 169
noncomputable def uY:=b_ 16 167 170
noncomputable def vh:=b_ 16 167 171
noncomputable def tX:=b_ 16 167 172
noncomputable def uX:=b_ 16 167 173
noncomputable def vJ:=b_ 16 167 174
noncomputable def qb:=b_ 16 167 175
noncomputable def rE:=b_ 16 167 176
noncomputable def wz:=b_ 16 168 169
noncomputable def vY:=b_ 16 168 170
noncomputable def uF:=b_ 16 168 171
noncomputable def vB:=b_ 16 168 172
noncomputable def uk:=b_ 16 168 173
noncomputable def vd:=b_ 16 168 174
noncomputable def pf:=b_ 16 168 175
noncomputable def rF:=b_ 16 168 176
noncomputable def uB:=b_ 20 169 170
noncomputable def vI:=b_ 16 169 171
noncomputable def vN:=b_ 16 169 172
noncomputable def ua:=b_ 16 169 173
noncomputable def wR:=b_ 16 169 174
noncomputable def pA:=b_ 16 169 175
noncomputable def qa:=b_ 16 169 176
noncomputable def wm:=b_ 16 170 171
noncomputable def tP:=b_ 16 170 172
noncomputable def tR:=b_ 16 170 173
noncomputable def wO:=b_ 16 170 174
noncomputable def qQ:=b_ 16 170 175
noncomputable def qi:=b_ 16 170 176
noncomputable def u_:=b_ 20 171 172
noncomputable def vq:=b_ 20 171 173
noncomputable def uM:=b_ 16 171 174
noncomputable def qD:=b_ 16 171 175
noncomputable def qR:=b_ 16 171 176
noncomputable def vS:=b_ 20 172 173
noncomputable def vZ:=b_ 16 172 174
noncomputable def qm:=b_ 16 172 175
noncomputable def r_:=b_ 16 172 176
noncomputable def vP:=b_ 16 173 174
noncomputable def qo:=b_ 16 173 175
noncomputable def qH:=b_ 16 173 176
noncomputable def sr:=b_ 20 174 175
noncomputable def ph:=b_ 20 174 176
noncomputable def LC:=b_ 20 175 176
def lM (a:ZS) (hf :∀(w:U0) (pos:ZP),LX 1 (Q5 "hash" [.ref a]) (w.withFollow "special-get-raises" false) pos (stay (w.withFollow "special-get-raises" false)) (λ _=>()) (stay (w.withFollow "special-get-raises" false)) pos:=by intro w pos os oD tk K H gd lv;kernel_rfl) (ht :∀(w:U0) (pos:ZP),LX 1 (Q5 "hash" [.ref a]) (w.withFollow "special-get-raises" true) pos (stay (w.withFollow "special-get-raises" true)) (λ _=>()) (stay (w.withFollow "special-get-raises" true)) pos:=by intro w pos os oD tk K H gd lv;kernel_rfl) (w:U0) (pos:ZP):LX 1 (cRoomFor "hash" [.ref a]) w pos (stay w) (λ _=>()) (stay w) pos:=by rw [PySem.W.Fast.te13383273872528276517];exact byRow2 "special-get-raises" (P:=λ w=>LX 1 (Q5 "hash" [.ref a]) w pos (stay w) (λ _=>()) (stay w) pos) (λ w=>hf w pos) (λ w=>ht w pos) w
def lD (a:ZS) (hf :∀(w:U0) (pos:ZP),LX 1 (X5 (.ref a) "__hash__") (w.withFollow "special-get-raises" false) pos (stay (w.withFollow "special-get-raises" false)) (λ _=>some (.builtin "tuple.__hash__")) (stay (w.withFollow "special-get-raises" false)) pos:=by intro w pos os oD tk K H gd lv;kernel_rfl) (ht :∀(w:U0) (pos:ZP),LX 1 (X5 (.ref a) "__hash__") (w.withFollow "special-get-raises" true) pos (stay (w.withFollow "special-get-raises" true)) (λ _=>some (.builtin "tuple.__hash__")) (stay (w.withFollow "special-get-raises" true)) pos:=by intro w pos os oD tk K H gd lv;kernel_rfl) (w:U0) (pos:ZP):LX 1 (specialOf (.ref a) "__hash__") w pos (stay w) (λ _=>some (.builtin "tuple.__hash__")) (stay w) pos:=by rw [PySem.W.Fast.te4214721358667687652];exact byRow2 "special-get-raises" (P:=λ w=>LX 1 (X5 (.ref a) "__hash__") w pos (stay w) (λ _=>some (.builtin "tuple.__hash__")) (stay w) pos) (λ w=>hf w pos) (λ w=>ht w pos) w
def lH (a:ZS) (k l:ZR) (hf :∀(w:U0) (pos:ZP),LX 22 (O5 (.ref a) "__hash__" (sL a)) (w.withFollow "special-get-raises" false) pos (stay (w.withFollow "special-get-raises" false)) (λ tk=>some (.int (o0 [c0 (w.withFollow "special-get-raises" false).params k,c0 (w.withFollow "special-get-raises" false).params l]) (tk + 2))) (kN (w.withFollow "special-get-raises" false)) pos:=by intro w pos os oD tk K H gd lv;kernel_rfl) (ht :∀(w:U0) (pos:ZP),LX 22 (O5 (.ref a) "__hash__" (sL a)) (w.withFollow "special-get-raises" true) pos (stay (w.withFollow "special-get-raises" true)) (λ tk=>some (.int (o0 [c0 (w.withFollow "special-get-raises" true).params k,c0 (w.withFollow "special-get-raises" true).params l]) (tk + 2))) (kN (w.withFollow "special-get-raises" true)) pos:=by intro w pos os oD tk K H gd lv;kernel_rfl) (w:U0) (pos:ZP):LX 22 (Q7 (.ref a) "__hash__" (sL a)) w pos (stay w) (λ tk=>some (.int (o0 [c0 w.params k,c0 w.params l]) (tk + 2))) (kN w) pos:=by rw [PySem.W.Fast.te16697807410369149715];exact byRow2 "special-get-raises" (P:=λ w=>LX 22 (O5 (.ref a) "__hash__" (sL a)) w pos (stay w) (λ tk=>some (.int (o0 [c0 w.params k,c0 w.params l]) (tk + 2))) (kN w) pos) (λ w=>hf w pos) (λ w=>ht w pos) w
noncomputable def KA:=lM 165
noncomputable def QP:=lD 165
noncomputable def NG:=lH 165 "register" "read"
noncomputable def Jm:=lM 166
noncomputable def Kz:=lD 166
noncomputable def Ju:=lH 166 "register" "write"
noncomputable def Kc:=lM 167
noncomputable def Jb:=lD 167
noncomputable def Rq:=lH 167 "counter" "read"
noncomputable def L_:=lM 168
noncomputable def LR:=lD 168
noncomputable def Nd:=lH 168 "counter" "add"
noncomputable def Jw:=lM 169
noncomputable def La:=lD 169
noncomputable def OJ:=lH 169 "queue" "put"
noncomputable def Px:=lM 170
noncomputable def Oi:=lD 170
noncomputable def Rg:=lH 170 "queue" "take"
noncomputable def QB:=lM 171
noncomputable def Nh:=lD 171
noncomputable def Rr:=lH 171 "set" "put"
noncomputable def Ke:=lM 172
noncomputable def Jz:=lD 172
noncomputable def JS:=lH 172 "set" "cut"
noncomputable def NA:=lM 173
noncomputable def MC:=lD 173
noncomputable def R_:=lH 173 "set" "has"
noncomputable def OU:=lM 174
noncomputable def Rp:=lD 174
noncomputable def Nb:=lH 174 "cell" "read"
noncomputable def Br:=lM 175
noncomputable def yM:=lD 175
noncomputable def yL:=lH 175 "cell" "write"
noncomputable def zc:=lM 176
noncomputable def zj:=lD 176
noncomputable def zL:=lH 176 "cell" "swap"
noncomputable def iT (P:Q0):List yh:=[(165,(.ref 109),(P1 (o0 [c0 P "register",c0 P "read"]))),(166,(.ref 116),(P1 (o0 [c0 P "register",c0 P "write"]))),(167,(.ref 109),(P1 (o0 [c0 P "counter",c0 P "read"]))),(168,(.ref 123),(P1 (o0 [c0 P "counter",c0 P "add"]))),(169,(.ref 130),(P1 (o0 [c0 P "queue",c0 P "put"]))),(170,(.ref 137),(P1 (o0 [c0 P "queue",c0 P "take"]))),(171,(.ref 144),(P1 (o0 [c0 P "set",c0 P "put"]))),(172,(.ref 149),(P1 (o0 [c0 P "set",c0 P "cut"]))),(173,(.ref 156),(P1 (o0 [c0 P "set",c0 P "has"]))),(174,(.ref 109),(P1 (o0 [c0 P "cell",c0 P "read"]))),(175,(.ref 116),(P1 (o0 [c0 P "cell",c0 P "write"]))),(176,(.ref 163),(P1 (o0 [c0 P "cell",c0 P "swap"])))]
def Qz (w:U0) (os:Y2) (pos:ZP):(iT w.params).Pairwise λ x y=>∀oD tk,GX w 20 (eqBool (.ref x.1) (.ref y.1)) (FX w os oD tk).abs pos false (FX w os oD tk).abs pos:=by
 unfold iT;refine
 .cons (λ y a oD tk=>(by
  revert y;simp only [E2,t0,false_implies,implies_true,and_true];exact ⟨(um w pos).goes os oD tk |>.le (by decide),(wD w pos).goes os oD tk |>.le (by decide),(vX w pos).goes os oD tk |>.le (by decide),(uZ w pos).goes os oD tk |>.le (by decide),(wV w pos).goes os oD tk |>.le (by decide),(vR w pos).goes os oD tk |>.le (by decide),(vt w pos).goes os oD tk |>.le (by decide),(wJ w pos).goes os oD tk |>.le (by decide),(wo w pos).goes os oD tk |>.le (by decide),(qe w pos).goes os oD tk |>.le (by decide),(pQ w pos).goes os oD tk |>.le (by decide)⟩))
  (.cons (λ y a oD tk=>(by
  revert y;simp only [E2,t0,false_implies,implies_true,and_true];exact ⟨(wt w pos).goes os oD tk |>.le (by decide),(uW w pos).goes os oD tk |>.le (by decide),(vW w pos).goes os oD tk |>.le (by decide),(wc w pos).goes os oD tk |>.le (by decide),(wQ w pos).goes os oD tk |>.le (by decide),(wB w pos).goes os oD tk |>.le (by decide),(ud w pos).goes os oD tk |>.le (by decide),(uy w pos).goes os oD tk |>.le (by decide),(sI w pos).goes os oD tk |>.le (by decide),(pR w pos).goes os oD tk |>.le (by decide)⟩))
  (.cons (λ y a oD tk=>(by
  revert y;simp only [E2,t0,false_implies,implies_true,and_true];exact ⟨(uR w pos).goes os oD tk |>.le (by decide),(uA w pos).goes os oD tk |>.le (by decide),(uY w pos).goes os oD tk |>.le (by decide),(vh w pos).goes os oD tk |>.le (by decide),(tX w pos).goes os oD tk |>.le (by decide),(uX w pos).goes os oD tk |>.le (by decide),(vJ w pos).goes os oD tk |>.le (by decide),(qb w pos).goes os oD tk |>.le (by decide),(rE w pos).goes os oD tk |>.le (by decide)⟩))
  (.cons (λ y a oD tk=>(by
  revert y;simp only [E2,t0,false_implies,implies_true,and_true];exact ⟨(wz w pos).goes os oD tk |>.le (by decide),(vY w pos).goes os oD tk |>.le (by decide),(uF w pos).goes os oD tk |>.le (by decide),(vB w pos).goes os oD tk |>.le (by decide),(uk w pos).goes os oD tk |>.le (by decide),(vd w pos).goes os oD tk |>.le (by decide),(pf w pos).goes os oD tk |>.le (by decide),(rF w pos).goes os oD tk |>.le (by decide)⟩))
  (.cons (λ y a oD tk=>(by
  revert y;simp only [E2,t0,false_implies,implies_true,and_true];exact ⟨(uB w pos).goes os oD tk |>.le (by decide),(vI w pos).goes os oD tk |>.le (by decide),(vN w pos).goes os oD tk |>.le (by decide),(ua w pos).goes os oD tk |>.le (by decide),(wR w pos).goes os oD tk |>.le (by decide),(pA w pos).goes os oD tk |>.le (by decide),(qa w pos).goes os oD tk |>.le (by decide)⟩))
  (.cons (λ y a oD tk=>(by
  revert y;simp only [E2,t0,false_implies,implies_true,and_true];exact ⟨(wm w pos).goes os oD tk |>.le (by decide),(tP w pos).goes os oD tk |>.le (by decide),(tR w pos).goes os oD tk |>.le (by decide),(wO w pos).goes os oD tk |>.le (by decide),(qQ w pos).goes os oD tk |>.le (by decide),(qi w pos).goes os oD tk |>.le (by decide)⟩))
  (.cons (λ y a oD tk=>(by
  revert y;simp only [E2,t0,false_implies,implies_true,and_true];exact ⟨(u_ w pos).goes os oD tk |>.le (by decide),(vq w pos).goes os oD tk |>.le (by decide),(uM w pos).goes os oD tk |>.le (by decide),(qD w pos).goes os oD tk |>.le (by decide),(qR w pos).goes os oD tk |>.le (by decide)⟩))
  (.cons (λ y a oD tk=>(by
  revert y;simp only [E2,t0,false_implies,implies_true,and_true];exact ⟨(vS w pos).goes os oD tk |>.le (by decide),(vZ w pos).goes os oD tk |>.le (by decide),(qm w pos).goes os oD tk |>.le (by decide),(r_ w pos).goes os oD tk |>.le (by decide)⟩))
  (.cons (λ y a oD tk=>(by
  revert y;simp only [E2,t0,false_implies,implies_true,and_true];exact ⟨(vP w pos).goes os oD tk |>.le (by decide),(qo w pos).goes os oD tk |>.le (by decide),(qH w pos).goes os oD tk |>.le (by decide)⟩))
  (.cons (λ y a oD tk=>(by
  revert y;simp only [E2,t0,false_implies,implies_true,and_true];exact ⟨(sr w pos).goes os oD tk |>.le (by decide),(ph w pos).goes os oD tk |>.le (by decide)⟩))
  (.cons (λ y a oD tk=>(by
  revert y;simp only [E2,t0,false_implies,implies_true,and_true];exact (LC w pos).goes os oD tk |>.le (by decide)))
  (.cons (λ y a=>nomatch a)
  (j35))))))))))))
def rB (w:U0) (os:Y2) (pos:ZP) :∀x∈iT w.params,∀oD tk,GX w 3 (P4 8 (.ref x.1)) (FX w os oD tk).abs pos true (FX w os oD tk).abs pos:=by unfold iT;simp only [E2,t0,false_implies,implies_true,and_true];exact ⟨λ oD tk=>(QY w pos).goes os oD tk,λ oD tk=>(Jf w pos).goes os oD tk,λ oD tk=>(QM w pos).goes os oD tk,λ oD tk=>(QK w pos).goes os oD tk,λ oD tk=>(Oy w pos).goes os oD tk,λ oD tk=>(JW w pos).goes os oD tk,λ oD tk=>(Oo w pos).goes os oD tk,λ oD tk=>(Ki w pos).goes os oD tk,λ oD tk=>(PK w pos).goes os oD tk,λ oD tk=>(Lm w pos).goes os oD tk,λ oD tk=>(zx w pos).goes os oD tk,λ oD tk=>(AB w pos).goes os oD tk⟩
def qS (w:U0) (os:Y2) (pos:ZP) :∀x∈iT w.params,∀oD tk,GX w 25 (pyHash (.ref x.1)) (FX w os oD tk).abs pos x.2.2 (FX w os oD (tk + 3)).abs pos:=by unfold iT;simp only [E2,t0,false_implies,implies_true,and_true];exact ⟨λ oD tk=>Goes.pyHashT ((KA w pos).goes os oD tk) ((QP w pos).goes os oD tk) ((NG w pos).goes os oD tk),λ oD tk=>Goes.pyHashT ((Jm w pos).goes os oD tk) ((Kz w pos).goes os oD tk) ((Ju w pos).goes os oD tk),λ oD tk=>Goes.pyHashT ((Kc w pos).goes os oD tk) ((Jb w pos).goes os oD tk) ((Rq w pos).goes os oD tk),λ oD tk=>Goes.pyHashT ((L_ w pos).goes os oD tk) ((LR w pos).goes os oD tk) ((Nd w pos).goes os oD tk),λ oD tk=>Goes.pyHashT ((Jw w pos).goes os oD tk) ((La w pos).goes os oD tk) ((OJ w pos).goes os oD tk),λ oD tk=>Goes.pyHashT ((Px w pos).goes os oD tk) ((Oi w pos).goes os oD tk) ((Rg w pos).goes os oD tk),λ oD tk=>Goes.pyHashT ((QB w pos).goes os oD tk) ((Nh w pos).goes os oD tk) ((Rr w pos).goes os oD tk),λ oD tk=>Goes.pyHashT ((Ke w pos).goes os oD tk) ((Jz w pos).goes os oD tk) ((JS w pos).goes os oD tk),λ oD tk=>Goes.pyHashT ((NA w pos).goes os oD tk) ((MC w pos).goes os oD tk) ((R_ w pos).goes os oD tk),λ oD tk=>Goes.pyHashT ((OU w pos).goes os oD tk) ((Rp w pos).goes os oD tk) ((Nb w pos).goes os oD tk),λ oD tk=>Goes.pyHashT ((Br w pos).goes os oD tk) ((yM w pos).goes os oD tk) ((yL w pos).goes os oD tk),λ oD tk=>Goes.pyHashT ((zc w pos).goes os oD tk) ((zj w pos).goes os oD tk) ((zL w pos).goes os oD tk)⟩
def An (w:U0) (os:Y2):wX 11 164 (FX w os):=by
 have g :∀c,(g_ w.params c).get 164=some c:=λ c=>by kernel_rfl
 refine ⟨by decide,λ a b d=>abs_get (show 164 < 177 by decide) (g _),λ a b d e=>?_⟩;have u:(absHeap (g_ w.params (cS a b)) 177 {}).update 164 (E9 (·.push e))=absHeap (g_ w.params (cS (a.push e) (b + 1))) 177 {}:=by
  rw [<-absHeap_set (g _)];have v:(g_ w.params (cS a b)).set 164 (E9 (·.push e))=g_ w.params (cS (a.push e) (b + 1)):=by kernel_rfl
  rw [v]
 exact ZU (λ h=>(⟨h,⟨[]⟩,{},d,os⟩:A0)) u
noncomputable def lx:ZL:=(behindTheImports PX).getD 24 (.Pass ⟨0,0,0,0⟩)
noncomputable def qy:List ZL:=(behindTheImports PX).drop 25
def vV:behindTheImports PX=K65.pre.sts_7++(K65.pre.sts_33++(K65.pre.sts_52++(K65.pre.sts_71++(K65.pre.sts_118++(K65.pre.sts_172++([lx]++qy)))))):=by kernel_rfl
noncomputable def kI:ZL->List (Option ZN)
 | .Assign _ (.Dict ks _ _) _=>ks
 | _=>[]
noncomputable def kE:ZL->List ZN
 | .Assign _ (.Dict _ vs _) _=>vs
 | _=>[]
noncomputable def zd:ZL->ZP
 | .Assign _ (.Dict _ _ p) _=>p
 | _=>⟨0,0,0,0⟩
noncomputable def Cr:ZL->ZP
 | .Assign _ _ p=>p
 | _=>⟨0,0,0,0⟩
noncomputable abbrev DO:ZP:=Cr lx
noncomputable abbrev jK:ZP:=zd lx
noncomputable abbrev sX:ZP:=⟨52,0,52,5⟩
noncomputable def nY:List (ZO ZG×ZO ZG):=(((evalEachOpt (kI lx) K65.pre.env_1).zip ((evalEach (kE lx) K65.pre.env_1).map λ v=>do let x <-v;j4c jK;W1 x))).filterMap λ x=>x.1.map (·,x.2)
def qN:lx=.Assign [.Name "DOERS" sX] (.Dict (kI lx) (kE lx) jK) DO:=by kernel_rfl
def Jg:O3 (.Dict (kI lx) (kE lx) jK) K65.pre.env_1=(do j4c jK;let r <-(do let x <-subDict nY;W1 (some x));match r with|some x=>W1 (E1 x)|none=>newDict):=by kernel_rfl
def RY:K7 (.Dict (kI lx) (kE lx) jK) (some (.Name "DOERS" sX)) DO.line K65.pre.env_1=W1 false:=by kernel_rfl
noncomputable def yu (w:U0) (os:Y2):SharedT:=⟨K65.pre.tree_194 w.params,164,{},⟨[]⟩,{},407,os⟩
noncomputable def Ic (w:U0) (os:Y2):SharedT:=⟨(K65.pre.tree_194 w.params).ins 164 (cS #[] 0),165,{},⟨[]⟩,{},407,os⟩
noncomputable def He:List (ZG×ZG):=[(.ref 165,(.ref 109)),(.ref 166,(.ref 116)),(.ref 167,(.ref 109)),(.ref 168,(.ref 123)),(.ref 169,(.ref 130)),(.ref 170,(.ref 137)),(.ref 171,(.ref 144)),(.ref 172,(.ref 149)),(.ref 173,(.ref 156)),(.ref 174,(.ref 109)),(.ref 175,(.ref 116)),(.ref 176,(.ref 163))]
def Nm (w:U0):LX 84 (evalPairs nY) w jK (λ os _ _=>Ic w os) (λ _=>He) (λ os _ _=>FX w os (cS #[] 0) 431) jK:=by rw [PySem.W.Fast.te1788576489739465902];exact λ os a d K H c b=>by kernel_rfl
noncomputable def zk (w:U0) (os:Y2) (oD:ZQ) (tk:Nat):SharedT:=⟨(g_ w.params oD).set 3 (Obj.putName "DOERS" (c0 w.params "DOERS") (.str "DOERS" tk) (.ref 164)),177,{},⟨[]⟩,{},tk + 1,os⟩
def Jk (w:U0) (pos:ZP):LX 6 (bindName K65.pre.env_1 "DOERS" (.ref 164)) w pos (stay w) (λ _=>()) (λ os oD tk=>zk w os oD tk) pos:=by
 rw [PySem.W.Fast.te7536695828754713326];exact byRow2 "special-get-raises" (P:=λ w=>LX 6 (PySem.W.Fast.tw7536695828754713326 K65.pre.env_1 "DOERS" (.ref 164)) w pos (stay w) (λ _=>()) (λ os oD tk=>zk w os oD tk) pos)
  (λ w os oD tk K H b a=>by kernel_rfl) (λ w os oD tk K H b a=>by kernel_rfl) w
noncomputable abbrev Bu (P:Q0):ZQ:=cS ((iT P).map ent).toArray 12
noncomputable abbrev xX (w:U0) (os:Y2):SharedT:=zk w os (Bu w.params) 467
def ro (w:U0) (os:Y2) (pos:ZP):GX w 100000 (exec lx K65.pre.env_1) (yu w os).abs pos .next (xX w os).abs sX:=by
 rw [qN,exec_Assign_Name _ _ _ _ _ RY];have l:=Goes.loop (p:=PX) (w:=w) (ann:=iX) (code:=kS) (q:=qX) (pos:=jK) (An w os) (N:=12) (iT w.params) (show 12<=12 by decide) (by decide) (show ([165,166,167,168,169,170,171,172,173,174,175,176]:List Nat).Nodup by decide) (rB w os jK) (Qz w os jK) (qS w os jK) (iT w.params) [] 431 rfl;have d:=(Nm w).goes os (cS #[] 0) 0;have b:GX w _ (subDict nY) (yu w os).abs jK 164 (FX w os (Bu w.params) 467).abs jK:=
  Goes.subDict (by decide +kernel) (absHeap_size _ _ _) (show GX w _ (evalPairs nY) _ jK He _ jK from by
   have e:({ (yu w os).abs with heap:=(yu w os).abs.heap.push { cls:=.type "dict",data:=.dict #[] } }:A0)=(Ic w os).abs:=by have i:=absHeap_ins (t:=K65.pre.tree_194 w.params) (n:=164) (life:={}) (o:=cS #[] 0) (by kernel_rfl);exact ZU (λ h=>(⟨h,⟨[]⟩,{},407,os⟩:A0)) i.symm
   rw [e];exact d) l
 refine (Goes.bind Goes.at' (Goes.bind (a:=E1 164) (pos':=jK) ?_ (Goes.bind Goes.at' (Goes.bind (f:=λ _=>W1 Flow.next) ((Jk w sX).goes os (Bu w.params) 467) Goes.pure)))).le (c:=1 + (((1 + ((1 + (84 + 12 * (25 + (2 + 3 + 12 * (3 + 20 + 10)) + 4))) + 0 + 0)) + (1 + (6 + 0))))) (by decide);rw [Jg];exact Goes.bind Goes.at' (Goes.bind (Goes.bind b Goes.pure) Goes.pure)
noncomputable abbrev yK:ZP:=⟨355,0,364,96⟩
noncomputable def BO (w:U0) (os:Y2):Option (Flow×SharedT×Code×ZP):=PySem.W.Fast.tw10110043849684766642 Q8 PX w 11 iX 1 1737 (xX w os) ⟨(PySem.W.Fast.tw12563942051412417395 qy K65.pre.env_1).wrap doneF deadEnd id id,kS,sX,BX⟩
noncomputable def ng (w:U0) (os:Y2):SharedT:=match BO w os with|some r=>r.2.1|none=>xX w os
def pB (w:U0) (os:Y2):BO w os=some (.next,ng w os,kS,yK):=by kernel_rfl
def Pg (w:U0) (os:Y2):segRun M3 PX w 11 iX 1 1737 (xX w os).abs (piecesOf qy K65.pre.env_1 kS sX BX)=some (.next,(ng w os).abs,kS,yK):=by have e:=pB w os;unfold BO at e;rw [<-PySem.W.Fast.te10110043849684766642,<-R5,<-PySem.W.Fast.te12563942051412417395] at e;exact segRun_of e
noncomputable def Bk (w:U0) (os:Y2):SharedT:=⟨K65.pre.tree_6 w.params,15,{},⟨[]⟩,{},187,os⟩
def qV (w:U0) (os:Y2):topGo M3 PX w 11 iX 12 ⟨boot_heap w.params,Array.mk [],boot_drawn,boot_toks,os⟩ (topStub PX)=some ((Bk w os).abs,⟨denote M3 kS,kS,qX,BX⟩):=by rw [PySem.W.Fast.te15667345088766844465,R5,PySem.W.Fast.te11892475500146522536];kernel_rfl
theorem PP (w:U0) (os:Y2) :∃M,M<=200000/\topRun M3 PX w 11 iX M ⟨boot_heap w.params,Array.mk [],boot_drawn,boot_toks,os⟩ (topStub PX)=some (ng w os).abs:=by have f:topRun M3 PX w 11 iX 2 (ng w os).abs (restOf [] K65.pre.env_1 kS yK BX)=some (ng w os).abs:=rfl;have a:=piece_app (Pg w os) f;rw [D2] at a;obtain ⟨M,h,d⟩:=MY (Goes.execs1 (ro w os ⟨48,0,51,21⟩)) a;have b:=K65.pre.chain PX (behindTheImports PX) w os _ M _ d;rw [<-vV] at b;have c:segRun M3 PX w 11 iX 1 1 (Bk w os).abs (blockOf (behindTheImports PX) K65.pre.env_1 kS qX BX)=some (.next,(Bk w os).abs,kS,qX):=rfl;have e:=piece_block c b;have g:=go_top (qV w os) e;refine ⟨_,?_,g⟩;simp only [Nat.add_eq];omega
noncomputable def looseX:List ZR:=[("_wall" : ZR),("TaleError" : ZR),("NoDeed" : ZR),("NoStrictness" : ZR),("NoThing" : ZR),("GREATEST_WORTH" : ZR),("is_whole" : ZR),("is_within" : ZR),("is_worth" : ZR),("is_tuple_of" : ZR),("FIRST_STATES" : ZR),("WORTHS_OF_VERBS" : ZR),("read_state" : ZR),("write_state" : ZR),("add_to_number" : ZR),("put_behind" : ZR),("take_first" : ZR),("put_into_set" : ZR),("cut_from_set" : ZR),("has_in_set" : ZR),("swap_state" : ZR),("DOERS" : ZR),("is_kind" : ZR),("first_state" : ZR),("is_deed" : ZR),("do" : ZR),("deeds" : ZR),("STRICTNESSES" : ZR),("has_to" : ZR),("check_strictness" : ZR),("goes_ahead" : ZR),("part" : ZR),("thing_named" : ZR),("Candidate" : ZR),("Board" : ZR),("step_of" : ZR),("ended_numbers" : ZR),("holds_all" : ZR),("first_place" : ZR),("all_places" : ZR),("next_layer" : ZR),("judged" : ZR),("stuck_paper" : ZR),("_law_cell_at" : ZR),("_law_take" : ZR),("_law_do" : ZR),("_law_first" : ZR),("_law_worth" : ZR),("_law_verb" : ZR),("_law_things" : ZR),("_law_applied" : ZR),("_law_tale" : ZR),("_law_deeds" : ZR),("_law_is_ahead" : ZR),("_law_may_be_next" : ZR),("_law_nexts" : ZR),("_law_is_full" : ZR),("_law_places" : ZR),("_law_is_good" : ZR)]
noncomputable def viewX:ZJ:={ PX with main:={ PX.main with body:=(PX.main.body[69]?).toList } }
noncomputable def top (i:Nat):ZL:=PX.main.body.getD i (.Pass ⟨0,0,0,0⟩)
noncomputable def f_ (s:ZL) (j:Nat):ZL:=match s with
 | .ClassDef _ _ _ b _ _ _ _ _ _ _=>b.getD j s
 | _=>s
noncomputable def RP:List ZS:=[3,22,24,29,30,31,35,37,42,43,44,47,49,54,55,56,59,61,66,67,68,76,77,83,84,90,91,97,98,99,100,101,102,108,109,115,116,122,123,129,130,136,137,143,144,148,149,155,156,162,163,164,165,166,167,168,169,170,171,172,173,174,175,176,182,183,189,190,194,195,201,202,208,209,210,216,217,223,224,230,231,235,236,242,243,244,246,254,255,261,262,263,264,265,270,272,280,281,287,288,294,295,303,304,305,315,316,320,321,325,326,330,331,337,338,344,345,351,352,358,359,365,366,372,373,377,378,382,383,389,390,396,397,401,402,406,407,411,412,418,419,425,426,432,433,439,440,444,445,451,452,456,457,463,464]
noncomputable def KX (P:Q0):Frag:=[
 (3,⟨(.type "dict"),none,(.dict #[⟨(c0 P "__name__"),(.str "__name__" 165),(.str "law_talejudge_k65_whole_strict_by_parts" 749)⟩,⟨(c0 P "__doc__"),(.str "__doc__" 166),.none⟩,⟨(c0 P "__package__"),(.str "__package__" 167),.none⟩,⟨(c0 P "__loader__"),(.str "__loader__" 168),(.builtin "__main__.__loader__#opaque")⟩,⟨(c0 P "__spec__"),(.str "__spec__" 169),.none⟩,kR P "__annotations__" 170 6,kR P "__builtins__" 171 4,⟨(c0 P "__file__"),(.str "__file__" 173),(.str "/claim/cut.py" 172)⟩,⟨(c0 P "__cached__"),(.str "__cached__" 174),.none⟩,kR P "_wall" 193 21,kR P "TaleError" 213 31,kR P "NoDeed" 229 44,kR P "NoStrictness" 245 56,kR P "NoThing" 261 68,⟨(c0 P "GREATEST_WORTH"),(.str "GREATEST_WORTH" 265),(.int (1000000000) 264)⟩,kR P "is_whole" 272 77,kR P "is_within" 280 84,kR P "is_worth" 287 91,kR P "is_tuple_of" 295 98,kR P "FIRST_STATES" 311 99,kR P "WORTHS_OF_VERBS" 336 102,kR P "read_state" 344 109,kR P "write_state" 352 116,kR P "add_to_number" 360 123,kR P "put_behind" 368 130,kR P "take_first" 376 137,kR P "put_into_set" 384 144,kR P "cut_from_set" 390 149,kR P "has_in_set" 398 156,kR P "swap_state" 406 163,kR P "DOERS" 467 164,kR P "is_kind" 474 183,kR P "first_state" 481 190,kR P "is_deed" 487 195,kR P "do" 498 202,kR P "deeds" 513 209,kR P "STRICTNESSES" 519 210,kR P "has_to" 533 217,kR P "check_strictness" 540 224,kR P "goes_ahead" 549 231,kR P "part" 557 236,kR P "thing_named" 566 243,kR P "Candidate" 612 265,kR P "Board" 669 305,kR P "step_of" 681 316,kR P "ended_numbers" 687 321,kR P "holds_all" 693 326,kR P "first_place" 699 331,kR P "all_places" 710 338,kR P "next_layer" 721 345,kR P "judged" 738 352,kR P "stuck_paper" 748 359,kR P "_law_cell_at" 758 366,kR P "_law_take" 768 373,kR P "_law_do" 774 378,kR P "_law_first" 780 383,kR P "_law_worth" 787 390,kR P "_law_verb" 797 397,kR P "_law_things" 803 402,kR P "_law_applied" 809 407,kR P "_law_tale" 815 412,kR P "_law_deeds" 826 419,kR P "_law_is_ahead" 835 426,kR P "_law_may_be_next" 846 433,kR P "_law_nexts" 862 440,kR P "_law_is_full" 868 445,kR P "_law_places" 883 452,kR P "_law_is_good" 889 457,kR P "law" 902 464] 69),#[]⟩),
 (22,⟨(.type "tuple"),none,(.seq #[(.type "ValueError")] 0),#[]⟩),
 (24,⟨(.type "dict"),none,(.dict #[⟨(c0 P "__module__"),(.str "__module__" 203),(.str "talejudge.errors" 194)⟩,⟨(c0 P "__qualname__"),(.str "__qualname__" 205),(.str "TaleError" 204)⟩,⟨(c0 P "__firstlineno__"),(.str "__firstlineno__" 207),(.int (5) 206)⟩,kR P "__static_attributes__" 208 29] 4),#[]⟩),
 (29,⟨(.type "tuple"),none,(.seq #[] 0),#[]⟩),
 (30,⟨(.type "dict"),none,(.dict #[⟨(c0 P "__module__"),(.str "__module__" 203),(.str "talejudge.errors" 194)⟩,⟨(c0 P "__firstlineno__"),(.str "__firstlineno__" 207),(.int (5) 206)⟩,kR P "__static_attributes__" 208 29,kR P "__weakref__" 210 32,⟨(c0 P "__doc__"),(.str "__doc__" 211),.none⟩] 3),#[]⟩),
 (31,⟨(.type "type"),none,(.cls ⟨"TaleError",[(.type "ValueError")],[(.ref 31),(.type "ValueError"),(.type "Exception"),(.type "BaseException"),(.type "object")],30,"TaleError",true,[],[(.ref 44),(.ref 56),(.ref 68)],false,none,false⟩),#[some (.ref 22),none,some (.str "TaleError" 196),some (.str "TaleError" 204),some (.builtin "ValueError.__new__"),some (.bool true)]⟩),
 (35,⟨(.type "tuple"),none,(.seq #[(.ref 31)] 0),#[]⟩),
 (37,⟨(.type "dict"),none,(.dict #[⟨(c0 P "__module__"),(.str "__module__" 221),(.str "talejudge.errors" 194)⟩,⟨(c0 P "__qualname__"),(.str "__qualname__" 223),(.str "NoDeed" 222)⟩,⟨(c0 P "__firstlineno__"),(.str "__firstlineno__" 225),(.int (7) 224)⟩,kR P "__static_attributes__" 226 42] 4),#[]⟩),
 (42,⟨(.type "tuple"),none,(.seq #[] 0),#[]⟩),
 (43,⟨(.type "dict"),none,(.dict #[⟨(c0 P "__module__"),(.str "__module__" 221),(.str "talejudge.errors" 194)⟩,⟨(c0 P "__firstlineno__"),(.str "__firstlineno__" 225),(.int (7) 224)⟩,kR P "__static_attributes__" 226 42,⟨(c0 P "__doc__"),(.str "__doc__" 227),.none⟩] 2),#[]⟩),
 (44,⟨(.type "type"),none,(.cls ⟨"NoDeed",[(.ref 31)],[(.ref 44),(.ref 31),(.type "ValueError"),(.type "Exception"),(.type "BaseException"),(.type "object")],43,"NoDeed",true,[],[],false,none,false⟩),#[some (.ref 35),none,some (.str "NoDeed" 214),some (.str "NoDeed" 222),some (.builtin "ValueError.__new__"),some (.bool true)]⟩),
 (47,⟨(.type "tuple"),none,(.seq #[(.ref 31)] 0),#[]⟩),
 (49,⟨(.type "dict"),none,(.dict #[⟨(c0 P "__module__"),(.str "__module__" 237),(.str "talejudge.errors" 194)⟩,⟨(c0 P "__qualname__"),(.str "__qualname__" 239),(.str "NoStrictness" 238)⟩,⟨(c0 P "__firstlineno__"),(.str "__firstlineno__" 241),(.int (9) 240)⟩,kR P "__static_attributes__" 242 54] 4),#[]⟩),
 (54,⟨(.type "tuple"),none,(.seq #[] 0),#[]⟩),
 (55,⟨(.type "dict"),none,(.dict #[⟨(c0 P "__module__"),(.str "__module__" 237),(.str "talejudge.errors" 194)⟩,⟨(c0 P "__firstlineno__"),(.str "__firstlineno__" 241),(.int (9) 240)⟩,kR P "__static_attributes__" 242 54,⟨(c0 P "__doc__"),(.str "__doc__" 243),.none⟩] 2),#[]⟩),
 (56,⟨(.type "type"),none,(.cls ⟨"NoStrictness",[(.ref 31)],[(.ref 56),(.ref 31),(.type "ValueError"),(.type "Exception"),(.type "BaseException"),(.type "object")],55,"NoStrictness",true,[],[],false,none,false⟩),#[some (.ref 47),none,some (.str "NoStrictness" 230),some (.str "NoStrictness" 238),some (.builtin "ValueError.__new__"),some (.bool true)]⟩),
 (59,⟨(.type "tuple"),none,(.seq #[(.ref 31)] 0),#[]⟩),
 (61,⟨(.type "dict"),none,(.dict #[⟨(c0 P "__module__"),(.str "__module__" 253),(.str "talejudge.errors" 194)⟩,⟨(c0 P "__qualname__"),(.str "__qualname__" 255),(.str "NoThing" 254)⟩,⟨(c0 P "__firstlineno__"),(.str "__firstlineno__" 257),(.int (11) 256)⟩,kR P "__static_attributes__" 258 66] 4),#[]⟩),
 (66,⟨(.type "tuple"),none,(.seq #[] 0),#[]⟩),
 (67,⟨(.type "dict"),none,(.dict #[⟨(c0 P "__module__"),(.str "__module__" 253),(.str "talejudge.errors" 194)⟩,⟨(c0 P "__firstlineno__"),(.str "__firstlineno__" 257),(.int (11) 256)⟩,kR P "__static_attributes__" 258 66,⟨(c0 P "__doc__"),(.str "__doc__" 259),.none⟩] 2),#[]⟩),
 (68,⟨(.type "type"),none,(.cls ⟨"NoThing",[(.ref 31)],[(.ref 68),(.ref 31),(.type "ValueError"),(.type "Exception"),(.type "BaseException"),(.type "object")],67,"NoThing",true,[],[],false,none,false⟩),#[some (.ref 59),none,some (.str "NoThing" 246),some (.str "NoThing" 254),some (.builtin "ValueError.__new__"),some (.bool true)]⟩),
 (76,cO "is_whole" "is_whole" 266 15 1 71 270),
 (77,fO "is_whole" "is_whole" (top 8) "talejudge.basics" 262 76),
 (83,cO "is_within" "is_within" 273 17 2 78 278),
 (84,fO "is_within" "is_within" (top 9) "talejudge.basics" 262 83),
 (90,cO "is_worth" "is_worth" 281 19 1 85 285),
 (91,fO "is_worth" "is_worth" (top 10) "talejudge.basics" 262 90),
 (97,cO "is_tuple_of" "is_tuple_of" 288 21 2 92 293),
 (98,fO "is_tuple_of" "is_tuple_of" (top 11) "talejudge.basics" 262 97),
 (99,⟨(.type "dict"),none,(.dict #[⟨(c0 P "register"),(.str "register" 298),(.int (0) 299)⟩,⟨(c0 P "counter"),(.str "counter" 300),(.int (0) 301)⟩,kR P "queue" 302 100,kR P "set" 303 101,⟨(c0 P "cell"),(.str "cell" 304),(.int (0) 305)⟩] 5),#[]⟩),
 (100,⟨(.type "tuple"),none,(.seq #[] 0),#[]⟩),
 (101,⟨(.type "tuple"),none,(.seq #[] 0),#[]⟩),
 (102,⟨(.type "dict"),none,(.dict #[⟨(c0 P "read"),(.str "read" 312),(.int (0) 313)⟩,⟨(c0 P "take"),(.str "take" 314),(.int (0) 315)⟩,⟨(c0 P "write"),(.str "write" 316),(.int (1) 317)⟩,⟨(c0 P "add"),(.str "add" 318),(.int (1) 319)⟩,⟨(c0 P "put"),(.str "put" 320),(.int (1) 321)⟩,⟨(c0 P "cut"),(.str "cut" 322),(.int (1) 323)⟩,⟨(c0 P "has"),(.str "has" 324),(.int (1) 325)⟩,⟨(c0 P "swap"),(.str "swap" 326),(.int (2) 327)⟩] 8),#[]⟩),
 (108,cO "read_state" "read_state" 337 26 2 103 342),
 (109,fO "read_state" "read_state" (top 15) "talejudge.store" 296 108),
 (115,cO "write_state" "write_state" 345 28 2 110 350),
 (116,fO "write_state" "write_state" (top 16) "talejudge.store" 296 115),
 (122,cO "add_to_number" "add_to_number" 353 30 2 117 358),
 (123,fO "add_to_number" "add_to_number" (top 17) "talejudge.store" 296 122),
 (129,cO "put_behind" "put_behind" 361 32 2 124 366),
 (130,fO "put_behind" "put_behind" (top 18) "talejudge.store" 296 129),
 (136,cO "take_first" "take_first" 369 34 2 131 374),
 (137,fO "take_first" "take_first" (top 19) "talejudge.store" 296 136),
 (143,cO "put_into_set" "put_into_set" 377 38 2 138 382),
 (144,fO "put_into_set" "put_into_set" (top 20) "talejudge.store" 296 143),
 (148,cP "cut_from_set" "cut_from_set" 385 42 2 145 388),
 (149,fO "cut_from_set" "cut_from_set" (top 21) "talejudge.store" 296 148),
 (155,cO "has_in_set" "has_in_set" 391 46 2 150 396),
 (156,fO "has_in_set" "has_in_set" (top 22) "talejudge.store" 296 155),
 (162,cO "swap_state" "swap_state" 399 48 2 157 404),
 (163,fO "swap_state" "swap_state" (top 23) "talejudge.store" 296 162),
 (164,⟨(.type "dict"),none,(.dict #[⟨(P1 (o0 [c0 P "register",c0 P "read"])),(.ref 165),(.ref 109)⟩,⟨(P1 (o0 [c0 P "register",c0 P "write"])),(.ref 166),(.ref 116)⟩,⟨(P1 (o0 [c0 P "counter",c0 P "read"])),(.ref 167),(.ref 109)⟩,⟨(P1 (o0 [c0 P "counter",c0 P "add"])),(.ref 168),(.ref 123)⟩,⟨(P1 (o0 [c0 P "queue",c0 P "put"])),(.ref 169),(.ref 130)⟩,⟨(P1 (o0 [c0 P "queue",c0 P "take"])),(.ref 170),(.ref 137)⟩,⟨(P1 (o0 [c0 P "set",c0 P "put"])),(.ref 171),(.ref 144)⟩,⟨(P1 (o0 [c0 P "set",c0 P "cut"])),(.ref 172),(.ref 149)⟩,⟨(P1 (o0 [c0 P "set",c0 P "has"])),(.ref 173),(.ref 156)⟩,⟨(P1 (o0 [c0 P "cell",c0 P "read"])),(.ref 174),(.ref 109)⟩,⟨(P1 (o0 [c0 P "cell",c0 P "write"])),(.ref 175),(.ref 116)⟩,⟨(P1 (o0 [c0 P "cell",c0 P "swap"])),(.ref 176),(.ref 163)⟩] 12),#[]⟩),
 (165,⟨(.type "tuple"),none,(.seq #[(.str "register" 407),(.str "read" 408)] 0),#[]⟩),
 (166,⟨(.type "tuple"),none,(.seq #[(.str "register" 409),(.str "write" 410)] 0),#[]⟩),
 (167,⟨(.type "tuple"),none,(.seq #[(.str "counter" 411),(.str "read" 412)] 0),#[]⟩),
 (168,⟨(.type "tuple"),none,(.seq #[(.str "counter" 413),(.str "add" 414)] 0),#[]⟩),
 (169,⟨(.type "tuple"),none,(.seq #[(.str "queue" 415),(.str "put" 416)] 0),#[]⟩),
 (170,⟨(.type "tuple"),none,(.seq #[(.str "queue" 417),(.str "take" 418)] 0),#[]⟩),
 (171,⟨(.type "tuple"),none,(.seq #[(.str "set" 419),(.str "put" 420)] 0),#[]⟩),
 (172,⟨(.type "tuple"),none,(.seq #[(.str "set" 421),(.str "cut" 422)] 0),#[]⟩),
 (173,⟨(.type "tuple"),none,(.seq #[(.str "set" 423),(.str "has" 424)] 0),#[]⟩),
 (174,⟨(.type "tuple"),none,(.seq #[(.str "cell" 425),(.str "read" 426)] 0),#[]⟩),
 (175,⟨(.type "tuple"),none,(.seq #[(.str "cell" 427),(.str "write" 428)] 0),#[]⟩),
 (176,⟨(.type "tuple"),none,(.seq #[(.str "cell" 429),(.str "swap" 430)] 0),#[]⟩),
 (182,cO "is_kind" "is_kind" 468 53 1 177 472),
 (183,fO "is_kind" "is_kind" (top 25) "talejudge.store" 296 182),
 (189,cO "first_state" "first_state" 475 55 1 184 479),
 (190,fO "first_state" "first_state" (top 26) "talejudge.store" 296 189),
 (194,cP "is_deed" "is_deed" 482 59 3 191 485),
 (195,fO "is_deed" "is_deed" (top 27) "talejudge.store" 296 194),
 (201,cO "do" "do" 488 68 4 196 496),
 (202,fO "do" "do" (top 28) "talejudge.store" 296 201),
 (208,cO "deeds" "deeds" 501 74 1 203 511),
 (209,fO "deeds" "deeds" (top 30) "talejudge.tales" 499 208),
 (210,⟨(.type "tuple"),none,(.seq #[(.str "strict" 516),(.str "hands" 517),(.str "bare" 518)] 0),#[]⟩),
 (216,cO "has_to" "has_to" 520 88 2 211 531),
 (217,fO "has_to" "has_to" (top 33) "talejudge.orders" 514 216),
 (223,cO "check_strictness" "check_strictness" 534 97 1 218 538),
 (224,fO "check_strictness" "check_strictness" (top 34) "talejudge.orders" 514 223),
 (230,cO "goes_ahead" "goes_ahead" 541 100 3 225 547),
 (231,fO "goes_ahead" "goes_ahead" (top 35) "talejudge.orders" 514 230),
 (235,cP "part" "part" 552 107 2 232 555),
 (236,fO "part" "part" (top 37) "talejudge.parts" 550 235),
 (242,cO "thing_named" "thing_named" 558 114 2 237 564),
 (243,fO "thing_named" "thing_named" (top 38) "talejudge.parts" 550 242),
 (244,⟨(.type "tuple"),none,(.seq #[] 0),#[]⟩),
 (246,⟨(.type "dict"),none,(.dict #[⟨(c0 P "__module__"),(.str "__module__" 576),(.str "talejudge.places" 567)⟩,⟨(c0 P "__qualname__"),(.str "__qualname__" 578),(.str "Candidate" 577)⟩,⟨(c0 P "__firstlineno__"),(.str "__firstlineno__" 580),(.int (121) 579)⟩,kR P "__init__" 586 255,kR P "may_stand" 596 262,kR P "__static_attributes__" 605 263] 6),#[]⟩),
 (254,cP "__init__" "Candidate.__init__" 581 123 6 251 584),
 (255,fO "__init__" "Candidate.__init__" (f_ (top 40) 0) "talejudge.places" 567 254),
 (261,cO "may_stand" "Candidate.may_stand" 587 133 2 256 594),
 (262,fO "may_stand" "Candidate.may_stand" (f_ (top 40) 1) "talejudge.places" 567 261),
 (263,⟨(.type "tuple"),none,(.seq #[(.str "aheads" 597),(.str "answer" 598),(.str "behinds" 599),(.str "kind" 600),(.str "number" 601),(.str "thing" 602),(.str "verb" 603),(.str "worth" 604)] 0),#[]⟩),
 (264,⟨(.type "dict"),none,(.dict #[⟨(c0 P "__module__"),(.str "__module__" 576),(.str "talejudge.places" 567)⟩,⟨(c0 P "__firstlineno__"),(.str "__firstlineno__" 580),(.int (121) 579)⟩,kR P "__init__" 586 255,kR P "may_stand" 596 262,kR P "__static_attributes__" 605 263,kR P "__dict__" 607 266,kR P "__weakref__" 609 267,⟨(c0 P "__doc__"),(.str "__doc__" 610),.none⟩] 4),#[]⟩),
 (265,⟨(.type "type"),none,(.cls ⟨"Candidate",[(.type "object")],[(.ref 265),(.type "object")],264,"Candidate",true,[],[],false,none,false⟩),#[none,none,some (.str "Candidate" 569),some (.str "Candidate" 577),some (.builtin "object.__new__"),some (.bool true)]⟩),
 (270,⟨(.type "tuple"),none,(.seq #[] 0),#[]⟩),
 (272,⟨(.type "dict"),none,(.dict #[⟨(c0 P "__module__"),(.str "__module__" 620),(.str "talejudge.places" 567)⟩,⟨(c0 P "__qualname__"),(.str "__qualname__" 622),(.str "Board" 621)⟩,⟨(c0 P "__firstlineno__"),(.str "__firstlineno__" 624),(.int (143) 623)⟩,kR P "__init__" 630 281,kR P "steps_from" 641 288,kR P "ends_at" 649 295,kR P "has_place" 657 302,kR P "__static_attributes__" 662 303] 8),#[]⟩),
 (280,cP "__init__" "Board.__init__" 625 145 3 277 628),
 (281,fO "__init__" "Board.__init__" (f_ (top 41) 0) "talejudge.places" 567 280),
 (287,cO "steps_from" "Board.steps_from" 631 157 2 282 639),
 (288,fO "steps_from" "Board.steps_from" (f_ (top 41) 1) "talejudge.places" 567 287),
 (294,cO "ends_at" "Board.ends_at" 642 166 2 289 647),
 (295,fO "ends_at" "Board.ends_at" (f_ (top 41) 2) "talejudge.places" 567 294),
 (303,⟨(.type "tuple"),none,(.seq #[(.str "candidates" 658),(.str "ended" 659),(.str "first" 660),(.str "kinds" 661)] 0),#[]⟩),
 (304,⟨(.type "dict"),none,(.dict #[⟨(c0 P "__module__"),(.str "__module__" 620),(.str "talejudge.places" 567)⟩,⟨(c0 P "__firstlineno__"),(.str "__firstlineno__" 624),(.int (143) 623)⟩,kR P "__init__" 630 281,kR P "steps_from" 641 288,kR P "ends_at" 649 295,kR P "has_place" 657 302,kR P "__static_attributes__" 662 303,kR P "__dict__" 664 306,kR P "__weakref__" 666 307,⟨(c0 P "__doc__"),(.str "__doc__" 667),.none⟩] 4),#[]⟩),
 (305,⟨(.type "type"),none,(.cls ⟨"Board",[(.type "object")],[(.ref 305),(.type "object")],304,"Board",true,[],[],false,none,false⟩),#[none,none,some (.str "Board" 613),some (.str "Board" 621),some (.builtin "object.__new__"),some (.bool true)]⟩),
 (315,cO "step_of" "step_of" 670 171 2 310 679),
 (316,fO "step_of" "step_of" (top 42) "talejudge.places" 567 315),
 (320,cP "ended_numbers" "ended_numbers" 682 177 1 317 685),
 (321,fO "ended_numbers" "ended_numbers" (top 43) "talejudge.places" 567 320),
 (325,cP "holds_all" "holds_all" 688 179 2 322 691),
 (326,fO "holds_all" "holds_all" (top 44) "talejudge.places" 567 325),
 (330,cP "first_place" "first_place" 694 181 1 327 697),
 (331,fO "first_place" "first_place" (top 45) "talejudge.places" 567 330),
 (337,cO "all_places" "all_places" 700 183 2 332 708),
 (338,fO "all_places" "all_places" (top 46) "talejudge.places" 567 337),
 (344,cO "next_layer" "next_layer" 711 191 2 339 719),
 (345,fO "next_layer" "next_layer" (top 47) "talejudge.places" 567 344),
 (351,cO "judged" "judged" 724 198 2 346 736),
 (352,fO "judged" "judged" (top 49) "talejudge.judge" 722 351),
 (358,cO "stuck_paper" "stuck_paper" 741 212 2 353 746),
 (359,fO "stuck_paper" "stuck_paper" (top 51) "talejudge.stuck" 739 358),
 (365,cO "_law_cell_at" "_law_cell_at" 751 217 2 360 756),
 (366,fL "_law_cell_at" "_law_cell_at" (top 53) 365),
 (372,cO "_law_take" "_law_take" 759 221 2 367 766),
 (373,fL "_law_take" "_law_take" (top 54) 372),
 (377,cP "_law_do" "_law_do" 769 230 4 374 772),
 (378,fL "_law_do" "_law_do" (top 55) 377),
 (382,cP "_law_first" "_law_first" 775 253 1 379 778),
 (383,fL "_law_first" "_law_first" (top 56) 382),
 (389,cO "_law_worth" "_law_worth" 781 255 1 384 785),
 (390,fL "_law_worth" "_law_worth" (top 57) 389),
 (396,cO "_law_verb" "_law_verb" 788 257 2 391 795),
 (397,fL "_law_verb" "_law_verb" (top 58) 396),
 (401,cP "_law_things" "_law_things" 798 267 1 398 801),
 (402,fL "_law_things" "_law_things" (top 59) 401),
 (406,cP "_law_applied" "_law_applied" 804 273 3 403 807),
 (407,fL "_law_applied" "_law_applied" (top 60) 406),
 (411,cP "_law_tale" "_law_tale" 810 278 2 408 813),
 (412,fL "_law_tale" "_law_tale" (top 61) 411),
 (418,cO "_law_deeds" "_law_deeds" 816 306 1 413 824),
 (419,fL "_law_deeds" "_law_deeds" (top 62) 418),
 (425,cO "_law_is_ahead" "_law_is_ahead" 827 318 3 420 833),
 (426,fL "_law_is_ahead" "_law_is_ahead" (top 63) 425),
 (432,cO "_law_may_be_next" "_law_may_be_next" 836 322 4 427 844),
 (433,fL "_law_may_be_next" "_law_may_be_next" (top 64) 432),
 (439,cO "_law_nexts" "_law_nexts" 847 329 4 434 860),
 (440,fL "_law_nexts" "_law_nexts" (top 65) 439),
 (444,cP "_law_is_full" "_law_is_full" 863 339 2 441 866),
 (445,fL "_law_is_full" "_law_is_full" (top 66) 444),
 (451,cO "_law_places" "_law_places" 869 341 2 446 881),
 (452,fL "_law_places" "_law_places" (top 67) 451),
 (456,cP "_law_is_good" "_law_is_good" 884 352 2 453 887),
 (457,fL "_law_is_good" "_law_is_good" (top 68) 456),
 (463,cO "law" "law" 890 355 1 458 900),
 (464,fL "law" "law" (top 69) 463)]
noncomputable def HX:Hook:=kHook KX RP (λ _=>by kernel_rfl)
noncomputable abbrev XtX:A0->Bool:=λ s=>xlAt viewX [] s && recOk (RowW.records (OpenRow.toRowW PySem.Challenge.rw_talejudge_k65_whole_strict_by_parts.row)) s
def vU (w:U0) (os:Y2):(staticsOk (b8 PX.main.body) (boot_heap w.params) (ng w os).abs.heap && namesBound PX (ng w os).abs.heap && gensDone (ng w os).abs && laidKept (boot_heap w.params) (ng w os).abs.heap)=true:=by kernel_rfl
def t_ (w:U0) (os:Y2):openSeen viewX looseX (b8 PX.main.body) XtX true (ng w os).abs=openGood viewX looseX:=by rw [PySem.W.Fast.te4187177175401517315];kernel_rfl
def wU (w:U0) (os:Y2):Hook.obs HX (ng w os).abs=Hook.val HX w:=by kernel_rfl
def leftX:LeftO PX viewX looseX XtX (Hook.obs HX) (Hook.val HX) 200000:=
 KW (H₀:=boot_heap) (gs₀:=Array.mk []) (boot_open (by kernel_rfl) (by decide) (λ s=>rfl)) (λ w=>by kernel_rfl) PP vU t_ wU
end K65
namespace L2
def ay.k {N P:List ZR} {sc:ZD} (a:sc.kind=.function:=by exact rfl) (b:sc.isCoroutine=false:=by exact rfl) (c:sc.isGenerator=false:=by exact rfl) (d:N.Nodup:=by decide +kernel) (e:N.take P.length=P:=by exact rfl) (f :∀x∈P,sc.names.lookup x=some .local\/sc.names.lookup x=some .cell:=by decide +kernel) (g :∀y∈sc.names,y.2≠.free:=by decide +kernel):ay N P sc:=⟨a,b,c,d,e,f,g⟩
def eL {H:Hp} {p:ZS} (o:HO) (h:H p=none) :∃H',H'=upd H p o/\af H H'/\H' p=some o:=⟨_,rfl,af.upd h,ab⟩
def bE {c A B:Prop} [Decidable c] (h:B) (hc:¬ c:=by decide +kernel):if c then A else B:=bM hc h
def bK {X:Cx} {scope:ZD} {cl:List (ZR×ZS)} {N:List ZR} {C:ZS} {s₂:A0} {H₂:Hp} {fp:List ZS} {x:ZR} {px:ZP} (i:Nat) (hN:N.Nodup:=by decide +kernel) (hi:N[i]? = some x:=by exact rfl) (hx:scope.names.lookup x=some .local:=by exact rfl):PG (cB X scope cl N C s₂ H₂ fp) (.Name x px) (bh i):=QR i hN hi hx
def dS {X:Cx} {xs:List ZR} {tg:ZN} {g:TG} {pos:ZP} {elt iter:ZN} {ifs:List ZN} {scope:ZD} {fr:List (Nat×ZR)} {wi:TI} {tc:TT} {te:TE} (hi:PI X tg iter wi)
  (hg :∀cl C s₂ H₂ fp,PG (cB X scope cl (xs++fr.map (·.2)) C s₂ H₂ fp) tg g)
  (ht :∀cl C s₂ H₂ fp,PF (cB X scope cl (xs++fr.map (·.2)) C s₂ H₂ fp) ifs tc) (he :∀cl C s₂ H₂ fp,PE (cB X scope cl (xs++fr.map (·.2)) C s₂ H₂ fp) elt te) (hcalm:X.calm=true:=by exact rfl)
  (hfr :∀p∈fr,X.N[p.1]? = some p.2/\(X.env.kindOf p.2=some .cell\/X.env.kindOf p.2=some .free):=by first|exact λ _ z=>ZV z t0|(intro p hp;obtain rfl:=List.mem_singleton.mp hp;first|exact ⟨rfl,.inl rfl⟩|exact ⟨rfl,.inr rfl⟩))
  (hin:(scope.names.all λ y=>y.2 != Z1 || fr.any λ p=>p.2 == y.1)=true:=by decide +kernel)
  (hfs :∀p∈fr,(p.2,Z1)∈scope.names/\((X8 scope X.env).names.lookup p.2=some .cell\/(X8 scope X.env).names.lookup p.2=some .free):=by first|exact λ _ z=>ZV z t0|(intro p hp;obtain rfl:=List.mem_singleton.mp hp;exact ⟨by decide +kernel,by first|exact .inl rfl|exact .inr rfl⟩))
  (hcell :∀y∈scope.names,y.2≠NameKind.cell:=by decide +kernel) (hkind:scope.kind=.function:=by exact rfl) (hnames :∀y∈scope.names,y.2=NameKind.local->scope.names.lookup y.1=some .local:=by decide +kernel)
  (hs :∀x,Z5 iter X.env x=W1 x:=by intro _;rfl):PE X (.ListComp elt [⟨tg,iter,ifs,0⟩] scope pos) (cx wi xs.length fr g tc te):=
 En hcalm hi hfr (λ y a e=>by
  have h:=List.all_eq_true.mp hin y a;rw [e] at h;obtain ⟨p,hp,z⟩:=List.any_eq_true.mp (show fr.any (λ p=>p.2 == y.1)=true from h);have:=(hfr p hp).2
  rwa [eq_of_beq z] at this) hfs hcell hkind hnames hg ht he hs
end L2
namespace K65
open TJ L2
abbrev Gg (n:ZR) (a:ZS):Prop:=∀P,B7 (KX P) K3 n=some (some (.ref a))
abbrev Gn (n:ZR):Prop:=∀P,B7 (KX P) K3 n=some none
noncomputable abbrev kx (w:U0):=KX w.params
noncomputable abbrev Ca (P:ZJ) (w:U0) (mg:ZR->Option ZG) (base:ZM):=xq P w (KX w.params) mg base
noncomputable abbrev Sf (P:ZJ) (w:U0) (mg:ZR->Option ZG) (base:ZM):=zQ P w (KX w.params) mg base
noncomputable abbrev Fo (P:ZJ) (w:U0) (mg:ZR->Option ZG) (base:ZM):=fI P w (KX w.params) mg base
def oA:Gn "isinstance":=λ _=>by kernel_rfl
def dE:Gn "len":=λ _=>by kernel_rfl
def oi:Gn "all":=λ _=>by kernel_rfl
def wH:Gn "max":=λ _=>by kernel_rfl
def uz:Gn "min":=λ _=>by kernel_rfl
def ku:Gn "int":=λ _=>by kernel_rfl
def ky:Gn "str":=λ _=>by kernel_rfl
def qI:Gn "bool":=λ _=>by kernel_rfl
def lq:Gn "tuple":=λ _=>by kernel_rfl
def tE:Gn "range":=λ _=>by kernel_rfl
def sW:Gn "sorted":=λ _=>by kernel_rfl
def vM:Gn "sum":=λ _=>by kernel_rfl
def tG:Gn "enumerate":=λ _=>by kernel_rfl
def PR:Gn "reversed":=λ _=>by kernel_rfl
def RT (P:Q0):B7 (KX P) K3 "GREATEST_WORTH" = some (some (.int (1000000000) 264)):=by kernel_rfl
def PU:Gg "is_whole" 77:=λ _=>by kernel_rfl
def JH:Gg "is_within" 84:=λ _=>by kernel_rfl
def Qm:Gg "is_worth" 91:=λ _=>by kernel_rfl
def LO:Gg "is_tuple_of" 98:=λ _=>by kernel_rfl
def IP:Gg "FIRST_STATES" 99:=λ _=>by kernel_rfl
def Sa:Gg "WORTHS_OF_VERBS" 102:=λ _=>by kernel_rfl
def Hy:Gg "read_state" 109:=λ _=>by kernel_rfl
def Ge:Gg "write_state" 116:=λ _=>by kernel_rfl
def HM:Gg "add_to_number" 123:=λ _=>by kernel_rfl
def Ek:Gg "put_behind" 130:=λ _=>by kernel_rfl
def GP:Gg "take_first" 137:=λ _=>by kernel_rfl
def GF:Gg "put_into_set" 144:=λ _=>by kernel_rfl
def DN:Gg "cut_from_set" 149:=λ _=>by kernel_rfl
def HH:Gg "has_in_set" 156:=λ _=>by kernel_rfl
def ER:Gg "swap_state" 163:=λ _=>by kernel_rfl
def HJ:Gg "DOERS" 164:=λ _=>by kernel_rfl
def Ly:Gg "is_kind" 183:=λ _=>by kernel_rfl
def Ow:Gg "first_state" 190:=λ _=>by kernel_rfl
def QU:Gg "is_deed" 195:=λ _=>by kernel_rfl
def CS:Gg "do" 202:=λ _=>by kernel_rfl
def QC:Gg "deeds" 209:=λ _=>by kernel_rfl
def NS:Gg "STRICTNESSES" 210:=λ _=>by kernel_rfl
def O_:Gg "has_to" 217:=λ _=>by kernel_rfl
def QX:Gg "check_strictness" 224:=λ _=>by kernel_rfl
def Oe:Gg "goes_ahead" 231:=λ _=>by kernel_rfl
def qu:Gg "part" 236:=λ _=>by kernel_rfl
def MM:Gg "thing_named" 243:=λ _=>by kernel_rfl
def I8:Gg "Candidate" 265:=λ _=>by kernel_rfl
def Ho:Gg "Board" 305:=λ _=>by kernel_rfl
def Lp:Gg "step_of" 316:=λ _=>by kernel_rfl
def JK:Gg "ended_numbers" 321:=λ _=>by kernel_rfl
def Ln:Gg "holds_all" 326:=λ _=>by kernel_rfl
def Jl:Gg "first_place" 331:=λ _=>by kernel_rfl
def Ol:Gg "all_places" 338:=λ _=>by kernel_rfl
def RV:Gg "next_layer" 345:=λ _=>by kernel_rfl
def Mn:Gg "judged" 352:=λ _=>by kernel_rfl
def MR:Gg "stuck_paper" 359:=λ _=>by kernel_rfl
def OQ:Gg "_law_cell_at" 366:=λ _=>by kernel_rfl
def KR:Gg "_law_take" 373:=λ _=>by kernel_rfl
def Jc:Gg "_law_do" 378:=λ _=>by kernel_rfl
def PD:Gg "_law_first" 383:=λ _=>by kernel_rfl
def Jt:Gg "_law_worth" 390:=λ _=>by kernel_rfl
def Lg:Gg "_law_verb" 397:=λ _=>by kernel_rfl
def Nj:Gg "_law_things" 402:=λ _=>by kernel_rfl
def KJ:Gg "_law_applied" 407:=λ _=>by kernel_rfl
def RF:Gg "_law_tale" 412:=λ _=>by kernel_rfl
def Lj:Gg "_law_deeds" 419:=λ _=>by kernel_rfl
def Kg:Gg "_law_is_ahead" 426:=λ _=>by kernel_rfl
def Kk:Gg "_law_may_be_next" 433:=λ _=>by kernel_rfl
def Pz:Gg "_law_nexts" 440:=λ _=>by kernel_rfl
def RG:Gg "_law_is_full" 445:=λ _=>by kernel_rfl
def Jd:Gg "_law_places" 452:=λ _=>by kernel_rfl
def Ro:Gg "_law_is_good" 457:=λ _=>by kernel_rfl
def g_law:Gg "law" 464:=λ _=>by kernel_rfl
noncomputable def bq:List (ZR×V):=[("register",.int (0)),("counter",.int (0)),("queue",.ref 100),("set",.ref 101),("cell",.int (0))]
def Iz (P:Q0):iz (KX P) P 99 bq:=⟨⟨#[⟨(c0 P "register"),(.str "register" 298),(.int (0) 299)⟩,⟨(c0 P "counter"),(.str "counter" 300),(.int (0) 301)⟩,⟨(c0 P "queue"),(.str "queue" 302),(.ref 100)⟩,⟨(c0 P "set"),(.str "set" 303),(.ref 101)⟩,⟨(c0 P "cell"),(.str "cell" 304),(.int (0) 305)⟩],5,by kernel_rfl,(.cons ⟨⟨_,rfl⟩,rfl,⟨_,rfl⟩⟩ (.cons ⟨⟨_,rfl⟩,rfl,⟨_,rfl⟩⟩ (.cons ⟨⟨_,rfl⟩,rfl,rfl⟩ (.cons ⟨⟨_,rfl⟩,rfl,rfl⟩ (.cons ⟨⟨_,rfl⟩,rfl,⟨_,rfl⟩⟩ .nil)))))⟩,by decide⟩
noncomputable def aZ:List (ZR×V):=[("read",.int (0)),("take",.int (0)),("write",.int (1)),("add",.int (1)),("put",.int (1)),("cut",.int (1)),("has",.int (1)),("swap",.int (2))]
def Mm (P:Q0):iz (KX P) P 102 aZ:=⟨⟨#[⟨(c0 P "read"),(.str "read" 312),(.int (0) 313)⟩,⟨(c0 P "take"),(.str "take" 314),(.int (0) 315)⟩,⟨(c0 P "write"),(.str "write" 316),(.int (1) 317)⟩,⟨(c0 P "add"),(.str "add" 318),(.int (1) 319)⟩,⟨(c0 P "put"),(.str "put" 320),(.int (1) 321)⟩,⟨(c0 P "cut"),(.str "cut" 322),(.int (1) 323)⟩,⟨(c0 P "has"),(.str "has" 324),(.int (1) 325)⟩,⟨(c0 P "swap"),(.str "swap" 326),(.int (2) 327)⟩],8,by kernel_rfl,(.cons ⟨⟨_,rfl⟩,rfl,⟨_,rfl⟩⟩ (.cons ⟨⟨_,rfl⟩,rfl,⟨_,rfl⟩⟩ (.cons ⟨⟨_,rfl⟩,rfl,⟨_,rfl⟩⟩ (.cons ⟨⟨_,rfl⟩,rfl,⟨_,rfl⟩⟩ (.cons ⟨⟨_,rfl⟩,rfl,⟨_,rfl⟩⟩ (.cons ⟨⟨_,rfl⟩,rfl,⟨_,rfl⟩⟩ (.cons ⟨⟨_,rfl⟩,rfl,⟨_,rfl⟩⟩ (.cons ⟨⟨_,rfl⟩,rfl,⟨_,rfl⟩⟩ .nil))))))))⟩,by decide⟩
noncomputable def dQ:List ((ZR×ZR)×V):=[(("register","read"),.ref 109),(("register","write"),.ref 116),(("counter","read"),.ref 109),(("counter","add"),.ref 123),(("queue","put"),.ref 130),(("queue","take"),.ref 137),(("set","put"),.ref 144),(("set","cut"),.ref 149),(("set","has"),.ref 156),(("cell","read"),.ref 109),(("cell","write"),.ref 116),(("cell","swap"),.ref 163)]
def DE (P:Q0):hO (KX P) P 164 dQ:=⟨⟨#[⟨(P1 (o0 [c0 P "register",c0 P "read"])),(.ref 165),(.ref 109)⟩,⟨(P1 (o0 [c0 P "register",c0 P "write"])),(.ref 166),(.ref 116)⟩,⟨(P1 (o0 [c0 P "counter",c0 P "read"])),(.ref 167),(.ref 109)⟩,⟨(P1 (o0 [c0 P "counter",c0 P "add"])),(.ref 168),(.ref 123)⟩,⟨(P1 (o0 [c0 P "queue",c0 P "put"])),(.ref 169),(.ref 130)⟩,⟨(P1 (o0 [c0 P "queue",c0 P "take"])),(.ref 170),(.ref 137)⟩,⟨(P1 (o0 [c0 P "set",c0 P "put"])),(.ref 171),(.ref 144)⟩,⟨(P1 (o0 [c0 P "set",c0 P "cut"])),(.ref 172),(.ref 149)⟩,⟨(P1 (o0 [c0 P "set",c0 P "has"])),(.ref 173),(.ref 156)⟩,⟨(P1 (o0 [c0 P "cell",c0 P "read"])),(.ref 174),(.ref 109)⟩,⟨(P1 (o0 [c0 P "cell",c0 P "write"])),(.ref 175),(.ref 116)⟩,⟨(P1 (o0 [c0 P "cell",c0 P "swap"])),(.ref 176),(.ref 163)⟩],12,by kernel_rfl,(.cons ⟨⟨165,407,408,0,rfl,by kernel_rfl⟩,rfl,rfl⟩ (.cons ⟨⟨166,409,410,0,rfl,by kernel_rfl⟩,rfl,rfl⟩ (.cons ⟨⟨167,411,412,0,rfl,by kernel_rfl⟩,rfl,rfl⟩ (.cons ⟨⟨168,413,414,0,rfl,by kernel_rfl⟩,rfl,rfl⟩ (.cons ⟨⟨169,415,416,0,rfl,by kernel_rfl⟩,rfl,rfl⟩ (.cons ⟨⟨170,417,418,0,rfl,by kernel_rfl⟩,rfl,rfl⟩ (.cons ⟨⟨171,419,420,0,rfl,by kernel_rfl⟩,rfl,rfl⟩ (.cons ⟨⟨172,421,422,0,rfl,by kernel_rfl⟩,rfl,rfl⟩ (.cons ⟨⟨173,423,424,0,rfl,by kernel_rfl⟩,rfl,rfl⟩ (.cons ⟨⟨174,425,426,0,rfl,by kernel_rfl⟩,rfl,rfl⟩ (.cons ⟨⟨175,427,428,0,rfl,by kernel_rfl⟩,rfl,rfl⟩ (.cons ⟨⟨176,429,430,0,rfl,by kernel_rfl⟩,rfl,rfl⟩ .nil))))))))))))⟩,by decide +kernel,by decide⟩
noncomputable abbrev Gz:ZL:=top 8
noncomputable abbrev Ce:ZI:=fnX "is_whole" "is_whole" (top 8) "talejudge.basics" 262 76
def yX (P:Q0):cE (KX P) "is_whole" "is_whole" Gz 77 Ce:=df
def Ng (P:Q0):Binds (KX P) Ce ["value"] []:=(yX P).binds λ _ _ _ _ _ _=>lO λ _=>rfl
def Om:ay ["value"] ["value"] (ck Gz):=.k
noncomputable abbrev Ez:ZL:=top 9
noncomputable abbrev Ad:ZI:=fnX "is_within" "is_within" (top 9) "talejudge.basics" 262 83
def y_ (P:Q0):cE (KX P) "is_within" "is_within" Ez 84 Ad:=df
def RW (P:Q0):Binds (KX P) Ad ["value","greatest"] []:=(y_ P).binds λ _ _ _ _ _ _=>gh λ _ _=>rfl
def Qr:ay ["value","greatest"] ["value","greatest"] (ck Ez):=.k
noncomputable abbrev IK:ZL:=top 10
noncomputable abbrev Ck:ZI:=fnX "is_worth" "is_worth" (top 10) "talejudge.basics" 262 90
def Ab (P:Q0):cE (KX P) "is_worth" "is_worth" IK 91 Ck:=df
def PN (P:Q0):Binds (KX P) Ck ["value"] []:=(Ab P).binds λ _ _ _ _ _ _=>lO λ _=>rfl
def Od:ay ["value"] ["value"] (ck IK):=.k
noncomputable abbrev EF:ZL:=top 11
noncomputable abbrev BB:ZI:=fnX "is_tuple_of" "is_tuple_of" (top 11) "talejudge.basics" 262 97
def CQ (P:Q0):cE (KX P) "is_tuple_of" "is_tuple_of" EF 98 BB:=df
def QV (P:Q0):Binds (KX P) BB ["value","many"] []:=(CQ P).binds λ _ _ _ _ _ _=>gh λ _ _=>rfl
def Jj:ay ["value","many"] ["value","many"] (ck EF):=.k
noncomputable abbrev GW:ZL:=top 15
noncomputable abbrev AQ:ZI:=fnX "read_state" "read_state" (top 15) "talejudge.store" 296 108
def CH (P:Q0):cE (KX P) "read_state" "read_state" GW 109 AQ:=df
def Je (P:Q0):Binds (KX P) AQ ["state","worth"] []:=(CH P).binds λ _ _ _ _ _ _=>gh λ _ _=>rfl
def Ni:ay ["state","worth"] ["state","worth"] (ck GW):=.k
noncomputable abbrev Dx:ZL:=top 16
noncomputable abbrev Ai:ZI:=fnX "write_state" "write_state" (top 16) "talejudge.store" 296 115
def yV (P:Q0):cE (KX P) "write_state" "write_state" Dx 116 Ai:=df
def Ma (P:Q0):Binds (KX P) Ai ["state","worth"] []:=(yV P).binds λ _ _ _ _ _ _=>gh λ _ _=>rfl
def PQ:ay ["state","worth"] ["state","worth"] (ck Dx):=.k
noncomputable abbrev Gm:ZL:=top 17
noncomputable abbrev AJ:ZI:=fnX "add_to_number" "add_to_number" (top 17) "talejudge.store" 296 122
def CY (P:Q0):cE (KX P) "add_to_number" "add_to_number" Gm 123 AJ:=df
def Ji (P:Q0):Binds (KX P) AJ ["state","worth"] []:=(CY P).binds λ _ _ _ _ _ _=>gh λ _ _=>rfl
def Jh:ay ["state","worth"] ["state","worth"] (ck Gm):=.k
noncomputable abbrev Gv:ZL:=top 18
noncomputable abbrev Cu:ZI:=fnX "put_behind" "put_behind" (top 18) "talejudge.store" 296 129
def yR (P:Q0):cE (KX P) "put_behind" "put_behind" Gv 130 Cu:=df
def Kb (P:Q0):Binds (KX P) Cu ["state","worth"] []:=(yR P).binds λ _ _ _ _ _ _=>gh λ _ _=>rfl
def OB:ay ["state","worth"] ["state","worth"] (ck Gv):=.k
noncomputable abbrev HQ:ZL:=top 19
noncomputable abbrev zN:ZI:=fnX "take_first" "take_first" (top 19) "talejudge.store" 296 136
def Bb (P:Q0):cE (KX P) "take_first" "take_first" HQ 137 zN:=df
def NP (P:Q0):Binds (KX P) zN ["state","worth"] []:=(Bb P).binds λ _ _ _ _ _ _=>gh λ _ _=>rfl
def ML:ay ["state","worth"] ["state","worth"] (ck HQ):=.k
noncomputable abbrev Er:ZL:=top 20
noncomputable abbrev BS:ZI:=fnX "put_into_set" "put_into_set" (top 20) "talejudge.store" 296 143
def A_ (P:Q0):cE (KX P) "put_into_set" "put_into_set" Er 144 BS:=df
def Pu (P:Q0):Binds (KX P) BS ["state","worth"] []:=(A_ P).binds λ _ _ _ _ _ _=>gh λ _ _=>rfl
def Kl:ay ["state","worth"] ["state","worth"] (ck Er):=.k
noncomputable abbrev IC:ZL:=top 21
noncomputable abbrev Cz:ZI:=fnX "cut_from_set" "cut_from_set" (top 21) "talejudge.store" 296 148
def Ah (P:Q0):cE (KX P) "cut_from_set" "cut_from_set" IC 149 Cz:=df
def Rf (P:Q0):Binds (KX P) Cz ["state","worth"] []:=(Ah P).binds λ _ _ _ _ _ _=>gh λ _ _=>rfl
def Kv:ay ["state","worth"] ["state","worth"] (ck IC):=.k
noncomputable abbrev Hz:ZL:=top 22
noncomputable abbrev Ao:ZI:=fnX "has_in_set" "has_in_set" (top 22) "talejudge.store" 296 155
def Bg (P:Q0):cE (KX P) "has_in_set" "has_in_set" Hz 156 Ao:=df
def KP (P:Q0):Binds (KX P) Ao ["state","worth"] []:=(Bg P).binds λ _ _ _ _ _ _=>gh λ _ _=>rfl
def Lz:ay ["state","worth"] ["state","worth"] (ck Hz):=.k
noncomputable abbrev Ik:ZL:=top 23
noncomputable abbrev AS:ZI:=fnX "swap_state" "swap_state" (top 23) "talejudge.store" 296 162
def yw (P:Q0):cE (KX P) "swap_state" "swap_state" Ik 163 AS:=df
def Lw (P:Q0):Binds (KX P) AS ["state","worth"] []:=(yw P).binds λ _ _ _ _ _ _=>gh λ _ _=>rfl
def JF:ay ["state","worth"] ["state","worth"] (ck Ik):=.k
noncomputable abbrev Gh:ZL:=top 25
noncomputable abbrev AN:ZI:=fnX "is_kind" "is_kind" (top 25) "talejudge.store" 296 182
def AO (P:Q0):cE (KX P) "is_kind" "is_kind" Gh 183 AN:=df
def Kn (P:Q0):Binds (KX P) AN ["kind"] []:=(AO P).binds λ _ _ _ _ _ _=>lO λ _=>rfl
def Kf:ay ["kind"] ["kind"] (ck Gh):=.k
noncomputable abbrev GD:ZL:=top 26
noncomputable abbrev Bx:ZI:=fnX "first_state" "first_state" (top 26) "talejudge.store" 296 189
def CB (P:Q0):cE (KX P) "first_state" "first_state" GD 190 Bx:=df
def Os (P:Q0):Binds (KX P) Bx ["kind"] []:=(CB P).binds λ _ _ _ _ _ _=>lO λ _=>rfl
def LP:ay ["kind"] ["kind"] (ck GD):=.k
noncomputable abbrev DL:ZL:=top 27
noncomputable abbrev Cd:ZI:=fnX "is_deed" "is_deed" (top 27) "talejudge.store" 296 194
def zr (P:Q0):cE (KX P) "is_deed" "is_deed" DL 195 Cd:=df
def Re (P:Q0):Binds (KX P) Cd ["kind","verb","worth"] []:=(zr P).binds λ _ _ _ _ _ _=>vx λ _ _ _=>rfl
def gS:ay ["kind","verb","worth","many"] ["kind","verb","worth"] (ck DL):=.k
noncomputable abbrev BW:ZL:=top 28
noncomputable abbrev zE:ZI:=fnX "do" "do" (top 28) "talejudge.store" 296 201
def qG (P:Q0):cE (KX P) "do" "do" BW 202 zE:=df
def Af (P:Q0):Binds (KX P) zE ["kind","state","verb","worth"] []:=(qG P).binds λ _ _ _ _ _ _=>xj λ _ _ _ _=>rfl
def oN:ay ["kind","state","verb","worth","doer"] ["kind","state","verb","worth"] (ck BW):=.k
noncomputable abbrev Dy:ZL:=top 30
noncomputable abbrev Cj:ZI:=fnX "deeds" "deeds" (top 30) "talejudge.tales" 499 208
def Cf (P:Q0):cE (KX P) "deeds" "deeds" Dy 209 Cj:=df
def Lr (P:Q0):Binds (KX P) Cj ["tale"] []:=(Cf P).binds λ _ _ _ _ _ _=>lO λ _=>rfl
def dZ:ay ["tale","told","numbers","place","event","number","begun"] ["tale"] (ck Dy):=.k
noncomputable abbrev EE:ZL:=top 33
noncomputable abbrev BC:ZI:=fnX "has_to" "has_to" (top 33) "talejudge.orders" 514 216
def Bf (P:Q0):cE (KX P) "has_to" "has_to" EE 217 BC:=df
def MU (P:Q0):Binds (KX P) BC ["tale","strictness"] []:=(Bf P).binds λ _ _ _ _ _ _=>gh λ _ _=>rfl
def c_:ay ["tale","strictness","told","pairs","ahead","one","behind","other"] ["tale","strictness"] (ck EE):=.k
noncomputable abbrev Fz:ZL:=top 34
noncomputable abbrev AC:ZI:=fnX "check_strictness" "check_strictness" (top 34) "talejudge.orders" 514 223
def zH (P:Q0):cE (KX P) "check_strictness" "check_strictness" Fz 224 AC:=df
def Kh (P:Q0):Binds (KX P) AC ["strictness"] []:=(zH P).binds λ _ _ _ _ _ _=>lO λ _=>rfl
def Qj:ay ["strictness"] ["strictness"] (ck Fz):=.k
noncomputable abbrev Hq:ZL:=top 35
noncomputable abbrev CO:ZI:=fnX "goes_ahead" "goes_ahead" (top 35) "talejudge.orders" 514 230
def BN (P:Q0):cE (KX P) "goes_ahead" "goes_ahead" Hq 231 CO:=df
def OM (P:Q0):Binds (KX P) CO ["one","other","strictness"] []:=(BN P).binds λ _ _ _ _ _ _=>vx λ _ _ _=>rfl
def MT:ay ["one","other","strictness"] ["one","other","strictness"] (ck Hq):=.k
noncomputable abbrev Ef:ZL:=top 37
noncomputable abbrev AD:ZI:=fnX "part" "part" (top 37) "talejudge.parts" 550 235
def jN (P:Q0):cE (KX P) "part" "part" Ef 236 AD:=df
def rb (P:Q0):Binds (KX P) AD ["tale","name"] []:=(jN P).binds λ _ _ _ _ _ _=>gh λ _ _=>rfl
def gM:ay ["tale","name","thing","places","deed"] ["tale","name"] (ck Ef):=.k
noncomputable abbrev Hs:ZL:=top 38
noncomputable abbrev zD:ZI:=fnX "thing_named" "thing_named" (top 38) "talejudge.parts" 550 242
def Cp (P:Q0):cE (KX P) "thing_named" "thing_named" Hs 243 zD:=df
def OL (P:Q0):Binds (KX P) zD ["tale","name"] []:=(Cp P).binds λ _ _ _ _ _ _=>gh λ _ _=>rfl
def fC:ay ["tale","name","thing"] ["tale","name"] (ck Hs):=.k
noncomputable abbrev E_:ZL:=top 42
noncomputable abbrev yO:ZI:=fnX "step_of" "step_of" (top 42) "talejudge.places" 567 315
def yE (P:Q0):cE (KX P) "step_of" "step_of" E_ 316 yO:=df
def OP (P:Q0):Binds (KX P) yO ["candidate","place"] []:=(yE P).binds λ _ _ _ _ _ _=>gh λ _ _=>rfl
def dY:ay ["candidate","place","thing","states","done","numbers"] ["candidate","place"] (ck E_):=.k
noncomputable abbrev FK:ZL:=top 43
noncomputable abbrev AE:ZI:=fnX "ended_numbers" "ended_numbers" (top 43) "talejudge.places" 567 320
def zI (P:Q0):cE (KX P) "ended_numbers" "ended_numbers" FK 321 AE:=df
def Pc (P:Q0):Binds (KX P) AE ["told"] []:=(zI P).binds λ _ _ _ _ _ _=>lO λ _=>rfl
def Rj:ay ["told"] ["told"] (ck FK):=.k
noncomputable abbrev Fk:ZL:=top 44
noncomputable abbrev zu:ZI:=fnX "holds_all" "holds_all" (top 44) "talejudge.places" 567 325
def yZ (P:Q0):cE (KX P) "holds_all" "holds_all" Fk 326 zu:=df
def PB (P:Q0):Binds (KX P) zu ["done","numbers"] []:=(yZ P).binds λ _ _ _ _ _ _=>gh λ _ _=>rfl
def Pj:ay ["done","numbers"] ["done","numbers"] (ck Fk):=.k
noncomputable abbrev HG:ZL:=top 45
noncomputable abbrev BK:ZI:=fnX "first_place" "first_place" (top 45) "talejudge.places" 567 330
def zh (P:Q0):cE (KX P) "first_place" "first_place" HG 331 BK:=df
def Rm (P:Q0):Binds (KX P) BK ["tale"] []:=(zh P).binds λ _ _ _ _ _ _=>lO λ _=>rfl
def OD:ay ["tale"] ["tale"] (ck HG):=.k
noncomputable abbrev Dp:ZL:=top 46
noncomputable abbrev Cb:ZI:=fnX "all_places" "all_places" (top 46) "talejudge.places" 567 337
def BE (P:Q0):cE (KX P) "all_places" "all_places" Dp 338 Cb:=df
def Ri (P:Q0):Binds (KX P) Cb ["tale","strictness"] []:=(BE P).binds λ _ _ _ _ _ _=>gh λ _ _=>rfl
def cg:ay ["tale","strictness","board","found","layer"] ["tale","strictness"] (ck Dp):=.k
noncomputable abbrev Dj:ZL:=top 47
noncomputable abbrev zT:ZI:=fnX "next_layer" "next_layer" (top 47) "talejudge.places" 567 344
def Aw (P:Q0):cE (KX P) "next_layer" "next_layer" Dj 345 zT:=df
def MB (P:Q0):Binds (KX P) zT ["board","layer"] []:=(Aw P).binds λ _ _ _ _ _ _=>gh λ _ _=>rfl
def da:ay ["board","layer","reached","place","step"] ["board","layer"] (ck Dj):=.k
noncomputable abbrev Il:ZL:=top 49
noncomputable abbrev BG:ZI:=fnX "judged" "judged" (top 49) "talejudge.judge" 722 351
def Bi (P:Q0):cE (KX P) "judged" "judged" Il 352 BG:=df
def RO (P:Q0):Binds (KX P) BG ["tale","strictness"] []:=(Bi P).binds λ _ _ _ _ _ _=>gh λ _ _=>rfl
def cC:ay ["tale","strictness","board","seen","waiting","reached","number","answer","place"] ["tale","strictness"] (ck Il):=.k
noncomputable abbrev Dm:ZL:=top 51
noncomputable abbrev CL:ZI:=fnX "stuck_paper" "stuck_paper" (top 51) "talejudge.stuck" 739 358
def zq (P:Q0):cE (KX P) "stuck_paper" "stuck_paper" Dm 359 CL:=df
def OY (P:Q0):Binds (KX P) CL ["tale","strictness"] []:=(zq P).binds λ _ _ _ _ _ _=>gh λ _ _=>rfl
def JQ:ay ["tale","strictness"] ["tale","strictness"] (ck Dm):=.k
noncomputable abbrev Ec:ZL:=top 53
noncomputable abbrev zZ:ZI:=fY "_law_cell_at" "_law_cell_at" (top 53) 365
def yT (P:Q0):cE (KX P) "_law_cell_at" "_law_cell_at" Ec 366 zZ:=df
def Qf (P:Q0):Binds (KX P) zZ ["script","k"] []:=(yT P).binds λ _ _ _ _ _ _=>gh λ _ _=>rfl
def Py:ay ["script","k"] ["script","k"] (ck Ec):=.k
noncomputable abbrev EO:ZL:=top 54
noncomputable abbrev zi:ZI:=fY "_law_take" "_law_take" (top 54) 372
def Az (P:Q0):cE (KX P) "_law_take" "_law_take" EO 373 zi:=df
def Mo (P:Q0):Binds (KX P) zi ["deck","many"] []:=(Az P).binds λ _ _ _ _ _ _=>gh λ _ _=>rfl
def dH:ay ["deck","many","told","number"] ["deck","many"] (ck EO):=.k
noncomputable abbrev Et:ZL:=top 55
noncomputable abbrev CV:ZI:=fY "_law_do" "_law_do" (top 55) 377
def Co (P:Q0):cE (KX P) "_law_do" "_law_do" Et 378 CV:=df
def Lx (P:Q0):Binds (KX P) CV ["kind","state","verb","worth"] []:=(Co P).binds λ _ _ _ _ _ _=>xj λ _ _ _ _=>rfl
def hA:ay ["kind","state","verb","worth","there"] ["kind","state","verb","worth"] (ck Et):=.k
noncomputable abbrev Fu:ZL:=top 56
noncomputable abbrev zW:ZI:=fY "_law_first" "_law_first" (top 56) 382
def CU (P:Q0):cE (KX P) "_law_first" "_law_first" Fu 383 zW:=df
def JX (P:Q0):Binds (KX P) zW ["things"] []:=(CU P).binds λ _ _ _ _ _ _=>lO λ _=>rfl
def Rz:ay ["things"] ["things"] (ck Fu):=.k
noncomputable abbrev Du:ZL:=top 57
noncomputable abbrev Cv:ZI:=fY "_law_worth" "_law_worth" (top 57) 389
def AU (P:Q0):cE (KX P) "_law_worth" "_law_worth" Du 390 Cv:=df
def Mt (P:Q0):Binds (KX P) Cv ["deck"] []:=(AU P).binds λ _ _ _ _ _ _=>lO λ _=>rfl
def Pf:ay ["deck"] ["deck"] (ck Du):=.k
noncomputable abbrev Ga:ZL:=top 58
noncomputable abbrev zF:ZI:=fY "_law_verb" "_law_verb" (top 58) 396
def B_ (P:Q0):cE (KX P) "_law_verb" "_law_verb" Ga 397 zF:=df
def NU (P:Q0):Binds (KX P) zF ["deck","kind"] []:=(B_ P).binds λ _ _ _ _ _ _=>gh λ _ _=>rfl
def eU:ay ["deck","kind","some","verb"] ["deck","kind"] (ck Ga):=.k
noncomputable abbrev Hc:ZL:=top 59
noncomputable abbrev BD:ZI:=fY "_law_things" "_law_things" (top 59) 401
def Ag (P:Q0):cE (KX P) "_law_things" "_law_things" Hc 402 BD:=df
def P_ (P:Q0):Binds (KX P) BD ["deck"] []:=(Ag P).binds λ _ _ _ _ _ _=>lO λ _=>rfl
def cL:ay ["deck","words","told","k"] ["deck"] (ck Hc):=.k
noncomputable abbrev Gx:ZL:=top 60
noncomputable abbrev CI:ZI:=fY "_law_applied" "_law_applied" (top 60) 406
def BQ (P:Q0):cE (KX P) "_law_applied" "_law_applied" Gx 407 CI:=df
def Jq (P:Q0):Binds (KX P) CI ["things","states","own"] []:=(BQ P).binds λ _ _ _ _ _ _=>vx λ _ _ _=>rfl
def cw:ay ["things","states","own","at","state","answer"] ["things","states","own"] (ck Gx):=.k
noncomputable abbrev Df:ZL:=top 61
noncomputable abbrev C_:ZI:=fY "_law_tale" "_law_tale" (top 61) 411
def CM (P:Q0):cE (KX P) "_law_tale" "_law_tale" Df 412 C_:=df
def LS (P:Q0):Binds (KX P) C_ ["script","most"] []:=(CM P).binds λ _ _ _ _ _ _=>gh λ _ _=>rfl
def aG:ay ["script","most","way","deck","things","hands","spoil","states","events","under_way","k","hand","own","answer","name","kind","verb","worth"] ["script","most"] (ck Df):=.k
noncomputable abbrev ID:ZL:=top 62
noncomputable abbrev yF:ZI:=fY "_law_deeds" "_law_deeds" (top 62) 418
def AZ (P:Q0):cE (KX P) "_law_deeds" "_law_deeds" ID 419 yF:=df
def KS (P:Q0):Binds (KX P) yF ["tale"] []:=(AZ P).binds λ _ _ _ _ _ _=>lO λ _=>rfl
def cf:ay ["tale","told","last","at","event"] ["tale"] (ck ID):=.k
noncomputable abbrev HC:ZL:=top 63
noncomputable abbrev Al:ZI:=fY "_law_is_ahead" "_law_is_ahead" (top 63) 425
def zU (P:Q0):cE (KX P) "_law_is_ahead" "_law_is_ahead" HC 426 Al:=df
def Lb (P:Q0):Binds (KX P) Al ["strictness","one","other"] []:=(zU P).binds λ _ _ _ _ _ _=>vx λ _ _ _=>rfl
def MF:ay ["strictness","one","other"] ["strictness","one","other"] (ck HC):=.k
noncomputable abbrev Gq:ZL:=top 64
noncomputable abbrev Bn:ZI:=fY "_law_may_be_next" "_law_may_be_next" (top 64) 432
def Bq (P:Q0):cE (KX P) "_law_may_be_next" "_law_may_be_next" Gq 433 Bn:=df
def LI (P:Q0):Binds (KX P) Bn ["some","strictness","done","number"] []:=(Bq P).binds λ _ _ _ _ _ _=>xj λ _ _ _ _=>rfl
def dB:ay ["some","strictness","done","number","other"] ["some","strictness","done","number"] (ck Gq):=.k
noncomputable abbrev GO:ZL:=top 65
noncomputable abbrev BH:ZI:=fY "_law_nexts" "_law_nexts" (top 65) 439
def Ax (P:Q0):cE (KX P) "_law_nexts" "_law_nexts" GO 440 BH:=df
def Qd (P:Q0):Binds (KX P) BH ["tale","some","strictness","place"] []:=(Ax P).binds λ _ _ _ _ _ _=>xj λ _ _ _ _=>rfl
def bB:ay ["tale","some","strictness","place","told","done","states","number","own","behind"] ["tale","some","strictness","place"] (ck GO):=.k
noncomputable abbrev Gr:ZL:=top 66
noncomputable abbrev yx:ZI:=fY "_law_is_full" "_law_is_full" (top 66) 444
def Be (P:Q0):cE (KX P) "_law_is_full" "_law_is_full" Gr 445 yx:=df
def Lf (P:Q0):Binds (KX P) yx ["some","place"] []:=(Be P).binds λ _ _ _ _ _ _=>gh λ _ _=>rfl
def OS:ay ["some","place"] ["some","place"] (ck Gr):=.k
noncomputable abbrev Do:ZL:=top 67
noncomputable abbrev CP:ZI:=fY "_law_places" "_law_places" (top 67) 451
def AG (P:Q0):cE (KX P) "_law_places" "_law_places" Do 452 CP:=df
def KG (P:Q0):Binds (KX P) CP ["tale","strictness"] []:=(AG P).binds λ _ _ _ _ _ _=>gh λ _ _=>rfl
def a_:ay ["tale","strictness","some","first","told","pile","number","answer","place"] ["tale","strictness"] (ck Do):=.k
noncomputable abbrev DQ:ZL:=top 68
noncomputable abbrev zg:ZI:=fY "_law_is_good" "_law_is_good" (top 68) 456
def CK (P:Q0):cE (KX P) "_law_is_good" "_law_is_good" DQ 457 zg:=df
def Nt (P:Q0):Binds (KX P) zg ["tale","strictness"] []:=(CK P).binds λ _ _ _ _ _ _=>gh λ _ _=>rfl
def eZ:ay ["tale","strictness","some"] ["tale","strictness"] (ck DQ):=.k
noncomputable abbrev Gw:ZL:=top 69
noncomputable abbrev fd_law:ZI:=fY "law" "law" (top 69) 463
def wu (P:Q0):cE (KX P) "law" "law" Gw 464 fd_law:=df
def fB:ay ["script","tale","good","name","kind","own","here"] ["script"] (ck Gw):=.k
noncomputable abbrev Ii:ZL:=f_ (top 40) 0
noncomputable abbrev yk:ZI:=fnX "__init__" "Candidate.__init__" (f_ (top 40) 0) "talejudge.places" 567 254
def FJ (P:Q0):cE (KX P) "__init__" "Candidate.__init__" Ii 255 yk:=df
def M_ (P:Q0):Binds (KX P) yk ["self","number","deed","thing","kind","pairs"] []:=(FJ P).binds λ _ _ _ _ _ _=>JC λ _ _ _ _ _ _=>rfl
def Oh:ay ["self","number","deed","thing","kind","pairs"] ["self","number","deed","thing","kind","pairs"] (ck Ii):=.k
def Ox (P:Q0):Mk (KX P) 265 255:=⟨by kernel_rfl,by kernel_rfl,by kernel_rfl,by kernel_rfl⟩
def iu (P:Q0):jX (KX P) 265:=⟨by kernel_rfl,by kernel_rfl,by kernel_rfl,by kernel_rfl⟩
def xk (P:Q0):aP (KX P) 265 "number":=by unfold aP;kernel_rfl
def DM (P:Q0):aP (KX P) 265 "thing":=by unfold aP;kernel_rfl
def Fs (P:Q0):aP (KX P) 265 "kind":=by unfold aP;kernel_rfl
def Fj (P:Q0):aP (KX P) 265 "verb":=by unfold aP;kernel_rfl
def Im (P:Q0):aP (KX P) 265 "worth":=by unfold aP;kernel_rfl
def Aq (P:Q0):aP (KX P) 265 "answer":=by unfold aP;kernel_rfl
def FO (P:Q0):aP (KX P) 265 "aheads":=by unfold aP;kernel_rfl
def Hm (P:Q0):aP (KX P) 265 "behinds":=by unfold aP;kernel_rfl
noncomputable abbrev DY:ZL:=f_ (top 40) 1
noncomputable abbrev yi:ZI:=fnX "may_stand" "Candidate.may_stand" (f_ (top 40) 1) "talejudge.places" 567 261
def Hv (P:Q0):cE (KX P) "may_stand" "Candidate.may_stand" DY 262 yi:=df
def Rt (P:Q0):Binds (KX P) yi ["self","done"] []:=(Hv P).binds λ _ _ _ _ _ _=>gh λ _ _=>rfl
def bL:ay ["self","done","ahead","behind"] ["self","done"] (ck DY):=.k
def Qc (P:Q0):nu (KX P) 265 "may_stand" 262:=⟨by kernel_rfl,by kernel_rfl,by kernel_rfl⟩
noncomputable abbrev Fe:ZL:=f_ (top 41) 0
noncomputable abbrev vG:ZI:=fnX "__init__" "Board.__init__" (f_ (top 41) 0) "talejudge.places" 567 280
def Fl (P:Q0):cE (KX P) "__init__" "Board.__init__" Fe 281 vG:=df
def Gy (P:Q0):Binds (KX P) vG ["self","tale","strictness"] []:=(Fl P).binds λ _ _ _ _ _ _=>vx λ _ _ _=>rfl
def aW:ay ["self","tale","strictness","pairs","told","names","number","deed","thing"] ["self","tale","strictness"] (ck Fe):=.k
def FC (P:Q0):Mk (KX P) 305 281:=⟨by kernel_rfl,by kernel_rfl,by kernel_rfl,by kernel_rfl⟩
def ly (P:Q0):jX (KX P) 305:=⟨by kernel_rfl,by kernel_rfl,by kernel_rfl,by kernel_rfl⟩
def DH (P:Q0):aP (KX P) 305 "kinds":=by unfold aP;kernel_rfl
def AF (P:Q0):aP (KX P) 305 "first":=by unfold aP;kernel_rfl
def Fp (P:Q0):aP (KX P) 305 "ended":=by unfold aP;kernel_rfl
def BR (P:Q0):aP (KX P) 305 "candidates":=by unfold aP;kernel_rfl
noncomputable abbrev Ir:ZL:=f_ (top 41) 1
noncomputable abbrev vn:ZI:=fnX "steps_from" "Board.steps_from" (f_ (top 41) 1) "talejudge.places" 567 287
def DV (P:Q0):cE (KX P) "steps_from" "Board.steps_from" Ir 288 vn:=df
def DT (P:Q0):Binds (KX P) vn ["self","place"] []:=(DV P).binds λ _ _ _ _ _ _=>gh λ _ _=>rfl
def bF:ay ["self","place","steps","candidate","step"] ["self","place"] (ck Ir):=.k
def DA (P:Q0):nu (KX P) 305 "steps_from" 288:=⟨by kernel_rfl,by kernel_rfl,by kernel_rfl⟩
noncomputable abbrev HR:ZL:=f_ (top 41) 2
noncomputable abbrev xm:ZI:=fnX "ends_at" "Board.ends_at" (f_ (top 41) 2) "talejudge.places" 567 294
def EZ (P:Q0):cE (KX P) "ends_at" "Board.ends_at" HR 295 xm:=df
def JY (P:Q0):Binds (KX P) xm ["self","place"] []:=(EZ P).binds λ _ _ _ _ _ _=>gh λ _ _=>rfl
def Nl:ay ["self","place"] ["self","place"] (ck HR):=.k
def JL (P:Q0):nu (KX P) 305 "ends_at" 295:=⟨by kernel_rfl,by kernel_rfl,by kernel_rfl⟩
variable {H H' H1 H2:Hp} {K:b0} {P:ZJ} {base:ZM} {h:Int} {hs:List Int} {i j m n:Nat} {kvs:List (Key×V)} {l:ZS} {mg:ZR->Option ZG} {o:HO} {v x y:V} {w:U0}
section
def IJ:Sp:=λ vs H Q _=>∃x T,vs=[x]/\bz H x T/\Q (.bl (decide (T = "int"))) H
def OR (T:TX (kx w) mg):Fo P w mg base CX0 1 77 Ce ["value"] IJ:=by
 refine (yX w.params).ok Om (λ b H Q E h=>?_) (λ e A c s H b Q E d h=>?_)
 ·obtain ⟨x,t,rfl,_⟩:=h;rfl
 ·obtain ⟨x,t,rfl,a,q⟩:=h;refine ⟨_,(aU (au (dv (fD pd rfl (T.no (oA _)) Q4 (ao (pv 0) (ao (oy (v:=.ty "int") rfl (T.no (ku _)) boot_int rfl) ae))) (dP (qx (fD pd rfl (T.no (oA _)) Q4 (ao (pv 0) (ao (oy (v:=.ty "bool") rfl (T.no (qI _)) boot_bool rfl) ae)))))))),?_⟩;refine ⟨_,rfl,_,_,_,rfl,a,by decide,_,rfl,?_⟩;by_cases h1:iA t "int" = true
  ·rw [ZZ h1];refine ⟨_,rfl,_,_,_,rfl,a,by decide,_,rfl,?_⟩;rw [xx a (by decide)];have:(!decide (t = "bool"))=decide (t = "int"):=by rcases a.one with rfl|rfl|rfl|rfl|rfl|rfl|rfl<;>revert h1<;>decide
   rw [this];exact q
  ·rw [Z_ h1];have:decide (t = "int")=false:=by rcases a.one with rfl|rfl|rfl|rfl|rfl|rfl|rfl<;>revert h1<;>decide
   rw [this] at q;exact q
def GB:Sp:=λ vs H Q _=>∃x T g,vs=[x,.int g]/\bz H x T/\Q (.bl (iU x g)) H
def KI (T:TX (kx w) mg) (c0:Ca P w mg base "is_whole" ["value"] 1 IJ):Fo P w mg base CX0 2 84 Ad ["value","greatest"] GB:=by
 refine (y_ w.params).ok Qr (λ c H Q E h=>?_) (λ e A d s H c Q E b h=>?_)
 ·obtain ⟨x,t,g,rfl,_⟩:=h;rfl
 ·obtain ⟨x,t,g,rfl,a,q⟩:=h;refine ⟨_,(aU (au (dv (aB c0 (b.mono (by decide)) rfl (ao (pv 0) ae)) (dP (Mb oU oU (mP kb (pv 1)) (pv 0) (pv 1)))))),?_⟩;refine ⟨_,rfl,x,t,rfl,a,_,rfl,?_⟩;by_cases h1:t = "int"
  ·subst h1;obtain ⟨i,rfl⟩:=a.int;refine cG ?_;refine ⟨_,rfl,_,rfl,_,rfl,_,_,rfl,rfl,_,rfl,?_⟩;unfold iU at q;dsimp only at q;by_cases h2:-g<=i
   ·rw [ZY h2] at q⊢;refine cG ⟨_,rfl,_,_,rfl,rfl,?_⟩;rw [j0g] at q;exact q
   ·rw [ZX h2] at q⊢;refine cF ?_;rw [Y7] at q;exact q
  ·rw [ZX h1];refine cF ?_;rw [tS a h1] at q;exact q
def Di:Sp:=λ vs H Q _=>∃x T,vs=[x]/\bz H x T/\Q (.bl (iU x 1000000000)) H
def Nx (T:TX (kx w) mg) (c0:Ca P w mg base "is_within" ["value","greatest"] 2 GB):Fo P w mg base CX0 3 91 Ck ["value"] Di:=by
 refine (Ab w.params).ok Od (λ c H Q E h=>?_) (λ e A d s H c Q E b h=>?_)
 ·obtain ⟨x,t,rfl,_⟩:=h;rfl
 ·obtain ⟨x,t,rfl,a,q⟩:=h;refine ⟨_,(aU (au (aB c0 (b.mono (by decide)) rfl (ao (pv 0) (ao (qj (v:=.int (1000000000)) rfl (T.of (RT _)) ⟨_,rfl⟩) ae))))),?_⟩;exact ⟨_,rfl,x,t,1000000000,rfl,a,q⟩
def FH:Sp:=λ vs H Q _=>∃x T m,vs=[x,.int m]/\bz H x T/\Q (.bl (match cW H x with|some xs=>decide ((xs.length:Int)=m)|none=>false)) H
def NL (T:TX (kx w) mg):Fo P w mg base CX0 1 98 BB ["value","many"] FH:=by
 refine (CQ w.params).ok Jj (λ f H Q E h=>?_) (λ k A l s H f Q E j h=>?_)
 ·obtain ⟨x,t,g,rfl,_⟩:=h;rfl
 ·obtain ⟨x,t,g,rfl,b,q⟩:=h;refine ⟨_,(aU (au (dv (fD pd rfl (T.no (oA _)) Q4 (ao (pv 0) (ao (oy (v:=.ty "tuple") rfl (T.no (lq _)) G4 rfl) ae))) (dP (gU bP (fD jG rfl (T.no (dE _)) S4 (ao (pv 0) ae)) (pv 1) (aC _)))))),?_⟩;refine ⟨_,rfl,_,_,_,rfl,b,by decide,_,rfl,?_⟩;rw [xx b (by decide)];by_cases h1:t = "tuple"
  ·subst h1;obtain ⟨a,c,rfl,d⟩:=b.tuple;refine cG ⟨_,rfl,.inl ⟨a,c,rfl,.inr (aH.of d),_,rfl,rfl,?_⟩⟩;have e:cW H (.ref a)=some c:=by unfold cW;dsimp only;rw [d]
   rw [e] at q;have i:decide (V.int (c.length:Int)=V.int g)=decide ((c.length:Int)=g):=by simp
   rw [i];exact q
  ·rw [ZX h1];refine cF ?_;rw [wL b h1] at q;exact q
noncomputable def kindB (x:V):Bool:=match x with
 | .str z=>(bq.lookup z).isSome
 | _=>false
def Cn:Sp:=λ vs H Q _=>∃x T,vs=[x]/\bz H x T/\Q (.bl (kindB x)) H
def LG (T:TX (kx w) mg):Fo P w mg base CX0 1 183 AN ["kind"] Cn:=by
 refine (AO w.params).ok Kf (λ b H Q E h=>?_) (λ e A c s H b Q E d h=>?_)
 ·obtain ⟨x,t,rfl,_⟩:=h;rfl
 ·obtain ⟨x,t,rfl,a,q⟩:=h;refine ⟨_,(aU (au (dv (fD pd rfl (T.no (oA _)) Q4 (ao (pv 0) (ao (oy (v:=.ty "str") rfl (T.no (ky _)) boot_str rfl) ae))) (dP (gU (NO (Iz _)) (pv 0) (qj (v:=.ref 99) rfl (T.of (IP _)) rfl) (by with_unfolding_all rfl)))))),?_⟩;refine ⟨_,rfl,_,_,_,rfl,a,by decide,_,rfl,?_⟩;rw [xx a (by decide)];by_cases h1:t = "str"
  ·subst h1;obtain ⟨z,rfl⟩:=a.str;exact cG ⟨_,rfl,z,rfl,rfl,q⟩
  ·rw [ZX h1];refine cF ?_;cases x with
   | str z=>exact ZV a h1
   | _=>exact q
noncomputable def formOf (k v:ZR):Int:=match dQ.lookup (k,v) with
 | none=>-1
 | some _=>(match aZ.lookup v with|some (.int i)=>i|_=>-1)
noncomputable def cJ (H:Hp) (k v x:V):Bool:=match k,v with
 | .str a,.str b=>if formOf a b=0 then decide (x=.non) else if formOf a b=1 then iU x 1000000000 else if formOf a b=2 then
   (match cW H x with|some xs=>decide (xs.length=2) && xs.all λ y=>iU y 1000000000|none=>false) else false
 | _,_=>false
def Ei {a b:ZR} (h:dQ.lookup (a,b)=some v):(bq.lookup a).isSome=true/\∃i,aZ.lookup b=some (.int i)/\(i=0\/i=1\/i=2):=by
 have m:=QL h;have all :∀p∈dQ,(bq.lookup p.1.1).isSome=true/\(aZ.lookup p.1.2=some (.int 0)\/aZ.lookup p.1.2=some (.int 1)\/aZ.lookup p.1.2=some (.int 2)):=by decide +kernel
 obtain ⟨d,c⟩:=all _ m;refine ⟨d,?_⟩;rcases c with c|c|c
 ·exact ⟨0,c,.inl rfl⟩
 ·exact ⟨1,c,.inr (.inl rfl)⟩
 ·exact ⟨2,c,.inr (.inr rfl)⟩
def Fv:Sp:=λ vs H Q _=>∃k v x Tk Tv Tx,vs=[k,v,x]/\bz H k Tk/\bz H v Tv/\bz H x Tx/\Flat H x/\∀H',af H H'->Q (.bl (cJ H k v x)) H'
theorem Lc (T:TX (kx w) mg) (c0:Ca P w mg base "is_kind" ["kind"] 1 Cn) (c1:Ca P w mg base "is_worth" ["value"] 3 Di) (c2:Ca P w mg base "is_tuple_of" ["value","many"] 1 FH):Fo P w mg base CX0 4 195 Cd ["kind","verb","worth"] Fv:=by
 refine (zr w.params).ok gS (λ Y H Q E h=>?_) (λ a1 A a2 s H Y Q E m h=>?_)
 ·obtain ⟨k,v,x,G,I,B,rfl,_⟩:=h;rfl
 ·obtain ⟨k,v,x,G,I,B,rfl,hk,r,D,hf,q⟩:=h;refine ⟨_,(aV (aN (PW.pt (hU (gs (cA (aB c0 (m.mono (by decide)) rfl (ao (pv 0) ae)) (λ _=>rfl))) (hU (gs (cA (fD pd rfl (T.no (oA _)) Q4 (ao (pv 1) (ao (oy (v:=.ty "str") rfl (T.no (ky _)) boot_str rfl) ae))) (λ _=>rfl))) (gv (cI (Lq (cQ m) (DE _)) (aD (ao (pv 0) (ao (pv 1) ae))) (qj (v:=.ref 164) rfl (T.of (HJ _)) rfl) (by with_unfolding_all rfl))))))
   (aU (au eC))
   dG)
   (aV (aA (i:=3) gS.nd rfl (Y0 rfl) (aq (oJ (Mm _)) (qj (v:=.ref 102) rfl (T.of (Sa _)) rfl) (pv 1) (λ _ _=>rfl)))
   (aV (aN (cI bP (pv 3) ag (aC _))
   (aU (au (gU gW (pv 2) bx (aC _))))
   dG)
   (aV (aN (cI bP (pv 3) ag (aC _))
   (aU (au (aB c1 (m.mono (by decide)) rfl (ao (pv 2) ae))))
   dG)
   (aU (au (dv (aB c2 (m.mono (by decide)) rfl (ao (pv 2) (ao (pv 3) ae))) (dP (fD (IR rfl) rfl (T.no (oi _)) boot_all (ao (dS (xs:=["part"]) (g:=bh 0) (fr:=[]) (eF (pv 2)) (λ _ _ _ _ _=>(bK (N:=["part"]) 0)) (λ _ _ _ _ _=>fE) (λ _ _ _ _ _=>(aB c1 (m.mono (by decide)) rfl (ao (pv 0) ae)))) ae)))))))))),?_⟩
  refine ⟨_,rfl,k,G,rfl,hk,_,rfl,?_⟩;have L:cJ H k v x=false->Q (.bl false) H:=λ e=>by have:=q H (af.refl H);rw [e] at this;exact this
  by_cases j :∃a,k=.str a/\(bq.lookup a).isSome=true
  ·obtain ⟨a,rfl,j⟩:=j;have a0:kindB (.str a)=true:=j;rw [a0];refine cF ?_;refine ⟨_,rfl,_,_,_,rfl,r,by decide,_,rfl,?_⟩;rw [xx r (by decide)];by_cases o:I = "str"
   ·subst o;obtain ⟨b,rfl⟩:=r.str;refine cF ?_;refine ⟨_,rfl,_,rfl,?_⟩;refine ⟨cZ,λ p hp=>⟨p,a,b,rfl,ab,rfl,_,rfl,?_⟩⟩;have d:af H (upd H p (.tup [.str a,.str b])):=af.upd hp;cases h3:dQ.lookup (a,b) with
    | none=>
     refine cG ?_;have:=q _ d;have e:cJ H (.str a) (.str b) x=false:=by unfold cJ formOf;dsimp only;rw [h3];rfl
     rw [e] at this;exact this
    | some z=>
     refine cF ?_;obtain ⟨_,i,J,h5⟩:=Ei h3;have u:formOf a b=i:=by unfold formOf;rw [h3];dsimp only;rw [J]
     refine ⟨_,rfl,b,.int i,rfl,rfl,J,?_⟩;refine ⟨_,rfl,rfl,_,rfl,?_⟩;rcases h5 with rfl|rfl|rfl
     ·refine cG ⟨_,rfl,rfl,?_⟩;have:=q _ d;have e:cJ H (.str a) (.str b) x=decide (x=.non):=by unfold cJ;dsimp only;rw [u];rfl
      rw [e] at this;exact this
     ·refine cF ⟨_,rfl,rfl,_,rfl,?_⟩;refine cG ⟨_,rfl,x,B,rfl,D.same d,?_⟩;have:=q _ d;have e:cJ H (.str a) (.str b) x=iU x 1000000000:=by unfold cJ;dsimp only;rw [u];rfl
      rw [e] at this;exact this
     ·refine cF ⟨_,rfl,rfl,_,rfl,?_⟩;refine cF ⟨_,rfl,_,rfl,x,B,2,rfl,D.same d,_,rfl,?_⟩;rw [Ks D d];have e:cJ H (.str a) (.str b) x=(match cW H x with|some xs=>decide (xs.length=2) && xs.all λ y=>iU y 1000000000|none=>false):=by unfold cJ;dsimp only;rw [u];rfl
      rw [e] at q;cases ht:cW H x with
      | none=>rw [ht] at q;exact cF (q _ d)
      | some xs=>
       rw [ht] at q;dsimp only at q⊢;by_cases n:xs.length=2
       ·have t:((xs.length:Nat):Int)=2:=by lia
        rw [ZZ (ZY t)];rw [ZY n,j0g] at q;obtain ⟨c,rfl,hc⟩:=Sd ht;have U:xs.length<=ZF:=by rw [n];decide
        refine mI ?_;refine tf (K:=KX w.params) (a:=c) (xs:=xs) (H1:=upd H p (.tup [.str a,.str b])) (λ _=>true) (λ i y _=>y=.bl (iU (xs[i]?.getD .non) 1000000000)) (λ _ _ _ _ _ z=>z) (λ R h=>⟨_,rfl,h⟩) (aH.of (d _ _ hc)) U ?_ ?_
        ·intro i M F X C O KT KF k1 k2;obtain ⟨Ty,ty⟩:=(hf xs ht).2 F (K0 O);refine ⟨[some F],rfl,rfl,cG ?_⟩;exact ⟨_,rfl,F,Ty,rfl,(ty.same d).same C,k1 rfl _ _ (af.refl _) (by rw [O];rfl)⟩
        ·intro l X Z C n S;rw [List.filter_eq_self.mpr (λ _ _=>rfl)] at S;have W:Z=xs.map λ y=>V.bl (iU y 1000000000):=by
          rw [AM (f:=λ i=>V.bl (iU (xs[i]?.getD .non) 1000000000)) S];apply Z6
          ·simp
          ·intro i j o;have M:i < xs.length:=by simpa using j
           simp [B0 M]
         subst W;refine ⟨l,_,rfl,aK.of ab,λ y hy=>?_,?_⟩
         ·obtain ⟨z,_,rfl⟩:=List.mem_map.mp hy;exact ⟨_,rfl⟩
         ·have e9:((xs.map λ y=>V.bl (iU y 1000000000)).all λ y=>decide (y=V.bl true))=xs.all λ y=>iU y 1000000000:=by rw [List.all_map];congr 1;funext y;simp
          rw [e9];exact q _ ((d.trans C).trans (af.upd n))
       ·have t:¬ ((xs.length:Nat):Int)=2:=by lia
        rw [Z_ (by rw [ZX t];exact O0)];rw [ZX n,Y7] at q;exact q _ d
   ·rw [ZX o];refine cG ?_;exact L (by unfold cJ;cases v with|str z=>exact ZV r o|_=>rfl)
  ·have e1:kindB k=false:=by
    cases k with
    | str z=>exact Bool.eq_false_iff.mpr λ e=>j ⟨z,rfl,e⟩
    | _=>rfl
   rw [e1];refine cG ?_;refine L ?_;cases k with
   | str a=>
    cases v with
    | str b=>
     unfold cJ formOf;dsimp only;cases h3:dQ.lookup (a,b) with
     | none=>rfl
     | some z=>exact ZV ⟨a,rfl,(Ei h3).1⟩ j
    | _=>rfl
   | _=>rfl
def i_ {a b:ZR} (h:formOf a b=0):cJ H (.str a) (.str b) x=decide (x=.non):=by unfold cJ;dsimp only;rw [h];rfl
def fQ {a b:ZR} (h:formOf a b=1):cJ H (.str a) (.str b) x=iU x 1000000000:=by unfold cJ;dsimp only;rw [h];rfl
def pC {a b:ZR} {xs:List V} (h:formOf a b=2) (e:cW H x=some xs):cJ H (.str a) (.str b) x=(decide (xs.length=2) && xs.all λ y=>iU y 1000000000):=by unfold cJ;dsimp only;rw [h,e];rfl
def yz:Sp:=λ vs H Q _=>∃st x,vs=[st,x]/\∀p,H p=none->Q (.ref p) (upd H p (.tup [st,st]))
def Kq (T:TX (kx w) mg):Fo P w mg base CX0 1 109 AQ ["state","worth"] yz:=by
 refine (CH w.params).ok Ni (λ b H Q E h=>?_) (λ d A c s H b Q E e h=>?_)
 ·obtain ⟨a,x,rfl,_⟩:=h;rfl
 ·obtain ⟨a,x,rfl,q⟩:=h;refine ⟨_,(aU (au (aD (ao (pv 0) (ao (pv 0) ae))))),?_⟩;exact ⟨_,rfl,_,rfl,cZ,q⟩
def zM:Sp:=λ vs H Q _=>∃st x,vs=[st,x]/\∀p,H p=none->Q (.ref p) (upd H p (.tup [x,.str "ok"]))
def RH (T:TX (kx w) mg):Fo P w mg base CX0 1 116 Ai ["state","worth"] zM:=by
 refine (yV w.params).ok PQ (λ b H Q E h=>?_) (λ d A c s H b Q E e h=>?_)
 ·obtain ⟨a,x,rfl,_⟩:=h;rfl
 ·obtain ⟨a,x,rfl,q⟩:=h;refine ⟨_,(aU (au (aD (ao (pv 1) (ao az ae))))),?_⟩;exact ⟨_,rfl,cZ,q⟩
def BY:Sp:=λ vs H Q _=>∃i j:Int,vs=[.int i,.int j]/\∀p,H p=none->Q (.ref p) (upd H p (.tup [.int (i + j),.int i]))
def Mx (T:TX (kx w) mg):Fo P w mg base CX0 1 123 AJ ["state","worth"] BY:=by
 refine (CY w.params).ok Jh (λ a H Q E h=>?_) (λ d A c s H a Q E e h=>?_)
 ·obtain ⟨b,x,rfl,_⟩:=h;rfl
 ·obtain ⟨i,j,rfl,q⟩:=h;refine ⟨_,(aU (au (aD (ao (aQ ei (pv 0) (pv 1)) (ao (pv 0) ae))))),?_⟩;exact ⟨_,rfl,_,rfl,.inl ⟨_,_,rfl,rfl,_,rfl,cZ,q⟩⟩
def BU (K:b0):Sp:=λ vs H Q _=>∃(i a b:Int) (t:ZS),vs=[.int i,.ref t]/\aH K H t [.int a,.int b]/\∀p,H p=none->Q (.ref p) (upd H p (.tup (if i=a then [.int b,.int 1] else [.int i,.int 0])))
def RJ (T:TX (kx w) mg):Fo P w mg base CX0 1 163 AS ["state","worth"] (BU (kx w)):=by
 refine (yw w.params).ok JF (λ d H Q E h=>?_) (λ g A f s H d Q E j h=>?_)
 ·obtain ⟨i,a,b,t,rfl,_⟩:=h;rfl
 ·obtain ⟨i,a,b,t,rfl,c,q⟩:=h;refine ⟨_,(aV (aN (cI bP (pv 0) (aq aj (pv 1) ag (λ _ _=>rfl)) (aC _))
   (aU (au (aD (ao (aq aj (pv 1) ag (λ _ _=>rfl)) (ao ag ae)))))
   dG)
   (aU (au (aD (ao (pv 0) (ao ag ae)))))),?_⟩
  refine ⟨_,rfl,_,rfl,.inr (.inl ⟨t,_,0,.int a,rfl,rfl,c,rfl,rfl,_,rfl,?_⟩)⟩;by_cases e:i=a
  ·subst e;rw [ZY rfl];simp only [if_true] at q;exact cG ⟨_,rfl,.inr (.inl ⟨t,_,1,.int b,rfl,rfl,c,rfl,cZ,q⟩)⟩
  ·rw [ZX (λ z=>e (by cases z;rfl))];simp only [Z_ e] at q;exact cF ⟨_,rfl,cZ,q⟩
def zG (K:b0):Sp:=λ vs H Q _=>∃(t:ZS) (ns:List V) (x:V),vs=[.ref t,x]/\aH K H t ns/\ns.length < 1000/\∀p p' H',af H H'->H' p=some (.tup [.ref p',.str "ok"])->aH K H' p' (ns++[x])->Q (.ref p) H'
def Nk (T:TX (kx w) mg):Fo P w mg base CX0 1 130 Cu ["state","worth"] (zG (kx w)):=by
 refine (yR w.params).ok OB (λ e H Q E h=>?_) (λ p A r s H e Q E n h=>?_)
 ·obtain ⟨t,c,x,rfl,_⟩:=h;rfl
 ·obtain ⟨t,c,x,rfl,m,i,q⟩:=h;refine ⟨_,(aU (au (aD (ao (aQ eP (pv 0) (aD (ao (pv 1) ae))) (ao az ae))))),?_⟩;refine ⟨_,rfl,_,rfl,lC,λ g k=>?_⟩;have b:=af.upd (o:=.tup [x]) k;refine ⟨t,g,c,[x],rfl,rfl,b.seqT m,aH.of ab,by simp,D0 (Nat.add_le_add_right (T3 i) _) (show 1000 + 1<=ZF by decide),λ l u j d=>?_⟩;refine ⟨cZ,λ f a=>?_⟩;exact q f l _ ((b.trans j).trans (af.upd a)) ab ((af.upd a).seqT d)
def Bt (K:b0):Sp:=λ vs H Q _=>∃(t:ZS) (ns:List V) (x:V),vs=[.ref t,x]/\aH K H t ns/\
 (ns=[]->∀p H',af H H'->H' p=some (.tup [.ref t,.str "none"])->Q (.ref p) H')/\(∀n r,ns=n :: r->∀p p' H',af H H'->H' p=some (.tup [.ref p',n])->aH K H' p' r->Q (.ref p) H')
theorem RK (T:TX (kx w) mg):Fo P w mg base CX0 1 137 zN ["state","worth"] (Bt (kx w)):=by
 refine (Bb w.params).ok ML (λ f H Q E h=>?_) (λ v A y s H f Q E u h=>?_)
 ·obtain ⟨t,b,x,rfl,_⟩:=h;rfl
 ·obtain ⟨t,b,x,rfl,a,l,e⟩:=h;refine ⟨_,(aV (aN (cI bP (fD jG rfl (T.no (dE _)) S4 (ao (pv 0) ae)) ag (aC _))
   (aU (au (aD (ao (pv 0) (ao az ae)))))
   dG)
   (aU (au (aD (ao (nD fP (pv 0) (kZ ag) nE) (ao (aq aj (pv 0) ag (λ _ _=>rfl)) ae)))))),?_⟩
  refine ⟨_,rfl,.inl ⟨t,b,rfl,.inr a,rfl,_,rfl,?_⟩⟩;cases b with
  | nil=>exact cG ⟨_,rfl,cZ,λ p i=>l rfl p _ (af.upd i) ab⟩
  | cons n r=>
   rw [ZX (show ¬ V.int (((n :: r).length:Nat):Int)=V.int 0 from λ z=>by injection z with z;rw [P0] at z;lia)];refine cF ⟨_,rfl,_,rfl,.inr (.inl ⟨t,_,rfl,a,?_,λ k m=>?_⟩)⟩
   ·intro z;have:HT.sIx (n :: r).length 0 (some 1)=1:=by rw [P0];simp [HT.sIx]
    lia
   ·have d:=af.upd (o:=.tup (bY (n :: r) (some 1) none)) m;have g:bY (n :: r) (some 1) none=r:=by unfold bY;simp [HT.sIx]
    refine ⟨_,rfl,.inr (.inl ⟨t,_,0,n,rfl,rfl,d.seqT a,bG (j:=0) rfl,cZ,λ q c=>?_⟩)⟩;refine e n r rfl q k _ (d.trans (af.upd c)) ab ((af.upd c).seqT (aH.of ?_));rw [ab,g]
def mG (i j:Int):decide (V.int i=V.int j)=decide (i=j):=by simp
theorem w_ {q:Int->Bool} :∀(ns:List Int) (ys:List V),av (λ (i:Nat) y=>ns[i]?.map V.int=some y) ((B1 ns.length).filter λ i=>(ns[i]?.map q).getD false) ys->ys=(ns.filter q).map V.int
 | [],ys,h=>by cases h;rfl
 | n :: ns,ys,h=>by
  have un :∀{is:List Nat} {ys:List V},av (λ (i:Nat) y=>(n :: ns)[i]?.map V.int=some y) (is.map Nat.succ) ys->av (λ (i:Nat) y=>ns[i]?.map V.int=some y) is ys:=λ {is}=>by
   induction is with
   | nil=>intro ys h;cases h;exact .nil
   | cons i is ih=>intro ys h;cases h with|cons a r=>exact .cons a (ih r)
  rw [P0,List.range_succ_eq_map,Y4,j29] at h;rw [Y4];by_cases z:q n=true
  ·rw [ZZ (show (j07 q (n :: ns)[0]?).getD false=true from z)] at h;rw [ZZ z,C1];cases h with
   | cons a r=>rw [<-w_ ns _ (un r),<-A1 a]
  ·rw [Z_ (show ¬ (j07 q (n :: ns)[0]?).getD false=true from z)] at h;rw [Z_ z];exact w_ ns _ (un h)
def CW (K:b0):Sp:=λ vs H Q _=>∃(t:ZS) (ns:List Int) (i:Int),vs=[.ref t,.int i]/\aH K H t (ns.map V.int)/\ns.length < 63/\
 (i∈ns->∀p H',af H H'->H' p=some (.tup [.ref t,.int 0])->Q (.ref p) H')/\(i∉ns->∀(p p':ZS) (ns':List Int) (H':Hp),af H H'->H' p=some (.tup [.ref p',.int 1])->aH K H' p' (ns'.map V.int)->ns'.Perm (ns++[i])->ns'.Pairwise (·<=·)->Q (.ref p) H')
def Lh (T:TX (kx w) mg):Fo P w mg base CX0 1 144 BS ["state","worth"] (CW (kx w)):=by
 refine (A_ w.params).ok Kl (λ m H Q E h=>?_) (λ I A J s H m Q E G h=>?_)
 ·obtain ⟨t,a,i,rfl,_⟩:=h;rfl
 ·obtain ⟨t,a,i,rfl,g,f,z,k⟩:=h;refine ⟨_,(aV (aN (cI oO (pv 1) (pv 0) (by with_unfolding_all rfl))
   (aU (au (aD (ao (pv 0) (ao ag ae)))))
   dG)
   (aU (au (aD (ao (kK nh rfl (T.no (lq _)) G4 (ao (fD yo rfl (T.no (sW _)) Y8 (ao (aQ eP (pv 0) (aD (ao (pv 1) ae))) ae)) ae)) (ao ag ae)))))),?_⟩
  refine ⟨_,rfl,_,rfl,t,_,rfl,.inr g,rfl,tD a,_,rfl,?_⟩;rw [Z_ O0,sM];by_cases hi:i∈a
  ·rw [ZY hi];exact cG ⟨_,rfl,cZ,λ p n=>z hi p _ (af.upd n) ab⟩
  ·rw [ZX hi];refine cF ⟨_,rfl,_,rfl,lC,λ v C=>?_⟩;have e:=af.upd (o:=.tup [.int i]) C;refine ⟨t,v,a.map V.int,[.int i],rfl,rfl,e.seqT g,aH.of ab,by simp,?_,λ D K B c=>?_⟩
   ·rw [C0];exact D0 (Nat.succ_le_of_lt (K2 f)) (by decide)
   rw [show a.map V.int++[V.int i]=(a++[i]).map V.int by rw [u1];rfl] at c;refine ⟨D,a++[i],rfl,.inr c,by rw [G0];exact Nat.succ_lt_succ f,λ l d q r j=>?_⟩;have y:=af.upd (o:=.lst (d.map V.int)) q;refine ⟨l,_,rfl,.inl ⟨aK.of ab,λ u x=>⟨cZ,λ F b=>?_⟩⟩⟩;exact k hi F u d _ ((((e.trans B).trans y).trans (af.upd x)).trans (af.upd b)) ab (aH.of ((af.upd b) _ _ ab)) r j
def yY (K:b0):Sp:=λ vs H Q _=>∃(t:ZS) (ns:List Int) (i:Int),vs=[.ref t,.int i]/\aH K H t (ns.map V.int)/\ns.length < 64/\
 (i∉ns->∀p H',af H H'->H' p=some (.tup [.ref t,.int 0])->Q (.ref p) H')/\(i∈ns->∀p p' H',af H H'->H' p=some (.tup [.ref p',.int 1])->aH K H' p' ((ns.filter λ j=>!decide (j=i)).map V.int)->Q (.ref p) H')
def LA (T:TX (kx w) mg):Fo P w mg base CX0 1 149 Cz ["state","worth"] (yY (kx w)):=by
 refine (Ah w.params).ok Kv (λ B H Q E h=>?_) (λ X A Y s H B Q E W h=>?_)
 ·obtain ⟨t,b,i,rfl,_⟩:=h;rfl
 ·obtain ⟨t,b,i,rfl,m,O,M,x⟩:=h;refine ⟨_,(aV (aN (cI sJ (pv 1) (pv 0) (by with_unfolding_all rfl))
   (aU (au (aD (ao (pv 0) (ao ag ae)))))
   dG)
   (aU (au (aD (ao (kK nh rfl (T.no (lq _)) G4 (ao (dS (xs:=["held"]) (g:=bh 0) (fr:=[(1,"worth")]) (eF (pv 0)) (λ _ _ _ _ _=>(bK (N:=["held","worth"]) 0)) (λ _ _ _ _ _=>(eO (cI nO (pv 0) (pv 1) (aC _)))) (λ _ _ _ _ _=>(pv 0))) ae)) (ao ag ae)))))),?_⟩
  refine ⟨_,rfl,_,rfl,t,_,rfl,.inr m,rfl,tD b,_,rfl,?_⟩;rw [ZZ rfl,sM];by_cases hi:i∈b
  ·rw [ZY hi];refine cF ?_;have r:(b.map V.int).length<=ZF:=by rw [C0];exact D0 (T3 O) (by decide)
   refine rH ?_;simp only [kX,kY,nA,dD,gi];refine tf (K:=KX w.params) (a:=t) (xs:=b.map V.int) (H1:=H) (λ j=>(b[j]?.map λ n=>!decide (n=i)).getD false) (λ j y _=>b[j]?.map V.int=some y) (λ _ _ _ _ _ z=>z) (λ R h=>⟨_,rfl,h⟩) m r (λ j U v u e k KT Z d f=>?_) λ l u C e F q=>?_
   ·rw [M0] at k;obtain ⟨n,I,rfl⟩:=Option.map_eq_some_iff.mp k;rw [I] at d f;refine ⟨[some (.int n)],rfl,rfl,_,rfl,_,rfl,rfl,_,rfl,?_⟩;rw [mG];exact gm (λ z=>⟨_,rfl,d z _ _ (af.refl _) rfl⟩) λ z=>f (Bool.eq_false_iff.mpr z) _ (af.refl _)
   ·rw [C0] at q;rw [w_ b C q];have L:=af.upd (o:=.lst ((b.filter λ j=>!decide (j=i)).map V.int)) F;refine ⟨l,_,rfl,.inl ⟨aK.of ab,λ G J=>⟨cZ,λ S c=>?_⟩⟩⟩;exact x hi S G _ (((e.trans L).trans (af.upd J)).trans (af.upd c)) ab (aH.of ((af.upd c) _ _ ab))
  ·rw [ZX hi];exact cG ⟨_,rfl,cZ,λ p D=>M hi p _ (af.upd D) ab⟩
def yN (K:b0):Sp:=λ vs H Q _=>∃(t:ZS) (ns:List Int) (i:Int),vs=[.ref t,.int i]/\aH K H t (ns.map V.int)/\∀p H',af H H'->H' p=some (.tup [.ref t,.int (if i∈ns then 1 else 0)])->Q (.ref p) H'
def Rk (T:TX (kx w) mg):Fo P w mg base CX0 1 156 Ao ["state","worth"] (yN (kx w)):=by
 refine (Bg w.params).ok Lz (λ d H Q E h=>?_) (λ f A e s H d Q E g h=>?_)
 ·obtain ⟨t,b,i,rfl,_⟩:=h;rfl
 ·obtain ⟨t,b,i,rfl,c,q⟩:=h;refine ⟨_,(aU (au (aD (ao (pv 0) (ao (Ka (cI oO (pv 1) (pv 0) (by with_unfolding_all rfl)) ag ag) ae))))),?_⟩;refine ⟨_,rfl,_,rfl,_,rfl,t,_,rfl,.inr c,rfl,tD b,_,rfl,?_⟩;rw [Z_ O0,sM];by_cases hi:i∈b
  ·rw [ZZ hi] at q;rw [ZY hi];exact cG ⟨cZ,λ p a=>q p _ (af.upd a) ab⟩
  ·rw [Z_ hi] at q;rw [ZX hi];exact cF ⟨cZ,λ p a=>q p _ (af.upd a) ab⟩
def pU (K:b0) (f:ZS) (sp:Sp):Prop:=(f=109/\sp=yz)\/(f=116/\sp=zM)\/(f=123/\sp=BY)\/(f=130/\sp=zG K)\/(f=137/\sp=Bt K)\/(f=144/\sp=CW K)\/(f=149/\sp=yY K)\/(f=156/\sp=yN K)\/(f=163/\sp=BU K)
def eS {x:ZR} {ps:List ZR} {k f:Nat} {sp:Sp} (c:xq P w K mg base x ps k sp) (e:mg x=some (.ref f)) :∃fd ps,fI P w K mg base CX0 k f fd ps sp/\Q3 K (.ref f)=true/\Binds K fd ps []:=by obtain ⟨h,fd,b,a,d,g⟩:=c.ex;rw [e] at a;cases a;exact ⟨fd,ps,b,d,g⟩
def mJ (K:b0):Sp:=λ vs H Q _=>∃(k v:ZR) (st x:V) (f:ZS) (sp:Sp) (Tx:String),vs=[.str k,st,.str v,x]/\bz H x Tx/\Flat H x/\cJ H (.str k) (.str v) x=true/\dQ.lookup (k,v)=some (.ref f)/\pU K f sp/\∀H',af H H'->sp [st,x] H' Q E0
def we (T:TX (kx w) mg) (c0:Ca P w mg base "is_deed" ["kind","verb","worth"] 4 Fv) (c1:Ca P w mg base "read_state" ["state","worth"] 1 yz) (c2:Ca P w mg base "write_state" ["state","worth"] 1 zM) (c3:Ca P w mg base "add_to_number" ["state","worth"] 1 BY) (c4:Ca P w mg base "put_behind" ["state","worth"] 1 (zG (kx w))) (c5:Ca P w mg base "take_first" ["state","worth"] 1 (Bt (kx w))) (c6:Ca P w mg base "put_into_set" ["state","worth"] 1 (CW (kx w))) (c7:Ca P w mg base "cut_from_set" ["state","worth"] 1 (yY (kx w))) (c8:Ca P w mg base "has_in_set" ["state","worth"] 1 (yN (kx w))) (c9:Ca P w mg base "swap_state" ["state","worth"] 1 (BU (kx w))):Fo P w mg base CX0 5 202 zE ["kind","state","verb","worth"] (mJ (kx w)):=by
 refine (qG w.params).ok oN (λ o H Q E h=>?_) (λ y A I s H o Q E g h=>?_)
 ·obtain ⟨k,v,u,x,f,j,l,rfl,_⟩:=h;rfl
 ·obtain ⟨k,v,u,x,f,j,l,rfl,m,C,n,D,r,q⟩:=h;have G :∀f j,pU (kx w) f j->∃k b a,Fo P w mg base CX0 k f b a j/\bQ k (A.deeper (Y9 "do" (ck BW) s.heap.objs.size 202 y))/\Q3 (kx w) (.ref f)=true/\Binds (kx w) b a []:=λ f j z=>by
   rcases z with ⟨rfl,rfl⟩|⟨rfl,rfl⟩|⟨rfl,rfl⟩|⟨rfl,rfl⟩|⟨rfl,rfl⟩|⟨rfl,rfl⟩|⟨rfl,rfl⟩|⟨rfl,rfl⟩|⟨rfl,rfl⟩
   ·obtain ⟨b,a,e,c,d⟩:=eS c1 (T.of (Hy _));exact ⟨1,b,a,e,g.mono (by decide),c,d⟩
   ·obtain ⟨b,a,e,c,d⟩:=eS c2 (T.of (Ge _));exact ⟨1,b,a,e,g.mono (by decide),c,d⟩
   ·obtain ⟨b,a,e,c,d⟩:=eS c3 (T.of (HM _));exact ⟨1,b,a,e,g.mono (by decide),c,d⟩
   ·obtain ⟨b,a,e,c,d⟩:=eS c4 (T.of (Ek _));exact ⟨1,b,a,e,g.mono (by decide),c,d⟩
   ·obtain ⟨b,a,e,c,d⟩:=eS c5 (T.of (GP _));exact ⟨1,b,a,e,g.mono (by decide),c,d⟩
   ·obtain ⟨b,a,e,c,d⟩:=eS c6 (T.of (GF _));exact ⟨1,b,a,e,g.mono (by decide),c,d⟩
   ·obtain ⟨b,a,e,c,d⟩:=eS c7 (T.of (DN _));exact ⟨1,b,a,e,g.mono (by decide),c,d⟩
   ·obtain ⟨b,a,e,c,d⟩:=eS c8 (T.of (HH _));exact ⟨1,b,a,e,g.mono (by decide),c,d⟩
   ·obtain ⟨b,a,e,c,d⟩:=eS c9 (T.of (ER _));exact ⟨1,b,a,e,g.mono (by decide),c,d⟩
  refine ⟨_,(aV (aN (gs (cA (aB c0 (g.mono (by decide)) rfl (ao (pv 0) (ao (pv 2) (ao (pv 3) ae)))) (λ _=>rfl)))
   (aU wW)
   dG)
   (aV (aA (i:=4) oN.nd rfl (Y0 rfl) (aq (qr (cQ g) (DE _)) (qj (v:=.ref 164) rfl (T.of (HJ _)) rfl) (aD (ao (pv 0) (ao (pv 2) ae))) (λ _ _=>rfl)))
   (aU (au (Qw (pU (kx w)) (i:=4) rfl (by first|exact Y0 rfl|exact X0 (Y0 rfl)) G (ao (pv 1) (ao (pv 3) ae))))))),?_⟩
  refine ⟨_,rfl,_,rfl,_,rfl,.str k,.str v,x,"str","str",l,rfl,rfl,rfl,m,C,λ F B=>⟨_,rfl,?_⟩⟩;rw [n];refine cF ?_;refine ⟨_,rfl,_,rfl,cZ,λ p t=>⟨p,k,v,.ref f,rfl,rfl,ab,D,?_⟩⟩;exact ⟨f,j,rfl,r,_,rfl,_,rfl,q _ (B.trans (af.upd t))⟩
def HD:Sp:=λ vs H Q _=>∃(k:ZR) (v:V),vs=[.str k]/\bq.lookup k=some v/\Q v H
def JI (T:TX (kx w) mg) (c0:Ca P w mg base "is_kind" ["kind"] 1 Cn):Fo P w mg base CX0 2 190 Bx ["kind"] HD:=by
 refine (CB w.params).ok LP (λ c H Q E h=>?_) (λ f A d s H c Q E b h=>?_)
 ·obtain ⟨k,v,rfl,_⟩:=h;rfl
 ·obtain ⟨k,v,rfl,a,q⟩:=h;refine ⟨_,(aV (aN (gs (cA (aB c0 (b.mono (by decide)) rfl (ao (pv 0) ae)) (λ _=>rfl)))
   (aU wW)
   dG)
   (aU (au (aq (oJ (Iz _)) (qj (v:=.ref 99) rfl (T.of (IP _)) rfl) (pv 0) (λ _ _=>rfl))))),?_⟩
  refine ⟨_,rfl,.str k,"str",rfl,rfl,_,rfl,?_⟩;have e:kindB (.str k)=true:=by unfold kindB;dsimp only;rw [a];rfl
  rw [e];exact cF ⟨_,rfl,k,v,rfl,rfl,a,q⟩
inductive Ev
 | beg (h:Int) (n v x:V)
 | fin (h:Int) (a:V)
noncomputable def fm (K:b0) (H:Hp):Ev->V->Prop
 | .beg h n v x,y=>∃p,y=.ref p/\aH K H p [.str "begin",.int h,n,v,x]
 | .fin h a,y=>∃p,y=.ref p/\aH K H p [.str "end",.int h,a]
structure Rc where
 h:Int
 n:V
 v:V
 x:V
 a:V
 b:Nat
 e:Option Nat
noncomputable def cX:Option Nat->V
 | none=>.non
 | some i=>.int i
def RcAt (K:b0) (H:Hp) (r:Rc) (y:V):Prop:=∃p,y=.ref p/\aH K H p [.int r.h,r.n,r.v,r.x,r.a,.int r.b,cX r.e]
def bA (K:b0) (H H':Hp):Prop:=∀a xs,aH K H a xs->aH K H' a xs
def bA.of (s:af H H'):bA K H H':=λ _ _ q=>s.seqT q
def bA.trans (a:bA K H H1) (b:bA K H1 H2):bA K H H2:=λ _ _ q=>b _ _ (a _ _ q)
def bA.lst {zs:List V} (e:H l=some (.lst zs)):bA K H (upd H l o):=λ _ _ q=>q.wrote e
def bA.dict (e:H l=some (.dK kvs)):bA K H (upd H l o):=λ a b h=>by
 rcases h with (h|⟨ob,h⟩)|h
 ·exact .inl (.inl (by rw [ak (iy h e (by intro z;cases z))];exact h))
 ·exact .inl (.inr ⟨ob,by rw [ak (iy h e (by intro z;cases z))];exact h⟩)
 ·exact .inr h
theorem LQ (h:j < n):nZ n (j:Nat)=some j:=by unfold nZ;rw [ZZ (by lia),ZZ (by lia)];rfl
def af.keep (s:af H H') (n:H l=none):af H (upd H' l o):=λ a x e=>by rw [ak (fM e n)];exact s a x e
theorem lJ {α β:Type} {R:α->β->Prop} {x:α} {y:β} :∀{xs:List α} {ys:List β},av R xs ys->R x y->av R (xs++[x]) (ys++[y])
 | _,_,.nil,h=>.cons h .nil
 | _,_,.cons a r,h=>.cons a (lJ r h)
theorem GK {κ:Type} [DecidableEq κ] {kvs:List (κ×V)} {k:κ} :(putK kvs k v).length<=kvs.length + 1:=by
 unfold putK;by_cases z:(kvs.any λ a=>decide (a.1=k))=true
 ·rw [ZZ z,C0];lia
 ·rw [Z_ z,G0];exact u0 _
noncomputable def bD (h:Int) (hs:List Int):Option Nat:=(hs.foldl (λ (acc:Nat×Option Nat) k=>(acc.1 + 1,if k=h then some acc.1 else acc.2)) (0,none)).2
theorem uS (h:Int) :∀hs:List Int,(hs.foldl (λ (acc:Nat×Option Nat) k=>(acc.1 + 1,if k=h then some acc.1 else acc.2)) (0,none)).1=hs.length:=by
 have b :∀(hs:List Int) (a:Nat×Option Nat),(hs.foldl (λ (acc:Nat×Option Nat) k=>(acc.1 + 1,if k=h then some acc.1 else acc.2)) a).1=a.1 + hs.length:=by
  intro hs;induction hs with
  | nil=>intro a;rfl
  | cons k hs ih=>intro a;rw [j28,ih,P0];show a.1 + 1 + hs.length=_;lia
 intro hs;rw [b hs (0,none)];simp
def tJ (h k:Int) (hs:List Int):bD h (hs++[k])=if k=h then some hs.length else bD h hs:=by unfold bD;rw [j19];show (if k=h then some _ else _)=_;rw [uS]
theorem pM (e:bD h hs=some j):j < hs.length:=by
 have c :∀(hs:List Int) (a:Nat×Option Nat),(∀j,a.2=some j->j < a.1)->∀j,(hs.foldl (λ (acc:Nat×Option Nat) k=>(acc.1 + 1,if k=h then some acc.1 else acc.2)) a).2=some j->j < a.1 + hs.length:=by
  intro hs;induction hs with
  | nil=>intro a b j e;exact b j e
  | cons k hs ih=>
   intro a b j e;rw [j28] at e;have:=ih (a.1 + 1,if k=h then some a.1 else a.2) (λ j e=>by
    dsimp only at e⊢;by_cases z:k=h
    ·rw [ZZ z] at e;cases e;lia
    ·rw [Z_ z] at e;have:=b j e;lia) j e
   rw [P0];dsimp only at this
   lia
 have:=c hs (0,none) (λ j e=>by cases e) j e;simpa using this
noncomputable def aE (i:Nat) (rs:List Rc):Ev->List Rc
 | .beg h n v x=>rs++[⟨h,n,v,x,.non,i,none⟩]
 | .fin h a=>match bD h (rs.map Rc.h) with|some j=>rs.modify j (λ r=>{ r with a:=a,e:=some i })|none=>rs
noncomputable def aI:Nat->List Rc->List Ev->List Rc
 | _,rs,[]=>rs
 | i,rs,e :: es=>aI (i + 1) (aE i rs e) es
noncomputable def oZ:Nat->List Rc->List Ev->Prop
 | _,_,[]=>True
 | i,rs,e :: es=>(∀h a,e=.fin h a->(bD h (rs.map Rc.h)).isSome=true)/\oZ (i + 1) (aE i rs e) es
def RcAt.tups {r:Rc} (t:bA K H H') (h:RcAt K H r y):RcAt K H' r y:=h.elim λ p z=>⟨p,z.1,t _ _ z.2⟩
theorem fm.tups (t:bA K H H') :∀{e:Ev} {y:V},fm K H e y->fm K H' e y
 | .beg h n v x,_,z=>z.elim λ p z=>⟨p,z.1,t _ _ z.2⟩
 | .fin h a,_,z=>z.elim λ p z=>⟨p,z.1,t _ _ z.2⟩
theorem Gd {α β:Type} {R:α->β->Prop} {f:α->α} {y:β} :∀{xs:List α} {ys:List β} {j:Nat} {x:α},av R xs ys->xs[j]? = some x->R (f x) y->av R (xs.modify j f) (ys.set j y)
 | _,_,_,_,.nil,e,_=>by simp at e
 | _,_,0,x,.cons a r,e,h=>by rw [d3] at e;cases e;exact .cons h r
 | _,_,j + 1,x,.cons a r,e,h=>by rw [G2] at e;exact .cons a (Gd r e h)
theorem ik {α β:Type} {R:α->β->Prop} :∀{xs:List α} {ys:List β} {i:Nat} {x:α},av R xs ys->xs[i]? = some x->∃y,ys[i]? = some y/\R x y
 | _,_,i,x,.nil,e=>by simp at e
 | _,_,0,x,.cons a _,e=>by rw [d3] at e;cases e;exact ⟨_,d3,a⟩
 | _,_,i + 1,x,.cons _ r,e=>by rw [G2] at e;obtain ⟨y,c,b⟩:=ik r e;exact ⟨y,by rw [G2];exact c,b⟩
def xI (K:b0):Sp:=λ vs H Q _=>∃(t te:ZS) (th:V) (ys:List V) (es:List Ev),vs=[.ref t]/\aH K H t [th,.ref te]/\aH K H te ys/\av (fm K H) es ys/\es.length<=100/\oZ 0 [] es/\
 ∀l zs H',af H H'->H l=none->H' l=some (.lst zs)->av (RcAt K H') (aI 0 [] es) zs->Q (.ref l) H'
theorem QH (T:TX (kx w) mg):Fo P w mg base CX0 1 209 Cj ["tale"] (xI (kx w)):=by
 refine (Cf w.params).ok dZ (λ vs H Q E h=>?_) (λ c4 A c5 s H vs Q E hr h=>?_)
 ·obtain ⟨t,te,th,ys,C,rfl,_⟩:=h;rfl
 ·obtain ⟨t,te,th,ys,C,rfl,st,se,al,hl,wf,q⟩:=h;refine ⟨_,(aV (aA (i:=1) dZ.nd rfl (Y0 rfl) (aY ae))
   (aV (aA (i:=2) dZ.nd rfl (Y0 rfl) yq)
   (aV (bO U1 rfl (Ds rfl (T.no (tG _)) (ao (aq aj (pv 0) ag (λ _ _=>rfl)) ae)) (bH rfl (eJ (eY (i:=3) dZ.nd rfl (Y0 rfl)) (eJ (eY (i:=4) dZ.nd rfl (Y0 rfl)) iq)))
   (aU (aN (cI bP (aq aj (pv 4) ag (λ _ _=>rfl)) az (aC _))
   (aV (xf (cQ hr) (pv 2) (aq aj (pv 4) ag (λ _ _=>rfl)) (fD jG rfl (T.no (dE _)) S4 (ao (pv 1) ae)) rfl)
   (aU (lr (nC (pv 1) (ao (aQ ei (nD fP (pv 4) (kZ ag) nE) (aD (ao bx (ao (pv 3) (ao bx ae))))) ae)))))
   (aV (aA (i:=5) dZ.nd rfl (Y0 rfl) (qC (cQ hr) (pv 2) (aq aj (pv 4) ag (λ _ _=>rfl)) (λ _ _=>rfl)))
   (aV (aA (i:=6) dZ.nd rfl (Y0 rfl) (aq aj (pv 1) (pv 5) (λ _ _=>rfl)))
   (aU (eG (aQ ei (nD fP (pv 6) nE (kZ ag)) (aD (ao (aq aj (pv 4) ag (λ _ _=>rfl)) (ao (aq aj (pv 6) ag (λ _ _=>rfl)) (ao (pv 3) ae))))) (gu (pv 1) (pv 5) sP))))))))
   (aU (au (pv 1)))))),?_⟩
  refine ⟨jk,λ l a0=>?_⟩;intro d a1;have R:l≠d:=fM ab a1;have s0:upd H l (.lst []) d=none->H d=none:=λ z=>by rwa [ak R.symm] at z
  have s2:af H (upd (upd H l (.lst [])) d (.dK [])):=(af.upd a0).trans (af.upd a1);have e1:upd (upd H l (.lst [])) d (.dK []) l=some (.lst []):=by rw [ak R];exact ab
  have e2:upd (upd H l (.lst [])) d (.dK []) d=some (.dK []):=ab;generalize upd (upd H l (.lst [])) d (.dK [])=H2 at s2 e1 e2⊢;have b8:=cH al;refine ⟨_,rfl,.inr (.inl ⟨t,_,1,.ref te,rfl,rfl,s2.seqT st,bG (j:=1) rfl,te,ys,rfl,s2.seqT se,?_⟩)⟩;refine MW (K:=KX w.params) (a:=te) (xs:=ys) (λ i σ S=>∃c f g,S l=some (.lst f)/\av (RcAt (kx w) S) c f/\S d=some (.dK g)/\g.length<=i/\c.length<=i/\(∀h,bJ g (.inl h)=(bD h (c.map Rc.h)).map λ j=>V.int (j:Nat))/\aI i c (C.drop i)=aI 0 [] C/\oZ i c (C.drop i)/\af H S/\∃x3 x4 x5 x6,σ=[some (.ref t),some (.ref l),some (.ref d),x3,x4,x5,x6])
   ⟨[],[],[],e1,.nil,e2,u0 _,u0 _,λ h=>rfl,by rw [N6],by rw [N6];exact wf,s2,_,_,_,_,rfl⟩ (λ i σ S h=>?_) ?_ ?_
  ·obtain ⟨c,f,g,_,_,_,_,_,_,_,_,s',_⟩:=h;exact s'.seqT se
  ·intro i y σ H3 p hy z0 hp;refine me λ _ L=>?_;obtain ⟨c,f,g,el,ar,ed,hk,a6,hv,F,dw,s3,x3,x4,x5,x6,rfl⟩:=z0;refine L ?_;clear L;obtain ⟨e,he,ev⟩:=fF al hy;obtain ⟨hi,ee⟩:=List.getElem?_eq_some_iff.mp he;have dr:C.drop i=e :: C.drop (i + 1):=by rw [U3 hi,ee]
   rw [dr] at F dw;have s4:=s3.trans (af.upd (o:=.tup [.int i,y]) hp);have M:=(af.upd (o:=.tup [.int i,y]) hp) _ _ el;have U:=(af.upd (o:=.tup [.int i,y]) hp) _ _ ed;have O:=bI (λ a b z=>RcAt.tups (.of (af.upd (o:=.tup [.int i,y]) hp)) z) ar;have b2:upd H3 p (.tup [.int i,y]) p=some (.tup [.int i,y]):=ab;generalize upd H3 p (.tup [.int i,y])=H4 at s4 M U O b2⊢;have a8:=fm.tups (.of s4) ev;refine ⟨p,_,rfl,aH.of b2,rfl,.int i,_,rfl,y,_,rfl,rfl,?_⟩;have lz:f.length=c.length:=cH O;have b4:100<=ZF:=by decide
   have b5:i < 100:=J1 hi hl;cases e with
   | beg h n v x=>
    obtain ⟨I,rfl,J⟩:=a8;refine ⟨_,rfl,.inr (.inl ⟨I,_,0,.str "begin",rfl,rfl,J,bG (j:=0) rfl,rfl,_,rfl,bw (ZY rfl) ?_⟩)⟩;refine ⟨_,rfl,.inl ⟨l,f,rfl,.inl (aK.of M),⟨_,rfl,⟨_,rfl,.inr (.inl ⟨I,_,1,.int h,rfl,rfl,J,bG (j:=1) rfl,d,_,rfl,hZ.k (k:=.inl h) U (T1 hk (J1 b5 b4)),?_⟩)⟩⟩⟩⟩;have c3:H d=none:=s0 a1;have t5:bA (kx w) H4 (upd H4 d (.dK (putK g (.inl h) (.int (f.length:Nat))))):=bA.dict U;have s5:=af.keep (o:=.dK (putK g (.inl h) (.int (f.length:Nat)))) s4 c3;have a2:upd H4 d (.dK (putK g (.inl h) (.int (f.length:Nat)))) l=some (.lst f):=by rw [ak R];exact M
    have b1:upd H4 d (.dK (putK g (.inl h) (.int (f.length:Nat)))) d=some (.dK (putK g (.inl h) (.int (f.length:Nat)))):=ab;generalize upd H4 d (.dK (putK g (.inl h) (.int (f.length:Nat))))=H5 at t5 s5 a2 b1⊢;have b6:=t5 _ _ J;have c0:=bI (λ a b z=>RcAt.tups t5 z) O;refine ⟨_,rfl,.inl ⟨rfl,f,aK.of a2⟩,⟨_,rfl,1,rfl,.inr (.inl ⟨I,_,rfl,b6,λ z=>ZV z.1 (show ¬ HT.sIx 5 0 (some 1)=0 by decide),λ D W=>?_⟩)⟩⟩;have c1:bY [V.str "begin",.int h,n,v,x] (some 1) none=[.int h,n,v,x]:=rfl;rw [c1];refine ⟨_,rfl,nL,λ G N=>.inr (.inr (.inr ⟨D,G,_,_,rfl,rfl,(af.upd N).seqT (aH.of ab),aH.of ab,by simp,xw,λ z=>(by cases z),λ _ u a4=>?_⟩))⟩;have B:af H5 (upd (upd (upd H5 D (.tup [.int h,n,v,x])) G (.tup [.non,.int i,.non])) u (.tup ([.int h,n,v,x]++[.non,.int i,.non]))):=((af.upd W).trans (af.upd N)).trans (af.upd a4);have Y:upd (upd (upd H5 D (.tup [.int h,n,v,x])) G (.tup [.non,.int i,.non])) u (.tup ([.int h,n,v,x]++[.non,.int i,.non])) u=some (.tup ([.int h,n,v,x]++[.non,.int i,.non])):=ab;generalize upd (upd (upd H5 D (.tup [.int h,n,v,x])) G (.tup [.non,.int i,.non])) u (.tup ([.int h,n,v,x]++[.non,.int i,.non]))=H6 at B Y⊢;have X:=B _ _ a2;have a5:=B _ _ b1;have a3:=bI (λ a b z=>RcAt.tups (.of B) z) c0;have Z:bA (kx w) H6 (upd H6 l (.lst (f++[.ref u]))):=bA.lst X;refine ⟨l,f,_,rfl,rfl,X,T1 (D0 (m6 lz) a6) (J1 b5 b4),?_⟩;refine ⟨c++[⟨h,n,v,x,.non,i,none⟩],f++[.ref u],putK g (.inl h) (.int (f.length:Nat)),ab,?_,?_,?_,?_,?_,(show aI (i + 1) (aE i c (.beg h n v x)) _=_ from F),dw.2,af.keep (s5.trans B) a0,_,_,_,_,rfl⟩
    ·exact lJ (bI (λ a b z=>RcAt.tups Z z) a3) ⟨u,rfl,Z _ _ (aH.of Y)⟩
    ·rw [ak R.symm];exact a5
    ·exact D0 GK (by lia)
    ·rw [G0];show c.length + 1<=i + 1;lia
    ·intro k;rw [rX,u1];show _=j07 _ (bD k (c.map Rc.h++[h]));rw [tJ,hv k,C0,lz];by_cases z:h=k
     ·rw [ZZ z,ZZ (by rw [z])];rfl
     ·rw [Z_ z,Z_ (λ y=>z (o9 y).symm)]
   | fin h a=>
    obtain ⟨I,rfl,J⟩:=a8;obtain ⟨j,hj⟩:=Option.isSome_iff_exists.mp (dw.1 h a rfl);have b9:bJ g (.inl h)=some (.int (j:Nat)):=by rw [hv h,hj];rfl
    have b0:j < c.length:=by have:=pM hj;rwa [C0] at this
    have a7:c[j]? = some c[j]:=B0 b0;obtain ⟨yj,c2,pj,rfl,sj⟩:=ik O a7;have b7:d_ H4 d (.int h) (some (.int (j:Nat))):=b9 ▸ d_.k (k:=.inl h) U;refine ⟨_,rfl,.inr (.inl ⟨I,_,0,.str "end",rfl,rfl,J,bG (j:=0) rfl,rfl,_,rfl,bE ?_⟩)⟩;refine ⟨_,rfl,⟨_,rfl,.inr (.inl ⟨I,_,1,.int h,rfl,rfl,J,bG (j:=1) rfl,d,_,rfl,b7,?_⟩)⟩⟩;refine ⟨_,rfl,_,rfl,.inl ⟨l,f,j,.ref pj,rfl,rfl,aK.of M,bG c2,?_⟩⟩;refine ⟨_,rfl,4,rfl,.inr (.inl ⟨pj,_,rfl,sj,λ z=>ZV z.2 (show ¬ HT.sIx 7 7 (some 4)=7 by decide),λ D W=>?_⟩)⟩;have c1:bY [.int c[j].h,c[j].n,c[j].v,c[j].x,c[j].a,.int c[j].b,cX c[j].e] none (some 4)=[.int c[j].h,c[j].n,c[j].v,c[j].x]:=rfl;rw [c1];refine ⟨_,rfl,.inr (.inl ⟨I,_,2,a,rfl,rfl,(af.upd W).seqT J,bG (j:=2) rfl,?_⟩)⟩;refine ⟨_,rfl,.inr (.inl ⟨pj,_,5,.int c[j].b,rfl,rfl,(af.upd W).seqT sj,bG (j:=5) rfl,?_⟩)⟩;refine ⟨_,rfl,nL,λ G N=>.inr (.inr (.inr ⟨D,G,_,_,rfl,rfl,(af.upd N).seqT (aH.of ab),aH.of ab,by simp,xw,λ z=>(by cases z),λ _ u a4=>?_⟩))⟩;have B:af H4 _:=((af.upd W).trans (af.upd N)).trans (af.upd (o:=.tup ([.int c[j].h,c[j].n,c[j].v,c[j].x]++[a,.int c[j].b,.int (i:Nat)])) a4);have Y:upd (upd (upd H4 D (.tup [.int c[j].h,c[j].n,c[j].v,c[j].x])) G (.tup [a,.int c[j].b,.int (i:Nat)])) u (.tup ([.int c[j].h,c[j].n,c[j].v,c[j].x]++[a,.int c[j].b,.int (i:Nat)])) u=some (.tup ([.int c[j].h,c[j].n,c[j].v,c[j].x]++[a,.int c[j].b,.int (i:Nat)])):=ab;generalize upd (upd (upd H4 D (.tup [.int c[j].h,c[j].n,c[j].v,c[j].x])) G (.tup [a,.int c[j].b,.int (i:Nat)])) u (.tup ([.int c[j].h,c[j].n,c[j].v,c[j].x]++[a,.int c[j].b,.int (i:Nat)]))=H6 at B Y⊢;have X:=B _ _ M;have a5:=B _ _ U;have a3:=bI (λ a b z=>RcAt.tups (.of B) z) O;have Z:bA (kx w) H6 (upd H6 l (.lst (f.set j (.ref u)))):=bA.lst X;refine ⟨_,rfl,_,rfl,l,f,j,j,rfl,rfl,X,LQ (show j < f.length by rw [lz];exact b0),?_⟩;have dd:aE i c (.fin h a)=c.modify j (λ r=>{ r with a:=a,e:=some i }):=by unfold aE;dsimp only;rw [hj]
    have b3:aI (i + 1) (aE i c (.fin h a)) (j21 (i + 1) C)=_:=F;have a9:=dw.2;rw [dd] at b3 a9;have mh:(c.modify j (λ r=>{ r with a:=a,e:=some i })).map Rc.h=c.map Rc.h:=by
     apply C8;intro m;rw [M0,M0,W2];cases c[m]? with
     | none=>rfl
     | some r=>
      show some (if j=m then _ else r).h=some r.h;by_cases z:j=m
      ·rw [ZZ z]
      ·rw [Z_ z]
    refine ⟨_,f.set j (.ref u),g,ab,?_,?_,?_,?_,?_,b3,a9,af.keep (s4.trans B) a0,_,_,_,_,rfl⟩
    ·exact Gd (bI (λ a b z=>RcAt.tups Z z) a3) a7 ⟨u,rfl,Z _ _ (aH.of Y)⟩
    ·rw [ak R.symm];exact a5
    ·lia
    ·rw [n5];lia
    ·intro k;rw [mh];exact hv k
  ·intro σ H3 z0;refine me λ _ L=>?_;obtain ⟨c,f,g,el,ar,ed,hk,a6,hv,F,dw,s3,x3,x4,x5,x6,rfl⟩:=z0;refine L ?_;clear L;have:C.drop ys.length=[]:=by rw [b8];exact List.drop_length
   rw [this] at F;have F:c=aI 0 [] C:=F;rw [<-F] at q;exact ⟨_,rfl,q l f H3 s3 a0 el ar⟩
noncomputable def jx:Nat->ZR
 | 0=>"strict"
 | 1=>"hands"
 | _=>"bare"
noncomputable def lu:Option Nat->Nat->Bool
 | some a,b=>decide (a < b)
 | none,_=>false
noncomputable def fq:Nat->Rc->Rc->Bool
 | 0,r,q=>lu r.e q.b
 | 1,r,q=>decide (r.h=q.h) && decide (r.b < q.b)
 | _,_,_=>false
theorem dec_lt (a b:Nat):decide ((a:Int) < (b:Int))=decide (a < b):=decide_eq_decide.mpr (by lia)
def Ed (K:b0):Sp:=λ vs H Q _=>∃(x y:V) (r q:Rc) (m:Nat),vs=[x,y,.str (jx m)]/\RcAt K H r x/\RcAt K H q y/\Q (.bl (fq m r q)) H
def Q_ (T:TX (kx w) mg):Fo P w mg base CX0 1 231 CO ["one","other","strictness"] (Ed (kx w)):=by
 refine (BN w.params).ok MT (λ g H Q E h=>?_) (λ k A l s H g Q E i h=>?_)
 ·obtain ⟨x,y,r,q,m,rfl,_⟩:=h;rfl
 ·obtain ⟨x,y,r,q,m,rfl,⟨a,rfl,c⟩,⟨d,rfl,f⟩,h⟩:=h;refine ⟨_,(aV (aN (cI bP (pv 2) az (aC _))
   (aU (au (dv (gU oE (aq aj (pv 0) ag (λ _ _=>rfl)) bx (aC _)) (dP (gU ij (aq aj (pv 0) ag (λ _ _=>rfl)) (aq aj (pv 1) ag (λ _ _=>rfl)) (aC _))))))
   dG)
   (aV (aN (cI bP (pv 2) az (aC _))
   (aU (au (dv (gU bP (aq aj (pv 0) ag (λ _ _=>rfl)) (aq aj (pv 1) ag (λ _ _=>rfl)) (aC _)) (dP (gU ij (aq aj (pv 0) ag (λ _ _=>rfl)) (aq aj (pv 1) ag (λ _ _=>rfl)) (aC _))))))
   dG)
   (aU (au eC)))),?_⟩
  match m,h with
  | 0,h=>
   refine ⟨_,rfl,rfl,_,rfl,bw (ZY rfl) ?_⟩;refine ⟨_,rfl,.inr (.inl ⟨a,_,6,cX r.e,rfl,rfl,c,bG (j:=6) rfl,rfl,_,rfl,?_⟩)⟩;cases re:r.e with
   | none=>
    refine bM (by show ¬ (!decide (V.non=V.non))=true;decide) ?_;have:fq 0 r q=false:=by show lu r.e q.b=_;rw [re];rfl
    rw [this] at h;exact h
   | some b=>
    refine bw rfl ?_;refine ⟨_,rfl,.inr (.inl ⟨a,_,6,.int (b:Nat),rfl,rfl,c,bG (j:=6) (by rw [re];rfl),?_⟩)⟩;refine ⟨_,rfl,.inr (.inl ⟨d,_,5,.int (q.b:Nat),rfl,rfl,f,bG (j:=5) rfl,b,q.b,rfl,rfl,?_⟩)⟩;have:fq 0 r q=decide (b < q.b):=by show lu r.e q.b=_;rw [re];rfl
    rw [this,<-dec_lt] at h;exact h
  | 1,h=>
   refine ⟨_,rfl,rfl,_,rfl,bE ?_⟩;refine ⟨_,rfl,rfl,_,rfl,bw (ZY rfl) ?_⟩;refine ⟨_,rfl,.inr (.inl ⟨a,_,0,.int r.h,rfl,rfl,c,bG (j:=0) rfl,?_⟩)⟩;refine ⟨_,rfl,.inr (.inl ⟨d,_,0,.int q.h,rfl,rfl,f,bG (j:=0) rfl,rfl,_,rfl,?_⟩)⟩;by_cases z:r.h=q.h
   ·refine bw (ZY (by rw [z])) ?_;refine ⟨_,rfl,.inr (.inl ⟨a,_,5,.int (r.b:Nat),rfl,rfl,c,bG (j:=5) rfl,?_⟩)⟩;refine ⟨_,rfl,.inr (.inl ⟨d,_,5,.int (q.b:Nat),rfl,rfl,f,bG (j:=5) rfl,r.b,q.b,rfl,rfl,?_⟩)⟩;have:fq 1 r q=decide (r.b < q.b):=by show (decide (r.h=q.h) && _)=_;rw [ZY z];rfl
    rw [this,<-dec_lt] at h;exact h
   ·refine bM (λ e=>z (V.int.inj (ZW e))) ?_;have:fq 1 r q=false:=by show (decide (r.h=q.h) && _)=_;rw [ZX z];rfl
    rw [this] at h;exact h
  | m + 2,h=>refine ⟨_,rfl,rfl,_,rfl,bM (show ¬ decide (V.str "bare" = V.str "strict")=true by decide +kernel) ?_⟩;refine ⟨_,rfl,rfl,_,rfl,bM (show ¬ decide (V.str "bare" = V.str "hands")=true by decide +kernel) ?_⟩;exact h
def ES:Sp:=λ vs H Q _=>∃(m:Nat),vs=[.str (jx m)]/\Q .non H
def JM:aH (kx w) H 210 [.str "strict",.str "hands",.str "bare"]:=
 .inr ⟨⟨(.type "tuple"),none,(.seq #[(.str "strict" 516),(.str "hands" 517),(.str "bare" 518)] 0),#[]⟩,#[(.str "strict" 516),(.str "hands" 517),(.str "bare" 518)],0,by kernel_rfl,rfl,rfl,nL,.cons ⟨_,rfl⟩ (.cons ⟨_,rfl⟩ (.cons ⟨_,rfl⟩ .nil))⟩
def Mf (T:TX (kx w) mg):Fo P w mg base CX0 1 224 AC ["strictness"] ES:=by
 refine (zH w.params).ok Qj (λ a H Q E h=>?_) (λ c A b s H a Q E d h=>?_)
 ·obtain ⟨m,rfl,_⟩:=h;rfl
 ·obtain ⟨m,rfl,h⟩:=h;refine ⟨_,(aU (aN (PW.pt (hU (gs (cA (fD pd rfl (T.no (oA _)) Q4 (ao (pv 0) (ao (oy (v:=.ty "str") rfl (T.no (ky _)) boot_str rfl) ae))) (λ _=>rfl))) (gv (cI sJ (pv 0) (qj (v:=.ref 210) rfl (T.of (NS _)) rfl) (by with_unfolding_all rfl)))))
   (aU wW)
   dG)),?_⟩
  refine ⟨_,rfl,_,_,"str",rfl,rfl,by decide +kernel,_,rfl,bM (by decide) ?_⟩;refine ⟨_,rfl,210,_,rfl,.inr JM,rfl,rfl,_,rfl,bM ?_ h⟩
  match m with
  | 0=>decide +kernel
  | 1=>decide +kernel
  | m + 2=>exact (by decide +kernel:¬ (if true=true then !lg (.str "bare") [V.str "strict",.str "hands",.str "bare"] else lg (.str "bare") [V.str "strict",.str "hands",.str "bare"])=true)
noncomputable def fH (m:Nat) (rs:List Rc) (a b:Nat):Bool:=match rs[a]?,rs[b]? with|some r,some q=>fq m r q|_,_=>false
noncomputable def fg (m:Nat) (rs:List Rc) (a j:Nat):List (Nat×Nat):=((B1 j).filter λ b=>fH m rs a b).map λ b=>(a,b)
noncomputable def lR (m:Nat) (rs:List Rc) (i:Nat):List (Nat×Nat):=(B1 i).flatMap λ a=>fg m rs a rs.length
def Fi {rs:List Rc} {a:Nat}:fg m rs a (j + 1)=fg m rs a j++if fH m rs a j then [(a,j)] else []:=by
 unfold fg;rw [E7,N3,u1];by_cases z:fH m rs a j=true
 ·rw [ZZ z];simp [z]
 ·rw [Z_ z];simp [z]
def FS {rs:List Rc} :lR m rs (i + 1)=lR m rs i++fg m rs i rs.length:=by unfold lR;rw [E7,List.flatMap_append];simp
def Dk {rs:List Rc} {a:Nat}:(fg m rs a j).length<=j:=by unfold fg;rw [C0];exact D0 (U2 _ _) (by rw [F2];exact u0 _)
theorem AX {rs:List Rc} :∀i:Nat,(lR m rs i).length<=i * rs.length
 | 0=>by simp [lR]
 | i + 1=>by rw [FS,G0,Nat.add_mul,Nat.one_mul];exact Nat.add_le_add (AX i) Dk
def QT {rs:List Rc} {e:Ev}:(aE i rs e).length<=rs.length + 1:=by
 cases e with
 | beg h n v x=>show (rs++[_]).length<=_;rw [G0];exact u0 _
 | fin h a=>
  unfold aE;dsimp only;cases bD h (rs.map Rc.h) with
  | none=>exact C3 _
  | some j=>show (rs.modify j _).length<=_;rw [n5];exact C3 _
theorem BI:∀{i:Nat} {rs:List Rc} (es:List Ev),(aI i rs es).length<=rs.length + es.length
 | _,_,[]=>u0 _
 | i,rs,e :: es=>by
  show (aI (i + 1) (aE i rs e) es).length<=_;have:=BI (i:=i + 1) (rs:=aE i rs e) es;have:=QT (i:=i) (rs:=rs) (e:=e);rw [P0]
  lia
def bW (H:Hp) (p:Nat×Nat) (y:V):Prop:=∃a,y=.ref a/\H a=some (.tup [.int p.1,.int p.2])
def bW.same {p:Nat×Nat} (s:af H H') (h:bW H p y):bW H' p y:=h.elim λ a z=>⟨a,z.1,s _ _ z.2⟩
def bW.wrote {zs ws:List V} {p:Nat×Nat} (e:H l=some (.lst zs)) (h:bW H p y):bW (upd H l (.lst ws)) p y:=h.elim λ a z=>⟨a,z.1,by rw [ak (iy z.2 e (by intro z;cases z))];exact z.2⟩
def II (K:b0):Sp:=λ vs H Q _=>∃(t te:ZS) (th:V) (ys:List V) (es:List Ev) (m:Nat),vs=[.ref t,.str (jx m)]/\aH K H t [th,.ref te]/\aH K H te ys/\av (fm K H) es ys/\es.length<=100/\oZ 0 [] es/\
 ∀l zs H',af H H'->H l=none->H' l=some (.lst zs)->av (bW H') (lR m (aI 0 [] es) (aI 0 [] es).length) zs->Q (.ref l) H'
theorem JD (T:TX (kx w) mg) (c0:Ca P w mg base "deeds" ["tale"] 1 (xI (kx w))) (c1:Ca P w mg base "check_strictness" ["strictness"] 1 ES) (c2:Ca P w mg base "goes_ahead" ["one","other","strictness"] 1 (Ed (kx w))):Fo P w mg base CX0 2 217 BC ["tale","strictness"] (II (kx w)):=by
 refine (Bf w.params).ok c_ (λ vs H Q E h=>?_) (λ b7 A b8 s H vs Q E M h=>?_)
 ·obtain ⟨t,te,W,ys,B,m,rfl,_⟩:=h;rfl
 ·obtain ⟨t,te,W,ys,B,m,rfl,st,se,al,hl,wf,q⟩:=h;refine ⟨_,(aV (lr (aB c1 (M.mono (by decide)) rfl (ao (pv 1) ae)))
   (aV (aA (i:=2) c_.nd rfl (Y0 rfl) (aB c0 (M.mono (by decide)) rfl (ao (pv 0) ae)))
   (aV (aA (i:=3) c_.nd rfl (Y0 rfl) (aY ae))
   (aV (bO U1 rfl (xH rfl (T.no (tG _)) (ao (pv 2) ae)) (bH rfl (eJ (eY (i:=4) c_.nd rfl (Y0 rfl)) (eJ (eY (i:=5) c_.nd rfl (Y0 rfl)) iq)))
   (aU (bO U1 rfl (xH rfl (T.no (tG _)) (ao (pv 2) ae)) (bH rfl (eJ (eY (i:=6) c_.nd rfl (Y0 rfl)) (eJ (eY (i:=7) c_.nd rfl (Y0 rfl)) iq)))
   (aU (aN (cA (aB c2 (M.mono (by decide)) rfl (ao (pv 5) (ao (pv 7) (ao (pv 1) ae)))) (λ _=>rfl))
   (aU (lr (nC (pv 3) (ao (aD (ao (pv 4) (ao (pv 6) ae))) ae))))
   dG)))))
   (aU (au (pv 3))))))),?_⟩
  refine ⟨_,rfl,m,rfl,?_⟩;refine ⟨_,rfl,t,te,W,ys,B,rfl,st,se,al,hl,wf,λ l g C s1 c3 S J=>?_⟩;generalize hrs:aI 0 [] B=rs at J q;have Y:rs.length<=100:=by rw [<-hrs];have:=BI (i:=0) (rs:=[]) B;simpa using D0 this (by simpa using hl)
  have r:g.length=rs.length:=cH J;refine ⟨jk,λ d u=>?_⟩;have X:H d=none:=s1.free u;have nl:l≠d:=fM S u;have s2:af H (upd C d (.lst [])):=s1.trans (af.upd u);have I:upd C d (.lst []) l=some (.lst g):=(af.upd u) _ _ S;have a0:=bI (λ a b z=>RcAt.tups (.of (af.upd (o:=.lst []) u)) z) J;have a1:upd C d (.lst []) d=some (.lst []):=ab;generalize upd C d (.lst [])=H2 at s2 I a0 a1⊢;refine ⟨_,rfl,l,g,rfl,aK.of I,?_⟩;refine Cw (K:=KX w.params) (a:=l) (xs:=g) (λ i σ c=>∃f,c l=some (.lst g)/\av (RcAt (kx w) c) rs g/\c d=some (.lst f)/\av (bW c) (lR m rs i) f/\af H c/\∃x4 x5 x6 x7,σ=[some (.ref t),some (.str (jx m)),some (.ref l),some (.ref d),x4,x5,x6,x7])
   ⟨[],I,a0,a1,.nil,s2,_,_,_,_,rfl⟩ (λ i σ c h=>?_) ?_ ?_
  ·obtain ⟨f,e,_⟩:=h;exact aK.of e
  ·rintro i x σ H3 p Z ⟨f,e3,a3,f3,b3,s3,x4,x5,x6,x7,rfl⟩ hp;obtain ⟨H4,L,n,ep⟩:=eL (.tup [.int i,x]) hp;rw [<-L];have V:=n _ _ e3;have f4:=n _ _ f3;have a4:=bI (λ a b z=>RcAt.tups (.of n) z) a3;have b4:=bI (λ a b z=>bW.same n z) b3;have s4:=s3.trans n;refine ⟨p,_,rfl,aH.of ep,rfl,.int i,_,rfl,x,_,rfl,rfl,?_⟩;have a8:i < rs.length:=by rw [<-r];exact (List.getElem?_eq_some_iff.mp Z).1
   have pl:=AX (m:=m) (rs:=rs) i;have pm:i * rs.length<=10000:=j01 (D0 (T3 a8) Y) Y;refine ⟨_,rfl,l,g,rfl,aK.of V,?_⟩;refine Cw (K:=KX w.params) (a:=l) (xs:=g) (λ j σ c=>∃f,c l=some (.lst g)/\av (RcAt (kx w) c) rs g/\c d=some (.lst f)/\av (bW c) (lR m rs i++fg m rs i j) f/\af H c/\∃x6 x7,σ=[some (.ref t),some (.str (jx m)),some (.ref l),some (.ref d),some (.int (i:Nat)),some x,x6,x7])
    ⟨f,V,a4,f4,by rw [show fg m rs i 0=[] from rfl,D2];exact b4,s4,_,_,rfl⟩ (λ j σ c h=>?_) ?_ ?_
   ·obtain ⟨f,e,_⟩:=h;exact aK.of e
   ·rintro j y σ O D hy ⟨zs3,e5,a5,f5,b5,s5,x6,x7,rfl⟩ hp';have k:=af.upd (o:=.tup [.int j,y]) hp';have a7:upd O D (.tup [.int j,y]) D=some (.tup [.int j,y]):=ab;generalize upd O D (.tup [.int j,y])=H6 at k a7⊢;have U:=k _ _ e5;have R:=k _ _ f5;have F:=bI (λ a b z=>RcAt.tups (.of k) z) a5;have N:=bI (λ a b z=>bW.same k z) b5;have s6:=s5.trans k;refine ⟨D,_,rfl,aH.of a7,rfl,.int j,_,rfl,y,_,rfl,rfl,?_⟩;obtain ⟨r1,b0,b2⟩:=fF F Z;obtain ⟨r2,a2,b1⟩:=fF F hy;have b9:j < rs.length:=(List.getElem?_eq_some_iff.mp a2).1;have ah:fH m rs i j=fq m r1 r2:=by unfold fH;rw [b0,a2]
    refine ⟨_,rfl,_,rfl,_,rfl,x,y,r1,r2,m,rfl,b2,b1,_,rfl,?_⟩;rw [<-ah];have rl:=Dk (m:=m) (rs:=rs) (a:=i) (j:=j);have zl:zs3.length=(lR m rs i++fg m rs i j).length:=cH N;rw [G0] at zl;by_cases z:fH m rs i j=true
    ·refine bw z ?_;refine ⟨_,rfl,.inl ⟨rfl,zs3,aK.of R⟩,_,rfl,_,rfl,cZ,λ p2 a9=>?_⟩;obtain ⟨H7,L,v,e7⟩:=eL (.tup [.int (i:Nat),.int (j:Nat)]) a9;rw [<-L];have G:=v _ _ R;refine ⟨d,zs3,_,rfl,rfl,G,T1 (m:=20000) (by lia) (by decide),?_⟩;refine ⟨zs3++[.ref p2],?_,?_,ab,?_,af.keep (s6.trans v) X,_,_,rfl⟩
     ·rw [ak nl];exact v _ _ U
     ·exact bI (λ a b z=>RcAt.tups ((bA.of v).trans (bA.lst G)) z) F
     ·rw [Fi,ZZ z,<-O1];exact lJ (bI (λ a b z=>bW.wrote G (bW.same v z)) N) (bW.wrote G ⟨p2,rfl,e7⟩)
    ·refine bM z ?_;exact ⟨zs3,U,F,R,by rw [Fi,Z_ z,D2];exact N,s6,_,_,rfl⟩
   ·rintro σ O ⟨zs3,e5,a5,f5,b5,s5,x6,x7,rfl⟩;exact ⟨zs3,e5,a5,f5,by rw [FS,<-r];rw [r] at b5;rw [r];exact b5,s5,_,_,_,_,rfl⟩
  ·rintro σ H3 ⟨f,e3,a3,f3,b3,s3,x4,x5,x6,x7,rfl⟩;rw [r] at b3;exact ⟨_,rfl,q d f H3 s3 X f3 b3⟩
end
variable {os:List Int}
section
noncomputable def e_ (os:List Int):Ev->List Int
 | .beg h _ _ _=>os++[h]
 | .fin h _=>os.filter λ k=>decide (k≠h)
noncomputable def rp (os:List Int):Ev->Prop
 | .beg h _ _ _=>h∉os
 | .fin h _=>h∈os
noncomputable def gA:List Int->List Ev->Prop
 | _,[]=>True
 | os,e :: es=>rp os e/\gA (e_ os e) es
theorem gA.snoc:∀{es:List Ev} {os:List Int} {e:Ev},gA os es->rp (es.foldl e_ os) e->gA os (es++[e])
 | [],os,e,_,h=>⟨h,trivial⟩
 | x :: es,os,e,w,h=>⟨w.1,gA.snoc w.2 h⟩
theorem tq (hs:List Int) :∀{j:Nat},bD h hs=some j->hs[j]? = some h/\∀k,j < k->hs[k]?≠some h:=by
 suffices key :∀n (hs:List Int),hs.length=n->∀{j:Nat},bD h hs=some j->hs[j]? = some h/\∀k,j < k->hs[k]?≠some h from λ {j} a=>key _ hs rfl a;intro n;induction n with
 | zero=>intro hs e j a;have:=pM a;lia
 | succ n ih=>
  intro hs e j a;have c:hs≠[]:=λ z=>by rw [z] at e;cases e
  obtain ⟨b,t,rfl⟩ :∃b t,hs=b++[t]:=⟨hs.dropLast,hs.getLast c,(B4 c).symm⟩
  rw [G0] at e;have e:b.length=n:=by simpa using e
  rw [tJ] at a;by_cases z:t=h
  ·rw [ZZ z] at a;cases a;refine ⟨by simp [z],λ k d=>?_⟩;rw [E4 (by rw [G0];show b.length + 1<=k;lia)];intro y;cases y
  ·rw [Z_ z] at a;obtain ⟨g,f⟩:=ih b e a;have lt:=pM a;refine ⟨by rw [A2 lt];exact g,λ k d=>?_⟩;by_cases y:k < b.length
   ·rw [A2 y];exact f k d
   ·by_cases y2:k=b.length
    ·subst y2;rw [L1 (u0 _)];simp;exact z
    ·rw [E4 (by rw [G0];show b.length + 1<=k;lia)];intro y;cases y
def yr (hs:List Int) (hm:h∈hs):(bD h hs).isSome=true:=by
 suffices key :∀n (hs:List Int),hs.length=n->h∈hs->(bD h hs).isSome=true from key _ hs rfl hm;intro n;induction n with
 | zero=>intro hs e hm;rw [List.length_eq_zero_iff.mp e] at hm;cases hm
 | succ n ih=>
  intro hs e hm;have b:hs≠[]:=λ z=>by rw [z] at e;cases e
  obtain ⟨a,t,rfl⟩ :∃a t,hs=a++[t]:=⟨hs.dropLast,hs.getLast b,(B4 b).symm⟩
  rw [G0] at e;rw [tJ];by_cases z:t=h
  ·rw [ZZ z];rfl
  ·rw [Z_ z];refine ih a (by simpa using e) ?_;rcases List.mem_append.mp hm with y|y
   ·exact y
   ·exact ZV (List.mem_singleton.mp y).symm z
structure cu (i:Nat) (rs:List Rc) (os:List Int):Prop where
 b :∀r∈rs,r.b < i
 e :∀r∈rs,∀e,r.e=some e->e < i
 p :∀(x y:Nat) (r q:Rc),x < y->rs[x]? = some r->rs[y]? = some q->r.b < q.b/\(r.h=q.h->∃e,r.e=some e/\e < q.b)
 o :∀r∈rs,r.h∉os->r.e.isSome=true
 m :∀h∈os,h∈rs.map Rc.h
def cu.nil:cu 0 [] []:=⟨λ _ h=>(by cases h),λ _ h=>(by cases h),λ x y r q _ h=>(by simp at h),λ _ h=>(by cases h),λ _ h=>(by cases h)⟩
def xR {rs:List Rc} {f:Rc->Rc} (hf :∀r,(f r).h=r.h):(rs.modify j f).map Rc.h=rs.map Rc.h:=by
 apply C8;intro m;rw [M0,M0,W2];cases rs[m]? with
 | none=>rfl
 | some r=>
  show some (if j=m then f r else r).h=some r.h;by_cases z:j=m
  ·rw [ZZ z,hf]
  ·rw [Z_ z]
theorem cu.step {rs:List Rc} (I:cu i rs os) {e:Ev} (ok:rp os e):cu (i + 1) (aE i rs e) (e_ os e)/\∀h a,e=.fin h a->(bD h (rs.map Rc.h)).isSome=true:=by
 cases e with
 | beg h n v x=>
  have ok:h∉os:=ok;refine ⟨⟨λ r d=>?_,λ r d e c=>?_,λ t g r q E K D=>?_,λ r d A=>?_,λ k L=>?_⟩,λ h a e=>by cases e⟩
  ·rcases List.mem_append.mp d with z|z
   ·have:=I.b r z;lia
   ·rw [List.mem_singleton.mp z];exact S2 i
  ·rcases List.mem_append.mp d with z|z
   ·have:=I.e r z e c;lia
   ·rw [List.mem_singleton.mp z] at c;cases c
  ·have a1:g < (aE i rs (.beg h n v x)).length:=(List.getElem?_eq_some_iff.mp D).1;have hl:(aE i rs (.beg h n v x)).length=rs.length + 1:=by show (rs++[_]).length=_;rw [G0];rfl
   have P:rs[t]? = some r:=by
    have:(rs++[_])[t]? = some r:=K
    rwa [A2 (by lia)] at this
   by_cases z:g < rs.length
   ·have a0:rs[g]? = some q:=by
     have:(rs++[_])[g]? = some q:=D
     rwa [A2 z] at this
    exact I.p t g r q E P a0
   ·have N:(rs++[_])[g]? = some q:=D;have Y:g=rs.length:=by lia
    subst Y;rw [L1 (u0 _)] at N;simp at N;have F:=K0 P;rw [<-N];refine ⟨I.b r F,λ B=>?_⟩;have:r.e.isSome=true:=I.o r F (by rw [B];exact ok);obtain ⟨e,c⟩:=Option.isSome_iff_exists.mp this;exact ⟨e,c,I.e r F e c⟩
  ·rcases List.mem_append.mp d with z|z
   ·exact I.o r z λ y=>A (List.mem_append.mpr (.inl y))
   ·rw [List.mem_singleton.mp z] at A;exact ZV (List.mem_append.mpr (.inr (List.mem_singleton.mpr rfl))) A
  ·show k∈(rs++[_]).map Rc.h;rw [u1];rcases List.mem_append.mp L with z|z
   ·exact List.mem_append.mpr (.inl (I.m k z))
   ·rw [List.mem_singleton.mp z];exact List.mem_append.mpr (.inr (List.mem_singleton.mpr rfl))
 | fin h a=>
  have ok:h∈os:=ok;obtain ⟨j,J⟩:=Option.isSome_iff_exists.mp (yr _ (I.m h ok));refine ⟨?_,λ h' a' e=>by cases e;rw [J];rfl⟩;obtain ⟨U,X⟩:=tq _ J;have Z:aE i rs (.fin h a)=rs.modify j (λ r=>{ r with a:=a,e:=some i }):=by unfold aE;dsimp only;rw [J]
  rw [Z];have hs:e_ os (.fin h a)=os.filter λ k=>decide (k≠h):=rfl;rw [hs];rw [M0] at U;obtain ⟨rj,Q,W⟩:=Option.map_eq_some_iff.mp U;have get :∀m q,(rs.modify j (λ r=>{ r with a:=a,e:=some i }))[m]? = some q->∃r,rs[m]? = some r/\q.h=r.h/\q.b=r.b/\(m=j->q.e=some i)/\(m≠j->q=r):=λ m q T=>by
   rw [W2] at T;obtain ⟨r,d,e⟩:=Option.map_eq_some_iff.mp T;refine ⟨r,d,?_⟩;by_cases z:j=m
   ·rw [ZZ z] at e;rw [<-e];exact ⟨rfl,rfl,λ _=>rfl,λ y=>ZV z.symm y⟩
   ·rw [Z_ z] at e;rw [<-e];exact ⟨rfl,rfl,λ y=>ZV y.symm z,λ _=>rfl⟩
  refine ⟨λ r d=>?_,λ r d e c=>?_,λ t g r q E K D=>?_,λ r d A=>?_,λ k L=>?_⟩
  ·obtain ⟨m,C⟩:=List.mem_iff_getElem?.mp d;obtain ⟨s,u,_,h3,_⟩:=get m r C;have:=I.b s (K0 u)
   lia
  ·obtain ⟨m,C⟩:=List.mem_iff_getElem?.mp d;obtain ⟨s,u,_,_,H,M⟩:=get m r C;by_cases z:m=j
   ·rw [H z] at c;cases c;exact S2 i
   ·rw [M z] at c;have:=I.e s (K0 u) e c
    lia
  ·obtain ⟨s,G,r2,r3,r4,r5⟩:=get t r K;obtain ⟨V,S,R,q3,_⟩:=get g q D;obtain ⟨p1,O⟩:=I.p t g s V E G S;refine ⟨by lia,λ B=>?_⟩;by_cases z:t=j
   ·subst z;rw [Q] at G;cases G;refine ZV ?_ (X g E);rw [M0,S];show some V.h=some h;rw [<-R,<-B,r2,W]
   ·rw [r5 z] at B⊢;rw [R] at B;obtain ⟨e,c,lt⟩:=O B;exact ⟨e,c,by lia⟩
  ·obtain ⟨m,C⟩:=List.mem_iff_getElem?.mp d;obtain ⟨s,u,h2,_,H,M⟩:=get m r C;by_cases z:m=j
   ·rw [H z];rfl
   ·rw [M z] at A⊢;by_cases y:s.h=h
    ·have lt:m < j:=by
      rcases Nat.lt_or_gt_of_ne z with l|l
      ·exact l
      ·exact ZV (by rw [M0,u];show some s.h=_;rw [y]) (X m l)
     obtain ⟨_,O⟩:=I.p m j s rj lt u Q;obtain ⟨e,c,_⟩:=O (by rw [y,W]);rw [c];rfl
    ·exact I.o s (K0 u) λ w=>A (List.mem_filter.mpr ⟨w,ZY y⟩)
  ·rw [xR (f:=λ r=>{ r with a:=a,e:=some i }) (λ r=>rfl)];exact I.m k (List.mem_filter.mp L).1
theorem cu.all:∀{es:List Ev} {i:Nat} {rs:List Rc} {os:List Int},cu i rs os->gA os es->oZ i rs es/\∃os',cu (i + es.length) (aI i rs es) os'
 | [],i,rs,os,I,_=>⟨trivial,os,I⟩
 | e :: es,i,rs,os,I,w=>by obtain ⟨c,b⟩:=I.step w.1;obtain ⟨a,os',d⟩:=cu.all c w.2;refine ⟨⟨b,a⟩,os',?_⟩;rw [P0,show i + (es.length + 1)=i + 1 + es.length by lia];exact d
def MD:∀{os:List Int},kvs.map (·.1)=os.map Sum.inl->(cR kvs (.inl h)).map (·.1)=(os.filter λ k=>decide (k≠h)).map Sum.inl:=by
 induction kvs with
 | nil=>intro os e;cases os with|nil=>rfl|cons o os=>cases e
 | cons p r ih=>
  intro os e;cases os with
  | nil=>cases e
  | cons o os=>
   rw [C1,C1] at e;injection e with e1 e2;by_cases z:o=h
   ·rw [Ey (by rw [e1,z]),P2 (by simp [z])];exact ih e2
   ·rw [Ej (by rw [e1];exact λ y=>z (o9 y)),O2 (by simp [z]),C1,C1,e1,ih e2]
theorem Dq {α β:Type} {R S:α->β->Prop} :∀{xs:List α} {ys:List β},(∀a b,b∈ys->R a b->S a b)->av R xs ys->av S xs ys
 | _,_,_,.nil=>.nil
 | _,_,h,.cons a r=>.cons (h _ _ R0 a) (Dq (λ x y c z=>h x y (W0 _ c) z) r)
theorem vv {α β:Type} {R:α->β->Prop} :∀{xs:List α} {ys:List β},ys.length=xs.length->(∀(k:Nat) a b,xs[k]? = some a->ys[k]? = some b->R a b)->av R xs ys
 | [],[],_,_=>.nil
 | [],y :: ys,h,_=>by cases h
 | x :: xs,[],h,_=>by cases h
 | x :: xs,y :: ys,h,f=>.cons (f 0 x y rfl rfl) (vv (by simpa using h) λ k a b c d=>f (k + 1) a b (by rw [G2];exact c) (by rw [G2];exact d))
end
section
def pD {rs:List Rc} {a b:Nat} {r q:Rc} (ha:rs[a]? = some r) (hb:rs[b]? = some q):fH m rs a b=fq m r q:=by unfold fH;rw [ha,hb]
def eD {rs:List Rc} {p:Nat×Nat} :p∈lR m rs n↔p.1 < n/\p.2 < rs.length/\fH m rs p.1 p.2=true:=by
 unfold lR fg;rw [List.mem_flatMap];constructor
 ·rintro ⟨a,ha,h⟩;obtain ⟨b,e,rfl⟩:=List.mem_map.mp h;obtain ⟨d,c⟩:=List.mem_filter.mp e;exact ⟨List.mem_range.mp ha,List.mem_range.mp d,c⟩
 ·rintro ⟨d,c,h3⟩;exact ⟨p.1,List.mem_range.mpr d,List.mem_map.mpr ⟨p.2,List.mem_filter.mpr ⟨List.mem_range.mpr c,h3⟩,rfl⟩⟩
end
variable {L:List ZS} {p:ZS}
section
def near (i:Int):Prop:=-1000000000<=i/\i<=1000000000
inductive bp:ZR->ZR->Dt->Prop
 | regR:bp "register" "read" .non
 | regW {i:Int}:near i->bp "register" "write" (.int i)
 | cntR:bp "counter" "read" .non
 | cntA {i:Int}:near i->bp "counter" "add" (.int i)
 | quP {i:Int}:near i->bp "queue" "put" (.int i)
 | quT:bp "queue" "take" .non
 | setP {i:Int}:near i->bp "set" "put" (.int i)
 | setC {i:Int}:near i->bp "set" "cut" (.int i)
 | setH {i:Int}:near i->bp "set" "has" (.int i)
 | celR:bp "cell" "read" .non
 | celW {i:Int}:near i->bp "cell" "write" (.int i)
 | celS {i j:Int}:near i->near j->bp "cell" "swap" (.tup [.int i,.int j])
noncomputable def bT:List ZR:=["register","counter","queue","set","cell"]
noncomputable def dU (k:ZR):List ZR:=if k = "register" then ["write","read"] else if k = "counter" then ["add","read"] else if k = "queue" then ["put","take"] else if k = "set" then ["put","cut","has"] else ["read","write","swap","swap"]
def qL (k v:ZR):Prop:=((v = "read"\/v = "take")/\bp k v .non)\/(v = "swap"/\∀i j,near i->near j->bp k v (.tup [.int i,.int j]))\/(v≠"read"/\v≠"take"/\v≠"swap"/\∀i,near i->bp k v (.int i))
def NQ {k v:ZR} (hk:k∈bT) (hv:v∈dU k):qL k v:=by
 unfold bT at hk;simp only [K1,t0,or_false] at hk;rcases hk with rfl|rfl|rfl|rfl|rfl
 ·rw [show dU "register" = (["write","read"]:List ZR) by decide +kernel] at hv;simp only [K1,t0,or_false] at hv;rcases hv with rfl|rfl
  ·exact .inr (.inr ⟨by decide +kernel,by decide +kernel,by decide +kernel,λ i h=>.regW h⟩)
  ·exact .inl ⟨.inl rfl,.regR⟩
 ·rw [show dU "counter" = (["add","read"]:List ZR) by decide +kernel] at hv;simp only [K1,t0,or_false] at hv;rcases hv with rfl|rfl
  ·exact .inr (.inr ⟨by decide +kernel,by decide +kernel,by decide +kernel,λ i h=>.cntA h⟩)
  ·exact .inl ⟨.inl rfl,.cntR⟩
 ·rw [show dU "queue" = (["put","take"]:List ZR) by decide +kernel] at hv;simp only [K1,t0,or_false] at hv;rcases hv with rfl|rfl
  ·exact .inr (.inr ⟨by decide +kernel,by decide +kernel,by decide +kernel,λ i h=>.quP h⟩)
  ·exact .inl ⟨.inr rfl,.quT⟩
 ·rw [show dU "set" = (["put","cut","has"]:List ZR) by decide +kernel] at hv;simp only [K1,t0,or_false] at hv;rcases hv with rfl|rfl|rfl
  ·exact .inr (.inr ⟨by decide +kernel,by decide +kernel,by decide +kernel,λ i h=>.setP h⟩)
  ·exact .inr (.inr ⟨by decide +kernel,by decide +kernel,by decide +kernel,λ i h=>.setC h⟩)
  ·exact .inr (.inr ⟨by decide +kernel,by decide +kernel,by decide +kernel,λ i h=>.setH h⟩)
 ·rw [show dU "cell" = (["read","write","swap","swap"]:List ZR) by decide +kernel] at hv;simp only [K1,t0,or_false] at hv;rcases hv with rfl|rfl|rfl|rfl
  ·exact .inl ⟨.inl rfl,.celR⟩
  ·exact .inr (.inr ⟨by decide +kernel,by decide +kernel,by decide +kernel,λ i h=>.celW h⟩)
  ·exact .inr (.inl ⟨rfl,λ i j b a=>.celS b a⟩)
  ·exact .inr (.inl ⟨rfl,λ i j b a=>.celS b a⟩)
def ND (z:ZR) (ws:List ZR):lg (.str z) (ws.map V.str)=decide (z∈ws):=by
 unfold lg;rw [j4g,Bool.eq_iff_iff,b7,decide_eq_true_eq];constructor
 ·rintro ⟨x,hx,e⟩;have e:x=z:=eq_of_beq (show (x == z)=true from e);rw [<-e];exact hx
 ·exact λ h=>⟨z,h,(show (z == z)=true from beq_self_eq_true z)⟩
def Nf (k:aL L H H') (n :∀l∈L,H l=none):af H H':=λ b o e=>k b o (λ z=>by rw [n b z] at e;cases e) e
structure gL (H:Hp) (p:ZS) (n:Nat) (f:ZR->Option (List ZR)):Prop where
 ex :∃kvs:List (Key×V),H p=some (.dK kvs)/\kvs.length<=n/\∀k ws,f k=some ws->∃l,bJ kvs (.inr k)=some (.ref l)/\H l=some (.lst (ws.map V.str))
def Fq (kvs:List (Key×V)) (k:Key) (v:V):(putK kvs k v).length<=kvs.length + 1:=by
 unfold putK;split
 ·rw [C0];exact C3 _
 ·rw [G0];exact u0 _
def gL.put {f:ZR->Option (List ZR)} {k:ZR} {ws:List ZR} (hl:H l=none) (e:H p=some (.dK kvs)) (hn:kvs.length<=n) (h :∀k ws,f k=some ws->∃l,bJ kvs (.inr k)=some (.ref l)/\H l=some (.lst (ws.map V.str))) :
  ∃H',H'=upd (upd H l (.lst (ws.map V.str))) p (.dK (putK kvs (.inr k) (.ref l)))/\gL H' p (n + 1) (λ j=>if j=k then some ws else f j)/\aL [p] H H':=by
 have i:p≠l:=fM e hl;refine ⟨_,rfl,⟨_,ab,D0 (Fq _ _ _) (i7 hn),λ j s c=>?_⟩,λ b o r d=>?_⟩
 ·by_cases z:j=k
  ·subst z;rw [ZZ rfl] at c;cases c;refine ⟨l,by rw [rX,ZZ rfl],?_⟩;rw [ak i.symm];exact ab
  ·rw [Z_ z] at c;obtain ⟨m,t,a⟩:=h j s c;refine ⟨m,by rw [rX,Z_ (λ y=>z (m9 y))];exact t,?_⟩;have q:m≠p:=λ y=>by rw [y,e] at a;cases a
   rw [ak q,ak (fM a hl)];exact a
 ·have g:b≠p:=λ z=>r (by rw [z];exact List.mem_singleton.mpr rfl);rw [ak g,ak (fM d hl)];exact d
def rJ {l1 l2 l3:ZS} {k1 k2 k3:ZR} {w1 w2 w3:List ZR} (hp:H p=none) (h1:upd H p (.dK []) l1=none) (h2:upd (upd H p (.dK [])) l1 (.lst (w1.map V.str)) l2=none)
  (h3:upd (upd (upd H p (.dK [])) l1 (.lst (w1.map V.str))) l2 (.lst (w2.map V.str)) l3=none) (n12:k1≠k2) (n13:k1≠k3) (n23:k2≠k3) :
  upd (upd (upd (upd H p (.dK [])) l1 (.lst (w1.map V.str))) l2 (.lst (w2.map V.str))) l3 (.lst (w3.map V.str)) p=some (.dK [])/\
  ∃H',H'=upd (upd (upd (upd (upd H p (.dK [])) l1 (.lst (w1.map V.str))) l2 (.lst (w2.map V.str))) l3 (.lst (w3.map V.str))) p (.dK [(.inr k1,.ref l1),(.inr k2,.ref l2),(.inr k3,.ref l3)])/\af H H'/\
   H' p=some (.dK [(.inr k1,.ref l1),(.inr k2,.ref l2),(.inr k3,.ref l3)])/\∀k ws,(if k=k1 then some w1 else if k=k2 then some w2 else if k=k3 then some w3 else none)=some ws->∃l,bJ [((.inr k1:Key),V.ref l1),(.inr k2,.ref l2),(.inr k3,.ref l3)] (.inr k)=some (.ref l)/\H' l=some (.lst (ws.map V.str)):=by
 have c:p≠l1:=fM ab h1;have f:p≠l2:=fM (by rw [ak c];exact ab) h2;have g:p≠l3:=fM (by rw [ak f,ak c];exact ab) h3;have i:l1≠l2:=fM ab h2;have j:l1≠l3:=fM (by rw [ak i];exact ab) h3;have m:l2≠l3:=fM ab h3;refine ⟨by rw [ak g,ak f,ak c];exact ab,_,rfl,λ b o e=>?_,ab,λ k ws e=>?_⟩
 ·rw [ak (fM e hp)];exact ((((af.upd hp).trans (af.upd h1)).trans (af.upd h2)).trans (af.upd h3)) b o e
 ·have d :∀{a b:ZR},a≠b->(Sum.inr a:Key)≠Sum.inr b:=λ h e=>h (m9 e);by_cases z1:k=k1
  ·rw [ZZ z1] at e;cases e;exact ⟨l1,by rw [z1];exact jf rfl,by rw [ak c.symm,ak j,ak i];exact ab⟩
  ·rw [Z_ z1] at e;by_cases z2:k=k2
   ·rw [ZZ z2] at e;cases e;exact ⟨l2,by rw [z2,ja (d n12)];exact jf rfl,by rw [ak f.symm,ak m];exact ab⟩
   ·rw [Z_ z2] at e;by_cases z3:k=k3
    ·rw [ZZ z3] at e;cases e;exact ⟨l3,by rw [z3,ja (d n13),ja (d n23)];exact jf rfl,by rw [ak g.symm];exact ab⟩
    ·rw [Z_ z3] at e;cases e
def cv (H:Hp) (d:Dt) (x:V):Prop:=∀a b:Int,d=.tup [.int a,.int b]->∃t,x=.ref t/\H t=some (.tup [.int a,.int b])
def e9:(10:Int) ^ (9:Int).toNat=1000000000:=by decide
def p9:uE 10 9:=⟨by decide,by decide,by decide⟩
end
variable {d:Dt}
section
inductive Sv
 | num (i:Int)
 | row (ns:List Int)
def cT (k:ZR):Prop:=k = "queue"\/k = "set"
instance (k:ZR):Decidable (cT k):=by unfold cT;infer_instance
noncomputable def wx (k v:ZR):Nat:=if k = "queue" then (if v = "put" then 0 else 1) else if k = "set" then (if v = "put" then 2 else if v = "cut" then 3 else 4) else if v = "read" then 5 else if v = "add" then 6 else if v = "write" then 7 else 8
noncomputable def dI:Dt->Int
 | .int i=>i
 | _=>0
noncomputable def mi (ns:List Int):List Int:=ns.mergeSort λ a b=>decide (a<=b)
noncomputable def FT:Nat->Dt->Sv->Sv×V
 | 0,d,.row ns=>(.row (ns++[dI d]),.str "ok")
 | 1,_,.row []=>(.row [],.str "none")
 | 1,_,.row (m :: r)=>(.row r,.int m)
 | 2,d,.row ns=>if dI d∈ns then (.row ns,.int 0) else (.row (mi (ns++[dI d])),.int 1)
 | 3,d,.row ns=>(.row (ns.filter λ j=>!decide (j=dI d)),.int (if dI d∈ns then 1 else 0))
 | 4,d,.row ns=>(.row ns,.int (if dI d∈ns then 1 else 0))
 | 5,_,.num i=>(.num i,.int i)
 | 6,d,.num i=>(.num (i + dI d),.int i)
 | 7,d,.num _=>(.num (dI d),.str "ok")
 | 8,.tup [.int a,.int b],.num i=>if i=a then (.num b,.int 1) else (.num i,.int 0)
 | _,_,s=>(s,.non)
noncomputable def dz (k v:ZR) (d:Dt) (s:Sv):Sv×V:=FT (wx k v) d s
def eN {k v:ZR} {s:Sv} (h:wx k v=n):dz k v d s=FT n d s:=by unfold dz;rw [h]
def jW {i:Int} {ns:List Int}:dz "queue" "put" (.int i) (.row ns)=(.row (ns++[i]),.str "ok"):=eN (n:=0) (by decide +kernel)
def Aa:dz "queue" "take" d (.row [])=(.row [],.str "none"):=eN (n:=1) (by decide +kernel)
def kd {m:Int} {r:List Int}:dz "queue" "take" d (.row (m :: r))=(.row r,.int m):=eN (n:=1) (by decide +kernel)
def xo {i:Int} {ns:List Int}:dz "set" "put" (.int i) (.row ns)=if i∈ns then (.row ns,.int 0) else (.row (mi (ns++[i])),.int 1):=eN (n:=2) (by decide +kernel)
def yP {i:Int} {ns:List Int}:dz "set" "cut" (.int i) (.row ns)=(.row (ns.filter λ j=>!decide (j=i)),.int (if i∈ns then 1 else 0)):=eN (n:=3) (by decide +kernel)
def zY {i:Int} {ns:List Int}:dz "set" "has" (.int i) (.row ns)=(.row ns,.int (if i∈ns then 1 else 0)):=eN (n:=4) (by decide +kernel)
def zv {i:Int}:dz "register" "read" d (.num i)=(.num i,.int i):=eN (n:=5) (by decide +kernel)
def Ay {i:Int}:dz "counter" "read" d (.num i)=(.num i,.int i):=eN (n:=5) (by decide +kernel)
def CZ {i:Int}:dz "cell" "read" d (.num i)=(.num i,.int i):=eN (n:=5) (by decide +kernel)
def Bj {i j:Int}:dz "counter" "add" (.int j) (.num i)=(.num (i + j),.int i):=eN (n:=6) (by decide +kernel)
def BF {i j:Int}:dz "register" "write" (.int j) (.num i)=(.num j,.str "ok"):=eN (n:=7) (by decide +kernel)
def Bo {i j:Int}:dz "cell" "write" (.int j) (.num i)=(.num j,.str "ok"):=eN (n:=7) (by decide +kernel)
def xt {i a b:Int}:dz "cell" "swap" (.tup [.int a,.int b]) (.num i)=if i=a then (.num b,.int 1) else (.num i,.int 0):=eN (n:=8) (by decide +kernel)
def Bh (ns:List Int):(mi ns).Perm ns:=List.mergeSort_perm ns _
def yy (ns:List Int):(mi ns).Pairwise (·<=·):=by have:=j4a (le:=λ a b:Int=>decide (a<=b)) (λ a b c e d=>ZY (Int.le_trans (ZW e) (ZW d))) (λ a b=>by rcases Int.le_total a b with h|h<;>simp [h]) ns;exact this.imp λ h=>ZW h
def Hl {xs ys:List Int} (p:xs.Perm ys) (hx:xs.Pairwise (·<=·)) (hy:ys.Pairwise (·<=·)):xs=ys:=p.eq_of_pairwise (le:=(·<=·)) (λ _ _ _ _ b a=>Int.le_antisymm b a) hx hy
theorem OW {ns:List Int} (h:ns.Pairwise (· < ·)):ns.Nodup:=h.imp λ z e=>by lia
noncomputable def cU (n:Nat) (k:ZR):Sv->Prop
 | .row ns=>cT k/\ns.length<=n/\(∀i∈ns,near i)/\(k = "set"->ns.Pairwise (· < ·))
 | .num i=>¬ cT k/\-(1000000000 * (n:Int))<=i/\i<=1000000000 * (n:Int)
def jA (a:V):Prop:=a=.str "ok"\/a=.str "none"\/∃i:Int,a=.int i/\-100000000000<=i/\i<=100000000000
theorem cU.le {k:ZR} :∀{s:Sv},n<=m->cU n k s->cU m k s
 | .row _,l,h=>⟨h.1,D0 h.2.1 l,h.2.2⟩
 | .num _,l,h=>⟨h.1,by have:=h.2.1;lia,by have:=h.2.2;lia⟩
theorem cU.isRow {k:ZR} :∀{s:Sv},cU n k s->cT k->∃ns,s=.row ns/\ns.length<=n/\(∀i∈ns,near i)/\(k = "set"->ns.Pairwise (· < ·))
 | .row ns,h,_=>⟨ns,rfl,h.2⟩
 | .num _,h,hk=>ZV hk h.1
theorem cU.isNum {k:ZR} :∀{s:Sv},cU n k s->¬ cT k->∃i,s=.num i/\-(1000000000 * (n:Int))<=i/\i<=1000000000 * (n:Int)
 | .row _,h,hk=>ZV h.1 hk
 | .num i,h,_=>⟨i,rfl,h.2⟩
def cU.row {k:ZR} {ns:List Int} (h1:cT k) (h2:ns.length<=n) (h3 :∀i∈ns,near i) (h4:k = "set"->ns.Pairwise (· < ·)):cU n k (.row ns):=⟨h1,h2,h3,h4⟩
def cU.num {k:ZR} {i:Int} (h1:¬ cT k) (h2:-(1000000000 * (n:Int))<=i) (h3:i<=1000000000 * (n:Int)):cU n k (.num i):=⟨h1,h2,h3⟩
def mU {i:Int} (h0:-100000000000<=i) (h1:i<=100000000000):jA (.int i):=.inr (.inr ⟨i,rfl,h0,h1⟩)
def ot {p:Prop} [Decidable p]:jA (.int (if p then 1 else 0)):=by
 by_cases h:p
 ·rw [ZZ h];exact mU (by decide) (by decide)
 ·rw [Z_ h];exact mU (by decide) (by decide)
theorem iC {k v:ZR} {s:Sv} (hd:bp k v d) (h:cU n k s) (hn:n < 63):cU (n + 1) k (dz k v d s).1/\jA (dz k v d s).2:=by
 have t:cT "queue":=.inl rfl;have q:cT "set":=.inr rfl;have x:("queue" : ZR)≠"set":=by decide +kernel
 have u:¬ cT "register":=by decide +kernel
 have w:¬ cT "counter":=by decide +kernel
 have p:¬ cT "cell":=by decide +kernel
 cases hd with
 | quP ni=>
  obtain ⟨l,rfl,f,c,o⟩:=h.isRow t;rw [jW];refine ⟨.row t (by rw [G0];exact i7 f) (λ j g=>?_) λ z=>ZV z x,.inl rfl⟩;rcases List.mem_append.mp g with y|y
  ·exact c j y
  ·rw [List.mem_singleton.mp y];exact ni
 | quT=>
  obtain ⟨l,rfl,f,c,o⟩:=h.isRow t;cases l with
  | nil=>rw [Aa];exact ⟨.row t (S1 _) (λ j g=>by cases g) (λ z=>ZV z x),.inr (.inl rfl)⟩
  | cons m r=>rw [kd];rw [P0] at f;have B:=c m R0;exact ⟨.row t (by lia) (λ j g=>c j (W0 _ g)) (λ z=>ZV z x),mU (by have:=B.1;lia) (by have:=B.2;lia)⟩
 | setP ni=>
  rename_i i;obtain ⟨l,rfl,f,c,o⟩:=h.isRow q;rw [xo];by_cases z:i∈l
  ·rw [ZZ z];exact ⟨.row q (S5 f) c o,mU (by decide) (by decide)⟩
  ·rw [Z_ z];have A:=Bh (l++[i]);refine ⟨.row q (by rw [A.length_eq,G0];exact i7 f) (λ j g=>?_) (λ _=>?_),mU (by decide) (by decide)⟩
   ·rcases List.mem_append.mp (A.mem_iff.mp g) with y|y
    ·exact c j y
    ·rw [List.mem_singleton.mp y];exact ni
   ·have E:(mi (l++[i])).Nodup:=A.nodup_iff.mpr (by rw [K5];exact ⟨OW (o rfl),by simp,λ a C b D e=>z (by rw [<-List.mem_singleton.mp D,<-e];exact C)⟩);exact ((yy (l++[i])).and E).imp λ h=>by have:=h.1;have:=h.2;lia
 | setC ni=>obtain ⟨l,rfl,f,c,o⟩:=h.isRow q;rw [yP];exact ⟨.row q (D0 (U2 _ _) (S5 f)) (λ j g=>c j (List.mem_filter.mp g).1) (λ z=>(o z).filter _),ot⟩
 | setH ni=>obtain ⟨l,rfl,f,c,o⟩:=h.isRow q;rw [zY];exact ⟨.row q (S5 f) c o,ot⟩
 | regR=>obtain ⟨a,rfl,f,c⟩:=h.isNum u;rw [zv];exact ⟨.num u (by lia) (by lia),mU (by lia) (by lia)⟩
 | cntR=>obtain ⟨a,rfl,f,c⟩:=h.isNum w;rw [Ay];exact ⟨.num w (by lia) (by lia),mU (by lia) (by lia)⟩
 | celR=>obtain ⟨a,rfl,f,c⟩:=h.isNum p;rw [CZ];exact ⟨.num p (by lia) (by lia),mU (by lia) (by lia)⟩
 | cntA ni=>obtain ⟨a,rfl,f,c⟩:=h.isNum w;rw [Bj];have:=ni.1;have:=ni.2;exact ⟨.num w (by lia) (by lia),mU (by lia) (by lia)⟩
 | regW ni=>obtain ⟨a,rfl,f,c⟩:=h.isNum u;rw [BF];have:=ni.1;have:=ni.2;exact ⟨.num u (by lia) (by lia),.inl rfl⟩
 | celW ni=>obtain ⟨a,rfl,f,c⟩:=h.isNum p;rw [Bo];have:=ni.1;have:=ni.2;exact ⟨.num p (by lia) (by lia),.inl rfl⟩
 | celS ni nj=>
  rename_i i j;obtain ⟨a,rfl,f,c⟩:=h.isNum p;rw [xt];have:=nj.1;have:=nj.2;by_cases z:a=i
  ·rw [ZZ z];exact ⟨.num p (by lia) (by lia),mU (by decide) (by decide)⟩
  ·rw [Z_ z];exact ⟨.num p (by lia) (by lia),mU (by decide) (by decide)⟩
noncomputable def gX (K:b0) (H:Hp):Sv->V->Prop
 | .row ns,v=>∃p,v=.ref p/\aH K H p (ns.map V.int)
 | .num i,v=>v=.int i
theorem gX.tups (t:bA K H H') :∀{s:Sv} {v:V},gX K H s v->gX K H' s v
 | .row _,_,h=>h.elim λ p z=>⟨p,z.1,t _ _ z.2⟩
 | .num _,_,h=>h
noncomputable def aT (k:ZR):Sv:=if cT k then .row [] else .num 0
theorem Dd (k:ZR):cU 0 k (aT k):=by
 unfold aT;by_cases h:cT k
 ·rw [ZZ h];exact .row h (u0 _) (λ i a=>by cases a) (λ _=>.nil)
 ·rw [Z_ h];exact .num h (by lia) (by lia)
end
variable {Q:VK} {ts:List (ZR×ZR)}
section
structure Tt (K:b0) (H H':Hp):Prop where
 t:bA K H H'
 l :∀a xs,H a=some (.tup xs)->H' a=some (.tup xs)
def Tt.of (s:af H H'):Tt K H H':=⟨.of s,λ _ _ h=>s _ _ h⟩
def Tt.trans (a:Tt K H H1) (b:Tt K H1 H2):Tt K H H2:=⟨a.t.trans b.t,λ _ _ h=>b.l _ _ (a.l _ _ h)⟩
def jw (H:Hp) (l:ZS):Prop:=(∃zs,H l=some (.lst zs))\/∃kvs:List (Key×V),H l=some (.dK kvs)
def aL.tt (k:aL L H H') (m :∀l∈L,jw H l):Tt K H H':=by
 refine ⟨λ a b h=>?_,λ a b h=>k _ _ (λ z=>?_) h⟩
 ·rcases h with (h|⟨ob,h⟩)|h
  ·exact .inl (.inl (k _ _ (λ z=>by rcases m a z with ⟨_,e⟩|⟨_,e⟩<;>(rw [h] at e;cases e)) h))
  ·exact .inl (.inr ⟨ob,k _ _ (λ z=>by rcases m a z with ⟨_,e⟩|⟨_,e⟩<;>(rw [h] at e;cases e)) h⟩)
  ·exact .inr h
 ·rcases m a z with ⟨_,e⟩|⟨_,e⟩<;>(rw [h] at e;cases e)
def gG (H:Hp) (p:ZS) (ts:List (ZR×ZR)):Prop:=∃ys,H p=some (.tup ys)/\av (λ (t:ZR×ZR) y=>∃b,y=.ref b/\H b=some (.tup [.str t.1,.str t.2])) ts ys
structure nP (ts:List (ZR×ZR)):Prop where
 n0:0 < ts.length
 n6:ts.length<=6
 nd:(ts.map (·.1)).Nodup
 ks :∀t∈ts,t.2∈bT
def gG.tt (t:Tt K H H') (h:gG H p ts):gG H' p ts:=h.elim λ a z=>⟨a,t.l _ _ z.1,bI (λ _ _ y=>y.elim λ b x=>⟨b,x.1,t.l _ _ x.2⟩) z.2⟩
def oz (K:b0) (x y:V) (H:Hp):Prop:=∃(n k:ZR) (b:ZS),x=.str n/\y=.ref b/\k∈bT/\H b=some (.tup [.str n,.str k])
theorem EM:∀{ks:List ZR} {ys:List V},av (λ x y=>oz K x y H) (ks.map V.str) ys->∃ts:List (ZR×ZR),ts.map (·.1)=ks/\(∀t∈ts,t.2∈bT)/\av (λ (t:ZR×ZR) y=>∃b,y=.ref b/\H b=some (.tup [.str t.1,.str t.2])) ts ys
 | [],_,h=>by cases h;exact ⟨[],rfl,λ _ z=>ZV z t0,.nil⟩
 | n :: ks,_,h=>by
  cases h with
  | cons a r=>
   obtain ⟨ts,e,l,j⟩:=EM r;obtain ⟨m,k,b,g,f,d,i⟩:=a;cases g;refine ⟨(n,k) :: ts,by rw [C1,e],λ t c=>?_,.cons ⟨b,f,i⟩ j⟩;rcases List.mem_cons.mp c with z|z
   ·rw [z];exact d
   ·exact l t z
def cv.tt (t:Tt K H H') (h:cv H d x):cv H' d x:=λ a b e=>(h a b e).elim λ p z=>⟨p,z.1,t.l _ _ z.2⟩
theorem qF {k v:ZR} {st:V} {sv:Sv} {E:XK} (so:cU n k sv) (sz:gX (kx w) H sv st) (hn:n < 63) (hd:bp k v d) (hx:bV (kx w) H d x) (wi:cv H d x)
  (q :∀p st' H',af H H'->H' p=some (.tup [st',(dz k v d sv).2])->gX (kx w) H' (dz k v d sv).1 st'->Q (.ref p) H'):mJ (kx w) [.str k,st,.str v,x] H Q E:=by
 have B :∀i:Int,Flat H (.int i):=λ i J e=>by cases e
 have F:Flat H .non:=λ J e=>by cases e
 have s :∀i:Int,near i->iU (.int i) 1000000000=true:=λ i h=>by unfold iU;dsimp only;rw [ZY h.1,ZY h.2];rfl
 have K:cT "queue":=.inl rfl;have G:cT "set":=.inr rfl;cases hd with
 | quP ni=>rename_i i;obtain ⟨o,rfl,D,_,_⟩:=so.isRow K;obtain ⟨t,rfl,l⟩:=sz;cases (show x=V.int i from hx);rw [jW] at q;refine ⟨_,_,_,_,_,_,_,rfl,rfl,B i,(fQ (by decide +kernel)).trans (s i ni),by decide +kernel,.inr (.inr (.inr (.inl ⟨rfl,rfl⟩))),λ H' b=>⟨t,_,_,rfl,b.seqT l,by rw [C0];lia,λ p A C c f u=>q p _ _ (b.trans c) f ⟨A,rfl,?_⟩⟩⟩;rw [show (o++[i]).map V.int=o.map V.int++[V.int i] by rw [u1];rfl];exact u
 | quT=>
  obtain ⟨o,rfl,D,_,_⟩:=so.isRow K;obtain ⟨t,rfl,l⟩:=sz;cases (show x=V.non from hx);refine ⟨_,_,_,_,_,_,_,rfl,rfl,F,(i_ (by decide +kernel)).trans rfl,by decide +kernel,.inr (.inr (.inr (.inr (.inl ⟨rfl,rfl⟩)))),λ H' b=>⟨t,o.map V.int,_,rfl,b.seqT l,λ e p C c f=>?_,λ m r e p A C c f u=>?_⟩⟩
  ·cases o with
   | nil=>rw [Aa] at q;exact q p _ _ (b.trans c) f ⟨t,rfl,(b.trans c).seqT l⟩
   | cons m r=>cases e
  ·cases o with
   | nil=>cases e
   | cons m' r'=>rw [kd] at q;rw [C1] at e;injection e with e1 e3;subst e1 e3;exact q p _ _ (b.trans c) f ⟨A,rfl,u⟩
 | setP ni=>
  rename_i i;obtain ⟨o,rfl,D,_,L⟩:=so.isRow G;obtain ⟨t,rfl,l⟩:=sz;cases (show x=V.int i from hx);rw [xo] at q;refine ⟨_,_,_,_,_,_,_,rfl,rfl,B i,(fQ (by decide +kernel)).trans (s i ni),by decide +kernel,.inr (.inr (.inr (.inr (.inr (.inl ⟨rfl,rfl⟩))))),λ H' b=>⟨t,o,_,rfl,b.seqT l,by lia,λ z p C c f=>?_,λ z p A R C c f u O N=>?_⟩⟩
  ·rw [ZZ z] at q;exact q p _ _ (b.trans c) f ⟨t,rfl,(b.trans c).seqT l⟩
  ·rw [Z_ z] at q;rw [Hl (O.trans (Bh _).symm) N (yy _)] at u;exact q p _ _ (b.trans c) f ⟨A,rfl,u⟩
 | setC ni=>
  rename_i i;obtain ⟨o,rfl,D,_,L⟩:=so.isRow G;obtain ⟨t,rfl,l⟩:=sz;cases (show x=V.int i from hx);rw [yP] at q;refine ⟨_,_,_,_,_,_,_,rfl,rfl,B i,(fQ (by decide +kernel)).trans (s i ni),by decide +kernel,.inr (.inr (.inr (.inr (.inr (.inr (.inl ⟨rfl,rfl⟩)))))),λ H' b=>⟨t,o,_,rfl,b.seqT l,by lia,λ z p C c f=>?_,λ z p A C c f u=>?_⟩⟩
  ·rw [Z_ z,List.filter_eq_self.mpr (λ j P=>by simp;exact λ e=>z (e ▸ P))] at q;exact q p _ _ (b.trans c) f ⟨t,rfl,(b.trans c).seqT l⟩
  ·rw [ZZ z] at q;exact q p _ _ (b.trans c) f ⟨A,rfl,u⟩
 | setH ni=>rename_i i;obtain ⟨o,rfl,D,_,L⟩:=so.isRow G;obtain ⟨t,rfl,l⟩:=sz;cases (show x=V.int i from hx);rw [zY] at q;exact ⟨_,_,_,_,_,_,_,rfl,rfl,B i,(fQ (by decide +kernel)).trans (s i ni),by decide +kernel,.inr (.inr (.inr (.inr (.inr (.inr (.inr (.inl ⟨rfl,rfl⟩))))))),λ H' b=>⟨t,o,_,rfl,b.seqT l,λ p C c f=>q p _ _ (b.trans c) f ⟨t,rfl,(b.trans c).seqT l⟩⟩⟩
 | regR=>obtain ⟨a,rfl,_⟩:=so.isNum (by decide +kernel);cases (show st=V.int a from sz);cases (show x=V.non from hx);rw [zv] at q;exact ⟨_,_,_,_,_,_,_,rfl,rfl,F,(i_ (by decide +kernel)).trans rfl,by decide +kernel,.inl ⟨rfl,rfl⟩,λ H' b=>⟨_,_,rfl,λ p g=>q p _ _ (b.trans (af.upd g)) ab rfl⟩⟩
 | cntR=>obtain ⟨a,rfl,_⟩:=so.isNum (by decide +kernel);cases (show st=V.int a from sz);cases (show x=V.non from hx);rw [Ay] at q;exact ⟨_,_,_,_,_,_,_,rfl,rfl,F,(i_ (by decide +kernel)).trans rfl,by decide +kernel,.inl ⟨rfl,rfl⟩,λ H' b=>⟨_,_,rfl,λ p g=>q p _ _ (b.trans (af.upd g)) ab rfl⟩⟩
 | celR=>obtain ⟨a,rfl,_⟩:=so.isNum (by decide +kernel);cases (show st=V.int a from sz);cases (show x=V.non from hx);rw [CZ] at q;exact ⟨_,_,_,_,_,_,_,rfl,rfl,F,(i_ (by decide +kernel)).trans rfl,by decide +kernel,.inl ⟨rfl,rfl⟩,λ H' b=>⟨_,_,rfl,λ p g=>q p _ _ (b.trans (af.upd g)) ab rfl⟩⟩
 | cntA ni=>rename_i i;obtain ⟨a,rfl,_⟩:=so.isNum (by decide +kernel);cases (show st=V.int a from sz);cases (show x=V.int i from hx);rw [Bj] at q;exact ⟨_,_,_,_,_,_,_,rfl,rfl,B i,(fQ (by decide +kernel)).trans (s i ni),by decide +kernel,.inr (.inr (.inl ⟨rfl,rfl⟩)),λ H' b=>⟨_,_,rfl,λ p g=>q p _ _ (b.trans (af.upd g)) ab rfl⟩⟩
 | regW ni=>rename_i i;obtain ⟨a,rfl,_⟩:=so.isNum (by decide +kernel);cases (show st=V.int a from sz);cases (show x=V.int i from hx);rw [BF] at q;exact ⟨_,_,_,_,_,_,_,rfl,rfl,B i,(fQ (by decide +kernel)).trans (s i ni),by decide +kernel,.inr (.inl ⟨rfl,rfl⟩),λ H' b=>⟨_,_,rfl,λ p g=>q p _ _ (b.trans (af.upd g)) ab rfl⟩⟩
 | celW ni=>rename_i i;obtain ⟨a,rfl,_⟩:=so.isNum (by decide +kernel);cases (show st=V.int a from sz);cases (show x=V.int i from hx);rw [Bo] at q;exact ⟨_,_,_,_,_,_,_,rfl,rfl,B i,(fQ (by decide +kernel)).trans (s i ni),by decide +kernel,.inr (.inl ⟨rfl,rfl⟩),λ H' b=>⟨_,_,rfl,λ p g=>q p _ _ (b.trans (af.upd g)) ab rfl⟩⟩
 | celS ni nj=>
  rename_i i j;obtain ⟨a,rfl,_⟩:=so.isNum (by decide +kernel);cases (show st=V.int a from sz);obtain ⟨t,rfl,e⟩:=wi i j rfl;have I:cW H (.ref t)=some [.int i,.int j]:=by unfold cW;dsimp only;rw [e]
  rw [xt] at q;refine ⟨_,_,_,_,_,_,"tuple",rfl,.inr (.inl ⟨⟨_,e⟩,rfl⟩),λ J z=>?_,?_,by decide +kernel,.inr (.inr (.inr (.inr (.inr (.inr (.inr (.inr ⟨rfl,rfl⟩))))))),λ H' b=>⟨a,i,j,t,rfl,aH.of (b _ _ e),λ p g=>?_⟩⟩
  ·rw [I] at z;cases z;exact ⟨(show (2:Nat)<=1000 by decide),λ y M=>⟨"int",by simp only [K1,t0,or_false] at M;rcases M with rfl|rfl<;>rfl⟩⟩
  ·rw [pC (by decide +kernel) I];show (true && (iU (.int i) 1000000000 && (iU (.int j) 1000000000 && true)))=true;rw [s i ni,s j nj];rfl
  ·by_cases z:a=i
   ·rw [ZZ z] at q⊢;exact q p _ _ (b.trans (af.upd g)) ab rfl
   ·rw [Z_ z] at q⊢;exact q p _ _ (b.trans (af.upd g)) ab rfl
def nG (a:V):Prop:=(∃i,a=.int i)\/∃z,a=.str z
def jA.isA {a:V} (h:jA a):nG a:=by
 rcases h with rfl|rfl|⟨i,rfl,_⟩
 ·exact .inr ⟨_,rfl⟩
 ·exact .inr ⟨_,rfl⟩
 ·exact .inl ⟨_,rfl⟩
def nG.scal {a b:V} (ha:nG a\/a=.non) (hb:nG b\/b=.non):L2.scal a b=true:=by rcases ha with (⟨i,rfl⟩|⟨i,rfl⟩)|rfl<;>rcases hb with (⟨j,rfl⟩|⟨j,rfl⟩)|rfl<;>rfl
noncomputable def jt (K:b0) (H:Hp) (ts:List (ZR×ZR)):Ev->Prop
 | .beg _ n v x=>∃(nm k vb:ZR) (dt:Dt),n=.str nm/\v=.str vb/\(nm,k)∈ts/\bp k vb dt/\bV K H dt x/\cv H dt x
 | .fin _ a=>nG a
theorem jt.tt (t:Tt K H H') :∀{e:Ev},jt K H ts e->jt K H' ts e
 | .beg _ _ _ _,⟨nm,k,vb,dt,e1,e2,hm,dk,ix,wi⟩=>⟨nm,k,vb,dt,e1,e2,hm,dk,bV.mono' t.t dt _ ix,wi.tt t⟩
 | .fin _ _,h=>h
structure DD where
 nm:ZR
 k:ZR
 vb:ZR
 dt:Dt
def dq (K:b0) (H:Hp) (ts:List (ZR×ZR)) (r:Rc) (p:DD):Prop:=r.n=.str p.nm/\r.v=.str p.vb/\(p.nm,p.k)∈ts/\bp p.k p.vb p.dt/\bV K H p.dt r.x/\cv H p.dt r.x/\((r.e=none/\r.a=.non)\/(r.e.isSome=true/\nG r.a))
def dq.tt {r:Rc} {p:DD} (t:Tt K H H') (h:dq K H ts r p):dq K H' ts r p:=⟨h.1,h.2.1,h.2.2.1,h.2.2.2.1,bV.mono' t.t _ _ h.2.2.2.2.1,h.2.2.2.2.2.1.tt t,h.2.2.2.2.2.2⟩
theorem DR {α β:Type} {R:α->β->Prop} {f:α->α} (hf :∀x y,R x y->R (f x) y) :∀{xs:List α} {ys:List β} (j:Nat),av R xs ys->av R (xs.modify j f) ys
 | _,_,j,.nil=>by cases j<;>exact .nil
 | _,_,0,.cons a r=>.cons (hf _ _ a) r
 | _,_,j + 1,.cons a r=>.cons a (DR hf j r)
theorem kz:∀{es:List Ev} {i:Nat} {rs:List Rc} {ps:List DD},(∀e∈es,jt K H ts e)->av (dq K H ts) rs ps->∃ps',av (dq K H ts) (aI i rs es) ps'
 | [],_,_,ps,_,h=>⟨ps,h⟩
 | e :: es,i,rs,ps,g,h=>by
  have b:=g e R0;have c :∀x∈es,jt K H ts x:=λ x s=>g x (W0 _ s);cases e with
  | beg hd n v x=>obtain ⟨o,k,p,m,r,l,f,d,t,q⟩:=b;exact kz (es:=es) c (lJ (x:=(⟨hd,n,v,x,.non,i,none⟩:Rc)) (y:=(⟨o,k,p,m⟩:DD)) h ⟨r,l,f,d,t,q,.inl ⟨rfl,rfl⟩⟩)
  | fin hd a=>
   have b:nG a:=b;show∃ps',av _ (aI (i + 1) (aE i rs (.fin hd a)) es) ps';unfold aE;dsimp only;cases bD hd (rs.map Rc.h) with
   | none=>exact kz (es:=es) c h
   | some j=>exact kz (es:=es) c (DR (λ x y z=>⟨z.1,z.2.1,z.2.2.1,z.2.2.2.1,z.2.2.2.2.1,z.2.2.2.2.2.1,.inr ⟨rfl,b⟩⟩) j h)
end
variable {c:Nat->Bool} {ns:List Nat} {ps:List DD} {us:List V}
section
noncomputable def dN (ns:List Nat):List V:=ns.map λ (n:Nat)=>V.int (n:Int)
def sQ (ns:List Nat):(dN ns).length=ns.length:=C0 ..
theorem cY (i:Nat) (ns:List Nat):lg (.int (i:Nat)) (dN ns)=decide (i∈ns):=by
 unfold lg dN;rw [j4g,Bool.eq_iff_iff,b7,decide_eq_true_iff];constructor
 ·rintro ⟨n,hn,e⟩;have e:((n:Int))=i:=ZW e;rw [show i=n by lia];exact hn
 ·exact λ h=>⟨i,h,ZY rfl⟩
def nI (ns:List Nat):(dN ns).all fh=true:=by unfold dN;rw [List.all_map];exact List.all_eq_true.mpr λ _ _=>rfl
def OI (h:av (λ (a:Nat) y=>y=V.int (a:Nat)) ns us):us=dN ns:=by
 induction h with
 | nil=>rfl
 | cons a r ih=>subst a;rw [ih];rfl
noncomputable def dO (ns:List Nat):List Nat:=ns.mergeSort λ a b=>decide (a<=b)
def ve (ns:List Nat):(dO ns).Perm ns:=List.mergeSort_perm ns _
def Mr (ns:List Nat):(dO ns).Pairwise (·<=·):=by have:=j4a (le:=λ a b:Nat=>decide (a<=b)) (λ a b c e d=>ZY (D0 (ZW e) (ZW d))) (λ a b=>by rcases Nat.le_total a b with h|h<;>simp [h]) ns;exact this.imp λ h=>ZW h
def Ew {ns':List Int} {xs:List Nat} (p:ns'.Perm (xs.map λ (n:Nat)=>(n:Int))) (s:ns'.Pairwise (·<=·)):ns'.map V.int=dN (dO xs):=by
 have e:ns'=(dO xs).map λ (n:Nat)=>(n:Int):=by refine (p.trans ((ve xs).symm.map _)).eq_of_pairwise (le:=(·<=·)) (λ _ _ _ _ d c=>Int.le_antisymm d c) s ?_;exact List.Pairwise.map _ (λ a b h=>Int.ofNat_le.mpr h) (Mr xs)
 rw [e];unfold dN;rw [v3];rfl
theorem idx_eq:∀{l:List ZR} {x:ZR} {i:Nat},l.Nodup->l[i]? = some x->l.idxOf x=i
 | [],_,_,_,h=>by cases h
 | y :: l,x,i,nd,h=>by
  rw [List.nodup_cons] at nd;rw [List.idxOf_cons];cases i with
  | zero=>rw [d3] at h;cases h;rw [beq_self_eq_true];rfl
  | succ i=>rw [G2] at h;have:¬ y=x:=λ z=>nd.1 (z ▸ K0 h);rw [beq_eq_false_iff_ne.mpr this];show l.idxOf x + 1=_;rw [idx_eq nd.2 h]
noncomputable abbrev Pl:=List Nat×List Sv
noncomputable abbrev nN:=Nat×V×Pl
noncomputable def fX (ts:List (ZR×ZR)) (nm:ZR):Nat:=(ts.map (·.1)).idxOf nm
noncomputable def eQ (ts:List (ZR×ZR)) (r:Rc) (p:DD) (n:Nat) (pl:Pl):Option nN:=match pl.2[fX ts p.nm]? with
 | some s=>if r.e.isNone || decide ((dz p.k p.vb p.dt s).2=r.a) then some (n,(dz p.k p.vb p.dt s).2,(dO (pl.1++[n]),pl.2.set (fX ts p.nm) (dz p.k p.vb p.dt s).1)) else none
 | none=>none
noncomputable def dC (c:Nat->Bool) (ts:List (ZR×ZR)) (rs:List Rc) (ps:List DD) (pl:Pl) (n:Nat):Option nN:=if c n=true then (match rs[n]?,ps[n]? with|some r,some p=>eQ ts r p n pl|_,_=>none) else none
noncomputable def eM (c:Nat->Bool) (ts:List (ZR×ZR)) (rs:List Rc) (ps:List DD) (pl:Pl) (i:Nat):List nN:=(B1 i).filterMap (dC c ts rs ps pl)
def uQ {rs:List Rc} {pl:Pl} :eM c ts rs ps pl (i + 1)=eM c ts rs ps pl i++(dC c ts rs ps pl i).toList:=by unfold eM;rw [E7,j5a];congr 1
def AR {rs:List Rc} {pl:Pl} :(eM c ts rs ps pl i).length<=i:=by unfold eM;exact D0 (E8 _ _) (by rw [F2];exact u0 _)
noncomputable def cO (m:Nat) (rs:List Rc) (ns:List Nat) (n:Nat):Bool:=decide (n∉ns) && decide (∀a∈B1 rs.length,fH m rs a n=true->a∈ns)
noncomputable def cP (m:Nat) (rs:List Rc) (ns:List Nat) (n:Nat):Bool:=cO m rs ns n && decide (∀b∈B1 rs.length,fH m rs n b=true->b∉ns)
noncomputable def cM (m:Nat) (rs:List Rc) (ns:List Nat) (n:Nat):Bool:=decide (n∉ns) && decide (∀a∈B1 rs.length,fH m rs a n=true->(∃r,rs[a]? = some r/\r.e.isSome=true)->a∈ns) && decide (∀b∈ns,fH m rs n b=false)
def lI {rs:List Rc} {a b:Nat} (h:fH m rs a b=true):a < rs.length/\b < rs.length:=by
 unfold fH at h;cases ea:rs[a]? with
 | none=>rw [ea] at h;cases h
 | some r=>
  cases eb:rs[b]? with
  | none=>rw [ea,eb] at h;cases h
  | some q=>exact ⟨(List.getElem?_eq_some_iff.mp ea).1,(List.getElem?_eq_some_iff.mp eb).1⟩
theorem MN {rs:List Rc} {a b:Nat} {r:Rc} (I:cu i rs os) (h:fH m rs a b=true) (ha:rs[a]? = some r):r.e.isSome=true:=by
 obtain ⟨_,f⟩:=lI h;have c:rs[b]? = some rs[b]:=B0 f;generalize rs[b]=q at c;rw [pD ha c] at h
 match m,h with
 | 0,h=>
  have h:lu r.e q.b=true:=h;cases e:r.e with
  | none=>rw [e] at h;cases h
  | some x=>rfl
 | 1,h=>
  have h:(decide (r.h=q.h) && decide (r.b < q.b))=true:=h;rw [J2,decide_eq_true_iff,decide_eq_true_iff] at h;have d:a < b:=by
   rcases Nat.lt_trichotomy a b with z|z|z
   ·exact z
   ·subst z;rw [ha] at c;cases c;lia
   ·have:=(I.p b a q r z c ha).1;lia
  obtain ⟨x,g,_⟩:=(I.p a b r q d ha c).2 h.1;rw [g];rfl
 | m + 2,h=>cases (show false=true from h)
def uI {rs:List Rc} (I:cu i rs os) (lt :∀x∈ns,x < rs.length) :cM m rs ns n=cP m rs ns n:=by
 unfold cM cP cO;rw [Bool.eq_iff_iff];simp only [J2,decide_eq_true_iff];constructor
 ·rintro ⟨⟨h1,h2⟩,h3⟩;refine ⟨⟨h1,λ a d h=>h2 a d h ?_⟩,λ b _ c z=>?_⟩
  ·have g:=List.mem_range.mp d;have f:rs[a]? = some rs[a]:=B0 g;exact ⟨_,f,MN I h f⟩
  ·rw [h3 b z] at c;cases c
 ·rintro ⟨⟨h1,h2⟩,h3⟩;refine ⟨⟨h1,λ a d h _=>h2 a d h⟩,λ b c=>?_⟩;cases e:fH m rs n b with
  | false=>rfl
  | true=>exact ZV c (h3 b (List.mem_range.mpr (lt b c)) e)
structure eV (ts:List (ZR×ZR)) (N n:Nat) (pl:Pl):Prop where
 nd:pl.1.Nodup
 lt :∀x∈pl.1,x < N
 so:av (λ (t:ZR×ZR) s=>cU n t.2 s) ts pl.2
 nb:n<=4\/n<=pl.1.length
theorem sR:∀(n:Nat) (ns:List Nat),ns.Nodup->(∀x∈ns,x < n)->ns.length<=n
 | 0,ns,_,h=>by
  cases ns with
  | nil=>exact u0 _
  | cons x r=>exact ZV (h x R0) (L4 _)
 | n + 1,ns,nd,h=>by
  have:=sR n (ns.erase n) (nd.erase n) λ x a=>by
   have a:=(List.Nodup.mem_erase_iff nd).mp a;have:=h x a.2
   lia
  by_cases m:n∈ns
  ·rw [List.length_erase_of_mem m] at this
   lia
  ·rw [List.erase_of_not_mem m] at this
   lia
theorem eV.n63 {N:Nat} {pl:Pl} (h:eV ts N n pl) (N63:N<=63) (hj:j < N) (nj:j∉pl.1):n < 63/\pl.1.length < 63:=by
 have:=sR N (j :: pl.1) (List.nodup_cons.mpr ⟨nj,h.nd⟩) λ x a=>by
  rcases List.mem_cons.mp a with z|z
  ·lia
  ·exact h.lt x z
 rw [P0] at this;rcases h.nb with z|z<;>lia
end
variable {D:Ends} {b r:ZS} {es:List Ev} {nm:ZR} {s:nN} {t:ZR×ZR} {tb:TS} {vs:List V} {σ:L2.St}
section
def ew {f:ZR} {fs:List (ZR×V)}:(dj f v fs).lookup f=some v:=by rw [yg,ZZ rfl]
def uU {f g:ZR} {fs:List (ZR×V)} (h:g≠f):(dj f v fs).lookup g=fs.lookup g:=by rw [yg,Z_ h]
def bt {f g:ZR} {fs:List (ZR×V)} {o:Option V} (e:fs.lookup g=o) (h:g≠f:=by decide +kernel):(dj f v fs).lookup g=o:=(uU h).trans e
def Gf {x dx:ZS} {o1 o2:HO} (hx:H x=none) (hd:H dx=none) (k:Kept x (upd (upd H dx o1) x o2) H'):af H H':=λ p o e=>by
 have a:p≠x:=λ z=>by rw [z,hx] at e;cases e
 have b:p≠dx:=λ z=>by rw [z,hd] at e;cases e
 exact k p o a (by rw [ak a,ak b];exact e)
def mv {ta tv:TE} {f:ZR} {rest:TS} (h:tv σ H λ y H1=>ta σ H1 λ x H2=>∃a C dx fs,x=.ref a/\H2 a=some (.ins C dx fs)/\jX K C/\aP K C f/\fs.length < 1000/\rest D σ (upd H2 a (.ins C dx (dj f y fs)))):gE (pE K ta tv f) rest D σ H:=h
def Le {ta tv:TE} {f:ZR} (h:tv σ H λ y H1=>ta σ H1 λ x H2=>∃a C dx fs,x=.ref a/\H2 a=some (.ins C dx fs)/\jX K C/\aP K C f/\fs.length < 1000/\D.nx σ (upd H2 a (.ins C dx (dj f y fs)))):pE K ta tv f D σ H:=h
theorem Eh (f:ZR) (v:V) :∀fs:List (ZR×V),(dj f v fs).length<=fs.length + 1
 | []=>u0 _
 | (g,x) :: r=>by
  unfold dj;split
  ·simp
  ·have:=Eh f v r;simp only [P0]
   lia
theorem lL {x dx C:ZS} {fs:List (ZR×V)} {R:L2.St->Hp->Prop} {f:ZR} (k:Kept x H H1) (e:H1 x=some (.ins C dx fs)) (hv:σ[i]? = some (some (.ref x))) (c:jX K C) (na:aP K C f) (l:fs.length<=n) (hn:n < 100)
  (q :∀H2,Kept x H H2->(∀b o,b≠x->H1 b=some o->H2 b=some o)->H2 x=some (.ins C dx (dj f y fs))->(dj f y fs).length<=n + 1->R σ H2) :
  hV i σ H1 λ z H2=>∃a C dx fs,z=.ref a/\H2 a=some (.ins C dx fs)/\jX K C/\aP K C f/\fs.length < 1000/\R σ (upd H2 a (.ins C dx (dj f y fs))):=
 ⟨_,hv,x,C,dx,fs,rfl,e,c,na,by lia,q _ (k.trans .set) (λ b o g d=>by rw [ak g];exact d) ab (D0 (Eh f y fs) (by lia))⟩
def dR {x C dx:ZS} {fs:List (ZR×V)} (e:H x=some (.ins C dx fs)) (k:Kept x H H'):Tt K H H':=by
 refine ⟨λ a b h=>?_,λ a b h=>k _ _ (λ z=>by rw [z,e] at h;cases h) h⟩;rcases h with (h|⟨ob,h⟩)|h
 ·exact .inl (.inl (k _ _ (λ z=>by rw [z,e] at h;cases h) h))
 ·exact .inl (.inr ⟨ob,k _ _ (λ z=>by rw [z,e] at h;cases h) h⟩)
 ·exact .inr h
def Hw {ps:List (Nat×Nat)} {q:Nat×Nat->Bool} {f:Nat×Nat->Nat} (h:av (λ (i:Nat) y=>∃p,ps[i]? = some p/\y=V.int (f p:Nat)) ((B1 ps.length).filter λ i=>(ps[i]?.map q).getD false) us) :∃as,us=dN as/\as.length<=ps.length/\∀a,a∈as↔∃p∈ps,q p=true/\f p=a:=by
 refine ⟨((B1 ps.length).filter λ i=>(ps[i]?.map q).getD false).map λ i=>f (ps[i]?.getD (0,0)),?_,?_,λ a=>?_⟩
 ·generalize (B1 ps.length).filter (λ i=>(ps[i]?.map q).getD false)=is at h;induction h with
  | nil=>rfl
  | cons a r ih=>obtain ⟨p,c,b⟩:=a;rw [ih,b,C1,c];rfl
 ·rw [C0];exact D0 (U2 _ _) (by rw [F2];exact u0 _)
 ·rw [List.mem_map];constructor
  ·rintro ⟨i,d,e⟩;obtain ⟨c,b⟩:=List.mem_filter.mp d;have j:=List.mem_range.mp c;have g:ps[i]? = some ps[i]:=B0 j;rw [g] at b e;exact ⟨_,K0 g,b,e⟩
  ·rintro ⟨p,g,c,b⟩;obtain ⟨i,d⟩:=List.mem_iff_getElem?.mp g;refine ⟨i,List.mem_filter.mpr ⟨List.mem_range.mpr (List.getElem?_eq_some_iff.mp d).1,?_⟩,?_⟩
   ·rw [d];exact c
   ·rw [d];exact b
theorem mQ (i j:Nat):decide (V.int (i:Int)=V.int (j:Int))=decide (i=j):=decide_eq_decide.mpr ⟨λ e=>by have:=V.int.inj e;lia,λ e=>by rw [e]⟩
def Dg (K:b0):Sp:=λ vs H Q _=>∃(x dx lp:ZS) (n:Nat) (iv kv y:V) (zs:List V) (ps:List (Nat×Nat)) (r:Rc),vs=[.ref x,.int n,y,iv,kv,.ref lp]/\H x=some (.ins 265 dx [])/\RcAt K H r y/\H lp=some (.lst zs)/\av (bW H) ps zs/\ps.length<=10000/\
 ∀fs la lb as bs H',Kept x H H'->H' x=some (.ins 265 dx fs)->fs.lookup ("number" : ZR)=some (.int n)->fs.lookup ("thing" : ZR)=some iv->fs.lookup ("kind" : ZR)=some kv->fs.lookup ("verb" : ZR)=some r.v->fs.lookup ("worth" : ZR)=some r.x->fs.lookup ("answer" : ZR)=some r.a->fs.lookup ("aheads" : ZR)=some (.ref la)->fs.lookup ("behinds" : ZR)=some (.ref lb)->fs.lookup ("may_stand" : ZR)=none->H' la=some (.lst (dN as))->H' lb=some (.lst (dN bs))->(∀a,a∈as↔(a,n)∈ps)->(∀b,b∈bs↔(n,b)∈ps)->as.length<=10000->bs.length<=10000->H la=none->H lb=none->Q .non H'
theorem Qp (T:TX (kx w) mg):Fo P w mg base (oh P w base) 1 255 yk ["self","number","deed","thing","kind","pairs"] (Dg (kx w)):=by
 refine (FJ w.params).okE Oh (λ vs H Q E h=>?_) (λ b9 A c1 s H vs Q E hr h=>?_)
 ·obtain ⟨x,dx,V,n,iv,kv,y,D,d,r,rfl,_⟩:=h;rfl
 ·obtain ⟨x,dx,V,n,iv,kv,y,D,d,r,rfl,C,⟨p,rfl,sq⟩,J,al,pl,q⟩:=h;refine ⟨_,(aV (du (pv 0) (pv 1) rfl)
   (aV (du (pv 0) (pv 3) rfl)
   (aV (du (pv 0) (pv 4) rfl)
   (aV (du (pv 0) (aq aj (pv 2) ag (λ _ _=>rfl)) rfl)
   (aV (du (pv 0) (aq aj (pv 2) ag (λ _ _=>rfl)) rfl)
   (aV (du (pv 0) (aq aj (pv 2) ag (λ _ _=>rfl)) rfl)
   (aV (du (pv 0) (dS (xs:=["ahead","behind"]) (g:=ic (kx w) 2 (cN (bh 0) (cN (bh 1) ig))) (fr:=[(1,"number")]) (lN (pv 5)) (λ _ _ _ _ _=>(bH rfl (eJ (bK (N:=["ahead","behind","number"]) 0) (eJ (bK (N:=["ahead","behind","number"]) 1) iq)))) (λ _ _ _ _ _=>(eO (cI bP (pv 1) (pv 2) (aC _)))) (λ _ _ _ _ _=>(pv 0))) rfl)
   (aU (du (pv 0) (dS (xs:=["ahead","behind"]) (g:=ic (kx w) 2 (cN (bh 0) (cN (bh 1) ig))) (fr:=[(1,"number")]) (lN (pv 5)) (λ _ _ _ _ _=>(bH rfl (eJ (bK (N:=["ahead","behind","number"]) 0) (eJ (bK (N:=["ahead","behind","number"]) 1) iq)))) (λ _ _ _ _ _=>(eO (cI bP (pv 0) (pv 2) (aC _)))) (λ _ _ _ _ _=>(pv 1))) rfl))))))))),?_⟩
  have b1 :∀{H1 U:Hp} {l:ZS},Kept x H H1->Kept x H1 U->l≠x->U l=none->H l=none:=λ {H1 U l} k k' nl hl=>by
   cases z:H l with
   | none=>rfl
   | some o=>rw [k' l o nl (k l o nl z)] at hl;cases hl
  refine mv ⟨_,rfl,lL Kept.refl C rfl (iu _) (xk _) (n:=0) (u0 _) (by decide) λ H1 B _ e1 c=>?_⟩;refine mv ⟨_,rfl,lL B e1 rfl (iu _) (DM _) c (by decide) λ U e _ e2 c=>?_⟩;refine mv ⟨_,rfl,lL e e2 rfl (iu _) (Fs _) c (by decide) λ H3 k3 _ e3 c=>?_⟩;have t3:Tt (kx w) H H3:=dR C k3;refine mv ⟨_,rfl,.inr (.inl ⟨p,_,2,r.v,rfl,rfl,t3.t _ _ sq,bG (j:=2) rfl,lL k3 e3 rfl (iu _) (Fj _) c (by decide) λ H4 k4 _ e4 c=>?_⟩)⟩;refine mv ⟨_,rfl,.inr (.inl ⟨p,_,3,r.x,rfl,rfl,(dR C k4).t _ _ sq,bG (j:=3) rfl,lL k4 e4 rfl (iu _) (Im _) c (by decide) λ H5 k5 _ e5 c=>?_⟩)⟩;refine mv ⟨_,rfl,.inr (.inl ⟨p,_,4,r.a,rfl,rfl,(dR C k5).t _ _ sq,bG (j:=4) rfl,lL k5 e5 rfl (iu _) (Aq _) c (by decide) λ H6 X _ e6 c=>?_⟩)⟩;have a7:V≠x:=λ z=>by rw [z,C] at J;cases J
  have zl:D.length=d.length:=cH al;have a5 :∀{O:Hp},Kept x H O->av (bW O) d D:=λ k=>bI (λ _ _ z=>z.elim λ b y=>⟨b,y.1,(dR (K:=KX w.params) C k).l _ _ y.2⟩) al;refine mv ?_;refine CA (K:=KX w.params) (a:=V) (xs:=D) (H1:=H6) (λ i=>(d[i]?.map λ p=>decide (p.2=n)).getD false) (λ i y _=>∃p,d[i]? = some p/\y=.int (((λ p:Nat×Nat=>p.1) p:Nat):Int)) (λ _ _ _ _ _ z=>z) (λ R h=>⟨_,rfl,h⟩) (aK.of (X _ _ a7 J)) (D0 (m:=10000) (by lia) (by decide)) (λ i hi v O s' hv KT KF B e=>?_) λ G H7 us s7 W a3=>?_
  ·obtain ⟨u,Y,b,rfl,Z⟩:=fF (a5 X) hv;rw [Y] at B e;refine ⟨b,_,rfl,aH.of (s' _ _ Z),rfl,_,_,rfl,_,_,rfl,rfl,[some (.int u.1),some (.int u.2)],rfl,rfl,?_⟩;refine ⟨_,rfl,_,rfl,rfl,_,rfl,?_⟩;rw [mQ];exact gm (λ z=>⟨_,rfl,B z _ _ (af.refl _) ⟨u,rfl,rfl⟩⟩) λ z=>e (Bool.eq_false_iff.mpr z) _ (af.refl _)
  rw [zl] at a3;obtain ⟨I,rfl,c0,b2⟩:=Hw (q:=λ p=>decide (p.2=n)) (f:=λ p=>p.1) a3;have s8:=s7.trans (af.upd (o:=.lst (dN I)) W);have a4:upd H7 G (.lst (dN I)) G=some (.lst (dN I)):=ab;have a0:G≠x:=λ z=>by rw [z,s7 _ _ e6] at W;cases W
  generalize upd H7 G (.lst (dN I))=H8 at s8 a4⊢;refine lL (X.trans s8.kept) (s8 _ _ e6) rfl (iu _) (FO _) c (by decide) λ H9 S b4 e9 c=>?_;have b6:=b4 _ _ a0 a4;refine Le ?_;refine CA (K:=KX w.params) (a:=V) (xs:=D) (H1:=H9) (λ i=>(d[i]?.map λ p=>decide (p.1=n)).getD false) (λ i y _=>∃p,d[i]? = some p/\y=.int (((λ p:Nat×Nat=>p.2) p:Nat):Int)) (λ _ _ _ _ _ z=>z) (λ R h=>⟨_,rfl,h⟩) (aK.of (S _ _ a7 J)) (D0 (m:=10000) (by lia) (by decide)) (λ i hi v O s' hv KT KF B e=>?_) λ F b0 us a1 M a2=>?_
  ·obtain ⟨u,Y,b,rfl,Z⟩:=fF (a5 S) hv;rw [Y] at B e;refine ⟨b,_,rfl,aH.of (s' _ _ Z),rfl,_,_,rfl,_,_,rfl,rfl,[some (.int u.1),some (.int u.2)],rfl,rfl,?_⟩;refine ⟨_,rfl,_,rfl,rfl,_,rfl,?_⟩;rw [mQ];exact gm (λ z=>⟨_,rfl,B z _ _ (af.refl _) ⟨u,rfl,rfl⟩⟩) λ z=>e (Bool.eq_false_iff.mpr z) _ (af.refl _)
  rw [zl] at a2;obtain ⟨bs,rfl,c2,b7⟩:=Hw (q:=λ p=>decide (p.1=n)) (f:=λ p=>p.2) a2;have L:=a1.trans (af.upd (o:=.lst (dN bs)) M);have a8:upd b0 F (.lst (dN bs)) F=some (.lst (dN bs)):=ab;have a6:F≠x:=λ z=>by rw [z,a1 _ _ e9] at M;cases M
  generalize upd b0 F (.lst (dN bs))=H11 at L a8⊢;refine lL (S.trans L.kept) (L _ _ e9) rfl (iu _) (Hm _) c (by decide) λ b3 b8 a9 b5 c=>?_;refine q _ G F I bs b3 b8 b5 (bt (bt (bt (bt (bt (bt (bt ew))))))) (bt (bt (bt (bt (bt (bt ew)))))) (bt (bt (bt (bt (bt ew))))) (bt (bt (bt (bt ew)))) (bt (bt (bt ew))) (bt (bt ew)) (bt ew) ew (bt (bt (bt (bt (bt (bt (bt (bt rfl)))))))) (a9 _ _ a0 (L _ _ b6)) (a9 _ _ a6 a8) (λ a=>(b2 a).trans ⟨λ ⟨p,h1,h2,h3⟩=>?_,λ h=>⟨_,h,ZY rfl,rfl⟩⟩) (λ b=>(b7 b).trans ⟨λ ⟨p,h1,h2,h3⟩=>?_,λ h=>⟨_,h,ZY rfl,rfl⟩⟩) (by lia) (by lia) (b1 X (s7.kept (r:=x)) a0 W) (b1 S (a1.kept (r:=x)) a6 M)
  ·rw [<-h3,<-ZW h2];exact h1
  ·rw [<-h3,<-ZW h2];exact h1
def kQ (H:Hp) (m:Nat) (rs:List Rc) (ts:List (ZR×ZR)) (n:Nat) (r:Rc) (p:DD) (y:V):Prop:=∃x dx fs la lb as bs,y=.ref x/\H x=some (.ins 265 dx fs)/\fs.lookup ("number" : ZR)=some (.int (n:Nat))/\fs.lookup ("thing" : ZR)=some (.int (fX ts p.nm:Nat))/\fs.lookup ("kind" : ZR)=some (.str p.k)/\fs.lookup ("verb" : ZR)=some r.v/\fs.lookup ("worth" : ZR)=some r.x/\fs.lookup ("answer" : ZR)=some r.a/\fs.lookup ("aheads" : ZR)=some (.ref la)/\fs.lookup ("behinds" : ZR)=some (.ref lb)/\fs.lookup ("may_stand" : ZR)=none/\H la=some (.lst (dN as))/\H lb=some (.lst (dN bs))/\(∀a,a∈as↔fH m rs a n=true)/\(∀b,b∈bs↔fH m rs n b=true)/\as.length<=10000/\bs.length<=10000
def kQ.same {rs:List Rc} {r:Rc} {p:DD} (s:af H H') (h:kQ H m rs ts n r p y):kQ H' m rs ts n r p y:=by obtain ⟨x,k,fs,o,w,f,bs,l,a,b,g,u,j,c,v,z,d,t,e,q,i⟩:=h;exact ⟨x,k,fs,o,w,f,bs,l,s _ _ a,b,g,u,j,c,v,z,d,t,s _ _ e,s _ _ q,i⟩
def IE (K:b0):Sp:=λ vs H Q _=>∃(y:V) (pa:ZS) (m n:Nat) (rs:List Rc) (ts:List (ZR×ZR)) (r:Rc) (p:DD) (ns:List Nat),vs=[y,.ref pa]/\kQ H m rs ts n r p y/\aH K H pa (dN ns)/\Q (.bl (cP m rs ns n)) H
theorem Pb (T:TX (kx w) mg):Fo P w mg base CX0 1 262 yi ["self","done"] (IE (kx w)):=by
 refine (Hv w.params).ok bL (λ X H Q E h=>?_) (λ a0 A a1 s H X Q E hr h=>?_)
 ·obtain ⟨y,f,m,n,g,U,r,p,d,rfl,_⟩:=h;rfl
 ·obtain ⟨y,f,m,n,g,U,r,p,d,rfl,⟨x,D,fs,N,R,t,bs,rfl,C,f1,f2,f3,f4,f5,f6,f7,W,f9,O,M,J,L,al,bl⟩,F,q⟩:=h;refine ⟨_,(aV (aN (cI oO (bS (pv 0) rfl) (pv 1) (by with_unfolding_all rfl))
   (aU (au eC))
   dG)
   (aV (bO U1 rfl (lN (bS (pv 0) rfl)) (eY (i:=2) bL.nd rfl (Y0 rfl))
   (aU (aN (cI sJ (pv 2) (pv 1) (by with_unfolding_all rfl))
   (aU (au eC))
   dG)))
   (aV (bO U1 rfl (lN (bS (pv 0) rfl)) (eY (i:=3) bL.nd rfl (Y0 rfl))
   (aU (aN (cI oO (pv 3) (pv 1) (by with_unfolding_all rfl))
   (aU (au eC))
   dG)))
   (aU (au eC))))),?_⟩
  refine kr ?_;refine ⟨_,rfl,x,_,D,fs,_,rfl,C,iu _,xk _,f1,_,rfl,f,_,rfl,.inr F,rfl,nI _,_,rfl,?_⟩;have q:=λ b (h:b=cP m g d n)=>(show Q (.bl b) H from h ▸ q)
  by_cases z1:n∈d
  ·refine bw ?_ (q _ ?_)
   ·rw [cY];exact ZY z1
   ·unfold cP cO;rw [ZX (λ h=>h z1)];rfl
  refine bM (λ h=>z1 (ZW (by rw [cY] at h;exact h))) ?_;refine dh ?_;have I :∀{t:List Nat} {j:Nat} {y:V},(dN t)[j]? = some y->∃a,t[j]? = some a/\y=.int (a:Nat):=λ h=>by unfold dN at h;rw [M0] at h;obtain ⟨a,Z,S⟩:=Option.map_eq_some_iff.mp h;exact ⟨a,Z,S.symm⟩
  refine ⟨_,rfl,x,_,D,fs,_,rfl,C,iu _,FO _,f7,N,rfl,⟨_,aK.of O⟩,?_⟩;refine pT (K:=KX w.params) (a:=N) (xs:=dN t) (λ i σ l=>l=H/\(∀k a,k < i->t[k]? = some a->a∈d)/\∃x2 x3,σ=[some (.ref x),some (.ref f),x2,x3]) ⟨rfl,λ k a c=>ZV c (L4 _),_,_,rfl⟩ (λ _ σ l _ h=>by rw [h.1];exact aK.of O) ?_ ?_
  ·rintro j y σ l G ⟨rfl,fj,x2,x3,rfl⟩;obtain ⟨a,o,rfl⟩:=I G;refine aF ⟨_,rfl,_,rfl,f,_,rfl,.inr F,rfl,nI _,_,rfl,?_⟩;by_cases z2:a∈d
   ·refine bM (λ h=>?_) ⟨rfl,λ k v c e=>?_,_,_,rfl⟩
    ·rw [cY,ZY z2] at h;cases h
    ·by_cases z:k=j
     ·subst z;rw [o] at e;cases e;exact z2
     ·exact fj k v (by lia) e
   ·refine bw ?_ (q _ ?_)
    ·rw [cY,ZX z2];rfl
    ·have h:=(J a).mp (K0 o);unfold cP cO;rw [ZX (p:=∀a∈B1 g.length,fH m g a n=true->a∈d) (λ B=>z2 (B a (List.mem_range.mpr (lI h).1) h)),Z7,Y7]
  rintro σ l ⟨rfl,fj,x2,x3,rfl⟩;refine dh ?_;have Y:cO m g d n=true:=by unfold cO;rw [J2,decide_eq_true_iff,decide_eq_true_iff];refine ⟨z1,λ a _ h=>?_⟩;obtain ⟨k,c⟩:=List.mem_iff_getElem?.mp ((J a).mpr h);exact fj k a (by rw [sQ];exact (List.getElem?_eq_some_iff.mp c).1) c
  refine ⟨_,rfl,x,_,D,fs,_,rfl,C,iu _,Hm _,W,R,rfl,⟨_,aK.of M⟩,?_⟩;refine pT (K:=KX w.params) (a:=R) (xs:=dN bs) (λ i σ u=>u=l/\(∀k a,k < i->bs[k]? = some a->a∉d)/\∃x2 x3,σ=[some (.ref x),some (.ref f),x2,x3]) ⟨rfl,λ k a c=>ZV c (L4 _),_,_,rfl⟩ (λ _ σ u _ h=>by rw [h.1];exact aK.of M) ?_ ?_
  ·rintro j y σ u G ⟨rfl,gj,x2,x3,rfl⟩;obtain ⟨a,o,rfl⟩:=I G;refine aF ⟨_,rfl,_,rfl,f,_,rfl,.inr F,rfl,nI _,_,rfl,?_⟩;by_cases z2:a∈d
   ·refine bw ?_ (q _ ?_)
    ·rw [cY];exact ZY z2
    ·have h:=(L a).mp (K0 o);unfold cP;rw [ZX (λ B=>B a (List.mem_range.mpr (lI h).2) h z2),Z7]
   ·refine bM (λ h=>?_) ⟨rfl,λ k v c e=>?_,_,_,rfl⟩
    ·rw [cY] at h;exact z2 (ZW h)
    ·by_cases z:k=j
     ·subst z;rw [o] at e;cases e;exact z2
     ·exact gj k v (by lia) e
  rintro σ u ⟨rfl,gj,x2,x3,rfl⟩;refine dh (q _ ?_);unfold cP;rw [Y,j0g];refine (ZY λ b _ h=>?_).symm;obtain ⟨k,c⟩:=List.mem_iff_getElem?.mp ((L b).mpr h);exact gj k b (by rw [sQ];exact (List.getElem?_eq_some_iff.mp c).1) c
def De {X:Cx} (hK:X.K=K):eA X (V2 .In) (xQ K false):=hK ▸ oO
def jC (K:b0) (H:Hp) (p:ZS) (pl:Pl):Prop:=∃pa pb vs,aH K H p [.ref pa,.ref pb]/\aH K H pa (dN pl.1)/\aH K H pb vs/\av (gX K H) pl.2 vs
def jC.tups {pl:Pl} (t:bA K H H') (h:jC K H p pl):jC K H' p pl:=by obtain ⟨f,d,g,b,a,c,e⟩:=h;exact ⟨f,d,g,t _ _ b,t _ _ a,t _ _ c,bI (λ _ _ z=>gX.tups t z) e⟩
def fe (K:b0) (H:Hp) (s:nN) (y:V):Prop:=∃b p,y=.ref b/\aH K H b [.int (s.1:Nat),s.2.1,.ref p]/\jC K H p s.2.2
def fe.tups (t:bA K H H') (h:fe K H s y):fe K H' s y:=by obtain ⟨b,p,c,a,d⟩:=h;exact ⟨b,p,c,t _ _ a,d.tups t⟩
structure ko (ts:List (ZR×ZR)):Prop where
 n6:ts.length<=6
 nd:(ts.map (·.1)).Nodup
 ks :∀t∈ts,t.2∈bT
def nP.thw (h:nP ts):ko ts:=⟨h.n6,h.nd,h.ks⟩
def OO {k:ZR} (hk:k∈bT) :∃v,bq.lookup k=some v/\gX (kx w) H (aT k) v:=by
 have b:aH (kx w) H 100 []:=.inr ⟨⟨.type "tuple",none,.seq #[] 0,#[]⟩,#[],0,by kernel_rfl,rfl,rfl,by decide,.nil⟩;have a:aH (kx w) H 101 []:=.inr ⟨⟨.type "tuple",none,.seq #[] 0,#[]⟩,#[],0,by kernel_rfl,rfl,rfl,by decide,.nil⟩;unfold bT at hk;simp only [K1,t0,or_false] at hk;unfold aT;rcases hk with rfl|rfl|rfl|rfl|rfl
 ·exact ⟨.int 0,by decide +kernel,by rw [Z_ (by decide +kernel)];rfl⟩
 ·exact ⟨.int 0,by decide +kernel,by rw [Z_ (by decide +kernel)];rfl⟩
 ·exact ⟨.ref 100,by decide +kernel,by rw [ZZ (by decide +kernel)];exact ⟨_,rfl,b⟩⟩
 ·exact ⟨.ref 101,by decide +kernel,by rw [ZZ (by decide +kernel)];exact ⟨_,rfl,a⟩⟩
 ·exact ⟨.int 0,by decide +kernel,by rw [Z_ (by decide +kernel)];rfl⟩
def gf (K:b0) (H:Hp) (t:ZS) (ts:List (ZR×ZR)) (es:List Ev):Prop:=∃pt te ys,H t=some (.tup [.ref pt,.ref te])/\gG H pt ts/\H te=some (.tup ys)/\av (fm K H) es ys
def gf.tt {t:ZS} (x:Tt K H H') (h:gf K H t ts es):gf K H' t ts es:=by obtain ⟨pt,c,f,e,d,a,b⟩:=h;exact ⟨pt,c,f,x.l _ _ e,d.tt x,x.l _ _ a,bI (λ _ _ z=>fm.tups x.t z) b⟩
def rV (ok:ko ts) (h:ts[i]? = some t):fX ts t.1=i:=idx_eq ok.nd (by rw [M0,h];rfl)
def iK (ok:ko ts) {k:ZR} (h:(nm,k)∈ts):ts[fX ts nm]? = some (nm,k):=by obtain ⟨i,a⟩:=List.mem_iff_getElem?.mp h;rw [show fX ts nm=i from rV ok a];exact a
theorem rg {t1 t2 ti tv tj:TE} {pb:ZS} (h1 :∀(H':Hp) (R:VK),af H H'->R (.ref pb) H'->t1 σ H' R) (h2 :∀(H':Hp) (R:VK),af H H'->R (.ref pb) H'->t2 σ H' R) (hi :∀(H':Hp) (R:VK),af H H'->R (.int (i:Nat)) H'->ti σ H' R) (hv :∀(H':Hp) (R:VK),af H H'->R v H'->tv σ H' R) (hj :∀(H':Hp) (R:VK),af H H'->R (.int ((i:Int) + 1)) H'->tj σ H' R)
  (sq:aH K H pb vs) (il:i < vs.length) (l9:vs.length<=90) (q :∀p5 H',af H H'->aH K H' p5 (vs.set i v)->Q (.ref p5) H') :
  jQ (λ x y H Q=>kq K x y H Q\/kP K x y H Q) (jQ (λ x y H Q=>kq K x y H Q\/kP K x y H Q) (Ar (λ x lo hi H Q=>nH K x lo hi H Q\/og K x lo hi H Q\/nV x lo hi H Q) t1 AA (nv ti)) (kY (dD tv gi))) (Ar (λ x lo hi H Q=>nH K x lo hi H Q\/og K x lo hi H Q\/nV x lo hi H Q) t2 (nv tj) AA) σ H Q:=by
 refine h1 _ _ (af.refl _) (hi _ _ (af.refl _) ⟨i,rfl,.inr (.inl ⟨pb,vs,rfl,sq,λ z=>?_,λ e F=>?_⟩)⟩)
 ·have:=z.2;rw [HT.sIx_nat] at this
  lia
 have E:bY vs none (some (i:Int))=vs.take i:=by unfold bY;rw [HT.sIx_none,HT.sIx_nat,N6,Nat.sub_zero,M7 (by lia)]
 have g:=af.upd (o:=.tup (bY vs none (some (i:Int)))) F;have r:upd H e (.tup (bY vs none (some (i:Int)))) e=some (.tup (vs.take i)):=by rw [ab,E]
 generalize upd H e (.tup (bY vs none (some (i:Int))))=H1 at g r⊢;refine hv _ _ g ⟨lC,λ s A=>?_⟩;obtain ⟨J,B,l,u⟩:=eL (.tup [v]) A;rw [<-B];refine .inl ⟨e,s,vs.take i,[v],rfl,rfl,aH.of (l _ _ r),aH.of u,by simp,D0 (m:=100) (by rw [A3];show _ + 1<=100;lia) (by decide),λ p j t w=>?_⟩;have a:af H j:=(g.trans l).trans t;refine h2 _ _ a (hj _ _ a ⟨_,rfl,.inr (.inl ⟨pb,vs,rfl,a.seqT sq,λ z=>?_,λ b G=>?_⟩)⟩)
 ·have:=z.1;rw [show (i:Int) + 1=((i + 1:Nat):Int) from rfl,HT.sIx_nat] at this
  lia
 have C:bY vs (some ((i:Int) + 1)) none=vs.drop (i + 1):=by unfold bY;rw [show (i:Int) + 1=((i + 1:Nat):Int) from rfl,HT.sIx_none,HT.sIx_nat,M7 (by lia)];exact S3 (by rw [V4];exact u0 _)
 have f:=af.upd (o:=.tup (bY vs (some ((i:Int) + 1)) none)) G;have h:upd j b (.tup (bY vs (some ((i:Int) + 1)) none)) b=some (.tup (vs.drop (i + 1))):=by rw [ab,C]
 generalize upd j b (.tup (bY vs (some ((i:Int) + 1)) none))=H4 at f h⊢;have c:vs.take i++[v]++vs.drop (i + 1)=vs.set i v:=by rw [F6,ZZ il,O1];rfl
 have d:=f.seqT w;have k:(vs.take i++[v]).length + (vs.drop (i + 1)).length<=ZF:=D0 (m:=100) (by rw [<-G0,c,j27];lia) (by decide);by_cases hd:vs.drop (i + 1)=[]
 ·refine .inr ⟨p,b,_,_,rfl,rfl,d,aH.of h,by simp,k,λ _=>?_,λ z=>ZV hd z⟩;rw [hd,D2] at c;rw [c] at d;exact q _ _ (a.trans f) d
 ·refine .inl ⟨p,b,_,_,rfl,rfl,d,aH.of h,hd,k,λ p5 I D n=>?_⟩;rw [c] at n;exact q _ _ ((a.trans f).trans D) n
def On {α β:Type} {R:α->β->Prop} {xs:List α} {ys:List β} {x:α} {y:β} (h:av R xs ys) (hx:R x y) :∀i,av R (xs.set i x) (ys.set i y):=by
 induction h with
 | nil=>intro i;exact .nil
 | cons a r ih=>
  intro i;cases i with
  | zero=>exact .cons hx r
  | succ i=>exact .cons a (ih i)
noncomputable def qK (ts:List (ZR×ZR)) (p:DD) (n:Nat) (pl:Pl) (s:Sv):nN:=(n,(dz p.k p.vb p.dt s).2,(dO (pl.1++[n]),pl.2.set (fX ts p.nm) (dz p.k p.vb p.dt s).1))
def jY {r:Rc} {p:DD} {pl:Pl} {s:Sv} (h:pl.2[fX ts p.nm]? = some s):eQ ts r p n pl=if r.e.isNone || decide ((dz p.k p.vb p.dt s).2=r.a) then some (qK ts p n pl s) else none:=by unfold eQ;rw [h];rfl
def Hn (K:b0):Sp:=λ vs H Q _=>∃(y:V) (pp:ZS) (m n k N:Nat) (rs:List Rc) (ts:List (ZR×ZR)) (r:Rc) (p:DD) (pl:Pl),vs=[y,.ref pp]/\kQ H m rs ts n r p y/\dq K H ts r p/\ko ts/\jC K H pp pl/\eV ts N k pl/\N<=63/\n < N/\n∉pl.1/\
 ∀s b q H',pl.2[fX ts p.nm]? = some s->cU k p.k s->af H H'->H' b=some (.tup [.int (n:Nat),(dz p.k p.vb p.dt s).2,.ref q])->fe K H' (qK ts p n pl s) (.ref b)->Q (.ref b) H'
theorem JE (T:TX (kx w) mg) (c0:Ca P w mg base "do" ["kind","state","verb","worth"] 5 (mJ (kx w))):Fo P w mg base CX0 6 316 yO ["candidate","place"] (Hn (kx w)):=by
 refine (yE w.params).ok dY (λ b H Q E h=>?_) (λ c3 A c4 s H b Q E hr h=>?_)
 ·obtain ⟨y,M,m,n,k,N,rs,f,r,p,a,rfl,_⟩:=h;rfl
 ·obtain ⟨y,M,m,n,k,N,rs,f,r,p,a,rfl,⟨x,d,fs,la,lb,as,bs,rfl,c,f1,f2,f3,f4,f5,f6,f7,f8,f9,ea,eb,ma,mb,al,bl⟩,gd,ok,⟨pa,Z,b,X,sa,sb,sz⟩,J,c1,hn,nn,q⟩:=h;refine ⟨_,(aV (aA (i:=2) dY.nd rfl (Y0 rfl) (bS (pv 0) rfl))
   (aV (aA (i:=3) dY.nd rfl (Y0 rfl) (aq aj (pv 1) ag (λ _ _=>rfl)))
   (aV (aA (i:=4) dY.nd rfl (Y0 rfl) (aB c0 (hr.mono (by decide)) rfl (ao (bS (pv 0) rfl) (ao (aq aj (pv 3) (pv 2) (λ _ _=>rfl)) (ao (bS (pv 0) rfl) (ao (bS (pv 0) rfl) ae))))))
   (aV (aA (i:=5) dY.nd rfl (Y0 rfl) (kK nh rfl (T.no (lq _)) G4 (ao (fD yo rfl (T.no (sW _)) Y8 (ao (aQ eP (aq aj (pv 1) ag (λ _ _=>rfl)) (aD (ao (bS (pv 0) rfl) ae))) ae)) ae)))
   (aU (au (aD (ao (bS (pv 0) rfl) (ao (aq aj (pv 4) ag (λ _ _=>rfl)) (ao (aD (ao (pv 5) (ao (aQ (eP.or vz) (aQ (eP.or vz) (nD fP (pv 3) nE (kZ (pv 2))) (aD (ao (aq aj (pv 4) ag (λ _ _=>rfl)) ae))) (nD fP (pv 3) (kZ (aQ ei (pv 2) ag)) nE)) ae))) ae)))))))))),?_⟩
  obtain ⟨g1,g2,hm,dk,ix,wi,ga⟩:=gd;have a7:=iK ok hm;obtain ⟨s,hs,W⟩:=ik J.so a7;obtain ⟨v,hv,hz⟩:=ik sz hs;obtain ⟨c2,c6⟩:=J.n63 c1 hn nn;have vl:b.length=a.2.length:=cH sz;have sl:a.2.length=f.length:=cH J.so;have it:fX f p.nm < b.length:=(List.getElem?_eq_some_iff.mp hv).1;rw [g2] at f4;refine ⟨_,rfl,x,_,d,fs,_,rfl,c,iu _,DM _,f2,?_⟩;refine aF (dh ?_);refine ⟨_,rfl,.inr (.inl ⟨M,_,1,.ref Z,rfl,rfl,X,bG (j:=1) rfl,?_⟩)⟩;refine aF (dh ?_);refine ⟨_,rfl,x,_,d,fs,_,rfl,c,iu _,Fs _,f3,?_⟩;refine ⟨_,rfl,_,rfl,.inr (.inl ⟨Z,b,_,v,rfl,rfl,sb,bG hv,?_⟩)⟩;refine ⟨_,rfl,x,_,d,fs,_,rfl,c,iu _,Fj _,f4,?_⟩;refine ⟨_,rfl,x,_,d,fs,_,rfl,c,iu _,Im _,f5,?_⟩;refine qF (w:=w) (E:=E0) W hz c2 dk ix wi λ p6 S L I e6 b3=>?_;refine aF (dh ?_);refine gB ?_;refine ⟨_,rfl,.inr (.inl ⟨M,_,0,.ref pa,rfl,rfl,I.seqT X,bG (j:=0) rfl,?_⟩)⟩;refine ⟨_,rfl,x,_,d,fs,_,rfl,I _ _ c,iu _,xk _,f1,lC,λ B a1=>?_⟩;have r7:=I.trans (af.upd (o:=.tup [.int (n:Nat)]) a1);have u7:=af.upd (o:=.tup [.int (n:Nat)]) a1;have e7:upd L B (.tup [.int (n:Nat)]) B=some (.tup [.int (n:Nat)]):=ab;generalize upd L B (.tup [.int (n:Nat)])=H7 at r7 u7 e7⊢;refine ⟨pa,B,dN a.1,[.int (n:Nat)],rfl,rfl,r7.seqT sa,aH.of e7,by simp,D0 (m:=100) (by rw [sQ];show _ + 1<=100;lia) (by decide),λ b2 H8 r8 Y=>?_⟩;rw [show dN a.1++[.int (n:Nat)]=((a.1++[n]).map λ (n:Nat)=>(n:Int)).map V.int by unfold dN;rw [v3,u1];rfl] at Y;refine ⟨b2,_,rfl,.inr Y,by rw [C0,G0];show _ + 1 < 64;lia,λ l3 c5 b7 pm pw=>?_⟩;rw [Ew pm pw];obtain ⟨H9,l,r9,e9⟩:=eL (.lst (dN (dO (a.1++[n])))) b7;rw [<-l];refine ⟨l3,_,rfl,.inl ⟨aK.of e9,λ t a8=>?_⟩⟩;obtain ⟨a2,l,b0,a6⟩:=eL (.tup (dN (dO (a.1++[n])))) a8;rw [<-l];refine aF ?_;have D:af L a2:=((u7.trans r8).trans r9).trans b0;have G:=I.trans D;refine fZ ?_;refine ⟨_,rfl,x,_,d,fs,_,rfl,G _ _ c,iu _,xk _,f1,?_⟩;refine ⟨_,rfl,.inr (.inl ⟨p6,_,1,_,rfl,rfl,aH.of (D _ _ e6),bG (j:=1) rfl,?_⟩)⟩;refine ⟨_,rfl,AL (rg (i:=fX f p.nm) (v:=S) (λ F R u h=>⟨_,rfl,h⟩) (λ F R u h=>⟨_,rfl,h⟩) (λ F R u h=>⟨_,rfl,h⟩) (λ F R u h=>⟨_,rfl,.inr (.inl ⟨p6,_,0,S,rfl,rfl,aH.of (u _ _ (D _ _ e6)),bG (j:=0) rfl,h⟩)⟩) (λ F R u h=>⟨_,rfl,.inl ⟨_,1,rfl,rfl,h⟩⟩) (G.seqT sb) it (by have:=ok.n6;lia) λ g a4 a9 b9=>?_)⟩;refine ⟨cZ,λ e b8=>⟨nL,λ b6 a3=>?_⟩⟩;have O:=af.upd (o:=.tup [.ref t,.ref g]) b8;have a0:upd a4 e (.tup [.ref t,.ref g]) e=some (.tup [.ref t,.ref g]):=ab;generalize upd a4 e (.tup [.ref t,.ref g])=H12 at O a0 a3⊢;obtain ⟨a5,l,K,U⟩:=eL (.tup [.int (n:Nat),(dz p.k p.vb p.dt s).2,.ref e]) a3;rw [<-l];have C:af a2 a5:=(a9.trans O).trans K;refine q s b6 e a5 hs W (G.trans C) U ⟨b6,e,rfl,aH.of U,t,g,b.set (fX f p.nm) S,aH.of (K _ _ a0),aH.of (C _ _ a6),(O.trans K).seqT b9,On (bI (λ _ _ z=>gX.tups (.of (G.trans C)) z) sz) (b3.tups (.of (D.trans C))) _⟩
def uv (rs:List Rc) (es:List Nat):Prop:=es.length<=rs.length/\∀n,n∈es↔∃r,rs[n]? = some r/\r.e.isSome=true
def GM (K:b0):Sp:=λ vs H Q _=>∃(l:ZS) (zs:List V) (rs:List Rc),vs=[.ref l]/\H l=some (.lst zs)/\av (RcAt K H) rs zs/\rs.length<=100/\
 ∀le es H',af H H'->H' le=some (.lst (dN es))->uv rs es->Q (.ref le) H'
theorem Ml (T:TX (kx w) mg):Fo P w mg base CX0 1 321 AE ["told"] (GM (kx w)):=by
 refine (zI w.params).ok Rj (λ I H Q E h=>?_) (λ X A Z s H I Q E W h=>?_)
 ·obtain ⟨l,f,d,rfl,_⟩:=h;rfl
 ·obtain ⟨l,f,d,rfl,D,t,S,q⟩:=h;refine ⟨_,(aU (au (dS (xs:=["number","deed"]) (g:=ic (kx w) 2 (cN (bh 0) (cN (bh 1) ig))) (fr:=[]) (xH rfl (T.no (tG _)) (ao (pv 0) ae)) (λ _ _ _ _ _=>(bH rfl (eJ (bK (N:=["number","deed"]) 0) (eJ (bK (N:=["number","deed"]) 1) iq)))) (λ _ _ _ _ _=>(eO (cI oE (aq (vT (K:=KX w.params) rfl) (pv 1) ag (λ _ _=>rfl)) bx (aC _)))) (λ _ _ _ _ _=>(pv 0))))),?_⟩;have o:f.length=d.length:=cH t;refine fZ ?_;refine MI (K:=KX w.params) (a:=l) (xs:=f) (H1:=H) (λ i=>(d[i]?.map λ r=>r.e.isSome).getD false) (λ i y _=>y=.int (i:Nat)) (λ _ _ _ _ _ z=>z) (λ R h=>⟨_,rfl,h⟩) (aK.of D) (D0 (m:=100) (by lia) (by decide)) ?_ ?_
  ·intro i Y v J k L KT KF b c;obtain ⟨x,u,M,rfl,C⟩:=L;obtain ⟨r,O,p,rfl,F⟩:=fF t M;rw [O] at b c;refine ⟨u,_,rfl,aH.of C,rfl,_,_,rfl,_,_,rfl,rfl,[some (.int (i:Nat)),some (.ref p)],rfl,rfl,?_⟩;refine ⟨_,rfl,.inr (.inl ⟨p,_,6,cX r.e,rfl,rfl,k.seqT F,bG (j:=6) rfl,rfl,_,rfl,?_⟩)⟩;have b:=λ z=>b (show r.e.isSome=true from z);have c:=λ z=>c (show r.e.isSome=false from z);cases re:r.e with
   | none=>exact bM (by show ¬ (!decide (V.non=V.non))=true;decide) (c (by rw [re];rfl) _ (af.refl _))
   | some e=>exact bw rfl ⟨_,rfl,b (by rw [re];rfl) _ _ (af.refl _) rfl⟩
  intro le J U k G B;rw [OI B];refine q le _ _ (k.trans (af.upd G)) ab ⟨?_,λ n=>?_⟩
  ·exact D0 (U2 _ _) (by rw [F2,o];exact u0 _)
  ·rw [List.mem_filter,List.mem_range,o];constructor
   ·rintro ⟨h1,h2⟩;rw [B0 h1] at h2;exact ⟨_,B0 h1,h2⟩
   ·rintro ⟨r,h1,h2⟩;exact ⟨(List.getElem?_eq_some_iff.mp h1).1,by rw [h1];exact h2⟩
def IM (K:b0):Sp:=λ vs H Q _=>∃(pa le:ZS) (ns es:List Nat),vs=[.ref pa,.ref le]/\aH K H pa (dN ns)/\H le=some (.lst (dN es))/\es.length<=100/\∀b H',af H H'->(b=true↔∀n∈es,n∈ns)->Q (.bl b) H'
theorem RM (T:TX (kx w) mg):Fo P w mg base CX0 1 326 zu ["done","numbers"] (IM (kx w)):=by
 refine (yZ w.params).ok Pj (λ D H Q E h=>?_) (λ X A Z s H D Q E U h=>?_)
 ·obtain ⟨r,le,x,f,rfl,_⟩:=h;rfl
 ·obtain ⟨r,le,x,f,rfl,J,C,Y,q⟩:=h;refine ⟨_,(aU (au (fD (IR rfl) rfl (T.no (oi _)) boot_all (ao (dS (xs:=["number"]) (g:=bh 0) (fr:=[(0,"done")]) (lN (pv 1)) (λ _ _ _ _ _=>(bK (N:=["number","done"]) 0)) (λ _ _ _ _ _=>fE) (λ _ _ _ _ _=>(gU (De (K:=KX w.params) rfl) (pv 0) (pv 1) (by with_unfolding_all rfl)))) ae)))),?_⟩;refine fZ (mI ?_);refine CA (K:=KX w.params) (a:=le) (xs:=dN f) (H1:=H) (λ _=>true) (λ i y _=>∃n,f[i]? = some n/\y=.bl (decide (n∈x))) (λ _ _ _ _ _ z=>z) (λ R h=>⟨_,rfl,h⟩) (aK.of C) (D0 (m:=100) (by rw [sQ];lia) (by decide)) ?_ ?_
  ·intro i b v G l o KT KF F W;unfold dN at o;rw [M0] at o;obtain ⟨n,d,rfl⟩:=Option.map_eq_some_iff.mp o;refine ⟨[some (.int (n:Nat))],rfl,rfl,cG ?_⟩;refine ⟨_,rfl,_,rfl,r,_,rfl,.inr (l.seqT J),rfl,nI _,?_⟩;exact F rfl _ _ (af.refl _) ⟨n,d,by rw [<-cY];rfl⟩
  intro I G k l O c;rw [List.filter_eq_self.mpr (λ _ _=>rfl),sQ] at c;have L:=cH c;rw [F2] at L;refine ⟨I,k,rfl,aK.of ab,λ y p=>?_,q _ _ (l.trans (af.upd O)) ?_⟩
  ·obtain ⟨i,b⟩:=List.mem_iff_getElem?.mp p;obtain ⟨j,_,n,_,e⟩:=fF c b;exact ⟨_,e⟩
  ·rw [c7];constructor
   ·intro h n d;obtain ⟨i,b⟩:=List.mem_iff_getElem?.mp d;have M:=(List.getElem?_eq_some_iff.mp b).1;have B:k[i]? = some k[i]:=B0 (by lia);obtain ⟨j,u,S,t,e⟩:=fF c B;rw [j08 M] at u;cases u;rw [b] at t;cases t;have:=ZW (h _ (K0 B));rw [e] at this;exact ZW (V.bl.inj this)
   ·intro h y p;obtain ⟨i,b⟩:=List.mem_iff_getElem?.mp p;obtain ⟨j,_,n,d,e⟩:=fF c b;rw [e,ZY (h n (K0 d))];exact ZY rfl
def Jy (al:av (λ (i:Nat) y=>∃t,ts[i]? = some t/\gX K H (aT t.2) y) (B1 ts.length) vs):av (gX K H) (ts.map λ t=>aT t.2) vs:=by have d:=cH al;rw [F2] at d;refine vv (by rw [C0,d]) λ i z v c g=>?_;rw [M0] at c;obtain ⟨t,b,rfl⟩:=Option.map_eq_some_iff.mp c;obtain ⟨j,e,h,a,f⟩:=fF al g;rw [j08 (List.getElem?_eq_some_iff.mp b).1] at e;cases e;rw [b] at a;cases a;exact f
def GH (K:b0):Sp:=λ vs H Q _=>∃(t:ZS) (ts:List (ZR×ZR)) (es:List Ev),vs=[.ref t]/\gf K H t ts es/\ko ts/\∀p H',af H H'->jC K H' p ([],ts.map λ t=>aT t.2)->Q (.ref p) H'
def QO (T:TX (kx w) mg) (c0:Ca P w mg base "first_state" ["kind"] 2 HD):Fo P w mg base CX0 3 331 BK ["tale"] (GH (kx w)):=by
 refine (zh w.params).ok OD (λ d H Q E h=>?_) (λ a7 A a9 s H d Q E Z h=>?_)
 ·obtain ⟨t,u,F,rfl,_⟩:=h;rfl
 ·obtain ⟨t,u,F,rfl,⟨pt,te,ys,V,⟨J,L,k⟩,a8,al⟩,ok,q⟩:=h;refine ⟨_,(aU (au (aD (ao (aD ae) (ao (kK nh rfl (T.no (lq _)) G4 (ao (dS (xs:=["name","kind"]) (g:=ic (kx w) 2 (cN (bh 0) (cN (bh 1) ig))) (fr:=[]) (eF (aq aj (pv 0) ag (λ _ _=>rfl))) (λ _ _ _ _ _=>(bH rfl (eJ (bK (N:=["name","kind"]) 0) (eJ (bK (N:=["name","kind"]) 1) iq)))) (λ _ _ _ _ _=>fE) (λ _ _ _ _ _=>(aB c0 (Z.mono (by decide)) rfl (ao (pv 1) ae)))) ae)) ae))))),?_⟩;refine fZ ?_;refine ⟨jk,λ C M=>?_⟩;obtain ⟨H3,c,e,e3⟩:=eL (.tup []) M;rw [<-c];refine AL (mI ?_);refine tf (K:=KX w.params) (a:=pt) (xs:=J) (H1:=H3) (λ _=>true) (λ i y I=>∃t,u[i]? = some t/\gX (kx w) I (aT t.2) y) (λ _ _ _ _ s ⟨t,h1,h2⟩=>⟨t,h1,h2.tups (.of s)⟩) (λ R h=>⟨_,rfl,.inr (.inl ⟨t,_,0,.ref pt,rfl,rfl,aH.of (e _ _ V),bG (j:=0) rfl,h⟩)⟩) (e.seqT (aH.of L)) (D0 (m:=6) (by rw [cH k];exact ok.n6) (by decide)) ?_ ?_
  ·intro i hi v l f o KT KF O k2;obtain ⟨t,x,b,rfl,W⟩:=fF k o;have a6:=(e.trans f) _ _ W;obtain ⟨v,o,S⟩:=OO (w:=w) (H:=l) (ok.ks t (K0 x));refine ⟨b,_,rfl,aH.of a6,rfl,_,_,rfl,_,_,rfl,rfl,[some (.str t.1),some (.str t.2)],rfl,rfl,cG ?_⟩;exact ⟨_,rfl,t.2,v,rfl,o,O rfl _ _ (af.refl _) ⟨t,x,S⟩⟩
  intro l4 l d f a4 r;rw [List.filter_eq_self.mpr (λ _ _=>rfl),cH k] at r;obtain ⟨H5,c,a1,U⟩:=eL (.lst d) a4;rw [<-c];refine ⟨l4,d,rfl,.inl ⟨aK.of U,λ p a2=>?_⟩⟩;obtain ⟨H6,c,X,Y⟩:=eL (.tup d) a2;rw [<-c];refine ⟨cZ,λ G a3=>?_⟩;obtain ⟨B,c,D,e7⟩:=eL (.tup [.ref C,.ref p]) a3;rw [<-c];have n:af l B:=(a1.trans X).trans D;exact q G B ((e.trans f).trans n) ⟨C,p,d,aH.of e7,aH.of ((f.trans n) _ _ e3),aH.of (D _ _ Y),Jy (bI (λ _ _ z=>z.elim λ t y=>⟨t,y.1,y.2.tups (.of n)⟩) r)⟩
noncomputable def hide (r:ZS) (H:Hp):Hp:=λ p=>if p=r then none else H p
def jH (n:p≠r) (e:H p=some o):hide r H p=some o:=by unfold hide;rw [Z_ n];exact e
def aO:af (hide r H) H:=λ p o e=>by
 unfold hide at e;by_cases z:p=r
 ·rw [ZZ z] at e;cases e
 ·rw [Z_ z] at e;exact e
def Qs (e:hide r H p=some o):p≠r:=λ z=>by unfold hide at e;rw [ZZ z] at e;cases e
def ui (s:af H H'):af (hide r H) (hide r H'):=λ p o e=>jH (Qs e) (s _ _ (aO _ _ e))
def uf:hide l (upd H l o)=hide l H:=by
 funext q;unfold hide;by_cases z:q=l
 ·rw [ZZ z,ZZ z]
 ·rw [Z_ z,Z_ z,ak z]
theorem vC {f:ZR×ZR->ZR} (h:av (λ (i:Nat) y=>∃t,ts[i]? = some t/\y=V.str (f t)) (B1 ts.length) us):us=ts.map λ t=>V.str (f t):=by
 have d:=cH h;rw [F2] at d;apply C8;intro i;rw [M0];cases hu:us[i]? with
 | none=>rw [E4 (by have:=List.getElem?_eq_none_iff.mp hu;lia)];rfl
 | some y=>obtain ⟨j,a,t,c,b⟩:=fF h hu;rw [j08 (by have:=(List.getElem?_eq_some_iff.mp hu).1;lia)] at a;cases a;rw [c,b];rfl
def DS (H:Hp) (m:Nat) (rs:List Rc) (ts:List (ZR×ZR)) (ps:List DD) (cs:List V):Prop:=∀n r p y,rs[n]? = some r->ps[n]? = some p->cs[n]? = some y->kQ H m rs ts n r p y
structure sU (K:b0) (H:Hp) (m:Nat) (rs:List Rc) (ts:List (ZR×ZR)) (ps:List DD) (fs:List (ZR×V)):Prop where
 cand :∃lc cs,fs.lookup ("candidates" : ZR)=some (.ref lc)/\H lc=some (.lst cs)/\cs.length=rs.length/\DS H m rs ts ps cs
 first :∃p0,fs.lookup ("first" : ZR)=some (.ref p0)/\jC K H p0 ([],ts.map λ t=>aT t.2)
 ended :∃le en,fs.lookup ("ended" : ZR)=some (.ref le)/\H le=some (.lst (dN en))/\uv rs en
 kinds :∃lk,fs.lookup ("kinds" : ZR)=some (.ref lk)/\H lk=some (.lst (ts.map λ t=>V.str t.2))
 nm :∀z:ZR,z∈(["steps_from","ends_at","has_place"]:List ZR)->fs.lookup z=none
def sU.same {rs:List Rc} {fs:List (ZR×V)} (s:af H H') (h:sU K H m rs ts ps fs):sU K H' m rs ts ps fs:=
 ⟨h.cand.elim λ e z=>z.elim λ f y=>⟨e,f,y.1,s _ _ y.2.1,y.2.2.1,λ n r p v b a c=>(y.2.2.2 n r p v b a c).same s⟩,h.first.elim λ p z=>⟨p,z.1,z.2.tups (.of s)⟩,h.ended.elim λ le z=>z.elim λ d y=>⟨le,d,y.1,s _ _ y.2.1,y.2.2⟩,h.kinds.elim λ g z=>⟨g,z.1,s _ _ z.2⟩,h.nm⟩
def yb (K:b0):Sp:=λ vs H Q _=>∃(x dx t:ZS) (ts:List (ZR×ZR)) (es:List Ev) (ps:List DD) (m:Nat),vs=[.ref x,.ref t,.str (jx m)]/\H x=some (.ins 305 dx [])/\gf K H t ts es/\ko ts/\es.length<=63/\gA [] es/\av (dq K H ts) (aI 0 [] es) ps/\
 ∀fs H',Kept x H H'->H' x=some (.ins 305 dx fs)->sU K H' m (aI 0 [] es) ts ps fs->Q .non H'
theorem MK (T:TX (kx w) mg) (c0:Ca P w mg base "has_to" ["tale","strictness"] 2 (II (kx w))) (c1:Ca P w mg base "deeds" ["tale"] 1 (xI (kx w))) (c2:Ca P w mg base "first_place" ["tale"] 3 (GH (kx w))) (c3:Ca P w mg base "ended_numbers" ["told"] 1 (GM (kx w))) (c4:Fo P w mg base (oh P w base) 1 255 yk ["self","number","deed","thing","kind","pairs"] (Dg (kx w))):Fo P w mg base (oh P w base) 5 281 vG ["self","tale","strictness"] (yb (kx w)):=by
 refine (Fl w.params).okE aW (λ vs H Q E h=>?_) (λ l1 A l2 s H vs Q E hr h=>?_)
 ·obtain ⟨x,dx,t,u,O,ps,m,rfl,_⟩:=h;rfl
 ·obtain ⟨x,dx,t,u,O,ps,m,rfl,ex,ta,ok,l4,wf,gd,q⟩:=h;refine ⟨_,(aV (aA (i:=3) aW.nd rfl (Y0 rfl) (aB c0 (hr.mono (by decide)) rfl (ao (pv 1) (ao (pv 2) ae))))
   (aV (aA (i:=4) aW.nd rfl (Y0 rfl) (aB c1 (hr.mono (by decide)) rfl (ao (pv 1) ae)))
   (aV (du (pv 0) (dS (xs:=["name","kind"]) (g:=ic (kx w) 2 (cN (bh 0) (cN (bh 1) ig))) (fr:=[]) (eF (aq aj (pv 1) ag (λ _ _=>rfl))) (λ _ _ _ _ _=>(bH rfl (eJ (bK (N:=["name","kind"]) 0) (eJ (bK (N:=["name","kind"]) 1) iq)))) (λ _ _ _ _ _=>fE) (λ _ _ _ _ _=>(pv 1))) rfl)
   (aV (du (pv 0) (aB c2 (hr.mono (by decide)) rfl (ao (pv 1) ae)) rfl)
   (aV (du (pv 0) (aB c3 (hr.mono (by decide)) rfl (ao (pv 4) ae)) rfl)
   (aV (du (pv 0) (aY ae) rfl)
   (aV (LU (i:=5) aW.nd rfl (Y0 rfl) (xs:=["name","kind"]) (g:=ic (kx w) 2 (cN (bh 0) (cN (bh 1) ig))) (fr:=[]) rfl (eF (aq aj (pv 1) ag (λ _ _=>rfl))) (λ _ z=>ZV z t0) (Nu rfl) (λ _ z=>ZV z t0) (by decide +kernel) rfl (by decide +kernel) (λ _ _ _ _ _=>(bH rfl (eJ (bK (N:=["name","kind"]) 0) (eJ (bK (N:=["name","kind"]) 1) iq)))) (λ _ _ _ _ _=>fE) (λ _ _ _ _ _=>(pv 0)))
   (aU (PS.nox (bO U1 rfl (xH rfl (T.no (tG _)) (ao (pv 4) ae)) (bH rfl (eJ (eY (i:=6) aW.nd rfl (Y0 rfl)) (eJ (eY (i:=7) aW.nd rfl (Y0 rfl)) iq)))
   (aV (aA (i:=8) aW.nd rfl (Y0 rfl) (Eb (pv 5) (ao (aq aj (pv 7) ag (λ _ _=>rfl)) ae)))
   (aU (lr (nC (bS (pv 0) rfl) (ao (CF (Ox _) c4 (hr.mono (by decide)) rfl (T.of (I8 _)) (M_ _) .nil l_ (ao (pv 6) (ao (pv 7) (ao (pv 8) (ao (aq aj (bS (pv 0) rfl) (pv 8) (λ _ _=>rfl)) (ao (pv 3) ae)))))) ae))))))))))))))),?_⟩
  obtain ⟨pt,te,ys,et,⟨yt,h5,X⟩,d9,al⟩:=id ta;obtain ⟨dw,os,DI⟩:=cu.all cu.nil wf;have rl:(aI 0 [] O).length<=63:=by have:=BI (i:=0) (rs:=[]) O;simp only [F7,A5] at this;lia
  refine ⟨_,rfl,_,rfl,t,te,.ref pt,ys,O,m,rfl,aH.of et,aH.of d9,al,by lia,dw,λ lp zp H1 s1 l5 b6 ap=>?_⟩;refine aF (dh ?_);refine ⟨_,rfl,t,te,.ref pt,ys,O,rfl,s1.seqT (aH.of et),s1.seqT (aH.of d9),bI (λ _ _ z=>fm.tups (.of s1) z) al,by lia,dw,λ lt zt C s2 l0 a0 ar=>?_⟩;refine aF (dh ?_);have a1:=s1.trans s2;generalize aI 0 [] O=rs at *;have zl:zt.length=rs.length:=cH ar;have pl:=AX (m:=m) (rs:=rs) rs.length;have pm:rs.length * rs.length<=63 * 63:=j01 rl rl;have g7 :∀{a:ZS} {o:HO} {S:Hp},S x=some (.ins 305 dx [])->S a=some o->(∀d f,o≠.ins 305 d f)->a≠x:=λ e1 e2 n z=>by rw [z,e1] at e2;cases e2;exact n _ _ rfl
  have a2:=a1 _ _ ex;have k8:lp≠x:=g7 a2 (s2 _ _ b6) λ _ _ z=>by cases z
  have d0:lt≠x:=g7 a2 a0 λ _ _ z=>by cases z
  refine mv ?_;refine tf (K:=KX w.params) (a:=pt) (xs:=yt) (H1:=C) (λ _=>true) (λ i y _=>∃t,u[i]? = some t/\y=.str t.2) (λ _ _ _ _ s z=>z) (λ R h=>⟨_,rfl,.inr (.inl ⟨t,_,0,.ref pt,rfl,rfl,aH.of (a1 _ _ et),bG (j:=0) rfl,h⟩)⟩) (a1.seqT (aH.of h5)) (D0 (m:=6) (by rw [cH X];exact ok.n6) (by decide)) ?_ ?_
  ·intro i hi v H3 s3 hv KT KF k1 k2;obtain ⟨t,ht,b,rfl,eb⟩:=fF X hv;refine ⟨b,_,rfl,aH.of ((a1.trans s3) _ _ eb),rfl,_,_,rfl,_,_,rfl,rfl,[some (.str t.1),some (.str t.2)],rfl,rfl,cG ?_⟩;exact ⟨_,rfl,k1 rfl _ _ (af.refl _) ⟨t,ht,rfl⟩⟩
  intro I H3 us s3 c8 e4;rw [List.filter_eq_self.mpr (λ _ _=>rfl),cH X] at e4;rw [vC (f:=λ t=>t.2) e4];have d1:=s3.trans (af.upd (o:=.lst (u.map λ t=>V.str t.2)) c8);have c6:upd H3 I (.lst (u.map λ t=>V.str t.2)) I=some (.lst (u.map λ t=>V.str t.2)):=ab;have d7:I≠x:=λ z=>by rw [z,s3 _ _ a2] at c8;cases c8
  generalize upd H3 I (.lst (u.map λ t=>V.str t.2))=H4 at d1 c6⊢;have s4:=a1.trans d1;refine lL s4.kept (s4 _ _ ex) rfl (ly _) (DH _) (n:=0) (u0 _) (by decide) λ H5 k5 e8 e5 ln=>?_;refine mv ?_;refine ⟨_,rfl,t,u,O,rfl,ta.tt (dR ex k5),ok,λ p0 H6 s6 pz=>?_⟩;refine lL (k5.trans s6.kept) (s6 _ _ e5) rfl (ly _) (AF _) ln (by decide) λ H7 k7 b9 e7 ln=>?_;refine mv ?_;have a9:Kept x C H7:=(d1.kept.trans e8).trans (s6.kept.trans b9);have k4:Tt (kx w) C H7:=dR a2 a9;refine ⟨_,rfl,lt,zt,rs,rfl,a9 _ _ d0 a0,bI (λ _ _ z=>RcAt.tups k4.t z) ar,by lia,λ le en H8 F b1 EL=>?_⟩;refine lL (k7.trans F.kept) (F _ _ e7) rfl (ly _) (Fp _) ln (by decide) λ H9 k9 Z e9 ln=>?_;refine mv ⟨jk,λ c Y=>?_⟩;have J:=af.upd (o:=.lst []) Y;have g4:upd H9 c (.lst []) c=some (.lst []):=ab;have b3:c≠x:=λ z=>by rw [z,e9] at Y;cases Y
  generalize upd H9 c (.lst [])=H10 at J g4⊢;refine lL (k9.trans J.kept) (J _ _ e9) rfl (ly _) (BR _) ln (by decide) λ d3 g3 a6 g5 ln=>?_;have f0:=a6 _ _ b3 g4;have j9:Kept x C d3:=(a9.trans (F.kept.trans Z)).trans (J.kept.trans a6);have b8:Tt (kx w) H d3:=dR ex g3;refine gB ?_;refine tf (K:=KX w.params) (a:=pt) (xs:=yt) (H1:=d3) (λ _=>true) (λ i y _=>∃t,u[i]? = some t/\y=.str t.1) (λ _ _ _ _ s z=>z) (λ R h=>⟨_,rfl,.inr (.inl ⟨t,_,0,.ref pt,rfl,rfl,aH.of (b8.l _ _ et),bG (j:=0) rfl,h⟩)⟩) (b8.t _ _ (aH.of h5)) (D0 (m:=6) (by rw [cH X];exact ok.n6) (by decide)) ?_ ?_
  ·intro i hi v b7 a5 hv KT KF k1 k2;obtain ⟨t,ht,b,rfl,eb⟩:=fF X hv;refine ⟨b,_,rfl,aH.of (a5 _ _ (b8.l _ _ eb)),rfl,_,_,rfl,_,_,rfl,rfl,[some (.str t.1),some (.str t.2)],rfl,rfl,cG ?_⟩;exact ⟨_,rfl,k1 rfl _ _ (af.refl _) ⟨t,ht,rfl⟩⟩
  intro M b7 us a5 a7 e3;rw [List.filter_eq_self.mpr (λ _ _=>rfl),cH X] at e3;rw [vC (f:=λ t=>t.1) e3];have D:=a5.trans (af.upd (o:=.lst (u.map λ t=>V.str t.1)) a7);have d8:upd b7 M (.lst (u.map λ t=>V.str t.1)) M=some (.lst (u.map λ t=>V.str t.1)):=ab;have l6:M≠x:=λ z=>by rw [z,a5 _ _ g5] at a7;cases a7
  have i1:M≠c:=λ z=>by rw [z,a5 _ _ f0] at a7;cases a7
  generalize upd b7 M (.lst (u.map λ t=>V.str t.1))=HB at D d8⊢;refine aF ?_;have eB:=D _ _ g5;have d2:=D _ _ f0;have kB:Kept x H HB:=g3.trans D.kept;have b2:Kept x C HB:=j9.trans D.kept;have d4:C c=none:=by
   cases z:C c with
   | none=>rfl
   | some o=>have:=((a9.trans (F.kept.trans Z))) _ _ b3 z;rw [Y] at this;cases this
  have h8:H c=none:=a1.free d4;have j4:lt≠c:=λ z=>by rw [z,d4] at a0;cases a0
  have j5:lp≠c:=λ z=>by have:=s2 _ _ b6;rw [z,d4] at this;cases this
  have w5:Kept x H4 H5:=e8;have h4:Kept x H4 H9:=(w5.trans (s6.kept.trans b9)).trans (F.kept.trans Z);have e0:I≠c:=λ z=>by have h:=h4 _ _ d7 c6;rw [z,Y] at h;cases h
  have g9:HB I=some (.lst (u.map λ t=>V.str t.2)):=((h4.trans (J.kept.trans a6)).trans D.kept) _ _ d7 c6;refine ⟨_,rfl,lt,zt,rfl,aK.of (b2 _ _ d0 a0),?_⟩;refine Cw (K:=KX w.params) (a:=lt) (xs:=zt) (λ i σ S=>∃B,aL [c] HB S/\S c=some (.lst B)/\B.length=i/\DS (hide c S) m rs u ps B/\∃x6 x7 x8,σ=[some (.ref x),some (.ref t),some (.str (jx m)),some (.ref lp),some (.ref lt),some (.ref M),x6,x7,x8])
   ⟨[],aL.refl,d2,rfl,λ n r p y _ _ h=>(by cases h),_,_,_,rfl⟩ (λ i σ S h=>?_) ?_ ?_
  ·obtain ⟨B,kk,_⟩:=h;exact aK.of (kk _ _ (by simp [j4]) (b2 _ _ d0 a0))
  ·intro i y σ b4 pq hy z0 i0;refine me λ _ k0=>?_;obtain ⟨B,G,b5,cl,ca,x6,x7,x8,rfl⟩:=z0;refine k0 ?_;clear k0;obtain ⟨a8,v_,sp,i4⟩:=eL (.tup [.int i,y]) i0;rw [<-v_];refine ⟨pq,_,rfl,aH.of i4,rfl,.int i,_,rfl,y,_,rfl,rfl,?_⟩;have l8:i < rs.length:=by rw [<-zl];exact (List.getElem?_eq_some_iff.mp hy).1
   obtain ⟨r,g0,py,rfl,g6⟩:=fF ar hy;obtain ⟨U,j0,g1,g2,hm,dk,ix,wi,ga⟩:=ik gd g0;have mB :∀l∈[c],jw HB l:=λ l hl=>by rw [List.mem_singleton.mp hl];exact .inl ⟨_,d2⟩
   have i3:Tt (kx w) C HB:=dR a2 b2;have c5:Tt (kx w) C a8:=(i3.trans (aL.tt G mB)).trans (.of sp);have a4:aL [c] HB a8:=G.trans sp.keptL;have g8:=c5.t _ _ g6;rw [g1] at g8;have c7:=iK ok hm;have l7:fX u U.nm < u.length:=(List.getElem?_eq_some_iff.mp c7).1;have h0:(u.map (·.1))[fX u U.nm]? = some U.nm:=by rw [M0,c7];rfl
   have j2:u.map (λ t=>V.str t.1)=(u.map (·.1)).map V.str:=by rw [v3];rfl
   have c9:=a4 _ _ (by simp [i1]) d8;rw [j2] at c9;refine ⟨_,rfl,.inl ⟨rfl,_,aK.of c9⟩,_,rfl,.inr (.inl ⟨py,_,1,.str U.nm,rfl,rfl,g8,bG (j:=1) rfl,M,u.map (·.1),U.nm,fX u U.nm,rfl,rfl,c9,D0 (m:=6) (by rw [C0];exact ok.n6) (by decide),h0,λ m' l3 e=>?_,?_⟩)⟩
   ·have:=(B8 (List.getElem?_eq_some_iff.mp e).1 ok.nd).mp (e.trans h0.symm)
    lia
   refine aF (dh ?_);have d6:=a4 _ _ (by simp [b3.symm]) eB;have a3:=sp _ _ b5;have h7:=a4 _ _ (by simp [e0]) g9;have j8:=a4 _ _ (by simp [j5]) (b2 _ _ k8 (s2 _ _ b6));refine ⟨_,rfl,x,_,dx,_,_,rfl,d6,ly _,BR _,ew,.inl ⟨rfl,_,aK.of a3⟩,?_⟩;refine ⟨_,rfl,_,rfl,_,rfl,_,rfl,x,_,dx,_,_,rfl,d6,ly _,DH _,bt (bt (bt ew)),?_⟩;refine ⟨_,rfl,.inl ⟨I,_,_,.str U.k,rfl,rfl,aK.of h7,bG (by rw [M0,c7];rfl),?_⟩⟩;refine ⟨_,rfl,λ xc dc b0 e6 nc=>?_⟩;have sC:af a8 (upd (upd a8 dc (.own xc)) xc (.ins 265 dc [])):=(af.upd e6).trans (af.upd (by rw [ak nc.symm];exact b0));refine ⟨xc,dc,lp,i,_,_,.ref py,zp,lR m rs rs.length,r,rfl,ab,⟨py,rfl,sC.seqT (c5.t _ _ g6)⟩,sC _ _ j8,bI (λ _ _ z=>z.elim λ b y=>⟨b,y.1,sC _ _ (c5.l _ _ (s2 _ _ y.2))⟩) ap,by lia,λ fs la lb as bs k3 i5 h9 f1 f2 f3 f4 f5 f6 f7 f8 f9 ea eb ma mb i7 i2 fa fb=>⟨rfl,?_⟩⟩;have d5:af a8 k3:=Gf b0 e6 i5;have j1:=d5 _ _ a3;refine ⟨c,B,_,rfl,rfl,j1,T1 (m:=100) (by lia) (by decide),?_⟩;have j3:xc≠c:=λ z=>by rw [z,a3] at b0;cases b0
   have j6:la≠c:=λ z=>by rw [z,sC _ _ a3] at fa;cases fa
   have i6:lb≠c:=λ z=>by rw [z,sC _ _ a3] at fb;cases fb
   refine ⟨B++[.ref xc],(a4.trans d5.keptL).trans (aL.set (by simp)),ab,by rw [G0];show B.length + 1=_;lia,λ n r' p' y' h1 W L=>?_,_,_,_,rfl⟩;rw [uf];by_cases z:n < B.length
   ·rw [A2 z] at L;exact (ca n r' p' y' h1 W L).same (ui (sp.trans d5))
   ·have hn:n=B.length:=by
     have:=(List.getElem?_eq_some_iff.mp L).1;rw [G0] at this;have:n < B.length + 1:=this
     lia
    rw [hn,L1 (u0 _),B9] at L;cases L;rw [hn,cl] at h1 W;rw [g0] at h1;rw [j0] at W;cases h1;cases W;rw [hn,cl];exact ⟨xc,dc,fs,la,lb,as,bs,rfl,jH j3 h9,f1,f2,f3,f4,f5,f6,f7,f8,f9,jH j6 ea,jH i6 eb,λ a=>(ma a).trans ⟨λ h=>(eD.mp h).2.2,λ h=>eD.mpr ⟨(lI h).1,(lI h).2,h⟩⟩,λ b=>(mb b).trans ⟨λ h=>(eD.mp h).2.2,λ h=>eD.mpr ⟨(lI h).1,(lI h).2,h⟩⟩,i7,i2⟩
  ·intro σ b4 z0;refine me λ _ k0=>?_;obtain ⟨B,G,b5,cl,ca,x6,x7,x8,rfl⟩:=z0;refine k0 ?_;clear k0;have i9 :∀b o,b≠x->b≠c->H8 b=some o->b4 b=some o:=λ b o n1 n2 e=>G _ _ (by simp [n2]) (D _ _ (a6 _ _ n1 (J _ _ (Z _ _ n1 e))));have h6:le≠x:=λ z=>by rw [z,F _ _ e7] at b1;cases b1
   have k6:le≠c:=λ z=>by have h:=Z _ _ h6 b1;rw [z,Y] at h;cases h
   have i8 :∀l∈[c],jw HB l:=λ l hl=>by rw [List.mem_singleton.mp hl];exact .inl ⟨_,d2⟩
   have j7:Tt (kx w) H6 b4:=((dR (s6 _ _ e5) b9).trans ((Tt.of F).trans ((dR (F _ _ e7) Z).trans ((Tt.of J).trans ((dR (J _ _ e9) a6).trans (.of D)))))).trans (aL.tt G i8);refine q _ b4 (λ b o nb e=>G _ _ (λ z=>by rw [List.mem_singleton.mp z,h8] at e;cases e) (kB b o nb e)) (G _ _ (by simp [b3.symm]) eB) ⟨⟨c,B,ew,b5,by lia,λ n r p y h1 W L=>(ca n r p y h1 W L).same aO⟩,⟨p0,bt (bt ew),pz.tups j7.t⟩,⟨le,en,bt ew,i9 _ _ h6 k6 b1,EL⟩,⟨I,bt (bt (bt ew)),G _ _ (by simp [e0]) g9⟩,λ z hz=>?_⟩;simp only [K1,t0,or_false] at hz;rcases hz with rfl|rfl|rfl<;>exact (bt (bt (bt (bt rfl))))
def Hu {α β:Type} {R:α->β->Prop} {xs xs':List α} {ys ys':List β} (h:av R xs ys) (h':av R xs' ys'):av R (xs++xs') (ys++ys'):=by
 induction h with
 | nil=>exact h'
 | cons a r ih=>exact .cons a ih
def lZ {tc:TT} {ta:TS} (R:Hp->Prop) (k :∀H',R H'->ta D σ H') (h:(∀H',R H'->ta D σ H')->k_ tc ta tb D σ H):k_ tc ta tb D σ H:=h k
def js (K:b0) (H:Hp) (m:Nat) (rs:List Rc) (ts:List (ZR×ZR)) (ps:List DD) (b:ZS):Prop:=∃dx fs,H b=some (.ins 305 dx fs)/\sU K H m rs ts ps fs
def js.same {rs:List Rc} (s:af H H') (h:js K H m rs ts ps b):js K H' m rs ts ps b:=h.elim λ a z=>z.elim λ fs y=>⟨a,fs,s _ _ y.1,y.2.same s⟩
def BL (K:b0):Sp:=λ vs H Q _=>∃(b pp:ZS) (m k:Nat) (rs:List Rc) (ts:List (ZR×ZR)) (ps:List DD) (pl:Pl),vs=[.ref b,.ref pp]/\js K H m rs ts ps b/\av (dq K H ts) rs ps/\ko ts/\jC K H pp pl/\eV ts rs.length k pl/\rs.length<=63/\
 ∀l ys H',af H H'->H l=none->H' l=some (.lst ys)->av (fe K H') (eM (cP m rs pl.1) ts rs ps pl rs.length) ys->Q (.ref l) H'
theorem Pa (T:TX (kx w) mg) (c0:Fo P w mg base CX0 1 262 yi ["self","done"] (IE (kx w))) (c1:Ca P w mg base "step_of" ["candidate","place"] 6 (Hn (kx w))):Fo P w mg base CX0 7 288 vn ["self","place"] (BL (kx w)):=by
 refine (DV w.params).ok bF (λ vs H Q E h=>?_) (λ a6 A a7 s H vs Q E hr h=>?_)
 ·obtain ⟨b,B,m,k,c,o,I,d,rfl,_⟩:=h;rfl
 ·obtain ⟨b,B,m,k,c,o,I,d,rfl,⟨dx,fs,eb,⟨⟨lc,cs,fc,ec,cl,ca⟩,_,_,_,fn⟩⟩,gd,ok,pz,po,rl,q⟩:=h;refine ⟨_,(aV (aA (i:=2) bF.nd rfl (Y0 rfl) (aY ae))
   (aV (bO U1 rfl (lN (bS (pv 0) rfl)) (eY (i:=3) bF.nd rfl (Y0 rfl))
   (aU (aN (cA (xp (pv 3) (iu _) (Qc _) c0 (hr.mono (by decide)) (Rt _) .nil ir (ao (aq aj (pv 1) ag (λ _ _=>rfl)) ae)) (λ _=>rfl))
   (aV (aA (i:=4) bF.nd rfl (Y0 rfl) (aB c1 (hr.mono (by decide)) rfl (ao (pv 3) (ao (pv 1) ae))))
   (aU (aN (PW.pt (hU (cI gW (bS (pv 3) rfl) bx (aC _)) (gv (cI bP (bS (pv 3) rfl) (aq aj (pv 4) ag (λ _ _=>rfl)) (aC _)))))
   (aU (lr (nC (pv 2) (ao (pv 4) ae))))
   dG)))
   dG)))
   (aU (au (pv 2))))),?_⟩
  refine ⟨jk,λ t Y=>?_⟩;obtain ⟨H1,v_,s1,O⟩:=eL (.lst []) Y;rw [<-v_];refine aF (dh ?_);refine ⟨_,rfl,b,_,dx,fs,_,rfl,s1 _ _ eb,ly _,BR _,fc,lc,rfl,⟨_,aK.of (s1 _ _ ec)⟩,?_⟩;refine pT (K:=KX w.params) (a:=lc) (xs:=cs) (λ i σ f=>∃l,af H f/\f t=some (.lst l)/\av (fe (kx w) f) (eM (cP m c d.1) o c I d i) l/\∃F C,σ=[some (.ref b),some (.ref B),some (.ref t),F,C])
   ⟨[],s1,O,.nil,_,_,rfl⟩ (λ i σ f _ h=>aK.of (h.choose_spec.1 _ _ ec)) ?_ ?_
  ·intro i y σ H2 hy Z;refine me λ _ J=>?_;obtain ⟨l,u,N,G,F,C,rfl⟩:=Z;refine J ?_;clear J;have a1:i < c.length:=by rw [<-cl];exact (List.getElem?_eq_some_iff.mp hy).1
   have L:c[i]? = some c[i]:=B0 a1;obtain ⟨p,W,g⟩:=ik gd L;generalize c[i]=r at L g;have cy:=(ca i r p y L W hy).same u;obtain ⟨pa,pb,vs,sp,sa,sb,sz⟩:=id pz;refine aF ?_;have a5 :∀{f:Hp} {R:VK},af H f->R (.ref pa) f->jQ (oP (kx w)) (hV 1) (tC (.int 0)) [some (.ref b),some (.ref B),some (.ref t),some y,C] f R:=λ M h=>⟨_,rfl,.inr (.inl ⟨B,_,0,.ref pa,rfl,rfl,M.seqT sp,bG (j:=0) rfl,h⟩)⟩
   have skip:cP m c d.1 i=false\/eQ o r p i d=none->∀{F C:Option V} {f:Hp},af H2 f->∃l,af H f/\f t=some (.lst l)/\av (fe (kx w) f) (eM (cP m c d.1) o c I d (i + 1)) l/\∃x3' x4',[some (.ref b),some (.ref B),some (.ref t),F,C]=[some (.ref b),some (.ref B),some (.ref t),x3',x4']:=λ h {F C f} M=>by
    refine ⟨l,u.trans M,M _ _ N,?_,_,_,rfl⟩;rw [uQ,show dC (cP m c d.1) o c I d i=none by
     unfold dC;rcases h with h|h
     ·rw [h];rfl
     ·rw [L,W];split<;>first|exact h|rfl]
    rw [j06,D2];exact bI (λ _ _ z=>fe.tups (.of M) z) G
   obtain ⟨x,S,U,la,lb,as,bs,rfl,X,f1,f2,f3,f4,f5,f6,f7,f8,f9,_⟩:=id cy;refine ⟨_,rfl,x,S,U,rfl,X,f9,a5 u ⟨.ref x,pa,m,i,c,o,r,p,d.1,rfl,cy,u.seqT sa,_,rfl,?_⟩⟩;cases hc:cP m c d.1 i with
   | false=>exact cF (skip (.inl hc) (af.refl _))
   | true=>
   refine cG ?_;have ni:i∉d.1:=ZW (Bool.and_eq_true_iff.mp (Bool.and_eq_true_iff.mp hc).1).1;refine ⟨_,rfl,_,rfl,.ref x,B,m,i,k,c.length,c,o,r,p,d,rfl,cy,g.tt (.of u),ok,pz.tups (.of u),po,rl,a1,ni,λ sv b6 q6 H3 a4 so D e3 a3=>?_⟩;refine aF (dh ?_);have st:=jY (r:=r) (n:=i) a4;refine lZ (λ f=>H3=f/\eQ o r p i d=some (qK o p i d sv)) ?_ λ put=>?_;rotate_left
   ·refine qB ?_;refine ⟨_,rfl,x,_,S,U,_,rfl,D _ _ X,iu _,Aq _,f6,rfl,_,rfl,?_⟩;have a2:=iC g.2.2.2.1 so (po.n63 rl a1 ni).1;rcases g.2.2.2.2.2.2 with ⟨h1,v⟩|⟨h1,v⟩
    ·refine bw (by rw [v];rfl) (cG (put _ ⟨rfl,?_⟩));rw [st,h1];rfl
    have na:¬ decide (r.a=V.non)=true:=λ h=>by have:=ZW h;rcases v with ⟨j,v⟩|⟨j,v⟩<;>(rw [v] at this;cases this)
    have O:r.e.isNone=false:=Option.isNone_eq_false_iff.mpr h1;refine bM na ?_;refine ⟨_,rfl,x,_,S,U,_,rfl,D _ _ X,iu _,Aq _,f6,?_⟩;refine ⟨_,rfl,.inr (.inl ⟨b6,_,1,_,rfl,rfl,aH.of e3,bG (j:=1) rfl,nG.scal (.inl v) (.inl a2.2.isA),_,rfl,?_⟩)⟩;by_cases za:r.a=(dz p.k p.vb p.dt sv).2
    ·refine bw (ZY za) (put _ ⟨rfl,?_⟩);rw [st,O,j42,ZY za.symm];rfl
    ·refine bM (λ h=>za (ZW h)) (skip (.inr ?_) D);rw [st,O,j42,ZX (λ h=>za h.symm)];rfl
   rintro f ⟨rfl,hst⟩;have a0:=D _ _ N;have yl:l.length<=i:=by rw [cH G];exact AR
   refine ⟨_,rfl,.inl ⟨rfl,_,aK.of a0⟩,_,rfl,t,l,_,rfl,rfl,a0,T1 (m:=100) (by lia) (by decide),?_⟩;have tu:bA (kx w) H3 (upd H3 t (.lst (l++[.ref b6]))):=bA.lst a0;refine ⟨l++[.ref b6],af.keep (u.trans D) Y,ab,?_,_,_,rfl⟩;rw [uQ,show dC (cP m c d.1) o c I d i=some (qK o p i d sv) by unfold dC;rw [ZZ hc,L,W];exact hst];exact Hu (bI (λ _ _ z=>(fe.tups (.of D) z).tups tu) G) (.cons (a3.tups tu) .nil)
  ·intro σ H2 Z;refine me λ _ J=>?_;obtain ⟨l,u,N,G,F,C,rfl⟩:=Z;refine J ?_;clear J;rw [cl] at G;exact ⟨_,rfl,q t l H2 u Y N G⟩
end
variable {ys:List V}
section
theorem mC (h:m<=ys.length):bY ys none (some (m:Int))=ys.take m/\HT.sIx ys.length 0 none=0/\HT.sIx ys.length ys.length (some (m:Int))=m:=by
 have a:HT.sIx ys.length 0 none=0:=by simp [HT.sIx]
 have b:HT.sIx ys.length ys.length (some (m:Int))=m:=by simp [HT.sIx];rw [Z_ (by lia)];exact M7 h
 refine ⟨?_,a,b⟩;unfold bY;rw [a,b,N6,Nat.sub_zero]
end
variable {G:Pl->Prop} {H0:Hp} {a:ZS} {f:ZM->Prop} {ks:List (ZK×ZS)} {ss:List Sv}
section
def FG (K:b0):Sp:=λ vs H Q _=>∃(a:ZS) (ns:List Int),vs=[.ref a,.int 0]/\aK K H a (ns.map V.int)/\∀i,Q (.int i) H
def LZ (T:TX (kx w) mg):Fo P w mg base CX0 1 366 zZ ["script","k"] (FG (kx w)):=by
 refine (yT w.params).ok Py (λ d H Q E h=>?_) (λ g A e s H d Q E f h=>?_)
 ·obtain ⟨a,b,rfl,_⟩:=h;rfl
 ·obtain ⟨a,b,rfl,c,q⟩:=h;refine ⟨_,(aV (aN (cI ij (pv 1) (fD jG rfl (T.no (dE _)) S4 (ao (pv 0) ae)) (aC _))
   (aU (au (aq aj (pv 0) (pv 1) (λ _ _=>rfl))))
   dG)
   (aU (au ag))),?_⟩
  refine ⟨_,rfl,_,rfl,.inl ⟨a,_,rfl,.inl c,_,_,rfl,rfl,_,rfl,?_⟩⟩;cases b with
  | nil=>exact cF (q 0)
  | cons n b=>rw [ZZ (by simp)];exact ⟨_,rfl,_,rfl,.inl ⟨a,_,0,.int n,rfl,rfl,c,bG (xs:=(n :: b).map V.int) (j:=0) rfl,q n⟩⟩
def bu (H:Hp) (r:ZS) (n:Nat):Prop:=∃a b c:Int,H r=some (.lst [.int a,.int b,.int c])/\0<=b/\b < 2/\0<=c/\c<=n
def bu.same (h:bu H r n) (s:af H H'):bu H' r n:=by obtain ⟨a,b,c,e,z⟩:=h;exact ⟨a,b,c,s _ _ e,z⟩
def bu.fresh (h:bu H r n) (e:H p=none):p≠r:=λ z=>by obtain ⟨a,b,c,d,_⟩:=h;rw [z,d] at e;cases e
structure Dw (r:ZS) (n:Nat) (H H':Hp):Prop where
 k:Kept r H H'
 r:bu H' r n
def Dw.trans (a:Dw r n H H1) (b:Dw r m H1 H2):Dw r m H H2:=⟨a.k.trans b.k,b.r⟩
def Dw.same (a:Dw r n H H1) (s:af H1 H2):Dw r n H H2:=⟨a.k.trans s.kept,a.r.same s⟩
def bu.dw (h:bu H r n):Dw r n H H:=⟨.refl,h⟩
def Dw.free (h:Dw r n H H') (e:H' p=none):H p=none:=by
 cases z:H p with
 | none=>rfl
 | some o=>rw [h.k _ _ (h.r.fresh e) z] at e;cases e
def wC:Sp:=λ vs H Q _=>∃(r:ZS) (m:Int) (n:Nat),vs=[.ref r,.int m]/\bu H r n/\n < 10000/\0 < m/\m < 2 ^ 64/\∀t H',Dw r (n + 1) H H'->0<=t->t < m->Q (.int t) H'
theorem LW (T:TX (kx w) mg):Fo P w mg base CX0 1 373 zi ["deck","many"] wC:=by
 refine (Az w.params).ok dH (λ l H Q E h=>?_) (λ B A F s H l Q E y h=>?_)
 ·obtain ⟨r,m,n,rfl,_⟩:=h;rfl
 ·obtain ⟨r,m,n,rfl,⟨a,b,c,e,j,k,p,u⟩,z,f,o,q⟩:=h;refine ⟨_,(aV (aN (cI bP (aq aj (pv 0) ag (λ _ _=>rfl)) ag (aC _))
   (aV (aA (i:=2) dH.nd rfl (Y0 rfl) (aQ gc (aq aj (pv 0) ag (λ _ _=>rfl)) (pv 1)))
   (aV (eG (aQ zy (aq aj (pv 0) ag (λ _ _=>rfl)) (pv 1)) (gu (pv 0) ag sP))
   (aU (au (pv 2)))))
   dG)
   (aV (eG (aQ ei (aq aj (pv 0) ag (λ _ _=>rfl)) ag) (gu (pv 0) ag sP))
   (aV (aA (i:=3) dH.nd rfl (Y0 rfl) (aQ gc (aQ ei (aQ gb (aQ gc (aq aj (pv 0) ag (λ _ _=>rfl)) ag) (aQ ei (aQ gb (aq aj (pv 0) ag (λ _ _=>rfl)) (aq aj (pv 0) ag (λ _ _=>rfl))) ag)) (aq aj (pv 0) ag (λ _ _=>rfl))) ag))
   (aV (aA (i:=3) dH.nd rfl (Y0 rfl) (aQ gc (aQ gb (pv 3) (pv 3)) ag))
   (aU (au (aQ gc (aQ zy (aQ gc (aQ gb (pv 3) ag) ag) ag) (pv 1)))))))),?_⟩
  refine ⟨_,rfl,.inl ⟨r,_,1,.int b,rfl,rfl,aK.of e,rfl,rfl,_,rfl,?_⟩⟩;refine gm (λ _=>?_) λ _=>?_
  ·refine ⟨_,rfl,.inl ⟨r,_,0,.int a,rfl,rfl,aK.of e,rfl,_,rfl,_,_,rfl,rfl,f,?_⟩⟩;refine ⟨_,rfl,.inl ⟨r,_,0,.int a,rfl,rfl,aK.of e,rfl,_,rfl,_,_,rfl,rfl,⟨f,o⟩,?_⟩⟩;refine ⟨_,rfl,r,_,0,0,rfl,rfl,e,rfl,?_⟩;exact ⟨_,rfl,q _ _ ⟨.set,_,b,c,ab,j,k,p,by lia⟩ (N7 _ (by lia)) (E6 _ f)⟩
  ·refine ⟨_,rfl,.inl ⟨r,_,2,.int c,rfl,rfl,aK.of e,rfl,.inl ⟨_,_,rfl,rfl,?_⟩⟩⟩;refine ⟨_,rfl,r,_,2,2,rfl,rfl,e,rfl,?_⟩;have d:upd H r (.lst ([V.int a,.int b,.int c].set 2 (.int (c + 1)))) r=some (.lst [.int a,.int b,.int (c + 1)]):=ab;have g:Kept r H (upd H r (.lst ([V.int a,.int b,.int c].set 2 (.int (c + 1))))):=.set;generalize upd H r (.lst ([V.int a,.int b,.int c].set 2 (.int (c + 1))))=H2 at d g⊢;have v:0<=a % 2147483647:=N7 _ (by decide);have D:a % 2147483647 < 2147483647:=E6 _ (by decide);refine ⟨_,rfl,.inl ⟨r,_,0,.int a,rfl,rfl,aK.of d,rfl,_,_,rfl,rfl,(show (0:Int) < 2147483647 by decide),?_⟩⟩;refine ⟨_,rfl,.inl ⟨r,_,2,.int (c + 1),rfl,rfl,aK.of d,rfl,_,rfl,.inl ⟨r,_,2,.int (c + 1),rfl,rfl,aK.of d,rfl,_,_,rfl,rfl,.inl ⟨by lia,by lia⟩,.inl ⟨_,_,rfl,rfl,?_⟩⟩⟩⟩;refine ⟨_,_,rfl,rfl,.inl ⟨by lia,by lia⟩,_,rfl,.inl ⟨r,_,2,.int (c + 1),rfl,rfl,aK.of d,rfl,.inl ⟨_,_,rfl,rfl,?_⟩⟩⟩;refine ⟨_,_,rfl,rfl,(show (0:Int) < 2147483629 by decide),?_⟩;generalize hx:(a % 2147483647 * ((c + 1) * (c + 1) + 48271) + (c + 1)) % 2147483629=x;have t:0<=x:=by rw [<-hx];exact N7 _ (by decide)
   have C:x < 2147483629:=by rw [<-hx];exact E6 _ (by decide)
   refine ⟨_,rfl,_,rfl,_,_,rfl,rfl,.inl ⟨by lia,by lia⟩,_,_,rfl,rfl,(show (0:Int) < 2147483587 by decide),?_⟩;refine ⟨_,rfl,_,_,rfl,rfl,.inr (by decide),_,_,rfl,rfl,(show (0:Int) < 2147483563 by decide),_,_,rfl,rfl,⟨by decide,by decide⟩,_,rfl,_,_,rfl,rfl,f,?_⟩;exact q _ _ ⟨g,a,b,c + 1,d,j,k,by lia,by lia⟩ (N7 _ (by lia)) (E6 _ f)
def Es:Sp:=λ vs H Q _=>∃(r:ZS) (n:Nat),vs=[.ref r]/\bu H r n/\n < 10000/\∀i H',Dw r (n + 1) H H'->near i->Q (.int i) H'
def Qk (T:TX (kx w) mg) (c0:Ca P w mg base "_law_take" ["deck","many"] 1 wC):Fo P w mg base CX0 2 390 Cv ["deck"] Es:=by
 refine (AU w.params).ok Pf (λ d H Q E h=>?_) (λ p A u s H d Q E e h=>?_)
 ·obtain ⟨r,n,rfl,_⟩:=h;rfl
 ·obtain ⟨r,n,rfl,R,g,q⟩:=h;refine n_ (nM (qU (kn aj (eI (eg (QE.mk ag) (eg (QE.mk ag) (eg (QE.mk ag) (eg (QE.mk ag) (eg (QE.mk ag) (eg (QE.mk ag) (eg (QE.mk (mP kb ag)) (eg (QE.mk (aQ mz ag ag)) eE))))))))) (QE.mk (aB c0 (e.mono (by decide)) rfl (ao (pv 0) (ao ag ae)))) (λ _ _=>rfl)))) ?_;refine ⟨_,rfl,_,_,rfl,rfl,p9,Eo,λ l a=>?_⟩;simp only [e9];refine ⟨_,rfl,r,8,n,rfl,R.same (af.upd a),g,by decide,by decide,λ t x c j f=>?_⟩;obtain ⟨v,m,b⟩:=eT (xs:=[V.int 0,.int 1,.int 2,.int 3,.int 1,.int 2,.int (-1),.int 1000000000]) j f;refine .inl ⟨l,_,t,v,rfl,rfl,aK.of (c.k _ _ (R.fresh a) ab),m,?_⟩;have i:=(R.dw.same (af.upd (o:=.lst [V.int 0,.int 1,.int 2,.int 3,.int 1,.int 2,.int (-1),.int 1000000000]) a)).trans c;simp only [K1,t0,or_false] at b;rcases b with rfl|rfl|rfl|rfl|rfl|rfl|rfl|rfl<;>exact q _ _ i ⟨by decide,by decide⟩
def GJ (K:b0):Sp:=λ vs H Q _=>∃(r:ZS) (k:ZR) (n:Nat),vs=[.ref r,.str k]/\bu H r n/\n < 9000/\k∈bT/\∀p v x d H' m,Dw r m H H'->m<=n + 3->H' p=some (.tup [.str v,x])->H p=none->bp k v d->bV K H' d x->cv H' d x->Q (.ref p) H'
theorem Rl (T:TX (kx w) mg) (c0:Ca P w mg base "_law_take" ["deck","many"] 1 wC) (c1:Ca P w mg base "_law_worth" ["deck"] 2 Es):Fo P w mg base CX0 3 397 zF ["deck","kind"] (GJ (kx w)):=by
 refine (B_ w.params).ok eU (λ vs H Q E h=>?_) (λ b3 A b4 s H vs Q E u h=>?_)
 ·obtain ⟨r,k,n,rfl,_⟩:=h;rfl
 ·obtain ⟨r,k,n,rfl,R,hn,Z,q⟩:=h;refine n_ (gN (iS (i:=2) eU.nd rfl (Y0 rfl) (QW (yG (QE.mk az) (eI (eg (QE.mk az) (eg (QE.mk az) eE))) (yG (QE.mk az) (eI (eg (QE.mk az) (eg (QE.mk az) eE))) (yG (QE.mk az) (eI (eg (QE.mk az) (eg (QE.mk az) eE))) NK))) rfl rfl (by simp) (by decide)))
   (gN (Ae (cQ u) (QE.mk (pv 2)) (QE.mk az) (eI (eg (QE.mk az) (eg (QE.mk az) (eg (QE.mk az) eE)))) rfl)
   (gN (Ae (cQ u) (QE.mk (pv 2)) (QE.mk az) (eI (eg (QE.mk az) (eg (QE.mk az) (eg (QE.mk az) (eg (QE.mk az) eE))))) rfl)
   (gN (QS.mk (aA (i:=3) eU.nd rfl (Y0 rfl) (aq aj (qC (cQ u) (pv 2) (pv 1) (λ _ _=>rfl)) (aB c0 (u.mono (by decide)) rfl (ao (pv 0) (ao (fD jG rfl (T.no (dE _)) S4 (ao (qC (cQ u) (pv 2) (pv 1) (λ _ _=>rfl)) ae)) ae))) (λ _ _=>rfl))))
   (gN (QS.mk (aN (cI bP (pv 3) az (aC _))
   (aU (au (aD (ao (pv 3) (ao (aD (ao (aB c1 (u.mono (by decide)) rfl (ao (pv 0) ae)) (ao (aB c1 (u.mono (by decide)) rfl (ao (pv 0) ae)) ae))) ae)))))
   dG))
   (gN (QS.mk (aN (cI oO (pv 3) (aY (ao az (ao az ae))) (by with_unfolding_all rfl))
   (aU (au (aD (ao (pv 3) (ao bx ae)))))
   dG))
   (nM (QS.mk (au (aD (ao (pv 3) (ao (aB c1 (u.mono (by decide)) rfl (ao (pv 0) ae)) ae)))))))))))) ?_
  refine gB ?_;intro p hp;refine ⟨cZ,λ l1 h1=>⟨cZ,λ l2 K=>⟨cZ,λ W U=>?_⟩⟩⟩;obtain ⟨ep,H2,a8,s2,e2,f2⟩:=rJ (H:=H) (k1:="register") (k2:="counter") (k3:="queue") (w1:=["write","read"]) (w2:=["add","read"]) (w3:=["put","take"]) hp h1 K U (by decide +kernel) (by decide +kernel) (by decide +kernel);refine ⟨ep,[(.inr "register",.ref l1),(.inr "counter",.ref l2),(.inr "queue",.ref W)],rfl,(show (3:Nat)<=15 by decide),?_⟩;rw [show fU [] [((.inr "register" : Key),V.ref l1),(.inr "counter",.ref l2),(.inr "queue",.ref W)]=[(.inr "register",.ref l1),(.inr "counter",.ref l2),(.inr "queue",.ref W)] from rfl];refine aF ?_;refine (show∀A,H2=A->gE _ _ _ _ A from ?_) _ a8;intro A I;subst I;refine ⟨nL,λ l4 h4=>⟨_,rfl,p,_,rfl,hZ.k (k:=.inr "set") ((af.upd h4) _ _ e2) (show (3:Nat) < ZF by decide),?_⟩⟩;obtain ⟨H4,a4,W4,k4⟩:=gL.put (k:="set") (ws:=["put","cut","has"]) h4 e2 (n:=3) (u0 _) f2;refine (show∀A,H4=A->gE _ _ _ _ A from ?_) _ a4;intro A I;subst I;obtain ⟨b7,e4,n4,f4⟩:=W4.ex;refine ⟨tI,λ l5 h5=>⟨_,rfl,p,_,rfl,hZ.k (k:=.inr "cell") ((af.upd h5) _ _ e4) (T1 n4 (by decide)),?_⟩⟩;obtain ⟨H5,b1,W5,k5⟩:=gL.put (k:="cell") (ws:=["read","write","swap","swap"]) h5 e4 n4 f4;refine (show∀A,H5=A->gE _ _ _ _ A from ?_) _ b1;intro A I;subst I;have s5:af H H5:=Nf (L:=[p]) ((s2.keptL.trans k4).trans k5) (λ l hl=>by rw [List.mem_singleton.mp hl];exact hp);obtain ⟨b5,e5,_,f5⟩:=W5.ex;have w5:=R.dw.same s5;have fk:(if k = "cell" then some ["read","write","swap","swap"] else if k = "set" then some ["put","cut","has"] else if k = "register" then some ["write","read"] else if k = "counter" then some ["add","read"] else if k = "queue" then some ["put","take"] else none:Option (List ZR))=some (dU k):=by have B:=Z;unfold bT at B;simp only [K1,t0,or_false] at B;rcases B with rfl|rfl|rfl|rfl|rfl<;>decide +kernel
  obtain ⟨C,v6,F⟩:=f5 k _ fk;have dg:d_ H5 p (.str k) (some (.ref C)):=by have:=d_.k (k:=.inr k) e5;rw [v6] at this;exact this
  refine ⟨_,rfl,_,rfl,p,.ref C,rfl,dg,_,rfl,_,rfl,_,rfl,p,.ref C,rfl,dg,.inl ⟨C,_,rfl,.inl (aK.of F),?_⟩⟩;have a1:0 < (dU k).length/\(dU k).length<=4:=by have B:=Z;unfold bT at B;simp only [K1,t0,or_false] at B;rcases B with rfl|rfl|rfl|rfl|rfl<;>decide +kernel
  refine ⟨r,_,n,rfl,w5.r,by lia,by rw [C0];lia,by rw [C0];lia,λ t7 H7 w7 a3 a7=>?_⟩;obtain ⟨v0,a9,b0⟩:=eT (xs:=(dU k).map V.str) a3 a7;obtain ⟨v,hv,rfl⟩:=List.mem_map.mp b0;have n6:C≠r:=λ z=>by
   obtain ⟨a,b,c,er,_⟩:=w5.r;rw [z,er] at F;cases hws:dU k with
   | nil=>rw [hws] at a1;exact ZV a1.1 (by decide)
   | cons y ys=>rw [hws] at F;cases F
  refine .inl ⟨C,_,t7,_,rfl,rfl,aK.of (w7.k _ _ n6 F),a9,?_⟩;have b2:=w5.trans w7;have fr :∀{m:Nat} {H':Hp} {p':ZS},Dw r m H H'->H' p'=none->H p'=none:=λ hw e=>hw.free e;have J:Dw r (n + 1) H H7:=b2;have S :∀(d:Dt) (x:V) (g:Hp) (m:Nat),Dw r m H g->m<=n + 3->bp k v d->bV (kx w) g d x->cv g d x->∀p9,g p9=none->Q (.ref p9) (upd g p9 (.tup [.str v,x])):=λ d x g m f a5 dk ix wi p9 D=>q p9 v x d _ m (f.same (af.upd D)) a5 ab (f.free D) dk (ix.same (af.upd D)) (λ a b e=>(wi a b e).elim λ t z=>⟨t,z.1,(af.upd D) _ _ z.2⟩);rcases NQ Z hv with ⟨a2,G⟩|⟨hsw,G⟩|⟨h1,K,U,G⟩
  ·refine ⟨_,rfl,rfl,_,rfl,bM (by rcases a2 with rfl|rfl<;>decide +kernel) ?_⟩;refine ⟨_,rfl,cZ,λ p8 X=>⟨p8,[V.str "read",.str "take"],rfl,.inl (aK.of ab),rfl,rfl,_,rfl,bw (by rcases a2 with rfl|rfl<;>decide +kernel) ?_⟩⟩;exact ⟨_,rfl,cZ,λ p9 D=>S .non .non _ _ (J.same (af.upd X)) (by lia) G rfl (λ _ _ e=>by cases e) p9 D⟩
  ·subst hsw;refine ⟨_,rfl,rfl,_,rfl,bw (ZY rfl) ?_⟩;refine ⟨_,rfl,_,rfl,r,_,rfl,J.r,by lia,λ i g f O=>⟨_,rfl,r,_,rfl,f.r,by lia,λ j b6 N nj=>⟨cZ,λ a0 a6=>⟨cZ,λ Y M=>?_⟩⟩⟩⟩;exact S (.tup [.int i,.int j]) (.ref a0) _ _ (((J.trans f).trans N).same (af.upd a6)) (by lia) (G i j O nj) (.mkT ab (.mk2 rfl rfl)) (λ a b e=>by cases e;exact ⟨a0,rfl,ab⟩) Y M
  ·refine ⟨_,rfl,rfl,_,rfl,bM (by rw [ZX λ e=>U (by injection e)];decide) ?_⟩;refine ⟨_,rfl,cZ,λ p8 X=>⟨p8,[V.str "read",.str "take"],rfl,.inl (aK.of ab),rfl,rfl,_,rfl,?_⟩⟩;have iv:lg (.str v) [.str "read",.str "take"]=decide (v∈(["read","take"]:List ZR)):=ND v ["read","take"];rw [Z_ O0,iv];refine bM (λ z=>?_) ?_
   ·have:=ZW z;simp only [K1,t0,or_false] at this;rcases this with z|z
    ·exact h1 z
    ·exact K z
   ·have f:=J.same (af.upd (o:=.lst [V.str "read",.str "take"]) X);exact ⟨_,rfl,_,rfl,r,_,rfl,f.r,by lia,λ i g N O=>⟨cZ,λ Y M=>S (.int i) (.int i) _ _ (f.trans N) (by lia) (G i O) rfl (λ _ _ e=>by cases e) Y M⟩⟩
theorem Fn:∀ns:List Int,gC K H (ns.map PyData.int) (ns.map V.int)
 | []=>rfl
 | n :: ns=>⟨.int n,ns.map V.int,rfl,rfl,Fn ns⟩
theorem IQ:∀ns:List Int,iR (ns.map PyData.int)=true
 | []=>rfl
 | n :: ns=>by show (true && iR (ns.map PyData.int))=true;rw [IQ ns];rfl
theorem Iu:∀ns:List Int,Y1 (ns.map PyData.int)<=1
 | []=>by decide
 | n :: ns=>by have:=Iu ns;show max (j3j (.int n)) (Y1 (ns.map PyData.int))<=1;exact Nat.max_le.mpr ⟨(show (0:Nat)<=1 by decide),this⟩
def Iv (K:b0):Sp:=λ vs H Q _=>∃(k v:ZR) (st x:V) (d:Dt) (n:Nat) (sv:Sv),vs=[.str k,st,.str v,x]/\cU n k sv/\gX K H sv st/\n < 63/\bp k v d/\bV K H d x/\cv H d x/\∀p st' H',af H H'->H' p=some (.tup [st',(dz k v d sv).2])->gX K H' (dz k v d sv).1 st'->Q (.ref p) H'
theorem OG (T:TX (kx w) mg):Fo P w mg base CX0 1 378 CV ["kind","state","verb","worth"] (Iv (kx w)):=by
 refine (Co w.params).ok hA (λ vs H Q E h=>?_) (λ b2 A b3 s H vs Q E hr h=>?_)
 ·obtain ⟨k,v,G,x,d,n,sv,rfl,_⟩:=h;rfl
 ·obtain ⟨k,v,G,x,d,n,sv,rfl,C,sz,hn,hd,I,wi,q⟩:=h;refine ⟨_,(aV (aN (cI bP (pv 2) az (aC _))
   (aU (au (aD (ao (pv 1) (ao (pv 1) ae)))))
   dG)
   (aV (aN (cI bP (pv 2) az (aC _))
   (aU (au (aD (ao (pv 3) (ao az ae)))))
   dG)
   (aV (aN (cI bP (pv 2) az (aC _))
   (aU (au (aD (ao (aQ ei (pv 1) (pv 3)) (ao (pv 1) ae)))))
   dG)
   (aV (aN (cI bP (pv 2) az (aC _))
   (aU (au (aq aj (aY (ao (aD (ao (pv 1) (ao ag ae))) (ao (aD (ao (aq aj (pv 3) ag (λ _ _=>rfl)) (ao ag ae))) ae))) (kK Bm rfl (T.no (ku _)) boot_int (ao (gU bP (pv 1) (aq aj (pv 3) ag (λ _ _=>rfl)) (aC _)) ae)) (λ _ _=>rfl))))
   dG)
   (aV (aN (cI bP (pv 2) az (aC _))
   (aV (aN (cI (ra hr) (pv 1) (aD ae) (aC _))
   (aU (au (aD (ao (pv 1) (ao az ae)))))
   dG)
   (aU (au (aD (ao (nD fP (pv 1) (kZ ag) nE) (ao (aq aj (pv 1) ag (λ _ _=>rfl)) ae))))))
   dG)
   (aV (aN (cI bP (pv 0) az (aC _))
   (aU (au (aD (ao (aQ xB (pv 1) (aD (ao (pv 3) ae))) (ao az ae)))))
   dG)
   (aV (aA (i:=4) hA.nd rfl (Y0 rfl) (gU oO (pv 3) (pv 1) (by with_unfolding_all rfl)))
   (aV (aN (PW.pt (gT (cI bP (pv 2) az (aC _)) (xT (gs (cA (pv 4) (λ _=>rfl))))))
   (aU (au (aD (ao (kK nh rfl (T.no (lq _)) G4 (ao (fD yo rfl (T.no (sW _)) Y8 (ao (aQ xB (pv 1) (aD (ao (pv 3) ae))) ae)) ae)) (ao ag ae)))))
   dG)
   (aV (aN (cI bP (pv 2) az (aC _))
   (aU (au (aD (ao (pv 1) (ao ag ae)))))
   dG)
   (aV (aN (cI bP (pv 2) az (aC _))
   (aU (au (aD (ao (kK nh rfl (T.no (lq _)) G4 (ao (dS (xs:=["one"]) (g:=bh 0) (fr:=[(3,"worth")]) (eF (pv 1)) (λ _ _ _ _ _=>(bK (N:=["one","worth"]) 0)) (λ _ _ _ _ _=>(eO (cI nO (pv 0) (pv 1) (aC _)))) (λ _ _ _ _ _=>(pv 0))) ae)) (ao (kK Bm rfl (T.no (ku _)) boot_int (ao (pv 4) ae)) ae)))))
   dG)
   (aU (au (aD (ao (pv 1) (ao (kK Bm rfl (T.no (ku _)) boot_int (ao (pv 4) ae)) ae))))))))))))))),?_⟩
  have big :∀{b:List Int},b.length<=n->(b.map V.int).length + 1<=ZF:=λ l=>by rw [C0];exact D0 (m:=64) (by lia) (by decide)
  have a2 :∀(b:List Int) (i:Int),b.map V.int++[V.int i]=(b++[i]).map V.int:=λ b i=>by rw [u1];rfl
  have a3:cT "queue":=.inl rfl;have Z:cT "set":=.inr rfl;cases hd with
  | regR=>
   have u:¬ cT "register":=by decide +kernel
   obtain ⟨a,rfl,_,_⟩:=C.isNum u;cases (show G=V.int a from sz);rw [zv] at q;refine ⟨_,rfl,rfl,_,rfl,bw (ZY rfl) ?_⟩;exact ⟨_,rfl,_,rfl,cZ,λ p c=>q p _ _ (af.upd c) ab rfl⟩
  | cntR=>
   have u:¬ cT "counter":=by decide +kernel
   obtain ⟨a,rfl,_,_⟩:=C.isNum u;cases (show G=V.int a from sz);rw [Ay] at q;refine ⟨_,rfl,rfl,_,rfl,bw (ZY rfl) ?_⟩;exact ⟨_,rfl,_,rfl,cZ,λ p c=>q p _ _ (af.upd c) ab rfl⟩
  | celR=>
   have u:¬ cT "cell":=by decide +kernel
   obtain ⟨a,rfl,_,_⟩:=C.isNum u;cases (show G=V.int a from sz);rw [CZ] at q;refine ⟨_,rfl,rfl,_,rfl,bw (ZY rfl) ?_⟩;exact ⟨_,rfl,_,rfl,cZ,λ p c=>q p _ _ (af.upd c) ab rfl⟩
  | regW ni=>
   rename_i i;have u:¬ cT "register":=by decide +kernel
   obtain ⟨a,rfl,_,_⟩:=C.isNum u;cases (show G=V.int a from sz);cases (show x=V.int i from I);rw [BF] at q;refine ⟨_,rfl,rfl,_,rfl,bE ⟨_,rfl,rfl,_,rfl,bw (ZY rfl) ?_⟩⟩;exact ⟨_,rfl,cZ,λ p c=>q p _ _ (af.upd c) ab rfl⟩
  | celW ni=>
   rename_i i;have u:¬ cT "cell":=by decide +kernel
   obtain ⟨a,rfl,_,_⟩:=C.isNum u;cases (show G=V.int a from sz);cases (show x=V.int i from I);rw [Bo] at q;refine ⟨_,rfl,rfl,_,rfl,bE ⟨_,rfl,rfl,_,rfl,bw (ZY rfl) ?_⟩⟩;exact ⟨_,rfl,cZ,λ p c=>q p _ _ (af.upd c) ab rfl⟩
  | cntA ni=>
   rename_i i;have u:¬ cT "counter":=by decide +kernel
   obtain ⟨a,rfl,_,_⟩:=C.isNum u;cases (show G=V.int a from sz);cases (show x=V.int i from I);rw [Bj] at q;refine ⟨_,rfl,rfl,_,rfl,bE ⟨_,rfl,rfl,_,rfl,bE ⟨_,rfl,rfl,_,rfl,bw (ZY rfl) ?_⟩⟩⟩;exact ⟨_,rfl,_,rfl,.inl ⟨a,i,rfl,rfl,_,rfl,cZ,λ p c=>q p _ _ (af.upd c) ab rfl⟩⟩
  | celS ni nj=>
   rename_i i j;have u:¬ cT "cell":=by decide +kernel
   obtain ⟨a,rfl,_,_⟩:=C.isNum u;cases (show G=V.int a from sz);obtain ⟨t,rfl,et⟩:=wi i j rfl;refine ⟨_,rfl,rfl,_,rfl,bE ⟨_,rfl,rfl,_,rfl,bE ⟨_,rfl,rfl,_,rfl,bE ⟨_,rfl,rfl,_,rfl,bw (ZY rfl) ?_⟩⟩⟩⟩;refine ⟨_,rfl,cZ,λ e L=>?_⟩;obtain ⟨H1,v_,D,W⟩:=eL (.tup [.int a,.int 0]) L;rw [<-v_];refine ⟨_,rfl,.inr (.inl ⟨t,_,1,.int j,rfl,rfl,aH.of (D _ _ et),bG (j:=1) rfl,cZ,λ B a8=>?_⟩)⟩;have J:=af.upd (o:=.tup [.int j,.int 1]) a8;have e2:upd H1 B (.tup [.int j,.int 1]) B=some (.tup [.int j,.int 1]):=ab;have a5:=J _ _ W;generalize upd H1 B (.tup [.int j,.int 1])=X at J e2 a5⊢;refine ⟨cZ,λ l hl=>?_⟩;have F:=af.upd (o:=.lst [.ref e,.ref B]) hl;have e3:upd X l (.lst [.ref e,.ref B]) l=some (.lst [.ref e,.ref B]):=ab;have a1:=F _ _ a5;have a6:=F _ _ e2;generalize upd X l (.lst [.ref e,.ref B])=H3 at F e3 a1 a6⊢;have sx:=(D.trans J).trans F;refine ⟨_,rfl,_,rfl,.inr (.inl ⟨t,_,0,.int i,rfl,rfl,aH.of (sx _ _ et),bG (j:=0) rfl,rfl,.inl (.inr ⟨_,rfl,?_⟩)⟩)⟩;by_cases z:decide (V.int a=V.int i)=true
   ·rw [xt,ZZ (V.int.inj (ZW z))] at q;exact .inl ⟨l,_,_,.ref B,rfl,rfl,aK.of e3,by rw [ZZ z];rfl,q B _ _ sx a6 rfl⟩
   ·rw [xt,Z_ λ y=>z (ZY (ZU V.int y))] at q;exact .inl ⟨l,_,_,.ref e,rfl,rfl,aK.of e3,by rw [Z_ z];rfl,q e _ _ sx a1 rfl⟩
  | quT=>
   obtain ⟨b,rfl,M,_,_⟩:=C.isRow a3;obtain ⟨t,rfl,f⟩:=sz;refine ⟨_,rfl,rfl,_,rfl,bE ⟨_,rfl,rfl,_,rfl,bE ⟨_,rfl,rfl,_,rfl,bE ⟨_,rfl,rfl,_,rfl,bE ⟨_,rfl,rfl,_,rfl,bw (ZY rfl) ?_⟩⟩⟩⟩⟩;refine ⟨_,rfl,jk,λ p0 b1=>?_⟩;have U:=af.upd (o:=.tup []) b1;refine ⟨.tuple (b.map PyData.int),.tuple [],⟨t,_,rfl,U.seqT f,Fn b⟩,⟨p0,[],rfl,aH.of ab,rfl⟩,IQ b,rfl,D0 (Nat.add_le_add_right (Iu b) 1) (by decide),_,rfl,?_⟩;generalize upd H p0 (.tup [])=H0 at U⊢;have Y:=U.seqT f;cases b with
   | nil=>rw [Aa] at q;exact bw rfl ⟨_,rfl,cZ,λ p c=>q p _ _ (U.trans (af.upd c)) ab ⟨t,rfl,(af.upd c).seqT Y⟩⟩
   | cons m r=>
    refine bM O0 ?_;refine ⟨_,rfl,_,rfl,.inr (.inl ⟨t,_,rfl,Y,?_,λ e L=>?_⟩)⟩
    ·intro z;have:HT.sIx ((m :: r).map V.int).length 0 (some 1)=1:=by rw [C0,P0];simp [HT.sIx]
     lia
    ·have ec:bY ((m :: r).map V.int) (some 1) none=r.map V.int:=by unfold bY;simp [HT.sIx];exact S3 (by rw [C0];exact u0 _)
     have D:=af.upd (o:=.tup (bY ((m :: r).map V.int) (some 1) none)) L;have W:upd H0 e (.tup (bY ((m :: r).map V.int) (some 1) none)) e=some (.tup (r.map V.int)):=by rw [ab,ec]
     generalize upd H0 e (.tup (bY ((m :: r).map V.int) (some 1) none))=H1 at D W⊢;refine ⟨_,rfl,.inr (.inl ⟨t,_,0,.int m,rfl,rfl,D.seqT Y,bG (j:=0) rfl,cZ,λ p c=>?_⟩)⟩;rw [kd] at q;exact q p _ _ ((U.trans D).trans (af.upd c)) ab ⟨e,rfl,(af.upd c).seqT (aH.of W)⟩
  | quP ni=>rename_i i;obtain ⟨b,rfl,M,_,_⟩:=C.isRow a3;obtain ⟨t,rfl,f⟩:=sz;cases (show x=V.int i from I);refine ⟨_,rfl,rfl,_,rfl,bE ⟨_,rfl,rfl,_,rfl,bE ⟨_,rfl,rfl,_,rfl,bE ⟨_,rfl,rfl,_,rfl,bE ⟨_,rfl,rfl,_,rfl,bE ⟨_,rfl,rfl,_,rfl,bw (ZY rfl) ?_⟩⟩⟩⟩⟩⟩;refine ⟨_,rfl,_,rfl,lC,λ e L=>?_⟩;have D:=af.upd (o:=.tup [.int i]) L;refine ⟨t,e,b.map V.int,[.int i],rfl,rfl,D.seqT f,aH.of ab,big M,λ B X J S=>?_⟩;rw [a2] at S;rw [jW] at q;exact ⟨cZ,λ p3 a4=>q p3 _ _ ((D.trans J).trans (af.upd a4)) ab ⟨B,rfl,(af.upd a4).seqT S⟩⟩
  | setP ni=>
   rename_i i;obtain ⟨b,rfl,M,_,a7⟩:=C.isRow Z;obtain ⟨t,rfl,f⟩:=sz;cases (show x=V.int i from I);refine ⟨_,rfl,rfl,_,rfl,bE ⟨_,rfl,rfl,_,rfl,bE ⟨_,rfl,rfl,_,rfl,bE ⟨_,rfl,rfl,_,rfl,bE ⟨_,rfl,rfl,_,rfl,bE ⟨_,rfl,rfl,_,rfl,bE ?_⟩⟩⟩⟩⟩⟩;refine ⟨_,rfl,_,rfl,t,_,rfl,.inr f,rfl,tD b,?_⟩;rw [Z_ O0,sM];refine ⟨_,rfl,rfl,_,rfl,bw (ZY rfl) ⟨_,rfl,_,rfl,?_⟩⟩;by_cases hi:i∈b
   ·rw [ZY hi];refine bM (by decide) ⟨_,rfl,rfl,_,rfl,bw (ZY rfl) ?_⟩;rw [xo,ZZ hi] at q;exact ⟨_,rfl,cZ,λ p c=>q p _ _ (af.upd c) ab ⟨t,rfl,(af.upd c).seqT f⟩⟩
   ·rw [ZX hi];refine bw rfl ?_;refine ⟨_,rfl,_,rfl,lC,λ e L=>?_⟩;have D:=af.upd (o:=.tup [.int i]) L;refine ⟨t,e,b.map V.int,[.int i],rfl,rfl,D.seqT f,aH.of ab,big M,λ B X J S=>?_⟩;rw [a2] at S;refine ⟨B,b++[i],rfl,.inr S,by rw [G0];exact (show b.length + 1 < 64 by lia),λ l b0 hl pm pw=>?_⟩;have F:=af.upd (o:=.lst (b0.map V.int)) hl;refine ⟨l,_,rfl,.inl ⟨aK.of ab,λ p4 a0=>⟨cZ,λ p5 O=>?_⟩⟩⟩;rw [xo,Z_ hi] at q;rw [Hl (pm.trans (Bh _).symm) pw (yy _)] at *;exact q p5 _ _ ((((D.trans J).trans F).trans (af.upd a0)).trans (af.upd O)) ab ⟨p4,rfl,aH.of ((af.upd O) _ _ ab)⟩
  | setC ni=>
   rename_i i;obtain ⟨b,rfl,M,_,a7⟩:=C.isRow Z;obtain ⟨t,rfl,f⟩:=sz;cases (show x=V.int i from I);refine ⟨_,rfl,rfl,_,rfl,bE ⟨_,rfl,rfl,_,rfl,bE ⟨_,rfl,rfl,_,rfl,bE ⟨_,rfl,rfl,_,rfl,bE ⟨_,rfl,rfl,_,rfl,bE ⟨_,rfl,rfl,_,rfl,bE ?_⟩⟩⟩⟩⟩⟩;refine ⟨_,rfl,_,rfl,t,_,rfl,.inr f,rfl,tD b,?_⟩;rw [Z_ O0,sM];refine ⟨_,rfl,rfl,_,rfl,bE ?_⟩;refine bM O0 ⟨_,rfl,rfl,_,rfl,bE ⟨_,rfl,rfl,_,rfl,bw (ZY rfl) ?_⟩⟩;have zl:(b.map V.int).length<=ZF:=D0 (C3 _) (big M);simp only [kX,kY,nA,dD,gi];refine tf (K:=KX w.params) (a:=t) (xs:=b.map V.int) (H1:=H) (λ j=>(b[j]?.map λ n=>!decide (n=i)).getD false) (λ j y _=>b[j]?.map V.int=some y) (λ _ _ _ _ _ z=>z) (λ R h=>⟨_,rfl,h⟩) f zl (λ j hj v H' s' hv KT KF k1 k2=>?_) λ l H' ys s' a9 al=>?_
   ·rw [M0] at hv;obtain ⟨n,hn,rfl⟩:=Option.map_eq_some_iff.mp hv;rw [hn] at k1 k2;refine ⟨[some (.int n)],rfl,rfl,_,rfl,_,rfl,rfl,_,rfl,?_⟩;rw [mG];exact gm (λ z=>⟨_,rfl,k1 z _ _ (af.refl _) rfl⟩) λ z=>k2 (Bool.eq_false_iff.mpr z) _ (af.refl _)
   ·rw [C0] at al;rw [w_ b ys al];have F:=af.upd (o:=.lst ((b.filter λ j=>!decide (j=i)).map V.int)) a9;refine ⟨l,_,rfl,.inl ⟨aK.of ab,λ p4 a0=>⟨_,rfl,.inl (.inr ⟨_,rfl,cZ,λ p5 O=>?_⟩)⟩⟩⟩;rw [yP] at q;exact q p5 _ _ (((s'.trans F).trans (af.upd a0)).trans (af.upd O)) (ab.trans (by simp)) ⟨p4,rfl,aH.of ((af.upd O) _ _ ab)⟩
  | setH ni=>rename_i i;obtain ⟨b,rfl,M,_,a7⟩:=C.isRow Z;obtain ⟨t,rfl,f⟩:=sz;cases (show x=V.int i from I);refine ⟨_,rfl,rfl,_,rfl,bE ⟨_,rfl,rfl,_,rfl,bE ⟨_,rfl,rfl,_,rfl,bE ⟨_,rfl,rfl,_,rfl,bE ⟨_,rfl,rfl,_,rfl,bE ⟨_,rfl,rfl,_,rfl,bE ?_⟩⟩⟩⟩⟩⟩;refine ⟨_,rfl,_,rfl,t,_,rfl,.inr f,rfl,tD b,?_⟩;rw [Z_ O0,sM];refine ⟨_,rfl,rfl,_,rfl,bE ?_⟩;refine bM O0 ⟨_,rfl,rfl,_,rfl,bE ⟨_,rfl,rfl,_,rfl,bE ?_⟩⟩;rw [zY] at q;exact ⟨_,rfl,_,rfl,.inl (.inr ⟨_,rfl,cZ,λ p c=>q p _ _ (af.upd c) (ab.trans (by simp)) ⟨t,rfl,(af.upd c).seqT f⟩⟩)⟩
def mH (a:V):Prop:=(∃i,a=.int i)\/a=.str "ok"\/a=.str "none"
def jA.ansI {a:V} (h:jA a):mH a:=by
 rcases h with h|h|⟨i,h,_⟩
 ·exact .inr (.inl h)
 ·exact .inr (.inr h)
 ·exact .inl ⟨i,h⟩
def jc (K:b0) (H:Hp) (p:ZS) (ts:List (ZR×ZR)) (n:Nat) (ss:List Sv):Prop:=∃vs,aH K H p vs/\av (gX K H) ss vs/\av (λ (t:ZR×ZR) s=>cU n t.2 s) ts ss
def jc.tups (t:bA K H H') (h:jc K H p ts n ss):jc K H' p ts n ss:=h.elim λ a z=>⟨a,t _ _ z.1,bI (λ _ _ y=>y.tups t) z.2.1,z.2.2⟩
def hW (K:b0) (H:Hp) (p:ZS) (ts:List (ZR×ZR)) (n:Nat):Prop:=∃ss,jc K H p ts n ss
def hW.tups (t:bA K H H') (h:hW K H p ts n):hW K H' p ts n:=h.elim λ a z=>⟨a,z.tups t⟩
def hW.le (l:n<=m) (h:hW K H p ts n):hW K H p ts m:=h.elim λ b z=>⟨b,z.elim λ a y=>⟨a,y.1,y.2.1,bI (λ _ _ x=>cU.le l x) y.2.2⟩⟩
def iL (H:Hp) (k:ZR) (v:V):Prop:=(cT k/\∃a,v=.ref a/\H a=some (.tup []))\/(¬ cT k/\v=.int 0)
def iL.same {k:ZR} (s:af H H') (h:iL H k v):iL H' k v:=h.imp (λ z=>⟨z.1,z.2.elim λ a y=>⟨a,y.1,s _ _ y.2⟩⟩) id
def wb (H:Hp) (p:ZS) (ts:List (ZR×ZR)):Prop:=∃vs,H p=some (.tup vs)/\av (λ (t:ZR×ZR) y=>iL H t.2 y) ts vs
def iL.stz {k:ZR} (h:iL H k v):gX K H (aT k) v:=by
 unfold aT;rcases h with ⟨b,a,rfl,c⟩|⟨b,rfl⟩
 ·rw [ZZ b];exact ⟨a,rfl,aH.of c⟩
 ·rw [Z_ b];rfl
def K_ {α β γ:Type} {R:β->γ->Prop} {f:α->β} {xs:List α} {ys:List γ} (h:av (λ x y=>R (f x) y) xs ys):av R (xs.map f) ys:=by
 induction h with
 | nil=>exact .nil
 | cons a r ih=>exact .cons a ih
theorem Fx:∀{ts:List (ZR×ZR)},av (λ (t:ZR×ZR) s=>cU 0 t.2 s) ts (ts.map λ t=>aT t.2)
 | []=>.nil
 | _ :: _=>.cons (Dd _) Fx
def wb.stz (h:wb H p ts):jc K H p ts 0 (ts.map λ t=>aT t.2):=h.elim λ a z=>⟨a,aH.of z.1,K_ (bI (λ _ _ y=>y.stz) z.2),Fx⟩
def wb.sts (h:wb H p ts):hW K H p ts 0:=⟨_,h.stz⟩
theorem Dl:∀{ts:List (ZR×ZR)} {ys zs:List V},av (λ (t:ZR×ZR) y=>∃b,y=.ref b/\H b=some (.tup [.str t.1,.str t.2])) ts ys->av (λ x y=>∃(n k:ZR) (b:ZS),x=.ref b/\H b=some (.tup [.str n,.str k])/\iL H k y) ys zs->av (λ (t:ZR×ZR) y=>iL H t.2 y) ts zs
 | [],_,_,.nil,.nil=>.nil
 | t :: ts,_,_,.cons a r,.cons a' r'=>by
  refine .cons ?_ (Dl r r');obtain ⟨b,rfl,f⟩:=a;obtain ⟨n,k,i,e,c,g⟩:=a';cases e;rw [f] at c;injection c with c;injection c with c;have d:t.2=k:=by injection c with _ h;injection h with h _;injection h
  rw [d];exact g
def BJ (K:b0):Sp:=λ vs H Q _=>∃(pt:ZS) (ts:List (ZR×ZR)),vs=[.ref pt]/\gG H pt ts/\ts.length<=6/\∀p H',af H H'->wb H' p ts->Q (.ref p) H'
def OE (T:TX (kx w) mg):Fo P w mg base CX0 1 383 zW ["things"] (BJ (kx w)):=by
 refine (CU w.params).ok Rz (λ vs H Q E h=>?_) (λ a6 A a7 s H vs Q E hr h=>?_)
 ·obtain ⟨pt,I,rfl,_⟩:=h;rfl
 ·obtain ⟨pt,I,rfl,⟨J,Z,C⟩,a5,q⟩:=h;refine ⟨_,(aU (au (kK nh rfl (T.no (lq _)) G4 (ao (dS (xs:=["name","kind"]) (g:=ic (kx w) 2 (cN (bh 0) (cN (bh 1) ig))) (fr:=[]) (eF (pv 0)) (λ _ _ _ _ _=>(bH rfl (eJ (bK (N:=["name","kind"]) 0) (eJ (bK (N:=["name","kind"]) 1) iq)))) (λ _ _ _ _ _=>fE) (λ _ _ _ _ _=>(Po (cQ hr) (DW (yA az (aD ae) (yA az (aD ae) IU)) rfl rfl (by simp) (by decide)) (pv 1) ag ⟨rfl,rfl,rfl,rfl⟩))) ae)))),?_⟩;refine Ea ?_;refine Fc (S:=af) (K:=KX w.params) (a:=pt) (xs:=J) (λ x y H=>∃(n k:ZR) (b:ZS),x=.ref b/\H b=some (.tup [.str n,.str k])/\iL H k y) (af.refl _) (λ _ _ _ a b=>a.trans b) (λ _ _=>af.refl _) ?_ (λ R h=>⟨_,rfl,h⟩) (λ H' s'=>s'.seqT (aH.of Z)) (D0 (m6 (cH C)) (D0 a5 (by decide))) ?_ ?_
  ·rintro x y j i l ⟨n,k,b,F,D,e3⟩;exact ⟨n,k,b,F,l _ _ D,e3.same l⟩
  ·intro v hv j r KT a4 KF;obtain ⟨m,hm⟩:=List.mem_iff_getElem?.mp hv;obtain ⟨t,ht,b,rfl,eb⟩:=fF C hm;have U:=r _ _ eb;refine ⟨b,_,rfl,aH.of U,rfl,_,_,rfl,_,_,rfl,rfl,[some (.str t.1),some (.str t.2)],rfl,rfl,cG ?_⟩;intro p M;refine ⟨jk,λ f W=>⟨jk,λ d B=>?_⟩⟩;have G:p≠f:=fM ab W;have O:p≠d:=fM (by rw [ak G];exact ab) B;have a3:f≠d:=fM ab B;refine ⟨by rw [ak O,ak G];exact ab,[(.inr "queue",.ref f),(.inr "set",.ref d)],rfl,(show (2:Nat)<=15 by decide),?_⟩;rw [show fU [] [((.inr "queue" : Key),V.ref f),(.inr "set",.ref d)]=[(.inr "queue",.ref f),(.inr "set",.ref d)] from rfl];generalize hH4:upd (upd (upd (upd j p (.dK [])) f (.tup [])) d (.tup [])) p (.dK [(.inr "queue",.ref f),(.inr "set",.ref d)])=i;have L:i p=some (.dK [(.inr "queue",.ref f),(.inr "set",.ref d)]):=by rw [<-hH4];exact ab
   have F:i f=some (.tup []):=by rw [<-hH4,ak G.symm,ak a3];exact ab
   have D:i d=some (.tup []):=by rw [<-hH4,ak O.symm];exact ab
   have l:af j i:=λ c o e=>by rw [<-hH4,ak (fM e M)];exact ((((af.upd M).trans (af.upd W)).trans (af.upd B))) c o e
   refine ⟨p,rfl,.inl ⟨_,.inl L⟩,_,rfl,_,d_.k (k:=.inr t.2) L,?_⟩;refine a4 _ _ l ⟨t.1,t.2,b,rfl,l _ _ U,?_⟩;by_cases z1:t.2 = "queue"
   ·rw [z1,jf rfl];exact .inl ⟨.inl rfl,_,rfl,F⟩
   ·rw [ja (λ e=>z1 (m9 e).symm)];by_cases z2:t.2 = "set"
    ·rw [z2,jf rfl];exact .inl ⟨.inr rfl,_,rfl,D⟩
    ·rw [ja (λ e=>z2 (m9 e).symm)];exact .inr ⟨λ h=>h.elim z1 z2,rfl⟩
  ·intro l3 j u r a1 a0;refine ⟨l3,u,rfl,.inl ⟨aK.of ab,λ p4 a2=>?_⟩⟩;have Y:av (λ (t:ZR×ZR) y=>∃b,y=.ref b/\j b=some (.tup [.str t.1,.str t.2])) I J:=bI (λ _ _ z=>z.elim λ b y=>⟨b,y.1,r _ _ y.2⟩) C;have X:=(af.upd (o:=.lst u) a1).trans (af.upd (o:=.tup u) a2);exact q p4 _ (r.trans X) ⟨u,ab,bI (λ _ _ z=>z.same X) (Dl Y a0)⟩
def NV {tl:TE} {fr:List (Nat×ZR)} {g:TG} {tc:TT} {te:TE} (Pr:ZS->Hp->Prop) (h1 :∀R:VK,(∀l H1,Pr l H1->R (.ref l) H1)->tl σ H R) (h2 :∀l H1,Pr l H1->cx (iB K λ _ _ R=>R (.ref l) H1) m fr g tc te σ H Q):cx (iB K tl) m fr g tc te σ H Q:=h1 _ λ l H1 p=>h2 l H1 p
def pO {N:String} {r:V->List V->Hp->VK->Prop} {to:TE} {t:TA} {g:TG} {rest:TS} (h:to σ H λ x H1=>xM K N x H1/\t σ H1 λ xs H2=>r x xs H2 λ y H3=>g y σ H3 (rest D)):gE (jR (sN K N r to t) g) rest D σ H:=h
def eK (K:b0) (H:Hp) (ts:List (ZR×ZR)) (p:ZS):Prop:=∃(nm vb:ZR) (x a:V) (k:ZR) (d:Dt),H p=some (.lst [.str nm,.str vb,x,a])/\(nm,k)∈ts/\bp k vb d/\bV K H d x/\cv H d x/\(a=.non\/mH a)
theorem DF:∀{ts:List (ZR×ZR)} {ys zs:List V},av (λ (t:ZR×ZR) y=>∃b,y=.ref b/\H b=some (.tup [.str t.1,.str t.2])) ts ys->av (λ x y=>∃(n k:ZR) (b:ZS),x=.ref b/\H b=some (.tup [.str n,.str k])/\y=.str n) ys zs->zs=(ts.map (·.1)).map V.str
 | [],_,_,.nil,.nil=>rfl
 | t :: ts,_,_,.cons a r,.cons a' r'=>by
  rw [DF r r'];obtain ⟨b,rfl,f⟩:=a;obtain ⟨n,k,g,e,c,rfl⟩:=a';cases e;rw [f] at c;injection c with c;injection c with c;have d:t.1=n:=by injection c with h _;injection h
  rw [<-d];rfl
theorem FY {α β:Type} {R S:α->β->Prop} {y:β} :∀{xs:List α} {ys:List β} {j:Nat} {x:α},(∀a b,R a b->S a b)->av R xs ys->xs[j]? = some x->S x y->av S xs (ys.set j y)
 | _,_,_,_,_,.nil,e,_=>by simp at e
 | _,_,0,x,f,.cons a r,e,h=>by rw [d3] at e;cases e;exact .cons h (bI f r)
 | _,_,j + 1,x,f,.cons a r,e,h=>by rw [G2] at e;exact .cons (f _ _ a) (FY f r e h)
theorem Hx {α β:Type} {R S:α->β->Prop} {y:β} :∀{xs:List α} {ys:List β} {j:Nat} {x x':α},(∀a b,R a b->S a b)->av R xs ys->xs[j]? = some x'->S x y->av S (xs.set j x) (ys.set j y)
 | _,_,_,_,_,_,.nil,e,_=>by simp at e
 | _,_,0,x,_,f,.cons a r,_,h=>.cons h (bI f r)
 | _,_,j + 1,x,_,f,.cons a r,e,h=>by rw [G2] at e;exact .cons (f _ _ a) (Hx f r e h)
theorem qJ (h:m < ys.length):bY ys none (some (m:Int))=ys.take m/\bY ys (some ((m:Int) + 1)) none=ys.drop (m + 1)/\HT.sIx ys.length ys.length (some (m:Int))=m/\HT.sIx ys.length 0 (some ((m:Int) + 1))=m + 1:=by
 obtain ⟨a,_,c⟩:=mC (T3 h);have b:HT.sIx ys.length 0 (some ((m:Int) + 1))=m + 1:=by
  simp [HT.sIx];rw [Z_ (by lia)]
  lia
 refine ⟨a,?_,c,b⟩;unfold bY;rw [b,show HT.sIx ys.length ys.length none=ys.length by simp [HT.sIx]];exact S3 (by rw [V4];exact u0 _)
def Kt (h:m < ys.length):ys.take m++[y]++ys.drop (m + 1)=ys.set m y:=by rw [F6,ZZ h];simp
def zR (K:b0):Sp:=λ vs H Q _=>∃(pt ps po:ZS) (ts:List (ZR×ZR)) (n:Nat) (ss:List Sv) (nm vb:ZR) (x a0:V) (k:ZR) (d:Dt),vs=[.ref pt,.ref ps,.ref po]/\gG H pt ts/\ko ts/\jc K H ps ts n ss/\n < 63/\H po=some (.lst [.str nm,.str vb,x,a0])/\(nm,k)∈ts/\bp k vb d/\bV K H d x/\cv H d x/\∀p H' s,ss[fX ts nm]? = some s->aL [po] H H'->H' po=some (.lst [.str nm,.str vb,x,(dz k vb d s).2])->jc K H' p ts (n + 1) (ss.set (fX ts nm) (dz k vb d s).1)->cU n k s->Q (.ref p) H'
theorem Mp (T:TX (kx w) mg) (c0:Ca P w mg base "_law_do" ["kind","state","verb","worth"] 1 (Iv (kx w))):Fo P w mg base CX0 2 407 CI ["things","states","own"] (zR (kx w)):=by
 refine (BQ w.params).ok cw (λ f H Q E h=>?_) (λ d8 A d9 s H f Q E hr h=>?_)
 ·obtain ⟨pt,W,l,B,n,ss,r,C,x,a0,k,d,rfl,_⟩:=h;rfl
 ·obtain ⟨pt,W,l,B,n,ss,r,C,x,a0,k,d,rfl,⟨yt,b3,U⟩,ok,⟨f,a9,a5,a1⟩,hn,L,hm,dk,ix,wi,q⟩:=h;refine ⟨_,(aV (aA (i:=3) cw.nd rfl (Y0 rfl) (Eb (dS (xs:=["name","kind"]) (g:=ic (kx w) 2 (cN (bh 0) (cN (bh 1) ig))) (fr:=[]) (eF (pv 0)) (λ _ _ _ _ _=>(bH rfl (eJ (bK (N:=["name","kind"]) 0) (eJ (bK (N:=["name","kind"]) 1) iq)))) (λ _ _ _ _ _=>fE) (λ _ _ _ _ _=>(pv 0))) (ao (aq aj (pv 2) ag (λ _ _=>rfl)) ae)))
   (aV (eG (aB c0 (hr.mono (by decide)) rfl (ao (aq aj (aq aj (pv 0) (pv 3) (λ _ _=>rfl)) ag (λ _ _=>rfl)) (ao (aq aj (pv 1) (pv 3) (λ _ _=>rfl)) (ao (aq aj (pv 2) ag (λ _ _=>rfl)) (ao (aq aj (pv 2) ag (λ _ _=>rfl)) ae))))) (bH rfl (eJ (eY (i:=4) cw.nd rfl (Y0 rfl)) (eJ (eY (i:=5) cw.nd rfl (Y0 rfl)) iq))))
   (aV (eG (pv 5) (gu (pv 2) ag sP))
   (aU (au (aQ xB (aQ xB (nD fP (pv 1) nE (kZ (pv 3))) (aD (ao (pv 4) ae))) (nD fP (pv 1) (kZ (aQ ei (pv 3) ag)) nE))))))),?_⟩
  refine pO ?_;refine Fc (S:=af) (K:=KX w.params) (a:=pt) (xs:=yt) (λ x y H=>∃(n k:ZR) (b:ZS),x=.ref b/\H b=some (.tup [.str n,.str k])/\y=.str n) (af.refl _) (λ _ _ _ a b=>a.trans b) (λ _ _=>af.refl _) ?_ (λ R h=>⟨_,rfl,h⟩) (λ F s'=>s'.seqT (aH.of b3)) (D0 (m6 (cH U)) (D0 ok.n6 (by decide))) ?_ ?_
  ·rintro x y O H4 u ⟨n,k,b,e1,e2,e3⟩;exact ⟨n,k,b,e1,u _ _ e2,e3⟩
  ·intro v hv O I KT c8 KF;obtain ⟨m,hm⟩:=List.mem_iff_getElem?.mp hv;obtain ⟨t,ht,b,rfl,eb⟩:=fF U hm;exact ⟨b,_,rfl,aH.of (I _ _ eb),rfl,_,_,rfl,_,_,rfl,rfl,[some (.str t.1),some (.str t.2)],rfl,rfl,cG ⟨_,rfl,c8 _ _ (af.refl _) ⟨t.1,t.2,b,rfl,I _ _ eb,rfl⟩⟩⟩
  intro X O zs I d2 b8;have d5:av (λ (t:ZR×ZR) y=>∃b,y=.ref b/\O b=some (.tup [.str t.1,.str t.2])) B yt:=bI (λ _ _ z=>z.elim λ b y=>⟨b,y.1,I _ _ y.2⟩) U;have ez:=DF d5 b8;subst ez;have sl:=af.upd (o:=.lst ((B.map (·.1)).map V.str)) d2;have el:upd O X (.lst ((B.map (·.1)).map V.str)) X=some (.lst ((B.map (·.1)).map V.str)):=ab;have u:=I.trans sl;generalize upd O X (.lst ((B.map (·.1)).map V.str))=H4 at sl el u⊢;obtain ⟨j,M⟩:=List.mem_iff_getElem?.mp hm;have a3:(B.map (·.1))[j]? = some r:=by rw [M0,M];rfl
  have e0:j < B.length:=(List.getElem?_eq_some_iff.mp M).1;refine ⟨.inl ⟨rfl,_,aK.of el⟩,_,rfl,.inl ⟨l,_,0,.str r,rfl,rfl,aK.of (u _ _ L),bG (j:=0) rfl,X,B.map (·.1),r,j,rfl,rfl,el,by rw [C0];exact D0 ok.n6 (by decide),a3,λ m lt e=>?_,?_⟩⟩
  ·have:=(B8 (by rw [C0];lia) ok.nd).mp (e.trans a3.symm)
   lia
  refine aF ?_;obtain ⟨yj,d1,bj,rfl,c7⟩:=ik U M;obtain ⟨Y,a4,so⟩:=ik a1 M;obtain ⟨vj,b9,sj⟩:=ik a5 a4;have d6:fX B r=j:=idx_eq ok.nd a3;rw [d6] at q;refine ⟨_,rfl,_,rfl,.inr (.inl ⟨pt,yt,j,.ref bj,rfl,rfl,aH.of (u _ _ b3),bG d1,.inr (.inl ⟨bj,_,1,.str k,rfl,rfl,aH.of (u _ _ c7),bG (j:=1) rfl,?_⟩)⟩)⟩;refine ⟨_,rfl,_,rfl,.inr (.inl ⟨W,f,j,vj,rfl,rfl,u.seqT a9,bG b9,?_⟩)⟩;refine ⟨_,rfl,.inl ⟨l,_,1,.str C,rfl,rfl,aK.of (u _ _ L),bG (j:=1) rfl,?_⟩⟩;refine ⟨_,rfl,.inl ⟨l,_,2,x,rfl,rfl,aK.of (u _ _ L),bG (j:=2) rfl,?_⟩⟩;refine ⟨k,C,vj,x,d,n,Y,rfl,so,sj.tups (.of u),hn,dk,ix.same u,wi.tt (.of (K:=KX w.params) u),λ p2 J D G e5 a6=>?_⟩;have q:=λ p F=>q p F Y a4;have b7:=iC dk so hn;generalize hdz:dz k C d Y=z at *;obtain ⟨z1,a⟩:=z;change D p2=some (.tup [J,a]) at e5;change gX (kx w) D z1 J at a6;change∀p F,aL [l] H F->F l=some (.lst [.str r,.str C,x,a])->jc (kx w) F p B (n + 1) (ss.set j z1)->cU n k Y->Q (.ref p) F at q;have G:=u.trans G;refine ⟨p2,_,rfl,aH.of e5,rfl,_,_,rfl,_,_,rfl,rfl,?_⟩;refine ⟨_,rfl,_,rfl,l,_,3,3,rfl,rfl,G _ _ L,rfl,?_⟩;rw [show [V.str r,.str C,x,a0].set 3 a=[.str r,.str C,x,a] from rfl];have k6:aL [l] D (upd D l (.lst [.str r,.str C,x,a])):=aL.set (by simp);have T6:Tt (kx w) D (upd D l (.lst [.str r,.str C,x,a])):=aL.tt k6 λ c hc=>by rw [List.mem_singleton.mp hc];exact .inl ⟨_,G _ _ L⟩
  have e6:upd D l (.lst [.str r,.str C,x,a]) l=some (.lst [.str r,.str C,x,a]):=ab;generalize upd D l (.lst [.str r,.str C,x,a])=H6 at k6 T6 e6⊢;have b0:Tt (kx w) H H6:=Tt.trans (.of G) T6;have b1:=b0.t _ _ a9;have vl:f.length=B.length:=(cH a5).trans (cH a1);have a8:j < f.length:=by lia
  obtain ⟨c1,c2,c3,c4⟩:=qJ a8;refine ⟨_,rfl,_,rfl,_,rfl,.inr (.inl ⟨W,f,rfl,b1,λ z=>by have:=z.2;rw [c3] at this;lia,λ p7 d4=>?_⟩)⟩;rw [c1];obtain ⟨H7,v_,s7,e7⟩:=eL (.tup (f.take j)) d4;rw [<-v_];refine ⟨_,rfl,lC,λ p8 c9=>?_⟩;have s8:=af.upd (o:=.tup [J]) c9;refine ⟨p7,p8,f.take j,[J],rfl,rfl,s8.seqT (aH.of e7),aH.of ab,?_,λ p9 H9 Z d0=>?_⟩
  ·rw [A3];exact D0 (m:=10) (by have:=ok.n6;show min j f.length + 1<=10;lia) (by decide)
  have Z:=(s7.trans s8).trans Z;have d7:=Z.seqT b1;refine ⟨_,rfl,_,rfl,.inl ⟨_,_,rfl,rfl,_,rfl,.inr (.inl ⟨W,f,rfl,d7,λ z=>by have:=z.1;rw [c4] at this;lia,λ d3 b6=>?_⟩)⟩⟩;rw [c2];have b5:=af.upd (o:=.tup (f.drop (j + 1))) b6;refine ⟨p9,d3,f.take j++[J],f.drop (j + 1),rfl,rfl,b5.seqT d0,aH.of ab,?_,λ c6 b4 c5 a7=>?_⟩
  ·rw [G0,A3,V4];exact D0 (m:=20) (by have:=ok.n6;show min j f.length + 1 + (f.length - (j + 1))<=20;lia) (by decide)
  rw [Kt a8] at a7;have a2:=(Z.trans b5).trans c5;have b2:Tt (kx w) H6 b4:=.of a2;refine q c6 b4 ((G.keptL.trans k6).trans a2.keptL) (a2 _ _ e6) ⟨_,a7,Hx (λ _ _ z=>z.tups (b0.trans b2).t) a5 a4 (a6.tups (T6.trans b2).t),FY (λ _ _ z=>cU.le (C3 _) z) a1 M b7.1⟩ so
def IL {R:ZS->Hp->Prop} {po:ZS} {vb:ZR} {a:V} {k:ZR} (hn:n < 63) (eo:H po=some (.lst [.str nm,.str vb,x,a])) (hm:(nm,k)∈ts) (dk:bp k vb d) (ix:bV K H d x) (wi:cv H d x) (q :∀p H',aL [po] H H'->eK K H' ts po->(∃a xs,H' po=some (.lst (xs++[a]))/\xs.length=3/\mH a)->hW K H' p ts (n + 1)->R p H') :∀p H' s,ss[fX ts nm]? = some s->aL [po] H H'->H' po=some (.lst [.str nm,.str vb,x,(dz k vb d s).2])->jc K H' p ts (n + 1) (ss.set (fX ts nm) (dz k vb d s).1)->cU n k s->R p H':=by
 intro p H' s j f e g h;have T:Tt K H H':=aL.tt f λ c i=>by rw [List.mem_singleton.mp i];exact .inl ⟨_,eo⟩
 have b:=(iC dk h hn).2.ansI;exact q p H' f ⟨nm,vb,x,_,k,d,e,hm,dk,bV.mono' T.t _ _ ix,wi.tt T,.inr b⟩ ⟨_,[.str nm,.str vb,x],e,rfl,b⟩ ⟨_,g⟩
def dJ {k:Key}:(bJ kvs k).isSome=true↔k∈kvs.map (·.1):=by
 induction kvs with
 | nil=>simp [bJ]
 | cons p r ih=>
  obtain ⟨a,pv⟩:=p;by_cases y:a=k
  ·subst y;rw [jf rfl];simp
  ·rw [ja y,ih,C1,K1];exact ⟨λ z=>.inr z,λ z=>z.resolve_left λ x=>y x.symm⟩
def Rh {k:Key} (h:k∈kvs.map (·.1)):(putK kvs k v).map (·.1)=kvs.map (·.1):=by
 unfold putK;obtain ⟨p,a,e⟩:=List.mem_map.mp h;rw [ZZ (List.any_eq_true.mpr ⟨p,a,ZY e⟩),v3];refine List.map_congr_left λ q _=>?_;show (if q.1=k then (q.1,v) else q).1=q.1;by_cases y:q.1=k
 ·rw [ZZ y]
 ·rw [Z_ y]
def IX {k:Key} (h:k∉kvs.map (·.1)):putK kvs k v=kvs++[(k,v)]:=by unfold putK;rw [Z_];intro z;obtain ⟨p,a,e⟩:=List.any_eq_true.mp z;exact h (List.mem_map.mpr ⟨p,a,ZW e⟩)
def IT:Sp:=λ vs H Q _=>∃(r:ZS) (n:Nat),vs=[.ref r]/\bu H r n/\n < 100/\∀p ts H',Dw r (n + 20) H H'->H p=none->gG H' p ts->nP ts->(∀t∈ts,O8 t.1=true/\t.1.length<=8)->Q (.ref p) H'
theorem bu.le (l:n<=m) (h:bu H r n):bu H r m:=by obtain ⟨a,b,c,e,f,d,g,i⟩:=h;exact ⟨a,b,c,e,f,d,g,by lia⟩
def Dw.le (l:n<=m) (h:Dw r n H H'):Dw r m H H':=⟨h.k,h.r.le l⟩
theorem Ku (T:TX (kx w) mg) (c0:Ca P w mg base "_law_take" ["deck","many"] 1 wC):Fo P w mg base CX0 2 402 BD ["deck"] IT:=by
 refine (Ag w.params).ok cL (λ vs H Q E h=>?_) (λ d2 A d3 s H vs Q E J h=>?_)
 ·obtain ⟨r,n,rfl,_⟩:=h;rfl
 ·obtain ⟨r,n,rfl,R,hn,q⟩:=h;refine n_ (gN (iS (i:=1) cL.nd rfl (Y0 rfl) (eI (eg (QE.mk az) (eg (QE.mk az) (eg (QE.mk az) (eg (QE.mk az) (eg (QE.mk az) (eg (QE.mk az) (eg (QE.mk az) (eg (QE.mk az) eE))))))))))
   (gN (QS.mk (aA (i:=2) cL.nd rfl (X0 rfl) yq))
   (gN (lY U1 rfl (sZ rfl (T.no (tE _)) (ao (aQ ei ag (aB c0 (J.mono (by decide)) rfl (ao (pv 0) (ao ag ae)))) ae)) (eY (i:=3) cL.nd rfl (Y0 rfl))
   (nM (Ae (cQ J) (QE.mk (pv 2)) (QE.mk (aq aj (pv 1) (aB c0 (J.mono (by decide)) rfl (ao (pv 0) (ao ag ae))) (λ _ _=>rfl))) (kn aj (eI (eg (QE.mk az) (eg (QE.mk az) (eg (QE.mk az) (eg (QE.mk az) (eg (QE.mk az) eE)))))) (QE.mk (aB c0 (J.mono (by decide)) rfl (ao (pv 0) (ao ag ae)))) (λ _ _=>rfl)) rfl)))
   (nM (QS.mk (au (kK nh rfl (T.no (lq _)) G4 (ao (dS (xs:=["name"]) (g:=bh 0) (fr:=[(2,"told")]) (lN (fD (MX rfl) rfl (T.no (sW _)) Y8 (ao (pv 2) ae))) (λ _ _ _ _ _=>(bK (N:=["name","told"]) 0)) (λ _ _ _ _ _=>fE) (λ _ _ _ _ _=>(aD (ao (pv 0) (ao (qC (cQ J) (pv 1) (pv 0) (λ _ _=>rfl)) ae))))) ae)))))))) ?_
  refine gB ?_;refine ⟨Eo,λ l hl=>?_⟩;refine aF ?_;have nl:l≠r:=R.fresh hl;have X:=af.upd (o:=.lst [.str "q",.str "a",.str "zz",.str "begin",.str "reg",.str "abcdefgh",.str "b",.str "thing"]) hl;have e1:upd H l (.lst [.str "q",.str "a",.str "zz",.str "begin",.str "reg",.str "abcdefgh",.str "b",.str "thing"]) l=some (.lst ((["q","a","zz","begin","reg","abcdefgh","b","thing"]:List ZR).map V.str)):=ab;generalize upd H l (.lst [.str "q",.str "a",.str "zz",.str "begin",.str "reg",.str "abcdefgh",.str "b",.str "thing"])=H1 at X e1⊢;refine gB ?_;intro d L;refine aF ?_;have O:d≠r:=(R.same X).fresh L;have a6:l≠d:=fM e1 L;have fd:H d=none:=X.free L;have s2:=af.upd (o:=.dK []) L;have e2:=s2 _ _ e1;have a5:upd H1 d (.dK []) d=some (.dK []):=ab;have a7:=X.trans s2;generalize upd H1 d (.dK [])=H2 at s2 e2 a5 a7⊢;have w2:Dw r n H H2:=R.dw.same a7;refine ⟨_,rfl,r,3,n,rfl,w2.r,by lia,by decide,by decide,λ t H3 G d5 d4=>.inl ⟨1,t,rfl,rfl,1 + t,rfl,by lia,by lia,?_⟩⟩;have e3:=G.k _ _ nl e2;have d1:=G.k _ _ O a5;have G:=w2.trans G;have tn:(1 + t).toNat<=3:=by lia
  have tp:0 < (1 + t).toNat:=by lia
  generalize (1 + t).toNat=tt at tn tp⊢;refine ub (lo:=0) (n:=tt) (λ i σ M=>∃kvs ss,Dw r (n + 1 + 2 * i) H M/\M l=some (.lst ((["q","a","zz","begin","reg","abcdefgh","b","thing"]:List ZR).map V.str))/\M d=some (.dK kvs)/\kvs.map (·.1)=ss.map Sum.inr/\ss.Nodup/\(∀z∈ss,O8 z=true/\z.length<=8)/\ss.length<=i/\(0 < i->0 < ss.length)/\(∀k v,bJ kvs k=some v->∃z,z∈bT/\v=.str z)/\∃x3,σ=[some (.ref r),some (.ref l),some (.ref d),x3])
   ⟨[],[],G,e3,d1,rfl,.nil,λ _ z=>ZV z t0,u0 _,λ h=>h,(λ k v e=>by cases e),_,rfl⟩ ?_ ?_
  ·rintro i σ W hi ⟨kvs,ss,w4,e4,ed4,ek,sn,so,sl,sp,kv,x3,rfl⟩;refine aF ?_;refine ⟨Gj,λ j C=>⟨_,rfl,r,5,_,rfl,w4.r.same (af.upd C),by lia,by decide,by decide,λ t5 H5 B c3 b9=>?_⟩⟩;obtain ⟨v5,b5,b2⟩:=eT (xs:=bT.map V.str) c3 b9;obtain ⟨I,b0,rfl⟩:=List.mem_map.mp b2;refine .inl ⟨j,_,t5,_,rfl,rfl,aK.of (B.k _ _ (w4.r.fresh C) ab),b5,?_⟩;have e5:=B.k _ _ nl ((af.upd (o:=.lst (bT.map V.str)) C) _ _ e4);have a2:=B.k _ _ O ((af.upd (o:=.lst (bT.map V.str)) C) _ _ ed4);have B:=(w4.same (af.upd (o:=.lst (bT.map V.str)) C)).trans B;refine ⟨_,rfl,_,rfl,_,rfl,r,8,_,rfl,B.r,by lia,by decide,by decide,λ t6 H6 F c2 b8=>?_⟩;obtain ⟨v6,c8,c4⟩:=eT (xs:=(["q","a","zz","begin","reg","abcdefgh","b","thing"]:List ZR).map V.str) c2 b8;obtain ⟨c,a9,rfl⟩:=List.mem_map.mp c4;have a8:O8 c=true/\c.length<=8:=(by decide +kernel :∀z∈(["q","a","zz","begin","reg","abcdefgh","b","thing"]:List ZR),O8 z=true/\z.length<=8) c a9;have Z:=F.k _ _ nl e5;have c5:=F.k _ _ O a2;have F:=B.trans F;have kl:kvs.length=ss.length:=by have:=ZU A8 ek;simpa using this
   refine .inl ⟨l,_,t6,_,rfl,rfl,aK.of Z,c8,d,_,rfl,hZ.k (k:=.inr c) c5 (T1 (m:=100) (by lia) (by decide)),?_⟩;have w7:Dw r (n + 1 + 2 * (i + 1)) H (upd H6 d (.dK (putK kvs (.inr c) (.str I)))):=by refine ⟨λ b o hb e=>by rw [ak (fM e fd)];exact F.k b o hb e,?_⟩;obtain ⟨a1,Y,c1,ee,D⟩:=F.r;exact ⟨a1,Y,c1,by rw [ak O.symm];exact ee,D.1,D.2.1,D.2.2.1,by have:=D.2.2.2;lia⟩
   have a3 :∀k v,bJ (putK kvs (.inr c) (.str I)) k=some v->∃z,z∈bT/\v=.str z:=λ k v e=>by
    rw [rX] at e;by_cases z:k=.inr c
    ·rw [ZZ z] at e;cases e;exact ⟨I,b0,rfl⟩
    ·rw [Z_ z] at e;exact kv k v e
   by_cases z:c∈ss
   ·have kk:=Rh (kvs:=kvs) (k:=(.inr c:Key)) (v:=.str I) (by rw [ek];exact List.mem_map.mpr ⟨c,z,rfl⟩);exact ⟨_,ss,w7,by rw [ak a6];exact Z,ab,kk.trans ek,sn,so,by lia,λ _=>List.length_pos_of_mem z,a3,_,rfl⟩
   ·have kk:=IX (kvs:=kvs) (k:=(.inr c:Key)) (v:=.str I) (by rw [ek];exact λ y=>z (by obtain ⟨a,ha,e⟩:=List.mem_map.mp y;cases e;exact ha));refine ⟨_,ss++[c],w7,by rw [ak a6];exact Z,ab,by rw [kk,u1,ek,u1];rfl,?_,λ z hz=>?_,?_,λ _=>?_,a3,_,rfl⟩
    ·rw [K5];refine ⟨sn,by simp,λ a ha b hb=>?_⟩;rw [List.mem_singleton.mp hb];exact λ e=>z (e ▸ ha)
    ·rcases List.mem_append.mp hz with y|y
     ·exact so z y
     ·rw [List.mem_singleton.mp y];exact a8
    ·rw [G0];show ss.length + 1<=i + 1;lia
    ·rw [G0];exact Nat.succ_pos _
  ·rintro σ W ⟨kvs,ss,w4,e4,ed4,ek,sn,so,sl,sp,kv,x3,rfl⟩;refine dh (Ea ?_);refine NV (λ j H5=>∃f:List ZR,W j=none/\f.Perm ss/\H5=upd W j (.lst (f.map V.str))) (λ R h=>⟨_,rfl,d,kvs,ss,rfl,ed4,ek,by lia,λ j f h5 u _=>h j _ ⟨f,h5,u,rfl⟩⟩) ?_;rintro j H5 ⟨f,C,u,rfl⟩;have s5:=af.upd (o:=.lst (f.map V.str)) C;have a2:=s5 _ _ ed4;have e5:upd W j (.lst (f.map V.str)) j=some (.lst (f.map V.str)):=ab;have d0:f.length<=3:=by rw [u.length_eq];lia
   refine zev (S:=af) (K:=KX w.params) (a:=j) (xs:=f.map V.str) (oz (kx w)) (af.refl _) (λ _ _ _ a b=>a.trans b) (λ _ _=>af.refl _) ?_ (λ R h=>h) (λ M s'=>aK.of (s' _ _ e5)) (by rw [C0];exact D0 d0 (by decide)) ?_ ?_
   ·rintro x y Ha Hb b3 ⟨p,k1,Y,D,z2,z3,z4⟩;exact ⟨p,k1,Y,D,z2,z3,b3 _ _ z4⟩
   ·intro v hv H6 s6 KT b6 KF;obtain ⟨p,c9,rfl⟩:=List.mem_map.mp hv;refine ⟨[some (.str p)],rfl,rfl,cG ?_⟩;have hs:(bJ kvs (.inr p)).isSome=true:=dJ.mpr (by rw [ek];exact List.mem_map.mpr ⟨p,u.mem_iff.mp c9,rfl⟩);obtain ⟨v1,a4⟩:=Option.isSome_iff_exists.mp hs;obtain ⟨z,hz,rfl⟩:=kv _ _ a4;have dg:d_ H6 d (.str p) (some (.str z)):=by have:=d_.k (k:=.inr p) (s6 _ _ a2);rw [a4] at this;exact this
    exact ⟨_,rfl,_,rfl,_,rfl,d,_,rfl,dg,cZ,λ p7 c6=>b6 _ _ (af.upd c6) ⟨p,z,p7,rfl,rfl,hz,ab⟩⟩
   ·intro l7 H7 U s7 b7 b4;obtain ⟨ts,f1,f2,c7⟩:=EM b4;have s8:=af.upd (o:=.lst U) b7;refine ⟨l7,U,rfl,.inl ⟨aK.of ab,λ p8 a0=>?_⟩⟩;have w8:=(w4.same (s5.trans s7)).same s8;have s9:=s8.trans (af.upd (o:=.tup U) a0);have tl:ts.length=f.length:=by rw [<-f1,C0]
    have pl:=u.length_eq;have:=sp tp;exact q p8 ts _ ((w8.same (af.upd a0)).le (by lia)) (w8.free a0) ⟨U,ab,bI (λ _ _ z=>z.elim λ b y=>⟨b,y.1,s9 _ _ y.2⟩) c7⟩ ⟨by lia,by lia,by rw [f1];exact u.nodup_iff.mpr sn,f2⟩ (λ t ht=>so t.1 (u.mem_iff.mp (by rw [<-f1];exact List.mem_map.mpr ⟨t,ht,rfl⟩)))
def xn (K:b0) (H:Hp) (z:ZR) (y:V):Prop:=∃(p:ZS) (r:List V),y=.ref p/\aH K H p (.str z :: r)
def xn.tups {z:ZR} (t:bA K H H') (h:xn K H z y):xn K H' z y:=by obtain ⟨p,r,e,s⟩:=h;exact ⟨p,r,e,t _ _ s⟩
def eK.tt (t:Tt K H H') (e :∀o,H p=some o->H' p=some o) (h:eK K H ts p):eK K H' ts p:=by obtain ⟨j,l,x,a,k,d,c,b,g,i,f,m⟩:=h;exact ⟨j,l,x,a,k,d,e _ c,b,g,bV.mono' t.t d x i,f.tt t,m⟩
def eK.mutAt (h:eK K H ts p):jw H p:=by obtain ⟨c,e,x,a,k,d,b,_⟩:=h;exact .inl ⟨_,b⟩
def bu.mutAt (h:bu H r n):jw H r:=by obtain ⟨a,b,c,e,_⟩:=h;exact .inl ⟨_,e⟩
def Dw.keptL (h:Dw r n H H') (hr:r∈L):aL L H H':=λ b o n e=>h.k b o (λ z=>n (z ▸ hr)) e
def Dw.tt (R:bu H r m) (h:Dw r n H H'):Tt K H H':=aL.tt (h.keptL (List.mem_singleton.mpr rfl)) λ l a=>by rw [List.mem_singleton.mp a];exact R.mutAt
def ou (s:af H H1) (k:aL L H1 H2) (n :∀l∈L,H l=none):af H H2:=λ c o e=>k c o (λ z=>by rw [n c z] at e;cases e) (s c o e)
def Js {k j:Key} (h:bJ (cR kvs k) j=some v):bJ kvs j=some v:=by
 induction kvs with
 | nil=>cases h
 | cons p r ih=>
  obtain ⟨a,pv⟩:=p;by_cases z:a=k
  ·rw [Ey z] at h;have c:j≠a:=λ y=>by
    have:(bJ (cR r k) j).isSome=true:=by rw [h];rfl
    have:=dJ.mp this;obtain ⟨q,b,e⟩:=List.mem_map.mp this;have:=ZW (List.mem_filter.mp b).2;exact this (e.trans (y.trans z))
   rw [ja (λ e=>c e.symm)];exact ih h
  ·rw [Ej z] at h;by_cases y:a=j
   ·subst y;rw [jf rfl] at h⊢;exact h
   ·rw [ja y] at h⊢;exact ih h
noncomputable def tm:Ev->Int
 | .beg h _ _ _=>h
 | .fin h _=>h
def HZ {e:Ev} (h :∀e∈es,tm e∈hs) (he:tm e∈hs) :∀x∈es++[e],tm x∈hs:=λ x a=>by
 rcases List.mem_append.mp a with z|z
 ·exact h x z
 ·rw [List.mem_singleton.mp z];exact he
noncomputable def gD:Ev->ZR
 | .beg _ _ _ _=>"begin"
 | .fin _ _=>"end"
noncomputable def oe (e:Ev):Bool:=decide (V.str (gD e)=V.str "begin")
def EC {n:V}:oe (.beg h n v x)=true:=by show decide (V.str "begin" = V.str "begin")=true;decide +kernel
def EG {a:V}:oe (.fin h a)=false:=by show decide (V.str "end" = V.str "begin")=false;decide +kernel
noncomputable def jD (es:List Ev):Nat:=(es.filter oe).length
def Jp {a:V}:jD (es++[.fin h a])=jD es:=by unfold jD;rw [N3,G0];rw [P2 (by rw [EG];decide)];rfl
def ME {n:V}:jD (es++[.beg h n v x])=jD es + 1:=by unfold jD;rw [N3,G0,O2 EC];rfl
theorem Gu {p:Ev->Bool} :∀{es:List Ev} {ys:List V},es.length=ys.length->((es.zip ys).filter λ a=>p a.1).length=(es.filter p).length
 | [],[],_=>rfl
 | e :: es,y :: ys,h=>by
  have b:=Gu (p:=p) (es:=es) (ys:=ys) (by simpa using h);rw [U7];cases c:p e with
  | true=>rw [O2 (by exact c),O2 c,P0,P0,b]
  | false=>rw [P2 (by show ¬ p e=true;rw [c];decide),P2 (by rw [c];decide),b]
theorem GL:∀{es:List Ev} {i:Nat} {rs:List Rc},(aI i rs es).length=rs.length + jD es
 | [],_,_=>rfl
 | e :: es,i,rs=>by
  have d:=GL (es:=es) (i:=i + 1) (rs:=aE i rs e);show (aI (i + 1) (aE i rs e) es).length=_;rw [d];cases e with
  | beg hd n v x=>
   have c:(aE i rs (.beg hd n v x)).length=rs.length + 1:=by show (rs++[_]).length=_;rw [G0];rfl
   have b:jD (Ev.beg hd n v x :: es)=jD es + 1:=by unfold jD;rw [O2 EC,P0]
   lia
  | fin hd a=>
   have c:(aE i rs (.fin hd a)).length=rs.length:=by
    unfold aE;dsimp only;cases bD hd (rs.map Rc.h) with
    | none=>rfl
    | some j=>exact n5 ..
   have b:jD (Ev.fin hd a :: es)=jD es:=by unfold jD;rw [P2 (by rw [EG];decide)]
   lia
structure lS (K:b0) (ts:List (ZR×ZR)) (H:Hp) (e:Ev) (y:V):Prop where
 a:fm K H e y
 w:xn K H (gD e) y
 n:jt K H ts e
def lS.tt {e:Ev} (t:Tt K H H') (h:lS K ts H e y):lS K ts H' e y:=⟨fm.tups t.t h.a,h.w.tups t.t,h.n.tt t⟩
theorem Da:∀{es:List Ev} {ys:List V},av (lS K ts H) es ys->av (λ (a:Ev×V) v=>a.2=v/\lS K ts H a.1 v) (es.zip ys) ys
 | _,_,.nil=>.nil
 | _,_,.cons a r=>.cons ⟨rfl,a⟩ (Da r)
def Am (K:b0) (H H0:Hp) (u l ha:ZS) (ts:List (ZR×ZR)) (m:Nat) (os:List Int):Prop:=∃kvs:List (Key×V),H u=some (.dK kvs)/\kvs.length<=m/\kvs.map (·.1)=os.map Sum.inl/\∀k v,bJ kvs k=some v->∃p,v=.ref p/\eK K H ts p/\p≠l/\p≠ha/\H0 p=none
structure jy (K:b0) (H H0:Hp) (pt ps u l ha:ZS) (ts:List (ZR×ZR)) (hs:List Int) (i:Nat) (os:List Int) (es:List Ev):Prop where
 th:gG H pt ts
 st:hW K H ps ts i
 uw:Am K H H0 u l ha ts i os
 ev :∃ys,H l=some (.lst ys)/\av (lS K ts H) es ys
 hn:H ha=some (.lst (hs.map V.int))
 ln:es.length<=i
 wf:gA [] es
 cn:jD es<=7
 hb :∀e∈es,tm e∈hs
def jy.tt {pt ps u ha:ZS} (t:Tt K H H') (L:List ZS) (k:aL L H H') (n:u∉L/\l∉L/\ha∉L) (po :∀p∈L,∀q:eK K H ts p,eK K H' ts p) (h:jy K H H0 pt ps u l ha ts hs i os es):jy K H' H0 pt ps u l ha ts hs i os es:=by
 refine ⟨h.th.tt t,h.st.tups t.t,?_,h.ev.elim λ s z=>⟨s,k _ _ n.2.1 z.1,bI (λ _ _ y=>y.tt t) z.2⟩,k _ _ n.2.2 h.hn,h.ln,h.wf,h.cn,h.hb⟩;obtain ⟨m,e,r,j,f⟩:=h.uw;refine ⟨m,k _ _ n.1 e,r,j,λ a v g=>?_⟩;obtain ⟨p,c,b,d⟩:=f a v g;refine ⟨p,c,?_,d⟩;rcases Classical.em (p∈L) with z|z
 ·exact po p z b
 ·exact b.tt t λ o e=>k _ _ z e
def jy.same {pt ps u ha:ZS} (s:af H H') (h:jy K H H0 pt ps u l ha ts hs i os es):jy K H' H0 pt ps u l ha ts hs i os es:=h.tt (.of s) [] s.keptL ⟨t0,t0,t0⟩ (λ _ z=>ZV z t0)
def jy.le {pt ps u ha:ZS} (h:jy K H H0 pt ps u l ha ts hs i os es):jy K H H0 pt ps u l ha ts hs (i + 1) os es:=⟨h.th,h.st.le (C3 _),h.uw.elim λ a z=>⟨a,z.1,S5 z.2.1,z.2.2⟩,h.ev,h.hn,S5 h.ln,h.wf,h.cn,h.hb⟩
def jy.dw {pt ps u ha:ZS} (R:bu H r n) (w:Dw r m H H') (nr:u≠r/\l≠r/\ha≠r) (h:jy K H H0 pt ps u l ha ts hs i os es):jy K H' H0 pt ps u l ha ts hs i os es:=by refine h.tt (w.tt R) [r] (w.keptL (by simp)) ⟨by simp [nr.1],by simp [nr.2.1],by simp [nr.2.2]⟩ λ p e o=>?_;rw [List.mem_singleton.mp e] at o⊢;obtain ⟨g,j,x,a,k,d,c,_⟩:=o;obtain ⟨s,f,q,b,_⟩:=R;rw [c] at b;cases b
def FA (K:b0):Sp:=λ vs H Q _=>∃(sc:ZS) (ns:List Int),vs=[.ref sc,.int 7]/\aK K H sc (ns.map V.int)/\ns.length<=63/\
 ∀t pt te ys es ts H',af H H'->H' t=some (.tup [.ref pt,.ref te])->H' te=some (.tup ys)->gG H' pt ts->nP ts->(∀t∈ts,O8 t.1=true/\t.1.length<=8)->av (lS K ts H') es ys->es.length<=20->gA [] es->jD es<=7->(∀e∈es,0<=tm e/\tm e<=5)->Q (.ref t) H'
theorem Pn (T:TX (kx w) mg) (c0:Ca P w mg base "_law_cell_at" ["script","k"] 1 (FG (kx w))) (c2:Ca P w mg base "_law_take" ["deck","many"] 1 wC) (c3:Ca P w mg base "_law_things" ["deck"] 2 IT) (c4:Ca P w mg base "_law_first" ["things"] 1 (BJ (kx w))) (c5:Ca P w mg base "_law_applied" ["things","states","own"] 2 (zR (kx w))) (c6:Ca P w mg base "_law_verb" ["deck","kind"] 3 (GJ (kx w))):Fo P w mg base CX0 4 412 C_ ["script","most"] (FA (kx w)):=by
 refine (CM w.params).ok aG (λ vs H Q E h=>?_) (λ x4 A y3 s H vs Q E I h=>?_)
 ·obtain ⟨sc,O,rfl,_⟩:=h;rfl
 ·obtain ⟨sc,O,rfl,sq,hn,q⟩:=h;refine n_ (gN (QS.mk (aA (i:=2) aG.nd rfl (Y0 rfl) (aQ gc (aB c0 (I.mono (by decide)) rfl (ao (pv 0) (ao ag ae))) ag)))
   (gN (QS.mk (aA (i:=3) aG.nd rfl (Y0 rfl) (aY (ao (aQ zy (aB c0 (I.mono (by decide)) rfl (ao (pv 0) (ao ag ae))) ag) (ao (pv 2) (ao ag ae))))))
   (gN (QS.mk (aA (i:=4) aG.nd rfl (Y0 rfl) (aB c3 (I.mono (by decide)) rfl (ao (pv 3) ae))))
   (gN (QS.mk (aA (i:=5) aG.nd rfl (Y0 rfl) (nD fP (aq aj (aY (ao (aY (ao ag (ao ag (ao ag (ao ag ae))))) (ao (aY (ao ag (ao ag (ao ag (ao ag ae))))) ae))) (aB c2 (I.mono (by decide)) rfl (ao (pv 3) (ao ag ae))) (λ _ _=>rfl)) nE (kZ (aQ ei ag (aB c2 (I.mono (by decide)) rfl (ao (pv 3) (ao ag ae))))))))
   (gN (iS (i:=6) aG.nd rfl (Y0 rfl) (kn aj (eI (eg (QE.mk ag) (eg (QE.mk ag) (eg (QE.mk ag) (eg (QE.mk ag) eE))))) (QE.mk (aB c2 (I.mono (by decide)) rfl (ao (pv 3) (ao ag ae)))) (λ _ _=>rfl)))
   (gN (QS.mk (aA (i:=7) aG.nd rfl (Y0 rfl) (aB c4 (I.mono (by decide)) rfl (ao (pv 4) ae))))
   (gN (QS.mk (aA (i:=8) aG.nd rfl (Y0 rfl) (aY ae)))
   (gN (QS.mk (aA (i:=9) aG.nd rfl (Y0 rfl) yq))
   (gN (lY U1 rfl (sZ rfl (T.no (tE _)) (ao (fD (RZ rfl) rfl (T.no (uz _)) boot_min (ao (aQ gb ag (pv 1)) (ao (fD (ON rfl) rfl (T.no (wH _)) boot_max (ao ag (ao (aQ rf (fD jG rfl (T.no (dE _)) S4 (ao (pv 0) ae)) ag) ae))) ae))) ae)) (eY (i:=10) aG.nd rfl (Y0 rfl))
   (gN (QS.mk (aA (i:=3) aG.nd rfl (Y0 rfl) (aY (ao (fD (MV rfl) rfl (T.no (vM _)) boot_sum (ao (NN (pv 0) (kZ (aQ ei ag (pv 10))) (kZ ag) (kZ (aQ gb ag (pv 1)))) ae)) (ao (pv 2) (ao (aQ ei ag (aQ gb ag (pv 10))) ae))))))
   (gN (QS.mk (aA (i:=11) aG.nd rfl (Y0 rfl) (aq aj (pv 5) (aB c2 (I.mono (by decide)) rfl (ao (pv 3) (ao (fD jG rfl (T.no (dE _)) S4 (ao (pv 5) ae)) ae))) (λ _ _=>rfl))))
   (nM (pe (rL (pF (cQ I) (pv 11) (pv 9)) (by with_unfolding_all rfl))
   (gN (QS.mk (aA (i:=12) aG.nd rfl (Y0 rfl) (KH (pv 9) (pv 11) ⟨rfl,rfl,rfl,rfl⟩)))
   (gN (QS.mk (aN (cI gW (aq aj (pv 12) ag (λ _ _=>rfl)) bx (aC _))
   (aU (aA (i:=7) aG.nd rfl (Y0 rfl) (aB c5 (I.mono (by decide)) rfl (ao (pv 4) (ao (pv 7) (ao (pv 12) ae))))))
   dG))
   (gN (QS.mk (aA (i:=13) aG.nd rfl (Y0 rfl) (aq aj (pv 12) ag (λ _ _=>rfl))))
   (gN (pe (PW.pt (hU (cA (fD pd rfl (T.no (oA _)) Q4 (ao (pv 13) (ao (oy (v:=.ty "tuple") rfl (T.no (lq _)) G4 rfl) ae))) (λ _=>rfl)) (gv (cI bP (aB c2 (I.mono (by decide)) rfl (ao (pv 3) (ao (pv 6) ae))) ag (aC _)))))
   (nM (iS (i:=13) aG.nd rfl (Y0 rfl) (kn aj (eI (eg (QE.mk az) (eg (QE.mk az) (eg (QE.mk ag) (eg (QE.mk ag) (eg (QE.mk ag) (eg (QE.mk (aQ mz ag ag)) (eg (QE.mk (mP kb ag)) eE)))))))) (QE.mk (aB c2 (I.mono (by decide)) rfl (ao (pv 3) (ao ag ae)))) (λ _ _=>rfl))))
   (oB.mk dG))
   (nM (QS.mk (lr (nC (pv 8) (ao (aD (ao az (ao (pv 11) (ao (pv 13) ae)))) ae)))))))))
   (nM (QS.mk (aN (cI ij (fD jG rfl (T.no (dE _)) S4 (ao (dS (xs:=["event"]) (g:=bh 0) (fr:=[]) (lN (pv 8)) (λ _ _ _ _ _=>(bK (N:=["event"]) 0)) (λ _ _ _ _ _=>(eO (cI bP (aq (vT (K:=KX w.params) rfl) (pv 0) ag (λ _ _=>rfl)) az (aC _)))) (λ _ _ _ _ _=>(pv 0))) ae)) (pv 1) (aC _))
   (aV (eG (aq aj (pv 4) (aB c2 (I.mono (by decide)) rfl (ao (pv 3) (ao (fD jG rfl (T.no (dE _)) S4 (ao (pv 4) ae)) ae))) (λ _ _=>rfl)) (bH rfl (eJ (eY (i:=14) aG.nd rfl (Y0 rfl)) (eJ (eY (i:=15) aG.nd rfl (Y0 rfl)) iq))))
   (aV (eG (aB c6 (I.mono (by decide)) rfl (ao (pv 3) (ao (pv 15) ae))) (bH rfl (eJ (eY (i:=16) aG.nd rfl (Y0 rfl)) (eJ (eY (i:=17) aG.nd rfl (Y0 rfl)) iq))))
   (aV (lr (nC (pv 8) (ao (aD (ao az (ao (pv 11) (ao (pv 14) (ao (pv 16) (ao (pv 17) ae)))))) ae)))
   (aV (xf (cQ I) (pv 9) (pv 11) (aY (ao (pv 14) (ao (pv 16) (ao (pv 17) (ao bx ae))))) rfl)
   (aU (aN (cI bP (aB c2 (I.mono (by decide)) rfl (ao (pv 3) (ao ag ae))) ag (aC _))
   (aU (aA (i:=7) aG.nd rfl (Y0 rfl) (aB c5 (I.mono (by decide)) rfl (ao (pv 4) (ao (pv 7) (ao (qC (cQ I) (pv 9) (pv 11) (λ _ _=>rfl)) ae))))))
   dG))))))
   dG))))))))
   (nM (QS.mk (au (aD (ao (pv 4) (ao (kK nh rfl (T.no (lq _)) G4 (ao (pv 8) ae)) ae))))))))))))))) ?_
  refine gB ?_;refine ⟨_,rfl,sc,O,rfl,sq,λ i0=>⟨_,_,rfl,rfl,(show (0:Int) < 2 by decide),?_⟩⟩;refine aF ?_;have y0:0<=i0 % 2:=N7 _ (by decide);have y1:i0 % 2 < 2:=E6 _ (by decide);refine gB ?_;refine ⟨_,rfl,sc,O,rfl,sq,λ i1=>⟨_,_,rfl,rfl,⟨by decide,by decide⟩,_,rfl,nL,λ Y l3=>?_⟩⟩;refine aF ?_;have s1:=af.upd (o:=.lst [.int (i1 / 2),.int (i0 % 2),.int 0]) l3;have D1:bu (upd H Y (.lst [.int (i1 / 2),.int (i0 % 2),.int 0])) Y 0:=⟨_,_,_,ab,y0,y1,j2a _,j2a _⟩
  generalize upd H Y (.lst [.int (i1 / 2),.int (i0 % 2),.int 0])=H1 at s1 D1⊢;have only :∀{n:Nat} {Ha Hb:Hp},af H Ha->Dw Y n Ha Hb->af H Hb:=λ sa wa=>ou sa (wa.keptL (L:=[Y]) (by simp)) λ c B=>by rw [List.mem_singleton.mp B];exact l3
  refine ⟨_,rfl,Y,0,rfl,D1,by decide,λ pt S H2 w2 x8 th ok n4=>?_⟩;have s2:=only s1 w2;refine aF (dh ?_);refine gB ?_;refine ⟨tI,λ G h1=>⟨tI,λ a2 h2=>⟨cZ,λ a3 h3=>?_⟩⟩⟩;have q1:=af.upd (o:=.lst [V.int 0,.int 1,.int 2,.int 5]) h1;have q2:=af.upd (o:=.lst [V.int 5,.int 4,.int 3,.int 0]) h2;have q3:=af.upd (o:=.lst [.ref G,.ref a2]) h3;have f1:=q3 _ _ (q2 _ _ (ab (H:=H2) (a:=G) (o:=.lst [V.int 0,.int 1,.int 2,.int 5])));have f2:=q3 _ _ (ab (H:=upd H2 G (.lst [V.int 0,.int 1,.int 2,.int 5])) (a:=a2) (o:=.lst [V.int 5,.int 4,.int 3,.int 0]));have f3:=ab (H:=upd (upd H2 G (.lst [V.int 0,.int 1,.int 2,.int 5])) a2 (.lst [V.int 5,.int 4,.int 3,.int 0])) (a:=a3) (o:=.lst [.ref G,.ref a2]);have n1:G≠Y:=w2.r.fresh h1;have n2:a2≠Y:=(w2.r.same q1).fresh h2;have n3:a3≠Y:=(w2.r.same (q1.trans q2)).fresh h3;have g4:=(q1.trans q2).trans q3;generalize upd (upd (upd H2 G (.lst [V.int 0,.int 1,.int 2,.int 5])) a2 (.lst [V.int 5,.int 4,.int 3,.int 0])) a3 (.lst [.ref G,.ref a2])=H3 at f1 f2 f3 g4⊢;have D3:=w2.r.same g4;have p1:=th.tt (.of (K:=KX w.params) g4);have s3:=s2.trans g4;refine ⟨_,rfl,Y,2,_,rfl,D3,by decide,by decide,by decide,λ t4 H4 w4 r3 u4=>?_⟩;obtain ⟨v4,v3,k1⟩:=eT (xs:=[V.ref G,.ref a2]) r3 u4;obtain ⟨aX,a6,rfl,eX,nX,lX,bX⟩ :∃(aX:ZS) (a6:List Int),v4=.ref aX/\H3 aX=some (.lst (a6.map V.int))/\aX≠Y/\a6.length=4/\∀x∈a6,0<=x/\x<=5:=by
   simp only [K1,t0,or_false] at k1;rcases k1 with rfl|rfl
   ·exact ⟨G,[0,1,2,5],rfl,f1,n1,rfl,by decide⟩
   ·exact ⟨a2,[5,4,3,0],rfl,f2,n2,rfl,by decide⟩
  refine .inl ⟨a3,_,t4,_,rfl,rfl,aK.of (w4.k _ _ n3 f3),v3,?_⟩;have x0:=w4.k _ _ nX eX;have s4:=only s3 w4;have p3:=p1.tt (w4.tt (K:=KX w.params) D3);refine ⟨_,rfl,Y,4,_,rfl,w4.r,by decide,by decide,by decide,λ t5 H5 w5 o4 x6=>.inl ⟨1,t5,rfl,rfl,_,rfl,.inl ⟨aX,_,rfl,aK.of (w5.k _ _ nX x0),λ D j1=>?_⟩⟩⟩;have s5:=only s4 w5;have w8:=p3.tt (w5.tt (K:=KX w.params) w4.r);obtain ⟨m5,rfl⟩:=Int.eq_ofNat_of_zero_le o4;have ec:bY (a6.map V.int) none (some (1 + (m5:Int)))=(a6.take (1 + m5)).map V.int:=by rw [show (1:Int) + (m5:Int)=((1 + m5:Nat):Int) by lia,(mC (ys:=a6.map V.int) (m:=1 + m5) (by rw [C0];lia)).1,List.map_take]
  rw [ec];have o5:(a6.take (1 + m5)).length=1 + m5:=by rw [A3];lia
  have k0 :∀x∈a6.take (1 + m5),0<=x/\x<=5:=λ x hx=>bX x (j5h hx);generalize a6.take (1 + m5)=hs at o5 k0⊢;refine aF ?_;have q6:=af.upd (o:=.lst (hs.map V.int)) j1;have e6:upd H5 D (.lst (hs.map V.int)) D=some (.lst (hs.map V.int)):=ab;have r9:D≠Y:=w5.r.fresh j1;have x2:H D=none:=s5.free j1;generalize upd H5 D (.lst (hs.map V.int))=H6 at q6 e6⊢;have D6:=w5.r.same q6;have s6:=s5.trans q6;have r6:=w8.tt (.of (K:=KX w.params) q6);refine gB ?_;refine ⟨tI,λ a7 h7=>⟨_,rfl,Y,4,_,rfl,D6.same (af.upd h7),by decide,by decide,by decide,λ t7 H7 w7 t2 v5=>?_⟩⟩;obtain ⟨v7,t3,m3⟩:=eT (xs:=[V.int 3,.int 8,.int 40,.int 40]) t2 v5;obtain ⟨b5,rfl,p5,y2⟩ :∃b5:Int,v7=.int b5/\0 < b5/\b5<=40:=by simp only [K1,t0,or_false] at m3;rcases m3 with rfl|rfl|rfl|rfl<;>exact ⟨_,rfl,by decide,by decide⟩
  refine .inl ⟨a7,_,t7,_,rfl,rfl,aK.of (w7.k _ _ (D6.fresh h7) ab),t3,?_⟩;refine aF ?_;have e7:=w7.k _ _ r9 ((af.upd (o:=.lst [V.int 3,.int 8,.int 40,.int 40]) h7) _ _ e6);have m9:=(r6.tt (.of (K:=KX w.params) (af.upd (o:=.lst [V.int 3,.int 8,.int 40,.int 40]) h7))).tt (w7.tt (K:=KX w.params) (D6.same (af.upd h7)));have s7:=only (s6.trans (af.upd (o:=.lst [V.int 3,.int 8,.int 40,.int 40]) h7)) w7;refine ⟨_,rfl,pt,S,rfl,m9,ok.n6,λ U M s8 d9=>?_⟩;have e8:=s8 _ _ e7;have o7:=m9.tt (.of (K:=KX w.params) s8);have s8:=s7.trans s8;refine ⟨jk,λ l hl=>?_⟩;have q9:=af.upd (o:=.lst []) hl;have d6:upd M l (.lst []) l=some (.lst []):=ab;have m2:l≠D:=λ z=>by rw [z,e8] at hl;cases hl
  have fl:H l=none:=s8.free hl;have e9:=q9 _ _ e8;have l0:=o7.tt (.of (K:=KX w.params) q9);have g3:=(d9.sts (K:=KX w.params)).tups (.of q9);have s9:=s8.trans q9;generalize upd M l (.lst [])=H9 at q9 d6 e9 l0 g3 s9⊢;intro u hu;have a4:=af.upd (o:=.dK []) hu;have fu:H u=none:=s9.free hu;have d0:l≠u:=λ z=>by rw [<-z,d6] at hu;cases hu
  have h6:D≠u:=λ z=>by rw [<-z,e9] at hu;cases hu
  have J0:jy (kx w) (upd H9 u (.dK [])) H pt U u l D S hs 0 [] []:=⟨l0.tt (.of (K:=KX w.params) a4),g3.tups (.of a4),⟨[],ab,u0 _,rfl,λ k v e=>by cases e⟩,⟨[],a4 _ _ d6,.nil⟩,a4 _ _ e9,u0 _,trivial,S1 _,λ _ h=>ZV h t0⟩
  have f4:=s9.trans a4;generalize upd H9 u (.dK [])=a5 at J0 f4⊢;have hb :∀L:Int,0<=(if (if L > 0 then L else 0) < 2 * 7 then (if L > 0 then L else 0) else 2 * 7)/\(if (if L > 0 then L else 0) < 2 * 7 then (if L > 0 then L else 0) else 2 * 7)<=20:=λ L=>by split<;>split<;>lia
  obtain ⟨b1,b2⟩:=hb (((O.map V.int).length:Int) - 1);refine ⟨_,rfl,_,_,rfl,rfl,.inl ⟨by decide,by decide⟩,_,rfl,.inl ⟨sc,_,rfl,.inl (f4.seq sq),_,_,rfl,rfl,_,_,rfl,_,_,rfl,(if (if ((O.map V.int).length:Int) - 1 > 0 then ((O.map V.int).length:Int) - 1 else 0) < 2 * 7 then (if ((O.map V.int).length:Int) - 1 > 0 then ((O.map V.int).length:Int) - 1 else 0) else 2 * 7),rfl,by lia,by lia,?_⟩⟩;generalize (if (if ((O.map V.int).length:Int) - 1 > 0 then ((O.map V.int).length:Int) - 1 else 0) < 2 * 7 then (if ((O.map V.int).length:Int) - 1 > 0 then ((O.map V.int).length:Int) - 1 else 0) else 2 * 7)=JJ at b1 b2⊢;have tn:JJ.toNat<=20:=by lia
  generalize JJ.toNat=tt at tn⊢;refine ub (lo:=0) (n:=tt) (λ i σ H'=>∃U es,jy (kx w) H' H pt U u l D S hs i (es.foldl e_ []) es/\af H H'/\∃x3 Z x11 x12 x13 x14 x15 x16 x17,σ=[some (.ref sc),some (.int 7),some (.int (i0 % 2)),x3,some (.ref pt),some (.ref D),some (.int b5),some (.ref U),some (.ref l),some (.ref u),Z,x11,x12,x13,x14,x15,x16,x17])
   ⟨U,[],J0,f4,_,_,_,_,_,_,_,_,_,rfl⟩ ?_ ?_
  ·rintro i σ H3 hi ⟨U,es,J,s3,x3,Z,x11,x12,x13,x14,x15,x16,x17,rfl⟩;rw [D9];refine aF ?_;obtain ⟨ms,em⟩ :∃ms:List Int,fK (O.map V.int) (some (1 + (i:Int))) (some 63) (some (2 * 7))=ms.map V.int:=FI λ y hy=>by obtain ⟨c,_,rfl⟩:=List.mem_map.mp (QZ hy);exact ⟨c,rfl⟩
   have pl:(fK (O.map V.int) (some (1 + (i:Int))) (some 63) (some (2 * 7))).length<=ZF:=D0 (MG (by lia)) (by rw [C0];exact D0 hn (by decide));refine gB ?_;refine ⟨_,rfl,_,rfl,.inl ⟨_,_,rfl,rfl,_,rfl,63,rfl,_,rfl,_,_,rfl,rfl,.inl ⟨by decide,by decide⟩,_,rfl,sc,_,rfl,s3.seq sq,(show (some (2 * 7:Int))≠some 0 from λ e=>by injection e with e;lia),pl,λ p4 o1=>?_⟩⟩;have q4:=af.upd (o:=.lst (fK (O.map V.int) (some (1 + (i:Int))) (some 63) (some (2 * 7)))) o1;refine ⟨p4,ms,rfl,aK.of (by rw [<-em];exact ab),?_⟩;refine ⟨_,rfl,_,rfl,_,_,rfl,rfl,.inl ⟨by decide,by decide⟩,.inl ⟨_,_,rfl,rfl,nL,λ C e5=>?_⟩⟩;refine aF ?_;have q5:=af.upd (o:=.lst [.int ms.sum,.int (i0 % 2),.int (9 + 5 * (i:Int))]) e5;have D5:bu (upd (upd H3 p4 (.lst (fK (O.map V.int) (some (1 + (i:Int))) (some 63) (some (2 * 7))))) C (.lst [.int ms.sum,.int (i0 % 2),.int (9 + 5 * (i:Int))])) C (9 + 5 * i):=⟨_,_,_,ab,y0,y1,by lia,by lia⟩
   have J5:=(J.same q4).same q5;have n5:H C=none:=(s3.trans q4).free e5;have s5:=(s3.trans q4).trans q5;generalize upd (upd H3 p4 (.lst (fK (O.map V.int) (some (1 + (i:Int))) (some 63) (some (2 * 7))))) C (.lst [.int ms.sum,.int (i0 % 2),.int (9 + 5 * (i:Int))])=H5 at D5 J5 s5⊢;have nd:u≠C/\l≠C/\D≠C:=by
    obtain ⟨G,b1,c1,e1,_⟩:=D5;refine ⟨λ z=>?_,λ z=>?_,λ z=>?_⟩
    ·obtain ⟨kv,e,_⟩:=(J.same q4).uw;rw [z,e5] at e;cases e
    ·obtain ⟨kv,e,_⟩:=(J.same q4).ev;rw [z,e5] at e;cases e
    ·have e:=(J.same q4).hn;rw [z,e5] at e;cases e
   have f5 :∀{n:Nat} {Ha Hb:Hp},af H Ha->Dw C n Ha Hb->af H Hb:=λ sa wa=>ou sa (wa.keptL (L:=[C]) (by simp)) λ c B=>by rw [List.mem_singleton.mp B];exact n5
   refine gB ?_;refine ⟨_,rfl,_,rfl,_,rfl,.inl ⟨D,_,rfl,.inl (aK.of J5.hn),C,_,_,rfl,D5,by lia,by rw [C0];lia,by rw [C0];lia,λ t6 H6 w6 o3 r2=>?_⟩⟩;obtain ⟨v6,o6,w3⟩:=eT (xs:=hs.map V.int) o3 r2;obtain ⟨b,j3,rfl⟩:=List.mem_map.mp w3;have J6:=J5.dw D5 w6 nd;have s6:=f5 s5 w6;have D6:=w6.r;refine .inl ⟨D,_,t6,_,rfl,rfl,aK.of J6.hn,o6,?_⟩;refine aF ?_;obtain ⟨a8,b8,r7,f9,k9⟩:=J6.uw;have dg:d_ H6 u (.int b) (bJ a8 (.inl b)):=d_.k (k:=.inl b) b8;refine ⟨_,rfl,_,rfl,u,_,rfl,dg,_,rfl,?_⟩;cases hv:bJ a8 (.inl b) with
   | some v=>
    refine bw rfl ?_;obtain ⟨f,rfl,ow,g6,g5,f7⟩:=k9 _ _ hv;refine gB ?_;refine ⟨_,rfl,u,rfl,.inl ⟨_,.inl b8⟩,_,rfl,a8,.inl b,.ref f,b8,rfl,hv,?_⟩;refine aF ?_;have k7:aL [u] H6 (upd H6 u (.dK (cR a8 (.inl b)))):=aL.set (by simp);have T7:Tt (kx w) H6 (upd H6 u (.dK (cR a8 (.inl b)))):=aL.tt k7 λ c B=>by rw [List.mem_singleton.mp B];exact .inr ⟨_,b8⟩
    have k2:upd H6 u (.dK (cR a8 (.inl b))) u=some (.dK (cR a8 (.inl b))):=ab;generalize upd H6 u (.dK (cR a8 (.inl b)))=H7 at k7 T7 k2⊢;obtain ⟨ys,c7,e0⟩:=J6.ev;have d0:l≠u:=λ z=>by rw [z,b8] at c7;cases c7
    have h6:D≠u:=λ z=>by have:=J6.hn;rw [z,b8] at this;cases this
    have d5 :∀{p:ZS},eK (kx w) H6 S p->p≠u:=λ o z=>by obtain ⟨_,_,_,_,_,_,e,_⟩:=o;rw [z,b8] at e;cases e
    have n8:b∈es.foldl e_ []:=by have:(Sum.inl b:Key)∈a8.map (·.1):=dJ.mp (by rw [hv];rfl);rw [f9] at this;obtain ⟨k,hk,e⟩:=List.mem_map.mp this;exact o9 e ▸ hk
    have J7:jy (kx w) H7 H pt U u l D S hs i ((es.foldl e_ []).filter λ k=>decide (k≠b)) es:=⟨J6.th.tt T7,J6.st.tups T7.t,⟨_,k2,D0 (Dn _ _) r7,MD f9,λ k v e=>by obtain ⟨p,h1,h2,h3⟩:=k9 k v (Js e);exact ⟨p,h1,h2.tt T7 λ o e=>k7 _ _ (by simp [d5 h2]) e,h3⟩⟩,⟨ys,k7 _ _ (by simp [d0]) c7,bI (λ _ _ y=>y.tt T7) e0⟩,k7 _ _ (by simp [h6]) J6.hn,J6.ln,J6.wf,J6.cn,J6.hb⟩
    have g1:=ow.tt T7 λ o e=>k7 _ _ (by simp [d5 ow]) e;have D7:bu H7 C (9 + 5 * i + 1):=by obtain ⟨G,b1,c1,e1,z1⟩:=D6;exact ⟨G,b1,c1,k7 _ _ (by simp [C4 nd.1]) e1,z1⟩
    have s7:af H H7:=ou s6 k7 λ c B=>by rw [List.mem_singleton.mp B];exact fu
    have g9:f≠C:=λ z=>by obtain ⟨_,_,_,_,_,_,e,_⟩:=g1;obtain ⟨G,b1,c1,e1,_⟩:=D7;rw [z,e1] at e;cases e
    obtain ⟨nm,vb,x,a,k,d,eo,hm,b0,ix,wi,an⟩:=id g1;refine Ap (λ σ1 M=>∃ps' a' xs,aL [f] H7 M/\eK (kx w) M S f/\M f=some (.lst (xs++[a']))/\xs.length=3/\mH a'/\hW (kx w) M ps' S (i + 1)/\σ1=[some (.ref sc),some (.int 7),some (.int (i0 % 2)),some (.ref C),some (.ref pt),some (.ref D),some (.int b5),some (.ref ps'),some (.ref l),some (.ref u),some (.int (i:Int)),some (.int b),some (.ref f),x13,x14,x15,x16,x17]) ?_ (λ tl=>?_);rotate_left
    ·refine ⟨_,rfl,.inl ⟨f,_,3,a,rfl,rfl,aK.of eo,bG (j:=3) rfl,rfl,_,rfl,?_⟩⟩;by_cases za:a=.non
     ·refine bw (ZY za) ?_;obtain ⟨v2,w0⟩:=J7.st;refine ⟨_,rfl,_,rfl,_,rfl,pt,U,f,S,i,v2,nm,vb,x,a,k,d,rfl,J7.th,ok.thw,w0,by lia,eo,hm,b0,ix,wi,IL (by lia) eo hm b0 ix wi ?_⟩;rintro p' M k8 h8 ⟨a',xs,e8,l8,ai⟩ d9;exact tl _ _ ⟨p',a',xs,k8,h8,e8,l8,ai,d9,rfl⟩
     ·exact bM (by rw [ZX za];decide) (tl _ _ ⟨U,a,[.str nm,.str vb,x],aL.refl,g1,eo,rfl,an.resolve_left za,J7.st.le (C3 _),rfl⟩)
    rintro σ8 M ⟨ps',a',xs8,k8,h8,e8,l8,ai,d9,rfl⟩;have T8:Tt (kx w) H7 M:=aL.tt k8 λ c B=>by rw [List.mem_singleton.mp B];exact g1.mutAt
    have J8:jy (kx w) M H pt U u l D S hs i ((es.foldl e_ []).filter λ k=>decide (k≠b)) es:=J7.tt T8 [f] k8 ⟨by simp [C4 (d5 ow)],by simp [C4 g6],by simp [C4 g5]⟩ λ p hp _=>by rw [List.mem_singleton.mp hp];exact h8
    have D8:bu M C (9 + 5 * i + 1):=by obtain ⟨G,b1,c1,e1,z1⟩:=D7;exact ⟨G,b1,c1,k8 _ _ (by simp [C4 g9]) e1,z1⟩
    have s8:af H M:=ou s7 k8 λ c B=>by rw [List.mem_singleton.mp B];exact f7
    refine gB ?_;refine ⟨_,rfl,.inl ⟨f,_,3,a',rfl,rfl,aK.of e8,bG (j:=3) (by rw [L1 (by lia),l8];rfl),?_⟩⟩;refine aF ?_;refine Ap (λ σ1 H9=>∃a9 n9,Dw C n9 M H9/\mH a9/\σ1=[some (.ref sc),some (.int 7),some (.int (i0 % 2)),some (.ref C),some (.ref pt),some (.ref D),some (.int b5),some (.ref ps'),some (.ref l),some (.ref u),some (.int (i:Int)),some (.int b),some (.ref f),some a9,x14,x15,x16,x17]) ?_ (λ m7=>?_);rotate_left
    ·obtain ⟨T0,tg,nt⟩ :∃T0,bz M a' T0/\iA T0 "tuple" = false:=by
      rcases ai with ⟨i9,rfl⟩|rfl|rfl
      ·exact ⟨"int",rfl,by decide⟩
      ·exact ⟨"str",rfl,by decide⟩
      ·exact ⟨"str",rfl,by decide⟩
     refine ⟨_,rfl,_,_,T0,rfl,tg,by decide,_,rfl,?_⟩;rw [nt];refine cF ?_;refine ⟨_,rfl,_,rfl,C,b5,_,rfl,D8,by lia,p5,by lia,λ t9 H9 w9 _ _=>⟨rfl,_,rfl,gm (λ _=>?_) λ _=>m7 _ _ ⟨a',_,w9,ai,rfl⟩⟩⟩;refine ⟨_,_,rfl,rfl,p9,_,rfl,xw,λ l9 j0=>?_⟩;refine ⟨_,rfl,C,7,_,rfl,w9.r.same (af.upd j0),by lia,by decide,by decide,λ p2 a5 e3 h0 h1=>?_⟩;obtain ⟨X,o0,h9⟩:=eT (xs:=[V.str "ok",.str "none",.int 0,.int 1,.int 2,.int (10 ^ (9:Int).toNat),.int (-1)]) h0 h1;refine .inl ⟨l9,_,p2,X,rfl,rfl,aK.of (e3.k _ _ (w9.r.fresh j0) ab),o0,m7 _ _ ⟨X,_,(w9.same (af.upd j0)).trans e3,?_,rfl⟩⟩;simp only [K1,t0,or_false] at h9;rcases h9 with rfl|rfl|rfl|rfl|rfl|rfl|rfl
     ·exact .inr (.inl rfl)
     ·exact .inr (.inr rfl)
     ·exact .inl ⟨_,rfl⟩
     ·exact .inl ⟨_,rfl⟩
     ·exact .inl ⟨_,rfl⟩
     ·exact .inl ⟨_,rfl⟩
     ·exact .inl ⟨_,rfl⟩
    rintro σ9 H9 ⟨a9,n9,w9,ai9,rfl⟩;have J9:=J8.dw D8 w9 nd;have g3:=d9.tups (w9.tt D8).t;have s9:=f5 s8 w9;obtain ⟨W,d6,m4⟩:=J9.ev;have h4:W.length<=20:=by rw [cH m4];have:=J9.ln;lia
    refine ⟨_,rfl,.inl ⟨rfl,_,aK.of d6⟩,_,rfl,_,rfl,nL,λ a0 p6=>?_⟩;have a4:=af.upd (o:=.tup [.str "end",.int b,a9]) p6;have f6:upd H9 a0 (.tup [.str "end",.int b,a9]) a0=some (.tup [.str "end",.int b,a9]):=ab;have F:=J9.same a4;have j4:=g3.tups (.of a4);generalize upd H9 a0 (.tup [.str "end",.int b,a9])=a5 at a4 f6 F j4⊢;have f0:=a4 _ _ d6;have f8:=bI (λ _ _ z=>lS.tt (.of a4) z) m4;refine ⟨l,W,_,rfl,rfl,f0,T1 h4 (by decide),?_⟩;have d3:aL [l] a5 (upd a5 l (.lst (W++[.ref a0]))):=aL.set (by simp);have d2:Tt (kx w) a5 (upd a5 l (.lst (W++[.ref a0]))):=aL.tt d3 λ c B=>by rw [List.mem_singleton.mp B];exact .inl ⟨_,f0⟩
    have e2:upd a5 l (.lst (W++[.ref a0])) l=some (.lst (W++[.ref a0])):=ab;generalize upd a5 l (.lst (W++[.ref a0]))=b3 at d3 d2 e2⊢;obtain ⟨b4,g8,m0,g2,j2⟩:=F.uw;have g7:D≠l:=λ z=>m2 z.symm;have i8:u≠l:=λ z=>d0 z.symm;refine ⟨ps',es++[.fin b a9],⟨F.th.tt d2,j4.tups d2.t,⟨b4,d3 _ _ (by simp [i8]) g8,S5 m0,by rw [j19];exact g2,λ k v e=>?_⟩,⟨_,e2,?_⟩,d3 _ _ (by simp [g7]) F.hn,?_,gA.snoc (e:=.fin b a9) F.wf n8,D0 (m6 Jp) F.cn,HZ (e:=.fin b a9) F.hb j3⟩,ou (s9.trans a4) d3 (λ c B=>by rw [List.mem_singleton.mp B];exact fl),_,_,_,_,_,_,_,_,_,rfl⟩
    ·obtain ⟨p,h1,h2,h3⟩:=j2 k v e;exact ⟨p,h1,h2.tt d2 λ o e=>d3 _ _ (by simp [h3.1]) e,h3⟩
    ·refine lJ (bI (λ _ _ z=>lS.tt d2 z) f8) ?_;have se:=d2.l _ _ f6;refine ⟨⟨a0,rfl,aH.of se⟩,⟨a0,_,rfl,aH.of se⟩,?_⟩;rcases ai9 with ⟨i9,rfl⟩|rfl|rfl
     ·exact .inl ⟨_,rfl⟩
     ·exact .inr ⟨_,rfl⟩
     ·exact .inr ⟨_,rfl⟩
    ·rw [G0];exact i7 F.ln
   | none=>
    refine bM (by decide) ?_;obtain ⟨ys,c7,e0⟩:=J6.ev;have d0:l≠u:=λ z=>by rw [z,b8] at c7;cases c7
    have r5:ys.length<=20:=by rw [cH e0];have:=J6.ln;lia
    refine vA (OZ ?_);refine My (α:=Ev×V) (K:=KX w.params) (l:=l) (rs:=es.zip ys) (xs:=ys) (RA:=λ H a v=>a.2=v/\lS (kx w) S H a.1 v) (.fin 0 .non,.non) (λ a=>decide (V.str (gD a.1)=V.str "begin")) (λ a=>a.2) (λ R h=>⟨_,rfl,h⟩) (aK.of c7) (λ H H' a v s z=>⟨z.1,z.2.tt (.of s)⟩) (Da e0) ?_ ?_ ?_
    ·exact D0 (by rw [List.length_zip];exact Nat.min_le_right _ _) (D0 r5 (by decide))
    ·rintro ⟨z,v⟩ _ v' H7 s7 ⟨rfl,⟨_,⟨p,r,rfl,sqp⟩,_⟩⟩ KT KF h1 h2;refine ⟨[some (.ref p)],rfl,rfl,?_⟩;refine ⟨_,rfl,.inr (.inl ⟨p,_,0,.str (gD z),rfl,rfl,sqp,bG (j:=0) rfl,rfl,_,rfl,?_⟩)⟩;by_cases y:decide (V.str (gD z)=V.str "begin")=true
     ·exact bw y ⟨_,rfl,h1 y _ (af.refl _)⟩
     ·exact bM y (h2 (by simpa using y) _ (af.refl _))
    intro l7 H7 q7 o2;have q8:=af.upd (o:=.lst (((es.zip ys).filter λ a=>decide (V.str (gD a.1)=V.str "begin")).map λ a=>a.2)) o2;refine .inl ⟨l7,_,rfl,.inl (aK.of ab),_,rfl,_,_,rfl,rfl,_,rfl,?_⟩;have J8:=J6.same (q7.trans q8);have D8:=D6.same (q7.trans q8);have s8:=s6.trans (q7.trans q8);generalize upd H7 l7 (.lst (((es.zip ys).filter λ a=>decide (V.str (gD a.1)=V.str "begin")).map λ a=>a.2))=M at J8 D8 s8⊢;refine gm (λ g0=>?_) λ _=>⟨U,es,J8.le,s8,_,_,_,_,_,_,_,_,_,rfl⟩
    have u5:jD es + 1<=7:=by have g0:=ZW g0;have hz:((es.zip ys).filter λ a=>decide (V.str (gD a.1)=V.str "begin")).length=jD es:=Gu (p:=oe) (cH e0).symm;rw [C0,hz] at g0;exact Int.ofNat_lt.mp g0
    obtain ⟨yt,k3,k6⟩:=J8.th;have y4:yt.length=S.length:=cH k6;have x7:=ok.n0;have x5:=ok.n6;refine ⟨_,rfl,_,rfl,_,rfl,.inl ⟨pt,yt,rfl,.inr (aH.of k3),C,_,_,rfl,D8,by lia,by lia,by lia,λ t9 H9 w9 v0 x1=>?_⟩⟩;obtain ⟨v9,u3,u2⟩:=eT (xs:=yt) v0 x1;obtain ⟨j,hj⟩:=List.mem_iff_getElem?.mp u2;obtain ⟨t,ht,b9,rfl,e9⟩:=fF k6 hj;have i3:=K0 ht;have T9:Tt (kx w) M H9:=w9.tt D8;refine .inr (.inl ⟨pt,yt,t9,_,rfl,rfl,aH.of (T9.l _ _ k3),u3,b9,_,rfl,aH.of (T9.l _ _ e9),rfl,_,_,rfl,_,_,rfl,rfl,?_⟩);refine ⟨_,rfl,_,rfl,C,t.2,_,rfl,w9.r,by lia,ok.ks t i3,λ a0 X Z l1 a5 r4 e3 h9 f6 _ b0 ix wi=>⟨a0,_,rfl,aH.of f6,rfl,_,_,rfl,_,_,rfl,rfl,?_⟩⟩;have j9:=w9.trans e3;have F:=J8.dw D8 j9 nd;have r0:=e3.r;have f4:=f5 s8 j9;obtain ⟨W,f0,f8⟩:=F.ev;have h4:W.length<=20:=by rw [cH f8];have:=F.ln;lia
    refine ⟨_,rfl,.inl ⟨rfl,_,aK.of f0⟩,_,rfl,_,rfl,_,rfl,_,rfl,Gj,λ c8 q0=>?_⟩;obtain ⟨b3,v_,d7,w1⟩:=eL (.tup [.str "begin",.int b,.str t.1,.str X,Z]) q0;rw [<-v_];have e2:=d7 _ _ f0;refine ⟨l,W,_,rfl,rfl,e2,T1 h4 (by decide),?_⟩;have d8:aL [l] b3 (upd b3 l (.lst (W++[.ref c8]))):=aL.set (by simp);have j8:Tt (kx w) b3 (upd b3 l (.lst (W++[.ref c8]))):=aL.tt d8 λ c B=>by rw [List.mem_singleton.mp B];exact .inl ⟨_,e2⟩
    have i5:upd b3 l (.lst (W++[.ref c8])) l=some (.lst (W++[.ref c8])):=ab;generalize upd b3 l (.lst (W++[.ref c8]))=H12 at d8 j8 i5⊢;obtain ⟨b4,g8,m0,g2,j2⟩:=F.uw;have g7:D≠l:=λ z=>m2 z.symm;have i8:u≠l:=λ z=>d0 z.symm;have l4:af H H12:=ou (f4.trans d7) d8 λ c B=>by rw [List.mem_singleton.mp B];exact fl
    have k4:=d8 _ _ (show u∉[l] by simp [i8]) (d7 _ _ g8);have o8:=d8 _ _ (show D∉[l] by simp [g7]) (d7 _ _ F.hn);refine ⟨_,rfl,_,rfl,_,rfl,tI,λ f b6=>?_⟩;have d4:=af.upd (o:=.lst [.str t.1,.str X,Z,.non]) b6;have m8:upd H12 f (.lst [.str t.1,.str X,Z,.non]) f=some (.lst [.str t.1,.str X,Z,.non]):=ab;have g6:f≠l:=λ z=>by rw [z,i5] at b6;cases b6
    have g5:f≠D:=λ z=>by rw [z,o8] at b6;cases b6
    have d5:f≠u:=λ z=>by rw [z,k4] at b6;cases b6
    have f7:H f=none:=l4.free b6;generalize upd H12 f (.lst [.str t.1,.str X,Z,.non])=H13 at d4 m8⊢;have j6:=d4 _ _ k4;refine ⟨_,rfl,_,rfl,u,_,rfl,hZ.k (k:=.inl b) j6 (T1 (m:=100) (by lia) (by decide)),?_⟩;have c9:aL [u] H13 (upd H13 u (.dK (putK b4 (.inl b) (.ref f)))):=aL.set (by simp);have j7:Tt (kx w) H13 (upd H13 u (.dK (putK b4 (.inl b) (.ref f)))):=aL.tt c9 λ c B=>by rw [List.mem_singleton.mp B];exact .inr ⟨_,j6⟩
    have i6:upd H13 u (.dK (putK b4 (.inl b) (.ref f))) u=some (.dK (putK b4 (.inl b) (.ref f))):=ab;generalize upd H13 u (.dK (putK b4 (.inl b) (.ref f)))=H14 at c9 j7 i6⊢;have j5:Tt (kx w) b3 H14:=(j8.trans (.of d4)).trans j7;have T:Tt (kx w) a5 H14:=Tt.trans (.of d7) j5;have kk:aL [l,u] a5 H14:=λ c o n e=>by simp only [K1,t0,or_false,not_or] at n;exact c9 _ _ (by simp [n]) (d4 _ _ (d8 _ _ (by simp [n]) (d7 _ _ e)))
    have p0:af H H14:=ou (l4.trans d4) c9 λ c B=>by rw [List.mem_singleton.mp B];exact fu
    have l6:=c9 _ _ (show f∉[u] by simp [d5]) m8;have l2:eK (kx w) H14 S f:=⟨t.1,X,Z,.non,t.2,l1,l6,i3,b0,bV.mono' T.t _ _ ix,wi.tt T,.inl rfl⟩
    have l5:(Sum.inl b:Key)∉a8.map (·.1):=λ z=>by have:=dJ.mpr z;rw [hv] at this;cases this
    have u6:b∉es.foldl e_ []:=λ z=>l5 (by rw [f9];exact List.mem_map.mpr ⟨b,z,rfl⟩);have s0:jy (kx w) H14 H pt U u l D S hs (i + 1) ((es++[Ev.beg b (.str t.1) (.str X) Z]).foldl e_ []) (es++[.beg b (.str t.1) (.str X) Z]):=by
     refine ⟨F.th.tt T,(F.st.tups T.t).le (C3 _),⟨_,i6,D0 (Fq _ _ _) (by lia),?_,λ k v e=>?_⟩,⟨_,c9 _ _ (show l∉[u] by simp [d0]) (d4 _ _ i5),?_⟩,kk _ _ (by simp [g7,h6]) F.hn,?_,gA.snoc (e:=.beg b (.str t.1) (.str X) Z) F.wf u6,D0 (m6 ME) u5,HZ (e:=.beg b (.str t.1) (.str X) Z) F.hb j3⟩
     ·have p7:(Sum.inl b:Key)∉b4.map (·.1):=by rw [g2,<-f9];exact l5
      rw [j19,IX p7,u1,g2];show _=((es.foldl e_ [])++[b]).map Sum.inl;rw [u1];rfl
     ·rw [rX] at e;by_cases z:k=.inl b
      ·rw [ZZ z] at e;cases e;exact ⟨f,rfl,l2,g6,g5,f7⟩
      ·rw [Z_ z] at e;obtain ⟨p,h1,h2,h3⟩:=j2 k v e;refine ⟨p,h1,h2.tt T λ o e=>kk _ _ ?_ e,h3⟩;have:p≠u:=λ y=>by obtain ⟨_,_,_,_,_,_,e,_⟩:=h2;rw [y,g8] at e;cases e
       simp [h3.1,this]
     ·refine lJ (bI (λ _ _ z=>lS.tt T z) f8) ?_;have se:=j5.l _ _ w1;exact ⟨⟨c8,rfl,aH.of se⟩,⟨c8,_,rfl,aH.of se⟩,⟨t.1,t.2,X,l1,rfl,rfl,i3,b0,bV.mono' T.t _ _ ix,wi.tt T⟩⟩
     ·rw [G0];exact i7 F.ln
    have e4:bu H14 C r4:=by obtain ⟨G,b1,c1,e1,z1⟩:=r0;exact ⟨G,b1,c1,kk _ _ (by simp [C4 nd.1,C4 nd.2.1]) e1,z1⟩
    have g9:f≠C:=λ z=>by obtain ⟨G,b1,c1,e1,_⟩:=e4;rw [<-z,l6] at e1;cases e1
    refine ⟨_,rfl,C,2,_,rfl,e4,by lia,by decide,by decide,λ x9 h5 d1 _ _=>⟨rfl,_,rfl,?_⟩⟩;have i2:=s0.dw e4 d1 nd;have k5:=f5 p0 d1;have v1:=d1.k _ _ nd.1 i6;have m1:eK (kx w) h5 S f:=l2.tt (d1.tt e4) λ o e=>d1.k _ _ g9 e;refine gm (λ _=>?_) λ _=>⟨U,_,i2,k5,_,_,_,_,_,_,_,_,_,rfl⟩
    have p8:d_ h5 u (.int b) (some (.ref f)):=by have:=d_.k (k:=.inl b) v1;rw [rX,ZZ rfl] at this;exact this
    obtain ⟨nm,vb,x,a,k,d,eo,hm,b0,ix,wi,an⟩:=id m1;obtain ⟨n7,u7⟩:=F.st.tups (T.trans (d1.tt e4)).t;refine ⟨_,rfl,_,rfl,_,rfl,_,rfl,u,.ref f,rfl,p8,pt,U,f,S,i,n7,nm,vb,x,a,k,d,rfl,i2.th,ok.thw,u7,by lia,eo,hm,b0,ix,wi,IL (by lia) eo hm b0 ix wi ?_⟩;rintro p' r8 i4 r1 _ v8;have t1:Tt (kx w) h5 r8:=aL.tt i4 λ c B=>by rw [List.mem_singleton.mp B];exact m1.mutAt
    have b7:=i2.tt t1 [f] i4 ⟨by simp [C4 d5],by simp [C4 g6],by simp [C4 g5]⟩ λ p hp _=>by rw [List.mem_singleton.mp hp];exact r1
    exact ⟨p',_,⟨b7.th,v8,b7.uw,b7.ev,b7.hn,b7.ln,b7.wf,b7.cn,b7.hb⟩,ou k5 i4 (λ c B=>by rw [List.mem_singleton.mp B];exact f7),_,_,_,_,_,_,_,_,_,rfl⟩
  ·rintro σ H3 ⟨U,es,J,s3,x3,Z,x11,x12,x13,x14,x15,x16,x17,rfl⟩;obtain ⟨ys,u9,t8⟩:=J.ev;refine ⟨_,rfl,_,rfl,l,ys,rfl,.inl ⟨aK.of u9,λ te u8=>⟨cZ,λ t ht=>?_⟩⟩⟩;have sE:=af.upd (o:=.tup ys) u8;have sF:=sE.trans (af.upd (o:=.tup [.ref pt,.ref te]) ht);exact q t pt te ys es S _ (s3.trans sF) ab ((af.upd ht) _ _ ab) (J.th.tt (.of (K:=KX w.params) sF)) ok n4 (bI (λ _ _ z=>lS.tt (.of sF) z) t8) (D0 J.ln tn) J.wf J.cn (λ e he=>k0 _ (J.hb e he))
noncomputable def kJ:Sv->ZK
 | .num i=>.int i
 | .row ns=>.tuple (ns.map PyData.int)
noncomputable def dm (pl:Pl):ZK:=.tuple [.tuple (pl.1.map λ (n:Nat)=>.int (n:Int)),.tuple (pl.2.map kJ)]
theorem El:∀ns:List Int,gC K H (ns.map PyData.int) (ns.map V.int)
 | []=>rfl
 | n :: ns=>⟨_,_,rfl,rfl,El ns⟩
theorem IS:∀ns:List Nat,gC K H (ns.map λ (n:Nat)=>.int (n:Int)) (dN ns)
 | []=>rfl
 | n :: ns=>⟨_,_,rfl,rfl,IS ns⟩
theorem pI:∀{s:Sv} {v:V},gX K H s v->gr K H (kJ s) v
 | .num _,_,h=>h
 | .row ns,_,h=>h.elim λ p z=>⟨p,_,z.1,z.2,El ns⟩
def Pt (h:av (gX K H) ss vs):gC K H (ss.map kJ) vs:=by
 induction h with
 | nil=>exact (rfl:([]:List V)=[])
 | cons a r ih=>exact ⟨_,_,rfl,pI a,ih⟩
def gQ {pl:Pl} (h:jC K H p pl):gr K H (dm pl) (.ref p):=by obtain ⟨f,d,g,b,a,c,e⟩:=h;exact ⟨p,_,rfl,b,_,_,rfl,⟨f,_,rfl,a,IS _⟩,_,_,rfl,⟨d,_,rfl,c,Pt e⟩,rfl⟩
theorem xZ {α:Type} {f:α->ZK} :∀{xs:List α},(∀x∈xs,bR (f x)=true)->iR (xs.map f)=true
 | [],_=>rfl
 | x :: xs,h=>by show (bR (f x) && iR (xs.map f))=true;rw [h x R0,xZ λ y a=>h y (W0 _ a)];rfl
theorem ya {α:Type} {f:α->ZK} {n:Nat} :∀{xs:List α},(∀x∈xs,(f x).depth<=n)->Y1 (xs.map f)<=n
 | [],_=>S1 _
 | x :: xs,h=>by have c:=h x R0;have b:=ya (f:=f) (n:=n) (xs:=xs) λ y a=>h y (W0 _ a);show max (f x).depth (Y1 (xs.map f))<=n;omega
theorem GZ (s:Sv):bR (kJ s)=true/\(kJ s).depth<=1:=by
 cases s with
 | num i=>exact ⟨rfl,S1 _⟩
 | row ns=>exact ⟨xZ λ _ _=>rfl,by have:=ya (f:=PyData.int) (n:=0) (xs:=ns) (λ _ _=>u0 _);simp only [kJ,j3j];omega⟩
theorem OK (pl:Pl):bR (dm pl)=true/\(dm pl).depth<=3:=by
 have a:iR (pl.1.map λ (n:Nat)=>PyData.int (n:Int))=true:=xZ λ _ _=>rfl;have b:iR (pl.2.map kJ)=true:=xZ λ s _=>(GZ s).1;have d:=ya (f:=λ (n:Nat)=>PyData.int (n:Int)) (n:=0) (xs:=pl.1) (λ _ _=>u0 _);have c:=ya (f:=kJ) (n:=1) (xs:=pl.2) (λ s _=>(GZ s).2);refine ⟨?_,?_⟩
 ·show (iR _ && (iR _ && true))=true;rw [a,b];rfl
 ·unfold dm;simp only [j3j,Y1];omega
theorem MQ {rs:List Rc} {pl:Pl} {k N:Nat} (gd:av (dq K H ts) rs ps) (ok:ko ts) (po:eV ts N k pl) (rl:N<=63) (hN:N=rs.length) (hc :∀n,c n=true->n∉pl.1) (hi:i<=N) :∀s∈eM c ts rs ps pl i,jA s.2.1/\∃n r p sv,n < N/\c n=true/\rs[n]? = some r/\ps[n]? = some p/\pl.2[fX ts p.nm]? = some sv/\cU k p.k sv/\s=qK ts p n pl sv:=by
 intro s b;unfold eM at b;obtain ⟨n,l,e⟩:=List.mem_filterMap.mp b;have l:=List.mem_range.mp l;unfold dC at e;cases h:c n with
 | false=>rw [h] at e;cases e
 | true=>
  have d:rs[n]? = some rs[n]:=B0 (by omega);obtain ⟨p,f,g⟩:=ik gd d;rw [ZZ h,d,f] at e;generalize rs[n]=r at d g e;have o:=iK ok g.2.2.1;obtain ⟨sv,b,m⟩:=ik po.so o;have e:eQ ts r p n pl=some s:=e;rw [jY b] at e;cases hb:r.e.isNone || decide ((dz p.k p.vb p.dt sv).2=r.a) with
  | false=>rw [hb] at e;cases e
  | true=>rw [hb] at e;have e:qK ts p n pl sv=s:=A1 e;have q:=iC g.2.2.2.1 m (po.n63 rl (j:=n) (by omega) (hc n h)).1;rw [<-e];exact ⟨q.2,n,r,p,sv,by omega,h,d,f,b,m,rfl⟩
def kF {rs:List Rc} (h:cP m rs ns n=true):n∉ns:=ZW (Bool.and_eq_true_iff.mp (Bool.and_eq_true_iff.mp h).1).1
def gF (o:HO) (h:H p=none) :∃H',H'=upd H p o/\af H H'/\H' p=some o:=⟨_,rfl,af.upd h,ab⟩
def Cq {rs:List Rc} {pl:Pl} (gd:av (dq K H ts) rs ps) (ok:ko ts) (po:eV ts rs.length pl.1.length pl) (rl:rs.length<=63) :∀s∈eM (cP m rs pl.1) ts rs ps pl rs.length,eV ts rs.length s.2.2.1.length s.2.2/\s.2.2.1.length=pl.1.length + 1:=by
 intro s E;obtain ⟨_,n,r,p,G,q,N,D,B,J,A,rfl⟩:=MQ (c:=cP m rs pl.1) gd ok po rl rfl (λ n h=>kF h) (u0 _) s E;have v:=kF N;have j:=ve (pl.1++[n]);have o:(dO (pl.1++[n])).length=pl.1.length + 1:=by rw [j.length_eq,G0];rfl
 obtain ⟨P,u,g⟩:=ik gd D;rw [B] at u;cases u;have M:=iC g.2.2.2.1 A (po.n63 rl q v).1;show eV ts rs.length (dO (pl.1++[n])).length (dO (pl.1++[n]),pl.2.set (fX ts p.nm) (dz p.k p.vb p.dt G).1)/\(dO (pl.1++[n])).length=pl.1.length + 1;refine ⟨⟨?_,λ x I=>?_,?_,.inr (u0 _)⟩,o⟩
 ·refine j.nodup_iff.mpr ?_;rw [K5];exact ⟨po.nd,by simp,λ a w b F e=>v (by rw [<-List.mem_singleton.mp F,<-e];exact w)⟩
 ·rcases List.mem_append.mp (j.mem_iff.mp I) with z|z
  ·exact po.lt x z
  ·rw [List.mem_singleton.mp z];exact q
 ·rw [o];have L:pl.2.length=ts.length:=cH po.so;refine vv (by rw [j27,L]) λ i t Q f d=>?_;rw [List.getElem?_set] at d;by_cases z:fX ts p.nm=i
  ·subst z;have C:=iK ok g.2.2.1;rw [C] at f;cases f;rw [ZZ rfl,ZZ (List.getElem?_eq_some_iff.mp J).1] at d;cases d;exact M.1
  ·rw [Z_ z] at d;obtain ⟨O,l,y⟩:=fF po.so d;rw [f] at l;cases l;exact y.le (C3 _)
def LF {rs:List Rc} {pl:Pl} (h:dC c ts rs ps pl i=some s):s.1=i/\c i=true:=by
 unfold dC at h;cases e:c i with
 | false=>rw [e] at h;cases h
 | true=>
  rw [ZZ e] at h;refine ⟨?_,rfl⟩;cases hr:rs[i]? with
  | none=>rw [hr] at h;cases h
  | some r=>
   cases hp:ps[i]? with
   | none=>rw [hr,hp] at h;cases h
   | some p=>
    rw [hr,hp] at h;have h:eQ ts r p i pl=some s:=h;unfold eQ at h;cases hs:pl.2[fX ts p.nm]? with
    | none=>rw [hs] at h;cases h
    | some sv=>
     rw [hs] at h;dsimp only at h;split at h
     ·cases h;rfl
     ·cases h
theorem DU {rs:List Rc} {pl:Pl} (nd:pl.1.Nodup) (lt :∀x∈pl.1,x < rs.length):pl.1.length + (eM (cP m rs pl.1) ts rs ps pl rs.length).length<=rs.length:=by
 have k :∀i,(((eM (cP m rs pl.1) ts rs ps pl i).map (·.1)).Nodup/\∀x∈(eM (cP m rs pl.1) ts rs ps pl i).map (·.1),x < i/\x∉pl.1):=λ i=>by
  induction i with
  | zero=>exact ⟨.nil,λ x c=>ZV c t0⟩
  | succ i ih=>
   rw [uQ,u1];cases h:dC (cP m rs pl.1) ts rs ps pl i with
   | none=>rw [j06,c6,D2];exact ⟨ih.1,λ x c=>⟨K2 (ih.2 x c).1,(ih.2 x c).2⟩⟩
   | some s=>
    obtain ⟨e,l⟩:=LF h;rw [Option.toList_some,C1,c6,e];refine ⟨?_,λ x c=>?_⟩
    ·rw [K5];refine ⟨ih.1,by simp,λ a d b f z=>?_⟩;have:=(ih.2 a d).1;rw [List.mem_singleton.mp f] at z;omega
    ·rcases List.mem_append.mp c with z|z
     ·exact ⟨K2 (ih.2 x z).1,(ih.2 x z).2⟩
     ·rw [List.mem_singleton.mp z];exact ⟨S2 i,kF l⟩
 obtain ⟨j,g⟩:=k rs.length;have:=sR rs.length (pl.1++(eM (cP m rs pl.1) ts rs ps pl rs.length).map (·.1)) (by
  rw [K5];exact ⟨nd,j,λ a d b f e=>(g b f).2 (e ▸ d)⟩) λ x c=>by
   rcases List.mem_append.mp c with z|z
   ·exact lt x z
   ·exact (g x z).1
 rwa [G0,C0] at this
theorem x_ {α:Type} {f:α->ZK} :∀{xs:List α},(∀x∈xs,cj (f x)=true)->bC (xs.map f)=true
 | [],_=>rfl
 | x :: xs,h=>by show (cj (f x) && bC (xs.map f))=true;rw [h x R0,x_ λ y a=>h y (W0 _ a)];rfl
def rM (s:Sv):cj (kJ s)=true:=by
 cases s with
 | num i=>rfl
 | row ns=>exact x_ λ _ _=>rfl
def fR (pl:Pl):cj (dm pl)=true:=by have a:bC (pl.1.map λ (n:Nat)=>PyData.int (n:Int))=true:=x_ λ _ _=>rfl;have b:bC (pl.2.map kJ)=true:=x_ λ s _=>rM s;show (bC _ && (bC _ && true))=true;rw [a,b];rfl
def fW (pl:Pl):(dm pl).depth<=7:=D0 (OK pl).2 (by decide)
theorem xD:∀{xs ys:List ZK},(∀(i:Nat) x y,xs[i]? = some x->ys[i]? = some y->(ie x y).isSome=true)->(gH xs ys).isSome=true
 | [],_,_=>by unfold gH;rfl
 | _ :: _,[],_=>by unfold gH;rfl
 | x :: xs,y :: ys,h=>by
  unfold gH;dsimp only;split
  ·exact xD λ i a b c d=>h (i + 1) a b c d
  ·exact h 0 x y rfl rfl
def Hf (xs ys:List Int):(ie (.tuple (xs.map PyData.int)) (.tuple (ys.map PyData.int))).isSome=true:=by unfold ie;refine xD λ i x y c d=>?_;rw [M0] at c d;obtain ⟨a,_,rfl⟩:=Option.map_eq_some_iff.mp c;obtain ⟨b,_,rfl⟩:=Option.map_eq_some_iff.mp d;unfold ie;rfl
def ux {k:ZR} {n':Nat} {s s':Sv} (h:cU n k s) (h':cU n' k s'):(ie (kJ s) (kJ s')).isSome=true:=by
 cases s with
 | num i=>
  cases s' with
  | num j=>show (ie (.int i) (.int j)).isSome=true;unfold ie;rfl
  | row ns=>exact ZV h'.1 h.1
 | row ns=>
  cases s' with
  | num j=>exact ZV h.1 h'.1
  | row ms=>exact Hf ns ms
def ur {N n':Nat} {pl pl':Pl} (h:eV ts N n pl) (h':eV ts N n' pl'):(ie (dm pl) (dm pl')).isSome=true:=by
 unfold dm ie;refine xD λ i x y c d=>?_
 match i,c,d with
 | 0,c,d=>
  cases c;cases d;have e :∀f:List Nat,(f.map λ (n:Nat)=>PyData.int (n:Int))=(f.map λ (n:Nat)=>(n:Int)).map PyData.int:=λ f=>by rw [v3];rfl
  rw [e,e];exact Hf _ _
 | 1,c,d=>cases c;cases d;unfold ie;refine xD λ i x y c d=>?_;rw [M0] at c d;obtain ⟨a,l,rfl⟩:=Option.map_eq_some_iff.mp c;obtain ⟨b,m,rfl⟩:=Option.map_eq_some_iff.mp d;obtain ⟨t,k,g⟩:=fF h.so l;obtain ⟨p,j,o⟩:=fF h'.so m;rw [k] at j;cases j;exact ux g o
 | i + 2,c,d=>cases c
def pZ (pl:Pl) :∃xs ys,dm pl=.tuple (.tuple xs :: ys):=⟨_,_,rfl⟩
def zO (ts:List (ZR×ZR)) (N:Nat):eV ts N 0 ([],ts.map λ t=>aT t.2):=⟨.nil,λ _ h=>ZV h t0,by refine vv (by rw [C0]) λ i t s b a=>?_;rw [M0,b] at a;cases a;exact Dd _,.inl (S1 _)⟩
noncomputable def gI:Nat->Nat
 | 0=>1
 | n + 1=>1 + (n + 1) * (gI n + 1)
noncomputable def fJ (N:Nat) (ws:List Pl):Nat:=(ws.map λ pl=>gI (N - pl.1.length)).sum
def wh {N:Nat} {xs ys:List Pl}:fJ N (xs++ys)=fJ N xs + fJ N ys:=by unfold fJ;rw [u1,List.sum_append]
def tF {N:Nat} {x:Pl}:fJ N [x]=gI (N - x.1.length):=by unfold fJ;simp
theorem Qi:∀{a b:Sv},kJ a=kJ b->a=b
 | .num i,.num j,h=>by injection h with h;rw [h]
 | .num _,.row _,h=>by cases h
 | .row _,.num _,h=>by cases h
 | .row xs,.row c,h=>by
  injection h with h;have:xs=c:=by
   have inj :∀{xs c:List Int},xs.map PyData.int=c.map PyData.int->xs=c:=λ {xs}=>by
    induction xs with
    | nil=>intro c h;cases c with|nil=>rfl|cons y r=>cases h
    | cons x r ih=>
     intro c h;cases c with
     | nil=>cases h
     | cons y s=>rw [C1,C1] at h;injection h with h1 h2;injection h1 with h1;rw [h1,ih h2]
   exact inj h
  rw [this]
theorem yH {α β:Type} {f:α->β} (hf :∀a b,f a=f b->a=b) :∀{xs ys:List α},xs.map f=ys.map f->xs=ys
 | [],[],_=>rfl
 | [],_ :: _,h=>by cases h
 | _ :: _,[],h=>by cases h
 | x :: xs,y :: ys,h=>by rw [C1,C1] at h;injection h with h1 h2;rw [hf _ _ h1,yH hf h2]
theorem AI {a b:Pl} (h:dm a=dm b):a=b:=by unfold dm at h;injection h with h;injection h with h1 h2;injection h2 with h2 _;injection h1 with h1;injection h2 with h2;have d:a.1=b.1:=yH (λ x y z=>by injection z with z;lia) h1;have c:a.2=b.2:=yH (λ x y z=>Qi z) h2;exact j5g d c
noncomputable abbrev Oa:=Nat×V
noncomputable abbrev gJ (m:Nat) (ts:List (ZR×ZR)) (rs:List Rc) (ps:List DD) (pl:Pl):List nN:=eM (cP m rs pl.1) ts rs ps pl rs.length
inductive Wk (m:Nat) (ts:List (ZR×ZR)) (rs:List Rc) (ps:List DD):List Oa->Pl->Prop
 | nil:Wk m ts rs ps [] ([],ts.map λ t=>aT t.2)
 | snoc {o:List Oa} {pl:Pl} {s:nN}:Wk m ts rs ps o pl->s∈gJ m ts rs ps pl->Wk m ts rs ps (o++[(s.1,s.2.1)]) s.2.2
def eu (rs:List Rc) (pl:Pl):Prop:=∀n r,rs[n]? = some r->r.e.isSome=true->n∈pl.1
theorem yS {rs:List Rc} (h0:G ([],ts.map λ t=>aT t.2)) (hs :∀pl,G pl->∀s∈gJ m ts rs ps pl,G s.2.2) :∀{o:List Oa} {pl:Pl},Wk m ts rs ps o pl->G pl
 | _,_,.nil=>h0
 | _,_,.snoc w h=>hs _ (yS h0 hs w) _ h
def Bp (h:D.nx σ H):mR D σ H:=h
def Ba {c:TT} (W B:Nat->L2.St->Hp->Prop) (m0:Nat) (w0:W m0 σ H)
  (body :∀m σ H1,B m σ H1->tb { D with nx:=λ σ' H'=>∃m',m' < m/\W m' σ' H',ct:=λ σ' H'=>∃m',m' < m/\W m' σ' H',bk:=D.nx } σ H1)
  (cond :∀m σ H,W m σ H->(∀H1,B m σ H1->∃N:L2.St->Hp->Prop,(∀σ' H',N σ' H'->∃m',m' < m/\W m' σ' H')/\tb { D with nx:=N,ct:=N,bk:=D.nx } σ H1)->c σ H λ b H1=>if b=true then∃N:L2.St->Hp->Prop,(∀σ' H',N σ' H'->∃m',m' < m/\W m' σ' H')/\tb { D with nx:=N,ct:=N,bk:=D.nx } σ H1 else D.nx σ H1):iG c tb D σ H:=
 ⟨W,⟨m0,w0⟩,λ m σ H h=>cond m σ H h λ H1 b=>⟨_,λ _ _ z=>z,body m σ H1 b⟩⟩
def dX (K:b0) (H:Hp) (G:Pl->Prop) (ks:List (ZK×ZS)):Prop:=∀k∈ks,∃pl,k.1=dm pl/\jC K H k.2 pl/\G pl
def dX.same (s:af H H') (h:dX K H G ks):dX K H' G ks:=λ k a=>(h k a).elim λ b z=>⟨b,z.1,z.2.1.tups (.of s),z.2.2⟩
def dX.put {pl:Pl} (h:dX K H G ks) (z:jC K H b pl) (g:G pl):dX K H G (putN ks (dm pl) b):=λ k a=>by
 unfold L2.putN at a;split at a
 ·exact h k a
 ·rcases List.mem_append.mp a with y|y
  ·exact h k y
  ·rw [List.mem_singleton.mp y];exact ⟨pl,rfl,z,g⟩
def dX.at_ (r:Rd H a (cb a ks)) (h:dX K H G ks):kf K H a ks:=⟨r,λ k c=>by obtain ⟨b,e,z,_⟩:=h k c;rw [e];exact ⟨fR b,fW b,gQ z⟩⟩
def Pm (e:H r=some (.ext f)):bA K H (hide r H):=λ a b h=>by
 rcases h with (h|⟨ob,h⟩)|h
 ·exact .inl (.inl (jH (λ z=>by rw [z,e] at h;cases h) h))
 ·exact .inl (.inr ⟨ob,jH (λ z=>by rw [z,e] at h;cases h) h⟩)
 ·exact .inr h
def zm {c:TT} {rest:TS} (h:iG c tb { D with nx:=rest D } σ H):gE (iG c tb) rest D σ H:=h
noncomputable def ba (a b:ZS) (H:Hp):Hp:=hide a (hide b H)
def xi (s:af H H'):af (ba a b H) (ba a b H'):=ui (ui s)
def aR:af (ba a b H) H:=aO.trans aO
def fw:ba a b (upd H b o)=ba a b H:=by unfold ba;rw [uf]
def mK:ba a b (upd H a o)=ba a b H:=by
 funext p;unfold ba hide;by_cases z:p=a
 ·rw [ZZ z,ZZ z]
 ·rw [Z_ z,Z_ z,ak z]
def nz (n1:p≠a) (n2:p≠b) (e:H p=some o):ba a b H p=some o:=jH n1 (jH n2 e)
def GY (n1:H a=none) (n2:H b=none) (s:af H H'):af H (ba a b H'):=λ p o e=>nz (λ z=>by rw [z,n1] at e;cases e) (λ z=>by rw [z,n2] at e;cases e) (s _ _ e)
def FR {xs:List V} (ea:H a=some (.ext f)) (eb:H b=some (.lst xs)):bA K H (ba a b H):=λ p xs h=>by
 rcases h with (h|⟨ob,h⟩)|h
 ·exact .inl (.inl (nz (λ z=>by rw [z,ea] at h;cases h) (λ z=>by rw [z,eb] at h;cases h) h))
 ·exact .inl (.inr ⟨ob,nz (λ z=>by rw [z,ea] at h;cases h) (λ z=>by rw [z,eb] at h;cases h) h⟩)
 ·exact .inr h
theorem qd:∀n,1<=gI n
 | 0=>u0 _
 | n + 1=>by unfold gI;lia
theorem yv {N:Nat} :∀ws:List Pl,ws.length<=fJ N ws
 | []=>S1 _
 | w :: ws=>by
  have b:=yv (N:=N) ws;have a:fJ N (w :: ws)=gI (N - w.1.length) + fJ N ws:=by
   have:=wh (N:=N) (xs:=[w]) (ys:=ws)
   rwa [tF] at this
  have c:=qd (N - w.1.length);rw [P0]
  lia
theorem Hj:∀{n j:Nat},j<=n->j * gI (n - 1) + j < gI n
 | 0,j,h=>by rw [Nat.le_zero.mp h];decide
 | n + 1,j,h=>by
  have:=C7 (gI n + 1) h;have e:j * (gI n + 1)=j * gI n + j:=Nat.mul_succ _ _;show j * gI n + j < 1 + (n + 1) * (gI n + 1)
  lia
def Pi {α β:Type} {R:α->β->Prop} {xs:List α} {ys:List β} (h:av R xs ys):av R xs.reverse ys.reverse:=by
 induction h with
 | nil=>exact .nil
 | cons a r ih=>rw [List.reverse_cons,List.reverse_cons];exact lJ ih a
def dX.mono {G':Pl->Prop} (g :∀pl,G pl->G' pl) (h:dX K H G ks):dX K H G' ks:=λ k a=>(h k a).elim λ pl z=>⟨pl,z.1,z.2.1,g pl z.2.2⟩
def GA {d:ZK} :d∈(putN ks d b).map (·.1):=by
 unfold L2.putN;split
 ·assumption
 ·rw [u1];exact List.mem_append.mpr (.inr (List.mem_singleton.mpr rfl))
def xK {d e:ZK} (h:e∈ks.map (·.1)):e∈(putN ks d b).map (·.1):=by
 unfold L2.putN;split
 ·exact h
 ·rw [u1];exact List.mem_append.mpr (.inl h)
def HS (K:b0):Sp:=λ vs H Q _=>∃(b pp:ZS) (m:Nat) (rs:List Rc) (ts:List (ZR×ZR)) (ps:List DD) (pl:Pl),vs=[.ref b,.ref pp]/\js K H m rs ts ps b/\rs.length<=63/\jC K H pp pl/\∀b H',af H H'->(b=true↔eu rs pl)->Q (.bl b) H'
theorem MZ (T:TX (kx w) mg) (c0:Ca P w mg base "holds_all" ["done","numbers"] 1 (IM (kx w))):Fo P w mg base CX0 2 295 xm ["self","place"] (HS (kx w)):=by
 refine (EZ w.params).ok Nl (λ g H Q E h=>?_) (λ N A O s H g Q E C h=>?_)
 ·obtain ⟨b,e,m,k,l,x,i,rfl,_⟩:=h;rfl
 ·obtain ⟨b,e,m,k,l,x,i,rfl,⟨B,fs,z,u⟩,K,⟨f,L,g,t,I,M,sz⟩,q⟩:=h;refine ⟨_,(aU (au (aB c0 (C.mono (by decide)) rfl (ao (aq aj (pv 1) ag (λ _ _=>rfl)) (ao (bS (pv 0) rfl) ae))))),?_⟩;obtain ⟨le,p,y,v,d⟩:=u.ended;refine ⟨_,rfl,.inr (.inl ⟨e,_,0,.ref f,rfl,rfl,t,bG (j:=0) rfl,?_⟩)⟩;refine ⟨_,rfl,b,_,B,fs,_,rfl,z,ly _,Fp _,y,?_⟩;refine ⟨f,le,i.1,p,rfl,I,v,by have:=d.1;lia,λ o D J G=>q o D J (G.trans ⟨λ h n r c a=>h n ((d.2 n).mpr ⟨r,c,a⟩),λ h n F=>?_⟩)⟩;obtain ⟨r,c,a⟩:=(d.2 n).mp F;exact h n r c a
def kU (K:b0) (H:Hp) (t:ZS) (ts:List (ZR×ZR)) (es:List Ev) (ps:List DD):Prop:=gf K H t ts es/\ko ts/\es.length<=63/\gA [] es/\av (dq K H ts) (aI 0 [] es) ps/\(aI 0 [] es).length<=7
def kU.same {t:ZS} (s:af H H') (h:kU K H t ts es ps):kU K H' t ts es ps:=⟨h.1.tt (.of s),h.2.1,h.2.2.1,h.2.2.2.1,bI (λ _ _ z=>dq.tt (.of s) z) h.2.2.2.2.1,h.2.2.2.2.2⟩
def HK {rest:TS} {tA:TA} {t:ZS} (tp:kU (kx w) H t ts es ps) (ha :∀R:List V->Hp->Prop,R [.ref t,.str (jx m)] H->tA σ H R)
  (q :∀x dx fs H1,af H H1->(aI 0 [] es).length<=7->ko ts->av (dq (kx w) H1 ts) (aI 0 [] es) ps->H1 x=some (.ins 305 dx fs)->sU (kx w) H1 m (aI 0 [] es) ts ps fs->rest D (σ.set i (some (.ref x))) H1):gE (jR (oY 305 (yb (kx w)) [] E0 tA) (bh i)) rest D σ H:=by
 obtain ⟨h,ok,k,f,c,j⟩:=tp;refine ha _ λ x dx d b l=>?_;have n:af H (upd (upd H dx (.own x)) x (.ins 305 dx [])):=(af.upd b).trans (af.upd (by rw [ak l.symm];exact d));have a:Tt (kx w) H (upd (upd H dx (.own x)) x (.ins 305 dx [])):=.of n;refine ⟨x,dx,t,ts,es,ps,m,rfl,ab,h.tt a,ok,k,f,bI (λ _ _ z=>dq.tt a z) c,λ fs H1 g p o=>⟨rfl,?_⟩⟩;have e:af H H1:=Gf d b g;exact q x dx fs H1 e j ok (bI (λ _ _ z=>dq.tt (.of e) z) c) p o
def ny (H:Hp) (o:Oa) (y:V):Prop:=∃p,y=.ref p/\H p=some (.tup [.int (o.1:Nat),o.2])
def ny.same {o:Oa} (s:af H H') (h:ny H o y):ny H' o y:=h.elim λ p z=>⟨p,z.1,s _ _ z.2⟩
def jZ (K:b0) (H:Hp) (q:List Oa×Pl) (y:V):Prop:=∃p l p2 xs,y=.ref p/\H p=some (.tup [.ref l,.ref p2])/\H l=some (.lst xs)/\av (ny H) q.1 xs/\jC K H p2 q.2
def jZ.same {q:List Oa×Pl} (s:af H H') (h:jZ K H q y):jZ K H' q y:=by obtain ⟨p,l,f,g,b,a,d,e,c⟩:=h;exact ⟨p,l,f,g,b,s _ _ a,s _ _ d,bI (λ _ _ z=>z.same s) e,c.tups (.of s)⟩
def FF {α β:Type} {R:α->β->Prop} {xs:List α} {ys:List β} {y:β} (h:av R xs (ys++[y])) :∃xr x,xs=xr++[x]/\av R xr ys/\R x y:=by
 induction ys generalizing xs with
 | nil=>
  cases h with
  | cons a r=>cases r;exact ⟨[],_,rfl,.nil,a⟩
 | cons z ys ih=>
  cases h with
  | cons a r=>obtain ⟨xr,x,rfl,c,b⟩:=ih r;exact ⟨_ :: xr,x,rfl,.cons a c,b⟩
theorem kC (h:n<=7):gI n<=27399:=(by decide +kernel :∀n,n < 8->gI n<=27399) n (by lia)
def nR (m:Nat) (ts:List (ZR×ZR)) (rs:List Rc) (ps:List DD) (q:List Oa×Pl):Prop:=eV ts rs.length q.2.1.length q.2/\Wk m ts rs ps q.1 q.2/\q.1.length=q.2.1.length
structure Lk (m:Nat) (ts:List (ZR×ZR)) (rs:List Rc) (ps:List DD) (vis:List Pl) (ds:List ZK):Prop where
 c :∀pl∈vis,¬ eu rs pl/\∀s∈gJ m ts rs ps pl,dm s.2.2∈ds
def yU (K:b0):Sp:=λ vs H Q _=>∃(t:ZS) (ts:List (ZR×ZR)) (es:List Ev) (ps:List DD) (m:Nat),vs=[.ref t,.str (jx m)]/\kU K H t ts es ps/\
 (∀H',af H H'->(∀o pl,Wk m ts (aI 0 [] es) ps o pl->¬ eu (aI 0 [] es) pl)->Q .non H')/\∀l xs o pl H',af H H'->H' l=some (.lst xs)->av (ny H') o xs->Wk m ts (aI 0 [] es) ps o pl->eu (aI 0 [] es) pl->Q (.ref l) H'
theorem Mz (T:TX (kx w) mg) (c0:Fo P w mg base (oh P w base) 5 281 vG ["self","tale","strictness"] (yb (kx w))) (c1:Fo P w mg base CX0 2 295 xm ["self","place"] (HS (kx w))) (c2:Fo P w mg base CX0 7 288 vn ["self","place"] (BL (kx w))):Fo P w mg base CX0 8 352 BG ["tale","strictness"] (yU (kx w)):=by
 refine (Bi w.params).ok cC (λ vs H Q E h=>?_) (λ i9 A j0 s H vs Q E hr h=>?_)
 ·obtain ⟨t,ts,es,ps,m,rfl,_⟩:=h;rfl
 ·obtain ⟨t,ts,es,ps,m,rfl,tp,qn,q⟩:=h;refine ⟨_,(aV (aA (i:=2) cC.nd rfl (Y0 rfl) (CF (FC _) c0 (hr.mono (by decide)) rfl (T.of (Ho _)) (Gy _) .nil l_ (ao (pv 0) (ao (pv 1) ae))))
   (aV (aA (i:=3) cC.nd rfl (Y0 rfl) Fy)
   (aV (aA (i:=4) cC.nd rfl (Y0 rfl) (aY (ao (aD (ao (aY ae) (ao (bS (pv 2) rfl) ae))) ae)))
   (aV (yD U1 (cI oM (fD jG rfl (T.no (dE _)) S4 (ao (pv 4) ae)) ag (aC _))
   (aV (aA (i:=5) cC.nd rfl (Y0 rfl) (Ff (pv 4)))
   (aV (aN (cA (xp (pv 2) (ly _) (JL _) c1 (hr.mono (by decide)) (JY _) .nil ir (ao (aq aj (pv 5) ag (λ _ _=>rfl)) ae)) (λ _=>rfl))
   (aU (au (aq aj (pv 5) ag (λ _ _=>rfl))))
   dG)
   (aU (bO U1 rfl (Nw rfl (T.no (PR _)) (xp (pv 2) (ly _) (DA _) c2 (hr.mono (by decide)) (DT _) .nil ir (ao (aq aj (pv 5) ag (λ _ _=>rfl)) ae))) (bH rfl (eJ (eY (i:=6) cC.nd rfl (Y0 rfl)) (eJ (eY (i:=7) cC.nd rfl (Y0 rfl)) (eJ (eY (i:=8) cC.nd rfl (Y0 rfl)) iq))))
   (aU (aN (cI (FN hr) (pv 8) (pv 3) (by with_unfolding_all rfl))
   (aV (zC hr (pv 3) (pv 8) eC rfl)
   (aU (lr (nC (pv 4) (ao (aD (ao (aQ ei (aq aj (pv 5) ag (λ _ _=>rfl)) (aY (ao (aD (ao (pv 6) (ao (pv 7) ae))) ae))) (ao (pv 8) ae))) ae)))))
   dG)))))))
   (aU (au bx)))))),?_⟩
  refine HK tp (λ R h=>⟨_,rfl,_,rfl,h⟩) λ x dx fs M s1 rl ok d3 e1 bf=>?_;have bo:js (kx w) M m (aI 0 [] es) ts ps x:=⟨dx,fs,e1,bf⟩
  obtain ⟨p0,h7,g5⟩:=bf.first;generalize aI 0 [] es=rs at rl d3 bo bf qn q;refine gB ?_;intro f c9;refine aF ?_;have s2:=af.upd (o:=cb f []) c9;have e2:upd M f (cb f []) f=some (cb f []):=ab;have i1:af M (hide f (upd M f (cb f []))):=λ p o e=>jH (λ z=>by rw [z,c9] at e;cases e) (s2 _ _ e);generalize upd M f (cb f [])=H2 at s2 e2 i1⊢;refine gB ?_;refine ⟨jk,λ K a9=>⟨_,rfl,x,_,dx,fs,_,rfl,(s2.trans (af.upd a9)) _ _ e1,ly _,AF _,h7,cZ,λ F b7=>⟨lC,λ n U=>?_⟩⟩⟩;refine aF ?_;have f1:M n=none:=((s2.trans (af.upd a9)).trans (af.upd b7)).free U;have D:=af.upd (o:=.lst []) a9;have q1:=af.upd (o:=.tup [.ref K,.ref p0]) b7;have q2:=af.upd (o:=.lst [.ref F]) U;have h8:K≠f:=λ z=>by rw [z,e2] at a9;cases a9
  have g9:F≠f:=λ z=>by rw [z,D _ _ e2] at b7;cases b7
  have c7:f≠n:=λ z=>by rw [<-z,q1 _ _ (D _ _ e2)] at U;cases U
  have f8:K≠n:=λ z=>by rw [<-z,q1 _ _ ab] at U;cases U
  have i0:F≠n:=λ z=>by rw [<-z,ab] at U;cases U
  have g0:=q2 _ _ (q1 _ _ (ab (H:=H2) (a:=K) (o:=.lst [])));have g1:=q2 _ _ (ab (H:=upd H2 K (.lst [])) (a:=F) (o:=.tup [.ref K,.ref p0]));have g2:=ab (H:=upd (upd H2 K (.lst [])) F (.tup [.ref K,.ref p0])) (a:=n) (o:=.lst [.ref F]);have g3:=q2 _ _ (q1 _ _ (D _ _ e2));have s3:=GY c9 f1 (s2.trans ((D.trans q1).trans q2));generalize upd (upd (upd H2 K (.lst [])) F (.tup [.ref K,.ref p0])) n (.lst [.ref F])=H3 at g0 g1 g2 g3 s3⊢;refine zm (Ba (λ k σ C=>∃ks zs ws vis x5 x6 x7 x8,k=fJ rs.length (ws.map (·.2))/\af M (ba f n C)/\C f=some (cb f ks)/\C n=some (.lst zs)/\dX (kx w) (ba f n C) (λ u=>u∈vis\/u∈ws.map (·.2)) ks/\av (jZ (kx w) (ba f n C)) ws zs/\(∀q∈ws,nR m ts rs ps q)/\Lk m ts rs ps vis (ks.map (·.1))/\(([],ts.map λ t=>aT t.2)∈vis\/([],ts.map λ t=>aT t.2)∈ws.map (·.2))/\ks.length + fJ rs.length (ws.map (·.2))<=27399/\σ=[some (.ref t),some (.str (jx m)),some (.ref x),some (.ref f),some (.ref n),x5,x6,x7,x8])
   (λ k σ C=>∃ks zs y ws D vis x5 x6 x7 x8,k=fJ rs.length ((ws++[D]).map (·.2))/\af M (ba f n C)/\C f=some (cb f ks)/\C n=some (.lst (zs++[y]))/\dX (kx w) (ba f n C) (λ u=>u∈vis\/u∈(ws++[D]).map (·.2)) ks/\av (jZ (kx w) (ba f n C)) ws zs/\jZ (kx w) (ba f n C) D y/\(∀q∈ws++[D],nR m ts rs ps q)/\Lk m ts rs ps vis (ks.map (·.1))/\(([],ts.map λ t=>aT t.2)∈vis\/([],ts.map λ t=>aT t.2)∈(ws++[D]).map (·.2))/\ks.length + fJ rs.length ((ws++[D]).map (·.2))<=27399/\σ=[some (.ref t),some (.str (jx m)),some (.ref x),some (.ref f),some (.ref n),x5,x6,x7,x8])
   (fJ rs.length [([],ts.map λ t=>aT t.2)]) ⟨[],[.ref F],[([],([],ts.map λ t=>aT t.2))],[],_,_,_,_,rfl,s3,g3,g2,λ k hk=>ZV hk t0,.cons ⟨F,K,p0,[],rfl,nz g9 i0 g1,nz h8 f8 g0,.nil,g5.tups (.of s3)⟩ .nil,λ u hp=>by rw [List.mem_singleton.mp hp];exact ⟨zO ts _,.nil,rfl⟩,⟨λ _ h=>ZV h t0⟩,.inr (List.mem_singleton.mpr rfl),by show 0 + fJ rs.length [([],ts.map λ t=>aT t.2)]<=27399;rw [tF,A5];exact kC (D0 (Nat.sub_le _ _) rl),rfl⟩ ?_ ?_)
  ·rintro k σ H4 ⟨ks,zs,y,ws,⟨o,u⟩,vis,x5,x6,x7,x8,rfl,s4,es4,ew4,ki,aw,⟨p,l,p2,xs,rfl,ep,el,ax,pz⟩,Z,lk,fv,kw,rfl⟩;obtain ⟨X,wk,ol⟩:=Z _ (List.mem_append.mpr (.inr (List.mem_singleton.mpr rfl)));change eV ts rs.length u.1.length u at X;change o.length=u.1.length at ol;have Z :∀q∈ws,nR m ts rs ps q:=λ q hq=>Z q (List.mem_append.mpr (.inl hq));have mm :∀{a:Pl},a∈vis\/a∈(ws++[(o,u)]).map (·.2)->a∈u :: vis\/a∈ws.map (·.2):=λ {a} h=>by
    rcases h with h|h
    ·exact .inl (W0 _ h)
    ·rw [u1] at h;rcases List.mem_append.mp h with h|h
     ·exact .inr h
     ·rw [List.mem_singleton.mp h];exact .inl R0
   refine gB ?_;refine ⟨_,rfl,.inl ⟨rfl,_,aK.of ew4⟩,n,zs++[.ref p],.ref p,rfl,rfl,ew4,by simp,?_⟩;refine aF ?_;rw [j5j];have h5:ba f n (upd H4 n (.lst zs))=ba f n H4:=fw;have d1:upd H4 n (.lst zs) f=some (cb f ks):=by rw [ak c7];exact es4
   have d2:upd H4 n (.lst zs) n=some (.lst zs):=ab;generalize upd H4 n (.lst zs)=H5 at h5 d1 d2⊢;rw [<-h5] at s4 ki aw ep el pz ax;have s5:af M H5:=s4.trans aR;have b2 :∀{C:Hp} {R:VK} {x6 x7 x8:Option V} {j:Nat} {v:V},af (ba f n H5) C->([.ref l,.ref p2]:List V)[j]? = some v->R v C->jQ (oP (kx w)) (hV 5) (tC (.int j)) [some (.ref t),some (.str (jx m)),some (.ref x),some (.ref f),some (.ref n),some (.ref p),x6,x7,x8] C R:=λ s' hj h=>⟨_,rfl,.inr (.inl ⟨p,_,_,_,rfl,rfl,aH.of (s' _ _ ep),bG hj,h⟩)⟩
   refine kr ?_;refine ⟨_,rfl,x,dx,fs,rfl,s5 _ _ e1,bf.nm _ (by simp),b2 (j:=1) aR rfl ⟨x,p2,m,rs,ts,ps,u,rfl,bo.same s5,by lia,pz.tups (.of aR),λ b6 H6 W e4=>⟨_,rfl,?_⟩⟩⟩;have a7:af (ba f n H5) H6:=aR.trans W;refine gm (λ hb=>?_) λ hb=>?_
   ·exact b2 (j:=0) a7 rfl (q l xs o u _ (s1.trans (s5.trans W)) (a7 _ _ el) (bI (λ _ _ z=>z.same a7) ax) wk (e4.mp hb))
   have nf:¬ eu rs u:=λ z=>hb (e4.mpr z);refine Bp (dh ?_);have f2:=bo.same (s5.trans W);have f4:=bI (λ _ _ z=>dq.tt (.of (s5.trans W)) z) d3;refine ⟨_,rfl,x,dx,fs,rfl,(s5.trans W) _ _ e1,bf.nm _ (by simp),b2 (j:=1) a7 rfl ⟨x,p2,m,_,rs,ts,ps,u,rfl,f2,f4,ok,pz.tups (.of a7),X,by lia,λ l7 y7 H7 s7 b4 e3 c6=>⟨l7,y7,rfl,e3,?_⟩⟩⟩;have c5:=W.trans s7;have d6:=c5 _ _ d1;have e0:=c5 _ _ d2;have b8:af (ba f n H5) (ba f n H7):=xi c5;have f7:l7≠f:=λ z=>by rw [z,W _ _ d1] at b4;cases b4
   have g6:l7≠n:=λ z=>by rw [z,W _ _ d2] at b4;cases b4
   have f3:=Pi (bI (λ _ _ z=>fe.tups (FR d6 e0) z) c6);have nx:=Cq d3 ok X (by lia) (m:=m);have i8:=DU (m:=m) (ts:=ts) (ps:=ps) X.nd X.lt;have h2:y7.length<=rs.length - u.1.length:=by rw [cH c6];lia
   have c4:gI (rs.length - u.1.length - 1)<=27399:=kC (by lia);have f9:fJ rs.length ((ws++[(o,u)]).map (·.2))=fJ rs.length (ws.map (·.2)) + gI (rs.length - u.1.length):=by rw [u1,wh];congr 1
   refine JU (a:=l7) (xs:=y7) (λ j σ C=>∃ks' zs' ws' jj,jj<=j/\af (ba f n H7) (ba f n C)/\C f=some (cb f ks')/\C n=some (.lst zs')/\dX (kx w) (ba f n C) (λ a=>a∈u :: vis\/a∈ws'.map (·.2)) ks'/\av (jZ (kx w) (ba f n C)) ws' zs'/\(∀q∈ws',nR m ts rs ps q)/\(∀d∈ks.map (·.1),d∈ks'.map (·.1))/\(∀s∈(gJ m ts rs ps u).reverse.take j,dm s.2.2∈ks'.map (·.1))/\(([],ts.map λ t=>aT t.2)∈u :: vis\/([],ts.map λ t=>aT t.2)∈ws'.map (·.2))/\ks'.length<=ks.length + jj/\fJ rs.length (ws'.map (·.2))=fJ rs.length (ws.map (·.2)) + jj * gI (rs.length - u.1.length - 1)/\∃x6 x7 x8,σ=[some (.ref t),some (.str (jx m)),some (.ref x),some (.ref f),some (.ref n),some (.ref p),x6,x7,x8])
    ⟨ks,zs,ws,0,u0 _,af.refl _,d6,e0,(ki.same b8).mono λ a h=>mm h,bI (λ _ _ z=>z.same b8) aw,Z,λ _ h=>h,λ _ h=>ZV h (by rw [V7];exact t0),mm fv,u0 _,by rw [Nat.zero_mul];rfl,_,_,_,rfl⟩ (λ j σ C h=>?_) ?_ ?_
   ·obtain ⟨_,_,_,_,_,h,_⟩:=h;exact aR _ _ (h _ _ (nz f7 g6 e3))
   ·rintro j y σ Y hy ⟨ks',zs',ws',jj,lj,s8,es8,ew8,ki8,aw8,po8,ko8,pr8,fv8,kl8,wk8,x6,x7,x8,rfl⟩;have jl:j < y7.length:=by have:=(List.getElem?_eq_some_iff.mp hy).1;rwa [List.length_reverse] at this
    obtain ⟨B,e5,b9,I,rfl,h6,h4⟩:=fF f3 hy;have d5:B∈gJ m ts rs ps u:=List.mem_reverse.mp (K0 e5);have c3:=nx B d5;have tk :∀s∈(gJ m ts rs ps u).reverse.take (j + 1),s∈(gJ m ts rs ps u).reverse.take j\/s=B:=λ s J=>by
     rw [z8,e5] at J;rcases List.mem_append.mp J with z|z
     ·exact .inl z
     ·exact .inr (List.mem_singleton.mp z)
    have i4:af (ba f n H7) Y:=s8.trans aR;have b3:=h4.tups (.of s8);have j1:jj * gI (rs.length - u.1.length - 1)<=7 * 27399:=j01 (by lia) c4;have zl:zs'.length < 1000000:=by
     have h1:=yv (N:=rs.length) (ws'.map (·.2));rw [C0] at h1;rw [cH aw8]
     lia
    refine ⟨b9,_,rfl,i4.seqT h6,rfl,_,_,rfl,_,_,rfl,_,_,rfl,rfl,?_⟩;have d7:=(ki8.same aR).at_ (.inl es8);have d4:=gQ (b3.tups (.of aR));refine ⟨_,rfl,_,rfl,f,I,ks',dm B.2.2,rfl,rfl,d7,fR _,fW _,d4,_,rfl,?_⟩;refine gm (λ _=>?_) λ f5=>⟨ks',zs',ws',jj,by lia,s8,es8,ew8,ki8,aw8,po8,ko8,λ s J=>?_,fv8,kl8,wk8,_,_,_,rfl⟩
    rotate_left
    ·rcases tk s J with z|z
     ·exact pr8 s z
     ·rw [z];by_cases O:dm B.2.2∈ks'.map (·.1)
      ·exact O
      ·exact ZV (by rw [ZX O];rfl) f5
    refine ⟨_,rfl,_,rfl,f,I,ks',dm B.2.2,rfl,rfl,rfl,es8,d7,T1 kl8 (J1 (m:=1000000) (by lia) (by decide)),fR _,fW _,d4,dh ?_⟩;have h9:ba f n (upd Y f (cb f (putN ks' (dm B.2.2) I)))=ba f n Y:=mK;have b0:upd Y f (cb f (putN ks' (dm B.2.2) I)) f=some (cb f (putN ks' (dm B.2.2) I)):=ab;have a3:upd Y f (cb f (putN ks' (dm B.2.2) I)) n=some (.lst zs'):=by rw [ak c7.symm];exact ew8
    generalize upd Y f (cb f (putN ks' (dm B.2.2) I))=H9 at h9 b0 a3⊢;rw [<-h9] at s8 ki8 aw8 b3;have e9:af (ba f n H5) (ba f n H9):=b8.trans s8;have d9:af (ba f n H5) H9:=e9.trans aR;have f0:=d9 _ _ el;refine ⟨_,rfl,.inl ⟨rfl,_,aK.of a3⟩,b2 (j:=0) d9 rfl ?_⟩;refine ⟨_,rfl,_,rfl,cZ,λ S a6=>?_⟩;obtain ⟨Ha,va,g8,ea⟩:=gF (.tup [.int (B.1:Nat),B.2.1]) a6;rw [<-va];refine ⟨lC,λ f6 i2=>?_⟩;obtain ⟨d0,vb,e6,h3⟩:=gF (.lst [.ref S]) i2;rw [<-vb];have a0:=g8.trans e6;have xl:xs.length<=7:=by rw [cH ax,ol];have:=sR _ _ X.nd X.lt;lia
    refine .inr (.inr (.inl ⟨l,f6,xs,[.ref S],rfl,rfl,a0 _ _ f0,h3,D0 (m:=100) (by show xs.length + 1<=100;lia) (by decide),λ L a5=>⟨_,rfl,cZ,λ a4 a8=>?_⟩⟩));have b1:=af.upd (o:=.lst (xs++[.ref S])) a5;have c8:=af.upd (o:=.tup [.ref L,.ref I]) a8;have e7:=c8 _ _ (ab (H:=d0) (a:=L) (o:=.lst (xs++[.ref S])));have e8:=ab (H:=upd d0 L (.lst (xs++[.ref S]))) (a:=a4) (o:=.tup [.ref L,.ref I]);have i6:S≠f:=λ z=>by rw [z,b0] at a6;cases a6
    have h0:S≠n:=λ z=>by rw [z,a3] at a6;cases a6
    have g4:L≠f:=λ z=>by rw [z,a0 _ _ b0] at a5;cases a5
    have g7:L≠n:=λ z=>by rw [z,a0 _ _ a3] at a5;cases a5
    have i3:a4≠f:=λ z=>by rw [z,b1 _ _ (a0 _ _ b0)] at a8;cases a8
    have i5:a4≠n:=λ z=>by rw [z,b1 _ _ (a0 _ _ a3)] at a8;cases a8
    have d8:=c8 _ _ (b1 _ _ (e6 _ _ ea));have b5:=(a0.trans b1).trans c8;generalize upd (upd d0 L (.lst (xs++[.ref S]))) a4 (.tup [.ref L,.ref I])=H13 at d8 e7 e8 b5⊢;have O:=xi (a:=f) (b:=n) b5;refine ⟨n,zs',_,rfl,rfl,b5 _ _ a3,J1 zl (by decide),?_⟩;refine ⟨putN ks' (dm B.2.2) I,zs'++[.ref a4],ws'++[(o++[(B.1,B.2.1)],B.2.2)],jj + 1,by lia,?_,by rw [ak c7];exact b5 _ _ b0,ab,?_,?_,λ q' hp=>?_,λ d hd=>xK (ko8 d hd),λ s J=>?_,?_,D0 wA (by lia),?_,_,_,_,rfl⟩
    ·rw [fw];exact s8.trans O
    ·rw [fw];refine ((ki8.same O).mono λ a h=>h.imp id λ z=>?_).put (b3.tups (.of O)) (.inr ?_)
     ·rw [u1];exact List.mem_append.mpr (.inr (List.mem_singleton.mpr rfl))
     ·rw [u1];exact List.mem_append.mpr (.inl z)
    ·rw [fw];exact lJ (bI (λ _ _ z=>z.same O) aw8) ⟨a4,L,I,_,rfl,nz i3 i5 e8,nz g4 g7 e7,lJ (bI (λ _ _ z=>z.same (e9.trans O)) ax) ⟨S,rfl,nz i6 h0 d8⟩,b3.tups (.of O)⟩
    ·rcases List.mem_append.mp hp with z|z
     ·exact po8 q' z
     ·rw [List.mem_singleton.mp z];exact ⟨c3.1,.snoc wk d5,by show (o++[(B.1,B.2.1)]).length=B.2.2.1.length;rw [G0,c3.2];show o.length + 1=_;rw [ol]⟩
    ·rcases tk s J with z|z
     ·exact xK (pr8 s z)
     ·rw [z];exact GA
    ·exact fv8.imp id λ z=>by rw [u1];exact List.mem_append.mpr (.inl z)
    ·rw [u1,wh,wk8,Nat.succ_mul];have:fJ rs.length ([(o++[(B.1,B.2.1)],B.2.2)].map (·.2))=gI (rs.length - u.1.length - 1):=by show fJ rs.length [B.2.2]=_;rw [tF,c3.2,show rs.length - (u.1.length + 1)=rs.length - u.1.length - 1 by lia]
     lia
   ·rintro σ Y ⟨ks',zs',ws',jj,lj,s8,es8,ew8,ki8,aw8,po8,ko8,pr8,fv8,kl8,wk8,x6,x7,x8,rfl⟩;have B:=Hj (D0 lj h2);rw [show y7.length=(gJ m ts rs ps u).reverse.length by rw [List.length_reverse,cH c6],Y6] at pr8;refine ⟨fJ rs.length (ws'.map (·.2)),by rw [f9,wk8];lia,ks',zs',ws',u :: vis,_,_,_,_,rfl,(s4.trans b8).trans s8,es8,ew8,ki8,aw8,po8,⟨λ a ha=>?_⟩,fv8,by rw [wk8];lia,rfl⟩;rcases List.mem_cons.mp ha with z|z
    ·rw [z];exact ⟨nf,λ s J=>pr8 s (List.mem_reverse.mpr J)⟩
    ·exact ⟨(lk.c a z).1,λ s J=>ko8 _ ((lk.c a z).2 s J)⟩
  ·rintro k σ H4 ⟨ks,zs,ws,vis,x5,x6,x7,x8,rfl,s4,es4,ew4,ki,aw,Z,lk,fv,kw,rfl⟩ body;refine ⟨_,rfl,.inl ⟨n,zs,rfl,.inl (aK.of ew4),_,_,rfl,rfl,_,rfl,?_⟩⟩;refine gm (λ h=>?_) λ h=>?_
   ·have h:(0:Int) < (zs.length:Int):=ZW h;have hz:zs≠[]:=λ z=>by rw [z] at h;exact ZV h (by decide)
    have ez:=(B4 hz).symm;rw [ez] at aw ew4;obtain ⟨wr,D,rfl,F,a2⟩:=FF aw;exact body _ ⟨ks,_,_,wr,D,vis,x5,x6,x7,x8,rfl,s4,es4,ew4,ki,F,a2,Z,lk,fv,kw,rfl⟩
   ·have zn:zs=[]:=by
     cases zs with
     | nil=>rfl
     | cons z r=>exact ZV (ZY (show (0:Int) < ((z :: r).length:Int) by rw [P0];lia)) h
    subst zn;cases aw;refine qn _ (s1.trans (s4.trans aR)) λ o u wk=>(lk.c u ?_).1;refine yS (G:=λ u=>u∈vis) (fv.resolve_right t0) (λ u hp s J=>?_) wk;obtain ⟨k,hk,e⟩:=List.mem_map.mp ((lk.c u hp).2 s J);obtain ⟨i7,e',_,g⟩:=ki k hk;rw [AI (e.symm.trans e')];exact g.resolve_right t0
def kA {t u:TT} {Q:Bool->Hp->Prop} (h:t σ H λ c H1=>if c=true then u σ H1 Q else Q false H1):vL t u σ H Q:=h
def RC (K:b0) (H:Hp) (t:ZS) (es:List Ev):Prop:=∃ts,gf K H t ts es/\es.length<=63/\gA [] es
def dF (H:Hp) (r:Rc) (y:V):Prop:=∃p,y=.ref p/\H p=some (.lst [.int r.h,r.n,r.v,r.x,r.a,.int r.b,cX r.e])
def dF.same {r:Rc} (s:af H H') (h:dF H r y):dF H' r y:=h.elim λ p z=>⟨p,z.1,s _ _ z.2⟩
def dF.wrote {r:Rc} (n:y≠.ref l) (h:dF H r y):dF (upd H l o) r y:=h.elim λ p z=>⟨p,z.1,by rw [ak (λ e=>n (by rw [z.1,e]))];exact z.2⟩
def BA (K:b0):Sp:=λ vs H Q _=>∃(t:ZS) (es:List Ev),vs=[.ref t]/\RC K H t es/\∀l zs H',af H H'->H' l=some (.lst zs)->av (dF H') (aI 0 [] es) zs->Q (.ref l) H'
theorem PY (T:TX (kx w) mg):Fo P w mg base CX0 1 419 yF ["tale"] (BA (kx w)):=by
 refine (AZ w.params).ok cf (λ vs H Q E h=>?_) (λ d2 A d3 s H vs Q E hr h=>?_)
 ·obtain ⟨t,C,rfl,_⟩:=h;rfl
 ·obtain ⟨t,C,rfl,⟨ts,⟨pt,U,J,et,th,c2,al⟩,d4,c9⟩,q⟩:=h;have st:aH (kx w) H t [.ref pt,.ref U]:=aH.of et;have se:aH (kx w) H U J:=aH.of c2;have hl:C.length<=100:=by lia
  obtain ⟨wf,_⟩:=cu.all cu.nil c9;refine ⟨_,(aV (aA (i:=1) cf.nd rfl (Y0 rfl) (aY ae))
   (aV (aA (i:=2) cf.nd rfl (Y0 rfl) yq)
   (aV (bO U1 rfl (sZ rfl (T.no (tE _)) (ao (fD jG rfl (T.no (dE _)) S4 (ao (aq aj (pv 0) ag (λ _ _=>rfl)) ae)) ae)) (eY (i:=3) cf.nd rfl (Y0 rfl))
   (aV (aA (i:=4) cf.nd rfl (Y0 rfl) (aq aj (aq aj (pv 0) ag (λ _ _=>rfl)) (pv 3) (λ _ _=>rfl)))
   (aU (aN (cI bP (aq aj (pv 4) ag (λ _ _=>rfl)) az (aC _))
   (aV (xf (cQ hr) (pv 2) (aq aj (pv 4) ag (λ _ _=>rfl)) (fD jG rfl (T.no (dE _)) S4 (ao (pv 1) ae)) rfl)
   (aU (lr (nC (pv 1) (ao (aY (ao (aq aj (pv 4) ag (λ _ _=>rfl)) (ao (aq aj (pv 4) ag (λ _ _=>rfl)) (ao (aq aj (pv 4) ag (λ _ _=>rfl)) (ao (aq aj (pv 4) ag (λ _ _=>rfl)) (ao bx (ao (pv 3) (ao bx ae)))))))) ae)))))
   (aV (eG (aq aj (pv 4) ag (λ _ _=>rfl)) (gu (aq aj (pv 1) (qC (cQ hr) (pv 2) (aq aj (pv 4) ag (λ _ _=>rfl)) (λ _ _=>rfl)) (λ _ _=>rfl)) ag sP))
   (aU (eG (pv 3) (gu (aq aj (pv 1) (qC (cQ hr) (pv 2) (aq aj (pv 4) ag (λ _ _=>rfl)) (λ _ _=>rfl)) (λ _ _=>rfl)) ag sP))))))))
   (aU (au (pv 1)))))),?_⟩
  refine ⟨jk,λ l b9=>?_⟩;intro d a6;have a3:l≠d:=fM ab a6;have d0:H d=none:=by rwa [ak a3.symm] at a6
  have s2:af H (upd (upd H l (.lst [])) d (.dK [])):=(af.upd b9).trans (af.upd a6);have O:upd (upd H l (.lst [])) d (.dK []) l=some (.lst []):=by rw [ak a3];exact ab
  have I:upd (upd H l (.lst [])) d (.dK []) d=some (.dK []):=ab;generalize upd (upd H l (.lst [])) d (.dK [])=H2 at s2 O I⊢;have c3:=cH al;have d5:100<=ZF:=by decide
  refine ⟨_,rfl,.inr (.inl ⟨t,_,1,.ref U,rfl,rfl,s2.seqT st,bG (j:=1) rfl,.inl ⟨U,J,rfl,.inr (s2.seqT se),J.length,rfl,by lia,by lia,?_⟩⟩)⟩;refine ub (lo:=0) (n:=J.length) (λ i σ H'=>∃c g B,H' l=some (.lst g)/\av (dF H') c g/\g.Nodup/\(∀p,V.ref p∈g->p≠l/\H p=none)/\H' d=some (.dK B)/\B.length<=i/\c.length<=i/\(∀h,bJ B (.inl h)=(bD h (c.map Rc.h)).map λ j=>V.int (j:Nat))/\aI i c (C.drop i)=aI 0 [] C/\oZ i c (C.drop i)/\af H H'/\∃x3 x4,σ=[some (.ref t),some (.ref l),some (.ref d),x3,x4])
   ⟨[],[],[],O,.nil,.nil,λ _ z=>ZV z t0,I,u0 _,u0 _,λ h=>rfl,by rw [N6],by rw [N6];exact wf,s2,_,_,rfl⟩ ?_ ?_
  ·intro i σ D hi z0;refine me λ _ W=>?_;obtain ⟨c,g,B,a2,Y,nd,a4,S,hk,d1,hv,G,dw,s4,x3,x4,rfl⟩:=z0;refine W ?_;clear W;rw [D9];have c0:i < C.length:=by lia
   have hy:J[i]? = some J[i]:=B0 hi;obtain ⟨e,he,ev⟩:=fF al hy;obtain ⟨_,ee⟩:=List.getElem?_eq_some_iff.mp he;have dr:C.drop i=e :: C.drop (i + 1):=by rw [U3 c0,ee]
   rw [dr] at G dw;have a7:=fm.tups (.of s4) ev;have d6:i < 100:=J1 c0 hl;have lz:g.length=c.length:=cH Y;refine aF ?_;refine ⟨_,rfl,.inr (.inl ⟨t,_,1,.ref U,rfl,rfl,s4.seqT st,bG (j:=1) rfl,_,rfl,.inr (.inl ⟨U,J,i,J[i],rfl,rfl,s4.seqT se,bG hy,?_⟩)⟩)⟩;generalize J[i]=y at a7⊢;cases e with
   | beg h n v x=>
    obtain ⟨F,rfl,K⟩:=a7;refine ⟨_,rfl,.inr (.inl ⟨F,_,0,.str "begin",rfl,rfl,K,bG (j:=0) rfl,rfl,_,rfl,bw (ZY rfl) ?_⟩)⟩;refine ⟨_,rfl,.inl ⟨l,g,rfl,.inl (aK.of a2),⟨_,rfl,⟨_,rfl,.inr (.inl ⟨F,_,1,.int h,rfl,rfl,K,bG (j:=1) rfl,d,_,rfl,hZ.k (k:=.inl h) S (T1 (m:=100) (by lia) (by decide)),?_⟩)⟩⟩⟩⟩;have X:bA (kx w) D (upd D d (.dK (putK B (.inl h) (.int (g.length:Nat))))):=bA.dict S;have s5:=af.keep (o:=.dK (putK B (.inl h) (.int (g.length:Nat)))) s4 d0;have L:upd D d (.dK (putK B (.inl h) (.int (g.length:Nat)))) l=some (.lst g):=by rw [ak a3];exact a2
    have a0:upd D d (.dK (putK B (.inl h) (.int (g.length:Nat)))) d=some (.dK (putK B (.inl h) (.int (g.length:Nat)))):=ab;have a8:av (dF (upd D d (.dK (putK B (.inl h) (.int (g.length:Nat)))))) c g:=bI (λ a b z=>z.wrote (λ e=>by obtain ⟨p,O,I⟩:=z;rw [O] at e;cases e;rw [S] at I;cases I)) Y;generalize upd D d (.dK (putK B (.inl h) (.int (g.length:Nat))))=H5 at X s5 L a0 a8⊢;have N:=X _ _ K;refine ⟨_,rfl,.inl ⟨rfl,g,aK.of L⟩,?_⟩;refine ⟨_,rfl,.inr (.inl ⟨F,_,1,.int h,rfl,rfl,N,bG (j:=1) rfl,_,rfl,.inr (.inl ⟨F,_,2,n,rfl,rfl,N,bG (j:=2) rfl,_,rfl,.inr (.inl ⟨F,_,3,v,rfl,rfl,N,bG (j:=3) rfl,_,rfl,.inr (.inl ⟨F,_,4,x,rfl,rfl,N,bG (j:=4) rfl,_,rfl,xw,λ M Z=>?_⟩)⟩)⟩)⟩)⟩;have s6:=af.upd (o:=.lst [.int h,n,v,x,.non,.int (i:Nat),.non]) Z;have e6:upd H5 M (.lst [.int h,n,v,x,.non,.int (i:Nat),.non]) M=some (.lst [.int h,n,v,x,.non,.int (i:Nat),.non]):=ab;have fr :∀z∈g,z≠.ref M:=λ z hz e=>by obtain ⟨m,hm⟩:=List.mem_iff_getElem?.mp hz;obtain ⟨_,_,p,O,I⟩:=fF a8 hm;rw [O] at e;cases e;rw [Z] at I;cases I
    have b0:M≠l:=λ z=>by rw [z,L] at Z;cases Z
    generalize upd H5 M (.lst [.int h,n,v,x,.non,.int (i:Nat),.non])=H6 at s6 e6⊢;have c8:=s6 _ _ L;have c7:=s6 _ _ a0;have c4:=bI (λ a b z=>dF.same s6 z) a8;refine ⟨l,g,_,rfl,rfl,c8,T1 (m:=100) (by lia) (by decide),?_⟩;refine ⟨c++[⟨h,n,v,x,.non,i,none⟩],g++[.ref M],putK B (.inl h) (.int (g.length:Nat)),ab,?_,?_,?_,?_,?_,?_,?_,(show aI (i + 1) (aE i c (.beg h n v x)) _=_ from G),dw.2,af.keep (s5.trans s6) b9,_,_,rfl⟩
    ·refine lJ ?_ ⟨M,rfl,by rw [ak b0];exact e6⟩;refine Dq (λ a b hb z=>dF.wrote (λ e=>(a4 l (e ▸ hb)).1 rfl) z) c4
    ·rw [K5];refine ⟨nd,by simp,λ a ha b hb=>?_⟩;rw [List.mem_singleton.mp hb];exact fr a ha
    ·intro p hz;rcases List.mem_append.mp hz with y|y
     ·exact a4 p y
     ·have e:=List.mem_singleton.mp y;cases e;exact ⟨b0,s5.free Z⟩
    ·rw [ak a3.symm];exact c7
    ·exact D0 GK (by lia)
    ·rw [G0];show c.length + 1<=i + 1;lia
    ·intro k;rw [rX,u1];show _=j07 _ (bD k (c.map Rc.h++[h]));rw [tJ,C0,lz];by_cases z:h=k
     ·rw [ZZ z,ZZ (by rw [z])];rfl
     ·rw [Z_ z,Z_ (λ y=>z (o9 y).symm)];exact hv k
   | fin h a=>
    obtain ⟨F,rfl,K⟩:=a7;obtain ⟨j,hj⟩:=Option.isSome_iff_exists.mp (dw.1 h a rfl);have c5:bJ B (.inl h)=some (.int (j:Nat)):=by rw [hv h,hj];rfl
    have c6:j < c.length:=by have:=pM hj;rwa [C0] at this
    have b3:c[j]? = some c[j]:=B0 c6;obtain ⟨yj,R,u,rfl,ej⟩:=ik Y b3;have b1 :∀{H5:Hp},H5 d=some (.dK B)->d_ H5 d (.int h) (some (.int (j:Nat))):=λ e5=>c5 ▸ d_.k (k:=.inl h) e5;refine ⟨_,rfl,.inr (.inl ⟨F,_,0,.str "end",rfl,rfl,K,bG (j:=0) rfl,rfl,_,rfl,bE ?_⟩)⟩;obtain ⟨b5,c1⟩:=a4 u (K0 R);have b4:u≠d:=λ z=>by rw [z,S] at ej;cases ej
    refine ⟨_,rfl,.inr (.inl ⟨F,_,2,a,rfl,rfl,K,bG (j:=2) rfl,?_⟩)⟩;refine ⟨_,rfl,_,rfl,_,rfl,.inr (.inl ⟨F,_,1,.int h,rfl,rfl,K,bG (j:=1) rfl,d,_,rfl,b1 S,.inl ⟨l,g,j,.ref u,rfl,rfl,aK.of a2,bG R,u,_,4,4,rfl,rfl,ej,rfl,?_⟩⟩)⟩;rw [show [V.int c[j].h,c[j].n,c[j].v,c[j].x,c[j].a,.int c[j].b,cX c[j].e].set 4 a=[.int c[j].h,c[j].n,c[j].v,c[j].x,a,.int c[j].b,cX c[j].e] from rfl];have k5:aL [u] D (upd D u (.lst [.int c[j].h,c[j].n,c[j].v,c[j].x,a,.int c[j].b,cX c[j].e])):=aL.set (by simp);have X:bA (kx w) D (upd D u (.lst [.int c[j].h,c[j].n,c[j].v,c[j].x,a,.int c[j].b,cX c[j].e])):=bA.lst ej;have b2:upd D u (.lst [.int c[j].h,c[j].n,c[j].v,c[j].x,a,.int c[j].b,cX c[j].e]) u=some (.lst [.int c[j].h,c[j].n,c[j].v,c[j].x,a,.int c[j].b,cX c[j].e]):=ab;generalize upd D u (.lst [.int c[j].h,c[j].n,c[j].v,c[j].x,a,.int c[j].b,cX c[j].e])=H5 at k5 X b2⊢;have L:=k5 _ _ (show l∉[u] by simp [b5.symm]) a2;have a0:=k5 _ _ (show d∉[u] by simp [b4.symm]) S;have N:=X _ _ K;refine ⟨_,rfl,?_⟩;refine ⟨_,rfl,_,rfl,_,rfl,.inr (.inl ⟨F,_,1,.int h,rfl,rfl,N,bG (j:=1) rfl,d,_,rfl,b1 a0,.inl ⟨l,g,j,.ref u,rfl,rfl,aK.of L,bG R,u,_,6,6,rfl,rfl,b2,rfl,?_⟩⟩)⟩;rw [show [V.int c[j].h,c[j].n,c[j].v,c[j].x,a,.int c[j].b,cX c[j].e].set 6 (.int (i:Nat))=[.int c[j].h,c[j].n,c[j].v,c[j].x,a,.int c[j].b,.int (i:Nat)] from rfl];have hd:aE i c (.fin h a)=c.modify j (λ r=>{ r with a:=a,e:=some i }):=by unfold aE;dsimp only;rw [hj]
    have G:aI (i + 1) (aE i c (.fin h a)) (C.drop (i + 1))=_:=G;have b6:oZ (i + 1) (aE i c (.fin h a)) (C.drop (i + 1)):=dw.2;rw [hd] at G b6;have k7:aL [u] H5 (upd H5 u (.lst [.int c[j].h,c[j].n,c[j].v,c[j].x,a,.int c[j].b,.int (i:Nat)])):=aL.set (by simp);have j7:upd H5 u (.lst [.int c[j].h,c[j].n,c[j].v,c[j].x,a,.int c[j].b,.int (i:Nat)]) u=some (.lst [.int c[j].h,c[j].n,c[j].v,c[j].x,a,.int c[j].b,.int (i:Nat)]):=ab;generalize upd H5 u (.lst [.int c[j].h,c[j].n,c[j].v,c[j].x,a,.int c[j].b,.int (i:Nat)])=H7 at k7 j7⊢;have b8:=k5.trans k7;refine ⟨c.modify j (λ r=>{ r with a:=a,e:=some i }),g,B,k7 _ _ (by simp [b5.symm]) L,?_,nd,a4,k7 _ _ (by simp [b4.symm]) a0,by lia,by rw [n5];lia,?_,G,b6,?_,_,_,rfl⟩
    ·refine vv (by rw [n5];exact cH Y) λ k r y hk a1=>?_;rw [W2] at hk;obtain ⟨r',a9,a5⟩:=Option.map_eq_some_iff.mp hk;obtain ⟨y2,b7,p2,rfl,I⟩:=ik Y a9;rw [a1] at b7;cases b7;by_cases z:j=k
     ·subst z;rw [R] at a1;cases a1;rw [ZZ rfl] at a5;rw [b3] at a9;cases a9;subst a5;exact ⟨u,rfl,j7⟩
     ·rw [Z_ z] at a5;subst a5;refine ⟨p2,rfl,b8 _ _ (λ e=>z ?_) I⟩;have e:=List.mem_singleton.mp e;subst e;have h1:j < g.length:=(List.getElem?_eq_some_iff.mp R).1;exact (B8 h1 nd).mp (R.trans a1.symm)
    ·intro k;rw [xR (f:=λ r=>{ r with a:=a,e:=some i }) (λ r=>rfl)];exact hv k
    ·intro b o e;exact b8 b o (λ z=>by rw [List.mem_singleton.mp z,c1] at e;cases e) (s4 b o e)
  ·intro σ H3 z0;refine me λ _ W=>?_;obtain ⟨c,g,B,el,ar,_,_,_,_,_,_,G,_,s3,x3,x4,rfl⟩:=z0;refine W ?_;clear W;have:C.drop J.length=[]:=by rw [c3];exact List.drop_length
   rw [this] at G;have G:c=aI 0 [] C:=G;rw [<-G] at q;exact ⟨_,rfl,q l g H3 s3 el ar⟩
def Ee:Sp:=λ vs H Q _=>∃(y z:V) (r q:Rc),vs=[.str "strict",y,z]/\dF H r y/\dF H q z/\Q (.bl (lu r.e q.b)) H
def KO (T:TX (kx w) mg):Fo P w mg base CX0 1 426 Al ["strictness","one","other"] Ee:=by
 refine (zU w.params).ok MF (λ g H Q E h=>?_) (λ l A i s H g Q E k h=>?_)
 ·obtain ⟨y,z,r,q,rfl,_⟩:=h;rfl
 ·obtain ⟨y,z,r,q,rfl,⟨a,rfl,c⟩,⟨f,rfl,d⟩,h⟩:=h;refine ⟨_,(aV (aN (cI bP (pv 0) az (aC _))
   (aU (au (dv (gU oE (aq aj (pv 1) ag (λ _ _=>rfl)) bx (aC _)) (dP (gU ij (aq aj (pv 1) ag (λ _ _=>rfl)) (aq aj (pv 2) ag (λ _ _=>rfl)) (aC _))))))
   dG)
   (aU (au (dv (gU bP (pv 0) az (aC _)) (dv (gU bP (aq aj (pv 1) ag (λ _ _=>rfl)) (aq aj (pv 2) ag (λ _ _=>rfl)) (aC _)) (dP (gU ij (aq aj (pv 1) ag (λ _ _=>rfl)) (aq aj (pv 2) ag (λ _ _=>rfl)) (aC _)))))))),?_⟩
  refine ⟨_,rfl,rfl,_,rfl,bw (ZY rfl) ?_⟩;refine ⟨_,rfl,.inl ⟨a,_,6,cX r.e,rfl,rfl,aK.of c,bG (j:=6) rfl,rfl,_,rfl,?_⟩⟩;cases re:r.e with
  | none=>refine bM (by show ¬ (!decide (V.non=V.non))=true;decide) ?_;rw [re] at h;exact h
  | some b=>refine bw rfl ?_;refine ⟨_,rfl,.inl ⟨a,_,6,.int (b:Nat),rfl,rfl,aK.of c,bG (j:=6) (by rw [re];rfl),?_⟩⟩;refine ⟨_,rfl,.inl ⟨f,_,5,.int (q.b:Nat),rfl,rfl,aK.of d,bG (j:=5) rfl,b,q.b,rfl,rfl,?_⟩⟩;rw [re] at h;exact (show Q (.bl (decide ((b:Int) < (q.b:Int)))) H by rw [dec_lt];exact h)
def tN (rs:List Rc) (ns:List Nat) (n x:Nat):Prop:=(x∈ns->fH 0 rs n x=false)/\(x∉ns->(∃r,rs[x]? = some r/\r.e.isSome=true)->fH 0 rs x n=false)
def vw {rs:List Rc} (lt :∀x∈ns,x < rs.length) (h :∀x,x < rs.length->tN rs ns n x):cM 0 rs ns n = !decide (n∈ns):=by
 unfold cM;rw [ZY (p:=∀a∈B1 rs.length,fH 0 rs a n=true->(∃r,rs[a]? = some r/\r.e.isSome=true)->a∈ns) (λ a g c f=>U5 λ z=>by rw [(h a (List.mem_range.mp g)).2 z f] at c;cases c),ZY (p:=∀b∈ns,fH 0 rs n b=false) (λ b d=>(h b (lt b d)).1 d),Bool.and_true,Bool.and_true];by_cases z:n∈ns
 ·rw [ZY z,ZX (λ h=>h z)];rfl
 ·rw [ZX z,ZY z];rfl
def mW {rs:List Rc} {x:Nat} (hx:x < rs.length) (h:¬ tN rs ns n x):cM 0 rs ns n=false:=by
 cases e:cM 0 rs ns n with
 | false=>rfl
 | true=>
  refine ZV ?_ h;unfold cM at e;simp only [J2,decide_eq_true_iff] at e;refine ⟨λ z=>e.2 x z,λ z a=>?_⟩;cases e2:fH 0 rs x n with
  | false=>rfl
  | true=>exact ZV (e.1.2 x (List.mem_range.mpr hx) e2 a) z
def EW (K:b0):Sp:=λ vs H Q _=>∃(la pa:ZS) (zs:List V) (rs:List Rc) (ns:List Nat) (n:Nat),vs=[.ref la,.str "strict",.ref pa,.int (n:Nat)]/\H la=some (.lst zs)/\av (dF H) rs zs/\rs.length<=63/\aH K H pa (dN ns)/\(∀x∈ns,x < rs.length)/\n < rs.length/\Q (.bl (cM 0 rs ns n)) H
theorem RB (T:TX (kx w) mg) (c0:Ca P w mg base "_law_is_ahead" ["strictness","one","other"] 1 Ee):Fo P w mg base CX0 2 433 Bn ["some","strictness","done","number"] (EW (kx w)):=by
 refine (Bq w.params).ok dB (λ U H Q E h=>?_) (λ a0 A a1 s H U Q E K h=>?_)
 ·obtain ⟨d,c,f,a,g,n,rfl,_⟩:=h;rfl
 ·obtain ⟨d,c,f,a,g,n,rfl,v,B,Z,r,lt,X,q⟩:=h;refine ⟨_,(aV (bO U1 rfl (sZ rfl (T.no (tE _)) (ao (fD jG rfl (T.no (dE _)) S4 (ao (pv 0) ae)) ae)) (eY (i:=4) dB.nd rfl (Y0 rfl))
   (aV (aN (PW.pt (gT (cI oO (pv 4) (pv 2) (by with_unfolding_all rfl)) (xT (cA (aB c0 (K.mono (by decide)) rfl (ao (pv 1) (ao (aq aj (pv 0) (pv 3) (λ _ _=>rfl)) (ao (aq aj (pv 0) (pv 4) (λ _ _=>rfl)) ae)))) (λ _=>rfl)))))
   (aU (au eC))
   dG)
   (aU (aN (PW.pt (gT (cI sJ (pv 4) (pv 2) (by with_unfolding_all rfl)) (gT (cI oE (aq aj (aq aj (pv 0) (pv 4) (λ _ _=>rfl)) ag (λ _ _=>rfl)) bx (aC _)) (xT (cA (aB c0 (K.mono (by decide)) rfl (ao (pv 1) (ao (aq aj (pv 0) (pv 4) (λ _ _=>rfl)) (ao (aq aj (pv 0) (pv 3) (λ _ _=>rfl)) ae)))) (λ _=>rfl))))))
   (aU (au eC))
   dG))))
   (aU (au (gU sJ (pv 3) (pv 2) (by with_unfolding_all rfl))))),?_⟩
  have lz:f.length=a.length:=cH B;have q:=λ b (h:b=cM 0 a g n)=>(show Q (.bl b) H from h ▸ q)
  have t:a[n]? = some a[n]:=B0 X;obtain ⟨o,W,D⟩:=ik B t;generalize a[n]=r0 at t D;refine ⟨_,rfl,.inl ⟨d,f,rfl,.inl (aK.of v),f.length,rfl,by lia,by lia,?_⟩⟩;refine ub (lo:=0) (n:=f.length) (λ i σ N=>N=H/\(∀x,x < i->tN a g n x)/\∃x4,σ=[some (.ref d),some (.str "strict"),some (.ref c),some (.int (n:Nat)),x4]) ⟨rfl,λ x G=>ZV G (L4 _),_,rfl⟩ ?_ ?_
  ·rintro i σ l hi ⟨rfl,fi,x4,rfl⟩;rw [D9];refine aF ?_;have I:i < a.length:=by lia
   have m:a[i]? = some a[i]:=B0 I;obtain ⟨F,S,p⟩:=ik B m;generalize a[i]=r1 at m p;have J :∀{R:VK} {x4:Option V},R o l->jQ (oP (kx w)) (hV 0) (hV 3) [some (.ref d),some (.str "strict"),some (.ref c),some (.int (n:Nat)),x4] l R:=λ h=>⟨_,rfl,_,rfl,.inl ⟨d,f,n,o,rfl,rfl,aK.of v,bG W,h⟩⟩
   have u :∀{R:VK},R F l->jQ (oP (kx w)) (hV 0) (hV 4) [some (.ref d),some (.str "strict"),some (.ref c),some (.int (n:Nat)),some (.int (i:Nat))] l R:=λ h=>⟨_,rfl,_,rfl,.inl ⟨d,f,i,F,rfl,rfl,aK.of v,bG S,h⟩⟩
   have L:fH 0 a n i=lu r0.e r1.b:=pD t m;have y:fH 0 a i n=lu r1.e r0.b:=pD m t;have C:tN a g n i->∀x,x < i + 1->tN a g n x:=λ h x G=>by
    by_cases z:x=i
    ·rw [z];exact h
    ·exact fi x (by lia)
   refine kr (kA ?_);refine ⟨_,rfl,_,rfl,c,_,rfl,.inr r,rfl,nI _,_,rfl,?_⟩;by_cases z:i∈g
   ·refine bw (by rw [cY];exact ZY z) ?_;refine ⟨_,rfl,J (u ⟨o,F,r0,r1,rfl,D,p,_,rfl,?_⟩)⟩;cases h:lu r0.e r1.b with
    | true=>refine cG (q _ (mW I λ k=>?_).symm);have:=k.1 z;rw [L,h] at this;cases this
    | false=>refine cF (dh (vA (kA ?_)));refine ⟨_,rfl,_,rfl,c,_,rfl,.inr r,rfl,nI _,_,rfl,bM (by rw [cY,ZY z];decide) (cF ?_)⟩;exact ⟨rfl,C ⟨λ _=>L.trans h,λ O=>ZV z O⟩,_,rfl⟩
   ·refine bM (λ h=>z (ZW (by rw [cY] at h;exact h))) (cF (dh (vA (kA ?_))));refine ⟨_,rfl,_,rfl,c,_,rfl,.inr r,rfl,nI _,_,rfl,bw (by rw [cY,ZX z];rfl) (kA ?_)⟩;obtain ⟨M,rfl,Y⟩:=id p;refine u (.inl ⟨M,_,6,cX r1.e,rfl,rfl,aK.of Y,bG (j:=6) rfl,rfl,_,rfl,?_⟩);cases he:r1.e with
    | none=>refine bM (by show ¬ (!decide (V.non=V.non))=true;decide) (cF ⟨rfl,C ⟨λ h=>ZV h z,λ _ h=>?_⟩,_,rfl⟩);rw [y,he];rfl
    | some e=>
     refine bw rfl ?_;refine ⟨_,rfl,u (J ⟨_,o,r1,r0,rfl,p,D,_,rfl,?_⟩)⟩;cases h:lu r1.e r0.b with
     | true=>refine cG (q _ (mW I λ k=>?_).symm);have:=k.2 z ⟨r1,m,by rw [he];rfl⟩;rw [y,h] at this;cases this
     | false=>exact cF ⟨rfl,C ⟨λ h=>ZV h z,λ _ _=>y.trans h⟩,_,rfl⟩
  ·rintro σ l ⟨rfl,fi,x4,rfl⟩;refine ⟨_,rfl,_,rfl,c,_,rfl,.inr r,rfl,nI _,q _ ?_⟩;rw [vw lt λ x G=>fi x (by lia),cY];rfl
def Nq {X:Cx} (hK:X.K=K):eA X (V2 .NotIn) (xQ K true):=hK ▸ sJ
def Qo {rs:List Rc} {pl:Pl} {r:Rc} {p:DD} (hr:rs[i]? = some r) (hp:ps[i]? = some p) (h:c i=false\/eQ ts r p i pl=none):dC c ts rs ps pl i=none:=by
 unfold dC;rcases h with h|h
 ·rw [h];rfl
 ·rw [hr,hp];split<;>first|exact h|rfl
def QI {rs:List Rc} {pl:Pl} {r:Rc} {p:DD} (hr:rs[i]? = some r) (hp:ps[i]? = some p) (hc:c i=true) (h:eQ ts r p i pl=some s):dC c ts rs ps pl i=some s:=by unfold dC;rw [ZZ hc,hr,hp];exact h
def AV {A B:TE} (h:A σ H λ x H1=>B σ H1 λ y H2=>(2:Nat)<=ZF/\∀p,H2 p=none->Q (.ref p) (upd H2 p (.tup [x,y]))):kY (dD A (dD B gi)) σ H Q:=h
theorem sk {tp tn:TE} {pa:ZS} (hp :∀R:VK,R (.ref pa) H->tp σ H R) (hn :∀R:VK,R (.int (n:Nat)) H->tn σ H R) (sa:aH K H pa (dN ns)) (l63:ns.length < 63) (q :∀b4 H',af H H'->H' b4=some (.tup (dN (dO (ns++[n]))))->Q (.ref b4) H') :
  nA (λ xs H Q=>∃p ys,xs=[.ref p]/\((aK K H p ys/\∀l,H l=none->Q (.ref l) (upd H l (.tup ys)))\/(aH K H p ys/\Q (.ref p) H))) (dD (nA (λ xs H Q=>∃a ns,xs=[.ref a]/\(aK K H a (ns.map V.int)\/aH K H a (ns.map V.int))/\ns.length < 64/\AH ns H Q) (dD (jQ (kq K) tp (kY (dD tn gi))) gi)) gi) σ H Q:=by
 refine hp _ (hn _ ⟨lC,λ e s=>?_⟩);obtain ⟨v,b,d,i⟩:=eL (.tup [.int (n:Nat)]) s;rw [<-b];refine ⟨pa,e,dN ns,[.int (n:Nat)],rfl,rfl,d.seqT sa,aH.of i,by simp,D0 (m:=100) (by rw [sQ];show _ + 1<=100;lia) (by decide),λ g y r c=>?_⟩;rw [show dN ns++[.int (n:Nat)]=((ns++[n]).map λ (n:Nat)=>(n:Int)).map V.int by unfold dN;rw [v3,u1];rfl] at c;refine ⟨g,_,rfl,.inr c,by rw [C0,G0];show _ + 1 < 64;lia,λ k x o h f=>?_⟩;rw [Ew h f];obtain ⟨w,b,u,t⟩:=eL (.lst (dN (dO (ns++[n])))) o;rw [<-b];exact ⟨k,_,rfl,.inl ⟨aK.of t,λ b4 j=>q b4 _ (((d.trans r).trans u).trans (af.upd j)) ab⟩⟩
def ET (K:b0):Sp:=λ vs H Q _=>∃(l p pa:ZS) (zs:List V) (rs:List Rc) (ns:List Nat) (x:V),vs=[.ref l,.ref p]/\H l=some (.lst zs)/\av (dF H) rs zs/\rs.length<=63/\aH K H p [.ref pa,x]/\aH K H pa (dN ns)/\∀b H',af H H'->(b=true↔∀n r,rs[n]? = some r->r.e.isSome=true->n∈ns)->Q (.bl b) H'
theorem Lo (T:TX (kx w) mg):Fo P w mg base CX0 1 445 yx ["some","place"] (ET (kx w)):=by
 refine (Be w.params).ok OS (λ Z H Q E h=>?_) (λ a1 A a2 s H Z Q E hr h=>?_)
 ·obtain ⟨l,p,C,v,c,ns,x,rfl,_⟩:=h;rfl
 ·obtain ⟨l,p,C,v,c,ns,x,rfl,I,J,rl,X,sa,q⟩:=h;refine ⟨_,(aU (au (gU (Sb hr) (En (xs:=["number"]) (g:=bh 0) (fr:=[(1,"place"),(0,"some")]) rfl (sZ rfl (T.no (tE _)) (ao (fD jG rfl (T.no (dE _)) S4 (ao (pv 0) ae)) ae)) (by intro p o;simp only [K1,t0,or_false] at o;rcases o with rfl|rfl<;>first|exact ⟨rfl,.inl rfl⟩|exact ⟨rfl,.inr rfl⟩) (MJ (ns:=["place","some"]) (by decide +kernel) (by intro n u k;simp only [K1,t0,or_false] at u;rcases u with rfl|rfl<;>first|exact .inl rfl|exact .inr rfl)) (by intro p o;simp only [K1,t0,or_false] at o;rcases o with rfl|rfl<;>exact ⟨by decide +kernel,by first|exact .inl rfl|exact .inr rfl⟩) (by decide +kernel) rfl (by decide +kernel) (λ _ _ _ _ _=>(bK (N:=["number","place","some"]) 0)) (λ _ _ _ _ _=>(eO (PW.pt (gT (cI oE (aq (vT (K:=KX w.params) rfl) (aq (vT (K:=KX w.params) rfl) (pv 2) (pv 0) (λ _ _=>rfl)) ag (λ _ _=>rfl)) bx (aC _)) (xT (cI (Nq (K:=KX w.params) rfl) (pv 0) (aq (vT (K:=KX w.params) rfl) (pv 1) ag (λ _ _=>rfl)) (by with_unfolding_all rfl))))))) (λ _ _ _ _ _=>(pv 0))) (aY ae) (aC _)))),?_⟩;have lz:v.length=c.length:=cH J;refine fZ ?_;refine Jn (S:=af) (n:=v.length) (λ k=>((c[k]?.map λ r=>r.e.isSome).getD false) && !decide (k∈ns)) (λ k y _=>True) (af.refl _) (λ _ _ _ a b=>a.trans b) (λ _ _=>af.refl _) (λ _ _ _ _ _ z=>z) (λ R h=>⟨_,rfl,.inl ⟨l,v,rfl,.inl (aK.of I),h⟩⟩) (D0 (m:=63) (by lia) (by decide)) (λ k F H7 i KT KF t d=>?_) λ U H7 us i Y fa=>?_
  ·have G:k < c.length:=by lia
   obtain ⟨y,hy,L,rfl,ek⟩:=ik J (B0 G);have B:c[k]? = some c[k]:=B0 G;generalize c[k]=r at *;rw [B] at t d;refine ⟨[some (.int (k:Nat))],rfl,rfl,?_⟩;refine ⟨_,rfl,_,rfl,.inl ⟨l,v,k,.ref L,rfl,rfl,aK.of (i _ _ I),bG hy,.inl ⟨L,_,6,cX r.e,rfl,rfl,aK.of (i _ _ ek),bG (j:=6) rfl,rfl,_,rfl,?_⟩⟩⟩;cases re:r.e with
   | none=>refine bM (by show ¬ (!decide (V.non=V.non))=true;decide) (cF (d ?_ _ (af.refl _)));show (r.e.isSome && _)=false;rw [re];rfl
   | some e=>
    refine bw rfl ?_;refine ⟨_,rfl,_,rfl,.inr (.inl ⟨p,_,0,.ref C,rfl,rfl,i.seqT X,bG (j:=0) rfl,C,_,rfl,.inr (i.seqT sa),rfl,nI _,_,rfl,?_⟩)⟩;rw [cY];have t:=λ z=>t (show (r.e.isSome && _)=true from z);have d:=λ z=>d (show (r.e.isSome && _)=false from z);rw [re] at t d;cases hb:decide (k∈ns) with
    | true=>exact cF (d (by rw [hb];rfl) _ (af.refl _))
    | false=>exact cG ⟨_,rfl,t (by rw [hb];rfl) _ _ (af.refl _) trivial⟩
  ·refine ⟨jk,λ l8 O=>?_⟩;refine ⟨U,l8,us,rfl,rfl,aK.of ((af.upd O) _ _ ab),aK.of ab,q _ _ (i.trans ((af.upd Y).trans (af.upd O))) ?_⟩;have D:=cH fa;rw [decide_eq_true_iff];constructor
   ·intro e n r u W;rw [e] at D;have lf:=List.eq_nil_of_length_eq_zero D.symm;have a0:=(List.getElem?_eq_some_iff.mp u).1;have:=List.filter_eq_nil_iff.mp lf n (List.mem_range.mpr (by lia));rw [u] at this;have this:¬ (r.e.isSome && !decide (n∈ns))=true:=this;rw [W,j0g] at this;by_cases z:n∈ns
    ·exact z
    ·exact ZV (by rw [ZX z];rfl) this
   ·intro f;refine List.eq_nil_of_length_eq_zero (D.trans ?_);rw [List.length_eq_zero_iff,List.filter_eq_nil_iff];intro k F z;rw [J2] at z;have F:=List.mem_range.mp F;have B:c[k]? = some c[k]:=B0 (by lia);rw [B] at z;have M:=z.2;rw [ZY (f k _ B z.1)] at M;cases M
def GT (K:b0):Sp:=λ vs H Q _=>∃(t la p pt te:ZS) (zs:List V) (ts:List (ZR×ZR)) (rs:List Rc) (ps:List DD) (di:Nat) (os:List Int) (pl:Pl),vs=[.ref t,.ref la,.str "strict",.ref p]/\H t=some (.tup [.ref pt,.ref te])/\gG H pt ts/\ko ts/\H la=some (.lst zs)/\av (dF H) rs zs/\av (dq K H ts) rs ps/\rs.length<=63/\cu di rs os/\jC K H p pl/\eV ts rs.length pl.1.length pl/\
 ∀l ys H',af H H'->H l=none->H' l=some (.lst ys)->av (fe K H') (gJ 0 ts rs ps pl) ys->Q (.ref l) H'
theorem KN (T:TX (kx w) mg) (c0:Ca P w mg base "_law_may_be_next" ["some","strictness","done","number"] 2 (EW (kx w))) (c1:Ca P w mg base "_law_applied" ["things","states","own"] 2 (zR (kx w))):Fo P w mg base CX0 3 440 BH ["tale","some","strictness","place"] (GT (kx w)):=by
 refine (Ax w.params).ok bB (λ M H Q E h=>?_) (λ d3 A d4 s H M Q E hr h=>?_)
 ·obtain ⟨t,B,p,pt,te,D,ts,l,Y,di,os,pl,rfl,_⟩:=h;rfl
 ·obtain ⟨t,B,p,pt,te,D,ts,l,Y,di,os,⟨u,C⟩,rfl,et,th,ok,W,aa,gd,rl,DI,⟨F,G,M,sp,S,sb,sz⟩,N,q⟩:=h;refine ⟨_,(aV (aA (i:=4) bB.nd rfl (Y0 rfl) (aY ae))
   (aV (eG (pv 3) (bH rfl (eJ (eY (i:=5) bB.nd rfl (Y0 rfl)) (eJ (eY (i:=6) bB.nd rfl (Y0 rfl)) iq))))
   (aV (bO U1 rfl (sZ rfl (T.no (tE _)) (ao (fD jG rfl (T.no (dE _)) S4 (ao (pv 1) ae)) ae)) (eY (i:=7) bB.nd rfl (Y0 rfl))
   (aU (aN (cA (aB c0 (hr.mono (by decide)) rfl (ao (pv 1) (ao (pv 2) (ao (pv 5) (ao (pv 7) ae))))) (λ _=>rfl))
   (aV (aA (i:=8) bB.nd rfl (Y0 rfl) (aY (ao (aq aj (aq aj (pv 1) (pv 7) (λ _ _=>rfl)) ag (λ _ _=>rfl)) (ao (aq aj (aq aj (pv 1) (pv 7) (λ _ _=>rfl)) ag (λ _ _=>rfl)) (ao (aq aj (aq aj (pv 1) (pv 7) (λ _ _=>rfl)) ag (λ _ _=>rfl)) (ao bx ae))))))
   (aV (aA (i:=9) bB.nd rfl (Y0 rfl) (aB c1 (hr.mono (by decide)) rfl (ao (aq aj (pv 0) ag (λ _ _=>rfl)) (ao (pv 6) (ao (pv 8) ae)))))
   (aU (aN (PW.pt (hU (cI gW (aq aj (aq aj (pv 1) (pv 7) (λ _ _=>rfl)) ag (λ _ _=>rfl)) bx (aC _)) (gv (cI bP (aq aj (pv 8) ag (λ _ _=>rfl)) (aq aj (aq aj (pv 1) (pv 7) (λ _ _=>rfl)) ag (λ _ _=>rfl)) (aC _)))))
   (aU (lr (nC (pv 4) (ao (aD (ao (pv 7) (ao (aq aj (pv 8) ag (λ _ _=>rfl)) (ao (aD (ao (kK nh rfl (T.no (lq _)) G4 (ao (fD yo rfl (T.no (sW _)) Y8 (ao (aQ eP (pv 5) (aD (ao (pv 7) ae))) ae)) ae)) (ao (pv 9) ae))) ae)))) ae))))
   dG))))
   dG)))
   (aU (au (pv 4)))))),?_⟩
  have lz:D.length=l.length:=cH aa;have S:aH (kx w) H F (dN u):=S;have sz:av (gX (kx w) H) C M:=sz;have c2 :∀n,cM 0 l u n=cP 0 l u n:=λ n=>uI DI N.lt;refine ⟨jk,λ lt a1=>?_⟩;obtain ⟨H1,v1,s1,e1⟩:=gF (.lst []) a1;rw [<-v1];refine aF (dh ?_);refine ⟨_,rfl,p,_,rfl,s1.seqT sp,rfl,.ref F,_,rfl,.ref G,_,rfl,rfl,dh ?_⟩;refine ⟨_,rfl,.inl ⟨B,D,rfl,.inl (aK.of (s1 _ _ W)),D.length,rfl,by lia,by lia,?_⟩⟩;refine ub (lo:=0) (n:=D.length) (λ i σ f=>∃ys,af H f/\f lt=some (.lst ys)/\av (fe (kx w) f) (eM (cP 0 l u) ts l Y (u,C) i) ys/\∃x7 x8 x9,σ=[some (.ref t),some (.ref B),some (.str "strict"),some (.ref p),some (.ref lt),some (.ref F),some (.ref G),x7,x8,x9]) ⟨[],s1,e1,.nil,_,_,_,rfl⟩ ?_ ?_
  ·rintro j σ H7 hj ⟨ys,s7,e7,al7,x7,x8,x9,rfl⟩;rw [D9];refine aF ?_;have a3:j < l.length:=by lia
   have K:l[j]? = some l[j]:=B0 a3;obtain ⟨y,hy,pk,rfl,X⟩:=ik aa K;obtain ⟨d,a7,a8⟩:=ik gd K;generalize l[j]=r at K X a8;have skip:cP 0 l u j=false\/eQ ts r d j (u,C)=none->∀{y8 y9:Option V} {f:Hp},af H7 f->∃ys,af H f/\f lt=some (.lst ys)/\av (fe (kx w) f) (eM (cP 0 l u) ts l Y (u,C) (j + 1)) ys/\∃x7 x8 x9,[some (.ref t),some (.ref B),some (.str "strict"),some (.ref p),some (.ref lt),some (.ref F),some (.ref G),some (.int (j:Nat)),y8,y9]=[some (.ref t),some (.ref B),some (.str "strict"),some (.ref p),some (.ref lt),some (.ref F),some (.ref G),x7,x8,x9]:=λ h {y8 y9 f} I=>by refine ⟨ys,s7.trans I,I _ _ e7,?_,_,_,_,rfl⟩;rw [uQ,Qo K a7 h,j06,D2];exact bI (λ _ _ z=>fe.tups (.of I) z) al7
   refine vA ⟨_,rfl,_,rfl,_,rfl,_,rfl,B,F,D,l,u,j,rfl,s7 _ _ W,bI (λ _ _ z=>z.same s7) aa,rl,s7.seqT S,N.lt,a3,_,rfl,?_⟩;rw [c2];cases hc:cP 0 l u j with
   | false=>exact cF (skip (.inl hc) (af.refl _))
   | true=>
   refine cG ?_;have c7:=kF hc;obtain ⟨g1,g2,hm,dk,ix,wi,ga⟩:=a8;rw [g1,g2] at X;have J :∀{f:Hp} {R:VK} {x8 x9:Option V} {i:Nat} {v:V},af H f->([.int r.h,.str d.nm,.str d.vb,r.x,r.a,.int r.b,cX r.e]:List V)[i]? = some v->R v f->jQ (oP (kx w)) (jQ (oP (kx w)) (hV 1) (hV 7)) (tC (.int i)) [some (.ref t),some (.ref B),some (.str "strict"),some (.ref p),some (.ref lt),some (.ref F),some (.ref G),some (.int (j:Nat)),x8,x9] f R:=λ I hi h=>⟨_,rfl,_,rfl,.inl ⟨B,D,j,.ref pk,rfl,rfl,aK.of (I _ _ W),bG hy,.inl ⟨pk,_,_,_,rfl,rfl,aK.of (I _ _ X),bG hi,h⟩⟩⟩
   refine J (i:=1) s7 rfl (J (i:=2) s7 rfl (J (i:=3) s7 rfl ⟨tI,λ Z a6=>?_⟩));obtain ⟨H8,v8,q8,e8⟩:=gF (.lst [.str d.nm,.str d.vb,r.x,.non]) a6;rw [<-v8];refine aF (dh ?_);have s8:=s7.trans q8;have O:Tt (kx w) H H8:=.of s8;obtain ⟨b0,d0⟩:=N.n63 rl a3 c7;refine ⟨_,rfl,.inr (.inl ⟨t,_,0,.ref pt,rfl,rfl,aH.of (s8 _ _ et),bG (j:=0) rfl,_,rfl,_,rfl,?_⟩)⟩;refine ⟨pt,G,Z,ts,_,C,d.nm,d.vb,r.x,.non,d.k,d.dt,rfl,th.tt O,ok,⟨M,s8.seqT sb,bI (λ _ _ z=>gX.tups O.t z) sz,N.so⟩,b0,e8,hm,dk,bV.mono' O.t _ _ ix,wi.tt O,λ p9 H9 sv c6 k9 e9 b7 so=>?_⟩;refine aF (dh ?_);have L:af H7 H9:=λ c o e=>k9 c o (λ z=>by rw [List.mem_singleton.mp z,a6] at e;cases e) (q8 c o e);have s9:=s7.trans L;have b2:=iC dk so b0;have st:=jY (ts:=ts) (r:=r) (n:=j) (pl:=(u,C)) c6;refine lZ (λ f=>H9=f/\eQ ts r d j (u,C)=some (qK ts d j (u,C) sv)) ?_ λ put=>?_;rotate_left
   ·refine qB (J (i:=6) s9 rfl ⟨rfl,_,rfl,?_⟩);cases re:r.e with
    | none=>refine bw rfl (cG (put _ ⟨rfl,?_⟩));rw [st,re];rfl
    | some e=>
    refine bM (by simp [cX]) ?_;have rA:nG r.a:=by
     rcases ga with ⟨g,_⟩|⟨_,g⟩
     ·rw [re] at g;cases g
     ·exact g
    refine ⟨_,rfl,.inl ⟨Z,_,3,_,rfl,rfl,aK.of e9,bG (j:=3) rfl,J (i:=4) s9 rfl ⟨nG.scal (.inl b2.2.isA) (.inl rA),_,rfl,?_⟩⟩⟩;by_cases za:(dz d.k d.vb d.dt sv).2=r.a
    ·refine bw (ZY za) (put _ ⟨rfl,?_⟩);rw [st,ZY za,Bool.or_true];rfl
    ·refine bM (λ h=>za (ZW h)) (skip (.inr ?_) L);rw [st,re,ZX za];rfl
   rintro f ⟨rfl,hst⟩;refine ⟨_,rfl,.inl ⟨rfl,_,aK.of (L _ _ e7)⟩,_,rfl,_,rfl,.inl ⟨Z,_,3,_,rfl,rfl,aK.of e9,bG (j:=3) rfl,?_⟩⟩;refine AL (AV (sk (n:=j) (λ R h=>⟨_,rfl,h⟩) (λ R h=>⟨_,rfl,h⟩) (s9.seqT S) d0 λ b4 d6 d1 b9=>⟨_,rfl,cZ,λ b5 c5=>?_⟩));obtain ⟨d5,b3,a9,d2⟩:=gF (.tup [.ref b4,.ref p9]) c5;rw [<-b3];refine ⟨nL,λ b6 c8=>?_⟩;obtain ⟨a4,b8,U,c3⟩:=gF (.tup [.int (j:Nat),(dz d.k d.vb d.dt sv).2,.ref b5]) c8;rw [<-b8];have a0:=(d1.trans a9).trans U;have a2:=L.trans a0;have a5:=a2 _ _ e7;have yl:ys.length<=j:=by rw [cH al7];exact AR
   refine ⟨lt,ys,_,rfl,rfl,a5,T1 (m:=100) (by lia) (by decide),?_⟩;have tu:bA (kx w) a4 (upd a4 lt (.lst (ys++[.ref b6]))):=bA.lst a5;refine ⟨ys++[.ref b6],af.keep (s7.trans a2) a1,ab,?_,_,_,_,rfl⟩;rw [uQ,QI K a7 hc hst];obtain ⟨b1,c4,c9,_⟩:=b7;exact Hu (bI (λ _ _ z=>(fe.tups (.of a2) z).tups tu) al7) (.cons (fe.tups tu ⟨b6,b5,rfl,aH.of c3,b4,p9,b1,aH.of (U _ _ d2),aH.of ((a9.trans U) _ _ b9),a0.seqT c4,bI (λ _ _ z=>gX.tups (.of a0) z) c9⟩) .nil)
  ·rintro σ H7 ⟨ys,s7,e7,al7,x7,x8,x9,rfl⟩;rw [lz] at al7;exact ⟨_,rfl,q _ _ _ s7 a1 e7 al7⟩
def jM (K:b0) (H:Hp) (pl:Pl) (y:V):Prop:=∃p,y=.ref p/\jC K H p pl
def jM.same {pl:Pl} (s:af H H') (h:jM K H pl y):jM K H' pl y:=h.elim λ p z=>⟨p,z.1,z.2.tups (.of s)⟩
def lU (ts:List (ZR×ZR)) (rs:List Rc) (ps:List DD) (pl:Pl):Prop:=∃o,Wk 0 ts rs ps o pl
def DX (K:b0):Sp:=λ vs H Q _=>∃(t:ZS) (ts:List (ZR×ZR)) (es:List Ev) (ps:List DD),vs=[.ref t,.str "strict"]/\kU K H t ts es ps/\
 ∀d ks H',af H H'->H d=none->H' d=some (cb d ks)->ks.length<=1000000->dX K H' (lU ts (aI 0 [] es) ps) ks->(∀pl,lU ts (aI 0 [] es) ps pl->dm pl∈ks.map (·.1))->Q (.ref d) H'
theorem OC (T:TX (kx w) mg) (c0:Ca P w mg base "_law_deeds" ["tale"] 1 (BA (kx w))) (c1:Ca P w mg base "_law_first" ["things"] 1 (BJ (kx w))) (c2:Ca P w mg base "_law_nexts" ["tale","some","strictness","place"] 3 (GT (kx w))):Fo P w mg base CX0 4 452 CP ["tale","strictness"] (DX (kx w)):=by
 refine (AG w.params).ok a_ (λ vs H Q E h=>?_) (λ f5 A f6 s H vs Q E F h=>?_)
 ·obtain ⟨t,ts,es,ps,rfl,_⟩:=h;rfl
 ·obtain ⟨t,ts,es,ps,rfl,⟨ta,ok,e4,wf,gd,rl⟩,q⟩:=h;refine ⟨_,(aV (aA (i:=2) a_.nd rfl (Y0 rfl) (aB c0 (F.mono (by decide)) rfl (ao (pv 0) ae)))
   (aV (aA (i:=3) a_.nd rfl (Y0 rfl) (aD (ao (aD ae) (ao (aB c1 (F.mono (by decide)) rfl (ao (aq aj (pv 0) ag (λ _ _=>rfl)) ae)) ae))))
   (aV (aA (i:=4) a_.nd rfl (Y0 rfl) (Pq F (pv 3) eC))
   (aV (aA (i:=5) a_.nd rfl (Y0 rfl) (aY (ao (pv 3) ae)))
   (aV (yD U1 (cI (EH F) (pv 5) (aY ae) (aC _))
   (aU (bO U1 rfl (lN (aB c2 (F.mono (by decide)) rfl (ao (pv 0) (ao (pv 2) (ao (pv 1) (ao (Ff (pv 5)) ae)))))) (bH rfl (eJ (eY (i:=6) a_.nd rfl (Y0 rfl)) (eJ (eY (i:=7) a_.nd rfl (Y0 rfl)) (eJ (eY (i:=8) a_.nd rfl (Y0 rfl)) iq))))
   (aU (aN (cI (FN F) (pv 8) (pv 4) (by with_unfolding_all rfl))
   (aV (zC F (pv 4) (pv 8) eC rfl)
   (aU (lr (nC (pv 5) (ao (pv 8) ae)))))
   dG)))))
   (aU (au (pv 4)))))))),?_⟩
  obtain ⟨_,os,DI⟩:=cu.all cu.nil wf;refine gB ⟨_,rfl,t,es,rfl,⟨ts,ta,e4,wf⟩,λ la zs H0 s0 el aa=>?_⟩;refine aF ?_;obtain ⟨pt,te,ys,et,th,f3,al⟩:=ta;generalize aI 0 [] es=rs at gd rl DI aa q;refine gB ?_;refine ⟨jk,λ a0 d7=>?_⟩;obtain ⟨Ha,va,sa,ea⟩:=gF (.tup []) d7;rw [<-va];have a9:=s0.trans sa;refine ⟨_,rfl,.inr (.inl ⟨t,_,0,.ref pt,rfl,rfl,aH.of (a9 _ _ et),bG (j:=0) rfl,pt,ts,rfl,th.tt (.of (K:=KX w.params) a9),ok.n6,λ pb Hb sb zb=>?_⟩)⟩;refine ⟨cZ,λ r e5=>?_⟩;obtain ⟨M,v1,s1,e1⟩:=gF (.tup [.ref a0,.ref pb]) e5;rw [<-v1];refine aF ?_;have X:=sb.trans s1;have S:=a9.trans X;obtain ⟨c8,q0,z0,_⟩:=zb.stz (K:=KX w.params);have a7:jC (kx w) M r ([],ts.map λ t=>aT t.2):=⟨a0,pb,c8,aH.of e1,aH.of (X _ _ ea),s1.seqT q0,bI (λ _ _ z=>gX.tups (.of s1) z) z0⟩
  have e7:=(sa.trans X) _ _ el;have d6:=bI (λ _ _ z=>z.same (sa.trans X)) aa;have c7:=bI (λ _ _ z=>dq.tt (.of S) z) gd;have f0:=th.tt (.of (K:=KX w.params) S);have e6:=S _ _ et;clear el aa th et gd;refine gB ?_;intro c a4;obtain ⟨H2,v2,s2,e2⟩:=gF (cb c []) a4;rw [<-v2];have d9:gr (kx w) H2 (dm ([],ts.map λ t=>aT t.2)) (.ref r):=gQ (a7.tups (.of s2));refine ⟨_,rfl,r,_,rfl,rfl,e2,fR _,fW _,d9,?_⟩;refine aF ?_;have e3:upd H2 c (cb c [(dm ([],ts.map λ t=>aT t.2),r)]) c=some (cb c [(dm ([],ts.map λ t=>aT t.2),r)]):=ab;have s3:af M (upd H2 c (cb c [(dm ([],ts.map λ t=>aT t.2),r)])):=af.keep s2 a4;generalize upd H2 c (cb c [(dm ([],ts.map λ t=>aT t.2),r)])=H3 at e3 s3⊢;refine gB ⟨_,rfl,lC,λ l R=>?_⟩;refine aF ?_;have f1:M l=none:=s3.free R;have a6:c≠l:=λ z=>by rw [<-z,e3] at R;cases R
  have g3:=(af.upd (o:=.lst [.ref r]) R) _ _ e3;have g2:=ab (H:=H3) (a:=l) (o:=.lst [.ref r]);have v:=GY a4 f1 (s3.trans (af.upd (o:=.lst [.ref r]) R));generalize upd H3 l (.lst [.ref r])=D at g3 g2 v⊢;refine zm (Ba (λ k σ n=>∃ks zw ws,∃vis:List Pl,∃x6 x7 x8,k=fJ rs.length ws/\af M (ba c l n)/\n c=some (cb c ks)/\n l=some (.lst zw)/\dX (kx w) (ba c l n) (λ f=>f∈vis\/f∈ws) ks/\av (jM (kx w) (ba c l n)) ws zw/\(∀f∈ws,eV ts rs.length f.1.length f/\lU ts rs ps f)/\(∀f∈vis,lU ts rs ps f/\∀s∈gJ 0 ts rs ps f,dm s.2.2∈ks.map (·.1))/\dm ([],ts.map λ t=>aT t.2)∈ks.map (·.1)/\ks.length + fJ rs.length ws<=27400/\σ=[some (.ref t),some (.str "strict"),some (.ref la),some (.ref r),some (.ref c),some (.ref l),x6,x7,x8])
   (λ k σ n=>∃ks zw y ws f,∃vis:List Pl,∃x6 x7 x8,k=fJ rs.length (ws++[f])/\af M (ba c l n)/\n c=some (cb c ks)/\n l=some (.lst (zw++[y]))/\dX (kx w) (ba c l n) (λ a=>a∈vis\/a∈ws++[f]) ks/\av (jM (kx w) (ba c l n)) ws zw/\jM (kx w) (ba c l n) f y/\(∀a∈ws++[f],eV ts rs.length a.1.length a/\lU ts rs ps a)/\(∀f∈vis,lU ts rs ps f/\∀s∈gJ 0 ts rs ps f,dm s.2.2∈ks.map (·.1))/\dm ([],ts.map λ t=>aT t.2)∈ks.map (·.1)/\ks.length + fJ rs.length (ws++[f])<=27400/\σ=[some (.ref t),some (.str "strict"),some (.ref la),some (.ref r),some (.ref c),some (.ref l),x6,x7,x8])
   (fJ rs.length [([],ts.map λ t=>aT t.2)]) ⟨[(dm ([],ts.map λ t=>aT t.2),r)],[.ref r],[([],ts.map λ t=>aT t.2)],[],_,_,_,rfl,v,g3,g2,λ k hk=>?_,.cons ⟨r,rfl,a7.tups (.of v)⟩ .nil,λ f hp=>by rw [List.mem_singleton.mp hp];exact ⟨zO ts _,[],.nil⟩,λ _ h=>ZV h t0,List.mem_singleton.mpr rfl,by show 1 + fJ rs.length [([],ts.map λ t=>aT t.2)]<=27400;rw [tF];have:=kC (D0 (Nat.sub_le rs.length 0) rl);show 1 + gI (rs.length - 0)<=27400;lia,rfl⟩ ?_ ?_)
  ·rw [List.mem_singleton.mp hk];exact ⟨_,rfl,a7.tups (.of v),.inr (List.mem_singleton.mpr rfl)⟩
  ·rintro k σ D ⟨ks,zw,y,ws,f,vis,x6,x7,x8,rfl,v,es4,ew4,ki,aw,⟨p,rfl,pz⟩,J,lk,fv,kw,rfl⟩;obtain ⟨Y,L⟩:=J _ (List.mem_append.mpr (.inr (List.mem_singleton.mpr rfl)));have J :∀a∈ws,eV ts rs.length a.1.length a/\lU ts rs ps a:=λ a V=>J a (List.mem_append.mpr (.inl V));have mm :∀{a:Pl},a∈vis\/a∈ws++[f]->a∈f :: vis\/a∈ws:=λ {a} h=>by
    rcases h with h|h
    ·exact .inl (W0 _ h)
    ·rcases List.mem_append.mp h with h|h
     ·exact .inr h
     ·rw [List.mem_singleton.mp h];exact .inl R0
   refine ⟨_,rfl,_,rfl,_,rfl,_,rfl,.inl ⟨rfl,_,aK.of ew4⟩,l,zw++[.ref p],.ref p,rfl,rfl,ew4,by simp,?_⟩;rw [j5j];have h5:ba c l (upd D l (.lst zw))=ba c l D:=fw;have b0:upd D l (.lst zw) c=some (cb c ks):=by rw [ak a6];exact es4
   have b1:upd D l (.lst zw) l=some (.lst zw):=ab;generalize upd D l (.lst zw)=H5 at h5 b0 b1⊢;rw [<-h5] at v ki aw pz;have U:af M H5:=v.trans aR;refine ⟨t,la,p,pt,te,zs,ts,rs,ps,_,os,f,rfl,U _ _ e6,f0.tt (.of (K:=KX w.params) U),ok,U _ _ e7,bI (λ _ _ z=>z.same U) d6,bI (λ _ _ z=>dq.tt (.of U) z) c7,by lia,DI,pz.tups (.of aR),Y,λ W y7 H7 s7 a3 c3 a5=>⟨W,rfl,⟨_,aK.of c3⟩,?_⟩⟩;have b6:=s7 _ _ b0;have b8:=s7 _ _ b1;have b2:af (ba c l H5) (ba c l H7):=xi s7;have d1:W≠c:=λ z=>by rw [z,b0] at a3;cases a3
   have d4:W≠l:=λ z=>by rw [z,b1] at a3;cases a3
   have c9:=bI (λ _ _ z=>fe.tups (FR b6 b8) z) a5;have nx:=Cq c7 ok Y (by lia) (m:=0);have f4:=DU (m:=0) (ts:=ts) (ps:=ps) Y.nd Y.lt;have d5:y7.length<=rs.length - f.1.length:=by rw [cH a5];show (eM (cP 0 rs f.1) ts rs ps f rs.length).length<=_;lia
   have c4:gI (rs.length - f.1.length - 1)<=27399:=kC (by lia);have d2:fJ rs.length (ws++[f])=fJ rs.length ws + gI (rs.length - f.1.length):=by rw [wh,tF]
   refine pT (K:=KX w.params) (a:=W) (xs:=y7) (λ j σ n=>∃ks' zs' ws' jj,jj<=j/\af (ba c l H7) (ba c l n)/\n c=some (cb c ks')/\n l=some (.lst zs')/\dX (kx w) (ba c l n) (λ a=>a∈f :: vis\/a∈ws') ks'/\av (jM (kx w) (ba c l n)) ws' zs'/\(∀a∈ws',eV ts rs.length a.1.length a/\lU ts rs ps a)/\(∀d∈ks.map (·.1),d∈ks'.map (·.1))/\(∀s∈(gJ 0 ts rs ps f).take j,dm s.2.2∈ks'.map (·.1))/\ks'.length<=ks.length + jj/\fJ rs.length ws'=fJ rs.length ws + jj * gI (rs.length - f.1.length - 1)/\∃x6 x7 x8,σ=[some (.ref t),some (.str "strict"),some (.ref la),some (.ref r),some (.ref c),some (.ref l),x6,x7,x8])
    ⟨ks,zw,ws,0,u0 _,af.refl _,b6,b8,(ki.same b2).mono λ a h=>mm h,bI (λ _ _ z=>z.same b2) aw,J,λ _ h=>h,λ _ h=>ZV h (by rw [V7];exact t0),u0 _,by rw [Nat.zero_mul];rfl,_,_,_,rfl⟩ (λ j σ n _ h=>?_) ?_ ?_
   ·obtain ⟨_,_,_,_,_,h,_⟩:=h;exact aK.of (aR _ _ (h _ _ (nz d1 d4 c3)))
   ·rintro j y σ I hy ⟨ks',zs',ws',jj,lj,s8,es8,ew8,ki8,aw8,po8,ko8,pr8,kl8,wk8,x6,x7,x8,rfl⟩;have jl:j < y7.length:=(List.getElem?_eq_some_iff.mp hy).1;obtain ⟨u,c6,b9,x,rfl,e0,d8⟩:=fF c9 hy;have b5:u∈gJ 0 ts rs ps f:=K0 c6;have b3:=nx u b5;have tk :∀s∈(gJ 0 ts rs ps f).take (j + 1),s∈(gJ 0 ts rs ps f).take j\/s=u:=λ s B=>by
     rw [z8,c6] at B;rcases List.mem_append.mp B with z|z
     ·exact .inl z
     ·exact .inr (List.mem_singleton.mp z)
    have e8:af (ba c l H7) I:=s8.trans aR;have Z:=d8.tups (.of s8);have f7:jj * gI (rs.length - f.1.length - 1)<=7 * 27399:=j01 (by lia) c4;have zl:zs'.length < 1000000:=by
     have h1:=yv (N:=rs.length) ws';rw [cH aw8]
     lia
    refine ⟨b9,_,rfl,e8.seqT e0,rfl,_,_,rfl,_,_,rfl,_,_,rfl,rfl,?_⟩;have b7:=(ki8.same aR).at_ (.inl es8);have b4:=gQ (Z.tups (.of aR));refine vA ⟨_,rfl,_,rfl,c,x,ks',dm u.2.2,rfl,rfl,b7,fR _,fW _,b4,_,rfl,?_⟩;refine gm (λ _=>?_) λ d0=>⟨ks',zs',ws',jj,by lia,s8,es8,ew8,ki8,aw8,po8,ko8,λ s B=>?_,kl8,wk8,_,_,_,rfl⟩
    rotate_left
    ·rcases tk s B with z|z
     ·exact pr8 s z
     ·rw [z];by_cases C:dm u.2.2∈ks'.map (·.1)
      ·exact C
      ·exact ZV (by rw [ZX C];rfl) d0
    refine ⟨_,rfl,_,rfl,c,x,ks',dm u.2.2,rfl,rfl,rfl,es8,b7,T1 kl8 (J1 (m:=1000000) (by lia) (by decide)),fR _,fW _,b4,dh ?_⟩;have h9:ba c l (upd I c (cb c (putN ks' (dm u.2.2) x)))=ba c l I:=mK;have c5:upd I c (cb c (putN ks' (dm u.2.2) x)) c=some (cb c (putN ks' (dm u.2.2) x)):=ab;have a8:upd I c (cb c (putN ks' (dm u.2.2) x)) l=some (.lst zs'):=by rw [ak a6.symm];exact ew8
    generalize upd I c (cb c (putN ks' (dm u.2.2) x))=H9 at h9 c5 a8⊢;rw [<-h9] at s8 ki8 aw8 Z;refine ⟨_,rfl,.inl ⟨rfl,_,aK.of a8⟩,_,rfl,l,zs',_,rfl,rfl,a8,J1 zl (by decide),?_⟩;refine ⟨putN ks' (dm u.2.2) x,zs'++[.ref x],ws'++[u.2.2],jj + 1,by lia,by rw [fw];exact s8,by rw [ak a6];exact c5,ab,?_,?_,λ a V=>?_,λ d hd=>xK (ko8 d hd),λ s B=>?_,D0 wA (by lia),?_,_,_,_,rfl⟩
    ·rw [fw];exact (ki8.mono λ a h=>h.imp id λ z=>List.mem_append.mpr (.inl z)).put Z (.inr (List.mem_append.mpr (.inr (List.mem_singleton.mpr rfl))))
    ·rw [fw];exact lJ aw8 ⟨x,rfl,Z⟩
    ·rcases List.mem_append.mp V with z|z
     ·exact po8 a z
     ·rw [List.mem_singleton.mp z];exact ⟨b3.1,L.elim λ o z=>⟨_,.snoc z b5⟩⟩
    ·rcases tk s B with z|z
     ·exact xK (pr8 s z)
     ·rw [z];exact GA
    ·rw [wh,wk8,Nat.succ_mul,tF,b3.2,show rs.length - (f.1.length + 1)=rs.length - f.1.length - 1 by lia]
     lia
   ·rintro σ I ⟨ks',zs',ws',jj,lj,s8,es8,ew8,ki8,aw8,po8,ko8,pr8,kl8,wk8,x6,x7,x8,rfl⟩;have u:=Hj (D0 lj d5);rw [show y7.length=(gJ 0 ts rs ps f).length from cH a5,Y6] at pr8;refine ⟨fJ rs.length ws',by rw [d2,wk8];lia,ks',zs',ws',f :: vis,_,_,_,rfl,(v.trans b2).trans s8,es8,ew8,ki8,aw8,po8,λ a V=>?_,ko8 _ fv,by rw [wk8];lia,rfl⟩;rcases List.mem_cons.mp V with z|z
    ·rw [z];exact ⟨L,pr8⟩
    ·exact ⟨(lk a z).1,λ s B=>ko8 _ ((lk a z).2 s B)⟩
  ·rintro k σ D ⟨ks,zw,ws,vis,x6,x7,x8,rfl,v,es4,ew4,ki,aw,J,lk,fv,kw,rfl⟩ body;refine ⟨_,rfl,jk,λ l9 d3=>?_⟩;obtain ⟨H9,v9,O,e9⟩:=gF (.lst []) d3;rw [<-v9];have C:=xi (a:=c) (b:=l) O;refine ⟨l,l9,zw,rfl,rfl,aK.of (O _ _ ew4),aK.of e9,_,rfl,?_⟩;by_cases hz:zw=[]
   ·refine bM (by rw [hz];decide) ?_;subst hz;cases aw;have kc:dX (kx w) H9 (lU ts rs ps) ks:=(((ki.same C).same aR).mono λ a h=>(lk a (h.resolve_right t0)).1)
    refine ⟨_,rfl,q c ks H9 (S.trans ((v.trans C).trans aR)) (S.free a4) (O _ _ es4) (by lia) kc λ f L=>?_⟩;obtain ⟨o,L⟩:=L;refine yS (G:=λ f=>dm f∈ks.map (·.1)) fv (λ f hp s B=>?_) L;obtain ⟨k,hk,e⟩:=List.mem_map.mp hp;obtain ⟨f2,e',_,g⟩:=ki k hk;have:=AI (e.symm.trans e');subst this;exact (lk f (g.resolve_right t0)).2 s B
   ·refine bw (ZY hz) ?_;have ez:=(B4 hz).symm;rw [ez] at aw ew4;obtain ⟨wr,q0,rfl,a1,a2⟩:=FF aw;exact body _ ⟨ks,_,_,wr,q0,vis,x6,x7,x8,rfl,v.trans C,O _ _ es4,O _ _ ew4,ki.same C,bI (λ _ _ z=>z.same C) a1,a2.same C,J,lk,fv,kw,rfl⟩
def NB (e:H a=some (.ext f)):bA K H (upd H a o):=λ p b h=>by
 rcases h with (h|⟨ob,h⟩)|h
 ·exact .inl (.inl (by rw [ak (λ z=>by rw [z,e] at h;cases h)];exact h))
 ·exact .inl (.inr ⟨ob,by rw [ak (λ z=>by rw [z,e] at h;cases h)];exact h⟩)
 ·exact .inr h
noncomputable def jF (rs:List Rc) (ks:List (ZK×ZS)) (i:Nat):Bool:=(ks[i]?.map λ k=>@decide (∃pl,k.1=dm pl/\eu rs pl) (r6 _)).getD false
def Cc {rs:List Rc} {k:ZK×ZS} {pl:Pl} (h:ks[i]? = some k) (e:k.1=dm pl):jF rs ks i=true↔eu rs pl:=by
 unfold jF;rw [h];show @decide _ (r6 _)=true↔_;rw [@decide_eq_true_iff _ (r6 _)];constructor
 ·rintro ⟨pl',e',f⟩;rw [AI (e.symm.trans e')];exact f
 ·exact λ f=>⟨pl,e,f⟩
def Fw (K:b0):Sp:=λ vs H Q _=>∃(t:ZS) (ts:List (ZR×ZR)) (es:List Ev) (ps:List DD),vs=[.ref t,.str "strict"]/\kU K H t ts es ps/\∀b H',af H H'->(b=true↔∃o pl,Wk 0 ts (aI 0 [] es) ps o pl/\eu (aI 0 [] es) pl)->Q (.bl b) H'
theorem OA (T:TX (kx w) mg) (c0:Ca P w mg base "_law_deeds" ["tale"] 1 (BA (kx w))) (c1:Ca P w mg base "_law_places" ["tale","strictness"] 4 (DX (kx w))) (c2:Ca P w mg base "_law_is_full" ["some","place"] 1 (ET (kx w))):Fo P w mg base CX0 5 457 zg ["tale","strictness"] (Fw (kx w)):=by
 refine (CK w.params).ok eZ (λ O H Q E h=>?_) (λ a2 A a3 s H O Q E C h=>?_)
 ·obtain ⟨t,u,j,y,rfl,_⟩:=h;rfl
 ·obtain ⟨t,u,j,y,rfl,tp,q⟩:=h;refine ⟨_,(aV (aA (i:=2) eZ.nd rfl (X0 rfl) (aB c0 (C.mono (by decide)) rfl (ao (pv 0) ae)))
   (aU (au (gU (EH C) (dS (xs:=["place"]) (g:=bh 0) (fr:=[(2,"some")]) (JV (aB c1 (C.mono (by decide)) rfl (ao (pv 0) (ao (pv 1) ae)))) (λ _ _ _ _ _=>(bK (N:=["place","some"]) 0)) (λ _ _ _ _ _=>(eO (cA (aB c2 (C.mono (by decide)) rfl (ao (pv 1) (ao (pv 0) ae))) (λ _=>rfl)))) (λ _ _ _ _ _=>(pv 0))) (aY ae) (aC _))))),?_⟩
  refine gB ⟨_,rfl,t,j,rfl,⟨u,tp.1,tp.2.2.1,tp.2.2.2.1⟩,λ la zs F W el aa=>?_⟩;refine aF ?_;have a1:=tp.same W;have rl:=tp.2.2.2.2.2;refine fZ ?_;refine pK (λ a e m=>af F m/\F a=none/\m a=some (cb a e)/\e.length<=1000000/\dX (kx w) m (lU u (aI 0 [] j) y) e/\∀n,lU u (aI 0 [] j) y n->dm n∈e.map (·.1)) (jF (aI 0 [] j)) (λ _ _ _=>True) (λ R h=>⟨_,rfl,_,rfl,t,u,j,y,rfl,a1,λ d e m x hd ed G r B=>h d e m ⟨x,hd,ed,G,r,B⟩⟩) (λ a e m h=>⟨h.2.2.1,D0 h.2.2.2.1 (by decide)⟩) ?_ ?_
  ·rintro a e m ob ⟨x,ha,ea,G,r,B⟩ i k p J s3 KT KF k1 k2;obtain ⟨n,v,⟨pa,pb,O,sp,sa,_⟩,_⟩:=r k (K0 p);have M:af F J:=(af.keep x ha).trans s3;have L:bA (kx w) m J:=λ c xs z=>s3.seqT (NB ea _ _ z);refine ⟨[some (.ref k.2)],rfl,rfl,?_⟩;refine ⟨_,rfl,_,rfl,la,k.2,pa,zs,_,n.1,.ref pb,rfl,M _ _ el,bI (λ _ _ z=>z.same M) aa,by lia,L _ _ sp,L _ _ sa,λ b H4 X V=>⟨_,rfl,?_⟩⟩;have Y:=Cc (rs:=aI 0 [] j) p v;refine gm (λ h=>⟨_,rfl,k1 (Y.mpr (V.mp h)) _ _ X trivial⟩) λ h=>k2 ?_ _ X;cases hz:jF (aI 0 [] j) e i with
   | false=>rfl
   | true=>exact ZV (V.mpr (Y.mp hz)) h
  ·rintro a e m ob l J S ⟨x,ha,ea,G,r,B⟩ s3 hl fa;obtain ⟨H4,v4,q4,e4⟩:=gF (.lst S) hl;rw [<-v4];refine ⟨jk,λ l5 a0=>?_⟩;obtain ⟨H5,v5,U,e5⟩:=gF (.lst []) a0;rw [<-v5];refine ⟨l,l5,S,rfl,rfl,aK.of (U _ _ e4),aK.of e5,q _ _ (W.trans (((af.keep x ha).trans s3).trans (q4.trans U))) ?_⟩;have K:=cH fa;rw [decide_eq_true_iff];constructor
   ·intro ne;have hp:0 < ((B1 e.length).filter (jF (aI 0 [] j) e)).length:=by rw [<-K];exact List.length_pos_iff.mpr ne
    obtain ⟨i,D⟩:=j25 hp;obtain ⟨h1,Z⟩:=List.mem_filter.mp D;have p:=B0 (List.mem_range.mp h1);obtain ⟨n,v,_,o,I⟩:=r _ (K0 p);exact ⟨o,n,I,(Cc p v).mp Z⟩
   ·rintro ⟨o,n,I,f⟩ z;rw [z] at K;obtain ⟨k,p,v⟩:=List.mem_map.mp (B n ⟨o,I⟩);obtain ⟨i,D⟩:=List.mem_iff_getElem?.mp p;have:=List.filter_eq_nil_iff.mp (List.eq_nil_of_length_eq_zero K.symm) i (List.mem_range.mpr (List.getElem?_eq_some_iff.mp D).1);exact this ((Cc D v).mpr f)
end
section
def fA {rs:List Rc} {pl:Pl} :s∈gJ m ts rs ps pl↔∃n r p,cP m rs pl.1 n=true/\rs[n]? = some r/\ps[n]? = some p/\eQ ts r p n pl=some s:=by
 unfold gJ eM;rw [List.mem_filterMap];constructor
 ·rintro ⟨n,_,e⟩;unfold dC at e;split at e
  ·rename_i h;split at e
   ·rename_i r p hr hp;exact ⟨n,r,p,h,hr,hp,e⟩
   ·cases e
  ·cases e
 ·rintro ⟨n,r,p,h,hr,hp,e⟩;refine ⟨n,List.mem_range.mpr (List.getElem?_eq_some_iff.mp hr).1,?_⟩;unfold dC;rw [ZZ h,hr,hp];exact e
def Fd {r:Rc} {p:DD} {pl:Pl} (e:eQ ts r p n pl=some s):s.1=n:=by
 unfold eQ at e;split at e
 ·split at e
  ·cases e;rfl
  ·cases e
 ·cases e
def LM {rs:List Rc} {pl:Pl} {s':nN} (h:s∈gJ m ts rs ps pl) (h':s'∈gJ m ts rs ps pl) (e:s.1=s'.1):s=s':=by
 obtain ⟨n,r,p,_,i,f,b⟩:=fA.mp h;obtain ⟨g,j,k,_,c,d,a⟩:=fA.mp h';have:n=g:=by rw [<-Fd b,<-Fd a,e]
 subst this;rw [i] at c;cases c;rw [f] at d;cases d;rw [b] at a;exact A1 a
def ka {rs:List Rc} {o:List Oa} {a:Oa} {pl:Pl} (h:Wk m ts rs ps (o++[a]) pl) :∃pl' s,Wk m ts rs ps o pl'/\s∈gJ m ts rs ps pl'/\a=(s.1,s.2.1)/\pl=s.2.2:=by
 generalize ho:o++[a]=o' at h;cases h with
 | nil=>exact ZV (ZU A8 ho) (by simp)
 | @snoc o1 pl1 s w hs=>obtain ⟨c,b⟩:=List.append_inj' ho rfl;subst c;exact ⟨pl1,s,w,hs,List.singleton_inj.mp b,rfl⟩
theorem AW {α:Type} {l:List α} (h:l.length=n + 1) :∃r x,l=r++[x]/\r.length=n:=by
 have a:l≠[]:=λ z=>by rw [z] at h;cases h
 refine ⟨l.dropLast,l.getLast a,(B4 a).symm,?_⟩;rw [j5i]
 lia
theorem Aj {rs:List Rc} :∀(n:Nat) {o o':List Oa} {pl pl':Pl},o.length=n->Wk m ts rs ps o pl->Wk m ts rs ps o' pl'->o.map (·.1)=o'.map (·.1)->pl=pl'
 | 0,o,o',pl,pl',hn,h,h',e=>by
  rw [List.eq_nil_of_length_eq_zero hn] at h e;have j:o'=[]:=by
   cases o' with
   | nil=>rfl
   | cons a r=>cases e
  rw [j] at h';have nil :∀{pl:Pl} {o:List Oa},Wk m ts rs ps o pl->o=[]->pl=([],ts.map λ t=>aT t.2):=λ h=>by
   cases h with
   | nil=>intro _;rfl
   | snoc _ _=>intro z;exact ZV (ZU A8 z) (by simp)
  rw [nil h rfl,nil h' rfl]
 | n + 1,o,o',pl,pl',hn,h,h',e=>by
  obtain ⟨x,a,rfl,q⟩:=AW hn;have c:o'.length=n + 1:=by
   have:=ZU A8 e;rw [C0,C0] at this
   lia
  obtain ⟨w,b,rfl,A⟩:=AW c;rw [u1,u1] at e;obtain ⟨l,d⟩:=List.append_inj' e rfl;obtain ⟨y,s,f,k,p,rfl⟩:=ka h;obtain ⟨B,i,u,v,g,rfl⟩:=ka h';have:=Aj n q f u l;subst this;have:s.1=i.1:=by have:=List.singleton_inj.mp d;rw [p,g] at this;exact this
  rw [LM k v this]
theorem oX {rs:List Rc} :∀(n:Nat) {o:List Oa} {pl:Pl},o.length=n->Wk m ts rs ps o pl->∀i,i < n->∃pl' s,Wk m ts rs ps (o.take i) pl'/\s∈gJ m ts rs ps pl'/\o[i]? = some (s.1,s.2.1)/\Wk m ts rs ps (o.take (i + 1)) s.2.2
 | 0,_,_,_,_,i,hi=>ZV hi (L4 _)
 | n + 1,o,pl,hn,h,i,hi=>by
  obtain ⟨g,a,rfl,j⟩:=AW hn;obtain ⟨k,s,b,l,p,rfl⟩:=ka h;rcases Nat.lt_succ_iff_lt_or_eq.mp hi with z|z
  ·obtain ⟨pl',q,d,c,e,f⟩:=oX n j b i z;refine ⟨pl',q,?_,c,?_,?_⟩
   ·rw [o7 (by lia)];exact d
   ·rw [A2 (by lia)];exact e
   ·rw [o7 (by lia)];exact f
  ·refine ⟨k,s,?_,l,?_,?_⟩
   ·rw [o7 (by lia),S3 (by lia)];exact b
   ·rw [L1 (by lia),show i - g.length=0 by lia,p];rfl
   ·rw [S3 (by rw [hn];lia)];exact h
end
section
def fS {rs:List Rc} :cP m rs ns n=true↔n∉ns/\(∀a,fH m rs a n=true->a∈ns)/\∀b,fH m rs n b=true->b∉ns:=by unfold cP cO;simp only [J2,decide_eq_true_iff];exact ⟨λ h=>⟨h.1.1,λ a c=>h.1.2 a (List.mem_range.mpr (lI c).1) c,λ b d=>h.2 b (List.mem_range.mpr (lI d).2) d⟩,λ h=>⟨⟨h.1,λ a _ c=>h.2.1 a c⟩,λ b _ d=>h.2.2 b d⟩⟩
def fG {r:Rc} {p:DD} {pl:Pl} :eQ ts r p n pl=some s↔∃v,pl.2[fX ts p.nm]? = some v/\(r.e.isNone || decide ((dz p.k p.vb p.dt v).2=r.a))=true/\s=(n,(dz p.k p.vb p.dt v).2,(dO (pl.1++[n]),pl.2.set (fX ts p.nm) (dz p.k p.vb p.dt v).1)):=by
 unfold eQ;cases pl.2[fX ts p.nm]? with
 | none=>exact ⟨λ h=>(nomatch h),λ ⟨_,h,_⟩=>(nomatch h)⟩
 | some v=>
  dsimp only;constructor
  ·intro h;split at h
   ·rename_i z;exact ⟨v,rfl,z,(A1 h).symm⟩
   ·cases h
  ·rintro ⟨v',e,z,rfl⟩;cases e;rw [ZZ z]
def eR {x:Nat}:x∈dO (ns++[n])↔x∈ns\/x=n:=by rw [(ve _).mem_iff,List.mem_append,List.mem_singleton]
def tZ {rs:List Rc} {o:List Oa} {pl:Pl} (w:Wk m ts rs ps o pl) :∀b∈pl.1,∀a,fH m rs a b=true->a∈pl.1:=by
 induction w with
 | nil=>exact λ _ h=>ZV h t0
 | @snoc o pl s _ h ih=>
  obtain ⟨n,r,p,f,_,_,d⟩:=fA.mp h;obtain ⟨v,_,_,rfl⟩:=fG.mp d;intro b e a c;rcases eR.mp e with z|z
  ·exact eR.mpr (.inl (ih b z a c))
  ·rw [z] at c;exact eR.mpr (.inl ((fS.mp f).2.1 a c))
def wI {rs:List Rc} {o:List Oa} {pl:Pl} (w:Wk m ts rs ps o pl):pl.1.Nodup/\∀x∈pl.1,x < rs.length:=by
 induction w with
 | nil=>exact ⟨.nil,λ _ h=>ZV h t0⟩
 | @snoc o pl s _ h ih=>
  obtain ⟨n,r,p,g,j,_,d⟩:=fA.mp h;obtain ⟨v,_,_,rfl⟩:=fG.mp d;refine ⟨(ve _).nodup_iff.mpr (List.nodup_append.mpr ⟨ih.1,by simp,λ a c b f e=>?_⟩),λ x i=>?_⟩
  ·rw [List.mem_singleton.mp f] at e;exact (fS.mp g).1 (e ▸ c)
  ·rcases eR.mp i with z|z
   ·exact ih.2 x z
   ·rw [z];exact (List.getElem?_eq_some_iff.mp j).1
structure ox (rs:List Rc) (ps:List DD) (nm:ZR) (rs':List Rc) (ps':List DD) (J:List Nat):Prop where
 up :∀(a n:Nat),J[a]? = some n->∃(r:Rc) (p:DD) (r':Rc),rs[n]? = some r/\ps[n]? = some p/\p.nm=nm/\rs'[a]? = some r'/\ps'[a]? = some p/\r'.a=r.a/\r'.e.isNone=r.e.isNone
 on :∀(n:Nat) (p:DD),ps[n]? = some p->p.nm=nm->∃a:Nat,J[a]? = some n
 dn :∀(a:Nat) (r':Rc),rs'[a]? = some r'->∃n:Nat,J[a]? = some n
 inj :∀(a b n:Nat),J[a]? = some n->J[b]? = some n->a=b
 ah :∀(a b n n':Nat),J[a]? = some n->J[b]? = some n'->fH 0 rs' a b=fH 0 rs n n'
def gZ {c:Nat} (nd:(ts.map (·.1)).Nodup) (h:ts[c]? = some t):fX ts t.1=c:=idx_eq nd (by rw [M0,h];rfl)
def sy {c:Nat} {x:ZR} (h:ts[c]? = some t) (ne:x≠t.1):fX ts x≠c:=λ e=>by
 have lt:=(List.getElem?_eq_some_iff.mp h).1;have b:(ts.map (·.1)).idxOf x < (ts.map (·.1)).length:=by rw [C0];show fX ts x < _;rw [e];exact lt
 have g:=List.getElem_idxOf b;have a:(ts.map (·.1))[(ts.map (·.1)).idxOf x]? = some x:=by rw [B0 b,g]
 rw [show (ts.map (·.1)).idxOf x=c from e,M0,h] at a;exact ne (A1 a).symm
def ze (t:ZR×ZR):fX [t] t.1=0:=gZ (ts:=[t]) (j49 _ _) rfl
structure kL (J:List Nat) (c:Nat) (pl pl':Pl):Prop where
 m :∀(a n:Nat),J[a]? = some n->(a∈pl'.1↔n∈pl.1)
 s :∀v:Sv,pl.2[c]? = some v↔pl'.2[0]? = some v
section
variable {rs rs':List Rc} {ps':List DD} {J:List Nat} {c:Nat} {pl pl':Pl}
def kL.own (E:ox rs ps t.1 rs' ps' J) (L:kL J c pl pl') {a:Nat} {v v':Sv} (hv:pl.2[c]? = some v) (hj:J[a]? = some n):kL J c (dO (pl.1++[n]),pl.2.set c v') (dO (pl'.1++[a]),pl'.2.set 0 v'):=by
 refine ⟨λ b k d=>?_,λ u=>?_⟩
 ·rw [eR,eR,L.m b k d];refine or_congr Iff.rfl ⟨λ e=>?_,λ e=>?_⟩
  ·rw [e,hj] at d;exact (A1 d).symm
  ·exact E.inj b a n (e ▸ d) hj
 ·have g:=(List.getElem?_eq_some_iff.mp hv).1;have f:=(List.getElem?_eq_some_iff.mp ((L.s v).mp hv)).1;show (pl.2.set c v')[c]? = _↔(pl'.2.set 0 v')[0]? = _;rw [M6 g,M6 f]
def kL.oth (E:ox rs ps t.1 rs' ps' J) (L:kL J c pl pl') {d:Nat} {p:DD} {v':Sv} (hp:ps[n]? = some p) (ne:p.nm≠t.1) (nd:d≠c):kL J c (dO (pl.1++[n]),pl.2.set d v') pl':=by
 refine ⟨λ b k a=>?_,λ u=>?_⟩
 ·rw [eR,L.m b k a];refine ⟨.inl,λ z=>z.resolve_right λ e=>?_⟩;obtain ⟨_,g,_,_,h,f,_⟩:=E.up b k a;rw [e,hp] at h;cases h;exact ne f
 ·rw [<-L.s u];show (pl.2.set d v')[c]? = _↔_;rw [U9 nd]
def oQ (h:ts[c]? = some t):kL J c ([],ts.map λ t=>aT t.2) ([],[t].map λ t=>aT t.2):=by refine ⟨λ a n _=>⟨λ z=>ZV z t0,λ z=>ZV z t0⟩,λ v=>?_⟩;show (ts.map λ t=>aT t.2)[c]? = _↔_;rw [M0,h];exact Iff.rfl
def Nv (nd:(ts.map (·.1)).Nodup) (ht:ts[c]? = some t) (E:ox rs ps t.1 rs' ps' J) (L:kL J c pl pl') (h:s∈gJ 0 ts rs ps pl):kL J c s.2.2 pl'\/∃s'∈gJ 0 [t] rs' ps' pl',kL J c s.2.2 s'.2.2:=by
 obtain ⟨n,r,p,H,x,i,C⟩:=fA.mp h;obtain ⟨v,j,u,rfl⟩:=fG.mp C;obtain ⟨A,y,B⟩:=fS.mp H;by_cases e:p.nm=t.1
 ·obtain ⟨a,f⟩:=E.on n p i e;obtain ⟨M,K,w,l,o,_,q,G,I,D⟩:=E.up a n f;rw [x] at l;cases l;rw [i] at o;cases o;rw [e,gZ nd ht] at j;have F:=(L.s v).mp j;refine .inr ⟨(a,(dz p.k p.vb p.dt v).2,(dO (pl'.1++[a]),pl'.2.set 0 (dz p.k p.vb p.dt v).1)),fA.mpr ⟨a,w,p,fS.mpr ⟨λ z=>A ((L.m a n f).mp z),λ b d=>?_,λ b d z=>?_⟩,q,G,fG.mpr ⟨v,by rw [e,ze];exact F,by rw [I,D];exact u,by rw [e,ze]⟩⟩,?_⟩
  ·obtain ⟨k,g⟩:=E.dn b _ (B0 (lI d).1);rw [E.ah b a k n g f] at d;exact (L.m b k g).mpr (y k d)
  ·obtain ⟨k,g⟩:=E.dn b _ (B0 (lI d).2);rw [E.ah a b n k f g] at d;exact B k d ((L.m b k g).mp z)
  ·have:=L.own E (v':=(dz p.k p.vb p.dt v).1) j f
   rwa [e,gZ nd ht]
 ·exact .inl (L.oth E i e (sy ht e))
def Km (nd:(ts.map (·.1)).Nodup) (ht:ts[c]? = some t) (E:ox rs ps t.1 rs' ps' J) {o:List Oa} {pl:Pl} (w:Wk 0 ts rs ps o pl) :∃o' pl',Wk 0 [t] rs' ps' o' pl'/\kL J c pl pl':=by
 induction w with
 | nil=>exact ⟨_,_,.nil,oQ ht⟩
 | @snoc o pl s _ h ih=>
  obtain ⟨o',pl',a,L⟩:=ih;rcases Nv nd ht E L h with z|⟨s',hs,z⟩
  ·exact ⟨o',pl',a,z⟩
  ·exact ⟨_,_,.snoc a hs,z⟩
def Qb (E:ox rs ps t.1 rs' ps' J) (L:kL J c pl pl') (f:eu rs pl):eu rs' pl':=λ a d j h=>by
 obtain ⟨n,i⟩:=E.dn a d j;obtain ⟨r,p,q,k,o,_,g,l,s,b⟩:=E.up a n i;rw [j] at g;cases g;refine (L.m a n i).mpr (f n r k ?_);cases h1:r.e with
 | some _=>rfl
 | none=>
  rw [h1] at b;cases h2:d.e with
  | none=>rw [h2] at h;cases h
  | some _=>rw [h2] at b;cases b
end
def sh {P:Nat->Prop} (h:P n) :∃n,P n/\∀k,P k->n<=k:=by
 induction n using Nat.strongRecOn with
 | ind n ih=>
  by_cases z :∃k,P k/\k < n
  ·obtain ⟨k,a,lt⟩:=z;exact ih k lt a
  ·exact ⟨n,h,λ k a=>Nat.not_lt.mp λ lt=>z ⟨k,a,lt⟩⟩
def nB (ts:List (ZR×ZR)) (rs:List Rc) (ps:List DD):Prop:=∃o pl,Wk 0 ts rs ps o pl/\eu rs pl
theorem JP {rs:List Rc} {RS:Nat->List Rc} {PS:Nat->List DD} {J:Nat->List Nat} {O:Nat->List Oa} {PL:Nat->Pl} (nd:(ts.map (·.1)).Nodup) (hl:ps.length=rs.length) (hn :∀p∈ps,∃(c:Nat) (t:ZR×ZR),ts[c]? = some t/\t.1=p.nm) (mono :∀(n n':Nat) (r r':Rc),n<=n'->rs[n]? = some r->rs[n']? = some r'->r.b<=r'.b)
  (E :∀(c:Nat) (t:ZR×ZR),ts[c]? = some t->ox rs ps t.1 (RS c) (PS c) (J c)) (W :∀(c:Nat) (t:ZR×ZR),ts[c]? = some t->Wk 0 [t] (RS c) (PS c) (O c) (PL c)/\eu (RS c) (PL c)) :
  ∀(M:Nat) (C:Nat->Nat) (o:List Oa) (pl:Pl),rs.length - pl.1.length<=M->Wk 0 ts rs ps o pl->(∀(c:Nat) (t:ZR×ZR),ts[c]? = some t->∃pl',Wk 0 [t] (RS c) (PS c) ((O c).take (C c)) pl'/\kL (J c) c pl pl')->nB ts rs ps:=by
 intro M;induction M with
 | zero=>
  intro C o pl hM w S;refine ⟨o,pl,w,λ n r g _=>?_⟩;obtain ⟨n1,B⟩:=wI w;refine U5 λ z=>?_;have:=sR rs.length (n :: pl.1) (List.nodup_cons.mpr ⟨z,n1⟩) λ x U=>by
   rcases List.mem_cons.mp U with y|y
   ·rw [y];exact (List.getElem?_eq_some_iff.mp g).1
   ·exact B x y
  rw [P0] at this
  lia
 | succ M ih=>
  intro C o pl hM w S;have up :∀n,n < rs.length->∃(r:Rc) (p:DD) (c:Nat) (t:ZR×ZR) (a:Nat),rs[n]? = some r/\ps[n]? = some p/\ts[c]? = some t/\t.1=p.nm/\(J c)[a]? = some n:=λ n b2=>by have j:ps[n]? = some ps[n]:=B0 (by lia);obtain ⟨c,t,f,e⟩:=hn ps[n] (i6 _);obtain ⟨a,D⟩:=(E c t f).on n _ j e.symm;exact ⟨_,_,c,t,a,B0 b2,j,f,e,D⟩
  -- a deed that ended and is left: its thing's way is not at its end
  have left :∀(c:Nat) (t:ZR×ZR) (a n:Nat) (r:Rc),ts[c]? = some t->(J c)[a]? = some n->rs[n]? = some r->r.e.isSome=true->n∉pl.1->C c < (O c).length:=λ c t a n r f D g q T=>by
   obtain ⟨pl',l,L⟩:=S c t f;obtain ⟨w1,f1⟩:=W c t f;refine Nat.not_le.mp λ le=>T ((L.m a n D).mp ?_);rw [S3 le] at l;rw [<-Aj _ rfl w1 l rfl];obtain ⟨r0,p,r',H,g2,_,R,g4,g5,I⟩:=(E c t f).up a n D;rw [g] at H;cases H;refine f1 a r' R ?_;cases F:r'.e with
   | some _=>rfl
   | none=>
    rw [F] at I;cases A:r.e with
    | none=>rw [A] at q;cases q
    | some _=>rw [A] at I;cases I
  -- what is next on a thing's way
  have next :∀(c:Nat) (t:ZR×ZR),ts[c]? = some t->C c < (O c).length->∃(pl':Pl) (a n:Nat) (r:Rc) (p:DD) (r':Rc) (v:Sv),Wk 0 [t] (RS c) (PS c) ((O c).take (C c)) pl'/\kL (J c) c pl pl'/\(J c)[a]? = some n/\(O c)[C c]? = some (a,(dz p.k p.vb p.dt v).2)/\cP 0 (RS c) pl'.1 a=true/\rs[n]? = some r/\ps[n]? = some p/\p.nm=t.1/\(RS c)[a]? = some r'/\r'.a=r.a/\r'.e.isNone=r.e.isNone/\pl'.2[0]? = some v/\(r'.e.isNone || decide ((dz p.k p.vb p.dt v).2=r'.a))=true/\Wk 0 [t] (RS c) (PS c) ((O c).take (C c + 1)) (dO (pl'.1++[a]),pl'.2.set 0 (dz p.k p.vb p.dt v).1):=λ c t f lt=>by obtain ⟨pl',l,L⟩:=S c t f;obtain ⟨b8,s,w1,hs,K,V⟩:=oX _ rfl (W c t f).1 (C c) lt;have:=Aj _ rfl l w1 rfl;subst this;obtain ⟨a,r',p,hc,g,j,b5⟩:=fA.mp hs;obtain ⟨v,Q,hz,rfl⟩:=fG.mp b5;obtain ⟨n,i⟩:=(E c t f).dn a r' g;obtain ⟨r,p0,r0,H,g2,a7,R,g4,g5,I⟩:=(E c t f).up a n i;rw [g] at R;cases R;rw [j] at g4;cases g4;rw [a7,ze] at Q V;exact ⟨pl',a,n,r,p,r',v,l,L,i,K,hc,H,g2,a7,g,g5,I,Q,hz,V⟩
  by_cases fu:eu rs pl
  ·exact ⟨o,pl,w,fu⟩
  obtain ⟨n0,a9⟩ :∃n:Nat,∃(c:Nat) (t:ZR×ZR) (x:Oa),ts[c]? = some t/\C c < (O c).length/\(O c)[C c]? = some x/\(J c)[x.1]? = some n:=by
   have :∃(n:Nat) (r:Rc),rs[n]? = some r/\r.e.isSome=true/\n∉pl.1:=Classical.byContradiction λ z=>fu λ n r F A=>U5 λ h3=>z ⟨n,r,F,A,h3⟩;obtain ⟨n,r,F,A,h3⟩:=this;obtain ⟨_,_,c,t,a,H,_,f,_,D⟩:=up n (List.getElem?_eq_some_iff.mp F).1;have lt:=left c t a n r f D F A h3;obtain ⟨pl',a',n',_,_,_,_,l,_,i,K,_⟩:=next c t f lt
   exact ⟨n',c,t,_,f,lt,K,i⟩
  obtain ⟨n,⟨c,t,x,f,lt,U,a3⟩,b0⟩:=sh (P:=λ n:Nat=>∃(c:Nat) (t:ZR×ZR) (x:Oa),ts[c]? = some t/\C c < (O c).length/\(O c)[C c]? = some x/\(J c)[x.1]? = some n) a9;obtain ⟨pl',a,n',r,p,r',v,l,L,i,K,hc,g,j,e,b7,ga,ge,Q,hz,V⟩:=next c t f lt
  rw [K] at U;cases U;rw [i] at a3;cases a3;obtain ⟨c1,c2,c3⟩:=fS.mp hc;have a4:n∉pl.1:=λ z=>c1 ((L.m a n i).mpr z);have b4:cP 0 rs pl.1 n=true:=by
   refine fS.mpr ⟨a4,λ k h=>?_,λ k h z=>a4 (tZ w k z n h)⟩;obtain ⟨N,pk,Z,X,b,gk,c0,Y,e',hb⟩:=up k (lI h).1;refine U5 λ T=>?_;rw [pD gk g] at h;have h:lu N.e r.b=true:=h;cases q:N.e with
   | none=>rw [q] at h;cases h
   | some y=>
    rw [q] at h;have a5:=left Z X b k N Y hb gk (by rw [q];rfl) T;obtain ⟨b9,a2,B,r2,_,_,_,_,LL,a8,b6,b1,a6,_⟩:=next Z X Y a5
    have mb:=mono n B r r2 (b0 B ⟨Z,X,_,Y,a5,b6,a8⟩) g a6;have a1:fH 0 rs k B=true:=by rw [pD gk a6];show lu N.e r2.b=true;rw [q];exact ZY (J1 (ZW h) mb)
    rw [<-(E Z X Y).ah b a2 k B hb a8] at a1;exact T ((LL.m b k hb).mp ((fS.mp b1).2.1 b a1))
  have a0:pl.2[c]? = some v:=(L.s v).mpr Q;have st:eQ ts r p n pl=some (n,(dz p.k p.vb p.dt v).2,(dO (pl.1++[n]),pl.2.set c (dz p.k p.vb p.dt v).1)):=fG.mpr ⟨v,by rw [e,gZ nd f];exact a0,by rw [<-ga,<-ge];exact hz,by rw [e,gZ nd f]⟩;refine ih (λ d=>if d=c then C d + 1 else C d) _ _ ?_ (.snoc w (fA.mpr ⟨n,r,p,b4,g,j,st⟩)) λ d u G=>?_
  ·show rs.length - (dO (pl.1++[n])).length<=M;rw [(ve _).length_eq,G0];show rs.length - (pl.1.length + 1)<=M
   lia
  ·by_cases z:d=c
   ·subst z;rw [f] at G;cases G;dsimp only;rw [ZZ rfl];exact ⟨_,V,L.own (E d t f) a0 i⟩
   ·obtain ⟨b3,w3,L3⟩:=S d u G;dsimp only;rw [Z_ z];exact ⟨b3,w3,L3.oth (E d u G) j (λ y=>z (by rw [<-gZ nd f,<-gZ nd G,<-y,e])) (C4 z)⟩
def Mv {rs:List Rc} {RS:Nat->List Rc} {PS:Nat->List DD} {J:Nat->List Nat} (nd:(ts.map (·.1)).Nodup) (hl:ps.length=rs.length) (hn :∀p∈ps,∃(c:Nat) (t:ZR×ZR),ts[c]? = some t/\t.1=p.nm) (mono :∀(n n':Nat) (r r':Rc),n<=n'->rs[n]? = some r->rs[n']? = some r'->r.b<=r'.b)
  (E :∀(c:Nat) (t:ZR×ZR),ts[c]? = some t->ox rs ps t.1 (RS c) (PS c) (J c)):nB ts rs ps↔∀(c:Nat) (t:ZR×ZR),ts[c]? = some t->nB [t] (RS c) (PS c):=by
 constructor
 ·rintro ⟨o,g,w,f⟩ c t a;obtain ⟨j,k,i,L⟩:=Km nd a (E c t a) w;exact ⟨j,k,i,Qb (E c t a) L f⟩
 ·intro G;have d :∀c:Nat,∃q:List Oa×Pl,∀t,ts[c]? = some t->Wk 0 [t] (RS c) (PS c) q.1 q.2/\eu (RS c) q.2:=λ c=>by
   cases h:ts[c]? with
   | none=>exact ⟨([],[],[]),λ t e=>by cases e⟩
   | some t=>obtain ⟨o,g,w,f⟩:=G c t h;exact ⟨(o,g),λ l e=>by cases e;exact ⟨w,f⟩⟩
  exact JP (O:=λ c=>(M5 (d c)).1) (PL:=λ c=>(M5 (d c)).2) nd hl hn mono E (λ c t a=>G6 (d c) t a) _ (λ _=>0) _ _ (u0 _) .nil λ c t a=>⟨_,by rw [V7];exact .nil,oQ a⟩
end
variable {N:List ZR}
section
noncomputable def ff:V->ZR
 | .str z=>z
 | _=>""
noncomputable def xY:Ev->Prop
 | .beg _ n _ _=>n=.str (ff n)
 | .fin _ _=>True
def JZ {rs:List Rc} {e:Ev} (h :∀r∈rs,r.n=.str (ff r.n)) (he:xY e) :∀r∈aE i rs e,r.n=.str (ff r.n):=by
 cases e with
 | beg hd n v x=>
  intro r b;rcases List.mem_append.mp b with z|z
  ·exact h r z
  ·rw [List.mem_singleton.mp z];exact he
 | fin hd a=>
  unfold aE;dsimp only;cases bD hd (rs.map Rc.h) with
  | none=>exact h
  | some j=>
   intro r b;obtain ⟨m,d⟩:=List.mem_iff_getElem?.mp b;rw [W2] at d;obtain ⟨c,f,e⟩:=Option.map_eq_some_iff.mp d;by_cases z:j=m
   ·rw [ZZ z] at e;rw [<-e];exact h c (K0 f)
   ·rw [Z_ z] at e;rw [<-e];exact h c (K0 f)
theorem FV:∀{es:List Ev} {i:Nat} {rs:List Rc},(∀r∈rs,r.n=.str (ff r.n))->(∀e∈es,xY e)->∀r∈aI i rs es,r.n=.str (ff r.n)
 | [],_,_,h,_=>h
 | e :: es,i,rs,h,he=>FV (es:=es) (i:=i + 1) (rs:=aE i rs e) (JZ h (he e R0)) λ x a=>he x (W0 _ a)
noncomputable def mL (nm:ZR) (rs:List Rc):List V:=(rs.filter λ r=>decide (ff r.n=nm)).flatMap λ r=>[V.int r.b,cX r.e]
noncomputable def pW (nm:ZR) (rs:List Rc) (i:Nat):Bool:=lg (.int (i:Nat)) (mL nm rs)
noncomputable def mV (nm:ZR) (rs:List Rc) (ys:List V):List V:=((B1 ys.length).filter (pW nm rs)).filterMap λ i=>ys[i]?
def Ko (nm:ZR) (rs:List Rc):(mL nm rs).all fh=true:=by
 rw [c7];intro y a;obtain ⟨r,_,h⟩:=List.mem_flatMap.mp a;simp only [K1,t0,or_false] at h;rcases h with rfl|rfl
 ·rfl
 ·cases r.e<;>rfl
theorem JT (nm:ZR) (rs:List Rc):(mL nm rs).length<=2 * rs.length:=by
 have c :∀a:List Rc,(a.flatMap λ r=>[V.int r.b,cX r.e]).length=2 * a.length:=by
  intro a;induction a with
  | nil=>rfl
  | cons x a ih=>
   have e:((x :: a).flatMap λ r=>[V.int r.b,cX r.e]).length=2 + (a.flatMap λ r=>[V.int r.b,cX r.e]).length:=by rw [List.flatMap_cons,G0];rfl
   rw [e,ih,P0]
   lia
 unfold mL;rw [c];have:=U2 (λ r:Rc=>decide (ff r.n=nm)) rs
 lia
theorem Fh:∀{is:List Nat} {zs:List V},av (λ (i:Nat) y=>ys[i]? = some y) is zs->zs=is.filterMap λ i=>ys[i]?
 | _,_,.nil=>rfl
 | _,_,.cons a r=>by rw [F8 a,<-Fh r]
def jv (rs:List Rc) (os:List Int):Prop:=∀h∈os,∀j r,bD h (rs.map Rc.h)=some j->rs[j]? = some r->r.e=none
def jv.step {rs:List Rc} (D:jv rs os) {e:Ev} (ok:rp os e):jv (aE i rs e) (e_ os e):=by
 cases e with
 | beg h n v x=>
  intro k d j r b c;have u:(aE i rs (.beg h n v x)).map Rc.h=rs.map Rc.h++[h]:=by show (rs++[_]).map Rc.h=_;rw [u1];rfl
  rw [u,tJ] at b;have c:(rs++[_])[j]? = some r:=c;by_cases z:h=k
  ·rw [ZZ z,C0] at b;cases b;rw [L1 (u0 _),B9] at c;cases c;rfl
  ·rw [Z_ z] at b;have d:k∈os++[h]:=d;have t:k∈os:=(List.mem_append.mp d).resolve_right λ y=>z (List.mem_singleton.mp y).symm;have lt:=pM b;rw [C0] at lt;rw [A2 lt] at c;exact D k t j r b c
 | fin h a=>
  intro k d j r b c;obtain ⟨p,l⟩:=List.mem_filter.mp (show k∈os.filter λ k=>decide (k≠h) from d);have l:k≠h:=ZW l;cases hl:bD h (rs.map Rc.h) with
  | none=>
   have g:aE i rs (.fin h a)=rs:=by unfold aE;dsimp only;rw [hl]
   rw [g] at b c;exact D k p j r b c
  | some j0=>
   have g:aE i rs (.fin h a)=rs.modify j0 (λ r=>{ r with a:=a,e:=some i }):=by unfold aE;dsimp only;rw [hl]
   rw [g] at b c;rw [xR (f:=λ r=>{ r with a:=a,e:=some i }) (λ r=>rfl)] at b;have m:=(tq _ hl).1;have o:=(tq _ b).1;have s:j0≠j:=λ e=>by rw [e] at m;rw [m] at o;exact l (A1 o).symm
   rw [W2] at c;obtain ⟨q,w,e⟩:=Option.map_eq_some_iff.mp c;rw [Z_ s] at e;subst e;exact D k p j q b w
noncomputable def cD (h:Int) (rs:List Rc):ZR:=match bD h (rs.map Rc.h) with|some j=>(match rs[j]? with|some r=>ff r.n|none=>"")|none=>""
noncomputable def cV (rs:List Rc):Ev->ZR
 | .beg _ n _ _=>ff n
 | .fin h _=>cD h rs
noncomputable def bZ:Nat->List Rc->List Ev->List ZR
 | _,_,[]=>[]
 | i,rs,e :: es=>cV rs e :: bZ (i + 1) (aE i rs e) es
def jB (nm:ZR) (rs:List Rc) (j:Nat):Prop:=∃r∈rs,ff r.n=nm/\(r.b=j\/r.e=some j)
def N_ {rs:List Rc} (I:cu i rs os) (D:jv rs os) {e:Ev} (ok:rp os e) (nm:ZR):(∀j,j < i->(jB nm (aE i rs e) j↔jB nm rs j))/\(jB nm (aE i rs e) i↔cV rs e=nm):=by
 cases e with
 | beg h n v x=>
  refine ⟨λ j q=>⟨?_,?_⟩,⟨?_,λ e=>?_⟩⟩
  ·rintro ⟨r,c,h1,h2⟩;rcases List.mem_append.mp (show r∈rs++[_] from c) with z|z
   ·exact ⟨r,z,h1,h2⟩
   ·rw [List.mem_singleton.mp z] at h2;rcases h2 with y|y
    ·exact ZV y (X3 q)
    ·cases y
  ·rintro ⟨r,c,h1⟩;exact ⟨r,List.mem_append.mpr (.inl c),h1⟩
  ·rintro ⟨r,c,h1,h2⟩;rcases List.mem_append.mp (show r∈rs++[_] from c) with z|z
   ·rcases h2 with y|y
    ·exact ZV y (G1 (I.b r z))
    ·exact ZV (I.e r z i y) (Y3 _)
   ·rw [List.mem_singleton.mp z] at h1;exact h1
  ·exact ⟨_,List.mem_append.mpr (.inr (List.mem_singleton.mpr rfl)),e,.inl rfl⟩
 | fin h a=>
  have ok:h∈os:=ok;obtain ⟨d,l⟩:=Option.isSome_iff_exists.mp (yr _ (I.m h ok));have o:aE i rs (.fin h a)=rs.modify d (λ r=>{ r with a:=a,e:=some i }):=by unfold aE;dsimp only;rw [l]
  have s:=(tq _ l).1;rw [M0] at s;obtain ⟨f,k,_⟩:=Option.map_eq_some_iff.mp s;have A:=D h ok d f l k;have t:cV rs (.fin h a)=ff f.n:=by show cD h rs=_;unfold cD;rw [l];dsimp only;rw [k]
  have w:(rs.modify d (λ r=>{ r with a:=a,e:=some i }))[d]? = some { f with a:=a,e:=some i }:=by rw [W2,k];show some (if d=d then _ else f)=_;rw [ZZ rfl]
  have get :∀r∈aE i rs (.fin h a),(r={ f with a:=a,e:=some i })\/r∈rs:=λ r c=>by
   rw [o] at c;obtain ⟨m,g⟩:=List.mem_iff_getElem?.mp c;rw [W2] at g;obtain ⟨B,p,e⟩:=Option.map_eq_some_iff.mp g;by_cases z:d=m
   ·subst z;rw [k] at p;cases p;rw [ZZ rfl] at e;exact .inl e.symm
   ·rw [Z_ z] at e;exact .inr (e ▸ K0 p)
  have put :∀r∈rs,r=f\/r∈aE i rs (.fin h a):=λ r c=>by
   obtain ⟨m,g⟩:=List.mem_iff_getElem?.mp c;by_cases z:d=m
   ·subst z;rw [k] at g;exact .inl (A1 g).symm
   ·refine .inr ?_;rw [o];refine K0 (i:=m) ?_;rw [W2,g];show some (if d=m then _ else r)=_;rw [Z_ z]
  have u:{ f with a:=a,e:=some i }∈aE i rs (.fin h a):=by rw [o];exact K0 w
  refine ⟨λ j q=>⟨?_,?_⟩,⟨?_,λ e=>?_⟩⟩
  ·rintro ⟨r,c,h1,h2⟩;rcases get r c with rfl|z
   ·rcases h2 with y|y
    ·exact ⟨f,K0 k,h1,.inl y⟩
    ·exact ZV (A1 y) (X3 q)
   ·exact ⟨r,z,h1,h2⟩
  ·rintro ⟨r,c,h1,h2⟩;rcases put r c with rfl|z
   ·rcases h2 with y|y
    ·exact ⟨_,u,h1,.inl y⟩
    ·rw [A] at y;cases y
   ·exact ⟨r,z,h1,h2⟩
  ·rintro ⟨r,c,h1,h2⟩;rw [t];rcases get r c with rfl|z
   ·exact h1
   ·rcases h2 with y|y
    ·exact ZV y (G1 (I.b r z))
    ·exact ZV (I.e r z i y) (Y3 _)
  ·exact ⟨_,u,by rw [<-e,t],.inr rfl⟩
theorem CC (nm:ZR) :∀{es:List Ev} {i:Nat} {rs:List Rc} {os:List Int},cu i rs os->jv rs os->gA os es->(∀j,j < i->(jB nm (aI i rs es) j↔jB nm rs j))/\∀j z,(bZ i rs es)[j]? = some z->(jB nm (aI i rs es) (i + j)↔z=nm)
 | [],i,rs,os,I,D,_=>⟨λ j c=>Iff.rfl,λ j z e=>by cases e⟩
 | e :: es,i,rs,os,I,D,w=>by
  obtain ⟨g,f⟩:=N_ I D w.1 nm;obtain ⟨b,d⟩:=CC nm (I.step w.1).1 (D.step w.1) w.2;refine ⟨λ j c=>(b j (by lia)).trans (g j c),λ j z a=>?_⟩;cases j with
  | zero=>
   have a:cV rs e=z:=by rw [show (bZ i rs (e :: es))[0]? = some (cV rs e) from rfl] at a;exact A1 a
   rw [j1f];refine (b i (S2 i)).trans (f.trans ?_);rw [a]
  | succ j=>have:=d j z a;rw [show i + (j + 1)=i + 1 + j by lia];exact this
theorem Ob (nm:ZR) (rs:List Rc) (j:Nat):pW nm rs j=true↔jB nm rs j:=by
 unfold pW lg mL jB;rw [b7];constructor
 ·rintro ⟨y,hy,e⟩;obtain ⟨r,d,h⟩:=List.mem_flatMap.mp hy;obtain ⟨c,a⟩:=List.mem_filter.mp d;refine ⟨r,c,ZW a,?_⟩;simp only [K1,t0,or_false] at h;rcases h with rfl|rfl
  ·have e:((r.b:Int) == (j:Int))=true:=e;have:=eq_of_beq e;exact .inl (by lia)
  ·cases re:r.e with
   | none=>rw [re] at e;cases e
   | some m=>rw [re] at e;have e:((m:Int) == (j:Int))=true:=e;have:=eq_of_beq e;exact .inr (by congr 1;lia)
 ·rintro ⟨r,d,c,a⟩;have f:r∈rs.filter λ r=>decide (ff r.n=nm):=List.mem_filter.mpr ⟨d,ZY c⟩;rcases a with y|y
  ·exact ⟨.int (r.b:Nat),List.mem_flatMap.mpr ⟨r,f,R0⟩,by rw [y];exact beq_self_eq_true (j:Int)⟩
  ·refine ⟨cX r.e,List.mem_flatMap.mpr ⟨r,f,W0 _ R0⟩,?_⟩;rw [y];exact beq_self_eq_true (j:Int)
def zK {rs:List Rc} {k:Int} {n:V}:cD k (aE i rs (.beg h n v x))=if h=k then ff n else cD k rs:=by
 unfold cD;have a:(aE i rs (.beg h n v x)).map Rc.h=rs.map Rc.h++[h]:=by show (rs++[_]).map Rc.h=_;rw [u1];rfl
 rw [a,tJ];by_cases z:h=k
 ·rw [ZZ z,ZZ z,C0];show (match (rs++[_])[rs.length]? with|some r=>ff r.n|none=>"")=_;rw [L1 (u0 _),B9];rfl
 ·rw [Z_ z,Z_ z];cases hl:bD k (rs.map Rc.h) with
  | none=>rfl
  | some j=>
   have lt:=pM hl;rw [C0] at lt;show (match (rs++[_])[j]? with|some r=>ff r.n|none=>"")=_;rw [A2 lt]
   try rfl
def Oc {rs:List Rc} {k:Int} {a:V}:cD k (aE i rs (.fin h a))=cD k rs:=by
 cases hl:bD h (rs.map Rc.h) with
 | none=>
  have b:aE i rs (.fin h a)=rs:=by unfold aE;dsimp only;rw [hl]
  rw [b]
 | some j0=>
  have b:aE i rs (.fin h a)=rs.modify j0 (λ r=>{ r with a:=a,e:=some i }):=by unfold aE;dsimp only;rw [hl]
  rw [b];unfold cD;rw [xR (f:=λ r=>{ r with a:=a,e:=some i }) (λ r=>rfl)];cases bD k (rs.map Rc.h) with
  | none=>rfl
  | some j=>
   dsimp only;rw [W2];cases rs[j]? with
   | none=>rfl
   | some r=>
    show ff (if j0=j then _ else r).n=ff r.n;by_cases z:j0=j
    ·rw [ZZ z]
    ·rw [Z_ z]
noncomputable def jr (nm:ZR) (names:List ZR) (ys:List V) (i:Nat):List V:=((B1 i).filter λ j=>decide (names[j]? = some nm)).filterMap λ j=>ys[j]?
def KB {names:List ZR} (hy:ys[i]? = some y):jr nm names ys (i + 1)=jr nm names ys i++if names[i]? = some nm then [y] else []:=by
 unfold jr;rw [E7,N3,j5a];by_cases z:names[i]? = some nm
 ·rw [ZZ z,O2 (by rw [ZY z])];simp [hy]
 ·rw [Z_ z,P2 (by rw [ZX z];decide)];rfl
theorem Bd:∀{es:List Ev} {i:Nat} {rs:List Rc},(bZ i rs es).length=es.length
 | [],_,_=>rfl
 | e :: es,i,rs=>by show (bZ (i + 1) (aE i rs e) es).length + 1=_;rw [Bd];rfl
theorem rO (wf:gA [] es) (hl:ys.length=es.length):jr nm (bZ 0 [] es) ys ys.length=mV nm (aI 0 [] es) ys:=by
 unfold jr mV;congr 1;apply j1a;intro j b;have lt:=List.mem_range.mp b;obtain ⟨z,a⟩ :∃z,(bZ 0 [] es)[j]? = some z:=⟨_,B0 (by rw [Bd];lia)⟩
 have:=(CC nm (es:=es) cu.nil (λ h c=>ZV c t0) wf).2 j _ a;rw [A5] at this;rw [a,Bool.eq_iff_iff,Ob,this,decide_eq_true_eq];exact ⟨λ e=>A1 e,λ e=>by rw [e]⟩
theorem zS:∀{ts:List (ZR×ZR)} {n k k':ZR},(ts.map (·.1)).Nodup->(n,k)∈ts->(n,k')∈ts->k=k'
 | [],_,_,_,_,h,_=>ZV h t0
 | p :: r,n,k,k',nd,h,h'=>by
  rw [C1,List.nodup_cons] at nd;rcases List.mem_cons.mp h with e|e<;>rcases List.mem_cons.mp h' with e'|e'
  ·have:=e.trans e'.symm;injection this
  ·exact ZV (List.mem_map.mpr ⟨_,e',by rw [<-e]⟩) nd.1
  ·exact ZV (List.mem_map.mpr ⟨_,e,by rw [<-e']⟩) nd.1
  ·exact zS nd.2 e e'
noncomputable def dy (nm:ZR):Nat->List Rc->List Ev->List Ev
 | _,_,[]=>[]
 | i,rs,e :: es=>if cV rs e=nm then e :: dy nm (i + 1) (aE i rs e) es else dy nm (i + 1) (aE i rs e) es
theorem Gk {nm:ZR} :∀{es:List Ev} {i:Nat} {rs:List Rc},(dy nm i rs es).length<=es.length
 | [],_,_=>u0 _
 | e :: es,i,rs=>by
  have:=Gk (nm:=nm) (es:=es) (i:=i + 1) (rs:=aE i rs e);show (if cV rs e=nm then e :: dy nm (i + 1) (aE i rs e) es else dy nm (i + 1) (aE i rs e) es).length<=_;rw [P0];split
  ·rw [P0];lia
  ·lia
theorem Kr {rs:List Rc} (e:bD h (rs.map Rc.h)=some j) :∃(r1:List Rc) (r:Rc) (r2:List Rc),rs=r1++r :: r2/\r.h=h/\∀q∈r2,q.h≠h:=by
 have lt:=pM e;rw [C0] at lt;obtain ⟨a,c⟩:=tq _ e;refine ⟨rs.take j,rs[j],rs.drop (j + 1),?_,?_,λ q d z=>?_⟩
 ·rw [<-U3 lt,N2]
 ·rw [M0,B0 lt] at a;exact A1 a
 ·obtain ⟨k,b⟩:=List.mem_iff_getElem?.mp d;rw [W7] at b;refine c (j + 1 + k) (by lia) ?_;rw [M0,b];show some q.h=some h;rw [z]
section
variable {r1 r2:List Rc} {r:Rc}
theorem FB (e:r.h=h) (n :∀q∈r2,q.h≠h):bD h ((r1++r :: r2).map Rc.h)=some r1.length:=by
 obtain ⟨j,b⟩:=Option.isSome_iff_exists.mp (yr ((r1++r :: r2).map Rc.h) (h:=h) (List.mem_map.mpr ⟨r,by simp,e⟩));obtain ⟨a,c⟩:=tq _ b;rcases Nat.lt_trichotomy j r1.length with z|z|z
 ·refine ZV ?_ (c r1.length z);rw [u1,L1 (by rw [C0];exact u0 _),C0,B9];show some r.h=some h;rw [e]
 ·rw [b,z]
 ·rw [u1,L1 (by rw [C0];lia),C0] at a;obtain ⟨k,g⟩ :∃k,j - r1.length=k + 1:=⟨j - r1.length - 1,by lia⟩
  rw [g] at a;have a:(r2.map Rc.h)[k]? = some h:=a;rw [M0] at a;obtain ⟨q,f,d⟩:=Option.map_eq_some_iff.mp a;exact ZV d (n q (K0 f))
def zo {a:V} (e:r.h=h) (n :∀q∈r2,q.h≠h):aE i (r1++r :: r2) (.fin h a)=r1++{ r with a:=a,e:=some i } :: r2:=by
 unfold aE;dsimp only;rw [FB e n];have b :∀r1:List Rc,(r1++r :: r2).modify r1.length (λ r=>{ r with a:=a,e:=some i })=r1++{ r with a:=a,e:=some i } :: r2:=λ r1=>by
  induction r1 with
  | nil=>rfl
  | cons x r1 ih=>show x :: (r1++r :: r2).modify r1.length _=_;rw [ih];rfl
 exact b r1
def Iq (e:r.h=h) (n :∀q∈r2,q.h≠h):cD h (r1++r :: r2)=ff r.n:=by unfold cD;rw [FB e n];dsimp only;rw [L1 (u0 _),B9];rfl
end
noncomputable def rq (φ:Nat->Nat) (r:Rc):Rc:={ r with b:=φ r.b,e:=r.e.map φ }
noncomputable def gO (nm:ZR) (φ:Nat->Nat) (rs:List Rc):List Rc:=(rs.filter λ r=>decide (ff r.n=nm)).map (rq φ)
section
variable {φ:Nat->Nat}
def sS {a b:List Rc}:gO nm φ (a++b)=gO nm φ a++gO nm φ b:=by unfold gO;rw [N3,u1]
def kg {r:Rc} {l:List Rc} (h:ff r.n=nm):gO nm φ (r :: l)=rq φ r :: gO nm φ l:=by unfold gO;rw [O2 (by exact ZY h)];rfl
def kM {r:Rc} {l:List Rc} (h:ff r.n≠nm):gO nm φ (r :: l)=gO nm φ l:=by unfold gO;rw [P2 (by rw [ZX h];decide)]
def uP {l:List Rc} (n :∀q∈l,q.h≠h) :∀q∈gO nm φ l,q.h≠h:=λ q a=>by obtain ⟨c,b,rfl⟩:=List.mem_map.mp a;exact n c (List.mem_filter.mp b).1
def md {rs:List Rc} (I:cu i rs os) (ok:h∈os) :∃(r1:List Rc) (r:Rc) (r2:List Rc),rs=r1++r :: r2/\r.h=h/\∀q∈r2,q.h≠h:=by obtain ⟨j,a⟩:=Option.isSome_iff_exists.mp (yr (rs.map Rc.h) (I.m h ok));exact Kr a
def QN {rs:List Rc} {e:Ev} (I:cu i rs os) (ok:rp os e) (h:cV rs e=nm):aE (φ i) (gO nm φ rs) e=gO nm φ (aE i rs e):=by
 cases e with
 | beg hd n v x=>show gO nm φ rs++[_]=gO nm φ (rs++[_]);rw [sS,kg (r:=⟨hd,n,v,x,.non,i,none⟩) (show ff n=nm from h)];rfl
 | fin hd a=>obtain ⟨d,r,c,rfl,e,n⟩:=md I ok;have b:ff r.n=nm:=(Iq e n).symm.trans h;rw [zo e n,sS,kg b,zo (r:=rq φ r) e (uP n),sS,kg (r:={ r with a:=a,e:=some i }) b];rfl
def pP {rs:List Rc} {e:Ev} (I:cu i rs os) (ok:rp os e) (h:cV rs e≠nm):gO nm φ (aE i rs e)=gO nm φ rs:=by
 cases e with
 | beg hd n v x=>show gO nm φ (rs++[_])=_;rw [sS,kM (r:=⟨hd,n,v,x,.non,i,none⟩) (show ff n≠nm from h)];exact D2 _
 | fin hd a=>obtain ⟨d,r,c,rfl,e,n⟩:=md I ok;have b:ff r.n≠nm:=λ z=>h ((Iq e n).trans z);rw [zo e n,sS,kM (r:={ r with a:=a,e:=some i }) b,sS,kM b]
end
noncomputable def lG (N:List ZR) (nm:ZR) (j:Nat):Nat:=((N.take j).filter λ z=>decide (z=nm)).length
def BP {z:ZR} (h:N[j]? = some z):lG N nm (j + 1)=lG N nm j + if z=nm then 1 else 0:=by
 unfold lG;rw [z8,h,N3,G0];by_cases e:z=nm
 ·rw [ZZ e];show _ + ([z].filter _).length=_;rw [O2 (by exact ZY e)];rfl
 ·rw [Z_ e];show _ + ([z].filter _).length=_;rw [P2 (by rw [ZX e];decide)];rfl
def my {a b:Nat} (h:a<=b):lG N nm a<=lG N nm b:=by unfold lG;rw [show N.take a=(N.take b).take a by rw [List.take_take,M7 h]];exact ((List.take_sublist _ _).filter _).length_le
theorem KQ {a b:Nat} (h:N[a]? = some nm):lG N nm a < lG N nm b↔a < b:=by
 constructor
 ·intro z;refine Nat.not_le.mp λ y=>?_;have:=my (N:=N) (nm:=nm) y
  lia
 ·intro z;have c:=BP (nm:=nm) h;rw [ZZ rfl] at c;have:=my (N:=N) (nm:=nm) (show a + 1<=b from z)
  lia
theorem Fm {nm:ZR} :∀{es:List Ev} {i:Nat} {rs:List Rc} {os:List Int},N.drop i=bZ i rs es->cu i rs os->gA os es->aI (lG N nm i) (gO nm (lG N nm) rs) (dy nm i rs es)=gO nm (lG N nm) (aI i rs es)
 | [],_,_,_,_,_,_=>rfl
 | e :: es,i,rs,os,hN,I,w=>by
  have a:N[i]? = some (cV rs e):=by have:=ZU (λ l:List ZR=>l[0]?) hN;rw [W7,j1f] at this;exact this
  have c:N.drop (i + 1)=bZ (i + 1) (aE i rs e) es:=by have:=ZU List.tail hN;rw [j34] at this;exact this
  have b:=Fm (nm:=nm) c (I.step w.1).1 w.2;show aI _ _ (if cV rs e=nm then e :: dy nm (i + 1) (aE i rs e) es else dy nm (i + 1) (aE i rs e) es)=gO nm _ (aI (i + 1) (aE i rs e) es);by_cases z:cV rs e=nm
  ·rw [ZZ z,<-b,BP a,ZZ z,<-QN I w.1 z];rfl
  ·rw [Z_ z,<-b,BP a,Z_ z,pP I w.1 z];rfl
theorem mw {nm:ZR} :∀{es:List Ev} {i:Nat} {rs:List Rc} {os:List Int},gA os es->gA (os.filter λ h=>decide (cD h rs=nm)) (dy nm i rs es)
 | [],_,_,_,_=>trivial
 | e :: es,i,rs,os,w=>by
  have b:=mw (nm:=nm) (i:=i + 1) (rs:=aE i rs e) w.2;show gA _ (if cV rs e=nm then e :: dy nm (i + 1) (aE i rs e) es else dy nm (i + 1) (aE i rs e) es);cases e with
  | beg h n v x=>
   have d:h∉os:=w.1;have l:os.filter (λ k=>decide (cD k (aE i rs (.beg h n v x))=nm))=os.filter λ k=>decide (cD k rs=nm):=j1a λ k c=>by rw [zK,Z_ (λ z:h=k=>d (by rw [z];exact c))]
   have b:gA ((os++[h]).filter λ k=>decide (cD k (aE i rs (.beg h n v x))=nm)) _:=b;rw [N3,l] at b;by_cases z:cV rs (.beg h n v x)=nm
   ·rw [ZZ z];rw [O2 (by rw [zK,ZZ rfl];exact ZY z)] at b;exact ⟨λ y=>d (List.mem_filter.mp y).1,b⟩
   ·rw [Z_ z];rw [P2 (by rw [zK,ZZ rfl,ZX (show ¬ ff n=nm from z)];decide)] at b;rw [show ([]:List Int).filter _=[] from rfl,D2] at b;exact b
  | fin h a=>
   have g:h∈os:=w.1;have b:gA ((os.filter λ k=>decide (k≠h)).filter λ k=>decide (cD k (aE i rs (.fin h a))=nm)) _:=b;have j:((os.filter λ k=>decide (k≠h)).filter λ k=>decide (cD k (aE i rs (.fin h a))=nm))=(os.filter λ k=>decide (cD k rs=nm)).filter λ k=>decide (k≠h):=by rw [List.filter_filter,List.filter_filter];refine j1a λ k _=>?_;rw [Oc,Bool.and_comm]
   rw [j] at b;by_cases z:cV rs (.fin h a)=nm
   ·rw [ZZ z];exact ⟨List.mem_filter.mpr ⟨g,ZY z⟩,b⟩
   ·rw [Z_ z];have f:((os.filter λ k=>decide (cD k rs=nm)).filter λ k=>decide (k≠h))=os.filter λ k=>decide (cD k rs=nm):=List.filter_eq_self.mpr λ k c=>ZY λ y=>z (by have:=ZW (List.mem_filter.mp c).2;rw [y] at this;exact this);rw [f] at b;exact b
theorem NY {R:Ev->V->Prop} (wf:gA [] es) (al:av R es ys):av R (dy nm 0 [] es) (mV nm (aI 0 [] es) ys):=by
 have j:ys.length=es.length:=cH al;rw [<-rO wf j];have p :∀{b:List Ev} {i:Nat} {rs:List Rc} {f zs:List V} {N:List ZR},av R b f->ys.drop i=f->N.drop i=bZ i rs b->∀d,av R d (jr nm N ys i)->av R (d++dy nm i rs b) (jr nm N ys (i + b.length)):=by
  intro b;induction b with
  | nil=>intro i rs f zs N _ _ _ d h;rw [show dy nm i rs []=[] from rfl,D2];exact h
  | cons e b ih=>
   intro i rs f zs N a m k d h;cases a with
   | @cons _ y _ f a r=>
    have q:N[i]? = some (cV rs e):=by have:=ZU (λ l:List ZR=>l[0]?) k;rw [W7,j1f] at this;exact this
    have o:ys[i]? = some y:=by have:=ZU (λ l:List V=>l[0]?) m;rw [W7,j1f] at this;exact this
    have s:N.drop (i + 1)=bZ (i + 1) (aE i rs e) b:=by have:=ZU List.tail k;rw [j34] at this;exact this
    have n:ys.drop (i + 1)=f:=by have:=ZU List.tail m;rw [j34] at this;exact this
    have g:=KB (nm:=nm) (names:=N) o;rw [q] at g;have c:=λ d h=>ih (zs:=zs) r n s d h;rw [P0,show i + (b.length + 1)=i + 1 + b.length by lia];show av R (d++(if cV rs e=nm then e :: dy nm (i + 1) (aE i rs e) b else dy nm (i + 1) (aE i rs e) b)) _;by_cases z:cV rs e=nm
    ·rw [ZZ (by rw [z])] at g;rw [ZZ z];have:=c (d++[e]) (by rw [g];exact lJ h a)
     rwa [O1] at this
    ·rw [Z_ (λ y=>z (A1 y)),D2] at g;rw [Z_ z];exact c d (by rw [g];exact h)
 have:=p (zs:=[]) (i:=0) (rs:=[]) al rfl rfl [] (show av R [] (jr nm (bZ 0 [] es) ys 0) from .nil);rw [A5,<-j] at this;exact this
def pL {α:Type} (p:α->Bool) (l:List α) :∃J:List Nat,(∀a n:Nat,J[a]? = some n->∃x,l[n]? = some x/\p x=true/\(l.filter p)[a]? = some x)/\(∀(n:Nat) x,l[n]? = some x->p x=true->∃a:Nat,J[a]? = some n)/\(∀(a:Nat) x,(l.filter p)[a]? = some x->∃n:Nat,J[a]? = some n)/\∀a b n:Nat,J[a]? = some n->J[b]? = some n->a=b:=by
 have e:l.filter p=(l.zipIdx.filter λ z=>p z.1).map (·.1):=by have:=j29 (f:=Prod.fst) (p:=p) (l:=l.zipIdx);rw [List.zipIdx_map_fst] at this;exact this
 refine ⟨(l.zipIdx.filter λ z=>p z.1).map (·.2),λ a n h=>?_,λ n x o k=>?_,λ a x h=>?_,λ a b n d m=>?_⟩
 ·rw [M0] at h;obtain ⟨⟨x,q⟩,c,rfl⟩:=Option.map_eq_some_iff.mp h;obtain ⟨i,g⟩:=List.mem_filter.mp (K0 c);exact ⟨x,List.mk_mem_zipIdx_iff_getElem?.mp i,g,by rw [e,M0,c];rfl⟩
 ·obtain ⟨a,d⟩:=List.mem_iff_getElem?.mp (List.mem_filter.mpr ⟨List.mk_mem_zipIdx_iff_getElem?.mpr o,k⟩:(x,n)∈l.zipIdx.filter λ z=>p z.1);exact ⟨a,by rw [M0,d];rfl⟩
 ·rw [e,M0] at h;obtain ⟨z,c,_⟩:=Option.map_eq_some_iff.mp h;exact ⟨z.2,by rw [M0,c];rfl⟩
 ·have j:((l.zipIdx.filter λ z=>p z.1).map (·.2)).Nodup:=by refine List.Sublist.nodup ((List.filter_sublist (p:=λ z=>p z.1) (l:=l.zipIdx)).map (·.2)) ?_;rw [List.zipIdx_map_snd];exact List.nodup_range'
  exact (B8 (List.getElem?_eq_some_iff.mp d).1 j).mp (d.trans m.symm)
theorem Bs {α β:Type} {R:α->β->Prop} :∀{xs:List α} {ys:List β},av R xs ys->∀z∈xs.zip ys,R z.1 z.2
 | _,_,.nil,_,h=>ZV h t0
 | _,_,.cons a r,z,h=>by
  rcases List.mem_cons.mp h with e|e
  ·rw [e];exact a
  ·exact Bs r z e
theorem GV {α β γ:Type} {R:β->γ->Prop} {f:α->β} {g:α->γ} :∀{l:List α},(∀z∈l,R (f z) (g z))->av R (l.map f) (l.map g)
 | [],_=>.nil
 | z :: l,h=>.cons (h z R0) (GV λ x a=>h x (W0 _ a))
noncomputable def nU (nm:ZR) (rs:List Rc) (ps:List DD):List DD:=((rs.zip ps).filter λ z=>decide (z.2.nm=nm)).map (·.2)
theorem zA {nm:ZR} {φ:Nat->Nat} :∀{rs:List Rc} {ps:List DD},av (dq K H ts) rs ps->gO nm φ rs=((rs.zip ps).filter λ z=>decide (z.2.nm=nm)).map λ z=>rq φ z.1
 | _,_,.nil=>rfl
 | r :: rs,p :: ps,.cons a al=>by
  have b:=zA (nm:=nm) (φ:=φ) al;have e:ff r.n=p.nm:=by rw [a.1];rfl
  rw [U7];by_cases z:p.nm=nm
  ·rw [kg (e.trans z),O2 (by exact ZY z),C1,b]
  ·rw [kM (λ y=>z (e.symm.trans y)),P2 (by rw [ZX z];decide),b]
section
variable {k:ZR} 
def mS (wf:gA [] es):aI 0 [] (dy nm 0 [] es)=gO nm (lG (bZ 0 [] es) nm) (aI 0 [] es):=Fm (N:=bZ 0 [] es) (nm:=nm) (i:=0) (rs:=[]) rfl cu.nil wf
def kept (wf:gA [] es) :∀r∈aI 0 [] es,ff r.n=nm->∀x,r.e=some x->(bZ 0 [] es)[x]? = some nm:=λ r b f x c=>by
 obtain ⟨_,g,I⟩:=cu.all cu.nil wf;have lt:=I.e r b x c;rw [A5] at lt;obtain ⟨z,a⟩ :∃z,(bZ 0 [] es)[x]? = some z:=⟨_,B0 (by rw [Bd];exact lt)⟩
 have:=(CC nm (es:=es) cu.nil (λ h d=>ZV d t0) wf).2 x _ a;rw [A5] at this;rw [a,this.mp ⟨r,b,f,.inr c⟩]
theorem lV (wf:gA [] es) (gd:av (dq K H ts) (aI 0 [] es) ps) :∃J,ox (aI 0 [] es) ps nm (aI 0 [] (dy nm 0 [] es)) (nU nm (aI 0 [] es) ps) J:=by
 have B:=kept (nm:=nm) wf;have F:=cH gd;rw [mS wf,zA gd];unfold nU;generalize aI 0 [] es=rs at *;obtain ⟨J,j,s,o,y⟩:=pL (λ z:Rc×DD=>decide (z.2.nm=nm)) (rs.zip ps);refine ⟨J,λ a n h=>?_,λ n p k e=>?_,λ a G h=>?_,y,λ a b n w m D=>?_⟩
 ·obtain ⟨⟨r,p⟩,f,i,c⟩:=j a n h;obtain ⟨d,l⟩:=List.getElem?_zip_eq_some.mp f;exact ⟨r,p,rq _ r,d,l,ZW i,by rw [M0,c];rfl,by rw [M0,c];rfl,rfl,by show (r.e.map _).isNone=_;cases r.e<;>rfl⟩
 ·have A:rs[n]? = some (rs[n]'(by have:=(List.getElem?_eq_some_iff.mp k).1;lia)):=B0 _;exact s n (_,p) (List.getElem?_zip_eq_some.mpr ⟨A,k⟩) (ZY e)
 ·rw [M0] at h;obtain ⟨z,u,_⟩:=Option.map_eq_some_iff.mp h;exact o a z u
 ·obtain ⟨⟨r,p⟩,f,i,c⟩:=j a n m;obtain ⟨⟨q,I⟩,t,L,v⟩:=j b w D;obtain ⟨d,l⟩:=List.getElem?_zip_eq_some.mp f;obtain ⟨E,_⟩:=List.getElem?_zip_eq_some.mp t;have g:=Bs gd (r,p) (K0 f);have C:ff r.n=nm:=by rw [g.1];exact ZW i
  rw [pD (r:=rq _ r) (q:=rq _ q) (by rw [M0,c];rfl) (by rw [M0,v];rfl),pD d E];show lu (r.e.map _) _=lu r.e q.b;cases he:r.e with
  | none=>rfl
  | some x=>exact decide_eq_decide.mpr (KQ (B r (K0 d) C x he))
def JR (nd:(ts.map (·.1)).Nodup) (wf:gA [] es) (gd:av (dq K H ts) (aI 0 [] es) ps):nB ts (aI 0 [] es) ps↔∀t∈ts,nB [t] (aI 0 [] (dy t.1 0 [] es)) (nU t.1 (aI 0 [] es) ps):=by
 obtain ⟨_,m,I⟩:=cu.all cu.nil wf;have d :∀{c:Nat} {t:ZR×ZR},ts[c]? = some t->((ts[c]?.map (·.1)).getD "" : ZR)=t.1:=λ h=>by rw [h];rfl
 refine (Mv (RS:=λ c=>aI 0 [] (dy ((ts[c]?.map (·.1)).getD "") 0 [] es)) (PS:=λ c=>nU ((ts[c]?.map (·.1)).getD "") (aI 0 [] es) ps) (J:=λ c=>M5 (lV (nm:=(ts[c]?.map (·.1)).getD "") wf gd)) nd (cH gd) (λ p j=>?_) (λ n k r i le e f=>?_) λ c t a=>?_).trans ⟨λ h t a=>?_,λ h c t a=>?_⟩
 ·obtain ⟨n,l⟩:=List.mem_iff_getElem?.mp j;obtain ⟨r,_,g⟩:=fF gd l;obtain ⟨c,b⟩:=List.mem_iff_getElem?.mp g.2.2.1;exact ⟨c,_,b,rfl⟩
 ·rcases Nat.lt_or_eq_of_le le with z|z
  ·exact T3 (I.p n k r i z e f).1
  ·rw [z,f] at e;cases e;exact u0 _
 ·have:=G6 (lV (nm:=(ts[c]?.map (·.1)).getD "") wf gd)
  rwa [d a] at this⊢
 ·obtain ⟨c,b⟩:=List.mem_iff_getElem?.mp a;have:=h c t b
  rwa [d b] at this
 ·show nB [t] (aI 0 [] (dy ((ts[c]?.map (·.1)).getD "") 0 [] es)) (nU ((ts[c]?.map (·.1)).getD "") (aI 0 [] es) ps);rw [d a];exact h t (K0 a)
end
end
section
def Hg (K:b0):Sp:=λ vs H Q _=>∃(t pt:ZS) (ev:V) (ts:List (ZR×ZR)) (nm:ZR),vs=[.ref t,.str nm]/\aH K H t [.ref pt,ev]/\gG H pt ts/\ts.length<=6/\
 nm∈ts.map (·.1)/\∀b k,(nm,k)∈ts->H b=some (.tup [.str nm,.str k])->Q (.ref b) H
theorem Ny (T:TX (kx w) mg):Fo P w mg base CX0 1 243 zD ["tale","name"] (Hg (kx w)):=by
 refine (Cp w.params).ok fC (λ x H Q E h=>?_) (λ L A M s H x Q E J h=>?_)
 ·obtain ⟨t,pt,C,k,g,rfl,_⟩:=h;rfl
 ·obtain ⟨t,pt,C,k,g,rfl,D,⟨m,o,n⟩,I,F,q⟩:=h;refine ⟨_,(aV (aN (cA (fD pd rfl (T.no (oA _)) Q4 (ao (pv 1) (ao (oy (v:=.ty "str") rfl (T.no (ky _)) boot_str rfl) ae))) (λ _=>rfl))
   (aU (bO U1 rfl (eF (aq aj (pv 0) ag (λ _ _=>rfl))) (eY (i:=2) fC.nd rfl (Y0 rfl))
   (aU (aN (cI bP (aq aj (pv 2) ag (λ _ _=>rfl)) (pv 1) (aC _))
   (aU (au (pv 2)))
   dG))))
   dG)
   (aU wW)),?_⟩
  have r:m.length=k.length:=cH n;refine ⟨_,rfl,_,_,"str",rfl,rfl,by decide +kernel,_,rfl,bw (by decide) ?_⟩;refine ⟨_,rfl,.inr (.inl ⟨t,_,0,.ref pt,rfl,rfl,D,bG (j:=0) rfl,pt,rfl,⟨_,aH.of o⟩,?_⟩)⟩;refine GR (K:=KX w.params) (a:=pt) (xs:=m) (λ i σ d=>d=H/\(∀j t,j < i->k[j]? = some t->t.1≠g)/\∃x2,σ=[some (.ref t),some (.str g),x2]) ⟨rfl,λ j t c=>ZV c (L4 _),_,rfl⟩ (λ _ σ d _ h=>by rw [h.1];exact aH.of o) ?_ ?_
  ·rintro i y σ d G ⟨rfl,hno,x2,rfl⟩;obtain ⟨tt,f,b,rfl,p⟩:=fF n G;refine aF ?_;refine ⟨_,rfl,.inr (.inl ⟨b,_,0,.str tt.1,rfl,rfl,aH.of p,bG (j:=0) rfl,_,rfl,rfl,_,rfl,?_⟩)⟩;by_cases z:tt.1=g
   ·refine bw (ZY (by rw [z])) ⟨_,rfl,?_⟩;have B:=K0 f;exact q b tt.2 (by rw [<-z];exact B) (by rw [<-z];exact p)
   ·refine bM (λ e=>z (by have:=ZW e;injection this)) ⟨rfl,λ j u c l=>?_,_,rfl⟩;rcases Nat.lt_or_ge j i with y|y
    ·exact hno j u y l
    ·have:j=i:=by lia
     subst this;rw [f] at l;cases l;exact z
  ·rintro σ d ⟨rfl,hno,x2,rfl⟩;obtain ⟨tt,f,e⟩:=List.mem_map.mp F;obtain ⟨j,c⟩:=List.mem_iff_getElem?.mp f;exact ZV e (hno j tt (by rw [r];exact (List.getElem?_eq_some_iff.mp c).1) c)
theorem Qy (h:es.length<=100):(aI 0 [] es).length<=100:=by
 have d :∀(i:Nat) (b:List Rc) (e:Ev),(aE i b e).length<=b.length + 1:=λ i b e=>by
  cases e with
  | beg hd n v x=>show (b++[_]).length<=_;rw [G0];exact u0 _
  | fin hd a=>
   unfold aE;dsimp only;cases bD hd (b.map Rc.h) with
   | none=>exact C3 _
   | some j=>show (b.modify j _).length<=_;rw [n5];exact C3 _
 have c :∀(es:List Ev) (i:Nat) (b:List Rc),(aI i b es).length<=b.length + es.length:=by
  intro es;induction es with
  | nil=>intro i b;exact u0 _
  | cons e es ih=>
   intro i b;have g:=ih (i + 1) (aE i b e);have f:=d i b e;show (aI (i + 1) (aE i b e) es).length<=_;rw [P0]
   lia
 have:=c es 0 [];rw [F7,A5] at this
 lia
structure mq (K:b0) (H:Hp) (t pt te:ZS) (ts:List (ZR×ZR)) (es:List Ev) (ys:List V):Prop where
 t:aH K H t [.ref pt,.ref te]
 th:gG H pt ts
 l6:ts.length<=6
 te:aH K H te ys
 ev:av (fm K H) es ys
 ln:es.length<=100
 wf:oZ 0 [] es
 nm :∀e∈es,xY e
def mq.same {t pt te:ZS} (s:af H H') (h:mq K H t pt te ts es ys):mq K H' t pt te ts es ys:=
 ⟨s.seqT h.t,h.th.tt (.of (K:=K) s),h.l6,s.seqT h.te,bI (λ _ _ z=>fm.tups (.of s) z) h.ev,h.ln,h.wf,h.nm⟩
def Dv (K:b0):Sp:=λ vs H Q _=>∃(t pt te:ZS) (ts:List (ZR×ZR)) (es:List Ev) (ys:List V) (nm:ZR),vs=[.ref t,.str nm]/\mq K H t pt te ts es ys/\
 nm∈ts.map (·.1)/\∀p a b c k H',af H H'->H' p=some (.tup [.ref a,.ref b])->H' a=some (.tup [.ref c])->(nm,k)∈ts->H' c=some (.tup [.str nm,.str k])->H' b=some (.tup (mV nm (aI 0 [] es) ys))->Q (.ref p) H'
theorem QG (T:TX (kx w) mg) (c0:Ca P w mg base "thing_named" ["tale","name"] 1 (Hg (kx w))) (c1:Ca P w mg base "deeds" ["tale"] 1 (xI (kx w))):Fo P w mg base CX0 2 236 AD ["tale","name"] (Dv (kx w)):=by
 refine (jN w.params).ok gM (λ vs H Q E h=>?_) (λ b1 A b2 s H vs Q E hr h=>?_)
 ·obtain ⟨t,pt,O,ts,U,B,d,rfl,_⟩:=h;rfl
 ·obtain ⟨t,pt,O,ts,U,B,d,rfl,u,hm,q⟩:=h;refine ⟨_,(aV (aA (i:=2) gM.nd rfl (Y0 rfl) (aB c0 (hr.mono (by decide)) rfl (ao (pv 0) (ao (pv 1) ae))))
   (aV (aA (i:=3) gM.nd rfl (X0 rfl) (aY ae))
   (aV (bO U1 rfl (lN (aB c1 (hr.mono (by decide)) rfl (ao (pv 0) ae))) (eY (i:=4) gM.nd rfl (Y0 rfl))
   (aU (aN (cI bP (aq aj (pv 4) ag (λ _ _=>rfl)) (pv 1) (aC _))
   (aU (lr (PZ (pv 3) (ao (nD fP (pv 4) (kZ ag) nE) ae))))
   dG)))
   (aU (au (aD (ao (aD (ao (pv 2) ae)) (ao (kK nh rfl (T.no (lq _)) G4 (ao (dS (xs:=["place","event"]) (g:=ic (kx w) 2 (cN (bh 0) (cN (bh 1) ig))) (fr:=[(3,"places")]) (Ds rfl (T.no (tG _)) (ao (aq aj (pv 0) ag (λ _ _=>rfl)) ae)) (λ _ _ _ _ _=>(bH rfl (eJ (bK (N:=["place","event","places"]) 0) (eJ (bK (N:=["place","event","places"]) 1) iq)))) (λ _ _ _ _ _=>(eO (cI (De (K:=KX w.params) rfl) (pv 0) (pv 2) (by with_unfolding_all rfl)))) (λ _ _ _ _ _=>(pv 1))) ae)) ae)))))))),?_⟩
  refine ⟨_,rfl,_,rfl,t,pt,_,ts,d,rfl,u.t,u.th,u.l6,hm,λ c k hk ec=>?_⟩;have a0:=FV (i:=0) (rs:=[]) (λ _ z=>ZV z t0) u.nm;have a5:=Qy u.ln;refine ⟨jk,λ D a3=>?_⟩;obtain ⟨H1,W,s1,e1⟩:=eL (.lst []) a3;rw [<-W];have F:=u.same s1;refine ⟨_,rfl,t,O,.ref pt,B,U,rfl,F.t,F.te,F.ev,F.ln,F.wf,λ l J H2 s2 a2 el Y=>⟨l,rfl,⟨_,aK.of el⟩,?_⟩⟩;have a8:l≠D:=λ z=>by rw [z,e1] at a2;cases a2
  generalize hrs:aI 0 [] U=rs at Y a0 a5 q;have lz:J.length=rs.length:=cH Y;refine pT (K:=KX w.params) (a:=l) (xs:=J) (λ i σ G=>af H G/\G l=some (.lst J)/\av (RcAt (kx w) G) rs J/\G D=some (.lst (mL d (rs.take i)))/\∃x4,σ=[some (.ref t),some (.str d),some (.ref c),some (.ref D),x4]) ⟨s1.trans s2,el,Y,s2 _ _ e1,_,rfl⟩ (λ _ σ G _ h=>aK.of h.2.1) ?_ ?_
  ·rintro i x σ H3 R ⟨s3,el3,al3,ep3,x4,rfl⟩;obtain ⟨r,S,px,rfl,C⟩:=fF al3 R;have hn:=a0 r (K0 S);have b0:i < rs.length:=(List.getElem?_eq_some_iff.mp S).1;have tk:rs.take (i + 1)=rs.take i++[r]:=by rw [List.take_succ,S];rfl
   refine aF ?_;refine ⟨_,rfl,.inr (.inl ⟨px,_,1,.str (ff r.n),rfl,rfl,C,bG (j:=1) (by rw [<-hn];rfl),_,rfl,rfl,_,rfl,?_⟩)⟩;have M:mL d (rs.take (i + 1))=mL d (rs.take i)++(if ff r.n=d then [V.int r.b,cX r.e] else []):=by
    unfold mL;rw [tk,N3,List.flatMap_append];by_cases z:ff r.n=d
    ·rw [ZZ z,show [r].filter (λ r=>decide (ff r.n=d))=[r] by simp [z]];rfl
    ·rw [Z_ z,show [r].filter (λ r=>decide (ff r.n=d))=[] by simp [z]];rfl
   by_cases z:ff r.n=d
   ·refine bw (ZY (by rw [z])) ?_;rw [ZZ z] at M;refine ⟨_,rfl,.inl ⟨rfl,_,aK.of ep3⟩,_,rfl,_,rfl,.inr (.inl ⟨px,_,rfl,C,λ y=>ZV y.1 (show ¬ HT.sIx 7 0 (some 5)=0 by decide),λ p4 a6=>?_⟩)⟩;have c4:bY [.int r.h,r.n,r.v,r.x,r.a,.int r.b,cX r.e] (some 5) none=[V.int r.b,cX r.e]:=rfl;rw [c4];obtain ⟨H4,W,f,e4⟩:=eL (.tup [V.int r.b,cX r.e]) a6;rw [<-W];have I:=f _ _ ep3;refine ⟨D,p4,_,_,rfl,rfl,I,aH.of e4,D0 (m:=300) ?_ (by decide),?_⟩
    ·have h1:=JT d (rs.take i);have h2:(rs.take i).length<=rs.length:=by rw [A3];lia
     show (mL d (rs.take i)).length + 2<=300
     lia
    ·rw [<-M];have T5:bA (kx w) H4 (upd H4 D (.lst (mL d (rs.take (i + 1))))):=bA.lst I;exact ⟨af.keep (s3.trans f) a3,by rw [ak a8];exact f _ _ el3,bI (λ _ _ y=>RcAt.tups ((bA.of f).trans T5) y) al3,ab,_,rfl⟩
   ·refine bM (λ e=>z (by have:=ZW e;injection this)) ?_;rw [Z_ z,D2] at M;exact ⟨s3,el3,al3,by rw [M];exact ep3,_,rfl⟩
  ·rintro σ H3 ⟨s3,el3,al3,ep3,x4,rfl⟩;rw [lz,Y6] at ep3;refine ⟨_,rfl,lC,λ a ha=>?_⟩;have f:=af.upd (o:=.tup [.ref c]) ha;have a1:upd H3 a (.tup [.ref c]) a=some (.tup [.ref c]):=ab;have I:=f _ _ ep3;have L:=u.same (s3.trans f);have X:=s3.trans f;generalize upd H3 a (.tup [.ref c])=H4 at f a1 I L X⊢;refine Mq ?_;refine QF (K:=KX w.params) (a:=O) (xs:=B) (λ i=>pW d rs i) (λ i y _=>B[i]? = some y) (λ _ _ _ _ _ z=>z) (λ T' h=>⟨_,rfl,.inr (.inl ⟨t,_,1,.ref O,rfl,rfl,L.t,bG (j:=1) rfl,h⟩)⟩) L.te ?_ ?_ ?_
   ·rw [cH L.ev];exact D0 u.ln (by decide)
   ·rintro i hi v H5 Z ⟨x,p',R,rfl,ep⟩ KT KF h1 h2;refine ⟨p',_,rfl,aH.of ep,rfl,_,_,rfl,_,_,rfl,rfl,[some (.int (i:Nat)),some x],rfl,rfl,?_⟩;refine ⟨_,rfl,_,rfl,D,_,rfl,.inl (aK.of (Z _ _ I)),rfl,Ko _ _,_,rfl,?_⟩;rw [Z_ O0];by_cases z:pW d rs i=true
    ·exact bw z ⟨_,rfl,h1 z _ _ (af.refl _) R⟩
    ·exact bM z (h2 (by simpa using z) _ (af.refl _))
   ·intro l5 H5 a9 Z a7 a4;have ez:=Fh a4;subst ez;have s6:=af.upd (o:=.lst (((B1 B.length).filter λ i=>pW d rs i).filterMap λ i=>B[i]?)) a7;refine ⟨l5,_,rfl,.inl ⟨aK.of ab,λ b hb=>⟨cZ,λ p hp=>?_⟩⟩⟩;have s7:=af.upd (o:=.tup (((B1 B.length).filter λ i=>pW d rs i).filterMap λ i=>B[i]?)) hb;have s8:=af.upd (o:=.tup [.ref a,.ref b]) hp;have C:=((Z.trans s6).trans s7).trans s8;exact q p a b c k _ (X.trans C) ab (C _ _ a1) hk ((X.trans C) _ _ ec) (s8 _ _ ab)
def kU.part {t c:ZS} {k:ZR} (tp:kU K H t ts es ps) (hm:(nm,k)∈ts) (s:af H H') (al:av (fm K H) es ys) (ep:H' p=some (.tup [.ref a,.ref b])) (ea:H' a=some (.tup [.ref c])) (ec:H' c=some (.tup [.str nm,.str k])) (eb:H' b=some (.tup (mV nm (aI 0 [] es) ys))):kU K H' p [(nm,k)] (dy nm 0 [] es) (nU nm (aI 0 [] es) ps):=by
 obtain ⟨_,ok,u,d,g,n⟩:=tp;refine ⟨⟨a,b,_,ep,⟨[.ref c],ea,.cons ⟨c,rfl,ec⟩ .nil⟩,eb,NY d (bI (λ _ _ z=>fm.tups (.of s) z) al)⟩,⟨(show (1:Nat)<=6 by decide),j49 _ _,λ t o=>?_⟩,D0 Gk u,mw (rs:=[]) d,?_,?_⟩
 ·rw [List.mem_singleton.mp o];exact ok.ks _ hm
 ·rw [mS d,zA g];refine GV λ z r=>?_;obtain ⟨v,i⟩:=List.mem_filter.mp r;obtain ⟨m,B,j,A,C,y,q⟩:=(Bs g z v).tt (.of s);have e:z.2.nm=nm:=ZW i;have l:z.2.k=k:=zS ok.nd (e ▸ j) hm;refine ⟨m,B,List.mem_singleton.mpr (by rw [e,l]),A,C,y,?_⟩;show (z.1.e.map _=none/\_)\/((z.1.e.map _).isSome=true/\_);rcases q with ⟨h,f⟩|⟨h,f⟩
  ·exact .inl ⟨by rw [h];rfl,f⟩
  ·refine .inr ⟨?_,f⟩;obtain ⟨x,w⟩:=Option.isSome_iff_exists.mp h;rw [w];rfl
 ·rw [mS d];unfold gO;rw [C0];exact D0 (U2 _ _) n
def tK (ts:List (ZR×ZR)) (N d:Nat) (pl:Pl):Prop:=eV ts N pl.1.length pl/\pl.1.length=d
def oj (K:b0) (H:Hp) (pl:Pl) (y:V):Prop:=∃p,y=.ref p/\jC K H p pl
def oj.same {pl:Pl} (s:af H H') (h:oj K H pl y):oj K H' pl y:=h.elim λ p z=>⟨p,z.1,z.2.tups (.of s)⟩
theorem HP (h:dX K H G ks) :∀(is:List Nat),(∀i∈is,i < ks.length)->∃pls,av (oj K H) pls (is.map λ i=>V.ref (ks.getD i (.none,0)).2)/\(∀pl∈pls,G pl)/\pls.length=is.length
 | [],_=>⟨[],.nil,λ _ z=>ZV z t0,rfl⟩
 | i :: is,hi=>by
  obtain ⟨pls,b,a,c⟩:=HP h is λ j e=>hi j (W0 _ e);have l:=hi i R0;obtain ⟨pl,_,z,g⟩:=h ks[i] (i6 l);refine ⟨pl :: pls,.cons ⟨_,rfl,?_⟩ b,λ p d=>?_,by rw [P0,P0,c]⟩
  ·rw [m3,B0 l];exact z
  ·rcases List.mem_cons.mp d with y|y
   ·rw [y];exact g
   ·exact a p y
def RD (e:H r=some (.lst us)):bA K H (hide r H):=λ a b h=>by
 rcases h with (h|⟨ob,h⟩)|h
 ·exact .inl (.inl (jH (λ z=>by rw [z,e] at h;cases h) h))
 ·exact .inl (.inr ⟨ob,jH (λ z=>by rw [z,e] at h;cases h) h⟩)
 ·exact .inr h
def IH (K:b0):Sp:=λ vs H Q _=>∃(b l:ZS) (d:Nat) (rs:List Rc) (ts:List (ZR×ZR)) (ps:List DD) (pls:List Pl) (ys:List V) (m:Nat),vs=[.ref b,.ref l]/\js K H m rs ts ps b/\av (dq K H ts) rs ps/\ko ts/\rs.length<=7/\pls.length<=823543/\H l=some (.lst ys)/\av (oj K H) pls ys/\(∀pl∈pls,tK ts rs.length d pl)/\
 ∀l' ys' pls' H',af H H'->H l'=none->H' l'=some (.lst ys')->av (oj K H') pls' ys'->(∀pl∈pls',tK ts rs.length (d + 1) pl)->pls'.length<=pls.length * 7->Q (.ref l') H'
theorem Rx (T:TX (kx w) mg) (c0:Fo P w mg base CX0 7 288 vn ["self","place"] (BL (kx w))):Fo P w mg base CX0 8 345 zT ["board","layer"] (IH (kx w)):=by
 refine (Aw w.params).ok da (λ vs H Q E h=>?_) (λ b8 A b9 s H vs Q E J h=>?_)
 ·obtain ⟨b,l,d,x,B,S,G,I,m,rfl,_⟩:=h;rfl
 ·obtain ⟨b,l,d,x,B,S,G,I,m,rfl,bo,gd,ok,rl,lb,O,al,pg,q⟩:=h;refine ⟨_,(aV (aA (i:=2) da.nd rfl (Y0 rfl) Fy)
   (aV (bO U1 rfl (lN (pv 1)) (eY (i:=3) da.nd rfl (Y0 rfl))
   (aU (bO U1 rfl (lN (xp (pv 0) (ly _) (DA _) c0 (J.mono (by decide)) (DT _) .nil ir (ao (pv 3) ae))) (eY (i:=4) da.nd rfl (Y0 rfl))
   (aU (zC J (pv 2) (aq aj (pv 4) ag (λ _ _=>rfl)) eC rfl)))))
   (aU (au (fD (Me J) rfl (T.no (sW _)) Y8 (ao (pv 2) ae)))))),?_⟩
  obtain ⟨dx,fs,eb,bf⟩:=id bo;refine gB ?_;intro c R;refine aF ?_;have L:=af.upd (o:=cb c []) R;have e1:upd H c (cb c []) c=some (cb c []):=ab;have W:af H (hide c (upd H c (cb c []))):=λ p o e=>jH (λ z=>by rw [z,R] at e;cases e) (L _ _ e);generalize upd H c (cb c [])=H1 at L e1 W⊢;refine ⟨_,rfl,l,rfl,⟨_,aK.of (L _ _ O)⟩,?_⟩;refine pT (K:=KX w.params) (a:=l) (xs:=I) (λ i σ f=>∃ks,af H (hide c f)/\f c=some (cb c ks)/\dX (kx w) (hide c f) (tK B x.length (d + 1)) ks/\ks.length<=i * 7/\∃x3 x4,σ=[some (.ref b),some (.ref l),some (.ref c),x3,x4])
   ⟨[],W,e1,(λ k v=>ZV v t0),S1 _,_,_,rfl⟩ (λ i σ f _ h=>aK.of (aO _ _ (h.choose_spec.1 _ _ O))) ?_ ?_
  ·rintro i y σ F hy ⟨ks,s2,e2,ki,kl,x3,x4,rfl⟩;obtain ⟨u,a5,p,rfl,pz⟩:=fF al hy;have g:=pg u (K0 a5);have n:af H F:=s2.trans aO;refine aF ?_;refine ⟨_,rfl,b,dx,fs,rfl,n _ _ eb,bf.nm _ (by simp),_,rfl,b,p,m,_,x,B,S,u,rfl,bo.same n,bI (λ _ _ z=>dq.tt (.of n) z) gd,ok,pz.tups (.of n),g.1,by lia,λ D C H3 t a4 a7 X=>⟨D,rfl,⟨_,aK.of a7⟩,?_⟩⟩;have e3:=t _ _ e2;have b0:D≠c:=λ z=>by rw [z,e2] at a4;cases a4
   have U:=ui (r:=c) t;have b4:=bI (λ _ _ z=>fe.tups (Pm e3) z) X;have y5:C.length<=7:=by rw [cH X];exact D0 AR rl
   have i5:i < G.length:=(List.getElem?_eq_some_iff.mp a5).1;have nx:=Cq gd ok g.1 (by lia) (m:=m);refine pT (K:=KX w.params) (a:=D) (xs:=C) (λ j σ f=>∃ks,af (hide c H3) (hide c f)/\f c=some (cb c ks)/\dX (kx w) (hide c f) (tK B x.length (d + 1)) ks/\ks.length<=i * 7 + j/\∃x4,σ=[some (.ref b),some (.ref l),some (.ref c),some (.ref p),x4])
    ⟨ks,af.refl _,e3,ki.same U,kl,_,rfl⟩ (λ j σ f _ h=>aK.of (aO _ _ (h.choose_spec.1 _ _ (jH b0 a7)))) ?_ ?_
   ·rintro j y σ H4 a6 ⟨ks4,s4,e4,ki4,kl4,x4,rfl⟩;obtain ⟨st,b6,b5,Z,rfl,a9,b1⟩:=fF b4 a6;have M:=nx st (K0 b6);have j5:j < C.length:=(List.getElem?_eq_some_iff.mp a6).1;have b3:af (hide c H3) H4:=s4.trans aO;have N:=b1.tups (.of s4);refine aF ?_;refine ⟨_,rfl,_,rfl,.inr (.inl ⟨b5,_,2,.ref Z,rfl,rfl,b3.seqT a9,bG (j:=2) rfl,c,Z,ks4,dm st.2.2,rfl,rfl,rfl,e4,(ki4.same aO).at_ (.inl e4),T1 (m:=6000000) (by lia) (by decide),fR _,fW _,gQ (N.tups (.of aO)),?_⟩)⟩;refine ⟨_,?_,ab,?_,D0 wA (by lia),_,rfl⟩
    ·rw [uf];exact s4
    ·rw [uf];exact ki4.put N ⟨M.1,by rw [M.2,g.2]⟩
   ·rintro σ H4 ⟨ks4,s4,e4,ki4,kl4,x4,rfl⟩;exact ⟨ks4,(s2.trans U).trans s4,e4,ki4,by lia,_,_,rfl⟩
  ·rintro σ F ⟨ks,s2,e2,ki,kl,x3,x4,rfl⟩;have yl:I.length=G.length:=cH al;refine ⟨_,rfl,c,ks,rfl,(ki.same aO).at_ (.inl e2),λ k v=>?_,λ k v k' b2 _=>?_,λ l' a0=>?_⟩
   ·obtain ⟨u,e,_⟩:=ki k v;rw [e];exact pZ u
   ·obtain ⟨u,e,_,g⟩:=ki k v;obtain ⟨b7,e',_,g'⟩:=ki k' b2;rw [e,e'];exact ur g.1 g'.1
   ·have Y:=z_ (ks.map (·.1));obtain ⟨a8,a1,a2,a3⟩:=HP (ki.same aO) (gq (ks.map (·.1))) λ i hi=>by
     have:=List.mem_range.mp (Y.mem_iff.mp hi)
     rwa [C0] at this
    have t:=af.upd (o:=.lst ((gq (ks.map (·.1))).map λ i=>V.ref (ks.getD i (.none,0)).2)) a0;have n:af H F:=s2.trans aO;refine q l' _ a8 _ (n.trans t) (n.free a0) ab (bI (λ _ _ z=>z.same t) a1) a2 ?_;rw [a3,Y.length_eq,F2,C0]
    lia
def GG (K:b0):Sp:=λ vs H Q _=>∃(t:ZS) (ts:List (ZR×ZR)) (es:List Ev) (ps:List DD) (m:Nat),vs=[.ref t,.str (jx m)]/\kU K H t ts es ps/\∀l H',af H H'->Q (.ref l) H'
theorem Kd (T:TX (kx w) mg) (c0:Fo P w mg base (oh P w base) 5 281 vG ["self","tale","strictness"] (yb (kx w))) (c1:Ca P w mg base "next_layer" ["board","layer"] 8 (IH (kx w))):Fo P w mg base CX0 9 338 Cb ["tale","strictness"] (GG (kx w)):=by
 refine (BE w.params).ok cg (λ vs H Q E h=>?_) (λ a9 A b1 s H vs Q E W h=>?_)
 ·obtain ⟨t,f,B,F,m,rfl,_⟩:=h;rfl
 ·obtain ⟨t,f,B,F,m,rfl,tp,q⟩:=h;refine ⟨_,(aV (aA (i:=2) cg.nd rfl (Y0 rfl) (CF (FC _) c0 (W.mono (by decide)) rfl (T.of (Ho _)) (Gy _) .nil l_ (ao (pv 0) (ao (pv 1) ae))))
   (aV (aA (i:=3) cg.nd rfl (Y0 rfl) (aY ae))
   (aV (aA (i:=4) cg.nd rfl (Y0 rfl) (aY (ao (bS (pv 2) rfl) ae)))
   (aV (yD U1 (cI oM (fD jG rfl (T.no (dE _)) S4 (ao (pv 4) ae)) ag (aC _))
   (aV (lr (RU (pv 3) (ao (pv 4) ae)))
   (aU (aA (i:=4) cg.nd rfl (Y0 rfl) (aB c1 (W.mono (by decide)) rfl (ao (pv 2) (ao (pv 4) ae)))))))
   (aU (au (pv 3))))))),?_⟩
  refine HK tp (λ R h=>⟨_,rfl,_,rfl,h⟩) λ x V fs n s1 S ok Z Y C=>?_;have bo:js (kx w) n m (aI 0 [] B) f F x:=⟨V,fs,Y,C⟩
  obtain ⟨c,a7,a5⟩:=C.first;generalize aI 0 [] B=rs at S Z bo C q;refine gB ?_;refine ⟨jk,λ a M=>?_⟩;refine aF ?_;obtain ⟨L,v_,q0,r⟩:=eL (.lst []) M;rw [<-v_];refine gB ?_;refine ⟨_,rfl,x,_,V,fs,_,rfl,q0 _ _ Y,ly _,AF _,a7,lC,λ j G=>?_⟩;refine aF ?_;have N:=af.upd (o:=.lst [.ref c]) G;have O:upd L j (.lst [.ref c]) j=some (.lst [.ref c]):=ab;have a3:j≠a:=λ z=>by rw [z,r] at G;cases G
  have r:=N _ _ r;have I:af n (hide a (upd L j (.lst [.ref c]))):=λ p o e=>jH (λ z=>by rw [z,M] at e;cases e) ((q0.trans N) _ _ e);generalize upd L j (.lst [.ref c])=H3 at r O I⊢;refine zm (Ba (λ k σ b=>∃d pls ys fz l1,k=9 - d/\d<=8/\af n (hide a b)/\b a=some (.lst fz)/\fz.length<=7 ^ d/\hide a b l1=some (.lst ys)/\av (oj (kx w) (hide a b)) pls ys/\(∀l∈pls,tK f rs.length d l)/\pls.length<=7 ^ d/\σ=[some (.ref t),some (.str (jx m)),some (.ref x),some (.ref a),some (.ref l1)])
   (λ k σ b=>∃d pls ys fz l1,d<=7/\k=9 - d/\af n (hide a b)/\b a=some (.lst fz)/\fz.length<=7 ^ d/\hide a b l1=some (.lst ys)/\av (oj (kx w) (hide a b)) pls ys/\(∀l∈pls,tK f rs.length d l)/\pls.length<=7 ^ d/\σ=[some (.ref t),some (.str (jx m)),some (.ref x),some (.ref a),some (.ref l1)])
   9 ⟨0,[([],f.map λ t=>aT t.2)],[.ref c],[],j,rfl,S1 _,I,r,S1 _,jH a3 O,.cons ⟨c,rfl,a5.tups (.of I)⟩ .nil,λ l D=>by rw [List.mem_singleton.mp D];exact ⟨zO f _,rfl⟩,u0 _,rfl⟩ ?_ ?_)
  ·rintro k σ u ⟨d,pls,ys,fz,l1,d4,rfl,s4,ef,fl,el,al,pg,pn,rfl⟩;have yl:ys.length<=7 ^ d:=by rw [cH al];exact pn
   have K:7 ^ d<=7 ^ 7:=Nat.pow_le_pow_right (by decide) d4;have d6:7 ^ (d + 1)=7 ^ d * 7:=rfl;have a6:=aO _ _ el;refine ⟨_,rfl,.inl ⟨rfl,_,aK.of ef⟩,_,rfl,a,l1,fz,ys,rfl,rfl,ef,a6,D0 (m:=1700000) (by rw [show (7:Nat) ^ 7=823543 from rfl] at K;lia) (by decide),dh ?_⟩;have h5:hide a (upd u a (.lst (fz++ys)))=hide a u:=uf;have v:upd u a (.lst (fz++ys)) a=some (.lst (fz++ys)):=ab;generalize upd u a (.lst (fz++ys))=H5 at h5 v⊢;rw [<-h5] at s4 el al;have s5:af n H5:=s4.trans aO;refine ⟨_,rfl,_,rfl,x,l1,d,rs,f,F,pls,ys,m,rfl,bo.same s5,bI (λ _ _ z=>dq.tt (.of s5) z) Z,ok,S,by rw [show (7:Nat) ^ 7=823543 from rfl] at K;lia,aO _ _ el,bI (λ _ _ z=>z.same aO) al,pg,λ X a4 a1 H6 J U a8 a2 a0 b0=>?_⟩;have nl:X≠a:=λ z=>by rw [z,v] at U;cases U
   exact ⟨9 - (d + 1),by lia,d + 1,a1,a4,_,X,rfl,by lia,s4.trans (ui J),J _ _ v,by rw [G0];lia,jH nl a8,bI (λ _ _ z=>z.elim λ p y=>⟨p,y.1,y.2.tups (RD (J _ _ v))⟩) a2,a0,by lia,rfl⟩
  ·rintro k σ u ⟨d,pls,ys,fz,l1,rfl,K,s4,ef,fl,el,al,pg,pn,rfl⟩ body;refine ⟨_,rfl,.inl ⟨l1,ys,rfl,.inl (aK.of (aO _ _ el)),_,_,rfl,rfl,_,rfl,?_⟩⟩;refine gm (λ h=>?_) λ _=>⟨_,rfl,q a _ (s1.trans (s4.trans aO))⟩
   have h:(0:Int) < (ys.length:Int):=ZW h;refine body _ ⟨d,pls,ys,fz,l1,?_,rfl,s4,ef,fl,el,al,pg,pn,rfl⟩;obtain ⟨l,D⟩:=j25 (show 0 < pls.length by have:=cH al;lia);have g:=pg l D;have:=sR _ _ g.1.nd g.1.lt;have:=g.2
   lia
def IW (K:b0):Sp:=λ vs H Q _=>∃(t:ZS) (ts:List (ZR×ZR)) (es:List Ev) (ps:List DD),vs=[.ref t,.str (jx 0)]/\kU K H t ts es ps/\∀v H',af H H'->(v=.non↔nB ts (aI 0 [] es) ps)->Q v H'
def Lu (T:TX (kx w) mg) (c0:Ca P w mg base "judged" ["tale","strictness"] 8 (yU (kx w))) (c1:Ca P w mg base "all_places" ["tale","strictness"] 9 (GG (kx w))):Fo P w mg base CX0 10 359 CL ["tale","strictness"] (IW (kx w)):=by
 refine (zq w.params).ok JQ (λ k H Q E h=>?_) (λ u A v s H k Q E j h=>?_)
 ·obtain ⟨t,c,b,e,rfl,_⟩:=h;rfl
 ·obtain ⟨t,c,b,e,rfl,tp,q⟩:=h;refine ⟨_,(aV (aN (cI oE (aB c0 (j.mono (by decide)) rfl (ao (pv 0) (ao (pv 1) ae))) bx (aC _))
   (aU (au bx))
   dG)
   (aU (au (aB c1 (j.mono (by decide)) rfl (ao (pv 0) (ao (pv 1) ae)))))),?_⟩
  refine ⟨_,rfl,_,rfl,t,c,b,e,0,rfl,tp,λ i a m=>⟨rfl,_,rfl,bM (by decide) ?_⟩,λ l r o g i a _ _ d f=>⟨rfl,_,rfl,bw (by rw [ZX (λ z=>by cases z)];rfl) (q _ i a ⟨λ _=>⟨o,g,d,f⟩,λ _=>rfl⟩)⟩⟩;exact ⟨_,rfl,_,rfl,t,c,b,e,0,rfl,tp.same a,λ l p n=>q _ p (a.trans n) ⟨λ z=>(by cases z),λ ⟨o,g,d,f⟩=>ZV f (m o g d)⟩⟩
def rG (h :∀e∈es,jt K H ts e) :∀e∈es,xY e:=λ e c=>by
 have g:=h e c;cases e with
 | beg hd n v x=>obtain ⟨d,_,_,_,b,_⟩:=g;show n=.str (ff n);rw [b];rfl
 | fin hd a=>trivial
def sp_law (K:b0):Sp:=λ vs H Q _=>∃(sc:ZS) (ns:List Int),vs=[.ref sc]/\aK K H sc (ns.map V.int)/\ns.length<=63/\∀H',Q (.bl true) H'
theorem p_ (T:TX (kx w) mg) (c0:Ca P w mg base "_law_tale" ["script","most"] 4 (FA (kx w))) (c1:Ca P w mg base "part" ["tale","name"] 2 (Dv (kx w))) (c2:Ca P w mg base "judged" ["tale","strictness"] 8 (yU (kx w))) (c3:Ca P w mg base "_law_is_good" ["tale","strictness"] 5 (Fw (kx w))) (c4:Ca P w mg base "stuck_paper" ["tale","strictness"] 10 (IW (kx w))):Fo P w mg base CX0 11 464 fd_law ["script"] (sp_law (kx w)):=by
 refine (wu w.params).ok fB (λ vs H Q E h=>?_) (λ a9 A b0 s H vs Q E D h=>?_)
 ·obtain ⟨O,ns,rfl,_⟩:=h;rfl
 ·obtain ⟨O,ns,rfl,sq,nl,q⟩:=h;refine ⟨_,(aV (aA (i:=1) fB.nd rfl (Y0 rfl) (aB c0 (D.mono (by decide)) rfl (ao (pv 0) (ao ag ae))))
   (aV (aA (i:=2) fB.nd rfl (Y0 rfl) eC)
   (aV (bO U1 rfl (eF (aq aj (pv 1) ag (λ _ _=>rfl))) (bH rfl (eJ (eY (i:=3) fB.nd rfl (Y0 rfl)) (eJ (eY (i:=4) fB.nd rfl (Y0 rfl)) iq)))
   (aV (aA (i:=5) fB.nd rfl (Y0 rfl) (aB c1 (D.mono (by decide)) rfl (ao (pv 1) (ao (pv 3) ae))))
   (aV (aA (i:=6) fB.nd rfl (Y0 rfl) (gU oE (aB c2 (D.mono (by decide)) rfl (ao (pv 5) (ao az ae))) bx (aC _)))
   (aV (aN (PW.pt (hU (cI nO (pv 6) (aB c3 (D.mono (by decide)) rfl (ao (pv 5) (ao az ae))) (aC _)) (gv (cI nO (gU gW (aB c4 (D.mono (by decide)) rfl (ao (pv 5) (ao az ae))) bx (aC _)) (pv 6) (aC _)))))
   (aU (au eC))
   dG)
   (aU (aA (i:=2) fB.nd rfl (Y0 rfl) (dv (pv 2) (dP (pv 6)))))))))
   (aU (au (dv (gU bP (gU oE (aB c2 (D.mono (by decide)) rfl (ao (pv 1) (ao az ae))) bx (aC _)) (pv 2) (aC _)) (dP (gU bP (aB c3 (D.mono (by decide)) rfl (ao (pv 1) (ao az ae))) (pv 2) (aC _))))))))),?_⟩
  refine ⟨_,rfl,O,ns,rfl,sq,nl,λ t pt Z ys d f M s1 X a3 W ok a6 G el S bg J=>?_⟩;refine aF (dh ?_);have U :∀e∈d,jt (kx w) M f e:=λ e he=>by obtain ⟨i,hi⟩:=List.mem_iff_getElem?.mp he;obtain ⟨y,_,z⟩:=ik G hi;exact z.n
  obtain ⟨ps,gd⟩:=kz (i:=0) (rs:=[]) (ps:=[]) U .nil;have G:=bI (λ _ _ z=>z.a) G;have tp:kU (kx w) M t f d ps:=⟨⟨pt,Z,ys,X,W,a3,G⟩,ok.thw,by lia,S,gd,by rw [GL,F7,A5];exact bg⟩
  have ta:mq (kx w) M t pt Z f d ys:=⟨aH.of X,W,ok.n6,aH.of a3,G,by lia,(cu.nil.all S).1,rG U⟩
  have pi:=JR ok.nd S gd;obtain ⟨yt,a5,a0⟩:=W;clear U gd a6 J;refine gB (aF ?_);refine ⟨_,rfl,.inr (.inl ⟨t,_,0,.ref pt,rfl,rfl,aH.of X,bG (j:=0) rfl,pt,rfl,⟨_,aH.of a5⟩,?_⟩)⟩;refine GR (K:=KX w.params) (a:=pt) (xs:=yt) (λ i σ N=>af M N/\∃g:Bool,(g=true↔∀u∈f.take i,nB [u] (aI 0 [] (dy u.1 0 [] d)) (nU u.1 (aI 0 [] d) ps))/\∃x3 x4 x5 x6,σ=[some (.ref O),some (.ref t),some (.bl g),x3,x4,x5,x6])
   ⟨af.refl _,true,⟨λ _ u I=>ZV I (by rw [V7];exact t0),λ _=>rfl⟩,_,_,_,_,rfl⟩ (λ _ σ N _ h=>aH.of (h.1 _ _ a5)) ?_ ?_
  ·rintro i y σ H2 hy ⟨s2,g,m,x3,x4,x5,x6,rfl⟩;obtain ⟨tt,ht,b,rfl,eb⟩:=fF a0 hy;have hm:=K0 ht;refine ⟨b,_,rfl,aH.of (s2 _ _ eb),rfl,_,_,rfl,_,_,rfl,rfl,?_⟩;refine gB ⟨_,rfl,_,rfl,t,pt,Z,f,d,ys,tt.1,rfl,ta.same s2,List.mem_map.mpr ⟨tt,hm,rfl⟩,λ p a b c k H3 F ep ea hk ec a7=>aF ?_⟩;have ek:k=tt.2:=zS ok.nd hk hm;subst ek;have L:=(tp.same s2).part hk F (bI (λ _ _ z=>fm.tups (.of s2) z) G) ep ea ec a7;have tk:f.take (i + 1)=f.take i++[tt]:=by rw [z8,ht];rfl
   generalize hes:dy tt.1 0 [] d=es' at L;generalize hps:nU tt.1 (aI 0 [] d) ps=ps' at L;refine Ap (λ σ' N=>∃h:Bool,af H3 N/\(h=true↔nB [(tt.1,tt.2)] (aI 0 [] es') ps')/\σ'=[some (.ref O),some (.ref t),some (.bl g),some (.str tt.1),some (.str tt.2),some (.ref p),some (.bl h)]) ?_ (λ tl=>?_);rotate_left
   ·exact ⟨_,rfl,p,_,es',ps',0,rfl,L,λ R r Y=>⟨rfl,aF (tl _ _ ⟨_,r,⟨λ z=>(by cases z),λ ⟨o,B,x,C⟩=>ZV C (Y o B x)⟩,rfl⟩)⟩,λ l xs o B R r _ _ x C=>⟨rfl,aF (tl _ _ ⟨_,r,⟨λ _=>⟨o,B,x,C⟩,λ _=>by rw [ZX (λ z=>by cases z)];rfl⟩,rfl⟩)⟩⟩
   rintro σ4 R ⟨h,r,hh,rfl⟩;have a2:=L.same r;refine kr (qB ⟨_,rfl,_,rfl,p,_,es',ps',rfl,a2,λ b5 H5 s5 a8=>?_⟩);have:h=b5:=Bool.eq_iff_iff.mpr (hh.trans a8.symm);subst this;refine ⟨rfl,_,rfl,bM (by rw [ZY rfl];decide) ?_⟩;refine ⟨_,rfl,p,_,es',ps',rfl,a2.same s5,λ v H6 s6 hv=>⟨rfl,_,rfl,rfl,_,rfl,bM ?_ (dh ?_)⟩⟩
   ·have:decide (v=.non)=h:=by rw [Bool.eq_iff_iff,decide_eq_true_iff];exact hv.trans hh.symm
    rw [this,ZY rfl];decide
   ·have a1:(g && h)=true↔∀u∈f.take (i + 1),nB [u] (aI 0 [] (dy u.1 0 [] d)) (nU u.1 (aI 0 [] d) ps):=by
     subst hes hps;rw [J2,m,hh,tk];constructor
     ·rintro ⟨h1,h2⟩ u I;rcases List.mem_append.mp I with z|z
      ·exact h1 u z
      ·rw [List.mem_singleton.mp z];exact h2
     ·exact λ h=>⟨λ u I=>h u (List.mem_append.mpr (.inl I)),h tt (List.mem_append.mpr (.inr (List.mem_singleton.mpr rfl)))⟩
    have a4:=s2.trans (F.trans ((r.trans s5).trans s6));refine ⟨_,rfl,_,rfl,?_⟩;cases g with
    | true=>exact cG ⟨_,rfl,aF ⟨a4,_,a1,_,_,_,_,rfl⟩⟩
    | false=>exact cF (aF ⟨a4,_,a1,_,_,_,_,rfl⟩)
  ·rintro σ H2 ⟨s2,g,m,x3,x4,x5,x6,rfl⟩;rw [show yt.length=f.length from cH a0,Y6] at m;have m:=m.trans pi.symm;refine dh (fZ ?_);refine ⟨_,rfl,t,f,d,ps,0,rfl,tp.same s2,λ H3 F Y=>⟨rfl,?_⟩,λ l xs o B H3 F _ _ x C=>⟨rfl,?_⟩⟩
   ·obtain rfl:g=false:=by
     cases g with
     | false=>rfl
     | true=>obtain ⟨o,B,x,C⟩:=m.mp rfl;exact ZV C (Y o B x)
    refine ⟨_,rfl,rfl,_,rfl,bw (by decide) ?_⟩;refine ⟨_,rfl,t,f,d,ps,rfl,tp.same (s2.trans F),λ b R r J=>⟨_,rfl,rfl,?_⟩⟩;have:b=false:=Bool.eq_iff_iff.mpr (J.trans m.symm);subst this;exact q _
   ·obtain rfl:g=true:=m.mpr ⟨o,B,x,C⟩;refine ⟨_,rfl,rfl,_,rfl,bw (by rw [ZX (show ¬ V.ref l=V.non from λ z=>by cases z)];decide) ?_⟩;refine ⟨_,rfl,t,f,d,ps,rfl,tp.same (s2.trans F),λ b R r J=>⟨_,rfl,rfl,?_⟩⟩;have:b=true:=Bool.eq_iff_iff.mpr (J.trans m.symm);subst this;exact q _
end
def all_law (T:TX (kx w) mg):Fo P w mg base CX0 11 464 fd_law ["script"] (sp_law (kx w)):=by have m:=@rR P w (kx w) mg base;have x:=m T (yX _) (PU _) (Ng _) (OR T );have a2:=m T (y_ _) (JH _) (RW _) (KI T x);have I:=m T (Ab _) (Qm _) (PN _) (Nx T a2);have j:=m T (CQ _) (LO _) (QV _) (NL T );have c:=m T (AO _) (Ly _) (Kn _) (LG T );have a0:=m T (zr _) (QU _) (Re _) (Lc T c I j);have k:=m T (CH _) (Hy _) (Je _) (Kq T );have a3:=m T (yV _) (Ge _) (Ma _) (RH T );have y:=m T (CY _) (HM _) (Ji _) (Mx T );have n:=m T (yw _) (ER _) (Lw _) (RJ T );have q:=m T (yR _) (Ek _) (Kb _) (Nk T );have X:=m T (Bb _) (GP _) (NP _) (RK T );have Q:=m T (A_ _) (GF _) (Pu _) (Lh T );have r:=m T (Ah _) (DN _) (Rf _) (LA T );have a1:=m T (Bg _) (HH _) (KP _) (Rk T );have R:=m T (qG _) (CS _) (Af _) (we T a0 k a3 y q X Q r a1 n);have z:=m T (CB _) (Ow _) (Os _) (JI T c);have b:=m T (Cf _) (QC _) (Lr _) (QH T );have o:=m T (BN _) (Oe _) (OM _) (Q_ T );have E:=m T (zH _) (QX _) (Kh _) (Mf T );have F:=m T (Bf _) (O_ _) (MU _) (JD T b E o);have N:=Qp (P:=P) (w:=w) (base:=base) T;have Z:=Pb (P:=P) (w:=w) (base:=base) T;have p:=m T (yE _) (Lp _) (OP _) (JE T R);have s:=m T (zI _) (JK _) (Pc _) (Ml T );have L:=m T (yZ _) (Ln _) (PB _) (RM T );have Y:=m T (zh _) (Jl _) (Rm _) (QO T z);have f:=MK (P:=P) (w:=w) (base:=base) T F b Y s N;have i:=Pa (P:=P) (w:=w) (base:=base) T Z p;have W:=m T (yT _) (OQ _) (Qf _) (LZ T );have a:=m T (Az _) (KR _) (Mo _) (LW T );have M:=m T (AU _) (Jt _) (Mt _) (Qk T a);have K:=m T (B_ _) (Lg _) (NU _) (Rl T a M);have D:=m T (Co _) (Jc _) (Lx _) (OG T );have h:=m T (CU _) (PD _) (JX _) (OE T );have e:=m T (BQ _) (KJ _) (Jq _) (Mp T D);have C:=m T (Ag _) (Nj _) (P_ _) (Ku T a);have t:=m T (CM _) (RF _) (LS _) (Pn T W a C h e K);have O:=MZ (P:=P) (w:=w) (base:=base) T L;have g:=m T (Bi _) (Mn _) (RO _) (Mz T f O i);have d:=m T (AZ _) (Lj _) (KS _) (PY T );have J:=m T (zU _) (Kg _) (Lb _) (KO T );have S:=m T (Bq _) (Kk _) (LI _) (RB T J);have U:=m T (Be _) (RG _) (Lf _) (Lo T );have G:=m T (Ax _) (Pz _) (Qd _) (KN T S e);have A:=m T (AG _) (Jd _) (KG _) (OC T d h G);have V:=m T (CK _) (Ro _) (Nt _) (OA T d A U);have v:=m T (Cp _) (MM _) (OL _) (Ny T );have B:=m T (jN _) (qu _) (rb _) (QG T v b);have l:=m T (Aw _) (RV _) (MB _) (Rx T i);have H:=m T (BE _) (Ol _) (Ri _) (Kd T f l);have u:=m T (zq _) (MR _) (OY _) (Lu T g H);exact p_ T t B g V u
end K65
set_option maxRecDepth 100000 in
set_option maxHeartbeats 0 in
theorem PySem.Challenge.cw_talejudge_k65_whole_strict_by_parts_holds : PySem.Challenge.rw_talejudge_k65_whole_strict_by_parts.Holds := by
 w_on;o_law
 refine holds_open (q:=K65.viewX) (loose:=K65.looseX) (Xt:=K65.XtX) (XP:=XL K65.viewX []) (Yf:=Hook.obs K65.HX) (Ya:=Hook.val K65.HX) (YP:=Hook.says K65.HX) (N:=200000) K65.leftX (Hook.of K65.HX) (Hook.keeps K65.HX) (λ s e=>xl_of s (Bool.and_eq_true_iff.mp e).1) XL.keeps (by rfl) (by rfl) (by rfl) (λ s e=>recFacts_of (Bool.and_eq_true_iff.mp e).2) (by rfl) (by assumption) (by decide +kernel) ⟨rfl,rfl,rfl,rfl,rfl,by decide +kernel⟩ ?hw ?hc
 case hw=>w_witness2
 case hc=>
  refine L2.walk_of (l:=PySem.Challenge.rw_talejudge_k65_whole_strict_by_parts) (n:=63) (k:=11) (x:="script") (K:=K65.KX) (CX:=λ _=>L2.CX0) (sp:=λ w=>K65.sp_law (K65.KX w.params)) rfl (by decide) rfl ⟨rfl,by decide,by decide,rfl⟩ (λ w h Y=>PySem.W.kIn_of Y) ?F ?S ?C
  case F=>intro w m r h KX G c;have T:=L2.TX.mk' KX G;have b:=c.symm.trans (T.of (K65.g_law _));cases b;exact ⟨K65.fd_law,λ s u=>.of_eq rfl,λ j o i=>K65.all_law T⟩
  case S=>exact λ w H a g f p d=>⟨a,g,rfl,d,f,λ _=>rfl⟩
  case C=>exact λ _ _ _ _ _ z=>z
