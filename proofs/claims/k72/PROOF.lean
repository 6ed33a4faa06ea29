import PyProof.Rows.All
import Wide.All
import OpenK.AllK
import Wide.FinOn
import Lean
import PyProof.EqAt
import PyProof.EqKinds
import PyProof.TupleCall
import Open.Tops
import KE.KIntText
import PyProof.ZipIter
import PyProof.ReprRoads
import PyProof.Draws
import KE.KDictSum
import KE.KSortedM
import OpenK.KRaise
import OpenK.KOwn
import PyProof.ExcBaseAll.ValueError
import KE.KTryMore
import PyProof.NsDelKeeps
import KE.KDictOf
import KE.KEqDict
import PyProof.DictWalks
import PyProof.TupleKey
import PyProof.MinMaxWalk
import KE.KSortTup
import PyProof.StrWalks
import KE.KRevIter
import KE.KListMore
import PyProof.StrLawsTight
import PyProof.StrLawsChain
import PySem.Challenge.RW_talejudge_k72_hands_without_open_deeds
open PySem.W renaming Frag->d0,kia_one->u3,keepIn->G3,findIn->J3,instObj->j4,callWith_K->K5,nsIn->Q5,fnOf->R5,KasT->S5,kas_sort->X5,hideAll_get->A6,plainGet->y7,lookIn->o8,codeIn->t8,plainGet_of->M8,excIn->N8,methodObj->j9,hasDictIn->m9,kas_desc->G9,takerIn->U9,kas_rev->V9,hideAll->W9,exmOne->j06,isFn->j1b,cellsFrom_some->j1c,kdu_collect->j30,of_hideAll->j3d,specialIn->j3g,plainOver->j3h,kitx_list->j3i,kitx_dict->j3j
open PySem.PyData renaming keyHash->j0,depthAll->R1,bool->K3,canLayAll0->T5,strOk->O7,eqvAll->W8,depth->j21
open PySem renaming wpAny_bind->o0,Shared->A0,wpAny_pure->G0,Params->R0,wpAny->V0,World->W0,starEach->B1,model->E1,reduceHash->N1,Around->Y1,compareOp->N2,OsState->S2,sliceBounds->U2,wpAny_mono->V2,mainGlobals->Z2,wpAny_call_entry->j3,eval->m3,wpAny_newObj_type->B3,treeTable->C3,sysModules->F3,backTo->Q3,wpAny_truthy_bool->T3,wpAny_callSpecial?_slot->U3,wpAny_holding->i4,eqIsQuiet->B4,foldedSetIterable->C4,boot_len->D4,attributeBase->G4,binaryOp->O4,wpAny_typeNameOfWhole_keyiter->S4,wpAny_Call_Name_kw->U4,wpAny_passesOwn->n5,mem_of_lookup->E5,Keyword->N5,wpAny_pyIter_tuple->V5,tupleKind->Z5,keywordEach->c6,placesWithHash->o6,bootBuiltins->r6,NameKind->u6,swapsWith->F6,wpAny_field->N6,callSpecialIfBoundUnlessNone?->O6,ReadsAll->S6,wpAny_execs_nil->W6,importedModules->Y6,wpAny_typeOf->i7,Builtin->C7,tupleKind_room_in1->K7,Fin->M7,wpAny_pyIter_enum->X7,relabel->Y7,getItem->Z7,codeAny->a8,behindInMarks->j8,Paired->u8,wpAny_isInstance->G8,backToKw->K8,atKey->L8,strKind_is->S8,codeAny_mono->U8,assignEach->V8,IsPart->X8,typeNameOfWhole->Z8,letOwnedTupleGo->c9,wpAny_setField->C9,richCompare->D9,firstArgMember->F9,valueAt->L9,wpAny_newList->X9,wpAny_tupleItemsOf->j03,wpAny_rule->j04,isInstance->j05,wpAny_pyIter_list->j0f,wpAny_loadPart_at->j0g,wpAny_dictEntries->j0h,wpAny_collect_seq->j0i,holding->j0j,callerA->j10,rawInt->j19,noFill_tuple_add->j1a,subscripted->j1g,wpAny_specialOf->j29,wpAny_dictEpoch->j2a,Within->j2c,standAt->j2h,wpAny_seqItems->j34,wpAny_letOwnedTupleGo_enum->j35,pyNext->j38,Thread->j3b,GenState->j3f
open PySem.Builtin.Tuple renaming tupleHashOf->t0,tupleExact->Y4,tupleItemsOf->u9
open Nat renaming le_refl->B0,le_trans->D0,ne_of_lt->F1,lt_of_lt_of_le->G1,lt_of_le_of_lt->Q1,zero_le->U1,lt_succ_of_lt->Z1,lt_succ_self->K2,le_of_lt->d3,le_succ_of_le->L3,le_succ->M3,lt_irrefl->W3,ne_of_gt->A4,succ_le_succ->J4,le_of_eq->F5,mul_le_mul_right->C6,not_lt_zero->G6,zero_add->U6,min_le_left->C8,le_of_not_lt->j07,le_add_right->j08,min_eq_left->j11,mul_le_mul->j1e,add_assoc->j2f
open List renaming not_mem_nil->C0,length_map->K0,length_append->M0,getElem?_eq_getElem->N0,size_toArray->P0,mem_of_getElem?->S0,length_cons->U0,getElem?_map->X0,mem_cons_of_mem->Y0,mem_cons_self->C1,map_cons->J1,range->K1,mem_append_right->O1,mem_cons->P1,replicate->V1,length_range->W1,getElem?_cons_succ->X1,forall_mem_cons->j2,length_filter_le->A2,map_append->B2,getElem?_append_right->D2,getD_eq_getElem?_getD->E2,getElem?_cons_zero->F2,append_nil->J2,filter_cons_of_pos->P2,getElem?_append_left->Q2,filter_cons_of_neg->W2,length_replicate->N3,getElem?_eq_none->O3,map_map->R3,length_take->X3,find?_cons->o4,nodup_append->u4,map_nil->y4,lookup_cons->E4,filter_cons->F4,filter_append->M4,mem_append_left->u5,getElem?_modify->z5,forIn_nil->A5,drop_zero->B5,length_nil->L5,forIn_cons->M5,length_modify->P5,length_drop->g6,getElem_mem->i6,ext_getElem->j6,any_eq_true->m6,lookup->B6,filterMap_cons->K6,drop_eq_getElem_cons->d7,ext_getElem?->B7,length_filterMap_le->E7,any_cons->F7,getElem?_replicate->P7,all_eq_true->Q7,take_of_length_le->b8,getElem?_set_self->c8,range_succ->y8,of_mem_zip->z8,mem_of_mem_take->O8,getElem?_set_ne->P8,getElem?_range->g9,zip_cons_cons->z9,getElem_range->A9,set_eq_take_append_cons_drop->K9,take_sublist->N9,getElem?_inj->O9,foldl_append->P9,append_assoc->Q9,take_length->Z9,getElem_map->j00,getElem_inj->j01,length_set->j0a,filter_map->j0b,dropLast_concat_getLast->j0c,take_nil->j22,filterMap_cons_some->j23,filterMap_cons_none->j24,pairwise_mergeSort->j2g,range_succ_eq_map->j31,any_map->j32,getElem?_toArray->j3e,length->j41
open PySem.Heap renaming get?_push_of_some->F0,lt_size->Q0,get?_push_size->A1,size_push->Y3,SameBut->U5,get?_update_other->d8,get?_update_self->E8,FlyingW->j33
open Bool renaming false_ne_true->O0,and_eq_true->Y2,false_eq_true->P3,false_and->V6,not_true->G7,and_false->R8,not_eq_true->j02,true_and->j26,false_or->j27
open Or renaming inr->Z0,inl->j1
open Option.some renaming inj->S1
open PySem.PassesOwn renaming never->T1
open PySem.NameKind renaming free->u2
open PyProof.Rows renaming boot_isinstance->C2,callWith_type1->A3,envOfC->S3,slot_tuple_getitem->Z3,boot_tuple->V4,boot_sorted->P6,seqObj->X6,AllBare->i8,IntsAre->Y8,subscriptTail->Y9,entry_list_sort->j2b,StrsAre->j2i,tail_any->j36,slot_list_sort->j37,args_list_sort->j39,Subscript_->j3c
open Array renaming getElem?_eq_getElem->G2,length_toList->T2,getD_eq_getD_getElem?->L6,getElem?_toList->A8,map->j28
open ForInStep renaming yield->O2,done->V7
open PySem.Value renaming none->X2,bool->L4,str->d6,type->Q6,isStrOf->m7,builtin->o7,int->L7,float->j3a
open False renaming elim->i3
open Pure renaming pure->E3,pure->j2d
open Ne renaming symm->V3
open PySem.Builtin.SmallTypes renaming nextOf->K4,ownedTupleFields->N4
open Int renaming emod_lt_of_pos->P4,emod_nonneg->R4,toNat_natCast->Y5,le_refl->j0d
open PySem.Builtin.Slice renaming slicePlaces->Q4,sliceAdjust->z6,sliceApplied->x9
open PySem.Heap.SameBut renaming update->T4
open PySem.F renaming slot_dict_keyiterator_next->X4,slot_tuple_iterator_next->G5,args_tuple_add_2->Z6,plainAttrs_list->z7,entry_tuple_add->A7,slot_tuple_add->N7,slot_dict_get->S7,args_dict_keyiterator_next_1->j12,plainAttrs_dict->j14,args_dict_get_3->j15,entry_dict_keyiterator_next->j18,entry_dict_get->j1d,args_tuple_iterator_next_1->j1f,slot_dict_pop->j20,entry_tuple_iterator_next->j25
open PySem.W.Fast renaming tw16697807410369149715->Z4,tw13926502685295537346->c5,tw13383273872528276517->i5,te14364793385576792824->j5,tw4214721358667687652->o5,tw14364793385576792824->R7
open PySem.Obj renaming mapSeq->C5,mapDictKeys->B8,mapFields->j2e
open PySem.Calls renaming spliced_cons->O5,evalArgs_plain->y6,call_function_entry->c7,spliced_nil->g7,callWith_builtin->W7,Name_function_global->j13
open PySem.Builtin.List renaming listTooLong->E6,listLengthHint->y9
open PySem.Builtin.Dict renaming notOrdered->M6
open PySem.Str renaming ofString->R6
open Option renaming isSome_map->b7,map_some->U7,toList_none->d9,getD_some->M9,map->j09,toList_some->j40
open PySem.Builtin.Dict_items renaming ownsTuple->g8,isOneOf->F8,slot0->Q8
open Sum.inr renaming inj->m8
open Sum.inl renaming inj->n8
open PUnit renaming unit->o9
open PySem.Around renaming under->B9
open ForIn renaming forIn->E9
open PySem.Code renaming isFrame->R9,frames->j43
open PySem.SeqAt renaming eqAt_reads->S9,compareEq_reads->j2j
open PySem.Heap.IsSliceOf renaming new->j0e
open PySem.Paired renaming length->j16
open List.Pairwise renaming nil->j17
open PySem.SeqAt.EqAt renaming str_str->j1h,str_int->j1i,int_str->j1j
open PySem.Data renaming fields->j42
set_option maxRecDepth 100000
set_option maxHeartbeats 0
namespace PySem.W.Fast
def tw4764112471061704053:=0
def tw6933049889610047190:=0
def tw8615470065225849424:=0
def tw13484710694897479976:=0
def tw15542474571113751481:=0
def tw9387993897487110949:=0
def tw6021338827516289905:=0
def tw12450103878146390797:=0
def tw4825011453753771610:=0
def tw6118524670371018161:=0
def tw825970563471933869:=0
def tw471559506038961771:=0
def tw733793365101166819:=0
def tw4558613588627520202:=0
def tw13974168991835749043:=0
def tw803579670468629337:=0
end PySem.W.Fast
namespace K72
open_shared pre for PySem.Challenge.pw_talejudge_k72_hands_without_open_deeds leaving 44
end K72
set_option maxHeartbeats 200000
-- CHANGE: your row's module here,as the last of these rows
set_option Elab.async false
set_option linter.all false
namespace L2
open PySem PySem.Spec PyProof.Rows
noncomputable abbrev Key:=Sum Int Str
noncomputable def keyIs:Key->Value->Bool
 | .inl k,v=>Value.isInt k v
 | .inr x,v=>m7 x v
noncomputable def keyH (w:W0):Key->Int
 | .inl k=>hashInt k
 | .inr x=>hashStr w x
theorem z0m :∀{k:Key} {v:Value},keyIs k v=true->(∃i t,k=Sum.inl i/\v=L7 i t)\/(∃x t,k=Sum.inr x/\v=d6 x t)
 | .inl i,v,h=>by obtain ⟨t,e⟩:=Value.isInt_shape (k:=i) (v:=v) h;exact .inl ⟨i,t,rfl,e⟩
 | .inr x,v,h=>by obtain ⟨t,e⟩:=Value.isStrOf_shape (x:=x) (v:=v) h;exact .inr ⟨x,t,rfl,e⟩
theorem zgz (i:Int) (t:Tok):keyIs (.inl i) (.int i t)=true:=by simp [keyIs,Value.isInt]
theorem zhd (x:Str) (t:Tok):keyIs (.inr x) (.str x t)=true:=by simp [keyIs,m7]
theorem key_ll (a b:Int):decide ((Sum.inl a:Key)=Sum.inl b)=(a == b):=by
 by_cases e:a=b
 ·subst e;simp
 ·have h:¬ (Sum.inl a:Key)=Sum.inl b:=λ q=>e (n8 q);rw [decide_eq_false h];exact (beq_eq_false_iff_ne.mpr e).symm
theorem key_rr (a b:Str):decide ((Sum.inr a:Key)=Sum.inr b)=decide (a=b):=by
 by_cases e:a=b
 ·subst e;simp
 ·have h:¬ (Sum.inr a:Key)=Sum.inr b:=λ q=>e (m8 q);rw [decide_eq_false h,decide_eq_false e]
theorem key_lr (a:Int) (b:Str):decide ((Sum.inl a:Key)=Sum.inr b)=false:=decide_eq_false (λ q=>nomatch q)
theorem key_rl (a:Str) (b:Int):decide ((Sum.inr a:Key)=Sum.inl b)=false:=decide_eq_false (λ q=>nomatch q)
noncomputable def z10 (prog:Program) (w:W0):PySem.KeyKind prog w Key where
 is:=keyIs
 hash:=keyH w
 inj:=λ v a b ha hb=>by
  rcases z0m ha with ⟨i,t,rfl,rfl⟩|⟨x,t,rfl,rfl⟩
  ·rcases z0m hb with ⟨j,u,rfl,e⟩|⟨y,u,rfl,e⟩
   ·injection e with e1 _;rw [e1]
   ·exact nomatch e
  ·rcases z0m hb with ⟨j,u,rfl,e⟩|⟨y,u,rfl,e⟩
   ·exact nomatch e
   ·injection e with e1 _;rw [e1]
 byValue:=λ k v h=>by rcases z0m h with ⟨i,t,rfl,rfl⟩|⟨x,t,rfl,rfl⟩<;>rfl
 pyHash:=λ hv h=>by
  rcases z0m hv with ⟨i,t,rfl,rfl⟩|⟨x,t,rfl,rfl⟩
  ·exact wpAny_pyHash_int h
  ·exact wpAny_pyHash_str h
 eqBool:=λ hu hv h=>by
  rcases z0m hu with ⟨i,t,rfl,rfl⟩|⟨x,t,rfl,rfl⟩
  ·rcases z0m hv with ⟨j,u,rfl,rfl⟩|⟨y,u,rfl,rfl⟩
   ·rw [key_ll] at h;exact wpAny_eqBool_int h
   ·rw [key_lr] at h;exact j1j i t y u _ _ _ _ h
  ·rcases z0m hv with ⟨j,u,rfl,rfl⟩|⟨y,u,rfl,rfl⟩
   ·rw [key_rl] at h;exact j1i x t j u _ _ _ _ h
   ·rw [key_rr] at h;exact wpAny_eqBool_str h
 «strs»:=λ k x t v h=>by
  rcases z0m h with ⟨i,u,rfl,e⟩|⟨y,u,rfl,e⟩
  ·exact nomatch e
  ·injection e with e1 _;subst e1;cases v<;>rfl
theorem zdg (prog:Program) (w:W0) (i:Int) (t:Tok):(z10 prog w).is (.inl i) (.int i t)=true:=zgz i t
theorem zdi (prog:Program) (w:W0) (x:Str) (t:Tok):(z10 prog w).is (.inr x) (.str x t)=true:=zhd x t
inductive V where
 | non|bl (b:Bool)|int (i:Int)|str (x:Str)|byt (b:Array UInt8)|flt (b:UInt64)|ref (a:Addr)|ty (n:String)
 deriving DecidableEq
noncomputable def RelV:V->Value->Prop
 | .non,u=>u=X2
 | .bl b,u=>u=L4 b
 | .int i,u=>∃t,u=L7 i t
 | .str x,u=>∃t,u=d6 x t
 | .byt b,u=>∃t,u=Value.bytes b t
 | .flt b,u=>∃t,u=j3a b t
 | .ref a,u=>u=Value.ref a
 | .ty n,u=>u=Q6 n
abbrev Vals:List V->List Value->Prop:=u8 RelV
theorem Vals.length {xs:List V} {us:List Value} (r:Vals xs us):xs.length=us.length:=j16 r
theorem Vals.get :∀{xs:List V} {us:List Value} {i:Nat} {x:V},Vals xs us->xs[i]? = some x->∃u,us[i]? = some u/\RelV x u
 | _,_,_,_,.nil,e=>by simp at e
 | _,_,0,_,.cons r _,e=>by simp at e;subst e;exact ⟨_,rfl,r⟩
 | _,_,i + 1,x,.cons _ t,e=>by obtain ⟨u,a,b⟩:=Vals.get (i:=i) (x:=x) t (by simpa using e);exact ⟨u,by simpa using a,b⟩
theorem Vals.set {x:V} {u:Value} (r:RelV x u) :∀{xs:List V} {us:List Value} (i:Nat),Vals xs us->Vals (xs.set i x) (us.set i u)
 | _,_,_,.nil=>.nil
 | _,_,0,.cons _ t=>.cons r t
 | _,_,i + 1,.cons q t=>.cons q (Vals.set r i t)
theorem Vals.append :∀{xs ys:List V} {us ws:List Value},Vals xs us->Vals ys ws->Vals (xs++ys) (us++ws)
 | _,_,_,_,.nil,s=>s
 | _,_,_,_,.cons r t,s=>.cons r (Vals.append t s)
theorem Vals.take :∀{xs:List V} {us:List Value} (n:Nat),Vals xs us->Vals (xs.take n) (us.take n)
 | _,_,0,_=>.nil
 | _,_,_ + 1,.nil=>.nil
 | _,_,n + 1,.cons r t=>.cons r (Vals.take n t)
theorem Vals.drop :∀{xs:List V} {us:List Value} (n:Nat),Vals xs us->Vals (xs.drop n) (us.drop n)
 | _,_,0,r=>r
 | _,_,_ + 1,.nil=>.nil
 | _,_,n + 1,.cons _ t=>Vals.drop n t
noncomputable def RelO:Option V->Option Value->Prop
 | some v,some u=>RelV v u
 | none,none=>True
 | _,_=>False
def KV {κ:Type}:List (κ×V)->List (κ×Value)->Prop:=u8 λ (p:κ×V) (q:κ×Value)=>p.1=q.1/\RelV p.2 q.2
noncomputable def kV:Key->V
 | .inl i=>.int i
 | .inr x=>.str x
inductive HO where
 | lst (xs:List V)
 | tup (xs:List V)
 | dK (kvs:List (Key×V))|dT (kvs:List (List Key×V))
 | set (S:Int->Bool) (n:Nat)
 | ins (C dx:Addr) (fs:List (Str×V))
 | own (x:Addr)
 | xd (fs:List (Str×V))
 | met (f x:Addr)
 | rng (lo hi:Int)
 | frz (o:Obj) (u:HO)
 | tbl (ps:Array Value)
 | ext (φ:Heap->Prop)
noncomputable abbrev Hp:=Addr->Option HO
noncomputable def upd (H:Hp) (a:Addr) (o:HO):Hp:=λ b=>if b=a then some o else H b
theorem z01 {H:Hp} {a:Addr} {o:HO}:upd H a o a=some o:=by unfold upd;rw [if_pos rfl]
theorem upd_ne {H:Hp} {a b:Addr} {o:HO} (h:b≠a):upd H a o b=H b:=by unfold upd;rw [if_neg h]
theorem ne_of {H:Hp} {a b:Addr} {o u:HO} (h:H a=some o) (h':H b=some u) (d:o≠u):a≠b:=by intro e;subst e;rw [h] at h';exact d (S1 h')
theorem z08 {H:Hp} {a b:Addr} {o:HO} (h:H a=some o) (h':H b=none):a≠b:=by intro e;subst e;rw [h] at h';cases h'
section
variable (P:Program) (w:W0)
def IsTupN (h:Heap) (a:Addr) (items:Array Value):Prop:=IsTup h a items/\∃o,h.get? a=some o/\o.dict=none
theorem IsTupN.new (h:Heap) (items:Array Value):IsTupN (h.push { cls:=.type "tuple",data:=.seq items }) h.objs.size items:=⟨IsTup.new _ _,_,A1 _ rfl,rfl⟩
noncomputable def ObjOk (H:Hp) (h:Heap) (a:Addr):HO->Prop
 | .lst xs=>xs.length<=sizeLine/\∃(its:List Value) (n:Nat),Vals xs its/\h.get? a=some { cls:=.type "list",data:=.seq its.toArray n }
 | .tup xs=>xs.length<=sizeLine/\∃its:List Value,Vals xs its/\IsTupN h a its.toArray
 | .dK kvs=>kvs.length<=sizeLine/\(a == F3)=false/\∃vs,KV kvs vs/\h.DictOf (z10 P w) a vs
 | .dT kvs=>kvs.length<=sizeLine/\(a == F3)=false/\∃xs:List (List Key×Addr×Value),
   u8 (λ (p:List Key×V) (q:List Key×Addr×Value)=>p.1=q.1/\H q.2.1=some (.tup (p.1.map kV))/\RelV p.2 q.2.2) kvs xs/\
   ∃o es ep,h.get? a=some o/\o.ExactDict/\o.data=.dict es ep/\es.toList=xs.map (entryOfKey (Z5 (z10 P w)))/\(xs.map (·.1)).Nodup
 | .set S n=>h.SetOf (intKind P w) a S n
 | .ins C dx fs=>H dx=some (.own a)/\fs.length<=1000/\dx≠a/\h.get? a=some (j4 C dx)/\
   ∃mA,h.Ns1 dx mA/\(∀f,RelO (fs.lookup f) (mA f))/\j2c mA (fs.map (·.1))
 | .own _=>∃o,h.get? a=some o
 | .xd fs=>∃mA,h.Ns1 a mA/\∀f,RelO (fs.lookup f) (mA f)
 | .rng lo hi=>∃t u v,h.get? a=some { cls:=.type "range",data:=.fields #[.int lo t,.int hi u,.int 1 v] }
 | .frz o u=>h.get? a=some o/\ObjOk H h a u
 | .tbl ps=>h.get? a=some { cls:=.none,data:=.fields ps }
 | .met f x=>h.get? a=some (j9 (.ref f) (.ref x))
 | .ext φ=>φ h/\(∃o,h.get? a=some o)/\∀h1 h2:Heap,φ h1->(∀o,h1.get? a=some o->h2.get? a=some o)->φ h2
def HOk (H:Hp) (h:Heap):Prop:=∀a o,H a=some o->ObjOk P w H h a o
end
section
variable {P:Program} {w:W0} {H H':Hp} {h h':Heap} {a:Addr} {o:HO}
theorem ObjOk.lt (x:ObjOk P w H h a o):a < h.objs.size:=by
 cases o with
 | lst xs=>obtain ⟨_,_,_,_,e⟩:=x;exact Q0 e
 | tup xs=>obtain ⟨_,_,_,p⟩:=x;exact p.1.lt
 | dK kvs=>obtain ⟨_,_,_,_,o,_,_,e,_⟩:=x;exact Q0 e
 | dT kvs=>obtain ⟨_,_,_,_,o,_,_,e,_⟩:=x;exact Q0 e
 | set S n=>obtain ⟨o,_,_,_,e,_⟩:=x;exact Q0 e
 | ins C dx fs=>obtain ⟨_,_,_,e,_⟩:=x;exact Q0 e
 | own y=>obtain ⟨_,e⟩:=x;exact Q0 e
 | xd fs=>obtain ⟨_,⟨_,_,_,e,_⟩,_⟩:=x;exact Q0 e
 | rng lo hi=>obtain ⟨_,_,_,e⟩:=x;exact Q0 e
 | frz ob u=>obtain ⟨e,_⟩:=x;exact Q0 e
 | tbl ps=>exact Q0 (show h.get? a=some _ from x)
 | met f y=>exact Q0 (show h.get? a=some _ from x)
 | ext φ=>obtain ⟨_,⟨_,e⟩,_⟩:=x;exact Q0 e
theorem Paired.mapP {α β:Type} {F G:α->β->Prop} :∀{l₁:List α} {l₂:List β},u8 F l₁ l₂->(∀a b,F a b->G a b)->u8 G l₁ l₂
 | _,_,.nil,_=>.nil
 | _,_,.cons r t,f=>.cons (f _ _ r) (Paired.mapP t f)
theorem ObjOk.stay (x:ObjOk P w H h a o) (k :∀b u,(b=a\/H b=some (.own a))->h.get? b=some u->h'.get? b=some u)
  (ho :∀b,H b=some (.own a)->H' b=some (.own a)) (ht :∀b xs,H b=some (.tup xs)->H' b=some (.tup xs)):ObjOk P w H' h' a o:=by
 induction o with
 | lst xs=>obtain ⟨z,s,n,r,e⟩:=x;exact ⟨z,s,n,r,k _ _ (.inl rfl) e⟩
 | tup xs=>obtain ⟨z,s,r,⟨g,e,c⟩,F,m,D⟩:=x;exact ⟨z,s,r,⟨g,k _ _ (.inl rfl) e,c⟩,F,k _ _ (.inl rfl) m,D⟩
 | dK kvs=>obtain ⟨z,y,E,r,g,i,j,e,c⟩:=x;exact ⟨z,y,E,r,g,i,j,k _ _ (.inl rfl) e,c⟩
 | dT kvs=>obtain ⟨z,y,xs,r,g,i,j,e,c⟩:=x;exact ⟨z,y,xs,Paired.mapP r λ p q z=>⟨z.1,ht _ _ z.2.1,z.2.2⟩,g,i,j,k _ _ (.inl rfl) e,c⟩
 | set S n=>obtain ⟨g,i,j,t,e,c⟩:=x;exact ⟨g,i,j,t,k _ _ (.inl rfl) e,c⟩
 | ins C dx fs=>obtain ⟨d,z,ne,e,A,⟨l,i,j,m,c⟩,r⟩:=x;exact ⟨ho _ d,z,ne,k _ _ (.inl rfl) e,A,⟨l,i,j,k _ _ (.inr d) m,c⟩,r⟩
 | own y=>obtain ⟨g,e⟩:=x;exact ⟨g,k _ _ (.inl rfl) e⟩
 | xd fs=>obtain ⟨A,⟨l,i,j,e,c⟩,r⟩:=x;exact ⟨A,⟨l,i,j,k _ _ (.inl rfl) e,c⟩,r⟩
 | rng lo hi=>obtain ⟨t,u,v,e⟩:=x;exact ⟨t,u,v,k _ _ (.inl rfl) e⟩
 | frz g u ih=>obtain ⟨e,q⟩:=x;exact ⟨k _ _ (.inl rfl) e,ih q⟩
 | tbl ps=>have e:h.get? a=some { cls:=.none,data:=.fields ps }:=x;show h'.get? a=some { cls:=.none,data:=.fields ps };exact k a _ (.inl rfl) e
 | met f y=>have e:h.get? a=some (j9 (.ref f) (.ref y)):=x;show h'.get? a=some (j9 (.ref f) (.ref y));exact k a _ (.inl rfl) e
 | ext φ=>obtain ⟨p,⟨o,e⟩,B⟩:=x;exact ⟨B _ _ p λ o q=>k _ _ (.inl rfl) q,⟨o,k _ _ (.inl rfl) e⟩,B⟩
theorem HOk.lt (x:HOk P w H h) (e:H a=some o):a < h.objs.size:=(x a o e).lt
theorem HOk.fresh (x:HOk P w H h) (e:h.objs.size<=a):H a=none:=by
 cases q:H a with
 | none=>rfl
 | some u=>exact absurd (G1 (x.lt q) e) (W3 _)
theorem HOk.kept (x:HOk P w H h) (k :∀b u,h.get? b=some u->h'.get? b=some u):HOk P w H h':=λ a o e=>(x a o e).stay (λ b u _ q=>k b u q) (λ _ q=>q) λ _ _ q=>q
theorem HOk.laid (x:HOk P w H h) (k :∀b u,h.get? b=some u->h'.get? b=some u) (hp:h.objs.size<=a) (new:ObjOk P w (upd H a o) h' a o):HOk P w (upd H a o) h':=λ b u e=>by
 have d:=x.fresh hp;by_cases hb:b=a
 ·subst hb;rw [z01] at e;cases e;exact new
 ·rw [upd_ne hb] at e;exact (x b u e).stay (λ c v _ q=>k c v q) (λ c q=>by rw [upd_ne (z08 q d)];exact q) λ c f q=>by rw [upd_ne (z08 q d)];exact q
end
def Rd (H:Hp) (a:Addr) (u:HO):Prop:=H a=some u\/∃o,H a=some (.frz o u)
theorem Rd.ok {P:Program} {w:W0} {H:Hp} {h:Heap} {a:Addr} {u:HO} (r:Rd H a u) (x:HOk P w H h):ObjOk P w H h a u:=by
 rcases r with r|⟨o,r⟩
 ·exact x a u r
 ·obtain ⟨_,q⟩:=x a _ r;exact q
noncomputable def Mut:Option HO->Prop
 | some (.lst _)=>True
 | some (.dK _)=>True
 | some (.dT _)=>True
 | some (.set _ _)=>True
 | some (.ins _ _ _)=>True
 | some (.ext _)=>True
 | _=>False
section
variable {P:Program} {w:W0} {H:Hp} {h h':Heap} {x e:Addr} {o':HO}
theorem HOk.write (ok:HOk P w H h) (mu:Mut (H x)) (he:e=x\/H e=some (.own x)) (k :∀b u,b≠e->h.get? b=some u->h'.get? b=some u) (heo :∃u,h'.get? e=some u)
  (new:ObjOk P w (upd H x o') h' x o'):HOk P w (upd H x o') h':=λ b u q=>by
 have g :∀c y,H c=some (.own y)->c≠x:=λ c y r z=>by subst z;rw [r] at mu;exact mu
 have i :∀c a,H c=some (.tup a)->c≠x:=λ c a r z=>by subst z;rw [r] at mu;exact mu
 by_cases hb:b=x
 ·subst hb;rw [z01] at q;cases q;exact new
 ·rw [upd_ne hb] at q;by_cases hbe:b=e
  ·have f:H b=some (.own x):=by
    rcases he with z|z
    ·exact absurd (hbe.trans z) hb
    ·rw [hbe];exact z
   rw [q] at f;cases f;obtain ⟨v,j⟩:=heo;exact ⟨v,by rw [hbe];exact j⟩
  ·refine (ok b u q).stay (λ c v d r=>k c v ?_ r) (λ c r=>by rw [upd_ne (g c b r)];exact r) λ c a r=>by rw [upd_ne (i c a r)];exact r
   rcases d with rfl|d
   ·exact hbe
   ·rintro rfl;rcases he with z|z
    ·exact g c b d z
    ·rw [d] at z;cases z;exact hb rfl
end
structure Un (fs ex:List Addr) (H H':Hp) (h h':Heap):Prop where
 keep :∀b o,h.get? b=some o->H b=none->b∉fs->b∉ex->h'.get? b=some o
 slot :∀b o,h.get? b=some o->H b=none->b∈fs->b∉ex->∃sl,h'.get? b=some { o with slots:=sl }
 free :∀b o,h.get? b=some o->H b=none->b∉ex->H' b=none
 there :∀b o,h.get? b=some o->b∉ex->∃o',h'.get? b=some o'
 tups :∀b xs,H b=some (.tup xs)->H' b=some (.tup xs)
 frzs :∀b o u,H b=some (.frz o u)->H' b=some (.frz o u)
 tbls :∀b ps,H b=some (.tbl ps)->∃more,H' b=some (.tbl (ps++more))
section
variable {fs fs' ex ex':List Addr} {H H1 H2:Hp} {h h1 h2 h':Heap} {a x e:Addr} {o:HO}
theorem Un.any (u:Un fs ex H H1 h h1) {b:Addr} {ob:Obj} (q:h.get? b=some ob) (n:H b=none) (hx:b∉ex) :∃sl,h1.get? b=some { ob with slots:=sl }:=by
 by_cases hb:b∈fs
 ·exact u.slot b ob q n hb hx
 ·exact ⟨ob.slots,u.keep b ob q n hb hx⟩
theorem Un.kept (k :∀b u,h.get? b=some u->h'.get? b=some u):Un fs ex H H h h':=
 ⟨λ b a q _ _ _=>k b a q,λ b a q _ _ _=>⟨a.slots,k b a q⟩,λ _ _ _ n _=>n,λ b a q _=>⟨a,k b a q⟩,λ _ _ q=>q,λ _ _ _ q=>q,λ _ c q=>⟨#[],by rw [q];simp⟩⟩
theorem Un.refl:Un fs ex H H h h:=Un.kept λ _ _ q=>q
theorem Un.laid (k :∀b u,h.get? b=some u->h'.get? b=some u) (hp:h.objs.size<=a) (hn:H a=none):Un fs ex H (upd H a o) h h' where
 keep:=λ b u q _ _ _=>k b u q
 slot:=λ b u q _ _ _=>⟨u.slots,k b u q⟩
 free:=λ b u q n _=>by rw [upd_ne (F1 (G1 (Q0 q) hp))];exact n
 there:=λ b u q _=>⟨u,k b u q⟩
 tups:=λ b c q=>by rw [upd_ne (z08 q hn)];exact q
 frzs:=λ b u c q=>by rw [upd_ne (z08 q hn)];exact q
 tbls:=λ b d q=>⟨#[],by rw [upd_ne (z08 q hn),q];simp⟩
theorem Un.write (mu:Mut (H x)) (he:e=x\/H e=some (.own x)) (k :∀b u,b≠e->h.get? b=some u->h'.get? b=some u) (heo :∃u,h'.get? e=some u):Un fs ex H (upd H x o) h h':=by
 have c :∀b,H b=none->b≠x:=λ b n z=>by subst z;rw [n] at mu;exact mu
 have d :∀b,H b=none->b≠e:=λ b n z=>by
  subst z;rcases he with r|r
  ·exact c b n r
  ·rw [n] at r;cases r
 have a :∀b u,H b=some u->¬ Mut (some u)->b≠x:=λ b u q f z=>by subst z;rw [q] at mu;exact f mu
 refine ⟨λ b u q n _ _=>k b u (d b n) q,λ b u q n _ _=>⟨u.slots,k b u (d b n) q⟩,λ b u q n _=>by rw [upd_ne (c b n)];exact n,λ b u q _=>?_,
  λ b g q=>by rw [upd_ne (a b _ q λ z=>z)];exact q,λ b u g q=>by rw [upd_ne (a b _ q λ z=>z)];exact q,λ b i q=>⟨#[],by rw [upd_ne (a b _ q λ z=>z),q];simp⟩⟩
 by_cases hbe:b=e
 ·subst hbe;exact heo
 ·exact ⟨u,k b u hbe q⟩
end
noncomputable def trk (h:Heap) (H:Hp):List Addr:=(K1 h.objs.size).filter λ a=>(H a).isSome
noncomputable def hidT (h:Heap) (H:Hp):Heap:=W9 h (trk h H)
theorem zh0 (h:Heap) (H:Hp):(hidT h H).objs.size=h.objs.size:=PySem.W.hideAll_size _ _
theorem zjr {h:Heap} {H:Hp} {b:Addr} {o:Obj} (e:h.get? b=some o) (n:H b=none):(hidT h H).get? b=some o:=
 A6 _ e λ a=>by have q:(H b).isSome=true:=(List.mem_filter.mp a).2;rw [n] at q;simp at q
theorem zlm {h:Heap} {H:Hp} {b:Addr} {o:Obj} (e:(hidT h H).get? b=some o):h.get? b=some o/\H b=none:=by
 have a:h.get? b=some o:=j3d (trk h H) e;refine ⟨a,?_⟩;cases q:H b with
 | none=>rfl
 | some x=>have c:b∈trk h H:=List.mem_filter.mpr ⟨List.mem_range.mpr (Q0 a),by simp [q]⟩;have z:(hidT h H).get? b=none:=PySem.W.hideAll_none (trk h H) c;rw [z] at e;cases e
noncomputable def zkl (g h:Heap) (L:Addr):List (Addr×Obj):=(K1 h.objs.size).filterMap λ a=>if a=L\/(g.get? a).isSome=true then none else (h.get? a).map λ o=>(a,o)
noncomputable def rest (g h:Heap) (L d:Addr):List (Addr×Obj):=(zkl g h L).filter λ p=>decide (p.1≠d)
structure Mod (K:d0) (mg:Str->Option Value) (base:Heap):Prop where
 kin:K.In base
 glob:base.Ns Z2 mg
 blt :∃mb,base.Ns builtinsNs mb/\∀x:Str,x≠"__name__"->mb x=r6 x
 nolimit:base.NoLimit
structure Cx where
 prog:Program
 w:W0
 K:d0
 mg:Str->Option Value
 base:Heap
 A:Y1
 N:List Str
 s₀:A0
 H₀:Hp
 env:Env
 outer:List Env
 stack:List Env
 ex:List Addr
 fn:Str->Bool
 calm:Bool
 pn:List (Addr×Obj)
 xe:Value->A0->Prop
noncomputable def frs (l:List Env):List Addr:=l.filterMap (·.frame)
noncomputable abbrev Cx.fs (X:Cx):List Addr:=frs X.outer
def Vis (sc:Scope) (x:Str):Prop:=sc.names.lookup x=some .local\/sc.names.lookup x=some .cell\/sc.names.lookup x=some .free
def Loc (sc:Scope) (x:Str):Prop:=sc.names.lookup x=some .local\/sc.names.lookup x=some .cell
def Look (env:Env) (h:Heap) (m:Str->Option Value) (x:Str) (u:Value):Prop:=
 (env.kindOf x=some .local/\m x=some u)\/((env.kindOf x=some .cell\/env.kindOf x=some .free)/\∃c,env.cells.lookup x=some c/\h.IsCell c (some u))
structure Cx.Ok (X:Cx):Prop where
 mod:Mod X.K X.mg X.base
 kind:X.env.scope.kind=.function
 glob:X.env.globals=Z2
 blt:X.env.builtins=builtinsNs
 above:X.s₀.heap.objs.size<=X.env.locals
 inj :∀x y c,X.env.cells.lookup x=some c->X.env.cells.lookup y=some c->x=y
 has :∀x,(X.env.kindOf x=some .cell\/X.env.kindOf x=some .free)->∃c,X.env.cells.lookup x=some c
 cab :∀x c,X.fn x=true->X.env.cells.lookup x=some c->X.s₀.heap.objs.size<=c
 hd:X.calm=true->X.A.handled=none
 frames:X.A.frames=some X.stack
 stk:X.stack=X.outer\/(X.stack=X.env :: X.outer/\X.env.frame=some X.env.locals)
 exf :∀b∈X.ex,b≠X.env.locals/\∀x c,X.env.cells.lookup x=some c->c≠b
 bs :∀b o,X.base.get? b=some o->X.s₀.heap.get? b=some o/\X.H₀ b=none
 bsz:X.base.objs.size<=X.s₀.heap.objs.size
 noex :∀b o,X.base.get? b=some o->b∉X.ex
 exfs :∀b∈X.ex,b∉X.fs
 funs:X.s₀.heap.FunFrames X.base X.outer
 frf :∀b∈X.fs,X.H₀ b=none
structure Inv (X:Cx) (pins:List (Addr×Obj)) (σ:List (Option V)) (H:Hp) (s:A0):Prop where
 ok:X.Ok
 os:s.os=X.s₀.os
 bare:i8 s.gens
 base:Un X.fs X.ex X.H₀ H X.s₀.heap s.heap
 loc :∃m,s.heap.Ns X.env.locals m/\∀(i:Nat) (x:Str) (v:V),X.N[i]? = some x->σ[i]? = some (some v)->Vis X.env.scope x->∃u,RelV v u/\Look X.env s.heap m x u
 cell :∀x c,X.env.cells.lookup x=some c->∃v,s.heap.IsCell c v
 free:H X.env.locals=none
 freeC :∀x c,X.env.cells.lookup x=some c->H c=none
 pin :∀p∈X.pn++pins,s.heap.get? p.1=some p.2/\H p.1=none/\p.1≠X.env.locals/\p.1∉X.fs/\∀v,p.2.data≠.cell v
 hok:HOk X.prog X.w H s.heap
 len:σ.length=X.N.length
section
variable {X:Cx} {pins:List (Addr×Obj)} {σ:List (Option V)} {H H':Hp} {s:A0} {h':Heap}
theorem Cx.Ok.nofr (ok:X.Ok) {b:Addr} {o:Obj} (e:X.base.get? b=some o):b∉X.fs:=λ a=>by have:=(ok.funs.mem a).1;rw [e] at this;cases this
theorem Inv.bs (I:Inv X pins σ H s) :∀b o,X.base.get? b=some o->s.heap.get? b=some o/\H b=none:=λ b o e=>⟨I.base.keep b o (I.ok.bs b o e).1 (I.ok.bs b o e).2 (I.ok.nofr e) (I.ok.noex b o e),I.base.free b o (I.ok.bs b o e).1 (I.ok.bs b o e).2 (I.ok.noex b o e)⟩
theorem Inv.bk (I:Inv X pins σ H s) :∀b o,X.base.get? b=some o->s.heap.get? b=some o:=λ b o e=>(I.bs b o e).1
theorem Inv.mod (I:Inv X pins σ H s):Mod X.K X.mg X.base:=I.ok.mod
theorem Inv.kIn (I:Inv X pins σ H s):X.K.In s.heap:=I.ok.mod.kin.keeps I.bk
theorem Inv.lt (I:Inv X pins σ H s):X.env.locals < s.heap.objs.size:=let ⟨_,hn,_⟩:=I.loc;hn.lt
theorem Inv.sz (I:Inv X pins σ H s):X.s₀.heap.objs.size<=s.heap.objs.size:=D0 I.ok.above (d3 I.lt)
theorem Inv.nofs (I:Inv X pins σ H s) {a:Addr} (h:s.heap.objs.size<=a):a∉X.fs:=λ c=>by obtain ⟨_,o,b,_⟩:=I.ok.funs.mem c;exact absurd (G1 (Q0 b) (D0 I.sz h)) (W3 _)
theorem Inv.cne (I:Inv X pins σ H s) :∀x c,X.env.cells.lookup x=some c->c≠X.env.locals:=λ x c e z=>by obtain ⟨v,o,b,a⟩:=I.cell x c e;obtain ⟨m,⟨h,i,g,d,f,_⟩,_⟩:=I.loc;rw [z,d] at b;cases b;rw [f] at a;cases a
theorem Inv.funs (I:Inv X pins σ H s):s.heap.FunFrames X.base X.outer:=by
 have all :∀(l:List Env),(∀b∈frs l,b∈X.fs)->X.s₀.heap.FunFrames X.base l->s.heap.FunFrames X.base l:=by
  intro l;induction l with
  | nil=>intro _ _;trivial
  | cons env r ih=>intro f i;obtain ⟨k,⟨L,o,c,h,j,g⟩,m⟩:=i;have a:L∈X.fs:=f L (by unfold frs;rw [K6,c];exact C1);obtain ⟨n,e⟩:=I.base.slot L o j (I.ok.frf L a) a λ z=>I.ok.exfs L z a;exact ⟨k,⟨L,_,c,h,e,g⟩,ih (λ b d=>f b (by unfold frs;rw [K6,c];exact Y0 _ d)) m⟩
 exact all X.outer (λ _ d=>d) I.ok.funs
theorem Inv.stack (I:Inv X pins σ H s):s.heap.FunFrames X.base X.stack:=by
 rcases I.ok.stk with e|⟨e,hf⟩
 ·rw [e];exact I.funs
 ·rw [e];obtain ⟨m,a,_⟩:=I.loc;refine .cons (by rw [I.ok.kind];decide) hf a ?_ I.funs;exact Heap.get?_none_of_le (D0 I.ok.bsz I.ok.above)
theorem Inv.stkSub (I:Inv X pins σ H s) :∀b∈frs X.stack,b∈X.env.locals :: X.fs:=λ b a=>by
 rcases I.ok.stk with e|⟨e,hf⟩
 ·rw [e] at a;exact Y0 _ a
 ·rw [e] at a;unfold frs at a;rw [K6,hf] at a;exact a
theorem Inv.stkFree (I:Inv X pins σ H s) :∀b∈frs X.stack,H b=none:=λ b a=>by
 rcases List.mem_cons.mp (I.stkSub b a) with e|a
 ·rw [e];exact I.free
 ·obtain ⟨_,o,c,_⟩:=I.ok.funs.mem a;exact I.base.free b o c (I.ok.frf b a) λ z=>I.ok.exfs b z a
theorem Inv.step {g':Array j3f} {t':Nat} {d':Drawn} {ch:List Addr} (I:Inv X pins σ H s)
  (hch :∀b∈ch,(b∈X.ex\/X.s₀.heap.objs.size<=b)/\b≠X.env.locals/\(∀x c,X.env.cells.lookup x=some c->c≠b)/\∀p∈X.pn++pins,p.1≠b)
  (keep :∀b o,b≠X.env.locals->b∉X.fs->b∉ch->s.heap.get? b=some o->H b=none->h'.get? b=some o)
  (slot :∀b o,b≠X.env.locals->b∈X.fs->b∉ch->s.heap.get? b=some o->H b=none->∃sl,h'.get? b=some { o with slots:=sl }) (free :∀b o,b∉ch->s.heap.get? b=some o->H b=none->H' b=none)
  (there :∀b o,b∉ch->s.heap.get? b=some o->∃o',h'.get? b=some o')
  (tups :∀b xs,H b=some (.tup xs)->H' b=some (.tup xs)) (frzs :∀b o u,H b=some (.frz o u)->H' b=some (.frz o u)) (tbls :∀b ps,H b=some (.tbl ps)->∃more,H' b=some (.tbl (ps++more)))
  (ns :∀m,s.heap.Ns X.env.locals m->h'.Ns X.env.locals m) (hok:HOk X.prog X.w H' h') (hg:i8 g') :
  Inv X pins σ H' { s with heap:=h',gens:=g',drawn:=d',toks:=t' }:=by
 have E :∀b o,X.s₀.heap.get? b=some o->b≠X.env.locals:=λ b o e=>F1 (G1 (Q0 e) I.ok.above);have y :∀b o,X.s₀.heap.get? b=some o->b∉X.ex->b∉ch:=λ b o e a g=>by
  rcases (hch b g).1 with z|z
  ·exact a z
  ·exact absurd (G1 (Q0 e) z) (W3 _)
 have C :∀x c,X.env.cells.lookup x=some c->∀v,s.heap.IsCell c v->h'.IsCell c v:=λ x c e v ⟨o,h,A⟩=>by
  have t:c∉ch:=λ z=>(hch c z).2.2.1 x c e rfl;by_cases hc:c∈X.fs
  ·obtain ⟨sl,q⟩:=slot c o (I.cne x c e) hc t h (I.freeC x c e);exact ⟨_,q,A⟩
  ·exact ⟨o,keep c o (I.cne x c e) hc t h (I.freeC x c e),A⟩
 refine ⟨I.ok,I.os,hg,⟨λ b o e n g a=>?_,λ b o e n g a=>?_,λ b o e n a=>?_,λ b o e a=>?_,λ b xs e=>tups b xs (I.base.tups b xs e),λ b o xs e=>frzs b o xs (I.base.frzs b o xs e),λ b ps e=>?_⟩,?_,λ x c e=>?_,?_,λ x c e=>?_,λ p B=>?_,hok,I.len⟩
 ·exact keep b o (E b o e) g (y b o e a) (I.base.keep b o e n g a) (I.base.free b o e n a)
 ·obtain ⟨sl,f⟩:=I.base.slot b o e n g a;obtain ⟨F,j⟩:=slot b _ (E b o e) g (y b o e a) f (I.base.free b o e n a);exact ⟨F,j⟩
 ·obtain ⟨o',f⟩:=I.base.there b o e a;exact free b o' (y b o e a) f (I.base.free b o e n a)
 ·obtain ⟨o',f⟩:=I.base.there b o e a;exact there b o' (y b o e a) f
 ·obtain ⟨M,f⟩:=I.base.tbls b ps e;obtain ⟨J,j⟩:=tbls b _ f;exact ⟨M++J,by rw [j,Array.append_assoc]⟩
 ·obtain ⟨m,K,L⟩:=I.loc;refine ⟨m,ns m K,λ i x v f j G=>?_⟩;obtain ⟨u,r,l⟩:=L i x v f j G;refine ⟨u,r,?_⟩;rcases l with l|⟨k,c,e,z⟩
  ·exact .inl l
  ·exact .inr ⟨k,c,e,C x c e _ z⟩
 ·obtain ⟨v,z⟩:=I.cell x c e;exact ⟨v,C x c e v z⟩
 ·obtain ⟨m,⟨o,_,_,h,_⟩,_⟩:=I.loc;exact free _ o (λ z=>(hch _ z).2.1 rfl) h I.free
 ·obtain ⟨v,o,h,A⟩:=I.cell x c e;exact free c o (λ z=>(hch c z).2.2.1 x c e rfl) h (I.freeC x c e)
 ·obtain ⟨e,n,ne,D,d⟩:=I.pin p B;have t:p.1∉ch:=λ z=>(hch p.1 z).2.2.2 p B rfl;exact ⟨keep p.1 p.2 ne D t e n,free p.1 p.2 t e n,ne,D,d⟩
theorem Inv.un {t':Nat} (I:Inv X pins σ H s) (u:Un X.fs [] H H' s.heap h') (hok:HOk X.prog X.w H' h'):Inv X pins σ H' { s with heap:=h',toks:=t' }:=by obtain ⟨m,⟨o,p,t,c,r⟩,_⟩:=id I.loc;obtain ⟨k,g⟩:=u.any c I.free (by simp);exact I.step (g':=s.gens) (d':=s.drawn) (ch:=[]) (λ _ z=>nomatch z) (λ b o _ a _ e n=>u.keep b o e n a (by simp)) (λ b o _ a _ e n=>u.slot b o e n a (by simp)) (λ b o _ e n=>u.free b o e n (by simp)) (λ b o _ e=>u.there b o e (by simp)) u.tups u.frzs u.tbls (λ q j=>by obtain ⟨l,i,h,d,f⟩:=j;rw [c] at d;cases d;exact ⟨_,i,h,g,f⟩) hok I.bare
theorem Inv.call {g':Array j3f} {t':Nat} {d':Drawn} {ch:List Addr} (I:Inv X pins σ H s) (u:Un (frs X.stack) ch H H' s.heap h') (hok:HOk X.prog X.w H' h') (hg:i8 g')
  (hch :∀b∈ch,(b∈X.ex\/X.s₀.heap.objs.size<=b)/\b≠X.env.locals/\(∀x c,X.env.cells.lookup x=some c->c≠b)/\∀p∈X.pn++pins,p.1≠b) :
  Inv X pins σ H' { s with heap:=h',gens:=g',drawn:=d',toks:=t' }:=by
 obtain ⟨m,⟨o,v,A,f,r⟩,_⟩:=id I.loc;obtain ⟨q,d⟩:=u.any f I.free λ z=>(hch _ z).2.1 rfl;exact I.step (ch:=ch) hch (λ b o d i a e n=>u.keep b o e n (λ z=>(List.mem_cons.mp (I.stkSub b z)).elim d i) a) (λ b o _ _ a e n=>u.any e n a) (λ b o a e n=>u.free b o e n a) (λ b o a e=>u.there b o e a) u.tups u.frzs u.tbls (λ y l=>by obtain ⟨t,k,j,g,h⟩:=l;rw [f] at g;cases g;exact ⟨_,k,j,d,h⟩) hok hg
theorem Inv.turned {t':Nat} {it:Addr} (I:Inv X pins σ H s) (k :∀b o,b≠it->s.heap.get? b=some o->h'.get? b=some o) (hn:H it=none) (hL:it≠X.env.locals)
  (h1:it∈X.ex\/X.s₀.heap.objs.size<=it) (h2 :∀x c,X.env.cells.lookup x=some c->c≠it) (h3 :∀p∈X.pn++pins,p.1≠it):Inv X pins σ H { s with heap:=h',toks:=t' }:=by
 have d :∀b u,H b=some u->b≠it:=λ b u e z=>by rw [z,hn] at e;cases e
 refine I.step (g':=s.gens) (d':=s.drawn) (ch:=[it]) (λ b g=>?_) (λ b o _ _ a e _=>k b o (λ z=>a (by simp [z])) e) (λ b o _ _ a e _=>⟨o.slots,k b o (λ z=>a (by simp [z])) e⟩) (λ _ _ _ _ n=>n)
  (λ b o a e=>⟨o,k b o (λ z=>a (by simp [z])) e⟩) (λ _ _ e=>e) (λ _ _ _ e=>e) (λ b l e=>⟨#[],by rw [e];simp⟩) (λ m f=>?_) (λ b u e=>?_) I.bare
 ·have e:b=it:=by simpa using g
  subst e;exact ⟨h1,hL,h2,h3⟩
 ·obtain ⟨o,i,h,j,r⟩:=f;exact ⟨o,i,h,k _ o (V3 hL) j,r⟩
 ·refine (I.hok b u e).stay (λ c v a q=>k c v ?_ q) (λ _ q=>q) λ _ _ q=>q;rcases a with z|z
  ·rw [z];exact d b u e
  ·exact d c _ z
theorem Inv.tok (I:Inv X pins σ H s) (t:Nat):Inv X pins σ H { s with toks:=t }:=I.un (h':=s.heap) (t':=t) Un.refl I.hok
theorem Inv.kept {t':Nat} (I:Inv X pins σ H s) (k :∀b u,s.heap.get? b=some u->h'.get? b=some u):Inv X pins σ H { s with heap:=h',toks:=t' }:=I.un (Un.kept k) (I.hok.kept k)
theorem Inv.laid {a:Addr} {o:HO} {t':Nat} (I:Inv X pins σ H s) (k :∀b u,s.heap.get? b=some u->h'.get? b=some u) (hp:s.heap.objs.size<=a) (new:ObjOk X.prog X.w (upd H a o) h' a o) :
  Inv X pins σ (upd H a o) { s with heap:=h',toks:=t' }:=I.un (Un.laid k hp (I.hok.fresh hp)) (I.hok.laid k hp new)
theorem Inv.write {x e:Addr} {o:HO} {t':Nat} (I:Inv X pins σ H s) (mu:Mut (H x)) (he:e=x\/H e=some (.own x)) (k :∀b u,b≠e->s.heap.get? b=some u->h'.get? b=some u) (heo :∃u,h'.get? e=some u)
  (new:ObjOk X.prog X.w (upd H x o) h' x o):Inv X pins σ (upd H x o) { s with heap:=h',toks:=t' }:=I.un (Un.write mu he k heo) (I.hok.write mu he k heo new)
theorem Inv.weak {σ':List (Option V)} (I:Inv X pins σ H s) (hl:σ'.length=σ.length) (w :∀(i:Nat) v,σ'[i]? = some (some v)->σ[i]? = some (some v)):Inv X pins σ' H s:=
 ⟨I.ok,I.os,I.bare,I.base,let ⟨m,hn,hl'⟩:=I.loc;⟨m,hn,λ i x v a c b=>hl' i x v a (w i v c) b⟩,I.cell,I.free,I.freeC,I.pin,I.hok,hl.trans I.len⟩
theorem Inv.pins_of {pins':List (Addr×Obj)} (I:Inv X pins σ H s) (h :∀p∈pins',s.heap.get? p.1=some p.2/\H p.1=none/\p.1≠X.env.locals/\p.1∉X.fs/\∀v,p.2.data≠.cell v):Inv X pins' σ H s:=
 ⟨I.ok,I.os,I.bare,I.base,I.loc,I.cell,I.free,I.freeC,λ p a=>(List.mem_append.mp a).elim (λ z=>I.pin p (u5 _ z)) (h p),I.hok,I.len⟩
theorem zbt {N:List Str} (hN:N.Nodup) {i j:Nat} {x:Str} (a:N[i]? = some x) (b:N[j]? = some x):i=j:=by obtain ⟨e,c⟩:=List.getElem?_eq_some_iff.mp a;obtain ⟨f,d⟩:=List.getElem?_eq_some_iff.mp b;exact (j01 hN).mp (c.trans d.symm)
theorem zhl {M:Model} {A:Y1} {E:Value->A0->Prop} {i:Nat} {x:Str} {v:V} {u:Value} {Q:Unit->A0->Prop} (I:Inv X pins σ H s) (hN:X.N.Nodup) (hi:X.N[i]? = some x) (hx:Loc X.env.scope x) (r:RelV v u)
  (h :∀s',Inv X pins (σ.set i (some v)) H s'->(∃a,U5 a s.heap s'.heap/\(a=X.env.locals\/X.env.cells.lookup x=some a))->Q () s') (hf:X.fn x=true\/X.env.scope.names.lookup x=some .local:=by first|exact .inl rfl|exact .inr rfl|assumption):V0 M A (storeName X.env x u) Q E s:=by
 obtain ⟨m,R,hl⟩:=id I.loc;have a4:(X.env.scope.kind == .class || (X.env.scope.kind == .module && X.env.locals != X.env.globals))=false:=by rw [I.ok.kind];rfl
 have Z:i < σ.length:=by rw [I.len];exact (List.getElem?_eq_some_iff.mp hi).1
 have cne:=I.cne;have a1 :∀{a:Addr} {C:Heap},(∃o,s.heap.get? a=some o/\H a=none)->U5 a s.heap C->HOk X.prog X.w H C:=λ {a C} ha f b ob e=>by
  obtain ⟨_,_,a2⟩:=ha;refine (I.hok b ob e).stay (λ c F l q=>(f.2 c ?_).trans q) (λ _ q=>q) λ _ _ q=>q;rintro rfl;rcases l with rfl|l
  ·rw [a2] at e;cases e
  ·rw [a2] at l;cases l
 rcases hx with hk|hk
 ·refine wpAny_storeName_local hk R (λ C a6 f=>?_) a4;obtain ⟨oL,_,_,a3,_⟩:=id R;refine h _ ⟨I.ok,I.os,I.bare,⟨λ b o e n B hx=>?_,λ b o e n B hx=>?_,I.base.free,λ b o e hx=>?_,I.base.tups,I.base.frzs,I.base.tbls⟩,⟨_,a6,λ j y U g t O=>?_⟩,λ y c e=>?_,I.free,I.freeC,λ p K=>?_,a1 ⟨oL,a3,I.free⟩ f,by simpa using I.len⟩ ⟨_,f,.inl rfl⟩
  ·exact (f.2 b (F1 (G1 (Q0 e) I.ok.above))).trans (I.base.keep b o e n B hx)
  ·obtain ⟨J,g⟩:=I.base.slot b o e n B hx;exact ⟨J,(f.2 b (F1 (G1 (Q0 e) I.ok.above))).trans g⟩
  ·obtain ⟨P,g⟩:=I.base.there b o e hx;exact ⟨P,(f.2 b (F1 (G1 (Q0 e) I.ok.above))).trans g⟩
  ·by_cases hj:j=i
   ·subst hj;rw [hi] at g;cases g;rw [c8 Z] at t;cases t;exact ⟨u,r,.inl ⟨hk,by simp⟩⟩
   ·rw [P8 (V3 hj)] at t;obtain ⟨S,G,q⟩:=hl j y U g t O;refine ⟨S,G,?_⟩;rcases q with ⟨k,e⟩|⟨k,c,e,z⟩
    ·refine .inl ⟨k,?_⟩;have:y≠x:=λ e=>hj (zbt hN g (e ▸ hi));simp [this,e]
    ·exact .inr ⟨k,c,e,z.sameBut f (cne y c e)⟩
  ·obtain ⟨F,z⟩:=I.cell y c e;exact ⟨F,z.sameBut f (cne y c e)⟩
  ·obtain ⟨e,n,ne,L,d⟩:=I.pin p K;exact ⟨(f.2 p.1 ne).trans e,n,ne,L,d⟩
 ·have T:X.fn x=true:=by
   rcases hf with z|z
   ·exact z
   ·rw [z] at hk;cases hk
  obtain ⟨c,l⟩:=I.ok.has x (.inl hk);obtain ⟨F,z⟩:=I.cell x c l;refine wpAny_storeName_cell I.ok.kind hk l z (λ C a0 f=>?_);obtain ⟨W,Y,a5⟩:=id z;refine h { s with heap:=C } ⟨I.ok,I.os,I.bare,⟨λ b o e n B hx=>?_,λ b o e n B hx=>?_,I.base.free,λ b o e hx=>?_,I.base.tups,I.base.frzs,I.base.tbls⟩,⟨m,R.sameBut f (V3 (cne x c l)),λ j y U g t O=>?_⟩,λ y D e=>?_,I.free,I.freeC,λ p K=>?_,a1 ⟨W,Y,I.freeC x c l⟩ f,by simpa using I.len⟩ ⟨c,f,.inr l⟩
  ·exact (f.2 b (F1 (G1 (Q0 e) (I.ok.cab x c T l)))).trans (I.base.keep b o e n B hx)
  ·obtain ⟨J,g⟩:=I.base.slot b o e n B hx;exact ⟨J,(f.2 b (F1 (G1 (Q0 e) (I.ok.cab x c T l)))).trans g⟩
  ·obtain ⟨P,g⟩:=I.base.there b o e hx;exact ⟨P,(f.2 b (F1 (G1 (Q0 e) (I.ok.cab x c T l)))).trans g⟩
  ·by_cases hj:j=i
   ·subst hj;rw [hi] at g;cases g;rw [c8 Z] at t;cases t;exact ⟨u,r,.inr ⟨.inl hk,c,l,a0⟩⟩
   ·rw [P8 (V3 hj)] at t;obtain ⟨S,G,q⟩:=hl j y U g t O;refine ⟨S,G,?_⟩;rcases q with q|⟨k,D,e,z'⟩
    ·exact .inl q
    ·refine .inr ⟨k,D,e,z'.sameBut f ?_⟩;rintro rfl;exact hj (zbt hN g (I.ok.inj _ _ _ e l ▸ hi))
  ·by_cases hcc:D=c
   ·subst hcc;exact ⟨_,a0⟩
   ·obtain ⟨w2,z2⟩:=I.cell y D e;exact ⟨w2,z2.sameBut f hcc⟩
  ·obtain ⟨e,n,ne,L,d⟩:=I.pin p K;refine ⟨(f.2 p.1 ?_).trans e,n,ne,L,d⟩;intro q;rw [q,Y] at e;have q':W=p.2:=S1 e;exact d F (by rw [<-q'];exact a5)
theorem zb6 {M:Model} {A:Y1} {E:Value->A0->Prop} {i:Nat} {x:Str} {v:V} {u:Value} {Q:Unit->A0->Prop} (I:Inv X pins σ H s) (hN:X.N.Nodup) (hi:X.N[i]? = some x) (hx:Loc X.env.scope x) (r:RelV v u)
  (h :∀s',Inv X pins (σ.set i (some v)) H s'->Q () s') (hf:X.fn x=true\/X.env.scope.names.lookup x=some .local:=by first|exact .inl rfl|exact .inr rfl|assumption):V0 M A (storeName X.env x u) Q E s:=
 zhl I hN hi hx r (λ s' a _=>h s' a) hf
theorem Inv.call' {s':A0} {ch:List Addr} (I:Inv X pins σ H s) (ho:s'.os=s.os) (u:Un (frs X.stack) ch H H' s.heap s'.heap) (hok:HOk X.prog X.w H' s'.heap) (hg:i8 s'.gens)
  (hch :∀b∈ch,(b∈X.ex\/X.s₀.heap.objs.size<=b)/\b≠X.env.locals/\(∀x c,X.env.cells.lookup x=some c->c≠b)/\∀p∈X.pn++pins,p.1≠b):Inv X pins σ H' s':=by
 obtain ⟨d,g',d',t',a⟩:=s';have e:a=s.os:=ho;subst e;exact I.call (g':=g') (t':=t') (d':=d') u hok hg hch
end
noncomputable abbrev XK:=Value->Option Addr->Hp->Prop
noncomputable abbrev St:=List (Option V)
noncomputable abbrev VK:=V->Hp->Prop
noncomputable abbrev TE:=St->Hp->VK->Prop
noncomputable abbrev TT:=St->Hp->(Bool->Hp->Prop)->Prop
noncomputable abbrev TA:=St->Hp->(List V->Hp->Prop)->Prop
structure Ends where
 nx:St->Hp->Prop
 rt:VK
 bk:St->Hp->Prop:=λ _ _=>False
 ct:St->Hp->Prop:=λ _ _=>False
noncomputable abbrev TS:=Ends->St->Hp->Prop
def EP (X:Cx) (pins:List (Addr×Obj)) (σ:St) (Q:VK) (u:Value) (s':A0):Prop:=∃v H',Inv X pins σ H' s'/\RelV v u/\Q v H'
def TP (X:Cx) (pins:List (Addr×Obj)) (σ:St) (Q:Bool->Hp->Prop) (b:Bool) (s':A0):Prop:=∃H',Inv X pins σ H' s'/\Q b H'
def AP (X:Cx) (pins:List (Addr×Obj)) (σ:St) (Q:List V->Hp->Prop) (us:List Value) (s':A0):Prop:=∃vs H',Inv X pins σ H' s'/\Vals vs us/\Q vs H'
def SP (X:Cx) (pins:List (Addr×Obj)) (D:Ends) (f:Flow) (s':A0):Prop:=
 match f with
 | .next=>∃σ' H',Inv X pins σ' H' s'/\D.nx σ' H'
 | .brk=>∃σ' H',Inv X pins σ' H' s'/\D.bk σ' H'
 | .cont=>∃σ' H',Inv X pins σ' H' s'/\D.ct σ' H'
 | .ret u=>∃v σ' H',Inv X pins σ' H' s'/\RelV v u/\D.rt v H'
def PE (X:Cx) (e:Expr) (t:TE):Prop:=
 ∀(pins:List (Addr×Obj)) (s:A0) (σ:St) (H:Hp) (Q:VK),Inv X pins σ H s->t σ H Q->V0 (E1 X.prog X.w) X.A (m3 e X.env) (EP X pins σ Q) X.xe s
def PT (X:Cx) (e:Expr) (t:TT):Prop:=
 ∀(pins:List (Addr×Obj)) (s:A0) (σ:St) (H:Hp) (Q:Bool->Hp->Prop),Inv X pins σ H s->t σ H Q->V0 (E1 X.prog X.w) X.A (isTrue e X.env (m3 e X.env)) (TP X pins σ Q) X.xe s
def PW (X:Cx) (e:Expr) (t:TT):Prop:=
 ∀(whole:Sem Value) (pins:List (Addr×Obj)) (s:A0) (σ:St) (H:Hp) (Q:Bool->Hp->Prop),Inv X pins σ H s->t σ H Q->V0 (E1 X.prog X.w) X.A (isTrue e X.env whole) (TP X pins σ Q) X.xe s
theorem PW.pt {X:Cx} {e:Expr} {t:TT} (h:PW X e t):PT X e t:=h _
def PA (X:Cx) (es:List Expr) (t:TA):Prop:=
 ∀(pos:Pos) (pins:List (Addr×Obj)) (s:A0) (σ:St) (H:Hp) (Q:List V->Hp->Prop),Inv X pins σ H s->t σ H Q->V0 (E1 X.prog X.w) X.A (spliced (Q3 pos (B1 es X.env))) (AP X pins σ Q) X.xe s
def PS (X:Cx) (st:Stmt) (t:TS):Prop:=
 ∀(pins:List (Addr×Obj)) (s:A0) (σ:St) (H:Hp) (D:Ends),Inv X pins σ H s->t D σ H->V0 (E1 X.prog X.w) X.A (exec st X.env) (SP X pins D) X.xe s
def PSs (X:Cx) (st:List Stmt) (t:TS):Prop:=
 ∀(pins:List (Addr×Obj)) (s:A0) (σ:St) (H:Hp) (D:Ends),Inv X pins σ H s->t D σ H->V0 (E1 X.prog X.w) X.A (execs st X.env) (SP X pins D) X.xe s
theorem thn {α:Type} {t:Sem α} {Q Q':α->A0->Prop} {M:Model} {A:Y1} {E:Value->A0->Prop} {s:A0} (h:V0 M A t Q E s) (hQ :∀a s,Q a s->Q' a s):V0 M A t Q' E s:=V2 h hQ λ _ _ x=>x
section
variable {X:Cx}
noncomputable def tVar (i:Nat):TE:=λ σ H Q=>∃v,σ[i]? = some (some v)/\Q v H
noncomputable def tC (v:V):TE:=λ _ H Q=>Q v H
theorem pe_var {i:Nat} {x:Str} {pos:Pos} (hN:X.N[i]? = some x) (hv:Vis X.env.scope x) (hd:(x == ("__debug__" : Str))=false:=by decide) (hcd:(x == ("__classdict__" : Str))=false:=by decide):PE X (.Name x pos) (tVar i):=by
 intro j s σ H Q I h;obtain ⟨v,e,h⟩:=h;obtain ⟨m,f,g⟩:=I.loc;obtain ⟨u,r,l⟩:=g i x v hN e hv;have b:EP X j σ Q u s:=⟨v,H,I,r,h⟩
 rcases l with ⟨a,d⟩|⟨a,c,hc,hcell⟩
 ·exact wpAny_Name (wpAny_loadName_local I.ok.kind a f d b) hd
 ·rcases a with a|a
  ·exact wpAny_Name (wpAny_loadName_cell I.ok.kind a hc hcell b) hd
  ·exact wpAny_Name (wpAny_loadName_free I.ok.kind a hc hcell b hcd) hd
theorem pe_int {i j pos}:PE X (.Constant (.int i) j pos) (tC (.int i)):=λ _ _ _ H _ I h=>wpAny_Constant_int ⟨.int i,H,I.tok _,⟨_,rfl⟩,h⟩
theorem pe_bl {b j pos}:PE X (.Constant (.bool b) j pos) (tC (.bl b)):=λ _ _ _ H _ I h=>Constant_bool ⟨.bl b,H,I,rfl,h⟩
theorem pe_non {j pos}:PE X (.Constant .none j pos) (tC .non):=λ _ _ _ H _ I h=>Constant_none ⟨.non,H,I,rfl,h⟩
theorem pe_str {x j pos}:PE X (.Constant (.str x) j pos) (tC (.str x)):=λ _ _ _ H _ I h=>Calls.Constant_str ⟨.str x,H,I.tok _,⟨_,rfl⟩,h⟩
def Gl (X:Cx) (x:Str):Prop:=X.env.kindOf x=some .globalImplicit
theorem z7j {E:Value->A0->Prop} {pins:List (Addr×Obj)} {s:A0} {σ:St} {H:Hp} {x:Str} {u:Value} {pos:Pos} {Q:Value->A0->Prop} (I:Inv X pins σ H s) (hg:Gl X x) (hm:X.mg x=some u) (h:Q u s)
  (hd:(x == ("__debug__" : Str))=false:=by decide):V0 (E1 X.prog X.w) X.A (m3 (.Name x pos) X.env) Q E s:=
 j13 I.ok.kind hg (Calls.loadGlobal_global (by rw [I.ok.glob];exact I.mod.glob.keeps I.bk) hm h) hd
theorem ld_blt {E:Value->A0->Prop} {pins:List (Addr×Obj)} {s:A0} {σ:St} {H:Hp} {x:Str} {u:Value} {pos:Pos} {Q:Value->A0->Prop} (I:Inv X pins σ H s) (hg:Gl X x) (hm:X.mg x=none) (hv:r6 x=some u) (h:Q u s)
  (hn:x≠"__name__":=by decide) (hd:(x == ("__debug__" : Str))=false:=by decide):V0 (E1 X.prog X.w) X.A (m3 (.Name x pos) X.env) Q E s:=by
 obtain ⟨c,a,b⟩:=I.mod.blt;exact j13 I.ok.kind hg (Calls.loadGlobal_builtin (by rw [I.ok.glob];exact I.mod.glob.keeps I.bk) hm (by rw [I.ok.blt];exact a.keeps I.bk) ((b x hn).trans hv) h) hd
theorem z0n {x:Str} {v:V} {u:Value} {pos:Pos} (hg:Gl X x) (hm:X.mg x=some u) (r:RelV v u) (hd:(x == ("__debug__" : Str))=false:=by decide):PE X (.Name x pos) (tC v):=
 λ _ _ _ H _ I h=>z7j I hg hm ⟨v,H,I,r,h⟩ hd
theorem z2w {x:Str} {v:V} {u:Value} {pos:Pos} (hg:Gl X x) (hm:X.mg x=none) (hv:r6 x=some u) (r:RelV v u) (hn:x≠"__name__":=by decide) (hd:(x == ("__debug__" : Str))=false:=by decide):PE X (.Name x pos) (tC v):=
 λ _ _ _ H _ I h=>ld_blt I hg hm hv ⟨v,H,I,r,h⟩ hn hd
variable {a b:Expr} {ta tb:TE} {pos:Pos}
def PC (X:Cx) (op:CmpOp) (a b:Expr) (t:TE):Prop:=
 ∀(pins:List (Addr×Obj)) (s:A0) (σ:St) (H:Hp) (Q:VK),Inv X pins σ H s->t σ H Q->
  V0 (E1 X.prog X.w) X.A (m3 a X.env) (λ v s₁=>V0 (E1 X.prog X.w) X.A (m3 b X.env) (λ u s₂=>V0 (E1 X.prog X.w) X.A (N2 op v u) (EP X pins σ Q) X.xe s₂) X.xe s₁) X.xe s
noncomputable def tB (t:TE):TT:=λ σ H Q=>t σ H λ x H1=>∃c,x=.bl c/\Q c H1
theorem pt_cmp {op:CmpOp} {t:TE} (h:PC X op a b t) (h1:j8 op b=false:=by first|exact nobehind _ (by decide) (by decide)|rfl):PT X (.Compare a [op] [b] pos) (tB t):=by intro g s σ H Q I f;refine wpAny_isTrue_Compare1 (thn (h g s σ H _ I f) λ v i h1=>thn h1 λ u k e=>thn e λ c j ⟨x,H1,I1,r1,q1⟩=>?_) h1;obtain ⟨d,rfl,q⟩:=q1;cases r1;exact T3 ⟨H1,I1,q⟩
theorem pt_val {e:Expr} {t:TE} (h:PE X e t) (he :∀whole,isTrue e X.env whole=(do let v <-whole;j2h e.pos;j0j [v] (truthy v)):=by intro _;rfl):PT X e (tB t):=by intro b s σ H Q I a;refine isTrue_plain (thn (h b s σ H _ I a) λ v c ⟨x,H1,I1,r1,q1⟩=>?_) (he _);obtain ⟨d,rfl,q⟩:=q1;cases r1;exact T3 ⟨H1,I1,q⟩
variable {tA tB':TT} {rest:List Expr}
noncomputable def tAnd (t u:TT):TT:=λ σ H Q=>t σ H λ c H1=>if c=true then u σ H1 Q else Q false H1
noncomputable def tOr (t u:TT):TT:=λ σ H Q=>t σ H λ c H1=>if c=true then Q true H1 else u σ H1 Q
noncomputable def tNot (t:TT):TT:=λ σ H Q=>t σ H λ c H1=>Q (!c) H1
theorem zdv (ha:PT X a tA):PW X (.BoolOp .And [a] pos) tA:=by
 intro f b s σ H Q I h;refine isTrue_and (thn (ha b s σ H Q I h) λ c d e=>?_);cases c with
 | true=>exact isTrue_and_nil e
 | false=>exact e
theorem pw_or1 (ha:PT X a tA):PW X (.BoolOp .Or [a] pos) tA:=by
 intro f b s σ H Q I h;refine isTrue_or (thn (ha b s σ H Q I h) λ c d e=>?_);cases c with
 | false=>exact isTrue_or_nil e
 | true=>exact e
theorem pw_and (ha:PT X a tA) (hb:PW X (.BoolOp .And (b :: rest) pos) tB'):PW X (.BoolOp .And (a :: b :: rest) pos) (tAnd tA tB'):=by
 intro f d s σ H Q I h;refine isTrue_and (thn (ha d s σ H _ I h) λ c e ⟨H1,I1,q1⟩=>?_);cases c with
 | true=>exact hb f d e σ H1 Q I1 q1
 | false=>exact ⟨H1,I1,q1⟩
theorem pw_or (ha:PT X a tA) (hb:PW X (.BoolOp .Or (b :: rest) pos) tB'):PW X (.BoolOp .Or (a :: b :: rest) pos) (tOr tA tB'):=by
 intro f d s σ H Q I h;refine isTrue_or (thn (ha d s σ H _ I h) λ c e ⟨H1,I1,q1⟩=>?_);cases c with
 | true=>exact ⟨H1,I1,q1⟩
 | false=>exact hb f d e σ H1 Q I1 q1
theorem pt_not (ha:PT X a tA):PT X (.UnaryOp .Not a pos) (tNot tA):=by intro d s σ H Q I h;exact isTrue_not (ha d s σ H (λ c b=>Q (!c) b) I h)
noncomputable def tAndV (ta tb:TE):TE:=λ σ H Q=>ta σ H λ x H1=>∃c,x=.bl c/\if c=true then tb σ H1 Q else Q (.bl false) H1
noncomputable def tOrV (ta tb:TE):TE:=λ σ H Q=>ta σ H λ x H1=>∃c,x=.bl c/\if c=true then Q (.bl true) H1 else tb σ H1 Q
noncomputable def tNotV (ta:TE):TE:=λ σ H Q=>ta σ H λ x H1=>∃c,x=.bl c/\Q (.bl (!c)) H1
theorem pe_one {op} {t:TE} (h:PE X a t):PE X (.BoolOp op [a] pos) t:=λ c s σ H Q I b=>BoolOp_one (h c s σ H Q I b)
theorem pe_and (ha:PE X a ta) (hb:PE X (.BoolOp .And (b :: rest) pos) tb):PE X (.BoolOp .And (a :: b :: rest) pos) (tAndV ta tb):=by
 intro e s σ H Q I h;refine BoolOp_and (thn (ha e s σ H _ I h) λ v f ⟨x,H1,I1,r1,d⟩=>?_);obtain ⟨c,rfl,d⟩:=d;cases r1;refine T3 ?_;cases c with
 | true=>exact hb e f σ H1 Q I1 d
 | false=>exact ⟨.bl false,H1,I1,rfl,d⟩
theorem pe_or (ha:PE X a ta) (hb:PE X (.BoolOp .Or (b :: rest) pos) tb):PE X (.BoolOp .Or (a :: b :: rest) pos) (tOrV ta tb):=by
 intro e s σ H Q I h;refine BoolOp_or (thn (ha e s σ H _ I h) λ v f ⟨x,H1,I1,r1,d⟩=>?_);obtain ⟨c,rfl,d⟩:=d;cases r1;refine T3 ?_;cases c with
 | false=>exact hb e f σ H1 Q I1 d
 | true=>exact ⟨.bl true,H1,I1,rfl,d⟩
theorem pe_not (ha:PE X a ta):PE X (.UnaryOp .Not a pos) (tNotV ta):=by intro d s σ H Q I h;refine UnaryOp_ (thn (ha d s σ H _ I h) λ v e ⟨x,H1,I1,r1,b⟩=>?_);obtain ⟨c,rfl,b⟩:=b;cases r1;exact not_of (T3 ⟨.bl (!c),H1,I1,rfl,b⟩)
noncomputable def tIf (t:TT) (ta tb:TE):TE:=λ σ H Q=>t σ H λ c H1=>if c=true then ta σ H1 Q else tb σ H1 Q
theorem zk4 {c:Expr} (hc:PT X c tA) (ha:PE X a ta) (hb:PE X b tb):PE X (.IfExp c a b pos) (tIf tA ta tb):=by
 intro e s σ H Q I h;refine wpAny_IfExp (thn (hc e s σ H _ I h) λ d f ⟨H1,I1,q1⟩=>?_);cases d with
 | true=>exact ha e f σ H1 Q I1 q1
 | false=>exact hb e f σ H1 Q I1 q1
end
def SqL (K:d0) (H:Hp) (a:Addr) (xs:List V):Prop:=
 Rd H a (.lst xs)\/
  ∃(o:Obj) (its:Array Value) (n:Nat),K.lookup a=some o/\o.cls=.type "list"/\o.dict=none/\o.data=.seq its n/\its.size<=sizeLine/\Vals xs its.toList
def SqT (K:d0) (H:Hp) (a:Addr) (xs:List V):Prop:=
 Rd H a (.tup xs)\/
  ∃(o:Obj) (its:Array Value) (n:Nat),K.lookup a=some o/\o.cls=.type "tuple"/\o.data=.seq its n/\its.size<=sizeLine/\Vals xs its.toList
noncomputable def absV:Value->Option V
 | .none=>some .non
 | .bool b=>some (.bl b)
 | .int i _=>some (.int i)
 | .str x _=>some (.str x)
 | .bytes b _=>some (.byt b)
 | .float b _=>some (.flt b)
 | .ref a=>some (.ref a)
 | .type n=>some (.ty n)
 | _=>none
theorem RelV.abs {x:V} {u:Value} (r:RelV x u):absV u=some x:=by
 cases x with
 | non=>cases r;rfl
 | bl _=>cases r;rfl
 | int _=>obtain ⟨t,rfl⟩:=r;rfl
 | str _=>obtain ⟨t,rfl⟩:=r;rfl
 | byt _=>obtain ⟨t,rfl⟩:=r;rfl
 | flt _=>obtain ⟨t,rfl⟩:=r;rfl
 | ref _=>cases r;rfl
 | ty _=>cases r;rfl
theorem RelV.inj {x y:V} {u:Value} (r:RelV x u) (q:RelV y u):x=y:=S1 (r.abs.symm.trans q.abs)
theorem Vals.inj :∀{xs ys:List V} {us:List Value},Vals xs us->Vals ys us->xs=ys
 | _,_,_,.nil,.nil=>rfl
 | _,_,_,.cons r t,.cons r' t'=>by rw [r.inj r',Vals.inj t t']
section
variable {X:Cx} {pins:List (Addr×Obj)} {σ:St} {H:Hp} {s:A0} {a:Addr} {xs ys:List V}
theorem SqL.of {K:d0} (h:H a=some (.lst xs)):SqL K H a xs:=.inl (.inl h)
theorem SqT.of {K:d0} (h:H a=some (.tup xs)):SqT K H a xs:=.inl (.inl h)
theorem Inv.list (I:Inv X pins σ H s) (h:SqL X.K H a xs) :∃its:List Value,Vals xs its/\PlainL s.heap a its.toArray/\xs.length<=sizeLine:=by
 rcases h with h|⟨o,its,n,hk,hc,hd,hs,hz,r⟩
 ·obtain ⟨z,its,n,r,e⟩:=h.ok I.hok;exact ⟨its,r,⟨_,n,e,rfl,rfl,rfl⟩,z⟩
 ·refine ⟨its.toList,r,⟨o,n,I.kIn a o hk,hc,hd,by simpa using hs⟩,?_⟩;have e:=r.length;simp only [T2] at e;omega
theorem Inv.tuple (I:Inv X pins σ H s) (h:SqT X.K H a xs) :∃its:List Value,Vals xs its/\IsTup s.heap a its.toArray/\xs.length<=sizeLine:=by
 rcases h with h|⟨o,its,n,hk,hc,hs,hz,r⟩
 ·obtain ⟨z,its,r,p⟩:=h.ok I.hok;exact ⟨its,r,p.1,z⟩
 ·refine ⟨its.toList,r,⟨o,I.kIn a o hk,hc,n,by simpa using hs⟩,?_⟩;have e:=r.length;simp only [T2] at e;omega
theorem Inv.list_inj (I:Inv X pins σ H s) (h:SqL X.K H a xs) (h':SqL X.K H a ys):xs=ys:=by
 obtain ⟨i,r,⟨o,n,e,_,_,d⟩,_⟩:=I.list h;obtain ⟨g,f,⟨k,j,c,_,_,b⟩,_⟩:=I.list h';rw [e] at c;cases c;rw [d] at b;injection b with d1 _;have:i=g:=by simpa using congrArg Array.toList d1
 subst this;exact r.inj f
theorem Inv.tuple_inj (I:Inv X pins σ H s) (h:SqT X.K H a xs) (h':SqT X.K H a ys):xs=ys:=by
 obtain ⟨i,r,⟨o,e,_,n,d⟩,_⟩:=I.tuple h;obtain ⟨g,f,⟨k,c,_,j,b⟩,_⟩:=I.tuple h';rw [e] at c;cases c;rw [d] at b;injection b with d1 _;have:i=g:=by simpa using congrArg Array.toList d1
 subst this;exact r.inj f
end
noncomputable abbrev Cx.wish (X:Cx) (E:Value->A0->Prop):Cx:={ X with xe:=E }
noncomputable abbrev Cx.nox (X:Cx):Cx:=X.wish λ _ _=>False
theorem Cx.Ok.wish {X:Cx} (ok:X.Ok) (E:Value->A0->Prop):(X.wish E).Ok:=
 ⟨ok.mod,ok.kind,ok.glob,ok.blt,ok.above,ok.inj,ok.has,ok.cab,ok.hd,ok.frames,ok.stk,ok.exf,ok.bs,ok.bsz,ok.noex,ok.exfs,ok.funs,ok.frf⟩
theorem Cx.Ok.unwish {X:Cx} {E:Value->A0->Prop} (ok:(X.wish E).Ok):X.Ok:=
 ⟨ok.mod,ok.kind,ok.glob,ok.blt,ok.above,ok.inj,ok.has,ok.cab,ok.hd,ok.frames,ok.stk,ok.exf,ok.bs,ok.bsz,ok.noex,ok.exfs,ok.funs,ok.frf⟩
section
variable {X:Cx} {pins:List (Addr×Obj)} {σ:St} {H:Hp} {s:A0} {E:Value->A0->Prop}
theorem Inv.wish (I:Inv X pins σ H s) (E:Value->A0->Prop):Inv (X.wish E) pins σ H s:=⟨I.ok.wish E,I.os,I.bare,I.base,I.loc,I.cell,I.free,I.freeC,I.pin,I.hok,I.len⟩
theorem Inv.unwish (I:Inv (X.wish E) pins σ H s):Inv X pins σ H s:=⟨I.ok.unwish,I.os,I.bare,I.base,I.loc,I.cell,I.free,I.freeC,I.pin,I.hok,I.len⟩
theorem SP.unwish {D:Ends} {f:Flow} {s':A0} (h:SP (X.wish E) pins D f s'):SP X pins D f s':=by
 cases f with
 | next=>obtain ⟨b,a,I,q⟩:=h;exact ⟨b,a,I.unwish,q⟩
 | brk=>obtain ⟨b,a,I,q⟩:=h;exact ⟨b,a,I.unwish,q⟩
 | cont=>obtain ⟨b,a,I,q⟩:=h;exact ⟨b,a,I.unwish,q⟩
 | ret u=>obtain ⟨v,b,a,I,r,q⟩:=h;exact ⟨v,b,a,I.unwish,r,q⟩
theorem PSs.nox {st:List Stmt} {t:TS} (h:PSs X.nox st t):PSs X st t:=λ b s σ H D I a=>V2 (h b s σ H D (I.wish _) a) (λ _ _ q=>q.unwish) λ _ _ z=>i3 z
end
section
variable {X:Cx} {st:Stmt} {rest:List Stmt} {t u:TS} {e:Expr} {te:TE} {pos:Pos}
noncomputable def tNext:TS:=λ D σ H=>D.nx σ H
noncomputable def tSeq (t u:TS):TS:=λ D σ H=>t { D with nx:=u D } σ H
theorem z0d:PSs X [] tNext:=λ _ _ σ H _ I h=>W6 ⟨σ,H,I,h⟩
theorem z03 (h1:PS X st t) (h2:PSs X rest u):PSs X (st :: rest) (tSeq t u):=by
 intro a s σ H D I h;refine wpAny_execs_cons (thn (h1 a s σ H { D with nx:=u D } I h) λ f b q=>?_);cases f with
 | next=>obtain ⟨d,c,e,q⟩:=q;exact h2 a b d c D e q
 | ret v=>exact q
 | brk=>exact q
 | cont=>exact q
theorem z04 (h1:PS X st t):PSs X [st] t:=by
 intro a s σ H D I h;refine wpAny_execs_cons (thn (h1 a s σ H D I h) λ f b q=>?_);cases f with
 | next=>exact W6 q
 | ret v=>exact q
 | brk=>exact q
 | cont=>exact q
theorem Inv.quiet {pins:List (Addr×Obj)} {σ:St} {H:Hp} {s:A0} (I:Inv X pins σ H s):interactive X.env=false:=by simp [interactive,I.ok.kind]
noncomputable def tDrop (te:TE):TS:=λ D σ H=>te σ H λ _ H1=>D.nx σ H1
theorem z31 (he:PE X e te) (hs:F6 e none pos.line X.env=E3 false:=by rfl):PS X (.Expr e pos) (tDrop te):=by intro a s σ H D I h;exact wpAny_Expr_any (thn (he a s σ H _ I h) λ v b ⟨x,H1,I1,r1,q1⟩=>⟨σ,H1,I1,q1⟩) I.quiet hs
noncomputable def tRet (te:TE):TS:=λ D σ H=>te σ H D.rt
theorem ps_ret (he:PE X e te):PS X (.Return (some e) pos) (tRet te):=by intro a s σ H D I h;exact wpAny_Return_some (thn (he a s σ H _ I h) λ v b ⟨x,H1,I1,r1,q1⟩=>⟨x,σ,H1,I1,r1,q1⟩)
noncomputable def tIfS (c:TT) (t u:TS):TS:=λ D σ H=>c σ H λ b H1=>if b=true then t D σ H1 else u D σ H1
theorem ps_if {c:Expr} {a b:List Stmt} {tc:TT} (hc:PT X c tc) (ha:PSs X a t) (hb:PSs X b u):PS X (.If c a b pos) (tIfS tc t u):=by
 intro e s σ H D I h;refine wpAny_If (thn (hc e s σ H _ I h) λ d f ⟨H1,I1,q1⟩=>?_);cases d with
 | true=>exact ha e f σ H1 D I1 q1
 | false=>exact hb e f σ H1 D I1 q1
noncomputable def tNever:TS:=λ _ _ _=>False
theorem z46:PS X st tNever:=λ _ _ _ _ _ _ h=>h.elim
end
noncomputable abbrev TG:=V->St->Hp->(St->Hp->Prop)->Prop
noncomputable abbrev TGs:=List V->St->Hp->(St->Hp->Prop)->Prop
def PG (X:Cx) (target:Expr) (t:TG):Prop:=
 ∀(pins:List (Addr×Obj)) (s:A0) (σ:St) (H:Hp) (v:V) (u:Value) (Q:St->Hp->Prop),Inv X pins σ H s->RelV v u->t v σ H Q->
  V0 (E1 X.prog X.w) X.A (assign target X.env u) (λ _ s'=>∃σ' H',Inv X pins σ' H' s'/\Q σ' H') X.xe s
def PGs (X:Cx) (ts:List Expr) (t:TGs):Prop:=
 ∀(pins:List (Addr×Obj)) (s:A0) (σ:St) (H:Hp) (vs:List V) (us:List Value) (Q:St->Hp->Prop),Inv X pins σ H s->Vals vs us->t vs σ H Q->
  V0 (E1 X.prog X.w) X.A (assignInOrder ((V8 ts X.env).map (·.2)) us) (λ _ s'=>∃σ' H',Inv X pins σ' H' s'/\Q σ' H') X.xe s
noncomputable abbrev TSet:=V->V->V->Hp->(Hp->Prop)->Prop
def PSet (X:Cx) (t:TSet):Prop:=
 ∀(pins:List (Addr×Obj)) (s:A0) (σ:St) (H:Hp) (o i v:V) (ov iv u:Value) (Q:Hp->Prop),Inv X pins σ H s->RelV o ov->RelV i iv->RelV v u->t o i v H Q->
  V0 (E1 X.prog X.w) X.A (setItem ov iv u) (λ _ s'=>∃H',Inv X pins σ H' s'/\Q H') X.xe s
section
variable {X:Cx} {pos:Pos}
noncomputable def gName (i:Nat):TG:=λ v σ H Q=>Q (σ.set i (some v)) H
theorem z0j {i:Nat} {x:Str} (hN:X.N.Nodup) (hi:X.N[i]? = some x) (hx:Loc X.env.scope x) (hf:X.fn x=true\/X.env.scope.names.lookup x=some .local:=by first|exact .inl rfl|exact .inr rfl|assumption):PG X (.Name x pos) (gName i):=by intro c s σ H v u Q I r h;exact wpAny_assign_Name (zb6 I hN hi hx r (λ b a=>⟨_,H,a,h⟩) hf)
noncomputable def gNil:TGs:=λ vs σ H Q=>vs=[]/\Q σ H
noncomputable def gCons (t:TG) (u:TGs):TGs:=λ vs σ H Q=>∃v r,vs=v :: r/\t v σ H λ σ' H'=>u r σ' H' Q
theorem z17:PGs X [] gNil:=by intro c s σ H a b Q I r h;obtain ⟨e,h⟩:=h;subst e;cases r;exact assignInOrder_nil ⟨σ,H,I,h⟩
theorem z0h {e:Expr} {es:List Expr} {t:TG} {u:TGs} (h1:PG X e t) (h2:PGs X es u)
  (hs:(V8 (e :: es) X.env).map (·.2)=assign e X.env :: (V8 es X.env).map (·.2):=by rfl):PGs X (e :: es) (gCons t u):=by
 intro a s σ H d g Q I r h;obtain ⟨v,f,c,h⟩:=h;subst c;cases r with
 | cons r rr=>rw [hs];refine assignInOrder_cons (thn (h1 a s σ H _ _ _ I r h) λ _ b ⟨σ1,H1,I1,q1⟩=>?_);exact h2 a b σ1 H1 _ _ Q I1 rr q1
noncomputable def gTup (K:d0) (n:Nat) (t:TGs):TG:=λ v σ H Q=>∃a xs,v=.ref a/\SqT K H a xs/\xs.length=n/\t xs σ H Q
theorem pg_tup {es:List Expr} {k:Nat} {t:TGs} {n:Nat} (hc:X.calm=true) (h:PGs X es t)
  (hn:(V8 es X.env).length=n:=by rfl) (hst:(V8 es X.env).findIdx? (·.1)=none:=by rfl):PG X (.Tuple es k pos) (gTup X.K n t):=by
 intro f s σ H v u Q I r c;obtain ⟨a,l,i,m,q,c⟩:=c;subst i;cases r;obtain ⟨x,d,w,y⟩:=I.tuple m;refine assign_Tuple_tuple (I.ok.hd hc) w (by simp [hn,<-q,d.length]) hst λ g p=>?_;have j:Inv X f σ H { s with heap:=g }:=I.kept (t':=s.toks) λ b o e=>p b o (F1 (Q0 e)) e;exact h f _ σ H l _ Q j (by simpa using d) c
noncomputable def gSub (to ti:TE) (t:TSet):TG:=λ v σ H Q=>to σ H λ o H1=>ti σ H1 λ i H2=>t o i v H2 λ H3=>Q σ H3
theorem pg_sub {o i:Expr} {to ti:TE} {t:TSet} (ho:PE X o to) (hi:PE X i ti) (hs:PSet X t)
  (ha :∀v,assign (.Subscript o i pos) X.env v=(do
   let ov <-j0j [v] (m3 o X.env)
   let iv <-j0j [v,ov] (m3 i X.env)
   j2h pos
   j0j [v,ov,iv] (setItem ov iv v)
   release [v,ov,iv] []):=by intro _;rfl):PG X (.Subscript o i pos) (gSub to ti t):=by
 intro a s σ H v u Q I r h;rw [ha];refine o0 (i4 (thn (ho a s σ H _ I h) λ ov b ⟨x,H1,I1,r1,q1⟩=>?_));refine o0 (i4 (thn (hi a b σ H1 _ I1 q1) λ iv c ⟨y,H2,I2,r2,q2⟩=>?_));refine o0 (wpAny_standAt (o0 (i4 (thn (hs a c σ H2 x y v ov iv u _ I2 r1 r2 r q2) λ _ d ⟨H3,I3,q3⟩=>?_))));exact wpAny_release ⟨σ,H3,I3,q3⟩
noncomputable def tAsg (te:TE) (g:TG):TS:=λ D σ H=>te σ H λ x H1=>g x σ H1 D.nx
theorem ps_asg {tg e:Expr} {te:TE} {g:TG} (he:PE X e te) (hg:PG X tg g) (hs:swapsWithSole [tg] e pos.line X.env=E3 false:=by rfl) (hw:swappedStores [tg] e X.env=E3 none:=by rfl)
  (h1:(V8 [tg] X.env).map (·.2)=[assign tg X.env]:=by rfl):PS X (.Assign [tg] e pos) (tAsg te g):=by
 intro a s σ H D I h;refine wpAny_Assign_stores (thn (he a s σ H _ I h) λ v b ⟨x,H1,I1,r1,q1⟩=>?_) hs hw;rw [h1];exact thn (hg a b σ H1 x v _ I1 r1 q1) λ _ c q=>q
theorem ps_set {i:Nat} {x:Str} {e:Expr} {te:TE} {pos':Pos} (hN:X.N.Nodup) (hi:X.N[i]? = some x) (hx:Loc X.env.scope x) (he:PE X e te) (hs:F6 e (some (.Name x pos')) pos.line X.env=E3 false:=by rfl) (hf:X.fn x=true\/X.env.scope.names.lookup x=some .local:=by first|exact .inl rfl|exact .inr rfl|assumption) :
  PS X (.Assign [.Name x pos'] e pos) (tAsg te (gName i)):=by
 intro b s σ H D I h;refine wpAny_Assign_Name (thn (he b s σ H _ I h) λ v c ⟨y,H1,I1,r1,q1⟩=>?_) hs;exact zb6 I1 hN hi hx r1 (λ d a=>⟨_,H1,a,q1⟩) hf
noncomputable def tWhile (c:TT) (tb:TS):TS:=λ D σ H=>∃W:Nat->St->Hp->Prop,(∃m,W m σ H)/\∀m σ H,W m σ H->
 c σ H λ b H1=>if b=true then∃N:St->Hp->Prop,(∀σ' H',N σ' H'->∃m',m' < m/\W m' σ' H')/\tb { D with nx:=N,ct:=N,bk:=D.nx } σ H1 else D.nx σ H1
theorem zkd {c:Expr} {body:List Stmt} {tc:TT} {tb:TS} (hp:PassesOwn (E1 X.prog X.w) X.A X.env X.xe) (hc:PT X c tc) (hb:PSs X body tb):PS X (.While c body [] pos) (tWhile tc tb):=by
 intro o s σ H D I h;obtain ⟨W,⟨x,y⟩,r⟩:=h;refine wpAny_While (codeAny_whileLoop (λ n t=>∃σ' H',Inv X o σ' H' t/\W n σ' H') ?_ x ⟨σ,H,I,y⟩);rintro n q ⟨σ1,H1,I1,w1⟩;refine n5 hp (thn (hc o q σ1 H1 _ I1 (r n σ1 H1 w1)) λ b u ⟨H2,I2,g⟩=>?_);cases b with
 | true=>
  obtain ⟨N,p,g⟩:=g;rw [if_pos rfl];refine n5 hp (thn (hb o u σ1 H2 _ I2 g) λ f z e=>?_);cases f with
  | next=>obtain ⟨d,a,k,i⟩:=e;obtain ⟨m,j,l⟩:=p d a i;exact ⟨m,j,d,a,k,l⟩
  | cont=>obtain ⟨d,a,k,i⟩:=e;obtain ⟨m,j,l⟩:=p d a i;exact ⟨m,j,d,a,k,l⟩
  | brk=>exact e
  | ret v=>exact e
 | false=>rw [if_neg O0];exact W6 ⟨σ1,H2,I2,g⟩
end
structure It where
 go:Nat->Hp->Prop
 yld:Nat->Hp->V->Hp->Prop
 stop:Nat->Hp->Prop
def FpOk (X:Cx) (pins:List (Addr×Obj)) (H:Hp) (b:Addr):Prop:=
 H b=none/\b≠X.env.locals/\b∉X.fs/\(b∈X.ex\/X.s₀.heap.objs.size<=b)/\(∀x c,X.env.cells.lookup x=some c->c≠b)/\∀p∈X.pn++pins,p.1≠b
theorem Inv.fpOk {X:Cx} {pins:List (Addr×Obj)} {σ:St} {H H':Hp} {s:A0} {b:Addr} (I:Inv X pins σ H s) (hb:s.heap.objs.size<=b) (hn:H' b=none):FpOk X pins H' b:=by
 refine ⟨hn,A4 (G1 I.lt hb),I.nofs hb,.inr (D0 I.sz hb),λ x c e z=>?_,λ p a z=>?_⟩
 ·obtain ⟨v,q⟩:=I.cell x c e;exact absurd (G1 q.lt (by rw [z];exact hb)) (W3 _)
 ·exact absurd (G1 (Q0 (I.pin p a).1) (by rw [z];exact hb)) (W3 _)
structure Turn (P:Program) (w:W0) (K:d0) (tg:Expr) (J:It) (fp:List Addr) (it:Addr) (tn:Nat->Heap->Prop):Prop where
 mem:it∈fp
 obj :∀i h,tn i h->∀b∈fp,∃o,h.get? b=some o/\∀v,o.data≠.cell v
 keep :∀i h h',tn i h->(∀b∈fp,∀o,h.get? b=some o->h'.get? b=some o)->tn i h'
 item :∀(X:Cx),X.prog=P->X.w=w->X.K=K->X.calm=true->∀(i:Nat) (pins:List (Addr×Obj)) (s:A0) (σ:St) (H:Hp) (E:Value->A0->Prop),Inv X pins σ H s->(∀b∈fp,FpOk X pins H b)->tn i s.heap->J.go i H->
  V0 (E1 P w) X.A (j38 (.ref it)) (λ r s1=>∃u,r=some u/\
   V0 (E1 P w) X.A (c9 tg (.ref it) u) (λ _ s2=>∃x H',Inv X pins σ H' s2/\RelV x u/\J.yld i H x H'/\tn (i + 1) s2.heap/\∀b∈fp,H' b=none) E s1) E s
 done :∀(X:Cx),X.prog=P->X.w=w->X.K=K->X.calm=true->∀(i:Nat) (pins:List (Addr×Obj)) (s:A0) (σ:St) (H:Hp) (E:Value->A0->Prop),Inv X pins σ H s->(∀b∈fp,FpOk X pins H b)->tn i s.heap->J.stop i H->
  V0 (E1 P w) X.A (j38 (.ref it)) (λ r s1=>r=none/\Inv X pins σ H s1) E s
 self :∀(A:Y1) (i:Nat) (s:A0) (Q:Value->A0->Prop) (E:Value->A0->Prop),tn i s.heap->Q (.ref it) s->V0 (E1 P w) A (pyIter (.ref it)) Q E s
noncomputable abbrev TI:=St->Hp->(It->Hp->Prop)->Prop
def PIE (X:Cx) (pins:List (Addr×Obj)) (σ:St) (tg:Expr) (R:It->Hp->Prop) (itv:Value) (s2:A0):Prop:=
 ∃(it:Addr) (fp:List Addr) (tn:Nat->Heap->Prop) (J:It) (H':Hp),itv=.ref it/\Inv X pins σ H' s2/\Turn X.prog X.w X.K tg J fp it tn/\tn 0 s2.heap/\(∀b∈fp,FpOk X pins H' b)/\R J H'
def PI (X:Cx) (tg iter:Expr) (wi:TI):Prop:=
 ∀(pins:List (Addr×Obj)) (s:A0) (σ:St) (H:Hp) (R:It->Hp->Prop),Inv X pins σ H s->wi σ H R->
  V0 (E1 X.prog X.w) X.A (m3 iter X.env) (λ v s1=>V0 (E1 X.prog X.w) X.A (pyIter v) (PIE X pins σ tg R) X.xe s1) X.xe s
theorem go_of {M:Model} {A:Y1} {E:Value->A0->Prop} {s:A0} {tg:Expr} {it:Addr} {u:Value} {o:Obj} {n:String} {vs:Array Value} {Q:Unit->A0->Prop} (ho:s.heap.get? it=some o) (hc:o.cls=.type n) (hd:o.data=.fields vs)
    (hn:["enumerate","zip","dict_itemiterator","dict_reverseitemiterator","odict_iterator","itertools.zip_longest","itertools.pairwise"].contains n=false) (hQ:Q () s):V0 M A (c9 tg (.ref it) u) Q E s:=by
  unfold c9;cases tg<;>first
    | exact G0 hQ
    | (cases u<;>first
        | exact G0 hQ
        | (refine o0 (wpAny_load ho ?_)
           rw [hc,hd];show V0 M A (if (["enumerate","zip","dict_itemiterator","dict_reverseitemiterator","odict_iterator","itertools.zip_longest","itertools.pairwise"].contains n && vs[0]? == some (j19 _))=true then _ else _) Q E s;rw [if_neg (by intro h;rw [hn,V6] at h;cases h)];exact G0 hQ))
noncomputable def Itl (K:d0) (a:Addr):It:=
 ⟨λ i H=>∃xs x,SqL K H a xs/\xs[i]? = some x,λ i H x H'=>H'=H/\∀xs,SqL K H a xs->xs[i]? = some x,λ i H=>∃xs,SqL K H a xs/\xs.length<=i⟩
noncomputable def Itt (K:d0) (a:Addr):It:=
 ⟨λ i H=>∃xs x,SqT K H a xs/\xs[i]? = some x,λ i H x H'=>H'=H/\∀xs,SqT K H a xs->xs[i]? = some x,λ i H=>∃xs,SqT K H a xs/\xs.length<=i⟩
noncomputable def Itr (lo:Int) (n:Nat):It:=⟨λ i _=>i < n,λ i H x H'=>H'=H/\x=.int (lo + i),λ i _=>n<=i⟩
theorem zhp {P:Program} {w:W0} {K:d0} {tg:Expr} (a it:Addr):Turn P w K tg (Itl K a) [it] it (λ i h=>h.IsListIter it a i) where
 mem:=by simp
 obj:=λ i h f b g=>by
  have e:b=it:=by simpa using g
  subst e;obtain ⟨o,e,c,d⟩:=f;exact ⟨o,e,λ v z=>by rw [d] at z;cases z⟩
 keep:=λ i h j f k=>f.at λ o e=>k it (by simp) o e
 item:=by intro X n G t J i M s σ H E I l f r;subst n G t;obtain ⟨U,x,m,F⟩:=r;obtain ⟨S,D,p,V⟩:=I.list m;obtain ⟨u,Y,O⟩:=D.get F;obtain ⟨C,B,N,y,A,q⟩:=l it (by simp);refine wpAny_pyNext_list_item f p.isList (x:=u) (by simpa using Y) λ j L R=>?_;have T:Inv X M σ H { s with heap:=j }:=I.turned (t':=s.toks) (λ b o g e=>(R.2 b g).trans e) C B y A q;obtain ⟨o,e,c,d⟩:=id L;exact ⟨u,rfl,go_of (s:={ s with heap:=j }) e c d (by decide) ⟨x,H,T,O,⟨rfl,λ Z W=>by rw [I.list_inj W m];exact F⟩,L,λ b g=>(l b g).1⟩⟩
 done:=by intro X n G t J i M s σ H E I l f r;subst n G t;obtain ⟨U,m,F⟩:=r;obtain ⟨S,D,p,V⟩:=I.list m;obtain ⟨C,B,N,y,A,q⟩:=l it (by simp);have hl:=D.length;exact wpAny_pyNext_list_end (I.ok.hd J) f p.isList (by simp;omega) λ j Q=>⟨rfl,I.turned (t':=s.toks) (λ b o g e=>Q b o g e) C B y A q⟩
 self:=λ _ _ _ _ _ f h=>wpAny_pyIter_listiter f h
theorem zeo {P:Program} {w:W0} {K:d0} {tg:Expr} (a it:Addr):Turn P w K tg (Itt K a) [it] it (λ i h=>h.IsTupleIter it a i) where
 mem:=by simp
 obj:=λ i h f b g=>by
  have e:b=it:=by simpa using g
  subst e;obtain ⟨o,e,c,d⟩:=f;exact ⟨o,e,λ v z=>by rw [d] at z;cases z⟩
 keep:=λ i h j f k=>f.at λ o e=>k it (by simp) o e
 item:=by intro X n J y L i N s σ H E I l f r;subst n J y;obtain ⟨U,x,m,G⟩:=r;obtain ⟨t,F,p,V⟩:=I.tuple m;obtain ⟨u,Y,Q⟩:=F.get G;obtain ⟨D,C,O,A,B,q⟩:=l it (by simp);refine wpAny_pyNext_tuple_item f (show s.heap.IsTuple a t.toArray from p) (x:=u) (by simpa using Y) λ j M S=>?_;have T:Inv X N σ H { s with heap:=j }:=I.turned (t':=s.toks) (λ b o g e=>(S.2 b g).trans e) D C A B q;obtain ⟨o,e,c,d⟩:=id M;exact ⟨u,rfl,go_of (s:={ s with heap:=j }) e c d (by decide) ⟨x,H,T,Q,⟨rfl,λ Z W=>by rw [I.tuple_inj W m];exact G⟩,M,λ b g=>(l b g).1⟩⟩
 done:=by intro X n J y L i N s σ H E I l f r;subst n J y;obtain ⟨U,m,G⟩:=r;obtain ⟨t,F,p,V⟩:=I.tuple m;obtain ⟨D,C,O,A,B,q⟩:=l it (by simp);have hl:=F.length;exact wpAny_pyNext_tuple_end (I.ok.hd L) f (show s.heap.IsTuple a t.toArray from p) (by simp;omega) λ j R=>⟨rfl,I.turned (t':=s.toks) (λ b o g e=>R b o g e) D C A B q⟩
 self:=λ _ _ _ _ _ f h=>wpAny_pyIter_tupleiter f h
theorem zfo {P:Program} {w:W0} {K:d0} {tg:Expr} (it:Addr) (lo:Int) (n:Nat):Turn P w K tg (Itr lo n) [it] it (λ i h=>IsRangeIter h it (lo + (i:Nat) * 1) ((n:Int) - (i:Nat)) 1) where
 mem:=by simp
 obj:=λ i h a b c=>by
  have e:b=it:=by simpa using c
  subst e;exact ⟨_,a,λ v z=>by have J:j42 _=Data.cell v:=z;cases J⟩
 keep:=λ i h d a k=>k it (by simp) _ a
 item:=by intro X g y r m i C s σ H E I f a l;subst g y r;obtain ⟨x,u,D,p,q,j⟩:=f it (by simp);have W:=Walks.range (prog:=X.prog) (w:=X.w) (I.ok.hd m) it lo 1 n;refine W.item i s _ _ l a λ v d B G A L=>?_;obtain ⟨t,rfl⟩:=G;have M:Inv X C σ H { s with heap:=d,toks:=B }:=I.turned (λ b o c e=>L b o (by simpa using c) e) x u p q j;refine ⟨_,rfl,go_of (s:={ s with heap:=d,toks:=B }) (n:="range_iterator") A rfl rfl (by decide) ⟨.int (lo + i),H,M,⟨t,?_⟩,⟨rfl,rfl⟩,A,λ b c=>(f b c).1⟩⟩;rw [Int.mul_one]
 done:=by intro X g y r m i C s σ H E I f a l;subst g y r;obtain ⟨x,u,D,p,q,j⟩:=f it (by simp);exact wpAny_pyNext_range_end (I.ok.hd m) a (by have:n<=i:=l;omega) λ d F=>⟨rfl,I.turned (t':=s.toks) (λ b o c e=>F b o c e) x u p q j⟩
 self:=λ _ _ _ _ _ a h=>wpAny_pyIter_rangeiter a h
section
variable {X:Cx} {tg:Expr}
noncomputable def iList (K:d0) (tl:TE):TI:=λ σ H R=>tl σ H λ x H1=>∃a,x=.ref a/\(∃xs,SqL K H1 a xs)/\R (Itl K a) H1
noncomputable def iTup (K:d0) (tl:TE):TI:=λ σ H R=>tl σ H λ x H1=>∃a,x=.ref a/\(∃xs,SqT K H1 a xs)/\R (Itt K a) H1
theorem z1m {l:Expr} {tl:TE} (hl:PE X l tl):PI X tg l (iList X.K tl):=by
 intro g s σ H R I h;refine thn (hl g s σ H _ I h) λ v c ⟨x,H1,I1,r1,q1⟩=>?_;obtain ⟨a,e,⟨j,f⟩,q⟩:=q1;subst e;cases r1;obtain ⟨i,k,p,m⟩:=I1.list f;refine j0f p.isList ?_;refine ⟨c.heap.objs.size,[c.heap.objs.size],_,_,H1,rfl,I1.kept (t':=c.toks) λ b o e=>F0 _ e,zhp a _,⟨_,A1 _ rfl,rfl,rfl⟩,λ b d=>?_,q⟩;have e:b=c.heap.objs.size:=by simpa using d
 subst e;exact I1.fpOk (B0 _) (I1.hok.fresh (B0 _))
theorem pi_tup {l:Expr} {tl:TE} (hl:PE X l tl):PI X tg l (iTup X.K tl):=by
 intro i s σ H R I h;refine thn (hl i s σ H _ I h) λ v c ⟨x,H1,I1,r1,q1⟩=>?_;obtain ⟨a,e,⟨j,g⟩,q⟩:=q1;subst e;cases r1;obtain ⟨f,k,p,m⟩:=I1.tuple g;refine V5 (show c.heap.IsTuple a f.toArray from p) ?_;refine ⟨c.heap.objs.size,[c.heap.objs.size],_,_,H1,rfl,I1.kept (t':=c.toks) λ b o e=>F0 _ e,zeo a _,⟨_,A1 _ rfl,rfl,rfl⟩,λ b d=>?_,q⟩;have e:b=c.heap.objs.size:=by simpa using d
 subst e;exact I1.fpOk (B0 _) (I1.hok.fresh (B0 _))
theorem zfy {pins:List (Addr×Obj)} {σ:St} {H:Hp} {s:A0} {R:It->Hp->Prop} {E:Value->A0->Prop} {lo hi:Int} {t u v:Tok} {tk:Nat} (I:Inv X pins σ H s) (h1:-(2 ^ 62)<=lo) (h2:lo < 2 ^ 62) (h3:-(2 ^ 62)<=hi) (h4:hi < 2 ^ 62)
  (q:R (Itr lo (hi - lo).toNat) H):V0 (E1 X.prog X.w) X.A (pyIter (.ref s.heap.objs.size)) (PIE X pins σ tg R) E { s with heap:=s.heap.push { cls:=.type "range",data:=.fields #[.int lo t,.int hi u,.int 1 v] },toks:=tk }:=by
 refine wpAny_pyIter_range (IsRange.new ..) (small_one h1 h2 h3 h4) ?_;have a:Inv X pins σ H { s with heap:=s.heap.push { cls:=.type "range",data:=.fields #[.int lo t,.int hi u,.int 1 v] },toks:=tk }:=I.kept λ b o e=>F0 _ e;refine ⟨(s.heap.push { cls:=.type "range",data:=.fields #[.int lo t,.int hi u,.int 1 v] }).objs.size,[(s.heap.push { cls:=.type "range",data:=.fields #[.int lo t,.int hi u,.int 1 v] }).objs.size],_,_,H,rfl,
  a.kept (t':=tk) λ b o e=>F0 _ e,zfo _ lo (hi - lo).toNat,?_,λ b c=>?_,q⟩
 ·have f:lo + ((0:Nat):Int) * 1=lo:=by simp
  have d:(((hi - lo).toNat:Nat):Int) - ((0:Nat):Int)=Builtin.Range.rangeSize lo hi 1:=by rw [rangeSize_one];split<;>omega
  show IsRangeIter _ _ (lo + ((0:Nat):Int) * 1) ((((hi - lo).toNat:Nat):Int) - ((0:Nat):Int)) 1;rw [f,d];exact A1 _ rfl
 ·have e:b=(s.heap.push { cls:=.type "range",data:=.fields #[.int lo t,.int hi u,.int 1 v] }).objs.size:=by simpa using c
  subst e;exact a.fpOk (B0 _) (a.hok.fresh (B0 _))
noncomputable def iRng1 (ta:TA):TI:=λ σ H R=>ta σ H λ vs H1=>∃j:Int,vs=[.int j]/\-(2 ^ 62)<=j/\j < 2 ^ 62/\R (Itr 0 j.toNat) H1
noncomputable def iRng2 (ta:TA):TI:=λ σ H R=>ta σ H λ vs H1=>∃i j:Int,vs=[.int i,.int j]/\(-(2 ^ 62)<=i/\i < 2 ^ 62/\-(2 ^ 62)<=j/\j < 2 ^ 62)/\R (Itr i (j - i).toNat) H1
theorem z86 {a:Expr} {ta:TA} {p pos:Pos} (hg:Gl X "range") (hm:X.mg "range" = none) (ha:PA X [a] ta) (hs:B1 [a] X.env=[(false,m3 a X.env)]:=by rfl):PI X tg (.Call (.Name "range" p) [a] [] pos) (iRng1 ta):=by
 intro d s σ H R I h;refine Call_ (ld_blt I hg hm boot_range (A3 (thn (ha pos d s σ H _ I h) λ g f ⟨vs,H1,I1,r1,b⟩=>?_) hs rfl));obtain ⟨j,e,b,c,q⟩:=b;subst e;cases r1 with
 | cons r rr=>cases rr;obtain ⟨t,rfl⟩:=r;exact call_range_1 (zfy I1 (by omega) (by omega) b c (by simpa using q))
theorem zho {a b:Expr} {ta:TA} {p pos:Pos} (hg:Gl X "range") (hm:X.mg "range" = none) (ha:PA X [a,b] ta) (hs:B1 [a,b] X.env=[(false,m3 a X.env),(false,m3 b X.env)]:=by rfl) (hs2:B1 [b] X.env=[(false,m3 b X.env)]:=by rfl) :
  PI X tg (.Call (.Name "range" p) [a,b] [] pos) (iRng2 ta):=by
 intro k s σ H R I h;refine Call_ (ld_blt I hg hm boot_range (A3 (thn (ha pos k s σ H _ I h) λ n m ⟨vs,H1,I1,r1,c⟩=>?_) (by rw [hs,hs2]) (by rw [hs2];rfl)));obtain ⟨i,j,e,⟨c,f,d,g⟩,q⟩:=c;subst e;cases r1 with
 | cons r rr=>
  cases rr with
  | cons r' rr=>cases rr;obtain ⟨t,rfl⟩:=r;obtain ⟨l,rfl⟩:=r';exact call_range_2 (zfy I1 c f d g q)
noncomputable def tFor (wi:TI) (g:TG) (tb:TS):TS:=λ D σ H=>wi σ H λ J H1=>∃W:Nat->Nat->St->Hp->Prop,(∃m,W 0 m σ H1)/\∀i m σ H,W i m σ H->
 (J.stop i H/\D.nx σ H)\/(J.go i H/\∃N:St->Hp->Prop,(∀σ' H',N σ' H'->∃m',m' < m/\W (i + 1) m' σ' H')/\∀x H',J.yld i H x H'->g x σ H' λ σ2 H2=>tb { D with nx:=N,ct:=N,bk:=D.nx } σ2 H2)
noncomputable def pinsAt (fp:List Addr) (h:Heap):List (Addr×Obj):=fp.filterMap λ b=>(h.get? b).map λ o=>(b,o)
theorem z4n {fp:List Addr} {h:Heap} {b:Addr} {o:Obj} (hb:b∈fp) (e:h.get? b=some o):(b,o)∈pinsAt fp h:=List.mem_filterMap.mpr ⟨b,hb,by rw [e];rfl⟩
theorem zca {fp:List Addr} {h:Heap} {p:Addr×Obj} (hp:p∈pinsAt fp h):p.1∈fp/\h.get? p.1=some p.2:=by
 obtain ⟨b,c,e⟩:=List.mem_filterMap.mp hp;cases q:h.get? b with
 | none=>rw [q] at e;cases e
 | some o=>rw [q] at e;have a:(b,o)=p:=S1 e;subst a;exact ⟨c,q⟩
theorem Inv.pinned {pins:List (Addr×Obj)} {σ:St} {H:Hp} {s:A0} {fp:List Addr} (I:Inv X pins σ H s) (hf :∀b∈fp,FpOk X pins H b) (ho :∀b∈fp,∃o,s.heap.get? b=some o/\∀v,o.data≠.cell v):Inv X (pins++pinsAt fp s.heap) σ H s:=
 I.pins_of λ p i=>(List.mem_append.mp i).elim (λ z=>I.pin p (O1 _ z)) λ z=>by obtain ⟨a,e⟩:=zca z;obtain ⟨h,g,f,_⟩:=hf p.1 a;obtain ⟨o,c,d⟩:=ho p.1 a;rw [e] at c;cases c;exact ⟨e,h,g,f,d⟩
theorem Inv.unpinned {pins pl:List (Addr×Obj)} {σ:St} {H:Hp} {s:A0} (I:Inv X (pins++pl) σ H s):Inv X pins σ H s:=I.pins_of λ p a=>I.pin p (O1 _ (u5 _ a))
theorem ps_for {iter:Expr} {body:List Stmt} {wi:TI} {g:TG} {tb:TS} {pos:Pos} (hp:PassesOwn (E1 X.prog X.w) X.A X.env X.xe) (hc:X.calm=true) (hi:PI X tg iter wi) (hg:PG X tg g) (hb:PSs X body tb)
  (hs :∀x,C4 iter X.env x=E3 x:=by intro _;rfl):PS X (.For tg iter body [] pos) (tFor wi g tb):=by
 intro l s σ H D I h;refine wpAny_For (thn (hi l s σ H _ I h) λ v s1 Y=>thn Y λ a0 s2 R=>?_) hs;obtain ⟨it,q,G,J,H2,e,V,T,L,z,W,⟨m0,w0⟩,O⟩:=R;subst e
 -- what stays true of the iterator's objects through the loop
 have t :∀{H':Hp},(∀b∈q,H' b=none)->∀b∈q,FpOk X l H' b:=λ U b hb=>⟨U b hb,(z b hb).2⟩
 refine codeAny_forLoop_any (λ n E=>∃i σ' H',Inv X l σ' H' E/\G i E.heap/\(∀b∈q,H' b=none)/\W i n σ' H') ?_ m0 ⟨0,σ,H2,V,L,λ b hb=>(z b hb).1,w0⟩;rintro n C ⟨i,σ3,H3,I3,st3,fr3,w3⟩;rcases O i n σ3 H3 w3 with ⟨K,M⟩|⟨go,N,hN,step⟩
 ·refine n5 hp (thn (T.done X rfl rfl rfl hc i l C σ3 H3 X.xe I3 (t fr3) st3 K) λ r s4 ⟨hr,I4⟩=>?_);subst hr;exact W6 ⟨σ3,H3,I4,M⟩
 ·refine n5 hp (thn (T.item X rfl rfl rfl hc i l C σ3 H3 X.xe I3 (t fr3) st3 go) λ r s4 ⟨u,hr,h4⟩=>?_);subst hr;refine n5 hp (thn h4 λ _ F ⟨x,H5,I5,r5,y5,st5,fr5⟩=>?_);have Z:=I5.pinned (t fr5) (T.obj _ _ st5);refine n5 hp (thn (hg _ F σ3 H5 x u _ Z r5 (step x H5 y5)) λ _ s6 ⟨σ6,H6,I6,q6⟩=>?_);refine n5 hp (thn (hb _ s6 σ6 H6 _ I6 q6) λ f y k=>?_);have B :∀{a:St} {j:Hp},Inv X (l++pinsAt q F.heap) a j y->N a j->∃m,m < n/\∃i σ' H',Inv X l σ' H' y/\G i y.heap/\(∀b∈q,H' b=none)/\W i m σ' H':=λ {a j} c p=>by obtain ⟨m',S,Q⟩:=hN a j p;refine ⟨m',S,i + 1,a,j,c.unpinned,T.keep _ _ _ st5 λ b hb o e=>(c.pin (b,o) (O1 _ (O1 _ (z4n hb e)))).1,λ b hb=>?_,Q⟩;obtain ⟨o,e,d⟩:=T.obj _ _ st5 b hb;exact (c.pin (b,o) (O1 _ (O1 _ (z4n hb e)))).2.1
  cases f with
  | next=>obtain ⟨a,j,c,p⟩:=k;exact B c p
  | cont=>obtain ⟨a,j,c,p⟩:=k;exact B c p
  | brk=>obtain ⟨a,j,c,k⟩:=k;exact ⟨a,j,c.unpinned,k⟩
  | ret v=>obtain ⟨x7,a,j,c,P,k⟩:=k;exact ⟨x7,a,j,c.unpinned,P,k⟩
end
theorem z2j {K:d0} {a:Addr} {xs:List V} {g:TG} {tb:TS} {D:Ends} {σ:St} {H:Hp} (Pv:Nat->St->Hp->Prop) (h0:Pv 0 σ H) (hl :∀i σ H,i<=xs.length->Pv i σ H->SqL K H a xs)
  (hs :∀i x σ H,xs[i]? = some x->Pv i σ H->g x σ H λ σ2 H2=>tb { D with nx:=Pv (i + 1),ct:=Pv (i + 1),bk:=D.nx } σ2 H2) (hd :∀σ H,Pv xs.length σ H->D.nx σ H) :
  ∃W:Nat->Nat->St->Hp->Prop,(∃m,W 0 m σ H)/\∀i m σ H,W i m σ H->
   ((Itl K a).stop i H/\D.nx σ H)\/((Itl K a).go i H/\∃N:St->Hp->Prop,(∀σ' H',N σ' H'->∃m',m' < m/\W (i + 1) m' σ' H')/\∀x H',(Itl K a).yld i H x H'->g x σ H' λ σ2 H2=>tb { D with nx:=N,ct:=N,bk:=D.nx } σ2 H2):=by
 refine ⟨λ i m σ H=>m=xs.length - i/\i<=xs.length/\Pv i σ H,⟨xs.length,by simp,U1 _,h0⟩,?_⟩;rintro i m σ H ⟨rfl,hi,p⟩;have q:=hl i σ H hi p;by_cases hlt:i < xs.length
 ·refine .inr ⟨⟨xs,xs[i],q,by simp [hlt]⟩,Pv (i + 1),λ σ' H' b=>⟨xs.length - (i + 1),by omega,rfl,hlt,b⟩,λ x H' y=>?_⟩;obtain ⟨e,y⟩:=y;subst e;exact hs i x σ _ (y xs q) p
 ·have e:i=xs.length:=by omega
  subst e;exact .inl ⟨⟨xs,q,B0 _⟩,hd σ H p⟩
theorem z5x {lo:Int} {n:Nat} {g:TG} {tb:TS} {D:Ends} {σ:St} {H:Hp} (Pv:Nat->St->Hp->Prop) (h0:Pv 0 σ H)
  (hs :∀i σ H,i < n->Pv i σ H->g (.int (lo + i)) σ H λ σ2 H2=>tb { D with nx:=Pv (i + 1),ct:=Pv (i + 1),bk:=D.nx } σ2 H2) (hd :∀σ H,Pv n σ H->D.nx σ H) :
  ∃W:Nat->Nat->St->Hp->Prop,(∃m,W 0 m σ H)/\∀i m σ H,W i m σ H->
   ((Itr lo n).stop i H/\D.nx σ H)\/((Itr lo n).go i H/\∃N:St->Hp->Prop,(∀σ' H',N σ' H'->∃m',m' < m/\W (i + 1) m' σ' H')/\∀x H',(Itr lo n).yld i H x H'->g x σ H' λ σ2 H2=>tb { D with nx:=N,ct:=N,bk:=D.nx } σ2 H2):=by
 refine ⟨λ i m σ H=>m=n - i/\i<=n/\Pv i σ H,⟨n,by simp,U1 _,h0⟩,?_⟩;rintro i m σ H ⟨rfl,hi,p⟩;by_cases hlt:i < n
 ·refine .inr ⟨hlt,Pv (i + 1),λ σ' H' a=>⟨n - (i + 1),by omega,rfl,hlt,a⟩,λ x H' y=>?_⟩;obtain ⟨e,y⟩:=y;subst e y;exact hs i σ _ hlt p
 ·have e:i=n:=by omega
  subst e;exact .inl ⟨B0 _,hd σ H p⟩
noncomputable abbrev R2:=V->V->Hp->VK->Prop
def OpR (X:Cx) (f:Value->Value->Sem Value) (r:R2):Prop:=
 ∀(pins:List (Addr×Obj)) (s:A0) (σ:St) (H:Hp) (x y:V) (v u:Value) (Q:VK),Inv X pins σ H s->RelV x v->RelV y u->r x y H Q->
  V0 (E1 X.prog X.w) X.A (f v u) (EP X pins σ Q) X.xe s
def UnR (X:Cx) (f:Value->Sem Value) (r:V->Hp->VK->Prop):Prop:=
 ∀(pins:List (Addr×Obj)) (s:A0) (σ:St) (H:Hp) (x:V) (v:Value) (Q:VK),Inv X pins σ H s->RelV x v->r x H Q->
  V0 (E1 X.prog X.w) X.A (f v) (EP X pins σ Q) X.xe s
def CallR (X:Cx) (f:Value) (r:List V->Hp->VK->Prop):Prop:=
 ∀(pins:List (Addr×Obj)) (s:A0) (σ:St) (H:Hp) (xs:List V) (us:List Value) (Q:VK),Inv X pins σ H s->Vals xs us->r xs H Q->
  V0 (E1 X.prog X.w) X.A (call f us) (EP X pins σ Q) X.xe s
noncomputable def tOp (r:R2) (ta tb:TE):TE:=λ σ H Q=>ta σ H λ x H1=>tb σ H1 λ y H2=>r x y H2 Q
noncomputable def tUn (r:V->Hp->VK->Prop) (ta:TE):TE:=λ σ H Q=>ta σ H λ x H1=>r x H1 Q
noncomputable def rI (C:Int->Int->Prop) (g:Int->Int->V):R2:=λ x y H Q=>∃i j,x=.int i/\y=.int j/\C i j/\Q (g i j) H
noncomputable def rI0 (g:Int->Int->V):R2:=λ x y H Q=>∃i j,x=.int i/\y=.int j/\Q (g i j) H
def rU (g:Int->V):V->Hp->VK->Prop:=λ x H Q=>∃i,x=.int i/\Q (g i) H
section
variable {X:Cx} {a b c:Expr} {ta tb tc:TE} {pos:Pos}
theorem binT (ha:PE X a ta) (hb:PE X b tb) {pins:List (Addr×Obj)} {s:A0} {σ:St} {H:Hp} {R:V->V->Hp->Prop} (I:Inv X pins σ H s)
  (h:ta σ H λ x H1=>tb σ H1 λ y H2=>R x y H2) {Q:Value->A0->Prop} {f:Value->Value->Sem Value}
  (hf :∀v u s2 x y H2,Inv X pins σ H2 s2->RelV x v->RelV y u->R x y H2->V0 (E1 X.prog X.w) X.A (f v u) Q X.xe s2) :
  V0 (E1 X.prog X.w) X.A (m3 a X.env) (λ v s₁=>V0 (E1 X.prog X.w) X.A (m3 b X.env) (λ u s₂=>V0 (E1 X.prog X.w) X.A (f v u) Q X.xe s₂) X.xe s₁) X.xe s:=by
 refine thn (ha pins s σ H _ I h) λ v c ⟨x,H1,I1,r1,q1⟩=>?_;refine thn (hb pins c σ H1 _ I1 q1) λ u s2 ⟨y,H2,I2,r2,q2⟩=>?_;exact hf v u s2 x y H2 I2 r1 r2 q2
theorem pe_op {op:Operator} {r:R2} (ho:OpR X (O4 op) r) (ha:PE X a ta) (hb:PE X b tb):PE X (.BinOp a op b pos) (tOp r ta tb):=by intro f s σ H Q I h;exact wpAny_BinOp (binT ha hb I h λ v u i x y d c g e q=>ho f i σ d x y v u Q c g e q)
theorem pe_un {op:UnaryOp} {r:V->Hp->VK->Prop} (ho:UnR X (unaryOp op) r) (ha:PE X a ta):PE X (.UnaryOp op a pos) (tUn r ta):=by intro b s σ H Q I h;exact UnaryOp_ (thn (ha b s σ H _ I h) λ v c ⟨x,H1,I1,r1,q1⟩=>ho b c σ H1 x v Q I1 r1 q1)
theorem opI {f:Value->Value->Sem Value} {C:Int->Int->Prop} {g:Int->Int->Int}
  (rule :∀(i j:Int) (t u:Tok) (s:A0) (Q:Value->A0->Prop) (E:Value->A0->Prop),C i j->Q (.int (g i j) s.toks) { s with toks:=s.toks + 1 }->V0 (E1 X.prog X.w) X.A (f (.int i t) (.int j u)) Q E s) :
  OpR X f (rI C λ i j=>.int (g i j)):=by
 intro e s σ H x y v u Q I d b h;obtain ⟨i,j,rfl,rfl,c,q⟩:=h;obtain ⟨t,rfl⟩:=d;obtain ⟨a,rfl⟩:=b;exact rule i j t a s _ _ c ⟨.int (g i j),H,I.tok _,⟨_,rfl⟩,q⟩
theorem opI0 {f:Value->Value->Sem Value} {g:Int->Int->Int}
  (rule :∀(i j:Int) (t u:Tok) (s:A0) (Q:Value->A0->Prop) (E:Value->A0->Prop),Q (.int (g i j) s.toks) { s with toks:=s.toks + 1 }->V0 (E1 X.prog X.w) X.A (f (.int i t) (.int j u)) Q E s) :
  OpR X f (rI0 λ i j=>.int (g i j)):=by
 intro d s σ H x y v u Q I c b h;obtain ⟨i,j,rfl,rfl,q⟩:=h;obtain ⟨t,rfl⟩:=c;obtain ⟨a,rfl⟩:=b;exact rule i j t a s _ _ ⟨.int (g i j),H,I.tok _,⟨_,rfl⟩,q⟩
theorem opB0 {f:Value->Value->Sem Value} {g:Int->Int->Bool}
  (rule :∀(i j:Int) (t u:Tok) (s:A0) (Q:Value->A0->Prop) (E:Value->A0->Prop),Q (.bool (g i j)) s->V0 (E1 X.prog X.w) X.A (f (.int i t) (.int j u)) Q E s) :
  OpR X f (rI0 λ i j=>.bl (g i j)):=by
 intro d s σ H x y v u Q I c b h;obtain ⟨i,j,rfl,rfl,q⟩:=h;obtain ⟨t,rfl⟩:=c;obtain ⟨a,rfl⟩:=b;exact rule i j t a s _ _ ⟨.bl (g i j),H,I,rfl,q⟩
def CPow (i j:Int):Prop:=0<=j/\j<=1000000/\i.natAbs < 2 ^ 64
def CMul (i j:Int):Prop:=(-(2 ^ 64) < i/\i < 2 ^ 64)\/(-(2 ^ 64) < j/\j < 2 ^ 64)
theorem CMul.ok {i j:Int} (h:CMul i j):IntMulOk i j:=by
 rcases h with ⟨a,b⟩|⟨a,b⟩
 ·exact .of_left (intBits_le_64 a b)
 ·exact .of_right (intBits_le_64 a b)
theorem op_add:OpR X (O4 .Add) (rI0 λ i j=>.int (i + j)):=opI0 λ _ _ _ _ _ _ _ q=>add_int q
theorem op_sub:OpR X (O4 .Sub) (rI0 λ i j=>.int (i - j)):=opI0 λ _ _ _ _ _ _ _ q=>sub_int q
theorem op_mul:OpR X (O4 .Mult) (rI CMul λ i j=>.int (i * j)):=opI λ _ _ _ _ _ _ _ a q=>mul_int q a.ok
theorem op_mod:OpR X (O4 .Mod) (rI (λ _ j=>0 < j) λ i j=>.int (i % j)):=opI λ i j _ _ _ _ _ a q=>by have b:(0:Int) < j:=a;exact mod_int' (by omega) (by rw [Int.fmod_eq_emod_of_nonneg i (by omega)];exact q)
theorem op_pow:OpR X (O4 .Pow) (rI CPow λ i j=>.int (i ^ j.toNat)):=opI λ _ _ _ _ _ _ _ a q=>pow_int_small a.1 a.2.1 a.2.2 q
theorem unI {f:Value->Sem Value} {g:Int->Int}
  (rule :∀(i:Int) (t:Tok) (s:A0) (Q:Value->A0->Prop) (E:Value->A0->Prop),Q (.int (g i) s.toks) { s with toks:=s.toks + 1 }->V0 (E1 X.prog X.w) X.A (f (.int i t)) Q E s) :
  UnR X f (rU λ i=>.int (g i)):=by
 intro b s σ H x v Q I a h;obtain ⟨i,rfl,q⟩:=h;obtain ⟨t,rfl⟩:=a;exact rule i t s _ _ ⟨.int (g i),H,I.tok _,⟨_,rfl⟩,q⟩
theorem un_neg:UnR X (unaryOp .USub) (rU λ i=>.int (-i)):=unI λ _ _ _ _ _ q=>neg_int q
end
noncomputable def scal:V->V->Bool
 | .non,.non=>true | .non,.int _=>true | .int _,.non=>true | .non,.bl _=>true | .bl _,.non=>true | .non,.str _=>true | .str _,.non=>true
 | .int _,.int _=>true | .bl _,.bl _=>true | .str _,.str _=>true | .byt _,.byt _=>true
 | .int _,.str _=>true | .str _,.int _=>true | .bl _,.str _=>true | .str _,.bl _=>true
 | _,_=>false
noncomputable def rEq:R2:=λ x y H Q=>scal x y=true/\Q (.bl (decide (x=y))) H
noncomputable def rNe:R2:=λ x y H Q=>scal x y=true/\Q (.bl (!decide (x=y))) H
theorem zj1 {i j:Int}:decide (V.int i=V.int j)=(i == j):=by rw [Bool.eq_iff_iff];simp
theorem dec_bl {i j:Bool}:decide (V.bl i=V.bl j)=(i == j):=by rw [Bool.eq_iff_iff];simp
theorem zik {i j:Str}:decide (V.str i=V.str j)=(i == j):=by rw [Bool.eq_iff_iff];simp
theorem zif {i j:Array UInt8}:decide (V.byt i=V.byt j)=(i.toList == j.toList):=by rw [Bool.eq_iff_iff];cases i;cases j;simp
section
variable {X:Cx} {a b c:Expr} {ta tb tc:TE} {pos:Pos}
theorem fin_bl {pins:List (Addr×Obj)} {σ:St} {H:Hp} {s:A0} {Q:VK} {k k':Bool} (I:Inv X pins σ H s) (q:Q (.bl k) H) (e:k=k'):EP X pins σ Q (.bool k') s:=by subst e;exact ⟨.bl k,H,I,rfl,q⟩
theorem op_eq:OpR X (N2 .Eq) rEq:=by
 intro e s σ H x y v u Q I d a h;obtain ⟨c,q⟩:=h;cases x with
 | non=>
  cases d;cases y with
  | non=>cases a;exact PySem.EqNone.eq_none_none (fin_bl I q (by simp))
  | bl j=>cases a;exact PySem.EqNone.eq_none_bool (fin_bl I q (by simp))
  | int j=>obtain ⟨b,rfl⟩:=a;exact PySem.EqNone.eq_none_int (fin_bl I q (by simp))
  | str j=>obtain ⟨b,rfl⟩:=a;exact PySem.EqNone.eq_none_str (fin_bl I q (by simp))
  | _=>exact absurd (show false=true from c) O0
 | bl i=>
  cases d;cases y with
  | non=>cases a;exact PySem.EqNone.eq_bool_none (fin_bl I q (by simp))
  | bl j=>cases a;exact eq_bool (fin_bl I q dec_bl)
  | str j=>obtain ⟨b,rfl⟩:=a;exact PySem.EqMixed.eq_bool_str (fin_bl I q (by simp))
  | _=>exact absurd (show false=true from c) O0
 | int i=>
  obtain ⟨t,rfl⟩:=d;cases y with
  | non=>cases a;exact PySem.EqNone.eq_int_none (fin_bl I q (by simp))
  | int j=>obtain ⟨b,rfl⟩:=a;exact eq_int (fin_bl I q zj1)
  | str j=>obtain ⟨b,rfl⟩:=a;exact PySem.EqMixed.eq_int_str (fin_bl I q (by simp))
  | _=>exact absurd (show false=true from c) O0
 | str i=>
  obtain ⟨t,rfl⟩:=d;cases y with
  | non=>cases a;exact PySem.EqNone.eq_str_none (fin_bl I q (by simp))
  | bl j=>cases a;exact PySem.EqMixed.eq_str_bool (fin_bl I q (by simp))
  | int j=>obtain ⟨b,rfl⟩:=a;exact PySem.EqMixed.eq_str_int (fin_bl I q (by simp))
  | str j=>obtain ⟨b,rfl⟩:=a;exact eq_str (fin_bl I q zik)
  | _=>exact absurd (show false=true from c) O0
 | byt i=>
  obtain ⟨t,rfl⟩:=d;cases y with
  | byt j=>obtain ⟨b,rfl⟩:=a;exact PySem.W.eq_bytes (fin_bl I q zif)
  | _=>exact absurd (show false=true from c) O0
 | _=>cases y<;>exact absurd (show false=true from c) O0
theorem op_ne:OpR X (N2 .NotEq) rNe:=by
 intro e s σ H x y v u Q I d a h;obtain ⟨c,q⟩:=h;cases x with
 | non=>
  cases d;cases y with
  | non=>cases a;exact PySem.EqNone.ne_none_none (fin_bl I q (by simp))
  | bl j=>cases a;exact PySem.EqNone.ne_none_bool (fin_bl I q (by simp))
  | int j=>obtain ⟨b,rfl⟩:=a;exact PySem.EqNone.ne_none_int (fin_bl I q (by simp))
  | str j=>obtain ⟨b,rfl⟩:=a;exact PySem.EqNone.ne_none_str (fin_bl I q (by simp))
  | _=>exact absurd (show false=true from c) O0
 | bl i=>
  cases d;cases y with
  | non=>cases a;exact PySem.EqNone.ne_bool_none (fin_bl I q (by simp))
  | bl j=>cases a;exact ne_bool (fin_bl I q (congrArg not dec_bl))
  | str j=>obtain ⟨b,rfl⟩:=a;exact PySem.EqMixed.ne_bool_str (fin_bl I q (by simp))
  | _=>exact absurd (show false=true from c) O0
 | int i=>
  obtain ⟨t,rfl⟩:=d;cases y with
  | non=>cases a;exact PySem.EqNone.ne_int_none (fin_bl I q (by simp))
  | int j=>obtain ⟨b,rfl⟩:=a;exact ne_int (fin_bl I q (congrArg not zj1))
  | str j=>obtain ⟨b,rfl⟩:=a;exact PySem.EqMixed.ne_int_str (fin_bl I q (by simp))
  | _=>exact absurd (show false=true from c) O0
 | str i=>
  obtain ⟨t,rfl⟩:=d;cases y with
  | non=>cases a;exact PySem.EqNone.ne_str_none (fin_bl I q (by simp))
  | bl j=>cases a;exact PySem.EqMixed.ne_str_bool (fin_bl I q (by simp))
  | int j=>obtain ⟨b,rfl⟩:=a;exact PySem.EqMixed.ne_str_int (fin_bl I q (by simp))
  | str j=>obtain ⟨b,rfl⟩:=a;exact ne_str (fin_bl I q (congrArg not zik))
  | _=>exact absurd (show false=true from c) O0
 | byt i=>
  obtain ⟨t,rfl⟩:=d;cases y with
  | byt j=>obtain ⟨b,rfl⟩:=a;exact PySem.W.ne_bytes (fin_bl I q (congrArg not zif))
  | _=>exact absurd (show false=true from c) O0
 | _=>cases y<;>exact absurd (show false=true from c) O0
theorem op_lt:OpR X (N2 .Lt) (rI0 λ i j=>.bl (decide (i < j))):=opB0 λ _ _ _ _ _ _ _ q=>lt_int q
theorem op_le:OpR X (N2 .LtE) (rI0 λ i j=>.bl (decide (i<=j))):=opB0 λ _ _ _ _ _ _ _ q=>le_int q
theorem op_gt:OpR X (N2 .Gt) (rI0 λ i j=>.bl (decide (j < i))):=opB0 λ _ _ _ _ _ _ _ q=>gt_int q
theorem op_isN:OpR X (N2 .Is) (λ x y H Q=>y=.non/\Q (.bl (decide (x=.non))) H):=by
 intro c s σ H x y v u Q I a b h;obtain ⟨rfl,q⟩:=h;cases b;refine is_none_gen (fin_bl I q ?_);cases x<;>first
  | (cases a;rfl)
  | (obtain ⟨t,rfl⟩:=a;rfl)
theorem zid:OpR X (N2 .IsNot) (λ x y H Q=>y=.non/\Q (.bl (!decide (x=.non))) H):=by
 intro c s σ H x y v u Q I a b h;obtain ⟨rfl,q⟩:=h;cases b;refine isnot_none_gen (fin_bl I q ?_);cases x<;>first
  | (cases a;rfl)
  | (obtain ⟨t,rfl⟩:=a;rfl)
theorem OpR.or {f:Value->Value->Sem Value} {r r':R2} (h:OpR X f r) (h':OpR X f r'):OpR X f (λ x y H Q=>r x y H Q\/r' x y H Q):=by
 intro b s σ H x y v u Q I c a q;rcases q with q|q
 ·exact h b s σ H x y v u Q I c a q
 ·exact h' b s σ H x y v u Q I c a q
theorem nomark (b:Expr) {op:CmpOp} (h:op≠.In:=by decide) (h2:op≠.NotIn:=by decide):j8 op b=false:=by
 have a:(op == CmpOp.In)=false:=by cases op<;>first|rfl|exact absurd rfl h
 have c:(op == CmpOp.NotIn)=false:=by cases op<;>first|rfl|exact absurd rfl h2
 cases b<;>simp [j8,a,c]
theorem z3a {op:CmpOp} {r:R2} (ho:OpR X (N2 op) r) (ha:PE X a ta) (hb:PE X b tb) (hm:j8 op b=false):PE X (.Compare a [op] [b] pos) (tOp r ta tb):=by intro f s σ H Q I h;exact wpAny_Compare1 (binT ha hb I h λ v u i x y d c g e q=>ho f i σ d x y v u Q c g e q) hm
noncomputable def tTest (t:TE):TT:=λ σ H Q=>t σ H λ x H'=>∃k,x=.bl k/\Q k H'
theorem z0b {op:CmpOp} {r:R2} (ho:OpR X (N2 op) r) (ha:PE X a ta) (hb:PE X b tb) (hm:j8 op b=false):PT X (.Compare a [op] [b] pos) (tTest (tOp r ta tb)):=by
 intro d s σ H Q I h;refine wpAny_isTrue_Compare1 (thn (ha d s σ H _ I h) λ v f ⟨x,H1,I1,r1,q1⟩=>thn (hb d f σ H1 _ I1 q1) λ u g ⟨y,H2,I2,r2,q2⟩=>thn (ho d g σ H2 x y v u _ I2 r1 r2 q2) λ c i ⟨z,H3,I3,r3,k,e,q3⟩=>?_) hm;subst e;cases r3;exact T3 ⟨H3,I3,q3⟩
noncomputable def tChain (r r':R2) (ta tb tc:TE):TE:=λ σ H Q=>ta σ H λ x H1=>tb σ H1 λ y H2=>r x y H2 λ z H3=>∃k,z=.bl k/\
 (if k=true then tc σ H3 λ w' H4=>r' y w' H4 Q else Q (.bl false) H3)
theorem zj8 {op op':CmpOp} {r r':R2} (ho:OpR X (N2 op) r) (ho':OpR X (N2 op') r') (ha:PE X a ta) (hb:PE X b tb) (hc:PE X c tc)
  (hm:lastMarks [op,op'] [b,c]=false:=by with_unfolding_all rfl):PE X (.Compare a [op,op'] [b,c] pos) (tChain r r' ta tb tc):=by
 intro f s σ H Q I h;refine Compare_chain (thn (ha f s σ H _ I h) λ v i ⟨x,H1,I1,r1,q1⟩=>chain_link (thn (hb f i σ H1 _ I1 q1) λ u m ⟨y,H2,I2,r2,q2⟩=>thn (ho f m σ H2 x y v u _ I2 r1 r2 q2) λ d j ⟨z,H3,I3,r3,k,e,q3⟩=>?_)) hm;subst e;cases r3;refine T3 ?_;cases k with
 | false=>exact ite_ff ⟨.bl false,H3,I3,rfl,q3⟩
 | true=>exact ite_tt (chain_last (thn (hc f j σ H3 _ I3 q3) λ l g ⟨z',H4,I4,r4,q4⟩=>ho' f g σ H4 y z' u l Q I4 r2 r4 q4))
theorem line63:(sizeLine:Nat) < 2 ^ 63:=by rw [sizeLine_eq];decide
theorem op_add_str:OpR X (O4 .Add) (λ x y H Q=>∃i j,x=.str i/\y=.str j/\i.length + j.length<=sizeLine/\Q (.str (i++j)) H):=by intro f s σ H x y v u Q I d c h;obtain ⟨i,j,rfl,rfl,b,q⟩:=h;obtain ⟨t,rfl⟩:=d;obtain ⟨a,rfl⟩:=c;exact add_str (λ a e=>⟨.str (i++j),H,I.tok _,⟨_,rfl⟩,q⟩) b
theorem vals1 {x:V} {us:List Value} (r:Vals [x] us) :∃u,us=[u]/\RelV x u:=by
 cases r with
 | cons r1 r2=>cases r2;exact ⟨_,rfl,r1⟩
theorem vals2 {x y:V} {us:List Value} (r:Vals [x,y] us) :∃u w',us=[u,w']/\RelV x u/\RelV y w':=by
 cases r with
 | cons r1 r2=>
  cases r2 with
  | cons r3 r4=>cases r4;exact ⟨_,_,rfl,r1,r3⟩
theorem zgl (hc:X.calm=true):CallR X (.builtin "max") (λ xs H Q=>∃i j,xs=[.int i,.int j]/\Q (.int (if j > i then j else i)) H):=by
 intro c s σ H xs b Q I r h;obtain ⟨i,j,rfl,q⟩:=h;obtain ⟨u,f,rfl,⟨t,rfl⟩,⟨a,rfl⟩⟩:=vals2 r;refine max_two_ints (I.ok.hd hc) λ e d k=>⟨_,H,I.kept k,?_,q⟩
 by_cases hj:j > i
 ·rw [if_pos hj,if_pos hj];exact ⟨_,rfl⟩
 ·rw [if_neg hj,if_neg hj];exact ⟨_,rfl⟩
theorem zgh (hc:X.calm=true):CallR X (.builtin "min") (λ xs H Q=>∃i j,xs=[.int i,.int j]/\Q (.int (if j < i then j else i)) H):=by
 intro c s σ H xs b Q I r h;obtain ⟨i,j,rfl,q⟩:=h;obtain ⟨u,f,rfl,⟨t,rfl⟩,⟨a,rfl⟩⟩:=vals2 r;refine min_two_ints (I.ok.hd hc) λ e d k=>⟨_,H,I.kept k,?_,q⟩
 by_cases hj:j < i
 ·rw [if_pos hj,if_pos hj];exact ⟨_,rfl⟩
 ·rw [if_neg hj,if_neg hj];exact ⟨_,rfl⟩
theorem call_int1:CallR X (.type "int") (λ xs H Q=>(∃i,xs=[.int i]/\Q (.int i) H)\/∃k,xs=[.bl k]/\Q (.int (if k then 1 else 0)) H):=by
 intro c s σ H xs b Q I r h;rcases h with ⟨i,rfl,q⟩|⟨k,rfl,q⟩
 ·obtain ⟨u,rfl,t,rfl⟩:=vals1 r;exact call_int_int ⟨.int i,H,I,⟨_,rfl⟩,q⟩
 ·obtain ⟨u,rfl,a⟩:=vals1 r;cases a;exact call_int_bool ⟨.int (if k then 1 else 0),H,I.tok _,⟨_,rfl⟩,q⟩
end
structure ObjM (h:Heap) (x dx C:Addr) (mA:Str->Option Value):Prop where
 obj:h.get? x=some (j4 C dx)
 ns:h.Ns1 dx mA
 ne:dx≠x
theorem zhn {h:Heap} {dx:Addr} {mA:Str->Option Value} (n:h.Ns1 dx mA) :∃od,h.get? dx=some od/\∀name,o8 name od=some (mA name):=by
 obtain ⟨o,b,l,i,f,j,_,d⟩:=n;refine ⟨o,i,λ name=>?_⟩;have e:=d name;unfold nsFind findBy at e;rw [<-Array.find?_toList] at e;unfold o8;rw [f];dsimp only;split
 ·rename_i y q;rw [q] at e;exact congrArg some e
 ·rename_i q;rw [q] at e;have a:b.toList.any (·.refKey)=false:=by rw [List.any_eq_false];intro y g;obtain ⟨z,t,k⟩:=j y (Array.mem_toList_iff.mp g);simp [DictEntry.refKey,k]
  have c:¬ b.toList.any (·.refKey)=true:=by rw [a];exact O0
  rw [if_neg c];exact congrArg some e
theorem ObjM.look {h:Heap} {x dx C:Addr} {mA:Str->Option Value} (I:ObjM h x dx C mA) :∃od,PySem.W.InstAt h x (j4 C dx) C (some od)/\∀name,o8 name od=some (mA name):=
 let ⟨od,ho,hl⟩:=zhn I.ns
 ⟨od,⟨I.obj,rfl,rfl,ho⟩,hl⟩
section
variable {prog:Program} {w:W0} {A:Y1} {E:Value->A0->Prop} {s:A0} {K:d0} {x dx C f:Addr} {mA:Str->Option Value} {name:Str} {v:Value}
theorem zl5 {expr:Bool} {Q:Value->A0->Prop} (X:K.In s.heap) (I:ObjM s.heap x dx C mA) (hg:y7 K C name=true) (hh:m9 K C=true)
  (ha:J3 K (.ref C) name=some none) (hv:mA name=some v) (hv':PySem.W.handedIn v=true) (h:Q v { s with toks:=s.toks + 1 }) :
  V0 (E1 prog w) A (getAttr (.ref x) name expr) Q E s:=by
 obtain ⟨b,J,a⟩:=I.look;exact PySem.W.get_value X J (M8 hg).1 (PySem.W.findObj_own hh ha rfl (by rw [a,hv])) hv' h
theorem zkc {pl:Sem Bool} {Q:Value×List Value->A0->Prop} (X:K.In s.heap) (I:ObjM s.heap x dx C mA) (hg:y7 K C name=true)
  (hf:J3 K (.ref C) name=some (some (.ref f))) (ht:j1b K (.ref f)=true) (hv:mA name=none) (h:Q (.ref f,[.ref x]) s) :
  V0 (E1 prog w) A (getMethod (.ref x) name pl) Q E s:=by
 obtain ⟨b,J,a⟩:=I.look;exact PySem.W.method_fn X J (M8 hg).1 (M8 hg).2 hf (beq_iff_eq.mp ht) (by show (o8 name b).map (·.isSome)=some false;rw [a,hv];rfl) h
theorem zky {ns:List Str} {Q:Unit->A0->Prop} (X:K.In s.heap) (I:ObjM s.heap x dx C mA)
  (hs:J3 K (.ref C) "__setattr__" = some (some (.builtin "object.__setattr__"))) (hp:j3h K C=true) (ht:U9 K C name=some none) (hh:m9 K C=true)
  (hw:j2c mA ns) (hsz:ns.length<=sizeLine)
  (h :∀h',ObjM h' x dx C (λ y=>if y=name then some v else mA y)->U5 dx s.heap h'->Q () { s with heap:=h',toks:=s.toks + 2 }) :
  V0 (E1 prog w) A (setAttr (.ref x) name v) Q E s:=by
 obtain ⟨m,J,o⟩:=I.look;refine PySem.W.set_plain X J hs (PySem.W.osa_open (s:={ s with toks:=s.toks + 1 }) (r:=none) X J hp ht λ b=>?_);obtain ⟨q,i,k⟩:=PySem.W.any_some hh;have e:s.heap.get? x=some ⟨.ref C,some dx,.plain,#[]⟩:=I.obj;refine o0 (G0 (o0 (o0 (wpAny_loadPart e (o0 (PySem.W.Looks.here (s:={ s with toks:=s.toks + 1 }) (PySem.W.looks_clsIn X i) ?_))))));rw [k];refine G0 (a:=some dx) (o0 (G0 (o0 ?_)));refine wpAny_nsSet1 (s:={ s with toks:=s.toks + 1 }) I.ns λ h' c d=>?_;obtain ⟨n,p,l,g,j,f⟩:=c.count (PySem.Within.cons name v hw);refine o0 (wpAny_lookBehind g (by rw [j];exact pastItsLine_dict (D0 f (by rw [U0];omega))) ?_);exact G0 (h _ ⟨(d.2 _ (V3 I.ne)).trans I.obj,c,I.ne⟩ d)
theorem zjx {R:Result->A0->Prop} {vs:List Value} {kw:List (Str×Value)} (X:K.In s.heap) (hm:PySem.W.makesIn K C=true)
  (hi:J3 K (.ref C) "__init__" = some (some (.ref f))) (hf:PySem.W.typeIn K (.ref f)=some (.type "function"))
  (h:a8 (E1 prog w) (A.under (.builtin "type.__call__" ⟨.ref C :: vs,kw⟩)) (.call (.ref f) ⟨.ref (s.heap.objs.size + 1) :: vs,kw⟩) (PySem.W.InitBack (s.heap.objs.size + 1) R)
   { s with heap:=(s.heap.push PySem.W.emptyDict).push (j4 C s.heap.objs.size) }) :
  a8 (E1 prog w) A (.call (.ref C) ⟨vs,kw⟩) R s:=by
 obtain ⟨c,g,d,t,b⟩:=s;exact PySem.W.make_core (PySem.W.makes_of X hm) (PySem.W.looks_findIn X hi) (λ a=>PySem.W.bind_fn X a hf) (.inl rfl) h
end
noncomputable def putF (f:Str) (v:V):List (Str×V)->List (Str×V)
 | []=>[(f,v)]
 | (g,x) :: r=>if g=f then (g,v) :: r else (g,x) :: putF f v r
theorem z3g (f g:Str) (v:V) :∀fs:List (Str×V),(putF f v fs).lookup g=if g=f then some v else fs.lookup g
 | []=>by
  show B6 g [(f,v)]=_;by_cases h:g=f
  ·have a:(g == f)=true:=beq_iff_eq.mpr h;simp only [B6,a,if_pos h]
  ·have a:(g == f)=false:=beq_eq_false_iff_ne.mpr h;simp only [B6,a,if_neg h]
 | (k,x) :: r=>by
  have b:=z3g f g v r;rw [show putF f v ((k,x) :: r)=(if k=f then (k,v) :: r else (k,x) :: putF f v r) from rfl];by_cases hk:k=f
  ·rw [if_pos hk];by_cases h:g=k
   ·have a:(g == k)=true:=beq_iff_eq.mpr h;simp only [B6,a,if_pos (h.trans hk)]
   ·have a:(g == k)=false:=beq_eq_false_iff_ne.mpr h;simp only [B6,a,if_neg (λ e:g=f=>h (e.trans hk.symm))]
  ·rw [if_neg hk];by_cases h:g=k
   ·have a:(g == k)=true:=beq_iff_eq.mpr h;simp only [B6,a,if_neg (λ e:g=f=>hk (h.symm.trans e))]
   ·have a:(g == k)=false:=beq_eq_false_iff_ne.mpr h;simp only [B6,a];exact b
theorem z7u (f:Str) (v:V) :∀fs:List (Str×V),f∈(putF f v fs).map (·.1)/\∀g,g∈fs.map (·.1)->g∈(putF f v fs).map (·.1)
 | []=>⟨by simp [putF],λ g h=>by simp at h⟩
 | (k,x) :: r=>by
  obtain ⟨b,a⟩:=z7u f v r;rw [show putF f v ((k,x) :: r)=(if k=f then (k,v) :: r else (k,x) :: putF f v r) from rfl];by_cases hk:k=f
  ·rw [if_pos hk];subst hk;exact ⟨by simp,λ g h=>by simpa using h⟩
  ·rw [if_neg hk];refine ⟨?_,λ g h=>?_⟩
   ·rw [J1];exact Y0 _ b
   ·rw [J1] at h⊢;rcases List.mem_cons.mp h with e|e
    ·exact List.mem_cons.mpr (.inl e)
    ·exact Y0 _ (a g e)
theorem z7q (f:Str) (v:V) :∀fs:List (Str×V),(putF f v fs).length<=fs.length + 1
 | []=>by simp [putF]
 | (k,x) :: r=>by
  have a:=z7q f v r;rw [show putF f v ((k,x) :: r)=(if k=f then (k,v) :: r else (k,x) :: putF f v r) from rfl];by_cases hk:k=f
  ·rw [if_pos hk,U0,U0];omega
  ·rw [if_neg hk,U0,U0];omega
theorem RelO.some_of {v:V} {o:Option Value} (r:RelO (some v) o) :∃u,o=some u/\RelV v u:=by
 cases o with
 | none=>exact (show False from r).elim
 | some u=>exact ⟨u,rfl,r⟩
theorem RelO.none_of {o:Option Value} (r:RelO none o):o=none:=by
 cases o with
 | none=>rfl
 | some u=>exact (show False from r).elim
theorem zgs {v:V} {u:Value} (r:RelV v u):PySem.W.handedIn u=true:=by
 cases v with
 | non=>cases (show u=X2 from r);rfl
 | bl b=>cases (show u=L4 b from r);rfl
 | int i=>obtain ⟨t,e⟩:=(show∃t,u=L7 i t from r);cases e;rfl
 | str x=>obtain ⟨t,e⟩:=(show∃t,u=d6 x t from r);cases e;rfl
 | byt b=>obtain ⟨t,e⟩:=(show∃t,u=Value.bytes b t from r);cases e;rfl
 | flt b=>obtain ⟨t,e⟩:=(show∃t,u=j3a b t from r);cases e;rfl
 | ref a=>cases (show u=Value.ref a from r);rfl
 | ty n=>cases (show u=Q6 n from r);rfl
section
variable {P:Program} {w:W0} {H H':Hp} {h h':Heap} {a C dx:Addr} {fs fs':List (Str×V)}
theorem zcj (hok:HOk P w H h) (e:H a=some (.ins C dx fs)) :∃mA,ObjM h a dx C mA/\(∀f,RelO (fs.lookup f) (mA f))/\j2c mA (fs.map (·.1))/\fs.length<=1000/\H dx=some (.own a):=by
 obtain ⟨d,z,ne,b,mA,n,r,q⟩:=(show ObjOk P w H h a (.ins C dx fs) from hok a _ e)
 exact ⟨mA,⟨b,n,ne⟩,r,q,z,d⟩
end
structure Cls (K:d0) (C:Addr):Prop where
 pg:y7 K C Str.empty=true
 hd:m9 K C=true
 po:j3h K C=true
 sa:J3 K (.ref C) "__setattr__" = some (some (.builtin "object.__setattr__"))
theorem Cls.get {K:d0} {C:Addr} (c:Cls K C) (f:Str):y7 K C f=true:=c.pg
def NoAttr (K:d0) (C:Addr) (f:Str):Prop:=J3 K (.ref C) f=some none
theorem NoAttr.taker {K:d0} {C:Addr} {f:Str} (n:NoAttr K C f):U9 K C f=some none:=by unfold U9;rw [show J3 K (.ref C) f=some none from n];rfl
structure Con (K:d0) (C:Addr) (f:Str) (v:V) (u:Value):Prop where
 at_:J3 K (.ref C) f=some (some u)
 rel:RelV v u
 get:j3g K u "__get__" = some none
 cp:PySem.W.copiedNames.contains f=false
structure Meth (K:d0) (C:Addr) (m:Str) (f:Addr):Prop where
 at_:J3 K (.ref C) m=some (some (.ref f))
 fn:j1b K (.ref f)=true
 kp:G3 K (.ref f)=true
section
variable {X:Cx} {pins:List (Addr×Obj)} {σ:St} {H:Hp} {s:A0} {a C dx:Addr} {fs:List (Str×V)} {f:Str} {v:V} {A:Y1} {E:Value->A0->Prop}
theorem zdy {b:Bool} {Q:Value->A0->Prop} (I:Inv X pins σ H s) (e:H a=some (.ins C dx fs)) (c:Cls X.K C) (n:NoAttr X.K C f) (l:fs.lookup f=some v)
  (h :∀u s',Inv X pins σ H s'->RelV v u->Q u s'):V0 (E1 X.prog X.w) A (getAttr (.ref a) f b) Q E s:=by
 obtain ⟨g,O,r,_,_,_⟩:=zcj I.hok e;obtain ⟨u,i,d⟩:=RelO.some_of (v:=v) (o:=g f) (by rw [<-l];exact r f);exact zl5 I.kIn O (c.get f) c.hd n i (zgs d) (h u _ (I.tok _) d)
theorem zfs {m:Str} {g:Addr} {pl:Sem Bool} {Q:Value×List Value->A0->Prop} (I:Inv X pins σ H s) (e:H a=some (.ins C dx fs)) (c:Cls X.K C) (k:Meth X.K C m g) (l:fs.lookup m=none)
  (h:Q (.ref g,[.ref a]) s):V0 (E1 X.prog X.w) A (getMethod (.ref a) m pl) Q E s:=by
 obtain ⟨d,O,r,_,_,_⟩:=zcj I.hok e;have b:d m=none:=RelO.none_of (by rw [<-l];exact r m);exact zkc I.kIn O (c.get m) k.at_ k.fn b h
theorem zf8 {y:V} {u:Value} {Q:Unit->A0->Prop} (I:Inv X pins σ H s) (e:H a=some (.ins C dx fs)) (c:Cls X.K C) (n:NoAttr X.K C f) (hl:fs.length < 1000) (ry:RelV y u)
  (h :∀s',Inv X pins σ (upd H a (.ins C dx (putF f y fs))) s'->Q () s'):V0 (E1 X.prog X.w) A (setAttr (.ref a) f u) Q E s:=by
 obtain ⟨j,O,r,i,_,k⟩:=zcj I.hok e;have p:(fs.map (·.1)).length<=sizeLine:=by rw [K0,sizeLine_eq];omega
 refine zky I.kIn O c.sa c.po n.taker c.hd i p λ B d l=>h _ ?_;have m :∃o,B.get? dx=some o:=let ⟨o,_,_,e',_⟩:=d.ns;⟨o,e'⟩;refine I.write (x:=a) (e:=dx) (by rw [e];exact True.intro) (.inr k) (λ b q t z=>(l.2 b t).trans z) m ?_;refine ⟨by rw [upd_ne O.ne];exact k,?_,O.ne,d.obj,_,d.ns,λ g=>?_,λ g v=>?_⟩
 ·have:=z7q f y fs;omega
 ·show RelO ((putF f y fs).lookup g) (if g=f then some u else j g);rw [z3g];by_cases q:g=f
  ·rw [if_pos q,if_pos q];exact ry
  ·rw [if_neg q,if_neg q];exact r g
 ·by_cases q:g=f
  ·rw [q];exact (z7u f y fs).1
  ·refine (z7u f y fs).2 g (i g λ z=>v ?_);show (if g=f then some u else j g)=none;rw [if_neg q];exact z
theorem Inv.made (I:Inv X pins σ H s):Inv X pins σ (upd (upd H s.heap.objs.size (.own (s.heap.objs.size + 1))) (s.heap.objs.size + 1) (.ins C s.heap.objs.size []))
  { s with heap:=(s.heap.push PySem.W.emptyDict).push (j4 C s.heap.objs.size) }:=by
 have c:(s.heap.push PySem.W.emptyDict).get? s.heap.objs.size=some PySem.W.emptyDict:=A1 s.heap rfl;have i:((s.heap.push PySem.W.emptyDict).push (j4 C s.heap.objs.size)).get? (s.heap.objs.size + 1)=some (j4 C s.heap.objs.size):=by
  have:=A1 (s.heap.push PySem.W.emptyDict) (o:=j4 C s.heap.objs.size) rfl
  rwa [Y3] at this
 have h:(s.heap.push PySem.W.emptyDict).Ns s.heap.objs.size (λ _=>none):=⟨PySem.W.emptyDict,#[],_,c,rfl,(λ e d=>absurd d (by simp)),λ _=>rfl⟩
 have f:=I.laid (a:=s.heap.objs.size) (o:=.own (s.heap.objs.size + 1)) (h':=s.heap.push PySem.W.emptyDict) (t':=s.toks) (λ b u q=>F0 _ q) (B0 _) ⟨_,c⟩;refine f.laid (a:=s.heap.objs.size + 1) (o:=.ins C s.heap.objs.size []) (t':=s.toks) (λ b u q=>F0 _ q) (F5 (Y3 _ _)) ?_;have ne:s.heap.objs.size≠s.heap.objs.size + 1:=F1 (K2 _);refine ⟨by rw [upd_ne ne,z01],U1 _,ne,i,λ _=>none,(Heap.Ns1.of_empty h).at λ o q=>F0 _ q,λ _=>True.intro,λ y g=>absurd rfl g⟩
theorem zki {prog:Program} {w:W0} {env:Env} {e:Expr} {f:Str} {pos:Pos} {s:A0} {Q:Value->A0->Prop} (hb:G4 e f env (m3 e env)=m3 e env)
  (h:V0 (E1 prog w) A (m3 e env) (λ o s₁=>V0 (E1 prog w) A (getAttr o f true) Q E s₁) E s):V0 (E1 prog w) A (m3 (.Attribute e f pos) env) Q E s:=
 Attribute_any_ h (by rw [arm_eval_Attribute,hb])
end
noncomputable def tFld (K:d0) (ta:TE) (f:Str):TE:=λ σ H Q=>ta σ H λ x H1=>∃a C dx fs v,x=.ref a/\H1 a=some (.ins C dx fs)/\Cls K C/\NoAttr K C f/\fs.lookup f=some v/\Q v H1
noncomputable def sFld (K:d0) (ta tv:TE) (f:Str):TS:=λ D σ H=>tv σ H λ y H1=>ta σ H1 λ x H2=>∃a C dx fs,x=.ref a/\H2 a=some (.ins C dx fs)/\Cls K C/\NoAttr K C f/\fs.length < 1000/\
 D.nx σ (upd H2 a (.ins C dx (putF f y fs)))
section
variable {X:Cx} {o e value:Expr} {f:Str} {pos pos' tpos:Pos} {ta tv:TE}
theorem pe_fld (he:PE X e ta) (hb:G4 e f X.env (m3 e X.env)=m3 e X.env):PE X (.Attribute e f pos) (tFld X.K ta f):=by intro g s σ H Q I h;refine zki hb (thn (he g s σ H _ I h) λ u i ⟨x,H1,I1,rx,a,C,dx,fs,v,ex,ea,c,n,l,q⟩=>?_);subst ex;obtain rfl:u=Value.ref a:=rx;exact zdy I1 ea c n l λ j k d b=>⟨v,H1,d,b,q⟩
theorem ps_fld (ha:PE X o ta) (hv:PE X value tv) (hs:F6 value (some (.Attribute o f pos')) pos.line X.env=E3 false):PS X (.Assign [.Attribute o f pos'] value pos) (sFld X.K ta tv f):=by intro b s σ H D I h;refine plainObj_wpAny_Assign_Attribute (thn (hv b s σ H _ I h) λ u d ⟨y,H1,I1,ry,q⟩=>thn (ha b d σ H1 _ I1 q) λ g j ⟨x,H2,I2,rx,a,C,dx,fs,ex,ea,c,n,l,q2⟩=>?_) hs;subst ex;obtain rfl:g=Value.ref a:=rx;exact zf8 I2 ea c n l ry λ i e=>⟨σ,_,e,q2⟩
end
section
variable {X:Cx} {pins:List (Addr×Obj)} {σ:St} {H:Hp} {s:A0} {A:Y1} {E:Value->A0->Prop} {Q:Value->A0->Prop} {c:Value} {b:Bool}
inductive TyOf (K:d0) (H:Hp):V->Value->Prop where
 | non:TyOf K H .non (.type "NoneType")
 | bl (x:Bool):TyOf K H (.bl x) (.type "bool")
 | int (i:Int):TyOf K H (.int i) (.type "int")
 | str (x:Str):TyOf K H (.str x) (.type "str")
 | flt (x:UInt64):TyOf K H (.flt x) (.type "float")
 | lst {a:Addr} {xs:List V} (e:H a=some (.lst xs)):TyOf K H (.ref a) (.type "list")
 | frz {a:Addr} {o:Obj} {xs:List V} (e:H a=some (.frz o (.lst xs))):TyOf K H (.ref a) (.type "list")
 | tup {a:Addr} {xs:List V} (e:H a=some (.tup xs)):TyOf K H (.ref a) (.type "tuple")
 | dK {a:Addr} {kvs:List (Key×V)} (e:H a=some (.dK kvs)):TyOf K H (.ref a) (.type "dict")
 | dT {a:Addr} {kvs:List (List Key×V)} (e:H a=some (.dT kvs)):TyOf K H (.ref a) (.type "dict")
 | ins {a C dx:Addr} {fs:List (Str×V)} (e:H a=some (.ins C dx fs)) (cl:Cls K C) (ha:J3 K (.ref C) "__class__" = some (some (.builtin "object.__class__")))
   (hn:j3g K (.builtin "object.__class__") "__get__" = some (some (.builtin "getset_descriptor.__get__"))) (htk:PySem.W.takesIn K (.builtin "object.__class__")=some true)
   (hm:PySem.W.mroIn K C (.type "object")=some true):TyOf K H (.ref a) (.ref C)
theorem zh6 {x:V} {u t:Value} (I:Inv X pins σ H s) (rx:RelV x u) (ty:TyOf X.K H x t) (e:PySem.W.kitOne X.K t c=some b) (h :∀tk,Q (.bool b) { s with toks:=tk }) :
  V0 (E1 X.prog X.w) A (call (.builtin "isinstance") [u,c]) Q E s:=by
 cases ty with
 | non=>cases (show u=X2 from rx);exact u3 PySem.W.kitx_none I.kIn True.intro e (λ z=>nomatch z) h
 | bl y=>cases (show u=L4 y from rx);exact u3 PySem.W.kitx_bool I.kIn True.intro e (λ z=>nomatch z) h
 | int i=>obtain ⟨t,q⟩:=(show∃t,u=L7 i t from rx);cases q;exact u3 PySem.W.kitx_int I.kIn True.intro e (λ z=>nomatch z) h
 | str y=>obtain ⟨t,q⟩:=(show∃t,u=d6 y t from rx);cases q;exact u3 PySem.W.kitx_str I.kIn True.intro e (λ z=>nomatch z) h
 | flt y=>obtain ⟨t,q⟩:=(show∃t,u=j3a y t from rx);cases q;exact u3 PySem.W.kitx_float I.kIn True.intro e (λ z=>nomatch z) h
 | @lst a f ea=>
  cases (show u=Value.ref a from rx);obtain ⟨_,_,n,_,d⟩:=(show ObjOk X.prog X.w H s.heap a (.lst f) from I.hok a _ ea)
  exact u3 j3i I.kIn ⟨_,d,rfl⟩ e (λ z=>nomatch z) h
 | @frz a ob f ea=>
  cases (show u=Value.ref a from rx);obtain ⟨_,_,_,n,_,d⟩:=(show ObjOk X.prog X.w H s.heap a (.frz ob (.lst f)) from I.hok a _ ea)
  exact u3 j3i I.kIn ⟨_,d,rfl⟩ e (λ z=>nomatch z) h
 | @tup a f ea=>
  cases (show u=Value.ref a from rx);obtain ⟨_,_,_,p,_⟩:=(show ObjOk X.prog X.w H s.heap a (.tup f) from I.hok a _ ea)
  obtain ⟨o,d,g,_⟩:=p;exact u3 PySem.W.kitx_tuple I.kIn ⟨o,d,g⟩ e (λ z=>nomatch z) h
 | @dK a kvs ea=>
  cases (show u=Value.ref a from rx);obtain ⟨_,_,l,_,p⟩:=(show ObjOk X.prog X.w H s.heap a (.dK kvs) from I.hok a _ ea)
  obtain ⟨o,k,j,d,g,_⟩:=p;exact u3 j3j I.kIn ⟨o,d,g.1⟩ e (λ z=>nomatch z) h
 | @dT a kvs ea=>
  cases (show u=Value.ref a from rx);obtain ⟨_,_,f,_,o,k,j,d,g,_⟩:=(show ObjOk X.prog X.w H s.heap a (.dT kvs) from I.hok a _ ea)
  exact u3 j3j I.kIn ⟨o,d,g.1⟩ e (λ z=>nomatch z) h
 | @ins a C dx fs ea cl ha hn htk hm=>cases (show u=Value.ref a from rx);obtain ⟨r,O,_⟩:=zcj I.hok ea;obtain ⟨m,J,_⟩:=O.look;exact u3 (PySem.W.kitx_own (cl.get _) cl.hd ha hn htk hm) I.kIn J e (λ z=>nomatch z) h
end
structure Room (k:Nat) (A:Y1):Prop where
 hd:A.handled=none
 dp:A.depth + 3 * k + 5 < recursionLimit
 un:A.units + 16 * k + 200 < cLine
 gd:A.guards=some []
theorem Room.mono {j k:Nat} {A:Y1} (r:Room k A) (h:j<=k):Room j A:=⟨r.hd,by have:=r.dp;omega,by have:=r.un;omega,r.gd⟩
theorem Room.deeper {k:Nat} {A:Y1} (r:Room (k + 1) A) (env:Env):Room k (A.deeper env):=
 ⟨r.hd,by have:=r.dp;show A.depth + 1 + 3 * k + 5 < _;omega,by have:=r.un;show A.units + 3 + 16 * k + 200 < _;omega,r.gd⟩
theorem zdp {A:Y1} {C:Addr} {us:List Value} {kw:List (Str×Value)}:(A.under (.builtin "type.__call__" ⟨.ref C :: us,kw⟩)).depth=A.depth + 1:=by first|rfl|simp [B9,Code.weight,Code.isCreation,Code.isGuard,Code.isCaller,j43,R9,guardIds]
theorem zed {A:Y1} {C:Addr} {us:List Value} {kw:List (Str×Value)}:(A.under (.builtin "type.__call__" ⟨.ref C :: us,kw⟩)).units=A.units + 1:=by first|rfl|simp [B9,Code.cUnits,j43,R9]
theorem Room.make {k:Nat} {A:Y1} (r:Room (k + 1) A) (C:Addr) (us:List Value) (kw:List (Str×Value)):Room k (A.under (.builtin "type.__call__" ⟨.ref C :: us,kw⟩)):=
 ⟨r.hd,by have:=r.dp;rw [zdp];omega,by have:=r.un;rw [zed];omega,by have h:=r.gd;first|exact h|simp [B9,h,Code.weight,Code.isCreation,Code.isGuard,Code.isCaller,j43,R9,guardIds]⟩
theorem Room.depth {k:Nat} {A:Y1} (r:Room k A):A.depth < recursionLimit:=by have:=r.dp;omega
theorem Room.units {k:Nat} {A:Y1} (r:Room k A):A.units + 64 < cLine:=by have:=r.un;omega
noncomputable def tNil:TA:=λ _ H Q=>Q [] H
noncomputable def tCons (ta:TE) (tr:TA):TA:=λ σ H Q=>ta σ H λ x H1=>tr σ H1 λ xs H2=>Q (x :: xs) H2
section
variable {X:Cx} {e:Expr} {es:List Expr} {te:TE} {t:TA} {pos:Pos}
theorem pa_nil:PA X [] tNil:=λ _ _ _ _ H Q I h=>g7 ⟨[],H,I,.nil,h⟩
theorem z00 (ha:PE X e te) (hr:PA X es t) (hs:B1 (e :: es) X.env=(false,m3 e X.env) :: B1 es X.env:=by rfl):PA X (e :: es) (tCons te t):=by intro a b s σ H Q I h;rw [hs];show V0 _ _ (spliced ((false,m3 e X.env) :: Q3 a (B1 es X.env))) _ _ s;refine O5 (thn (ha b s σ H _ I h) λ u c ⟨x,H1,I1,r1,q1⟩=>?_);exact thn (hr a b c σ H1 _ I1 q1) λ d f ⟨xs,H2,I2,r2,q2⟩=>⟨x :: xs,H2,I2,.cons r1 r2,q2⟩
noncomputable def tTup (t:TA):TE:=λ σ H Q=>t σ H λ xs H1=>xs.length<=sizeLine/\∀p,H1 p=none->Q (.ref p) (upd H1 p (.tup xs))
noncomputable def tLst (t:TA):TE:=λ σ H Q=>t σ H λ xs H1=>xs.length<=sizeLine/\∀p,H1 p=none->Q (.ref p) (upd H1 p (.lst xs))
theorem pe_tup {x1} (h:PA X es t):PE X (.Tuple es x1 pos) (tTup t):=by intro g s σ H Q I f;refine wpAny_Tuple_spliced (thn (h pos g s σ H _ I f) λ c a ⟨xs,H1,I1,r,z,q⟩=>⟨by rw [<-r.length];exact z,?_⟩);have d:H1 a.heap.objs.size=none:=I1.hok.fresh (B0 _);refine ⟨.ref a.heap.objs.size,upd H1 a.heap.objs.size (.tup xs),I1.laid (t':=a.toks) (λ b u e=>F0 _ e) (B0 _) ?_,rfl,q _ d⟩;exact ⟨z,c,r,IsTupN.new _ _⟩
theorem pe_lst (h:PA X es t):PE X (.List es pos) (tLst t):=by intro g s σ H Q I f;refine wpAny_List_spliced (thn (h pos g s σ H _ I f) λ c a ⟨xs,H1,I1,r,z,q⟩=>⟨by rw [<-r.length];exact z,?_⟩);have d:H1 a.heap.objs.size=none:=I1.hok.fresh (B0 _);refine ⟨.ref a.heap.objs.size,upd H1 a.heap.objs.size (.lst xs),I1.laid (t':=a.toks) (λ b u e=>F0 _ e) (B0 _) ?_,rfl,q _ d⟩;exact ⟨z,c,0,r,A1 _ rfl⟩
end
noncomputable abbrev Sp:=List V->Hp->VK->XK->Prop
noncomputable abbrev CXT:=List Env->Hp->A0->XK->Value->A0->Prop
structure Env0 (P:Program) (w:W0) (K:d0) (mg:Str->Option Value) (base:Heap) (A:Y1) (outer:List Env) (s:A0) (H:Hp):Prop where
 frames:A.frames=some outer
 mod:Mod K mg base
 bs :∀b o,base.get? b=some o->s.heap.get? b=some o/\H b=none
 bsz:base.objs.size<=s.heap.objs.size
 funs:s.heap.FunFrames base outer
 frf :∀b∈frs outer,H b=none
 hok:HOk P w H s.heap
 bare:i8 s.gens
def CE (outer:List Env) (P:Program) (w:W0) (H:Hp) (s:A0) (Q:VK) (u:Value) (s':A0):Prop:=
 ∃v H',s'.os=s.os/\i8 s'.gens/\Un (frs outer) [] H H' s.heap s'.heap/\HOk P w H' s'.heap/\RelV v u/\Q v H'
def CR (CX:CXT) (outer:List Env) (P:Program) (w:W0) (H:Hp) (s:A0) (Q:VK) (E:XK) (r:Result) (s':A0):Prop:=
 match r with
 | .ok (.ret u)=>CE outer P w H s Q u s'
 | .ok _=>False
 | .error e=>CX outer H s E e s'
structure FnOk (P:Program) (w:W0) (K:d0) (mg:Str->Option Value) (base:Heap) (CX:CXT) (k:Nat) (f:Addr) (fd:FuncData) (ps:List Str) (sp:Sp):Prop where
 len :∀vs H Q E,sp vs H Q E->vs.length=ps.length
 run :∀(A:Y1) (outer:List Env) (s:A0) (H:Hp) (args:Args) (us:List Value) (vs:List V) (Q:VK) (E:XK),Room k A->Env0 P w K mg base A outer s H->BindsTo s fd args (ps.zip us)->Vals vs us->sp vs H Q E->
  a8 (E1 P w) A (.call (.ref f) args) (CR CX outer P w H s Q E) s
theorem Env0.make {P:Program} {w:W0} {K:d0} {mg:Str->Option Value} {base:Heap} {A:Y1} {outer:List Env} {s:A0} {H:Hp} (e:Env0 P w K mg base A outer s H) (C:Addr) (us:List Value) (kw:List (Str×Value)) :
  Env0 P w K mg base (A.under (.builtin "type.__call__" ⟨.ref C :: us,kw⟩)) outer s H:=⟨by first|exact e.frames|(simpa [B9,Code.envs,R9,pushEnvs] using e.frames),e.mod,e.bs,e.bsz,e.funs,e.frf,e.hok,e.bare⟩
section
variable {X:Cx} {pins:List (Addr×Obj)} {σ:St} {H:Hp} {s s':A0}
theorem Inv.env0 (I:Inv X pins σ H s):Env0 X.prog X.w X.K X.mg X.base X.A X.stack s H:=
 ⟨I.ok.frames,I.ok.mod,I.bs,D0 I.ok.bsz I.sz,I.stack,I.stkFree,I.hok,I.bare⟩
theorem Inv.after {Q:VK} {u:Value} (I:Inv X pins σ H s) (h:CE X.stack X.prog X.w H s Q u s'):EP X pins σ Q u s':=by obtain ⟨v,a,c,j,un,f,r,q⟩:=h;obtain ⟨i,g,d,t,e⟩:=s';obtain rfl:e=s.os:=c;exact ⟨v,a,I.call (h':=i) (g':=g) (d':=d) (t':=t) (ch:=[]) un f j (λ b z=>absurd z (by simp)),r,q⟩
end
noncomputable def tCall (sp:Sp) (dvs:List V) (E:XK) (t:TA):TE:=λ σ H Q=>t σ H λ vs H1=>sp (vs++dvs) H1 Q E
noncomputable def tMeth (C:Addr) (m:Str) (sp:Sp) (dvs:List V) (E:XK) (ta:TE) (t:TA):TE:=λ σ H Q=>ta σ H λ x H1=>∃a dx fs,x=.ref a/\H1 a=some (.ins C dx fs)/\fs.lookup m=none/\
 t σ H1 λ vs H2=>sp (x :: (vs++dvs)) H2 Q E
noncomputable def tMake (C:Addr) (sp:Sp) (dvs:List V) (E:XK) (t:TA):TE:=λ σ H Q=>t σ H λ vs H1=>∀x dx,H1 x=none->H1 dx=none->dx≠x->
 sp (.ref x :: (vs++dvs)) (upd (upd H1 dx (.own x)) x (.ins C dx [])) (λ v H2=>v=.non/\Q (.ref x) H2) E
def Binds (K:d0) (fd:FuncData) (ps:List Str) (ds:List Value):Prop:=
 ∀(s:A0) (us:List Value),K.In s.heap->(us++ds).length=ps.length->BindsTo s fd ⟨us,[]⟩ (ps.zip (us++ds))
theorem Binds.all {K:d0} {fd:FuncData} {ps:List Str} (h :∀us:List Value,us.length=ps.length->bindArgs fd ⟨us,[]⟩=E3 (ps.zip us)):Binds K fd ps []:=λ s us _ a=>by rw [J2] at a⊢;exact .of_eq (h us a)
def Passes (CX:CXT) (X:Cx) (E:XK):Prop:=∀(pins:List (Addr×Obj)) (σ:St) (H:Hp) (s:A0) (e:Value) (s':A0),Inv X pins σ H s->CX X.stack H s E e s'->X.xe e s'
section
variable {X:Cx} {CX:CXT} {k:Nat} {f C:Addr} {fd:FuncData} {ps:List Str} {sp:Sp} {dvs:List V} {ds:List Value} {E:XK} {x m:Str} {p pos apos:Pos} {e o:Expr} {es:List Expr} {ta:TE} {t:TA}
theorem run_fn {pins:List (Addr×Obj)} {σ:St} {H:Hp} {s:A0} {Q:VK} {us:List Value} {vs:List V} (F:FnOk X.prog X.w X.K X.mg X.base CX k f fd ps sp) (hr:Room k X.A) (hb:Binds X.K fd ps ds) (hd:Vals dvs ds) (hx:Passes CX X E)
  (I:Inv X pins σ H s) (r:Vals vs us) (h:sp (vs++dvs) H Q E):V0 (E1 X.prog X.w) X.A (call (.ref f) us) (EP X pins σ Q) X.xe s:=by
 have b:Vals (vs++dvs) (us++ds):=r.append hd;have c:(us++ds).length=ps.length:=by rw [<-b.length];exact F.len _ _ _ _ h
 refine wpAny_call (U8 (F.run X.A X.stack s H ⟨us,[]⟩ (us++ds) (vs++dvs) Q E hr I.env0 (hb s us I.kIn c) b h) λ r d a=>?_);cases r with
 | error e=>exact hx pins σ H s e d I a
 | ok fl=>
  cases fl with
  | ret u=>exact I.after a
  | next=>exact i3 a
  | brk=>exact i3 a
  | cont=>exact i3 a
theorem zi9 (F:FnOk X.prog X.w X.K X.mg X.base CX k f fd ps sp) (hr:Room k X.A) (hg:Gl X x) (hm:X.mg x=some (.ref f)) (hk:G3 X.K (.ref f)=true) (hb:Binds X.K fd ps ds) (hd:Vals dvs ds) (hx:Passes CX X E)
  (ha:PA X (e :: es) t) (hdb:(x == ("__debug__" : Str))=false:=by decide) (he:B1 (e :: es) X.env=(false,m3 e X.env) :: B1 es X.env:=by rfl) (hpl:(Q3 pos (B1 es X.env)).any (·.1)=false:=by rfl) :
  PE X (.Call (.Name x p) (e :: es) [] pos) (tCall sp dvs E t):=by
 intro a s σ H Q I h;refine U4 (z7j I hg hm ?_ hdb);refine K5 (h₀:=X.base) I.ok.mod.kin hk (thn (ha pos a s σ H _ I h) λ c b ⟨vs,H1,I1,r,q⟩=>⟨I1.kIn,?_⟩) he hpl;exact run_fn F hr hb hd hx I1 r q
theorem zcc {pl:Sem Bool} (he:PE X o ta) (c:Cls X.K C) (hm:Meth X.K C m f) (F:FnOk X.prog X.w X.K X.mg X.base CX k f fd ps sp) (hr:Room k X.A) (hb:Binds X.K fd ps ds) (hd:Vals dvs ds) (hx:Passes CX X E) (ha:PA X (e :: es) t)
  (hst:B1 (e :: es) X.env=(false,m3 e X.env) :: B1 es X.env:=by rfl) (hpl:(Q3 pos (B1 es X.env)).any (·.1)=false:=by rfl)
  (ht:m3 (.Call (.Attribute o m apos) (e :: es) [] pos) X.env=(do
   let ov <-m3 o X.env
   j2h apos.atName
   let (f,first) <-j0j [ov] (getMethod ov m pl)
   callWith pos f first (Q3 pos (B1 (e :: es) X.env)) (K8 pos (c6 [] X.env))):=by rfl) :
  PE X (.Call (.Attribute o m apos) (e :: es) [] pos) (tMeth C m sp dvs E ta t):=by
 intro b s σ H Q I h;refine PySem.W.methodCall_KW (pl:=pl) (thn (he b s σ H _ I h) λ u d ⟨x,H1,I1,rx,a,dx,fs,ex,ea,l,q⟩=>?_) ht;subst ex;obtain rfl:u=Value.ref a:=rx;refine zfs I1 ea c hm l ?_;refine K5 (first:=[.ref a]) (h₀:=X.base) I.ok.mod.kin hm.kp (thn (ha pos b d σ H1 _ I1 q) λ us g ⟨vs,H2,I2,r,q2⟩=>⟨I2.kIn,?_⟩) hst hpl;exact run_fn (us:=.ref a :: us) (vs:=.ref a :: vs) F hr hb hd hx I2 (.cons rfl r) q2
structure Mk (K:d0) (C f:Addr):Prop where
 makes:PySem.W.makesIn K C=true
 init:J3 K (.ref C) "__init__" = some (some (.ref f))
 fn:j1b K (.ref f)=true
 kp:G3 K (.ref C)=true
theorem zk5 {pins:List (Addr×Obj)} {σ:St} {H:Hp} {s:A0} {Q:VK} {us:List Value} {vs:List V} (M:Mk X.K C f) (F:FnOk X.prog X.w X.K X.mg X.base CX k f fd ps sp) (hr:Room (k + 1) X.A) (hb:Binds X.K fd ps ds) (hd:Vals dvs ds)
  (hx:Passes CX X E) (I:Inv X pins σ H s) (r:Vals vs us)
  (h :∀x dx,H x=none->H dx=none->dx≠x->sp (.ref x :: (vs++dvs)) (upd (upd H dx (.own x)) x (.ins C dx [])) (λ v H2=>v=.non/\Q (.ref x) H2) E) :
  V0 (E1 X.prog X.w) X.A (call (.ref C) us) (EP X pins σ Q) X.xe s:=by
 have d:=h (s.heap.objs.size + 1) s.heap.objs.size (I.hok.fresh (M3 _)) (I.hok.fresh (B0 _)) (F1 (K2 _));have b:=Inv.made (C:=C) I;have c:Vals (V.ref (s.heap.objs.size + 1) :: (vs++dvs)) (Value.ref (s.heap.objs.size + 1) :: (us++ds)):=.cons rfl (r.append hd);have l:(Value.ref (s.heap.objs.size + 1) :: us++ds).length=ps.length:=by have e:=c.length;rw [F.len _ _ _ _ d] at e;exact e.symm
 refine wpAny_call (zjx (f:=f) I.kIn M.makes M.init (beq_iff_eq.mp M.fn) (U8 (F.run _ X.stack _ _ ⟨Value.ref (s.heap.objs.size + 1) :: us,[]⟩ (Value.ref (s.heap.objs.size + 1) :: (us++ds)) _ _ E (hr.make C us [])
  (b.env0.make C us []) (hb _ (Value.ref (s.heap.objs.size + 1) :: us) b.kIn l) c d) λ r m a=>?_))
 cases r with
 | error e=>exact hx pins σ _ _ e m b a
 | ok fl=>
  cases fl with
  | ret u=>obtain ⟨v,g,j,n,o,i⟩:=b.after a;subst o;exact ⟨n,⟨V.ref (s.heap.objs.size + 1),g,j,rfl,i⟩⟩
  | next=>exact i3 a
  | brk=>exact i3 a
  | cont=>exact i3 a
theorem ze3 (M:Mk X.K C f) (F:FnOk X.prog X.w X.K X.mg X.base CX k f fd ps sp) (hr:Room (k + 1) X.A) (hg:Gl X x) (hm:X.mg x=some (.ref C)) (hb:Binds X.K fd ps ds) (hd:Vals dvs ds) (hx:Passes CX X E)
  (ha:PA X (e :: es) t) (hdb:(x == ("__debug__" : Str))=false:=by decide) (he:B1 (e :: es) X.env=(false,m3 e X.env) :: B1 es X.env:=by rfl) (hpl:(Q3 pos (B1 es X.env)).any (·.1)=false:=by rfl) :
  PE X (.Call (.Name x p) (e :: es) [] pos) (tMake C sp dvs E t):=by
 intro a s σ H Q I h;refine U4 (z7j I hg hm ?_ hdb);refine K5 (h₀:=X.base) I.ok.mod.kin M.kp (thn (ha pos a s σ H _ I h) λ c b ⟨vs,H1,I1,r,q⟩=>⟨I1.kIn,?_⟩) he hpl;exact zk5 M F hr hb hd hx I1 r q
end
section
variable {X:Cx} {CX:CXT} {k:Nat} {f C:Addr} {fd:FuncData} {ps ks:List Str} {sp:Sp} {E:XK} {x m:Str} {p pos apos kpos:Pos} {e o:Expr} {es:List Expr} {kws:List N5} {te ta:TE} {t tk:TA} {nm:Option Str}
structure KBinds (K:d0) (fd:FuncData) (ps ks:List Str) (g:List Value->List Value->List Value) (gV:List V->List V->List V):Prop where
 to :∀(s:A0) (us ws:List Value),K.In s.heap->(g us ws).length=ps.length->BindsTo s fd ⟨us,ks.zip ws⟩ (ps.zip (g us ws))
 rel :∀{vs:List V} {us:List Value} {zs:List V} {ws:List Value},Vals vs us->Vals zs ws->Vals (gV vs zs) (g us ws)
variable {g:List Value->List Value->List Value} {gV:List V->List V->List V}
end
structure FnScope (N P:List Str) (sc:Scope):Prop where
 kind:sc.kind=.function
 co:sc.isCoroutine=false
 gen:sc.isGenerator=false
 nd:N.Nodup
 pre:N.take P.length=P
 par :∀x∈P,sc.names.lookup x=some .local\/sc.names.lookup x=some .cell
 nofree :∀y∈sc.names,y.2≠.free
theorem zcn {kindOf:Str->Option u6} {x:Str} :∀{binds:List (Str×Value)} {m:Str->Option Value},(∀v,(x,v)∉binds)->bindL kindOf binds m x=m x
 | [],_,_=>rfl
 | (n,v) :: r,m,h=>by
  unfold bindL;rw [zcn λ w a=>h w (Y0 _ a)];split
  ·have:x≠n:=by rintro rfl;exact h v C1
   simp [this]
  ·rfl
theorem zcf {kindOf:Str->Option u6} {x:Str} :∀{binds:List (Str×Value)} {m:Str->Option Value},(∀v,(x,v)∉binds)->bindC kindOf binds m x=m x
 | [],_,_=>rfl
 | (n,v) :: r,m,h=>by
  unfold bindC;rw [zcf λ w a=>h w (Y0 _ a)];split
  ·rfl
  ·have:x≠n:=by rintro rfl;exact h v C1
   simp [this]
theorem zc0 {kindOf:Str->Option u6} {x:Str} {v:Value} :∀{P:List Str} {vs:List Value} {i:Nat} {m:Str->Option Value},P.Nodup->P[i]? = some x->vs[i]? = some v->kindOf x=some .local->
  bindL kindOf (P.zip vs) m x=some v
 | [],_,_,_,_,h,_,_=>by simp at h
 | _ :: _,[],_,_,_,_,h,_=>by simp at h
 | p :: P,w :: vs,0,m,nd,h1,h2,hk=>by simp at h1 h2;subst h1;subst h2;show bindL kindOf ((p,w) :: P.zip vs) m p=_;unfold bindL;rw [zcn λ v a=>(List.nodup_cons.mp nd).1 (z8 a).1,if_pos hk];simp
 | p :: P,w :: vs,i + 1,m,nd,h1,h2,hk=>by show bindL kindOf ((p,w) :: P.zip vs) m x=_;unfold bindL;exact zc0 (i:=i) (List.nodup_cons.mp nd).2 (by simpa using h1) (by simpa using h2) hk
theorem zc9 {kindOf:Str->Option u6} {x:Str} {v:Value} :∀{P:List Str} {vs:List Value} {i:Nat} {m:Str->Option Value},P.Nodup->P[i]? = some x->vs[i]? = some v->kindOf x≠some .local->
  bindC kindOf (P.zip vs) m x=some v
 | [],_,_,_,_,h,_,_=>by simp at h
 | _ :: _,[],_,_,_,_,h,_=>by simp at h
 | p :: P,w :: vs,0,m,nd,h1,h2,hk=>by simp at h1 h2;subst h1;subst h2;show bindC kindOf ((p,w) :: P.zip vs) m p=_;unfold bindC;rw [zcf λ v a=>(List.nodup_cons.mp nd).1 (z8 a).1,if_neg hk];simp
 | p :: P,w :: vs,i + 1,m,nd,h1,h2,hk=>by show bindC kindOf ((p,w) :: P.zip vs) m x=_;unfold bindC;exact zc9 (i:=i) (List.nodup_cons.mp nd).2 (by simpa using h1) (by simpa using h2) hk
noncomputable def start (N:List Str) (vs:List V):St:=vs.map some++V1 (N.length - vs.length) none
noncomputable def cxOf (CX:CXT) (P:Program) (w:W0) (K:d0) (mg:Str->Option Value) (base:Heap) (N:List Str) (qual:Str) (scope:Scope) (f:Addr) (cd:Value) (A:Y1) (outer:List Env) (s:A0) (H:Hp) (E:XK):Cx where
 prog:=P
 w:=w
 K:=K
 mg:=mg
 base:=base
 A:=A.deeper (S3 qual scope s.heap.objs.size f cd)
 N:=N
 s₀:=s
 H₀:=H
 env:=S3 qual scope s.heap.objs.size f cd
 outer:=outer
 stack:=S3 qual scope s.heap.objs.size f cd :: outer
 ex:=[]
 calm:=true
 fn:=λ _=>true
 pn:=[]
 xe:=λ e s'=>V0 (E1 P w) (A.deeper (S3 qual scope s.heap.objs.size f cd)) («leaving» (S3 qual scope s.heap.objs.size f cd) e) (λ _ s''=>CX outer H s E e s'') (λ e' s''=>CX outer H s E e' s'') s'
theorem zfq {sc:Scope} {n:Nat} {x:Str} (h:sc.names.lookup x=some .cell) :∃c,(cellsFrom n sc.names []).lookup x=some c:=by have q:=j1c sc.names n [] (.inl h);exact Option.isSome_iff_exists.mp q
theorem zg7 {CX:CXT} {P:Program} {w:W0} {K:d0} {mg:Str->Option Value} {base:Heap} {N ps:List Str} {qual:Str} {scope:Scope} {f:Addr} {cd:Value} {A:Y1} {outer:List Env} {s s1:A0} {H:Hp} {E:XK} {us:List Value} {vs:List V}
  (S:FnScope N ps scope) (hd:A.handled=none) (e0:Env0 P w K mg base A outer s H) (hl:vs.length=ps.length) (r:Vals vs us)
  (x:InCallC s s.heap.objs.size (bindL (S3 qual scope s.heap.objs.size f cd).kindOf (ps.zip us) λ _=>none) (cellsFrom (s.heap.objs.size + 1) scope.names []) (bindC (S3 qual scope s.heap.objs.size f cd).kindOf (ps.zip us) λ _=>none) s1) :
  Inv (cxOf CX P w K mg base N qual scope f cd A outer s H E) [] (start N vs) H s1:=by
 have G:ps.length<=N.length:=by have:=congrArg j41 S.pre;rw [X3] at this;omega
 obtain ⟨l,J,rfl,C⟩:=x.done;have o :∀b:Addr,b∉(cxOf CX P w K mg base N qual scope f cd A outer s H E).ex:=λ b z=>absurd (show b∈([]:List Addr) from z) (by simp);refine ⟨⟨e0.mod,S.kind,rfl,rfl,B0 _,λ y z c l d=>?_,λ y g=>?_,λ y c _ h=>?_,λ _=>hd,Around.frames_deeper e0.frames,.inr ⟨rfl,rfl⟩,λ b z=>absurd z (o b),e0.bs,e0.bsz,λ b _ _=>o b,λ b z=>absurd z (o b),e0.funs,e0.frf⟩,
  rfl,e0.bare,Un.kept C,⟨_,x.toInCall.ns,λ i y v l d I=>?_⟩,λ y c h=>⟨_,x.cell y c h⟩,e0.hok.fresh (B0 _),λ y c h=>?_,λ p j=>absurd (show p∈([]:List (Addr×Obj)) from j) (by simp),e0.hok.kept C,?_⟩
 ·exact name_of_addr x.apart (E5 l) (E5 d)
 ·have g:scope.names.lookup y=some .cell\/scope.names.lookup y=some .free:=g;rcases g with g|g
  ·exact zfq g
  ·exact absurd rfl (S.nofree _ (E5 g))
 ·exact d3 (x.above y c (E5 h))
 ·have m:i < vs.length:=by
   unfold start at d;by_cases m:i < vs.length
   ·exact m
   ·rw [D2 (by simpa using m)] at d;rw [P7] at d;split at d<;>cases d
  have D:vs[i]? = some v:=by
   unfold start at d;rw [Q2 (by simpa using m),X0] at d;cases e:vs[i]? with
   | none=>rw [e] at d;cases d
   | some a=>rw [e] at d;cases d;rfl
  obtain ⟨u,B,F⟩:=r.get D;have j:ps[i]? = some y:=by rw [<-S.pre,List.getElem?_take_of_lt (by omega)];exact l
  have t:ps.Nodup:=by rw [<-S.pre];exact S.nd.sublist (N9 _ _)
  refine ⟨u,F,?_⟩;rcases S.par y (S0 j) with k|k
  ·exact .inl ⟨k,zc0 t j B k⟩
  ·obtain ⟨c,e⟩:=zfq (n:=s.heap.objs.size + 1) k;refine .inr ⟨.inl k,c,e,?_⟩;have q:=x.cell y c e;rw [zc9 t j B (by show scope.names.lookup y≠_;rw [k];decide)] at q;exact q
 ·exact e0.hok.fresh (d3 (x.above y c (E5 h)))
 ·unfold start;show _=N.length;rw [M0,K0,N3];omega
theorem fn_of {CX:CXT} {P:Program} {w:W0} {K:d0} {mg:Str->Option Value} {base:Heap} {k:Nat} {f:Addr} {name qual:Str} {params:Arguments} {body:List Stmt} {scope:Scope} {dV kV doc pm cdv ct oc:Value} {an od:Option Addr}
  {osl:Array (Option Value)} {N ps:List Str} {sp:Sp} (lk:K.lookup f=some ⟨oc,od,.func (R5 name qual params body scope dV kV doc pm an cdv ct),osl⟩) (hcd:t8 K cdv qual=true) (S:FnScope N ps scope)
  (len :∀vs H Q E,sp vs H Q E->vs.length=ps.length)
  (hbody :∀(A:Y1) (outer:List Env) (s:A0) (H:Hp) (vs:List V) (Q:VK) (E:XK),Room k (A.deeper (S3 qual scope s.heap.objs.size f cdv))->sp vs H Q E->
   ∃t,PSs (cxOf CX P w K mg base N qual scope f cdv A outer s H E) body t/\t { nx:=λ _ H'=>Q .non H',rt:=Q } (start N vs) H) :
  FnOk P w K mg base CX (k + 1) f (R5 name qual params body scope dV kV doc pm an cdv ct) ps sp:=by
 refine ⟨len,λ A outer s H R C vs Q E h c p r m=>?_⟩;have L:=len _ _ _ _ m;have KX:K.In s.heap:=c.mod.kin.keeps λ b o e=>(c.bs b o e).1;have B:s.heap.NoLimit:=c.mod.nolimit.keeps λ b o e=>(c.bs b o e).1;have F :∀y∈ps.zip C,scope.names.lookup y.1=some .local\/(scope.names.lookup y.1=some .cell/\((cellsFrom (s.heap.objs.size + 1) scope.names []).lookup y.1).isSome=true):=λ ⟨n,v⟩ hy=>by
  rcases S.par n (z8 hy).1 with q|q
  ·exact .inl q
  ·exact .inr ⟨q,j1c _ _ _ (.inl q)⟩
 refine codeAny_call_function h.depth (KX _ _ lk) rfl S.co S.gen rfl (PySem.W.codeRec_of KX hcd) (p _ _ _ _ ?_);refine wpAny_newFunctionEnv_cells S.kind F λ O z j x=>?_;subst z;refine ⟨B.keeps x.toInCall.keep,codeAny_func ?_⟩;obtain ⟨t,M,D⟩:=hbody A outer s H vs Q E (h.deeper _) m;have I:Inv (cxOf CX P w K mg base N qual scope f cdv A outer s H E) [] (start N vs) H j:=zg7 S h.hd c L r x;refine V2 (M [] j (start N vs) H _ I D) (λ G g a=>?_) λ e g a=>a;have l :∀{d:St} {H':Hp} {v:V} {u:Value},Inv (cxOf CX P w K mg base N qual scope f cdv A outer s H E) [] d H' g->RelV v u->Q v H'->CE outer P w H s Q u g:=
  λ {d H' v u} J i q=>⟨v,H',J.os,J.bare,J.base,J.hok,i,q⟩
 cases G with
 | ret u=>obtain ⟨v,d,H',J,i,q⟩:=a;exact l J i q
 | next=>obtain ⟨d,H',J,q⟩:=a;exact l (v:=V.non) (u:=X2) J rfl q
 | brk=>obtain ⟨_,_,_,q⟩:=a;exact i3 q
 | cont=>obtain ⟨_,_,_,q⟩:=a;exact i3 q
section
variable {X:Cx} {x:Str} {p pos:Pos} {e:Expr} {es:List Expr} {t:TA} {id T:String} {r:List V->Hp->VK->Prop}
noncomputable def tCB (r:List V->Hp->VK->Prop) (t:TA):TE:=λ σ H Q=>t σ H λ vs H1=>r vs H1 Q
theorem z0a (hc:CallR X (.builtin id) r) (hg:Gl X x) (hm:X.mg x=none) (hv:r6 x=some (.builtin id)) (ha:PA X (e :: es) t) (hn:x≠"__name__":=by decide) (hdb:(x == ("__debug__" : Str))=false:=by decide)
  (he:B1 (e :: es) X.env=(false,m3 e X.env) :: B1 es X.env:=by rfl) (hpl:(Q3 pos (B1 es X.env)).any (·.1)=false:=by rfl):PE X (.Call (.Name x p) (e :: es) [] pos) (tCB r t):=by
 intro a s σ H Q I h;refine U4 (ld_blt I hg hm hv ?_ hn hdb);exact PyProof.Rows.callWith_builtin1 (thn (ha pos a s σ H _ I h) λ c b ⟨vs,H1,I1,r1,q1⟩=>hc a b σ H1 vs c Q I1 r1 q1) he hpl
theorem z0t (hc:CallR X (.type T) r) (hg:Gl X x) (hm:X.mg x=none) (hv:r6 x=some (.type T)) (ha:PA X (e :: es) t) (hn:x≠"__name__":=by decide) (hdb:(x == ("__debug__" : Str))=false:=by decide)
  (he:B1 (e :: es) X.env=(false,m3 e X.env) :: B1 es X.env:=by rfl) (hpl:(Q3 pos (B1 es X.env)).any (·.1)=false:=by rfl):PE X (.Call (.Name x p) (e :: es) [] pos) (tCB r t):=by
 intro a s σ H Q I h;refine U4 (ld_blt I hg hm hv ?_ hn hdb);exact A3 (thn (ha pos a s σ H _ I h) λ c b ⟨vs,H1,I1,r1,q1⟩=>hc a b σ H1 vs c Q I1 r1 q1) he hpl
end
end L2
namespace HT
open PySem PyProof.Rows
section
variable {prog:Program} {w:W0} {A:Y1} {E:Value->A0->Prop} {s:A0}
theorem cat_tup {t b:Addr} {vs ws:List Value} {Q:Value->A0->Prop} (ht:IsTup s.heap t vs.toArray) (hb:IsTup s.heap b ws.toArray) (hv:vs≠[])
  (h1:ws=[]->Q (.ref t) s) (h2:ws≠[]->Q (.ref s.heap.objs.size) { s with heap:=s.heap.push { cls:=.type "tuple",data:=.seq (vs++ws).toArray } })
  (hsz:vs.length + ws.length<=sizeLine):V0 (E1 prog w) A (O4 .Add (.ref t) (.ref b)) Q E s:=by
 obtain ⟨⟨cls,l,data,i⟩,c,k,n,f⟩:=id ht;obtain ⟨⟨o,g,p,m⟩,a,j,h,d⟩:=id hb;simp only at k f j d;subst k f j d;have e:vs.toArray++ws.toArray=(vs++ws).toArray:=by simp
 by_cases hw:ws=[]
 ·exact concat_meets ⟨_,c,rfl⟩ ⟨_,a,rfl⟩ j1a seq_tuple_add N7 A7 (Z6 _ _)
   (tuple_addW1 t b vs.toArray ws.toArray n h l g i m (by simpa using hv) (by simp [hw])) ⟨c,a,h1 hw⟩
 ·refine concat_meets ⟨_,c,rfl⟩ ⟨_,a,rfl⟩ j1a seq_tuple_add N7 A7 (Z6 _ _)
   (tuple_addW2 t b vs.toArray ws.toArray n h l g i m (by simpa using hv) (by simpa using hw) (by rw [P0,P0];exact hsz)) ⟨c,a,?_⟩
  rw [e];exact h2 hw
noncomputable def sIx (n d:Nat):Option Int->Nat
 | none=>d
 | some v=>if v < 0 then (v + (n:Int)).toNat else min v.toNat n
theorem sIx_none (n d:Nat):sIx n d none=d:=rfl
theorem sIx_nat (n d k:Nat):sIx n d (some (k:Int))=min k n:=by show (if (k:Int) < 0 then ((k:Int) + (n:Int)).toNat else min (k:Int).toNat n)=min k n;rw [if_neg (by omega),Y5]
theorem sIx_le (n d:Nat) (hd:d<=n) (o:Option Int):sIx n d o<=n:=by
 cases o with
 | none=>exact hd
 | some v=>
  show (if v < 0 then (v + (n:Int)).toNat else min v.toNat n)<=n;by_cases hv:v < 0
  ·rw [if_pos hv];omega
  ·rw [if_neg hv];exact Nat.min_le_right _ _
theorem zix (v:Int) (n d:Nat):(if v < 0 then max (v + (n:Int)) 0 else min v (n:Int))=((sIx n d (some v):Nat):Int):=by
 show (if v < 0 then max (v + (n:Int)) 0 else min v (n:Int))=(((if v < 0 then (v + (n:Int)).toNat else min v.toNat n):Nat):Int);by_cases hv:v < 0
 ·simp only [if_pos hv];omega
 ·simp only [if_neg hv];omega
theorem zfk (lo hi:Option Int) (n:Nat):z6 lo hi 1 (n:Int)=(((sIx n 0 lo:Nat):Int),((sIx n n hi:Nat):Int)):=by
 have a:¬ ((1:Int) < 0):=by omega
 unfold z6;simp only [a,if_false];refine Prod.ext ?_ ?_
 ·cases lo with
  | none=>rfl
  | some v=>exact zix v n 0
 ·cases hi with
  | none=>rfl
  | some v=>exact zix v n n
theorem zfn (i j:Nat):Q4 (i:Int) (j:Int) 1=j - i:=by
 unfold Q4;have a:(1:Int) > 0:=by omega
 simp only [a,if_true,Int.ediv_one];split<;>omega
theorem z97 {v:Value} {o:Option Int} {Q:Option Int->A0->Prop} (p:X8 v o) (h:Q o s):V0 (E1 prog w) A (Builtin.Slice.slicePartIndex v) Q E s:=by
 cases p with
 | none=>exact slicePart_none h
 | int i t=>exact slicePart_int h
theorem z39 {sl:Addr} {vl vu:Value} {lo hi:Option Int} {n:Nat} {Q:Int×Int×Nat->A0->Prop} (hs:s.heap.IsSliceOf sl vl vu .none) (pl:X8 vl lo) (pu:X8 vu hi)
  (h:Q (((sIx n 0 lo:Nat):Int),1,sIx n n hi - sIx n 0 lo) s):V0 (E1 prog w) A (x9 (.ref sl) (E3 (n:Int))) Q E s:=by
 obtain ⟨d,b,c,a⟩:=id hs;unfold x9 Builtin.Slice.sliceFields;refine o0 (o0 (N6 b a (x:=vl) rfl (o0 (N6 b a (x:=vu) rfl (o0 (N6 b a (x:=.none) rfl (G0 ?_)))))));refine o0 (slicePart_none ?_);show V0 _ _ (if ((1:Int) == 0)=true then _ else _) _ _ s;rw [if_neg (by decide)];refine o0 (z97 pl (o0 (z97 pu (o0 (G0 ?_)))));show V0 _ _ (match z6 lo hi 1 (n:Int) with|(lo,hi)=>E3 (lo,(1:Int),Q4 lo hi 1)) _ _ s;rw [zfk lo hi n];show V0 _ _ (E3 (((sIx n 0 lo:Nat):Int),(1:Int),Q4 ((sIx n 0 lo:Nat):Int) ((sIx n n hi:Nat):Int) 1)) _ _ s;rw [zfn];exact G0 h
theorem zjp (xs:Array Value) (i k:Nat):((K1 k).filterMap λ (m:Nat)=>xs[((i:Int) + (m:Int) * 1).toNat]?).toArray=((xs.toList.drop i).take k).toArray:=by
 have e:(λ (m:Nat)=>xs[((i:Int) + (m:Int) * 1).toNat]?)=λ m=>xs[i + m]?:=by
  funext m;have:((i:Int) + (m:Int) * 1).toNat=i + m:=by omega
  rw [this]
 rw [e];have:=pick_run xs i k;rw [List.filterMap_map] at this;have a:((λ x=>xs[x]?) ∘ λ x=>i + x)=λ m=>xs[i + m]?:=rfl;rw [a] at this;rw [this]
theorem getItem_tuple_cut {t sl:Addr} {items:Array Value} {vl vu:Value} {lo hi:Option Int} {Q:Value->A0->Prop} (ht:IsTup s.heap t items) (hs:s.heap.IsSliceOf sl vl vu .none) (pl:X8 vl lo) (pu:X8 vu hi)
  (hw:¬ (sIx items.size 0 lo=0/\sIx items.size items.size hi=items.size))
  (h:Q (.ref s.heap.objs.size) { s with heap:=s.heap.push { cls:=.type "tuple",data:=.seq ((items.toList.drop (sIx items.size 0 lo)).take (sIx items.size items.size hi - sIx items.size 0 lo)).toArray } })
  (hsz:items.size<=sizeLine):V0 (E1 prog w) A (Z7 (.ref t) (.ref sl)) Q E s:=by
 have a:sizeOk (.seq ((items.toList.drop (sIx items.size 0 lo)).take (sIx items.size items.size hi - sIx items.size 0 lo)).toArray):=by show ((items.toList.drop (sIx items.size 0 lo)).take (sIx items.size items.size hi - sIx items.size 0 lo)).toArray.size<=sizeLine;rw [P0,X3,g6,T2];omega
 have k:sIx items.size items.size hi<=items.size:=sIx_le _ _ (B0 _) hi;obtain ⟨f,b,d,j⟩:=id hs;have e:s.TypeIs (.ref sl) "slice":=⟨f,b,d⟩
 unfold Z7
 try with_reducible refine i4 ?_
 first|refine o0 (G0 ?_)|skip
 refine o0 (wpAny_sequenceKey ht.typeIs (by decide) ?_);refine o0 (U3 (name:=R6 "__getitem__") ht.typeIs Z3
  (j3 Z3 ht.typeIs entry_tuple_getitem ?_ (args_tuple_getitem _ _)))
 show V0 _ _ (u9 (.ref t) >>= _) _ _ s;refine o0 (tupleItemsOf_ ht ?_);refine o0 (i7 e ?_);rw [if_pos (by decide)];refine o0 (z39 hs pl pu ?_);have c:¬ ((((sIx items.size 0 lo:Nat):Int) == 0 && (1:Int) == 1 && (sIx items.size items.size hi - sIx items.size 0 lo) == items.size)=true):=by intro q;rw [Y2,Y2] at q;have g:((sIx items.size 0 lo:Nat):Int)=0:=eq_of_beq q.1.1;have i:sIx items.size items.size hi - sIx items.size 0 lo=items.size:=eq_of_beq q.2;exact hw ⟨by omega,by omega⟩
 show V0 _ _ (if (((sIx items.size 0 lo:Nat):Int) == 0 && (1:Int) == 1 && (sIx items.size items.size hi - sIx items.size 0 lo) == items.size)=true then _ else _) _ _ s;rw [if_neg c,zjp];first
  | exact o0 (m:=Y4 _) (B3 (G0 ⟨_,rfl,G0 h⟩) a)
  | exact o0 (m:=Y4 _) (B3 (o0 (G0 (G0 ⟨_,rfl,G0 h⟩))) a)
  | exact o0 (o0 (m:=Y4 _) (B3 (G0 (G0 ⟨_,rfl,G0 h⟩)) a))
  | exact o0 (o0 (m:=Y4 _) (B3 (G0 ⟨_,rfl,G0 h⟩) a))
end
end HT
namespace L2
open PySem PySem.Spec PyProof.Rows
noncomputable abbrev TO:=St->Hp->(Option Int->Hp->Prop)->Prop
def PO (X:Cx) (e:Option Expr) (t:TO):Prop:=
 ∀(pins:List (Addr×Obj)) (s:A0) (σ:St) (H:Hp) (Q:Option Int->Hp->Prop),Inv X pins σ H s->t σ H Q->
  V0 (E1 X.prog X.w) X.A (evalPart e X.env) (λ u s'=>∃o H',Inv X pins σ H' s'/\X8 u o/\Q o H') X.xe s
noncomputable def zdr:TO:=λ _ H Q=>Q none H
noncomputable def tPart (t:TE):TO:=λ σ H Q=>t σ H λ x H1=>∃i,x=.int i/\Q (some i) H1
theorem za8 {ns:List Int} :∀{us:List Value},Vals (ns.map V.int) us->Y8 us ns:=by
 induction ns with
 | nil=>intro us r;rw [y4] at r;cases r;exact .nil
 | cons n ns ih=>
  intro us r;rw [J1] at r;cases r with
  | cons r1 r2=>obtain ⟨t,e⟩:=r1;subst e;exact .cons n t (ih r2)
section
variable {X:Cx} {e:Expr} {te:TE} {lo hi:Option Expr} {tl th:TO} {pos p2:Pos}
theorem z2r:PO X none zdr:=by intro a s σ H Q I h;rw [evalPart_none];exact G0 ⟨none,H,I,.none,h⟩
theorem z1u (h:PE X e te):PO X (some e) (tPart te):=by intro b s σ H Q I a;rw [evalPart_some];refine thn (h b s σ H _ I a) λ u c ⟨x,H1,I1,r1,q1⟩=>?_;obtain ⟨i,rfl,q⟩:=q1;obtain ⟨t,rfl⟩:=r1;exact ⟨some i,H1,I1,.int i t,q⟩
def SlR (X:Cx) (r:V->Option Int->Option Int->Hp->VK->Prop):Prop:=
 ∀(pins:List (Addr×Obj)) (s:A0) (σ:St) (H:Hp) (x:V) (v vl vu:Value) (lo hi:Option Int) (sl:Addr) (Q:VK),Inv X pins σ H s->RelV x v->s.heap.IsSliceOf sl vl vu .none->X8 vl lo->X8 vu hi->r x lo hi H Q->
  ∃T id,typeLookup (.type T) "__getitem__" = E3 (some (.builtin id))/\s.TypeIs v T/\V0 (E1 X.prog X.w) X.A (Z7 v (.ref sl)) (EP X pins σ Q) X.xe s
theorem SlR.or {r r':V->Option Int->Option Int->Hp->VK->Prop} (h:SlR X r) (h':SlR X r'):SlR X (λ x lo hi H Q=>r x lo hi H Q\/r' x lo hi H Q):=by
 intro f s σ H x v a b lo hi c Q I i g d e q;rcases q with q|q
 ·exact h f s σ H x v a b lo hi c Q I i g d e q
 ·exact h' f s σ H x v a b lo hi c Q I i g d e q
noncomputable def tSl (r:V->Option Int->Option Int->Hp->VK->Prop) (te:TE) (tl th:TO):TE:=λ σ H Q=>te σ H λ x H1=>tl σ H1 λ l H2=>th σ H2 λ u H3=>r x l u H3 Q
theorem z1g {r:V->Option Int->Option Int->Hp->VK->Prop} (hr:SlR X r) (he:PE X e te) (hl:PO X lo tl) (hu:PO X hi th):PE X (.Subscript e (.Slice lo hi none p2) pos) (tSl r te tl th):=by intro c s σ H Q I h;refine j3c (thn (he c s σ H _ I h) λ v g ⟨x,H1,I1,r1,q1⟩=>?_);refine wpAny_Slice (thn (hl c g σ H1 _ I1 q1) λ d m ⟨l,H2,I2,pl,q2⟩=>thn (hu c m σ H2 _ I2 q2) λ f a ⟨u,H3,I3,pu,q3⟩=>?_);rw [evalPart_none];refine G0 ?_;have i:Inv X c σ H3 { a with heap:=a.heap.push { cls:=.type "slice",data:=.fields #[d,f,.none] } }:=I3.kept (t':=a.toks) λ b o q=>F0 _ q;obtain ⟨T,id,k,n,j⟩:=hr c { a with heap:=a.heap.push { cls:=.type "slice",data:=.fields #[d,f,.none] } } σ H3 x v d f l u a.heap.objs.size Q i r1 (j0e ..) pl pu q3;show V0 (E1 X.prog X.w) X.A (Y9 e (.Slice lo hi none p2) v (.ref a.heap.objs.size)) (EP X c σ Q) X.xe { a with heap:=a.heap.push { cls:=.type "slice",data:=.fields #[d,f,.none] } };exact j36 (ops:=[.ref a.heap.objs.size,v]) n k j (by with_unfolding_all rfl)
noncomputable def cutV (xs:List V) (lo hi:Option Int):List V:=(xs.drop (HT.sIx xs.length 0 lo)).take (HT.sIx xs.length xs.length hi - HT.sIx xs.length 0 lo)
theorem z7r (xs:List V) (lo hi:Option Int):(cutV xs lo hi).length<=xs.length:=by unfold cutV;rw [X3,g6];omega
def rSlT (K:d0):V->Option Int->Option Int->Hp->VK->Prop:=λ x lo hi H Q=>∃a xs,x=.ref a/\SqT K H a xs/\
 ¬ (HT.sIx xs.length 0 lo=0/\HT.sIx xs.length xs.length hi=xs.length)/\∀p,H p=none->Q (.ref p) (upd H p (.tup (cutV xs lo hi)))
theorem sl_tup:SlR X (rSlT X.K):=by
 intro A s σ H x v u w d e y Q I k m j l h;obtain ⟨a,c,rfl,p,t,q⟩:=h;cases k;obtain ⟨n,r,i,g⟩:=I.tuple p;have f:n.toArray.size=c.length:=by rw [P0];exact r.length.symm
 refine ⟨"tuple",_,PyProof.Rows.slot_tuple_getitem.lookup,i.typeIs,?_⟩;refine HT.getItem_tuple_cut i m j l (by rw [f];exact t) ?_ (by rw [f];exact g);rw [f];refine ⟨.ref s.heap.objs.size,_,I.laid (t':=s.toks) (o:=.tup (cutV c d e)) (λ b z q=>F0 _ q) (B0 _) ?_,rfl,q _ (I.hok.fresh (B0 _))⟩;exact ⟨D0 (z7r c d e) g,_,(r.drop (HT.sIx c.length 0 d)).take (HT.sIx c.length c.length e - HT.sIx c.length 0 d),IsTupN.new _ _⟩
noncomputable def rCatT (K:d0):R2:=λ x y H Q=>∃a b xs ys,x=.ref a/\y=.ref b/\SqT K H a xs/\SqT K H b ys/\xs≠[]/\xs.length + ys.length<=sizeLine/\
 (ys=[]->Q (.ref a) H)/\(ys≠[]->∀p,H p=none->Q (.ref p) (upd H p (.tup (xs++ys))))
theorem Vals.nil_iff {xs:List V} {us:List Value} (r:Vals xs us):us=[]↔xs=[]:=by
 cases r with
 | nil=>simp
 | cons _ _=>simp
theorem z9d:OpR X (O4 .Add) (rCatT X.K):=by intro D s σ H x y v u Q I i l h;obtain ⟨a,b,m,j,rfl,rfl,f,g,p,e,n,r⟩:=h;cases i;cases l;obtain ⟨C,d,t,_⟩:=I.tuple f;obtain ⟨A,c,k,_⟩:=I.tuple g;refine HT.cat_tup t k (λ z=>p (d.nil_iff.mp z)) (λ z=>⟨.ref a,H,I,rfl,n (c.nil_iff.mp z)⟩) (λ z=>?_) (by rw [<-d.length,<-c.length];exact e);refine ⟨.ref s.heap.objs.size,_,I.laid (t':=s.toks) (o:=.tup (m++j)) (λ b B q=>F0 _ q) (B0 _) ?_,rfl,r (λ w=>z (c.nil_iff.mpr w)) _ (I.hok.fresh (B0 _))⟩;exact ⟨by rw [M0];exact e,_,d.append c,IsTupN.new _ _⟩
end
noncomputable def ixN (n:Nat) (i:Int):Option Nat:=if 0<=i then (if i < n then some i.toNat else none) else if -(n:Int)<=i then some (i + n).toNat else none
noncomputable def atI {α:Type} (xs:List α) (i:Int):Option α:=(ixN xs.length i).bind λ j=>xs[j]?
theorem zi7 {n:Nat} {i:Int} {j:Nat} (h:ixN n i=some j):seqIndex? i n=some j/\j < n/\-(n:Int)<=i/\i < n:=by
 unfold ixN at h;by_cases h0:0<=i
 ·rw [if_pos h0] at h;by_cases h1:i < n
  ·rw [if_pos h1] at h;have e:i.toNat=j:=S1 h;exact ⟨by rw [seqIndex_of h0 h1,e],by omega,by omega,h1⟩
  ·rw [if_neg h1] at h;cases h
 ·rw [if_neg h0] at h;by_cases h1:-(n:Int)<=i
  ·rw [if_pos h1] at h;have e:(i + n).toNat=j:=S1 h;exact ⟨by rw [seqIndex_neg (by omega) h1,e],by omega,h1,by omega⟩
  ·rw [if_neg h1] at h;cases h
theorem zfx {α:Type} {xs:List α} {i:Int} {v:α} (h:atI xs i=some v) :∃j,seqIndex? i xs.length=some j/\xs[j]? = some v/\j < xs.length/\-(xs.length:Int)<=i/\i < xs.length:=by
 unfold atI at h;cases e:ixN xs.length i with
 | none=>rw [e] at h;cases h
 | some j=>rw [e] at h;obtain ⟨b,c,a,d⟩:=zi7 e;exact ⟨j,b,h,c,a,d⟩
theorem z07 {α:Type} {xs:List α} {j:Nat} {v:α} (h:xs[j]? = some v):atI xs (j:Int)=some v:=by
 have a:j < xs.length:=(List.getElem?_eq_some_iff.mp h).1;have e:ixN xs.length (j:Int)=some j:=by unfold ixN;rw [if_pos (by omega),if_pos (by omega)];simp
 unfold atI;rw [e];exact h
def zia (b:Expr):Prop:=∀o i,j1g b false o i=operate [o,i] (Z7 o i)
def IxR (X:Cx) (r:R2):Prop:=
 ∀(value slice:Expr) (pins:List (Addr×Obj)) (s:A0) (σ:St) (H:Hp) (x y:V) (v u:Value) (Q:VK),Inv X pins σ H s->RelV x v->RelV y u->r x y H Q->
  j1g slice false v u=operate [v,u] (Z7 v u)->V0 (E1 X.prog X.w) X.A (Y9 value slice v u) (EP X pins σ Q) X.xe s
def MtR (X:Cx) (id:String) (r:V->List V->Hp->VK->Prop):Prop:=
 ∀(pins:List (Addr×Obj)) (s:A0) (σ:St) (H:Hp) (x:V) (xs:List V) (v:Value) (us:List Value) (Q:VK),Inv X pins σ H s->RelV x v->Vals xs us->r x xs H Q->
  V0 (E1 X.prog X.w) X.A (call (.builtin id) (v :: us)) (EP X pins σ Q) X.xe s
section
variable {X:Cx} {a b:Expr} {ta tb:TE} {pos:Pos}
theorem IxR.or {r r':R2} (h:IxR X r) (h':IxR X r'):IxR X (λ x y H Q=>r x y H Q\/r' x y H Q):=by
 intro c a d s σ H x y v u Q I f b q e;rcases q with q|q
 ·exact h c a d s σ H x y v u Q I f b q e
 ·exact h' c a d s σ H x y v u Q I f b q e
theorem pe_ix {r:R2} (hr:IxR X r) (ha:PE X a ta) (hb:PE X b tb) (hs:zia b):PE X (.Subscript a b pos) (tOp r ta tb):=by intro f s σ H Q I h;exact j3c (binT ha hb I h λ v u i x y d c g e q=>hr a b f i σ d x y v u Q c g e q (hs _ _))
noncomputable def rIxL (K:d0):R2:=λ x y H Q=>∃p xs i v,x=.ref p/\y=.int i/\SqL K H p xs/\atI xs i=some v/\Q v H
noncomputable def rIxT (K:d0):R2:=λ x y H Q=>∃p xs i v,x=.ref p/\y=.int i/\SqT K H p xs/\atI xs i=some v/\Q v H
noncomputable def rIxS:R2:=λ x y H Q=>∃z i c,x=.str z/\y=.int i/\z.length<=sizeLine/\atI z.cps.toList i=some c/\Q (.str ⟨#[c]⟩) H
theorem ix_list:IxR X (rIxL X.K):=by
 intro O N g s σ H x y v u Q I m D h d;obtain ⟨p,L,i,z,rfl,rfl,E,o,q⟩:=h;cases m;obtain ⟨t,rfl⟩:=D;obtain ⟨C,r,b,M⟩:=I.list E;obtain ⟨j,a,A,G,n,l⟩:=zfx o;obtain ⟨w,f,k⟩:=r.get A;have F:=r.length;have J:=line63;have e:EP X g σ Q w s:=⟨z,H,I,k,q⟩
 by_cases h0:0<=i
 ·have c:i.toNat=j:=by rw [seqIndex_of h0 l] at a;exact S1 a
  exact item_listR b.isList h0 (by omega) (by rw [c];simpa using f) e d
 ·have c:(i + (C.toArray.size:Int)).toNat=j:=by rw [seqIndex_neg (by omega) n] at a;rw [P0,<-F];exact S1 a
  exact subscriptTail_builtinR (x:=w) b.isList.typeIs slot_list_getitem.lookup
   (wpAny_getItem_list_neg (Q:=λ r B=>r=w/\EP X g σ Q r B) b.isList (by omega) (by rw [P0]<;>omega) (by omega) (by rw [c];simpa using f) ⟨rfl,e⟩) d
theorem ix_tup:IxR X (rIxT X.K):=by
 intro N M b s σ H x y v u Q I d l h k;obtain ⟨p,J,i,z,rfl,rfl,m,e,q⟩:=h;cases d;obtain ⟨t,rfl⟩:=l;obtain ⟨F,r,a,L⟩:=I.tuple m;obtain ⟨j,A,f,E,D,C⟩:=zfx e;obtain ⟨w,o,c⟩:=r.get f;have B:=r.length;have G:=line63;have n:EP X b σ Q w s:=⟨z,H,I,c,q⟩
 exact subscriptTail_builtinR (x:=w) a.typeIs slot_tuple_getitem.lookup
  (getItem_tuple (j:=j) (Q:=λ r g=>r=w/\EP X b σ Q r g) a (by omega) (by omega) (by rw [P0,<-B];exact A) (by simpa using o) ⟨rfl,n⟩) k
theorem ix_str:IxR X rIxS:=by
 intro C B D s σ H x y v u Q I d n h l;obtain ⟨z,i,c,rfl,rfl,A,f,q⟩:=h;obtain ⟨t,rfl⟩:=d;obtain ⟨p,rfl⟩:=n;obtain ⟨j,a,g,r,e,b⟩:=zfx f;have o:z.cps.toList.length=z.length:=by simp [Str.length]
 rw [o] at a e b;have w:=line63;exact j36 (typeIs_str s z t) slot_str_getitem.lookup (getItem_str (c:=c) (by have m:decide (i < -(2 ^ 63:Int))=false:=decide_eq_false (by omega);have k:decide (i ≥ 2 ^ 63)=false:=decide_eq_false (by omega);rw [m,k,Bool.or_false]) (by rw [a];simpa using g) ⟨.str ⟨#[c]⟩,H,I.tok _,⟨_,rfl⟩,q⟩) l
noncomputable def rIx (K:d0):R2:=λ x y H Q=>rIxL K x y H Q\/rIxT K x y H Q\/rIxS x y H Q
theorem ix_seq:IxR X (rIx X.K):=ix_list.or (ix_tup.or ix_str)
theorem zfz (its:List Value) (n j:Nat) (u:Value):C5 (·.setIfInBounds j u) { cls:=.type "list",data:=.seq its.toArray n }={ cls:=.type "list",data:=.seq (its.set j u).toArray n }:=by simp [C5]
theorem Inv.lst {pins:List (Addr×Obj)} {σ:St} {H:Hp} {s:A0} {p:Addr} {xs:List V} (I:Inv X pins σ H s) (h:H p=some (.lst xs)) :
  ∃(its:List Value) (n:Nat),Vals xs its/\s.heap.get? p=some { cls:=.type "list",data:=.seq its.toArray n }/\xs.length<=sizeLine:=by
 obtain ⟨z,its,n,r,e⟩:=I.hok p _ h;exact ⟨its,n,r,e,z⟩
theorem Inv.lstUpd {pins:List (Addr×Obj)} {σ:St} {H:Hp} {s:A0} {p:Addr} {xs ys:List V} {its its':List Value} {n n':Nat} {f:Obj->Obj} (I:Inv X pins σ H s) (h:H p=some (.lst xs))
  (ho:s.heap.get? p=some { cls:=.type "list",data:=.seq its.toArray n }) (hf:f { cls:=.type "list",data:=.seq its.toArray n }={ cls:=.type "list",data:=.seq its'.toArray n' }) (r:Vals ys its') (hz:ys.length<=sizeLine) (t:Nat) :
  Inv X pins σ (upd H p (.lst ys)) { s with heap:=s.heap.update p f,toks:=t }:=by
 have e:(s.heap.update p f).get? p=some { cls:=.type "list",data:=.seq its'.toArray n' }:=by rw [E8 f ho (by rw [hf]<;>rfl),hf]
 refine I.write (x:=p) (e:=p) (by rw [h];trivial) (.inl rfl) (λ b u a q=>(d8 _ _ (V3 a)).trans q) ⟨_,e⟩ ?_;exact ⟨hz,its',n',r,e⟩
def rSetL:V->V->V->Hp->(Hp->Prop)->Prop:=λ o i v H Q=>∃p xs k j,o=.ref p/\i=.int k/\H p=some (.lst xs)/\ixN xs.length k=some j/\Q (upd H p (.lst (xs.set j v)))
theorem z5a:PSet X rSetL:=by
 intro B s σ H o i v G D u Q I z w y h;obtain ⟨p,x,k,j,rfl,rfl,e,C,q⟩:=h;cases z;obtain ⟨t,rfl⟩:=w;obtain ⟨l,n,r,b,A⟩:=I.lst e;obtain ⟨a,E,g,f⟩:=zi7 C;have c:=r.length;have F:=line63;have m:Inv X B σ (upd H p (.lst (x.set j v))) { s with heap:=s.heap.update p (C5 (·.setIfInBounds j u)) }:=
  I.lstUpd e b (zfz l n j u) (r.set y j) (by rw [j0a];exact A) s.toks
 by_cases h0:0<=k
 ·have d:k.toNat=j:=by rw [seqIndex_of h0 f] at a;exact S1 a
  exact PySem.W.ki_setAt b h0 (by omega) (by rw [P0,<-c];exact f) (by rw [d];exact ⟨_,m,q⟩)
 ·have d:(k + (l.toArray.size:Int)).toNat=j:=by rw [seqIndex_neg (by omega) g] at a;rw [P0,<-c];exact S1 a
  exact PySem.W.ki_setBack b (by omega) (by rw [P0,<-c];exact g) (by omega) (by rw [d];exact ⟨_,m,q⟩)
theorem zax (lo hi:Option Int) (n:Nat):(U2 lo hi none n).1=((HT.sIx n 0 lo:Nat):Int)/\(U2 lo hi none n).2.1=((HT.sIx n n hi:Nat):Int)/\(U2 lo hi none n).2.2=1:=by
 refine ⟨?_,?_,rfl⟩
 ·cases lo with
  | none=>simp [U2,HT.sIx]
  | some i=>
   simp only [U2,HT.sIx,Option.getD_none,show (1:Int) > 0 by decide,if_true];by_cases h:i < 0
   ·simp only [h,if_true]<;>omega
   ·simp only [h,if_false]<;>omega
 ·cases hi with
  | none=>simp [U2,HT.sIx]
  | some i=>
   simp only [U2,HT.sIx,Option.getD_none,show (1:Int) > 0 by decide,if_true];by_cases h:i < 0
   ·simp only [h,if_true]<;>omega
   ·simp only [h,if_false]<;>omega
theorem z98 (its:List Value) (lo hi:Option Int):slicePick its.toArray lo hi none=((its.drop (HT.sIx its.length 0 lo)).take (HT.sIx its.length its.length hi - HT.sIx its.length 0 lo)).toArray:=by obtain ⟨b,c,a⟩:=zax lo hi its.toArray.size;unfold slicePick;rw [b,c,a];simp only [sliceRange_one,pick_run,P0]<;>rfl
def rSlL (K:d0):V->Option Int->Option Int->Hp->VK->Prop:=λ x lo hi H Q=>∃a xs,x=.ref a/\SqL K H a xs/\∀p,H p=none->Q (.ref p) (upd H p (.lst (cutV xs lo hi)))
theorem sl_list:SlR X (rSlL X.K):=by intro z s σ H x v p t d e u Q I i k g j h;obtain ⟨a,c,rfl,l,q⟩:=h;cases i;obtain ⟨y,r,f,n⟩:=I.list l;have m:=r.length;refine ⟨"list",_,slot_list_getitem.lookup,f.isList.typeIs,?_⟩;refine wpAny_getItem_list_slice f.isList k g j .none (by simp) ?_ (by rw [P0]<;>omega);rw [z98,<-m];refine ⟨.ref s.heap.objs.size,_,I.laid (t':=s.toks) (o:=.lst (cutV c d e)) (λ b w q=>F0 _ q) (B0 _) ?_,rfl,q _ (I.hok.fresh (B0 _))⟩;exact ⟨D0 (z7r c d e) n,_,0,(r.drop (HT.sIx c.length 0 d)).take (HT.sIx c.length c.length e - HT.sIx c.length 0 d),A1 _ rfl⟩
noncomputable def flatV:V->Bool
 | .non=>true
 | .bl _=>true
 | .int _=>true
 | .str _=>true
 | _=>false
noncomputable def eqV:V->V->Bool
 | .non,.non=>true
 | .bl a,.bl b=>a == b
 | .bl a,.int b=>(if a then 1 else 0) == b
 | .int a,.bl b=>a == (if b then 1 else 0)
 | .int a,.int b=>a == b
 | .str a,.str b=>a == b
 | _,_=>false
theorem eqAt_V {A:Y1} {s:A0} {y x:V} {u v:Value} (ry:RelV y u) (rx:RelV x v) (fy:flatV y=true) (fx:flatV x=true):SeqAt.EqAt A s u v (eqV y x):=by
 cases y with
 | non=>
  cases ry;cases x with
  | non=>cases rx;exact SeqAt.EqAt.same _
  | bl b=>cases rx;exact SeqAt.EqAt.none_bool b
  | int b=>obtain ⟨t,rfl⟩:=rx;exact SeqAt.EqAt.none_int b t
  | str b=>obtain ⟨t,rfl⟩:=rx;exact SeqAt.EqAt.none_str b t
  | _=>exact absurd (show false=true from fx) O0
 | bl a=>
  cases ry;cases x with
  | non=>cases rx;exact SeqAt.EqAt.bool_none a
  | bl b=>cases rx;exact SeqAt.EqAt.bool_bool a b
  | int b=>obtain ⟨t,rfl⟩:=rx;exact SeqAt.EqAt.bool_int a b t
  | str b=>obtain ⟨t,rfl⟩:=rx;exact SeqAt.EqAt.bool_str a b t
  | _=>exact absurd (show false=true from fx) O0
 | int a=>
  obtain ⟨c,rfl⟩:=ry;cases x with
  | non=>cases rx;exact SeqAt.EqAt.int_none a c
  | bl b=>cases rx;exact SeqAt.EqAt.int_bool a c b
  | int b=>obtain ⟨t,rfl⟩:=rx;exact SeqAt.EqAt.int_int a c b t
  | str b=>obtain ⟨t,rfl⟩:=rx;exact j1j a c b t
  | _=>exact absurd (show false=true from fx) O0
 | str a=>
  obtain ⟨c,rfl⟩:=ry;cases x with
  | non=>cases rx;exact SeqAt.EqAt.str_none a c
  | bl b=>cases rx;exact SeqAt.EqAt.str_bool a c b
  | int b=>obtain ⟨t,rfl⟩:=rx;exact j1i a c b t
  | str b=>obtain ⟨t,rfl⟩:=rx;exact j1h a c b t
  | _=>exact absurd (show false=true from fx) O0
 | _=>exact absurd (show false=true from fy) O0
noncomputable def eqU (x:V) (u:Value):Bool:=match u with
 | .none=>eqV .non x
 | .bool b=>eqV (.bl b) x
 | .int i _=>eqV (.int i) x
 | .str z _=>eqV (.str z) x
 | _=>false
theorem eqU_of {x y:V} {u:Value} (r:RelV y u) (f:flatV y=true):eqU x u=eqV y x:=by
 cases y with
 | non=>cases r;rfl
 | bl b=>cases r;rfl
 | int i=>obtain ⟨t,rfl⟩:=r;rfl
 | str z=>obtain ⟨t,rfl⟩:=r;rfl
 | _=>exact absurd (show false=true from f) O0
theorem z9u {x:V} :∀{xs:List V} {us:List Value},Vals xs us->xs.all flatV=true->us.any (eqU x)=xs.any λ y=>eqV y x
 | _,_,.nil,_=>rfl
 | y :: xs,u :: us,.cons r t,f=>by rw [List.all_cons,Y2] at f;rw [F7,F7,eqU_of r f.1,z9u t f.2]
theorem z6r {A:Y1} {s:A0} {x:V} {v:Value} (rx:RelV x v) (fx:flatV x=true) :∀{xs:List V} {us:List Value},Vals xs us->xs.all flatV=true->∀u∈us,SeqAt.EqAt A s u v (eqU x u)
 | _,_,.nil,_=>λ u a=>by cases a
 | y :: xs,u :: us,.cons r t,f=>λ b a=>by
  rw [List.all_cons,Y2] at f;rcases List.mem_cons.mp a with rfl|a
  ·rw [eqU_of r f.1];exact eqAt_V r rx f.1 fx
  ·exact z6r rx fx t f.2 b a
noncomputable def inV (x:V) (xs:List V):Bool:=xs.any λ y=>eqV y x
noncomputable def rIn (K:d0) (neg:Bool):R2:=λ x y H Q=>∃p xs,y=.ref p/\(SqL K H p xs\/SqT K H p xs)/\flatV x=true/\xs.all flatV=true/\Q (.bl (if neg then !inV x xs else inV x xs)) H
theorem z1p:OpR X (N2 .In) (rIn X.K false):=by
 intro k s σ H x y v u Q I e g h;obtain ⟨p,j,rfl,b,f,fs,q⟩:=h;cases g;rcases b with b|b
 ·obtain ⟨a,r,c,i⟩:=I.list b;refine SeqAt.in_listAt (eqU x) c.isList (λ w d=>z6r e f r fs w (by simpa using d)) ⟨.bl _,H,I,rfl,?_⟩;rw [show a.toArray.any (eqU x)=a.any (eqU x) by simp,z9u r fs];exact q
 ·obtain ⟨a,r,c,i⟩:=I.tuple b;refine SeqAt.in_tupleAt (eqU x) c (λ w d=>z6r e f r fs w (by simpa using d)) ⟨.bl _,H,I,rfl,?_⟩;rw [show a.toArray.any (eqU x)=a.any (eqU x) by simp,z9u r fs];exact q
theorem z3x:OpR X (N2 .NotIn) (rIn X.K true):=by
 intro k s σ H x y v u Q I e g h;obtain ⟨p,j,rfl,b,f,fs,q⟩:=h;cases g;rcases b with b|b
 ·obtain ⟨a,r,c,i⟩:=I.list b;refine SeqAt.notIn_listAt (eqU x) c.isList (λ w d=>z6r e f r fs w (by simpa using d)) ⟨.bl _,H,I,rfl,?_⟩;rw [show a.toArray.any (eqU x)=a.any (eqU x) by simp,z9u r fs];exact q
 ·obtain ⟨a,r,c,i⟩:=I.tuple b;refine SeqAt.notIn_tupleAt (eqU x) c (λ w d=>z6r e f r fs w (by simpa using d)) ⟨.bl _,H,I,rfl,?_⟩;rw [show a.toArray.any (eqU x)=a.any (eqU x) by simp,z9u r fs];exact q
theorem call_len_seq:CallR X (.builtin "len") (λ xs H Q=>∃p ys,xs=[.ref p]/\(SqL X.K H p ys\/SqT X.K H p ys)/\Q (.int ys.length) H):=by
 intro k s σ H xs i Q I r h;obtain ⟨p,ys,rfl,a,q⟩:=h;obtain ⟨u,rfl,f⟩:=vals1 r;cases f;have j:=line63;rcases a with a|a
 ·obtain ⟨g,c,d,e⟩:=I.list a;have b:=c.length;exact Calls.call_len_list d.isList (by simp only [P0]<;>omega) ⟨.int ys.length,H,I.tok _,⟨s.toks + 1,by rw [P0,b]⟩,q⟩
 ·obtain ⟨g,c,d,e⟩:=I.tuple a;have b:=c.length;exact len_tuple d (by simp only [P0]<;>omega) ⟨.int ys.length,H,I.tok _,⟨s.toks + 1,by rw [P0,b]⟩,q⟩
theorem zbo:CallR X (.builtin "len") (λ xs H Q=>∃z,xs=[.str z]/\z.length<=sizeLine/\Q (.int z.length) H):=by intro d s σ H xs a Q I r h;obtain ⟨z,rfl,b,q⟩:=h;obtain ⟨u,rfl,t,rfl⟩:=vals1 r;have c:=line63;exact len_str (by omega) ⟨.int z.length,H,I.tok _,⟨_,rfl⟩,q⟩
theorem CallR.or {f:Value} {r r':List V->Hp->VK->Prop} (h:CallR X f r) (h':CallR X f r'):CallR X f (λ xs H Q=>r xs H Q\/r' xs H Q):=by
 intro c s σ H xs a Q I b q;rcases q with q|q
 ·exact h c s σ H xs a Q I b q
 ·exact h' c s σ H xs a Q I b q
theorem z0k:CallR X (.type "tuple") (λ xs H Q=>∃p ys,xs=[.ref p]/\((SqL X.K H p ys/\∀l,H l=none->Q (.ref l) (upd H l (.tup ys)))\/(SqT X.K H p ys/\Q (.ref p) H))):=by
 intro k s σ H xs v Q I r h;obtain ⟨p,ys,rfl,h⟩:=h;obtain ⟨u,rfl,m⟩:=vals1 r;cases m;rcases h with ⟨g,q⟩|⟨g,q⟩
 ·obtain ⟨f,c,d,j⟩:=I.list g;have x:=c.length;refine call_tuple_list d.isList (λ a n=>?_) (by simp only [P0]<;>omega);have i:Inv X k σ H { s with heap:=a }:=I.kept (t':=s.toks) n;have t:Inv X k σ (upd H a.objs.size (.tup ys)) { s with heap:=a.push { cls:=.type "tuple",data:=.seq f.toArray } }:=
   i.laid (t':=s.toks) (λ b o e=>F0 _ e) (B0 _) (show ObjOk X.prog X.w _ _ _ (.tup ys) from ⟨j,f,c,IsTupN.new _ _⟩)
  exact ⟨.ref a.objs.size,_,t,rfl,q _ (i.hok.fresh (B0 _))⟩
 ·obtain ⟨f,c,d,j⟩:=I.tuple g;exact call_tuple_same d ⟨.ref p,H,I,rfl,q⟩
def tyV (K:d0) (T:String) (x:V) (H:Hp):Prop:=match x with
 | .str _=>T = "str"
 | .int _=>T = "int"
 | .ref p=>(T = "list"/\∃xs,SqL K H p xs)\/(T = "tuple"/\∃o,K.lookup p=some o/\o.cls=.type "tuple"/\o.dict=none)\/
   (T = "dict"/\((∃kvs,H p=some (.dK kvs))\/∃kvs,H p=some (.dT kvs)))\/(T = "set"/\∃S n,H p=some (.set S n))
 | _=>False
theorem tyV_is {pins:List (Addr×Obj)} {σ:St} {H:Hp} {s:A0} {T:String} {x:V} {v:Value} (I:Inv X pins σ H s) (r:RelV x v) (ty:tyV X.K T x H) :
  s.TypeIs v T/\∀a,v=.ref a->∃ob,s.heap.get? a=some ob/\ob.dict=none:=by
 cases x with
 | str z=>obtain ⟨t,rfl⟩:=r;cases (show T = "str" from ty);exact ⟨typeIs_str s z t,λ _ e=>nomatch e⟩
 | int i=>obtain ⟨t,rfl⟩:=r;cases (show T = "int" from ty);exact ⟨typeIs_int s i t,λ _ e=>nomatch e⟩
 | ref p=>
  cases r;rcases ty with ⟨rfl,l,k⟩|⟨rfl,o,b,hc,f⟩|⟨rfl,b⟩|⟨rfl,S,n,b⟩
  ·obtain ⟨m,_,h,_⟩:=I.list k;refine ⟨h.isList.typeIs,λ a e=>?_⟩;cases e;obtain ⟨o,n,e,c,f,_⟩:=h;exact ⟨o,e,f⟩
  ·refine ⟨⟨o,I.kIn p o b,hc⟩,λ a e=>?_⟩;cases e;exact ⟨o,I.kIn _ o b,f⟩
  ·have z :∃o,s.heap.get? p=some o/\o.ExactDict:=by
    rcases b with ⟨j,b⟩|⟨j,b⟩
    ·obtain ⟨_,_,_,_,o,_,_,e,d,_⟩:=I.hok p _ b;exact ⟨o,e,d⟩
    ·obtain ⟨_,_,_,_,o,_,_,e,d,_⟩:=I.hok p _ b;exact ⟨o,e,d⟩
   obtain ⟨o,e,d⟩:=z;refine ⟨⟨o,e,d.1⟩,λ a g=>?_⟩;cases g;exact ⟨o,e,d.2.1⟩
  ·obtain ⟨o,_,_,_,e,d,_⟩:=I.hok p _ b;refine ⟨⟨o,e,d.1⟩,λ a g=>?_⟩;cases g;exact ⟨o,e,d.2.1⟩
 | _=>exact i3 ty
noncomputable def tBM (K:d0) (T:String) (r:V->List V->Hp->VK->Prop) (to:TE) (t:TA):TE:=λ σ H Q=>to σ H λ x H1=>tyV K T x H1/\t σ H1 λ xs H2=>r x xs H2 Q
variable {o e:Expr} {es:List Expr} {to:TE} {t:TA} {name:Str} {apos cpos:Pos} {T id:String} {r:V->List V->Hp->VK->Prop}
theorem pe_bm (pa:PlainAttrs T) (slot:Slot T name id) (hty:typeOf (.builtin id)=E3 (.type "method_descriptor")) (hm:MtR X id r) (ho:PE X o to) (ha:PA X (e :: es) t)
  (hbase:G4 o name X.env (m3 o X.env)=m3 o X.env:=by rfl)
  (hfew:((Q3 cpos (B1 (e :: es) X.env)).all (λ x=>!x.1) && (K8 cpos (c6 [] X.env)).all (λ x=>x.1.isSome)
   && decide ((e :: es).length + ([]:List N5).length + (if ([]:List N5).isEmpty then 0 else 1) < 30))=true:=by rfl)
  (hline:(apos.endLine == cpos.line)=true:=by rfl) (hs:B1 (e :: es) X.env=(false,m3 e X.env) :: B1 es X.env:=by rfl) (hplain:(Q3 cpos (B1 es X.env)).any (·.1)=false:=by rfl) :
  PE X (.Call (.Attribute o name apos) (e :: es) [] cpos) (tBM X.K T r to t):=by
 intro a s σ H Q I h;refine wpAny_Call_method_late hbase hfew hline rfl (thn (ho a s σ H _ I h) λ v c ⟨x,H1,I1,r1,ty,q1⟩=>?_);obtain ⟨g,f⟩:=tyV_is I1 r1 ty;refine ⟨T,id,pa,slot,hty,g,f,?_⟩;have b:=ha cpos a c σ H1 _ I1 q1;rw [hs] at b⊢;refine W7 (by show (false || (Q3 cpos (B1 es X.env)).any (·.1))=false;rw [hplain]<;>rfl) (y6 ?_);exact thn b λ d i ⟨vs,H2,I2,r2,q2⟩=>hm a i σ H2 x vs v d Q I2 r1 r2 q2
end
def MtM (X:Cx) (id:String) (r:V->List V->Hp->VK->Prop):Prop:=
 ∀(pins:List (Addr×Obj)) (s:A0) (σ:St) (H:Hp) (x:V) (xs:List V) (v:Value) (us:List Value) (Q:VK),Inv X pins σ H s->RelV x v->Vals xs us->r x xs H Q->
  V0 (E1 X.prog X.w) X.A (call (.builtin id) (v :: us)) (EP X pins σ Q) X.xe s
theorem Vals.one :∀{x:V} {us:List Value},Vals [x] us->∃u,us=[u]/\RelV x u
 | _,_,.cons r .nil=>⟨_,rfl,r⟩
section
variable {X:Cx} {pins:List (Addr×Obj)} {σ:St} {H:Hp} {s:A0} {l b:Addr} {xs ys zs:List V}
theorem Inv.lset {its its':List Value} {n:Nat} {f:Array Value->Array Value} {t':Nat} (I:Inv X pins σ H s) (hH:H l=some (.lst xs))
  (e:s.heap.get? l=some { cls:=.type "list",data:=.seq its.toArray n }) (hf:f its.toArray=its'.toArray) (hv:Vals ys its') (hz:ys.length<=sizeLine) :
  Inv X pins σ (upd H l (.lst ys)) { s with heap:=s.heap.update l (C5 f),toks:=t' }:=by
 have q:=PySem.IsL.update e f;rw [hf] at q;refine I.write (x:=l) (e:=l) (by rw [hH];exact trivial) (.inl rfl) (λ c u a b=>(d8 s.heap (C5 f) (V3 a)).trans b) ⟨_,q⟩ ?_;exact ⟨hz,its',_,hv,q⟩
theorem Inv.lnew {its:List Value} {t':Nat} (I:Inv X pins σ H s) (hv:Vals ys its) (hz:ys.length<=sizeLine) :
  Inv X pins σ (upd H s.heap.objs.size (.lst ys)) { s with heap:=s.heap.push { cls:=.type "list",data:=.seq its.toArray },toks:=t' }:=
 I.laid (λ _ _ q=>F0 _ q) (B0 _) ⟨hz,its,0,hv,A1 _ rfl⟩
theorem Inv.fresh (I:Inv X pins σ H s):H s.heap.objs.size=none:=I.hok.fresh (B0 _)
theorem Inv.lstM (I:Inv X pins σ H s) (hH:H l=some (.lst xs)):xs.length<=sizeLine/\∃(its:List Value) (n:Nat),Vals xs its/\xs.length=its.length/\s.heap.get? l=some { cls:=.type "list",data:=.seq its.toArray n }:=by obtain ⟨z,its,n,r,e⟩:=I.hok l _ hH;exact ⟨z,its,n,r,r.length,e⟩
theorem zjg {n:Nat} (h:n<=sizeLine):E6 n=false:=by unfold E6;exact decide_eq_false (by omega)
end
section
variable {X:Cx}
def zew:V->List V->Hp->VK->Prop:=λ x vs H Q=>∃l xs y,x=.ref l/\vs=[y]/\H l=some (.lst xs)/\xs.length < sizeLine/\Q .non (upd H l (.lst (xs++[y])))
theorem zh1:MtM X "list.append" zew:=by intro o s σ H x j v g Q I d f h;obtain ⟨l,i,y,rfl,rfl,a,k,q⟩:=h;cases d;obtain ⟨u,rfl,c⟩:=f.one;obtain ⟨z,b,n,r,m,e⟩:=I.lstM a;refine call_meets F.slot_list_append ⟨_,e,rfl⟩ F.entry_list_append (F.args_list_append_2 _ _) (PySem.list_append l b.toArray n u (by rw [P0];omega)) ⟨e,?_⟩;refine ⟨.non,_,I.lset (its':=b++[u]) a e (by simp) (r.append (.cons c .nil)) ?_,rfl,q⟩;rw [M0,List.length_singleton];omega
def zi1:V->List V->Hp->VK->Prop:=λ x vs H Q=>∃l b xs zs,x=.ref l/\vs=[.ref b]/\H l=some (.lst xs)/\H b=some (.lst zs)/\xs.length + zs.length<=sizeLine/\Q .non (upd H l (.lst (xs++zs)))
theorem zga:MtM X "list.extend" zi1:=by
 intro J s σ H x C v y Q I i o h;obtain ⟨l,b,B,A,rfl,rfl,d,p,D,q⟩:=h;cases i;obtain ⟨u,rfl,f⟩:=o.one;cases f;obtain ⟨z,a,n,r,E,e⟩:=I.lstM d;obtain ⟨w,c,k,t,G,j⟩:=I.lstM p;have g:a.toArray.size + c.toArray.size<=sizeLine:=by rw [P0,P0];omega
 have m:¬ (not a.toArray.isEmpty && E6 (a.toArray.size + c.toArray.size))=true:=by rw [zjg g,R8];exact O0
 refine call_meets F.slot_list_extend ⟨_,e,rfl⟩ F.entry_list_extend (F.args_list_extend_2 _ _)
  (AutoSeq1.list_extend_list_list_0 l a.toArray n b c.toArray k m (by rw [P0];omega) (by omega)) ⟨e,j,?_⟩
 refine ⟨.non,_,I.lset (its':=a++c) d e (by simp) (r.append t) ?_,rfl,q⟩;rw [M0];omega
noncomputable def rCat:R2:=λ x y H Q=>∃l b xs zs,x=.ref l/\y=.ref b/\H l=some (.lst xs)/\H b=some (.lst zs)/\xs.length + zs.length<=sizeLine/\∀p,H p=none->Q (.ref p) (upd H p (.lst (xs++zs)))
theorem op_cat:OpR X (O4 .Add) rCat:=by
 intro D s σ H x y v u Q I d j h;obtain ⟨l,b,w,p,rfl,rfl,g,k,A,q⟩:=h;cases d;cases j;obtain ⟨z,c,n,r,B,e⟩:=I.lstM g;obtain ⟨o,a,t,m,C,i⟩:=I.lstM k;refine PySem.P.add_list e i ?_ (by rw [P0,P0];omega);have f:c.toArray++a.toArray=(c++a).toArray:=by simp
 rw [f];exact ⟨.ref _,_,I.lnew (t':=s.toks) (r.append m) (by rw [M0];omega),rfl,q _ I.fresh⟩
end
section
variable {prog:Program} {w:W0} {A:Y1} {E:Value->A0->Prop} {s:A0}
set_option maxRecDepth 100000 in
end
section
variable {κ:Type} [DecidableEq κ]
noncomputable def valV (kvs:List (κ×V)) (k:κ):Option V:=(kvs.find? λ kv=>decide (kv.1=k)).map (·.2)
noncomputable def putK (kvs:List (κ×V)) (k:κ) (v:V):List (κ×V):=
 if (kvs.any λ kv=>decide (kv.1=k))=true then kvs.map (λ kv=>if kv.1=k then (kv.1,v) else kv) else kvs++[(k,v)]
noncomputable def dropK (kvs:List (κ×V)) (k:κ):List (κ×V):=kvs.filter λ kv=>decide (kv.1≠k)
theorem z0p {p:κ×V} {r:List (κ×V)} {k:κ} (e:p.1=k):valV (p :: r) k=some p.2:=by simp [valV,o4,e]
theorem z0o {p:κ×V} {r:List (κ×V)} {k:κ} (e:¬ p.1=k):valV (p :: r) k=valV r k:=by simp [valV,o4,e]
theorem z8s (k:κ) :∀kvs:List (κ×V),(kvs.any λ kv=>decide (kv.1=k))=(valV kvs k).isSome
 | []=>rfl
 | p :: r=>by
  rw [F7];by_cases e:p.1=k
  ·simp only [z0p e,decide_eq_true e,Bool.true_or,Option.isSome_some]
  ·rw [z0o e,decide_eq_false e,j27];exact z8s k r
theorem zf6 (k j:κ) (y:V) :∀kvs:List (κ×V),valV (kvs.map λ kv=>if kv.1=k then (kv.1,y) else kv) j=(valV kvs j).map λ x=>if j=k then y else x
 | []=>rfl
 | p :: r=>by
  have a:=zf6 k j y r;rw [J1];by_cases h:p.1=k
  ·rw [if_pos h];by_cases e:p.1=j
   ·rw [z0p (p:=(p.1,y)) e,z0p e,U7,if_pos (e.symm.trans h)]
   ·rw [z0o (p:=(p.1,y)) e,z0o e,a]
  ·rw [if_neg h];by_cases e:p.1=j
   ·rw [z0p (p:=p) e,z0p e,U7,if_neg (λ z=>h (e.trans z))]
   ·rw [z0o (p:=p) e,z0o e,a]
theorem zcr (k j:κ) (y:V) :∀kvs:List (κ×V),valV kvs k=none->valV (kvs++[(k,y)]) j=if j=k then some y else valV kvs j
 | [],_=>by
  by_cases e:k=j
  ·rw [if_pos e.symm];exact z0p (p:=(k,y)) e
  ·rw [if_neg (λ z=>e z.symm)];exact z0o (p:=(k,y)) e
 | p :: r,hn=>by
  rw [List.cons_append];have a:¬ p.1=k:=λ z=>by rw [z0p z] at hn;cases hn
  rw [z0o a] at hn;have b:=zcr k j y r hn;by_cases e:p.1=j
  ·rw [z0p e,z0p e,if_neg (λ z=>a (e.trans z))]
  ·rw [z0o e,z0o e,b]
theorem z48 (kvs:List (κ×V)) (k j:κ) (y:V):valV (putK kvs k y) j=if j=k then some y else valV kvs j:=by
 unfold putK;by_cases a:(kvs.any λ b=>decide (b.1=k))=true
 ·rw [if_pos a,zf6];rw [z8s] at a;by_cases e:j=k
  ·obtain ⟨x,c⟩:=Option.isSome_iff_exists.mp a;rw [if_pos e,e,c,U7,if_pos rfl]
  ·rw [if_neg e];cases valV kvs j with
   | none=>rfl
   | some x=>rw [U7,if_neg e]
 ·rw [if_neg a];refine zcr k j y kvs ?_;rw [z8s] at a;cases q:valV kvs k with
  | none=>rfl
  | some x=>rw [q] at a;exact (a rfl).elim
theorem z59 (kvs:List (κ×V)) (k:κ) (v:V):(putK kvs k v).length<=kvs.length + 1:=by
 unfold putK;split
 ·rw [K0];omega
 ·rw [M0,U0,L5];omega
theorem RelO.isSome_eq {o:Option V} {u:Option Value} (r:RelO o u):o.isSome=u.isSome:=by
 cases o with
 | none=>cases u with
  | none=>rfl
  | some _=>exact (show False from r).elim
 | some _=>cases u with
  | none=>exact (show False from r).elim
  | some _=>rfl
theorem RelO.getD {o:Option V} {u:Option Value} {d:V} {d':Value} (r:RelO o u) (rd:RelV d d'):RelV (o.getD d) (u.getD d'):=by
 cases o with
 | none=>cases u with
  | none=>exact rd
  | some _=>exact (show False from r).elim
 | some _=>cases u with
  | none=>exact (show False from r).elim
  | some _=>exact r
theorem KV.val {kvs:List (κ×V)} {vs:List (κ×Value)} (r:KV kvs vs) (k:κ):RelO (valV kvs k) (L9 vs k):=by
 unfold KV at r;induction r with
 | nil=>exact True.intro
 | @cons p q ps qs h t ih=>
  obtain ⟨c,d⟩:=h;by_cases e:p.1=k
  ·have a:q.1=k:=c.symm.trans e;have b:L9 (q :: qs) k=some q.2:=by simp [L9,o4,a]
   rw [z0p e,b];exact d
  ·have a:¬ q.1=k:=λ z=>e (c.trans z);have b:L9 (q :: qs) k=L9 qs k:=by simp [L9,o4,a]
   rw [z0o e,b];exact ih
theorem KV.any {kvs:List (κ×V)} {vs:List (κ×Value)} (r:KV kvs vs) (k:κ):(kvs.any λ kv=>decide (kv.1=k))=vs.any λ kv=>decide (kv.1=k):=by
 unfold KV at r;induction r with
 | nil=>rfl
 | cons h t ih=>rw [F7,F7,ih,h.1]
theorem KV.repl {kvs:List (κ×V)} {vs:List (κ×Value)} (r:KV kvs vs) (k:κ) {y:V} {u:Value} (ry:RelV y u) :
  KV (kvs.map λ kv=>if kv.1=k then (kv.1,y) else kv) (vs.map λ kv=>if kv.1=k then (kv.1,u) else kv):=by
 unfold KV at r⊢;induction r with
 | nil=>exact .nil
 | @cons p q ps qs h t ih=>
  rw [J1,J1];refine .cons ?_ ih;obtain ⟨a,b⟩:=h;by_cases e:p.1=k
  ·rw [if_pos e,if_pos (a.symm.trans e)];exact ⟨a,ry⟩
  ·rw [if_neg e,if_neg (λ z=>e (a.trans z))];exact ⟨a,b⟩
theorem KV.put {kvs:List (κ×V)} {vs:List (κ×Value)} (r:KV kvs vs) (k:κ) {y:V} {u:Value} (ry:RelV y u):KV (putK kvs k y) (stored vs k u):=by
 unfold putK stored;rw [r.any k];by_cases e:(vs.any λ a=>decide (a.1=k))=true
 ·rw [if_pos e,if_pos e];exact r.repl k ry
 ·rw [if_neg e,if_neg e];exact Paired.snoc r ⟨rfl,ry⟩
theorem KV.drop {kvs:List (κ×V)} {vs:List (κ×Value)} (r:KV kvs vs) (k:κ):KV (dropK kvs k) (without vs k):=by
 unfold KV at r⊢;unfold dropK without;induction r with
 | nil=>exact .nil
 | @cons p q ps qs h t ih=>
  obtain ⟨c,d⟩:=h;rw [F4,F4];by_cases e:p.1=k
  ·have a:¬ decide (p.1≠k)=true:=by simp [e]
   have b:¬ decide (q.1≠k)=true:=by simp [c.symm.trans e]
   rw [if_neg a,if_neg b];exact ih
  ·have f:¬ q.1=k:=λ z=>e (c.trans z);have a:decide (p.1≠k)=true:=by simp [e]
   have b:decide (q.1≠k)=true:=by simp [f]
   rw [if_pos a,if_pos b];exact .cons ⟨c,d⟩ ih
theorem KV.keys {kvs:List (κ×V)} {vs:List (κ×Value)} (r:KV kvs vs):kvs.map (·.1)=vs.map (·.1):=by
 unfold KV at r;induction r with
 | nil=>rfl
 | cons h t ih=>rw [J1,J1,ih,h.1]
theorem KV.length {kvs:List (κ×V)} {vs:List (κ×Value)} (r:KV kvs vs):kvs.length=vs.length:=j16 r
theorem zfi (kvs:List (κ×V)) (k:κ):(dropK kvs k).length<=kvs.length:=A2 _ _
end
theorem kV_is {P:Program} {w:W0} {k:Key} {u:Value} (r:RelV (kV k) u):(z10 P w).is k u=true:=by
 cases k with
 | inl i=>obtain ⟨t,e⟩:=(show∃t,u=L7 i t from r);subst e;exact zdg P w i t
 | inr x=>obtain ⟨t,e⟩:=(show∃t,u=d6 x t from r);subst e;exact zdi P w x t
theorem zcs {P:Program} {w:W0} :∀{ks:List Key} {us:List Value},Vals (ks.map kV) us->ItemsAre (z10 P w) ks us
 | [],_,r=>by rw [y4] at r;cases r;exact .nil
 | k :: ks,_,r=>by
  rw [J1] at r;cases r with
  | cons h t=>exact .cons (kV_is h) (zcs t)
abbrev KT (H:Hp):List (List Key×V)->List (List Key×Addr×Value)->Prop:=u8 λ p q=>p.1=q.1/\H q.2.1=some (.tup (p.1.map kV))/\RelV p.2 q.2.2
theorem KT.val {H:Hp} {kvs:List (List Key×V)} {xs:List (List Key×Addr×Value)} (r:KT H kvs xs) (k:List Key):RelO (valV kvs k) ((L8 xs k).map (·.2)):=by
 induction r with
 | nil=>exact True.intro
 | @cons p q ps qs h t ih=>
  obtain ⟨c,_,d⟩:=h;by_cases e:p.1=k
  ·have a:q.1=k:=c.symm.trans e;have b:L8 (q :: qs) k=some q.2:=by simp [L8,o4,a]
   rw [z0p e,b];exact d
  ·have a:¬ q.1=k:=λ z=>e (c.trans z);have b:L8 (q :: qs) k=L8 qs k:=by simp [L8,o4,a]
   rw [z0o e,b];exact ih
theorem KT.repl {H:Hp} {kvs:List (List Key×V)} {xs:List (List Key×Addr×Value)} (r:KT H kvs xs) (k:List Key) {y:V} {u:Value} (ry:RelV y u) :
  KT H (kvs.map λ kv=>if kv.1=k then (kv.1,y) else kv) (xs.map (putAt k u)):=by
 induction r with
 | nil=>exact .nil
 | @cons p q ps qs h t ih=>
  rw [J1,J1];refine .cons ?_ ih;obtain ⟨a,b,c⟩:=h;unfold putAt;by_cases e:p.1=k
  ·rw [if_pos e,if_pos (a.symm.trans e)];exact ⟨a,b,ry⟩
  ·rw [if_neg e,if_neg (λ z=>e (a.trans z))];exact ⟨a,b,c⟩
theorem KT.put {H:Hp} {kvs:List (List Key×V)} {xs:List (List Key×Addr×Value)} (r:KT H kvs xs) (k:List Key) {b:Addr} {y:V} {u:Value} (hb:H b=some (.tup (k.map kV))) (ry:RelV y u) :
  KT H (putK kvs k y) (storedH xs k b u):=by
 have e:(kvs.any λ a=>decide (a.1=k))=(L8 xs k).isSome:=by rw [z8s,(r.val k).isSome_eq,b7]
 unfold putK storedH;rw [e];by_cases q:(L8 xs k).isSome=true
 ·rw [if_pos q,if_pos q];exact r.repl k ry
 ·rw [if_neg q,if_neg q];exact Paired.snoc r ⟨rfl,hb,ry⟩
theorem KT.keeps {H H':Hp} {kvs:List (List Key×V)} {xs:List (List Key×Addr×Value)} (r:KT H kvs xs) (ht :∀b ys,H b=some (.tup ys)->H' b=some (.tup ys)):KT H' kvs xs:=
 Paired.mapP r λ _ _ z=>⟨z.1,ht _ _ z.2.1,z.2.2⟩
section
variable {P:Program} {w:W0} {H:Hp} {h:Heap} {a:Addr}
theorem rd_of {u:HO} (ok:HOk P w H h) (e:Rd H a u):ObjOk P w H h a u:=e.ok ok
theorem dk_rd {kvs:List (Key×V)} (ok:HOk P w H h) (e:Rd H a (.dK kvs)):kvs.length<=sizeLine/\(a == F3)=false/\∃vs,KV kvs vs/\h.DictOf (z10 P w) a vs:=
 show ObjOk P w H h a (.dK kvs) from rd_of ok e
theorem dk_of {kvs:List (Key×V)} (ok:HOk P w H h) (e:H a=some (.dK kvs)):kvs.length<=sizeLine/\(a == F3)=false/\∃vs,KV kvs vs/\h.DictOf (z10 P w) a vs:=dk_rd ok (.inl e)
theorem key_of {ks:List Key} (ok:HOk P w H h) (e:H a=some (.tup (ks.map kV))):(Z5 (z10 P w)).is h ks a:=by
 obtain ⟨_,f,r,⟨o,d,c,n,b⟩,_⟩:=(show ObjOk P w H h a (.tup (ks.map kV)) from ok a _ e)
 exact ⟨o,f.toArray,n,d,c,b,by simpa using zcs r⟩
theorem dt_rd {kvs:List (List Key×V)} (ok:HOk P w H h) (e:Rd H a (.dT kvs)):kvs.length<=sizeLine/\(a == F3)=false/\
  ∃xs,KT H kvs xs/\h.DictOfH (Z5 (z10 P w)) a xs:=by
 obtain ⟨z,y,xs,r,o,g,f,j,d,c,k,i⟩:=(show ObjOk P w H h a (.dT kvs) from rd_of ok e)
 refine ⟨z,y,xs,r,o,g,f,j,d,c,k,λ x b=>?_,i⟩;have all :∀{l:List (List Key×V)} {m:List (List Key×Addr×Value)},KT H l m->∀x∈m,(Z5 (z10 P w)).is h x.1 x.2.1:=by
  intro l m q;induction q with
  | nil=>intro x b;exact nomatch b
  | @cons p q ps qs hq t ih=>
   intro x b;rcases List.mem_cons.mp b with e|b
   ·subst e;exact key_of ok (by rw [<-hq.1];exact hq.2.1)
   ·exact ih x b
 exact all r x b
theorem dt_of {kvs:List (List Key×V)} (ok:HOk P w H h) (e:H a=some (.dT kvs)):kvs.length<=sizeLine/\(a == F3)=false/\
  ∃xs,KT H kvs xs/\h.DictOfH (Z5 (z10 P w)) a xs:=dt_rd ok (.inl e)
end
def DGet (H:Hp) (a:Addr) (y:V) (r:Option V):Prop:=
 (∃kvs k,Rd H a (.dK kvs)/\y=kV k/\r=valV kvs k)\/∃kvs k b,Rd H a (.dT kvs)/\y=.ref b/\H b=some (.tup (k.map kV))/\r=valV kvs k
def DPut (H:Hp) (a:Addr) (y v:V) (H':Hp):Prop:=
 (∃kvs k,H a=some (.dK kvs)/\y=kV k/\kvs.length < sizeLine/\H'=upd H a (.dK (putK kvs k v)))\/
 ∃kvs k b,H a=some (.dT kvs)/\y=.ref b/\H b=some (.tup (k.map kV))/\kvs.length < sizeLine/\H'=upd H a (.dT (putK kvs k v))
theorem DGet.k {H:Hp} {a:Addr} {kvs:List (Key×V)} {k:Key} (e:H a=some (.dK kvs)):DGet H a (kV k) (valV kvs k):=.inl ⟨kvs,k,.inl e,rfl,rfl⟩
theorem DPut.k {H:Hp} {a:Addr} {kvs:List (Key×V)} {k:Key} {v:V} (e:H a=some (.dK kvs)) (hl:kvs.length < sizeLine):DPut H a (kV k) v (upd H a (.dK (putK kvs k v))):=.inl ⟨kvs,k,e,rfl,hl,rfl⟩
section
variable {X:Cx} {pins:List (Addr×Obj)} {σ:St} {H:Hp} {s:A0} {a:Addr} {y v:V} {u r:Value} {o:Option V} {A:Y1} {E:Value->A0->Prop}
theorem Inv.big (I:Inv X pins σ H s):F3 < s.heap.objs.size:=by have h:Z2 < s.heap.objs.size:=(I.mod.glob.keeps I.bk).lt;exact Nat.lt_trans (by decide) h
theorem zgf {Q:Value->A0->Prop} (hu:A.units + 1 < cLine) (I:Inv X pins σ H s) (g:DGet H a y (some v)) (ry:RelV y u) (h :∀w' s',Inv X pins σ H s'->RelV v w'->Q w' s') :
  V0 (E1 X.prog X.w) A (Z7 (.ref a) u) Q E s:=by
 rcases g with ⟨n,k,e,f,l⟩|⟨n,k,b,e,f,eb,l⟩
 ·subst f;obtain ⟨z,q,m,c,d⟩:=dk_rd I.hok e;obtain ⟨w',j,i⟩:=RelO.some_of (v:=v) (o:=L9 m k) (by rw [l];exact c.val k);exact wpAny_getItem_of (kV_is ry) d.mapOf j (h w' _ (I.tok _) i)
 ·subst f;cases (show u=Value.ref b from ry);obtain ⟨z,q,r,c,d⟩:=dt_rd I.hok e;obtain ⟨w',j,i⟩:=RelO.some_of (v:=v) (o:=(L8 r k).map (·.2)) (by rw [l];exact c.val k);obtain ⟨p,t,x⟩:=Option.map_eq_some_iff.mp j;refine wpAny_getItem_heap (K7 hu) (key_of I.hok eb) d t ?_;rw [x];exact h w' _ (I.tok _) i
theorem d_in {Q:Value->A0->Prop} (hu:A.units + 1 < cLine) (I:Inv X pins σ H s) (g:DGet H a y o) (ry:RelV y u) (h :∀s',Inv X pins σ H s'->Q (.bool o.isSome) s') :
  V0 (E1 X.prog X.w) A (N2 .In u (.ref a)) Q E s:=by
 rcases g with ⟨j,k,e,f,l⟩|⟨j,k,b,e,f,eb,l⟩
 ·subst f;obtain ⟨z,d,m,c,i⟩:=dk_rd I.hok e;refine wpAny_in_of (kV_is ry) d i.mapOf ?_;rw [<-(c.val k).isSome_eq,<-l];exact h _ (I.tok _)
 ·subst f;cases (show u=Value.ref b from ry);obtain ⟨z,d,n,c,i⟩:=dt_rd I.hok e;refine wpAny_in_heap (K7 hu) (key_of I.hok eb) d i ?_;have q:=(c.val k).isSome_eq;rw [b7] at q;rw [<-q,<-l];exact h _ (I.tok _)
theorem zaa {h':Heap} {t':Nat} {ob:HO} (I:Inv X pins σ H s) (mu:Mut (H a)) (hs:U5 a s.heap h') (he :∃q,h'.get? a=some q) (new:ObjOk X.prog X.w (upd H a ob) h' a ob) :
  Inv X pins σ (upd H a ob) { s with heap:=h',toks:=t' }:=
 I.write (x:=a) (e:=a) mu (.inl rfl) (λ b q c z=>(hs.2 b c).trans z) he new
theorem dk_new {P:Program} {w:W0} {H':Hp} {h':Heap} {kvs:List (Key×V)} {vs:List (Key×Value)} (z:kvs.length<=sizeLine) (hd:(a == F3)=false) (rel:KV kvs vs) (dd:h'.DictOf (z10 P w) a vs) :
  ObjOk P w H' h' a (.dK kvs):=⟨z,hd,vs,rel,dd⟩
theorem zg5 {H':Hp} {Q:Unit->A0->Prop} (hu:A.units + 1 < cLine) (I:Inv X pins σ H s) (g:DPut H a y v H') (ry:RelV y u) (rv:RelV v r) (h :∀s',Inv X pins σ H' s'->Q () s') :
  V0 (E1 X.prog X.w) A (setItem (.ref a) u r) Q E s:=by
 rcases g with ⟨d,k,e,m,l,B⟩|⟨d,k,b,e,m,eb,l,B⟩
 ·subst m B;obtain ⟨z,t,O,f,o⟩:=dk_of I.hok e;have p:O.length<=sizeLine:=by rw [<-f.length];exact z
  have x:(putK d k v).length<=sizeLine:=by have:=z59 d k v;omega
  refine wpAny_setItem_pairs (hsz:=p) (kV_is ry) o λ D i n=>h _ ?_;have J :∃q,D.get? a=some q:=let ⟨q,_,_,j,_⟩:=i;⟨q,j⟩;exact zaa I (by rw [e];exact True.intro) n J (dk_new x t (f.put k rv) i)
 ·subst m B;cases (show u=Value.ref b from ry);obtain ⟨z,t,M,f,o⟩:=dt_of I.hok e;have p:M.length<=sizeLine:=by rw [<-j16 f];exact z
  have x:(putK d k v).length<=sizeLine:=by have:=z59 d k v;omega
  refine wpAny_setItem_heap (hsz:=p) (K7 hu) (key_of I.hok eb) o λ D i n=>h _ ?_;obtain ⟨q,N,P,j,L,K,G,_,F⟩:=i;refine zaa I (by rw [e];exact True.intro) n ⟨q,j⟩ ⟨x,t,_,(f.put k eb rv).keeps λ c R C=>?_,q,N,P,j,L,K,G,F⟩;rw [upd_ne (ne_of C e (λ z=>nomatch z))];exact C
end
section
variable {X:Cx} {pins:List (Addr×Obj)} {σ:St} {H:Hp} {s:A0} {a:Addr} {kvs:List (Key×V)} {k:Key} {u:Value} {A:Y1} {E:Value->A0->Prop}
theorem d_pop {v:V} {more:List Value} {Q:Value->A0->Prop} (I:Inv X pins σ H s) (e:H a=some (.dK kvs)) (ry:RelV (kV k) u) (l:valV kvs k=some v) (hm:more=[]\/∃x,more=[x])
  (h :∀w' s',Inv X pins σ (upd H a (.dK (dropK kvs k))) s'->RelV v w'->Q w' s'):V0 (E1 X.prog X.w) A (call (.builtin "dict.pop") (.ref a :: u :: more)) Q E s:=by
 obtain ⟨z,j,c,b,f⟩:=dk_of I.hok e;obtain ⟨w',B,p⟩:=RelO.some_of (v:=v) (o:=L9 c k) (by rw [<-l];exact b.val k);have n:(keyPart u).isSome=true:=by
  cases k with
  | inl i=>obtain ⟨t,q⟩:=(show∃t,u=L7 i t from ry);subst q;rfl
  | inr x=>obtain ⟨t,q⟩:=(show∃t,u=d6 x t from ry);subst q;rfl
 have m:argsOk "dict.pop" ⟨.ref a :: u :: more,[]⟩:=by
  rcases hm with q|⟨x,q⟩
  ·subst q;exact PySem.F.args_dict_pop_2 _ _
  ·subst q;exact PySem.F.args_dict_pop_3 _ _ _
 refine call_meetsIn j20 f.typeIs PySem.F.entry_dict_pop m (meets_dict_pop_there (z10 X.prog X.w) a (kV_is ry) more hm n)
  ⟨c,w',f,by rw [<-b.length];exact z,B,λ r d y=>h w' _ ?_ p⟩
 have g :∃q,r.get? a=some q:=let ⟨q,_,_,hq,_⟩:=d;⟨q,hq⟩;exact zaa I (by rw [e];exact True.intro) y g (dk_new (D0 (zfi kvs k) z) j (b.drop k) d)
end
def NoSl (i:Expr):Prop:=∀ov iv,j1g i false ov iv=operate [ov,iv] (Z7 ov iv)
theorem zl1 {prog:Program} {w:W0} {A:Y1} {E:Value->A0->Prop} {s:A0} {env:Env} {value slice:Expr} {pos:Pos} {T id:String} {Q:Value->A0->Prop}
  (hl:typeLookup (.type T) "__getitem__" = E3 (some (.builtin id))) (hs:NoSl slice)
  (h:V0 (E1 prog w) A (m3 value env) (λ o s₁=>V0 (E1 prog w) A (m3 slice env) (λ i s₂=>s₂.TypeIs o T/\V0 (E1 prog w) A (Z7 o i) Q E s₂) E s₁) E s) :
  V0 (E1 prog w) A (m3 (.Subscript value slice pos) env) Q E s:=by
 refine j3c (V2 h (λ o s₁ f=>V2 f (λ i s₂ a=>?_) λ _ _ x=>x) λ _ _ x=>x);obtain ⟨d,a⟩:=a;unfold Y9;refine o0 ?_;rw [getitemInPython_of_ne d.not_modules];refine o0 (j29 d hl ?_);have b:V0 (E1 prog w) A (j1g slice false o i) (λ r c=>V0 (E1 prog w) A (letTemporaryGo value o r >>= λ _=>E3 r) Q E c) E s₂:=by rw [hs o i];exact wpAny_operating (V2 a (λ r c e=>o0 (wpAny_letTemporaryGo (G0 e))) λ _ _ x=>x)
 first
  | exact G0 (o0 b)
  | exact o0 (G0 (o0 b))
  | exact o0 b
theorem zcy {X:Cx} {pins:List (Addr×Obj)} {σ:St} {H:Hp} {s:A0} {a:Addr} {y:V} {o:Option V} (I:Inv X pins σ H s) (g:DGet H a y o):s.TypeIs (.ref a) "dict":=by
 rcases g with ⟨d,k,e,_,_⟩|⟨d,k,b,e,_,_,_⟩
 ·obtain ⟨_,_,f,_,c⟩:=dk_rd I.hok e;exact c.typeIs
 ·obtain ⟨_,_,h,_,c⟩:=dt_rd I.hok e;exact c.typeIs
noncomputable def tDGet (td ty:TE):TE:=λ σ H Q=>td σ H λ x H1=>ty σ H1 λ y H2=>∃a v,x=.ref a/\DGet H2 a y (some v)/\Q v H2
noncomputable def tDIn (ty td:TE):TE:=λ σ H Q=>ty σ H λ y H1=>td σ H1 λ x H2=>∃a o,x=.ref a/\DGet H2 a y o/\Q (.bl o.isSome) H2
noncomputable def sDPut (td ty tv:TE):TS:=λ D σ H=>tv σ H λ v H1=>td σ H1 λ x H2=>ty σ H2 λ y H3=>∃a H4,x=.ref a/\DPut H3 a y v H4/\D.nx σ H4
section
variable {X:Cx} {o i e value:Expr} {pos pos' tpos:Pos} {td ty tv:TE}
theorem z6o (hu:X.A.units + 1 < cLine) (ho:PE X o td) (hi:PE X i ty) (hs:NoSl i):PE X (.Subscript o i pos) (tDGet td ty):=by intro b s σ H Q I h;refine zl1 PySem.F.slot_dict_getitem.lookup hs (thn (ho b s σ H _ I h) λ u c ⟨x,H1,I1,rx,q1⟩=>thn (hi b c σ H1 _ I1 q1) λ f l ⟨y,H2,I2,ry,a,v,ex,g,q2⟩=>?_);subst ex;obtain rfl:u=Value.ref a:=rx;exact ⟨zcy I2 g,zgf hu I2 g ry λ k j d e=>⟨v,H2,d,e,q2⟩⟩
theorem pc_din (hu:X.A.units + 1 < cLine) (hi:PE X i ty) (ho:PE X o td):PC X .In i o (tDIn ty td):=by intro b s σ H Q I h;refine thn (hi b s σ H _ I h) λ e c ⟨y,H1,I1,ry,q1⟩=>thn (ho b c σ H1 _ I1 q1) λ u j ⟨x,H2,I2,rx,a,ov,ex,g,q2⟩=>?_;subst ex;obtain rfl:u=Value.ref a:=rx;exact d_in hu I2 g ry λ f d=>⟨.bl ov.isSome,H2,d,rfl,q2⟩
theorem z9a (hu:X.A.units + 1 < cLine) (ho:PE X o td) (hi:PE X i ty) (hv:PE X value tv) (hs:F6 value (some (.Subscript o i pos')) pos.line X.env=E3 false) :
  PS X (.Assign [.Subscript o i pos'] value pos) (sDPut td ty tv):=by
 intro b s σ H D I h;refine wpAny_Assign_Subscript (thn (hv b s σ H _ I h) λ r c ⟨v,H1,I1,rv,q1⟩=>thn (ho b c σ H1 _ I1 q1) λ u e ⟨x,H2,I2,rx,q2⟩=>thn (hi b e σ H2 _ I2 q2) λ k j ⟨y,H3,I3,ry,a,H4,ex,g,q3⟩=>?_) hs;subst ex;obtain rfl:u=Value.ref a:=rx;exact zg5 hu I3 g ry rv λ f d=>⟨σ,H4,d,q3⟩
end
theorem zfv {P:Program} {w:W0} {H:Hp} (h:Heap) (hb:F3 < h.objs.size):ObjOk P w H (h.push { cls:=.type "dict",data:=.dict #[] }) h.objs.size (.dK []):=
 ⟨U1 _,beq_eq_false_iff_ne.mpr (V3 (F1 hb)),[],.nil,Heap.DictOf.new h⟩
noncomputable def tDNewK:TE:=λ _ H Q=>∀p,H p=none->Q (.ref p) (upd H p (.dK []))
section
variable {X:Cx} {pos:Pos}
theorem z52:PE X (.Dict [] [] pos) tDNewK:=λ b s σ H Q I h=>wpAny_Dict_empty ⟨.ref s.heap.objs.size,_,I.laid (a:=s.heap.objs.size) (o:=.dK []) (t':=s.toks) (λ _ _ q=>F0 _ q) (B0 _) (zfv s.heap I.big),rfl,h _ (I.hok.fresh (B0 _))⟩
end
noncomputable def tPairs:List (TE×TE)->St->Hp->(List (V×V)->Hp->Prop)->Prop
 | [],_,H,Q=>Q [] H
 | (tk,tv) :: r,σ,H,Q=>tk σ H λ x H1=>tv σ H1 λ y H2=>tPairs r σ H2 λ ps H3=>Q ((x,y) :: ps) H3
abbrev VV:List (V×V)->List (Value×Value)->Prop:=u8 λ p q=>RelV p.1 q.1/\RelV p.2 q.2
def PPs (X:Cx) (pos:Pos) (keys:List (Option Expr)) (values:List Expr) (trs:List (TE×TE)):Prop:=
 ∀(pins:List (Addr×Obj)) (s:A0) (σ:St) (H:Hp) (Q:List (V×V)->Hp->Prop),Inv X pins σ H s->tPairs trs σ H Q->
  V0 (E1 X.prog X.w) X.A (evalPairs (pairTrees keys values X.env pos)) (λ vs s'=>∃ps H',Inv X pins σ H' s'/\VV ps vs/\Q ps H') X.xe s
theorem zih {X:Cx} {pos:Pos}:PPs X pos [] [] []:=λ a s σ H Q I h=>pairTrees_nil_walk ⟨[],H,I,.nil,h⟩
theorem zbh {X:Cx} {pos:Pos} {k v:Expr} {ks:List (Option Expr)} {vs:List Expr} {tk tv:TE} {trs:List (TE×TE)} (hk:PE X k tk) (hv:PE X v tv) (hr:PPs X pos ks vs trs) :
  PPs X pos (some k :: ks) (v :: vs) ((tk,tv) :: trs):=λ a s σ H Q I h=>
 pairTrees_cons_walk (thn (hk a s σ H _ I h) λ u b ⟨x,H1,I1,rx,q1⟩=>thn (hv a b σ H1 _ I1 q1) λ d c ⟨y,H2,I2,ry,q2⟩=>thn (hr a c σ H2 _ I2 q2) λ f e ⟨ps,H3,I3,rel,q3⟩=>⟨(x,y) :: ps,H3,I3,.cons ⟨rx,ry⟩ rel,q3⟩)
noncomputable def mergeK (kvs more:List (Key×V)):List (Key×V):=more.foldl (λ acc kv=>putK acc kv.1 kv.2) kvs
theorem KV.merge :∀{more:List (Key×V)} {rs:List (Key×Value)} {kvs:List (Key×V)} {vs:List (Key×Value)},KV more rs->KV kvs vs->KV (mergeK kvs more) (merged vs rs):=by
 intro more rs kvs vs r;unfold KV at r;induction r generalizing kvs vs with
 | nil=>intro q;exact q
 | @cons p q ps qs h t ih=>
  intro a;have e:KV (putK kvs p.1 p.2) (stored vs q.1 q.2):=by have:=a.put p.1 h.2;rw [<-h.1];exact this
  exact ih e
theorem z5r :∀(more kvs:List (Key×V)),(mergeK kvs more).length<=kvs.length + more.length
 | [],kvs=>by show kvs.length<=kvs.length + 0;omega
 | p :: r,kvs=>by have a:=z5r r (putK kvs p.1 p.2);have b:=z59 kvs p.1 p.2;show (mergeK (putK kvs p.1 p.2) r).length<=_;rw [U0];omega
theorem za4 {P:Program} {w:W0} :∀{kvs:List (Key×V)} {ws:List (Value×Value)},VV (kvs.map λ kv=>(kV kv.1,kv.2)) ws->∃rs,Carries (z10 P w) ws rs/\KV kvs rs
 | [],_,r=>by rw [y4] at r;cases r;exact ⟨[],True.intro,.nil⟩
 | p :: kvs,_,r=>by
  rw [J1] at r;cases r with
  | @cons a b as bs h t=>obtain ⟨rs,c,q⟩:=za4 (P:=P) (w:=w) t;obtain ⟨e,d⟩:=b;exact ⟨(p.1,d) :: rs,⟨kV_is h.1,rfl,c⟩,.cons ⟨rfl,h.2⟩ q⟩
noncomputable def tDisp (trs:List (TE×TE)):TE:=λ σ H Q=>∀p,H p=none->tPairs trs σ (upd H p (.dK [])) λ ps H2=>H2 p=some (.dK [])/\∃kvs:List (Key×V),ps=kvs.map (λ kv=>(kV kv.1,kv.2))/\kvs.length<=15/\Q (.ref p) (upd H2 p (.dK (mergeK [] kvs)))
theorem zis {X:Cx} {pos:Pos} {keys:List (Option Expr)} {values:List Expr} {trs:List (TE×TE)} (h:PPs X pos keys values trs) (hall:keys.all (·.isSome)=true) (hl:keys.length=values.length) (h0:keys≠[])
  (h15:keys.length<=15):PE X (.Dict keys values pos) (tDisp trs):=by
 intro t s σ H Q I q;have j:=I.hok.fresh (B0 s.heap.objs.size);have k:=I.laid (a:=s.heap.objs.size) (o:=.dK []) (h':=s.heap.push { cls:=.type "dict",data:=.dict #[] }) (t':=s.toks) (λ _ _ q=>F0 _ q) (B0 _) (zfv s.heap I.big);refine wpAny_Dict_walk (knd:=z10 X.prog X.w) hall hl h0 h15 (thn (h t _ σ _ _ k (q _ j)) λ x u ⟨ps,H2,I2,rel,e,kvs,ep,lk,q2⟩=>?_);subst ep;obtain ⟨d,c,m⟩:=za4 (P:=X.prog) (w:=X.w) rel;obtain ⟨z,r,v,f,l⟩:=dk_of I2.hok e;cases f;refine ⟨d,c,l,λ h' b i=>⟨.ref s.heap.objs.size,_,?_,rfl,q2⟩⟩;have p:(mergeK [] kvs).length<=sizeLine:=by have n:=z5r kvs [];rw [L5] at n;rw [sizeLine_eq];omega
 have g :∃q,h'.get? s.heap.objs.size=some q:=let ⟨q,_,_,hq,_⟩:=b;⟨q,hq⟩;exact zaa I2 (by rw [e];exact True.intro) i g (dk_new p r (m.merge .nil) b)
structure M1 (X:Cx) (o:Expr) (m:Str) (apos:Pos) (e:Expr) (cpos:Pos):Prop where
 base:G4 o m X.env (m3 o X.env)=m3 o X.env
 few:((Q3 cpos (B1 [e] X.env)).all (λ x=>!x.1) && (K8 cpos (c6 [] X.env)).all (λ x=>x.1.isSome)
  && decide (([e]:List Expr).length + ([]:List N5).length + (if ([]:List N5).isEmpty then 0 else 1) < 30))=true
 line:(apos.endLine == cpos.line)=true
 trees:Q3 cpos (B1 [e] X.env)=[(false,m3 e X.env)]
structure M2 (X:Cx) (o:Expr) (m:Str) (apos:Pos) (e f:Expr) (cpos:Pos):Prop where
 base:G4 o m X.env (m3 o X.env)=m3 o X.env
 few:((Q3 cpos (B1 [e,f] X.env)).all (λ x=>!x.1) && (K8 cpos (c6 [] X.env)).all (λ x=>x.1.isSome)
  && decide (([e,f]:List Expr).length + ([]:List N5).length + (if ([]:List N5).isEmpty then 0 else 1) < 30))=true
 line:(apos.endLine == cpos.line)=true
 trees:Q3 cpos (B1 [e,f] X.env)=[(false,m3 e X.env),(false,m3 f X.env)]
def IsD (H:Hp) (a:Addr):Prop:=(∃kvs,Rd H a (.dK kvs))\/∃kvs,Rd H a (.dT kvs)
theorem isD_at {X:Cx} {pins:List (Addr×Obj)} {σ:St} {H:Hp} {s:A0} {a:Addr} (I:Inv X pins σ H s) (d:IsD H a) :
  s.TypeIs (.ref a) "dict"/\(∀b,Value.ref a=.ref b->∃ob,s.heap.get? b=some ob/\ob.dict=none)/\(a == F3)=false:=by
 rcases d with ⟨i,e⟩|⟨i,e⟩
 ·obtain ⟨_,f,j,_,c⟩:=dk_rd I.hok e;refine ⟨c.typeIs,λ b q=>?_,f⟩;cases q;obtain ⟨ob,_,_,h,g,_⟩:=c;exact ⟨ob,h,g.2.1⟩
 ·obtain ⟨_,f,k,_,c⟩:=dt_rd I.hok e;refine ⟨c.typeIs,λ b q=>?_,f⟩;cases q;obtain ⟨ob,_,_,h,g,_⟩:=c;exact ⟨ob,h,g.2.1⟩
section
variable {X:Cx} {pins:List (Addr×Obj)} {σ:St} {H:Hp} {s:A0} {a:Addr} {y d:V} {u r:Value} {o:Option V} {A:Y1} {E:Value->A0->Prop}
theorem d_get2 {Q:Value->A0->Prop} (hu:A.units + 1 < cLine) (I:Inv X pins σ H s) (g:DGet H a y o) (ry:RelV y u) (rd:RelV d r) (h :∀w' s',Inv X pins σ H s'->RelV (o.getD d) w'->Q w' s') :
  V0 (E1 X.prog X.w) A (call (.builtin "dict.get") [.ref a,u,r]) Q E s:=by
 rcases g with ⟨m,k,e,j,l⟩|⟨m,k,b,e,j,eb,l⟩
 ·subst j;obtain ⟨z,i,p,f,c⟩:=dk_rd I.hok e;refine call_meetsIn S7 c.typeIs j1d (j15 _ _ _) (meets_dict_get_default (z10 X.prog X.w) a (kV_is ry) i r) ⟨_,c.mapOf,h _ _ (I.tok _) ?_⟩;rw [l];exact (f.val k).getD rd
 ·subst j;cases (show u=Value.ref b from ry);obtain ⟨z,i,n,f,c⟩:=dt_rd I.hok e;refine call_meetsIn S7 c.typeIs j1d (j15 _ _ _) (meetsH_dict_get_default (Z5 (z10 X.prog X.w)) a b i r) ⟨K7 hu,k,n,key_of I.hok eb,c,h _ _ (I.tok _) ?_⟩;rw [l];exact (f.val k).getD rd
end
noncomputable def tDGet2 (td ty tx:TE):TE:=λ σ H Q=>td σ H λ x H1=>∃a,x=.ref a/\IsD H1 a/\ty σ H1 λ y H2=>tx σ H2 λ z H3=>∃o,DGet H3 a y o/\Q (o.getD z) H3
noncomputable def tDPop1 (td ty:TE):TE:=λ σ H Q=>td σ H λ x H1=>∃a,x=.ref a/\IsD H1 a/\ty σ H1 λ y H2=>∃kvs k v,H2 a=some (.dK kvs)/\y=kV k/\valV kvs k=some v/\Q v (upd H2 a (.dK (dropK kvs k)))
section
variable {X:Cx} {o e f:Expr} {apos cpos:Pos} {td ty tx:TE}
theorem zk3 (hu:X.A.units + 1 < cLine) (ho:PE X o td) (he:PE X e ty) (hf:PE X f tx) (m:M2 X o "get" apos e f cpos):PE X (.Call (.Attribute o "get" apos) [e,f] [] cpos) (tDGet2 td ty tx):=by
 intro b s σ H Q I h;refine wpAny_Call_method m.base m.few m.line j14 S7 PySem.F.type_dict_get (thn (ho b s σ H _ I h) λ u i ⟨x,H1,I1,rx,a,ex,d,q1⟩=>?_);subst ex;obtain rfl:u=Value.ref a:=rx;obtain ⟨n,j,_⟩:=isD_at I1 d;refine ⟨n,j,?_⟩;rw [m.trees];refine W7 rfl (y6 (O5 (thn (he b i σ H1 _ I1 q1) λ r l ⟨y,H2,I2,ry,q2⟩=>O5 (thn (hf b l σ H2 _ I2 q2) λ p q ⟨z,H3,I3,rz,ov,g,q3⟩=>g7 ?_))));exact d_get2 hu I3 g ry rz λ v t k c=>⟨_,H3,k,c,q3⟩
theorem zjb (ho:PE X o td) (he:PE X e ty) (m:M1 X o "pop" apos e cpos):PE X (.Call (.Attribute o "pop" apos) [e] [] cpos) (tDPop1 td ty):=by intro b s σ H Q I h;refine wpAny_Call_method m.base m.few m.line j14 j20 PySem.F.type_dict_pop (thn (ho b s σ H _ I h) λ u c ⟨x,H1,I1,rx,a,ex,d,q1⟩=>?_);subst ex;obtain rfl:u=Value.ref a:=rx;obtain ⟨j,f,_⟩:=isD_at I1 d;refine ⟨j,f,?_⟩;rw [m.trees];refine W7 rfl (y6 (O5 (thn (he b c σ H1 _ I1 q1) λ n r ⟨y,H2,I2,ry,kvs,k,v,ea,ey,l,q2⟩=>g7 ?_)));subst ey;exact d_pop I2 ea ry l (.inl rfl) λ q p g i=>⟨v,_,g,i,q2⟩
end
end L2
namespace Att
open PySem PySem.W PySem.Calls PyProof.Rows
theorem z75 {P:R0} {h:Heap} :∀(ns:List Int) (vs:List Value),WellAll P h vs (ns.map WData.int)->Y8 vs ns:=by
 intro ns;induction ns with
 | nil=>intro vs w;rw [y4] at w;cases w;exact .nil
 | cons n ns ih=>
  intro vs w;rw [J1] at w;cases w with
  | cons a b=>cases a;exact .cons _ _ (ih _ b)
theorem zgb {l:OpenLaw} {n:Nat} (hn:l.most=some n) {P:R0} {h:Heap} {args:List WData} {vals:List Value}
  (hpre:l.row.toRowW.claim.pre args=true) (hwl:WellAll P h vals args) :
  ∃a vs ns,vals=[Value.ref a]/\args=[WData.list (ns.map WData.int)]/\h.get? a=some { cls:=.type "list",data:=.seq vs.toArray }/\Y8 vs ns/\ns.length<=n:=by
 have k:WShape.hasAll [] args [.list .int]=true:=(pre_splitW hpre).1;have e:l.pre.holds [] { args:=args }=true:=(pre_splitW hpre).2;obtain ⟨d,r,rfl,m,i⟩:=hasAllW_cons k;obtain rfl:=hasAllW_nil i;obtain ⟨o,rfl,g⟩:=hasW_list m;obtain ⟨ns,rfl⟩:=items_int g;have f:ns.length<=n:=by
  unfold OpenLaw.pre at e;have c:(WTm.not (.lt (.lit (.int (n:Int))) (.len (.arg 0)))).holds [] { args:=[.list (ns.map .int)] }=true:=by have c:=(holds_andW e).1;rw [hn] at c;exact c
  have b:=condW_of c (w_not (w_lt w_lit (w_len_list (w_arg rfl))));rw [K0] at b;refine j07 λ q=>?_;have j:(n:Int) < ((ns.length:Nat):Int):=by omega
  first
   | (rw [decide_eq_true j] at b;exact absurd b (by decide))
   | (simp at b;omega)
 cases hwl with
 | cons w1 w2=>
  cases w2;cases w1 with
  | list ho hall=>exact ⟨_,_,ns,rfl,rfl,ho,z75 ns _ hall,f⟩
theorem zhc (l:OpenLaw) (args:List WData):l.row.toRowW.claim.post args (.bool true) args=true:=
 postW_of (r:=l.row.toRowW) (X:=(true == true))
  (show WShape.has [] (.bool true) .bool=true by first|rfl|decide|simp [WShape.has,WShape.arms,WShape.armsAll])
  (show (WTm.eq .res (.lit (.bool true))).value [] { args:=args,res:=some (.bool true),after:=args }=some (.bool (true == true)) from w_eq_bool (w_res rfl) w_lit) rfl
theorem attach_call {l:OpenLaw} {n:Nat} {q:Program} {loose:List Str} {XP:(Str->Option Value)->Heap->Prop} {YP:W0->Heap->Prop} {d:DefRec}
  (hn:l.most=some n) (hdf:d.params.defaults=[])
  (call :∀(w:W0) (s₀ s₁:A0) (mg mb:Str->Option Value) (fa:Addr) (o:Obj) (pm cd doc:Value) (a:Addr) (vs:List Value) (ns:List Int),
   Ground q loose [] XP w s₀ mg mb s₁.heap->YP w s₁.heap->
   s₁.heap.get? fa=some o->o.data=.func (docDef d.name d.params d.body d.scope pm cd doc)->s₁.heap.CodeRec cd d.name->mg d.name=some (.ref fa)->
   s₁.heap.get? a=some { cls:=.type "list",data:=.seq vs.toArray }->Y8 vs ns->ns.length<=n->s₁.gens = #[]->
   a8 (E1 l.prog w) j10 (.call (.ref fa) ⟨[.ref a],[]⟩) (λ r s'=>r=.ok (.ret (.bool true))/\OldK s₁.heap s'.heap/\s'.os=s₁.os/\i8 s'.gens) s₁) :
  WalkO q loose XP YP l.row.toRowW d [] (λ f vs=>PySem.call f vs):=by
 intro w s₀ s₁ mg mb G Y fa o pm cd doc e kV s x k b y p F E B z C A g D;obtain rfl:e=.none:=Dflts.none b hdf;obtain rfl:kV=.none:=Dflts.noKw b;obtain ⟨a,vs,ns,rfl,rfl,c,h,v⟩:=zgb hn z g;refine enter_call (U8 (call w s₀ s₁ mg mb fa o pm cd doc a vs ns G Y s (fd_plain x) k y c h v p) λ r s' u=>?_);obtain ⟨rfl,m,j,i⟩:=u;exact ⟨.inl ⟨.bool true,.bool true,[],rfl,λ _=>rfl,.bool true,zhc l _,λ _=>⟨j17,λ _ t=>(nomatch t)⟩⟩,m,j,i⟩
end Att
namespace L2
open PySem PySem.Spec PyProof.Rows
theorem z8r :∀{vs:List Value} {ns:List Int},Y8 vs ns->Vals (ns.map V.int) vs
 | _,_,.nil=>.nil
 | _,_,.cons n t h=>.cons ⟨t,rfl⟩ (z8r h)
def Only (H:Hp):Prop:=∀b,H b=none\/∃o xs,H b=some (.frz o (.lst xs))
theorem zk0 {P:Program} {w:W0} {K:d0} {mg mb:Str->Option Value} {CX:CXT} {k:Nat} {fa a:Addr} {fd:FuncData} {x:Str} {sp:Sp} {s₁:A0} {vs:List Value} {ns:List Int}
  (KX:K.In s₁.heap) (hns:s₁.heap.Ns Z2 mg) (hb:s₁.heap.Ns builtinsNs mb) (hbb :∀x:Str,x≠"__name__"->mb x=r6 x) (hlim:s₁.heap.NoLimit) (hg:s₁.gens = #[])
  (ha:s₁.heap.get? a=some { cls:=.type "list",data:=.seq vs.toArray }) (hi:Y8 vs ns) (hl:ns.length<=sizeLine) (hr:Room k j10)
  (F :∀base:Heap,K.In base->base.Ns Z2 mg->FnOk P w K mg base CX k fa fd [x] sp) (hbind :∀(s:A0) (u:Value),BindsTo s fd ⟨[u],[]⟩ [(x,u)])
  (hsp :∀H:Hp,Only H->SqL K H a (ns.map V.int)->sp [.ref a] H (λ v _=>v=.bl true) λ _ _ _=>False)
  (hCX :∀H e s',CX [] H s₁ (λ _ _ _=>False) e s'->False) :
  a8 (E1 P w) j10 (.call (.ref fa) ⟨[.ref a],[]⟩) (λ r s'=>r=.ok (.ret (.bool true))/\OldK s₁.heap s'.heap/\s'.os=s₁.os/\i8 s'.gens) s₁:=by
 have A:=z8r hi;have C:=hi.length
 -- from an abstract heap in which nothing but the script may be tracked
 have j :∀H:Hp,Only H->SqL K H a (ns.map V.int)->HOk P w H s₁.heap->(∀b,H b≠none->b=a)->(H a≠none->K.lookup a=none)->
   a8 (E1 P w) j10 (.call (.ref fa) ⟨[.ref a],[]⟩) (λ r s'=>r=.ok (.ret (.bool true))/\OldK s₁.heap s'.heap/\s'.os=s₁.os/\i8 s'.gens) s₁:=by
  intro H l M p B O;have i :∀{b:Addr} {o:Obj},s₁.heap.get? b=some o->H b=none->(hidT s₁.heap H).get? b=some o:=λ e n=>zjr e n;have R :∀{b:Addr} {o:Obj} {es:Array DictEntry} {ep:Nat},s₁.heap.get? b=some o->o.data=.dict es ep->H b=none:=λ {b o es ep} e d=>by
   cases q:H b with
   | none=>rfl
   | some u=>have g:b=a:=B b (by rw [q];simp);subst g;rw [ha] at e;cases e;have Q:Data.seq vs.toArray _=Data.dict es ep:=d;cases Q
  have f :∀{b:Addr} {m:Str->Option Value},s₁.heap.Ns b m->(hidT s₁.heap H).Ns b m:=λ {b m} ⟨o,es,ep,e,d,r⟩=>⟨o,es,ep,i e (R e d),d,r⟩
  have t:K.In (hidT s₁.heap H):=λ b o e=>i (KX b o e) (by
   cases q:H b with
   | none=>rfl
   | some u=>have g:b=a:=B b (by rw [q];simp);subst g;rw [O (by rw [q];simp)] at e;cases e)
  have N:Mod K mg (hidT s₁.heap H):=⟨t,f hns,⟨mb,f hb,hbb⟩,let ⟨mc,h1,h2⟩:=hlim;⟨mc,f h1,h2⟩⟩
  have L:Env0 P w K mg (hidT s₁.heap H) j10 [] s₁ H:=⟨rfl,N,λ b o e=>zlm e,F5 (zh0 _ _),trivial,λ b hb=>absurd (show b∈([]:List Addr) from hb) (by simp),p,.of_eq hg⟩
  refine U8 ((F _ t (f hns)).run j10 [] s₁ H ⟨[.ref a],[]⟩ [.ref a] [.ref a] _ _ hr L (hbind s₁ (.ref a)) (.cons rfl .nil) (hsp H l M)) λ r s' h=>?_;cases r with
  | error e=>exact (hCX H e s' h).elim
  | ok fl=>
   cases fl with
   | next=>exact i3 h
   | brk=>exact i3 h
   | cont=>exact i3 h
   | ret u=>
    obtain ⟨v,T,os,S,un,D,E,q⟩:=h;have I:v=.bl true:=q;subst I;obtain rfl:u=L4 true:=E;refine ⟨rfl,OldK.of_keep λ b o e=>?_,os,S⟩;cases q:H b with
    | none=>exact un.keep b o e q (by intro z;exact absurd (show b∈([]:List Addr) from z) (by simp)) (by simp)
    | some u=>
     rcases l b with z|⟨ob,xs,z⟩
     ·rw [q] at z;cases z
     ·have G:=un.frzs b ob _ z;obtain ⟨y,_⟩:=p b _ z;obtain ⟨J,_⟩:=D b _ G;rw [e] at y;cases y;exact J
 cases hk:K.lookup a with
 | some o=>
  -- the script is one of the module's own objects
  have e:=KX a o hk;rw [ha] at e;cases e;refine j (λ _=>none) (λ _=>.inl rfl) (.inr ⟨_,vs.toArray,_,hk,rfl,rfl,rfl,by rw [P0,C];exact hl,by simpa using A⟩) (λ b u z=>by have c:(none:Option HO)=some u:=z;cases c) (λ b z=>absurd rfl z) λ z=>absurd rfl z
 | none=>
  refine j (λ b=>if b=a then some (.frz { cls:=.type "list",data:=.seq vs.toArray } (.lst (ns.map V.int))) else none) (λ b=>?_) (.inl (.inr ⟨{ cls:=.type "list",data:=.seq vs.toArray },if_pos rfl⟩)) (λ b u z=>?_) (λ b z=>?_) λ _=>hk
  ·by_cases hb:b=a
   ·exact .inr ⟨_,_,if_pos hb⟩
   ·exact .inl (if_neg hb)
  ·by_cases hb:b=a
   ·have c:=(if_pos hb).symm.trans z;cases c;subst hb;exact ⟨ha,by rw [K0];exact hl,vs,_,A,ha⟩
   ·have c:=(if_neg hb).symm.trans z;cases c
  ·by_cases hb:b=a
   ·exact hb
   ·exact absurd (if_neg hb) z
theorem walk_of {l:PySem.W.OpenLaw} {n k:Nat} {q:Program} {loose:List Str} {XP:(Str->Option Value)->Heap->Prop} {YP:W0->Heap->Prop} {d:DefRec} {K:R0->d0} {CX:W0->CXT} {sp:W0->Sp} {x:Str}
  (hn:l.most=some n) (hn2:n<=sizeLine) (hdf:d.params.defaults=[]) (hr:Room k j10)
  (hY :∀(w:W0) (h:Heap),YP w h->(K w.params).In h)
  (F :∀(w:W0) (mg:Str->Option Value) (fa:Addr) (h:Heap),(K w.params).In h->h.Ns Z2 mg->mg d.name=some (.ref fa)->
   ∃fd:FuncData,(∀(s:A0) (u:Value),BindsTo s fd ⟨[u],[]⟩ [(x,u)])/\
    ∀base:Heap,(K w.params).In base->base.Ns Z2 mg->FnOk l.prog w (K w.params) mg base (CX w) k fa fd [x] (sp w))
  (hsp :∀(w:W0) (H:Hp) (a:Addr) (ns:List Int),ns.length<=n->Only H->SqL (K w.params) H a (ns.map V.int)->sp w [.ref a] H (λ v _=>v=.bl true) λ _ _ _=>False)
  (hCX :∀(w:W0) (H:Hp) (s:A0) (e:Value) (s':A0),CX w [] H s (λ _ _ _=>False) e s'->False) :
  PySem.W.WalkO q loose XP YP l.row.toRowW d [] (λ f vs=>PySem.call f vs):=by
 refine Att.attach_call hn hdf λ w M p mg J fa o B C I a vs ns G Y E L D A i j c t=>?_;have KX:=hY w _ Y;obtain ⟨fd,m,z⟩:=F w mg fa _ KX G.T.g A;exact zk0 KX G.T.g G.T.b G.T.builtins G.T.nolimit t i j (D0 c hn2) hr z m (λ H r y=>hsp w H a ns c r y) λ H e s'=>hCX w H p e s'
noncomputable def zab (s:Stmt):Arguments:=match s with
 | .FunctionDef _ a _ _ _ _ _ _ _ _=>a
 | _=>{ posonlyargs:=[],args:=[],vararg:=none,kwonlyargs:=[],kw_defaults:=[],kwarg:=none,defaults:=[] }
noncomputable def z6j (s:Stmt):List Stmt:=match s with
 | .FunctionDef _ _ b _ _ _ _ _ _ _=>b
 | _=>[]
noncomputable def z06 (s:Stmt):Scope:=match s with
 | .FunctionDef _ _ _ _ _ _ sc _ _ _=>sc
 | _=>{ kind:=.function,names:=[],isGenerator:=false,isCoroutine:=false }
noncomputable abbrev CX0:CXT:=λ _ _ _ _ _ _=>False
noncomputable abbrev E0:XK:=λ _ _ _=>False
theorem pass0 {X:Cx}:Passes CX0 X E0:=λ _ _ _ _ _ _ _ h=>h.elim
structure Fun (K:d0) (x qual:Str) (st:Stmt) (f:Addr) (fd:FuncData):Prop where
 ex :∃(oc:Value) (od:Option Addr) (kV doc pm:Value) (an:Option Addr) (cdv ct:Value) (osl:Array (Option Value)),
  fd=R5 x qual (zab st) (z6j st) (z06 st) .none kV doc pm an cdv ct/\K.lookup f=some ⟨oc,od,.func fd,osl⟩/\t8 K cdv qual=true
 kp:G3 K (.ref f)=true
section
variable {P:Program} {w:W0} {K:d0} {mg:Str->Option Value} {base:Heap}
theorem Fun.ok {x qual:Str} {st:Stmt} {f:Addr} {fd:FuncData} {N ps:List Str} {k:Nat} {sp:Sp} (F:Fun K x qual st f fd) (S:FnScope N ps (z06 st)) (len :∀vs H Q E,sp vs H Q E->vs.length=ps.length)
  (hbody :∀(cdv:Value) (A:Y1) (outer:List Env) (s:A0) (H:Hp) (vs:List V) (Q:VK) (E:XK),Room k (A.deeper (S3 qual (z06 st) s.heap.objs.size f cdv))->sp vs H Q E->
   ∃t,PSs (cxOf CX0 P w K mg base N qual (z06 st) f cdv A outer s H E).nox (z6j st) t/\t { nx:=λ _ H'=>Q .non H',rt:=Q } (start N vs) H):FnOk P w K mg base CX0 (k + 1) f fd ps sp:=by
 obtain ⟨l,e,kV,i,n,j,cdv,g,m,rfl,a,b⟩:=F.ex;refine fn_of a b S len λ A outer s H vs Q E d c=>?_;obtain ⟨t,h,q⟩:=hbody cdv A outer s H vs Q E d c;exact ⟨t,h.nox,q⟩
theorem Fun.binds {x qual:Str} {st:Stmt} {f:Addr} {fd:FuncData} {ps:List Str} (F:Fun K x qual st f fd)
  (h :∀(kV doc pm:Value) (an:Option Addr) (cdv ct:Value) (us:List Value),us.length=ps.length->bindArgs (R5 x qual (zab st) (z6j st) (z06 st) .none kV doc pm an cdv ct) ⟨us,[]⟩=E3 (ps.zip us)):Binds K fd ps []:=by
 obtain ⟨d,a,kV,doc,pm,an,cdv,ct,e,rfl,b,c⟩:=F.ex;exact .all (h kV doc pm an cdv ct)
theorem fun_mk {x qual:Str} {st:Stmt} {f:Addr} {oc:Value} {od an:Option Addr} {osl:Array (Option Value)} {kV doc pm cdv ct:Value} (l:K.lookup f=some ⟨oc,od,.func (R5 x qual (zab st) (z6j st) (z06 st) .none kV doc pm an cdv ct),osl⟩)
  (c:t8 K cdv qual=true) (k:G3 K (.ref f)=true):Fun K x qual st f (R5 x qual (zab st) (z6j st) (z06 st) .none kV doc pm an cdv ct):=⟨⟨oc,od,kV,doc,pm,an,cdv,ct,osl,rfl,l,c⟩,k⟩
end
theorem hu_of {A:Y1} {k:Nat} (hr:Room k A):A.units + 1 < cLine:=Q1 (Nat.add_le_add_left (by decide:1<=64) _) hr.units
section
variable {X:Cx}
theorem pv (i:Nat) {x:Str} {pos:Pos} (hN:X.N[i]? = some x:=by rfl) (hv:Vis X.env.scope x:=by first|exact j1 rfl|exact Z0 (j1 rfl)|exact Z0 (Z0 rfl)) (hd:(x == ("__debug__" : Str))=false:=by decide)
  (hcd:(x == ("__classdict__" : Str))=false:=by decide):PE X (.Name x pos) (tVar i):=pe_var hN hv hd hcd
end
theorem iteF {A B:Prop} (h:B):if false=true then A else B:=by rw [if_neg O0];exact h
theorem iteT {A B:Prop} (h:A):if true=true then A else B:=by rw [if_pos rfl];exact h
theorem ite2 {c A B:Prop} [Decidable c] (h1:c->A) (h2:¬ c->B):if c then A else B:=by
 by_cases h:c
 ·rw [if_pos h];exact h1 h
 ·rw [if_neg h];exact h2 h
def Same (H H':Hp):Prop:=∀b o,H b=some o->H' b=some o
theorem Same.refl (H:Hp):Same H H:=λ _ _ h=>h
theorem Same.trans {H H1 H2:Hp} (a:Same H H1) (b:Same H1 H2):Same H H2:=λ c o h=>b c o (a c o h)
theorem Same.free {H H':Hp} (e:Same H H') {l:Addr} (h:H' l=Option.none):H l=Option.none:=by
 cases q:H l with
 | none=>rfl
 | some o=>rw [e l o q] at h;cases h
theorem Same.seq {K:d0} {H H':Hp} {a:Addr} {xs:List V} (e:Same H H') (h:SqL K H a xs):SqL K H' a xs:=by
 rcases h with (h|⟨o,h⟩)|h
 ·exact .inl (.inl (e _ _ h))
 ·exact .inl (.inr ⟨o,e _ _ h⟩)
 ·exact .inr h
section
variable {κ:Type} [DecidableEq κ]
theorem zcv {p:κ×V} {r:List (κ×V)} {k:κ} (e:p.1=k):dropK (p :: r) k=dropK r k:=by unfold dropK;rw [F4,if_neg (by simp [e])]
theorem zcg {p:κ×V} {r:List (κ×V)} {k:κ} (e:¬ p.1=k):dropK (p :: r) k=p :: dropK r k:=by unfold dropK;rw [F4,if_pos (by simp [e])]
end
end L2
set_option maxHeartbeats 4000000
namespace L2
open PySem PySem.Spec PyProof.Rows
section
variable {prog:Program} {w:W0} {A:Y1} {R:Result->A0->Prop} {s:A0}
theorem zhm {elt target iter:Expr} {ifs:List Expr} {scope:Scope} {pos:Pos} {it acc:Value} {env:Env} (J:Nat->A0->Prop)
  (turn :∀n s,J n s->V0 (E1 prog w) A (j38 it) (λ r s₁=>match r with
   | none=>R (.ok .next) s₁
   | some v=>V0 (E1 prog w) A (c9 target it v) (λ _ s₂=>V0 (E1 prog w) A (assign target env v) (λ _ s₃=>
     V0 (E1 prog w) A (E9 ifs true λ c r=>if r=true then do let ok <-isTrue c env (m3 c env);E3 (O2 ok) else E3 (O2 r)) (λ ok s₄=>
      if ok=true then V0 (E1 prog w) A (m3 elt env) (λ x s₅=>V0 (E1 prog w) A (call (.builtin "list.append") [acc,x]) (λ _ s₆=>∃m,m < n/\J m s₆) (λ _ _=>False) s₅) (λ _ _=>False) s₄
      else∃m,m < n/\J m s₄) (λ _ _=>False) s₃) (λ _ _=>False) s₂) (λ _ _=>False) s₁) (λ _ _=>False) s)
  (n:Nat) (h:J n s):a8 (E1 prog w) A (.compLoop (.ListComp elt [⟨target,iter,ifs,0⟩] scope pos) 0 it acc env) R s:=by
 refine codeAny_loop rfl J (λ n s j=>?_) n h;show V0 _ A ((compTurn (.ListComp elt [⟨target,iter,ifs,0⟩] scope pos) 0 it acc env).onRaise (λ x=>do noteFrame x env;theTreesLotGoes x)) _ _ s;refine wpAny_noted ?_;rw [compTurn_list];refine o0 (wpAny_standAt (o0 (V2 (turn n s j) (λ r s₁ b=>?_) λ _ _ f=>f.elim)));cases r with
 | none=>exact G0 b
 | some v=>
  refine o0 (V2 b (λ _ s₂ i=>o0 (V2 i (λ _ s₃ g=>o0 (V2 g (λ ok s₄ a=>?_) λ _ _ f=>f.elim)) λ _ _ f=>f.elim)) λ _ _ f=>f.elim);cases ok with
  | false=>exact G0 ⟨rfl,a⟩
  | true=>exact o0 (o0 (V2 a (λ x s₅ e=>o0 (V2 e (λ _ s₆ d=>G0 (G0 ⟨rfl,d⟩)) λ _ _ f=>f.elim)) λ _ _ f=>f.elim))
end
theorem z45 {env:Env} :∀(names:List (Str×u6)) (acc:List (Str×Addr)),(∀y∈names,y.2=u2->∃c,env.cells.lookup y.1=some c)->(∀y c,acc.lookup y=some c->env.cells.lookup y=some c)->
  ∃cl,(E9 names acc λ (x:Str×u6) (r:List (Str×Addr))=>(match x with
    | (name,kind)=>if (kind == u2)=true then do let c <-cellOf env name;E3 (O2 ((name,c) :: r)) else E3 (O2 r):Sem (ForInStep (List (Str×Addr)))))=E3 cl/\
   (∀y c,cl.lookup y=some c->env.cells.lookup y=some c)/\(∀y,((y,u2)∈names\/∃c,acc.lookup y=some c)->∃c,cl.lookup y=some c)
 | [],acc,_,ha=>⟨acc,by rw [A5],ha,λ y h=>h.elim (λ z=>nomatch z) id⟩
 | (n,k) :: r,acc,hf,ha=>by
  rw [M5];dsimp only;by_cases hk:k=u2
  ·subst hk;obtain ⟨c,j⟩:=hf (n,.free) C1 rfl;have e:cellOf env n=E3 c:=by unfold cellOf;rw [j]
   rw [if_pos (by rfl),e];obtain ⟨cl,i,g,f⟩:=z45 r ((n,c) :: acc) (λ y a=>hf y (Y0 _ a)) (λ y d b=>by
    rw [E4] at b;by_cases a:(y == n)=true
    ·rw [a] at b;have:=eq_of_beq a;subst this;cases b;exact j
    ·rw [j02] at a;rw [a] at b;exact ha y d b)
   refine ⟨cl,i,g,λ y a=>f y ?_⟩;rcases a with a|⟨d,b⟩
   ·rcases List.mem_cons.mp a with z|z
    ·cases z;exact .inr ⟨c,by rw [E4];simp⟩
    ·exact .inl z
   ·refine .inr ?_;rw [E4];by_cases a:(y == n)=true
    ·rw [a];exact ⟨c,rfl⟩
    ·rw [j02] at a;rw [a];exact ⟨d,b⟩
  ·rw [if_neg (by simpa using hk)];obtain ⟨cl,i,g,f⟩:=z45 r acc (λ y a=>hf y (Y0 _ a)) ha;refine ⟨cl,i,g,λ y a=>f y ?_⟩;rcases a with a|a
   ·rcases List.mem_cons.mp a with z|z
    ·cases z;exact absurd rfl hk
    ·exact .inl z
   ·exact .inr a
theorem zfm {scope:Scope} {env:Env} (hf :∀y∈scope.names,y.2=u2->∃c,env.cells.lookup y.1=some c) :
  ∃cl,closureFor scope env=E3 cl/\(∀y c,cl.lookup y=some c->env.cells.lookup y=some c)/\(∀y,(y,u2)∈scope.names->∃c,cl.lookup y=some c):=by
 obtain ⟨cl,e,d,a⟩:=z45 (env:=env) scope.names [] hf (λ _ _ z=>nomatch z);refine ⟨cl,?_,d,λ y b=>a y (.inl b)⟩;simp only [closureFor];rw [e];rfl
theorem mem_of_lookup {κ:Type} {y:Str} {k:κ} :∀{l:List (Str×κ)},l.lookup y=some k->(y,k)∈l
 | (n,c) :: r,h=>by
  rw [E4] at h;by_cases hy:(y == n)=true
  ·rw [hy] at h;cases h;rw [eq_of_beq hy];exact C1
  ·rw [j02] at hy;rw [hy] at h;exact Y0 _ (mem_of_lookup h)
theorem z62 {scope:Scope} {env:Env} (hcell :∀y∈scope.names,y.2≠NameKind.cell) {y:Str} {k:u6} (h:(Y7 scope env).names.lookup y=some k) (hk:k=.cell\/k=.free):(y,u2)∈scope.names:=by
 have m:=mem_of_lookup h;unfold Y7 at m;obtain ⟨⟨n,c⟩,a,e⟩:=List.mem_map.mp m;dsimp only at e;by_cases hc:(c == u2)=true
 ·have:=eq_of_beq hc;subst this;split at e<;>(injection e with e1 e2;subst e1;exact a)
 ·rw [if_neg (by simp [hc])] at e;injection e with e1 e2;subst e1 e2;rcases hk with rfl|rfl
  ·exact absurd rfl (hcell _ a)
  ·exact absurd rfl hc
noncomputable abbrev cxComp (X:Cx) (scope:Scope) (cl:List (Str×Addr)) (N:List Str) (C:Addr) (s₂:A0) (H₂:Hp) (fp:List Addr):Cx:=
 { X with N:=N,s₀:=s₂,H₀:=H₂,env:=compEnvC scope cl C X.env,outer:=X.stack,stack:=X.stack,ex:=fp,fn:=λ _=>false,pn:=[],xe:=λ _ _=>False }
def PF (X:Cx) (ifs:List Expr) (t:TT):Prop:=
 ∀(pins:List (Addr×Obj)) (s:A0) (σ:St) (H:Hp) (Q:Bool->Hp->Prop),Inv X pins σ H s->t σ H Q->
  V0 (E1 X.prog X.w) X.A (E9 ifs true λ c r=>if r=true then do let ok <-isTrue c X.env (m3 c X.env);E3 (O2 ok) else E3 (O2 r)) (TP X pins σ Q) X.xe s
theorem pf_nil {X:Cx}:PF X [] (λ _ H Q=>Q true H):=λ _ _ _ H _ I h=>wpAny_tests_nil ⟨H,I,h⟩
theorem pf_one {X:Cx} {c:Expr} {t:TT} (h:PT X c t):PF X [c] t:=λ a s σ H Q I q=>wpAny_tests_one (h a s σ H Q I q)
theorem Vals.snoc {xs:List V} {us:List Value} {x:V} {u:Value} (r:Vals xs us) (q:RelV x u):Vals (xs++[x]) (us++[u]):=Vals.append r (.cons q .nil)
def TagOf (H:Hp) (x:V) (T:String):Prop:=match x with
 | .non=>T = "NoneType"
 | .bl _=>T = "bool"
 | .int _=>T = "int"
 | .str _=>T = "str"
 | .ref a=>((∃xs,H a=some (.lst xs))/\T = "list")\/((∃xs,H a=some (.tup xs))/\T = "tuple")\/((∃kvs,H a=some (.dK kvs))/\T = "dict")
 | _=>False
noncomputable def instB (T C:String):Bool:=T == C || (T == "bool" && C == "int")
theorem TagOf.ty {K:d0} {H:Hp} {x:V} {T:String} (h:TagOf H x T):TyOf K H x (.type T):=by
 cases x with
 | non=>cases (show T = "NoneType" from h);exact .non
 | bl b=>cases (show T = "bool" from h);exact .bl b
 | int i=>cases (show T = "int" from h);exact .int i
 | str z=>cases (show T = "str" from h);exact .str z
 | ref a=>
  rcases h with ⟨⟨c,e⟩,rfl⟩|⟨⟨c,e⟩,rfl⟩|⟨⟨c,e⟩,rfl⟩
  ·exact .lst e
  ·exact .tup e
  ·exact .dK e
 | _=>exact h.elim
theorem TagOf.one {H:Hp} {x:V} {T:String} (h:TagOf H x T):T = "NoneType"\/T = "bool"\/T = "int"\/T = "str"\/T = "list"\/T = "tuple"\/T = "dict":=by
 cases x with
 | non=>exact .inl h
 | bl b=>exact .inr (.inl h)
 | int i=>exact .inr (.inr (.inl h))
 | str z=>exact .inr (.inr (.inr (.inl h)))
 | ref a=>rcases h with ⟨_,rfl⟩|⟨_,rfl⟩|⟨_,rfl⟩<;>simp
 | _=>exact h.elim
noncomputable def isiC:List String:=["int","str","bool","tuple","list"]
theorem kit_of (K:d0) {T C:String} (h:T = "NoneType"\/T = "bool"\/T = "int"\/T = "str"\/T = "list"\/T = "tuple"\/T = "dict") (hC:C∈isiC):PySem.W.kitOne K (.type T) (.type C)=some (instB T C):=by
 have hC:C = "int"\/C = "str"\/C = "bool"\/C = "tuple"\/C = "list":=by simpa [isiC] using hC
 rcases h with rfl|rfl|rfl|rfl|rfl|rfl|rfl<;>rcases hC with rfl|rfl|rfl|rfl|rfl<;>kernel_rfl
section
variable {X:Cx}
theorem z0r:CallR X (.builtin "isinstance") (λ xs H Q=>∃x C T,xs=[x,.ty C]/\TagOf H x T/\C∈isiC/\Q (.bl (instB T C)) H):=by intro i s σ H xs g Q I r h;obtain ⟨x,C,T,rfl,a,c,q⟩:=h;obtain ⟨u,e,rfl,f,b⟩:=vals2 r;cases (show e=Q6 C from b);exact zh6 I f a.ty (kit_of X.K a.one c) λ d=>⟨.bl _,H,I.tok d,rfl,q⟩
theorem zhe {ys:List V} {its:List Value} (rv:Vals ys its) (hb :∀y∈ys,∃b,y=V.bl b):((K1 its.length).all λ i=>decide (ys[i]? = some (V.bl true)))=ys.all λ y=>decide (y=V.bl true):=by
 have e:=rv.length;rw [Bool.eq_iff_iff,Q7,Q7];constructor
 ·intro h y d;obtain ⟨i,a,rfl⟩:=List.getElem_of_mem d;have:=h i (List.mem_range.mpr (by omega));simpa [a] using this
 ·intro h i a;have c:i < ys.length:=by have:=List.mem_range.mp a;omega
  have:=h ys[i] (i6 c);simpa [c] using this
theorem zc4 (hc:X.calm=true):CallR X (.builtin "all") (λ xs H Q=>∃p ys,xs=[.ref p]/\SqL X.K H p ys/\(∀y∈ys,∃b,y=V.bl b)/\Q (.bl (ys.all λ y=>decide (y=V.bl true))) H):=by
 intro P s σ H xs M Q I r h;obtain ⟨p,ys,rfl,C,g,q⟩:=h;obtain ⟨u,rfl,n⟩:=vals1 r;cases n;obtain ⟨m,f,c,N⟩:=I.list C;have B:p≠s.heap.objs.size:=by obtain ⟨o,e,_⟩:=c.isList;exact F1 (Q0 e)
 refine call_all_walk (j0f c.isList ?_);refine ⟨s.heap.objs.size,_,_,_,_,_,λ i=>decide (ys[i]? = some (V.bl true)),rfl,Walks.list (show X.A.in1.handled=none from I.ok.hd hc) s.heap.objs.size p B m.toArray,⟨⟨_,A1 _ rfl,rfl,rfl⟩,c.isList.at λ o e=>F0 _ e⟩,?_,?_⟩
 ·intro i v L O J a t;have a:m[i]? = some v:=by simpa using a
  obtain ⟨E,e⟩:=List.getElem?_eq_some_iff.mp a;have d:i < ys.length:=by rw [f.length];exact E
  obtain ⟨b,j⟩:=g ys[i] (i6 d);obtain ⟨u,l,k⟩:=f.get (i:=i) (x:=ys[i]) (by simp [d]);rw [a] at l;cases l;rw [j] at k;cases (show v=L4 b from k);have:decide (ys[i]? = some (V.bl true))=b:=by rw [N0 d,j];cases b<;>simp
  exact T3 (this ▸ t)
 ·intro G w F;have e:=zhe f g;rw [<-P0] at e;refine ⟨.bl _,H,I.kept (t':=w) λ b o z=>F b o ?_ (F0 _ z),rfl,e.symm ▸ q⟩;intro D;rw [List.mem_singleton.mp D] at z;exact absurd (Q0 z) (W3 _)
def CDivB (i j:Int):Prop:=0 < j/\j < 2 ^ 64
theorem zbk:OpR X (O4 .FloorDiv) (rI CDivB λ i j=>.int (i / j)):=opI λ i j _ _ _ _ _ a q=>by
 obtain ⟨b,c⟩:=a;refine floordiv_int (by omega) ?_ (.inl (PyProof.noPylong_of_log2 ?_))
 ·rw [Int.fdiv_eq_ediv_of_nonneg _ (by omega)];exact q
 ·have:j.natAbs.log2 < 64:=(Nat.log2_lt (by omega)).mpr (by omega);omega
structure KDict (K:d0) (P:R0) (a:Addr) (kvs:List (Str×V)):Prop where
 ex :∃es n,K.lookup a=some ⟨.type "dict",none,.dict es n,#[]⟩/\u8 (λ (p:Str×V) (e:DictEntry)=>(∃t,e.key=.str p.1 t)/\e.hash=j0 P p.1/\RelV p.2 e.val) kvs es.toList
 lo:(a == F3)=false
theorem zh3 {kvs:List (Str×V)} {P:R0} :∀{es:List DictEntry},u8 (λ (p:Str×V) (e:DictEntry)=>(∃t,e.key=.str p.1 t)/\e.hash=j0 P p.1/\RelV p.2 e.val) kvs es->∀z,
  RelO (kvs.lookup z) (findBy m7 es.toArray z):=by
 intro es r;induction r with
 | nil=>intro z;exact True.intro
 | @cons p e kvs es h t a=>
  intro z;obtain ⟨⟨g,d⟩,f,c⟩:=h;have a:=a z;unfold findBy at a⊢;rw [List.find?_toArray] at a⊢;rw [o4,E4];have b:m7 z e.key=(z == p.1):=by rw [d];show (p.1 == z)=_;rw [Bool.eq_iff_iff,beq_iff_eq,beq_iff_eq];exact ⟨λ q=>q.symm,λ q=>q.symm⟩
  cases hz:(z == p.1) with
  | true=>rw [b,hz];exact c
  | false=>rw [b,hz];exact a
theorem KDict.mapOf {a:Addr} {kvs:List (Str×V)} (D:KDict X.K X.w.params a kvs) {h:Heap} (k:X.K.In h) :∃f,h.MapOf (strKind X.prog X.w) a f/\∀z,RelO (kvs.lookup z) (f z):=by
 obtain ⟨c,n,d,r⟩:=D.ex;have b:PySem.W.KeysLit X.w.params c.toList:=by
  clear d D;generalize c.toList=l at r;induction r with
  | nil=>exact True.intro
  | cons h t ih=>obtain ⟨⟨i,b⟩,e,j⟩:=h;exact ⟨⟨_,i,b,e⟩,ih⟩
 have g :∀z,RelO (kvs.lookup z) (findBy m7 c.toList.toArray z):=zh3 r;exact ⟨_,PySem.W.mapOf_K (prog:=X.prog) k d b,λ z=>by simpa using g z⟩
theorem zjc {a:Addr} {kvs:List (Str×V)} (D:KDict X.K X.w.params a kvs):OpR X (N2 .In) (λ x y H Q=>∃z,x=.str z/\y=.ref a/\Q (.bl (kvs.lookup z).isSome) H):=by intro g s σ H x y v u Q I e d h;obtain ⟨z,rfl,rfl,q⟩:=h;obtain ⟨t,rfl⟩:=e;cases d;obtain ⟨f,b,c⟩:=D.mapOf I.kIn;refine wpAny_in_of (S8 X.prog X.w z t) D.lo b ⟨.bl _,H,I.tok _,rfl,?_⟩;have:=c z;rw [RelO.isSome_eq this] at q;exact q
theorem ix_kd {a:Addr} {kvs:List (Str×V)} (D:KDict X.K X.w.params a kvs):IxR X (λ x y H Q=>∃z v,x=.ref a/\y=.str z/\kvs.lookup z=some v/\Q v H):=by
 intro l k m s σ H x y v u Q I d j h g;obtain ⟨z,r,rfl,rfl,e,q⟩:=h;cases d;obtain ⟨t,rfl⟩:=j;obtain ⟨f,c,i⟩:=D.mapOf I.kIn;have b:=i z;rw [e] at b;cases ef:f z with
 | none=>rw [ef] at b;exact b.elim
 | some u=>rw [ef] at b;exact j36 c.typeIs slot_dict_getitem.lookup (wpAny_getItem_of (S8 X.prog X.w z t) c ef ⟨r,H,I.tok _,b,q⟩) g
structure KDictT (K:d0) (P:R0) (a:Addr) (kvs:List ((Str×Str)×V)):Prop where
 ex :∃es n,K.lookup a=some ⟨.type "dict",none,.dict es n,#[]⟩/\u8 (λ (p:(Str×Str)×V) (e:DictEntry)=>(∃(b:Addr) (t t':Tok) (m:Nat),e.key=.ref b/\K.lookup b=some ⟨.type "tuple",none,.seq #[.str p.1.1 t,.str p.1.2 t'] m,#[]⟩)/\
  e.hash=N1 (t0 [j0 P p.1.1,j0 P p.1.2])/\RelV p.2 e.val) kvs es.toList
 nd:(kvs.map (·.1)).Nodup
 lo:(a == F3)=false
theorem zh8 {prog:Program} {w:W0} {K:d0} {h:Heap} (k:K.In h) :∀{kvs:List ((Str×Str)×V)} {es:List DictEntry},
  u8 (λ (p:(Str×Str)×V) (e:DictEntry)=>(∃(b:Addr) (t t':Tok) (m:Nat),e.key=.ref b/\K.lookup b=some ⟨.type "tuple",none,.seq #[.str p.1.1 t,.str p.1.2 t'] m,#[]⟩)/\
   e.hash=N1 (t0 [j0 w.params p.1.1,j0 w.params p.1.2])/\RelV p.2 e.val) kvs es->
  ∃xs:List (List Str×Addr×Value),es=xs.map (entryOfKey (Z5 (strKind prog w)))/\(∀x∈xs,(Z5 (strKind prog w)).is h x.1 x.2.1)/\xs.map (·.1)=kvs.map (λ p=>[p.1.1,p.1.2])/\
   ∀a b,RelO (kvs.lookup (a,b)) ((L8 xs [a,b]).map (·.2)):=by
 intro kvs es r;induction r with
 | nil=>exact ⟨[],rfl,λ x f=>absurd f C0,rfl,λ a b=>True.intro⟩
 | @cons p e kvs es hpe t ih=>
  obtain ⟨xs,y,s,q,o⟩:=ih;obtain ⟨⟨b,D,C,m,l,A⟩,j,u⟩:=hpe;refine ⟨([p.1.1,p.1.2],b,e.val) :: xs,?_,?_,?_,?_⟩
  ·rw [J1,<-y];congr 1;obtain ⟨n,v,B⟩:=e;have l:v=.ref b:=l;have j:n=_:=j;subst l j;rfl
  ·intro x f;rcases List.mem_cons.mp f with rfl|f
   ·exact ⟨_,_,m,k _ _ A,rfl,rfl,.cons (S8 prog w _ _) (.cons (S8 prog w _ _) .nil)⟩
   ·exact s x f
  ·rw [J1,J1,q]
  ·intro c d;have:=o c d;rw [E4];unfold L8 at this⊢;rw [o4];by_cases hcd:(c,d)=p.1
   ·have i:((c,d) == p.1)=true:=by rw [beq_iff_eq];exact hcd
    rw [i];have g:decide ([p.1.1,p.1.2]=[c,d])=true:=by rw [<-hcd];simp
    rw [g];exact u
   ·have i:((c,d) == p.1)=false:=by rw [beq_eq_false_iff_ne];exact hcd
    rw [i];have g:decide ([p.1.1,p.1.2]=[c,d])=false:=by rw [decide_eq_false_iff_not];intro z;injection z with z1 z;injection z with z2 _;exact hcd (Prod.ext z1.symm z2.symm)
    rw [g];exact this
theorem z7o :∀{l:List (Str×Str)},l.Nodup->(l.map λ p=>[p.1,p.2]).Nodup
 | [],_=>List.nodup_nil
 | p :: r,h=>by obtain ⟨c,a⟩:=List.nodup_cons.mp h;rw [J1];refine List.nodup_cons.mpr ⟨λ m=>c ?_,z7o a⟩;obtain ⟨q,b,e⟩:=List.mem_map.mp m;injection e with e1 e;injection e with e2 _;have:q=p:=Prod.ext e1 e2;exact this ▸ b
theorem KDictT.dict {a:Addr} {kvs:List ((Str×Str)×V)} (D:KDictT X.K X.w.params a kvs) {h:Heap} (k:X.K.In h) :∃xs,h.DictOfH (Z5 (strKind X.prog X.w)) a xs/\∀c d,RelO (kvs.lookup (c,d)) ((L8 xs [c,d]).map (·.2)):=by obtain ⟨g,n,e,r⟩:=D.ex;obtain ⟨xs,i,f,b,j⟩:=zh8 (prog:=X.prog) (w:=X.w) k r;refine ⟨xs,⟨_,g,n,k _ _ e,⟨rfl,rfl,rfl⟩,rfl,i,f,?_⟩,j⟩;rw [b];have:=z7o D.nd;rw [R3] at this;exact this
theorem zig {pins:List (Addr×Obj)} {σ:St} {H:Hp} {s:A0} {p:Addr} {c d:Str} (I:Inv X pins σ H s) (hp:H p=some (.tup [.str c,.str d])):(Z5 (strKind X.prog X.w)).is s.heap [c,d] p:=by
 obtain ⟨_,i,a,⟨o,e,f,n,b⟩,_⟩:=(show ObjOk X.prog X.w H s.heap p (.tup [.str c,.str d]) from I.hok p _ hp)
 cases a with
 | cons r1 a=>
  cases a with
  | cons r2 a=>cases a;obtain ⟨h,rfl⟩:=r1;obtain ⟨g,rfl⟩:=r2;exact ⟨o,_,n,e,f,b,.cons (S8 X.prog X.w _ _) (.cons (S8 X.prog X.w _ _) .nil)⟩
theorem zal {a:Addr} {kvs:List ((Str×Str)×V)} (hu:X.A.units + 1 < cLine) (D:KDictT X.K X.w.params a kvs) :
  OpR X (N2 .NotIn) (λ x y H Q=>∃p c d,x=.ref p/\H p=some (.tup [.str c,.str d])/\y=.ref a/\Q (.bl (!(kvs.lookup (c,d)).isSome)) H):=by
 intro j s σ H x y v u Q I i f h;obtain ⟨p,c,d,rfl,g,rfl,q⟩:=h;cases i;cases f;obtain ⟨l,b,e⟩:=D.dict I.kIn;refine wpAny_notIn_heap (k:=[c,d]) hu (zig I g) D.lo b ⟨.bl _,H,I.tok _,rfl,?_⟩;have:=RelO.isSome_eq (e c d);rw [b7] at this;rw [this] at q;exact q
theorem ix_kdt {a:Addr} {kvs:List ((Str×Str)×V)} (hu:X.A.units + 1 < cLine) (D:KDictT X.K X.w.params a kvs) :
  IxR X (λ x y H Q=>∃p c d v,x=.ref a/\y=.ref p/\H p=some (.tup [.str c,.str d])/\kvs.lookup (c,d)=some v/\Q v H):=by
 intro t o B s σ H x y v u Q I i m h j;obtain ⟨p,c,d,r,rfl,rfl,g,e,q⟩:=h;cases i;cases m;obtain ⟨n,f,l⟩:=D.dict I.kIn;have b:=l c d;rw [e] at b;cases ef:L8 n [c,d] with
 | none=>rw [ef] at b;exact b.elim
 | some z=>rw [ef] at b;exact j36 f.typeIs slot_dict_getitem.lookup (wpAny_getItem_heap (k:=[c,d]) hu (zig I g) f ef ⟨r,H,I.tok _,b,q⟩) j
end
structure Cal (P:Program) (w:W0) (K:d0) (mg:Str->Option Value) (base:Heap) (x:Str) (ps:List Str) (k:Nat) (sp:Sp):Prop where
 ex :∃f fd,FnOk P w K mg base CX0 k f fd ps sp/\mg x=some (.ref f)/\G3 K (.ref f)=true/\Binds K fd ps []
section
variable {X:Cx} {x:Str} {ps:List Str} {k:Nat} {sp:Sp} {e:Expr} {es:List Expr} {t:TA} {p pos:Pos}
theorem pe_cal (c:Cal X.prog X.w X.K X.mg X.base x ps k sp) (hr:Room k X.A) (hg:Gl X x) (ha:PA X (e :: es) t) (hn:x≠"__name__":=by decide) (hdb:(x == ("__debug__" : Str))=false:=by decide)
  (he:B1 (e :: es) X.env=(false,m3 e X.env) :: B1 es X.env:=by rfl) (hpl:(Q3 pos (B1 es X.env)).any (·.1)=false:=by rfl):PE X (.Call (.Name x p) (e :: es) [] pos) (tCall sp [] E0 t):=by
 obtain ⟨f,g,F,a,d,b⟩:=c.ex;exact zi9 F hr hg a d b .nil pass0 ha hdb he hpl
end
structure TX (K:d0) (mg:Str->Option Value):Prop where
 of :∀{n:Str} {v:Value},Q5 K Z2 n=some (some v)->mg n=some v
 no :∀{n:Str},Q5 K Z2 n=some none->mg n=none
theorem TX.mk' {K:d0} {mg:Str->Option Value} {h:Heap} (X:K.In h) (G:h.Ns Z2 mg):TX K mg:=⟨λ e=>PySem.W.mg_of X G e,λ e=>PySem.W.mg_none_of X G e⟩
section
variable {X:Cx}
noncomputable def rAdd4 (K:d0):R2:=λ x y H Q=>(∃i j,x=.int i/\y=.int j/\Q (.int (i + j)) H)\/(∃i j,x=.str i/\y=.str j/\i.length + j.length<=sizeLine/\Q (.str (i++j)) H)\/rCat x y H Q\/rCatT K x y H Q
theorem opAdd:OpR X (O4 .Add) (rAdd4 X.K):=op_add.or (op_add_str.or (op_cat.or z9d))
theorem opEq:OpR X (N2 .Eq) rEq:=op_eq
theorem opNe:OpR X (N2 .NotEq) rNe:=op_ne
theorem z1c:CallR X (.builtin "len") (λ xs H Q=>(∃p ys,xs=[.ref p]/\(SqL X.K H p ys\/SqT X.K H p ys)/\Q (.int ys.length) H)\/∃z,xs=[.str z]/\z.length<=sizeLine/\Q (.int z.length) H):=call_len_seq.or zbo
end
noncomputable def z12 (x:V) (g:Int):Bool:=match x with
 | .int i=>decide (-g<=i) && decide (i<=g)
 | _=>false
noncomputable def tupOf (H:Hp) (x:V):Option (List V):=match x with
 | .ref a=>(match H a with|some (.tup xs)=>some xs|_=>none)
 | _=>none
theorem zf5 {H H':Hp} {x:V} {T:String} (t:TagOf H x T) (e:Same H H'):tupOf H' x=tupOf H x:=by
 cases x with
 | ref a=>rcases t with ⟨⟨b,h⟩,_⟩|⟨⟨b,h⟩,_⟩|⟨⟨b,h⟩,_⟩<;>(unfold tupOf;dsimp only;rw [h,e a _ h])
 | _=>rfl
theorem TagOf.same {H H':Hp} {x:V} {T:String} (t:TagOf H x T) (e:Same H H'):TagOf H' x T:=by
 cases x with
 | ref a=>
  rcases t with ⟨⟨b,h⟩,z⟩|⟨⟨b,h⟩,z⟩|⟨⟨b,h⟩,z⟩
  ·exact .inl ⟨⟨b,e a _ h⟩,z⟩
  ·exact .inr (.inl ⟨⟨b,e a _ h⟩,z⟩)
  ·exact .inr (.inr ⟨⟨b,e a _ h⟩,z⟩)
 | _=>exact t
theorem TagOf.tuple {H:Hp} {x:V} (t:TagOf H x "tuple") :∃a xs,x=.ref a/\H a=some (.tup xs):=by
 cases x with
 | ref a=>
  rcases t with ⟨_,z⟩|⟨⟨xs,h⟩,_⟩|⟨_,z⟩
  ·exact absurd z (by decide)
  ·exact ⟨a,xs,rfl,h⟩
  ·exact absurd z (by decide)
 | non=>exact absurd (show "tuple" = "NoneType" from t) (by decide)
 | bl b=>exact absurd (show "tuple" = "bool" from t) (by decide)
 | int i=>exact absurd (show "tuple" = "int" from t) (by decide)
 | str z=>exact absurd (show "tuple" = "str" from t) (by decide)
 | _=>exact t.elim
theorem TagOf.int {H:Hp} {x:V} (t:TagOf H x "int") :∃i,x=.int i:=by
 cases x with
 | ref a=>rcases t with ⟨_,z⟩|⟨_,z⟩|⟨_,z⟩<;>exact absurd z (by decide)
 | non=>exact absurd (show "int" = "NoneType" from t) (by decide)
 | bl b=>exact absurd (show "int" = "bool" from t) (by decide)
 | int i=>exact ⟨i,rfl⟩
 | str z=>exact absurd (show "int" = "str" from t) (by decide)
 | _=>exact t.elim
theorem TagOf.str {H:Hp} {x:V} (t:TagOf H x "str") :∃z,x=.str z:=by
 cases x with
 | ref a=>rcases t with ⟨_,z⟩|⟨_,z⟩|⟨_,z⟩<;>exact absurd z (by decide)
 | non=>exact absurd (show "str" = "NoneType" from t) (by decide)
 | bl b=>exact absurd (show "str" = "bool" from t) (by decide)
 | int i=>exact absurd (show "str" = "int" from t) (by decide)
 | str z=>exact ⟨z,rfl⟩
 | _=>exact t.elim
theorem noInt {H:Hp} {x:V} {T:String} (t:TagOf H x T) (h:T≠"int") (g:Int):z12 x g=false:=by
 cases x with
 | int i=>exact absurd t h
 | _=>rfl
theorem noTup {H:Hp} {x:V} {T:String} (t:TagOf H x T) (h:T≠"tuple"):tupOf H x=none:=by
 cases x with
 | ref a=>
  rcases t with ⟨⟨b,e⟩,_⟩|⟨_,z⟩|⟨⟨b,e⟩,_⟩
  ·unfold tupOf;dsimp only;rw [e]
  ·exact absurd z h
  ·unfold tupOf;dsimp only;rw [e]
 | _=>rfl
theorem z8k {H:Hp} {x:V} {T:String} (t:TagOf H x T) {C:String} (h:C≠"int"):instB T C=decide (T=C):=by
 unfold instB;have:(C == "int")=false:=by simpa using h
 rw [this,R8,Bool.or_false,Bool.beq_eq_decide_eq]
def Flat (H:Hp) (x:V):Prop:=∀xs,tupOf H x=some xs->xs.length<=1000/\∀y∈xs,∃T,TagOf H y T
theorem zb5 {α β:Type} [BEq α] [LawfulBEq α] {l:List (α×β)} {a:α} {b:β} (h:l.lookup a=some b):(a,b)∈l:=by
 induction l with
 | nil=>cases h
 | cons p r ih=>
  obtain ⟨c,d⟩:=p;rw [E4] at h;cases hc:(a == c) with
  | true=>rw [hc] at h;cases h;rw [eq_of_beq hc];exact C1
  | false=>rw [hc] at h;exact Y0 _ (ih h)
theorem z5y {names:List (Str×u6)} {Q:Str×u6->Prop} (h:(names.all λ y=>y.2 != u2)=true) :∀y∈names,y.2=u2->Q y:=λ y a e=>by have:=List.all_eq_true.mp h y a;rw [e] at this;exact absurd this (by decide)
theorem Same.upd {H:Hp} {p:Addr} {o:HO} (h:H p=none):Same H (upd H p o):=λ b u e=>by rw [upd_ne (z08 e h)];exact e
theorem Same.seqT {K:d0} {H H':Hp} {a:Addr} {xs:List V} (e:Same H H') (h:SqT K H a xs):SqT K H' a xs:=by
 rcases h with (h|⟨o,h⟩)|h
 ·exact .inl (.inl (e _ _ h))
 ·exact .inl (.inr ⟨o,e _ _ h⟩)
 ·exact .inr h
theorem zg2 {H:Hp} {x:V} {xs:List V} (h:tupOf H x=some xs) :∃a,x=.ref a/\H a=some (.tup xs):=by
 unfold tupOf at h;cases x with
 | ref a=>
  dsimp only at h;split at h
  ·rename_i ys e;exact ⟨a,rfl,by rw [e,S1 h]⟩
  ·cases h
 | _=>cases h
end L2
namespace L2
open PySem PySem.Spec PyProof.Rows
open Builtin.Str (occurrences partsBetween strKind)
section
variable {X:Cx}
theorem zbu {vl:Value} {lo:Option Int} (p:X8 vl lo) :∃l:Option (Int×Tok),vl=partValue l/\l.map (·.1)=lo:=by
 cases p with
 | none=>exact ⟨none,rfl,rfl⟩
 | int i t=>exact ⟨some (i,t),rfl,rfl⟩
end
end L2
namespace L2
open PySem PySem.Spec PyProof.Rows
section
variable {X:Cx}
def rSlS:V->Option Int->Option Int->Hp->VK->Prop:=λ x lo hi H Q=>∃z,x=.str z/\z.length<=sizeLine/\Q (.str (Txt.slice z lo hi)) H
theorem sl_str:SlR X rSlS:=by
 intro r s σ H x v j m o p n Q I c f b e h;obtain ⟨z,rfl,i,q⟩:=h;obtain ⟨t,rfl⟩:=c;obtain ⟨l,rfl,g⟩:=zbu b;obtain ⟨u,rfl,a⟩:=zbu e;subst g a;refine ⟨"str",_,F.slot_str_getitem.lookup,typeIs_str _ _ _,wpAny_getItem_str_slice (l:=l) (u:=u) (st:=none) f rfl
  (post_val_or_str ⟨D0 (Txt.slice_le z _ _) i,λ d k=>⟨.str (Txt.slice z _ _),H,I.tok k,⟨d,rfl⟩,q⟩⟩)⟩
theorem slSeq:SlR X (λ x lo hi H Q=>rSlL X.K x lo hi H Q\/rSlT X.K x lo hi H Q\/rSlS x lo hi H Q):=sl_list.or (sl_tup.or sl_str)
theorem zgm:CallR X (.type "int") (λ xs H Q=>∃z n,xs=[.str z]/\PySem.intText? z=some n/\z.length<=640/\Q (.int n) H):=by intro d s σ H xs c Q I r h;obtain ⟨z,n,rfl,a,b,q⟩:=h;obtain ⟨u,rfl,t,rfl⟩:=vals1 r;exact PySem.W.KIN.call_text a b ⟨.int n,H,I.tok _,⟨_,rfl⟩,q⟩
theorem zb8:CallR X (.type "int") (λ xs H Q=>((∃i,xs=[.int i]/\Q (.int i) H)\/∃k,xs=[.bl k]/\Q (.int (if k then 1 else 0)) H)\/∃z n,xs=[.str z]/\PySem.intText? z=some n/\z.length<=640/\Q (.int n) H):=call_int1.or zgm
end
def RowAt (H:Hp) (r:Addr):Prop:=∃a b c:Int,H r=some (.lst [.int a,.int b,.int c])/\0<=c/\c < 536870909
def Kept (r:Addr) (H H':Hp):Prop:=∀b o,b≠r->H b=some o->H' b=some o
theorem Kept.refl {r:Addr} {H:Hp}:Kept r H H:=λ _ _ _ h=>h
theorem Kept.trans {r:Addr} {H H1 H2:Hp} (a:Kept r H H1) (b:Kept r H1 H2):Kept r H H2:=λ c o n h=>b c o n (a c o n h)
theorem Same.kept {r:Addr} {H H':Hp} (s:Same H H'):Kept r H H':=λ b o _ h=>s b o h
theorem Kept.set {r:Addr} {H:Hp} {o:HO}:Kept r H (upd H r o):=λ b u n h=>by rw [upd_ne n];exact h
structure Rw (r:Addr) (H H':Hp):Prop where
 k:Kept r H H'
 r:RowAt H' r
theorem atI_of {α:Type} {xs:List α} {t:Int} (h0:0<=t) (h1:t < xs.length) :∃v,atI xs t=some v/\v∈xs:=by
 have a:t.toNat < xs.length:=by omega
 refine ⟨xs[t.toNat],?_,i6 a⟩;have:=z07 (xs:=xs) (j:=t.toNat) (v:=xs[t.toNat]) (by simp [a]);rw [Int.toNat_of_nonneg h0] at this;exact this
section
variable {r:Addr} {σ:St} {H0:Hp} {K:d0}
theorem g_name {i:Nat} {v:V} {σ:St} {H:Hp} {Q:St->Hp->Prop} (h:Q (σ.set i (some v)) H):gName i v σ H Q:=h
theorem t_nx {nx ct bk:St->Hp->Prop} {rt:VK} {σ:St} {H:Hp} (h:nx σ H):Ends.nx { nx:=nx,rt:=rt,bk:=bk,ct:=ct } σ H:=h
theorem t_next {nx ct bk:St->Hp->Prop} {rt:VK} {σ:St} {H:Hp} (h:nx σ H):tNext { nx:=nx,rt:=rt,bk:=bk,ct:=ct } σ H:=h
end
end L2
namespace L2
open PySem
section
variable {prog:Program} {w:W0} {A:Y1} {E:Value->A0->Prop} {s:A0}
theorem tupOn {it t:Addr} {i:Nat} {its:Array Value} {x:Value} {Q:Value->A0->Prop} (a:s.heap.IsTupleIter it t i) (b:s.heap.IsTuple t its) (c:its[i]? = some x)
  (q :∀h',h'.IsTupleIter it t (i + 1)->U5 it s.heap h'->Q x { s with heap:=h' }):V0 (E1 prog w) A (K4 (.ref it)) Q E s:=by
 obtain ⟨o,e,f,d⟩:=id a;obtain ⟨p,h,_,n,g⟩:=b;unfold K4;refine o0 (U3 (name:=R6 "__next__") a.typeIs G5 (j3 G5 a.typeIs j25 (show V0 _ _ (field (.ref it) 0 >>= _) _ _ s from o0 (N6 e d (x:=.ref t) rfl ?_)) (j1f _)));show V0 _ _ (if (Value.ref t == X2)=true then _ else (field (.ref it) 1 >>= _)) _ _ s;rw [if_neg (by exact O0)];refine o0 (N6 e d (x:=.int i 0) rfl (show V0 _ _ (seqItems? (.ref t) >>= _) _ _ s from o0 (j34 h g ?_)));simp only [Y5,c];refine o0 (C9 e d (by simp) (G0 ⟨x,rfl,G0 (q _ ⟨_,E8 _ e (Obj.isFreed_of_fields (Obj.data_mapFields d _)),(Obj.cls_mapFields ..).trans f,?_⟩ (T4 ..))⟩));rw [Obj.data_mapFields d];simp [j19]
theorem tupOff {it t:Addr} {i:Nat} {its:Array Value} {Q:Value->A0->Prop} (hh:A.handled=none) (a:s.heap.IsTupleIter it t i) (b:s.heap.IsTuple t its) (c:its[i]? = none)
  (q :∀h' e,Heap.ExtBut it s.heap h'->(∃o,h'.get? e=some o/\o.cls=.type "StopIteration")->E (.ref e) { s with heap:=h' }):V0 (E1 prog w) A (K4 (.ref it)) Q E s:=by
 obtain ⟨o,d,j,f⟩:=id a;obtain ⟨p,h,_,n,g⟩:=b;unfold K4;refine o0 (U3 (name:=R6 "__next__") a.typeIs G5 (j3 G5 a.typeIs j25 (show V0 _ _ (field (.ref it) 0 >>= _) _ _ s from o0 (N6 d f (x:=.ref t) rfl ?_)) (j1f _)));show V0 _ _ (if (Value.ref t == X2)=true then _ else (field (.ref it) 1 >>= _)) _ _ s;rw [if_neg (by exact O0)];refine o0 (N6 d f (x:=.int i 0) rfl (show V0 _ _ (seqItems? (.ref t) >>= _) _ _ s from o0 (j34 h g ?_)));simp only [Y5,c];refine o0 (j04 (o0 (C9 d f (by simp) (show V0 _ _ (newExc (.type "StopIteration") [] >>= _) _ _ _ from o0 ?_))));simp only [newExc,newTuple];refine o0 (B3 (o0 (m:=F9 _ _) (wpAny_of_eq (a:=X2) (by first|rfl|(simp only [F9];rfl)) (B3 ?_ (by size_fits)))) (by size_fits));simp only [raiseNew];refine o0 (wpAny_handled ?_);first|rw [show A.in1.handled=none from hh]|rw [hh]
 exact o0 (G0 (wpAny_throw (q _ _ (((T4 ..).extBut.push _).push _) ⟨_,A1 _ rfl,rfl⟩)))
structure ZApart (z T U i j a b:Addr):Prop where
 dis:[z,T,U,i,j].Nodup
 fa:a∉[z,T,U,i,j]
 fb:b∉[z,T,U,i,j]
structure ZAt (h:Heap) (z T U i j a b:Addr) (n:Nat) (f:Value):Prop where
 z:IsZip h z T U f
 t:IsPair h T (.ref i) (.ref j)
 u :∃p q,IsPair h U p q
 i:h.IsTupleIter i a n
 j:h.IsTupleIter j b n
end
end L2
namespace L2
open PySem PySem.Spec PyProof.Rows
inductive Dt where
 | non|bl (b:Bool)|int (i:Int)|str (z:Str)|tup (ds:List Dt)
mutual
noncomputable def IsDt (K:d0) (H:Hp):Dt->V->Prop
 | .non,v=>v=.non
 | .bl b,v=>v=.bl b
 | .int i,v=>v=.int i
 | .str z,v=>v=.str z
 | .tup ds,v=>∃a xs,v=.ref a/\SqT K H a xs/\IsDts K H ds xs
noncomputable def IsDts (K:d0) (H:Hp):List Dt->List V->Prop
 | [],xs=>xs=[]
 | d :: ds,xs=>∃x r,xs=x :: r/\IsDt K H d x/\IsDts K H ds r
end
mutual
theorem IsDt.same' {K:d0} {H H':Hp} (s:Same H H') :∀(d:Dt) (v:V),IsDt K H d v->IsDt K H' d v
 | .non,v,h=>h
 | .bl b,v,h=>h
 | .int i,v,h=>h
 | .str z,v,h=>h
 | .tup ds,v,h=>by obtain ⟨a,c,rfl,e,r⟩:=h;exact ⟨a,c,rfl,s.seqT e,IsDts.same' s ds c r⟩
theorem IsDts.same' {K:d0} {H H':Hp} (s:Same H H') :∀(d:List Dt) (v:List V),IsDts K H d v->IsDts K H' d v
 | [],xs,h=>h
 | d :: ds,xs,h=>by obtain ⟨x,r,rfl,a,b⟩:=h;exact ⟨x,r,rfl,IsDt.same' s d x a,IsDts.same' s ds r b⟩
end
theorem IsDt.same {K:d0} {H H':Hp} {d:Dt} {v:V} (h:IsDt K H d v) (s:Same H H'):IsDt K H' d v:=IsDt.same' s d v h
theorem IsDts.mk2 {K:d0} {H:Hp} {d e:Dt} {x y:V} (a:IsDt K H d x) (b:IsDt K H e y):IsDts K H [d,e] [x,y]:=⟨x,[y],rfl,a,y,[],rfl,b,rfl⟩
theorem IsDt.mkT {K:d0} {H:Hp} {p:Addr} {xs:List V} {ds:List Dt} (h:H p=some (.tup xs)) (r:IsDts K H ds xs):IsDt K H (.tup ds) (.ref p):=⟨p,xs,rfl,SqT.of h,r⟩
mutual
noncomputable def Dt.deep:Dt->Nat
 | .tup ds=>Dt.deeps ds + 1
 | _=>0
noncomputable def Dt.deeps:List Dt->Nat
 | []=>0
 | d :: ds=>max d.deep (Dt.deeps ds)
noncomputable def Dt.plain:Dt->Bool
 | .int _=>true
 | .str _=>true
 | .tup ds=>Dt.plains ds
 | _=>false
noncomputable def Dt.plains:List Dt->Bool
 | []=>true
 | d :: ds=>d.plain && Dt.plains ds
end
section
variable {X:Cx}
theorem zla {i:Nat} {x:Str} {p pos:Pos} {e:Expr} {es:List Expr} {t:TA} (tb:Addr->Sp->Prop) (hN:X.N[i]? = some x) (hv:Vis X.env.scope x)
  (G :∀f sp,tb f sp->∃k fd ps,FnOk X.prog X.w X.K X.mg X.base CX0 k f fd ps sp/\Room k X.A/\G3 X.K (.ref f)=true/\Binds X.K fd ps [])
  (ha:PA X (e :: es) t) (hd:(x == ("__debug__" : Str))=false:=by decide) (hcd:(x == ("__classdict__" : Str))=false:=by decide)
  (he:B1 (e :: es) X.env=(false,m3 e X.env) :: B1 es X.env:=by rfl) (hpl:(Q3 pos (B1 es X.env)).any (·.1)=false:=by rfl) :
  PE X (.Call (.Name x p) (e :: es) [] pos) (λ σ H Q=>∃f sp,σ[i]? = some (some (.ref f))/\tb f sp/\t σ H λ vs H1=>sp vs H1 Q E0):=by
 intro a s σ H Q I h;obtain ⟨f,sp,l,d,h⟩:=h;obtain ⟨k,fd,ps,F,m,j,g⟩:=G f sp d;refine U4 (thn (pe_var hN hv hd hcd a s σ H (λ v c=>v=.ref f/\c=H) I ⟨_,l,rfl,rfl⟩) λ u b ⟨v,H0,I0,r0,ev,eH⟩=>?_);subst ev eH;obtain rfl:u=Value.ref f:=r0;refine K5 (h₀:=X.base) I0.ok.mod.kin j (thn (ha pos a b σ _ _ I0 h) λ o n ⟨vs,H1,I1,r,q⟩=>⟨I1.kIn,?_⟩) he hpl;exact run_fn F m g .nil pass0 I1 r (by rw [J2];exact q)
theorem Inv.turnedL {pins:List (Addr×Obj)} {σ:St} {H:Hp} {s:A0} {h':Heap} {t':Nat} {fp:List Addr} (I:Inv X pins σ H s) (k :∀b o,b∉fp->s.heap.get? b=some o->h'.get? b=some o) (hf :∀b∈fp,FpOk X pins H b) :
  Inv X pins σ H { s with heap:=h',toks:=t' }:=by
 have f :∀b u,H b=some u->b∉fp:=λ b u e z=>by have:=(hf b z).1;rw [this] at e;cases e
 refine I.step (g':=s.gens) (d':=s.drawn) (ch:=fp) (λ b d=>⟨(hf b d).2.2.2.1,(hf b d).2.1,(hf b d).2.2.2.2.1,(hf b d).2.2.2.2.2⟩) (λ b o _ _ a e _=>k b o a e) (λ b o _ _ a e _=>⟨o.slots,k b o a e⟩) (λ _ _ _ _ n=>n)
  (λ b o a e=>⟨o,k b o a e⟩) (λ _ _ e=>e) (λ _ _ _ e=>e) (λ b l e=>⟨#[],by rw [e];simp⟩) (λ m g=>?_) (λ b u e=>?_) I.bare
 ·obtain ⟨o,i,h,j,r⟩:=g;exact ⟨o,i,h,k _ o (λ z=>(hf _ z).2.1 rfl) j,r⟩
 ·refine (I.hok b u e).stay (λ c v a q=>k c v ?_ q) (λ _ q=>q) λ _ _ q=>q;rcases a with z|z
  ·rw [z];exact f b u e
  ·exact f c _ z
theorem Inv.turnedLaid {pins:List (Addr×Obj)} {σ:St} {H:Hp} {s:A0} {h':Heap} {t':Nat} {fp:List Addr} {a:Addr} {o:HO} (I:Inv X pins σ H s) (k :∀b o,b∉fp->s.heap.get? b=some o->h'.get? b=some o) (hf :∀b∈fp,FpOk X pins H b)
  (hp:s.heap.objs.size<=a) (new:ObjOk X.prog X.w (upd H a o) h' a o):Inv X pins σ (upd H a o) { s with heap:=h',toks:=t' }:=by
 have l:H a=none:=I.hok.fresh hp;have h :∀b u,H b=some u->b∉fp:=λ b u e z=>by have:=(hf b z).1;rw [this] at e;cases e
 have g :∀b u,H b=some u->upd H a o b=some u:=λ b u e=>by rw [upd_ne (z08 e l)];exact e
 refine I.step (g':=s.gens) (d':=s.drawn) (ch:=fp) (λ b d=>⟨(hf b d).2.2.2.1,(hf b d).2.1,(hf b d).2.2.2.2.1,(hf b d).2.2.2.2.2⟩) (λ b o _ _ f e _=>k b o f e) (λ b o _ _ f e _=>⟨o.slots,k b o f e⟩)
  (λ b u _ e n=>by rw [upd_ne (λ z=>by subst z;exact absurd (Q0 e) (Nat.not_lt.mpr hp))];exact n)
  (λ b o f e=>⟨o,k b o f e⟩) (λ _ _ e=>g _ _ e) (λ _ _ _ e=>g _ _ e) (λ b y e=>⟨#[],by rw [g _ _ e];simp⟩) (λ m j=>?_) (λ b u e=>?_) I.bare
 ·obtain ⟨o,p,t,i,r⟩:=j;exact ⟨o,p,t,k _ o (λ z=>(hf _ z).2.1 rfl) i,r⟩
 ·by_cases d:b=a
  ·subst d;rw [z01] at e;cases e;exact new
  ·rw [upd_ne d] at e;refine (I.hok b u e).stay (λ c v f q=>k c v ?_ q) (λ c q=>g _ _ q) λ c x q=>g _ _ q;rcases f with z|z
   ·rw [z];exact h b u e
   ·exact h c _ z
theorem zdx:OpR X (O4 .Add) (λ x y H Q=>∃a b ys,x=.ref a/\y=.ref b/\SqT X.K H a []/\SqT X.K H b ys/\Q (.ref b) H):=by intro M s σ H x y v u Q I p w h;obtain ⟨a,b,ys,rfl,rfl,l,m,q⟩:=h;cases p;cases w;obtain ⟨G,k,j,_⟩:=I.tuple l;obtain ⟨B,J,A,_⟩:=I.tuple m;cases k;obtain ⟨⟨E,C,F,o⟩,f,g,z,e⟩:=id j;obtain ⟨⟨L,r,D,n⟩,c,d,t,i⟩:=id A;simp only at g e d i;subst g e d i;exact concat_meets ⟨_,f,rfl⟩ ⟨_,c,rfl⟩ j1a seq_tuple_add N7 A7 (Z6 _ _) (tuple_addW0 a b ([]:List Value).toArray B.toArray z t C r o n (by simp)) ⟨f,c,⟨.ref b,H,I,rfl,q⟩⟩
noncomputable def rCatS (K:d0):R2:=λ x y H Q=>∃a b xs ys,x=.ref a/\y=.ref b/\SqT K H a xs/\SqT K H b ys/\ys≠[]/\xs.length + ys.length<=sizeLine/\∀p H',Same H H'->SqT K H' p (xs++ys)->Q (.ref p) H'
theorem op_catS:OpR X (O4 .Add) (rCatS X.K):=by
 intro j s σ H x y v u Q I f i h;obtain ⟨a,b,d,g,rfl,rfl,e,c,l,m,q⟩:=h;cases d with
 | nil=>exact zdx j s σ H _ _ v u Q I f i ⟨a,b,g,rfl,rfl,e,c,q b H (Same.refl H) c⟩
 | cons x d=>exact z9d j s σ H _ _ v u Q I f i ⟨a,b,x :: d,g,rfl,rfl,e,c,by simp,m,λ z=>absurd z l,λ _ p k=>q p _ (Same.upd k) (SqT.of z01)⟩
theorem z1x {o e:Expr} {es:List Expr} {to:TE} {t:TA} {apos cpos:Pos} (ho:PE X o to) (ha:PA X (e :: es) t)
  (hbase:G4 o "append" X.env (m3 o X.env)=m3 o X.env:=by rfl)
  (hfew:((Q3 cpos (B1 (e :: es) X.env)).all (λ x=>!x.1) && (K8 cpos (c6 [] X.env)).all (λ x=>x.1.isSome)
   && decide ((e :: es).length + ([]:List N5).length + (if ([]:List N5).isEmpty then 0 else 1) < 30))=true:=by rfl)
  (hline:(apos.endLine == cpos.line)=true:=by rfl) (hs:B1 (e :: es) X.env=(false,m3 e X.env) :: B1 es X.env:=by rfl) (hplain:(Q3 cpos (B1 es X.env)).any (·.1)=false:=by rfl) :
  PE X (.Call (.Attribute o "append" apos) (e :: es) [] cpos) (tBM X.K "list" zew to t):=pe_bm z7 PySem.F.slot_list_append PySem.F.type_list_append zh1 ho ha hbase hfew hline hs hplain
end
def KeptL (L:List Addr) (H H':Hp):Prop:=∀b o,b∉L->H b=some o->H' b=some o
theorem KeptL.refl {L:List Addr} {H:Hp}:KeptL L H H:=λ _ _ _ h=>h
theorem KeptL.trans {L:List Addr} {H H1 H2:Hp} (a:KeptL L H H1) (b:KeptL L H1 H2):KeptL L H H2:=λ c o n h=>b c o n (a c o n h)
theorem Same.keptL {L:List Addr} {H H':Hp} (s:Same H H'):KeptL L H H':=λ b o _ h=>s b o h
theorem KeptL.set {L:List Addr} {H:Hp} {l:Addr} {o:HO} (h:l∈L):KeptL L H (upd H l o):=λ b u n e=>by rw [upd_ne (λ z=>n (by rw [z];exact h))];exact e
mutual
theorem IsDt.mono' {K:d0} {H H':Hp} (s :∀a xs,SqT K H a xs->SqT K H' a xs) :∀(d:Dt) (v:V),IsDt K H d v->IsDt K H' d v
 | .non,v,h=>h
 | .bl b,v,h=>h
 | .int i,v,h=>h
 | .str z,v,h=>h
 | .tup ds,v,h=>by obtain ⟨a,xs,rfl,e,r⟩:=h;exact ⟨a,xs,rfl,s _ _ e,IsDts.mono' s ds xs r⟩
theorem IsDts.mono' {K:d0} {H H':Hp} (s :∀a xs,SqT K H a xs->SqT K H' a xs) :∀(d:List Dt) (v:List V),IsDts K H d v->IsDts K H' d v
 | [],xs,h=>h
 | d :: ds,xs,h=>by obtain ⟨x,r,rfl,a,b⟩:=h;exact ⟨x,r,rfl,IsDt.mono' s d x a,IsDts.mono' s ds r b⟩
end
theorem SqT.wrote {K:d0} {H:Hp} {l a:Addr} {o:HO} {zs xs:List V} (e:H l=some (.lst zs)) (h:SqT K H a xs):SqT K (upd H l o) a xs:=by
 rcases h with (h|⟨ob,h⟩)|h
 ·exact .inl (.inl (by rw [upd_ne (ne_of h e (by intro z;cases z))];exact h))
 ·exact .inl (.inr ⟨ob,by rw [upd_ne (ne_of h e (by intro z;cases z))];exact h⟩)
 ·exact .inr h
section
variable {prog:Program} {w:W0} {A:Y1} {E:Value->A0->Prop} {s:A0}
theorem zj6 {v:Value} {Q:Value->A0->Prop} {ns:List Int} (hn:ns.length < 64)
  (hc :∀R:List Value->A0->Prop,(∀h' tk vs,(∀b o,s.heap.get? b=some o->h'.get? b=some o)->Y8 vs ns->R vs { s with heap:=h',toks:=tk })->V0 (E1 prog w) A.in1 (collect v) R E s)
  (h :∀(h1 h':Heap) (tk:Nat) (out:Array Value) (ns':List Int) (e:Nat),(∀b o,s.heap.get? b=some o->h1.get? b=some o)->(∀b o,h1.get? b=some o->h'.get? b=some o)->h'.get? h1.objs.size=some { cls:=.type "list",data:=.seq out e }->Y8 out.toList ns'->ns'.Perm ns->ns'.Pairwise (·<=·)->Q (.ref h1.objs.size) { s with heap:=h',toks:=tk }) :
  V0 (E1 prog w) A (call (.builtin "sorted") [v]) Q E s:=by
 refine c7 kind_sorted plain_sorted entry_sorted (args_sorted1 _) ?_;unfold C7.«sorted»;refine o0 (m:=checkCount "sorted" 1 1 _) (G0 (o0 (hc _ λ h1 tk vs l f=>?_)));have d:vs.length < 64:=by rw [f.length];exact hn
 refine o0 (X9 ?_ (D0 (d3 d) (by decide)));have a:(h1.push (X6 "list" vs.toArray 0)).get? h1.objs.size=some (X6 "list" vs.toArray 0):=A1 _ rfl;refine o0 (i4 (j3 j37 ⟨_,a,rfl⟩ j2b (list_sort_tree a f d λ out ns' k j g=>⟨_,rfl,?_⟩) (j39 _)));obtain ⟨e,i⟩:=sortedHeap_at (out:=out) a;refine G0 ⟨_,rfl,h h1 _ tk out ns' e l (λ b o c=>?_) i k j g⟩;have lt:=Q0 c;refine (sortedHeap_old (F1 lt) ?_).trans (F0 _ c);rw [size_push'];exact Z1 lt
end
section
variable {X:Cx}
def srt (ns:List Int) (H:Hp) (Q:VK):Prop:=∀(l:Addr) (ns':List Int),H l=none->ns'.Perm ns->ns'.Pairwise (·<=·)->Q (.ref l) (upd H l (.lst (ns'.map V.int)))
theorem zlj {pins:List (Addr×Obj)} {σ:St} {H:Hp} {s:A0} {Q:VK} {ns:List Int} {h1 h':Heap} {tk:Nat} {out:Array Value} {ns':List Int} {e:Nat} (I:Inv X pins σ H s) (hn:ns.length < 64) (q:srt ns H Q)
  (k1 :∀b o,s.heap.get? b=some o->h1.get? b=some o) (k2 :∀b o,h1.get? b=some o->h'.get? b=some o) (g:h'.get? h1.objs.size=some { cls:=.type "list",data:=.seq out e }) (i:Y8 out.toList ns') (p:ns'.Perm ns) (r:ns'.Pairwise (·<=·)) :
  EP X pins σ Q (.ref h1.objs.size) { s with heap:=h',toks:=tk }:=by
 have a:Inv X pins σ H { s with heap:=h1 }:=I.kept (t':=s.toks) k1;refine ⟨.ref h1.objs.size,_,a.laid (t':=tk) (o:=.lst (ns'.map V.int)) k2 (B0 _) ⟨?_,out.toList,e,z8r i,by simpa using g⟩,rfl,q _ ns' (a.hok.fresh (B0 _)) p r⟩;rw [K0,p.length_eq];exact D0 (d3 hn) (by decide)
theorem z2g:CallR X (.builtin "sorted") (λ xs H Q=>∃a ns,xs=[.ref a]/\(SqL X.K H a (ns.map V.int)\/SqT X.K H a (ns.map V.int))/\ns.length < 64/\srt ns H Q):=by
 intro G s σ H xs B Q I r h;obtain ⟨a,ns,rfl,b,w,q⟩:=h;obtain ⟨u,rfl,x⟩:=vals1 r;cases x;refine zj6 w (λ R v=>?_) λ D d C F E e y A g i p r=>zlj I w q y A g i p r;rcases b with b|b
 ·obtain ⟨z,c,f,m⟩:=I.list b;obtain ⟨o,j,l,n,t⟩:=f.isList;exact j0i a (.inl rfl) j l t (λ d k=>v d s.toks _ k (by simpa using za8 c)) (by rw [P0,<-c.length];exact m)
 ·obtain ⟨z,c,f,m⟩:=I.tuple b;obtain ⟨o,j,l,n,t⟩:=f;exact j0i a (.inr rfl) j l t (λ d k=>v d s.toks _ k (by simpa using za8 c)) (by rw [P0,<-c.length];exact m)
end
theorem iteP {c A B:Prop} [Decidable c] (hc:c) (h:A):if c then A else B:=by rw [if_pos hc];exact h
theorem iteN {c A B:Prop} [Decidable c] (hc:¬ c) (h:B):if c then A else B:=by rw [if_neg hc];exact h
theorem z57 (i:Int) (ns:List Int):inV (.int i) (ns.map V.int)=decide (i∈ns):=by
 unfold inV;rw [j32,Bool.eq_iff_iff,m6,decide_eq_true_eq];constructor
 ·rintro ⟨x,hx,e⟩;have e:(x == i)=true:=e;rw [beq_iff_eq] at e;exact e ▸ hx
 ·intro h;exact ⟨i,h,by show (i == i)=true;simp⟩
theorem z3f (ns:List Int):(ns.map V.int).all flatV=true:=by rw [Q7];intro x a;obtain ⟨i,_,rfl⟩:=List.mem_map.mp a;rfl
theorem zke {names:List (Str×u6)} {n:Str} {Q:Str×u6->Prop} (h:(names.all λ y=>y.2 != u2 || y.1 == n)=true) (q :∀k,Q (n,k)) :∀y∈names,y.2=u2->Q y:=λ y c e=>by
 have:=List.all_eq_true.mp h y c;rw [e] at this;have:(y.1 == n)=true:=by simpa using this
 obtain ⟨a,b⟩:=y;rw [beq_iff_eq] at this;have:a=n:=this;subst this;exact q b
theorem ObjOk.there {P:Program} {w:W0} {H:Hp} {h:Heap} {a:Addr} {o:HO} (x:ObjOk P w H h a o) :∃ob,h.get? a=some ob:=by
 cases o with
 | lst xs=>obtain ⟨_,_,_,_,e⟩:=x;exact ⟨_,e⟩
 | tup xs=>obtain ⟨_,_,_,⟨o,e,_⟩,_⟩:=x;exact ⟨_,e⟩
 | dK kvs=>obtain ⟨_,_,_,_,o,_,_,e,_⟩:=x;exact ⟨_,e⟩
 | dT kvs=>obtain ⟨_,_,_,_,o,_,_,e,_⟩:=x;exact ⟨_,e⟩
 | set S n=>obtain ⟨o,_,_,_,e,_⟩:=x;exact ⟨_,e⟩
 | ins C dx fs=>obtain ⟨_,_,_,e,_⟩:=x;exact ⟨_,e⟩
 | own y=>exact x
 | xd fs=>obtain ⟨_,⟨o,_,_,e,_⟩,_⟩:=x;exact ⟨_,e⟩
 | rng lo hi=>obtain ⟨_,_,_,e⟩:=x;exact ⟨_,e⟩
 | frz ob u=>obtain ⟨e,_⟩:=x;exact ⟨_,e⟩
 | tbl ps=>exact ⟨_,show h.get? a=some _ from x⟩
 | met f y=>exact ⟨_,show h.get? a=some _ from x⟩
 | ext φ=>exact x.2.1
noncomputable def CXE (P:Program) (w:W0) (base:Heap):CXT:=λ outer H s E e s'=>∃(ea:Addr) (cls a0:Value) (B:Heap) (H':Hp),e=.ref ea/\s'.os=s.os/\i8 s'.gens/\Un (frs outer) [] H H' s.heap s'.heap/\HOk P w H' s'.heap/\H' ea=none/\
 base.StaysIn B/\j33 B outer ea cls a0 s'.heap/\(∀b o,s'.heap.get? b=some o->b∉frs outer->((∃u,H' b=some u)\/∃u,s.heap.get? b=some u)->B.get? b=some o)/\E cls none H'
theorem passN {X:Cx}:Passes (CXE X.prog X.w X.base) X E0:=λ _ _ _ _ _ _ _ ⟨_,_,_,_,_,_,_,_,_,_,_,_,_,_,z⟩=>z.elim
theorem zer {env:Env} {l:List Env} {L:Addr} (h:env.frame=some L):frs (env :: l)=L :: frs l:=by unfold frs;rw [K6,h]
section
variable {P:Program} {w:W0} {K:d0} {mg:Str->Option Value} {base:Heap} {N:List Str} {qual:Str} {scope:Scope} {f:Addr} {cd:Value} {A:Y1} {outer:List Env} {s:A0} {H:Hp} {E:XK}
theorem passE:Passes (CXE P w base) (cxOf (CXE P w base) P w K mg base N qual scope f cd A outer s H E) E:=by
 intro a7 σ Z x e r I c;obtain ⟨ea,a3,a0,B,C,rfl,os,a5,un,Y,R,hB,fl,keep,hE⟩:=c;have T:frs (S3 qual scope s.heap.objs.size f cd :: outer)=s.heap.objs.size :: frs outer:=zer rfl;have X :∀b o,r.heap.get? b=some o->b∉s.heap.objs.size :: frs outer->((∃u,C b=some u)\/∃u,x.heap.get? b=some u)->B.get? b=some o:=λ b o e a D=>keep b o e (by rw [show frs (cxOf (CXE P w base) P w K mg base N qual scope f cd A outer s H E).stack=_ from T];exact a) D;have p:Un (s.heap.objs.size :: frs outer) [] Z C x.heap r.heap:=T ▸ un;have h:Un (frs outer) [] H Z s.heap x.heap:=I.base;have O :∀b o,s.heap.get? b=some o->b≠s.heap.objs.size:=λ b o e=>F1 (Q0 e);have V :∀b∈s.heap.objs.size :: frs outer,C b=none:=λ b a=>by
  rcases List.mem_cons.mp a with rfl|a
  ·obtain ⟨m,R,_⟩:=I.loc;obtain ⟨o,_,_,G,_⟩:=R;exact p.free _ o G I.free (by simp)
  ·obtain ⟨_,o,G,_⟩:=I.ok.funs.mem a;obtain ⟨l,J⟩:=h.there b o G (by simp);exact p.free b l J (h.free b o G (I.ok.frf b a) (by simp)) (by simp)
 show V0 (E1 P w) _ («leaving» _ _) _ _ r;refine wpAny_leaves_onW I.ok.frames rfl fl λ F U up=>?_;have stay :∀b o,r.heap.get? b=some o->b∉s.heap.objs.size :: frs outer->((∃u,C b=some u)\/∃u,x.heap.get? b=some u)->F.get? b=some o:=λ b o e a D=>U.1 b o (X b o e a D);have W :∀b o,b∈frs outer->r.heap.get? b=some o->∃M,F.get? b=some { o with slots:=M }:=λ b o a e=>by
  obtain ⟨_,l,J,hd⟩:=fl.2.2.1.mem (show b∈(S3 qual scope s.heap.objs.size f cd :: outer).filterMap (·.frame) from by show b∈frs (S3 qual scope s.heap.objs.size f cd :: outer);rw [T];exact Y0 _ a);rw [e] at J;cases J;exact up b o e hd
 have there :∀b o,s.heap.get? b=some o->∃k j,x.heap.get? b=some k/\r.heap.get? b=some j:=λ b o e=>by obtain ⟨k,d⟩:=h.there b o e (by simp);obtain ⟨j,i⟩:=p.there b k d (by simp);exact ⟨k,j,d,i⟩
 refine ⟨ea,a3,a0,B,C,rfl,os.trans I.os,a5,⟨λ b o e n a _=>?_,λ b o e n a _=>?_,λ b o e n _=>?_,λ b o e _=>?_,λ b xs e=>p.tups b xs (h.tups b xs e),λ b o u e=>p.frzs b o u (h.frzs b o u e),λ b ps e=>?_⟩,λ b u e=>?_,R,hB,U,λ b o e a D=>?_,hE⟩
 ·have d:=h.keep b o e n a (by simp);have L:b∉s.heap.objs.size :: frs outer:=λ z=>(List.mem_cons.mp z).elim (O b o e) a;exact stay b o (p.keep b o d (h.free b o e n (by simp)) L (by simp)) L (.inr ⟨o,d⟩)
 ·obtain ⟨M,d⟩:=h.slot b o e n a (by simp);obtain ⟨a6,i⟩:=p.slot b _ d (h.free b o e n (by simp)) (Y0 _ a) (by simp);obtain ⟨a4,Q⟩:=W b _ a i;exact ⟨a4,Q⟩
 ·obtain ⟨k,j,d,i⟩:=there b o e;exact p.free b k d (h.free b o e n (by simp)) (by simp)
 ·obtain ⟨k,j,d,i⟩:=there b o e;by_cases a:b∈frs outer
  ·obtain ⟨M,Q⟩:=W b j a i;exact ⟨_,Q⟩
  ·exact ⟨j,stay b j i (λ z=>(List.mem_cons.mp z).elim (O b o e) a) (.inr ⟨k,d⟩)⟩
 ·obtain ⟨m1,d⟩:=h.tbls b ps e;obtain ⟨m2,i⟩:=p.tbls b _ d;exact ⟨m1++m2,by rw [i,Array.append_assoc]⟩
 ·refine (Y b u e).stay (λ c v y q=>stay c v q ?_ (.inl ?_)) (λ _ q=>q) λ _ _ q=>q
  ·intro z;have:=V c z;rcases y with rfl|y
   ·rw [e] at this;cases this
   ·rw [y] at this;cases this
  ·rcases y with rfl|y
   ·exact ⟨u,e⟩
   ·exact ⟨_,y⟩
 ·have a1 :∀l,r.heap.get? b=some l->b∉s.heap.objs.size :: frs outer->((∃u,C b=some u)\/∃u,x.heap.get? b=some u)->B.get? b=some o:=λ l S L a2=>by have g:=X b l S L a2;have:=U.1 b l g;rw [show ({ r with heap:=F }:A0).heap.get? b=F.get? b from rfl,this] at e;cases e;exact g
  rcases D with ⟨u,t⟩|⟨u,t⟩
  ·obtain ⟨l,S⟩:=(Y b u t).there;refine a1 l S (λ z=>?_) (.inl ⟨u,t⟩);rw [V b z] at t;cases t
  ·obtain ⟨k,j,d,i⟩:=there b u t;exact a1 j i (λ z=>(List.mem_cons.mp z).elim (O b u t) a) (.inr ⟨k,d⟩)
theorem raiseE {pins:List (Addr×Obj)} {σ:St} {H1:Hp} {s1:A0} {h':Heap} {ea C:Addr} {args:List Value} (I:Inv (cxOf (CXE P w base) P w K mg base N qual scope f cd A outer s H E) pins σ H1 s1) (hx:Heap.MadeExcOf s1.heap h' ea (.ref C) args) (hE:E (.ref C) none H1) :
  (cxOf (CXE P w base) P w K mg base N qual scope f cd A outer s H E).xe (.ref ea) { s1 with heap:=h' }:=by
 have p:frs (S3 qual scope s.heap.objs.size f cd :: outer)=s.heap.objs.size :: frs outer:=zer rfl;have h:Un (frs outer) [] H H1 s.heap s1.heap:=I.base;have y :∀b o,s.heap.get? b=some o->b≠s.heap.objs.size:=λ b o e=>F1 (Q0 e);have F:s1.heap.FunFrames base (S3 qual scope s.heap.objs.size f cd :: outer):=I.stack;have R :∀r∈(S3 qual scope s.heap.objs.size f cd :: outer),∀a,r.frame=some a->a∈s.heap.objs.size :: frs outer:=λ r U a S=>by rw [<-p];exact List.mem_filterMap.mpr ⟨r,U,S⟩
 have L :∀b∈s.heap.objs.size :: frs outer,H1 b=none:=λ b d=>by have:=I.stkFree b (by rw [show frs (cxOf (CXE P w base) P w K mg base N qual scope f cd A outer s H E).stack=_ from p];exact d);exact this
 have T:base.StaysIn (W9 s1.heap (s.heap.objs.size :: frs outer)):=λ b o e=>A6 _ (I.bk b o e) λ V=>by have:=(F.mem (show b∈(S3 qual scope s.heap.objs.size f cd :: outer).filterMap (·.frame) from (show b∈frs (S3 qual scope s.heap.objs.size f cd :: outer) from by rw [p];exact V))).1;rw [e] at this;cases this
 show V0 (E1 P w) _ («leaving» _ _) _ _ _;refine wpAny_leaves_madeW (s:={ s1 with heap:=h' }) I.ok.frames rfl (λ b o q=>j3d _ q) (PySem.W.funFrames_hide F R) hx λ m t J _ _ X=>?_;have stay :∀b o,s1.heap.get? b=some o->b∉s.heap.objs.size :: frs outer->m.get? b=some o:=λ b o e d=>J.1 b o (A6 _ e d);have M :∀b o,b∈frs outer->s1.heap.get? b=some o->∃x,m.get? b=some { o with slots:=x }:=λ b o d e=>by
  obtain ⟨_,i,O,hd⟩:=F.mem (show b∈(S3 qual scope s.heap.objs.size f cd :: outer).filterMap (·.frame) from by show b∈frs (S3 qual scope s.heap.objs.size f cd :: outer);rw [p];exact Y0 _ d);rw [e] at O;cases O;exact X b o (hx.keeps b o e) hd
 have a0:H1 ea=none:=by
  cases q:H1 ea with
  | none=>rfl
  | some u=>obtain ⟨o,e⟩:=(I.hok ea u q).there;rw [hx.new] at e;cases e
 refine ⟨ea,.ref C,.ref t,_,H1,rfl,I.os,I.bare,⟨λ b o e n d _=>?_,λ b o e n d _=>?_,λ b o e n _=>h.free b o e n (by simp),λ b o e _=>?_,h.tups,h.frzs,h.tbls⟩,λ b u e=>?_,a0,T,J,λ b o e d hi=>?_,hE⟩
 ·exact stay b o (h.keep b o e n d (by simp)) λ z=>(List.mem_cons.mp z).elim (y b o e) d
 ·obtain ⟨x,j⟩:=h.slot b o e n d (by simp);obtain ⟨Y,D⟩:=M b _ d j;exact ⟨Y,D⟩
 ·obtain ⟨l,j⟩:=h.there b o e (by simp);by_cases d:b∈frs outer
  ·obtain ⟨x,D⟩:=M b l d j;exact ⟨_,D⟩
  ·exact ⟨l,stay b l j λ z=>(List.mem_cons.mp z).elim (y b o e) d⟩
 ·refine (I.hok b u e).stay (λ c v B q=>stay c v q λ z=>?_) (λ _ q=>q) λ _ _ q=>q;have:=L c z;rcases B with rfl|B
  ·rw [e] at this;cases this
  ·rw [B] at this;cases this
 ·have Q :∀i,s1.heap.get? b=some i->b∉s.heap.objs.size :: frs outer->(W9 s1.heap (s.heap.objs.size :: frs outer)).get? b=some o:=λ i G Z=>by have g:=A6 _ G Z;have:=J.1 b i g;rw [show ({ s1 with heap:=m }:A0).heap.get? b=m.get? b from rfl,this] at e;cases e;exact g
  rcases hi with ⟨u,k⟩|⟨u,k⟩
  ·obtain ⟨i,G⟩:=(I.hok b u k).there;refine Q i G λ z=>?_;rw [L b z] at k;cases k
  ·obtain ⟨l,j⟩:=h.there b u k (by simp);exact Q l j λ z=>(List.mem_cons.mp z).elim (y b u k) d
end
theorem PS.nox {X:Cx} {st:Stmt} {t:TS} (h:PS X.nox st t):PS X st t:=λ b s σ H D I a=>V2 (h b s σ H D (I.wish _) a) (λ _ _ q=>q.unwish) λ _ _ z=>i3 z
theorem own_in {K:d0} {h₀:Heap} {mg:Str->Option Value} {x:Str} {C:Addr} {bmB:List Value} {newId:String} (X:K.In h₀) (hm:mg x=some (.ref C)) (q:N8 K C bmB newId=true):OwnCls x C bmB newId mg h₀:=by
 refine ⟨hm,?_⟩;unfold N8 at q;split at q
 ·rename_i dd cd sl ho;split at q
  ·rename_i C' bm k0 k1 k2 k3 n k5 hm' hs;simp only [Y2,beq_iff_eq,Bool.not_eq_true'] at q;obtain ⟨⟨⟨⟨⟨rfl,rfl⟩,c⟩,i⟩,a⟩,b⟩:=q;obtain ⟨h,bs,p,m,f,e,g,k,j,d,o⟩:=cd;obtain ⟨l⟩:=sl;dsimp only at hm' c a b hs;subst hm' c hs;exact ⟨bm,m,h,f,bs,e,g,k,j,d,dd,k0,k1,k2,k3,k5,_,X _ _ ho,.of_isNs (PySem.W.isNs_of_in X a),PySem.W.nsMap_none_of_in X a b,PySem.W.tail_of_in X i⟩
  ·cases q
 ·cases q
noncomputable def tRaise (C:Addr) (E:XK) (t:TA):TS:=λ _ σ H=>t σ H λ vs H1=>vs.length<=sizeLine/\E (.ref C) none H1
section
variable {P:Program} {w:W0} {K:d0} {mg:Str->Option Value} {base:Heap} {N:List Str} {qual:Str} {scope:Scope} {f:Addr} {cd:Value} {A:Y1} {outer:List Env} {s:A0} {H:Hp} {E:XK}
theorem zgv {x:Str} {C:Addr} {B newId initId:String} {bm:List Value} {e0:Expr} {es:List Expr} {np cpos pos:Pos} {t:TA} (FB:ExcBaseFacts B newId initId bm) (hm:mg x=some (.ref C)) (hK:N8 K C bm newId=true)
  (hg:Gl (cxOf (CXE P w base) P w K mg base N qual scope f cd A outer s H E) x) (ha:PA (cxOf (CXE P w base) P w K mg base N qual scope f cd A outer s H E) (e0 :: es) t)
  (hdb:(x == ("__debug__" : Str))=false:=by decide)
  (he:B1 (e0 :: es) (S3 qual scope s.heap.objs.size f cd)=(false,m3 e0 (S3 qual scope s.heap.objs.size f cd)) :: B1 es (S3 qual scope s.heap.objs.size f cd):=by rfl)
  (hpl:(Q3 cpos (B1 es (S3 qual scope s.heap.objs.size f cd))).any (·.1)=false:=by rfl) :
  PS (cxOf (CXE P w base) P w K mg base N qual scope f cd A outer s H E) (.Raise (some (.Call (.Name x np) (e0 :: es) [] cpos)) none pos) (tRaise C E t):=by
 intro l d σ j D I h;have O:OwnCls x C bm newId mg base:=own_in I.ok.mod.kin hm hK;obtain ⟨k,i,nm,q,bs,hdct,sn,sub,ab,col,dd,k0,k1,k2,k3,k5,mN,c,b,g,T⟩:=O.obj;have a:=ha cpos l d σ j _ I h;refine wpAny_Raise_call_subT (C:=C) (nm:=nm) (q:=q) (N:=i) (bs:=bs) (bm:=k) (hdct:=hdct) (sn:=sn) (sub:=sub) (ab:=ab) (col:=col) (dd:=dd) (k0:=k0) (k1:=k1) (k2:=k2) (k3:=k3) (k5:=k5)
  FB (mN:=mN) (T.hasType FB.hasBase) (I.ok.hd rfl) (by show (Q3 cpos (B1 (e0 :: es) (S3 qual scope s.heap.objs.size f cd))).any (·.1)=false;rw [he];show (false || (Q3 cpos (B1 es (S3 qual scope s.heap.objs.size f cd))).any (·.1))=false;rw [hpl];rfl) g (z7j I hg O.bound ⟨rfl,?_⟩ hdb)
 have e:B1 (e0 :: es) (cxOf (CXE P w base) P w K mg base N qual scope f cd A outer s H E).env=(false,m3 e0 (S3 qual scope s.heap.objs.size f cd)) :: B1 es (S3 qual scope s.heap.objs.size f cd):=he;rw [e] at a⊢;exact y6 (V2 a (λ p o ⟨vs,H2,I2,r,hl,hE⟩=>⟨rfl,by rw [<-r.length];exact hl,I2.bk _ _ c,b.keeps I2.bk,T.keeps I2.bk,λ m n hm=>raiseE I2 hm hE⟩) λ _ _ y=>y)
theorem Fun.okE {x qual:Str} {st:Stmt} {f:Addr} {fd:FuncData} {N ps:List Str} {k:Nat} {sp:Sp} (F:Fun K x qual st f fd) (S:FnScope N ps (z06 st)) (len :∀vs H Q E,sp vs H Q E->vs.length=ps.length)
  (hbody :∀(cdv:Value) (A:Y1) (outer:List Env) (s:A0) (H:Hp) (vs:List V) (Q:VK) (E:XK),Room k (A.deeper (S3 qual (z06 st) s.heap.objs.size f cdv))->sp vs H Q E->
   ∃t,PSs (cxOf (CXE P w base) P w K mg base N qual (z06 st) f cdv A outer s H E) (z6j st) t/\t { nx:=λ _ H'=>Q .non H',rt:=Q } (start N vs) H):FnOk P w K mg base (CXE P w base) (k + 1) f fd ps sp:=by
 obtain ⟨j,e,kV,h,m,i,cdv,g,l,rfl,a,b⟩:=F.ex;exact fn_of a b S len λ A outer s H vs Q E d c=>hbody cdv A outer s H vs Q E d c
end
structure CalE (P:Program) (w:W0) (K:d0) (mg:Str->Option Value) (base:Heap) (x:Str) (ps:List Str) (k:Nat) (sp:Sp):Prop where
 ex :∃f fd,FnOk P w K mg base (CXE P w base) k f fd ps sp/\mg x=some (.ref f)/\G3 K (.ref f)=true/\Binds K fd ps []
section
variable {X:Cx} {x:Str} {ps:List Str} {k:Nat} {sp:Sp} {e:Expr} {es:List Expr} {t:TA} {p pos:Pos}
theorem zle {E:XK} (hx:Passes (CXE X.prog X.w X.base) X E) (c:CalE X.prog X.w X.K X.mg X.base x ps k sp) (hr:Room k X.A) (hg:Gl X x) (ha:PA X (e :: es) t) (hn:x≠"__name__":=by decide) (hdb:(x == ("__debug__" : Str))=false:=by decide)
  (he:B1 (e :: es) X.env=(false,m3 e X.env) :: B1 es X.env:=by rfl) (hpl:(Q3 pos (B1 es X.env)).any (·.1)=false:=by rfl):PE X (.Call (.Name x p) (e :: es) [] pos) (tCall sp [] E t):=by
 obtain ⟨f,g,F,a,d,b⟩:=c.ex;exact zi9 F hr hg a d b .nil hx ha hdb he hpl
end
noncomputable def ExcO (ea:Addr) (cls:Value):HO:=.ext λ h=>∃o,h.get? ea=some o/\o.cls=cls
theorem zlo {P:Program} {w:W0} {H:Hp} {h:Heap} {ea:Addr} {cls:Value} {o:Obj} (e:h.get? ea=some o) (c:o.cls=cls):ObjOk P w H h ea (ExcO ea cls):=
 ⟨⟨o,e,c⟩,⟨o,e⟩,λ _ _ ⟨o,e,c⟩ k=>⟨o,k o e,c⟩⟩
theorem Un.track {fs ex:List Addr} {H H1:Hp} {h h1:Heap} {a:Addr} {o:HO} (u:Un fs ex H H1 h h1) (hn:h.get? a=none) (hf:H1 a=none):Un fs ex H (upd H1 a o) h h1 where
 keep:=u.keep
 slot:=u.slot
 free:=λ b d q n e=>by
  have:b≠a:=λ z=>by subst z;rw [hn] at q;cases q
  rw [upd_ne this];exact u.free b d q n e
 there:=u.there
 tups:=λ b g q=>by have c:=u.tups b g q;rw [upd_ne (z08 c hf)];exact c
 frzs:=λ b d x q=>by have c:=u.frzs b d x q;rw [upd_ne (z08 c hf)];exact c
 tbls:=λ b f q=>by obtain ⟨m,c⟩:=u.tbls b f q;exact ⟨m,by rw [upd_ne (z08 c hf)];exact c⟩
theorem HOk.track {P:Program} {w:W0} {H:Hp} {h:Heap} {a:Addr} {o:HO} (x:HOk P w H h) (hf:H a=none) (new:ObjOk P w (upd H a o) h a o):HOk P w (upd H a o) h:=λ b u e=>by
 by_cases hb:b=a
 ·subst hb;rw [z01] at e;cases e;exact new
 ·rw [upd_ne hb] at e;exact (x b u e).stay (λ _ _ _ q=>q) (λ c q=>by rw [upd_ne (z08 q hf)];exact q) λ c d q=>by rw [upd_ne (z08 q hf)];exact q
section
variable {P:Program} {w:W0} {base B:Heap} {outer:List Env} {H H':Hp} {h h1 h6:Heap} {ea:Addr} {cls a0:Value}
theorem fly_un (fu:h.FunFrames base outer) (frf :∀b∈frs outer,H b=none) (un:Un (frs outer) [] H H' h h1) (hok:HOk P w H' h1) (fl:j33 B outer ea cls a0 h1)
  (keep :∀b o,h1.get? b=some o->b∉frs outer->((∃u,H' b=some u)\/∃u,h.get? b=some u)->B.get? b=some o)
  (fl6:j33 B outer ea cls a0 h6) (up:h1.UpToSlots h6):Un (frs outer) [] H H' h h6/\HOk P w H' h6/\h.get? ea=none:=by
 have stay :∀b o,h1.get? b=some o->b∉frs outer->((∃u,H' b=some u)\/∃u,h.get? b=some u)->h6.get? b=some o:=λ b o e a C=>fl6.1 b o (keep b o e a C);have m :∀b o,b∈frs outer->h1.get? b=some o->∃j,h6.get? b=some { o with slots:=j }:=λ b o a e=>by obtain ⟨_,t,g,l⟩:=fl.2.2.1.mem a;rw [e] at g;cases g;exact up b o e l
 have r :∀b∈frs outer,H' b=none:=λ b a=>by obtain ⟨_,o,x,_⟩:=fu.mem a;exact un.free b o x (frf b a) (by simp)
 refine ⟨⟨λ b o e n a _=>?_,λ b o e n a _=>?_,un.free,λ b o e _=>?_,un.tups,un.frzs,un.tbls⟩,λ b u e=>?_,?_⟩
 ·exact stay b o (un.keep b o e n a (by simp)) a (.inr ⟨o,e⟩)
 ·obtain ⟨j,f⟩:=un.slot b o e n a (by simp);obtain ⟨y,k⟩:=m b _ a f;exact ⟨y,k⟩
 ·obtain ⟨i,f⟩:=un.there b o e (by simp);by_cases a:b∈frs outer
  ·obtain ⟨j,k⟩:=m b i a f;exact ⟨_,k⟩
  ·exact ⟨i,stay b i f a (.inr ⟨o,e⟩)⟩
 ·refine (hok b u e).stay (λ c v d q=>stay c v q (λ z=>?_) (.inl ?_)) (λ _ q=>q) λ _ _ q=>q
  ·have:=r c z;rcases d with rfl|d
   ·rw [e] at this;cases this
   ·rw [d] at this;cases this
  ·rcases d with rfl|d
   ·exact ⟨u,e⟩
   ·exact ⟨_,d⟩
 ·cases q:h.get? ea with
  | none=>rfl
  | some o=>
   by_cases a:ea∈frs outer
   ·obtain ⟨_,t,g,l⟩:=fl6.2.2.1.mem a;obtain ⟨_,_,_,D,A,_,_,_,s,_,p,_⟩:=fl6;rw [s] at g;cases g;exact absurd p (l A)
   ·obtain ⟨i,f⟩:=un.there ea o q (by simp);have:=keep ea i f a (.inr ⟨o,q⟩);rw [fl6.2.1] at this;cases this
end
noncomputable def Cx.tryX (X:Cx) (pn:List (Addr×Obj)) (E:St->XK):Cx:=
 ({ X with pn:=pn }:Cx).wish λ e s'=>∃pins σ1 H1 s1,Inv { X with pn:=pn } pins σ1 H1 s1/\CXE X.prog X.w X.base X.stack H1 s1 (E σ1) e s'
noncomputable abbrev Cx.exc (X:Cx) (ea:Addr):Cx:={ X with A:=X.A.mark (some (.ref ea)),calm:=false,xe:=λ _ _=>False }
section
variable {X:Cx} {pins pn:List (Addr×Obj)} {σ:St} {H:Hp} {s:A0} {ea:Addr} {E:St->XK}
theorem Inv.toPn (I:Inv X pins σ H s):Inv { X with pn:=X.pn++pins } [] σ H s:=
 ⟨⟨I.ok.mod,I.ok.kind,I.ok.glob,I.ok.blt,I.ok.above,I.ok.inj,I.ok.has,I.ok.cab,I.ok.hd,I.ok.frames,I.ok.stk,I.ok.exf,I.ok.bs,I.ok.bsz,I.ok.noex,I.ok.exfs,I.ok.funs,I.ok.frf⟩,I.os,I.bare,I.base,I.loc,I.cell,I.free,I.freeC,λ p a=>I.pin p (by simpa using a),I.hok,I.len⟩
theorem Inv.ofPn {pins':List (Addr×Obj)} (I:Inv { X with pn:=X.pn++pins } pins' σ H s):Inv X pins σ H s:=
 ⟨⟨I.ok.mod,I.ok.kind,I.ok.glob,I.ok.blt,I.ok.above,I.ok.inj,I.ok.has,I.ok.cab,I.ok.hd,I.ok.frames,I.ok.stk,I.ok.exf,I.ok.bs,I.ok.bsz,I.ok.noex,I.ok.exfs,I.ok.funs,I.ok.frf⟩,I.os,I.bare,I.base,I.loc,I.cell,I.free,I.freeC,λ p a=>I.pin p (u5 _ a),I.hok,I.len⟩
theorem Inv.toExc (I:Inv X pins σ H s) (ea:Addr):Inv (X.exc ea) pins σ H s:=
 ⟨⟨I.ok.mod,I.ok.kind,I.ok.glob,I.ok.blt,I.ok.above,I.ok.inj,I.ok.has,I.ok.cab,λ z=>(nomatch z),I.ok.frames,I.ok.stk,I.ok.exf,I.ok.bs,I.ok.bsz,I.ok.noex,I.ok.exfs,I.ok.funs,I.ok.frf⟩,I.os,I.bare,I.base,I.loc,I.cell,I.free,I.freeC,I.pin,I.hok,I.len⟩
theorem Inv.ofExc (I:Inv (X.exc ea) pins σ H s) (hd:X.calm=true->X.A.handled=none):Inv X pins σ H s:=
 ⟨⟨I.ok.mod,I.ok.kind,I.ok.glob,I.ok.blt,I.ok.above,I.ok.inj,I.ok.has,I.ok.cab,hd,I.ok.frames,I.ok.stk,I.ok.exf,I.ok.bs,I.ok.bsz,I.ok.noex,I.ok.exfs,I.ok.funs,I.ok.frf⟩,I.os,I.bare,I.base,I.loc,I.cell,I.free,I.freeC,I.pin,I.hok,I.len⟩
theorem passX :∀(pins:List (Addr×Obj)) (σ:St) (H:Hp) (s:A0) (e:Value) (s':A0),Inv (X.tryX pn E) pins σ H s->CXE (X.tryX pn E).prog (X.tryX pn E).w (X.tryX pn E).base (X.tryX pn E).stack H s (E σ) e s'->(X.tryX pn E).xe e s':=
 λ pins σ H s e s' I c=>⟨pins,σ,H,s,I.unwish,c⟩
theorem SP.ofTry {D:Ends} {f:Flow} {s':A0} (h:SP (X.tryX (X.pn++pins) E) [] D f s'):SP X pins D f s':=by
 cases f with
 | next=>obtain ⟨b,a,I,q⟩:=h;exact ⟨b,a,I.unwish.ofPn,q⟩
 | brk=>obtain ⟨b,a,I,q⟩:=h;exact ⟨b,a,I.unwish.ofPn,q⟩
 | cont=>obtain ⟨b,a,I,q⟩:=h;exact ⟨b,a,I.unwish.ofPn,q⟩
 | ret u=>obtain ⟨v,b,a,I,r,q⟩:=h;exact ⟨v,b,a,I.unwish.ofPn,r,q⟩
theorem SP.ofExc {D:Ends} {f:Flow} {s':A0} (h:SP (X.exc ea) pins D f s') (hd:X.calm=true->X.A.handled=none):SP X pins D f s':=by
 cases f with
 | next=>obtain ⟨b,a,I,q⟩:=h;exact ⟨b,a,I.ofExc hd,q⟩
 | brk=>obtain ⟨b,a,I,q⟩:=h;exact ⟨b,a,I.ofExc hd,q⟩
 | cont=>obtain ⟨b,a,I,q⟩:=h;exact ⟨b,a,I.ofExc hd,q⟩
 | ret u=>obtain ⟨v,b,a,I,r,q⟩:=h;exact ⟨v,b,a,I.ofExc hd,r,q⟩
theorem z5w {M:Model} {A:Y1} {E:Value->A0->Prop} {i:Nat} {x:Str} {pos:Pos} {Q:Unit->A0->Prop} (I:Inv X pins σ H s) (hN:X.N.Nodup) (hi:X.N[i]? = some x) (hk:X.env.kindOf x=some .local)
  (h :∀s',Inv X pins (σ.set i none) H s'->Q () s'):V0 M A (do bindName X.env x .none;unbindBehindTheSuite X.env x pos) Q E s:=by
 obtain ⟨m,P,U⟩:=id I.loc;have T:(X.env.scope.kind == .class || (X.env.scope.kind == .module && X.env.locals != X.env.globals))=false:=by rw [I.ok.kind];rfl
 have G:i < σ.length:=by rw [I.len];exact (List.getElem?_eq_some_iff.mp hi).1
 have cne:=I.cne;refine wpAny_nameGoes_keeps hk P T λ V v B a=>?_;refine h _ ⟨I.ok,I.os,I.bare,⟨λ b o e n t g=>?_,λ b o e n t g=>?_,I.base.free,λ b o e g=>?_,I.base.tups,I.base.frzs,I.base.tbls⟩,⟨_,B,λ j y S f r L=>?_⟩,λ y c e=>?_,I.free,I.freeC,λ p F=>?_,λ b K e=>?_,by simpa using I.len⟩
 ·exact (a.2 b (F1 (G1 (Q0 e) I.ok.above))).trans (I.base.keep b o e n t g)
 ·obtain ⟨D,f⟩:=I.base.slot b o e n t g;exact ⟨D,(a.2 b (F1 (G1 (Q0 e) I.ok.above))).trans f⟩
 ·obtain ⟨O,f⟩:=I.base.there b o e g;exact ⟨O,(a.2 b (F1 (G1 (Q0 e) I.ok.above))).trans f⟩
 ·by_cases hj:j=i
  ·subst hj;rw [c8 G] at r;cases r
  ·rw [P8 (V3 hj)] at r;obtain ⟨R,C,q⟩:=U j y S f r L;refine ⟨R,C,?_⟩;rcases q with ⟨k,e⟩|⟨k,c,e,z⟩
   ·refine .inl ⟨k,?_⟩;have:y≠x:=λ e=>hj (zbt hN f (e ▸ hi));simp [this,e]
   ·exact .inr ⟨k,c,e,z.sameBut a (cne y c e)⟩
 ·obtain ⟨w,z⟩:=I.cell y c e;exact ⟨w,z.sameBut a (cne y c e)⟩
 ·obtain ⟨e,n,ne,J,d⟩:=I.pin p F;exact ⟨(a.2 p.1 ne).trans e,n,ne,J,d⟩
 ·refine (I.hok b K e).stay (λ c w l q=>(a.2 c ?_).trans q) (λ _ q=>q) λ _ _ q=>q;rintro rfl;have u:=I.free;rcases l with rfl|l
  ·rw [u] at e;cases e
  ·rw [u] at l;cases l
end
noncomputable def tTryAs (K:d0) (c:Value) (i:Nat) (tb:(St->XK)->TS) (th:TS):TS:=λ D σ H=>tb (λ σ1 cls _ H1=>j06 K cls c=some true/\
 ∀ea,H1 ea=none->th { nx:=λ σ2 H2=>D.nx (σ2.set i none) H2,rt:=D.rt,bk:=λ σ2 H2=>D.bk (σ2.set i none) H2,ct:=λ σ2 H2=>D.ct (σ2.set i none) H2 } (σ1.set i (some (.ref ea))) (upd H1 ea (ExcO ea cls))) D σ H
section
variable {X:Cx} {x n:Str} {c:Value} {i:Nat} {body suite:List Stmt} {b0:Stmt} {np hpos pos:Pos} {tb:(St->XK)->TS} {th:TS}
theorem zef (hst:X.stack=X.env :: X.outer) (hf:X.env.frame=some X.env.locals) (hg:Gl X x) (hm:X.mg x=some c) (hN:X.N.Nodup) (hi:X.N[i]? = some n) (hk:X.env.scope.names.lookup n=some .local) (hb :∀pn E,PSs (X.tryX pn E) body (tb E))
  (hh :∀ea,PSs (X.exc ea) (b0 :: suite) th) (hdb:(x == ("__debug__" : Str))=false:=by decide) :
  PS X (.Try body [.ExceptHandler (some (.Name x np)) (some n) (b0 :: suite) hpos] [] [] pos) (tTryAs X.K c i tb th):=by
 intro j s σ H D I h;refine wpAny_Try_except (V2 (hb (X.pn++j) _ [] s σ H D (I.toPn.wish _) h) (λ f m q=>?_) λ e m q=>?_)
 ·cases f with
  | next=>exact W6 (SP.ofTry q)
  | brk=>exact SP.ofTry q
  | cont=>exact SP.ofTry q
  | ret u=>exact SP.ofTry q
 ·obtain ⟨b3,p,H1,Z,I1,ea,O,a0,B,a,rfl,R,S,un,P,t,hB,y,keep,T,U⟩:=q;have d:Inv X j p H1 Z:=I1.ofPn;have fr:X.A.frames=some (X.env :: X.outer):=hst ▸ d.ok.frames;refine wpAny_looks_onW fr hf (hst ▸ y) λ h4 a2 F=>?_;refine wpAny_landsW a2 λ L k Q=>?_;rw [<-hst] at k;obtain ⟨a4,a7,b1⟩:=fly_un d.stack d.stkFree un P y keep k (F.trans Q);have M:Inv X j p a { m with heap:=L }:=d.call' (ch:=[]) R a4 a7 S λ b z=>absurd z (by simp);obtain ⟨ob,Y,a1⟩:=k.there;refine wpAny_handleBy_cons (codeAny_handlers_test (z7j (M.toExc ea) hg hm ?_ hdb)) (by intro q;cases q);have V:PySem.W.Looks (E1 X.prog X.w) L (typeOf (.ref ea)) O:=by subst a1;exact (PySem.W.Looks.ld Y).andThen .now
  refine (PySem.W.exm_one (M.toExc ea).kIn V T).here ?_;refine codeAny_handlers_suite_as ?_;refine lands_againW k λ h6 G a9=>?_;obtain ⟨a6,a3,_⟩:=fly_un d.stack d.stkFree un P y keep G ((F.trans Q).trans a9);obtain ⟨b2,a5,a8⟩:=G.there;have I6:Inv X j p (upd a ea (ExcO ea O)) { m with heap:=h6 }:=d.call' (ch:=[]) R (a6.track b1 t) (a3.track t (zlo a5 a8)) S λ b z=>absurd z (by simp);refine zb6 (X:=X.exc ea) (v:=.ref ea) (I6.toExc ea) hN hi (.inl hk) rfl (λ s7 I7=>?_) (.inr hk);refine V2 (hh ea j _ _ _ _ I7 (U ea t)) (λ f s8 q=>?_) λ _ _ z=>i3 z;have l:=SP.ofExc q d.ok.hd;cases f with
  | next=>obtain ⟨o,a,J,z⟩:=l;exact z5w J hN hi hk λ C g=>⟨_,a,g,z⟩
  | brk=>obtain ⟨o,a,J,z⟩:=l;exact z5w J hN hi hk λ C g=>⟨_,a,g,z⟩
  | cont=>obtain ⟨o,a,J,z⟩:=l;exact z5w J hN hi hk λ C g=>⟨_,a,g,z⟩
  | ret u=>obtain ⟨v,o,a,J,r,z⟩:=l;exact z5w J hN hi hk λ C g=>⟨v,_,a,g,r,z⟩
end
section
variable {X:Cx} {x:Str} {ps:List Str} {k:Nat} {sp:Sp} {e:Expr} {es:List Expr} {t:TA} {p pos:Pos} {E:St->XK}
theorem zlh (hx :∀(pins:List (Addr×Obj)) (σ:St) (H:Hp) (s:A0) (e:Value) (s':A0),Inv X pins σ H s->CXE X.prog X.w X.base X.stack H s (E σ) e s'->X.xe e s') (c:CalE X.prog X.w X.K X.mg X.base x ps k sp) (hr:Room k X.A) (hg:Gl X x) (ha:PA X (e :: es) t)
  (hdb:(x == ("__debug__" : Str))=false:=by decide) (he:B1 (e :: es) X.env=(false,m3 e X.env) :: B1 es X.env:=by rfl) (hpl:(Q3 pos (B1 es X.env)).any (·.1)=false:=by rfl) :
  PE X (.Call (.Name x p) (e :: es) [] pos) (λ σ H Q=>t σ H λ vs H1=>sp vs H1 Q (E σ)):=by
 intro pins s σ H Q I h;obtain ⟨f,n,F,i,m,l⟩:=c.ex;refine U4 (z7j I hg i ?_ hdb);refine K5 (h₀:=X.base) I.ok.mod.kin m (thn (ha pos pins s σ H _ I h) λ b d ⟨vs,H1,I1,r,q⟩=>⟨I1.kIn,?_⟩) he hpl;have j:b.length=ps.length:=by rw [<-r.length];exact F.len _ _ _ _ q
 have g:=l d b I1.kIn (by rw [J2];exact j);rw [J2] at g;refine wpAny_call (U8 (F.run X.A X.stack d H1 ⟨b,[]⟩ b vs Q (E σ) hr I1.env0 g r q) λ r s' a=>?_);cases r with
 | error e=>exact hx pins σ H1 d e s' I1 a
 | ok fl=>
  cases fl with
  | ret u=>exact I1.after a
  | next=>exact i3 a
  | brk=>exact i3 a
  | cont=>exact i3 a
end
end L2
set_option maxHeartbeats 400000
namespace L2
open PySem PySem.Spec PyProof.Rows PySem.W PySem.Calls PySem.Builtin PySem.Builtin.ObjectAttr PySem.Builtin.Getset_descriptor
section
variable {prog:Program} {w:W0} {A:Y1} {E:Value->A0->Prop} {h:Heap} {g:Array j3f} {d:Drawn} {t:Nat} {os:S2} {K:d0} {a C:Addr} {o:Obj}
theorem zka {R:Result->A0->Prop} {tp:Value} (X:K.In h) (L0:Looks (E1 prog w) h (typeOf (.ref a)) (.ref C)) (hm:mroIn K C (.type "object")=some true) (hq:R (.ok (.ret (.ref C))) ⟨h,g,d,t,os⟩) :
  a8 (E1 prog w) A (.call (.builtin "getset_descriptor.__get__") ⟨[.builtin "object.__class__",.ref a,tp],[]⟩) R ⟨h,g,d,t,os⟩:=by
 have b:=looks_mroIn (M:=E1 prog w) X hm;refine codeAny_call_builtin KF.slot_gs.plain KF.entry_gs (KF.slot_gs.check _ _ _ _ _ _ _ _ KF.type_class (KF.args_gs _ _ _) ?_);unfold C7.«getset_descriptor.__get__» descrGet;rw [dga_obj];refine o0 (G0 ?_);unfold descrGetter descrCheckInstance descrNameAndClass j05;simp only [KF.owner_class]
 repeat lk
 refine ⟨Code.quiet_builtin _ (by decide +kernel),codeAny_builtin KF.entry_class ?_⟩;unfold C7.«object.__class__» shownTypeOf
 repeat lk
 exact hq
theorem zgg {tk:Tok} {Q:Fin->A0->Prop} (X:K.In h) (hx:h.get? a=some o) (hc:o.cls=.ref C) (ha:findIn K (.ref C) "__class__" = some (some (.builtin "object.__class__"))) (hm:mroIn K C (.type "object")=some true)
  (hq:Q (.done (.ret (.ref C))) ⟨h,g,d,t,os⟩):V0 (E1 prog w) A (C7.«object.__getattribute__» ⟨[.ref a,.str "__class__" tk],[]⟩) Q E ⟨h,g,d,t,os⟩:=by
 have b:Looks (E1 prog w) h (typeOf (.ref a)) (.ref C):=hc ▸ (Looks.ld hx).andThen .now;have c:=looks_findIn (M:=E1 prog w) X ha;have f:(⟨h,g,d,t,os⟩:A0).TypeIs (.builtin "object.__class__") "getset_descriptor":=KF.type_class;have i:=KF.type_class;have e:=F.slot_gs_get.lookup;have j:=F.slot_gs_set.lookup
 repeat (any_goals (first|assumption|(with_reducible refine j0g hx ?_;rw [hc])|with_reducible refine c.at ?_|wp_step))
 refine zka X b hm ?_
 repeat (any_goals (first|assumption|wp_step))
end
end L2
namespace L2
open PySem PySem.Spec PyProof.Rows PySem.W
section
variable {prog:Program} {w:W0} {A:Y1} {E:Value->A0->Prop} {h:Heap} {g:Array j3f} {d:Drawn} {t:Nat} {os:S2} {K:d0} {a C:Addr} {o:Obj}
theorem zgr {M:Model} {nameV:Value} {Q:Unit->A0->Prop} (X:K.In h) (hx:h.get? a=some o) (hc:o.cls=.ref C) (hm:mroIn K C (.type "BaseException")=some true) (hq:Q () ⟨h,g,d,t,os⟩) :
  V0 M A (checkBuiltinCall "BaseException.__getattribute__" ⟨[.ref a,nameV],[]⟩) Q E ⟨h,g,d,t,os⟩:=by
 have e:builtinKind "BaseException.__getattribute__" = some .slot:=by decide +kernel
 have c:splitId "BaseException.__getattribute__" = some ("BaseException","__getattribute__"):=by decide +kernel
 have b:=looks_mroIn (M:=M) X hm;have f:=F.args_bexc_ga (.ref a) nameV;simp only [checkBuiltinCall,e,c];refine o0 ?_
 ·unfold j05
  repeat (first|(with_reducible refine j0g hx ?_;rw [hc])|with_reducible refine b.at ?_|wp_step)
  exact hq
theorem zju {tk:Tok} {R:Result->A0->Prop} (X:K.In h) (hx:h.get? a=some o) (hc:o.cls=.ref C) (ha:findIn K (.ref C) "__class__" = some (some (.builtin "object.__class__"))) (hm:mroIn K C (.type "object")=some true)
  (hb:mroIn K C (.type "BaseException")=some true) (hq:R (.ok (.ret (.ref C))) ⟨h,g,d,t,os⟩):a8 (E1 prog w) A (.call (.builtin "BaseException.__getattribute__") ⟨[.ref a,.str "__class__" tk],[]⟩) R ⟨h,g,d,t,os⟩:=
 codeAny_call_builtin F.excAttr_ValueError.ga.plain F.entry_bexc_ga (zgr X hx hc hb (zgg X hx hc ha hm hq))
theorem exc_by {tk:Tok} {fill expr:Bool} {Q:Value->A0->Prop} (X:K.In h) (hx:h.get? a=some o) (hc:o.cls=.ref C) (ha:findIn K (.ref C) "__class__" = some (some (.builtin "object.__class__"))) (hm:mroIn K C (.type "object")=some true)
  (hb:mroIn K C (.type "BaseException")=some true) (hg:findIn K (.ref C) "__getattribute__" = some (some (.builtin "BaseException.__getattribute__"))) (hn:findIn K (.ref C) "__getattr__" = some none) (hq:Q (.ref C) ⟨h,g,d,t,os⟩) :
  V0 (E1 prog w) A (getAttrBy (.ref a) (.str "__class__" tk) fill expr) Q E ⟨h,g,d,t,os⟩:=by
 have i:=F.excAttr_ValueError.ga.bind (.ref a);have f:(expr && onTheHeap (o7 "BaseException.__getattribute__"))=false:=by cases expr<;>rfl
 have b:(o7 "BaseException.__getattribute__" == o7 "object.__getattribute__")=false:=by decide +kernel
 have j:(onTheHeap (Value.ref C) && o7 "BaseException.__getattribute__" == o7 "object.__getattribute__")=false:=by rw [b];rfl
 have c:=looks_findIn (M:=E1 prog w) X hg;have e:=looks_findIn (M:=E1 prog w) X hn
 repeat (any_goals (first|assumption|(with_reducible refine j0g hx ?_;rw [hc])|with_reducible refine c.at ?_|with_reducible refine e.at ?_|wp_step))
 refine zju X hx hc ha hm hb ?_
 repeat (any_goals (first|assumption|wp_step))
theorem zkz {Q:Option Value->A0->Prop} (X:K.In h) (hx:h.get? a=some o) (hc:o.cls=.ref C) (ha:findIn K (.ref C) "__class__" = some (some (.builtin "object.__class__"))) (hm:mroIn K C (.type "object")=some true)
  (hb:mroIn K C (.type "BaseException")=some true) (hg:findIn K (.ref C) "__getattribute__" = some (some (.builtin "BaseException.__getattribute__"))) (hn:findIn K (.ref C) "__getattr__" = some none) (hq:Q (some (.ref C)) ⟨h,g,d,t + 1,os⟩) :
  V0 (E1 prog w) A (getAttr? (.ref a) "__class__") Q E ⟨h,g,d,t,os⟩:=by
 unfold getAttr? getAttrBy?;refine o0 (wpAny_mkText (o0 (wpAny_attempt (exc_by X hx hc ha hm hb hg hn (G0 hq)))))
end
noncomputable def excCls (K:d0) (C:Addr):Bool:=(clsIn K C).isSome && (findIn K (.ref C) "__class__" == some (some (.builtin "object.__class__")) && (mroIn K C (.type "object") == some true && (mroIn K C (.type "BaseException") == some true &&
 (findIn K (.ref C) "__getattribute__" == some (some (.builtin "BaseException.__getattribute__")) && findIn K (.ref C) "__getattr__" == some none))))
theorem zfb {K:d0} {a C:Addr} (e:excCls K C=true):KitX K (.ref a) (.ref C) (λ h=>∃o,h.get? a=some o/\o.cls=.ref C):=by
 unfold excCls at e;simp only [Y2,beq_iff_eq] at e;obtain ⟨b,c,l,f,j,m⟩:=e;refine ⟨λ M h _ ⟨o,hx,hc⟩=>hc ▸ (Looks.ld hx).andThen .now,λ M h X _=>?_,λ h tp x v n p X i=>?_,λ {prog w A E Q s} X ⟨o,hx,hc⟩ k=>?_⟩
 ·unfold clsIn at b;split at b
  ·rename_i c' d' cd' sl' ho;intro y D r u k q;unfold isType loadHead;exact o0 (wpAny_loadPart (k _ _ (X _ _ ho)) (G0 q))
  ·cases b
 ·refine Bool.eq_false_iff.mpr λ q=>?_;have e:C=tp:=Value.ref.inj (beq_iff_eq.mp q);subst e;unfold clsIn at b;split at b
  ·rename_i c' d' cd' sl' ho;have z:=(X _ _ ho).symm.trans i;cases z
  ·cases b
 ·obtain ⟨h,g,d,t,B⟩:=s;exact zkz X hx hc c l f j m k
theorem ziv :∀{cs:List Addr} {its:List Value},Vals (cs.map V.ref) its->its=cs.map Value.ref
 | [],_,.nil=>rfl
 | c :: cs,_,.cons r t=>by rw [ziv t];cases (show _=Value.ref c from r);rfl
section
variable {X:Cx}
theorem z2e (K:d0) (eK:X.K=K:=by rfl):CallR X (.builtin "isinstance") (λ xs H Q=>∃ea C v u b,xs=[.ref ea,v]/\H ea=some (ExcO ea (.ref C))/\excCls K C=true/\RelV v u/\(∀u',RelV v u'->u'=u)/\kitOne K (.ref C) u=some b/\Q (.bl b) H):=by subst eK;intro n s σ H xs m Q I r h;obtain ⟨ea,C,v,u,b,rfl,d,a,k,i,j,q⟩:=h;obtain ⟨e,l,rfl,c,f⟩:=vals2 r;cases (show e=Value.ref ea from c);cases i _ f;obtain ⟨p,_⟩:=I.hok ea _ d;exact kia_one (zfb a) I.kIn p j (λ z=>nomatch z) λ g=>⟨.bl b,H,I.tok g,rfl,q⟩
theorem z1r (K:d0) (eK:X.K=K:=by rfl):CallR X (.builtin "isinstance") (λ xs H Q=>∃(ea C p:Addr) (cs:List Addr) (b:Bool),xs=[.ref ea,.ref p]/\H ea=some (ExcO ea (.ref C))/\excCls K C=true/\H p=some (.tup (cs.map V.ref))/\kitAny K (.ref C) (cs.map Value.ref)=some b/\Q (.bl b) H):=by subst eK;intro F s σ H xs D Q I r h;obtain ⟨ea,C,p,cs,b,rfl,j,d,g,x,q⟩:=h;obtain ⟨l,m,rfl,i,t⟩:=vals2 r;cases (show l=Value.ref ea from i);cases (show m=Value.ref p from t);obtain ⟨w,_⟩:=I.hok ea _ j;obtain ⟨_,o,v,⟨k,f,a,n,c⟩,_⟩:=I.hok p _ g;have e:o=cs.map Value.ref:=ziv v;subst e;obtain ⟨y,A,E,B⟩:=k;dsimp only at a c;subst a c;exact kia_tup (zfb d) I.kIn w f x (λ z=>nomatch z) λ u=>⟨.bl b,H,I.tok u,rfl,q⟩
end
end L2
namespace L2
open PySem PySem.Spec PyProof.Rows
end L2
set_option maxHeartbeats 4000000
namespace L2
open PySem PySem.Spec PyProof.Rows
noncomputable def cStG (σ:St) (fr:List (Nat×Str)) (us:List (Option V)):St:=us++fr.map λ p=>(σ[p.1]?).join
noncomputable def tCompG (wi:TI) (n:Nat) (fr:List (Nat×Str)) (g:TG) (tc:TT) (te:TE):TE:=λ σ H Q=>wi σ H λ J H1=>∃W:Nat->Nat->List V->Hp->Prop,(∃m,W 0 m [] H1)/\∀i m ys H,W i m ys H->
 (J.stop i H/\ys.length<=sizeLine/\∀p,H p=none->Q (.ref p) (upd H p (.lst ys)))\/
 (J.go i H/\ys.length<=sizeLine/\∀v H',J.yld i H v H'->g v (cStG σ fr (V1 n none)) H' λ σ6 H6=>∃us,us.length=n/\σ6=cStG σ fr us/\tc (cStG σ fr us) H6 λ b H2=>if b=true then te (cStG σ fr us) H2 λ y H3=>∃m',m' < m/\W (i + 1) m' (ys++[y]) H3 else∃m',m' < m/\W (i + 1) m' ys H2)
section
variable {X:Cx}
theorem zk1 {scope:Scope} {cl:List (Str×Addr)} {N:List Str} {C:Addr} {s₂:A0} {H₂:Hp} {fp:List Addr} {x:Str} {px:Pos} (i:Nat) (hN:N.Nodup) (hi:N[i]? = some x) (hx:scope.names.lookup x=some .local):PG (cxComp X scope cl N C s₂ H₂ fp) (.Name x px) (gName i):=
 z0j hN hi (.inl (lookup_relabel_local hx)) (.inr (lookup_relabel_local hx))
theorem zen {xs:List Str} {tg:Expr} {g:TG} {pos:Pos} {elt iter:Expr} {ifs:List Expr} {scope:Scope} {fr:List (Nat×Str)} {wi:TI} {tc:TT} {te:TE} {use:Option (Value->Sem Unit)} {QQ:Value->A0->Prop} {pins:List (Addr×Obj)} {s:A0} {σ:St} {H:Hp} {Q:VK} {pp:Pos} (hcalm:X.calm=true) (hi:PI X tg iter wi)
  (hfr :∀p∈fr,X.N[p.1]? = some p.2/\(X.env.kindOf p.2=some .cell\/X.env.kindOf p.2=some .free))
  (hfree :∀y∈scope.names,y.2=u2->X.env.kindOf y.1=some .cell\/X.env.kindOf y.1=some .free)
  (hfs :∀p∈fr,(p.2,u2)∈scope.names/\((Y7 scope X.env).names.lookup p.2=some .cell\/(Y7 scope X.env).names.lookup p.2=some .free))
  (hcell :∀y∈scope.names,y.2≠NameKind.cell) (hkind:scope.kind=.function) (hnames :∀y∈scope.names,y.2=NameKind.local->scope.names.lookup y.1=some .local)
  (hg :∀cl C s₂ H₂ fp,PG (cxComp X scope cl (xs++fr.map (·.2)) C s₂ H₂ fp) tg g)
  (ht :∀cl C s₂ H₂ fp,PF (cxComp X scope cl (xs++fr.map (·.2)) C s₂ H₂ fp) ifs tc) (he :∀cl C s₂ H₂ fp,PE (cxComp X scope cl (xs++fr.map (·.2)) C s₂ H₂ fp) elt te)
  (hs :∀x,C4 iter X.env x=E3 x) (I:Inv X pins σ H s) (h:tCompG wi xs.length fr g tc te σ H Q)
  (hend :∀(D:Addr) (s4:A0) (H4:Hp),Inv X pins σ H4 s4->(∃m,s4.heap.Ns (D + 1) m)->H4 (D + 1)=none->D + 1≠X.env.locals->X.s₀.heap.objs.size<=D + 1->(D + 1∉X.fs/\(∀x c,X.env.cells.lookup x=some c->c≠D + 1)/\∀p∈X.pn++pins,p.1≠D + 1)->Q (.ref D) H4->compPost (E1 X.prog X.w) X.A X.xe use QQ (.ref D) (D + 1) (.ok .next) s4) :
  V0 (E1 X.prog X.w) X.A (comprehension (.ListComp elt [⟨tg,iter,ifs,0⟩] scope pos) scope X.env pp (newList []) false (firstIter [⟨tg,iter,ifs,0⟩] X.env) use) QQ X.xe s:=by
 obtain ⟨cl,e0,U,b6⟩:=zfm (scope:=scope) (env:=X.env) λ y P hk=>I.ok.has y.1 (hfree y P hk);refine wpAny_comprehension_free (use:=use) rfl hs e0 hkind hnames (thn (hi pins s σ H _ I h) λ xv s₁ h₁=>thn h₁ λ g3 s₂ h₂=>?_);obtain ⟨it,fp,tn,J,L,e,f,T,b5,M,W,⟨m0,w0⟩,f7⟩:=h₂;subst e
 -- the list that is filled,the block's names
 refine B3 (wpAny_newFunctionEnv hcell (by intro y P;simp at P) (λ h₁ a4 a3=>?_) hkind);dsimp only at a4 a3⊢;generalize hD:s₂.heap.objs.size=D at a4 a3⊢;generalize hG:s₂.heap.push { cls:=.type "list",dict:=none,data:=.seq ([]:List Value).toArray }=G at a4 a3⊢;have hC:G.objs.size=D + 1:=by rw [<-hG,Y3,hD]
 generalize hCC:G.objs.size=C at a4 a3 hC⊢;subst hC;have b0 :∀b∈fp,b < D:=λ b a=>by obtain ⟨o,e,_⟩:=T.obj _ _ b5 b a;rw [<-hD];exact Q0 e
 have a1 :∀b o,s₂.heap.get? b=some o->h₁.get? b=some o:=λ b o e=>a3.extBut b o (F1 (Z1 (by rw [<-hD];exact Q0 e))) (F0 _ (hG ▸ F0 _ e));have d7:G.get? D=some { cls:=.type "list",dict:=none,data:=.seq ([]:List Value).toArray }:=by rw [<-hG,<-hD];exact A1 _ rfl
 have e4:h₁.PlainList D #[]:=⟨0,a3.extBut _ _ (F1 (K2 D)) (F0 _ d7)⟩
 have g1 :∀y c,cl.lookup y=some c->c < D:=λ y c e=>by obtain ⟨v,q⟩:=f.cell y c (U y c e);rw [<-hD];exact q.lt
 have d5 :∀b∈frs X.stack,b < D:=λ b a=>by
  rcases List.mem_cons.mp (f.stkSub b a) with e|a
  ·rw [e,<-hD];exact f.lt
  ·rw [<-hD];exact Nat.lt_of_not_le λ z=>f.nofs z a
 have d0 :∀b∈fp,b∉frs X.stack:=λ b a d8=>by
  rcases List.mem_cons.mp (f.stkSub b d8) with e|z
  ·exact (M b a).2.1 e
  ·exact (M b a).2.2.1 z
 generalize hX':cxComp X scope cl (xs++fr.map (·.2)) (D + 1) s₂ L fp=X';have f0:X'.Ok:=by
  subst hX';refine ⟨f.ok.mod,hkind,f.ok.glob,f.ok.blt,(by show s₂.heap.objs.size<=D + 1;omega),λ y z c S O=>f.ok.inj y z c (U _ _ S) (U _ _ O),λ y P=>?_,(λ _ _ z=>Bool.noConfusion z),f.ok.hd,f.ok.frames,.inl rfl,λ b a=>⟨?_,λ y c e=>?_⟩,λ b o e=>f.bs b o e,?_,λ b o e a=>?_,d0,f.env0.funs,f.stkFree⟩
  ·rcases P with P|P
   ·exact b6 y (z62 hcell P (.inl rfl))
   ·exact b6 y (z62 hcell P (.inr rfl))
  ·exact F1 (Z1 (b0 b a))
  ·exact (M b a).2.2.2.2.1 y c (U y c e)
  ·exact D0 f.ok.bsz f.sz
  ·rcases (M b a).2.2.2.1 with z|z
   ·exact f.ok.noex b o e z
   ·exact absurd (G1 (Q0 (f.ok.bs b o e).1) z) (W3 _)
 have a0:X'.env.locals=D + 1:=by subst hX';rfl
 have a6:X'.env.cells=cl:=by subst hX';rfl
 have b2:X'.fs=frs X.stack:=by subst hX';rfl
 have b4:X'.pn=[]:=by subst hX';rfl
 have a5:X'.s₀=s₂:=by subst hX';rfl
 have c8:X'.H₀=L:=by subst hX';rfl
 have c0:X'.ex=fp:=by subst hX';rfl
 have c3:X'.N=xs++fr.map (·.2):=by subst hX';rfl
 have c5:X'.A=X.A:=by subst hX';rfl
 have E:X'.prog=X.prog/\X'.w=X.w/\X'.K=X.K/\X'.calm=true:=by subst hX';exact ⟨rfl,rfl,rfl,hcalm⟩
 have b9:X'.xe=λ _ _=>False:=by subst hX';rfl
 have c9:X'.env=compEnvC scope cl (D + 1) X.env:=by subst hX';rfl
 have g0:PF X' ifs tc:=hX' ▸ ht cl (D + 1) s₂ L fp;have f8:PE X' elt te:=hX' ▸ he cl (D + 1) s₂ L fp;have d9:PG X' tg g:=hX' ▸ hg cl (D + 1) s₂ L fp;have fresh :∀b,D<=b->L b=none:=λ b a=>f.hok.fresh (by rw [hD];exact a);have start :∀t,Inv X' [] (cStG σ fr (V1 xs.length none)) L { s₂ with heap:=h₁,toks:=t }:=λ t=>by
  refine ⟨f0,by rw [a5],f.bare,?_,⟨_,by rw [a0];exact a4,λ i y v S O e3=>?_⟩,λ y c e=>?_,by rw [a0];exact fresh _ (M3 _),λ y c e=>?_,λ p B=>?_,?_,?_⟩
  ·rw [b2,c0,c8,a5];exact Un.kept a1
  ·rw [c3] at S;by_cases a2:i < xs.length
   ·exfalso;unfold cStG at O;rw [Q2 (by rw [N3];exact a2),P7,if_pos a2] at O;cases O
   ·have a2:xs.length<=i:=j07 a2;rw [D2 a2,X0] at S;unfold cStG at O;rw [D2 (by rw [N3];exact a2),N3,X0] at O;generalize i - xs.length=i at S O;cases ej:fr[i]? with
    | none=>rw [ej] at S;cases S
    | some p=>
     rw [ej] at S;obtain rfl:p.2=y:=S1 S;have a9:(σ[p.1]?).join=some v:=by rw [ej] at O;exact S1 O
     have e8:σ[p.1]? = some (some v):=by
      cases q:σ[p.1]? with
      | none=>rw [q] at a9;cases a9
      | some z=>rw [q] at a9;exact congrArg some a9
     have B:=S0 ej;obtain ⟨m,hn,hl⟩:=f.loc;obtain ⟨u,r,l⟩:=hl p.1 p.2 v (hfr p B).1 e8 (by rcases (hfr p B).2 with z|z;exact .inr (.inl z);exact .inr (.inr z));refine ⟨u,r,.inr ⟨?_,?_⟩⟩
     ·rw [c9];exact (hfs p B).2
     ·rcases l with ⟨z,_⟩|⟨_,c,ec,q⟩
      ·exfalso;rcases (hfr p B).2 with z'|z'<;>(rw [z] at z';cases z')
      ·obtain ⟨c',c2⟩:=b6 p.2 (hfs p B).1;have:=U _ _ c2;rw [ec] at this;cases this;obtain ⟨o,ho,hd⟩:=q;exact ⟨c,by rw [a6];exact c2,o,a1 _ _ ho,hd⟩
  ·rw [a6] at e;obtain ⟨v,o,ho,hd⟩:=f.cell y c (U y c e);exact ⟨v,o,a1 _ _ ho,hd⟩
  ·rw [a6] at e;exact f.freeC y c (U y c e)
  ·rw [b4] at B;exact nomatch B
  ·rw [E.1,E.2.1];exact f.hok.kept a1
  ·rw [c3];unfold cStG;simp
 have FP :∀{pins':List (Addr×Obj)} {H':Hp},(∀b∈fp,H' b=none)->(∀p∈pins',p.1=D)->∀b∈fp,FpOk X' pins' H' b:=λ hn B b a=>by
  refine ⟨hn b a,?_,?_,.inl (by rw [c0];exact a),λ y c e=>?_,λ p d3=>?_⟩
  ·rw [a0];exact F1 (Z1 (b0 b a))
  ·rw [b2];exact d0 b a
  ·rw [a6] at e;exact (M b a).2.2.2.2.1 y c (U y c e)
  ·rw [b4] at d3;rw [B p d3];exact A4 (b0 b a)
 -- the turns
 have loop :∀s₃:A0,s₃={ s₂ with heap:=h₁,toks:=s₂.toks + ([]:List (Str×Value)).length }->
   a8 (E1 X.prog X.w) X.A (.compLoop (.ListComp elt [⟨tg,iter,ifs,0⟩] scope pos) 0 (.ref it) (.ref D) (compEnvC scope cl (D + 1) X.env))
    (compPost (E1 X.prog X.w) X.A X.xe use QQ (.ref D) (D + 1)) s₃:=by
  rintro s₃ rfl;rw [<-c9,<-E.1,<-E.2.1,<-c5];refine zhm (λ k s'=>∃i ys its H',Inv X' [] (cStG σ fr (V1 xs.length none)) H' s'/\tn i s'.heap/\(∀b∈fp,H' b=none)/\s'.heap.PlainList D its.toArray/\Vals ys its/\H' D=none/\W i k ys H') ?_ m0
   ⟨0,[],[],L,start _,T.keep _ _ _ b5 λ b a o e=>a1 b o e,λ b a=>(M b a).1,e4,.nil,fresh _ (B0 _),w0⟩
  rintro n s3 ⟨i,ys,its,H3,I3,st3,fr3,ac3,rv3,hD3,w3⟩;obtain ⟨na,d4⟩:=id ac3;have c7:Inv X' [(D,{ cls:=.type "list",data:=.seq its.toArray na })] (cStG σ fr (V1 xs.length none)) H3 s3:=I3.pins_of λ p B=>by rw [List.mem_singleton] at B;subst B;refine ⟨d4,hD3,by rw [a0];exact F1 (K2 D),by rw [b2];exact λ z=>W3 _ (d5 D z),λ v z=>nomatch z⟩
  have hT:=T;rw [<-E.1,<-E.2.1,<-E.2.2.1] at hT;rcases f7 i n ys H3 w3 with ⟨f6,b3,qn⟩|⟨go,b3,step⟩
  ·refine thn (hT.done X' rfl rfl rfl E.2.2.2 i _ s3 _ H3 _ c7 (FP fr3 (by intro p B;rw [List.mem_singleton.mp B])) st3 f6) λ r s4 ⟨hr,I4⟩=>?_;subst hr;obtain ⟨m4,f9,_⟩:=id I4.loc;obtain ⟨Y,c4⟩ :∃Y,Y=s4.heap:=⟨_,rfl⟩
   have c6:U5 (D + 1) s4.heap Y:=by rw [c4];exact ⟨rfl,λ _ _=>rfl⟩
   have d6:D≠D + 1:=F1 (K2 D);have f5:=(I4.pin (D,_) (O1 _ C1))
   have g2:Y.get? D=some { cls:=.type "list",data:=.seq its.toArray na }:=(c6.2 D d6).trans f5.1;have un:Un (frs X.stack) fp L H3 s₂.heap s4.heap:=by have:=I4.base;rw [b2,c0,c8,a5] at this;exact this
   have kp :∀b o,b≠D + 1->s4.heap.get? b=some o->Y.get? b=some o:=λ b o a e=>(c6.2 b a).trans e;have b1 :∀b o,s₂.heap.get? b=some o->b≠D + 1/\b≠D:=λ b o e=>by have:=Q0 e;rw [hD] at this;exact ⟨F1 (Z1 this),F1 this⟩
   have f3:Un (frs X.stack) fp L (upd H3 D (.lst ys)) s₂.heap Y:=by
    refine ⟨λ b o e n a Z=>kp b o (b1 b o e).1 (un.keep b o e n a Z),λ b o e n a Z=>?_,λ b o e n Z=>by rw [upd_ne (b1 b o e).2];exact un.free b o e n Z,λ b o e Z=>?_,λ b xs e=>?_,λ b o u e=>?_,λ b ps e=>?_⟩
    ·obtain ⟨sl,z⟩:=un.slot b o e n a Z;exact ⟨sl,kp _ _ (b1 b o e).1 z⟩
    ·obtain ⟨o',z⟩:=un.there b o e Z;exact ⟨o',kp _ _ (b1 b o e).1 z⟩
    ·rw [upd_ne (z08 e (fresh D (B0 _)))];exact un.tups b xs e
    ·rw [upd_ne (z08 e (fresh D (B0 _)))];exact un.frzs b o u e
    ·rw [upd_ne (z08 e (fresh D (B0 _)))];exact un.tbls b ps e
   have b8:H3 (D + 1)=none:=by have:=I4.free;rw [a0] at this;exact this
   have e5:HOk X.prog X.w (upd H3 D (.lst ys)) Y:=λ b u e=>by
    by_cases a:b=D
    ·subst a;rw [z01] at e;cases e;exact ⟨b3,its,na,rv3,g2⟩
    ·rw [upd_ne a] at e;have z:=I4.hok b u e;rw [E.1,E.2.1] at z;refine z.stay (λ c v hc q=>kp c v ?_ q) (λ c q=>by rw [upd_ne (z08 q hD3)];exact q) λ c xs q=>by rw [upd_ne (z08 q hD3)];exact q
     rintro rfl;rcases hc with rfl|hc
     ·rw [b8] at e;cases e
     ·rw [b8] at hc;cases hc
   subst c4;have I5:Inv X pins σ (upd H3 D (.lst ys)) s4:=f.call' (s':=s4) (ch:=fp) (by have:=I4.os;rw [a5] at this;exact this) f3 e5 I4.bare (λ b a=>⟨(M b a).2.2.2.1,(M b a).2.1,(M b a).2.2.2.2.1,(M b a).2.2.2.2.2⟩);show compPost (E1 X'.prog X'.w) X'.A X.xe use QQ (.ref D) (D + 1) (.ok .next) s4;rw [E.1,E.2.1,c5];refine hend D s4 _ I5 ⟨m4,a0 ▸ f9⟩ ?_ ?_ ?_ ?_ (qn D hD3)
   ·rw [upd_ne (A4 (K2 D))];exact b8
   ·exact A4 (Z1 (by rw [<-hD];exact f.lt))
   ·exact D0 f.sz (by rw [hD];exact M3 D)
   ·refine ⟨λ z=>f.nofs (by rw [hD];exact M3 D) z,λ y c e=>?_,λ p B=>?_⟩
    ·obtain ⟨v,q⟩:=f.cell y c e;exact F1 (Z1 (by rw [<-hD];exact q.lt))
    ·exact F1 (Z1 (by rw [<-hD];exact Q0 (f.pin p B).1))
  ·refine thn (hT.item X' rfl rfl rfl E.2.2.2 i _ s3 _ H3 _ c7 (FP fr3 (by intro p B;rw [List.mem_singleton.mp B])) st3 go) λ r s4 ⟨u,hr,h4⟩=>?_;subst hr;refine thn h4 λ _ s5 ⟨v,H5,I5,r5,y5,st5,fr5⟩=>?_;have f4:=I5.pinned (FP fr5 (by intro p B;rw [List.mem_singleton.mp B])) (T.obj _ _ st5);have g5:=d9 _ s5 (cStG σ fr (V1 xs.length none)) H5 v u _ f4 r5 (step v H5 y5);rw [b9] at g5;refine thn g5 λ _ s6 ⟨σ6,H6,I6,us,hus,e6,q6⟩=>?_;subst e6;have t6:=g0 _ s6 _ H6 _ I6 q6;rw [b9] at t6;refine thn t6 λ ok s7 ⟨H7,I7,q7⟩=>?_;have d1 :∀{H8:Hp} {F:A0} {ys':List V} {its':List Value} {pl:List (Addr×Obj)},Inv X' (pl++pinsAt fp s5.heap) (cStG σ fr us) H8 F->F.heap.PlainList D its'.toArray->Vals ys' its'->H8 D=none->(∃m',m' < n/\W (i + 1) m' ys' H8)->
     ∃m,m < n/\∃i ys its H',Inv X' [] (cStG σ fr (V1 xs.length none)) H' F/\tn i F.heap/\(∀b∈fp,H' b=none)/\F.heap.PlainList D its.toArray/\Vals ys its/\H' D=none/\W i m ys H':=λ {H8 F ys' its' pl} R b7 rv8 a7 ⟨m',hm,w8⟩=>by
    refine ⟨m',hm,i + 1,ys',its',H8,(R.pins_of (pins':=[]) (λ p B=>absurd B C0)).weak (by unfold cStG;simp [hus]) ?_,T.keep _ _ _ st5 λ b a o e=>(R.pin (b,o) (O1 _ (O1 _ (z4n a e)))).1,λ b a=>?_,b7,rv8,a7,w8⟩
    ·intro j z e;unfold cStG at e⊢;by_cases hj:j < xs.length
     ·rw [Q2 (by rw [N3];exact hj),P7,if_pos hj] at e;cases e
     ·have hj:xs.length<=j:=j07 hj;rw [D2 (by rw [N3];exact hj),N3] at e;rw [D2 (by rw [hus];exact hj),hus];exact e
    ·obtain ⟨o,e,d⟩:=T.obj _ _ st5 b a;exact (R.pin (b,o) (O1 _ (O1 _ (z4n a e)))).2.1
   have c1 :∀{H8:Hp} {F:A0} {σ8:St},Inv X' ([(D,{ cls:=.type "list",data:=.seq its.toArray na })]++pinsAt fp s5.heap) σ8 H8 F->F.heap.PlainList D its.toArray/\H8 D=none:=λ R=>
    have z:=R.pin (D,_) (O1 _ (u5 _ C1))
    ⟨⟨na,z.1⟩,z.2.1⟩
   cases ok with
   | false=>rw [if_neg O0] at q7⊢;exact d1 I7 (c1 I7).1 rv3 (c1 I7).2 q7
   | true=>
    rw [if_pos rfl] at q7⊢;have t7:=f8 _ s7 _ H7 _ I7 q7;rw [b9] at t7;refine thn t7 λ y F ⟨vy,H8,R,r8,q8⟩=>?_;obtain ⟨b7,a7⟩:=c1 R;refine wpAny_list_append_plain (hsz:=by have:=rv3.length;rw [P0,<-this];exact b3) b7 λ h9 d2 f1=>?_;have I9:Inv X' ([]++pinsAt fp s5.heap) (cStG σ fr us) H8 F:=R.pins_of λ p B=>(R.pin p (O1 _ (O1 _ B)))
    have e7:Inv X' ([]++pinsAt fp s5.heap) (cStG σ fr us) H8 { F with heap:=h9 }:=by
     refine I9.turned (t':=F.toks) (it:=D) (λ b o a e=>(f1.2 b a).trans e) a7 (by rw [a0];exact F1 (K2 D)) (.inr (by rw [a5,hD];exact B0 _)) (λ y' c e=>?_) λ p B=>?_
     ·rw [a6] at e;exact F1 (g1 y' c e)
     ·rw [b4] at B;exact F1 (b0 _ (zca B).1)
    have e9:its.toArray.push y=(its++[y]).toArray:=by simp
    rw [e9] at d2;exact d1 e7 d2 (rv3.snoc r8) a7 q8
 exact codeAny_compStart_list (loop _ rfl) (T.self _ 0 _ _ _ (T.keep _ _ _ b5 λ b a o e=>a1 b o e) (loop _ rfl))
theorem zjz {xs:List Str} {tg:Expr} {g:TG} {pos:Pos} {elt iter:Expr} {ifs:List Expr} {scope:Scope} {fr:List (Nat×Str)} {wi:TI} {tc:TT} {te:TE} (hcalm:X.calm=true) (hi:PI X tg iter wi)
  (hfr :∀p∈fr,X.N[p.1]? = some p.2/\(X.env.kindOf p.2=some .cell\/X.env.kindOf p.2=some .free))
  (hfree :∀y∈scope.names,y.2=u2->X.env.kindOf y.1=some .cell\/X.env.kindOf y.1=some .free)
  (hfs :∀p∈fr,(p.2,u2)∈scope.names/\((Y7 scope X.env).names.lookup p.2=some .cell\/(Y7 scope X.env).names.lookup p.2=some .free))
  (hcell :∀y∈scope.names,y.2≠NameKind.cell) (hkind:scope.kind=.function) (hnames :∀y∈scope.names,y.2=NameKind.local->scope.names.lookup y.1=some .local)
  (hg :∀cl C s₂ H₂ fp,PG (cxComp X scope cl (xs++fr.map (·.2)) C s₂ H₂ fp) tg g)
  (ht :∀cl C s₂ H₂ fp,PF (cxComp X scope cl (xs++fr.map (·.2)) C s₂ H₂ fp) ifs tc) (he :∀cl C s₂ H₂ fp,PE (cxComp X scope cl (xs++fr.map (·.2)) C s₂ H₂ fp) elt te)
  (hs :∀x,C4 iter X.env x=E3 x:=by intro _;rfl):PE X (.ListComp elt [⟨tg,iter,ifs,0⟩] scope pos) (tCompG wi xs.length fr g tc te):=by
 intro t s σ H Q I h;rw [eval_ListComp];refine zen hcalm hi hfr hfree hfs hcell hkind hnames hg ht he hs I h λ D j f d a i l k ⟨c,hc,hp⟩ q=>?_;obtain ⟨m,a⟩:=a;exact ⟨m,a,λ r n=>⟨.ref D,f,d.turned (t':=j.toks) (it:=D + 1) (λ b o c e=>(n.2 b c).trans e) i l (.inr k) hc hp,rfl,q⟩⟩
theorem z8t {xs:List Str} {tg:Expr} {g:TG} {pos:Pos} {elt iter:Expr} {ifs:List Expr} {scope:Scope} {fr:List (Nat×Str)} {wi:TI} {tc:TT} {te:TE} {i:Nat} {y:Str} {py spos:Pos} (hNy:X.N.Nodup) (hiy:X.N[i]? = some y) (hy:Loc X.env.scope y) (hcalm:X.calm=true) (hi:PI X tg iter wi)
  (hfr :∀p∈fr,X.N[p.1]? = some p.2/\(X.env.kindOf p.2=some .cell\/X.env.kindOf p.2=some .free))
  (hfree :∀y∈scope.names,y.2=u2->X.env.kindOf y.1=some .cell\/X.env.kindOf y.1=some .free)
  (hfs :∀p∈fr,(p.2,u2)∈scope.names/\((Y7 scope X.env).names.lookup p.2=some .cell\/(Y7 scope X.env).names.lookup p.2=some .free))
  (hcell :∀y∈scope.names,y.2≠NameKind.cell) (hkind:scope.kind=.function) (hnames :∀y∈scope.names,y.2=NameKind.local->scope.names.lookup y.1=some .local)
  (hg :∀cl C s₂ H₂ fp,PG (cxComp X scope cl (xs++fr.map (·.2)) C s₂ H₂ fp) tg g)
  (ht :∀cl C s₂ H₂ fp,PF (cxComp X scope cl (xs++fr.map (·.2)) C s₂ H₂ fp) ifs tc) (he :∀cl C s₂ H₂ fp,PE (cxComp X scope cl (xs++fr.map (·.2)) C s₂ H₂ fp) elt te)
  (hs :∀x,C4 iter X.env x=E3 x:=by intro _;rfl) (hw:F6 (.ListComp elt [⟨tg,iter,ifs,0⟩] scope pos) (some (.Name y py)) spos.line X.env=E3 true:=by rfl) (hf:X.fn y=true\/X.env.scope.names.lookup y=some .local:=by first|exact .inl rfl|exact .inr rfl|assumption) :
  PS X (.Assign [.Name y py] (.ListComp elt [⟨tg,iter,ifs,0⟩] scope pos) spos) (tAsg (tCompG wi xs.length fr g tc te) (gName i)):=by
 intro t s σ H D I h;rw [exec_Assign_Name_used y py _ spos hw];refine o0 (wpAny_standAt (o0 ?_));show V0 _ _ (do let _ <-comprehension (.ListComp elt [⟨tg,iter,ifs,0⟩] scope pos) scope X.env (firstIterPos [⟨tg,iter,ifs,0⟩] pos) (newList []) (firstAsync [⟨tg,iter,ifs,0⟩]) (firstIter [⟨tg,iter,ifs,0⟩] X.env) (some (assign (.Name y py) X.env));E3 ()) _ _ _;refine o0 (zen hcalm hi hfr hfree hfs hcell hkind hnames hg ht he hs I h λ A k j f d K n w ⟨c,hc,hp⟩ q=>?_);obtain ⟨m,d⟩:=d;obtain ⟨o,J,L,E,l,O,F⟩:=d;have B:Inv X ((A + 1,o) :: t) σ j k:=f.pins_of λ p a=>by
  rcases List.mem_cons.mp a with rfl|a
  ·exact ⟨E,K,n,c,λ v z=>by rw [l] at z;cases z⟩
  ·exact f.pin p (O1 _ a)
 refine thn (z0j (pos:=py) hNy hiy hy hf _ k σ j (.ref A) (.ref A) D.nx B rfl q) λ _ u ⟨σ5,H5,I6,q6⟩=>?_;have r:=I6.pin (A + 1,o) (O1 _ C1);have G:Inv X t σ5 H5 u:=I6.pins_of λ p a=>I6.pin p (O1 _ (Y0 _ a));refine ⟨m,⟨o,J,L,r.1,l,O,F⟩,λ P M=>?_⟩;exact G0 (G0 ⟨σ5,H5,G.turned (t':=u.toks) (it:=A + 1) (λ b o c e=>(M.2 b c).trans e) r.2.1 n (.inr w) hc hp,q6⟩)
end
end L2
set_option maxHeartbeats 400000
namespace L2
open PySem PySem.Spec PyProof.Rows
theorem z5q {t rest:TS} {D:Ends} {σ:St} {H:Hp} (R:St->Hp->Prop) (hr :∀σ1 H1,R σ1 H1->rest D σ1 H1) (h:(∀σ1 H1,R σ1 H1->rest D σ1 H1)->t { D with nx:=rest D } σ H):tSeq t rest D σ H:=h hr
theorem z0l {te:TE} {g:TG} {rest:TS} {D:Ends} {σ:St} {H:Hp} (h:te σ H λ x H1=>g x σ H1 (rest D)):tSeq (tAsg te g) rest D σ H:=h
structure Runs (J:It) (H1:Hp) (n:Nat) (Item:Nat->V->Hp->Prop):Prop where
 go :∀i,i < n->∀H,Same H1 H->J.go i H
 stop :∀H,Same H1 H->J.stop n H
 item :∀i,i < n->∀H v H',Same H1 H->J.yld i H v H'->Same H H'/\Item i v H'
theorem z0s (p:Nat->Bool) (n:Nat):(K1 (n + 1)).filter p=(K1 n).filter p++(if p n=true then [n] else []):=by rw [y8,M4,F4];cases p n<;>rfl
inductive All2 {α β:Type} (R:α->β->Prop):List α->List β->Prop
 | nil:All2 R [] []
 | cons {a:α} {b:β} {xs:List α} {ys:List β}:R a b->All2 R xs ys->All2 R (a :: xs) (b :: ys)
theorem z49 {α β:Type} {R:α->β->Prop} :∀{xs:List α} {ys:List β} {x:α} {y:β},All2 R xs ys->R x y->All2 R (xs++[x]) (ys++[y])
 | [],_,x,y,.nil,h=>.cons h .nil
 | _ :: _,_,x,y,.cons a r,h=>.cons a (z49 r h)
theorem z02 {α β:Type} {R S:α->β->Prop} (h :∀a b,R a b->S a b) :∀{xs:List α} {ys:List β},All2 R xs ys->All2 S xs ys
 | [],_,.nil=>.nil
 | _ :: _,_,.cons a r=>.cons (h _ _ a) (z02 h r)
theorem z05 {α β:Type} {R:α->β->Prop} :∀{xs:List α} {ys:List β},All2 R xs ys->ys.length=xs.length
 | [],_,.nil=>rfl
 | _ :: _,_,.cons _ r=>congrArg (· + 1) (z05 r)
theorem z56 {α β:Type} {f:α->β} :∀{xs:List α} {ys:List β},All2 (λ x y=>y=f x) xs ys->ys=xs.map f
 | [],_,.nil=>rfl
 | _ :: _,_,.cons a r=>by rw [J1,z56 r,a]
theorem zdk {J:It} {H1:Hp} {n m:Nat} {Item:Nat->V->Hp->Prop} {fr:List (Nat×Str)} {g:TG} {tc:TT} {te:TE} {σ:St} {Q:VK} (p:Nat->Bool) (R:Nat->V->Hp->Prop) (hR :∀i y H H',Same H H'->R i y H->R i y H') (r:Runs J H1 n Item) (hn:n<=sizeLine)
  (body :∀i,i < n->∀v H,Same H1 H->Item i v H->∀(KT:VK) (KF:Hp->Prop),(p i=true->∀y H',Same H H'->R i y H'->KT y H')->(p i=false->∀H',Same H H'->KF H')->
   g v (cStG σ fr (V1 m none)) H λ σ6 H6=>∃us,us.length=m/\σ6=cStG σ fr us/\tc (cStG σ fr us) H6 λ b H2=>if b=true then te (cStG σ fr us) H2 KT else KF H2)
  (hQ :∀l H' ys,Same H1 H'->H' l=none->All2 (λ i y=>R i y H') ((K1 n).filter p) ys->Q (.ref l) (upd H' l (.lst ys))) :
  ∃W:Nat->Nat->List V->Hp->Prop,(∃m,W 0 m [] H1)/\∀i k ys H,W i k ys H->
   (J.stop i H/\ys.length<=sizeLine/\∀p,H p=none->Q (.ref p) (upd H p (.lst ys)))\/
   (J.go i H/\ys.length<=sizeLine/\∀v H',J.yld i H v H'->g v (cStG σ fr (V1 m none)) H' λ σ6 H6=>∃us,us.length=m/\σ6=cStG σ fr us/\tc (cStG σ fr us) H6 λ b H2=>if b=true then te (cStG σ fr us) H2 λ y H3=>∃m',m' < k/\W (i + 1) m' (ys++[y]) H3 else∃m',m' < k/\W (i + 1) m' ys H2):=by
 refine ⟨λ i k ys H'=>k=n - i/\i<=n/\Same H1 H'/\All2 (λ i y=>R i y H') ((K1 i).filter p) ys,⟨n,by simp,U1 _,Same.refl H1,.nil⟩,?_⟩;rintro i k ys H' ⟨rfl,hi,sm,fa⟩;have h:ys.length<=sizeLine:=by rw [z05 fa];have:=A2 p (K1 i);rw [W1] at this;omega
 by_cases hlt:i < n
 ·refine .inr ⟨r.go i hlt H' sm,h,λ v H2 y=>?_⟩;obtain ⟨d,j⟩:=r.item i hlt H' v H2 sm y;refine body i hlt v H2 (sm.trans d) j _ _ (λ f y H3 c q=>⟨n - (i + 1),by omega,rfl,hlt,(sm.trans d).trans c,?_⟩) (λ f H3 c=>⟨n - (i + 1),by omega,rfl,hlt,(sm.trans d).trans c,?_⟩)
  ·rw [z0s,if_pos f];exact z49 (z02 (λ a b z=>hR a b _ _ (d.trans c) z) fa) q
  ·rw [z0s,if_neg (by rw [f];decide),J2];exact z02 (λ a b z=>hR a b _ _ (d.trans c) z) fa
 ·have e:i=n:=by omega
  subst e;exact .inl ⟨r.stop H' sm,h,λ l o=>hQ l H' ys sm o fa⟩
theorem zgy {K:d0} {a:Addr} {xs:List V} {H1:Hp} (hq:SqL K H1 a xs):Runs (Itl K a) H1 xs.length (λ i v _=>xs[i]? = some v):=
 ⟨λ i b H s=>⟨xs,xs[i],s.seq hq,by simp [b]⟩,λ H s=>⟨xs,s.seq hq,B0 _⟩,λ i b H v c s y=>by obtain ⟨e,y⟩:=y;subst e;exact ⟨Same.refl _,y xs (s.seq hq)⟩⟩
theorem z6f {α β:Type} (p:α->Bool) (f:α->β) (d:α) :∀xs:List α,((K1 xs.length).filter λ i=>p (xs[i]?.getD d)).map (λ i=>f (xs[i]?.getD d))=(xs.filter p).map f:=by
 intro xs;have h:(K1 xs.length).map (λ i=>xs[i]?.getD d)=xs:=by
  apply j6
  ·simp
  ·intro i b a;simp only [j00,A9,N0 a,M9]
 have e:(xs.filter p).map f=((((K1 xs.length).map (λ i=>xs[i]?.getD d))).filter p).map f:=by rw [h]
 rw [e,j0b,R3];rfl
theorem z7k (ns:List Int) :∀j,j<=ns.length->preSum (λ i=>ns[i]?.getD 0) j=(ns.take j).sum
 | 0,_=>by rw [List.take_zero];rfl
 | j + 1,h=>by show preSum (λ i=>ns[i]?.getD 0) j + ns[j]?.getD 0=_;rw [z7k ns j (Nat.le_of_succ_le h),List.take_succ_eq_append_getElem h,List.sum_append,N0 h];simp
structure QE (X:Cx) (e:Expr) (t:TE):Prop where
 run:PE X e t
structure QA (X:Cx) (es:List Expr) (t:TA):Prop where
 run:PA X es t
structure QPs (X:Cx) (pos:Pos) (ks:List (Option Expr)) (vs:List Expr) (t:List (TE×TE)):Prop where
 run:PPs X pos ks vs t
structure QS (X:Cx) (st:Stmt) (t:TS):Prop where
 run:PS X st t
structure QSs (X:Cx) (sts:List Stmt) (t:TS):Prop where
 run:PSs X sts t
section
variable {X:Cx} {pos:Pos}
theorem q_of {sts:List Stmt} {t:TS} {G:TS->Prop} (q:QSs X sts t) (g:G t) :∃t,PSs X sts t/\G t:=⟨t,q.run,g⟩
theorem z25 {st:Stmt} {t:TS} (h:QS X st t):QSs X [st] t:=⟨z04 h.run⟩
theorem z0i {st:Stmt} {rest:List Stmt} {t u:TS} (h:QS X st t) (r:QSs X rest u):QSs X (st :: rest) (tSeq t u):=⟨z03 h.run r.run⟩
theorem qs_set {i:Nat} {x:Str} {e:Expr} {te:TE} {pos':Pos} (hN:X.N.Nodup) (hi:X.N[i]? = some x) (hx:Loc X.env.scope x) (he:QE X e te) (hs:F6 e (some (.Name x pos')) pos.line X.env=E3 false:=by rfl) (hf:X.fn x=true\/X.env.scope.names.lookup x=some .local:=by first|exact .inl rfl|exact .inr rfl|assumption) :
  QS X (.Assign [.Name x pos'] e pos) (tAsg te (gName i)):=⟨ps_set hN hi hx he.run hs hf⟩
theorem ze8 {o i value:Expr} {td ty tv:TE} {pos':Pos} (hu:X.A.units + 1 < cLine) (ho:QE X o td) (hi:QE X i ty) (hv:QE X value tv) (hs:F6 value (some (.Subscript o i pos')) pos.line X.env=E3 false) :
  QS X (.Assign [.Subscript o i pos'] value pos) (sDPut td ty tv):=⟨z9a hu ho.run hi.run hv.run hs⟩
theorem qs_for {tg iter:Expr} {body:List Stmt} {wi:TI} {g:TG} {tb:TS} (hp:PassesOwn (E1 X.prog X.w) X.A X.env X.xe) (hc:X.calm=true) (hi:PI X tg iter wi) (hg:PG X tg g) (hb:QSs X body tb)
  (hs :∀x,C4 iter X.env x=E3 x:=by intro _;rfl):QS X (.For tg iter body [] pos) (tFor wi g tb):=⟨ps_for hp hc hi hg hb.run hs⟩
theorem qe_lst {es:List Expr} {t:TA} (h:QA X es t):QE X (.List es pos) (tLst t):=⟨pe_lst h.run⟩
theorem qe_tup {es:List Expr} {t:TA} {x1} (h:QA X es t):QE X (.Tuple es x1 pos) (tTup t):=⟨pe_tup h.run⟩
theorem qa_nil:QA X [] tNil:=⟨pa_nil⟩
theorem z09 {e:Expr} {es:List Expr} {te:TE} {t:TA} (ha:QE X e te) (hr:QA X es t) (hs:B1 (e :: es) X.env=(false,m3 e X.env) :: B1 es X.env:=by rfl):QA X (e :: es) (tCons te t):=⟨z00 ha.run hr.run hs⟩
theorem zkw:QPs X pos [] [] []:=⟨zih⟩
theorem zbm {k v:Expr} {ks:List (Option Expr)} {vs:List Expr} {tk tv:TE} {trs:List (TE×TE)} (hk:QE X k tk) (hv:QE X v tv) (hr:QPs X pos ks vs trs):QPs X pos (some k :: ks) (v :: vs) ((tk,tv) :: trs):=⟨zbh hk.run hv.run hr.run⟩
theorem zl4 {keys:List (Option Expr)} {values:List Expr} {trs:List (TE×TE)} (h:QPs X pos keys values trs) (hall:keys.all (·.isSome)=true) (hl:keys.length=values.length) (h0:keys≠[]) (h15:keys.length<=15):QE X (.Dict keys values pos) (tDisp trs):=⟨zis h.run hall hl h0 h15⟩
theorem qe_ix {a b:Expr} {ta tb:TE} {r:R2} (hr:IxR X r) (ha:QE X a ta) (hb:QE X b tb) (hs:zia b):QE X (.Subscript a b pos) (tOp r ta tb):=⟨pe_ix hr ha.run hb.run hs⟩
end
theorem z9h {X:Cx} {K:d0} (h:X.K=K):IxR X (rIx K):=h ▸ ix_seq
theorem ziy {f:List V->Hp->VK->Prop} {te:TE} {D:Ends} {σ:St} {H:Hp} (h:te σ H λ x H1=>f [x] H1 D.rt):tRet (tCB f (tCons te tNil)) D σ H:=h
theorem z0e {α β:Type} {R:α->β->Prop} :∀{xs:List α} {ys:List β} {i:Nat} {y:β},All2 R xs ys->ys[i]? = some y->∃x,xs[i]? = some x/\R x y
 | _,_,i,y,.nil,e=>by simp at e
 | _,_,0,y,.cons a _,e=>by rw [F2] at e;cases e;exact ⟨_,F2,a⟩
 | _,_,i + 1,y,.cons _ r,e=>by rw [X1] at e;obtain ⟨x,b,c⟩:=z0e r e;exact ⟨x,by rw [X1];exact b,c⟩
theorem zf9 {α:Type} {J:It} {H1:Hp} {rs:List α} {xs:List V} {RA:Hp->α->V->Prop} {m:Nat} {fr:List (Nat×Str)} {g:TG} {tc:TT} {te:TE} {σ:St} {Q:VK} (d:α) (p:α->Bool) (f:α->V) (r:Runs J H1 xs.length (λ i v _=>xs[i]? = some v)) (hm :∀H H' a v,Same H H'->RA H a v->RA H' a v) (al:All2 (RA H1) rs xs) (hn:rs.length<=sizeLine)
  (body :∀a∈rs,∀v H,Same H1 H->RA H a v->∀(KT:VK) (KF:Hp->Prop),(p a=true->∀H',Same H H'->KT (f a) H')->(p a=false->∀H',Same H H'->KF H')->
   g v (cStG σ fr (V1 m none)) H λ σ6 H6=>∃us,us.length=m/\σ6=cStG σ fr us/\tc (cStG σ fr us) H6 λ b H2=>if b=true then te (cStG σ fr us) H2 KT else KF H2)
  (hQ :∀l H',Same H1 H'->H' l=none->Q (.ref l) (upd H' l (.lst ((rs.filter p).map f)))) :
  ∃W:Nat->Nat->List V->Hp->Prop,(∃m,W 0 m [] H1)/\∀i k ys H,W i k ys H->
   (J.stop i H/\ys.length<=sizeLine/\∀p,H p=none->Q (.ref p) (upd H p (.lst ys)))\/
   (J.go i H/\ys.length<=sizeLine/\∀v H',J.yld i H v H'->g v (cStG σ fr (V1 m none)) H' λ σ6 H6=>∃us,us.length=m/\σ6=cStG σ fr us/\tc (cStG σ fr us) H6 λ b H2=>if b=true then te (cStG σ fr us) H2 λ y H3=>∃m',m' < k/\W (i + 1) m' (ys++[y]) H3 else∃m',m' < k/\W (i + 1) m' ys H2):=by
 have o:=z05 al;refine zdk (λ i=>p (rs[i]?.getD d)) (λ i y _=>y=f (rs[i]?.getD d)) (λ _ _ _ _ _ h=>h) r (by rw [o];exact hn) (λ i A v H s q KT KF n j=>?_) λ l H' ys s u z=>?_
 ·obtain ⟨a,c,t⟩:=z0e al q;rw [c] at n j;exact body a (S0 c) v H s (hm _ _ _ _ s t) KT KF (λ x H' w=>n x _ H' w rfl) j
 ·have e:=z56 z;rw [o,z6f p f d rs] at e;rw [e];exact hQ l H' s u
theorem zcz {α:Type} {K:d0} {l:Addr} {rs:List α} {xs:List V} {RA:Hp->α->V->Prop} {tl te:TE} {tc:TT} {g:TG} {m:Nat} {fr:List (Nat×Str)} {σ:St} {H H1:Hp} {Q:VK} (d:α) (p:α->Bool) (f:α->V) (htl :∀R:VK,R (.ref l) H1->tl σ H R) (hq:SqL K H1 l xs) (hm :∀H H' a v,Same H H'->RA H a v->RA H' a v) (al:All2 (RA H1) rs xs) (hn:rs.length<=sizeLine)
  (body :∀a∈rs,∀v H,Same H1 H->RA H a v->∀(KT:VK) (KF:Hp->Prop),(p a=true->∀H',Same H H'->KT (f a) H')->(p a=false->∀H',Same H H'->KF H')->
   g v (cStG σ fr (V1 m none)) H λ σ6 H6=>∃us,us.length=m/\σ6=cStG σ fr us/\tc (cStG σ fr us) H6 λ b H2=>if b=true then te (cStG σ fr us) H2 KT else KF H2)
  (hQ :∀l H',Same H1 H'->H' l=none->Q (.ref l) (upd H' l (.lst ((rs.filter p).map f)))):tCompG (iList K tl) m fr g tc te σ H Q:=
 htl _ ⟨l,rfl,⟨xs,hq⟩,zf9 d p f (zgy hq) hm al hn body hQ⟩
end L2
set_option maxHeartbeats 4000000
namespace L2
open PySem PySem.Spec PyProof.Rows
section
variable {prog:Program} {w:W0} {A:Y1} {E:Value->A0->Prop} {s:A0}
theorem z7e (hh:A.handled=none) (it t:Addr) (ne:t≠it) (items:Array Value):Draws prog w A it [it,t] items.size (λ i v=>items[i]? = some v) (λ i h=>h.IsTupleIter it t i/\h.IsTuple t items) where
 live:=λ i h a=>a.1.elim λ o z=>⟨o,z.1⟩
 frame:=λ i h b a k=>⟨a.1.elim λ o z=>⟨o,k it (by simp) o z.1,z.2⟩,a.2.elim λ o z=>⟨o,k t (by simp) o z.1,z.2⟩⟩
 item:=λ i s Q E c a q=>tupOn a.1 a.2 (G2 c) λ b f d=>q _ b s.toks (G2 c) ⟨f,a.2.elim λ o z=>⟨o,(d.2 t ne).trans z.1,z.2⟩⟩ d
 done:=λ s Q E a q=>tupOff hh a.1 a.2 (by simp) λ b e x y=>q b e x y
theorem zkq (a:Addr) (xs:Array Value):Meets (C7.«enumerate.__new__» ⟨[.type "enumerate",.ref a],[]⟩) (λ _ R s=>s.heap.IsTuple a xs/\R (.ok (.ret (.ref (s.heap.objs.size + 1))))
  { s with heap:=(s.heap.push { cls:=.type "tuple_iterator",data:=.fields #[.ref a,.int 0 0] }).push { cls:=.type "enumerate",data:=.fields #[.none,.bool false,.ref s.heap.objs.size,j19 0,.none,.none] } }):=
 .of_wp λ e w A R s h=>by
  obtain ⟨j,g,d,i,k⟩:=s;obtain ⟨f,h⟩:=h;have m:=sub_enumerate;have b:Heap.IsTuple (Shared.heap ⟨j,g,d,i,k⟩) a xs:=f
  wp_walk using V5 b
  intro Γ p l;show V0 (E1 e w) A.in1 (E3 _) _ _ _;refine G0 ?_;generalize List.drop 1 ((Γ.code,p) :: Γ.below)=L;split
  ·rename_i c _ _ _ _;cases c == Q6 "enumerate" with
   | true=>
    wp_walk using V5 b
    refine ⟨_,rfl,?_⟩;simpa [Y3,N4] using h
   | false=>
    wp_walk using V5 b
    refine ⟨_,rfl,?_⟩;simpa [Y3,N4] using h
  ·wp_walk using V5 b
   refine ⟨_,rfl,?_⟩;simpa [Y3,N4] using h
theorem zjk {a:Addr} {xs:Array Value} {Q:Value->A0->Prop} (ha:s.heap.IsTuple a xs)
  (q :∀h',IsEnum h' (s.heap.objs.size + 1) s.heap.objs.size 0 .none->h'.IsTupleIter s.heap.objs.size a 0->h'.objs.size=s.heap.objs.size + 2->(∀c o,s.heap.get? c=some o->h'.get? c=some o)->Q (.ref (s.heap.objs.size + 1)) { s with heap:=h' }) :
  V0 (E1 prog w) A (call (.type "enumerate") [.ref a]) Q E s:=by
 refine callType_new F.called_enumerate (by decide) (F.typeCall_enumerate_1 _) (F.newCall_enumerate_1 _) (λ g=>F.args_object_init_2 g _) F.entry_enumerate_new (zkq a xs) ⟨ha,?_⟩;generalize hn:s.heap.objs.size=n at q⊢;generalize h0:s.heap.push { cls:=.type "tuple_iterator",data:=.fields #[.ref a,.int 0 0] }=k0;have d:k0.objs.size=n + 1:=by rw [<-h0,Y3,hn]
 have f:k0.get? n=some { cls:=.type "tuple_iterator",data:=.fields #[.ref a,.int 0 0] }:=by rw [<-h0,<-hn];exact A1 _ rfl
 have b:(k0.push { cls:=.type "enumerate",data:=.fields #[.none,.bool false,.ref n,j19 0,.none,.none] }).get? (n + 1)=some { cls:=.type "enumerate",data:=.fields #[.none,.bool false,.ref n,j19 0,.none,.none] }:=by rw [<-d];exact A1 _ rfl
 exact ⟨⟨_,b,rfl⟩,q _ b ⟨_,F0 _ f,rfl,rfl⟩ (by rw [Y3,d]) λ c o e=>F0 _ (by rw [<-h0];exact F0 _ e)⟩
end
noncomputable def IteL (K:d0) (a:Addr):It:=
  ⟨λ i H=>∃xs x,SqL K H a xs/\xs[i]? = some x,
   λ i H v H'=>∃p,H p=none/\v=.ref p/\∀xs,SqL K H a xs->∃x,xs[i]? = some x/\H'=upd H p (.tup [.int i,x]),
   λ i H=>∃xs,SqL K H a xs/\xs.length=i⟩
theorem w_0:(0:Nat)<=sizeLine:=by decide
theorem w_1:(1:Nat)<=sizeLine:=by decide
theorem w_2:(2:Nat)<=sizeLine:=by decide
theorem w_3:(3:Nat)<=sizeLine:=by decide
theorem w_4:(4:Nat)<=sizeLine:=by decide
theorem w_5:(5:Nat)<=sizeLine:=by decide
theorem w_7:(7:Nat)<=sizeLine:=by decide
theorem w_8:(8:Nat)<=sizeLine:=by decide
theorem w_10:(10:Nat)<=sizeLine:=by decide
theorem zee {P:Program} {w:W0} {K:d0} {elts:List Expr} {x1:Nat} {pos:Pos} {e it a:Addr} (ne:e≠it) (nae:a≠e) (nai:a≠it):Turn P w K (.Tuple elts x1 pos) (IteL K a) [e,it] e (λ n h=>(∃old,IsEnum h e it (n:Nat) old)/\h.IsListIter it a n) where
 mem:=by simp
 obj:=λ n h f c g=>by
  simp only [P1,C0,or_false] at g;rcases g with rfl|rfl
  ·obtain ⟨⟨old,z⟩,_⟩:=f;exact ⟨_,z,λ v z=>by cases (show j42 _=Data.cell v from z)⟩
  ·obtain ⟨_,o,e,_,d⟩:=f;exact ⟨o,e,λ v z=>by rw [d] at z;cases z⟩
 keep:=λ n h M f k=>by obtain ⟨⟨old,z⟩,o,e1,e2⟩:=f;exact ⟨⟨old,k e (by simp) _ z⟩,o,k it (by simp) _ e1,e2⟩
 item:=by
  intro X C L J g n a7 s σ H E I m f F;subst C L J;obtain ⟨Q,x,q,S⟩:=F;obtain ⟨i,r,j,_⟩:=I.list q;have j:s.heap.IsList a i.toArray:=j.isList;obtain ⟨u,U,ru⟩:=r.get S;have D:=Draws.list (prog:=X.prog) (w:=X.w) (A:=X.A.in1) (I.ok.hd g) it a nai i.toArray;have a1:n < i.toArray.size:=by have:=(List.getElem?_eq_some_iff.mp U).1;simpa using this
  obtain ⟨⟨old,R⟩,O⟩:=f;refine wpAny_pyNext_enum_itemD D R ⟨O,j⟩ a1 ne (by simp [ne,nae.symm]) λ y M t p a6 a3 Z hz G=>?_;have p:i[n]? = some y:=by simpa using p
  rw [U] at p;cases p;have a4:e < s.heap.objs.size:=Q0 R;have a0:it < s.heap.objs.size:=by obtain ⟨o,z,_⟩:=O;exact Q0 z
  have T:s.heap.objs.size≠e:=A4 a4;have nT:s.heap.objs.size∉[e,it]:=by simp only [P1,C0,or_false,not_or];exact ⟨T,A4 a0⟩
  refine ⟨_,rfl,j35 a6 λ N a2 B=>?_⟩;have k2 :∀b o,b∉[e,it]->s.heap.get? b=some o->N.get? b=some o:=λ b o l z=>by simp only [P1,C0,or_false,not_or] at l;exact (B.2 b l.1).trans (G b o l.1 l.2 z)
  have V:=(B.2 _ T).trans Z;have Y:=a3.1.elim λ o z=>(⟨o,(B.2 it ne.symm).trans z.1,z.2⟩:N.IsListIter it a (n + 1))
  have fr:H s.heap.objs.size=none:=I.hok.fresh (B0 _);refine ⟨.ref s.heap.objs.size,upd H s.heap.objs.size (.tup [.int n,x]),I.turnedLaid (t':=t + 1) k2 m (B0 _) ⟨w_2,[.int n t,u],.cons ⟨t,rfl⟩ (.cons ru .nil),⟨_,V,rfl,_,rfl⟩,_,V,rfl⟩,rfl,⟨_,fr,rfl,λ a8 a5=>⟨x,?_,rfl⟩⟩,⟨⟨_,a2⟩,Y⟩,λ c g=>?_⟩
  ·rw [I.list_inj a5 q];exact S
  ·rw [upd_ne (λ (z:c=s.heap.objs.size)=>nT (z ▸ g))];exact (m c g).1
 done:=by
  intro X C L J g n a7 s σ H E I m f F;subst C L J;obtain ⟨Q,q,rfl⟩:=F;obtain ⟨i,r,j,_⟩:=I.list q;have j:s.heap.IsList a i.toArray:=j.isList;have D:=Draws.list (prog:=X.prog) (w:=X.w) (A:=X.A.in1) (I.ok.hd g) it a nai i.toArray;have W:=WalksT.enumerateD D e ne (by simp [ne,nae.symm]) (by simp);have la:i.toArray.size=Q.length:=by simpa using r.length.symm
  exact W.done s _ E (by rw [la];exact ⟨f.1,f.2,j⟩) λ M tk G=>⟨rfl,I.turnedL (t':=tk) (λ c o g e=>G c o g e) m⟩
 self:=λ _ _ _ _ _ f h=>f.1.elim λ old z=>X7 z h
noncomputable def ieL (K:d0) (ta:TA):TI:=λ σ H R=>ta σ H λ vs H1=>∃a xs,vs=[.ref a]/\SqL K H1 a xs/\R (IteL K a) H1
theorem z5c {X:Cx} {elts:List Expr} {x1:Nat} {tpos:Pos} {e:Expr} {ta:TA} {p pos:Pos} (hg:Gl X "enumerate") (hm:X.mg "enumerate" = none) (ha:PA X [e] ta) (hs:B1 [e] X.env=[(false,m3 e X.env)]:=by rfl) :
  PI X (.Tuple elts x1 tpos) (.Call (.Name "enumerate" p) [e] [] pos) (ieL X.K ta):=by
 intro t s σ H R I h;refine Call_ (ld_blt I hg hm boot_enumerate (A3 (thn (ha pos t s σ H _ I h) λ y d ⟨vs,H1,I1,r1,q1⟩=>?_) (by rw [hs];rfl) rfl));obtain ⟨a,z,m,v,q⟩:=q1;subst m;obtain ⟨u,rfl,l⟩:=vals1 r1;cases (show u=Value.ref a from l);obtain ⟨r,w,b,_⟩:=I1.list v;have b:d.heap.IsList a r.toArray:=b.isList;have j:a < d.heap.objs.size:=by obtain ⟨o,e,_⟩:=id b;exact Q0 e
 refine call_enumerate_list b λ x f k _ n=>?_;refine X7 f ?_;refine ⟨_,_,_,_,H1,rfl,I1.kept (t':=d.toks) n,zee (A4 (K2 _)) (F1 (Z1 j)) (F1 j),⟨⟨_,f⟩,k⟩,λ c i=>?_,q⟩;have g:d.heap.objs.size<=c:=by
  simp only [P1,C0,or_false] at i;rcases i with rfl|rfl
  ·exact j08 _ _
  ·exact B0 _
 exact I1.fpOk g (I1.hok.fresh g)
theorem z4l {K:d0} {a:Addr} {xs:List V} {g:TG} {tb:TS} {D:Ends} {σ:St} {H:Hp} (Pv:Nat->St->Hp->Prop) (h0:Pv 0 σ H) (hl :∀i σ H,Pv i σ H->SqL K H a xs)
  (hs :∀i x σ H p,xs[i]? = some x->Pv i σ H->H p=none->g (.ref p) σ (upd H p (.tup [.int i,x])) λ σ2 H2=>tb { D with nx:=Pv (i + 1),ct:=Pv (i + 1),bk:=D.nx } σ2 H2) (hd :∀σ H,Pv xs.length σ H->D.nx σ H) :
  ∃W:Nat->Nat->St->Hp->Prop,(∃m,W 0 m σ H)/\∀i m σ H,W i m σ H->
   ((IteL K a).stop i H/\D.nx σ H)\/((IteL K a).go i H/\∃N:St->Hp->Prop,(∀σ' H',N σ' H'->∃m',m' < m/\W (i + 1) m' σ' H')/\∀x H',(IteL K a).yld i H x H'->g x σ H' λ σ2 H2=>tb { D with nx:=N,ct:=N,bk:=D.nx } σ2 H2):=by
 refine ⟨λ i m σ H=>m=xs.length - i/\i<=xs.length/\Pv i σ H,⟨xs.length,by simp,U1 _,h0⟩,?_⟩;rintro i m σ H ⟨rfl,hi,p⟩;have b:=hl i σ H p;by_cases hlt:i < xs.length
 ·refine .inr ⟨⟨xs,xs[i],b,by simp [hlt]⟩,Pv (i + 1),λ σ' H' d=>⟨xs.length - (i + 1),by omega,rfl,hlt,d⟩,λ v H' y=>?_⟩;obtain ⟨t,h,rfl,c⟩:=y;obtain ⟨f,j,rfl⟩:=c xs b;exact hs i f σ H t j p h
 ·have e:i=xs.length:=by omega
  subst e;exact .inl ⟨⟨xs,b,rfl⟩,hd σ H p⟩
noncomputable def IteT (K:d0) (a:Addr):It:=
  ⟨λ i H=>∃xs x,SqT K H a xs/\xs[i]? = some x,
   λ i H v H'=>∃p,H p=none/\v=.ref p/\∀xs,SqT K H a xs->∃x,xs[i]? = some x/\H'=upd H p (.tup [.int i,x]),
   λ i H=>∃xs,SqT K H a xs/\xs.length=i⟩
theorem zez {P:Program} {w:W0} {K:d0} {elts:List Expr} {x1:Nat} {pos:Pos} {e it a:Addr} (ne:e≠it) (nae:a≠e) (nai:a≠it):Turn P w K (.Tuple elts x1 pos) (IteT K a) [e,it] e (λ n h=>(∃old,IsEnum h e it (n:Nat) old)/\h.IsTupleIter it a n) where
 mem:=by simp
 obj:=λ n h f c g=>by
  simp only [P1,C0,or_false] at g;rcases g with rfl|rfl
  ·obtain ⟨⟨old,z⟩,_⟩:=f;exact ⟨_,z,λ v z=>by cases (show j42 _=Data.cell v from z)⟩
  ·obtain ⟨_,o,e,_,d⟩:=f;exact ⟨o,e,λ v z=>by rw [d] at z;cases z⟩
 keep:=λ n h M f k=>by obtain ⟨⟨old,z⟩,o,e1,e2⟩:=f;exact ⟨⟨old,k e (by simp) _ z⟩,o,k it (by simp) _ e1,e2⟩
 item:=by
  intro X C L J g n a7 s σ H E I m f F;subst C L J;obtain ⟨Q,x,q,S⟩:=F;obtain ⟨i,r,j,_⟩:=I.tuple q;have j:s.heap.IsTuple a i.toArray:=j;obtain ⟨u,U,ru⟩:=r.get S;have D:=z7e (prog:=X.prog) (w:=X.w) (A:=X.A.in1) (I.ok.hd g) it a nai i.toArray;have a1:n < i.toArray.size:=by have:=(List.getElem?_eq_some_iff.mp U).1;simpa using this
  obtain ⟨⟨old,R⟩,O⟩:=f;refine wpAny_pyNext_enum_itemD D R ⟨O,j⟩ a1 ne (by simp [ne,nae.symm]) λ y M t p a6 a3 Z hz G=>?_;have p:i[n]? = some y:=by simpa using p
  rw [U] at p;cases p;have a4:e < s.heap.objs.size:=Q0 R;have a0:it < s.heap.objs.size:=by obtain ⟨o,z,_⟩:=O;exact Q0 z
  have T:s.heap.objs.size≠e:=A4 a4;have nT:s.heap.objs.size∉[e,it]:=by simp only [P1,C0,or_false,not_or];exact ⟨T,A4 a0⟩
  refine ⟨_,rfl,j35 a6 λ N a2 B=>?_⟩;have k2 :∀b o,b∉[e,it]->s.heap.get? b=some o->N.get? b=some o:=λ b o l z=>by simp only [P1,C0,or_false,not_or] at l;exact (B.2 b l.1).trans (G b o l.1 l.2 z)
  have V:=(B.2 _ T).trans Z;have Y:=a3.1.elim λ o z=>(⟨o,(B.2 it ne.symm).trans z.1,z.2⟩:N.IsTupleIter it a (n + 1))
  have fr:H s.heap.objs.size=none:=I.hok.fresh (B0 _);refine ⟨.ref s.heap.objs.size,upd H s.heap.objs.size (.tup [.int n,x]),I.turnedLaid (t':=t + 1) k2 m (B0 _) ⟨w_2,[.int n t,u],.cons ⟨t,rfl⟩ (.cons ru .nil),⟨_,V,rfl,_,rfl⟩,_,V,rfl⟩,rfl,⟨_,fr,rfl,λ a8 a5=>⟨x,?_,rfl⟩⟩,⟨⟨_,a2⟩,Y⟩,λ c g=>?_⟩
  ·rw [I.tuple_inj a5 q];exact S
  ·rw [upd_ne (λ (z:c=s.heap.objs.size)=>nT (z ▸ g))];exact (m c g).1
 done:=by
  intro X C L J g n a7 s σ H E I m f F;subst C L J;obtain ⟨Q,q,rfl⟩:=F;obtain ⟨i,r,j,_⟩:=I.tuple q;have j:s.heap.IsTuple a i.toArray:=j;have D:=z7e (prog:=X.prog) (w:=X.w) (A:=X.A.in1) (I.ok.hd g) it a nai i.toArray;have W:=WalksT.enumerateD D e ne (by simp [ne,nae.symm]) (by simp);have la:i.toArray.size=Q.length:=by simpa using r.length.symm
  exact W.done s _ E (by rw [la];exact ⟨f.1,f.2,j⟩) λ M tk G=>⟨rfl,I.turnedL (t':=tk) (λ c o g e=>G c o g e) m⟩
 self:=λ _ _ _ _ _ f h=>f.1.elim λ old z=>X7 z h
noncomputable def ieT (K:d0) (ta:TA):TI:=λ σ H R=>ta σ H λ vs H1=>∃a xs,vs=[.ref a]/\SqT K H1 a xs/\R (IteT K a) H1
theorem zkg {X:Cx} {elts:List Expr} {x1:Nat} {tpos:Pos} {e:Expr} {ta:TA} {p pos:Pos} (hg:Gl X "enumerate") (hm:X.mg "enumerate" = none) (ha:PA X [e] ta) (hs:B1 [e] X.env=[(false,m3 e X.env)]:=by rfl) :
  PI X (.Tuple elts x1 tpos) (.Call (.Name "enumerate" p) [e] [] pos) (ieT X.K ta):=by
 intro t s σ H R I h;refine Call_ (ld_blt I hg hm boot_enumerate (A3 (thn (ha pos t s σ H _ I h) λ y d ⟨vs,H1,I1,r1,q1⟩=>?_) (by rw [hs];rfl) rfl));obtain ⟨a,z,m,v,q⟩:=q1;subst m;obtain ⟨u,rfl,l⟩:=vals1 r1;cases (show u=Value.ref a from l);obtain ⟨r,w,b,_⟩:=I1.tuple v;have b:d.heap.IsTuple a r.toArray:=b;have j:a < d.heap.objs.size:=by obtain ⟨o,e,_⟩:=id b;exact Q0 e
 refine zjk b λ x f k _ n=>?_;refine X7 f ?_;refine ⟨_,_,_,_,H1,rfl,I1.kept (t':=d.toks) n,zez (A4 (K2 _)) (F1 (Z1 j)) (F1 j),⟨⟨_,f⟩,k⟩,λ c i=>?_,q⟩;have g:d.heap.objs.size<=c:=by
  simp only [P1,C0,or_false] at i;rcases i with rfl|rfl
  ·exact j08 _ _
  ·exact B0 _
 exact I1.fpOk g (I1.hok.fresh g)
theorem zgt {K:d0} {a:Addr} {xs:List V} {g:TG} {tb:TS} {D:Ends} {σ:St} {H:Hp} (Pv:Nat->St->Hp->Prop) (h0:Pv 0 σ H) (hl :∀i σ H,Pv i σ H->SqT K H a xs)
  (hs :∀i x σ H p,xs[i]? = some x->Pv i σ H->H p=none->g (.ref p) σ (upd H p (.tup [.int i,x])) λ σ2 H2=>tb { D with nx:=Pv (i + 1),ct:=Pv (i + 1),bk:=D.nx } σ2 H2) (hd :∀σ H,Pv xs.length σ H->D.nx σ H) :
  ∃W:Nat->Nat->St->Hp->Prop,(∃m,W 0 m σ H)/\∀i m σ H,W i m σ H->
   ((IteT K a).stop i H/\D.nx σ H)\/((IteT K a).go i H/\∃N:St->Hp->Prop,(∀σ' H',N σ' H'->∃m',m' < m/\W (i + 1) m' σ' H')/\∀x H',(IteT K a).yld i H x H'->g x σ H' λ σ2 H2=>tb { D with nx:=N,ct:=N,bk:=D.nx } σ2 H2):=by
 refine ⟨λ i m σ H=>m=xs.length - i/\i<=xs.length/\Pv i σ H,⟨xs.length,by simp,U1 _,h0⟩,?_⟩;rintro i m σ H ⟨rfl,hi,p⟩;have b:=hl i σ H p;by_cases hlt:i < xs.length
 ·refine .inr ⟨⟨xs,xs[i],b,by simp [hlt]⟩,Pv (i + 1),λ σ' H' d=>⟨xs.length - (i + 1),by omega,rfl,hlt,d⟩,λ v H' y=>?_⟩;obtain ⟨t,h,rfl,c⟩:=y;obtain ⟨f,j,rfl⟩:=c xs b;exact hs i f σ H t j p h
 ·have e:i=xs.length:=by omega
  subst e;exact .inl ⟨⟨xs,b,rfl⟩,hd σ H p⟩
end L2
set_option maxHeartbeats 400000
namespace L2
open PySem PySem.Spec PyProof.Rows
section
variable {X:Cx}
theorem zg6 (hc:X.calm=true):CallR X (.builtin "sum") (λ xs H Q=>∃(p:Addr) (ns:List Int),xs=[.ref p]/\SqL X.K H p (ns.map V.int)/\Q (.int ns.sum) H):=by
 intro G s σ H xs E Q I r h;obtain ⟨p,ns,rfl,C,q⟩:=h;obtain ⟨u,rfl,w⟩:=vals1 r;cases w;obtain ⟨d,m,a,F⟩:=I.list C;have B:p≠s.heap.objs.size:=by obtain ⟨o,e,_⟩:=a.isList;exact F1 (Q0 e)
 have n:d.length=ns.length:=by have:=m.length;rw [K0] at this;exact this.symm
 refine call_sum_walkAnyS (j0f a.isList ?_);refine ⟨s.heap.objs.size,_,_,_,_,_,_,λ i=>ns[i]?.getD 0,rfl,(Walks.list (show X.A.in1.handled=none from I.ok.hd hc) s.heap.objs.size p B d.toArray).toS,⟨⟨_,A1 _ rfl,rfl,rfl⟩,a.isList.at λ o e=>F0 _ e⟩,?_,?_,?_⟩
 ·intro b f;simp only [P1,C0,or_false] at f;rcases f with rfl|rfl
  ·rw [Y3];exact K2 _
  ·obtain ⟨o,e,_⟩:=a.isList;exact Q0 (F0 _ e)
 ·intro i v c;have c:d[i]? = some v:=by simpa using c
  obtain ⟨D,e⟩:=List.getElem?_eq_some_iff.mp c;have j:i < ns.length:=by rw [<-n];exact D
  obtain ⟨u,l,g⟩:=m.get (i:=i) (x:=.int ns[i]) (by simp [j]);rw [c] at l;cases l;obtain ⟨t,g⟩:=g;exact ⟨t,by show v=L7 (ns[i]?.getD 0) t;rw [N0 j];exact g⟩
 ·intro y t' k;have e:preSum (λ i=>ns[i]?.getD 0) d.toArray.size=ns.sum:=by rw [P0,n,z7k ns _ (B0 _),Z9]
  rw [e,k.eq_with];refine ⟨.int _,H,I.kept (t':=y.toks) λ b o z=>k.heap b o ?_ (F0 _ z),⟨_,rfl⟩,q⟩;intro f;rw [List.mem_singleton.mp f] at z;exact absurd (Q0 z) (W3 _)
end
mutual
noncomputable def IsPd (K:d0) (H:Hp):PyData->V->Prop
 | .none,v=>v=.non
 | .bool b,v=>v=.bl b
 | .int i,v=>v=.int i
 | .str z,v=>v=.str z
 | .list ds,v=>∃a xs,v=.ref a/\SqL K H a xs/\IsPds K H ds xs
 | .tuple ds,v=>∃a xs,v=.ref a/\SqT K H a xs/\IsPds K H ds xs
 | .dict _,_=>False
noncomputable def IsPds (K:d0) (H:Hp):List PyData->List V->Prop
 | [],xs=>xs=[]
 | d :: ds,xs=>∃x r,xs=x :: r/\IsPd K H d x/\IsPds K H ds r
end
mutual
theorem IsPd.mono' {K:d0} {H H':Hp} (s :∀a xs,SqT K H a xs->SqT K H' a xs) (t :∀a xs,SqL K H a xs->SqL K H' a xs) :∀(d:PyData) (v:V),IsPd K H d v->IsPd K H' d v
 | .none,v,h=>h
 | .bool _,v,h=>h
 | .int _,v,h=>h
 | .str _,v,h=>h
 | .list ds,v,h=>by obtain ⟨a,xs,rfl,e,r⟩:=h;exact ⟨a,xs,rfl,t _ _ e,IsPds.mono' s t ds xs r⟩
 | .tuple ds,v,h=>by obtain ⟨a,xs,rfl,e,r⟩:=h;exact ⟨a,xs,rfl,s _ _ e,IsPds.mono' s t ds xs r⟩
 | .dict _,v,h=>h.elim
theorem IsPds.mono' {K:d0} {H H':Hp} (s :∀a xs,SqT K H a xs->SqT K H' a xs) (t :∀a xs,SqL K H a xs->SqL K H' a xs) :∀(ds:List PyData) (xs:List V),IsPds K H ds xs->IsPds K H' ds xs
 | [],xs,h=>h
 | d :: ds,xs,h=>by obtain ⟨x,r,rfl,a,b⟩:=h;exact ⟨x,r,rfl,IsPd.mono' s t d x a,IsPds.mono' s t ds r b⟩
end
theorem IsPd.same {K:d0} {H H':Hp} {d:PyData} {v:V} (h:IsPd K H d v) (s:Same H H'):IsPd K H' d v:=IsPd.mono' (λ _ _ q=>s.seqT q) (λ _ _ q=>s.seq q) d v h
section
variable {X:Cx} {pins:List (Addr×Obj)} {σ:St} {H:Hp} {s:A0}
mutual
theorem z2k (I:Inv X pins σ H s) :∀(d:PyData) (v:V) (u:Value),IsPd X.K H d v->RelV v u->∃as,Reads s.heap u d as
 | .none,v,u,h,r=>by cases (show v=.non from h);cases (show u=.none from r);exact ⟨_,.none⟩
 | .bool b,v,u,h,r=>by cases (show v=.bl b from h);cases (show u=.bool b from r);exact ⟨_,.bool b⟩
 | .int i,v,u,h,r=>by cases (show v=.int i from h);obtain ⟨t,rfl⟩:=r;exact ⟨_,.int i t⟩
 | .str z,v,u,h,r=>by cases (show v=.str z from h);obtain ⟨t,rfl⟩:=r;exact ⟨_,.str z t⟩
 | .list ds,v,u,h,r=>by obtain ⟨a,j,rfl,e,c⟩:=h;cases (show u=.ref a from r);obtain ⟨q,l,g,_⟩:=I.list e;obtain ⟨o,p,m,n,k⟩:=g.isList;obtain ⟨as,f⟩:=z8h I ds j q c l;exact ⟨_,.list p m k f⟩
 | .tuple ds,v,u,h,r=>by obtain ⟨a,j,rfl,e,c⟩:=h;cases (show u=.ref a from r);obtain ⟨q,l,g,_⟩:=I.tuple e;obtain ⟨o,p,m,n,k⟩:=g;obtain ⟨as,f⟩:=z8h I ds j q c l;exact ⟨_,.tuple p m k f⟩
 | .dict _,v,u,h,r=>h.elim
theorem z8h (I:Inv X pins σ H s) :∀(ds:List PyData) (xs:List V) (us:List Value),IsPds X.K H ds xs->Vals xs us->∃as,S6 s.heap us ds as
 | [],xs,us,h,r=>by cases (show xs=[] from h);cases r;exact ⟨_,.nil⟩
 | d :: ds,xs,us,h,r=>by
  obtain ⟨x,t,rfl,a,b⟩:=h;cases r with
  | cons r1 r2=>obtain ⟨as,c⟩:=z2k I d x _ a r1;obtain ⟨bs,e⟩:=z8h I ds t _ b r2;exact ⟨_,.cons c e⟩
end
end
mutual
noncomputable def plainP:PyData->Bool
 | .none=>true
 | .bool _=>false
 | .int _=>true
 | .str z=>(PyData.str z).canLay0
 | .list ds=>z13 ds
 | .tuple ds=>z13 ds
 | .dict _=>false
noncomputable def z13:List PyData->Bool
 | []=>true
 | d :: ds=>plainP d && z13 ds
end
mutual
theorem z8d :∀d:PyData,plainP d=true->d.canLay0=true
 | .none,_=>rfl
 | .bool _,h=>by cases h
 | .int _,_=>rfl
 | .str _,h=>h
 | .list ds,h=>z63 ds h
 | .tuple ds,h=>z63 ds h
 | .dict _,h=>by cases h
theorem z63 :∀ds:List PyData,z13 ds=true->T5 ds=true
 | [],_=>rfl
 | d :: ds,h=>by have h:(plainP d && z13 ds)=true:=h;rw [Y2] at h;show (d.canLay0 && T5 ds)=true;rw [z8d d h.1,z63 ds h.2];rfl
end
mutual
theorem zhx :∀d e:PyData,plainP d=true->plainP e=true->(d.eqv e=true↔d=e)
 | .none,e,_,he=>by
  cases e with
  | none=>exact ⟨λ _=>rfl,λ _=>rfl⟩
  | bool b=>cases he
  | dict _=>cases he
  | _=>exact ⟨λ z=>(by cases z),λ z=>(by cases z)⟩
 | .bool _,e,hd,_=>by cases hd
 | .int i,e,_,he=>by
  cases e with
  | int j=>exact ⟨λ z=>congrArg _ (eq_of_beq (show (i == j)=true from z)),λ z=>by cases z;exact beq_self_eq_true i⟩
  | bool b=>cases he
  | dict _=>cases he
  | _=>exact ⟨λ z=>(by cases z),λ z=>(by cases z)⟩
 | .str i,e,_,he=>by
  cases e with
  | str j=>exact ⟨λ z=>congrArg _ (eq_of_beq (show (i == j)=true from z)),λ z=>by cases z;exact beq_self_eq_true i⟩
  | bool b=>cases he
  | dict _=>cases he
  | _=>exact ⟨λ z=>(by cases z),λ z=>(by cases z)⟩
 | .list ds,e,hd,he=>by
  cases e with
  | list es=>exact ⟨λ z=>congrArg _ ((z64 ds es hd he).mp z),λ z=>(z64 ds es hd he).mpr (by cases z;rfl)⟩
  | bool b=>cases he
  | dict _=>cases he
  | _=>exact ⟨λ z=>(by cases z),λ z=>(by cases z)⟩
 | .tuple ds,e,hd,he=>by
  cases e with
  | tuple es=>exact ⟨λ z=>congrArg _ ((z64 ds es hd he).mp z),λ z=>(z64 ds es hd he).mpr (by cases z;rfl)⟩
  | bool b=>cases he
  | dict _=>cases he
  | _=>exact ⟨λ z=>(by cases z),λ z=>(by cases z)⟩
 | .dict _,e,hd,_=>by cases hd
theorem z64 :∀ds es:List PyData,z13 ds=true->z13 es=true->(W8 ds es=true↔ds=es)
 | [],[],_,_=>⟨λ _=>rfl,λ _=>rfl⟩
 | [],e :: es,_,_=>⟨λ z=>(by cases z),λ z=>(by cases z)⟩
 | d :: ds,[],_,_=>⟨λ z=>(by cases z),λ z=>(by cases z)⟩
 | d :: ds,e :: es,a,b=>by have a:(plainP d && z13 ds)=true:=a;have b:(plainP e && z13 es)=true:=b;rw [Y2] at a b;show (d.eqv e && W8 ds es)=true↔_;rw [Y2,zhx d e a.1 b.1,z64 ds es a.2 b.2];exact ⟨λ z=>by rw [z.1,z.2],λ z=>by cases z;exact ⟨rfl,rfl⟩⟩
end
theorem zdu {d e:PyData} (hd:plainP d=true) (he:plainP e=true) {p:Prop} [Decidable p] (h:d=e↔p):d.eqv e=decide p:=by rw [Bool.eq_iff_iff,decide_eq_true_eq,zhx d e hd he,h]
section
variable {X:Cx}
noncomputable def rEqP (K:d0):R2:=λ x y H Q=>∃d e,IsPd K H d x/\IsPd K H e y/\plainP d=true/\plainP e=true/\d.depth<=60/\Q (.bl (d.eqv e)) H
theorem room60 {A:Y1} {k m n:Nat} (hr:Room k A) (h:m<=60):A.units + min m n < cLine:=Q1 (Nat.add_le_add_left (D0 (C8 _ _) (D0 h (by decide:60<=64))) _) hr.units
theorem op_eqP {k:Nat} (hr:Room k X.A):OpR X (N2 .Eq) (rEqP X.K):=by intro o s σ H x y v u Q I b i h;obtain ⟨d,e,j,c,m,g,f,q⟩:=h;obtain ⟨n,a⟩:=z2k I d x v j b;obtain ⟨bs,l⟩:=z2k I e y u c i;exact j2j a l (z8d _ m) (z8d _ g) (room60 hr f) ⟨.bl _,H,I,rfl,q⟩
end
end L2
set_option maxHeartbeats 1000000
namespace L2
open PySem PySem.Spec PyProof.Rows
end L2
set_option maxHeartbeats 400000
namespace L2
open PySem PySem.Spec PyProof.Rows
structure RunsR (S:Hp->Hp->Prop) (J:It) (H1:Hp) (n:Nat) (Item:Nat->V->Hp->Prop):Prop where
 go :∀i,i < n->∀H,S H1 H->J.go i H
 stop :∀H,S H1 H->J.stop n H
 item :∀i,i < n->∀H v H',S H1 H->J.yld i H v H'->S H H'/\Item i v H'
theorem z2c {S:Hp->Hp->Prop} {J:It} {H1:Hp} {n m:Nat} {Item:Nat->V->Hp->Prop} {fr:List (Nat×Str)} {g:TG} {tc:TT} {te:TE} {σ:St} {Q:VK} (s0:S H1 H1) (st :∀a b c,S a b->S b c->S a c) (p:Nat->Bool) (R:Nat->V->Hp->Prop) (hR :∀i y H H',S H H'->R i y H->R i y H') (r:RunsR S J H1 n Item) (hn:n<=sizeLine)
  (body :∀i,i < n->∀v H,S H1 H->Item i v H->∀(KT:VK) (KF:Hp->Prop),(p i=true->∀y H',S H H'->R i y H'->KT y H')->(p i=false->∀H',S H H'->KF H')->
   g v (cStG σ fr (V1 m none)) H λ σ6 H6=>∃us,us.length=m/\σ6=cStG σ fr us/\tc (cStG σ fr us) H6 λ b H2=>if b=true then te (cStG σ fr us) H2 KT else KF H2)
  (hQ :∀l H' ys,S H1 H'->H' l=none->All2 (λ i y=>R i y H') ((K1 n).filter p) ys->Q (.ref l) (upd H' l (.lst ys))) :
  ∃W:Nat->Nat->List V->Hp->Prop,(∃m,W 0 m [] H1)/\∀i k ys H,W i k ys H->
   (J.stop i H/\ys.length<=sizeLine/\∀p,H p=none->Q (.ref p) (upd H p (.lst ys)))\/
   (J.go i H/\ys.length<=sizeLine/\∀v H',J.yld i H v H'->g v (cStG σ fr (V1 m none)) H' λ σ6 H6=>∃us,us.length=m/\σ6=cStG σ fr us/\tc (cStG σ fr us) H6 λ b H2=>if b=true then te (cStG σ fr us) H2 λ y H3=>∃m',m' < k/\W (i + 1) m' (ys++[y]) H3 else∃m',m' < k/\W (i + 1) m' ys H2):=by
 refine ⟨λ i k ys H'=>k=n - i/\i<=n/\S H1 H'/\All2 (λ i y=>R i y H') ((K1 i).filter p) ys,⟨n,by simp,U1 _,s0,.nil⟩,?_⟩;rintro i k ys H' ⟨rfl,hi,sm,fa⟩;have j:ys.length<=sizeLine:=by rw [z05 fa];have:=A2 p (K1 i);rw [W1] at this;omega
 by_cases hlt:i < n
 ·refine .inr ⟨r.go i hlt H' sm,j,λ v H2 y=>?_⟩;obtain ⟨f,o⟩:=r.item i hlt H' v H2 sm y;refine body i hlt v H2 (st _ _ _ sm f) o _ _ (λ h y H3 d s=>⟨n - (i + 1),by omega,rfl,hlt,st _ _ _ (st _ _ _ sm f) d,?_⟩) (λ h H3 d=>⟨n - (i + 1),by omega,rfl,hlt,st _ _ _ (st _ _ _ sm f) d,?_⟩)
  ·rw [z0s,if_pos h];exact z49 (z02 (λ a b z=>hR a b _ _ (st _ _ _ f d) z) fa) s
  ·rw [z0s,if_neg (by rw [h];decide),J2];exact z02 (λ a b z=>hR a b _ _ (st _ _ _ f d) z) fa
 ·have e:i=n:=by omega
  subst e;exact .inl ⟨r.stop H' sm,j,λ l q=>hQ l H' ys sm q fa⟩
theorem z6g {S:Hp->Hp->Prop} {K:d0} {a:Addr} {xs:List V} {H1:Hp} (hs :∀H,S H1 H->S H H) (hq :∀H,S H1 H->SqL K H a xs):RunsR S (Itl K a) H1 xs.length (λ i v _=>xs[i]? = some v):=
 ⟨λ i b H s=>⟨xs,xs[i],hq H s,by simp [b]⟩,λ H s=>⟨xs,hq H s,B0 _⟩,λ i b H v c s y=>by obtain ⟨e,y⟩:=y;subst e;exact ⟨hs _ s,y xs (hq _ s)⟩⟩
theorem zbx {S:Hp->Hp->Prop} {K:d0} {a:Addr} {xs:List V} {H1:Hp} (hs :∀H,S H1 H->S H H) (hq :∀H,S H1 H->SqT K H a xs):RunsR S (Itt K a) H1 xs.length (λ i v _=>xs[i]? = some v):=
 ⟨λ i b H s=>⟨xs,xs[i],hq H s,by simp [b]⟩,λ H s=>⟨xs,hq H s,B0 _⟩,λ i b H v c s y=>by obtain ⟨e,y⟩:=y;subst e;exact ⟨hs _ s,y xs (hq _ s)⟩⟩
theorem zd0 {S:Hp->Hp->Prop} {K:d0} {a:Addr} {xs:List V} {tl te:TE} {tc:TT} {g:TG} {m:Nat} {fr:List (Nat×Str)} {σ:St} {H H1:Hp} {Q:VK} (R:V->V->Hp->Prop) (s0:S H1 H1) (st :∀a b c,S a b->S b c->S a c) (hs :∀H,S H1 H->S H H) (hR :∀x y H H',S H H'->R x y H->R x y H')
  (htl :∀R:VK,R (.ref a) H1->tl σ H R) (hq :∀H,S H1 H->SqL K H a xs) (hn:xs.length<=sizeLine)
  (body :∀v∈xs,∀H,S H1 H->∀KT:VK,(∀y H',S H H'->R v y H'->KT y H')->∀KF:Hp->Prop,
   g v (cStG σ fr (V1 m none)) H λ σ6 H6=>∃us,us.length=m/\σ6=cStG σ fr us/\tc (cStG σ fr us) H6 λ b H2=>if b=true then te (cStG σ fr us) H2 KT else KF H2)
  (hQ :∀l H' ys,S H1 H'->H' l=none->All2 (λ x y=>R x y H') xs ys->Q (.ref l) (upd H' l (.lst ys))):tCompG (iList K tl) m fr g tc te σ H Q:=by
 refine htl _ ⟨a,rfl,⟨xs,hq _ s0⟩,z2c s0 st (λ _=>true) (λ i y H=>R (xs[i]?.getD .non) y H) (λ i y H H' s z=>hR _ _ _ _ s z) (z6g hs hq) hn (λ i u v H s f KT KF k j=>?_) λ l H' ys s p n=>hQ l H' ys s p ?_⟩
 ·refine body v (S0 f) H s KT (λ y H' t q=>k rfl y H' t ?_) KF;rw [f];exact q
 ·rw [List.filter_eq_self.mpr (λ _ _=>rfl)] at n;have o :∀(d:List Nat) (ys:List V),All2 (λ i y=>R (xs[i]?.getD .non) y H') d ys->All2 (λ x y=>R x y H') (d.map λ i=>xs[i]?.getD .non) ys:=by
   intro d;induction d with
   | nil=>intro ys h;cases h;exact .nil
   | cons i d ih=>intro ys h;cases h with|cons a r=>exact .cons a (ih _ r)
  have h:=o _ _ n;have e:(K1 xs.length).map (λ i=>xs[i]?.getD V.non)=xs:=by
   apply j6
   ·simp
   ·intro i k j;simp only [j00,A9,N0 j,M9]
  rwa [e] at h
theorem zeq {R:V->V->Prop} {xs ys:List V} (fa:All2 (λ (i:Nat) y=>R (xs[i]?.getD .non) y) (K1 xs.length) ys):All2 R xs ys:=by
 have c :∀(b:List Nat) (ys:List V),All2 (λ i y=>R (xs[i]?.getD .non) y) b ys->All2 R (b.map λ i=>xs[i]?.getD .non) ys:=by
  intro b;induction b with
  | nil=>intro ys h;cases h;exact .nil
  | cons i b ih=>intro ys h;cases h with|cons a r=>exact .cons a (ih _ r)
 have h:=c _ _ fa;have e:(K1 xs.length).map (λ i=>xs[i]?.getD V.non)=xs:=by
  apply j6
  ·simp
  ·intro i f d;simp only [j00,A9,N0 d,M9]
 rwa [e] at h
theorem z9v {S:Hp->Hp->Prop} {K:d0} {a:Addr} {xs:List V} {tl te:TE} {tc:TT} {g:TG} {m:Nat} {fr:List (Nat×Str)} {σ:St} {H H1:Hp} {Q:VK} (R:V->V->Hp->Prop) (s0:S H1 H1) (st :∀a b c,S a b->S b c->S a c) (hs :∀H,S H1 H->S H H) (hR :∀x y H H',S H H'->R x y H->R x y H')
  (htl :∀R:VK,R (.ref a) H1->tl σ H R) (hq :∀H,S H1 H->SqT K H a xs) (hn:xs.length<=sizeLine)
  (body :∀v∈xs,∀H,S H1 H->∀KT:VK,(∀y H',S H H'->R v y H'->KT y H')->∀KF:Hp->Prop,
   g v (cStG σ fr (V1 m none)) H λ σ6 H6=>∃us,us.length=m/\σ6=cStG σ fr us/\tc (cStG σ fr us) H6 λ b H2=>if b=true then te (cStG σ fr us) H2 KT else KF H2)
  (hQ :∀l H' ys,S H1 H'->H' l=none->All2 (λ x y=>R x y H') xs ys->Q (.ref l) (upd H' l (.lst ys))):tCompG (iTup K tl) m fr g tc te σ H Q:=by
 refine htl _ ⟨a,rfl,⟨xs,hq _ s0⟩,z2c s0 st (λ _=>true) (λ i y H=>R (xs[i]?.getD .non) y H) (λ i y H H' s z=>hR _ _ _ _ s z) (zbx hs hq) hn (λ i n v H s d KT KF k o=>?_) λ l H' ys s f e=>hQ l H' ys s f ?_⟩
 ·refine body v (S0 d) H s KT (λ y H' j h=>k rfl y H' j ?_) KF;rw [d];exact h
 ·rw [List.filter_eq_self.mpr (λ _ _=>rfl)] at e;exact zeq (R:=λ x y=>R x y H') e
end L2
set_option maxHeartbeats 1000000
namespace L2
open PySem PySem.Spec PyProof.Rows
section
variable {prog:Program} {w:W0} {A:Y1} {E:Value->A0->Prop} {s:A0}
theorem stops {h1:Heap} {Q:Option Value->A0->Prop} (hh:A.handled=none) (q :∀h',(∀b o,h1.get? b=some o->h'.get? b=some o)->Q none { s with heap:=h' }) :
  V0 (E1 prog w) A.in1 (do raiseNew (<-newExc (.type "StopIteration") [])) (λ (fin:M7) s'=>∃v,fin=.done (.ret v)/\V0 (E1 prog w) A (E3 (some v)) Q E s')
   (λ e s'=>V0 (E1 prog w) A (do if <-j05 e (.type "StopIteration") then E3 none else throw e) Q E s') { s with heap:=h1 }:=by
 refine o0 ?_;simp only [newExc,newTuple];refine o0 (B3 (o0 (m:=F9 _ _) (wpAny_of_eq (a:=X2) (by first|rfl|(simp only [F9];rfl)) (B3 ?_ (by size_fits)))) (by size_fits));simp only [raiseNew];refine o0 (wpAny_handled ?_);rw [show A.in1.handled=none from hh];refine o0 (G0 (wpAny_throw ?_));refine o0 (G8 (T:="StopIteration") (b:=true) ⟨_,A1 _ rfl,rfl⟩ isSubtype_stop ?_);exact G0 (q _ λ b o e=>F0 _ (F0 _ e))
end
end L2
set_option maxHeartbeats 400000
namespace HT
open PySem PySem.Spec PyProof.Rows L2
variable {prog:Program} {w:W0} {A:Y1} {E:Value->A0->Prop} {s:A0}
theorem getItem_tuple_all {t sl:Addr} {items:Array Value} {vl vu:Value} {lo hi:Option Int} {Q:Value->A0->Prop} (ht:IsTup s.heap t items) (hs:s.heap.IsSliceOf sl vl vu .none) (pl:X8 vl lo) (pu:X8 vu hi)
  (h0:sIx items.size 0 lo=0) (h1:sIx items.size items.size hi=items.size) (h:Q (.ref t) s):V0 (E1 prog w) A (Z7 (.ref t) (.ref sl)) Q E s:=by
 obtain ⟨e,a,b,f⟩:=id hs;have c:s.TypeIs (.ref sl) "slice":=⟨e,a,b⟩
 unfold Z7;try with_reducible refine i4 ?_
 first|refine o0 (G0 ?_)|skip
 refine o0 (wpAny_sequenceKey ht.typeIs (by decide) (o0 (U3 (name:=R6 "__getitem__") ht.typeIs Z3 (j3 Z3 ht.typeIs entry_tuple_getitem ?_ (args_tuple_getitem _ _)))));refine (show V0 _ _ (u9 (.ref t) >>= _) _ _ s from o0 (tupleItemsOf_ ht (o0 (i7 c ?_))));rw [if_pos (by decide)];refine o0 (z39 hs pl pu ?_);have d:(((sIx items.size 0 lo:Nat):Int) == 0 && (1:Int) == 1 && (sIx items.size items.size hi - sIx items.size 0 lo) == items.size)=true:=by rw [h0,h1];simp
 refine (show V0 _ _ (if (((sIx items.size 0 lo:Nat):Int) == 0 && (1:Int) == 1 && (sIx items.size items.size hi - sIx items.size 0 lo) == items.size)=true then _ else _) _ _ s from ?_);rw [if_pos d];refine o0 (show V0 _ _ (typeOf (.ref t) >>= _) _ _ s from o0 (i7 ht.typeIs (G0 ?_)));rw [if_pos (by decide)];first
  | exact o0 (j04 (G0 ⟨_,rfl,G0 h⟩))
  | exact o0 (j04 (G0 (G0 ⟨_,rfl,G0 h⟩)))
  | (trace_state;exact o0 (j04 (G0 ⟨_,rfl,h⟩)))
end HT
namespace L2
open PySem PySem.Spec PyProof.Rows
section
variable {X:Cx}
def rSlW (K:d0):V->Option Int->Option Int->Hp->VK->Prop:=λ x lo hi H Q=>∃a xs,x=.ref a/\SqT K H a xs/\(HT.sIx xs.length 0 lo=0/\HT.sIx xs.length xs.length hi=xs.length)/\Q (.ref a) H
theorem zkp:SlR X (rSlW X.K):=by intro y s σ H x v n o t u p Q I e g d f h;obtain ⟨a,j,rfl,k,⟨l,m⟩,q⟩:=h;cases e;obtain ⟨i,r,c,w⟩:=I.tuple k;have b:i.toArray.size=j.length:=(P0 ..).trans r.length.symm;refine ⟨"tuple",_,PyProof.Rows.slot_tuple_getitem.lookup,c.typeIs,HT.getItem_tuple_all c g d f (by rw [b];exact l) (by rw [b];exact m) ⟨.ref a,H,I,rfl,q⟩⟩
theorem slSeqW:SlR X (λ x lo hi H Q=>(rSlL X.K x lo hi H Q\/rSlT X.K x lo hi H Q\/rSlS x lo hi H Q)\/rSlW X.K x lo hi H Q):=slSeq.or zkp
end
theorem qs_ret {X:Cx} {pos:Pos} {e:Expr} {te:TE} (h:QE X e te):QS X (.Return (some e) pos) (tRet te):=⟨ps_ret h.run⟩
section
variable {prog:Program} {w:W0} {A:Y1} {E:Value->A0->Prop} {s:A0}
theorem ze7 :∀{vs:List Value} {ss:List Str},j2i vs ss->vs.length=ss.length
 | _,_,.nil=>rfl
 | _,_,.cons y t h=>by rw [U0,U0,ze7 h]
theorem ze5 :∀{vs:List Value} {ss:List Str},j2i vs ss->∀v∈vs,∃a,strKind.keyOf v=some a
 | _,_,.nil,v,h=>absurd h C0
 | _,_,.cons y t h,v,hv=>by
  rcases List.mem_cons.mp hv with rfl|hv
  ·exact ⟨_,rfl⟩
  ·exact ze5 h v hv
theorem z69 :∀{vs:List Value} {ss:List Str},j2i vs ss->Vals (ss.map V.str) vs
 | _,_,.nil=>.nil
 | _,_,.cons n t h=>.cons ⟨t,rfl⟩ (z69 h)
theorem z7s :∀{ss:List Str} {us:List Value},us.length=ss.length->(∀(j:Nat) (u:Value),us[j]? = some u->∃(i:Str) (t:Tok),ss[j]? = some i/\u=d6 i t)->j2i us ss
 | [],us,hl,_=>by have z:us=[]:=List.eq_nil_of_length_eq_zero hl;subst z;exact .nil
 | n :: ss,us,hl,h=>by
  cases us with
  | nil=>cases hl
  | cons u us=>obtain ⟨i,t,e,rfl⟩:=h 0 u rfl;have e:n=i:=S1 e;subst e;exact .cons n t (z7s (Nat.succ.inj hl) λ j v e=>h (j + 1) v (by simpa using e))
theorem zcl {v:Value} {Q:Value->A0->Prop} {ss:List Str} (hn:ss.length < 64)
  (hc :∀R:List Value->A0->Prop,(∀h' tk vs,(∀b o,s.heap.get? b=some o->h'.get? b=some o)->j2i vs ss->R vs { s with heap:=h',toks:=tk })->V0 (E1 prog w) A.in1 (collect v) R E s)
  (h :∀(h1 h':Heap) (tk:Nat) (out:Array Value) (ss':List Str) (e:Nat),(∀b o,s.heap.get? b=some o->h1.get? b=some o)->(∀b o,h1.get? b=some o->h'.get? b=some o)->h'.get? h1.objs.size=some { cls:=.type "list",data:=.seq out e }->j2i out.toList ss'->ss'.Perm ss->sortedS ss'=true->Q (.ref h1.objs.size) { s with heap:=h',toks:=tk }) :
  V0 (E1 prog w) A (call (.builtin "sorted") [v]) Q E s:=by
 refine c7 kind_sorted plain_sorted entry_sorted (args_sorted1 _) ?_;unfold C7.«sorted»;refine o0 (m:=checkCount "sorted" 1 1 _) (G0 (o0 (hc _ λ h1 tk vs q a=>?_)));have f:vs.length < 64:=by rw [ze7 a];exact hn
 refine o0 (X9 ?_ (D0 (d3 f) (by decide)));have c:(h1.push (X6 "list" vs.toArray 0)).get? h1.objs.size=some (X6 "list" vs.toArray 0):=A1 _ rfl;have i:KeysOf strKind (pairsOf vs):=λ p g=>by
  have:p.1∈vs:=by have:=(z8 (show (p.1,p.2)∈vs.zip vs by simpa [pairsOf] using g)).1;exact this
  exact ze5 a _ this
 refine o0 (i4 (j3 j37 ⟨_,c,rfl⟩ j2b (list_sort_treeK strKind_oneLt c i (λ B z r e=>by subst e;exact keyKind_strs a) f λ t k l=>⟨_,rfl,?_⟩) (j39 _)));obtain ⟨ss',u,y,n⟩:=sorted_out_str a k l;obtain ⟨e,j⟩:=sortedHeap_at (out:=j28 (λ x=>x.snd) (arrOf t)) c;refine G0 ⟨_,rfl,h h1 _ tk _ ss' e q (λ b o d=>?_) j u y n⟩;have lt:=Q0 d;refine (sortedHeap_old (F1 lt) ?_).trans (F0 _ d);rw [size_push'];exact Z1 lt
end
section
variable {X:Cx}
theorem z90 (hcalm:X.calm=true):CallR X (.builtin "sorted") (λ xs H Q=>∃a kvs ss,xs=[.ref a]/\H a=some (.dK kvs)/\kvs.map (·.1)=ss.map Sum.inr/\ss.length < 64/\∀(l:Addr) (ss':List Str),H l=none->ss'.Perm ss->sortedS ss'=true->Q (.ref l) (upd H l (.lst (ss'.map V.str)))):=by
 intro U s σ H xs Z Q I r h;obtain ⟨a,kvs,ss,rfl,C,T,n,q⟩:=h;obtain ⟨u,rfl,D⟩:=vals1 r;cases D;obtain ⟨N,K,d,v,M⟩:=dk_of I.hok C;obtain ⟨ep,O⟩:=M.dictAt;refine zcl n (λ R F=>?_) λ w f c S ss' e L P g i p r=>?_
 ·have keys:d.map (·.1)=ss.map Sum.inr:=v.keys.symm.trans T;have E:d.length=ss.length:=by have:=congrArg j41 keys;simpa using this
  refine j30 (PySem.W.kdl_dict K) (show X.A.in1.handled=none from I.ok.hd hcalm) O (by rw [<-v.length];exact N) λ f c Y k B=>F f c _ k (z7s (by rw [T2,B.1,E]) λ j u e=>?_);obtain ⟨y,x,J,G⟩:=B.2 j u (by rw [<-A8];exact e);have b:(d.map (·.1))[j]? = some y:=by rw [X0,J];rfl
  rw [keys,X0] at b;cases en:ss[j]? with
  | none=>rw [en] at b;cases b
  | some i=>
   rw [en] at b;have b:Sum.inr i=y:=S1 b;subst b;rcases z0m (show keyIs (.inr i) u=true from G) with ⟨_,_,z,_⟩|⟨i',t,z,rfl⟩
   ·cases z
   ·cases z;exact ⟨i,t,rfl,rfl⟩
 ·have m:Inv X U σ H { s with heap:=w }:=I.kept (t':=s.toks) L;refine ⟨.ref w.objs.size,_,m.laid (t':=c) (o:=.lst (ss'.map V.str)) P (B0 _) ⟨?_,S.toList,e,z69 i,by simpa using g⟩,rfl,q _ ss' (m.hok.fresh (B0 _)) p r⟩;rw [K0,p.length_eq];exact D0 (d3 n) (by decide)
end
def rIndex:V->List V->Hp->VK->Prop:=λ x vs H Q=>∃(l:Addr) (ss:List Str) (z:Str) (j:Nat),x=.ref l/\vs=[.str z]/\H l=some (.lst (ss.map V.str))/\ss.length<=1000/\ss[j]? = some z/\(∀m,m < j->ss[m]?≠some z)/\Q (.int (j:Nat)) H
section
variable {X:Cx}
theorem zlk {ss:List Str} :∀{us:List Value},Vals (ss.map V.str) us->∀(j:Nat) (u:Value),us[j]? = some u->∃y t,ss[j]? = some y/\u=d6 y t:=by
 induction ss with
 | nil=>intro us r j u e;rw [y4] at r;cases r;simp at e
 | cons n ss ih=>
  intro us r j u e;rw [J1] at r;cases r with
  | cons r1 r2=>
   obtain ⟨t,rfl⟩:=r1;cases j with
   | zero=>rw [F2] at e;cases e;exact ⟨n,t,rfl,rfl⟩
   | succ j=>rw [X1] at e;exact ih r2 j u e
theorem zjj:MtM X "list.index" rIndex:=by
 intro O s σ H x L v K Q I A D h;obtain ⟨l,p,z,j,rfl,rfl,C,M,k,g,q⟩:=h;cases A;obtain ⟨u,rfl,w⟩:=D.one;obtain ⟨t,rfl⟩:=w;obtain ⟨J,d,n,r,N,e⟩:=I.lstM C;have lt:j < d.length:=by rw [<-r.length,K0];exact (List.getElem?_eq_some_iff.mp k).1
 let ev:Value->Bool:=λ y=>match y with | .str a _=>a == z|_=>false
 have at_ :∀m (g:m < d.toArray.size),∃y b,p[m]? = some y/\d.toArray[m]=d6 y b:=λ m g=>zlk r m _ ((N0 (show m < d.length by simpa using g)).trans (by simp));refine call_meets F.slot_list_index ⟨_,e,rfl⟩ F.entry_list_index (F.args_list_index_2 _ _) (SeqAt.list_indexAt l d.toArray n none #[] (.str z t) ev j (by simpa using lt) ?_ ?_ ?_) ⟨e,λ y E=>?_,?_⟩
 ·have:=(List.getElem?_eq_some_iff.mp k).1;have:(j:Int) < 1000:=by omega
  exact Int.lt_trans this (by decide)
 ·obtain ⟨y,b,f,c⟩:=at_ j (by simpa using lt);rw [c];rw [k] at f;cases f;exact beq_self_eq_true z
 ·intro m i B;obtain ⟨y,b,f,c⟩:=at_ m i;rw [c];refine beq_eq_false_iff_ne.mpr λ e=>g m B ?_;rw [f,e]
 ·obtain ⟨m,i,o⟩:=Array.mem_iff_getElem.mp E;obtain ⟨G,b,f,c⟩:=at_ m i;rw [c] at o;subst o;exact j1h G b z t
 ·exact ⟨.int (j:Nat),H,I.tok _,⟨_,rfl⟩,q⟩
theorem zdz {o e:Expr} {es:List Expr} {to:TE} {t:TA} {apos cpos:Pos} (ho:PE X o to) (ha:PA X (e :: es) t)
  (hbase:G4 o "index" X.env (m3 o X.env)=m3 o X.env:=by rfl)
  (hfew:((Q3 cpos (B1 (e :: es) X.env)).all (λ x=>!x.1) && (K8 cpos (c6 [] X.env)).all (λ x=>x.1.isSome) && decide ((e :: es).length + ([]:List N5).length + (if ([]:List N5).isEmpty then 0 else 1) < 30))=true:=by rfl)
  (hline:(apos.endLine == cpos.line)=true:=by rfl) (hs:B1 (e :: es) X.env=(false,m3 e X.env) :: B1 es X.env:=by rfl) (hplain:(Q3 cpos (B1 es X.env)).any (·.1)=false:=by rfl) :
  PE X (.Call (.Attribute o "index" apos) (e :: es) [] cpos) (tBM X.K "list" rIndex to t):=pe_bm z7 PySem.F.slot_list_index PySem.F.type_list_index zjj ho ha hbase hfew hline hs hplain
end
noncomputable def pickV (xs:List V) (lo hi st:Option Int):List V:=(sliceRange (U2 lo hi st xs.length).1 (U2 lo hi st xs.length).2.1 (U2 lo hi st xs.length).2.2).filterMap λ i=>xs[i]?
theorem zhj {xs:List V} {lo hi st:Option Int} {y:V} (h:y∈pickV xs lo hi st):y∈xs:=by obtain ⟨i,_,e⟩:=List.mem_filterMap.mp h;exact S0 e
theorem zc5 {xs:List V} {us:List Value} (r:Vals xs us) :∀is:List Nat,Vals (is.filterMap λ i=>xs[i]?) (is.filterMap λ i=>us[i]?)
 | []=>.nil
 | i :: is=>by
  have a:=zc5 r is;have b:=r.length;cases e:xs[i]? with
  | none=>have f:us[i]? = none:=O3 (by rw [<-b];exact List.getElem?_eq_none_iff.mp e);rw [j24 e,j24 f];exact a
  | some x=>obtain ⟨u,d,c⟩:=r.get e;rw [j23 e,j23 d];exact .cons c a
theorem zgp {xs:List V} {lo hi:Option Int} {k:Int} (hk:0 < k):(pickV xs lo hi (some k)).length<=xs.length:=by
 refine D0 (E7 _ _) ?_;have e:(U2 lo hi (some k) xs.length).2.2=k:=rfl;have c:0<=(U2 lo hi (some k) xs.length).1:=by
  cases lo with
  | none=>show 0<=(if k > 0 then (0:Int) else _);rw [if_pos hk];exact j0d _
  | some i=>show 0<=(if k > 0 then max (0:Int) _ else _);rw [if_pos hk];exact Int.le_max_left _ _
 have d:(U2 lo hi (some k) xs.length).2.1<=(xs.length:Int):=by
  cases hi with
  | none=>show (if k > 0 then (xs.length:Int) else _)<=_;rw [if_pos hk];exact j0d _
  | some i=>show (if k > 0 then max (0:Int) (min _ (xs.length:Int)) else _)<=_;rw [if_pos hk];omega
 rw [e];generalize (U2 lo hi (some k) xs.length).1=a at c⊢;generalize (U2 lo hi (some k) xs.length).2.1=b at d⊢;unfold sliceRange;rw [K0,W1,if_pos hk];by_cases z:a < b
 ·rw [if_pos z];have:(b - a + k - 1) / k < b - a + 1:=by
   apply Int.ediv_lt_of_lt_mul hk;have:(b - a + 1) * k=(b - a) * k + k:=by rw [Int.add_mul,Int.one_mul]
   have f:b - a<=(b - a) * k:=by have:=Int.mul_le_mul_of_nonneg_left (show (1:Int)<=k by omega) (show 0<=b - a by omega);omega
   omega
  omega
 ·rw [if_neg z];exact U1 _
noncomputable def tSl3 (K:d0) (te:TE) (tl th ts:TO):TE:=λ σ H Q=>te σ H λ x H1=>tl σ H1 λ l H2=>th σ H2 λ u H3=>ts σ H3 λ k H4=>∃a xs,x=.ref a/\SqL K H4 a xs/\k≠some 0/\(pickV xs l u k).length<=sizeLine/\∀p,H4 p=none->Q (.ref p) (upd H4 p (.lst (pickV xs l u k)))
theorem zgw {X:Cx} {e:Expr} {te:TE} {lo hi:Option Expr} {st:Expr} {tl th ts:TO} {pos p2:Pos} (he:PE X e te) (hl:PO X lo tl) (hu:PO X hi th) (hs:PO X (some st) ts):PE X (.Subscript e (.Slice lo hi (some st) p2) pos) (tSl3 X.K te tl th ts):=by
 intro d s σ H Q I h;refine j3c (thn (he d s σ H _ I h) λ v y ⟨x,H1,I1,r1,q1⟩=>?_);refine wpAny_Slice (thn (hl d y σ H1 _ I1 q1) λ g B ⟨l,H2,I2,pl,q2⟩=>thn (hu d B σ H2 _ I2 q2) λ j t ⟨u,H3,I3,pu,q3⟩=>thn (hs d t σ H3 _ I3 q3) λ n c ⟨k,H4,I4,pk,a,xs,ex,hx,k0,hz,q⟩=>?_);subst ex;cases r1;have f:Inv X d σ H4 { c with heap:=c.heap.push { cls:=.type "slice",data:=.fields #[g,j,n] } }:=I4.kept (t':=c.toks) λ b z q=>F0 _ q;obtain ⟨m,r,p,E⟩:=f.list hx;have C:=r.length;refine (show V0 (E1 X.prog X.w) X.A (Y9 e (.Slice lo hi (some st) p2) (.ref a) (.ref c.heap.objs.size)) (EP X d σ Q) X.xe { c with heap:=c.heap.push { cls:=.type "slice",data:=.fields #[g,j,n] } } from ?_);refine j36 (ops:=[.ref a,.ref c.heap.objs.size]) p.isList.typeIs slot_list_getitem.lookup ?_ (by with_unfolding_all rfl);refine wpAny_getItem_list_slice p.isList (j0e ..) pl pu pk k0 ?_ (by rw [P0];omega);have D:slicePick m.toArray l u k=((sliceRange (U2 l u k xs.length).1 (U2 l u k xs.length).2.1 (U2 l u k xs.length).2.2).filterMap λ i=>m[i]?).toArray:=by unfold slicePick;rw [P0,<-C];simp only [j3e]
 rw [D];exact ⟨.ref _,_,f.laid (t':=c.toks) (o:=.lst (pickV xs l u k)) (λ b z q=>F0 _ q) (B0 _) ⟨hz,_,0,zc5 r _,A1 _ rfl⟩,rfl,q _ (f.hok.fresh (B0 _))⟩
noncomputable def rEqC (K:d0):R2:=λ x y H Q=>∃d e,IsPd K H d x/\IsPd K H e y/\d.canLay0=true/\e.canLay0=true/\d.depth<=60/\Q (.bl (d.eqv e)) H
noncomputable def rNeC (K:d0):R2:=λ x y H Q=>∃d e,IsPd K H d x/\IsPd K H e y/\d.canLay0=true/\e.canLay0=true/\d.depth<=60/\Q (.bl (!d.eqv e)) H
theorem op_eqC {X:Cx} {k:Nat} (hr:Room k X.A):OpR X (N2 .Eq) (rEqC X.K):=by intro o s σ H x y v u Q I b i h;obtain ⟨d,e,j,c,m,g,f,q⟩:=h;obtain ⟨n,a⟩:=z2k I d x v j b;obtain ⟨bs,l⟩:=z2k I e y u c i;exact j2j a l m g (room60 hr f) ⟨.bl _,H,I,rfl,q⟩
theorem op_neC {X:Cx} {k:Nat} (hr:Room k X.A):OpR X (N2 .NotEq) (rNeC X.K):=by intro o s σ H x y v u Q I b i h;obtain ⟨d,e,j,c,m,g,f,q⟩:=h;obtain ⟨n,a⟩:=z2k I d x v j b;obtain ⟨bs,l⟩:=z2k I e y u c i;exact SeqAt.compareNe_reads a l m g (room60 hr f) ⟨.bl _,H,I,rfl,q⟩
noncomputable def rCatA (K:d0):R2:=λ x y H Q=>∃a b xs ys,x=.ref a/\y=.ref b/\SqT K H a xs/\SqT K H b ys/\xs.length + ys.length<=sizeLine/\∀p H',Same H H'->SqT K H' p (xs++ys)->Q (.ref p) H'
theorem zck {X:Cx}:OpR X (O4 .Add) (rCatA X.K):=by
 intro i s σ H x y v u Q I f g h;obtain ⟨a,b,e,j,rfl,rfl,c,d,k,q⟩:=h;by_cases hy:j=[]
 ·subst hy;cases e with
  | nil=>exact zdx i s σ H _ _ v u Q I f g ⟨a,b,[],rfl,rfl,c,d,q b H (Same.refl H) d⟩
  | cons x e=>exact z9d i s σ H _ _ v u Q I f g ⟨a,b,x :: e,[],rfl,rfl,c,d,by simp,k,λ _=>q a H (Same.refl H) (by rw [J2];exact c),λ z=>absurd rfl z⟩
 ·exact op_catS i s σ H _ _ v u Q I f g ⟨a,b,e,j,rfl,rfl,c,d,hy,k,q⟩
theorem qs_if {X:Cx} {pos:Pos} {c:Expr} {a b:List Stmt} {t:TT} {ta tb:TS} (hc:PT X c t) (ha:QSs X a ta) (hb:QSs X b tb):QS X (.If c a b pos) (tIfS t ta tb):=⟨ps_if hc ha.run hb.run⟩
theorem zim :∀{ys:List V},(∀y∈ys,∃i:Int,y=.int i)->∃ms:List Int,ys=ms.map V.int
 | [],_=>⟨[],rfl⟩
 | y :: ys,h=>by obtain ⟨i,rfl⟩:=h y C1;obtain ⟨ms,rfl⟩:=zim λ z a=>h z (Y0 _ a);exact ⟨i :: ms,rfl⟩
theorem zk7 {f:List V->Hp->VK->Prop} {te tb:TE} {r:R2} {σ:St} {H:Hp} {Q:Bool->Hp->Prop} (h:te σ H λ x H1=>f [x] H1 λ y H2=>tb σ H2 λ z H3=>r y z H3 λ b H4=>∃k,b=.bl k/\Q k H4):tTest (tOp r (tCB f (tCons te tNil)) tb) σ H Q:=h
theorem zej {c:TT} {a b:TS} {D:Ends} {σ:St} {H:Hp} (h:c σ H λ k H1=>if k=true then a D σ H1 else b D σ H1):tIfS c a b D σ H:=h
theorem za7 {X:Cx} {K:d0} (hK:X.K=K) {o e:Expr} {es:List Expr} {to:TE} {t:TA} {apos cpos:Pos} (ho:PE X o to) (ha:PA X (e :: es) t)
  (hbase:G4 o "append" X.env (m3 o X.env)=m3 o X.env:=by rfl)
  (hfew:((Q3 cpos (B1 (e :: es) X.env)).all (λ x=>!x.1) && (K8 cpos (c6 [] X.env)).all (λ x=>x.1.isSome) && decide ((e :: es).length + ([]:List N5).length + (if ([]:List N5).isEmpty then 0 else 1) < 30))=true:=by rfl)
  (hline:(apos.endLine == cpos.line)=true:=by rfl) (hs:B1 (e :: es) X.env=(false,m3 e X.env) :: B1 es X.env:=by rfl) (hplain:(Q3 cpos (B1 es X.env)).any (·.1)=false:=by rfl) :
  PE X (.Call (.Attribute o "append" apos) (e :: es) [] cpos) (tBM K "list" zew to t):=hK ▸ z1x ho ha hbase hfew hline hs hplain
theorem zd4 {K:d0} {a:Addr} {xs:List V} {H1:Hp} (hq:SqL K H1 a xs):RunsR Same (IteL K a) H1 xs.length (λ i v H=>∃x p,xs[i]? = some x/\v=.ref p/\H p=some (.tup [.int (i:Nat),x])):=by refine ⟨λ i b H s=>⟨xs,xs[i],s.seq hq,by simp [b]⟩,λ H s=>⟨xs,s.seq hq,rfl⟩,λ i b H v e s y=>?_⟩;obtain ⟨p,d,rfl,f⟩:=y;obtain ⟨x,c,rfl⟩:=f xs (s.seq hq);exact ⟨Same.upd d,x,p,c,rfl,z01⟩
end L2
set_option maxHeartbeats 1000000
namespace L2
open PySem PySem.Spec PyProof.Rows
theorem zbl {K:d0} {a:Addr} {xs:List V} {tl te:TE} {tc:TT} {g:TG} {m:Nat} {fr:List (Nat×Str)} {σ:L2.St} {H H1:Hp} {Q:VK} (p:Nat->Bool) (R:Nat->V->Hp->Prop) (hR :∀i y H H',Same H H'->R i y H->R i y H') (htl :∀R:VK,R (.ref a) H1->tl σ H R) (hq:SqL K H1 a xs) (hn:xs.length<=sizeLine)
  (body :∀i,i < xs.length->∀v H,Same H1 H->xs[i]? = some v->∀(KT:VK) (KF:Hp->Prop),(p i=true->∀y H',Same H H'->R i y H'->KT y H')->(p i=false->∀H',Same H H'->KF H')->
   g v (cStG σ fr (V1 m none)) H λ σ6 H6=>∃us,us.length=m/\σ6=cStG σ fr us/\tc (cStG σ fr us) H6 λ b H2=>if b=true then te (cStG σ fr us) H2 KT else KF H2)
  (hQ :∀l H' ys,Same H1 H'->H' l=none->All2 (λ i y=>R i y H') ((K1 xs.length).filter p) ys->Q (.ref l) (upd H' l (.lst ys))):tCompG (iList K tl) m fr g tc te σ H Q:=
 htl _ ⟨a,rfl,⟨xs,hq⟩,z2c (Same.refl _) (λ _ _ _ a b=>a.trans b) p R hR (z6g (S:=Same) (λ _ _=>Same.refl _) λ H s=>s.seq hq) hn body hQ⟩
theorem zhk {K:d0} {a:Addr} {xs:List V} {ta:TA} {te:TE} {tc:TT} {g:TG} {m:Nat} {fr:List (Nat×Str)} {σ:L2.St} {H H1:Hp} {Q:VK} (p:Nat->Bool) (R:Nat->V->Hp->Prop) (hR :∀i y H H',Same H H'->R i y H->R i y H') (hta :∀T:List V->Hp->Prop,T [.ref a] H1->ta σ H T) (hq:SqL K H1 a xs) (hn:xs.length<=sizeLine)
  (body :∀i,i < xs.length->∀v H,Same H1 H->(∃x p,xs[i]? = some x/\v=.ref p/\H p=some (.tup [.int (i:Nat),x]))->∀(KT:VK) (KF:Hp->Prop),(p i=true->∀y H',Same H H'->R i y H'->KT y H')->(p i=false->∀H',Same H H'->KF H')->
   g v (cStG σ fr (V1 m none)) H λ σ6 H6=>∃us,us.length=m/\σ6=cStG σ fr us/\tc (cStG σ fr us) H6 λ b H2=>if b=true then te (cStG σ fr us) H2 KT else KF H2)
  (hQ :∀l H' ys,Same H1 H'->H' l=none->All2 (λ i y=>R i y H') ((K1 xs.length).filter p) ys->Q (.ref l) (upd H' l (.lst ys))):tCompG (ieL K ta) m fr g tc te σ H Q:=
 hta _ ⟨a,xs,rfl,hq,z2c (Same.refl _) (λ _ _ _ a b=>a.trans b) p R hR (zd4 hq) hn body hQ⟩
theorem zft {K:d0} {tl te:TE} {tc:TT} {g:TG} {m:Nat} {fr:List (Nat×Str)} {σ:L2.St} {H:Hp} {Q:VK} (Pr:Addr->List V->Hp->Prop) (htl :∀R:VK,(∀a xs H1,Pr a xs H1->R (.ref a) H1)->tl σ H R) (hq :∀a xs H1,Pr a xs H1->SqL K H1 a xs/\xs.length<=sizeLine)
  (p:Nat->Bool) (R:Nat->V->Hp->Prop) (hR :∀i y H H',Same H H'->R i y H->R i y H')
  (body :∀a xs H1,Pr a xs H1->∀i,i < xs.length->∀v H,Same H1 H->xs[i]? = some v->∀(KT:VK) (KF:Hp->Prop),(p i=true->∀y H',Same H H'->R i y H'->KT y H')->(p i=false->∀H',Same H H'->KF H')->
   g v (cStG σ fr (V1 m none)) H λ σ6 H6=>∃us,us.length=m/\σ6=cStG σ fr us/\tc (cStG σ fr us) H6 λ b H2=>if b=true then te (cStG σ fr us) H2 KT else KF H2)
  (hQ :∀a xs H1,Pr a xs H1->∀l H' ys,Same H1 H'->H' l=none->All2 (λ i y=>R i y H') ((K1 xs.length).filter p) ys->Q (.ref l) (upd H' l (.lst ys))):tCompG (iList K tl) m fr g tc te σ H Q:=
 htl _ λ a xs H1 c=>⟨a,rfl,⟨xs,(hq a xs H1 c).1⟩,z2c (Same.refl _) (λ _ _ _ a b=>a.trans b) p R hR (z6g (S:=Same) (λ _ _=>Same.refl _) λ H s=>s.seq (hq a xs H1 c).1) (hq a xs H1 c).2 (body a xs H1 c) (hQ a xs H1 c)⟩
theorem z3i {K:d0} {a:Addr} {xs:List V} {tl te:TE} {tc:TT} {g:TG} {m:Nat} {fr:List (Nat×Str)} {σ:L2.St} {H H1:Hp} {Q:VK} (p:Nat->Bool) (R:Nat->V->Hp->Prop) (hR :∀i y H H',Same H H'->R i y H->R i y H') (htl :∀R:VK,R (.ref a) H1->tl σ H R) (hq:SqT K H1 a xs) (hn:xs.length<=sizeLine)
  (body :∀i,i < xs.length->∀v H,Same H1 H->xs[i]? = some v->∀(KT:VK) (KF:Hp->Prop),(p i=true->∀y H',Same H H'->R i y H'->KT y H')->(p i=false->∀H',Same H H'->KF H')->
   g v (cStG σ fr (V1 m none)) H λ σ6 H6=>∃us,us.length=m/\σ6=cStG σ fr us/\tc (cStG σ fr us) H6 λ b H2=>if b=true then te (cStG σ fr us) H2 KT else KF H2)
  (hQ :∀l H' ys,Same H1 H'->H' l=none->All2 (λ i y=>R i y H') ((K1 xs.length).filter p) ys->Q (.ref l) (upd H' l (.lst ys))):tCompG (iTup K tl) m fr g tc te σ H Q:=
 htl _ ⟨a,rfl,⟨xs,hq⟩,z2c (Same.refl _) (λ _ _ _ a b=>a.trans b) p R hR (zbx (S:=Same) (λ _ _=>Same.refl _) λ H s=>s.seqT hq) hn body hQ⟩
theorem e_cb1 {f:List V->Hp->VK->Prop} {te:TE} {σ:L2.St} {H:Hp} {Q:VK} (h:te σ H λ x H1=>f [x] H1 Q):tCB f (tCons te tNil) σ H Q:=h
theorem t_or {t u:TT} {σ:L2.St} {H:Hp} {Q:Bool->Hp->Prop} (h:t σ H λ c H1=>if c=true then Q true H1 else u σ H1 Q):tOr t u σ H Q:=h
theorem sq_if {c:TT} {a b rest:TS} {D:Ends} {σ:L2.St} {H:Hp} (h:c σ H λ k H1=>if k=true then a { D with nx:=rest D } σ H1 else b { D with nx:=rest D } σ H1):tSeq (tIfS c a b) rest D σ H:=h
theorem sq_ret {te:TE} {D:Ends} {σ:L2.St} {H:Hp} (h:te σ H D.rt):tRet te D σ H:=h
section
variable {X:Cx} {pins:List (Addr×Obj)} {σ:St} {H:Hp} {s:A0} {a:Addr} {u v:HO}
theorem Inv.retold (I:Inv X pins σ H s) (e:H a=some u) (nt :∀xs,u≠.tup xs) (nb :∀ps,u≠.tbl ps) (no :∀c,u≠.own c) (nf :∀o w,X.H₀ a≠some (.frz o w)) (ok:ObjOk X.prog X.w (upd H a v) s.heap a v):Inv X pins σ (upd H a v) s:=by
 have ne :∀{b:Addr},H b=none->b≠a:=λ n z=>by rw [z,e] at n;cases n
 refine ⟨I.ok,I.os,I.bare,⟨I.base.keep,I.base.slot,λ b o q n f=>?_,I.base.there,λ b xs q=>?_,λ b o w q=>?_,λ b ps q=>?_⟩,I.loc,I.cell,?_,λ x c q=>?_,λ p i=>?_,λ b o q=>?_,I.len⟩
 ·have z:=I.base.free b o q n f;rw [upd_ne (ne z)];exact z
 ·have z:=I.base.tups b xs q;rw [upd_ne (λ y=>by rw [y,e] at z;exact nt xs (S1 z))];exact z
 ·have z:=I.base.frzs b o w q;rw [upd_ne (λ y=>by rw [y] at q;exact nf o w q)];exact z
 ·obtain ⟨h,z⟩:=I.base.tbls b ps q;exact ⟨h,by rw [upd_ne (λ y=>by rw [y,e] at z;exact nb _ (S1 z))];exact z⟩
 ·rw [upd_ne (ne I.free)];exact I.free
 ·rw [upd_ne (ne (I.freeC x c q))];exact I.freeC x c q
 ·obtain ⟨j,d,g⟩:=I.pin p i;exact ⟨j,by rw [upd_ne (ne d)];exact d,g⟩
 ·by_cases z:b=a
  ·subst z;rw [z01] at q;cases q;exact ok
  ·rw [upd_ne z] at q;refine (I.hok b o q).stay (λ _ _ _ y=>y) (λ c y=>?_) λ c xs y=>?_
   ·rw [upd_ne (λ x=>by rw [x,e] at y;exact no b (S1 y))];exact y
   ·rw [upd_ne (λ x=>by rw [x,e] at y;exact nt xs (S1 y))];exact y
theorem Inv.noFrz {kvs:List (Key×V)} (I:Inv X pins σ H s) (e:H a=some (.dK kvs)) :∀o w,X.H₀ a≠some (.frz o w):=λ o w q=>by have z:=I.base.frzs a o w q;rw [e] at z;cases z
theorem Inv.freeze {kvs:List (Key×V)} {ob:Obj} (I:Inv X pins σ H s) (e:H a=some (.dK kvs)) (ho:s.heap.get? a=some ob):Inv X pins σ (upd H a (.frz ob (.dK kvs))) s:=
 I.retold e (λ _ z=>by cases z) (λ _ z=>by cases z) (λ _ z=>by cases z) (I.noFrz e) ⟨ho,(show ObjOk X.prog X.w H s.heap a (.dK kvs) from I.hok a _ e)⟩
theorem Inv.thaw {kvs:List (Key×V)} {ob:Obj} (I:Inv X pins σ H s) (nf :∀o w,X.H₀ a≠some (.frz o w)) (e:H a=some (.frz ob (.dK kvs))):Inv X pins σ (upd H a (.dK kvs)) s:=
 I.retold e (λ _ z=>by cases z) (λ _ z=>by cases z) (λ _ z=>by cases z) nf (show ObjOk X.prog X.w H s.heap a (.frz ob (.dK kvs)) from I.hok a _ e).2
end
theorem zch {α β:Type} {F:α->β->Prop} :∀{l:List α} {m:List β} {i:Nat} {x:α},u8 F l m->l[i]? = some x->∃y,m[i]? = some y/\F x y
 | _,_,i,x,.nil,e=>by simp at e
 | _,_,0,x,.cons a _,e=>by rw [F2] at e;cases e;exact ⟨_,F2,a⟩
 | _,_,i + 1,x,.cons _ r,e=>by rw [X1] at e;obtain ⟨y,b,c⟩:=zch r e;exact ⟨y,by rw [X1];exact b,c⟩
theorem frz_at {X:Cx} {pins:List (Addr×Obj)} {σ:St} {H:Hp} {s:A0} {a:Addr} {ob:Obj} {kvs:List (Key×V)} {es:Array DictEntry} {ep:Nat} (I:Inv X pins σ H s) (hob:ob.data=.dict es ep) (e:H a=some (.frz ob (.dK kvs))) :
  ∃vs,KV kvs vs/\vs.length=kvs.length/\s.heap.DictAt (z10 X.prog X.w) a vs ep:=by
 obtain ⟨g,_,_,vs,b,h⟩:=(show ObjOk X.prog X.w H s.heap a (.frz ob (.dK kvs)) from I.hok a _ e)
 obtain ⟨i,d⟩:=h.dictAt;refine ⟨vs,b,b.length.symm,?_⟩;obtain ⟨o,j,f,k,c,l⟩:=id d;rw [g] at f;cases f;rw [hob] at c;cases c;exact d
section
variable {X:Cx}
noncomputable def tThaw (t:TE):TE:=λ σ H Q=>∃a kvs,H a=some (.dK kvs)/\t σ H λ v H4=>(∃ob,H4 a=some (.frz ob (.dK kvs)))/\Q v (upd H4 a (.dK kvs))
noncomputable def sThaw (t:TS):TS:=λ D σ H=>∃a kvs,H a=some (.dK kvs)/\t { D with nx:=λ σ' H4=>(∃ob,H4 a=some (.frz ob (.dK kvs)))/\D.nx σ' (upd H4 a (.dK kvs)) } σ H
theorem zhy {st:Stmt} {t:TS} (h:PS X st t):PS X st (sThaw t):=by
 intro g s σ H D I ⟨a,kvs,ea,q⟩;refine thn (h g s σ H _ I q) λ f i z=>?_;cases f with
 | next=>obtain ⟨c,j,d,⟨k,b⟩,e⟩:=z;exact ⟨c,_,d.thaw (I.noFrz ea) b,e⟩
 | brk=>exact z
 | cont=>exact z
 | ret u=>exact z
end
theorem zdc {K:d0} {H:Hp} {l c:Addr} {o:HO} {kvs:List (Key×V)} {xs:List V} (e:H l=some (.dK kvs)) (h:SqT K H c xs):SqT K (upd H l o) c xs:=by
 rcases h with (h|⟨ob,h⟩)|h
 ·exact .inl (.inl (by rw [upd_ne (ne_of h e (by intro z;cases z))];exact h))
 ·exact .inl (.inr ⟨ob,by rw [upd_ne (ne_of h e (by intro z;cases z))];exact h⟩)
 ·exact .inr h
theorem zet {te:TE} {i:Nat} {rest:TS} {D:Ends} {σ:L2.St} {H:Hp} (h:tThaw te σ H λ x H1=>rest D (σ.set i (some x)) H1):tSeq (sThaw (tAsg te (gName i))) rest D σ H:=h
noncomputable def kasRun {α:Type} (c:Nat->Nat->Bool) (n:Nat):S5 α->Option α
 | .ret a=>some a
 | .ask i j k=>if i < n/\j < n/\i≠j then kasRun c n (k (c i j)) else none
theorem zcd {α:Type} {c:Nat->Nat->Bool} {n:Nat} {cmp:Nat->Nat->(Bool->A0->Prop)->A0->Prop} {s:A0} {Q:α->A0->Prop} (hc :∀i j C,i < n->j < n->i≠j->C (c i j) s->cmp i j C s) :∀(t:S5 α) (a:α),kasRun c n t=some a->Q a s->t.kasWp cmp Q s
 | .ret b,a,h,q=>by cases h;exact q
 | .ask i j k,a,h,q=>by
  unfold kasRun at h;by_cases z:i < n/\j < n/\i≠j
  ·rw [if_pos z] at h;exact hc i j _ z.1 z.2.1 z.2.2 (zcd hc (k (c i j)) a h q)
  ·rw [if_neg z] at h;cases h
end L2
set_option maxHeartbeats 400000
namespace L2
open PySem PySem.Spec PyProof.Rows
end L2
set_option maxHeartbeats 1000000
namespace L2
open PySem PySem.Spec PyProof.Rows
theorem zg1 {te:TE} {σ:L2.St} {H:Hp} {Q:List V->Hp->Prop} (h:te σ H λ y H1=>Q [y] H1):tCons te tNil σ H Q:=h
structure ZLAt (h:Heap) (z T U i j a b:Addr) (n:Nat) (f:Value):Prop where
 z:IsZip h z T U f
 t:IsPair h T (.ref i) (.ref j)
 u :∃p q,IsPair h U p q
 i:h.IsListIter i a n
 j:h.IsListIter j b n
noncomputable def jl (c:Nat):List (List Nat)->List Nat
 | []=>[]
 | [a]=>a
 | a :: b :: r=>a++c :: jl c (b :: r)
end L2
namespace L2
open PySem PySem.Spec PyProof.Rows PySem.NumText
end L2
namespace L2
open PySem PySem.Spec PyProof.Rows
end L2
open PySem PySem.W PyProof.Rows
set_option maxHeartbeats 4000000
namespace TJ
section
variable (p:Program) (w:W0) (n₀:Nat) (ann:Option Value) (code:Code) (q:Pos)
theorem zhg {n m:Nat} :∀{s s' s'':A0} {t t' t'':j3b},segGo C3 p w n₀ ann 1 n s t=some (s',t')->segGo C3 p w n₀ ann 1 m s' t'=some (s'',t'')->
  segGo C3 p w n₀ ann 1 (n + m) s t=some (s'',t''):=by
 induction n with
 | zero=>
  intro s s' s'' t t' t'' h k;obtain ⟨rfl,rfl⟩:s=s'/\t=t':=by simpa [segGo] using h
  rw [U6];exact k
 | succ n ih=>
  intro s s' s'' t t' t'' h k;rw [show n + 1 + m=n + m + 1 by omega];unfold segGo at h⊢;cases he:endAt 1 t with
  | some f=>rw [he] at h;cases h
  | none=>
   rw [he] at h;cases hk:stepOk n₀ ann t with
   | false=>rw [hk] at h;cases h
   | true=>
    rw [hk] at h;cases hs:step (denote C3) p w s t with
    | halt o s₂=>rw [hs] at h;cases h
    | go s₂ t₂=>rw [hs] at h;exact ih h k
def Steps (c:Nat) (s:A0) (t:j3b) (s':A0) (t':j3b):Prop:=∃n,n<=c/\segGo C3 p w n₀ ann 1 n s t=some (s',t')
def Goes {α:Type} (c:Nat) (x:Sem α) (s:A0) (pos:Pos) (a:α) (s':A0) (pos':Pos):Prop:=
 ∀(K:α->Sem Fin) (H:Value->Sem Fin) (gd:Bool->Bool) (lv:List Value->List Value),
  Steps p w n₀ ann c s ⟨x.wrap K H gd lv,code,pos,[topFrame q]⟩ s' ⟨K a,code,pos',[topFrame q]⟩
end
section
variable {p:Program} {w:W0} {n₀:Nat} {ann:Option Value} {code:Code} {q:Pos}
theorem Steps.trans {c d:Nat} {s s' s'':A0} {t t' t'':j3b} (h:Steps p w n₀ ann c s t s' t') (k:Steps p w n₀ ann d s' t' s'' t''):Steps p w n₀ ann (c + d) s t s'' t'':=by obtain ⟨n,a,h⟩:=h;obtain ⟨m,b,k⟩:=k;exact ⟨n + m,by omega,zhg p w n₀ ann h k⟩
theorem Steps.refl {s:A0} {t:j3b}:Steps p w n₀ ann 0 s t s t:=⟨0,B0 _,rfl⟩
theorem Steps.le {c d:Nat} {s s':A0} {t t':j3b} (h:Steps p w n₀ ann c s t s' t') (l:c<=d):Steps p w n₀ ann d s t s' t':=let ⟨n,a,b⟩:=h;⟨n,D0 a l,b⟩
theorem Steps.one {s s':A0} {t t':j3b} (he:endAt 1 t=none) (hk:stepOk n₀ ann t=true) (hs:step (denote C3) p w s t=.go s' t'):Steps p w n₀ ann 1 s t s' t':=by refine ⟨1,B0 _,?_⟩;unfold segGo;rw [he,hk,hs];rfl
variable {α β:Type} {s s' s'':A0} {pos pos' pos'':Pos} {a:α} {b:β} {c d:Nat}
theorem Goes.pure:Goes p w n₀ ann code q 0 (j2d a:Sem α) s pos a s pos:=λ _ _ _ _=>.refl
theorem Goes.le {x:Sem α} (h:Goes p w n₀ ann code q c x s pos a s' pos') (l:c<=d):Goes p w n₀ ann code q d x s pos a s' pos':=λ K H e b=>(h K H e b).le l
theorem Goes.bind {x:Sem α} {f:α->Sem β} (h:Goes p w n₀ ann code q c x s pos a s' pos') (k:Goes p w n₀ ann code q d (f a) s' pos' b s'' pos''):Goes p w n₀ ann code q (c + d) (x >>= f) s pos b s'' pos'':=by
 intro K H g i;have e:(x >>= f).wrap K H g i=x.wrap (λ a=>(f a).wrap K H g i) H g i:=by rw [Sem.bind_eq_wrap',Sem.wrap_wrap];rfl
 rw [e];exact (h _ H g i).trans (k K H g i)
theorem Goes.keep {x:Sem α} {vs:List Value} (h:Goes p w n₀ ann code q c x s pos a s' pos'):Goes p w n₀ ann code q c (x.keep vs) s pos a s' pos':=by intro K H d b;rw [Sem.keep_eq_wrap,Sem.wrap_wrap];exact h K H _ _
theorem Goes.holding {x:Sem α} {vs:List Value} (h:Goes p w n₀ ann code q c x s pos a s' pos'):Goes p w n₀ ann code q c (j0j vs x) s pos a s' pos':=by rw [holding_eq_keep];exact h.keep
theorem Goes.rule {tag:String}:Goes p w n₀ ann code q 1 (PySem.rule tag) s pos () s pos:=λ _ _ _ _=>.one rfl rfl rfl
theorem Goes.at' {pos₁:Pos}:Goes p w n₀ ann code q 1 (j2h pos₁) s pos () s pos₁:=λ _ _ _ _=>.one rfl rfl rfl
theorem Goes.loadPart {A:Addr} {o:Obj} {part:Option Value} (ho:s.heap.get? A=some o):Goes p w n₀ ann code q 1 (loadPart A part) s pos o s pos:=λ K H b d=>.one rfl rfl (by obtain ⟨heap,e,a,c,f⟩:=s;show (match heap.get? A with|some o=>Step.go _ _|none=>_)=_;have ho:heap.get? A=some o:=ho;rw [ho];rfl)
theorem Goes.updatePart {A:Addr} {o:Obj} {f:Obj->Obj} {part:Option Value} (ho:s.heap.get? A=some o) (hn:Nat.ble n₀ A=true):Goes p w n₀ ann code q 1 (updatePart A part f) s pos () { s with heap:=s.heap.update A f } pos:=λ K H b d=>
 .one rfl (by
  show (_ && (Nat.ble n₀ A || _ || _ || _))=true;rw [hn];rfl) (by
  obtain ⟨heap,e,a,c,g⟩:=s;have ho:heap.get? A=some o:=ho;show (if (heap.get? A).isSome=true then Step.go _ _ else _)=_;rw [ho];rfl)
theorem Goes.leaf {x:Sem α} {sT sT':SharedT} (n:Nat) (h :∀K H gd lv,segGoT C3 p w n₀ ann 1 n sT ⟨x.wrap K H gd lv,code,pos,[topFrame q]⟩=some (sT',⟨K a,code,pos',[topFrame q]⟩)) :
  Goes p w n₀ ann code q n x sT.abs pos a sT'.abs pos':=λ K H gd lv=>⟨n,B0 _,segGo_of (h K H gd lv)⟩
end
end TJ
open PySem PySem.W PyProof.Rows
namespace TJ
section
variable {p:Program} {w:W0} {n₀:Nat} {ann:Option Value} {code:Code} {q:Pos} {s:A0} {pos:Pos}
theorem Goes.forIn {γ β:Type} {c:Nat} {f:γ->β->Sem (ForInStep β)} {b:β} :∀{l:List γ},(∀x∈l,Goes p w n₀ ann code q c (f x b) s pos (.yield b) s pos)->Goes p w n₀ ann code q (l.length * c) (ForIn.forIn l b f) s pos b s pos
 | [],_=>by rw [A5];exact Goes.pure.le (U1 _)
 | x :: l,h=>by rw [M5];have k:=Goes.forIn (l:=l) λ y a=>h y (Y0 _ a);have e:=Goes.bind (f:=λ r=>match r with | .done b=>(j2d b:Sem β) | .yield b=>ForIn.forIn l b f) (h x C1) k;exact e.le (by rw [U0,Nat.add_mul];omega)
theorem Goes.entries {d:Addr} {o:Obj} {es:Array DictEntry} {ep:Nat} {part:Option Value} (ho:s.heap.get? d=some o) (hd:o.data=.dict es ep):Goes p w n₀ ann code q 1 (dictEntries d part) s pos es s pos:=by unfold dictEntries;refine (Goes.bind (d:=0) (Goes.loadPart ho) ?_);rw [hd];exact Goes.pure
theorem Goes.epoch {d:Addr} {o:Obj} {es:Array DictEntry} {ep:Nat} {part:Option Value} (ho:s.heap.get? d=some o) (hd:o.data=.dict es ep):Goes p w n₀ ann code q 1 (dictEpoch d part) s pos ep s pos:=by unfold dictEpoch;refine (Goes.bind (d:=0) (Goes.loadPart ho) ?_);rw [hd];exact Goes.pure
theorem Goes.mayTell {a:Addr} {stored:List Value} {cq:Nat} (hq:Goes p w n₀ ann code q cq (B4 8 (.ref a)) s pos true s pos) (hs :∀v∈stored,Goes p w n₀ ann code q cq (B4 8 v) s pos true s pos) :
  Goes p w n₀ ann code q (cq + stored.length * cq) (tableMayTell (.ref a) stored) s pos false s pos:=by
 unfold tableMayTell;split
 ·exact Goes.pure.le (U1 _)
 ·refine Goes.bind hq ?_;simp only [G7,P3,if_false];refine (Goes.bind (a:=(none,())) (d:=0) (Goes.forIn λ v b=>?_) ?_).le (B0 _)
  ·refine (Goes.bind (d:=0) (hs v b) ?_).le (B0 _);simp only [G7,P3,if_false];exact Goes.pure
  ·exact Goes.pure
theorem Goes.find_none {d a:Addr} {o:Obj} {es:Array DictEntry} {ep:Nat} {h:Int} {cq ce:Nat} (ho:s.heap.get? d=some o) (hd:o.data=.dict es ep)
  (hq:Goes p w n₀ ann code q cq (B4 8 (.ref a)) s pos true s pos)
  (hk :∀e∈es.toList,∃b,e.key=.ref b/\b≠a/\Goes p w n₀ ann code q cq (B4 8 (.ref b)) s pos true s pos/\Goes p w n₀ ann code q ce (eqBool (.ref b) (.ref a)) s pos false s pos) :
  Goes p w n₀ ann code q (2 + cq + es.size * (cq + ce + 10)) (dictFind d (.ref a) h) s pos none s pos:=by
 have l :∀(i:Nat) (e:DictEntry),es[i]? = some e->e∈es.toList:=λ i e u=>Array.mem_toList_iff.mpr (Array.mem_of_getElem? u);have x:¬ (es.any λ e=>e.key == Value.ref a && e.hash != h)=true:=by rw [<-Array.any_toList,m6];rintro ⟨e,hin,hc⟩;obtain ⟨b,f,g,_⟩:=hk e hin;simp only [f,Y2,beq_iff_eq,Value.ref.injEq] at hc;exact g hc.1
 have n :∀v∈(o6 es.size (λ i=>es[i]?.map (·.hash)) h).filterMap (λ i=>es[i]?.map (·.key)),∃b,v=.ref b/\b≠a/\Goes p w n₀ ann code q cq (B4 8 v) s pos true s pos:=by
  intro v k;obtain ⟨i,_,j⟩:=List.mem_filterMap.mp k;cases hei:es[i]? with
  | none=>rw [hei] at j;cases j
  | some e=>
   rw [hei] at j;obtain rfl:e.key=v:=by simpa using j
   obtain ⟨b,f,g,y,_⟩:=hk e (l i e hei);exact ⟨b,f,g,f ▸ y⟩
 have m:(o6 es.size (λ i=>es[i]?.map (·.hash)) h).length<=es.size:=by unfold o6;exact D0 (A2 _ _) (by rw [W1];exact B0 _)
 have A:((o6 es.size (λ i=>es[i]?.map (·.hash)) h).filterMap (λ i=>es[i]?.map (·.key))).length<=es.size:=D0 (E7 _ _) m;unfold dictFind;refine Goes.holding ?_;refine (Goes.bind (d:=1 + cq + es.size * (cq + ce + 10)) (Goes.entries ho hd) ?_).le (by omega);dsimp only;rw [if_neg (show ¬ ((Value.ref a :: (o6 es.size (λ i=>es[i]?.map (·.hash)) h).filterMap (λ i=>es[i]?.map (·.key))).all carriedByValue)=true by simp [carriedByValue])];rw [if_neg x];have B:¬ (((o6 es.size (λ i=>es[i]?.map (·.hash)) h).filterMap (λ i=>es[i]?.map (·.key))) == [Value.ref a])=true:=by intro e;have e:=eq_of_beq e;obtain ⟨b,f,g,_⟩:=n (.ref a) (by rw [e];exact List.mem_singleton.mpr rfl);exact g (by injection f with f;exact f.symm)
 rw [if_neg B];refine (Goes.bind (d:=1 + es.size * (ce + 10)) (Goes.mayTell hq λ v k=>(let ⟨_,_,_,z⟩:=n v k;z)) ?_).le ?_
 ·rw [if_neg (by simp)];refine (Goes.bind (a:=(none,none)) (d:=0) (Goes.forIn (c:=ce + 10) λ i j=>?_) ?_).le ?_
  ·cases hei:es[i]? with
   | none=>exact Goes.pure.le (U1 _)
   | some e=>
    dsimp only;split
    ·obtain ⟨b,f,g,_,r⟩:=hk e (l i e hei);rw [f];refine (Goes.bind (d:=ce + 2) (Goes.epoch ho hd) (Goes.bind (d:=2) r (Goes.bind (d:=1) (Goes.epoch ho hd) ?_))).le (by omega);rw [if_neg (by simp)];rw [if_neg (by simp)];refine Goes.bind (d:=0) Goes.rule ?_;rw [if_neg (by simp)];exact Goes.pure
    ·exact Goes.pure.le (U1 _)
  ·exact Goes.pure
  ·have:=C6 (ce + 10) m;omega
 ·have:=C6 cq A;have t:es.size * (cq + ce + 10)=es.size * cq + es.size * (ce + 10):=by rw [<-Nat.mul_add,j2f]
  rw [t];omega
end
end TJ
open PySem PySem.W PyProof.Rows
namespace TJ
noncomputable abbrev dObj (es:Array DictEntry) (ep:Nat):Obj:={ cls:=.type "dict",data:=.dict es ep }
noncomputable abbrev KV3:=Addr×Value×Int
noncomputable def ent (x:KV3):DictEntry:=⟨x.2.2,.ref x.1,x.2.1⟩
noncomputable def unh (a:Addr):Sem Value:=do rule "hash.unhashable";raiseError "TypeError" s!"unhashable type: '{← typeNameOf (.ref a)}'"
noncomputable def zbw (d:Addr) (vs:List (Value×Value)):Sem PUnit:=E9 vs o9 λ (x:Value×Value) (_:PUnit)=>(do dictSet d x.1 x.2;E3 (O2 o9):Sem (ForInStep PUnit))
section
variable {p:Program} {w:W0} {n₀:Nat} {ann:Option Value} {code:Code} {q:Pos} {pos:Pos} {F:Obj->Nat->SharedT} {d:Addr}
structure Fam (n₀:Nat) (d:Addr) (F:Obj->Nat->SharedT):Prop where
 le:Nat.ble n₀ d=true
 get :∀es ep tk,(F (dObj es ep) tk).abs.heap.get? d=some (dObj es ep)
 upd :∀es ep tk (e:DictEntry),({ (F (dObj es ep) tk).abs with heap:=(F (dObj es ep) tk).abs.heap.update d (B8 (·.push e)) }:A0)=(F (dObj (es.push e) (ep + 1)) tk).abs
theorem Goes.updKeys (Z:Fam n₀ d F) {es:Array DictEntry} {ep tk:Nat} {e:DictEntry} {part:Option Value} (hsz:es.size < sizeLine) :
  Goes p w n₀ ann code q 3 (updateDictKeys d (·.push e) part) (F (dObj es ep) tk).abs pos () (F (dObj (es.push e) (ep + 1)) tk).abs pos:=by
 unfold updateDictKeys;refine (Goes.bind (d:=2) (Goes.loadPart (Z.get es ep tk)) ?_);dsimp only;have u:=Goes.updatePart (p:=p) (w:=w) (ann:=ann) (code:=code) (q:=q) (pos:=pos) (part:=part) (f:=B8 (·.push e)) (Z.get es ep tk) Z.le;rw [Z.upd es ep tk e] at u;refine Goes.bind (d:=1) u ?_;unfold lookBehind;refine Goes.bind (d:=0) (Goes.loadPart (Z.get _ _ tk)) ?_;have a:(dObj (es.push e) (ep + 1)).data.pastItsLine=none:=by unfold Data.pastItsLine;dsimp only;rw [if_neg (by rw [Array.size_push];omega)]
 rw [a];exact Goes.pure
theorem Goes.set (Z:Fam n₀ d F) {a:Addr} {v:Value} {es:Array DictEntry} {ep tk k cp cq ce:Nat} {hsh:Int} (hsz:es.size < sizeLine)
  (hpy:Goes p w n₀ ann code q cp (pyHash (.ref a)) (F (dObj es ep) tk).abs pos hsh (F (dObj es ep) (tk + k)).abs pos)
  (hq:Goes p w n₀ ann code q cq (B4 8 (.ref a)) (F (dObj es ep) (tk + k)).abs pos true (F (dObj es ep) (tk + k)).abs pos)
  (hk :∀e∈es.toList,∃b,e.key=.ref b/\b≠a/\Goes p w n₀ ann code q cq (B4 8 (.ref b)) (F (dObj es ep) (tk + k)).abs pos true (F (dObj es ep) (tk + k)).abs pos/\
   Goes p w n₀ ann code q ce (eqBool (.ref b) (.ref a)) (F (dObj es ep) (tk + k)).abs pos false (F (dObj es ep) (tk + k)).abs pos) :
  Goes p w n₀ ann code q (cp + (2 + cq + es.size * (cq + ce + 10)) + 4) (dictSet d (.ref a) v) (F (dObj es ep) tk).abs pos () (F (dObj (es.push ⟨hsh,.ref a,v⟩) (ep + 1)) (tk + k)).abs pos:=by
 unfold dictSet;refine Goes.holding ?_;refine (Goes.bind (d:=(2 + cq + es.size * (cq + ce + 10)) + 4) hpy ?_).le (by omega);unfold dictSetHashed;refine Goes.holding ?_;refine Goes.bind (d:=4) (Goes.find_none (h:=hsh) (Z.get es ep (tk + k)) rfl hq hk) ?_;exact Goes.bind (d:=3) Goes.rule (Goes.updKeys Z hsz)
theorem zkm {γ β:Type} {f:γ->β->Sem (ForInStep β)} {x:γ} {xs:List γ} {b b' b'':β} {c c':Nat} {s s' s'':A0} (h:Goes p w n₀ ann code q c (f x b) s pos (.yield b') s' pos) (k:Goes p w n₀ ann code q c' (E9 xs b' f) s' pos b'' s'' pos) :
  Goes p w n₀ ann code q (c + c') (E9 (x :: xs) b f) s pos b'' s'' pos:=by
 rw [M5];exact Goes.bind (f:=λ r=>match r with | .done b=>(j2d b:Sem β) | .yield b=>E9 xs b f) h k
theorem Goes.loop (Z:Fam n₀ d F) {cp cq ce N:Nat} (all:List KV3) (hN:all.length<=N) (hN':N < sizeLine) (hnd:(all.map (·.1)).Nodup)
  (hQ :∀x∈all,∀oD tk,Goes p w n₀ ann code q cq (B4 8 (.ref x.1)) (F oD tk).abs pos true (F oD tk).abs pos)
  (hE:all.Pairwise λ x y=>∀oD tk,Goes p w n₀ ann code q ce (eqBool (.ref x.1) (.ref y.1)) (F oD tk).abs pos false (F oD tk).abs pos)
  (hH :∀x∈all,∀oD tk,Goes p w n₀ ann code q cp (pyHash (.ref x.1)) (F oD tk).abs pos x.2.2 (F oD (tk + 3)).abs pos) :
  ∀(todo done:List KV3) (tk:Nat),all=done++todo->
   Goes p w n₀ ann code q (todo.length * (cp + (2 + cq + N * (cq + ce + 10)) + 4)) (zbw d (todo.map λ x=>(Value.ref x.1,x.2.1)))
    (F (dObj (done.map ent).toArray done.length) tk).abs pos () (F (dObj (all.map ent).toArray all.length) (tk + 3 * todo.length)).abs pos:=by
 intro todo;induction todo with
 | nil=>intro done tk e;rw [J2] at e;subst e;unfold zbw;rw [y4,A5];exact Goes.pure.le (U1 _)
 | cons x todo ih=>
  intro done tk e;have c:x∈all:=by rw [e];exact O1 _ C1
  have h:=ih (done++[x]) (tk + 3) (by rw [e,Q9];rfl);unfold zbw at h⊢;rw [J1];have f:(done.map ent).toArray.size<=N:=by rw [P0,K0];rw [e,M0] at hN;omega
  have g:=Goes.set (p:=p) (w:=w) (ann:=ann) (code:=code) (q:=q) (pos:=pos) (v:=x.2.1) (ep:=done.length) Z (Q1 f hN') (hH x c _ tk) (hQ x c _ _) (es:=(done.map ent).toArray) (ce:=ce) (by
   intro s j;obtain ⟨y,a,rfl⟩:=List.mem_map.mp j;have k:y∈all:=by rw [e];exact u5 _ a
   have o:y.1≠x.1:=by rw [e,B2,J1] at hnd;intro q;exact (List.nodup_append.mp hnd).2.2 y.1 (List.mem_map.mpr ⟨y,a,rfl⟩) x.1 C1 q
   rw [e] at hE;exact ⟨y.1,rfl,o,hQ y k _ _,(List.pairwise_append.mp hE).2.2 y a x C1 _ _⟩)
  have n:((done.map ent).toArray.push ⟨x.2.2,.ref x.1,x.2.1⟩)=((done++[x]).map ent).toArray:=by rw [List.push_toArray,B2];rfl
  have r:done.length + 1=(done++[x]).length:=by rw [M0];rfl
  rw [n,r] at g;have i:tk + 3 * (x :: todo).length=(tk + 3) + 3 * todo.length:=by rw [U0];omega
  rw [i];have l:Goes p w n₀ ann code q (_ + 0) (do dictSet d (Value.ref x.1,x.2.1).1 (Value.ref x.1,x.2.1).2;j2d (O2 o9):Sem (ForInStep PUnit)) _ pos (O2 o9) _ pos:=Goes.bind g Goes.pure;have m:=zkm (b:=o9) (xs:=todo.map λ x=>(Value.ref x.1,x.2.1)) l h;refine m.le ?_;rw [U0,Nat.add_mul];have:=C6 (cq + ce + 10) f;omega
noncomputable def zb9 (acc:Nat):Int:=if acc == 2 ^ 64 - 1 then 1546275796 else if acc < 2 ^ 63 then acc else (acc:Int) - (2 ^ 64:Nat)
theorem z8a (acc:Nat) (h:acc < 2 ^ 64):-(2:Int) ^ 63<=zb9 acc/\zb9 acc < 2 ^ 63:=by
 unfold zb9;split
 ·constructor<;>decide
 ·split
  ·constructor<;>omega
  ·constructor<;>omega
theorem z7c (hs:List Int):-(2:Int) ^ 63<=t0 hs/\t0 hs < 2 ^ 63:=
 z8a _ (Nat.mod_lt _ (by decide))
theorem Goes.pyHashT {a:Addr} {s s':A0} {hs:List Int} {tok:Tok} (h1:Goes p w n₀ ann code q 1 (cRoomFor "hash" [.ref a]) s pos () s pos)
  (h2:Goes p w n₀ ann code q 1 (specialOf (.ref a) "__hash__") s pos (some (.builtin "tuple.__hash__")) s pos)
  (h3:Goes p w n₀ ann code q 22 (O6 (.ref a) "__hash__" (unh a)) s pos (some (.int (t0 hs) tok)) s' pos) :
  Goes p w n₀ ann code q 25 (pyHash (.ref a)) s pos (N1 (t0 hs)) s' pos:=by
 have e:pyHash (.ref a)=pyHashByItsType (.ref a):=rfl;rw [e];unfold pyHashByItsType;refine Goes.bind (d:=24) h1 ?_;refine Goes.bind (d:=23) h2 ?_;rw [if_neg (by rw [beq_builtin_none];exact O0)];refine Goes.bind (d:=22) h2 ?_;show Goes p w n₀ ann code q 22 (O6 (.ref a) "__hash__" (unh a) >>= _) s pos _ s' pos;refine Goes.bind (d:=0) h3 ?_;have r:(decide (-(2:Int) ^ 63<=t0 hs) && decide (t0 hs < 2 ^ 63))=true:=by have r:=z7c hs;rw [decide_eq_true r.1,decide_eq_true r.2];rfl
 show Goes p w n₀ ann code q 0 (if (decide (-(2:Int) ^ 63<=t0 hs) && decide (t0 hs < 2 ^ 63))=true then _ else _) s' pos _ s' pos;have b:N1 (t0 hs)=(if (t0 hs == -1)=true then -2 else t0 hs):=by unfold N1;rw [if_pos r]
 rw [if_pos r,b];exact Goes.pure
theorem Goes.subDict {pairs:List (Sem Value×Sem Value)} {s s₁ s':A0} {vs:List (Value×Value)} {c c':Nat} {d:Addr} (hlen:pairs.length<=15) (hd:s.heap.objs.size=d)
  (h1:Goes p w n₀ ann code q c (evalPairs pairs) { s with heap:=s.heap.push { cls:=.type "dict",data:=.dict #[] } } pos vs s₁ pos)
  (h2:Goes p w n₀ ann code q c' (zbw d vs) s₁ pos () s' pos):Goes p w n₀ ann code q (1 + (c + c')) (subDict pairs) s pos d s' pos:=by
 subst hd;unfold PySem.subDict;refine Goes.bind (a:=s.heap.objs.size) (λ _ _ _ _=>.one rfl rfl rfl) ?_;refine (Goes.bind (d:=0) (a:=()) (Goes.holding ?_) Goes.pure);rw [if_pos hlen];refine Goes.bind h1 ?_;exact Goes.holding (Goes.bind (d:=0) h2 Goes.pure)
theorem Goes.execs1 {st:Stmt} {env:Env} {s s':A0} {pos':Pos} {c:Nat} (h:Goes p w n₀ ann code q c (exec st env) s pos .next s' pos'):Goes p w n₀ ann code q c (execs [st] env) s pos .next s' pos':=by rw [execs_cons];exact Goes.bind (d:=0) h Goes.pure
theorem Goes.seg {l:List Stmt} {env:Env} {s s':A0} {pos':Pos} {c:Nat} (h:Goes p w n₀ ann code q c (execs l env) s pos .next s' pos') :∃n,n<=c + 1/\segRun C3 p w n₀ ann 1 n s (piecesOf l env code pos [topFrame q])=some (.next,s',code,pos'):=by obtain ⟨n,a,h⟩:=h doneF deadEnd id id;exact ⟨n + 1,by omega,seg_go h rfl⟩
end
theorem zjq {p q:Program} {loose:List Str} {Xt:A0->Bool} {α:Type} {Yf:A0->α} {Ya:W0->α} {N:Nat} {H₀:R0->Heap} {gs₀:Array j3f} {d₀:Drawn} {k₀ m₀:Nat} {ann:Option Value} {S:W0->S2->A0}
  (opens :∀w:W0,(fencedOpening C3 p w N).map (λ s=>(s.heap,s.gens,s.drawn,s.toks))=some (H₀ w.params,gs₀,d₀,k₀))
  (sizes :∀w:W0,(((H₀ w.params).isNs Z2 && gs₀.size == 0),(H₀ w.params).objs.size,(H₀ w.params).nsMap Z2 "__annotations__")=(true,m₀,ann))
  (runs :∀(w:W0) (os:S2),∃M,M<=N/\topRun C3 p w m₀ ann M ⟨H₀ w.params,gs₀,d₀,k₀,os⟩ (topStub p)=some (S w os))
  (looks1 :∀(w:W0) (os:S2),(staticsOk (Y6 p.main.body) (H₀ w.params) (S w os).heap && namesBound p (S w os).heap && gensDone (S w os) && laidKept (H₀ w.params) (S w os).heap)=true)
  (looks2 :∀(w:W0) (os:S2),openSeen q loose (Y6 p.main.body) Xt true (S w os)=openGood q loose) (looks3 :∀(w:W0) (os:S2),Yf (S w os)=Ya w):LeftO p q loose Xt Yf Ya N:=by
 intro w;obtain ⟨⟨h,b,i,k,os⟩,e,a⟩:=Option.map_eq_some_iff.mp (opens w);simp only [Prod.mk.injEq] at a;obtain ⟨rfl,rfl,rfl,rfl⟩:=a;have z:=sizes w;simp only [Prod.mk.injEq] at z;obtain ⟨c,f,g⟩:=z;obtain ⟨M,d,r⟩:=runs w os;have r:=topRun_mono (N - M) _ _ _ _ r;rw [Nat.add_sub_cancel' d] at r;have t:topFrom C3 p w N ⟨H₀ w.params,b,i,k,os⟩=some (S w os):=by unfold topFrom;dsimp only;rw [c,f,g,r];show (match (staticsOk (Y6 p.main.body) (H₀ w.params) (S w os).heap && namesBound p (S w os).heap && gensDone (S w os) && laidKept (H₀ w.params) (S w os).heap) with|true=>some (S w os)|false=>none)=_;rw [looks1 w os]
 unfold openEnds;rw [e];show (topFrom C3 p w N _).map _=_;rw [t];show some (_,_)=some (_,_);rw [looks2 w os,looks3 w os]
theorem zey {p:Program} {w:W0} {n₀:Nat} {ann:Option Value} {env:Env} {q:Pos} {c N:Nat} {s s' r:A0} {l rest:List Stmt} {b:Code} {pos pos':Pos} (h:Goes p w n₀ ann b q c (execs l env) s pos .next s' pos')
  (k:topRun C3 p w n₀ ann N s' (restOf rest env b pos' [topFrame q])=some r) :∃M,M<=c + 1 + N/\topRun C3 p w n₀ ann M s (restOf (l++rest) env b pos [topFrame q])=some r:=by
 obtain ⟨n,a,g⟩:=Goes.seg h;exact ⟨n + N,by omega,piece_app g k⟩
end TJ
open PySem PySem.Spec PyProof.Rows
namespace L2
noncomputable abbrev fnX (x q:Str) (s:Stmt) (m:Str) (k c:Nat):FuncData:=R5 x q (zab s) (z6j s) (z06 s) .none .none .none (.str m k) none (.ref c) .none
noncomputable abbrev fY (x q:Str) (s:Stmt):=fnX x q s "law_talejudge_k72_hands_without_open_deeds" 841
noncomputable abbrev fO (x q:Str) (s:Stmt) (m:Str) (k c:Nat):Obj:=⟨.type "function",none,.func (fnX x q s m k c),#[]⟩
noncomputable abbrev fL (x q:Str) (s:Stmt):=fO x q s "law_talejudge_k72_hands_without_open_deeds" 841
noncomputable abbrev cO (x q:Str) (i l n a j:Nat):Obj:=
 ⟨.type "code",none,.fields #[.str x i,.str q (i + 1),.str "/claim/cut.py" (i + 2),.int l 0,.int n 0,.int 0 0,.int 0 0,.int 3 0,.ref a,.bool true,.int 181 0,.ref (a + 1),.none,.ref (a + 2),.ref (a + 3),.ref (a + 4),.int j 0,.int l 0,.str "/claim/cut.py" (j + 1)],#[]⟩
noncomputable abbrev cP (x q:Str) (i l n a j:Nat):Obj:=
 ⟨.type "code",none,.fields #[.str x i,.str q (i + 1),.str "/claim/cut.py" (i + 2),.int l 0,.int n 0,.int 0 0,.int 0 0,.int 3 0,.ref a,.bool true,.int 181 0,.ref (a + 1),.none,.none,.none,.ref (a + 2),.int j 0,.int l 0,.str "/claim/cut.py" (j + 1)],#[]⟩
noncomputable abbrev kR (P:R0) (x:Str) (i a:Nat):DictEntry:=⟨j0 P x,.str x i,.ref a⟩
section
variable {P:Program} {w:W0} {K:d0} {mg:Str->Option Value} {base:Heap} {x q:Str} {st:Stmt} {f:Addr} {fd:FuncData} {k:Nat} {ps:List Str} {sp:Sp}
theorem z0f {m:Str} {i c:Nat} (l:K.lookup f=some (fO x q st m i c):=by kernel_rfl) (hc:t8 K (.ref c) q=true:=by kernel_rfl) (hk:G3 K (.ref f)=true:=by kernel_rfl):Fun K x q st f (fnX x q st m i c):=fun_mk l hc hk
theorem cal_mk (T:TX K mg) (F:Fun K x q st f fd) (g:Q5 K Z2 x=some (some (.ref f))) (b:Binds K fd ps []) (G:FnOk P w K mg base CX0 k f fd ps sp):Cal P w K mg base x ps k sp:=⟨⟨f,fd,G,T.of g,F.kp,b⟩⟩
theorem zkr (T:TX K mg) (F:Fun K x q st f fd) (g:Q5 K Z2 x=some (some (.ref f))) (b:Binds K fd ps []) (G:FnOk P w K mg base (CXE P w base) k f fd ps sp):CalE P w K mg base x ps k sp:=⟨⟨f,fd,G,T.of g,F.kp,b⟩⟩
end
section
variable {p:List Value->Prop}
theorem us1 (h :∀a,p [a]) :∀us:List Value,us.length=1->p us | [a],_=>h a
theorem us2 (h :∀a b,p [a,b]) :∀us:List Value,us.length=2->p us | [a,b],_=>h a b
theorem us3 (h :∀a b c,p [a,b,c]) :∀us:List Value,us.length=3->p us | [a,b,c],_=>h a b c
theorem us4 (h :∀a b c d,p [a,b,c,d]) :∀us:List Value,us.length=4->p us | [a,b,c,d],_=>h a b c d
theorem us6 (h :∀a b c d e f,p [a,b,c,d,e,f]) :∀us:List Value,us.length=6->p us | [a,b,c,d,e,f],_=>h a b c d e f
end
end L2
set_option maxHeartbeats 1000000
namespace L2
open PySem PySem.Spec PyProof.Rows
section
variable {X:Cx}
noncomputable def rEqL0 (K:d0):R2:=λ x y H Q=>∃a b xs,x=.ref a/\y=.ref b/\SqL K H a xs/\SqL K H b []/\Q (.bl (decide (xs=[]))) H
theorem zii {k:Nat} (hr:Room k X.A):OpR X (N2 .Eq) (rEqL0 X.K):=by
 intro D s σ H x y v u Q I m n h;obtain ⟨a,b,o,rfl,rfl,i,l,q⟩:=h;cases m;cases n;obtain ⟨B,d,c,_⟩:=I.list i;obtain ⟨C,t,f,_⟩:=I.list l;cases t;have g:X.A.units < cLine:=Nat.lt_of_succ_lt (hu_of hr);have r:=d.length;cases o with
 | nil=>cases d;exact SeqAt.RcAt.lists (e:=λ _=>true) c.isList f.isList rfl g (λ j p _=>absurd p (G6 _)) X.prog X.w _ _ ⟨.bl _,H,I,rfl,q⟩
 | cons z zs=>refine SeqAt.RcAt.lists_lengths c.isList f.isList ?_ g X.prog X.w _ _ ⟨.bl _,H,I,rfl,q⟩;rw [P0,<-r];rfl
end
mutual
noncomputable def keyD:PyData->Bool
 | .int _=>true
 | .str _=>false
 | .tuple xs=>keyDs xs
 | .none=>false
 | .bool _=>false
 | .list _=>false
 | .dict _=>false
noncomputable def keyDs:List PyData->Bool
 | []=>true
 | x :: xs=>keyD x && keyDs xs
end
mutual
noncomputable def hashD:PyData->Int
 | .int i=>hashInt i
 | .str _=>0
 | .tuple xs=>N1 (t0 (hashDs xs))
 | .none=>0
 | .bool _=>0
 | .list _=>0
 | .dict _=>0
noncomputable def hashDs:List PyData->List Int
 | []=>[]
 | x :: xs=>hashD x :: hashDs xs
end
mutual
noncomputable def drawD:PyData->Nat
 | .tuple xs=>drawDs xs + 1
 | .int _=>1
 | .str _=>1
 | .none=>1
 | .bool _=>1
 | .list _=>1
 | .dict _=>1
noncomputable def drawDs:List PyData->Nat
 | []=>0
 | x :: xs=>drawD x + drawDs xs
end
mutual
theorem z8c {h h':Heap} (k :∀b o vs n,h.get? b=some o->o.cls=.type "tuple"->o.data=.seq vs n->h'.get? b=some o) :∀(d:PyData) (v:Value) (as:List Addr),keyD d=true->Reads h v d as->Reads h' v d as
 | .int i,v,as,_,r=>by cases r;exact .int _ _
 | .str _,_,_,hk,_=>by cases hk
 | .tuple xs,v,as,hk,r=>by
  cases r with
  | tuple e c d r=>exact .tuple (k _ _ _ _ e c d) c d (zc7 k xs _ _ hk r)
 | .none,_,_,hk,_=>by cases hk
 | .bool _,_,_,hk,_=>by cases hk
 | .list _,_,_,hk,_=>by cases hk
 | .dict _,_,_,hk,_=>by cases hk
theorem zc7 {h h':Heap} (k :∀b o vs n,h.get? b=some o->o.cls=.type "tuple"->o.data=.seq vs n->h'.get? b=some o) :∀(ds:List PyData) (vs:List Value) (as:List Addr),keyDs ds=true->S6 h vs ds as->S6 h' vs ds as
 | [],_,_,_,r=>by cases r;exact .nil
 | d :: ds,_,_,c,r=>by
  have c:=Bool.and_eq_true_iff.mp (show (keyD d && keyDs ds)=true from c);cases r with
  | cons a r=>exact .cons (z8c k d _ _ c.1 a) (zc7 k ds _ _ c.2 r)
end
mutual
theorem z2i :∀d:PyData,keyD d=true->plainP d=true
 | .int _,_=>rfl
 | .str _,hk=>by cases hk
 | .tuple xs,h=>zah xs h
 | .none,hk=>by cases hk
 | .bool _,hk=>by cases hk
 | .list _,hk=>by cases hk
 | .dict _,hk=>by cases hk
theorem zah :∀ds:List PyData,keyDs ds=true->z13 ds=true
 | [],_=>rfl
 | d :: ds,a=>by have a:=Bool.and_eq_true_iff.mp (show (keyD d && keyDs ds)=true from a);show (plainP d && z13 ds)=true;rw [z2i d a.1,zah ds a.2];rfl
end
mutual
theorem z5n :∀d:PyData,keyD d=true->d.canLay0=true
 | .int _,_=>rfl
 | .str _,hk=>by cases hk
 | .tuple xs,h=>zfu xs h
 | .none,hk=>by cases hk
 | .bool _,hk=>by cases hk
 | .list _,hk=>by cases hk
 | .dict _,hk=>by cases hk
theorem zfu :∀ds:List PyData,keyDs ds=true->T5 ds=true
 | [],_=>rfl
 | d :: ds,a=>by have a:=Bool.and_eq_true_iff.mp (show (keyD d && keyDs ds)=true from a);show (d.canLay0 && T5 ds)=true;rw [z5n d a.1,zfu ds a.2];rfl
end
section
variable {prog:Program} {w:W0} {E:Value->A0->Prop}
mutual
theorem zdw :∀(d:PyData) (v:Value) (as:List Addr) (A:Y1) (s:A0) (Q:Int->A0->Prop),keyD d=true->Reads s.heap v d as->A.units + d.depth < cLine->Q (hashD d) { s with toks:=s.toks + drawD d }->V0 (E1 prog w) A (pyHash v) Q E s
 | .int i,v,as,A,s,Q,_,r,_,q=>by cases r;exact wpAny_pyHash_int q
 | .str _,_,_,_,_,_,hk,_,_,_=>by cases hk
 | .tuple xs,v,as,A,s,Q,hk,r,b,q=>by
  cases r with
  | @tuple a o vs n _ _ e c d r=>
   have b:A.units + (R1 xs + 1) < cLine:=b;have ty:s.TypeIs (.ref a) "tuple":=⟨o,e,c⟩
   refine W.pyHash_slot (v:=.ref a) ty F.slot_tuple_hash F.entry_tuple_hash (F.args_tuple_hash_1 _) rfl (.inr (by omega)) ?_;refine o0 (G0 ?_);refine o0 (j03 e d ?_);refine o0 ?_;rw [<-Array.forIn_toList];refine z9j xs vs.toList _ #[] A.in1 s _ hk r (show A.units + 1 + R1 xs < cLine by omega) ?_;refine o0 (wpAny_mkInt (G0 ⟨_,_,rfl,?_⟩));simpa [hashD,drawD,j2f] using q
 | .none,_,_,_,_,_,hk,_,_,_=>by cases hk
 | .bool _,_,_,_,_,_,hk,_,_,_=>by cases hk
 | .list _,_,_,_,_,_,hk,_,_,_=>by cases hk
 | .dict _,_,_,_,_,_,hk,_,_,_=>by cases hk
theorem z9j :∀(ds:List PyData) (vs:List Value) (as:List Addr) (hs:Array Int) (A:Y1) (s:A0) (Q:Array Int->A0->Prop),keyDs ds=true->S6 s.heap vs ds as->A.units + R1 ds < cLine->Q (hs++(hashDs ds).toArray) { s with toks:=s.toks + drawDs ds }->
  V0 (E1 prog w) A (E9 vs hs λ x hs=>do let h <-pyHash x;E3 (O2 (hs.push h))) Q E s
 | [],_,_,hs,A,s,Q,_,r,_,q=>by cases r;rw [A5];exact G0 (by simpa [hashDs,drawDs] using q)
 | d :: ds,_,_,hs,A,s,Q,b,r,c,q=>by
  have b:=Bool.and_eq_true_iff.mp (show (keyD d && keyDs ds)=true from b);have c:A.units + max d.depth (R1 ds) < cLine:=c;cases r with
  | @cons v vs _ _ as bs a r=>rw [M5];refine o0 (o0 (zdw d v as A s _ b.1 a (by omega) (G0 ?_)));refine z9j ds vs bs (hs.push (hashD d)) A { s with toks:=s.toks + drawD d } Q b.2 r (by omega) ?_;simpa [hashDs,drawDs,j2f] using q
end
theorem zeg {a:Addr} {n:Nat} {o:Obj} {vs:Array Value} {m:Nat} {A:Y1} {s:A0} {Q:Bool->A0->Prop} (e:s.heap.get? a=some o) (c:o.cls=.type "tuple") (d:o.data=.seq vs m)
  (h:V0 (E1 prog w) A (E9 vs.toList ((none:Option Bool),()) λ y _=>do
    let b <-B4 n y
    if (!b)=true then E3 (V7 (some false,())) else E3 (O2 (none,())))
   (λ r s'=>r.1=none/\Q true s') E s):V0 (E1 prog w) A (B4 (n + 1) (.ref a)) Q E s:=by
 rw [eqIsQuiet.eq_2];have ty:s.TypeIs (.ref a) "tuple":=⟨o,e,c⟩
 refine o0 (j29 (r:=some (.builtin "tuple.__eq__")) ty (by rfl) ?_);refine o0 (G8 (T:="tuple") ty isSubtype_tuple_tuple ?_);simp only [G7,P3,if_false];refine o0 (j34 e d (o0 ?_));show V0 _ _ (E9 vs _ _) _ _ _;rw [<-Array.forIn_toList];refine V2 h (λ r s' h=>?_) (λ _ _ h=>h);obtain ⟨g,j⟩:=r;obtain ⟨f,i⟩:=h;cases (show g=none from f);exact G0 i
mutual
theorem zcp :∀(d:PyData) (v:Value) (as:List Addr) (n:Nat) (A:Y1) (s:A0) (Q:Bool->A0->Prop),keyD d=true->Reads s.heap v d as->d.depth<=n->Q true s->V0 (E1 prog w) A (B4 n v) Q E s
 | .int i,v,as,n,A,s,Q,_,r,_,q=>by cases r;rw [eqIsQuiet.eq_3];exact G0 q;intro a h;cases h
 | .str _,_,_,_,_,_,_,hk,_,_,_=>by cases hk
 | .tuple xs,v,as,n,A,s,Q,hk,r,b,q=>by
  cases r with
  | @tuple a o vs m _ _ e c d r=>
   have b:R1 xs + 1<=n:=b;obtain ⟨n,rfl⟩ :∃k,n=k + 1:=⟨n - 1,by omega⟩
   exact zeg e c d (z9p xs vs.toList _ n A s _ hk r (by omega) ⟨rfl,q⟩)
 | .none,_,_,_,_,_,_,hk,_,_,_=>by cases hk
 | .bool _,_,_,_,_,_,_,hk,_,_,_=>by cases hk
 | .list _,_,_,_,_,_,_,hk,_,_,_=>by cases hk
 | .dict _,_,_,_,_,_,_,hk,_,_,_=>by cases hk
theorem z9p :∀(ds:List PyData) (vs:List Value) (as:List Addr) (n:Nat) (A:Y1) (s:A0) (Q:Option Bool×Unit->A0->Prop),keyDs ds=true->S6 s.heap vs ds as->R1 ds<=n->Q (none,()) s->
  V0 (E1 prog w) A (E9 vs ((none:Option Bool),()) λ y _=>do
    let b <-B4 n y
    if (!b)=true then E3 (V7 (some false,())) else E3 (O2 (none,()))) Q E s
 | [],_,_,n,A,s,Q,_,r,_,q=>by cases r;rw [A5];exact G0 q
 | d :: ds,_,_,n,A,s,Q,c,r,e,q=>by
  have c:=Bool.and_eq_true_iff.mp (show (keyD d && keyDs ds)=true from c);have e:max d.depth (R1 ds)<=n:=e;cases r with
  | @cons v vs _ _ as bs a r=>rw [M5];refine o0 (o0 (zcp d v as n A s _ c.1 a (by omega) ?_));exact G0 (z9p ds vs bs n A s Q c.2 r (by omega) q)
end
end
open Classical in
noncomputable instance:DecidableEq PyData:=λ a b=>Classical.propDecidable (a=b)
noncomputable def z7z (prog:Program) (w:W0):HeapKind prog w PyData where
 is h d a:=keyD d=true/\d.depth<=7/\∃as,Reads h (.ref a) d as
 hash:=hashD
 draws:=drawD
 room A:=A.units + 8 < cLine
 inj:=λ {h a x y} hx hy=>by obtain ⟨kx,_,as,rx⟩:=hx;obtain ⟨_,_,bs,ry⟩:=hy;exact SeqAt.Reads.unique x y _ as bs (z5n x kx) rx ry
 keeps:=λ {h h' k a d o es ep} hk e hd sb=>by
  obtain ⟨k1,k2,as,r⟩:=hk;refine ⟨k1,k2,as,z8c (λ b o' vs n eb _ eo=>?_) k _ as k1 r⟩;have nb:b≠d:=λ z=>by rw [z,e] at eb;cases eb;rw [hd] at eo;cases eo
  rw [sb.2 b nb];exact eb
 pyHash:=λ {A E s k a Q} hr hk q=>by obtain ⟨k1,k2,as,r⟩:=hk;exact zdw k _ as A s Q k1 r (by omega) q
 eqBool:=λ {A E s x y a b Q} hr hx hy q=>by obtain ⟨x1,x2,as,rx⟩:=hx;obtain ⟨y1,y2,bs,ry⟩:=hy;refine S9 x y A s _ _ as bs rx ry (z5n x x1) (z5n y y1) (by have:=C8 x.depth y.depth;omega) prog w E Q ?_;rw [zdu (p:=x=y) (z2i x x1) (z2i y y1) Iff.rfl];exact q
 quiet:=λ {A E s k a Q} hk q=>by obtain ⟨k1,k2,as,r⟩:=hk;exact zcp k _ as 8 A s Q k1 r (by omega) q
section
variable {prog:Program} {w:W0} {A:Y1} {E:Value->A0->Prop} {s:A0}
def DcAt (h:Heap) (d:Addr) (es:Array DictEntry) (ep:Nat):Prop:=∃o,h.get? d=some o/\o.ExactDict/\o.data=.dict es ep
theorem zlb {d:Addr} {es:Array DictEntry} {ep:Nat} {Q:Value->A0->Prop} (hd:(d == F3)=false) (h:DcAt s.heap d es ep)
  (q:Q (.ref s.heap.objs.size) { s with heap:=s.heap.push { cls:=.type "dict_keyiterator",data:=.fields #[.ref d,.int 0 0,.int es.size 0,.int ep 0] } }):V0 (E1 prog w) A (pyIter (.ref d)) Q E s:=by
 obtain ⟨o,a,⟨g,j,k⟩,c⟩:=h;have b:s.TypeIs (.ref d) "dict":=⟨o,a,g⟩
 refine wpAny_pyIter_slot b F.slot_dict_iter (j3 F.slot_dict_iter b F.entry_dict_iter ?_ (F.args_dict_iter_1 _));unfold C7.«dict.__iter__»;refine o0 (show V0 _ _ (M6 "__iter__" ⟨[.ref d],[]⟩ >>= _) _ _ _ from o0 ?_);have i:V0 (E1 prog w) A.in1 (M6 "__iter__" ⟨[.ref d],[]⟩) (λ _ f=>f=s) E s:=by unfold M6;rw [if_pos (by decide +kernel)];refine o0 (i7 b ?_);rw [if_neg (by decide)];exact G0 rfl
 refine V2 i (λ _ f e=>?_) λ _ _ z=>z;subst e;refine (show V0 _ _ (E3 (Value.ref d)) _ _ _ from G0 ?_);refine (show V0 _ _ (E3 d >>= _) _ _ _ from o0 (G0 ?_));refine o0 ?_;unfold Builtin.Dict.showsAll;rw [if_neg (by rw [hd];decide)];refine G0 (o0 (j0h a c (o0 (j2a a c ?_))));refine o0 (B3 ?_ (by size_fits));refine G0 ⟨_,rfl,"dict_keyiterator",_,⟨_,A1 _ rfl,rfl⟩,F.slot_dict_keyiterator_next.lookup,q⟩
theorem zl8 {it d:Addr} {es:Array DictEntry} {ep i:Nat} {e:DictEntry} {Q:Option Value->A0->Prop} (hi:s.heap.IsKeyIter it d i es.size ep) (h:DcAt s.heap d es ep) (he:es[i]? = some e)
  (q :∀h',h'.IsKeyIter it d (i + 1) es.size ep->U5 it s.heap h'->Q (some e.key) { s with heap:=h' }):V0 (E1 prog w) A (j38 (.ref it)) Q E s:=by
 have a:=hi.typeIs;obtain ⟨x,f,u,j⟩:=hi;obtain ⟨o,l,C,n⟩:=h;obtain ⟨r,B,y,z⟩:=x;cases (show r=_ from u);cases (show y=_ from j);unfold j38;refine o0 (wpAny_attempt (U3 (name:=R6 "__next__") a X4 (j3 X4 a j18 ?_ (j12 _))));unfold C7.«dict_keyiterator.__next__»;refine (show V0 _ _ (Q8 "__next__" ⟨[.ref it],[]⟩ >>= _) _ _ _ from o0 ?_);refine (show V0 _ _ (E3 (Value.ref it)) _ _ _ from G0 ?_);refine o0 ?_;refine (show V0 _ _ ((Z8 (.ref it) >>= _) >>= _) _ _ _ from o0 (o0 (S4 a (G0 ?_))));have k:(if g8 "dict_keyiterator" = true then 2 else 0)=0:=if_neg (by decide +kernel);rw [k];refine o0 (wpAny_fieldsOf f j ?_);show V0 _ _ (if (Value.ref d == X2)=true then _ else _) _ _ _;rw [if_neg (by simp)];refine (show V0 _ _ (E3 d >>= _) _ _ _ from o0 (G0 ?_));refine o0 (j0h l n ?_);rw [if_neg (by simp)];refine (show V0 _ _ (E3 d >>= _) _ _ _ from o0 (G0 ?_));refine o0 (j2a l n ?_);rw [if_neg (by simp)];refine G0 ?_;dsimp only;rw [if_neg (by omega),Y5,he];dsimp only;refine o0 (show V0 _ _ (Z8 (.ref it) >>= _) _ _ _ from o0 (S4 a (G0 ?_)));rw [k];refine o0 (wpAny_isOneOf_keyiter a ?_);refine o0 (C9 f j (by simp) ?_);have m:(s.heap.update it (j2e (·.setIfInBounds 1 (j19 ((i:Int) + 1))))).IsKeyIter it d (i + 1) es.size ep:=by refine ⟨_,E8 _ f rfl,rfl,?_⟩;simp [j2e,j19]
 have key :∀b:Bool,b=false->V0 (E1 prog w) A.in1 (j0j [e.key,e.val] (do
   let c <-F8 (.ref it) ["dict_keyiterator","dict_reversekeyiterator"]
   if c=true then E3 e.key else do
    let c <-F8 (.ref it) ["dict_valueiterator","dict_reversevalueiterator"]
    if c=true then E3 e.val else Builtin.Dict_items.pairFromOwner (.ref it) 6 e.key e.val) >>= λ v=>ret v)
   (λ t g=>∃v,t=Fin.done (Flow.ret v)/\V0 (E1 prog w) A (E3 (some v)) Q E g)
   (λ e g=>V0 (E1 prog w) A (do if <-j05 e (.type "StopIteration") then E3 none else throw e) Q E g)
   { s with heap:=s.heap.update it (j2e (·.setIfInBounds 1 (j19 (if b=true then (i:Int) - 1 else (i:Int) + 1)))) }:=λ b p=>by
  subst p;refine o0 (i4 (o0 (wpAny_isOneOf_keyiter m.typeIs ?_)));rw [if_pos (by decide +kernel)];exact G0 (G0 ⟨_,rfl,G0 (q _ m (T4 ..))⟩)
 exact key _ (by decide +kernel)
theorem ki_end {it d:Addr} {es:Array DictEntry} {ep i:Nat} {Q:Option Value->A0->Prop} (hh:A.handled=none) (hi:s.heap.IsKeyIter it d i es.size ep) (h:DcAt s.heap d es ep) (he:es[i]? = none)
  (q :∀h',Heap.ExtBut it s.heap h'->Q none { s with heap:=h' }):V0 (E1 prog w) A (j38 (.ref it)) Q E s:=by
 have a:=hi.typeIs;obtain ⟨r,l,p,j⟩:=hi;obtain ⟨o,f,n,c⟩:=h;unfold j38;refine o0 (wpAny_attempt (U3 (name:=R6 "__next__") a X4 (j3 X4 a j18 ?_ (j12 _))));unfold C7.«dict_keyiterator.__next__»;refine (show V0 _ _ (Q8 "__next__" ⟨[.ref it],[]⟩ >>= _) _ _ _ from o0 ?_);refine (show V0 _ _ (E3 (Value.ref it)) _ _ _ from G0 ?_);refine o0 ?_;refine (show V0 _ _ ((Z8 (.ref it) >>= _) >>= _) _ _ _ from o0 (o0 (S4 a (G0 ?_))));have g:(if g8 "dict_keyiterator" = true then 2 else 0)=0:=if_neg (by decide +kernel);rw [g];refine o0 (wpAny_fieldsOf l j ?_);show V0 _ _ (if (Value.ref d == X2)=true then _ else _) _ _ _;rw [if_neg (by simp)];refine (show V0 _ _ (E3 d >>= _) _ _ _ from o0 (G0 ?_));refine o0 (j0h f c ?_);rw [if_neg (by simp)];refine (show V0 _ _ (E3 d >>= _) _ _ _ from o0 (G0 ?_));refine o0 (j2a f c ?_);rw [if_neg (by simp)];refine G0 ?_;dsimp only;rw [if_neg (by omega),Y5,he];dsimp only;refine o0 (show V0 _ _ (Z8 (.ref it) >>= _) _ _ _ from o0 (S4 a (G0 ?_)));rw [g];refine o0 (C9 l j (by simp) ?_);refine stops hh λ h' k=>q h' ?_;exact λ b o m e=>k b o (((T4 ..).2 b m).trans e)
theorem zjd {A:Y1} (hh:A.handled=none) (I d:Addr) (nd:d≠I) (es:Array DictEntry) (ep:Nat):Walks prog w A I [I,d] [I] es.size (λ i v=>∃e,es[i]? = some e/\v=e.key) (λ i h=>h.IsKeyIter I d i es.size ep/\DcAt h d es ep) where
 sub:=λ b m=>by rw [List.mem_singleton.mp m];exact C1
 frame:=λ i h a ⟨h1,o,h2,c⟩ k=>⟨h1.at (k I C1),o,k d (by simp) o h2,c⟩
 item:=λ i s Q E j ⟨h1,h2⟩ q=>by
  refine zl8 h1 h2 (G2 j) λ a g l=>q _ a _ ⟨_,G2 j,rfl⟩ ⟨g,?_⟩ λ b o f e=>?_
  ·obtain ⟨o,c,n⟩:=h2;exact ⟨o,(l.2 d nd).trans c,n⟩
  ·exact (l.2 b (λ z=>f (by rw [z];exact List.mem_singleton.mpr rfl))).trans e
 done:=λ s Q E ⟨h1,h2⟩ q=>ki_end hh h1 h2 (Array.getElem?_eq_none (B0 _)) λ a k=>q a _ λ b o f e=>k b o (λ z=>f (by rw [z];exact List.mem_singleton.mpr rfl)) e
 self:=λ i s Q E ⟨h1,_⟩ q=>wpAny_pyIter_keyiter h1 q
theorem zko {r:Addr} {Q:Bool->A0->Prop} (hT:s.TypeIs (.ref r) "dict") (h:Q false s):V0 (E1 prog w) A (y9 (.ref r)) Q E s:=by unfold y9;refine o0 (j29 hT PySem.F.slot_dict_len.lookup ?_);generalize hid:("dict.__len__" : String)=id0;wp_delta;rw [show splitId id0=some ("dict","__len__") from by subst hid;decide +kernel];subst hid;refine o0 (G8 (T:="dict") (b:=true) hT (by rfl) ?_);refine wpAny_ite_split (λ a=>absurd a (by decide)) (λ _=>wpAny_ite_split (λ _=>?_) (λ a=>absurd (by decide +kernel) a));exact o0 (i7 hT (G0 h))
theorem kdl_dc {d:Addr} {es:Array DictEntry} {ep:Nat} (hd:(d == F3)=false):W.KdlSrc prog w "dict" d d es.size (λ i v=>∃e,es[i]? = some e/\v=e.key) (λ h=>DcAt h d es ep) where
 type:=λ s ⟨o,a,b,_⟩=>⟨o,a,b.1⟩
 there:=λ h ⟨o,a,_⟩=>⟨Q0 a,Q0 a⟩
 keep:=λ h c ⟨o,a,b⟩ k=>⟨o,k d (.inl rfl) o a,b⟩
 notList:=by decide
 notTuple:=by decide
 hint:=λ A E s Q ⟨o,a,b,_⟩ q=>zko ⟨o,a,b.1⟩ q
 iter:=λ A s f h=>by
  refine ⟨{ cls:=.type "dict_keyiterator",data:=.fields #[.ref d,.int 0 0,.int es.size 0,.int ep 0] },λ i c=>c.IsKeyIter s.heap.objs.size d i es.size ep/\DcAt c d es ep,λ E Q q=>zlb hd h q,zjd f _ d ?_ es ep,⟨_,A1 _ rfl,rfl,rfl⟩,?_⟩
  ·obtain ⟨o,a,_⟩:=h;exact F1 (Q0 a)
  ·obtain ⟨o,a,b⟩:=h;exact ⟨o,F0 _ a,b⟩
end
noncomputable def KasOk {α:Type} (n:Nat):S5 α->(α->Prop)->Prop
 | .ret a,Q=>Q a
 | .ask i j k,Q=>i < n/\j < n/\i≠j/\∀b,KasOk n (k b) Q
theorem KasOk.run {α:Type} {n:Nat} {Q:α->Prop} (c:Nat->Nat->Bool) :∀{t:S5 α},KasOk n t Q->∃a,kasRun c n t=some a/\Q a
 | .ret a,h=>⟨a,rfl,h⟩
 | .ask i j k,⟨h1,h2,h3,h4⟩=>by unfold kasRun;rw [if_pos ⟨h1,h2,h3⟩];exact (h4 (c i j)).run c
theorem KasOk.mono {α:Type} {n:Nat} {Q R:α->Prop} (f :∀a,Q a->R a) :∀{t:S5 α},KasOk n t Q->KasOk n t R
 | .ret a,h=>f a h
 | .ask i j k,⟨h1,h2,h3,h4⟩=>⟨h1,h2,h3,λ b=>(h4 b).mono f⟩
theorem KasOk.bind {α β:Type} {n:Nat} {Q:β->Prop} {f:α->S5 β} :∀{t:S5 α},KasOk n t (λ a=>KasOk n (f a) Q)->KasOk n (t.bind f) Q
 | .ret a,h=>by rw [PySem.W.KasT.bind.eq_def];exact h
 | .ask i j k,⟨h1,h2,h3,h4⟩=>by rw [PySem.W.KasT.bind.eq_def];exact ⟨h1,h2,h3,λ b=>KasOk.bind (h4 b)⟩
def PmA (n:Nat) (p:Array Nat):Prop:=p.toList.Perm (K1 n)
theorem zi0 {n i j:Nat} {p:Array Nat} (h:PmA n p):PmA n (p.swapIfInBounds i j):=by
 rw [Array.swapIfInBounds_def];split
 ·split
  ·exact (Array.perm_iff_toList_perm.mp (Array.swap_perm _ _)).trans h
  ·exact h
 ·exact h
theorem ze0 {n:Nat} {f:Array Nat->Nat->Array Nat} (hf :∀p k,PmA n p->PmA n (f p k)) :∀(l:List Nat) (p:Array Nat),PmA n p->PmA n (l.foldl f p)
 | [],p,h=>h
 | k :: l,p,h=>ze0 hf l (f p k) (hf p k h)
theorem rev_pm {n i j:Nat} {p:Array Nat} (h:PmA n p):PmA n (V9 p i j):=by unfold V9;rw [mirror.eq_def];exact ze0 (λ _ _ h=>zi0 h) _ _ h
theorem zhi {n i j:Nat} {p:Array Nat} (h:PmA n p):PmA n (bubble p i j):=by rw [bubble.eq_def];exact ze0 (λ _ _ h=>zi0 h) _ _ h
theorem PmA.size {n:Nat} {p:Array Nat} (h:PmA n p):p.size=n:=by
 have:=h.length_eq
 rwa [W1,T2] at this
theorem PmA.at {n i:Nat} {p:Array Nat} (h:PmA n p) (hi:i < n):p.getD i 0 < n:=by
 have a:i < p.size:=by rw [h.size];exact hi
 rw [L6,G2 a];exact List.mem_range.mp (h.mem_iff.mp (Array.getElem_mem_toList a))
theorem PmA.ne {n i j:Nat} {p:Array Nat} (h:PmA n p) (hi:i < n) (hj:j < n) (e:i≠j):p.getD i 0≠p.getD j 0:=by
 have a:i < p.size:=by rw [h.size];exact hi
 have b:j < p.size:=by rw [h.size];exact hj
 have c:p.toList.Nodup:=h.nodup_iff.mpr List.nodup_range;rw [L6,G2 a,L6,G2 b];intro z;have z:p[i]=p[j]:=z;exact e ((j01 (h₀:=by simpa using a) (h₁:=by simpa using b) c).mp (by simpa using z))
theorem asc_ok {n:Nat} {p:Array Nat} (h:PmA n p) :∀(f i:Nat),1<=i->i + f<=n->KasOk n (PySem.W.kas_asc p f i) (λ m=>i<=m/\m<=i + f)
 | 0,i,_,_=>by rw [PySem.W.kas_asc.eq_def];exact ⟨B0 _,B0 _⟩
 | f + 1,i,h1,h2=>by
  rw [PySem.W.kas_asc.eq_def];refine ⟨h.at (by omega),h.at (by omega),h.ne (by omega) (by omega) (by omega),λ b=>?_⟩;cases b with
  | true=>exact ⟨B0 _,by omega⟩
  | false=>exact (asc_ok h f (i + 1) (by omega) (by omega)).mono λ m a=>⟨by omega,by omega⟩
theorem zhq {n m:Nat} {p:Array Nat} (h:PmA n p) (h1:1<=m) (h2:m<=n):KasOk n (PySem.W.kas_tail3 m n p) (λ r=>1<=r.1/\r.1<=n/\PmA n r.2):=by rw [PySem.W.kas_tail3.eq_def];exact KasOk.bind ((asc_ok (rev_pm h) (n - m) m h1 (by omega)).mono λ k a=>⟨by omega,by omega,rev_pm h⟩)
theorem zct {n:Nat} :∀(f:Nat) (p:Array Nat) (i q:Nat),PmA n p->1<=i->i + f<=n->KasOk n (G9 f p i q) (λ r=>PmA n r.1/\1<=r.2.1/\r.2.1<=n)
 | 0,p,i,q,h,h1,h2=>by rw [PySem.W.kas_desc.eq_def];exact ⟨h,h1,show i<=n by omega⟩
 | f + 1,p,i,q,h,h1,h2=>by
  rw [PySem.W.kas_desc.eq_def];refine ⟨h.at (by omega),h.at (by omega),h.ne (by omega) (by omega) (by omega),λ b=>?_⟩;cases b with
  | true=>
   show KasOk n (if q > 0 then G9 f (V9 p (i - (q + 1)) i) (i + 1) 0 else G9 f p (i + 1) 0) _;by_cases z:q > 0
   ·rw [if_pos z];exact zct f _ _ _ (rev_pm h) (by omega) (by omega)
   ·rw [if_neg z];exact zct f _ _ _ h (by omega) (by omega)
  | false=>
   refine ⟨h.at (by omega),h.at (by omega),h.ne (by omega) (by omega) (by omega),λ b=>?_⟩;cases b with
   | true=>exact ⟨h,h1,show i<=n by omega⟩
   | false=>exact zct f _ _ _ h (by omega) (by omega)
theorem z7f {n m:Nat} {p:Array Nat} (h:PmA n p) (h2:m + 1<=n):KasOk n (PySem.W.kas_descPart m n p) (λ r=>1<=r.1/\r.1<=n/\PmA n r.2):=by
 rw [PySem.W.kas_descPart.eq_def];refine KasOk.bind ((zct (n - (m + 1)) p (m + 1) 0 h (by omega) (by omega)).mono λ r a=>?_);show KasOk n (if r.2.2 > 0 then _ else _) _;by_cases z:r.2.2 > 0
 ·rw [if_pos z];exact zhq (rev_pm a.1) a.2.1 a.2.2
 ·rw [if_neg z];exact zhq a.1 a.2.1 a.2.2
theorem zjt {n:Nat} {p:Array Nat} (h:PmA n p) (h2:2<=n):KasOk n (PySem.W.kas_count n p) (λ r=>1<=r.1/\r.1<=n/\PmA n r.2):=by
 rw [PySem.W.kas_count.eq_def];refine KasOk.bind ((asc_ok h (n - 1) 1 (B0 _) (by omega)).mono λ m a=>?_);show KasOk n (if (m == n)=true then _ else _) _;by_cases z:(m == n)=true
 ·rw [if_pos z];exact ⟨a.1,by omega,h⟩
 ·rw [if_neg z];have c:m≠n:=λ e=>z (by rw [e];exact beq_self_eq_true _);show KasOk n (if m > 1 then _ else _) _;by_cases y:m > 1
  ·rw [if_pos y];refine ⟨h.at (by omega),h.at (by omega),h.ne (by omega) (by omega) (by omega),λ b=>?_⟩;cases b with
   | true=>exact ⟨a.1,by omega,h⟩
   | false=>exact z7f (rev_pm h) (by omega)
  ·rw [if_neg y];exact z7f h (by omega)
theorem zar {n k:Nat} {p:Array Nat} (h:PmA n p) (hk:k < n) :∀(f l r:Nat),r<=k->KasOk n (PySem.W.kas_place p k f l r) (λ _=>True)
 | 0,l,r,_=>by rw [PySem.W.kas_place.eq_def];exact trivial
 | f + 1,l,r,hr=>by
  rw [PySem.W.kas_place.eq_def];show KasOk n (if l ≥ r then _ else _) _;by_cases z:l ≥ r
  ·rw [if_pos z];exact trivial
  ·rw [if_neg z];refine ⟨h.at hk,h.at (by omega),h.ne hk (by omega) (by omega),λ b=>?_⟩;cases b with
   | true=>exact zar h hk f l _ (by omega)
   | false=>exact zar h hk f _ r hr
theorem bin_ok {n:Nat} :∀(f:Nat) (p:Array Nat) (k:Nat),PmA n p->k + f<=n->KasOk n (PySem.W.kas_bin f p k) (PmA n)
 | 0,p,k,h,_=>by rw [PySem.W.kas_bin.eq_def];exact h
 | f + 1,p,k,h,hk=>by rw [PySem.W.kas_bin.eq_def];exact KasOk.bind ((zar h (by omega) k 0 k (B0 _)).mono λ l _=>bin_ok f _ (k + 1) (zhi h) (by omega))
theorem zhw {n:Nat} (h2:2<=n):KasOk n (X5 n) (PmA n):=by
 unfold X5;have b:PmA n (K1 n).toArray:=List.Perm.refl _;refine KasOk.bind ((zjt b h2).mono λ r a=>?_);show KasOk n (if r.1 < n then _ else _) _;by_cases z:r.1 < n
 ·rw [if_pos z];exact bin_ok _ _ _ a.2.2 (by have:=a.1;omega)
 ·rw [if_neg z];exact a.2.2
mutual
noncomputable def ltD:PyData->PyData->Option Bool
 | .int i,e=>match e with
  | .int j=>some (decide (i < j))
  | _=>none
 | .tuple xs,e=>match e with
  | .tuple ys=>ltDs xs ys
  | _=>none
 | .none,_=>none
 | .bool _,_=>none
 | .str _,_=>none
 | .list _,_=>none
 | .dict _,_=>none
noncomputable def ltDs:List PyData->List PyData->Option Bool
 | [],ys=>some (decide (0 < ys.length))
 | x :: xs,ys=>match ys with
  | []=>some false
  | y :: ys=>if x=y then ltDs xs ys else ltD x y
end
theorem z1l {h:Heap} :∀{vs:List Value} {ds:List PyData} {as:List Addr},S6 h vs ds as->vs.length=ds.length
 | _,_,_,.nil=>rfl
 | _,_,_,.cons _ r=>by rw [U0,U0,z1l r]
section
variable {prog:Program} {w:W0} {E:Value->A0->Prop}
theorem int_lt {i j:Int} {a b:Tok} {A:Y1} {s:A0} {R:Value->A0->Prop} (q:R (.bool (decide (i < j))) s):V0 (E1 prog w) A (D9 .Lt (.int i a) (.int j b)) R E s:=(show V0 _ _ (N2 .Lt _ _) _ _ _ from lt_int q)
theorem tup_lt {p p2:Addr} {o o2:Obj} {xs ys:Array Value} {n n2:Nat} {A:Y1} {s:A0} {Q:Value->A0->Prop} (ho:s.heap.get? p=some o) (hc:o.cls=.type "tuple") (hd:o.data=.seq xs n) (ho2:s.heap.get? p2=some o2) (hc2:o2.cls=.type "tuple") (hd2:o2.data=.seq ys n2) (hu:A.units + 1 < cLine)
  (h:V0 (E1 prog w) A.in1 (E9 (xs.toList.zip ys.toList) ((none:Option M7),()) λ x _=>do
    let b <-eqBool x.fst x.snd
    if (!b)=true then do
     rule "tuple.compare.by-the-first-pair-that-differs"
     let r <-D9 CmpOp.Lt x.fst x.snd
     let r <-ret r
     E3 (V7 (some r,()))
    else E3 (O2 (none,()))) (λ r s'=>∃b,(r.1=some (Fin.done (Flow.ret (.bool b)))\/r.1=none/\b=decide (xs.size < ys.size))/\Q (.bool b) s') E s):V0 (E1 prog w) A (D9 .Lt (.ref p) (.ref p2)) Q E s:=by
 refine wpAny_richCompare_same_room (op:=.Lt) (T:="tuple") ⟨o,ho,hc⟩ ⟨o2,ho2,hc2⟩ F.slot_tuple_lt (j3 F.slot_tuple_lt ⟨o,ho,hc⟩ F.entry_tuple_lt ?_ (F.args_tuple_lt_2 _ _)) (by omega);refine (show V0 _ _ (j05 (.ref p2) (.type "tuple") >>= _) _ _ s from o0 (G8 (T:="tuple") ⟨o2,ho2,hc2⟩ isSubtype_tuple_tuple ?_));simp only [G7,P3,if_false];refine o0 (j03 ho hd (o0 (j03 ho2 hd2 (o0 ?_))));refine V2 h (λ r s' c=>?_) λ _ _ z=>z;obtain ⟨r,⟨⟩⟩:=r;obtain ⟨b,a,q⟩:=c;rcases a with a|⟨a,rfl⟩
 ·cases (show r=_ from a);exact G0 ⟨_,rfl,(λ z=>nomatch z),q⟩
 ·cases (show r=_ from a);exact G0 ⟨_,rfl,(λ z=>nomatch z),q⟩
mutual
theorem lt_key :∀(d e:PyData) (v z:Value) (as bs:List Addr) (b:Bool) (A:Y1) (s:A0) (Q:Value->A0->Prop),keyD d=true->keyD e=true->Reads s.heap v d as->Reads s.heap z e bs->ltD d e=some b->A.units + d.depth + 1 < cLine->Q (.bool b) s->V0 (E1 prog w) A (D9 .Lt v z) Q E s
 | .int i,e,v,z,as,bs,b,A,s,Q,_,_,r,r2,h,_,q=>by
  cases e with
  | int j=>cases r;cases r2;cases (show some (decide (i < j))=some b from h);exact int_lt q
  | _=>cases (show (none:Option Bool)=some b from h)
 | .tuple xs,e,v,z,as,bs,b,A,s,Q,hd,he,r,r2,h,c,q=>by
  cases e with
  | tuple ys=>
   cases r with
   | @tuple a o vs n _ _ h1 h2 h3 h4=>
    cases r2 with
    | @tuple a' o' vs' n' _ _ g1 g2 g3 g4=>have c:A.units + (R1 xs + 1) + 1 < cLine:=c;refine tup_lt h1 h2 h3 g1 g2 g3 (by omega) ?_;have g:=z1l h4;have f:=z1l g4;refine zin xs ys vs.toList vs'.toList _ _ b A.in1 s _ hd he h4 g4 h (show A.units + 1 + R1 xs + 1 < cLine by omega) (λ r k=>⟨b,k.imp id (λ z=>⟨z.1,?_⟩),q⟩);rw [z.2,<-g,<-f,T2,T2]
  | _=>cases (show (none:Option Bool)=some b from h)
 | .none,_,_,_,_,_,_,_,_,_,hk,_,_,_,_,_,_=>by cases hk
 | .bool _,_,_,_,_,_,_,_,_,_,hk,_,_,_,_,_,_=>by cases hk
 | .str _,_,_,_,_,_,_,_,_,_,hk,_,_,_,_,_,_=>by cases hk
 | .list _,_,_,_,_,_,_,_,_,_,hk,_,_,_,_,_,_=>by cases hk
 | .dict _,_,_,_,_,_,_,_,_,_,hk,_,_,_,_,_,_=>by cases hk
theorem zin :∀(ds es:List PyData) (vs us:List Value) (as bs:List Addr) (b:Bool) (A:Y1) (s:A0) (R:Option M7×Unit->A0->Prop),keyDs ds=true->keyDs es=true->S6 s.heap vs ds as->S6 s.heap us es bs->ltDs ds es=some b->A.units + R1 ds + 1 < cLine->
  (∀r,(r=some (Fin.done (Flow.ret (.bool b)))\/r=none/\b=decide (ds.length < es.length))->R (r,()) s)->
  V0 (E1 prog w) A (E9 (vs.zip us) ((none:Option M7),()) λ x _=>do
    let b <-eqBool x.fst x.snd
    if (!b)=true then do
     rule "tuple.compare.by-the-first-pair-that-differs"
     let r <-D9 CmpOp.Lt x.fst x.snd
     let r <-ret r
     E3 (V7 (some r,()))
    else E3 (O2 (none,()))) R E s
 | [],es,vs,us,as,bs,b,A,s,R,_,_,r,_,h,_,q=>by cases r;rw [List.zip_nil_left,A5];cases (show some (decide (0 < es.length))=some b from h);exact G0 (q none (.inr ⟨rfl,rfl⟩))
 | d :: ds,es,vs,us,as,bs,b,A,s,R,c,a,r,r2,h,f,q=>by
  cases es with
  | nil=>cases r2;rw [List.zip_nil_right,A5];cases (show some false=some b from h);exact G0 (q none (.inr ⟨rfl,rfl⟩))
  | cons e es=>
   have c:=Bool.and_eq_true_iff.mp (show (keyD d && keyDs ds)=true from c);have a:=Bool.and_eq_true_iff.mp (show (keyD e && keyDs es)=true from a);have f:A.units + max d.depth (R1 ds) + 1 < cLine:=f;cases r with
   | @cons v vs _ _ as as' a1 a2=>
    cases r2 with
    | @cons u us _ _ bs bs' b1 b2=>
     have h:(if d=e then ltDs ds es else ltD d e)=some b:=h;rw [z9,M5];refine o0 (o0 (S9 d e A s v u as bs a1 b1 (z5n d c.1) (z5n e a.1) (by have:=C8 d.depth e.depth;omega) prog w E _ ?_));rw [zdu (p:=d=e) (z2i d c.1) (z2i e a.1) Iff.rfl];by_cases z:d=e
     ·rw [if_pos z] at h;rw [decide_eq_true z];simp only [G7,P3,if_false];refine G0 (zin ds es vs us as' bs' b A s R c.2 a.2 a2 b2 h (by omega) λ r g=>q r (g.imp id λ y=>⟨y.1,y.2.trans (by simp)⟩))
     ·rw [if_neg z] at h;rw [decide_eq_false z];simp only [Bool.not_false,if_true];exact o0 (j04 (o0 (lt_key d e v u as bs b A s _ c.1 a.1 a1 b1 h (by omega) (o0 (G0 (G0 (G0 (q _ (.inl rfl)))))))))
end
end
noncomputable def nsE (k:PyData×Addr):DictEntry:={ hash:=hashD k.1,key:=.ref k.2,val:=.bool true }
noncomputable def NsO (a:Addr) (ks:List (PyData×Addr)):HO:=.ext λ h=>(a == F3)=false/\ks.length<=sizeLine/\(ks.map (·.1)).Nodup/\∃ep,DcAt h a (ks.map nsE).toArray ep
def NsAt (K:d0) (H:Hp) (a:Addr) (ks:List (PyData×Addr)):Prop:=Rd H a (NsO a ks)/\∀k∈ks,keyD k.1=true/\k.1.depth<=7/\IsPd K H k.1 (.ref k.2)
noncomputable def putN (ks:List (PyData×Addr)) (d:PyData) (b:Addr):List (PyData×Addr):=if d∈ks.map (·.1) then ks else ks++[(d,b)]
section
variable {X:Cx} {pins:List (Addr×Obj)} {σ:St} {H:Hp} {s:A0} {a b:Addr} {ks:List (PyData×Addr)} {d:PyData} {A:Y1} {E:Value->A0->Prop}
theorem ns_is (I:Inv X pins σ H s) (hk:keyD d=true) (hd:d.depth<=7) (h:IsPd X.K H d (.ref b)):(z7z X.prog X.w).is s.heap d b:=by obtain ⟨a,r⟩:=z2k I d (.ref b) (.ref b) h rfl;exact ⟨hk,hd,a,r⟩
theorem zfl (I:Inv X pins σ H s) (h:NsAt X.K H a ks):(a == F3)=false/\ks.length<=sizeLine/\(ks.map (·.1)).Nodup/\(∃ep,DcAt s.heap a (ks.map nsE).toArray ep)/\s.heap.DictOfH (z7z X.prog X.w) a (ks.map λ k=>(k.1,k.2,L4 true)):=by
 obtain ⟨q,i⟩:=h;obtain ⟨⟨e,g,c,ep,b⟩,_⟩:=(show ObjOk X.prog X.w H s.heap a (NsO a ks) from q.ok I.hok)
 refine ⟨e,g,c,⟨ep,b⟩,?_⟩;obtain ⟨o,p,n,l⟩:=b;refine ⟨o,_,ep,p,n,l,?_,λ x d=>?_,?_⟩
 ·rw [R3];rfl
 ·obtain ⟨k,m,rfl⟩:=List.mem_map.mp d;obtain ⟨r,j,f⟩:=i k m;exact ns_is I r j f
 ·rw [R3];exact c
theorem at_ns:(L8 (ks.map λ k=>(k.1,k.2,L4 true)) d).isSome=decide (d∈ks.map (·.1)):=by
 unfold L8;rw [b7,Bool.eq_iff_iff,List.find?_isSome,decide_eq_true_iff];constructor
 ·rintro ⟨x,hx,e⟩;obtain ⟨k,a,rfl⟩:=List.mem_map.mp hx;exact List.mem_map.mpr ⟨k,a,of_decide_eq_true e⟩
 ·intro h;obtain ⟨k,a,e⟩:=List.mem_map.mp h;exact ⟨_,List.mem_map.mpr ⟨k,a,rfl⟩,decide_eq_true e⟩
theorem zg8:storedH (ks.map λ k=>(k.1,k.2,L4 true)) d b (.bool true)=(putN ks d b).map λ k=>(k.1,k.2,L4 true):=by
 unfold storedH putN;rw [at_ns];by_cases z:d∈ks.map (·.1)
 ·rw [if_pos (decide_eq_true z),if_pos z,R3];refine List.map_congr_left λ k a=>?_;show putAt d (.bool true) (k.1,k.2,L4 true)=_;unfold putAt;split<;>rfl
 ·rw [if_neg (by rw [decide_eq_false z];decide),if_neg z,B2];rfl
theorem zb1:(putN ks d b).length<=ks.length + 1:=by
 unfold putN;split
 ·omega
 ·rw [M0];exact B0 _
theorem ns_put {Q:Unit->A0->Prop} (hu:A.units + 9 < cLine) (I:Inv X pins σ H s) (ha:H a=some (NsO a ks)) (h:NsAt X.K H a ks) (hl:ks.length < sizeLine) (hk:keyD d=true) (hd:d.depth<=7) (hb:IsPd X.K H d (.ref b)) (q :∀s',Inv X pins σ (upd H a (NsO a (putN ks d b))) s'->Q () s'):V0 (E1 X.prog X.w) A (setItem (.ref a) (.ref b) (.bool true)) Q E s:=by
 obtain ⟨x,m,M,_,u⟩:=zfl I h;refine wpAny_setItem_heap (knd:=z7z X.prog X.w) (hsz:=by rw [K0];exact m) (show A.units + 1 + 8 < cLine by omega) (ns_is I hk hd hb) u λ G f t=>q _ ?_;rw [zg8] at f;obtain ⟨o,y,D,c,r,n,B,_,g⟩:=f;have l:y=((putN ks d b).map nsE).toArray:=by apply Array.ext';rw [B,R3];rfl
 subst l;refine zaa I (by rw [ha];exact True.intro) t ⟨o,c⟩ ⟨⟨x,by have:=zb1 (ks:=ks) (d:=d) (b:=b);omega,?_,D,o,c,r,n⟩,⟨o,c⟩,λ L J p k=>?_⟩
 ·rw [R3] at g;exact g
 ·obtain ⟨F,v,C,j,e,z,i⟩:=p;exact ⟨F,v,C,j,e,k e z,i⟩
end
noncomputable def tDNewN:TE:=λ _ H Q=>∀p,H p=none->Q (.ref p) (upd H p (NsO p []))
noncomputable def rInN (K:d0) (neg:Bool):R2:=λ y x H Q=>∃a b ks d,x=.ref a/\y=.ref b/\NsAt K H a ks/\keyD d=true/\d.depth<=7/\IsPd K H d (.ref b)/\Q (.bl (xor neg (decide (d∈ks.map (·.1))))) H
noncomputable def sNPut (K:d0) (td ty tv:TE):TS:=λ D σ H=>tv σ H λ v H1=>td σ H1 λ x H2=>ty σ H2 λ y H3=>∃a b ks d,v=.bl true/\x=.ref a/\y=.ref b/\H3 a=some (NsO a ks)/\NsAt K H3 a ks/\ks.length < sizeLine/\keyD d=true/\d.depth<=7/\IsPd K H3 d (.ref b)/\D.nx σ (upd H3 a (NsO a (putN ks d b)))
section
variable {X:Cx}
theorem zji {P:Program} {w:W0} {H:Hp} (h:Heap) (hb:F3 < h.objs.size):ObjOk P w H (h.push { cls:=.type "dict",data:=.dict #[] }) h.objs.size (NsO h.objs.size []):=by refine ⟨⟨beq_eq_false_iff_ne.mpr (V3 (F1 hb)),U1 _,List.nodup_nil,0,_,A1 _ rfl,⟨rfl,rfl,rfl⟩,rfl⟩,⟨_,A1 _ rfl⟩,λ j i p k=>?_⟩;obtain ⟨f,c,e,b,a,g,d⟩:=p;exact ⟨f,c,e,b,a,k a g,d⟩
theorem ze9 {pos:Pos}:PE X (.Dict [] [] pos) tDNewN:=λ b s σ H Q I h=>wpAny_Dict_empty ⟨.ref s.heap.objs.size,_,I.laid (a:=s.heap.objs.size) (o:=NsO s.heap.objs.size []) (t':=s.toks) (λ _ _ q=>F0 _ q) (B0 _) (zji s.heap I.big),rfl,h _ (I.hok.fresh (B0 _))⟩
theorem op_inN {k:Nat} (hr:Room k X.A):OpR X (N2 .In) (rInN X.K false):=by intro t s σ H y x u v Q I l c h;obtain ⟨a,b,o,d,rfl,rfl,m,g,f,e,q⟩:=h;cases l;cases c;have r:=hr.units;obtain ⟨j,n,p,_,i⟩:=zfl I m;refine wpAny_in_heap (knd:=z7z X.prog X.w) (show X.A.units + 1 + 8 < cLine by omega) (ns_is I g f e) j i ?_;rw [at_ns];rw [Bool.false_xor] at q;exact ⟨.bl _,H,I.tok _,rfl,q⟩
theorem zj4 {o i value:Expr} {pos pos':Pos} {td ty tv:TE} {k:Nat} (hr:Room k X.A) (ho:PE X o td) (hi:PE X i ty) (hv:PE X value tv) (hs:F6 value (some (.Subscript o i pos')) pos.line X.env=E3 false) :
  PS X (.Assign [.Subscript o i pos'] value pos) (sNPut X.K td ty tv):=by
 intro c s σ H D I h;refine wpAny_Assign_Subscript (thn (hv c s σ H _ I h) λ r e ⟨v,H1,I1,rv,q1⟩=>thn (ho c e σ H1 _ I1 q1) λ u g ⟨x,H2,I2,rx,q2⟩=>thn (hi c g σ H2 _ I2 q2) λ j n ⟨y,H3,I3,ry,a,b,ks,d,ev,ex,ey,h0,h1,h2,h3,h4,h5,q3⟩=>?_) hs;subst ev ex ey;obtain rfl:u=Value.ref a:=rx;obtain rfl:j=Value.ref b:=ry;obtain rfl:r=L4 true:=rv;have m:=hr.units;exact ns_put (by omega) I3 h0 h1 h2 h3 h4 h5 λ l f=>⟨σ,_,f,q3⟩
end
noncomputable def cmpD (ds:List PyData) (i j:Nat):Bool:=(ltD (ds.getD i .none) (ds.getD j .none)).getD false
noncomputable def srtD (ds:List PyData):List Nat:=if ds.length < 2 then K1 ds.length else ((kasRun (cmpD ds) ds.length (X5 ds.length)).getD #[]).toList
theorem z8e (ds:List PyData):(srtD ds).Perm (K1 ds.length):=by
 unfold srtD;split
 ·exact List.Perm.refl _
 ·obtain ⟨p,a,b⟩:=(zhw (n:=ds.length) (by omega)).run (cmpD ds);rw [a];exact b
def TupD (h:Heap) (v:Value) (d:PyData):Prop:=keyD d=true/\d.depth<=7/\(∃xs ys,d=.tuple (.tuple xs :: ys))/\∃as,Reads h v d as
theorem TupD.kept {h h':Heap} {v:Value} {d:PyData} {c:Addr} {oc:Obj} (q:TupD h v d) (e:h.get? c=some oc) (nc:oc.cls≠.type "tuple") (k :∀b o,b≠c->h.get? b=some o->h'.get? b=some o):TupD h' v d:=by obtain ⟨g,l,j,f,m⟩:=q;exact ⟨g,l,j,f,z8c (λ b o p n a i _=>k b o (λ z=>by rw [z,e] at a;cases a;exact nc i) a) d v f g m⟩
section
variable {prog:Program} {w:W0} {A:Y1} {E:Value->A0->Prop} {s:A0}
theorem ziu :∀(ds es:List PyData) (vs us:List Value) (as bs:List Addr) (i:Nat) (b fin:Bool) (Q:Bool->A0->Prop),keyDs ds=true->keyDs es=true->S6 s.heap vs ds as->S6 s.heap us es bs->ltDs ds es=some b->fin=decide (ds.length < es.length)->A.units + R1 ds + 1 < cLine->Q b s->PySem.W.KatLex prog w A false fin Q (vs.zip us) i s
 | [],es,vs,us,as,bs,i,b,fin,Q,_,_,r,_,h,hf,_,q=>by cases r;rw [List.zip_nil_left];cases (show some (decide (0 < es.length))=some b from h);exact PySem.W.kat_nil (by rw [hf];exact q)
 | d :: ds,es,vs,us,as,bs,i,b,fin,Q,a,c,r,r2,h,hf,f,q=>by
  cases es with
  | nil=>cases r2;rw [List.zip_nil_right];cases (show some false=some b from h);exact PySem.W.kat_nil (by rw [hf];exact q)
  | cons e es=>
   have a:=Bool.and_eq_true_iff.mp (show (keyD d && keyDs ds)=true from a);have c:=Bool.and_eq_true_iff.mp (show (keyD e && keyDs es)=true from c);have f:A.units + max d.depth (R1 ds) + 1 < cLine:=f;cases r with
   | @cons v vs _ _ as as' a1 a2=>
    cases r2 with
    | @cons u us _ _ bs bs' b1 b2=>
     have h:(if d=e then ltDs ds es else ltD d e)=some b:=h;rw [z9];refine PySem.W.kat_cons (S9 d e A s v u as bs a1 b1 (z5n d a.1) (z5n e c.1) (by have:=C8 d.depth e.depth;omega) prog w _ _ ?_);rw [zdu (p:=d=e) (z2i d a.1) (z2i e c.1) Iff.rfl];by_cases z:d=e
     ·rw [if_pos z] at h;rw [decide_eq_true z];exact PySem.W.kat_yes (ziu ds es vs us as' bs' (i + 1) b fin Q a.2 c.2 a2 b2 h (by rw [hf];simp) (by omega) q)
     ·rw [if_neg z] at h;rw [decide_eq_false z];refine PySem.W.kat_no ?_;rw [oneLt'_eq];simp only [V6,P3,if_false];exact o0 (lt_key d e v u as bs b A s _ a.1 c.1 a1 b1 h (by omega) (G0 q))
theorem zkv {v z:Value} {d e:PyData} {b:Bool} {Q:Bool->A0->Prop} (hx:TupD s.heap v d) (hy:TupD s.heap z e) (h:ltD d e=some b) (hu:A.units + 9 < cLine) (q:Q b s):V0 (E1 prog w) A (keyLt' (tuples' false) v z) Q E s:=by
 obtain ⟨k,c,⟨j,i,rfl⟩,r,l⟩:=hx;obtain ⟨g,p,⟨t,m,rfl⟩,bs,f⟩:=hy;cases l with
 | @tuple a o vs n _ _ e1 e2 e3 e4=>
  cases f with
  | @tuple a' o' vs' n' _ _ f1 f2 f3 f4=>have c:R1 (.tuple j :: i) + 1<=7:=c;refine PySem.W.kat_lt e1 e3 f1 f3 (ziu _ _ _ _ _ _ 0 b _ Q k g e4 f4 h ?_ (by omega) q);rw [<-z1l e4,<-z1l f4,T2,T2]
theorem zfd {h:Heap} :∀{vs:List Value} {ds:List PyData},All2 (λ v d=>TupD h v d) vs ds->∃fs,PySem.W.KatTups h vs fs/\fs.length=vs.length/\∀f∈fs,PySem.W.Looks (E1 prog w) h (typeOf f) (.type "tuple")
 | _,_,.nil=>⟨[],trivial,rfl,λ _ h=>absurd h C0⟩
 | _,_,.cons a r=>by
  obtain ⟨fs,j,e,c⟩:=zfd r;obtain ⟨_,_,⟨u,p,rfl⟩,t,m⟩:=a;cases m with
  | @tuple a o vs n _ _ e1 e2 e3 e4=>
   generalize hl:vs.toList=l at e4;cases e4 with
   | @cons f l _ _ _ _ r1 r2=>
    have i:vs[0]? = some f:=by rw [<-A8,hl];rfl
    refine ⟨f :: fs,PySem.W.KatTups.cons e1 e2 e3 i j,by rw [U0,U0,e],λ g b=>?_⟩;rcases List.mem_cons.mp b with rfl|b
    ·cases r1 with
     | tuple g1 g2 g3 g4=>exact λ A Q E s k q=>i7 (T:="tuple") ⟨_,k _ _ g1,g2⟩ q
    ·exact c g b
theorem zgd {a:Addr} {vs:List Value} {ds:List PyData} {n0:Nat} {P:M7->A0->Prop} (ho:s.heap.get? a=some (X6 "list" vs.toArray n0)) (l64:vs.length < 64) (al:All2 (λ v d=>TupD s.heap v d) vs ds) (nd:ds.Nodup) (cm :∀d∈ds,∀e∈ds,d≠e->(ltD d e).isSome=true) (hu:A.units + 9 < cLine)
  (h :∀(h':Heap) (e:Nat),(∀b o,b≠a->s.heap.get? b=some o->h'.get? b=some o)->h'.get? a=some (X6 "list" ((srtD ds).map λ i=>vs.getD i X2).toArray e)->P (.done (.ret .none)) { s with heap:=h' }) :
  V0 (E1 prog w) A (C7.«list.sort» ⟨[.ref a],[]⟩) P E s:=by
 have F:ds.length=vs.length:=z05 al;have la:a < s.heap.objs.size:=Q0 ho;have sz:vs.length<=sizeLine:=D0 (d3 l64) (by decide);obtain ⟨D,X⟩ :∃D,(s.heap.update a (C5 λ _=>(#[]:Array Value))).get? a=some (X6 "list" #[] D):=⟨_,get?_update_seq ho λ _=>#[]⟩
 rw [list_sort_plain];refine o0 (listItems_at ho rfl (o0 (listUpdate_at ho rfl (o0 (seqEpoch_at X rfl (o0 (wpAny_newTuple (o0 (X9 (i4 ?_) (U1 _))) (by simpa using sz))))) (by simpa using sz) (U1 _))));dsimp only;generalize hh3:((s.heap.update a (C5 λ _=>(#[]:Array Value))).push (X6 "tuple" vs.toArray 0)).push (X6 "list" #[] 0)=h3;have s1:=T4 s.heap a (C5 λ _=>(#[]:Array Value));have H :∀b o,b≠a->s.heap.get? b=some o->h3.get? b=some o:=λ b o n e=>by rw [<-hh3];exact F0 _ (F0 _ ((s1.2 b n).trans e))
 have r:h3.get? a=some (X6 "list" #[] D):=by rw [<-hh3];exact F0 _ (F0 _ X)
 have L:All2 (λ v k=>TupD h3 v k) vs ds:=z02 (λ _ _ z=>z.kept ho (show Q6 "list"≠.type "tuple" by decide) H) al;have R :∀(l:Array Value),l=((srtD ds).map λ i=>vs.getD i X2).toArray->P (.done (.ret .none)) { s with heap:=h3.update a (C5 λ _=>l) }:=λ l g=>by
  obtain ⟨G,M⟩ :∃G,(h3.update a (C5 λ _=>l)).get? a=some (X6 "list" l G):=⟨_,get?_update_seq r λ _=>l⟩
  rw [g] at M⊢;exact h _ G (λ b o n e=>(d8 _ _ (V3 n)).trans (H b o n e)) M
 have N:((srtD ds).map λ i=>vs.getD i X2).toArray.size<=sizeLine + 1:=by rw [P0,K0,(z8e ds).length_eq,W1,F];exact D0 sz (M3 _)
 by_cases f:vs.toArray.size < 2
 ·rw [if_pos f];have K:vs.length < 2:=by simpa using f
  have m:(K1 vs.length).map (λ i=>vs.getD i X2)=vs:=by
   apply j6
   ·simp
   ·intro i h1 f;simp [E2,N0 f]
  have B:srtD ds=K1 vs.length:=by unfold srtD;rw [if_pos (by omega),F]
  refine o0 (G0 ?_);rw [if_pos f];refine (show V0 _ _ (E3 ((),SortSt.mk' general' (vs.toArray.zip vs.toArray) #[] 7 none) >>= _) _ _ _ from o0 (G0 ?_));dsimp only;have g:j28 (λ x=>x.snd) (arrOf (SortSt.mk' general' (vs.toArray.zip vs.toArray) #[] 7 none))=((srtD ds).map λ i=>vs.getD i X2).toArray:=by
   rw [B,m];show j28 (λ x=>x.snd) (vs.toArray.zip vs.toArray)=vs.toArray;apply Array.ext
   ·simp
   ·intro i h1 f;simp
  refine o0 (seqEpoch_at r rfl (o0 (listUpdate_at r rfl ?_ (U1 _) ?_)))
  ·simp only [bne_self_eq_false,P3,if_false];exact G0 (R _ g)
  ·rw [g];exact N
 ·rw [if_neg f];have K:2<=vs.length:=by simpa using Nat.not_lt.mp f
  obtain ⟨fs,kt,lf,Z⟩:=zfd (prog:=prog) (w:=w) L;refine o0 (PySem.W.kat_kind (T:=.type "tuple") kt (by omega) Z (by decide) ?_);rw [if_neg f];obtain ⟨p,m,pp⟩:=(zhw (n:=ds.length) (by omega)).run (cmpD ds);have B:srtD ds=p.toList:=by unfold srtD;rw [if_neg (by omega),m];rfl
  rw [F] at m;rw [show (Q6 "tuple" != Q6 "tuple")=false by decide];have I :∀i,i < vs.length->TupD h3 (vs.getD i X2) (ds.getD i .none):=λ i y=>by have S:ds[i]? = some (ds[i]'(by omega)):=N0 (by omega);obtain ⟨v,hv,z⟩:=z0e L S;rw [E2,E2,hv,S];exact z
  have U :∀i,i < vs.length->ds.getD i .none∈ds:=λ i y=>by rw [E2,N0 (show i < ds.length by omega)];exact i6 _
  have a5:(X5 vs.length).kasWp (PySem.W.kas_ask prog w A (tuples' false) vs) (λ O t=>t={ s with heap:=h3 }/\O=p) { s with heap:=h3 }:=zcd (c:=cmpD ds) (n:=vs.length) (λ i j C y Y ne q=>by
   have a0:ds.getD i .none≠ds.getD j .none:=λ e=>ne (by rw [E2,E2,N0 (show i < ds.length by omega),N0 (show j < ds.length by omega)] at e;exact (j01 nd).mp e);obtain ⟨b,J⟩:=Option.isSome_iff_exists.mp (cm _ (U i y) _ (U j Y) a0);unfold cmpD at q;rw [J] at q;exact zkv (s:={ s with heap:=h3 }) (I i y) (I j Y) J hu q) (X5 vs.length) p m ⟨rfl,rfl⟩
  refine o0 (V2 (PySem.W.kat_run (κ:=tuples' false) (ks:=vs) (vs:=vs) (Q:=λ u t=>t={ s with heap:=h3 }/\failedOf u=none/\j28 (λ x=>x.snd) (arrOf u)=(p.toList.map λ i=>vs.getD i X2).toArray) rfl K (by omega) (λ O u t a1 a2 a3 V=>⟨V.1,a3,by rw [<-V.2];exact PySem.W.kat_snds rfl a2⟩) a5) ?_ λ _ _ z=>z);rintro ⟨⟨⟩,u⟩ t ⟨rfl,hf,g⟩;rw [<-B] at g;dsimp only at hf g⊢;refine o0 (seqEpoch_at r rfl (o0 (listUpdate_at r rfl ?_ (U1 _) ?_)))
  ·rw [hf];simp only [bne_self_eq_false,P3,if_false];exact G0 (R _ g)
  ·rw [g];exact N
end
section
variable {X:Cx}
theorem zbg {k:Nat} (hr:Room k X.A):CallR X (.builtin "sorted") (λ xs H Q=>∃a ks,xs=[.ref a]/\NsAt X.K H a ks/\ks.length < 64/\(∀k∈ks,∃xs ys,k.1=.tuple (.tuple xs :: ys))/\(∀k∈ks,∀k'∈ks,k.1≠k'.1->(ltD k.1 k'.1).isSome=true)/\
  ∀l:Addr,H l=none->Q (.ref l) (upd H l (.lst ((srtD (ks.map (·.1))).map λ i=>V.ref (ks.getD i (.none,0)).2)))):=by
 intro a0 s σ H xs us Q I rv h;obtain ⟨a,ks,rfl,P,F,tt,cm,q⟩:=h;obtain ⟨u,rfl,Z⟩:=vals1 rv;cases Z;have a1:=hr.units;obtain ⟨g1,M,g3,⟨ep,g4⟩,_⟩:=zfl I P;have C:(ks.map nsE).toArray.size=ks.length:=by rw [P0,K0]
 refine c7 kind_sorted plain_sorted entry_sorted (args_sorted1 _) ?_;unfold C7.«sorted»;refine o0 (m:=checkCount "sorted" 1 1 _) (G0 (o0 (j30 (kdl_dc g1) (show X.A.in1.handled=none from hr.hd) g4 (by rw [C];exact M) λ c t L k1 D=>?_)));have ea:L.toList=ks.map λ k=>Value.ref k.2:=by
  apply B7;intro j;by_cases g:j < ks.length
  ·have R:j < L.size:=by rw [D.1,C];exact g
   obtain ⟨e,O,e2⟩:=D.2 j _ (G2 R);rw [A8,G2 R,X0,e2];rw [j3e,X0,N0 g] at O;rw [N0 g];cases O;rfl
  ·rw [O3 (by rw [T2,D.1,C];omega),O3 (by rw [K0];omega)]
 rw [ea];have B:Inv X a0 σ H { s with heap:=c,toks:=t }:=I.kept (t':=t) k1;have G:(c.push (X6 "list" (ks.map λ k=>Value.ref k.2).toArray 0)).get? c.objs.size=some (X6 "list" (ks.map λ k=>Value.ref k.2).toArray 0):=A1 _ rfl;have al :∀(h:Heap),(∀b o,c.get? b=some o->h.get? b=some o)->∀l:List (PyData×Addr),(∀k∈l,k∈ks)->All2 (λ v d=>TupD h v d) (l.map λ k=>Value.ref k.2) (l.map (·.1)):=λ h y l=>by
  induction l with
  | nil=>intro _;exact .nil
  | cons k l ih=>intro f;obtain ⟨S,n2,T⟩:=P.2 k (f k C1);obtain ⟨U,r⟩:=z2k B k.1 (.ref k.2) (.ref k.2) T rfl;exact .cons ⟨S,n2,tt k (f k C1),U,z8c (λ b o vs n e _ _=>y b o e) _ _ _ S r⟩ (ih λ x hx=>f x (Y0 _ hx))
 have N:(ks.map λ k=>Value.ref k.2).length=ks.length:=K0 ..;refine o0 (X9 (o0 (i4 (j3 j37 ⟨_,G,rfl⟩ j2b (zgd (s:={ s with heap:=c.push (X6 "list" (ks.map λ k=>Value.ref k.2).toArray 0),toks:=t }) (ds:=ks.map (·.1)) G (by rw [N];exact F) (al _ (λ b o e=>F0 _ e) ks λ _ h=>h) g3 (λ d hd e he ne=>?_) (show X.A.units + 1 + 1 + 9 < cLine by omega) λ Y e y f=>⟨_,rfl,?_⟩) (j39 _)))) (by rw [N];exact D0 (d3 F) (by decide)))
 ·obtain ⟨k,hk,rfl⟩:=List.mem_map.mp hd;obtain ⟨k',W,rfl⟩:=List.mem_map.mp he;exact cm k hk k' W ne
 have k2 :∀b o,c.get? b=some o->Y.get? b=some o:=λ b o z=>y b o (F1 (Q0 z)) (F0 _ z);have w:=z8e (ks.map (·.1));rw [K0] at w;have vg :∀p:List Nat,(∀i∈p,i < ks.length)->Vals (p.map λ i=>V.ref (ks.getD i (.none,0)).2) (p.map λ i=>(ks.map λ k=>Value.ref k.2).getD i X2):=by
  intro p;induction p with
  | nil=>intro _;exact .nil
  | cons i p ih=>intro J;refine .cons ?_ (ih λ j g=>J j (.tail _ g));have E:=J i (.head _);show RelV (V.ref (ks.getD i (.none,0)).2) ((ks.map λ k=>Value.ref k.2).getD i X2);rw [E2,E2,X0,N0 E];rfl
 refine G0 ⟨_,rfl,.ref c.objs.size,_,B.laid (t':=t) (o:=.lst ((srtD (ks.map (·.1))).map λ i=>V.ref (ks.getD i (.none,0)).2)) k2 (B0 _) ⟨?_,_,e,vg _ (λ i E=>List.mem_range.mp (w.mem_iff.mp E)),f⟩,rfl,q _ (B.hok.fresh (B0 _))⟩;rw [K0,w.length_eq,W1];exact M
end
noncomputable def ItRv (a:Addr) (n:Nat):It:=
 ⟨λ i H=>i < n/\∃xs,H a=some (.lst xs)/\xs.length=n,λ i H x H'=>H'=H/\∀xs,H a=some (.lst xs)->xs[n - 1 - i]? = some x,λ i H=>i=n⟩
theorem zjo {P:Program} {w:W0} {K:d0} {tg:Expr} (a it:Addr) (n:Nat):Turn P w K tg (ItRv a n) [it] it (λ i h=>h.IsRevIter it a ((n:Int) - 1 - (i:Nat))) where
 mem:=by simp
 obj:=λ i h f b g=>by
  obtain rfl:b=it:=by simpa using g
  obtain ⟨o,e,c,d⟩:=f;exact ⟨o,e,λ v z=>by rw [d] at z;cases z⟩
 keep:=λ i h j f k=>by obtain ⟨o,e,r⟩:=f;exact ⟨o,k it (by simp) o e,r⟩
 item:=by
  intro X q F A J i O s σ H E I m f l;subst q F A;obtain ⟨hi,L,M,Z⟩:=l;obtain ⟨Y,N,p,hz⟩:=I.list (SqL.of M);obtain ⟨D,C,Q,y,B,t⟩:=m it (by simp);have hl:=N.length;have lt:n - 1 - i < L.length:=by omega
  obtain ⟨u,V,R⟩:=N.get (N0 lt);rw [show (n:Int) - 1 - (i:Nat)=((n - 1 - i:Nat):Int) by omega] at f;refine wpAny_pyNext_rev_item f p.isList (by simpa using V) λ j x T=>?_;have U:Inv X O σ H { s with heap:=j }:=I.turned (t':=s.toks) (λ b o g e=>(T.2 b g).trans e) D C y B t;obtain ⟨o,e,c,d⟩:=id x;rw [show ((n - 1 - i:Nat):Int) - 1=(n:Int) - 1 - ((i + 1:Nat):Int) by omega] at x;refine ⟨_,rfl,go_of (s:={ s with heap:=j }) e c d (by decide) ⟨L[n - 1 - i],H,U,R,⟨rfl,λ W G=>?_⟩,x,λ b g=>(m b g).1⟩⟩;rw [M] at G;cases G;exact N0 lt
 done:=by intro X q F A J i O s σ H E I m f l;subst q F A;obtain ⟨D,C,Q,y,B,t⟩:=m it (by simp);have l:i=n:=l;rw [show (n:Int) - 1 - (i:Nat)=-1 by omega] at f;exact wpAny_pyNext_rev_end (I.ok.hd J) f λ j S=>⟨rfl,I.turned (t':=s.toks) (λ b o g e=>S b o g e) D C y B t⟩
 self:=λ _ _ _ _ _ f h=>wpAny_pyIter_revIter f h
noncomputable def iRevL (tl:TE):TI:=λ σ H R=>tl σ H λ x H1=>∃a xs,x=.ref a/\H1 a=some (.lst xs)/\R (ItRv a xs.length) H1
theorem zl9 {X:Cx} {tg e:Expr} {te:TE} {p2 c2:Pos} (g2:Gl X "reversed") (m2:X.mg "reversed" = none) (ha:PE X e te) (he:B1 [e] X.env=[(false,m3 e X.env)]:=by rfl):PI X tg (.Call (.Name "reversed" p2) [e] [] c2) (iRevL te):=by
 intro l s σ H R I h;refine Call_ (ld_blt I g2 m2 boot_reversed (A3 ?_ he rfl));rw [he];refine (show V0 _ _ (spliced ((false,m3 e X.env) :: [])) _ _ s from O5 (thn (ha l s σ H _ I h) λ u c ⟨x,H1,I1,r1,a,xs,ex,sq,q⟩=>?_));subst ex;cases r1;refine g7 ?_;obtain ⟨d,k,j,m⟩:=I1.list (SqL.of sq);have g:=k.length;refine call_reversed_list j.isList ?_;have f:(c.heap.push (revObj a ((d.toArray.size:Int) - 1))).IsRevIter c.heap.objs.size a ((d.toArray.size:Int) - 1):=⟨_,A1 _ rfl,rfl,rfl⟩
 refine wpAny_pyIter_revIter f ?_;refine ⟨c.heap.objs.size,[c.heap.objs.size],_,_,H1,rfl,I1.kept (t':=c.toks) λ b o e=>F0 _ e,zjo a _ _,?_,λ b i=>?_,q⟩
 ·rw [show (xs.length:Int) - 1 - ((0:Nat):Int)=(d.toArray.size:Int) - 1 by rw [P0,<-g];omega];exact f
 obtain rfl:b=c.heap.objs.size:=by simpa using i
 exact I1.fpOk (B0 _) (I1.hok.fresh (B0 _))
theorem zll {a:Addr} {xs:List V} {g:TG} {tb:TS} {D:Ends} {σ:St} {H:Hp} (Pv:Nat->St->Hp->Prop) (h0:Pv 0 σ H) (hl :∀i σ H,Pv i σ H->H a=some (.lst xs))
  (hs :∀i x σ H,xs.reverse[i]? = some x->Pv i σ H->g x σ H λ σ2 H2=>tb { D with nx:=Pv (i + 1),ct:=Pv (i + 1),bk:=D.nx } σ2 H2) (hd :∀σ H,Pv xs.length σ H->D.nx σ H) :
  ∃W:Nat->Nat->St->Hp->Prop,(∃m,W 0 m σ H)/\∀i m σ H,W i m σ H->
   ((ItRv a xs.length).stop i H/\D.nx σ H)\/((ItRv a xs.length).go i H/\∃N:St->Hp->Prop,(∀σ' H',N σ' H'->∃m',m' < m/\W (i + 1) m' σ' H')/\∀x H',(ItRv a xs.length).yld i H x H'->g x σ H' λ σ2 H2=>tb { D with nx:=N,ct:=N,bk:=D.nx } σ2 H2):=by
 refine ⟨λ i m σ H=>m=xs.length - i/\i<=xs.length/\Pv i σ H,⟨xs.length,by simp,U1 _,h0⟩,?_⟩;rintro i m σ H ⟨rfl,hi,p⟩;have q:=hl i σ H p;by_cases hlt:i < xs.length
 ·refine .inr ⟨⟨hlt,xs,q,rfl⟩,Pv (i + 1),λ σ' H' b=>⟨xs.length - (i + 1),by omega,rfl,hlt,b⟩,λ x H' y=>?_⟩;obtain ⟨rfl,y⟩:=y;refine hs i x σ _ ?_ p;rw [List.getElem?_reverse hlt];exact y xs q
 ·obtain rfl:i=xs.length:=by omega
  exact .inl ⟨rfl,hd σ H p⟩
end L2
set_option maxHeartbeats 400000
namespace L2
open PySem PySem.Spec PyProof.Rows
section
variable {X:Cx}
theorem ze4 {o e:Expr} {es:List Expr} {to:TE} {t:TA} {apos cpos:Pos} (ho:PE X o to) (ha:PA X (e :: es) t)
  (hbase:G4 o "extend" X.env (m3 o X.env)=m3 o X.env:=by rfl)
  (hfew:((Q3 cpos (B1 (e :: es) X.env)).all (λ x=>!x.1) && (K8 cpos (c6 [] X.env)).all (λ x=>x.1.isSome) && decide ((e :: es).length + ([]:List N5).length + (if ([]:List N5).isEmpty then 0 else 1) < 30))=true:=by rfl)
  (hline:(apos.endLine == cpos.line)=true:=by rfl) (hs:B1 (e :: es) X.env=(false,m3 e X.env) :: B1 es X.env:=by rfl) (hplain:(Q3 cpos (B1 es X.env)).any (·.1)=false:=by rfl) :
  PE X (.Call (.Attribute o "extend" apos) (e :: es) [] cpos) (tBM X.K "list" zi1 to t):=pe_bm z7 PySem.F.slot_list_extend PySem.F.type_list_extend zga ho ha hbase hfew hline hs hplain
end
end L2
set_option maxHeartbeats 4000000
namespace L2
open PySem PySem.Spec PyProof.Rows
noncomputable def Itk (a:Addr) (ob:Obj) (kvs:List (Key×V)):It:=
 ⟨λ i H=>H a=some (.frz ob (.dK kvs))/\i < kvs.length,λ i H x H'=>H'=H/\∃k u,kvs[i]? = some (k,u)/\x=kV k,λ i H=>H a=some (.frz ob (.dK kvs))/\kvs.length<=i⟩
theorem zh5 {P:Program} {w:W0} {K:d0} {tg:Expr} {a it:Addr} {ob:Obj} {kvs:List (Key×V)} {es:Array DictEntry} {ep:Nat} (hob:ob.data=.dict es ep):Turn P w K tg (Itk a ob kvs) [it] it (λ i h=>h.IsKeyIter it a i kvs.length ep) where
 mem:=by simp
 obj:=λ i h f b g=>by
  obtain rfl:b=it:=by simpa using g
  obtain ⟨o,e,c,d⟩:=f;exact ⟨o,e,λ v z=>by rw [d] at z;cases z⟩
 keep:=λ i h j f k=>by obtain ⟨o,e,r⟩:=f;exact ⟨o,k it (by simp) o e,r⟩
 item:=by
  intro X n O J Q i W s σ H E I m f A;subst n O J;obtain ⟨p,T⟩:=A;obtain ⟨vs,S,l,N⟩:=frz_at I hob p;obtain ⟨M,L,Y,F,G,y⟩:=m it (by simp);have U:kvs[i]? = some kvs[i]:=N0 T;obtain ⟨⟨Z,u⟩,hu,q,ru⟩:=zch S U;rw [<-l] at f;refine wpAny_pyNext_dict_item f N hu λ R j a0 D sb=>?_;have I1:Inv X W σ H { s with heap:=j }:=I.turned (t':=s.toks) (λ b o g e=>(sb.2 b g).trans e) M L F G y;obtain ⟨o,e,c,d⟩:=id D;rw [l] at D;have rk:L2.RelV (kV kvs[i].1) R:=by
   have q:kvs[i].1=Z:=q;rw [q];rcases z0m a0 with ⟨i,t,C,B⟩|⟨x,t,C,B⟩
   ·rw [C,B];exact ⟨t,rfl⟩
   ·rw [C,B];exact ⟨t,rfl⟩
  exact ⟨R,rfl,go_of (s:={ s with heap:=j }) e c d (by decide) ⟨kV kvs[i].1,H,I1,rk,⟨rfl,kvs[i].1,kvs[i].2,U,rfl⟩,D,λ b g=>(m b g).1⟩⟩
 done:=by intro X n O J Q i W s σ H E I m f A;subst n O J;obtain ⟨p,T⟩:=A;obtain ⟨vs,S,l,N⟩:=frz_at I hob p;obtain ⟨M,L,Y,F,G,y⟩:=m it (by simp);rw [<-l] at f;exact wpAny_pyNext_dict_end (I.ok.hd Q) f N (by rw [O3];omega) λ j eb=>⟨rfl,I.turned (t':=s.toks) (λ b o g e=>eb b o g e) M L F G y⟩
 self:=λ _ _ _ _ _ f h=>wpAny_pyIter_keyiter f h
noncomputable def iKeys (td:TE):TI:=λ σ H R=>td σ H λ x H1=>∃a kvs,x=.ref a/\H1 a=some (.dK kvs)/\∀ob,R (Itk a ob kvs) (upd H1 a (.frz ob (.dK kvs)))
theorem zhv {X:Cx} {tg o:Expr} {to:TE} (ho:PE X o to):PI X tg o (iKeys to):=by
 intro i s σ H R I h;refine thn (ho i s σ H _ I h) λ v c ⟨x,H1,I1,r1,a,kvs,ex,ea,q⟩=>?_;subst ex;cases r1;obtain ⟨w,t,r⟩:=isD_at I1 (.inl ⟨_,.inl ea⟩);obtain ⟨_,_,p,n,m⟩:=dk_of I1.hok ea;obtain ⟨y,g⟩:=m.dictAt;obtain ⟨f,u,ho,z,k,_⟩:=id g;have d:Inv X i σ (upd H1 a (.frz f (.dK kvs))) c:=I1.freeze ea ho;refine wpAny_pyIter_dict r g ?_;have l:p.length=kvs.length:=n.length.symm;refine ⟨c.heap.objs.size,[c.heap.objs.size],_,_,_,rfl,d.kept (t':=c.toks) λ b o e=>F0 _ e,zh5 k,⟨_,A1 _ rfl,rfl,by rw [l];rfl⟩,λ b j=>?_,q f⟩;obtain rfl:b=c.heap.objs.size:=by simpa using j
 exact d.fpOk (B0 _) (d.hok.fresh (B0 _))
theorem ze1 {S:Hp->Hp->Prop} {a:Addr} {ob:Obj} {kvs:List (Key×V)} {H1:Hp} (hs :∀H,S H1 H->S H H) (hq :∀H,S H1 H->H a=some (.frz ob (.dK kvs))):RunsR S (Itk a ob kvs) H1 kvs.length (λ i v _=>∃k u,kvs[i]? = some (k,u)/\v=kV k):=
 ⟨λ i b H s=>⟨hq H s,b⟩,λ H s=>⟨hq H s,B0 _⟩,λ i b H v c s y=>by obtain ⟨e,y⟩:=y;subst e;exact ⟨hs _ s,y⟩⟩
theorem tcompD {K:d0} {a:Addr} {kvs:List (Key×V)} {td te:TE} {tc:TT} {g:TG} {m:Nat} {fr:List (Nat×Str)} {σ:L2.St} {H:Hp} {Q:VK} (p:Nat->Bool) (R:Nat->V->Prop) (htd :∀R:VK,R (.ref a) H->td σ H R) (ea:H a=some (.dK kvs)) (hn:kvs.length<=sizeLine)
  (body :∀i k v,kvs[i]? = some (k,v)->∀H1,(∀c xs,SqT K H c xs->SqT K H1 c xs)->∀(KT:VK) (KF:Hp->Prop),(p i=true->∀y H',Same H1 H'->R i y->KT y H')->(p i=false->∀H',Same H1 H'->KF H')->
   g (kV k) (cStG σ fr (V1 m none)) H1 λ σ6 H6=>∃us,us.length=m/\σ6=cStG σ fr us/\tc (cStG σ fr us) H6 λ b H2=>if b=true then te (cStG σ fr us) H2 KT else KF H2)
  (hQ :∀l H' ys,Same H H'->H l=none->H' l=some (.lst ys)->All2 R ((K1 kvs.length).filter p) ys->Q (.ref l) H'):tThaw (tCompG (iKeys td) m fr g tc te) σ H Q:=by
 refine ⟨a,kvs,ea,htd _ ⟨a,kvs,rfl,ea,λ d=>?_⟩⟩;have q :∀{H':Hp},Same (upd H a (.frz d (.dK kvs))) H'->H' a=some (.frz d (.dK kvs)):=λ s=>s _ _ z01;refine z2c (S:=Same) (H1:=upd H a (.frz d (.dK kvs))) (Q:=λ v r=>(∃d,r a=some (.frz d (.dK kvs)))/\Q v (upd r a (.dK kvs))) (fr:=fr) (g:=g) (tc:=tc) (te:=te) (σ:=σ) (m:=m) (Same.refl _) (λ _ _ _ a b=>a.trans b) p (λ i y _=>R i y) (λ _ _ _ _ _ z=>z) (ze1 (S:=Same) (λ _ _=>Same.refl _) λ H s=>q s) hn (λ i D v H1 w B KT KF A x=>?_) λ l H' ys f h t=>?_
 ·obtain ⟨k,u,C,rfl⟩:=B;exact body i k u C H1 (λ c xs z=>w.seqT (zdc ea z)) KT KF A x
 ·have j:l≠a:=λ z=>by rw [z,q f] at h;cases h
  refine ⟨⟨d,by rw [upd_ne j.symm];exact q f⟩,hQ l _ ys (λ b o e=>?_) ?_ (by rw [upd_ne j];exact z01) t⟩
  ·by_cases z:b=a
   ·rw [z] at e⊢;rw [ea] at e;cases e;exact z01
   ·have n:H' b=some o:=f b o (by rw [upd_ne z];exact e);rw [upd_ne z,upd_ne (λ y=>by rw [y,h] at n;cases n)];exact n
  ·cases hx:H l with
   | none=>rfl
   | some o=>have:=f l o (by rw [upd_ne j];exact hx);rw [h] at this;cases this
theorem zb2 {X:Cx}:CallR X (.builtin "sorted") (λ xs H Q=>∃a ss,xs=[.ref a]/\SqL X.K H a (ss.map V.str)/\ss.length < 64/\∀(l:Addr) (ss':List Str),H l=none->ss'.Perm ss->Q (.ref l) (upd H l (.lst (ss'.map V.str)))):=by
 intro N s σ H xs S Q I r h;obtain ⟨a,ss,rfl,F,m,q⟩:=h;obtain ⟨u,rfl,y⟩:=vals1 r;cases y;refine zcl m (λ R A=>?_) λ b d E M ss' e D L g i p r=>?_
 ·obtain ⟨P,c,w,G⟩:=I.list F;obtain ⟨o,B,C,n,J⟩:=w.isList;refine j0i a (.inl rfl) B C J (λ d k=>A d s.toks _ k (z7s (by rw [List.toList_toArray,<-c.length,K0]) λ j u e=>?_)) (by rw [P0,<-c.length];exact G);rw [List.toList_toArray] at e;have O:j < (ss.map V.str).length:=by rw [c.length];exact (List.getElem?_eq_some_iff.mp e).1
  have v:j < ss.length:=by rwa [K0] at O
  obtain ⟨T,b,z⟩:=c.get (i:=j) (x:=.str ss[j]) (by rw [X0,N0 v];rfl);rw [e] at b;cases b;obtain ⟨t,rfl⟩:=z;exact ⟨_,t,N0 v,rfl⟩
 ·have f:Inv X N σ H { s with heap:=b }:=I.kept (t':=s.toks) D;refine ⟨.ref b.objs.size,_,f.laid (t':=E) (o:=.lst (ss'.map V.str)) L (B0 _) ⟨?_,M.toList,e,z69 i,by simpa using g⟩,rfl,q _ ss' (f.hok.fresh (B0 _)) p⟩;rw [K0,p.length_eq];exact D0 (d3 m) (by decide)
end L2
set_option maxHeartbeats 0
namespace K72
open PySem PySem.W PyProof.Rows TJ L2
noncomputable abbrev PX:Program:=PySem.Challenge.pw_talejudge_k72_hands_without_open_deeds
noncomputable abbrev annX:Option Value:=some (.ref 6)
noncomputable def tp (a b:Str) (t:Nat):Obj:={ cls:=.type "tuple",data:=.seq #[.str a t,.str b (t + 1)] 0 }
noncomputable def tups:List Obj:=[tp "register" "read" 519,tp "register" "write" 521,tp "counter" "read" 523,tp "counter" "add" 525,tp "queue" "put" 527,tp "queue" "take" 529,tp "set" "put" 531,tp "set" "cut" 533,tp "set" "has" 535,tp "cell" "read" 537,tp "cell" "write" 539,tp "cell" "swap" 541]
noncomputable def insAll:List Obj->Nat->BT->BT
 | [],_,t=>t
 | x :: r,n,t=>insAll r (n + 1) (t.ins n x)
noncomputable def treeD (P:R0) (oD:Obj):BT:=insAll tups 249 ((K72.pre.tree_321 P).ins 248 oD)
noncomputable def FX (w:W0) (os:S2) (oD:Obj) (tk:Nat):SharedT:=⟨treeD w.params oD,261,{},⟨[]⟩,{},tk,os⟩
noncomputable abbrev cdX:Code:=.body (behindTheImports PX) K72.pre.env_1
noncomputable abbrev qX:Pos:=⟨0,0,0,0⟩
noncomputable abbrev BX:List Frame:=[topFrame qX]
noncomputable abbrev GX {α:Type} (w:W0) (c:Nat) (x:Sem α) (s:A0) (pos:Pos) (a:α) (s':A0) (pos':Pos):Prop:=Goes PX w 11 annX cdX qX c x s pos a s' pos'
def LX (n:Nat) {α:Type} (x:Sem α) (w:W0) (pos:Pos) (s:S2->Obj->Nat->SharedT) (a:Nat->α) (s':S2->Obj->Nat->SharedT) (pos':Pos):Prop:=
 ∀(os:S2) (oD:Obj) (tk:Nat) (K:α->Sem M7) (H:Value->Sem M7) (gd:Bool->Bool) (lv:List Value->List Value),
  PySem.W.Fast.tw10295753902157049106 R7 PX w 11 annX 1 n (s os oD tk) ⟨x.wrap K H gd lv,cdX,pos,BX⟩=some (s' os oD tk,⟨K (a tk),cdX,pos',BX⟩)
theorem LX.goes {n:Nat} {α:Type} {x:Sem α} {w:W0} {pos pos':Pos} {s s':S2->Obj->Nat->SharedT} {a:Nat->α} (h:LX n x w pos s a s' pos') (os:S2) (oD:Obj) (tk:Nat):GX w n x (s os oD tk).abs pos (a tk) (s' os oD tk).abs pos':=by refine Goes.leaf n λ K H b c=>?_;have e:=h os oD tk K H b c;rw [<-PySem.W.Fast.te10295753902157049106,<-j5] at e;exact e
noncomputable abbrev stay (w:W0):S2->Obj->Nat->SharedT:=FX w
noncomputable abbrev plus3 (w:W0):S2->Obj->Nat->SharedT:=λ os oD tk=>FX w os oD (tk + 3)
theorem qtH (a:Addr) (h :∀(w:W0) (pos:Pos),LX 3 (PySem.W.Fast.tw13066428366354244818 8 (.ref a)) w pos (stay w) (λ _=>true) (stay w) pos:=by intro w pos os oD tk K H gd lv;kernel_rfl) (w:W0) (pos:Pos):LX 3 (B4 8 (.ref a)) w pos (stay w) (λ _=>true) (stay w) pos:=by rw [PySem.W.Fast.te13066428366354244818];exact h w pos
noncomputable def qt0:=qtH 249
noncomputable def qt1:=qtH 250
noncomputable def qt2:=qtH 251
noncomputable def qt3:=qtH 252
noncomputable def qt4:=qtH 253
noncomputable def qt5:=qtH 254
noncomputable def qt6:=qtH 255
noncomputable def qt7:=qtH 256
noncomputable def qt8:=qtH 257
noncomputable def qt9:=qtH 258
noncomputable def qt10:=qtH 259
noncomputable def qt11:=qtH 260
theorem eqH (n:Nat) (a b:Addr) (hf :∀(w:W0) (pos:Pos),LX n (c5 (.ref a) (.ref b)) (w.withFollow "special-get-raises" false) pos (stay (w.withFollow "special-get-raises" false)) (λ _=>false) (stay (w.withFollow "special-get-raises" false)) pos:=by intro w pos os oD tk K H gd lv;kernel_rfl) (ht :∀(w:W0) (pos:Pos),LX n (c5 (.ref a) (.ref b)) (w.withFollow "special-get-raises" true) pos (stay (w.withFollow "special-get-raises" true)) (λ _=>false) (stay (w.withFollow "special-get-raises" true)) pos:=by intro w pos os oD tk K H gd lv;kernel_rfl) (w:W0) (pos:Pos):LX n (eqBool (.ref a) (.ref b)) w pos (stay w) (λ _=>false) (stay w) pos:=by rw [PySem.W.Fast.te13926502685295537346];exact byRow2 "special-get-raises" (P:=λ w=>LX n (c5 (.ref a) (.ref b)) w pos (stay w) (λ _=>false) (stay w) pos) (λ w=>hf w pos) (λ w=>ht w pos) w
noncomputable def eq0_1:=eqH 20 249 250
noncomputable def eq0_2:=eqH 16 249 251
noncomputable def eq0_3:=eqH 16 249 252
noncomputable def eq0_4:=eqH 16 249 253
noncomputable def eq0_5:=eqH 16 249 254
noncomputable def eq0_6:=eqH 16 249 255
noncomputable def eq0_7:=eqH 16 249 256
noncomputable def eq0_8:=eqH 16 249 257
noncomputable def eq0_9:=eqH 16 249 258
noncomputable def eq0_10:=eqH 16 249 259
noncomputable def eq0_11:=eqH 16 249 260
noncomputable def eq1_2:=eqH 16 250 251
noncomputable def eq1_3:=eqH 16 250 252
noncomputable def eq1_4:=eqH 16 250 253
noncomputable def eq1_5:=eqH 16 250 254
noncomputable def eq1_6:=eqH 16 250 255
noncomputable def eq1_7:=eqH 16 250 256
noncomputable def eq1_8:=eqH 16 250 257
noncomputable def eq1_9:=eqH 16 250 258
noncomputable def eq1_10:=eqH 16 250 259
noncomputable def eq1_11:=eqH 16 250 260
noncomputable def eq2_3:=eqH 20 251 252
noncomputable def eq2_4:=eqH 16 251 253
noncomputable def eq2_5:=eqH 16 251 254
noncomputable def eq2_6:=eqH 16 251 255
noncomputable def eq2_7:=eqH 16 251 256
noncomputable def eq2_8:=eqH 16 251 257
noncomputable def eq2_9:=eqH 16 251 258
noncomputable def eq2_10:=eqH 16 251 259
noncomputable def eq2_11:=eqH 16 251 260
noncomputable def eq3_4:=eqH 16 252 253
noncomputable def eq3_5:=eqH 16 252 254
noncomputable def eq3_6:=eqH 16 252 255
noncomputable def eq3_7:=eqH 16 252 256
noncomputable def eq3_8:=eqH 16 252 257
noncomputable def eq3_9:=eqH 16 252 258
noncomputable def eq3_10:=eqH 16 252 259
noncomputable def eq3_11:=eqH 16 252 260
noncomputable def eq4_5:=eqH 20 253 254
noncomputable def eq4_6:=eqH 16 253 255
noncomputable def eq4_7:=eqH 16 253 256
noncomputable def eq4_8:=eqH 16 253 257
noncomputable def eq4_9:=eqH 16 253 258
noncomputable def eq4_10:=eqH 16 253 259
noncomputable def eq4_11:=eqH 16 253 260
noncomputable def eq5_6:=eqH 16 254 255
noncomputable def eq5_7:=eqH 16 254 256
noncomputable def eq5_8:=eqH 16 254 257
noncomputable def eq5_9:=eqH 16 254 258
noncomputable def eq5_10:=eqH 16 254 259
noncomputable def eq5_11:=eqH 16 254 260
noncomputable def eq6_7:=eqH 20 255 256
noncomputable def eq6_8:=eqH 20 255 257
noncomputable def eq6_9:=eqH 16 255 258
noncomputable def eq6_10:=eqH 16 255 259
noncomputable def eq6_11:=eqH 16 255 260
noncomputable def eq7_8:=eqH 20 256 257
noncomputable def eq7_9:=eqH 16 256 258
noncomputable def eq7_10:=eqH 16 256 259
noncomputable def eq7_11:=eqH 16 256 260
noncomputable def eq8_9:=eqH 16 257 258
noncomputable def eq8_10:=eqH 16 257 259
noncomputable def eq8_11:=eqH 16 257 260
noncomputable def eq9_10:=eqH 20 258 259
noncomputable def eq9_11:=eqH 20 258 260
noncomputable def zld:=eqH 20 259 260
theorem crH (a:Addr) (hf :∀(w:W0) (pos:Pos),LX 1 (i5 "hash" [.ref a]) (w.withFollow "special-get-raises" false) pos (stay (w.withFollow "special-get-raises" false)) (λ _=>()) (stay (w.withFollow "special-get-raises" false)) pos:=by intro w pos os oD tk K H gd lv;kernel_rfl) (ht :∀(w:W0) (pos:Pos),LX 1 (i5 "hash" [.ref a]) (w.withFollow "special-get-raises" true) pos (stay (w.withFollow "special-get-raises" true)) (λ _=>()) (stay (w.withFollow "special-get-raises" true)) pos:=by intro w pos os oD tk K H gd lv;kernel_rfl) (w:W0) (pos:Pos):LX 1 (cRoomFor "hash" [.ref a]) w pos (stay w) (λ _=>()) (stay w) pos:=by rw [PySem.W.Fast.te13383273872528276517];exact byRow2 "special-get-raises" (P:=λ w=>LX 1 (i5 "hash" [.ref a]) w pos (stay w) (λ _=>()) (stay w) pos) (λ w=>hf w pos) (λ w=>ht w pos) w
theorem soH (a:Addr) (hf :∀(w:W0) (pos:Pos),LX 1 (o5 (.ref a) "__hash__") (w.withFollow "special-get-raises" false) pos (stay (w.withFollow "special-get-raises" false)) (λ _=>some (.builtin "tuple.__hash__")) (stay (w.withFollow "special-get-raises" false)) pos:=by intro w pos os oD tk K H gd lv;kernel_rfl) (ht :∀(w:W0) (pos:Pos),LX 1 (o5 (.ref a) "__hash__") (w.withFollow "special-get-raises" true) pos (stay (w.withFollow "special-get-raises" true)) (λ _=>some (.builtin "tuple.__hash__")) (stay (w.withFollow "special-get-raises" true)) pos:=by intro w pos os oD tk K H gd lv;kernel_rfl) (w:W0) (pos:Pos):LX 1 (specialOf (.ref a) "__hash__") w pos (stay w) (λ _=>some (.builtin "tuple.__hash__")) (stay w) pos:=by rw [PySem.W.Fast.te4214721358667687652];exact byRow2 "special-get-raises" (P:=λ w=>LX 1 (o5 (.ref a) "__hash__") w pos (stay w) (λ _=>some (.builtin "tuple.__hash__")) (stay w) pos) (λ w=>hf w pos) (λ w=>ht w pos) w
theorem csH (a:Addr) (k l:Str) (hf :∀(w:W0) (pos:Pos),LX 22 (Z4 (.ref a) "__hash__" (unh a)) (w.withFollow "special-get-raises" false) pos (stay (w.withFollow "special-get-raises" false)) (λ tk=>some (.int (t0 [j0 (w.withFollow "special-get-raises" false).params k,j0 (w.withFollow "special-get-raises" false).params l]) (tk + 2))) (plus3 (w.withFollow "special-get-raises" false)) pos:=by intro w pos os oD tk K H gd lv;kernel_rfl) (ht :∀(w:W0) (pos:Pos),LX 22 (Z4 (.ref a) "__hash__" (unh a)) (w.withFollow "special-get-raises" true) pos (stay (w.withFollow "special-get-raises" true)) (λ tk=>some (.int (t0 [j0 (w.withFollow "special-get-raises" true).params k,j0 (w.withFollow "special-get-raises" true).params l]) (tk + 2))) (plus3 (w.withFollow "special-get-raises" true)) pos:=by intro w pos os oD tk K H gd lv;kernel_rfl) (w:W0) (pos:Pos):LX 22 (O6 (.ref a) "__hash__" (unh a)) w pos (stay w) (λ tk=>some (.int (t0 [j0 w.params k,j0 w.params l]) (tk + 2))) (plus3 w) pos:=by rw [PySem.W.Fast.te16697807410369149715];exact byRow2 "special-get-raises" (P:=λ w=>LX 22 (Z4 (.ref a) "__hash__" (unh a)) w pos (stay w) (λ tk=>some (.int (t0 [j0 w.params k,j0 w.params l]) (tk + 2))) (plus3 w) pos) (λ w=>hf w pos) (λ w=>ht w pos) w
noncomputable def cr0:=crH 249
noncomputable def so0:=soH 249
noncomputable def cs0:=csH 249 "register" "read"
noncomputable def cr1:=crH 250
noncomputable def so1:=soH 250
noncomputable def cs1:=csH 250 "register" "write"
noncomputable def cr2:=crH 251
noncomputable def so2:=soH 251
noncomputable def cs2:=csH 251 "counter" "read"
noncomputable def cr3:=crH 252
noncomputable def so3:=soH 252
noncomputable def cs3:=csH 252 "counter" "add"
noncomputable def cr4:=crH 253
noncomputable def so4:=soH 253
noncomputable def cs4:=csH 253 "queue" "put"
noncomputable def cr5:=crH 254
noncomputable def so5:=soH 254
noncomputable def cs5:=csH 254 "queue" "take"
noncomputable def cr6:=crH 255
noncomputable def so6:=soH 255
noncomputable def cs6:=csH 255 "set" "put"
noncomputable def cr7:=crH 256
noncomputable def so7:=soH 256
noncomputable def cs7:=csH 256 "set" "cut"
noncomputable def cr8:=crH 257
noncomputable def so8:=soH 257
noncomputable def cs8:=csH 257 "set" "has"
noncomputable def cr9:=crH 258
noncomputable def so9:=soH 258
noncomputable def cs9:=csH 258 "cell" "read"
noncomputable def cr10:=crH 259
noncomputable def so10:=soH 259
noncomputable def cs10:=csH 259 "cell" "write"
noncomputable def cr11:=crH 260
noncomputable def so11:=soH 260
noncomputable def cs11:=csH 260 "cell" "swap"
noncomputable def allX (P:R0):List KV3:=[(249,(.ref 193),(N1 (t0 [j0 P "register",j0 P "read"]))),(250,(.ref 200),(N1 (t0 [j0 P "register",j0 P "write"]))),(251,(.ref 193),(N1 (t0 [j0 P "counter",j0 P "read"]))),(252,(.ref 207),(N1 (t0 [j0 P "counter",j0 P "add"]))),(253,(.ref 214),(N1 (t0 [j0 P "queue",j0 P "put"]))),(254,(.ref 221),(N1 (t0 [j0 P "queue",j0 P "take"]))),(255,(.ref 228),(N1 (t0 [j0 P "set",j0 P "put"]))),(256,(.ref 233),(N1 (t0 [j0 P "set",j0 P "cut"]))),(257,(.ref 240),(N1 (t0 [j0 P "set",j0 P "has"]))),(258,(.ref 193),(N1 (t0 [j0 P "cell",j0 P "read"]))),(259,(.ref 200),(N1 (t0 [j0 P "cell",j0 P "write"]))),(260,(.ref 247),(N1 (t0 [j0 P "cell",j0 P "swap"])))]
theorem zlg (w:W0) (os:S2) (pos:Pos):(allX w.params).Pairwise λ x y=>∀oD tk,GX w 20 (eqBool (.ref x.1) (.ref y.1)) (FX w os oD tk).abs pos false (FX w os oD tk).abs pos:=by
 unfold allX;refine
 .cons (λ y a oD tk=>(by
  revert y;simp only [j2,C0,false_implies,implies_true,and_true];exact ⟨(eq0_1 w pos).goes os oD tk |>.le (by decide),(eq0_2 w pos).goes os oD tk |>.le (by decide),(eq0_3 w pos).goes os oD tk |>.le (by decide),(eq0_4 w pos).goes os oD tk |>.le (by decide),(eq0_5 w pos).goes os oD tk |>.le (by decide),(eq0_6 w pos).goes os oD tk |>.le (by decide),(eq0_7 w pos).goes os oD tk |>.le (by decide),(eq0_8 w pos).goes os oD tk |>.le (by decide),(eq0_9 w pos).goes os oD tk |>.le (by decide),(eq0_10 w pos).goes os oD tk |>.le (by decide),(eq0_11 w pos).goes os oD tk |>.le (by decide)⟩))
  (.cons (λ y a oD tk=>(by
  revert y;simp only [j2,C0,false_implies,implies_true,and_true];exact ⟨(eq1_2 w pos).goes os oD tk |>.le (by decide),(eq1_3 w pos).goes os oD tk |>.le (by decide),(eq1_4 w pos).goes os oD tk |>.le (by decide),(eq1_5 w pos).goes os oD tk |>.le (by decide),(eq1_6 w pos).goes os oD tk |>.le (by decide),(eq1_7 w pos).goes os oD tk |>.le (by decide),(eq1_8 w pos).goes os oD tk |>.le (by decide),(eq1_9 w pos).goes os oD tk |>.le (by decide),(eq1_10 w pos).goes os oD tk |>.le (by decide),(eq1_11 w pos).goes os oD tk |>.le (by decide)⟩))
  (.cons (λ y a oD tk=>(by
  revert y;simp only [j2,C0,false_implies,implies_true,and_true];exact ⟨(eq2_3 w pos).goes os oD tk |>.le (by decide),(eq2_4 w pos).goes os oD tk |>.le (by decide),(eq2_5 w pos).goes os oD tk |>.le (by decide),(eq2_6 w pos).goes os oD tk |>.le (by decide),(eq2_7 w pos).goes os oD tk |>.le (by decide),(eq2_8 w pos).goes os oD tk |>.le (by decide),(eq2_9 w pos).goes os oD tk |>.le (by decide),(eq2_10 w pos).goes os oD tk |>.le (by decide),(eq2_11 w pos).goes os oD tk |>.le (by decide)⟩))
  (.cons (λ y a oD tk=>(by
  revert y;simp only [j2,C0,false_implies,implies_true,and_true];exact ⟨(eq3_4 w pos).goes os oD tk |>.le (by decide),(eq3_5 w pos).goes os oD tk |>.le (by decide),(eq3_6 w pos).goes os oD tk |>.le (by decide),(eq3_7 w pos).goes os oD tk |>.le (by decide),(eq3_8 w pos).goes os oD tk |>.le (by decide),(eq3_9 w pos).goes os oD tk |>.le (by decide),(eq3_10 w pos).goes os oD tk |>.le (by decide),(eq3_11 w pos).goes os oD tk |>.le (by decide)⟩))
  (.cons (λ y a oD tk=>(by
  revert y;simp only [j2,C0,false_implies,implies_true,and_true];exact ⟨(eq4_5 w pos).goes os oD tk |>.le (by decide),(eq4_6 w pos).goes os oD tk |>.le (by decide),(eq4_7 w pos).goes os oD tk |>.le (by decide),(eq4_8 w pos).goes os oD tk |>.le (by decide),(eq4_9 w pos).goes os oD tk |>.le (by decide),(eq4_10 w pos).goes os oD tk |>.le (by decide),(eq4_11 w pos).goes os oD tk |>.le (by decide)⟩))
  (.cons (λ y a oD tk=>(by
  revert y;simp only [j2,C0,false_implies,implies_true,and_true];exact ⟨(eq5_6 w pos).goes os oD tk |>.le (by decide),(eq5_7 w pos).goes os oD tk |>.le (by decide),(eq5_8 w pos).goes os oD tk |>.le (by decide),(eq5_9 w pos).goes os oD tk |>.le (by decide),(eq5_10 w pos).goes os oD tk |>.le (by decide),(eq5_11 w pos).goes os oD tk |>.le (by decide)⟩))
  (.cons (λ y a oD tk=>(by
  revert y;simp only [j2,C0,false_implies,implies_true,and_true];exact ⟨(eq6_7 w pos).goes os oD tk |>.le (by decide),(eq6_8 w pos).goes os oD tk |>.le (by decide),(eq6_9 w pos).goes os oD tk |>.le (by decide),(eq6_10 w pos).goes os oD tk |>.le (by decide),(eq6_11 w pos).goes os oD tk |>.le (by decide)⟩))
  (.cons (λ y a oD tk=>(by
  revert y;simp only [j2,C0,false_implies,implies_true,and_true];exact ⟨(eq7_8 w pos).goes os oD tk |>.le (by decide),(eq7_9 w pos).goes os oD tk |>.le (by decide),(eq7_10 w pos).goes os oD tk |>.le (by decide),(eq7_11 w pos).goes os oD tk |>.le (by decide)⟩))
  (.cons (λ y a oD tk=>(by
  revert y;simp only [j2,C0,false_implies,implies_true,and_true];exact ⟨(eq8_9 w pos).goes os oD tk |>.le (by decide),(eq8_10 w pos).goes os oD tk |>.le (by decide),(eq8_11 w pos).goes os oD tk |>.le (by decide)⟩))
  (.cons (λ y a oD tk=>(by
  revert y;simp only [j2,C0,false_implies,implies_true,and_true];exact ⟨(eq9_10 w pos).goes os oD tk |>.le (by decide),(eq9_11 w pos).goes os oD tk |>.le (by decide)⟩))
  (.cons (λ y a oD tk=>(by
  revert y;simp only [j2,C0,false_implies,implies_true,and_true];exact (zld w pos).goes os oD tk |>.le (by decide)))
  (.cons (λ y a=>nomatch a)
  (j17))))))))))))
theorem allX_q (w:W0) (os:S2) (pos:Pos) :∀x∈allX w.params,∀oD tk,GX w 3 (B4 8 (.ref x.1)) (FX w os oD tk).abs pos true (FX w os oD tk).abs pos:=by unfold allX;simp only [j2,C0,false_implies,implies_true,and_true];exact ⟨λ oD tk=>(qt0 w pos).goes os oD tk,λ oD tk=>(qt1 w pos).goes os oD tk,λ oD tk=>(qt2 w pos).goes os oD tk,λ oD tk=>(qt3 w pos).goes os oD tk,λ oD tk=>(qt4 w pos).goes os oD tk,λ oD tk=>(qt5 w pos).goes os oD tk,λ oD tk=>(qt6 w pos).goes os oD tk,λ oD tk=>(qt7 w pos).goes os oD tk,λ oD tk=>(qt8 w pos).goes os oD tk,λ oD tk=>(qt9 w pos).goes os oD tk,λ oD tk=>(qt10 w pos).goes os oD tk,λ oD tk=>(qt11 w pos).goes os oD tk⟩
theorem allX_h (w:W0) (os:S2) (pos:Pos) :∀x∈allX w.params,∀oD tk,GX w 25 (pyHash (.ref x.1)) (FX w os oD tk).abs pos x.2.2 (FX w os oD (tk + 3)).abs pos:=by unfold allX;simp only [j2,C0,false_implies,implies_true,and_true];exact ⟨λ oD tk=>Goes.pyHashT ((cr0 w pos).goes os oD tk) ((so0 w pos).goes os oD tk) ((cs0 w pos).goes os oD tk),λ oD tk=>Goes.pyHashT ((cr1 w pos).goes os oD tk) ((so1 w pos).goes os oD tk) ((cs1 w pos).goes os oD tk),λ oD tk=>Goes.pyHashT ((cr2 w pos).goes os oD tk) ((so2 w pos).goes os oD tk) ((cs2 w pos).goes os oD tk),λ oD tk=>Goes.pyHashT ((cr3 w pos).goes os oD tk) ((so3 w pos).goes os oD tk) ((cs3 w pos).goes os oD tk),λ oD tk=>Goes.pyHashT ((cr4 w pos).goes os oD tk) ((so4 w pos).goes os oD tk) ((cs4 w pos).goes os oD tk),λ oD tk=>Goes.pyHashT ((cr5 w pos).goes os oD tk) ((so5 w pos).goes os oD tk) ((cs5 w pos).goes os oD tk),λ oD tk=>Goes.pyHashT ((cr6 w pos).goes os oD tk) ((so6 w pos).goes os oD tk) ((cs6 w pos).goes os oD tk),λ oD tk=>Goes.pyHashT ((cr7 w pos).goes os oD tk) ((so7 w pos).goes os oD tk) ((cs7 w pos).goes os oD tk),λ oD tk=>Goes.pyHashT ((cr8 w pos).goes os oD tk) ((so8 w pos).goes os oD tk) ((cs8 w pos).goes os oD tk),λ oD tk=>Goes.pyHashT ((cr9 w pos).goes os oD tk) ((so9 w pos).goes os oD tk) ((cs9 w pos).goes os oD tk),λ oD tk=>Goes.pyHashT ((cr10 w pos).goes os oD tk) ((so10 w pos).goes os oD tk) ((cs10 w pos).goes os oD tk),λ oD tk=>Goes.pyHashT ((cr11 w pos).goes os oD tk) ((so11 w pos).goes os oD tk) ((cs11 w pos).goes os oD tk)⟩
theorem famX (w:W0) (os:S2):Fam 11 248 (FX w os):=by
 have g :∀c,(treeD w.params c).get 248=some c:=λ c=>by kernel_rfl
 refine ⟨by decide,λ b a d=>abs_get (show 248 < 261 by decide) (g _),λ b a d e=>?_⟩;have u:(absHeap (treeD w.params (dObj b a)) 261 {}).update 248 (B8 (·.push e))=absHeap (treeD w.params (dObj (b.push e) (a + 1))) 261 {}:=by
  rw [<-absHeap_set (g _)];have v:(treeD w.params (dObj b a)).set 248 (B8 (·.push e))=treeD w.params (dObj (b.push e) (a + 1)):=by kernel_rfl
  rw [v]
 exact congrArg (λ h=>(⟨h,⟨[]⟩,{},d,os⟩:A0)) u
noncomputable def stD:Stmt:=(behindTheImports PX).getD 31 (.Pass ⟨0,0,0,0⟩)
noncomputable def sufX:List Stmt:=(behindTheImports PX).drop 32
theorem bodyX:behindTheImports PX=K72.pre.sts_7++(K72.pre.sts_61++(K72.pre.sts_80++(K72.pre.sts_99++(K72.pre.sts_118++(K72.pre.sts_137++(K72.pre.sts_156++(K72.pre.sts_175++(K72.pre.sts_194++(K72.pre.sts_213++(K72.pre.sts_232++(K72.pre.sts_256++([stD]++sufX)))))))))))):=by kernel_rfl
noncomputable def dKeys:Stmt->List (Option Expr)
 | .Assign _ (.Dict ks _ _) _=>ks
 | _=>[]
noncomputable def dVals:Stmt->List Expr
 | .Assign _ (.Dict _ vs _) _=>vs
 | _=>[]
noncomputable def dPos:Stmt->Pos
 | .Assign _ (.Dict _ _ p) _=>p
 | _=>⟨0,0,0,0⟩
noncomputable def sPos:Stmt->Pos
 | .Assign _ _ p=>p
 | _=>⟨0,0,0,0⟩
noncomputable abbrev p1X:Pos:=sPos stD
noncomputable abbrev p2X:Pos:=dPos stD
noncomputable abbrev p3X:Pos:=⟨66,0,66,5⟩
noncomputable def runX:List (Sem Value×Sem Value):=(((evalEachOpt (dKeys stD) K72.pre.env_1).zip ((evalEach (dVals stD) K72.pre.env_1).map λ v=>do let x <-v;j2h p2X;E3 x))).filterMap λ x=>x.1.map (·,x.2)
theorem stD_eq:stD=.Assign [.Name "DOERS" p3X] (.Dict (dKeys stD) (dVals stD) p2X) p1X:=by kernel_rfl
theorem evD:m3 (.Dict (dKeys stD) (dVals stD) p2X) K72.pre.env_1=(do j2h p2X;let r <-(do let x <-subDict runX;E3 (some x));match r with|some x=>E3 (Value.ref x)|none=>newDict):=by kernel_rfl
theorem swD:F6 (.Dict (dKeys stD) (dVals stD) p2X) (some (.Name "DOERS" p3X)) p1X.line K72.pre.env_1=E3 false:=by kernel_rfl
noncomputable def F0X (w:W0) (os:S2):SharedT:=⟨K72.pre.tree_321 w.params,248,{},⟨[]⟩,{},519,os⟩
noncomputable def F1X (w:W0) (os:S2):SharedT:=⟨(K72.pre.tree_321 w.params).ins 248 (dObj #[] 0),249,{},⟨[]⟩,{},519,os⟩
noncomputable def vsX:List (Value×Value):=[(.ref 249,(.ref 193)),(.ref 250,(.ref 200)),(.ref 251,(.ref 193)),(.ref 252,(.ref 207)),(.ref 253,(.ref 214)),(.ref 254,(.ref 221)),(.ref 255,(.ref 228)),(.ref 256,(.ref 233)),(.ref 257,(.ref 240)),(.ref 258,(.ref 193)),(.ref 259,(.ref 200)),(.ref 260,(.ref 247))]
theorem zdj (w:W0):LX 84 (evalPairs runX) w p2X (λ os _ _=>F1X w os) (λ _=>vsX) (λ os _ _=>FX w os (dObj #[] 0) 543) p2X:=by rw [PySem.W.Fast.te1788576489739465902];exact λ os b c K H a d=>by kernel_rfl
noncomputable def F2X (w:W0) (os:S2) (oD:Obj) (tk:Nat):SharedT:=⟨(treeD w.params oD).set 3 (Obj.putName "DOERS" (j0 w.params "DOERS") (.str "DOERS" tk) (.ref 248)),261,{},⟨[]⟩,{},tk + 1,os⟩
theorem zh7 (w:W0) (pos:Pos):LX 6 (bindName K72.pre.env_1 "DOERS" (.ref 248)) w pos (stay w) (λ _=>()) (λ os oD tk=>F2X w os oD tk) pos:=by
 rw [PySem.W.Fast.te7536695828754713326];exact byRow2 "special-get-raises" (P:=λ w=>LX 6 (PySem.W.Fast.tw7536695828754713326 K72.pre.env_1 "DOERS" (.ref 248)) w pos (stay w) (λ _=>()) (λ os oD tk=>F2X w os oD tk) pos)
  (λ w os oD tk K H b a=>by kernel_rfl) (λ w os oD tk K H b a=>by kernel_rfl) w
noncomputable abbrev oDX (P:R0):Obj:=dObj ((allX P).map ent).toArray 12
noncomputable abbrev S2X (w:W0) (os:S2):SharedT:=F2X w os (oDX w.params) 579
theorem stD_go (w:W0) (os:S2) (pos:Pos):GX w 100000 (exec stD K72.pre.env_1) (F0X w os).abs pos .next (S2X w os).abs p3X:=by
 rw [stD_eq,exec_Assign_Name _ _ _ _ _ swD];have l:=Goes.loop (p:=PX) (w:=w) (ann:=annX) (code:=cdX) (q:=qX) (pos:=p2X) (famX w os) (N:=12) (allX w.params) (show 12<=12 by decide) (by decide) (show ([249,250,251,252,253,254,255,256,257,258,259,260]:List Nat).Nodup by decide) (allX_q w os p2X) (zlg w os p2X) (allX_h w os p2X) (allX w.params) [] 543 rfl;have d:=(zdj w).goes os (dObj #[] 0) 0;have b:GX w _ (subDict runX) (F0X w os).abs p2X 248 (FX w os (oDX w.params) 579).abs p2X:=
  Goes.subDict (by decide +kernel) (absHeap_size _ _ _) (show GX w _ (evalPairs runX) _ p2X vsX _ p2X from by
   have e:({ (F0X w os).abs with heap:=(F0X w os).abs.heap.push { cls:=.type "dict",data:=.dict #[] } }:A0)=(F1X w os).abs:=by have i:=absHeap_ins (t:=K72.pre.tree_321 w.params) (n:=248) (life:={}) (o:=dObj #[] 0) (by kernel_rfl);exact congrArg (λ h=>(⟨h,⟨[]⟩,{},519,os⟩:A0)) i.symm
   rw [e];exact d) l
 refine (Goes.bind Goes.at' (Goes.bind (a:=Value.ref 248) (pos':=p2X) ?_ (Goes.bind Goes.at' (Goes.bind (f:=λ _=>E3 Flow.next) ((zh7 w p3X).goes os (oDX w.params) 579) Goes.pure)))).le (c:=1 + (((1 + ((1 + (84 + 12 * (25 + (2 + 3 + 12 * (3 + 20 + 10)) + 4))) + 0 + 0)) + (1 + (6 + 0))))) (by decide);rw [evD];exact Goes.bind Goes.at' (Goes.bind (Goes.bind b Goes.pure) Goes.pure)
noncomputable abbrev pLX:Pos:=⟨372,0,391,58⟩
noncomputable def R3X (w:W0) (os:S2):Option (Flow×SharedT×Code×Pos):=PySem.W.Fast.tw10110043849684766642 R7 PX w 11 annX 1 1704 (S2X w os) ⟨(PySem.W.Fast.tw12563942051412417395 sufX K72.pre.env_1).wrap doneF deadEnd id id,cdX,p3X,BX⟩
noncomputable def S3X (w:W0) (os:S2):SharedT:=match R3X w os with|some r=>r.2.1|none=>S2X w os
theorem R3X_eq (w:W0) (os:S2):R3X w os=some (.next,S3X w os,cdX,pLX):=by kernel_rfl
theorem zkx (w:W0) (os:S2):segRun C3 PX w 11 annX 1 1704 (S2X w os).abs (piecesOf sufX K72.pre.env_1 cdX p3X BX)=some (.next,(S3X w os).abs,cdX,pLX):=by have e:=R3X_eq w os;unfold R3X at e;rw [<-PySem.W.Fast.te10110043849684766642,<-j5,<-PySem.W.Fast.te12563942051412417395] at e;exact segRun_of e
noncomputable def S0X (w:W0) (os:S2):SharedT:=⟨K72.pre.tree_6 w.params,15,{},⟨[]⟩,{},187,os⟩
theorem pre_go (w:W0) (os:S2):topGo C3 PX w 11 annX 12 ⟨boot_heap w.params,Array.mk [],boot_drawn,boot_toks,os⟩ (topStub PX)=some ((S0X w os).abs,⟨denote C3 cdX,cdX,qX,BX⟩):=by rw [PySem.W.Fast.te15667345088766844465,j5,PySem.W.Fast.te11892475500146522536];kernel_rfl
theorem zkb (w:W0) (os:S2) :∃M,M<=200000/\topRun C3 PX w 11 annX M ⟨boot_heap w.params,Array.mk [],boot_drawn,boot_toks,os⟩ (topStub PX)=some (S3X w os).abs:=by have e:topRun C3 PX w 11 annX 2 (S3X w os).abs (restOf [] K72.pre.env_1 cdX pLX BX)=some (S3X w os).abs:=rfl;have b:=piece_app (zkx w os) e;rw [J2] at b;obtain ⟨M,h,c⟩:=zey (Goes.execs1 (stD_go w os ⟨62,0,65,21⟩)) b;have a:=K72.pre.chain PX (behindTheImports PX) w os _ M _ c;rw [<-bodyX] at a;have g:segRun C3 PX w 11 annX 1 1 (S0X w os).abs (blockOf (behindTheImports PX) K72.pre.env_1 cdX qX BX)=some (.next,(S0X w os).abs,cdX,qX):=rfl;have f:=piece_block g a;have d:=go_top (pre_go w os) f;refine ⟨_,?_,d⟩;simp only [Nat.add_eq];omega
noncomputable def looseX:List Str:=[("_wall" : Str),("GREATEST_WORTH" : Str),("is_whole" : Str),("is_within" : Str),("is_worth" : Str),("is_tuple_of" : Str),("TaleError" : Str),("NoDeed" : Str),("NoTale" : Str),("NoStrictness" : Str),("NoThing" : Str),("NoOrder" : Str),("NoHand" : Str),("NotPlain" : Str),("NoPlan" : Str),("NoDealings" : Str),("NoRow" : Str),("FIRST_STATES" : Str),("WORTHS_OF_VERBS" : Str),("read_state" : Str),("write_state" : Str),("add_to_number" : Str),("put_behind" : Str),("take_first" : Str),("put_into_set" : Str),("cut_from_set" : Str),("has_in_set" : Str),("swap_state" : Str),("DOERS" : Str),("is_kind" : Str),("first_state" : Str),("is_deed" : Str),("do" : Str),("deeds" : Str),("STRICTNESSES" : Str),("has_to" : Str),("check_strictness" : Str),("goes_ahead" : Str),("Candidate" : Str),("Board" : Str),("step_of" : Str),("ended_numbers" : Str),("holds_all" : Str),("first_place" : Str),("all_places" : Str),("next_layer" : Str),("may_answer" : Str),("open_deed" : Str),("answers_in_orders" : Str),("_law_cell_at" : Str),("_law_take" : Str),("_law_do" : Str),("_law_first" : Str),("_law_worth" : Str),("_law_verb" : Str),("_law_things" : Str),("_law_applied" : Str),("_law_tale" : Str),("_law_deeds" : Str),("_law_is_ahead" : Str),("_law_may_be_next" : Str),("_law_nexts" : Str),("_law_is_full" : Str),("_law_places" : Str),("_law_is_good" : Str),("_law_caught" : Str)]
noncomputable def viewX:Program:={ PX with main:={ PX.main with body:=(PX.main.body[74]?).toList } }
noncomputable def top (i:Nat):Stmt:=PX.main.body.getD i (.Pass ⟨0,0,0,0⟩)
noncomputable def subS (s:Stmt) (j:Nat):Stmt:=match s with
 | .ClassDef _ _ _ b _ _ _ _ _ _ _=>b.getD j s
 | _=>s
noncomputable def asX:List Addr:=[3,27,28,34,35,41,42,48,49,50,52,57,58,59,63,65,70,71,72,75,77,82,83,84,87,89,94,95,96,99,101,106,107,108,111,113,118,119,120,123,125,130,131,132,135,137,142,143,144,147,149,154,155,156,159,161,166,167,168,171,173,178,179,180,183,184,185,186,192,193,199,200,206,207,213,214,220,221,227,228,232,233,239,240,246,247,248,249,250,251,252,253,254,255,256,257,258,259,260,266,267,273,274,278,279,285,286,292,293,294,300,301,307,308,314,315,316,318,326,327,333,334,335,336,337,342,344,352,353,359,360,366,367,375,376,377,387,388,392,393,397,398,402,403,409,410,416,417,421,422,428,429,433,434,440,441,447,448,452,453,457,458,464,465,471,472,476,477,481,482,486,487,493,494,538,539,543,544]
noncomputable def KX (P:R0):Frag:=[
 (3,⟨(.type "dict"),none,(.dict #[⟨(j0 P "__name__"),(.str "__name__" 165),(.str "law_talejudge_k72_hands_without_open_deeds" 841)⟩,⟨(j0 P "__doc__"),(.str "__doc__" 166),.none⟩,⟨(j0 P "__package__"),(.str "__package__" 167),.none⟩,⟨(j0 P "__loader__"),(.str "__loader__" 168),(.builtin "__main__.__loader__#opaque")⟩,⟨(j0 P "__spec__"),(.str "__spec__" 169),.none⟩,kR P "__annotations__" 170 6,kR P "__builtins__" 171 4,⟨(j0 P "__file__"),(.str "__file__" 173),(.str "/claim/cut.py" 172)⟩,⟨(j0 P "__cached__"),(.str "__cached__" 174),.none⟩,kR P "_wall" 193 21,⟨(j0 P "GREATEST_WORTH"),(.str "GREATEST_WORTH" 197),(.int (1000000000) 196)⟩,kR P "is_whole" 204 28,kR P "is_within" 212 35,kR P "is_worth" 219 42,kR P "is_tuple_of" 227 49,kR P "TaleError" 247 59,kR P "NoDeed" 263 72,kR P "NoTale" 279 84,kR P "NoStrictness" 295 96,kR P "NoThing" 311 108,kR P "NoOrder" 327 120,kR P "NoHand" 343 132,kR P "NotPlain" 359 144,kR P "NoPlan" 375 156,kR P "NoDealings" 391 168,kR P "NoRow" 407 180,kR P "FIRST_STATES" 423 183,kR P "WORTHS_OF_VERBS" 448 186,kR P "read_state" 456 193,kR P "write_state" 464 200,kR P "add_to_number" 472 207,kR P "put_behind" 480 214,kR P "take_first" 488 221,kR P "put_into_set" 496 228,kR P "cut_from_set" 502 233,kR P "has_in_set" 510 240,kR P "swap_state" 518 247,kR P "DOERS" 579 248,kR P "is_kind" 586 267,kR P "first_state" 593 274,kR P "is_deed" 599 279,kR P "do" 610 286,kR P "deeds" 625 293,kR P "STRICTNESSES" 631 294,kR P "has_to" 645 301,kR P "check_strictness" 652 308,kR P "goes_ahead" 661 315,kR P "Candidate" 707 337,kR P "Board" 764 377,kR P "step_of" 776 388,kR P "ended_numbers" 782 393,kR P "holds_all" 788 398,kR P "first_place" 794 403,kR P "all_places" 805 410,kR P "next_layer" 816 417,kR P "may_answer" 824 422,kR P "open_deed" 834 429,kR P "answers_in_orders" 840 434,kR P "_law_cell_at" 850 441,kR P "_law_take" 860 448,kR P "_law_do" 866 453,kR P "_law_first" 872 458,kR P "_law_worth" 879 465,kR P "_law_verb" 889 472,kR P "_law_things" 895 477,kR P "_law_applied" 901 482,kR P "_law_tale" 907 487,kR P "_law_deeds" 918 494,kR P "_law_is_ahead" 927 501,kR P "_law_may_be_next" 938 508,kR P "_law_nexts" 954 515,kR P "_law_is_full" 960 520,kR P "_law_places" 975 527,kR P "_law_is_good" 981 532,kR P "_law_caught" 993 539,kR P "law" 999 544] 76),#[]⟩),
 (27,cO "is_whole" "is_whole" 198 6 1 22 202),
 (28,fO "is_whole" "is_whole" (top 3) "talejudge.basics" 194 27),
 (34,cO "is_within" "is_within" 205 8 2 29 210),
 (35,fO "is_within" "is_within" (top 4) "talejudge.basics" 194 34),
 (41,cO "is_worth" "is_worth" 213 10 1 36 217),
 (42,fO "is_worth" "is_worth" (top 5) "talejudge.basics" 194 41),
 (48,cO "is_tuple_of" "is_tuple_of" 220 12 2 43 225),
 (49,fO "is_tuple_of" "is_tuple_of" (top 6) "talejudge.basics" 194 48),
 (50,⟨(.type "tuple"),none,(.seq #[(.type "ValueError")] 0),#[]⟩),
 (52,⟨(.type "dict"),none,(.dict #[⟨(j0 P "__module__"),(.str "__module__" 237),(.str "talejudge.errors" 228)⟩,⟨(j0 P "__qualname__"),(.str "__qualname__" 239),(.str "TaleError" 238)⟩,⟨(j0 P "__firstlineno__"),(.str "__firstlineno__" 241),(.int (15) 240)⟩,kR P "__static_attributes__" 242 57] 4),#[]⟩),
 (57,⟨(.type "tuple"),none,(.seq #[] 0),#[]⟩),
 (58,⟨(.type "dict"),none,(.dict #[⟨(j0 P "__module__"),(.str "__module__" 237),(.str "talejudge.errors" 228)⟩,⟨(j0 P "__firstlineno__"),(.str "__firstlineno__" 241),(.int (15) 240)⟩,kR P "__static_attributes__" 242 57,kR P "__weakref__" 244 60,⟨(j0 P "__doc__"),(.str "__doc__" 245),.none⟩] 3),#[]⟩),
 (59,⟨(.type "type"),none,(.cls ⟨"TaleError",[(.type "ValueError")],[(.ref 59),(.type "ValueError"),(.type "Exception"),(.type "BaseException"),(.type "object")],58,"TaleError",true,[],[(.ref 72),(.ref 84),(.ref 96),(.ref 108),(.ref 120),(.ref 132),(.ref 144),(.ref 156),(.ref 168),(.ref 180)],false,none,false⟩),#[some (.ref 50),none,some (.str "TaleError" 230),some (.str "TaleError" 238),some (.builtin "ValueError.__new__"),some (.bool true)]⟩),
 (63,⟨(.type "tuple"),none,(.seq #[(.ref 59)] 0),#[]⟩),
 (65,⟨(.type "dict"),none,(.dict #[⟨(j0 P "__module__"),(.str "__module__" 255),(.str "talejudge.errors" 228)⟩,⟨(j0 P "__qualname__"),(.str "__qualname__" 257),(.str "NoDeed" 256)⟩,⟨(j0 P "__firstlineno__"),(.str "__firstlineno__" 259),(.int (17) 258)⟩,kR P "__static_attributes__" 260 70] 4),#[]⟩),
 (70,⟨(.type "tuple"),none,(.seq #[] 0),#[]⟩),
 (71,⟨(.type "dict"),none,(.dict #[⟨(j0 P "__module__"),(.str "__module__" 255),(.str "talejudge.errors" 228)⟩,⟨(j0 P "__firstlineno__"),(.str "__firstlineno__" 259),(.int (17) 258)⟩,kR P "__static_attributes__" 260 70,⟨(j0 P "__doc__"),(.str "__doc__" 261),.none⟩] 2),#[]⟩),
 (72,⟨(.type "type"),none,(.cls ⟨"NoDeed",[(.ref 59)],[(.ref 72),(.ref 59),(.type "ValueError"),(.type "Exception"),(.type "BaseException"),(.type "object")],71,"NoDeed",true,[],[],false,none,false⟩),#[some (.ref 63),none,some (.str "NoDeed" 248),some (.str "NoDeed" 256),some (.builtin "ValueError.__new__"),some (.bool true)]⟩),
 (75,⟨(.type "tuple"),none,(.seq #[(.ref 59)] 0),#[]⟩),
 (77,⟨(.type "dict"),none,(.dict #[⟨(j0 P "__module__"),(.str "__module__" 271),(.str "talejudge.errors" 228)⟩,⟨(j0 P "__qualname__"),(.str "__qualname__" 273),(.str "NoTale" 272)⟩,⟨(j0 P "__firstlineno__"),(.str "__firstlineno__" 275),(.int (19) 274)⟩,kR P "__static_attributes__" 276 82] 4),#[]⟩),
 (82,⟨(.type "tuple"),none,(.seq #[] 0),#[]⟩),
 (83,⟨(.type "dict"),none,(.dict #[⟨(j0 P "__module__"),(.str "__module__" 271),(.str "talejudge.errors" 228)⟩,⟨(j0 P "__firstlineno__"),(.str "__firstlineno__" 275),(.int (19) 274)⟩,kR P "__static_attributes__" 276 82,⟨(j0 P "__doc__"),(.str "__doc__" 277),.none⟩] 2),#[]⟩),
 (84,⟨(.type "type"),none,(.cls ⟨"NoTale",[(.ref 59)],[(.ref 84),(.ref 59),(.type "ValueError"),(.type "Exception"),(.type "BaseException"),(.type "object")],83,"NoTale",true,[],[],false,none,false⟩),#[some (.ref 75),none,some (.str "NoTale" 264),some (.str "NoTale" 272),some (.builtin "ValueError.__new__"),some (.bool true)]⟩),
 (87,⟨(.type "tuple"),none,(.seq #[(.ref 59)] 0),#[]⟩),
 (89,⟨(.type "dict"),none,(.dict #[⟨(j0 P "__module__"),(.str "__module__" 287),(.str "talejudge.errors" 228)⟩,⟨(j0 P "__qualname__"),(.str "__qualname__" 289),(.str "NoStrictness" 288)⟩,⟨(j0 P "__firstlineno__"),(.str "__firstlineno__" 291),(.int (21) 290)⟩,kR P "__static_attributes__" 292 94] 4),#[]⟩),
 (94,⟨(.type "tuple"),none,(.seq #[] 0),#[]⟩),
 (95,⟨(.type "dict"),none,(.dict #[⟨(j0 P "__module__"),(.str "__module__" 287),(.str "talejudge.errors" 228)⟩,⟨(j0 P "__firstlineno__"),(.str "__firstlineno__" 291),(.int (21) 290)⟩,kR P "__static_attributes__" 292 94,⟨(j0 P "__doc__"),(.str "__doc__" 293),.none⟩] 2),#[]⟩),
 (96,⟨(.type "type"),none,(.cls ⟨"NoStrictness",[(.ref 59)],[(.ref 96),(.ref 59),(.type "ValueError"),(.type "Exception"),(.type "BaseException"),(.type "object")],95,"NoStrictness",true,[],[],false,none,false⟩),#[some (.ref 87),none,some (.str "NoStrictness" 280),some (.str "NoStrictness" 288),some (.builtin "ValueError.__new__"),some (.bool true)]⟩),
 (99,⟨(.type "tuple"),none,(.seq #[(.ref 59)] 0),#[]⟩),
 (101,⟨(.type "dict"),none,(.dict #[⟨(j0 P "__module__"),(.str "__module__" 303),(.str "talejudge.errors" 228)⟩,⟨(j0 P "__qualname__"),(.str "__qualname__" 305),(.str "NoThing" 304)⟩,⟨(j0 P "__firstlineno__"),(.str "__firstlineno__" 307),(.int (23) 306)⟩,kR P "__static_attributes__" 308 106] 4),#[]⟩),
 (106,⟨(.type "tuple"),none,(.seq #[] 0),#[]⟩),
 (107,⟨(.type "dict"),none,(.dict #[⟨(j0 P "__module__"),(.str "__module__" 303),(.str "talejudge.errors" 228)⟩,⟨(j0 P "__firstlineno__"),(.str "__firstlineno__" 307),(.int (23) 306)⟩,kR P "__static_attributes__" 308 106,⟨(j0 P "__doc__"),(.str "__doc__" 309),.none⟩] 2),#[]⟩),
 (108,⟨(.type "type"),none,(.cls ⟨"NoThing",[(.ref 59)],[(.ref 108),(.ref 59),(.type "ValueError"),(.type "Exception"),(.type "BaseException"),(.type "object")],107,"NoThing",true,[],[],false,none,false⟩),#[some (.ref 99),none,some (.str "NoThing" 296),some (.str "NoThing" 304),some (.builtin "ValueError.__new__"),some (.bool true)]⟩),
 (111,⟨(.type "tuple"),none,(.seq #[(.ref 59)] 0),#[]⟩),
 (113,⟨(.type "dict"),none,(.dict #[⟨(j0 P "__module__"),(.str "__module__" 319),(.str "talejudge.errors" 228)⟩,⟨(j0 P "__qualname__"),(.str "__qualname__" 321),(.str "NoOrder" 320)⟩,⟨(j0 P "__firstlineno__"),(.str "__firstlineno__" 323),(.int (25) 322)⟩,kR P "__static_attributes__" 324 118] 4),#[]⟩),
 (118,⟨(.type "tuple"),none,(.seq #[] 0),#[]⟩),
 (119,⟨(.type "dict"),none,(.dict #[⟨(j0 P "__module__"),(.str "__module__" 319),(.str "talejudge.errors" 228)⟩,⟨(j0 P "__firstlineno__"),(.str "__firstlineno__" 323),(.int (25) 322)⟩,kR P "__static_attributes__" 324 118,⟨(j0 P "__doc__"),(.str "__doc__" 325),.none⟩] 2),#[]⟩),
 (120,⟨(.type "type"),none,(.cls ⟨"NoOrder",[(.ref 59)],[(.ref 120),(.ref 59),(.type "ValueError"),(.type "Exception"),(.type "BaseException"),(.type "object")],119,"NoOrder",true,[],[],false,none,false⟩),#[some (.ref 111),none,some (.str "NoOrder" 312),some (.str "NoOrder" 320),some (.builtin "ValueError.__new__"),some (.bool true)]⟩),
 (123,⟨(.type "tuple"),none,(.seq #[(.ref 59)] 0),#[]⟩),
 (125,⟨(.type "dict"),none,(.dict #[⟨(j0 P "__module__"),(.str "__module__" 335),(.str "talejudge.errors" 228)⟩,⟨(j0 P "__qualname__"),(.str "__qualname__" 337),(.str "NoHand" 336)⟩,⟨(j0 P "__firstlineno__"),(.str "__firstlineno__" 339),(.int (27) 338)⟩,kR P "__static_attributes__" 340 130] 4),#[]⟩),
 (130,⟨(.type "tuple"),none,(.seq #[] 0),#[]⟩),
 (131,⟨(.type "dict"),none,(.dict #[⟨(j0 P "__module__"),(.str "__module__" 335),(.str "talejudge.errors" 228)⟩,⟨(j0 P "__firstlineno__"),(.str "__firstlineno__" 339),(.int (27) 338)⟩,kR P "__static_attributes__" 340 130,⟨(j0 P "__doc__"),(.str "__doc__" 341),.none⟩] 2),#[]⟩),
 (132,⟨(.type "type"),none,(.cls ⟨"NoHand",[(.ref 59)],[(.ref 132),(.ref 59),(.type "ValueError"),(.type "Exception"),(.type "BaseException"),(.type "object")],131,"NoHand",true,[],[],false,none,false⟩),#[some (.ref 123),none,some (.str "NoHand" 328),some (.str "NoHand" 336),some (.builtin "ValueError.__new__"),some (.bool true)]⟩),
 (135,⟨(.type "tuple"),none,(.seq #[(.ref 59)] 0),#[]⟩),
 (137,⟨(.type "dict"),none,(.dict #[⟨(j0 P "__module__"),(.str "__module__" 351),(.str "talejudge.errors" 228)⟩,⟨(j0 P "__qualname__"),(.str "__qualname__" 353),(.str "NotPlain" 352)⟩,⟨(j0 P "__firstlineno__"),(.str "__firstlineno__" 355),(.int (29) 354)⟩,kR P "__static_attributes__" 356 142] 4),#[]⟩),
 (142,⟨(.type "tuple"),none,(.seq #[] 0),#[]⟩),
 (143,⟨(.type "dict"),none,(.dict #[⟨(j0 P "__module__"),(.str "__module__" 351),(.str "talejudge.errors" 228)⟩,⟨(j0 P "__firstlineno__"),(.str "__firstlineno__" 355),(.int (29) 354)⟩,kR P "__static_attributes__" 356 142,⟨(j0 P "__doc__"),(.str "__doc__" 357),.none⟩] 2),#[]⟩),
 (144,⟨(.type "type"),none,(.cls ⟨"NotPlain",[(.ref 59)],[(.ref 144),(.ref 59),(.type "ValueError"),(.type "Exception"),(.type "BaseException"),(.type "object")],143,"NotPlain",true,[],[],false,none,false⟩),#[some (.ref 135),none,some (.str "NotPlain" 344),some (.str "NotPlain" 352),some (.builtin "ValueError.__new__"),some (.bool true)]⟩),
 (147,⟨(.type "tuple"),none,(.seq #[(.ref 59)] 0),#[]⟩),
 (149,⟨(.type "dict"),none,(.dict #[⟨(j0 P "__module__"),(.str "__module__" 367),(.str "talejudge.errors" 228)⟩,⟨(j0 P "__qualname__"),(.str "__qualname__" 369),(.str "NoPlan" 368)⟩,⟨(j0 P "__firstlineno__"),(.str "__firstlineno__" 371),(.int (31) 370)⟩,kR P "__static_attributes__" 372 154] 4),#[]⟩),
 (154,⟨(.type "tuple"),none,(.seq #[] 0),#[]⟩),
 (155,⟨(.type "dict"),none,(.dict #[⟨(j0 P "__module__"),(.str "__module__" 367),(.str "talejudge.errors" 228)⟩,⟨(j0 P "__firstlineno__"),(.str "__firstlineno__" 371),(.int (31) 370)⟩,kR P "__static_attributes__" 372 154,⟨(j0 P "__doc__"),(.str "__doc__" 373),.none⟩] 2),#[]⟩),
 (156,⟨(.type "type"),none,(.cls ⟨"NoPlan",[(.ref 59)],[(.ref 156),(.ref 59),(.type "ValueError"),(.type "Exception"),(.type "BaseException"),(.type "object")],155,"NoPlan",true,[],[],false,none,false⟩),#[some (.ref 147),none,some (.str "NoPlan" 360),some (.str "NoPlan" 368),some (.builtin "ValueError.__new__"),some (.bool true)]⟩),
 (159,⟨(.type "tuple"),none,(.seq #[(.ref 59)] 0),#[]⟩),
 (161,⟨(.type "dict"),none,(.dict #[⟨(j0 P "__module__"),(.str "__module__" 383),(.str "talejudge.errors" 228)⟩,⟨(j0 P "__qualname__"),(.str "__qualname__" 385),(.str "NoDealings" 384)⟩,⟨(j0 P "__firstlineno__"),(.str "__firstlineno__" 387),(.int (33) 386)⟩,kR P "__static_attributes__" 388 166] 4),#[]⟩),
 (166,⟨(.type "tuple"),none,(.seq #[] 0),#[]⟩),
 (167,⟨(.type "dict"),none,(.dict #[⟨(j0 P "__module__"),(.str "__module__" 383),(.str "talejudge.errors" 228)⟩,⟨(j0 P "__firstlineno__"),(.str "__firstlineno__" 387),(.int (33) 386)⟩,kR P "__static_attributes__" 388 166,⟨(j0 P "__doc__"),(.str "__doc__" 389),.none⟩] 2),#[]⟩),
 (168,⟨(.type "type"),none,(.cls ⟨"NoDealings",[(.ref 59)],[(.ref 168),(.ref 59),(.type "ValueError"),(.type "Exception"),(.type "BaseException"),(.type "object")],167,"NoDealings",true,[],[],false,none,false⟩),#[some (.ref 159),none,some (.str "NoDealings" 376),some (.str "NoDealings" 384),some (.builtin "ValueError.__new__"),some (.bool true)]⟩),
 (171,⟨(.type "tuple"),none,(.seq #[(.ref 59)] 0),#[]⟩),
 (173,⟨(.type "dict"),none,(.dict #[⟨(j0 P "__module__"),(.str "__module__" 399),(.str "talejudge.errors" 228)⟩,⟨(j0 P "__qualname__"),(.str "__qualname__" 401),(.str "NoRow" 400)⟩,⟨(j0 P "__firstlineno__"),(.str "__firstlineno__" 403),(.int (35) 402)⟩,kR P "__static_attributes__" 404 178] 4),#[]⟩),
 (178,⟨(.type "tuple"),none,(.seq #[] 0),#[]⟩),
 (179,⟨(.type "dict"),none,(.dict #[⟨(j0 P "__module__"),(.str "__module__" 399),(.str "talejudge.errors" 228)⟩,⟨(j0 P "__firstlineno__"),(.str "__firstlineno__" 403),(.int (35) 402)⟩,kR P "__static_attributes__" 404 178,⟨(j0 P "__doc__"),(.str "__doc__" 405),.none⟩] 2),#[]⟩),
 (180,⟨(.type "type"),none,(.cls ⟨"NoRow",[(.ref 59)],[(.ref 180),(.ref 59),(.type "ValueError"),(.type "Exception"),(.type "BaseException"),(.type "object")],179,"NoRow",true,[],[],false,none,false⟩),#[some (.ref 171),none,some (.str "NoRow" 392),some (.str "NoRow" 400),some (.builtin "ValueError.__new__"),some (.bool true)]⟩),
 (183,⟨(.type "dict"),none,(.dict #[⟨(j0 P "register"),(.str "register" 410),(.int (0) 411)⟩,⟨(j0 P "counter"),(.str "counter" 412),(.int (0) 413)⟩,kR P "queue" 414 184,kR P "set" 415 185,⟨(j0 P "cell"),(.str "cell" 416),(.int (0) 417)⟩] 5),#[]⟩),
 (184,⟨(.type "tuple"),none,(.seq #[] 0),#[]⟩),
 (185,⟨(.type "tuple"),none,(.seq #[] 0),#[]⟩),
 (186,⟨(.type "dict"),none,(.dict #[⟨(j0 P "read"),(.str "read" 424),(.int (0) 425)⟩,⟨(j0 P "take"),(.str "take" 426),(.int (0) 427)⟩,⟨(j0 P "write"),(.str "write" 428),(.int (1) 429)⟩,⟨(j0 P "add"),(.str "add" 430),(.int (1) 431)⟩,⟨(j0 P "put"),(.str "put" 432),(.int (1) 433)⟩,⟨(j0 P "cut"),(.str "cut" 434),(.int (1) 435)⟩,⟨(j0 P "has"),(.str "has" 436),(.int (1) 437)⟩,⟨(j0 P "swap"),(.str "swap" 438),(.int (2) 439)⟩] 8),#[]⟩),
 (192,cO "read_state" "read_state" 449 40 2 187 454),
 (193,fO "read_state" "read_state" (top 22) "talejudge.store" 408 192),
 (199,cO "write_state" "write_state" 457 42 2 194 462),
 (200,fO "write_state" "write_state" (top 23) "talejudge.store" 408 199),
 (206,cO "add_to_number" "add_to_number" 465 44 2 201 470),
 (207,fO "add_to_number" "add_to_number" (top 24) "talejudge.store" 408 206),
 (213,cO "put_behind" "put_behind" 473 46 2 208 478),
 (214,fO "put_behind" "put_behind" (top 25) "talejudge.store" 408 213),
 (220,cO "take_first" "take_first" 481 48 2 215 486),
 (221,fO "take_first" "take_first" (top 26) "talejudge.store" 408 220),
 (227,cO "put_into_set" "put_into_set" 489 52 2 222 494),
 (228,fO "put_into_set" "put_into_set" (top 27) "talejudge.store" 408 227),
 (232,cP "cut_from_set" "cut_from_set" 497 56 2 229 500),
 (233,fO "cut_from_set" "cut_from_set" (top 28) "talejudge.store" 408 232),
 (239,cO "has_in_set" "has_in_set" 503 60 2 234 508),
 (240,fO "has_in_set" "has_in_set" (top 29) "talejudge.store" 408 239),
 (246,cO "swap_state" "swap_state" 511 62 2 241 516),
 (247,fO "swap_state" "swap_state" (top 30) "talejudge.store" 408 246),
 (248,⟨(.type "dict"),none,(.dict #[⟨(N1 (t0 [j0 P "register",j0 P "read"])),(.ref 249),(.ref 193)⟩,⟨(N1 (t0 [j0 P "register",j0 P "write"])),(.ref 250),(.ref 200)⟩,⟨(N1 (t0 [j0 P "counter",j0 P "read"])),(.ref 251),(.ref 193)⟩,⟨(N1 (t0 [j0 P "counter",j0 P "add"])),(.ref 252),(.ref 207)⟩,⟨(N1 (t0 [j0 P "queue",j0 P "put"])),(.ref 253),(.ref 214)⟩,⟨(N1 (t0 [j0 P "queue",j0 P "take"])),(.ref 254),(.ref 221)⟩,⟨(N1 (t0 [j0 P "set",j0 P "put"])),(.ref 255),(.ref 228)⟩,⟨(N1 (t0 [j0 P "set",j0 P "cut"])),(.ref 256),(.ref 233)⟩,⟨(N1 (t0 [j0 P "set",j0 P "has"])),(.ref 257),(.ref 240)⟩,⟨(N1 (t0 [j0 P "cell",j0 P "read"])),(.ref 258),(.ref 193)⟩,⟨(N1 (t0 [j0 P "cell",j0 P "write"])),(.ref 259),(.ref 200)⟩,⟨(N1 (t0 [j0 P "cell",j0 P "swap"])),(.ref 260),(.ref 247)⟩] 12),#[]⟩),
 (249,⟨(.type "tuple"),none,(.seq #[(.str "register" 519),(.str "read" 520)] 0),#[]⟩),
 (250,⟨(.type "tuple"),none,(.seq #[(.str "register" 521),(.str "write" 522)] 0),#[]⟩),
 (251,⟨(.type "tuple"),none,(.seq #[(.str "counter" 523),(.str "read" 524)] 0),#[]⟩),
 (252,⟨(.type "tuple"),none,(.seq #[(.str "counter" 525),(.str "add" 526)] 0),#[]⟩),
 (253,⟨(.type "tuple"),none,(.seq #[(.str "queue" 527),(.str "put" 528)] 0),#[]⟩),
 (254,⟨(.type "tuple"),none,(.seq #[(.str "queue" 529),(.str "take" 530)] 0),#[]⟩),
 (255,⟨(.type "tuple"),none,(.seq #[(.str "set" 531),(.str "put" 532)] 0),#[]⟩),
 (256,⟨(.type "tuple"),none,(.seq #[(.str "set" 533),(.str "cut" 534)] 0),#[]⟩),
 (257,⟨(.type "tuple"),none,(.seq #[(.str "set" 535),(.str "has" 536)] 0),#[]⟩),
 (258,⟨(.type "tuple"),none,(.seq #[(.str "cell" 537),(.str "read" 538)] 0),#[]⟩),
 (259,⟨(.type "tuple"),none,(.seq #[(.str "cell" 539),(.str "write" 540)] 0),#[]⟩),
 (260,⟨(.type "tuple"),none,(.seq #[(.str "cell" 541),(.str "swap" 542)] 0),#[]⟩),
 (266,cO "is_kind" "is_kind" 580 67 1 261 584),
 (267,fO "is_kind" "is_kind" (top 32) "talejudge.store" 408 266),
 (273,cO "first_state" "first_state" 587 69 1 268 591),
 (274,fO "first_state" "first_state" (top 33) "talejudge.store" 408 273),
 (278,cP "is_deed" "is_deed" 594 73 3 275 597),
 (279,fO "is_deed" "is_deed" (top 34) "talejudge.store" 408 278),
 (285,cO "do" "do" 600 82 4 280 608),
 (286,fO "do" "do" (top 35) "talejudge.store" 408 285),
 (292,cO "deeds" "deeds" 613 88 1 287 623),
 (293,fO "deeds" "deeds" (top 37) "talejudge.tales" 611 292),
 (294,⟨(.type "tuple"),none,(.seq #[(.str "strict" 628),(.str "hands" 629),(.str "bare" 630)] 0),#[]⟩),
 (300,cO "has_to" "has_to" 632 102 2 295 643),
 (301,fO "has_to" "has_to" (top 40) "talejudge.orders" 626 300),
 (307,cO "check_strictness" "check_strictness" 646 111 1 302 650),
 (308,fO "check_strictness" "check_strictness" (top 41) "talejudge.orders" 626 307),
 (314,cO "goes_ahead" "goes_ahead" 653 114 3 309 659),
 (315,fO "goes_ahead" "goes_ahead" (top 42) "talejudge.orders" 626 314),
 (316,⟨(.type "tuple"),none,(.seq #[] 0),#[]⟩),
 (318,⟨(.type "dict"),none,(.dict #[⟨(j0 P "__module__"),(.str "__module__" 671),(.str "talejudge.places" 662)⟩,⟨(j0 P "__qualname__"),(.str "__qualname__" 673),(.str "Candidate" 672)⟩,⟨(j0 P "__firstlineno__"),(.str "__firstlineno__" 675),(.int (121) 674)⟩,kR P "__init__" 681 327,kR P "may_stand" 691 334,kR P "__static_attributes__" 700 335] 6),#[]⟩),
 (326,cP "__init__" "Candidate.__init__" 676 123 6 323 679),
 (327,fO "__init__" "Candidate.__init__" (subS (top 44) 0) "talejudge.places" 662 326),
 (333,cO "may_stand" "Candidate.may_stand" 682 133 2 328 689),
 (334,fO "may_stand" "Candidate.may_stand" (subS (top 44) 1) "talejudge.places" 662 333),
 (335,⟨(.type "tuple"),none,(.seq #[(.str "aheads" 692),(.str "answer" 693),(.str "behinds" 694),(.str "kind" 695),(.str "number" 696),(.str "thing" 697),(.str "verb" 698),(.str "worth" 699)] 0),#[]⟩),
 (336,⟨(.type "dict"),none,(.dict #[⟨(j0 P "__module__"),(.str "__module__" 671),(.str "talejudge.places" 662)⟩,⟨(j0 P "__firstlineno__"),(.str "__firstlineno__" 675),(.int (121) 674)⟩,kR P "__init__" 681 327,kR P "may_stand" 691 334,kR P "__static_attributes__" 700 335,kR P "__dict__" 702 338,kR P "__weakref__" 704 339,⟨(j0 P "__doc__"),(.str "__doc__" 705),.none⟩] 4),#[]⟩),
 (337,⟨(.type "type"),none,(.cls ⟨"Candidate",[(.type "object")],[(.ref 337),(.type "object")],336,"Candidate",true,[],[],false,none,false⟩),#[none,none,some (.str "Candidate" 664),some (.str "Candidate" 672),some (.builtin "object.__new__"),some (.bool true)]⟩),
 (342,⟨(.type "tuple"),none,(.seq #[] 0),#[]⟩),
 (344,⟨(.type "dict"),none,(.dict #[⟨(j0 P "__module__"),(.str "__module__" 715),(.str "talejudge.places" 662)⟩,⟨(j0 P "__qualname__"),(.str "__qualname__" 717),(.str "Board" 716)⟩,⟨(j0 P "__firstlineno__"),(.str "__firstlineno__" 719),(.int (143) 718)⟩,kR P "__init__" 725 353,kR P "steps_from" 736 360,kR P "ends_at" 744 367,kR P "has_place" 752 374,kR P "__static_attributes__" 757 375] 8),#[]⟩),
 (352,cP "__init__" "Board.__init__" 720 145 3 349 723),
 (353,fO "__init__" "Board.__init__" (subS (top 45) 0) "talejudge.places" 662 352),
 (359,cO "steps_from" "Board.steps_from" 726 157 2 354 734),
 (360,fO "steps_from" "Board.steps_from" (subS (top 45) 1) "talejudge.places" 662 359),
 (366,cO "ends_at" "Board.ends_at" 737 166 2 361 742),
 (367,fO "ends_at" "Board.ends_at" (subS (top 45) 2) "talejudge.places" 662 366),
 (375,⟨(.type "tuple"),none,(.seq #[(.str "candidates" 753),(.str "ended" 754),(.str "first" 755),(.str "kinds" 756)] 0),#[]⟩),
 (376,⟨(.type "dict"),none,(.dict #[⟨(j0 P "__module__"),(.str "__module__" 715),(.str "talejudge.places" 662)⟩,⟨(j0 P "__firstlineno__"),(.str "__firstlineno__" 719),(.int (143) 718)⟩,kR P "__init__" 725 353,kR P "steps_from" 736 360,kR P "ends_at" 744 367,kR P "has_place" 752 374,kR P "__static_attributes__" 757 375,kR P "__dict__" 759 378,kR P "__weakref__" 761 379,⟨(j0 P "__doc__"),(.str "__doc__" 762),.none⟩] 4),#[]⟩),
 (377,⟨(.type "type"),none,(.cls ⟨"Board",[(.type "object")],[(.ref 377),(.type "object")],376,"Board",true,[],[],false,none,false⟩),#[none,none,some (.str "Board" 708),some (.str "Board" 716),some (.builtin "object.__new__"),some (.bool true)]⟩),
 (387,cO "step_of" "step_of" 765 171 2 382 774),
 (388,fO "step_of" "step_of" (top 46) "talejudge.places" 662 387),
 (392,cP "ended_numbers" "ended_numbers" 777 177 1 389 780),
 (393,fO "ended_numbers" "ended_numbers" (top 47) "talejudge.places" 662 392),
 (397,cP "holds_all" "holds_all" 783 179 2 394 786),
 (398,fO "holds_all" "holds_all" (top 48) "talejudge.places" 662 397),
 (402,cP "first_place" "first_place" 789 181 1 399 792),
 (403,fO "first_place" "first_place" (top 49) "talejudge.places" 662 402),
 (409,cO "all_places" "all_places" 795 183 2 404 803),
 (410,fO "all_places" "all_places" (top 50) "talejudge.places" 662 409),
 (416,cO "next_layer" "next_layer" 806 191 2 411 814),
 (417,fO "next_layer" "next_layer" (top 51) "talejudge.places" 662 416),
 (421,cP "may_answer" "may_answer" 819 198 2 418 822),
 (422,fO "may_answer" "may_answer" (top 53) "talejudge.beginnings" 817 421),
 (428,cO "open_deed" "open_deed" 825 203 2 423 832),
 (429,fO "open_deed" "open_deed" (top 54) "talejudge.beginnings" 817 428),
 (433,cP "answers_in_orders" "answers_in_orders" 835 209 2 430 838),
 (434,fO "answers_in_orders" "answers_in_orders" (top 55) "talejudge.beginnings" 817 433),
 (440,cO "_law_cell_at" "_law_cell_at" 843 222 2 435 848),
 (441,fL "_law_cell_at" "_law_cell_at" (top 57) 440),
 (447,cO "_law_take" "_law_take" 851 226 2 442 858),
 (448,fL "_law_take" "_law_take" (top 58) 447),
 (452,cP "_law_do" "_law_do" 861 235 4 449 864),
 (453,fL "_law_do" "_law_do" (top 59) 452),
 (457,cP "_law_first" "_law_first" 867 258 1 454 870),
 (458,fL "_law_first" "_law_first" (top 60) 457),
 (464,cO "_law_worth" "_law_worth" 873 260 1 459 877),
 (465,fL "_law_worth" "_law_worth" (top 61) 464),
 (471,cO "_law_verb" "_law_verb" 880 262 2 466 887),
 (472,fL "_law_verb" "_law_verb" (top 62) 471),
 (476,cP "_law_things" "_law_things" 890 272 1 473 893),
 (477,fL "_law_things" "_law_things" (top 63) 476),
 (481,cP "_law_applied" "_law_applied" 896 278 3 478 899),
 (482,fL "_law_applied" "_law_applied" (top 64) 481),
 (486,cP "_law_tale" "_law_tale" 902 283 2 483 905),
 (487,fL "_law_tale" "_law_tale" (top 65) 486),
 (493,cO "_law_deeds" "_law_deeds" 908 311 1 488 916),
 (494,fL "_law_deeds" "_law_deeds" (top 66) 493),
 (538,cO "_law_caught" "_law_caught" 982 360 2 533 991),
 (539,fL "_law_caught" "_law_caught" (top 73) 538),
 (543,cP "law" "law" 994 372 1 540 997),
 (544,fL "law" "law" (top 74) 543)]
noncomputable def HX:Hook:=kHook KX asX (λ _=>by kernel_rfl)
noncomputable abbrev XtX:A0->Bool:=λ s=>xlAt viewX [] s && recOk (RowW.records (OpenRow.toRowW PySem.Challenge.rw_talejudge_k72_hands_without_open_deeds.row)) s
theorem look1 (w:W0) (os:S2):(staticsOk (Y6 PX.main.body) (boot_heap w.params) (S3X w os).abs.heap && namesBound PX (S3X w os).abs.heap && gensDone (S3X w os).abs && laidKept (boot_heap w.params) (S3X w os).abs.heap)=true:=by kernel_rfl
theorem look2 (w:W0) (os:S2):openSeen viewX looseX (Y6 PX.main.body) XtX true (S3X w os).abs=openGood viewX looseX:=by rw [PySem.W.Fast.te4187177175401517315];kernel_rfl
theorem look3 (w:W0) (os:S2):Hook.obs HX (S3X w os).abs=Hook.val HX w:=by kernel_rfl
theorem leftX:LeftO PX viewX looseX XtX (Hook.obs HX) (Hook.val HX) 200000:=
 zjq (H₀:=boot_heap) (gs₀:=Array.mk []) (boot_open (by kernel_rfl) (by decide) (λ s=>rfl)) (λ w=>by kernel_rfl) zkb look1 look2 look3
end K72
set_option maxHeartbeats 4000000
namespace L2
open PySem PySem.Spec PyProof.Rows
theorem FnScope.k {N P:List Str} {sc:Scope} (a:sc.kind=.function:=by exact rfl) (b:sc.isCoroutine=false:=by exact rfl) (c:sc.isGenerator=false:=by exact rfl) (d:N.Nodup:=by decide +kernel) (e:N.take P.length=P:=by exact rfl) (f :∀x∈P,sc.names.lookup x=some .local\/sc.names.lookup x=some .cell:=by decide +kernel) (g :∀y∈sc.names,y.2≠.free:=by decide +kernel):FnScope N P sc:=⟨a,b,c,d,e,f,g⟩
theorem newA {H:Hp} {p:Addr} (o:HO) (h:H p=none) :∃H',H'=upd H p o/\Same H H'/\H' p=some o:=⟨_,rfl,Same.upd h,z01⟩
theorem iteK {c A B:Prop} [Decidable c] (h:B) (hc:¬ c:=by decide +kernel):if c then A else B:=iteN hc h
theorem pg_cn {X:Cx} {scope:Scope} {cl:List (Str×Addr)} {N:List Str} {C:Addr} {s₂:A0} {H₂:Hp} {fp:List Addr} {x:Str} {px:Pos} (i:Nat) (hN:N.Nodup:=by decide +kernel) (hi:N[i]? = some x:=by exact rfl) (hx:scope.names.lookup x=some .local:=by exact rfl):PG (cxComp X scope cl N C s₂ H₂ fp) (.Name x px) (gName i):=zk1 i hN hi hx
theorem pe_cg {X:Cx} {xs:List Str} {tg:Expr} {g:TG} {pos:Pos} {elt iter:Expr} {ifs:List Expr} {scope:Scope} {fr:List (Nat×Str)} {wi:TI} {tc:TT} {te:TE} (hi:PI X tg iter wi)
  (hg :∀cl C s₂ H₂ fp,PG (cxComp X scope cl (xs++fr.map (·.2)) C s₂ H₂ fp) tg g)
  (ht :∀cl C s₂ H₂ fp,PF (cxComp X scope cl (xs++fr.map (·.2)) C s₂ H₂ fp) ifs tc) (he :∀cl C s₂ H₂ fp,PE (cxComp X scope cl (xs++fr.map (·.2)) C s₂ H₂ fp) elt te) (hcalm:X.calm=true:=by exact rfl)
  (hfr :∀p∈fr,X.N[p.1]? = some p.2/\(X.env.kindOf p.2=some .cell\/X.env.kindOf p.2=some .free):=by first|exact λ _ z=>absurd z C0|(intro p hp;obtain rfl:=List.mem_singleton.mp hp;first|exact ⟨rfl,.inl rfl⟩|exact ⟨rfl,.inr rfl⟩))
  (hin:(scope.names.all λ y=>y.2 != u2 || fr.any λ p=>p.2 == y.1)=true:=by decide +kernel)
  (hfs :∀p∈fr,(p.2,u2)∈scope.names/\((Y7 scope X.env).names.lookup p.2=some .cell\/(Y7 scope X.env).names.lookup p.2=some .free):=by first|exact λ _ z=>absurd z C0|(intro p hp;obtain rfl:=List.mem_singleton.mp hp;exact ⟨by decide +kernel,by first|exact .inl rfl|exact .inr rfl⟩))
  (hcell :∀y∈scope.names,y.2≠NameKind.cell:=by decide +kernel) (hkind:scope.kind=.function:=by exact rfl) (hnames :∀y∈scope.names,y.2=NameKind.local->scope.names.lookup y.1=some .local:=by decide +kernel)
  (hs :∀x,C4 iter X.env x=E3 x:=by intro _;rfl):PE X (.ListComp elt [⟨tg,iter,ifs,0⟩] scope pos) (tCompG wi xs.length fr g tc te):=
 zjz hcalm hi hfr (λ y a e=>by
  have h:=List.all_eq_true.mp hin y a;rw [e] at h;obtain ⟨p,hp,z⟩:=List.any_eq_true.mp (show fr.any (λ p=>p.2 == y.1)=true from h);have:=(hfr p hp).2
  rwa [eq_of_beq z] at this) hfs hcell hkind hnames hg ht he hs
end L2
namespace K72
open PySem PySem.Spec PyProof.Rows TJ L2
abbrev Gg (n:Str) (a:Addr):Prop:=∀P,Q5 (KX P) Z2 n=some (some (.ref a))
abbrev Gn (n:Str):Prop:=∀P,Q5 (KX P) Z2 n=some none
noncomputable abbrev kx (w:W0):=KX w.params
noncomputable abbrev Ca (P:Program) (w:W0) (mg:Str->Option Value) (base:Heap):=Cal P w (KX w.params) mg base
noncomputable abbrev CaE (P:Program) (w:W0) (mg:Str->Option Value) (base:Heap):=CalE P w (KX w.params) mg base
noncomputable abbrev Fo (P:Program) (w:W0) (mg:Str->Option Value) (base:Heap):=FnOk P w (KX w.params) mg base
theorem z0g:Gn "isinstance":=λ _=>by kernel_rfl
theorem n_len:Gn "len":=λ _=>by kernel_rfl
theorem n_all:Gn "all":=λ _=>by kernel_rfl
theorem n_max:Gn "max":=λ _=>by kernel_rfl
theorem n_min:Gn "min":=λ _=>by kernel_rfl
theorem n_int:Gn "int":=λ _=>by kernel_rfl
theorem n_str:Gn "str":=λ _=>by kernel_rfl
theorem n_bool:Gn "bool":=λ _=>by kernel_rfl
theorem z34:Gn "tuple":=λ _=>by kernel_rfl
theorem n_list:Gn "list":=λ _=>by kernel_rfl
theorem zc6:Gn "range":=λ _=>by kernel_rfl
theorem z3z:Gn "sorted":=λ _=>by kernel_rfl
theorem n_sum:Gn "sum":=λ _=>by kernel_rfl
theorem z14:Gn "enumerate":=λ _=>by kernel_rfl
theorem zev:Gn "reversed":=λ _=>by kernel_rfl
theorem z6i (P:R0):Q5 (KX P) Z2 "GREATEST_WORTH" = some (some (.int (1000000000) 196)):=by kernel_rfl
theorem zdl:Gg "is_whole" 28:=λ _=>by kernel_rfl
theorem zd9:Gg "is_within" 35:=λ _=>by kernel_rfl
theorem zdt:Gg "is_worth" 42:=λ _=>by kernel_rfl
theorem z9s:Gg "is_tuple_of" 49:=λ _=>by kernel_rfl
theorem z7h:Gg "TaleError" 59:=λ _=>by kernel_rfl
theorem zdq:Gg "NoDeed" 72:=λ _=>by kernel_rfl
theorem zfj:Gg "NoTale" 84:=λ _=>by kernel_rfl
theorem z4e:Gg "NoStrictness" 96:=λ _=>by kernel_rfl
theorem zc2:Gg "NoThing" 108:=λ _=>by kernel_rfl
theorem zc8:Gg "NoOrder" 120:=λ _=>by kernel_rfl
theorem zbs:Gg "NoHand" 132:=λ _=>by kernel_rfl
theorem z96:Gg "NotPlain" 144:=λ _=>by kernel_rfl
theorem zdm:Gg "NoPlan" 156:=λ _=>by kernel_rfl
theorem z6q:Gg "NoDealings" 168:=λ _=>by kernel_rfl
theorem zic:Gg "NoRow" 180:=λ _=>by kernel_rfl
theorem z4i:Gg "FIRST_STATES" 183:=λ _=>by kernel_rfl
theorem z5s:Gg "WORTHS_OF_VERBS" 186:=λ _=>by kernel_rfl
theorem z6b:Gg "read_state" 193:=λ _=>by kernel_rfl
theorem z5m:Gg "write_state" 200:=λ _=>by kernel_rfl
theorem z3o:Gg "add_to_number" 207:=λ _=>by kernel_rfl
theorem z67:Gg "put_behind" 214:=λ _=>by kernel_rfl
theorem z61:Gg "take_first" 221:=λ _=>by kernel_rfl
theorem z4j:Gg "put_into_set" 228:=λ _=>by kernel_rfl
theorem z4m:Gg "cut_from_set" 233:=λ _=>by kernel_rfl
theorem z6y:Gg "has_in_set" 240:=λ _=>by kernel_rfl
theorem z6a:Gg "swap_state" 247:=λ _=>by kernel_rfl
theorem ziw:Gg "DOERS" 248:=λ _=>by kernel_rfl
theorem zgx:Gg "is_kind" 267:=λ _=>by kernel_rfl
theorem z9o:Gg "first_state" 274:=λ _=>by kernel_rfl
theorem zge:Gg "is_deed" 279:=λ _=>by kernel_rfl
theorem g_do:Gg "do" 286:=λ _=>by kernel_rfl
theorem zkh:Gg "deeds" 293:=λ _=>by kernel_rfl
theorem z8q:Gg "STRICTNESSES" 294:=λ _=>by kernel_rfl
theorem zjh:Gg "has_to" 301:=λ _=>by kernel_rfl
theorem z55:Gg "check_strictness" 308:=λ _=>by kernel_rfl
theorem zat:Gg "goes_ahead" 315:=λ _=>by kernel_rfl
theorem zd5:Gg "Candidate" 337:=λ _=>by kernel_rfl
theorem zio:Gg "Board" 377:=λ _=>by kernel_rfl
theorem zhf:Gg "step_of" 388:=λ _=>by kernel_rfl
theorem z7b:Gg "ended_numbers" 393:=λ _=>by kernel_rfl
theorem zcx:Gg "holds_all" 398:=λ _=>by kernel_rfl
theorem z9l:Gg "first_place" 403:=λ _=>by kernel_rfl
theorem zam:Gg "all_places" 410:=λ _=>by kernel_rfl
theorem zap:Gg "next_layer" 417:=λ _=>by kernel_rfl
theorem z6c:Gg "may_answer" 422:=λ _=>by kernel_rfl
theorem z7t:Gg "open_deed" 429:=λ _=>by kernel_rfl
theorem z4q:Gg "answers_in_orders" 434:=λ _=>by kernel_rfl
theorem z4f:Gg "_law_cell_at" 441:=λ _=>by kernel_rfl
theorem zdf:Gg "_law_take" 448:=λ _=>by kernel_rfl
theorem zgj:Gg "_law_do" 453:=λ _=>by kernel_rfl
theorem zbr:Gg "_law_first" 458:=λ _=>by kernel_rfl
theorem zan:Gg "_law_worth" 465:=λ _=>by kernel_rfl
theorem zd7:Gg "_law_verb" 472:=λ _=>by kernel_rfl
theorem z9y:Gg "_law_things" 477:=λ _=>by kernel_rfl
theorem z83:Gg "_law_applied" 482:=λ _=>by kernel_rfl
theorem zdb:Gg "_law_tale" 487:=λ _=>by kernel_rfl
theorem zas:Gg "_law_deeds" 494:=λ _=>by kernel_rfl
theorem za2:Gg "_law_caught" 539:=λ _=>by kernel_rfl
theorem g_law:Gg "law" 544:=λ _=>by kernel_rfl
theorem zj5 (P:R0):N8 (KX P) 132 [.type "ValueError",.type "Exception",.type "BaseException",.type "object"] "ValueError.__new__" = true:=by kernel_rfl
theorem z5v (P:R0):excCls (KX P) 132=true:=by kernel_rfl
noncomputable def kl_FIRST_STATES:List (Str×V):=[("register",.int (0)),("counter",.int (0)),("queue",.ref 184),("set",.ref 185),("cell",.int (0))]
theorem z3q (P:R0):KDict (KX P) P 183 kl_FIRST_STATES:=⟨⟨#[⟨(j0 P "register"),(.str "register" 410),(.int (0) 411)⟩,⟨(j0 P "counter"),(.str "counter" 412),(.int (0) 413)⟩,⟨(j0 P "queue"),(.str "queue" 414),(.ref 184)⟩,⟨(j0 P "set"),(.str "set" 415),(.ref 185)⟩,⟨(j0 P "cell"),(.str "cell" 416),(.int (0) 417)⟩],5,by kernel_rfl,(.cons ⟨⟨_,rfl⟩,rfl,⟨_,rfl⟩⟩ (.cons ⟨⟨_,rfl⟩,rfl,⟨_,rfl⟩⟩ (.cons ⟨⟨_,rfl⟩,rfl,rfl⟩ (.cons ⟨⟨_,rfl⟩,rfl,rfl⟩ (.cons ⟨⟨_,rfl⟩,rfl,⟨_,rfl⟩⟩ .nil)))))⟩,by decide⟩
noncomputable def kl_WORTHS_OF_VERBS:List (Str×V):=[("read",.int (0)),("take",.int (0)),("write",.int (1)),("add",.int (1)),("put",.int (1)),("cut",.int (1)),("has",.int (1)),("swap",.int (2))]
theorem z54 (P:R0):KDict (KX P) P 186 kl_WORTHS_OF_VERBS:=⟨⟨#[⟨(j0 P "read"),(.str "read" 424),(.int (0) 425)⟩,⟨(j0 P "take"),(.str "take" 426),(.int (0) 427)⟩,⟨(j0 P "write"),(.str "write" 428),(.int (1) 429)⟩,⟨(j0 P "add"),(.str "add" 430),(.int (1) 431)⟩,⟨(j0 P "put"),(.str "put" 432),(.int (1) 433)⟩,⟨(j0 P "cut"),(.str "cut" 434),(.int (1) 435)⟩,⟨(j0 P "has"),(.str "has" 436),(.int (1) 437)⟩,⟨(j0 P "swap"),(.str "swap" 438),(.int (2) 439)⟩],8,by kernel_rfl,(.cons ⟨⟨_,rfl⟩,rfl,⟨_,rfl⟩⟩ (.cons ⟨⟨_,rfl⟩,rfl,⟨_,rfl⟩⟩ (.cons ⟨⟨_,rfl⟩,rfl,⟨_,rfl⟩⟩ (.cons ⟨⟨_,rfl⟩,rfl,⟨_,rfl⟩⟩ (.cons ⟨⟨_,rfl⟩,rfl,⟨_,rfl⟩⟩ (.cons ⟨⟨_,rfl⟩,rfl,⟨_,rfl⟩⟩ (.cons ⟨⟨_,rfl⟩,rfl,⟨_,rfl⟩⟩ (.cons ⟨⟨_,rfl⟩,rfl,⟨_,rfl⟩⟩ .nil))))))))⟩,by decide⟩
noncomputable def kl_DOERS:List ((Str×Str)×V):=[(("register","read"),.ref 193),(("register","write"),.ref 200),(("counter","read"),.ref 193),(("counter","add"),.ref 207),(("queue","put"),.ref 214),(("queue","take"),.ref 221),(("set","put"),.ref 228),(("set","cut"),.ref 233),(("set","has"),.ref 240),(("cell","read"),.ref 193),(("cell","write"),.ref 200),(("cell","swap"),.ref 247)]
theorem zf3 (P:R0):KDictT (KX P) P 248 kl_DOERS:=⟨⟨#[⟨(N1 (t0 [j0 P "register",j0 P "read"])),(.ref 249),(.ref 193)⟩,⟨(N1 (t0 [j0 P "register",j0 P "write"])),(.ref 250),(.ref 200)⟩,⟨(N1 (t0 [j0 P "counter",j0 P "read"])),(.ref 251),(.ref 193)⟩,⟨(N1 (t0 [j0 P "counter",j0 P "add"])),(.ref 252),(.ref 207)⟩,⟨(N1 (t0 [j0 P "queue",j0 P "put"])),(.ref 253),(.ref 214)⟩,⟨(N1 (t0 [j0 P "queue",j0 P "take"])),(.ref 254),(.ref 221)⟩,⟨(N1 (t0 [j0 P "set",j0 P "put"])),(.ref 255),(.ref 228)⟩,⟨(N1 (t0 [j0 P "set",j0 P "cut"])),(.ref 256),(.ref 233)⟩,⟨(N1 (t0 [j0 P "set",j0 P "has"])),(.ref 257),(.ref 240)⟩,⟨(N1 (t0 [j0 P "cell",j0 P "read"])),(.ref 258),(.ref 193)⟩,⟨(N1 (t0 [j0 P "cell",j0 P "write"])),(.ref 259),(.ref 200)⟩,⟨(N1 (t0 [j0 P "cell",j0 P "swap"])),(.ref 260),(.ref 247)⟩],12,by kernel_rfl,(.cons ⟨⟨249,519,520,0,rfl,by kernel_rfl⟩,rfl,rfl⟩ (.cons ⟨⟨250,521,522,0,rfl,by kernel_rfl⟩,rfl,rfl⟩ (.cons ⟨⟨251,523,524,0,rfl,by kernel_rfl⟩,rfl,rfl⟩ (.cons ⟨⟨252,525,526,0,rfl,by kernel_rfl⟩,rfl,rfl⟩ (.cons ⟨⟨253,527,528,0,rfl,by kernel_rfl⟩,rfl,rfl⟩ (.cons ⟨⟨254,529,530,0,rfl,by kernel_rfl⟩,rfl,rfl⟩ (.cons ⟨⟨255,531,532,0,rfl,by kernel_rfl⟩,rfl,rfl⟩ (.cons ⟨⟨256,533,534,0,rfl,by kernel_rfl⟩,rfl,rfl⟩ (.cons ⟨⟨257,535,536,0,rfl,by kernel_rfl⟩,rfl,rfl⟩ (.cons ⟨⟨258,537,538,0,rfl,by kernel_rfl⟩,rfl,rfl⟩ (.cons ⟨⟨259,539,540,0,rfl,by kernel_rfl⟩,rfl,rfl⟩ (.cons ⟨⟨260,541,542,0,rfl,by kernel_rfl⟩,rfl,rfl⟩ .nil))))))))))))⟩,by decide +kernel,by decide⟩
noncomputable abbrev y29:Stmt:=top 3
noncomputable abbrev y1e:FuncData:=fnX "is_whole" "is_whole" (top 3) "talejudge.basics" 194 27
theorem z60 (P:R0):Fun (KX P) "is_whole" "is_whole" y29 28 y1e:=z0f
theorem zfa (P:R0):Binds (KX P) y1e ["value"] []:=(z60 P).binds λ _ _ _ _ _ _=>us1 λ _=>rfl
theorem zdd:FnScope ["value"] ["value"] (z06 y29):=.k
noncomputable abbrev y22:Stmt:=top 4
noncomputable abbrev y12:FuncData:=fnX "is_within" "is_within" (top 4) "talejudge.basics" 194 34
theorem z50 (P:R0):Fun (KX P) "is_within" "is_within" y22 35 y12:=z0f
theorem zde (P:R0):Binds (KX P) y12 ["value","greatest"] []:=(z50 P).binds λ _ _ _ _ _ _=>us2 λ _ _=>rfl
theorem zav:FnScope ["value","greatest"] ["value","greatest"] (z06 y22):=.k
noncomputable abbrev y2a:Stmt:=top 5
noncomputable abbrev y1f:FuncData:=fnX "is_worth" "is_worth" (top 5) "talejudge.basics" 194 41
theorem z70 (P:R0):Fun (KX P) "is_worth" "is_worth" y2a 42 y1f:=z0f
theorem zfp (P:R0):Binds (KX P) y1f ["value"] []:=(z70 P).binds λ _ _ _ _ _ _=>us1 λ _=>rfl
theorem zd6:FnScope ["value"] ["value"] (z06 y2a):=.k
noncomputable abbrev y1g:Stmt:=top 6
noncomputable abbrev y0k:FuncData:=fnX "is_tuple_of" "is_tuple_of" (top 6) "talejudge.basics" 194 48
theorem z2o (P:R0):Fun (KX P) "is_tuple_of" "is_tuple_of" y1g 49 y0k:=z0f
theorem z8x (P:R0):Binds (KX P) y0k ["value","many"] []:=(z2o P).binds λ _ _ _ _ _ _=>us2 λ _ _=>rfl
theorem z8n:FnScope ["value","many"] ["value","many"] (z06 y1g):=.k
noncomputable abbrev y1q:Stmt:=top 22
noncomputable abbrev y0q:FuncData:=fnX "read_state" "read_state" (top 22) "talejudge.store" 408 192
theorem z40 (P:R0):Fun (KX P) "read_state" "read_state" y1q 193 y0q:=z0f
theorem zaz (P:R0):Binds (KX P) y0q ["state","worth"] []:=(z40 P).binds λ _ _ _ _ _ _=>us2 λ _ _=>rfl
theorem z9g:FnScope ["state","worth"] ["state","worth"] (z06 y1q):=.k
noncomputable abbrev y1h:Stmt:=top 23
noncomputable abbrev y0l:FuncData:=fnX "write_state" "write_state" (top 23) "talejudge.store" 408 199
theorem z3d (P:R0):Fun (KX P) "write_state" "write_state" y1h 200 y0l:=z0f
theorem z94 (P:R0):Binds (KX P) y0l ["state","worth"] []:=(z3d P).binds λ _ _ _ _ _ _=>us2 λ _ _=>rfl
theorem z89:FnScope ["state","worth"] ["state","worth"] (z06 y1h):=.k
noncomputable abbrev y13:Stmt:=top 24
noncomputable abbrev y0a:FuncData:=fnX "add_to_number" "add_to_number" (top 24) "talejudge.store" 408 206
theorem z20 (P:R0):Fun (KX P) "add_to_number" "add_to_number" y13 207 y0a:=z0f
theorem z78 (P:R0):Binds (KX P) y0a ["state","worth"] []:=(z20 P).binds λ _ _ _ _ _ _=>us2 λ _ _=>rfl
theorem z65:FnScope ["state","worth"] ["state","worth"] (z06 y13):=.k
noncomputable abbrev y1r:Stmt:=top 25
noncomputable abbrev y0r:FuncData:=fnX "put_behind" "put_behind" (top 25) "talejudge.store" 408 213
theorem z3u (P:R0):Fun (KX P) "put_behind" "put_behind" y1r 214 y0r:=z0f
theorem zay (P:R0):Binds (KX P) y0r ["state","worth"] []:=(z3u P).binds λ _ _ _ _ _ _=>us2 λ _ _=>rfl
theorem za1:FnScope ["state","worth"] ["state","worth"] (z06 y1r):=.k
noncomputable abbrev y1s:Stmt:=top 26
noncomputable abbrev y0s:FuncData:=fnX "take_first" "take_first" (top 26) "talejudge.store" 408 220
theorem z3v (P:R0):Fun (KX P) "take_first" "take_first" y1s 221 y0s:=z0f
theorem zbc (P:R0):Binds (KX P) y0s ["state","worth"] []:=(z3v P).binds λ _ _ _ _ _ _=>us2 λ _ _=>rfl
theorem za5:FnScope ["state","worth"] ["state","worth"] (z06 y1s):=.k
noncomputable abbrev y1a:Stmt:=top 27
noncomputable abbrev y0d:FuncData:=fnX "put_into_set" "put_into_set" (top 27) "talejudge.store" 408 227
theorem z2a (P:R0):Fun (KX P) "put_into_set" "put_into_set" y1a 228 y0d:=z0f
theorem z8o (P:R0):Binds (KX P) y0d ["state","worth"] []:=(z2a P).binds λ _ _ _ _ _ _=>us2 λ _ _=>rfl
theorem z72:FnScope ["state","worth"] ["state","worth"] (z06 y1a):=.k
noncomputable abbrev y1b:Stmt:=top 28
noncomputable abbrev y0e:FuncData:=fnX "cut_from_set" "cut_from_set" (top 28) "talejudge.store" 408 232
theorem z2f (P:R0):Fun (KX P) "cut_from_set" "cut_from_set" y1b 233 y0e:=z0f
theorem z7v (P:R0):Binds (KX P) y0e ["state","worth"] []:=(z2f P).binds λ _ _ _ _ _ _=>us2 λ _ _=>rfl
theorem z7d:FnScope ["state","worth"] ["state","worth"] (z06 y1b):=.k
noncomputable abbrev y1t:Stmt:=top 29
noncomputable abbrev y0t:FuncData:=fnX "has_in_set" "has_in_set" (top 29) "talejudge.store" 408 239
theorem z3w (P:R0):Fun (KX P) "has_in_set" "has_in_set" y1t 240 y0t:=z0f
theorem zaq (P:R0):Binds (KX P) y0t ["state","worth"] []:=(z3w P).binds λ _ _ _ _ _ _=>us2 λ _ _=>rfl
theorem z9e:FnScope ["state","worth"] ["state","worth"] (z06 y1t):=.k
noncomputable abbrev y1u:Stmt:=top 30
noncomputable abbrev y0u:FuncData:=fnX "swap_state" "swap_state" (top 30) "talejudge.store" 408 246
theorem z4a (P:R0):Fun (KX P) "swap_state" "swap_state" y1u 247 y0u:=z0f
theorem zaw (P:R0):Binds (KX P) y0u ["state","worth"] []:=(z4a P).binds λ _ _ _ _ _ _=>us2 λ _ _=>rfl
theorem z95:FnScope ["state","worth"] ["state","worth"] (z06 y1u):=.k
noncomputable abbrev y2c:Stmt:=top 32
noncomputable abbrev y1m:FuncData:=fnX "is_kind" "is_kind" (top 32) "talejudge.store" 408 266
theorem z85 (P:R0):Fun (KX P) "is_kind" "is_kind" y2c 267 y1m:=z0f
theorem zgu (P:R0):Binds (KX P) y1m ["kind"] []:=(z85 P).binds λ _ _ _ _ _ _=>us1 λ _=>rfl
theorem zei:FnScope ["kind"] ["kind"] (z06 y2c):=.k
noncomputable abbrev y1i:Stmt:=top 33
noncomputable abbrev y0m:FuncData:=fnX "first_state" "first_state" (top 33) "talejudge.store" 408 273
theorem z2x (P:R0):Fun (KX P) "first_state" "first_state" y1i 274 y0m:=z0f
theorem z9f (P:R0):Binds (KX P) y0m ["kind"] []:=(z2x P).binds λ _ _ _ _ _ _=>us1 λ _=>rfl
theorem z8l:FnScope ["kind"] ["kind"] (z06 y1i):=.k
noncomputable abbrev y2d:Stmt:=top 34
noncomputable abbrev y1n:FuncData:=fnX "is_deed" "is_deed" (top 34) "talejudge.store" 408 278
theorem z8p (P:R0):Fun (KX P) "is_deed" "is_deed" y2d 279 y1n:=z0f
theorem zgo (P:R0):Binds (KX P) y1n ["kind","verb","worth"] []:=(z8p P).binds λ _ _ _ _ _ _=>us3 λ _ _ _=>rfl
theorem sc_is_deed:FnScope ["kind","verb","worth","many"] ["kind","verb","worth"] (z06 y2d):=.k
noncomputable abbrev y2i:Stmt:=top 35
noncomputable abbrev y2j:FuncData:=fnX "do" "do" (top 35) "talejudge.store" 408 285
theorem F_do (P:R0):Fun (KX P) "do" "do" y2i 286 y2j:=z0f
theorem b_do (P:R0):Binds (KX P) y2j ["kind","state","verb","worth"] []:=(F_do P).binds λ _ _ _ _ _ _=>us4 λ _ _ _ _=>rfl
theorem sc_do:FnScope ["kind","state","verb","worth","doer"] ["kind","state","verb","worth"] (z06 y2i):=.k
noncomputable abbrev y2h:Stmt:=top 37
noncomputable abbrev y2b:FuncData:=fnX "deeds" "deeds" (top 37) "talejudge.tales" 611 292
theorem zfw (P:R0):Fun (KX P) "deeds" "deeds" y2h 293 y2b:=z0f
theorem zl0 (P:R0):Binds (KX P) y2b ["tale"] []:=(zfw P).binds λ _ _ _ _ _ _=>us1 λ _=>rfl
theorem sc_deeds:FnScope ["tale","told","numbers","place","event","number","begun"] ["tale"] (z06 y2h):=.k
noncomputable abbrev y2g:Stmt:=top 40
noncomputable abbrev y23:FuncData:=fnX "has_to" "has_to" (top 40) "talejudge.orders" 626 300
theorem zbq (P:R0):Fun (KX P) "has_to" "has_to" y2g 301 y23:=z0f
theorem zk8 (P:R0):Binds (KX P) y23 ["tale","strictness"] []:=(zbq P).binds λ _ _ _ _ _ _=>us2 λ _ _=>rfl
theorem sc_has_to:FnScope ["tale","strictness","told","pairs","ahead","one","behind","other"] ["tale","strictness"] (z06 y2g):=.k
noncomputable abbrev y0i:Stmt:=top 41
noncomputable abbrev y06:FuncData:=fnX "check_strictness" "check_strictness" (top 41) "talejudge.orders" 626 307
theorem z15 (P:R0):Fun (KX P) "check_strictness" "check_strictness" y0i 308 y06:=z0f
theorem z58 (P:R0):Binds (KX P) y06 ["strictness"] []:=(z15 P).binds λ _ _ _ _ _ _=>us1 λ _=>rfl
theorem z4d:FnScope ["strictness"] ["strictness"] (z06 y0i):=.k
noncomputable abbrev y1v:Stmt:=top 42
noncomputable abbrev y0v:FuncData:=fnX "goes_ahead" "goes_ahead" (top 42) "talejudge.orders" 626 314
theorem z44 (P:R0):Fun (KX P) "goes_ahead" "goes_ahead" y1v 315 y0v:=z0f
theorem zbf (P:R0):Binds (KX P) y0v ["one","other","strictness"] []:=(z44 P).binds λ _ _ _ _ _ _=>us3 λ _ _ _=>rfl
theorem zad:FnScope ["one","other","strictness"] ["one","other","strictness"] (z06 y1v):=.k
noncomputable abbrev y2e:Stmt:=top 46
noncomputable abbrev y1o:FuncData:=fnX "step_of" "step_of" (top 46) "talejudge.places" 662 387
theorem z87 (P:R0):Fun (KX P) "step_of" "step_of" y2e 388 y1o:=z0f
theorem zhh (P:R0):Binds (KX P) y1o ["candidate","place"] []:=(z87 P).binds λ _ _ _ _ _ _=>us2 λ _ _=>rfl
theorem sc_step_of:FnScope ["candidate","place","thing","states","done","numbers"] ["candidate","place"] (z06 y2e):=.k
noncomputable abbrev y14:Stmt:=top 47
noncomputable abbrev y0b:FuncData:=fnX "ended_numbers" "ended_numbers" (top 47) "talejudge.places" 662 392
theorem z21 (P:R0):Fun (KX P) "ended_numbers" "ended_numbers" y14 393 y0b:=z0f
theorem z77 (P:R0):Binds (KX P) y0b ["told"] []:=(z21 P).binds λ _ _ _ _ _ _=>us1 λ _=>rfl
theorem z6d:FnScope ["told"] ["told"] (z06 y14):=.k
noncomputable abbrev y24:Stmt:=top 48
noncomputable abbrev y15:FuncData:=fnX "holds_all" "holds_all" (top 48) "talejudge.places" 662 397
theorem z53 (P:R0):Fun (KX P) "holds_all" "holds_all" y24 398 y15:=z0f
theorem zd8 (P:R0):Binds (KX P) y15 ["done","numbers"] []:=(z53 P).binds λ _ _ _ _ _ _=>us2 λ _ _=>rfl
theorem zak:FnScope ["done","numbers"] ["done","numbers"] (z06 y24):=.k
noncomputable abbrev y1j:Stmt:=top 49
noncomputable abbrev y0n:FuncData:=fnX "first_place" "first_place" (top 49) "talejudge.places" 662 402
theorem z3e (P:R0):Fun (KX P) "first_place" "first_place" y1j 403 y0n:=z0f
theorem z8v (P:R0):Binds (KX P) y0n ["tale"] []:=(z3e P).binds λ _ _ _ _ _ _=>us1 λ _=>rfl
theorem z8g:FnScope ["tale"] ["tale"] (z06 y1j):=.k
noncomputable abbrev y1w:Stmt:=top 50
noncomputable abbrev y0w:FuncData:=fnX "all_places" "all_places" (top 50) "talejudge.places" 662 409
theorem z41 (P:R0):Fun (KX P) "all_places" "all_places" y1w 410 y0w:=z0f
theorem zbj (P:R0):Binds (KX P) y0w ["tale","strictness"] []:=(z41 P).binds λ _ _ _ _ _ _=>us2 λ _ _=>rfl
theorem sc_all_places:FnScope ["tale","strictness","board","found","layer"] ["tale","strictness"] (z06 y1w):=.k
noncomputable abbrev y1x:Stmt:=top 51
noncomputable abbrev y0x:FuncData:=fnX "next_layer" "next_layer" (top 51) "talejudge.places" 662 416
theorem z3t (P:R0):Fun (KX P) "next_layer" "next_layer" y1x 417 y0x:=z0f
theorem zb3 (P:R0):Binds (KX P) y0x ["board","layer"] []:=(z3t P).binds λ _ _ _ _ _ _=>us2 λ _ _=>rfl
theorem sc_next_layer:FnScope ["board","layer","reached","place","step"] ["board","layer"] (z06 y1x):=.k
noncomputable abbrev y1y:Stmt:=top 53
noncomputable abbrev y09:FuncData:=fnX "may_answer" "may_answer" (top 53) "talejudge.beginnings" 817 421
theorem z1f (P:R0):Fun (KX P) "may_answer" "may_answer" y1y 422 y09:=z0f
theorem z6h (P:R0):Binds (KX P) y09 ["tale","hand"] []:=(z1f P).binds λ _ _ _ _ _ _=>us2 λ _ _=>rfl
theorem sc_may_answer:FnScope ["tale","hand","heard","numbers","texts"] ["tale","hand"] (z06 y1y):=.k
noncomputable abbrev y25:Stmt:=top 54
noncomputable abbrev y0f:FuncData:=fnX "open_deed" "open_deed" (top 54) "talejudge.beginnings" 817 428
theorem z23 (P:R0):Fun (KX P) "open_deed" "open_deed" y25 429 y0f:=z0f
theorem z7n (P:R0):Binds (KX P) y0f ["tale","hand"] []:=(z23 P).binds λ _ _ _ _ _ _=>us2 λ _ _=>rfl
theorem sc_open_deed:FnScope ["tale","hand","number","deed"] ["tale","hand"] (z06 y25):=.k
noncomputable abbrev y0g:Stmt:=top 55
noncomputable abbrev y04:FuncData:=fnX "answers_in_orders" "answers_in_orders" (top 55) "talejudge.beginnings" 817 433
theorem z11 (P:R0):Fun (KX P) "answers_in_orders" "answers_in_orders" y0g 434 y04:=z0f
theorem z4p (P:R0):Binds (KX P) y04 ["tale","number"] []:=(z11 P).binds λ _ _ _ _ _ _=>us2 λ _ _=>rfl
theorem sc_answers_in_orders:FnScope ["tale","number","board","hopeful","heard","place","steps","step"] ["tale","number"] (z06 y0g):=.k
noncomputable abbrev y1c:Stmt:=top 57
noncomputable abbrev y07:FuncData:=fY "_law_cell_at" "_law_cell_at" (top 57) 440
theorem z0y (P:R0):Fun (KX P) "_law_cell_at" "_law_cell_at" y1c 441 y07:=z0f
theorem z4s (P:R0):Binds (KX P) y07 ["script","k"] []:=(z0y P).binds λ _ _ _ _ _ _=>us2 λ _ _=>rfl
theorem z3p:FnScope ["script","k"] ["script","k"] (z06 y1c):=.k
noncomputable abbrev y26:Stmt:=top 58
noncomputable abbrev y16:FuncData:=fY "_law_take" "_law_take" (top 58) 447
theorem z51 (P:R0):Fun (KX P) "_law_take" "_law_take" y26 448 y16:=z0f
theorem zda (P:R0):Binds (KX P) y16 ["deck","many"] []:=(z51 P).binds λ _ _ _ _ _ _=>us2 λ _ _=>rfl
theorem sc__law_take:FnScope ["deck","many","told","number"] ["deck","many"] (z06 y26):=.k
noncomputable abbrev y2f:Stmt:=top 59
noncomputable abbrev y1p:FuncData:=fY "_law_do" "_law_do" (top 59) 452
theorem z7y (P:R0):Fun (KX P) "_law_do" "_law_do" y2f 453 y1p:=z0f
theorem zgn (P:R0):Binds (KX P) y1p ["kind","state","verb","worth"] []:=(z7y P).binds λ _ _ _ _ _ _=>us4 λ _ _ _ _=>rfl
theorem sc__law_do:FnScope ["kind","state","verb","worth","there"] ["kind","state","verb","worth"] (z06 y2f):=.k
noncomputable abbrev y1z:Stmt:=top 60
noncomputable abbrev y0y:FuncData:=fY "_law_first" "_law_first" (top 60) 457
theorem z42 (P:R0):Fun (KX P) "_law_first" "_law_first" y1z 458 y0y:=z0f
theorem zau (P:R0):Binds (KX P) y0y ["things"] []:=(z42 P).binds λ _ _ _ _ _ _=>us1 λ _=>rfl
theorem z91:FnScope ["things"] ["things"] (z06 y1z):=.k
noncomputable abbrev y20:Stmt:=top 61
noncomputable abbrev y0z:FuncData:=fY "_law_worth" "_law_worth" (top 61) 464
theorem z43 (P:R0):Fun (KX P) "_law_worth" "_law_worth" y20 465 y0z:=z0f
theorem zbb (P:R0):Binds (KX P) y0z ["deck"] []:=(z43 P).binds λ _ _ _ _ _ _=>us1 λ _=>rfl
theorem z9m:FnScope ["deck"] ["deck"] (z06 y20):=.k
noncomputable abbrev y27:Stmt:=top 62
noncomputable abbrev y17:FuncData:=fY "_law_verb" "_law_verb" (top 62) 471
theorem z5e (P:R0):Fun (KX P) "_law_verb" "_law_verb" y27 472 y17:=z0f
theorem zcw (P:R0):Binds (KX P) y17 ["deck","kind"] []:=(z5e P).binds λ _ _ _ _ _ _=>us2 λ _ _=>rfl
theorem sc__law_verb:FnScope ["deck","kind","some","verb"] ["deck","kind"] (z06 y27):=.k
noncomputable abbrev y1k:Stmt:=top 63
noncomputable abbrev y0o:FuncData:=fY "_law_things" "_law_things" (top 63) 476
theorem z2u (P:R0):Fun (KX P) "_law_things" "_law_things" y1k 477 y0o:=z0f
theorem z99 (P:R0):Binds (KX P) y0o ["deck"] []:=(z2u P).binds λ _ _ _ _ _ _=>us1 λ _=>rfl
theorem sc__law_things:FnScope ["deck","words","told","k"] ["deck"] (z06 y1k):=.k
noncomputable abbrev y1d:Stmt:=top 64
noncomputable abbrev y0h:FuncData:=fY "_law_applied" "_law_applied" (top 64) 481
theorem z2b (P:R0):Fun (KX P) "_law_applied" "_law_applied" y1d 482 y0h:=z0f
theorem z81 (P:R0):Binds (KX P) y0h ["things","states","own"] []:=(z2b P).binds λ _ _ _ _ _ _=>us3 λ _ _ _=>rfl
theorem sc__law_applied:FnScope ["things","states","own","at","state","answer"] ["things","states","own"] (z06 y1d):=.k
noncomputable abbrev y28:Stmt:=top 65
noncomputable abbrev y18:FuncData:=fY "_law_tale" "_law_tale" (top 65) 486
theorem z5f (P:R0):Fun (KX P) "_law_tale" "_law_tale" y28 487 y18:=z0f
theorem zd1 (P:R0):Binds (KX P) y18 ["script","most"] []:=(z5f P).binds λ _ _ _ _ _ _=>us2 λ _ _=>rfl
theorem sc__law_tale:FnScope ["script","most","way","deck","things","hands","spoil","states","events","under_way","k","hand","own","answer","name","kind","verb","worth"] ["script","most"] (z06 y28):=.k
noncomputable abbrev y21:Stmt:=top 66
noncomputable abbrev y10:FuncData:=fY "_law_deeds" "_law_deeds" (top 66) 493
theorem z3y (P:R0):Fun (KX P) "_law_deeds" "_law_deeds" y21 494 y10:=z0f
theorem zbp (P:R0):Binds (KX P) y10 ["tale"] []:=(z3y P).binds λ _ _ _ _ _ _=>us1 λ _=>rfl
theorem sc__law_deeds:FnScope ["tale","told","last","at","event"] ["tale"] (z06 y21):=.k
noncomputable abbrev y1l:Stmt:=top 73
noncomputable abbrev y0p:FuncData:=fY "_law_caught" "_law_caught" (top 73) 538
theorem z37 (P:R0):Fun (KX P) "_law_caught" "_law_caught" y1l 539 y0p:=z0f
theorem z9t (P:R0):Binds (KX P) y0p ["tale","hand"] []:=(z37 P).binds λ _ _ _ _ _ _=>us2 λ _ _=>rfl
theorem sc__law_caught:FnScope ["tale","hand","kinds","told","e","others"] ["tale","hand"] (z06 y1l):=.k
noncomputable abbrev y2k:Stmt:=top 74
noncomputable abbrev fd_law:FuncData:=fY "law" "law" (top 74) 543
theorem F_law (P:R0):Fun (KX P) "law" "law" y2k 544 fd_law:=z0f
theorem sc_law:FnScope ["script","tale","many","some","there","hand","due","cell"] ["script"] (z06 y2k):=.k
noncomputable abbrev y0c:Stmt:=subS (top 44) 0
noncomputable abbrev y02:FuncData:=fnX "__init__" "Candidate.__init__" (subS (top 44) 0) "talejudge.places" 662 326
theorem z1i (P:R0):Fun (KX P) "__init__" "Candidate.__init__" y0c 327 y02:=z0f
theorem z4b (P:R0):Binds (KX P) y02 ["self","number","deed","thing","kind","pairs"] []:=(z1i P).binds λ _ _ _ _ _ _=>us6 λ _ _ _ _ _ _=>rfl
theorem z3l:FnScope ["self","number","deed","thing","kind","pairs"] ["self","number","deed","thing","kind","pairs"] (z06 y0c):=.k
theorem zbd (P:R0):Mk (KX P) 337 327:=⟨by kernel_rfl,by kernel_rfl,by kernel_rfl,by kernel_rfl⟩
theorem z0c (P:R0):Cls (KX P) 337:=⟨by kernel_rfl,by kernel_rfl,by kernel_rfl,by kernel_rfl⟩
theorem z0q (P:R0):NoAttr (KX P) 337 "number":=by unfold NoAttr;kernel_rfl
theorem z27 (P:R0):NoAttr (KX P) 337 "thing":=by unfold NoAttr;kernel_rfl
theorem z2n (P:R0):NoAttr (KX P) 337 "kind":=by unfold NoAttr;kernel_rfl
theorem z2m (P:R0):NoAttr (KX P) 337 "verb":=by unfold NoAttr;kernel_rfl
theorem z26 (P:R0):NoAttr (KX P) 337 "worth":=by unfold NoAttr;kernel_rfl
theorem z0x (P:R0):NoAttr (KX P) 337 "answer":=by unfold NoAttr;kernel_rfl
theorem z1w (P:R0):NoAttr (KX P) 337 "aheads":=by unfold NoAttr;kernel_rfl
theorem z1j (P:R0):NoAttr (KX P) 337 "behinds":=by unfold NoAttr;kernel_rfl
noncomputable abbrev y08:Stmt:=subS (top 44) 1
noncomputable abbrev y01:FuncData:=fnX "may_stand" "Candidate.may_stand" (subS (top 44) 1) "talejudge.places" 662 333
theorem z1b (P:R0):Fun (KX P) "may_stand" "Candidate.may_stand" y08 334 y01:=z0f
theorem z3k (P:R0):Binds (KX P) y01 ["self","done"] []:=(z1b P).binds λ _ _ _ _ _ _=>us2 λ _ _=>rfl
theorem sc_Candidate_may_stand:FnScope ["self","done","ahead","behind"] ["self","done"] (z06 y08):=.k
theorem z32 (P:R0):Meth (KX P) 337 "may_stand" 334:=⟨by kernel_rfl,by kernel_rfl,by kernel_rfl⟩
noncomputable abbrev y11:Stmt:=subS (top 45) 0
noncomputable abbrev y03:FuncData:=fnX "__init__" "Board.__init__" (subS (top 45) 0) "talejudge.places" 662 352
theorem z38 (P:R0):Fun (KX P) "__init__" "Board.__init__" y11 353 y03:=z0f
theorem z2q (P:R0):Binds (KX P) y03 ["self","tale","strictness"] []:=(z38 P).binds λ _ _ _ _ _ _=>us3 λ _ _ _=>rfl
theorem sc_Board___init__:FnScope ["self","tale","strictness","pairs","told","names","number","deed","thing"] ["self","tale","strictness"] (z06 y11):=.k
theorem zem (P:R0):Mk (KX P) 377 353:=⟨by kernel_rfl,by kernel_rfl,by kernel_rfl,by kernel_rfl⟩
theorem z1a (P:R0):Cls (KX P) 377:=⟨by kernel_rfl,by kernel_rfl,by kernel_rfl,by kernel_rfl⟩
theorem z4x (P:R0):NoAttr (KX P) 377 "kinds":=by unfold NoAttr;kernel_rfl
theorem z4r (P:R0):NoAttr (KX P) 377 "first":=by unfold NoAttr;kernel_rfl
theorem z4g (P:R0):NoAttr (KX P) 377 "ended":=by unfold NoAttr;kernel_rfl
theorem z0w (P:R0):NoAttr (KX P) 377 "candidates":=by unfold NoAttr;kernel_rfl
noncomputable abbrev y0j:Stmt:=subS (top 45) 1
noncomputable abbrev y00:FuncData:=fnX "steps_from" "Board.steps_from" (subS (top 45) 1) "talejudge.places" 662 359
theorem z24 (P:R0):Fun (KX P) "steps_from" "Board.steps_from" y0j 360 y00:=z0f
theorem z29 (P:R0):Binds (KX P) y00 ["self","place"] []:=(z24 P).binds λ _ _ _ _ _ _=>us2 λ _ _=>rfl
theorem sc_Board_steps_from:FnScope ["self","place","steps","candidate","step"] ["self","place"] (z06 y0j):=.k
theorem z1s (P:R0):Meth (KX P) 377 "steps_from" 360:=⟨by kernel_rfl,by kernel_rfl,by kernel_rfl⟩
noncomputable abbrev y19:Stmt:=subS (top 45) 2
noncomputable abbrev y05:FuncData:=fnX "ends_at" "Board.ends_at" (subS (top 45) 2) "talejudge.places" 662 366
theorem z3r (P:R0):Fun (KX P) "ends_at" "Board.ends_at" y19 367 y05:=z0f
theorem z76 (P:R0):Binds (KX P) y05 ["self","place"] []:=(z3r P).binds λ _ _ _ _ _ _=>us2 λ _ _=>rfl
theorem z71:FnScope ["self","place"] ["self","place"] (z06 y19):=.k
theorem z6e (P:R0):Meth (KX P) 377 "ends_at" 367:=⟨by kernel_rfl,by kernel_rfl,by kernel_rfl⟩
section
variable {P:Program} {w:W0} {mg:Str->Option Value} {base:Heap}
def z22:Sp:=λ vs H Q _=>∃x T,vs=[x]/\TagOf H x T/\Q (.bl (decide (T = "int"))) H
theorem zdh (T:TX (kx w) mg):Fo P w mg base CX0 1 28 y1e ["value"] z22:=by
 refine (z60 w.params).ok zdd (λ b H Q E h=>?_) (λ e A d s H b Q E c h=>?_)
 ·obtain ⟨x,t,rfl,_⟩:=h;rfl
 ·obtain ⟨x,t,rfl,a,q⟩:=h;refine ⟨_,(z04 (ps_ret (pe_and (z0a z0r rfl (T.no (z0g _)) C2 (z00 (pv 0) (z00 (z2w (v:=.ty "int") rfl (T.no (n_int _)) boot_int rfl) pa_nil))) (pe_one (pe_not (z0a z0r rfl (T.no (z0g _)) C2 (z00 (pv 0) (z00 (z2w (v:=.ty "bool") rfl (T.no (n_bool _)) boot_bool rfl) pa_nil)))))))),?_⟩;refine ⟨_,rfl,_,_,_,rfl,a,by decide,_,rfl,?_⟩;by_cases h1:instB t "int" = true
  ·rw [if_pos h1];refine ⟨_,rfl,_,_,_,rfl,a,by decide,_,rfl,?_⟩;rw [z8k a (by decide)];have:(!decide (t = "bool"))=decide (t = "int"):=by rcases a.one with rfl|rfl|rfl|rfl|rfl|rfl|rfl<;>revert h1<;>decide
   rw [this];exact q
  ·rw [if_neg h1];have:decide (t = "int")=false:=by rcases a.one with rfl|rfl|rfl|rfl|rfl|rfl|rfl<;>revert h1<;>decide
   rw [this] at q;exact q
def z6x:Sp:=λ vs H Q _=>∃x T g,vs=[x,.int g]/\TagOf H x T/\Q (.bl (z12 x g)) H
theorem zba (T:TX (kx w) mg) (c0:Ca P w mg base "is_whole" ["value"] 1 z22):Fo P w mg base CX0 2 35 y12 ["value","greatest"] z6x:=by
 refine (z50 w.params).ok zav (λ b H Q E h=>?_) (λ e A d s H b Q E c h=>?_)
 ·obtain ⟨x,t,g,rfl,_⟩:=h;rfl
 ·obtain ⟨x,t,g,rfl,a,q⟩:=h;refine ⟨_,(z04 (ps_ret (pe_and (pe_cal c0 (c.mono (by decide)) rfl (z00 (pv 0) pa_nil)) (pe_one (zj8 op_le op_le (pe_un un_neg (pv 1)) (pv 0) (pv 1)))))),?_⟩;refine ⟨_,rfl,x,t,rfl,a,_,rfl,?_⟩;by_cases h1:t = "int"
  ·subst h1;obtain ⟨i,rfl⟩:=a.int;refine iteT ?_;refine ⟨_,rfl,_,rfl,_,rfl,_,_,rfl,rfl,_,rfl,?_⟩;unfold z12 at q;dsimp only at q;by_cases h2:-g<=i
   ·rw [decide_eq_true h2] at q⊢;refine iteT ⟨_,rfl,_,_,rfl,rfl,?_⟩;rw [j26] at q;exact q
   ·rw [decide_eq_false h2] at q⊢;refine iteF ?_;rw [V6] at q;exact q
  ·rw [decide_eq_false h1];refine iteF ?_;rw [noInt a h1] at q;exact q
def z7m:Sp:=λ vs H Q _=>∃x T,vs=[x]/\TagOf H x T/\Q (.bl (z12 x 1000000000)) H
theorem zd2 (T:TX (kx w) mg) (c0:Ca P w mg base "is_within" ["value","greatest"] 2 z6x):Fo P w mg base CX0 3 42 y1f ["value"] z7m:=by
 refine (z70 w.params).ok zd6 (λ a H Q E h=>?_) (λ e A d s H a Q E b h=>?_)
 ·obtain ⟨x,t,rfl,_⟩:=h;rfl
 ·obtain ⟨x,t,rfl,c,q⟩:=h;refine ⟨_,(z04 (ps_ret (pe_cal c0 (b.mono (by decide)) rfl (z00 (pv 0) (z00 (z0n (v:=.int (1000000000)) rfl (T.of (z6i _)) ⟨_,rfl⟩) pa_nil))))),?_⟩;exact ⟨_,rfl,x,t,1000000000,rfl,c,q⟩
def z4z:Sp:=λ vs H Q _=>∃x T m,vs=[x,.int m]/\TagOf H x T/\Q (.bl (match tupOf H x with|some xs=>decide ((xs.length:Int)=m)|none=>false)) H
theorem z84 (T:TX (kx w) mg):Fo P w mg base CX0 1 49 y0k ["value","many"] z4z:=by
 refine (z2o w.params).ok z8n (λ i H Q E h=>?_) (λ k A j s H i Q E l h=>?_)
 ·obtain ⟨x,t,g,rfl,_⟩:=h;rfl
 ·obtain ⟨x,t,g,rfl,c,q⟩:=h;refine ⟨_,(z04 (ps_ret (pe_and (z0a z0r rfl (T.no (z0g _)) C2 (z00 (pv 0) (z00 (z2w (v:=.ty "tuple") rfl (T.no (z34 _)) V4 rfl) pa_nil))) (pe_one (z3a opEq (z0a z1c rfl (T.no (n_len _)) D4 (z00 (pv 0) pa_nil)) (pv 1) (nomark _)))))),?_⟩;refine ⟨_,rfl,_,_,_,rfl,c,by decide,_,rfl,?_⟩;rw [z8k c (by decide)];by_cases h1:t = "tuple"
  ·subst h1;obtain ⟨a,b,rfl,d⟩:=c.tuple;refine iteT ⟨_,rfl,.inl ⟨a,b,rfl,.inr (SqT.of d),_,rfl,rfl,?_⟩⟩;have e:tupOf H (.ref a)=some b:=by unfold tupOf;dsimp only;rw [d]
   rw [e] at q;have f:decide (V.int (b.length:Int)=V.int g)=decide ((b.length:Int)=g):=by simp
   rw [f];exact q
  ·rw [decide_eq_false h1];refine iteF ?_;rw [noTup c h1] at q;exact q
noncomputable def kindB (x:V):Bool:=match x with
 | .str z=>(kl_FIRST_STATES.lookup z).isSome
 | _=>false
def z6u:Sp:=λ vs H Q _=>∃x T,vs=[x]/\TagOf H x T/\Q (.bl (kindB x)) H
theorem zes (T:TX (kx w) mg):Fo P w mg base CX0 1 267 y1m ["kind"] z6u:=by
 refine (z85 w.params).ok zei (λ b H Q E h=>?_) (λ e A d s H b Q E c h=>?_)
 ·obtain ⟨x,t,rfl,_⟩:=h;rfl
 ·obtain ⟨x,t,rfl,a,q⟩:=h;refine ⟨_,(z04 (ps_ret (pe_and (z0a z0r rfl (T.no (z0g _)) C2 (z00 (pv 0) (z00 (z2w (v:=.ty "str") rfl (T.no (n_str _)) boot_str rfl) pa_nil))) (pe_one (z3a (zjc (z3q _)) (pv 0) (z0n (v:=.ref 183) rfl (T.of (z4i _)) rfl) (by with_unfolding_all rfl)))))),?_⟩;refine ⟨_,rfl,_,_,_,rfl,a,by decide,_,rfl,?_⟩;rw [z8k a (by decide)];by_cases h1:t = "str"
  ·subst h1;obtain ⟨z,rfl⟩:=a.str;exact iteT ⟨_,rfl,z,rfl,rfl,q⟩
  ·rw [decide_eq_false h1];refine iteF ?_;cases x with
   | str z=>exact absurd a h1
   | _=>exact q
noncomputable def formOf (k v:Str):Int:=match kl_DOERS.lookup (k,v) with
 | none=>-1
 | some _=>(match kl_WORTHS_OF_VERBS.lookup v with|some (.int i)=>i|_=>-1)
noncomputable def deedB (H:Hp) (k v x:V):Bool:=match k,v with
 | .str a,.str b=>if formOf a b=0 then decide (x=.non) else if formOf a b=1 then z12 x 1000000000 else if formOf a b=2 then
   (match tupOf H x with|some xs=>decide (xs.length=2) && xs.all λ y=>z12 y 1000000000|none=>false) else false
 | _,_=>false
theorem z9x {a b:Str} {v:V} (h:kl_DOERS.lookup (a,b)=some v):(kl_FIRST_STATES.lookup a).isSome=true/\∃i,kl_WORTHS_OF_VERBS.lookup b=some (.int i)/\(i=0\/i=1\/i=2):=by
 have m:=zb5 h;have all :∀p∈kl_DOERS,(kl_FIRST_STATES.lookup p.1.1).isSome=true/\(kl_WORTHS_OF_VERBS.lookup p.1.2=some (.int 0)\/kl_WORTHS_OF_VERBS.lookup p.1.2=some (.int 1)\/kl_WORTHS_OF_VERBS.lookup p.1.2=some (.int 2)):=by decide +kernel
 obtain ⟨d,c⟩:=all _ m;refine ⟨d,?_⟩;rcases c with c|c|c
 ·exact ⟨0,c,.inl rfl⟩
 ·exact ⟨1,c,.inr (.inl rfl)⟩
 ·exact ⟨2,c,.inr (.inr rfl)⟩
def z9w:Sp:=λ vs H Q _=>∃k v x Tk Tv Tx,vs=[k,v,x]/\TagOf H k Tk/\TagOf H v Tv/\TagOf H x Tx/\Flat H x/\∀H',Same H H'->Q (.bl (deedB H k v x)) H'
theorem zff (T:TX (kx w) mg) (c0:Ca P w mg base "is_kind" ["kind"] 1 z6u) (c1:Ca P w mg base "is_worth" ["value"] 3 z7m) (c2:Ca P w mg base "is_tuple_of" ["value","many"] 1 z4z):Fo P w mg base CX0 4 279 y1n ["kind","verb","worth"] z9w:=by
 refine (z8p w.params).ok sc_is_deed (λ vs H Q E h=>?_) (λ a2 A a1 s H vs Q E m h=>?_)
 ·obtain ⟨k,v,x,L,I,u,rfl,_⟩:=h;rfl
 ·obtain ⟨k,v,x,L,I,u,rfl,hk,r,B,hf,q⟩:=h;refine ⟨_,(z03 (ps_if (PW.pt (pw_or (pt_not (pt_val (pe_cal c0 (m.mono (by decide)) rfl (z00 (pv 0) pa_nil)) (λ _=>rfl))) (pw_or (pt_not (pt_val (z0a z0r rfl (T.no (z0g _)) C2 (z00 (pv 1) (z00 (z2w (v:=.ty "str") rfl (T.no (n_str _)) boot_str rfl) pa_nil))) (λ _=>rfl))) (pw_or1 (z0b (zal (hu_of m) (zf3 _)) (pe_tup (z00 (pv 0) (z00 (pv 1) pa_nil))) (z0n (v:=.ref 248) rfl (T.of (ziw _)) rfl) (by with_unfolding_all rfl))))))
   (z04 (ps_ret pe_bl))
   z0d)
   (z03 (ps_set (i:=3) sc_is_deed.nd rfl (j1 rfl) (pe_ix (ix_kd (z54 _)) (z0n (v:=.ref 186) rfl (T.of (z5s _)) rfl) (pv 1) (λ _ _=>rfl)))
   (z03 (ps_if (z0b opEq (pv 3) pe_int (nomark _))
   (z04 (ps_ret (z3a op_isN (pv 2) pe_non (nomark _))))
   z0d)
   (z03 (ps_if (z0b opEq (pv 3) pe_int (nomark _))
   (z04 (ps_ret (pe_cal c1 (m.mono (by decide)) rfl (z00 (pv 2) pa_nil))))
   z0d)
   (z04 (ps_ret (pe_and (pe_cal c2 (m.mono (by decide)) rfl (z00 (pv 2) (z00 (pv 3) pa_nil))) (pe_one (z0a (zc4 rfl) rfl (T.no (n_all _)) boot_all (z00 (pe_cg (xs:=["part"]) (g:=gName 0) (fr:=[]) (pi_tup (pv 2)) (λ _ _ _ _ _=>(pg_cn (N:=["part"]) 0)) (λ _ _ _ _ _=>pf_nil) (λ _ _ _ _ _=>(pe_cal c1 (m.mono (by decide)) rfl (z00 (pv 0) pa_nil)))) pa_nil)))))))))),?_⟩
  refine ⟨_,rfl,k,L,rfl,hk,_,rfl,?_⟩;have S:deedB H k v x=false->Q (.bl false) H:=λ e=>by have:=q H (Same.refl H);rw [e] at this;exact this
  by_cases j :∃a,k=.str a/\(kl_FIRST_STATES.lookup a).isSome=true
  ·obtain ⟨a,rfl,j⟩:=j;have W:kindB (.str a)=true:=j;rw [W];refine iteF ?_;refine ⟨_,rfl,_,_,_,rfl,r,by decide,_,rfl,?_⟩;rw [z8k r (by decide)];by_cases o:I = "str"
   ·subst o;obtain ⟨b,rfl⟩:=r.str;refine iteF ?_;refine ⟨_,rfl,_,rfl,?_⟩;refine ⟨w_2,λ p X=>⟨p,a,b,rfl,z01,rfl,_,rfl,?_⟩⟩;have d:Same H (upd H p (.tup [.str a,.str b])):=Same.upd X;cases h3:kl_DOERS.lookup (a,b) with
    | none=>
     refine iteT ?_;have:=q _ d;have e:deedB H (.str a) (.str b) x=false:=by unfold deedB formOf;dsimp only;rw [h3];rfl
     rw [e] at this;exact this
    | some z=>
     refine iteF ?_;obtain ⟨_,i,G,Y⟩:=z9x h3;have C:formOf a b=i:=by unfold formOf;rw [h3];dsimp only;rw [G]
     refine ⟨_,rfl,b,.int i,rfl,rfl,G,?_⟩;refine ⟨_,rfl,rfl,_,rfl,?_⟩;rcases Y with rfl|rfl|rfl
     ·refine iteT ⟨_,rfl,rfl,?_⟩;have:=q _ d;have e:deedB H (.str a) (.str b) x=decide (x=.non):=by unfold deedB;dsimp only;rw [C];rfl
      rw [e] at this;exact this
     ·refine iteF ⟨_,rfl,rfl,_,rfl,?_⟩;refine iteT ⟨_,rfl,x,u,rfl,B.same d,?_⟩;have:=q _ d;have e:deedB H (.str a) (.str b) x=z12 x 1000000000:=by unfold deedB;dsimp only;rw [C];rfl
      rw [e] at this;exact this
     ·refine iteF ⟨_,rfl,rfl,_,rfl,?_⟩;refine iteF ⟨_,rfl,_,rfl,x,u,2,rfl,B.same d,_,rfl,?_⟩;rw [zf5 B d];have e:deedB H (.str a) (.str b) x=(match tupOf H x with|some xs=>decide (xs.length=2) && xs.all λ y=>z12 y 1000000000|none=>false):=by unfold deedB;dsimp only;rw [C];rfl
      rw [e] at q;cases ht:tupOf H x with
      | none=>rw [ht] at q;exact iteF (q _ d)
      | some xs=>
       rw [ht] at q;dsimp only at q⊢;by_cases n:xs.length=2
       ·have D:((xs.length:Nat):Int)=2:=by omega
        rw [if_pos (decide_eq_true D)];rw [decide_eq_true n,j26] at q;obtain ⟨c,rfl,hc⟩:=zg2 ht;have a0:xs.length<=sizeLine:=by rw [n];decide
        refine e_cb1 ?_;refine z3i (K:=KX w.params) (a:=c) (xs:=xs) (H1:=upd H p (.tup [.str a,.str b])) (λ _=>true) (λ i y _=>y=.bl (z12 (xs[i]?.getD .non) 1000000000)) (λ _ _ _ _ _ z=>z) (λ R h=>⟨_,rfl,h⟩) (SqT.of (d _ _ hc)) a0 ?_ ?_
        ·intro i O F H' t J KT KF k1 k2;obtain ⟨U,ty⟩:=(hf xs ht).2 F (S0 J);refine ⟨[some F],rfl,rfl,iteT ?_⟩;exact ⟨_,rfl,F,U,rfl,(ty.same d).same t,k1 rfl _ _ (Same.refl _) (by rw [J];rfl)⟩
        ·intro l H' Z t n M;rw [List.filter_eq_self.mpr (λ _ _=>rfl)] at M;have ey:Z=xs.map λ y=>V.bl (z12 y 1000000000):=by
          rw [z56 (f:=λ i=>V.bl (z12 (xs[i]?.getD .non) 1000000000)) M];apply j6
          ·simp
          ·intro i j o;have O:i < xs.length:=by simpa using j
           simp [N0 O]
         subst ey;refine ⟨l,_,rfl,SqL.of z01,λ y hy=>?_,?_⟩
         ·obtain ⟨z,_,rfl⟩:=List.mem_map.mp hy;exact ⟨_,rfl⟩
         ·have e9:((xs.map λ y=>V.bl (z12 y 1000000000)).all λ y=>decide (y=V.bl true))=xs.all λ y=>z12 y 1000000000:=by rw [List.all_map];congr 1;funext y;simp
          rw [e9];exact q _ ((d.trans t).trans (Same.upd n))
       ·have D:¬ ((xs.length:Nat):Int)=2:=by omega
        rw [if_neg (by rw [decide_eq_false D];exact O0)];rw [decide_eq_false n,V6] at q;exact q _ d
   ·rw [decide_eq_false o];refine iteT ?_;exact S (by unfold deedB;cases v with|str z=>exact absurd r o|_=>rfl)
  ·have e1:kindB k=false:=by
    cases k with
    | str z=>exact Bool.eq_false_iff.mpr λ e=>j ⟨z,rfl,e⟩
    | _=>rfl
   rw [e1];refine iteT ?_;refine S ?_;cases k with
   | str a=>
    cases v with
    | str b=>
     unfold deedB formOf;dsimp only;cases h3:kl_DOERS.lookup (a,b) with
     | none=>rfl
     | some z=>exact absurd ⟨a,rfl,(z9x h3).1⟩ j
    | _=>rfl
   | _=>rfl
theorem deedB0 {H:Hp} {a b:Str} {x:V} (h:formOf a b=0):deedB H (.str a) (.str b) x=decide (x=.non):=by unfold deedB;dsimp only;rw [h];rfl
theorem deedB1 {H:Hp} {a b:Str} {x:V} (h:formOf a b=1):deedB H (.str a) (.str b) x=z12 x 1000000000:=by unfold deedB;dsimp only;rw [h];rfl
theorem deedB2 {H:Hp} {a b:Str} {x:V} {xs:List V} (h:formOf a b=2) (e:tupOf H x=some xs):deedB H (.str a) (.str b) x=(decide (xs.length=2) && xs.all λ y=>z12 y 1000000000):=by unfold deedB;dsimp only;rw [h,e];rfl
def z3b:Sp:=λ vs H Q _=>∃st x,vs=[st,x]/\∀p,H p=none->Q (.ref p) (upd H p (.tup [st,st]))
theorem zaj (T:TX (kx w) mg):Fo P w mg base CX0 1 193 y0q ["state","worth"] z3b:=by
 refine (z40 w.params).ok z9g (λ a H Q E h=>?_) (λ d A c s H a Q E e h=>?_)
 ·obtain ⟨b,x,rfl,_⟩:=h;rfl
 ·obtain ⟨b,x,rfl,q⟩:=h;refine ⟨_,(z04 (ps_ret (pe_tup (z00 (pv 0) (z00 (pv 0) pa_nil))))),?_⟩;exact ⟨_,rfl,_,rfl,w_2,q⟩
def z2h:Sp:=λ vs H Q _=>∃st x,vs=[st,x]/\∀p,H p=none->Q (.ref p) (upd H p (.tup [x,.str "ok"]))
theorem z8b (T:TX (kx w) mg):Fo P w mg base CX0 1 200 y0l ["state","worth"] z2h:=by
 refine (z3d w.params).ok z89 (λ a H Q E h=>?_) (λ d A c s H a Q E e h=>?_)
 ·obtain ⟨b,x,rfl,_⟩:=h;rfl
 ·obtain ⟨b,x,rfl,q⟩:=h;refine ⟨_,(z04 (ps_ret (pe_tup (z00 (pv 1) (z00 pe_str pa_nil))))),?_⟩;exact ⟨_,rfl,w_2,q⟩
def z1n:Sp:=λ vs H Q _=>∃i j:Int,vs=[.int i,.int j]/\∀p,H p=none->Q (.ref p) (upd H p (.tup [.int (i + j),.int i]))
theorem z6s (T:TX (kx w) mg):Fo P w mg base CX0 1 207 y0a ["state","worth"] z1n:=by
 refine (z20 w.params).ok z65 (λ a H Q E h=>?_) (λ e A c s H a Q E b h=>?_)
 ·obtain ⟨d,x,rfl,_⟩:=h;rfl
 ·obtain ⟨i,j,rfl,q⟩:=h;refine ⟨_,(z04 (ps_ret (pe_tup (z00 (pe_op opAdd (pv 0) (pv 1)) (z00 (pv 0) pa_nil))))),?_⟩;exact ⟨_,rfl,_,rfl,.inl ⟨_,_,rfl,rfl,_,rfl,w_2,q⟩⟩
def z2s (K:d0):Sp:=λ vs H Q _=>∃(i a b:Int) (t:Addr),vs=[.int i,.ref t]/\SqT K H t [.int a,.int b]/\∀p,H p=none->Q (.ref p) (upd H p (.tup (if i=a then [.int b,.int 1] else [.int i,.int 0])))
theorem z9i (T:TX (kx w) mg):Fo P w mg base CX0 1 247 y0u ["state","worth"] (z2s (kx w)):=by
 refine (z4a w.params).ok z95 (λ d H Q E h=>?_) (λ j A g s H d Q E f h=>?_)
 ·obtain ⟨i,a,b,t,rfl,_⟩:=h;rfl
 ·obtain ⟨i,a,b,t,rfl,c,q⟩:=h;refine ⟨_,(z03 (ps_if (z0b opEq (pv 0) (pe_ix ix_seq (pv 1) pe_int (λ _ _=>rfl)) (nomark _))
   (z04 (ps_ret (pe_tup (z00 (pe_ix ix_seq (pv 1) pe_int (λ _ _=>rfl)) (z00 pe_int pa_nil)))))
   z0d)
   (z04 (ps_ret (pe_tup (z00 (pv 0) (z00 pe_int pa_nil)))))),?_⟩
  refine ⟨_,rfl,_,rfl,.inr (.inl ⟨t,_,0,.int a,rfl,rfl,c,rfl,rfl,_,rfl,?_⟩)⟩;by_cases e:i=a
  ·subst e;rw [decide_eq_true rfl];simp only [if_true] at q;exact iteT ⟨_,rfl,.inr (.inl ⟨t,_,1,.int b,rfl,rfl,c,rfl,w_2,q⟩)⟩
  ·rw [decide_eq_false (λ z=>e (by cases z;rfl))];simp only [if_neg e] at q;exact iteF ⟨_,rfl,w_2,q⟩
def z33 (K:d0):Sp:=λ vs H Q _=>∃(t:Addr) (ns:List V) (x:V),vs=[.ref t,x]/\SqT K H t ns/\ns.length < 1000/\∀p p' H',Same H H'->H' p=some (.tup [.ref p',.str "ok"])->SqT K H' p' (ns++[x])->Q (.ref p) H'
theorem z8y (T:TX (kx w) mg):Fo P w mg base CX0 1 214 y0r ["state","worth"] (z33 (kx w)):=by
 refine (z3u w.params).ok za1 (λ j H Q E h=>?_) (λ p A n s H j Q E r h=>?_)
 ·obtain ⟨t,a,x,rfl,_⟩:=h;rfl
 ·obtain ⟨t,a,x,rfl,d,k,q⟩:=h;refine ⟨_,(z04 (ps_ret (pe_tup (z00 (pe_op op_catS (pv 0) (pe_tup (z00 (pv 1) pa_nil))) (z00 pe_str pa_nil))))),?_⟩;refine ⟨_,rfl,_,rfl,w_1,λ m e=>?_⟩;have b:=Same.upd (o:=.tup [x]) e;refine ⟨t,m,a,[x],rfl,rfl,b.seqT d,SqT.of z01,by simp,D0 (Nat.add_le_add_right (d3 k) _) (show 1000 + 1<=sizeLine by decide),λ g u f i=>?_⟩;refine ⟨w_2,λ l c=>?_⟩;exact q l g _ ((b.trans f).trans (Same.upd c)) z01 ((Same.upd c).seqT i)
def z2v (K:d0):Sp:=λ vs H Q _=>∃(t:Addr) (ns:List V) (x:V),vs=[.ref t,x]/\SqT K H t ns/\
 (ns=[]->∀p H',Same H H'->H' p=some (.tup [.ref t,.str "none"])->Q (.ref p) H')/\(∀n r,ns=n :: r->∀p p' H',Same H H'->H' p=some (.tup [.ref p',n])->SqT K H' p' r->Q (.ref p) H')
theorem z8u (T:TX (kx w) mg):Fo P w mg base CX0 1 221 y0s ["state","worth"] (z2v (kx w)):=by
 refine (z3v w.params).ok za5 (λ m H Q E h=>?_) (λ v A u s H m Q E y h=>?_)
 ·obtain ⟨t,b,x,rfl,_⟩:=h;rfl
 ·obtain ⟨t,b,x,rfl,a,i,l⟩:=h;refine ⟨_,(z03 (ps_if (z0b opEq (z0a z1c rfl (T.no (n_len _)) D4 (z00 (pv 0) pa_nil)) pe_int (nomark _))
   (z04 (ps_ret (pe_tup (z00 (pv 0) (z00 pe_str pa_nil)))))
   z0d)
   (z04 (ps_ret (pe_tup (z00 (z1g slSeq (pv 0) (z1u pe_int) z2r) (z00 (pe_ix ix_seq (pv 0) pe_int (λ _ _=>rfl)) pa_nil)))))),?_⟩
  refine ⟨_,rfl,.inl ⟨t,b,rfl,.inr a,rfl,_,rfl,?_⟩⟩;cases b with
  | nil=>exact iteT ⟨_,rfl,w_2,λ p g=>i rfl p _ (Same.upd g) z01⟩
  | cons n r=>
   rw [decide_eq_false (show ¬ V.int (((n :: r).length:Nat):Int)=V.int 0 from λ z=>by injection z with z;rw [U0] at z;omega)];refine iteF ⟨_,rfl,_,rfl,.inr (.inl ⟨t,_,rfl,a,?_,λ q f=>?_⟩)⟩
   ·intro z;have:HT.sIx (n :: r).length 0 (some 1)=1:=by rw [U0];simp [HT.sIx]
    omega
   ·have c:=Same.upd (o:=.tup (cutV (n :: r) (some 1) none)) f;have e:cutV (n :: r) (some 1) none=r:=by unfold cutV;simp [HT.sIx]
    refine ⟨_,rfl,.inr (.inl ⟨t,_,0,n,rfl,rfl,c.seqT a,z07 (j:=0) rfl,w_2,λ k d=>?_⟩)⟩;refine l n r rfl k q _ (c.trans (Same.upd d)) z01 ((Same.upd d).seqT (SqT.of ?_));rw [z01,e]
theorem dec_i0 (i j:Int):decide (V.int i=V.int j)=decide (i=j):=by simp
theorem zcb {q:Int->Bool} :∀(ns:List Int) (ys:List V),All2 (λ (i:Nat) y=>ns[i]?.map V.int=some y) ((K1 ns.length).filter λ i=>(ns[i]?.map q).getD false) ys->ys=(ns.filter q).map V.int
 | [],ys,h=>by cases h;rfl
 | n :: ns,ys,h=>by
  have un :∀{is:List Nat} {ys:List V},All2 (λ (i:Nat) y=>(n :: ns)[i]?.map V.int=some y) (is.map Nat.succ) ys->All2 (λ (i:Nat) y=>ns[i]?.map V.int=some y) is ys:=λ {is}=>by
   induction is with
   | nil=>intro ys h;cases h;exact .nil
   | cons i is ih=>intro ys h;cases h with|cons a r=>exact .cons a (ih r)
  rw [U0,j31,F4,j0b] at h;rw [F4];by_cases z:q n=true
  ·rw [if_pos (show (j09 q (n :: ns)[0]?).getD false=true from z)] at h;rw [if_pos z,J1];cases h with
   | cons a r=>rw [<-zcb ns _ (un r),<-S1 a]
  ·rw [if_neg (show ¬ (j09 q (n :: ns)[0]?).getD false=true from z)] at h;rw [if_neg z];exact zcb ns _ (un h)
def z1y (K:d0):Sp:=λ vs H Q _=>∃(t:Addr) (ns:List Int) (i:Int),vs=[.ref t,.int i]/\SqT K H t (ns.map V.int)/\ns.length < 63/\
 (i∈ns->∀p H',Same H H'->H' p=some (.tup [.ref t,.int 0])->Q (.ref p) H')/\(i∉ns->∀(p p':Addr) (ns':List Int) (H':Hp),Same H H'->H' p=some (.tup [.ref p',.int 1])->SqT K H' p' (ns'.map V.int)->ns'.Perm (ns++[i])->ns'.Pairwise (·<=·)->Q (.ref p) H')
theorem z74 (T:TX (kx w) mg):Fo P w mg base CX0 1 228 y0d ["state","worth"] (z1y (kx w)):=by
 refine (z2a w.params).ok z72 (λ B H Q E h=>?_) (λ I A G s H B Q E J h=>?_)
 ·obtain ⟨t,a,i,rfl,_⟩:=h;rfl
 ·obtain ⟨t,a,i,rfl,b,g,v,z⟩:=h;refine ⟨_,(z03 (ps_if (z0b z1p (pv 1) (pv 0) (by with_unfolding_all rfl))
   (z04 (ps_ret (pe_tup (z00 (pv 0) (z00 pe_int pa_nil)))))
   z0d)
   (z04 (ps_ret (pe_tup (z00 (z0t z0k rfl (T.no (z34 _)) V4 (z00 (z0a z2g rfl (T.no (z3z _)) P6 (z00 (pe_op op_catS (pv 0) (pe_tup (z00 (pv 1) pa_nil))) pa_nil)) pa_nil)) (z00 pe_int pa_nil)))))),?_⟩
  refine ⟨_,rfl,_,rfl,t,_,rfl,.inr b,rfl,z3f a,_,rfl,?_⟩;rw [if_neg O0,z57];by_cases hi:i∈a
  ·rw [decide_eq_true hi];exact iteT ⟨_,rfl,w_2,λ p q=>v hi p _ (Same.upd q) z01⟩
  ·rw [decide_eq_false hi];refine iteF ⟨_,rfl,_,rfl,w_1,λ C k=>?_⟩;have c:=Same.upd (o:=.tup [.int i]) k;refine ⟨t,C,a.map V.int,[.int i],rfl,rfl,c.seqT b,SqT.of z01,by simp,?_,λ x K u e=>?_⟩
   ·rw [K0];exact D0 (Nat.succ_le_of_lt (Z1 g)) (by decide)
   rw [show a.map V.int++[V.int i]=(a++[i]).map V.int by rw [B2];rfl] at e;refine ⟨x,a++[i],rfl,.inr e,by rw [M0];exact Nat.succ_lt_succ g,λ l f D n j=>?_⟩;have m:=Same.upd (o:=.lst (f.map V.int)) D;refine ⟨l,_,rfl,.inl ⟨SqL.of z01,λ r y=>⟨w_2,λ F d=>?_⟩⟩⟩;exact z hi F r f _ ((((c.trans u).trans m).trans (Same.upd y)).trans (Same.upd d)) z01 (SqT.of ((Same.upd d) _ _ z01)) n j
def z1z (K:d0):Sp:=λ vs H Q _=>∃(t:Addr) (ns:List Int) (i:Int),vs=[.ref t,.int i]/\SqT K H t (ns.map V.int)/\ns.length < 64/\
 (i∉ns->∀p H',Same H H'->H' p=some (.tup [.ref t,.int 0])->Q (.ref p) H')/\(i∈ns->∀p p' H',Same H H'->H' p=some (.tup [.ref p',.int 1])->SqT K H' p' ((ns.filter λ j=>!decide (j=i)).map V.int)->Q (.ref p) H')
theorem z79 (T:TX (kx w) mg):Fo P w mg base CX0 1 233 y0e ["state","worth"] (z1z (kx w)):=by
 refine (z2f w.params).ok z7d (λ J H Q E h=>?_) (λ W A U s H J Q E X h=>?_)
 ·obtain ⟨t,b,i,rfl,_⟩:=h;rfl
 ·obtain ⟨t,b,i,rfl,c,L,C,G⟩:=h;refine ⟨_,(z03 (ps_if (z0b z3x (pv 1) (pv 0) (by with_unfolding_all rfl))
   (z04 (ps_ret (pe_tup (z00 (pv 0) (z00 pe_int pa_nil)))))
   z0d)
   (z04 (ps_ret (pe_tup (z00 (z0t z0k rfl (T.no (z34 _)) V4 (z00 (pe_cg (xs:=["held"]) (g:=gName 0) (fr:=[(1,"worth")]) (pi_tup (pv 0)) (λ _ _ _ _ _=>(pg_cn (N:=["held","worth"]) 0)) (λ _ _ _ _ _=>(pf_one (z0b opNe (pv 0) (pv 1) (nomark _)))) (λ _ _ _ _ _=>(pv 0))) pa_nil)) (z00 pe_int pa_nil)))))),?_⟩
  refine ⟨_,rfl,_,rfl,t,_,rfl,.inr c,rfl,z3f b,_,rfl,?_⟩;rw [if_pos rfl,z57];by_cases hi:i∈b
  ·rw [decide_eq_true hi];refine iteF ?_;have M:(b.map V.int).length<=sizeLine:=by rw [K0];exact D0 (d3 L) (by decide)
   refine t_next ?_;simp only [tRet,tTup,tCB,tCons,tNil];refine z3i (K:=KX w.params) (a:=t) (xs:=b.map V.int) (H1:=H) (λ j=>(b[j]?.map λ n=>!decide (n=i)).getD false) (λ j y _=>b[j]?.map V.int=some y) (λ _ _ _ _ _ z=>z) (λ R h=>⟨_,rfl,h⟩) c M (λ j Z v I f e KT Y k q=>?_) λ l I B f O m=>?_
   ·rw [X0] at e;obtain ⟨n,F,rfl⟩:=Option.map_eq_some_iff.mp e;rw [F] at k q;refine ⟨[some (.int n)],rfl,rfl,_,rfl,_,rfl,rfl,_,rfl,?_⟩;rw [dec_i0];exact ite2 (λ z=>⟨_,rfl,k z _ _ (Same.refl _) rfl⟩) λ z=>q (Bool.eq_false_iff.mpr z) _ (Same.refl _)
   ·rw [K0] at m;rw [zcb b B m];have r:=Same.upd (o:=.lst ((b.filter λ j=>!decide (j=i)).map V.int)) O;refine ⟨l,_,rfl,.inl ⟨SqL.of z01,λ x D=>⟨w_2,λ S d=>?_⟩⟩⟩;exact G hi S x _ (((f.trans r).trans (Same.upd D)).trans (Same.upd d)) z01 (SqT.of ((Same.upd d) _ _ z01))
  ·rw [decide_eq_false hi];exact iteT ⟨_,rfl,w_2,λ p u=>C hi p _ (Same.upd u) z01⟩
def z2p (K:d0):Sp:=λ vs H Q _=>∃(t:Addr) (ns:List Int) (i:Int),vs=[.ref t,.int i]/\SqT K H t (ns.map V.int)/\∀p H',Same H H'->H' p=some (.tup [.ref t,.int (if i∈ns then 1 else 0)])->Q (.ref p) H'
theorem zaf (T:TX (kx w) mg):Fo P w mg base CX0 1 240 y0t ["state","worth"] (z2p (kx w)):=by
 refine (z3w w.params).ok z9e (λ c H Q E h=>?_) (λ g A f s H c Q E e h=>?_)
 ·obtain ⟨t,b,i,rfl,_⟩:=h;rfl
 ·obtain ⟨t,b,i,rfl,d,q⟩:=h;refine ⟨_,(z04 (ps_ret (pe_tup (z00 (pv 0) (z00 (zk4 (z0b z1p (pv 1) (pv 0) (by with_unfolding_all rfl)) pe_int pe_int) pa_nil))))),?_⟩;refine ⟨_,rfl,_,rfl,_,rfl,t,_,rfl,.inr d,rfl,z3f b,_,rfl,?_⟩;rw [if_neg O0,z57];by_cases hi:i∈b
  ·rw [if_pos hi] at q;rw [decide_eq_true hi];exact iteT ⟨w_2,λ p a=>q p _ (Same.upd a) z01⟩
  ·rw [if_neg hi] at q;rw [decide_eq_false hi];exact iteF ⟨w_2,λ p a=>q p _ (Same.upd a) z01⟩
def doTb (K:d0) (f:Addr) (sp:Sp):Prop:=(f=193/\sp=z3b)\/(f=200/\sp=z2h)\/(f=207/\sp=z1n)\/(f=214/\sp=z33 K)\/(f=221/\sp=z2v K)\/(f=228/\sp=z1y K)\/(f=233/\sp=z1z K)\/(f=240/\sp=z2p K)\/(f=247/\sp=z2s K)
theorem cal_fn {x:Str} {ps:List Str} {k f:Nat} {sp:Sp} {K:d0} (c:Cal P w K mg base x ps k sp) (e:mg x=some (.ref f)) :∃fd ps,FnOk P w K mg base CX0 k f fd ps sp/\G3 K (.ref f)=true/\Binds K fd ps []:=by obtain ⟨h,fd,d,a,b,g⟩:=c.ex;rw [e] at a;cases a;exact ⟨fd,ps,d,b,g⟩
def sp_do (K:d0):Sp:=λ vs H Q _=>∃(k v:Str) (st x:V) (f:Addr) (sp:Sp) (Tx:String),vs=[.str k,st,.str v,x]/\TagOf H x Tx/\Flat H x/\deedB H (.str k) (.str v) x=true/\kl_DOERS.lookup (k,v)=some (.ref f)/\doTb K f sp/\∀H',Same H H'->sp [st,x] H' Q E0
theorem ok_do (T:TX (kx w) mg) (c0:Ca P w mg base "is_deed" ["kind","verb","worth"] 4 z9w) (c1:Ca P w mg base "read_state" ["state","worth"] 1 z3b) (c2:Ca P w mg base "write_state" ["state","worth"] 1 z2h) (c3:Ca P w mg base "add_to_number" ["state","worth"] 1 z1n) (c4:Ca P w mg base "put_behind" ["state","worth"] 1 (z33 (kx w))) (c5:Ca P w mg base "take_first" ["state","worth"] 1 (z2v (kx w))) (c6:Ca P w mg base "put_into_set" ["state","worth"] 1 (z1y (kx w))) (c7:Ca P w mg base "cut_from_set" ["state","worth"] 1 (z1z (kx w))) (c8:Ca P w mg base "has_in_set" ["state","worth"] 1 (z2p (kx w))) (c9:Ca P w mg base "swap_state" ["state","worth"] 1 (z2s (kx w))):Fo P w mg base CX0 5 286 y2j ["kind","state","verb","worth"] (sp_do (kx w)):=by
 refine (F_do w.params).ok sc_do (λ y H Q E h=>?_) (λ r A F s H y Q E g h=>?_)
 ·obtain ⟨k,v,o,x,f,j,l,rfl,_⟩:=h;rfl
 ·obtain ⟨k,v,o,x,f,j,l,rfl,t,u,B,C,D,q⟩:=h;have G :∀f j,doTb (kx w) f j->∃k b a,Fo P w mg base CX0 k f b a j/\Room k (A.deeper (S3 "do" (z06 y2i) s.heap.objs.size 286 r))/\G3 (kx w) (.ref f)=true/\Binds (kx w) b a []:=λ f j z=>by
   rcases z with ⟨rfl,rfl⟩|⟨rfl,rfl⟩|⟨rfl,rfl⟩|⟨rfl,rfl⟩|⟨rfl,rfl⟩|⟨rfl,rfl⟩|⟨rfl,rfl⟩|⟨rfl,rfl⟩|⟨rfl,rfl⟩
   ·obtain ⟨b,a,e,d,c⟩:=cal_fn c1 (T.of (z6b _));exact ⟨1,b,a,e,g.mono (by decide),d,c⟩
   ·obtain ⟨b,a,e,d,c⟩:=cal_fn c2 (T.of (z5m _));exact ⟨1,b,a,e,g.mono (by decide),d,c⟩
   ·obtain ⟨b,a,e,d,c⟩:=cal_fn c3 (T.of (z3o _));exact ⟨1,b,a,e,g.mono (by decide),d,c⟩
   ·obtain ⟨b,a,e,d,c⟩:=cal_fn c4 (T.of (z67 _));exact ⟨1,b,a,e,g.mono (by decide),d,c⟩
   ·obtain ⟨b,a,e,d,c⟩:=cal_fn c5 (T.of (z61 _));exact ⟨1,b,a,e,g.mono (by decide),d,c⟩
   ·obtain ⟨b,a,e,d,c⟩:=cal_fn c6 (T.of (z4j _));exact ⟨1,b,a,e,g.mono (by decide),d,c⟩
   ·obtain ⟨b,a,e,d,c⟩:=cal_fn c7 (T.of (z4m _));exact ⟨1,b,a,e,g.mono (by decide),d,c⟩
   ·obtain ⟨b,a,e,d,c⟩:=cal_fn c8 (T.of (z6y _));exact ⟨1,b,a,e,g.mono (by decide),d,c⟩
   ·obtain ⟨b,a,e,d,c⟩:=cal_fn c9 (T.of (z6a _));exact ⟨1,b,a,e,g.mono (by decide),d,c⟩
  refine ⟨_,(z03 (ps_if (pt_not (pt_val (pe_cal c0 (g.mono (by decide)) rfl (z00 (pv 0) (z00 (pv 2) (z00 (pv 3) pa_nil)))) (λ _=>rfl)))
   (z04 z46)
   z0d)
   (z03 (ps_set (i:=4) sc_do.nd rfl (j1 rfl) (pe_ix (ix_kdt (hu_of g) (zf3 _)) (z0n (v:=.ref 248) rfl (T.of (ziw _)) rfl) (pe_tup (z00 (pv 0) (z00 (pv 2) pa_nil))) (λ _ _=>rfl)))
   (z04 (ps_ret (zla (doTb (kx w)) (i:=4) rfl (by first|exact j1 rfl|exact Z0 (j1 rfl)) G (z00 (pv 1) (z00 (pv 3) pa_nil))))))),?_⟩
  refine ⟨_,rfl,_,rfl,_,rfl,.str k,.str v,x,"str","str",l,rfl,rfl,rfl,t,u,λ I n=>⟨_,rfl,?_⟩⟩;rw [B];refine iteF ?_;refine ⟨_,rfl,_,rfl,w_2,λ p m=>⟨p,k,v,.ref f,rfl,rfl,z01,C,?_⟩⟩;exact ⟨f,j,rfl,D,_,rfl,_,rfl,q _ (n.trans (Same.upd m))⟩
def z4t:Sp:=λ vs H Q _=>∃(k:Str) (v:V),vs=[.str k]/\kl_FIRST_STATES.lookup k=some v/\Q v H
theorem z7w (T:TX (kx w) mg) (c0:Ca P w mg base "is_kind" ["kind"] 1 z6u):Fo P w mg base CX0 2 274 y0m ["kind"] z4t:=by
 refine (z2x w.params).ok z8l (λ b H Q E h=>?_) (λ f A d s H b Q E c h=>?_)
 ·obtain ⟨k,v,rfl,_⟩:=h;rfl
 ·obtain ⟨k,v,rfl,a,q⟩:=h;refine ⟨_,(z03 (ps_if (pt_not (pt_val (pe_cal c0 (c.mono (by decide)) rfl (z00 (pv 0) pa_nil)) (λ _=>rfl)))
   (z04 z46)
   z0d)
   (z04 (ps_ret (pe_ix (ix_kd (z3q _)) (z0n (v:=.ref 183) rfl (T.of (z4i _)) rfl) (pv 0) (λ _ _=>rfl))))),?_⟩
  refine ⟨_,rfl,.str k,"str",rfl,rfl,_,rfl,?_⟩;have e:kindB (.str k)=true:=by unfold kindB;dsimp only;rw [a];rfl
  rw [e];exact iteF ⟨_,rfl,k,v,rfl,rfl,a,q⟩
inductive Ev
 | beg (h:Int) (n v x:V)
 | fin (h:Int) (a:V)
noncomputable def EvAt (K:d0) (H:Hp):Ev->V->Prop
 | .beg h n v x,y=>∃p,y=.ref p/\SqT K H p [.str "begin",.int h,n,v,x]
 | .fin h a,y=>∃p,y=.ref p/\SqT K H p [.str "end",.int h,a]
structure Rc where
 h:Int
 n:V
 v:V
 x:V
 a:V
 b:Nat
 e:Option Nat
noncomputable def endV:Option Nat->V
 | none=>.non
 | some i=>.int i
def RcAt (K:d0) (H:Hp) (r:Rc) (y:V):Prop:=∃p,y=.ref p/\SqT K H p [.int r.h,r.n,r.v,r.x,r.a,.int r.b,endV r.e]
def Tups (K:d0) (H H':Hp):Prop:=∀a xs,SqT K H a xs->SqT K H' a xs
theorem Tups.of {K:d0} {H H':Hp} (s:Same H H'):Tups K H H':=λ _ _ q=>s.seqT q
theorem Tups.trans {K:d0} {H H1 H2:Hp} (a:Tups K H H1) (b:Tups K H1 H2):Tups K H H2:=λ _ _ q=>b _ _ (a _ _ q)
theorem Tups.lst {K:d0} {H:Hp} {l:Addr} {o:HO} {zs:List V} (e:H l=some (.lst zs)):Tups K H (upd H l o):=λ _ _ q=>q.wrote e
theorem Tups.dict {K:d0} {H:Hp} {l:Addr} {o:HO} {kvs:List (Key×V)} (e:H l=some (.dK kvs)):Tups K H (upd H l o):=λ a b h=>by
 rcases h with (h|⟨ob,h⟩)|h
 ·exact .inl (.inl (by rw [upd_ne (ne_of h e (by intro z;cases z))];exact h))
 ·exact .inl (.inr ⟨ob,by rw [upd_ne (ne_of h e (by intro z;cases z))];exact h⟩)
 ·exact .inr h
theorem zks {n j:Nat} (h:j < n):ixN n (j:Nat)=some j:=by unfold ixN;rw [if_pos (by omega),if_pos (by omega)];rfl
theorem Same.keep {H H':Hp} {l:Addr} {o:HO} (s:Same H H') (n:H l=none):Same H (upd H' l o):=λ a x e=>by rw [upd_ne (z08 e n)];exact s a x e
theorem z1v {α β:Type} {R:α->β->Prop} {x:α} {y:β} :∀{xs:List α} {ys:List β},All2 R xs ys->R x y->All2 R (xs++[x]) (ys++[y])
 | _,_,.nil,h=>.cons h .nil
 | _,_,.cons a r,h=>.cons a (z1v r h)
theorem zds {κ:Type} [DecidableEq κ] {kvs:List (κ×V)} {k:κ} {v:V}:(putK kvs k v).length<=kvs.length + 1:=by
 unfold putK;by_cases z:(kvs.any λ a=>decide (a.1=k))=true
 ·rw [if_pos z,K0];omega
 ·rw [if_neg z,M0];exact B0 _
noncomputable def lastI (h:Int) (hs:List Int):Option Nat:=(hs.foldl (λ (acc:Nat×Option Nat) k=>(acc.1 + 1,if k=h then some acc.1 else acc.2)) (0,none)).2
theorem lastF (h:Int) :∀hs:List Int,(hs.foldl (λ (acc:Nat×Option Nat) k=>(acc.1 + 1,if k=h then some acc.1 else acc.2)) (0,none)).1=hs.length:=by
 have b :∀(hs:List Int) (a:Nat×Option Nat),(hs.foldl (λ (acc:Nat×Option Nat) k=>(acc.1 + 1,if k=h then some acc.1 else acc.2)) a).1=a.1 + hs.length:=by
  intro hs;induction hs with
  | nil=>intro a;rfl
  | cons k hs ih=>intro a;rw [List.foldl_cons,ih,U0];show a.1 + 1 + hs.length=_;omega
 intro hs;rw [b hs (0,none)];simp
theorem z4o (h k:Int) (hs:List Int):lastI h (hs++[k])=if k=h then some hs.length else lastI h hs:=by unfold lastI;rw [P9];show (if k=h then some _ else _)=_;rw [lastF]
theorem z8i {h:Int} {hs:List Int} {j:Nat} (e:lastI h hs=some j):j < hs.length:=by
 have c :∀(hs:List Int) (a:Nat×Option Nat),(∀j,a.2=some j->j < a.1)->∀j,(hs.foldl (λ (acc:Nat×Option Nat) k=>(acc.1 + 1,if k=h then some acc.1 else acc.2)) a).2=some j->j < a.1 + hs.length:=by
  intro hs;induction hs with
  | nil=>intro a b j e;exact b j e
  | cons k hs ih=>
   intro a b j e;rw [List.foldl_cons] at e;have:=ih (a.1 + 1,if k=h then some a.1 else a.2) (λ j e=>by
    dsimp only at e⊢;by_cases z:k=h
    ·rw [if_pos z] at e;cases e;omega
    ·rw [if_neg z] at e;have:=b j e;omega) j e
   rw [U0];dsimp only at this;omega
 have:=c hs (0,none) (λ j e=>by cases e) j e;simpa using this
noncomputable def dstep (i:Nat) (rs:List Rc):Ev->List Rc
 | .beg h n v x=>rs++[⟨h,n,v,x,.non,i,none⟩]
 | .fin h a=>match lastI h (rs.map Rc.h) with|some j=>rs.modify j (λ r=>{ r with a:=a,e:=some i })|none=>rs
noncomputable def dAll:Nat->List Rc->List Ev->List Rc
 | _,rs,[]=>rs
 | i,rs,e :: es=>dAll (i + 1) (dstep i rs e) es
noncomputable def dWf:Nat->List Rc->List Ev->Prop
 | _,_,[]=>True
 | i,rs,e :: es=>(∀h a,e=.fin h a->(lastI h (rs.map Rc.h)).isSome=true)/\dWf (i + 1) (dstep i rs e) es
theorem RcAt.tups {K:d0} {H H':Hp} {r:Rc} {y:V} (t:Tups K H H') (h:RcAt K H r y):RcAt K H' r y:=h.elim λ p z=>⟨p,z.1,t _ _ z.2⟩
theorem EvAt.tups {K:d0} {H H':Hp} (t:Tups K H H') :∀{e:Ev} {y:V},EvAt K H e y->EvAt K H' e y
 | .beg h n v x,_,z=>z.elim λ p z=>⟨p,z.1,t _ _ z.2⟩
 | .fin h a,_,z=>z.elim λ p z=>⟨p,z.1,t _ _ z.2⟩
theorem z7l {α β:Type} {R:α->β->Prop} {f:α->α} {y:β} :∀{xs:List α} {ys:List β} {j:Nat} {x:α},All2 R xs ys->xs[j]? = some x->R (f x) y->All2 R (xs.modify j f) (ys.set j y)
 | _,_,_,_,.nil,e,_=>by simp at e
 | _,_,0,x,.cons a r,e,h=>by rw [F2] at e;cases e;exact .cons h r
 | _,_,j + 1,x,.cons a r,e,h=>by rw [X1] at e;exact .cons a (z7l r e h)
theorem z1h {α β:Type} {R:α->β->Prop} :∀{xs:List α} {ys:List β} {i:Nat} {x:α},All2 R xs ys->xs[i]? = some x->∃y,ys[i]? = some y/\R x y
 | _,_,i,x,.nil,e=>by simp at e
 | _,_,0,x,.cons a _,e=>by rw [F2] at e;cases e;exact ⟨_,F2,a⟩
 | _,_,i + 1,x,.cons _ r,e=>by rw [X1] at e;obtain ⟨y,b,c⟩:=z1h r e;exact ⟨y,by rw [X1];exact b,c⟩
def z6w (K:d0):Sp:=λ vs H Q _=>∃(t te:Addr) (th:V) (ys:List V) (es:List Ev),vs=[.ref t]/\SqT K H t [th,.ref te]/\SqT K H te ys/\All2 (EvAt K H) es ys/\es.length<=100/\dWf 0 [] es/\
 ∀l zs H',Same H H'->H l=none->H' l=some (.lst zs)->All2 (RcAt K H') (dAll 0 [] es) zs->Q (.ref l) H'
theorem zjs (T:TX (kx w) mg):Fo P w mg base CX0 1 293 y2b ["tale"] (z6w (kx w)):=by
 refine (zfw w.params).ok sc_deeds (λ vs H Q E h=>?_) (λ c3 A c2 s H vs Q E hr h=>?_)
 ·obtain ⟨t,te,th,ys,C,rfl,_⟩:=h;rfl
 ·obtain ⟨t,te,th,ys,C,rfl,st,se,al,hl,wf,q⟩:=h;refine ⟨_,(z03 (ps_set (i:=1) sc_deeds.nd rfl (j1 rfl) (pe_lst pa_nil))
   (z03 (ps_set (i:=2) sc_deeds.nd rfl (j1 rfl) z52)
   (z03 (ps_for T1 rfl (zkg rfl (T.no (z14 _)) (z00 (pe_ix ix_seq (pv 0) pe_int (λ _ _=>rfl)) pa_nil)) (pg_tup rfl (z0h (z0j (i:=3) sc_deeds.nd rfl (j1 rfl)) (z0h (z0j (i:=4) sc_deeds.nd rfl (j1 rfl)) z17)))
   (z04 (ps_if (z0b opEq (pe_ix ix_seq (pv 4) pe_int (λ _ _=>rfl)) pe_str (nomark _))
   (z03 (z9a (hu_of hr) (pv 2) (pe_ix ix_seq (pv 4) pe_int (λ _ _=>rfl)) (z0a z1c rfl (T.no (n_len _)) D4 (z00 (pv 1) pa_nil)) rfl)
   (z04 (z31 (z1x (pv 1) (z00 (pe_op opAdd (z1g slSeq (pv 4) (z1u pe_int) z2r) (pe_tup (z00 pe_non (z00 (pv 3) (z00 pe_non pa_nil))))) pa_nil)))))
   (z03 (ps_set (i:=5) sc_deeds.nd rfl (j1 rfl) (z6o (hu_of hr) (pv 2) (pe_ix ix_seq (pv 4) pe_int (λ _ _=>rfl)) (λ _ _=>rfl)))
   (z03 (ps_set (i:=6) sc_deeds.nd rfl (j1 rfl) (pe_ix ix_seq (pv 1) (pv 5) (λ _ _=>rfl)))
   (z04 (ps_asg (pe_op opAdd (z1g slSeq (pv 6) z2r (z1u pe_int)) (pe_tup (z00 (pe_ix ix_seq (pv 4) pe_int (λ _ _=>rfl)) (z00 (pe_ix ix_seq (pv 6) pe_int (λ _ _=>rfl)) (z00 (pv 3) pa_nil))))) (pg_sub (pv 1) (pv 5) z5a))))))))
   (z04 (ps_ret (pv 1)))))),?_⟩
  refine ⟨w_0,λ l Z=>?_⟩;intro d a1;have R:l≠d:=z08 z01 a1;have s0:upd H l (.lst []) d=none->H d=none:=λ z=>by rwa [upd_ne R.symm] at z
  have s2:Same H (upd (upd H l (.lst [])) d (.dK [])):=(Same.upd Z).trans (Same.upd a1);have e1:upd (upd H l (.lst [])) d (.dK []) l=some (.lst []):=by rw [upd_ne R];exact z01
  have e2:upd (upd H l (.lst [])) d (.dK []) d=some (.dK []):=z01;generalize upd (upd H l (.lst [])) d (.dK [])=H2 at s2 e1 e2⊢;have b8:=z05 al;refine ⟨_,rfl,.inr (.inl ⟨t,_,1,.ref te,rfl,rfl,s2.seqT st,z07 (j:=1) rfl,te,ys,rfl,s2.seqT se,?_⟩)⟩;refine zgt (K:=KX w.params) (a:=te) (xs:=ys) (λ i σ N=>∃c f g,N l=some (.lst f)/\All2 (RcAt (kx w) N) c f/\N d=some (.dK g)/\g.length<=i/\c.length<=i/\(∀h,valV g (.inl h)=(lastI h (c.map Rc.h)).map λ j=>V.int (j:Nat))/\dAll i c (C.drop i)=dAll 0 [] C/\dWf i c (C.drop i)/\Same H N/\∃x3 x4 x5 x6,σ=[some (.ref t),some (.ref l),some (.ref d),x3,x4,x5,x6])
   ⟨[],[],[],e1,.nil,e2,B0 _,B0 _,λ h=>rfl,by rw [B5],by rw [B5];exact wf,s2,_,_,_,_,rfl⟩ (λ i σ N h=>?_) ?_ ?_
  ·obtain ⟨c,f,g,_,_,_,_,_,_,_,_,s',_⟩:=h;exact s'.seqT se
  ·rintro i y σ H3 p hy ⟨c,f,g,el,ar,ed,hk,hr',hv,F,dw,s3,x3,x4,x5,x6,rfl⟩ hp;obtain ⟨e,he,ev⟩:=z0e al hy;obtain ⟨hi,ee⟩:=List.getElem?_eq_some_iff.mp he;have dr:C.drop i=e :: C.drop (i + 1):=by rw [d7 hi,ee]
   rw [dr] at F dw;have s4:=s3.trans (Same.upd (o:=.tup [.int i,y]) hp);have Y:=(Same.upd (o:=.tup [.int i,y]) hp) _ _ el;have U:=(Same.upd (o:=.tup [.int i,y]) hp) _ _ ed;have S:=z02 (λ a b z=>RcAt.tups (.of (Same.upd (o:=.tup [.int i,y]) hp)) z) ar;have a8:upd H3 p (.tup [.int i,y]) p=some (.tup [.int i,y]):=z01;generalize upd H3 p (.tup [.int i,y])=H4 at s4 Y U S a8⊢;have b3:=EvAt.tups (.of s4) ev;refine ⟨p,_,rfl,SqT.of a8,rfl,.int i,_,rfl,y,_,rfl,rfl,?_⟩;have lz:f.length=c.length:=z05 S;have a6:100<=sizeLine:=by decide
   have a9:i < 100:=G1 hi hl;cases e with
   | beg h n v x=>
    obtain ⟨J,rfl,I⟩:=b3;refine ⟨_,rfl,.inr (.inl ⟨J,_,0,.str "begin",rfl,rfl,I,z07 (j:=0) rfl,rfl,_,rfl,iteP (decide_eq_true rfl) ?_⟩)⟩;refine ⟨_,rfl,.inl ⟨l,f,rfl,.inl (SqL.of Y),⟨_,rfl,⟨_,rfl,.inr (.inl ⟨J,_,1,.int h,rfl,rfl,I,z07 (j:=1) rfl,d,_,rfl,DPut.k (k:=.inl h) U (Q1 hk (G1 a9 a6)),?_⟩)⟩⟩⟩⟩;have b6:H d=none:=s0 a1;have t5:Tups (kx w) H4 (upd H4 d (.dK (putK g (.inl h) (.int (f.length:Nat))))):=Tups.dict U;have s5:=Same.keep (o:=.dK (putK g (.inl h) (.int (f.length:Nat)))) s4 b6;have a4:upd H4 d (.dK (putK g (.inl h) (.int (f.length:Nat)))) l=some (.lst f):=by rw [upd_ne R];exact Y
    have b2:upd H4 d (.dK (putK g (.inl h) (.int (f.length:Nat)))) d=some (.dK (putK g (.inl h) (.int (f.length:Nat)))):=z01;generalize upd H4 d (.dK (putK g (.inl h) (.int (f.length:Nat))))=H5 at t5 s5 a4 b2⊢;have b7:=t5 _ _ I;have b4:=z02 (λ a b z=>RcAt.tups t5 z) S;refine ⟨_,rfl,.inl ⟨rfl,f,SqL.of a4⟩,⟨_,rfl,1,rfl,.inr (.inl ⟨J,_,rfl,b7,λ z=>absurd z.1 (show ¬ HT.sIx 5 0 (some 1)=0 by decide),λ G W=>?_⟩)⟩⟩;have c1:cutV [V.str "begin",.int h,n,v,x] (some 1) none=[.int h,n,v,x]:=rfl;rw [c1];refine ⟨_,rfl,w_3,λ D M=>.inr (.inr (.inr ⟨G,D,_,_,rfl,rfl,(Same.upd M).seqT (SqT.of z01),SqT.of z01,by simp,w_7,λ z=>(by cases z),λ _ u a3=>?_⟩))⟩;have B:Same H5 (upd (upd (upd H5 G (.tup [.int h,n,v,x])) D (.tup [.non,.int i,.non])) u (.tup ([.int h,n,v,x]++[.non,.int i,.non]))):=((Same.upd W).trans (Same.upd M)).trans (Same.upd a3);have L:upd (upd (upd H5 G (.tup [.int h,n,v,x])) D (.tup [.non,.int i,.non])) u (.tup ([.int h,n,v,x]++[.non,.int i,.non])) u=some (.tup ([.int h,n,v,x]++[.non,.int i,.non])):=z01;generalize upd (upd (upd H5 G (.tup [.int h,n,v,x])) D (.tup [.non,.int i,.non])) u (.tup ([.int h,n,v,x]++[.non,.int i,.non]))=H6 at B L⊢;have X:=B _ _ a4;have a0:=B _ _ b2;have a2:=z02 (λ a b z=>RcAt.tups (.of B) z) b4;have O:Tups (kx w) H6 (upd H6 l (.lst (f++[.ref u]))):=Tups.lst X;refine ⟨l,f,_,rfl,rfl,X,Q1 (D0 (F5 lz) hr') (G1 a9 a6),?_⟩;refine ⟨c++[⟨h,n,v,x,.non,i,none⟩],f++[.ref u],putK g (.inl h) (.int (f.length:Nat)),z01,?_,?_,?_,?_,?_,(show dAll (i + 1) (dstep i c (.beg h n v x)) _=_ from F),dw.2,Same.keep (s5.trans B) Z,_,_,_,_,rfl⟩
    ·exact z1v (z02 (λ a b z=>RcAt.tups O z) a2) ⟨u,rfl,O _ _ (SqT.of L)⟩
    ·rw [upd_ne R.symm];exact a0
    ·exact D0 zds (by omega)
    ·rw [M0];show c.length + 1<=i + 1;omega
    ·intro k;rw [z48,B2];show _=j09 _ (lastI k (c.map Rc.h++[h]));rw [z4o,hv k,K0,lz];by_cases z:h=k
     ·rw [if_pos z,if_pos (by rw [z])];rfl
     ·rw [if_neg z,if_neg (λ y=>z (n8 y).symm)]
   | fin h a=>
    obtain ⟨J,rfl,I⟩:=b3;obtain ⟨j,hj⟩:=Option.isSome_iff_exists.mp (dw.1 h a rfl);have b9:valV g (.inl h)=some (.int (j:Nat)):=by rw [hv h,hj];rfl
    have b1:j < c.length:=by have:=z8i hj;rwa [K0] at this
    have a5:c[j]? = some c[j]:=N0 b1;obtain ⟨yj,c0,pj,rfl,sj⟩:=z1h S a5;have b5:DGet H4 d (.int h) (some (.int (j:Nat))):=b9 ▸ DGet.k (k:=.inl h) U;refine ⟨_,rfl,.inr (.inl ⟨J,_,0,.str "end",rfl,rfl,I,z07 (j:=0) rfl,rfl,_,rfl,iteK ?_⟩)⟩;refine ⟨_,rfl,⟨_,rfl,.inr (.inl ⟨J,_,1,.int h,rfl,rfl,I,z07 (j:=1) rfl,d,_,rfl,b5,?_⟩)⟩⟩;refine ⟨_,rfl,_,rfl,.inl ⟨l,f,j,.ref pj,rfl,rfl,SqL.of Y,z07 c0,?_⟩⟩;refine ⟨_,rfl,4,rfl,.inr (.inl ⟨pj,_,rfl,sj,λ z=>absurd z.2 (show ¬ HT.sIx 7 7 (some 4)=7 by decide),λ G W=>?_⟩)⟩;have c1:cutV [.int c[j].h,c[j].n,c[j].v,c[j].x,c[j].a,.int c[j].b,endV c[j].e] none (some 4)=[.int c[j].h,c[j].n,c[j].v,c[j].x]:=rfl;rw [c1];refine ⟨_,rfl,.inr (.inl ⟨J,_,2,a,rfl,rfl,(Same.upd W).seqT I,z07 (j:=2) rfl,?_⟩)⟩;refine ⟨_,rfl,.inr (.inl ⟨pj,_,5,.int c[j].b,rfl,rfl,(Same.upd W).seqT sj,z07 (j:=5) rfl,?_⟩)⟩;refine ⟨_,rfl,w_3,λ D M=>.inr (.inr (.inr ⟨G,D,_,_,rfl,rfl,(Same.upd M).seqT (SqT.of z01),SqT.of z01,by simp,w_7,λ z=>(by cases z),λ _ u a3=>?_⟩))⟩;have B:Same H4 _:=((Same.upd W).trans (Same.upd M)).trans (Same.upd (o:=.tup ([.int c[j].h,c[j].n,c[j].v,c[j].x]++[a,.int c[j].b,.int (i:Nat)])) a3);have L:upd (upd (upd H4 G (.tup [.int c[j].h,c[j].n,c[j].v,c[j].x])) D (.tup [a,.int c[j].b,.int (i:Nat)])) u (.tup ([.int c[j].h,c[j].n,c[j].v,c[j].x]++[a,.int c[j].b,.int (i:Nat)])) u=some (.tup ([.int c[j].h,c[j].n,c[j].v,c[j].x]++[a,.int c[j].b,.int (i:Nat)])):=z01;generalize upd (upd (upd H4 G (.tup [.int c[j].h,c[j].n,c[j].v,c[j].x])) D (.tup [a,.int c[j].b,.int (i:Nat)])) u (.tup ([.int c[j].h,c[j].n,c[j].v,c[j].x]++[a,.int c[j].b,.int (i:Nat)]))=H6 at B L⊢;have X:=B _ _ Y;have a0:=B _ _ U;have a2:=z02 (λ a b z=>RcAt.tups (.of B) z) S;have O:Tups (kx w) H6 (upd H6 l (.lst (f.set j (.ref u)))):=Tups.lst X;refine ⟨_,rfl,_,rfl,l,f,j,j,rfl,rfl,X,zks (show j < f.length by rw [lz];exact b1),?_⟩;have dd:dstep i c (.fin h a)=c.modify j (λ r=>{ r with a:=a,e:=some i }):=by unfold dstep;dsimp only;rw [hj]
    have a7:dAll (i + 1) (dstep i c (.fin h a)) (List.drop (i + 1) C)=_:=F;have b0:=dw.2;rw [dd] at a7 b0;have mh:(c.modify j (λ r=>{ r with a:=a,e:=some i })).map Rc.h=c.map Rc.h:=by
     apply B7;intro m;rw [X0,X0,z5];cases c[m]? with
     | none=>rfl
     | some r=>
      show some (if j=m then _ else r).h=some r.h;by_cases z:j=m
      ·rw [if_pos z]
      ·rw [if_neg z]
    refine ⟨_,f.set j (.ref u),g,z01,?_,?_,?_,?_,?_,a7,b0,Same.keep (s4.trans B) Z,_,_,_,_,rfl⟩
    ·exact z7l (z02 (λ a b z=>RcAt.tups O z) a2) a5 ⟨u,rfl,O _ _ (SqT.of L)⟩
    ·rw [upd_ne R.symm];exact a0
    ·omega
    ·rw [P5];omega
    ·intro k;rw [mh];exact hv k
  ·rintro σ H3 ⟨c,f,g,el,ar,ed,hk,hr',hv,F,dw,s3,x3,x4,x5,x6,rfl⟩;have:C.drop ys.length=[]:=by rw [b8];exact List.drop_length
   rw [this] at F;have F:c=dAll 0 [] C:=F;rw [<-F] at q;exact ⟨_,rfl,q l f H3 s3 Z el ar⟩
noncomputable def z3c:Nat->Str
 | 0=>"strict"
 | 1=>"hands"
 | _=>"bare"
noncomputable def ltO:Option Nat->Nat->Bool
 | some a,b=>decide (a < b)
 | none,_=>false
noncomputable def aheadB:Nat->Rc->Rc->Bool
 | 0,r,q=>ltO r.e q.b
 | 1,r,q=>decide (r.h=q.h) && decide (r.b < q.b)
 | _,_,_=>false
theorem dec_lt (a b:Nat):decide ((a:Int) < (b:Int))=decide (a < b):=decide_eq_decide.mpr (by omega)
def z5h (K:d0):Sp:=λ vs H Q _=>∃(x y:V) (r q:Rc) (m:Nat),vs=[x,y,.str (z3c m)]/\RcAt K H r x/\RcAt K H q y/\Q (.bl (aheadB m r q)) H
theorem z9z (T:TX (kx w) mg):Fo P w mg base CX0 1 315 y0v ["one","other","strictness"] (z5h (kx w)):=by
 refine (z44 w.params).ok zad (λ g H Q E h=>?_) (λ k A i s H g Q E l h=>?_)
 ·obtain ⟨x,y,r,q,m,rfl,_⟩:=h;rfl
 ·obtain ⟨x,y,r,q,m,rfl,⟨a,rfl,c⟩,⟨f,rfl,d⟩,h⟩:=h;refine ⟨_,(z03 (ps_if (z0b opEq (pv 2) pe_str (nomark _))
   (z04 (ps_ret (pe_and (z3a zid (pe_ix ix_seq (pv 0) pe_int (λ _ _=>rfl)) pe_non (nomark _)) (pe_one (z3a op_lt (pe_ix ix_seq (pv 0) pe_int (λ _ _=>rfl)) (pe_ix ix_seq (pv 1) pe_int (λ _ _=>rfl)) (nomark _))))))
   z0d)
   (z03 (ps_if (z0b opEq (pv 2) pe_str (nomark _))
   (z04 (ps_ret (pe_and (z3a opEq (pe_ix ix_seq (pv 0) pe_int (λ _ _=>rfl)) (pe_ix ix_seq (pv 1) pe_int (λ _ _=>rfl)) (nomark _)) (pe_one (z3a op_lt (pe_ix ix_seq (pv 0) pe_int (λ _ _=>rfl)) (pe_ix ix_seq (pv 1) pe_int (λ _ _=>rfl)) (nomark _))))))
   z0d)
   (z04 (ps_ret pe_bl)))),?_⟩
  match m,h with
  | 0,h=>
   refine ⟨_,rfl,rfl,_,rfl,iteP (decide_eq_true rfl) ?_⟩;refine ⟨_,rfl,.inr (.inl ⟨a,_,6,endV r.e,rfl,rfl,c,z07 (j:=6) rfl,rfl,_,rfl,?_⟩)⟩;cases re:r.e with
   | none=>
    refine iteN (by show ¬ (!decide (V.non=V.non))=true;decide) ?_;have:aheadB 0 r q=false:=by show ltO r.e q.b=_;rw [re];rfl
    rw [this] at h;exact h
   | some b=>
    refine iteP rfl ?_;refine ⟨_,rfl,.inr (.inl ⟨a,_,6,.int (b:Nat),rfl,rfl,c,z07 (j:=6) (by rw [re];rfl),?_⟩)⟩;refine ⟨_,rfl,.inr (.inl ⟨f,_,5,.int (q.b:Nat),rfl,rfl,d,z07 (j:=5) rfl,b,q.b,rfl,rfl,?_⟩)⟩;have:aheadB 0 r q=decide (b < q.b):=by show ltO r.e q.b=_;rw [re];rfl
    rw [this,<-dec_lt] at h;exact h
  | 1,h=>
   refine ⟨_,rfl,rfl,_,rfl,iteK ?_⟩;refine ⟨_,rfl,rfl,_,rfl,iteP (decide_eq_true rfl) ?_⟩;refine ⟨_,rfl,.inr (.inl ⟨a,_,0,.int r.h,rfl,rfl,c,z07 (j:=0) rfl,?_⟩)⟩;refine ⟨_,rfl,.inr (.inl ⟨f,_,0,.int q.h,rfl,rfl,d,z07 (j:=0) rfl,rfl,_,rfl,?_⟩)⟩;by_cases z:r.h=q.h
   ·refine iteP (decide_eq_true (by rw [z])) ?_;refine ⟨_,rfl,.inr (.inl ⟨a,_,5,.int (r.b:Nat),rfl,rfl,c,z07 (j:=5) rfl,?_⟩)⟩;refine ⟨_,rfl,.inr (.inl ⟨f,_,5,.int (q.b:Nat),rfl,rfl,d,z07 (j:=5) rfl,r.b,q.b,rfl,rfl,?_⟩)⟩;have:aheadB 1 r q=decide (r.b < q.b):=by show (decide (r.h=q.h) && _)=_;rw [decide_eq_true z];rfl
    rw [this,<-dec_lt] at h;exact h
   ·refine iteN (λ e=>z (V.int.inj (of_decide_eq_true e))) ?_;have:aheadB 1 r q=false:=by show (decide (r.h=q.h) && _)=_;rw [decide_eq_false z];rfl
    rw [this] at h;exact h
  | m + 2,h=>refine ⟨_,rfl,rfl,_,rfl,iteN (show ¬ decide (V.str "bare" = V.str "strict")=true by decide +kernel) ?_⟩;refine ⟨_,rfl,rfl,_,rfl,iteN (show ¬ decide (V.str "bare" = V.str "hands")=true by decide +kernel) ?_⟩;exact h
def z1q:Sp:=λ vs H Q _=>∃(m:Nat),vs=[.str (z3c m)]/\Q .non H
theorem zgc {H:Hp}:SqT (kx w) H 294 [.str "strict",.str "hands",.str "bare"]:=
 .inr ⟨⟨(.type "tuple"),none,(.seq #[(.str "strict" 628),(.str "hands" 629),(.str "bare" 630)] 0),#[]⟩,#[(.str "strict" 628),(.str "hands" 629),(.str "bare" 630)],0,by kernel_rfl,rfl,rfl,w_3,.cons ⟨_,rfl⟩ (.cons ⟨_,rfl⟩ (.cons ⟨_,rfl⟩ .nil))⟩
theorem z4y (T:TX (kx w) mg):Fo P w mg base CX0 1 308 y06 ["strictness"] z1q:=by
 refine (z15 w.params).ok z4d (λ a H Q E h=>?_) (λ c A b s H a Q E d h=>?_)
 ·obtain ⟨m,rfl,_⟩:=h;rfl
 ·obtain ⟨m,rfl,h⟩:=h;refine ⟨_,(z04 (ps_if (PW.pt (pw_or (pt_not (pt_val (z0a z0r rfl (T.no (z0g _)) C2 (z00 (pv 0) (z00 (z2w (v:=.ty "str") rfl (T.no (n_str _)) boot_str rfl) pa_nil))) (λ _=>rfl))) (pw_or1 (z0b z3x (pv 0) (z0n (v:=.ref 294) rfl (T.of (z8q _)) rfl) (by with_unfolding_all rfl)))))
   (z04 z46)
   z0d)),?_⟩
  refine ⟨_,rfl,_,_,"str",rfl,rfl,by decide +kernel,_,rfl,iteN (by decide) ?_⟩;refine ⟨_,rfl,294,_,rfl,.inr zgc,rfl,rfl,_,rfl,iteN ?_ h⟩
  match m with
  | 0=>decide +kernel
  | 1=>decide +kernel
  | m + 2=>exact (by decide +kernel:¬ (if true=true then !inV (.str "bare") [V.str "strict",.str "hands",.str "bare"] else inV (.str "bare") [V.str "strict",.str "hands",.str "bare"])=true)
noncomputable def z1t (m:Nat) (rs:List Rc) (a b:Nat):Bool:=match rs[a]?,rs[b]? with|some r,some q=>aheadB m r q|_,_=>false
noncomputable def rowTo (m:Nat) (rs:List Rc) (a j:Nat):List (Nat×Nat):=((K1 j).filter λ b=>z1t m rs a b).map λ b=>(a,b)
noncomputable def z2l (m:Nat) (rs:List Rc) (i:Nat):List (Nat×Nat):=(K1 i).flatMap λ a=>rowTo m rs a rs.length
theorem za6 {m:Nat} {rs:List Rc} {a j:Nat}:rowTo m rs a (j + 1)=rowTo m rs a j++if z1t m rs a j then [(a,j)] else []:=by
 unfold rowTo;rw [y8,M4,B2];by_cases z:z1t m rs a j=true
 ·rw [if_pos z];simp [z]
 ·rw [if_neg z];simp [z]
theorem z68 {m:Nat} {rs:List Rc} {i:Nat}:z2l m rs (i + 1)=z2l m rs i++rowTo m rs i rs.length:=by unfold z2l;rw [y8,List.flatMap_append];simp
theorem zco {m:Nat} {rs:List Rc} {a j:Nat}:(rowTo m rs a j).length<=j:=by unfold rowTo;rw [K0];exact D0 (A2 _ _) (by rw [W1];exact B0 _)
theorem z5b {m:Nat} {rs:List Rc} :∀i:Nat,(z2l m rs i).length<=i * rs.length
 | 0=>by simp [z2l]
 | i + 1=>by rw [z68,M0,Nat.add_mul,Nat.one_mul];exact Nat.add_le_add (z5b i) zco
theorem zhb {i:Nat} {rs:List Rc} {e:Ev}:(dstep i rs e).length<=rs.length + 1:=by
 cases e with
 | beg h n v x=>show (rs++[_]).length<=_;rw [M0];exact B0 _
 | fin h a=>
  unfold dstep;dsimp only;cases lastI h (rs.map Rc.h) with
  | none=>exact M3 _
  | some j=>show (rs.modify j _).length<=_;rw [P5];exact M3 _
theorem z6p :∀{i:Nat} {rs:List Rc} (es:List Ev),(dAll i rs es).length<=rs.length + es.length
 | _,_,[]=>B0 _
 | i,rs,e :: es=>by show (dAll (i + 1) (dstep i rs e) es).length<=_;have:=z6p (i:=i + 1) (rs:=dstep i rs e) es;have:=zhb (i:=i) (rs:=rs) (e:=e);rw [U0];omega
def PairAt (H:Hp) (p:Nat×Nat) (y:V):Prop:=∃a,y=.ref a/\H a=some (.tup [.int p.1,.int p.2])
theorem PairAt.same {H H':Hp} {p:Nat×Nat} {y:V} (s:Same H H') (h:PairAt H p y):PairAt H' p y:=h.elim λ a z=>⟨a,z.1,s _ _ z.2⟩
theorem PairAt.wrote {H:Hp} {l:Addr} {zs ws:List V} {p:Nat×Nat} {y:V} (e:H l=some (.lst zs)) (h:PairAt H p y):PairAt (upd H l (.lst ws)) p y:=h.elim λ a z=>⟨a,z.1,by rw [upd_ne (ne_of z.2 e (by intro z;cases z))];exact z.2⟩
def zc3 (K:d0):Sp:=λ vs H Q _=>∃(t te:Addr) (th:V) (ys:List V) (es:List Ev) (m:Nat),vs=[.ref t,.str (z3c m)]/\SqT K H t [th,.ref te]/\SqT K H te ys/\All2 (EvAt K H) es ys/\es.length<=100/\dWf 0 [] es/\
 ∀l zs H',Same H H'->H l=none->H' l=some (.lst zs)->All2 (PairAt H') (z2l m (dAll 0 [] es) (dAll 0 [] es).length) zs->Q (.ref l) H'
theorem zg9 (T:TX (kx w) mg) (c0:Ca P w mg base "deeds" ["tale"] 1 (z6w (kx w))) (c1:Ca P w mg base "check_strictness" ["strictness"] 1 z1q) (c2:Ca P w mg base "goes_ahead" ["one","other","strictness"] 1 (z5h (kx w))):Fo P w mg base CX0 2 301 y23 ["tale","strictness"] (zc3 (kx w)):=by
 refine (zbq w.params).ok sc_has_to (λ vs H Q E h=>?_) (λ b8 A b7 s H vs Q E N h=>?_)
 ·obtain ⟨t,te,th,ys,G,m,rfl,_⟩:=h;rfl
 ·obtain ⟨t,te,th,ys,G,m,rfl,st,se,al,Y,wf,q⟩:=h;refine ⟨_,(z03 (z31 (pe_cal c1 (N.mono (by decide)) rfl (z00 (pv 1) pa_nil)))
   (z03 (ps_set (i:=2) sc_has_to.nd rfl (j1 rfl) (pe_cal c0 (N.mono (by decide)) rfl (z00 (pv 0) pa_nil)))
   (z03 (ps_set (i:=3) sc_has_to.nd rfl (j1 rfl) (pe_lst pa_nil))
   (z03 (ps_for T1 rfl (z5c rfl (T.no (z14 _)) (z00 (pv 2) pa_nil)) (pg_tup rfl (z0h (z0j (i:=4) sc_has_to.nd rfl (j1 rfl)) (z0h (z0j (i:=5) sc_has_to.nd rfl (j1 rfl)) z17)))
   (z04 (ps_for T1 rfl (z5c rfl (T.no (z14 _)) (z00 (pv 2) pa_nil)) (pg_tup rfl (z0h (z0j (i:=6) sc_has_to.nd rfl (j1 rfl)) (z0h (z0j (i:=7) sc_has_to.nd rfl (j1 rfl)) z17)))
   (z04 (ps_if (pt_val (pe_cal c2 (N.mono (by decide)) rfl (z00 (pv 5) (z00 (pv 7) (z00 (pv 1) pa_nil)))) (λ _=>rfl))
   (z04 (z31 (z1x (pv 3) (z00 (pe_tup (z00 (pv 4) (z00 (pv 6) pa_nil))) pa_nil))))
   z0d)))))
   (z04 (ps_ret (pv 3))))))),?_⟩
  refine ⟨_,rfl,m,rfl,?_⟩;refine ⟨_,rfl,t,te,th,ys,G,rfl,st,se,al,Y,wf,λ l g C s1 b2 el O=>?_⟩;generalize hrs:dAll 0 [] G=rs at O q;have hn:rs.length<=100:=by rw [<-hrs];have:=z6p (i:=0) (rs:=[]) G;simpa using D0 this (by simpa using Y)
  have v:g.length=rs.length:=z05 O;refine ⟨w_0,λ c n=>?_⟩;have V:H c=none:=s1.free n;have nl:l≠c:=z08 el n;have s2:Same H (upd C c (.lst [])):=s1.trans (Same.upd n);have R:upd C c (.lst []) l=some (.lst g):=(Same.upd n) _ _ el;have a1:=z02 (λ a b z=>RcAt.tups (.of (Same.upd (o:=.lst []) n)) z) O;have a2:upd C c (.lst []) c=some (.lst []):=z01;generalize upd C c (.lst [])=H2 at s2 R a1 a2⊢;refine ⟨_,rfl,l,g,rfl,SqL.of R,?_⟩;refine z4l (K:=KX w.params) (a:=l) (xs:=g) (λ i σ d=>∃f,d l=some (.lst g)/\All2 (RcAt (kx w) d) rs g/\d c=some (.lst f)/\All2 (PairAt d) (z2l m rs i) f/\Same H d/\∃x4 x5 x6 x7,σ=[some (.ref t),some (.str (z3c m)),some (.ref l),some (.ref c),x4,x5,x6,x7])
   ⟨[],R,a1,a2,.nil,s2,_,_,_,_,rfl⟩ (λ i σ d h=>?_) ?_ ?_
  ·obtain ⟨f,e,_⟩:=h;exact SqL.of e
  ·rintro i x σ H3 p Z ⟨f,e3,a3,f3,b3,s3,x4,x5,x6,x7,rfl⟩ hp;obtain ⟨H4,M,u,ep⟩:=newA (.tup [.int i,x]) hp;rw [<-M];have W:=u _ _ e3;have f4:=u _ _ f3;have a4:=z02 (λ a b z=>RcAt.tups (.of u) z) a3;have b4:=z02 (λ a b z=>PairAt.same u z) b3;have s4:=s3.trans u;refine ⟨p,_,rfl,SqT.of ep,rfl,.int i,_,rfl,x,_,rfl,rfl,?_⟩;have a9:i < rs.length:=by rw [<-v];exact (List.getElem?_eq_some_iff.mp Z).1
   have pl:=z5b (m:=m) (rs:=rs) i;have pm:i * rs.length<=10000:=j1e (D0 (d3 a9) hn) hn;refine ⟨_,rfl,l,g,rfl,SqL.of W,?_⟩;refine z4l (K:=KX w.params) (a:=l) (xs:=g) (λ j σ d=>∃f,d l=some (.lst g)/\All2 (RcAt (kx w) d) rs g/\d c=some (.lst f)/\All2 (PairAt d) (z2l m rs i++rowTo m rs i j) f/\Same H d/\∃x6 x7,σ=[some (.ref t),some (.str (z3c m)),some (.ref l),some (.ref c),some (.int (i:Nat)),some x,x6,x7])
    ⟨f,W,a4,f4,by rw [show rowTo m rs i 0=[] from rfl,J2];exact b4,s4,_,_,rfl⟩ (λ j σ d h=>?_) ?_ ?_
   ·obtain ⟨f,e,_⟩:=h;exact SqL.of e
   ·rintro j y σ L B hy ⟨zs3,e5,a5,f5,b5,s5,x6,x7,rfl⟩ hp';have k:=Same.upd (o:=.tup [.int j,y]) hp';have S:upd L B (.tup [.int j,y]) B=some (.tup [.int j,y]):=z01;generalize upd L B (.tup [.int j,y])=H6 at k S⊢;have X:=k _ _ e5;have I:=k _ _ f5;have D:=z02 (λ a b z=>RcAt.tups (.of k) z) a5;have J:=z02 (λ a b z=>PairAt.same k z) b5;have s6:=s5.trans k;refine ⟨B,_,rfl,SqT.of S,rfl,.int j,_,rfl,y,_,rfl,rfl,?_⟩;obtain ⟨r1,b1,b0⟩:=z0e D Z;obtain ⟨r2,a0,a8⟩:=z0e D hy;have b9:j < rs.length:=(List.getElem?_eq_some_iff.mp a0).1;have ah:z1t m rs i j=aheadB m r1 r2:=by unfold z1t;rw [b1,a0]
    refine ⟨_,rfl,_,rfl,_,rfl,x,y,r1,r2,m,rfl,b0,a8,_,rfl,?_⟩;rw [<-ah];have rl:=zco (m:=m) (rs:=rs) (a:=i) (j:=j);have zl:zs3.length=(z2l m rs i++rowTo m rs i j).length:=z05 J;rw [M0] at zl;by_cases z:z1t m rs i j=true
    ·refine iteP z ?_;refine ⟨_,rfl,.inl ⟨rfl,zs3,SqL.of I⟩,_,rfl,_,rfl,w_2,λ U a7=>?_⟩;obtain ⟨H7,M,r,e7⟩:=newA (.tup [.int (i:Nat),.int (j:Nat)]) a7;rw [<-M];have F:=r _ _ I;refine ⟨c,zs3,_,rfl,rfl,F,Q1 (m:=20000) (by omega) (by decide),?_⟩;refine ⟨zs3++[.ref U],?_,?_,z01,?_,Same.keep (s6.trans r) V,_,_,rfl⟩
     ·rw [upd_ne nl];exact r _ _ X
     ·exact z02 (λ a b z=>RcAt.tups ((Tups.of r).trans (Tups.lst F)) z) D
     ·rw [za6,if_pos z,<-Q9];exact z1v (z02 (λ a b z=>PairAt.wrote F (PairAt.same r z)) J) (PairAt.wrote F ⟨U,rfl,e7⟩)
    ·refine iteN z ?_;exact ⟨zs3,X,D,I,by rw [za6,if_neg z,J2];exact J,s6,_,_,rfl⟩
   ·rintro σ L ⟨zs3,e5,a5,f5,b5,s5,x6,x7,rfl⟩;exact ⟨zs3,e5,a5,f5,by rw [z68,<-v];rw [v] at b5;rw [v];exact b5,s5,_,_,_,_,rfl⟩
  ·rintro σ H3 ⟨f,e3,a3,f3,b3,s3,x4,x5,x6,x7,rfl⟩;rw [v] at b3;exact ⟨_,rfl,q c f H3 s3 V f3 b3⟩
end
section
noncomputable def oStep (os:List Int):Ev->List Int
 | .beg h _ _ _=>os++[h]
 | .fin h _=>os.filter λ k=>decide (k≠h)
noncomputable def oOk (os:List Int):Ev->Prop
 | .beg h _ _ _=>h∉os
 | .fin h _=>h∈os
noncomputable def EWf:List Int->List Ev->Prop
 | _,[]=>True
 | os,e :: es=>oOk os e/\EWf (oStep os e) es
theorem EWf.snoc :∀{es:List Ev} {os:List Int} {e:Ev},EWf os es->oOk (es.foldl oStep os) e->EWf os (es++[e])
 | [],os,e,_,h=>⟨h,trivial⟩
 | x :: es,os,e,w,h=>⟨w.1,EWf.snoc w.2 h⟩
theorem zha {h:Int} (hs:List Int) :∀{j:Nat},lastI h hs=some j->hs[j]? = some h/\∀k,j < k->hs[k]?≠some h:=by
 suffices key :∀n (hs:List Int),hs.length=n->∀{j:Nat},lastI h hs=some j->hs[j]? = some h/\∀k,j < k->hs[k]?≠some h from λ {j} a=>key _ hs rfl a;intro n;induction n with
 | zero=>intro hs e j a;have:=z8i a;omega
 | succ n ih=>
  intro hs e j a;have ne:hs≠[]:=λ z=>by rw [z] at e;cases e
  obtain ⟨b,t,rfl⟩ :∃b t,hs=b++[t]:=⟨hs.dropLast,hs.getLast ne,(j0c ne).symm⟩
  rw [M0] at e;have e:b.length=n:=by simpa using e
  rw [z4o] at a;by_cases z:t=h
  ·rw [if_pos z] at a;cases a;refine ⟨by simp [z],λ k c=>?_⟩;rw [O3 (by rw [M0];show b.length + 1<=k;omega)];intro y;cases y
  ·rw [if_neg z] at a;obtain ⟨f,d⟩:=ih b e a;have lt:=z8i a;refine ⟨by rw [Q2 lt];exact f,λ k c=>?_⟩;by_cases y:k < b.length
   ·rw [Q2 y];exact d k c
   ·by_cases y2:k=b.length
    ·subst y2;rw [D2 (B0 _)];simp;exact z
    ·rw [O3 (by rw [M0];show b.length + 1<=k;omega)];intro y;cases y
theorem ze2 {h:Int} (hs:List Int) (hm:h∈hs):(lastI h hs).isSome=true:=by
 suffices key :∀n (hs:List Int),hs.length=n->h∈hs->(lastI h hs).isSome=true from key _ hs rfl hm;intro n;induction n with
 | zero=>intro hs e hm;rw [List.length_eq_zero_iff.mp e] at hm;cases hm
 | succ n ih=>
  intro hs e hm;have ne:hs≠[]:=λ z=>by rw [z] at e;cases e
  obtain ⟨a,t,rfl⟩ :∃a t,hs=a++[t]:=⟨hs.dropLast,hs.getLast ne,(j0c ne).symm⟩
  rw [M0] at e;rw [z4o];by_cases z:t=h
  ·rw [if_pos z];rfl
  ·rw [if_neg z];refine ih a (by simpa using e) ?_;rcases List.mem_append.mp hm with y|y
   ·exact y
   ·exact absurd (List.mem_singleton.mp y).symm z
structure DInv (i:Nat) (rs:List Rc) (os:List Int):Prop where
 b :∀r∈rs,r.b < i
 e :∀r∈rs,∀e,r.e=some e->e < i
 p :∀(x y:Nat) (r q:Rc),x < y->rs[x]? = some r->rs[y]? = some q->r.b < q.b/\(r.h=q.h->∃e,r.e=some e/\e < q.b)
 o :∀r∈rs,r.h∉os->r.e.isSome=true
 m :∀h∈os,h∈rs.map Rc.h
theorem DInv.nil:DInv 0 [] []:=⟨λ _ h=>(by cases h),λ _ h=>(by cases h),λ x y r q _ h=>(by simp at h),λ _ h=>(by cases h),λ _ h=>(by cases h)⟩
theorem ze6 {rs:List Rc} {j:Nat} {f:Rc->Rc} (hf :∀r,(f r).h=r.h):(rs.modify j f).map Rc.h=rs.map Rc.h:=by
 apply B7;intro m;rw [X0,X0,z5];cases rs[m]? with
 | none=>rfl
 | some r=>
  show some (if j=m then f r else r).h=some r.h;by_cases z:j=m
  ·rw [if_pos z,hf]
  ·rw [if_neg z]
theorem DInv.step {i:Nat} {rs:List Rc} {os:List Int} (I:DInv i rs os) {e:Ev} (ok:oOk os e):DInv (i + 1) (dstep i rs e) (oStep os e)/\∀h a,e=.fin h a->(lastI h (rs.map Rc.h)).isSome=true:=by
 cases e with
 | beg h n v x=>
  have ok:h∉os:=ok;refine ⟨⟨λ r d=>?_,λ r d e c=>?_,λ u g r q E L D=>?_,λ r d A=>?_,λ k N=>?_⟩,λ h a e=>by cases e⟩
  ·rcases List.mem_append.mp d with z|z
   ·have:=I.b r z;omega
   ·rw [List.mem_singleton.mp z];exact K2 i
  ·rcases List.mem_append.mp d with z|z
   ·have:=I.e r z e c;omega
   ·rw [List.mem_singleton.mp z] at c;cases c
  ·have a1:g < (dstep i rs (.beg h n v x)).length:=(List.getElem?_eq_some_iff.mp D).1;have hl:(dstep i rs (.beg h n v x)).length=rs.length + 1:=by show (rs++[_]).length=_;rw [M0];rfl
   have U:rs[u]? = some r:=by
    have:(rs++[_])[u]? = some r:=L
    rwa [Q2 (by omega)] at this
   by_cases z:g < rs.length
   ·have a0:rs[g]? = some q:=by
     have:(rs++[_])[g]? = some q:=D
     rwa [Q2 z] at this
    exact I.p u g r q E U a0
   ·have K:(rs++[_])[g]? = some q:=D;have Z:g=rs.length:=by omega
    subst Z;rw [D2 (B0 _)] at K;simp at K;have F:=S0 U;rw [<-K];refine ⟨I.b r F,λ B=>?_⟩;have:r.e.isSome=true:=I.o r F (by rw [B];exact ok);obtain ⟨e,c⟩:=Option.isSome_iff_exists.mp this;exact ⟨e,c,I.e r F e c⟩
  ·rcases List.mem_append.mp d with z|z
   ·exact I.o r z λ y=>A (List.mem_append.mpr (.inl y))
   ·rw [List.mem_singleton.mp z] at A;exact absurd (List.mem_append.mpr (.inr (List.mem_singleton.mpr rfl))) A
  ·show k∈(rs++[_]).map Rc.h;rw [B2];rcases List.mem_append.mp N with z|z
   ·exact List.mem_append.mpr (.inl (I.m k z))
   ·rw [List.mem_singleton.mp z];exact List.mem_append.mpr (.inr (List.mem_singleton.mpr rfl))
 | fin h a=>
  have ok:h∈os:=ok;obtain ⟨j,O⟩:=Option.isSome_iff_exists.mp (ze2 _ (I.m h ok));refine ⟨?_,λ h' a' e=>by cases e;rw [O];rfl⟩;obtain ⟨S,Q⟩:=zha _ O;have hd:dstep i rs (.fin h a)=rs.modify j (λ r=>{ r with a:=a,e:=some i }):=by unfold dstep;dsimp only;rw [O]
  rw [hd];have hs:oStep os (.fin h a)=os.filter λ k=>decide (k≠h):=rfl;rw [hs];rw [X0] at S;obtain ⟨Y,T,P⟩:=Option.map_eq_some_iff.mp S;have get :∀m q,(rs.modify j (λ r=>{ r with a:=a,e:=some i }))[m]? = some q->∃r,rs[m]? = some r/\q.h=r.h/\q.b=r.b/\(m=j->q.e=some i)/\(m≠j->q=r):=λ m q V=>by
   rw [z5] at V;obtain ⟨r,d,e⟩:=Option.map_eq_some_iff.mp V;refine ⟨r,d,?_⟩;by_cases z:j=m
   ·rw [if_pos z] at e;rw [<-e];exact ⟨rfl,rfl,λ _=>rfl,λ y=>absurd z.symm y⟩
   ·rw [if_neg z] at e;rw [<-e];exact ⟨rfl,rfl,λ y=>absurd y.symm z,λ _=>rfl⟩
  refine ⟨λ r d=>?_,λ r d e c=>?_,λ u g r q E L D=>?_,λ r d A=>?_,λ k N=>?_⟩
  ·obtain ⟨m,C⟩:=List.mem_iff_getElem?.mp d;obtain ⟨s,t,_,h3,_⟩:=get m r C;have:=I.b s (S0 t);omega
  ·obtain ⟨m,C⟩:=List.mem_iff_getElem?.mp d;obtain ⟨s,t,_,_,H,G⟩:=get m r C;by_cases z:m=j
   ·rw [H z] at c;cases c;exact K2 i
   ·rw [G z] at c;have:=I.e s (S0 t) e c;omega
  ·obtain ⟨s,M,r2,r3,r4,r5⟩:=get u r L;obtain ⟨R,W,X,q3,_⟩:=get g q D;obtain ⟨p1,J⟩:=I.p u g s R E M W;refine ⟨by omega,λ B=>?_⟩;by_cases z:u=j
   ·subst z;rw [T] at M;cases M;refine absurd ?_ (Q g E);rw [X0,W];show some R.h=some h;rw [<-X,<-B,r2,P]
   ·rw [r5 z] at B⊢;rw [X] at B;obtain ⟨e,c,lt⟩:=J B;exact ⟨e,c,by omega⟩
  ·obtain ⟨m,C⟩:=List.mem_iff_getElem?.mp d;obtain ⟨s,t,h2,_,H,G⟩:=get m r C;by_cases z:m=j
   ·rw [H z];rfl
   ·rw [G z] at A⊢;by_cases y:s.h=h
    ·have lt:m < j:=by
      rcases Nat.lt_or_gt_of_ne z with l|l
      ·exact l
      ·exact absurd (by rw [X0,t];show some s.h=_;rw [y]) (Q m l)
     obtain ⟨_,J⟩:=I.p m j s Y lt t T;obtain ⟨e,c,_⟩:=J (by rw [y,P]);rw [c];rfl
    ·exact I.o s (S0 t) λ w=>A (List.mem_filter.mpr ⟨w,decide_eq_true y⟩)
  ·rw [ze6 (f:=λ r=>{ r with a:=a,e:=some i }) (λ r=>rfl)];exact I.m k (List.mem_filter.mp N).1
theorem DInv.all :∀{es:List Ev} {i:Nat} {rs:List Rc} {os:List Int},DInv i rs os->EWf os es->dWf i rs es/\∃os',DInv (i + es.length) (dAll i rs es) os'
 | [],i,rs,os,I,_=>⟨trivial,os,I⟩
 | e :: es,i,rs,os,I,w=>by obtain ⟨a,b⟩:=I.step w.1;obtain ⟨d,os',c⟩:=DInv.all a w.2;refine ⟨⟨b,d⟩,os',?_⟩;rw [U0,show i + (es.length + 1)=i + 1 + es.length by omega];exact c
theorem zg4 {kvs:List (Key×V)} {h:Int} :∀{os:List Int},kvs.map (·.1)=os.map Sum.inl->(dropK kvs (.inl h)).map (·.1)=(os.filter λ k=>decide (k≠h)).map Sum.inl:=by
 induction kvs with
 | nil=>intro os e;cases os with|nil=>rfl|cons o os=>cases e
 | cons p r ih=>
  intro os e;cases os with
  | nil=>cases e
  | cons o os=>
   rw [J1,J1] at e;injection e with e1 e2;by_cases z:o=h
   ·rw [zcv (by rw [e1,z]),W2 (by simp [z])];exact ih e2
   ·rw [zcg (by rw [e1];exact λ y=>z (n8 y)),P2 (by simp [z]),J1,J1,e1,ih e2]
theorem z7i {α β:Type} {R S:α->β->Prop} :∀{xs:List α} {ys:List β},(∀a b,b∈ys->R a b->S a b)->All2 R xs ys->All2 S xs ys
 | _,_,_,.nil=>.nil
 | _,_,h,.cons a r=>.cons (h _ _ C1 a) (z7i (λ x y c z=>h x y (Y0 _ c) z) r)
theorem z28 {α β:Type} {R:α->β->Prop} :∀{xs:List α} {ys:List β},ys.length=xs.length->(∀(k:Nat) a b,xs[k]? = some a->ys[k]? = some b->R a b)->All2 R xs ys
 | [],[],_,_=>.nil
 | [],y :: ys,h,_=>by cases h
 | x :: xs,[],h,_=>by cases h
 | x :: xs,y :: ys,h,f=>.cons (f 0 x y rfl rfl) (z28 (by simpa using h) λ k a b c d=>f (k + 1) a b (by rw [X1];exact c) (by rw [X1];exact d))
end
section
theorem mem_pairsTo {m:Nat} {rs:List Rc} {p:Nat×Nat} {n:Nat}:p∈z2l m rs n↔p.1 < n/\p.2 < rs.length/\z1t m rs p.1 p.2=true:=by
 unfold z2l rowTo;rw [List.mem_flatMap];constructor
 ·rintro ⟨a,ha,h⟩;obtain ⟨b,e,rfl⟩:=List.mem_map.mp h;obtain ⟨c,d⟩:=List.mem_filter.mp e;exact ⟨List.mem_range.mp ha,List.mem_range.mp c,d⟩
 ·rintro ⟨c,d,h3⟩;exact ⟨p.1,List.mem_range.mpr c,List.mem_map.mpr ⟨p.2,List.mem_filter.mpr ⟨List.mem_range.mpr d,h3⟩,rfl⟩⟩
end
section
variable {P:Program} {w:W0} {mg:Str->Option Value} {base:Heap}
def near (i:Int):Prop:=-1000000000<=i/\i<=1000000000
inductive DeedOk:Str->Str->Dt->Prop
 | regR:DeedOk "register" "read" .non
 | regW {i:Int}:near i->DeedOk "register" "write" (.int i)
 | cntR:DeedOk "counter" "read" .non
 | cntA {i:Int}:near i->DeedOk "counter" "add" (.int i)
 | quP {i:Int}:near i->DeedOk "queue" "put" (.int i)
 | quT:DeedOk "queue" "take" .non
 | setP {i:Int}:near i->DeedOk "set" "put" (.int i)
 | setC {i:Int}:near i->DeedOk "set" "cut" (.int i)
 | setH {i:Int}:near i->DeedOk "set" "has" (.int i)
 | celR:DeedOk "cell" "read" .non
 | celW {i:Int}:near i->DeedOk "cell" "write" (.int i)
 | celS {i j:Int}:near i->near j->DeedOk "cell" "swap" (.tup [.int i,.int j])
noncomputable def kinds5:List Str:=["register","counter","queue","set","cell"]
noncomputable def verbsT (k:Str):List Str:=if k = "register" then ["write","read"] else if k = "counter" then ["add","read"] else if k = "queue" then ["put","take"] else if k = "set" then ["put","cut","has"] else ["read","write","swap","swap"]
def VerbOk (k v:Str):Prop:=((v = "read"\/v = "take")/\DeedOk k v .non)\/(v = "swap"/\∀i j,near i->near j->DeedOk k v (.tup [.int i,.int j]))\/(v≠"read"/\v≠"take"/\v≠"swap"/\∀i,near i->DeedOk k v (.int i))
theorem zk9 {k v:Str} (hk:k∈kinds5) (hv:v∈verbsT k):VerbOk k v:=by
 unfold kinds5 at hk;simp only [P1,C0,or_false] at hk;rcases hk with rfl|rfl|rfl|rfl|rfl
 ·rw [show verbsT "register" = (["write","read"]:List Str) by decide +kernel] at hv;simp only [P1,C0,or_false] at hv;rcases hv with rfl|rfl
  ·exact .inr (.inr ⟨by decide +kernel,by decide +kernel,by decide +kernel,λ i h=>.regW h⟩)
  ·exact .inl ⟨.inl rfl,.regR⟩
 ·rw [show verbsT "counter" = (["add","read"]:List Str) by decide +kernel] at hv;simp only [P1,C0,or_false] at hv;rcases hv with rfl|rfl
  ·exact .inr (.inr ⟨by decide +kernel,by decide +kernel,by decide +kernel,λ i h=>.cntA h⟩)
  ·exact .inl ⟨.inl rfl,.cntR⟩
 ·rw [show verbsT "queue" = (["put","take"]:List Str) by decide +kernel] at hv;simp only [P1,C0,or_false] at hv;rcases hv with rfl|rfl
  ·exact .inr (.inr ⟨by decide +kernel,by decide +kernel,by decide +kernel,λ i h=>.quP h⟩)
  ·exact .inl ⟨.inr rfl,.quT⟩
 ·rw [show verbsT "set" = (["put","cut","has"]:List Str) by decide +kernel] at hv;simp only [P1,C0,or_false] at hv;rcases hv with rfl|rfl|rfl
  ·exact .inr (.inr ⟨by decide +kernel,by decide +kernel,by decide +kernel,λ i h=>.setP h⟩)
  ·exact .inr (.inr ⟨by decide +kernel,by decide +kernel,by decide +kernel,λ i h=>.setC h⟩)
  ·exact .inr (.inr ⟨by decide +kernel,by decide +kernel,by decide +kernel,λ i h=>.setH h⟩)
 ·rw [show verbsT "cell" = (["read","write","swap","swap"]:List Str) by decide +kernel] at hv;simp only [P1,C0,or_false] at hv;rcases hv with rfl|rfl|rfl|rfl
  ·exact .inl ⟨.inl rfl,.celR⟩
  ·exact .inr (.inr ⟨by decide +kernel,by decide +kernel,by decide +kernel,λ i h=>.celW h⟩)
  ·exact .inr (.inl ⟨rfl,λ i j b a=>.celS b a⟩)
  ·exact .inr (.inl ⟨rfl,λ i j b a=>.celS b a⟩)
theorem zkt (z:Str) (ws:List Str):inV (.str z) (ws.map V.str)=decide (z∈ws):=by
 unfold inV;rw [j32,Bool.eq_iff_iff,m6,decide_eq_true_eq];constructor
 ·rintro ⟨x,hx,e⟩;have e:x=z:=eq_of_beq (show (x == z)=true from e);rw [<-e];exact hx
 ·exact λ h=>⟨z,h,(show (z == z)=true from beq_self_eq_true z)⟩
theorem zb4 {L:List Addr} {H H':Hp} (k:KeptL L H H') (n :∀l∈L,H l=none):Same H H':=λ b o e=>k b o (λ z=>by rw [n b z] at e;cases e) e
structure WordsAt (H:Hp) (p:Addr) (n:Nat) (f:Str->Option (List Str)):Prop where
 ex :∃kvs:List (Key×V),H p=some (.dK kvs)/\kvs.length<=n/\∀k ws,f k=some ws->∃l,valV kvs (.inr k)=some (.ref l)/\H l=some (.lst (ws.map V.str))
theorem z88 (kvs:List (Key×V)) (k:Key) (v:V):(putK kvs k v).length<=kvs.length + 1:=by
 unfold putK;split
 ·rw [K0];exact M3 _
 ·rw [M0];exact B0 _
theorem WordsAt.put {H:Hp} {p l:Addr} {n:Nat} {f:Str->Option (List Str)} {kvs:List (Key×V)} {k:Str} {ws:List Str} (hl:H l=none) (e:H p=some (.dK kvs)) (hn:kvs.length<=n) (h :∀k ws,f k=some ws->∃l,valV kvs (.inr k)=some (.ref l)/\H l=some (.lst (ws.map V.str))) :
  ∃H',H'=upd (upd H l (.lst (ws.map V.str))) p (.dK (putK kvs (.inr k) (.ref l)))/\WordsAt H' p (n + 1) (λ j=>if j=k then some ws else f j)/\KeptL [p] H H':=by
 have s:p≠l:=z08 e hl;refine ⟨_,rfl,⟨_,z01,D0 (z88 _ _ _) (J4 hn),λ j g c=>?_⟩,λ b o i d=>?_⟩
 ·by_cases z:j=k
  ·subst z;rw [if_pos rfl] at c;cases c;refine ⟨l,by rw [z48,if_pos rfl],?_⟩;rw [upd_ne s.symm];exact z01
  ·rw [if_neg z] at c;obtain ⟨m,t,a⟩:=h j g c;refine ⟨m,by rw [z48,if_neg (λ y=>z (m8 y))];exact t,?_⟩;have q:m≠p:=λ y=>by rw [y,e] at a;cases a
   rw [upd_ne q,upd_ne (z08 a hl)];exact a
 ·have r:b≠p:=λ z=>i (by rw [z];exact List.mem_singleton.mpr rfl);rw [upd_ne r,upd_ne (z08 d hl)];exact d
theorem words3 {H:Hp} {p l1 l2 l3:Addr} {k1 k2 k3:Str} {w1 w2 w3:List Str} (hp:H p=none) (h1:upd H p (.dK []) l1=none) (h2:upd (upd H p (.dK [])) l1 (.lst (w1.map V.str)) l2=none)
  (h3:upd (upd (upd H p (.dK [])) l1 (.lst (w1.map V.str))) l2 (.lst (w2.map V.str)) l3=none) (n12:k1≠k2) (n13:k1≠k3) (n23:k2≠k3) :
  upd (upd (upd (upd H p (.dK [])) l1 (.lst (w1.map V.str))) l2 (.lst (w2.map V.str))) l3 (.lst (w3.map V.str)) p=some (.dK [])/\
  ∃H',H'=upd (upd (upd (upd (upd H p (.dK [])) l1 (.lst (w1.map V.str))) l2 (.lst (w2.map V.str))) l3 (.lst (w3.map V.str))) p (.dK [(.inr k1,.ref l1),(.inr k2,.ref l2),(.inr k3,.ref l3)])/\Same H H'/\
   H' p=some (.dK [(.inr k1,.ref l1),(.inr k2,.ref l2),(.inr k3,.ref l3)])/\∀k ws,(if k=k1 then some w1 else if k=k2 then some w2 else if k=k3 then some w3 else none)=some ws->∃l,valV [((.inr k1:Key),V.ref l1),(.inr k2,.ref l2),(.inr k3,.ref l3)] (.inr k)=some (.ref l)/\H' l=some (.lst (ws.map V.str)):=by
 have c:p≠l1:=z08 z01 h1;have d:p≠l2:=z08 (by rw [upd_ne c];exact z01) h2;have f:p≠l3:=z08 (by rw [upd_ne d,upd_ne c];exact z01) h3;have g:l1≠l2:=z08 z01 h2;have j:l1≠l3:=z08 (by rw [upd_ne g];exact z01) h3;have i:l2≠l3:=z08 z01 h3;refine ⟨by rw [upd_ne f,upd_ne d,upd_ne c];exact z01,_,rfl,λ b o e=>?_,z01,λ k ws e=>?_⟩
 ·rw [upd_ne (z08 e hp)];exact ((((Same.upd hp).trans (Same.upd h1)).trans (Same.upd h2)).trans (Same.upd h3)) b o e
 ·have ne :∀{a b:Str},a≠b->(Sum.inr a:Key)≠Sum.inr b:=λ h e=>h (m8 e);by_cases z1:k=k1
  ·rw [if_pos z1] at e;cases e;exact ⟨l1,by rw [z1];exact z0p rfl,by rw [upd_ne c.symm,upd_ne j,upd_ne g];exact z01⟩
  ·rw [if_neg z1] at e;by_cases z2:k=k2
   ·rw [if_pos z2] at e;cases e;exact ⟨l2,by rw [z2,z0o (ne n12)];exact z0p rfl,by rw [upd_ne d.symm,upd_ne i];exact z01⟩
   ·rw [if_neg z2] at e;by_cases z3:k=k3
    ·rw [if_pos z3] at e;cases e;exact ⟨l3,by rw [z3,z0o (ne n13),z0o (ne n23)];exact z0p rfl,by rw [upd_ne f.symm];exact z01⟩
    ·rw [if_neg z3] at e;cases e
def WorthIn (H:Hp) (d:Dt) (x:V):Prop:=∀a b:Int,d=.tup [.int a,.int b]->∃t,x=.ref t/\H t=some (.tup [.int a,.int b])
theorem e9:(10:Int) ^ (9:Int).toNat=1000000000:=by decide
theorem p9:CPow 10 9:=⟨by decide,by decide,by decide⟩
end
section
inductive Sv
 | num (i:Int)
 | row (ns:List Int)
def rowK (k:Str):Prop:=k = "queue"\/k = "set"
instance (k:Str):Decidable (rowK k):=by unfold rowK;infer_instance
noncomputable def opOf (k v:Str):Nat:=if k = "queue" then (if v = "put" then 0 else 1) else if k = "set" then (if v = "put" then 2 else if v = "cut" then 3 else 4) else if v = "read" then 5 else if v = "add" then 6 else if v = "write" then 7 else 8
noncomputable def dI:Dt->Int
 | .int i=>i
 | _=>0
noncomputable def srtI (ns:List Int):List Int:=ns.mergeSort λ a b=>decide (a<=b)
noncomputable def dzo:Nat->Dt->Sv->Sv×V
 | 0,d,.row ns=>(.row (ns++[dI d]),.str "ok")
 | 1,_,.row []=>(.row [],.str "none")
 | 1,_,.row (m :: r)=>(.row r,.int m)
 | 2,d,.row ns=>if dI d∈ns then (.row ns,.int 0) else (.row (srtI (ns++[dI d])),.int 1)
 | 3,d,.row ns=>(.row (ns.filter λ j=>!decide (j=dI d)),.int (if dI d∈ns then 1 else 0))
 | 4,d,.row ns=>(.row ns,.int (if dI d∈ns then 1 else 0))
 | 5,_,.num i=>(.num i,.int i)
 | 6,d,.num i=>(.num (i + dI d),.int i)
 | 7,d,.num _=>(.num (dI d),.str "ok")
 | 8,.tup [.int a,.int b],.num i=>if i=a then (.num b,.int 1) else (.num i,.int 0)
 | _,_,s=>(s,.non)
noncomputable def dz (k v:Str) (d:Dt) (s:Sv):Sv×V:=dzo (opOf k v) d s
theorem dz_at {k v:Str} {d:Dt} {s:Sv} {n:Nat} (h:opOf k v=n):dz k v d s=dzo n d s:=by unfold dz;rw [h]
theorem dz_quP {i:Int} {ns:List Int}:dz "queue" "put" (.int i) (.row ns)=(.row (ns++[i]),.str "ok"):=dz_at (n:=0) (by decide +kernel)
theorem zhs {d:Dt}:dz "queue" "take" d (.row [])=(.row [],.str "none"):=dz_at (n:=1) (by decide +kernel)
theorem dz_quT {d:Dt} {m:Int} {r:List Int}:dz "queue" "take" d (.row (m :: r))=(.row r,.int m):=dz_at (n:=1) (by decide +kernel)
theorem zir {i:Int} {ns:List Int}:dz "set" "put" (.int i) (.row ns)=if i∈ns then (.row ns,.int 0) else (.row (srtI (ns++[i])),.int 1):=dz_at (n:=2) (by decide +kernel)
theorem zie {i:Int} {ns:List Int}:dz "set" "cut" (.int i) (.row ns)=(.row (ns.filter λ j=>!decide (j=i)),.int (if i∈ns then 1 else 0)):=dz_at (n:=3) (by decide +kernel)
theorem zht {i:Int} {ns:List Int}:dz "set" "has" (.int i) (.row ns)=(.row ns,.int (if i∈ns then 1 else 0)):=dz_at (n:=4) (by decide +kernel)
theorem zi5 {d:Dt} {i:Int}:dz "register" "read" d (.num i)=(.num i,.int i):=dz_at (n:=5) (by decide +kernel)
theorem zi8 {d:Dt} {i:Int}:dz "counter" "read" d (.num i)=(.num i,.int i):=dz_at (n:=5) (by decide +kernel)
theorem zhr {d:Dt} {i:Int}:dz "cell" "read" d (.num i)=(.num i,.int i):=dz_at (n:=5) (by decide +kernel)
theorem zil {i j:Int}:dz "counter" "add" (.int j) (.num i)=(.num (i + j),.int i):=dz_at (n:=6) (by decide +kernel)
theorem ziz {i j:Int}:dz "register" "write" (.int j) (.num i)=(.num j,.str "ok"):=dz_at (n:=7) (by decide +kernel)
theorem zhu {i j:Int}:dz "cell" "write" (.int j) (.num i)=(.num j,.str "ok"):=dz_at (n:=7) (by decide +kernel)
theorem zj0 {i a b:Int}:dz "cell" "swap" (.tup [.int a,.int b]) (.num i)=if i=a then (.num b,.int 1) else (.num i,.int 0):=dz_at (n:=8) (by decide +kernel)
theorem zci (ns:List Int):(srtI ns).Perm ns:=List.mergeSort_perm ns _
theorem z7g (ns:List Int):(srtI ns).Pairwise (·<=·):=by have:=j2g (le:=λ a b:Int=>decide (a<=b)) (λ a b c e d=>decide_eq_true (Int.le_trans (of_decide_eq_true e) (of_decide_eq_true d))) (λ a b=>by rcases Int.le_total a b with h|h<;>simp [h]) ns;exact this.imp λ h=>of_decide_eq_true h
theorem zgq {xs ys:List Int} (p:xs.Perm ys) (hx:xs.Pairwise (·<=·)) (hy:ys.Pairwise (·<=·)):xs=ys:=p.eq_of_pairwise (le:=(·<=·)) (λ _ _ _ _ a b=>Int.le_antisymm a b) hx hy
theorem zjy {ns:List Int} (h:ns.Pairwise (· < ·)):ns.Nodup:=h.imp λ z e=>by omega
noncomputable def SvOk (n:Nat) (k:Str):Sv->Prop
 | .row ns=>rowK k/\ns.length<=n/\(∀i∈ns,near i)/\(k = "set"->ns.Pairwise (· < ·))
 | .num i=>¬ rowK k/\-(1000000000 * (n:Int))<=i/\i<=1000000000 * (n:Int)
def AnsV (a:V):Prop:=a=.str "ok"\/a=.str "none"\/∃i:Int,a=.int i/\-100000000000<=i/\i<=100000000000
theorem SvOk.le {n m:Nat} {k:Str} :∀{s:Sv},n<=m->SvOk n k s->SvOk m k s
 | .row _,l,h=>⟨h.1,D0 h.2.1 l,h.2.2⟩
 | .num _,l,h=>⟨h.1,by have:=h.2.1;omega,by have:=h.2.2;omega⟩
theorem SvOk.isRow {n:Nat} {k:Str} :∀{s:Sv},SvOk n k s->rowK k->∃ns,s=.row ns/\ns.length<=n/\(∀i∈ns,near i)/\(k = "set"->ns.Pairwise (· < ·))
 | .row ns,h,_=>⟨ns,rfl,h.2⟩
 | .num _,h,hk=>absurd hk h.1
theorem SvOk.isNum {n:Nat} {k:Str} :∀{s:Sv},SvOk n k s->¬ rowK k->∃i,s=.num i/\-(1000000000 * (n:Int))<=i/\i<=1000000000 * (n:Int)
 | .row _,h,hk=>absurd h.1 hk
 | .num i,h,_=>⟨i,rfl,h.2⟩
theorem SvOk.row {n:Nat} {k:Str} {ns:List Int} (h1:rowK k) (h2:ns.length<=n) (h3 :∀i∈ns,near i) (h4:k = "set"->ns.Pairwise (· < ·)):SvOk n k (.row ns):=⟨h1,h2,h3,h4⟩
theorem SvOk.num {n:Nat} {k:Str} {i:Int} (h1:¬ rowK k) (h2:-(1000000000 * (n:Int))<=i) (h3:i<=1000000000 * (n:Int)):SvOk n k (.num i):=⟨h1,h2,h3⟩
theorem z30 {i:Int} (h0:-100000000000<=i) (h1:i<=100000000000):AnsV (.int i):=.inr (.inr ⟨i,rfl,h0,h1⟩)
theorem ans_b {p:Prop} [Decidable p]:AnsV (.int (if p then 1 else 0)):=by
 by_cases h:p
 ·rw [if_pos h];exact z30 (by decide) (by decide)
 ·rw [if_neg h];exact z30 (by decide) (by decide)
theorem dz_ok {n:Nat} {k v:Str} {d:Dt} {s:Sv} (hd:DeedOk k v d) (h:SvOk n k s) (hn:n < 63):SvOk (n + 1) k (dz k v d s).1/\AnsV (dz k v d s).2:=by
 have t:rowK "queue":=.inl rfl;have q:rowK "set":=.inr rfl;have A:("queue" : Str)≠"set":=by decide +kernel
 have u:¬ rowK "register":=by decide +kernel
 have w:¬ rowK "counter":=by decide +kernel
 have p:¬ rowK "cell":=by decide +kernel
 cases hd with
 | quP ni=>
  obtain ⟨g,rfl,f,c,o⟩:=h.isRow t;rw [dz_quP];refine ⟨.row t (by rw [M0];exact J4 f) (λ j l=>?_) λ z=>absurd z A,.inl rfl⟩;rcases List.mem_append.mp l with y|y
  ·exact c j y
  ·rw [List.mem_singleton.mp y];exact ni
 | quT=>
  obtain ⟨g,rfl,f,c,o⟩:=h.isRow t;cases g with
  | nil=>rw [zhs];exact ⟨.row t (U1 _) (λ j l=>by cases l) (λ z=>absurd z A),.inr (.inl rfl)⟩
  | cons m r=>rw [dz_quT];rw [U0] at f;have B:=c m C1;exact ⟨.row t (by omega) (λ j l=>c j (Y0 _ l)) (λ z=>absurd z A),z30 (by have:=B.1;omega) (by have:=B.2;omega)⟩
 | setP ni=>
  rename_i i;obtain ⟨g,rfl,f,c,o⟩:=h.isRow q;rw [zir];by_cases z:i∈g
  ·rw [if_pos z];exact ⟨.row q (L3 f) c o,z30 (by decide) (by decide)⟩
  ·rw [if_neg z];have x:=zci (g++[i]);refine ⟨.row q (by rw [x.length_eq,M0];exact J4 f) (λ j l=>?_) (λ _=>?_),z30 (by decide) (by decide)⟩
   ·rcases List.mem_append.mp (x.mem_iff.mp l) with y|y
    ·exact c j y
    ·rw [List.mem_singleton.mp y];exact ni
   ·have E:(srtI (g++[i])).Nodup:=x.nodup_iff.mpr (by rw [u4];exact ⟨zjy (o rfl),by simp,λ a C b D e=>z (by rw [<-List.mem_singleton.mp D,<-e];exact C)⟩);exact ((z7g (g++[i])).and E).imp λ h=>by have:=h.1;have:=h.2;omega
 | setC ni=>obtain ⟨g,rfl,f,c,o⟩:=h.isRow q;rw [zie];exact ⟨.row q (D0 (A2 _ _) (L3 f)) (λ j l=>c j (List.mem_filter.mp l).1) (λ z=>(o z).filter _),ans_b⟩
 | setH ni=>obtain ⟨g,rfl,f,c,o⟩:=h.isRow q;rw [zht];exact ⟨.row q (L3 f) c o,ans_b⟩
 | regR=>obtain ⟨a,rfl,f,c⟩:=h.isNum u;rw [zi5];exact ⟨.num u (by omega) (by omega),z30 (by omega) (by omega)⟩
 | cntR=>obtain ⟨a,rfl,f,c⟩:=h.isNum w;rw [zi8];exact ⟨.num w (by omega) (by omega),z30 (by omega) (by omega)⟩
 | celR=>obtain ⟨a,rfl,f,c⟩:=h.isNum p;rw [zhr];exact ⟨.num p (by omega) (by omega),z30 (by omega) (by omega)⟩
 | cntA ni=>obtain ⟨a,rfl,f,c⟩:=h.isNum w;rw [zil];have:=ni.1;have:=ni.2;exact ⟨.num w (by omega) (by omega),z30 (by omega) (by omega)⟩
 | regW ni=>obtain ⟨a,rfl,f,c⟩:=h.isNum u;rw [ziz];have:=ni.1;have:=ni.2;exact ⟨.num u (by omega) (by omega),.inl rfl⟩
 | celW ni=>obtain ⟨a,rfl,f,c⟩:=h.isNum p;rw [zhu];have:=ni.1;have:=ni.2;exact ⟨.num p (by omega) (by omega),.inl rfl⟩
 | celS ni nj=>
  rename_i i j;obtain ⟨a,rfl,f,c⟩:=h.isNum p;rw [zj0];have:=nj.1;have:=nj.2;by_cases z:a=i
  ·rw [if_pos z];exact ⟨.num p (by omega) (by omega),z30 (by decide) (by decide)⟩
  ·rw [if_neg z];exact ⟨.num p (by omega) (by omega),z30 (by decide) (by decide)⟩
noncomputable def StZ (K:d0) (H:Hp):Sv->V->Prop
 | .row ns,v=>∃p,v=.ref p/\SqT K H p (ns.map V.int)
 | .num i,v=>v=.int i
theorem StZ.tups {K:d0} {H H':Hp} (t:Tups K H H') :∀{s:Sv} {v:V},StZ K H s v->StZ K H' s v
 | .row _,_,h=>h.elim λ p z=>⟨p,z.1,t _ _ z.2⟩
 | .num _,_,h=>h
noncomputable def zeroK (k:Str):Sv:=if rowK k then .row [] else .num 0
theorem zje (k:Str):SvOk 0 k (zeroK k):=by
 unfold zeroK;by_cases h:rowK k
 ·rw [if_pos h];exact .row h (B0 _) (λ i a=>by cases a) (λ _=>.nil)
 ·rw [if_neg h];exact .num h (by omega) (by omega)
end
section
variable {P:Program} {w:W0} {mg:Str->Option Value} {base:Heap}
def SuAt (K:d0) (H:Hp) (n:Nat) (k:Str) (v:V):Prop:=(rowK k/\∃(p:Addr) (ns:List Int),v=.ref p/\SqT K H p (ns.map V.int)/\ns.length<=n)\/(¬ rowK k/\∃i:Int,v=.int i)
theorem SuAt.isRow {K:d0} {H:Hp} {n:Nat} {k:Str} {v:V} (h:SuAt K H n k v) (hk:rowK k) :∃(p:Addr) (ns:List Int),v=.ref p/\SqT K H p (ns.map V.int)/\ns.length<=n:=h.elim (λ z=>z.2) λ z=>absurd hk z.1
theorem SuAt.isNum {K:d0} {H:Hp} {n:Nat} {k:Str} {v:V} (h:SuAt K H n k v) (hk:¬ rowK k) :∃i:Int,v=.int i:=h.elim (λ z=>absurd z.1 hk) λ z=>z.2
theorem SuAt.mk {K:d0} {H:Hp} {n:Nat} {k:Str} {p:Addr} {ns:List Int} (hk:rowK k) (s:SqT K H p (ns.map V.int)) (l:ns.length<=n):SuAt K H n k (.ref p):=.inl ⟨hk,p,ns,rfl,s,l⟩
theorem SuAt.num {K:d0} {H:Hp} {n:Nat} {k:Str} {i:Int} (hk:¬ rowK k):SuAt K H n k (.int i):=.inr ⟨hk,i,rfl⟩
theorem SuAt.tups {K:d0} {H H':Hp} {n:Nat} {k:Str} {v:V} (t:Tups K H H') (h:SuAt K H n k v):SuAt K H' n k v:=h.imp (λ z=>⟨z.1,z.2.elim λ p y=>y.elim λ a y=>⟨p,a,y.1,t _ _ y.2.1,y.2.2⟩⟩) id
theorem SuAt.le {K:d0} {H:Hp} {n m:Nat} {k:Str} {v:V} (l:n<=m) (h:SuAt K H n k v):SuAt K H m k v:=h.imp (λ z=>⟨z.1,z.2.elim λ p y=>y.elim λ a y=>⟨p,a,y.1,y.2.1,D0 y.2.2 l⟩⟩) id
structure Tt (K:d0) (H H':Hp):Prop where
 t:Tups K H H'
 l :∀a xs,H a=some (.tup xs)->H' a=some (.tup xs)
theorem Tt.of {K:d0} {H H':Hp} (s:Same H H'):Tt K H H':=⟨.of s,λ _ _ h=>s _ _ h⟩
theorem Tt.trans {K:d0} {H H1 H2:Hp} (a:Tt K H H1) (b:Tt K H1 H2):Tt K H H2:=⟨a.t.trans b.t,λ _ _ h=>b.l _ _ (a.l _ _ h)⟩
def MutAt (H:Hp) (l:Addr):Prop:=(∃zs,H l=some (.lst zs))\/∃kvs:List (Key×V),H l=some (.dK kvs)
theorem KeptL.tt {K:d0} {L:List Addr} {H H':Hp} (k:KeptL L H H') (m :∀l∈L,MutAt H l):Tt K H H':=by
 refine ⟨λ a b h=>?_,λ a b h=>k _ _ (λ z=>?_) h⟩
 ·rcases h with (h|⟨ob,h⟩)|h
  ·exact .inl (.inl (k _ _ (λ z=>by rcases m a z with ⟨_,e⟩|⟨_,e⟩<;>(rw [h] at e;cases e)) h))
  ·exact .inl (.inr ⟨ob,k _ _ (λ z=>by rcases m a z with ⟨_,e⟩|⟨_,e⟩<;>(rw [h] at e;cases e)) h⟩)
  ·exact .inr h
 ·rcases m a z with ⟨_,e⟩|⟨_,e⟩<;>(rw [h] at e;cases e)
def ThAt (H:Hp) (p:Addr) (ts:List (Str×Str)):Prop:=∃ys,H p=some (.tup ys)/\All2 (λ (t:Str×Str) y=>∃b,y=.ref b/\H b=some (.tup [.str t.1,.str t.2])) ts ys
structure ThOk (ts:List (Str×Str)):Prop where
 n0:0 < ts.length
 n6:ts.length<=6
 nd:(ts.map (·.1)).Nodup
 ks :∀t∈ts,t.2∈kinds5
theorem ThAt.tt {K:d0} {H H':Hp} {p:Addr} {ts:List (Str×Str)} (t:Tt K H H') (h:ThAt H p ts):ThAt H' p ts:=h.elim λ a z=>⟨a,t.l _ _ z.1,z02 (λ _ _ y=>y.elim λ b x=>⟨b,x.1,t.l _ _ x.2⟩) z.2⟩
def kindR (K:d0) (x y:V) (H:Hp):Prop:=∃(n k:Str) (b:Addr),x=.str n/\y=.ref b/\k∈kinds5/\H b=some (.tup [.str n,.str k])
theorem z7p {K:d0} {H:Hp} :∀{ks:List Str} {ys:List V},All2 (λ x y=>kindR K x y H) (ks.map V.str) ys->∃ts:List (Str×Str),ts.map (·.1)=ks/\(∀t∈ts,t.2∈kinds5)/\All2 (λ (t:Str×Str) y=>∃b,y=.ref b/\H b=some (.tup [.str t.1,.str t.2])) ts ys
 | [],_,h=>by cases h;exact ⟨[],rfl,λ _ z=>absurd z C0,.nil⟩
 | n :: ks,_,h=>by
  cases h with
  | cons a r=>
   obtain ⟨ts,e,j,i⟩:=z7p r;obtain ⟨m,k,b,l,d,c,f⟩:=a;cases l;refine ⟨(n,k) :: ts,by rw [J1,e],λ t g=>?_,.cons ⟨b,d,f⟩ i⟩;rcases List.mem_cons.mp g with z|z
   ·rw [z];exact c
   ·exact j t z
theorem WorthIn.tt {K:d0} {H H':Hp} {d:Dt} {x:V} (t:Tt K H H') (h:WorthIn H d x):WorthIn H' d x:=λ a b e=>(h a b e).elim λ p z=>⟨p,z.1,t.l _ _ z.2⟩
theorem do_can {H:Hp} {k v:Str} {st x:V} {d:Dt} {n:Nat} {sv:Sv} {Q:VK} {E:XK} (so:SvOk n k sv) (sz:StZ (kx w) H sv st) (hn:n < 63) (hd:DeedOk k v d) (hx:IsDt (kx w) H d x) (wi:WorthIn H d x)
  (q :∀p st' H',Same H H'->H' p=some (.tup [st',(dz k v d sv).2])->StZ (kx w) H' (dz k v d sv).1 st'->Q (.ref p) H'):sp_do (kx w) [.str k,st,.str v,x] H Q E:=by
 have A :∀i:Int,Flat H (.int i):=λ i J e=>by cases e
 have F:Flat H .non:=λ J e=>by cases e
 have s :∀i:Int,near i->z12 (.int i) 1000000000=true:=λ i h=>by unfold z12;dsimp only;rw [decide_eq_true h.1,decide_eq_true h.2];rfl
 have I:rowK "queue":=.inl rfl;have G:rowK "set":=.inr rfl;cases hd with
 | quP ni=>rename_i i;obtain ⟨o,rfl,D,_,_⟩:=so.isRow I;obtain ⟨t,rfl,l⟩:=sz;cases (show x=V.int i from hx);rw [dz_quP] at q;refine ⟨_,_,_,_,_,_,_,rfl,rfl,A i,(deedB1 (by decide +kernel)).trans (s i ni),by decide +kernel,.inr (.inr (.inr (.inl ⟨rfl,rfl⟩))),λ H' b=>⟨t,_,_,rfl,b.seqT l,by rw [K0];omega,λ p B C c f u=>q p _ _ (b.trans c) f ⟨B,rfl,?_⟩⟩⟩;rw [show (o++[i]).map V.int=o.map V.int++[V.int i] by rw [B2];rfl];exact u
 | quT=>
  obtain ⟨o,rfl,D,_,_⟩:=so.isRow I;obtain ⟨t,rfl,l⟩:=sz;cases (show x=V.non from hx);refine ⟨_,_,_,_,_,_,_,rfl,rfl,F,(deedB0 (by decide +kernel)).trans rfl,by decide +kernel,.inr (.inr (.inr (.inr (.inl ⟨rfl,rfl⟩)))),λ H' b=>⟨t,o.map V.int,_,rfl,b.seqT l,λ e p C c f=>?_,λ m r e p B C c f u=>?_⟩⟩
  ·cases o with
   | nil=>rw [zhs] at q;exact q p _ _ (b.trans c) f ⟨t,rfl,(b.trans c).seqT l⟩
   | cons m r=>cases e
  ·cases o with
   | nil=>cases e
   | cons m' r'=>rw [dz_quT] at q;rw [J1] at e;injection e with e1 e3;subst e1 e3;exact q p _ _ (b.trans c) f ⟨B,rfl,u⟩
 | setP ni=>
  rename_i i;obtain ⟨o,rfl,D,_,M⟩:=so.isRow G;obtain ⟨t,rfl,l⟩:=sz;cases (show x=V.int i from hx);rw [zir] at q;refine ⟨_,_,_,_,_,_,_,rfl,rfl,A i,(deedB1 (by decide +kernel)).trans (s i ni),by decide +kernel,.inr (.inr (.inr (.inr (.inr (.inl ⟨rfl,rfl⟩))))),λ H' b=>⟨t,o,_,rfl,b.seqT l,by omega,λ z p C c f=>?_,λ z p B R C c f u O N=>?_⟩⟩
  ·rw [if_pos z] at q;exact q p _ _ (b.trans c) f ⟨t,rfl,(b.trans c).seqT l⟩
  ·rw [if_neg z] at q;rw [zgq (O.trans (zci _).symm) N (z7g _)] at u;exact q p _ _ (b.trans c) f ⟨B,rfl,u⟩
 | setC ni=>
  rename_i i;obtain ⟨o,rfl,D,_,M⟩:=so.isRow G;obtain ⟨t,rfl,l⟩:=sz;cases (show x=V.int i from hx);rw [zie] at q;refine ⟨_,_,_,_,_,_,_,rfl,rfl,A i,(deedB1 (by decide +kernel)).trans (s i ni),by decide +kernel,.inr (.inr (.inr (.inr (.inr (.inr (.inl ⟨rfl,rfl⟩)))))),λ H' b=>⟨t,o,_,rfl,b.seqT l,by omega,λ z p C c f=>?_,λ z p B C c f u=>?_⟩⟩
  ·rw [if_neg z,List.filter_eq_self.mpr (λ j P=>by simp;exact λ e=>z (e ▸ P))] at q;exact q p _ _ (b.trans c) f ⟨t,rfl,(b.trans c).seqT l⟩
  ·rw [if_pos z] at q;exact q p _ _ (b.trans c) f ⟨B,rfl,u⟩
 | setH ni=>rename_i i;obtain ⟨o,rfl,D,_,M⟩:=so.isRow G;obtain ⟨t,rfl,l⟩:=sz;cases (show x=V.int i from hx);rw [zht] at q;exact ⟨_,_,_,_,_,_,_,rfl,rfl,A i,(deedB1 (by decide +kernel)).trans (s i ni),by decide +kernel,.inr (.inr (.inr (.inr (.inr (.inr (.inr (.inl ⟨rfl,rfl⟩))))))),λ H' b=>⟨t,o,_,rfl,b.seqT l,λ p C c f=>q p _ _ (b.trans c) f ⟨t,rfl,(b.trans c).seqT l⟩⟩⟩
 | regR=>obtain ⟨a,rfl,_⟩:=so.isNum (by decide +kernel);cases (show st=V.int a from sz);cases (show x=V.non from hx);rw [zi5] at q;exact ⟨_,_,_,_,_,_,_,rfl,rfl,F,(deedB0 (by decide +kernel)).trans rfl,by decide +kernel,.inl ⟨rfl,rfl⟩,λ H' b=>⟨_,_,rfl,λ p g=>q p _ _ (b.trans (Same.upd g)) z01 rfl⟩⟩
 | cntR=>obtain ⟨a,rfl,_⟩:=so.isNum (by decide +kernel);cases (show st=V.int a from sz);cases (show x=V.non from hx);rw [zi8] at q;exact ⟨_,_,_,_,_,_,_,rfl,rfl,F,(deedB0 (by decide +kernel)).trans rfl,by decide +kernel,.inl ⟨rfl,rfl⟩,λ H' b=>⟨_,_,rfl,λ p g=>q p _ _ (b.trans (Same.upd g)) z01 rfl⟩⟩
 | celR=>obtain ⟨a,rfl,_⟩:=so.isNum (by decide +kernel);cases (show st=V.int a from sz);cases (show x=V.non from hx);rw [zhr] at q;exact ⟨_,_,_,_,_,_,_,rfl,rfl,F,(deedB0 (by decide +kernel)).trans rfl,by decide +kernel,.inl ⟨rfl,rfl⟩,λ H' b=>⟨_,_,rfl,λ p g=>q p _ _ (b.trans (Same.upd g)) z01 rfl⟩⟩
 | cntA ni=>rename_i i;obtain ⟨a,rfl,_⟩:=so.isNum (by decide +kernel);cases (show st=V.int a from sz);cases (show x=V.int i from hx);rw [zil] at q;exact ⟨_,_,_,_,_,_,_,rfl,rfl,A i,(deedB1 (by decide +kernel)).trans (s i ni),by decide +kernel,.inr (.inr (.inl ⟨rfl,rfl⟩)),λ H' b=>⟨_,_,rfl,λ p g=>q p _ _ (b.trans (Same.upd g)) z01 rfl⟩⟩
 | regW ni=>rename_i i;obtain ⟨a,rfl,_⟩:=so.isNum (by decide +kernel);cases (show st=V.int a from sz);cases (show x=V.int i from hx);rw [ziz] at q;exact ⟨_,_,_,_,_,_,_,rfl,rfl,A i,(deedB1 (by decide +kernel)).trans (s i ni),by decide +kernel,.inr (.inl ⟨rfl,rfl⟩),λ H' b=>⟨_,_,rfl,λ p g=>q p _ _ (b.trans (Same.upd g)) z01 rfl⟩⟩
 | celW ni=>rename_i i;obtain ⟨a,rfl,_⟩:=so.isNum (by decide +kernel);cases (show st=V.int a from sz);cases (show x=V.int i from hx);rw [zhu] at q;exact ⟨_,_,_,_,_,_,_,rfl,rfl,A i,(deedB1 (by decide +kernel)).trans (s i ni),by decide +kernel,.inr (.inl ⟨rfl,rfl⟩),λ H' b=>⟨_,_,rfl,λ p g=>q p _ _ (b.trans (Same.upd g)) z01 rfl⟩⟩
 | celS ni nj=>
  rename_i i j;obtain ⟨a,rfl,_⟩:=so.isNum (by decide +kernel);cases (show st=V.int a from sz);obtain ⟨t,rfl,e⟩:=wi i j rfl;have K:tupOf H (.ref t)=some [.int i,.int j]:=by unfold tupOf;dsimp only;rw [e]
  rw [zj0] at q;refine ⟨_,_,_,_,_,_,"tuple",rfl,.inr (.inl ⟨⟨_,e⟩,rfl⟩),λ J z=>?_,?_,by decide +kernel,.inr (.inr (.inr (.inr (.inr (.inr (.inr (.inr ⟨rfl,rfl⟩))))))),λ H' b=>⟨a,i,j,t,rfl,SqT.of (b _ _ e),λ p g=>?_⟩⟩
  ·rw [K] at z;cases z;exact ⟨(show (2:Nat)<=1000 by decide),λ y L=>⟨"int",by simp only [P1,C0,or_false] at L;rcases L with rfl|rfl<;>rfl⟩⟩
  ·rw [deedB2 (by decide +kernel) K];show (true && (z12 (.int i) 1000000000 && (z12 (.int j) 1000000000 && true)))=true;rw [s i ni,s j nj];rfl
  ·by_cases z:a=i
   ·rw [if_pos z] at q⊢;exact q p _ _ (b.trans (Same.upd g)) z01 rfl
   ·rw [if_neg z] at q⊢;exact q p _ _ (b.trans (Same.upd g)) z01 rfl
def IsA (a:V):Prop:=(∃i,a=.int i)\/∃z,a=.str z
theorem AnsV.isA {a:V} (h:AnsV a):IsA a:=by
 rcases h with rfl|rfl|⟨i,rfl,_⟩
 ·exact .inr ⟨_,rfl⟩
 ·exact .inr ⟨_,rfl⟩
 ·exact .inl ⟨_,rfl⟩
theorem IsA.scal {a b:V} (ha:IsA a\/a=.non) (hb:IsA b\/b=.non):L2.scal a b=true:=by rcases ha with (⟨i,rfl⟩|⟨i,rfl⟩)|rfl<;>rcases hb with (⟨j,rfl⟩|⟨j,rfl⟩)|rfl<;>rfl
noncomputable def EvGd (K:d0) (H:Hp) (ts:List (Str×Str)):Ev->Prop
 | .beg _ n v x=>∃(nm k vb:Str) (dt:Dt),n=.str nm/\v=.str vb/\(nm,k)∈ts/\DeedOk k vb dt/\IsDt K H dt x/\WorthIn H dt x
 | .fin _ a=>IsA a
theorem EvGd.tt {K:d0} {H H':Hp} {ts:List (Str×Str)} (t:Tt K H H') :∀{e:Ev},EvGd K H ts e->EvGd K H' ts e
 | .beg _ _ _ _,⟨nm,k,vb,dt,e1,e2,hm,dk,ix,wi⟩=>⟨nm,k,vb,dt,e1,e2,hm,dk,IsDt.mono' t.t dt _ ix,wi.tt t⟩
 | .fin _ _,h=>h
structure DD where
 nm:Str
 k:Str
 vb:Str
 dt:Dt
def RcGd (K:d0) (H:Hp) (ts:List (Str×Str)) (r:Rc) (p:DD):Prop:=r.n=.str p.nm/\r.v=.str p.vb/\(p.nm,p.k)∈ts/\DeedOk p.k p.vb p.dt/\IsDt K H p.dt r.x/\WorthIn H p.dt r.x/\((r.e=none/\r.a=.non)\/(r.e.isSome=true/\IsA r.a))
theorem RcGd.tt {K:d0} {H H':Hp} {ts:List (Str×Str)} {r:Rc} {p:DD} (t:Tt K H H') (h:RcGd K H ts r p):RcGd K H' ts r p:=⟨h.1,h.2.1,h.2.2.1,h.2.2.2.1,IsDt.mono' t.t _ _ h.2.2.2.2.1,h.2.2.2.2.2.1.tt t,h.2.2.2.2.2.2⟩
theorem zek {α β:Type} {R:α->β->Prop} {f:α->α} (hf :∀x y,R x y->R (f x) y) :∀{xs:List α} {ys:List β} (j:Nat),All2 R xs ys->All2 R (xs.modify j f) ys
 | _,_,j,.nil=>by cases j<;>exact .nil
 | _,_,0,.cons a r=>.cons (hf _ _ a) r
 | _,_,j + 1,.cons a r=>.cons a (zek hf j r)
theorem rc_gd {K:d0} {H:Hp} {ts:List (Str×Str)} :∀{es:List Ev} {i:Nat} {rs:List Rc} {ps:List DD},(∀e∈es,EvGd K H ts e)->All2 (RcGd K H ts) rs ps->∃ps',All2 (RcGd K H ts) (dAll i rs es) ps'
 | [],_,_,ps,_,h=>⟨ps,h⟩
 | e :: es,i,rs,ps,g,h=>by
  have b:=g e C1;have c :∀x∈es,EvGd K H ts x:=λ x f=>g x (Y0 _ f);cases e with
  | beg hd n v x=>obtain ⟨p,k,m,d,s,r,l,t,q,o⟩:=b;exact rc_gd (es:=es) c (z1v (x:=(⟨hd,n,v,x,.non,i,none⟩:Rc)) (y:=(⟨p,k,m,d⟩:DD)) h ⟨s,r,l,t,q,o,.inl ⟨rfl,rfl⟩⟩)
  | fin hd a=>
   have b:IsA a:=b;show∃ps',All2 _ (dAll (i + 1) (dstep i rs (.fin hd a)) es) ps';unfold dstep;dsimp only;cases lastI hd (rs.map Rc.h) with
   | none=>exact rc_gd (es:=es) c h
   | some j=>exact rc_gd (es:=es) c (zek (λ x y z=>⟨z.1,z.2.1,z.2.2.1,z.2.2.2.1,z.2.2.2.2.1,z.2.2.2.2.2.1,.inr ⟨rfl,b⟩⟩) j h)
end
section
noncomputable def nsV (ns:List Nat):List V:=ns.map λ (n:Nat)=>V.int (n:Int)
theorem z9c (ns:List Nat):(nsV ns).length=ns.length:=K0 ..
theorem inV_ns (i:Nat) (ns:List Nat):inV (.int (i:Nat)) (nsV ns)=decide (i∈ns):=by
 unfold inV nsV;rw [j32,Bool.eq_iff_iff,m6,decide_eq_true_iff];constructor
 ·rintro ⟨n,hn,e⟩;have e:((n:Int))=i:=of_decide_eq_true e;rw [show i=n by omega];exact hn
 ·exact λ h=>⟨i,h,decide_eq_true rfl⟩
theorem zc1 (ns:List Nat):(nsV ns).all flatV=true:=by unfold nsV;rw [List.all_map];exact List.all_eq_true.mpr λ _ _=>rfl
theorem zkf {ns:List Nat} {us:List V} (h:All2 (λ (a:Nat) y=>y=V.int (a:Nat)) ns us):us=nsV ns:=by
 induction h with
 | nil=>rfl
 | cons a r ih=>subst a;rw [ih];rfl
noncomputable def srtN (ns:List Nat):List Nat:=ns.mergeSort λ a b=>decide (a<=b)
theorem zbz (ns:List Nat):(srtN ns).Perm ns:=List.mergeSort_perm ns _
theorem zd3 (ns:List Nat):(srtN ns).Pairwise (·<=·):=by have:=j2g (le:=λ a b:Nat=>decide (a<=b)) (λ a b c e d=>decide_eq_true (D0 (of_decide_eq_true e) (of_decide_eq_true d))) (λ a b=>by rcases Nat.le_total a b with h|h<;>simp [h]) ns;exact this.imp λ h=>of_decide_eq_true h
theorem zlc {ns':List Int} {xs:List Nat} (p:ns'.Perm (xs.map λ (n:Nat)=>(n:Int))) (s:ns'.Pairwise (·<=·)):ns'.map V.int=nsV (srtN xs):=by
 have e:ns'=(srtN xs).map λ (n:Nat)=>(n:Int):=by refine (p.trans ((zbz xs).symm.map _)).eq_of_pairwise (le:=(·<=·)) (λ _ _ _ _ d c=>Int.le_antisymm d c) s ?_;exact List.Pairwise.map _ (λ a b h=>Int.ofNat_le.mpr h) (zd3 xs)
 rw [e];unfold nsV;rw [R3];rfl
theorem idx_eq :∀{l:List Str} {x:Str} {i:Nat},l.Nodup->l[i]? = some x->l.idxOf x=i
 | [],_,_,_,h=>by cases h
 | y :: l,x,i,nd,h=>by
  rw [List.nodup_cons] at nd;rw [List.idxOf_cons];cases i with
  | zero=>rw [F2] at h;cases h;rw [beq_self_eq_true];rfl
  | succ i=>rw [X1] at h;have:¬ y=x:=λ z=>nd.1 (z ▸ S0 h);rw [beq_eq_false_iff_ne.mpr this];show l.idxOf x + 1=_;rw [idx_eq nd.2 h]
noncomputable abbrev Pl:=List Nat×List Sv
noncomputable abbrev Stp:=Nat×V×Pl
noncomputable def ixT (ts:List (Str×Str)) (nm:Str):Nat:=(ts.map (·.1)).idxOf nm
noncomputable def stp (ts:List (Str×Str)) (r:Rc) (p:DD) (n:Nat) (pl:Pl):Option Stp:=match pl.2[ixT ts p.nm]? with
 | some s=>if r.e.isNone || decide ((dz p.k p.vb p.dt s).2=r.a) then some (n,(dz p.k p.vb p.dt s).2,(srtN (pl.1++[n]),pl.2.set (ixT ts p.nm) (dz p.k p.vb p.dt s).1)) else none
 | none=>none
noncomputable def nexAt (c:Nat->Bool) (ts:List (Str×Str)) (rs:List Rc) (ps:List DD) (pl:Pl) (n:Nat):Option Stp:=if c n=true then (match rs[n]?,ps[n]? with|some r,some p=>stp ts r p n pl|_,_=>none) else none
noncomputable def nexT (c:Nat->Bool) (ts:List (Str×Str)) (rs:List Rc) (ps:List DD) (pl:Pl) (i:Nat):List Stp:=(K1 i).filterMap (nexAt c ts rs ps pl)
theorem z5t {c:Nat->Bool} {ts:List (Str×Str)} {rs:List Rc} {ps:List DD} {pl:Pl} {i:Nat}:nexT c ts rs ps pl (i + 1)=nexT c ts rs ps pl i++(nexAt c ts rs ps pl i).toList:=by unfold nexT;rw [y8,List.filterMap_append];congr 1
theorem zec {c:Nat->Bool} {ts:List (Str×Str)} {rs:List Rc} {ps:List DD} {pl:Pl} {i:Nat}:(nexT c ts rs ps pl i).length<=i:=by unfold nexT;exact D0 (E7 _ _) (by rw [W1];exact B0 _)
noncomputable def cO (m:Nat) (rs:List Rc) (ns:List Nat) (n:Nat):Bool:=decide (n∉ns) && decide (∀a∈K1 rs.length,z1t m rs a n=true->a∈ns)
noncomputable def cP (m:Nat) (rs:List Rc) (ns:List Nat) (n:Nat):Bool:=cO m rs ns n && decide (∀b∈K1 rs.length,z1t m rs n b=true->b∉ns)
theorem z5d {m:Nat} {rs:List Rc} {a b:Nat} (h:z1t m rs a b=true):a < rs.length/\b < rs.length:=by
 unfold z1t at h;cases ea:rs[a]? with
 | none=>rw [ea] at h;cases h
 | some r=>
  cases eb:rs[b]? with
  | none=>rw [ea,eb] at h;cases h
  | some q=>exact ⟨(List.getElem?_eq_some_iff.mp ea).1,(List.getElem?_eq_some_iff.mp eb).1⟩
structure PlOk (ts:List (Str×Str)) (N n:Nat) (pl:Pl):Prop where
 nd:pl.1.Nodup
 lt :∀x∈pl.1,x < N
 so:All2 (λ (t:Str×Str) s=>SvOk n t.2 s) ts pl.2
 nb:n<=4\/n<=pl.1.length
theorem z82 :∀(n:Nat) (ns:List Nat),ns.Nodup->(∀x∈ns,x < n)->ns.length<=n
 | 0,ns,_,h=>by
  cases ns with
  | nil=>exact B0 _
  | cons x r=>exact absurd (h x C1) (G6 _)
 | n + 1,ns,nd,h=>by
  have:=z82 n (ns.erase n) (nd.erase n) λ x a=>by have a:=(List.Nodup.mem_erase_iff nd).mp a;have:=h x a.2;omega
  by_cases m:n∈ns
  ·rw [List.length_erase_of_mem m] at this;omega
  ·rw [List.erase_of_not_mem m] at this;omega
theorem PlOk.n63 {ts:List (Str×Str)} {N n j:Nat} {pl:Pl} (h:PlOk ts N n pl) (N63:N<=63) (hj:j < N) (nj:j∉pl.1):n < 63/\pl.1.length < 63:=by
 have:=z82 N (j :: pl.1) (List.nodup_cons.mpr ⟨nj,h.nd⟩) λ x a=>by
  rcases List.mem_cons.mp a with z|z
  ·omega
  ·exact h.lt x z
 rw [U0] at this;rcases h.nb with z|z<;>omega
end
section
variable {P:Program} {w:W0} {mg:Str->Option Value} {base:Heap}
theorem lk_eq {f:Str} {v:V} {fs:List (Str×V)}:(putF f v fs).lookup f=some v:=by rw [z3g,if_pos rfl]
theorem lk_ne {f g:Str} {v:V} {fs:List (Str×V)} (h:g≠f):(putF f v fs).lookup g=fs.lookup g:=by rw [z3g,if_neg h]
theorem lk_n {f g:Str} {v:V} {fs:List (Str×V)} {o:Option V} (e:fs.lookup g=o) (h:g≠f:=by decide +kernel):(putF f v fs).lookup g=o:=(lk_ne h).trans e
theorem zcm {x dx:Addr} {o1 o2:HO} {H H':Hp} (hx:H x=none) (hd:H dx=none) (k:Kept x (upd (upd H dx o1) x o2) H'):Same H H':=λ p o e=>by
 have a:p≠x:=λ z=>by rw [z,hx] at e;cases e
 have b:p≠dx:=λ z=>by rw [z,hd] at e;cases e
 exact k p o a (by rw [upd_ne a,upd_ne b];exact e)
theorem z2z {K:d0} {ta tv:TE} {f:Str} {rest:TS} {D:Ends} {σ:L2.St} {H:Hp} (h:tv σ H λ y H1=>ta σ H1 λ x H2=>∃a C dx fs,x=.ref a/\H2 a=some (.ins C dx fs)/\Cls K C/\NoAttr K C f/\fs.length < 1000/\rest D σ (upd H2 a (.ins C dx (putF f y fs)))):tSeq (sFld K ta tv f) rest D σ H:=h
theorem zl2 {K:d0} {ta tv:TE} {f:Str} {D:Ends} {σ:L2.St} {H:Hp} (h:tv σ H λ y H1=>ta σ H1 λ x H2=>∃a C dx fs,x=.ref a/\H2 a=some (.ins C dx fs)/\Cls K C/\NoAttr K C f/\fs.length < 1000/\D.nx σ (upd H2 a (.ins C dx (putF f y fs)))):sFld K ta tv f D σ H:=h
theorem zf4 (f:Str) (v:V) :∀fs:List (Str×V),(putF f v fs).length<=fs.length + 1
 | []=>B0 _
 | (g,x) :: r=>by
  unfold putF;split
  ·simp
  ·have:=zf4 f v r;simp only [U0];omega
theorem z19 {K:d0} {x dx C:Addr} {H H1:Hp} {fs:List (Str×V)} {R:L2.St->Hp->Prop} {σ:L2.St} {f:Str} {y:V} {i n:Nat} (k:Kept x H H1) (e:H1 x=some (.ins C dx fs)) (hv:σ[i]? = some (some (.ref x))) (c:Cls K C) (na:NoAttr K C f) (l:fs.length<=n) (hn:n < 100)
  (q :∀H2,Kept x H H2->(∀b o,b≠x->H1 b=some o->H2 b=some o)->H2 x=some (.ins C dx (putF f y fs))->(putF f y fs).length<=n + 1->R σ H2) :
  tVar i σ H1 λ z H2=>∃a C dx fs,z=.ref a/\H2 a=some (.ins C dx fs)/\Cls K C/\NoAttr K C f/\fs.length < 1000/\R σ (upd H2 a (.ins C dx (putF f y fs))):=
 ⟨_,hv,x,C,dx,fs,rfl,e,c,na,by omega,q _ (k.trans .set) (λ b o d g=>by rw [upd_ne d];exact g) z01 (D0 (zf4 f y fs) (by omega))⟩
theorem ins_tt {K:d0} {x C dx:Addr} {fs:List (Str×V)} {H H':Hp} (e:H x=some (.ins C dx fs)) (k:Kept x H H'):Tt K H H':=by
 refine ⟨λ a b h=>?_,λ a b h=>k _ _ (λ z=>by rw [z,e] at h;cases h) h⟩;rcases h with (h|⟨ob,h⟩)|h
 ·exact .inl (.inl (k _ _ (λ z=>by rw [z,e] at h;cases h) h))
 ·exact .inl (.inr ⟨ob,k _ _ (λ z=>by rw [z,e] at h;cases h) h⟩)
 ·exact .inr h
theorem zj3 {ps:List (Nat×Nat)} {q:Nat×Nat->Bool} {f:Nat×Nat->Nat} {us:List V} (h:All2 (λ (i:Nat) y=>∃p,ps[i]? = some p/\y=V.int (f p:Nat)) ((K1 ps.length).filter λ i=>(ps[i]?.map q).getD false) us) :∃as,us=nsV as/\as.length<=ps.length/\∀a,a∈as↔∃p∈ps,q p=true/\f p=a:=by
 refine ⟨((K1 ps.length).filter λ i=>(ps[i]?.map q).getD false).map λ i=>f (ps[i]?.getD (0,0)),?_,?_,λ a=>?_⟩
 ·generalize (K1 ps.length).filter (λ i=>(ps[i]?.map q).getD false)=is at h;induction h with
  | nil=>rfl
  | cons a r ih=>obtain ⟨p,d,b⟩:=a;rw [ih,b,J1,d];rfl
 ·rw [K0];exact D0 (A2 _ _) (by rw [W1];exact B0 _)
 ·rw [List.mem_map];constructor
  ·rintro ⟨i,c,e⟩;obtain ⟨d,b⟩:=List.mem_filter.mp c;have j:=List.mem_range.mp d;have g:ps[i]? = some ps[i]:=N0 j;rw [g] at b e;exact ⟨_,S0 g,b,e⟩
  ·rintro ⟨p,g,d,b⟩;obtain ⟨i,c⟩:=List.mem_iff_getElem?.mp g;refine ⟨i,List.mem_filter.mpr ⟨List.mem_range.mpr (List.getElem?_eq_some_iff.mp c).1,?_⟩,?_⟩
   ·rw [c];exact d
   ·rw [c];exact b
theorem dec_iN (i j:Nat):decide (V.int (i:Int)=V.int (j:Int))=decide (i=j):=decide_eq_decide.mpr ⟨λ e=>by have:=V.int.inj e;omega,λ e=>by rw [e]⟩
def z1d (K:d0):Sp:=λ vs H Q _=>∃(x dx lp:Addr) (n:Nat) (iv kv y:V) (zs:List V) (ps:List (Nat×Nat)) (r:Rc),vs=[.ref x,.int n,y,iv,kv,.ref lp]/\H x=some (.ins 337 dx [])/\RcAt K H r y/\H lp=some (.lst zs)/\All2 (PairAt H) ps zs/\ps.length<=10000/\
 ∀fs la lb as bs H',Kept x H H'->H' x=some (.ins 337 dx fs)->fs.lookup ("number" : Str)=some (.int n)->fs.lookup ("thing" : Str)=some iv->fs.lookup ("kind" : Str)=some kv->fs.lookup ("verb" : Str)=some r.v->fs.lookup ("worth" : Str)=some r.x->fs.lookup ("answer" : Str)=some r.a->fs.lookup ("aheads" : Str)=some (.ref la)->fs.lookup ("behinds" : Str)=some (.ref lb)->fs.lookup ("may_stand" : Str)=none->H' la=some (.lst (nsV as))->H' lb=some (.lst (nsV bs))->(∀a,a∈as↔(a,n)∈ps)->(∀b,b∈bs↔(n,b)∈ps)->as.length<=10000->bs.length<=10000->H la=none->H lb=none->Q .non H'
theorem zb7 (T:TX (kx w) mg):Fo P w mg base (CXE P w base) 1 327 y02 ["self","number","deed","thing","kind","pairs"] (z1d (kx w)):=by
 refine (z1i w.params).okE z3l (λ vs H Q E h=>?_) (λ c2 A c1 s H vs Q E hr h=>?_)
 ·obtain ⟨x,dx,S,n,iv,kv,y,F,u,r,rfl,_⟩:=h;rfl
 ·obtain ⟨x,dx,S,n,iv,kv,y,F,u,r,rfl,C,⟨p,rfl,sq⟩,X,al,pl,q⟩:=h;refine ⟨_,(z03 (ps_fld (pv 0) (pv 1) rfl)
   (z03 (ps_fld (pv 0) (pv 3) rfl)
   (z03 (ps_fld (pv 0) (pv 4) rfl)
   (z03 (ps_fld (pv 0) (pe_ix ix_seq (pv 2) pe_int (λ _ _=>rfl)) rfl)
   (z03 (ps_fld (pv 0) (pe_ix ix_seq (pv 2) pe_int (λ _ _=>rfl)) rfl)
   (z03 (ps_fld (pv 0) (pe_ix ix_seq (pv 2) pe_int (λ _ _=>rfl)) rfl)
   (z03 (ps_fld (pv 0) (pe_cg (xs:=["ahead","behind"]) (g:=gTup (kx w) 2 (gCons (gName 0) (gCons (gName 1) gNil))) (fr:=[(1,"number")]) (z1m (pv 5)) (λ _ _ _ _ _=>(pg_tup rfl (z0h (pg_cn (N:=["ahead","behind","number"]) 0) (z0h (pg_cn (N:=["ahead","behind","number"]) 1) z17)))) (λ _ _ _ _ _=>(pf_one (z0b opEq (pv 1) (pv 2) (nomark _)))) (λ _ _ _ _ _=>(pv 0))) rfl)
   (z04 (ps_fld (pv 0) (pe_cg (xs:=["ahead","behind"]) (g:=gTup (kx w) 2 (gCons (gName 0) (gCons (gName 1) gNil))) (fr:=[(1,"number")]) (z1m (pv 5)) (λ _ _ _ _ _=>(pg_tup rfl (z0h (pg_cn (N:=["ahead","behind","number"]) 0) (z0h (pg_cn (N:=["ahead","behind","number"]) 1) z17)))) (λ _ _ _ _ _=>(pf_one (z0b opEq (pv 0) (pv 2) (nomark _)))) (λ _ _ _ _ _=>(pv 1))) rfl))))))))),?_⟩
  have b0 :∀{H1 U:Hp} {l:Addr},Kept x H H1->Kept x H1 U->l≠x->U l=none->H l=none:=λ {H1 U l} k k' nl hl=>by
   cases z:H l with
   | none=>rfl
   | some o=>rw [k' l o nl (k l o nl z)] at hl;cases hl
  refine z2z ⟨_,rfl,z19 Kept.refl C rfl (z0c _) (z0q _) (n:=0) (B0 _) (by decide) λ H1 d _ e1 c=>?_⟩;refine z2z ⟨_,rfl,z19 d e1 rfl (z0c _) (z27 _) c (by decide) λ U B _ e2 c=>?_⟩;refine z2z ⟨_,rfl,z19 B e2 rfl (z0c _) (z2n _) c (by decide) λ H3 k3 _ e3 c=>?_⟩;have t3:Tt (kx w) H H3:=ins_tt C k3;refine z2z ⟨_,rfl,.inr (.inl ⟨p,_,2,r.v,rfl,rfl,t3.t _ _ sq,z07 (j:=2) rfl,z19 k3 e3 rfl (z0c _) (z2m _) c (by decide) λ H4 k4 _ e4 c=>?_⟩)⟩;refine z2z ⟨_,rfl,.inr (.inl ⟨p,_,3,r.x,rfl,rfl,(ins_tt C k4).t _ _ sq,z07 (j:=3) rfl,z19 k4 e4 rfl (z0c _) (z26 _) c (by decide) λ H5 k5 _ e5 c=>?_⟩)⟩;refine z2z ⟨_,rfl,.inr (.inl ⟨p,_,4,r.a,rfl,rfl,(ins_tt C k5).t _ _ sq,z07 (j:=4) rfl,z19 k5 e5 rfl (z0c _) (z0x _) c (by decide) λ H6 O _ e6 c=>?_⟩)⟩;have a3:S≠x:=λ z=>by rw [z,C] at X;cases X
  have zl:F.length=u.length:=z05 al;have a4 :∀{L:Hp},Kept x H L->All2 (PairAt L) u F:=λ k=>z02 (λ _ _ z=>z.elim λ b y=>⟨b,y.1,(ins_tt (K:=KX w.params) C k).l _ _ y.2⟩) al;refine z2z ?_;refine zbl (K:=KX w.params) (a:=S) (xs:=F) (H1:=H6) (λ i=>(u[i]?.map λ p=>decide (p.2=n)).getD false) (λ i y _=>∃p,u[i]? = some p/\y=.int (((λ p:Nat×Nat=>p.1) p:Nat):Int)) (λ _ _ _ _ _ z=>z) (λ R h=>⟨_,rfl,h⟩) (SqL.of (O _ _ a3 X)) (D0 (m:=10000) (by omega) (by decide)) (λ i hi v L s' hv KT KF d B=>?_) λ I H7 us Z V a2=>?_
  ·obtain ⟨e,Y,b,rfl,eb⟩:=z0e (a4 O) hv;rw [Y] at d B;refine ⟨b,_,rfl,SqT.of (s' _ _ eb),rfl,_,_,rfl,_,_,rfl,rfl,[some (.int e.1),some (.int e.2)],rfl,rfl,?_⟩;refine ⟨_,rfl,_,rfl,rfl,_,rfl,?_⟩;rw [dec_iN];exact ite2 (λ z=>⟨_,rfl,d z _ _ (Same.refl _) ⟨e,rfl,rfl⟩⟩) λ z=>B (Bool.eq_false_iff.mpr z) _ (Same.refl _)
  rw [zl] at a2;obtain ⟨G,rfl,c0,b7⟩:=zj3 (q:=λ p=>decide (p.2=n)) (f:=λ p=>p.1) a2;have s8:=Z.trans (Same.upd (o:=.lst (nsV G)) V);have a7:upd H7 I (.lst (nsV G)) I=some (.lst (nsV G)):=z01;have a0:I≠x:=λ z=>by rw [z,Z _ _ e6] at V;cases V
  generalize upd H7 I (.lst (nsV G))=H8 at s8 a7⊢;refine z19 (O.trans s8.kept) (s8 _ _ e6) rfl (z0c _) (z1w _) c (by decide) λ H9 M b6 e9 c=>?_;have b5:=b6 _ _ a0 a7;refine zl2 ?_;refine zbl (K:=KX w.params) (a:=S) (xs:=F) (H1:=H9) (λ i=>(u[i]?.map λ p=>decide (p.1=n)).getD false) (λ i y _=>∃p,u[i]? = some p/\y=.int (((λ p:Nat×Nat=>p.2) p:Nat):Int)) (λ _ _ _ _ _ z=>z) (λ R h=>⟨_,rfl,h⟩) (SqL.of (M _ _ a3 X)) (D0 (m:=10000) (by omega) (by decide)) (λ i hi v L s' hv KT KF d B=>?_) λ D a9 us a1 J b1=>?_
  ·obtain ⟨e,Y,b,rfl,eb⟩:=z0e (a4 M) hv;rw [Y] at d B;refine ⟨b,_,rfl,SqT.of (s' _ _ eb),rfl,_,_,rfl,_,_,rfl,rfl,[some (.int e.1),some (.int e.2)],rfl,rfl,?_⟩;refine ⟨_,rfl,_,rfl,rfl,_,rfl,?_⟩;rw [dec_iN];exact ite2 (λ z=>⟨_,rfl,d z _ _ (Same.refl _) ⟨e,rfl,rfl⟩⟩) λ z=>B (Bool.eq_false_iff.mpr z) _ (Same.refl _)
  rw [zl] at b1;obtain ⟨bs,rfl,b9,b3⟩:=zj3 (q:=λ p=>decide (p.1=n)) (f:=λ p=>p.2) b1;have W:=a1.trans (Same.upd (o:=.lst (nsV bs)) J);have a6:upd a9 D (.lst (nsV bs)) D=some (.lst (nsV bs)):=z01;have a5:D≠x:=λ z=>by rw [z,a1 _ _ e9] at J;cases J
  generalize upd a9 D (.lst (nsV bs))=H11 at W a6⊢;refine z19 (M.trans W.kept) (W _ _ e9) rfl (z0c _) (z1j _) c (by decide) λ b4 b2 a8 b8 c=>?_;refine q _ I D G bs b4 b2 b8 (lk_n (lk_n (lk_n (lk_n (lk_n (lk_n (lk_n lk_eq))))))) (lk_n (lk_n (lk_n (lk_n (lk_n (lk_n lk_eq)))))) (lk_n (lk_n (lk_n (lk_n (lk_n lk_eq))))) (lk_n (lk_n (lk_n (lk_n lk_eq)))) (lk_n (lk_n (lk_n lk_eq))) (lk_n (lk_n lk_eq)) (lk_n lk_eq) lk_eq (lk_n (lk_n (lk_n (lk_n (lk_n (lk_n (lk_n (lk_n rfl)))))))) (a8 _ _ a0 (W _ _ b5)) (a8 _ _ a5 a6) (λ a=>(b7 a).trans ⟨λ ⟨p,h1,h2,h3⟩=>?_,λ h=>⟨_,h,decide_eq_true rfl,rfl⟩⟩) (λ b=>(b3 b).trans ⟨λ ⟨p,h1,h2,h3⟩=>?_,λ h=>⟨_,h,decide_eq_true rfl,rfl⟩⟩) (by omega) (by omega) (b0 O (Z.kept (r:=x)) a0 V) (b0 M (a1.kept (r:=x)) a5 J)
  ·rw [<-h3,<-of_decide_eq_true h2];exact h1
  ·rw [<-h3,<-of_decide_eq_true h2];exact h1
def CaAt (H:Hp) (m:Nat) (rs:List Rc) (ts:List (Str×Str)) (n:Nat) (r:Rc) (p:DD) (y:V):Prop:=∃x dx fs la lb as bs,y=.ref x/\H x=some (.ins 337 dx fs)/\fs.lookup ("number" : Str)=some (.int (n:Nat))/\fs.lookup ("thing" : Str)=some (.int (ixT ts p.nm:Nat))/\fs.lookup ("kind" : Str)=some (.str p.k)/\fs.lookup ("verb" : Str)=some r.v/\fs.lookup ("worth" : Str)=some r.x/\fs.lookup ("answer" : Str)=some r.a/\fs.lookup ("aheads" : Str)=some (.ref la)/\fs.lookup ("behinds" : Str)=some (.ref lb)/\fs.lookup ("may_stand" : Str)=none/\H la=some (.lst (nsV as))/\H lb=some (.lst (nsV bs))/\(∀a,a∈as↔z1t m rs a n=true)/\(∀b,b∈bs↔z1t m rs n b=true)/\as.length<=10000/\bs.length<=10000
theorem CaAt.same {H H':Hp} {m:Nat} {rs:List Rc} {ts:List (Str×Str)} {n:Nat} {r:Rc} {p:DD} {y:V} (s:Same H H') (h:CaAt H m rs ts n r p y):CaAt H' m rs ts n r p y:=by obtain ⟨x,d,fs,u,g,c,bs,w,j,i,f,e,l,z,t,a,o,k,q,v,b⟩:=h;exact ⟨x,d,fs,u,g,c,bs,w,s _ _ j,i,f,e,l,z,t,a,o,k,s _ _ q,s _ _ v,b⟩
def z16 (K:d0):Sp:=λ vs H Q _=>∃(y:V) (pa:Addr) (m n:Nat) (rs:List Rc) (ts:List (Str×Str)) (r:Rc) (p:DD) (ns:List Nat),vs=[y,.ref pa]/\CaAt H m rs ts n r p y/\SqT K H pa (nsV ns)/\Q (.bl (cP m rs ns n)) H
theorem z35 (T:TX (kx w) mg):Fo P w mg base CX0 1 334 y01 ["self","done"] (z16 (kx w)):=by
 refine (z1b w.params).ok sc_Candidate_may_stand (λ vs H Q E h=>?_) (λ a1 A a0 s H vs Q E hr h=>?_)
 ·obtain ⟨y,f,m,n,o,S,r,p,d,rfl,_⟩:=h;rfl
 ·obtain ⟨y,f,m,n,o,S,r,p,d,rfl,⟨x,D,fs,O,M,l,bs,rfl,F,X,f2,f3,f4,f5,f6,Z,Y,f9,N,J,L,R,al,bl⟩,B,q⟩:=h;refine ⟨_,(z03 (ps_if (z0b z1p (pe_fld (pv 0) rfl) (pv 1) (by with_unfolding_all rfl))
   (z04 (ps_ret pe_bl))
   z0d)
   (z03 (ps_for T1 rfl (z1m (pe_fld (pv 0) rfl)) (z0j (i:=2) sc_Candidate_may_stand.nd rfl (j1 rfl))
   (z04 (ps_if (z0b z3x (pv 2) (pv 1) (by with_unfolding_all rfl))
   (z04 (ps_ret pe_bl))
   z0d)))
   (z03 (ps_for T1 rfl (z1m (pe_fld (pv 0) rfl)) (z0j (i:=3) sc_Candidate_may_stand.nd rfl (j1 rfl))
   (z04 (ps_if (z0b z1p (pv 3) (pv 1) (by with_unfolding_all rfl))
   (z04 (ps_ret pe_bl))
   z0d)))
   (z04 (ps_ret pe_bl))))),?_⟩
  refine sq_if ?_;refine ⟨_,rfl,x,_,D,fs,_,rfl,F,z0c _,z0q _,X,_,rfl,f,_,rfl,.inr B,rfl,zc1 _,_,rfl,?_⟩;have q:=λ b (h:b=cP m o d n)=>(show Q (.bl b) H from h ▸ q)
  by_cases z1:n∈d
  ·refine iteP ?_ (q _ ?_)
   ·rw [inV_ns];exact decide_eq_true z1
   ·unfold cP cO;rw [decide_eq_false (λ h=>h z1)];rfl
  refine iteN (λ h=>z1 (of_decide_eq_true (by rw [inV_ns] at h;exact h))) ?_;refine t_nx ?_;have I :∀{l:List Nat} {j:Nat} {y:V},(nsV l)[j]? = some y->∃a,l[j]? = some a/\y=.int (a:Nat):=λ h=>by unfold nsV at h;rw [X0] at h;obtain ⟨a,h1,U⟩:=Option.map_eq_some_iff.mp h;exact ⟨a,h1,U.symm⟩
  refine ⟨_,rfl,x,_,D,fs,_,rfl,F,z0c _,z1w _,Z,O,rfl,⟨_,SqL.of N⟩,?_⟩;refine z2j (K:=KX w.params) (a:=O) (xs:=nsV l) (λ i σ t=>t=H/\(∀k a,k < i->l[k]? = some a->a∈d)/\∃x2 x3,σ=[some (.ref x),some (.ref f),x2,x3]) ⟨rfl,λ k a c=>absurd c (G6 _),_,_,rfl⟩ (λ _ σ t _ h=>by rw [h.1];exact SqL.of N) ?_ ?_
  ·rintro j y σ t G ⟨rfl,fj,x2,x3,rfl⟩;obtain ⟨a,g,rfl⟩:=I G;refine g_name ⟨_,rfl,_,rfl,f,_,rfl,.inr B,rfl,zc1 _,_,rfl,?_⟩;by_cases z2:a∈d
   ·refine iteN (λ h=>?_) ⟨rfl,λ k v c e=>?_,_,_,rfl⟩
    ·rw [inV_ns,decide_eq_true z2] at h;cases h
    ·by_cases z:k=j
     ·subst z;rw [g] at e;cases e;exact z2
     ·exact fj k v (by omega) e
   ·refine iteP ?_ (q _ ?_)
    ·rw [inV_ns,decide_eq_false z2];rfl
    ·have h:=(L a).mp (S0 g);unfold cP cO;rw [decide_eq_false (p:=∀a∈K1 o.length,z1t m o a n=true->a∈d) (λ C=>z2 (C a (List.mem_range.mpr (z5d h).1) h)),R8,V6]
  rintro σ t ⟨rfl,fj,x2,x3,rfl⟩;refine t_nx ?_;have W:cO m o d n=true:=by unfold cO;rw [Y2,decide_eq_true_iff,decide_eq_true_iff];refine ⟨z1,λ a _ h=>?_⟩;obtain ⟨k,c⟩:=List.mem_iff_getElem?.mp ((L a).mpr h);exact fj k a (by rw [z9c];exact (List.getElem?_eq_some_iff.mp c).1) c
  refine ⟨_,rfl,x,_,D,fs,_,rfl,F,z0c _,z1j _,Y,M,rfl,⟨_,SqL.of J⟩,?_⟩;refine z2j (K:=KX w.params) (a:=M) (xs:=nsV bs) (λ i σ u=>u=t/\(∀k a,k < i->bs[k]? = some a->a∉d)/\∃x2 x3,σ=[some (.ref x),some (.ref f),x2,x3]) ⟨rfl,λ k a c=>absurd c (G6 _),_,_,rfl⟩ (λ _ σ u _ h=>by rw [h.1];exact SqL.of J) ?_ ?_
  ·rintro j y σ u G ⟨rfl,gj,x2,x3,rfl⟩;obtain ⟨a,g,rfl⟩:=I G;refine g_name ⟨_,rfl,_,rfl,f,_,rfl,.inr B,rfl,zc1 _,_,rfl,?_⟩;by_cases z2:a∈d
   ·refine iteP ?_ (q _ ?_)
    ·rw [inV_ns];exact decide_eq_true z2
    ·have h:=(R a).mp (S0 g);unfold cP;rw [decide_eq_false (λ C=>C a (List.mem_range.mpr (z5d h).2) h z2),R8]
   ·refine iteN (λ h=>?_) ⟨rfl,λ k v c e=>?_,_,_,rfl⟩
    ·rw [inV_ns] at h;exact z2 (of_decide_eq_true h)
    ·by_cases z:k=j
     ·subst z;rw [g] at e;cases e;exact z2
     ·exact gj k v (by omega) e
  rintro σ u ⟨rfl,gj,x2,x3,rfl⟩;refine t_nx (q _ ?_);unfold cP;rw [W,j26];refine (decide_eq_true λ b _ h=>?_).symm;obtain ⟨k,c⟩:=List.mem_iff_getElem?.mp ((R b).mpr h);exact gj k b (by rw [z9c];exact (List.getElem?_eq_some_iff.mp c).1) c
theorem zeh {X:Cx} {K:d0} (hK:X.K=K):OpR X (N2 .In) (rIn K false):=hK ▸ z1p
def PlZ (K:d0) (H:Hp) (p:Addr) (pl:Pl):Prop:=∃pa pb vs,SqT K H p [.ref pa,.ref pb]/\SqT K H pa (nsV pl.1)/\SqT K H pb vs/\All2 (StZ K H) pl.2 vs
theorem PlZ.tups {K:d0} {H H':Hp} {p:Addr} {pl:Pl} (t:Tups K H H') (h:PlZ K H p pl):PlZ K H' p pl:=by obtain ⟨a,b,c,f,e,d,g⟩:=h;exact ⟨a,b,c,t _ _ f,t _ _ e,t _ _ d,z02 (λ _ _ z=>StZ.tups t z) g⟩
def StpZ (K:d0) (H:Hp) (s:Stp) (y:V):Prop:=∃b p,y=.ref b/\SqT K H b [.int (s.1:Nat),s.2.1,.ref p]/\PlZ K H p s.2.2
theorem StpZ.tups {K:d0} {H H':Hp} {s:Stp} {y:V} (t:Tups K H H') (h:StpZ K H s y):StpZ K H' s y:=by obtain ⟨b,p,d,c,a⟩:=h;exact ⟨b,p,d,t _ _ c,a.tups t⟩
structure ThW (ts:List (Str×Str)):Prop where
 n6:ts.length<=6
 nd:(ts.map (·.1)).Nodup
 ks :∀t∈ts,t.2∈kinds5
theorem ThOk.thw {ts:List (Str×Str)} (h:ThOk ts):ThW ts:=⟨h.n6,h.nd,h.ks⟩
theorem zk2 {H:Hp} {k:Str} (hk:k∈kinds5) :∃v,kl_FIRST_STATES.lookup k=some v/\StZ (kx w) H (zeroK k) v:=by
 have a:SqT (kx w) H 184 []:=.inr ⟨⟨.type "tuple",none,.seq #[] 0,#[]⟩,#[],0,by kernel_rfl,rfl,rfl,by decide,.nil⟩;have b:SqT (kx w) H 185 []:=.inr ⟨⟨.type "tuple",none,.seq #[] 0,#[]⟩,#[],0,by kernel_rfl,rfl,rfl,by decide,.nil⟩;unfold kinds5 at hk;simp only [P1,C0,or_false] at hk;unfold zeroK;rcases hk with rfl|rfl|rfl|rfl|rfl
 ·exact ⟨.int 0,by decide +kernel,by rw [if_neg (by decide +kernel)];rfl⟩
 ·exact ⟨.int 0,by decide +kernel,by rw [if_neg (by decide +kernel)];rfl⟩
 ·exact ⟨.ref 184,by decide +kernel,by rw [if_pos (by decide +kernel)];exact ⟨_,rfl,a⟩⟩
 ·exact ⟨.ref 185,by decide +kernel,by rw [if_pos (by decide +kernel)];exact ⟨_,rfl,b⟩⟩
 ·exact ⟨.int 0,by decide +kernel,by rw [if_neg (by decide +kernel)];rfl⟩
def TaleAt (K:d0) (H:Hp) (t:Addr) (ts:List (Str×Str)) (es:List Ev):Prop:=∃pt te ys,H t=some (.tup [.ref pt,.ref te])/\ThAt H pt ts/\H te=some (.tup ys)/\All2 (EvAt K H) es ys
theorem TaleAt.tt {K:d0} {H H':Hp} {t:Addr} {ts:List (Str×Str)} {es:List Ev} (x:Tt K H H') (h:TaleAt K H t ts es):TaleAt K H' t ts es:=by obtain ⟨pt,c,b,f,e,d,a⟩:=h;exact ⟨pt,c,b,x.l _ _ f,e.tt x,x.l _ _ d,z02 (λ _ _ z=>EvAt.tups x.t z) a⟩
theorem ixT_at {ts:List (Str×Str)} (ok:ThW ts) {t:Str×Str} {i:Nat} (h:ts[i]? = some t):ixT ts t.1=i:=idx_eq ok.nd (by rw [X0,h];rfl)
theorem ixT_of {ts:List (Str×Str)} (ok:ThW ts) {nm k:Str} (h:(nm,k)∈ts):ts[ixT ts nm]? = some (nm,k):=by obtain ⟨i,a⟩:=List.mem_iff_getElem?.mp h;rw [show ixT ts nm=i from ixT_at ok a];exact a
theorem set_sl {K:d0} {σ:L2.St} {H:Hp} {Q:VK} {t1 t2 ti tv tj:TE} {pb:Addr} {vs:List V} {i:Nat} {v:V} (h1 :∀(H':Hp) (R:VK),Same H H'->R (.ref pb) H'->t1 σ H' R) (h2 :∀(H':Hp) (R:VK),Same H H'->R (.ref pb) H'->t2 σ H' R) (hi :∀(H':Hp) (R:VK),Same H H'->R (.int (i:Nat)) H'->ti σ H' R) (hv :∀(H':Hp) (R:VK),Same H H'->R v H'->tv σ H' R) (hj :∀(H':Hp) (R:VK),Same H H'->R (.int ((i:Int) + 1)) H'->tj σ H' R)
  (sq:SqT K H pb vs) (il:i < vs.length) (l9:vs.length<=90) (q :∀p5 H',Same H H'->SqT K H' p5 (vs.set i v)->Q (.ref p5) H') :
  tOp (λ x y H Q=>rCatS K x y H Q\/rCatT K x y H Q) (tOp (λ x y H Q=>rCatS K x y H Q\/rCatT K x y H Q) (tSl (λ x lo hi H Q=>rSlL K x lo hi H Q\/rSlT K x lo hi H Q\/rSlS x lo hi H Q) t1 zdr (tPart ti)) (tTup (tCons tv tNil))) (tSl (λ x lo hi H Q=>rSlL K x lo hi H Q\/rSlT K x lo hi H Q\/rSlS x lo hi H Q) t2 (tPart tj) zdr) σ H Q:=by
 refine h1 _ _ (Same.refl _) (hi _ _ (Same.refl _) ⟨i,rfl,.inr (.inl ⟨pb,vs,rfl,sq,λ z=>?_,λ d w=>?_⟩)⟩)
 ·have:=z.2;rw [HT.sIx_nat] at this;omega
 have E:cutV vs none (some (i:Int))=vs.take i:=by unfold cutV;rw [HT.sIx_none,HT.sIx_nat,B5,Nat.sub_zero,j11 (by omega)]
 have h:=Same.upd (o:=.tup (cutV vs none (some (i:Int)))) w;have l:upd H d (.tup (cutV vs none (some (i:Int)))) d=some (.tup (vs.take i)):=by rw [z01,E]
 generalize upd H d (.tup (cutV vs none (some (i:Int))))=H1 at h l⊢;refine hv _ _ h ⟨w_1,λ A C=>?_⟩;obtain ⟨J,t,r,B⟩:=newA (.tup [v]) C;rw [<-t];refine .inl ⟨d,A,vs.take i,[v],rfl,rfl,SqT.of (r _ _ l),SqT.of B,by simp,D0 (m:=100) (by rw [X3];show _ + 1<=100;omega) (by decide),λ n g F s=>?_⟩;have b:Same H g:=(h.trans r).trans F;refine h2 _ _ b (hj _ _ b ⟨_,rfl,.inr (.inl ⟨pb,vs,rfl,b.seqT sq,λ z=>?_,λ a u=>?_⟩)⟩)
 ·have:=z.1;rw [show (i:Int) + 1=((i + 1:Nat):Int) from rfl,HT.sIx_nat] at this;omega
 have G:cutV vs (some ((i:Int) + 1)) none=vs.drop (i + 1):=by unfold cutV;rw [show (i:Int) + 1=((i + 1:Nat):Int) from rfl,HT.sIx_none,HT.sIx_nat,j11 (by omega)];exact b8 (by rw [g6];exact B0 _)
 have c:=Same.upd (o:=.tup (cutV vs (some ((i:Int) + 1)) none)) u;have j:upd g a (.tup (cutV vs (some ((i:Int) + 1)) none)) a=some (.tup (vs.drop (i + 1))):=by rw [z01,G]
 generalize upd g a (.tup (cutV vs (some ((i:Int) + 1)) none))=H4 at c j⊢;have e:vs.take i++[v]++vs.drop (i + 1)=vs.set i v:=by rw [K9,if_pos il,Q9];rfl
 have f:=c.seqT s;have p:(vs.take i++[v]).length + (vs.drop (i + 1)).length<=sizeLine:=D0 (m:=100) (by rw [<-M0,e,j0a];omega) (by decide);by_cases hd:vs.drop (i + 1)=[]
 ·refine .inr ⟨n,a,_,_,rfl,rfl,f,SqT.of j,by simp,p,λ _=>?_,λ z=>absurd hd z⟩;rw [hd,J2] at e;rw [e] at f;exact q _ _ (b.trans c) f
 ·refine .inl ⟨n,a,_,_,rfl,rfl,f,SqT.of j,hd,p,λ p5 I D k=>?_⟩;rw [e] at k;exact q _ _ ((b.trans c).trans D) k
theorem zg3 {α β:Type} {R:α->β->Prop} {xs:List α} {ys:List β} {x:α} {y:β} (h:All2 R xs ys) (hx:R x y) :∀i,All2 R (xs.set i x) (ys.set i y):=by
 induction h with
 | nil=>intro i;exact .nil
 | cons a r ih=>
  intro i;cases i with
  | zero=>exact .cons hx r
  | succ i=>exact .cons a (ih i)
noncomputable def stq (ts:List (Str×Str)) (p:DD) (n:Nat) (pl:Pl) (s:Sv):Stp:=(n,(dz p.k p.vb p.dt s).2,(srtN (pl.1++[n]),pl.2.set (ixT ts p.nm) (dz p.k p.vb p.dt s).1))
theorem stp_of {ts:List (Str×Str)} {r:Rc} {p:DD} {n:Nat} {pl:Pl} {s:Sv} (h:pl.2[ixT ts p.nm]? = some s):stp ts r p n pl=if r.e.isNone || decide ((dz p.k p.vb p.dt s).2=r.a) then some (stq ts p n pl s) else none:=by unfold stp;rw [h];rfl
def z9q (K:d0):Sp:=λ vs H Q _=>∃(y:V) (pp:Addr) (m n k N:Nat) (rs:List Rc) (ts:List (Str×Str)) (r:Rc) (p:DD) (pl:Pl),vs=[y,.ref pp]/\CaAt H m rs ts n r p y/\RcGd K H ts r p/\ThW ts/\PlZ K H pp pl/\PlOk ts N k pl/\N<=63/\n < N/\n∉pl.1/\
 ∀s b q H',pl.2[ixT ts p.nm]? = some s->SvOk k p.k s->Same H H'->H' b=some (.tup [.int (n:Nat),(dz p.k p.vb p.dt s).2,.ref q])->StpZ K H' (stq ts p n pl s) (.ref b)->Q (.ref b) H'
theorem zf7 (T:TX (kx w) mg) (c0:Ca P w mg base "do" ["kind","state","verb","worth"] 5 (sp_do (kx w))):Fo P w mg base CX0 6 388 y1o ["candidate","place"] (z9q (kx w)):=by
 refine (z87 w.params).ok sc_step_of (λ e H Q E h=>?_) (λ c5 A c4 s H e Q E hr h=>?_)
 ·obtain ⟨y,L,m,n,k,N,rs,f,r,p,a,rfl,_⟩:=h;rfl
 ·obtain ⟨y,L,m,n,k,N,rs,f,r,p,a,rfl,⟨x,b,fs,la,lb,as,bs,rfl,c,f1,f2,f3,f4,f5,f6,f7,f8,f9,ea,eb,ma,mb,al,bl⟩,gd,ok,⟨pa,Z,e,sp,sa,sb,sz⟩,J,a8,hn,nn,q⟩:=h;refine ⟨_,(z03 (ps_set (i:=2) sc_step_of.nd rfl (j1 rfl) (pe_fld (pv 0) rfl))
   (z03 (ps_set (i:=3) sc_step_of.nd rfl (j1 rfl) (pe_ix ix_seq (pv 1) pe_int (λ _ _=>rfl)))
   (z03 (ps_set (i:=4) sc_step_of.nd rfl (j1 rfl) (pe_cal c0 (hr.mono (by decide)) rfl (z00 (pe_fld (pv 0) rfl) (z00 (pe_ix ix_seq (pv 3) (pv 2) (λ _ _=>rfl)) (z00 (pe_fld (pv 0) rfl) (z00 (pe_fld (pv 0) rfl) pa_nil))))))
   (z03 (ps_set (i:=5) sc_step_of.nd rfl (j1 rfl) (z0t z0k rfl (T.no (z34 _)) V4 (z00 (z0a z2g rfl (T.no (z3z _)) P6 (z00 (pe_op op_catS (pe_ix ix_seq (pv 1) pe_int (λ _ _=>rfl)) (pe_tup (z00 (pe_fld (pv 0) rfl) pa_nil))) pa_nil)) pa_nil)))
   (z04 (ps_ret (pe_tup (z00 (pe_fld (pv 0) rfl) (z00 (pe_ix ix_seq (pv 4) pe_int (λ _ _=>rfl)) (z00 (pe_tup (z00 (pv 5) (z00 (pe_op (op_catS.or z9d) (pe_op (op_catS.or z9d) (z1g slSeq (pv 3) z2r (z1u (pv 2))) (pe_tup (z00 (pe_ix ix_seq (pv 4) pe_int (λ _ _=>rfl)) pa_nil))) (z1g slSeq (pv 3) (z1u (pe_op opAdd (pv 2) pe_int)) z2r)) pa_nil))) pa_nil)))))))))),?_⟩
  obtain ⟨g1,g2,hm,dk,ix,wi,ga⟩:=gd;have b0:=ixT_of ok hm;obtain ⟨s,hs,so⟩:=z1h J.so b0;obtain ⟨v,hv,hz⟩:=z1h sz hs;obtain ⟨b8,c3⟩:=J.n63 a8 hn nn;have vl:e.length=a.2.length:=z05 sz;have sl:a.2.length=f.length:=z05 J.so;have it:ixT f p.nm < e.length:=(List.getElem?_eq_some_iff.mp hv).1;rw [g2] at f4;refine ⟨_,rfl,x,_,b,fs,_,rfl,c,z0c _,z27 _,f2,?_⟩;refine g_name (t_nx ?_);refine ⟨_,rfl,.inr (.inl ⟨L,_,1,.ref Z,rfl,rfl,sp,z07 (j:=1) rfl,?_⟩)⟩;refine g_name (t_nx ?_);refine ⟨_,rfl,x,_,b,fs,_,rfl,c,z0c _,z2n _,f3,?_⟩;refine ⟨_,rfl,_,rfl,.inr (.inl ⟨Z,e,_,v,rfl,rfl,sb,z07 hv,?_⟩)⟩;refine ⟨_,rfl,x,_,b,fs,_,rfl,c,z0c _,z2m _,f4,?_⟩;refine ⟨_,rfl,x,_,b,fs,_,rfl,c,z0c _,z26 _,f5,?_⟩;refine do_can (w:=w) (E:=E0) so hz b8 dk ix wi λ p6 K S G e6 a5=>?_;refine g_name (t_nx ?_);refine z0l ?_;refine ⟨_,rfl,.inr (.inl ⟨L,_,0,.ref pa,rfl,rfl,G.seqT sp,z07 (j:=0) rfl,?_⟩)⟩;refine ⟨_,rfl,x,_,b,fs,_,rfl,G _ _ c,z0c _,z0q _,f1,w_1,λ F a2=>?_⟩;have r7:=G.trans (Same.upd (o:=.tup [.int (n:Nat)]) a2);have u7:=Same.upd (o:=.tup [.int (n:Nat)]) a2;have e7:upd S F (.tup [.int (n:Nat)]) F=some (.tup [.int (n:Nat)]):=z01;generalize upd S F (.tup [.int (n:Nat)])=H7 at r7 u7 e7⊢;refine ⟨pa,F,nsV a.1,[.int (n:Nat)],rfl,rfl,r7.seqT sa,SqT.of e7,by simp,D0 (m:=100) (by rw [z9c];show _ + 1<=100;omega) (by decide),λ b2 H8 r8 Y=>?_⟩;rw [show nsV a.1++[.int (n:Nat)]=((a.1++[n]).map λ (n:Nat)=>(n:Int)).map V.int by unfold nsV;rw [R3,B2];rfl] at Y;refine ⟨b2,_,rfl,.inr Y,by rw [K0,M0];show _ + 1 < 64;omega,λ l3 c2 c1 pm pw=>?_⟩;rw [zlc pm pw];obtain ⟨H9,g,r9,e9⟩:=newA (.lst (nsV (srtN (a.1++[n])))) c1;rw [<-g];refine ⟨l3,_,rfl,.inl ⟨SqL.of e9,λ t a7=>?_⟩⟩;obtain ⟨a1,g,b7,a6⟩:=newA (.tup (nsV (srtN (a.1++[n])))) a7;rw [<-g];refine g_name ?_;have D:Same S a1:=((u7.trans r8).trans r9).trans b7;have I:=G.trans D;refine sq_ret ?_;refine ⟨_,rfl,x,_,b,fs,_,rfl,I _ _ c,z0c _,z0q _,f1,?_⟩;refine ⟨_,rfl,.inr (.inl ⟨p6,_,1,_,rfl,rfl,SqT.of (D _ _ e6),z07 (j:=1) rfl,?_⟩)⟩;refine ⟨_,rfl,zg1 (set_sl (i:=ixT f p.nm) (v:=K) (λ B R l h=>⟨_,rfl,h⟩) (λ B R l h=>⟨_,rfl,h⟩) (λ B R l h=>⟨_,rfl,h⟩) (λ B R l h=>⟨_,rfl,.inr (.inl ⟨p6,_,0,K,rfl,rfl,SqT.of (l _ _ (D _ _ e6)),z07 (j:=0) rfl,h⟩)⟩) (λ B R l h=>⟨_,rfl,.inl ⟨_,1,rfl,rfl,h⟩⟩) (I.seqT sb) it (by have:=ok.n6;omega) λ u U b9 b3=>?_)⟩;refine ⟨w_2,λ d a9=>⟨w_3,λ X a3=>?_⟩⟩;have O:=Same.upd (o:=.tup [.ref t,.ref u]) a9;have a4:upd U d (.tup [.ref t,.ref u]) d=some (.tup [.ref t,.ref u]):=z01;generalize upd U d (.tup [.ref t,.ref u])=H12 at O a4 a3⊢;obtain ⟨W,g,M,a0⟩:=newA (.tup [.int (n:Nat),(dz p.k p.vb p.dt s).2,.ref d]) a3;rw [<-g];have C:Same a1 W:=(b9.trans O).trans M;refine q s X d W hs so (I.trans C) a0 ⟨X,d,rfl,SqT.of a0,t,u,e.set (ixT f p.nm) K,SqT.of (M _ _ a4),SqT.of (C _ _ a6),(O.trans M).seqT b3,zg3 (z02 (λ _ _ z=>StZ.tups (.of (I.trans C)) z) sz) (a5.tups (.of (D.trans C))) _⟩
def EndL (rs:List Rc) (es:List Nat):Prop:=es.length<=rs.length/\∀n,n∈es↔∃r,rs[n]? = some r/\r.e.isSome=true
def z36 (K:d0):Sp:=λ vs H Q _=>∃(l:Addr) (zs:List V) (rs:List Rc),vs=[.ref l]/\H l=some (.lst zs)/\All2 (RcAt K H) rs zs/\rs.length<=100/\
 ∀le es H',Same H H'->H' le=some (.lst (nsV es))->EndL rs es->Q (.ref le) H'
theorem z66 (T:TX (kx w) mg):Fo P w mg base CX0 1 393 y0b ["told"] (z36 (kx w)):=by
 refine (z21 w.params).ok z6d (λ O H Q E h=>?_) (λ U A S s H O Q E W h=>?_)
 ·obtain ⟨l,f,d,rfl,_⟩:=h;rfl
 ·obtain ⟨l,f,d,rfl,L,o,rl,q⟩:=h;refine ⟨_,(z04 (ps_ret (pe_cg (xs:=["number","deed"]) (g:=gTup (kx w) 2 (gCons (gName 0) (gCons (gName 1) gNil))) (fr:=[]) (z5c rfl (T.no (z14 _)) (z00 (pv 0) pa_nil)) (λ _ _ _ _ _=>(pg_tup rfl (z0h (pg_cn (N:=["number","deed"]) 0) (z0h (pg_cn (N:=["number","deed"]) 1) z17)))) (λ _ _ _ _ _=>(pf_one (z0b zid (pe_ix (z9h (K:=KX w.params) rfl) (pv 1) pe_int (λ _ _=>rfl)) pe_non (nomark _)))) (λ _ _ _ _ _=>(pv 0))))),?_⟩;have t:f.length=d.length:=z05 o;refine sq_ret ?_;refine zhk (K:=KX w.params) (a:=l) (xs:=f) (H1:=H) (λ i=>(d[i]?.map λ r=>r.e.isSome).getD false) (λ i y _=>y=.int (i:Nat)) (λ _ _ _ _ _ z=>z) (λ R h=>⟨_,rfl,h⟩) (SqL.of L) (D0 (m:=100) (by omega) (by decide)) ?_ ?_
  ·intro i Z v D k M KT Y b c;obtain ⟨x,J,F,rfl,I⟩:=M;obtain ⟨r,G,p,rfl,C⟩:=z0e o F;rw [G] at b c;refine ⟨J,_,rfl,SqT.of I,rfl,_,_,rfl,_,_,rfl,rfl,[some (.int (i:Nat)),some (.ref p)],rfl,rfl,?_⟩;refine ⟨_,rfl,.inr (.inl ⟨p,_,6,endV r.e,rfl,rfl,k.seqT C,z07 (j:=6) rfl,rfl,_,rfl,?_⟩)⟩;have b:=λ z=>b (show r.e.isSome=true from z);have c:=λ z=>c (show r.e.isSome=false from z);cases re:r.e with
   | none=>exact iteN (by show ¬ (!decide (V.non=V.non))=true;decide) (c (by rw [re];rfl) _ (Same.refl _))
   | some e=>exact iteP rfl ⟨_,rfl,b (by rw [re];rfl) _ _ (Same.refl _) rfl⟩
  intro le D X k B u;rw [zkf u];refine q le _ _ (k.trans (Same.upd B)) z01 ⟨?_,λ n=>?_⟩
  ·exact D0 (A2 _ _) (by rw [W1,t];exact B0 _)
  ·rw [List.mem_filter,List.mem_range,t];constructor
   ·rintro ⟨h1,h2⟩;rw [N0 h1] at h2;exact ⟨_,N0 h1,h2⟩
   ·rintro ⟨r,h1,h2⟩;exact ⟨(List.getElem?_eq_some_iff.mp h1).1,by rw [h1];exact h2⟩
def z6k (K:d0):Sp:=λ vs H Q _=>∃(pa le:Addr) (ns es:List Nat),vs=[.ref pa,.ref le]/\SqT K H pa (nsV ns)/\H le=some (.lst (nsV es))/\es.length<=100/\∀b H',Same H H'->(b=true↔∀n∈es,n∈ns)->Q (.bl b) H'
theorem zbe (T:TX (kx w) mg):Fo P w mg base CX0 1 398 y15 ["done","numbers"] (z6k (kx w)):=by
 refine (z53 w.params).ok zak (λ L H Q E h=>?_) (λ U A S s H L Q E W h=>?_)
 ·obtain ⟨r,le,t,l,rfl,_⟩:=h;rfl
 ·obtain ⟨r,le,t,l,rfl,O,J,Y,q⟩:=h;refine ⟨_,(z04 (ps_ret (z0a (zc4 rfl) rfl (T.no (n_all _)) boot_all (z00 (pe_cg (xs:=["number"]) (g:=gName 0) (fr:=[(0,"done")]) (z1m (pv 1)) (λ _ _ _ _ _=>(pg_cn (N:=["number","done"]) 0)) (λ _ _ _ _ _=>pf_nil) (λ _ _ _ _ _=>(z3a (zeh (K:=KX w.params) rfl) (pv 0) (pv 1) (by with_unfolding_all rfl)))) pa_nil)))),?_⟩;refine sq_ret (e_cb1 ?_);refine zbl (K:=KX w.params) (a:=le) (xs:=nsV l) (H1:=H) (λ _=>true) (λ i y _=>∃n,l[i]? = some n/\y=.bl (decide (n∈t))) (λ _ _ _ _ _ z=>z) (λ R h=>⟨_,rfl,h⟩) (SqL.of J) (D0 (m:=100) (by rw [z9c];omega) (by decide)) ?_ ?_
  ·intro i b v D o f KT X G k2;unfold nsV at f;rw [X0] at f;obtain ⟨n,d,rfl⟩:=Option.map_eq_some_iff.mp f;refine ⟨[some (.int (n:Nat))],rfl,rfl,iteT ?_⟩;refine ⟨_,rfl,_,rfl,r,_,rfl,.inr (o.seqT O),rfl,zc1 _,?_⟩;exact G rfl _ _ (Same.refl _) ⟨n,d,by rw [<-inV_ns];rfl⟩
  intro F D k o I c;rw [List.filter_eq_self.mpr (λ _ _=>rfl),z9c] at c;have C:=z05 c;rw [W1] at C;refine ⟨F,k,rfl,SqL.of z01,λ y p=>?_,q _ _ (o.trans (Same.upd I)) ?_⟩
  ·obtain ⟨i,b⟩:=List.mem_iff_getElem?.mp p;obtain ⟨j,_,n,_,e⟩:=z0e c b;exact ⟨_,e⟩
  ·rw [Q7];constructor
   ·intro h n d;obtain ⟨i,b⟩:=List.mem_iff_getElem?.mp d;have M:=(List.getElem?_eq_some_iff.mp b).1;have x:k[i]? = some k[i]:=N0 (by omega);obtain ⟨j,u,Z,B,e⟩:=z0e c x;rw [g9 M] at u;cases u;rw [b] at B;cases B;have:=of_decide_eq_true (h _ (S0 x));rw [e] at this;exact of_decide_eq_true (V.bl.inj this)
   ·intro h y p;obtain ⟨i,b⟩:=List.mem_iff_getElem?.mp p;obtain ⟨j,_,n,d,e⟩:=z0e c b;rw [e,decide_eq_true (h n (S0 d))];exact decide_eq_true rfl
theorem zgk {K:d0} {H:Hp} {ts:List (Str×Str)} {vs:List V} (al:All2 (λ (i:Nat) y=>∃t,ts[i]? = some t/\StZ K H (zeroK t.2) y) (K1 ts.length) vs):All2 (StZ K H) (ts.map λ t=>zeroK t.2) vs:=by have c:=z05 al;rw [W1] at c;refine z28 (by rw [K0,c]) λ i z v a g=>?_;rw [X0] at a;obtain ⟨t,b,rfl⟩:=Option.map_eq_some_iff.mp a;obtain ⟨j,e,h,d,f⟩:=z0e al g;rw [g9 (List.getElem?_eq_some_iff.mp b).1] at e;cases e;rw [b] at d;cases d;exact f
def z4u (K:d0):Sp:=λ vs H Q _=>∃(t:Addr) (ts:List (Str×Str)) (es:List Ev),vs=[.ref t]/\TaleAt K H t ts es/\ThW ts/\∀p H',Same H H'->PlZ K H' p ([],ts.map λ t=>zeroK t.2)->Q (.ref p) H'
theorem z8f (T:TX (kx w) mg) (c0:Ca P w mg base "first_state" ["kind"] 2 z4t):Fo P w mg base CX0 3 403 y0n ["tale"] (z4u (kx w)):=by
 refine (z3e w.params).ok z8g (λ d H Q E h=>?_) (λ a7 A a6 s H d Q E V h=>?_)
 ·obtain ⟨t,r,es,rfl,_⟩:=h;rfl
 ·obtain ⟨t,r,es,rfl,⟨pt,te,ys,et,⟨yt,J,k⟩,a4,al⟩,ok,q⟩:=h;refine ⟨_,(z04 (ps_ret (pe_tup (z00 (pe_tup pa_nil) (z00 (z0t z0k rfl (T.no (z34 _)) V4 (z00 (pe_cg (xs:=["name","kind"]) (g:=gTup (kx w) 2 (gCons (gName 0) (gCons (gName 1) gNil))) (fr:=[]) (pi_tup (pe_ix ix_seq (pv 0) pe_int (λ _ _=>rfl))) (λ _ _ _ _ _=>(pg_tup rfl (z0h (pg_cn (N:=["name","kind"]) 0) (z0h (pg_cn (N:=["name","kind"]) 1) z17)))) (λ _ _ _ _ _=>pf_nil) (λ _ _ _ _ _=>(pe_cal c0 (V.mono (by decide)) rfl (z00 (pv 1) pa_nil)))) pa_nil)) pa_nil))))),?_⟩;refine sq_ret ?_;refine ⟨w_0,λ x F=>?_⟩;obtain ⟨M,c,e,S⟩:=newA (.tup []) F;rw [<-c];refine zg1 (e_cb1 ?_);refine z3i (K:=KX w.params) (a:=pt) (xs:=yt) (H1:=M) (λ _=>true) (λ i y H'=>∃t,r[i]? = some t/\StZ (kx w) H' (zeroK t.2) y) (λ _ _ _ _ s ⟨t,h1,h2⟩=>⟨t,h1,h2.tups (.of s)⟩) (λ R h=>⟨_,rfl,.inr (.inl ⟨t,_,0,.ref pt,rfl,rfl,SqT.of (e _ _ et),z07 (j:=0) rfl,h⟩)⟩) (e.seqT (SqT.of J)) (D0 (m:=6) (by rw [z05 k];exact ok.n6) (by decide)) ?_ ?_
  ·intro i hi v l f n KT KF U k2;obtain ⟨t,B,b,rfl,G⟩:=z0e k n;have a1:=(e.trans f) _ _ G;obtain ⟨v,n,hz⟩:=zk2 (w:=w) (H:=l) (ok.ks t (S0 B));refine ⟨b,_,rfl,SqT.of a1,rfl,_,_,rfl,_,_,rfl,rfl,[some (.str t.1),some (.str t.2)],rfl,rfl,iteT ?_⟩;exact ⟨_,rfl,t.2,v,rfl,n,U rfl _ _ (Same.refl _) ⟨t,B,hz⟩⟩
  intro O l d f X D;rw [List.filter_eq_self.mpr (λ _ _=>rfl),z05 k] at D;obtain ⟨H5,c,a3,L⟩:=newA (.lst d) X;rw [<-c];refine ⟨O,d,rfl,.inl ⟨SqL.of L,λ p Y=>?_⟩⟩;obtain ⟨H6,c,Z,e6⟩:=newA (.tup d) Y;rw [<-c];refine ⟨w_2,λ W a2=>?_⟩;obtain ⟨C,c,u,I⟩:=newA (.tup [.ref x,.ref p]) a2;rw [<-c];have o:Same l C:=(a3.trans Z).trans u;exact q W C ((e.trans f).trans o) ⟨x,p,d,SqT.of I,SqT.of ((f.trans o) _ _ S),SqT.of (u _ _ e6),zgk (z02 (λ _ _ z=>z.elim λ t y=>⟨t,y.1,y.2.tups (.of o)⟩) D)⟩
noncomputable def hide (r:Addr) (H:Hp):Hp:=λ p=>if p=r then none else H p
theorem z1k {r p:Addr} {H:Hp} {o:HO} (n:p≠r) (e:H p=some o):hide r H p=some o:=by unfold hide;rw [if_neg n];exact e
theorem hide_same {r:Addr} {H:Hp}:Same (hide r H) H:=λ p o e=>by
 unfold hide at e;by_cases z:p=r
 ·rw [if_pos z] at e;cases e
 ·rw [if_neg z] at e;exact e
theorem zkn {r p:Addr} {H:Hp} {o:HO} (e:hide r H p=some o):p≠r:=λ z=>by unfold hide at e;rw [if_pos z] at e;cases e
theorem z2d {r:Addr} {H H':Hp} (s:Same H H'):Same (hide r H) (hide r H'):=λ p o e=>z1k (zkn e) (s _ _ (hide_same _ _ e))
theorem z6m {l:Addr} {H:Hp} {o:HO}:hide l (upd H l o)=hide l H:=by
 funext q;unfold hide;by_cases z:q=l
 ·rw [if_pos z,if_pos z]
 ·rw [if_neg z,if_neg z,upd_ne z]
theorem z7s {ts:List (Str×Str)} {f:Str×Str->Str} {us:List V} (h:All2 (λ (i:Nat) y=>∃t,ts[i]? = some t/\y=V.str (f t)) (K1 ts.length) us):us=ts.map λ t=>V.str (f t):=by
 have b:=z05 h;rw [W1] at b;apply B7;intro i;rw [X0];cases hu:us[i]? with
 | none=>rw [O3 (by have:=List.getElem?_eq_none_iff.mp hu;omega)];rfl
 | some y=>obtain ⟨j,a,t,d,c⟩:=z0e h hu;rw [g9 (by have:=(List.getElem?_eq_some_iff.mp hu).1;omega)] at a;cases a;rw [d,c];rfl
def CaL (H:Hp) (m:Nat) (rs:List Rc) (ts:List (Str×Str)) (ps:List DD) (cs:List V):Prop:=∀n r p y,rs[n]? = some r->ps[n]? = some p->cs[n]? = some y->CaAt H m rs ts n r p y
structure BoF (K:d0) (H:Hp) (m:Nat) (rs:List Rc) (ts:List (Str×Str)) (ps:List DD) (fs:List (Str×V)):Prop where
 cand :∃lc cs,fs.lookup ("candidates" : Str)=some (.ref lc)/\H lc=some (.lst cs)/\cs.length=rs.length/\CaL H m rs ts ps cs
 first :∃p0,fs.lookup ("first" : Str)=some (.ref p0)/\PlZ K H p0 ([],ts.map λ t=>zeroK t.2)
 ended :∃le en,fs.lookup ("ended" : Str)=some (.ref le)/\H le=some (.lst (nsV en))/\EndL rs en
 kinds :∃lk,fs.lookup ("kinds" : Str)=some (.ref lk)/\H lk=some (.lst (ts.map λ t=>V.str t.2))
 nm :∀z:Str,z∈(["steps_from","ends_at","has_place"]:List Str)->fs.lookup z=none
theorem BoF.same {K:d0} {H H':Hp} {m:Nat} {rs:List Rc} {ts:List (Str×Str)} {ps:List DD} {fs:List (Str×V)} (s:Same H H') (h:BoF K H m rs ts ps fs):BoF K H' m rs ts ps fs:=
 ⟨h.cand.elim λ b z=>z.elim λ a y=>⟨b,a,y.1,s _ _ y.2.1,y.2.2.1,λ n r p v f e c=>(y.2.2.2 n r p v f e c).same s⟩,h.first.elim λ p z=>⟨p,z.1,z.2.tups (.of s)⟩,h.ended.elim λ le z=>z.elim λ g y=>⟨le,g,y.1,s _ _ y.2.1,y.2.2⟩,h.kinds.elim λ d z=>⟨d,z.1,s _ _ z.2⟩,h.nm⟩
def z0u (K:d0):Sp:=λ vs H Q _=>∃(x dx t:Addr) (ts:List (Str×Str)) (es:List Ev) (ps:List DD) (m:Nat),vs=[.ref x,.ref t,.str (z3c m)]/\H x=some (.ins 377 dx [])/\TaleAt K H t ts es/\ThW ts/\es.length<=63/\EWf [] es/\All2 (RcGd K H ts) (dAll 0 [] es) ps/\
 ∀fs H',Kept x H H'->H' x=some (.ins 377 dx fs)->BoF K H' m (dAll 0 [] es) ts ps fs->Q .non H'
theorem zjl (T:TX (kx w) mg) (c0:Ca P w mg base "has_to" ["tale","strictness"] 2 (zc3 (kx w))) (c1:Ca P w mg base "deeds" ["tale"] 1 (z6w (kx w))) (c2:Ca P w mg base "first_place" ["tale"] 3 (z4u (kx w))) (c3:Ca P w mg base "ended_numbers" ["told"] 1 (z36 (kx w))) (c4:Fo P w mg base (CXE P w base) 1 327 y02 ["self","number","deed","thing","kind","pairs"] (z1d (kx w))):Fo P w mg base (CXE P w base) 5 353 y03 ["self","tale","strictness"] (z0u (kx w)):=by
 refine (z38 w.params).okE sc_Board___init__ (λ vs H Q E h=>?_) (λ l7 A l6 s H vs Q E hr h=>?_)
 ·obtain ⟨x,dx,t,u,S,ps,m,rfl,_⟩:=h;rfl
 ·obtain ⟨x,dx,t,u,S,ps,m,rfl,ex,ta,ok,l3,wf,gd,q⟩:=h;refine ⟨_,(z03 (ps_set (i:=3) sc_Board___init__.nd rfl (j1 rfl) (pe_cal c0 (hr.mono (by decide)) rfl (z00 (pv 1) (z00 (pv 2) pa_nil))))
   (z03 (ps_set (i:=4) sc_Board___init__.nd rfl (j1 rfl) (pe_cal c1 (hr.mono (by decide)) rfl (z00 (pv 1) pa_nil)))
   (z03 (ps_fld (pv 0) (pe_cg (xs:=["name","kind"]) (g:=gTup (kx w) 2 (gCons (gName 0) (gCons (gName 1) gNil))) (fr:=[]) (pi_tup (pe_ix ix_seq (pv 1) pe_int (λ _ _=>rfl))) (λ _ _ _ _ _=>(pg_tup rfl (z0h (pg_cn (N:=["name","kind"]) 0) (z0h (pg_cn (N:=["name","kind"]) 1) z17)))) (λ _ _ _ _ _=>pf_nil) (λ _ _ _ _ _=>(pv 1))) rfl)
   (z03 (ps_fld (pv 0) (pe_cal c2 (hr.mono (by decide)) rfl (z00 (pv 1) pa_nil)) rfl)
   (z03 (ps_fld (pv 0) (pe_cal c3 (hr.mono (by decide)) rfl (z00 (pv 4) pa_nil)) rfl)
   (z03 (ps_fld (pv 0) (pe_lst pa_nil) rfl)
   (z03 (z8t (i:=5) sc_Board___init__.nd rfl (j1 rfl) (xs:=["name","kind"]) (g:=gTup (kx w) 2 (gCons (gName 0) (gCons (gName 1) gNil))) (fr:=[]) rfl (pi_tup (pe_ix ix_seq (pv 1) pe_int (λ _ _=>rfl))) (λ _ z=>absurd z C0) (z5y rfl) (λ _ z=>absurd z C0) (by decide +kernel) rfl (by decide +kernel) (λ _ _ _ _ _=>(pg_tup rfl (z0h (pg_cn (N:=["name","kind"]) 0) (z0h (pg_cn (N:=["name","kind"]) 1) z17)))) (λ _ _ _ _ _=>pf_nil) (λ _ _ _ _ _=>(pv 0)))
   (z04 (PS.nox (ps_for T1 rfl (z5c rfl (T.no (z14 _)) (z00 (pv 4) pa_nil)) (pg_tup rfl (z0h (z0j (i:=6) sc_Board___init__.nd rfl (j1 rfl)) (z0h (z0j (i:=7) sc_Board___init__.nd rfl (j1 rfl)) z17)))
   (z03 (ps_set (i:=8) sc_Board___init__.nd rfl (j1 rfl) (zdz (pv 5) (z00 (pe_ix ix_seq (pv 7) pe_int (λ _ _=>rfl)) pa_nil)))
   (z04 (z31 (z1x (pe_fld (pv 0) rfl) (z00 (ze3 (zbd _) c4 (hr.mono (by decide)) rfl (T.of (zd5 _)) (z4b _) .nil passN (z00 (pv 6) (z00 (pv 7) (z00 (pv 8) (z00 (pe_ix ix_seq (pe_fld (pv 0) rfl) (pv 8) (λ _ _=>rfl)) (z00 (pv 3) pa_nil)))))) pa_nil))))))))))))))),?_⟩
  obtain ⟨pt,te,ys,et,⟨yt,g9,a0⟩,g5,al⟩:=id ta;obtain ⟨dw,os,DI⟩:=DInv.all DInv.nil wf;have rl:(dAll 0 [] S).length<=63:=by have:=z6p (i:=0) (rs:=[]) S;simp only [L5,U6] at this;omega
  refine ⟨_,rfl,_,rfl,t,te,.ref pt,ys,S,m,rfl,SqT.of et,SqT.of g5,al,by omega,dw,λ lp zp H1 s1 l4 c8 ap=>?_⟩;refine g_name (t_nx ?_);refine ⟨_,rfl,t,te,.ref pt,ys,S,rfl,s1.seqT (SqT.of et),s1.seqT (SqT.of g5),z02 (λ _ _ z=>EvAt.tups (.of s1) z) al,by omega,dw,λ lt zt C s2 l5 a2 ar=>?_⟩;refine g_name (t_nx ?_);have a1:=s1.trans s2;generalize dAll 0 [] S=rs at *;have zl:zt.length=rs.length:=z05 ar;have pl:=z5b (m:=m) (rs:=rs) rs.length;have pm:rs.length * rs.length<=63 * 63:=j1e rl rl;have f0 :∀{a:Addr} {o:HO} {L:Hp},L x=some (.ins 377 dx [])->L a=some o->(∀d f,o≠.ins 377 d f)->a≠x:=λ e1 e2 n z=>by rw [z,e1] at e2;cases e2;exact n _ _ rfl
  have a3:=a1 _ _ ex;have i4:lp≠x:=f0 a3 (s2 _ _ c8) λ _ _ z=>by cases z
  have d2:lt≠x:=f0 a3 a2 λ _ _ z=>by cases z
  refine z2z ?_;refine z3i (K:=KX w.params) (a:=pt) (xs:=yt) (H1:=C) (λ _=>true) (λ i y _=>∃t,u[i]? = some t/\y=.str t.2) (λ _ _ _ _ s z=>z) (λ R h=>⟨_,rfl,.inr (.inl ⟨t,_,0,.ref pt,rfl,rfl,SqT.of (a1 _ _ et),z07 (j:=0) rfl,h⟩)⟩) (a1.seqT (SqT.of g9)) (D0 (m:=6) (by rw [z05 a0];exact ok.n6) (by decide)) ?_ ?_
  ·intro i hi v H3 s3 hv KT KF k1 k2;obtain ⟨t,ht,b,rfl,eb⟩:=z0e a0 hv;refine ⟨b,_,rfl,SqT.of ((a1.trans s3) _ _ eb),rfl,_,_,rfl,_,_,rfl,rfl,[some (.str t.1),some (.str t.2)],rfl,rfl,iteT ?_⟩;exact ⟨_,rfl,k1 rfl _ _ (Same.refl _) ⟨t,ht,rfl⟩⟩
  intro D H3 us s3 c5 e4;rw [List.filter_eq_self.mpr (λ _ _=>rfl),z05 a0] at e4;rw [z7s (f:=λ t=>t.2) e4];have d0:=s3.trans (Same.upd (o:=.lst (u.map λ t=>V.str t.2)) c5);have b8:upd H3 D (.lst (u.map λ t=>V.str t.2)) D=some (.lst (u.map λ t=>V.str t.2)):=z01;have h0:D≠x:=λ z=>by rw [z,s3 _ _ a3] at c5;cases c5
  generalize upd H3 D (.lst (u.map λ t=>V.str t.2))=H4 at d0 b8⊢;have s4:=a1.trans d0;refine z19 s4.kept (s4 _ _ ex) rfl (z1a _) (z4x _) (n:=0) (B0 _) (by decide) λ H5 k5 g0 e5 Y=>?_;refine z2z ?_;refine ⟨_,rfl,t,u,S,rfl,ta.tt (ins_tt ex k5),ok,λ p0 H6 s6 pz=>?_⟩;refine z19 (k5.trans s6.kept) (s6 _ _ e5) rfl (z1a _) (z4r _) Y (by decide) λ H7 k7 c9 e7 Y=>?_;refine z2z ?_;have b4:Kept x C H7:=(d0.kept.trans g0).trans (s6.kept.trans c9);have j9:Tt (kx w) C H7:=ins_tt a3 b4;refine ⟨_,rfl,lt,zt,rs,rfl,b4 _ _ d2 a2,z02 (λ _ _ z=>RcAt.tups j9.t z) ar,by omega,λ le en H8 G b5 EL=>?_⟩;refine z19 (k7.trans G.kept) (G _ _ e7) rfl (z1a _) (z4g _) Y (by decide) λ H9 k9 X e9 Y=>?_;refine z2z ⟨w_0,λ c W=>?_⟩;have I:=Same.upd (o:=.lst []) W;have d9:upd H9 c (.lst []) c=some (.lst []):=z01;have b2:c≠x:=λ z=>by rw [z,e9] at W;cases W
  generalize upd H9 c (.lst [])=H10 at I d9⊢;refine z19 (k9.trans I.kept) (I _ _ e9) rfl (z1a _) (z0w _) Y (by decide) λ b6 g7 a4 e3 Y=>?_;have d6:=a4 _ _ b2 d9;have h8:Kept x C b6:=(b4.trans (G.kept.trans X)).trans (I.kept.trans a4);have d5:Tt (kx w) H b6:=ins_tt ex g7;refine z0l ?_;refine z3i (K:=KX w.params) (a:=pt) (xs:=yt) (H1:=b6) (λ _=>true) (λ i y _=>∃t,u[i]? = some t/\y=.str t.1) (λ _ _ _ _ s z=>z) (λ R h=>⟨_,rfl,.inr (.inl ⟨t,_,0,.ref pt,rfl,rfl,SqT.of (d5.l _ _ et),z07 (j:=0) rfl,h⟩)⟩) (d5.t _ _ (SqT.of g9)) (D0 (m:=6) (by rw [z05 a0];exact ok.n6) (by decide)) ?_ ?_
  ·intro i hi v b9 a5 hv KT KF k1 k2;obtain ⟨t,ht,b,rfl,eb⟩:=z0e a0 hv;refine ⟨b,_,rfl,SqT.of (a5 _ _ (d5.l _ _ eb)),rfl,_,_,rfl,_,_,rfl,rfl,[some (.str t.1),some (.str t.2)],rfl,rfl,iteT ?_⟩;exact ⟨_,rfl,k1 rfl _ _ (Same.refl _) ⟨t,ht,rfl⟩⟩
  intro J b9 us a5 a7 h5;rw [List.filter_eq_self.mpr (λ _ _=>rfl),z05 a0] at h5;rw [z7s (f:=λ t=>t.1) h5];have F:=a5.trans (Same.upd (o:=.lst (u.map λ t=>V.str t.1)) a7);have d8:upd b9 J (.lst (u.map λ t=>V.str t.1)) J=some (.lst (u.map λ t=>V.str t.1)):=z01;have l0:J≠x:=λ z=>by rw [z,a5 _ _ e3] at a7;cases a7
  have i0:J≠c:=λ z=>by rw [z,a5 _ _ d6] at a7;cases a7
  generalize upd b9 J (.lst (u.map λ t=>V.str t.1))=HB at F d8⊢;refine g_name ?_;have eB:=F _ _ e3;have b7:=F _ _ d6;have kB:Kept x H HB:=g7.trans F.kept;have b1:Kept x C HB:=h8.trans F.kept;have d1:C c=none:=by
   cases z:C c with
   | none=>rfl
   | some o=>have:=((b4.trans (G.kept.trans X))) _ _ b2 z;rw [W] at this;cases this
  have j0:H c=none:=a1.free d1;have i9:lt≠c:=λ z=>by rw [z,d1] at a2;cases a2
  have k3:lp≠c:=λ z=>by have:=s2 _ _ c8;rw [z,d1] at this;cases this
  have w5:Kept x H4 H5:=g0;have h4:Kept x H4 H9:=(w5.trans (s6.kept.trans c9)).trans (G.kept.trans X);have g4:D≠c:=λ z=>by have h:=h4 _ _ h0 b8;rw [z,W] at h;cases h
  have g8:HB D=some (.lst (u.map λ t=>V.str t.2)):=((h4.trans (I.kept.trans a4)).trans F.kept) _ _ h0 b8;refine ⟨_,rfl,lt,zt,rfl,SqL.of (b1 _ _ d2 a2),?_⟩;refine z4l (K:=KX w.params) (a:=lt) (xs:=zt) (λ i σ L=>∃B,KeptL [c] HB L/\L c=some (.lst B)/\B.length=i/\CaL (hide c L) m rs u ps B/\∃x6 x7 x8,σ=[some (.ref x),some (.ref t),some (.str (z3c m)),some (.ref lp),some (.ref lt),some (.ref J),x6,x7,x8])
   ⟨[],KeptL.refl,b7,rfl,λ n r p y _ _ h=>(by cases h),_,_,_,rfl⟩ (λ i σ L h=>?_) ?_ ?_
  ·obtain ⟨B,kk,_⟩:=h;exact SqL.of (kk _ _ (by simp [i9]) (b1 _ _ d2 a2))
  ·rintro i y σ b0 pq hy ⟨B,k13,e13,cl,ca,x6,x7,x8,rfl⟩ hpq;obtain ⟨a9,v_,sp,j8⟩:=newA (.tup [.int i,y]) hpq;rw [<-v_];refine ⟨pq,_,rfl,SqT.of j8,rfl,.int i,_,rfl,y,_,rfl,rfl,?_⟩;have l2:i < rs.length:=by rw [<-zl];exact (List.getElem?_eq_some_iff.mp hy).1
   obtain ⟨r,d7,py,rfl,e8⟩:=z0e ar hy;obtain ⟨M,i3,g1,g2,hm,dk,ix,wi,ga⟩:=z1h gd d7;have mB :∀l∈[c],MutAt HB l:=λ l hl=>by rw [List.mem_singleton.mp hl];exact .inl ⟨_,b7⟩
   have j5:Tt (kx w) C HB:=ins_tt a3 b1;have d3:Tt (kx w) C a9:=(j5.trans (KeptL.tt k13 mB)).trans (.of sp);have a8:KeptL [c] HB a9:=k13.trans sp.keptL;have h6:=d3.t _ _ e8;rw [g1] at h6;have c7:=ixT_of ok hm;have k8:ixT u M.nm < u.length:=(List.getElem?_eq_some_iff.mp c7).1;have g3:(u.map (·.1))[ixT u M.nm]? = some M.nm:=by rw [X0,c7];rfl
   have j6:u.map (λ t=>V.str t.1)=(u.map (·.1)).map V.str:=by rw [R3];rfl
   have d4:=a8 _ _ (by simp [i0]) d8;rw [j6] at d4;refine ⟨_,rfl,.inl ⟨rfl,_,SqL.of d4⟩,_,rfl,.inr (.inl ⟨py,_,1,.str M.nm,rfl,rfl,h6,z07 (j:=1) rfl,J,u.map (·.1),M.nm,ixT u M.nm,rfl,rfl,d4,D0 (m:=6) (by rw [K0];exact ok.n6) (by decide),g3,λ m' l1 e=>?_,?_⟩)⟩
   ·have:=(O9 (List.getElem?_eq_some_iff.mp e).1 ok.nd).mp (e.trans g3.symm);omega
   refine g_name (t_nx ?_);have e0:=a8 _ _ (by simp [b2.symm]) eB;have a6:=sp _ _ e13;have k6:=a8 _ _ (by simp [g4]) g8;have h7:=a8 _ _ (by simp [k3]) (b1 _ _ i4 (s2 _ _ c8));refine ⟨_,rfl,x,_,dx,_,_,rfl,e0,z1a _,z0w _,lk_eq,.inl ⟨rfl,_,SqL.of a6⟩,?_⟩;refine ⟨_,rfl,_,rfl,_,rfl,_,rfl,x,_,dx,_,_,rfl,e0,z1a _,z4x _,lk_n (lk_n (lk_n lk_eq)),?_⟩;refine ⟨_,rfl,.inl ⟨D,_,_,.str M.k,rfl,rfl,SqL.of k6,z07 (by rw [X0,c7];rfl),?_⟩⟩;refine ⟨_,rfl,λ Z dc b3 e6 nc=>?_⟩;have sC:Same a9 (upd (upd a9 dc (.own Z)) Z (.ins 337 dc [])):=(Same.upd e6).trans (Same.upd (by rw [upd_ne nc.symm];exact b3));refine ⟨Z,dc,lp,i,_,_,.ref py,zp,z2l m rs rs.length,r,rfl,z01,⟨py,rfl,sC.seqT (d3.t _ _ e8)⟩,sC _ _ h7,z02 (λ _ _ z=>z.elim λ b y=>⟨b,y.1,sC _ _ (d3.l _ _ (s2 _ _ y.2))⟩) ap,by omega,λ fs la lb as bs i6 i7 j4 f1 f2 f3 f4 f5 f6 f7 f8 f9 ea eb ma mb j3 i5 fa fb=>⟨rfl,?_⟩⟩;have c6:Same a9 i6:=zcm b3 e6 i7;have i2:=c6 _ _ a6;refine ⟨c,B,_,rfl,rfl,i2,Q1 (m:=100) (by omega) (by decide),?_⟩;have i8:Z≠c:=λ z=>by rw [z,a6] at b3;cases b3
   have k0:la≠c:=λ z=>by rw [z,sC _ _ a6] at fa;cases fa
   have j2:lb≠c:=λ z=>by rw [z,sC _ _ a6] at fb;cases fb
   refine ⟨B++[.ref Z],(a8.trans c6.keptL).trans (KeptL.set (by simp)),z01,by rw [M0];show B.length + 1=_;omega,λ n r' p' y' h1 U O=>?_,_,_,_,rfl⟩;rw [z6m];by_cases z:n < B.length
   ·rw [Q2 z] at O;exact (ca n r' p' y' h1 U O).same (z2d (sp.trans c6))
   ·have hn:n=B.length:=by have:=(List.getElem?_eq_some_iff.mp O).1;rw [M0] at this;have:n < B.length + 1:=this;omega
    rw [hn,D2 (B0 _),Nat.sub_self] at O;cases O;rw [hn,cl] at h1 U;rw [d7] at h1;rw [i3] at U;cases h1;cases U;rw [hn,cl];exact ⟨Z,dc,fs,la,lb,as,bs,rfl,z1k i8 j4,f1,f2,f3,f4,f5,f6,f7,f8,f9,z1k k0 ea,z1k j2 eb,λ a=>(ma a).trans ⟨λ h=>(mem_pairsTo.mp h).2.2,λ h=>mem_pairsTo.mpr ⟨(z5d h).1,(z5d h).2,h⟩⟩,λ b=>(mb b).trans ⟨λ h=>(mem_pairsTo.mp h).2.2,λ h=>mem_pairsTo.mpr ⟨(z5d h).1,(z5d h).2,h⟩⟩,j3,i5⟩
  ·rintro σ b0 ⟨B,k13,e13,cl,ca,x6,x7,x8,rfl⟩;have h9 :∀b o,b≠x->b≠c->H8 b=some o->b0 b=some o:=λ b o n1 n2 e=>k13 _ _ (by simp [n2]) (F _ _ (a4 _ _ n1 (I _ _ (X _ _ n1 e))));have g6:le≠x:=λ z=>by rw [z,G _ _ e7] at b5;cases b5
   have i1:le≠c:=λ z=>by have h:=X _ _ g6 b5;rw [z,W] at h;cases h
   have k4 :∀l∈[c],MutAt HB l:=λ l hl=>by rw [List.mem_singleton.mp hl];exact .inl ⟨_,b7⟩
   have j7:Tt (kx w) H6 b0:=((ins_tt (s6 _ _ e5) c9).trans ((Tt.of G).trans ((ins_tt (G _ _ e7) X).trans ((Tt.of I).trans ((ins_tt (I _ _ e9) a4).trans (.of F)))))).trans (KeptL.tt k13 k4);refine q _ b0 (λ b o nb e=>k13 _ _ (λ z=>by rw [List.mem_singleton.mp z,j0] at e;cases e) (kB b o nb e)) (k13 _ _ (by simp [b2.symm]) eB) ⟨⟨c,B,lk_eq,e13,by omega,λ n r p y h1 U O=>(ca n r p y h1 U O).same hide_same⟩,⟨p0,lk_n (lk_n lk_eq),pz.tups j7.t⟩,⟨le,en,lk_n lk_eq,h9 _ _ g6 i1 b5,EL⟩,⟨D,lk_n (lk_n (lk_n lk_eq)),k13 _ _ (by simp [g4]) g8⟩,λ z hz=>?_⟩;simp only [P1,C0,or_false] at hz;rcases hz with rfl|rfl|rfl<;>exact (lk_n (lk_n (lk_n (lk_n rfl))))
theorem zel {α β:Type} {R:α->β->Prop} {xs xs':List α} {ys ys':List β} (h:All2 R xs ys) (h':All2 R xs' ys'):All2 R (xs++xs') (ys++ys'):=by
 induction h with
 | nil=>exact h'
 | cons a r ih=>exact .cons a ih
theorem if_any {tc:TT} {ta tb:TS} {D:Ends} {σ:L2.St} {H:Hp} (R:Hp->Prop) (k :∀H',R H'->ta D σ H') (h:(∀H',R H'->ta D σ H')->tIfS tc ta tb D σ H):tIfS tc ta tb D σ H:=h k
def BoAt (K:d0) (H:Hp) (m:Nat) (rs:List Rc) (ts:List (Str×Str)) (ps:List DD) (b:Addr):Prop:=∃dx fs,H b=some (.ins 377 dx fs)/\BoF K H m rs ts ps fs
theorem BoAt.same {K:d0} {H H':Hp} {m:Nat} {rs:List Rc} {ts:List (Str×Str)} {ps:List DD} {b:Addr} (s:Same H H') (h:BoAt K H m rs ts ps b):BoAt K H' m rs ts ps b:=h.elim λ a z=>z.elim λ fs y=>⟨a,fs,s _ _ y.1,y.2.same s⟩
def z0z (K:d0):Sp:=λ vs H Q _=>∃(b pp:Addr) (m k:Nat) (rs:List Rc) (ts:List (Str×Str)) (ps:List DD) (pl:Pl),vs=[.ref b,.ref pp]/\BoAt K H m rs ts ps b/\All2 (RcGd K H ts) rs ps/\ThW ts/\PlZ K H pp pl/\PlOk ts rs.length k pl/\rs.length<=63/\
 ∀l ys H',Same H H'->H l=none->H' l=some (.lst ys)->All2 (StpZ K H') (nexT (cP m rs pl.1) ts rs ps pl rs.length) ys->Q (.ref l) H'
theorem z4k (T:TX (kx w) mg) (c0:Fo P w mg base CX0 1 334 y01 ["self","done"] (z16 (kx w))) (c1:Ca P w mg base "step_of" ["candidate","place"] 6 (z9q (kx w))):Fo P w mg base CX0 7 360 y00 ["self","place"] (z0z (kx w)):=by
 refine (z24 w.params).ok sc_Board_steps_from (λ vs H Q E h=>?_) (λ a5 A a4 s H vs Q E hr h=>?_)
 ·obtain ⟨b,u,m,k,d,l,D,c,rfl,_⟩:=h;rfl
 ·obtain ⟨b,u,m,k,d,l,D,c,rfl,⟨dx,fs,eb,⟨⟨lc,cs,fc,ec,cl,ca⟩,_,_,_,fn⟩⟩,gd,ok,pz,po,rl,q⟩:=h;refine ⟨_,(z03 (ps_set (i:=2) sc_Board_steps_from.nd rfl (j1 rfl) (pe_lst pa_nil))
   (z03 (ps_for T1 rfl (z1m (pe_fld (pv 0) rfl)) (z0j (i:=3) sc_Board_steps_from.nd rfl (j1 rfl))
   (z04 (ps_if (pt_val (zcc (pv 3) (z0c _) (z32 _) c0 (hr.mono (by decide)) (z3k _) .nil pass0 (z00 (pe_ix ix_seq (pv 1) pe_int (λ _ _=>rfl)) pa_nil)) (λ _=>rfl))
   (z03 (ps_set (i:=4) sc_Board_steps_from.nd rfl (j1 rfl) (pe_cal c1 (hr.mono (by decide)) rfl (z00 (pv 3) (z00 (pv 1) pa_nil))))
   (z04 (ps_if (PW.pt (pw_or (z0b op_isN (pe_fld (pv 3) rfl) pe_non (nomark _)) (pw_or1 (z0b opEq (pe_fld (pv 3) rfl) (pe_ix ix_seq (pv 4) pe_int (λ _ _=>rfl)) (nomark _)))))
   (z04 (z31 (z1x (pv 2) (z00 (pv 4) pa_nil))))
   z0d)))
   z0d)))
   (z04 (ps_ret (pv 2))))),?_⟩
  refine ⟨w_0,λ o Z=>?_⟩;obtain ⟨H1,v_,s1,F⟩:=newA (.lst []) Z;rw [<-v_];refine g_name (t_nx ?_);refine ⟨_,rfl,b,_,dx,fs,_,rfl,s1 _ _ eb,z1a _,z0w _,fc,lc,rfl,⟨_,SqL.of (s1 _ _ ec)⟩,?_⟩;refine z2j (K:=KX w.params) (a:=lc) (xs:=cs) (λ i σ f=>∃ys,Same H f/\f o=some (.lst ys)/\All2 (StpZ (kx w) f) (nexT (cP m d c.1) l d D c i) ys/\∃x3 x4,σ=[some (.ref b),some (.ref u),some (.ref o),x3,x4])
   ⟨[],s1,F,.nil,_,_,rfl⟩ (λ i σ f _ h=>SqL.of (h.choose_spec.1 _ _ ec)) ?_ ?_
  ·rintro i y σ O hy ⟨ys,s2,e2,al2,x3,x4,rfl⟩;have S:i < d.length:=by rw [<-cl];exact (List.getElem?_eq_some_iff.mp hy).1
   have B:d[i]? = some d[i]:=N0 S;obtain ⟨p,I,g⟩:=z1h gd B;generalize d[i]=r at B g;have L:=(ca i r p y B I hy).same s2;obtain ⟨X,pb,vs,sp,sa,sb,sz⟩:=id pz;refine g_name ?_;have a3 :∀{f:Hp} {R:VK},Same H f->R (.ref X) f->tOp (rIx (kx w)) (tVar 1) (tC (.int 0)) [some (.ref b),some (.ref u),some (.ref o),some y,x4] f R:=λ C h=>⟨_,rfl,.inr (.inl ⟨u,_,0,.ref X,rfl,rfl,C.seqT sp,z07 (j:=0) rfl,h⟩)⟩
   have skip:cP m d c.1 i=false\/stp l r p i c=none->∀{x3 x4:Option V} {f:Hp},Same O f->∃ys,Same H f/\f o=some (.lst ys)/\All2 (StpZ (kx w) f) (nexT (cP m d c.1) l d D c (i + 1)) ys/\∃x3' x4',[some (.ref b),some (.ref u),some (.ref o),x3,x4]=[some (.ref b),some (.ref u),some (.ref o),x3',x4']:=λ h {x3 x4 f} C=>by
    refine ⟨ys,s2.trans C,C _ _ e2,?_,_,_,rfl⟩;rw [z5t,show nexAt (cP m d c.1) l d D c i=none by
     unfold nexAt;rcases h with h|h
     ·rw [h];rfl
     ·rw [B,I];split<;>first|exact h|rfl]
    rw [d9,J2];exact z02 (λ _ _ z=>StpZ.tups (.of C) z) al2
   obtain ⟨x,U,Y,la,lb,as,bs,rfl,N,f1,f2,f3,f4,f5,f6,f7,f8,f9,_⟩:=id L;refine ⟨_,rfl,x,U,Y,rfl,N,f9,a3 s2 ⟨.ref x,X,m,i,d,l,r,p,c.1,rfl,L,s2.seqT sa,_,rfl,?_⟩⟩;cases hc:cP m d c.1 i with
   | false=>exact iteF (skip (.inl hc) (Same.refl _))
   | true=>
   refine iteT ?_;have ni:i∉c.1:=of_decide_eq_true (Bool.and_eq_true_iff.mp (Bool.and_eq_true_iff.mp hc).1).1;refine ⟨_,rfl,_,rfl,.ref x,u,m,i,k,d.length,d,l,r,p,c,rfl,L,g.tt (.of s2),ok,pz.tups (.of s2),po,rl,S,ni,λ J G q6 H3 a0 so v e3 a2=>?_⟩;refine g_name (t_nx ?_);have M:=stp_of (r:=r) (n:=i) a0;refine if_any (λ f=>H3=f/\stp l r p i c=some (stq l p i c J)) ?_ λ put=>?_;rotate_left
   ·refine t_or ?_;refine ⟨_,rfl,x,_,U,Y,_,rfl,v _ _ N,z0c _,z0x _,f6,rfl,_,rfl,?_⟩;have a1:=dz_ok g.2.2.2.1 so (po.n63 rl S ni).1;rcases g.2.2.2.2.2.2 with ⟨h1,t⟩|⟨h1,t⟩
    ·refine iteP (by rw [t];rfl) (iteT (put _ ⟨rfl,?_⟩));rw [M,h1];rfl
    have na:¬ decide (r.a=V.non)=true:=λ h=>by have:=of_decide_eq_true h;rcases t with ⟨j,t⟩|⟨j,t⟩<;>(rw [t] at this;cases this)
    have F:r.e.isNone=false:=Option.isNone_eq_false_iff.mpr h1;refine iteN na ?_;refine ⟨_,rfl,x,_,U,Y,_,rfl,v _ _ N,z0c _,z0x _,f6,?_⟩;refine ⟨_,rfl,.inr (.inl ⟨G,_,1,_,rfl,rfl,SqT.of e3,z07 (j:=1) rfl,IsA.scal (.inl t) (.inl a1.2.isA),_,rfl,?_⟩)⟩;by_cases za:r.a=(dz p.k p.vb p.dt J).2
    ·refine iteP (decide_eq_true za) (put _ ⟨rfl,?_⟩);rw [M,F,j27,decide_eq_true za.symm];rfl
    ·refine iteN (λ h=>za (of_decide_eq_true h)) (skip (.inr ?_) v);rw [M,F,j27,decide_eq_false (λ h=>za h.symm)];rfl
   rintro f ⟨rfl,hst⟩;have W:=v _ _ e2;have yl:ys.length<=i:=by rw [z05 al2];exact zec
   refine ⟨_,rfl,.inl ⟨rfl,_,SqL.of W⟩,_,rfl,o,ys,_,rfl,rfl,W,Q1 (m:=100) (by omega) (by decide),?_⟩;have tu:Tups (kx w) H3 (upd H3 o (.lst (ys++[.ref G]))):=Tups.lst W;refine ⟨ys++[.ref G],Same.keep (s2.trans v) Z,z01,?_,_,_,rfl⟩;rw [z5t,show nexAt (cP m d c.1) l d D c i=some (stq l p i c J) by unfold nexAt;rw [if_pos hc,B,I];exact hst];exact zel (z02 (λ _ _ z=>(StpZ.tups (.of v) z).tups tu) al2) (.cons (a2.tups tu) .nil)
  ·rintro σ O ⟨ys,s2,e2,al2,x3,x4,rfl⟩;rw [cl] at al2;exact ⟨_,rfl,q o ys O s2 Z e2 al2⟩
end
section
theorem cut_to {ys:List V} {m:Nat} (h:m<=ys.length):cutV ys none (some (m:Int))=ys.take m/\HT.sIx ys.length 0 none=0/\HT.sIx ys.length ys.length (some (m:Int))=m:=by
 have a:HT.sIx ys.length 0 none=0:=by simp [HT.sIx]
 have b:HT.sIx ys.length ys.length (some (m:Int))=m:=by simp [HT.sIx];rw [if_neg (by omega)];exact j11 h
 refine ⟨?_,a,b⟩;unfold cutV;rw [a,b,B5,Nat.sub_zero]
end
section
variable {P:Program} {w:W0} {mg:Str->Option Value} {base:Heap}
def z3n (K:d0):Sp:=λ vs H Q _=>∃(a:Addr) (ns:List Int),vs=[.ref a,.int 0]/\SqL K H a (ns.map V.int)/\∀i,Q (.int i) H
theorem z7a (T:TX (kx w) mg):Fo P w mg base CX0 1 441 y07 ["script","k"] (z3n (kx w)):=by
 refine (z0y w.params).ok z3p (λ d H Q E h=>?_) (λ g A f s H d Q E e h=>?_)
 ·obtain ⟨a,b,rfl,_⟩:=h;rfl
 ·obtain ⟨a,b,rfl,c,q⟩:=h;refine ⟨_,(z03 (ps_if (z0b op_lt (pv 1) (z0a z1c rfl (T.no (n_len _)) D4 (z00 (pv 0) pa_nil)) (nomark _))
   (z04 (ps_ret (pe_ix ix_seq (pv 0) (pv 1) (λ _ _=>rfl))))
   z0d)
   (z04 (ps_ret pe_int))),?_⟩
  refine ⟨_,rfl,_,rfl,.inl ⟨a,_,rfl,.inl c,_,_,rfl,rfl,_,rfl,?_⟩⟩;cases b with
  | nil=>exact iteF (q 0)
  | cons n b=>rw [if_pos (by simp)];exact ⟨_,rfl,_,rfl,.inl ⟨a,_,0,.int n,rfl,rfl,c,z07 (xs:=(n :: b).map V.int) (j:=0) rfl,q n⟩⟩
def DeckAt (H:Hp) (r:Addr) (n:Nat):Prop:=∃a b c:Int,H r=some (.lst [.int a,.int b,.int c])/\0<=b/\b < 2/\0<=c/\c<=n
theorem DeckAt.same {H H':Hp} {r:Addr} {n:Nat} (h:DeckAt H r n) (s:Same H H'):DeckAt H' r n:=by obtain ⟨a,b,c,e,z⟩:=h;exact ⟨a,b,c,s _ _ e,z⟩
theorem DeckAt.fresh {r p:Addr} {H:Hp} {n:Nat} (h:DeckAt H r n) (e:H p=none):p≠r:=λ z=>by obtain ⟨a,b,c,d,_⟩:=h;rw [z,d] at e;cases e
structure Dw (r:Addr) (n:Nat) (H H':Hp):Prop where
 k:Kept r H H'
 r:DeckAt H' r n
theorem Dw.trans {r:Addr} {n m:Nat} {H H1 H2:Hp} (a:Dw r n H H1) (b:Dw r m H1 H2):Dw r m H H2:=⟨a.k.trans b.k,b.r⟩
theorem Dw.same {r:Addr} {n:Nat} {H H1 H2:Hp} (a:Dw r n H H1) (s:Same H1 H2):Dw r n H H2:=⟨a.k.trans s.kept,a.r.same s⟩
theorem DeckAt.dw {r:Addr} {n:Nat} {H:Hp} (h:DeckAt H r n):Dw r n H H:=⟨.refl,h⟩
theorem Dw.free {r:Addr} {n:Nat} {H H':Hp} {p:Addr} (h:Dw r n H H') (e:H' p=none):H p=none:=by
 cases z:H p with
 | none=>rfl
 | some o=>rw [h.k _ _ (h.r.fresh e) z] at e;cases e
def z1e:Sp:=λ vs H Q _=>∃(r:Addr) (m:Int) (n:Nat),vs=[.ref r,.int m]/\DeckAt H r n/\n < 10000/\0 < m/\m < 2 ^ 64/\∀t H',Dw r (n + 1) H H'->0<=t->t < m->Q (.int t) H'
theorem zbn (T:TX (kx w) mg):Fo P w mg base CX0 1 448 y16 ["deck","many"] z1e:=by
 refine (z51 w.params).ok sc__law_take (λ p H Q E h=>?_) (λ v A u s H p Q E z h=>?_)
 ·obtain ⟨r,m,n,rfl,_⟩:=h;rfl
 ·obtain ⟨r,m,n,rfl,⟨a,b,c,e,g,k,o,t⟩,B,f,l,q⟩:=h;refine ⟨_,(z03 (ps_if (z0b opEq (pe_ix ix_seq (pv 0) pe_int (λ _ _=>rfl)) pe_int (nomark _))
   (z03 (ps_set (i:=2) sc__law_take.nd rfl (j1 rfl) (pe_op op_mod (pe_ix ix_seq (pv 0) pe_int (λ _ _=>rfl)) (pv 1)))
   (z03 (ps_asg (pe_op zbk (pe_ix ix_seq (pv 0) pe_int (λ _ _=>rfl)) (pv 1)) (pg_sub (pv 0) pe_int z5a))
   (z04 (ps_ret (pv 2)))))
   z0d)
   (z03 (ps_asg (pe_op opAdd (pe_ix ix_seq (pv 0) pe_int (λ _ _=>rfl)) pe_int) (pg_sub (pv 0) pe_int z5a))
   (z03 (ps_set (i:=3) sc__law_take.nd rfl (j1 rfl) (pe_op op_mod (pe_op opAdd (pe_op op_mul (pe_op op_mod (pe_ix ix_seq (pv 0) pe_int (λ _ _=>rfl)) pe_int) (pe_op opAdd (pe_op op_mul (pe_ix ix_seq (pv 0) pe_int (λ _ _=>rfl)) (pe_ix ix_seq (pv 0) pe_int (λ _ _=>rfl))) pe_int)) (pe_ix ix_seq (pv 0) pe_int (λ _ _=>rfl))) pe_int))
   (z03 (ps_set (i:=3) sc__law_take.nd rfl (j1 rfl) (pe_op op_mod (pe_op op_mul (pv 3) (pv 3)) pe_int))
   (z04 (ps_ret (pe_op op_mod (pe_op zbk (pe_op op_mod (pe_op op_mul (pv 3) pe_int) pe_int) pe_int) (pv 1)))))))),?_⟩
  refine ⟨_,rfl,.inl ⟨r,_,1,.int b,rfl,rfl,SqL.of e,rfl,rfl,_,rfl,?_⟩⟩;refine ite2 (λ _=>?_) λ _=>?_
  ·refine ⟨_,rfl,.inl ⟨r,_,0,.int a,rfl,rfl,SqL.of e,rfl,_,rfl,_,_,rfl,rfl,f,?_⟩⟩;refine ⟨_,rfl,.inl ⟨r,_,0,.int a,rfl,rfl,SqL.of e,rfl,_,rfl,_,_,rfl,rfl,⟨f,l⟩,?_⟩⟩;refine ⟨_,rfl,r,_,0,0,rfl,rfl,e,rfl,?_⟩;exact ⟨_,rfl,q _ _ ⟨.set,_,b,c,z01,g,k,o,by omega⟩ (R4 _ (by omega)) (P4 _ f)⟩
  ·refine ⟨_,rfl,.inl ⟨r,_,2,.int c,rfl,rfl,SqL.of e,rfl,.inl ⟨_,_,rfl,rfl,?_⟩⟩⟩;refine ⟨_,rfl,r,_,2,2,rfl,rfl,e,rfl,?_⟩;have d:upd H r (.lst ([V.int a,.int b,.int c].set 2 (.int (c + 1)))) r=some (.lst [.int a,.int b,.int (c + 1)]):=z01;have j:Kept r H (upd H r (.lst ([V.int a,.int b,.int c].set 2 (.int (c + 1))))):=.set;generalize upd H r (.lst ([V.int a,.int b,.int c].set 2 (.int (c + 1))))=H2 at d j⊢;have D:0<=a % 2147483647:=R4 _ (by decide);have y:a % 2147483647 < 2147483647:=P4 _ (by decide);refine ⟨_,rfl,.inl ⟨r,_,0,.int a,rfl,rfl,SqL.of d,rfl,_,_,rfl,rfl,(show (0:Int) < 2147483647 by decide),?_⟩⟩;refine ⟨_,rfl,.inl ⟨r,_,2,.int (c + 1),rfl,rfl,SqL.of d,rfl,_,rfl,.inl ⟨r,_,2,.int (c + 1),rfl,rfl,SqL.of d,rfl,_,_,rfl,rfl,.inl ⟨by omega,by omega⟩,.inl ⟨_,_,rfl,rfl,?_⟩⟩⟩⟩;refine ⟨_,_,rfl,rfl,.inl ⟨by omega,by omega⟩,_,rfl,.inl ⟨r,_,2,.int (c + 1),rfl,rfl,SqL.of d,rfl,.inl ⟨_,_,rfl,rfl,?_⟩⟩⟩;refine ⟨_,_,rfl,rfl,(show (0:Int) < 2147483629 by decide),?_⟩;generalize hx:(a % 2147483647 * ((c + 1) * (c + 1) + 48271) + (c + 1)) % 2147483629=x;have F:0<=x:=by rw [<-hx];exact R4 _ (by decide)
   have C:x < 2147483629:=by rw [<-hx];exact P4 _ (by decide)
   refine ⟨_,rfl,_,rfl,_,_,rfl,rfl,.inl ⟨by omega,by omega⟩,_,_,rfl,rfl,(show (0:Int) < 2147483587 by decide),?_⟩;refine ⟨_,rfl,_,_,rfl,rfl,.inr (by decide),_,_,rfl,rfl,(show (0:Int) < 2147483563 by decide),_,_,rfl,rfl,⟨by decide,by decide⟩,_,rfl,_,_,rfl,rfl,f,?_⟩;exact q _ _ ⟨j,a,b,c + 1,d,g,k,by omega,by omega⟩ (R4 _ (by omega)) (P4 _ f)
def z5o:Sp:=λ vs H Q _=>∃(r:Addr) (n:Nat),vs=[.ref r]/\DeckAt H r n/\n < 10000/\∀i H',Dw r (n + 1) H H'->near i->Q (.int i) H'
theorem za3 (T:TX (kx w) mg) (c0:Ca P w mg base "_law_take" ["deck","many"] 1 z1e):Fo P w mg base CX0 2 465 y0z ["deck"] z5o:=by
 refine (z43 w.params).ok z9m (λ j H Q E h=>?_) (λ u A p s H j Q E f h=>?_)
 ·obtain ⟨r,n,rfl,_⟩:=h;rfl
 ·obtain ⟨r,n,rfl,R,g,q⟩:=h;refine q_of (z25 (qs_ret (qe_ix ix_seq (qe_lst (z09 (QE.mk pe_int) (z09 (QE.mk pe_int) (z09 (QE.mk pe_int) (z09 (QE.mk pe_int) (z09 (QE.mk pe_int) (z09 (QE.mk pe_int) (z09 (QE.mk (pe_un un_neg pe_int)) (z09 (QE.mk (pe_op op_pow pe_int pe_int)) qa_nil))))))))) (QE.mk (pe_cal c0 (f.mono (by decide)) rfl (z00 (pv 0) (z00 pe_int pa_nil)))) (λ _ _=>rfl)))) ?_;refine ⟨_,rfl,_,_,rfl,rfl,p9,w_8,λ l a=>?_⟩;simp only [e9];refine ⟨_,rfl,r,8,n,rfl,R.same (Same.upd a),g,by decide,by decide,λ t x c d i=>?_⟩;obtain ⟨v,e,b⟩:=atI_of (xs:=[V.int 0,.int 1,.int 2,.int 3,.int 1,.int 2,.int (-1),.int 1000000000]) d i;refine .inl ⟨l,_,t,v,rfl,rfl,SqL.of (c.k _ _ (R.fresh a) z01),e,?_⟩;have m:=(R.dw.same (Same.upd (o:=.lst [V.int 0,.int 1,.int 2,.int 3,.int 1,.int 2,.int (-1),.int 1000000000]) a)).trans c;simp only [P1,C0,or_false] at b;rcases b with rfl|rfl|rfl|rfl|rfl|rfl|rfl|rfl<;>exact q _ _ m ⟨by decide,by decide⟩
def z6t (K:d0):Sp:=λ vs H Q _=>∃(r:Addr) (k:Str) (n:Nat),vs=[.ref r,.str k]/\DeckAt H r n/\n < 9000/\k∈kinds5/\∀p v x d H' m,Dw r m H H'->m<=n + 3->H' p=some (.tup [.str v,x])->H p=none->DeedOk k v d->IsDt K H' d x->WorthIn H' d x->Q (.ref p) H'
theorem zao (T:TX (kx w) mg) (c0:Ca P w mg base "_law_take" ["deck","many"] 1 z1e) (c1:Ca P w mg base "_law_worth" ["deck"] 2 z5o):Fo P w mg base CX0 3 472 y17 ["deck","kind"] (z6t (kx w)):=by
 refine (z5e w.params).ok sc__law_verb (λ vs H Q E h=>?_) (λ b9 A b8 s H vs Q E g h=>?_)
 ·obtain ⟨r,k,n,rfl,_⟩:=h;rfl
 ·obtain ⟨r,k,n,rfl,R,hn,hk,q⟩:=h;refine q_of (z0i (qs_set (i:=2) sc__law_verb.nd rfl (j1 rfl) (zl4 (zbm (QE.mk pe_str) (qe_lst (z09 (QE.mk pe_str) (z09 (QE.mk pe_str) qa_nil))) (zbm (QE.mk pe_str) (qe_lst (z09 (QE.mk pe_str) (z09 (QE.mk pe_str) qa_nil))) (zbm (QE.mk pe_str) (qe_lst (z09 (QE.mk pe_str) (z09 (QE.mk pe_str) qa_nil))) zkw))) rfl rfl (by simp) (by decide)))
   (z0i (ze8 (hu_of g) (QE.mk (pv 2)) (QE.mk pe_str) (qe_lst (z09 (QE.mk pe_str) (z09 (QE.mk pe_str) (z09 (QE.mk pe_str) qa_nil)))) rfl)
   (z0i (ze8 (hu_of g) (QE.mk (pv 2)) (QE.mk pe_str) (qe_lst (z09 (QE.mk pe_str) (z09 (QE.mk pe_str) (z09 (QE.mk pe_str) (z09 (QE.mk pe_str) qa_nil))))) rfl)
   (z0i (QS.mk (ps_set (i:=3) sc__law_verb.nd rfl (j1 rfl) (pe_ix ix_seq (z6o (hu_of g) (pv 2) (pv 1) (λ _ _=>rfl)) (pe_cal c0 (g.mono (by decide)) rfl (z00 (pv 0) (z00 (z0a z1c rfl (T.no (n_len _)) D4 (z00 (z6o (hu_of g) (pv 2) (pv 1) (λ _ _=>rfl)) pa_nil)) pa_nil))) (λ _ _=>rfl))))
   (z0i (QS.mk (ps_if (z0b opEq (pv 3) pe_str (nomark _))
   (z04 (ps_ret (pe_tup (z00 (pv 3) (z00 (pe_tup (z00 (pe_cal c1 (g.mono (by decide)) rfl (z00 (pv 0) pa_nil)) (z00 (pe_cal c1 (g.mono (by decide)) rfl (z00 (pv 0) pa_nil)) pa_nil))) pa_nil)))))
   z0d))
   (z0i (QS.mk (ps_if (z0b z1p (pv 3) (pe_lst (z00 pe_str (z00 pe_str pa_nil))) (by with_unfolding_all rfl))
   (z04 (ps_ret (pe_tup (z00 (pv 3) (z00 pe_non pa_nil)))))
   z0d))
   (z25 (QS.mk (ps_ret (pe_tup (z00 (pv 3) (z00 (pe_cal c1 (g.mono (by decide)) rfl (z00 (pv 0) pa_nil)) pa_nil)))))))))))) ?_
  refine z0l ?_;intro p hp;refine ⟨w_2,λ O h1=>⟨w_2,λ K S=>⟨w_2,λ W h3=>?_⟩⟩⟩;obtain ⟨ep,H2,b4,s2,e2,f2⟩:=words3 (H:=H) (k1:="register") (k2:="counter") (k3:="queue") (w1:=["write","read"]) (w2:=["add","read"]) (w3:=["put","take"]) hp h1 S h3 (by decide +kernel) (by decide +kernel) (by decide +kernel);refine ⟨ep,[(.inr "register",.ref O),(.inr "counter",.ref K),(.inr "queue",.ref W)],rfl,(show (3:Nat)<=15 by decide),?_⟩;rw [show mergeK [] [((.inr "register" : Key),V.ref O),(.inr "counter",.ref K),(.inr "queue",.ref W)]=[(.inr "register",.ref O),(.inr "counter",.ref K),(.inr "queue",.ref W)] from rfl];refine g_name ?_;refine (show∀A,H2=A->tSeq _ _ _ _ A from ?_) _ b4;intro A I;subst I;refine ⟨w_3,λ l4 h4=>⟨_,rfl,p,_,rfl,DPut.k (k:=.inr "set") ((Same.upd h4) _ _ e2) (show (3:Nat) < sizeLine by decide),?_⟩⟩;obtain ⟨H4,a6,W4,k4⟩:=WordsAt.put (k:="set") (ws:=["put","cut","has"]) h4 e2 (n:=3) (B0 _) f2;refine (show∀A,H4=A->tSeq _ _ _ _ A from ?_) _ a6;intro A I;subst I;obtain ⟨b6,e4,n4,f4⟩:=W4.ex;refine ⟨w_4,λ l5 h5=>⟨_,rfl,p,_,rfl,DPut.k (k:=.inr "cell") ((Same.upd h5) _ _ e4) (Q1 n4 (by decide)),?_⟩⟩;obtain ⟨M,a7,W5,k5⟩:=WordsAt.put (k:="cell") (ws:=["read","write","swap","swap"]) h5 e4 n4 f4;refine (show∀A,M=A->tSeq _ _ _ _ A from ?_) _ a7;intro A I;subst I;have s5:Same H M:=zb4 (L:=[p]) ((s2.keptL.trans k4).trans k5) (λ l hl=>by rw [List.mem_singleton.mp hl];exact hp);obtain ⟨b5,e5,_,f5⟩:=W5.ex;have w5:=R.dw.same s5;have fk:(if k = "cell" then some ["read","write","swap","swap"] else if k = "set" then some ["put","cut","has"] else if k = "register" then some ["write","read"] else if k = "counter" then some ["add","read"] else if k = "queue" then some ["put","take"] else none:Option (List Str))=some (verbsT k):=by have B:=hk;unfold kinds5 at B;simp only [P1,C0,or_false] at B;rcases B with rfl|rfl|rfl|rfl|rfl<;>decide +kernel
  obtain ⟨C,v6,F⟩:=f5 k _ fk;have dg:DGet M p (.str k) (some (.ref C)):=by have:=DGet.k (k:=.inr k) e5;rw [v6] at this;exact this
  refine ⟨_,rfl,_,rfl,p,.ref C,rfl,dg,_,rfl,_,rfl,_,rfl,p,.ref C,rfl,dg,.inl ⟨C,_,rfl,.inl (SqL.of F),?_⟩⟩;have a2:0 < (verbsT k).length/\(verbsT k).length<=4:=by have B:=hk;unfold kinds5 at B;simp only [P1,C0,or_false] at B;rcases B with rfl|rfl|rfl|rfl|rfl<;>decide +kernel
  refine ⟨r,_,n,rfl,w5.r,by omega,by rw [K0];omega,by rw [K0];omega,λ t7 H7 w7 a5 a8=>?_⟩;obtain ⟨v0,b2,b0⟩:=atI_of (xs:=(verbsT k).map V.str) a5 a8;obtain ⟨v,hv,rfl⟩:=List.mem_map.mp b0;have n6:C≠r:=λ z=>by
   obtain ⟨a,b,c,er,_⟩:=w5.r;rw [z,er] at F;cases hws:verbsT k with
   | nil=>rw [hws] at a2;exact absurd a2.1 (by decide)
   | cons y ys=>rw [hws] at F;cases F
  refine .inl ⟨C,_,t7,_,rfl,rfl,SqL.of (w7.k _ _ n6 F),b2,?_⟩;have b1:=w5.trans w7;have fr :∀{m:Nat} {H':Hp} {p':Addr},Dw r m H H'->H' p'=none->H p'=none:=λ hw e=>hw.free e;have J:Dw r (n + 1) H H7:=b1;have X :∀(d:Dt) (x:V) (u:Hp) (m:Nat),Dw r m H u->m<=n + 3->DeedOk k v d->IsDt (kx w) u d x->WorthIn u d x->∀p9,u p9=none->Q (.ref p9) (upd u p9 (.tup [.str v,x])):=λ d x u m f b3 dk ix wi p9 D=>q p9 v x d _ m (f.same (Same.upd D)) b3 z01 (f.free D) dk (ix.same (Same.upd D)) (λ a b e=>(wi a b e).elim λ t z=>⟨t,z.1,(Same.upd D) _ _ z.2⟩);rcases zk9 hk hv with ⟨a3,G⟩|⟨hsw,G⟩|⟨h1,S,h3,G⟩
  ·refine ⟨_,rfl,rfl,_,rfl,iteN (by rcases a3 with rfl|rfl<;>decide +kernel) ?_⟩;refine ⟨_,rfl,w_2,λ Z a0=>⟨Z,[V.str "read",.str "take"],rfl,.inl (SqL.of z01),rfl,rfl,_,rfl,iteP (by rcases a3 with rfl|rfl<;>decide +kernel) ?_⟩⟩;exact ⟨_,rfl,w_2,λ p9 D=>X .non .non _ _ (J.same (Same.upd a0)) (by omega) G rfl (λ _ _ e=>by cases e) p9 D⟩
  ·subst hsw;refine ⟨_,rfl,rfl,_,rfl,iteP (decide_eq_true rfl) ?_⟩;refine ⟨_,rfl,_,rfl,r,_,rfl,J.r,by omega,λ i u f U=>⟨_,rfl,r,_,rfl,f.r,by omega,λ j b7 a1 nj=>⟨w_2,λ a4 a9=>⟨w_2,λ N Y=>?_⟩⟩⟩⟩;exact X (.tup [.int i,.int j]) (.ref a4) _ _ (((J.trans f).trans a1).same (Same.upd a9)) (by omega) (G i j U nj) (.mkT z01 (.mk2 rfl rfl)) (λ a b e=>by cases e;exact ⟨a4,rfl,z01⟩) N Y
  ·refine ⟨_,rfl,rfl,_,rfl,iteN (by rw [decide_eq_false λ e=>h3 (by injection e)];decide) ?_⟩;refine ⟨_,rfl,w_2,λ Z a0=>⟨Z,[V.str "read",.str "take"],rfl,.inl (SqL.of z01),rfl,rfl,_,rfl,?_⟩⟩;have iv:inV (.str v) [.str "read",.str "take"]=decide (v∈(["read","take"]:List Str)):=zkt v ["read","take"];rw [if_neg O0,iv];refine iteN (λ z=>?_) ?_
   ·have:=of_decide_eq_true z;simp only [P1,C0,or_false] at this;rcases this with z|z
    ·exact h1 z
    ·exact S z
   ·have f:=J.same (Same.upd (o:=.lst [V.str "read",.str "take"]) a0);exact ⟨_,rfl,_,rfl,r,_,rfl,f.r,by omega,λ i u a1 U=>⟨w_2,λ N Y=>X (.int i) (.int i) _ _ (f.trans a1) (by omega) (G i U) rfl (λ _ _ e=>by cases e) N Y⟩⟩
theorem zae {K:d0} {H:Hp} :∀ns:List Int,IsPds K H (ns.map PyData.int) (ns.map V.int)
 | []=>rfl
 | n :: ns=>⟨.int n,ns.map V.int,rfl,rfl,zae ns⟩
theorem z9n :∀ns:List Int,z13 (ns.map PyData.int)=true
 | []=>rfl
 | n :: ns=>by show (true && z13 (ns.map PyData.int))=true;rw [z9n ns];rfl
theorem z8w :∀ns:List Int,R1 (ns.map PyData.int)<=1
 | []=>by decide
 | n :: ns=>by have:=z8w ns;show max (j21 (.int n)) (R1 (ns.map PyData.int))<=1;exact Nat.max_le.mpr ⟨(show (0:Nat)<=1 by decide),this⟩
def AnsI (a:V):Prop:=(∃i,a=.int i)\/a=.str "ok"\/a=.str "none"
def z9b (K:d0):Sp:=λ vs H Q _=>∃(k v:Str) (st x:V) (d:Dt) (n:Nat),vs=[.str k,st,.str v,x]/\SuAt K H n k st/\n < 63/\DeedOk k v d/\IsDt K H d x/\WorthIn H d x/\∀p st' a H',Same H H'->H' p=some (.tup [st',a])->SuAt K H' (n + 1) k st'->AnsI a->Q (.ref p) H'
theorem zeu (T:TX (kx w) mg):Fo P w mg base CX0 1 453 y1p ["kind","state","verb","worth"] (z9b (kx w)):=by
 refine (z7y w.params).ok sc__law_do (λ vs H Q E h=>?_) (λ b3 A b2 s H vs Q E hr h=>?_)
 ·obtain ⟨k,v,st,x,d,n,rfl,_⟩:=h;rfl
 ·obtain ⟨k,v,st,x,d,n,rfl,F,hn,hd,J,wi,q⟩:=h;refine ⟨_,(z03 (ps_if (z0b opEq (pv 2) pe_str (nomark _))
   (z04 (ps_ret (pe_tup (z00 (pv 1) (z00 (pv 1) pa_nil)))))
   z0d)
   (z03 (ps_if (z0b opEq (pv 2) pe_str (nomark _))
   (z04 (ps_ret (pe_tup (z00 (pv 3) (z00 pe_str pa_nil)))))
   z0d)
   (z03 (ps_if (z0b opEq (pv 2) pe_str (nomark _))
   (z04 (ps_ret (pe_tup (z00 (pe_op opAdd (pv 1) (pv 3)) (z00 (pv 1) pa_nil)))))
   z0d)
   (z03 (ps_if (z0b opEq (pv 2) pe_str (nomark _))
   (z04 (ps_ret (pe_ix ix_seq (pe_lst (z00 (pe_tup (z00 (pv 1) (z00 pe_int pa_nil))) (z00 (pe_tup (z00 (pe_ix ix_seq (pv 3) pe_int (λ _ _=>rfl)) (z00 pe_int pa_nil))) pa_nil))) (z0t zb8 rfl (T.no (n_int _)) boot_int (z00 (z3a opEq (pv 1) (pe_ix ix_seq (pv 3) pe_int (λ _ _=>rfl)) (nomark _)) pa_nil)) (λ _ _=>rfl))))
   z0d)
   (z03 (ps_if (z0b opEq (pv 2) pe_str (nomark _))
   (z03 (ps_if (z0b (op_eqP hr) (pv 1) (pe_tup pa_nil) (nomark _))
   (z04 (ps_ret (pe_tup (z00 (pv 1) (z00 pe_str pa_nil)))))
   z0d)
   (z04 (ps_ret (pe_tup (z00 (z1g slSeq (pv 1) (z1u pe_int) z2r) (z00 (pe_ix ix_seq (pv 1) pe_int (λ _ _=>rfl)) pa_nil))))))
   z0d)
   (z03 (ps_if (z0b opEq (pv 0) pe_str (nomark _))
   (z04 (ps_ret (pe_tup (z00 (pe_op zck (pv 1) (pe_tup (z00 (pv 3) pa_nil))) (z00 pe_str pa_nil)))))
   z0d)
   (z03 (ps_set (i:=4) sc__law_do.nd rfl (j1 rfl) (z3a z1p (pv 3) (pv 1) (by with_unfolding_all rfl)))
   (z03 (ps_if (PW.pt (pw_and (z0b opEq (pv 2) pe_str (nomark _)) (zdv (pt_not (pt_val (pv 4) (λ _=>rfl))))))
   (z04 (ps_ret (pe_tup (z00 (z0t z0k rfl (T.no (z34 _)) V4 (z00 (z0a z2g rfl (T.no (z3z _)) P6 (z00 (pe_op zck (pv 1) (pe_tup (z00 (pv 3) pa_nil))) pa_nil)) pa_nil)) (z00 pe_int pa_nil)))))
   z0d)
   (z03 (ps_if (z0b opEq (pv 2) pe_str (nomark _))
   (z04 (ps_ret (pe_tup (z00 (pv 1) (z00 pe_int pa_nil)))))
   z0d)
   (z03 (ps_if (z0b opEq (pv 2) pe_str (nomark _))
   (z04 (ps_ret (pe_tup (z00 (z0t z0k rfl (T.no (z34 _)) V4 (z00 (pe_cg (xs:=["one"]) (g:=gName 0) (fr:=[(3,"worth")]) (pi_tup (pv 1)) (λ _ _ _ _ _=>(pg_cn (N:=["one","worth"]) 0)) (λ _ _ _ _ _=>(pf_one (z0b opNe (pv 0) (pv 1) (nomark _)))) (λ _ _ _ _ _=>(pv 0))) pa_nil)) (z00 (z0t zb8 rfl (T.no (n_int _)) boot_int (z00 (pv 4) pa_nil)) pa_nil)))))
   z0d)
   (z04 (ps_ret (pe_tup (z00 (pv 1) (z00 (z0t zb8 rfl (T.no (n_int _)) boot_int (z00 (pv 4) pa_nil)) pa_nil))))))))))))))),?_⟩
  have big :∀{ns:List Int},ns.length<=n->(ns.map V.int).length + 1<=sizeLine:=λ l=>by rw [K0];exact D0 (m:=64) (by omega) (by decide)
  have a3 :∀(ns:List Int) (i:Int),ns.map V.int++[V.int i]=(ns++[i]).map V.int:=λ ns i=>by rw [B2];rfl
  have O:rowK "queue":=.inl rfl;have I:rowK "set":=.inr rfl;have D :∀i,AnsI (.int i):=λ i=>.inl ⟨i,rfl⟩;have as:AnsI (.str "ok"):=.inr (.inl rfl);have a9:AnsI (.str "none"):=.inr (.inr rfl);cases hd with
  | regR=>
   have c:¬ rowK "register":=by decide +kernel
   obtain ⟨a,rfl⟩:=F.isNum c;refine ⟨_,rfl,rfl,_,rfl,iteP (decide_eq_true rfl) ?_⟩;exact ⟨_,rfl,_,rfl,w_2,λ p b=>q p _ _ _ (Same.upd b) z01 (.num c) (D _)⟩
  | cntR=>
   have c:¬ rowK "counter":=by decide +kernel
   obtain ⟨a,rfl⟩:=F.isNum c;refine ⟨_,rfl,rfl,_,rfl,iteP (decide_eq_true rfl) ?_⟩;exact ⟨_,rfl,_,rfl,w_2,λ p b=>q p _ _ _ (Same.upd b) z01 (.num c) (D _)⟩
  | celR=>
   have c:¬ rowK "cell":=by decide +kernel
   obtain ⟨a,rfl⟩:=F.isNum c;refine ⟨_,rfl,rfl,_,rfl,iteP (decide_eq_true rfl) ?_⟩;exact ⟨_,rfl,_,rfl,w_2,λ p b=>q p _ _ _ (Same.upd b) z01 (.num c) (D _)⟩
  | regW ni=>
   rename_i i;have c:¬ rowK "register":=by decide +kernel
   cases (show x=V.int i from J);refine ⟨_,rfl,rfl,_,rfl,iteK ⟨_,rfl,rfl,_,rfl,iteP (decide_eq_true rfl) ?_⟩⟩;exact ⟨_,rfl,w_2,λ p b=>q p _ _ _ (Same.upd b) z01 (.num c) as⟩
  | celW ni=>
   rename_i i;have c:¬ rowK "cell":=by decide +kernel
   cases (show x=V.int i from J);refine ⟨_,rfl,rfl,_,rfl,iteK ⟨_,rfl,rfl,_,rfl,iteP (decide_eq_true rfl) ?_⟩⟩;exact ⟨_,rfl,w_2,λ p b=>q p _ _ _ (Same.upd b) z01 (.num c) as⟩
  | cntA ni=>
   rename_i i;have c:¬ rowK "counter":=by decide +kernel
   obtain ⟨a,rfl⟩:=F.isNum c;cases (show x=V.int i from J);refine ⟨_,rfl,rfl,_,rfl,iteK ⟨_,rfl,rfl,_,rfl,iteK ⟨_,rfl,rfl,_,rfl,iteP (decide_eq_true rfl) ?_⟩⟩⟩;exact ⟨_,rfl,_,rfl,.inl ⟨a,i,rfl,rfl,_,rfl,w_2,λ p b=>q p _ _ _ (Same.upd b) z01 (.num c) (D _)⟩⟩
  | celS ni nj=>
   rename_i i j;have c:¬ rowK "cell":=by decide +kernel
   obtain ⟨a,rfl⟩:=F.isNum c;obtain ⟨t,rfl,et⟩:=wi i j rfl;refine ⟨_,rfl,rfl,_,rfl,iteK ⟨_,rfl,rfl,_,rfl,iteK ⟨_,rfl,rfl,_,rfl,iteK ⟨_,rfl,rfl,_,rfl,iteP (decide_eq_true rfl) ?_⟩⟩⟩⟩;refine ⟨_,rfl,w_2,λ f M=>?_⟩;obtain ⟨H1,v_,C,Y⟩:=newA (.tup [.int a,.int 0]) M;rw [<-v_];refine ⟨_,rfl,.inr (.inl ⟨t,_,1,.int j,rfl,rfl,SqT.of (C _ _ et),z07 (j:=1) rfl,w_2,λ B a8=>?_⟩)⟩;have L:=Same.upd (o:=.tup [.int j,.int 1]) a8;have e2:upd H1 B (.tup [.int j,.int 1]) B=some (.tup [.int j,.int 1]):=z01;have a7:=L _ _ Y;generalize upd H1 B (.tup [.int j,.int 1])=X at L e2 a7⊢;refine ⟨w_2,λ l hl=>?_⟩;have G:=Same.upd (o:=.lst [.ref f,.ref B]) hl;have Z:upd X l (.lst [.ref f,.ref B]) l=some (.lst [.ref f,.ref B]):=z01;have a4:=G _ _ a7;have a2:=G _ _ e2;generalize upd X l (.lst [.ref f,.ref B])=H3 at G Z a4 a2⊢;have sx:=(C.trans L).trans G;refine ⟨_,rfl,_,rfl,.inr (.inl ⟨t,_,0,.int i,rfl,rfl,SqT.of (sx _ _ et),z07 (j:=0) rfl,rfl,.inl (.inr ⟨_,rfl,?_⟩)⟩)⟩;by_cases z:decide (V.int a=V.int i)=true
   ·exact .inl ⟨l,_,_,.ref B,rfl,rfl,SqL.of Z,by rw [if_pos z];rfl,q B _ _ _ sx a2 (.num c) (D _)⟩
   ·exact .inl ⟨l,_,_,.ref f,rfl,rfl,SqL.of Z,by rw [if_neg z];rfl,q f _ _ _ sx a4 (.num c) (D _)⟩
  | quT=>
   obtain ⟨t,ns,rfl,e,u⟩:=F.isRow O;refine ⟨_,rfl,rfl,_,rfl,iteK ⟨_,rfl,rfl,_,rfl,iteK ⟨_,rfl,rfl,_,rfl,iteK ⟨_,rfl,rfl,_,rfl,iteK ⟨_,rfl,rfl,_,rfl,iteP (decide_eq_true rfl) ?_⟩⟩⟩⟩⟩;refine ⟨_,rfl,w_0,λ p0 b1=>?_⟩;have U:=Same.upd (o:=.tup []) b1;refine ⟨.tuple (ns.map PyData.int),.tuple [],⟨t,_,rfl,U.seqT e,zae ns⟩,⟨p0,[],rfl,SqT.of z01,rfl⟩,z9n ns,rfl,D0 (Nat.add_le_add_right (z8w ns) 1) (by decide),_,rfl,?_⟩;generalize upd H p0 (.tup [])=H0 at U⊢;have a1:=U.seqT e;cases ns with
   | nil=>exact iteP rfl ⟨_,rfl,w_2,λ p b=>q p _ _ _ (U.trans (Same.upd b)) z01 (.mk (ns:=[]) O ((Same.upd b).seqT a1) (U1 _)) a9⟩
   | cons m r=>
    refine iteN O0 ?_;refine ⟨_,rfl,_,rfl,.inr (.inl ⟨t,_,rfl,a1,?_,λ f M=>?_⟩)⟩
    ·intro z;have:HT.sIx ((m :: r).map V.int).length 0 (some 1)=1:=by rw [K0,U0];simp [HT.sIx]
     omega
    ·have ec:cutV ((m :: r).map V.int) (some 1) none=r.map V.int:=by unfold cutV;simp [HT.sIx];exact b8 (by rw [K0];exact B0 _)
     have C:=Same.upd (o:=.tup (cutV ((m :: r).map V.int) (some 1) none)) M;have Y:upd H0 f (.tup (cutV ((m :: r).map V.int) (some 1) none)) f=some (.tup (r.map V.int)):=by rw [z01,ec]
     generalize upd H0 f (.tup (cutV ((m :: r).map V.int) (some 1) none))=H1 at C Y⊢;refine ⟨_,rfl,.inr (.inl ⟨t,_,0,.int m,rfl,rfl,C.seqT a1,z07 (j:=0) rfl,w_2,λ p b=>?_⟩)⟩;exact q p _ _ _ ((U.trans C).trans (Same.upd b)) z01 (.mk (ns:=r) O ((Same.upd b).seqT (SqT.of Y)) (by rw [U0] at u;omega)) (D _)
  | quP ni=>rename_i i;obtain ⟨t,ns,rfl,e,u⟩:=F.isRow O;cases (show x=V.int i from J);refine ⟨_,rfl,rfl,_,rfl,iteK ⟨_,rfl,rfl,_,rfl,iteK ⟨_,rfl,rfl,_,rfl,iteK ⟨_,rfl,rfl,_,rfl,iteK ⟨_,rfl,rfl,_,rfl,iteK ⟨_,rfl,rfl,_,rfl,iteP (decide_eq_true rfl) ?_⟩⟩⟩⟩⟩⟩;refine ⟨_,rfl,_,rfl,w_1,λ f M=>?_⟩;have C:=Same.upd (o:=.tup [.int i]) M;refine ⟨t,f,ns.map V.int,[.int i],rfl,rfl,C.seqT e,SqT.of z01,big u,λ B X L S=>?_⟩;rw [a3] at S;exact ⟨w_2,λ p3 a6=>q p3 _ _ _ ((C.trans L).trans (Same.upd a6)) z01 (.mk O ((Same.upd a6).seqT S) (by rw [M0];exact J4 u)) as⟩
  | setP ni=>
   rename_i i;obtain ⟨t,ns,rfl,e,u⟩:=F.isRow I;cases (show x=V.int i from J);refine ⟨_,rfl,rfl,_,rfl,iteK ⟨_,rfl,rfl,_,rfl,iteK ⟨_,rfl,rfl,_,rfl,iteK ⟨_,rfl,rfl,_,rfl,iteK ⟨_,rfl,rfl,_,rfl,iteK ⟨_,rfl,rfl,_,rfl,iteK ?_⟩⟩⟩⟩⟩⟩;refine ⟨_,rfl,_,rfl,t,_,rfl,.inr e,rfl,z3f ns,?_⟩;rw [if_neg O0,z57];refine ⟨_,rfl,rfl,_,rfl,iteP (decide_eq_true rfl) ⟨_,rfl,_,rfl,?_⟩⟩;by_cases hi:i∈ns
   ·rw [decide_eq_true hi];refine iteN (by decide) ⟨_,rfl,rfl,_,rfl,iteP (decide_eq_true rfl) ?_⟩;exact ⟨_,rfl,w_2,λ p b=>q p _ _ _ (Same.upd b) z01 (.mk I ((Same.upd b).seqT e) (L3 u)) (D _)⟩
   ·rw [decide_eq_false hi];refine iteP rfl ?_;refine ⟨_,rfl,_,rfl,w_1,λ f M=>?_⟩;have C:=Same.upd (o:=.tup [.int i]) M;refine ⟨t,f,ns.map V.int,[.int i],rfl,rfl,C.seqT e,SqT.of z01,big u,λ B X L S=>?_⟩;rw [a3] at S;refine ⟨B,ns++[i],rfl,.inr S,by rw [M0];exact (show ns.length + 1 < 64 by omega),λ l a5 hl pm pw=>?_⟩;have G:=Same.upd (o:=.lst (a5.map V.int)) hl;refine ⟨l,_,rfl,.inl ⟨SqL.of z01,λ p4 a0=>⟨w_2,λ p5 W=>?_⟩⟩⟩;exact q p5 _ _ _ ((((C.trans L).trans G).trans (Same.upd a0)).trans (Same.upd W)) z01 (.mk (ns:=a5) I (SqT.of ((Same.upd W) _ _ z01)) (by rw [pm.length_eq,M0];exact J4 u)) (D _)
  | setC ni=>
   rename_i i;obtain ⟨t,ns,rfl,e,u⟩:=F.isRow I;cases (show x=V.int i from J);refine ⟨_,rfl,rfl,_,rfl,iteK ⟨_,rfl,rfl,_,rfl,iteK ⟨_,rfl,rfl,_,rfl,iteK ⟨_,rfl,rfl,_,rfl,iteK ⟨_,rfl,rfl,_,rfl,iteK ⟨_,rfl,rfl,_,rfl,iteK ?_⟩⟩⟩⟩⟩⟩;refine ⟨_,rfl,_,rfl,t,_,rfl,.inr e,rfl,z3f ns,?_⟩;rw [if_neg O0,z57];refine ⟨_,rfl,rfl,_,rfl,iteK ?_⟩;refine iteN O0 ⟨_,rfl,rfl,_,rfl,iteK ⟨_,rfl,rfl,_,rfl,iteP (decide_eq_true rfl) ?_⟩⟩;have zl:(ns.map V.int).length<=sizeLine:=D0 (M3 _) (big u);simp only [tRet,tTup,tCB,tCons,tNil];refine z3i (K:=KX w.params) (a:=t) (xs:=ns.map V.int) (H1:=H) (λ j=>(ns[j]?.map λ n=>!decide (n=i)).getD false) (λ j y _=>ns[j]?.map V.int=some y) (λ _ _ _ _ _ z=>z) (λ R h=>⟨_,rfl,h⟩) e zl (λ j hj v H' s' hv KT KF k1 k2=>?_) λ l H' ys s' b0 al=>?_
   ·rw [X0] at hv;obtain ⟨n,hn,rfl⟩:=Option.map_eq_some_iff.mp hv;rw [hn] at k1 k2;refine ⟨[some (.int n)],rfl,rfl,_,rfl,_,rfl,rfl,_,rfl,?_⟩;rw [dec_i0];exact ite2 (λ z=>⟨_,rfl,k1 z _ _ (Same.refl _) rfl⟩) λ z=>k2 (Bool.eq_false_iff.mpr z) _ (Same.refl _)
   ·rw [K0] at al;rw [zcb ns ys al];have G:=Same.upd (o:=.lst ((ns.filter λ j=>!decide (j=i)).map V.int)) b0;refine ⟨l,_,rfl,.inl ⟨SqL.of z01,λ p4 a0=>⟨_,rfl,.inl (.inr ⟨_,rfl,w_2,λ p5 W=>?_⟩)⟩⟩⟩;exact q p5 _ _ _ (((s'.trans G).trans (Same.upd a0)).trans (Same.upd W)) z01 (.mk (ns:=ns.filter λ j=>!decide (j=i)) I (SqT.of ((Same.upd W) _ _ z01)) (D0 (A2 _ _) (L3 u))) (D _)
  | setH ni=>rename_i i;obtain ⟨t,ns,rfl,e,u⟩:=F.isRow I;cases (show x=V.int i from J);refine ⟨_,rfl,rfl,_,rfl,iteK ⟨_,rfl,rfl,_,rfl,iteK ⟨_,rfl,rfl,_,rfl,iteK ⟨_,rfl,rfl,_,rfl,iteK ⟨_,rfl,rfl,_,rfl,iteK ⟨_,rfl,rfl,_,rfl,iteK ?_⟩⟩⟩⟩⟩⟩;refine ⟨_,rfl,_,rfl,t,_,rfl,.inr e,rfl,z3f ns,?_⟩;rw [if_neg O0,z57];refine ⟨_,rfl,rfl,_,rfl,iteK ?_⟩;refine iteN O0 ⟨_,rfl,rfl,_,rfl,iteK ⟨_,rfl,rfl,_,rfl,iteK ?_⟩⟩;exact ⟨_,rfl,_,rfl,.inl (.inr ⟨_,rfl,w_2,λ p b=>q p _ _ _ (Same.upd b) z01 (.mk I ((Same.upd b).seqT e) (L3 u)) (D _)⟩)⟩
def StsT (K:d0) (H:Hp) (p:Addr) (ts:List (Str×Str)) (n:Nat):Prop:=∃vs,SqT K H p vs/\All2 (λ (t:Str×Str) y=>SuAt K H n t.2 y) ts vs
theorem StsT.tups {K:d0} {H H':Hp} {p:Addr} {ts:List (Str×Str)} {n:Nat} (t:Tups K H H') (h:StsT K H p ts n):StsT K H' p ts n:=h.elim λ a z=>⟨a,t _ _ z.1,z02 (λ _ _ y=>y.tups t) z.2⟩
theorem StsT.le {K:d0} {H:Hp} {p:Addr} {ts:List (Str×Str)} {n m:Nat} (l:n<=m) (h:StsT K H p ts n):StsT K H p ts m:=h.elim λ a z=>⟨a,z.1,z02 (λ _ _ y=>y.le l) z.2⟩
def ZrAt (H:Hp) (k:Str) (v:V):Prop:=(rowK k/\∃a,v=.ref a/\H a=some (.tup []))\/(¬ rowK k/\v=.int 0)
theorem ZrAt.same {H H':Hp} {k:Str} {v:V} (s:Same H H') (h:ZrAt H k v):ZrAt H' k v:=h.imp (λ z=>⟨z.1,z.2.elim λ a y=>⟨a,y.1,s _ _ y.2⟩⟩) id
def ZrT (H:Hp) (p:Addr) (ts:List (Str×Str)):Prop:=∃vs,H p=some (.tup vs)/\All2 (λ (t:Str×Str) y=>ZrAt H t.2 y) ts vs
theorem ZrT.sts {K:d0} {H:Hp} {p:Addr} {ts:List (Str×Str)} (h:ZrT H p ts):StsT K H p ts 0:=h.elim λ c z=>⟨c,SqT.of z.1,z02 (λ t y z=>by
 rcases z with ⟨b,a,rfl,d⟩|⟨b,rfl⟩
 ·exact .mk (ns:=[]) b (SqT.of d) (B0 _)
 ·exact .num b) z.2⟩
theorem z9k {H:Hp} :∀{ts:List (Str×Str)} {ys zs:List V},All2 (λ (t:Str×Str) y=>∃b,y=.ref b/\H b=some (.tup [.str t.1,.str t.2])) ts ys->All2 (λ x y=>∃(n k:Str) (b:Addr),x=.ref b/\H b=some (.tup [.str n,.str k])/\ZrAt H k y) ys zs->All2 (λ (t:Str×Str) y=>ZrAt H t.2 y) ts zs
 | [],_,_,.nil,.nil=>.nil
 | t :: ts,_,_,.cons a r,.cons a' r'=>by
  refine .cons ?_ (z9k r r');obtain ⟨b,rfl,e⟩:=a;obtain ⟨n,k,i,f,c,g⟩:=a';cases f;rw [e] at c;injection c with c;injection c with c;have d:t.2=k:=by injection c with _ h;injection h with h _;injection h
  rw [d];exact g
def z5g (K:d0):Sp:=λ vs H Q _=>∃(pt:Addr) (ts:List (Str×Str)),vs=[.ref pt]/\ThAt H pt ts/\ts.length<=6/\∀p H',Same H H'->ZrT H' p ts->Q (.ref p) H'
theorem zac (T:TX (kx w) mg):Fo P w mg base CX0 1 458 y0y ["things"] (z5g (kx w)):=by
 refine (z42 w.params).ok z91 (λ vs H Q E h=>?_) (λ a9 A a8 s H vs Q E hr h=>?_)
 ·obtain ⟨pt,I,rfl,_⟩:=h;rfl
 ·obtain ⟨pt,I,rfl,⟨U,a2,B⟩,a6,q⟩:=h;refine ⟨_,(z04 (ps_ret (z0t z0k rfl (T.no (z34 _)) V4 (z00 (pe_cg (xs:=["name","kind"]) (g:=gTup (kx w) 2 (gCons (gName 0) (gCons (gName 1) gNil))) (fr:=[]) (pi_tup (pv 0)) (λ _ _ _ _ _=>(pg_tup rfl (z0h (pg_cn (N:=["name","kind"]) 0) (z0h (pg_cn (N:=["name","kind"]) 1) z17)))) (λ _ _ _ _ _=>pf_nil) (λ _ _ _ _ _=>(zk3 (hu_of hr) (zis (zbh pe_str (pe_tup pa_nil) (zbh pe_str (pe_tup pa_nil) zih)) rfl rfl (by simp) (by decide)) (pv 1) pe_int ⟨rfl,rfl,rfl,rfl⟩))) pa_nil)))),?_⟩;refine ziy ?_;refine z9v (S:=Same) (K:=KX w.params) (a:=pt) (xs:=U) (λ x y H=>∃(n k:Str) (b:Addr),x=.ref b/\H b=some (.tup [.str n,.str k])/\ZrAt H k y) (Same.refl _) (λ _ _ _ a b=>a.trans b) (λ _ _=>Same.refl _) ?_ (λ R h=>⟨_,rfl,h⟩) (λ H' s'=>s'.seqT (SqT.of a2)) (D0 (F5 (z05 B)) (D0 a6 (by decide))) ?_ ?_
  ·rintro x y i j l ⟨n,k,b,F,D,e3⟩;exact ⟨n,k,b,F,l _ _ D,e3.same l⟩
  ·intro v hv i r KT a4 KF;obtain ⟨m,hm⟩:=List.mem_iff_getElem?.mp hv;obtain ⟨t,ht,b,rfl,Z⟩:=z0e B hm;have L:=r _ _ Z;refine ⟨b,_,rfl,SqT.of L,rfl,_,_,rfl,_,_,rfl,rfl,[some (.str t.1),some (.str t.2)],rfl,rfl,iteT ?_⟩;intro p J;refine ⟨w_0,λ d O=>⟨w_0,λ f C=>?_⟩⟩;have G:p≠d:=z08 z01 O;have M:p≠f:=z08 (by rw [upd_ne G];exact z01) C;have a0:d≠f:=z08 z01 C;refine ⟨by rw [upd_ne M,upd_ne G];exact z01,[(.inr "queue",.ref d),(.inr "set",.ref f)],rfl,(show (2:Nat)<=15 by decide),?_⟩;rw [show mergeK [] [((.inr "queue" : Key),V.ref d),(.inr "set",.ref f)]=[(.inr "queue",.ref d),(.inr "set",.ref f)] from rfl];generalize hH4:upd (upd (upd (upd i p (.dK [])) d (.tup [])) f (.tup [])) p (.dK [(.inr "queue",.ref d),(.inr "set",.ref f)])=j;have W:j p=some (.dK [(.inr "queue",.ref d),(.inr "set",.ref f)]):=by rw [<-hH4];exact z01
   have F:j d=some (.tup []):=by rw [<-hH4,upd_ne G.symm,upd_ne a0];exact z01
   have D:j f=some (.tup []):=by rw [<-hH4,upd_ne M.symm];exact z01
   have l:Same i j:=λ c o e=>by rw [<-hH4,upd_ne (z08 e J)];exact ((((Same.upd J).trans (Same.upd O)).trans (Same.upd C))) c o e
   refine ⟨p,rfl,.inl ⟨_,.inl W⟩,_,rfl,_,DGet.k (k:=.inr t.2) W,?_⟩;refine a4 _ _ l ⟨t.1,t.2,b,rfl,l _ _ L,?_⟩;by_cases z1:t.2 = "queue"
   ·rw [z1,z0p rfl];exact .inl ⟨.inl rfl,_,rfl,F⟩
   ·rw [z0o (λ e=>z1 (m8 e).symm)];by_cases z2:t.2 = "set"
    ·rw [z2,z0p rfl];exact .inl ⟨.inr rfl,_,rfl,D⟩
    ·rw [z0o (λ e=>z2 (m8 e).symm)];exact .inr ⟨λ h=>h.elim z1 z2,rfl⟩
  ·intro Y i u r a7 a1;refine ⟨Y,u,rfl,.inl ⟨SqL.of z01,λ p4 a3=>?_⟩⟩;have a5:All2 (λ (t:Str×Str) y=>∃b,y=.ref b/\i b=some (.tup [.str t.1,.str t.2])) I U:=z02 (λ _ _ z=>z.elim λ b y=>⟨b,y.1,r _ _ y.2⟩) B;have X:=(Same.upd (o:=.lst u) a7).trans (Same.upd (o:=.tup u) a3);exact q p4 _ (r.trans X) ⟨u,z01,z02 (λ _ _ z=>z.same X) (z9k a5 a1)⟩
theorem zkj {tl:TE} {K:d0} {m:Nat} {fr:List (Nat×Str)} {g:TG} {tc:TT} {te:TE} {σ:L2.St} {H:Hp} {Q:VK} (Pr:Addr->Hp->Prop) (h1 :∀R:VK,(∀l H1,Pr l H1->R (.ref l) H1)->tl σ H R) (h2 :∀l H1,Pr l H1->tCompG (iList K λ _ _ R=>R (.ref l) H1) m fr g tc te σ H Q):tCompG (iList K tl) m fr g tc te σ H Q:=h1 _ λ l H1 p=>h2 l H1 p
theorem seq_bm {K:d0} {N:String} {r:V->List V->Hp->VK->Prop} {to:TE} {t:TA} {g:TG} {rest:TS} {D:Ends} {σ:L2.St} {H:Hp} (h:to σ H λ x H1=>tyV K N x H1/\t σ H1 λ xs H2=>r x xs H2 λ y H3=>g y σ H3 (rest D)):tSeq (tAsg (tBM K N r to t) g) rest D σ H:=h
def OwnAt (K:d0) (H:Hp) (ts:List (Str×Str)) (p:Addr):Prop:=∃(nm vb:Str) (x a:V) (k:Str) (d:Dt),H p=some (.lst [.str nm,.str vb,x,a])/\(nm,k)∈ts/\DeedOk k vb d/\IsDt K H d x/\WorthIn H d x/\(a=.non\/AnsI a)
theorem zag {H:Hp} :∀{ts:List (Str×Str)} {ys zs:List V},All2 (λ (t:Str×Str) y=>∃b,y=.ref b/\H b=some (.tup [.str t.1,.str t.2])) ts ys->All2 (λ x y=>∃(n k:Str) (b:Addr),x=.ref b/\H b=some (.tup [.str n,.str k])/\y=.str n) ys zs->zs=(ts.map (·.1)).map V.str
 | [],_,_,.nil,.nil=>rfl
 | t :: ts,_,_,.cons a r,.cons a' r'=>by
  rw [zag r r'];obtain ⟨b,rfl,d⟩:=a;obtain ⟨n,k,g,e,c,rfl⟩:=a';cases e;rw [d] at c;injection c with c;injection c with c;have f:t.1=n:=by injection c with h _;injection h
  rw [<-f];rfl
theorem zdn {α β:Type} {R S:α->β->Prop} {y:β} :∀{xs:List α} {ys:List β} {j:Nat} {x:α},(∀a b,R a b->S a b)->All2 R xs ys->xs[j]? = some x->S x y->All2 S xs (ys.set j y)
 | _,_,_,_,_,.nil,e,_=>by simp at e
 | _,_,0,x,f,.cons a r,e,h=>by rw [F2] at e;cases e;exact .cons h (z02 f r)
 | _,_,j + 1,x,f,.cons a r,e,h=>by rw [X1] at e;exact .cons (f _ _ a) (zdn f r e h)
theorem cut_at {ys:List V} {m:Nat} (h:m < ys.length):cutV ys none (some (m:Int))=ys.take m/\cutV ys (some ((m:Int) + 1)) none=ys.drop (m + 1)/\HT.sIx ys.length ys.length (some (m:Int))=m/\HT.sIx ys.length 0 (some ((m:Int) + 1))=m + 1:=by
 obtain ⟨c,_,a⟩:=cut_to (d3 h);have b:HT.sIx ys.length 0 (some ((m:Int) + 1))=m + 1:=by simp [HT.sIx];rw [if_neg (by omega)];omega
 refine ⟨c,?_,a,b⟩;unfold cutV;rw [b,show HT.sIx ys.length ys.length none=ys.length by simp [HT.sIx]];exact b8 (by rw [g6];exact B0 _)
theorem zh4 {ys:List V} {m:Nat} {y:V} (h:m < ys.length):ys.take m++[y]++ys.drop (m + 1)=ys.set m y:=by rw [K9,if_pos h];simp
def z3s (K:d0):Sp:=λ vs H Q _=>∃(pt ps po:Addr) (ts:List (Str×Str)) (n:Nat),vs=[.ref pt,.ref ps,.ref po]/\ThAt H pt ts/\ThOk ts/\StsT K H ps ts n/\n < 63/\OwnAt K H ts po/\∀p H',KeptL [po] H H'->OwnAt K H' ts po->(∃a xs,H' po=some (.lst (xs++[a]))/\xs.length=3/\AnsI a)->StsT K H' p ts (n + 1)->Q (.ref p) H'
theorem z73 (T:TX (kx w) mg) (c0:Ca P w mg base "_law_do" ["kind","state","verb","worth"] 1 (z9b (kx w))):Fo P w mg base CX0 2 482 y0h ["things","states","own"] (z3s (kx w)):=by
 refine (z2b w.params).ok sc__law_applied (λ f H Q E h=>?_) (λ d3 A d2 s H f Q E hr h=>?_)
 ·obtain ⟨pt,O,r,B,n,rfl,_⟩:=h;rfl
 ·obtain ⟨pt,O,r,B,n,rfl,⟨yt,a9,Y⟩,ok,⟨f,a6,a1⟩,hn,⟨p,u,x,a0,k,d,G,X,dk,ix,wi,_⟩,q⟩:=h;refine ⟨_,(z03 (ps_set (i:=3) sc__law_applied.nd rfl (j1 rfl) (zdz (pe_cg (xs:=["name","kind"]) (g:=gTup (kx w) 2 (gCons (gName 0) (gCons (gName 1) gNil))) (fr:=[]) (pi_tup (pv 0)) (λ _ _ _ _ _=>(pg_tup rfl (z0h (pg_cn (N:=["name","kind"]) 0) (z0h (pg_cn (N:=["name","kind"]) 1) z17)))) (λ _ _ _ _ _=>pf_nil) (λ _ _ _ _ _=>(pv 0))) (z00 (pe_ix ix_seq (pv 2) pe_int (λ _ _=>rfl)) pa_nil)))
   (z03 (ps_asg (pe_cal c0 (hr.mono (by decide)) rfl (z00 (pe_ix ix_seq (pe_ix ix_seq (pv 0) (pv 3) (λ _ _=>rfl)) pe_int (λ _ _=>rfl)) (z00 (pe_ix ix_seq (pv 1) (pv 3) (λ _ _=>rfl)) (z00 (pe_ix ix_seq (pv 2) pe_int (λ _ _=>rfl)) (z00 (pe_ix ix_seq (pv 2) pe_int (λ _ _=>rfl)) pa_nil))))) (pg_tup rfl (z0h (z0j (i:=4) sc__law_applied.nd rfl (j1 rfl)) (z0h (z0j (i:=5) sc__law_applied.nd rfl (j1 rfl)) z17))))
   (z03 (ps_asg (pv 5) (pg_sub (pv 2) pe_int z5a))
   (z04 (ps_ret (pe_op zck (pe_op zck (z1g slSeq (pv 1) z2r (z1u (pv 3))) (pe_tup (z00 (pv 4) pa_nil))) (z1g slSeq (pv 1) (z1u (pe_op opAdd (pv 3) pe_int)) z2r))))))),?_⟩
  refine seq_bm ?_;refine z9v (S:=Same) (K:=KX w.params) (a:=pt) (xs:=yt) (λ x y H=>∃(n k:Str) (b:Addr),x=.ref b/\H b=some (.tup [.str n,.str k])/\y=.str n) (Same.refl _) (λ _ _ _ a b=>a.trans b) (λ _ _=>Same.refl _) ?_ (λ R h=>⟨_,rfl,h⟩) (λ H' s'=>s'.seqT (SqT.of a9)) (D0 (F5 (z05 Y)) (D0 ok.n6 (by decide))) ?_ ?_
  ·rintro x y J H4 l ⟨n,k,b,e1,e2,e3⟩;exact ⟨n,k,b,e1,l _ _ e2,e3⟩
  ·intro v hv J F KT b7 KF;obtain ⟨m,X⟩:=List.mem_iff_getElem?.mp hv;obtain ⟨t,ht,b,rfl,eb⟩:=z0e Y X;exact ⟨b,_,rfl,SqT.of (F _ _ eb),rfl,_,_,rfl,_,_,rfl,rfl,[some (.str t.1),some (.str t.2)],rfl,rfl,iteT ⟨_,rfl,b7 _ _ (Same.refl _) ⟨t.1,t.2,b,rfl,F _ _ eb,rfl⟩⟩⟩
  intro U J zs F d1 b3;have b5:All2 (λ (t:Str×Str) y=>∃b,y=.ref b/\J b=some (.tup [.str t.1,.str t.2])) B yt:=z02 (λ _ _ z=>z.elim λ b y=>⟨b,y.1,F _ _ y.2⟩) Y;have ez:=zag b5 b3;subst ez;have sl:=Same.upd (o:=.lst ((B.map (·.1)).map V.str)) d1;have el:upd J U (.lst ((B.map (·.1)).map V.str)) U=some (.lst ((B.map (·.1)).map V.str)):=z01;have l:=F.trans sl;generalize upd J U (.lst ((B.map (·.1)).map V.str))=H4 at sl el l⊢;obtain ⟨j,I⟩:=List.mem_iff_getElem?.mp X;have a8:(B.map (·.1))[j]? = some p:=by rw [X0,I];rfl
  have d4:j < B.length:=(List.getElem?_eq_some_iff.mp I).1;refine ⟨.inl ⟨rfl,_,SqL.of el⟩,_,rfl,.inl ⟨r,_,0,.str p,rfl,rfl,SqL.of (l _ _ G),z07 (j:=0) rfl,U,B.map (·.1),p,j,rfl,rfl,el,by rw [K0];exact D0 ok.n6 (by decide),a8,λ m lt e=>?_,?_⟩⟩
  ·have:=(O9 (by rw [K0];omega) ok.nd).mp (e.trans a8.symm);omega
  refine g_name ?_;obtain ⟨yj,d0,bj,rfl,c7⟩:=z1h Y I;obtain ⟨vj,c8,sj⟩:=z1h a1 I;refine ⟨_,rfl,_,rfl,.inr (.inl ⟨pt,yt,j,.ref bj,rfl,rfl,SqT.of (l _ _ a9),z07 d0,.inr (.inl ⟨bj,_,1,.str k,rfl,rfl,SqT.of (l _ _ c7),z07 (j:=1) rfl,?_⟩)⟩)⟩;refine ⟨_,rfl,_,rfl,.inr (.inl ⟨O,f,j,vj,rfl,rfl,l.seqT a6,z07 c8,?_⟩)⟩;refine ⟨_,rfl,.inl ⟨r,_,1,.str u,rfl,rfl,SqL.of (l _ _ G),z07 (j:=1) rfl,?_⟩⟩;refine ⟨_,rfl,.inl ⟨r,_,2,x,rfl,rfl,SqL.of (l _ _ G),z07 (j:=2) rfl,?_⟩⟩;refine ⟨k,u,vj,x,d,n,rfl,sj.tups (.of l),hn,dk,ix.same l,wi.tt (.of (K:=KX w.params) l),λ p2 a2 a C D e5 b2 ai=>?_⟩;have D:=l.trans D;refine ⟨p2,_,rfl,SqT.of e5,rfl,_,_,rfl,_,_,rfl,rfl,?_⟩;refine ⟨_,rfl,_,rfl,r,_,3,3,rfl,rfl,D _ _ G,rfl,?_⟩;rw [show [V.str p,.str u,x,a0].set 3 a=[.str p,.str u,x,a] from rfl];have k6:KeptL [r] C (upd C r (.lst [.str p,.str u,x,a])):=KeptL.set (by simp);have T6:Tt (kx w) C (upd C r (.lst [.str p,.str u,x,a])):=KeptL.tt k6 λ c hc=>by rw [List.mem_singleton.mp hc];exact .inl ⟨_,D _ _ G⟩
  have e6:upd C r (.lst [.str p,.str u,x,a]) r=some (.lst [.str p,.str u,x,a]):=z01;generalize upd C r (.lst [.str p,.str u,x,a])=H6 at k6 T6 e6⊢;have M:Tt (kx w) H H6:=Tt.trans (.of D) T6;have a4:=M.t _ _ a6;have vl:f.length=B.length:=z05 a1;have a7:j < f.length:=by omega
  obtain ⟨c1,c2,c3,c4⟩:=cut_at a7;refine ⟨_,rfl,_,rfl,_,rfl,.inr (.inl ⟨O,f,rfl,a4,λ z=>by have:=z.2;rw [c3] at this;omega,λ p7 b8=>?_⟩)⟩;rw [c1];obtain ⟨H7,v_,s7,e7⟩:=newA (.tup (f.take j)) b8;rw [<-v_];refine ⟨_,rfl,w_1,λ p8 c5=>?_⟩;have s8:=Same.upd (o:=.tup [a2]) c5;refine ⟨p7,p8,f.take j,[a2],rfl,rfl,s8.seqT (SqT.of e7),SqT.of z01,?_,λ p9 H9 L b4=>?_⟩
  ·rw [X3];exact D0 (m:=10) (by have:=ok.n6;show min j f.length + 1<=10;omega) (by decide)
  have L:=(s7.trans s8).trans L;have c6:=L.seqT a4;refine ⟨_,rfl,_,rfl,.inl ⟨_,_,rfl,rfl,_,rfl,.inr (.inl ⟨O,f,rfl,c6,λ z=>by have:=z.1;rw [c4] at this;omega,λ b1 b6=>?_⟩)⟩⟩;rw [c2];have b0:=Same.upd (o:=.tup (f.drop (j + 1))) b6;refine ⟨p9,b1,f.take j++[a2],f.drop (j + 1),rfl,rfl,b0.seqT b4,SqT.of z01,?_,λ c9 a3 b9 a5=>?_⟩
  ·rw [M0,X3,g6];exact D0 (m:=20) (by have:=ok.n6;show min j f.length + 1 + (f.length - (j + 1))<=20;omega) (by decide)
  rw [zh4 a7] at a5;have W:=(L.trans b0).trans b9;have Z:Tt (kx w) H6 a3:=.of W;refine q c9 a3 ((D.keptL.trans k6).trans W.keptL) ⟨p,u,x,a,k,d,W _ _ e6,X,dk,IsDt.mono' (M.trans Z).t _ _ ix,wi.tt (M.trans Z),.inr ai⟩ ⟨a,[.str p,.str u,x],W _ _ e6,rfl,ai⟩ ⟨_,a5,?_⟩;exact zdn (λ _ _ z=>(z.tups (M.trans Z).t).le (M3 _)) a1 I (b2.tups (T6.trans Z).t)
theorem valV_isSomeK {kvs:List (Key×V)} {k:Key}:(valV kvs k).isSome=true↔k∈kvs.map (·.1):=by
 induction kvs with
 | nil=>simp [valV]
 | cons p r ih=>
  obtain ⟨a,pv⟩:=p;by_cases y:a=k
  ·subst y;rw [z0p rfl];simp
  ·rw [z0o y,ih,J1,P1];exact ⟨λ z=>.inr z,λ z=>z.resolve_left λ x=>y x.symm⟩
theorem zkk {kvs:List (Key×V)} {k:Key} {v:V} (h:k∈kvs.map (·.1)):(putK kvs k v).map (·.1)=kvs.map (·.1):=by
 unfold putK;obtain ⟨p,a,e⟩:=List.mem_map.mp h;rw [if_pos (List.any_eq_true.mpr ⟨p,a,decide_eq_true e⟩),R3];refine List.map_congr_left λ q _=>?_;show (if q.1=k then (q.1,v) else q).1=q.1;by_cases y:q.1=k
 ·rw [if_pos y]
 ·rw [if_neg y]
theorem zf0 {kvs:List (Key×V)} {k:Key} {v:V} (h:k∉kvs.map (·.1)):putK kvs k v=kvs++[(k,v)]:=by unfold putK;rw [if_neg];intro z;obtain ⟨p,a,e⟩:=List.any_eq_true.mp z;exact h (List.mem_map.mpr ⟨p,a,of_decide_eq_true e⟩)
def z4c:Sp:=λ vs H Q _=>∃(r:Addr) (n:Nat),vs=[.ref r]/\DeckAt H r n/\n < 100/\∀p ts H',Dw r (n + 20) H H'->H p=none->ThAt H' p ts->ThOk ts->(∀t∈ts,O7 t.1=true/\t.1.length<=8)->Q (.ref p) H'
theorem DeckAt.le {H:Hp} {r:Addr} {n m:Nat} (l:n<=m) (h:DeckAt H r n):DeckAt H r m:=by obtain ⟨a,b,c,e,g,f,d,i⟩:=h;exact ⟨a,b,c,e,g,f,d,by omega⟩
theorem Dw.le {r:Addr} {n m:Nat} {H H':Hp} (l:n<=m) (h:Dw r n H H'):Dw r m H H':=⟨h.k,h.r.le l⟩
theorem z8j (T:TX (kx w) mg) (c0:Ca P w mg base "_law_take" ["deck","many"] 1 z1e):Fo P w mg base CX0 2 477 y0o ["deck"] z4c:=by
 refine (z2u w.params).ok sc__law_things (λ vs H Q E h=>?_) (λ d4 A d3 s H vs Q E I h=>?_)
 ·obtain ⟨r,n,rfl,_⟩:=h;rfl
 ·obtain ⟨r,n,rfl,R,hn,q⟩:=h;refine q_of (z0i (qs_set (i:=1) sc__law_things.nd rfl (j1 rfl) (qe_lst (z09 (QE.mk pe_str) (z09 (QE.mk pe_str) (z09 (QE.mk pe_str) (z09 (QE.mk pe_str) (z09 (QE.mk pe_str) (z09 (QE.mk pe_str) (z09 (QE.mk pe_str) (z09 (QE.mk pe_str) qa_nil))))))))))
   (z0i (QS.mk (ps_set (i:=2) sc__law_things.nd rfl (Z0 rfl) z52))
   (z0i (qs_for T1 rfl (z86 rfl (T.no (zc6 _)) (z00 (pe_op opAdd pe_int (pe_cal c0 (I.mono (by decide)) rfl (z00 (pv 0) (z00 pe_int pa_nil)))) pa_nil)) (z0j (i:=3) sc__law_things.nd rfl (j1 rfl))
   (z25 (ze8 (hu_of I) (QE.mk (pv 2)) (QE.mk (pe_ix ix_seq (pv 1) (pe_cal c0 (I.mono (by decide)) rfl (z00 (pv 0) (z00 pe_int pa_nil))) (λ _ _=>rfl))) (qe_ix ix_seq (qe_lst (z09 (QE.mk pe_str) (z09 (QE.mk pe_str) (z09 (QE.mk pe_str) (z09 (QE.mk pe_str) (z09 (QE.mk pe_str) qa_nil)))))) (QE.mk (pe_cal c0 (I.mono (by decide)) rfl (z00 (pv 0) (z00 pe_int pa_nil)))) (λ _ _=>rfl)) rfl)))
   (z25 (QS.mk (ps_ret (z0t z0k rfl (T.no (z34 _)) V4 (z00 (pe_cg (xs:=["name"]) (g:=gName 0) (fr:=[(2,"told")]) (z1m (z0a (z90 rfl) rfl (T.no (z3z _)) P6 (z00 (pv 2) pa_nil))) (λ _ _ _ _ _=>(pg_cn (N:=["name","told"]) 0)) (λ _ _ _ _ _=>pf_nil) (λ _ _ _ _ _=>(pe_tup (z00 (pv 0) (z00 (z6o (hu_of I) (pv 1) (pv 0) (λ _ _=>rfl)) pa_nil))))) pa_nil)))))))) ?_
  refine z0l ?_;refine ⟨w_8,λ l hl=>?_⟩;refine g_name ?_;have nl:l≠r:=R.fresh hl;have W:=Same.upd (o:=.lst [.str "q",.str "a",.str "zz",.str "begin",.str "reg",.str "abcdefgh",.str "b",.str "thing"]) hl;have e1:upd H l (.lst [.str "q",.str "a",.str "zz",.str "begin",.str "reg",.str "abcdefgh",.str "b",.str "thing"]) l=some (.lst ((["q","a","zz","begin","reg","abcdefgh","b","thing"]:List Str).map V.str)):=z01;generalize upd H l (.lst [.str "q",.str "a",.str "zz",.str "begin",.str "reg",.str "abcdefgh",.str "b",.str "thing"])=H1 at W e1⊢;refine z0l ?_;intro d U;refine g_name ?_;have X:d≠r:=(R.same W).fresh U;have a5:l≠d:=z08 e1 U;have fd:H d=none:=W.free U;have s2:=Same.upd (o:=.dK []) U;have e2:=s2 _ _ e1;have a7:upd H1 d (.dK []) d=some (.dK []):=z01;have a6:=W.trans s2;generalize upd H1 d (.dK [])=H2 at s2 e2 a7 a6⊢;have w2:Dw r n H H2:=R.dw.same a6;refine ⟨_,rfl,r,3,n,rfl,w2.r,by omega,by decide,by decide,λ t H3 G d2 d5=>.inl ⟨1,t,rfl,rfl,1 + t,rfl,by omega,by omega,?_⟩⟩;have e3:=G.k _ _ nl e2;have c3:=G.k _ _ X a7;have G:=w2.trans G;have tn:(1 + t).toNat<=3:=by omega
  have tp:0 < (1 + t).toNat:=by omega
  generalize (1 + t).toNat=tt at tn tp⊢;refine z5x (lo:=0) (n:=tt) (λ i σ L=>∃kvs ss,Dw r (n + 1 + 2 * i) H L/\L l=some (.lst ((["q","a","zz","begin","reg","abcdefgh","b","thing"]:List Str).map V.str))/\L d=some (.dK kvs)/\kvs.map (·.1)=ss.map Sum.inr/\ss.Nodup/\(∀z∈ss,O7 z=true/\z.length<=8)/\ss.length<=i/\(0 < i->0 < ss.length)/\(∀k v,valV kvs k=some v->∃z,z∈kinds5/\v=.str z)/\∃x3,σ=[some (.ref r),some (.ref l),some (.ref d),x3])
   ⟨[],[],G,e3,c3,rfl,.nil,λ _ z=>absurd z C0,B0 _,λ h=>h,(λ k v e=>by cases e),_,rfl⟩ ?_ ?_
  ·rintro i σ M hi ⟨kvs,ss,w4,e4,ed4,ek,sn,so,sl,sp,kv,x3,rfl⟩;refine g_name ?_;refine ⟨w_5,λ j B=>⟨_,rfl,r,5,_,rfl,w4.r.same (Same.upd B),by omega,by decide,by decide,λ t5 Z C c4 c8=>?_⟩⟩;obtain ⟨v5,d0,b5⟩:=atI_of (xs:=kinds5.map V.str) c4 c8;obtain ⟨J,b6,rfl⟩:=List.mem_map.mp b5;refine .inl ⟨j,_,t5,_,rfl,rfl,SqL.of (C.k _ _ (w4.r.fresh B) z01),d0,?_⟩;have e5:=C.k _ _ nl ((Same.upd (o:=.lst (kinds5.map V.str)) B) _ _ e4);have a2:=C.k _ _ X ((Same.upd (o:=.lst (kinds5.map V.str)) B) _ _ ed4);have C:=(w4.same (Same.upd (o:=.lst (kinds5.map V.str)) B)).trans C;refine ⟨_,rfl,_,rfl,_,rfl,r,8,_,rfl,C.r,by omega,by decide,by decide,λ t6 H6 F a9 c2=>?_⟩;obtain ⟨v6,b3,d1⟩:=atI_of (xs:=(["q","a","zz","begin","reg","abcdefgh","b","thing"]:List Str).map V.str) a9 c2;obtain ⟨c,c9,rfl⟩:=List.mem_map.mp d1;have b8:O7 c=true/\c.length<=8:=(by decide +kernel :∀z∈(["q","a","zz","begin","reg","abcdefgh","b","thing"]:List Str),O7 z=true/\z.length<=8) c c9;have e6:=F.k _ _ nl e5;have b7:=F.k _ _ X a2;have F:=C.trans F;have kl:kvs.length=ss.length:=by have:=congrArg j41 ek;simpa using this
   refine .inl ⟨l,_,t6,_,rfl,rfl,SqL.of e6,b3,d,_,rfl,DPut.k (k:=.inr c) b7 (Q1 (m:=100) (by omega) (by decide)),?_⟩;have w7:Dw r (n + 1 + 2 * (i + 1)) H (upd H6 d (.dK (putK kvs (.inr c) (.str J)))):=by refine ⟨λ b o hb e=>by rw [upd_ne (z08 e fd)];exact F.k b o hb e,?_⟩;obtain ⟨a1,b1,c1,ee,D⟩:=F.r;exact ⟨a1,b1,c1,by rw [upd_ne X.symm];exact ee,D.1,D.2.1,D.2.2.1,by have:=D.2.2.2;omega⟩
   have a4 :∀k v,valV (putK kvs (.inr c) (.str J)) k=some v->∃z,z∈kinds5/\v=.str z:=λ k v e=>by
    rw [z48] at e;by_cases z:k=.inr c
    ·rw [if_pos z] at e;cases e;exact ⟨J,b6,rfl⟩
    ·rw [if_neg z] at e;exact kv k v e
   by_cases z:c∈ss
   ·have kk:=zkk (kvs:=kvs) (k:=(.inr c:Key)) (v:=.str J) (by rw [ek];exact List.mem_map.mpr ⟨c,z,rfl⟩);exact ⟨_,ss,w7,by rw [upd_ne a5];exact e6,z01,kk.trans ek,sn,so,by omega,λ _=>List.length_pos_of_mem z,a4,_,rfl⟩
   ·have kk:=zf0 (kvs:=kvs) (k:=(.inr c:Key)) (v:=.str J) (by rw [ek];exact λ y=>z (by obtain ⟨a,Y,e⟩:=List.mem_map.mp y;cases e;exact Y));refine ⟨_,ss++[c],w7,by rw [upd_ne a5];exact e6,z01,by rw [kk,B2,ek,B2];rfl,?_,λ z hz=>?_,?_,λ _=>?_,a4,_,rfl⟩
    ·rw [u4];refine ⟨sn,by simp,λ a Y b hb=>?_⟩;rw [List.mem_singleton.mp hb];exact λ e=>z (e ▸ Y)
    ·rcases List.mem_append.mp hz with y|y
     ·exact so z y
     ·rw [List.mem_singleton.mp y];exact b8
    ·rw [M0];show ss.length + 1<=i + 1;omega
    ·rw [M0];exact Nat.succ_pos _
  ·rintro σ M ⟨kvs,ss,w4,e4,ed4,ek,sn,so,sl,sp,kv,x3,rfl⟩;refine t_nx (ziy ?_);refine zkj (λ j Z=>∃f:List Str,M j=none/\f.Perm ss/\Z=upd M j (.lst (f.map V.str))) (λ R h=>⟨_,rfl,d,kvs,ss,rfl,ed4,ek,by omega,λ j f h5 u _=>h j _ ⟨f,h5,u,rfl⟩⟩) ?_;rintro j Z ⟨f,B,u,rfl⟩;have s5:=Same.upd (o:=.lst (f.map V.str)) B;have a2:=s5 _ _ ed4;have e5:upd M j (.lst (f.map V.str)) j=some (.lst (f.map V.str)):=z01;have b9:f.length<=3:=by rw [u.length_eq];omega
   refine zd0 (S:=Same) (K:=KX w.params) (a:=j) (xs:=f.map V.str) (kindR (kx w)) (Same.refl _) (λ _ _ _ a b=>a.trans b) (λ _ _=>Same.refl _) ?_ (λ R h=>h) (λ L s'=>SqL.of (s' _ _ e5)) (by rw [K0];exact D0 b9 (by decide)) ?_ ?_
   ·rintro x y Ha Hb a8 ⟨p,k1,b1,D,z2,z3,z4⟩;exact ⟨p,k1,b1,D,z2,z3,a8 _ _ z4⟩
   ·intro v hv H6 s6 KT c6 KF;obtain ⟨p,b2,rfl⟩:=List.mem_map.mp hv;refine ⟨[some (.str p)],rfl,rfl,iteT ?_⟩;have hs:(valV kvs (.inr p)).isSome=true:=valV_isSomeK.mpr (by rw [ek];exact List.mem_map.mpr ⟨p,u.mem_iff.mp b2,rfl⟩);obtain ⟨v1,a3⟩:=Option.isSome_iff_exists.mp hs;obtain ⟨z,hz,rfl⟩:=kv _ _ a3;have dg:DGet H6 d (.str p) (some (.str z)):=by have:=DGet.k (k:=.inr p) (s6 _ _ a2);rw [a3] at this;exact this
    exact ⟨_,rfl,_,rfl,_,rfl,d,_,rfl,dg,w_2,λ p7 c7=>c6 _ _ (Same.upd c7) ⟨p,z,p7,rfl,rfl,hz,z01⟩⟩
   ·intro l7 H7 O s7 c5 b0;obtain ⟨ts,f1,f2,b4⟩:=z7p b0;have s8:=Same.upd (o:=.lst O) c5;refine ⟨l7,O,rfl,.inl ⟨SqL.of z01,λ p8 a0=>?_⟩⟩;have w8:=(w4.same (s5.trans s7)).same s8;have s9:=s8.trans (Same.upd (o:=.tup O) a0);have tl:ts.length=f.length:=by rw [<-f1,K0]
    have pl:=u.length_eq;have:=sp tp;exact q p8 ts _ ((w8.same (Same.upd a0)).le (by omega)) (w8.free a0) ⟨O,z01,z02 (λ _ _ z=>z.elim λ b y=>⟨b,y.1,s9 _ _ y.2⟩) b4⟩ ⟨by omega,by omega,by rw [f1];exact u.nodup_iff.mpr sn,f2⟩ (λ t ht=>so t.1 (u.mem_iff.mp (by rw [<-f1];exact List.mem_map.mpr ⟨t,ht,rfl⟩)))
def EvW (K:d0) (H:Hp) (z:Str) (y:V):Prop:=∃(p:Addr) (r:List V),y=.ref p/\SqT K H p (.str z :: r)
theorem EvW.tups {K:d0} {H H':Hp} {z:Str} {y:V} (t:Tups K H H') (h:EvW K H z y):EvW K H' z y:=by obtain ⟨p,r,e,s⟩:=h;exact ⟨p,r,e,t _ _ s⟩
theorem OwnAt.tt {K:d0} {H H':Hp} {ts:List (Str×Str)} {p:Addr} (t:Tt K H H') (e :∀o,H p=some o->H' p=some o) (h:OwnAt K H ts p):OwnAt K H' ts p:=by obtain ⟨g,b,x,a,k,d,l,f,c,m,j,i⟩:=h;exact ⟨g,b,x,a,k,d,e _ l,f,c,IsDt.mono' t.t d x m,j.tt t,i⟩
theorem OwnAt.mutAt {K:d0} {H:Hp} {ts:List (Str×Str)} {p:Addr} (h:OwnAt K H ts p):MutAt H p:=by obtain ⟨e,c,x,a,k,d,b,_⟩:=h;exact .inl ⟨_,b⟩
theorem DeckAt.mutAt {H:Hp} {r:Addr} {n:Nat} (h:DeckAt H r n):MutAt H r:=by obtain ⟨a,b,c,e,_⟩:=h;exact .inl ⟨_,e⟩
theorem Dw.keptL {r:Addr} {n:Nat} {H H':Hp} {L:List Addr} (h:Dw r n H H') (hr:r∈L):KeptL L H H':=λ b o n e=>h.k b o (λ z=>n (z ▸ hr)) e
theorem Dw.tt {K:d0} {r:Addr} {n m:Nat} {H H':Hp} (R:DeckAt H r m) (h:Dw r n H H'):Tt K H H':=KeptL.tt (h.keptL (List.mem_singleton.mpr rfl)) λ l a=>by rw [List.mem_singleton.mp a];exact R.mutAt
theorem z18 {L:List Addr} {H H1 H2:Hp} (s:Same H H1) (k:KeptL L H1 H2) (n :∀l∈L,H l=none):Same H H2:=λ c o e=>k c o (λ z=>by rw [n c z] at e;cases e) (s c o e)
theorem zdo {kvs:List (Key×V)} {k j:Key} {v:V} (h:valV (dropK kvs k) j=some v):valV kvs j=some v:=by
 induction kvs with
 | nil=>cases h
 | cons p r ih=>
  obtain ⟨a,pv⟩:=p;by_cases z:a=k
  ·rw [zcv z] at h;have c:j≠a:=λ y=>by
    have:(valV (dropK r k) j).isSome=true:=by rw [h];rfl
    have:=valV_isSomeK.mp this;obtain ⟨q,b,e⟩:=List.mem_map.mp this;have:=of_decide_eq_true (List.mem_filter.mp b).2;exact this (e.trans (y.trans z))
   rw [z0o (λ e=>c e.symm)];exact ih h
  ·rw [zcg z] at h;by_cases y:a=j
   ·subst y;rw [z0p rfl] at h⊢;exact h
   ·rw [z0o y] at h⊢;exact ih h
noncomputable def evH:Ev->Int
 | .beg h _ _ _=>h
 | .fin h _=>h
theorem zex {hs:List Int} {es:List Ev} {e:Ev} (h :∀e∈es,evH e∈hs) (he:evH e∈hs) :∀x∈es++[e],evH x∈hs:=λ x a=>by
 rcases List.mem_append.mp a with z|z
 ·exact h x z
 ·rw [List.mem_singleton.mp z];exact he
noncomputable def wordE:Ev->Str
 | .beg _ _ _ _=>"begin"
 | .fin _ _=>"end"
noncomputable def isBg (e:Ev):Bool:=decide (V.str (wordE e)=V.str "begin")
theorem zfc {h:Int} {n v x:V}:isBg (.beg h n v x)=true:=by show decide (V.str "begin" = V.str "begin")=true;decide +kernel
theorem zfe {h:Int} {a:V}:isBg (.fin h a)=false:=by show decide (V.str "end" = V.str "begin")=false;decide +kernel
noncomputable def bgN (es:List Ev):Nat:=(es.filter isBg).length
theorem zl7 {es:List Ev} {h:Int} {a:V}:bgN (es++[.fin h a])=bgN es:=by unfold bgN;rw [M4,M0];rw [W2 (by rw [zfe];decide)];rfl
theorem zl6 {es:List Ev} {h:Int} {n v x:V}:bgN (es++[.beg h n v x])=bgN es + 1:=by unfold bgN;rw [M4,M0,P2 zfc];rfl
theorem zit {p:Ev->Bool} :∀{es:List Ev} {ys:List V},es.length=ys.length->((es.zip ys).filter λ a=>p a.1).length=(es.filter p).length
 | [],[],_=>rfl
 | e :: es,y :: ys,h=>by
  have b:=zit (p:=p) (es:=es) (ys:=ys) (by simpa using h);rw [z9];cases c:p e with
  | true=>rw [P2 (by exact c),P2 c,U0,U0,b]
  | false=>rw [W2 (by show ¬ p e=true;rw [c];decide),W2 (by rw [c];decide),b]
theorem zib :∀{es:List Ev} {i:Nat} {rs:List Rc},(dAll i rs es).length=rs.length + bgN es
 | [],_,_=>rfl
 | e :: es,i,rs=>by
  have c:=zib (es:=es) (i:=i + 1) (rs:=dstep i rs e);show (dAll (i + 1) (dstep i rs e) es).length=_;rw [c];cases e with
  | beg hd n v x=>
   have b:(dstep i rs (.beg hd n v x)).length=rs.length + 1:=by show (rs++[_]).length=_;rw [M0];rfl
   have d:bgN (Ev.beg hd n v x :: es)=bgN es + 1:=by unfold bgN;rw [P2 zfc,U0]
   omega
  | fin hd a=>
   have b:(dstep i rs (.fin hd a)).length=rs.length:=by
    unfold dstep;dsimp only;cases lastI hd (rs.map Rc.h) with
    | none=>rfl
    | some j=>exact P5 ..
   have d:bgN (Ev.fin hd a :: es)=bgN es:=by unfold bgN;rw [W2 (by rw [zfe];decide)]
   omega
structure EvQ (K:d0) (ts:List (Str×Str)) (H:Hp) (e:Ev) (y:V):Prop where
 a:EvAt K H e y
 w:EvW K H (wordE e) y
 n:EvGd K H ts e
theorem EvQ.tt {K:d0} {ts:List (Str×Str)} {H H':Hp} {e:Ev} {y:V} (t:Tt K H H') (h:EvQ K ts H e y):EvQ K ts H' e y:=⟨EvAt.tups t.t h.a,h.w.tups t.t,h.n.tt t⟩
theorem zeb {K:d0} {ts:List (Str×Str)} {H:Hp} :∀{es:List Ev} {ys:List V},All2 (EvQ K ts H) es ys->All2 (λ (a:Ev×V) v=>a.2=v/\EvQ K ts H a.1 v) (es.zip ys) ys
 | _,_,.nil=>.nil
 | _,_,.cons a r=>.cons ⟨rfl,a⟩ (zeb r)
def UwAt (K:d0) (H H0:Hp) (u l ha:Addr) (ts:List (Str×Str)) (m:Nat) (os:List Int):Prop:=∃kvs:List (Key×V),H u=some (.dK kvs)/\kvs.length<=m/\kvs.map (·.1)=os.map Sum.inl/\∀k v,valV kvs k=some v->∃p,v=.ref p/\OwnAt K H ts p/\p≠l/\p≠ha/\H0 p=none
structure TaJ (K:d0) (H H0:Hp) (pt ps u l ha:Addr) (ts:List (Str×Str)) (hs:List Int) (i:Nat) (os:List Int) (es:List Ev):Prop where
 th:ThAt H pt ts
 st:StsT K H ps ts i
 uw:UwAt K H H0 u l ha ts i os
 ev :∃ys,H l=some (.lst ys)/\All2 (EvQ K ts H) es ys
 hn:H ha=some (.lst (hs.map V.int))
 ln:es.length<=i
 wf:EWf [] es
 cn:bgN es<=4
 hb :∀e∈es,evH e∈hs
theorem TaJ.tt {K:d0} {H H' H0:Hp} {pt ps u l ha:Addr} {ts:List (Str×Str)} {hs:List Int} {i:Nat} {os:List Int} {es:List Ev} (t:Tt K H H') (L:List Addr) (k:KeptL L H H') (n:u∉L/\l∉L/\ha∉L) (po :∀p∈L,∀q:OwnAt K H ts p,OwnAt K H' ts p) (h:TaJ K H H0 pt ps u l ha ts hs i os es):TaJ K H' H0 pt ps u l ha ts hs i os es:=by
 refine ⟨h.th.tt t,h.st.tups t.t,?_,h.ev.elim λ j z=>⟨j,k _ _ n.2.1 z.1,z02 (λ _ _ y=>y.tt t) z.2⟩,k _ _ n.2.2 h.hn,h.ln,h.wf,h.cn,h.hb⟩;obtain ⟨g,e,c,d,f⟩:=h.uw;refine ⟨g,k _ _ n.1 e,c,d,λ a v r=>?_⟩;obtain ⟨p,s,b,m⟩:=f a v r;refine ⟨p,s,?_,m⟩;rcases Classical.em (p∈L) with z|z
 ·exact po p z b
 ·exact b.tt t λ o e=>k _ _ z e
theorem TaJ.same {K:d0} {H H' H0:Hp} {pt ps u l ha:Addr} {ts:List (Str×Str)} {hs:List Int} {i:Nat} {os:List Int} {es:List Ev} (s:Same H H') (h:TaJ K H H0 pt ps u l ha ts hs i os es):TaJ K H' H0 pt ps u l ha ts hs i os es:=h.tt (.of s) [] s.keptL ⟨C0,C0,C0⟩ (λ _ z=>absurd z C0)
theorem TaJ.le {K:d0} {H H0:Hp} {pt ps u l ha:Addr} {ts:List (Str×Str)} {hs:List Int} {i:Nat} {os:List Int} {es:List Ev} (h:TaJ K H H0 pt ps u l ha ts hs i os es):TaJ K H H0 pt ps u l ha ts hs (i + 1) os es:=⟨h.th,h.st.le (M3 _),h.uw.elim λ a z=>⟨a,z.1,L3 z.2.1,z.2.2⟩,h.ev,h.hn,L3 h.ln,h.wf,h.cn,h.hb⟩
theorem TaJ.dw {K:d0} {H H' H0:Hp} {pt ps u l ha r:Addr} {ts:List (Str×Str)} {hs:List Int} {i n m:Nat} {os:List Int} {es:List Ev} (R:DeckAt H r n) (w:Dw r m H H') (nr:u≠r/\l≠r/\ha≠r) (h:TaJ K H H0 pt ps u l ha ts hs i os es):TaJ K H' H0 pt ps u l ha ts hs i os es:=by refine h.tt (w.tt R) [r] (w.keptL (by simp)) ⟨by simp [nr.1],by simp [nr.2.1],by simp [nr.2.2]⟩ λ p c o=>?_;rw [List.mem_singleton.mp c] at o⊢;obtain ⟨g,f,x,a,k,d,e,_⟩:=o;obtain ⟨j,q,s,b,_⟩:=R;rw [e] at b;cases b
def z6n (K:d0):Sp:=λ vs H Q _=>∃(sc:Addr) (ns:List Int),vs=[.ref sc,.int 4]/\SqL K H sc (ns.map V.int)/\ns.length<=63/\
 ∀t pt te ys es ts H',Same H H'->H' t=some (.tup [.ref pt,.ref te])->H' te=some (.tup ys)->ThAt H' pt ts->ThOk ts->(∀t∈ts,O7 t.1=true/\t.1.length<=8)->All2 (EvQ K ts H') es ys->es.length<=20->EWf [] es->bgN es<=4->(∀e∈es,0<=evH e/\evH e<=5)->Q (.ref t) H'
theorem zbi (T:TX (kx w) mg) (c0:Ca P w mg base "_law_cell_at" ["script","k"] 1 (z3n (kx w))) (c2:Ca P w mg base "_law_take" ["deck","many"] 1 z1e) (c3:Ca P w mg base "_law_things" ["deck"] 2 z4c) (c4:Ca P w mg base "_law_first" ["things"] 1 (z5g (kx w))) (c5:Ca P w mg base "_law_applied" ["things","states","own"] 2 (z3s (kx w))) (c6:Ca P w mg base "_law_verb" ["deck","kind"] 3 (z6t (kx w))):Fo P w mg base CX0 4 487 y18 ["script","most"] (z6n (kx w)):=by
 refine (z5f w.params).ok sc__law_tale (λ vs H Q E h=>?_) (λ x2 A x1 s H vs Q E I h=>?_)
 ·obtain ⟨sc,O,rfl,_⟩:=h;rfl
 ·obtain ⟨sc,O,rfl,sq,hn,q⟩:=h;refine q_of (z0i (QS.mk (ps_set (i:=2) sc__law_tale.nd rfl (j1 rfl) (pe_op op_mod (pe_cal c0 (I.mono (by decide)) rfl (z00 (pv 0) (z00 pe_int pa_nil))) pe_int)))
   (z0i (QS.mk (ps_set (i:=3) sc__law_tale.nd rfl (j1 rfl) (pe_lst (z00 (pe_op zbk (pe_cal c0 (I.mono (by decide)) rfl (z00 (pv 0) (z00 pe_int pa_nil))) pe_int) (z00 (pv 2) (z00 pe_int pa_nil))))))
   (z0i (QS.mk (ps_set (i:=4) sc__law_tale.nd rfl (j1 rfl) (pe_cal c3 (I.mono (by decide)) rfl (z00 (pv 3) pa_nil))))
   (z0i (QS.mk (ps_set (i:=5) sc__law_tale.nd rfl (j1 rfl) (z1g slSeq (pe_ix ix_seq (pe_lst (z00 (pe_lst (z00 pe_int (z00 pe_int (z00 pe_int (z00 pe_int pa_nil))))) (z00 (pe_lst (z00 pe_int (z00 pe_int (z00 pe_int (z00 pe_int pa_nil))))) pa_nil))) (pe_cal c2 (I.mono (by decide)) rfl (z00 (pv 3) (z00 pe_int pa_nil))) (λ _ _=>rfl)) z2r (z1u (pe_op opAdd pe_int (pe_cal c2 (I.mono (by decide)) rfl (z00 (pv 3) (z00 pe_int pa_nil))))))))
   (z0i (qs_set (i:=6) sc__law_tale.nd rfl (j1 rfl) (qe_ix ix_seq (qe_lst (z09 (QE.mk pe_int) (z09 (QE.mk pe_int) (z09 (QE.mk pe_int) (z09 (QE.mk pe_int) qa_nil))))) (QE.mk (pe_cal c2 (I.mono (by decide)) rfl (z00 (pv 3) (z00 pe_int pa_nil)))) (λ _ _=>rfl)))
   (z0i (QS.mk (ps_set (i:=7) sc__law_tale.nd rfl (j1 rfl) (pe_cal c4 (I.mono (by decide)) rfl (z00 (pv 4) pa_nil))))
   (z0i (QS.mk (ps_set (i:=8) sc__law_tale.nd rfl (j1 rfl) (pe_lst pa_nil)))
   (z0i (QS.mk (ps_set (i:=9) sc__law_tale.nd rfl (j1 rfl) z52))
   (z0i (qs_for T1 rfl (z86 rfl (T.no (zc6 _)) (z00 (z0a (zgh rfl) rfl (T.no (n_min _)) boot_min (z00 (pe_op op_mul pe_int (pv 1)) (z00 (z0a (zgl rfl) rfl (T.no (n_max _)) boot_max (z00 pe_int (z00 (pe_op op_sub (z0a z1c rfl (T.no (n_len _)) D4 (z00 (pv 0) pa_nil)) pe_int) pa_nil))) pa_nil))) pa_nil)) (z0j (i:=10) sc__law_tale.nd rfl (j1 rfl))
   (z0i (QS.mk (ps_set (i:=3) sc__law_tale.nd rfl (j1 rfl) (pe_lst (z00 (z0a (zg6 rfl) rfl (T.no (n_sum _)) boot_sum (z00 (zgw (pv 0) (z1u (pe_op opAdd pe_int (pv 10))) (z1u pe_int) (z1u (pe_op op_mul pe_int (pv 1)))) pa_nil)) (z00 (pv 2) (z00 (pe_op opAdd pe_int (pe_op op_mul pe_int (pv 10))) pa_nil))))))
   (z0i (QS.mk (ps_set (i:=11) sc__law_tale.nd rfl (j1 rfl) (pe_ix ix_seq (pv 5) (pe_cal c2 (I.mono (by decide)) rfl (z00 (pv 3) (z00 (z0a z1c rfl (T.no (n_len _)) D4 (z00 (pv 5) pa_nil)) pa_nil))) (λ _ _=>rfl))))
   (z25 (qs_if (pt_cmp (pc_din (hu_of I) (pv 11) (pv 9)) (by with_unfolding_all rfl))
   (z0i (QS.mk (ps_set (i:=12) sc__law_tale.nd rfl (j1 rfl) (zjb (pv 9) (pv 11) ⟨rfl,rfl,rfl,rfl⟩)))
   (z0i (QS.mk (ps_if (z0b op_isN (pe_ix ix_seq (pv 12) pe_int (λ _ _=>rfl)) pe_non (nomark _))
   (z04 (ps_set (i:=7) sc__law_tale.nd rfl (j1 rfl) (pe_cal c5 (I.mono (by decide)) rfl (z00 (pv 4) (z00 (pv 7) (z00 (pv 12) pa_nil))))))
   z0d))
   (z0i (QS.mk (ps_set (i:=13) sc__law_tale.nd rfl (j1 rfl) (pe_ix ix_seq (pv 12) pe_int (λ _ _=>rfl))))
   (z0i (qs_if (PW.pt (pw_or (pt_val (z0a z0r rfl (T.no (z0g _)) C2 (z00 (pv 13) (z00 (z2w (v:=.ty "tuple") rfl (T.no (z34 _)) V4 rfl) pa_nil))) (λ _=>rfl)) (pw_or1 (z0b opEq (pe_cal c2 (I.mono (by decide)) rfl (z00 (pv 3) (z00 (pv 6) pa_nil))) pe_int (nomark _)))))
   (z25 (qs_set (i:=13) sc__law_tale.nd rfl (j1 rfl) (qe_ix ix_seq (qe_lst (z09 (QE.mk pe_str) (z09 (QE.mk pe_str) (z09 (QE.mk pe_int) (z09 (QE.mk pe_int) (z09 (QE.mk pe_int) (z09 (QE.mk (pe_op op_pow pe_int pe_int)) (z09 (QE.mk (pe_un un_neg pe_int)) qa_nil)))))))) (QE.mk (pe_cal c2 (I.mono (by decide)) rfl (z00 (pv 3) (z00 pe_int pa_nil)))) (λ _ _=>rfl))))
   (QSs.mk z0d))
   (z25 (QS.mk (z31 (z1x (pv 8) (z00 (pe_tup (z00 pe_str (z00 (pv 11) (z00 (pv 13) pa_nil)))) pa_nil)))))))))
   (z25 (QS.mk (ps_if (z0b op_lt (z0a z1c rfl (T.no (n_len _)) D4 (z00 (pe_cg (xs:=["event"]) (g:=gName 0) (fr:=[]) (z1m (pv 8)) (λ _ _ _ _ _=>(pg_cn (N:=["event"]) 0)) (λ _ _ _ _ _=>(pf_one (z0b opEq (pe_ix (z9h (K:=KX w.params) rfl) (pv 0) pe_int (λ _ _=>rfl)) pe_str (nomark _)))) (λ _ _ _ _ _=>(pv 0))) pa_nil)) (pv 1) (nomark _))
   (z03 (ps_asg (pe_ix ix_seq (pv 4) (pe_cal c2 (I.mono (by decide)) rfl (z00 (pv 3) (z00 (z0a z1c rfl (T.no (n_len _)) D4 (z00 (pv 4) pa_nil)) pa_nil))) (λ _ _=>rfl)) (pg_tup rfl (z0h (z0j (i:=14) sc__law_tale.nd rfl (j1 rfl)) (z0h (z0j (i:=15) sc__law_tale.nd rfl (j1 rfl)) z17))))
   (z03 (ps_asg (pe_cal c6 (I.mono (by decide)) rfl (z00 (pv 3) (z00 (pv 15) pa_nil))) (pg_tup rfl (z0h (z0j (i:=16) sc__law_tale.nd rfl (j1 rfl)) (z0h (z0j (i:=17) sc__law_tale.nd rfl (j1 rfl)) z17))))
   (z03 (z31 (z1x (pv 8) (z00 (pe_tup (z00 pe_str (z00 (pv 11) (z00 (pv 14) (z00 (pv 16) (z00 (pv 17) pa_nil)))))) pa_nil)))
   (z03 (z9a (hu_of I) (pv 9) (pv 11) (pe_lst (z00 (pv 14) (z00 (pv 16) (z00 (pv 17) (z00 pe_non pa_nil))))) rfl)
   (z04 (ps_if (z0b opEq (pe_cal c2 (I.mono (by decide)) rfl (z00 (pv 3) (z00 pe_int pa_nil))) pe_int (nomark _))
   (z04 (ps_set (i:=7) sc__law_tale.nd rfl (j1 rfl) (pe_cal c5 (I.mono (by decide)) rfl (z00 (pv 4) (z00 (pv 7) (z00 (z6o (hu_of I) (pv 9) (pv 11) (λ _ _=>rfl)) pa_nil))))))
   z0d))))))
   z0d))))))))
   (z25 (QS.mk (ps_ret (pe_tup (z00 (pv 4) (z00 (z0t z0k rfl (T.no (z34 _)) V4 (z00 (pv 8) pa_nil)) pa_nil))))))))))))))) ?_
  refine z0l ?_;refine ⟨_,rfl,sc,O,rfl,sq,λ i0=>⟨_,_,rfl,rfl,(show (0:Int) < 2 by decide),?_⟩⟩;refine g_name ?_;have y0:0<=i0 % 2:=R4 _ (by decide);have y1:i0 % 2 < 2:=P4 _ (by decide);refine z0l ?_;refine ⟨_,rfl,sc,O,rfl,sq,λ i1=>⟨_,_,rfl,rfl,⟨by decide,by decide⟩,_,rfl,w_3,λ X l4=>?_⟩⟩;refine g_name ?_;have s1:=Same.upd (o:=.lst [.int (i1 / 2),.int (i0 % 2),.int 0]) l4;have D1:DeckAt (upd H X (.lst [.int (i1 / 2),.int (i0 % 2),.int 0])) X 0:=⟨_,_,_,z01,y0,y1,j0d _,j0d _⟩
  generalize upd H X (.lst [.int (i1 / 2),.int (i0 % 2),.int 0])=H1 at s1 D1⊢;have only :∀{n:Nat} {Ha Hb:Hp},Same H Ha->Dw X n Ha Hb->Same H Hb:=λ sa wa=>z18 sa (wa.keptL (L:=[X]) (by simp)) λ c B=>by rw [List.mem_singleton.mp B];exact l4
  refine ⟨_,rfl,X,0,rfl,D1,by decide,λ pt S H2 w2 x4 th ok o1=>?_⟩;have s2:=only s1 w2;refine g_name (t_nx ?_);refine z0l ?_;refine ⟨w_4,λ G h1=>⟨w_4,λ a2 h2=>⟨w_2,λ a3 h3=>?_⟩⟩⟩;have q1:=Same.upd (o:=.lst [V.int 0,.int 1,.int 2,.int 5]) h1;have q2:=Same.upd (o:=.lst [V.int 5,.int 4,.int 3,.int 0]) h2;have q3:=Same.upd (o:=.lst [.ref G,.ref a2]) h3;have f1:=q3 _ _ (q2 _ _ (z01 (H:=H2) (a:=G) (o:=.lst [V.int 0,.int 1,.int 2,.int 5])));have f2:=q3 _ _ (z01 (H:=upd H2 G (.lst [V.int 0,.int 1,.int 2,.int 5])) (a:=a2) (o:=.lst [V.int 5,.int 4,.int 3,.int 0]));have f3:=z01 (H:=upd (upd H2 G (.lst [V.int 0,.int 1,.int 2,.int 5])) a2 (.lst [V.int 5,.int 4,.int 3,.int 0])) (a:=a3) (o:=.lst [.ref G,.ref a2]);have n1:G≠X:=w2.r.fresh h1;have n2:a2≠X:=(w2.r.same q1).fresh h2;have n3:a3≠X:=(w2.r.same (q1.trans q2)).fresh h3;have f7:=(q1.trans q2).trans q3;generalize upd (upd (upd H2 G (.lst [V.int 0,.int 1,.int 2,.int 5])) a2 (.lst [V.int 5,.int 4,.int 3,.int 0])) a3 (.lst [.ref G,.ref a2])=H3 at f1 f2 f3 f7⊢;have D3:=w2.r.same f7;have t1:=th.tt (.of (K:=KX w.params) f7);have s3:=s2.trans f7;refine ⟨_,rfl,X,2,_,rfl,D3,by decide,by decide,by decide,λ t4 H4 w4 r5 r3=>?_⟩;obtain ⟨v4,n4,k5⟩:=atI_of (xs:=[V.ref G,.ref a2]) r5 r3;obtain ⟨aX,b0,rfl,eX,nX,lX,bX⟩ :∃(aX:Addr) (b0:List Int),v4=.ref aX/\H3 aX=some (.lst (b0.map V.int))/\aX≠X/\b0.length=4/\∀x∈b0,0<=x/\x<=5:=by
   simp only [P1,C0,or_false] at k5;rcases k5 with rfl|rfl
   ·exact ⟨G,[0,1,2,5],rfl,f1,n1,rfl,by decide⟩
   ·exact ⟨a2,[5,4,3,0],rfl,f2,n2,rfl,by decide⟩
  refine .inl ⟨a3,_,t4,_,rfl,rfl,SqL.of (w4.k _ _ n3 f3),n4,?_⟩;have r7:=w4.k _ _ nX eX;have s4:=only s3 w4;have v0:=t1.tt (w4.tt (K:=KX w.params) D3);refine ⟨_,rfl,X,4,_,rfl,w4.r,by decide,by decide,by decide,λ t5 H5 w5 v1 x0=>.inl ⟨1,t5,rfl,rfl,_,rfl,.inl ⟨aX,_,rfl,SqL.of (w5.k _ _ nX r7),λ C i2=>?_⟩⟩⟩;have s5:=only s4 w5;have p5:=v0.tt (w5.tt (K:=KX w.params) w4.r);obtain ⟨m5,rfl⟩:=Int.eq_ofNat_of_zero_le v1;have ec:cutV (b0.map V.int) none (some (1 + (m5:Int)))=(b0.take (1 + m5)).map V.int:=by rw [show (1:Int) + (m5:Int)=((1 + m5:Nat):Int) by omega,(cut_to (ys:=b0.map V.int) (m:=1 + m5) (by rw [K0];omega)).1,List.map_take]
  rw [ec];have r9:(b0.take (1 + m5)).length=1 + m5:=by rw [X3];omega
  have m1 :∀x∈b0.take (1 + m5),0<=x/\x<=5:=λ x hx=>bX x (O8 hx);generalize b0.take (1 + m5)=hs at r9 m1⊢;refine g_name ?_;have q6:=Same.upd (o:=.lst (hs.map V.int)) i2;have e6:upd H5 C (.lst (hs.map V.int)) C=some (.lst (hs.map V.int)):=z01;have o4:C≠X:=w5.r.fresh i2;have w0:H C=none:=s5.free i2;generalize upd H5 C (.lst (hs.map V.int))=H6 at q6 e6⊢;have D6:=w5.r.same q6;have s6:=s5.trans q6;have o7:=p5.tt (.of (K:=KX w.params) q6);refine z0l ?_;refine ⟨w_4,λ a7 h7=>⟨_,rfl,X,4,_,rfl,D6.same (Same.upd h7),by decide,by decide,by decide,λ t7 H7 w7 o9 n7=>?_⟩⟩;obtain ⟨v7,q0,l0⟩:=atI_of (xs:=[V.int 3,.int 8,.int 40,.int 40]) o9 n7;obtain ⟨b3,rfl,o6,x5⟩ :∃b3:Int,v7=.int b3/\0 < b3/\b3<=40:=by simp only [P1,C0,or_false] at l0;rcases l0 with rfl|rfl|rfl|rfl<;>exact ⟨_,rfl,by decide,by decide⟩
  refine .inl ⟨a7,_,t7,_,rfl,rfl,SqL.of (w7.k _ _ (D6.fresh h7) z01),q0,?_⟩;refine g_name ?_;have e7:=w7.k _ _ o4 ((Same.upd (o:=.lst [V.int 3,.int 8,.int 40,.int 40]) h7) _ _ e6);have k3:=(o7.tt (.of (K:=KX w.params) (Same.upd (o:=.lst [V.int 3,.int 8,.int 40,.int 40]) h7))).tt (w7.tt (K:=KX w.params) (D6.same (Same.upd h7)));have s7:=only (s6.trans (Same.upd (o:=.lst [V.int 3,.int 8,.int 40,.int 40]) h7)) w7;refine ⟨_,rfl,pt,S,rfl,k3,ok.n6,λ U M s8 e0=>?_⟩;have e8:=s8 _ _ e7;have r4:=k3.tt (.of (K:=KX w.params) s8);have s8:=s7.trans s8;refine ⟨w_0,λ l hl=>?_⟩;have q9:=Same.upd (o:=.lst []) hl;have d2:upd M l (.lst []) l=some (.lst []):=z01;have j6:l≠C:=λ z=>by rw [z,e8] at hl;cases hl
  have fl:H l=none:=s8.free hl;have e9:=q9 _ _ e8;have k4:=r4.tt (.of (K:=KX w.params) q9);have f9:=(e0.sts (K:=KX w.params)).tups (.of q9);have s9:=s8.trans q9;generalize upd M l (.lst [])=H9 at q9 d2 e9 k4 f9 s9⊢;intro u hu;have a5:=Same.upd (o:=.dK []) hu;have fu:H u=none:=s9.free hu;have c9:l≠u:=λ z=>by rw [<-z,d2] at hu;cases hu
  have g9:C≠u:=λ z=>by rw [<-z,e9] at hu;cases hu
  have J0:TaJ (kx w) (upd H9 u (.dK [])) H pt U u l C S hs 0 [] []:=⟨k4.tt (.of (K:=KX w.params) a5),f9.tups (.of a5),⟨[],z01,B0 _,rfl,λ k v e=>by cases e⟩,⟨[],a5 _ _ d2,.nil⟩,a5 _ _ e9,B0 _,trivial,U1 _,λ _ h=>absurd h C0⟩
  have e3:=s9.trans a5;generalize upd H9 u (.dK [])=a6 at J0 e3⊢;have hb :∀L:Int,0<=(if (if L > 0 then L else 0) < 2 * 4 then (if L > 0 then L else 0) else 2 * 4)/\(if (if L > 0 then L else 0) < 2 * 4 then (if L > 0 then L else 0) else 2 * 4)<=20:=λ L=>by split<;>split<;>omega
  obtain ⟨b1,b2⟩:=hb (((O.map V.int).length:Int) - 1);refine ⟨_,rfl,_,_,rfl,rfl,.inl ⟨by decide,by decide⟩,_,rfl,.inl ⟨sc,_,rfl,.inl (e3.seq sq),_,_,rfl,rfl,_,_,rfl,_,_,rfl,(if (if ((O.map V.int).length:Int) - 1 > 0 then ((O.map V.int).length:Int) - 1 else 0) < 2 * 4 then (if ((O.map V.int).length:Int) - 1 > 0 then ((O.map V.int).length:Int) - 1 else 0) else 2 * 4),rfl,by omega,by omega,?_⟩⟩;generalize (if (if ((O.map V.int).length:Int) - 1 > 0 then ((O.map V.int).length:Int) - 1 else 0) < 2 * 4 then (if ((O.map V.int).length:Int) - 1 > 0 then ((O.map V.int).length:Int) - 1 else 0) else 2 * 4)=JJ at b1 b2⊢;have tn:JJ.toNat<=20:=by omega
  generalize JJ.toNat=tt at tn⊢;refine z5x (lo:=0) (n:=tt) (λ i σ H'=>∃U es,TaJ (kx w) H' H pt U u l C S hs i (es.foldl oStep []) es/\Same H H'/\∃x3 Y x11 x12 x13 x14 x15 x16 x17,σ=[some (.ref sc),some (.int 4),some (.int (i0 % 2)),x3,some (.ref pt),some (.ref C),some (.int b3),some (.ref U),some (.ref l),some (.ref u),Y,x11,x12,x13,x14,x15,x16,x17])
   ⟨U,[],J0,e3,_,_,_,_,_,_,_,_,_,rfl⟩ ?_ ?_
  ·rintro i σ H3 hi ⟨U,es,J,s3,x3,Y,x11,x12,x13,x14,x15,x16,x17,rfl⟩;rw [Int.zero_add];refine g_name ?_;obtain ⟨ms,em⟩ :∃ms:List Int,pickV (O.map V.int) (some (1 + (i:Int))) (some 63) (some (2 * 4))=ms.map V.int:=zim λ y hy=>by obtain ⟨c,_,rfl⟩:=List.mem_map.mp (zhj hy);exact ⟨c,rfl⟩
   have pl:(pickV (O.map V.int) (some (1 + (i:Int))) (some 63) (some (2 * 4))).length<=sizeLine:=D0 (zgp (by omega)) (by rw [K0];exact D0 hn (by decide));refine z0l ?_;refine ⟨_,rfl,_,rfl,.inl ⟨_,_,rfl,rfl,_,rfl,63,rfl,_,rfl,_,_,rfl,rfl,.inl ⟨by decide,by decide⟩,_,rfl,sc,_,rfl,s3.seq sq,(show (some (2 * 4:Int))≠some 0 from λ e=>by injection e with e;omega),pl,λ p4 u4=>?_⟩⟩;have q4:=Same.upd (o:=.lst (pickV (O.map V.int) (some (1 + (i:Int))) (some 63) (some (2 * 4)))) u4;refine ⟨p4,ms,rfl,SqL.of (by rw [<-em];exact z01),?_⟩;refine ⟨_,rfl,_,rfl,_,_,rfl,rfl,.inl ⟨by decide,by decide⟩,.inl ⟨_,_,rfl,rfl,w_3,λ D e4=>?_⟩⟩;refine g_name ?_;have q5:=Same.upd (o:=.lst [.int ms.sum,.int (i0 % 2),.int (9 + 5 * (i:Int))]) e4;have D5:DeckAt (upd (upd H3 p4 (.lst (pickV (O.map V.int) (some (1 + (i:Int))) (some 63) (some (2 * 4))))) D (.lst [.int ms.sum,.int (i0 % 2),.int (9 + 5 * (i:Int))])) D (9 + 5 * i):=⟨_,_,_,z01,y0,y1,by omega,by omega⟩
   have J5:=(J.same q4).same q5;have p6:H D=none:=(s3.trans q4).free e4;have s5:=(s3.trans q4).trans q5;generalize upd (upd H3 p4 (.lst (pickV (O.map V.int) (some (1 + (i:Int))) (some 63) (some (2 * 4))))) D (.lst [.int ms.sum,.int (i0 % 2),.int (9 + 5 * (i:Int))])=H5 at D5 J5 s5⊢;have nd:u≠D/\l≠D/\C≠D:=by
    obtain ⟨G,b1,c1,e1,_⟩:=D5;refine ⟨λ z=>?_,λ z=>?_,λ z=>?_⟩
    ·obtain ⟨kv,e,_⟩:=(J.same q4).uw;rw [z,e4] at e;cases e
    ·obtain ⟨kv,e,_⟩:=(J.same q4).ev;rw [z,e4] at e;cases e
    ·have e:=(J.same q4).hn;rw [z,e4] at e;cases e
   have g4 :∀{n:Nat} {Ha Hb:Hp},Same H Ha->Dw D n Ha Hb->Same H Hb:=λ sa wa=>z18 sa (wa.keptL (L:=[D]) (by simp)) λ c B=>by rw [List.mem_singleton.mp B];exact p6
   refine z0l ?_;refine ⟨_,rfl,_,rfl,_,rfl,.inl ⟨C,_,rfl,.inl (SqL.of J5.hn),D,_,_,rfl,D5,by omega,by rw [K0];omega,by rw [K0];omega,λ t6 H6 w6 o8 p3=>?_⟩⟩;obtain ⟨v6,p1,o5⟩:=atI_of (xs:=hs.map V.int) o8 p3;obtain ⟨b,k2,rfl⟩:=List.mem_map.mp o5;have Z:=J5.dw D5 w6 nd;have s6:=g4 s5 w6;have D6:=w6.r;refine .inl ⟨C,_,t6,_,rfl,rfl,SqL.of Z.hn,p1,?_⟩;refine g_name ?_;obtain ⟨a8,b5,o0,g5,m3⟩:=Z.uw;have dg:DGet H6 u (.int b) (valV a8 (.inl b)):=DGet.k (k:=.inl b) b5;refine ⟨_,rfl,_,rfl,u,_,rfl,dg,_,rfl,?_⟩;cases hv:valV a8 (.inl b) with
   | some v=>
    refine iteP rfl ?_;obtain ⟨f,rfl,ow,g0,f8,g2⟩:=m3 _ _ hv;refine z0l ?_;refine ⟨_,rfl,u,rfl,.inl ⟨_,.inl b5⟩,_,rfl,a8,.inl b,.ref f,b5,rfl,hv,?_⟩;refine g_name ?_;have k7:KeptL [u] H6 (upd H6 u (.dK (dropK a8 (.inl b)))):=KeptL.set (by simp);have T7:Tt (kx w) H6 (upd H6 u (.dK (dropK a8 (.inl b)))):=KeptL.tt k7 λ c B=>by rw [List.mem_singleton.mp B];exact .inr ⟨_,b5⟩
    have m8:upd H6 u (.dK (dropK a8 (.inl b))) u=some (.dK (dropK a8 (.inl b))):=z01;generalize upd H6 u (.dK (dropK a8 (.inl b)))=H7 at k7 T7 m8⊢;obtain ⟨ys,c8,e2⟩:=Z.ev;have c9:l≠u:=λ z=>by rw [z,b5] at c8;cases c8
    have g9:C≠u:=λ z=>by have:=Z.hn;rw [z,b5] at this;cases this
    have d5 :∀{p:Addr},OwnAt (kx w) H6 S p->p≠u:=λ o z=>by obtain ⟨_,_,_,_,_,_,e,_⟩:=o;rw [z,b5] at e;cases e
    have t8:b∈es.foldl oStep []:=by have:(Sum.inl b:Key)∈a8.map (·.1):=valV_isSomeK.mp (by rw [hv];rfl);rw [g5] at this;obtain ⟨k,hk,e⟩:=List.mem_map.mp this;exact n8 e ▸ hk
    have J7:TaJ (kx w) H7 H pt U u l C S hs i ((es.foldl oStep []).filter λ k=>decide (k≠b)) es:=⟨Z.th.tt T7,Z.st.tups T7.t,⟨_,m8,D0 (zfi _ _) o0,zg4 g5,λ k v e=>by obtain ⟨p,h1,h2,h3⟩:=m3 k v (zdo e);exact ⟨p,h1,h2.tt T7 λ o e=>k7 _ _ (by simp [d5 h2]) e,h3⟩⟩,⟨ys,k7 _ _ (by simp [c9]) c8,z02 (λ _ _ y=>y.tt T7) e2⟩,k7 _ _ (by simp [g9]) Z.hn,Z.ln,Z.wf,Z.cn,Z.hb⟩
    have e5:=ow.tt T7 λ o e=>k7 _ _ (by simp [d5 ow]) e;have D7:DeckAt H7 D (9 + 5 * i + 1):=by obtain ⟨G,b1,c1,e1,z1⟩:=D6;exact ⟨G,b1,c1,k7 _ _ (by simp [V3 nd.1]) e1,z1⟩
    have s7:Same H H7:=z18 s6 k7 λ c B=>by rw [List.mem_singleton.mp B];exact fu
    have j3:f≠D:=λ z=>by obtain ⟨_,_,_,_,_,_,e,_⟩:=e5;obtain ⟨G,b1,c1,e1,_⟩:=D7;rw [z,e1] at e;cases e
    obtain ⟨nm,vb,x,a,k,d,eo,hm,h9,ix,wi,an⟩:=id e5;refine z5q (λ σ1 M=>∃ps' a' xs,KeptL [f] H7 M/\OwnAt (kx w) M S f/\M f=some (.lst (xs++[a']))/\xs.length=3/\AnsI a'/\StsT (kx w) M ps' S (i + 1)/\σ1=[some (.ref sc),some (.int 4),some (.int (i0 % 2)),some (.ref D),some (.ref pt),some (.ref C),some (.int b3),some (.ref ps'),some (.ref l),some (.ref u),some (.int (i:Int)),some (.int b),some (.ref f),x13,x14,x15,x16,x17]) ?_ (λ tl=>?_);rotate_left
    ·refine ⟨_,rfl,.inl ⟨f,_,3,a,rfl,rfl,SqL.of eo,z07 (j:=3) rfl,rfl,_,rfl,?_⟩⟩;by_cases za:a=.non
     ·refine iteP (decide_eq_true za) ?_;refine ⟨_,rfl,_,rfl,_,rfl,pt,U,f,S,i,rfl,J7.th,ok,J7.st,by omega,e5,?_⟩;rintro p' M k8 j0 ⟨a',xs,e8,l8,ai⟩ e0;exact tl _ _ ⟨p',a',xs,k8,j0,e8,l8,ai,e0,rfl⟩
     ·exact iteN (by rw [decide_eq_false za];decide) (tl _ _ ⟨U,a,[.str nm,.str vb,x],KeptL.refl,e5,eo,rfl,an.resolve_left za,J7.st.le (M3 _),rfl⟩)
    rintro σ8 M ⟨ps',a',xs8,k8,j0,e8,l8,ai,e0,rfl⟩;have T8:Tt (kx w) H7 M:=KeptL.tt k8 λ c B=>by rw [List.mem_singleton.mp B];exact e5.mutAt
    have J8:TaJ (kx w) M H pt U u l C S hs i ((es.foldl oStep []).filter λ k=>decide (k≠b)) es:=J7.tt T8 [f] k8 ⟨by simp [V3 (d5 ow)],by simp [V3 g0],by simp [V3 f8]⟩ λ p hp _=>by rw [List.mem_singleton.mp hp];exact j0
    have D8:DeckAt M D (9 + 5 * i + 1):=by obtain ⟨G,b1,c1,e1,z1⟩:=D7;exact ⟨G,b1,c1,k8 _ _ (by simp [V3 j3]) e1,z1⟩
    have s8:Same H M:=z18 s7 k8 λ c B=>by rw [List.mem_singleton.mp B];exact g2
    refine z0l ?_;refine ⟨_,rfl,.inl ⟨f,_,3,a',rfl,rfl,SqL.of e8,z07 (j:=3) (by rw [D2 (by omega),l8];rfl),?_⟩⟩;refine g_name ?_;refine z5q (λ σ1 H9=>∃a9 n9,Dw D n9 M H9/\AnsI a9/\σ1=[some (.ref sc),some (.int 4),some (.int (i0 % 2)),some (.ref D),some (.ref pt),some (.ref C),some (.int b3),some (.ref ps'),some (.ref l),some (.ref u),some (.int (i:Int)),some (.int b),some (.ref f),some a9,x14,x15,x16,x17]) ?_ (λ m7=>?_);rotate_left
    ·obtain ⟨T0,tg,nt⟩ :∃T0,TagOf M a' T0/\instB T0 "tuple" = false:=by
      rcases ai with ⟨i9,rfl⟩|rfl|rfl
      ·exact ⟨"int",rfl,by decide⟩
      ·exact ⟨"str",rfl,by decide⟩
      ·exact ⟨"str",rfl,by decide⟩
     refine ⟨_,rfl,_,_,T0,rfl,tg,by decide,_,rfl,?_⟩;rw [nt];refine iteF ?_;refine ⟨_,rfl,_,rfl,D,b3,_,rfl,D8,by omega,o6,by omega,λ t9 H9 w9 _ _=>⟨rfl,_,rfl,ite2 (λ _=>?_) λ _=>m7 _ _ ⟨a',_,w9,ai,rfl⟩⟩⟩;refine ⟨_,_,rfl,rfl,p9,_,rfl,w_7,λ l9 h8=>?_⟩;refine ⟨_,rfl,D,7,_,rfl,w9.r.same (Same.upd h8),by omega,by decide,by decide,λ p0 a6 f5 h0 h1=>?_⟩;obtain ⟨a0,v3,i5⟩:=atI_of (xs:=[V.str "ok",.str "none",.int 0,.int 1,.int 2,.int (10 ^ (9:Int).toNat),.int (-1)]) h0 h1;refine .inl ⟨l9,_,p0,a0,rfl,rfl,SqL.of (f5.k _ _ (w9.r.fresh h8) z01),v3,m7 _ _ ⟨a0,_,(w9.same (Same.upd h8)).trans f5,?_,rfl⟩⟩;simp only [P1,C0,or_false] at i5;rcases i5 with rfl|rfl|rfl|rfl|rfl|rfl|rfl
     ·exact .inr (.inl rfl)
     ·exact .inr (.inr rfl)
     ·exact .inl ⟨_,rfl⟩
     ·exact .inl ⟨_,rfl⟩
     ·exact .inl ⟨_,rfl⟩
     ·exact .inl ⟨_,rfl⟩
     ·exact .inl ⟨_,rfl⟩
    rintro σ9 H9 ⟨a9,n9,w9,ai9,rfl⟩;have J9:=J8.dw D8 w9 nd;have f9:=e0.tups (w9.tt D8).t;have s9:=g4 s8 w9;obtain ⟨W,d2,m9⟩:=J9.ev;have h5:W.length<=20:=by rw [z05 m9];have:=J9.ln;omega
    refine ⟨_,rfl,.inl ⟨rfl,_,SqL.of d2⟩,_,rfl,_,rfl,w_3,λ a4 o2=>?_⟩;have a5:=Same.upd (o:=.tup [.str "end",.int b,a9]) o2;have g3:upd H9 a4 (.tup [.str "end",.int b,a9]) a4=some (.tup [.str "end",.int b,a9]):=z01;have F:=J9.same a5;have m4:=f9.tups (.of a5);generalize upd H9 a4 (.tup [.str "end",.int b,a9])=a6 at a5 g3 F m4⊢;have f4:=a5 _ _ d2;have g8:=z02 (λ _ _ z=>EvQ.tt (.of a5) z) m9;refine ⟨l,W,_,rfl,rfl,f4,Q1 h5 (by decide),?_⟩;have d8:KeptL [l] a6 (upd a6 l (.lst (W++[.ref a4]))):=KeptL.set (by simp);have d0:Tt (kx w) a6 (upd a6 l (.lst (W++[.ref a4]))):=KeptL.tt d8 λ c B=>by rw [List.mem_singleton.mp B];exact .inl ⟨_,f4⟩
    have f0:upd a6 l (.lst (W++[.ref a4])) l=some (.lst (W++[.ref a4])):=z01;generalize upd a6 l (.lst (W++[.ref a4]))=b7 at d8 d0 f0⊢;obtain ⟨b4,f6,k0,g1,i6⟩:=F.uw;have g7:C≠l:=λ z=>j6 z.symm;have h6:u≠l:=λ z=>c9 z.symm;refine ⟨ps',es++[.fin b a9],⟨F.th.tt d0,m4.tups d0.t,⟨b4,d8 _ _ (by simp [h6]) f6,L3 k0,by rw [P9];exact g1,λ k v e=>?_⟩,⟨_,f0,?_⟩,d8 _ _ (by simp [g7]) F.hn,?_,EWf.snoc (e:=.fin b a9) F.wf t8,D0 (F5 zl7) F.cn,zex (e:=.fin b a9) F.hb k2⟩,z18 (s9.trans a5) d8 (λ c B=>by rw [List.mem_singleton.mp B];exact fl),_,_,_,_,_,_,_,_,_,rfl⟩
    ·obtain ⟨p,h1,h2,h3⟩:=i6 k v e;exact ⟨p,h1,h2.tt d0 λ o e=>d8 _ _ (by simp [h3.1]) e,h3⟩
    ·refine z1v (z02 (λ _ _ z=>EvQ.tt d0 z) g8) ?_;have se:=d0.l _ _ g3;refine ⟨⟨a4,rfl,SqT.of se⟩,⟨a4,_,rfl,SqT.of se⟩,?_⟩;rcases ai9 with ⟨i9,rfl⟩|rfl|rfl
     ·exact .inl ⟨_,rfl⟩
     ·exact .inr ⟨_,rfl⟩
     ·exact .inr ⟨_,rfl⟩
    ·rw [M0];exact J4 F.ln
   | none=>
    refine iteN (by decide) ?_;obtain ⟨ys,c8,e2⟩:=Z.ev;have c9:l≠u:=λ z=>by rw [z,b5] at c8;cases c8
    have p2:ys.length<=20:=by rw [z05 e2];have:=Z.ln;omega
    refine zej (zk7 ?_);refine zcz (α:=Ev×V) (K:=KX w.params) (l:=l) (rs:=es.zip ys) (xs:=ys) (RA:=λ H a v=>a.2=v/\EvQ (kx w) S H a.1 v) (.fin 0 .non,.non) (λ a=>decide (V.str (wordE a.1)=V.str "begin")) (λ a=>a.2) (λ R h=>⟨_,rfl,h⟩) (SqL.of c8) (λ H H' a v s z=>⟨z.1,z.2.tt (.of s)⟩) (zeb e2) ?_ ?_ ?_
    ·exact D0 (by rw [List.length_zip];exact Nat.min_le_right _ _) (D0 p2 (by decide))
    ·rintro ⟨z,v⟩ _ v' H7 s7 ⟨rfl,⟨_,⟨p,r,rfl,sqp⟩,_⟩⟩ KT KF h1 h2;refine ⟨[some (.ref p)],rfl,rfl,?_⟩;refine ⟨_,rfl,.inr (.inl ⟨p,_,0,.str (wordE z),rfl,rfl,sqp,z07 (j:=0) rfl,rfl,_,rfl,?_⟩)⟩;by_cases y:decide (V.str (wordE z)=V.str "begin")=true
     ·exact iteP y ⟨_,rfl,h1 y _ (Same.refl _)⟩
     ·exact iteN y (h2 (by simpa using y) _ (Same.refl _))
    intro l7 H7 q7 t2;have q8:=Same.upd (o:=.lst (((es.zip ys).filter λ a=>decide (V.str (wordE a.1)=V.str "begin")).map λ a=>a.2)) t2;refine .inl ⟨l7,_,rfl,.inl (SqL.of z01),_,rfl,_,_,rfl,rfl,_,rfl,?_⟩;have J8:=Z.same (q7.trans q8);have D8:=D6.same (q7.trans q8);have s8:=s6.trans (q7.trans q8);generalize upd H7 l7 (.lst (((es.zip ys).filter λ a=>decide (V.str (wordE a.1)=V.str "begin")).map λ a=>a.2))=M at J8 D8 s8⊢;refine ite2 (λ g6=>?_) λ _=>⟨U,es,J8.le,s8,_,_,_,_,_,_,_,_,_,rfl⟩
    have n5:bgN es + 1<=4:=by have g6:=of_decide_eq_true g6;have hz:((es.zip ys).filter λ a=>decide (V.str (wordE a.1)=V.str "begin")).length=bgN es:=zit (p:=isBg) (z05 e2).symm;rw [K0,hz] at g6;exact Int.ofNat_lt.mp g6
    obtain ⟨yt,l3,l2⟩:=J8.th;have v8:yt.length=S.length:=z05 l2;have w3:=ok.n0;have w8:=ok.n6;refine ⟨_,rfl,_,rfl,_,rfl,.inl ⟨pt,yt,rfl,.inr (SqT.of l3),D,_,_,rfl,D8,by omega,by omega,by omega,λ t9 H9 w9 u7 u8=>?_⟩⟩;obtain ⟨v9,u3,v5⟩:=atI_of (xs:=yt) u7 u8;obtain ⟨j,hj⟩:=List.mem_iff_getElem?.mp v5;obtain ⟨t,ht,b9,rfl,e9⟩:=z0e l2 hj;have i8:=S0 ht;have T9:Tt (kx w) M H9:=w9.tt D8;refine .inr (.inl ⟨pt,yt,t9,_,rfl,rfl,SqT.of (T9.l _ _ l3),u3,b9,_,rfl,SqT.of (T9.l _ _ e9),rfl,_,_,rfl,_,_,rfl,rfl,?_⟩);refine ⟨_,rfl,_,rfl,D,t.2,_,rfl,w9.r,by omega,ok.ks t i8,λ a4 a0 Y j4 a6 t3 f5 i5 g3 _ h9 ix wi=>⟨a4,_,rfl,SqT.of g3,rfl,_,_,rfl,_,_,rfl,rfl,?_⟩⟩;have m2:=w9.trans f5;have F:=J8.dw D8 m2 nd;have u0:=f5.r;have e3:=g4 s8 m2;obtain ⟨W,f4,g8⟩:=F.ev;have h5:W.length<=20:=by rw [z05 g8];have:=F.ln;omega
    refine ⟨_,rfl,.inl ⟨rfl,_,SqL.of f4⟩,_,rfl,_,rfl,_,rfl,_,rfl,w_5,λ c7 t0=>?_⟩;obtain ⟨b7,v_,d4,u6⟩:=newA (.tup [.str "begin",.int b,.str t.1,.str a0,Y]) t0;rw [<-v_];have f0:=d4 _ _ f4;refine ⟨l,W,_,rfl,rfl,f0,Q1 h5 (by decide),?_⟩;have d3:KeptL [l] b7 (upd b7 l (.lst (W++[.ref c7]))):=KeptL.set (by simp);have j7:Tt (kx w) b7 (upd b7 l (.lst (W++[.ref c7]))):=KeptL.tt d3 λ c B=>by rw [List.mem_singleton.mp B];exact .inl ⟨_,f0⟩
    have i7:upd b7 l (.lst (W++[.ref c7])) l=some (.lst (W++[.ref c7])):=z01;generalize upd b7 l (.lst (W++[.ref c7]))=H12 at d3 j7 i7⊢;obtain ⟨b4,f6,k0,g1,i6⟩:=F.uw;have g7:C≠l:=λ z=>j6 z.symm;have h6:u≠l:=λ z=>c9 z.symm;have j9:Same H H12:=z18 (e3.trans d4) d3 λ c B=>by rw [List.mem_singleton.mp B];exact fl
    have k9:=d3 _ _ (show u∉[l] by simp [h6]) (d4 _ _ f6);have u1:=d3 _ _ (show C∉[l] by simp [g7]) (d4 _ _ F.hn);refine ⟨_,rfl,_,rfl,_,rfl,w_4,λ f b8=>?_⟩;have d6:=Same.upd (o:=.lst [.str t.1,.str a0,Y,.non]) b8;have j5:upd H12 f (.lst [.str t.1,.str a0,Y,.non]) f=some (.lst [.str t.1,.str a0,Y,.non]):=z01;have g0:f≠l:=λ z=>by rw [z,i7] at b8;cases b8
    have f8:f≠C:=λ z=>by rw [z,u1] at b8;cases b8
    have d5:f≠u:=λ z=>by rw [z,k9] at b8;cases b8
    have g2:H f=none:=j9.free b8;generalize upd H12 f (.lst [.str t.1,.str a0,Y,.non])=H13 at d6 j5⊢;have l6:=d6 _ _ k9;refine ⟨_,rfl,_,rfl,u,_,rfl,DPut.k (k:=.inl b) l6 (Q1 (m:=100) (by omega) (by decide)),?_⟩;have d7:KeptL [u] H13 (upd H13 u (.dK (putK b4 (.inl b) (.ref f)))):=KeptL.set (by simp);have l5:Tt (kx w) H13 (upd H13 u (.dK (putK b4 (.inl b) (.ref f)))):=KeptL.tt d7 λ c B=>by rw [List.mem_singleton.mp B];exact .inr ⟨_,l6⟩
    have j2:upd H13 u (.dK (putK b4 (.inl b) (.ref f))) u=some (.dK (putK b4 (.inl b) (.ref f))):=z01;generalize upd H13 u (.dK (putK b4 (.inl b) (.ref f)))=H14 at d7 l5 j2⊢;have k1:Tt (kx w) b7 H14:=(j7.trans (.of d6)).trans l5;have T:Tt (kx w) a6 H14:=Tt.trans (.of d4) k1;have kk:KeptL [l,u] a6 H14:=λ c o n e=>by simp only [P1,C0,or_false,not_or] at n;exact d7 _ _ (by simp [n]) (d6 _ _ (d3 _ _ (by simp [n]) (d4 _ _ e)))
    have p7:Same H H14:=z18 (j9.trans d6) d7 λ c B=>by rw [List.mem_singleton.mp B];exact fu
    have j8:=d7 _ _ (show f∉[u] by simp [d5]) j5;have m6:OwnAt (kx w) H14 S f:=⟨t.1,a0,Y,.non,t.2,j4,j8,i8,h9,IsDt.mono' T.t _ _ ix,wi.tt T,.inl rfl⟩
    have l1:(Sum.inl b:Key)∉a8.map (·.1):=λ z=>by have:=valV_isSomeK.mpr z;rw [hv] at this;cases this
    have r6:b∉es.foldl oStep []:=λ z=>l1 (by rw [g5];exact List.mem_map.mpr ⟨b,z,rfl⟩);have o3:TaJ (kx w) H14 H pt U u l C S hs (i + 1) ((es++[Ev.beg b (.str t.1) (.str a0) Y]).foldl oStep []) (es++[.beg b (.str t.1) (.str a0) Y]):=by
     refine ⟨F.th.tt T,(F.st.tups T.t).le (M3 _),⟨_,j2,D0 (z88 _ _ _) (by omega),?_,λ k v e=>?_⟩,⟨_,d7 _ _ (show l∉[u] by simp [c9]) (d6 _ _ i7),?_⟩,kk _ _ (by simp [g7,g9]) F.hn,?_,EWf.snoc (e:=.beg b (.str t.1) (.str a0) Y) F.wf r6,D0 (F5 zl6) n5,zex (e:=.beg b (.str t.1) (.str a0) Y) F.hb k2⟩
     ·have r8:(Sum.inl b:Key)∉b4.map (·.1):=by rw [g1,<-g5];exact l1
      rw [P9,zf0 r8,B2,g1];show _=((es.foldl oStep [])++[b]).map Sum.inl;rw [B2];rfl
     ·rw [z48] at e;by_cases z:k=.inl b
      ·rw [if_pos z] at e;cases e;exact ⟨f,rfl,m6,g0,f8,g2⟩
      ·rw [if_neg z] at e;obtain ⟨p,h1,h2,h3⟩:=i6 k v e;refine ⟨p,h1,h2.tt T λ o e=>kk _ _ ?_ e,h3⟩;have:p≠u:=λ y=>by obtain ⟨_,_,_,_,_,_,e,_⟩:=h2;rw [y,f6] at e;cases e
       simp [h3.1,this]
     ·refine z1v (z02 (λ _ _ z=>EvQ.tt T z) g8) ?_;have se:=k1.l _ _ u6;exact ⟨⟨c7,rfl,SqT.of se⟩,⟨c7,_,rfl,SqT.of se⟩,⟨t.1,t.2,a0,j4,rfl,rfl,i8,h9,IsDt.mono' T.t _ _ ix,wi.tt T⟩⟩
     ·rw [M0];exact J4 F.ln
    have d9:DeckAt H14 D t3:=by obtain ⟨G,b1,c1,e1,z1⟩:=u0;exact ⟨G,b1,c1,kk _ _ (by simp [V3 nd.1,V3 nd.2.1]) e1,z1⟩
    have j3:f≠D:=λ z=>by obtain ⟨G,b1,c1,e1,_⟩:=d9;rw [<-z,j8] at e1;cases e1
    refine ⟨_,rfl,D,2,_,rfl,d9,by omega,by decide,by decide,λ w1 h4 d1 _ _=>⟨rfl,_,rfl,?_⟩⟩;have i4:=o3.dw d9 d1 nd;have k6:=g4 p7 d1;have s0:=d1.k _ _ nd.1 j2;have m0:OwnAt (kx w) h4 S f:=m6.tt (d1.tt d9) λ o e=>d1.k _ _ j3 e;refine ite2 (λ _=>?_) λ _=>⟨U,_,i4,k6,_,_,_,_,_,_,_,_,_,rfl⟩
    have r1:DGet h4 u (.int b) (some (.ref f)):=by have:=DGet.k (k:=.inl b) s0;rw [z48,if_pos rfl] at this;exact this
    refine ⟨_,rfl,_,rfl,_,rfl,_,rfl,u,.ref f,rfl,r1,pt,U,f,S,i,rfl,i4.th,ok,F.st.tups (T.trans (d1.tt d9)).t,by omega,m0,?_⟩;rintro p' r2 i3 u2 _ p8;have r0:Tt (kx w) h4 r2:=KeptL.tt i3 λ c B=>by rw [List.mem_singleton.mp B];exact m0.mutAt
    have b6:=i4.tt r0 [f] i3 ⟨by simp [V3 d5],by simp [V3 g0],by simp [V3 f8]⟩ λ p hp _=>by rw [List.mem_singleton.mp hp];exact u2
    exact ⟨p',_,⟨b6.th,p8,b6.uw,b6.ev,b6.hn,b6.ln,b6.wf,b6.cn,b6.hb⟩,z18 k6 i3 (λ c B=>by rw [List.mem_singleton.mp B];exact g2),_,_,_,_,_,_,_,_,_,rfl⟩
  ·rintro σ H3 ⟨U,es,J,s3,x3,Y,x11,x12,x13,x14,x15,x16,x17,rfl⟩;obtain ⟨ys,v2,u5⟩:=J.ev;refine ⟨_,rfl,_,rfl,l,ys,rfl,.inl ⟨SqL.of v2,λ te u9=>⟨w_2,λ t ht=>?_⟩⟩⟩;have sE:=Same.upd (o:=.tup ys) u9;have sF:=sE.trans (Same.upd (o:=.tup [.ref pt,.ref te]) ht);exact q t pt te ys es S _ (s3.trans sF) z01 ((Same.upd ht) _ _ z01) (J.th.tt (.of (K:=KX w.params) sF)) ok o1 (z02 (λ _ _ z=>EvQ.tt (.of sF) z) u5) (D0 J.ln tn) J.wf J.cn (λ e he=>m1 _ (J.hb e he))
noncomputable def svD:Sv->PyData
 | .num i=>.int i
 | .row ns=>.tuple (ns.map PyData.int)
noncomputable def plD (pl:Pl):PyData:=.tuple [.tuple (pl.1.map λ (n:Nat)=>.int (n:Int)),.tuple (pl.2.map svD)]
theorem zf1 {K:d0} {H:Hp} :∀ns:List Int,IsPds K H (ns.map PyData.int) (ns.map V.int)
 | []=>rfl
 | n :: ns=>⟨_,_,rfl,rfl,zf1 ns⟩
theorem ziq {K:d0} {H:Hp} :∀ns:List Nat,IsPds K H (ns.map λ (n:Nat)=>.int (n:Int)) (nsV ns)
 | []=>rfl
 | n :: ns=>⟨_,_,rfl,rfl,ziq ns⟩
theorem stz_pd {K:d0} {H:Hp} :∀{s:Sv} {v:V},StZ K H s v->IsPd K H (svD s) v
 | .num _,_,h=>h
 | .row ns,_,h=>h.elim λ p z=>⟨p,_,z.1,z.2,zf1 ns⟩
theorem zl3 {K:d0} {H:Hp} {ss:List Sv} {vs:List V} (h:All2 (StZ K H) ss vs):IsPds K H (ss.map svD) vs:=by
 induction h with
 | nil=>exact (rfl:([]:List V)=[])
 | cons a r ih=>exact ⟨_,_,rfl,stz_pd a,ih⟩
theorem plz_pd {K:d0} {H:Hp} {p:Addr} {pl:Pl} (h:PlZ K H p pl):IsPd K H (plD pl) (.ref p):=by obtain ⟨a,b,g,e,d,c,f⟩:=h;exact ⟨p,_,rfl,e,_,_,rfl,⟨a,_,rfl,d,ziq _⟩,_,_,rfl,⟨b,_,rfl,c,zl3 f⟩,rfl⟩
theorem z3j {α:Type} {f:α->PyData} :∀{xs:List α},(∀x∈xs,plainP (f x)=true)->z13 (xs.map f)=true
 | [],_=>rfl
 | x :: xs,h=>by show (plainP (f x) && z13 (xs.map f))=true;rw [h x C1,z3j λ y a=>h y (Y0 _ a)];rfl
theorem z4w {α:Type} {f:α->PyData} {n:Nat} :∀{xs:List α},(∀x∈xs,(f x).depth<=n)->R1 (xs.map f)<=n
 | [],_=>U1 _
 | x :: xs,h=>by have b:=h x C1;have c:=z4w (f:=f) (n:=n) (xs:=xs) λ y a=>h y (Y0 _ a);show max (f x).depth (R1 (xs.map f))<=n;omega
theorem zfh (s:Sv):plainP (svD s)=true/\(svD s).depth<=1:=by
 cases s with
 | num i=>exact ⟨rfl,U1 _⟩
 | row ns=>exact ⟨z3j λ _ _=>rfl,by have:=z4w (f:=PyData.int) (n:=0) (xs:=ns) (λ _ _=>B0 _);simp only [svD,j21];omega⟩
theorem zjw (pl:Pl):plainP (plD pl)=true/\(plD pl).depth<=3:=by
 have b:z13 (pl.1.map λ (n:Nat)=>PyData.int (n:Int))=true:=z3j λ _ _=>rfl;have a:z13 (pl.2.map svD)=true:=z3j λ s _=>(zfh s).1;have d:=z4w (f:=λ (n:Nat)=>PyData.int (n:Int)) (n:=0) (xs:=pl.1) (λ _ _=>B0 _);have c:=z4w (f:=svD) (n:=1) (xs:=pl.2) (λ s _=>(zfh s).2);refine ⟨?_,?_⟩
 ·show (z13 _ && (z13 _ && true))=true;rw [b,a];rfl
 ·unfold plD;simp only [j21,R1];omega
theorem zj2 {K:d0} {H:Hp} {c:Nat->Bool} {ts:List (Str×Str)} {rs:List Rc} {ps:List DD} {pl:Pl} {k N i:Nat} (gd:All2 (RcGd K H ts) rs ps) (ok:ThW ts) (po:PlOk ts N k pl) (rl:N<=63) (hN:N=rs.length) (hc :∀n,c n=true->n∉pl.1) (hi:i<=N) :∀s∈nexT c ts rs ps pl i,AnsV s.2.1/\∃n r p sv,n < N/\c n=true/\rs[n]? = some r/\ps[n]? = some p/\pl.2[ixT ts p.nm]? = some sv/\SvOk k p.k sv/\s=stq ts p n pl sv:=by
 intro s b;unfold nexT at b;obtain ⟨n,f,e⟩:=List.mem_filterMap.mp b;have f:=List.mem_range.mp f;unfold nexAt at e;cases h:c n with
 | false=>rw [h] at e;cases e
 | true=>
  have d:rs[n]? = some rs[n]:=N0 (by omega);obtain ⟨p,m,g⟩:=z1h gd d;rw [if_pos h,d,m] at e;generalize rs[n]=r at d g e;have o:=ixT_of ok g.2.2.1;obtain ⟨sv,b,l⟩:=z1h po.so o;have e:stp ts r p n pl=some s:=e;rw [stp_of b] at e;cases hb:r.e.isNone || decide ((dz p.k p.vb p.dt sv).2=r.a) with
  | false=>rw [hb] at e;cases e
  | true=>rw [hb] at e;have e:stq ts p n pl sv=s:=S1 e;have q:=dz_ok g.2.2.2.1 l (po.n63 rl (j:=n) (by omega) (hc n h)).1;rw [<-e];exact ⟨q.2,n,r,p,sv,by omega,h,d,m,b,l,rfl⟩
theorem cP_no {m:Nat} {rs:List Rc} {ns:List Nat} {n:Nat} (h:cP m rs ns n=true):n∉ns:=of_decide_eq_true (Bool.and_eq_true_iff.mp (Bool.and_eq_true_iff.mp h).1).1
theorem new1 {H:Hp} {p:Addr} (o:HO) (h:H p=none) :∃H',H'=upd H p o/\Same H H'/\H' p=some o:=⟨_,rfl,Same.upd h,z01⟩
theorem zlf {K:d0} {H:Hp} {m:Nat} {ts:List (Str×Str)} {rs:List Rc} {ps:List DD} {pl:Pl} (gd:All2 (RcGd K H ts) rs ps) (ok:ThW ts) (po:PlOk ts rs.length pl.1.length pl) (rl:rs.length<=63) :∀s∈nexT (cP m rs pl.1) ts rs ps pl rs.length,PlOk ts rs.length s.2.2.1.length s.2.2/\s.2.2.1.length=pl.1.length + 1:=by
 intro s I;obtain ⟨_,n,r,p,N,u,F,J,D,w,G,rfl⟩:=zj2 (c:=cP m rs pl.1) gd ok po rl rfl (λ n h=>cP_no h) (B0 _) s I;have l:=cP_no F;have f:=zbz (pl.1++[n]);have q:(srtN (pl.1++[n])).length=pl.1.length + 1:=by rw [f.length_eq,M0];rfl
 obtain ⟨Q,v,g⟩:=z1h gd J;rw [D] at v;cases v;have E:=dz_ok g.2.2.2.1 G (po.n63 rl u l).1;show PlOk ts rs.length (srtN (pl.1++[n])).length (srtN (pl.1++[n]),pl.2.set (ixT ts p.nm) (dz p.k p.vb p.dt N).1)/\(srtN (pl.1++[n])).length=pl.1.length + 1;refine ⟨⟨?_,λ x L=>?_,?_,.inr (B0 _)⟩,q⟩
 ·refine f.nodup_iff.mpr ?_;rw [u4];exact ⟨po.nd,by simp,λ a y b A e=>l (by rw [<-List.mem_singleton.mp A,<-e];exact y)⟩
 ·rcases List.mem_append.mp (f.mem_iff.mp L) with z|z
  ·exact po.lt x z
  ·rw [List.mem_singleton.mp z];exact u
 ·rw [q];have B:pl.2.length=ts.length:=z05 po.so;refine z28 (by rw [j0a,B]) λ i t P j d=>?_;rw [List.getElem?_set] at d;by_cases z:ixT ts p.nm=i
  ·subst z;have M:=ixT_of ok g.2.2.1;rw [M] at j;cases j;rw [if_pos rfl,if_pos (List.getElem?_eq_some_iff.mp w).1] at d;cases d;exact E.1
  ·rw [if_neg z] at d;obtain ⟨O,o,C⟩:=z0e po.so d;rw [j] at o;cases o;exact C.le (M3 _)
theorem zbv {c:Nat->Bool} {ts:List (Str×Str)} {rs:List Rc} {ps:List DD} {pl:Pl} {i:Nat} {s:Stp} (h:nexAt c ts rs ps pl i=some s):s.1=i/\c i=true:=by
 unfold nexAt at h;cases e:c i with
 | false=>rw [e] at h;cases h
 | true=>
  rw [if_pos e] at h;refine ⟨?_,rfl⟩;cases hr:rs[i]? with
  | none=>rw [hr] at h;cases h
  | some r=>
   cases hp:ps[i]? with
   | none=>rw [hr,hp] at h;cases h
   | some p=>
    rw [hr,hp] at h;have h:stp ts r p i pl=some s:=h;unfold stp at h;cases hs:pl.2[ixT ts p.nm]? with
    | none=>rw [hs] at h;cases h
    | some sv=>
     rw [hs] at h;dsimp only at h;split at h
     ·cases h;rfl
     ·cases h
theorem zce {m:Nat} {ts:List (Str×Str)} {rs:List Rc} {ps:List DD} {pl:Pl} (nd:pl.1.Nodup) (lt :∀x∈pl.1,x < rs.length):pl.1.length + (nexT (cP m rs pl.1) ts rs ps pl rs.length).length<=rs.length:=by
 have j :∀i,(((nexT (cP m rs pl.1) ts rs ps pl i).map (·.1)).Nodup/\∀x∈(nexT (cP m rs pl.1) ts rs ps pl i).map (·.1),x < i/\x∉pl.1):=λ i=>by
  induction i with
  | zero=>exact ⟨.nil,λ x c=>absurd c C0⟩
  | succ i ih=>
   rw [z5t,B2];cases h:nexAt (cP m rs pl.1) ts rs ps pl i with
   | none=>rw [d9,y4,J2];exact ⟨ih.1,λ x c=>⟨Z1 (ih.2 x c).1,(ih.2 x c).2⟩⟩
   | some s=>
    obtain ⟨e,k⟩:=zbv h;rw [j40,J1,y4,e];refine ⟨?_,λ x c=>?_⟩
    ·rw [u4];refine ⟨ih.1,by simp,λ a d b f z=>?_⟩;have:=(ih.2 a d).1;rw [List.mem_singleton.mp f] at z;omega
    ·rcases List.mem_append.mp c with z|z
     ·exact ⟨Z1 (ih.2 x z).1,(ih.2 x z).2⟩
     ·rw [List.mem_singleton.mp z];exact ⟨K2 i,cP_no k⟩
 obtain ⟨l,g⟩:=j rs.length;have:=z82 rs.length (pl.1++(nexT (cP m rs pl.1) ts rs ps pl rs.length).map (·.1)) (by
  rw [u4];exact ⟨nd,l,λ a d b f e=>(g b f).2 (e ▸ d)⟩) λ x c=>by
   rcases List.mem_append.mp c with z|z
   ·exact lt x z
   ·exact (g x z).1
 rwa [M0,K0] at this
theorem z5u {α:Type} {f:α->PyData} :∀{xs:List α},(∀x∈xs,keyD (f x)=true)->keyDs (xs.map f)=true
 | [],_=>rfl
 | x :: xs,h=>by show (keyD (f x) && keyDs (xs.map f))=true;rw [h x C1,z5u λ y a=>h y (Y0 _ a)];rfl
theorem sv_key (s:Sv):keyD (svD s)=true:=by
 cases s with
 | num i=>rfl
 | row ns=>exact z5u λ _ _=>rfl
theorem pl_key (pl:Pl):keyD (plD pl)=true:=by have a:keyDs (pl.1.map λ (n:Nat)=>PyData.int (n:Int))=true:=z5u λ _ _=>rfl;have b:keyDs (pl.2.map svD)=true:=z5u λ s _=>sv_key s;show (keyDs _ && (keyDs _ && true))=true;rw [a,b];rfl
theorem pl_dep (pl:Pl):(plD pl).depth<=7:=D0 (zjw pl).2 (by decide)
theorem z8m :∀{xs ys:List PyData},(∀(i:Nat) x y,xs[i]? = some x->ys[i]? = some y->(ltD x y).isSome=true)->(ltDs xs ys).isSome=true
 | [],_,_=>by unfold ltDs;rfl
 | _ :: _,[],_=>by unfold ltDs;rfl
 | x :: xs,y :: ys,h=>by
  unfold ltDs;dsimp only;split
  ·exact z8m λ i a b c d=>h (i + 1) a b c d
  ·exact h 0 x y rfl rfl
theorem zi6 (xs ys:List Int):(ltD (.tuple (xs.map PyData.int)) (.tuple (ys.map PyData.int))).isSome=true:=by unfold ltD;refine z8m λ i x y c d=>?_;rw [X0] at c d;obtain ⟨a,_,rfl⟩:=Option.map_eq_some_iff.mp c;obtain ⟨b,_,rfl⟩:=Option.map_eq_some_iff.mp d;unfold ltD;rfl
theorem lt_sv {k:Str} {n n':Nat} {s s':Sv} (h:SvOk n k s) (h':SvOk n' k s'):(ltD (svD s) (svD s')).isSome=true:=by
 cases s with
 | num i=>
  cases s' with
  | num j=>show (ltD (.int i) (.int j)).isSome=true;unfold ltD;rfl
  | row ns=>exact absurd h'.1 h.1
 | row ns=>
  cases s' with
  | num j=>exact absurd h.1 h'.1
  | row ms=>exact zi6 ns ms
theorem lt_pl {ts:List (Str×Str)} {N n n':Nat} {pl pl':Pl} (h:PlOk ts N n pl) (h':PlOk ts N n' pl'):(ltD (plD pl) (plD pl')).isSome=true:=by
 unfold plD ltD;refine z8m λ i x y c d=>?_
 match i,c,d with
 | 0,c,d=>
  cases c;cases d;have e :∀f:List Nat,(f.map λ (n:Nat)=>PyData.int (n:Int))=(f.map λ (n:Nat)=>(n:Int)).map PyData.int:=λ f=>by rw [R3];rfl
  rw [e,e];exact zi6 _ _
 | 1,c,d=>cases c;cases d;unfold ltD;refine z8m λ i x y c d=>?_;rw [X0] at c d;obtain ⟨a,l,rfl⟩:=Option.map_eq_some_iff.mp c;obtain ⟨b,m,rfl⟩:=Option.map_eq_some_iff.mp d;obtain ⟨t,o,g⟩:=z0e h.so l;obtain ⟨p,j,k⟩:=z0e h'.so m;rw [o] at j;cases j;exact lt_sv g k
 | i + 2,c,d=>cases c
theorem pl_tup (pl:Pl) :∃xs ys,plD pl=.tuple (.tuple xs :: ys):=⟨_,_,rfl⟩
theorem zja (ts:List (Str×Str)) (N:Nat):PlOk ts N 0 ([],ts.map λ t=>zeroK t.2):=⟨.nil,λ _ h=>absurd h C0,by refine z28 (by rw [K0]) λ i t s b a=>?_;rw [X0,b] at a;cases a;exact zje _,.inl (U1 _)⟩
theorem tn_x {D:Ends} {σ:L2.St} {H:Hp} (h:D.nx σ H):tNext D σ H:=h
def z2y (K:d0):Sp:=λ vs H Q _=>∃(b pp:Addr) (m:Nat) (rs:List Rc) (ts:List (Str×Str)) (ps:List DD) (pl:Pl),vs=[.ref b,.ref pp]/\BoAt K H m rs ts ps b/\rs.length<=63/\PlZ K H pp pl/\∀b H',Same H H'->Q (.bl b) H'
theorem z6v (T:TX (kx w) mg) (c0:Ca P w mg base "holds_all" ["done","numbers"] 1 (z6k (kx w))):Fo P w mg base CX0 2 367 y05 ["self","place"] (z2y (kx w)):=by
 refine (z3r w.params).ok z71 (λ e H Q E h=>?_) (λ G A F s H e Q E v h=>?_)
 ·obtain ⟨b,d,m,p,i,z,c,rfl,_⟩:=h;rfl
 ·obtain ⟨b,d,m,p,i,z,c,rfl,⟨r,fs,n,g⟩,C,⟨a,I,e,o,B,D,sz⟩,q⟩:=h;refine ⟨_,(z04 (ps_ret (pe_cal c0 (v.mono (by decide)) rfl (z00 (pe_ix ix_seq (pv 1) pe_int (λ _ _=>rfl)) (z00 (pe_fld (pv 0) rfl) pa_nil))))),?_⟩;obtain ⟨le,y,f,x,k⟩:=g.ended;refine ⟨_,rfl,.inr (.inl ⟨d,_,0,.ref a,rfl,rfl,o,z07 (j:=0) rfl,?_⟩)⟩;refine ⟨_,rfl,b,_,r,fs,_,rfl,n,z1a _,z4g _,f,?_⟩;exact ⟨a,le,c.1,y,rfl,B,x,by have:=k.1;omega,λ u t l _=>q u t l⟩
def TlP (K:d0) (H:Hp) (t:Addr) (ts:List (Str×Str)) (es:List Ev) (ps:List DD):Prop:=TaleAt K H t ts es/\ThW ts/\es.length<=63/\EWf [] es/\All2 (RcGd K H ts) (dAll 0 [] es) ps/\bgN es<=4
theorem TlP.same {K:d0} {H H':Hp} {t:Addr} {ts:List (Str×Str)} {es:List Ev} {ps:List DD} (s:Same H H') (h:TlP K H t ts es ps):TlP K H' t ts es ps:=⟨h.1.tt (.of s),h.2.1,h.2.2.1,h.2.2.2.1,z02 (λ _ _ z=>RcGd.tt (.of s) z) h.2.2.2.2.1,h.2.2.2.2.2⟩
theorem TlP.n4 {K:d0} {H:Hp} {t:Addr} {ts:List (Str×Str)} {es:List Ev} {ps:List DD} (h:TlP K H t ts es ps):(dAll 0 [] es).length<=4:=by rw [zib];have:=h.2.2.2.2.2;simp only [L5,U6];exact this
theorem zfg {i:Nat} {rest:TS} {D:Ends} {σ:L2.St} {H:Hp} {tA:TA} {t:Addr} {ts:List (Str×Str)} {es:List Ev} {ps:List DD} {m:Nat} (tp:TlP (kx w) H t ts es ps) (ha :∀R:List V->Hp->Prop,R [.ref t,.str (z3c m)] H->tA σ H R)
  (q :∀x dx fs H1,Same H H1->(dAll 0 [] es).length<=4->ThW ts->All2 (RcGd (kx w) H1 ts) (dAll 0 [] es) ps->H1 x=some (.ins 377 dx fs)->BoF (kx w) H1 m (dAll 0 [] es) ts ps fs->rest D (σ.set i (some (.ref x))) H1):tSeq (tAsg (tMake 377 (z0u (kx w)) [] E0 tA) (gName i)) rest D σ H:=by
 have p:=tp.n4;obtain ⟨h,ok,g,j,c,r⟩:=tp;refine ha _ λ x dx a d o=>?_;have k:Same H (upd (upd H dx (.own x)) x (.ins 377 dx [])):=(Same.upd d).trans (Same.upd (by rw [upd_ne o.symm];exact a));have e:Tt (kx w) H (upd (upd H dx (.own x)) x (.ins 377 dx [])):=.of k;refine ⟨x,dx,t,ts,es,ps,m,rfl,z01,h.tt e,ok,g,j,z02 (λ _ _ z=>RcGd.tt e z) c,λ fs H1 l n f=>⟨rfl,?_⟩⟩;have b:Same H H1:=zcm a d l;exact q x dx fs H1 b p ok (z02 (λ _ _ z=>RcGd.tt (.of b) z) c) n f
noncomputable def hid2 (a b:Addr) (H:Hp):Hp:=hide a (hide b H)
theorem z3h {a b:Addr} {H H':Hp} (s:Same H H'):Same (hid2 a b H) (hid2 a b H'):=z2d (z2d s)
theorem z1o {a b:Addr} {H:Hp}:Same (hid2 a b H) H:=hide_same.trans hide_same
theorem hid2_b {a b:Addr} {H:Hp} {o:HO}:hid2 a b (upd H b o)=hid2 a b H:=by unfold hid2;rw [z6m]
theorem hid2_a {a b:Addr} {H:Hp} {o:HO}:hid2 a b (upd H a o)=hid2 a b H:=by
 funext p;unfold hid2 hide;by_cases z:p=a
 ·rw [if_pos z,if_pos z]
 ·rw [if_neg z,if_neg z,upd_ne z]
theorem za0 {a b p:Addr} {H:Hp} {o:HO} (n1:p≠a) (n2:p≠b) (e:H p=some o):hid2 a b H p=some o:=z1k n1 (z1k n2 e)
theorem zjn {a b:Addr} {H H':Hp} (n1:H a=none) (n2:H b=none) (s:Same H H'):Same H (hid2 a b H'):=λ p o e=>za0 (λ z=>by rw [z,n1] at e;cases e) (λ z=>by rw [z,n2] at e;cases e) (s _ _ e)
theorem zby {K:d0} {a b:Addr} {H:Hp} {f:Heap->Prop} {kvs:List (Key×V)} (ea:H a=some (.ext f)) (eb:H b=some (.dK kvs)):Tups K H (hid2 a b H):=λ p c h=>by
 rcases h with (h|⟨ob,h⟩)|h
 ·exact .inl (.inl (za0 (λ z=>by rw [z,ea] at h;cases h) (λ z=>by rw [z,eb] at h;cases h) h))
 ·exact .inl (.inr ⟨ob,za0 (λ z=>by rw [z,ea] at h;cases h) (λ z=>by rw [z,eb] at h;cases h) h⟩)
 ·exact .inr h
theorem zjm {α β:Type} {R:α->β->Prop} {xs:List α} {ys:List β} (h:All2 R xs ys):All2 R xs.reverse ys.reverse:=by
 induction h with
 | nil=>exact .nil
 | cons a r ih=>rw [List.reverse_cons,List.reverse_cons];exact z1v ih a
theorem zk6 {c:TT} {tb rest:TS} {D:Ends} {σ:L2.St} {H:Hp} (h:tWhile c tb { D with nx:=rest D } σ H):tSeq (tWhile c tb) rest D σ H:=h
theorem zh2 {c:TT} {tb:TS} {D:Ends} {σ:L2.St} {H:Hp} (W B:Nat->L2.St->Hp->Prop) (m0:Nat) (w0:W m0 σ H)
  (body :∀m σ H1,B m σ H1->tb { D with nx:=λ σ' H'=>∃m',m' < m/\W m' σ' H',ct:=λ σ' H'=>∃m',m' < m/\W m' σ' H',bk:=D.nx } σ H1)
  (cond :∀m σ H,W m σ H->(∀H1,B m σ H1->∃N:L2.St->Hp->Prop,(∀σ' H',N σ' H'->∃m',m' < m/\W m' σ' H')/\tb { D with nx:=N,ct:=N,bk:=D.nx } σ H1)->c σ H λ b H1=>if b=true then∃N:L2.St->Hp->Prop,(∀σ' H',N σ' H'->∃m',m' < m/\W m' σ' H')/\tb { D with nx:=N,ct:=N,bk:=D.nx } σ H1 else D.nx σ H1):tWhile c tb D σ H:=
 ⟨W,⟨m0,w0⟩,λ m σ H h=>cond m σ H h λ H1 b=>⟨_,λ _ _ z=>z,body m σ H1 b⟩⟩
def PlG (ts:List (Str×Str)) (N d:Nat) (pl:Pl):Prop:=PlOk ts N pl.1.length pl/\pl.1.length=d
def PlV (K:d0) (H:Hp) (pl:Pl) (y:V):Prop:=∃p,y=.ref p/\PlZ K H p pl
theorem PlV.same {K:d0} {H H':Hp} {pl:Pl} {y:V} (s:Same H H') (h:PlV K H pl y):PlV K H' pl y:=h.elim λ p z=>⟨p,z.1,z.2.tups (.of s)⟩
def KeyI (K:d0) (H:Hp) (G:Pl->Prop) (ks:List (PyData×Addr)):Prop:=∀k∈ks,∃pl,k.1=plD pl/\PlZ K H k.2 pl/\G pl
theorem KeyI.same {K:d0} {H H':Hp} {G:Pl->Prop} {ks:List (PyData×Addr)} (s:Same H H') (h:KeyI K H G ks):KeyI K H' G ks:=λ k b=>(h k b).elim λ a z=>⟨a,z.1,z.2.1.tups (.of s),z.2.2⟩
theorem KeyI.put {K:d0} {H:Hp} {G:Pl->Prop} {ks:List (PyData×Addr)} {pl:Pl} {b:Addr} (h:KeyI K H G ks) (z:PlZ K H b pl) (g:G pl):KeyI K H G (putN ks (plD pl) b):=λ k a=>by
 unfold L2.putN at a;split at a
 ·exact h k a
 ·rcases List.mem_append.mp a with y|y
  ·exact h k y
  ·rw [List.mem_singleton.mp y];exact ⟨pl,rfl,z,g⟩
theorem KeyI.at_ {K:d0} {H:Hp} {G:Pl->Prop} {ks:List (PyData×Addr)} {a:Addr} (r:Rd H a (NsO a ks)) (h:KeyI K H G ks):NsAt K H a ks:=⟨r,λ k c=>by obtain ⟨b,e,z,_⟩:=h k c;rw [e];exact ⟨pl_key b,pl_dep b,plz_pd z⟩⟩
theorem zfr {K:d0} {H:Hp} {G:Pl->Prop} {ks:List (PyData×Addr)} (h:KeyI K H G ks) :∀(is:List Nat),(∀i∈is,i < ks.length)->∃pls,All2 (PlV K H) pls (is.map λ i=>V.ref (ks.getD i (.none,0)).2)/\(∀pl∈pls,G pl)/\pls.length=is.length
 | [],_=>⟨[],.nil,λ _ z=>absurd z C0,rfl⟩
 | i :: is,hi=>by
  obtain ⟨pls,d,b,a⟩:=zfr h is λ j e=>hi j (Y0 _ e);have l:=hi i C1;obtain ⟨pl,_,z,g⟩:=h ks[i] (i6 l);refine ⟨pl :: pls,.cons ⟨_,rfl,?_⟩ d,λ p c=>?_,by rw [U0,U0,a]⟩
  ·rw [E2,N0 l];exact z
  ·rcases List.mem_cons.mp c with y|y
   ·rw [y];exact g
   ·exact b p y
theorem zgi {K:d0} {H:Hp} {r:Addr} {f:Heap->Prop} (e:H r=some (.ext f)):Tups K H (hide r H):=λ a b h=>by
 rcases h with (h|⟨ob,h⟩)|h
 ·exact .inl (.inl (z1k (λ z=>by rw [z,e] at h;cases h) h))
 ·exact .inl (.inr ⟨ob,z1k (λ z=>by rw [z,e] at h;cases h) h⟩)
 ·exact .inr h
noncomputable def layN:Nat->Nat
 | 0=>1
 | d + 1=>layN d * (4 - d)
theorem layN_0 :∀d,layN (d + 5)=0
 | 0=>rfl
 | d + 1=>by show layN (d + 5) * _=0;rw [layN_0 d,Nat.zero_mul]
theorem zea :∀d,layN d<=24
 | 0=>by decide
 | 1=>by decide
 | 2=>by decide
 | 3=>by decide
 | 4=>by decide
 | d + 5=>by rw [layN_0];decide
def z5i (K:d0):Sp:=λ vs H Q _=>∃(b l:Addr) (m d:Nat) (rs:List Rc) (ts:List (Str×Str)) (ps:List DD) (pls:List Pl) (ys:List V),vs=[.ref b,.ref l]/\BoAt K H m rs ts ps b/\All2 (RcGd K H ts) rs ps/\ThW ts/\rs.length<=4/\H l=some (.lst ys)/\All2 (PlV K H) pls ys/\(∀pl∈pls,PlG ts rs.length d pl)/\pls.length<=layN d/\
 ∀l' ys' pls' H',Same H H'->H l'=none->H' l'=some (.lst ys')->All2 (PlV K H') pls' ys'->(∀pl∈pls',PlG ts rs.length (d + 1) pl)->pls'.length<=layN (d + 1)->Q (.ref l') H'
theorem z8z (T:TX (kx w) mg) (c0:Fo P w mg base CX0 7 360 y00 ["self","place"] (z0z (kx w))):Fo P w mg base CX0 8 417 y0x ["board","layer"] (z5i (kx w)):=by
 refine (z3t w.params).ok sc_next_layer (λ vs H Q E h=>?_) (λ c7 A c6 s H vs Q E C h=>?_)
 ·obtain ⟨b,l,m,d,x,ts,ps,M,B,rfl,_⟩:=h;rfl
 ·obtain ⟨b,l,m,d,x,ts,ps,M,B,rfl,bo,S,ok,rl,el,Y,pg,Z,q⟩:=h;refine ⟨_,(z03 (ps_set (i:=2) sc_next_layer.nd rfl (j1 rfl) ze9)
   (z03 (ps_for T1 rfl (z1m (pv 1)) (z0j (i:=3) sc_next_layer.nd rfl (j1 rfl))
   (z04 (ps_for T1 rfl (z1m (zcc (pv 0) (z1a _) (z1s _) c0 (C.mono (by decide)) (z29 _) .nil pass0 (z00 (pv 3) pa_nil))) (z0j (i:=4) sc_next_layer.nd rfl (j1 rfl))
   (z04 (zj4 C (pv 2) (pe_ix ix_seq (pv 4) pe_int (λ _ _=>rfl)) pe_bl rfl)))))
   (z04 (ps_ret (z0a (zbg C) rfl (T.no (z3z _)) P6 (z00 (pv 2) pa_nil)))))),?_⟩
  have yl:B.length=M.length:=z05 Y;obtain ⟨dx,fs,eb,bf⟩:=id bo;refine z0l ?_;intro c a0;refine g_name ?_;have I:=Same.upd (o:=NsO c []) a0;have e1:upd H c (NsO c []) c=some (NsO c []):=z01;have a9:Same H (hide c (upd H c (NsO c []))):=λ p o e=>z1k (λ z=>by rw [z,a0] at e;cases e) (I _ _ e);generalize upd H c (NsO c [])=H1 at I e1 a9⊢;refine ⟨_,rfl,l,rfl,⟨_,SqL.of (I _ _ el)⟩,?_⟩;refine z2j (K:=KX w.params) (a:=l) (xs:=B) (λ i σ f=>∃ks,Same H (hide c f)/\f c=some (NsO c ks)/\KeyI (kx w) (hide c f) (PlG ts x.length (d + 1)) ks/\ks.length<=i * (4 - d)/\∃x3 x4,σ=[some (.ref b),some (.ref l),some (.ref c),x3,x4])
   ⟨[],a9,e1,(λ k v=>absurd v C0),U1 _,_,_,rfl⟩ (λ i σ f _ h=>SqL.of (hide_same _ _ (h.choose_spec.1 _ _ el))) ?_ ?_
  ·rintro i y σ D O ⟨ks,s2,e2,ki,kl,x3,x4,rfl⟩;obtain ⟨t,b4,p,rfl,pz⟩:=z0e Y O;have g:=pg t (S0 b4);have n:Same H D:=s2.trans hide_same;refine g_name ?_;refine ⟨_,rfl,b,dx,fs,rfl,n _ _ eb,bf.nm _ (by simp),_,rfl,b,p,m,_,x,ts,ps,t,rfl,bo.same n,z02 (λ _ _ z=>RcGd.tt (.of n) z) S,ok,pz.tups (.of n),g.1,by omega,λ F G H3 u b0 a6 U=>⟨F,rfl,⟨_,SqL.of a6⟩,?_⟩⟩;have L:=u _ _ e2;have c2:F≠c:=λ z=>by rw [z,e2] at b0;cases b0
   have a7:=z2d (r:=c) u;have b3:=z02 (λ _ _ z=>StpZ.tups (zgi L) z) U;have nx:=zlf S ok g.1 (by omega) (m:=m);have b1:=zce (m:=m) (ts:=ts) (ps:=ps) g.1.nd g.1.lt;rw [g.2] at b1;have c5:G.length<=4 - d:=by rw [z05 U];omega
   refine z2j (K:=KX w.params) (a:=F) (xs:=G) (λ j σ f=>∃ks,Same (hide c H3) (hide c f)/\f c=some (NsO c ks)/\KeyI (kx w) (hide c f) (PlG ts x.length (d + 1)) ks/\ks.length<=i * (4 - d) + j/\∃x4,σ=[some (.ref b),some (.ref l),some (.ref c),some (.ref p),x4])
    ⟨ks,Same.refl _,L,ki.same a7,kl,_,rfl⟩ (λ j σ f _ h=>SqL.of (hide_same _ _ (h.choose_spec.1 _ _ (z1k c2 a6)))) ?_ ?_
   ·rintro j y σ W R ⟨ks4,s4,e4,ki4,kl4,x4,rfl⟩;obtain ⟨X,b7,b5,q5,rfl,c3,c1⟩:=z0e b3 R;have a8:=nx X (S0 b7);have b8:Same (hide c H3) W:=s4.trans hide_same;have a5:=c1.tups (.of s4);have jl:j < G.length:=(List.getElem?_eq_some_iff.mp R).1;have il:i < B.length:=(List.getElem?_eq_some_iff.mp O).1;have kb:i * (4 - d) + j < 1000:=by have h1:i < 24:=G1 il (by rw [yl];exact D0 Z (zea d));have h2:=j1e (d3 h1) (show 4 - d<=4 by omega);omega
    refine g_name ?_;refine ⟨_,rfl,_,rfl,.inr (.inl ⟨b5,_,2,.ref q5,rfl,rfl,b8.seqT c3,z07 (j:=2) rfl,c,q5,ks4,plD X.2.2,rfl,rfl,rfl,e4,(ki4.same hide_same).at_ (.inl e4),Q1 kl4 (Nat.lt_trans kb (by decide)),pl_key _,pl_dep _,plz_pd (a5.tups (.of hide_same)),?_⟩)⟩;refine ⟨_,?_,z01,?_,D0 zb1 (by omega),_,rfl⟩
    ·rw [z6m];exact s4
    ·rw [z6m];exact ki4.put a5 ⟨a8.1,by rw [a8.2,g.2]⟩
   ·rintro σ W ⟨ks4,s4,e4,ki4,kl4,x4,rfl⟩;refine ⟨ks4,(s2.trans a7).trans s4,e4,ki4,?_,_,_,rfl⟩;have:(i + 1) * (4 - d)=i * (4 - d) + (4 - d):=Nat.succ_mul _ _;omega
  ·rintro σ D ⟨ks,s2,e2,ki,kl,x3,x4,rfl⟩;have N:ks.length<=layN (d + 1):=D0 kl (C6 _ (by rw [yl];exact Z));have b2:ks.length < 64:=Q1 N (Q1 (zea _) (by decide));refine ⟨_,rfl,c,ks,rfl,(ki.same hide_same).at_ (.inl e2),b2,λ k v=>?_,λ k v k' b6 _=>?_,λ l' a4=>?_⟩
   ·obtain ⟨t,e,_⟩:=ki k v;rw [e];exact pl_tup t
   ·obtain ⟨t,e,_,g⟩:=ki k v;obtain ⟨c4,e',_,g'⟩:=ki k' b6;rw [e,e'];exact lt_pl g.1 g'.1
   ·have J:=z8e (ks.map (·.1));obtain ⟨b9,a1,a2,a3⟩:=zfr (ki.same hide_same) (srtD (ks.map (·.1))) λ i hi=>by
     have:=List.mem_range.mp (J.mem_iff.mp hi)
     rwa [K0] at this
    have u:=Same.upd (o:=.lst ((srtD (ks.map (·.1))).map λ i=>V.ref (ks.getD i (.none,0)).2)) a4;have n:Same H D:=s2.trans hide_same;refine q l' _ b9 _ (n.trans u) (n.free a4) z01 (z02 (λ _ _ z=>z.same u) a1) a2 ?_;rw [a3,J.length_eq,W1,K0];exact N
theorem zf2 {K:d0} {H:Hp} {r:Addr} {us:List V} (e:H r=some (.lst us)):Tups K H (hide r H):=λ a b h=>by
 rcases h with (h|⟨ob,h⟩)|h
 ·exact .inl (.inl (z1k (λ z=>by rw [z,e] at h;cases h) h))
 ·exact .inl (.inr ⟨ob,z1k (λ z=>by rw [z,e] at h;cases h) h⟩)
 ·exact .inr h
noncomputable def cntP (pls:List Pl):Nat:=(pls.filter λ pl=>decide (pl.1.length < 4)).length
theorem zep {a b:List Pl}:cntP (a++b)=cntP a + cntP b:=by unfold cntP;rw [M4,M0]
noncomputable def sumN:Nat->Nat
 | 0=>0
 | d + 1=>sumN d + if d < 4 then layN d else 0
theorem zln {d:Nat} (h:d<=5):sumN d<=41:=(by decide :∀d,d < 6->sumN d<=41) d (by omega)
theorem zj7 {ts:List (Str×Str)} {N d:Nat} {pls:List Pl} (pg :∀pl∈pls,PlG ts N d pl) (pn:pls.length<=layN d):cntP pls<=if d < 4 then layN d else 0:=by
 unfold cntP;by_cases h:d < 4
 ·rw [if_pos h];exact D0 (A2 _ _) pn
 ·rw [if_neg h,List.filter_eq_nil_iff.mpr λ pl a z=>by have:=of_decide_eq_true z;have:=(pg pl a).2;omega];exact B0 _
noncomputable def numIs (n:Int) (st:Stp):Bool:=decide ((st.1:Int)=n)
theorem zhz {n:Int} {st:Stp} (h:(st.1:Int)=n):numIs n st=true:=decide_eq_true h
theorem zij {n:Int} {st:Stp} (h:¬ (st.1:Int)=n):¬ numIs n st=true:=λ z=>h (of_decide_eq_true z)
noncomputable def numC (n:Int) (sts:List Stp):Nat:=(sts.filter (numIs n)).length
theorem numC_1 {n:Int} :∀{sts:List Stp},(sts.map (·.1)).Nodup->numC n sts<=1
 | [],_=>U1 _
 | s :: sts,h=>by
  rw [J1,List.nodup_cons] at h;have a:=numC_1 (n:=n) h.2;unfold numC at a⊢;by_cases z:(s.1:Int)=n
  ·rw [P2 (zhz z),List.filter_eq_nil_iff.mpr λ x b y=>h.1 (List.mem_map.mpr ⟨x,b,by have:=of_decide_eq_true y;omega⟩)];exact B0 _
  ·rw [W2 (zij z)];exact a
theorem zh9 {n:Int} {sts:List Stp} {j:Nat} {s:Stp} (h:sts[j]? = some s):numC n (sts.take (j + 1))=numC n (sts.take j) + if (s.1:Int)=n then 1 else 0:=by
 unfold numC;rw [List.take_add_one,h,M4,M0];congr 1;by_cases z:(s.1:Int)=n
 ·rw [if_pos z];show ([s].filter _).length=1;rw [P2 (zhz z)];rfl
 ·rw [if_neg z];show ([s].filter _).length=0;rw [W2 (zij z)];rfl
theorem zi3 {c:Nat->Bool} {ts:List (Str×Str)} {rs:List Rc} {ps:List DD} {pl:Pl} :∀i,((nexT c ts rs ps pl i).map (·.1)).Nodup/\∀x∈(nexT c ts rs ps pl i).map (·.1),x < i
 | 0=>⟨.nil,λ x d=>absurd d C0⟩
 | i + 1=>by
  have f:=zi3 (c:=c) (ts:=ts) (rs:=rs) (ps:=ps) (pl:=pl) i;rw [z5t,B2];cases h:nexAt c ts rs ps pl i with
  | none=>rw [d9,y4,J2];exact ⟨f.1,λ x d=>Z1 (f.2 x d)⟩
  | some s=>
   obtain ⟨e,k⟩:=zbv h;rw [j40,J1,y4,e];refine ⟨?_,λ x d=>?_⟩
   ·rw [u4];refine ⟨f.1,by simp,λ a g b j z=>?_⟩;have:=f.2 a g;rw [List.mem_singleton.mp j] at z;omega
   ·rcases List.mem_append.mp d with z|z
    ·exact Z1 (f.2 x z)
    ·rw [List.mem_singleton.mp z];exact K2 i
theorem zg0 {α:Type} {R:α->V->Prop} :∀{xs:List α} {p:Nat->Bool} {us:List V},All2 (λ (i:Nat) y=>∃x,xs[i]? = some x/\R x y) ((K1 xs.length).filter p) us->∃zs,zs.Sublist xs/\All2 R zs us
 | [],p,us,h=>by cases h;exact ⟨[],.slnil,.nil⟩
 | x :: xs,p,us,h=>by
  rw [U0,j31] at h;have un :∀{us:List V},All2 (λ (i:Nat) y=>∃z,(x :: xs)[i]? = some z/\R z y) ((List.map Nat.succ (K1 xs.length)).filter p) us->∃zs,zs.Sublist xs/\All2 R zs us:=λ {us} h=>by
   rw [j0b] at h;refine zg0 (p:=p ∘ Nat.succ) ?_;have :∀{is:List Nat} {us:List V},All2 (λ (i:Nat) y=>∃z,(x :: xs)[i]? = some z/\R z y) (is.map Nat.succ) us->All2 (λ (i:Nat) y=>∃z,xs[i]? = some z/\R z y) is us:=λ {is}=>by
    induction is with
    | nil=>intro us h;cases h;exact .nil
    | cons i is ih=>
     intro us h;cases h with
     | cons a r=>exact .cons a (ih r)
   exact this h
  cases hp:p 0 with
  | false=>rw [W2 (by rw [hp];decide)] at h;obtain ⟨zs,c,b⟩:=un h;exact ⟨zs,c.cons x,b⟩
  | true=>
   rw [P2 hp] at h;cases h with
   | cons a r=>obtain ⟨z,d,e⟩:=a;cases d;obtain ⟨zs,c,b⟩:=un r;exact ⟨x :: zs,c.cons₂ x,.cons e b⟩
def z5k (K:d0):Sp:=λ vs H Q _=>∃(t:Addr) (ts:List (Str×Str)) (es:List Ev) (ps:List DD) (m:Nat),vs=[.ref t,.str (z3c m)]/\TlP K H t ts es ps/\
 ∀l ys pls H',Same H H'->H l=none->H' l=some (.lst ys)->All2 (PlV K H') pls ys->(∀pl∈pls,PlOk ts (dAll 0 [] es).length pl.1.length pl)->ys.length<=144->cntP pls<=41->Q (.ref l) H'
theorem zai (T:TX (kx w) mg) (c0:Fo P w mg base (CXE P w base) 5 353 y03 ["self","tale","strictness"] (z0u (kx w))) (c1:Ca P w mg base "next_layer" ["board","layer"] 8 (z5i (kx w))):Fo P w mg base CX0 9 410 y0w ["tale","strictness"] (z5k (kx w)):=by
 refine (z41 w.params).ok sc_all_places (λ vs H Q E h=>?_) (λ b4 A b3 s H vs Q E U h=>?_)
 ·obtain ⟨t,f,I,J,m,rfl,_⟩:=h;rfl
 ·obtain ⟨t,f,I,J,m,rfl,tp,q⟩:=h;refine ⟨_,(z03 (ps_set (i:=2) sc_all_places.nd rfl (j1 rfl) (ze3 (zem _) c0 (U.mono (by decide)) rfl (T.of (zio _)) (z2q _) .nil passN (z00 (pv 0) (z00 (pv 1) pa_nil))))
   (z03 (ps_set (i:=3) sc_all_places.nd rfl (j1 rfl) (pe_lst pa_nil))
   (z03 (ps_set (i:=4) sc_all_places.nd rfl (j1 rfl) (pe_lst (z00 (pe_fld (pv 2) rfl) pa_nil)))
   (z03 (zkd T1 (z0b op_gt (z0a z1c rfl (T.no (n_len _)) D4 (z00 (pv 4) pa_nil)) pe_int (nomark _))
   (z03 (z31 (ze4 (pv 3) (z00 (pv 4) pa_nil)))
   (z04 (ps_set (i:=4) sc_all_places.nd rfl (j1 rfl) (pe_cal c1 (U.mono (by decide)) rfl (z00 (pv 2) (z00 (pv 4) pa_nil)))))))
   (z04 (ps_ret (pv 3))))))),?_⟩
  refine zfg tp (λ R h=>⟨_,rfl,_,rfl,h⟩) λ x M fs r O L ok a0 S B=>?_;have Y:BoAt (kx w) r m (dAll 0 [] I) f J x:=⟨M,fs,S,B⟩
  obtain ⟨g,b1,b2⟩:=B.first;generalize dAll 0 [] I=rs at L a0 Y B q;refine z0l ?_;refine ⟨w_0,λ a F=>?_⟩;refine g_name ?_;obtain ⟨K,v_,V,n⟩:=newA (.lst []) F;rw [<-v_];refine z0l ?_;refine ⟨_,rfl,x,_,M,fs,_,rfl,V _ _ S,z1a _,z4r _,b1,w_1,λ j G=>?_⟩;refine g_name ?_;have q1:=Same.upd (o:=.lst [.ref g]) G;have W:upd K j (.lst [.ref g]) j=some (.lst [.ref g]):=z01;have a6:j≠a:=λ z=>by rw [z,n] at G;cases G
  have n:=q1 _ _ n;have C:Same r (hide a (upd K j (.lst [.ref g]))):=λ p o e=>z1k (λ z=>by rw [z,F] at e;cases e) ((V.trans q1) _ _ e);generalize upd K j (.lst [.ref g])=H3 at n W C⊢;refine zk6 (zh2 (λ k σ c=>∃d pls ys fz l1 fp,k=6 - d/\d<=5/\cntP fp<=sumN d/\All2 (PlV (kx w) (hide a c)) fp fz/\(∀b∈fp,PlOk f rs.length b.1.length b)/\Same r (hide a c)/\c a=some (.lst fz)/\fz.length<=24 * d/\hide a c l1=some (.lst ys)/\All2 (PlV (kx w) (hide a c)) pls ys/\(∀b∈pls,PlG f rs.length d b)/\pls.length<=layN d/\σ=[some (.ref t),some (.str (z3c m)),some (.ref x),some (.ref a),some (.ref l1)])
   (λ k σ c=>∃d pls ys fz l1 fp,d<=4/\k=6 - d/\cntP fp<=sumN d/\All2 (PlV (kx w) (hide a c)) fp fz/\(∀b∈fp,PlOk f rs.length b.1.length b)/\Same r (hide a c)/\c a=some (.lst fz)/\fz.length<=24 * d/\hide a c l1=some (.lst ys)/\All2 (PlV (kx w) (hide a c)) pls ys/\(∀b∈pls,PlG f rs.length d b)/\pls.length<=layN d/\σ=[some (.ref t),some (.str (z3c m)),some (.ref x),some (.ref a),some (.ref l1)])
   6 ⟨0,[([],f.map λ t=>zeroK t.2)],[.ref g],[],j,[],rfl,U1 _,B0 _,.nil,λ _ h=>absurd h C0,C,n,B0 _,z1k a6 W,.cons ⟨g,rfl,b2.tups (.of C)⟩ .nil,λ b D=>by rw [List.mem_singleton.mp D];exact ⟨zja f _,rfl⟩,B0 _,rfl⟩ ?_ ?_)
  ·rintro k σ l ⟨d,pls,ys,fz,l1,fp,d4,rfl,cn,afp,pfp,s4,ef,fl,el,al,pg,pn,rfl⟩;have yl:ys.length<=24:=by rw [z05 al];exact D0 pn (zea d)
   have a8:=hide_same _ _ el;refine ⟨_,rfl,.inl ⟨rfl,_,SqL.of ef⟩,_,rfl,a,l1,fz,ys,rfl,rfl,ef,a8,D0 (m:=1000) (by omega) (by decide),t_nx ?_⟩;have N:hide a (upd l a (.lst (fz++ys)))=hide a l:=z6m;have v:upd l a (.lst (fz++ys)) a=some (.lst (fz++ys)):=z01;generalize upd l a (.lst (fz++ys))=H5 at N v⊢;rw [<-N] at s4 el al afp;have X:Same r H5:=s4.trans hide_same;refine ⟨_,rfl,_,rfl,x,l1,m,d,rs,f,J,pls,ys,rfl,Y.same X,z02 (λ _ _ z=>RcGd.tt (.of X) z) a0,ok,L,hide_same _ _ el,z02 (λ _ _ z=>z.same hide_same) al,pg,pn,λ Z a3 b0 H6 u a2 a9 a4 a7 a5=>?_⟩;have nl:Z≠a:=λ z=>by rw [z,v] at a2;cases a2
   refine ⟨6 - (d + 1),by omega,d + 1,b0,a3,_,Z,fp++pls,rfl,by omega,by rw [zep];exact Nat.add_le_add cn (zj7 pg pn),zel (z02 (λ _ _ z=>z.same (z2d u)) afp) (z02 (λ _ _ z=>z.same (z2d u)) al),λ b D=>(List.mem_append.mp D).elim (pfp b) λ z=>(pg b z).1,s4.trans (z2d u),u _ _ v,by rw [M0];omega,z1k nl a9,z02 (λ _ _ z=>z.elim λ p y=>⟨p,y.1,y.2.tups (zf2 (u _ _ v))⟩) a4,a7,a5,rfl⟩
  ·rintro k σ l ⟨d,pls,ys,fz,l1,fp,rfl,d5,cn,afp,pfp,s4,ef,fl,el,al,pg,pn,rfl⟩ body;refine ⟨_,rfl,.inl ⟨l1,ys,rfl,.inl (SqL.of (hide_same _ _ el)),_,_,rfl,rfl,_,rfl,?_⟩⟩;refine ite2 (λ h=>?_) λ _=>⟨_,rfl,q a fz fp _ (O.trans (s4.trans hide_same)) (O.free F) ef (z02 (λ _ _ z=>z.same hide_same) afp) pfp (by omega) (D0 cn (zln d5))⟩
   have h:(0:Int) < (ys.length:Int):=of_decide_eq_true h;refine body _ ⟨d,pls,ys,fz,l1,fp,?_,rfl,cn,afp,pfp,s4,ef,fl,el,al,pg,pn,rfl⟩;have a1:0 < layN d:=by have:=z05 al;omega
   rcases Nat.lt_or_ge d 5 with z|z
   ·omega
   ·obtain ⟨e,rfl⟩:=Nat.exists_eq_add_of_le' z;rw [layN_0] at a1;exact absurd a1 (W3 _)
theorem zcq {K:d0} {H H':Hp} {a:Addr} {ks:List (PyData×Addr)} (s:Same H H') (h:NsAt K H a ks):NsAt K H' a ks:=⟨h.1.imp (λ z=>s _ _ z) λ z=>z.elim λ c z=>⟨c,s _ _ z⟩,λ k b=>⟨(h.2 k b).1,(h.2 k b).2.1,(h.2 k b).2.2.same s⟩⟩
theorem zku {X:Cx} {K:d0} (h:X.K=K) {k:Nat} (hr:Room k X.A):OpR X (N2 .In) (rInN K false):=h ▸ op_inN hr
def z0v (K:d0):Sp:=λ vs H Q _=>∃(t:Addr) (ts:List (Str×Str)) (es:List Ev) (ps:List DD) (n:Int),vs=[.ref t,.int n]/\TlP K H t ts es ps/\
 ∀d kvs H',Same H H'->H d=none->H' d=some (.dK kvs)->kvs.length<=41->Q (.ref d) H'
theorem z47 (T:TX (kx w) mg) (c0:Fo P w mg base (CXE P w base) 5 353 y03 ["self","tale","strictness"] (z0u (kx w))) (c2:Ca P w mg base "all_places" ["tale","strictness"] 9 (z5k (kx w))) (c3:Fo P w mg base CX0 7 360 y00 ["self","place"] (z0z (kx w))) (c4:Fo P w mg base CX0 2 367 y05 ["self","place"] (z2y (kx w))):Fo P w mg base CX0 10 434 y04 ["tale","number"] (z0v (kx w)):=by
 refine (z11 w.params).ok sc_answers_in_orders (λ vs H Q E h=>?_) (λ f2 A f0 s H vs Q E C h=>?_)
 ·obtain ⟨t,ts,es,ps,n,rfl,_⟩:=h;rfl
 ·obtain ⟨t,ts,es,ps,n,rfl,tp,q⟩:=h;refine ⟨_,(z03 (ps_set (i:=2) sc_answers_in_orders.nd rfl (j1 rfl) (ze3 (zem _) c0 (C.mono (by decide)) rfl (T.of (zio _)) (z2q _) .nil passN (z00 (pv 0) (z00 pe_str pa_nil))))
   (z03 (ps_set (i:=3) sc_answers_in_orders.nd rfl (Z0 rfl) ze9)
   (z03 (ps_set (i:=4) sc_answers_in_orders.nd rfl (j1 rfl) z52)
   (z03 (ps_for T1 rfl (zl9 rfl (T.no (zev _)) (pe_cal c2 (C.mono (by decide)) rfl (z00 (pv 0) (z00 pe_str pa_nil)))) (z0j (i:=5) sc_answers_in_orders.nd rfl (j1 rfl))
   (z03 (z8t (i:=6) sc_answers_in_orders.nd rfl (j1 rfl) (xs:=["step"]) (g:=gName 0) (fr:=[(3,"hopeful")]) rfl (z1m (zcc (pv 2) (z1a _) (z1s _) c3 (C.mono (by decide)) (z29 _) .nil pass0 (z00 (pv 5) pa_nil))) (by intro p hp;obtain rfl:=List.mem_singleton.mp hp;first|exact ⟨rfl,.inl rfl⟩|exact ⟨rfl,.inr rfl⟩) (zke (n:="hopeful") (by decide +kernel) (λ _=>by first|exact .inl rfl|exact .inr rfl)) (by intro p hp;obtain rfl:=List.mem_singleton.mp hp;exact ⟨by decide +kernel,by first|exact .inl rfl|exact .inr rfl⟩) (by decide +kernel) rfl (by decide +kernel) (λ _ _ _ _ _=>(pg_cn (N:=["step","hopeful"]) 0)) (λ _ _ _ _ _=>(pf_one (z0b (zku (K:=KX w.params) rfl C) (pe_ix (z9h (K:=KX w.params) rfl) (pv 0) pe_int (λ _ _=>rfl)) (pv 1) (by with_unfolding_all rfl)))) (λ _ _ _ _ _=>(pv 0)))
   (z03 (ps_if (PW.pt (pw_or (z0b op_gt (z0a z1c rfl (T.no (n_len _)) D4 (z00 (pv 6) pa_nil)) pe_int (nomark _)) (pw_or1 (pt_val (zcc (pv 2) (z1a _) (z6e _) c4 (C.mono (by decide)) (z76 _) .nil pass0 (z00 (pv 5) pa_nil)) (λ _=>rfl)))))
   (z04 (zj4 C (pv 3) (pv 5) pe_bl rfl))
   z0d)
   (z04 (ps_for T1 rfl (z1m (pv 6)) (z0j (i:=7) sc_answers_in_orders.nd rfl (j1 rfl))
   (z04 (ps_if (z0b opEq (pe_ix ix_seq (pv 7) pe_int (λ _ _=>rfl)) (pv 1) (nomark _))
   (z04 (z9a (hu_of C) (pv 4) (pe_ix ix_seq (pv 7) pe_int (λ _ _=>rfl)) pe_bl rfl))
   z0d)))))))
   (z04 (ps_ret (pv 4))))))),?_⟩
  refine zfg (m:=0) tp (λ R h=>⟨_,rfl,h⟩) λ x dx fs I s1 rl ok a4 e1 U=>?_;have bo:BoAt (kx w) I 0 (dAll 0 [] es) ts ps x:=⟨dx,fs,e1,U⟩
  have d5:=tp.same s1;refine z0l ?_;intro d a8;refine g_name ?_;obtain ⟨H2,v2,q2,e2⟩:=new1 (NsO d []) a8;rw [<-v2];refine z0l ?_;intro e G;refine g_name ?_;obtain ⟨H3,v3,q3,e3⟩:=new1 (.dK []) G;rw [<-v3];have d1:d≠e:=λ z=>by rw [<-z,e2] at G;cases G
  have b8:=q2.trans q3;have f1:I e=none:=q2.free G;have a2:=q3 _ _ e2;refine ⟨_,rfl,t,ts,es,ps,0,rfl,d5.same b8,λ l D B H4 s4 L el al po yl cn=>⟨l,D,rfl,el,?_⟩⟩;have b0:=s4 _ _ a2;have a9:=s4 _ _ e3;have c7:Same I (hid2 d e H4):=zjn a8 f1 (b8.trans s4);have e5:l≠d:=λ z=>by rw [z,a2] at L;cases L
  have d3:l≠e:=λ z=>by rw [z,e3] at L;cases L
  have d6:=zjm (z02 (λ _ _ z=>z.elim λ p y=>(⟨p,y.1,y.2.tups (zby b0 a9)⟩:PlV (kx w) (hid2 d e H4) _ _)) al);have f3:D.length=B.length:=z05 al;have d4:cntP B.reverse<=41:=by unfold cntP at cn⊢;rw [List.filter_reverse,List.length_reverse];exact cn
  clear v2 v3 q2 q3 e2 e3 a2 G;generalize dAll 0 [] es=rs at rl a4 bo U po;refine zll (a:=l) (xs:=D) (λ i σ f=>∃ks kvs,Same (hid2 d e H4) (hid2 d e f)/\f d=some (NsO d ks)/\f e=some (.dK kvs)/\KeyI (kx w) (hid2 d e f) (λ _=>True) ks/\ks.length<=i/\kvs.length + cntP (B.reverse.drop i)<=41/\∃x5 x6 x7,σ=[some (.ref t),some (.int n),some (.ref x),some (.ref d),some (.ref e),x5,x6,x7])
   ⟨[],[],Same.refl _,b0,a9,λ k hk=>absurd hk C0,B0 _,by rw [B5];exact D0 (F5 (U6 _)) d4,_,_,_,rfl⟩ (λ i σ f h=>?_) ?_ ?_
  ·obtain ⟨_,_,h,_⟩:=h;exact z1o _ _ (h _ _ (za0 e5 d3 el))
  ·rintro i y σ W hy ⟨ks,kvs,s5,e25,e35,ki,kl,kc,x5,x6,x7,rfl⟩;obtain ⟨pl,b3,p,rfl,pz⟩:=z0e d6 hy;have a0:=po pl (List.mem_reverse.mp (S0 b3));have il:i < D.length:=by have:=(List.getElem?_eq_some_iff.mp hy).1;rwa [List.length_reverse] at this
   have X:Same I W:=(c7.trans s5).trans z1o;have dr:B.reverse.drop i=pl :: B.reverse.drop (i + 1):=by obtain ⟨h1,Z⟩:=List.getElem?_eq_some_iff.mp b3;rw [d7 h1,Z]
   refine g_name ?_;have c5:=pz.tups (.of s5);have a7:=c5.tups (.of z1o);have b6:=bo.same X;have c6:=(ki.same z1o).at_ (.inl e25);have d8:=z02 (λ _ _ z=>RcGd.tt (.of X) z) a4;have e9:=zce (m:=0) (ts:=ts) (ps:=ps) a0.nd a0.lt;have c9:=(zi3 (c:=cP 0 rs pl.1) (ts:=ts) (rs:=rs) (ps:=ps) (pl:=pl) rs.length).1;have d2:=zj2 (c:=cP 0 rs pl.1) a4 ok a0 (by omega) rfl (λ n h=>cP_no h) (B0 _);refine z0l ?_;refine zft (K:=KX w.params) (λ a xs O=>Same W O/\O a=some (.lst xs)/\All2 (StpZ (kx w) O) (nexT (cP 0 rs pl.1) ts rs ps pl rs.length) xs) (λ R h=>⟨_,rfl,x,dx,fs,rfl,X _ _ e1,U.nm _ (by simp),_,rfl,x,p,0,_,rs,ts,ps,pl,rfl,b6,d8,ok,a7,a0,by omega,λ l D f s L el al=>h l D f ⟨s,el,al⟩⟩) (λ a xs I h=>⟨SqL.of h.2.1,D0 (m:=4) (by rw [z05 h.2.2];exact D0 zec rl) (by decide)⟩) (λ k=>((nexT (cP 0 rs pl.1) ts rs ps pl rs.length)[k]?.map λ r=>decide (plD r.2.2∈ks.map (·.1))).getD false) (λ k y f=>∃r,(nexT (cP 0 rs pl.1) ts rs ps pl rs.length)[k]? = some r/\StpZ (kx w) f r y) (λ _ _ _ _ s ⟨r,h1,Z⟩=>⟨r,h1,Z.tups (.of s)⟩) ?_ ?_
   ·rintro a xs O ⟨s6,e6,al6⟩ k hk v H7 s7 hv KT KF k1 k2;obtain ⟨r,Y,d0⟩:=z0e al6 hv;obtain ⟨M,q5,rfl,a5,b1⟩:=id (StpZ.tups (.of s7) d0);rw [Y] at k1 k2;refine ⟨[some (.ref M)],rfl,rfl,?_⟩;refine ⟨_,rfl,.inr (.inl ⟨M,_,2,.ref q5,rfl,rfl,a5,z07 (j:=2) rfl,_,rfl,d,q5,ks,plD r.2.2,rfl,rfl,zcq (s6.trans s7) c6,pl_key _,pl_dep _,plz_pd b1,_,rfl,?_⟩)⟩;by_cases hm:plD r.2.2∈ks.map (·.1)
    ·refine iteP (by rw [decide_eq_true hm];rfl) ⟨_,rfl,k1 (decide_eq_true hm) _ _ (Same.refl _) ⟨r,rfl,?_⟩⟩;exact StpZ.tups (.of s7) d0
    ·exact iteN (by rw [decide_eq_false hm];decide) (k2 (decide_eq_false hm) _ (Same.refl _))
   rintro a xs O ⟨s6,e6,al6⟩ l7 H7 us s7 hl7 F;rw [z05 al6] at F;obtain ⟨sts,a1,F⟩:=zg0 F;refine g_name ?_;obtain ⟨H8,v8,q8,e8⟩:=new1 (.lst us) hl7;rw [<-v8];have u:=(s6.trans s7).trans q8;have b2:=z02 (λ _ _ z=>StpZ.tups (.of q8) z) F;have a3:=u _ _ e25;have a6:=u _ _ e35;have n1:l7≠d:=λ z=>by rw [z,(s6.trans s7) _ _ e25] at hl7;cases hl7
   have n2:l7≠e:=λ z=>by rw [z,(s6.trans s7) _ _ e35] at hl7;cases hl7
   have S:=z3h (a:=d) (b:=e) u;have b7:=z02 (λ _ _ z=>StpZ.tups (zby a3 a6) z) b2;clear F b2 v8;refine z5q (λ σ1 f=>∃ks',Same (hid2 d e H8) (hid2 d e f)/\f d=some (NsO d ks')/\f e=some (.dK kvs)/\KeyI (kx w) (hid2 d e f) (λ _=>True) ks'/\ks'.length<=i + 1/\σ1=[some (.ref t),some (.int n),some (.ref x),some (.ref d),some (.ref e),some (.ref p),some (.ref l7),x7]) ?_ (λ tl=>?_);rotate_left
   ·refine if_any (λ f=>Same H8 f) (λ H9 o=>?_) λ put=>?_
    ·have e0:=a7.tups (.of (u.trans o));refine ⟨_,rfl,_,rfl,d,p,ks,plD pl,rfl,rfl,rfl,o _ _ a3,zcq (u.trans o) c6,Q1 kl (G1 (m:=200) (by omega) (by decide)),pl_key _,pl_dep _,plz_pd e0,tl _ _ ⟨putN ks (plD pl) p,?_,z01,by rw [upd_ne d1.symm];exact o _ _ a6,?_,D0 zb1 (by omega),rfl⟩⟩
     ·rw [hid2_a];exact z3h o
     ·rw [hid2_a];exact (ki.same (S.trans (z3h o))).put (c5.tups (.of (S.trans (z3h o)))) trivial
    ·refine t_or ?_;refine ⟨_,rfl,.inl ⟨l7,us,rfl,.inl (SqL.of e8),_,_,rfl,rfl,_,rfl,?_⟩⟩;refine ite2 (λ _=>iteT (put _ (Same.refl _))) λ _=>?_;refine ⟨_,rfl,x,dx,fs,rfl,(X.trans u) _ _ e1,U.nm _ (by simp),_,rfl,x,p,0,rs,ts,ps,pl,rfl,b6.same u,by omega,a7.tups (.of u),λ b9 H9 o=>⟨_,rfl,?_⟩⟩;exact ite2 (λ _=>put _ o) λ _=>tl _ _ ⟨ks,z3h o,o _ _ a3,o _ _ a6,ki.same (S.trans (z3h o)),by omega,rfl⟩
   rintro σ1 H9 ⟨ks',o,e29,e39,ki9,kl9,rfl⟩;have c8:=o _ _ (za0 n1 n2 e8);refine ⟨_,rfl,l7,rfl,⟨_,SqL.of (z1o _ _ c8)⟩,?_⟩;refine z2j (K:=KX w.params) (a:=l7) (xs:=us) (λ j σ f=>∃kvs',Same (hid2 d e H9) (hid2 d e f)/\f d=some (NsO d ks')/\f e=some (.dK kvs')/\KeyI (kx w) (hid2 d e f) (λ _=>True) ks'/\kvs'.length<=kvs.length + numC n (sts.take j)/\∃x7,σ=[some (.ref t),some (.int n),some (.ref x),some (.ref d),some (.ref e),some (.ref p),some (.ref l7),x7])
    ⟨kvs,Same.refl _,e29,e39,ki9,j08 _ _,_,rfl⟩ (λ j σ f _ h=>SqL.of (z1o _ _ (h.choose_spec.1 _ _ c8))) ?_ ?_
   ·rintro j y σ d9 e7 ⟨kvs',s10,e210,e310,ki10,kl10,x7,rfl⟩;obtain ⟨r,Y,M,q5,rfl,a5,b1⟩:=z0e b7 e7;have b4:=((o.trans s10).trans z1o).seqT a5;have nt:=zh9 (n:=n) Y;refine g_name ?_;refine ⟨_,rfl,.inr (.inl ⟨M,_,0,.int (r.1:Nat),rfl,rfl,b4,z07 (j:=0) rfl,_,rfl,rfl,_,rfl,?_⟩)⟩;have e4:kvs'.length < 1000:=by
     have:=numC_1 (n:=n) (sts:=sts) (c9.sublist (a1.map _));have Z:numC n (sts.take j)<=numC n sts:=by unfold numC;exact ((N9 j sts).filter _).length_le
     omega
    by_cases hn:(r.1:Int)=n
    ·refine iteP (decide_eq_true (by rw [hn])) ?_;obtain ⟨J,hk⟩ :∃J:Key,r.2.1=kV J:=by
      rcases (d2 r (a1.mem (S0 Y))).1 with h|h|⟨a,h,_⟩
      ·exact ⟨.inr "ok",h⟩
      ·exact ⟨.inr "none",h⟩
      ·exact ⟨.inl a,h⟩
     refine ⟨_,rfl,_,rfl,.inr (.inl ⟨M,_,1,r.2.1,rfl,rfl,b4,z07 (j:=1) rfl,e,_,rfl,hk ▸ DPut.k (k:=J) e310 (G1 e4 (by decide)),?_⟩)⟩;refine ⟨putK kvs' J (.bl true),?_,by rw [upd_ne d1];exact e210,z01,?_,?_,_,rfl⟩
     ·rw [hid2_b];exact s10
     ·rw [hid2_b];exact ki10
     ·have:=z88 kvs' J (.bl true);rw [nt,if_pos hn];omega
    ·refine iteN (λ h=>hn (V.int.inj (of_decide_eq_true h))) ⟨kvs',s10,e210,e310,ki10,by rw [nt];omega,_,rfl⟩
   ·rintro σ d9 ⟨kvs',s10,e210,e310,ki10,kl10,x7,rfl⟩;rw [z05 b7,Z9] at kl10;have n1:=numC_1 (n:=n) (sts:=sts) (c9.sublist (a1.map _));refine ⟨ks',kvs',s5.trans (S.trans (o.trans s10)),e210,e310,ki10,kl9,?_,_,_,_,rfl⟩;rw [dr] at kc;have cc:cntP (pl :: B.reverse.drop (i + 1))=cntP [pl] + cntP (B.reverse.drop (i + 1)):=zep (a:=[pl]);by_cases h4:pl.1.length < 4
    ·have c1:cntP [pl]=1:=by unfold cntP;rw [P2 (p:=λ pl:Pl=>decide (pl.1.length < 4)) (decide_eq_true h4)];rfl
     omega
    ·have z0:sts.length<=0:=D0 a1.length_le (by omega);have:numC n sts=0:=by rw [List.eq_nil_of_length_eq_zero (Nat.le_zero.mp z0)];rfl
     omega
  ·rintro σ W ⟨ks,kvs,s5,e25,e35,ki,kl,kc,x5,x6,x7,rfl⟩;exact ⟨_,rfl,q e kvs W (s1.trans ((c7.trans s5).trans z1o)) (s1.free f1) e35 (by omega)⟩
theorem t_and {t u:TT} {σ:L2.St} {H:Hp} {Q:Bool->Hp->Prop} (h:t σ H λ c H1=>if c=true then u σ H1 Q else Q false H1):tAnd t u σ H Q:=h
theorem zi4 {α:Type} {f:α->V} {is:List Nat} {ys:List V} (h:All2 (λ (_:Nat) y=>∃a,y=f a) is ys) :∃as:List α,ys=as.map f/\as.length=is.length:=by
 induction h with
 | nil=>exact ⟨[],rfl,rfl⟩
 | cons a r ih=>obtain ⟨a,rfl⟩:=a;obtain ⟨as,rfl,e⟩:=ih;exact ⟨a :: as,rfl,by rw [U0,U0,e]⟩
def OpH (es:List Ev) (h:Int):Prop:=∃(j:Nat) (r:Rc),(dAll 0 [] es)[j]? = some r/\r.h=h/\r.e=none
def BadH (H:Hp) (es:List Ev) (v:V):Prop:=∃T,TagOf H v T/\(T = "int"->∃h,v=.int h/\¬ OpH es h)
theorem BadH.same {H H':Hp} {es:List Ev} {v:V} (s:Same H H') (h:BadH H es v):BadH H' es v:=h.elim λ T z=>⟨T,z.1.same s,z.2⟩
def TaP (K:d0) (H:Hp) (t:Addr) (es:List Ev):Prop:=∃ts,TaleAt K H t ts es/\es.length<=63/\EWf [] es
theorem TaP.same {K:d0} {H H':Hp} {t:Addr} {es:List Ev} (s:Same H H') (h:TaP K H t es):TaP K H' t es:=h.elim λ a z=>⟨a,z.1.tt (.of s),z.2⟩
def z5z (K:d0):Sp:=λ vs H Q _=>∃(t:Addr) (es:List Ev) (h:Int),vs=[.ref t,.int h]/\TaP K H t es/\OpH es h/\∀(n:Nat) H',Same H H'->Q (.int (n:Nat)) H'
theorem zb0 (T:TX (kx w) mg) (c0:Ca P w mg base "is_whole" ["value"] 1 z22) (c1:Ca P w mg base "deeds" ["tale"] 1 (z6w (kx w))):Fo P w mg base CX0 2 429 y0f ["tale","hand"] (z5z (kx w)):=by
 refine (z23 w.params).ok sc_open_deed (λ X H Q E h=>?_) (λ a3 A a2 s H X Q E n h=>?_)
 ·obtain ⟨t,b,h,rfl,_⟩:=h;rfl
 ·obtain ⟨t,b,h,rfl,⟨ts,⟨pt,O,I,U,th,x,S⟩,a0,D⟩,N,q⟩:=h;refine ⟨_,(z03 (ps_if (pt_val (pe_cal c0 (n.mono (by decide)) rfl (z00 (pv 1) pa_nil)) (λ _=>rfl))
   (z04 (ps_for T1 rfl (z5c rfl (T.no (z14 _)) (z00 (pe_cal c1 (n.mono (by decide)) rfl (z00 (pv 0) pa_nil)) pa_nil)) (pg_tup rfl (z0h (z0j (i:=2) sc_open_deed.nd rfl (j1 rfl)) (z0h (z0j (i:=3) sc_open_deed.nd rfl (j1 rfl)) z17)))
   (z04 (ps_if (PW.pt (pw_and (z0b opEq (pe_ix ix_seq (pv 3) pe_int (λ _ _=>rfl)) (pv 1) (nomark _)) (zdv (z0b op_isN (pe_ix ix_seq (pv 3) pe_int (λ _ _=>rfl)) pe_non (nomark _)))))
   (z04 (ps_ret (pv 2)))
   z0d))))
   z0d)
   (z04 z46)),?_⟩
  obtain ⟨dw,os,DI⟩:=DInv.all DInv.nil D;have rl:(dAll 0 [] b).length<=63:=by have:=z6p (i:=0) (rs:=[]) b;simp only [L5,U6] at this;omega
  refine sq_if ?_;refine ⟨_,rfl,.int h,"int",rfl,rfl,_,rfl,iteT ?_⟩;refine ⟨_,rfl,t,O,.ref pt,I,b,rfl,SqT.of U,SqT.of x,S,by omega,dw,λ lt o R F a1 v l=>⟨lt,o,rfl,SqL.of v,?_⟩⟩;refine z4l (K:=KX w.params) (a:=lt) (xs:=o) (λ i σ u=>Same R u/\(∀(j:Nat) r,j < i->(dAll 0 [] b)[j]? = some r->¬ (r.h=h/\r.e=none))/\∃x2 x3,σ=[some (.ref t),some (.int h),x2,x3]) ⟨Same.refl _,λ j r c=>absurd c (G6 _),_,_,rfl⟩ (λ i σ u h=>SqL.of (h.1 _ _ v)) ?_ ?_
  ·rintro i y σ Y p Z ⟨s2,no,x2,x3,rfl⟩ hp;obtain ⟨r,B,g,rfl,G⟩:=z0e l Z;obtain ⟨H3,M,d,L⟩:=new1 (.tup [.int (i:Nat),.ref g]) hp;rw [<-M];have m:=(s2.trans d).seqT G;have k:¬ (r.h=h/\r.e=none)->∀(j:Nat) r,j < i + 1->(dAll 0 [] b)[j]? = some r->¬ (r.h=h/\r.e=none):=λ n0 j C c f=>by
    rcases Nat.lt_succ_iff_lt_or_eq.mp c with z|z
    ·exact no j C z f
    ·rw [z,B] at f;cases f;exact n0
   refine ⟨p,_,rfl,SqT.of L,rfl,_,_,rfl,_,_,rfl,rfl,?_⟩;refine zej (t_and ?_);refine ⟨_,rfl,.inr (.inl ⟨g,_,0,.int r.h,rfl,rfl,m,z07 (j:=0) rfl,_,rfl,rfl,_,rfl,?_⟩)⟩;by_cases hh:r.h=h
   ·refine iteP (decide_eq_true (by rw [hh])) ?_;refine ⟨_,rfl,.inr (.inl ⟨g,_,6,endV r.e,rfl,rfl,m,z07 (j:=6) rfl,rfl,_,rfl,?_⟩)⟩;cases he:r.e with
    | none=>exact iteP (decide_eq_true rfl) ⟨_,rfl,q i _ (F.trans (s2.trans d))⟩
    | some e=>exact iteN (by show ¬ decide (V.int (e:Nat)=V.non)=true;rw [decide_eq_false (λ z=>by cases z)];decide) ⟨s2.trans d,k (λ z=>by rw [he] at z;cases z.2),_,_,rfl⟩
   ·exact iteN (λ z=>hh (V.int.inj (of_decide_eq_true z))) (iteF ⟨s2.trans d,k (λ z=>hh z.1),_,_,rfl⟩)
  ·rintro σ Y ⟨s2,no,x2,x3,rfl⟩;obtain ⟨j,r,c,W,J⟩:=N;exact absurd ⟨W,J⟩ (no j r (by rw [z05 l];exact (List.getElem?_eq_some_iff.mp c).1) c)
def z5l (K:d0):Sp:=λ vs H _ E=>∃(t:Addr) (es:List Ev) (v:V),vs=[.ref t,v]/\TaP K H t es/\BadH H es v/\∀H',Same H H'->E (.ref 132) none H'
theorem z92 (T:TX (kx w) mg) (c0:Ca P w mg base "is_whole" ["value"] 1 z22) (c1:Ca P w mg base "deeds" ["tale"] 1 (z6w (kx w))):Fo P w mg base (CXE P w base) 2 429 y0f ["tale","hand"] (z5l (kx w)):=by
 refine (z23 w.params).okE sc_open_deed (λ S H Q E h=>?_) (λ a3 A a2 s H S Q E k h=>?_)
 ·obtain ⟨t,b,v,rfl,_⟩:=h;rfl
 ·obtain ⟨t,b,v,rfl,⟨ts,⟨pt,M,I,R,Z,o,O⟩,a0,B⟩,⟨f,Y,U⟩,q⟩:=h;refine ⟨_,(z03 (ps_if (pt_val (pe_cal c0 (k.mono (by decide)) rfl (z00 (pv 1) pa_nil)) (λ _=>rfl))
   (z04 (PS.nox (ps_for T1 rfl (z5c rfl (T.no (z14 _)) (z00 (pe_cal c1 (k.mono (by decide)) rfl (z00 (pv 0) pa_nil)) pa_nil)) (pg_tup rfl (z0h (z0j (i:=2) sc_open_deed.nd rfl (j1 rfl)) (z0h (z0j (i:=3) sc_open_deed.nd rfl (j1 rfl)) z17)))
   (z04 (ps_if (PW.pt (pw_and (z0b opEq (pe_ix ix_seq (pv 3) pe_int (λ _ _=>rfl)) (pv 1) (nomark _)) (zdv (z0b op_isN (pe_ix ix_seq (pv 3) pe_int (λ _ _=>rfl)) pe_non (nomark _)))))
   (z04 (ps_ret (pv 2)))
   z0d)))))
   z0d)
   (z04 (zgv F.excBase_ValueError (T.of (zbs _)) (zj5 _) rfl (z00 pe_str pa_nil)))),?_⟩
  obtain ⟨dw,os,DI⟩:=DInv.all DInv.nil B;have rl:(dAll 0 [] b).length<=63:=by have:=z6p (i:=0) (rs:=[]) b;simp only [L5,U6] at this;omega
  refine sq_if ?_;refine ⟨_,rfl,v,f,rfl,Y,_,rfl,?_⟩;by_cases hg:f = "int"
  ·obtain ⟨h,rfl,u⟩:=U hg;refine iteP (decide_eq_true hg) ?_;refine ⟨_,rfl,t,M,.ref pt,I,b,rfl,SqT.of R,SqT.of o,O,by omega,dw,λ lt l N D a1 n C=>⟨lt,l,rfl,SqL.of n,?_⟩⟩;refine z4l (K:=KX w.params) (a:=lt) (xs:=l) (λ i σ m=>Same N m/\∃x2 x3,σ=[some (.ref t),some (.int h),x2,x3]) ⟨Same.refl _,_,_,rfl⟩ (λ i σ m h=>SqL.of (h.1 _ _ n)) ?_ ?_
   ·rintro i y σ W p X ⟨s2,x2,x3,rfl⟩ hp;obtain ⟨r,x,d,rfl,G⟩:=z0e C X;obtain ⟨H3,L,c,J⟩:=new1 (.tup [.int (i:Nat),.ref d]) hp;rw [<-L];have g:=(s2.trans c).seqT G;refine ⟨p,_,rfl,SqT.of J,rfl,_,_,rfl,_,_,rfl,rfl,?_⟩;refine zej (t_and ?_);refine ⟨_,rfl,.inr (.inl ⟨d,_,0,.int r.h,rfl,rfl,g,z07 (j:=0) rfl,_,rfl,rfl,_,rfl,?_⟩)⟩;by_cases hh:r.h=h
    ·refine iteP (decide_eq_true (by rw [hh])) ?_;refine ⟨_,rfl,.inr (.inl ⟨d,_,6,endV r.e,rfl,rfl,g,z07 (j:=6) rfl,rfl,_,rfl,?_⟩)⟩;cases he:r.e with
     | none=>exact absurd ⟨i,r,x,hh,he⟩ u
     | some e=>exact iteN (by show ¬ decide (V.int (e:Nat)=V.non)=true;rw [decide_eq_false (λ z=>by cases z)];decide) ⟨s2.trans c,_,_,rfl⟩
    ·exact iteN (λ z=>hh (V.int.inj (of_decide_eq_true z))) (iteF ⟨s2.trans c,_,_,rfl⟩)
   ·rintro σ W ⟨s2,x2,x3,rfl⟩;exact ⟨w_1,q _ (D.trans s2)⟩
  ·exact iteN (by rw [decide_eq_false hg];decide) ⟨w_1,q _ (Same.refl _)⟩
def z5j (K:d0):Sp:=λ vs H Q _=>∃(t:Addr) (ts:List (Str×Str)) (es:List Ev) (ps:List DD) (h:Int),vs=[.ref t,.int h]/\TlP K H t ts es ps/\OpH es h/\∀l xs H',Same H H'->H' l=some (.lst xs)->Q (.ref l) H'
theorem z9r (T:TX (kx w) mg) (c0:Ca P w mg base "open_deed" ["tale","hand"] 2 (z5z (kx w))) (c1:Ca P w mg base "answers_in_orders" ["tale","number"] 10 (z0v (kx w))) (c2:Ca P w mg base "is_whole" ["value"] 1 z22):Fo P w mg base CX0 11 422 y09 ["tale","hand"] (z5j (kx w)):=by
 refine (z1f w.params).ok sc_may_answer (λ vs H Q E h=>?_) (λ b0 A a9 s H vs Q E e h=>?_)
 ·obtain ⟨t,l,r,O,h,rfl,_⟩:=h;rfl
 ·obtain ⟨t,l,r,O,h,rfl,tp,op,q⟩:=h;refine ⟨_,(z03 (ps_set (i:=2) sc_may_answer.nd rfl (j1 rfl) (pe_cal c1 (e.mono (by decide)) rfl (z00 (pv 0) (z00 (pe_cal c0 (e.mono (by decide)) rfl (z00 (pv 0) (z00 (pv 1) pa_nil))) pa_nil))))
   (z03 (zhy (z8t (i:=3) sc_may_answer.nd rfl (j1 rfl) (xs:=["answer"]) (g:=gName 0) (fr:=[]) rfl (zhv (pv 2)) (λ _ z=>absurd z C0) (z5y rfl) (λ _ z=>absurd z C0) (by decide +kernel) rfl (by decide +kernel) (λ _ _ _ _ _=>(pg_cn (N:=["answer"]) 0)) (λ _ _ _ _ _=>(pf_one (pt_val (pe_cal c2 (e.mono (by decide)) rfl (z00 (pv 0) pa_nil)) (λ _=>rfl)))) (λ _ _ _ _ _=>(pv 0))))
   (z03 (zhy (z8t (i:=4) sc_may_answer.nd rfl (j1 rfl) (xs:=["answer"]) (g:=gName 0) (fr:=[]) rfl (zhv (pv 2)) (λ _ z=>absurd z C0) (z5y rfl) (λ _ z=>absurd z C0) (by decide +kernel) rfl (by decide +kernel) (λ _ _ _ _ _=>(pg_cn (N:=["answer"]) 0)) (λ _ _ _ _ _=>(pf_one (pt_not (pt_val (pe_cal c2 (e.mono (by decide)) rfl (z00 (pv 0) pa_nil)) (λ _=>rfl))))) (λ _ _ _ _ _=>(pv 0))))
   (z04 (ps_ret (pe_op opAdd (z0a z2g rfl (T.no (z3z _)) P6 (z00 (pv 3) pa_nil)) (z0a zb2 rfl (T.no (z3z _)) P6 (z00 (pv 4) pa_nil)))))))),?_⟩
  refine z0l ?_;refine ⟨_,rfl,_,rfl,_,rfl,t,r,h,rfl,⟨l,tp.1,tp.2.2.1,tp.2.2.2.1⟩,op,λ n H1 I=>?_⟩;refine ⟨t,l,r,O,n,rfl,tp.same I,λ d kvs H2 s2 hd L o=>?_⟩;refine g_name ?_;have C:kvs.length<=sizeLine:=D0 o (by decide);refine zet ?_;refine tcompD (K:=KX w.params) (a:=d) (kvs:=kvs) (λ i=>(kvs[i]?.map λ q=>q.1.isLeft).getD false) (λ i y=>∃j:Int,y=.int j) (λ R h=>⟨_,rfl,h⟩) L C ?_ ?_
  ·intro i k v u H3 _ KT KF b c;rw [u] at b c;cases k with
   | inl j=>exact ⟨[some (.int j)],rfl,rfl,⟨_,rfl,.int j,"int",rfl,rfl,_,rfl,iteT ⟨_,rfl,b rfl _ _ (Same.refl _) ⟨j,rfl⟩⟩⟩⟩
   | inr z=>exact ⟨[some (.str z)],rfl,rfl,⟨_,rfl,.str z,"str",rfl,rfl,_,rfl,iteN (by decide) (c rfl _ (Same.refl _))⟩⟩
  intro W H3 a8 B b3 a4 Z;refine zet ?_;refine tcompD (K:=KX w.params) (a:=d) (kvs:=kvs) (λ i=>(kvs[i]?.map λ q=>q.1.isRight).getD false) (λ i y=>∃z:Str,y=.str z) (λ R h=>⟨_,rfl,h⟩) (B _ _ L) C ?_ ?_
  ·intro i k v u H4 _ KT KF b c;rw [u] at b c;cases k with
   | inl j=>exact ⟨[some (.int j)],rfl,rfl,⟨_,rfl,.int j,"int",rfl,rfl,_,rfl,iteN (by decide) (c rfl _ (Same.refl _))⟩⟩
   | inr z=>exact ⟨[some (.str z)],rfl,rfl,⟨_,rfl,.str z,"str",rfl,rfl,_,rfl,iteP (by decide) ⟨_,rfl,b rfl _ _ (Same.refl _) ⟨z,rfl⟩⟩⟩⟩
  intro l4 H4 b2 M b1 a0 a7;obtain ⟨F,rfl,G⟩:=zi4 (f:=V.int) Z;obtain ⟨S,rfl,x⟩:=zi4 (f:=V.str) a7;have G:F.length<=41:=by rw [G];exact D0 (A2 _ _) (by rw [W1];exact o)
  have x:S.length<=41:=by rw [x];exact D0 (A2 _ _) (by rw [W1];exact o)
  refine sq_ret ?_;refine ⟨_,rfl,W,F,rfl,.inl (SqL.of (M _ _ a4)),by omega,λ l5 a5 a3 Y pw=>?_⟩;obtain ⟨H5,v5,D,e5⟩:=new1 (.lst (a5.map V.int)) a3;rw [<-v5];refine ⟨_,rfl,l4,S,rfl,SqL.of (D _ _ a0),by omega,λ U a1 a6 a2=>?_⟩;obtain ⟨H6,v6,J,e6⟩:=new1 (.lst (a1.map V.str)) a6;rw [<-v6];exact .inr (.inr (.inl ⟨l5,U,_,_,rfl,rfl,J _ _ e5,e6,D0 (m:=100) (by rw [K0,K0,Y.length_eq,a2.length_eq];omega) (by decide),λ p X=>q p _ _ (((I.trans s2).trans (B.trans M)).trans ((D.trans J).trans (Same.upd X))) z01⟩))
def z4v (K:d0):Sp:=λ vs H _ E=>∃(t:Addr) (es:List Ev) (v:V),vs=[.ref t,v]/\TaP K H t es/\BadH H es v/\∀H',Same H H'->E (.ref 132) none H'
theorem z7x (T:TX (kx w) mg) (c0:CaE P w mg base "open_deed" ["tale","hand"] 2 (z5l (kx w))) (c1:Ca P w mg base "answers_in_orders" ["tale","number"] 10 (z0v (kx w))):Fo P w mg base (CXE P w base) 11 422 y09 ["tale","hand"] (z4v (kx w)):=by
 refine (z1f w.params).okE sc_may_answer (λ d H Q E h=>?_) (λ g A f s H d Q E a h=>?_)
 ·obtain ⟨t,c,v,rfl,_⟩:=h;rfl
 ·obtain ⟨t,c,v,rfl,e,b,q⟩:=h;refine ⟨_,(z03 (ps_set (i:=2) sc_may_answer.nd rfl (j1 rfl) (pe_cal c1 (a.mono (by decide)) rfl (z00 (pv 0) (z00 (zle passE c0 (a.mono (by decide)) rfl (z00 (pv 0) (z00 (pv 1) pa_nil))) pa_nil))))
   (z03 z46 (z03 z46 (z04 z46)))),?_⟩
  exact ⟨_,rfl,_,rfl,_,rfl,t,c,v,rfl,e,b,q⟩
def ActAt (H:Hp) (r:Rc) (y:V):Prop:=∃p,y=.ref p/\H p=some (.lst [.int r.h,r.n,r.v,r.x,r.a,.int r.b,endV r.e])
theorem ActAt.same {H H':Hp} {r:Rc} {y:V} (s:Same H H') (h:ActAt H r y):ActAt H' r y:=h.elim λ p z=>⟨p,z.1,s _ _ z.2⟩
theorem ActAt.wrote {H:Hp} {l:Addr} {o:HO} {r:Rc} {y:V} (n:y≠.ref l) (h:ActAt H r y):ActAt (upd H l o) r y:=h.elim λ p z=>⟨p,z.1,by rw [upd_ne (λ e=>n (by rw [z.1,e]))];exact z.2⟩
def z5p (K:d0):Sp:=λ vs H Q _=>∃(t:Addr) (es:List Ev),vs=[.ref t]/\TaP K H t es/\∀l zs H',Same H H'->H' l=some (.lst zs)->All2 (ActAt H') (dAll 0 [] es) zs->Q (.ref l) H'
theorem z93 (T:TX (kx w) mg):Fo P w mg base CX0 1 494 y10 ["tale"] (z5p (kx w)):=by
 refine (z3y w.params).ok sc__law_deeds (λ vs H Q E h=>?_) (λ d1 A d0 s H vs Q E hr h=>?_)
 ·obtain ⟨t,u,rfl,_⟩:=h;rfl
 ·obtain ⟨t,u,rfl,⟨ts,⟨pt,M,D,et,th,c0,al⟩,c7,c1⟩,q⟩:=h;have st:SqT (kx w) H t [.ref pt,.ref M]:=SqT.of et;have se:SqT (kx w) H M D:=SqT.of c0;have hl:u.length<=100:=by omega
  obtain ⟨wf,_⟩:=DInv.all DInv.nil c1;refine ⟨_,(z03 (ps_set (i:=1) sc__law_deeds.nd rfl (j1 rfl) (pe_lst pa_nil))
   (z03 (ps_set (i:=2) sc__law_deeds.nd rfl (j1 rfl) z52)
   (z03 (ps_for T1 rfl (z86 rfl (T.no (zc6 _)) (z00 (z0a z1c rfl (T.no (n_len _)) D4 (z00 (pe_ix ix_seq (pv 0) pe_int (λ _ _=>rfl)) pa_nil)) pa_nil)) (z0j (i:=3) sc__law_deeds.nd rfl (j1 rfl))
   (z03 (ps_set (i:=4) sc__law_deeds.nd rfl (j1 rfl) (pe_ix ix_seq (pe_ix ix_seq (pv 0) pe_int (λ _ _=>rfl)) (pv 3) (λ _ _=>rfl)))
   (z04 (ps_if (z0b opEq (pe_ix ix_seq (pv 4) pe_int (λ _ _=>rfl)) pe_str (nomark _))
   (z03 (z9a (hu_of hr) (pv 2) (pe_ix ix_seq (pv 4) pe_int (λ _ _=>rfl)) (z0a z1c rfl (T.no (n_len _)) D4 (z00 (pv 1) pa_nil)) rfl)
   (z04 (z31 (z1x (pv 1) (z00 (pe_lst (z00 (pe_ix ix_seq (pv 4) pe_int (λ _ _=>rfl)) (z00 (pe_ix ix_seq (pv 4) pe_int (λ _ _=>rfl)) (z00 (pe_ix ix_seq (pv 4) pe_int (λ _ _=>rfl)) (z00 (pe_ix ix_seq (pv 4) pe_int (λ _ _=>rfl)) (z00 pe_non (z00 (pv 3) (z00 pe_non pa_nil)))))))) pa_nil)))))
   (z03 (ps_asg (pe_ix ix_seq (pv 4) pe_int (λ _ _=>rfl)) (pg_sub (pe_ix ix_seq (pv 1) (z6o (hu_of hr) (pv 2) (pe_ix ix_seq (pv 4) pe_int (λ _ _=>rfl)) (λ _ _=>rfl)) (λ _ _=>rfl)) pe_int z5a))
   (z04 (ps_asg (pv 3) (pg_sub (pe_ix ix_seq (pv 1) (z6o (hu_of hr) (pv 2) (pe_ix ix_seq (pv 4) pe_int (λ _ _=>rfl)) (λ _ _=>rfl)) (λ _ _=>rfl)) pe_int z5a))))))))
   (z04 (ps_ret (pv 1)))))),?_⟩
  refine ⟨w_0,λ l b0=>?_⟩;intro d a3;have a0:l≠d:=z08 z01 a3;have b8:H d=none:=by rwa [upd_ne a0.symm] at a3
  have s2:Same H (upd (upd H l (.lst [])) d (.dK [])):=(Same.upd b0).trans (Same.upd a3);have L:upd (upd H l (.lst [])) d (.dK []) l=some (.lst []):=by rw [upd_ne a0];exact z01
  have F:upd (upd H l (.lst [])) d (.dK []) d=some (.dK []):=z01;generalize upd (upd H l (.lst [])) d (.dK [])=H2 at s2 L F⊢;have c2:=z05 al;have c8:100<=sizeLine:=by decide
  refine ⟨_,rfl,.inr (.inl ⟨t,_,1,.ref M,rfl,rfl,s2.seqT st,z07 (j:=1) rfl,.inl ⟨M,D,rfl,.inr (s2.seqT se),D.length,rfl,by omega,by omega,?_⟩⟩)⟩;refine z5x (lo:=0) (n:=D.length) (λ i σ W=>∃rs zs kvs,W l=some (.lst zs)/\All2 (ActAt W) rs zs/\zs.Nodup/\(∀p,V.ref p∈zs->p≠l/\H p=none)/\W d=some (.dK kvs)/\kvs.length<=i/\rs.length<=i/\(∀h,valV kvs (.inl h)=(lastI h (rs.map Rc.h)).map λ j=>V.int (j:Nat))/\dAll i rs (u.drop i)=dAll 0 [] u/\dWf i rs (u.drop i)/\Same H W/\∃x3 x4,σ=[some (.ref t),some (.ref l),some (.ref d),x3,x4])
   ⟨[],[],[],L,.nil,.nil,λ _ z=>absurd z C0,F,B0 _,B0 _,λ h=>rfl,by rw [B5],by rw [B5];exact wf,s2,_,_,rfl⟩ ?_ ?_
  ·rintro i σ g hi ⟨rs,zs,kvs,el4,ar4,nd,nzl,ed4,hk,hr',hv,B,dw,s4,x3,x4,rfl⟩;rw [Int.zero_add];have b6:i < u.length:=by omega
   have hy:D[i]? = some D[i]:=N0 hi;obtain ⟨e,he,ev⟩:=z0e al hy;obtain ⟨_,ee⟩:=List.getElem?_eq_some_iff.mp he;have dr:u.drop i=e :: u.drop (i + 1):=by rw [d7 b6,ee]
   rw [dr] at B dw;have a5:=EvAt.tups (.of s4) ev;have c9:i < 100:=G1 b6 hl;have lz:zs.length=rs.length:=z05 ar4;refine g_name ?_;refine ⟨_,rfl,.inr (.inl ⟨t,_,1,.ref M,rfl,rfl,s4.seqT st,z07 (j:=1) rfl,_,rfl,.inr (.inl ⟨M,D,i,D[i],rfl,rfl,s4.seqT se,z07 hy,?_⟩)⟩)⟩;generalize D[i]=y at a5⊢;cases e with
   | beg h n v x=>
    obtain ⟨C,rfl,G⟩:=a5;refine ⟨_,rfl,.inr (.inl ⟨C,_,0,.str "begin",rfl,rfl,G,z07 (j:=0) rfl,rfl,_,rfl,iteP (decide_eq_true rfl) ?_⟩)⟩;refine ⟨_,rfl,.inl ⟨l,zs,rfl,.inl (SqL.of el4),⟨_,rfl,⟨_,rfl,.inr (.inl ⟨C,_,1,.int h,rfl,rfl,G,z07 (j:=1) rfl,d,_,rfl,DPut.k (k:=.inl h) ed4 (Q1 (m:=100) (by omega) (by decide)),?_⟩)⟩⟩⟩⟩;have U:Tups (kx w) g (upd g d (.dK (putK kvs (.inl h) (.int (zs.length:Nat))))):=Tups.dict ed4;have s5:=Same.keep (o:=.dK (putK kvs (.inl h) (.int (zs.length:Nat)))) s4 b8;have J:upd g d (.dK (putK kvs (.inl h) (.int (zs.length:Nat)))) l=some (.lst zs):=by rw [upd_ne a0];exact el4
    have R:upd g d (.dK (putK kvs (.inl h) (.int (zs.length:Nat)))) d=some (.dK (putK kvs (.inl h) (.int (zs.length:Nat)))):=z01;have a2:All2 (ActAt (upd g d (.dK (putK kvs (.inl h) (.int (zs.length:Nat)))))) rs zs:=z02 (λ a b z=>z.wrote (λ e=>by obtain ⟨p,L,F⟩:=z;rw [L] at e;cases e;rw [ed4] at F;cases F)) ar4;generalize upd g d (.dK (putK kvs (.inl h) (.int (zs.length:Nat))))=H5 at U s5 J R a2⊢;have K:=U _ _ G;refine ⟨_,rfl,.inl ⟨rfl,zs,SqL.of J⟩,?_⟩;refine ⟨_,rfl,.inr (.inl ⟨C,_,1,.int h,rfl,rfl,K,z07 (j:=1) rfl,_,rfl,.inr (.inl ⟨C,_,2,n,rfl,rfl,K,z07 (j:=2) rfl,_,rfl,.inr (.inl ⟨C,_,3,v,rfl,rfl,K,z07 (j:=3) rfl,_,rfl,.inr (.inl ⟨C,_,4,x,rfl,rfl,K,z07 (j:=4) rfl,_,rfl,w_7,λ I O=>?_⟩)⟩)⟩)⟩)⟩;have S:=Same.upd (o:=.lst [.int h,n,v,x,.non,.int (i:Nat),.non]) O;have e6:upd H5 I (.lst [.int h,n,v,x,.non,.int (i:Nat),.non]) I=some (.lst [.int h,n,v,x,.non,.int (i:Nat),.non]):=z01;have fr :∀z∈zs,z≠.ref I:=λ z hz e=>by obtain ⟨m,hm⟩:=List.mem_iff_getElem?.mp hz;obtain ⟨_,_,p,L,F⟩:=z0e a2 hm;rw [L] at e;cases e;rw [O] at F;cases F
    have b5:I≠l:=λ z=>by rw [z,J] at O;cases O
    generalize upd H5 I (.lst [.int h,n,v,x,.non,.int (i:Nat),.non])=H6 at S e6⊢;have c4:=S _ _ J;have b9:=S _ _ R;have c3:=z02 (λ a b z=>ActAt.same S z) a2;refine ⟨l,zs,_,rfl,rfl,c4,Q1 (m:=100) (by omega) (by decide),?_⟩;refine ⟨rs++[⟨h,n,v,x,.non,i,none⟩],zs++[.ref I],putK kvs (.inl h) (.int (zs.length:Nat)),z01,?_,?_,?_,?_,?_,?_,?_,(show dAll (i + 1) (dstep i rs (.beg h n v x)) _=_ from B),dw.2,Same.keep (s5.trans S) b0,_,_,rfl⟩
    ·refine z1v ?_ ⟨I,rfl,by rw [upd_ne b5];exact e6⟩;refine z7i (λ a b hb z=>ActAt.wrote (λ e=>(nzl l (e ▸ hb)).1 rfl) z) c3
    ·rw [u4];refine ⟨nd,by simp,λ a ha b hb=>?_⟩;rw [List.mem_singleton.mp hb];exact fr a ha
    ·intro p hz;rcases List.mem_append.mp hz with y|y
     ·exact nzl p y
     ·have e:=List.mem_singleton.mp y;cases e;exact ⟨b5,s5.free O⟩
    ·rw [upd_ne a0.symm];exact b9
    ·exact D0 zds (by omega)
    ·rw [M0];show rs.length + 1<=i + 1;omega
    ·intro k;rw [z48,B2];show _=j09 _ (lastI k (rs.map Rc.h++[h]));rw [z4o,K0,lz];by_cases z:h=k
     ·rw [if_pos z,if_pos (by rw [z])];rfl
     ·rw [if_neg z,if_neg (λ y=>z (n8 y).symm)];exact hv k
   | fin h a=>
    obtain ⟨C,rfl,G⟩:=a5;obtain ⟨j,hj⟩:=Option.isSome_iff_exists.mp (dw.1 h a rfl);have c6:valV kvs (.inl h)=some (.int (j:Nat)):=by rw [hv h,hj];rfl
    have c5:j < rs.length:=by have:=z8i hj;rwa [K0] at this
    have a6:rs[j]? = some rs[j]:=N0 c5;obtain ⟨yj,N,c,rfl,ej⟩:=z1h ar4 a6;have a7 :∀{H5:Hp},H5 d=some (.dK kvs)->DGet H5 d (.int h) (some (.int (j:Nat))):=λ e5=>c6 ▸ DGet.k (k:=.inl h) e5;refine ⟨_,rfl,.inr (.inl ⟨C,_,0,.str "end",rfl,rfl,G,z07 (j:=0) rfl,rfl,_,rfl,iteK ?_⟩)⟩;obtain ⟨b2,b7⟩:=nzl c (S0 N);have b4:c≠d:=λ z=>by rw [z,ed4] at ej;cases ej
    refine ⟨_,rfl,.inr (.inl ⟨C,_,2,a,rfl,rfl,G,z07 (j:=2) rfl,?_⟩)⟩;refine ⟨_,rfl,_,rfl,_,rfl,.inr (.inl ⟨C,_,1,.int h,rfl,rfl,G,z07 (j:=1) rfl,d,_,rfl,a7 ed4,.inl ⟨l,zs,j,.ref c,rfl,rfl,SqL.of el4,z07 N,c,_,4,4,rfl,rfl,ej,rfl,?_⟩⟩)⟩;rw [show [V.int rs[j].h,rs[j].n,rs[j].v,rs[j].x,rs[j].a,.int rs[j].b,endV rs[j].e].set 4 a=[.int rs[j].h,rs[j].n,rs[j].v,rs[j].x,a,.int rs[j].b,endV rs[j].e] from rfl];have X:KeptL [c] g (upd g c (.lst [.int rs[j].h,rs[j].n,rs[j].v,rs[j].x,a,.int rs[j].b,endV rs[j].e])):=KeptL.set (by simp);have U:Tups (kx w) g (upd g c (.lst [.int rs[j].h,rs[j].n,rs[j].v,rs[j].x,a,.int rs[j].b,endV rs[j].e])):=Tups.lst ej;have a9:upd g c (.lst [.int rs[j].h,rs[j].n,rs[j].v,rs[j].x,a,.int rs[j].b,endV rs[j].e]) c=some (.lst [.int rs[j].h,rs[j].n,rs[j].v,rs[j].x,a,.int rs[j].b,endV rs[j].e]):=z01;generalize upd g c (.lst [.int rs[j].h,rs[j].n,rs[j].v,rs[j].x,a,.int rs[j].b,endV rs[j].e])=H5 at X U a9⊢;have J:=X _ _ (show l∉[c] by simp [b2.symm]) el4;have R:=X _ _ (show d∉[c] by simp [b4.symm]) ed4;have K:=U _ _ G;refine ⟨_,rfl,?_⟩;refine ⟨_,rfl,_,rfl,_,rfl,.inr (.inl ⟨C,_,1,.int h,rfl,rfl,K,z07 (j:=1) rfl,d,_,rfl,a7 R,.inl ⟨l,zs,j,.ref c,rfl,rfl,SqL.of J,z07 N,c,_,6,6,rfl,rfl,a9,rfl,?_⟩⟩)⟩;rw [show [V.int rs[j].h,rs[j].n,rs[j].v,rs[j].x,a,.int rs[j].b,endV rs[j].e].set 6 (.int (i:Nat))=[.int rs[j].h,rs[j].n,rs[j].v,rs[j].x,a,.int rs[j].b,.int (i:Nat)] from rfl];have hd:dstep i rs (.fin h a)=rs.modify j (λ r=>{ r with a:=a,e:=some i }):=by unfold dstep;dsimp only;rw [hj]
    have B:dAll (i + 1) (dstep i rs (.fin h a)) (u.drop (i + 1))=_:=B;have b1:dWf (i + 1) (dstep i rs (.fin h a)) (u.drop (i + 1)):=dw.2;rw [hd] at B b1;have Y:KeptL [c] H5 (upd H5 c (.lst [.int rs[j].h,rs[j].n,rs[j].v,rs[j].x,a,.int rs[j].b,.int (i:Nat)])):=KeptL.set (by simp);have j7:upd H5 c (.lst [.int rs[j].h,rs[j].n,rs[j].v,rs[j].x,a,.int rs[j].b,.int (i:Nat)]) c=some (.lst [.int rs[j].h,rs[j].n,rs[j].v,rs[j].x,a,.int rs[j].b,.int (i:Nat)]):=z01;generalize upd H5 c (.lst [.int rs[j].h,rs[j].n,rs[j].v,rs[j].x,a,.int rs[j].b,.int (i:Nat)])=H7 at Y j7⊢;have a8:=X.trans Y;refine ⟨rs.modify j (λ r=>{ r with a:=a,e:=some i }),zs,kvs,Y _ _ (by simp [b2.symm]) J,?_,nd,nzl,Y _ _ (by simp [b4.symm]) R,by omega,by rw [P5];omega,?_,B,b1,?_,_,_,rfl⟩
    ·refine z28 (by rw [P5];exact z05 ar4) λ k r y hk a1=>?_;rw [z5] at hk;obtain ⟨r',a4,Z⟩:=Option.map_eq_some_iff.mp hk;obtain ⟨y2,b3,p2,rfl,F⟩:=z1h ar4 a4;rw [a1] at b3;cases b3;by_cases z:j=k
     ·subst z;rw [N] at a1;cases a1;rw [if_pos rfl] at Z;rw [a6] at a4;cases a4;subst Z;exact ⟨c,rfl,j7⟩
     ·rw [if_neg z] at Z;subst Z;refine ⟨p2,rfl,a8 _ _ (λ e=>z ?_) F⟩;have e:=List.mem_singleton.mp e;subst e;have h1:j < zs.length:=(List.getElem?_eq_some_iff.mp N).1;exact (O9 h1 nd).mp (N.trans a1.symm)
    ·intro k;rw [ze6 (f:=λ r=>{ r with a:=a,e:=some i }) (λ r=>rfl)];exact hv k
    ·intro b o e;exact a8 b o (λ z=>by rw [List.mem_singleton.mp z,b7] at e;cases e) (s4 b o e)
  ·rintro σ H3 ⟨rs,zs,kvs,el,ar,_,_,_,_,_,_,B,_,s3,x3,x4,rfl⟩;have:u.drop D.length=[]:=by rw [c2];exact List.drop_length
   rw [this] at B;have B:rs=dAll 0 [] u:=B;rw [<-B] at q;exact ⟨_,rfl,q l zs H3 s3 el ar⟩
theorem z6z:Gn "ValueError":=λ _=>by kernel_rfl
theorem z3m:r6 "ValueError" = some (.type "ValueError"):=by kernel_rfl
theorem try_as {K:d0} {c:Value} {i:Nat} {tb:(L2.St->XK)->TS} {th:TS} {D:Ends} {σ:L2.St} {H:Hp} (h :∀E,tb E D σ H):tTryAs K c i tb th D σ H:=h _
theorem zli {K:d0} {c cls:Value} {i:Nat} {tb:(L2.St->XK)->TS} {th:TS} {D:Ends} {σ:L2.St} {H:Hp} (R:Hp->Prop) (exm:j06 K cls c=some true) (hn :∀H1 ea,R H1->H1 ea=none->th { nx:=λ σ2 H2=>D.nx (σ2.set i none) H2,rt:=D.rt,bk:=λ σ2 H2=>D.bk (σ2.set i none) H2,ct:=λ σ2 H2=>D.ct (σ2.set i none) H2 } (σ.set i (some (.ref ea))) (upd H1 ea (ExcO ea cls)))
  (h :∀E:L2.St->XK,(∀H1,R H1->E σ cls none H1)->tb E D σ H):tTryAs K c i tb th D σ H:=h _ λ H1 r=>⟨exm,λ ea a=>hn H1 ea r a⟩
def z4h (K:d0):Sp:=λ vs H Q _=>∃(t:Addr) (es:List Ev) (v:V),vs=[.ref t,v]/\
 ((∃ts ps h,v=.int h/\TlP K H t ts es ps/\OpH es h/\∀H',Same H H'->Q (.bl true) H')\/(TaP K H t es/\BadH H es v/\∀l H',Same H H'->H' l=some (.lst [.bl true,.bl true,.bl false])->Q (.ref l) H'))
theorem z80 (T:TX (kx w) mg) (c0:Ca P w mg base "may_answer" ["tale","hand"] 11 (z5j (kx w))) (c1:CaE P w mg base "may_answer" ["tale","hand"] 11 (z4v (kx w))):Fo P w mg base CX0 12 539 y0p ["tale","hand"] (z4h (kx w)):=by
 refine (z37 w.params).ok sc__law_caught (λ vs H Q E h=>?_) (λ a2 A a1 s H vs Q E n h=>?_)
 ·obtain ⟨t,I,v,rfl,_⟩:=h;rfl
 ·obtain ⟨t,I,v,rfl,h⟩:=h;rcases h with ⟨Z,ps,h,rfl,tp,op,q⟩|⟨ta,bad,q⟩
  ·refine ⟨_,(z03 (ps_set (i:=2) sc__law_caught.nd rfl (j1 rfl) (pe_lst pa_nil))
   (z03 (ps_set (i:=3) sc__law_caught.nd rfl (j1 rfl) pe_non)
   (z03 (zef (i:=4) rfl rfl rfl (T.of (z7h _)) sc__law_caught.nd rfl rfl (λ _ _=>(z04 (ps_set (i:=3) sc__law_caught.nd rfl (j1 rfl) (pe_cal c0 (n.mono (by decide)) rfl (z00 (pv 0) (z00 (pv 1) pa_nil)))))) (λ _=>(z03 (ps_set (i:=2) sc__law_caught.nd rfl (j1 rfl) (pe_lst (z00 (z0a (z2e (kx w)) rfl (T.no (z0g _)) C2 (z00 (pv 4) (z00 (z0n (v:=.ref 132) rfl (T.of (zbs _)) rfl) pa_nil))) (z00 (z0a (z2e (kx w)) rfl (T.no (z0g _)) C2 (z00 (pv 4) (z00 (z2w (v:=.ty "ValueError") rfl (T.no (z6z _)) z3m rfl) pa_nil))) pa_nil))))
   (z03 (ps_set (i:=5) sc__law_caught.nd rfl (j1 rfl) (z0a (z1r (kx w)) rfl (T.no (z0g _)) C2 (z00 (pv 4) (z00 (pe_tup (z00 (z0n (v:=.ref 168) rfl (T.of (z6q _)) rfl) (z00 (z0n (v:=.ref 72) rfl (T.of (zdq _)) rfl) (z00 (z0n (v:=.ref 120) rfl (T.of (zc8 _)) rfl) (z00 (z0n (v:=.ref 156) rfl (T.of (zdm _)) rfl) (z00 (z0n (v:=.ref 180) rfl (T.of (zic _)) rfl) pa_nil)))))) pa_nil))))
   (z04 (z31 (za7 (K:=KX w.params) rfl (pv 2) (z00 (by exact (pe_or (pv 5) (pe_one (z0a (z1r (kx w)) rfl (T.no (z0g _)) C2 (z00 (pv 4) (z00 (pe_tup (z00 (z0n (v:=.ref 96) rfl (T.of (z4e _)) rfl) (z00 (z0n (v:=.ref 84) rfl (T.of (zfj _)) rfl) (z00 (z0n (v:=.ref 108) rfl (T.of (zc2 _)) rfl) (z00 (z0n (v:=.ref 144) rfl (T.of (z96 _)) rfl) pa_nil))))) pa_nil)))))) pa_nil))))))))
   (z03 (ps_if (z0b (zii n) (pv 2) (pe_lst pa_nil) (nomark _))
   (z04 (ps_ret (z0a z0r rfl (T.no (z0g _)) C2 (z00 (pv 3) (z00 (z2w (v:=.ty "list") rfl (T.no (n_list _)) boot_list rfl) pa_nil)))))
   z0d)
   (z04 (ps_ret (pv 2))))))),?_⟩
   refine z0l ?_;refine ⟨w_0,λ r F=>?_⟩;refine g_name ?_;obtain ⟨B,C,f,O⟩:=new1 (.lst []) F;rw [<-C];refine z0l (g_name ?_);refine z5q (λ m b=>∃l p,Same B b/\b l=some (.lst p)/\m=[some (.ref t),some (.int h),some (.ref r),some (.ref l),none,none]) ?_ (λ G=>?_);rotate_left
   ·refine try_as λ E=>?_;exact ⟨_,rfl,_,rfl,t,Z,I,ps,h,rfl,tp.same f,op,λ l p b c D=>G _ _ ⟨l,p,c,D,rfl⟩⟩
   rintro m b ⟨l,p,c,D,rfl⟩;refine sq_if ?_;refine ⟨_,rfl,w_0,λ e j=>?_⟩;obtain ⟨L,u,g,x⟩:=new1 (.lst []) j;rw [<-u];refine ⟨r,e,[],rfl,rfl,SqL.of (g _ _ (c _ _ O)),SqL.of x,_,rfl,iteP (decide_eq_true rfl) ?_⟩;exact ⟨_,rfl,_,_,"list",rfl,.inl ⟨⟨_,g _ _ D⟩,rfl⟩,by decide,q _ (f.trans (c.trans g))⟩
  ·have c0:=c1;refine ⟨_,(z03 (ps_set (i:=2) sc__law_caught.nd rfl (j1 rfl) (pe_lst pa_nil))
   (z03 (ps_set (i:=3) sc__law_caught.nd rfl (j1 rfl) pe_non)
   (z03 (zef (i:=4) rfl rfl rfl (T.of (z7h _)) sc__law_caught.nd rfl rfl (λ _ _=>(z04 (ps_set (i:=3) sc__law_caught.nd rfl (j1 rfl) (zlh passX c0 (n.mono (by decide)) rfl (z00 (pv 0) (z00 (pv 1) pa_nil)))))) (λ _=>(z03 (ps_set (i:=2) sc__law_caught.nd rfl (j1 rfl) (pe_lst (z00 (z0a (z2e (kx w)) rfl (T.no (z0g _)) C2 (z00 (pv 4) (z00 (z0n (v:=.ref 132) rfl (T.of (zbs _)) rfl) pa_nil))) (z00 (z0a (z2e (kx w)) rfl (T.no (z0g _)) C2 (z00 (pv 4) (z00 (z2w (v:=.ty "ValueError") rfl (T.no (z6z _)) z3m rfl) pa_nil))) pa_nil))))
   (z03 (ps_set (i:=5) sc__law_caught.nd rfl (j1 rfl) (z0a (z1r (kx w)) rfl (T.no (z0g _)) C2 (z00 (pv 4) (z00 (pe_tup (z00 (z0n (v:=.ref 168) rfl (T.of (z6q _)) rfl) (z00 (z0n (v:=.ref 72) rfl (T.of (zdq _)) rfl) (z00 (z0n (v:=.ref 120) rfl (T.of (zc8 _)) rfl) (z00 (z0n (v:=.ref 156) rfl (T.of (zdm _)) rfl) (z00 (z0n (v:=.ref 180) rfl (T.of (zic _)) rfl) pa_nil)))))) pa_nil))))
   (z04 (z31 (za7 (K:=KX w.params) rfl (pv 2) (z00 (by exact (pe_or (pv 5) (pe_one (z0a (z1r (kx w)) rfl (T.no (z0g _)) C2 (z00 (pv 4) (z00 (pe_tup (z00 (z0n (v:=.ref 96) rfl (T.of (z4e _)) rfl) (z00 (z0n (v:=.ref 84) rfl (T.of (zfj _)) rfl) (z00 (z0n (v:=.ref 108) rfl (T.of (zc2 _)) rfl) (z00 (z0n (v:=.ref 144) rfl (T.of (z96 _)) rfl) pa_nil))))) pa_nil)))))) pa_nil))))))))
   (z03 (ps_if (z0b (zii n) (pv 2) (pe_lst pa_nil) (nomark _))
   (z04 (ps_ret (z0a z0r rfl (T.no (z0g _)) C2 (z00 (pv 3) (z00 (z2w (v:=.ty "list") rfl (T.no (n_list _)) boot_list rfl) pa_nil)))))
   z0d)
   (z04 (ps_ret (pv 2))))))),?_⟩
   have a0:j06 (kx w) (.ref 132) (.ref 59)=some true:=by kernel_rfl
   refine z0l ?_;refine ⟨w_0,λ r F=>?_⟩;refine g_name ?_;obtain ⟨B,C,f,O⟩:=new1 (.lst []) F;rw [<-C];refine z0l (g_name ?_);refine z5q (λ m b=>∃lk x4,Same H b/\b lk=some (.lst [.bl true,.bl true,.bl false])/\m=[some (.ref t),some v,some (.ref lk),some .non,none,x4]) ?_ (λ G=>?_);rotate_left
   ·refine zli (cls:=.ref 132) (λ b=>Same B b) a0 (λ N a sa W=>?_) λ E X=>?_
    ·have c:=sa.trans (Same.upd (o:=ExcO a (.ref 132)) W);have d:upd N a (ExcO a (.ref 132)) a=some (ExcO a (.ref 132)):=z01;generalize upd N a (ExcO a (.ref 132))=b at c d⊢;refine ⟨_,rfl,a,132,.ref 132,.ref 132,true,rfl,d,z5v _,rfl,λ _ h=>h,by kernel_rfl,?_⟩;refine ⟨_,rfl,a,132,.ty "ValueError",.type "ValueError",true,rfl,d,z5v _,rfl,λ _ h=>h,by kernel_rfl,w_2,λ e j=>?_⟩;obtain ⟨L,v_,y,V⟩:=newA (.lst [.bl true,.bl true]) j;rw [<-v_];refine ⟨_,rfl,w_5,λ U S=>?_⟩;refine ⟨a,132,U,[168,72,120,156,180],false,rfl,(Same.upd S) _ _ (y _ _ d),z5v _,z01,by kernel_rfl,?_⟩;have k:=Same.upd (o:=.tup [.ref 168,.ref 72,.ref 120,.ref 156,.ref 180]) S;generalize upd L U (.tup [.ref 168,.ref 72,.ref 120,.ref 156,.ref 180])=H3 at k⊢;refine ⟨_,rfl,.inl ⟨rfl,_,SqL.of (k _ _ V)⟩,?_⟩;refine ⟨_,rfl,false,rfl,iteF ⟨_,rfl,w_4,λ M R=>?_⟩⟩;refine ⟨a,132,M,[96,84,108,144],false,rfl,(Same.upd R) _ _ (k _ _ (y _ _ d)),z5v _,z01,by kernel_rfl,?_⟩;have J:=Same.upd (o:=.tup [.ref 96,.ref 84,.ref 108,.ref 144]) R;generalize upd H3 M (.tup [.ref 96,.ref 84,.ref 108,.ref 144])=H4 at J⊢;refine ⟨e,_,_,rfl,rfl,J _ _ (k _ _ V),(show (2:Nat) < sizeLine by decide),G _ _ ⟨e,_,?_,z01,rfl⟩⟩;have Y:H e=none:=(f.trans c).free j;exact Same.keep ((((f.trans c).trans y).trans k).trans J) Y
    ·exact ⟨_,rfl,_,rfl,t,I,v,rfl,ta.same f,bad.same f,X⟩
   rintro m b ⟨lk,x4,c,d,rfl⟩;refine sq_if ?_;refine ⟨_,rfl,w_0,λ e j=>?_⟩;obtain ⟨L,u,g,x⟩:=new1 (.lst []) j;rw [<-u];refine ⟨lk,e,_,rfl,rfl,SqL.of (g _ _ d),SqL.of x,_,rfl,iteN (by rw [decide_eq_false (λ z=>by cases z)];decide) ?_⟩;exact ⟨_,rfl,q _ _ (c.trans g) (g _ _ d)⟩
theorem zi2 {X:Cx} {pos:Pos} {tg iter:Expr} {body:List Stmt} {tl:TE} {g:TG} {tb:TS} (hp:PassesOwn (E1 X.prog X.w) X.A X.env X.xe) (hc:X.calm=true) (hi:QE X iter tl) (hg:PG X tg g) (hb:QSs X body tb)
  (hs :∀x,C4 iter X.env x=E3 x:=by intro _;rfl):QS X (.For tg iter body [] pos) (tFor (iList X.K tl) g tb):=⟨ps_for hp hc (z1m hi.run) hg hb.run hs⟩
def z2t (K:d0):Sp:=λ vs H Q _=>∃(a:Addr) (ns:List Int) (k:Nat),vs=[.ref a,.int (k:Nat)]/\SqL K H a (ns.map V.int)/\∀i,Q (.int i) H
theorem z6l (T:TX (kx w) mg):Fo P w mg base CX0 1 441 y07 ["script","k"] (z2t (kx w)):=by
 refine (z0y w.params).ok z3p (λ d H Q E h=>?_) (λ i A g s H d Q E f h=>?_)
 ·obtain ⟨a,b,k,rfl,_⟩:=h;rfl
 ·obtain ⟨a,b,k,rfl,c,q⟩:=h;refine ⟨_,(z03 (ps_if (z0b op_lt (pv 1) (z0a z1c rfl (T.no (n_len _)) D4 (z00 (pv 0) pa_nil)) (nomark _))
   (z04 (ps_ret (pe_ix ix_seq (pv 0) (pv 1) (λ _ _=>rfl))))
   z0d)
   (z04 (ps_ret pe_int))),?_⟩
  refine ⟨_,rfl,_,rfl,.inl ⟨a,_,rfl,.inl c,_,_,rfl,rfl,_,rfl,?_⟩⟩;refine ite2 (λ h=>?_) λ _=>q 0;have h:=of_decide_eq_true h;rw [K0] at h;have e:k < b.length:=by omega
  exact ⟨_,rfl,_,rfl,.inl ⟨a,_,k,.int b[k],rfl,rfl,c,z07 (by rw [X0,N0 e];rfl),q _⟩⟩
theorem ne_bls {K:d0} {H:Hp} {a b:Addr} {bs:List Bool} {R:VK} (ea:H a=some (.lst (bs.map V.bl))) (eb:H b=some (.lst (bs.map V.bl))) (q:R (.bl false) H):rNeC K (.ref a) (.ref b) H R:=by
 have d :∀bs:List Bool,IsPds K H (bs.map K3) (bs.map V.bl):=λ bs=>by
  induction bs with
  | nil=>exact (rfl:([]:List V)=[])
  | cons x r ih=>exact ⟨_,_,rfl,rfl,ih⟩
 have c :∀bs:List Bool,T5 (bs.map K3)=true:=λ bs=>by
  induction bs with
  | nil=>rfl
  | cons x r ih=>exact ih
 have g :∀bs:List Bool,R1 (bs.map K3)=0:=λ bs=>by
  induction bs with
  | nil=>rfl
  | cons x r ih=>show max 0 (R1 (r.map K3))=0;rw [ih];rfl
 have f :∀bs:List Bool,W8 (bs.map K3) (bs.map K3)=true:=λ bs=>by
  induction bs with
  | nil=>rfl
  | cons x r ih=>show ((K3 x).eqv (K3 x) && W8 (r.map K3) (r.map K3))=true;rw [ih];cases x<;>rfl
 refine ⟨.list (bs.map K3),.list (bs.map K3),⟨a,_,rfl,SqL.of ea,d bs⟩,⟨b,_,rfl,SqL.of eb,d bs⟩,c bs,c bs,by show R1 _ + 1<=60;rw [g];decide,?_⟩;have e:(PyData.list (bs.map K3)).eqv (.list (bs.map K3))=true:=f bs;rw [e];exact q
theorem zj9 (ns:List Int) (a b:Option Int) :∃ms:List Int,cutV (ns.map V.int) a b=ms.map V.int:=by refine ⟨(ns.drop (HT.sIx (ns.map V.int).length 0 a)).take (HT.sIx (ns.map V.int).length (ns.map V.int).length b - HT.sIx (ns.map V.int).length 0 a),?_⟩;unfold cutV;rw [List.map_take,List.map_drop]
theorem EWf.take :∀{es:List Ev} {os:List Int} (m:Nat),EWf os es->EWf os (es.take m)
 | [],_,m,_=>by rw [j22];exact trivial
 | _ :: _,_,0,_=>trivial
 | _ :: es,_,m + 1,h=>⟨h.1,EWf.take m h.2⟩
theorem zjv {es:List Ev} (m:Nat):bgN (es.take m)<=bgN es:=by unfold bgN;exact ((N9 m es).filter _).length_le
theorem eq_bls {K:d0} {H:Hp} {a b:Addr} {R:VK} (ea:H a=some (.lst [.bl true,.bl true,.bl false])) (eb:H b=some (.lst [.bl true,.bl true,.bl false])) (q:R (.bl true) H):rEqC K (.ref a) (.ref b) H R:=
 ⟨.list [.bool true,.bool true,.bool false],.list [.bool true,.bool true,.bool false],⟨a,_,rfl,SqL.of ea,⟨_,_,rfl,rfl,_,_,rfl,rfl,_,_,rfl,rfl,rfl⟩⟩,⟨b,_,rfl,SqL.of eb,⟨_,_,rfl,rfl,_,_,rfl,rfl,_,_,rfl,rfl,rfl⟩⟩,rfl,rfl,by decide,q⟩
theorem zcu {α β:Type} {R:α->β->Prop} :∀{xs:List α} {ys:List β},All2 R xs ys->∀m,All2 R (xs.take m) (ys.take m)
 | _,_,.nil,m=>by rw [j22,j22];exact .nil
 | _,_,.cons _ _,0=>.nil
 | _,_,.cons a r,m + 1=>.cons a (zcu r m)
theorem cut_ev {K:d0} {H:Hp} {te:Addr} {ys:List V} {m:Nat} {Q:VK} (e:H te=some (.tup ys)) (hm:m<=ys.length) (q :∀p H',Same H H'->H' p=some (.tup (ys.take m))->Q (.ref p) H'):(rSlL K (.ref te) none (some (m:Int)) H Q\/rSlT K (.ref te) none (some (m:Int)) H Q\/rSlS (.ref te) none (some (m:Int)) H Q)\/rSlW K (.ref te) none (some (m:Int)) H Q:=by
 obtain ⟨d,b,a⟩:=cut_to hm;by_cases z:m=ys.length
 ·refine .inr ⟨te,ys,rfl,SqT.of e,⟨b,a.trans z⟩,q te H (Same.refl _) ?_⟩;rw [z,Z9];exact e
 ·refine .inl (.inr (.inl ⟨te,ys,rfl,SqT.of e,λ h=>z (a.symm.trans h.2),λ p c=>q p _ (Same.upd c) ?_⟩));rw [d];exact z01
theorem za9 :∀{es:List Ev} {i:Nat} {rs:List Rc} {r:Rc},r∈dAll i rs es->(∃r'∈rs,r'.h=r.h)\/∃e∈es,evH e=r.h
 | [],_,_,r,h=>.inl ⟨r,h,rfl⟩
 | e :: es,i,rs,r,h=>by
  rcases za9 (es:=es) (i:=i + 1) (rs:=dstep i rs e) h with ⟨r',c,b⟩|⟨e',he,b⟩
  ·cases e with
   | beg hd n v x=>
    rcases List.mem_append.mp c with z|z
    ·exact .inl ⟨r',z,b⟩
    ·rw [List.mem_singleton.mp z] at b;exact .inr ⟨_,C1,b⟩
   | fin hd a=>
    unfold dstep at c;dsimp only at c;cases hj:lastI hd (rs.map Rc.h) with
    | none=>rw [hj] at c;exact .inl ⟨r',c,b⟩
    | some j=>
     rw [hj] at c;obtain ⟨m,d⟩:=List.mem_iff_getElem?.mp c;rw [z5] at d;obtain ⟨q,f,g⟩:=Option.map_eq_some_iff.mp d;refine .inl ⟨q,S0 f,?_⟩;rw [<-b,<-g];by_cases z:j=m
     ·rw [if_pos z]
     ·rw [if_neg z]
  ·exact .inr ⟨e',Y0 _ he,b⟩
theorem zjf {es:List Ev} {h:Int} (hb :∀e∈es,0<=evH e/\evH e<=5) (hh:h < 0\/5 < h):¬ OpH es h:=λ ⟨j,r,hj,h1,_⟩=>by
 rcases za9 (S0 hj) with ⟨b,a,_⟩|⟨e,he,e1⟩
 ·exact absurd a C0
 ·have:=hb e he;omega
def sp_law (K:d0):Sp:=λ vs H Q _=>∃(a:Addr) (ns:List Int),vs=[.ref a]/\SqL K H a (ns.map V.int)/\ns.length<=63/\∀H',Q (.bl true) H'
theorem ok_law (T:TX (kx w) mg) (c4:Ca P w mg base "_law_tale" ["script","most"] 4 (z6n (kx w))) (c5:Ca P w mg base "_law_cell_at" ["script","k"] 1 (z2t (kx w))) (c6:Ca P w mg base "_law_deeds" ["tale"] 1 (z5p (kx w))) (c7:Ca P w mg base "_law_caught" ["tale","hand"] 12 (z4h (kx w))):Fo P w mg base CX0 13 544 fd_law ["script"] (sp_law (kx w)):=by
 refine (F_law w.params).ok sc_law (λ vs H Q E h=>?_) (λ i4 A i3 s H vs Q E p h=>?_)
 ·obtain ⟨a,ns,rfl,_⟩:=h;rfl
 ·obtain ⟨C,ns,rfl,sq,nl,q⟩:=h;refine q_of (z0i (QS.mk (ps_set (i:=1) sc_law.nd rfl (j1 rfl) (pe_cal c4 (p.mono (by decide)) rfl (z00 (pv 0) (z00 pe_int pa_nil)))))
   (z0i (zi2 T1 rfl (qe_lst (z09 (QE.mk (z0a z1c rfl (T.no (n_len _)) D4 (z00 (pe_ix ix_seq (pv 1) pe_int (λ _ _=>rfl)) pa_nil))) (z09 (QE.mk (pe_op op_mod (pe_cal c5 (p.mono (by decide)) rfl (z00 (pv 0) (z00 pe_int pa_nil))) (pe_op opAdd (z0a z1c rfl (T.no (n_len _)) D4 (z00 (pe_ix ix_seq (pv 1) pe_int (λ _ _=>rfl)) pa_nil)) pe_int))) qa_nil))) (z0j (i:=2) sc_law.nd rfl (j1 rfl))
   (z0i (QS.mk (ps_set (i:=3) sc_law.nd rfl (j1 rfl) (pe_tup (z00 (pe_ix ix_seq (pv 1) pe_int (λ _ _=>rfl)) (z00 (z1g slSeqW (pe_ix ix_seq (pv 1) pe_int (λ _ _=>rfl)) z2r (z1u (pv 2))) pa_nil)))))
   (z0i (QS.mk (z8t (i:=4) sc_law.nd rfl (j1 rfl) (xs:=["deed"]) (g:=gName 0) (fr:=[]) rfl (z1m (pe_cal c6 (p.mono (by decide)) rfl (z00 (pv 3) pa_nil))) (λ _ z=>absurd z C0) (z5y rfl) (λ _ z=>absurd z C0) (by decide +kernel) rfl (by decide +kernel) (λ _ _ _ _ _=>(pg_cn (N:=["deed"]) 0)) (λ _ _ _ _ _=>(pf_one (z0b op_isN (pe_ix (z9h (K:=KX w.params) rfl) (pv 0) pe_int (λ _ _=>rfl)) pe_non (nomark _)))) (λ _ _ _ _ _=>(pe_ix (z9h (K:=KX w.params) rfl) (pv 0) pe_int (λ _ _=>rfl)))))
   (z0i (qs_for T1 rfl (zho rfl (T.no (zc6 _)) (z00 (pe_un un_neg pe_int) (z00 pe_int pa_nil))) (z0j (i:=5) sc_law.nd rfl (j1 rfl))
   (z0i (qs_set (i:=6) sc_law.nd rfl (j1 rfl) (qe_lst (z09 (QE.mk pe_bl) (z09 (QE.mk pe_bl) (z09 (QE.mk pe_bl) qa_nil)))))
   (z0i (QS.mk (ps_if (z0b z1p (pv 5) (pv 4) (by with_unfolding_all rfl))
   (z04 (ps_set (i:=6) sc_law.nd rfl (j1 rfl) pe_bl))
   z0d))
   (z25 (QS.mk (ps_if (z0b (op_neC p) (pe_cal c7 (p.mono (by decide)) rfl (z00 (pv 3) (z00 (pv 5) pa_nil))) (pv 6) (nomark _))
   (z04 (ps_ret pe_bl))
   z0d))))))
   (z0i (zi2 T1 rfl (qe_lst (z09 (QE.mk pe_non) (z09 (QE.mk pe_str) (z09 (QE.mk pe_str) (z09 (QE.mk pe_bl) (z09 (QE.mk pe_bl) (z09 (qe_tup (z09 (QE.mk pe_int) qa_nil)) (z09 (qe_lst (z09 (QE.mk pe_int) qa_nil)) (z09 (QE.mk z52) (z09 (QE.mk (pe_tup pa_nil)) (z09 (QE.mk pe_str) qa_nil))))))))))) (z0j (i:=5) sc_law.nd rfl (j1 rfl))
   (z25 (QS.mk (ps_if (z0b (op_neC p) (pe_cal c7 (p.mono (by decide)) rfl (z00 (pv 3) (z00 (pv 5) pa_nil))) (pe_lst (z00 pe_bl (z00 pe_bl (z00 pe_bl pa_nil)))) (nomark _))
   (z04 (ps_ret pe_bl))
   z0d))))
   (z25 (QS.mk (ps_for T1 rfl (z1m (z1g slSeqW (pv 0) z2r (z1u pe_int))) (z0j (i:=7) sc_law.nd rfl (j1 rfl))
   (z03 (ps_if (z0b (op_neC p) (pe_cal c7 (p.mono (by decide)) rfl (z00 (pv 3) (z00 (pe_op opAdd pe_int (pe_op op_mod (pv 7) (pe_op op_pow pe_int pe_int))) pa_nil))) (pe_lst (z00 pe_bl (z00 pe_bl (z00 pe_bl pa_nil)))) (nomark _))
   (z04 (ps_ret pe_bl))
   z0d)
   (z04 (ps_if (z0b (op_neC p) (pe_cal c7 (p.mono (by decide)) rfl (z00 (pv 3) (z00 (pe_op op_sub (pe_un un_neg pe_int) (pe_op op_mod (pv 7) (pe_op op_pow pe_int pe_int))) pa_nil))) (pe_lst (z00 pe_bl (z00 pe_bl (z00 pe_bl pa_nil)))) (nomark _))
   (z04 (ps_ret pe_bl))
   z0d)))))))))))
   (z25 (QS.mk (ps_ret (z3a (op_eqC p) (pe_cal c7 (p.mono (by decide)) rfl (z00 (pe_tup (z00 (pe_tup pa_nil) (z00 (pe_tup pa_nil) pa_nil))) (z00 pe_int pa_nil))) (pe_lst (z00 pe_bl (z00 pe_bl (z00 pe_bl pa_nil)))) (nomark _))))))) ?_
  refine ⟨_,rfl,C,ns,rfl,sq,nl,λ t pt te c es ts H1 s1 et b0 th ok i2 U x wf bg hb=>?_⟩;refine g_name (t_nx ?_);have eg :∀e∈es,EvGd (kx w) H1 ts e:=λ e D=>by obtain ⟨i,hi⟩:=List.mem_iff_getElem?.mp D;obtain ⟨y,_,z⟩:=z1h U hi;exact z.n
  have ea:All2 (EvAt (kx w) H1) es c:=z02 (λ _ _ z=>z.a) U;have yl:c.length=es.length:=z05 U;have d1:=s1.seq sq;clear U;refine z5q (λ Y b=>Same H1 b/\∃x2 x3 x4 x5 x6 x7,Y=[some (.ref C),some (.ref t),x2,x3,x4,x5,x6,x7]) ?_ (λ tl=>?_);rotate_left
  ·refine ⟨_,rfl,.inr (.inl ⟨t,_,1,.ref te,rfl,rfl,SqT.of et,z07 (j:=1) rfl,.inl ⟨te,c,rfl,.inr (SqT.of b0),?_⟩⟩)⟩;refine ⟨_,rfl,C,ns,1,rfl,d1,λ O=>?_⟩;refine ⟨_,rfl,.inr (.inl ⟨t,_,1,.ref te,rfl,rfl,SqT.of et,z07 (j:=1) rfl,.inl ⟨te,c,rfl,.inr (SqT.of b0),.inl ⟨_,_,rfl,rfl,_,_,rfl,rfl,by omega,w_2,λ l2 f3=>?_⟩⟩⟩)⟩;obtain ⟨H2,J,q2,e2⟩:=new1 (.lst [.int (c.length:Nat),.int (O % ((c.length:Nat) + 1))]) f3;rw [<-J];have h5 :∀y∈[V.int (c.length:Nat),.int (O % ((c.length:Nat) + 1))],∃m:Nat,y=.int (m:Nat)/\m<=c.length:=λ y f=>by
    simp only [P1,C0,or_false] at f;rcases f with rfl|rfl
    ·exact ⟨_,rfl,B0 _⟩
    ·have h0:0<=O % ((c.length:Nat) + 1):=R4 _ (by omega);have B:O % ((c.length:Nat) + 1) < (c.length:Nat) + 1:=P4 _ (by omega);exact ⟨(O % ((c.length:Nat) + 1)).toNat,by rw [Int.toNat_of_nonneg h0],by omega⟩
   refine ⟨l2,rfl,⟨_,SqL.of e2⟩,?_⟩;refine z2j (K:=KX w.params) (a:=l2) (xs:=[.int (c.length:Nat),.int (O % ((c.length:Nat) + 1))]) (λ _ σ b=>Same H2 b/\∃x2 x3 x4 x5 x6 x7,σ=[some (.ref C),some (.ref t),x2,x3,x4,x5,x6,x7]) ⟨Same.refl _,_,_,_,_,_,_,rfl⟩ (λ _ σ b _ h=>SqL.of (h.1 _ _ e2)) ?_ (λ σ b h=>tl _ _ ⟨q2.trans h.1,h.2⟩);rintro i y σ H3 f ⟨s3,x2,x3,x4,x5,x6,x7,rfl⟩;obtain ⟨m,rfl,hm⟩:=h5 y (S0 f);have a4:=q2.trans s3;refine g_name ?_;refine z0l ?_;refine ⟨_,rfl,.inr (.inl ⟨t,_,0,.ref pt,rfl,rfl,SqT.of (a4 _ _ et),z07 (j:=0) rfl,?_⟩)⟩;refine ⟨_,rfl,.inr (.inl ⟨t,_,1,.ref te,rfl,rfl,SqT.of (a4 _ _ et),z07 (j:=1) rfl,_,rfl,_,rfl,cut_ev (a4 _ _ b0) hm λ d7 H4 s4 e4=>?_⟩)⟩;refine ⟨w_2,λ d e7=>?_⟩;obtain ⟨S,v5,q5,e5⟩:=new1 (.tup [.ref pt,.ref d7]) e7;rw [<-v5];have a1:=a4.trans (s4.trans q5);refine g_name ?_;have ta:TaleAt (kx w) S d ts (es.take m):=⟨pt,d7,c.take m,e5,th.tt (.of (K:=KX w.params) a1),q5 _ _ e4,z02 (λ _ _ z=>EvAt.tups (.of a1) z) (zcu ea m)⟩
   obtain ⟨ps,gd⟩:=rc_gd (K:=KX w.params) (H:=S) (ts:=ts) (es:=es.take m) (i:=0) (rs:=[]) (ps:=[]) (λ e D=>(eg e (O8 D)).tt (.of a1)) .nil;have tp:TlP (kx w) S d ts (es.take m) ps:=⟨ta,ok.thw,by rw [X3];omega,EWf.take m wf,gd,D0 (zjv m) bg⟩
   have a5:TaP (kx w) S d (es.take m):=⟨ts,tp.1,tp.2.2.1,tp.2.2.2.1⟩
   have b9 :∀e∈es.take m,0<=evH e/\evH e<=5:=λ e D=>hb e (O8 D);have g3:=a1.seq d1;have h7:Same H3 S:=s4.trans q5;clear gd ta;generalize es.take m=eT at tp a5 b9;refine z0l ?_;refine zft (K:=KX w.params) (λ a xs H6=>Same S H6/\H6 a=some (.lst xs)/\All2 (ActAt H6) (dAll 0 [] eT) xs) (λ R h=>⟨_,rfl,d,eT,rfl,a5,λ l zs b s x U=>h l zs b ⟨s,x,U⟩⟩) (λ a xs H6 h=>⟨SqL.of h.2.1,D0 (m:=4) (by rw [z05 h.2.2];exact tp.n4) (by decide)⟩) (λ k=>((dAll 0 [] eT)[k]?.map λ r=>r.e.isNone).getD false) (λ k y _=>∃r,(dAll 0 [] eT)[k]? = some r/\r.e=none/\y=.int r.h) (λ _ _ _ _ _ z=>z) ?_ ?_
   ·rintro a xs H6 ⟨s6,e6,al6⟩ k I v H7 s7 Z KT KF k1 k2;obtain ⟨r,e9,pr,rfl,er⟩:=z0e al6 Z;rw [e9] at k1 k2;have b5:=s7 _ _ er;refine ⟨[some (.ref pr)],rfl,rfl,?_⟩;refine ⟨_,rfl,.inl ⟨pr,_,6,endV r.e,rfl,rfl,SqL.of b5,z07 (j:=6) rfl,rfl,_,rfl,?_⟩⟩;cases D:r.e with
    | none=>exact iteP (decide_eq_true rfl) ⟨_,rfl,.inl ⟨pr,_,0,.int r.h,rfl,rfl,SqL.of b5,z07 (j:=0) rfl,k1 (by show r.e.isNone=true;rw [D];rfl) _ _ (Same.refl _) ⟨r,rfl,D,rfl⟩⟩⟩
    | some e=>exact iteN (by show ¬ decide (V.int (e:Nat)=V.non)=true;rw [decide_eq_false (λ z=>by cases z)];decide) (k2 (by show r.e.isNone=false;rw [D];rfl) _ (Same.refl _))
   rintro a xs H6 ⟨s6,e6,al6⟩ l7 H7 us s7 hl7 al7;rw [z05 al6] at al7;obtain ⟨H8,v8,q8,e8⟩:=new1 (.lst us) hl7;rw [<-v8];have a0:=(s6.trans s7).trans q8;refine g_name ?_;have f9 :∀h:Int,V.int h∈us↔OpH eT h:=λ h=>by
    constructor
    ·intro hu;obtain ⟨k,I⟩:=List.mem_iff_getElem?.mp hu;obtain ⟨j,_,r,B,L,u⟩:=z0e al7 I;exact ⟨j,r,B,(V.int.inj u).symm,L⟩
    ·rintro ⟨j,r,B,L,u⟩;have hj:j∈(K1 (dAll 0 [] eT).length).filter λ k=>((dAll 0 [] eT)[k]?.map λ r=>r.e.isNone).getD false:=List.mem_filter.mpr ⟨List.mem_range.mpr (List.getElem?_eq_some_iff.mp B).1,by rw [B];show r.e.isNone=true;rw [u];rfl⟩;obtain ⟨k,I⟩:=List.mem_iff_getElem?.mp hj;obtain ⟨y,f,r',h4,_,X⟩:=z1h al7 I;rw [B] at h4;cases h4;rw [L] at X;rw [<-X];exact S0 f
   have d2:us.all flatV=true:=List.all_eq_true.mpr λ y f=>by obtain ⟨k,I⟩:=List.mem_iff_getElem?.mp f;obtain ⟨j,_,r,_,_,u⟩:=z0e al7 I;rw [u];rfl
   have g8 :∀y∈us,∃h,y=V.int h:=λ y f=>by obtain ⟨k,I⟩:=List.mem_iff_getElem?.mp f;obtain ⟨j,_,r,_,_,u⟩:=z0e al7 I;exact ⟨_,u⟩
   have h8:=tp.same a0;have a3:=a5.same a0;have i0:=a1.trans a0;have g5:=h7.trans a0;have g4:Same H2 H8:=s3.trans g5;clear al7 al6 e6 v8 v5 J s6 s7 tp a5 hl7 e7 q8;have b7 :∀{h:Int},h < 0\/5 < h->BadH H8 eT (.int h):=λ {h} hh=>⟨"int",rfl,λ _=>⟨h,rfl,zjf b9 hh⟩⟩
   refine z5q (λ Y b=>Same H8 b/\∃x5 x6,Y=[some (.ref C),some (.ref t),some (.int (m:Nat)),some (.ref d),some (.ref l7),x5,x6,x7]) ?_ (λ g0=>?_);rotate_left
   ·refine ⟨1,rfl,-1,8,rfl,by decide,?_⟩;refine z5x (lo:=-1) (n:=9) (λ _ σ b=>Same H8 b/\∃x5 x6,σ=[some (.ref C),some (.ref t),some (.int (m:Nat)),some (.ref d),some (.ref l7),x5,x6,x7]) ⟨Same.refl _,_,_,rfl⟩ ?_ (λ σ b h=>g0 _ _ h);rintro j σ H9 hj ⟨s9,x5,x6,rfl⟩;generalize (-1:Int) + (j:Int)=hd;refine g_name ?_;refine z0l ?_;refine ⟨w_3,λ a6 X=>?_⟩;obtain ⟨W,g7,g2,f1⟩:=new1 (.lst [.bl true,.bl true,.bl false]) X;rw [<-g7];refine g_name ?_;have F:=s9.trans g2;have d6:inV (.int hd) us=true↔OpH eT hd:=by
     rw [<-f9 hd];unfold inV;rw [m6];constructor
     ·rintro ⟨y,f,e⟩;obtain ⟨h',rfl⟩:=g8 y f;have e:h'=hd:=of_decide_eq_true e;rw [<-e];exact f
     ·intro h;refine ⟨_,h,?_⟩;exact decide_eq_true rfl
    by_cases op:OpH eT hd
    ·refine sq_if ?_;refine ⟨_,rfl,_,rfl,l7,us,rfl,.inl (SqL.of (F _ _ e8)),rfl,d2,_,rfl,iteP (d6.mpr op) ?_⟩;refine g_name (t_nx ?_);refine ⟨_,rfl,_,rfl,d,eT,.int hd,rfl,.inl ⟨ts,ps,hd,rfl,h8.same F,op,λ a2 G=>?_⟩⟩;refine ⟨_,rfl,.bool true,.bool true,rfl,rfl,rfl,rfl,by decide,false,rfl,iteF ⟨F.trans G,_,_,rfl⟩⟩
    ·refine sq_if ?_;refine ⟨_,rfl,_,rfl,l7,us,rfl,.inl (SqL.of (F _ _ e8)),rfl,d2,_,rfl,iteN (λ h=>op (d6.mp h)) (tn_x (t_nx ?_))⟩;refine ⟨_,rfl,_,rfl,d,eT,.int hd,rfl,.inr ⟨a3.same F,⟨"int",rfl,λ _=>⟨hd,rfl,op⟩⟩,λ l a2 G x=>?_⟩⟩;exact ⟨_,rfl,ne_bls (bs:=[true,true,false]) x (G _ _ f1) ⟨false,rfl,iteF ⟨F.trans G,_,_,rfl⟩⟩⟩
   rintro σ2 H9 ⟨s9,x5,x6,rfl⟩;refine z5q (λ Y b=>Same H8 b/\∃x5,Y=[some (.ref C),some (.ref t),some (.int (m:Nat)),some (.ref d),some (.ref l7),x5,x6,x7]) ?_ (λ g6=>?_);rotate_left
   ·refine ⟨w_1,λ b1 B=>?_⟩;obtain ⟨Ha,v1,q1,e1⟩:=new1 (.tup [.int 0]) B;rw [<-v1];refine ⟨w_1,λ b2 L=>?_⟩;obtain ⟨Hb,J,d4,d5⟩:=new1 (.lst [.int 0]) L;rw [<-J];intro b3 u;obtain ⟨Hc,v3,q3,e3⟩:=new1 (.dK []) u;rw [<-v3];refine ⟨w_0,λ b4 h4=>?_⟩;obtain ⟨Hd,v4,q4,d8⟩:=new1 (.tup []) h4;rw [<-v4];refine ⟨w_10,λ b6 X=>?_⟩;obtain ⟨W,v6,q6,e6⟩:=new1 (.lst [.non,.str "0",.str "",.bl true,.bl false,.ref b1,.ref b2,.ref b3,.ref b4,.str "a"]) X;rw [<-v6];have r4:=q4.trans q6;have r3:=q3.trans r4;have r2:=d4.trans r3;have f8 :∀v∈[V.non,.str "0",.str "",.bl true,.bl false,.ref b1,.ref b2,.ref b3,.ref b4,.str "a"],BadH W eT v:=λ v Z=>by
     have g :∀{T:String},TagOf W v T->T≠"int"->BadH W eT v:=λ h z=>⟨_,h,λ e=>absurd e z⟩
     simp only [P1,C0,or_false] at Z;rcases Z with rfl|rfl|rfl|rfl|rfl|rfl|rfl|rfl|rfl|rfl
     ·exact g (T:="NoneType") rfl (by decide)
     ·exact g (T:="str") rfl (by decide)
     ·exact g (T:="str") rfl (by decide)
     ·exact g (T:="bool") rfl (by decide)
     ·exact g (T:="bool") rfl (by decide)
     ·exact g (T:="tuple") (.inr (.inl ⟨⟨_,r2 _ _ e1⟩,rfl⟩)) (by decide)
     ·exact g (T:="list") (.inl ⟨⟨_,r3 _ _ d5⟩,rfl⟩) (by decide)
     ·exact g (T:="dict") (.inr (.inr ⟨⟨_,r4 _ _ e3⟩,rfl⟩)) (by decide)
     ·exact g (T:="tuple") (.inr (.inl ⟨⟨_,q6 _ _ d8⟩,rfl⟩)) (by decide)
     ·exact g (T:="str") rfl (by decide)
    have F:=s9.trans (q1.trans r2);clear v1 J v3 v4 v6 q1 d4 q3 q4 q6 r2 r3 r4 e1 d5 e3 d8;refine ⟨b6,rfl,⟨_,SqL.of e6⟩,?_⟩;refine z2j (K:=KX w.params) (a:=b6) (xs:=[V.non,.str "0",.str "",.bl true,.bl false,.ref b1,.ref b2,.ref b3,.ref b4,.str "a"]) (λ _ σ b=>Same W b/\∃x5,σ=[some (.ref C),some (.ref t),some (.int (m:Nat)),some (.ref d),some (.ref l7),x5,x6,x7]) ⟨Same.refl _,_,rfl⟩ (λ _ σ b _ h=>SqL.of (h.1 _ _ e6)) ?_ (λ σ b h=>g6 _ _ ⟨F.trans h.1,h.2⟩);rintro k v σ a2 Z ⟨G,x5,rfl⟩;refine g_name ?_;refine ⟨_,rfl,_,rfl,d,eT,v,rfl,.inr ⟨a3.same (F.trans G),(f8 v (S0 Z)).same G,λ l f2 a7 x=>⟨w_3,λ l9 M=>?_⟩⟩⟩;exact ne_bls (bs:=[true,true,false]) ((Same.upd M) _ _ x) z01 ⟨false,rfl,iteF ⟨G.trans (a7.trans (Same.upd M)),_,rfl⟩⟩
   rintro σ3 W ⟨s10,x5,rfl⟩;refine ⟨_,rfl,_,rfl,.inl (.inl ⟨C,_,rfl,a0.seq g3 |> s10.seq,λ e0 f6=>?_⟩)⟩;obtain ⟨ms,em⟩:=zj9 ns none (some 63);rw [em];obtain ⟨a2,g9,f4,c8⟩:=new1 (.lst (ms.map V.int)) f6;rw [<-g9];refine ⟨e0,rfl,⟨_,SqL.of c8⟩,?_⟩;have b8:=s10.trans f4;refine z2j (K:=KX w.params) (a:=e0) (xs:=ms.map V.int) (λ _ σ b=>Same a2 b/\∃x7,σ=[some (.ref C),some (.ref t),some (.int (m:Nat)),some (.ref d),some (.ref l7),x5,x6,x7]) ⟨Same.refl _,_,rfl⟩ (λ _ σ b _ h=>SqL.of (h.1 _ _ c8)) ?_ (λ σ b h=>⟨g4.trans (b8.trans h.1),_,_,_,_,_,h.2⟩);rintro k y σ f2 c9 ⟨a7,x7,rfl⟩;rw [X0] at c9;obtain ⟨cl,_,rfl⟩:=Option.map_eq_some_iff.mp c9;have a8:=b8.trans a7;have d9:(0:Int) < 10 ^ (30:Int).toNat:=by decide
   have c0:0<=cl % 10 ^ (30:Int).toNat:=R4 _ (by omega);refine g_name ?_;refine sq_if ?_;refine ⟨_,rfl,_,rfl,_,_,rfl,rfl,⟨by decide,by decide,by decide⟩,_,_,rfl,rfl,d9,.inl ⟨_,_,rfl,rfl,d,eT,_,rfl,.inr ⟨a3.same a8,(b7 (.inr (by omega))).same a8,λ l f0 f7 x=>⟨w_3,λ l9 M=>?_⟩⟩⟩⟩;refine ne_bls (bs:=[true,true,false]) ((Same.upd M) _ _ x) z01 ⟨false,rfl,iteF (tn_x (t_nx ?_))⟩;have a9:=f7.trans (Same.upd (o:=.lst [.bl true,.bl true,.bl false]) M);generalize upd f0 l9 (.lst [.bl true,.bl true,.bl false])=H14 at a9⊢;have d3:=a8.trans a9;refine ⟨_,rfl,2,rfl,_,rfl,_,_,rfl,rfl,⟨by decide,by decide,by decide⟩,_,_,rfl,rfl,d9,_,_,rfl,rfl,d,eT,_,rfl,.inr ⟨a3.same d3,(b7 (.inl (by omega))).same d3,λ l h9 f5 g1=>⟨w_3,λ i5 d0=>?_⟩⟩⟩;exact ne_bls (bs:=[true,true,false]) ((Same.upd d0) _ _ g1) z01 ⟨false,rfl,iteF ⟨a7.trans (a9.trans (f5.trans (Same.upd d0))),_,rfl⟩⟩
  rintro Y H2 ⟨s2,x2,x3,x4,x5,x6,x7,rfl⟩;refine ⟨w_0,λ c1 B=>?_⟩;obtain ⟨Ha,v1,q1,e1⟩:=new1 (.tup []) B;rw [<-v1];refine ⟨w_0,λ c2 L=>?_⟩;obtain ⟨Hb,J,q2,e2⟩:=new1 (.tup []) L;rw [<-J];refine ⟨w_2,λ c3 u=>?_⟩;obtain ⟨Hc,v3,q3,e3⟩:=new1 (.tup [.ref c1,.ref c2]) u;rw [<-v3];refine ⟨c3,[],.int 0,rfl,.inr ⟨⟨[],⟨c1,c2,[],e3,⟨[],(q2.trans q3) _ _ e1,.nil⟩,q3 _ _ e2,.nil⟩,by decide,trivial⟩,⟨"int",rfl,λ _=>⟨0,rfl,λ ⟨j,r,hj,_⟩=>by cases hj⟩⟩,λ l H4 s4 x=>?_⟩⟩;refine ⟨w_3,λ l9 M=>?_⟩;exact eq_bls ((Same.upd M) _ _ x) z01 (q _)
end
theorem all_law {P:Program} {w:W0} {mg:Str->Option Value} {base:Heap} (T:TX (kx w) mg):Fo P w mg base CX0 13 544 fd_law ["script"] (sp_law (kx w)):=by have m:=@cal_mk P w (kx w) mg base;have f:=@zkr P w (kx w) mg base;have b:=m T (z60 _) (zdl _) (zfa _) (zdh T );have D:=m T (z50 _) (zd9 _) (zde _) (zba T b);have n:=m T (z70 _) (zdt _) (zfp _) (zd2 T D);have O:=m T (z2o _) (z9s _) (z8x _) (z84 T );have h:=m T (z85 _) (zgx _) (zgu _) (zes T );have F:=m T (z8p _) (zge _) (zgo _) (zff T h n O);have p:=m T (z40 _) (z6b _) (zaz _) (zaj T );have G:=m T (z3d _) (z5m _) (z94 _) (z8b T );have S:=m T (z20 _) (z3o _) (z78 _) (z6s T );have a0:=m T (z4a _) (z6a _) (zaw _) (z9i T );have R:=m T (z3u _) (z67 _) (zay _) (z8y T );have H:=m T (z3v _) (z61 _) (zbc _) (z8u T );have W:=m T (z2a _) (z4j _) (z8o _) (z74 T );have j:=m T (z2f _) (z4m _) (z7v _) (z79 T );have Q:=m T (z3w _) (z6y _) (zaq _) (zaf T );have K:=m T (F_do _) (g_do _) (b_do _) (ok_do T F p G S R H W j Q a0);have A:=m T (z2x _) (z9o _) (z9f _) (z7w T h);have c:=m T (zfw _) (zkh _) (zl0 _) (zjs T );have s:=m T (z44 _) (zat _) (zbf _) (z9z T );have z:=m T (z15 _) (z55 _) (z58 _) (z4y T );have k:=m T (zbq _) (zjh _) (zk8 _) (zg9 T c z s);have u:=zb7 (P:=P) (w:=w) (base:=base) T;have x:=z35 (P:=P) (w:=w) (base:=base) T;have q:=m T (z87 _) (zhf _) (zhh _) (zf7 T K);have X:=m T (z21 _) (z7b _) (z77 _) (z66 T );have Y:=m T (z53 _) (zcx _) (zd8 _) (zbe T );have t:=m T (z3e _) (z9l _) (z8v _) (z8f T A);have d:=zjl (P:=P) (w:=w) (base:=base) T k c t X u;have e:=z4k (P:=P) (w:=w) (base:=base) T x q;have r:=m T (z0y _) (z4f _) (z4s _) (z7a T );have a:=m T (z51 _) (zdf _) (zda _) (zbn T );have V:=m T (z43 _) (zan _) (zbb _) (za3 T a);have o:=m T (z5e _) (zd7 _) (zcw _) (zao T a V);have C:=m T (z7y _) (zgj _) (zgn _) (zeu T );have B:=m T (z42 _) (zbr _) (zau _) (zac T );have i:=m T (z2b _) (z83 _) (z81 _) (z73 T C);have I:=m T (z2u _) (z9y _) (z99 _) (z8j T a);have J:=m T (z5f _) (zdb _) (zd1 _) (zbi T r a I B i o);have v:=z6v (P:=P) (w:=w) (base:=base) T Y;have Z:=m T (z3t _) (zap _) (zb3 _) (z8z T e);have N:=m T (z41 _) (zam _) (zbj _) (zai T d Z);have g:=m T (z11 _) (z4q _) (z4p _) (z47 T d N e v);have L:=m T (z23 _) (z7t _) (z7n _) (zb0 T b c);have l:=f T (z23 _) (z7t _) (z7n _) (z92 T b c);have M:=m T (z1f _) (z6c _) (z6h _) (z9r T L g b);have E:=f T (z1f _) (z6c _) (z6h _) (z7x T l g);have U:=m T (z3y _) (zas _) (zbp _) (z93 T );have y:=m T (z37 _) (za2 _) (z9t _) (z80 T M E);have a1:=m T (z0y _) (z4f _) (z4s _) (z6l T );exact ok_law T J a1 U y
end K72
open PySem PySem.W PyProof.Rows
set_option maxRecDepth 100000 in
set_option maxHeartbeats 0 in
theorem PySem.Challenge.cw_talejudge_k72_hands_without_open_deeds_holds : PySem.Challenge.rw_talejudge_k72_hands_without_open_deeds.Holds := by
 w_on;o_law
 refine holds_open (q:=K72.viewX) (loose:=K72.looseX) (Xt:=K72.XtX) (XP:=XL K72.viewX []) (Yf:=Hook.obs K72.HX) (Ya:=Hook.val K72.HX) (YP:=Hook.says K72.HX) (N:=200000) K72.leftX (Hook.of K72.HX) (Hook.keeps K72.HX) (λ s e=>xl_of s (Bool.and_eq_true_iff.mp e).1) XL.keeps (by rfl) (by rfl) (by rfl) (λ s e=>recFacts_of (Bool.and_eq_true_iff.mp e).2) (by rfl) (by assumption) (by decide +kernel) ⟨rfl,rfl,rfl,rfl,rfl,by decide +kernel⟩ ?hw ?hc
 case hw=>w_witness2
 case hc=>
  refine L2.walk_of (l:=PySem.Challenge.rw_talejudge_k72_hands_without_open_deeds) (n:=63) (k:=13) (x:="script") (K:=K72.KX) (CX:=λ _=>L2.CX0) (sp:=λ w=>K72.sp_law (K72.KX w.params)) rfl (by decide) rfl ⟨rfl,by decide,by decide,rfl⟩ (λ w h Y=>PySem.W.kIn_of Y) ?F ?S ?C
  case F=>intro w m j h KX G f;have T:=L2.TX.mk' KX G;have c:=f.symm.trans (T.of (K72.g_law _));cases c;exact ⟨K72.fd_law,λ s u=>.of_eq rfl,λ p r i=>K72.all_law T⟩
  case S=>exact λ w H a b g o d=>⟨a,b,rfl,d,g,λ _=>rfl⟩
  case C=>exact λ _ _ _ _ _ z=>z
